import PyProof.Rows.All
import Wide.All
import OpenK.AllK
import Wide.FinOn
import Lean
import PyProof.EqAt
import PyProof.EqKinds
import PyProof.TupleCall
import KE.KDictList
import KE.KDictOf
import PyProof.AttrMissHeap
import OpenK.KOwn
import PyProof.NsDelKeeps
import KE.KIsAll
import PyProof.ExcArgsOwn
import PyProof.ExcAttrAll.ValueError
import PyProof.ExcClass3
import PyProof.ExcInit
import PyProof.Rows.MatchSeqLen
import KE.KIntText
import PyProof.NeData
import PySem.Challenge.RW_canonwright_k64_texts_of_no_house
local macro_rules|`(nofun)=>`(100000000000000000000000000000000000000000000000000000000000000000000000000000000)
open PySem renaming Str->aA,wpAny_bind->FA,Value->cA,mainGlobals->oB,Shared->xA,Addr->eA,wpAny_pure->LB,wpAny->AA,Expr->sA,starEach->UB,wpAny_mono->AE,Stmt->VA,foldedSetIterable->OJ,Program->HD,wpAny_field->SG,wpAny_loadPart_at->QL,compareOp->DF,wpAny_truthy_bool->qN,assignEach->vH,World->DC,behindInMarks->EK,Heap->DB,binaryOp->gG,wpAny_holding->WL,wpAny_standAt->YL,backTo->sE,wpAny_newObj_type->uR,codeAny_call_builtin->kU,mem_of_lookup->lU,wpAny_isSubtype_exc->mU,FuncData->wH,sizeLine_eq->dM,bootBuiltins->uN,wpAny_Call_Name_kw->pU,wpAny_setField_rec->qU,Around->tF,wpAny_pyIter_list->sU,codeAny_mono->qP,Env->IK,NameKind->JJ,ExceptHandler->xR,wpAny_passesOwn->xU,wpAny_callSpecial?_slot->r9,Obj->wB,intText?->CU,PassesOwn->xN,Scope->EF,wpAny_execs_nil->lZ,typeIs_str->DR,Operator->yN,codeAny->fM,wpAny_pyIter_enum->R9,IsEnum->KJ,Pos->XB,wpAny_execs_cons->T9,noFill_tuple_add->U9,wpAny_call_entry->V9,wpAny_call->LU,concat_meets->sZ,IsPart->LK,call_meets->NU,CmpOp->eI,wpAny_setField->ua,Keyword->tP,JoinOk->uP,seq_tuple_add->Ea,wpAny_attempt->Ja,wpAny_assign_Name->Dp,seqIndex_neg->Ma,slot_list_getitem->Ep,ExcBaseFacts->Na,wpAny_Call_ofName->Gp,seqIndex_of->Ua,OwnTail->QU,wpAny_Name->Ya,call->Za,BindsTo->xZ,MulOk->yZ,Tok->iG
open PySem.Str renaming ofString->pA,join->xH,ofString_eq_toList->XY
open PySem.W renaming Frag->fA,nsIn->JB,findIn->mG,keepIn->nG,mroIn->XG,fnOf->uH,hideAll_none->ZO,hasDictIn->eP,kia_one->sN,mg_of->ZL,codeIn->mP,of_hideAll->oU,hideAll->wR,kin_not->pP,kitAny->DU,hideAll_get->A9,isIn->IU,callWith_K->G9,isNs_of_in->L9,methodObj->O9,specialIn->S9,OpenLaw->KU,isFn->qZ,cellsFrom_some->So,looks_findIn->tZ,takesIn->ia,looks_mroIn->vZ,typeIn->ya,excIn->Ha,clsIn->Ia,tail_of_in->xp,plainGet->Rp,WalkO->Xa,Looks->ER
open Bool renaming and_eq_true->qA,false_eq_true->zD,and_true->IF,or_eq_true->BH,true_and->YG,false_ne_true->OK,false_and->iI,not_eq_true'->QK,and_false->HJ,not_eq_true->uU,eq_iff_iff->AU,or_eq_false_iff->y9,or_false->Ga,or_true->Oa,and_assoc->iq,not_false->lq
open List renaming length_map->JA,getElem?_eq_getElem->kC,getElem?_eq_some_iff->MD,length_cons->IC,all_cons->TB,replicate->wC,getElem?_set_ne->jE,length_append->lE,getElem?_cons_zero->FF,size_toArray->VD,map_cons->eD,mem_map->OC,mem_singleton->ME,range->jC,mem_cons->AD,mem_cons_of_mem->jG,length_set->SE,mem_cons_self->kG,mem_append_right->yH,getElem?_set_self->gI,all_eq_true->HF,getElem?_cons_succ->QI,length_take->lG,getD_eq_getElem?_getD->gM,length_drop->WG,mem_append->CG,mem_of_mem_take->MJ,set_cons_zero->RI,set_cons_succ->SI,getElem?_append_left->zN,mem_of_mem_drop->MK,map_map->oG,take_of_length_le->CN,lookup_cons->PJ,mem_append_left->oN,mem_of_getElem?->pN,getElem_mem->CK,drop_eq_getElem_cons->rR,getElem?_map->PL,getElem?_eq_none->XO,append_nil->DK,map_drop->IJ,getElem?_append_right->fU,map_eq_nil_iff->bP,map_congr_left->cP,nil_append->UL,length_filter_le->sR,filter_append->dP,any_cons->FK,length_nil->rN,all_nil->HK,drop_of_length_le->gU,cons_append->gP,mem_range->tN,take_append_drop->jU,mem_filter->iP,map_append->jP,all_map->bM,length_eq_zero_iff->VY,getLast?_eq_some_getLast->j9,map_nil->vN,filter_eq_nil_iff->YY,mem_of_mem_tail->aZ,isEmpty_iff->vU,length_pos_iff->cZ,filter_eq_self->dZ,map_take->yR,find?_cons->yU,contains_cons->eZ,pairwise_cons->gZ,getElem?_replicate->o9,lookup->sP,append_cancel_left->u9,filter_cons->jZ,take_nil->FU,length->AR,map_id->BR,range_eq_range'->z9,nodup_cons->mZ,of_mem_zip->nZ,filterMap_cons->B9,take_succ_cons->C9,drop_succ_cons->D9,forall_mem_nil->E9,mem_filterMap->F9,filterMap_map->J9,take_zero->oZ,getLastD_eq_getLast?->Oo,sum_cons->pZ,drop_length->X9,take_length->Z9,length_tail->aa,range_succ->ja,foldl_cons->oa,drop_zero->za,getElem?_drop->Cp,append_assoc->Ip,take_add_one->Mp,length_range->Np,filter_congr->Qp,map_set->Sa,any_eq_true->Vp,range'_succ->Yp,range'->Wa,length_zip->Zp,forIn_cons->aq,all_append->cq,take_succ->fq,foldl_nil->jq,sum_nil->pq
open PySem.Txt renaming split->UA,join->YB,slice->mD,mul->DG,startswith->lP
open Option.some renaming injEq->RB,inj->uF
open PySem.Heap renaming get?_push_of_some->lD,lt_size->xC,get?_push_size->zH,get?_update_other->VO,get?_none_of_le->aP,SameBut->GK,get?_update_self->iU,MadeExcOf->xa,get?_update_ne->bp,get?_push_at->Fp,size_push->dq
open LawfulBEq renaming eq_of_beq->jB
open Nat renaming le_refl->HB,lt_of_lt_of_le->kE,le_trans->uE,ne_of_lt->zE,pow_le_pow_right->LJ,lt_succ_self->fP,zero_le->cM,lt_trans->wN,lt_irrefl->nP,div_eq_of_lt->wU,not_lt_zero->zU,min_eq_left->BU,min_eq_right->kZ,ne_of_gt->HU,le_succ->JU,le_of_not_lt->W9,two_pow_pos->qa,log2_lt->wZ,le_of_lt->Ka,pow_succ->Qa,sub_self->Ra,succ_ne_self->Up,mul_assoc->oq
open PySem.PyData renaming strOk->nC,canLay0->VL,depth->aM,eqv->eM,eqvAll->EU,canLayAll0->Q9,depthAll->da
open Array renaming length_toList->jF,all_eq_true'->UG,getElem?_eq_some_iff->qR,toList_inj->vR,toList_append->bZ,getElem?_setIfInBounds_ne->Jo,getElem?_toList->x9,toList->GU,all_eq_true->Jp
open Option renaming map_some->WD,bind_some->GF,map_eq_some_iff->BN,bind_eq_some_iff->yP,getD_none->Tp
open Prod.mk renaming injEq->ND
open Int renaming toNat_natCast->BG,lt_of_le_of_lt->tR,fdiv_eq_ediv_of_nonneg->Lo,toNat_of_nonneg->ip,emod_lt_of_pos->yp,natAbs_natCast->Bp,emod_eq_of_lt->Lp,natCast_ediv->Xp,pow_pos->Va,emod_nonneg->bq
open PySem.Builtin renaming bitOr->AH,bitAnd->iZ
open PySem.NumText renaming digitsVal->NJ,AllDigits->Pp
open PySem.Builtin.Str renaming occurrences->AN,strSliceIndices->FR,partsBetween->Po,strKind->gp
open PySem.F renaming excBase_ValueError->vP,slot_str_split->nU,plainAttrs_str->WY,slot_enumerate_next->ZY,args_tuple_add_2->m9,entry_tuple_add->p9,slot_tuple_add->v9,args_str_split_2->M9,called_enumerate->N9,entry_str_split->P9,args_enumerate_next_1->Qo,plainAttrs_list->Ro,entry_enumerate_next->Uo,type_str_split->Vo,slot_list_append->Xo,slot_list_extend->Yo
open PySem.Builtin.Int renaming intBits->xP
open False renaming elim->fG
open PySem.StrLaws renaming glued_eq_join->YO,join_split->zp,split_free->Ap
open Ne renaming symm->gE
open PyProof.Rows renaming slot_tuple_getitem->QY,callWith_type1->RY,AllBare->JK,subscriptTail_builtinR->To,split_pos->Wo,IntsAre->PU
open PySem.Builtin.Slice renaming slicePlaces->SY,sliceAdjust->k9,sliceApplied->Mo
open List.cons renaming injEq->kP
open PySem.Builtin.Tuple renaming tupleExact->TY,tupleHashOf->l9
open PySem.AutoSeq1 renaming wpAny_loadPart'->UY
open PySem.Obj renaming mapFields->oP,isFreed_of_fields->w9,data_mapFields->K9,mapSeq->MU
open Function renaming comp_def->tU
open PySem.Builtin.SmallTypes renaming ownedTupleHandOut->Ho,ownedTupleIsFree->Io,fitsIndex->Ko
open PySem.Builtin.List renaming listTooLong->n9
open PySem.Code renaming quiet_builtin->fZ,isGuard->rZ,isFrame->La,guards->Ta
open PySem.Around renaming under->zR,deeper->Ba
open PySem.Env renaming kindOf->Y9
open Sum.inr renaming inj->uZ
open PySem.EntryCells renaming newEntry->Zo
open PySem.Paired renaming length->Aa
open PySem.SeqAt.EqAt renaming int_str->lp,str_int->qp
open Nat.succ renaming inj->Pa
open PySem.PassesOwn renaming looking->Kp
open Eq renaming trans->OU
open PySem.Value renaming isStrOf->mq,isInt->rq
open PySem.Value.ref renaming inj->nq
open PyProof.Rows.IsTup renaming new->ib
open PySem.Heap.IsSliceOf renaming new->cZa
open PySem.W.WShape renaming has->sq
set_option Elab.async false
set_option linter.all false
set_option maxRecDepth 100000
theorem zB:type_of% @decide_eq_false:=@decide_eq_false
theorem IB:type_of% @decide_eq_true:=@decide_eq_true
theorem uA.{u}:type_of% @if_pos.{u}:=@if_pos.{u}
theorem OE:type_of% @decide_eq_true_eq:=@decide_eq_true_eq
theorem QE.{u}:type_of% @beq_self_eq_true.{u}:=@beq_self_eq_true.{u}
theorem qB.{u}:type_of% @if_neg.{u}:=@if_neg.{u}
theorem OD.{u}:type_of% @beq_iff_eq.{u}:=@beq_iff_eq.{u}
theorem NK.{u}:type_of% @beq_eq_false_iff_ne.{u}:=@beq_eq_false_iff_ne.{u}
theorem zP:type_of% @decide_eq_false_iff_not:=@decide_eq_false_iff_not
theorem RL:type_of% @of_decide_eq_true:=@of_decide_eq_true
theorem yE.{u}:type_of% @if_false.{u}:=@if_false.{u}
theorem iE.{u}:type_of% @if_true.{u}:=@if_true.{u}
local macro_rules|`(tactic|left)=>`(tactic|decide +kernel)
set_option compiler.extract_closed false
set_option genSizeOf false
set_option bootstrap.genMatcherCode false
noncomputable section
namespace L2
open PySem PySem.Spec PyProof.Rows
abbrev Key:=Sum Int aA
noncomputable def GQ:Key->cA->Bool
 |.inl k,v=>rq k v
 |.inr x,v=>mq x v
noncomputable def yFa(w:DC):Key->Int
 |.inl k=>hashInt k
 |.inr x=>hashStr w x
theorem DL:∀{k:Key} {v:cA},GQ k v=true->(∃i t,k=Sum.inl i/\v=Value.int i t)\/(∃x t,k=Sum.inr x/\v=Value.str x t)
 |.inl i,v,h=>by
  obtain⟨t,e⟩:=Value.isInt_shape (k:=i) h;exact .inl ⟨i,t,rfl,e⟩
 |.inr x,v,h=>by(obtain⟨t,e⟩:=Value.isStrOf_shape h;exact .inr ⟨x,t,rfl,e⟩)
def zFa(i:Int)(t:iG):GQ (.inl i) (.int i t)=true:=by simp[GQ,rq]
def aGa(x:aA)(t:iG):GQ (.inr x) (.str x t)=true:=by simp[GQ,mq]
def dGa(a b:Int):decide ((Sum.inl a:Key)=Sum.inl b)=(a==b):=by
 by_cases e:a=b
 ·subst e;simp
 ·have h:¬(Sum.inl a:Key)=Sum.inl b:=λq=>e (Sum.inl.inj q)
  rw[zB h];exact(NK.mpr e).symm
def gGa(a b:aA):decide ((Sum.inr a:Key)=Sum.inr b)=decide (a=b):=by
 by_cases e:a=b
 ·subst e;simp
 ·have h:¬(Sum.inr a:Key)=Sum.inr b:=λq=>e (uZ q)
  rw[zB h,zB e]
def eGa(a:Int)(b:aA):decide ((Sum.inl a:Key)=Sum.inr b)=false:=zB (λq=>nomatch q)
def fGa(a:aA)(b:Int):decide ((Sum.inr a:Key)=Sum.inl b)=false:=zB (λq=>nomatch q)
noncomputable def tK(prog:HD)(w:DC):PySem.KeyKind prog w Key where
 is:=GQ
 hash:=yFa w
 inj:=λv a b ha hb=>by
  rcases DL ha with ⟨i,t,rfl,rfl⟩ | ⟨x,t,rfl,rfl⟩
  ·rcases DL hb with ⟨j,u,rfl,e⟩ | ⟨y,u,rfl,e⟩
   ·injection e with e1 _;rw[e1]
   ·exact nomatch e
  ·rcases DL hb with ⟨j,u,rfl,e⟩ | ⟨y,u,rfl,e⟩
   ·exact nomatch e
   ·injection e with e1 _;rw[e1]
 byValue:=λk v h=>by
  rcases DL h with ⟨i,t,rfl,rfl⟩ | ⟨x,t,rfl,rfl⟩<;>rfl
 pyHash:=λhv h=>by
  rcases DL hv with ⟨i,t,rfl,rfl⟩ | ⟨x,t,rfl,rfl⟩
  ·exact wpAny_pyHash_int h
  ·exact wpAny_pyHash_str h
 eqBool:=λhu hv h=>by
  rcases DL hu with ⟨i,t,rfl,rfl⟩ | ⟨x,t,rfl,rfl⟩
  ·rcases DL hv with ⟨j,u,rfl,rfl⟩ | ⟨y,u,rfl,rfl⟩
   ·rw[dGa] at h;exact wpAny_eqBool_int h
   ·rw[eGa] at h;exact lp i t y u _ _ _ _ h
  ·rcases DL hv with ⟨j,u,rfl,rfl⟩ | ⟨y,u,rfl,rfl⟩
   ·rw[fGa] at h;exact qp x t j u _ _ _ _ h
   ·rw[gGa] at h;exact wpAny_eqBool_str h
 «strs»:=λk x t v h=>by
  rcases DL h with ⟨i,u,rfl,e⟩ | ⟨y,u,rfl,e⟩
  ·exact nomatch e
  ·injection e with e1 _
   subst e1;cases v<;>rfl
def zHa(prog:HD)(w:DC)(i:Int)(t:iG):(tK prog w).is (.inl i) (.int i t)=true:=zFa i t
def aIa(prog:HD)(w:DC)(x:aA)(t:iG):(tK prog w).is (.inr x) (.str x t)=true:=aGa x t
inductive V where
 |oA
 |bl (b:Bool)
 |int (i:Int)
 |str (x:aA)
 |ref (a:eA)
 |ty (n:String)
instance (x:V):Decidable (x=.oA):=by cases x<;>first | exact isTrue rfl | exact isFalse (λh=>nomatch h)
def aAe:V->cA->Prop
 |.oA,u=>u=Value.none
 |.bl b,u=>u=Value.bool b
 |.int i,u=>∃t,u=Value.int i t
 |.str x,u=>∃t,u=Value.str x t
 |.ref a,u=>u=Value.ref a
 |.ty n,u=>u=Value.type n
abbrev aAf:List V->List cA->Prop:=Paired aAe
theorem aAf.length(r:aAf xs us):xs.length=us.length:=Aa r
theorem aAf.get:∀{xs:List V} {us:List cA} {i:Nat} {x:V},aAf xs us->xs[i]?=some x->∃u,us[i]?=some u/\aAe x u
 |_,_,_,_,.nil,e=>by simp at e
 |_,_,0,_,.cons r _,e=>by simp at e;subst e;exact⟨_,rfl,r⟩
 |_,_,i+1,x,.cons _ t,e=>by(obtain⟨u,h1,h2⟩:=aAf.get t (by simpa using e);exact⟨u,by simpa using h1,h2⟩)
theorem aAf.set(r:aAe x u):∀{xs:List V} {us:List cA} (i:Nat),aAf xs us->aAf (xs.set i x) (us.set i u)
 |_,_,_,.nil=>.nil
 |_,_,0,.cons _ t=>.cons r t
 |_,_,i+1,.cons q t=>.cons q (aAf.set r i t)
theorem aAf.append:∀{xs ys:List V} {us ws:List cA},aAf xs us->aAf ys ws->aAf (xs++ys) (us++ws)
 |_,_,_,_,.nil,s=>s
 |_,_,_,_,.cons r t,s=>.cons r (aAf.append t s)
theorem aAf.take:∀{xs:List V} {us:List cA} (n:Nat),aAf xs us->aAf (xs.take n) (us.take n)
 |_,_,0,_=>.nil
 |_,_,_+1,.nil=>.nil
 |_,_,n+1,.cons r t=>.cons r (aAf.take n t)
theorem aAf.drop:∀{xs:List V} {us:List cA} (n:Nat),aAf xs us->aAf (xs.drop n) (us.drop n)
 |_,_,0,r=>r
 |_,_,_+1,.nil=>.nil
 |_,_,n+1,.cons _ t=>aAf.drop n t
def VJ:Option V->Option cA->Prop
 |some v,some u=>aAe v u
 |none,none=>True
 |_,_=>False
def KV:List (J×V)->List (J×cA)->Prop:=Paired λ(p:J×V) (q:J×cA)=>p.1=q.1/\aAe p.2 q.2
noncomputable def kV:Key->V
 |.inl i=>.int i
 |.inr x=>.str x
inductive HO where
 |l (xs:List V)
 |t (xs:List V)
 |dK (KA:List (Key×V))
 |set (S:Int->Bool) (n:Nat)
 |ins (C dx:eA) (fs:List (aA×V))
 |own (x:eA)
 |xd (fs:List (aA×V))
 |met (f x:eA)
 |yD (lo hi:Int)
 |zF (o:wB) (u:HO)
 |gN (ps:Array cA)
 |ext (φ:DB->Prop)
abbrev Hp:=eA->Option HO
noncomputable def vA(H:Hp)(a:eA)(o:HO):Hp:=λb=>if b=a then some o else H b
def fC:vA H a o a=some o:=by unfold vA;rw[uA rfl]
def iB(h:b≠a):vA H a o b=H b:=by unfold vA;rw[qB h]
def xn:vA (vA H a o) a u=vA H a u:=by
 funext b;unfold vA;split<;>rfl
def dF{H:Hp}(h:H a=some o)(h':H b=none):a≠b:=by
 intro e;subst e;rw[h] at h';cases h'
section
variable(P:HD)(w:DC)
def XD(H:Hp)(h:DB)(a:eA):HO->Prop
 |.l xs=>xs.length<=sizeLine/\∃(gA:List cA) (n:Nat),aAf xs gA/\h.get? a=some { cls:=.type "list",data:=.seq gA.toArray n }
 |.t xs=>xs.length<=sizeLine/\∃gA:List cA,aAf xs gA/\IsTup h a gA.toArray
 |.dK KA=>KA.length<=sizeLine/\(a==sysModules)=false/\∃vs,KV KA vs/\h.DictOf (tK P w) a vs
 |.set S n=>h.SetOf (intKind P w) a S n
 |.ins C dx fs=>H dx=some (.own a)/\fs.length<=1000/\dx≠a/\h.get? a=some (PySem.W.instObj C dx) /\
   ∃mA,h.Ns1 dx mA/\(∀f,VJ (fs.lookup f) (mA f))/\PySem.Within mA (fs.map (·.1))
 |.own _=>∃o,h.get? a=some o
 |.xd fs=>∃mA,h.Ns1 a mA/\∀f,VJ (fs.lookup f) (mA f)
 |.yD lo hi=>∃t u v,h.get? a=some { cls:=.type "range",data:=.fields #[.int lo t,.int hi u,.int 1 v] }
 |.zF o u=>h.get? a=some o/\XD H h a u
 |.gN ps=>h.get? a=some { cls:=.none,data:=.fields ps }
 |.met f x=>h.get? a=some (O9 (.ref f) (.ref x))
 |.ext φ=>φ h/\(∃o,h.get? a=some o)/\∀h1 h2:DB,φ h1->(∀o,h1.get? a=some o->h2.get? a=some o)->φ h2
def sD(H:Hp)(h:DB):Prop:=∀a o,H a=some o->XD P w H h a o
end
section
variable{o:HO}
theorem XD.lt(x:XD P w H h a o):a<h.objs.size:=by
 cases o with
 |l xs=>obtain⟨_,_,_,_,e⟩:=x;exact xC e
 |t xs=>obtain⟨_,_,_,p⟩:=x;exact p.lt
 |dK KA=>obtain⟨_,_,_,_,o,_,_,e,_⟩:=x;exact xC e
 |set S n=>obtain⟨o,_,_,_,e,_⟩:=x;exact xC e
 |ins C dx fs=>obtain⟨_,_,_,e,_⟩:=x;exact xC e
 |own y=>obtain⟨_,e⟩:=x;exact xC e
 |xd fs=>obtain⟨_,⟨_,_,_,e,_⟩,_⟩:=x;exact xC e
 |yD lo hi=>obtain⟨_,_,_,e⟩:=x;exact xC e
 |zF ob u=>obtain⟨e,_⟩:=x;exact xC e
 |gN ps=>exact xC (show h.get? a=some _ from x)
 |met f y=>exact xC (show h.get? a=some _ from x)
 |ext φ=>obtain⟨_,⟨_,e⟩,_⟩:=x;exact xC e
def XD.AJ(x:XD P w H h a o)(k:∀b u,(b=a\/H b=some (.own a))->h.get? b=some u->h'.get? b=some u)
  (ho:∀b,H b=some (.own a)->H' b=some (.own a)) (ht:∀b xs,H b=some (.t xs)->H' b=some (.t xs)):XD P w H' h' a o:=by
 induction o with
 |l xs=>obtain⟨z,gA,n,r,e⟩:=x;exact⟨z,gA,n,r,k _ _ (.inl rfl) e⟩
 |t xs=>obtain⟨z,gA,r,ob,e,c⟩:=x;exact⟨z,gA,r,ob,k _ _ (.inl rfl) e,c⟩
 |dK KA=>obtain⟨z,y,vs,r,ob,es,ep,e,c⟩:=x;exact⟨z,y,vs,r,ob,es,ep,k _ _ (.inl rfl) e,c⟩
 |set S n=>obtain⟨ob,es,ep,t,e,c⟩:=x;exact⟨ob,es,ep,t,k _ _ (.inl rfl) e,c⟩
 |ins C dx fs =>
  obtain⟨d,z,ne,e,mA,⟨od,es,ep,e2,c⟩,r⟩:=x;exact⟨ho _ d,z,ne,k _ _ (.inl rfl) e,mA,⟨od,es,ep,k _ _ (.inr d) e2,c⟩,r⟩
 |own y=>obtain⟨ob,e⟩:=x;exact⟨ob,k _ _ (.inl rfl) e⟩
 |xd fs=>obtain⟨mA,⟨od,es,ep,e,c⟩,r⟩:=x;exact⟨mA,⟨od,es,ep,k _ _ (.inl rfl) e,c⟩,r⟩
 |yD lo hi=>obtain⟨t,u,v,e⟩:=x;exact⟨t,u,v,k _ _ (.inl rfl) e⟩
 |zF ob u ih=>obtain⟨e,q⟩:=x;exact⟨k _ _ (.inl rfl) e,ih q⟩
 |gN ps =>
  have e:h.get? a=some { cls:=.none,data:=.fields ps }:=x;show h'.get? a=some { cls:=.none,data:=.fields ps };exact k a _ (.inl rfl) e
 |met f y =>
  have e:h.get? a=some (O9 (.ref f) (.ref y)):=x;show h'.get? a=some (O9 (.ref f) (.ref y));exact k a _ (.inl rfl) e
 |ext φ=>obtain⟨p,⟨o,e⟩,st⟩:=x;exact⟨st _ _ p λo q=>k _ _ (.inl rfl) q,⟨o,k _ _ (.inl rfl) e⟩,st⟩
theorem sD.lt(x:sD P w H h)(e:H a=some o):a<h.objs.size:=(x a o e).lt
def sD.fresh(x:sD P w H h)(e:h.objs.size<=a):H a=none:=by
 cases q:H a with
 |none=>rfl
 |some u=>exact absurd (kE (x.lt q) e) (nP _)
def sD.kept(x:sD P w H h)(k:∀b u,h.get? b=some u->h'.get? b=some u):sD P w H h':=λa o e =>
 (x a o e).AJ (λb u _ q=>k b u q) (λ_ q=>q) λ_ _ q=>q
def sD.laid(x:sD P w H h)(k:∀b u,h.get? b=some u->h'.get? b=some u)(hp:h.objs.size<=a)(new:XD P w (vA H a o) h' a o):sD P w (vA H a o) h':=λb u e=>by
 have hn:=x.fresh hp;by_cases hb:b=a
 ·subst hb;rw[fC] at e;cases e;exact new
 ·rw[iB hb] at e;exact(x b u e).AJ (λc v _ q=>k c v q) (λc q=>by rw[iB (dF q hn)];exact q) λc xs q=>by rw[iB (dF q hn)];exact q
end
def Rd(H:Hp)(a:eA)(u:HO):Prop:=H a=some u\/∃o,H a=some (.zF o u)
def Rd.ok(r:Rd H a u)(x:sD P w H h):XD P w H h a u:=by
 rcases r with r | ⟨o,r⟩
 ·exact x a u r
 ·obtain⟨_,q⟩:=x a _ r;exact q
def OR:Option HO->Prop
 |some (.l _)=>True
 |some (.dK _)=>True
 |some (.set _ _)=>True
 |some (.ins _ _ _)=>True
 |some (.ext _)=>True
 |_=>False
section
variable{P:HD}{w:DC}{H:Hp}{h h':DB}{x e:eA}{o':HO}
def sD.write(ok:sD P w H h)(mu:OR (H x))(he:e=x\/H e=some (.own x))(k:∀b u,b≠e->h.get? b=some u->h'.get? b=some u)(lQ:∃u,h'.get? e=some u)
  (new:XD P w (vA H x o') h' x o'):sD P w (vA H x o') h':=λb u q=>by
 have D7:∀c y,H c=some (.own y)->c≠x:=λc y r z=>by subst z;rw[r] at mu;exact mu
 have uJa:∀c xs,H c=some (.t xs)->c≠x:=λc xs r z=>by subst z;rw[r] at mu;exact mu
 by_cases hb:b=x
 ·subst hb;rw[fC] at q;cases q;exact new
 ·rw[iB hb] at q;by_cases rL:b=e
  ·have q':H b=some (.own x):=by
    rcases he with z | z
    ·exact absurd (rL.trans z) hb
    ·rw[rL];exact z
   rw[q] at q';cases q';obtain⟨v,hv⟩:=lQ;exact⟨v,by rw[rL];exact hv⟩
  ·refine(ok b u q).AJ (λc v hc r=>k c v ?_ r) (λc r=>by rw[iB (D7 c b r)];exact r) λc xs r=>by rw[iB (uJa c xs r)];exact r
   rcases hc with rfl | hc
   ·exact rL
   ·rintro rfl
    rcases he with z | z
    ·exact D7 c b hc z
    ·rw[hc] at z;cases z;exact hb rfl
end
structure Un(fs ex:List eA)(H H':Hp)(h h':DB):Prop where
 keep:∀b o,h.get? b=some o->H b=none->b ∉ fs->b ∉ ex->h'.get? b=some o
 slot:∀b o,h.get? b=some o->H b=none->b∈fs->b ∉ ex->∃sl,h'.get? b=some { o with slots:=sl }
 free:∀b o,h.get? b=some o->H b=none->b ∉ ex->H' b=none
 there:∀b o,h.get? b=some o->b ∉ ex->∃o',h'.get? b=some o'
 FJ:∀b xs,H b=some (.t xs)->H' b=some (.t xs)
 sI:∀b o u,H b=some (.zF o u)->H' b=some (.zF o u)
 DJ:∀b ps,H b=some (.gN ps)->∃more,H' b=some (.gN (ps++more))
section
variable{o:HO}
def Un.any(u:Un fs ex H H1 h h1)(q:h.get? b=some ob)(n:H b=none)(hx:b ∉ ex):∃sl,h1.get? b=some { ob with slots:=sl }:=by
 by_cases hb:b∈fs
 ·exact u.slot b ob q n hb hx
 ·exact⟨ob.slots,u.keep b ob q n hb hx⟩
def Un.kept(k:∀b u,h.get? b=some u->h'.get? b=some u):Un fs ex H H h h' :=
 ⟨λb ob q _ _ _=>k b ob q,λb ob q _ _ _=>⟨ob.slots,k b ob q⟩,λ_ _ _ n _=>n,λb ob q _=>⟨ob,k b ob q⟩,λ_ _ q=>q,λ_ _ _ q=>q,λ_ ps q=>⟨#[],by rw[q];simp⟩⟩
def Un.refl:Un fs ex H H h h:=Un.kept λ_ _ q=>q
def Un.laid(k:∀b u,h.get? b=some u->h'.get? b=some u)(hp:h.objs.size<=a)(hn:H a=none):Un fs ex H (vA H a o) h h' where
 keep:=λb u q _ _ _=>k b u q
 slot:=λb u q _ _ _=>⟨u.slots,k b u q⟩
 free:=λb u q n _=>by rw[iB (zE (kE (xC q) hp))];exact n
 there:=λb u q _=>⟨u,k b u q⟩
 FJ:=λb xs q=>by rw[iB (dF q hn)];exact q
 sI:=λb u xs q=>by rw[iB (dF q hn)];exact q
 DJ:=λb ps q=>⟨#[],by rw[iB (dF q hn),q];simp⟩
def Un.write(mu:OR (H x))(he:e=x\/H e=some (.own x))(k:∀b u,b≠e->h.get? b=some u->h'.get? b=some u)(lQ:∃u,h'.get? e=some u):Un fs ex H (vA H x o) h h':=by
 have hx:∀b,H b=none->b≠x:=λb n z=>by subst z;rw[n] at mu;exact mu
 have hb:∀b,H b=none->b≠e:=λb n z=>by
  subst z;rcases he with r | r
  ·exact hx b n r
  ·rw[n] at r;cases r
 have hm:∀b u,H b=some u->¬OR (some u)->b≠x:=λb u q nm z=>by subst z;rw[q] at mu;exact nm mu
 refine⟨λb u q n _ _=>k b u (hb b n) q,λb u q n _ _=>⟨u.slots,k b u (hb b n) q⟩,λb u q n _=>by rw[iB (hx b n)];exact n,λb u q _=>?_,
  λb xs q=>by rw[iB (hm b _ q λz=>z)];exact q,λb u xs q=>by rw[iB (hm b _ q λz=>z)];exact q,λb ps q=>⟨#[],by rw[iB (hm b _ q λz=>z),q];simp⟩⟩
 by_cases rL:b=e
 ·subst rL;exact lQ
 ·exact⟨u,k b u rL q⟩
end
noncomputable def LY(h:DB)(H:Hp):List eA:=(jC h.objs.size).filter λa=>(H a).isSome
noncomputable def uL(h:DB)(H:Hp):DB:=wR h (LY h H)
def B'(h:DB)(H:Hp):(uL h H).objs.size=h.objs.size:=PySem.W.hideAll_size _ _
def j'(e:h.get? b=some o)(n:H b=none):(uL h H).get? b=some o :=
 A9 _ e λhm=>by(have q:(H b).isSome=true:=(iP.mp hm).2;rw[n] at q;simp at q)
def aKa(e:(uL h H).get? b=some o):h.get? b=some o/\H b=none:=by
 have e':h.get? b=some o:=oU (LY h H) e;refine⟨e', ?_⟩
 cases q:H b with
 |none=>rfl
 |some x =>
  have hm:b∈LY h H:=iP.mpr ⟨tN.mpr (xC e'),by simp[q]⟩;have z:(uL h H).get? b=none:=ZO (LY h H) hm;rw[z] at e;cases e
noncomputable def xt(g h:DB)(L:eA):List (eA×wB):=(jC h.objs.size).filterMap λa=>if a=L\/(g.get? a).isSome=true then none else(h.get? a).map λo=>(a,o)
noncomputable def aAc(g h:DB)(L d:eA):List (eA×wB):=(xt g h L).filter λp=>decide (p.1≠d)
structure Mod(K:fA)(mg:aA->Option cA)(base:DB):Prop where
 kin:K.In base
 glob:base.Ns oB mg
 AB:∃mb,base.Ns builtinsNs mb/\∀x:aA,x≠"__name__"->mb x=uN x
 nolimit:base.NoLimit
structure Cx where
 prog:HD
 w:DC
 K:fA
 mg:aA->Option cA
 base:DB
 A:tF
 N:List aA
 s₀:xA
 H₀:Hp
 env:Env
 outer:List Env
 stack:List Env
 ex:List eA
 fn:aA->Bool
 calm:Bool
 pn:List (eA×wB)
 xe:cA->xA->Prop
def bE(l:List Env):List eA:=l.filterMap (·.frame)
abbrev Cx.fs(X:Cx):List eA:=bE X.outer
def mV(sc:EF)(x:aA):Prop:=sc.names.lookup x=some .local\/sc.names.lookup x=some .cell\/sc.names.lookup x=some .free
def Loc(sc:EF)(x:aA):Prop:=sc.names.lookup x=some .local\/sc.names.lookup x=some .cell
def aA5(env:Env)(h:DB)(m:aA->Option cA)(x:aA)(u:cA):Prop :=
 (env.kindOf x=some .local/\m x=some u)\/((env.kindOf x=some .cell\/env.kindOf x=some .free)/\∃c,env.cells.lookup x=some c/\h.IsCell c (some u))
structure Cx.Ok(X:Cx):Prop where
 mod:Mod X.K X.mg X.base
 kind:X.env.scope.kind=.function
 glob:X.env.globals=oB
 AB:X.env.builtins=builtinsNs
 above:X.s₀.heap.objs.size<=X.env.locals
 inj:∀x y c,X.env.cells.lookup x=some c->X.env.cells.lookup y=some c->x=y
 has:∀x,(X.env.kindOf x=some .cell\/X.env.kindOf x=some .free)->∃c,X.env.cells.lookup x=some c
 eL:∀x c,X.fn x=true->X.env.cells.lookup x=some c->X.s₀.heap.objs.size<=c
 hd:X.calm=true->X.A.handled=none
 frames:X.A.frames=some X.stack
 rE:X.stack=X.outer\/(X.stack=X.env::X.outer/\X.env.frame=some X.env.locals)
 eQ:∀b∈X.ex,b≠X.env.locals/\∀x c,X.env.cells.lookup x=some c->c≠b
 bs:∀b o,X.base.get? b=some o->X.s₀.heap.get? b=some o/\X.H₀ b=none
 lI:X.base.objs.size<=X.s₀.heap.objs.size
 IL:∀b o,X.base.get? b=some o->b ∉ X.ex
 HM:∀b∈X.ex,b ∉ X.fs
 XF:X.s₀.heap.FunFrames X.base X.outer
 YI:∀b∈X.fs,X.H₀ b=none
structure dA(X:Cx)(bA:List (eA×wB))(Y:List (Option V))(H:Hp)(s:xA):Prop where
 ok:X.Ok
 os:s.os=X.s₀.os
 bare:JK s.gens
 base:Un X.fs X.ex X.H₀ H X.s₀.heap s.heap
 loc:∃m,s.heap.Ns X.env.locals m/\∀(i:Nat) (x:aA) (v:V),X.N[i]?=some x->Y[i]?=some (some v)->mV X.env.scope x->∃u,aAe v u/\aA5 X.env s.heap m x u
 cell:∀x c,X.env.cells.lookup x=some c->∃v,s.heap.IsCell c v
 free:H X.env.locals=none
 ZE:∀x c,X.env.cells.lookup x=some c->H c=none
 pin:∀p∈X.pn++bA,s.heap.get? p.1=some p.2/\H p.1=none/\p.1≠X.env.locals/\p.1 ∉ X.fs/\∀v,p.2.data≠.cell v
 HA:sD X.prog X.w H s.heap
 len:Y.length=X.N.length
section
variable{X:Cx}
def Cx.Ok.lJa(ok:X.Ok)(e:X.base.get? b=some o):b ∉ X.fs:=λhb=>by
 have:=(ok.XF.mem hb).1
 rw[e] at this;cases this
theorem dA.bs(I:dA X bA Y H s):∀b o,X.base.get? b=some o->s.heap.get? b=some o/\H b=none:=λb o e =>
 ⟨I.base.keep b o (I.ok.bs b o e).1 (I.ok.bs b o e).2 (I.ok.lJa e) (I.ok.IL b o e),I.base.free b o (I.ok.bs b o e).1 (I.ok.bs b o e).2 (I.ok.IL b o e)⟩
def dA.bk(I:dA X bA Y H s):∀b o,X.base.get? b=some o->s.heap.get? b=some o:=λb o e=>(I.bs b o e).1
theorem dA.mod(I:dA X bA Y H s):Mod X.K X.mg X.base:=I.ok.mod
def dA.pE(I:dA X bA Y H s):X.K.In s.heap:=I.ok.mod.kin.keeps I.bk
theorem dA.lt(I:dA X bA Y H s):X.env.locals<s.heap.objs.size:=let ⟨_,hn,_⟩:=I.loc;hn.lt
def dA.sz(I:dA X bA Y H s):X.s₀.heap.objs.size<=s.heap.objs.size:=uE I.ok.above (Ka I.lt)
def dA.nJa(I:dA X bA Y H s)(h:s.heap.objs.size<=a):a ∉ X.fs:=λhb=>by
 obtain⟨_,o,ho,_⟩:=I.ok.XF.mem hb;exact absurd (kE (xC ho) (uE I.sz h)) (nP _)
def dA.fL(I:dA X bA Y H s):∀x c,X.env.cells.lookup x=some c->c≠X.env.locals:=λx c e z=>by
 obtain⟨v,o,ho,hd⟩:=I.cell x c e;obtain⟨m,⟨o',es,ep,lJ,vI,_⟩,_⟩:=I.loc;rw[z,lJ] at ho;cases ho;rw[vI] at hd;cases hd
theorem dA.XF(I:dA X bA Y H s):s.heap.FunFrames X.base X.outer:=by
 have all:∀(l:List Env),(∀b∈bE l,b∈X.fs)->X.s₀.heap.FunFrames X.base l->s.heap.FunFrames X.base l:=by
  intro l
  induction l with
  |nil=>intro _ _;trivial
  |cons env r ih =>
   intro hs hl;obtain⟨hk,⟨L,o,hf,hn,ho,hd⟩,hr⟩:=hl;have hL:L∈X.fs:=hs L (by unfold bE;rw[B9,hf];exact kG);obtain⟨sl,e⟩:=I.base.slot L o ho (I.ok.YI L hL) hL λz=>I.ok.HM L z hL
   exact⟨hk,⟨L,_,hf,hn,e,hd⟩,ih (λb hb=>hs b (by unfold bE;rw[B9,hf];exact jG _ hb)) hr⟩
 exact all X.outer (λ_ hb=>hb) I.ok.XF
theorem dA.stack(I:dA X bA Y H s):s.heap.FunFrames X.base X.stack:=by
 rcases I.ok.rE with e | ⟨e,hf⟩
 ·rw[e];exact I.XF
 ·rw[e];obtain⟨m,hn,_⟩:=I.loc;refine .cons (by rw[I.ok.kind];decide) hf hn ?_ I.XF;exact aP (uE I.ok.lI I.ok.above)
def dA.BY(I:dA X bA Y H s):∀b∈bE X.stack,b∈X.env.locals::X.fs:=λb hb=>by
 rcases I.ok.rE with e | ⟨e,hf⟩
 ·rw[e] at hb;exact jG _ hb
 ·rw[e] at hb;unfold bE at hb;rw[B9,hf] at hb;exact hb
def dA.C8(I:dA X bA Y H s):∀b∈bE X.stack,H b=none:=λb hb=>by
 rcases AD.mp (I.BY b hb) with e | hb
 ·rw[e];exact I.free
 ·obtain⟨_,o,ho,_⟩:=I.ok.XF.mem hb;exact I.base.free b o ho (I.ok.YI b hb) λz=>I.ok.HM b z hb
theorem dA.step{ch:List eA}(I:dA X bA Y H s)
  (lK:∀b∈ch,(b∈X.ex\/X.s₀.heap.get? b=none)/\b≠X.env.locals/\(∀x c,X.env.cells.lookup x=some c->c≠b)/\∀p∈X.pn++bA,p.1≠b)
  (keep:∀b o,b≠X.env.locals->b ∉ X.fs->b ∉ ch->s.heap.get? b=some o->H b=none->h'.get? b=some o)
  (slot:∀b o,b≠X.env.locals->b∈X.fs->b ∉ ch->s.heap.get? b=some o->H b=none->∃sl,h'.get? b=some { o with slots:=sl }) (free:∀b o,b ∉ ch->s.heap.get? b=some o->H b=none->H' b=none)
  (there:∀b o,b ∉ ch->s.heap.get? b=some o->∃o',h'.get? b=some o')
  (FJ:∀b xs,H b=some (.t xs)->H' b=some (.t xs)) (sI:∀b o u,H b=some (.zF o u)->H' b=some (.zF o u)) (DJ:∀b ps,H b=some (.gN ps)->∃more,H' b=some (.gN (ps++more)))
  (ns:∀m,s.heap.Ns X.env.locals m->h'.Ns X.env.locals m) (HA:sD X.prog X.w H' h') (hg:JK g') :
  dA X bA Y H' { s with heap:=h',gens:=g',drawn:=d',toks:=t' }:=by
 have Ci:∀b o,X.s₀.heap.get? b=some o->b≠X.env.locals:=λb o e=>zE (kE (xC e) I.ok.above)
 have NX:∀b o,X.s₀.heap.get? b=some o->b ∉ X.ex->b ∉ ch:=λb o e hx hb=>by
  rcases(lK b hb).1 with z | z
  ·exact hx z
  ·rw[z] at e;cases e
 have cellK:∀x c,X.env.cells.lookup x=some c->∀v,s.heap.IsCell c v->h'.IsCell c v:=λx c e v hz=>by
  obtain⟨o,ho,hd⟩:=hz;have bT:c ∉ ch:=λz=>(lK c z).2.2.1 x c e rfl
  by_cases hc:c∈X.fs
  ·obtain⟨sl,q⟩:=slot c o (I.fL x c e) hc bT ho (I.ZE x c e);exact⟨_,q,hd⟩
  ·exact⟨o,keep c o (I.fL x c e) hc bT ho (I.ZE x c e),hd⟩
 refine⟨I.ok,I.os,hg,⟨λb o e n hb hx=>?_,λb o e n hb hx=>?_,λb o e n hx=>?_,λb o e hx=>?_,λb xs e=>FJ b xs (I.base.FJ b xs e),λb o xs e=>sI b o xs (I.base.sI b o xs e),λb ps e=>?_⟩, ?_,λx c e=>?_, ?_,λx c e=>?_,λp hp=>?_,HA,I.len⟩
 ·exact keep b o (Ci b o e) hb (NX b o e hx) (I.base.keep b o e n hb hx) (I.base.free b o e n hx)
 ·obtain⟨sl,e1⟩:=I.base.slot b o e n hb hx;obtain⟨Dk,e2⟩:=slot b _ (Ci b o e) hb (NX b o e hx) e1 (I.base.free b o e n hx);exact⟨Dk,e2⟩
 ·obtain⟨o',e1⟩:=I.base.there b o e hx;exact free b o' (NX b o e hx) e1 (I.base.free b o e n hx)
 ·obtain⟨o',e1⟩:=I.base.there b o e hx;exact there b o' (NX b o e hx) e1
 ·obtain⟨m1,e1⟩:=I.base.DJ b ps e;obtain⟨m2,e2⟩:=DJ b _ e1;exact⟨m1++m2,by rw[e2,Array.append_assoc]⟩
 ·obtain⟨m,hn,hl⟩:=I.loc;refine⟨m,ns m hn,λi x v e1 e2 e3=>?_⟩;obtain⟨u,r,l⟩:=hl i x v e1 e2 e3;refine⟨u,r, ?_⟩;rcases l with l | ⟨k,c,e,z⟩
  ·exact .inl l
  ·exact .inr ⟨k,c,e,cellK x c e _ z⟩
 ·obtain⟨v,z⟩:=I.cell x c e;exact⟨v,cellK x c e v z⟩
 ·obtain⟨m,⟨o,_,_,ho,_⟩,_⟩:=I.loc;exact free _ o (λz=>(lK _ z).2.1 rfl) ho I.free
 ·obtain⟨v,o,ho,hd⟩:=I.cell x c e;exact free c o (λz=>(lK c z).2.2.1 x c e rfl) ho (I.ZE x c e)
 ·obtain⟨e,n,ne,nf,d⟩:=I.pin p hp;have bT:p.1 ∉ ch:=λz=>(lK p.1 z).2.2.2 p hp rfl
  exact⟨keep p.1 p.2 ne nf bT e n,free p.1 p.2 bT e n,ne,nf,d⟩
def dA.un{t':Nat}(I:dA X bA Y H s)(u:Un X.fs [] H H' s.heap h')(HA:sD X.prog X.w H' h'):dA X bA Y H' { s with heap:=h',toks:=t' }:=by
 obtain⟨m,⟨o,es,ep,ho,r⟩,_⟩:=id I.loc;obtain⟨sl,hL⟩:=u.any ho I.free (by simp)
 exact I.step (g':=s.gens) (d':=s.drawn) (ch:=[]) (λ_ z=>nomatch z) (λb o _ hb _ e n=>u.keep b o e n hb (by simp)) (λb o _ hb _ e n=>u.slot b o e n hb (by simp)) (λb o _ e n=>u.free b o e n (by simp)) (λb o _ e=>u.there b o e (by simp)) u.FJ u.sI u.DJ (λm' hm=>by
  obtain⟨o',dS,E2,lJ,r'⟩:=hm;rw[ho] at lJ;cases lJ
  exact⟨_,dS,E2,hL,r'⟩) HA I.bare
def dA.call(I:dA X bA Y H s)(u:Un (bE X.stack) ch H H' s.heap h')(HA:sD X.prog X.w H' h')(hg:JK g')
  (lK:∀b∈ch,(b∈X.ex\/X.s₀.heap.get? b=none)/\b≠X.env.locals/\(∀x c,X.env.cells.lookup x=some c->c≠b)/\∀p∈X.pn++bA,p.1≠b) :
  dA X bA Y H' { s with heap:=h',gens:=g',drawn:=d',toks:=t' }:=by
 obtain⟨m,⟨o,es,ep,ho,r⟩,_⟩:=id I.loc;obtain⟨sl,hL⟩:=u.any ho I.free λz=>(lK _ z).2.1 rfl
 exact I.step lK (λb o hL hb hc e n=>u.keep b o e n (λz=>(AD.mp (I.BY b z)).elim hL hb) hc) (λb o _ _ hc e n=>u.any e n hc) (λb o hc e n=>u.free b o e n hc) (λb o hc e=>u.there b o e hc) u.FJ u.sI u.DJ (λm' hm=>by
  obtain⟨o',dS,E2,lJ,r'⟩:=hm;rw[ho] at lJ;cases lJ
  exact⟨_,dS,E2,hL,r'⟩) HA hg
def dA.turned{it:eA}(I:dA X bA Y H s)(k:∀b o,b≠it->s.heap.get? b=some o->h'.get? b=some o)(hn:H it=none)(hL:it≠X.env.locals)
  (h1:it∈X.ex\/X.s₀.heap.get? it=none) (h2:∀x c,X.env.cells.lookup x=some c->c≠it) (h3:∀p∈X.pn++bA,p.1≠it):dA X bA Y H { s with heap:=h',toks:=t' }:=by
 have Di:∀b u,H b=some u->b≠it:=λb u e z=>by rw[z,hn] at e;cases e
 refine I.step (g':=s.gens) (d':=s.drawn) (ch:=[it]) (λb hb=>?_) (λb o _ _ hc e _=>k b o (λz=>hc (by simp[z])) e) (λb o _ _ hc e _=>⟨o.slots,k b o (λz=>hc (by simp[z])) e⟩) (λ_ _ _ _ n=>n)
  (λb o hc e=>⟨o,k b o (λz=>hc (by simp[z])) e⟩) (λ_ _ e=>e) (λ_ _ _ e=>e) (λb ps e=>⟨#[],by rw[e];simp⟩) (λm hm=>?_) (λb u e=>?_) I.bare
 ·have e:b=it:=by simpa using hb
  subst e;exact⟨h1,hL,h2,h3⟩
 ·obtain⟨o,es,ep,ho,r⟩:=hm;exact⟨o,es,ep,k _ o (gE hL) ho,r⟩
 ·refine(I.HA b u e).AJ (λc v hc q=>k c v ?_ q) (λ_ q=>q) λ_ _ q=>q
  rcases hc with z | z
  ·rw[z];exact Di b u e
  ·exact Di c _ z
def dA.tok(I:dA X bA Y H s)(t:Nat):dA X bA Y H { s with toks:=t }:=I.un (h':=s.heap) (t':=t) Un.refl I.HA
theorem dA.kept(I:dA X bA Y H s)(k:∀b u,s.heap.get? b=some u->h'.get? b=some u):dA X bA Y H { s with heap:=h',toks:=t' }:=I.un (Un.kept k) (I.HA.kept k)
theorem dA.laid(I:dA X bA Y H s)(k:∀b u,s.heap.get? b=some u->h'.get? b=some u)(hp:s.heap.objs.size<=a)(new:XD X.prog X.w (vA H a o) h' a o) :
  dA X bA Y (vA H a o) { s with heap:=h',toks:=t' }:=I.un (Un.laid k hp (I.HA.fresh hp)) (I.HA.laid k hp new)
theorem dA.write(I:dA X bA Y H s)(mu:OR (H x))(he:e=x\/H e=some (.own x))(k:∀b u,b≠e->s.heap.get? b=some u->h'.get? b=some u)(lQ:∃u,h'.get? e=some u)
  (new:XD X.prog X.w (vA H x o) h' x o):dA X bA Y (vA H x o) { s with heap:=h',toks:=t' }:=I.un (Un.write mu he k lQ) (I.HA.write mu he k lQ new)
def dA.yj(I:dA X bA Y H s)(h:∀p∈UD,s.heap.get? p.1=some p.2/\H p.1=none/\p.1≠X.env.locals/\p.1 ∉ X.fs/\∀v,p.2.data≠.cell v):dA X UD Y H s :=
 ⟨I.ok,I.os,I.bare,I.base,I.loc,I.cell,I.free,I.ZE,λp hp=>(CG.mp hp).elim (λz=>I.pin p (oN _ z)) (h p),I.HA,I.len⟩
def A7{N:List aA}(hN:N.Nodup){i j:Nat}(a:N[i]?=some x)(b:N[j]?=some x):i=j:=by
 obtain⟨h1,e1⟩:=MD.mp a;obtain⟨h2,e2⟩:=MD.mp b;exact(List.getElem_inj hN).mp (e1.trans e2.symm)
def Uk(I:dA X bA Y H s)(hN:X.N.Nodup)(hi:X.N[i]?=some x)(hx:Loc X.env.scope x)(r:aAe v u)
  (h:∀s',dA X bA (Y.set i (some v)) H s'->(∃a,GK a s.heap s'.heap/\(a=X.env.locals\/X.env.cells.lookup x=some a))->Q () s') (hf:X.fn x=true\/X.env.scope.names.lookup x=some .local:=by first | exact .inl rfl | exact .inr rfl | assumption):AA M A (storeName X.env x u) Q E s:=by
 obtain⟨m,hn,hl⟩:=id I.loc;have I_:(X.env.scope.kind==.class||(X.env.scope.kind==.module&&X.env.locals != X.env.globals))=false:=by rw[I.ok.kind];rfl
 have jf:i<Y.length:=by rw[I.len];exact(MD.mp hi).1
 have fL:=I.fL
 have tracked:∀{a:eA} {h':DB},(∃o,s.heap.get? a=some o/\H a=none)->GK a s.heap h'->sD X.prog X.w H h':=λ{a h'} ha hs b ob e=>by
  obtain⟨_,_,cf⟩:=ha;refine(I.HA b ob e).AJ (λc w' hc q=>(hs.2 c ?_).trans q) (λ_ q=>q) λ_ _ q=>q
  rintro rfl
  rcases hc with rfl | hc
  ·rw[cf] at e;cases e
  ·rw[cf] at hc;cases hc
 rcases hx with hk | hk
 ·refine wpAny_storeName_local hk hn (λh' rQ hs=>?_) I_;obtain⟨oL,_,_,zf,_⟩:=id hn;refine h _ ⟨I.ok,I.os,I.bare,⟨λb o e n hb hx=>?_,λb o e n hb hx=>?_,I.base.free,λb o e hx=>?_,I.base.FJ,I.base.sI,I.base.DJ⟩,⟨_,rQ,λj y v' e1 e2 e3=>?_⟩,λy c e=>?_,I.free,I.ZE,λp hp=>?_,tracked ⟨oL,zf,I.free⟩ hs,by simpa using I.len⟩ ⟨_,hs,.inl rfl⟩
  ·exact(hs.2 b (zE (kE (xC e) I.ok.above))).trans (I.base.keep b o e n hb hx)
  ·obtain⟨sl,e1⟩:=I.base.slot b o e n hb hx;exact⟨sl,(hs.2 b (zE (kE (xC e) I.ok.above))).trans e1⟩
  ·obtain⟨o',e1⟩:=I.base.there b o e hx;exact⟨o',(hs.2 b (zE (kE (xC e) I.ok.above))).trans e1⟩
  ·by_cases hj:j=i
   ·subst hj;rw[hi] at e1;cases e1;rw[gI jf] at e2;cases e2;exact⟨u,r,.inl ⟨hk,by simp⟩⟩
   ·rw[jE (gE hj)] at e2;obtain⟨u',r',q⟩:=hl j y v' e1 e2 e3;refine⟨u',r', ?_⟩;rcases q with ⟨k,e⟩ | ⟨k,c,e,z⟩
    ·refine .inl ⟨k, ?_⟩
     have:y≠x:=λe=>hj (A7 hN e1 (e ▸ hi))
     simp[this,e]
    ·exact .inr ⟨k,c,e,z.sameBut hs (fL y c e)⟩
  ·obtain⟨w',z⟩:=I.cell y c e;exact⟨w',z.sameBut hs (fL y c e)⟩
  ·obtain⟨e,n,ne,nf,d⟩:=I.pin p hp;exact⟨(hs.2 p.1 ne).trans e,n,ne,nf,d⟩
 ·have bC:X.fn x=true:=by
   rcases hf with z | z
   ·exact z
   ·rw[z] at hk;cases hk
  obtain⟨c,hc⟩:=I.ok.has x (.inl hk);obtain⟨w',z⟩:=I.cell x c hc;refine wpAny_storeName_cell I.ok.kind hk hc z (λh' RH hs=>?_);obtain⟨oc,yL,fAa⟩:=id z;refine h { s with heap:=h' } ⟨I.ok,I.os,I.bare,⟨λb o e n hb hx=>?_,λb o e n hb hx=>?_,I.base.free,λb o e hx=>?_,I.base.FJ,I.base.sI,I.base.DJ⟩,⟨m,hn.sameBut hs (gE (fL x c hc)),λj y v' e1 e2 e3=>?_⟩,λy c' e=>?_,I.free,I.ZE,λp hp=>?_,tracked ⟨oc,yL,I.ZE x c hc⟩ hs,by simpa using I.len⟩ ⟨c,hs,.inr hc⟩
  ·exact(hs.2 b (zE (kE (xC e) (I.ok.eL x c bC hc)))).trans (I.base.keep b o e n hb hx)
  ·obtain⟨sl,e1⟩:=I.base.slot b o e n hb hx;exact⟨sl,(hs.2 b (zE (kE (xC e) (I.ok.eL x c bC hc)))).trans e1⟩
  ·obtain⟨o',e1⟩:=I.base.there b o e hx;exact⟨o',(hs.2 b (zE (kE (xC e) (I.ok.eL x c bC hc)))).trans e1⟩
  ·by_cases hj:j=i
   ·subst hj;rw[hi] at e1;cases e1;rw[gI jf] at e2;cases e2;exact⟨u,r,.inr ⟨.inl hk,c,hc,RH⟩⟩
   ·rw[jE (gE hj)] at e2;obtain⟨u',r',q⟩:=hl j y v' e1 e2 e3;refine⟨u',r', ?_⟩;rcases q with q | ⟨k,c',e,z'⟩
    ·exact .inl q
    ·refine .inr ⟨k,c',e,z'.sameBut hs ?_⟩
     rintro rfl
     exact hj (A7 hN e1 (I.ok.inj _ _ _ e hc ▸ hi))
  ·by_cases PM:c'=c
   ·subst PM;exact⟨_,RH⟩
   ·obtain⟨w2,z2⟩:=I.cell y c' e;exact⟨w2,z2.sameBut hs PM⟩
  ·obtain⟨e,n,ne,nf,d⟩:=I.pin p hp;refine⟨(hs.2 p.1 ?_).trans e,n,ne,nf,d⟩;intro q;rw[q,yL] at e;have q':oc=p.2:=uF e;exact d w' (by rw[<- q'];exact fAa)
def D8(I:dA X bA Y H s)(hN:X.N.Nodup)(hi:X.N[i]?=some x)(hx:Loc X.env.scope x)(r:aAe v u)
  (h:∀s',dA X bA (Y.set i (some v)) H s'->Q () s') (hf:X.fn x=true\/X.env.scope.names.lookup x=some .local:=by first | exact .inl rfl | exact .inr rfl | assumption):AA M A (storeName X.env x u) Q E s :=
 Uk I hN hi hx r (λs' I' _=>h s' I') hf
def dA.Nc(I:dA X bA Y H s)(ho:s'.os=s.os)(u:Un (bE X.stack) ch H H' s.heap s'.heap)(HA:sD X.prog X.w H' s'.heap)(hg:JK s'.gens)
  (lK:∀b∈ch,(b∈X.ex\/X.s₀.heap.get? b=none)/\b≠X.env.locals/\(∀x c,X.env.cells.lookup x=some c->c≠b)/\∀p∈X.pn++bA,p.1≠b):dA X bA Y H' s':=by
 obtain⟨h',g',d',t',o'⟩:=s';have e:o'=s.os:=ho;subst e;exact I.call u HA hg lK
end
abbrev XK:=cA->Option eA×Bool->Hp->Prop
abbrev St:=List (Option V)
abbrev VK:=V->Hp->Prop
abbrev TE:=St->Hp->VK->Prop
abbrev TT:=St->Hp->(Bool->Hp->Prop)->Prop
abbrev TA:=St->Hp->(List V->Hp->Prop)->Prop
structure Ends where
 nx:St->Hp->Prop
 rt:VK
 bk:St->Hp->Prop:=λ_ _=>False
 ct:St->Hp->Prop:=λ_ _=>False
abbrev TS:=Ends->St->Hp->Prop
def EP(X:Cx)(bA:List (eA×wB))(Y:St)(Q:VK)(u:cA)(s':xA):Prop:=∃v H',dA X bA Y H' s'/\aAe v u/\Q v H'
def TP(X:Cx)(bA:List (eA×wB))(Y:St)(Q:Bool->Hp->Prop)(b:Bool)(s':xA):Prop:=∃H',dA X bA Y H' s'/\Q b H'
def AP(X:Cx)(bA:List (eA×wB))(Y:St)(Q:List V->Hp->Prop)(us:List cA)(s':xA):Prop:=∃vs H',dA X bA Y H' s'/\aAf vs us/\Q vs H'
def SP(X:Cx)(bA:List (eA×wB))(D:Ends)(f:Flow)(s':xA):Prop :=
 match f with
 |.next=>∃Y' H',dA X bA Y' H' s'/\D.nx Y' H'
 |.brk=>∃Y' H',dA X bA Y' H' s'/\D.bk Y' H'
 |.cont=>∃Y' H',dA X bA Y' H' s'/\D.ct Y' H'
 |.ret u=>∃v Y' H',dA X bA Y' H' s'/\aAe v u/\D.rt v H'
def PE(X:Cx)(e:sA)(t:TE):Prop :=
 ∀(bA:List (eA×wB)) (s:xA) (Y:St) (H:Hp) (Q:VK),dA X bA Y H s->t Y H Q->AA (model X.prog X.w) X.A (eval e X.env) (EP X bA Y Q) X.xe s
def PT(X:Cx)(e:sA)(t:TT):Prop :=
 ∀(bA:List (eA×wB)) (s:xA) (Y:St) (H:Hp) (Q:Bool->Hp->Prop),dA X bA Y H s->t Y H Q->AA (model X.prog X.w) X.A (isTrue e X.env (eval e X.env)) (TP X bA Y Q) X.xe s
def PW(X:Cx)(e:sA)(t:TT):Prop :=
 ∀(whole:Sem cA) (bA:List (eA×wB)) (s:xA) (Y:St) (H:Hp) (Q:Bool->Hp->Prop),dA X bA Y H s->t Y H Q->AA (model X.prog X.w) X.A (isTrue e X.env whole) (TP X bA Y Q) X.xe s
def PW.pt(h:PW X e t):PT X e t:=h _
def PA(X:Cx)(es:List sA)(t:TA):Prop :=
 ∀(pos:XB) (bA:List (eA×wB)) (s:xA) (Y:St) (H:Hp) (Q:List V->Hp->Prop),dA X bA Y H s->t Y H Q->AA (model X.prog X.w) X.A (spliced (sE pos (UB es X.env))) (AP X bA Y Q) X.xe s
def PS(X:Cx)(st:VA)(t:TS):Prop :=
 ∀(bA:List (eA×wB)) (s:xA) (Y:St) (H:Hp) (D:Ends),dA X bA Y H s->t D Y H->AA (model X.prog X.w) X.A (exec st X.env) (SP X bA D) X.xe s
def XC(X:Cx)(st:List VA)(t:TS):Prop :=
 ∀(bA:List (eA×wB)) (s:xA) (Y:St) (H:Hp) (D:Ends),dA X bA Y H s->t D Y H->AA (model X.prog X.w) X.A (execs st X.env) (SP X bA D) X.xe s
def NA(h:AA M A t Q E s)(hQ:∀a s,Q a s->Q' a s):AA M A t Q' E s:=AE h hQ λ_ _ x=>x
section
variable{X:Cx}
def BA(ha:PE X a ta)(hb:PE X b tb){R:V->V->Hp->Prop}(I:dA X bA Y H s)(h:ta Y H λx H1=>tb Y H1 λy H2=>R x y H2){f:cA->cA->Sem O}
  (hf:∀v u s2 x y H2,dA X bA Y H2 s2->aAe x v->aAe y u->R x y H2->AA (model X.prog X.w) X.A (f v u) Q X.xe s2) :
  AA (model X.prog X.w) X.A (eval a X.env) (λv s₁=>AA (model X.prog X.w) X.A (eval b X.env) (λu s₂=>AA (model X.prog X.w) X.A (f v u) Q X.xe s₂) X.xe s₁) X.xe s:=by
 refine NA (ha bA s Y H _ I h) λv s1 hz=>?_
 obtain⟨x,H1,I1,r1,q1⟩:=hz;refine NA (hb bA s1 Y H1 _ I1 q1) λu s2 hz=>?_
 obtain⟨y,H2,I2,r2,q2⟩:=hz;exact hf v u s2 x y H2 I2 r1 r2 q2
noncomputable def bI(i:Nat):TE:=λY H Q=>∃v,Y[i]?=some (some v)/\Q v H
noncomputable def tC(v:V):TE:=λ_ H Q=>Q v H
def bY(hN:X.N[i]?=some x)(hv:mV X.env.scope x)(hd:(x==("__debug__":aA))=false:=by decide)(MG:(x==("__classdict__":aA))=false:=by decide):PE X (.Name x pos) (bI i):=by
 intro bA s Y H Q I h;obtain⟨v,e,h⟩:=h;obtain⟨m,hn,hl⟩:=I.loc;obtain⟨u,r,l⟩:=hl i x v hN e hv;have XA:EP X bA Y Q u s:=⟨v,H,I,r,h⟩
 rcases l with ⟨hk,hm⟩ | ⟨hk,c,hc,eJ⟩
 ·exact Ya (wpAny_loadName_local I.ok.kind hk hn hm XA) hd
 ·rcases hk with hk | hk
  ·exact Ya (wpAny_loadName_cell I.ok.kind hk hc eJ XA) hd
  ·exact Ya (wpAny_loadName_free I.ok.kind hk hc eJ XA MG) hd
def kj{i j pos}:PE X (.Constant (.int i) j pos) (tC (.int i)):=λ_ _ _ H _ I h=>wpAny_Constant_int ⟨.int i,H,I.tok _,⟨_,rfl⟩,h⟩
def tOa{b j pos}:PE X (.Constant (.bool b) j pos) (tC (.bl b)):=λ_ _ _ H _ I h=>Constant_bool ⟨.bl b,H,I,rfl,h⟩
def ePa{j pos}:PE X (.Constant .none j pos) (tC .oA):=λ_ _ _ H _ I h=>Constant_none ⟨.oA,H,I,rfl,h⟩
def aN{x j pos}:PE X (.Constant (.str x) j pos) (tC (.str x)):=λ_ _ _ H _ I h=>Calls.Constant_str ⟨.str x,H,I.tok _,⟨_,rfl⟩,h⟩
def Gl(X:Cx)(x:aA):Prop:=X.env.kindOf x=some .globalImplicit
def rO(I:dA X bA Y H s)(hg:Gl X x)(hm:X.mg x=some u)(h:Q u s)
  (hd:(x==("__debug__":aA))=false:=by decide):AA (model X.prog X.w) X.A (eval (.Name x pos) X.env) Q E s :=
 Calls.Name_function_global I.ok.kind hg (Calls.loadGlobal_global (by rw[I.ok.glob];exact I.mod.glob.keeps I.bk) hm h) hd
def qO(I:dA X bA Y H s)(hg:Gl X x)(hm:X.mg x=none)(hv:uN x=some u)(h:Q u s)
  (hn:x≠"__name__":=by decide) (hd:(x==("__debug__":aA))=false:=by decide):AA (model X.prog X.w) X.A (eval (.Name x pos) X.env) Q E s:=by
 obtain⟨mb,h1,h2⟩:=I.mod.AB;exact Calls.Name_function_global I.ok.kind hg (Calls.loadGlobal_builtin (by rw[I.ok.glob];exact I.mod.glob.keeps I.bk) hm (by rw[I.ok.AB];exact h1.keeps I.bk) ((h2 x hn).trans hv) h) hd
def K7(hg:Gl X x)(hm:X.mg x=some u)(r:aAe v u)(hd:(x==("__debug__":aA))=false:=by decide):PE X (.Name x pos) (tC v) :=
 λ_ _ _ H _ I h=>rO I hg hm ⟨v,H,I,r,h⟩ hd
def LQ(hg:Gl X x)(hm:X.mg x=none)(hv:uN x=some u)(r:aAe v u)(hn:x≠"__name__":=by decide)(hd:(x==("__debug__":aA))=false:=by decide):PE X (.Name x pos) (tC v) :=
 λ_ _ _ H _ I h=>qO I hg hm hv ⟨v,H,I,r,h⟩ hn hd
variable{pos:XB}
variable{aAc:List sA}
noncomputable def Im(t u:TT):TT:=λY H Q=>t Y H λc H1=>if c=true then u Y H1 Q else Q false H1
noncomputable def Mm(t u:TT):TT:=λY H Q=>t Y H λc H1=>if c=true then Q true H1 else u Y H1 Q
noncomputable def tWa(t:TT):TT:=λY H Q=>t Y H λc H1=>Q (!c) H1
def aAW(ha:PT X a tA):PW X (.BoolOp .And [a] pos) tA:=by
 intro wh bA s Y H Q I h;refine isTrue_and (NA (ha bA s Y H Q I h) λc s1 e=>?_)
 cases c with
 |true=>exact isTrue_and_nil e
 |false=>exact e
def aAZ(ha:PT X a tA):PW X (.BoolOp .Or [a] pos) tA:=by
 intro wh bA s Y H Q I h;refine isTrue_or (NA (ha bA s Y H Q I h) λc s1 e=>?_)
 cases c with
 |false=>exact isTrue_or_nil e
 |true=>exact e
def aA1(ha:PT X a tA)(hb:PW X (.BoolOp .And (b::aAc) pos) L8):PW X (.BoolOp .And (a::b::aAc) pos) (Im tA L8):=by
 intro wh bA s Y H Q I h;refine isTrue_and (NA (ha bA s Y H _ I h) λc s1 hz=>?_);obtain⟨H1,I1,q1⟩:=hz
 cases c with
 |true=>exact hb wh bA s1 Y H1 Q I1 q1
 |false=>exact⟨H1,I1,q1⟩
def aA3(ha:PT X a tA)(hb:PW X (.BoolOp .Or (b::aAc) pos) L8):PW X (.BoolOp .Or (a::b::aAc) pos) (Mm tA L8):=by
 intro wh bA s Y H Q I h;refine isTrue_or (NA (ha bA s Y H _ I h) λc s1 hz=>?_);obtain⟨H1,I1,q1⟩:=hz
 cases c with
 |true=>exact⟨H1,I1,q1⟩
 |false=>exact hb wh bA s1 Y H1 Q I1 q1
def vRa(ha:PT X a tA):PT X (.UnaryOp .Not a pos) (tWa tA):=by
 intro bA s Y H Q I h;exact isTrue_not (ha bA s Y H (λc H1=>Q (!c) H1) I h)
noncomputable def Jm(ta tb:TE):TE:=λY H Q=>ta Y H λx H1=>∃c,x=.bl c/\if c=true then tb Y H1 Q else Q (.bl false) H1
noncomputable def Nm(ta tb:TE):TE:=λY H Q=>ta Y H λx H1=>∃c,x=.bl c/\if c=true then Q (.bl true) H1 else tb Y H1 Q
def lj{op}(h:PE X a t):PE X (.BoolOp op [a] pos) t:=λbA s Y H Q I hw=>BoolOp_one (h bA s Y H Q I hw)
def sOa(ha:PE X a ta)(hb:PE X (.BoolOp .And (b::aAc) pos) tb):PE X (.BoolOp .And (a::b::aAc) pos) (Jm ta tb):=by
 intro bA s Y H Q I h;refine BoolOp_and (NA (ha bA s Y H _ I h) λv s1 hz=>?_);obtain⟨x,H1,I1,r1,q1⟩:=hz;obtain⟨c,rfl,q1⟩:=q1;cases r1;refine qN ?_
 cases c with
 |true=>exact hb bA s1 Y H1 Q I1 q1
 |false=>exact⟨.bl false,H1,I1,rfl,q1⟩
def L7(ha:PE X a ta)(hb:PE X (.BoolOp .Or (b::aAc) pos) tb):PE X (.BoolOp .Or (a::b::aAc) pos) (Nm ta tb):=by
 intro bA s Y H Q I h;refine BoolOp_or (NA (ha bA s Y H _ I h) λv s1 hz=>?_);obtain⟨x,H1,I1,r1,q1⟩:=hz;obtain⟨c,rfl,q1⟩:=q1;cases r1;refine qN ?_
 cases c with
 |false=>exact hb bA s1 Y H1 Q I1 q1
 |true=>exact⟨.bl true,H1,I1,rfl,q1⟩
noncomputable def tIf(t:TT)(ta tb:TE):TE:=λY H Q=>t Y H λc H1=>if c=true then ta Y H1 Q else tb Y H1 Q
def bPa(hc:PT X c tA)(ha:PE X a ta)(hb:PE X b tb):PE X (.IfExp c a b pos) (tIf tA ta tb):=by
 intro bA s Y H Q I h;refine wpAny_IfExp (NA (hc bA s Y H _ I h) λd s1 hz=>?_);obtain⟨H1,I1,q1⟩:=hz
 cases d with
 |true=>exact ha bA s1 Y H1 Q I1 q1
 |false=>exact hb bA s1 Y H1 Q I1 q1
end
def CB(K:fA)(H:Hp)(a:eA)(xs:List V):Prop :=
 Rd H a (.l xs) \/
  ∃(o:wB) (gA:Array cA) (n:Nat),K.lookup a=some o/\o.cls=.type "list"/\o.dict=none/\o.data=.seq gA n/\gA.size<=sizeLine/\aAf xs gA.toList
def FC(K:fA)(H:Hp)(a:eA)(xs:List V):Prop :=
 Rd H a (.t xs) \/
  ∃(o:wB) (gA:Array cA) (n:Nat),K.lookup a=some o/\o.cls=.type "tuple"/\o.data=.seq gA n/\gA.size<=sizeLine/\aAf xs gA.toList
noncomputable def jt:cA->Option V
 |.none=>some .oA
 |.bool b=>some (.bl b)
 |.int i _=>some (.int i)
 |.str x _=>some (.str x)
 |.ref a=>some (.ref a)
 |.type n=>some (.ty n)
 |_=>none
def aAe.abs(r:aAe x u):jt u=some x:=by
 cases x with
 |oA=>cases r;rfl
 |bl _=>cases r;rfl
 |int _=>obtain⟨t,rfl⟩:=r;rfl
 |str _=>obtain⟨t,rfl⟩:=r;rfl
 |ref _=>cases r;rfl
 |ty _=>cases r;rfl
theorem aAe.inj(r:aAe x u)(q:aAe y u):x=y:=uF (r.abs.symm.trans q.abs)
theorem aAf.inj{xs ys:List V}{us:List cA}(h:aAf xs us)(h':aAf ys us):xs=ys:=by
 induction h generalizing ys with
 |nil=>cases h';rfl
 |cons r t ih=>cases h' with | cons r' t'=>rw[r.inj r',ih t']
section
variable{xs ys:List V}
def CB.of{K:fA}(h:H a=some (.l xs)):CB K H a xs:=.inl (.inl h)
def FC.of{K:fA}(h:H a=some (.t xs)):FC K H a xs:=.inl (.inl h)
def dA.list(I:dA X bA Y H s)(h:CB X.K H a xs):∃gA:List cA,aAf xs gA/\PlainL s.heap a gA.toArray/\xs.length<=sizeLine:=by
 rcases h with h | ⟨o,gA,n,hk,hc,hd,hs,hz,r⟩
 ·obtain⟨z,gA,n,r,e⟩:=h.ok I.HA;exact⟨gA,r,⟨_,n,e,rfl,rfl,rfl⟩,z⟩
 ·refine⟨gA.toList,r,⟨o,n,I.pE a o hk,hc,hd,by simpa using hs⟩, ?_⟩;have e:=r.length;simp only[jF] at e
  lia
def dA.tuple(I:dA X bA Y H s)(h:FC X.K H a xs):∃gA:List cA,aAf xs gA/\IsTup s.heap a gA.toArray/\xs.length<=sizeLine:=by
 rcases h with h | ⟨o,gA,n,hk,hc,hs,hz,r⟩
 ·obtain⟨z,gA,r,p⟩:=h.ok I.HA;exact⟨gA,r,p,z⟩
 ·refine⟨gA.toList,r,⟨o,I.pE a o hk,hc,n,by simpa using hs⟩, ?_⟩;have e:=r.length;simp only[jF] at e
  lia
def dA.Yh(I:dA X bA Y H s)(h:CB X.K H a xs)(h':CB X.K H a ys):xs=ys:=by
 obtain⟨gA,r,⟨o,n,e,_,_,d⟩,_⟩:=I.list h;obtain⟨its',r',⟨o',n',e',_,_,d'⟩,_⟩:=I.list h';rw[e] at e';cases e';rw[d] at d'
 injection d' with d1 _
 have:gA=its':=by simpa using congrArg GU d1
 subst this;exact r.inj r'
def dA.qXa(I:dA X bA Y H s)(h:FC X.K H a xs)(h':FC X.K H a ys):xs=ys:=by
 obtain⟨gA,r,⟨o,e,_,n,d⟩,_⟩:=I.tuple h;obtain⟨its',r',⟨o',e',_,n',d'⟩,_⟩:=I.tuple h';rw[e] at e';cases e';rw[d] at d'
 injection d' with d1 _
 have:gA=its':=by simpa using congrArg GU d1
 subst this;exact r.inj r'
end
abbrev Cx.BK(X:Cx)(E:cA->xA->Prop):Cx:={ X with xe:=E }
abbrev Cx.xO(X:Cx):Cx:=X.BK λ_ _=>False
theorem Cx.Ok.BK{X:Cx}(ok:X.Ok)(E:cA->xA->Prop):(X.BK E).Ok :=
 ⟨ok.mod,ok.kind,ok.glob,ok.AB,ok.above,ok.inj,ok.has,ok.eL,ok.hd,ok.frames,ok.rE,ok.eQ,ok.bs,ok.lI,ok.IL,ok.HM,ok.XF,ok.YI⟩
def Cx.Ok.kN{X:Cx}(ok:(X.BK E).Ok):X.Ok :=
 ⟨ok.mod,ok.kind,ok.glob,ok.AB,ok.above,ok.inj,ok.has,ok.eL,ok.hd,ok.frames,ok.rE,ok.eQ,ok.bs,ok.lI,ok.IL,ok.HM,ok.XF,ok.YI⟩
section
variable{E:cA->xA->Prop}
theorem dA.BK(I:dA X bA Y H s)(E:cA->xA->Prop):dA (X.BK E) bA Y H s:=⟨I.ok.BK E,I.os,I.bare,I.base,I.loc,I.cell,I.free,I.ZE,I.pin,I.HA,I.len⟩
theorem dA.kN(I:dA (X.BK E) bA Y H s):dA X bA Y H s:=⟨I.ok.kN,I.os,I.bare,I.base,I.loc,I.cell,I.free,I.ZE,I.pin,I.HA,I.len⟩
theorem SP.kN(h:SP (X.BK E) bA D f s'):SP X bA D f s':=by
 cases f with
 |next=>obtain⟨Y',H',I,q⟩:=h;exact⟨Y',H',I.kN,q⟩
 |brk=>obtain⟨Y',H',I,q⟩:=h;exact⟨Y',H',I.kN,q⟩
 |cont=>obtain⟨Y',H',I,q⟩:=h;exact⟨Y',H',I.kN,q⟩
 |ret u=>obtain⟨v,Y',H',I,r,q⟩:=h;exact⟨v,Y',H',I.kN,r,q⟩
theorem XC.xO{st:List VA}(h:XC X.xO st t):XC X st t:=λbA s Y H D I hw =>
 AE (h bA s Y H D (I.BK _) hw) (λ_ _ q=>q.kN) λ_ _ z=>fG z
end
section
variable{st:VA}{aAc:List VA}
noncomputable def Lm:TS:=λD Y H=>D.nx Y H
noncomputable def aXa(t u:TS):TS:=λD Y H=>t { D with nx:=u D } Y H
def Hj:XC X [] Lm:=λ_ _ Y H _ I h=>lZ ⟨Y,H,I,h⟩
def P7(h1:PS X st t)(h2:XC X aAc u):XC X (st::aAc) (aXa t u):=by
 intro bA s Y H D I h;refine T9 (NA (h1 bA s Y H { D with nx:=u D } I h) λf s1 q=>?_)
 cases f with
 |next =>
  obtain⟨Y',H',I',q⟩:=q;exact h2 bA s1 Y' H' D I' q
 |ret v=>exact q
 |brk=>exact q
 |cont=>exact q
def qRa(h1:PS X st t):XC X [st] t:=by
 intro bA s Y H D I h;refine T9 (NA (h1 bA s Y H D I h) λf s1 q=>?_)
 cases f with
 |next=>exact lZ q
 |ret v=>exact q
 |brk=>exact q
 |cont=>exact q
noncomputable def hWa:TS:=λD Y H=>D.bk Y H
noncomputable def kWa:TS:=λD Y H=>D.ct Y H
def xQa:PS X (.Pass pos) Lm:=λ_ _ Y H _ I h=>wpAny_Pass ⟨Y,H,I,h⟩
def pQa:PS X (.Break pos) hWa:=λ_ _ Y H _ I h=>wpAny_Break ⟨Y,H,I,h⟩
def tQa:PS X (.Continue pos) kWa:=λ_ _ Y H _ I h=>wpAny_Continue ⟨Y,H,I,h⟩
def dA.quiet(I:dA X bA Y H s):interactive X.env=false:=by simp[interactive,I.ok.kind]
noncomputable def mWa(te:TE):TS:=λD Y H=>te Y H λ_ H1=>D.nx Y H1
def Dj(he:PE X e te)(hs:swapsWith e none pos.line X.env=pure false:=by rfl):PS X (.Expr e pos) (mWa te):=by
 intro bA s Y H D I h;exact wpAny_Expr_any (NA (he bA s Y H _ I h) λv s1 ⟨x,H1,I1,r1,q1⟩=>⟨Y,H1,I1,q1⟩) I.quiet hs
noncomputable def yWa(te:TE):TS:=λD Y H=>te Y H D.rt
def O7(he:PE X e te):PS X (.Return (some e) pos) (yWa te):=by
 intro bA s Y H D I h;exact wpAny_Return_some (NA (he bA s Y H _ I h) λv s1 ⟨x,H1,I1,r1,q1⟩=>⟨x,Y,H1,I1,r1,q1⟩)
noncomputable def zWa:TS:=λD _ H=>D.rt .oA H
def bRa:PS X (.Return none pos) zWa:=λ_ _ Y H _ I h=>wpAny_Return_none ⟨.oA,Y,H,I,rfl,h⟩
noncomputable def qWa(c:TT)(t u:TS):TS:=λD Y H=>c Y H λb H1=>if b=true then t D Y H1 else u D Y H1
def Fj(hc:PT X c tc)(ha:XC X a t)(hb:XC X b u):PS X (.If c a b pos) (qWa tc t u):=by
 intro bA s Y H D I h;refine wpAny_If (NA (hc bA s Y H _ I h) λd s1 hz=>?_);obtain⟨H1,I1,q1⟩:=hz
 cases d with
 |true=>exact ha bA s1 Y H1 D I1 q1
 |false=>exact hb bA s1 Y H1 D I1 q1
end
abbrev TG:=V->St->Hp->(St->Hp->Prop)->Prop
abbrev IP:=List V->St->Hp->(St->Hp->Prop)->Prop
def PG(X:Cx)(target:sA)(t:TG):Prop :=
 ∀(bA:List (eA×wB)) (s:xA) (Y:St) (H:Hp) (v:V) (u:cA) (Q:St->Hp->Prop),dA X bA Y H s->aAe v u->t v Y H Q ->
  AA (model X.prog X.w) X.A (assign target X.env u) (λ_ s'=>∃Y' H',dA X bA Y' H' s'/\Q Y' H') X.xe s
def UK(X:Cx)(ts:List sA)(t:IP):Prop :=
 ∀(bA:List (eA×wB)) (s:xA) (Y:St) (H:Hp) (vs:List V) (us:List cA) (Q:St->Hp->Prop),dA X bA Y H s->aAf vs us->t vs Y H Q ->
  AA (model X.prog X.w) X.A (assignInOrder ((vH ts X.env).map (·.2)) us) (λ_ s'=>∃Y' H',dA X bA Y' H' s'/\Q Y' H') X.xe s
abbrev fV:=V->V->V->Hp->(Hp->Prop)->Prop
def aV(X:Cx)(t:fV):Prop :=
 ∀(bA:List (eA×wB)) (s:xA) (Y:St) (H:Hp) (o i v:V) (ov iv u:cA) (Q:Hp->Prop),dA X bA Y H s->aAe o ov->aAe i iv->aAe v u->t o i v H Q ->
  AA (model X.prog X.w) X.A (setItem ov iv u) (λ_ s'=>∃H',dA X bA Y H' s'/\Q H') X.xe s
section
variable{pos:XB}
noncomputable def XN(i:Nat):TG:=λv Y H Q=>Q (Y.set i (some v)) H
def qj(hN:X.N.Nodup)(hi:X.N[i]?=some x)(hx:Loc X.env.scope x)(hf:X.fn x=true\/X.env.scope.names.lookup x=some .local:=by first | exact .inl rfl | exact .inr rfl | assumption):PG X (.Name x pos) (XN i):=by
 intro bA s Y H v u Q I r h;exact Dp (D8 I hN hi hx r (λs' I'=>⟨_,H,I',h⟩) hf)
noncomputable def Nz:IP:=λvs Y H Q=>vs=[]/\Q Y H
noncomputable def Mz(t:TG)(u:IP):IP:=λvs Y H Q=>∃v r,vs=v::r/\t v Y H λY' H'=>u r Y' H' Q
def sj:UK X [] Nz:=by
 intro bA s Y H vs us Q I r h;obtain⟨e,h⟩:=h;subst e;cases r;exact assignInOrder_nil ⟨Y,H,I,h⟩
def M7(h1:PG X e t)(h2:UK X es u)
  (hs:(vH (e::es) X.env).map (·.2)=assign e X.env::(vH es X.env).map (·.2):=by rfl):UK X (e::es) (Mz t u):=by
 intro bA s Y H vs us Q I r h;obtain⟨v,vr,e1,h⟩:=h;subst e1
 cases r with
 |cons r rr =>
  rw[hs];refine assignInOrder_cons (NA (h1 bA s Y H _ _ _ I r h) λ_ s1 hz=>?_);obtain⟨Y1,H1,I1,q1⟩:=hz;exact h2 bA s1 Y1 H1 _ _ Q I1 rr q1
noncomputable def Sz(K:fA)(n:Nat)(t:IP):TG:=λv Y H Q=>∃a xs,v=.ref a/\FC K H a xs/\xs.length=n/\t xs Y H Q
def rj(hc:X.calm=true)(h:UK X es t)
  (hn:(vH es X.env).length=n:=by rfl) (UM:(vH es X.env).findIdx? (·.1)=none:=by rfl):PG X (.Tuple es k pos) (Sz X.K n t):=by
 intro bA s Y H v u Q I r hw;obtain⟨a,xs,e1,hq,hl,hw⟩:=hw;subst e1;cases r;obtain⟨gA,rv,ht,hz⟩:=I.tuple hq;refine assign_Tuple_tuple (I.ok.hd hc) ht (by simp[hn,<- hl,rv.length]) UM λh' hx=>?_
 have I1:dA X bA Y H { s with heap:=h' }:=I.kept (t':=s.toks) λb o e=>hx b o (zE (xC e)) e
 exact h bA _ Y H xs _ Q I1 (by simpa using rv) hw
noncomputable def uW(to ti:TE)(t:fV):TG:=λv Y H Q=>to Y H λo H1=>ti Y H1 λi H2=>t o i v H2 λH3=>Q Y H3
def dY(ho:PE X o to)(hi:PE X i ti)(hs:aV X t)
  (ha:∀v,assign (.Subscript o i pos) X.env v=(do
   let ov <- holding [v] (eval o X.env)
   let iv <- holding [v,ov] (eval i X.env)
   standAt pos
   holding [v,ov,iv] (setItem ov iv v)
   release [v,ov,iv] []):=by intro _;rfl):PG X (.Subscript o i pos) (uW to ti t):=by
 intro bA s Y H v u Q I r h;rw[ha];refine FA (WL (NA (ho bA s Y H _ I h) λov s1 hz=>?_));obtain⟨x,H1,I1,r1,q1⟩:=hz;refine FA (WL (NA (hi bA s1 Y H1 _ I1 q1) λiv s2 hz=>?_));obtain⟨y,H2,I2,r2,q2⟩:=hz;refine FA (YL (FA (WL (NA (hs bA s2 Y H2 x y v ov iv u _ I2 r1 r2 r q2) λ_ s3 hz=>?_))));obtain⟨H3,I3,q3⟩:=hz;exact wpAny_release ⟨Y,H3,I3,q3⟩
noncomputable def HY(te:TE)(g:TG):TS:=λD Y H=>te Y H λx H1=>g x Y H1 D.nx
def OQ(he:PE X e te)(hg:PG X tg g)(hs:swapsWithSole [tg] e pos.line X.env=pure false:=by rfl)(hw:swappedStores [tg] e X.env=pure none:=by rfl)
  (h1:(vH [tg] X.env).map (·.2)=[assign tg X.env]:=by rfl):PS X (.Assign [tg] e pos) (HY te g):=by
 intro bA s Y H D I h;refine wpAny_Assign_stores (NA (he bA s Y H _ I h) λv s1 hz=>?_) hs hw;obtain⟨x,H1,I1,r1,q1⟩:=hz;rw[h1];exact NA (hg bA s1 Y H1 x v _ I1 r1 q1) λ_ s2 q=>q
def Gj(hN:X.N.Nodup)(hi:X.N[i]?=some x)(hx:Loc X.env.scope x)(he:PE X e te)(hs:swapsWith e (some (.Name x pos')) pos.line X.env=pure false:=by rfl)(hf:X.fn x=true\/X.env.scope.names.lookup x=some .local:=by first | exact .inl rfl | exact .inr rfl | assumption) :
  PS X (.Assign [.Name x pos'] e pos) (HY te (XN i)):=by
 intro bA s Y H D I h;refine wpAny_Assign_Name (NA (he bA s Y H _ I h) λv s1 hz=>?_) hs;obtain⟨y,H1,I1,r1,q1⟩:=hz;exact D8 I1 hN hi hx r1 (λs2 I2=>⟨_,H1,I2,q1⟩) hf
end
structure It where
 go:Nat->Hp->Prop
 nN:Nat->Hp->V->Hp->Prop
 stop:Nat->Hp->Prop
def yC(X:Cx)(bA:List (eA×wB))(H:Hp)(b:eA):Prop :=
 H b=none/\b≠X.env.locals/\b ∉ X.fs/\(b∈X.ex\/X.s₀.heap.get? b=none)/\(∀x c,X.env.cells.lookup x=some c->c≠b)/\∀p∈X.pn++bA,p.1≠b
def dA.LM(I:dA X bA Y H s)(hb:s.heap.objs.size<=b)(hn:H' b=none):yC X bA H' b:=by
 refine⟨hn,HU (kE I.lt hb),I.nJa hb,.inr (aP (uE I.sz hb)),λx c e z=>?_,λp hp z=>?_⟩
 ·obtain⟨v,q⟩:=I.cell x c e;exact absurd (kE q.lt (by rw[z];exact hb)) (nP _)
 ·exact absurd (kE (xC (I.pin p hp).1) (by rw[z];exact hb)) (nP _)
structure Turn(P:HD)(w:DC)(K:fA)(tg:sA)(J:It)(fp:List eA)(it:eA)(tn:Nat->DB->Prop):Prop where
 mem:it∈fp
 obj:∀i h,tn i h->∀b∈fp,∃o,h.get? b=some o/\∀v,o.data≠.cell v
 keep:∀i h h',tn i h->(∀b∈fp,∀o,h.get? b=some o->h'.get? b=some o)->tn i h'
 item:∀(X:Cx),X.prog=P->X.w=w->X.K=K->X.calm=true->∀(i:Nat) (bA:List (eA×wB)) (s:xA) (Y:St) (H:Hp) (E:cA->xA->Prop),dA X bA Y H s->(∀b∈fp,yC X bA H b)->tn i s.heap->J.go i H ->
  AA (model P w) X.A (pyNext (.ref it)) (λr s1=>∃u,r=some u /\
   AA (model P w) X.A (letOwnedTupleGo tg (.ref it) u) (λ_ s2=>∃x H',dA X bA Y H' s2/\aAe x u/\J.nN i H x H'/\tn (i+1) s2.heap/\∀b∈fp,H' b=none) E s1) E s
 done:∀(X:Cx),X.prog=P->X.w=w->X.K=K->X.calm=true->∀(i:Nat) (bA:List (eA×wB)) (s:xA) (Y:St) (H:Hp) (E:cA->xA->Prop),dA X bA Y H s->(∀b∈fp,yC X bA H b)->tn i s.heap->J.stop i H ->
  AA (model P w) X.A (pyNext (.ref it)) (λr s1=>r=none/\dA X bA Y H s1) E s
 self:∀(A:tF) (i:Nat) (s:xA) (Q:cA->xA->Prop) (E:cA->xA->Prop),tn i s.heap->Q (.ref it) s->AA (model P w) A (pyIter (.ref it)) Q E s
abbrev TI:=St->Hp->(It->Hp->Prop)->Prop
def Jb(X:Cx)(bA:List (eA×wB))(Y:St)(tg:sA)(R:It->Hp->Prop)(U5:cA)(s2:xA):Prop :=
 ∃(it:eA) (fp:List eA) (tn:Nat->DB->Prop) (J:It) (H':Hp),U5=.ref it/\dA X bA Y H' s2/\Turn X.prog X.w X.K tg J fp it tn/\tn 0 s2.heap/\(∀b∈fp,yC X bA H' b)/\R J H'
def PI(X:Cx)(tg RA:sA)(wi:TI):Prop :=
 ∀(bA:List (eA×wB)) (s:xA) (Y:St) (H:Hp) (R:It->Hp->Prop),dA X bA Y H s->wi Y H R ->
  AA (model X.prog X.w) X.A (eval RA X.env) (λv s1=>AA (model X.prog X.w) X.A (pyIter v) (Jb X bA Y tg R) X.xe s1) X.xe s
def xW(ho:s.heap.get? it=some o)(hc:o.cls=.type n)(hd:o.data=.fields vs)
  (hn:["enumerate","zip","dict_itemiterator","dict_reverseitemiterator","odict_iterator","itertools.zip_longest","itertools.pairwise"].contains n=false) (hQ:Q () s):AA M A (letOwnedTupleGo tg (.ref it) u) Q E s:=by
 unfold letOwnedTupleGo
 cases tg<;>first
  |exact LB hQ
  | (cases u<;>first
    |exact LB hQ
    | (refine FA (wpAny_load ho ?_)
       rw[hc,hd];show AA M A (if(["enumerate","zip","dict_itemiterator","dict_reverseitemiterator","odict_iterator","itertools.zip_longest","itertools.pairwise"].contains n&&vs[0]? == some (rawInt _))=true then _ else _) Q E s;rw[qB (by intro h;rw[hn,iI] at h;cases h)]
       exact LB hQ))
noncomputable def oM(K:fA)(a:eA):It :=
 ⟨λi H=>∃xs x,CB K H a xs/\xs[i]?=some x,λi H x H'=>H'=H/\∀xs,CB K H a xs->xs[i]?=some x,λi H=>∃xs,CB K H a xs/\xs.length<=i⟩
noncomputable def pM(K:fA)(a:eA):It :=
 ⟨λi H=>∃xs x,FC K H a xs/\xs[i]?=some x,λi H x H'=>H'=H/\∀xs,FC K H a xs->xs[i]?=some x,λi H=>∃xs,FC K H a xs/\xs.length<=i⟩
noncomputable def RJ(lo:Int)(n:Nat):It:=⟨λi _=>i<n,λi H x H'=>H'=H/\x=.int (lo+i),λi _=>n<=i⟩
def rXa{K:fA}(a it:eA):Turn P w K tg (oM K a) [it] it (λi h=>h.IsListIter it a i) where
 mem:=by simp
 obj:=λi h st b hb=>by
  have e:b=it:=by simpa using hb
  subst e;obtain⟨o,e,c,d⟩:=st;exact⟨o,e,λv z=>by rw[d] at z;cases z⟩
 keep:=λi h h' st k=>st.at λo e=>k it (by simp) o e
 item:=by
  intro X hP hw hK hc i bA s Y H E I hf st hg;subst hP hw hK;obtain⟨xs,x,hq,hx⟩:=hg;obtain⟨gA,rv,p,hz⟩:=I.list hq;obtain⟨u,hu,ru⟩:=rv.get hx;obtain⟨f0,f1,f2,f3,f4,f5⟩:=hf it (by simp);refine wpAny_pyNext_list_item st p.isList (x:=u) (by simpa using hu) λh' yJ sb=>?_
  have I1:dA X bA Y H { s with heap:=h' }:=I.turned (t':=s.toks) (λb o hb e=>(sb.2 b hb).trans e) f0 f1 f3 f4 f5;obtain⟨o,e,c,d⟩:=id yJ;exact⟨u,rfl,xW (s:={ s with heap:=h' }) e c d (by decide) ⟨x,H,I1,ru,⟨rfl,λys hy=>by rw[I.Yh hy hq];exact hx⟩,yJ,λb hb=>(hf b hb).1⟩⟩
 done:=by(intro X hP hw hK hc i bA s Y H E I hf st hg;subst hP hw hK;obtain⟨xs,hq,hx⟩:=hg;obtain⟨gA,rv,p,hz⟩:=I.list hq;obtain⟨f0,f1,f2,f3,f4,f5⟩:=hf it (by simp);have hl:=rv.length;exact wpAny_pyNext_list_end (I.ok.hd hc) st p.isList (by simp;lia) λh' eb=>⟨rfl,I.turned (t':=s.toks) (λb o hb e=>eb b o hb e) f0 f1 f3 f4 f5⟩)
 self:=λ_ _ _ _ _ st h=>wpAny_pyIter_listiter st h
def uXa{K:fA}(a it:eA):Turn P w K tg (pM K a) [it] it (λi h=>h.IsTupleIter it a i) where
 mem:=by simp
 obj:=λi h st b hb=>by
  have e:b=it:=by simpa using hb
  subst e;obtain⟨o,e,c,d⟩:=st;exact⟨o,e,λv z=>by rw[d] at z;cases z⟩
 keep:=λi h h' st k=>st.at λo e=>k it (by simp) o e
 item:=by
  intro X hP hw hK hc i bA s Y H E I hf st hg;subst hP hw hK;obtain⟨xs,x,hq,hx⟩:=hg;obtain⟨gA,rv,p,hz⟩:=I.tuple hq;obtain⟨u,hu,ru⟩:=rv.get hx;obtain⟨f0,f1,f2,f3,f4,f5⟩:=hf it (by simp);refine wpAny_pyNext_tuple_item st (show s.heap.IsTuple a gA.toArray from p) (x:=u) (by simpa using hu) λh' yJ sb=>?_
  have I1:dA X bA Y H { s with heap:=h' }:=I.turned (t':=s.toks) (λb o hb e=>(sb.2 b hb).trans e) f0 f1 f3 f4 f5;obtain⟨o,e,c,d⟩:=id yJ;exact⟨u,rfl,xW (s:={ s with heap:=h' }) e c d (by decide) ⟨x,H,I1,ru,⟨rfl,λys hy=>by rw[I.qXa hy hq];exact hx⟩,yJ,λb hb=>(hf b hb).1⟩⟩
 done:=by(intro X hP hw hK hc i bA s Y H E I hf st hg;subst hP hw hK;obtain⟨xs,hq,hx⟩:=hg;obtain⟨gA,rv,p,hz⟩:=I.tuple hq;obtain⟨f0,f1,f2,f3,f4,f5⟩:=hf it (by simp);have hl:=rv.length;exact wpAny_pyNext_tuple_end (I.ok.hd hc) st (show s.heap.IsTuple a gA.toArray from p) (by simp;lia) λh' eb=>⟨rfl,I.turned (t':=s.toks) (λb o hb e=>eb b o hb e) f0 f1 f3 f4 f5⟩)
 self:=λ_ _ _ _ _ st h=>wpAny_pyIter_tupleiter st h
def sXa{K:fA}(it:eA)(lo:Int)(n:Nat):Turn P w K tg (RJ lo n) [it] it (λi h=>IsRangeIter h it (lo+(i:Nat)*1) ((n:Int)-(i:Nat)) 1) where
 mem:=by simp
 obj:=λi h st b hb=>by
  have e:b=it:=by simpa using hb
  subst e
  exact⟨_,st,λv z=>by
   have z':Data.fields _=Data.cell v:=z
   cases z'⟩
 keep:=λi h h' st k=>k it (by simp) _ st
 item:=by
  intro X hP hw hK hc i bA s Y H E I hf st hg;subst hP hw hK;obtain⟨f0,f1,f2,f3,f4,f5⟩:=hf it (by simp);have W:=Walks.range (prog:=X.prog) (w:=X.w) (I.ok.hd hc) it lo 1 n;refine W.item i s _ _ hg st λv h' tk hv yJ kk=>?_
  obtain⟨t,rfl⟩:=hv;have I1:dA X bA Y H { s with heap:=h',toks:=tk }:=I.turned (λb o hb e=>kk b o (by simpa using hb) e) f0 f1 f3 f4 f5;refine⟨_,rfl,xW (s:={ s with heap:=h',toks:=tk }) (n:="range_iterator") yJ rfl rfl (by decide) ⟨.int (lo+i),H,I1,⟨t, ?_⟩,⟨rfl,rfl⟩,yJ,λb hb=>(hf b hb).1⟩⟩;rw[Int.mul_one]
 done:=by(intro X hP hw hK hc i bA s Y H E I hf st hg;subst hP hw hK;obtain⟨f0,f1,f2,f3,f4,f5⟩:=hf it (by simp);exact wpAny_pyNext_range_end (I.ok.hd hc) st (by have:n<=i:=hg;lia) λh' eb=>⟨rfl,I.turned (t':=s.toks) (λb o hb e=>eb b o hb e) f0 f1 f3 f4 f5⟩)
 self:=λ_ _ _ _ _ st h=>wpAny_pyIter_rangeiter st h
section
variable{tg:sA}
noncomputable def Pf(K:fA)(tl:TE):TI:=λY H R=>tl Y H λx H1=>∃a,x=.ref a/\(∃xs,CB K H1 a xs)/\R (oM K a) H1
noncomputable def Tf(K:fA)(tl:TE):TI:=λY H R=>tl Y H λx H1=>∃a,x=.ref a/\(∃xs,FC K H1 a xs)/\R (pM K a) H1
def uj(hl:PE X l tl):PI X tg l (Pf X.K tl):=by
 intro bA s Y H R I h;refine NA (hl bA s Y H _ I h) λv s1 hz=>?_
 obtain⟨x,H1,I1,r1,q1⟩:=hz;obtain⟨a,e,⟨xs,hq⟩,q⟩:=q1;subst e;cases r1;obtain⟨gA,rv,p,hz⟩:=I1.list hq;refine sU p.isList ?_;refine⟨s1.heap.objs.size,[s1.heap.objs.size],_,_,H1,rfl,I1.kept (t':=s1.toks) λb o e=>lD _ e,rXa a _,⟨_,zH _ rfl,rfl,rfl⟩,λb hb=>?_,q⟩;have e:b=s1.heap.objs.size:=by simpa using hb
 subst e;exact I1.LM (HB _) (I1.HA.fresh (HB _))
def xj(hl:PE X l tl):PI X tg l (Tf X.K tl):=by
 intro bA s Y H R I h;refine NA (hl bA s Y H _ I h) λv s1 hz=>?_
 obtain⟨x,H1,I1,r1,q1⟩:=hz;obtain⟨a,e,⟨xs,hq⟩,q⟩:=q1;subst e;cases r1;obtain⟨gA,rv,p,hz⟩:=I1.tuple hq;refine wpAny_pyIter_tuple (show s1.heap.IsTuple a gA.toArray from p) ?_;refine⟨s1.heap.objs.size,[s1.heap.objs.size],_,_,H1,rfl,I1.kept (t':=s1.toks) λb o e=>lD _ e,uXa a _,⟨_,zH _ rfl,rfl,rfl⟩,λb hb=>?_,q⟩;have e:b=s1.heap.objs.size:=by simpa using hb
 subst e;exact I1.LM (HB _) (I1.HA.fresh (HB _))
def Rj{lo hi:Int}(I:dA X bA Y H s)(h1:-(2 ^ 62)<=lo)(h2:lo<2 ^ 62)(h3:-(2 ^ 62)<=hi)(h4:hi<2 ^ 62)
  (q:R (RJ lo (hi-lo).toNat) H):AA (model X.prog X.w) X.A (pyIter (.ref s.heap.objs.size)) (Jb X bA Y tg R) E { s with heap:=s.heap.push { cls:=.type "range",data:=.fields #[.int lo t,.int hi u,.int 1 v] },toks:=tk }:=by
 refine wpAny_pyIter_range (IsRange.new ..) (small_one h1 h2 h3 h4) ?_;have I1:dA X bA Y H { s with heap:=s.heap.push { cls:=.type "range",data:=.fields #[.int lo t,.int hi u,.int 1 v] },toks:=tk }:=I.kept λb o e=>lD _ e
 refine⟨(s.heap.push { cls:=.type "range",data:=.fields #[.int lo t,.int hi u,.int 1 v] }).objs.size,[(s.heap.push { cls:=.type "range",data:=.fields #[.int lo t,.int hi u,.int 1 v] }).objs.size],_,_,H,rfl,
  I1.kept (t':=tk) λb o e=>lD _ e,sXa _ lo (hi-lo).toNat, ?_,λb hb=>?_,q⟩
 ·have e1:lo+((0:Nat):Int)*1=lo:=by simp
  have e2:(((hi-lo).toNat:Nat):Int)-((0:Nat):Int)=Builtin.Range.rangeSize lo hi 1:=by rw[rangeSize_one];split<;>lia
  show IsRangeIter _ _ (lo+((0:Nat):Int)*1) ((((hi-lo).toNat:Nat):Int)-((0:Nat):Int)) 1;rw[e1,e2];exact zH _ rfl
 ·have e:b=(s.heap.push { cls:=.type "range",data:=.fields #[.int lo t,.int hi u,.int 1 v] }).objs.size:=by simpa using hb
  subst e;exact I1.LM (HB _) (I1.HA.fresh (HB _))
noncomputable def Qf(ta:TA):TI:=λY H R=>ta Y H λvs H1=>∃j:Int,vs=[.int j]/\-(2 ^ 62)<=j/\j<2 ^ 62/\R (RJ 0 j.toNat) H1
noncomputable def Rf(ta:TA):TI:=λY H R=>ta Y H λvs H1=>∃i j:Int,vs=[.int i,.int j]/\(-(2 ^ 62)<=i/\i<2 ^ 62/\-(2 ^ 62)<=j/\j<2 ^ 62)/\R (RJ i (j-i).toNat) H1
def vj{p pos:XB}(hg:Gl X "range")(hm:X.mg "range"=none)(ha:PA X [a] ta)(hs:UB [a] X.env=[(false,eval a X.env)]:=by rfl):PI X tg (.Call (.Name "range" p) [a] [] pos) (Qf ta):=by
 intro bA s Y H R I h;refine Call_ (qO I hg hm boot_range (RY (NA (ha pos bA s Y H _ I h) λus s1 hz=>?_) hs rfl));obtain⟨vs,H1,I1,r1,q1⟩:=hz;obtain⟨j,e,q1,q2,q⟩:=q1;subst e
 cases r1 with
 |cons r rr =>
  cases rr;obtain⟨t,rfl⟩:=r;exact call_range_1 (Rj I1 (by lia) (by lia) q1 q2 (by simpa using q))
def wj(hg:Gl X "range")(hm:X.mg "range"=none)(ha:PA X [a,b] ta)(hs:UB [a,b] X.env=[(false,eval a X.env),(false,eval b X.env)]:=by rfl)(UH:UB [b] X.env=[(false,eval b X.env)]:=by rfl) :
  PI X tg (.Call (.Name "range" p) [a,b] [] pos) (Rf ta):=by
 intro bA s Y H R I h;refine Call_ (qO I hg hm boot_range (RY (NA (ha pos bA s Y H _ I h) λus s1 hz=>?_) (by rw[hs,UH]) (by rw[UH];rfl)));obtain⟨vs,H1,I1,r1,q1⟩:=hz;obtain⟨i,j,e,⟨q1,q2,q3,q4⟩,q⟩:=q1;subst e
 cases r1 with
 |cons r rr =>
  cases rr with
  |cons r' rr =>
   cases rr;obtain⟨t,rfl⟩:=r;obtain⟨t',rfl⟩:=r';exact call_range_2 (Rj I1 q1 q2 q3 q4 q)
noncomputable def nWa(wi:TI)(g:TG)(tb:TS):TS:=λD Y H=>wi Y H λJ H1=>∃W:Nat->Nat->St->Hp->Prop,(∃m,W 0 m Y H1)/\∀i m Y H,W i m Y H ->
 (J.stop i H/\D.nx Y H)\/(J.go i H/\∃N:St->Hp->Prop,(∀Y' H',N Y' H'->∃m',m'<m/\W (i+1) m' Y' H')/\∀x H',J.nN i H x H'->g x Y H' λY2 H2=>tb { D with nx:=N,ct:=N,bk:=D.nx } Y2 H2)
noncomputable def uT(fp:List eA)(h:DB):List (eA×wB):=fp.filterMap λb=>(h.get? b).map λo=>(b,o)
def GX(hb:b∈fp)(e:h.get? b=some o):(b,o)∈uT fp h:=F9.mpr ⟨b,hb,by rw[e];rfl⟩
def bKa(hp:p∈uT fp h):p.1∈fp/\h.get? p.1=some p.2:=by
 obtain⟨b,hb,e⟩:=F9.mp hp
 cases q:h.get? b with
 |none=>rw[q] at e;cases e
 |some o =>
  rw[q] at e;have e':(b,o)=p:=uF e;subst e';exact⟨hb,q⟩
def dA.pinned(I:dA X bA Y H s)(hf:∀b∈fp,yC X bA H b)(ho:∀b∈fp,∃o,s.heap.get? b=some o/\∀v,o.data≠.cell v):dA X (bA++uT fp s.heap) Y H s :=
 I.yj λp hp=>(CG.mp hp).elim (λz=>I.pin p (yH _ z)) λz=>by(obtain⟨hb,e⟩:=bKa z;obtain⟨f0,f1,f2,_⟩:=hf p.1 hb;obtain⟨o,e',d⟩:=ho p.1 hb;rw[e] at e';cases e';exact⟨e,f0,f1,f2,d⟩)
def dA.OY(I:dA X (bA++pl) Y H s):dA X bA Y H s:=I.yj λp hp=>I.pin p (yH _ (oN _ hp))
def Ej(hp:xN (model X.prog X.w) X.A X.env X.xe)(hc:X.calm=true)(hi:PI X tg RA wi)(hg:PG X tg g)(hb:XC X body tb)
  (hs:∀x,OJ RA X.env x=pure x:=by intro _;rfl):PS X (.For tg RA body [] pos) (nWa wi g tb):=by
 intro bA s Y H D I h;refine wpAny_For (NA (hi bA s Y H _ I h) λv s1 h1=>NA h1 λU5 s2 h2=>?_) hs;obtain⟨it,fp,tn,J,H2,e,I2,T,yY,f2,W,⟨m0,w0⟩,turn⟩:=h2;subst e
 -- Ln stays true of JE q0a objects through JE loop
 have KO:∀{H':Hp},(∀b∈fp,H' b=none)->∀b∈fp,yC X bA H' b:=λhn b hb=>⟨hn b hb,(f2 b hb).2⟩
 refine codeAny_forLoop_any (λn s'=>∃i Y' H',dA X bA Y' H' s'/\tn i s'.heap/\(∀b∈fp,H' b=none)/\W i n Y' H') ?_ m0 ⟨0,Y,H2,I2,yY,λb hb=>(f2 b hb).1,w0⟩
 rintro n s3 ⟨i,Y3,H3,I3,Nk,Ge,w3⟩
 rcases turn i n Y3 H3 w3 with ⟨stop,qn⟩ | ⟨go,N,hN,step⟩
 ·refine xU hp (NA (T.done X rfl rfl rfl hc i bA s3 Y3 H3 X.xe I3 (KO Ge) Nk stop) λr s4 hz=>?_);obtain⟨hr,I4⟩:=hz;subst hr;exact lZ ⟨Y3,H3,I4,qn⟩
 ·refine xU hp (NA (T.item X rfl rfl rfl hc i bA s3 Y3 H3 X.xe I3 (KO Ge) Nk go) λr s4 hz=>?_);obtain⟨u,hr,h4⟩:=hz;subst hr;refine xU hp (NA h4 λ_ s5 hz=>?_);obtain⟨x,H5,I5,r5,y5,ZQ,sW⟩:=hz;have Dq:=I5.pinned (KO sW) (T.obj _ _ ZQ);refine xU hp (NA (hg _ s5 Y3 H5 x u _ Dq r5 (step x H5 y5)) λ_ s6 hz=>?_);obtain⟨Y6,H6,I6,q6⟩:=hz;refine xU hp (NA (hb _ s6 Y6 H6 _ I6 q6) λf s7 q7=>?_)
  have again:∀{Y7:St} {H7:Hp},dA X (bA++uT fp s5.heap) Y7 H7 s7->N Y7 H7->∃m,m<n/\∃i Y' H',dA X bA Y' H' s7/\tn i s7.heap/\(∀b∈fp,H' b=none)/\W i m Y' H':=λ{Y7 H7} I7 n7=>by(obtain⟨m',hm,w7⟩:=hN Y7 H7 n7;refine⟨m',hm,i+1,Y7,H7,I7.OY,T.keep _ _ _ ZQ λb hb o e=>(I7.pin (b,o) (yH _ (yH _ (GX hb e)))).1,λb hb=>?_,w7⟩;obtain⟨o,e,d⟩:=T.obj _ _ ZQ b hb;exact(I7.pin (b,o) (yH _ (yH _ (GX hb e)))).2.1)
  cases f with
  |next=>obtain⟨Y7,H7,I7,n7⟩:=q7;exact again I7 n7
  |cont=>obtain⟨Y7,H7,I7,n7⟩:=q7;exact again I7 n7
  |brk=>obtain⟨Y7,H7,I7,q7⟩:=q7;exact⟨Y7,H7,I7.OY,q7⟩
  |ret v=>obtain⟨x7,Y7,H7,I7,r7,q7⟩:=q7;exact⟨x7,Y7,H7,I7.OY,r7,q7⟩
end
def ze{K:fA}{g:TG}{tb:TS}{D:Ends}(Pv:Nat->St->Hp->Prop)(h0:Pv 0 Y H)(hl:∀i Y H,i<=xs.length->Pv i Y H->CB K H a xs)
  (hs:∀i x Y H,xs[i]?=some x->Pv i Y H->g x Y H λY2 H2=>tb { D with nx:=Pv (i+1),ct:=Pv (i+1),bk:=D.nx } Y2 H2) (hd:∀Y H,Pv xs.length Y H->D.nx Y H) :
  ∃W:Nat->Nat->St->Hp->Prop,(∃m,W 0 m Y H)/\∀i m Y H,W i m Y H ->
   ((oM K a).stop i H/\D.nx Y H)\/((oM K a).go i H/\∃N:St->Hp->Prop,(∀Y' H',N Y' H'->∃m',m'<m/\W (i+1) m' Y' H')/\∀x H',(oM K a).nN i H x H'->g x Y H' λY2 H2=>tb { D with nx:=N,ct:=N,bk:=D.nx } Y2 H2):=by
 refine⟨λi m Y H=>m=xs.length-i/\i<=xs.length/\Pv i Y H,⟨xs.length,by simp,cM _,h0⟩, ?_⟩
 rintro i m Y H ⟨rfl,hi,p⟩
 have q:=hl i Y H hi p;by_cases wD:i<xs.length
 ·refine .inr ⟨⟨xs,xs[i],q,by simp[wD]⟩,Pv (i+1),λY' H' p'=>⟨xs.length-(i+1),by lia,rfl,wD,p'⟩,λx H' y=>?_⟩;obtain⟨e,y⟩:=y;subst e;exact hs i x Y _ (y xs q) p
 ·have e:i=xs.length:=by lia
  subst e;exact .inl ⟨⟨xs,q,HB _⟩,hd Y H p⟩
def Ce{K:fA}{g:TG}{tb:TS}{D:Ends}(Pv:Nat->St->Hp->Prop)(h0:Pv 0 Y H)(hl:∀i Y H,i<=xs.length->Pv i Y H->FC K H a xs)
  (hs:∀i x Y H,xs[i]?=some x->Pv i Y H->g x Y H λY2 H2=>tb { D with nx:=Pv (i+1),ct:=Pv (i+1),bk:=D.nx } Y2 H2) (hd:∀Y H,Pv xs.length Y H->D.nx Y H) :
  ∃W:Nat->Nat->St->Hp->Prop,(∃m,W 0 m Y H)/\∀i m Y H,W i m Y H ->
   ((pM K a).stop i H/\D.nx Y H)\/((pM K a).go i H/\∃N:St->Hp->Prop,(∀Y' H',N Y' H'->∃m',m'<m/\W (i+1) m' Y' H')/\∀x H',(pM K a).nN i H x H'->g x Y H' λY2 H2=>tb { D with nx:=N,ct:=N,bk:=D.nx } Y2 H2):=by
 refine⟨λi m Y H=>m=xs.length-i/\i<=xs.length/\Pv i Y H,⟨xs.length,by simp,cM _,h0⟩, ?_⟩
 rintro i m Y H ⟨rfl,hi,p⟩
 have q:=hl i Y H hi p;by_cases wD:i<xs.length
 ·refine .inr ⟨⟨xs,xs[i],q,by simp[wD]⟩,Pv (i+1),λY' H' p'=>⟨xs.length-(i+1),by lia,rfl,wD,p'⟩,λx H' y=>?_⟩;obtain⟨e,y⟩:=y;subst e;exact hs i x Y _ (y xs q) p
 ·have e:i=xs.length:=by lia
  subst e;exact .inl ⟨⟨xs,q,HB _⟩,hd Y H p⟩
def Be{lo:Int}{g:TG}{tb:TS}{D:Ends}(Pv:Nat->St->Hp->Prop)(h0:Pv 0 Y H)
  (hs:∀i Y H,i<n->Pv i Y H->g (.int (lo+i)) Y H λY2 H2=>tb { D with nx:=Pv (i+1),ct:=Pv (i+1),bk:=D.nx } Y2 H2) (hd:∀Y H,Pv n Y H->D.nx Y H) :
  ∃W:Nat->Nat->St->Hp->Prop,(∃m,W 0 m Y H)/\∀i m Y H,W i m Y H ->
   ((RJ lo n).stop i H/\D.nx Y H)\/((RJ lo n).go i H/\∃N:St->Hp->Prop,(∀Y' H',N Y' H'->∃m',m'<m/\W (i+1) m' Y' H')/\∀x H',(RJ lo n).nN i H x H'->g x Y H' λY2 H2=>tb { D with nx:=N,ct:=N,bk:=D.nx } Y2 H2):=by
 refine⟨λi m Y H=>m=n-i/\i<=n/\Pv i Y H,⟨n,by simp,cM _,h0⟩, ?_⟩
 rintro i m Y H ⟨rfl,hi,p⟩
 by_cases wD:i<n
 ·refine .inr ⟨wD,Pv (i+1),λY' H' p'=>⟨n-(i+1),by lia,rfl,wD,p'⟩,λx H' y=>?_⟩;obtain⟨e,y⟩:=y;subst e y;exact hs i Y _ wD p
 ·have e:i=n:=by lia
  subst e;exact .inl ⟨HB _,hd Y H p⟩
abbrev R2:=V->V->Hp->VK->Prop
def EC(X:Cx)(f:cA->cA->Sem cA)(r:R2):Prop :=
 ∀(bA:List (eA×wB)) (s:xA) (Y:St) (H:Hp) (x y:V) (v u:cA) (Q:VK),dA X bA Y H s->aAe x v->aAe y u->r x y H Q ->
  AA (model X.prog X.w) X.A (f v u) (EP X bA Y Q) X.xe s
def LZ(X:Cx)(f:cA->Sem cA)(r:V->Hp->VK->Prop):Prop :=
 ∀(bA:List (eA×wB)) (s:xA) (Y:St) (H:Hp) (x:V) (v:cA) (Q:VK),dA X bA Y H s->aAe x v->r x H Q ->
  AA (model X.prog X.w) X.A (f v) (EP X bA Y Q) X.xe s
def qG(X:Cx)(f:cA)(r:List V->Hp->VK->Prop):Prop :=
 ∀(bA:List (eA×wB)) (s:xA) (Y:St) (H:Hp) (xs:List V) (us:List cA) (Q:VK),dA X bA Y H s->aAf xs us->r xs H Q ->
  AA (model X.prog X.w) X.A (call f us) (EP X bA Y Q) X.xe s
def Ss(X:Cx)(r:V->Hp->(Bool->Hp->Prop)->Prop):Prop :=
 ∀(bA:List (eA×wB)) (s:xA) (Y:St) (H:Hp) (x:V) (v:cA) (Q:Bool->Hp->Prop),dA X bA Y H s->aAe x v->r x H Q ->
  AA (model X.prog X.w) X.A (truthy v) (TP X bA Y Q) X.xe s
noncomputable def XT(r:R2)(ta tb:TE):TE:=λY H Q=>ta Y H λx H1=>tb Y H1 λy H2=>r x y H2 Q
noncomputable def tUn(r:V->Hp->VK->Prop)(ta:TE):TE:=λY H Q=>ta Y H λx H1=>r x H1 Q
noncomputable def rI(C:Int->Int->Prop)(g:Int->Int->V):R2:=λx y H Q=>∃i j,x=.int i/\y=.int j/\C i j/\Q (g i j) H
noncomputable def vK(g:Int->Int->V):R2:=λx y H Q=>∃i j,x=.int i/\y=.int j/\Q (g i j) H
def rU(g:Int->V):V->Hp->VK->Prop:=λx H Q=>∃i,x=.int i/\Q (g i) H
section
variable{pos:XB}
def B0(ha:PE X a ta)(hb:PE X b tb){R:V->V->Hp->Prop}(I:dA X bA Y H s)
  (h:ta Y H λx H1=>tb Y H1 λy H2=>R x y H2) {f:cA->cA->Sem cA}
  (hf:∀v u s2 x y H2,dA X bA Y H2 s2->aAe x v->aAe y u->R x y H2->AA (model X.prog X.w) X.A (f v u) Q X.xe s2) :
  AA (model X.prog X.w) X.A (eval a X.env) (λv s₁=>AA (model X.prog X.w) X.A (eval b X.env) (λu s₂=>AA (model X.prog X.w) X.A (f v u) Q X.xe s₂) X.xe s₁) X.xe s:=by
 refine NA (ha bA s Y H _ I h) λv s1 hz=>?_
 obtain⟨x,H1,I1,r1,q1⟩:=hz;refine NA (hb bA s1 Y H1 _ I1 q1) λu s2 hz=>?_
 obtain⟨y,H2,I2,r2,q2⟩:=hz;exact hf v u s2 x y H2 I2 r1 r2 q2
def gPa(ho:EC X (gG op) r)(ha:PE X a ta)(hb:PE X b tb):PE X (.BinOp a op b pos) (XT r ta tb):=by
 intro bA s Y H Q I h;exact wpAny_BinOp (B0 ha hb I h λv u s2 x y H2 I2 rx ry q=>ho bA s2 Y H2 x y v u Q I2 rx ry q)
def iPa(ho:LZ X (unaryOp op) r)(ha:PE X a ta):PE X (.UnaryOp op a pos) (tUn r ta):=by
 intro bA s Y H Q I h;exact UnaryOp_ (NA (ha bA s Y H _ I h) λv s1 ⟨x,H1,I1,r1,q1⟩=>ho bA s1 Y H1 x v Q I1 r1 q1)
def qT{g:Int->Int->Int}
  (rule:∀(i j:Int) (t u:iG) (s:xA) (Q:cA->xA->Prop) (E:cA->xA->Prop),C i j->Q (.int (g i j) s.toks) { s with toks:=s.toks+1 }->AA (model X.prog X.w) X.A (f (.int i t) (.int j u)) Q E s) :
  EC X f (rI C λi j=>.int (g i j)):=by
 intro bA s Y H x y v u Q I rx ry h;obtain⟨i,j,rfl,rfl,hc,q⟩:=h;obtain⟨t,rfl⟩:=rx;obtain⟨t',rfl⟩:=ry;exact rule i j t t' s _ _ hc ⟨.int (g i j),H,I.tok _,⟨_,rfl⟩,q⟩
def YX{g:Int->Int->Int}
  (rule:∀(i j:Int) (t u:iG) (s:xA) (Q:cA->xA->Prop) (E:cA->xA->Prop),Q (.int (g i j) s.toks) { s with toks:=s.toks+1 }->AA (model X.prog X.w) X.A (f (.int i t) (.int j u)) Q E s) :
  EC X f (vK λi j=>.int (g i j)):=by
 intro bA s Y H x y v u Q I rx ry h;obtain⟨i,j,rfl,rfl,q⟩:=h;obtain⟨t,rfl⟩:=rx;obtain⟨t',rfl⟩:=ry;exact rule i j t t' s _ _ ⟨.int (g i j),H,I.tok _,⟨_,rfl⟩,q⟩
def XX{g:Int->Int->Bool}
  (rule:∀(i j:Int) (t u:iG) (s:xA) (Q:cA->xA->Prop) (E:cA->xA->Prop),Q (.bool (g i j)) s->AA (model X.prog X.w) X.A (f (.int i t) (.int j u)) Q E s) :
  EC X f (vK λi j=>.bl (g i j)):=by
 intro bA s Y H x y v u Q I rx ry h;obtain⟨i,j,rfl,rfl,q⟩:=h;obtain⟨t,rfl⟩:=rx;obtain⟨t',rfl⟩:=ry;exact rule i j t t' s _ _ ⟨.bl (g i j),H,I,rfl,q⟩
def vq(i j:Int):Prop:=0<=j/\j<=1000000/\i.natAbs<2 ^ 64
def zZ(i j:Int):Prop:=(-(2 ^ 64)<i/\i<2 ^ 64)\/(-(2 ^ 64)<j/\j<2 ^ 64)
def zZ.ok(h:zZ i j):IntMulOk i j:=by
 rcases h with ⟨h1,h2⟩ | ⟨h1,h2⟩
 ·exact .of_left (intBits_le_64 h1 h2)
 ·exact .of_right (intBits_le_64 h1 h2)
def vXa(k:Nat):(0:Int)<=2 ^ k:=by
 rw[two_pow_cast];exact Int.natCast_nonneg _
def sMa:EC X (gG .Add) (vK λi j=>.int (i+j)):=YX λ_ _ _ _ _ _ _ q=>add_int q
def oNa:EC X (gG .Sub) (vK λi j=>.int (i-j)):=YX λ_ _ _ _ _ _ _ q=>sub_int q
def gNa:EC X (gG .Mult) (rI zZ λi j=>.int (i*j)):=qT λ_ _ _ _ _ _ _ hc q=>mul_int q hc.ok
def fNa:EC X (gG .Mod) (rI (λ_ j=>0<j) λi j=>.int (i % j)):=qT λi j _ _ _ _ _ hc q=>by
 have h1:(0:Int)<j:=hc;exact mod_int' (by lia) (by rw[Int.fmod_eq_emod_of_nonneg i (by lia)];exact q)
def mNa:EC X (gG .LShift) (rI vq λi j=>.int (i*2 ^ j.toNat)):=qT λ_ _ _ _ _ _ _ hc q=>lshift_int_small hc.1 hc.2.1 hc.2.2 q
def nNa:EC X (gG .RShift) (rI (λ_ j=>0<=j) λi j=>.int (i / 2 ^ j.toNat)):=qT λi j _ _ _ _ _ hc q =>
 rshift_int hc (by rw[Lo i (vXa _)];exact q)
def uMa:EC X (gG .BitAnd) (vK λi j=>.int (iZ i j)):=YX λ_ _ _ _ _ _ _ q=>and_int q
def lNa:EC X (gG .BitOr) (vK λi j=>.int (AH i j)):=YX λ_ _ _ _ _ _ _ q=>or_int q
def unI{g:Int->Int}
  (rule:∀(i:Int) (t:iG) (s:xA) (Q:cA->xA->Prop) (E:cA->xA->Prop),Q (.int (g i) s.toks) { s with toks:=s.toks+1 }->AA (model X.prog X.w) X.A (f (.int i t)) Q E s) :
  LZ X f (rU λi=>.int (g i)):=by
 intro bA s Y H x v Q I rx h;obtain⟨i,rfl,q⟩:=h;obtain⟨t,rfl⟩:=rx;exact rule i t s _ _ ⟨.int (g i),H,I.tok _,⟨_,rfl⟩,q⟩
def yXa:LZ X (unaryOp .USub) (rU λi=>.int (-i)):=unI λ_ _ _ _ _ q=>neg_int q
end
section
variable{pos:XB}
def V2(I:dA X bA Y H s)(q:Q (.bl k) H)(e:k=k'):EP X bA Y Q (.bool k') s:=by
 subst e;exact⟨.bl k,H,I,rfl,q⟩
def eNa:EC X (DF .Lt) (vK λi j=>.bl (decide (i<j))):=XX λ_ _ _ _ _ _ _ q=>lt_int q
def dNa:EC X (DF .LtE) (vK λi j=>.bl (decide (i<=j))):=XX λ_ _ _ _ _ _ _ q=>le_int q
def aNa:EC X (DF .Gt) (vK λi j=>.bl (decide (j<i))):=XX λ_ _ _ _ _ _ _ q=>gt_int q
def zMa:EC X (DF .GtE) (vK λi j=>.bl (decide (j<=i))):=XX λ_ _ _ _ _ _ _ q=>ge_int q
def bNa:EC X (DF .In) (λx y H Q=>∃i j,x=.str i/\y=.str j/\Q (.bl (!(AN j i 0 j.length 1).isEmpty)) H):=by
 intro bA s Y H x y v u Q I rx ry h;obtain⟨i,j,rfl,rfl,q⟩:=h;obtain⟨t,rfl⟩:=rx;obtain⟨t',rfl⟩:=ry;exact in_str (V2 I q rfl)
def cNa:EC X (DF .Is) (λx y H Q=>y=.oA/\Q (.bl (decide (x=.oA))) H):=by
 intro bA s Y H x y v u Q I rx ry h;obtain⟨rfl,q⟩:=h;cases ry;refine is_none_gen (V2 I q ?_)
 cases x<;>first
  | (cases rx;rfl)
  | (obtain⟨t,rfl⟩:=rx;rfl)
def kNa:EC X (DF .IsNot) (λx y H Q=>y=.oA/\Q (.bl (!decide (x=.oA))) H):=by
 intro bA s Y H x y v u Q I rx ry h;obtain⟨rfl,q⟩:=h;cases ry;refine isnot_none_gen (V2 I q ?_)
 cases x<;>first
  | (cases rx;rfl)
  | (obtain⟨t,rfl⟩:=rx;rfl)
def yOa(ho:EC X (DF op) r)(ha:PE X a ta)(hb:PE X b tb)(hm:EK op b=false):PE X (.Compare a [op] [b] pos) (XT r ta tb):=by
 intro bA s Y H Q I h;exact wpAny_Compare1 (B0 ha hb I h λv u s2 x y H2 I2 rx ry q=>ho bA s2 Y H2 x y v u Q I2 rx ry q) hm
noncomputable def Om(t:TE):TT:=λY H Q=>t Y H λx H'=>∃k,x=.bl k/\Q k H'
def tRa(ho:EC X (DF op) r)(ha:PE X a ta)(hb:PE X b tb)(hm:EK op b=false):PT X (.Compare a [op] [b] pos) (Om (XT r ta tb)):=by
 intro bA s Y H Q I h
 refine wpAny_isTrue_Compare1 (NA (ha bA s Y H _ I h) λv s1 ⟨x,H1,I1,r1,q1⟩=>NA (hb bA s1 Y H1 _ I1 q1) λu s2 ⟨y,H2,I2,r2,q2⟩ =>
  NA (ho bA s2 Y H2 x y v u _ I2 r1 r2 q2) λc s3 ⟨z,H3,I3,r3,k,e,q3⟩=>?_) hm
 subst e;cases r3;exact qN ⟨H3,I3,q3⟩
noncomputable def N8(r r':R2)(ta tb tc:TE):TE:=λY H Q=>ta Y H λx H1=>tb Y H1 λy H2=>r x y H2 λz H3=>∃k,z=.bl k /\
 (if k=true then tc Y H3 λw' H4=>r' y w' H4 Q else Q (.bl false) H3)
def xOa(ho:EC X (DF op) r)(lJ:EC X (DF BC) r')(ha:PE X a ta)(hb:PE X b tb)(hc:PE X c tc)
  (hm:lastMarks [op,BC] [b,c]=false:=by with_unfolding_all rfl):PE X (.Compare a [op,BC] [b,c] pos) (N8 r r' ta tb tc):=by
 intro bA s Y H Q I h
 refine Compare_chain (NA (ha bA s Y H _ I h) λv s1 ⟨x,H1,I1,r1,q1⟩=>chain_link (NA (hb bA s1 Y H1 _ I1 q1) λu s2 ⟨y,H2,I2,r2,q2⟩ =>
  NA (ho bA s2 Y H2 x y v u _ I2 r1 r2 q2) λd s3 ⟨z,H3,I3,r3,k,e,q3⟩=>?_)) hm
 subst e;cases r3;refine qN ?_
 cases k with
 |false=>exact ite_ff ⟨.bl false,H3,I3,rfl,q3⟩
 |true=>exact ite_tt (chain_last (NA (hc bA s3 Y H3 _ I3 q3) λw' s4 ⟨z',H4,I4,r4,q4⟩=>lJ bA s4 Y H4 y z' u w' Q I4 r2 r4 q4))
def sRa(ho:EC X (DF op) r)(lJ:EC X (DF BC) r')(ha:PE X a ta)(hb:PE X b tb)(hc:PE X c tc)
  (hm:lastMarks [op,BC] [b,c]=false:=by with_unfolding_all rfl):PT X (.Compare a [op,BC] [b,c] pos) (Om (N8 r r' ta tb tc)):=by
 intro bA s Y H Q I h
 refine isTrue_chain (NA (ha bA s Y H _ I h) λv s1 ⟨x,H1,I1,r1,q1⟩=>test_link (NA (hb bA s1 Y H1 _ I1 q1) λu s2 ⟨y,H2,I2,r2,q2⟩ =>
  NA (ho bA s2 Y H2 x y v u _ I2 r1 r2 q2) λd s3 ⟨z,H3,I3,r3,k,e,q3⟩=>?_)) hm
 subst e;cases r3;refine qN ?_
 cases k with
 |false =>
  obtain⟨k',e',q'⟩:=q3;cases e';exact ite_ff ⟨H3,I3,q'⟩
 |true =>
  refine ite_tt (test_last (NA (hc bA s3 Y H3 _ I3 q3) λw' s4 ⟨z',H4,I4,r4,q4⟩=>NA (lJ bA s4 Y H4 y z' u w' _ I4 r2 r4 q4) λd' s5 hz=>?_));obtain⟨z2,H5,I5,r5,k2,e2,q5⟩:=hz;subst e2;cases r5;exact qN ⟨H5,I5,q5⟩
def lV(K:fA)(x:V)(H:Hp)(k:Bool):Prop :=
 match x with
 |.oA=>k=false
 |.bl b=>k=b
 |.int i=>k=(i != 0)
 |.str y=>y.length<=sizeLine/\k=((y.length:Int) != 0)
 |.ref p=>(∃xs,CB K H p xs/\k=!xs.isEmpty)\/(∃xs,FC K H p xs/\k=!xs.isEmpty)\/∃KA,H p=some (.dK KA)/\k=!KA.isEmpty
 |_=>False
def tCa(r:KV KA vs):(!vs.isEmpty)=!KA.isEmpty:=by
 cases r<;>rfl
def dg(r:aAf xs gA):(!gA.toArray.isEmpty)=!xs.isEmpty:=by
 cases r<;>simp
def uO:(sizeLine:Nat)<2 ^ 63:=by rw[dM];decide
def Wm:Ss X (λx H Q=>∃k,lV X.K x H k/\Q k H):=by
 intro bA s Y H x v Q I rx h;obtain⟨k,e,q⟩:=h;have hl:=uO;have hs:sizeLine=16777216:=dM
 cases x with
 |oA =>
  cases rx;have e':k=false:=e;subst e';exact truthy_none ⟨H,I,q⟩
 |bl b =>
  cases rx;have e':k=b:=e;subst e';exact qN ⟨H,I,q⟩
 |int i =>
  obtain⟨t,rfl⟩:=rx;have e':k=(i != 0):=e;subst e';exact PySem.P.truthy_int ⟨H,I,q⟩
 |str y =>
  obtain⟨t,rfl⟩:=rx;obtain⟨hy,e'⟩:y.length<=sizeLine/\k=((y.length:Int) != 0):=e;subst e';exact PySem.P.truthy_str (by lia) ⟨H,I.tok _,q⟩
 |ref p =>
  cases rx;have e':(∃xs,CB X.K H p xs/\k=!xs.isEmpty)\/(∃xs,FC X.K H p xs/\k=!xs.isEmpty)\/∃KA,H p=some (.dK KA)/\k=!KA.isEmpty:=e
  rcases e' with ⟨xs,hx,e'⟩ | ⟨xs,hx,e'⟩ | ⟨KA,hx,e'⟩
  ·subst e';obtain⟨gA,r,pl,hz⟩:=I.list hx;have GB:=r.length;exact wpAny_truthy_list pl.isList (by simp only[VD];lia) ⟨H,I.tok _,by rw[dg r];exact q⟩
  ·subst e';obtain⟨gA,r,pl,hz⟩:=I.tuple hx;have GB:=r.length;exact truthy_tuple pl (by simp only[VD];lia) ⟨H,I.tok _,by rw[dg r];exact q⟩
  ·subst e';obtain⟨hz,hS,vs,r,m⟩:KA.length<=sizeLine/\(p==sysModules)=false/\∃vs,KV KA vs/\s.heap.DictOf (tK X.prog X.w) p vs:=I.HA p _ hx
   have GB:KA.length=vs.length:=Aa r;exact wpAny_truthy_dict hS m (by lia) ⟨H,I.tok _,by rw[tCa r];exact q⟩
 |_=>exact(show False from e).elim
def Ij(ha:PE X a ta)(he:∀whole,isTrue a X.env whole=(do let v <- whole;standAt a.pos;holding [v] (truthy v))) :
  PT X a (λY H Q=>ta Y H λx H'=>∃k,lV X.K x H' k/\Q k H'):=by
 intro bA s Y H Q I h;exact isTrue_plain (NA (ha bA s Y H _ I h) λv s1 ⟨x,H1,I1,r1,q1⟩=>Wm bA s1 Y H1 x v Q I1 r1 q1) (he _)
def tMa:EC X (gG .Add) (λx y H Q=>∃i j,x=.str i/\y=.str j/\i.length+j.length<=sizeLine/\Q (.str (i++j)) H):=by
 intro bA s Y H x y v u Q I rx ry h;obtain⟨i,j,rfl,rfl,hz,q⟩:=h;obtain⟨t,rfl⟩:=rx;obtain⟨t',rfl⟩:=ry;exact add_str (λt' tk=>⟨.str (i++j),H,I.tok _,⟨_,rfl⟩,q⟩) hz
def aAA(r:aAf [x] us):∃u,us=[u]/\aAe x u:=by
 cases r with
 |cons r1 r2=>cases r2;exact⟨_,rfl,r1⟩
def aAS(r:aAf [x,y] us):∃u w',us=[u,w']/\aAe x u/\aAe y w':=by
 cases r with
 |cons r1 r2 =>
  cases r2 with
  |cons r3 r4=>cases r4;exact⟨_,_,rfl,r1,r3⟩
def Oc:qG X (.type "int") (λxs H Q=>(∃i,xs=[.int i]/\Q (.int i) H)\/∃k,xs=[.bl k]/\Q (.int (if k then 1 else 0)) H):=by
 intro bA s Y H xs us Q I r h;rcases h with ⟨i,rfl,q⟩ | ⟨k,rfl,q⟩
 ·obtain⟨u,rfl,t,rfl⟩:=aAA r;exact call_int_int ⟨.int i,H,I,⟨_,rfl⟩,q⟩
 ·obtain⟨u,rfl,r1⟩:=aAA r;cases r1;exact call_int_bool ⟨.int (if k then 1 else 0),H,I.tok _,⟨_,rfl⟩,q⟩
def Mv:qG X (.type "str") (λxs H Q=>∃i,xs=[.int i]/\i.natAbs.log2<1920/\Q (.str (toString i)) H):=by
 intro bA s Y H xs us Q I r h;obtain⟨i,rfl,hz,q⟩:=h;obtain⟨u,rfl,t,rfl⟩:=aAA r;exact PySem.P.str_of_int hz ⟨.str _,H,I.tok _,⟨_,rfl⟩,q⟩
end
def VJ.some_of(r:VJ (some v) o):∃u,o=some u/\aAe v u:=by
 cases o with
 |none=>exact(show False from r).elim
 |some u=>exact⟨u,rfl,r⟩
structure qb(K:fA)(C:eA):Prop where
 pg:Rp K C Str.empty=true
 hd:eP K C=true
 po:PySem.W.plainOver K C=true
 sa:mG K (.ref C) "__setattr__"=some (some (.builtin "object.__setattr__"))
def Jq(K:fA)(C:eA)(f:aA):Prop:=mG K (.ref C) f=some none
structure Meth(K:fA)(C:eA)(m:aA)(f:eA):Prop where
 at_:mG K (.ref C) m=some (some (.ref f))
 fn:qZ K (.ref f)=true
 kp:nG K (.ref f)=true
structure YC(k:Nat)(A:tF):Prop where
 hd:A.handled=none
 dp:A.depth+3*k+5<recursionLimit
 un:A.units+16*k+200<cLine
 gs:A.guards=some []
def YC.mono(r:YC k A)(h:j<=k):YC j A:=⟨r.hd,by have:=r.dp;lia,by have:=r.un;lia,by first | exact r.gs | simpa[Ba,zR,Ta,rZ,pushGuards,guardIds] using r.gs⟩
theorem YC.deeper(r:YC (k+1) A)(env:Env):YC k (A.deeper env) :=
 ⟨r.hd,by have:=r.dp;show A.depth+1+3*k+5<_;lia,by have:=r.un;show A.units+3+16*k+200<_;lia,by first | exact r.gs | simpa[Ba,zR,Ta,rZ,pushGuards,guardIds] using r.gs⟩
def sHa{A:tF}:(A.under (.builtin "type.__call__" ⟨.ref C::us,kw⟩)).depth=A.depth+1:=by
 first | rfl | simp[zR,Code.weight,Code.isCreation,rZ,Code.isCaller,Code.frames,La,guardIds]
def tHa{A:tF}:(A.under (.builtin "type.__call__" ⟨.ref C::us,kw⟩)).units=A.units+1:=by
 first | rfl | simp[zR,Code.cUnits,Code.frames,La]
def YC.make(r:YC (k+1) A)(C:eA)(us:List cA)(kw:List (aA×cA)):YC k (A.under (.builtin "type.__call__" ⟨.ref C::us,kw⟩)) :=
 ⟨r.hd,by have:=r.dp;rw[sHa];lia,by have:=r.un;rw[tHa];lia,by first | exact r.gs | simpa[Ba,zR,Ta,rZ,pushGuards,guardIds] using r.gs⟩
theorem YC.depth(r:YC k A):A.depth<recursionLimit:=by have:=r.dp;lia
theorem YC.units(r:YC k A):A.units+64<cLine:=by have:=r.un;lia
noncomputable def NI:TA:=λ_ H Q=>Q [] H
noncomputable def OG(ta:TE)(tr:TA):TA:=λY H Q=>ta Y H λx H1=>tr Y H1 λxs H2=>Q (x::xs) H2
section
variable{pos:XB}
def XH:PA X [] NI:=λ_ _ _ _ H Q I h=>Calls.spliced_nil ⟨[],H,I,.nil,h⟩
def eG(ha:PE X e te)(hr:PA X es t)(hs:UB (e::es) X.env=(false,eval e X.env)::UB es X.env:=by rfl):PA X (e::es) (OG te t):=by
 intro pos bA s Y H Q I h;rw[hs];show AA _ _ (spliced ((false,eval e X.env)::sE pos (UB es X.env))) _ _ s;refine Calls.spliced_cons (NA (ha bA s Y H _ I h) λu s1 hz=>?_);obtain⟨x,H1,I1,r1,q1⟩:=hz;exact NA (hr pos bA s1 Y H1 _ I1 q1) λus s2 ⟨xs,H2,I2,r2,q2⟩=>⟨x::xs,H2,I2,.cons r1 r2,q2⟩
noncomputable def Pm(t:TA):TE:=λY H Q=>t Y H λxs H1=>xs.length<=sizeLine/\∀p,H1 p=none->Q (.ref p) (vA H1 p (.t xs))
noncomputable def rWa(t:TA):TE:=λY H Q=>t Y H λxs H1=>xs.length<=sizeLine/\∀p,H1 p=none->Q (.ref p) (vA H1 p (.l xs))
def mj{x1}(h:PA X es t):PE X (.Tuple es x1 pos) (Pm t):=by
 intro bA s Y H Q I hq;refine wpAny_Tuple_spliced (NA (h pos bA s Y H _ I hq) λus s1 ⟨xs,H1,I1,r,z,q⟩=>⟨by rw[<- r.length];exact z, ?_⟩);have hf:H1 s1.heap.objs.size=none:=I1.HA.fresh (HB _);refine⟨.ref s1.heap.objs.size,vA H1 s1.heap.objs.size (.t xs),I1.laid (t':=s1.toks) (λb u e=>lD _ e) (HB _) ?_,rfl,q _ hf⟩;exact⟨z,us,r,⟨_,zH _ rfl,rfl,_,rfl⟩⟩
def dPa(h:PA X es t):PE X (.List es pos) (rWa t):=by
 intro bA s Y H Q I hq;refine wpAny_List_spliced (NA (h pos bA s Y H _ I hq) λus s1 ⟨xs,H1,I1,r,z,q⟩=>⟨by rw[<- r.length];exact z, ?_⟩);have hf:H1 s1.heap.objs.size=none:=I1.HA.fresh (HB _);refine⟨.ref s1.heap.objs.size,vA H1 s1.heap.objs.size (.l xs),I1.laid (t':=s1.toks) (λb u e=>lD _ e) (HB _) ?_,rfl,q _ hf⟩;exact⟨z,us,0,r,zH _ rfl⟩
end
abbrev Sp:=List V->Hp->VK->XK->Prop
abbrev iM:=List Env->Hp->xA->XK->cA->xA->Prop
structure EN(P:HD)(w:DC)(K:fA)(mg:aA->Option cA)(base:DB)(A:tF)(outer:List Env)(s:xA)(H:Hp):Prop where
 frames:A.frames=some outer
 mod:Mod K mg base
 bs:∀b o,base.get? b=some o->s.heap.get? b=some o/\H b=none
 lI:base.objs.size<=s.heap.objs.size
 XF:s.heap.FunFrames base outer
 YI:∀b∈bE outer,H b=none
 HA:sD P w H s.heap
 bare:JK s.gens
def CE(outer:List Env)(P:HD)(w:DC)(H:Hp)(s:xA)(Q:VK)(u:cA)(s':xA):Prop :=
 ∃v H',s'.os=s.os/\JK s'.gens/\Un (bE outer) [] H H' s.heap s'.heap/\sD P w H' s'.heap/\aAe v u/\Q v H'
def CR(CX:iM)(outer:List Env)(P:HD)(w:DC)(H:Hp)(s:xA)(Q:VK)(E:XK)(r:Result)(s':xA):Prop :=
 match r with
 |.ok (.ret u)=>CE outer P w H s Q u s'
 |.ok _=>False
 |.error e=>CX outer H s E e s'
structure JF(P:HD)(w:DC)(K:fA)(mg:aA->Option cA)(base:DB)(CX:iM)(k:Nat)(f:eA)(fd:wH)(ps:List aA)(sp:Sp):Prop where
 len:∀vs H Q E,sp vs H Q E->vs.length=ps.length
 run:∀(A:tF) (outer:List Env) (s:xA) (H:Hp) (args:Args) (us:List cA) (vs:List V) (Q:VK) (E:XK),YC k A->EN P w K mg base A outer s H->xZ s fd args (ps.zip us)->aAf vs us->sp vs H Q E ->
  fM (model P w) A (.call (.ref f) args) (CR CX outer P w H s Q E) s
def EN.make{K:fA}(e:EN P w K mg base A outer s H)(C:eA)(us:List cA)(kw:List (aA×cA)) :
  EN P w K mg base (A.under (.builtin "type.__call__" ⟨.ref C::us,kw⟩)) outer s H:=⟨by first | exact e.frames | (simpa[zR,Code.envs,La,pushEnvs] using e.frames),e.mod,e.bs,e.lI,e.XF,e.YI,e.HA,e.bare⟩
section
variable{X:Cx}{bA:List (eA×wB)}{Y:St}{H:Hp}{s s':xA}
def dA.nI(I:dA X bA Y H s):EN X.prog X.w X.K X.mg X.base X.A X.stack s H :=
 ⟨I.ok.frames,I.ok.mod,I.bs,uE I.ok.lI I.sz,I.stack,I.C8,I.HA,I.bare⟩
def dA.after(I:dA X bA Y H s)(h:CE X.stack X.prog X.w H s Q u s'):EP X bA Y Q u s':=by
 obtain⟨v,H',os,bare,un,HA,r,q⟩:=h;obtain⟨hh,g,d,t,os'⟩:=s';obtain rfl:os'=s.os:=os;exact⟨v,H',I.call (h':=hh) (g':=g) (d':=d) (t':=t) (ch:=[]) un HA bare (λb z=>absurd z (by simp)),r,q⟩
end
noncomputable def iWa(sp:Sp)(DM:List V)(E:XK)(t:TA):TE:=λY H Q=>t Y H λvs H1=>sp (vs++DM) H1 Q E
def aAt(K:fA)(fd:wH)(ps:List aA)(ds:List cA):Prop :=
 ∀(s:xA) (us:List cA),K.In s.heap->(us++ds).length=ps.length->xZ s fd ⟨us,[]⟩ (ps.zip (us++ds))
def aAt.all{K:fA}(h:∀us:List cA,us.length=ps.length->bindArgs fd ⟨us,[]⟩=pure (ps.zip us)):aAt K fd ps []:=λs us _ hl=>by
 rw[DK] at hl ⊢;exact .of_eq (h us hl)
def aAO(CX:iM)(X:Cx)(E:XK):Prop:=∀(bA:List (eA×wB)) (Y:St) (H:Hp) (s:xA) (e:cA) (s':xA),dA X bA Y H s->CX X.stack H s E e s'->X.xe e s'
section
variable{X:Cx}{CX:iM}{k:Nat}{f C:eA}{fd:wH}{ps:List aA}{sp:Sp}{DM:List V}{ds:List cA}{E:XK}{x m:aA}{p pos mB:XB}{e o:sA}{es:List sA}{ta:TE}{t:TA}
def pTa(F:JF X.prog X.w X.K X.mg X.base CX k f fd ps sp)(hr:YC k X.A)(hb:aAt X.K fd ps ds)(hd:aAf DM ds)(hx:aAO CX X E)
  (I:dA X bA Y H s) (r:aAf vs us) (h:sp (vs++DM) H Q E):AA (model X.prog X.w) X.A (call (.ref f) us) (EP X bA Y Q) X.xe s:=by
 have r2:aAf (vs++DM) (us++ds):=r.append hd;have hl:(us++ds).length=ps.length:=by rw[<- r2.length];exact F.len _ _ _ _ h
 refine LU (qP (F.run X.A X.stack s H ⟨us,[]⟩ (us++ds) (vs++DM) Q E hr I.nI (hb s us I.pE hl) r2 h) λr s' hq=>?_)
 cases r with
 |error e=>exact hx bA Y H s e s' I hq
 |ok fl =>
  cases fl with
  |ret u=>exact I.after hq
  |next=>exact fG hq
  |brk=>exact fG hq
  |cont=>exact fG hq
def vOa(F:JF X.prog X.w X.K X.mg X.base CX k f fd ps sp)(hr:YC k X.A)(hg:Gl X x)(hm:X.mg x=some (.ref f))(hk:nG X.K (.ref f)=true)(hb:aAt X.K fd ps ds)(hd:aAf DM ds)(hx:aAO CX X E)
  (ha:PA X (e::es) t) (SH:(x==("__debug__":aA))=false:=by decide) (he:UB (e::es) X.env=(false,eval e X.env)::UB es X.env:=by rfl) (BF:(sE pos (UB es X.env)).any (·.1)=false:=by rfl) :
  PE X (.Call (.Name x p) (e::es) [] pos) (iWa sp DM E t):=by
 intro bA s Y H Q I h;refine pU (rO I hg hm ?_ SH);refine G9 (h₀:=X.base) I.ok.mod.kin hk (NA (ha pos bA s Y H _ I h) λus s1 ⟨vs,H1,I1,r,q⟩=>⟨I1.pE, ?_⟩) he BF;exact pTa F hr hb hd hx I1 r q
structure Mk(K:fA)(C f:eA):Prop where
 makes:PySem.W.makesIn K C=true
 init:mG K (.ref C) "__init__"=some (some (.ref f))
 fn:qZ K (.ref f)=true
 kp:nG K (.ref C)=true
end
def PK(X:Cx)(rK:List tP)(t:TA):Prop :=
 ∀(pos:XB) (bA:List (eA×wB)) (s:xA) (Y:St) (H:Hp) (Q:List V->Hp->Prop),dA X bA Y H s->t Y H Q->AA (model X.prog X.w) X.A (evalAll ((backToKw pos (keywordEach rK X.env)).map (·.2))) (AP X bA Y Q) X.xe s
section
variable{nm:Option aA}
def uPa:PK X [] NI:=λ_ _ _ _ H Q I h=>wpAny_evalAll_nil ⟨[],H,I,.nil,h⟩
def tPa(ha:PE X e te)(hr:PK X rK t):PK X (⟨nm,e,kpos⟩::rK) (OG te t):=by
 intro pos bA s Y H Q I h;show AA _ _ (evalAll ((do let v <- eval e X.env;standAt pos;pure v)::(backToKw pos (keywordEach rK X.env)).map (·.2))) _ _ s;refine wpAny_evalAll_cons (FA (NA (ha bA s Y H _ I h) λu s1 ⟨x,H1,I1,r1,q1⟩=>FA (YL (LB ?_))));exact NA (hr pos bA s1 Y H1 _ I1 q1) λus s2 ⟨xs,H2,I2,r2,q2⟩=>⟨x::xs,H2,I2,.cons r1 r2,q2⟩
variable{g:List cA->List cA->List cA}{gV:List V->List V->List V}
end
structure kM(N P:List aA)(sc:EF):Prop where
 kind:sc.kind=.function
 co:sc.isCoroutine=false
 gen:sc.isGenerator=false
 nd:N.Nodup
 pre:N.take P.length=P
 par:∀x∈P,sc.names.lookup x=some .local\/sc.names.lookup x=some .cell
 mJa:∀y∈sc.names,y.2≠.free
theorem Ac{kindOf:aA->Option JJ}:∀{binds:List (aA×cA)} {m:aA->Option cA},(∀v,(x,v) ∉ binds)->bindL kindOf binds m x=m x
 |[],_,_=>rfl
 | (n,v)::r,m,h=>by
  unfold bindL;rw[Ac λw hw=>h w (jG _ hw)];split
  ·have:x≠n:=by rintro rfl;exact h v kG
   simp[this]
  ·rfl
theorem xc{kindOf:aA->Option JJ}:∀{binds:List (aA×cA)} {m:aA->Option cA},(∀v,(x,v) ∉ binds)->bindC kindOf binds m x=m x
 |[],_,_=>rfl
 | (n,v)::r,m,h=>by
  unfold bindC;rw[xc λw hw=>h w (jG _ hw)];split
  ·rfl
  ·have:x≠n:=by rintro rfl;exact h v kG
   simp[this]
theorem yc{kindOf:aA->Option JJ}:∀{P:List aA} {vs:List cA} {i:Nat} {m:aA->Option cA},P.Nodup->P[i]?=some x->vs[i]?=some v->kindOf x=some .local ->
  bindL kindOf (P.zip vs) m x=some v
 |[],_,_,_,_,h,_,_=>by simp at h
 |_::_,[],_,_,_,_,h,_=>by simp at h
 |p::P,w::vs,0,m,nd,h1,h2,hk=>by
  simp at h1 h2;subst h1;subst h2;show bindL kindOf ((p,w)::P.zip vs) m p=_;unfold bindL;rw[Ac λv hv=>(mZ.mp nd).1 (nZ hv).1,uA hk];simp
 |p::P,w::vs,i+1,m,nd,h1,h2,hk=>by(show bindL kindOf ((p,w)::P.zip vs) m x=_;unfold bindL;exact yc (mZ.mp nd).2 (by simpa using h1) (by simpa using h2) hk)
theorem wc{kindOf:aA->Option JJ}:∀{P:List aA} {vs:List cA} {i:Nat} {m:aA->Option cA},P.Nodup->P[i]?=some x->vs[i]?=some v->kindOf x≠some .local ->
  bindC kindOf (P.zip vs) m x=some v
 |[],_,_,_,_,h,_,_=>by simp at h
 |_::_,[],_,_,_,_,h,_=>by simp at h
 |p::P,w::vs,0,m,nd,h1,h2,hk=>by
  simp at h1 h2;subst h1;subst h2;show bindC kindOf ((p,w)::P.zip vs) m p=_;unfold bindC;rw[xc λv hv=>(mZ.mp nd).1 (nZ hv).1,qB hk];simp
 |p::P,w::vs,i+1,m,nd,h1,h2,hk=>by(show bindC kindOf ((p,w)::P.zip vs) m x=_;unfold bindC;exact wc (mZ.mp nd).2 (by simpa using h1) (by simpa using h2) hk)
noncomputable def start(N:List aA)(vs:List V):St:=vs.map some++wC (N.length-vs.length) none
noncomputable def dH(CX:iM)(P:HD)(w:DC)(K:fA)(mg:aA->Option cA)(base:DB)(N:List aA)(bB:aA)(scope:EF)(f:eA)(cd:cA)(A:tF)(outer:List Env)(s:xA)(H:Hp)(E:XK):Cx where
 prog:=P
 w:=w
 K:=K
 mg:=mg
 base:=base
 A:=A.deeper (envOfC bB scope s.heap.objs.size f cd)
 N:=N
 s₀:=s
 H₀:=H
 env:=envOfC bB scope s.heap.objs.size f cd
 outer:=outer
 stack:=envOfC bB scope s.heap.objs.size f cd::outer
 ex:=[]
 calm:=true
 fn:=λ_=>true
 pn:=[]
 xe:=λe s'=>AA (model P w) (A.deeper (envOfC bB scope s.heap.objs.size f cd)) (leaving (envOfC bB scope s.heap.objs.size f cd) e) (λ_ ET=>CX outer H s E e ET) (λe' ET=>CX outer H s E e' ET) s'
def Vc{sc:EF}(h:sc.names.lookup x=some .cell):∃c,(cellsFrom n sc.names []).lookup x=some c:=by
 have q:=So sc.names n [] (.inl h);exact Option.isSome_iff_exists.mp q
def sBa{K:fA}
  (S:kM N ps scope) (hd:A.handled=none) (e0:EN P w K mg base A outer s H) (hl:vs.length=ps.length) (r:aAf vs us)
  (x:InCallC s s.heap.objs.size (bindL (envOfC bB scope s.heap.objs.size f cd).kindOf (ps.zip us) λ_=>none) (cellsFrom (s.heap.objs.size+1) scope.names []) (bindC (envOfC bB scope s.heap.objs.size f cd).kindOf (ps.zip us) λ_=>none) s1) :
  dA (dH CX P w K mg base N bB scope f cd A outer s H E) [] (start N vs) H s1:=by
 have BF:ps.length<=N.length:=by have:=congrArg AR S.pre;rw[lG] at this;lia
 obtain⟨h1,tk,rfl,hk⟩:=x.done;have cT:∀b:eA,b ∉ (dH CX P w K mg base N bB scope f cd A outer s H E).ex:=λb z=>absurd (show b∈([]:List eA) from z) (by simp)
 refine⟨⟨e0.mod,S.kind,rfl,rfl,HB _,λy z c h1 h2=>?_,λy hy=>?_,λy c _ h=>?_,λ_=>hd,Around.frames_deeper e0.frames,.inr ⟨rfl,rfl⟩,λb z=>absurd z (cT b),e0.bs,e0.lI,λb _ _=>cT b,λb z=>absurd z (cT b),e0.XF,e0.YI⟩,
  rfl,e0.bare,Un.kept hk,⟨_,x.toInCall.ns,λi y v h1 h2 h3=>?_⟩,λy c h=>⟨_,x.cell y c h⟩,e0.HA.fresh (HB _),λy c h=>?_,λp hp=>absurd (show p∈([]:List (eA×wB)) from hp) (by simp),e0.HA.kept hk, ?_⟩
 ·exact name_of_addr x.apart (lU h1) (lU h2)
 ·have hy:scope.names.lookup y=some .cell\/scope.names.lookup y=some .free:=hy;rcases hy with hy | hy
  ·exact Vc hy
  ·exact absurd rfl (S.mJa _ (lU hy))
 ·exact Ka (x.above y c (lU h))
 ·have hi:i<vs.length:=by
   unfold start at h2;by_cases hi:i<vs.length
   ·exact hi
   ·rw[fU (by simpa using hi)] at h2;rw[o9] at h2;split at h2<;>cases h2
  have ha:vs[i]?=some v:=by
   unfold start at h2;rw[zN (by simpa using hi),PL] at h2
   cases e:vs[i]? with
   |none=>rw[e] at h2;cases h2
   |some a=>rw[e] at h2;cases h2;rfl
  obtain⟨u,hu,rv⟩:=r.get ha
  have hp:ps[i]?=some y:=by(rw[<- S.pre,List.getElem?_take_of_lt (by lia)];exact h1)
  have Bi:ps.Nodup:=by rw[<- S.pre];exact S.nd.sublist (List.take_sublist _ _)
  refine⟨u,rv, ?_⟩;rcases S.par y (pN hp) with k | k
  ·exact .inl ⟨k,yc Bi hp hu k⟩
  ·obtain⟨c,e⟩:=Vc (n:=s.heap.objs.size+1) k;refine .inr ⟨.inl k,c,e, ?_⟩;have q:=x.cell y c e;rw[wc Bi hp hu (by show scope.names.lookup y≠_;rw[k];decide)] at q;exact q
 ·exact e0.HA.fresh (Ka (x.above y c (lU h)))
 ·unfold start;show _=N.length;rw[lE,JA,List.length_replicate]
  lia
def ue{K:fA}{dV kV doc pm ZA ct oc:cA}{an od:Option eA}(lk:K.lookup f=some ⟨oc,od,.func (uH name bB params body scope dV kV doc pm an ZA ct),fF⟩)(MG:mP K ZA bB=true)(S:kM N ps scope)
  (len:∀vs H Q E,sp vs H Q E->vs.length=ps.length)
  (o4:∀(A:tF) (outer:List Env) (s:xA) (H:Hp) (vs:List V) (Q:VK) (E:XK),YC k (A.deeper (envOfC bB scope s.heap.objs.size f ZA))->sp vs H Q E ->
   ∃t,XC (dH CX P w K mg base N bB scope f ZA A outer s H E) body t/\t { nx:=λ_ H'=>Q .oA H',rt:=Q } (start N vs) H) :
  JF P w K mg base CX (k+1) f (uH name bB params body scope dV kV doc pm an ZA ct) ps sp:=by
 refine⟨len,λA outer s H args us vs Q E hr e0 hb r nE=>?_⟩;have hl:=len _ _ _ _ nE;have KX:K.In s.heap:=e0.mod.kin.keeps λb o e=>(e0.bs b o e).1
 have lim:s.heap.NoLimit:=e0.mod.nolimit.keeps λb o e=>(e0.bs b o e).1
 have iJ:∀y∈ps.zip us,scope.names.lookup y.1=some .local\/(scope.names.lookup y.1=some .cell/\((cellsFrom (s.heap.objs.size+1) scope.names []).lookup y.1).isSome=true):=λ⟨n,v⟩ hy=>by
  rcases S.par n (nZ hy).1 with q | q
  ·exact .inl q
  ·exact .inr ⟨q,So _ _ _ (.inl q)⟩
 refine codeAny_call_function hr.depth (KX _ _ lk) rfl S.co S.gen rfl (PySem.W.codeRec_of KX MG) (hb _ _ _ _ ?_);refine wpAny_newFunctionEnv_cells S.kind iJ λenv he s1 x=>?_
 subst he;refine⟨lim.keeps x.toInCall.keep,codeAny_func ?_⟩;obtain⟨t,ht,hq⟩:=o4 A outer s H vs Q E (hr.deeper _) nE;have I:dA (dH CX P w K mg base N bB scope f ZA A outer s H E) [] (start N vs) H s1:=sBa S hr.hd e0 hl r x;refine AE (ht [] s1 (start N vs) H _ I hq) (λfl s' hs=>?_) λe s' hs=>hs
 have XA:∀{Y':St} {H':Hp} {v:V} {u:cA},dA (dH CX P w K mg base N bB scope f ZA A outer s H E) [] Y' H' s'->aAe v u->Q v H'->CE outer P w H s Q u s' :=
  λ{Y' H' v u} J rv q=>⟨v,H',J.os,J.bare,J.base,J.HA,rv,q⟩
 cases fl with
 |ret u =>
  obtain⟨v,Y',H',J,rv,q⟩:=hs;exact XA J rv q
 |next =>
  obtain⟨Y',H',J,q⟩:=hs;exact XA (v:=V.oA) (u:=Value.none) J rfl q
 |brk =>
  obtain⟨_,_,_,q⟩:=hs;exact fG q
 |cont =>
  obtain⟨_,_,_,q⟩:=hs;exact fG q
section
variable{id T:String}
noncomputable def M8(r:List V->Hp->VK->Prop)(t:TA):TE:=λY H Q=>t Y H λvs H1=>r vs H1 Q
def aY(hc:qG X (.builtin id) r)(hg:Gl X x)(hm:X.mg x=none)(hv:uN x=some (.builtin id))(ha:PA X (e::es) t)(hn:x≠"__name__":=by decide)(SH:(x==("__debug__":aA))=false:=by decide)
  (he:UB (e::es) X.env=(false,eval e X.env)::UB es X.env:=by rfl) (BF:(sE pos (UB es X.env)).any (·.1)=false:=by rfl):PE X (.Call (.Name x p) (e::es) [] pos) (M8 r t):=by
 intro bA s Y H Q I h;refine pU (qO I hg hm hv ?_ hn SH);exact PyProof.Rows.callWith_builtin1 (NA (ha pos bA s Y H _ I h) λus s1 ⟨vs,H1,I1,r1,q1⟩=>hc bA s1 Y H1 vs us Q I1 r1 q1) he BF
def wOa(hc:qG X (.type T) r)(hg:Gl X x)(hm:X.mg x=none)(hv:uN x=some (.type T))(ha:PA X (e::es) t)(hn:x≠"__name__":=by decide)(SH:(x==("__debug__":aA))=false:=by decide)
  (he:UB (e::es) X.env=(false,eval e X.env)::UB es X.env:=by rfl) (BF:(sE pos (UB es X.env)).any (·.1)=false:=by rfl):PE X (.Call (.Name x p) (e::es) [] pos) (M8 r t):=by
 intro bA s Y H Q I h;refine pU (qO I hg hm hv ?_ hn SH);exact RY (NA (ha pos bA s Y H _ I h) λus s1 ⟨vs,H1,I1,r1,q1⟩=>hc bA s1 Y H1 vs us Q I1 r1 q1) he BF
end
end L2
namespace HT
open PySem PyProof.Rows
section
variable{s:xA}
def Ov(ht:IsTup s.heap t vs.toArray)(hb:IsTup s.heap b ws.toArray)(hv:vs≠[])
  (h1:ws=[]->Q (.ref t) s) (h2:ws≠[]->Q (.ref s.heap.objs.size) { s with heap:=s.heap.push { cls:=.type "tuple",data:=.seq (vs++ws).toArray } })
  (hsz:vs.length+ws.length<=sizeLine):AA (model prog w) A (gG .Add (.ref t) (.ref b)) Q E s:=by
 obtain⟨⟨cls,dd,data,sl⟩,ho,hc,n,hd⟩:=id ht;obtain⟨⟨Xc,aQ,data2,WQ⟩,yI,OM,n2,hd2⟩:=id hb;simp only at hc hd OM hd2;subst hc hd OM hd2;have e:vs.toArray++ws.toArray=(vs++ws).toArray:=by simp
 by_cases hw:ws=[]
 ·exact sZ ⟨_,ho,rfl⟩ ⟨_,yI,rfl⟩ U9 Ea v9 p9 (m9 _ _)
   (tuple_addW1 t b vs.toArray ws.toArray n n2 dd aQ sl WQ (by simpa using hv) (by simp[hw])) ⟨ho,yI,h1 hw⟩
 ·refine sZ ⟨_,ho,rfl⟩ ⟨_,yI,rfl⟩ U9 Ea v9 p9 (m9 _ _)
   (tuple_addW2 t b vs.toArray ws.toArray n n2 dd aQ sl WQ (by simpa using hv) (by simpa using hw) (by rw[VD,VD];exact hsz)) ⟨ho,yI, ?_⟩
  rw[e];exact h2 hw
noncomputable def vB(n d:Nat):Option Int->Nat
 |none=>d
 |some v=>if v<0 then(v+(n:Int)).toNat else min v.toNat n
theorem Z7(n d:Nat):vB n d none=d:=rfl
def FT(n d k:Nat):vB n d (some (k:Int))=min k n:=by
 show(if(k:Int)<0 then((k:Int)+(n:Int)).toNat else min (k:Int).toNat n)=min k n;rw[qB (by lia),BG]
def uTa(n d:Nat)(hd:d<=n)(o:Option Int):vB n d o<=n:=by
 cases o with
 |none=>exact hd
 |some v =>
  show(if v<0 then(v+(n:Int)).toNat else min v.toNat n)<=n;by_cases hv:v<0
  ·rw[uA hv];lia
  ·rw[qB hv];exact Nat.min_le_right _ _
def Wc(v:Int)(n d:Nat):(if v<0 then max (v+(n:Int)) 0 else min v (n:Int))=((vB n d (some v):Nat):Int):=by
 show(if v<0 then max (v+(n:Int)) 0 else min v (n:Int))=(((if v<0 then(v+(n:Int)).toNat else min v.toNat n):Nat):Int);by_cases hv:v<0
 ·simp only[uA hv];lia
 ·simp only[qB hv];lia
def ot(lo hi:Option Int)(n:Nat):k9 lo hi 1 (n:Int)=(((vB n 0 lo:Nat):Int),((vB n n hi:Nat):Int)):=by
 have h1:¬((1:Int)<0):=by lia
 unfold k9;simp only[h1,yE];refine Prod.ext ?_ ?_
 ·cases lo with
  |none=>rfl
  |some v=>exact Wc v n 0
 ·cases hi with
  |none=>rfl
  |some v=>exact Wc v n n
def vPa(i j:Nat):SY (i:Int) (j:Int) 1=j-i:=by
 unfold SY;have h1:(1:Int) > 0:=by lia
 simp only[h1,iE,Int.ediv_one]
 split<;>lia
def Ek(p:LK v o)(h:Q o s):AA (model prog w) A (Builtin.Slice.slicePartIndex v) Q E s:=by
 cases p with
 |none=>exact slicePart_none h
 |int i t=>exact slicePart_int h
def tUa{lo hi:Option Int}{Q:Int×Int×Nat->xA->Prop}(hs:s.heap.IsSliceOf sl vl vu .none)(pl:LK vl lo)(pu:LK vu hi)
  (h:Q (((vB n 0 lo:Nat):Int),1,vB n n hi-vB n 0 lo) s):AA (model prog w) A (Mo (.ref sl) (pure (n:Int))) Q E s:=by
 obtain⟨os,AS,FW,gD⟩:=id hs;unfold Mo Builtin.Slice.sliceFields;refine FA (FA (SG AS gD (x:=vl) rfl (FA (SG AS gD (x:=vu) rfl (FA (SG AS gD (x:=.none) rfl (LB ?_)))))));refine FA (slicePart_none ?_);show AA _ _ (if((1:Int)==0)=true then _ else _) _ _ s;rw[qB (by decide)];refine FA (Ek pl (FA (Ek pu (FA (LB ?_)))));show AA _ _ (match k9 lo hi 1 (n:Int) with | (lo,hi)=>pure (lo,(1:Int),SY lo hi 1)) _ _ s;rw[ot lo hi n];show AA _ _ (pure (((vB n 0 lo:Nat):Int),(1:Int),SY ((vB n 0 lo:Nat):Int) ((vB n n hi:Nat):Int) 1)) _ _ s;rw[vPa];exact LB h
def qPa(xs:Array cA)(i k:Nat):((jC k).filterMap λ(m:Nat)=>xs[((i:Int)+(m:Int)*1).toNat]?).toArray=((xs.toList.drop i).take k).toArray:=by
 have e:(λ(m:Nat)=>xs[((i:Int)+(m:Int)*1).toNat]?)=λm=>xs[i+m]?:=by
  funext m
  have:((i:Int)+(m:Int)*1).toNat=i+m:=by lia
  rw[this]
 rw[e]
 have:=pick_run xs i k
 rw[J9] at this;have e2:((λx=>xs[x]?) ∘ λx=>i+x)=λm=>xs[i+m]?:=rfl
 rw[e2] at this;rw[this]
def f_{lo hi:Option Int}(ht:IsTup s.heap t items)(hs:s.heap.IsSliceOf sl vl vu .none)(pl:LK vl lo)(pu:LK vu hi)
  (hw:¬(vB items.size 0 lo=0/\vB items.size items.size hi=items.size))
  (h:Q (.ref s.heap.objs.size) { s with heap:=s.heap.push { cls:=.type "tuple",data:=.seq ((items.toList.drop (vB items.size 0 lo)).take (vB items.size items.size hi-vB items.size 0 lo)).toArray } })
  (hsz:items.size<=sizeLine):AA (model prog w) A (getItem (.ref t) (.ref sl)) Q E s:=by
 have ZW:sizeOk (.seq ((items.toList.drop (vB items.size 0 lo)).take (vB items.size items.size hi-vB items.size 0 lo)).toArray):=by
  show((items.toList.drop (vB items.size 0 lo)).take (vB items.size items.size hi-vB items.size 0 lo)).toArray.size<=sizeLine;rw[VD,lG,WG,jF]
  lia
 have hj:vB items.size items.size hi<=items.size:=uTa _ _ (HB _) hi;obtain⟨os,AS,FW,gD⟩:=id hs;have B_:s.TypeIs (.ref sl) "slice":=⟨os,AS,FW⟩
 unfold getItem
 try with_reducible refine WL ?_
 first | refine FA (LB ?_) | skip
 refine FA (wpAny_sequenceKey ht.typeIs (by decide) ?_)
 refine FA (r9 (name:=pA "__getitem__") ht.typeIs QY
  (V9 QY ht.typeIs entry_tuple_getitem ?_ (args_tuple_getitem _ _)))
 show AA _ _ (Builtin.Tuple.tupleItemsOf (.ref t)>>=_) _ _ s;refine FA (tupleItemsOf_ ht ?_);refine FA (wpAny_typeOf B_ ?_);rw[uA (by decide)];refine FA (tUa hs pl pu ?_)
 have TM:¬((((vB items.size 0 lo:Nat):Int)==0&&(1:Int)==1&&(vB items.size items.size hi-vB items.size 0 lo)==items.size)=true):=by(intro q;rw[qA,qA] at q;have q1:((vB items.size 0 lo:Nat):Int)=0:=jB q.1.1;have q2:vB items.size items.size hi-vB items.size 0 lo=items.size:=jB q.2;exact hw ⟨by lia,by lia⟩)
 show AA _ _ (if(((vB items.size 0 lo:Nat):Int)==0&&(1:Int)==1&&(vB items.size items.size hi-vB items.size 0 lo)==items.size)=true then _ else _) _ _ s;rw[qB TM,qPa]
 first
  |exact FA (m:=TY _) (uR (LB ⟨_,rfl,LB h⟩) ZW)
  |exact FA (m:=TY _) (uR (FA (LB (LB ⟨_,rfl,LB h⟩))) ZW)
  |exact FA (FA (m:=TY _) (uR (LB (LB ⟨_,rfl,LB h⟩)) ZW))
  |exact FA (FA (m:=TY _) (uR (LB ⟨_,rfl,LB h⟩) ZW))
end
end HT
namespace L2
open PySem PySem.Spec PyProof.Rows
abbrev TO:=St->Hp->(Option Int->Hp->Prop)->Prop
def PO(X:Cx)(e:Option sA)(t:TO):Prop :=
 ∀(bA:List (eA×wB)) (s:xA) (Y:St) (H:Hp) (Q:Option Int->Hp->Prop),dA X bA Y H s->t Y H Q ->
  AA (model X.prog X.w) X.A (evalPart e X.env) (λu s'=>∃o H',dA X bA Y H' s'/\LK u o/\Q o H') X.xe s
noncomputable def sWa:TO:=λ_ H Q=>Q none H
noncomputable def uWa(t:TE):TO:=λY H Q=>t Y H λx H1=>∃i,x=.int i/\Q (some i) H1
section
variable{lo hi:Option sA}
def xPa:PO X none sWa:=by
 intro bA s Y H Q I h;rw[evalPart_none];exact LB ⟨none,H,I,.none,h⟩
def zPa(h:PE X e te):PO X (some e) (uWa te):=by
 intro bA s Y H Q I hw;rw[evalPart_some];refine NA (h bA s Y H _ I hw) λu s1 hz=>?_
 obtain⟨x,H1,I1,r1,q1⟩:=hz;obtain⟨i,rfl,q⟩:=q1;obtain⟨t,rfl⟩:=r1;exact⟨some i,H1,I1,.int i t,q⟩
def WJ(X:Cx)(r:V->Option Int->Option Int->Hp->VK->Prop):Prop :=
 ∀(bA:List (eA×wB)) (s:xA) (Y:St) (H:Hp) (x:V) (v vl vu:cA) (lo hi:Option Int) (sl:eA) (Q:VK),dA X bA Y H s->aAe x v->s.heap.IsSliceOf sl vl vu .none->LK vl lo->LK vu hi->r x lo hi H Q ->
  ∃T id,typeLookup (.type T) "__getitem__"=pure (some (.builtin id))/\s.TypeIs v T/\AA (model X.prog X.w) X.A (getItem v (.ref sl)) (EP X bA Y Q) X.xe s
def WJ.or(h:WJ X r)(h':WJ X r'):WJ X (λx lo hi H Q=>r x lo hi H Q\/r' x lo hi H Q):=by
 intro bA s Y H x v vl vu lo hi sl Q I rx hs pl pu q;rcases q with q | q
 ·exact h bA s Y H x v vl vu lo hi sl Q I rx hs pl pu q
 ·exact h' bA s Y H x v vl vu lo hi sl Q I rx hs pl pu q
noncomputable def tSl(r:V->Option Int->Option Int->Hp->VK->Prop)(te:TE)(tl th:TO):TE:=λY H Q=>te Y H λx H1=>tl Y H1 λl H2=>th Y H2 λu H3=>r x l u H3 Q
def hPa(hr:WJ X r)(he:PE X e te)(hl:PO X lo tl)(hu:PO X hi th):PE X (.Subscript e (.Slice lo hi none p2) pos) (tSl r te tl th):=by
 intro bA s Y H Q I h;refine Subscript_ (NA (he bA s Y H _ I h) λv s1 hz=>?_);obtain⟨x,H1,I1,r1,q1⟩:=hz;refine wpAny_Slice (NA (hl bA s1 Y H1 _ I1 q1) λvl s2 ⟨l,H2,I2,pl,q2⟩=>NA (hu bA s2 Y H2 _ I2 q2) λvu s3 hz=>?_);obtain⟨u,H3,I3,pu,q3⟩:=hz;rw[evalPart_none];refine LB ?_;have I4:dA X bA Y H3 { s3 with heap:=s3.heap.push { cls:=.type "slice",data:=.fields #[vl,vu,.none] } }:=I3.kept (t':=s3.toks) λb ob q=>lD _ q
 obtain⟨T,id,hT,ht,hg⟩:=hr bA { s3 with heap:=s3.heap.push { cls:=.type "slice",data:=.fields #[vl,vu,.none] } } Y H3 x v vl vu l u s3.heap.objs.size Q I4 r1 (cZa ..) pl pu q3;show AA (model X.prog X.w) X.A (subscriptTail e (.Slice lo hi none p2) v (.ref s3.heap.objs.size)) (EP X bA Y Q) X.xe { s3 with heap:=s3.heap.push { cls:=.type "slice",data:=.fields #[vl,vu,.none] } };exact tail_any (ops:=[.ref s3.heap.objs.size,v]) ht hT hg (by with_unfolding_all rfl)
noncomputable def BM(xs:List V)(lo hi:Option Int):List V:=(xs.drop (HT.vB xs.length 0 lo)).take (HT.vB xs.length xs.length hi-HT.vB xs.length 0 lo)
def ud(xs:List V)(lo hi:Option Int):(BM xs lo hi).length<=xs.length:=by
 unfold BM;rw[lG,WG]
 lia
def sSa(K:fA):V->Option Int->Option Int->Hp->VK->Prop:=λx lo hi H Q=>∃a xs,x=.ref a/\FC K H a xs /\
 ¬(HT.vB xs.length 0 lo=0/\HT.vB xs.length xs.length hi=xs.length)/\∀p,H p=none->Q (.ref p) (vA H p (.t (BM xs lo hi)))
def sUa:WJ X (sSa X.K):=by
 intro bA s Y H x v vl vu lo hi sl Q I rx hs pl pu h;obtain⟨a,xs,rfl,hx,hw,q⟩:=h;cases rx;obtain⟨gA,r,ht,hz⟩:=I.tuple hx;have GB:gA.toArray.size=xs.length:=by rw[VD];exact r.length.symm
 refine⟨"tuple",_,QY.lookup,ht.typeIs, ?_⟩;refine HT.f_ ht hs pl pu (by rw[GB];exact hw) ?_ (by rw[GB];exact hz);rw[GB];refine⟨.ref s.heap.objs.size,_,I.laid (t':=s.toks) (o:=.t (BM xs lo hi)) (λb ob q=>lD _ q) (HB _) ?_,rfl,q _ (I.HA.fresh (HB _))⟩;exact⟨uE (ud xs lo hi) hz,_,(r.drop (HT.vB xs.length 0 lo)).take (HT.vB xs.length xs.length hi-HT.vB xs.length 0 lo),ib _ _⟩
noncomputable def iSa(K:fA):R2:=λx y H Q=>∃a b xs ys,x=.ref a/\y=.ref b/\FC K H a xs/\FC K H b ys/\xs≠[]/\xs.length+ys.length<=sizeLine /\
 (ys=[]->Q (.ref a) H)/\(ys≠[]->∀p,H p=none->Q (.ref p) (vA H p (.t (xs++ys))))
def aAf.OX(r:aAf xs us):us=[]↔xs=[]:=by
 cases r with
 |nil=>simp
 |cons _ _=>simp
def xMa:EC X (gG .Add) (iSa X.K):=by
 intro bA s Y H x y v u Q I rx ry h;obtain⟨a,b,xs,ys,rfl,rfl,ha,hb,hx,hz,q1,q2⟩:=h;cases rx;cases ry;obtain⟨gA,r1,p1,_⟩:=I.tuple ha;obtain⟨pJ,r2,p2,_⟩:=I.tuple hb;refine HT.Ov p1 p2 (λz=>hx (r1.OX.mp z)) (λz=>⟨.ref a,H,I,rfl,q1 (r2.OX.mp z)⟩) (λz=>?_) (by rw[<- r1.length,<- r2.length];exact hz);refine⟨.ref s.heap.objs.size,_,I.laid (t':=s.toks) (o:=.t (xs++ys)) (λb ob q=>lD _ q) (HB _) ?_,rfl,q2 (λw=>z (r2.OX.mpr w)) _ (I.HA.fresh (HB _))⟩;exact⟨by rw[lE];exact hz,_,r1.append r2,ib _ _⟩
end
noncomputable def iD(n:Nat)(i:Int):Option Nat:=if 0<=i then(if i<n then some i.toNat else none) else if -(n:Int)<=i then some (i+n).toNat else none
noncomputable def oC(xs:List O)(i:Int):Option O:=(iD xs.length i).bind λj=>xs[j]?
def vg(h:iD n i=some j):seqIndex? i n=some j/\j<n/\-(n:Int)<=i/\i<n:=by
 unfold iD at h;by_cases h0:0<=i
 ·rw[uA h0] at h;by_cases h1:i<n
  ·rw[uA h1] at h;have e:i.toNat=j:=uF h;exact⟨by rw[Ua h0 h1,e],by lia,by lia,h1⟩
  ·rw[qB h1] at h;cases h
 ·rw[qB h0] at h;by_cases h1:-(n:Int)<=i
  ·rw[uA h1] at h;have e:(i+n).toNat=j:=uF h;exact⟨by rw[Ma (by lia) h1,e],by lia,h1,by lia⟩
  ·rw[qB h1] at h;cases h
def RZ(h:oC xs i=some v):∃j,seqIndex? i xs.length=some j/\xs[j]?=some v/\j<xs.length/\-(xs.length:Int)<=i/\i<xs.length:=by
 unfold oC at h
 cases e:iD xs.length i with
 |none=>rw[e] at h;cases h
 |some j =>
  rw[e] at h;obtain⟨h1,h2,h3,h4⟩:=vg e;exact⟨j,h1,h,h2,h3,h4⟩
def TZ{j:Nat}(h:xs[j]?=some v):oC xs (j:Int)=some v:=by
 have hj:j<xs.length:=(MD.mp h).1
 have e:iD xs.length (j:Int)=some j:=by(unfold iD;rw[uA (by lia),uA (by lia)];simp)
 unfold oC;rw[e];exact h
def HZ(b:sA):Prop:=∀o i,subscripted b false o i=operate [o,i] (getItem o i)
def LF(X:Cx)(r:R2):Prop :=
 ∀(value slice:sA) (bA:List (eA×wB)) (s:xA) (Y:St) (H:Hp) (x y:V) (v u:cA) (Q:VK),dA X bA Y H s->aAe x v->aAe y u->r x y H Q ->
  subscripted slice false v u=operate [v,u] (getItem v u)->AA (model X.prog X.w) X.A (subscriptTail value slice v u) (EP X bA Y Q) X.xe s
def YU(X:Cx)(id:String)(r:V->List V->Hp->VK->Prop):Prop :=
 ∀(bA:List (eA×wB)) (s:xA) (Y:St) (H:Hp) (x:V) (xs:List V) (v:cA) (us:List cA) (Q:VK),dA X bA Y H s->aAe x v->aAf xs us->r x xs H Q ->
  AA (model X.prog X.w) X.A (call (.builtin id) (v::us)) (EP X bA Y Q) X.xe s
section
variable{pos:XB}
def LF.or(h:LF X r)(h':LF X r'):LF X (λx y H Q=>r x y H Q\/r' x y H Q):=by
 intro value slice bA s Y H x y v u Q I rx ry q hs;rcases q with q | q
 ·exact h value slice bA s Y H x y v u Q I rx ry q hs
 ·exact h' value slice bA s Y H x y v u Q I rx ry q hs
def cPa(hr:LF X r)(ha:PE X a ta)(hb:PE X b tb)(hs:HZ b):PE X (.Subscript a b pos) (XT r ta tb):=by
 intro bA s Y H Q I h;exact Subscript_ (B0 ha hb I h λv u s2 x y H2 I2 rx ry q=>hr a b bA s2 Y H2 x y v u Q I2 rx ry q (hs _ _))
noncomputable def Oj(K:fA):R2:=λx y H Q=>∃p xs i v,x=.ref p/\y=.int i/\CB K H p xs/\oC xs i=some v/\Q v H
noncomputable def Pj(K:fA):R2:=λx y H Q=>∃p xs i v,x=.ref p/\y=.int i/\FC K H p xs/\oC xs i=some v/\Q v H
noncomputable def fY:R2:=λx y H Q=>∃z i c,x=.str z/\y=.int i/\z.length<=sizeLine/\oC z.cps.toList i=some c/\Q (.str ⟨#[c]⟩) H
def iDa:LF X (Oj X.K):=by
 intro value slice bA s Y H x y v u Q I rx ry h hs;obtain⟨p,xs,i,z,rfl,rfl,hq,he,q⟩:=h;cases rx;obtain⟨t,rfl⟩:=ry;obtain⟨gA,r,pl,hz⟩:=I.list hq;obtain⟨j,h1,h2,h3,h4,h5⟩:=RZ he;obtain⟨w,ew,ZH⟩:=r.get h2;have hl:=r.length;have hn:=uO;have XA:EP X bA Y Q w s:=⟨z,H,I,ZH,q⟩
 by_cases h0:0<=i
 ·have hj:i.toNat=j:=by
   rw[Ua h0 h5] at h1;exact uF h1
  exact item_listR pl.isList h0 (by lia) (by rw[hj];simpa using ew) XA hs
 ·have hj:(i+(gA.toArray.size:Int)).toNat=j:=by
   rw[Ma (by lia) h4] at h1;rw[VD,<- hl];exact uF h1
  exact To (x:=w) pl.isList.typeIs Ep.lookup
   (wpAny_getItem_list_neg (Q:=λr s'=>r=w/\EP X bA Y Q r s') pl.isList (by lia) (by rw[VD]<;>lia) (by lia) (by rw[hj];simpa using ew) ⟨rfl,XA⟩) hs
def nDa:LF X (Pj X.K):=by
 intro value slice bA s Y H x y v u Q I rx ry h hs;obtain⟨p,xs,i,z,rfl,rfl,hq,he,q⟩:=h;cases rx;obtain⟨t,rfl⟩:=ry;obtain⟨gA,r,pl,hz⟩:=I.tuple hq;obtain⟨j,h1,h2,h3,h4,h5⟩:=RZ he;obtain⟨w,ew,ZH⟩:=r.get h2;have hl:=r.length;have hn:=uO;have XA:EP X bA Y Q w s:=⟨z,H,I,ZH,q⟩
 exact To (x:=w) pl.typeIs QY.lookup
  (getItem_tuple (Q:=λr s'=>r=w/\EP X bA Y Q r s') pl (by lia) (by lia) (by rw[VD,<- hl];exact h1) (by simpa using ew) ⟨rfl,XA⟩) hs
def mDa:LF X fY:=by
 intro value slice bA s Y H x y v u Q I rx ry h hs;obtain⟨z,i,c,rfl,rfl,hz,he,q⟩:=h;obtain⟨t,rfl⟩:=rx;obtain⟨t',rfl⟩:=ry;obtain⟨j,h1,h2,h3,h4,h5⟩:=RZ he;have hl:z.cps.toList.length=z.length:=by simp[Str.length]
 rw[hl] at h1 h4 h5;have hn:=uO
 exact tail_any (DR s z t) slot_str_getitem.lookup (getItem_str (by
  have e1:decide (i < -(2 ^ 63:Int))=false:=zB (by lia);have e2:decide (i >= 2 ^ 63)=false:=zB (by lia)
  rw[e1,e2,Ga]) (by rw[h1];simpa using h2) ⟨.str ⟨#[c]⟩,H,I.tok _,⟨_,rfl⟩,q⟩) hs
noncomputable def rIx(K:fA):R2:=λx y H Q=>Oj K x y H Q\/Pj K x y H Q\/fY x y H Q
def lDa:LF X (rIx X.K):=iDa.or (nDa.or mDa)
def uHa(gA:List cA)(n j:Nat)(u:cA):MU (·.setIfInBounds j u) { cls:=.type "list",data:=.seq gA.toArray n }={ cls:=.type "list",data:=.seq (gA.set j u).toArray n }:=by
 simp[MU]
theorem dA.l(I:dA X bA Y H s)(h:H p=some (.l xs)) :
  ∃(gA:List cA) (n:Nat),aAf xs gA/\s.heap.get? p=some { cls:=.type "list",data:=.seq gA.toArray n }/\xs.length<=sizeLine:=by
 obtain⟨z,gA,n,r,e⟩:=I.HA p _ h;exact⟨gA,n,r,e,z⟩
def dA.oHa{gA its':List cA}(I:dA X bA Y H s)(h:H p=some (.l xs))
  (ho:s.heap.get? p=some { cls:=.type "list",data:=.seq gA.toArray n }) (hf:f { cls:=.type "list",data:=.seq gA.toArray n }={ cls:=.type "list",data:=.seq its'.toArray n' }) (r:aAf ys its') (hz:ys.length<=sizeLine) (t:Nat) :
  dA X bA Y (vA H p (.l ys)) { s with heap:=s.heap.update p f,toks:=t }:=by
 have e:(s.heap.update p f).get? p=some { cls:=.type "list",data:=.seq its'.toArray n' }:=by(rw[iU f ho (by rw[hf]<;>rfl),hf])
 refine I.write (x:=p) (e:=p) (by rw[h];trivial) (.inl rfl) (λb u hb q=>(VO _ _ (gE hb)).trans q) ⟨_,e⟩ ?_;exact⟨hz,its',n',r,e⟩
def xT:V->V->V->Hp->(Hp->Prop)->Prop:=λo i v H Q=>∃p xs k j,o=.ref p/\i=.int k/\H p=some (.l xs)/\iD xs.length k=some j/\Q (vA H p (.l (xs.set j v)))
def aAF:aV X xT:=by
 intro bA s Y H o i v ov iv u Q I ro ri rv h;obtain⟨p,xs,k,j,rfl,rfl,hp,hj,q⟩:=h;cases ro;obtain⟨t,rfl⟩:=ri;obtain⟨gA,n,r,ho,hz⟩:=I.l hp;obtain⟨h1,h2,h3,h4⟩:=vg hj;have hl:=r.length;have hn:=uO
 have I':dA X bA Y (vA H p (.l (xs.set j v))) { s with heap:=s.heap.update p (MU (·.setIfInBounds j u)) } :=
  I.oHa hp ho (uHa gA n j u) (r.set rv j) (by rw[SE];exact hz) s.toks
 by_cases h0:0<=k
 ·have hk:k.toNat=j:=by
   rw[Ua h0 h4] at h1;exact uF h1
  exact PySem.W.ki_setAt ho h0 (by lia) (by rw[VD,<- hl];exact h4) (by rw[hk];exact⟨_,I',q⟩)
 ·have hk:(k+(gA.toArray.size:Int)).toNat=j:=by
   rw[Ma (by lia) h3] at h1;rw[VD,<- hl];exact uF h1
  exact PySem.W.ki_setBack ho (by lia) (by rw[VD,<- hl];exact h3) (by lia) (by rw[hk];exact⟨_,I',q⟩)
def vUa(lo hi:Option Int)(n:Nat):(sliceBounds lo hi none n).1=((HT.vB n 0 lo:Nat):Int)/\(sliceBounds lo hi none n).2.1=((HT.vB n n hi:Nat):Int)/\(sliceBounds lo hi none n).2.2=1:=by
 refine⟨?_, ?_,rfl⟩
 ·cases lo with
  |none=>simp[sliceBounds,HT.vB]
  |some i =>
   simp only[sliceBounds,HT.vB,Tp,show(1:Int) > 0 by decide,iE];by_cases h:i<0
   ·simp only[h,iE]<;>lia
   ·simp only[h,yE]<;>lia
 ·cases hi with
  |none=>simp[sliceBounds,HT.vB]
  |some i =>
   simp only[sliceBounds,HT.vB,Tp,show(1:Int) > 0 by decide,iE];by_cases h:i<0
   ·simp only[h,iE]<;>lia
   ·simp only[h,yE]<;>lia
def uUa(gA:List cA)(lo hi:Option Int):slicePick gA.toArray lo hi none=((gA.drop (HT.vB gA.length 0 lo)).take (HT.vB gA.length gA.length hi-HT.vB gA.length 0 lo)).toArray:=by
 obtain⟨h1,h2,h3⟩:=vUa lo hi gA.toArray.size;unfold slicePick;rw[h1,h2,h3];simp only[sliceRange_one,pick_run,VD]<;>rfl
def qSa(K:fA):V->Option Int->Option Int->Hp->VK->Prop:=λx lo hi H Q=>∃a xs,x=.ref a/\CB K H a xs/\∀p,H p=none->Q (.ref p) (vA H p (.l (BM xs lo hi)))
def pUa:WJ X (qSa X.K):=by
 intro bA s Y H x v vl vu lo hi sl Q I rx hs pl pu h;obtain⟨a,xs,rfl,hx,q⟩:=h;cases rx;obtain⟨gA,r,ht,hz⟩:=I.list hx;have GB:=r.length;refine⟨"list",_,Ep.lookup,ht.isList.typeIs, ?_⟩;refine wpAny_getItem_list_slice ht.isList hs pl pu .none (by simp) ?_ (by rw[VD]<;>lia);rw[uUa,<- GB];refine⟨.ref s.heap.objs.size,_,I.laid (t':=s.toks) (o:=.l (BM xs lo hi)) (λb ob q=>lD _ q) (HB _) ?_,rfl,q _ (I.HA.fresh (HB _))⟩;exact⟨uE (ud xs lo hi) hz,_,0,(r.drop (HT.vB xs.length 0 lo)).take (HT.vB xs.length xs.length hi-HT.vB xs.length 0 lo),zH _ rfl⟩
noncomputable def cK:V->Bool
 |.oA=>true
 |.bl _=>true
 |.int _=>true
 |.str _=>true
 |_=>false
noncomputable def MH:V->V->Bool
 |.oA,.oA=>true
 |.bl a,.bl b=>a==b
 |.bl a,.int b=>(if a then 1 else 0)==b
 |.int a,.bl b=>a==(if b then 1 else 0)
 |.int a,.int b=>a==b
 |.str a,.str b=>a==b
 |_,_=>false
def Xw(ry:aAe y u)(rx:aAe x v)(fy:cK y=true)(fx:cK x=true):SeqAt.EqAt A s u v (MH y x):=by
 cases y with
 |oA =>
  cases ry
  cases x with
  |oA=>cases rx;exact SeqAt.EqAt.same _
  |bl b=>cases rx;exact SeqAt.EqAt.none_bool b
  |int b=>obtain⟨t,rfl⟩:=rx;exact SeqAt.EqAt.none_int b t
  |str b=>obtain⟨t,rfl⟩:=rx;exact SeqAt.EqAt.none_str b t
  |_=>exact absurd (show false=true from fx) OK
 |bl a =>
  cases ry
  cases x with
  |oA=>cases rx;exact SeqAt.EqAt.bool_none a
  |bl b=>cases rx;exact SeqAt.EqAt.bool_bool a b
  |int b=>obtain⟨t,rfl⟩:=rx;exact SeqAt.EqAt.bool_int a b t
  |str b=>obtain⟨t,rfl⟩:=rx;exact SeqAt.EqAt.bool_str a b t
  |_=>exact absurd (show false=true from fx) OK
 |int a =>
  obtain⟨t',rfl⟩:=ry
  cases x with
  |oA=>cases rx;exact SeqAt.EqAt.int_none a t'
  |bl b=>cases rx;exact SeqAt.EqAt.int_bool a t' b
  |int b=>obtain⟨t,rfl⟩:=rx;exact SeqAt.EqAt.int_int a t' b t
  |str b=>obtain⟨t,rfl⟩:=rx;exact lp a t' b t
  |_=>exact absurd (show false=true from fx) OK
 |str a =>
  obtain⟨t',rfl⟩:=ry
  cases x with
  |oA=>cases rx;exact SeqAt.EqAt.str_none a t'
  |bl b=>cases rx;exact SeqAt.EqAt.str_bool a t' b
  |int b=>obtain⟨t,rfl⟩:=rx;exact qp a t' b t
  |str b=>obtain⟨t,rfl⟩:=rx;exact SeqAt.EqAt.str_str a t' b t
  |_=>exact absurd (show false=true from fx) OK
 |_=>exact absurd (show false=true from fy) OK
noncomputable def LG(x:V)(u:cA):Bool:=match u with
 |.none=>MH .oA x
 |.bool b=>MH (.bl b) x
 |.int i _=>MH (.int i) x
 |.str z _=>MH (.str z) x
 |_=>false
def Qd(r:aAe y u)(f:cK y=true):LG x u=MH y x:=by
 cases y with
 |oA=>cases r;rfl
 |bl b=>cases r;rfl
 |int i=>obtain⟨t,rfl⟩:=r;rfl
 |str z=>obtain⟨t,rfl⟩:=r;rfl
 |_=>exact absurd (show false=true from f) OK
theorem RR:∀{xs:List V} {us:List cA},aAf xs us->xs.all cK=true->us.any (LG x)=xs.any λy=>MH y x
 |_,_,.nil,_=>rfl
 |y::xs,u::us,.cons r t,f=>by(rw[TB,qA] at f;rw[FK,FK,Qd r f.1,RR t f.2])
theorem XS(rx:aAe x v)(fx:cK x=true):∀{xs:List V} {us:List cA},aAf xs us->xs.all cK=true->∀u∈us,SeqAt.EqAt A s u v (LG x u)
 |_,_,.nil,_=>λu hu=>by cases hu
 |y::xs,u::us,.cons r t,f=>λu' hu=>by
  rw[TB,qA] at f;rcases AD.mp hu with rfl | hu
  ·rw[Qd r f.1];exact Xw r rx f.1 fx
  ·exact XS rx fx t f.2 u' hu
noncomputable def gX(x:V)(xs:List V):Bool:=xs.any λy=>MH y x
noncomputable def Nj(K:fA)(neg:Bool):R2:=λx y H Q=>∃p xs,y=.ref p/\(CB K H p xs\/FC K H p xs)/\cK x=true/\xs.all cK=true/\Q (.bl (if neg then !gX x xs else gX x xs)) H
def Xi:EC X (DF .In) (Nj X.K false):=by
 intro bA s Y H x y v u Q I rx ry h;obtain⟨p,xs,rfl,hq,fx,fs,q⟩:=h;cases ry;rcases hq with hq | hq
 ·obtain⟨gA,r,pl,hz⟩:=I.list hq;refine SeqAt.in_listAt (LG x) pl.isList (λw hw=>XS rx fx r fs w (by simpa using hw)) ⟨.bl _,H,I,rfl, ?_⟩;rw[show gA.toArray.any (LG x)=gA.any (LG x) by simp,RR r fs];exact q
 ·obtain⟨gA,r,pl,hz⟩:=I.tuple hq;refine SeqAt.in_tupleAt (LG x) pl (λw hw=>XS rx fx r fs w (by simpa using hw)) ⟨.bl _,H,I,rfl, ?_⟩;rw[show gA.toArray.any (LG x)=gA.any (LG x) by simp,RR r fs];exact q
def Yi:EC X (DF .NotIn) (Nj X.K true):=by
 intro bA s Y H x y v u Q I rx ry h;obtain⟨p,xs,rfl,hq,fx,fs,q⟩:=h;cases ry;rcases hq with hq | hq
 ·obtain⟨gA,r,pl,hz⟩:=I.list hq;refine SeqAt.notIn_listAt (LG x) pl.isList (λw hw=>XS rx fx r fs w (by simpa using hw)) ⟨.bl _,H,I,rfl, ?_⟩;rw[show gA.toArray.any (LG x)=gA.any (LG x) by simp,RR r fs];exact q
 ·obtain⟨gA,r,pl,hz⟩:=I.tuple hq;refine SeqAt.notIn_tupleAt (LG x) pl (λw hw=>XS rx fx r fs w (by simpa using hw)) ⟨.bl _,H,I,rfl, ?_⟩;rw[show gA.toArray.any (LG x)=gA.any (LG x) by simp,RR r fs];exact q
def jNa:EC X (DF .NotIn) (λx y H Q=>∃i j,x=.str i/\y=.str j/\Q (.bl (!(!(AN j i 0 j.length 1).isEmpty))) H):=by
 intro bA s Y H x y v u Q I rx ry h;obtain⟨i,j,rfl,rfl,q⟩:=h;obtain⟨t,rfl⟩:=rx;obtain⟨t',rfl⟩:=ry;exact notIn_str ⟨.bl _,H,I,rfl,q⟩
def Qc:qG X (.builtin "len") (λxs H Q=>∃p ys,xs=[.ref p]/\(CB X.K H p ys\/FC X.K H p ys)/\Q (.int ys.length) H):=by
 intro bA s Y H xs us Q I r h;obtain⟨p,ys,rfl,hq,q⟩:=h;obtain⟨u,rfl,rx⟩:=aAA r;cases rx;have hn:=uO;rcases hq with hq | hq
 ·obtain⟨gA,r',pl,hz⟩:=I.list hq;have GB:=r'.length;exact Calls.call_len_list pl.isList (by simp only[VD]<;>lia) ⟨.int ys.length,H,I.tok _,⟨s.toks+1,by rw[VD,GB]⟩,q⟩
 ·obtain⟨gA,r',pl,hz⟩:=I.tuple hq;have GB:=r'.length;exact len_tuple pl (by simp only[VD]<;>lia) ⟨.int ys.length,H,I.tok _,⟨s.toks+1,by rw[VD,GB]⟩,q⟩
def Lv:qG X (.builtin "len") (λxs H Q=>∃z,xs=[.str z]/\z.length<=sizeLine/\Q (.int z.length) H):=by
 intro bA s Y H xs us Q I r h;obtain⟨z,rfl,hz,q⟩:=h;obtain⟨u,rfl,t,rfl⟩:=aAA r;have hn:=uO;exact len_str (by lia) ⟨.int z.length,H,I.tok _,⟨_,rfl⟩,q⟩
def Rc:qG X (.type "tuple") (λxs H Q=>∃p ys,xs=[.ref p]/\((CB X.K H p ys/\∀l,H l=none->Q (.ref l) (vA H l (.t ys)))\/(FC X.K H p ys/\Q (.ref p) H))):=by
 intro bA s Y H xs us Q I r h;obtain⟨p,ys,rfl,h⟩:=h;obtain⟨u,rfl,rx⟩:=aAA r;cases rx;rcases h with ⟨hq,q⟩ | ⟨hq,q⟩
 ·obtain⟨gA,r',pl,hz⟩:=I.list hq;have GB:=r'.length;refine call_tuple_list pl.isList (λh' kp=>?_) (by simp only[VD]<;>lia);have I1:dA X bA Y H { s with heap:=h' }:=I.kept (t':=s.toks) kp
  have I2:dA X bA Y (vA H h'.objs.size (.t ys)) { s with heap:=h'.push { cls:=.type "tuple",data:=.seq gA.toArray } } :=
   I1.laid (t':=s.toks) (λb o e=>lD _ e) (HB _) (show XD X.prog X.w _ _ _ (.t ys) from⟨hz,gA,r',ib _ _⟩)
  exact⟨.ref h'.objs.size,_,I2,rfl,q _ (I1.HA.fresh (HB _))⟩
 ·obtain⟨gA,r',pl,hz⟩:=I.tuple hq;exact call_tuple_same pl ⟨.ref p,H,I,rfl,q⟩
def Z8(K:fA)(T:String)(x:V)(H:Hp):Prop:=match x with
 |.str _=>T="str"
 |.int _=>T="int"
 |.ref p=>(T="list"/\∃xs,CB K H p xs)\/(T="tuple"/\∃o,K.lookup p=some o/\o.cls=.type "tuple"/\o.dict=none) \/
   (T="dict"/\∃KA,H p=some (.dK KA))\/(T="set"/\∃S n,H p=some (.set S n))
 |_=>False
def mn(I:dA X bA Y H s)(r:aAe x v)(ty:Z8 X.K T x H) :
  s.TypeIs v T/\∀a,v=.ref a->∃ob,s.heap.get? a=some ob/\ob.dict=none:=by
 cases x with
 |str z =>
  obtain⟨t,rfl⟩:=r;cases (show T="str" from ty);exact⟨DR s z t,λ_ e=>nomatch e⟩
 |int i =>
  obtain⟨t,rfl⟩:=r;cases (show T="int" from ty);exact⟨typeIs_int s i t,λ_ e=>nomatch e⟩
 |ref p =>
  cases r;rcases ty with ⟨rfl,xs,hq⟩ | ⟨rfl,o,hk,hc,hd⟩ | ⟨rfl,hk⟩ | ⟨rfl,S,n,hk⟩
  ·obtain⟨gA,_,pl,_⟩:=I.list hq;refine⟨pl.isList.typeIs,λa e=>?_⟩;cases e;obtain⟨o,n,e,c,hd,_⟩:=pl;exact⟨o,e,hd⟩
  ·refine⟨⟨o,I.pE p o hk,hc⟩,λa e=>?_⟩;cases e;exact⟨o,I.pE _ o hk,hd⟩
  ·have z:∃o,s.heap.get? p=some o/\o.ExactDict:=by
    obtain⟨KA,hk⟩:=hk;obtain⟨_,_,_,_,o,_,_,e,ex,_⟩:=I.HA p _ hk;exact⟨o,e,ex⟩
   obtain⟨o,e,ex⟩:=z;refine⟨⟨o,e,ex.1⟩,λa e2=>?_⟩;cases e2;exact⟨o,e,ex.2.1⟩
  ·obtain⟨o,_,_,_,e,ex,_⟩:=I.HA p _ hk;refine⟨⟨o,e,ex.1⟩,λa e2=>?_⟩;cases e2;exact⟨o,e,ex.2.1⟩
 |_=>exact fG ty
noncomputable def gWa(K:fA)(T:String)(r:V->List V->Hp->VK->Prop)(to:TE):TE:=λY H Q=>to Y H λx H1=>Z8 K T x H1/\r x [] H1 Q
noncomputable def tBM(K:fA)(T:String)(r:V->List V->Hp->VK->Prop)(to:TE)(t:TA):TE:=λY H Q=>to Y H λx H1=>Z8 K T x H1/\t Y H1 λxs H2=>r x xs H2 Q
variable{T id:String}
def uOa(pa:PlainAttrs T)(slot:Slot T name id)(DS:typeOf (.builtin id)=pure (.type "method_descriptor"))(hm:YU X id r)(ho:PE X o to)
  (qL:attributeBase o name X.env (eval o X.env)=eval o X.env:=by rfl) (K4:(mB.endLine==aB.line)=true:=by rfl):PE X (.Call (.Attribute o name mB) [] [] aB) (gWa X.K T r to):=by
 intro bA s Y H Q I h;refine wpAny_Call_method0_late qL K4 (NA (ho bA s Y H _ I h) λv s1 hz=>?_);obtain⟨x,H1,I1,r1,ty,q1⟩:=hz;obtain⟨h1,h2⟩:=mn I1 r1 ty;exact⟨T,id,pa,slot,DS,h1,h2,Calls.callWith_builtin rfl (PySem.evalArgs_none (hm bA s1 Y H1 x [] v [] Q I1 r1 .nil q1))⟩
def MQ(pa:PlainAttrs T)(slot:Slot T name id)(DS:typeOf (.builtin id)=pure (.type "method_descriptor"))(hm:YU X id r)(ho:PE X o to)(ha:PA X (e::es) t)
  (qL:attributeBase o name X.env (eval o X.env)=eval o X.env:=by rfl)
  (Q_:((sE aB (UB (e::es) X.env)).all (λx=>!x.1)&&(backToKw aB (keywordEach [] X.env)).all (λx=>x.1.isSome)
   && decide ((e::es).length+([]:List tP).length+(if([]:List tP).isEmpty then 0 else 1)<30))=true:=by rfl)
  (K4:(mB.endLine==aB.line)=true:=by rfl) (hs:UB (e::es) X.env=(false,eval e X.env)::UB es X.env:=by rfl) (Q4:(sE aB (UB es X.env)).any (·.1)=false:=by rfl) :
  PE X (.Call (.Attribute o name mB) (e::es) [] aB) (tBM X.K T r to t):=by
 intro bA s Y H Q I h;refine wpAny_Call_method_late qL Q_ K4 rfl (NA (ho bA s Y H _ I h) λv s1 hz=>?_);obtain⟨x,H1,I1,r1,ty,q1⟩:=hz;obtain⟨h1,h2⟩:=mn I1 r1 ty;refine⟨T,id,pa,slot,DS,h1,h2, ?_⟩;have hA:=ha aB bA s1 Y H1 _ I1 q1;rw[hs] at hA ⊢;refine Calls.callWith_builtin (by show(false||(sE aB (UB es X.env)).any (·.1))=false;rw[Q4]<;>rfl) (Calls.evalArgs_plain ?_);exact NA hA λus s2 ⟨vs,H2,I2,r2,q2⟩=>hm bA s2 Y H2 x vs v us Q I2 r1 r2 q2
end
def NR(X:Cx)(id:String)(r:V->List V->Hp->VK->Prop):Prop :=
 ∀(bA:List (eA×wB)) (s:xA) (Y:St) (H:Hp) (x:V) (xs:List V) (v:cA) (us:List cA) (Q:VK),dA X bA Y H s->aAe x v->aAf xs us->r x xs H Q ->
  AA (model X.prog X.w) X.A (call (.builtin id) (v::us)) (EP X bA Y Q) X.xe s
def aAf.one{x:V}{us:List cA}(h:aAf [x] us):∃u,us=[u]/\aAe x u:=by
 cases h with | cons r t=>cases t;exact⟨_,rfl,r⟩
section
variable{X:Cx}{bA:List (eA×wB)}{Y:St}{H:Hp}{s:xA}{l b:eA}{xs ys zs:List V}
def dA.di{gA its':List cA}(I:dA X bA Y H s)(hH:H l=some (.l xs))
  (e:s.heap.get? l=some { cls:=.type "list",data:=.seq gA.toArray n }) (hf:f gA.toArray=its'.toArray) (hv:aAf ys its') (hz:ys.length<=sizeLine) :
  dA X bA Y (vA H l (.l ys)) { s with heap:=s.heap.update l (MU f),toks:=t' }:=by
 have q:=PySem.IsL.update e f;rw[hf] at q;refine I.write (x:=l) (e:=l) (by rw[hH];exact trivial) (.inl rfl) (λb' u hb hu=>(VO s.heap (MU f) (gE hb)).trans hu) ⟨_,q⟩ ?_;exact⟨hz,its',_,hv,q⟩
def dA.Zh(I:dA X bA Y H s)(hv:aAf ys gA)(hz:ys.length<=sizeLine) :
  dA X bA Y (vA H s.heap.objs.size (.l ys)) { s with heap:=s.heap.push { cls:=.type "list",data:=.seq gA.toArray },toks:=t' } :=
 I.laid (λ_ _ q=>lD _ q) (HB _) ⟨hz,gA,0,hv,zH _ rfl⟩
theorem dA.fresh(I:dA X bA Y H s):H s.heap.objs.size=none:=I.HA.fresh (HB _)
def dA.a7(I:dA X bA Y H s)(hH:H l=some (.l xs)):xs.length<=sizeLine/\∃(gA:List cA) (n:Nat),aAf xs gA/\xs.length=gA.length/\s.heap.get? l=some { cls:=.type "list",data:=.seq gA.toArray n }:=by
 obtain⟨z,gA,n,r,e⟩:=I.HA l _ hH;exact⟨z,gA,n,r,r.length,e⟩
def oJa(h:n<=sizeLine):n9 n=false:=by
 unfold n9;exact zB (by lia)
end
section
variable{X:Cx}
def fSa:V->List V->Hp->VK->Prop:=λx vs H Q=>∃l xs y,x=.ref l/\vs=[y]/\H l=some (.l xs)/\xs.length<sizeLine/\Q .oA (vA H l (.l (xs++[y])))
def ui:NR X "list.append" fSa:=by
 intro bA s Y H x vs v us Q I rx rv h;obtain⟨l,xs,y,rfl,rfl,hH,hz,q⟩:=h;cases rx;obtain⟨u,rfl,ru⟩:=rv.one;obtain⟨z,gA,n,r,hl,e⟩:=I.a7 hH;refine NU Xo ⟨_,e,rfl⟩ F.entry_list_append (F.args_list_append_2 _ _) (PySem.list_append l gA.toArray n u (by rw[VD];lia)) ⟨e, ?_⟩;refine⟨.oA,_,I.di (its':=gA++[u]) hH e (by simp) (r.append (.cons ru .nil)) ?_,rfl,q⟩;rw[lE,List.length_singleton]
 lia
def jSa:V->List V->Hp->VK->Prop:=λx vs H Q=>∃l b xs zs,x=.ref l/\vs=[.ref b]/\H l=some (.l xs)/\H b=some (.l zs)/\xs.length+zs.length<=sizeLine/\Q .oA (vA H l (.l (xs++zs)))
def fIa:NR X "list.extend" jSa:=by
 intro bA s Y H x vs v us Q I rx rv h;obtain⟨l,b,xs,zs,rfl,rfl,hH,hB,hz,q⟩:=h;cases rx;obtain⟨u,rfl,ru⟩:=rv.one;cases ru;obtain⟨z,gA,n,r,hl,e⟩:=I.a7 hH;obtain⟨z2,pJ,n2,r2,JW,e2⟩:=I.a7 hB;have hsz:gA.toArray.size+pJ.toArray.size<=sizeLine:=by rw[VD,VD];lia
 have Z':¬(!gA.toArray.isEmpty&&n9 (gA.toArray.size+pJ.toArray.size))=true:=by(rw[oJa hsz,HJ];exact OK)
 refine NU Yo ⟨_,e,rfl⟩ F.entry_list_extend (F.args_list_extend_2 _ _)
  (AutoSeq1.list_extend_list_list_0 l gA.toArray n b pJ.toArray n2 Z' (by rw[VD];lia) (by lia)) ⟨e,e2, ?_⟩
 refine⟨.oA,_,I.di (its':=gA++pJ) hH e (by simp) (r.append r2) ?_,rfl,q⟩;rw[lE]
 lia
end
end L2
namespace Att
open PySem PySem.W PySem.Calls PyProof.Rows
def mBa:∀(ns:List Int) (vs:List cA),WellAll P h vs (ns.map WData.int)->PU vs ns:=by
 intro ns
 induction ns with
 |nil =>
  intro vs w;rw[vN] at w;cases w;exact .nil
 |cons n ns ih =>
  intro vs w;rw[eD] at w
  cases w with
  |cons a b =>
   cases a;exact .cons _ _ (ih _ b)
def bUa{l:KU}(hn:l.most=some n)
  (RW:l.row.toRowW.claim.pre args=true) (oE:WellAll P h vals args) :
  ∃a vs ns,vals=[Value.ref a]/\args=[WData.list (ns.map WData.int)]/\h.get? a=some { cls:=.type "list",data:=.seq vs.toArray }/\PU vs ns/\ns.length<=n:=by
 have hsh:WShape.hasAll [] args [.list .int]=true:=(pre_splitW RW).1;have hc:l.pre.holds [] { args:=args }=true:=(pre_splitW RW).2;obtain⟨d,r,rfl,h1,h2⟩:=hasAllW_cons hsh;obtain rfl:=hasAllW_nil h2;obtain⟨xs,rfl,h3⟩:=hasW_list h1;obtain⟨ns,rfl⟩:=items_int h3
 have GB:ns.length<=n:=by
  unfold OpenLaw.pre at hc
  have h4:(WTm.not (.lt (.lit (.int (n:Int))) (.len (.arg 0)))).holds [] { args:=[.list (ns.map .int)] }=true:=by(have h4:=(holds_andW hc).1;rw[hn] at h4;exact h4)
  have h5:=condW_of h4 (w_not (w_lt w_lit (w_len_list (w_arg rfl))));rw[JA] at h5;refine W9 λq=>?_
  have q':(n:Int)<((ns.length:Nat):Int):=by lia
  first
   | (rw[IB q'] at h5;exact absurd h5 (by decide))
   | (simp at h5;lia)
 cases oE with
 |cons w1 w2 =>
  cases w2
  cases w1 with
  |list ho dJ=>exact⟨_,_,ns,rfl,rfl,ho,mBa ns _ dJ,GB⟩
def bQa(l:KU)(args:List WData):l.row.toRowW.claim.post args (.bool true) args=true :=
 postW_of (r:=l.row.toRowW) (X:=(true==true))
  (show sq [] (.bool true) .bool=true by first | rfl | decide | simp[sq,WShape.arms,WShape.armsAll])
  (show(WTm.eq .res (.lit (.bool true))).value [] { args:=args,res:=some (.bool true),after:=args }=some (.bool (true==true)) from w_eq_bool (w_res rfl) w_lit) rfl
def Qt{l:KU}
  (hn:l.most=some n) (rS:d.params.defaults=[])
  (call:∀(w:DC) (s₀ s₁:xA) (mg mb:aA->Option cA) (fa:eA) (o:wB) (pm cd doc:cA) (a:eA) (vs:List cA) (ns:List Int),
   Ground q loose [] XP w s₀ mg mb s₁.heap->YP w s₁.heap ->
   s₁.heap.get? fa=some o->o.data=.func (docDef d.name d.params d.body d.scope pm cd doc)->s₁.heap.CodeRec cd d.name->mg d.name=some (.ref fa) ->
   s₁.heap.get? a=some { cls:=.type "list",data:=.seq vs.toArray }->PU vs ns->ns.length<=n->s₁.gens=#[] ->
   fM (model l.prog w) callerA (.call (.ref fa) ⟨[.ref a],[]⟩) (λr s'=>r=.ok (.ret (.bool true))/\OldK s₁.heap s'.heap/\s'.os=s₁.os/\JK s'.gens) s₁) :
  Xa q loose XP YP l.row.toRowW d [] (λf vs=>Za f vs):=by
 intro w s₀ s₁ mg mb G Y fa o pm cd doc dV kV ho hd MG hD qQ hg args vals as RW wZa V4 oE xS;obtain rfl:dV=.none:=Dflts.none hD rS;obtain rfl:kV=.none:=Dflts.noKw hD;obtain⟨a,vs,ns,rfl,rfl,P4,hints,GB⟩:=bUa hn RW oE;refine enter_call (qP (call w s₀ s₁ mg mb fa o pm cd doc a vs ns G Y ho (fd_plain hd) MG qQ P4 hints GB hg) λr s' hq=>?_);obtain⟨rfl,h2,h3,h4⟩:=hq;exact⟨.inl ⟨.bool true,.bool true,[],rfl,λ_=>rfl,.bool true,bQa l _,λ_=>⟨List.Pairwise.nil,λ_ hm=>(nomatch hm)⟩⟩,h2,h3,h4⟩
end Att
namespace L2
open PySem PySem.Spec PyProof.Rows
theorem En:∀{vs:List cA} {ns:List Int},PU vs ns->aAf (ns.map V.int) vs
 |_,_,.nil=>.nil
 |_,_,.cons n t h=>.cons ⟨t,rfl⟩ (En h)
def GZ(H:Hp):Prop:=∀b,H b=none\/∃o xs,H b=some (.zF o (.l xs))
def vGa{K:fA}
  (KX:K.In s₁.heap) (tQ:s₁.heap.Ns oB mg) (hb:s₁.heap.Ns builtinsNs mb) (D_:∀x:aA,x≠"__name__"->mb x=uN x) (W':s₁.heap.NoLimit) (hg:s₁.gens=#[])
  (ha:s₁.heap.get? a=some { cls:=.type "list",data:=.seq vs.toArray }) (hi:PU vs ns) (hl:ns.length<=sizeLine) (hr:YC k callerA)
  (F:∀base:DB,K.In base->base.Ns oB mg->JF P w K mg base CX k fa fd [x] sp) (E_:∀(s:xA) (u:cA),xZ s fd ⟨[u],[]⟩ [(x,u)])
  (nE:∀H:Hp,GZ H->CB K H a (ns.map V.int)->sp [.ref a] H (λv _=>v=.bl true) λ_ _ _=>False)
  (S3:∀H e s',CX [] H s₁ (λ_ _ _=>False) e s'->False) :
  fM (model P w) callerA (.call (.ref fa) ⟨[.ref a],[]⟩) (λr s'=>r=.ok (.ret (.bool true))/\OldK s₁.heap s'.heap/\s'.os=s₁.os/\JK s'.gens) s₁:=by
 have rv:=En hi;have iHa:=hi.length
 -- from an abstract heap in q1a nothing but JE script may be tracked
 have core:∀H:Hp,GZ H->CB K H a (ns.map V.int)->sD P w H s₁.heap->(∀b,H b≠none->b=a)->(H a≠none->K.lookup a=none) ->
   fM (model P w) callerA (.call (.ref fa) ⟨[.ref a],[]⟩) (λr s'=>r=.ok (.ret (.bool true))/\OldK s₁.heap s'.heap/\s'.os=s₁.os/\JK s'.gens) s₁:=by
  intro H hO hS HA hA hK;have base_of:∀{b:eA} {o:wB},s₁.heap.get? b=some o->H b=none->(uL s₁.heap H).get? b=some o:=λe n=>j' e n
  have cT:∀{b:eA} {o:wB} {es:Array DictEntry} {ep:Nat},s₁.heap.get? b=some o->o.data=.dict es ep->H b=none:=λ{b o es ep} e d=>by
   cases q:H b with
   |none=>rfl
   |some u =>
    have e':b=a:=hA b (by rw[q];simp);subst e';rw[ha] at e;cases e;have d':Data.seq vs.toArray _=Data.dict es ep:=d;cases d'
  have UX:∀{b:eA} {m:aA->Option cA},s₁.heap.Ns b m->(uL s₁.heap H).Ns b m:=λ{b m} ⟨o,es,ep,e,d,r⟩=>⟨o,es,ep,base_of e (cT e d),d,r⟩
  have We:K.In (uL s₁.heap H):=λb o e=>base_of (KX b o e) (by
   cases q:H b with
   |none=>rfl
   |some u =>
    have e':b=a:=hA b (by rw[q];simp);subst e'
    rw[hK (by rw[q];simp)] at e;cases e)
  have hM:Mod K mg (uL s₁.heap H):=⟨We,UX tQ,⟨mb,UX hb,D_⟩,let ⟨mc,h1,h2⟩:=W';⟨mc,UX h1,h2⟩⟩
  have e0:EN P w K mg (uL s₁.heap H) callerA [] s₁ H:=⟨rfl,hM,λb o e=>aKa e,Nat.le_of_eq (B' _ _),trivial,λb hb=>absurd (show b∈([]:List eA) from hb) (by simp),HA,.of_eq hg⟩
  refine qP ((F _ We (UX tQ)).run callerA [] s₁ H ⟨[.ref a],[]⟩ [.ref a] [.ref a] _ _ hr e0 (E_ s₁ (.ref a)) (.cons rfl .nil) (nE H hO hS)) λr s' h=>?_
  cases r with
  |error e=>exact(S3 H e s' h).elim
  |ok fl =>
   cases fl with
   |next=>exact fG h
   |brk=>exact fG h
   |cont=>exact fG h
   |ret u =>
    obtain⟨v,H',os,bare,un,gAa,r',q⟩:=h;have q':v=.bl true:=q;subst q';obtain rfl:u=Value.bool true:=r';refine⟨rfl,OldK.of_keep λb o e=>?_,os,bare⟩
    cases q:H b with
    |none=>exact un.keep b o e q (by intro z;exact absurd (show b∈([]:List eA) from z) (by simp)) (by simp)
    |some u =>
     rcases hO b with z | ⟨ob,xs,z⟩
     ·rw[q] at z;cases z
     ·have z2:=un.sI b ob _ z;obtain⟨e1,_⟩:=HA b _ z;obtain⟨e2,_⟩:=gAa b _ z2;rw[e] at e1;cases e1;exact e2
 cases hk:K.lookup a with
 |some o =>
  -- JE script is one of JE cIa own objects
  have e:=KX a o hk;rw[ha] at e;cases e;refine core (λ_=>none) (λ_=>.inl rfl) (.inr ⟨_,vs.toArray,_,hk,rfl,rfl,rfl,by rw[VD,iHa];exact hl,by simpa using rv⟩) (λb u z=>by have z':(none:Option HO)=some u:=z;cases z') (λb z=>absurd rfl z) λz=>absurd rfl z
 |none =>
  refine core (λb=>if b=a then some (.zF { cls:=.type "list",data:=.seq vs.toArray } (.l (ns.map V.int))) else none) (λb=>?_) (.inl (.inr ⟨{ cls:=.type "list",data:=.seq vs.toArray },uA rfl⟩)) (λb u z=>?_) (λb z=>?_) λ_=>hk
  ·by_cases hb:b=a
   ·exact .inr ⟨_,_,uA hb⟩
   ·exact .inl (qB hb)
  ·by_cases hb:b=a
   ·have z':=(uA hb).symm.trans z;cases z';subst hb;exact⟨ha,by rw[JA];exact hl,vs,_,rv,ha⟩
   ·have z':=(qB hb).symm.trans z;cases z'
  ·by_cases hb:b=a
   ·exact hb
   ·exact absurd (qB hb) z
abbrev PD{K:fA}{h:DB}(_:K.In h):fA:=K
def aYa{l:KU}{K:Params->fA}{CX:DC->iM}{sp:DC->Sp}{x:aA}
  (hn:l.most=some n) (vf:n<=sizeLine) (rS:d.params.defaults=[]) (hr:YC k callerA)
  (hY:∀(w:DC) (h:DB),YP w h->(K w.params).In h)
  (F:∀(w:DC) (mg:aA->Option cA) (fa:eA) (h:DB),(K w.params).In h->h.Ns oB mg->mg d.name=some (.ref fa) ->
   ∃fd:wH,(∀(s:xA) (u:cA),xZ s fd ⟨[u],[]⟩ [(x,u)]) /\
    ∀base:DB,(K w.params).In base->base.Ns oB mg->JF l.prog w (K w.params) mg base (CX w) k fa fd [x] (sp w))
  (nE:∀(w:DC) (H:Hp) (a:eA) (ns:List Int),ns.length<=n->GZ H->CB (K w.params) H a (ns.map V.int)->sp w [.ref a] H (λv _=>v=.bl true) λ_ _ _=>False)
  (S3:∀(w:DC) (H:Hp) (s:xA) (e:cA) (s':xA),CX w [] H s (λ_ _ _=>False) e s'->False) :
  Xa q loose XP YP l.row.toRowW d [] (λf vs=>Za f vs):=by
 refine Att.Qt hn rS λw s₀ s₁ mg mb fa o pm cd doc a vs ns G Y ho hd MG qQ P4 hints GB hg=>?_
 have KX:=hY w _ Y;obtain⟨fd,hb,hF⟩:=F w mg fa _ KX G.T.g qQ;exact vGa KX G.T.g G.T.b G.T.builtins G.T.nolimit hg P4 hints (uE GB vf) hr hF hb (λH hO hS=>nE w H a ns GB hO hS) λH e s'=>S3 w H s₁ e s'
noncomputable def KH(s:VA):Arguments:=match s with
 |.FunctionDef _ a _ _ _ _ _ _ _ _=>a
 |_=>{ posonlyargs:=[],args:=[],vararg:=none,kwonlyargs:=[],kw_defaults:=[],kwarg:=none,defaults:=[] }
noncomputable def YD(s:VA):List VA:=match s with
 |.FunctionDef _ _ b _ _ _ _ _ _ _=>b
 |_=>[]
noncomputable def iC(s:VA):EF:=match s with
 |.FunctionDef _ _ _ _ _ _ sc _ _ _=>sc
 |_=>{ kind:=.function,names:=[],isGenerator:=false,isCoroutine:=false }
abbrev ZG:iM:=λ_ _ _ _ _ _=>False
abbrev E0:XK:=λ_ _ _=>False
def pOa:aAO ZG X E0:=λ_ _ _ _ _ _ _ h=>h.elim
structure TK(K:fA)(x bB:aA)(st:VA)(f:eA)(fd:wH):Prop where
 ex:∃(oc:cA) (od:Option eA) (kV doc pm:cA) (an:Option eA) (ZA ct:cA) (fF:Array (Option cA)),
  fd=uH x bB (KH st) (YD st) (iC st) .none kV doc pm an ZA ct/\K.lookup f=some ⟨oc,od,.func fd,fF⟩/\mP K ZA bB=true
 kp:nG K (.ref f)=true
section
variable{P:HD}{w:DC}{K:fA}{mg:aA->Option cA}{base:DB}
def TK.ok{st:VA}(F:TK K x bB st f fd)(S:kM N ps (iC st))(len:∀vs H Q E,sp vs H Q E->vs.length=ps.length)
  (o4:∀(ZA:cA) (A:tF) (outer:List Env) (s:xA) (H:Hp) (vs:List V) (Q:VK) (E:XK),YC k (A.deeper (envOfC bB (iC st) s.heap.objs.size f ZA))->sp vs H Q E ->
   ∃t,XC (dH ZG P w K mg base N bB (iC st) f ZA A outer s H E).xO (YD st) t/\t { nx:=λ_ H'=>Q .oA H',rt:=Q } (start N vs) H):JF P w K mg base ZG (k+1) f fd ps sp:=by
 obtain⟨oc,od,kV,doc,pm,an,ZA,ct,fF,rfl,lk,MG⟩:=F.ex;refine ue lk MG S len λA outer s H vs Q E hr nE=>?_
 obtain⟨t,h,q⟩:=o4 ZA A outer s H vs Q E hr nE;exact⟨t,h.xO,q⟩
def TK.binds{st:VA}(F:TK K x bB st f fd)
  (h:∀(kV doc pm:cA) (an:Option eA) (ZA ct:cA) (us:List cA),us.length=ps.length->bindArgs (uH x bB (KH st) (YD st) (iC st) .none kV doc pm an ZA ct) ⟨us,[]⟩=pure (ps.zip us)):aAt K fd ps []:=by
 obtain⟨oc,od,kV,doc,pm,an,ZA,ct,fF,rfl,lk,MG⟩:=F.ex;exact .all (h kV doc pm an ZA ct)
def C3{st:VA}{kV doc pm ZA ct:cA}(l:K.lookup f=some ⟨oc,od,.func (uH x bB (KH st) (YD st) (iC st) .none kV doc pm an ZA ct),fF⟩)
  (c:mP K ZA bB=true) (k:nG K (.ref f)=true):TK K x bB st f (uH x bB (KH st) (YD st) (iC st) .none kV doc pm an ZA ct):=⟨⟨oc,od,kV,doc,pm,an,ZA,ct,fF,rfl,l,c⟩,k⟩
end
def mO{A B:Prop}(h:B):if false=true then A else B:=by
 rw[qB OK];exact h
def oO{A B:Prop}(h:A):if true=true then A else B:=by
 rw[uA rfl];exact h
def fB(H H':Hp):Prop:=∀b o,H b=some o->H' b=some o
def fB.refl(H:Hp):fB H H:=λ_ _ h=>h
def fB.trans(a:fB H H1)(b:fB H1 H2):fB H H2:=λc o h=>b c o (a c o h)
def fB.free(e:fB H H')(h:H' l=Option.none):H l=Option.none:=by
 cases q:H l with
 |none=>rfl
 |some o =>
  rw[e l o q] at h;cases h
def fB.seq{K:fA}(e:fB H H')(h:CB K H a xs):CB K H' a xs:=by
 rcases h with (h | ⟨o,h⟩) | h
 ·exact .inl (.inl (e _ _ h))
 ·exact .inl (.inr ⟨o,e _ _ h⟩)
 ·exact .inr h
end L2
set_option maxHeartbeats 4000000
namespace L2
open PySem PySem.Spec PyProof.Rows
section
variable{J:Type}[DecidableEq J]
noncomputable def OI(KA:List (J×V))(k:J):Option V:=(KA.find? λkv=>decide (kv.1=k)).map (·.2)
noncomputable def aAw(KA:List (J×V))(k:J)(v:V):List (J×V) :=
 if(KA.any λkv=>decide (kv.1=k))=true then KA.map (λkv=>if kv.1=k then(kv.1,v) else kv) else KA++[(k,v)]
def Dn{p:J×V}{r:List (J×V)}{k:J}(e:p.1=k):OI (p::r) k=some p.2:=by simp[OI,yU,e]
def An{p:J×V}{r:List (J×V)}{k:J}(e:¬p.1=k):OI (p::r) k=OI r k:=by simp[OI,yU,e]
def Xh(KA:List (J×V))(k:J)(v:V):(aAw KA k v).length<=KA.length+1:=by
 unfold aAw;split
 ·rw[JA];lia
 ·rw[lE,IC,rN];lia
def VJ.xCa{o:Option V}{u:Option cA}(r:VJ o u):o.isSome=u.isSome:=by
 cases o with
 |none=>cases u with
  |none=>rfl
  |some _=>exact(show False from r).elim
 |some _=>cases u with
  |none=>exact(show False from r).elim
  |some _=>rfl
def KV.val{KA:List (J×V)}{vs:List (J×cA)}(r:KV KA vs)(k:J):VJ (OI KA k) (valueAt vs k):=by
 unfold KV at r
 induction r with
 |nil=>exact True.intro
 | @cons p q ps qs h t ih =>
  obtain⟨h1,h2⟩:=h;by_cases e:p.1=k
  ·have e':q.1=k:=h1.symm.trans e;have b:valueAt (q::qs) k=some q.2:=by simp[valueAt,yU,e']
   rw[Dn e,b];exact h2
  ·have e':¬q.1=k:=λz=>e (h1.trans z)
   have b:valueAt (q::qs) k=valueAt qs k:=by simp[valueAt,yU,e']
   rw[An e,b];exact ih
theorem KV.any{KA:List (J×V)}{vs:List (J×cA)}(r:KV KA vs)(k:J):(KA.any λkv=>decide (kv.1=k))=vs.any λkv=>decide (kv.1=k):=by
 unfold KV at r
 induction r with
 |nil=>rfl
 |cons h t ih=>rw[FK,FK,ih,h.1]
def KV.dTa{KA:List (J×V)}{vs:List (J×cA)}(r:KV KA vs)(k:J){y:V}{u:cA}(ry:aAe y u) :
  KV (KA.map λkv=>if kv.1=k then(kv.1,y) else kv) (vs.map λkv=>if kv.1=k then(kv.1,u) else kv):=by
 unfold KV at r ⊢
 induction r with
 |nil=>exact .nil
 | @cons p q ps qs h t ih =>
  rw[eD,eD];refine .cons ?_ ih;obtain⟨h1,h2⟩:=h;by_cases e:p.1=k
  ·rw[uA e,uA (h1.symm.trans e)];exact⟨h1,ry⟩
  ·rw[qB e,qB (λz=>e (h1.trans z))];exact⟨h1,h2⟩
def KV.put{KA:List (J×V)}{vs:List (J×cA)}(r:KV KA vs)(k:J){y:V}{u:cA}(ry:aAe y u):KV (aAw KA k y) (stored vs k u):=by
 unfold aAw stored;rw[r.any k];by_cases e:(vs.any λkv=>decide (kv.1=k))=true
 ·rw[uA e,uA e];exact r.dTa k ry
 ·rw[qB e,qB e];exact Paired.snoc r ⟨rfl,ry⟩
theorem KV.length{KA:List (J×V)}{vs:List (J×cA)}(r:KV KA vs):KA.length=vs.length:=Aa r
end
def xX{P:HD}{w:DC}{k:Key}{u:cA}(r:aAe (kV k) u):(tK P w).is k u=true:=by
 cases k with
 |inl i=>obtain⟨t,e⟩:=(show ∃t,u=Value.int i t from r);subst e;exact zHa P w i t
 |inr x=>obtain⟨t,e⟩:=(show ∃t,u=Value.str x t from r);subst e;exact aIa P w x t
section
variable{P:HD}{w:DC}{H:Hp}{h:DB}{a:eA}
def aTa{u:HO}(ok:sD P w H h)(e:Rd H a u):XD P w H h a u:=e.ok ok
def zV{KA:List (Key×V)}(ok:sD P w H h)(e:Rd H a (.dK KA)):KA.length<=sizeLine/\(a==sysModules)=false/\∃vs,KV KA vs/\h.DictOf (tK P w) a vs :=
 show XD P w H h a (.dK KA) from aTa ok e
def Dd{KA:List (Key×V)}(ok:sD P w H h)(e:H a=some (.dK KA)):KA.length<=sizeLine/\(a==sysModules)=false/\∃vs,KV KA vs/\h.DictOf (tK P w) a vs:=zV ok (.inl e)
end
def jM(H:Hp)(a:eA)(y:V)(r:Option V):Prop :=
 (∃KA k,Rd H a (.dK KA)/\y=kV k/\r=OI KA k)\/False
def GR(H:Hp)(a:eA)(y v:V)(H':Hp):Prop :=
 (∃KA k,H a=some (.dK KA)/\y=kV k/\KA.length<sizeLine/\H'=vA H a (.dK (aAw KA k v)))\/False
theorem jM.k{H:Hp}{a:eA}{KA:List (Key×V)}{k:Key}(e:H a=some (.dK KA)):jM H a (kV k) (OI KA k):=.inl ⟨KA,k,.inl e,rfl,rfl⟩
theorem GR.k{H:Hp}{a:eA}{KA:List (Key×V)}{k:Key}{v:V}(e:H a=some (.dK KA))(hl:KA.length<sizeLine):GR H a (kV k) v (vA H a (.dK (aAw KA k v))):=.inl ⟨KA,k,e,rfl,hl,rfl⟩
section
variable{X:Cx}{bA:List (eA×wB)}{Y:St}{H:Hp}{s:xA}{a:eA}{y v:V}{u r:cA}{o:Option V}{A:tF}{E:cA->xA->Prop}
def dA.big(I:dA X bA Y H s):sysModules<s.heap.objs.size:=by
 have h:oB<s.heap.objs.size:=(I.mod.glob.keeps I.bk).lt;exact wN (by decide) h
def tw{Q:cA->xA->Prop}(hu:A.units+1<cLine)(I:dA X bA Y H s)(g:jM H a y (some v))(ry:aAe y u)(h:∀w' s',dA X bA Y H s'->aAe v w'->Q w' s') :
  AA (model X.prog X.w) A (getItem (.ref a) u) Q E s:=by
 rcases g with ⟨KA,k,e,ey,l⟩ | g
 ·subst ey;obtain⟨z,hd,vs,lA,dd⟩:=zV I.HA e;obtain⟨w',hw,ZH⟩:=VJ.some_of (v:=v) (o:=valueAt vs k) (by rw[l];exact lA.val k);exact wpAny_getItem_of (xX ry) dd.mapOf hw (h w' _ (I.tok _) ZH)
 ·exact g.elim
def uw{Q:cA->xA->Prop}(hu:A.units+1<cLine)(I:dA X bA Y H s)(g:jM H a y o)(ry:aAe y u)(h:∀s',dA X bA Y H s'->Q (.bool (!o.isSome)) s') :
  AA (model X.prog X.w) A (DF .NotIn u (.ref a)) Q E s:=by
 rcases g with ⟨KA,k,e,ey,l⟩ | g
 ·subst ey;obtain⟨z,hd,vs,lA,dd⟩:=zV I.HA e;refine wpAny_notIn_of (xX ry) hd dd.mapOf ?_;rw[<- (lA.val k).xCa,<- l];exact h _ (I.tok _)
 ·exact g.elim
def zd{h':DB}{t':Nat}{ob:HO}(I:dA X bA Y H s)(mu:OR (H a))(hs:GK a s.heap h')(he:∃q,h'.get? a=some q)(new:XD X.prog X.w (vA H a ob) h' a ob) :
  dA X bA Y (vA H a ob) { s with heap:=h',toks:=t' } :=
 I.write (x:=a) (e:=a) mu (.inl rfl) (λb q hb z=>(hs.2 b hb).trans z) he new
def Cd{P:HD}{w:DC}{H':Hp}{h':DB}{KA:List (Key×V)}{vs:List (Key×cA)}(z:KA.length<=sizeLine)(hd:(a==sysModules)=false)(lA:KV KA vs)(dd:h'.DictOf (tK P w) a vs) :
  XD P w H' h' a (.dK KA):=⟨z,hd,vs,lA,dd⟩
def xw{H':Hp}{Q:Unit->xA->Prop}(hu:A.units+1<cLine)(I:dA X bA Y H s)(g:GR H a y v H')(ry:aAe y u)(rv:aAe v r)(h:∀s',dA X bA Y H' s'->Q () s') :
  AA (model X.prog X.w) A (setItem (.ref a) u r) Q E s:=by
 rcases g with ⟨KA,k,e,ey,l,eH⟩ | g
 ·subst ey eH;obtain⟨z,hd,vs,lA,dd⟩:=Dd I.HA e;have hz:vs.length<=sizeLine:=by rw[<- lA.length];exact z
  have hl:(aAw KA k v).length<=sizeLine:=by have:=Xh KA k v;lia
  refine wpAny_setItem_pairs (hsz:=hz) (xX ry) dd λh' ZP hs=>h _ ?_
  have he:∃q,h'.get? a=some q:=let ⟨q,_,_,hq,_⟩:=ZP;⟨q,hq⟩
  exact zd I (by rw[e];exact True.intro) hs he (Cd hl hd (lA.put k rv) ZP)
 ·exact g.elim
end
def Bw{X:Cx}{bA:List (eA×wB)}{Y:St}{H:Hp}{s:xA}{a:eA}{y:V}{o:Option V}(I:dA X bA Y H s)(g:jM H a y o):s.TypeIs (.ref a) "dict":=by
 rcases g with ⟨KA,k,e,_,_⟩ | g
 ·obtain⟨_,_,vs,_,dd⟩:=zV I.HA e;exact dd.typeIs
 ·exact g.elim
def Dw{P:HD}{w:DC}{H:Hp}(h:DB)(hb:sysModules<h.objs.size):XD P w H (h.push { cls:=.type "dict",data:=.dict #[] }) h.objs.size (.dK []) :=
 ⟨cM _,NK.mpr (gE (zE hb)),[],.nil,Heap.DictOf.new h⟩
def IY:List (TE×TE)->St->Hp->(List (V×V)->Hp->Prop)->Prop
 |[],_,H,Q=>Q [] H
 | (tk,tv)::r,Y,H,Q=>tk Y H λx H1=>tv Y H1 λy H2=>IY r Y H2 λps H3=>Q ((x,y)::ps) H3
abbrev VV:List (V×V)->List (cA×cA)->Prop:=Paired λp q=>aAe p.1 q.1/\aAe p.2 q.2
def PR(X:Cx)(pos:XB)(keys:List (Option sA))(values:List sA)(OL:List (TE×TE)):Prop :=
 ∀(bA:List (eA×wB)) (s:xA) (Y:St) (H:Hp) (Q:List (V×V)->Hp->Prop),dA X bA Y H s->IY OL Y H Q ->
  AA (model X.prog X.w) X.A (evalPairs (pairTrees keys values X.env pos)) (λvs s'=>∃ps H',dA X bA Y H' s'/\VV ps vs/\Q ps H') X.xe s
def dQa{X:Cx}{pos:XB}:PR X pos [] [] []:=λbA s Y H Q I h=>pairTrees_nil_walk ⟨[],H,I,.nil,h⟩
def cQa{X:Cx}{pos:XB}{k v:sA}{ks:List (Option sA)}{vs:List sA}{tk tv:TE}{OL:List (TE×TE)}(hk:PE X k tk)(hv:PE X v tv)(hr:PR X pos ks vs OL) :
  PR X pos (some k::ks) (v::vs) ((tk,tv)::OL):=λbA s Y H Q I h =>
 pairTrees_cons_walk (NA (hk bA s Y H _ I h) λu s1 ⟨x,H1,I1,rx,q1⟩=>NA (hv bA s1 Y H1 _ I1 q1) λw2 s2 ⟨y,H2,I2,ry,q2⟩ =>
  NA (hr bA s2 Y H2 _ I2 q2) λws s3 ⟨ps,H3,I3,lA,q3⟩=>⟨(x,y)::ps,H3,I3,.cons ⟨rx,ry⟩ lA,q3⟩)
noncomputable def vO(KA more:List (Key×V)):List (Key×V):=more.foldl (λcB kv=>aAw cB kv.1 kv.2) KA
def KV.merge:∀{more:List (Key×V)} {rs:List (Key×cA)} {KA:List (Key×V)} {vs:List (Key×cA)},KV more rs->KV KA vs->KV (vO KA more) (merged vs rs):=by
 intro more rs KA vs r;unfold KV at r
 induction r generalizing KA vs with
 |nil=>intro q;exact q
 | @cons p q ps qs h t ih =>
  intro r0
  have e:KV (aAw KA p.1 p.2) (stored vs q.1 q.2):=by
   have:=r0.put p.1 h.2
   rw[<- h.1];exact this
  exact ih e
theorem Wh:∀(more KA:List (Key×V)),(vO KA more).length<=KA.length+more.length
 |[],KA=>by show KA.length<=KA.length+0;lia
 |p::r,KA=>by(have h1:=Wh r (aAw KA p.1 p.2);have h2:=Xh KA p.1 p.2;show(vO (aAw KA p.1 p.2) r).length<=_;rw[IC];lia)
theorem Tc{P:HD}{w:DC}:∀{KA:List (Key×V)} {ws:List (cA×cA)},VV (KA.map λkv=>(kV kv.1,kv.2)) ws->∃rs,Carries (tK P w) ws rs/\KV KA rs
 |[],_,r=>by rw[vN] at r;cases r;exact⟨[],True.intro,.nil⟩
 |p::KA,_,r=>by
  rw[eD] at r
  cases r with
  | @cons a b as bs h t =>
   obtain⟨rs,c,q⟩:=Tc (P:=P) (w:=w) t;obtain⟨b1,b2⟩:=b;exact⟨(p.1,b2)::rs,⟨xX h.1,rfl,c⟩,.cons ⟨rfl,h.2⟩ q⟩
noncomputable def lWa(OL:List (TE×TE)):TE:=λY H Q=>∀p,H p=none->IY OL Y (vA H p (.dK [])) λps H2=>H2 p=some (.dK [])/\∃KA:List (Key×V),ps=KA.map (λkv=>(kV kv.1,kv.2))/\KA.length<=15/\Q (.ref p) (vA H2 p (.dK (vO [] KA)))
def aPa{X:Cx}{pos:XB}{keys:List (Option sA)}{values:List sA}{OL:List (TE×TE)}(h:PR X pos keys values OL)(dJ:keys.all (·.isSome)=true)(hl:keys.length=values.length)(h0:keys≠[])
  (x_:keys.length<=15):PE X (.Dict keys values pos) (lWa OL):=by
 intro bA s Y H Q I q;have hn:=I.HA.fresh (HB s.heap.objs.size);have I1:=I.laid (a:=s.heap.objs.size) (o:=.dK []) (h':=s.heap.push { cls:=.type "dict",data:=.dict #[] }) (t':=s.toks) (λ_ _ q=>lD _ q) (HB _) (Dw s.heap I.big);refine wpAny_Dict_walk (knd:=tK X.prog X.w) dJ hl h0 x_ (NA (h bA _ Y _ _ I1 (q _ hn)) λws s2 hz=>?_);obtain⟨ps,H2,I2,lA,e,KA,ep,lk,q2⟩:=hz;subst ep;obtain⟨rs,c,rk⟩:=Tc (P:=X.prog) (w:=X.w) lA;obtain⟨z,hd,vs0,r0,dd⟩:=Dd I2.HA e;cases r0;refine⟨rs,c,dd,λh' ZP hs=>⟨.ref s.heap.objs.size,_, ?_,rfl,q2⟩⟩
 have hz:(vO [] KA).length<=sizeLine:=by(have h1:=Wh KA [];rw[rN] at h1;rw[dM];lia)
 have he:∃q,h'.get? s.heap.objs.size=some q:=let ⟨q,_,_,hq,_⟩:=ZP;⟨q,hq⟩
 exact zd I2 (by rw[e];exact True.intro) hs he (Cd hz hd (rk.merge .nil) ZP)
structure M1(X:Cx)(o:sA)(m:aA)(mB:XB)(e:sA)(aB:XB):Prop where
 base:attributeBase o m X.env (eval o X.env)=eval o X.env
 mz:((sE aB (UB [e] X.env)).all (λx=>!x.1)&&(backToKw aB (keywordEach [] X.env)).all (λx=>x.1.isSome)
  && decide (([e]:List sA).length+([]:List tP).length+(if([]:List tP).isEmpty then 0 else 1)<30))=true
 line:(mB.endLine==aB.line)=true
 trees:sE aB (UB [e] X.env)=[(false,eval e X.env)]
structure M2(X:Cx)(o:sA)(m:aA)(mB:XB)(e f:sA)(aB:XB):Prop where
 base:attributeBase o m X.env (eval o X.env)=eval o X.env
 mz:((sE aB (UB [e,f] X.env)).all (λx=>!x.1)&&(backToKw aB (keywordEach [] X.env)).all (λx=>x.1.isSome)
  && decide (([e,f]:List sA).length+([]:List tP).length+(if([]:List tP).isEmpty then 0 else 1)<30))=true
 line:(mB.endLine==aB.line)=true
 trees:sE aB (UB [e,f] X.env)=[(false,eval e X.env),(false,eval f X.env)]
abbrev uM:=Int×List Int
section
variable{P:HD}{w:DC}{A:tF}{E:cA->xA->Prop}{s:xA}{h:DB}
abbrev CP:=uM ⊕ uM×uM
end
abbrev Lb:=List (CP×eA×cA)
noncomputable def T3(k:uM):Int:=reduceHash (l9 [hashInt k.1,reduceHash (l9 (k.2.map hashInt))])
noncomputable def hS:CP->Int:=Sum.elim T3 λk=>reduceHash (l9 [T3 k.1,T3 k.2])
noncomputable def Uw(x:CP×eA×cA):DictEntry:={ hash:=hS x.1,key:=.ref x.2.1,val:=x.2.2 }
def zq(a:eA)(xs:Lb)(ep:Nat)(h:DB):Prop:=∃o es,h.get? a=some o/\o.ExactDict/\o.data=.dict es ep/\es.toList=xs.map Uw
def DAt(H:Hp)(a:eA)(xs:Lb):Prop:=∃ep,H a=some (.ext (zq a xs ep))
def JZ(K:fA)(H:Hp)(k:uM)(b:eA):Prop:=∃c,FC K H b [.int k.1,.ref c]/\FC K H c (k.2.map V.int)
def Mq(K:fA)(H:Hp)(k:uM×uM)(b:eA):Prop:=∃c d,FC K H b [.ref c,.ref d]/\JZ K H k.1 c/\JZ K H k.2 d
def fZa(K:fA)(H:Hp):CP->eA->Prop:=Sum.elim (JZ K H) (Mq K H)
end L2
namespace HT
open PySem PySem.Spec PyProof.Rows
end HT
namespace L2
open PySem PySem.Spec PyProof.Rows
end L2
namespace CI
open PySem PySem.Spec PyProof.Rows L2
section
variable{h':DB}
def zJa(x:XD P w H h b o):∃ob,h.get? b=some ob:=by
 cases o with
 |l xs=>obtain⟨_,_,_,_,e⟩:=x;exact⟨_,e⟩
 |t xs=>obtain⟨_,_,_,ob,e,_⟩:=x;exact⟨_,e⟩
 |dK KA=>obtain⟨_,_,_,_,o,_,_,e,_⟩:=x;exact⟨_,e⟩
 |set S n=>obtain⟨o,_,_,_,e,_⟩:=x;exact⟨_,e⟩
 |ins C dx fs=>obtain⟨_,_,_,e,_⟩:=x;exact⟨_,e⟩
 |own y=>obtain⟨_,e⟩:=x;exact⟨_,e⟩
 |xd fs=>obtain⟨_,⟨_,_,_,e,_⟩,_⟩:=x;exact⟨_,e⟩
 |yD lo hi=>obtain⟨_,_,_,e⟩:=x;exact⟨_,e⟩
 |zF ob u=>obtain⟨e,_⟩:=x;exact⟨_,e⟩
 |gN ps=>exact⟨_,show h.get? b=some _ from x⟩
 |met f y=>exact⟨_,show h.get? b=some _ from x⟩
 |ext φ=>obtain⟨_,⟨_,e⟩,_⟩:=x;exact⟨_,e⟩
def WN(I:dA X bA Y H s)(hb:s.heap.get? b=none)(hn:H' b=none):yC X bA H' b:=by
 refine⟨hn,λz=>?_,λz=>?_, ?_,λx c e z=>?_,λp hp z=>?_⟩
 ·obtain⟨m,⟨o,_,_,ho,_⟩,_⟩:=I.loc;rw[<- z,hb] at ho;cases ho
 ·obtain⟨_,o,ho,_⟩:=I.XF.mem z;rw[hb] at ho;cases ho
 ·by_cases hx:b∈X.ex
  ·exact .inl hx
  ·refine .inr ?_
   cases q:X.s₀.heap.get? b with
   |none=>rfl
   |some o =>
    obtain⟨o',e⟩:=I.base.there b o q hx;rw[hb] at e;cases e
 ·obtain⟨v,o,ho,_⟩:=I.cell x c e;rw[z,hb] at ho;cases ho
 ·have:=(I.pin p hp).1
  rw[z,hb] at this;cases this
def tW(I:dA X bA Y H s)(hb:s.heap.get? b=none):H b=none:=by
 cases q:H b with
 |none=>rfl
 |some u =>
  obtain⟨ob,e⟩:=zJa (I.HA b u q);rw[hb] at e;cases e
def iX(I:dA X bA Y H s)(fp:∀b∈as,yC X bA H b)(k:(wR s.heap (as++bE X.stack)).StaysIn h')
  (sl:∀b o,s.heap.get? b=some o->(∀vs,o.data≠.fields vs)->∃sl,h'.get? b=some { o with slots:=sl }):dA X bA Y H { s with heap:=h' }:=by
 have kp:∀b o,b ∉ as->b ∉ bE X.stack->s.heap.get? b=some o->h'.get? b=some o:=λb o h1 h2 e=>k b o (A9 _ e (by simp[h1,h2]))
 have tr:∀b u,H b=some u->b ∉ as/\b ∉ bE X.stack:=λb u e=>⟨(λz=>by rw[(fp b z).1] at e;cases e),(λz=>by rw[I.C8 b z] at e;cases e)⟩
 have fr:∀b∈bE X.stack,∀o,s.heap.get? b=some o->∃sl,h'.get? b=some { o with slots:=sl }:=λb hb o e=>by(obtain⟨_,o',e',nf⟩:=I.stack.mem hb;rw[e] at e';cases e';exact sl b o e nf)
 have HA:sD X.prog X.w H h':=λb u e=>(I.HA b u e).AJ (λc v hc q=>by
  have z:c ∉ as/\c ∉ bE X.stack:=by
   rcases hc with rfl | hc
   ·exact tr _ u e
   ·exact tr c _ hc
  exact kp c v z.1 z.2 q) (λ_ q=>q) λ_ _ q=>q
 have u:Un (bE X.stack) as H H s.heap h':=⟨λb o e n hf hx=>kp b o hx hf e,λb o e n hf hx=>fr b hf o e,λb o e n hx=>n,λb o e hx=>by
  by_cases hf:b∈bE X.stack
  ·obtain⟨_,z⟩:=fr b hf o e;exact⟨_,z⟩
  ·exact⟨o,kp b o hx hf e⟩,λ_ _ e=>e,λ_ _ _ e=>e,λb ps e=>⟨#[],by rw[e];simp⟩⟩
 exact I.call (g':=s.gens) (t':=s.toks) (d':=s.drawn) (ch:=as) u HA I.bare λb hb=>⟨(fp b hb).2.2.2.1,(fp b hb).2.1,(fp b hb).2.2.2.2.1,(fp b hb).2.2.2.2.2⟩
abbrev PX:=Option eA×Bool
def YK(vs:Array cA)(a0:cA)(b:Bool):Prop:=vs[0]?=some a0/\(b=true->vs[2]?=some .none)
def YK.cUa(h:YK vs a0 b):YK (vs.setIfInBounds 1 v) a0 b :=
 ⟨by rw[Jo (by decide)];exact h.1,λz=>by rw[Jo (by decide)];exact h.2 z⟩
def kI(X:Cx)(bA:List (eA×wB))(H:Hp)(h:DB)(a C:eA)(p:PX)(fl:cA):Prop :=
 ∃oe vs a0 T oT ts,h.get? a=some oe/\(oe.cls=.ref C/\oe.dict=p.1)/\oe.data=.fields vs/\YK vs a0 p.2/\yC X bA H T/\vs[1]?=some (.ref T)/\T≠a/\h.get? T=some oT/\oT.data=.fields ts/\ts[3]?=some fl
def MR(h:DB)(a C:eA)(p:PX):Prop:=∃oe vs a0,h.get? a=some oe/\(oe.cls=.ref C/\oe.dict=p.1)/\oe.data=.fields vs/\YK vs a0 p.2/\vs[1]?=some .none
def jI(X:Cx)(bA:List (eA×wB))(H:Hp)(h:DB)(a C:eA)(p:PX):Prop:=yC X bA H a/\(MR h a C p\/∃fl,kI X bA H h a C p fl)
def gJa(I:dA X bA Y H s)(fp:∀b∈as,yC X bA H b)(hB:(wR s.heap (as++bE X.stack)).get? T=none)(hT:h'.get? T=some oT)(hd:oT.data=.fields ts)
  (sl:∀b o,s.heap.get? b=some o->(∀vs,o.data≠.fields vs)->∃sl,h'.get? b=some { o with slots:=sl }):yC X bA H T:=by
 by_cases h1:T∈as
 ·exact fp T h1
 ·by_cases h2:T∈bE X.stack
  ·obtain⟨_,o,e,nf⟩:=I.stack.mem h2;obtain⟨Dk,e'⟩:=sl T o e nf;rw[hT] at e';cases e';exact absurd hd (nf ts)
  ·have hn:s.heap.get? T=none:=by
    cases q:s.heap.get? T with
    |none=>rfl
    |some o=>rw[A9 _ q (by simp[h1,h2])] at hB;cases hB
   exact WN I hn (tW I hn)
def Ie(I:dA X bA Y H s)(as:List eA):s.heap.FunFrames (wR s.heap (as++bE X.stack)) X.stack :=
 PySem.W.funFrames_hide I.stack λenv he b hb=>yH _ (F9.mpr ⟨env,he,hb⟩)
def KZ(h base:DB)(e:eA)(cls:cA)(p:PX)(a0 fl:cA):Prop :=
 ∃oe vs T oT ts,h.get? e=some oe/\((oe.cls=cls/\oe.dict=p.1)/\YK vs a0 p.2)/\oe.data=.fields vs/\vs[1]?=some (.ref T)/\base.get? T=none/\T≠e/\h.get? T=some oT/\oT.data=.fields ts/\ts[3]?=some fl
def Ib(base:DB)(e:eA)(cls:cA)(p:PX)(a0 fl:cA)(h h':DB):Prop:=base.StaysIn h'/\KZ h' base e cls p a0 fl/\∀b o,h.get? b=some o->(∀vs,o.data≠.fields vs)->∃sl,h'.get? b=some { o with slots:=sl }
def Aw(f:Array cA->Array cA)(o:wB):(oP f o).dict=o.dict:=by obtain⟨_,_,dt,_⟩:=o;cases dt<;>rfl
def Vm(I:dA X bA Y H s)(fp:∀b∈as,yC X bA H b)(t:KZ h' (wR s.heap (as++bE X.stack)) a (.ref C) p a0 fl)
  (sl:∀b o,s.heap.get? b=some o->(∀vs,o.data≠.fields vs)->∃sl,h'.get? b=some { o with slots:=sl }):kI X bA H h' a C p fl:=by
 obtain⟨oe,vs,T,oT,ts,he,⟨hc,h0⟩,hd,h1,hB,VB,hT,oF,h3⟩:=t;exact⟨oe,vs,a0,T,oT,ts,he,hc,hd,h0,gJa I fp hB hT oF sl,h1,VB,hT,oF,h3⟩
variable{M:Model}{A:tF}{E:cA->xA->Prop}{Q:Unit->xA->Prop}
def Od(gJ:A.frames=some (env::outer))(hl:s.heap.FunFrames base (env::outer))(hf:env.frame=some L)
  (he:s.heap.get? e=some oe) (J4:base.StaysIn s.heap) (A4:base.get? e=none) (hd:oe.data=.fields vs) (hsz:1<vs.size) (h0:YK vs a0 b0)
  (h:∀h',Ib base e oe.cls (oe.dict,b0) a0 (rawInt L) s.heap h'->Q () { s with heap:=h' }) :
  AA M A (do let a <- frameOf env;let pl <- entryPlaceOf L nx;let b <- Zo head a .none (rawInt L) .none pl;setField (.ref e) 1 b) Q E s:=by
 have Hi:∀b o,s.heap.get? b=some o->(∀vs,o.data≠.fields vs)->b≠e:=λb o hb nf z=>by rw[z,he] at hb;cases hb;exact nf vs hd
 have P_:e ∉ (env::outer).filterMap (·.frame):=λhm=>by obtain⟨_,o,ho,nf⟩:=hl.mem hm;exact Hi e o ho nf rfl
 refine FA (wpAny_frameOf_fun gJ hl hf λh₁ hs₁=>FA (wpAny_entryPlaceOf λpl BF=>?_));have he₁:h₁.get? e=some oe:=(hs₁.2.1 e P_).trans he;have kb₁:base.StaysIn h₁:=λb o uI=>(hs₁.2.1 b λhm=>by rw[(hl.mem hm).1] at uI;cases uI).trans (J4 b o uI)
 unfold Zo newFields;refine FA (uR ?_ (BF.sizeOk5 _ _ _ _ _));generalize hoT:({ cls:=.type "traceback",dict:=none,data:=.fields ([head,.ref L,.none,rawInt L,.none]++(if pl.isEmpty then wC 6 Value.none else pl)).toArray }:wB)=oT;have Ye:oT.data=.fields ([head,.ref L,.none,rawInt L,.none]++(if pl.isEmpty then wC 6 Value.none else pl)).toArray:=by rw[<- hoT]
 have he₂:=lD (h:=h₁) oT he₁;refine ua he₂ hd hsz (h _ ?_);have BW:h₁.objs.size≠e:=HU (xC he₁);have hd₃:=K9 hd (·.setIfInBounds 1 (Value.ref h₁.objs.size));have keep:∀b o,b≠e->h₁.get? b=some o->((h₁.push oT).update e (oP (·.setIfInBounds 1 (Value.ref h₁.objs.size)))).get? b=some o:=λb o rL hb=>(VO _ _ (gE rL)).trans (lD _ hb)
 refine⟨λb o uI=>keep b o (λq=>by rw[q,A4] at uI;cases uI) (kb₁ b o uI), ?_,λb o hb RM=>?_⟩
 ·exact⟨_,_,h₁.objs.size,_,_,iU _ he₂ (w9 hd₃),⟨⟨Obj.cls_mapFields _ _,Aw _ _⟩,h0.cUa⟩,hd₃,by simp[hsz],kb₁.fresh,BW,(VO _ _ (gE BW)).trans (zH h₁ (w9 Ye)),Ye,by first | (simp;done) | (rcases BF with rfl | ⟨_,_,_,_,_,_,_,rfl⟩<;>simp)⟩
 ·obtain⟨sl,hs⟩:=hs₁.2.2 b o hb;exact⟨sl,keep b _ (Hi b o hb RM) hs⟩
def qJa(gJ:A.frames=some (env::outer))(hl:s.heap.FunFrames base (env::outer))(hf:env.frame=some L)(ht:KZ s.heap base e cls p a0 fl)(hn:¬(fl==rawInt L)=true)(J4:base.StaysIn s.heap)(A4:base.get? e=none)
  (h:∀h',Ib base e cls p a0 (rawInt L) s.heap h'->Q () { s with heap:=h' }):AA M A (noteFrame (.ref e) env) Q E s:=by
 obtain⟨p1,p2⟩:=p;obtain⟨oe,vs,T,oT,ts,he,⟨⟨rfl,rfl⟩,h0⟩,hd,h1,hnT,BW,hT,oF,h3⟩:=ht;unfold noteFrame;simp only[hf];refine FA (SG he hd h1 ?_);rw[uA (show(Value.ref T != Value.none)=true from by simp)];refine FA (SG hT oF h3 ?_);rw[qB hn];refine FA (ua hT oF (qR.mp h3).1 ?_);have other:∀b,b≠T->(s.heap.update T (oP (·.setIfInBounds 3 Value.none))).get? b=s.heap.get? b:=λb hb=>VO _ _ (gE hb)
 have Gi:∀b o,s.heap.get? b=some o->(∀vs,o.data≠.fields vs)->b≠T:=λb o hb RM q=>by
  rw[q,hT] at hb;injection hb with hb;subst hb;exact RM ts oF
 refine Od gJ (hl.of_keeps λb o hb RM=>⟨o,(other b (Gi b o hb RM)).trans hb,rfl⟩) hf ((other e (gE BW)).trans he)
  (λb o uI=>(other b λq=>by rw[q,hnT] at uI;cases uI).trans (J4 b o uI)) A4 hd (qR.mp h1).1 h0
  λh' ⟨x1,x3,x4⟩=>h h' ⟨x1,x3,λb o hb RM=>x4 b o ((other b (Gi b o hb RM)).trans hb) RM⟩
def C7(I:dA X bA Y H s)(hs:X.stack=env::outer)(hf:env.frame=some L)(F:jI X bA H s.heap a C p)
  (h:∀h',dA X bA Y H { s with heap:=h' }->kI X bA H h' a C p (rawInt L)->Q () { s with heap:=h' }):AA M X.A (noteFrame (.ref a) env) Q E s:=by
 have gJ:X.A.frames=some (env::outer):=by rw[<- hs];exact I.ok.frames
 obtain⟨fa,F⟩:=F;rcases F with ⟨oe,vs,a0,he,hc,hd,h0,h1⟩ | ⟨fl,oe,vs,a0,T,oT,ts,he,hc,hd,h0,fT,h1,VB,hT,oF,h3⟩
 ·have fp:∀b∈[a],yC X bA H b:=λb hb=>by rw[ME.mp hb];exact fa
  have hl:=Ie I [a];rw[hs] at hl;unfold noteFrame;simp only[hf];refine FA (SG he hd h1 ?_);rw[qB (by decide)];refine Od gJ hl hf he (λb o e=>oU _ e) (ZO _ (by simp)) hd (qR.mp h1).1 h0 λh' N=>?_
  obtain⟨k1,k3,k4⟩:=N;rw[<- hs] at k1 k3;rw[hc.1,show(oe.dict,p.2)=p by rw[hc.2]] at k3;exact h h' (iX I fp k1 k4) (Vm I fp k3 k4)
 ·have fp:∀b∈[a,T],yC X bA H b:=λb hb=>by
   rcases AD.mp hb with rfl | hb
   ·exact fa
   ·rw[ME.mp hb];exact fT
  have hl:=Ie I [a,T];rw[hs] at hl;by_cases TH:(fl==rawInt L)=true
  ·have TH:=jB TH;subst TH;exact wpAny_noteFrame_againW (base:=wR s.heap ([a,T]++bE (env::outer))) hf ⟨oe,vs,T,oT,ts,he,⟨hc.1,h0.1⟩,hd,h1,ZO _ (by simp),VB,hT,oF,h3⟩ (h s.heap I ⟨oe,vs,a0,T,oT,ts,he,hc,hd,h0,fT,h1,VB,hT,oF,h3⟩)
  refine qJa gJ hl hf ⟨oe,vs,T,oT,ts,he,⟨hc,h0⟩,hd,h1,ZO _ (by simp),VB,hT,oF,h3⟩ TH (λb o e=>oU _ e) (ZO _ (by simp)) λh' N=>?_
  obtain⟨k1,k3,k4⟩:=N;rw[<- hs] at k1 k3;exact h h' (iX I fp k1 k4) (Vm I fp k3 k4)
def se(I:dA X bA Y H s)(fa:yC X bA H a)(F:kI X bA H s.heap a C p fl)
  (h:∀h',dA X bA Y H { s with heap:=h' }->kI X bA H h' a C p (f.elim Value.none λf=>rawInt f)->Q () { s with heap:=h' }):AA M A (setFlight (.ref a) f) Q E s:=by
 obtain⟨oe,vs,a0,T,oT,ts,he,hc,hd,h0,fT,h1,VB,hT,oF,h3⟩:=F
 have fp:∀b∈[a,T],yC X bA H b:=λb hb=>by
  rcases AD.mp hb with rfl | hb
  ·exact fa
  ·rw[ME.mp hb];exact fT
 have Jf:3<ts.size:=(qR.mp h3).1;unfold setFlight;refine FA (SG he hd h1 ?_);rw[uA (show(Value.ref T != Value.none)=true from by simp)];refine ua hT oF Jf ?_;have other:∀b,b≠T->(s.heap.update T (oP (·.setIfInBounds 3 (f.elim Value.none λf=>rawInt f)))).get? b=s.heap.get? b:=λb hb=>VO _ _ (gE hb)
 refine h _ (iX I fp (λb o e=>?_) λb o e nf=>⟨o.slots, ?_⟩) ⟨oe,vs,a0,T,_,_,(other a (gE VB)).trans he,hc,hd,h0,fT,h1,VB,iU _ hT (w9 (K9 oF _)),K9 oF _,by simp[Jf]⟩
 ·have hb:b≠T:=λz=>by rw[z,ZO _ (by simp)] at e;cases e
  exact(other b hb).trans (oU _ e)
 ·have hb:b≠T:=λz=>by rw[z,hT] at e;cases e;exact nf ts oF
  exact(other b hb).trans e
def OV(I:dA X bA Y H s)(fa:yC X bA H a)(F:kI X bA H s.heap a C p fl)
  (h:∀h',dA X bA Y H { s with heap:=h' }->kI X bA H h' a C p .none->Q () { s with heap:=h' }):AA M A (setFlight (.ref a) none) Q E s:=se I fa F h
def cHa(I:dA X bA Y H s)(hs:X.stack=X.env::X.outer)(hf:X.env.frame=some X.env.locals)(F:jI X bA H s.heap a C p)
  (h:∀h',dA X bA Y H { s with heap:=h' }->kI X bA H h' a C p .none->Q () { s with heap:=h' }):AA M X.A (leaving X.env (.ref a)) Q E s:=by
 unfold leaving;exact FA (C7 I hs hf F λh1 I1 F1=>OV I1 F.1 F1 λh2 I2 F2=>h h2 I2 F2)
end
noncomputable def QJ(P:HD)(w:DC):iM:=λouter H s E v s'=>∃a C p H',v=.ref a/\s'.os=s.os/\JK s'.gens/\Un (bE outer) [] H H' s.heap s'.heap/\sD P w H' s'.heap/\s.heap.get? a=none/\H' a=none /\
 (∃oe vs a0 T oT ts,s'.heap.get? a=some oe/\(oe.cls=.ref C/\oe.dict=p.1)/\oe.data=.fields vs/\YK vs a0 p.2/\s.heap.get? T=none/\H' T=none/\vs[1]?=some (.ref T)/\T≠a/\s'.heap.get? T=some oT/\oT.data=.fields ts/\ts[3]?=some .none)/\E (.ref C) p H'
def jw{K:fA}(I:dA (dH (QJ P w) P w K mg base N bB scope f cd A outer s₀ H₀ E) bA Y H s)(F:jI (dH (QJ P w) P w K mg base N bB scope f cd A outer s₀ H₀ E) bA H s.heap a C p)(h:E (.ref C) p H) :
  (dH (QJ P w) P w K mg base N bB scope f cd A outer s₀ H₀ E).xe (.ref a) s:=by
 refine cHa I rfl rfl F λh' I2 F2=>?_
 obtain⟨oe,vs,a0,T,oT,ts,he,hc,hd,h0,fT,h1,VB,hT,oF,h3⟩:=F2
 have nn:∀b,yC (dH (QJ P w) P w K mg base N bB scope f cd A outer s₀ H₀ E) bA H b->s₀.heap.get? b=none:=λb fb=>by
  rcases fb.2.2.2.1 with z | z
  ·exact absurd (show b∈([]:List eA) from z) (by simp)
  ·exact z
 exact⟨a,C,p,H,rfl,I2.os,I2.bare,I2.base,I2.HA,nn a F.1,F.1.1,⟨oe,vs,a0,T,oT,ts,he,hc,hd,h0,nn T fT,fT.1,h1,VB,hT,oF,h3⟩,h⟩
section
variable{X:Cx}{bA:List (eA×wB)}{Y:L2.St}{H:Hp}{s s':xA}
def iw(I:dA X bA Y H s)(h:QJ X.prog X.w X.stack H s E v s'):∃a C p H',v=.ref a/\dA X bA Y H' s'/\jI X bA H' s'.heap a C p/\E (.ref C) p H':=by
 obtain⟨a,C,p,H',rfl,os,bare,un,HA,na,ha,⟨oe,vs,a0,T,oT,ts,he,hc,hd,h0,nT,z_,h1,VB,hT,oF,h3⟩,e⟩:=h;refine⟨a,C,p,H',rfl,I.Nc (ch:=[]) os un HA bare (λb z=>absurd z (by simp)),⟨WN I na ha,.inr ⟨_,oe,vs,a0,T,oT,ts,he,hc,hd,h0,WN I nT z_,h1,VB,hT,oF,h3⟩⟩,e⟩
def qTa(F:JF X.prog X.w X.K X.mg X.base (QJ X.prog X.w) k f fd ps sp)(hr:YC k X.A)(hb:aAt X.K fd ps [])
  (I:dA X bA Y H s) (r:aAf vs us) (h:sp vs H Q E) (hx:∀bA a C p H' s',dA X bA Y H' s'->jI X bA H' s'.heap a C p->E (.ref C) p H'->X.xe (.ref a) s'):AA (model X.prog X.w) X.A (call (.ref f) us) (EP X bA Y Q) X.xe s:=by
 have hl:us.length=ps.length:=by rw[<- r.length];exact F.len _ _ _ _ h
 have AF:=hb s us I.pE (by rw[DK];exact hl);rw[DK] at AF;refine LU (qP (F.run X.A X.stack s H ⟨us,[]⟩ us vs Q E hr I.nI AF r h) λr s' hq=>?_)
 cases r with
 |error e =>
  obtain⟨a,C,p,H',rfl,I',F',e'⟩:=iw I hq;exact hx bA a C p H' s' I' F' e'
 |ok fl =>
  cases fl with
  |ret u=>exact I.after hq
  |next=>exact fG hq
  |brk=>exact fG hq
  |cont=>exact fG hq
noncomputable def jWa(X:Cx)(sp:Sp)(t:TA):TE:=λY H Q=>t Y H λvs H1=>∃E:XK,sp vs H1 Q E/\∀bA a C p H' s',dA X bA Y H' s'->jI X bA H' s'.heap a C p->E (.ref C) p H'->X.xe (.ref a) s'
def ij(F:JF X.prog X.w X.K X.mg X.base (QJ X.prog X.w) k f fd ps sp)(hr:YC k X.A)(hg:Gl X x)(hm:X.mg x=some (.ref f))(hk:nG X.K (.ref f)=true)(hb:aAt X.K fd ps [])
  (ha:PA X (e::es) t) (SH:(x==("__debug__":aA))=false) (he:UB (e::es) X.env=(false,eval e X.env)::UB es X.env) (BF:(sE pos (UB es X.env)).any (·.1)=false) :
  PE X (.Call (.Name x p) (e::es) [] pos) (jWa X sp t):=by
 intro bA s Y H Q I h;refine pU (rO I hg hm ?_ SH);refine G9 (h₀:=X.base) I.ok.mod.kin hk (NA (ha pos bA s Y H _ I h) λus s1 ⟨vs,H1,I1,r,E,q,hx⟩=>⟨I1.pE, ?_⟩) he BF;exact qTa F hr hb I1 r q hx
end
abbrev ZJ:List cA:=[.type "ValueError",.type "Exception",.type "BaseException",.type "object"]
def EG(K:fA)(C:eA)(i:Option cA):Prop:=∃(tl:List cA) (N:eA),(∀v,XG K C v=some ((Value.ref C::tl).contains v)) /\
  ∀{h:DB},K.In h->∃(nm qn:aA) (bs:List cA) (hd:Bool) (sn:List aA) (sub:List cA) (ab:Bool) (col:Option Bool) (dd:Option eA) (k0 k1 k2 k3 k5:Option cA),
   h.get? C=some (excClassObj nm qn C N bs tl hd sn sub ab col dd k0 k1 k2 k3 k5 "ValueError.__new__")/\h.Ns N (h.nsMap N)/\h.nsMap N "__init__"=i/\QU h ZJ tl
def Xd{K:fA}(q:Ha K C ZJ "ValueError.__new__"=true):EG K C none:=by
 unfold Ha at q;split at q
 ·rename_i dd cd sl lk;rcases e1:cd.mro with _ | ⟨m0,tl⟩<;>rw[e1] at q
  ·cases q
  cases m0<;>try (cases q;done)
  rename_i C'
  rcases e2:sl.toList with _ | ⟨k0,_ | ⟨k1,_ | ⟨k2,_ | ⟨k3,_ | ⟨_ | n',_ | ⟨k5,_ | ⟨k6,r⟩⟩⟩⟩⟩⟩⟩<;>rw[e2] at q<;>try (cases q;done)
  all_goals (cases n'<;>try (cases q;done))
  rename_i n'
  try dsimp only at q
  rw[qA,qA,qA,qA,qA] at q;obtain⟨⟨⟨⟨⟨q1,q2⟩,q3⟩,q4⟩,q5⟩,q6⟩:=q;have q1:=OD.mp q1;have q2:=OD.mp q2;have q6:=OD.mp q6;subst q1 q2;refine⟨tl,cd.ns,λv=>?_,λ{h} X=>?_⟩
  ·unfold XG Ia;rw[lk];simp only[GF];rw[e1,qB (by simp)]
  ·refine⟨cd.name,cd.qualname,cd.bases,cd.hasDict,cd.slotNames,cd.subclasses,cd.abstract,cd.collection,dd,k0,k1,k2,k3,k5, ?_,.of_isNs (L9 X q5),PySem.W.nsMap_none_of_in X q5 q6,xp X q4⟩;rw[X _ _ lk];have e3:sl=#[k0,k1,k2,k3,some (.builtin "ValueError.__new__"),k5]:=vR.mp e2;rw[e3];obtain⟨c1,c2,c3,c4,c5,c6,c7,c8,c9,QP,Pu⟩:=cd;simp only[QK] at q3;simp only at e1;subst e1 q3;rfl
 ·cases q
noncomputable def O2(K:fA)(C:eA)(iV:cA):Bool:=match K.lookup C with
 |some o=>(match o.data,o.slots.toList with
  |.cls cd,[_,_,_,_,some n,_]=>o.cls==.type "type" && cd.mro.head? == some (.ref C)&&n==.builtin "ValueError.__new__" && !cd.hasDel&&PySem.W.tailIn K ZJ cd.mro.tail&&PySem.W.nsOkIn K cd.ns&&JB K cd.ns "__init__" == some (some iV)
  |_,_=>false)
 |none=>false
def rJa{K:fA}(X:K.In h)(G:h.Ns N mg)(e:JB K N n=some (some v)):mg n=some v:=by
 obtain⟨o,es,ep,ho,hd,_,hf⟩:=G;unfold JB at e;split at e
 ·rename_i c d dS n' sl q
  have:=X _ _ q
  rw[ho] at this;cases this;cases hd;split at e
  ·rename_i he;cases e;rw[<- hf];unfold nsFind findBy;rw[<- Array.find?_toList,he];rfl
  ·split at e<;>cases e
 ·cases e
def Yd{K:fA}(q:O2 K C iV=true):EG K C (some iV):=by
 unfold O2 at q;split at q
 ·rename_i o lk;obtain⟨oc,od,Mi,sl⟩:=o
  cases Mi<;>try (exact Bool.noConfusion (show false=true from q))
  rename_i cd;dsimp only at q
  rcases e2:sl.toList with _ | ⟨k0,_ | ⟨k1,_ | ⟨k2,_ | ⟨k3,_ | ⟨_ | n,_ | ⟨k5,_ | ⟨k6,r⟩⟩⟩⟩⟩⟩⟩<;>rw[e2] at q<;>try (cases q;done)
  try dsimp only at q
  rw[qA,qA,qA,qA,qA,qA] at q;obtain⟨⟨⟨⟨⟨⟨q0,q1⟩,q2⟩,q3⟩,q4⟩,q5⟩,q6⟩:=q;have q0:=OD.mp q0;have q1:=OD.mp q1;have q2:=OD.mp q2;have q6:=OD.mp q6;subst q0 q2
  obtain⟨tl,hm⟩:∃tl,cd.mro=.ref C::tl:=by
   cases q:cd.mro with
   |nil=>rw[q] at q1;cases q1
   |cons v tl=>rw[q] at q1;cases q1;exact⟨tl,rfl⟩
  rw[hm] at q4;have e3:sl=#[k0,k1,k2,k3,some (.builtin "ValueError.__new__"),k5]:=vR.mp e2;subst e3;refine⟨tl,cd.ns,λv=>?_,λ{h} X=>?_⟩
  ·unfold XG Ia;rw[lk];simp only[GF];rw[hm,qB (by simp)]
  ·refine⟨cd.name,cd.qualname,cd.bases,cd.hasDict,cd.slotNames,cd.subclasses,cd.abstract,cd.collection,od,k0,k1,k2,k3,k5, ?_,.of_isNs (L9 X q5),rJa X (.of_isNs (L9 X q5)) q6,xp X q4⟩;rw[X _ _ lk];obtain⟨c1,c2,c3,c4,c5,c6,c7,c8,c9,QP,Pu⟩:=cd;simp only[QK] at q3;simp only at hm;subst hm q3;rfl
 ·cases q
section
variable{X:Cx}{bA:List (eA×wB)}{Y:L2.St}{H:Hp}{s:xA}{h':DB}{a C:eA}
noncomputable def vWa(X:Cx)(C:eA)(t:TA):TS:=λ_ Y H=>t Y H λvs H1=>vs.length<=sizeLine/\∀bA a s',dA X bA Y H1 s'->jI X bA H1 s'.heap a C (none,true)->X.xe (.ref a) s'
def zQa(hh:X.A.handled=none)(hg:Gl X x)(hm:X.mg x=some (.ref C))(q:EG X.K C none)(ha:PA X (e::es) t)
  (SH:(x==("__debug__":aA))=false) (he:UB (e::es) X.env=(false,eval e X.env)::UB es X.env) (BF:(sE aB (UB es X.env)).any (·.1)=false) :
  PS X (.Raise (some (.Call (.Name x np) (e::es) [] aB)) none pos) (vWa X C t):=by
 intro bA s Y H D I h;obtain⟨tl,N,_,k⟩:=q;obtain⟨nm,qn,bs,hd,sn,sub,ab,col,dd,k0,k1,k2,k3,k5,hC,hN,SM,T⟩:=k I.ok.mod.kin
 refine wpAny_Raise_call_subT (nm:=nm) (q:=qn) (N:=N) (bs:=bs) (bm:=tl) (hdct:=hd) (sn:=sn) (sub:=sub) (ab:=ab) (col:=col) (dd:=dd) (k0:=k0) (k1:=k1) (k2:=k2) (k3:=k3) (k5:=k5)
  vP (mN:=X.base.nsMap N) (T.hasType vP.hasBase) hh (by rw[he];unfold sE at *;rw[eD,FK,BF];rfl) SM (rO I hg hm ⟨rfl, ?_⟩ SH)
 have h2:=ha aB bA s Y H _ I h;rw[he] at h2 ⊢;refine Calls.evalArgs_plain (AE h2 (λus s2 h3=>?_) λ_ _ y=>y);obtain⟨vs,H1,I1,r,hl,hx⟩:=h3;refine⟨rfl,by rw[<- r.length];exact hl,I1.bk _ _ hC,hN.keeps I1.bk,T.keeps I1.bk,λh' e hM=>?_⟩;obtain⟨t0,kQ,_,_⟩:=hM.there;have I2:dA X bA Y H1 { s2 with heap:=h' }:=I1.kept (t':=s2.toks) hM.keeps;exact hx bA e _ I2 ⟨WN I1 hM.new (tW I1 hM.new),.inl ⟨_,_,_,kQ,⟨rfl,rfl⟩,rfl,⟨rfl,λ_=>rfl⟩,rfl⟩⟩
def Ry{K:fA}(X:K.In s.heap)(qC:EG K C i)(qD:EG K D j)
  (hm:XG K C (.ref D)=some true) (he:s.heap.get? a=some oe) (hc:oe.cls=.ref C) (h:Q true s):AA M A (excMatches (.ref a) (.ref D)) Q E s:=by
 obtain⟨tl,N,m1,k⟩:=qC;obtain⟨nm,qn,bs,hd,sn,sub,ab,col,dd,k0,k1,k2,k3,k5,hC,hN,SM,T⟩:=k X;obtain⟨tl',N',m1',k'⟩:=qD;obtain⟨nm',qn',Lu,vI,sn',k1a,ab',kZa,ZP,k0',k1',k2',k3',k5',hD,hN',c0a,T'⟩:=k' X;have b1:(Value.ref C::tl).contains (.ref D)=true:=uF ((m1 _).symm.trans hm);have b2:(Value.ref D::tl').contains (.type "BaseException")=true:=by rw[eZ,T'.hasType (X:="BaseException") (b:=true) (by decide)];rfl
 obtain⟨hp,g,d,tk,os⟩:=s;have f:=tc_notTuple;unfold excMatches
 repeat (first | (with_reducible refine QL he ?_;rw[hc]) | with_reducible refine QL hD ?_ | (with_reducible refine mU hC ?_;rw[b1]) | (with_reducible refine mU hD ?_;rw[b2]) | wp_step)
 exact h
def E5(I:dA X bA Y H s)(fa:yC X bA H a)(ok:XD X.prog X.w (vA H a o) s.heap a o):dA X bA Y (vA H a o) s:=by
 have ne:∀{b:eA} {u:HO},H b=some u->b≠a:=λq=>dF q fa.1
 have e1:∀{b:eA} {u:HO},H b=some u->vA H a o b=some u:=λq=>by rw[iB (ne q)];exact q
 have e0:∀{b:eA},b≠a->H b=none->vA H a o b=none:=λn q=>by rw[iB n];exact q
 refine⟨I.ok,I.os,I.bare,⟨I.base.keep,I.base.slot,λb ob e n hx=>e0 (λz=>?_) (I.base.free b ob e n hx),I.base.there,λb xs e=>e1 (I.base.FJ b xs e),λb ob u e=>e1 (I.base.sI b ob u e),λb ps e=>?_⟩,I.loc,I.cell,e0 (gE fa.2.1) I.free,
  λx c e=>e0 (fa.2.2.2.2.1 x c e) (I.ZE x c e),λp hp=>?_,λb u e=>?_,I.len⟩
 ·rcases fa.2.2.2.1 with w | w
  ·exact hx (z ▸ w)
  ·rw[z,w] at e;cases e
 ·obtain⟨more,z⟩:=I.base.DJ b ps e;exact⟨more,e1 z⟩
 ·obtain⟨h1,h2,h3⟩:=I.pin p hp;exact⟨h1,e0 (fa.2.2.2.2.2 p hp) h2,h3⟩
 ·by_cases hb:b=a
  ·subst hb;rw[fC] at e;cases e;exact ok
  ·rw[iB hb] at e;exact(I.HA b u e).AJ (λ_ _ _ q=>q) (λ_ q=>e1 q) λ_ _ q=>e1 q
def j_(I:dA X bA Y H s)(hN:X.N.Nodup)(hi:X.N[i]?=some x)(hx:X.env.kindOf x=some .local)
  (h:∀s',dA X bA (Y.set i none) H s'->Q () s'):AA M A (do bindName X.env x .none;unbindBehindTheSuite X.env x pos) Q E s:=by
 obtain⟨m,hn,hl⟩:=id I.loc;refine wpAny_nameGoes_keeps hx hn (by rw[I.ok.kind];rfl) λh' v rQ sb=>h _ ?_
 obtain⟨oL,es,ep,zf,_⟩:=id hn;have d7:∀b ob,X.s₀.heap.get? b=some ob->b≠X.env.locals:=λb ob e=>zE (kE (xC e) I.ok.above)
 have kp:∀{b:eA} {ob:wB},b≠X.env.locals->s.heap.get? b=some ob->h'.get? b=some ob:=λn e=>(sb.2 _ n).trans e
 refine⟨I.ok,I.os,I.bare,⟨λb ob e n h1 h2=>kp (d7 b ob e) (I.base.keep b ob e n h1 h2),λb ob e n h1 h2=>?_,I.base.free,λb ob e h2=>?_,I.base.FJ,I.base.sI,I.base.DJ⟩,⟨_,rQ,λj y w e1 e2 e3=>?_⟩,λy c e=>?_,I.free,I.ZE,λp hp=>?_,λb u e=>?_,by rw[SE];exact I.len⟩
 ·obtain⟨sl,z⟩:=I.base.slot b ob e n h1 h2;exact⟨sl,kp (d7 b ob e) z⟩
 ·obtain⟨o',z⟩:=I.base.there b ob e h2;exact⟨o',kp (d7 b ob e) z⟩
 ·by_cases hj:j=i
  ·subst hj;by_cases wD:j<Y.length
   ·rw[gI wD] at e2;cases e2
   ·rw[XO (by rw[SE];lia)] at e2;cases e2
  ·rw[jE (gE hj)] at e2;obtain⟨u,r,lk⟩:=hl j y w e1 e2 e3;refine⟨u,r, ?_⟩;rcases lk with ⟨k1,k2⟩ | ⟨k1,c,k2,oc,k3,k4⟩
   ·refine .inl ⟨k1, ?_⟩;have ny:y≠x:=λz=>hj (A7 hN e1 (z ▸ hi))
    simp[ny,k2]
   ·exact .inr ⟨k1,c,k2,oc,kp (I.fL y c k2) k3,k4⟩
 ·obtain⟨w,oc,k3,k4⟩:=I.cell y c e;exact⟨w,oc,kp (I.fL y c e) k3,k4⟩
 ·obtain⟨k1,k2,k3,k4⟩:=I.pin p hp;exact⟨kp k3 k1,k2,k3,k4⟩
 ·have nl:∀c w,H c=some w->c≠X.env.locals:=λc w z z'=>by rw[z',I.free] at z;cases z
  refine(I.HA b u e).AJ (λc w hc q=>kp ?_ q) (λ_ q=>q) λ_ _ q=>q
  rcases hc with rfl | hc
  ·exact nl _ u e
  ·exact nl c _ hc
end
end CI
namespace CI
open PySem PySem.Spec PySem.Calls PyProof.Rows L2 PySem.W PySem.Builtin PySem.Builtin.ObjectAttr PySem.Builtin.Getset_descriptor
def CH(a C:eA)(p:Option eA)(h:DB):Prop:=∃oe vs,h.get? a=some oe/\(oe.cls=.ref C/\oe.dict=p)/\oe.data=.fields vs
def CH.ty(x:CH a C p h):ER M h (typeOf (.ref a)) (.ref C):=by
 obtain⟨oe,vs,e,c,_⟩:=x;rw[<- c.1];exact(Looks.ld e).andThen .now
structure DE(K:fA)(C:eA):Prop where
 q:∃i,EG K C i
 ga:findIn K (.ref C) "__getattribute__"=some (some (.builtin "BaseException.__getattribute__"))
 no:findIn K (.ref C) "__getattr__"=some none
 cl:findIn K (.ref C) "__class__"=some (some (.builtin "object.__class__"))
 gt:specialIn K (.builtin "object.__class__") "__get__"=some (some (.builtin "getset_descriptor.__get__"))
 tk:takesIn K (.builtin "object.__class__")=some true
 mo:mroIn K C (.type "object")=some true
 mb:mroIn K C (.type "BaseException")=some true
 mv:mroIn K C (.type "ValueError")=some true
section
variable{K:fA}
def Xy(X:K.In s.heap)(G:DE K C)(x:CH a C p s.heap)(h:R (.ok (.ret (.ref C))) s) :
  fM (model prog w) A (.call (.builtin "getset_descriptor.__get__") ⟨[.builtin "object.__class__",.ref a,tp],[]⟩) R s:=by
 obtain⟨hh,g,dr,t,os⟩:=s;have L0:=x.ty (M:=model prog w);have L1:=vZ (M:=model prog w) X G.mo;refine kU KF.slot_gs.plain KF.entry_gs (KF.slot_gs.check _ _ _ _ _ _ _ _ KF.type_class (KF.args_gs _ _ _) ?_);unfold Builtin.«getset_descriptor.__get__»;unfold descrGet;rw[dga_obj];refine FA (LB ?_);unfold descrGetter;unfold descrCheckInstance;unfold descrNameAndClass;unfold isInstance;simp only[KF.owner_class]
 repeat lk
 refine⟨fZ _ (by left),codeAny_builtin KF.entry_class ?_⟩;unfold Builtin.«object.__class__»;unfold shownTypeOf
 repeat lk
 exact h
def Wy(X:K.In h)(G:DE K C):ER M h (find (.ref a) (.ref C) "__class__") (.bind (.builtin "getset_descriptor.__get__") (.builtin "object.__class__")):=by
 have L3:=looks_takesIn (M:=M) X G.tk;refine(tZ X G.cl).andThen ((looks_specialIn X G.gt).andThen ?_);exact(show ER M h (dataDescriptor? (some (.builtin "object.__class__")) (some (.builtin "getset_descriptor.__get__"))) (some (.builtin "getset_descriptor.__get__",.builtin "object.__class__")) from L3.andThen .now).andThen (Looks.tag .now)
def Vy(X:K.In s.heap)(G:DE K C)(x:CH a C p s.heap)(h:Q (.done (.ret (.ref C))) s) :
  AA (model prog w) A (Builtin.«object.__getattribute__» ⟨[.ref a,.str "__class__" tk],[]⟩) Q E s:=by
 obtain⟨hh,g,dr,t,os⟩:=s;have L0:=x.ty (M:=model prog w);have L1:=Wy (M:=model prog w) (a:=a) X G
 repeat (any_goals (first | assumption | with_reducible refine Looks.at (by assumption) ?_ | wp_step))
 refine Xy X G x ?_
 repeat (any_goals (first | assumption | wp_step))
def Sy(X:K.In s.heap)(G:DE K C)(x:CH a C p s.heap)(h:Q () s):AA (model prog w) A (checkBuiltinCall "BaseException.__getattribute__" ⟨[.ref a,v],[]⟩) Q E s:=by
 obtain⟨hh,g,dr,t,os⟩:=s;have L0:=x.ty (M:=model prog w);have L3:=vZ (M:=model prog w) X G.mb;have z:=PySem.F.args_bexc_ga (.ref a) v;simp only[checkBuiltinCall,show builtinKind "BaseException.__getattribute__"=some .slot from by left,show splitId "BaseException.__getattribute__"=some ("BaseException","__getattribute__") from by left];refine FA ?_;unfold isInstance
 repeat (any_goals (first | assumption | with_reducible refine Looks.at (by assumption) ?_ | wp_step))
def Uy(X:K.In s.heap)(G:DE K C)(x:CH a C p s.heap)(h:Q (some (.ref C)) { s with toks:=s.toks+1 }):AA (model prog w) A (getAttr? (.ref a) "__class__") Q E s:=by
 obtain⟨hh,g,dr,t,os⟩:=s;have L0:=x.ty (M:=model prog w);have L1:=tZ (M:=model prog w) X G.ga;have L2:=tZ (M:=model prog w) X G.no;have L3:=vZ (M:=model prog w) X G.mb;have f3:=PySem.F.excAttr_ValueError.ga.bind (.ref a);unfold getAttr? getAttrBy? getAttrBy;refine FA (wpAny_mkText (FA (Ja (WL (FA (L0.at (FA (L1.at ?_))))))));have n1:(onTheHeap (Value.ref C)&&Value.builtin "BaseException.__getattribute__" == Value.builtin "object.__getattribute__")=false:=by rw[show(Value.builtin "BaseException.__getattribute__" == Value.builtin "object.__getattribute__")=false from by left,HJ]
 dsimp only;rw[qB (by rw[n1];exact OK)];unfold getAttrByItsOwn
 repeat (any_goals (first | assumption | with_reducible refine Looks.at (by assumption) ?_ | wp_step))
 refine kU PySem.F.attr_ValueError.ga.plain PySem.F.entry_bexc_ga (Sy (s:=⟨hh,g,dr,t+1,os⟩) X G x (Vy (s:=⟨hh,g,dr,t+1,os⟩) X G x ?_))
 repeat (any_goals (first | assumption | wp_step))
def M6(G:DE K C):KitX K (.ref a) (.ref C) (CH a C p) where
 ty:=λ_ _ _ x=>x.ty
 it:=λ_ _ X _=>by(obtain⟨_,tl,N,_,k⟩:=G.q;obtain⟨nm,qn,bs,hd,sn,sub,ab,col,dd,k0,k1,k2,k3,k5,hC,_⟩:=k X;intro A' Q' E' s' k' q;unfold isType loadHead;exact FA (wpAny_loadPart (k' _ _ hC) (LB q)))
 ne:=λh tp dd gA n sl X Kf=>by
  obtain⟨_,tl,N,_,k⟩:=G.q;obtain⟨nm,qn,bs,hd,sn,sub,ab,col,dd,k0,k1,k2,k3,k5,hC,_⟩:=k X;refine Bool.eq_false_iff.mpr λq=>?_
  have e:C=tp:=nq (OD.mp q);subst e;rw[hC] at Kf;have z:=congrArg Obj.data (uF Kf);cases z
 ca:=λX x k=>Uy X G x k
def mGa(G:DE K C):kitOne K (.ref C) (.type "ValueError")=some true:=by
 unfold kitOne kitCls;rw[qB (by simp)];show(if kitMeta "ValueError"=true then subIn K (.ref C) (.type "ValueError") else none)=some true;rw[uA (by left)];exact G.mv
def lGa(e:pP K C D=true):kitOne K (.ref C) (.ref D)=some false:=by
 unfold pP at e;rw[qA,qA,qA] at e;obtain⟨⟨⟨e0,e1⟩,e2⟩,e3⟩:=e;unfold kitOne kitCls;rw[qB (λz=>RL e0 (nq (OD.mp z)))];show(if((clsIn K D).isSome&&typeIn K (.ref D)==some (.type "type"))=true then subIn K (.ref C) (.ref D) else none)=some false;rw[uA (by rw[e1,e2];rfl)];exact OD.mp e3
def kGa(e:isIn K (.ref C) D=true):kitOne K (.ref C) (.ref D)=some true:=by
 unfold isIn at e;unfold kitOne kitCls;by_cases h:(Value.ref C==Value.ref D)=true
 ·rw[uA h]
 ·rw[qB h];rw[BH] at e;rcases e with e | e
  ·exact absurd e h
  ·rw[qA,qA,qA] at e;obtain⟨⟨⟨e1,e2⟩,_⟩,e3⟩:=e;show(if((clsIn K D).isSome&&typeIn K (.ref D)==some (.type "type"))=true then subIn K (.ref C) (.ref D) else none)=some true;rw[uA (by rw[e1,e2];rfl)];exact OD.mp e3
end
end CI
namespace CI
open PySem PySem.Spec PyProof.Rows L2
section
variable{prog:HD}{w:DC}{A:tF}{E:cA->xA->Prop}{h:DB}{g:Array GenState}{d:Drawn}{t:Nat}{os:OsState}
variable{nm q:aA}{C N:eA}{bs bm MN:List cA}{hdct:Bool}{sn:List aA}{sub:List cA}{ab:Bool}{col:Option Bool}{dd:Option eA}{k0 k1 k2 k3 k5:Option cA}{B Bn newId nid A5 inN:String}{Au:List cA}
def gXa(Fn:Na Bn newId inN Au)(Te:MN.contains (.type Bn)=true)(F:Na B nid A5 MN)(T:QU h MN bm){aAc:List cA}
  (hC:h.get? C=some (excClassObj nm q C N bs bm hdct sn sub ab col dd k0 k1 k2 k3 k5 newId)) (hn:h.Ns N mN) (hi:mN "__init__"=some (.ref fI)) (B4:h.get? fI=some oI) (C4:oI.cls=.type "function") (hrest:aAc.length<=sizeLine)
  (hq:∀h' e,xa h h' e (.ref C) aAc->AA (model prog w) A (call (.ref fI) (.ref e::aAc)) (λr s'=>r=.none/\Q (.done (.ret (.ref e))) s') E ⟨h',g,d,t,os⟩) :
  AA (model prog w) A (Builtin.«type.__call__» ⟨.ref C::aAc,[]⟩) Q E ⟨h,g,d,t,os⟩:=by
 repeat (first | with_reducible refine QL hC ?_ | with_reducible refine wpAny_madeBy_exc hC ?_ | wp_step)
 refine codeAny_call_builtin_code (fZ _ Fn.quiet) (wpAny_check_new_subU Fn Te T hC (codeAny_exc_new_subU Fn Te F T hC ?_ hrest));show AA _ _ _ _ _ _;generalize hh:(h.push { cls:=.type "tuple",data:=.seq aAc.toArray }).push { cls:=.ref C,data:=.fields #[.ref h.objs.size,.none,.none,.none,.bool false,.none] }=h1;have kp:∀b o,h.get? b=some o->h1.get? b=some o:=λb o z=>by rw[<- hh];exact lD _ (lD _ z)
 have gf:h1.get? (h.objs.size+1)=some { cls:=.ref C,data:=.fields #[.ref h.objs.size,.none,.none,.none,.bool false,.none] }:=by rw[<- hh];heap_get
 have F_:(Value.ref C::bm).contains (.ref C)=true:=by simp
 have Ve:=kp _ _ hC;have L4:h1.Ns N mN:=let ⟨o,es,ep,e,r⟩:=hn;⟨o,es,ep,kp _ _ e,r⟩
 have T1:QU h1 MN bm:=T.keeps kp;unfold isInstance
 repeat (first | with_reducible refine QL gf ?_ | (with_reducible refine mU Ve ?_;rw[F_]) | wp_step)
 show AA _ _ (typeLookup (.ref C) _) _ _ _;refine wpAny_typeLookup_tail Ve L4 T1 F.mroIs F.init.lookup ?_;rw[hi];refine WL (FA ?_);unfold bindSpecial;refine FA (wpAny_typeOf (T:="function") ⟨_,kp _ _ B4,C4⟩ ?_);rw[uA (by decide)];refine LB (FA (AE (hq h1 (h.objs.size+1) ⟨kp,aP (JU _),h.objs.size,gf,aP (HB _), ?_⟩) (λr s' hr=>?_) λ_ _ x=>x))
 ·rw[<- hh];exact lD _ (Fp rfl rfl)
 ·obtain⟨rfl,hQ⟩:=hr
  wp_walk
  exact hQ
end
section
open PySem.W PySem.Builtin PySem.Builtin.ObjectAttr
variable{prog:HD}{w:DC}{A:tF}{E:cA->xA->Prop}{s:xA}{K:fA}{x C:eA}
noncomputable def eU:List cA->Bool
 |.ref _::r=>eU r
 |l=>l==ZJ
theorem Zj(self:cA):∀{l:List cA},eU l=true->refuseLoop self "__setattr__" l=pure ()
 |.ref c::r,e=>by rw[refuseLoop_ref];exact Zj self (l:=r) e
 |[],e=>by cases e
 |.type n::r,e=>by rw[show(.type n::r:List cA)=ZJ from OD.mp e];exact PySem.F.store_ValueError.passes self
 |.none::r,e | .bool _::r,e | .int _ _::r,e | .str _ _::r,e | .bytes _ _::r,e | .float _ _::r,e | .builtin _::r,e=>by cases (show(_:List cA)=ZJ from OD.mp e)
theorem fo:∀{l:List cA},eU l=true->l.contains (.type "object")=true
 |.ref c::r,e=>by rw[eZ,fo (l:=r) e,Oa]
 |[],e=>by cases e
 |.type n::r,e=>by rw[show(.type n::r:List cA)=ZJ from OD.mp e];decide
 |.none::r,e | .bool _::r,e | .int _ _::r,e | .str _ _::r,e | .bytes _ _::r,e | .float _ _::r,e | .builtin _::r,e=>by cases (show(_:List cA)=ZJ from OD.mp e)
structure RK(K:fA)(C:eA)(f:aA):Prop where
 ov:(clsIn K C).any (λcd=>eU cd.mro&&cd.hasDict)=true
 sa:findIn K (.ref C) "__setattr__"=some (some (.builtin "object.__setattr__"))
 na:findIn K (.ref C) f=some none
def jOa(X:K.In s.heap)(S:RK K C f)(hx:s.heap.get? x=some ox)(hc:ox.cls=.ref C)(hn:ox.dict=none)(hd:ox.data=.fields vs)
  (h:∀h' tk,h'.get? x=some { ox with dict:=some s.heap.objs.size }->h'.Ns1 s.heap.objs.size (λy=>if y=f then some v else none)->(∀b o,b≠x->s.heap.get? b=some o->h'.get? b=some o)->R (.ok (.ret .none)) { s with heap:=h',toks:=tk }) :
  fM (model prog w) A (.call (.builtin "object.__setattr__") ⟨[.ref x,.str f tk,v],[]⟩) R s:=by
 have I:InstAt s.heap x ox C none:=⟨hx,hc,by unfold notCls;rw[hd],by rw[hn];trivial⟩
 have SF:=PySem.F.store_object;obtain⟨cd,MG,ho⟩:=any_some S.ov;rw[qA] at ho;obtain⟨ho,X_⟩:=ho
 have ne:cd.mro.isEmpty=false:=by cases q:cd.mro with | nil=>rw[q] at ho;cases ho | cons _ _=>rfl
 have sub:ER (model prog w) s.heap (isInstance (.ref x) (.type "object")) true:=I.type.andThen (vZ X (by unfold mroIn;rw[MG,GF,qB (by rw[ne];decide),fo ho]));refine kU SF.slot.plain SF.entry (@check_slot (model prog w) _ _ s "object.__setattr__" "object" "__setattr__" (.ref x) [.str f tk,v] [] _ SF.kind SF.split sub (SF.args (.ref x) (.str f tk) v) ?_);have hm:ER (model prog w) s.heap (mroOf (.ref C)) cd.mro:=(looks_clsIn X MG).andThen .now;rw[osa_eq,refuse_eq];refine FA (FA (I.type.here (FA (hm.here ?_))));rw[Zj _ ho];refine LB (FA (I.type.here (FA ((tZ X S.na).here (FA ((show ER (model prog w) s.heap (storeTaker? none) none from .now).here ?_))))));have hx₁:(s.heap.push { cls:=.type "dict",data:=.dict #[] }).get? x=some ox:=lD _ hx;have oJ:x≠s.heap.objs.size:=zE (xC hx);show AA _ _ (storeInOwnDict (.ref x) (.ref C) (.str f tk) f v _) _ _ s;obtain⟨oc,odi,Li,fF⟩:=ox;dsimp only at hc hn hd;subst hc hn hd;refine FA (LB (FA (FA (wpAny_loadPart hx (FA ((looks_clsIn X MG).here ?_))))));rw[X_]
 have V_:((s.heap.push { cls:=.type "dict",data:=.dict #[] }).update x λo=>{ cls:=o.cls,dict:=some s.heap.objs.size,data:=o.data,slots:=o.slots }).get? s.heap.objs.size=some { cls:=.type "dict",data:=.dict #[] } :=
  (bp _ _ _ _ oJ.symm).trans (Fp rfl rfl)
 have NW:((s.heap.push { cls:=.type "dict",data:=.dict #[] }).update x λo=>{ cls:=o.cls,dict:=some s.heap.objs.size,data:=o.data,slots:=o.slots }).Ns s.heap.objs.size (λ_=>none) :=
  ⟨_,#[],_,V_,rfl,λe he=>absurd he (by simp),λ_=>rfl⟩
 refine FA (wpAny_alloc' (FA (wpAny_update' hx₁ (LB ?_))));show AA _ _ (storeInDict s.heap.objs.size (.str f tk) f v) _ _ _;refine FA (LB (FA (wpAny_nsSet1 (Heap.Ns1.of_empty NW) λh' rQ hs=>?_)));obtain⟨oD,esD,epD,hoD,K_,G_⟩:=rQ.count (Within.cons f v Within.nil);refine FA (wpAny_lookBehind hoD (by rw[K_];exact pastItsLine_dict (uE G_ (by rw[IC,rN,dM];lia))) ?_);refine LB (h h' _ ?_ rQ λb o hb e=>?_)
 ·exact(hs.2 x oJ).trans (iU _ hx₁ rfl)
 ·exact(hs.2 b (zE (xC e))).trans ((bp _ _ _ _ hb).trans (lD _ e))
def oYa(X:K.In s.heap)(S:RK K C f)(hx:s.heap.get? x=some ox)(hc:ox.cls=.ref C)(hn:ox.dict=none)(hd:ox.data=.fields vs)
  (h:∀h' tk,h'.get? x=some { ox with dict:=some s.heap.objs.size }->h'.Ns1 s.heap.objs.size (λy=>if y=f then some v else none)->(∀b o,b≠x->s.heap.get? b=some o->h'.get? b=some o)->Q () { s with heap:=h',toks:=tk }) :
  AA (model prog w) A (setAttr (.ref x) f v) Q E s:=by
 have I:InstAt s.heap x ox C none:=⟨hx,hc,by unfold notCls;rw[hd],by rw[hn];trivial⟩
 exact set_plain X I S.sa (jOa (s:={ s with toks:=s.toks+1 }) X S hx hc hn hd λh' tk k1 k2 k3=>h h' tk k1 k2 k3)
end
section
variable{prog:HD}{w:DC}{A:tF}{E:cA->xA->Prop}{h:DB}{g:Array GenState}{d:Drawn}{t:Nat}{os:OsState}
variable{nm q:aA}{C N:eA}{bs bm:List cA}{hdct:Bool}{sn:List aA}{sub:List cA}{ab:Bool}{col:Option Bool}{dd:Option eA}{k0 k1 k2 k3 k5:Option cA}
def lYa(T:QU h ZJ bm){aAc:List cA}
  (hC:h.get? C=some (excClassObj nm q C N bs bm hdct sn sub ab col dd k0 k1 k2 k3 k5 "ValueError.__new__")) (hn:h.Ns N mN) (hi:mN "__init__"=some (.ref fI)) (B4:h.get? fI=some oI) (C4:oI.cls=.type "function") (hrest:aAc.length<=sizeLine)
  (hq:∀h' e,xa h h' e (.ref C) aAc->AA (model prog w) (A.under (.builtin "type.__call__" ⟨.ref C::aAc,[]⟩)) (call (.ref fI) (.ref e::aAc)) (λr s'=>r=.none/\Q (.ref e) s') E ⟨h',g,d,t,os⟩) :
  AA (model prog w) A (call (.ref C) aAc) Q E ⟨h,g,d,t,os⟩:=by
 have f1:=tc_lookup;have f2:=tc_bind (.ref C);have hT:(⟨h,g,d,t,os⟩:xA).TypeIs (.ref C) "type":=⟨_,hC,rfl⟩
 refine LU (codeAny_of_tree ?_);show AA _ _ (callAny (.ref C) _) _ _ _
 repeat (any_goals (first | assumption | with_reducible refine QL hC ?_ | wp_step))
 refine⟨rfl, ?_⟩;refine codeAny_call_builtin_at (fZ _ (by left)) entry_typeCall (wpAny_check_type_call_sub hC (gXa vP (by decide) vP T hC hn hi B4 C4 hrest λh' e hm=>?_));exact hq h' e hm
def mYa(qL:bm.contains (.type "BaseException")=true)(hh:A.handled=none)
  (hx:AA M A x (λv s₁=>∃e p,v=.ref e/\s₁.heap.get? C=some (excClassObj nm q C N bs bm hdct sn sub ab col dd k0 k1 k2 k3 k5 "ValueError.__new__")/\MR s₁.heap e C p/\E (.ref e) s₁) E s) :
  AA M A (raiseStmt env (some x) none) Q E s:=by
 have y4:(Value.ref C::bm).contains (.type "BaseException")=true:=by rw[eZ,qL,Oa]
 unfold raiseStmt;refine FA (AE hx (λv s₁ h₁=>?_) λ_ _ x=>x);obtain⟨e,p,rfl,hC,⟨oe,vs,a0,he,⟨hc,hp⟩,hd,h0,h1⟩,hE⟩:=h₁;obtain⟨hpp,g,d,tk,os⟩:=s₁;obtain⟨oc,od,Mi,sl⟩:=oe;dsimp only at hc hp hd;subst hc hp hd
 repeat (first | with_reducible refine QL he ?_ | with_reducible refine QL hC ?_ | (with_reducible refine mU hC ?_;rw[y4]) | wp_step)
 rw[h1];refine LB ?_;rw[qB (by decide)];exact LB (wpAny_raiseNew_none hh hE)
end
section
variable{X:Cx}{bA:List (eA×wB)}{Y:L2.St}{H:Hp}{s:xA}{a C:eA}
abbrev aG(a C:eA)(p:PX):HO:=.ext λh=>MR h a C p
def mi(x:MR h a C p):XD P w H' h a (aG a C p):=by
 refine⟨x, ?_,λh1 h2 x k=>?_⟩
 ·obtain⟨oe,_,_,e,_⟩:=x;exact⟨oe,e⟩
 ·obtain⟨oe,vs,a0,e,r⟩:=x;exact⟨oe,vs,a0,k _ e,r⟩
def zXa(h:b≠a):vA (vA H a o) b u=vA (vA H b u) a o:=by
 funext c
 by_cases h1:c=b
 ·subst h1;rw[fC,iB h,fC]
 ·rw[iB h1];by_cases h2:c=a
  ·subst h2;rw[fC,fC]
  ·rw[iB h2,iB h2,iB h1]
def pBa(I:dA X bA Y (vA H a (.ext φ)) s)(fa:yC X bA H a):dA X bA Y H s:=by
 have dn:∀{b:eA} {u:HO},H b=some u->vA H a (.ext φ) b=some u:=λq=>by rw[iB (dF q fa.1)];exact q
 have up:∀{b:eA} {u:HO},vA H a (.ext φ) b=some u->(∀ ψ,u≠.ext ψ)->H b=some u:=λ{b u} q n=>by
  by_cases hb:b=a
  ·subst hb;rw[fC] at q;cases q;exact absurd rfl (n φ)
  ·rwa[iB hb] at q
 have no:∀{b:eA},vA H a (.ext φ) b=none->H b=none:=λ{b} q=>by
  by_cases hb:b=a
  ·subst hb;rw[fC] at q;cases q
  ·rwa[iB hb] at q
 refine⟨I.ok,I.os,I.bare,⟨I.base.keep,I.base.slot,λb ob e n hx=>no (I.base.free b ob e n hx),I.base.there,λb xs e=>up (I.base.FJ b xs e) (λ_ z=>nomatch z),λb ob u e=>up (I.base.sI b ob u e) (λ_ z=>nomatch z),λb ps e=>?_⟩,I.loc,I.cell,no I.free,
  λx c e=>no (I.ZE x c e),λp hp=>?_,λb u e=>?_,I.len⟩
 ·obtain⟨more,z⟩:=I.base.DJ b ps e;exact⟨more,up z (λ_ z=>nomatch z)⟩
 ·obtain⟨h1,h2,h3⟩:=I.pin p hp;exact⟨h1,no h2,h3⟩
 ·exact(I.HA b u (dn e)).AJ (λ_ _ _ q=>q) (λ_ q=>up q (λ_ z=>nomatch z)) λ_ _ q=>up q (λ_ z=>nomatch z)
noncomputable def sXF(K:fA)(ta tv:TE)(f:aA):TS:=λD Y H=>tv Y H λy H1=>ta Y H1 λx H2=>∃a C,x=.ref a/\H2 a=some (aG a C (none,true))/\RK K C f/\∀dx,H2 dx=none->D.nx Y (vA (vA H2 a (aG a C (some dx,true))) dx (.xd [(f,y)]))
def nRa(ha:PE X o ta)(hv:PE X value tv)(hs:swapsWith value (some (.Attribute o f pos')) pos.line X.env=pure false):PS X (.Assign [.Attribute o f pos'] value pos) (sXF X.K ta tv f):=by
 intro bA s Y H D I h;refine plainObj_wpAny_Assign_Attribute (NA (hv bA s Y H _ I h) λu s1 ⟨y,H1,I1,ry,q⟩=>NA (ha bA s1 Y H1 _ I1 q) λov s2 hz=>?_) hs;obtain⟨x,H2,I2,rx,a,C,ex,ea,S,q2⟩:=hz;subst ex;obtain rfl:ov=Value.ref a:=rx;obtain⟨⟨oe,vs,a0,he,⟨hc,hp⟩,hd,h0,h1⟩,_,_⟩:=(show XD X.prog X.w H2 s2.heap a (aG a C (none,true)) from I2.HA a _ ea)
 refine oYa I2.pE S he hc hp hd λh' tk k1 k2 k3=>?_
 have nd:H2 s2.heap.objs.size=none:=I2.HA.fresh (HB _);have ne:s2.heap.objs.size≠a:=HU (xC he);have J:=I2.write (x:=a) (e:=a) (o:=aG a C (some s2.heap.objs.size,true)) (t':=tk) (by rw[ea];exact True.intro) (.inl rfl) k3 ⟨_,k1⟩ (mi ⟨_,vs,a0,k1,⟨hc,rfl⟩,hd,h0,h1⟩);have nd':vA H2 a (aG a C (some s2.heap.objs.size,true)) s2.heap.objs.size=none:=by rw[iB ne];exact nd
 refine⟨Y,_,E5 (o:=.xd [(f,y)]) J (WN I2 (aP (HB _)) nd') ⟨_,k2,λg=>?_⟩,q2 _ nd⟩;by_cases q:g=f
 ·subst q;show VJ (sP g [(g,y)]) (if g=g then some u else none);rw[uA rfl];simp only[sP,QE];exact ry
 ·show VJ (sP g [(f,y)]) (if g=f then some u else none);rw[qB q];have hb:(g==f)=false:=NK.mpr q;simp only[sP,hb];exact True.intro
noncomputable def j8(K:fA)(f:aA):Sp:=λvs H Q _=>∃a C y,vs=[.ref a,y]/\H a=some (aG a C (none,true))/\RK K C f/\∀dx,H dx=none->Q .oA (vA (vA H a (aG a C (some dx,true))) dx (.xd [(f,y)]))
def rTa(q:EG X.K C (some (.ref f)))(S:RK X.K C fl)(F:JF X.prog X.w X.K X.mg X.base ZG k f fd ps (j8 X.K fl))(hr:YC (k+1) X.A)(hb:aAt X.K fd ps [])
  (hf:ya X.K (.ref f)=some (.type "function")) (I:dA X bA Y H s) (ry:aAe y u)
  (h:∀a dx s',H dx=none->dA X bA Y (vA H dx (.xd [(fl,y)])) s'->yC X bA (vA H dx (.xd [(fl,y)])) a->MR s'.heap a C (some dx,true)->Q (.ref a) s'):AA (model X.prog X.w) X.A (call (.ref C) [u]) Q X.xe s:=by
 obtain⟨tl,N,_,kk⟩:=q;obtain⟨nm,qn,bs,hd,sn,sub,ab,col,dd,k0,k1,k2,k3,k5,hC,hN,hi,T⟩:=kk I.pE;obtain⟨oI,ho,yL⟩:=BN.mp hf;obtain⟨hh,g,d,t,os⟩:=s;refine lYa T hC hN hi (I.pE _ _ ho) yL (by rw[dM];simp) λh' e hM=>?_
 obtain⟨t0,kQ,_,_⟩:=hM.there;have I2:dA X bA Y H ⟨h',g,d,t,os⟩:=I.kept (t':=t) hM.keeps;have fe:yC X bA H e:=WN I hM.new (tW I hM.new);have I3:=E5 (o:=aG e C (none,true)) I2 fe (mi ⟨_,_,_,kQ,⟨rfl,rfl⟩,rfl,⟨rfl,λ_=>rfl⟩,rfl⟩)
 have hl:([Value.ref e,u]:List cA).length=ps.length:=by
  have:=F.len [.ref e,y] (vA H e (aG e C (none,true))) (λ_ _=>True) (λ_ _ _=>True) ⟨e,C,y,rfl,fC,S,λ_ _=>trivial⟩
  exact this
 have AF:=hb ⟨h',g,d,t,os⟩ [Value.ref e,u] I3.pE (by rw[DK];exact hl);rw[DK] at AF
 refine LU (qP (F.run _ X.stack _ _ ⟨[Value.ref e,u],[]⟩ [Value.ref e,u] [.ref e,y] (λv H2=>v=.oA/\∃dx,vA H e (aG e C (none,true)) dx=none/\H2=vA (vA (vA H e (aG e C (none,true))) e (aG e C (some dx,true))) dx (.xd [(fl,y)])) (λ_ _ _=>False) (hr.make C [u] [])
  (I3.nI.make C [u] []) AF (.cons rfl (.cons ry .nil)) ⟨e,C,y,rfl,fC,S,λdx wI=>⟨rfl,dx,wI,rfl⟩⟩) λr s' BS=>?_)
 cases r with
 |error e=>exact fG BS
 |ok oz =>
  cases oz with
  |ret v0 =>
   obtain⟨v,H',I4,rv,ev,dx,wI,rfl⟩:=I3.after BS;subst ev;obtain rfl:v0=Value.none:=rv;have k7:dx≠e:=λz=>by rw[z,fC] at wI;cases wI
   rw[iB k7] at wI
   have e1:vA (vA (vA H e (aG e C (none,true))) e (aG e C (some dx,true))) dx (.xd [(fl,y)])=vA (vA H dx (.xd [(fl,y)])) e (aG e C (some dx,true)):=by(rw[xn,zXa k7])
   rw[e1] at I4;have qe:yC X bA (vA H dx (.xd [(fl,y)])) e:=⟨by rw[iB (gE k7)];exact fe.1,fe.2⟩
   obtain⟨md,_,_⟩:=(show XD X.prog X.w _ s'.heap e (aG e C (some dx,true)) from I4.HA e _ fC)
   exact⟨rfl,h e dx s' wI (pBa I4 qe) qe md⟩
  |next=>exact fG BS
  |brk=>exact fG BS
  |cont=>exact fG BS
def Fb(X:Cx)(C:eA)(fl:aA):Prop:=∃(f:eA) (fd:wH) (ps:List aA),EG X.K C (some (.ref f))/\RK X.K C fl/\JF X.prog X.w X.K X.mg X.base ZG 1 f fd ps (j8 X.K fl)/\aAt X.K fd ps []/\ya X.K (.ref f)=some (.type "function")/\nG X.K (.ref C)=true
noncomputable def xWa(X:Cx)(C:eA)(fl:aA)(t:TA):TS:=λ_ Y H=>t Y H λvs H1=>∃y,vs=[y]/\∀bA a dx s',H1 dx=none->dA X bA Y (vA H1 dx (.xd [(fl,y)])) s'->jI X bA (vA H1 dx (.xd [(fl,y)])) s'.heap a C (some dx,true)->X.xe (.ref a) s'
def aRa(hh:X.A.handled=none)(hr:YC 2 X.A)(hg:Gl X x)(hm:X.mg x=some (.ref C))(M:Fb X C fl)(ha:PA X (e::es) t)
  (SH:(x==("__debug__":aA))=false) (he:UB (e::es) X.env=(false,eval e X.env)::UB es X.env) (BF:(sE aB (UB es X.env)).any (·.1)=false) :
  PS X (.Raise (some (.Call (.Name x np) (e::es) [] aB)) none pos) (xWa X C fl t):=by
 intro bA s Y H D I h;obtain⟨f,fd,ps,q,S,F,hb,hf,kp⟩:=M;obtain⟨tl,N,_,kk⟩:=id q;obtain⟨nm,qn,bs,hd,sn,sub,ab,col,dd,k0,k1,k2,k3,k5,hC,hN,hi,T⟩:=kk I.ok.mod.kin;rw[arm_exec_Raise];refine FA (YL (mYa (C:=C) (nm:=nm) (q:=qn) (N:=N) (bs:=bs) (bm:=tl) (hdct:=hd) (sn:=sn) (sub:=sub) (ab:=ab) (col:=col) (dd:=dd) (k0:=k0) (k1:=k1) (k2:=k2) (k3:=k3) (k5:=k5) (T.hasType vP.hasBase) hh ?_));refine FA (AE (Gp (rO I hg hm ?_ SH)) (λv s₃ h₃=>FA (YL (LB h₃))) λ_ _ x=>x);refine G9 (h₀:=X.base) I.ok.mod.kin kp (NA (ha aB bA s Y H _ I h) λus s1 ⟨vs,H1,I1,r,y,hv,k⟩=>⟨I1.pE, ?_⟩) he BF;subst hv
 cases r with
 |cons ry r0 =>
  cases r0 with
  |nil=>exact rTa q S F hr hb hf I1 ry λa dx s' wI I' fa md=>⟨a,_,rfl,I'.bk _ _ hC,md,k bA a dx s' wI I' ⟨fa,.inl md⟩⟩
end
end CI
namespace L2
open PySem PySem.Spec PyProof.Rows
section
variable{prog:HD}{w:DC}{A:tF}{E:cA->xA->Prop}{s:xA}
def Ww:entryFor table "proto.unchain"=some Builtin.«proto.unchain»:=entryFor_of_fast (by kernel_rfl)
def hYa(ho:s.heap.get? a=some o)(hd:o.data=.fields vs)(hi:i<vs.size)(h:Q () { s with heap:=s.heap.update a (oP (·.setIfInBounds i v)) }):AA (model prog w) A (updateField a i v) Q E s:=by
 unfold updateField;refine FA (wpAny_load ho ?_);rw[hd];dsimp only;rw[uA hi];exact wpAny_update ho h
def wSa(hh:A.handled=some (.ref h))(ne:h≠e)(eh:s.heap.get? h=some oh)(dh:oh.data=.fields fh)(ch:fh[2]?=some .none)(ee:s.heap.get? e=some oe)(de:oe.data=.fields fe)(z:2<fe.size)
  (q:E (.ref e) { s with heap:=s.heap.update e (oP (·.setIfInBounds 2 (.ref h))) }):AA (model prog w) A (raiseNew (.ref e):Sem O) Q E s:=by
 unfold raiseNew;refine FA (wpAny_handled ?_);rw[hh];dsimp only
 have hb:(Value.ref h != Value.ref e)=true:=by(rw[bne_iff_ne];exact λz=>ne (by cases z;rfl))
 rw[uA hb];refine FA (WL (runValue_entry Ww ?_));unfold Builtin.«proto.unchain»;refine FA (SG eh dh ch ?_);refine LB ⟨_,rfl, ?_⟩;exact FA (hYa ee de z (wpAny_throw q))
variable{nm q:aA}{C N:eA}{bs bm:List cA}{hdct:Bool}{sn:List aA}{sub:List cA}{ab:Bool}{col:Option Bool}{dd:Option eA}{k0 k1 k2 k3 k5:Option cA}{B newId A5:String}{MN:List cA}{env:IK}{hx:eA}
def jb(h:DB)(a:eA):Prop:=∃o vs,h.get? a=some o/\o.data=.fields vs/\vs[2]?=some .none
abbrev wV(h:DB)(e a:eA):DB:=h.update e (oP (·.setIfInBounds 2 (.ref a)))
def xSa(qL:bm.contains (.type "BaseException")=true)(hh:A.handled=some (.ref hx))
  (h:AA (model prog w) A x (λv s₁=>∃e t,v=.ref e/\s₁.heap.get? C=some (excClassObj nm q C N bs bm hdct sn sub ab col dd k0 k1 k2 k3 k5 newId) /\
   s₁.heap.get? e=some { cls:=.ref C,data:=.fields #[.ref t,.none,.none,.none,.bool false,.none] }/\jb s₁.heap hx/\hx≠e/\E (.ref e) { s₁ with heap:=wV s₁.heap e hx }) E s) :
  AA (model prog w) A (raiseStmt env (some x) none) Q E s:=by
 have y4:(Value.ref C::bm).contains (.type "BaseException")=true:=by rw[eZ,qL,Oa]
 unfold raiseStmt;refine FA (AE h (λv s₁ h₁=>?_) λ_ _ x=>x);obtain⟨e,t,rfl,hC,he,⟨o,vs,b1,b2,b3⟩,ne,hE⟩:=h₁;obtain⟨hp,g,d,tk,os⟩:=s₁
 repeat (first | with_reducible refine QL he ?_ | with_reducible refine QL hC ?_ | (with_reducible refine mU hC ?_;rw[y4]) | wp_step)
 exact wSa hh ne b1 b2 b3 he rfl (show 2<6 by decide) hE
def ySa(F:Na B newId A5 MN)
  (qL:bm.contains (.type "BaseException")=true) (hh:A.handled=some (.ref hx)) (Q4:(sE aB (UB args env)).any (·.1)=false) (SM:mN "__init__"=none)
  (h:AA (model prog w) A (eval (.Name x np) env) (λf s₁=>f=.ref C/\AA (model prog w) A (evalArgs (.ref C) true (sE aB (UB args env)) [])
   (λa s₂=>a.kw=[]/\a.pos.length<=sizeLine/\s₂.heap.get? C=some (excClassObj nm q C N bs bm hdct sn sub ab col dd k0 k1 k2 k3 k5 newId)/\s₂.heap.Ns N mN/\QU s₂.heap MN bm/\jb s₂.heap hx /\
    ∀h' e,xa s₂.heap h' e (.ref C) a.pos->E (.ref e) { s₂ with heap:=wV h' e hx }) E s₁) E s) :
  AA (model prog w) A (exec (.Raise (some (.Call (.Name x np) args [] aB)) none pos) env) Q E s:=by
 rw[arm_exec_Raise];refine FA (YL (xSa (C:=C) (nm:=nm) (q:=q) (N:=N) (bs:=bs) (bm:=bm) (hdct:=hdct) (sn:=sn) (sub:=sub) (ab:=ab) (col:=col) (dd:=dd) (k0:=k0) (k1:=k1) (k2:=k2) (k3:=k3) (k5:=k5) (newId:=newId) qL hh ?_));refine FA (AE (Gp (AE h (λf s₁ h₁=>?_) λ_ _ x=>x)) (λv s₃ h₃=>FA (YL (LB h₃))) λ_ _ x=>x);obtain⟨rfl,h₁⟩:=h₁;unfold callWith;refine FA (WL (AE h₁ (λa s₂ h₂=>FA (YL ?_)) λ_ _ x=>x));obtain⟨mB,wt⟩:=a;obtain⟨V',GB,hC,hn,T,⟨o,vs,b1,b2,b3⟩,h₂⟩:=h₂;obtain rfl:wt=[]:=V';obtain⟨hp,g,d,tk,os⟩:=s₂;simp only[Q4];refine FA (wpAny_keeperOf_exc hC ?_);refine FA (wpAny_call_exc_subT (hrest:=GB) F T hC hn SM λh' e hm=>FA (WL (wpAny_point (LB ?_))));obtain⟨t,ht,_,_⟩:=hm.there;exact⟨e,t,rfl,hm.keeps _ _ hC,ht,⟨o,vs,hm.keeps _ _ b1,b2,b3⟩,(λz=>by rw[z] at b1;rw[hm.new] at b1;cases b1),h₂ h' e hm⟩
end
end L2
namespace CI
open PySem PySem.Spec PyProof.Rows L2
section
variable{X:Cx}{bA:List (eA×wB)}{Y:L2.St}{H:Hp}{s:xA}{C hx:eA}
noncomputable def wWa(X:Cx)(C:eA)(t:TA):TS:=λ_ Y H=>t Y H λvs H1=>vs.length<=sizeLine/\∀bA a s',dA X bA Y H1 s'->jI X bA H1 s'.heap a C (none,false)->X.xe (.ref a) s'
def vSa(hh:X.A.handled=some (.ref hx))(hg:Gl X x)(hm:X.mg x=some (.ref C))(q:EG X.K C none)(ha:PA X (e::es) t)
  (SH:(x==("__debug__":aA))=false) (he:UB (e::es) X.env=(false,eval e X.env)::UB es X.env) (BF:(sE aB (UB es X.env)).any (·.1)=false)
  (I:dA X bA Y H s) (fa:yC X bA H hx) (eh:s.heap.get? hx=some oh) (dh:oh.data=.fields fh) (ch:fh[2]?=some .none) (h:wWa X C t D Y H) :
  AA (model X.prog X.w) X.A (exec (.Raise (some (.Call (.Name x np) (e::es) [] aB)) none pos) X.env) Q X.xe s:=by
 have I0:dA X ((hx,oh)::bA) Y H s:=⟨I.ok,I.os,I.bare,I.base,I.loc,I.cell,I.free,I.ZE,λp hp=>by
  rcases CG.mp hp with z | z
  ·exact I.pin p (oN _ z)
  ·rcases AD.mp z with rfl | z
   ·exact⟨eh,fa.1,fa.2.1,fa.2.2.1,λv z=>by rw[dh] at z;cases z⟩
   ·exact I.pin p (yH _ z),I.HA,I.len⟩
 obtain⟨tl,N,_,k⟩:=q;obtain⟨nm,qn,bs,hd,sn,sub,ab,col,dd,k0,k1,k2,k3,k5,hC,hN,SM,T⟩:=k I.ok.mod.kin
 refine ySa (C:=C) (nm:=nm) (q:=qn) (N:=N) (bs:=bs) (bm:=tl) (hdct:=hd) (sn:=sn) (sub:=sub) (ab:=ab) (col:=col) (dd:=dd) (k0:=k0) (k1:=k1) (k2:=k2) (k3:=k3) (k5:=k5)
  vP (mN:=X.base.nsMap N) (T.hasType vP.hasBase) hh (by rw[he];unfold sE at *;rw[eD,FK,BF];rfl) SM (rO I0 hg hm ⟨rfl, ?_⟩ SH)
 have h2:=ha aB ((hx,oh)::bA) s Y H _ I0 h;rw[he] at h2 ⊢;refine Calls.evalArgs_plain (AE h2 (λus s2 h3=>?_) λ_ _ y=>y);obtain⟨vs,H1,I1,r,hl,gO⟩:=h3;have pn:=I1.pin (hx,oh) (yH _ (kG ..));refine⟨rfl,by rw[<- r.length];exact hl,I1.bk _ _ hC,hN.keeps I1.bk,T.keeps I1.bk,⟨oh,fh,pn.1,dh,ch⟩,λh' e hM=>?_⟩;obtain⟨t0,kQ,_,_⟩:=hM.there;have I2:dA X ((hx,oh)::bA) Y H1 { s2 with heap:=h' }:=I1.kept (t':=s2.toks) hM.keeps;have fe:yC X ((hx,oh)::bA) H1 e:=WN I1 hM.new (tW I1 hM.new);have other:∀b,b≠e->(wV h' e hx).get? b=h'.get? b:=λb hb=>VO _ _ (gE hb)
 have I3:dA X ((hx,oh)::bA) Y H1 { s2 with heap:=wV h' e hx }:=iX (as:=[e]) (s:={ s2 with heap:=h' }) I2 (λb hb=>by rw[ME.mp hb];exact fe) (λb o z=>by
   have hb:b≠e:=λw=>by rw[w,ZO _ (by simp)] at z;cases z
   exact(other b hb).trans (oU _ z)) λb o z nf=>⟨o.slots,by
   have hb:b≠e:=λw=>by rw[w,kQ] at z;cases z;exact nf _ rfl
   exact(other b hb).trans z⟩
 exact gO _ e _ I3 ⟨fe,.inl ⟨_,_,_,iU _ kQ rfl,⟨rfl,rfl⟩,rfl,⟨rfl,λz=>nomatch z⟩,rfl⟩⟩
end
end CI
namespace L2
open PySem PySem.Spec PyProof.Rows
noncomputable def XU(x:aA):It:=⟨λi _=>i<x.cps.size,λi H v H'=>H'=H/\∃c,x.cps[i]?=some c/\v=.str ⟨#[c]⟩,λi _=>x.cps.size<=i⟩
def tXa{K:fA}(it:eA)(x:aA)(t:iG):Turn P w K tg (XU x) [it] it (λi h=>h.IsStrIter it "str_ascii_iterator" x t i) where
 mem:=ME.mpr rfl
 obj:=λi h st b hb=>by(obtain rfl:=ME.mp hb;obtain⟨o,e,c,d⟩:=st;exact⟨o,e,λv z=>by rw[d] at z;cases z⟩)
 keep:=λi h h' st k=>let ⟨o,ho,r⟩:=st;⟨o,k it (ME.mpr rfl) o ho,r⟩
 item:=by
  intro X hP hw hK hc i bA s Y H E I hf st hg;subst hP hw hK;obtain⟨f0,f1,f2,f3,f4,f5⟩:=hf it (ME.mpr rfl);have hg:i<x.cps.size:=hg;have hx:x.cps[i]?=some x.cps[i]:=Array.getElem?_eq_getElem hg;refine wpAny_pyNext_ascii_item st hx λh' yJ sb=>?_
  have I1:dA X bA Y H { s with heap:=h',toks:=s.toks+1 }:=I.turned (λb o hb e=>(sb.2 b hb).trans e) f0 f1 f3 f4 f5;obtain⟨o,e,c,d⟩:=id yJ;exact⟨_,rfl,xW (s:={ s with heap:=h',toks:=s.toks+1 }) e c d (by decide) ⟨.str ⟨#[x.cps[i]]⟩,H,I1,⟨_,rfl⟩,⟨rfl,_,hx,rfl⟩,yJ,λb hb=>(hf b hb).1⟩⟩
 done:=by(intro X hP hw hK hc i bA s Y H E I hf st hg;subst hP hw hK;obtain⟨f0,f1,f2,f3,f4,f5⟩:=hf it (ME.mpr rfl);have hg:x.cps.size<=i:=hg;exact wpAny_pyNext_ascii_end (I.ok.hd hc) st (Array.getElem?_eq_none hg) λh' eb=>⟨rfl,I.turned (t':=s.toks) (λb o hb e=>eb b o hb e) f0 f1 f3 f4 f5⟩)
 self:=λ_ _ _ _ _ st h=>wpAny_pyIter_striter_ascii st h
section
variable{tg:sA}
noncomputable def Sf(tl:TE):TI:=λY H R=>tl Y H λv H1=>∃x,v=.str x/\x.cps.all (·<128)=true/\R (XU x) H1
def pPa{tl:TE}(hl:PE X l tl):PI X tg l (Sf tl):=by
 intro bA s Y H R I h;refine NA (hl bA s Y H _ I h) λv s1 hz=>?_
 obtain⟨y,H1,I1,r1,q1⟩:=hz;obtain⟨x,rfl,ha,q⟩:=q1;obtain⟨t,rfl⟩:=r1;refine wpAny_pyIter_ascii ha ?_;refine⟨s1.heap.objs.size,[s1.heap.objs.size],_,_,H1,rfl,I1.kept (t':=s1.toks) λb o e=>lD _ e,tXa _ x t,⟨_,zH _ rfl,rfl,rfl⟩,λb hb=>?_,q⟩;obtain rfl:=ME.mp hb;exact I1.LM (HB _) (I1.HA.fresh (HB _))
def Hv:qG X (.type "int") (λxs H Q=>∃x n,xs=[.str x]/\CU x=some n/\x.length<=640/\Q (.int n) H):=by
 intro bA s Y H xs us Q I r h;obtain⟨x,n,rfl,h1,h2,q⟩:=h;obtain⟨u,rfl,t,rfl⟩:=aAA r;exact PySem.W.KIN.call_text h1 h2 ⟨.int n,H,I.tok _,⟨_,rfl⟩,q⟩
def Nv:qG X (.type "str") (λxs H Q=>∃x,xs=[.str x]/\Q (.str x) H):=by
 intro bA s Y H xs us Q I r h;obtain⟨x,rfl,q⟩:=h;obtain⟨u,rfl,t,rfl⟩:=aAA r;exact P.str_of_str ⟨.str x,H,I,⟨_,rfl⟩,q⟩
theorem Hn:∀{ts:List aA} {us:List cA},aAf (ts.map V.str) us->∃l:List (aA×iG),us=strValues l/\l.map (·.1)=ts
 |[],_,h=>by cases h;exact⟨[],rfl,rfl⟩
 |t::ts,_,h=>by
  cases h with
  |cons r rr =>
   obtain⟨k,rfl⟩:=r;obtain⟨l,rfl,rfl⟩:=Hn rr;exact⟨(t,k)::l,rfl,rfl⟩
theorem Zk:∀l:List (aA×iG),aAf ((l.map (·.1)).map V.str) (strValues l)
 |[]=>.nil
 | (x,t)::l=>.cons ⟨t,rfl⟩ (Zk l)
def aA2(K:fA):V->List V->Hp->VK->Prop:=λx vs H Q=>∃sep p texts,x=.str sep/\vs=[.ref p]/\CB K H p (texts.map V.str)/\uP sep texts=true/\Q (.str (YB sep texts)) H
def gIa:NR X "str.join" (aA2 X.K):=by
 intro bA s Y H x vs v us Q I rx rv h;obtain⟨sep,p,texts,rfl,rfl,hq,HA,q⟩:=h;obtain⟨t,rfl⟩:=rx;obtain⟨u,rfl,ru⟩:=rv.one;cases ru;obtain⟨gA,r',pl,hz⟩:=I.list hq;obtain⟨l,rfl,ht⟩:=Hn r';exact SC.join pl.isList ht HA λt' k=>⟨.str _,H,I.kept (t':=k) λb o e=>e,⟨_,rfl⟩,q⟩
def uSa:V->List V->Hp->VK->Prop:=λx vs H Q=>∃y z,x=.str y/\vs=[.str z]/\Q (.bl (lP y z)) H
def hIa:NR X "str.startswith" uSa:=by
 intro bA s Y H x vs v us Q I rx rv h;obtain⟨y,z,rfl,rfl,q⟩:=h;obtain⟨t,rfl⟩:=rx;obtain⟨u,rfl,k,rfl⟩:=rv.one;exact SC.startswith ⟨.bl _,H,I,rfl,q⟩
def tSa:V->List V->Hp->VK->Prop:=λx vs H Q=>∃y z,x=.str y/\vs=[.str z]/\(z.length==0)=false/\y.length<=1000000/\∀l,H l=none->Q (.ref l) (vA H l (.l ((UA y z).map V.str)))
def vi:NR X "str.split" tSa:=by
 intro bA s Y H v0 vs v us Q I rx rv h;obtain⟨x,y,rfl,rfl,hy,hx,q⟩:=h;obtain⟨t,rfl⟩:=rx;obtain⟨u0,rfl,u,rfl⟩:=rv.one;have hle:=split_le x y;have Y4:(1000002:Nat)<=sizeLine:=by decide
 have XA:∀(l:List (aA×iG)) (tk:Nat),l.map (·.1)=UA x y->EP X bA Y Q (.ref s.heap.objs.size) { s with heap:=s.heap.push { cls:=.type "list",data:=.seq (strValues l).toArray },toks:=tk }:=λl tk e=>by(refine⟨.ref s.heap.objs.size,_,I.laid (t':=tk) (o:=.l ((UA x y).map V.str)) (λb ob z=>lD _ z) (HB _) ?_,rfl,q _ (I.HA.fresh (HB _))⟩;refine⟨by rw[JA];lia,_,0, ?_,zH _ rfl⟩;rw[<- e];exact Zk l)
 have sz1:x.length<=sizeLine:=by lia
 cases c1:(decide (x.length<y.length)||decide (gp x<gp y)) with
 |true =>
  have e:[(x,t)].map (·.1)=UA x y:=by unfold UA;rw[uA c1];rfl
  exact NU nU (DR _ _ _) P9 (M9 _ _) (meets_str_split_cannot_occur x y t u c1) (XA [(x,t)] s.toks e)
 |false =>
  cases c2:(AN x y 0 x.length (x.length+1)).isEmpty with
  |true =>
   have e:[(x,t)].map (·.1)=UA x y:=by unfold UA;rw[c1,c2];rfl
   exact NU nU (DR _ _ _) P9 (M9 _ _) (meets_str_split_not_found x y t u c1 hy c2) (XA [(x,t)] s.toks e)
  |false =>
   have es:UA x y=Po x (AN x y 0 x.length (x.length+1)) y.length:=by unfold UA;rw[c1,c2];rfl
   have sz2:(Po x (AN x y 0 x.length (x.length+1)) y.length).length<=sizeLine:=by rw[<- es];lia
   refine NU nU (DR _ _ _) P9 (M9 _ _) (meets_str_split_sep x y t u c1 hy c2 sz1 sz2) ?_
   have:=XA (numbered s.toks (UA x y)) (s.toks+(UA x y).length) (numbered_texts _ _)
   rw[es] at this;rw[<- strsFrom_eq] at this;exact this
def rSa:V->Option Int->Option Int->Hp->VK->Prop:=λx lo hi H Q=>∃y,x=.str y/\y.length<=1000000/\Q (.str (mD y lo hi)) H
def aAR(h:LK v o):∃l:Option (Int×iG),v=partValue l/\o=l.map (·.1):=by
 cases h with
 |none=>exact⟨none,rfl,rfl⟩
 |int i t=>exact⟨some (i,t),rfl,rfl⟩
def rUa:WJ X rSa:=by
 intro bA s Y H x v vl vu lo hi sl Q I rx hs pl pu h;obtain⟨y,rfl,hz,q⟩:=h;obtain⟨t,rfl⟩:=rx;obtain⟨l,rfl,rfl⟩:=aAR pl;obtain⟨u,rfl,rfl⟩:=aAR pu;have Y4:(1000000:Nat)<=sizeLine:=by decide
 exact⟨"str",_,F.slot_str_getitem.lookup,DR _ _ _,wpAny_getItem_str_slice (st:=none) hs rfl (post_val_or_str ⟨uE (Txt.slice_le y _ _) (uE hz Y4),λt' k=>⟨.str _,H,I.kept (t':=k) λb o e=>e,⟨_,rfl⟩,q⟩⟩)⟩
def iNa:EC X (gG .Mult) (λx y H Q=>∃i n,x=.str i/\y=.int n/\yZ i n/\Q (.str (DG i n)) H):=by
 intro bA s Y H x y v u Q I rx ry h;obtain⟨i,n,rfl,rfl,hm,q⟩:=h;obtain⟨t,rfl⟩:=rx;obtain⟨t',rfl⟩:=ry;exact SB.mul hm λt' k=>⟨.str _,H,I.kept (t':=k) λb o e=>e,⟨_,rfl⟩,q⟩
end
end L2
namespace CI
open PySem
inductive D where
 |oA
 |bl (b:Bool)
 |int (i:Int)
 |str (x:aA)
 |t (ds:List D)
 |l (ds:List D)
 |ins (c:aA) (ns:List aA) (ds:List D)
 |uD (c:aA) (n:Option Int)
 |sC (ks:List aA) (ds:List D)
 deriving Inhabited
inductive RV where
 |sh (d:D) | ow (d:D) | od (d:D)
noncomputable def RV.d:RV->D
 |.sh d=>d
 |.ow d=>d
 |.od d=>d
noncomputable def RV.low:RV->RV
 |.od d=>.ow d
 |v=>v
inductive Sl where
 |un | mv | sh (d:D) | ow (d:D) (pin lk:Bool)
noncomputable def Sl.get:Sl->Option D
 |.un=>none
 |.mv=>none
 |.sh d=>some d
 |.ow d _ _=>some d
structure Exc where
 cls:aA
 num:Option Int
inductive Out(O:Type) where
 |ok (a:O) | ex (e:Exc)
abbrev Env:=List Sl
abbrev zA(O:Type):=Option (Out O×Env)
noncomputable def zA.bind(r:zA O)(f:O->Env->zA N):zA N :=
 match r with
 |none=>none
 |some (.ex e,U)=>some (.ex e,U)
 |some (.ok a,U)=>f a U
inductive Hd where
 |slot (i:Nat) | val (v:RV)
noncomputable def Hd.get(h:Hd)(U:Env):Option D :=
 match h with
 |.slot i=>(U[i]?).bind Sl.get
 |.val v=>some v.d
noncomputable def getAll:List Hd->Env->Option (List D)
 |[],_=>some []
 |h::r,U=>(h.get U).bind λd=>(getAll r U).map (d :: ·)
inductive Ty where
 |int | bool | str | list | tuple | dict | cls (c:Nat) | cU
inductive BI where
 |len
 |int
 |list
 |tuple
 |all
 |str
inductive wF where
 |yD | of | enum (lo:Int) | sig | key
 deriving DecidableEq
set_option genSizeOf false
set_option genInjectivity false
inductive E where
 |nA
 |zC
 |v (i:Nat)
 |c (d:D)
 |t (es:List E)
 |l (es:List E)
 |BA (op:yN) (a b:E)
 |neg (a:E)
 |not (a:E)
 |IA (op:eI) (a b:E)
 |HH (op BC:eI) (a b c:E)
 |and (a b:E)
 |or (a b:E)
 |ite (c a b:E)
 |ix (a i:E)
 |sl (a lo hi:E)
 |rev (a:E)
 |call (f:String) (args:List E)
 |bif (f:BI) (args:List E)
 |xG (a:E) (ts:List Ty)
 |jO (a:E) (sn:List (List aA×List aA))
 |app (i:Nat) (a:E)
 |ext (i:Nat) (a:E)
 |AV (ks:List aA) (es:List E)
 |zF (i:Nat)
 |yM (a:E)
 |bIa (a:E)
 |sJa (a:E)
 |bF (s:aA) (a:E)
 |nH (i:Nat) (s:aA)
 |NT (i:Nat) (s:aA)
 |xY (a:E) (s:aA)
 |fld (a:E) (f:aA)
 |make (c:aA) (ns:List aA) (args:List E)
 |xHa (i:Nat) (m:aA) (tb:List (aA×String)) (args:List E)
 |comp (LA:E) (tg:List Nat) (k:wF) (gA:List E) (cond:List E) (imp:List Nat) (nl:Nat)
inductive S where
 |nA
 |pass
 |brk
 |cnt
 |kB (i:Nat) (e:E)
 |wM (is:List Nat) (e:E)
 |set (i:Nat) (k e:E)
 |DO (i:Nat) (k:aA) (e:E)
 |eR (i:Nat) (a b e:E)
 |expr (e:E)
 |ret (e:E)
 |jY
 |wA (c:E) (a b:List S)
 |for (tg:List Nat) (one:Bool) (k:wF) (gA:List E) (body:List S)
 |whl (c:E) (body:List S)
 |YH (c:aA) (args:List E)
 |CO (c:aA) (args:List E)
 |kR (body:List S) (cs:List aA) (i j:Nat)
 |SO (body:List S) (cs:List aA)
 |Ak (i j:Nat) (e c:E)
set_option genInjectivity true
noncomputable def lB:Nat->D->Bool
 |_,.oA=>true
 |_,.bl _=>true
 |_,.int _=>true
 |_,.str _=>true
 |n+1,.t ds=>ds.all (lB n)
 |n+1,.l ds=>ds.all (lB n)
 |_,_=>false
mutual
noncomputable def TC:D->D->Bool
 |.oA,.oA=>true
 |.bl a,.bl b=>a==b
 |.bl a,.int b=>(if a then 1 else 0)==b
 |.int a,.bl b=>a==(if b then 1 else 0)
 |.int a,.int b=>a==b
 |.str a,.str b=>a==b
 |.t a,.t b=>tG a b
 |.l a,.l b=>tG a b
 |_,_=>false
noncomputable def tG:List D->List D->Bool
 |[],[]=>true
 |a::as,b::bs=>TC a b&&tG as bs
 |_,_=>false
end
noncomputable def cl(p:Prop):Decidable p:=Classical.propDecidable p
noncomputable section
noncomputable def AK:D->Option Bool
 |.oA=>some false
 |.bl b=>some b
 |.int i=>some (i != 0)
 |.str x=>@ite _ (x.length<=1000000) (cl _) (some ((x.length:Int) != 0)) none
 |.t ds=>some (!ds.isEmpty)
 |.l ds=>some (!ds.isEmpty)
 |_=>none
noncomputable def pB(n:Nat):Bool:=@decide (n<=1000000) (cl _)
noncomputable def pC:yN->D->D->Option RV
 |.Add,.int i,.int j=>some (.sh (.int (i+j)))
 |.Sub,.int i,.int j=>some (.sh (.int (i-j)))
 |.Mult,.int i,.int j=>@ite _ ((-(2 ^ 64)<i/\i<2 ^ 64)\/(-(2 ^ 64)<j/\j<2 ^ 64)) (cl _) (some (.sh (.int (i*j)))) none
 |.FloorDiv,.int i,.int j=>@ite _ (0<j/\j<nofun) (cl _) (some (.sh (.int (i / j)))) none
 |.Mod,.int i,.int j=>@ite _ (0<j) (cl _) (some (.sh (.int (i % j)))) none
 |.LShift,.int i,.int j=>@ite _ (0<=j/\j<=1000/\i.natAbs<2 ^ 64) (cl _) (some (.sh (.int (i*2 ^ j.toNat)))) none
 |.RShift,.int i,.int j=>@ite _ (0<=j) (cl _) (some (.sh (.int (i / 2 ^ j.toNat)))) none
 |.BitAnd,.int i,.int j=>some (.sh (.int (iZ i j)))
 |.BitOr,.int i,.int j=>some (.sh (.int (AH i j)))
 |.Add,.l xs,.l ys=>if pB (xs.length+ys.length) then some (.ow (.l (xs++ys))) else none
 |.Add,.t [],.t ys=>some (.sh (.t ys))
 |.Add,.t (x::xs),.t ys=>if pB (xs.length+1+ys.length) then some (.sh (.t (x::xs++ys))) else none
 |.Add,.str x,.str y=>@ite _ (x.length+y.length<=1000000) (cl _) (some (.sh (.str (x++y)))) none
 |.Mult,.str x,.int n=>@ite _ (yZ x n/\nC (DG x n)=true) (cl _) (some (.sh (.str (DG x n)))) none
 |_,_,_=>none
noncomputable def ID:D->Bool
 |.oA=>true | .bl _=>true | .int _=>true | .str _=>true
 |_=>false
noncomputable def inD(x:D)(ds:List D):Bool:=ds.any λy=>TC y x
noncomputable def C5:List D->Option (List Int)
 |[]=>some []
 |.int i::r=>(C5 r).map (i :: ·)
 |_=>none
noncomputable def b8:D->Option L2.uM
 |.t [.int t,.t ds]=>(C5 ds).map λns=>(t,ns)
 |_=>none
noncomputable def nUa:D->Option L2.CP
 |.t [.t a,.t b]=>(b8 (.t a)).bind λx=>(b8 (.t b)).map λy=>.inr (x,y)
 |d=>(b8 d).map .inl
noncomputable def cF(ks:List aA)(ds:List D)(k:aA):Option D:=((ks.zip ds).find? λp=>decide (p.1=k)).map (·.2)
noncomputable def rC:eI->D->D->Option Bool
 |.Eq,x,y=>if lB 20 x&&lB 20 y then some (TC x y) else none
 |.NotEq,x,y=>if lB 20 x&&lB 20 y then some (!TC x y) else none
 |.Lt,.int i,.int j=>some (decide (i<j))
 |.LtE,.int i,.int j=>some (decide (i<=j))
 |.Gt,.int i,.int j=>some (decide (j<i))
 |.GtE,.int i,.int j=>some (decide (j<=i))
 |.Is,.bl a,.bl b=>some (a==b)
 |.Is,.oA,.oA=>some true
 |.Is,_,.oA=>some false
 |.IsNot,.oA,.oA=>some false
 |.IsNot,_,.oA=>some true
 |.In,x,.t ds=>if ID x&&ds.all ID then some (inD x ds) else none
 |.In,x,.l ds=>if ID x&&ds.all ID then some (inD x ds) else none
 |.In,.str x,.str y=>some (!(AN y x 0 y.length 1).isEmpty)
 |.NotIn,x,.t ds=>if ID x&&ds.all ID then some (!inD x ds) else none
 |.NotIn,x,.l ds=>if ID x&&ds.all ID then some (!inD x ds) else none
 |.NotIn,.str x,.str y=>some (!(!(AN y x 0 y.length 1).isEmpty))
 |.NotIn,.str x,.sC ks ds=>some (!(cF ks ds x).isSome)
 |_,_,_=>none
noncomputable def cH(ds:List D)(i:Int):Option D:=L2.oC ds i
noncomputable def CL:D->D->Option D
 |.t ds,.int i=>cH ds i
 |.l ds,.int i=>cH ds i
 |.sC ks ds,.str x=>cF ks ds x
 |.str x,.int i=>@ite _ (x.length<=1000000) (cl _) ((L2.oC x.cps.toList i).map λc=>.str ⟨#[c]⟩) none
 |_,_=>none
noncomputable def aAz(ds:List D)(lo hi:Option Int):List D:=(ds.drop (HT.vB ds.length 0 lo)).take (HT.vB ds.length ds.length hi-HT.vB ds.length 0 lo)
noncomputable def ZM:Option D->Option (Option Int)
 |none=>some none
 |some (.int i)=>some (some i)
 |_=>none
noncomputable def bN:D->Option Int->Option Int->Option RV
 |.l ds,lo,hi=>some (.ow (.l (aAz ds lo hi)))
 |.t ds,lo,hi=>if HT.vB ds.length 0 lo=0/\HT.vB ds.length ds.length hi=ds.length then none else some (.sh (.t (aAz ds lo hi)))
 |.str x,lo,hi=>@ite _ (x.length<=1000000/\nC (mD x lo hi)=true) (cl _) (some (.sh (.str (mD x lo hi)))) none
 |_,_,_=>none
noncomputable def gTa:D->Option RV
 |.t ds=>some (.sh (.t ds.reverse))
 |.l ds=>some (.ow (.l ds.reverse))
 |_=>none
noncomputable def RF:List D->Option (List Bool)
 |[]=>some []
 |.bl b::r=>(RF r).map (b :: ·)
 |_=>none
mutual
noncomputable def kD:D->PyData
 |.oA=>.none
 |.bl b=>.bool b
 |.int i=>.int i
 |.str x=>.str x
 |.t ds=>.tuple (zG ds)
 |.l ds=>.list (zG ds)
 |.ins _ _ _=>.none
 |.uD _ _=>.none
 |.sC _ _=>.none
noncomputable def zG:List D->List PyData
 |[]=>[]
 |d::ds=>kD d::zG ds
end
noncomputable def pD:BI->List D->Option RV
 |.len,[.l ds]=>some (.sh (.int ds.length))
 |.len,[.t ds]=>some (.sh (.int ds.length))
 |.len,[.str x]=>@ite _ (x.length<=1000000) (cl _) (some (.sh (.int x.length))) none
 |.int,[.int i]=>some (.sh (.int i))
 |.int,[.bl b]=>some (.sh (.int (if b then 1 else 0)))
 |.int,[.str x]=>@ite _ (x.length<=640) (cl _) ((CU x).map λn=>.sh (.int n)) none
 |.str,[.int i]=>@ite _ (i.natAbs.log2<1920/\nC (pA (toString i))=true) (cl _) (some (.sh (.str (pA (toString i))))) none
 |.str,[.str x]=>some (.sh (.str x))
 |.tuple,[.l ds]=>some (.sh (.t ds))
 |.tuple,[.t ds]=>some (.sh (.t ds))
 |.all,[.l ds]=>(RF ds).map λbs=>.sh (.bl (bs.all id))
 |_,_=>none
noncomputable def kX:Ty->D->Option Bool
 |.int,d=>match d with
  |.int _=>some true | .bl _=>some true | .oA=>some false | .str _=>some false | .t _=>some false | .l _=>some false
  |_=>none
 |.bool,d=>match d with
  |.bl _=>some true | .int _=>some false | .oA=>some false | .str _=>some false | .t _=>some false | .l _=>some false
  |_=>none
 |.str,d=>match d with
  |.str _=>some true | .bl _=>some false | .int _=>some false | .oA=>some false | .t _=>some false | .l _=>some false
  |_=>none
 |.list,d=>match d with
  |.l _=>some true | .bl _=>some false | .int _=>some false | .oA=>some false | .t _=>some false | .str _=>some false
  |_=>none
 |.tuple,d=>match d with
  |.t _=>some true | .bl _=>some false | .int _=>some false | .oA=>some false | .l _=>some false | .str _=>some false
  |_=>none
 |.cU,d=>match d with
  |.uD _ _=>some true
  |_=>none
 |_,_=>none
noncomputable def NS:List Ty->D->Option Bool
 |[],_=>some false
 |t::r,d=>(kX t d).bind λb=>(NS r d).map λc=>b||c
noncomputable def kO(c:aA):List (List aA×List aA)->Option Bool
 |[]=>some false
 | (s,n)::r=>if s.contains c then some true else if n.contains c then kO c r else none
noncomputable def N5(sn:List (List aA×List aA)):D->Option RV
 |.uD c _=>(kO c sn).map λb=>.sh (.bl b)
 |_=>none
noncomputable def F0:D->Option RV
 |.int i=>some (.sh (.int (xP i)))
 |_=>none
noncomputable def tJa:D->Option RV
 |.l ds=>match C5 ds with
  |some is=>@ite _ (is.length<=1000) (cl _) (some (.sh (.int (PyProof.Rows.firstMet (λi=>is.getD i 0) is.length).length))) none
  |none=>none
 |_=>none
noncomputable def uz:D->aA->Option D
 |.ins _ ns ds,f=>(ns.zip ds).lookup f
 |_,_=>none
noncomputable def yHa(c:aA)(ns:List aA)(m:aA)(tb:List (aA×String)):Option String:=if ns.contains m then none else tb.lookup c
noncomputable def aAh(t:Bool)(r:zA RV):zA RV :=
 match t with
 |false=>r
 |true=>r.bind λv U=>(AK v.d).map λb=>(.ok (.sh (.bl b)),U)
noncomputable def hd(e:E)(r:zA RV)(U:Env):zA Hd :=
 match e with
 |.v i=>if((U[i]?).bind Sl.get).isSome then some (.ok (.slot i),U) else none
 |_=>r.bind λv U'=>some (.ok (.val v.low),U')
noncomputable def J5:E->Bool
 |.zC=>true
 |_=>false
noncomputable def aAL(e:E)(r:zA RV)(U:Env):zA (Option D) :=
 if J5 e then some (.ok none,U) else r.bind λv U'=>some (.ok (some v.d),U')
noncomputable def ZS(op:yN)(x:Hd)(d:D):Bool :=
 match op,d with
 |.Mult,.l _=>match x with
  |.val (.ow _)=>true
  |_=>false
 |_,_=>true
noncomputable def CF(U:Env)(i:Nat):Bool :=
 match U[i]? with
 |some (.ow (.l _) _ _)=>true
 |_=>false
noncomputable def pCa(U:Env)(i:Nat):Bool :=
 match U[i]? with
 |_=>false
noncomputable def mCa(U:Env)(i:Nat):Bool :=
 match U[i]? with
 |_=>false
noncomputable def aAJ(i:Nat)(U:Env):zA RV :=
 match U[i]? with
 |some (.sh d)=>some (.ok (.sh d),U)
 |some (.ow d false false)=>some (.ok (.sh d),U.set i (.sh d))
 |_=>none
noncomputable def done(o:Option RV)(U:Env):zA RV:=o.map λv=>(.ok v,U)
noncomputable def store(i:Nat)(v:RV)(U:Env):Option Env :=
 match U[i]? with
 |none=>none
 |some (.ow _ true _)=>none
 |some (.ow _ _ true)=>none
 |some _=>match v with
  |.sh d=>some (U.set i (.sh d))
  |.ow d=>some (U.set i (.ow d false false))
  |.od _=>none
noncomputable def aAo:List Nat->List D->Env->Option Env
 |[],[],U=>some U
 |i::is,d::ds,U=>(store i (.sh d) U).bind (aAo is ds)
 |_,_,_=>none
noncomputable def WA(one:Bool)(tg:List Nat)(d:D)(U:Env):Option Env :=
 match one,tg,d with
 |true,[i],d=>store i (.sh d) U
 |false,is,.t ds=>aAo is ds U
 |_,_,_=>none
abbrev Calls:=String->List Sl->zA RV
noncomputable def aAj(bA:List Bool)(hs:List Hd)(U:Env):Option (List Sl×Env) :=
 match bA,hs with
 |[],[]=>some ([],U)
 |p::ps,.val (.sh d)::r=>(aAj ps r U).map λ(as,U')=>(.sh d::as,U')
 |p::ps,.val (.ow d)::r=>(aAj ps r U).map λ(as,U')=>((if p then .ow d true false else .sh d)::as,U')
 |p::ps,.slot i::r =>
  match U[i]? with
  |some (.sh d)=>(aAj ps r U).map λ(as,U')=>(.sh d::as,U')
  |some (.ow d pin lk) =>
   match p with
   |true=>(aAj ps r (U.set i .un)).map λ(as,U')=>(.ow d true lk::as,U')
   |false=>if pin||lk then none else(aAj ps r (U.set i (.sh d))).map λ(as,U')=>(.sh d::as,U')
  |_=>none
 |_,_=>none
noncomputable def aAg(bA:List Bool)(hs:List Hd)(as:List Sl)(U0 U:Env):Option Env :=
 match bA,hs,as with
 |[],[],[]=>some U
 |true::ps,.slot i::r,a::as =>
  match U0[i]?,a with
  |some (.ow _ pin lk),.ow d _ _=>aAg ps r as U0 (U.set i (.ow d pin lk))
  |some (.ow _ _ _),_=>none
  |_,_=>aAg ps r as U0 U
 |_::ps,_::r,_::as=>aAg ps r as U0 U
 |_,_,_=>none
noncomputable def TF(bA:List Bool)(f:List Sl->zA RV)(hs:List Hd)(U:Env):zA RV :=
 match aAj bA hs U with
 |none=>none
 |some (as,U1) =>
  match f as with
  |none=>none
  |some (o,QA)=>(aAg bA hs QA U U1).map λU'=>(o,U')
noncomputable def RC(lo:Int)(ds:List D):List D:=(jC ds.length).map λ(j:Nat)=>.t [.int (lo+(j:Int)),ds.getD j .oA]
noncomputable def yK(x:aA):List D:=x.cps.toList.map λc=>.str ⟨#[c]⟩
noncomputable def BJ:List D->Option (List aA)
 |[]=>some []
 |.str x::r=>(BJ r).map (x :: ·)
 |_=>none
noncomputable def f6(s:aA):D->Option RV
 |.l ds=>match BJ ds with
  |some ts=>@ite _ (uP s ts=true/\nC (YB s ts)=true) (cl _) (some (.sh (.str (YB s ts)))) none
  |none=>none
 |_=>none
noncomputable def oH(s:aA)(U:Env)(o:Option Sl):zA RV:=match o with
 |some (.sh (.str x))=>@ite _ ((s.length==0)=false/\x.length<=1000000/\(UA x s).all nC=true) (cl _) (some (.ok (.ow (.l ((UA x s).map D.str))),U)) none
 |_=>none
noncomputable def k8(s:aA)(d:D)(U:Env):zA RV:=match d with
 |.str x=>@ite _ ((s.length==0)=false/\x.length<=1000000/\(UA x s).all nC=true) (cl _) (some (.ok (.ow (.l ((UA x s).map D.str))),U)) none
 |_=>none
noncomputable def OT(s:aA)(U:Env)(o:Option Sl):zA RV:=match o with
 |some (.sh (.str x))=>some (.ok (.sh (.bl (lP x s))),U)
 |_=>none
noncomputable def aAa(k:wF)(hs:List Hd)(U:Env):Option (List D×Option Nat) :=
 match k,hs with
 |.yD,[a]=>match a.get U with
  |some (.int n)=>@ite _ (-1000000<=n/\n<=1000000) (cl _) (some ((jC n.toNat).map λ(j:Nat)=>.int (j:Int),none)) none
  |_=>none
 |.yD,[a,b]=>match a.get U,b.get U with
  |some (.int m),some (.int n)=>@ite _ ((-1000000<=m/\m<=1000000)/\(-1000000<=n/\n<=1000000)) (cl _) (some ((jC (n-m).toNat).map λ(j:Nat)=>.int (m+(j:Int)),none)) none
  |_,_=>none
 |.enum lo,[.slot i]=>match U[i]? with
  |some (.ow (.l ds) _ _)=>some (RC lo ds,some i)
  |some (.sh (.l ds))=>some (RC lo ds,none)
  |_=>none
 |.enum lo,[.val v]=>match v.d with
  |.l ds=>some (RC lo ds,none)
  |_=>none
 |.of,[.slot i]=>match U[i]? with
  |some (.ow (.l ds) _ _)=>some (ds,some i)
  |some (.sh (.l ds))=>some (ds,none)
  |some (.sh (.t ds))=>some (ds,none)
  |_=>none
 |.of,[.val v]=>match v.d with
  |.l ds=>some (ds,none)
  |.t ds=>some (ds,none)
  |_=>none
 |.sig,[a]=>match a.get U with
  |some (.str x)=>@ite _ (x.cps.all (·<128)=true/\nC x=true) (cl _) (some (yK x,none)) none
  |_=>none
 |_,_=>none
noncomputable def aAb(o:Option Nat)(U:Env):Env :=
 match o with
 |none=>U
 |some i=>U.set i .un
noncomputable def aAk(o:Option Nat)(U0 U:Env):Option Env :=
 match o with
 |none=>some U
 |some i=>match U[i]?,U0[i]? with
  |some .un,some sl=>some (U.set i sl)
  |_,_=>none
noncomputable def QD(tests:Env->zA RV)(LA:Env->zA RV)(bind:D->Env->Option Env):List D->List D->Env->zA (List D)
 |[],cB,U=>some (.ok cB,U)
 |d::ds,cB,U=>match bind d U with
  |none=>none
  |some U1=>(tests U1).bind λc U2=>match c with
   |.sh (.bl true)=>(LA U2).bind λv U3=>QD tests LA bind ds (cB++[v.d]) U3
   |.sh (.bl false)=>QD tests LA bind ds cB U2
   |_=>none
noncomputable def back:List Sl->Env->List Sl
 |.ow _ _ _::as,b::bs=>b::back as bs
 |a::as,_::bs=>a::back as bs
 |_,_=>[]
noncomputable def uK:Sl->Bool
 |.ow _ p _=>p
 |.sh _=>true
 |_=>false
noncomputable def RN(tests:Env->zA RV)(LA:Env->zA RV)(bind:D->Env->Option Env)(ds:List D)(nl:Nat)(as:List Sl):zA RV :=
 if as.all uK=true then(QD tests LA bind ds [] (as++wC nl .un)).bind λcB Ui =>
  if pB cB.length then some (.ok (.ow (.l cB)),back as Ui) else none
 else none
noncomputable def aAB(o:Option Nat)(U1:Env)(v:RV)(U2:Env):zA RV:=(aAk o U1 U2).map λU'=>(.ok v,U')
structure Fn where
 bA:List Bool
 nl:Nat
 body:List S
 rs:Bool
abbrev YA:=String->List Bool
mutual
noncomputable def ev(P:YA)(C:Calls)(t:Bool):E->Env->zA RV
 |.nA,_=>none
 |.zC,_=>none
 |.v i,U=>match t with
  |true=>aAh true (((U[i]?).bind Sl.get).map λd=>(.ok (.sh d),U))
  |false=>aAJ i U
 |.c d,U=>aAh t (some (.ok (.sh d),U))
 |.t es,U=>aAh t ((ZD P C es U).bind λds U'=>if pB ds.length then some (.ok (.sh (.t ds)),U') else none)
 |.l es,U=>aAh t ((ZD P C es U).bind λds U'=>if pB ds.length then some (.ok (.ow (.l ds)),U') else none)
 |.BA op a b,U=>aAh t ((hd a (ev P C false a U) U).bind λx U1=>(hd b (ev P C false b U1) U1).bind λy U2 =>
   done ((x.get U2).bind λd=>(y.get U2).bind λe=>if ZS op x d then pC op d e else none) U2)
 |.neg a,U=>aAh t ((ev P C false a U).bind λv U1=>match v.d with
  |.int i=>some (.ok (.sh (.int (-i))),U1)
  |_=>none)
 |.not a,U=>match t with
  |true=>(ev P C true a U).bind λv U1=>match v with
   |.sh (.bl b)=>some (.ok (.sh (.bl (!b))),U1)
   |_=>none
  |false=>(hd a (ev P C false a U) U).bind λx U1=>done ((x.get U1).bind λd=>(AK d).map λb=>.sh (.bl (!b))) U1
 |.IA op a b,U=>(hd a (ev P C false a U) U).bind λx U1=>(hd b (ev P C false b U1) U1).bind λy U2 =>
   done ((x.get U2).bind λd=>(y.get U2).bind λe=>(rC op d e).map λb=>.sh (.bl b)) U2
 |.HH op BC a b c,U=>(hd a (ev P C false a U) U).bind λx U1=>(hd b (ev P C false b U1) U1).bind λy U2 =>
   match (x.get U2).bind λd=>(y.get U2).bind λe=>rC op d e with
   |none=>none
   |some false=>some (.ok (.sh (.bl false)),U2)
   |some true=>(hd c (ev P C false c U2) U2).bind λz U3 =>
    done ((y.get U3).bind λd=>(z.get U3).bind λe=>(rC BC d e).map λb=>.sh (.bl b)) U3
 |.and a b,U=>(ev P C t a U).bind λv U1=>match v with
  |.sh (.bl true)=>ev P C t b U1
  |.sh (.bl false)=>some (.ok (.sh (.bl false)),U1)
  |_=>none
 |.or a b,U=>(ev P C t a U).bind λv U1=>match v with
  |.sh (.bl true)=>some (.ok (.sh (.bl true)),U1)
  |.sh (.bl false)=>ev P C t b U1
  |_=>none
 |.ite c a b,U=>(ev P C true c U).bind λv U1=>match v with
  |.sh (.bl true)=>ev P C t a U1
  |.sh (.bl false)=>ev P C t b U1
  |_=>none
 |.ix a i,U=>aAh t ((hd a (ev P C false a U) U).bind λx U1=>(ev P C false i U1).bind λk U2 =>
   done ((x.get U2).bind λd=>(CL d k.d).map .sh) U2)
 |.sl a lo hi,U=>aAh t ((hd a (ev P C false a U) U).bind λx U1 =>
   (aAL lo (ev P C false lo U1) U1).bind λl U2=>(aAL hi (ev P C false hi U2) U2).bind λh U3 =>
   done ((x.get U3).bind λd=>(ZM l).bind λl=>(ZM h).bind λh=>bN d l h) U3)
 |.rev a,U=>aAh t ((hd a (ev P C false a U) U).bind λx U1=>done ((x.get U1).bind gTa) U1)
 |.call f es,U=>aAh t ((nD P C es U).bind λhs U1=>TF (P f) (C f) hs U1)
 |.bif f es,U=>aAh t ((nD P C es U).bind λhs U1=>done ((getAll hs U1).bind (pD f)) U1)
 |.xG a ts,U=>aAh t ((hd a (ev P C false a U) U).bind λx U1 =>
   done ((x.get U1).bind λd=>(NS ts d).map λb=>.sh (.bl b)) U1)
 |.jO a sn,U=>aAh t ((hd a (ev P C false a U) U).bind λx U1=>done ((x.get U1).bind (N5 sn)) U1)
 |.app i a,U=>aAh t (if CF U i then(ev P C false a U).bind λv U1=>match U1[i]? with
  |some (.ow (.l ds) p false)=>if pB (ds.length+1) then some (.ok (.sh .oA),U1.set i (.ow (.l (ds++[v.d])) p false)) else none
  |_=>none
  else none)
 |.xY a s,U=>aAh t ((ev P C false a U).bind λv U1=>k8 s v.d U1)
 |.AV ks es,U=>aAh t ((ZD P C es U).bind λds U'=>if ks.length=ds.length/\ks.Nodup then some (.ok (.ow (.sC ks ds)),U') else none)
 |.ext i a,U=>aAh t (if CF U i then(ev P C false a U).bind λv U1=>match U1[i]?,v with
  |some (.ow (.l ds) p false),.ow (.l es)=>if pB (ds.length+es.length) then some (.ok (.sh .oA),U1.set i (.ow (.l (ds++es)) p false)) else none
  |_,_=>none
  else none)
 |.zF i,U=>aAh t (aAJ i U)
 |.yM a,U=>aAh t ((hd a (ev P C false a U) U).bind λx U1=>done ((x.get U1).bind F0) U1)
 |.bIa _,_=>none
 |.bF s a,U=>aAh t ((hd a (ev P C false a U) U).bind λx U1=>done ((x.get U1).bind (f6 s)) U1)
 |.nH i s,U=>aAh t (oH s U U[i]?)
 |.NT i s,U=>aAh t (OT s U U[i]?)
 |.sJa a,U=>aAh t ((hd a (ev P C false a U) U).bind λx U1=>done ((x.get U1).bind tJa) U1)
 |.fld a f,U=>aAh t ((hd a (ev P C false a U) U).bind λx U1=>done ((x.get U1).bind λd=>(uz d f).map .sh) U1)
 |.make c ns es,U=>aAh t ((ZD P C es U).bind λds U1=>if ds.length=ns.length then some (.ok (.sh (.ins c ns ds)),U1) else none)
 |.xHa i m tb es,U=>aAh t (match U[i]? with
  |some (.sh (.ins c ns ds))=>(match yHa c ns m tb with
   |some f=>(nD P C es U).bind λhs U1=>TF (P f) (C f) (.val (.sh (.ins c ns ds))::hs) U1
   |none=>none)
  |_=>none)
 |.comp LA tg k gA cond imp nl,U=>aAh t ((nD P C gA U).bind λhs U1 =>
   match aAa k hs U1 with
   |none=>none
   |some (ds,o)=>(TF (imp.map λ_=>true) (RN (fD P C cond) (ev P C false LA) (WA (tg.length==1) tg) ds nl) (imp.map Hd.slot) (aAb o U1)).bind (aAB o U1))
noncomputable def ZD(P:YA)(C:Calls):List E->Env->zA (List D)
 |[],U=>some (.ok [],U)
 |e::es,U=>(ev P C false e U).bind λv U1=>(ZD P C es U1).bind λds U2=>some (.ok (v.d::ds),U2)
noncomputable def nD(P:YA)(C:Calls):List E->Env->zA (List Hd)
 |[],U=>some (.ok [],U)
 |e::es,U=>(hd e (ev P C false e U) U).bind λv U1=>(nD P C es U1).bind λds U2=>some (.ok (v::ds),U2)
noncomputable def fD(P:YA)(C:Calls):List E->Env->zA RV
 |[],U=>some (.ok (.sh (.bl true)),U)
 |e::es,U=>(ev P C true e U).bind λv U1=>match v with
  |.sh (.bl true)=>fD P C es U1
  |.sh (.bl false)=>some (.ok (.sh (.bl false)),U1)
  |_=>none
end
mutual
noncomputable def NH(P:YA)(C:Calls):E->Env->Option (Exc×Env)
 |.call f es,U=>match nD P C es U with
  |some (.ok hs,U1)=>match TF (P f) (C f) hs U1 with
   |some (.ex x,U')=>some (x,U')
   |_=>none
  |_=>jL P C es U
 |_,_=>none
noncomputable def jL(P:YA)(C:Calls):List E->Env->Option (Exc×Env)
 |[],_=>none
 |e::es,U=>match hd e (ev P C false e U) U with
  |some (.ok _,U1)=>jL P C es U1
  |_=>NH P C e U
end
inductive Fl where
 |nx | bk | ct | rt (v:RV) | ex (e:Exc)
abbrev Run:=Option (Fl×Env)
noncomputable def zA.uC(r:zA O)(f:O->Env->Run):Run :=
 match r with
 |none=>none
 |some (.ex e,U)=>some (.ex e,U)
 |some (.ok a,U)=>f a U
noncomputable def Run.next(r:Run)(f:Env->Run):Run :=
 match r with
 |some (.nx,U)=>f U
 |r=>r
noncomputable def Run.restore(r:Run)(o:Option Nat)(U0:Env):Run :=
 match r with
 |none=>none
 |some (fl,U)=>(aAk o U0 U).map λU'=>(fl,U')
noncomputable def YF(o:Option Env):Run:=o.map λU=>(.nx,U)
noncomputable def KC(bind:D->Env->Option Env)(body:Env->Run):List D->Env->Run
 |[],U=>some (.nx,U)
 |d::ds,U=>match bind d U with
  |none=>none
  |some U1=>match body U1 with
   |some (.nx,U2)=>KC bind body ds U2
   |some (.ct,U2)=>KC bind body ds U2
   |some (.bk,U2)=>some (.nx,U2)
   |r=>r
noncomputable def V6(test:Env->zA RV)(body:Env->Run):Nat->Env->Run
 | 0,_=>none
 |n+1,U=>(test U).uC λv U1=>match v with
  |.sh (.bl true)=>match body U1 with
   |some (.nx,U2)=>V6 test body n U2
   |some (.ct,U2)=>V6 test body n U2
   |some (.bk,U2)=>some (.nx,U2)
   |r=>r
  |.sh (.bl false)=>some (.nx,U1)
  |_=>none
noncomputable def gH(bind:D->Env->Option Env)(body:Env->Run)(bx:Env->Option (Exc×Env)):List D->Env->Option (Exc×Env)
 |[],_=>none
 |d::ds,U=>match bind d U with
  |none=>none
  |some U1=>match body U1 with
   |some (.nx,U2)=>gH bind body bx ds U2
   |some (.ct,U2)=>gH bind body bx ds U2
   |_=>bx U1
noncomputable def wK(o:Option Nat)(U0:Env):Option (Exc×Env)->Option (Exc×Env)
 |some (x,U)=>(aAk o U0 U).map λU'=>(x,U')
 |none=>none
noncomputable def eUa(i:Nat)(U:Env)(o:Option Sl)(k:Option L2.CP)(v:RV):Run :=
 match o,k with
 |_,_=>none
noncomputable def qY(i:Nat)(k:aA)(v:RV)(U:Env):Run:=match U[i]? with
 |some (.ow (.sC ks ds) p false)=>if pB (ks.length+1) && !(ks.any λy=>decide (y=k)) then some (.nx,U.set i (.ow (.sC (ks++[k]) (ds++[v.d])) p false)) else none
 |_=>none
noncomputable def eN(i:Nat)(d:D)(r:zA RV):Option Env:=match r with
 |some (.ok j,U2)=>(match U2[i]?,j.d with
  |some (.ow (.l ds) p false),.int n=>(L2.iD ds.length n).map λm=>U2.set i (.ow (.l (ds.set m d)) p false)
  |_,_=>none)
 |_=>none
noncomputable def J8(i:Nat)(a b:Env->zA RV)(d:D)(U:Env):Run:=match d with
 |.t [d1,d2]=>if CF U i then YF ((eN i d1 (a U)).bind λU2=>if CF U2 i then eN i d2 (b U2) else none) else none
 |_=>none
noncomputable def Vd(P:YA)(C:Calls)(LA:Env->zA RV)(tg:List Nat)(k:wF)(gA cond:List E)(imp:List Nat)(nl:Nat)(U:Env):zA RV :=
 (nD P C gA U).bind λhs U1 =>
   match aAa k hs U1 with
   |none=>none
   |some (ds,o)=>(TF (imp.map λ_=>true) (RN (fD P C cond) LA (WA (tg.length==1) tg) ds nl) (imp.map Hd.slot) (aAb o U1)).bind (aAB o U1)
noncomputable def iJa(U:Env):Bool:=U.all λs=>match s with | .ow _ _ _=>false | _=>true
noncomputable def Iz(n:Nat)(U:Env):Env :=
 match U[n]? with
 |some (.ow d false false)=>U.set n (.sh d)
 |_=>U
noncomputable def zF:Nat->Env->Env
 | 0,U=>U
 |n+1,U=>Iz n (zF n U)
noncomputable def yTa(i j:Nat)(U:Env)(e c:Env->zA RV):Run :=
 match e (zF U.length U) with
 |some (.ok (.od (.l ds)),U1)=>@ite _ (U1=zF U.length U/\iJa U1=true/\ds.length<=1000/\i<U1.length/\j<U1.length/\c (U1.set i (.sh (.l ds)))=some (.ok (.sh (.bl false)),U1.set i (.sh (.l ds)))) (cl _) (some (.nx,(U1.set i .mv).set j .mv)) none
 |_=>none
noncomputable def QN(cs:List aA)(i j:Nat)(o:Option (Exc×Env)):Run :=
 match o with
 |none=>none
 |some (x,U1)=>if cs.contains x.cls/\i≠j then(store i (.sh (.uD x.cls x.num)) U1).bind λU2=>(store j (.sh (.uD x.cls x.num)) U2).map λU3=>(.nx,U3.set i .mv) else none
noncomputable def ZR(cs:List aA)(o:Option (Exc×Env)):Option (Exc×Env) :=
 match o with
 |none=>none
 |some (x,U1)=>if cs.contains x.cls/\x.cls≠("NoText":aA) then some (⟨"NoText",none⟩,U1) else none
mutual
noncomputable def ex(P:YA)(C:Calls)(W:Nat):S->Env->Run
 |.nA,_=>none
 |.pass,U=>some (.nx,U)
 |.brk,U=>some (.bk,U)
 |.cnt,U=>some (.ct,U)
 |.kB i e,U=>(ev P C false e U).uC λv U1=>YF (store i v U1)
 |.wM is e,U=>(ev P C false e U).uC λv U1=>YF (WA false is v.d U1)
 |.set i k e,U=>(ev P C false e U).uC λv U1=>if CF U1 i then(ev P C false k U1).uC λj U2=>match U2[i]?,j.d with
  |some (.ow (.l ds) p false),.int n=>YF ((L2.iD ds.length n).map λm=>U2.set i (.ow (.l (ds.set m v.d)) p false))
  |_,_=>none
  else none
 |.DO i k e,U=>(ev P C false e U).uC λv U1=>qY i k v U1
 |.eR i a b e,U=>(ev P C false e U).uC λv U1=>J8 i (ev P C false a) (ev P C false b) v.d U1
 |.expr e,U=>(ev P C false e U).uC λ_ U1=>some (.nx,U1)
 |.ret e,U=>match e with
  |.v i=>match U[i]? with
   |some (.ow d false _)=>some (.rt (.ow d),U.set i .mv)
   |some (.sh d)=>some (.rt (.sh d),U)
   |_=>none
  |e=>(ev P C false e U).uC λv U1=>some (.rt v,U1)
 |.jY,U=>some (.rt (.sh .oA),U)
 |.wA c a b,U=>(ev P C true c U).uC λv U1=>match v with
  |.sh (.bl true)=>GA P C W a U1
  |.sh (.bl false)=>GA P C W b U1
  |_=>none
 |.for tg one k gA body,U=>(nD P C gA U).uC λhs U1 =>
  match aAa k hs U1 with
  |none=>none
  |some (ds,o)=>(KC (WA one tg) (GA P C W body) ds (aAb o U1)).restore o U1
 |.whl c body,U=>V6 (ev P C true c) (GA P C W body) W U
 |.YH _ _,_=>none
 |.CO _ _,_=>none
 |.Ak i j e c,U=>yTa i j U (ev P C false e) (ev P C true c)
 |.kR body cs i j,U=>match GA P C W body U with
  |some (.nx,U1)=>some (.nx,U1)
  |_=>QN cs i j (aD P C W body U)
 |.SO body _,U=>GA P C W body U
noncomputable def GA(P:YA)(C:Calls)(W:Nat):List S->Env->Run
 |[],U=>some (.nx,U)
 |s::r,U=>(ex P C W s U).next (GA P C W r)
noncomputable def UC(P:YA)(C:Calls)(W:Nat):S->Env->Option (Exc×Env)
 |.kB _ e,U=>NH P C e U
 |.expr e,U=>NH P C e U
 |.ret e,U=>NH P C e U
 |.YH c es,U=>match ZD P C es U with
  |some (.ok _,U1)=>some (⟨c,none⟩,U1)
  |_=>none
 |.CO c es,U=>match ZD P C es U with
  |some (.ok [.int n],U1)=>some (⟨c,some n⟩,U1)
  |_=>none
 |.for tg one k gA body,U=>match nD P C gA U with
  |some (.ok hs,U1)=>(match aAa k hs U1 with
   |some (ds,o)=>wK o U1 (gH (WA one tg) (GA P C W body) (aD P C W body) ds (aAb o U1))
   |none=>none)
  |_=>none
 |.wA c a b,U=>match ev P C true c U with
  |some (.ok (.sh (.bl true)),U1)=>aD P C W a U1
  |some (.ok (.sh (.bl false)),U1)=>aD P C W b U1
  |_=>none
 |.SO body cs,U=>ZR cs (aD P C W body U)
 |_,_=>none
noncomputable def aD(P:YA)(C:Calls)(W:Nat):List S->Env->Option (Exc×Env)
 |[],_=>none
 |s::r,U=>match ex P C W s U with
  |some (.nx,U1)=>aD P C W r U1
  |_=>UC P C W s U
end
abbrev Tab:=String->Option Fn
noncomputable def Tab.bA(T:Tab):YA:=λf=>match T f with
 |some fn=>fn.bA
 |none=>[]
noncomputable def run(T:Tab)(W:Nat):Nat->Calls
 | 0=>λ_ _=>none
 |n+1=>λf as=>match T f with
  |none=>none
  |some fn=>if as.length=fn.bA.length/\as.all uK=true then
    match GA T.bA (run T W n) W fn.body (as++wC fn.nl .un) with
    |some (.nx,U)=>some (.ok (.sh .oA),back as U)
    |some (.rt v,U)=>some (.ok v,back as U)
    |_=>if fn.rs then match aD T.bA (run T W n) W fn.body (as++wC fn.nl .un) with
     |some (x,U)=>some (.ex x,back as U)
     |none=>none
     else none
   else none
end
end CI
namespace CI
open PySem PySem.Spec PyProof.Rows L2
abbrev St:=L2.St
abbrev Sm(G G':Hp):Prop:=fB G G'
def Sm.of(s:fB G G'):Sm G G':=s
theorem Sm.refl(G:Hp):Sm G G:=fB.refl G
theorem Sm.trans(a:Sm G G1)(b:Sm G1 G2):Sm G G2:=fB.trans a b
theorem Sm.seq{K:fA}(e:Sm G G')(h:CB K G a xs):CB K G' a xs:=fB.seq e h
def Sm.app(s:Sm G G')(n:∀x,o≠.own x)(h:G b=some o):G' b=some o:=s b o h
structure AZ(K:fA)(C:eA)(ns:List aA):Prop where
 cl:qb K C
 no:∀f∈ns,Jq K C f
noncomputable def mF(ks:List aA)(vs:List V):List (Key×V):=(ks.zip vs).map λp=>(Sum.inr p.1,p.2)
def WK(K:fA)(G:Hp)(C:eA)(p:Option eA)(n:Option Int):Prop:=True
def WK.mono{K:fA}(s:Sm G G'){n:Option Int}(h:WK K G C p n):WK K G' C p n:=trivial
def rOa{K:fA}(e:G dx=some (.xd [(("number":aA),.int n)]))(S:RK K C "number")(h:eP K C=true):WK K G C (some dx) (some n):=trivial
def sM(K:fA)(G:Hp)(C:eA)(p:PX)(x:Exc):Prop:=WK K G C p.1 x.num/\(x.cls≠("NoText":aA)->p.2=true)
def sM.pay{K:fA}(h:sM K G C p x):WK K G C p.1 x.num:=h.1
def gj{K:fA}(h:WK K G C q x.num):sM K G C (q,true) x:=⟨h,λ_=>rfl⟩
mutual
def kA(K:fA)(G:Hp):D->V->Prop
 |.oA,v=>v=.oA
 |.bl b,v=>v=.bl b
 |.int i,v=>v=.int i
 |.str x,v=>v=.str x/\nC x=true
 |.t ds,v=>∃a vs,v=.ref a/\FC K G a vs/\rA K G ds vs
 |.l ds,v=>∃a vs,v=.ref a/\CB K G a vs/\rA K G ds vs
 |.ins c ns ds,v=>∃a C dx vs,v=.ref a/\JB K oB c=some (some (.ref C))/\G a=some (.ins C dx (ns.zip vs))/\rA K G ds vs/\AZ K C ns/\ns.length=vs.length
 |.uD c n,v=>∃a C p,v=.ref a/\JB K oB c=some (some (.ref C))/\DE K C/\G a=some (.ext (CH a C p))/\WK K G C p n
 |.sC ks ds,v=>∃a vs,v=.ref a/\G a=some (.dK (mF ks vs))/\rA K G ds vs/\ks.length=ds.length
def rA(K:fA)(G:Hp):List D->List V->Prop
 |[],vs=>vs=[]
 |d::ds,vs=>∃v r,vs=v::r/\kA K G d v/\rA K G ds r
end
def pH{K:fA}(s:Sm G G')(h:FC K G a vs):FC K G' a vs:=by
 rcases h with (h | ⟨o,h⟩) | h
 ·exact .inl (.inl (s.app (λ_ z=>nomatch z) h))
 ·exact .inl (.inr ⟨o,s.app (λ_ z=>nomatch z) h⟩)
 ·exact .inr h
mutual
theorem kA.mono{K:fA}(s:Sm G G'):∀(d:D) {v:V},kA K G d v->kA K G' d v
 |.oA,_,h=>by simpa[kA] using h
 |.bl _,_,h=>by simpa[kA] using h
 |.int _,_,h=>by simpa[kA] using h
 |.str _,_,h=>by simpa[kA] using h
 |.t ds,_,h=>by
  simp only[kA] at h ⊢;obtain⟨a,vs,e,h1,h2⟩:=h;exact⟨a,vs,e,pH s h1,rA.mono s ds h2⟩
 |.l ds,_,h=>by
  simp only[kA] at h ⊢;obtain⟨a,vs,e,h1,h2⟩:=h;exact⟨a,vs,e,s.seq h1,rA.mono s ds h2⟩
 |.ins c ns ds,_,h=>by
  simp only[kA] at h ⊢;obtain⟨a,C,dx,vs,e,h1,h2,h3,h4,h5⟩:=h;exact⟨a,C,dx,vs,e,h1,s.app (λ_ z=>nomatch z) h2,rA.mono s ds h3,h4,h5⟩
 |.uD c n,_,h=>by
  simp only[kA] at h ⊢;obtain⟨a,C,p,e,h1,h2,h3,h4⟩:=h;exact⟨a,C,p,e,h1,h2,s.app (λ_ z=>nomatch z) h3,h4.mono s⟩
 |.sC ks ds,_,h=>by(simp only[kA] at h ⊢;obtain⟨a,vs,e,h1,h2,h3⟩:=h;exact⟨a,vs,e,s.app (λ_ z=>nomatch z) h1,rA.mono s ds h2,h3⟩)
theorem rA.mono{K:fA}(s:Sm G G'):∀(ds:List D) {vs:List V},rA K G ds vs->rA K G' ds vs
 |[],_,h=>by simpa[rA] using h
 |d::ds,_,h=>by(simp only[rA] at h ⊢;obtain⟨v,r,e,h1,h2⟩:=h;exact⟨v,r,e,kA.mono s d h1,rA.mono s ds h2⟩)
end
theorem rA.len{K:fA}:∀{ds:List D} {vs:List V},rA K G ds vs->vs.length=ds.length
 |[],_,h=>by simp only[rA] at h;subst h;rfl
 |d::ds,_,h=>by(simp only[rA] at h;obtain⟨v,r,rfl,_,h2⟩:=h;simp[rA.len h2])
def rA.nil{K:fA}:rA K G [] []:=by simp[rA]
def rA.cons{K:fA}(h:kA K G d v)(t:rA K G ds vs):rA K G (d::ds) (v::vs):=by
 simp only[rA];exact⟨v,vs,rfl,h,t⟩
theorem rA.app{K:fA}:∀{ds es:List D} {vs ws:List V},rA K G ds vs->rA K G es ws->rA K G (ds++es) (vs++ws)
 |[],_,_,_,h,h'=>by simp only[rA] at h;subst h;exact h'
 |d::ds,_,_,_,h,h'=>by(simp only[rA] at h;obtain⟨v,r,rfl,h1,h2⟩:=h;exact rA.cons h1 (rA.app h2 h'))
theorem rA.get{K:fA}:∀{ds:List D} {vs:List V} {i:Nat} {d:D},rA K G ds vs->ds[i]?=some d->∃v,vs[i]?=some v/\kA K G d v
 |[],_,_,_,_,e=>by simp at e
 |d::ds,_,0,_,h,e=>by
  simp only[rA] at h;obtain⟨v,r,rfl,h1,h2⟩:=h;simp at e;subst e;exact⟨v,rfl,h1⟩
 |d::ds,_,i+1,_,h,e=>by
  simp only[rA] at h;obtain⟨v,r,rfl,h1,h2⟩:=h
  have:=rA.get h2 (by simpa using e)
  simpa using this
theorem rA.set{K:fA}(hv:kA K G d v):∀{ds:List D} {vs:List V} (i:Nat),rA K G ds vs->rA K G (ds.set i d) (vs.set i v)
 |[],_,_,h=>by simp only[rA] at h;subst h;simp[rA]
 |e::ds,_,0,h=>by
  simp only[rA] at h;obtain⟨u,r,rfl,h1,h2⟩:=h;exact rA.cons hv h2
 |e::ds,_,i+1,h=>by(simp only[rA] at h;obtain⟨u,r,rfl,h1,h2⟩:=h;exact rA.cons h1 (rA.set hv i h2))
theorem rA.take{K:fA}:∀{ds:List D} {vs:List V} (n:Nat),rA K G ds vs->rA K G (ds.take n) (vs.take n)
 |_,_,0,_=>by simp[rA]
 |[],_,_+1,h=>by simp only[rA] at h;subst h;simp[rA]
 |e::ds,_,n+1,h=>by(simp only[rA] at h;obtain⟨u,r,rfl,h1,h2⟩:=h;exact rA.cons h1 (rA.take n h2))
theorem rA.drop{K:fA}:∀{ds:List D} {vs:List V} (n:Nat),rA K G ds vs->rA K G (ds.drop n) (vs.drop n)
 |_,_,0,h=>h
 |[],_,_+1,h=>by simp only[rA] at h;subst h;simp[rA]
 |e::ds,_,n+1,h=>by(simp only[rA] at h;obtain⟨u,r,rfl,h1,h2⟩:=h;exact rA.drop n h2)
def GG(K:fA)(H G:Hp)(a:eA):D->Prop
 |.l ds=>∃vs,H a=some (.l vs)/\rA K G ds vs
 |.sC ks ds=>∃vs,H a=some (.dK (mF ks vs))/\rA K G ds vs/\ks.length=ds.length
 |_=>False
def yA(U:Env)(Y:St)(a:eA):Prop:=∃(i:Nat) (d:D) (p l:Bool),U[i]?=some (.ow d p l)/\Y[i]?=some (some (.ref a))
structure CA(K:fA)(U:Env)(Y:St)(H G:Hp):Prop where
 len:U.length=Y.length
 sub:fB G H
 sh:∀(i:Nat) (d:D),U[i]?=some (.sh d)->∃v,Y[i]?=some (some v)/\kA K G d v
 ow:∀(i:Nat) (d:D) (p l:Bool),U[i]?=some (.ow d p l)->∃a,Y[i]?=some (some (.ref a))/\G a=none/\GG K H G a d
 inj:∀(i j:Nat) (d:D) (p l:Bool) (d':D) (p' l':Bool) (a:eA),U[i]?=some (.ow d p l)->U[j]?=some (.ow d' p' l')->Y[i]?=some (some (.ref a))->Y[j]?=some (some (.ref a))->i=j
structure Ext(own:eA->Prop)(H G H' G':Hp):Prop where
 gg:Sm G G'
 hh:∀a o,H a=some o->¬own a->H' a=some o
 hx:∀a,H' a=none->H a=none
 gn:∀a,H a≠none->G a=none->¬own a->G' a=none
theorem Ext.refl:Ext own H G H G:=⟨Sm.refl _,λ_ _ h _=>h,λ_ h=>h,λ_ _ h _=>h⟩
theorem Ext.trans(a:Ext own H G H1 G1)(w:∀x,kOa x->own x\/H x=none)(b:Ext kOa H1 G1 H2 G2):Ext own H G H2 G2:=by
 refine⟨a.gg.trans b.gg,λx o h n=>?_,λx h=>a.hx x (b.hx x h),λx h g n=>?_⟩
 ·refine b.hh x o (a.hh x o h n) λz=>?_
  rcases w x z with z | z
  ·exact n z
  ·rw[h] at z;cases z
 ·have h1:H1 x≠none:=λz=>h (a.hx x z)
  refine b.gn x h1 (a.gn x h g n) λz=>?_
  rcases w x z with z | z
  ·exact n z
  ·exact h z
def Ext.weaken(a:Ext own H G H1 G1)(w:∀x,own x->qF x):Ext qF H G H1 G1 :=
 ⟨a.gg,λx o h n=>a.hh x o h λz=>n (w x z),a.hx,λx h g n=>a.gn x h g λz=>n (w x z)⟩
def HN(H:Hp)(own new:eA->Prop)(vs:List V):Prop:=∀x∈vs,∃b ws,x=.ref b/\H b=some (.l ws)/\ws.length<=1000/\¬own b/\new b
def Rows(H:Hp)(own new:eA->Prop)(a:eA):Prop:=∃vs,H a=some (.l vs)/\HN H own (λb=>new b/\b≠a) vs
theorem HN.step(h:HN H own new vs)(e:∀b o,H b=some o->¬own b->H' b=some o)(w:∀b,qF b->own b\/H b=none):HN H' qF new vs:=λx hx=>by
 obtain⟨b,ws,h1,h2,h3,h4,h5⟩:=h x hx;refine⟨b,ws,h1,e b _ h2 h4,h3,λz=>?_,h5⟩;rcases w b z with z | z
 ·exact h4 z
 ·rw[h2] at z;cases z
theorem HN.new{own new new':eA->Prop}(h:HN H own new vs)(w:∀b,new b->new' b):HN H own new' vs:=λx hx=>let ⟨b,ws,h1,h2,h3,h4,h5⟩:=h x hx;⟨b,ws,h1,h2,h3,h4,w b h5⟩
def QC(K:fA)(H G:Hp)(own:eA->Prop)(new:eA->Prop):RV->V->Prop
 |.sh d,v=>kA K G d v
 |.ow d,v=>∃a,v=.ref a/\G a=none/\GG K H G a d/\¬own a/\new a
 |.od d,v=>∃a,v=.ref a/\G a=none/\GG K H G a d/\¬own a/\new a/\Rows H own new a
def mC(K:fA)(H G:Hp)(d:D)(v:V):Prop:=kA K G d v\/∃a,v=.ref a/\GG K H G a d
def vF(K:fA)(H G:Hp)(own:eA->Prop)(new:eA->Prop)(Y:St):Hd->V->Prop
 |.slot i,v=>Y[i]?=some (some v)
 |.val (.od _),_=>False
 |.val r,v=>QC K H G own new r v
section
variable{K:fA}{own qF new new':eA->Prop}
theorem GG.mono(h:GG K H G a d)(s:Sm G G')(e:∀o,H a=some o->H' a=some o):GG K H' G' a d:=by
 cases d with
 |l ds =>
  obtain⟨vs,h1,h2⟩:=h;exact⟨vs,e _ h1,rA.mono s _ h2⟩
 |sC ks ds=>obtain⟨vs,h1,h2,h3⟩:=h;exact⟨vs,e _ h1,rA.mono s ds h2,h3⟩
 |_=>exact h
def GG.put(h:GG K H G a d):∃o,H a=some o/\∀G',Sm G G'->G' a=some o->kA K G' d (.ref a):=by
 cases d with
 |l ds =>
  obtain⟨vs,h1,h2⟩:=h;exact⟨_,h1,λG' s e=>by simp only[kA];exact⟨a,vs,rfl,CB.of e,rA.mono s ds h2⟩⟩
 |sC ks ds=>obtain⟨vs,h1,h2,h3⟩:=h;exact⟨_,h1,λG' s e=>by simp only[kA];exact⟨a,vs,rfl,e,rA.mono s ds h2,h3⟩⟩
 |_=>exact h.elim
def GG.there(h:GG K H G a d):∃o,H a=some o:=let ⟨o,h,_⟩:=h.put;⟨o,h⟩
def CA.owned(r:CA K U Y H G)(o:yA U Y a):H a≠none/\G a=none:=by
 obtain⟨i,d,p,l,h1,h2⟩:=o;obtain⟨b,e,g,h⟩:=r.ow i d p l h1;rw[h2] at e;cases e;obtain⟨vs,h⟩:=h.there;exact⟨by rw[h];simp,g⟩
def QC.wait(h:QC K H G own new v x)(e:Ext own H G H' G')(w:∀a,qF a->own a\/H a=none):QC K H' G' qF new v x:=by
 cases v with
 |sh d=>exact kA.mono e.gg d h
 |ow d =>
  obtain⟨a,rfl,g,o,n,m⟩:=h;obtain⟨vs,hv⟩:=o.there;have ne:H a≠none:=by rw[hv];simp
  refine⟨a,rfl,e.gn a ne g n,o.mono e.gg λo' h'=>e.hh a o' h' n,λz=>?_,m⟩;rcases w a z with z | z
  ·exact n z
  ·exact ne z
 |od d =>
  obtain⟨a,rfl,g,o,n,m,vs,hv,hr⟩:=h;have ne:H a≠none:=by rw[hv];simp
  refine⟨a,rfl,e.gn a ne g n,o.mono e.gg λo' h'=>e.hh a o' h' n,λz=>?_,m,vs,e.hh a _ hv n,hr.step e.hh w⟩;rcases w a z with z | z
  ·exact n z
  ·exact ne z
theorem vF.wait(h:vF K H G own new Y v x)(e:Ext own H G H' G')(w:∀a,qF a->own a\/H a=none):vF K H' G' qF new Y v x:=by
 cases v with
 |slot i=>exact h
 |val r=>cases r with
  |od d=>exact h.elim
  |sh d=>exact kA.mono e.gg d h
  |ow d=>exact QC.wait (v:=.ow d) h e w
def QC.WH(h:QC K H G own new v x)(w:∀a,new a->new' a):QC K H G own new' v x:=by
 cases v with
 |sh d=>exact h
 |ow d =>
  obtain⟨a,rfl,g,o,n,m⟩:=h;exact⟨a,rfl,g,o,n,w a m⟩
 |od d =>
  obtain⟨a,rfl,g,o,n,m,vs,hv,hr⟩:=h;exact⟨a,rfl,g,o,n,w a m,vs,hv,hr.new λb z=>⟨w b z.1,z.2⟩⟩
theorem QC.low(h:QC K H G own new v x):QC K H G own new v.low x:=by
 cases v with
 |sh d=>exact h
 |ow d=>exact h
 |od d =>
  obtain⟨a,rfl,g,o,n,m,_⟩:=h;exact⟨a,rfl,g,o,n,m⟩
def vF.of(h:QC K H G own new v x):vF K H G own new Y (.val v.low) x:=by
 have:=h.low
 cases v<;>exact this
theorem vF.WH(h:vF K H G own new Y v x)(w:∀a,new a->new' a):vF K H G own new' Y v x:=by
 cases v with
 |slot i=>exact h
 |val r=>cases r with
  |od d=>exact h.elim
  |sh d=>exact h
  |ow d=>exact QC.WH (v:=.ow d) h w
def QC.BO(h:QC K H G own new v x):mC K H G v.d x:=by
 cases v with
 |sh d=>exact .inl h
 |ow d =>
  obtain⟨a,rfl,g,o,n,m⟩:=h;exact .inr ⟨a,rfl,o⟩
 |od d =>
  obtain⟨a,rfl,g,o,n,m,_⟩:=h;exact .inr ⟨a,rfl,o⟩
theorem CA.get(r:CA K U Y H G){i:Nat}(h:(U[i]?).bind Sl.get=some d)(hx:Y[i]?=some (some x)):mC K H G d x:=by
 cases e:U[i]? with
 |none=>rw[e] at h;cases h
 |some sl =>
  rw[e] at h
  cases sl with
  |un=>cases h
  |mv=>cases h
  |sh d' =>
   cases h;obtain⟨v,h1,h2⟩:=r.sh i _ e;rw[hx] at h1;cases h1;exact .inl h2
  |ow d' p l =>
   cases h;obtain⟨a,h1,_,h2⟩:=r.ow i _ p l e;rw[hx] at h1;cases h1;exact .inr ⟨a,rfl,h2⟩
def vF.read(h:vF K H G own new Y v x)(r:CA K U Y H G)(e:v.get U=some d):mC K H G d x:=by
 cases v with
 |slot i=>exact r.get e h
 |val u =>
  simp only[Hd.get,RB] at e;subst e
  cases u with
  |od d=>exact h.elim
  |sh d=>exact .inl h
  |ow d=>exact QC.BO (v:=.ow d) h
def CA.bound(r:CA K U Y H G){i:Nat}(h:((U[i]?).bind Sl.get).isSome=true):∃v,Y[i]?=some (some v):=by
 cases e:U[i]? with
 |none=>rw[e] at h;cases h
 |some sl =>
  rw[e] at h
  cases sl with
  |un=>cases h
  |mv=>cases h
  |sh d' =>
   obtain⟨v,h1,h2⟩:=r.sh i _ e;exact⟨v,h1⟩
  |ow d' p l =>
   obtain⟨a,h1,_,h2⟩:=r.ow i _ p l e;exact⟨_,h1⟩
theorem mC.l(s:fB G H)(h:mC K H G (.l ds) x):∃a vs,x=.ref a/\CB K H a vs/\rA K G ds vs:=by
 rcases h with h | ⟨a,rfl,h⟩
 ·simp only[kA] at h;obtain⟨a,vs,e,h1,h2⟩:=h;exact⟨a,vs,e,s.seq h1,h2⟩
 ·obtain⟨vs,h1,h2⟩:=h;exact⟨a,vs,rfl,CB.of h1,h2⟩
theorem mC.t{ds:List D}(s:fB G H)(h:mC K H G (.t ds) x):∃a vs,x=.ref a/\FC K H a vs/\rA K G ds vs:=by
 rcases h with h | ⟨a,rfl,h⟩
 ·simp only[kA] at h;obtain⟨a,vs,e,h1,h2⟩:=h;exact⟨a,vs,e,pH s h1,h2⟩
 ·exact h.elim
theorem mC.int(h:mC K H G (.int i) x):x=.int i:=by
 rcases h with h | ⟨a,rfl,h⟩
 ·simpa[kA] using h
 ·exact h.elim
theorem mC.bl(h:mC K H G (.bl i) x):x=.bl i:=by
 rcases h with h | ⟨a,rfl,h⟩
 ·simpa[kA] using h
 ·exact h.elim
theorem mC.str(h:mC K H G (.str i) x):x=.str i/\nC i=true:=by
 rcases h with h | ⟨a,rfl,h⟩
 ·simpa[kA] using h
 ·exact h.elim
theorem mC.oA(h:mC K H G .oA x):x=.oA:=by
 rcases h with h | ⟨a,rfl,h⟩
 ·simpa[kA] using h
 ·exact h.elim
def yT(h:kA K G (.bl i) x):x=.bl i:=by simpa[kA] using h
def fB.laid(h:H a=none):fB H (vA H a o):=λb u e=>by rw[iB (dF e h)];exact e
theorem Sm.laid(h:H a=none):Sm H (vA H a o):=Sm.of (fB.laid h)
def Sm.put(h:H a=none):Sm H (vA H a o):=Sm.laid h
def CA.qJ(r:CA K U Y H G)(h:H a=none):CA K U Y (vA H a o) (vA G a o):=by
 have hg:G a=none:=fB.free r.sub h;refine⟨r.len,λb u e=>?_,λi d e=>?_,λi d p l e=>?_,r.inj⟩
 ·by_cases hb:b=a
  ·subst hb;rw[fC] at e ⊢;exact e
  ·rw[iB hb] at e ⊢;exact r.sub b u e
 ·obtain⟨v,h1,h2⟩:=r.sh i d e;exact⟨v,h1,kA.mono (Sm.laid hg) d h2⟩
 ·obtain⟨b,h1,h2,h3⟩:=r.ow i d p l e;obtain⟨vs,hv⟩:=h3.there;have hb:b≠a:=dF hv h;refine⟨b,h1,by rw[iB hb];exact h2,h3.mono (Sm.laid hg) λo' h'=>by rw[iB hb];exact h'⟩
def Ext.qJ(s:fB G H)(h:H a=none):Ext own H G (vA H a o) (vA G a o):=by
 have hg:G a=none:=fB.free s h;refine⟨Sm.laid hg,λb u e _=>fB.laid h b u e,λb e=>?_,λb e g _=>?_⟩
 ·by_cases hb:b=a
  ·subst hb;exact h
  ·rwa[iB hb] at e
 ·by_cases hb:b=a
  ·subst hb;exact absurd h e
  ·rw[iB hb];exact g
def CA.EL(r:CA K U Y H G)(h:H a=none):CA K U Y (vA H a o) G:=by
 refine⟨r.len,r.sub.trans (fB.laid h),r.sh,λi d p l e=>?_,r.inj⟩;obtain⟨b,h1,h2,h3⟩:=r.ow i d p l e;obtain⟨vs,hv⟩:=h3.there;have hb:b≠a:=dF hv h;exact⟨b,h1,h2,h3.mono (Sm.refl _) λo' h'=>by rw[iB hb];exact h'⟩
def Ext.EL(h:H a=none):Ext own H G (vA H a o) G:=by
 refine⟨Sm.refl _,λb u e _=>fB.laid h b u e,λb e=>?_,λb e g _=>g⟩;by_cases hb:b=a
 ·subst hb;exact h
 ·rwa[iB hb] at e
def CA.B7(r:CA K U Y H G)(h:H a=none):¬yA U Y a:=λo=>(r.owned o).1 h
def fB.put(h:G a=none):fB G (vA G a o):=fB.laid h
def QC.share(h:QC K H G (yA U Y) new v x)(r:CA K U Y H G)(hn:∀a,new a->own a\/new' a) :
  ∃G',CA K U Y H G'/\fB G G'/\(∀a,G' a≠none->G a≠none\/new a)/\kA K G' v.d x:=by
 have main:∀d,QC K H G (yA U Y) new (.ow d) x->∃G',CA K U Y H G'/\fB G G'/\(∀a,G' a≠none->G a≠none\/new a)/\kA K G' d x:=by
  intro d h;obtain⟨a,rfl,g,o,n,m⟩:=h;obtain⟨ob,hv,hr⟩:=o.put;refine⟨vA G a ob,⟨r.len,λb u e=>?_,λi d e=>?_,λi d p l e=>?_,r.inj⟩,fB.put g,λb z=>?_, ?_⟩
  ·by_cases hb:b=a
   ·subst hb;rw[fC] at e;rw[hv];exact e
   ·rw[iB hb] at e;exact r.sub b u e
  ·obtain⟨v,h1,h2⟩:=r.sh i d e;exact⟨v,h1,kA.mono (Sm.put g) d h2⟩
  ·obtain⟨b,h1,h2,h3⟩:=r.ow i d p l e;have hb:b≠a:=λz=>by subst z;exact n ⟨i,d,p,l,e,h1⟩
   exact⟨b,h1,by rw[iB hb];exact h2,h3.mono (Sm.put g) λ_ z=>z⟩
  ·by_cases hb:b=a
   ·subst hb;exact .inr m
   ·rw[iB hb] at z;exact .inl z
  ·exact hr _ (Sm.put g) fC
 cases v with
 |sh d=>exact⟨G,r,fB.refl _,λa z=>.inl z,h⟩
 |ow d=>exact main d h
 |od d=>exact main d h.low
end
def MF:Option Sl->Option Sl->Prop
 |some (.ow _ p l),some (.ow _ p' l')=>p=p'/\l=l'
 |some (.ow _ p _),some (.sh _)=>p=false
 |some .un,some .un=>True
 |some .mv,some .mv=>True
 |some (.sh _),some (.sh _)=>True
 |none,none=>True
 |_,_=>False
def MF.refl(a:Option Sl):MF a a:=by
 cases a with
 |none=>trivial
 |some s=>cases s<;>first | trivial | exact⟨rfl,rfl⟩
theorem MF.trans(h:MF a b)(h':MF b c):MF a c:=by
 cases a with
 |none =>
  cases b with
  |none=>exact h'
  |some t=>cases t<;>exact h.elim
 |some s =>
  cases b with
  |none=>cases s<;>exact h.elim
  |some t =>
   cases c with
   |none=>cases t<;>exact h'.elim
   |some u=>cases s<;>cases t<;>first | exact h.elim | (cases u<;>first | exact h'.elim | trivial | exact⟨h.1.trans h'.1,h.2.trans h'.2⟩ | exact h.1.trans h' | exact h)
def MF.aj(h:MF a (some (.ow d p l))):∃d',a=some (.ow d' p l):=by
 cases a with
 |none=>exact h.elim
 |some s=>cases s<;>first | exact h.elim | (obtain⟨rfl,rfl⟩:=h;exact⟨_,rfl⟩)
def BE(U U':Env):Prop:=∀i:Nat,MF U[i]? U'[i]?
theorem BE.refl(U:Env):BE U U:=λ_=>MF.refl _
theorem BE.trans(h:BE a b)(h':BE b c):BE a c:=λi=>(h i).trans (h' i)
def BE.own(h:BE U U')(a:eA)(o:yA U' Y a):yA U Y a:=by
 obtain⟨i,d,p,l,h1,h2⟩:=o
 have:=h i
 rw[h1] at this;obtain⟨d',e⟩:=this.aj;exact⟨i,d',p,l,e,h2⟩
theorem BE.set(h:MF U[i]? (some s)):BE U (U.set i s):=λj=>by
 by_cases xI:j=i
 ·subst xI;by_cases hl:j<U.length
  ·rw[gI hl];exact h
  ·rw[XO (by lia)] at h;cases s<;>exact h.elim
 ·rw[jE (λz=>xI z.symm)];exact MF.refl _
structure DA(K:fA)(U:Env)(Y:St)(H G:Hp)(U':Env)(H' G':Hp):Prop where
 lA:CA K U' Y H' G'
 ext:Ext (yA U Y) H G H' G'
 aK:BE U U'
section
variable{K:fA}
theorem DA.own(a:DA K U Y H G U' H' G'):∀a,yA U' Y a->yA U Y a:=λx h=>a.aK.own x h
theorem DA.refl(r:CA K U Y H G):DA K U Y H G U H G:=⟨r,Ext.refl,BE.refl _⟩
theorem DA.trans(a:DA K U Y H G U1 H1 G1)(b:DA K U1 Y H1 G1 U2 H2 G2):DA K U Y H G U2 H2 G2 :=
 ⟨b.lA,a.ext.trans (λx h=>.inl (a.own x h)) b.ext,a.aK.trans b.aK⟩
abbrev kF(H:Hp):eA->Prop:=λa=>H a=none
def DA.fresh(a:DA K U Y H G U1 H1 G1)(h:H1 x=none):H x=none:=a.ext.hx x h
def DA.iUa(a:DA K U Y H G U' H' G')(h:QC K H' G' (yA U' Y) (kF H) v x):∃G2,DA K U Y H G U' H' G2/\kA K G2 v.d x/\fB G' G2:=by
 obtain⟨G2,r2,s2,n2,h2⟩:=h.share (own:=λ_=>False) (new':=kF H) a.lA (λ_ z=>.inr z);refine⟨G2,⟨r2,⟨a.ext.gg.trans s2,a.ext.hh,a.ext.hx,λb hb gb nb=>?_⟩,a.aK⟩,h2,s2⟩
 cases e:G2 b with
 |none=>rfl
 |some o =>
  rcases n2 b (by rw[e];simp) with z | z
  ·exact absurd (a.ext.gn b hb gb nb) z
  ·exact absurd z hb
def DA.share(a:DA K U Y H G U' H' G')(h:QC K H' G' (yA U' Y) (kF H) v x):∃G2,DA K U Y H G U' H' G2/\kA K G2 v.d x:=let ⟨G2,h1,h2,_⟩:=a.iUa h;⟨G2,h1,h2⟩
theorem DA.qJ(a:DA K U Y H G U' H' G')(h:H' p=none):DA K U Y H G U' (vA H' p o) (vA G' p o) :=
 a.trans ⟨a.lA.qJ h,Ext.qJ a.lA.sub h,BE.refl _⟩
theorem DA.EL(a:DA K U Y H G U' H' G')(h:H' p=none):DA K U Y H G U' (vA H' p o) G' :=
 a.trans ⟨a.lA.EL h,Ext.EL h,BE.refl _⟩
def DA.ZX(a:DA K U Y H G U' H' G')(h:H' p=none)(r:rA K G' ds vs) :
  DA K U Y H G U' (vA H' p (.l vs)) G'/\QC K (vA H' p (.l vs)) G' (yA U' Y) (kF H) (.ow (.l ds)) (.ref p) :=
 ⟨a.EL h,p,rfl,fB.free a.lA.sub h,⟨vs,fC,r⟩,a.lA.B7 h,a.fresh h⟩
def DA.cn(a:DA K U Y H G U' H' G')(h:H' p=none)(r:rA K G' ds vs) :
  DA K U Y H G U' (vA H' p (.t vs)) (vA G' p (.t vs))/\QC K (vA H' p (.t vs)) (vA G' p (.t vs)) (yA U' Y) (kF H) (.sh (.t ds)) (.ref p):=by
 refine⟨a.qJ h, ?_⟩;show kA K _ (.t ds) _;simp only[kA];exact⟨p,vs,rfl,FC.of fC,rA.mono (Sm.laid (fB.free a.lA.sub h)) ds r⟩
end
def HG:List Hd->List V->eA->Prop
 |.val (.ow _)::hs,x::xs,a=>x=.ref a\/HG hs xs a
 |_::hs,_::xs,a=>HG hs xs a
 |_,_,_=>False
def vE(K:fA)(H G:Hp)(own new:eA->Prop)(Y:St):List Hd->List V->Prop
 |[],xs=>xs=[]
 |h::hs,xs=>∃x r,xs=x::r/\vF K H G own new Y h x/\vE K H G own new Y hs r/\∀d a,h=.val (.ow d)->x=.ref a->¬HG hs r a
section
variable(K:fA)(P:YA)(C:Calls)
noncomputable def tE(c:E):TE:=λY H Q=>∃(U:Env) (G:Hp) (v:RV) (U':Env),CA K U Y H G/\ev P C false c U=some (.ok v,U') /\
 ∀x H' G',DA K U Y H G U' H' G'->QC K H' G' (yA U' Y) (kF H) v x->Q x H'
noncomputable def tT(c:E):TT:=λY H Q=>∃(U:Env) (G:Hp) (b:Bool) (U':Env),CA K U Y H G/\ev P C true c U=some (.ok (.sh (.bl b)),U') /\
 ∀H' G',DA K U Y H G U' H' G'->Q b H'
noncomputable def tH(c:E):TE:=λY H Q=>∃(U:Env) (G:Hp) (h:Hd) (U':Env),CA K U Y H G/\hd c (ev P C false c U) U=some (.ok h,U') /\
 ∀x H' G',DA K U Y H G U' H' G'->vF K H' G' (yA U' Y) (kF H) Y h x->Q x H'
noncomputable def OO(cs:List E):TA:=λY H Q=>∃(U:Env) (G:Hp) (ds:List D) (U':Env),CA K U Y H G/\ZD P C cs U=some (.ok ds,U') /\
 ∀xs H' G',DA K U Y H G U' H' G'->rA K G' ds xs->Q xs H'
noncomputable def MI(cs:List E):TA:=λY H Q=>∃(U:Env) (G:Hp) (hs:List Hd) (U':Env),CA K U Y H G/\nD P C cs U=some (.ok hs,U') /\
 ∀xs H' G',DA K U Y H G U' H' G'->vE K H' G' (yA U' Y) (kF H) Y hs xs->Q xs H'
end
def TE.rD(h:PE X e t)(w:∀Y H Q,u Y H Q->t Y H Q):PE X e u:=λbA s Y H Q I q=>h bA s Y H Q I (w Y H Q q)
def TT.yQ(h:PT X e t)(w:∀Y H Q,u Y H Q->t Y H Q):PT X e u:=λbA s Y H Q I q=>h bA s Y H Q I (w Y H Q q)
def TA.xQ(h:PA X e t)(w:∀Y H Q,u Y H Q->t Y H Q):PA X e u:=λpos bA s Y H Q I q=>h pos bA s Y H Q I (w Y H Q q)
def rB{r:zA O}(h:r.bind f=some (.ok b,U)):∃a U1,r=some (.ok a,U1)/\f a U1=some (.ok b,U):=by
 unfold zA.bind at h;split at h
 ·cases h
 ·cases h
 ·exact⟨_,_,rfl,h⟩
def LH(h:done o U=some (.ok v,U')):o=some v/\U'=U:=by
 unfold done at h
 cases o with
 |none=>cases h
 |some u=>simp only[WD,RB,ND,Out.ok.injEq] at h;exact⟨by rw[h.1],h.2.symm⟩
def Nn{r:zA RV}{U':Env}(h:aAh true r=some (.ok v,U')):∃u b,r=some (.ok u,U')/\AK u.d=some b/\v=.sh (.bl b):=by
 obtain⟨u,U1,h1,h2⟩:=rB h
 cases e:AK u.d with
 |none=>rw[e] at h2;cases h2
 |some b =>
  rw[e] at h2;simp only[WD,RB,ND,Out.ok.injEq] at h2;obtain⟨h3,h4⟩:=h2;subst h4;exact⟨u,b,h1,e,h3.symm⟩
section
variable{K:fA}{P:YA}{C:Calls}{Y:St}{H:Hp}
def QO{X:Cx}{c:E}(h:PE X e (tE K P C c))(n:∀i,c≠.v i):PE X e (tH K P C c):=by
 refine TE.rD h λY H Q q=>?_
 obtain⟨U,G,vI,U',r,e1,k⟩:=q
 have:hd c (ev P C false c U) U=(ev P C false c U).bind λv U'=>some (.ok (.val v.low),U'):=by
  cases c<;>first | rfl | exact absurd rfl (n _)
 rw[this] at e1;obtain⟨v,U1,e2,e3⟩:=rB e1;cases e3;exact⟨U,G,v,_,r,e2,λx H' G' a hv=>k x H' G' a (vF.of hv)⟩
def jPa(h:PE X e (bI i)):PE X e (tE K P C (.v i)):=by
 refine TE.rD h λY H Q q=>?_
 obtain⟨U,G,v,U',r,e1,k⟩:=q;replace e1:aAJ i U=_:=e1;unfold aAJ at e1;split at e1
 ·rename_i d hd;cases e1;obtain⟨x,h1,h2⟩:=r.sh i d hd;exact⟨x,h1,k x H G (DA.refl r) h2⟩
 ·rename_i d hd;cases e1;obtain⟨a,h1,g,o⟩:=r.ow i d _ _ hd;refine⟨.ref a,h1, ?_⟩;obtain⟨ob,hv,hr⟩:=o.put;have li:i<U.length:=(MD.mp hd).1
  have KD:∀(j:Nat) (sl:Sl),(U.set i (.sh d))[j]?=some sl->(j=i/\sl=.sh d)\/(j≠i/\U[j]?=some sl):=λj sl hj=>by
   by_cases xI:j=i
   ·subst xI;rw[gI li] at hj;exact .inl ⟨rfl,(uF hj).symm⟩
   ·rw[jE (λz=>xI z.symm)] at hj;exact .inr ⟨xI,hj⟩
  have qF:∀b,yA (U.set i (.sh d)) Y b->yA U Y b:=λb hz=>by
   obtain⟨j,d',p,l,h3,h4⟩:=hz;rcases KD j _ h3 with ⟨_,z⟩ | ⟨_,z⟩
   ·cases z
   ·exact⟨j,d',p,l,z,h4⟩
  refine k (.ref a) H (vA G a ob) ⟨⟨?_,λb u z=>?_,λj d' hj=>?_,λj d' p l hj=>?_,λj k' d1 p1 l1 d2 p2 l2 b h3 h4 h5 h6=>?_⟩,⟨Sm.put g,λ_ _ z _=>z,λ_ z=>z,λb h3 h4 h5=>?_⟩,BE.set (by rw[hd];rfl)⟩ ?_
  ·rw[SE];exact r.len
  ·by_cases hb:b=a
   ·subst hb;rw[fC] at z;rw[hv];exact z
   ·rw[iB hb] at z;exact r.sub b u z
  ·rcases KD j _ hj with ⟨rfl,z⟩ | ⟨_,z⟩
   ·cases z;exact⟨_,h1,hr _ (Sm.put g) fC⟩
   ·obtain⟨x,h3,h4⟩:=r.sh j d' z;exact⟨x,h3,kA.mono (Sm.put g) d' h4⟩
  ·rcases KD j _ hj with ⟨_,z⟩ | ⟨ne,z⟩
   ·cases z
   ·obtain⟨b,h3,h4,h5⟩:=r.ow j d' p l z;have hb:b≠a:=λe=>by subst e;exact ne (r.inj _ _ _ _ _ _ _ _ _ z hd h3 h1)
    exact⟨b,h3,by rw[iB hb];exact h4,h5.mono (Sm.put g) λ_ z=>z⟩
  ·rcases KD j _ h3 with ⟨_,z⟩ | ⟨_,z⟩
   ·cases z
   ·rcases KD k' _ h4 with ⟨_,z'⟩ | ⟨_,z'⟩
    ·cases z'
    ·exact r.inj _ _ _ _ _ _ _ _ _ z z' h5 h6
  ·by_cases hb:b=a
   ·subst hb;exact absurd ⟨i,_,_,_,hd,h1⟩ h5
   ·rw[iB hb];exact h4
  ·exact hr _ (Sm.put g) fC
 ·cases e1
def kPa(h:PE X e (bI i)):PE X e (tH K P C (.v i)):=by
 refine TE.rD h λY H Q q=>?_
 obtain⟨U,G,vI,U',r,e1,k⟩:=q;simp only[hd] at e1;split at e1
 ·rename_i hb;cases e1;obtain⟨x,hx⟩:=r.bound hb;exact⟨x,hx,k x H G (DA.refl r) hx⟩
 ·cases e1
def W8(s:fB G H)(h:mC K H G d x)(e:AK d=some b):lV K x H b:=by
 cases d<;>simp only[AK,RB,reduceCtorEq] at e
 ·have:=h.oA;subst this;exact e.symm
 ·have:=h.bl;subst this;exact e.symm
 ·have:=h.int;subst this;exact e.symm
 ·split at e
  ·rename_i hz;obtain⟨rfl,_⟩:=h.str;exact⟨uE hz (by decide),(uF e).symm⟩
  ·cases e
 ·obtain⟨a,vs,rfl,h1,h2⟩:=h.t s;refine .inr (.inl ⟨vs,h1, ?_⟩);rw[<- e]
  have:=h2.len
  cases vs<;>cases ‹List D›<;>simp_all
 ·obtain⟨a,vs,rfl,h1,h2⟩:=h.l s;refine .inl ⟨vs,h1, ?_⟩;rw[<- e]
  have:=h2.len
  cases vs<;>cases ‹List D›<;>simp_all
def wRa(hK:X.K=K)(h:PE X e (tE K P C c))(hw:∀U,ev P C true c U=aAh true (ev P C false c U))
  (he:∀whole,isTrue e X.env whole=(do let v <- whole;standAt e.pos;holding [v] (truthy v))):PT X e (tT K P C c):=by
 refine TT.yQ (Ij h he) λY H Q q=>?_
 obtain⟨U,G,b,U',r,e1,k⟩:=q;rw[hw] at e1;obtain⟨u,b',e2,e3,e4⟩:=Nn e1;cases e4;refine⟨U,G,u,U',r,e2,λx H' G' a hv=>⟨b, ?_,k H' G' a⟩⟩;rw[hK];exact W8 a.lA.sub hv.BO e3
end
mutual
theorem Sd:∀(n:Nat) (d e:D),lB n d=true->lB n e=true->eM (kD d) (kD e)=TC d e
 |n,.oA,e,_,h=>by cases e<;>first | (cases n<;>simp[lB] at h;done) | simp[kD,eM,TC]
 |n,.bl b,e,_,h=>by cases e<;>first | (cases n<;>simp[lB] at h;done) | simp[kD,eM,TC]
 |n,.int b,e,_,h=>by cases e<;>first | (cases n<;>simp[lB] at h;done) | simp[kD,eM,TC]
 |n,.str b,e,_,h=>by cases e<;>first | (cases n<;>simp[lB] at h;done) | simp[kD,eM,TC]
 |n+1,.t ds,e,h,h'=>by
  cases e with
  |t es =>
   simp only[kD,eM,TC];exact K2 n ds es (by simpa[lB] using h) (by simpa[lB] using h')
  |ins=>simp[lB] at h'
  |sC=>simp[lB] at h'
  |uD=>simp[lB] at h'
  |_=>simp[kD,eM,TC]
 |n+1,.l ds,e,h,h'=>by
  cases e with
  |l es =>
   simp only[kD,eM,TC];exact K2 n ds es (by simpa[lB] using h) (by simpa[lB] using h')
  |ins=>simp[lB] at h'
  |sC=>simp[lB] at h'
  |uD=>simp[lB] at h'
  |_=>simp[kD,eM,TC]
 | 0,.t ds,e,h,_=>by simp[lB] at h
 | 0,.l ds,e,h,_=>by simp[lB] at h
 |n,.ins _ _ _,_,h,_=>by cases n<;>simp[lB] at h
 |n,.sC _ _,_,h,_=>by cases n<;>simp[lB] at h
 |n,.uD _ _,_,h,_=>by cases n<;>simp[lB] at h
theorem K2:∀(n:Nat) (ds es:List D),(∀d∈ds,lB n d=true)->(∀d∈es,lB n d=true)->EU (zG ds) (zG es)=tG ds es
 |n,[],[],_,_=>by simp[zG,EU,tG]
 |n,[],_::_,_,_=>by simp[zG,EU,tG]
 |n,_::_,[],_,_=>by simp[zG,EU,tG]
 |n,d::ds,e::es,h,h'=>by(simp only[zG,EU,tG];rw[Sd n d e (h d (by simp)) (h' e (by simp)),K2 n ds es (λx hx=>h x (by simp[hx])) (λx hx=>h' x (by simp[hx]))])
end
section
variable{K:fA}
mutual
theorem Xj(I:dA X bA Y H s)(hK:X.K=K)(sub:fB G H):∀(n:Nat) (d:D) (x:V) (u:cA),lB n d=true->kA K G d x->aAe x u->∃as,Reads s.heap u (kD d) as/\VL (kD d)=true/\aM (kD d)<=n
 |n,.oA,x,u,_,h,r=>by
  simp only[kA] at h;subst h;cases r;exact⟨_,Reads.none,by simp[kD,VL],by simp[kD,aM]⟩
 |n,.bl b,x,u,_,h,r=>by
  simp only[kA] at h;subst h;cases r;exact⟨_,Reads.bool b,by simp[kD,VL],by simp[kD,aM]⟩
 |n,.int b,x,u,_,h,r=>by
  simp only[kA] at h;subst h;obtain⟨t,rfl⟩:=r;exact⟨_,Reads.int b t,by simp[kD,VL],by simp[kD,aM]⟩
 |n,.str b,x,u,_,h,r=>by
  simp only[kA] at h;obtain⟨rfl,hs⟩:=h;obtain⟨t,rfl⟩:=r;exact⟨_,Reads.str b t,by simpa[kD,VL] using hs,by simp[kD,aM]⟩
 |n+1,.t ds,x,u,ok,h,r=>by
  simp only[kA] at h;obtain⟨a,vs,rfl,h1,h2⟩:=h;cases r;obtain⟨gA,rv,⟨o,ho,hc,m,hd⟩,hz⟩:=I.tuple (show FC X.K H a vs from hK ▸ pH sub h1);obtain⟨as,r1,r2,r3⟩:=iY I hK sub n ds vs gA (by simpa[lB] using ok) h2 rv;exact⟨_,Reads.tuple ho hc hd (by simpa using r1),by simpa[kD,VL] using r2,by simp[kD,aM];lia⟩
 |n+1,.l ds,x,u,ok,h,r=>by
  simp only[kA] at h;obtain⟨a,vs,rfl,h1,h2⟩:=h;cases r;obtain⟨gA,rv,⟨o,m,ho,hc,hn,hd⟩,hz⟩:=I.list (show CB X.K H a vs from hK ▸ sub.seq h1);obtain⟨as,r1,r2,r3⟩:=iY I hK sub n ds vs gA (by simpa[lB] using ok) h2 rv;exact⟨_,Reads.list ho hc hd (by simpa using r1),by simpa[kD,VL] using r2,by simp[kD,aM];lia⟩
 | 0,.t ds,_,_,h,_,_=>by simp[lB] at h
 | 0,.l ds,_,_,h,_,_=>by simp[lB] at h
 |n,.ins _ _ _,_,_,h,_,_=>by cases n<;>simp[lB] at h
 |n,.sC _ _,_,_,h,_,_=>by cases n<;>simp[lB] at h
 |n,.uD _ _,_,_,h,_,_=>by cases n<;>simp[lB] at h
theorem iY(I:dA X bA Y H s)(hK:X.K=K)(sub:fB G H):∀(n:Nat) (ds:List D) (xs:List V) (us:List cA),(∀d∈ds,lB n d=true)->rA K G ds xs->aAf xs us->∃as,ReadsAll s.heap us (zG ds) as/\Q9 (zG ds)=true/\da (zG ds)<=n
 |n,[],xs,us,_,h,r=>by
  simp only[rA] at h;subst h;cases r;exact⟨_,ReadsAll.nil,by simp[zG,Q9],by simp[zG,da]⟩
 |n,d::ds,xs,us,ok,h,r=>by
  simp only[rA] at h;obtain⟨v,r',rfl,h1,h2⟩:=h
  cases r with
  |cons ra rb =>
   obtain⟨as,a1,a2,a3⟩:=Xj I hK sub n d v _ (ok d (by simp)) h1 ra;obtain⟨bs,b1,b2,b3⟩:=iY I hK sub n ds r' _ (λx hx=>ok x (by simp[hx])) h2 rb;exact⟨_,ReadsAll.cons a1 b1,by simp[zG,Q9,a2,b2],by simp[zG,da];lia⟩
end
def Yj(I:dA X bA Y H s)(hK:X.K=K)(sub:fB G H)(n:Nat)(d:D)(x:V)(u:cA)(ok:lB n d=true)(h:mC K H G d x)(r:aAe x u):∃as,Reads s.heap u (kD d) as/\VL (kD d)=true/\aM (kD d)<=n:=by
 rcases h with h | ⟨a,rfl,h⟩
 ·exact Xj I hK sub n d x u ok h r
 ·cases r
  cases d<;>first | exact h.elim | skip
  case sC=>cases n<;>simp[lB] at ok
  rename_i ds;obtain⟨vs,h1,h2⟩:=h
  cases n with
  |zero=>simp[lB] at ok
  |succ n =>
   obtain⟨gA,rv,⟨o,m,ho,hc,hn,hd⟩,hz⟩:=I.list (CB.of h1);obtain⟨as,r1,r2,r3⟩:=iY I hK sub n ds vs gA (by simpa[lB] using ok) h2 rv;exact⟨_,Reads.list ho hc hd (by simpa using r1),by simpa[kD,VL] using r2,by simp[kD,aM];lia⟩
def Made(K:fA)(H G:Hp)(v:RV)(x:V)(H':Hp):Prop :=
 (∃d,v=.sh d/\kA K G d x/\H'=H) \/
 (∃ds vs p,v=.ow (.l ds)/\H p=none/\rA K G ds vs/\x=.ref p/\H'=vA H p (.l vs)) \/
 (∃ds vs p,v=.sh (.t ds)/\H p=none/\rA K G ds vs/\x=.ref p/\H'=vA H p (.t vs))
def i7(h:∃ds vs p,v=.sh (.t ds)/\H p=none/\rA K G ds vs/\x=.ref p/\H'=vA H p (.t vs)):Made K H G v x H' :=
 .inr (.inr h)
def DA.made(a:DA K U Y H0 G0 U' H G)(m:Made K H G v x H2) :
  ∃G2,DA K U Y H0 G0 U' H2 G2/\QC K H2 G2 (yA U' Y) (kF H0) v x:=by
 rcases m with ⟨d,rfl,h,rfl⟩ | ⟨ds,vs,p,rfl,h,r,rfl,rfl⟩ | ⟨ds,vs,p,rfl,h,r,rfl,rfl⟩
 ·exact⟨G,a,h⟩
 ·exact⟨_,a.ZX h r⟩
 ·exact⟨_,a.cn h r⟩
noncomputable def gSa(K:fA)(op:yN):R2:=λx y H Q=>∃G d e v,fB G H/\mC K H G d x/\mC K H G e y/\(op=.Mult->∀ds,d=.l ds->∃a vs,x=.ref a/\H a=some (.l vs)/\rA K G ds vs)/\pC op d e=some v/\∀z H',Made K H G v z H'->Q z H'
def aAl:Made K H G (.sh (.int i)) (.int i) H:=.inl ⟨_,rfl,by simp[kA],rfl⟩
def qHa:Made K H G (.sh (.bl i)) (.bl i) H:=.inl ⟨_,rfl,by simp[kA],rfl⟩
def dN(h:pB n=true):n<=sizeLine:=uE (@RL _ (cl _) h) (by decide)
def n8(I:dA X bA Y H s)(h:CB X.K H a vs):∃(gA:List cA),aAf vs gA/\s.heap.IsList a gA.toArray/\vs.length<=sizeLine:=by
 obtain⟨gA,r,p,z⟩:=I.list h;exact⟨gA,r,p.isList,z⟩
noncomputable def hSa(K:fA):R2:=λx y H Q=>∃l b xs zs,x=.ref l/\y=.ref b/\CB K H l xs/\CB K H b zs/\xs.length+zs.length<=sizeLine/\∀p,H p=none->Q (.ref p) (vA H p (.l (xs++zs)))
def wMa:EC X (gG .Add) (hSa X.K):=by
 intro bA s Y H x y v u Q I rx ry h;obtain⟨l,b,xs,zs,rfl,rfl,hH,hB,hz,q⟩:=h;cases rx;cases ry;obtain⟨gA,r,hl,z⟩:=n8 I hH;obtain⟨pJ,r2,JW,z2⟩:=n8 I hB;have e1:=r.length;have e2:=r2.length;obtain⟨⟨cls,dd,data,sl⟩,ho,hc,n,hd⟩:=id hl;obtain⟨⟨Xc,aQ,data2,WQ⟩,yI,OM,n2,hd2⟩:=id JW;simp only at hc hd OM hd2;subst hc hd OM hd2;refine sZ ⟨_,ho,rfl⟩ ⟨_,yI,rfl⟩ noFill_list_add seq_list_add PySem.F.slot_list_add PySem.F.entry_list_add (PySem.F.args_list_add_2 _ _) (list_addW l b gA.toArray pJ.toArray n n2 dd aQ sl WQ (by simp;lia)) ⟨ho,yI, ?_⟩;have ea:gA.toArray++pJ.toArray=(gA++pJ).toArray:=by simp
 rw[ea];exact⟨.ref _,_,I.Zh (t':=s.toks) (r.append r2) (by rw[lE];lia),rfl,q _ I.fresh⟩
def yMa:EC X (gG .FloorDiv) (rI (λ_ j=>0<j/\j<nofun) λi j=>.int (i / j)):=qT λi j _ _ _ _ _ hc q=>by
 have h1:(0:Int)<j:=hc.1;have h2:j<nofun:=hc.2;have h3:j.natAbs<2 ^ 300:=kE (by lia:j.natAbs<nofun) (by decide);have h4:j.natAbs.log2<300:=(wZ (by lia)).mpr h3;exact PyProof.Rows.floordiv_int (by lia) (by rw[Lo i (by lia)];exact q) (.inl (PyProof.noPylong_of_log2 (by lia)))
def yB(e:none=some v):False:=nomatch e
def vMa:EC X (gG .Add) (λx y H Q=>∃a b ys,x=.ref a/\y=.ref b/\FC X.K H a []/\FC X.K H b ys/\Q (.ref b) H):=by
 intro bA s Y H x y v u Q I rx ry h;obtain⟨a,b,ys,rfl,rfl,ha,hb,q⟩:=h;cases rx;cases ry;obtain⟨gA,r1,p1,_⟩:=I.tuple ha;obtain⟨pJ,r2,p2,_⟩:=I.tuple hb;have e0:gA=[]:=r1.OX.mpr rfl;subst e0;obtain⟨⟨cls,dd,data,sl⟩,ho,hc,n,hd⟩:=id p1;obtain⟨⟨Xc,aQ,data2,WQ⟩,yI,OM,n2,hd2⟩:=id p2;simp only at hc hd OM hd2;subst hc hd OM hd2
 exact sZ ⟨_,ho,rfl⟩ ⟨_,yI,rfl⟩ U9 Ea v9 p9 (m9 _ _)
  (tuple_addW0 a b [].toArray pJ.toArray n n2 dd aQ sl WQ rfl) ⟨ho,yI,⟨.ref b,H,I,rfl,q⟩⟩
def tVa(h1:nC x=true)(h2:nC y=true):nC (x++y)=true:=by
 show(x.cps++y.cps).all _=true;rw[Array.all_append,qA];exact⟨h1,h2⟩
def ju(hK:X.K=K)(op:yN):EC X (gG op) (gSa K op):=by
 intro bA s Y H x y v u Q I rx ry h;obtain⟨G,d,e,w,sub,hx,hy,hm,eb,k⟩:=h;subst hK
 cases op with
 |Add =>
  cases d with
  |int =>
   cases e with
   |int =>
    cases hx.int;cases hy.int;change some _=_ at eb;cases eb;exact sMa bA s Y H _ _ _ _ Q I rx ry ⟨_,_,rfl,rfl,k _ _ aAl⟩
   |_=>exact(yB eb).elim
  |l xs =>
   cases e with
   |l ys =>
    change (if pB (xs.length+ys.length) then some _ else none)=_ at eb;split at eb
    ·rename_i hz;cases eb;obtain⟨a,vs,rfl,h1,h2⟩:=hx.l sub;obtain⟨b,ws,rfl,h3,h4⟩:=hy.l sub;refine wMa bA s Y H _ _ _ _ Q I rx ry ⟨a,b,vs,ws,rfl,rfl,h1,h3, ?_,λp hp=>k _ _ (.inr (.inl ⟨_,_,p,rfl,hp,h2.app h4,rfl,rfl⟩))⟩;rw[h2.len,h4.len];exact dN hz
    ·cases eb
   |_=>exact(yB eb).elim
  |str x0 =>
   cases e with
   |str y0 =>
    change @ite _ (x0.length+y0.length<=1000000) (cl _) _ none=_ at eb;split at eb
    ·rename_i hz;cases eb;obtain⟨rfl,o1⟩:=hx.str;obtain⟨rfl,o2⟩:=hy.str;exact tMa bA s Y H _ _ _ _ Q I rx ry ⟨_,_,rfl,rfl,uE hz (by decide),k _ _ (.inl ⟨_,rfl,by unfold kA;exact⟨rfl,tVa o1 o2⟩,rfl⟩)⟩
    ·cases eb
   |_=>exact(yB eb).elim
  |t xs =>
   cases xs with
   |nil =>
    cases e with
    |t i9 =>
     change some _=_ at eb;cases eb;have HS:=hy;obtain⟨a,vs,rfl,h1,h2⟩:=hx.t sub;obtain⟨b,ws,rfl,h3,h4⟩:=hy.t sub;have e1:vs=[]:=VY.mp h2.len;subst e1;refine vMa bA s Y H _ _ _ _ Q I rx ry ⟨a,b,ws,rfl,rfl,h1,h3, ?_⟩;rcases HS with HS | ⟨_,_,HS⟩
     ·exact k _ _ (.inl ⟨_,rfl,HS,rfl⟩)
     ·exact HS.elim
    |_=>exact(yB eb).elim
   |cons x0 xs0 =>
    cases e with
    |t i9 =>
     change (if pB (xs0.length+1+i9.length) then some _ else none)=_ at eb;split at eb
     ·rename_i hz;cases eb;have gO:=hx;obtain⟨a,vs,rfl,h1,h2⟩:=hx.t sub;obtain⟨b,ws,rfl,h3,h4⟩:=hy.t sub;have e1:=h2.len;have e2:=h4.len;refine xMa bA s Y H _ _ _ _ Q I rx ry ⟨a,b,vs,ws,rfl,rfl,h1,h3, ?_, ?_,λhw=>?_,λhw p hp=>?_⟩
      ·intro z;subst z;simp at e1
      ·rw[e1,e2];exact dN hz
      ·subst hw;have e3:i9=[]:=VY.mp e2.symm;subst e3;rcases gO with gO | ⟨_,_,gO⟩
       ·exact k _ _ (.inl ⟨_,rfl,by simpa using gO,rfl⟩)
       ·exact gO.elim
      ·exact k _ _ (i7 ⟨_,_,p,rfl,hp,h2.app h4,rfl,rfl⟩)
     ·cases eb
    |_=>exact(yB eb).elim
  |_=>exact(yB eb).elim
 |Sub =>
  cases d with
  |int =>
   cases e with
   |int =>
    cases hx.int;cases hy.int;change some _=_ at eb;cases eb;exact oNa bA s Y H _ _ _ _ Q I rx ry ⟨_,_,rfl,rfl,k _ _ aAl⟩
   |_=>exact(yB eb).elim
  |_=>exact(yB eb).elim
 |Mult =>
  cases d with
  |int =>
   cases e with
   |int =>
    cases hx.int;cases hy.int;change @ite _ _ (cl _) _ none=_ at eb;split at eb
    ·cases eb;exact gNa bA s Y H _ _ _ _ Q I rx ry ⟨_,_,rfl,rfl,‹_›,k _ _ aAl⟩
    ·cases eb
   |_=>exact(yB eb).elim
  |str x0 =>
   cases e with
   |int n0 =>
    change @ite _ (yZ x0 n0/\nC (DG x0 n0)=true) (cl _) _ none=_ at eb;split at eb
    ·rename_i hz;cases eb;obtain⟨rfl,o1⟩:=hx.str;cases hy.int;exact iNa bA s Y H _ _ _ _ Q I rx ry ⟨_,_,rfl,rfl,hz.1,k _ _ (.inl ⟨_,rfl,by unfold kA;exact⟨rfl,hz.2⟩,rfl⟩)⟩
    ·cases eb
   |_=>exact(yB eb).elim
  |_=>exact(yB eb).elim
 |FloorDiv =>
  cases d with
  |int =>
   cases e with
   |int =>
    cases hx.int;cases hy.int;change @ite _ _ (cl _) _ none=_ at eb;split at eb
    ·cases eb;exact yMa bA s Y H _ _ _ _ Q I rx ry ⟨_,_,rfl,rfl,‹_›,k _ _ aAl⟩
    ·cases eb
   |_=>exact(yB eb).elim
  |_=>exact(yB eb).elim
 |Mod =>
  cases d with
  |int =>
   cases e with
   |int =>
    cases hx.int;cases hy.int;change @ite _ _ (cl _) _ none=_ at eb;split at eb
    ·cases eb;exact fNa bA s Y H _ _ _ _ Q I rx ry ⟨_,_,rfl,rfl,‹_›,k _ _ aAl⟩
    ·cases eb
   |_=>exact(yB eb).elim
  |_=>exact(yB eb).elim
 |Pow=>exact(yB eb).elim
 |LShift =>
  cases d with
  |int =>
   cases e with
   |int =>
    cases hx.int;cases hy.int;change @ite _ _ (cl _) _ none=_ at eb;split at eb
    ·rename_i hc;cases eb;exact mNa bA s Y H _ _ _ _ Q I rx ry ⟨_,_,rfl,rfl,⟨hc.1,by lia,hc.2.2⟩,k _ _ aAl⟩
    ·cases eb
   |_=>exact(yB eb).elim
  |_=>exact(yB eb).elim
 |RShift =>
  cases d with
  |int =>
   cases e with
   |int =>
    cases hx.int;cases hy.int;change @ite _ _ (cl _) _ none=_ at eb;split at eb
    ·cases eb;exact nNa bA s Y H _ _ _ _ Q I rx ry ⟨_,_,rfl,rfl,‹_›,k _ _ aAl⟩
    ·cases eb
   |_=>exact(yB eb).elim
  |_=>exact(yB eb).elim
 |BitAnd =>
  cases d with
  |int =>
   cases e with
   |int =>
    cases hx.int;cases hy.int;change some _=_ at eb;cases eb;exact uMa bA s Y H _ _ _ _ Q I rx ry ⟨_,_,rfl,rfl,k _ _ aAl⟩
   |_=>exact(yB eb).elim
  |_=>exact(yB eb).elim
 |BitOr =>
  cases d with
  |int =>
   cases e with
   |int =>
    cases hx.int;cases hy.int;change some _=_ at eb;cases eb;exact lNa bA s Y H _ _ _ _ Q I rx ry ⟨_,_,rfl,rfl,k _ _ aAl⟩
   |_=>exact(yB eb).elim
  |_=>exact(yB eb).elim
 |_=>exact(yB eb).elim
noncomputable def vT(K:fA)(op:eI):R2:=λx y H Q=>∃G d e b,fB G H/\mC K H G d x/\mC K H G e y/\rC op d e=some b/\Q (.bl b) H
def fQ(h:kA K G d x)(f:ID d=true):cK x=true/\∀(e:D) (y:V),kA K G e y->ID e=true->MH y x=TC e d:=by
 cases d<;>simp only[ID,zD] at f<;>simp only[kA] at h
 ·subst h;refine⟨rfl,λe y hy fe=>?_⟩;cases e<;>simp only[ID,zD] at fe<;>simp only[kA] at hy<;>(first | subst hy | (obtain⟨rfl,_⟩:=hy))<;>simp[MH,TC]
 ·subst h;refine⟨rfl,λe y hy fe=>?_⟩;cases e<;>simp only[ID,zD] at fe<;>simp only[kA] at hy<;>(first | subst hy | (obtain⟨rfl,_⟩:=hy))<;>simp[MH,TC]
 ·subst h;refine⟨rfl,λe y hy fe=>?_⟩;cases e<;>simp only[ID,zD] at fe<;>simp only[kA] at hy<;>(first | subst hy | (obtain⟨rfl,_⟩:=hy))<;>simp[MH,TC]
 ·obtain⟨rfl,_⟩:=h;refine⟨rfl,λe y hy fe=>?_⟩;cases e<;>simp only[ID,zD] at fe<;>simp only[kA] at hy<;>(first | subst hy | (obtain⟨rfl,_⟩:=hy))<;>simp[MH,TC]
def mC.flat(h:mC K H G d x)(f:ID d=true):kA K G d x:=by
 rcases h with h | ⟨a,rfl,h⟩
 ·exact h
 ·cases d<;>first | exact h.elim | cases f
theorem KS(h:kA K G d x)(f:ID d=true):∀{ds:List D} {vs:List V},rA K G ds vs->ds.all ID=true->vs.all cK=true/\gX x vs=inD d ds
 |[],vs,h2,_=>by simp only[rA] at h2;subst h2;exact⟨rfl,rfl⟩
 |e::ds,vs,h2,fs=>by
  simp only[rA] at h2;obtain⟨y,r,rfl,h3,h4⟩:=h2;rw[TB,qA] at fs;obtain⟨a1,a2⟩:=KS h f h4 fs.2;obtain⟨b1,_⟩:=fQ h3 fs.1;have b2:=(fQ h f).2 e y h3 fs.1;refine⟨by rw[TB,b1,a1];rfl, ?_⟩
  unfold gX inD at *
  rw[FK,FK,a2,b2]
def Sj(I:dA X bA Y H s)(hK:X.K=K)(sub:fB G H)(hu:A.units+20<cLine)(od:lB 20 d=true)(oe:lB 20 e=true)(hx:mC K H G d x)(hy:mC K H G e y)(rx:aAe x v)(ry:aAe y u) :
  SeqAt.RcAt A s v u (TC d e)/\SeqAt.RcNeAt A s v u (!TC d e):=by
 obtain⟨as,a1,a2,a3⟩:=Yj I hK sub 20 d x v od hx rx;obtain⟨bs,b1,b2,b3⟩:=Yj I hK sub 20 e y u oe hy ry;rw[<- Sd 20 d e od oe];exact⟨SeqAt.rcAt_reads a1 b1 a2 b2 (by lia),SeqAt.rcNeAt_reads a1 b1 a2 b2 (by lia)⟩
theorem mC.sC{ks:List aA}{ds:List D}{x:V}(h:mC K H G (.sC ks ds) x)(sub:fB G H):∃a vs,x=.ref a/\H a=some (.dK (mF ks vs))/\rA K G ds vs/\ks.length=ds.length:=by
 rcases h with h | ⟨a,rfl,h⟩
 ·simp only[kA] at h;obtain⟨a,vs,rfl,h1,h2⟩:=h;exact⟨a,vs,rfl,sub _ _ h1,h2⟩
 ·obtain⟨vs,h1,h2⟩:=h;exact⟨a,vs,rfl,h1,h2⟩
theorem R6(k:aA):∀{ks:List aA} {ds:List D} {vs:List V},rA K G ds vs->ks.length=ds.length->(OI (mF ks vs) (.inr k)=none/\cF ks ds k=none)\/∃d v,OI (mF ks vs) (.inr k)=some v/\cF ks ds k=some d/\kA K G d v
 |[],_,_,_,_=>.inl ⟨rfl,rfl⟩
 |a::ks,[],_,_,z=>by cases z
 |a::ks,d::ds,_,h,z=>by
  simp only[rA] at h;obtain⟨v,r,rfl,h1,h2⟩:=h;have ih:=R6 k h2 (Pa z);by_cases e:a=k
  ·exact .inr ⟨d,v,Dn (p:=(Sum.inr a,v)) (r:=mF ks r) (congrArg Sum.inr e),by simp[cF,e],h1⟩
  ·have e1:OI (mF (a::ks) (v::r)) (.inr k)=OI (mF ks r) (.inr k):=An (p:=(Sum.inr a,v)) (r:=mF ks r) (λz=>e (uZ z));have e2:cF (a::ks) (d::ds) k=cF ks ds k:=by simp[cF,e]
   rw[e1,e2];exact ih
def UP(hK:X.K=K)(hu:X.A.units+64<cLine)(op:eI):EC X (DF op) (vT K op):=by
 intro bA s Y H x y v u Q I rx ry h;obtain⟨G,d,e,b,sub,hx,hy,eb,k⟩:=h
 cases op with
 |Eq =>
  change (if lB 20 d&&lB 20 e then some _ else none)=_ at eb;split at eb
  ·rename_i hc;cases eb;rw[qA] at hc;exact(Sj I hK sub (by lia) hc.1 hc.2 hx hy rx ry).1 _ _ _ _ ⟨.bl _,H,I,rfl,k⟩
  ·cases eb
 |NotEq =>
  change (if lB 20 d&&lB 20 e then some _ else none)=_ at eb;split at eb
  ·rename_i hc;cases eb;rw[qA] at hc;exact(Sj I hK sub (by lia) hc.1 hc.2 hx hy rx ry).2 _ _ _ _ ⟨.bl _,H,I,rfl,k⟩
  ·cases eb
 |Lt =>
  cases d with
  |int =>
   cases e with
   |int =>
    cases hx.int;cases hy.int;change some _=_ at eb;cases eb;exact eNa bA s Y H _ _ _ _ Q I rx ry ⟨_,_,rfl,rfl,k⟩
   |_=>exact(yB eb).elim
  |_=>exact(yB eb).elim
 |LtE =>
  cases d with
  |int =>
   cases e with
   |int =>
    cases hx.int;cases hy.int;change some _=_ at eb;cases eb;exact dNa bA s Y H _ _ _ _ Q I rx ry ⟨_,_,rfl,rfl,k⟩
   |_=>exact(yB eb).elim
  |_=>exact(yB eb).elim
 |Gt =>
  cases d with
  |int =>
   cases e with
   |int =>
    cases hx.int;cases hy.int;change some _=_ at eb;cases eb;exact aNa bA s Y H _ _ _ _ Q I rx ry ⟨_,_,rfl,rfl,k⟩
   |_=>exact(yB eb).elim
  |_=>exact(yB eb).elim
 |GtE =>
  cases d with
  |int =>
   cases e with
   |int =>
    cases hx.int;cases hy.int;change some _=_ at eb;cases eb;exact zMa bA s Y H _ _ _ _ Q I rx ry ⟨_,_,rfl,rfl,k⟩
   |_=>exact(yB eb).elim
  |_=>exact(yB eb).elim
 |Is =>
  cases e with
  |oA =>
   cases hy.oA;refine cNa bA s Y H _ _ _ _ Q I rx ry ⟨rfl, ?_⟩;by_cases hd:d=.oA
   ·subst hd;cases hx.oA;change some _=_ at eb;cases eb;simpa using k
   ·have:¬x=.oA:=λz=>by
     subst z;rcases hx with hx | ⟨_,z,_⟩
     ·cases d<;>first | exact hd rfl | simp[kA] at hx
     ·cases z
    cases d with
    |oA=>exact absurd rfl hd
    |_ =>
     change some _=_ at eb;cases eb;simpa[this] using k
  |bl =>
   cases d with
   |bl =>
    cases hx.bl;cases hy.bl;change some _=_ at eb;cases eb;cases rx;cases ry;exact is_bool ⟨.bl _,H,I,rfl,k⟩
   |_=>exact(yB eb).elim
  |_=>cases d<;>exact(yB eb).elim
 |IsNot =>
  cases e with
  |oA =>
   cases hy.oA;refine kNa bA s Y H _ _ _ _ Q I rx ry ⟨rfl, ?_⟩;by_cases hd:d=.oA
   ·subst hd;cases hx.oA;change some _=_ at eb;cases eb;simpa using k
   ·have:¬x=.oA:=λz=>by
     subst z;rcases hx with hx | ⟨_,z,_⟩
     ·cases d<;>first | exact hd rfl | simp[kA] at hx
     ·cases z
    cases d with
    |oA=>exact absurd rfl hd
    |_ =>
     change some _=_ at eb;cases eb;simpa[this] using k
  |_=>cases d<;>exact(yB eb).elim
 |In =>
  cases e with
  |t ds =>
   change (if ID d&&ds.all ID then some _ else none)=_ at eb;split at eb
   ·rename_i hc;cases eb;rw[qA] at hc;obtain⟨a,vs,rfl,h1,h2⟩:=hy.t sub;obtain⟨i1,i2⟩:=KS (hx.flat hc.1) hc.1 h2 hc.2;refine Xi bA s Y H _ _ _ _ Q I rx ry ⟨a,vs,rfl,.inr (hK ▸ h1),(fQ (hx.flat hc.1) hc.1).1,i1, ?_⟩;simpa[i2] using k
   ·cases eb
  |l ds =>
   change (if ID d&&ds.all ID then some _ else none)=_ at eb;split at eb
   ·rename_i hc;cases eb;rw[qA] at hc;obtain⟨a,vs,rfl,h1,h2⟩:=hy.l sub;obtain⟨i1,i2⟩:=KS (hx.flat hc.1) hc.1 h2 hc.2;refine Xi bA s Y H _ _ _ _ Q I rx ry ⟨a,vs,rfl,.inl (hK ▸ h1),(fQ (hx.flat hc.1) hc.1).1,i1, ?_⟩;simpa[i2] using k
   ·cases eb
  |str y0 =>
   cases d with
   |str x0 =>
    change some _=_ at eb;cases eb;obtain⟨rfl,_⟩:=hx.str;obtain⟨rfl,_⟩:=hy.str;exact bNa bA s Y H _ _ _ _ Q I rx ry ⟨_,_,rfl,rfl,k⟩
   |_=>exact(yB eb).elim
  |_=>exact(yB eb).elim
 |NotIn =>
  cases e with
  |t ds =>
   change (if ID d&&ds.all ID then some _ else none)=_ at eb;split at eb
   ·rename_i hc;cases eb;rw[qA] at hc;obtain⟨a,vs,rfl,h1,h2⟩:=hy.t sub;obtain⟨i1,i2⟩:=KS (hx.flat hc.1) hc.1 h2 hc.2;refine Yi bA s Y H _ _ _ _ Q I rx ry ⟨a,vs,rfl,.inr (hK ▸ h1),(fQ (hx.flat hc.1) hc.1).1,i1, ?_⟩;simpa[i2] using k
   ·cases eb
  |l ds =>
   change (if ID d&&ds.all ID then some _ else none)=_ at eb;split at eb
   ·rename_i hc;cases eb;rw[qA] at hc;obtain⟨a,vs,rfl,h1,h2⟩:=hy.l sub;obtain⟨i1,i2⟩:=KS (hx.flat hc.1) hc.1 h2 hc.2;refine Yi bA s Y H _ _ _ _ Q I rx ry ⟨a,vs,rfl,.inl (hK ▸ h1),(fQ (hx.flat hc.1) hc.1).1,i1, ?_⟩;simpa[i2] using k
   ·cases eb
  |str y0 =>
   cases d with
   |str x0 =>
    change some _=_ at eb;cases eb;obtain⟨rfl,_⟩:=hx.str;obtain⟨rfl,_⟩:=hy.str;exact jNa bA s Y H _ _ _ _ Q I rx ry ⟨_,_,rfl,rfl,k⟩
   |_=>exact(yB eb).elim
  |sC ks es =>
   cases d with
   |str x0 =>
    change some _=_ at eb;cases eb;obtain⟨a,vs,rfl,h1,h2,h3⟩:=hy.sC sub;obtain⟨rfl,_⟩:=hx.str;cases ry;refine uw (by lia) I (jM.k (k:=Sum.inr x0) h1) rx λs3 I3=>⟨.bl _,H,I3,rfl, ?_⟩
    rcases R6 x0 h2 h3 with ⟨e1,e2⟩ | ⟨_,_,e1,e2,_⟩<;>(rw[e2] at k;rw[e1];exact k)
   |_=>exact(yB eb).elim
  |_=>exact(yB eb).elim
end
section
variable{X:Cx}{K:fA}{bA:List (eA×wB)}{Y:St}{H G:Hp}{s:xA}
def dc(h:rA K G ds vs)(e:oC ds i=some d):∃v,oC vs i=some v/\kA K G d v:=by
 unfold oC at e ⊢;rw[h.len]
 cases q:iD ds.length i with
 |none=>rw[q] at e;cases e
 |some j =>
  rw[q] at e;exact h.get e
noncomputable def lSa(K:fA):R2:=λx y H Q=>∃G d e r,fB G H/\mC K H G d x/\mC K H G e y/\CL d e=some r/\∀z,kA K G r z->Q z H
def LF.imp(h:LF X r)(w:∀x y H Q,r' x y H Q->r x y H Q):LF X r':=λva sl bA s Y H x y v u Q I rx ry q hs=>h va sl bA s Y H x y v u Q I rx ry (w x y H Q q) hs
def uVa(h:nC x=true)(e:oC x.cps.toList i=some c):nC ⟨#[c]⟩=true:=by
 unfold nC at *
 have hm:c∈x.cps.toList:=by
  unfold oC at e
  cases q:iD x.cps.toList.length i with
  |none=>rw[q] at e;cases e
  |some j=>rw[q] at e;exact pN e
 have:=UG.mp h c (by simpa using hm)
 simpa using this
noncomputable def mSa:R2:=λx y H Q=>∃a v,x=.ref a/\jM H a y (some v)/\Q v H
def gDa(hu:X.A.units+1<cLine):LF X mSa:=by
 intro value slice bA s Y H x y v u Q I rx ry h hs;obtain⟨a,z,rfl,g,q⟩:=h;cases rx;have hT:=Bw I g;unfold subscriptTail;refine FA ?_;rw[getitemInPython_of_ne hT.not_modules];refine FA (wpAny_specialOf hT PySem.F.slot_dict_getitem.lookup ?_)
 have XA:AA (model X.prog X.w) X.A (subscripted slice false (.ref a) u) (λr s₃=>AA (model X.prog X.w) X.A (letTemporaryGo value (.ref a) r>>=λ_=>pure r) (EP X bA Y Q) X.xe s₃) X.xe s:=by(rw[hs];exact wpAny_operating (tw hu I g ry λw' s3 I3 ZH=>FA (wpAny_letTemporaryGo (LB ⟨z,H,I3,ZH,q⟩))))
 first
  |exact LB (FA XA)
  |exact FA (LB (FA XA))
  |exact FA XA
def jDa:LF X (λ_ _ _ _=>False):=λ_ _ _ _ _ _ _ _ _ _ _ _ _ _ h _=>h.elim
noncomputable def fY(K:fA):R2:=λ_ _ _ _=>False
def hDa(hu:X.A.units+11<cLine):LF X (fY X.K):=jDa
def kDa(hK:X.K=K)(hu:X.A.units+11<cLine):LF X (lSa K):=by
 refine LF.imp ((lDa.or (gDa (by lia))).or (hDa hu)) λx y H Q h=>?_
 obtain⟨G,d,e,r,sub,hx,hy,er,k⟩:=h;subst hK;unfold CL at er;split at er
 ·cases hy.int;obtain⟨a,vs,rfl,h1,h2⟩:=hx.t sub;obtain⟨v,h3,h4⟩:=dc h2 er;exact .inl (.inl (.inr (.inl ⟨a,vs,_,v,rfl,rfl,h1,h3,k v h4⟩)))
 ·cases hy.int;obtain⟨a,vs,rfl,h1,h2⟩:=hx.l sub;obtain⟨v,h3,h4⟩:=dc h2 er;exact .inl (.inl (.inl ⟨a,vs,_,v,rfl,rfl,h1,h3,k v h4⟩))
 ·rename_i ks es x0;obtain⟨rfl,_⟩:=hy.str;obtain⟨a,vs,rfl,h1,h2,h3⟩:=hx.sC sub;rcases R6 x0 h2 h3 with ⟨_,q⟩ | ⟨d,v,q1,q2,q3⟩
  ·rw[q] at er;cases er
  ·rw[q2] at er;cases er;refine .inl (.inr ⟨a,v,rfl, ?_,k _ q3⟩);have g:=jM.k (k:=Sum.inr x0) h1;rw[q1] at g;exact g
 ·split at er
  ·rename_i hz;cases hy.int;obtain⟨rfl,ok⟩:=hx.str
   cases q:oC ‹aA›.cps.toList ‹Int› with
   |none=>rw[q] at er;cases er
   |some c =>
    rw[q] at er;cases er;exact .inl (.inl (.inr (.inr ⟨_,_,c,rfl,rfl,uE hz (by decide),q,k _ (show kA X.K G (.str _) _ by unfold kA;exact⟨rfl,uVa ok q⟩)⟩)))
  ·cases er
 ·cases er
def aAG(h:nC x=true):Made K H G (.sh (.str x)) (.str x) H:=.inl ⟨_,rfl,by simp[kA,h],rfl⟩
def yd{lo hi:Option Int}(h:rA K G ds vs):rA K G (aAz ds lo hi) (BM vs lo hi):=by
 unfold aAz BM;rw[h.len];exact(h.drop _).take _
def pSa(K:fA):V->Option Int->Option Int->Hp->VK->Prop:=λx lo hi H Q=>∃G d v,fB G H/\mC K H G d x/\bN d lo hi=some v/\∀z H',Made K H G v z H'->Q z H'
def qUa(hK:X.K=K):WJ X (pSa K):=by
 intro bA s Y H x v vl vu lo hi sl Q I rx hs pl pu h;obtain⟨G,d,r,sub,hx,er,k⟩:=h;subst hK;by_cases UM:∃y,d=.str y
 ·obtain⟨y,rfl⟩:=UM;change @ite _ (y.length<=1000000/\nC (mD y lo hi)=true) (cl _) _ none=_ at er;split at er
  ·rename_i hz;cases er;obtain⟨rfl,_⟩:=hx.str;exact rUa bA s Y H _ v vl vu lo hi sl Q I rx hs pl pu ⟨_,rfl,hz.1,k _ _ (aAG hz.2)⟩
  ·cases er
 refine WJ.or pUa sUa bA s Y H x v vl vu lo hi sl Q I rx hs pl pu ?_;unfold bN at er;split at er
 ·cases er;obtain⟨a,vs,rfl,h1,h2⟩:=hx.l sub;exact .inl ⟨a,vs,rfl,h1,λp hp=>k _ _ (.inr (.inl ⟨_,_,p,rfl,hp,yd h2,rfl,rfl⟩))⟩
 ·split at er
  ·cases er
  ·rename_i hw;cases er;obtain⟨a,vs,rfl,h1,h2⟩:=hx.t sub;exact .inr ⟨a,vs,rfl,h1,by rw[h2.len];exact hw,λp hp=>k _ _ (i7 ⟨_,_,p,rfl,hp,yd h2,rfl,rfl⟩)⟩
 ·exact absurd ⟨_,rfl⟩ UM
 ·cases er
def bV(K:fA)(H G:Hp):List D->List V->Prop
 |[],xs=>xs=[]
 |d::ds,xs=>∃x r,xs=x::r/\mC K H G d x/\bV K H G ds r
def vJ(h:bV K H G [d] xs):∃x,xs=[x]/\mC K H G d x:=by
 obtain⟨x,r,rfl,h1,h2⟩:=h;cases (show r=[] from h2);exact⟨x,rfl,h1⟩
def Mj(K:fA)(f:BI):List V->Hp->VK->Prop:=λxs H Q=>∃G ds v,fB G H/\bV K H G ds xs/\pD f ds=some v/\∀z H',Made K H G v z H'->Q z H'
noncomputable def vc:BI->cA
 |.len=>.builtin "len"
 |.int=>.type "int"
 |.list=>.type "list"
 |.tuple=>.type "tuple"
 |.all=>.builtin "all"
 |.str=>.type "str"
theorem Ec:∀{ds:List D} {vs:List V} {us:List cA} {bs:List Bool},rA K G ds vs->aAf vs us->RF ds=some bs->LSm.BoolsAre us bs
 |[],_,_,_,h,r,e=>by
  simp only[rA] at h;subst h;cases r;cases e;exact .nil
 |d::ds,_,_,_,h,r,e=>by
  simp only[rA] at h;obtain⟨v,r',rfl,h1,h2⟩:=h
  cases r with
  |cons ra rb =>
   cases d<;>simp only[RF,reduceCtorEq] at e;rename_i b
   cases q:RF ds with
   |none=>rw[q] at e;cases e
   |some Lu =>
    rw[q] at e;cases e;simp only[kA] at h1;subst h1;cases ra;exact .cons b (Ec h2 rb q)
def Gv(hc:X.A.handled=none):qG X (.builtin "all") (λxs H Q=>∃a vs ds bs G,xs=[.ref a]/\CB X.K H a vs/\rA X.K G ds vs/\RF ds=some bs/\Q (.bl (bs.all id)) H):=by
 intro bA s Y H xs us Q I r h;obtain⟨a,vs,ds,bs,G,rfl,h1,h2,h3,q⟩:=h;obtain⟨u,rfl,rx⟩:=aAA r;cases rx;obtain⟨gA,rv,hl,z⟩:=n8 I h1;have hb:=Ec h2 rv h3;have wD:a<s.heap.objs.size:=by obtain⟨_,e,_⟩:=hl;exact xC e
 refine call_all_walk (sU hl ?_)
 refine⟨s.heap.objs.size,[s.heap.objs.size,a],[s.heap.objs.size],gA.toArray.size,_,_,λi=>(bs[i]?).getD true,rfl,Walks.list (A:=X.A.in1) hc _ a (zE wD) gA.toArray,
  ⟨⟨_,zH _ rfl,rfl,rfl⟩,hl.push _⟩,λi v s' Q' E' hP hQ=>?_,λh' tk hk=>?_⟩
 ·obtain⟨b,e,rfl⟩:=hb.get i v (by simpa using hP);simp only[e,Option.getD_some] at hQ;exact qN hQ
 ·have e:((jC gA.toArray.size).all λi=>(bs[i]?).getD true)=bs.all id:=by
   rw[VD,hb.length];exact LSm.range_all bs
  rw[e];exact⟨.bl _,H,I.kept (t':=tk) (LSm.kept_iter hk),rfl,q⟩
def eIa:YU X "int.bit_length" (λx xs H Q=>∃i,x=.int i/\xs=[]/\Q (.int (xP i)) H):=by
 intro bA s Y H x xs v us Q I rx r h;obtain⟨i,rfl,rfl,q⟩:=h;cases r;obtain⟨t,rfl⟩:=rx;exact call_int_bit_length ⟨.int _,H,I.tok _,⟨_,rfl⟩,q⟩
def gu(hK:X.K=K)(hc:X.calm=true)(hh:X.A.handled=none)(rm:YC 2 X.A)(f:BI):qG X (vc f) (Mj K f):=by
 intro bA s Y H xs us Q I r h;obtain⟨G,ds,v,sub,hx,e,k⟩:=h;subst hK
 cases f with
 |len =>
  obtain _ | ⟨d,_ | ⟨_,_⟩⟩:=ds
  ·exact(yB e).elim
  ·cases d with
   |l =>
    change some _=_ at e;cases e;obtain⟨x,rfl,h1⟩:=vJ hx;obtain⟨a,vs,rfl,h2,h3⟩:=h1.l sub;exact Qc bA s Y H _ us Q I r ⟨a,vs,rfl,.inl h2,by rw[h3.len];exact k _ _ aAl⟩
   |t =>
    change some _=_ at e;cases e;obtain⟨x,rfl,h1⟩:=vJ hx;obtain⟨a,vs,rfl,h2,h3⟩:=h1.t sub;exact Qc bA s Y H _ us Q I r ⟨a,vs,rfl,.inr h2,by rw[h3.len];exact k _ _ aAl⟩
   |str x =>
    change @ite _ (x.length<=1000000) (cl _) _ none=_ at e;split at e
    ·rename_i hz;cases e;obtain⟨x,rfl,h1⟩:=vJ hx;obtain⟨rfl,_⟩:=h1.str;exact Lv bA s Y H _ us Q I r ⟨_,rfl,uE hz (by decide),k _ _ aAl⟩
    ·cases e
   |_=>exact(yB e).elim
  ·cases d<;>exact(yB e).elim
 |int =>
  obtain _ | ⟨d,_ | ⟨_,_⟩⟩:=ds
  ·exact(yB e).elim
  ·cases d with
   |int =>
    change some _=_ at e;cases e;obtain⟨x,rfl,h1⟩:=vJ hx;cases h1.int;exact Oc bA s Y H _ us Q I r (.inl ⟨_,rfl,k _ _ aAl⟩)
   |bl =>
    change some _=_ at e;cases e;obtain⟨x,rfl,h1⟩:=vJ hx;cases h1.bl;exact Oc bA s Y H _ us Q I r (.inr ⟨_,rfl,k _ _ aAl⟩)
   |str x =>
    change @ite _ (x.length<=640) (cl _) ((CU x).map _) none=_ at e;split at e
    ·rename_i hz
     cases q:CU x with
     |none=>rw[q] at e;cases e
     |some n =>
      rw[q] at e;cases e;obtain⟨x,rfl,h1⟩:=vJ hx;obtain⟨rfl,_⟩:=h1.str;exact Hv bA s Y H _ us Q I r ⟨_,n,rfl,q,hz,k _ _ aAl⟩
    ·cases e
   |_=>exact(yB e).elim
  ·cases d<;>exact(yB e).elim
 |list=>exact(yB e).elim
 |tuple =>
  obtain _ | ⟨d,_ | ⟨_,_⟩⟩:=ds
  ·exact(yB e).elim
  ·cases d with
   |l =>
    change some _=_ at e;cases e;obtain⟨x,rfl,h1⟩:=vJ hx;obtain⟨a,vs,rfl,h2,h3⟩:=h1.l sub;exact Rc bA s Y H _ us Q I r ⟨a,vs,rfl,.inl ⟨h2,λp hp=>k _ _ (i7 ⟨_,_,p,rfl,hp,h3,rfl,rfl⟩)⟩⟩
   |t =>
    change some _=_ at e;cases e;obtain⟨x,rfl,h1⟩:=vJ hx;have tI:=h1;obtain⟨a,vs,rfl,h2,h3⟩:=h1.t sub;refine Rc bA s Y H _ us Q I r ⟨a,vs,rfl,.inr ⟨h2, ?_⟩⟩;rcases tI with tI | ⟨_,_,tI⟩
    ·exact k _ _ (.inl ⟨_,rfl,tI,rfl⟩)
    ·exact tI.elim
   |_=>exact(yB e).elim
  ·cases d<;>exact(yB e).elim
 |all =>
  obtain _ | ⟨d,_ | ⟨_,_⟩⟩:=ds
  ·exact(yB e).elim
  ·cases d with
   |l ds =>
    change (RF ds).map _=_ at e
    cases q:RF ds with
    |none=>rw[q] at e;cases e
    |some bs =>
     rw[q] at e;cases e;obtain⟨x,rfl,h1⟩:=vJ hx;obtain⟨a,vs,rfl,h2,h3⟩:=h1.l sub;exact Gv hh bA s Y H _ us Q I r ⟨a,vs,ds,bs,G,rfl,h2,h3,q,k _ _ qHa⟩
   |_=>exact(yB e).elim
  ·cases d<;>exact(yB e).elim
 |str =>
  obtain _ | ⟨d,_ | ⟨_,_⟩⟩:=ds
  ·exact(yB e).elim
  ·cases d with
   |int i =>
    change @ite _ (i.natAbs.log2<1920/\nC (pA (toString i))=true) (cl _) _ none=_ at e;split at e
    ·rename_i hz;cases e;obtain⟨x,rfl,h1⟩:=vJ hx;cases h1.int;exact Mv bA s Y H _ us Q I r ⟨_,rfl,hz.1,k _ _ (aAG hz.2)⟩
    ·cases e
   |str y =>
    change some _=_ at e;cases e;obtain⟨x,rfl,h1⟩:=vJ hx;obtain⟨rfl,hy⟩:=h1.str;exact Nv bA s Y H _ us Q I r ⟨_,rfl,k _ _ (aAG hy)⟩
   |_=>exact(yB e).elim
  ·cases d<;>exact(yB e).elim
noncomputable def a9:Ty->V
 |.int=>.ty "int"
 |.bool=>.ty "bool"
 |.str=>.ty "str"
 |.list=>.ty "list"
 |.tuple=>.ty "tuple"
 |.dict=>.ty "dict"
 |.cls _=>.ty "dict"
 |.cU=>.ty "ValueError"
theorem mC.uD(sub:fB G H)(h:mC K H G (.uD c n) x):∃a C p,x=.ref a/\JB K oB c=some (some (.ref C))/\DE K C/\H a=some (.ext (CH a C p))/\WK K H C p n:=by
 rcases h with h | ⟨a,rfl,h⟩
 ·simp only[kA] at h;obtain⟨a,C,p,e,h1,h2,h3,h4⟩:=h;exact⟨a,C,p,e,h1,h2,sub _ _ h3,h4.mono sub⟩
 ·exact h.elim
def zCa(hK:X.K=K)(t:Ty):qG X (.builtin "isinstance") (λxs H Q=>∃G d x b,fB G H/\xs=[x,a9 t]/\mC K H G d x/\kX t d=some b/\Q (.bl b) H):=by
 intro bA s Y H xs us Q I r h;obtain⟨G,d,x,b,sub,rfl,hx,e,q⟩:=h;subst hK;obtain⟨u,w,rfl,rx,ZH⟩:=aAS r;have XA:∀tk,EP X bA Y Q (.bool b) { s with toks:=tk }:=λtk=>⟨.bl b,H,I.tok tk,rfl,q⟩
 have key:∀T:String,w=.type T->∀c:String,(∀S:cA->Option Bool,True)->True:=λ_ _ _ _=>trivial
 cases t<;>simp only[kX,reduceCtorEq] at e<;>(try (cases (show w=_ from ZH)))
 all_goals
  cases d<;>simp only[RB,reduceCtorEq] at e<;>subst e
  all_goals first
   | (cases hx.oA;cases (show u=Value.none from rx);exact sN PySem.W.kitx_none I.pE True.intro (by rfl) (λz=>nomatch z) XA)
   | (cases hx.bl;cases (show u=Value.bool _ from rx);exact sN PySem.W.kitx_bool I.pE True.intro (by rfl) (λz=>nomatch z) XA)
   | (cases hx.int;obtain⟨t,q'⟩:=(show ∃t,u=Value.int _ t from rx);cases q';exact sN PySem.W.kitx_int I.pE True.intro (by rfl) (λz=>nomatch z) XA)
   | (obtain⟨rfl,_⟩:=hx.str;obtain⟨t,q'⟩:=(show ∃t,u=Value.str _ t from rx);cases q';exact sN PySem.W.kitx_str I.pE True.intro (by rfl) (λz=>nomatch z) XA)
   | (obtain⟨a,vs,rfl,h2,h3⟩:=hx.l sub;cases (show u=Value.ref a from rx);obtain⟨gA,_,⟨o,n,h4,h5,_⟩,_⟩:=I.list h2;exact sN PySem.W.kitx_list I.pE ⟨o,h4,h5⟩ (by rfl) (λz=>nomatch z) XA)
   | (obtain⟨a,C,p,rfl,h2,h3,h4,_⟩:=hx.uD sub;cases (show u=Value.ref a from rx);exact sN (M6 h3) I.pE (I.HA a _ h4).1 (mGa h3) (λz=>nomatch z) XA)
   | (obtain⟨a,vs,rfl,h2,h3⟩:=hx.t sub;cases (show u=Value.ref a from rx);obtain⟨gA,_,⟨o,h4,h5,_⟩,_⟩:=I.tuple h2;exact sN PySem.W.kitx_tuple I.pE ⟨o,h4,h5⟩ (by rfl) (λz=>nomatch z) XA)
end
section
variable{X:Cx}{bA:List (eA×wB)}{Y:L2.St}{H:Hp}{s:xA}{h':DB}
def oBa(I:dA X bA Y H s)(k:∀b u,b≠e->b≠it->s.heap.get? b=some u->h'.get? b=some u)(fe:yC X bA H e)(fi:yC X bA H it)(hp:s.heap.objs.size<=p)
  (new:XD X.prog X.w (vA H p o) h' p o):dA X bA Y (vA H p o) { s with heap:=h',toks:=t' }:=by
 have hn:H p=none:=I.HA.fresh hp;have ne:∀{b:eA} {u:HO},H b=some u->b≠e/\b≠it:=λq=>⟨dF q fe.1,dF q fi.1⟩
 have nc:∀{b:eA},b ∉ [e,it]->b≠e/\b≠it:=λhc=>⟨λz=>hc (by simp[z]),λz=>hc (by simp[z])⟩
 refine I.step (g':=s.gens) (d':=s.drawn) (ch:=[e,it]) (λb hb=>?_) (λb o _ _ hc q _=>k b o (nc hc).1 (nc hc).2 q) (λb o _ _ hc q _=>⟨o.slots,k b o (nc hc).1 (nc hc).2 q⟩)
  (λb o _ q n=>by rw[iB (zE (kE (xC q) hp))];exact n)
  (λb o hc q=>⟨o,k b o (nc hc).1 (nc hc).2 q⟩) (λb xs q=>by rw[iB (dF q hn)];exact q) (λb o u q=>by rw[iB (dF q hn)];exact q) (λb ps q=>⟨#[],by rw[iB (dF q hn),q];simp⟩) (λm hm=>?_) (λb u q=>?_) I.bare
 ·have hb:b=e\/b=it:=by simpa using hb
  rcases hb with rfl | rfl
  ·exact⟨fe.2.2.2.1,fe.2.1,fe.2.2.2.2.1,fe.2.2.2.2.2⟩
  ·exact⟨fi.2.2.2.1,fi.2.1,fi.2.2.2.2.1,fi.2.2.2.2.2⟩
 ·obtain⟨o,es,ep,ho,r⟩:=hm;exact⟨o,es,ep,k _ o (gE fe.2.1) (gE fi.2.1) ho,r⟩
 ·by_cases hb:b=p
  ·subst hb;rw[fC] at q;cases q;exact new
  ·rw[iB hb] at q;refine(I.HA b u q).AJ (λc v hc z=>?_) (λc q=>by rw[iB (dF q hn)];exact q) λc xs q=>by rw[iB (dF q hn)];exact q
   have RH:c≠e/\c≠it:=by
    rcases hc with w | w
    ·rw[w];exact ne q
    ·exact ne w
   exact k c v RH.1 RH.2 z
def tBa(I:dA X bA Y H s)(k:∀b u,b≠e->b≠it->s.heap.get? b=some u->h'.get? b=some u)(fe:yC X bA H e)(fi:yC X bA H it):dA X bA Y H { s with heap:=h',toks:=t' }:=by
 have ne:∀{b:eA} {u:HO},H b=some u->b≠e/\b≠it:=λq=>⟨dF q fe.1,dF q fi.1⟩
 have nc:∀{b:eA},b ∉ [e,it]->b≠e/\b≠it:=λhc=>⟨λz=>hc (by simp[z]),λz=>hc (by simp[z])⟩
 refine I.step (g':=s.gens) (d':=s.drawn) (ch:=[e,it]) (λb hb=>?_) (λb o _ _ hc q _=>k b o (nc hc).1 (nc hc).2 q) (λb o _ _ hc q _=>⟨o.slots,k b o (nc hc).1 (nc hc).2 q⟩)
  (λ_ _ _ _ n=>n) (λb o hc q=>⟨o,k b o (nc hc).1 (nc hc).2 q⟩) (λ_ _ q=>q) (λ_ _ _ q=>q) (λb ps q=>⟨#[],by rw[q];simp⟩) (λm hm=>?_) (λb u q=>?_) I.bare
 ·have hb:b=e\/b=it:=by simpa using hb
  rcases hb with rfl | rfl
  ·exact⟨fe.2.2.2.1,fe.2.1,fe.2.2.2.2.1,fe.2.2.2.2.2⟩
  ·exact⟨fi.2.2.2.1,fi.2.1,fi.2.2.2.2.1,fi.2.2.2.2.2⟩
 ·obtain⟨o,es,ep,ho,r⟩:=hm;exact⟨o,es,ep,k _ o (gE fe.2.1) (gE fi.2.1) ho,r⟩
 ·refine(I.HA b u q).AJ (λc v hc z=>?_) (λ_ q=>q) λ_ _ q=>q
  have RH:c≠e/\c≠it:=by
   rcases hc with w | w
   ·rw[w];exact ne q
   ·exact ne w
  exact k c v RH.1 RH.2 z
end
section
variable{prog:HD}{w:DC}{A:tF}{E:cA->xA->Prop}{s:xA}
def Qw{Q:cA->xA->Prop}(q1:KJ s.heap e it c old)(q2:s.heap.IsListIter it l i)(q3:s.heap.IsList l us)(q4:us[i]?=some u)(ne:e≠it)
  (k:∀g,IsEnumOut g e it (c+1) u s.heap.objs.size->g.IsListIter it l (i+1)->g.get? s.heap.objs.size=some { cls:=.type "tuple",data:=.seq #[.int c s.toks,u] }->(∀b o,b≠e->b≠it->s.heap.get? b=some o->g.get? b=some o)->Q (.ref s.heap.objs.size) { s with heap:=g,toks:=s.toks+1 }) :
  AA (model prog w) A (Builtin.«enumerate.__next__» ⟨[.ref e],[]⟩) (λXA s'=>∃v,XA=.done (.ret v)/\Q v s') E s:=by
 obtain⟨m0,ge,dr,tk,os⟩:=s;refine FA (m:=field (.ref e) 2) (SG q1 rfl (x:=.ref it) rfl (FA (wpAny_nextOf_list_item q2 q3 q4 λm1 t1 b1=>?_)));have b1:GK it m0 m1:=b1;have e1:KJ m1 e it c old:=(b1.2 e ne).trans q1;refine FA (m:=field (.ref e) 3) (SG e1 rfl (x:=rawInt c) rfl (FA (m:=field (.ref e) 4) (SG e1 rfl (x:=.none) rfl (FA (m:=mkInt c) (wpAny_mkInt ?_)))));refine FA (m:=setField (.ref e) 3 (rawInt (c+1))) (qU e1 (by simp) λm2 e2 b2=>?_);have b2:GK e m1 m2:=b2;have e2:KJ m2 e it (c+1) old:=e2;refine FA (m:=setField (.ref e) 4 .none) (qU e2 (by simp) λm3 e3 b3=>?_);have b3:GK e m2 m3:=b3;have e3:KJ m3 e it (c+1) old:=e3;refine FA (m:=newTuple [.int c tk,u]) (wpAny_newTuple ?_);have n3:m3.objs.size=m0.objs.size:=by rw[b3.1,b2.1,b1.1]
 have lt:e<m0.objs.size:=xC q1;obtain⟨m4,z4⟩:∃m4,m3.push { cls:=.type "tuple",data:=.seq #[.int c tk,u] }=m4:=⟨_,rfl⟩
 have e4:KJ m4 e it (c+1) old:=z4 ▸ lD _ e3;have p4:m4.get? m0.objs.size=some { cls:=.type "tuple",data:=.seq #[.int c tk,u] }:=z4 ▸ n3 ▸ zH _ rfl;have k4:∀b o,b≠e->b≠it->m0.get? b=some o->m4.get? b=some o:=λb o x y q=>z4 ▸ lD _ (b3.extBut b o x (b2.extBut b o x (b1.extBut b o y q)))
 have t4:m4.IsListIter it l (i+1):=by(obtain⟨o,ho,r⟩:=(t1.extBut b2.extBut ne.symm).extBut b3.extBut ne.symm;exact⟨o,z4 ▸ lD _ ho,r⟩)
 rw[n3,z4];refine FA (m:=Io (.ref e)) ?_;unfold Io;refine FA (SG e4 rfl (x:=.none) rfl (LB ?_));simp only[iE];refine FA (wpAny_rule (FA (SG e4 rfl (x:=old) rfl (FA (qU e4 (by simp) λm5 e5 b5=>?_)))));have b5:GK e m4 m5:=b5;have e5:KJ m5 e it (c+1) u:=e5;refine FA (m:=Ho (.ref e) (.ref m0.objs.size)) ?_;unfold Ho;refine FA (qU e5 (by simp) λm6 e6 b6=>?_);have b6:GK e m5 m6:=b6;have e6:IsEnumOut m6 e it (c+1) u m0.objs.size:=e6;refine qU e6 (by simp) λm7 e7 b7=>?_
 have b7:GK e m6 m7:=b7;have st:∀b o,b≠e->m4.get? b=some o->m7.get? b=some o:=λb o x q=>b7.extBut b o x (b6.extBut b o x (b5.extBut b o x q))
 refine FA (wpAny_letGo (LB ⟨_,rfl,k m7 e7 ?_ (st _ _ (HU lt) p4) λb o x y q=>st b o x (k4 b o x y q)⟩));exact((t4.extBut b5.extBut ne.symm).extBut b6.extBut ne.symm).extBut b7.extBut ne.symm
def Rw(q1:KJ s.heap e it c old)(q2:s.heap.IsListIter it l i)(q3:s.heap.IsList l us)(q4:us[i]?=some u)(ne:e≠it)
  (k:∀g,IsEnumOut g e it (c+1) u s.heap.objs.size->g.IsListIter it l (i+1)->g.get? s.heap.objs.size=some { cls:=.type "tuple",data:=.seq #[.int c s.toks,u] }->(∀b o,b≠e->b≠it->s.heap.get? b=some o->g.get? b=some o)->Q (some (.ref s.heap.objs.size)) { s with heap:=g,toks:=s.toks+1 }) :
  AA (model prog w) A (pyNext (.ref e)) Q E s :=
 have ty:s.TypeIs (.ref e) "enumerate":=⟨_,q1,rfl⟩
 FA (Ja (r9 (name:=pA "__next__") ty ZY (V9 ZY ty Uo (Qw q1 q2 q3 q4 ne λg a b c d=>LB (k g a b c d)) (Qo _))))
def Sw(hh:A.handled=none)(q1:KJ s.heap e it c old)(q2:s.heap.IsListIter it l i)(q3:s.heap.IsList l us)(q4:us[i]?=none)
  (k:∀g,Heap.ExtBut it s.heap g->Q none { s with heap:=g }):AA (model prog w) A (pyNext (.ref e)) Q E s:=by
 have ty:s.TypeIs (.ref e) "enumerate":=⟨_,q1,rfl⟩
 refine FA (Ja (r9 (name:=pA "__next__") ty ZY (V9 ZY ty Uo ?_ (Qo _))));refine FA (m:=field (.ref e) 2) (SG q1 rfl (x:=.ref it) rfl (FA (wpAny_nextOf_list_end hh q2 q3 q4 λg x ex px=>?_)));obtain⟨o,ho,hc⟩:=px;exact FA (wpAny_isInstance (T:="StopIteration") (b:=true) ⟨o,ho,hc⟩ isSubtype_stop (LB (k _ ex)))
end
def Pw(l:eA)(us:Array cA)(n:Nat)(D1:Option eA)(sl:Array (Option cA))(c:Int)(t:iG)(hc:Ko c=true) :
  Meets (Builtin.«enumerate.__new__» ⟨[.type "enumerate",.ref l],[("start",.int c t)]⟩) (λ_ R s=>s.heap.get? l=some { cls:=.type "list",dict:=D1,data:=.seq us n,slots:=sl } /\
   R (.ok (.ret (.ref (s.heap.push { cls:=.type "list_iterator",data:=.fields #[.ref l,.int 0 0] }).objs.size)))
    { s with heap:=(s.heap.push { cls:=.type "list_iterator",data:=.fields #[.ref l,.int 0 0] }).push { cls:=.type "enumerate",data:=.fields #[.none,.bool false,.ref s.heap.objs.size,rawInt c,.none,.none] } }) :=
 .of_wp λprog w A R s h=>by
  obtain⟨hp,g,d,tk,os⟩:=s;obtain⟨hl,h⟩:=h;have sb:=sub_enumerate;have O5:Heap.IsList (Shared.heap ⟨hp,g,d,tk,os⟩) l us:=⟨_,hl,rfl,n,rfl⟩
  wp_walk using UY hl
  refine wpAny_stack_any λst=>LB ?_
  split
  ·rename_i v _ _ _ _ _;cases (v==Value.type "enumerate")
   ·wp_walk using UY hl,sU O5
    exact⟨_,rfl,h⟩
   ·wp_walk using UY hl,sU O5
    exact⟨_,rfl,h⟩
  ·wp_walk using UY hl,sU O5
   exact⟨_,rfl,h⟩
def Mw(a:cA)(c:Int)(t:iG):checkTypeCall "enumerate" ⟨[a],[("start",.int c t)]⟩=pure ():=by kernel_rfl
def Nw(a:cA)(c:Int)(t:iG):checkBuiltinCall "enumerate.__new__" ⟨[.type "enumerate",a],[("start",.int c t)]⟩=pure ():=by kernel_rfl
def Ow:Meets (Builtin.«object.__init__» ⟨[a,b],kw⟩) (λ_ R s=>s.TypeIs a "enumerate"/\R (.ok (.ret .none)) s):=by
 refine Meets.of_wp λprog w A R s hs=>?_
 obtain⟨ty,hq⟩:=hs;have hl:typeLookup (.type "enumerate") "__init__"=pure (some (.builtin "object.__init__")):=N9.init.lookup;have hm:=N9.made;have VB:(some "enumerate.__new__" != some "object.__new__")=true:=by decide
 repeat (any_goals (first | assumption | wp_step))
 exact⟨_,rfl,hq⟩
def Lw(a b:cA)(c:Int)(t:iG):argsOk "object.__init__" ⟨[a,b],[("start",.int c t)]⟩:=by
 unfold argsOk;rw[signature?_of (id:="object.__init__") (n:="__init__".toList.reverse) (o:="object".toList.reverse) (by kernel_rfl) F.owner_object]
 kernel_rfl
section
variable{prog:HD}{w:DC}{A:tF}{E:cA->xA->Prop}{s:xA}
def Tw(hc:Ko c=true)(q:s.heap.IsList l us)
  (k:∀g,KJ g (s.heap.objs.size+1) s.heap.objs.size c .none->g.IsListIter s.heap.objs.size l 0->(∀b o,s.heap.get? b=some o->g.get? b=some o)->Q (.ref (s.heap.objs.size+1)) { s with heap:=g }) :
  AA (model prog w) A (call (.type "enumerate") [.ref l] [("start",.int c t)]) Q E s:=by
 have ft:=N9;obtain⟨c0,tl,a0a⟩:=ft.mro;have zZa:=ft.made;have h0a:=ft.sub;obtain⟨⟨cl,D1,dt,sl⟩,hl,JD,n,hd⟩:=q;have JD:cl=.type "list":=JD;have hd:dt=.seq us n:=hd;subst JD hd;refine LU (codeAny_of_tree ?_);change AA _ _ (callAny (.type "enumerate") _) _ _ _;refine LB ⟨fZ _ (by left),codeAny_builtin F.entry_type_call ?_⟩;rw[Around.under_plain (weight_type_call_type "enumerate" _ _) (units_type_call_type "enumerate" _ _)];have h1:=ft.notType;have h2:=ft.canCreate;have h3:=Mw (.ref l) c t
 repeat (any_goals (first | assumption | wp_step))
 refine qP (kU ft.plain F.entry_enumerate_new (wpAny_of_eq (Nw (.ref l) c t) (Pw l us n D1 sl c t hc prog w A.in1 (wants (λobj s1=>s1.TypeIs obj "enumerate"/\Q obj s1) E) s ⟨hl, ?_⟩))) λr s1 hr=>?_
 ·have hz:(s.heap.push { cls:=.type "list_iterator",data:=.fields #[.ref l,.int 0 0] }).objs.size=s.heap.objs.size+1:=dq ..;change _/\_;rw[hz]
  have he:KJ ((s.heap.push { cls:=.type "list_iterator",data:=.fields #[.ref l,.int 0 0] }).push { cls:=.type "enumerate",data:=.fields #[.none,.bool false,.ref s.heap.objs.size,rawInt c,.none,.none] }) (s.heap.objs.size+1) s.heap.objs.size c .none:=by
   have x:=zH (s.heap.push { cls:=.type "list_iterator",data:=.fields #[.ref l,.int 0 0] }) (o:={ cls:=.type "enumerate",data:=.fields #[.none,.bool false,.ref s.heap.objs.size,rawInt c,.none,.none] }) rfl
   rwa[hz] at x
  exact⟨⟨_,he,rfl⟩,k _ he ⟨_,lD _ (zH _ rfl),rfl,rfl⟩ λb o x=>lD _ (lD _ x)⟩
 ·cases r with
  |error e=>exact hr
  |ok fl =>
   cases fl with
   |ret obj =>
    have hT:s1.TypeIs obj "enumerate":=hr.1;have hli:=ft.init.lookup;have hbi:=ft.init.bind obj
    repeat (any_goals (first | assumption | wp_step))
    refine qP (kU ft.init.plain F.entry_object_init (ft.init.check _ _ _ _ _ _ _ _ hT (Lw obj (.ref l) c t) (Ow prog w A.in1 (wants (λr s2=>r=.none/\Q obj s2) E) s1 ⟨hT,rfl,hr.2⟩))) λr2 s2 dE=>?_
    cases r2 with
    |error e=>exact dE
    |ok qz =>
     cases qz with
     |ret r =>
      obtain⟨rfl,hq⟩:=dE
      repeat (any_goals (first | assumption | wp_step))
     |_=>exact dE.elim
   |_=>exact hr.elim
end
noncomputable def nM(K:fA)(a:eA)(lo:Int):It :=
 ⟨λi H=>∃xs x,CB K H a xs/\xs[i]?=some x,λi H x H'=>∃p y,H p=none/\x=.ref p/\H'=vA H p (.t [.int (lo+(i:Int)),y])/\∀xs,CB K H a xs->xs[i]?=some y,λi H=>∃xs,CB K H a xs/\xs.length<=i⟩
def jn{K:fA}(a e it:eA)(lo:Int)(bf:e≠it):Turn P w K (.Tuple elts k0 pos) (nM K a lo) [e,it] e (λi h=>(∃old,KJ h e it (lo+(i:Int)) old)/\h.IsListIter it a i) where
 mem:=by simp
 obj:=λi h st b hb=>by
  obtain⟨⟨old,h1⟩,o,h2,c,d⟩:=st;have hb:b=e\/b=it:=by simpa using hb
  rcases hb with rfl | rfl
  ·exact⟨_,h1,λv z=>by
    have z':Data.fields _=Data.cell v:=z
    cases z'⟩
  ·exact⟨o,h2,λv z=>by rw[d] at z;cases z⟩
 keep:=λi h h' st k=>by(obtain⟨⟨old,h1⟩,h2⟩:=st;exact⟨⟨old,k e (by simp) _ h1⟩,h2.at λo q=>k it (by simp) o q⟩)
 item:=by
  intro X hP hw hK hc i bA s Y H E I hf st hg;subst hP hw hK;obtain⟨xs,x,hq,hx⟩:=hg;obtain⟨gA,rv,p,hz⟩:=I.list hq;obtain⟨u,hu,ru⟩:=rv.get hx;obtain⟨⟨old,he⟩,hit⟩:=st;have fe:=hf e (by simp);have fi:=hf it (by simp);refine Rw he hit p.isList (by simpa using hu) bf λh' ho O' hT hk=>?_
  refine⟨_,rfl,wpAny_letOwnedTupleGo_enum ho λh2 O_ UH=>?_⟩;have GW:e<s.heap.objs.size:=xC he;have K':it<s.heap.objs.size:=by obtain⟨_,q,_⟩:=hit;exact xC q
  have ke:∀b u,b≠e->b≠it->s.heap.get? b=some u->h2.get? b=some u:=λb u n1 n2 q=>(UH.2 b n1).trans (hk b u n1 n2 q)
  have A_:h2.get? s.heap.objs.size=some { cls:=.type "tuple",data:=.seq #[.int (lo+(i:Int)) s.toks,u] }:=(UH.2 _ (HU GW)).trans hT;have gJ:H s.heap.objs.size=none:=I.HA.fresh (HB _);have I2:dA X bA Y (vA H s.heap.objs.size (.t [.int (lo+(i:Int)),x])) { s with heap:=h2,toks:=s.toks+1 }:=oBa I ke fe fi (HB _) ⟨by rw[dM];simp,[.int (lo+(i:Int)) s.toks,u],.cons ⟨_,rfl⟩ (.cons ru .nil),⟨_,A_,rfl,_,rfl⟩⟩;refine⟨.ref s.heap.objs.size,vA H s.heap.objs.size (.t [.int (lo+(i:Int)),x]),I2,rfl,⟨s.heap.objs.size,x,gJ,rfl,rfl,λys hy=>by rw[I.Yh hy hq];exact hx⟩,⟨⟨_,by rw[Int.natCast_add,Int.natCast_one,<- Int.add_assoc];exact O_⟩,O'.at λo q=>(UH.2 it bf.symm).trans q⟩,λb hb=>?_⟩
  ·have hb:b=e\/b=it:=by simpa using hb
   rcases hb with rfl | rfl
   ·rw[iB (zE GW)];exact fe.1
   ·rw[iB (zE K')];exact fi.1
 done:=by(intro X hP hw hK hc i bA s Y H E I hf st hg;subst hP hw hK;obtain⟨xs,hq,hx⟩:=hg;obtain⟨gA,rv,p,hz⟩:=I.list hq;obtain⟨⟨old,he⟩,hit⟩:=st;have hl:=rv.length;exact Sw (I.ok.hd hc) he hit p.isList (by simp;lia) λh' eb=>⟨rfl,tBa (t':=s.toks) I (λb o _ n2 q=>eb b o n2 q) (hf e (by simp)) (hf it (by simp))⟩)
 self:=λ_ _ _ _ _ st h=>by(obtain⟨⟨old,he⟩,_⟩:=st;exact R9 he h)
section
variable{X:Cx}
noncomputable def o5(K:fA)(lo:Int)(ta:TA):TI:=λY H R=>ta Y H λvs H1=>∃a,vs=[.ref a]/\(∃xs,CB K H1 a xs)/\R (nM K a lo) H1
def Fc:uN "enumerate"=some (.type "enumerate"):=by left
def tj{ta:TA}(hg:Gl X "enumerate")(hm:X.mg "enumerate"=none)(ha:PA X [a] ta)(hs:UB [a] X.env=[(false,eval a X.env)]:=by rfl):PI X (.Tuple elts k0 mXa) (.Call (.Name "enumerate" p) [a] [] pos) (o5 X.K 0 ta):=by
 intro bA s Y H R I h;refine Call_ (qO I hg hm Fc (RY (NA (ha pos bA s Y H _ I h) λus s1 hz=>?_) hs rfl));obtain⟨vs,H1,I1,r1,q1⟩:=hz;obtain⟨l,e,⟨xs,hq⟩,q⟩:=q1;subst e
 cases r1 with
 |cons r rr =>
  cases rr;cases r;obtain⟨gA,rv,p,hz⟩:=I1.list hq;refine call_enumerate_list p.isList λh' he hit hsz hk=>?_
  have I2:dA X bA Y H1 { s1 with heap:=h' }:=I1.kept (t':=s1.toks) hk;refine R9 he ?_;refine⟨s1.heap.objs.size+1,[s1.heap.objs.size+1,s1.heap.objs.size],_,_,H1,rfl,I2,jn l _ _ 0 (Up _),⟨⟨_,by simpa using he⟩,hit⟩,λb hb=>?_,q⟩;have hb:b=s1.heap.objs.size+1\/b=s1.heap.objs.size:=by simpa using hb
  rcases hb with rfl | rfl
  ·exact I1.LM (JU _) (I1.HA.fresh (JU _))
  ·exact I1.LM (HB _) (I1.HA.fresh (HB _))
def oPa{j:Nat}(hg:Gl X "enumerate")(hm:X.mg "enumerate"=none)(ha:PA X [a] ta)(hs:UB [a] X.env=[(false,eval a X.env)]:=by rfl) :
  PI X (.Tuple elts k0 mXa) (.Call (.Name "enumerate" p) [a] [⟨some "start",.Constant (.int 1) j kq,kp⟩] pos) (o5 X.K 1 ta):=by
 intro bA s Y H R I h;refine pU (qO I hg hm Fc ?_);refine PySem.W.callWith_of (P:=λ_=>True) (by rw[hs];rfl) (λ_ _=>⟨.machine,.inr (.inl rfl),PySem.W.Looks.now⟩) (evalArgs_kw2 rfl (NA (ha pos bA s Y H _ I h) λus s1 hz=>?_) hs);obtain⟨vs,H1,I1,r1,q1⟩:=hz;obtain⟨l,e,⟨xs,hq⟩,q⟩:=q1;subst e
 cases r1 with
 |cons r rr =>
  cases rr;cases r;refine NA (tPa (nm:=some "start") (kpos:=kp) (kj (i:=1) (pos:=kq)) uPa pos bA s1 Y H1 (λzs H2=>zs=[.int 1]/\H2=H1) I1 ⟨rfl,rfl⟩) λws s2 ⟨zs,H2,I2,rz,ez,eh⟩=>⟨trivial, ?_⟩
  subst ez eh
  cases rz with
  |cons rz rn =>
   cases rn;obtain⟨t,rfl⟩:=rz;obtain⟨gA,rv,p,hz⟩:=I2.list hq;refine Tw (c:=1) (by decide) p.isList λh' he hit hk=>?_
   have I3:dA X bA Y H2 { s2 with heap:=h' }:=I2.kept (t':=s2.toks) hk;refine R9 he ?_;refine⟨s2.heap.objs.size+1,[s2.heap.objs.size+1,s2.heap.objs.size],_,_,H2,rfl,I3,jn l _ _ 1 (Up _),⟨⟨_,by simpa using he⟩,hit⟩,λb hb=>?_,q⟩;have hb:b=s2.heap.objs.size+1\/b=s2.heap.objs.size:=by simpa using hb
   rcases hb with rfl | rfl
   ·exact I2.LM (JU _) (I2.HA.fresh (JU _))
   ·exact I2.LM (HB _) (I2.HA.fresh (HB _))
end
section
variable{K:fA}{U U1:Env}
def mH{l:List O}(h:(l.set i a)[j]?=some b):(j=i/\b=a/\i<l.length)\/(j≠i/\l[j]?=some b):=by
 by_cases xI:j=i
 ·subst xI;by_cases hl:j<l.length
  ·rw[gI hl] at h;exact .inl ⟨rfl,(uF h).symm,hl⟩
  ·rw[XO (by rw[SE];lia)] at h;cases h
 ·rw[jE (λz=>xI z.symm)] at h;exact .inr ⟨xI,h⟩
def CA.unset(r:CA K U Y H G)(i:Nat):CA K (U.set i .un) Y H G:=by
 refine⟨by rw[SE];exact r.len,r.sub,λj d h=>?_,λj d p l h=>?_,λj k d p l d' p' l' a h1 h2 h3 h4=>?_⟩
 ·rcases mH h with ⟨_,z,_⟩ | ⟨_,z⟩
  ·cases z
  ·exact r.sh j d z
 ·rcases mH h with ⟨_,z,_⟩ | ⟨_,z⟩
  ·cases z
  ·exact r.ow j d p l z
 ·rcases mH h1 with ⟨_,z,_⟩ | ⟨_,z⟩
  ·cases z
  ·rcases mH h2 with ⟨_,z',_⟩ | ⟨_,z'⟩
   ·cases z'
   ·exact r.inj _ _ _ _ _ _ _ _ _ z z' h3 h4
def yA.unset{i:Nat}{a:eA}(h:yA (U.set i .un) Y a):yA U Y a:=by
 obtain⟨j,d,p,l,h1,h2⟩:=h;rcases mH h1 with ⟨_,z,_⟩ | ⟨_,z⟩
 ·cases z
 ·exact⟨j,d,p,l,z,h2⟩
def CA.mR(r:CA K U Y H G){d:D}(h:U[i]?=some (.ow d p l))(hx:Y[i]?=some (some (.ref a))):¬yA (U.set i .un) Y a:=by
 rintro⟨j,d',p',l',h1,h2⟩
 rcases mH h1 with ⟨_,z,_⟩ | ⟨ne,z⟩
 ·cases z
 ·exact ne (r.inj _ _ _ _ _ _ _ _ _ z h h2 hx)
def CA.grow(r:CA K U Y H G)(hv:H a=some ob)(g:G a=none)(no:¬yA U Y a):CA K U Y H (vA G a ob):=by
 refine⟨r.len,λb u e=>?_,λi d e=>?_,λi d p l e=>?_,r.inj⟩
 ·by_cases hb:b=a
  ·subst hb;rw[fC] at e;rw[hv];exact e
  ·rw[iB hb] at e;exact r.sub b u e
 ·obtain⟨v,h1,h2⟩:=r.sh i d e;exact⟨v,h1,kA.mono (Sm.put g) d h2⟩
 ·obtain⟨b,h1,h2,h3⟩:=r.ow i d p l e;have hb:b≠a:=λz=>by subst z;exact no ⟨i,d,p,l,e,h1⟩
  exact⟨b,h1,by rw[iB hb];exact h2,h3.mono (Sm.put g) λ_ z=>z⟩
def CA.QQ(r:CA K (U.set i .un) Y H G){d:D}{v:V}(hx:Y[i]?=some (some v))(hr:kA K G d v):CA K (U.set i (.sh d)) Y H G:=by
 have key:∀(j:Nat) (sl:Sl),(U.set i (.sh d))[j]?=some sl->(j=i/\sl=.sh d)\/(U.set i .un)[j]?=some sl:=λj sl h=>by
  rcases mH h with ⟨e,z,_⟩ | ⟨ne,z⟩
  ·exact .inl ⟨e,z⟩
  ·exact .inr (by rw[jE (λq=>ne q.symm)];exact z)
 refine⟨by have:=r.len;rw[SE] at this ⊢;exact this,r.sub,λj d' h=>?_,λj d' p l h=>?_,λj k d1 p l d2 p' l' a h1 h2 h3 h4=>?_⟩
 ·rcases key j _ h with ⟨rfl,z⟩ | z
  ·cases z;exact⟨v,hx,hr⟩
  ·exact r.sh j d' z
 ·rcases key j _ h with ⟨rfl,z⟩ | z
  ·cases z
  ·exact r.ow j d' p l z
 ·rcases key j _ h1 with ⟨rfl,z⟩ | z
  ·cases z
  ·rcases key k _ h2 with ⟨rfl,z'⟩ | z'
   ·cases z'
   ·exact r.inj _ _ _ _ _ _ _ _ _ z z' h3 h4
def CA.AO(r:CA K (U.set i .un) Y H G){d:D}{a:eA}(hx:Y[i]?=some (some (.ref a)))(g:G a=none)(ho:GG K H G a d)(no:¬yA (U.set i .un) Y a):CA K (U.set i (.ow d p l)) Y H G:=by
 have key:∀(j:Nat) (sl:Sl),(U.set i (.ow d p l))[j]?=some sl->(j=i/\sl=.ow d p l)\/(U.set i .un)[j]?=some sl:=λj sl h=>by
  rcases mH h with ⟨e,z,_⟩ | ⟨ne,z⟩
  ·exact .inl ⟨e,z⟩
  ·exact .inr (by rw[jE (λq=>ne q.symm)];exact z)
 refine⟨by have:=r.len;rw[SE] at this ⊢;exact this,r.sub,λj d' h=>?_,λj d' p' l' h=>?_,λj k d1 p1 l1 d2 p2 l2 b h1 h2 h3 h4=>?_⟩
 ·rcases key j _ h with ⟨rfl,z⟩ | z
  ·cases z
  ·exact r.sh j d' z
 ·rcases key j _ h with ⟨rfl,z⟩ | z
  ·cases z;exact⟨a,hx,g,ho⟩
  ·exact r.ow j d' p' l' z
 ·rcases key j _ h1 with ⟨rfl,z⟩ | z
  ·rcases key k _ h2 with ⟨rfl,z'⟩ | z'
   ·rfl
   ·rw[hx] at h3;cases h3;exact absurd ⟨k,_,_,_,z',h4⟩ no
  ·rcases key k _ h2 with ⟨rfl,z'⟩ | z'
   ·rw[hx] at h4;cases h4;exact absurd ⟨j,_,_,_,z,h3⟩ no
   ·exact r.inj _ _ _ _ _ _ _ _ _ z z' h3 h4
def yA.QQ{i:Nat}{a:eA}(h:yA (U.set i (.sh d)) Y a):yA (U.set i .un) Y a:=by
 obtain⟨j,d',p,l,h1,h2⟩:=h;rcases mH h1 with ⟨_,z,_⟩ | ⟨ne,z⟩
 ·cases z
 ·exact⟨j,d',p,l,by rw[jE (λq=>ne q.symm)];exact z,h2⟩
def yA.AO{d:D}(hx:Y[i]?=some (some (.ref b)))(h:yA (U.set i (.ow d p l)) Y a):a=b\/yA (U.set i .un) Y a:=by
 obtain⟨j,d',p',l',h1,h2⟩:=h;rcases mH h1 with ⟨rfl,z,_⟩ | ⟨ne,z⟩
 ·rw[hx] at h2;cases h2;exact .inl rfl
 ·exact .inr ⟨j,d',p',l',by rw[jE (λq=>ne q.symm)];exact z,h2⟩
def vF.grow(r:vF K H G own new Y h x)(s:fB G G2)(k:∀a d,h=.val (.ow d)->x=.ref a->G2 a=none)(w:∀a,qF a->own a):vF K H G2 qF new Y h x:=by
 cases h with
 |slot i=>exact r
 |val v =>
  cases v with
  |sh d=>exact kA.mono s d r
  |ow d =>
   obtain⟨a,rfl,g,o,n,m⟩:=r;exact⟨a,rfl,k a d rfl rfl,o.mono s λ_ z=>z,λz=>n (w a z),m⟩
  |od d=>exact r.elim
theorem vE.iN:∀{hs:List Hd} {xs:List V} {a:eA},vE K H G own new Y hs xs->HG hs xs a->¬own a/\new a/\H a≠none/\G a=none
 |[],_,_,h,t=>by cases (show _=[] from h);exact t.elim
 |h::hs,_,a,r,t=>by
  obtain⟨x,r',rfl,h1,h2,h3⟩:=r;have tl:HG hs r' a->¬own a/\new a/\H a≠none/\G a=none:=λt=>vE.iN h2 t
  cases h with
  |slot i=>exact tl t
  |val v =>
   cases v with
   |sh d=>exact tl t
   |ow d =>
    rcases t with rfl | t
    ·obtain⟨b,e,g,o,n,m⟩:=h1;cases e;obtain⟨vs,hv⟩:=o.there;exact⟨n,m,by rw[hv];simp,g⟩
    ·exact tl t
   |od d=>exact h1.elim
theorem vE.grow:∀{hs:List Hd} {xs:List V},vE K H G own new Y hs xs->∀{G2:Hp},fB G G2->(∀a,HG hs xs a->G2 a=none)->(∀a,qF a->own a)->vE K H G2 qF new Y hs xs
 |[],_,h,_,_,_,_=>h
 |h::hs,_,r,G2,s,k,w=>by
  obtain⟨x,r',rfl,h1,h2,h3⟩:=r;refine⟨x,r',rfl,h1.grow s (λa d e1 e2=>k a (by subst e1;exact .inl e2)) w,vE.grow h2 s (λa t=>k a ?_) w,h3⟩
  cases h with
  |slot i=>exact t
  |val v =>
   cases v with
   |sh d=>exact t
   |ow d=>exact .inr t
   |od d=>exact h1.elim
def CA.nil(s:fB G H):CA K [] [] H G:=⟨rfl,s,λi d h=>by simp at h,λi d p l h=>by simp at h,λi j d p l d' p' l' a h=>by simp at h⟩
def CA.aS(r:CA K as τ H G)(h:kA K G d x):CA K (.sh d::as) (some x :: τ) H G:=by
 refine⟨by simp[r.len],r.sub,λi d' e=>?_,λi d' p l e=>?_,λi j d1 p l d2 p' l' a h1 h2 h3 h4=>?_⟩
 ·cases i with
  |zero=>simp at e;subst e;exact⟨x,rfl,h⟩
  |succ i=>simpa using r.sh i d' (by simpa using e)
 ·cases i with
  |zero=>simp at e
  |succ i=>simpa using r.ow i d' p l (by simpa using e)
 ·cases i with
  |zero=>simp at h1
  |succ i =>
   cases j with
   |zero=>simp at h2
   |succ j=>exact congrArg (·+1) (r.inj i j d1 p l d2 p' l' a (by simpa using h1) (by simpa using h2) (by simpa using h3) (by simpa using h4))
def CA.sd(r:CA K as τ H G)(g:G a=none)(o:GG K H G a d)(n:¬yA as τ a):CA K (.ow d p l::as) (some (.ref a) :: τ) H G:=by
 refine⟨by simp[r.len],r.sub,λi d' e=>?_,λi d' p l e=>?_,λi j d1 p1 l1 d2 p' l' b h1 h2 h3 h4=>?_⟩
 ·cases i with
  |zero=>simp at e
  |succ i=>simpa using r.sh i d' (by simpa using e)
 ·cases i with
  |zero =>
   simp only[FF,RB,Sl.ow.injEq] at e;obtain⟨rfl,_,_⟩:=e;exact⟨a,rfl,g,o⟩
  |succ i=>simpa using r.ow i d' p l (by simpa using e)
 ·cases i with
  |zero =>
   simp only[FF,RB,V.ref.injEq] at h3;subst h3
   cases j with
   |zero=>rfl
   |succ j=>exact absurd ⟨j,d2,p',l',by simpa using h2,by simpa using h4⟩ n
  |succ i =>
   cases j with
   |zero =>
    simp only[FF,RB,V.ref.injEq] at h4;subst h4;exact absurd ⟨i,d1,p1,l1,by simpa using h1,by simpa using h3⟩ n
   |succ j=>exact congrArg (·+1) (r.inj i j d1 p1 l1 d2 p' l' b (by simpa using h1) (by simpa using h2) (by simpa using h3) (by simpa using h4))
def yA.cons{as:List Sl}{τ:St}{sl:Sl}{v:Option V}{a:eA}(h:yA (sl::as) (v :: τ) a):(∃d p l,sl=.ow d p l/\v=some (.ref a))\/yA as τ a:=by
 obtain⟨i,d,p,l,h1,h2⟩:=h
 cases i with
 |zero=>exact .inl ⟨d,p,l,by simpa using h1,by simpa using h2⟩
 |succ i=>exact .inr ⟨i,d,p,l,by simpa using h1,by simpa using h2⟩
structure Iq(K:fA)(U:Env)(Y:St)(H G:Hp)(hs:List Hd)(xs:List V)(as:List Sl)(U1:Env)(G2:Hp):Prop where
 gg:fB G G2
 gn:∀a,G2 a≠none->G a≠none\/yA U Y a\/HG hs xs a
 ra:CA K as (xs.map some) H G2
 rc:CA K U1 Y H G2
 ao:∀a,yA as (xs.map some) a->yA U Y a\/HG hs xs a
 an:∀a,yA as (xs.map some) a->¬yA U1 Y a
 ro:∀a,yA U1 Y a->yA U Y a
theorem sO:∀(hs:List Hd) (bA:List Bool) (U:Env) (G:Hp) (xs:List V) (as:List Sl) (U1:Env),CA K U Y H G->vE K H G (yA U Y) new Y hs xs->aAj bA hs U=some (as,U1) ->
  ∃G2,Iq K U Y H G hs xs as U1 G2
 |[],bA,U,G,xs,as,U1,r,h,e=>by
  cases (show xs=[] from h)
  cases bA with
  |cons p ps=>cases e
  |nil =>
   simp only[aAj,RB,ND] at e;obtain⟨rfl,rfl⟩:=e;exact⟨G,fB.refl _,λa z=>.inl z,CA.nil r.sub,r,λa ⟨i,d,p,l,z,_⟩=>by simp at z,λa ⟨i,d,p,l,z,_⟩=>by simp at z,λ_ z=>z⟩
 |.val (.sh d)::hs,bA,U,G,xs,as,U1,r,h,e=>by
  obtain⟨x,r',rfl,h1,h2,h3⟩:=h
  cases bA with
  |nil=>cases e
  |cons p ps =>
   simp only[aAj] at e
   cases q:aAj ps hs U with
   |none=>rw[q] at e;cases e
   |some y =>
    obtain⟨QA,U'⟩:=y;rw[q] at e;simp only[WD,RB,ND] at e;obtain⟨rfl,rfl⟩:=e;obtain⟨G2,L⟩:=sO hs ps U G r' QA U' r h2 q;refine⟨G2,L.gg,L.gn,L.ra.aS (kA.mono L.gg d h1),L.rc,λa z=>?_,λa z=>?_,L.ro⟩
    ·rcases z.cons with ⟨_,_,_,z,_⟩ | z
     ·cases z
     ·exact L.ao a z
    ·rcases z.cons with ⟨_,_,_,z,_⟩ | z
     ·cases z
     ·exact L.an a z
 |.val (.ow d)::hs,bA,U,G,xs,as,U1,r,h,e=>by
  obtain⟨x,r',rfl,h1,h2,h3⟩:=h;obtain⟨b,rfl,g,o,n,m⟩:=h1;have nt:¬HG hs r' b:=h3 d b rfl rfl
  cases bA with
  |nil=>cases e
  |cons p ps =>
   simp only[aAj] at e
   cases q:aAj ps hs U with
   |none=>rw[q] at e;cases e
   |some y =>
    obtain⟨QA,U'⟩:=y;rw[q] at e;simp only[WD,RB,ND] at e;obtain⟨rfl,rfl⟩:=e
    cases p with
    |true =>
     obtain⟨G2,L⟩:=sO hs ps U G r' QA U' r h2 q
     have g2:G2 b=none:=by
      cases w:G2 b with
      |none=>rfl
      |some o' =>
       rcases L.gn b (by rw[w];simp) with z | z | z
       ·exact absurd g z
       ·exact absurd z n
       ·exact absurd z nt
     have nb:¬yA QA (r'.map some) b:=λz=>by
      rcases L.ao b z with z | z
      ·exact n z
      ·exact nt z
     refine⟨G2,L.gg,λa z=>?_,L.ra.sd g2 (o.mono L.gg λ_ z=>z) nb,L.rc,λa z=>?_,λa z=>?_,L.ro⟩
     ·rcases L.gn a z with z | z | z
      ·exact .inl z
      ·exact .inr (.inl z)
      ·exact .inr (.inr (.inr z))
     ·rcases z.cons with ⟨_,_,_,_,z⟩ | z
      ·cases z;exact .inr (.inl rfl)
      ·rcases L.ao a z with z | z
       ·exact .inl z
       ·exact .inr (.inr z)
     ·rcases z.cons with ⟨_,_,_,_,z⟩ | z
      ·cases z;exact λw=>n (L.ro _ w)
      ·exact L.an a z
    |false =>
     obtain⟨ob,hv,hr⟩:=o.put
     have tb:∀a,HG hs r' a->(vA G b ob) a=none:=λa z=>by
      have hb:a≠b:=λw=>by subst w;exact nt z
      rw[iB hb];exact(h2.iN z).2.2.2
     obtain⟨G2,L⟩:=sO hs ps U (vA G b ob) r' QA U' (r.grow hv g n) (h2.grow (fB.put g) tb λ_ z=>z) q;refine⟨G2,(fB.put g).trans L.gg,λa z=>?_,L.ra.aS ?_,L.rc,λa z=>?_,λa z=>?_,L.ro⟩
     ·by_cases hb:a=b
      ·subst hb;exact .inr (.inr (.inl rfl))
      ·rcases L.gn a z with z | z | z
       ·rw[iB hb] at z;exact .inl z
       ·exact .inr (.inl z)
       ·exact .inr (.inr (.inr z))
     ·exact hr _ (Sm.of ((fB.put g).trans L.gg)) (L.gg _ _ fC)
     ·rcases z.cons with ⟨_,_,_,z,_⟩ | z
      ·simp at z
      ·rcases L.ao a z with z | z
       ·exact .inl z
       ·exact .inr (.inr z)
     ·rcases z.cons with ⟨_,_,_,z,_⟩ | z
      ·simp at z
      ·exact L.an a z
 |.slot i::hs,bA,U,G,xs,as,U1,r,h,e=>by
  obtain⟨x,r',rfl,h1,h2,h3⟩:=h;have h1:Y[i]?=some (some x):=h1
  cases bA with
  |nil=>cases e
  |cons p ps =>
   simp only[aAj] at e;split at e
   ·rename_i d hd
    cases q:aAj ps hs U with
    |none=>rw[q] at e;cases e
    |some y =>
     obtain⟨QA,U'⟩:=y;rw[q] at e;simp only[WD,RB,ND] at e;obtain⟨rfl,rfl⟩:=e;obtain⟨G2,L⟩:=sO hs ps U G r' QA U' r h2 q;obtain⟨v,h4,h5⟩:=r.sh i d hd;rw[h1] at h4;cases h4;refine⟨G2,L.gg,L.gn,L.ra.aS (kA.mono L.gg d h5),L.rc,λa z=>?_,λa z=>?_,L.ro⟩
     ·rcases z.cons with ⟨_,_,_,z,_⟩ | z
      ·cases z
      ·exact L.ao a z
     ·rcases z.cons with ⟨_,_,_,z,_⟩ | z
      ·cases z
      ·exact L.an a z
   ·rename_i d pin lk hd;obtain⟨b,h4,g,o⟩:=r.ow i d pin lk hd;rw[h1] at h4;cases h4;have uQ:yA U Y b:=⟨i,d,pin,lk,hd,h1⟩
    have nt:¬HG hs r' b:=λz=>(h2.iN z).1 uQ
    have nu:¬yA (U.set i .un) Y b:=r.mR hd h1
    cases p with
    |true =>
     simp only at e
     cases q:aAj ps hs (U.set i .un) with
     |none=>rw[q] at e;cases e
     |some y =>
      obtain⟨QA,U'⟩:=y;rw[q] at e;simp only[WD,RB,ND] at e;obtain⟨rfl,rfl⟩:=e;obtain⟨G2,L⟩:=sO hs ps (U.set i .un) G r' QA U' (r.unset i) (h2.grow (fB.refl _) (λa z=>(h2.iN z).2.2.2) λa z=>z.unset) q
      have g2:G2 b=none:=by
       cases w:G2 b with
       |none=>rfl
       |some o' =>
        rcases L.gn b (by rw[w];simp) with z | z | z
        ·exact absurd g z
        ·exact absurd z nu
        ·exact absurd z nt
      have nb:¬yA QA (r'.map some) b:=λz=>by
       rcases L.ao b z with z | z
       ·exact nu z
       ·exact nt z
      refine⟨G2,L.gg,λa z=>?_,L.ra.sd g2 (o.mono L.gg λ_ z=>z) nb,L.rc,λa z=>?_,λa z=>?_,λa z=>(L.ro a z).unset⟩
      ·rcases L.gn a z with z | z | z
       ·exact .inl z
       ·exact .inr (.inl z.unset)
       ·exact .inr (.inr z)
      ·rcases z.cons with ⟨_,_,_,_,z⟩ | z
       ·cases z;exact .inl uQ
       ·rcases L.ao a z with z | z
        ·exact .inl z.unset
        ·exact .inr z
      ·rcases z.cons with ⟨_,_,_,_,z⟩ | z
       ·cases z;exact λw=>nu (L.ro _ w)
       ·exact L.an a z
    |false =>
     simp only at e;split at e
     ·cases e
     ·cases q:aAj ps hs (U.set i (.sh d)) with
      |none=>rw[q] at e;cases e
      |some y =>
       obtain⟨QA,U'⟩:=y;rw[q] at e;simp only[WD,RB,ND] at e;obtain⟨rfl,rfl⟩:=e;obtain⟨ob,hv,hr⟩:=o.put
       have tb:∀a,HG hs r' a->(vA G b ob) a=none:=λa z=>by
        have hb:a≠b:=λw=>by subst w;exact nt z
        rw[iB hb];exact(h2.iN z).2.2.2
       have rb:∀G2,fB (vA G b ob) G2->kA K G2 d (.ref b):=λG2 s2=>hr _ (Sm.of ((fB.put g).trans s2)) (s2 _ _ fC)
       obtain⟨G2,L⟩:=sO hs ps (U.set i (.sh d)) (vA G b ob) r' QA U' (((r.unset i).grow hv g nu).QQ h1 (rb _ (fB.refl _)))
        (h2.grow (fB.put g) tb λa z=>z.QQ.unset) q
       refine⟨G2,(fB.put g).trans L.gg,λa z=>?_,L.ra.aS (rb G2 L.gg),L.rc,λa z=>?_,λa z=>?_,λa z=>(L.ro a z).QQ.unset⟩
       ·by_cases hb:a=b
        ·subst hb;exact .inr (.inl uQ)
        ·rcases L.gn a z with z | z | z
         ·rw[iB hb] at z;exact .inl z
         ·exact .inr (.inl z.QQ.unset)
         ·exact .inr (.inr z)
       ·rcases z.cons with ⟨_,_,_,z,_⟩ | z
        ·cases z
        ·rcases L.ao a z with z | z
         ·exact .inl z.QQ.unset
         ·exact .inr z
       ·rcases z.cons with ⟨_,_,_,z,_⟩ | z
        ·cases z
        ·exact L.an a z
   ·cases e
end
section
variable{K:fA}
def CA.keep(r:CA K U Y H G)(e:Ext own H G H' G')(n:∀a,yA U Y a->¬own a)(s:fB G' H'):CA K U Y H' G':=by
 refine⟨r.len,s,λi d h=>?_,λi d p l h=>?_,r.inj⟩
 ·obtain⟨v,h1,h2⟩:=r.sh i d h;exact⟨v,h1,kA.mono e.gg d h2⟩
 ·obtain⟨a,h1,g,o⟩:=r.ow i d p l h;have na:=n a ⟨i,d,p,l,h,h1⟩;obtain⟨vs,hv⟩:=o.there;exact⟨a,h1,e.gn a (by rw[hv];simp) g na,o.mono e.gg λo' h'=>e.hh a o' h' na⟩
def CA.tail(r:CA K (a::as) (v :: τ) H G):CA K as τ H G:=by
 refine⟨by have:=r.len;simpa using this,r.sub,λi d h=>?_,λi d p l h=>?_,λi j d p l d' p' l' b h1 h2 h3 h4=>?_⟩
 ·simpa using r.sh (i+1) d (by simpa using h)
 ·simpa using r.ow (i+1) d p l (by simpa using h)
 ·have:=r.inj (i+1) (j+1) d p l d' p' l' b (by simpa using h1) (by simpa using h2) (by simpa using h3) (by simpa using h4)
  lia
def yA.tail(h:yA as τ b):yA (a::as) (v :: τ) b:=by
 obtain⟨i,d,p,l,h1,h2⟩:=h;exact⟨i+1,d,p,l,by simpa using h1,by simpa using h2⟩
theorem N3:∀(hs:List Hd) (bA:List Bool) (as:List Sl) (xs:List V) (U U':Env),CA K as (xs.map some) H G->CA K U Y H G->(∀a,yA as (xs.map some) a->¬yA U Y a)->vE K H0 G0 own new Y hs xs ->
  aAg bA hs as U0 U=some U'->CA K U' Y H G/\∀a,yA U' Y a->yA U Y a\/yA U0 Y a
 |[],bA,as,xs,U,U',ra,r,n,h,e=>by
  cases bA with
  |nil =>
   cases as with
   |nil =>
    cases e;exact⟨r,λ_ z=>.inl z⟩
   |cons a as=>cases e
  |cons p ps=>cases p<;>cases as<;>cases e
 |h::hs,bA,as,xs,U,U',ra,r,n,hh,e=>by
  obtain⟨x,r',rfl,h1,h2,h3⟩:=hh
  cases bA with
  |nil=>cases e
  |cons p ps =>
   cases as with
   |nil=>cases p<;>cases h<;>cases e
   |cons a QA =>
    have skip:aAg ps hs QA U0 U=some U'->CA K U' Y H G/\∀a,yA U' Y a->yA U Y a\/yA U0 Y a:=λe' =>
     N3 hs ps QA r' U U' ra.tail r (λb z=>n b z.tail) h2 e'
    cases p with
    |false=>cases h<;>exact skip e
    |true =>
     cases h with
     |val v=>exact skip e
     |slot i =>
      have h1:Y[i]?=some (some x):=h1;simp only[aAg] at e;split at e
      ·rename_i _ pin lk d p' l' hi;obtain⟨b,hb,g,o⟩:=ra.ow 0 d p' l' rfl;simp only[eD,FF,RB] at hb;subst hb;have nb:¬yA U Y b:=n b ⟨0,d,p',l',rfl,rfl⟩;have r2:CA K (U.set i (.ow d pin lk)) Y H G:=(r.unset i).AO h1 g o λz=>nb z.unset
       obtain⟨r3,r4⟩:=N3 hs ps QA r' (U.set i (.ow d pin lk)) U' ra.tail r2 (λc z w=>by
        rcases w.AO h1 with rfl | w
        ·obtain⟨j,d2,p2,l2,z1,z2⟩:=z
         have:=ra.inj 0 (j+1) d p' l' d2 p2 l2 c rfl (by simpa using z1) rfl (by simpa using z2)
         lia
        ·exact n c z.tail w.unset) h2 e
       refine⟨r3,λc z=>?_⟩;rcases r4 c z with z | z
       ·rcases z.AO h1 with rfl | z
        ·exact .inr ⟨i,_,pin,lk,hi,h1⟩
        ·exact .inl z.unset
       ·exact .inr z
      ·cases e
      ·exact skip e
def SJ(bA:List Bool)(hs:List Hd)(i:Nat):Prop:=∃j:Nat,bA[j]?=some true/\hs[j]?=some (.slot i)
def SJ.cons{p:Bool}{ps:List Bool}{h:Hd}{hs:List Hd}{i:Nat}(l:SJ ps hs i):SJ (p::ps) (h::hs) i:=by
 obtain⟨j,h1,h2⟩:=l;exact⟨j+1,by simpa using h1,by simpa using h2⟩
theorem Vh:∀(hs:List Hd) (bA:List Bool) (U:Env) (as:List Sl) (U1:Env),aAj bA hs U=some (as,U1)->∀i:Nat,MF U[i]? U1[i]?\/(SJ bA hs i/\∃d p l,U[i]?=some (.ow d p l))
 |[],bA,U,as,U1,e,i=>by
  cases bA<;>cases e;exact .inl (MF.refl _)
 |h::hs,bA,U,as,U1,e,i=>by
  cases bA with
  |nil=>cases h with
   |slot i=>cases e
   |val v=>cases v<;>cases e
  |cons p ps =>
   have XA:∀{U':Env} {g:Sl},(aAj ps hs U').map (λ(as,U')=>(g::as,U'))=some (as,U1)->MF U'[i]? U1[i]?\/(SJ ps hs i/\∃d p l,U'[i]?=some (.ow d p l)):=by
    intro U' g e
    cases q:aAj ps hs U' with
    |none=>rw[q] at e;cases e
    |some y =>
     obtain⟨QA,U2⟩:=y;rw[q] at e;simp only[WD,RB,ND] at e;obtain⟨_,rfl⟩:=e;exact Vh hs ps U' QA U2 q i
   have same:∀{g:Sl},(aAj ps hs U).map (λ(as,U')=>(g::as,U'))=some (as,U1)->MF U[i]? U1[i]?\/(SJ (p::ps) (h::hs) i/\∃d p l,U[i]?=some (.ow d p l)):=by
    intro g e;rcases XA e with z | ⟨z,w⟩
    ·exact .inl z
    ·exact .inr ⟨z.cons,w⟩
   cases h with
   |val v=>cases v<;>first | exact same e | cases e
   |slot i0 =>
    simp only[aAj] at e;split at e
    ·exact same e
    ·rename_i d pin lk hd
     cases p with
     |true =>
      simp only at e;by_cases hi:i=i0
      ·subst hi;exact .inr ⟨⟨0,rfl,rfl⟩,d,pin,lk,hd⟩
      ·have:=XA e
       rw[jE (λz=>hi z.symm)] at this;rcases this with z | ⟨z,w⟩
       ·exact .inl z
       ·exact .inr ⟨z.cons,w⟩
     |false =>
      simp only at e;split at e
      ·cases e
      ·rename_i hp;simp only[BH,not_or,uU] at hp;have Ud:BE U (U.set i0 (.sh d)):=BE.set (by rw[hd];exact hp.1);rcases XA e with z | ⟨z,d',p',l',w⟩
       ·exact .inl ((Ud i).trans z)
       ·have:=Ud i
        rw[w] at this;obtain⟨d2,e2⟩:=this.aj;exact .inr ⟨z.cons,d2,p',l',e2⟩
    ·cases e
theorem K3:∀(hs:List Hd) (bA:List Bool) (as:List Sl) (U U':Env),aAg bA hs as U0 U=some U'->∀i:Nat,(U'[i]?=U[i]?\/∃d d' p l,U0[i]?=some (.ow d p l)/\U'[i]?=some (.ow d' p l)) /\
  (SJ bA hs i->(∃d p l,U0[i]?=some (.ow d p l))->i<U.length->∃d d' p l,U0[i]?=some (.ow d p l)/\U'[i]?=some (.ow d' p l))
 |[],bA,as,U,U',e,i=>by
  cases bA with
  |nil =>
   cases as with
   |nil =>
    cases e;exact⟨.inl rfl,λ⟨j,h,_⟩=>by simp at h⟩
   |cons a as=>cases e
  |cons p ps=>cases p<;>cases as<;>cases e
 |h::hs,bA,as,U,U',e,i=>by
  cases bA with
  |nil=>cases e
  |cons p ps =>
   cases as with
   |nil=>cases p<;>cases h<;>cases e
   |cons a QA =>
    have vn:¬(p=true/\h=.slot i)->SJ (p::ps) (h::hs) i->SJ ps hs i:=λn hz=>by
     obtain⟨j,h1,h2⟩:=hz
     cases j with
     |zero =>
      simp only[FF,RB] at h1 h2;exact absurd ⟨h1,h2⟩ n
     |succ j=>exact⟨j,by simpa using h1,by simpa using h2⟩
    have skip:¬(p=true/\h=.slot i)\/¬(∃d p l,U0[i]?=some (.ow d p l))->aAg ps hs QA U0 U=some U'->(U'[i]?=U[i]?\/∃d d' p l,U0[i]?=some (.ow d p l)/\U'[i]?=some (.ow d' p l)) /\
      (SJ (p::ps) (h::hs) i->(∃d p l,U0[i]?=some (.ow d p l))->i<U.length->∃d d' p l,U0[i]?=some (.ow d p l)/\U'[i]?=some (.ow d' p l)):=λn e'=>by
     obtain⟨h1,h2⟩:=K3 hs ps QA U U' e' i;refine⟨h1,λl o=>?_⟩;rcases n with n | n
     ·exact h2 (vn n l) o
     ·exact absurd o n
    cases p with
    |false=>cases h<;>exact skip (.inl (by simp)) e
    |true =>
     cases h with
     |val v=>exact skip (.inl (by simp)) e
     |slot i0 =>
      simp only[aAg] at e;split at e
      ·rename_i d0 pin lk d p' l' hi;obtain⟨h1,h2⟩:=K3 hs ps QA _ U' e i;by_cases nQ:i=i0
       ·subst nQ;refine⟨?_,λl o hl=>?_⟩
        ·rcases h1 with h1 | h1
         ·by_cases hl:i<U.length
          ·rw[gI hl] at h1;exact .inr ⟨_,_,_,_,hi,h1⟩
          ·exact .inl (by rw[h1,XO (by rw[SE];lia),XO (by lia)])
         ·exact .inr h1
        ·rcases h1 with h1 | h1
         ·rw[gI hl] at h1;exact⟨_,_,_,_,hi,h1⟩
         ·exact h1
       ·rw[jE (λz=>nQ z.symm)] at h1;refine⟨h1,λl o hl=>h2 (vn (λz=>nQ (by have:=z.2;simp at this;exact this.symm)) l) o (by rw[SE];exact hl)⟩
      ·cases e
      ·rename_i L4 vf;refine skip ?_ e;by_cases nQ:i=i0
       ·subst nQ;refine .inr λhz=>?_
        obtain⟨d,p,l,z⟩:=hz;exact L4 d p l z
       ·exact .inl λz=>nQ (by have:=z.2;simp at this;exact this.symm)
def E1(a:DA K U0 Y H0 G0 U H G)(h:vE K H G (yA U Y) (kF H0) Y hs xs)(e:TF bA f hs U=some (.ok v,U')) :
  ∃as G2 QA,CA K as (xs.map some) H G2/\as.length=bA.length/\f as=some (.ok v,QA)/\(fB G G2/\∀c,yA as (xs.map some) c->yA U Y c\/HG hs xs c)/\∀x H' G',DA K as (xs.map some) H G2 QA H' G'->QC K H' G' (yA QA (xs.map some)) (kF H) v x ->
   DA K U0 Y H0 G0 U' H' G'/\QC K H' G' (yA U' Y) (kF H0) v x:=by
 unfold TF at e
 cases q:aAj bA hs U with
 |none=>rw[q] at e;cases e
 |some y =>
  obtain⟨as,U1⟩:=y;rw[q] at e;simp only at e
  cases q2:f as with
  |none=>rw[q2] at e;cases e
  |some y =>
   obtain⟨o,QA⟩:=y;rw[q2] at e;simp only at e
   cases q3:aAg bA hs QA U U1 with
   |none=>rw[q3] at e;cases e
   |some U2 =>
    rw[q3] at e;simp only[WD,RB,ND] at e;obtain⟨rfl,rfl⟩:=e;obtain⟨G2,L⟩:=sO hs bA U G xs as U1 a.lA h q;refine⟨as,G2,QA,L.ra, ?_,q2,⟨L.gg,L.ao⟩,λx H' G' b hv=>?_⟩
    ·have:∀(hs:List Hd) (bA:List Bool) (U:Env) (as:List Sl) (U1:Env),aAj bA hs U=some (as,U1)->as.length=bA.length:=by
      intro hs
      induction hs with
      |nil =>
       intro bA U as U1 e;cases bA<;>cases e;rfl
      |cons h hs ih =>
       intro bA U as U1 e
       cases bA with
       |nil=>cases h with
        |slot i=>cases e
        |val v=>cases v<;>cases e
       |cons p ps =>
        have XA:∀{o:Option (List Sl×Env)} {g:Sl},(o.map λ(as,U')=>(g::as,U'))=some (as,U1)->(∀QA U',o=some (QA,U')->QA.length=ps.length)->as.length=(p::ps).length:=by
         intro o g e k
         cases o with
         |none=>cases e
         |some y =>
          obtain⟨QA,U'⟩:=y;simp only[WD,RB,ND] at e;rw[<- e.1,IC,IC,k QA U' rfl]
        cases h with
        |slot i =>
         simp only[aAj] at e;split at e
         ·exact XA e λQA U' z=>ih _ _ _ _ z
         ·split at e
          ·exact XA e λQA U' z=>ih _ _ _ _ z
          ·split at e
           ·cases e
           ·exact XA e λQA U' z=>ih _ _ _ _ z
         ·cases e
        |val v =>
         cases v with
         |sh d=>exact XA e λQA U' z=>ih _ _ _ _ z
         |ow d=>exact XA e λQA U' z=>ih _ _ _ _ z
         |od d=>cases e
     exact this hs bA U as U1 q
    ·have own_there:∀c,yA as (xs.map some) c->H c≠none:=λc z=>(L.ra.owned z).1
     have rc:CA K U1 Y H' G':=L.rc.keep b.ext (λc z w=>L.an c w z) b.lA.sub;obtain⟨r3,r4⟩:=N3 hs bA QA xs U1 U2 b.lA rc (λc z w=>L.an c (b.own c z) w) h q3
     have G7:∀c,yA U2 Y c->yA U Y c:=λc z=>by
      rcases r4 c z with z | z
      ·exact L.ro c z
      ·exact z
     have uQ:∀c,yA as (xs.map some) c->yA U0 Y c\/H0 c=none:=λc z=>by
      rcases L.ao c z with z | z
      ·exact .inl (a.own c z)
      ·exact .inr (h.iN z).2.1
     have sy:BE U U2:=λi=>by
      obtain⟨g1,g2⟩:=K3 hs bA QA U1 U2 q3 i;rcases Vh hs bA U as U1 q i with z | ⟨z,o⟩
      ·rcases g1 with g1 | ⟨d,d',p,l,w1,w2⟩
       ·rw[g1];exact z
       ·rw[w1,w2];exact⟨rfl,rfl⟩
      ·have hl:i<U1.length:=by
        obtain⟨d,p,l,o⟩:=o;rw[L.rc.len,<- a.lA.len];exact(MD.mp o).1
       obtain⟨d,d',p,l,w1,w2⟩:=g2 z o hl;rw[w1,w2];exact⟨rfl,rfl⟩
     refine⟨⟨r3,⟨a.ext.gg.trans ((Sm.of L.gg).trans b.ext.gg),λc o hc nc=>?_,λc z=>a.ext.hx c (b.ext.hx c z),λc hc gc nc=>?_⟩,a.aK.trans sy⟩, ?_⟩
     ·refine b.ext.hh c o (a.ext.hh c o hc nc) λz=>?_
      rcases uQ c z with z | z
      ·exact nc z
      ·rw[hc] at z;cases z
     ·have RH:H c≠none:=λz=>hc (a.ext.hx c z)
      have g1:G c=none:=a.ext.gn c hc gc nc
      have g2:G2 c=none:=by
       cases w:G2 c with
       |none=>rfl
       |some o =>
        rcases L.gn c (by rw[w];simp) with z | z | z
        ·exact absurd g1 z
        ·exact absurd (a.own c z) nc
        ·exact absurd (h.iN z).2.1 hc
      refine b.ext.gn c RH g2 λz=>?_
      rcases uQ c z with z | z
      ·exact nc z
      ·exact hc z
     ·cases v with
      |sh d=>exact hv
      |ow d =>
       obtain⟨c,rfl,g,o,n,m⟩:=hv;exact⟨c,rfl,g,o,λz=>(a.lA.owned (G7 c z)).1 m,a.ext.hx c m⟩
      |od d =>
       obtain⟨c,rfl,g,o,n,m,vs,hv,hr⟩:=hv;exact⟨c,rfl,g,o,λz=>(a.lA.owned (G7 c z)).1 m,a.ext.hx c m,vs,hv,λx hx=>let ⟨b,ws,h1,h2,h3,h4,h5,h6⟩:=hr x hx;⟨b,ws,h1,h2,h3,λz=>(a.lA.owned (G7 b z)).1 h5,a.ext.hx b h5,h6⟩⟩
noncomputable def VX(x:Exc)(o:zA RV):zA RV :=
 match o with
 |some (Out.ex y,QA)=>@ite _ (y=x) (cl _) (some (Out.ok (.sh .oA),QA)) none
 |_=>none
def eKa(h:VX x o=some (.ok v,QA)):o=some (.ex x,QA):=by
 unfold VX at h;split at h
 ·split at h
  ·rename_i hy;cases h;rw[hy]
  ·cases h
 ·cases h
def Fw(a:DA K U0 Y H0 G0 U H G)(h:vE K H G (yA U Y) (kF H0) Y hs xs)(e:TF bA f hs U=some (.ex x,U')) :
  ∃as G2 QA,CA K as (xs.map some) H G2/\as.length=bA.length/\f as=some (.ex x,QA)/\∀H' G',DA K as (xs.map some) H G2 QA H' G'->DA K U0 Y H0 G0 U' H' G':=by
 have e':TF bA (λas=>VX x (f as)) hs U=some (.ok (.sh .oA),U'):=by
  unfold TF at e ⊢
  cases q:aAj bA hs U with
  |none=>rw[q] at e;cases e
  |some y =>
   obtain⟨as,U1⟩:=y;rw[q] at e;simp only at e ⊢
   cases q2:f as with
   |none=>rw[q2] at e;cases e
   |some y =>
    obtain⟨o,QA⟩:=y;rw[q2] at e;simp only at e
    cases q3:aAg bA hs QA U U1 with
    |none=>rw[q3] at e;cases e
    |some U2 =>
     rw[q3] at e;simp only[WD,RB,ND] at e;obtain⟨rfl,rfl⟩:=e;have z:VX x (some (.ex x,QA))=some (.ok (.sh .oA),QA):=uA rfl;rw[z];simp only[q3,WD]
 obtain⟨as,G2,QA,h1,h2,h3,_,h4⟩:=E1 a h e';exact⟨as,G2,QA,h1,h2,eKa h3,λH' G' b=>(h4 .oA H' G' b (by show kA K G' .oA _;simp[kA])).1⟩
end
inductive GV where
 |no | c (d:D) | fn (f:String) | AB | cls (ns:List aA) | iH (tb:List (aA×String)) | sub (s n:List aA) | GD (s n:List aA) | exc | uG | GA (cs:List aA)
structure CC where
 N:List aA
 names:List (aA×JJ)
 gl:aA->GV
 top:Bool
noncomputable def CC.LS(Z:CC)(x:aA):Bool:=Z.names.lookup x==some .globalImplicit
noncomputable def CC.lg(Z:CC)(x:aA):Bool:=Z.names.lookup x==some .local||Z.names.lookup x==some .cell||Z.names.lookup x==some .free
noncomputable def NF(x:aA):Bool:=x==("__debug__":aA)||x==("__classdict__":aA)||x==("__name__":aA)
noncomputable def CC.slot(Z:CC)(x:aA):Option Nat:=if NF x then none else if Z.lg x then Z.N.idxOf? x else none
noncomputable def CC.glob(Z:CC)(x:aA):GV:=if NF x then .no else if Z.LS x then Z.gl x else .no
noncomputable def PN(Z:CC)(x:aA):E :=
 match Z.slot x with
 |some i=>.v i
 |none=>match Z.glob x with
  |.c d=>.c d
  |_=>.nA
noncomputable def vV:Const->E
 |.none=>.c .oA
 |.bool b=>.c (.bl b)
 |.int i=>.c (.int i)
 |.str s=>if nC s then .c (.str s) else .nA
 |_=>.nA
noncomputable def sV(f:aA):Option BI :=
 if f=("len":aA) then some .len else if f=("int":aA) then some .int else if f=("list":aA) then some .list
 else if f=("tuple":aA) then some .tuple else if f=("all":aA) then some .all else if f=("str":aA) then some .str else none
noncomputable def NY(Z:CC):sA->Option Ty
 |.Name x _=>match Z.glob x with
  |.AB=>if x=("int":aA) then some .int else if x=("bool":aA) then some .bool else if x=("str":aA) then some .str else if x=("list":aA) then some .list else if x=("tuple":aA) then some .tuple else if x=("ValueError":aA) then some .cU else none
  |_=>none
 |_=>none
def aC{p:Prop}(h:false=true):p:=nomatch h
def dG{p:Prop}(h:none=some a):p:=nomatch h
noncomputable def aAr:sA->Option aA
 |.Name x _=>some x
 |_=>none
noncomputable def v7:E->E
 |.zC=>.nA
 |c=>c
noncomputable def aAd:sA->Bool
 |.Starred _ _=>false
 |_=>true
noncomputable def col(x:aA):aA:=⟨#[58]++x.cps⟩
noncomputable def CC.wW(Z:CC)(x:aA):GV:=if NF x then .no else if Z.LS x then Z.gl (col x) else .no
noncomputable def cR(Z:CC):List sA->Option (List (List aA×List aA))
 |[]=>some []
 |.Name x _::es=>(match Z.wW x with
  |.GD s n=>(cR Z es).map ((s,n) :: ·)
  |_=>none)
 |_=>none
noncomputable def cat(x:aA):aA:=⟨#[94]++x.cps⟩
noncomputable def CC.pL(Z:CC)(x:aA):GV:=if NF x then .no else if Z.LS x then Z.gl (cat x) else .no
noncomputable def QT(Z:CC)(x:aA)(a:E):E:=match Z.wW x with
 |.sub s n=>.nA
 |.GD s n=>.jO a [(s,n)]
 |_=>.nA
noncomputable def UT(Z:CC)(es:List sA)(a:E):E:=match cR Z es with
 |some sn=>if es.length<=100 then .jO a sn else .nA
 |none=>.nA
noncomputable def G8(Z:CC)(t:sA)(a:E):E:=match t with
 |.Name x _=>QT Z x a
 |.Tuple es _ _=>UT Z es a
 |_=>.nA
noncomputable def lO(Z:CC)(args:List sA)(cs:List E):E :=
 match args,cs with
 |[_,t],[a,_]=>(match NY Z t with | some ty=>.xG a [ty] | none=>G8 Z t a)
 |_,_=>.nA
noncomputable def aAU:sA->Option Int
 |.Constant (.int a) _ _=>some a
 |_=>none
noncomputable def Bd(ks:List (Option sA))(vs:List sA)(cs es:List E):E:=.nA
noncomputable def sCa(Z:CC):Bool:=false
noncomputable def J1(z:Bool)(ks:List (Option sA))(vs:List sA)(c:E):E:=c
noncomputable def dot(m:aA):aA:=⟨#[46]++m.cps⟩
noncomputable def MT:sA->Option aA
 |.Constant (.str s) _ _=>if nC s then some s else none
 |_=>none
noncomputable def bU(Z:CC)(x m:aA)(mB aB:XB)(a:sA):E :=
 match MT a,Z.slot x with
 |some s,some i=>if(mB.endLine==aB.line)&&(m==("split":aA)) then .nH i s else if(mB.endLine==aB.line)&&(m==("startswith":aA)) then .NT i s else .nA
 |_,_=>.nA
noncomputable def JT(m:aA)(mB aB:XB)(args:List sA)(c:E):E:=match args with
 |[a]=>(match MT a with
  |some s=>if(mB.endLine==aB.line)&&(m==("split":aA)) then .xY c s else .nA
  |none=>.nA)
 |_=>.nA
noncomputable def L6:List (Option sA)->Option (List aA)
 |[]=>some []
 |some e::r=>(MT e).bind λs=>(L6 r).map (s :: ·)
 |none::_=>none
noncomputable def bS(ks:List (Option sA))(vs:List sA)(es:List E)(c:E):E:=match L6 ks with
 |some ss=>if ks.length=vs.length/\ks≠[]/\ks.length<=15 then .AV ss es else c
 |none=>c
noncomputable def VR(Z:CC)(x m:aA)(mB aB:XB)(a:sA)(c:E):E :=
 if aAd a&&(mB.endLine==aB.line)&&(m==("append":aA)) then(match Z.slot x with | some i=>.app i c | none=>.nA) else if aAd a&&(mB.endLine==aB.line)&&(m==("extend":aA)) then(match Z.slot x with | some i=>.ext i c | none=>.nA) else if aAd a&&(mB.endLine==aB.line)&&(m==("pop":aA)) then .nA else bU Z x m mB aB a
noncomputable def UR(Z:CC)(x m:aA)(mB aB:XB):E:=if(mB.endLine==aB.line)&&(m==("bit_length":aA)) then .yM (PN Z x) else .nA
noncomputable def XZ(Z:CC)(x m:aA)(mB aB:XB)(args:List sA)(cs:List E):E:=match args,cs with
 |[a],[c]=>VR Z x m mB aB a c
 |[],[]=>UR Z x m mB aB
 |_,_=>.nA
noncomputable def ic(Z:CC)(x m:aA)(mB aB:XB)(args:List sA)(cs:List E):E:=XZ Z x m mB aB args cs
noncomputable def YS(Z:CC)(m:aA)(mB aB:XB)(args:List sA)(a:E)(cs:List E):E :=
 match Z.gl (dot m) with
 |.iH tb=>if args.all aAd&&(mB.endLine==aB.line)&&decide (args.length<29) then .nA else .nA
 |_=>.nA
noncomputable def P6(args:List sA)(cs:List E):E:=.bif .len cs
noncomputable def aAY(cs:List E):E:=.nA
noncomputable def Q6(args:List sA)(cs:List E):E:=.bif .list cs
noncomputable def LN(f:aA)(args:List sA)(cs:List E):E :=
 if f=("len":aA) then P6 args cs else if f=("set":aA) then aAY cs else if f=("range":aA) then .nA else if f=("list":aA) then Q6 args cs else(match sV f with | some b=>.bif b cs | none=>.nA)
noncomputable def MS:sA->Bool
 |.ListComp _ _ _ _=>true
 |_=>false
noncomputable def SD:sA->Bool
 |.ListComp _ _ _ _=>false
 |.SetComp _ _ _ _=>false
 |.DictComp _ _ _ _ _=>false
 |_=>true
noncomputable def XM:sA->Bool
 |.Slice _ _ _ _=>false
 |_=>true
noncomputable def TX:sA->Bool
 |.Set _ _ _=>false
 |_=>true
noncomputable def iT:sA->Bool
 |.Tuple _ _ _=>false
 |_=>true
noncomputable def CC.iO(Z:CC)(x:aA):Bool:=Z.names.lookup x==some .local||(Z.top&&Z.names.lookup x==some .cell)
noncomputable def CC.sF(Z:CC)(x:aA):Option Nat:=if Z.iO x then Z.slot x else none
noncomputable def R8(Z:CC):sA->Option Nat
 |.Name x _=>Z.sF x
 |_=>none
noncomputable def zK(Z:CC):List sA->Option (List Nat)
 |[]=>some []
 |e::es=>(R8 Z e).bind λi=>(zK Z es).map (i :: ·)
noncomputable def qH(Z:CC):sA->Option (Bool×List Nat)
 |.Name x _=>(Z.sF x).map λi=>(true,[i])
 |.Tuple es _ _=>(zK Z es).map λis=>(false,is)
 |_=>none
noncomputable def QX:sA->Option (aA×XB)
 |.Name f p=>some (f,p)
 |_=>none
noncomputable def RS:sA->Option ((aA×XB)×List sA×XB)
 |.Call fn args rK pos=>(match rK with
  |[]=>(QX fn).map λq=>(q,args,pos)
  |_::_=>none)
 |_=>none
noncomputable def aAV:List O->Option O
 |[]=>none
 |a::r=>(match r with | []=>some a | _::_=>none)
noncomputable def P5:sA->Option (aA×sA×aA×Int)
 |.Call fn args rK _=>(QX fn).bind λq=>(aAV args).bind λa=>(aAV rK).bind λk=>k.arg.bind λx=>(aAU k.value).map λc=>(q.1,a,x,c)
 |_=>none
noncomputable def pK(Z:CC)(e:sA):Option (wF×List sA):=match RS e with
 |some x=>if(x.1.1==("range":aA)) then
   (match Z.glob x.1.1 with
   |.AB=>if x.2.1.all aAd&&(x.2.1.length==1||x.2.1.length==2) then some (.yD,x.2.1) else none
   |_=>none)
  else if(x.1.1==("enumerate":aA)) then
   (match Z.glob x.1.1 with
   |.AB=>if x.2.1.all aAd&&(x.2.1.length==1) then some (.enum 0,x.2.1) else none
   |_=>none)
  else some (.of,[e])
 |none=>(match P5 e with
  |some x=>if x.1==("enumerate":aA)&&x.2.2.1==("start":aA)&&aAd x.2.1&&x.2.2.2==1 then
    (match Z.glob x.1 with
    |.AB=>some (.enum 1,[x.2.1])
    |_=>none)
   else none
  |none=>if TX e then some (.of,[e]) else none)
def Ei(h:QX e=some x):e=.Name x.1 x.2:=by
 unfold QX at h;split at h
 ·cases h;rfl
 ·cases h
def mX(h:RS e=some ((f,p),args,pos)):e=.Call (.Name f p) args [] pos:=by
 unfold RS at h;split at h
 ·rename_i fn as rK ps
  cases rK with
  |nil =>
   obtain⟨q,hq,h⟩:=BN.mp h;cases h;rw[Ei hq]
  |cons=>cases h
 ·cases h
def Su(h:aAU e=some a):∃j q,e=.Constant (.int a) j q:=by
 unfold aAU at h;split at h
 ·cases h;exact⟨_,_,rfl⟩
 ·cases h
def Wi(h:aAV l=some a):l=[a]:=by
 cases l with
 |nil=>cases h
 |cons b r =>
  cases r with
  |nil=>cases h;rfl
  |cons=>cases h
def aDa(h:P5 e=some (f,a,x,c)):∃p j q kp pos,e=.Call (.Name f p) [a] [⟨some x,.Constant (.int c) j q,kp⟩] pos:=by
 unfold P5 at h;split at h
 ·obtain⟨q,hq,h⟩:=yP.mp h;obtain⟨b,hb,h⟩:=yP.mp h;obtain⟨k,hk,h⟩:=yP.mp h;obtain⟨y,hy,h⟩:=yP.mp h;obtain⟨d,hd,h⟩:=BN.mp h;cases h;obtain⟨j,z,e⟩:=Su hd;obtain⟨ka,kv,kp⟩:=k;cases hy;cases e;rw[Ei hq,Wi hb,Wi hk];exact⟨_,_,_,_,_,rfl⟩
 ·cases h
noncomputable def L5:sA->Bool
 |.Slice none none (some (.UnaryOp .USub (.Constant (.int i) _ _) _)) _=>i==1
 |_=>false
noncomputable def aAs(scope:EF):List aA:=(scope.names.filter λp=>p.2==NameKind.free).map (·.1)
noncomputable def aAq(scope:EF):List aA:=(scope.names.filter λp=>p.2==NameKind.local).map (·.1)
noncomputable def CC.inner(Z:CC)(scope:EF):CC :=
 ⟨aAs scope++aAq scope,scope.names.map λ(n,k)=>if(k==NameKind.free&&Z.names.lookup n==some .cell) then(n,NameKind.cell) else(n,k),Z.gl,false⟩
noncomputable def CC.oK(Z:CC):List aA->Option (List Nat)
 |[]=>some []
 |x::xs=>(Z.N.idxOf? x).bind λi=>(Z.oK xs).map (i :: ·)
noncomputable def CC.a8(Z:CC)(scope:EF):Bool:=(scope.kind==ScopeKind.function)&&(scope.names.all λp=>p.2 != NameKind.cell)&&(scope.names.all λp=>p.2 != NameKind.local||scope.names.lookup p.1==some NameKind.local) &&
 (scope.names.all λp=>p.2 != NameKind.free||(scope.names.lookup p.1==some NameKind.free&&(Z.names.lookup p.1==some NameKind.cell||Z.names.lookup p.1==some NameKind.free)))&&decide (aAs scope++aAq scope).Nodup
noncomputable def ug(k:wF)(ci:E)(JG:List E):List E:=match k with
 |.of=>[ci]
 |_=>JG
noncomputable def EJ(k:wF)(one:Bool):Bool:=match k with
 |.enum _=>!one
 |_=>true
noncomputable def jUa:sA->Bool
 |.Name x _=>x==("figures":aA)||x==("_law_figures":aA)
 |_=>false
noncomputable def bGa(Z:CC)(RA:sA):Option Nat:=none
noncomputable def JH(Z:CC)(scope:EF)(tg RA:sA)(ci:E)(JG cond:List E)(ce:E):E :=
 if Z.a8 scope then
  match Z.oK (aAs scope),qH (Z.inner scope) tg,pK Z RA with
  |some imp,some (one,is),some (k,_)=>if jUa RA then(if one==(is.length==1) then .comp ce is .sig [ci] cond imp (aAq scope).length else .nA) else match bGa Z RA with | some i=>(if one==(is.length==1) then .comp ce is .key [.zF i] cond imp (aAq scope).length else .nA) | none=>if one==(is.length==1)&&EJ k one&&k != .enum 1 then .comp ce is k (ug k ci JG) cond imp (aAq scope).length else .nA
  |_,_,_=>.nA
 else .nA
noncomputable def US(s m:aA)(mB aB:XB)(a:sA)(c:E):E:=if aAd a&&(mB.endLine==aB.line)&&(m==("join":aA))&&nC s then .bF s c else .nA
mutual
noncomputable def cE(Z:CC):sA->E
 |.Name x _=>PN Z x
 |.Constant c _ _=>vV c
 |.Tuple es _ _=>if es.all aAd then .t (xB Z es) else .nA
 |.List es _=>if es.all aAd then .l (xB Z es) else .nA
 |.Dict ks vs _=>bS ks vs (xB Z vs) (J1 (sCa Z) ks vs (Bd ks vs (X0 Z ks) (xB Z vs)))
 |.BinOp a op b _=>.BA op (cE Z a) (cE Z b)
 |.UnaryOp .Not a _=>.not (cE Z a)
 |.UnaryOp .USub a _=>.neg (cE Z a)
 |.Compare a [op] [b] _=>if EK op b then .nA else .IA op (cE Z a) (cE Z b)
 |.Compare a [op,BC] [b,c] _=>if EK BC c then .nA else .HH op BC (cE Z a) (cE Z b) (cE Z c)
 |.BoolOp .And (a::b::r) _=>.and (cE Z a) (Q0 Z (b::r))
 |.BoolOp .Or (a::b::r) _=>.or (cE Z a) (W0 Z (b::r))
 |.IfExp c a b _=>.ite (cE Z c) (cE Z a) (cE Z b)
 |.Subscript a (.Slice lo hi none _) _=>.sl (cE Z a) (cO Z lo) (cO Z hi)
 |.Subscript a i _=>if L5 i then .nA else .ix (cE Z a) (cE Z i)
 |.Call (.Name f _) args [] _=>if args.all aAd&&decide (args≠[]) then
   match Z.glob f with
   |.fn g=>.call g (xB Z args)
   |.cls ns=>.nA
   |.AB=>if f=("isinstance":aA) then lO Z args (xB Z args)
     else LN f args (xB Z args)
   |_=>.nA
  else .nA
 |.Call (.Attribute (.Name x _) m mB) args [] aB=>ic Z x m mB aB args (xB Z args)
 |.Call (.Attribute (.Constant (.str s) k p) m mB) [a] [] aB=>US s m mB aB a (cE Z a)
 |.Call (.Attribute (.Call g (a0::vM) kw p) m mB) args [] aB=>YS Z m mB aB args (cE Z (.Call g (a0::vM) kw p)) (xB Z args)
 |.Call (.Attribute (.Subscript v i p) m mB) args [] aB=>JT m mB aB args (cE Z (.Subscript v i p))
 |.Attribute (.Name x _) f _=>.nA
 |.ListComp LA [⟨tg,RA,[],0⟩] scope _=>JH Z scope tg RA (cE Z RA) (AM Z RA) [] (cE (Z.inner scope) LA)
 |.ListComp LA [⟨tg,RA,[c],0⟩] scope _=>JH Z scope tg RA (cE Z RA) (AM Z RA) [cE (Z.inner scope) c] (cE (Z.inner scope) LA)
 |_=>.nA
noncomputable def AM(Z:CC):sA->List E
 |.Call _ args _ _=>xB Z args
 |_=>[]
noncomputable def xB(Z:CC):List sA->List E
 |[]=>[]
 |e::es=>cE Z e::xB Z es
noncomputable def X0(Z:CC):List (Option sA)->List E
 |[]=>[]
 |o::os=>cO Z o::X0 Z os
noncomputable def Q0(Z:CC):List sA->E
 |[]=>.nA
 |[a]=>cE Z a
 |a::b::r=>.and (cE Z a) (Q0 Z (b::r))
noncomputable def W0(Z:CC):List sA->E
 |[]=>.nA
 |[a]=>cE Z a
 |a::b::r=>.or (cE Z a) (W0 Z (b::r))
noncomputable def cO(Z:CC):Option sA->E
 |none=>.zC
 |some e=>v7 (cE Z e)
end
noncomputable def wY(K:fA)(n:Nat)(run:List Sl->zA RV):Sp:=λvs H Q _=>vs.length=n/\∃(as:List Sl) (G:Hp) (v:RV) (QA:List Sl),CA K as (vs.map some) H G/\as.length=n/\run as=some (.ok v,QA) /\
 ∀x H' G',DA K as (vs.map some) H G QA H' G'->QC K H' G' (yA QA (vs.map some)) (kF H) v x->Q x H'
structure FnAt(X:Cx)(K:fA)(x:aA)(n:Nat)(run:List Sl->zA RV):Prop where
 ex:∃(fa:eA) (fd:wH) (ps:List aA) (k:Nat),JF X.prog X.w X.K X.mg X.base ZG k fa fd ps (wY K n run)/\YC k X.A/\X.mg x=some (.ref fa)/\nG X.K (.ref fa)=true/\aAt X.K fd ps []
noncomputable def fVa(K:fA)(ns:List aA):Sp:=λvs H Q _=>∃a C dx xs,vs=.ref a::xs/\xs.length=ns.length/\H a=some (.ins C dx [])/\AZ K C ns/\Q .oA (vA H a (.ins C dx (ns.zip xs)))
structure FZ(X:Cx)(K:fA)(x:aA)(ns:List aA):Prop where
 ex:∃(Ca fa:eA) (fd:wH) (ps:List aA),JB K oB x=some (some (.ref Ca))/\X.mg x=some (.ref Ca)/\Mk X.K Ca fa/\AZ K Ca ns/\JF X.prog X.w X.K X.mg X.base ZG 1 fa fd ps (fVa K ns)/\aAt X.K fd ps []
structure MethAt(X:Cx)(K:fA)(c m:aA)(n:Nat)(run:List Sl->zA RV):Prop where
 ex:∃(Ca fa:eA) (fd:wH) (ps:List aA) (k:Nat),JB K oB c=some (some (.ref Ca))/\Meth X.K Ca m fa/\JF X.prog X.w X.K X.mg X.base ZG k fa fd ps (wY K n run)/\YC k X.A/\aAt X.K fd ps []/\qb K Ca
structure Kq(K:fA)(D C:eA):Prop where
 a:pP K D C=true
 b:Rp K D "__class__"=true
 c:eP K D=true
 d:mG K (.ref D) "__class__"=some (some (.builtin "object.__class__"))
 e:S9 K (.builtin "object.__class__") "__get__"=some (some (.builtin "getset_descriptor.__get__"))
 f:ia K (.builtin "object.__class__")=some true
 g:XG K D (.type "object")=some true
structure cV(K:fA)(mg:aA->Option cA)(x:aA)(s n:List aA):Prop where
 ex:∃C,mg x=some (.ref C)/\(∀c∈s,∀Ca,JB K oB c=some (some (.ref Ca))->IU K (.ref Ca) C=true)/\∀c∈n,∀Ca,JB K oB c=some (some (.ref Ca))->Kq K Ca C
noncomputable def Kk(K:fA)(n:Nat)(run:List Sl->zA RV):Sp:=λvs H _ E=>vs.length=n/\∃(as:List Sl) (G:Hp) (x:Exc) (QA:List Sl),CA K as (vs.map some) H G/\as.length=n/\run as=some (.ex x,QA) /\
 ∀H' G' C p,DA K as (vs.map some) H G QA H' G'->JB K oB x.cls=some (some (.ref C))->DE K C->sM K G' C p x->E (.ref C) p H'
structure DZ(X:Cx)(K:fA)(x:aA)(n:Nat)(run:List Sl->zA RV):Prop where
 ex:∃(fa:eA) (fd:wH) (ps:List aA) (k:Nat),JF X.prog X.w X.K X.mg X.base (QJ X.prog X.w) k fa fd ps (Kk K n run)/\YC k X.A/\X.mg x=some (.ref fa)/\nG X.K (.ref fa)=true/\aAt X.K fd ps []
structure ExcAt(K:fA)(mg:aA->Option cA)(x:aA):Prop where
 ex:∃C,JB K oB x=some (some (.ref C))/\mg x=some (.ref C)/\DE K C/\EG K C none
structure SU(X:Cx)(K:fA)(x:aA):Prop where
 ex:∃C,JB K oB x=some (some (.ref C))/\X.mg x=some (.ref C)/\DE K C/\Fb X C "number"/\eP K C=true
structure KR(K:fA)(mg:aA->Option cA)(x:aA)(cs:List aA):Prop where
 ex:∃D,mg x=some (.ref D)/\(∃i,EG K D i)/\∀c∈cs,∀C,JB K oB c=some (some (.ref C))->XG K C (.ref D)=some true
structure eV(K:fA)(mg:aA->Option cA)(x:aA)(s n:List aA):Prop where
 ex:∃D,mg x=some (.ref D)/\(∀c∈s,∀C,JB K oB c=some (some (.ref C))->IU K (.ref C) D=true)/\∀c∈n,∀C,JB K oB c=some (some (.ref C))->pP K C D=true
structure gC(q:Bool)(X:Cx)(K:fA)(P:YA)(C:Calls)(Z:CC):Prop where
 VC:X.K=K
 VH:X.N=Z.N
 nm:X.env.scope.names=Z.names
 nd:Z.N.Nodup
 c:∀x d,Z.gl x=.c d->∃u v,X.mg x=some u/\aAe v u/\∀G,kA K G d v
 AB:∀x,Z.gl x=.AB->X.mg x=none
 sub:∀x s n,Z.gl (col x)=.sub s n->cV K X.mg x s n
 GD:∀x s n,Z.gl (col x)=.GD s n->eV K X.mg x s n
 cond:q=true->X.calm=true/\X.A.handled=none/\X.A.units+64<cLine/\(∀x f,Z.gl x=.fn f->FnAt X K x (P f).length (C f))/\(∀x ns,Z.gl x=.cls ns->FZ X K x ns) /\
  (∀m tb c f,Z.gl (dot m)=.iH tb->tb.lookup c=some f->MethAt X K c m (P f).length (C f))/\YC 2 X.A/\((∀x,Z.gl x=.exc->ExcAt K X.mg x)/\∀x,Z.gl x=.uG->SU X K x)/\(∀x cs,Z.gl (cat x)=.GA cs->KR K X.mg x cs)/\(∀x f,Z.gl x=.fn f->DZ X K x (P f).length (C f))/\∃nI rT L,X.stack=nI::rT/\nI.frame=some L/\X.env.frame=some L
abbrev OA(X:Cx)(K:fA)(P:YA)(C:Calls)(Z:CC):Prop:=gC true X K P C Z
section
variable{X:Cx}{K:fA}{P:YA}{C:Calls}{Z:CC}
theorem gC.calm(o:gC true X K P C Z):X.calm=true:=(o.cond rfl).1
def gC.hh(o:gC true X K P C Z):X.A.handled=none:=(o.cond rfl).2.1
def gC.hu(o:gC true X K P C Z):X.A.units+64<cLine:=(o.cond rfl).2.2.1
theorem gC.fn(o:gC true X K P C Z):∀x f,Z.gl x=.fn f->FnAt X K x (P f).length (C f):=(o.cond rfl).2.2.2.1
theorem gC.cls(o:gC true X K P C Z):∀x ns,Z.gl x=.cls ns->FZ X K x ns:=(o.cond rfl).2.2.2.2.1
theorem gC.iH(o:gC true X K P C Z):∀m tb c f,Z.gl (dot m)=.iH tb->tb.lookup c=some f->MethAt X K c m (P f).length (C f):=(o.cond rfl).2.2.2.2.2.1
def gC.rm(o:gC true X K P C Z):YC 2 X.A:=(o.cond rfl).2.2.2.2.2.2.1
theorem gC.exc(o:gC true X K P C Z):∀x,Z.gl x=.exc->ExcAt K X.mg x:=(o.cond rfl).2.2.2.2.2.2.2.1.1
theorem gC.uG(o:gC true X K P C Z):∀x,Z.gl x=.uG->SU X K x:=(o.cond rfl).2.2.2.2.2.2.2.1.2
theorem gC.GA(o:gC true X K P C Z):∀x cs,Z.gl (cat x)=.GA cs->KR K X.mg x cs:=(o.cond rfl).2.2.2.2.2.2.2.2.1
def gC.fnX(o:gC true X K P C Z):∀x f,Z.gl x=.fn f->DZ X K x (P f).length (C f):=(o.cond rfl).2.2.2.2.2.2.2.2.2.1
def gC.tp(o:gC true X K P C Z):∃nI rT L,X.stack=nI::rT/\nI.frame=some L/\X.env.frame=some L:=(o.cond rfl).2.2.2.2.2.2.2.2.2.2
def OA.of(VC:X.K=K)(VH:X.N=Z.N)(nm:X.env.scope.names=Z.names)(nd:Z.N.Nodup)(calm:X.calm=true)(hh:X.A.handled=none)(hu:X.A.units+64<cLine)
  (c:∀x d,Z.gl x=.c d->∃u v,X.mg x=some u/\aAe v u/\∀G,kA K G d v) (AB:∀x,Z.gl x=.AB->X.mg x=none) (fn:∀x f,Z.gl x=.fn f->FnAt X K x (P f).length (C f)) (cls:∀x ns,Z.gl x=.cls ns->FZ X K x ns)
  (iH:∀m tb c f,Z.gl (dot m)=.iH tb->tb.lookup c=some f->MethAt X K c m (P f).length (C f)) (rm:YC 2 X.A) (sub:∀x s n,Z.gl (col x)=.sub s n->cV K X.mg x s n) (GD:∀x s n,Z.gl (col x)=.GD s n->eV K X.mg x s n)
  (exc:(∀x,Z.gl x=.exc->ExcAt K X.mg x)/\∀x,Z.gl x=.uG->SU X K x) (GA:∀x cs,Z.gl (cat x)=.GA cs->KR K X.mg x cs) (fnX:∀x f,Z.gl x=.fn f->DZ X K x (P f).length (C f)) (tp:∃nI rT L,X.stack=nI::rT/\nI.frame=some L/\X.env.frame=some L):OA X K P C Z :=
 ⟨VC,VH,nm,nd,c,AB,sub,GD,λ_=>⟨calm,hh,hu,fn,cls,iH,rm,exc,GA,fnX,tp⟩⟩
end
structure MA(X:Cx)(K:fA)(P:YA)(C:Calls)(e:sA)(c:E):Prop where
 v:PE X e (tE K P C c)
 t:PT X e (tT K P C c)
 h:PE X e (tH K P C c)
section
variable{K:fA}
def eu(h:∀t U,ev P C t c U=none)(n:∀i,c≠.v i):MA X K P C e c:=by
 have v:PE X e (tE K P C c):=λbA s Y H Q I hz=>by obtain⟨U,G,w,U',r,z,k⟩:=hz;rw[h] at z;cases z
 exact⟨v,(λbA s Y H Q I ⟨U,G,w,U',r,z,k⟩=>by rw[h] at z;cases z),QO v n⟩
def nB:MA X K P C e .nA:=eu (λt U=>rfl) λi z=>nomatch z
def FE(xo:gC q X K P C Z)(h:PE X e (tE K P C c))(n:∀i,c≠.v i:=by exact λi z=>nomatch z)(hw:∀U,ev P C true c U=aAh true (ev P C false c U):=by exact λU=>rfl)
  (he:∀whole,isTrue e X.env whole=(do let v <- whole;standAt e.pos;holding [v] (truthy v)):=by exact λ_=>rfl):MA X K P C e c:=⟨h,wRa xo.VC h hw he,QO h n⟩
def cX[BEq O][LawfulBEq O]{l:List O}(h:l.idxOf? x=some i):l[i]?=some x:=by
 rw[List.idxOf?,List.findIdx?_eq_some_iff_getElem] at h;obtain⟨h1,h2,_⟩:=h;rw[kC h1];exact congrArg some (jB h2)
def CC.NL(xo:gC q X K P C Z)(h:Z.slot x=some i):PE X (.Name x pos) (bI i):=by
 unfold CC.slot at h;split at h
 ·cases h
 ·rename_i hb;split at h
  ·rename_i hv;simp only[NF,BH,not_or,uU] at hb;refine bY (by rw[xo.VH];exact cX h) ?_ hb.1.1 hb.1.2;unfold CC.lg at hv;simp only[BH,OD] at hv;unfold mV;rw[xo.nm];rcases hv with (h | h) | h
   ·exact .inl h
   ·exact .inr (.inl h)
   ·exact .inr (.inr h)
  ·cases h
def CC.Oe(xo:gC q X K P C Z)(h:Z.wW x=g)(hg:g≠.no):Gl X x/\Z.gl (col x)=g/\(x==("__debug__":aA))=false/\x≠"__name__":=by
 unfold CC.wW at h;split at h
 ·exact absurd h.symm hg
 ·rename_i hb;split at h
  ·rename_i hv;simp only[NF,BH,not_or,uU] at hb;refine⟨?_,h,hb.1.1,λz=>?_⟩
   ·unfold Gl Env.kindOf;rw[xo.nm];unfold CC.LS at hv;simpa using hv
   ·have:=hb.2
    rw[z] at this;simp at this
  ·exact absurd h.symm hg
def CC.wG(xo:gC q X K P C Z)(h:Z.glob x=g)(hg:g≠.no):Gl X x/\Z.gl x=g/\(x==("__debug__":aA))=false/\x≠"__name__":=by
 unfold CC.glob at h;split at h
 ·exact absurd h.symm hg
 ·rename_i hb;split at h
  ·rename_i hv;simp only[NF,BH,not_or,uU] at hb;refine⟨?_,h,hb.1.1,λz=>?_⟩
   ·unfold Gl Env.kindOf;rw[xo.nm];unfold CC.LS at hv;simpa using hv
   ·have:=hb.2
    rw[z] at this;simp at this
  ·exact absurd h.symm hg
def pT(xo:gC q X K P C Z)(h:PE X e (tC v))(r:∀G,kA K G d v)(he:∀whole,isTrue e X.env whole=(do let v <- whole;standAt e.pos;holding [v] (truthy v))):MA X K P C e (.c d):=by
 refine FE xo (TE.rD h λY H Q q=>?_) (λi z=>nomatch z) (λU=>rfl) he;obtain⟨U,G,w,U',r',z,k⟩:=q;cases z;exact k v H G (DA.refl r') (r G)
def Vi(xo:gC q X K P C Z)(x:aA)(pos:XB):MA X K P C (.Name x pos) (PN Z x):=by
 unfold PN;split
 ·rename_i i hi;have hp:=CC.NL xo hi (pos:=pos);refine⟨jPa hp, ?_,kPa hp⟩
  -- a test of a local: looked at
  refine TT.yQ (Ij hp λ_=>rfl) λY H Q q=>?_
  obtain⟨U,G,b,U',r,e1,k⟩:=q;obtain⟨u,b',e2,e3,e4⟩:=Nn e1;cases e4
  cases w:(U[i]?).bind Sl.get with
  |none=>rw[w] at e2;cases e2
  |some d =>
   rw[w] at e2;simp only[WD,RB,ND,Out.ok.injEq] at e2;obtain⟨rfl,rfl⟩:=e2;obtain⟨x,hx⟩:=r.bound (by rw[w];rfl);exact⟨x,hx,b,by rw[xo.VC];exact W8 r.sub (r.get w hx) e3,k H G (DA.refl r)⟩
 ·split
  ·rename_i d hd;obtain⟨h1,h2,h3,h4⟩:=CC.wG xo hd (λz=>nomatch z);obtain⟨u,v,hm,hr,W4⟩:=xo.c x d h2;exact pT xo (K7 h1 hm hr h3) W4 λ_=>rfl
  ·exact nB
def fLa(xo:gC q X K P C Z)(c:Const)(k:Nat)(pos:XB):MA X K P C (.Constant c k pos) (vV c):=by
 cases c with
 |none=>exact pT xo ePa (λG=>by simp[kA]) λ_=>rfl
 |bool b=>exact pT xo tOa (λG=>by simp[kA]) λ_=>rfl
 |int i=>exact pT xo kj (λG=>by simp[kA]) λ_=>rfl
 |str s =>
  simp only[vV];split
  ·rename_i h;exact pT xo aN (λG=>by simp only[kA];exact⟨trivial,h⟩) λ_=>rfl
  ·exact nB
 |_=>exact nB
def MC(h:aAd e=true)(es:List sA)(env:IK):UB (e::es) env=(false,eval e env)::UB es env:=by
 cases e<;>first | rfl | cases h
def nOa:PA X [] (OO K P C []):=by
 refine TA.xQ XH λY H Q q=>?_
 obtain⟨U,G,ds,U',r,e,k⟩:=q;simp only[ZD,RB,ND,Out.ok.injEq] at e;obtain⟨rfl,rfl⟩:=e;exact k [] H G (DA.refl r) rA.nil
def lOa(h:MA X K P C e c)(t:PA X es (OO K P C cs))(ns:aAd e=true):PA X (e::es) (OO K P C (c::cs)):=by
 refine TA.xQ (eG h.v t (MC ns _ _)) λY H Q q=>?_
 obtain⟨U,G,ds,U',r,e,k⟩:=q;rw[ZD] at e;obtain⟨v,U1,e1,e2⟩:=rB e;obtain⟨KG,U2,e3,e4⟩:=rB e2;cases e4;refine⟨U,G,v,U1,r,e1,λx H1 G1 a1 hx=>?_⟩;obtain⟨vb,QR,rx⟩:=a1.share hx;refine⟨U1,vb,KG,_,QR.lA,e3,λxs H2 G2 a2 oJ=>?_⟩;exact k (x::xs) H2 G2 (QR.trans a2) (rA.cons (kA.mono a2.ext.gg _ rx) oJ)
def oOa:PA X [] (MI K P C []):=by
 refine TA.xQ XH λY H Q q=>?_
 obtain⟨U,G,ds,U',r,e,k⟩:=q;simp only[nD,RB,ND,Out.ok.injEq] at e;obtain⟨rfl,rfl⟩:=e;exact k [] H G (DA.refl r) rfl
theorem vE.WH(w:∀a,new a->new' a):∀{hs:List Hd} {xs:List V},vE K H G own new Y hs xs->vE K H G own new' Y hs xs
 |[],_,h=>h
 |h::hs,_,r=>by(obtain⟨x,r',rfl,h1,h2,h3⟩:=r;exact⟨x,r',rfl,h1.WH w,vE.WH w h2,h3⟩)
def mOa(h:MA X K P C e c)(t:PA X es (MI K P C cs))(ns:aAd e=true):PA X (e::es) (MI K P C (c::cs)):=by
 refine TA.xQ (eG h.h t (MC ns _ _)) λY H Q q=>?_
 obtain⟨U,G,ds,U',r,e,k⟩:=q;rw[nD] at e;obtain⟨v,U1,e1,e2⟩:=rB e;obtain⟨KG,U2,e3,e4⟩:=rB e2;cases e4;refine⟨U,G,v,U1,r,e1,λx H1 G1 a1 hx=>⟨U1,G1,KG,_,a1.lA,e3,λxs H2 G2 a2 oJ=>?_⟩⟩;refine k (x::xs) H2 G2 (a1.trans a2) ⟨x,xs,rfl,hx.wait a2.ext λa z=>.inl (a2.own a z),oJ.WH λa z=>a1.ext.hx a z,λd a hd ha ht=>?_⟩;subst hd;obtain⟨b,e5,g,o,n,m⟩:=hx;rw[ha] at e5;cases e5;obtain⟨vs,hv⟩:=o.there
 have:=(oJ.iN ht).2.1
 rw[show H1 a=none from this] at hv;cases hv
theorem vE.getAll(r:CA K U Y H G):∀{hs:List Hd} {xs:List V} {ds:List D},vE K H G own new Y hs xs->getAll hs U=some ds->bV K H G ds xs
 |[],_,_,h,e=>by cases (show _=[] from h);cases e;rfl
 |h::hs,_,ds,hh,e=>by
  obtain⟨x,r',rfl,h1,h2,h3⟩:=hh;simp only[CI.getAll] at e
  cases q:h.get U with
  |none=>rw[q] at e;cases e
  |some d =>
   rw[q] at e
   cases q2:CI.getAll hs U with
   |none=>rw[q2] at e;cases e
   |some KG =>
    rw[q2] at e;cases e;exact⟨x,r',rfl,h1.read r q,vE.getAll r h2 q2⟩
def yKa(xo:OA X K P C Z)(ha:MA X K P C a ca)(hb:MA X K P C b cb):MA X K P C (.BinOp a op b pos) (.BA op ca cb):=by
 refine FE xo (TE.rD (gPa (ju xo.VC op) ha.h hb.h) λY H Q q=>?_);obtain⟨U,G,v,U',r,e,k⟩:=q;obtain⟨hx,U1,e1,e⟩:=rB e;obtain⟨hy,U2,e2,e⟩:=rB e;obtain⟨e3,rfl⟩:=LH e;refine⟨U,G,hx,U1,r,e1,λx H1 G1 a1 rx=>⟨U1,G1,hy,U',a1.lA,e2,λy H2 G2 a2 ry=>?_⟩⟩
 cases q1:hx.get U' with
 |none=>rw[q1] at e3;cases e3
 |some d =>
  cases q2:hy.get U' with
  |none=>rw[q1,q2] at e3;cases e3
  |some d2 =>
   rw[q1,q2] at e3;simp only[GF] at e3;split at e3
   ·rename_i hm;have zk:=rx.wait a2.ext λa z=>.inl (a2.own a z)
    refine⟨G2,d,d2,v,a2.lA.sub,zk.read a2.lA q1,ry.read a2.lA q2,λho ds hd=>?_,e3,λz H3 pQ=>?_⟩
    ·subst ho;subst hd
     cases hx with
     |slot i=>simp[ZS] at hm
     |val w =>
      cases w with
      |sh _=>simp[ZS] at hm
      |od _=>simp[ZS] at hm
      |ow w =>
       simp only[Hd.get,RV.d,RB] at q1;subst q1;obtain⟨c,e5,g,⟨vs,o1,o2⟩,n,m⟩:=zk;exact⟨c,vs,e5,o1,o2⟩
    ·obtain⟨G3,a3,v3⟩:=(a1.trans a2).made pQ;exact k z H3 G3 a3 v3
   ·cases e3
def xLa(xo:OA X K P C Z)(ha:MA X K P C a ca):MA X K P C (.UnaryOp .USub a pos) (.neg ca):=by
 refine FE xo (TE.rD (iPa yXa ha.v) λY H Q q=>?_);obtain⟨U,G,v,U',r,e,k⟩:=q;obtain⟨w,U1,e1,e⟩:=rB e;split at e
 ·rename_i i hi;cases e;refine⟨U,G,w,_,r,e1,λx H1 G1 a1 rx=>?_⟩
  have:=rx.BO
  rw[hi] at this;cases this.int;exact⟨i,rfl,k _ H1 G1 a1 (by show kA K G1 (.int (-i)) _;simp[kA])⟩
 ·cases e
def fPa(ha:PE X a ta):PE X (.UnaryOp .Not a pos) (λY H Q=>ta Y H λx H'=>∃k,lV X.K x H' k/\Q (.bl (!k)) H'):=by
 intro bA s Y H Q I h;refine UnaryOp_ (NA (ha bA s Y H _ I h) λv s1 hz=>?_);obtain⟨x,H1,I1,r1,q1⟩:=hz;exact not_of (NA (Wm bA s1 Y H1 x v (λk H'=>Q (.bl (!k)) H') I1 r1 q1) λb s2 ⟨H2,I2,q2⟩=>⟨.bl (!b),H2,I2,rfl,q2⟩)
def yLa(xo:OA X K P C Z)(ha:MA X K P C a ca):MA X K P C (.UnaryOp .Not a pos) (.not ca):=by
 have v:PE X (.UnaryOp .Not a pos) (tE K P C (.not ca)):=by
  refine TE.rD (fPa ha.h) λY H Q q=>?_
  obtain⟨U,G,v,U',r,e,k⟩:=q;obtain⟨w,U1,e1,e⟩:=rB e;obtain⟨e2,rfl⟩:=LH e;refine⟨U,G,w,U',r,e1,λx H1 G1 a1 rx=>?_⟩
  cases q:w.get U' with
  |none=>rw[q] at e2;cases e2
  |some d =>
   rw[q] at e2;simp only[GF] at e2
   cases q2:AK d with
   |none=>rw[q2] at e2;cases e2
   |some b =>
    rw[q2] at e2;cases e2;refine⟨b, ?_,k _ H1 G1 a1 (by show kA K G1 (.bl _) _;simp[kA])⟩;rw[xo.VC];exact W8 a1.lA.sub (rx.read a1.lA q) q2
 refine⟨v, ?_,QO v λi z=>nomatch z⟩;refine TT.yQ (vRa ha.t) λY H Q q=>?_
 obtain⟨U,G,b,U',r,e,k⟩:=q;obtain⟨w,U1,e1,e⟩:=rB e;split at e
 ·rename_i b';cases e;exact⟨U,G,b',_,r,e1,λH1 G1 a1=>k H1 G1 a1⟩
 ·cases e
def xV(a1:DA K U Y H G U1 H1 G1)(rx:vF K H1 G1 (yA U1 Y) (kF H) Y hx x)(a2:DA K U1 Y H1 G1 U2 H2 G2)(ry:vF K H2 G2 (yA U2 Y) (kF H1) Y hy y)
  (e:((hx.get U2).bind λd=>(hy.get U2).bind λe=>rC op d e)=some b) (Q:VK) (q:Q (.bl b) H2):vT K op x y H2 Q:=by
 cases q1:hx.get U2 with
 |none=>rw[q1] at e;cases e
 |some d =>
  cases q2:hy.get U2 with
  |none=>rw[q1,q2] at e;cases e
  |some d2 =>
   rw[q1,q2] at e;exact⟨G2,d,d2,b,a2.lA.sub,(rx.wait a2.ext λa z=>.inl (a2.own a z)).read a2.lA q1,ry.read a2.lA q2,e,q⟩
def vHa(e:(o.map λb=>RV.sh (.bl b))=some v):∃b,o=some b/\v=.sh (.bl b):=by
 cases o with
 |none=>cases e
 |some b=>cases e;exact⟨b,rfl,rfl⟩
def tV{x y:Option D}{f:D->D->Option Bool}(e:(x.bind λd=>y.bind λe=>(f d e).map λb=>RV.sh (.bl b))=some v):∃b,(x.bind λd=>y.bind λe=>f d e)=some b/\v=.sh (.bl b):=by
 cases x with
 |none=>cases e
 |some d =>
  cases y with
  |none=>cases e
  |some d2=>exact vHa e
def cLa(xo:OA X K P C Z)(ha:MA X K P C a ca)(hb:MA X K P C b cb)(hm:EK op b=false):MA X K P C (.Compare a [op] [b] pos) (.IA op ca cb):=by
 have core:∀Y H (Q:VK),(∃(U:Env) (G:Hp) (b:Bool) (U':Env),CA K U Y H G/\ev P C false (.IA op ca cb) U=some (.ok (.sh (.bl b)),U')/\∀H' G',DA K U Y H G U' H' G'->Q (.bl b) H') ->
   XT (vT K op) (tH K P C ca) (tH K P C cb) Y H Q:=λY H Q q=>by
  obtain⟨U,G,b,U',r,e,k⟩:=q;obtain⟨hx,U1,e1,e⟩:=rB e;obtain⟨hy,U2,e2,e⟩:=rB e;obtain⟨e3,rfl⟩:=LH e;obtain⟨b',e4,e5⟩:=tV e3;cases e5;exact⟨U,G,hx,U1,r,e1,λx H1 G1 a1 rx=>⟨U1,G1,hy,U',a1.lA,e2,λy H2 G2 a2 ry=>xV a1 rx a2 ry e4 Q (k H2 G2 (a1.trans a2))⟩⟩
 have v:PE X (.Compare a [op] [b] pos) (tE K P C (.IA op ca cb)):=by
  refine TE.rD (yOa (UP xo.VC xo.hu op) ha.h hb.h hm) λY H Q q=>core Y H Q ?_
  obtain⟨U,G,v,U',r,e,k⟩:=q;have e0:=e;obtain⟨hx,U1,e1,e⟩:=rB e;obtain⟨hy,U2,e2,e⟩:=rB e;obtain⟨e3,rfl⟩:=LH e;obtain⟨b',e4,rfl⟩:=tV e3;exact⟨U,G,b',U',r,e0,λH' G' a=>k _ H' G' a (by show kA K G' (.bl _) _;simp[kA])⟩
 refine⟨v, ?_,QO v λi z=>nomatch z⟩;refine TT.yQ (tRa (UP xo.VC xo.hu op) ha.h hb.h hm) λY H Q q=>core Y H _ ?_
 obtain⟨U,G,b',U',r,e,k⟩:=q;exact⟨U,G,b',U',r,e,λH' G' a=>⟨b',rfl,k H' G' a⟩⟩
def dLa(xo:OA X K P C Z)(ha:MA X K P C a ca)(hb:MA X K P C b cb)(hc:MA X K P C c cc)(hm:EK BC c=false):MA X K P C (.Compare a [op,BC] [b,c] pos) (.HH op BC ca cb cc):=by
 have core:∀Y H (Q:VK),(∃(U:Env) (G:Hp) (b:Bool) (U':Env),CA K U Y H G/\ev P C false (.HH op BC ca cb cc) U=some (.ok (.sh (.bl b)),U')/\∀H' G',DA K U Y H G U' H' G'->Q (.bl b) H') ->
   N8 (vT K op) (vT K BC) (tH K P C ca) (tH K P C cb) (tH K P C cc) Y H Q:=λY H Q q=>by
  obtain⟨U,G,b,U',r,e,k⟩:=q;obtain⟨hx,U1,e1,e⟩:=rB e;obtain⟨hy,U2,e2,e⟩:=rB e;refine⟨U,G,hx,U1,r,e1,λx H1 G1 a1 rx=>⟨U1,G1,hy,U2,a1.lA,e2,λy H2 G2 a2 ry=>?_⟩⟩;split at e
  ·cases e
  ·rename_i e4;cases e;refine xV a1 rx a2 ry e4 _ ⟨false,rfl, ?_⟩;rw[qB OK];exact k H2 G2 (a1.trans a2)
  ·rename_i e4;obtain⟨hz,U3,e5,e⟩:=rB e;obtain⟨e6,rfl⟩:=LH e;obtain⟨b',e7,e8⟩:=tV e6;cases e8;refine xV a1 rx a2 ry e4 _ ⟨true,rfl, ?_⟩;rw[uA rfl];exact⟨U2,G2,hz,U',a2.lA,e5,λz H3 G3 a3 rz=>xV (a1.trans a2) (ry.WH λa z=>a1.ext.hx a z) a3 rz e7 Q (k H3 G3 ((a1.trans a2).trans a3))⟩
 have hl:lastMarks [op,BC] [b,c]=false:=hm
 have v:PE X (.Compare a [op,BC] [b,c] pos) (tE K P C (.HH op BC ca cb cc)):=by
  refine TE.rD (xOa (UP xo.VC xo.hu op) (UP xo.VC xo.hu BC) ha.h hb.h hc.h hl) λY H Q q=>core Y H Q ?_
  obtain⟨U,G,v,U',r,e,k⟩:=q;have e0:=e
  have:∃b,v=.sh (.bl b):=by
   obtain⟨hx,U1,e1,e⟩:=rB e;obtain⟨hy,U2,e2,e⟩:=rB e;split at e
   ·cases e
   ·cases e;exact⟨_,rfl⟩
   ·obtain⟨hz,U3,e5,e⟩:=rB e;obtain⟨e6,rfl⟩:=LH e;obtain⟨b',e7,e8⟩:=tV e6;exact⟨b',e8⟩
  obtain⟨b',rfl⟩:=this;exact⟨U,G,b',U',r,e0,λH' G' a=>k _ H' G' a (by show kA K G' (.bl _) _;simp[kA])⟩
 refine⟨v, ?_,QO v λi z=>nomatch z⟩;refine TT.yQ (sRa (UP xo.VC xo.hu op) (UP xo.VC xo.hu BC) ha.h hb.h hc.h hl) λY H Q q=>core Y H _ ?_
 obtain⟨U,G,b',U',r,e,k⟩:=q;exact⟨U,G,b',U',r,e,λH' G' a=>⟨b',rfl,k H' G' a⟩⟩
end
section
variable{K:fA}
def PW.imp(h:PW X e t)(w:∀Y H Q,u Y H Q->t Y H Q):PW X e u:=λwh bA s Y H Q I q=>h wh bA s Y H Q I (w Y H Q q)
def Bt(q:tE K P C (.and ca cb) Y H Q):Jm (tE K P C ca) (tE K P C cb) Y H Q:=by
 obtain⟨U,G,v,U',r,e,k⟩:=q;obtain⟨w,U1,e1,e⟩:=rB e;refine⟨U,G,w,U1,r,e1,λx H1 G1 a1 rx=>?_⟩;split at e
 ·refine⟨true,yT (K:=K) (G:=G1) rx, ?_⟩;refine oO ?_;exact⟨U1,G1,v,U',a1.lA,e,λy H2 G2 a2 ry=>k y H2 G2 (a1.trans a2) (ry.WH λa z=>a1.ext.hx a z)⟩
 ·refine⟨false,yT (K:=K) (G:=G1) rx, ?_⟩;refine mO ?_;cases e;exact k _ H1 G1 a1 (by show kA K G1 (.bl _) _;simp[kA])
 ·cases e
def yt(q:tT K P C (.and ca cb) Y H Q):Im (tT K P C ca) (tT K P C cb) Y H Q:=by
 obtain⟨U,G,b,U',r,e,k⟩:=q;obtain⟨w,U1,e1,e⟩:=rB e;split at e
 ·refine⟨U,G,true,U1,r,e1,λH1 G1 a1=>?_⟩;refine oO ?_;exact⟨U1,G1,b,U',a1.lA,e,λH2 G2 a2=>k H2 G2 (a1.trans a2)⟩
 ·refine⟨U,G,false,U1,r,e1,λH1 G1 a1=>?_⟩;refine mO ?_;cases e;exact k H1 G1 a1
 ·cases e
def hOa(q:tE K P C (.or ca cb) Y H Q):Nm (tE K P C ca) (tE K P C cb) Y H Q:=by
 obtain⟨U,G,v,U',r,e,k⟩:=q;obtain⟨w,U1,e1,e⟩:=rB e;refine⟨U,G,w,U1,r,e1,λx H1 G1 a1 rx=>?_⟩;split at e
 ·refine⟨true,yT (K:=K) (G:=G1) rx, ?_⟩;refine oO ?_;cases e;exact k _ H1 G1 a1 (by show kA K G1 (.bl _) _;simp[kA])
 ·refine⟨false,yT (K:=K) (G:=G1) rx, ?_⟩;refine mO ?_;exact⟨U1,G1,v,U',a1.lA,e,λy H2 G2 a2 ry=>k y H2 G2 (a1.trans a2) (ry.WH λa z=>a1.ext.hx a z)⟩
 ·cases e
def gOa(q:tT K P C (.or ca cb) Y H Q):Mm (tT K P C ca) (tT K P C cb) Y H Q:=by
 obtain⟨U,G,b,U',r,e,k⟩:=q;obtain⟨w,U1,e1,e⟩:=rB e;split at e
 ·refine⟨U,G,true,U1,r,e1,λH1 G1 a1=>?_⟩;refine oO ?_;cases e;exact k H1 G1 a1
 ·refine⟨U,G,false,U1,r,e1,λH1 G1 a1=>?_⟩;refine mO ?_;exact⟨U1,G1,b,U',a1.lA,e,λH2 G2 a2=>k H2 G2 (a1.trans a2)⟩
 ·cases e
structure TJ(X:Cx)(K:fA)(P:YA)(C:Calls)(op:BoolOp)(vs:List sA)(c:E):Prop where
 v:∀pos,PE X (.BoolOp op vs pos) (tE K P C c)
 w:∀pos,PW X (.BoolOp op vs pos) (tT K P C c)
def cKa(h:MA X K P C a c):TJ X K P C .And [a] c:=⟨λ_=>lj h.v,λ_=>aAW h.t⟩
def dKa(h:MA X K P C a c):TJ X K P C .Or [a] c:=⟨λ_=>lj h.v,λ_=>aAZ h.t⟩
def Oi(h:MA X K P C a ca)(t:TJ X K P C .And (b::r) cb):TJ X K P C .And (a::b::r) (.and ca cb) :=
 ⟨λpos=>TE.rD (sOa h.v (t.v pos)) λ_ _ _ q=>Bt q,λpos=>PW.imp (aA1 h.t (t.w pos)) λ_ _ _ q=>yt q⟩
def Qi(h:MA X K P C a ca)(t:TJ X K P C .Or (b::r) cb):TJ X K P C .Or (a::b::r) (.or ca cb) :=
 ⟨λpos=>TE.rD (L7 h.v (t.v pos)) λ_ _ _ q=>hOa q,λpos=>PW.imp (aA3 h.t (t.w pos)) λ_ _ _ q=>gOa q⟩
def TJ.Ri(h:TJ X K P C op vs c)(n:∀i,c≠.v i):MA X K P C (.BoolOp op vs pos) c:=⟨h.v pos,(h.w pos).pt,QO (h.v pos) n⟩
def uRa(hc:PT X c tc)(ha:PT X a ta)(hb:PT X b tb):PT X (.IfExp c a b pos) (λY H Q=>tc Y H λk H1=>if k=true then ta Y H1 Q else tb Y H1 Q):=by
 intro bA s Y H Q I h;show AA _ _ (do if <- isTrue c X.env (eval c X.env) then isTrue a X.env (eval a X.env) else isTrue b X.env (eval b X.env)) _ _ s;refine FA (NA (hc bA s Y H _ I h) λk s1 hz=>?_);obtain⟨H1,I1,q1⟩:=hz
 cases k with
 |true =>
  simp only[iE] at q1 ⊢;exact ha bA s1 Y H1 Q I1 q1
 |false =>
  simp only[zD,yE] at q1 ⊢;exact hb bA s1 Y H1 Q I1 q1
def qLa(hc:MA X K P C c cc)(ha:MA X K P C a ca)(hb:MA X K P C b cb):MA X K P C (.IfExp c a b pos) (.ite cc ca cb):=by
 have v:PE X (.IfExp c a b pos) (tE K P C (.ite cc ca cb)):=by
  refine TE.rD (bPa hc.t ha.v hb.v) λY H Q q=>?_
  obtain⟨U,G,v,U',r,e,k⟩:=q;obtain⟨w,U1,e1,e⟩:=rB e;split at e
  ·refine⟨U,G,true,U1,r,e1,λH1 G1 a1=>?_⟩;refine oO ?_;exact⟨U1,G1,v,U',a1.lA,e,λy H2 G2 a2 ry=>k y H2 G2 (a1.trans a2) (ry.WH λa z=>a1.ext.hx a z)⟩
  ·refine⟨U,G,false,U1,r,e1,λH1 G1 a1=>?_⟩;refine mO ?_;exact⟨U1,G1,v,U',a1.lA,e,λy H2 G2 a2 ry=>k y H2 G2 (a1.trans a2) (ry.WH λa z=>a1.ext.hx a z)⟩
  ·cases e
 refine⟨v, ?_,QO v λi z=>nomatch z⟩;refine TT.yQ (uRa hc.t ha.t hb.t) λY H Q q=>?_
 obtain⟨U,G,b,U',r,e,k⟩:=q;obtain⟨w,U1,e1,e⟩:=rB e;split at e
 ·refine⟨U,G,true,U1,r,e1,λH1 G1 a1=>?_⟩;refine oO ?_;exact⟨U1,G1,b,U',a1.lA,e,λH2 G2 a2=>k H2 G2 (a1.trans a2)⟩
 ·refine⟨U,G,false,U1,r,e1,λH1 G1 a1=>?_⟩;refine mO ?_;exact⟨U1,G1,b,U',a1.lA,e,λH2 G2 a2=>k H2 G2 (a1.trans a2)⟩
 ·cases e
def pMa(xo:OA X K P C Z)(h:PA X es (OO K P C cs)):MA X K P C (.Tuple es k0 pos) (.t cs):=by
 refine FE xo (TE.rD (mj h) λY H Q q=>?_);obtain⟨U,G,v,U',r,e,k⟩:=q;obtain⟨ds,U1,e1,e⟩:=rB e;split at e
 ·rename_i hz;cases e;refine⟨U,G,ds,_,r,e1,λxs H1 G1 a1 rx=>⟨by rw[rx.len];exact dN hz,λp hp=>?_⟩⟩;obtain⟨a2,v2⟩:=a1.cn hp rx;exact k _ _ _ a2 v2
 ·cases e
def uLa(xo:gC q X K P C Z)(h:PA X es (OO K P C cs)):MA X K P C (.List es pos) (.l cs):=by
 refine FE xo (TE.rD (dPa h) λY H Q q=>?_);obtain⟨U,G,v,U',r,e,k⟩:=q;obtain⟨ds,U1,e1,e⟩:=rB e;split at e
 ·rename_i hz;cases e;refine⟨U,G,ds,_,r,e1,λxs H1 G1 a1 rx=>⟨by rw[rx.len];exact dN hz,λp hp=>?_⟩⟩;obtain⟨a2,v2⟩:=a1.ZX hp rx;exact k _ _ _ a2 v2
 ·cases e
def rLa(xo:OA X K P C Z)(ha:MA X K P C a ca)(hb:MA X K P C b cb)(hs:HZ b):MA X K P C (.Subscript a b pos) (.ix ca cb):=by
 refine FE xo (TE.rD (cPa (kDa xo.VC (by have:=xo.hu;lia)) ha.h hb.v hs) λY H Q q=>?_);obtain⟨U,G,v,U',r,e,k⟩:=q;obtain⟨hx,U1,e1,e⟩:=rB e;obtain⟨w,U2,e2,e⟩:=rB e;obtain⟨e3,rfl⟩:=LH e;refine⟨U,G,hx,U1,r,e1,λx H1 G1 a1 rx=>⟨U1,G1,w,U',a1.lA,e2,λy H2 G2 a2 ry=>?_⟩⟩
 cases q1:hx.get U' with
 |none=>rw[q1] at e3;cases e3
 |some d =>
  rw[q1] at e3;simp only[GF] at e3
  cases q2:CL d w.d with
  |none=>rw[q2] at e3;cases e3
  |some d2 =>
   rw[q2] at e3;cases e3;exact⟨G2,d,w.d,d2,a2.lA.sub,(rx.wait a2.ext λa z=>.inl (a2.own a z)).read a2.lA q1,ry.BO,q2,λz hz=>k z H2 G2 (a1.trans a2) hz⟩
noncomputable def tO(K:fA)(P:YA)(C:Calls)(c:E):TO:=λY H Q=>∃(U:Env) (G:Hp) (o:Option D) (U':Env),CA K U Y H G/\aAL c (ev P C false c U) U=some (.ok o,U')/\∃i,ZM o=some i/\∀H' G',DA K U Y H G U' H' G'->Q i H'
def yPa:PO X none (tO K P C .zC):=λbA s Y H Q I hz=>by
 obtain⟨U,G,o,U',r,e,i,e2,k⟩:=hz;simp only[aAL,J5,iE,RB,ND,Out.ok.injEq] at e;obtain⟨rfl,rfl⟩:=e;cases e2;exact xPa bA s Y H Q I (k H G (DA.refl r))
def aQa(h:MA X K P C e c):PO X (some e) (tO K P C (v7 c)):=λbA s Y H Q I hz=>by
 obtain⟨U,G,o,U',r,e1,i,e2,k⟩:=hz
 have key:∀c',v7 c=c'->J5 c'=false->(∀U,ev P C false c' U=ev P C false c U\/ev P C false c' U=none)->AA (model X.prog X.w) X.A (evalPart (some e) X.env) (λu s'=>∃o H',dA X bA Y H' s'/\LK u o/\Q o H') X.xe s:=λc' e0 TM he=>by
  rw[e0] at e1;simp only[aAL,TM,zD,yE] at e1;obtain⟨w,U1,e3,e4⟩:=rB e1;cases e4;rcases he U with he | he
  ·rw[he] at e3;refine zPa h.v bA s Y H Q I ⟨U,G,w,_,r,e3,λx H1 G1 a1 rx=>?_⟩;cases q:w.d<;>rw[q] at e2<;>simp only[ZM,reduceCtorEq,RB] at e2;subst e2
   have:=rx.BO
   rw[q] at this;exact⟨_,this.int,k H1 G1 a1⟩
  ·rw[he] at e3;cases e3
 cases c with
 |zC=>exact key .nA rfl rfl λU=>.inr (rfl)
 |_=>exact key _ rfl rfl λU=>.inl rfl
def lMa(xo:OA X K P C Z){lo hi:Option sA}{ca cl ch:E}(ha:MA X K P C a ca)(hl:PO X lo (tO K P C cl))(hh:PO X hi (tO K P C ch)):MA X K P C (.Subscript a (.Slice lo hi none p2) pos) (.sl ca cl ch):=by
 refine FE xo (TE.rD (hPa (qUa xo.VC) ha.h hl hh) λY H Q q=>?_);obtain⟨U,G,v,U',r,e,k⟩:=q;obtain⟨hx,U1,e1,e⟩:=rB e;obtain⟨l,U2,e2,e⟩:=rB e;obtain⟨h,U3,e3,e⟩:=rB e;obtain⟨e4,rfl⟩:=LH e
 cases q1:hx.get U' with
 |none=>rw[q1] at e4;cases e4
 |some d =>
  cases q2:ZM l with
  |none=>rw[q1,q2] at e4;cases e4
  |some l' =>
   cases q3:ZM h with
   |none=>rw[q1,q2,q3] at e4;cases e4
   |some h' =>
    rw[q1,q2,q3] at e4;simp only[GF] at e4;refine⟨U,G,hx,U1,r,e1,λx H1 G1 a1 rx=>⟨U1,G1,l,U2,a1.lA,e2,l',q2,λH2 G2 a2=>⟨U2,G2,h,U',a2.lA,e3,h',q3,λH3 G3 a3=>?_⟩⟩⟩;have MZ:=a2.trans a3;refine⟨G3,d,v,a3.lA.sub,(rx.wait MZ.ext λa z=>.inl (MZ.own a z)).read a3.lA q1,e4,λz H4 hm=>?_⟩;obtain⟨G4,a4,v4⟩:=(a1.trans MZ).made hm;exact k z H4 G4 a4 v4
def zJ(h:es.all aAd=true)(env:IK)(pos:XB):(sE pos (UB es env)).any (·.1)=false/\(sE pos (UB es env)).all (λx=>!x.1)=true:=by
 induction es with
 |nil=>exact⟨rfl,rfl⟩
 |cons e es ih =>
  rw[TB,qA] at h;rw[MC h.1];obtain⟨i1,i2⟩:=ih h.2
  unfold sE at *
  refine⟨?_, ?_⟩
  ·rw[eD,FK,i1];rfl
  ·rw[eD,TB,i2];rfl
def aLa(xo:OA X K P C Z)(hf:Z.glob f=.fn g)(ns:(e::es).all aAd=true)(ha:PA X (e::es) (MI K P C cs)):MA X K P C (.Call (.Name f p) (e::es) [] pos) (.call g cs):=by
 obtain⟨h1,h2,h3,h4⟩:=CC.wG xo hf (λz=>nomatch z);obtain⟨fa,fd,ps,k0,F,hr,hm,hk,hb⟩:=(xo.fn f g h2).ex;rw[TB,qA] at ns;refine FE xo (TE.rD (vOa F hr h1 hm hk hb .nil pOa ha h3 (MC ns.1 _ _) (zJ ns.2 _ _).1) λY H Q q=>?_);obtain⟨U,G,v,U',r,e,k⟩:=q;obtain⟨hs,U1,e1,e⟩:=rB e;refine⟨U,G,hs,U1,r,e1,λxs H1 G1 a1 rx=>?_⟩;obtain⟨as,G2,QA,d1,d2,d3,_,d4⟩:=E1 a1 rx e;rw[DK];refine⟨?_,as,G2,v,QA,d1,d2,d3,λx H' G' a hv=>?_⟩
 ·have:=d1.len
  rw[JA] at this
  lia
 ·obtain⟨a5,v5⟩:=d4 x H' G' a hv;exact k x H' G' a5 v5
def fu(h:sV f=some b):uN f=some (vc b):=by
 unfold sV at h
 repeat (split at h;· (rename_i hf;cases h;subst hf;first | exact PySem.boot_len | left | rfl))
 cases h
def F7(xo:OA X K P C Z)(hf:Z.glob f=.AB)(hb:sV f=some b)(ns:(e::es).all aAd=true)(ha:PA X (e::es) (MI K P C cs)):MA X K P C (.Call (.Name f p) (e::es) [] pos) (.bif b cs):=by
 obtain⟨h1,h2,h3,h4⟩:=CC.wG xo hf (λz=>nomatch z);have hm:=xo.AB f h2;have hv:=fu hb;rw[TB,qA] at ns
 have hp:PE X (.Call (.Name f p) (e::es) [] pos) (M8 (Mj K b) (MI K P C cs)):=by
  have hc:=gu xo.VC xo.calm xo.hh xo.rm b
  cases b<;>first
   |exact aY hc h1 hm hv ha h4 h3 (MC ns.1 _ _) (zJ ns.2 _ _).1
   |exact wOa hc h1 hm hv ha h4 h3 (MC ns.1 _ _) (zJ ns.2 _ _).1
 refine FE xo (TE.rD hp λY H Q q=>?_);obtain⟨U,G,v,U',r,e,k⟩:=q;obtain⟨hs,U1,e1,e⟩:=rB e;obtain⟨e2,rfl⟩:=LH e;refine⟨U,G,hs,U',r,e1,λxs H1 G1 a1 rx=>?_⟩
 cases q1:getAll hs U' with
 |none=>rw[q1] at e2;cases e2
 |some ds =>
  rw[q1] at e2;refine⟨G1,ds,v,a1.lA.sub,rx.getAll a1.lA q1,e2,λz H' hm=>?_⟩;obtain⟨G2,a2,v2⟩:=a1.made hm;exact k z H' G2 a2 v2
end
section
variable{K:fA}
def jX(h:CF U i=true):∃ds p l,U[i]?=some (.ow (.l ds) p l):=by
 unfold CF at h;split at h
 ·rename_i d p l e;exact⟨d,p,l,e⟩
 ·cases h
def CA.Pn(r:CA K U Y H G)(h:U[i]?=some (.ow d p l))(hx:Y[i]?=some (some (.ref a)))(hr:GG K (vA H a ob) G a d') :
  DA K U Y H G (U.set i (.ow d' p l)) (vA H a ob) G:=by
 obtain⟨b,h1,g,o⟩:=r.ow i d p l h;rw[hx] at h1;cases h1;have hn:H a≠none:=(r.owned ⟨i,d,p,l,h,hx⟩).1
 have r0:CA K (U.set i .un) Y (vA H a ob) G:=by
  have ru:=r.unset i;have nu:=r.mR h hx;refine⟨ru.len,λb u e=>?_,ru.sh,λj d' p' l' hj=>?_,ru.inj⟩
  ·have:b≠a:=λz=>by subst z;rw[g] at e;cases e
   rw[iB this];exact ru.sub b u e
  ·obtain⟨b,h3,h4,h5⟩:=ru.ow j d' p' l' hj;have hb:b≠a:=λz=>by subst z;exact nu ⟨j,d',p',l',hj,h3⟩
   exact⟨b,h3,h4,h5.mono (Sm.refl _) λ_ z=>by rw[iB hb];exact z⟩
 refine⟨r0.AO hx g hr (r.mR h hx),⟨Sm.refl _,λb u e nb=>?_,λb e=>?_,λb e g' _=>g'⟩,BE.set (by rw[h];exact⟨rfl,rfl⟩)⟩
 ·have:b≠a:=λz=>by subst z;exact nb ⟨i,d,p,l,h,hx⟩
  rw[iB this];exact e
 ·by_cases hb:b=a
  ·subst hb;rw[fC] at e;cases e
  ·rwa[iB hb] at e
def CA.write(r:CA K U Y H G)(h:U[i]?=some (.ow d p l))(hx:Y[i]?=some (some (.ref a)))(hr:rA K G ds vs) :
  DA K U Y H G (U.set i (.ow (.l ds) p l)) (vA H a (.l vs)) G:=r.Pn h hx ⟨vs,fC,hr⟩
def vKa(xo:OA X K P C Z)(hi:Z.slot x=some i)(hl:(mB.endLine==aB.line)=true)(ns:aAd a=true)(ha:MA X K P C a ca) :
  MA X K P C (.Call (.Attribute (.Name x p) ("append":aA) mB) [a] [] aB) (.app i ca):=by
 have hp:PE X (.Name x p) (bI i):=CC.NL xo hi;have xE:PA X [a] (OG (tE K P C ca) NI):=eG ha.v XH (MC ns _ _);have dJ:[a].all aAd=true:=by rw[TB,ns];rfl
 refine FE xo (TE.rD (MQ Ro Xo PySem.F.type_list_append ui hp xE rfl (by
   rw[qA,qA];exact⟨⟨(zJ dJ _ _).2,rfl⟩,rfl⟩) hl (MC ns _ _) rfl) λY H Q q=>?_)
 obtain⟨U,G,v,U',r,e,k⟩:=q;replace e:(if CF U i then _ else none)=_:=e;split at e
 ·rename_i ho;obtain⟨d0,p0,l0,h0⟩:=jX ho;obtain⟨b,hb,g0,o0⟩:=r.ow i _ p0 l0 h0;obtain⟨w,U1,e1,e⟩:=rB e;refine⟨.ref b,hb,.inl ⟨rfl, ?_⟩,U,G,w,U1,r,e1,λy H1 G1 a1 ry=>?_⟩
  ·obtain⟨vs,hv,_⟩:=o0;exact⟨vs,CB.of hv⟩
  ·split at e
   ·rename_i ds p1 h1;split at e
    ·rename_i hz;cases e;obtain⟨G2,a2,r2⟩:=a1.share ry;obtain⟨b',AF,g1,vs,hv,hr⟩:=a2.lA.ow i _ _ _ h1;rw[hb] at AF;cases AF
     have:=hr.len
     refine⟨b,vs,y,rfl,rfl,hv, ?_, ?_⟩
     ·have:=dN hz
      lia
     ·have a3:=a2.lA.write h1 hb (hr.app (rA.cons r2 rA.nil));exact k _ _ _ (a2.trans a3) (by show kA K G2 .oA _;simp[kA])
    ·cases e
   ·cases e
 ·cases e
def hLa(xo:OA X K P C Z)(hi:Z.slot x=some i)(hl:(mB.endLine==aB.line)=true)(ns:aAd a=true)(ha:MA X K P C a ca) :
  MA X K P C (.Call (.Attribute (.Name x p) ("extend":aA) mB) [a] [] aB) (.ext i ca):=by
 have hp:PE X (.Name x p) (bI i):=CC.NL xo hi;have xE:PA X [a] (OG (tE K P C ca) NI):=eG ha.v XH (MC ns _ _);have dJ:[a].all aAd=true:=by rw[TB,ns];rfl
 refine FE xo (TE.rD (MQ Ro Yo PySem.F.type_list_extend fIa hp xE rfl (by
   rw[qA,qA];exact⟨⟨(zJ dJ _ _).2,rfl⟩,rfl⟩) hl (MC ns _ _) rfl) λY H Q q=>?_)
 obtain⟨U,G,v,U',r,e,k⟩:=q;replace e:(if CF U i then _ else none)=_:=e;split at e
 ·rename_i ho;obtain⟨d0,p0,l0,h0⟩:=jX ho;obtain⟨b,hb,g0,o0⟩:=r.ow i _ p0 l0 h0;obtain⟨w,U1,e1,e⟩:=rB e;refine⟨.ref b,hb,.inl ⟨rfl, ?_⟩,U,G,w,U1,r,e1,λy H1 G1 a1 ry=>?_⟩
  ·obtain⟨vs,hv,_⟩:=o0;exact⟨vs,CB.of hv⟩
  ·split at e
   ·rename_i ds p1 es h1;split at e
    ·rename_i hz;cases e;obtain⟨c,rfl,gc,⟨zs,hc,Of⟩,D7,new⟩:=ry;obtain⟨b',AF,g1,vs,hv,hr⟩:=a1.lA.ow i _ _ _ h1;rw[hb] at AF;cases AF;have l1:=hr.len;have l2:=Of.len;refine⟨b,c,vs,zs,rfl,rfl,hv,hc, ?_, ?_⟩
     ·have:=dN hz
      lia
     ·exact k _ _ _ (a1.trans (a1.lA.write h1 hb (hr.app Of))) (by show kA K G1 .oA _;simp[kA])
    ·cases e
   ·cases e
 ·cases e
def xn:vA (vA H p a) p b=vA H p b:=by
 funext q
 by_cases h:q=p
 ·subst h;rw[fC,fC]
 ·rw[iB h,iB h,iB h]
def CA.NQ(r:CA K U Y H G)(g:G a=none)(n:¬yA U Y a):CA K U Y (vA H a o) G:=by
 refine⟨r.len,λb u e=>?_,r.sh,λj d' p' l' hj=>?_,r.inj⟩
 ·have:b≠a:=λz=>by subst z;rw[g] at e;cases e
  rw[iB this];exact r.sub b u e
 ·obtain⟨b,h3,h4,h5⟩:=r.ow j d' p' l' hj;have hb:b≠a:=λz=>by subst z;exact n ⟨j,d',p',l',hj,h3⟩
  exact⟨b,h3,h4,h5.mono (Sm.refl _) λ_ z=>by rw[iB hb];exact z⟩
theorem DA.NQ(b:DA K U Y H G U' H' G')(h:H a=none)(g:G' a=none)(n:¬yA U' Y a):DA K U Y H G U' (vA H' a o) G':=by
 refine⟨b.lA.NQ g n,⟨b.ext.gg,λc u e nc=>?_,λc e=>?_,b.ext.gn⟩,b.aK⟩
 ·have:c≠a:=λz=>by subst z;rw[h] at e;cases e
  rw[iB this];exact b.ext.hh c u e nc
 ·by_cases hc:c=a
  ·subst hc;rw[fC] at e;cases e
  ·rw[iB hc] at e;exact b.ext.hx c e
def wXa(xo:gC q X K P C Z)(h:NY Z t=some ty):PE X t (tC (a9 ty))/\aAd t=true:=by
 cases t<;>simp only[NY,reduceCtorEq] at h;rename_i x pos;split at h
 ·rename_i hg;obtain⟨h1,h2,h3,h4⟩:=CC.wG xo hg (λz=>nomatch z);have hm:=xo.AB x h2;refine⟨?_,rfl⟩;split at h
  ·rename_i hx;cases h;subst hx;exact LQ h1 hm (u:=.type "int") (by left) rfl
  ·split at h
   ·rename_i hx;cases h;subst hx;exact LQ h1 hm (u:=.type "bool") (by left) rfl
   ·split at h
    ·rename_i hx;cases h;subst hx;exact LQ h1 hm (u:=.type "str") (by left) rfl
    ·split at h
     ·rename_i hx;cases h;subst hx;exact LQ h1 hm (u:=.type "list") (by left) rfl
     ·split at h
      ·rename_i hx;cases h;subst hx;exact LQ h1 hm (u:=.type "tuple") (by left) rfl
      ·split at h
       ·rename_i hx;cases h;subst hx;exact LQ h1 hm (u:=.type "ValueError") (by left) rfl
       ·cases h
 ·cases h
def pLa(xo:gC q X K P C Z)(hf:Z.glob ("isinstance":aA)=.AB)(ht:NY Z t=some ty)(ns:aAd a=true)(ha:MA X K P C a ca) :
  MA X K P C (.Call (.Name ("isinstance":aA) p) [a,t] [] pos) (.xG ca [ty]):=by
 obtain⟨h1,h2,h3,h4⟩:=CC.wG xo hf (λz=>nomatch z);have hm:=xo.AB _ h2;obtain⟨pt,nt⟩:=wXa xo ht;have xE:PA X [a,t] (OG (tH K P C ca) (OG (tC (a9 ty)) NI)):=eG ha.h (eG pt XH (MC nt _ _)) (MC ns _ _);have dJ:[t].all aAd=true:=by rw[TB,nt];rfl
 have hp:=aY (p:=p) (pos:=pos) (zCa xo.VC ty) h1 hm (by left) xE h4 h3 (MC ns _ _) (zJ dJ _ _).1;refine FE xo (TE.rD hp λY H Q q=>?_);obtain⟨U,G,v,U',r,e,k⟩:=q;obtain⟨hx,U1,e1,e⟩:=rB e;obtain⟨e2,rfl⟩:=LH e;refine⟨U,G,hx,U',r,e1,λx H1 G1 a1 rx=>?_⟩
 cases q1:hx.get U' with
 |none=>rw[q1] at e2;cases e2
 |some d =>
  rw[q1] at e2;simp only[GF,NS] at e2
  cases q2:kX ty d with
  |none=>rw[q2] at e2;cases e2
  |some b =>
   rw[q2] at e2;simp only[GF,WD,Ga,RB] at e2;subst e2;exact⟨G1,d,x,b,a1.lA.sub,rfl,rx.read a1.lA q1,q2,k _ H1 G1 a1 (by show kA K G1 (.bl _) _;simp[kA])⟩
def wPa(h:∀lo hi p,b≠.Slice lo hi none p):HZ b:=λo i=>by
 cases b<;>first
  |rfl
  | (rename_i lo hi st p;cases st with
    |none=>exact absurd rfl (h lo hi p)
    |some s=>rfl)
end
section
variable{K:fA}
def zKa(xo:OA X K P C Z)(hl:(mB.endLine==aB.line)=true):MA X K P C (.Call (.Attribute (.Name x p) "bit_length" mB) [] [] aB) (.yM (PN Z x)):=by
 have ha:=Vi xo x p;refine FE xo (TE.rD (uOa PySem.F.plainAttrs_int slot_int_bit_length type_int_bit_length eIa ha.h rfl hl) λY H Q q=>?_);obtain⟨U,G,v,U',r,e,k⟩:=q;obtain⟨hx,U1,e1,e⟩:=rB e;obtain⟨e3,rfl⟩:=LH e;refine⟨U,G,hx,U',r,e1,λx H1 G1 a1 rx=>?_⟩
 cases q1:hx.get U' with
 |none=>rw[q1] at e3;cases e3
 |some d =>
  rw[q1] at e3;simp only[GF] at e3;cases d<;>simp only[F0,reduceCtorEq] at e3;cases e3;cases (rx.read a1.lA q1).int;exact⟨rfl,_,rfl,rfl,k _ H1 G1 a1 (by show kA K G1 (.int _) _;simp[kA])⟩
def Jv(hK:X.K=K):qG X (.builtin "isinstance") (λxs H Q=>∃a Ca Da b,xs=[.ref a,.ref Da]/\(∃pp,H a=some (.ext (CH a Ca pp)))/\DE K Ca/\PySem.W.kitOne K (.ref Ca) (.ref Da)=some b/\Q (.bl b) H):=by
 intro bA s Y H xs us Q I r h;obtain⟨a,Ca,Da,b,rfl,⟨pp,ha⟩,g,e,q⟩:=h;subst hK;obtain⟨u,w,rfl,ru,ZH⟩:=aAS r;cases ru;cases ZH;exact sN (M6 g) I.pE (I.HA a _ ha).1 e (λz=>nomatch z) λtk=>⟨.bl b,H,I.tok tk,rfl,q⟩
theorem Gn:∀{Ds:List eA} {us:List cA},aAf (Ds.map V.ref) us->us=Ds.map Value.ref
 |[],_,.nil=>rfl
 |_::_,_,.cons r t=>by rw[eD,<- Gn t];cases (show _=_ from r);rfl
def Kv(hK:X.K=K):qG X (.builtin "isinstance") (λxs H Q=>∃(a Ca p:eA) (Ds:List eA) (b:Bool),xs=[.ref a,.ref p]/\(∃pp,H a=some (.ext (CH a Ca pp)))/\DE K Ca/\H p=some (.t (Ds.map V.ref))/\DU K (.ref Ca) (Ds.map Value.ref)=some b/\Q (.bl b) H):=by
 intro bA s Y H xs us Q I r h;obtain⟨a,Ca,p,Ds,b,rfl,⟨pp,ha⟩,g,hp,e,q⟩:=h;subst hK;obtain⟨u,w,rfl,ru,ZH⟩:=aAS r;cases ru;cases ZH;obtain⟨_,gA,rv,⟨oc,od,Li,fF⟩,h4,h5,n,h6⟩:=I.HA p _ hp;cases (show oc=_ from h5);cases (show Li=_ from h6);obtain rfl:=Gn rv;exact PySem.W.kia_tup (M6 g) I.pE (I.HA a _ ha).1 h4 e (λz=>nomatch z) λtk=>⟨.bl b,H,I.tok tk,rfl,q⟩
inductive KP(K:PySem.W.Frag):List (List Str×List Str)->List Addr->Prop
 |nil:KP K [] []
 |cons {s n:List aA} {D:eA} {sn:List (List aA×List aA)} {Ds:List eA} (hs:∀c∈s,∀C,JB K oB c=some (some (.ref C))->IU K (.ref C) D=true)
   (hn:∀c∈n,∀C,JB K oB c=some (some (.ref C))->pP K C D=true) (t:KP K sn Ds):KP K ((s,n)::sn) (D::Ds)
theorem Qn(hc:JB K oB c=some (some (.ref Ca))):∀{sn:List (List aA×List aA)} {Ds:List eA} {b:Bool},KP K sn Ds->kO c sn=some b->DU K (.ref Ca) (Ds.map Value.ref)=some b
 |_,_,b,.nil,e=>by cases e;rfl
 |_,_,b,.cons hs hn t,e=>by
  simp only[kO] at e;rw[eD];unfold DU;split at e
  ·rename_i h1;cases e;rw[kGa (hs c (by simpa using h1) Ca hc)]
  ·split at e
   ·rename_i h2;rw[lGa (hn c (by simpa using h2) Ca hc)];exact Qn hc t e
   ·cases e
theorem dj(xo:gC q X K P C Z):∀{es:List sA} {sn:List (List aA×List aA)},cR Z es=some sn->∃Ds,KP K sn Ds/\PA X es (λY H Q=>Q (Ds.map V.ref) H)/\Ds.length=es.length
 |[],_,h=>by
  simp only[cR,RB] at h;subst h;exact⟨[],.nil,XH,rfl⟩
 |e::es,sn,h=>by
  unfold cR at h;split at h
  ·cases h;simp_all
  ·rename_i x p dS heq;cases heq;split at h
   ·rename_i s n hx
    cases q:cR Z es with
    |none=>rw[q] at h;cases h
    |some sn' =>
     rw[q] at h;cases h;obtain⟨Ds,h1,h2,h3⟩:=dj xo q;obtain⟨x1,x2,x3,x4⟩:=CC.Oe xo hx (λz=>nomatch z);obtain⟨D,d1,d2,d3⟩:=(xo.GD x s n x2).ex;exact⟨D::Ds,.cons d2 d3 h1,TA.xQ (eG (K7 x1 d1 (v:=.ref D) rfl x3) h2 rfl) λY H Q q=>q,by rw[IC,IC,h3]⟩
   ·cases h
  ·cases h
def og(xo:gC qq X K P C Z)(q:tE K P C (.jO ca sn) Y H Q):tH K P C ca Y H λx H1=>∃a Ca b G1,x=.ref a/\fB G1 H1/\(∃pp,H1 a=some (.ext (CH a Ca pp)))/\DE K Ca/\(∀{Ds:List eA},KP K sn Ds->DU K (.ref Ca) (Ds.map Value.ref)=some b)/\Q (.bl b) H1/\∀p o,H1 p=none->Q (.bl b) (vA H1 p o):=by
 obtain⟨U,G,v,U',r,e,k⟩:=q;obtain⟨hx,U1,e1,e⟩:=rB e;obtain⟨e2,rfl⟩:=LH e;refine⟨U,G,hx,U',r,e1,λy H1 G1 a1 rx=>?_⟩
 cases q1:hx.get U' with
 |none=>rw[q1] at e2;cases e2
 |some d =>
  rw[q1] at e2;simp only[GF] at e2;cases d<;>simp only[N5,reduceCtorEq] at e2;rename_i c _
  cases q2:kO c sn with
  |none=>rw[q2] at e2;cases e2
  |some b =>
   rw[q2] at e2;cases e2;obtain⟨a,Ca,pp,rfl,g1,g2,g3,_⟩:=(rx.read a1.lA q1).uD a1.lA.sub;exact⟨a,Ca,b,G1,rfl,a1.lA.sub,⟨pp,g3⟩,g2,λt=>Qn g1 t q2,k _ H1 G1 a1 (by show kA K G1 (.bl b) _;simp[kA]),λp o hp=>k _ _ G1 (a1.EL hp) (by show kA K G1 (.bl b) _;simp[kA])⟩
def jLa(xo:gC q X K P C Z)(hf:Z.glob ("isinstance":aA)=.AB)(ns:aAd a=true)(ha:MA X K P C a ca):MA X K P C (.Call (.Name ("isinstance":aA) p) [a,t] [] pos) (G8 Z t ca):=by
 cases t with
 |Name x p2 =>
  show MA X K P C _ (QT Z x ca);unfold QT;split
  ·rename_i s n hx;exact nB
  ·rename_i s n hx;obtain⟨h1,h2,h3,h4⟩:=CC.wG xo hf (λz=>nomatch z);have hm:=xo.AB _ h2;obtain⟨x1,x2,x3,x4⟩:=CC.Oe xo hx (λz=>nomatch z);obtain⟨Da,d1,d2,d3⟩:=(xo.GD x s n x2).ex;have xE:PA X [a,.Name x p2] (OG (tH K P C ca) (OG (tC (.ref Da)) NI)):=eG ha.h (eG (K7 x1 d1 rfl x3) XH rfl) (MC ns _ _);have hp:=aY (p:=p) (pos:=pos) (Jv xo.VC) h1 hm (by left) xE h4 h3 (MC ns _ _) rfl;refine FE xo (TE.rD hp λY H Q q=>?_);obtain⟨U,G,vI,U',r,e1,k⟩:=og xo q;refine⟨U,G,vI,U',r,e1,λy H1 G1 a1 rx=>?_⟩;obtain⟨a',Ca,b,G2,rfl,_,g3,g2,ky,q1,_⟩:=k y H1 G1 a1 rx;refine⟨a',Ca,Da,b,rfl,g3,g2, ?_,q1⟩;have z:=ky (.cons d2 d3 .nil);simp only[eD,vN,DU] at z;split at z
   ·rename_i z1;rw[z1];exact z
   ·rename_i z1;rw[z1];exact z
   ·cases z
  ·exact nB
 |Tuple es k0 p2 =>
  show MA X K P C _ (UT Z es ca);unfold UT;split
  ·rename_i sn hsn;split
   case isFalse=>exact nB
   rename_i hle;obtain⟨h1,h2,h3,h4⟩:=CC.wG xo hf (λz=>nomatch z);have hm:=xo.AB _ h2;obtain⟨Ds,x1,x2,x3⟩:=dj xo hsn;have xE:PA X [a,.Tuple es k0 p2] (OG (tH K P C ca) (OG (Pm λY H Q=>Q (Ds.map V.ref) H) NI)):=eG ha.h (eG (mj x2) XH rfl) (MC ns _ _);have hp:=aY (p:=p) (pos:=pos) (Kv xo.VC) h1 hm (by left) xE h4 h3 (MC ns _ _) rfl;refine FE xo (TE.rD hp λY H Q q=>?_);obtain⟨U,G,vI,U',r,e1,k⟩:=og xo q;refine⟨U,G,vI,U',r,e1,λy H1 G1 a1 rx=>?_⟩;obtain⟨a',Ca,b,G2,rfl,_,⟨pp,g3⟩,g2,ky,_,q2⟩:=k y H1 G1 a1 rx;refine⟨?_,λt ht=>?_⟩
   ·rw[JA,x3,dM];lia
   ·refine⟨a',Ca,t,Ds,b,rfl,⟨pp,by rw[iB (dF g3 ht)];exact g3⟩,g2,fC,ky x1,q2 t _ ht⟩
  ·exact nB
 |_=>exact nB
end
section
variable{X:Cx}{K:fA}{P:YA}{C:Calls}{Z:CC}
theorem Yk:∀{ds:List D} {vs:List V} {ts:List aA},rA K G ds vs->BJ ds=some ts->vs=ts.map V.str
 |[],vs,ts,h,e=>by
  simp only[rA] at h;subst h;cases e;rfl
 |d::ds,vs,ts,h,e=>by
  simp only[rA] at h;obtain⟨v,r,rfl,h1,h2⟩:=h
  cases d with
  |str x =>
   change (BJ ds).map (x :: ·)=_ at e
   cases q:BJ ds with
   |none=>rw[q] at e;cases e
   |some ts' =>
    rw[q] at e;cases e;obtain⟨rfl,_⟩:=mC.str (H:=G) (.inl h1);rw[Yk h2 q];rfl
  |_=>cases e
theorem V7:∀{ts:List aA},ts.all nC=true->rA K G (ts.map D.str) (ts.map V.str)
 |[],_=>rA.nil
 |t::ts,h=>by(rw[TB,qA] at h;exact rA.cons (by unfold kA;exact⟨rfl,h.1⟩) (V7 h.2))
def sLa(xo:OA X K P C Z)(hl:(mB.endLine==aB.line)=true)(ns:aAd a=true)(ha:MA X K P C a ca) :
  MA X K P C (.Call (.Attribute (.Constant (.str s) j p) ("join":aA) mB) [a] [] aB) (.bF s ca):=by
 have xE:PA X [a] (OG (tH K P C ca) NI):=eG ha.h XH (MC ns _ _);have dJ:[a].all aAd=true:=by rw[TB,ns];rfl
 refine FE xo (TE.rD (MQ WY PySem.F.slot_str_join PySem.F.type_str_join gIa aN xE rfl (by
   rw[qA,qA];exact⟨⟨(zJ dJ _ _).2,rfl⟩,rfl⟩) hl (MC ns _ _) rfl) λY H Q q=>?_)
 obtain⟨U,G,v,U',r,e,k⟩:=q;obtain⟨x,U1,e1,e⟩:=rB e;obtain⟨e2,rfl⟩:=LH e;refine⟨rfl,U,G,x,_,r,e1,λy H1 G1 a1 ry=>?_⟩
 cases q:x.get U' with
 |none=>rw[q] at e2;cases e2
 |some d =>
  rw[q] at e2;have hr:=ry.read a1.lA q;change f6 s d=some v at e2
  cases d with
  |l ds =>
   change (match BJ ds with | some ts=>_ | none=>none)=_ at e2
   cases qs:BJ ds with
   |none=>rw[qs] at e2;cases e2
   |some ts =>
    rw[qs] at e2;simp only at e2;split at e2
    ·rename_i hc;cases e2;obtain⟨b,vs,rfl,h1,h2⟩:=hr.l a1.lA.sub
     have:=Yk h2 qs
     subst this;exact⟨s,b,ts,rfl,rfl,by rw[xo.VC];exact h1,hc.1,k _ _ _ a1 (by show kA K G1 (.str _) _;unfold kA;exact⟨rfl,hc.2⟩)⟩
    ·cases e2
  |_=>cases e2
def mMa(xo:OA X K P C Z)(hi:Z.slot x=some i)(hl:(mB.endLine==aB.line)=true) :
  MA X K P C (.Call (.Attribute (.Name x p) ("split":aA) mB) [.Constant (.str s) j q] [] aB) (.nH i s):=by
 have hp:PE X (.Name x p) (bI i):=CC.NL xo hi;have xE:PA X [.Constant (.str s) j q] (OG (tC (.str s)) NI):=eG aN XH rfl;refine FE xo (TE.rD (MQ WY nU Vo vi hp xE rfl (by rfl) hl rfl rfl) λY H Q q=>?_);obtain⟨U,G,v,U',r,e,k⟩:=q;replace e:oH s U U[i]?=_:=e;unfold oH at e;split at e
 ·rename_i y hy;split at e
  ·rename_i hc;cases e;obtain⟨w,h1,h2⟩:=r.sh i _ hy;obtain⟨rfl,_⟩:=mC.str (H:=H) (.inl h2);refine⟨_,h1,rfl,y,s,rfl,rfl,hc.1,hc.2.1,λl hl=>?_⟩;obtain⟨a2,v2⟩:=(DA.refl r).ZX hl (V7 hc.2.2);exact k _ _ _ a2 v2
  ·cases e
 ·cases e
def oMa(xo:OA X K P C Z)(hi:Z.slot x=some i)(hl:(mB.endLine==aB.line)=true) :
  MA X K P C (.Call (.Attribute (.Name x p) ("startswith":aA) mB) [.Constant (.str s) j q] [] aB) (.NT i s):=by
 have hp:PE X (.Name x p) (bI i):=CC.NL xo hi;have xE:PA X [.Constant (.str s) j q] (OG (tC (.str s)) NI):=eG aN XH rfl;refine FE xo (TE.rD (MQ WY PySem.F.slot_str_startswith PySem.F.type_str_startswith hIa hp xE rfl (by rfl) hl rfl rfl) λY H Q q=>?_);obtain⟨U,G,v,U',r,e,k⟩:=q;replace e:OT s U U[i]?=_:=e;unfold OT at e;split at e
 ·rename_i y hy;cases e;obtain⟨w,h1,h2⟩:=r.sh i _ hy;obtain⟨rfl,_⟩:=mC.str (H:=H) (.inl h2);exact⟨_,h1,rfl,y,s,rfl,rfl,k _ _ _ (DA.refl r) (by show kA K G (.bl _) _;simp[kA])⟩
 ·cases e
def DY(h:MT e=some s):∃j p,e=.Constant (.str s) j p:=by
 cases e with
 |Constant c j p =>
  cases c with
  |str x =>
   change (if nC x then some x else none)=_ at h;split at h
   ·cases h;exact⟨_,_,rfl⟩
   ·exact dG h
  |_=>exact dG h
 |_=>exact dG h
def qMa(xo:OA X K P C Z):MA X K P C (.Call (.Attribute (.Name x p) m mB) [a] [] aB) (bU Z x m mB aB a):=by
 unfold bU;split
 ·rename_i s i h1 h2;obtain⟨j,q,rfl⟩:=DY h1;split
  ·rename_i hc;rw[qA] at hc;have hm:=jB hc.2;subst hm;exact mMa xo h2 hc.1
  ·split
   ·rename_i hc;rw[qA] at hc;have hm:=jB hc.2;subst hm;exact oMa xo h2 hc.1
   ·exact nB
 ·exact nB
def tLa(xo:OA X K P C Z)(ha:MA X K P C a ca):MA X K P C (.Call (.Attribute (.Constant (.str s) j p) m mB) [a] [] aB) (US s m mB aB a ca):=by
 unfold US;split
 ·rename_i hc;rw[qA,qA,qA] at hc;have hm:=jB hc.1.2;subst hm;exact sLa xo hc.1.1.2 hc.1.1.1 ha
 ·exact nB
end
section
variable{X:Cx}{K:fA}{P:YA}{C:Calls}{Z:CC}
def nMa(xo:OA X K P C Z)(h:MA X K P C (.Subscript v i p) c):MA X K P C (.Call (.Attribute (.Subscript v i p) m mB) args [] aB) (JT m mB aB args c):=by
 unfold JT;split
 ·split
  ·rename_i s hs;split
   ·rename_i hc;rw[qA] at hc;have hm:=jB hc.2;subst hm;obtain⟨j,q,rfl⟩:=DY hs;have xE:PA X [.Constant (.str s) j q] (OG (tC (.str s)) NI):=eG aN XH rfl;refine FE xo (TE.rD (MQ WY nU Vo vi h.v xE rfl (by rfl) hc.1 rfl rfl) λY H Q q=>?_);obtain⟨U,G,v,U',r,e,k⟩:=q;obtain⟨w,U1,e1,e2⟩:=rB e;unfold k8 at e2;split at e2
    ·rename_i y hy;split at e2
     ·rename_i hz;cases e2;refine⟨U,G,w,_,r,e1,λx H1 G1 a1 hv=>?_⟩;obtain⟨G2,a2,r2⟩:=a1.share hv;rw[hy] at r2;obtain⟨rfl,_⟩:=mC.str (H:=H1) (.inl r2);refine⟨rfl,y,s,rfl,rfl,hz.1,hz.2.1,λl hl=>?_⟩;obtain⟨a3,v3⟩:=a2.ZX hl (V7 hz.2.2);exact k _ _ _ a3 v3
     ·cases e2
    ·cases e2
   ·exact nB
  ·exact nB
 ·exact nB
noncomputable def V8(K:fA)(P:YA)(C:Calls):List aA->List E->List (TE×TE)
 |k::ks,e::es=>(tC (.str k),tE K P C e)::V8 K P C ks es
 |_,_=>[]
theorem Aj:∀{ks:List (Option sA)} {ss:List aA} {vs:List sA},L6 ks=some ss->ks.length=vs.length->(∀v∈vs,MA X K P C v (cE Z v))->PR X pos ks vs (V8 K P C ss (xB Z vs))/\(ss.length=ks.length/\ss.length=(xB Z vs).length)/\ks.all (·.isSome)=true
 |[],_,[],h,_,_=>by cases h;exact⟨dQa,⟨rfl,rfl⟩,rfl⟩
 |none::_,_,_,h,_,_=>by cases h
 |[],_,_::_,_,h,_=>by cases h
 |_::_,_,[],_,h,_=>by cases h
 |some e::ks,_,v::vs,h,hl,hv=>by
  obtain⟨s,h1,h2⟩:=yP.mp h;obtain⟨ss,h3,rfl⟩:=BN.mp h2;obtain⟨j,p,rfl⟩:=DY h1;obtain⟨q1,q2,q3⟩:=Aj h3 (Pa hl) λv hv'=>hv v (.tail _ hv')
  exact⟨cQa aN (hv v (.head _)).v q1,⟨congrArg (·+1) q2.1,congrArg (·+1) q2.2⟩,by rw[TB,q3];rfl⟩
theorem fj:∀{es:List E} {ss:List aA} {U U':Env} {Y:St} {H G:Hp} {ds:List D} {Q:List (V×V)->Hp->Prop},ss.length=es.length->CA K U Y H G->ZD P C es U=some (.ok ds,U') ->
  (∀xs H' G',DA K U Y H G U' H' G'->rA K G' ds xs->Q ((ss.zip xs).map λp=>(V.str p.1,p.2)) H')->IY (V8 K P C ss es) Y H Q
 |[],[],U,_,_,H,G,_,_,_,r,e,k=>by
  simp only[ZD,RB,ND,Out.ok.injEq] at e;obtain⟨rfl,rfl⟩:=e;exact k [] H G (DA.refl r) rA.nil
 |[],_::_,_,_,_,_,_,_,_,h,_,_,_=>by cases h
 |_::_,[],_,_,_,_,_,_,_,h,_,_,_=>by cases h
 |c::es,s::ss,U,_,Y,H,G,_,Q,h,r,e,k=>by(rw[ZD] at e;obtain⟨v,U1,e1,e2⟩:=rB e;obtain⟨KG,U2,e3,e4⟩:=rB e2;cases e4;refine⟨U,G,v,U1,r,e1,λx H1 G1 a1 hx=>?_⟩;obtain⟨vb,QR,rx⟩:=a1.share hx;exact fj (Pa h) QR.lA e3 λxs H2 G2 a2 oJ=>k (x::xs) H2 G2 (QR.trans a2) (rA.cons (kA.mono a2.ext.gg _ rx) oJ))
theorem ni:∀(more cB:List (Key×V)),((cB++more).map (·.1)).Nodup->vO cB more=cB++more
 |[],cB,_=>(DK cB).symm
 |q::qs,cB,h=>by
  have e:aAw cB q.1 q.2=cB++[q]:=by
   unfold aAw;refine qB λz=>?_
   obtain⟨x,hx,e⟩:=Vp.mp z;rw[jP,List.nodup_append] at h;exact h.2.2 x.1 (OC.mpr ⟨x,hx,rfl⟩) q.1 (by simp) (RL e)
  show vO (aAw cB q.1 q.2) qs=_;rw[e,ni qs _ (by rw[Ip];exact h),Ip];rfl
def gLa(xo:OA X K P C Z)(hv:∀v∈vs,MA X K P C v (cE Z v))(hc:MA X K P C (.Dict ks vs pos) c):MA X K P C (.Dict ks vs pos) (bS ks vs (xB Z vs) c):=by
 unfold bS;split
 ·rename_i ss hs;split
  ·rename_i h;obtain⟨h1,h2,h3⟩:=h;obtain⟨q1,q2,q3⟩:=Aj hs h1 hv;refine FE xo (TE.rD (aPa q1 q3 h1 h2 h3) λY H Q q=>?_);obtain⟨U,G,v,U',r,e,k⟩:=q;obtain⟨ds,U1,e1,e2⟩:=rB e;split at e2
   ·rename_i hd;cases e2;obtain⟨hd,nd⟩:=hd;intro p hp;have nO:=r.B7 hp;refine fj q2.2 ((DA.refl r).EL hp).lA e1 λxs H1 G1 a1 hx=>?_
    have hG:G1 p=none:=a1.ext.gn p (by rw[fC];simp) (fB.free r.sub hp) nO;have hN:¬yA _ Y p:=λz=>nO (a1.own p z)
    refine⟨a1.ext.hh p _ fC nO,mF ss xs, ?_, ?_, ?_⟩
    ·unfold mF;rw[oG];rfl
    ·unfold mF;rw[JA,Zp]
     have:=q2.1
     lia
    ·have hl:xs.length=ss.length:=by rw[hx.len];exact hd.symm
     rw[ni (mF ss xs) [] (by
      rw[UL];unfold mF;rw[oG,show((λp:Key×V=>p.1) ∘ λp:aA×V=>((Sum.inr p.1:Key),p.2))=Sum.inr ∘ Prod.fst from rfl,<- oG,List.map_fst_zip (by lia)]
      exact List.Pairwise.map _ (λ_ _ h z=>h (uZ z)) nd)]
     exact k _ _ G1 ((((DA.refl r).EL hp).trans a1).NQ hp hG hN) ⟨p,rfl,hG,⟨xs,fC,hx,hd⟩,hN,hp⟩
   ·cases e2
  ·exact hc
 ·exact hc
end
structure MB(K:fA)(U:Env)(Y:St)(H G:Hp)(U':Env)(Y':St)(H' G':Hp):Prop where
 lA:CA K U' Y' H' G'
 ext:Ext (yA U Y) H G H' G'
 own:∀a,yA U' Y' a->yA U Y a\/H a=none
 un:∀i:Nat,U'[i]?=some .un->U[i]?=some .un/\Y'[i]?=Y[i]?
 pin:∀(i:Nat) d l,U[i]?=some (.ow d true l)->Y'[i]?=Y[i]?/\∃d',U'[i]?=some (.ow d' true l)
 len:U'.length=U.length
section
variable{K:fA}
theorem MB.refl(r:CA K U Y H G):MB K U Y H G U Y H G:=⟨r,Ext.refl,λ_ h=>.inl h,λ_ h=>⟨h,rfl⟩,λ_ d _ h=>⟨rfl,d,h⟩,rfl⟩
theorem DA.s(r:CA K U Y H G)(a:DA K U Y H G U' H' G'):MB K U Y H G U' Y H' G':=by
 refine⟨a.lA,a.ext,λx h=>.inl (a.own x h),λi h=>⟨?_,rfl⟩,λi d l h=>⟨rfl, ?_⟩, ?_⟩
 ·have:=a.aK i
  rw[h] at this
  cases e:U[i]? with
  |none=>rw[e] at this;exact this.elim
  |some s=>rw[e] at this;cases s<;>first | rfl | exact this.elim
 ·have:=a.aK i
  rw[h] at this
  cases e:U'[i]? with
  |none=>rw[e] at this;exact this.elim
  |some s =>
   rw[e] at this
   cases s with
   |ow d' p' l'=>obtain⟨rfl,rfl⟩:=this;exact⟨d',rfl⟩
   |sh d'=>exact absurd (show true=false from this) (by simp)
   |_=>exact this.elim
 ·rw[a.lA.len,r.len]
theorem MB.trans(a:MB K U Y H G U1 Y1 H1 G1)(b:MB K U1 Y1 H1 G1 U2 Y2 H2 G2):MB K U Y H G U2 Y2 H2 G2:=by
 refine⟨b.lA,a.ext.trans a.own b.ext,λx h=>?_,λi h=>?_,λi d l h=>?_,b.len.trans a.len⟩
 ·rcases b.own x h with z | z
  ·exact a.own x z
  ·exact .inr (a.ext.hx x z)
 ·obtain⟨h1,h2⟩:=b.un i h;obtain⟨h3,h4⟩:=a.un i h1;exact⟨h3,h2.trans h4⟩
 ·obtain⟨h1,d',h2⟩:=a.pin i d l h;obtain⟨h3,h4⟩:=b.pin i d' l h2;exact⟨h3.trans h1,h4⟩
def FG(K:fA)(U:Env)(Y:St)(H G:Hp)(U':Env)(D:Ends):Fl->Prop
 |.nx=>∀Y' H' G',MB K U Y H G U' Y' H' G'->D.nx Y' H'
 |.bk=>∀Y' H' G',MB K U Y H G U' Y' H' G'->D.bk Y' H'
 |.ct=>∀Y' H' G',MB K U Y H G U' Y' H' G'->D.ct Y' H'
 |.rt v=>∀x Y' H' G',MB K U Y H G U' Y' H' G'->QC K H' G' (yA U' Y') (λa=>yA U Y a\/H a=none) v x->D.rt x H'
 |.ex _=>False
def FG.pre{D:Ends}(a:MB K U Y H G U1 Y1 H1 G1)(h:FG K U Y H G U' D fl):FG K U1 Y1 H1 G1 U' D fl:=by
 cases fl with
 |nx=>exact λY' H' G' b=>h Y' H' G' (a.trans b)
 |bk=>exact λY' H' G' b=>h Y' H' G' (a.trans b)
 |ct=>exact λY' H' G' b=>h Y' H' G' (a.trans b)
 |rt v=>exact λx Y' H' G' b hv=>h x Y' H' G' (a.trans b) (hv.WH λc z=>by
   rcases z with z | z
   ·exact a.own c z
   ·exact .inr (a.ext.hx c z))
 |ex e=>exact h
end
noncomputable def tS(K:fA)(P:YA)(C:Calls)(W:Nat)(c:S):TS:=λD Y H=>∃(U:Env) (G:Hp) (fl:Fl) (U':Env),CA K U Y H G/\ex P C W c U=some (fl,U')/\FG K U Y H G U' D fl
noncomputable def IE(K:fA)(P:YA)(C:Calls)(W:Nat)(c:List S):TS:=λD Y H=>∃(U:Env) (G:Hp) (fl:Fl) (U':Env),CA K U Y H G/\GA P C W c U=some (fl,U')/\FG K U Y H G U' D fl
def TS.EE(h:PS X e t)(w:∀D Y H,u D Y H->t D Y H):PS X e u:=λbA s Y H D I q=>h bA s Y H D I (w D Y H q)
def TS.x5(h:XC X e t)(w:∀D Y H,u D Y H->t D Y H):XC X e u:=λbA s Y H D I q=>h bA s Y H D I (w D Y H q)
section
variable{X:Cx}{K:fA}
def XI{r:zA O}(h:r.uC f=some (fl,U))(n:∀e,fl≠.ex e):∃a U1,r=some (.ok a,U1)/\f a U1=some (fl,U):=by
 unfold zA.uC at h;split at h
 ·cases h
 ·cases h;exact absurd rfl (n _)
 ·exact⟨_,_,rfl,h⟩
def FG.ne{D:Ends}(h:FG K U Y H G U' D fl):∀e,fl≠.ex e:=λe z=>by subst z;exact h
def pRa:XC X [] (IE K P C W []):=TS.x5 Hj λD Y H hz=>by
 obtain⟨U,G,fl,U',r,e,k⟩:=hz;simp only[GA,RB,ND] at e;obtain⟨rfl,rfl⟩:=e;exact k Y H G (MB.refl r)
def oRa{st:VA}{aAc:List VA}(h1:PS X st (tS K P C W c))(h2:XC X aAc (IE K P C W cs)):XC X (st::aAc) (IE K P C W (c::cs)):=by
 refine TS.x5 (P7 h1 h2) λD Y H hz=>?_
 obtain⟨U,G,fl,U',r,e,k⟩:=hz;rw[GA] at e
 cases q:ex P C W c U with
 |none=>rw[q] at e;cases e
 |some y =>
  obtain⟨kL,U1⟩:=y;rw[q] at e;refine⟨U,G,kL,U1,r,q, ?_⟩
  cases kL with
  |nx=>exact λY1 H1 G1 a1=>⟨U1,G1,fl,U',a1.lA,e,k.pre a1⟩
  |bk=>cases e;exact k
  |ct=>cases e;exact k
  |rt v=>cases e;exact k
  |ex x=>cases e;exact k
def CA.sVa(r:CA K U Y H G)(e:store i v U=some U')(h:QC K H G (yA U Y) new v x) :
  CA K U' (Y.set i (some x)) H G/\(∀a,yA U' (Y.set i (some x)) a->yA U Y a\/new a)/\(∀j:Nat,U'[j]?=some .un->U[j]?=some .un/\(Y.set i (some x))[j]?=Y[j]?) /\
  (∀(j:Nat) d l,U[j]?=some (.ow d true l)->(Y.set i (some x))[j]?=Y[j]?/\∃d',U'[j]?=some (.ow d' true l))/\U'.length=U.length:=by
 have key:∃sl,i<U.length/\U'=U.set i sl/\(∀d l,U[i]?≠some (.ow d true l))/\((∃d,v=.sh d/\sl=.sh d)\/∃d,v=.ow d/\sl=.ow d false false):=by
  unfold store at e;split at e
  ·cases e
  ·cases e
  ·cases e
  ·rename_i s h1 h2 h3;have yf:∀d l,U[i]?≠some (.ow d true l):=λd l z=>by rw[h3] at z;cases z;exact h1 _ _ rfl
   have wD:=(MD.mp h3).1
   cases v with
   |sh d=>cases e;exact⟨_,wD,rfl,yf,.inl ⟨d,rfl,rfl⟩⟩
   |ow d=>cases e;exact⟨_,wD,rfl,yf,.inr ⟨d,rfl,rfl⟩⟩
   |od d=>cases e
 obtain⟨sl,hi,rfl,np,hs⟩:=key;have M':i<Y.length:=by rw[<- r.len];exact hi
 have hx:(Y.set i (some x))[i]?=some (some x):=gI M';have ne:∀j:Nat,j≠i->(Y.set i (some x))[j]?=Y[j]?:=λj h=>jE (λz=>h z.symm)
 have KD:∀(j:Nat) s,(U.set i sl)[j]?=some s->(j=i/\s=sl)\/(j≠i/\U[j]?=some s):=λj s h=>by
  rcases mH h with ⟨h1,h2,_⟩ | h
  ·exact .inl ⟨h1,h2⟩
  ·exact .inr h
 refine⟨⟨by rw[SE,SE];exact r.len,r.sub,λj d h1=>?_,λj d p l h1=>?_,λj k d p l d' p' l' a h1 h2 h3 h4=>?_⟩,λa ⟨j,d,p,l,h1,h2⟩=>?_,λj h1=>?_,λj d l h1=>?_,by rw[SE]⟩
 ·rcases KD j _ h1 with ⟨rfl,z⟩ | ⟨nj,z⟩
  ·rcases hs with ⟨d0,rfl,rfl⟩ | ⟨d0,rfl,rfl⟩
   ·cases z;exact⟨x,hx,h⟩
   ·cases z
  ·rw[ne j nj];exact r.sh j d z
 ·rcases KD j _ h1 with ⟨rfl,z⟩ | ⟨nj,z⟩
  ·rcases hs with ⟨d0,rfl,rfl⟩ | ⟨d0,rfl,rfl⟩
   ·cases z
   ·cases z;obtain⟨a,rfl,g,o,_,_⟩:=h;exact⟨a,hx,g,o⟩
  ·rw[ne j nj];exact r.ow j d p l z
 ·rcases KD j _ h1 with ⟨rfl,z⟩ | ⟨nj,z⟩
  ·rcases KD k _ h2 with ⟨rfl,z'⟩ | ⟨nk,z'⟩
   ·rfl
   ·rcases hs with ⟨d0,rfl,rfl⟩ | ⟨d0,rfl,rfl⟩
    ·cases z
    ·obtain⟨b,rfl,g,o,no,_⟩:=h;rw[hx] at h3;cases h3;rw[ne k nk] at h4;exact absurd ⟨k,_,_,_,z',h4⟩ no
  ·rcases KD k _ h2 with ⟨rfl,z'⟩ | ⟨nk,z'⟩
   ·rcases hs with ⟨d0,rfl,rfl⟩ | ⟨d0,rfl,rfl⟩
    ·cases z'
    ·obtain⟨b,rfl,g,o,no,_⟩:=h;rw[hx] at h4;cases h4;rw[ne j nj] at h3;exact absurd ⟨j,_,_,_,z,h3⟩ no
   ·rw[ne j nj] at h3;rw[ne k nk] at h4;exact r.inj _ _ _ _ _ _ _ _ _ z z' h3 h4
 ·rcases KD j _ h1 with ⟨rfl,z⟩ | ⟨nj,z⟩
  ·rcases hs with ⟨d0,rfl,rfl⟩ | ⟨d0,rfl,rfl⟩
   ·cases z
   ·obtain⟨b,rfl,g,o,no,m⟩:=h;rw[hx] at h2;cases h2;exact .inr m
  ·rw[ne j nj] at h2;exact .inl ⟨j,d,p,l,z,h2⟩
 ·rcases KD j _ h1 with ⟨rfl,z⟩ | ⟨nj,z⟩
  ·rcases hs with ⟨d0,rfl,rfl⟩ | ⟨d0,rfl,rfl⟩<;>cases z
  ·exact⟨z,ne j nj⟩
 ·by_cases hj:j=i
  ·subst hj;exact absurd h1 (np d l)
  ·exact⟨ne j hj,d,by rw[jE (λz=>hj z.symm)];exact h1⟩
theorem DA.store(r:CA K U Y H G)(a:DA K U Y H G U1 H1 G1)(e:store i v U1=some U')(h:QC K H1 G1 (yA U1 Y) (kF H) v x):MB K U Y H G U' (Y.set i (some x)) H1 G1:=by
 obtain⟨h1,h2,h3,h4,h5⟩:=a.lA.sVa e h;have s:=DA.s r a;refine⟨h1,a.ext,λb z=>?_,λj z=>?_,λj d l z=>?_,h5.trans s.len⟩
 ·rcases h2 b z with z | z
  ·exact s.own b z
  ·exact .inr z
 ·obtain⟨z1,z2⟩:=h3 j z;obtain⟨z3,z4⟩:=s.un j z1;exact⟨z3,z2⟩
 ·obtain⟨_,d',z2⟩:=s.pin j d l z;exact h4 j d' l z2
def CA.CY(r:CA K U Y H G)(e:store i (.sh d) U=some U')(h:kA K G d x):MB K U Y H G U' (Y.set i (some x)) H G :=
 DA.store r (DA.refl r) e h
noncomputable def gB(K:fA)(one:Bool)(is:List Nat):TG:=λv Y H Q=>∃(U:Env) (G:Hp) (d:D) (U':Env),CA K U Y H G/\kA K G d v/\WA one is d U=some U'/\∀Y',MB K U Y H G U' Y' H G->Q Y' H
noncomputable def pS(K:fA)(is:List Nat):IP:=λvs Y H Q=>∃(U:Env) (G:Hp) (ds:List D) (U':Env),CA K U Y H G/\rA K G ds vs/\aAo is ds U=some U'/\∀Y',MB K U Y H G U' Y' H G->Q Y' H
def lPa(h:PG X tg (XN i)):PG X tg (gB K true [i]):=λbA s Y H v u Q I rv ⟨U,G,d,U',r,hd,e,k⟩ =>
 h bA s Y H v u Q I rv (k _ (r.CY (by simpa only[WA] using e) hd))
def nPa:UK X [] (pS K []):=λbA s Y H vs us Q I rv hz=>by
 obtain⟨U,G,ds,U',r,hd,e,k⟩:=hz
 cases ds with
 |nil =>
  simp only[aAo,RB] at e;subst e;simp only[rA] at hd;subst hd;exact sj bA s Y H [] us Q I rv ⟨rfl,k Y (MB.refl r)⟩
 |cons d ds=>simp[aAo] at e
def mPa(h:PG X e (XN i))(t:UK X es (pS K is))(hs:(vH (e::es) X.env).map (·.2)=assign e X.env::(vH es X.env).map (·.2)):UK X (e::es) (pS K (i::is)) :=
 λbA s Y H vs us Q I rv hz=>by
  obtain⟨U,G,ds,U',r,hd,e,k⟩:=hz
  cases ds with
  |nil=>simp[aAo] at e
  |cons d ds =>
   simp only[aAo] at e
   cases q:store i (.sh d) U with
   |none=>rw[q] at e;cases e
   |some U1 =>
    rw[q] at e;simp only[rA] at hd;obtain⟨v,r',rfl,h1,h2⟩:=hd;have a1:=r.CY q h1;exact M7 h t hs bA s Y H (v::r') us Q I rv ⟨v,r',rfl,U1,G,ds,U',a1.lA,h2,e,λY' a2=>k Y' (a1.trans a2)⟩
theorem Wk:∀{is:List Nat} {ds:List D} {U U':Env},aAo is ds U=some U'->ds.length=is.length
 |[],[],_,_,_=>rfl
 |[],_::_,_,_,e=>by simp[aAo] at e
 |_::_,[],_,_,e=>by simp[aAo] at e
 |i::is,d::ds,U,U',e=>by
  simp only[aAo] at e
  cases q:store i (.sh d) U with
  |none=>rw[q] at e;cases e
  |some U1=>rw[q] at e;simp[Wk e]
def pj(xo:OA X K P C Z)(t:UK X es (pS K is))(hn:(vH es X.env).length=is.length)(UM:(vH es X.env).findIdx? (·.1)=none):PG X (.Tuple es k0 pos) (gB K false is) :=
 λbA s Y H v u Q I rv hz=>by
  obtain⟨U,G,d,U',r,hd,e,k⟩:=hz
  cases d with
  |t ds =>
   simp only[WA] at e;simp only[kA] at hd;obtain⟨a,vs,rfl,h1,h2⟩:=hd;refine rj xo.calm t hn UM bA s Y H (.ref a) u Q I rv ⟨a,vs,rfl, ?_, ?_,U,G,ds,U',r,h2,e,k⟩
   ·rw[xo.VC];exact pH r.sub h1
   ·rw[h2.len];exact Wk e
  |_=>simp only[WA,reduceCtorEq] at e
end
mutual
noncomputable def bYa(x:aA):VA->Bool
 |.For _ it body _ _=>(aAr it==some x)||PY x body
 |.If _ a b _=>PY x a||PY x b
 |_=>false
noncomputable def PY(x:aA):List VA->Bool
 |[]=>false
 |s::r=>bYa x s||PY x r
end
noncomputable def zQ(Z:CC)(it:sA)(body:List VA)(cs:List E):List E:=cs
noncomputable def nY(Z:CC)(x:aA)(args:List sA):S:=if args.all aAd&&(decide (args≠[])&&decide (args.length<=100)) then(match Z.glob x with | .exc=>.YH x (xB Z args) | .uG=>.CO x (xB Z args) | _=>.nA) else .nA
noncomputable def CT(Z:CC)(e:sA):S:=match RS e with
 |some x=>nY Z x.1.1 x.2.1
 |none=>.nA
noncomputable def NW:List xR->Option (aA×aA×List VA)
 |[.ExceptHandler (some c) (some n) body _]=>(aAr c).map λx=>(x,n,body)
 |_=>none
def aT(h:aAr e=some x):∃p,e=.Name x p:=by
 cases e<;>first | exact dG h | exact⟨_,congrArg (λy=>Expr.Name y _) (uF h)⟩
def cAa(h:NW hs=some (x,n,body)):∃p q,hs=[.ExceptHandler (some (.Name x p)) (some n) body q]:=by
 obtain _ | ⟨⟨ty,nm,bd,p2⟩,_ | ⟨_,_⟩⟩:=hs
 ·exact dG h
 ·obtain _ | c:=ty
  ·exact dG h
  ·obtain _ | n':=nm
   ·exact dG h
   ·replace h:(aAr c).map (λx=>(x,n',bd))=some (x,n,body):=h
    cases hc:aAr c with
    |none=>rw[hc] at h;exact dG h
    |some y =>
     rw[hc] at h;cases h;obtain⟨p,rfl⟩:=aT hc;exact⟨_,_,rfl⟩
 ·obtain _ | c:=ty<;>obtain _ | n':=nm<;>exact dG h
noncomputable def QZ:List VA->Option (aA×aA)
 |[.Assign [t] v _]=>(aAr t).bind λy=>(aAr v).map λn=>(y,n)
 |_=>none
def tq(ss:List VA)(y n:aA):Prop:=∃p q r,ss=[.Assign [.Name y p] (.Name n q) r]
def Ht(h:QZ ss=some (y,n)):tq ss y n:=by
 obtain _ | ⟨st,_ | ⟨_,_⟩⟩:=ss
 ·exact dG h
 ·cases st with
  |Assign ts v r =>
   obtain _ | ⟨t,_ | ⟨_,_⟩⟩:=ts
   ·exact dG h
   ·replace h:((aAr t).bind λy=>(aAr v).map λn=>(y,n))=some (y,n):=h
    cases h1:aAr t with
    |none=>rw[h1] at h;exact dG h
    |some y' =>
     rw[h1] at h
     cases h2:aAr v with
     |none=>rw[h2] at h;exact dG h
     |some n' =>
      rw[h2] at h;cases h;obtain⟨p,rfl⟩:=aT h1;obtain⟨q,rfl⟩:=aT h2;exact Exists.intro _ ⟨_,_,rfl⟩
   ·exact dG h
  |_=>exact dG h
 ·cases st with
  |Assign ts v r=>obtain _ | ⟨t,_ | ⟨_,_⟩⟩:=ts<;>exact dG h
  |_=>exact dG h
noncomputable def X8(Z:CC)(cb:List S)(x n:aA)(body:List VA):S:=match QZ body with
 |some (y,n')=>if n'==n then(match Z.pL x,Z.sF n,Z.sF y with
  |.GA cs,some i,some j=>.kR cb cs i j
  |_,_,_=>.nA) else .nA
 |none=>.nA
noncomputable def Xm(Z:CC)(cb:List S)(x n:aA)(body:List VA):S:=.nA
noncomputable def lCa(n:aA)(body:List VA):Bool:=match QZ body with
 |some (_,n')=>n'==n
 |none=>false
noncomputable def MY(cb:List S)(hs:List xR)(o f:List VA):S:=.nA
noncomputable def kg:sA->Bool
 |.Constant (.str _) _ _=>true
 |_=>false
noncomputable def kY:VA->Bool
 |.Raise (some e) none _=>(match RS e with
  |some q=>(match q.2.1 with
   |[a]=>kg a&&q.1.1==("NoText":aA)
   |_=>false)
  |none=>false)
 |_=>false
noncomputable def N4:List xR->Option aA
 |[.ExceptHandler (some c) none [st] _]=>if kY st then aAr c else none
 |_=>none
def iTa{st:VA}(h:kY st=true):∃p m k p1 p2 p3,st=.Raise (some (.Call (.Name "NoText" p) [.Constant (.str m) k p1] [] p2)) none p3:=by
 unfold kY at h;split at h
 ·rename_i e p3;split at h
  ·rename_i q hq;split at h
   ·rename_i a ha;rw[qA] at h;obtain⟨⟨f,p⟩,args,pos⟩:=q
    have:=mX hq
    subst this;have h2:f="NoText":=jB h.2;have ha:args=[a]:=ha;subst h2 ha;have h1:=h.1;unfold kg at h1;split at h1
    ·exact⟨_,_,_,_,_,_,rfl⟩
    ·cases h1
   ·cases h
  ·cases h
 ·cases h
def xf(h:N4 hs=some x):∃np st q,hs=[.ExceptHandler (some (.Name x np)) none [st] q]/\kY st=true:=by
 unfold N4 at h;split at h
 ·split at h
  ·obtain⟨p,rfl⟩:=aT h;exact⟨_,_,_,rfl,‹_›⟩
  ·cases h
 ·cases h
noncomputable def aU(Z:CC)(cb:List S)(hs:List xR):S:=match N4 hs with
 |some x=>(match Z.pL x,Z.glob ("NoText":aA) with
  |.GA cs,.exc=>.SO cb cs
  |_,_=>.nA)
 |none=>MY cb hs [] []
noncomputable def nXa(Z:CC)(cb:List S)(hs:List xR):S:=aU Z cb hs
noncomputable def ZT(Z:CC)(cb:List S)(hs:List xR)(o f:List VA):S :=
 if o.isEmpty&&f.isEmpty then(match NW hs with
  |some (x,n,body)=>if(Z.names.lookup n==some .local)&&Z.top then(if lCa n body then X8 Z cb x n body else if body.isEmpty then .nA else Xm Z cb x n body) else .nA
  |none=>if Z.top then nXa Z cb hs else .nA) else .nA
noncomputable def eTa(e:sA)(c:E):S:=.ret c
noncomputable def zTa(Z:CC)(s:VA)(r:List VA):Option (Nat×Nat×E×E):=none
noncomputable def aUa(o:Option (Nat×Nat×E×E))(c:S)(cs:List S):List S :=
 match o with
 |none=>c::cs
 |some (i,j,ce,cc)=>.Ak i j ce cc::cs.drop 3
noncomputable def VQ(i:Nat)(k:sA)(ck ce:E):S:=match MT k with
 |some s=>.DO i s ce
 |none=>.set i ck ce
noncomputable def EY:sA->Option (aA×sA)
 |.Subscript o k _=>(aAr o).map λx=>(x,k)
 |_=>none
noncomputable def iR(Z:CC)(ts:List sA)(e:sA)(ce:E):S:=match ts with
 |[t1,t2]=>(match EY t1,EY t2 with
  |some q1,some q2=>if q1.1==q2.1&&SD e&&XM q1.2&&XM q2.2 then(match Z.slot q1.1 with
   |some i=>.eR i (cE Z q1.2) (cE Z q2.2) ce
   |none=>.nA) else .nA
  |_,_=>.nA)
 |_=>.nA
def kl(h:EY e=some (x,k)):∃p q,e=.Subscript (.Name x p) k q:=by
 unfold EY at h;split at h
 ·obtain⟨y,h1,h2⟩:=BN.mp h;cases h2;obtain⟨p,rfl⟩:=aT h1;exact⟨_,_,rfl⟩
 ·cases h
mutual
noncomputable def cS(Z:CC):VA->S
 |.Pass _=>.pass
 |.Break _=>.brk
 |.Continue _=>.cnt
 |.Return (some e) _=>eTa e (cE Z e)
 |.Return none _=>.jY
 |.Expr e _=>if SD e then .expr (cE Z e) else .nA
 |.If c a b _=>.wA (cE Z c) (tD Z a) (tD Z b)
 |.While c body [] _=>.nA
 |.For tg it body [] _=>match qH Z tg,pK Z it with
  |some (one,is),some (k,gA)=>if EJ k one then .for is one k (zQ Z it body (xB Z gA)) (tD Z body) else .nA
  |_,_=>.nA
 |.Assign [.Name x _] e _=>match Z.sF x with
  |some i=>if SD e||MS e then .kB i (cE Z e) else .nA
  |none=>.nA
 |.Assign [.Tuple ts _ _] e _=>match zK Z ts with
  |some is=>if SD e&&iT e then .wM is (cE Z e) else .nA
  |none=>iR Z ts e (cE Z e)
 |.Assign [.Subscript (.Name x _) k _] e _=>match Z.slot x with
  |some i=>if SD e&&XM k then VQ i k (cE Z k) (cE Z e) else .nA
  |none=>.nA
 |.AugAssign (.Name x _) .Add e _=>(match Z.sF x with
  |some i=>if SD e then .nA else .nA
  |none=>.nA)
 |.Raise (some e) none _=>CT Z e
 |.Try body hs o f _=>ZT Z (tD Z body) hs o f
 |_=>.nA
noncomputable def tD(Z:CC):List VA->List S
 |[]=>[]
 |s::r=>aUa (zTa Z s r) (cS Z s) (tD Z r)
end
abbrev UI(X:Cx)(Z:CC):Prop:=∀x,Z.iO x=true->X.fn x=true\/X.env.scope.names.lookup x=some .local
section
variable{K:fA}
def FY(h:SD e=true)(t:Option sA)(line:Nat)(env:IK):swapsWith e t line env=pure false:=by
 cases e<;>first | rfl | cases h
def VT(h:SD e=true)(t:sA)(line:Nat)(env:IK):swapsWithSole [t] e line env=pure false:=FY h _ _ _
def N7{st:VA}(h:∀U,ex P C W c U=none):PS X st (tS K P C W c):=λbA s Y H D I hz=>by obtain⟨U,G,fl,U',r,e,k⟩:=hz;rw[h] at e;cases e
def cC{st:VA}:PS X st (tS K P C W .nA):=N7 λU=>rfl
def yQa:PS X (.Pass pos) (tS K P C W .pass):=TS.EE xQa λD Y H hz=>by
 obtain⟨U,G,fl,U',r,e,k⟩:=hz;cases e;exact k Y H G (MB.refl r)
def qQa:PS X (.Break pos) (tS K P C W .brk):=TS.EE pQa λD Y H hz=>by
 obtain⟨U,G,fl,U',r,e,k⟩:=hz;cases e;exact k Y H G (MB.refl r)
def rQa:PS X (.Continue pos) (tS K P C W .cnt):=TS.EE tQa λD Y H hz=>by
 obtain⟨U,G,fl,U',r,e,k⟩:=hz;cases e;exact k Y H G (MB.refl r)
def uQa(h:MA X K P C e c)(n:SD e=true):PS X (.Expr e pos) (tS K P C W (.expr c)):=by
 refine TS.EE (Dj h.v (FY n _ _ _)) λD Y H hz=>?_
 obtain⟨U,G,fl,U',r,e,k⟩:=hz;obtain⟨v,U1,e1,e2⟩:=XI e k.ne;cases e2;exact⟨U,G,v,_,r,e1,λx H' G' a hv=>k Y H' G' (DA.s r a)⟩
def cRa:PS X (.Return none pos) (tS K P C W .jY):=TS.EE bRa λD Y H hz=>by
 obtain⟨U,G,fl,U',r,e,k⟩:=hz;cases e;exact k .oA Y H G (MB.refl r) (by show kA K G .oA _;simp[kA])
def CA.give(r:CA K U Y H G)(h:U[i]?=some (.ow d false l))(hx:Y[i]?=some (some (.ref a))) :
  MB K U Y H G (U.set i .mv) Y H G/\QC K H G (yA (U.set i .mv) Y) (λa=>yA U Y a\/H a=none) (.ow d) (.ref a):=by
 have key:∀(j:Nat) (sl:Sl),(U.set i .mv)[j]?=some sl->(j=i/\sl=.mv)\/(j≠i/\U[j]?=some sl):=λj sl z=>by
  rcases mH z with ⟨e,z,_⟩ | z
  ·exact .inl ⟨e,z⟩
  ·exact .inr z
 obtain⟨b,h1,g,o⟩:=r.ow i d false l h;rw[hx] at h1;cases h1
 have qF:∀c,yA (U.set i .mv) Y c->yA U Y c/\c≠a:=λc hz=>by
  obtain⟨j,d',p',l',z,w⟩:=hz;rcases key j _ z with ⟨_,q⟩ | ⟨nj,q⟩
  ·cases q
  ·refine⟨⟨j,d',p',l',q,w⟩,λz=>?_⟩;subst z;exact nj (r.inj _ _ _ _ _ _ _ _ _ q h w hx)
 refine⟨⟨⟨by rw[SE];exact r.len,r.sub,λj d' z=>?_,λj d' p' l' z=>?_,λj k d1 p1 l1 d2 p2 l2 c z1 z2 z3 z4=>?_⟩,Ext.refl,λc z=>.inl (qF c z).1,λj z=>?_,λj d' l' z=>⟨rfl,d', ?_⟩,by rw[SE]⟩,a,rfl,g,o,λz=>(qF a z).2 rfl,.inl ⟨i,d,false,l,h,hx⟩⟩
 ·rcases key j _ z with ⟨_,q⟩ | ⟨nj,q⟩
  ·cases q
  ·exact r.sh j d' q
 ·rcases key j _ z with ⟨_,q⟩ | ⟨nj,q⟩
  ·cases q
  ·exact r.ow j d' p' l' q
 ·rcases key j _ z1 with ⟨_,q⟩ | ⟨nj,q⟩
  ·cases q
  ·rcases key k _ z2 with ⟨_,q'⟩ | ⟨nk,q'⟩
   ·cases q'
   ·exact r.inj _ _ _ _ _ _ _ _ _ q q' z3 z4
 ·rcases key j _ z with ⟨_,q⟩ | ⟨nj,q⟩
  ·cases q
  ·exact⟨q,rfl⟩
 ·have nj:j≠i:=λw=>by subst w;rw[h] at z;cases z
  rw[jE (λw=>nj w.symm)];exact z
def dRa(h:MA X K P C e c):PS X (.Return (some e) pos) (tS K P C W (.ret c)):=by
 by_cases hv:∃i,c=.v i
 ·obtain⟨i,rfl⟩:=hv;refine TS.EE (O7 h.h) λD Y H hz=>?_
  obtain⟨U,G,fl,U',r,e,k⟩:=hz;replace e:(match U[i]? with | some (.ow d false _)=>some (.rt (.ow d),U.set i .mv) | some (.sh d)=>some (.rt (.sh d),U) | _=>none)=some (fl,U'):=e;split at e
  ·rename_i d l hd;cases e;obtain⟨a,h1,g,o⟩:=r.ow i d false l hd;refine⟨U,G,.slot i,U,r,by simp[hd,hd,Sl.get,CI.hd],λx H' G' a1 hx=>?_⟩;obtain⟨a',tI,g',o'⟩:=a1.lA.ow i d false l hd;have hx:Y[i]?=some (some x):=hx;rw[hx] at tI;cases tI;obtain⟨s1,v1⟩:=a1.lA.give hd hx;exact(k.pre (DA.s r a1)) _ Y H' G' s1 v1
  ·rename_i d hd;cases e;obtain⟨v,h1,h2⟩:=r.sh i d hd;refine⟨U,G,.slot i,U,r,by simp[hd,Sl.get,CI.hd],λx H' G' a1 hx=>?_⟩;obtain⟨v',tI,y_⟩:=a1.lA.sh i d hd;have hx:Y[i]?=some (some x):=hx;rw[hx] at tI;cases tI;exact k x Y H' G' (DA.s r a1) y_
  ·cases e
 ·refine TS.EE (O7 h.v) λD Y H hz=>?_
  obtain⟨U,G,fl,U',r,e,k⟩:=hz
  have e':(ev P C false c U).uC (λv U1=>some (.rt v,U1))=some (fl,U'):=by
   cases c<;>first | exact absurd ⟨_,rfl⟩ hv | exact e
  obtain⟨v,U1,e1,e2⟩:=XI e' k.ne;cases e2;exact⟨U,G,v,_,r,e1,λx H' G' a hv=>k x Y H' G' (DA.s r a) (hv.WH λa z=>.inr z)⟩
def vQa(hc:MA X K P C c cc)(ha:XC X a (IE K P C W ca))(hb:XC X b (IE K P C W cb)):PS X (.If c a b pos) (tS K P C W (.wA cc ca cb)):=by
 refine TS.EE (Fj hc.t ha hb) λD Y H hz=>?_
 obtain⟨U,G,fl,U',r,e,k⟩:=hz;obtain⟨v,U1,e1,e2⟩:=XI e k.ne;split at e2
 ·refine⟨U,G,true,U1,r,e1,λH1 G1 a1=>?_⟩;refine oO ?_;exact⟨U1,G1,fl,U',a1.lA,e2,k.pre (DA.s r a1)⟩
 ·refine⟨U,G,false,U1,r,e1,λH1 G1 a1=>?_⟩;refine mO ?_;exact⟨U1,G1,fl,U',a1.lA,e2,k.pre (DA.s r a1)⟩
 ·cases e2
def d8{qq:Bool}(xo:gC qq X K P C Z)(bC:UI X Z){x:aA}{i:Nat}(h:Z.sF x=some i){pos:XB}:PG X (.Name x pos) (XN i):=by
 unfold CC.sF at h;split at h
 ·rename_i hl
  have hN:X.N[i]?=some x:=by
   unfold CC.slot at h;split at h
   ·cases h
   ·split at h
    ·rw[xo.VH];exact cX h
    ·cases h
  refine qj (by rw[xo.VH];exact xo.nd) hN ?_ (bC x hl);unfold L2.Loc;rw[xo.nm];unfold CC.iO at hl;rw[BH,qA] at hl;rcases hl with hl | hl
  ·exact .inl (jB hl)
  ·exact .inr (jB hl.2)
 ·cases h
def mQa{qq:Bool}(xo:gC qq X K P C Z)(bC:UI X Z){x:aA}{i:Nat}{e:sA}{c:E}{p pos:XB}(hi:Z.sF x=some i)(h:MA X K P C e c)(n:SD e=true):PS X (.Assign [.Name x p] e pos) (tS K P C W (.kB i c)):=by
 refine TS.EE (OQ h.v (d8 xo bC hi) (VT n _ _ _)) λD Y H hz=>?_
 obtain⟨U,G,fl,U',r,e,k⟩:=hz;obtain⟨v,U1,e1,e2⟩:=XI e k.ne;unfold YF at e2
 cases q:store i v U1 with
 |none=>rw[q] at e2;cases e2
 |some U2 =>
  rw[q] at e2;cases e2;exact⟨U,G,v,U1,r,e1,λx H' G' a hv=>k _ H' G' (DA.store r a q hv)⟩
theorem S8(xo:OA X K P C Z)(bC:UI X Z):∀{ts:List sA} {is:List Nat},zK Z ts=some is->UK X ts (pS K is)/\(vH ts X.env).length=is.length/\(vH ts X.env).findIdx? (·.1)=none/\ts.length=is.length
 |[],is,h=>by cases h;exact⟨nPa,rfl,rfl,rfl⟩
 |e::es,is,h=>by
  simp only[zK] at h
  cases q:R8 Z e with
  |none=>rw[q] at h;cases h
  |some i =>
   rw[q] at h;simp only[GF] at h
   cases q2:zK Z es with
   |none=>rw[q2] at h;cases h
   |some cg =>
    rw[q2] at h;cases h;obtain⟨h1,h2,h3,h4⟩:=S8 xo bC q2;cases e<;>simp only[R8,reduceCtorEq] at q;refine⟨mPa (d8 xo bC q) h1 rfl, ?_, ?_,by simp[h4]⟩
    ·show(vH es X.env).length+1=cg.length+1;rw[h2]
    ·show((false,_)::vH es X.env).findIdx? (·.1)=none;rw[List.findIdx?_cons,h3];rfl
def zVa(h:iT e=true)(env:IK):swappedStores [.Tuple ts k0 p] e env=pure none:=by
 cases e<;>first | rfl | cases h
def nQa(xo:OA X K P C Z)(bC:UI X Z){ts:List sA}{is:List Nat}{e:sA}{c:E}{k0:Nat}{p pos:XB}(hi:zK Z ts=some is)(h:MA X K P C e c)(n:SD e=true)(n2:iT e=true):PS X (.Assign [.Tuple ts k0 p] e pos) (tS K P C W (.wM is c)):=by
 obtain⟨h1,h2,h3,h4⟩:=S8 xo bC hi;refine TS.EE (OQ h.v (pj xo h1 h2 h3) (VT n _ _ _) (zVa n2 _)) λD Y H hz=>?_
 obtain⟨U,G,fl,U',r,e,k⟩:=hz;obtain⟨v,U1,e1,e2⟩:=XI e k.ne;unfold YF at e2
 cases q:WA false is v.d U1 with
 |none=>rw[q] at e2;cases e2
 |some U2 =>
  rw[q] at e2;cases e2;refine⟨U,G,v,U1,r,e1,λx H' G' a hv=>?_⟩;obtain⟨G2,a2,r2⟩:=a.share hv;exact⟨U1,G2,v.d,_,a2.lA,r2,q,λY' b=>k Y' H' G2 ((DA.s r a2).trans b)⟩
noncomputable def nSa(K:fA):fV:=λ_ _ _ _ _=>False
noncomputable def oSa:fV:=λ_ _ _ _ _=>False
def gUa(hu:X.A.units+11<cLine):aV X (λo i v H Q=>xT o i v H Q\/oSa o i v H Q\/nSa X.K o i v H Q):=by
 intro bA s Y H o i v ov iv u Q I ro ri rv h;rcases h with h | h | h
 ·exact aAF bA s Y H o i v ov iv u Q I ro ri rv h
 ·exact h.elim
 ·exact h.elim
def fRa(xo:OA X K P C Z)(hi:Z.slot x=some i)(h:MA X K P C e c)(hj:MA X K P C j cj)(n:SD e=true)
  (ha:∀v,assign (.Subscript (.Name x p) j p2) X.env v=(do
   let ov <- holding [v] (eval (.Name x p) X.env)
   let iv <- holding [v,ov] (eval j X.env)
   standAt p2
   holding [v,ov,iv] (setItem ov iv v)
   release [v,ov,iv] [])):PS X (.Assign [.Subscript (.Name x p) j p2] e pos) (tS K P C W (.set i cj c)):=by
 have hp:PE X (.Name x p) (bI i):=CC.NL xo hi;refine TS.EE (OQ h.v (dY hp hj.v (xo.VC ▸ gUa (by have:=xo.hu;lia)) ha) (VT n _ _ _)) λD Y H hz=>?_
 obtain⟨U,G,fl,U',r,e,k⟩:=hz;obtain⟨v,U1,e1,e2⟩:=XI e k.ne;split at e2
 ·rename_i ho;obtain⟨w,U2,e3,e4⟩:=XI e2 k.ne;split at e4
  ·rename_i ds p1 nn hs hw;unfold YF at e4
   cases q:iD ds.length nn with
   |none=>rw[q] at e4;cases e4
   |some m =>
    rw[q] at e4;cases e4;refine⟨U,G,v,U1,r,e1,λy H1 G1 a1 hv=>?_⟩;obtain⟨d0,p0,l0,h0⟩:=jX ho;obtain⟨b,hb,g0,o0⟩:=a1.lA.ow i _ p0 l0 h0;refine⟨.ref b,hb,U1,G1,w,U2,a1.lA,e3,λz H2 G2 a2 hz=>?_⟩;have hv2:=hv.wait a2.ext λa z=>.inl (a2.own a z)
    obtain⟨G3,a3,r3⟩:=(a1.trans a2).share hv2;obtain⟨b',AF,g1,vs,ES,hr⟩:=a3.lA.ow i _ _ _ hs;rw[hb] at AF;cases AF;have IS:=hz.BO;rw[hw] at IS;cases IS.int;have a4:=a3.lA.write hs hb (hr.set r3 m);exact .inl ⟨b,vs,nn,m,rfl,rfl,ES,by rw[hr.len];exact q,k Y _ _ (DA.s r (a3.trans a4))⟩
  ·cases e4
 ·cases e2
def hUa(hu:X.A.units+1<cLine):aV X (λo i v H Q=>∃a H',o=.ref a/\GR H a i v H'/\Q H'):=by
 intro bA s Y H o i v ov iv u Q I ro ri rv h;obtain⟨a,H',rfl,g,q⟩:=h;cases ro;exact xw hu I g ri rv λs' I'=>⟨H',I',q⟩
def gRa(xo:OA X K P C Z)(hi:Z.slot x=some i)(h:MA X K P C e c)(n:SD e=true) :
  PS X (.Assign [.Subscript (.Name x p) (.Constant (.str t) j p3) p2] e pos) (tS K P C W (.DO i t c)):=by
 have hp:PE X (.Name x p) (bI i):=CC.NL xo hi;refine TS.EE (OQ h.v (dY hp aN (hUa (by have:=xo.hu;lia))) (VT n _ _ _)) λD Y H hz=>?_
 obtain⟨U,G,fl,U',r,e,k⟩:=hz;obtain⟨v,U1,e1,e2⟩:=XI e k.ne;unfold qY at e2;split at e2
 ·rename_i ks ds p1 hs;split at e2
  ·rename_i hz;cases e2;rw[qA] at hz;refine⟨U,G,v,U1,r,e1,λy H1 G1 a1 hv=>?_⟩;obtain⟨G3,a3,r3⟩:=a1.share hv;obtain⟨b,hb,g1,vs,h1,h2,h3⟩:=a3.lA.ow i _ _ _ hs;have hl:vs.length=ks.length:=by rw[h2.len];exact h3.symm
   have e0:aAw (mF ks vs) (Sum.inr t) y=mF (ks++[t]) (vs++[y]):=by
    unfold aAw mF;rw[qB,List.zip_append hl.symm,jP]
    ·rfl
    ·intro z;obtain⟨q,hq,w⟩:=Vp.mp z;obtain⟨⟨a,b⟩,S4,rfl⟩:=OC.mp hq
     have:=(nZ S4).1
     have e5:a=t:=uZ (RL w);have Nf:=hz.2;rw[QK,List.any_eq_false] at Nf;exact Nf a this (IB e5)
   refine⟨.ref b,hb,b,_,rfl,GR.k (k:=Sum.inr t) h1 ?_, ?_⟩
   ·have:=dN hz.1
    unfold mF;rw[JA,Zp]
    lia
   ·rw[e0];exact k Y _ _ (DA.s r (a3.trans (a3.lA.Pn (ob:=.dK (mF (ks++[t]) (vs++[y]))) (d':=.sC (ks++[t]) (ds++[v.d])) hs hb ⟨_,fC,rA.app h2 (rA.cons r3 rA.nil),by rw[lE,lE,h3];rfl⟩)))
  ·cases e2
 ·cases e2
def Qk(r:CA K U Y H G)(hv:kA K G d v)(ho:CF U i=true)(e:eN i d (ev P C false c U)=some U')(k:∀H' G',MB K U Y H G U' Y H' G'->Q Y H'):uW (bI i) (tE K P C c) xT v Y H Q:=by
 unfold eN at e;split at e
 ·rename_i w U2 e3;split at e
  ·rename_i ds p1 nn hs hw;obtain⟨m,q,rfl⟩:=BN.mp e;obtain⟨d0,p0,l0,h0⟩:=jX ho;obtain⟨b,hb,g0,o0⟩:=r.ow i _ p0 l0 h0;refine⟨.ref b,hb,U,G,w,U2,r,e3,λz H2 G2 a2 hz=>?_⟩;obtain⟨b',AF,g1,vs,ES,hr⟩:=a2.lA.ow i _ _ _ hs;rw[hb] at AF;cases AF;have IS:=hz.BO;rw[hw] at IS;cases IS.int;exact⟨b,vs,nn,m,rfl,rfl,ES,by rw[hr.len];exact q,k _ _ (DA.s r (a2.trans (a2.lA.write hs hb (hr.set (kA.mono a2.ext.gg _ hv) m))))⟩
  ·cases e
 ·cases e
def aWa(e:sA)(env:IK):swappedStores [.Tuple [.Subscript o a p1,.Subscript o' b p2] k p] e env=pure none:=by
 cases e with
 |Tuple vs j q =>
  unfold swappedStores;simp only[pure_bind];split
  ·rfl
  ·split
   ·rfl
   ·rfl
 |_=>rfl
def hRa(xo:OA X K P C Z)(hi:Z.slot x=some i)(ha:MA X K P C a ca)(hb:MA X K P C b cb)(h:MA X K P C e c)(n:SD e=true)(na:XM a=true)(nb:XM b=true) :
  PS X (.Assign [.Tuple [.Subscript (.Name x q1) a p1,.Subscript (.Name x q2) b p2] k0 p] e pos) (tS K P C W (.eR i ca cb c)):=by
 have h1:PG X (.Subscript (.Name x q1) a p1) (uW (bI i) (tE K P C ca) xT):=dY (CC.NL xo hi) ha.v aAF λv=>by cases a<;>first | rfl | cases na
 have h2:PG X (.Subscript (.Name x q2) b p2) (uW (bI i) (tE K P C cb) xT):=dY (CC.NL xo hi) hb.v aAF λv=>by cases b<;>first | rfl | cases nb
 refine TS.EE (OQ h.v (rj (n:=2) xo.calm (M7 h1 (M7 h2 sj))) (VT n _ _ _) (aWa _ _)) λD Y H hz=>?_
 obtain⟨U,G,fl,U',r,e,k⟩:=hz;obtain⟨v,U1,e1,e2⟩:=XI e k.ne;unfold J8 at e2;split at e2
 ·rename_i d1 d2 hd;split at e2
  ·rename_i ho;unfold YF at e2
   cases q:eN i d1 (ev P C false ca U1) with
   |none=>rw[q] at e2;cases e2
   |some U2 =>
    rw[q] at e2;simp only[GF] at e2;split at e2
    ·rename_i yI
     cases q2:eN i d2 (ev P C false cb U2) with
     |none=>rw[q2] at e2;cases e2
     |some U3 =>
      rw[q2] at e2;cases e2;refine⟨U,G,v,U1,r,e1,λy H1 G1 a1 hv=>?_⟩;obtain⟨G2,a2,r2⟩:=a1.share hv;rw[hd] at r2;simp only[kA,rA] at r2;obtain⟨b0,vs,rfl,hq,x1,s1,rfl,g1,x2,s2,rfl,g2,rfl⟩:=r2;have hK:=xo.VC;refine⟨b0,[x1,x2],rfl,hK ▸ pH (Sm.of a2.lA.sub) hq,rfl,x1,[x2],rfl,Qk a2.lA g1 ho q λH3 G3 a3=>⟨x2,[],rfl,Qk a3.lA (kA.mono a3.ext.gg _ g2) yI q2 λH4 G4 a4=>⟨rfl,k Y _ _ ((DA.s r a2).trans (a3.trans a4))⟩⟩⟩
    ·cases e2
  ·cases e2
 ·cases e2
end
section
variable{X:Cx}{K:fA}{P:YA}{C:Calls}{W:Nat}{Z:CC}
def YT(r:CA K U Y H G):CA K (aAb o U) Y H G/\∀a,yA (aAb o U) Y a->yA U Y a:=by
 cases o with
 |none=>exact⟨r,λ_ z=>z⟩
 |some i=>exact⟨r.unset i,λ_ z=>z.unset⟩
def PQ(r:CA K U1 Y H1 G1)(ho:∀i,o=some i->∃d p l,U1[i]?=some (.ow d p l))(e:aAk o U1 Uf=some U')(a:MB K (aAb o U1) Y H1 G1 Uf Yf Hf Gf) :
  MB K U1 Y H1 G1 U' Yf Hf Gf/\∀c,yA U' Yf c->yA Uf Yf c\/(yA U1 Y c/\¬yA (aAb o U1) Y c):=by
 cases o with
 |none =>
  simp only[aAk,RB] at e;subst e;exact⟨a,λ_ z=>.inl z⟩
 |some i =>
  obtain⟨d,p,l,hi⟩:=ho i rfl;obtain⟨b,hb,g,ob⟩:=r.ow i d p l hi;have O4:yA U1 Y b:=⟨i,d,p,l,hi,hb⟩
  have SX:¬yA (U1.set i .un) Y b:=r.mR hi hb;have VB:H1 b≠none:=(r.owned O4).1;simp only[aAk] at e;split at e
  ·rename_i sl hf hs;rw[hi] at hs;cases hs;cases e;obtain⟨hu1,Lf⟩:=a.un i hf;have hx:Yf[i]?=some (some (.ref b)):=Lf.trans hb;have gb:Gf b=none:=a.ext.gn b VB g SX;have of:GG K Hf Gf b d:=ob.mono a.ext.gg λo' h'=>a.ext.hh b o' h' SX
   have nf:¬yA Uf Yf b:=λz=>by
    rcases a.own b z with z | z
    ·exact SX z
    ·exact VB z
   have rf:CA K (Uf.set i (.ow d p l)) Yf Hf Gf:=(a.lA.unset i).AO hx gb of λz=>nf z.unset
   have qF:∀c,yA (Uf.set i (.ow d p l)) Yf c->c=b\/yA Uf Yf c:=λc z=>by
    rcases z.AO hx with z | z
    ·exact .inl z
    ·exact .inr z.unset
   refine⟨⟨rf,a.ext.weaken λc z=>z.unset,λc z=>?_,λj z=>?_,λj d' l' z=>?_,by rw[SE,a.len];exact SE⟩,λc z=>?_⟩
   ·rcases qF c z with rfl | z
    ·exact .inl O4
    ·rcases a.own c z with z | z
     ·exact .inl z.unset
     ·exact .inr z
   ·rcases mH z with ⟨_,w,_⟩ | ⟨nj,w⟩
    ·cases w
    ·obtain⟨w1,w2⟩:=a.un j w;have Jn:(U1.set i .un)[j]?=some .un:=w1;rw[jE (λq=>nj q.symm)] at Jn;exact⟨Jn,w2⟩
   ·by_cases hj:j=i
    ·subst hj;rw[hi] at z;cases z;refine⟨Lf,d, ?_⟩;rw[gI (MD.mp hf).1]
    ·have z':(aAb (some i) U1)[j]?=some (.ow d' true l'):=by
      show(U1.set i .un)[j]?=_;rw[jE (λq=>hj q.symm)];exact z
     obtain⟨w1,d2,w2⟩:=a.pin j d' l' z';exact⟨w1,d2,by rw[jE (λq=>hj q.symm)];exact w2⟩
   ·rcases qF c z with rfl | z
    ·exact .inr ⟨O4,SX⟩
    ·exact .inl z
  ·cases e
def FG.restore{D:Ends}(r:CA K U1 Y H1 G1)(ho:∀i,o=some i->∃d p l,U1[i]?=some (.ow d p l))(e:aAk o U1 Uf=some U')(k:FG K U1 Y H1 G1 U' D fl) :
  FG K (aAb o U1) Y H1 G1 Uf D fl:=by
 cases fl with
 |nx=>exact λY' H' G' b=>k Y' H' G' (PQ r ho e b).1
 |bk=>exact λY' H' G' b=>k Y' H' G' (PQ r ho e b).1
 |ct=>exact λY' H' G' b=>k Y' H' G' (PQ r ho e b).1
 |rt v =>
  refine λx Y' H' G' b hv=>?_
  obtain⟨b1,b2⟩:=PQ r ho e b;refine k x Y' H' G' b1 ?_
  cases v with
  |sh d=>exact hv
  |ow d =>
   obtain⟨c,rfl,g,oo,n,m⟩:=hv;refine⟨c,rfl,g,oo,λz=>?_, ?_⟩
   ·rcases b2 c z with z | ⟨z1,z2⟩
    ·exact n z
    ·rcases m with m | m
     ·exact z2 m
     ·exact(r.owned z1).1 m
   ·rcases m with m | m
    ·exact .inl ((YT r).2 c m)
    ·exact .inr m
  |od d =>
   obtain⟨c,rfl,g,oo,n,m,vs,ES,hr⟩:=hv
   have key:∀c,¬yA Uf Y' c->(yA (aAb o U1) Y c\/H1 c=none)->¬yA U' Y' c/\(yA U1 Y c\/H1 c=none):=λc n m=>by
    refine⟨λz=>?_, ?_⟩
    ·rcases b2 c z with z | ⟨z1,z2⟩
     ·exact n z
     ·rcases m with m | m
      ·exact z2 m
      ·exact(r.owned z1).1 m
    ·rcases m with m | m
     ·exact .inl ((YT r).2 c m)
     ·exact .inr m
   exact⟨c,rfl,g,oo,(key c n m).1,(key c n m).2,vs,ES,λx hx=>let ⟨b,ws,h1,h2,h3,h4,h5,h6⟩:=hr x hx;⟨b,ws,h1,h2,h3,(key b h4 h5).1,(key b h4 h5).2,h6⟩⟩
 |ex x=>exact k
def VI(K:fA)(P:YA)(C:Calls)(W:Nat)(one:Bool)(tg:List Nat)(cb:List S)(U0:Env)(Y0:St)(H0 G0:Hp)(fl:Fl)(Uf:Env)(ds:List D)(i:Nat):St->Hp->Prop:=λY H =>
 ∃U G,MB K U0 Y0 H0 G0 U Y H G/\KC (WA one tg) (GA P C W cb) (ds.drop i) U=some (fl,Uf)
def X6(hk:FG K U0 Y0 H0 G0 Uf D0 fl)(hd:ds[i]?=some d)(hx:kA K G0 d x)
  (h:VI K P C W one tg cb U0 Y0 H0 G0 fl Uf ds i Y H) :
  gB K one tg x Y H λY2 H2=>IE K P C W cb { D0 with nx:=VI K P C W one tg cb U0 Y0 H0 G0 fl Uf ds (i+1),ct:=VI K P C W one tg cb U0 Y0 H0 G0 fl Uf ds (i+1),bk:=D0.nx } Y2 H2:=by
 obtain⟨U,G,a,e⟩:=h;have hl:i<ds.length:=(MD.mp hd).1
 have ed:ds.drop i=d::ds.drop (i+1):=by(rw[rR hl];congr 1;rw[kC hl] at hd;exact uF hd)
 rw[ed] at e;simp only[KC] at e
 cases q:WA one tg d U with
 |none=>rw[q] at e;cases e
 |some U1 =>
  rw[q] at e;simp only at e;refine⟨U,G,d,U1,a.lA,kA.mono a.ext.gg d hx,q,λY1 a1=>?_⟩;have rG:=a.trans a1
  cases q2:GA P C W cb U1 with
  |none=>rw[q2] at e;cases e
  |some y =>
   obtain⟨kL,U2⟩:=y;rw[q2] at e;refine⟨U1,G,kL,U2,a1.lA,q2, ?_⟩
   cases kL with
   |nx=>exact λY2 H2 G2 a2=>⟨U2,G2,rG.trans a2,e⟩
   |ct=>exact λY2 H2 G2 a2=>⟨U2,G2,rG.trans a2,e⟩
   |bk=>cases e;exact λY2 H2 G2 a2=>hk Y2 H2 G2 (rG.trans a2)
   |rt v=>cases e;exact hk.pre rG
   |ex x=>cases e;exact hk
def lHa(hk:FG K U0 Y0 H0 G0 Uf D0 fl)(hd:ds[i]?=some d)
  (h:∃U G,MB K U0 Y0 H0 G0 U Y H G/\kA K G d x/\KC (WA one tg) (GA P C W cb) (ds.drop i) U=some (fl,Uf)) :
  gB K one tg x Y H λY2 H2=>IE K P C W cb { D0 with nx:=VI K P C W one tg cb U0 Y0 H0 G0 fl Uf ds (i+1),ct:=VI K P C W one tg cb U0 Y0 H0 G0 fl Uf ds (i+1),bk:=D0.nx } Y2 H2:=by
 obtain⟨U,G,a,hx,e⟩:=h;have hl:i<ds.length:=(MD.mp hd).1
 have ed:ds.drop i=d::ds.drop (i+1):=by(rw[rR hl];congr 1;rw[kC hl] at hd;exact uF hd)
 rw[ed] at e;simp only[KC] at e
 cases q:WA one tg d U with
 |none=>rw[q] at e;cases e
 |some U1 =>
  rw[q] at e;simp only at e;refine⟨U,G,d,U1,a.lA,hx,q,λY1 a1=>?_⟩;have rG:=a.trans a1
  cases q2:GA P C W cb U1 with
  |none=>rw[q2] at e;cases e
  |some y =>
   obtain⟨kL,U2⟩:=y;rw[q2] at e;refine⟨U1,G,kL,U2,a1.lA,q2, ?_⟩
   cases kL with
   |nx=>exact λY2 H2 G2 a2=>⟨U2,G2,rG.trans a2,e⟩
   |ct=>exact λY2 H2 G2 a2=>⟨U2,G2,rG.trans a2,e⟩
   |bk=>cases e;exact λY2 H2 G2 a2=>hk Y2 H2 G2 (rG.trans a2)
   |rt v=>cases e;exact hk.pre rG
   |ex x=>cases e;exact hk
def ye{lo:Int}{g:TG}{tb:TS}{D:Ends}(Pv:Nat->St->Hp->Prop)(h0:Pv 0 Y H)(hl:∀i Y H,i<=xs.length->Pv i Y H->CB K H a xs)
  (hs:∀i y p Y H,xs[i]?=some y->H p=none->Pv i Y H->g (.ref p) Y (vA H p (.t [.int (lo+(i:Int)),y])) λY2 H2=>tb { D with nx:=Pv (i+1),ct:=Pv (i+1),bk:=D.nx } Y2 H2) (hd:∀Y H,Pv xs.length Y H->D.nx Y H) :
  ∃W:Nat->Nat->St->Hp->Prop,(∃m,W 0 m Y H)/\∀i m Y H,W i m Y H ->
   ((nM K a lo).stop i H/\D.nx Y H)\/((nM K a lo).go i H/\∃N:St->Hp->Prop,(∀Y' H',N Y' H'->∃m',m'<m/\W (i+1) m' Y' H')/\∀x H',(nM K a lo).nN i H x H'->g x Y H' λY2 H2=>tb { D with nx:=N,ct:=N,bk:=D.nx } Y2 H2):=by
 refine⟨λi m Y H=>m=xs.length-i/\i<=xs.length/\Pv i Y H,⟨xs.length,by simp,cM _,h0⟩, ?_⟩
 rintro i m Y H ⟨rfl,hi,p⟩
 have q:=hl i Y H hi p;by_cases wD:i<xs.length
 ·refine .inr ⟨⟨xs,xs[i],q,by simp[wD]⟩,Pv (i+1),λY' H' p'=>⟨xs.length-(i+1),by lia,rfl,wD,p'⟩,λx H' y=>?_⟩;obtain⟨p0,y0,hn,rfl,rfl,hy⟩:=y;exact hs i y0 p0 Y H (hy xs q) hn p
 ·have e:i=xs.length:=by lia
  subst e;exact .inl ⟨⟨xs,q,HB _⟩,hd Y H p⟩
def cQ{lo:Int}:(RC lo ds).length=ds.length:=by unfold RC;simp
def bQ{lo:Int}{i:Nat}(h:ds[i]?=some d):(RC lo ds)[i]?=some (.t [.int (lo+(i:Int)),d]):=by
 have hl:i<ds.length:=(MD.mp h).1;unfold RC;rw[PL,List.getElem?_range hl,WD,gM,h];rfl
def D2(hg:G p=none)(h:kA K G d y):kA K (vA G p (.t [.int i,y])) (.t [.int i,d]) (.ref p):=by
 simp only[kA];exact⟨p,_,rfl,FC.of fC,rA.cons (by simp[kA]) (rA.cons (kA.mono (Sm.laid hg) d h) rA.nil)⟩
def EX(hk:FG K U0 Y0 H0 G0 Uf D0 fl)(h:VI K P C W one tg cb U0 Y0 H0 G0 fl Uf ds ds.length Y H):D0.nx Y H:=by
 obtain⟨U,G,a,e⟩:=h;rw[X9] at e;simp only[KC,RB,ND] at e;obtain⟨rfl,rfl⟩:=e;exact hk Y H G a
def Src(K:fA)(U:Env)(Y:St)(H G:Hp)(a:eA)(vs:List V):Prop:=CB K G a vs\/(H a=some (.l vs)/\G a=none/\¬yA U Y a)
def Src.now(h:Src K U Y H G a vs)(b:MB K U Y H G U' Y' H' G'):CB K H' a vs:=by
 rcases h with h | ⟨h1,h2,h3⟩
 ·exact b.lA.sub.seq (b.ext.gg.seq h)
 ·exact CB.of (b.ext.hh a _ h1 h3)
def SK(K:fA)(P:YA)(C:Calls)(k0:wF)(gA:List E)(Y:St)(H:Hp)(R:It->Hp->Prop):Prop:=∃(U:Env) (G:Hp) (hs:List Hd) (U1:Env) (ds:List D) (o:Option Nat),CA K U Y H G/\nD P C gA U=some (.ok hs,U1)/\aAa k0 hs U1=some (ds,o) /\
   ∀H1 G1,DA K U Y H G U1 H1 G1->(∀i,o=some i->∃d p l,U1[i]?=some (.ow d p l)) ->
    (∀a vs,Src K (aAb o U1) Y H1 G1 a vs->rA K G1 ds vs->R (oM K a) H1)/\(∀a vs,FC K G1 a vs->rA K G1 ds vs->R (pM K a) H1)/\(∀(lo:Int) (n:Nat),ds=(jC n).map (λ(j:Nat)=>D.int (lo+(j:Int)))->R (RJ lo n) H1)/\(∀a vs xF lo,ds=RC lo xF->Src K (aAb o U1) Y H1 G1 a vs->rA K G1 xF vs->R (nM K a lo) H1)
def Dz(po:xN (model X.prog X.w) X.A X.env X.xe)(xo:OA X K P C Z)(hg:PG X tg (gB K one is))(hb:XC X body (IE K P C W cb))
  (hs:∀x,OJ it X.env x=pure x) (hi:PI X tg it wi)
  (hw:∀Y H (R:It->Hp->Prop),SK K P C k0 gA Y H R->wi Y H R) :
  PS X (.For tg it body [] pos) (tS K P C W (.for is one k0 gA cb)):=by
 refine TS.EE (Ej po xo.calm hi hg hb hs) λD Y H hz=>?_
 obtain⟨U,G,fl,U',r,e,k⟩:=hz;obtain⟨hs,U1,e1,e2⟩:=XI e k.ne
 cases q:aAa k0 hs U1 with
 |none=>rw[q] at e2;cases e2
 |some y =>
  obtain⟨ds,o⟩:=y;rw[q] at e2;simp only at e2
  cases q2:KC (WA one is) (GA P C W cb) ds (aAb o U1) with
  |none=>rw[q2] at e2;cases e2
  |some y =>
   obtain⟨kL,Uf⟩:=y;rw[q2] at e2;simp only[Run.restore] at e2
   cases q3:aAk o U1 Uf with
   |none=>rw[q3] at e2;cases e2
   |some U2 =>
    rw[q3] at e2;cases e2;refine hw Y H _ ⟨U,G,hs,U1,ds,o,r,e1,q,λH1 G1 a1 ho=>?_⟩;have k1:FG K (aAb o U1) Y H1 G1 Uf D fl:=FG.restore a1.lA ho q3 (k.pre (DA.s r a1));have p0:VI K P C W one is cb (aAb o U1) Y H1 G1 fl Uf ds 0 Y H1:=⟨aAb o U1,G1,MB.refl (YT a1.lA).1,q2⟩
    refine⟨λa vs mJ hr=>?_,λa vs ht hr=>?_,λlo n gD=>?_,λa vs xF lo gD mJ hr=>?_⟩
    ·refine ze (xs:=vs) (VI K P C W one is cb (aAb o U1) Y H1 G1 fl Uf ds) p0 (λi Y2 H2 _ ⟨U2,G2,b,_⟩=>mJ.now b) (λi x Y2 H2 hx hp=>?_) (λY2 H2 hp=>?_)
     ·have hl:i<ds.length:=by rw[<- hr.len];exact(MD.mp hx).1
      obtain⟨x',h1,h2⟩:=hr.get (kC hl);rw[hx] at h1;cases h1;exact X6 k1 (kC hl) h2 hp
     ·rw[hr.len] at hp;exact EX k1 hp
    ·refine Ce (xs:=vs) (VI K P C W one is cb (aAb o U1) Y H1 G1 fl Uf ds) p0 (λi Y2 H2 _ ⟨U2,G2,b,_⟩=>pH b.lA.sub (pH b.ext.gg ht)) (λi x Y2 H2 hx hp=>?_) (λY2 H2 hp=>?_)
     ·have hl:i<ds.length:=by rw[<- hr.len];exact(MD.mp hx).1
      obtain⟨x',h1,h2⟩:=hr.get (kC hl);rw[hx] at h1;cases h1;exact X6 k1 (kC hl) h2 hp
     ·rw[hr.len] at hp;exact EX k1 hp
    ·have GB:ds.length=n:=by rw[gD];simp
     refine Be (VI K P C W one is cb (aAb o U1) Y H1 G1 fl Uf ds) p0 (λi Y2 H2 hi hp=>?_) (λY2 H2 hp=>?_)
     ·have hd:ds[i]?=some (.int (lo+(i:Int))):=by rw[gD];simp[hi]
      exact X6 k1 hd (by simp[kA]) hp
     ·rw[<- GB] at hp;exact EX k1 hp
    ·subst gD;refine ye (xs:=vs) (VI K P C W one is cb (aAb o U1) Y H1 G1 fl Uf (RC lo xF)) p0 (λi Y2 H2 _ ⟨U2,G2,b,_⟩=>mJ.now b) (λi y p Y2 H2 hx hn hp=>?_) (λY2 H2 hp=>?_)
     ·have hl:i<xF.length:=by rw[<- hr.len];exact(MD.mp hx).1
      obtain⟨x',h1,h2⟩:=hr.get (kC hl);rw[hx] at h1;cases h1;obtain⟨U2,G2,b,e2⟩:=hp;have b2:=b.trans (DA.s b.lA ((DA.refl b.lA).qJ (o:=.t [.int (lo+(i:Int)),y]) hn));exact lHa k1 (bQ (kC hl)) ⟨U2,_,b2,D2 (fB.free b.lA.sub hn) (kA.mono b.ext.gg _ h2),e2⟩
     ·rw[hr.len,<- cQ] at hp;exact EX k1 hp
end
section
variable{X:Cx}{K:fA}
def PI.or(h:PI X tg it w)(h':PI X tg it w'):PI X tg it (λY H R=>w Y H R\/w' Y H R):=λbA s Y H R I q=>by
 rcases q with q | q
 ·exact h bA s Y H R I q
 ·exact h' bA s Y H R I q
def JV(e:nD P C [c] U=some (.ok hs,U1)):∃h,hs=[h]/\hd c (ev P C false c U) U=some (.ok h,U1):=by
 rw[nD] at e;obtain⟨h,U2,e1,e2⟩:=rB e;rw[nD] at e2;simp only[zA.bind] at e2;cases e2;exact⟨h,rfl,e1⟩
def Ni(hK:X.K=K)(Y:St)(H:Hp)(R:It->Hp->Prop)(q:SK K P C .of [c] Y H R) :
  Pf X.K (tH K P C c) Y H R\/Tf X.K (tH K P C c) Y H R:=by
 obtain⟨U,G,hs,U1,ds,o,r,e,ei,k⟩:=q;obtain⟨h,rfl,e1⟩:=JV e;rw[hK]
 cases h with
 |slot i =>
  (unfold aAa at ei;dsimp only at ei)
  split at ei
  ·rename_i KG p l hi;cases ei;refine .inl ⟨U,G,.slot i,U1,r,e1,λx H1 G1 a1 hx=>?_⟩;have hx:Y[i]?=some (some x):=hx;obtain⟨b,h1,g,vs,hv,hr⟩:=a1.lA.ow i _ _ _ hi;rw[hx] at h1;cases h1;exact⟨b,rfl,⟨vs,CB.of hv⟩,(k H1 G1 a1 λj z=>by cases z;exact⟨_,_,_,hi⟩).1 b vs (.inr ⟨hv,g,a1.lA.mR hi hx⟩) hr⟩
  ·rename_i KG hi;cases ei;refine .inl ⟨U,G,.slot i,U1,r,e1,λx H1 G1 a1 hx=>?_⟩;have hx:Y[i]?=some (some x):=hx;obtain⟨v,h1,h2⟩:=a1.lA.sh i _ hi;rw[hx] at h1;cases h1;simp only[kA] at h2;obtain⟨b,vs,rfl,h3,h4⟩:=h2;exact⟨b,rfl,⟨vs,a1.lA.sub.seq h3⟩,(k H1 G1 a1 λj z=>by cases z).1 b vs (.inl h3) h4⟩
  ·rename_i KG hi;cases ei;refine .inr ⟨U,G,.slot i,U1,r,e1,λx H1 G1 a1 hx=>?_⟩;have hx:Y[i]?=some (some x):=hx;obtain⟨v,h1,h2⟩:=a1.lA.sh i _ hi;rw[hx] at h1;cases h1;simp only[kA] at h2;obtain⟨b,vs,rfl,h3,h4⟩:=h2;exact⟨b,rfl,⟨vs,pH a1.lA.sub h3⟩,(k H1 G1 a1 λj z=>by cases z).2.1 b vs h3 h4⟩
  ·cases ei
 |val v =>
  (unfold aAa at ei;dsimp only at ei)
  split at ei
  ·rename_i KG hd;cases ei;refine .inl ⟨U,G,.val v,U1,r,e1,λx H1 G1 a1 hx=>?_⟩
   cases v with
   |sh d =>
    simp only[RV.d] at hd;subst hd;have hx:kA K G1 (.l ds) x:=hx;simp only[kA] at hx;obtain⟨b,vs,rfl,h3,h4⟩:=hx;exact⟨b,rfl,⟨vs,a1.lA.sub.seq h3⟩,(k H1 G1 a1 λj z=>by cases z).1 b vs (.inl h3) h4⟩
   |ow d =>
    simp only[RV.d] at hd;subst hd;obtain⟨b,rfl,g,⟨vs,hv,hr⟩,n,m⟩:=hx;exact⟨b,rfl,⟨vs,CB.of hv⟩,(k H1 G1 a1 λj z=>by cases z).1 b vs (.inr ⟨hv,g,n⟩) hr⟩
   |od d=>exact hx.elim
  ·rename_i KG hd;cases ei;refine .inr ⟨U,G,.val v,U1,r,e1,λx H1 G1 a1 hx=>?_⟩
   cases v with
   |sh d =>
    simp only[RV.d] at hd;subst hd;have hx:kA K G1 (.t ds) x:=hx;simp only[kA] at hx;obtain⟨b,vs,rfl,h3,h4⟩:=hx;exact⟨b,rfl,⟨vs,pH a1.lA.sub h3⟩,(k H1 G1 a1 λj z=>by cases z).2.1 b vs h3 h4⟩
   |ow d =>
    simp only[RV.d] at hd;subst hd;obtain⟨b,rfl,g,o,n,m⟩:=hx;exact o.elim
   |od d=>exact hx.elim
  ·cases ei
def ek(Y:St)(H:Hp)(R:It->Hp->Prop)(q:SK K P C .yD [c] Y H R) :
  Qf (MI K P C [c]) Y H R:=by
 obtain⟨U,G,hs,U1,ds,o,r,e,ei,k⟩:=q;refine⟨U,G,hs,U1,r,e,λxs H1 G1 a1 hx=>?_⟩;obtain⟨h,rfl,e1⟩:=JV e;obtain⟨x,r',rfl,h1,h2,_⟩:=hx;cases (show r'=[] from h2)
 (unfold aAa at ei;dsimp only at ei)
 split at ei
 ·rename_i n hn;split at ei
  ·rename_i hb;cases ei;cases (h1.read a1.lA hn).int;refine⟨n,rfl,by lia,by lia,(k H1 G1 a1 λj z=>by cases z).2.2.1 0 n.toNat ?_⟩;congr 1
   funext j
   rw[Int.zero_add]
  ·cases ei
 ·cases ei
def fk(Y:St)(H:Hp)(R:It->Hp->Prop)(q:SK K P C .yD [c,c2] Y H R) :
  Rf (MI K P C [c,c2]) Y H R:=by
 obtain⟨U,G,hs,U1,ds,o,r,e,ei,k⟩:=q;refine⟨U,G,hs,U1,r,e,λxs H1 G1 a1 hx=>?_⟩;rw[nD] at e;obtain⟨h,U2,e1,e2⟩:=rB e;obtain⟨X4,U3,e3,e4⟩:=rB e2;obtain⟨h',rfl,e5⟩:=JV e3;cases e4;obtain⟨x,r',rfl,h1,h2,_⟩:=hx;obtain⟨y,r'',rfl,h3,h4,_⟩:=h2;cases (show r''=[] from h4)
 (unfold aAa at ei;dsimp only at ei)
 split at ei
 ·rename_i m n hm hn;split at ei
  ·rename_i hb;cases ei;cases (h1.read a1.lA hm).int;cases (h3.read a1.lA hn).int;exact⟨m,n,rfl,by lia,(k H1 G1 a1 λj z=>by cases z).2.2.1 m (n-m).toNat rfl⟩
  ·cases ei
 ·cases ei
def C2(hK:X.K=K){lo:Int}(Y:St)(H:Hp)(R:It->Hp->Prop)(q:SK K P C (.enum lo) [c] Y H R) :
  o5 X.K lo (MI K P C [c]) Y H R:=by
 obtain⟨U,G,hs,U1,ds,o,r,e,ei,k⟩:=q;rw[hK];refine⟨U,G,hs,U1,r,e,λxs H1 G1 a1 oJ=>?_⟩;obtain⟨h,rfl,e1⟩:=JV e;obtain⟨x,r',rfl,hx,h2,_⟩:=oJ;cases (show r'=[] from h2)
 cases h with
 |slot i =>
  (unfold aAa at ei;dsimp only at ei)
  have hx:Y[i]?=some (some x):=hx;split at ei
  ·rename_i KG p l hi;cases ei;obtain⟨b,h1,g,vs,hv,hr⟩:=a1.lA.ow i _ _ _ hi;rw[hx] at h1;cases h1;exact⟨b,rfl,⟨vs,CB.of hv⟩,(k H1 G1 a1 λj z=>by cases z;exact⟨_,_,_,hi⟩).2.2.2 b vs _ lo rfl (.inr ⟨hv,g,a1.lA.mR hi hx⟩) hr⟩
  ·rename_i KG hi;cases ei;obtain⟨v,h1,h2⟩:=a1.lA.sh i _ hi;rw[hx] at h1;cases h1;simp only[kA] at h2;obtain⟨b,vs,rfl,h3,h4⟩:=h2;exact⟨b,rfl,⟨vs,a1.lA.sub.seq h3⟩,(k H1 G1 a1 λj z=>by cases z).2.2.2 b vs _ lo rfl (.inl h3) h4⟩
  ·cases ei
 |val v =>
  (unfold aAa at ei;dsimp only at ei)
  split at ei
  ·rename_i KG hd;cases ei
   cases v with
   |sh d =>
    simp only[RV.d] at hd;subst hd;have hx:kA K G1 (.l KG) x:=hx;simp only[kA] at hx;obtain⟨b,vs,rfl,h3,h4⟩:=hx;exact⟨b,rfl,⟨vs,a1.lA.sub.seq h3⟩,(k H1 G1 a1 λj z=>by cases z).2.2.2 b vs _ lo rfl (.inl h3) h4⟩
   |ow d =>
    simp only[RV.d] at hd;subst hd;obtain⟨b,rfl,g,⟨vs,hv,hr⟩,n,m⟩:=hx;exact⟨b,rfl,⟨vs,CB.of hv⟩,(k H1 G1 a1 λj z=>by cases z).2.2.2 b vs _ lo rfl (.inr ⟨hv,g,n⟩) hr⟩
   |od d=>exact hx.elim
  ·cases ei
def B3(h:TX e=true)(env:IK):∀x,OJ e env x=pure x:=λx=>by
 cases e<;>first | rfl | cases h
def U8(xo:OA X K P C Z)(bC:UI X Z){tg:sA}{one:Bool}{is:List Nat}(h:qH Z tg=some (one,is)):PG X tg (gB K one is):=by
 cases tg<;>simp only[qH,reduceCtorEq] at h
 ·rename_i x pos
  cases q:Z.sF x with
  |none=>rw[q] at h;cases h
  |some i=>rw[q] at h;cases h;exact lPa (d8 xo bC q)
 ·rename_i es k0 pos
  cases q:zK Z es with
  |none=>rw[q] at h;cases h
  |some cg =>
   rw[q] at h;cases h;obtain⟨h1,h2,h3,h4⟩:=S8 xo bC q;exact pj xo h1 h2 h3
end
section
variable{K:fA}{Y Y':St}{H G H' G':Hp}
def sT(h:(as++wC n Sl.un)[i]?=some s):(as[i]?=some s)\/(as.length<=i/\s=.un):=by
 by_cases hl:i<as.length
 ·rw[zN hl] at h;exact .inl h
 ·rw[fU (by lia),o9] at h;split at h
  ·cases h;exact .inr ⟨by lia,rfl⟩
  ·cases h
def AY(h:i<vs.length):(L2.start N vs)[i]?=(vs.map some)[i]?:=by
 unfold L2.start;rw[zN (by rw[JA];exact h)]
def CA.pad(r:CA K as (vs.map some) H G)(hn:N.length=as.length+n):CA K (as++wC n .un) (L2.start N vs) H G/\∀a,yA (as++wC n .un) (L2.start N vs) a->yA as (vs.map some) a:=by
 have hl:as.length=vs.length:=by have:=r.len;rwa[JA] at this
 have st:∀i:Nat,i<as.length->(L2.start N vs)[i]?=(vs.map some)[i]?:=λi h=>AY (by lia)
 have lt:∀{i:Nat} {s:Sl},as[i]?=some s->i<as.length:=λh=>(MD.mp h).1
 refine⟨⟨by unfold L2.start;simp;lia,r.sub,λi d h=>?_,λi d p l h=>?_,λi j d p l d' p' l' a h1 h2 h3 h4=>?_⟩,λa ⟨i,d,p,l,h1,h2⟩=>?_⟩
 ·rcases sT h with h | ⟨_,h⟩
  ·rw[st i (lt h)];exact r.sh i d h
  ·cases h
 ·rcases sT h with h | ⟨_,h⟩
  ·rw[st i (lt h)];exact r.ow i d p l h
  ·cases h
 ·rcases sT h1 with h1 | ⟨_,h1⟩
  ·rcases sT h2 with h2 | ⟨_,h2⟩
   ·rw[st i (lt h1)] at h3;rw[st j (lt h2)] at h4;exact r.inj _ _ _ _ _ _ _ _ _ h1 h2 h3 h4
   ·cases h2
  ·cases h1
 ·rcases sT h1 with h1 | ⟨_,h1⟩
  ·rw[st i (lt h1)] at h2;exact⟨i,d,p,l,h1,h2⟩
  ·cases h1
theorem WR:∀{as:List Sl} {U:Env} (i:Nat),as.length<=U.length->(back as U)[i]?=(as[i]?).bind λa=>match a with | .ow _ _ _=>U[i]? | a=>some a
 |[],U,i,_=>by cases U<;>simp[back]
 |a::as,[],i,h=>by simp at h
 |a::as,b::U,i,h=>by
  have ih:=λj=>WR (U:=U) j (by simpa using h)
  cases i with
  |zero=>cases a<;>simp[back]
  |succ i=>cases a<;>simp[back,ih i]
def pV(r:CA K as (vs.map some) H G)(hp:as.all uK=true)(hn:N.length=as.length+n)
  (a:MB K (as++wC n .un) (L2.start N vs) H G U' Y' H' G'):DA K as (vs.map some) H G (back as U') H' G'/\∀c,yA (back as U') (vs.map some) c->yA U' Y' c:=by
 have hl:as.length=vs.length:=by have:=r.len;rwa[JA] at this
 have lt:∀{i:Nat} {s:Sl},as[i]?=some s->i<as.length:=λh=>(MD.mp h).1
 have st:∀i:Nat,i<as.length->(L2.start N vs)[i]?=(vs.map some)[i]?:=λi h=>AY (by lia)
 have GB:as.length<=U'.length:=by rw[a.len,lE];lia
 have Jt:∀{i:Nat} {s:Sl},as[i]?=some s->(as++wC n .un)[i]?=some s:=λh=>by rw[zN (lt h)];exact h
 have pin:∀(i:Nat) d p l,as[i]?=some (.ow d p l)->p=true/\Y'[i]?=(vs.map some)[i]?/\∃d',U'[i]?=some (.ow d' true l):=λi d p l h=>by(have h1:=HF.mp hp _ (pN h);simp only[uK] at h1;subst h1;obtain⟨h2,d',h3⟩:=a.pin i d l (Jt h);exact⟨rfl,h2.trans (st i (lt h)),d',h3⟩)
 have KD:∀{i:Nat} {s:Sl},(back as U')[i]?=some s->(∃d d' l,as[i]?=some (.ow d true l)/\s=.ow d' true l/\U'[i]?=some s/\Y'[i]?=(vs.map some)[i]?)\/(as[i]?=some s/\∀d p l,s≠.ow d p l):=λ{i s} h=>by
  rw[WR i GB] at h
  cases e:as[i]? with
  |none=>rw[e] at h;cases h
  |some b =>
   rw[e] at h
   cases b with
   |ow d p l =>
    obtain⟨rfl,h1,d',h2⟩:=pin i d p l e;simp only[GF] at h;rw[h2] at h;cases h;exact .inl ⟨d,d',l,rfl,rfl,h2,h1⟩
   |un=>cases h;exact .inr ⟨rfl,λd p l z=>nomatch z⟩
   |mv=>cases h;exact .inr ⟨rfl,λd p l z=>nomatch z⟩
   |sh d=>cases h;exact .inr ⟨rfl,λd p l z=>nomatch z⟩
 have yu:(back as U').length=as.length:=by
  apply Nat.le_antisymm
  ·refine W9 λz=>?_
   have:=WR (U:=U') as.length GB
   rw[kC z,XO (HB _)] at this;cases this
  ·refine W9 λz=>?_
   have h1:=WR (U:=U') (back as U').length GB;rw[XO (HB _),kC z] at h1
   cases e:as[(back as U').length] with
   |ow d p l =>
    have e':as[(back as U').length]?=some (.ow d p l):=by rw[kC z,e]
    obtain⟨_,_,d',h2⟩:=pin _ d p l e';rw[e] at h1;simp only[GF] at h1;rw[h2] at h1;cases h1
   |un=>rw[e] at h1;cases h1
   |mv=>rw[e] at h1;cases h1
   |sh d=>rw[e] at h1;cases h1
 refine⟨⟨⟨by rw[yu];exact r.len,a.lA.sub,λi d h=>?_,λi d p l h=>?_,λi j d p l d' p' l' c h1 h2 h3 h4=>?_⟩,a.ext.weaken λc z=>(r.pad hn).2 c z,λi=>?_⟩,λc ⟨i,d,p,l,h1,h2⟩=>?_⟩
 ·rcases KD h with ⟨_,_,_,_,z,_,_⟩ | ⟨z,_⟩
  ·cases z
  ·obtain⟨v,h1,h2⟩:=r.sh i d z;exact⟨v,h1,kA.mono a.ext.gg d h2⟩
 ·rcases KD h with ⟨d0,d',l',h1,h2,h3,h4⟩ | ⟨_,z⟩
  ·rw[<- h4];exact a.lA.ow i d p l h3
  ·exact absurd rfl (z d p l)
 ·rcases KD h1 with ⟨_,_,_,_,_,z3,z4⟩ | ⟨_,z⟩
  ·rcases KD h2 with ⟨_,_,_,_,_,w3,w4⟩ | ⟨_,w⟩
   ·rw[<- z4] at h3;rw[<- w4] at h4;exact a.lA.inj _ _ _ _ _ _ _ _ _ z3 w3 h3 h4
   ·exact absurd rfl (w _ _ _)
  ·exact absurd rfl (z _ _ _)
 ·rw[WR i GB]
  cases e:as[i]? with
  |none=>trivial
  |some b =>
   cases b with
   |ow d p l =>
    obtain⟨rfl,_,d',h2⟩:=pin i d p l e;simp only[GF];rw[h2];exact⟨rfl,rfl⟩
   |un=>trivial
   |mv=>trivial
   |sh d=>trivial
 ·rcases KD h1 with ⟨_,_,_,_,_,z3,z4⟩ | ⟨_,z⟩
  ·rw[<- z4] at h2;exact⟨i,d,p,l,z3,h2⟩
  ·exact absurd rfl (z _ _ _)
end
end CI
namespace L2
open PySem PySem.Spec PyProof.Rows
theorem aAp[BEq O][LawfulBEq O]:∀{l:List (O×N)} {x:O} {k:N},l.lookup x=some k->(x,k)∈l
 |[],x,k,h=>by simp at h
 | (y,k')::r,x,k,h=>by
  rw[PJ] at h;split at h
  ·rename_i e;have e:=jB e;subst e;cases h;exact kG
  ·exact jG _ (aAp h)
def Vv(h:∀p∈scope.names,p.2=.free->∃c,env.cells.lookup p.1=some c) :
  ∃cl,closureFor scope env=pure cl/\(∀x c,cl.lookup x=some c->env.cells.lookup x=some c)/\∀p∈scope.names,p.2=.free->∃c,cl.lookup p.1=some c:=by
 have key:∀(names:List (aA×JJ)) (cB:List (aA×eA)),(∀p∈names,p.2=.free->∃c,env.cells.lookup p.1=some c)->(∀x c,cB.lookup x=some c->env.cells.lookup x=some c) ->
   ∃cl,(forIn names cB λ(p:aA×JJ) (cs:List (aA×eA))=>(if(p.2==NameKind.free)=true then do let a <- cellOf env p.1;pure (ForInStep.yield ((p.1,a)::cs)) else pure (ForInStep.yield cs):Sem _))=pure cl /\
    (∀x c,cl.lookup x=some c->env.cells.lookup x=some c)/\(∀p∈names,p.2=.free->∃c,cl.lookup p.1=some c)/\∀x c,cB.lookup x=some c->∃c',cl.lookup x=some c':=by
  intro names
  induction names with
  |nil=>intro cB _ h2;exact⟨cB,by simp,h2,λp hp=>(nomatch hp),λx c e=>⟨c,e⟩⟩
  |cons p r ih =>
   intro cB h1 h2;by_cases hp:p.2=.free
   ·obtain⟨c,hc⟩:=h1 p kG hp;have e:cellOf env p.1=pure c:=by unfold cellOf;rw[hc]
    obtain⟨cl,q1,q2,q3,q4⟩:=ih ((p.1,c)::cB) (λq hq=>h1 q (jG _ hq)) (λx c' z=>by
     rw[PJ] at z;split at z
     ·rename_i w;rw[jB w,hc];exact z
     ·exact h2 x c' z)
    refine⟨cl, ?_,q2,λq hq hf=>?_,λx c' z=>?_⟩
    ·rw[aq];have hb:(p.2==NameKind.free)=true:=by rw[hp];rfl
     rw[uA hb,e];simp only[pure_bind];exact q1
    ·rcases AD.mp hq with w | w
     ·subst w;exact q4 q.1 c (by rw[PJ];simp)
     ·exact q3 q w hf
    ·by_cases w:x=p.1
     ·subst w;exact q4 p.1 c (by rw[PJ];simp)
     ·refine q4 x c' ?_;rw[PJ]
      have:(x==p.1)=false:=NK.mpr w
      rw[this];exact z
   ·obtain⟨cl,q1,q2,q3,q4⟩:=ih cB (λq hq=>h1 q (jG _ hq)) h2;refine⟨cl, ?_,q2,λq hq hf=>?_,q4⟩
    ·rw[aq];have hb:¬(p.2==NameKind.free)=true:=by simpa using hp
     rw[qB hb];simp only[pure_bind];exact q1
    ·rcases AD.mp hq with w | w
     ·subst w;exact absurd hf hp
     ·exact q3 q w hf
 obtain⟨cl,q1,q2,q3,_⟩:=key scope.names [] h (λx c e=>by simp at e);refine⟨cl, ?_,q2,q3⟩;unfold closureFor
 have:(forIn scope.names ([]:List (aA×eA)) λ(x:aA×JJ) (r:List (aA×eA))=>(match x with | (name,kind)=>if(kind==NameKind.free)=true then do let a <- cellOf env name;pure (ForInStep.yield ((name,a)::r)) else pure (ForInStep.yield r):Sem _))=pure cl:=q1
 simp only[this,pure_bind,bind_pure]
 first | rfl | (rw[this];rfl) | skip
theorem U7{env:IK}:∀{names:List (aA×JJ)} {x:aA} {k':JJ},
  (names.map λ(n,k)=>if(k==NameKind.free&&env.scope.kind==.function&&env.kindOf n==some .cell) then(n,NameKind.cell) else(n,k)).lookup x=some k'->∃k,names.lookup x=some k/\(k'=k\/(k=.free/\k'=.cell))
 |[],x,k',h=>by simp at h
 | (n,k)::r,x,k',h=>by
  have ih:=@U7 env r x k';have h':sP x ((if(k==NameKind.free&&env.scope.kind==.function&&env.kindOf n==some .cell)=true then(n,NameKind.cell) else(n,k))::(r.map λ(n,k)=>if(k==NameKind.free&&env.scope.kind==.function&&env.kindOf n==some .cell) then(n,NameKind.cell) else(n,k)))=some k':=h;by_cases hc:(k==NameKind.free&&env.scope.kind==.function&&env.kindOf n==some .cell)=true
  ·rw[uA hc] at h';rw[PJ] at h' ⊢
   cases hx:x==n with
   |true=>rw[hx] at h';cases h';simp only[qA,OD] at hc;exact⟨k,rfl,.inr ⟨hc.1.1,rfl⟩⟩
   |false=>rw[hx] at h';exact ih h'
  ·rw[qB hc] at h';rw[PJ] at h' ⊢
   cases hx:x==n with
   |true=>rw[hx] at h';cases h';exact⟨k,rfl,.inl rfl⟩
   |false=>rw[hx] at h';exact ih h'
theorem ak{env:IK}:∀{names:List (aA×JJ)} {x:aA},names.lookup x=some .free ->
  (names.map λ(n,k)=>if(k==NameKind.free&&env.scope.kind==.function&&env.kindOf n==some .cell) then(n,NameKind.cell) else(n,k)).lookup x=some .cell \/
  (names.map λ(n,k)=>if(k==NameKind.free&&env.scope.kind==.function&&env.kindOf n==some .cell) then(n,NameKind.cell) else(n,k)).lookup x=some .free
 |[],x,h=>by simp at h
 | (n,k)::r,x,h=>by
  have ih:=@ak env r x;show sP x ((if(k==NameKind.free&&env.scope.kind==.function&&env.kindOf n==some .cell)=true then(n,NameKind.cell) else(n,k))::_)=_\/sP x ((if(k==NameKind.free&&env.scope.kind==.function&&env.kindOf n==some .cell)=true then(n,NameKind.cell) else(n,k))::_)=_;rw[PJ] at h;by_cases hc:(k==NameKind.free&&env.scope.kind==.function&&env.kindOf n==some .cell)=true
  ·rw[uA hc,PJ]
   cases hx:x==n with
   |true=>exact .inl rfl
   |false=>rw[hx] at h;exact ih h
  ·rw[qB hc,PJ]
   cases hx:x==n with
   |true=>rw[hx] at h;exact .inr h
   |false=>rw[hx] at h;exact ih h
theorem Zv(I:Nat->xA->Prop)
  (turn:∀n s,I n s->AA (model prog w) A (pyNext it) (λr s₁=>match r with
   |none=>R (.ok .next) s₁
   |some v=>AA (model prog w) A (letOwnedTupleGo target it v) (λ_ s₁=>AA (model prog w) A (assign target env v) (λ_ s₂ =>
     AA (model prog w) A (forIn wA true λc r=>if r=true then do let ok <- isTrue c env (eval c env);pure (ForInStep.yield ok) else pure (ForInStep.yield r)) (λok s₃ =>
      if ok=true then AA (model prog w) A (eval LA env) (λx s₄ =>
       AA (model prog w) A (call (.builtin "list.append") [cB,x]) (λ_ s₅=>∃m,m<n/\I m s₅) (notedBy (model prog w) A env λe s'=>R (.error e) s') s₄) (notedBy (model prog w) A env λe s'=>R (.error e) s') s₃
      else ∃m,m<n/\I m s₃) (notedBy (model prog w) A env λe s'=>R (.error e) s') s₂) (notedBy (model prog w) A env λe s'=>R (.error e) s') s₁) (notedBy (model prog w) A env λe s'=>R (.error e) s') s₁) (notedBy (model prog w) A env λe s'=>R (.error e) s') s)
  (n:Nat) (h:I n s):fM (model prog w) A (.compLoop (.ListComp LA [⟨target,RA,wA,0⟩] scope pos) 0 it cB env) R s:=by
 refine codeAny_loop rfl I (λn s hI=>?_) n h;show AA _ A ((compTurn (.ListComp LA [⟨target,RA,wA,0⟩] scope pos) 0 it cB env).onRaise (λx=>do noteFrame x env;theTreesLotGoes x)) _ _ s;refine wpAny_noted ?_;rw[compTurn_list];refine FA (YL (FA (AE (turn n s hI) (λr s₁ h₁=>?_) λ_ _ h'=>h')))
 cases r with
 |none=>exact LB h₁
 |some v =>
  refine FA (AE h₁ (λ_ s₁' h₁'=>?_) λ_ _ h'=>h');refine FA (AE h₁' (λ_ s₂ h₂=>FA (AE h₂ (λok s₃ h₃=>?_) λ_ _ h'=>h')) λ_ _ h'=>h')
  cases ok with
  |false=>exact LB ⟨rfl,h₃⟩
  |true =>
   exact FA (FA (AE h₃ (λx s₄ h₄=>FA (AE h₄ (λ_ s₅ h₅=>LB (LB ⟨rfl,h₅⟩)) λ_ _ h'=>h')) λ_ _ h'=>h'))
noncomputable def uV(X:Cx)(scope:EF)(cl:List (aA×eA))(C:eA)(N':List aA)(s₃:xA)(H₃:Hp)(fp:List eA)(xe:cA->xA->Prop):Cx :=
 { X with N:=N',s₀:=s₃,H₀:=H₃,env:=compEnvC scope cl C X.env,outer:=X.stack,stack:=X.stack,ex:=fp,fn:=λ_=>false,pn:=[],xe:=xe }
def pG(X:Cx)(scope:EF)(N':List aA)(X':Cx):Prop:=∃cl C s₃ H₃ fp xe,X'=uV X scope cl C N' s₃ H₃ fp xe
section
variable{s:xA}
def rVa{i:Nat}(h:(start N vs)[i]?=some (some v)):vs[i]?=some v:=by
 unfold start at h;by_cases hl:i<vs.length
 ·rw[zN (by rw[JA];exact hl),PL,kC hl] at h;rw[kC hl];simpa using h
 ·rw[fU (by rw[JA];lia),o9] at h;split at h
  ·cases h
  ·cases h
def dA.block(I:dA X bA Y H s)
  (iJ:scope.kind=.function) (eJ:∀y∈scope.names,y.2≠.cell) (sub:∀x c,cl.lookup x=some c->X.env.cells.lookup x=some c) (CW:∀p∈scope.names,p.2=.free->∃c,cl.lookup p.1=some c)
  (fJ:∀p∈scope.names,p.2=.free->X.env.kindOf p.1=some .cell\/X.env.kindOf p.1=some .free)
  (hf:∀b∈fp,yC X bA H b) (S_:∀b∈fp,b<s.heap.objs.size) (Mf:vs.length<=N'.length)
  (himp:∀(i:Nat) x v,N'[i]?=some x->vs[i]?=some v->∃j:Nat,X.N[j]?=some x/\Y[j]?=some (some v)/\scope.names.lookup x=some .free)
  (m:aA->Option cA) (tQ:h₄.Ns s.heap.objs.size m) (hsb:GK s.heap.objs.size (s.heap.push ob) h₄) :
  dA (uV X scope cl s.heap.objs.size N' s H fp xe) [] (start N' vs) H { s with heap:=h₄,toks:=tk }:=by
 have old:∀b o,s.heap.get? b=some o->h₄.get? b=some o:=λb o e=>(hsb.2 b (zE (xC e))).trans (lD _ e)
 have freeOf:∀x,(relabel scope X.env).names.lookup x=some .cell\/(relabel scope X.env).names.lookup x=some .free->scope.names.lookup x=some .free:=λx hx=>by
  rcases hx with hx | hx
  ·obtain⟨k,h1,h2⟩:=U7 (env:=X.env) hx;rcases h2 with h2 | ⟨h2,_⟩
   ·subst h2;exact absurd rfl (eJ _ (aAp h1))
   ·subst h2;exact h1
  ·obtain⟨k,h1,h2⟩:=U7 (env:=X.env) hx;rcases h2 with h2 | ⟨_,h2⟩
   ·subst h2;exact h1
   ·cases h2
 have ok:(uV X scope cl s.heap.objs.size N' s H fp xe).Ok:=by
  refine⟨I.ok.mod,iJ,I.ok.glob,I.ok.AB,HB _,λx y c h1 h2=>I.ok.inj x y c (sub x c h1) (sub y c h2),λx hx=>?_,λx c h=>(nomatch h),I.ok.hd,I.ok.frames,.inl rfl,λb hb=>⟨zE (S_ b hb),λx c e=>(hf b hb).2.2.2.2.1 x c (sub x c e)⟩,λb o e=>I.bs b o e,uE I.ok.lI I.sz,λb o e hb=>?_,λb hb z=>?_,I.stack,I.C8⟩
  ·exact CW (x,.free) (aAp (freeOf x hx)) rfl
  ·rcases(hf b hb).2.2.2.1 with z | z
   ·exact I.ok.IL b o e z
   ·rw[(I.ok.bs b o e).1] at z;cases z
  ·rcases AD.mp (I.BY b z) with z | z
   ·exact(hf b hb).2.1 z
   ·exact(hf b hb).2.2.1 z
 refine⟨ok,rfl,I.bare,Un.kept old,⟨m,tQ,λi x v e1 e2 e3=>?_⟩,λx c e=>?_,I.HA.fresh (HB _),λx c e=>I.ZE x c (sub x c e),λp hp=>(nomatch hp),I.HA.kept old, ?_⟩
 ·obtain⟨j,h1,h2,h3⟩:=himp i x v e1 (rVa e2);have hk:=fJ (x,.free) (aAp h3) rfl;obtain⟨m0,hn0,hl⟩:=I.loc;obtain⟨u,r,lk⟩:=hl j x v h1 h2 (.inr hk);refine⟨u,r, ?_⟩;rcases lk with ⟨k,_⟩ | ⟨k,c,e,z⟩
  ·rcases hk with hk | hk
   ·rw[hk] at k;cases k
   ·rw[hk] at k;cases k
  ·obtain⟨c',RH⟩:=CW (x,.free) (aAp h3) rfl;have ec:=sub x c' RH;rw[e] at ec;cases ec;obtain⟨o,ho,hd⟩:=z;exact .inr ⟨ak (env:=X.env) h3,c,RH,o,old c o ho,hd⟩
 ·obtain⟨v,o,ho,hd⟩:=I.cell x c (sub x c e);exact⟨v,o,old c o ho,hd⟩
 ·show(start N' vs).length=N'.length;unfold start;simp
  lia
def UJ(X:Cx)(wA:List sA)(t:TT):Prop:=∀(bA:List (eA×wB)) (s:xA) (Y:St) (H:Hp) (Q:Bool->Hp->Prop),dA X bA Y H s->t Y H Q ->
 AA (model X.prog X.w) X.A (forIn wA true λc r=>if r=true then do let ok <- isTrue c X.env (eval c X.env);pure (ForInStep.yield ok) else pure (ForInStep.yield r)) (TP X bA Y Q) X.xe s
def xRa:UJ X [] (λY H Q=>Q true H):=λbA s Y H Q I h=>wpAny_tests_nil ⟨H,I,h⟩
def yRa(h:PT X c t):UJ X [c] t:=λbA s Y H Q I q=>wpAny_tests_one (h bA s Y H Q I q)
def Km(N:List aA)(scope:EF)(N':List aA)(g:TG)(tt:TT)(te:TE)(Y:St)(Q:VK)(J:It)(H1:Hp):Prop:=∃vs:List V,vs.length<=N'.length /\
 (∀(i:Nat) x v,N'[i]?=some x->vs[i]?=some v->∃j:Nat,N[j]?=some x/\Y[j]?=some (some v)/\scope.names.lookup x=some .free) /\
 ∀D,H1 D=none->∃(n:Nat) (LP:Nat->St->Hp->Prop),LP 0 (start N' vs) (vA H1 D (.l []))/\∀i Y' H',LP i Y' H' ->
  (J.stop i H'/\Q (.ref D) H')\/(i<n/\J.go i H'/\∀x H2,J.nN i H' x H2->g x Y' H2 λY2 H3=>tt Y2 H3 λb H4 =>
   if b=true then te Y2 H4 λy H5=>∃ys,H5 D=some (.l ys)/\ys.length<sizeLine/\LP (i+1) Y2 (vA H5 D (.l (ys++[y]))) else LP (i+1) Y2 H4)
noncomputable def jR(N:List aA)(scope:EF)(N':List aA)(wi:TI)(g:TG)(tt:TT)(te:TE):TE:=λY H Q=>wi Y H (Km N scope N' g tt te Y Q)
def jd(hc:X.calm=true)(hi:PI X tg RA wi)(hs:∀x,OJ RA X.env x=pure x)
  (iJ:scope.kind=.function) (eJ:∀y∈scope.names,y.2≠.cell) (yS:∀x∈scope.names,x.2=.local->scope.names.lookup x.1=some .local)
  (fJ:∀p∈scope.names,p.2=.free->X.env.kindOf p.1=some .cell\/X.env.kindOf p.1=some .free)
  (hg:∀X',pG X scope N' X'->PG X' tg g) (ht:∀X',pG X scope N' X'->UJ X' wA tt) (he:∀X',pG X scope N' X'->PE X' LA te) (I:dA X bA Y H s) (h:jR X.N scope N' wi g tt te Y H Q)
  (XA:∀(D C:eA) (H':Hp) (s':xA),dA X bA Y H' s'->Q (.ref D) H'->H' C=none->X.s₀.heap.objs.size<=C->C≠X.env.locals->(∀x c,X.env.cells.lookup x=some c->c≠C)->(∀p∈X.pn++bA,p.1≠C)->(∃m,s'.heap.Ns C m) ->
   compPost (model X.prog X.w) X.A X.xe use QF (.ref D) C (.ok .next) s') :
  AA (model X.prog X.w) X.A (comprehension (.ListComp LA [⟨tg,RA,wA,0⟩] scope pos) scope X.env ps (newList []) false (eval RA X.env) use) QF X.xe s:=by
 obtain⟨cl,H_,sub,CW⟩:=Vv (env:=X.env) λp hp hf=>I.ok.has p.1 (fJ p hp hf)
 refine wpAny_comprehension_free rfl hs H_ iJ yS (NA (hi bA s Y H _ I h) λv s1 h1=>NA h1 λU5 s2 h2=>?_);obtain⟨it,fp,tn,J,H2,e,I2,T,yY,f2,vs,Mf,himp,hD⟩:=h2;subst e
 have Ee:∀b∈fp,b<s2.heap.objs.size:=λb hb=>by(obtain⟨o,e,_⟩:=T.obj _ _ yY b hb;exact xC e)
 refine uR (wpAny_newFunctionEnv eJ (by intro y hy;simp at hy) (λh₁ hns₁ hsb₁=>?_) iJ);dsimp only at hns₁ hsb₁ ⊢;have I3:dA X bA Y (vA H2 s2.heap.objs.size (.l [])) { s2 with heap:=s2.heap.push { cls:=.type "list",dict:=none,data:=.seq ([]:List cA).toArray } }:=I2.Zh (gA:=[]) (t':=s2.toks) .nil (cM _);obtain⟨n,LP,l0,turn⟩:=hD s2.heap.objs.size I2.fresh;generalize fO:({ s2 with heap:=s2.heap.push { cls:=.type "list",dict:=none,data:=.seq ([]:List cA).toArray } }:xA)=s3 at I3;have E4:s3.heap=s2.heap.push { cls:=.type "list",dict:=none,data:=.seq ([]:List cA).toArray }:=by rw[<- fO]
 rw[<- E4] at hns₁ hsb₁ ⊢;have f3:∀b∈fp,yC X bA (vA H2 s2.heap.objs.size (.l [])) b:=λb hb=>⟨by rw[iB (zE (Ee b hb))];exact(f2 b hb).1,(f2 b hb).2⟩
 have Fe:∀b∈fp,b<s3.heap.objs.size:=λb hb=>by rw[E4,dq];exact Nat.lt_succ_of_lt (Ee b hb)
 let R:Result->xA->Prop:=compPost (model X.prog X.w) X.A X.xe use QF (.ref s2.heap.objs.size) s3.heap.objs.size
 let X':Cx:=uV X scope cl s3.heap.objs.size N' s3 (vA H2 s2.heap.objs.size (.l [])) fp (notedBy (model X.prog X.w) X.A (compEnvC scope cl s3.heap.objs.size X.env) λe s'=>R (.error e) s')
 have X3:pG X scope N' X':=⟨_,_,_,_,_,_,rfl⟩
 have I4:∀tk,dA X' [] (start N' vs) (vA H2 s2.heap.objs.size (.l [])) { s3 with heap:=h₁,toks:=tk }:=λtk=>I3.block iJ eJ sub CW fJ f3 Fe Mf himp _ hns₁ hsb₁
 have old:∀b o,s3.heap.get? b=some o->h₁.get? b=some o:=λb o e=>(hsb₁.2 b (zE (xC e))).trans (lD _ e)
 have Pk:tn 0 h₁:=T.keep _ _ _ yY λb hb o e=>old b o (by rw[E4];exact lD _ e)
 have KO:∀{H':Hp},(∀b∈fp,H' b=none)->∀b∈fp,yC X' [] H' b:=λhn b hb=>⟨hn b hb,zE (Fe b hb),λz=>by
  rcases AD.mp (I3.BY b z) with z | z
  ·exact(f2 b hb).2.1 z
  ·exact(f2 b hb).2.2.1 z,.inl hb,λx c e=>(f2 b hb).2.2.2.2.1 x c (sub x c e),λp hp=>(nomatch hp)⟩
 have loop:∀tk,fM (model X.prog X.w) X.A (.compLoop (.ListComp LA [⟨tg,RA,wA,0⟩] scope pos) 0 (.ref it) (.ref s2.heap.objs.size) (compEnvC scope cl s3.heap.objs.size X.env)) R { s3 with heap:=h₁,toks:=tk }:=by
  intro tk;refine Zv (λm s'=>∃i Y' H',m=n-i/\dA X' [] Y' H' s'/\tn i s'.heap/\(∀b∈fp,H' b=none)/\LP i Y' H') ?_ n ⟨0,_,_,by simp,I4 tk,Pk,λb hb=>(f3 b hb).1,l0⟩
  rintro m s5 ⟨i,Y5,H5,rfl,I5,ZQ,sW,w5⟩
  rcases turn i Y5 H5 w5 with ⟨stop,qn⟩ | ⟨IW,go,step⟩
  ·refine NA (T.done X' rfl rfl rfl hc i [] s5 Y5 H5 _ I5 (KO sW) ZQ stop) λr s6 hz=>?_
   obtain⟨hr,I6⟩:=hz;subst hr;obtain⟨m6,hn6,_⟩:=I6.loc;have IX:dA X bA Y H5 s6:=I3.Nc (s':=s6) (ch:=fp) I6.os I6.base I6.HA I6.bare λb hb=>⟨(f2 b hb).2.2.2.1,(f2 b hb).2.1,(f2 b hb).2.2.2.2.1,(f2 b hb).2.2.2.2.2⟩
   refine XA _ _ H5 s6 IX qn I6.free I3.sz (λz=>nP _ (kE I3.lt (Nat.le_of_eq z))) (λx c e z=>?_) (λp hp z=>?_) ⟨m6,hn6⟩
   ·obtain⟨v,o,ho,hd⟩:=I3.cell x c e;rw[z] at ho;exact nP _ (xC ho)
   ·have:=(I3.pin p hp).1
    rw[z] at this;exact nP _ (xC this)
  ·refine NA (T.item X' rfl rfl rfl hc i [] s5 Y5 H5 _ I5 (KO sW) ZQ go) λr s6 hz=>?_
   obtain⟨u,hr,h6⟩:=hz;subst hr;refine NA h6 λ_ s7 hz=>?_
   obtain⟨x,H7,I7,r7,y7,o8,Fz⟩:=hz;have Fq:=I7.pinned (KO Fz) (T.obj _ _ o8)
   have again:∀{Y8:St} {H8:Hp} {s8:xA},dA X' ([]++uT fp s7.heap) Y8 H8 s8->LP (i+1) Y8 H8->∃m,m<n-i/\∃i Y' H',m=n-i/\dA X' [] Y' H' s8/\tn i s8.heap/\(∀b∈fp,H' b=none)/\LP i Y' H':=λ{Y8 H8 s8} I8 w8=>by(refine⟨n-(i+1),by lia,i+1,Y8,H8,rfl,I8.OY,T.keep _ _ _ o8 λb hb o e=>(I8.pin (b,o) (yH _ (yH _ (GX hb e)))).1,λb hb=>?_,w8⟩;obtain⟨o,e,d⟩:=T.obj _ _ o8 b hb;exact(I8.pin (b,o) (yH _ (yH _ (GX hb e)))).2.1)
   refine NA (hg X' X3 _ s7 Y5 H7 x u _ Fq r7 (step x H7 y7)) λ_ s8 hz=>?_
   obtain⟨Y8,H8,I8,q8⟩:=hz;refine NA (ht X' X3 _ s8 Y8 H8 _ I8 q8) λb s9 hz=>?_
   obtain⟨H9,I9,q9⟩:=hz
   cases b with
   |false=>exact again I9 q9
   |true =>
    refine NA (he X' X3 _ s9 Y8 H9 _ I9 q9) λy s10 hz=>?_
    obtain⟨yv,Aq,Bq,r10,ys,hy,hz,Lj⟩:=hz;refine NA (ui (X:=X') _ s10 Y8 Aq (.ref s2.heap.objs.size) [yv] (.ref s2.heap.objs.size) [y] (λ_ H'=>LP (i+1) Y8 H') Bq rfl (.cons r10 .nil) ⟨_,ys,yv,rfl,rfl,hy,hz,Lj⟩) λ_ s11 hz=>?_
    obtain⟨_,H11,Cq,_,q11⟩:=hz;exact again Cq q11
 subst fO;exact codeAny_compStart_list (loop _) (T.self _ 0 _ _ _ Pk (loop _))
def zOa(hc:X.calm=true)(hi:PI X tg RA wi)(hs:∀x,OJ RA X.env x=pure x)
  (iJ:scope.kind=.function) (eJ:∀y∈scope.names,y.2≠.cell) (yS:∀x∈scope.names,x.2=.local->scope.names.lookup x.1=some .local)
  (fJ:∀p∈scope.names,p.2=.free->X.env.kindOf p.1=some .cell\/X.env.kindOf p.1=some .free)
  (hg:∀X',pG X scope N' X'->PG X' tg g) (ht:∀X',pG X scope N' X'->UJ X' wA tt) (he:∀X',pG X scope N' X'->PE X' LA te) :
  PE X (.ListComp LA [⟨tg,RA,wA,0⟩] scope pos) (jR X.N scope N' wi g tt te):=by
 intro bA s Y H Q I h;rw[eval_ListComp];refine jd (use:=none) (QF:=EP X bA Y Q) hc hi hs iJ eJ yS fJ hg ht he I h λD C H' s' I' q hC hz hL JD hp hm=>?_
 obtain⟨m,hm⟩:=hm;refine⟨m,hm,λh' sb=>⟨.ref D,H',I'.turned (t':=s'.toks) (λb o hb e=>(sb.2 b hb).trans e) hC hL (.inr (aP hz)) JD hp,rfl,q⟩⟩
def sQa(XW:swapsWith (.ListComp LA [⟨tg,RA,wA,0⟩] scope pos) (some (.Name y py)) m8.line X.env=pure true)
  (hN:X.N.Nodup) (hy:X.N[i]?=some y) (hx:Loc X.env.scope y) (hf:X.fn y=true\/X.env.scope.names.lookup y=some .local) (hc:X.calm=true) (hi:PI X tg RA wi) (hs:∀x,OJ RA X.env x=pure x)
  (iJ:scope.kind=.function) (eJ:∀y∈scope.names,y.2≠.cell) (yS:∀x∈scope.names,x.2=.local->scope.names.lookup x.1=some .local)
  (fJ:∀p∈scope.names,p.2=.free->X.env.kindOf p.1=some .cell\/X.env.kindOf p.1=some .free)
  (hg:∀X',pG X scope N' X'->PG X' tg g) (ht:∀X',pG X scope N' X'->UJ X' wA tt) (he:∀X',pG X scope N' X'->PE X' LA te) :
  PS X (.Assign [.Name y py] (.ListComp LA [⟨tg,RA,wA,0⟩] scope pos) m8) (HY (jR X.N scope N' wi g tt te) (XN i)):=by
 intro bA s Y H D0 I h;rw[exec_Assign_Name_used _ _ _ _ XW];refine FA (YL (FA ?_));show AA _ X.A (do let _ <- comprehension (.ListComp LA [⟨tg,RA,wA,0⟩] scope pos) scope X.env _ (newList []) false (eval RA X.env) (some (assign (.Name y py) X.env))) _ _ s;refine FA (AE (jd (use:=some (assign (.Name y py) X.env)) (QF:=λ_ s'=>SP X bA D0 .next s') hc hi hs iJ eJ yS fJ hg ht he I h λD C H' s' I' q hC hz hL JD hp hm=>?_) (λ_ s' hq=>LB (LB hq)) λ_ _ e=>e);obtain⟨m,hm⟩:=hm;refine Dp (Uk I' hN hy hx (v:=.ref D) rfl (λs2 I2 hz=>?_) hf);obtain⟨a,sb,ha⟩:=hz
 have VB:a≠C:=by
  rcases ha with rfl | ha
  ·exact gE hL
  ·exact JD _ _ ha
 refine⟨m,hm.sameBut sb (gE VB),λh' sb2=>⟨_,H',I2.turned (t':=s2.toks) (λb o hb e=>(sb2.2 b hb).trans e) hC hL (.inr (aP hz)) JD hp,q⟩⟩
end
end L2
namespace CI
open PySem PySem.Spec PyProof.Rows L2
section
variable{X:Cx}{K:fA}{P:YA}{C:Calls}{Z:CC}
theorem OA.inner(xo:OA X K P C Z)(hk:X.env.scope.kind=.function)(nd:(aAs scope++aAq scope).Nodup)(b:pG X scope (Z.inner scope).N X'):OA X' K P C (Z.inner scope):=by
 obtain⟨cl,C0,s₃,H₃,fp,xe,rfl⟩:=b;refine OA.of xo.VC rfl ?_ nd xo.calm xo.hh xo.hu xo.c xo.AB (λx f h=>?_) (λx ns h=>?_) (λm tb c f h1 h2=>?_) xo.rm xo.sub xo.GD ⟨xo.exc,λx h=>?_⟩ xo.GA (λx f h=>?_) xo.tp
 ·show(relabel scope X.env).names=(Z.inner scope).names;unfold relabel CC.inner;simp only;congr 1
  funext p
  obtain⟨n,k⟩:=p;have e:X.env.kindOf n=Z.names.lookup n:=by unfold Y9;rw[xo.nm]
  simp only[hk,e];simp
 ·obtain⟨fa,fd,ps,k,h1,h2,h3,h4,h5⟩:=(xo.fn x f h).ex;exact⟨⟨fa,fd,ps,k,h1,h2,h3,h4,h5⟩⟩
 ·obtain⟨Ca,fa,fd,ps,h1,h2,h3,h4,h5,h6⟩:=(xo.cls x ns h).ex;exact⟨⟨Ca,fa,fd,ps,h1,h2,h3,h4,h5,h6⟩⟩
 ·obtain⟨Ca,fa,fd,ps,k,z1,z2,z3,z4,z5,z6⟩:=(xo.iH m tb c f h1 h2).ex;exact⟨⟨Ca,fa,fd,ps,k,z1,z2,z3,z4,z5,z6⟩⟩
 ·obtain⟨Ca,h1,h2,h3,h4,h5⟩:=(xo.uG x h).ex;exact⟨⟨Ca,h1,h2,h3,h4,h5⟩⟩
 ·obtain⟨fa,fd,ps,k,h1,h2,h3,h4,h5⟩:=(xo.fnX x f h).ex;exact⟨⟨fa,fd,ps,k,h1,h2,h3,h4,h5⟩⟩
noncomputable def fN(K:fA)(P:YA)(C:Calls)(cs:List E):TT:=λY H Q=>∃(U:Env) (G:Hp) (b:Bool) (U':Env),CA K U Y H G/\fD P C cs U=some (.ok (.sh (.bl b)),U') /\
 ∀H' G',DA K U Y H G U' H' G'->Q b H'
def Jj:UJ X [] (fN K P C []):=λbA s Y H Q I hz=>by
 obtain⟨U,G,b,U',r,e,k⟩:=hz;rw[fD] at e;cases e;exact xRa bA s Y H Q I (k H G (DA.refl r))
def Kj(h:MA X K P C c cc):UJ X [c] (fN K P C [cc]):=λbA s Y H Q I hz=>by
 obtain⟨U,G,b,U',r,e,k⟩:=hz;refine yRa h.t bA s Y H Q I ?_;rw[fD] at e;obtain⟨v,U1,e1,e2⟩:=rB e;split at e2
 ·rw[fD] at e2;cases e2;exact⟨U,G,true,_,r,e1,k⟩
 ·cases e2;exact⟨U,G,false,_,r,e1,k⟩
 ·cases e2
theorem MB.NQ(b:MB K U Y H G U' Y' H' G')(h:H a=none)(g:G' a=none)(n:¬yA U' Y' a):MB K U Y H G U' Y' (vA H' a o) G':=by
 refine⟨b.lA.NQ g n,⟨b.ext.gg,λc u e nc=>?_,λc e=>?_,b.ext.gn⟩,b.own,b.un,b.pin,b.len⟩
 ·have:c≠a:=λz=>by subst z;rw[h] at e;cases e
  rw[iB this];exact b.ext.hh c u e nc
 ·by_cases hc:c=a
  ·subst hc;rw[fC] at e;cases e
  ·rw[iB hc] at e;exact b.ext.hx c e
theorem B1{bind:D->Env->Option Env}:∀{ds cB sG:List D} {U U':Env},QD tests LA bind ds cB U=some (.ok sG,U')->cB.length<=sG.length
 |[],cB,sG,U,U',e=>by simp only[QD,RB,ND,Out.ok.injEq] at e;rw[e.1];exact HB _
 |d::ds,cB,sG,U,U',e=>by
  simp only[QD] at e;split at e
  ·cases e
  ·obtain⟨c,U2,e1,e2⟩:=rB e;split at e2
   ·obtain⟨v,U3,e3,e4⟩:=rB e2
    have:=B1 e4
    simp at this
    lia
   ·exact B1 e2
   ·cases e2
theorem Gk:∀(imp:List Nat) (U:Env) (as:List Sl) (U1:Env),CA K U Y H G->aAj (imp.map λ_=>true) (imp.map Hd.slot) U=some (as,U1) ->
  ∃xs,vE K H G own new Y (imp.map Hd.slot) xs/\xs.length=imp.length/\(∀a,¬HG (imp.map Hd.slot) xs a)/\∀(j:Nat) v,xs[j]?=some v->∃i:Nat,imp[j]?=some i/\Y[i]?=some (some v)
 |[],U,as,U1,r,e=>⟨[],rfl,rfl,λa z=>z,λj v h=>by simp at h⟩
 |i::imp,U,as,U1,r,e=>by
  have go:∀(U2:Env) (OZ:List Sl) (U3:Env),CA K U2 Y H G->aAj (imp.map λ_=>true) (imp.map Hd.slot) U2=some (OZ,U3)->(∃v,Y[i]?=some (some v)) ->
    ∃xs,vE K H G own new Y ((i::imp).map Hd.slot) xs/\xs.length=(i::imp).length/\(∀a,¬HG ((i::imp).map Hd.slot) xs a)/\∀(j:Nat) v,xs[j]?=some v->∃i':Nat,(i::imp)[j]?=some i'/\Y[i']?=some (some v):=by
   intro U2 OZ U3 r2 e2 ⟨v,hv⟩;obtain⟨xs,h1,h2,h3,h4⟩:=Gk imp U2 OZ U3 r2 e2;refine⟨v::xs,⟨v,xs,rfl,hv,h1,λd a z=>(nomatch z)⟩,by simp[h2],λa z=>h3 a z,λj w hw=>?_⟩
   cases j with
   |zero=>simp only[FF,RB] at hw;subst hw;exact⟨i,rfl,hv⟩
   |succ j=>exact h4 j w (by simpa using hw)
  simp only[eD,aAj] at e;split at e
  ·rename_i d hi
   cases q:aAj (imp.map λ_=>true) (imp.map Hd.slot) U with
   |none=>rw[q] at e;cases e
   |some y=>exact go U y.1 y.2 r q (r.bound (by rw[hi];rfl))
  ·rename_i d p l hi
   cases q:aAj (imp.map λ_=>true) (imp.map Hd.slot) (U.set i .un) with
   |none=>rw[q] at e;cases e
   |some y=>exact go _ y.1 y.2 (r.unset i) q (r.bound (by rw[hi];rfl))
  ·cases e
def zRa(ho:∀i,o=some i->∃d p l,U1[i]?=some (.ow d p l))(e:aAk o U1 U2=some U')(h:BE (aAb o U1) U2):BE U1 U':=by
 cases o with
 |none=>simp only[aAk,RB] at e;subst e;exact h
 |some i =>
  obtain⟨d,p,l,hi⟩:=ho i rfl;simp only[aAk] at e;split at e
  ·rename_i sl hf hs;rw[hi] at hs;cases hs;cases e;intro j;by_cases hj:j=i
   ·subst hj;rw[hi,gI (MD.mp hf).1];exact MF.refl _
   ·have:=h j
    rw[jE (λz=>hj z.symm)]
    have e2:(aAb (some i) U1)[j]?=U1[j]?:=by(show(U1.set i .un)[j]?=_;rw[jE (λz=>hj z.symm)])
    rw[e2] at this;exact this
  ·cases e
theorem Wf{Z:CC}:∀{xs:List aA} {imp:List Nat},Z.oK xs=some imp->imp.length=xs.length/\∀(j:Nat) x i,xs[j]?=some x->imp[j]?=some i->Z.N[i]?=some x
 |[],imp,h=>by simp only[CC.oK,RB] at h;subst h;exact⟨rfl,λj x i z=>by simp at z⟩
 |x::xs,imp,h=>by
  simp only[CC.oK] at h
  cases q:Z.N.idxOf? x with
  |none=>rw[q] at h;cases h
  |some i =>
   rw[q] at h;simp only[GF] at h
   cases q2:Z.oK xs with
   |none=>rw[q2] at h;cases h
   |some r =>
    rw[q2] at h;simp only[WD,RB] at h;subst h;obtain⟨h1,h2⟩:=Wf q2;refine⟨by simp[h1],λj y k hy hk=>?_⟩
    cases j with
    |zero =>
     simp only[FF,RB] at hy hk;subst hy hk;exact cX q
    |succ j=>exact h2 j y k (by simpa using hy) (by simpa using hk)
structure HP(Z:CC)(scope:EF):Prop where
 kind:scope.kind=.function
 cell:∀y∈scope.names,y.2≠.cell
 names:∀x∈scope.names,x.2=.local->scope.names.lookup x.1=some .local
 free:∀x∈scope.names,x.2=.free->scope.names.lookup x.1=some .free
 out:∀p∈scope.names,p.2=.free->Z.names.lookup p.1=some .cell\/Z.names.lookup p.1=some .free
 nd:(aAs scope++aAq scope).Nodup
def xTa(h:Z.a8 scope=true):HP Z scope:=by
 unfold CC.a8 at h;simp only[qA,HF,OE,OD,bne_iff_ne,BH,ne_eq] at h;obtain⟨⟨⟨⟨h1,h2⟩,h3⟩,h4⟩,h5⟩:=h;refine⟨h1,h2,λx hx hl=>?_,λx hx hf=>?_,λx hx hf=>?_,h5⟩
 ·rcases h3 x hx with z | z
  ·exact absurd hl z
  ·exact z
 ·rcases h4 x hx with z | z
  ·exact absurd hf z
  ·exact z.1
 ·rcases h4 x hx with z | z
  ·exact absurd hf z
  ·exact z.2
def Gz(sc:HP Z scope)(h:x∈aAs scope):scope.names.lookup x=some .free:=by
 unfold aAs at h;obtain⟨p,hp,rfl⟩:=OC.mp h;obtain⟨h1,h2⟩:=iP.mp hp;exact sc.free p h1 (jB h2)
def qM(K:fA)(U0:Env)(Y0:St)(H1 G2:Hp)(ds:List D)(J:It):Prop:=∀i H' Uc Y' Gc,MB K U0 Y0 H1 G2 Uc Y' H' Gc->(i=ds.length->J.stop i H')/\(i<ds.length->J.go i H')/\∀d x H2,ds[i]?=some d->J.nN i H' x H2->∃Gd,DA K Uc Y' H' Gc Uc H2 Gd/\kA K Gd d x
def FP(K:fA)(G:Hp)(ds:List D)(R:It->Prop):Prop:=True
def cGa(ZI:fB G1 G2):FP K G1 ds (qM K U0 Y0 H1 G2 ds):=trivial
def FP.imp(h:FP K G ds R)(k:∀J,R J->R' J):FP K G ds R':=trivial
def bDa(ZI:fB G1 G2)(own:∀c,yA U0 Y0 c->yA (aAb o U1) Y c) :
  (∀a vs,Src K (aAb o U1) Y H1 G1 a vs->rA K G1 ds vs->qM K U0 Y0 H1 G2 ds (oM K a))/\(∀a vs,FC K G1 a vs->rA K G1 ds vs->qM K U0 Y0 H1 G2 ds (pM K a))/\(∀(lo:Int) (n:Nat),ds=(jC n).map (λ(j:Nat)=>D.int (lo+(j:Int)))->qM K U0 Y0 H1 G2 ds (RJ lo n))/\(∀a vs xF lo,ds=RC lo xF->Src K (aAb o U1) Y H1 G1 a vs->rA K G1 xF vs->qM K U0 Y0 H1 G2 ds (nM K a lo))/\(∀x,ds=yK x->nC x=true->qM K U0 Y0 H1 G2 ds (XU x))/\FP K G1 ds (qM K U0 Y0 H1 G2 ds):=by
 refine⟨λa vs mJ hr=>?_,λa vs ht hr=>?_,λlo n gD=>?_,λa vs xF lo gD mJ hr=>?_,λx gD HA=>?_,cGa ZI⟩
 ·intro i H' Uc Y' Gc af
  have kJ:CB K H' a vs:=by
   rcases mJ with h | ⟨h1,h2,h3⟩
   ·exact af.lA.sub.seq (af.ext.gg.seq (ZI.seq h))
   ·exact CB.of (af.ext.hh a _ h1 λz=>h3 (own a z))
  refine⟨λhi=>⟨vs,kJ,by rw[hr.len];lia⟩,λhi=>?_,λd x H2 hd hy=>?_⟩
  ·obtain⟨x',h1,h2⟩:=hr.get (kC hi);exact⟨vs,x',kJ,h1⟩
  ·obtain⟨rfl,hy⟩:=hy;obtain⟨x',h1,h2⟩:=hr.get hd
   have:=hy vs kJ
   rw[h1] at this;cases this;exact⟨_,DA.refl af.lA,kA.mono af.ext.gg d (kA.mono ZI d h2)⟩
 ·intro i H' Uc Y' Gc af;have kJ:FC K H' a vs:=pH af.lA.sub (pH af.ext.gg (pH ZI ht));refine⟨λhi=>⟨vs,kJ,by rw[hr.len];lia⟩,λhi=>?_,λd x H2 hd hy=>?_⟩
  ·obtain⟨x',h1,h2⟩:=hr.get (kC hi);exact⟨vs,x',kJ,h1⟩
  ·obtain⟨rfl,hy⟩:=hy;obtain⟨x',h1,h2⟩:=hr.get hd
   have:=hy vs kJ
   rw[h1] at this;cases this;exact⟨_,DA.refl af.lA,kA.mono af.ext.gg d (kA.mono ZI d h2)⟩
 ·intro i H' Uc Y' Gc af;have GB:ds.length=n:=by rw[gD];simp
  refine⟨λhi=>by show n<=i;lia,λhi=>by show i<n;lia,λd x H2 hd hy=>?_⟩;obtain⟨rfl,hy⟩:=hy;have hi:i<n:=by rw[<- GB];exact(MD.mp hd).1
  have vI:ds[i]?=some (.int (lo+(i:Int))):=by rw[gD];simp[hi]
  rw[vI] at hd;cases hd;subst hy;exact⟨_,DA.refl af.lA,by simp[kA]⟩
 ·intro i H' Uc Y' Gc af;subst gD
  have kJ:CB K H' a vs:=by
   rcases mJ with h | ⟨h1,h2,h3⟩
   ·exact af.lA.sub.seq (af.ext.gg.seq (ZI.seq h))
   ·exact CB.of (af.ext.hh a _ h1 λz=>h3 (own a z))
  refine⟨λhi=>⟨vs,kJ,by rw[hr.len,<- cQ (lo:=lo)];lia⟩,λhi=>?_,λd x H2 hd hy=>?_⟩
  ·obtain⟨x',h1,h2⟩:=hr.get (kC (by rw[cQ] at hi;exact hi));exact⟨vs,x',kJ,h1⟩
  ·obtain⟨p0,y0,hn,rfl,rfl,hy⟩:=hy;have hl:i<xF.length:=by rw[<- cQ];exact(MD.mp hd).1
   obtain⟨x',h1,h2⟩:=hr.get (kC hl);have hy:=hy vs kJ;rw[h1] at hy;cases hy;rw[bQ (kC hl)] at hd;cases hd;exact⟨_,(DA.refl af.lA).qJ hn,D2 (fB.free af.lA.sub hn) (kA.mono af.ext.gg _ (kA.mono ZI _ h2))⟩
 ·intro i H' Uc Y' Gc af;have GB:ds.length=x.cps.size:=by rw[gD];simp[yK]
  refine⟨λhi=>by show x.cps.size<=i;lia,λhi=>by show i<x.cps.size;lia,λd v H2 hd hy=>?_⟩;obtain⟨rfl,c,hc,rfl⟩:=hy;rw[gD] at hd;unfold yK at hd;rw[PL,x9,hc] at hd;cases hd;refine⟨_,DA.refl af.lA, ?_⟩;unfold kA;refine⟨rfl, ?_⟩;unfold nC at HA ⊢
  have:=Jp.mp HA i (qR.mp hc).1
  rw[(qR.mp hc).2] at this;simpa using this
abbrev DP(K:fA)(P:YA)(C:Calls)(k0:wF)(gA:List E)(Y:St)(H:Hp)(R:It->Hp->Prop):Prop:=∃(U:Env) (G:Hp) (hs:List Hd) (U1:Env) (ds:List D) (o:Option Nat),CA K U Y H G/\nD P C gA U=some (.ok hs,U1)/\aAa k0 hs U1=some (ds,o) /\
   ∀H1 G1,DA K U Y H G U1 H1 G1->(∀i,o=some i->∃d p l,U1[i]?=some (.ow d p l)) ->
    (∀a vs,Src K (aAb o U1) Y H1 G1 a vs->rA K G1 ds vs->R (oM K a) H1)/\(∀a vs,FC K G1 a vs->rA K G1 ds vs->R (pM K a) H1)/\(∀(lo:Int) (n:Nat),ds=(jC n).map (λ(j:Nat)=>D.int (lo+(j:Int)))->R (RJ lo n) H1)/\(∀a vs xF lo,ds=RC lo xF->Src K (aAb o U1) Y H1 G1 a vs->rA K G1 xF vs->R (nM K a lo) H1)/\(∀x,ds=yK x->nC x=true->R (XU x) H1)/\FP K G1 ds λJ=>R J H1
def aX(q:DP K P C k0 gA Y H R):SK K P C k0 gA Y H R:=by
 obtain⟨U,G,hs,U1,ds,o,r,e,ei,k⟩:=q;refine⟨U,G,hs,U1,ds,o,r,e,ei,λH1 G1 a ho=>?_⟩;obtain⟨k1,k2,k3,k4,_⟩:=k H1 G1 a ho;exact⟨k1,k2,k3,k4⟩
def kUa(Y:St)(H:Hp)(R:It->Hp->Prop)(q:DP K P C .sig [c] Y H R):Sf (tH K P C c) Y H R:=by
 obtain⟨U,G,hs,U1,ds,o,r,e,ei,k⟩:=q;simp only[nD] at e;obtain⟨h,U2,e1,e2⟩:=rB e;simp only[zA.bind,RB,ND,Out.ok.injEq] at e2;obtain⟨rfl,rfl⟩:=e2;refine⟨U,G,h,_,r,e1,λv H1 G1 a1 hv=>?_⟩
 (unfold aAa at ei;dsimp only at ei)
 cases q:h.get U2 with
 |none=>rw[q] at ei;cases ei
 |some d =>
  rw[q] at ei
  cases d with
  |str x =>
   simp only at ei;split at ei
   ·rename_i hc;cases ei;obtain⟨rfl,_⟩:=(hv.read a1.lA q).str;exact⟨x,rfl,hc.1,(k H1 G1 a1 λi z=>nomatch z).2.2.2.2.1 x rfl hc.2⟩
   ·cases ei
  |_=>cases ei
structure uq(K:fA)(P:YA)(C:Calls)(cond:List E)(LA:Env->zA RV)(is:List Nat)(U0:Env)(Y0:St)(H1 G2:Hp)(ds cB:List D)(Ui:Env)(D:eA)(i:Nat)(Y':St)(H':Hp):Prop where
 le:i<=ds.length
 ex:∃Uc Gc ac ys,MB K U0 Y0 H1 G2 Uc Y' H' Gc/\H' D=some (.l ys)/\Gc D=none/\¬yA Uc Y' D/\rA K Gc ac ys/\QD (fD P C cond) LA (WA (is.length==1) is) (ds.drop i) ac Uc=some (.ok cB,Ui)
def aw(xo:OA X K P C Z){scope:EF}{ce:E}{k0:wF}{gA cond:List E}{imp is:List Nat}{wi:TI}{LA:Env->zA RV}(GW:∀U v U',LA U=some (.ok v,U')->ev P C false ce U=some (.ok v,U'))(sc:HP Z scope)(himp:Z.oK (aAs scope)=some imp)
  (hw:∀Y H (R:It->Hp->Prop),DP K P C k0 gA Y H R->wi Y H R)
  {Y:St} {H:Hp} {Q:VK} (h:∃(U:Env) (G:Hp) (v:RV) (U':Env),CA K U Y H G/\Vd P C LA is k0 gA cond imp (aAq scope).length U=some (.ok v,U')/\∀x H' G',DA K U Y H G U' H' G'->QC K H' G' (yA U' Y) (kF H) v x->Q x H'):jR X.N scope (Z.inner scope).N wi (gB K (is.length==1) is) (fN K P C cond) (tE K P C ce) Y H Q:=by
 obtain⟨U,G,v,U',r,e,k⟩:=h;unfold Vd at e;obtain⟨X4,U1,e1,e2⟩:=rB e
 cases q:aAa k0 X4 U1 with
 |none=>rw[q] at e2;cases e2
 |some y =>
  obtain⟨ds,o⟩:=y;rw[q] at e2;obtain⟨v',U2,e3,e4⟩:=rB e2;unfold aAB at e4
  cases q3:aAk o U1 U2 with
  |none=>rw[q3] at e4;cases e4
  |some U3 =>
   rw[q3] at e4;simp only[WD,RB,ND,Out.ok.injEq] at e4;obtain⟨rfl,rfl⟩:=e4;unfold jR;refine hw Y H _ ⟨U,G,X4,U1,ds,o,r,e1,q,λH1 G1 a1 ho=>?_⟩;have R0:=(YT (o:=o) a1.lA).1
   have KW:∃as U4,aAj (imp.map λ_=>true) (imp.map Hd.slot) (aAb o U1)=some (as,U4):=by
    unfold TF at e3
    cases q4:aAj (imp.map λ_=>true) (imp.map Hd.slot) (aAb o U1) with
    |none=>rw[q4] at e3;cases e3
    |some y=>exact⟨y.1,y.2,rfl⟩
   obtain⟨vM,U4,KW⟩:=KW;obtain⟨xs,vQ,nJ,GS,wQ⟩:=Gk (own:=yA (aAb o U1) Y) (new:=kF H1) imp _ _ _ R0 KW;obtain⟨as,G2,QA,ra,NM,ef,⟨ZI,Wb⟩,kk⟩:=E1 (DA.refl R0) vQ e3;unfold RN at ef;split at ef
   ·rename_i hp;obtain⟨cB,Ui,e5,e6⟩:=rB ef;split at e6
    ·rename_i hz;simp only[RB,ND,Out.ok.injEq] at e6;obtain⟨rfl,rfl⟩:=e6;obtain⟨il,ig⟩:=Wf himp
     have AW:(Z.inner scope).N.length=as.length+(aAq scope).length:=by(show(aAs scope++aAq scope).length=_;rw[lE,NM,JA,il])
     obtain⟨rp,op⟩:=ra.pad AW;have hsz:=dN hz
     -- JE iZa turns
     have turns:∀(J:It),qM K (as++wC (aAq scope).length .un) (start (Z.inner scope).N xs) H1 G2 ds J->Km X.N scope (Z.inner scope).N (gB K (is.length==1) is) (fN K P C cond) (tE K P C ce) Y Q J H1:=by
      intro J hJ;refine Exists.intro xs ⟨by rw[AW,nJ,NM,JA];lia,λi x v hN hv=>?_,λD hD=>?_⟩
      ·obtain⟨j,hj,hY⟩:=wQ i v hv
       have wD:i<(aAs scope).length:=by(rw[<- il];exact(MD.mp hj).1)
       have df:(aAs scope)[i]?=some x:=by
        have:(aAs scope++aAq scope)[i]?=some x:=hN
        rwa[zN wD] at this
       exact⟨j,by rw[xo.VH];exact ig i x j df hj,hY,Gz sc (pN df)⟩
      ·have XA:∀Y' H' Gc ys,MB K (as++wC (aAq scope).length .un) (start (Z.inner scope).N xs) H1 G2 Ui Y' H' Gc->H' D=some (.l ys)->Gc D=none->¬yA Ui Y' D->rA K Gc cB ys->Q (.ref D) H':=by
        intro Y' H' Gc ys a cJ YN sQ hr;obtain⟨b1,b2⟩:=pV ra hp AW a;obtain⟨c1,c2⟩:=kk (.ref D) H' Gc b1 ⟨D,rfl,YN,⟨ys,cJ,hr⟩,λz=>sQ (b2 D z),hD⟩;obtain⟨d1,d2⟩:=PQ a1.lA ho q3 (DA.s R0 c1);have a2:DA K U1 Y H1 G1 U3 H' Gc:=⟨d1.lA,d1.ext,zRa ho q3 c1.aK⟩
        obtain⟨D',e',g',o',n',f'⟩:=c2;cases e';refine k _ _ _ (a1.trans a2) ⟨D,rfl,g',o',λz=>?_,a1.fresh hD⟩;rcases d2 D z with z | ⟨z,_⟩
        ·exact n' z
        ·exact(a1.lA.owned z).1 hD
       clear kk k q3 R0 ho a1 hp AW ra NM ZI Wb vQ nJ GS wQ KW e3 q e1 r himp il ig op;refine⟨ds.length,uq K P C cond LA is (as++wC (aAq scope).length .un) (start (Z.inner scope).N xs) H1 G2 ds cB Ui D, ?_, ?_⟩
       ·have g2:G2 D=none:=by
         cases z:G2 D with
         |none=>rfl
         |some u=>have:=rp.sub D u z;rw[hD] at this;cases this
        exact⟨cM _,_,G2,[],[],DA.s rp ((DA.refl rp).EL hD),fC,g2,rp.B7 hD,rA.nil,e5⟩
       ·rintro i Y' H' ⟨hil,Uc,Gc,ac,ys,a,cJ,YN,sQ,hr,ec⟩
        obtain⟨j1,j2,j3⟩:=hJ i H' Uc Y' Gc a;by_cases wD:i<ds.length
        ·refine .inr ⟨wD,j2 wD,λx H2 hy=>?_⟩;have hd:ds[i]?=some ds[i]:=kC wD;obtain⟨Gd,nV,W4⟩:=j3 _ x H2 hd hy;have YN:=nV.ext.gn D (by rw[cJ];simp) YN sQ;have cJ:=nV.ext.hh D _ cJ sQ;have hr:=rA.mono nV.ext.gg _ hr;have a:=a.trans (DA.s a.lA nV);rw[rR wD] at ec;simp only[QD] at ec;split at ec
         ·cases ec
         ·rename_i Ub hb;obtain⟨c,Ut,et,ec⟩:=rB ec;refine⟨Uc,Gd,ds[i],Ub,a.lA,W4,hb,λY1 ab=>?_⟩;have rG:=a.trans ab
          have nb:¬yA Ub Y1 D:=λz=>by
           rcases ab.own D z with z | z
           ·exact sQ z
           ·rw[cJ] at z;cases z
          split at ec
          ·obtain⟨w,Ue,ee,ec⟩:=rB ec;refine⟨Ub,Gd,true,Ut,ab.lA,et,λH3 G3 FH=>?_⟩;have h3:H3 D=some (.l ys):=FH.ext.hh D _ cJ nb;have g3:G3 D=none:=FH.ext.gn D (by rw[cJ];simp) YN nb;have n3:¬yA Ut Y1 D:=λz=>nb (FH.own D z)
           dsimp only;rw[uA rfl];refine⟨Ut,G3,w,Ue,FH.lA,GW _ _ _ ee,λy H4 G4 a4 ry=>?_⟩;obtain⟨G5,a5,ry5⟩:=a4.share ry;have h4:H4 D=some (.l ys):=a5.ext.hh D _ h3 n3;have g5:G5 D=none:=a5.ext.gn D (by rw[h3];simp) g3 n3;have n5:¬yA Ue Y1 D:=λz=>n3 (a5.own D z)
           have GB:=B1 ec;have hyl:=hr.len;rw[lE] at GB;simp only[IC,rN] at GB;have bt:=(rG.trans (DA.s ab.lA FH)).trans (DA.s FH.lA a5);refine⟨ys,h4,by lia,wD,Ue,G5,ac++[w.d],ys++[y],bt.NQ hD g5 n5,fC,g5,n5, ?_,ec⟩;exact(rA.mono a5.ext.gg _ (rA.mono FH.ext.gg _ hr)).app (rA.cons ry5 rA.nil)
          ·refine⟨Ub,Gd,false,Ut,ab.lA,et,λH3 G3 FH=>?_⟩;have h3:H3 D=some (.l ys):=FH.ext.hh D _ cJ nb;have g3:G3 D=none:=FH.ext.gn D (by rw[cJ];simp) YN nb;have n3:¬yA Ut Y1 D:=λz=>nb (FH.own D z)
           dsimp only;rw[qB (by decide)];exact⟨wD,Ut,G3,ac,ys,rG.trans (DA.s ab.lA FH),h3,g3,n3,rA.mono FH.ext.gg _ hr,ec⟩
          ·cases ec
        ·have kf:i=ds.length:=by lia
         refine .inl ⟨j1 kf, ?_⟩;subst kf;rw[X9] at ec;simp only[QD,RB,ND,Out.ok.injEq] at ec;obtain⟨rfl,rfl⟩:=ec;exact XA _ _ _ _ a cJ YN sQ hr
     have jJa:∀c,yA as (xs.map some) c->yA (aAb o U1) Y c:=λc z=>by
      rcases Wb c z with z | z
      ·exact z
      ·exact absurd z (GS c)
     obtain⟨w1,w2,w3,w4,w5,w6⟩:=bDa (K:=K) (U1:=U1) (Y:=Y) (H1:=H1) (ds:=ds) (o:=o) ZI λc z=>jJa c (op c z)
     exact⟨λa vs h1 h2=>turns _ (w1 a vs h1 h2),λa vs h1 h2=>turns _ (w2 a vs h1 h2),λlo n h1=>turns _ (w3 lo n h1),λa vs xF lo h1 h2 h3=>turns _ (w4 a vs xF lo h1 h2 h3),λx h1 h2=>turns _ (w5 x h1 h2),w6.imp turns⟩
    ·cases e6
   ·cases ef
def kd(xo:OA X K P C Z){gA cond:List E}(sc:HP Z scope)(himp:Z.oK (aAs scope)=some imp)
  (hw:∀Y H (R:It->Hp->Prop),DP K P C k0 gA Y H R->wi Y H R) (h:tE K P C (.comp ce is k0 gA cond imp (aAq scope).length) Y H Q):jR X.N scope (Z.inner scope).N wi (gB K (is.length==1) is) (fN K P C cond) (tE K P C ce) Y H Q:=by
 obtain⟨U,G,v,U',r,e,k⟩:=h;exact aw xo (LA:=ev P C false ce) (λ_ _ _ z=>z) sc himp hw ⟨U,G,v,U',r,e,λx H' G' a hv=>k x H' G' a hv⟩
noncomputable def O8(K:fA)(P:YA)(C:Calls)(c:E):TE:=λY H Q=>False
def GP(X:Cx)(K:fA)(P:YA)(C:Calls)(e:sA)(c:E):Prop:=∀(x:aA) (i:Nat) (p pos:XB),X.N.Nodup->X.N[i]?=some x->Loc X.env.scope x->(X.fn x=true\/X.env.scope.names.lookup x=some .local) ->
 PS X (.Assign [.Name x p] e pos) (HY (tE K P C c) (XN i))
def KQ:GP X K P C e .nA:=λx i p pos _ _ _ _ bA s Y H D I h=>by
 obtain⟨U,G,v,U',r,e,k⟩:=h;cases e
def eLa(xo:OA X K P C Z){gA cond:List E}(sc:HP Z scope)(himp:Z.oK (aAs scope)=some imp)(htg:qH (Z.inner scope) tg=some (is.length==1,is))
  (hi:PI X tg RA wi) (hs:∀x,OJ RA X.env x=pure x)
  (hw:∀Y H (R:It->Hp->Prop),DP K P C k0 gA Y H R->wi Y H R)
  (he:∀X',OA X' K P C (Z.inner scope)->MA X' K P C LA ce) (ht:∀X',OA X' K P C (Z.inner scope)->UJ X' wA (fN K P C cond)) :
  MA X K P C (.ListComp LA [⟨tg,RA,wA,0⟩] scope pos) (.comp ce is k0 gA cond imp (aAq scope).length)/\GP X K P C (.ListComp LA [⟨tg,RA,wA,0⟩] scope pos) (.comp ce is k0 gA cond imp (aAq scope).length)/\PE X (.ListComp LA [⟨tg,RA,wA,0⟩] scope pos) (O8 K P C (.comp ce is k0 gA cond imp (aAq scope).length)):=by
 have all:X.env.scope.kind=.function->(∀X',pG X scope (Z.inner scope).N X'->PG X' tg (gB K (is.length==1) is))/\(∀X',pG X scope (Z.inner scope).N X'->UJ X' wA (fN K P C cond))/\∀X',pG X scope (Z.inner scope).N X'->PE X' LA (tE K P C ce):=by
  intro hk;have xi:∀X',pG X scope (Z.inner scope).N X'->OA X' K P C (Z.inner scope):=λX' b=>xo.inner hk sc.nd b
  have bC:∀X',pG X scope (Z.inner scope).N X'->∀x,(Z.inner scope).iO x=true->X'.fn x=true\/X'.env.scope.names.lookup x=some .local:=λX' b x hx=>by
   rw[(xi X' b).nm];unfold CC.iO at hx;rw[BH,qA] at hx;rcases hx with hx | hx
   ·exact .inr (jB hx)
   ·exact absurd hx.1 (by simp[CC.inner])
  exact⟨λX' b=>U8 (xi X' b) (bC X' b) htg,λX' b=>ht X' (xi X' b),λX' b=>(he X' (xi X' b)).v⟩
 have fJ:∀p∈scope.names,p.2=.free->X.env.kindOf p.1=some .cell\/X.env.kindOf p.1=some .free:=λp hp hf=>by unfold Y9;rw[xo.nm];exact sc.out p hp hf
 have Xe:PE X (.ListComp LA [⟨tg,RA,wA,0⟩] scope pos) (tE K P C (.comp ce is k0 gA cond imp (aAq scope).length)):=λbA s Y H Q I h=>by(obtain⟨h1,h2,h3⟩:=all I.ok.kind;exact zOa (N':=(Z.inner scope).N) xo.calm hi hs sc.kind sc.cell sc.names fJ h1 h2 h3 bA s Y H Q I (kd xo sc himp hw h))
 refine⟨FE xo Xe,λx i p m8 hN hx hl hf=>?_,λbA s Y H Q I h=>?_⟩
 case refine_2 =>
  obtain⟨h1,h2,h3⟩:=all I.ok.kind
  cases cond with
  |nil=>exact h.elim
  |cons _ _=>exact h.elim
 obtain⟨b,hb⟩:∃b:Bool,swapsWith (.ListComp LA [⟨tg,RA,wA,0⟩] scope pos) (some (.Name x p)) m8.line X.env=pure b:=⟨_,rfl⟩
 cases b with
 |false=>exact OQ Xe (qj hN hx hl hf) hb
 |true =>
  intro bA s Y H D I h;obtain⟨h1,h2,h3⟩:=all I.ok.kind;exact sQa hb hN hx hl hf xo.calm hi hs sc.kind sc.cell sc.names fJ h1 h2 h3 bA s Y H D I (kd xo sc himp hw h)
end
structure RU(X:Cx)(K:fA)(P:YA)(C:Calls)(e:sA)(cs:List E):Prop where
 h:∀(f:aA) (p:XB) (args:List sA) (kw:List _) (pos:XB),e=.Call (.Name f p) args kw pos->args.all aAd=true->PA X args (MI K P C cs)/\cs.length=args.length
theorem V0:∀(es:List sA),(xB Z es).length=es.length
 |[]=>by rw[xB];rfl
 |e::es=>by rw[xB,IC,IC,V0 es]
section
variable{K:fA}
def T8(h:qH Z tg=some (one,is))(n:one=false):∃elts k p,tg=.Tuple elts k p:=by
 cases tg<;>simp only[qH,reduceCtorEq] at h
 ·rename_i x pos
  cases q:Z.sF x with
  |none=>rw[q] at h;cases h
  |some i=>rw[q] at h;cases h;cases n
 ·exact⟨_,_,_,rfl⟩
def aAT(xo:OA X K P C Z){JG cond:List E}(qS:MA X K P C RA ci)(EW:RU X K P C RA JG){Φ:E->Prop}(nA:Φ .nA)
  (good:∀{k0:wF} {gA:List E} {imp is:List Nat} {wi:TI},HP Z scope->Z.oK (aAs scope)=some imp->qH (Z.inner scope) tg=some (is.length==1,is)->PI X tg RA wi->(∀x,OJ RA X.env x=pure x) ->
   (∀Y H (R:It->Hp->Prop),DP K P C k0 gA Y H R->wi Y H R)->Φ (.comp ce is k0 gA cond imp (aAq scope).length)) :
  Φ (JH Z scope tg RA ci JG cond ce):=by
 unfold JH;split
 ·rename_i hsc;have sc:=xTa hsc;split
  ·rename_i imp one is k0 T5 q1 q2 q3;split
   ·rename_i Ef;split
    ·rename_i nK;have nK:=jB nK;subst nK;exact good sc q1 q2 (pPa qS.h) (B3 (by cases RA<;>first | rfl | cases Ef) _) (λY H R q=>kUa Y H R q)
    ·exact nA
   split
   ·rename_i hk;exact nomatch hk
   split
   ·rename_i nK;rw[qA,qA] at nK;obtain⟨⟨nK,mQ⟩,tQ⟩:=nK;have nK:=jB nK;subst nK
    have gen:∀e:sA,RA=e->TX e=true->some (wF.of,[e])=some (k0,T5)->Φ (.comp ce is k0 (ug k0 ci JG) cond imp (aAq scope).length):=λe N_ hn hq=>by(subst N_;cases hq;exact good sc q1 q2 (PI.or (uj qS.h) (xj qS.h)) (B3 hn _) (λY H R q=>Ni xo.VC Y H R (aX q)))
    unfold pK at q3;split at q3
    ·rename_i x hx;obtain⟨⟨f,p⟩,args,pos'⟩:=x;obtain rfl:=mX hx;dsimp only at q3;split at q3
     ·rename_i hf;have hf:=jB hf;subst hf;split at q3
      ·rename_i sL;split at q3
       ·rename_i hc;cases q3;rw[qA] at hc;obtain⟨h1,h2,h3,h4⟩:=CC.wG xo sL (λz=>nomatch z);have hm:=xo.AB _ h2;obtain⟨xE,JD⟩:=EW.h _ _ _ _ _ rfl hc.1;obtain _ | ⟨a,_ | ⟨b,_ | ⟨_,_⟩⟩⟩:=T5
        ·simp at hc
        ·obtain _ | ⟨c1,_ | ⟨_,_⟩⟩:=JG
         ·simp at JD
         ·have ns:=hc.1;rw[TB,qA] at ns;exact good sc q1 q2 (vj h1 hm xE (by rw[MC ns.1];rfl)) (λ_=>rfl) (λY H R q=>ek Y H R (aX q))
         ·simp at JD
        ·obtain _ | ⟨c1,_ | ⟨c2,_ | ⟨_,_⟩⟩⟩:=JG
         ·simp at JD
         ·simp at JD
         ·have ns:=hc.1;rw[TB,qA,TB,qA] at ns;exact good sc q1 q2 (wj h1 hm xE (by rw[MC ns.1,MC ns.2.1];rfl) (by rw[MC ns.2.1];rfl)) (λ_=>rfl) (λY H R q=>fk Y H R (aX q))
         ·simp at JD
        ·simp at hc
       ·cases q3
      ·cases q3
     ·split at q3
      ·rename_i hf;have hf:=jB hf;subst hf;split at q3
       ·rename_i sL;split at q3
        ·rename_i hc;cases q3;rw[qA] at hc;obtain⟨h1,h2,h3,h4⟩:=CC.wG xo sL (λz=>nomatch z);have hm:=xo.AB _ h2;obtain⟨xE,JD⟩:=EW.h _ _ _ _ _ rfl hc.1;obtain _ | ⟨a,_ | ⟨_,_⟩⟩:=T5
         ·simp at hc
         ·obtain _ | ⟨c1,_ | ⟨_,_⟩⟩:=JG
          ·simp at JD
          ·have ns:=hc.1;rw[TB,qA] at ns;obtain⟨elts,kk,tp,rfl⟩:=T8 q2 (by simpa[EJ] using mQ);exact good sc q1 q2 (tj h1 hm xE (by rw[MC ns.1];rfl)) (λ_=>rfl) (λY H R q=>C2 xo.VC Y H R (aX q))
          ·simp at JD
         ·simp at hc
        ·cases q3
       ·cases q3
      ·exact gen _ rfl rfl q3
    ·split at q3
     ·rename_i hx;split at q3
      ·split at q3
       ·cases q3;exact absurd tQ (by decide)
       ·cases q3
      ·cases q3
     ·split at q3
      ·exact gen _ rfl ‹_› q3
      ·cases q3
   ·exact nA
  ·exact nA
 ·exact nA
def yV(xo:OA X K P C Z){JG cond:List E}(qS:MA X K P C RA ci)(EW:RU X K P C RA JG)
  (he:∀X',OA X' K P C (Z.inner scope)->MA X' K P C LA ce) (ht:∀X',OA X' K P C (Z.inner scope)->UJ X' wA (fN K P C cond)) :
  MA X K P C (.ListComp LA [⟨tg,RA,wA,0⟩] scope pos) (JH Z scope tg RA ci JG cond ce)/\GP X K P C (.ListComp LA [⟨tg,RA,wA,0⟩] scope pos) (JH Z scope tg RA ci JG cond ce)/\PE X (.ListComp LA [⟨tg,RA,wA,0⟩] scope pos) (O8 K P C (JH Z scope tg RA ci JG cond ce)) :=
 aAT xo qS EW (Φ:=λc=>MA X K P C (.ListComp LA [⟨tg,RA,wA,0⟩] scope pos) c/\GP X K P C (.ListComp LA [⟨tg,RA,wA,0⟩] scope pos) c/\PE X (.ListComp LA [⟨tg,RA,wA,0⟩] scope pos) (O8 K P C c)) ⟨nB,KQ,λbA s Y H Q I h=>h.elim⟩ λsc q1 q2 hi hs hw=>eLa xo sc q1 q2 hi hs hw he ht
end
def Jr(i:sA):Prop:=∃k p1 p2 p3,i=.Slice none none (some (.UnaryOp .USub (.Constant (.int 1) k p1) p2)) p3
def wCa(h:L5 i=true):Jr i:=by
 cases i with
 |Slice lo hi st q =>
  obtain _ | _:=lo
  ·obtain _ | _:=hi
   ·obtain _ | st:=st
    ·exact aC h
    ·cases st with
     |UnaryOp op a p =>
      cases op with
      |USub =>
       cases a with
       |Constant c k p1 =>
        cases c with
        |int n =>
         have h:=jB (show(n==1)=true from h);subst h;exact Exists.intro _ ⟨_,_,_,rfl⟩
        |_=>exact aC h
       |_=>exact aC h
      |_=>exact aC h
     |_=>exact aC h
   ·exact aC h
  ·exact aC h
 |_=>exact aC h
def Ag(Z:CC)(a i:sA)(p:XB):(∃lo hi q,i=.Slice lo hi none q)\/((∀lo hi q,i≠.Slice lo hi none q)/\cE Z (.Subscript a i p)=if L5 i then .nA else .ix (cE Z a) (cE Z i)):=by
 cases i with
 |Slice lo hi st q =>
  cases st with
  |none=>exact .inl ⟨_,_,_,rfl⟩
  |some _=>exact .inr ⟨(λ_ _ _ z=>nomatch z),rfl⟩
 |_=>exact .inr ⟨(λ_ _ _ z=>nomatch z),rfl⟩
def mM(K:fA)(P:YA)(C:Calls)(n:Nat):Prop:=∀(X:Cx) (Z:CC),OA X K P C Z->∀e:sA,sizeOf e<n->MA X K P C e (cE Z e)
def f7(h:a<b)(k:b<n+1):a<n:=kE h (Nat.le_of_lt_succ k)
def EB{a b n:Nat}(k:b<n+1)(h:a<b:=by simp;lia):a<n:=f7 h k
section
variable{K:fA}
def NO{r:List sA}(h:sizeOf (e::r)<n):sizeOf e<n:=wN (by simp;lia) h
def WT{r:List sA}(h:sizeOf (e::r)<n):sizeOf r<n:=wN (by simp;lia) h
theorem IV(ih:mM K P C n)(xo:OA X K P C Z):∀es:List sA,sizeOf es<n->es.all aAd=true->PA X es (OO K P C (xB Z es))
 |[],_,_=>nOa
 |e::r,hs,h=>by(rw[TB,qA] at h;exact lOa (ih _ _ xo e (NO hs)) (IV ih xo r (WT hs) h.2) h.1)
theorem TN(ih:mM K P C n)(xo:OA X K P C Z):∀es:List sA,sizeOf es<n->es.all aAd=true->PA X es (MI K P C (xB Z es))
 |[],_,_=>oOa
 |e::r,hs,h=>by(rw[TB,qA] at h;exact mOa (ih _ _ xo e (NO hs)) (TN ih xo r (WT hs) h.2) h.1)
theorem Vb(ih:mM K P C n)(xo:OA X K P C Z):∀vs:List sA,sizeOf vs<n->vs≠[]->TJ X K P C .And vs (Q0 Z vs)
 |[],_,h=>absurd rfl h
 |[a],hs,_=>cKa (ih _ _ xo a (NO hs))
 |a::b::r,hs,_=>Oi (ih _ _ xo a (NO hs)) (Vb ih xo (b::r) (WT hs) (λz=>nomatch z))
theorem Zi(ih:mM K P C n)(xo:OA X K P C Z):∀vs:List sA,sizeOf vs<n->vs≠[]->TJ X K P C .Or vs (W0 Z vs)
 |[],_,h=>absurd rfl h
 |[a],hs,_=>dKa (ih _ _ xo a (NO hs))
 |a::b::r,hs,_=>Qi (ih _ _ xo a (NO hs)) (Zi ih xo (b::r) (WT hs) (λz=>nomatch z))
theorem Ki(ih:mM K P C n)(xo:OA X K P C Z):∀o:Option sA,sizeOf o<n->PO X o (tO K P C (cO Z o))
 |none,_=>yPa
 |some e,hs=>aQa (ih _ _ xo e (wN (by simp) hs))
def NZ(ih:mM K P C n)(xo:OA X K P C Z)(e:sA)(hs:sizeOf e<n):RU X K P C e (AM Z e):=by
 cases e<;>first
  | (rename_i f args kw pos;exact⟨λf' p' Dt kw' pos' z ns=>by cases z;exact⟨TN ih xo args (wN (by simp;lia) hs) ns,V0 args⟩⟩)
  |exact⟨λf' p' Dt kw' pos' z ns=>by cases z⟩
end
def Ru{K:fA}(ih:mM K P C n)(xo:OA X K P C Z)(e:sA)(hsz:sizeOf e<n+1):MA X K P C e (cE Z e):=by
 cases e with
 |Name x p =>
  exact Vi xo _ _
 |Constant c k p =>
  exact fLa xo _ _ _
 |Tuple es k p =>
  show MA X K P C _ (if es.all aAd then .t (xB Z es) else .nA);split
  ·exact pMa xo (IV ih xo _ (EB hsz) ‹_›)
  ·exact nB
 |List es p =>
  show MA X K P C _ (if es.all aAd then .l (xB Z es) else .nA);split
  ·exact uLa xo (IV ih xo _ (EB hsz) ‹_›)
  ·exact nB
 |Dict ks vs p=>exact gLa xo (λv hv=>ih _ _ xo v (f7 (by have:=List.sizeOf_lt_of_mem hv;simp;lia) hsz)) nB
 |BinOp a op b p =>
  exact yKa xo (ih _ _ xo _ (EB hsz)) (ih _ _ xo _ (EB hsz))
 |UnaryOp op a p =>
  cases op with
  |Not =>
   exact yLa xo (ih _ _ xo _ (EB hsz))
  |USub =>
   exact xLa xo (ih _ _ xo _ (EB hsz))
  |_=>exact nB
 |Compare a ops cs p =>
  obtain _ | ⟨op,_ | ⟨BC,_ | ⟨_,_⟩⟩⟩:=ops
  ·exact nB
  ·obtain _ | ⟨b,_ | ⟨_,_⟩⟩:=cs
   ·exact nB
   ·show MA X K P C _ (if EK op b then .nA else .IA op (cE Z a) (cE Z b));split
    ·exact nB
    ·exact cLa xo (ih _ _ xo _ (EB hsz)) (ih _ _ xo _ (EB hsz)) (by rename_i h;simpa using h)
   ·exact nB
  ·obtain _ | ⟨b,_ | ⟨c,_ | ⟨_,_⟩⟩⟩:=cs
   ·exact nB
   ·exact nB
   ·show MA X K P C _ (if EK BC c then .nA else .HH op BC (cE Z a) (cE Z b) (cE Z c));split
    ·exact nB
    ·exact dLa xo (ih _ _ xo _ (EB hsz)) (ih _ _ xo _ (EB hsz)) (ih _ _ xo _ (EB hsz)) (by rename_i h;simpa using h)
   ·exact nB
  ·exact nB
 |BoolOp op vs p =>
  obtain _ | ⟨a,_ | ⟨b,r⟩⟩:=vs
  ·cases op<;>exact nB
  ·cases op<;>exact nB
  ·cases op with
   |And =>
    exact(Oi (ih _ _ xo _ (EB hsz)) (Vb ih xo _ (EB hsz) (by simp))).Ri λi z=>nomatch z
   |Or =>
    exact(Qi (ih _ _ xo _ (EB hsz)) (Zi ih xo _ (EB hsz) (by simp))).Ri λi z=>nomatch z
 |IfExp c a b p =>
  exact qLa (ih _ _ xo _ (EB hsz)) (ih _ _ xo _ (EB hsz)) (ih _ _ xo _ (EB hsz))
 |Subscript a i p =>
  rcases Ag Z a i p with ⟨lo,hi,q,rfl⟩ | ⟨hn,e⟩
  ·exact lMa xo (ih _ _ xo _ (EB hsz)) (Ki ih xo _ (EB hsz)) (Ki ih xo _ (EB hsz))
  ·rw[e];split
   ·rename_i hr;obtain⟨k,p1,p2,p3,rfl⟩:=wCa hr;exact nB
   ·exact rLa xo (ih _ _ xo _ (EB hsz)) (ih _ _ xo _ (EB hsz)) (wPa hn)
 |Call fn args kw pos =>
  cases fn with
  |Name f p =>
   cases kw with
   |nil =>
    show MA X K P C _ (if args.all aAd&&decide (args≠[]) then(match Z.glob f with | .fn g=>.call g (xB Z args) | .cls ns=>.nA | .AB=>if f=("isinstance":aA) then lO Z args (xB Z args) else LN f args (xB Z args) | _=>.nA) else .nA);split
    ·rename_i hc;rw[qA] at hc;obtain⟨ns,ne⟩:=hc
     cases args with
     |nil=>simp at ne
     |cons a r =>
      split
      ·rename_i g hg;exact aLa xo hg ns (TN ih xo _ (EB hsz) ns)
      ·rename_i g hg;exact nB
      ·rename_i hg;split
       ·rename_i hf;subst hf;unfold lO;split
        ·rename_i t a' _ e1 e2;split
         ·rename_i ty DS;simp only[xB,kP] at e1 e2;obtain⟨rfl,rfl⟩:=e1;obtain⟨rfl,_⟩:=e2;rw[TB,qA] at ns;exact pLa xo hg DS ns.1 (ih _ _ xo _ (EB hsz))
         ·simp only[xB,kP] at e1 e2;obtain⟨rfl,rfl⟩:=e1;obtain⟨rfl,_⟩:=e2;rw[TB,qA] at ns;exact jLa xo hg ns.1 (ih _ _ xo _ (EB hsz))
        ·exact nB
       ·unfold LN;split
        ·rename_i vS;subst vS;exact F7 xo hg (b:=.len) rfl ns (TN ih xo _ (EB hsz) ns)
        ·split
         ·exact nB
         ·split
          ·exact nB
          ·split
           ·rename_i vS;subst vS;exact F7 xo hg (b:=.list) rfl ns (TN ih xo _ (EB hsz) ns)
           ·split
            ·rename_i b hb;exact F7 xo hg hb ns (TN ih xo _ (EB hsz) ns)
            ·exact nB
      ·exact nB
    ·exact nB
   |cons _ _=>exact nB
  |Attribute o m mB =>
   cases o with
   |Name x p =>
    cases kw with
    |nil =>
     have hD:MA X K P C (.Call (.Attribute (.Name x p) m mB) args [] pos) (XZ Z x m mB pos args (xB Z args)):=by
      cases args with
      |nil =>
       show MA X K P C _ (UR Z x m mB pos);unfold UR;split
       ·rename_i hc;rw[qA] at hc;obtain⟨hl,hm⟩:=hc;have hm:=jB hm;subst hm;exact zKa xo hl
       ·exact nB
      |cons a as =>
       cases as with
       |nil =>
        show MA X K P C _ (VR Z x m mB pos a (cE Z a));unfold VR;split
        ·rename_i hc;rw[qA,qA] at hc;obtain⟨⟨ns,hl⟩,hm⟩:=hc;have hm:=jB hm;subst hm;split
         ·exact vKa xo ‹_› hl ns (ih _ _ xo _ (EB hsz))
         ·exact nB
        ·split
         ·rename_i hc;rw[qA,qA] at hc;obtain⟨⟨ns,hl⟩,hm⟩:=hc;have hm:=jB hm;subst hm;split
          ·exact hLa xo ‹_› hl ns (ih _ _ xo _ (EB hsz))
          ·exact nB
         ·split
          ·rename_i hc;rw[qA,qA] at hc;obtain⟨⟨ns,hl⟩,hm⟩:=hc;have hm:=jB hm;subst hm;exact nB
          ·exact qMa xo
       |cons b as=>exact nB
     exact hD
    |cons _ _=>exact nB
   |Constant c0 j0 p0 =>
    cases c0 with
    |str s0 =>
     obtain _ | ⟨a0,_ | ⟨_,_⟩⟩:=args
     ·cases kw<;>exact nB
     ·cases kw with
      |nil=>exact tLa xo (ih _ _ xo _ (EB hsz))
      |cons _ _=>exact nB
     ·cases kw<;>exact nB
    |_=>exact nB
   |Call g as kw2 p2 =>
    cases as with
    |nil=>exact nB
    |cons a0 vM =>
     cases kw with
     |nil =>
      show MA X K P C _ (YS Z m mB pos args (cE Z (.Call g (a0::vM) kw2 p2)) (xB Z args));unfold YS;split
      ·rename_i tb hm;split
       ·rename_i hc;rw[qA,qA] at hc;exact nB
       ·exact nB
      ·exact nB
     |cons _ _=>exact nB
   |Subscript v0 i0 p0 =>
    cases kw with
    |nil=>exact nMa xo (ih _ _ xo _ (EB hsz))
    |cons _ _=>exact nB
   |_=>exact nB
  |_=>exact nB
 |Attribute o f p =>
  cases o with
  |Name x q =>
   exact nB
  |_=>exact nB
 |ListComp LA gs scope pos =>
  obtain _ | ⟨⟨tg,RA,wA,m⟩,_ | ⟨_,_⟩⟩:=gs
  ·exact nB
  ·obtain _ | ⟨c,_ | ⟨_,_⟩⟩:=wA<;>obtain(_ | _) | _:=m
   ·exact(yV xo (ih _ _ xo _ (EB hsz)) (NZ ih xo _ (EB hsz)) (λX' dI=>ih _ _ dI _ (EB hsz)) (λX' dI=>Jj)).1
   ·exact nB
   ·exact nB
   ·exact(yV xo (ih _ _ xo _ (EB hsz)) (NZ ih xo _ (EB hsz)) (λX' dI=>ih _ _ dI _ (EB hsz)) (λX' dI=>Kj (ih _ _ dI _ (EB hsz)))).1
   all_goals exact nB
  ·obtain _ | ⟨c,_ | ⟨_,_⟩⟩:=wA<;>obtain(_ | _) | _:=m<;>exact nB
 |_=>exact nB
theorem JS{K:fA}:∀n:Nat,mM K P C n
 | 0=>λ_ _ _ _ h=>absurd h (zU _)
 |n+1=>λ_ _ xo e h=>Ru (JS n) xo e h
section
variable{K:fA}
def VE(xo:OA X K P C Z)(e:sA):MA X K P C e (cE Z e):=JS _ _ _ xo e (fP _)
def Ic(xo:OA X K P C Z)(e:sA):RU X K P C e (AM Z e):=NZ (JS _) xo e (fP _)
def Jc(xo:OA X K P C Z)(es:List sA)(h:es.all aAd=true):PA X es (OO K P C (xB Z es)):=IV (JS _) xo es (fP _) h
def YR(xo:OA X K P C Z)(es:List sA)(h:es.all aAd=true):PA X es (MI K P C (xB Z es)):=TN (JS _) xo es (fP _) h
end
def gKa{K:fA}(xo:OA X K P C Z)(e:sA)(h:MS e=true):GP X K P C e (cE Z e):=by
 cases e<;>simp only[MS,zD] at h;rename_i LA gs scope pos;obtain _ | ⟨⟨tg,RA,wA,n⟩,_ | ⟨_,_⟩⟩:=gs
 ·exact KQ
 ·obtain _ | ⟨c,_ | ⟨_,_⟩⟩:=wA<;>obtain(_ | _) | _:=n
  ·exact(yV xo (VE xo RA) (Ic xo RA) (λX' dI=>VE dI LA) (λX' dI=>Jj)).2.1
  ·exact KQ
  ·exact KQ
  ·exact(yV xo (VE xo RA) (Ic xo RA) (λX' dI=>VE dI LA) (λX' dI=>Kj (VE dI c))).2.1
  all_goals exact KQ
 ·obtain _ | ⟨c,_ | ⟨_,_⟩⟩:=wA<;>obtain(_ | _) | _:=n<;>exact KQ
section
variable{X:Cx}{K:fA}{P:YA}{C:Calls}{W:Nat}{Z:CC}
def DH(X:Cx)(K:fA)(U:Env)(Y:St)(H G:Hp)(U':Env)(x:Exc):Prop:=∀bA Y' H' G' s' a Ca p,MB K U Y H G U' Y' H' G'->dA X bA Y' H' s'->jI X bA H' s'.heap a Ca p->JB K oB x.cls=some (some (.ref Ca))->DE K Ca->sM K G' Ca p x->X.xe (.ref a) s'
def DH.pre(a:MB K U Y H G U1 Y1 H1 G1)(h:DH X K U Y H G U' x):DH X K U1 Y1 H1 G1 U' x:=λbA Y' H' G' s' b Ca p q=>h bA Y' H' G' s' b Ca p (a.trans q)
noncomputable def P8(X:Cx)(K:fA)(P:YA)(C:Calls)(c:E):TE:=λY H _=>∃U G x U',CA K U Y H G/\NH P C c U=some (x,U')/\DH X K U Y H G U' x
noncomputable def oWa(X:Cx)(K:fA)(P:YA)(C:Calls)(cs:List E):TA:=λY H _=>∃U G x U',CA K U Y H G/\jL P C cs U=some (x,U')/\DH X K U Y H G U' x
noncomputable def iF(X:Cx)(K:fA)(P:YA)(C:Calls)(W:Nat)(c:S):TS:=λ_ Y H=>∃U G x U',CA K U Y H G/\UC P C W c U=some (x,U')/\DH X K U Y H G U' x
noncomputable def QG(X:Cx)(K:fA)(P:YA)(C:Calls)(W:Nat)(c:List S):TS:=λ_ Y H=>∃U G x U',CA K U Y H G/\aD P C W c U=some (x,U')/\DH X K U Y H G U' x
def rRa(h1:XC X b t)(h2:XC X b u):XC X b (λD Y H=>t D Y H\/u D Y H):=λbA s Y H D I q=>q.elim (h1 bA s Y H D I) (h2 bA s Y H D I)
def DH.restore(r:CA K U1 Y H1 G1)(ho:∀i,o=some i->∃d p l,U1[i]?=some (.ow d p l))(e:aAk o U1 Uf=some U')(k:DH X K U1 Y H1 G1 U' x):DH X K (aAb o U1) Y H1 G1 Uf x :=
 λbA Y' H' G' s' a Ca p b=>k bA Y' H' G' s' a Ca p (PQ r ho e b).1
def rM(K:fA)(P:YA)(C:Calls)(W:Nat)(one:Bool)(tg:List Nat)(cb:List S)(U0:Env)(Y0:St)(H0 G0:Hp)(x:Exc)(Uf:Env)(ds:List D)(i:Nat):St->Hp->Prop:=λY H =>
 ∃U G,MB K U0 Y0 H0 G0 U Y H G/\gH (WA one tg) (GA P C W cb) (aD P C W cb) (ds.drop i) U=some (x,Uf)
def DX{D0:Ends}(hk:DH X K U0 Y0 H0 G0 Uf x)(hd:ds[i]?=some d)
  (h:∃U G,MB K U0 Y0 H0 G0 U Y H G/\kA K G d v/\gH (WA one tg) (GA P C W cb) (aD P C W cb) (ds.drop i) U=some (x,Uf)) :
  gB K one tg v Y H λY2 H2=>(λD Y H=>IE K P C W cb D Y H\/QG X K P C W cb D Y H) { D0 with nx:=rM K P C W one tg cb U0 Y0 H0 G0 x Uf ds (i+1),ct:=rM K P C W one tg cb U0 Y0 H0 G0 x Uf ds (i+1),bk:=D0.nx } Y2 H2:=by
 obtain⟨U,G,a,hx,e⟩:=h;have hl:i<ds.length:=(MD.mp hd).1
 have ed:ds.drop i=d::ds.drop (i+1):=by(rw[rR hl];congr 1;rw[kC hl] at hd;exact uF hd)
 rw[ed] at e;unfold gH at e;split at e
 ·cases e
 ·rename_i U1 q;refine⟨U,G,d,U1,a.lA,hx,q,λY1 a1=>?_⟩;have rG:=a.trans a1;split at e
  ·rename_i U2 q2;exact .inl ⟨U1,G,.nx,U2,a1.lA,q2,λY2 H2 G2 a2=>⟨U2,G2,rG.trans a2,e⟩⟩
  ·rename_i U2 q2;exact .inl ⟨U1,G,.ct,U2,a1.lA,q2,λY2 H2 G2 a2=>⟨U2,G2,rG.trans a2,e⟩⟩
  ·exact .inr ⟨U1,G,x,Uf,a1.lA,e,hk.pre rG⟩
def BX(h:rM K P C W one tg cb U0 Y0 H0 G0 x Uf ds ds.length Y H):False:=by
 obtain⟨U,G,a,e⟩:=h;rw[X9] at e;cases e
def Cz(po:xN (model X.prog X.w) X.A X.env X.xe)(xo:OA X K P C Z)(hg:PG X tg (gB K one is))(hb:XC X body (IE K P C W cb))(QH:XC X body (QG X K P C W cb))
  (hs:∀x,OJ it X.env x=pure x) (hi:PI X tg it wi) (hw:∀Y H (R:It->Hp->Prop),SK K P C k0 gA Y H R->wi Y H R):PS X (.For tg it body [] pos) (iF X K P C W (.for is one k0 gA cb)):=by
 refine TS.EE (Ej po xo.calm hi hg (rRa hb QH) hs) λD Y H hz=>?_
 obtain⟨U,G,x,U',r,e,k⟩:=hz;replace e:(match nD P C gA U with | some (.ok hs,U1)=>(match aAa k0 hs U1 with | some (ds,o)=>wK o U1 (gH (WA one is) (GA P C W cb) (aD P C W cb) ds (aAb o U1)) | none=>none) | _=>none)=some (x,U'):=e;split at e
 case h_2=>cases e
 rename_i hs U1 e1;split at e
 case h_2=>cases e
 rename_i ds o q
 cases q2:gH (WA one is) (GA P C W cb) (aD P C W cb) ds (aAb o U1) with
 |none=>rw[q2] at e;cases e
 |some y =>
  obtain⟨x1,Uf⟩:=y;rw[q2] at e
  cases q3:aAk o U1 Uf with
  |none=>unfold wK at e;simp only[q3] at e;cases e
  |some U2 =>
   unfold wK at e;simp only[q3] at e;cases e;refine hw Y H _ ⟨U,G,hs,U1,ds,o,r,e1,q,λH1 G1 a1 ho=>?_⟩;have k1:DH X K (aAb o U1) Y H1 G1 Uf x:=DH.restore a1.lA ho q3 (k.pre (DA.s r a1));have p0:rM K P C W one is cb (aAb o U1) Y H1 G1 x Uf ds 0 Y H1:=⟨aAb o U1,G1,MB.refl (YT a1.lA).1,q2⟩
   refine⟨λa vs mJ hr=>?_,λa vs ht hr=>?_,λlo n gD=>?_,λa vs xF lo gD mJ hr=>?_⟩
   ·refine ze (g:=gB K one is) (tb:=λD Y H=>IE K P C W cb D Y H\/QG X K P C W cb D Y H) (xs:=vs) (rM K P C W one is cb (aAb o U1) Y H1 G1 x Uf ds) p0 (λi Y2 H2 _ ⟨U2,G2,b,_⟩=>mJ.now b) (λi v Y2 H2 hx hp=>?_) (λY2 H2 hp=>?_)
    ·have hl:i<ds.length:=by rw[<- hr.len];exact(MD.mp hx).1
     obtain⟨x',h1,h2⟩:=hr.get (kC hl);rw[hx] at h1;cases h1;obtain⟨U2,G2,b,e2⟩:=hp;exact DX k1 (kC hl) ⟨U2,G2,b,kA.mono b.ext.gg _ h2,e2⟩
    ·rw[hr.len] at hp;exact(BX hp).elim
   ·refine Ce (g:=gB K one is) (tb:=λD Y H=>IE K P C W cb D Y H\/QG X K P C W cb D Y H) (xs:=vs) (rM K P C W one is cb (aAb o U1) Y H1 G1 x Uf ds) p0 (λi Y2 H2 _ ⟨U2,G2,b,_⟩=>pH b.lA.sub (pH b.ext.gg ht)) (λi v Y2 H2 hx hp=>?_) (λY2 H2 hp=>?_)
    ·have hl:i<ds.length:=by rw[<- hr.len];exact(MD.mp hx).1
     obtain⟨x',h1,h2⟩:=hr.get (kC hl);rw[hx] at h1;cases h1;obtain⟨U2,G2,b,e2⟩:=hp;exact DX k1 (kC hl) ⟨U2,G2,b,kA.mono b.ext.gg _ h2,e2⟩
    ·rw[hr.len] at hp;exact(BX hp).elim
   ·have GB:ds.length=n:=by rw[gD];simp
    refine Be (g:=gB K one is) (tb:=λD Y H=>IE K P C W cb D Y H\/QG X K P C W cb D Y H) (rM K P C W one is cb (aAb o U1) Y H1 G1 x Uf ds) p0 (λi Y2 H2 hi hp=>?_) (λY2 H2 hp=>?_)
    ·have hd:ds[i]?=some (.int (lo+(i:Int))):=by rw[gD];simp[hi]
     obtain⟨U2,G2,b,e2⟩:=hp;exact DX k1 hd ⟨U2,G2,b,by simp[kA],e2⟩
    ·rw[<- GB] at hp;exact(BX hp).elim
   ·subst gD;refine ye (g:=gB K one is) (tb:=λD Y H=>IE K P C W cb D Y H\/QG X K P C W cb D Y H) (xs:=vs) (rM K P C W one is cb (aAb o U1) Y H1 G1 x Uf (RC lo xF)) p0 (λi Y2 H2 _ ⟨U2,G2,b,_⟩=>mJ.now b) (λi y p Y2 H2 hx hn hp=>?_) (λY2 H2 hp=>?_)
    ·have hl:i<xF.length:=by rw[<- hr.len];exact(MD.mp hx).1
     obtain⟨x',h1,h2⟩:=hr.get (kC hl);rw[hx] at h1;cases h1;obtain⟨U2,G2,b,e2⟩:=hp;have b2:=b.trans (DA.s b.lA ((DA.refl b.lA).qJ (o:=.t [.int (lo+(i:Int)),y]) hn));exact DX k1 (bQ (kC hl)) ⟨U2,_,b2,D2 (fB.free b.lA.sub hn) (kA.mono b.ext.gg _ h2),e2⟩
    ·rw[hr.len,<- cQ] at hp;exact(BX hp).elim
def L7(h1:PE X e t)(h2:PE X e u):PE X e (λY H Q=>t Y H Q\/u Y H Q):=λbA s Y H Q I q=>q.elim (h1 bA s Y H Q I) (h2 bA s Y H Q I)
def wQa{st:VA}(h1:PS X st t)(h2:PS X st u):PS X st (λD Y H=>t D Y H\/u D Y H):=λbA s Y H D I q=>q.elim (h1 bA s Y H D I) (h2 bA s Y H D I)
end
section
variable{X:Cx}{K:fA}{P:YA}{C:Calls}{Z:CC}
def Lq(X:Cx)(K:fA)(P:YA)(C:Calls)(e:sA)(c:E):Prop:=∀(W:Nat) (x:aA) (i:Nat) (p pos:XB),X.N.Nodup->X.N[i]?=some x->Loc X.env.scope x->(X.fn x=true\/X.env.scope.names.lookup x=some .local) ->
 PS X (.Assign [.Name x p] e pos) (iF X K P C W (.kB i c))
end
section
variable{X:Cx}{K:fA}{P:YA}{C:Calls}{W:Nat}{Z:CC}
noncomputable def JC:E->Bool
 |.call _ _=>true
 |_=>false
def bJa:JC (PN Z x)=false:=by unfold PN;split;rfl;split<;>rfl
def sIa:JC (vV c)=false:=by
 cases c<;>first | rfl | (show JC (if _ then _ else _)=false;split<;>rfl)
def vIa(h:JC c=false):JC (J1 z ks vs c)=false:=by unfold J1;first | exact h | (split<;>first | rfl | exact h)
def cJa:JC (JT m p q as c)=false:=by unfold JT;(repeat' split)<;>rfl
def uIa(h:JC c=false):JC (bS ks vs es c)=false:=by
 unfold bS
 (repeat' split)<;>first | rfl | exact h
theorem tIa:JC (Bd ks vs cs es)=false:=by
 rfl
def eJa:JC (bU Z x m p q a)=false:=by
 unfold bU;repeat' split<;>try rfl
def xIa:JC (US s m p q a c)=false:=by unfold US;split<;>rfl
def oIa:JC (VR Z x m p q a c)=false:=by unfold VR;repeat' split<;>first | rfl | exact eJa | skip
def nIa:JC (UR Z x m p q)=false:=by unfold UR;split<;>rfl
def qIa:JC (XZ Z x m p q as cs)=false:=by
 rcases as with _ | ⟨a,_ | _⟩<;>rcases cs with _ | ⟨c,_ | _⟩<;>first | rfl | exact nIa | exact oIa
def pIa:JC (ic Z x m p q as cs)=false:=qIa
def aJa:JC (YS Z m p q as a cs)=false:=by unfold YS;repeat' split<;>try rfl
def dJa:JC (G8 Z t a)=false:=by
 cases t with
 |Name x _=>show JC (QT Z x a)=false;unfold QT;split<;>rfl
 |Tuple es _ _=>show JC (UT Z es a)=false;unfold UT;repeat' split<;>try rfl
 |_=>rfl
def wIa:JC (lO Z as cs)=false:=by
 unfold lO;split
 ·split
  ·rfl
  ·exact dJa
 ·rfl
def yIa:JC (P6 as cs)=false:=by unfold P6;first | rfl | (repeat' split<;>try rfl)
def zIa:JC (Q6 as cs)=false:=by unfold Q6;first | rfl | (repeat' split<;>try rfl)
def rIa:JC (LN f as cs)=false:=by
 unfold LN aAY;split
 ·exact yIa
 ·split
  ·(repeat' split)<;>rfl
  ·split
   ·rfl
   ·split
    ·exact zIa
    ·split<;>rfl
def JQ[Decidable b](h1:JC a=false)(h2:JC c=false):JC (if b then a else c)=false:=by split<;>assumption
def qG(Z:CC)(e:sA):Prop:=(∃f p a r pos g,e=.Call (.Name f p) (a::r) [] pos/\Z.glob f=.fn g/\(a::r).all aAd=true/\cE Z e=.call g (xB Z (a::r)))\/∃LA tg RA wA sc pos,e=.ListComp LA [⟨tg,RA,wA,0⟩] sc pos/\(wA=[]\/∃c1,wA=[c1])
def Iv(h:JC (cE Z e)=true):qG Z e:=by
 cases e with
 |Name x p=>exact aC ((bJa (x:=x)).symm.trans h)
 |Constant c _ _=>exact aC ((sIa (c:=c)).symm.trans h)
 |Tuple es _ _=>exact aC ((JQ (b:=es.all aAd=true) (a:=.t (xB Z es)) (c:=.nA) rfl rfl).symm.trans h)
 |List es _=>exact aC ((JQ (b:=es.all aAd=true) (a:=.l (xB Z es)) (c:=.nA) rfl rfl).symm.trans h)
 |Dict ks vs _=>exact aC ((uIa (vIa (tIa (ks:=ks) (vs:=vs) (cs:=X0 Z ks) (es:=xB Z vs)))).symm.trans h)
 |BinOp a op b _=>exact aC h
 |UnaryOp op a _=>cases op<;>exact aC h
 |Compare a ops bs _ =>
  obtain _ | ⟨o1,_ | ⟨o2,_ | ⟨o3,_⟩⟩⟩:=ops<;>obtain _ | ⟨b1,_ | ⟨b2,_ | ⟨b3,_⟩⟩⟩:=bs<;>first
   |exact aC h
   |exact aC ((JQ (b:=EK o1 b1=true) (a:=.nA) (c:=.IA o1 (cE Z a) (cE Z b1)) rfl rfl).symm.trans h)
   |exact aC ((JQ (b:=EK o2 b2=true) (a:=.nA) (c:=.HH o1 o2 (cE Z a) (cE Z b1) (cE Z b2)) rfl rfl).symm.trans h)
 |BoolOp op es _ =>
  cases op<;>obtain _ | ⟨a,_ | ⟨b,r⟩⟩:=es<;>exact aC h
 |IfExp c a b _=>exact aC h
 |Subscript a i _ =>
  rcases Ag Z a i ‹XB› with ⟨lo,hi,q,rfl⟩ | ⟨_,z⟩
  ·exact aC h
  ·rw[z] at h;exact aC ((JQ rfl rfl).symm.trans h)
 |Attribute o f _=>cases o<;>exact aC h
 |ListComp LA gens sc _ =>
  obtain _ | ⟨⟨tg,it,wA,n⟩,_ | ⟨_,_⟩⟩:=gens
  ·exact aC h
  ·obtain _ | ⟨c1,_ | ⟨_,_⟩⟩:=wA<;>obtain(_ | _) | _:=n<;>first
    |exact Or.inr ⟨LA,tg,it,[],sc,_,rfl,.inl rfl⟩
    |exact Or.inr ⟨LA,tg,it,[c1],sc,_,rfl,.inr ⟨c1,rfl⟩⟩
    |exact aC h
  ·obtain _ | ⟨c1,_ | ⟨_,_⟩⟩:=wA<;>obtain(_ | _) | _:=n<;>exact aC h
 |Call fn args kw pos =>
  cases fn with
  |Name f p =>
   cases kw with
   |nil =>
    change JC (if args.all aAd&&decide (args≠[]) then(match Z.glob f with | .fn g=>.call g (xB Z args) | .cls ns=>.nA | .AB=>if f=("isinstance":aA) then lO Z args (xB Z args) else LN f args (xB Z args) | _=>.nA) else .nA)=true at h;split at h
    ·rename_i hc;split at h
     ·rename_i g hg;rw[qA] at hc
      cases args with
      |nil=>simp at hc
      |cons a r =>
       refine Or.inl ⟨f,p,a,r,pos,g,rfl,hg,hc.1, ?_⟩;show(if(a::r).all aAd&&decide ((a::r)≠[]) then(match Z.glob f with | .fn g=>E.call g (xB Z (a::r)) | .cls ns=>E.nA | .AB=>if f=("isinstance":aA) then lO Z (a::r) (xB Z (a::r)) else LN f (a::r) (xB Z (a::r)) | _=>.nA) else .nA)=_;rw[uA (by rw[hc.1];simp),hg]
     ·cases h
     ·rw[JQ wIa rIa] at h;cases h
     ·cases h
    ·cases h
   |cons _ _=>exact aC h
  |Attribute o m mB =>
   cases kw with
   |nil =>
    cases o with
    |Name x p=>exact aC ((pIa (x:=x) (m:=m) (p:=mB) (q:=pos) (as:=args) (cs:=xB Z args)).symm.trans h)
    |Call g vM Qh p0 =>
     cases vM with
     |nil=>exact aC h
     |cons a0 r0=>exact aC ((aJa (m:=m) (p:=mB) (q:=pos) (as:=args) (a:=cE Z (.Call g (a0::r0) Qh p0)) (cs:=xB Z args)).symm.trans h)
    |Constant c0 j0 p0 =>
     cases c0 with
     |str s0 =>
      obtain _ | ⟨a0,_ | ⟨_,_⟩⟩:=args
      ·exact aC h
      ·exact aC ((xIa (s:=s0) (m:=m) (p:=mB) (q:=pos) (a:=a0) (c:=cE Z a0)).symm.trans h)
      ·exact aC h
     |_=>exact aC h
    |Subscript v0 i0 p0=>exact aC ((cJa (m:=m) (p:=mB) (q:=pos) (as:=args) (c:=cE Z (.Subscript v0 i0 p0))).symm.trans h)
    |_=>exact aC h
   |cons _ _ =>
    cases o with
    |Call g vM Qh p0=>cases vM<;>exact aC h
    |Constant c0 j0 p0 =>
     cases c0 with
     |str s0=>obtain _ | ⟨a0,_ | ⟨_,_⟩⟩:=args<;>exact aC h
     |_=>exact aC h
    |_=>exact aC h
  |_=>exact aC h
 |_=>exact aC h
def Pc(h:JC (cE Z e)=true):(∃f p a r pos g,e=.Call (.Name f p) (a::r) [] pos/\Z.glob f=.fn g/\(a::r).all aAd=true/\cE Z e=.call g (xB Z (a::r)))\/∃LA tg RA wA sc pos,e=.ListComp LA [⟨tg,RA,wA,0⟩] sc pos/\(wA=[]\/∃c1,wA=[c1]):=Iv h
def dQ(h:NH P C c U=some (x,U')):JC c=true:=by
 cases c<;>first | rfl | (simp[NH] at h)
def lY{sc:EF}{tg it:sA}{ci:E}{as cs:List E}{ce:E}(h:JC (JH Z sc tg it ci as cs ce)=true):False:=by
 unfold JH at h
 (repeat' split at h)<;>cases h
def EZ(K:fA)(P:YA)(C:Calls)(n:Nat):Prop:=∀(X:Cx) (Z:CC),OA X K P C Z->∀e:sA,sizeOf e<n->PE X e (P8 X K P C (cE Z e))
theorem Td(ih:EZ K P C n)(xo:OA X K P C Z):∀es:List sA,sizeOf es<n->es.all aAd=true->PA X es (oWa X K P C (xB Z es))
 |[],_,_=>by
  intro pos bA s Y H Q I ⟨U,G,x,U',r,e0,k⟩;simp only[xB,jL] at e0;cases e0
 |e::es,hs,ns=>by
  have JL:=ns;rw[TB,qA] at JL;refine TA.xQ (eG (L7 (VE xo e).h (ih _ _ xo e (NO hs))) (Td ih xo es (WT hs) JL.2) (MC JL.1 _ _)) λY H Q hz=>?_
  obtain⟨U,G,x,U',r,e0,k⟩:=hz;simp only[xB,jL] at e0;split at e0
  ·rename_i v U1 q1;exact .inl ⟨U,G,v,U1,r,q1,λy H1 G1 a1 _=>⟨U1,G1,x,U',a1.lA,e0,k.pre (DA.s r a1)⟩⟩
  ·exact .inr ⟨U,G,x,U',r,e0,k⟩
def Qu(ih:EZ K P C n)(xo:OA X K P C Z)(e:sA)(hsz:sizeOf e<n+1):PE X e (P8 X K P C (cE Z e)):=by
 intro bA s Y H Q I ⟨U,G,x,U',r,e0,k⟩;rcases Pc (dQ e0) with ⟨f,p,a,aAc,pos,g,rfl,hf,ns,hc⟩ | ⟨LA,tg,RA,wA,sc,pos,rfl,rfl | ⟨c1,rfl⟩⟩
 case inr.inl=>exact(lY (show JC (JH Z sc tg RA (cE Z RA) (AM Z RA) [] (cE (Z.inner sc) LA))=true from dQ e0)).elim
 case inr.inr=>exact(lY (show JC (JH Z sc tg RA (cE Z RA) (AM Z RA) [cE (Z.inner sc) c1] (cE (Z.inner sc) LA))=true from dQ e0)).elim
 rw[hc] at e0;obtain⟨h1,h2,h3,h4⟩:=CC.wG xo hf (λz=>nomatch z);obtain⟨fa,fd,ps,k0,F,hr,hm,hk,hb⟩:=(xo.fnX f g h2).ex;have JL:=ns;rw[TB,qA] at JL;simp only[NH] at e0
 have Et:jL P C (xB Z (a::aAc)) U=some (x,U')->AA (model X.prog X.w) X.A (eval (.Call (.Name f p) (a::aAc) [] pos) X.env) (EP X bA Y Q) X.xe s:=λz =>
  ij F hr h1 hm hk hb (Td ih xo (a::aAc) (f7 (by simp;lia) hsz) ns) h3 (MC JL.1 _ _) (zJ JL.2 _ _).1 bA s Y H Q I ⟨U,G,x,U',r,z,k⟩
 split at e0
 ·rename_i hs U1 q1;split at e0
  ·rename_i x' U2 q2;cases e0;refine ij F hr h1 hm hk hb (YR xo (a::aAc) ns) h3 (MC JL.1 _ _) (zJ JL.2 _ _).1 bA s Y H Q I ⟨U,G,hs,U1,r,q1,λxs H1 G1 a1 rx=>?_⟩;obtain⟨as,G2,QA,d1,d2,d3,d4⟩:=Fw a1 rx q2;refine⟨λv p H'=>∃Ca G',v=.ref Ca/\DA K U Y H G U' H' G'/\JB K oB x.cls=some (some (.ref Ca))/\DE K Ca/\sM K G' Ca p x,⟨?_,as,G2,x,QA,d1,d2,d3,λH' G' Ca p b hn hg hp=>⟨Ca,G',rfl,d4 H' G' b,hn,hg,hp⟩⟩,λUD b Cb p H' s' I' F' ⟨Ca,G',z,b1,b2,b3,b4⟩=>?_⟩
   ·have:=d1.len
    rw[JA] at this
    lia
   ·cases z;exact k UD Y H' G' s' b Cb p (DA.s r b1) I' F' b2 b3 b4
  ·cases e0
 ·exact Et e0
theorem Vf:∀n:Nat,EZ K P C n
 | 0=>λ_ _ _ _ h=>absurd h (zU _)
 |n+1=>λ_ _ xo e h=>Qu (Vf n) xo e h
def S0(xo:OA X K P C Z)(e:sA):PE X e (P8 X K P C (cE Z e)):=Vf _ _ _ xo e (fP _)
def Yu(xo:OA X K P C Z)(h:wA=[]\/∃c1,wA=[c1]):Lq X K P C (.ListComp LA [⟨tg,RA,wA,0⟩] sc pos) (cE Z (.ListComp LA [⟨tg,RA,wA,0⟩] sc pos)):=by
 intro W x i p pos _ _ _ _ bA s Y H D I ⟨U,G,x0,U',r,e0,k⟩;rcases h with rfl | ⟨c1,rfl⟩
 ·exact(lY (show JC (JH Z sc tg RA (cE Z RA) (AM Z RA) [] (cE (Z.inner sc) LA))=true from dQ (P:=P) (C:=C) e0)).elim
 ·exact(lY (show JC (JH Z sc tg RA (cE Z RA) (AM Z RA) [cE (Z.inner sc) c1] (cE (Z.inner sc) LA))=true from dQ (P:=P) (C:=C) e0)).elim
end
section
variable{X:Cx}{K:fA}{P:YA}{C:Calls}{W:Nat}{Z:CC}{bA UD:List (eA×wB)}{Y:St}{H G:Hp}{s:xA}
abbrev Cx.re(X:Cx)(E:cA->xA->Prop)(pn:List (eA×wB)):Cx:={ X with xe:=E,pn:=pn }
abbrev RE(X:Cx)(b:List VA)(t:Cx->TS):Prop:=∀E pn,xN (model X.prog X.w) X.A X.env E->XC (Cx.re X E pn) b (t (Cx.re X E pn))
abbrev Cx.ma(X:Cx)(v:cA):Cx:={ X with A:=X.A.mark (some v),calm:=false,xe:=λ_ _=>False }
def zLa{E:cA->xA->Prop}(o:X.Ok):(Cx.re X E pn).Ok :=
 ⟨o.mod,o.kind,o.glob,o.AB,o.above,o.inj,o.has,o.eL,o.hd,o.frames,o.rE,o.eQ,o.bs,o.lI,o.IL,o.HM,o.XF,o.YI⟩
def rMa{E:cA->xA->Prop}(o:(Cx.re X E pn).Ok):X.Ok :=
 ⟨o.mod,o.kind,o.glob,o.AB,o.above,o.inj,o.has,o.eL,o.hd,o.frames,o.rE,o.eQ,o.bs,o.lI,o.IL,o.HM,o.XF,o.YI⟩
def vLa(o:X.Ok):(Cx.ma X v).Ok :=
 ⟨o.mod,o.kind,o.glob,o.AB,o.above,o.inj,o.has,o.eL,(λz=>nomatch z),o.frames,o.rE,o.eQ,o.bs,o.lI,o.IL,o.HM,o.XF,o.YI⟩
def ag{E:cA->xA->Prop}(I:dA X bA Y H s):dA (Cx.re X E (X.pn++bA)) [] Y H s :=
 ⟨zLa I.ok,I.os,I.bare,I.base,I.loc,I.cell,I.free,I.ZE,λp hp=>I.pin p (by simpa using hp),I.HA,I.len⟩
def bg{E:cA->xA->Prop}(I:dA (Cx.re X E (X.pn++bA)) UD Y H s):dA X bA Y H s :=
 ⟨rMa I.ok,I.os,I.bare,I.base,I.loc,I.cell,I.free,I.ZE,λp hp=>I.pin p (oN _ hp),I.HA,I.len⟩
def D5(I:dA X bA Y H s):dA (Cx.ma X v) bA Y H s :=
 ⟨vLa I.ok,I.os,I.bare,I.base,I.loc,I.cell,I.free,I.ZE,I.pin,I.HA,I.len⟩
def nBa{E:cA->xA->Prop}(o:X.Ok)(I:dA (Cx.ma (Cx.re X E (X.pn++bA)) v) UD Y H s):dA X bA Y H s :=
 ⟨o,I.os,I.bare,I.base,I.loc,I.cell,I.free,I.ZE,λp hp=>I.pin p (oN _ hp),I.HA,I.len⟩
theorem OA.re{E:cA->xA->Prop}(xo:OA X K P C Z):OA (Cx.re X E pn) K P C Z :=
 OA.of xo.VC xo.VH xo.nm xo.nd xo.calm xo.hh xo.hu xo.c xo.AB (λx f h=>⟨(xo.fn x f h).ex⟩) (λx ns h=>⟨(xo.cls x ns h).ex⟩) (λm tb c f h1 h2=>⟨(xo.iH m tb c f h1 h2).ex⟩) xo.rm xo.sub xo.GD ⟨xo.exc,λx h=>⟨(xo.uG x h).ex⟩⟩ xo.GA (λx f h=>⟨(xo.fnX x f h).ex⟩) xo.tp
def vt(r:CA K U Y H G)(h:U[i]?=some (.sh d)):MB K U Y H G (U.set i .mv) (Y.set i none) H G:=by
 have KD:∀{j:Nat} {sl:Sl},(U.set i .mv)[j]?=some sl->(j=i/\sl=.mv)\/(j≠i/\U[j]?=some sl/\(Y.set i none)[j]?=Y[j]?):=λ{j sl} q=>by
  rcases mH q with ⟨h1,h2,_⟩ | ⟨h1,h2⟩
  ·exact .inl ⟨h1,h2⟩
  ·exact .inr ⟨h1,h2,jE (λz=>h1 z.symm)⟩
 refine⟨⟨by rw[SE,SE];exact r.len,r.sub,λj d' q=>?_,λj d' p l q=>?_,λj k d1 p1 l1 d2 p2 l2 a q1 q2 q3 q4=>?_⟩,Ext.refl,λa ⟨j,d',p,l,q1,q2⟩=>?_,λj q=>?_,λj d' l q=>?_,by rw[SE]⟩
 ·rcases KD q with ⟨_,z⟩ | ⟨_,z,z2⟩
  ·cases z
  ·rw[z2];exact r.sh j d' z
 ·rcases KD q with ⟨_,z⟩ | ⟨_,z,z2⟩
  ·cases z
  ·rw[z2];exact r.ow j d' p l z
 ·rcases KD q1 with ⟨_,z⟩ | ⟨_,z,z2⟩
  ·cases z
  ·rcases KD q2 with ⟨_,w⟩ | ⟨_,w,w2⟩
   ·cases w
   ·rw[z2] at q3;rw[w2] at q4;exact r.inj _ _ _ _ _ _ _ _ _ z w q3 q4
 ·rcases KD q1 with ⟨_,z⟩ | ⟨_,z,z2⟩
  ·cases z
  ·rw[z2] at q2;exact .inl ⟨j,d',p,l,z,q2⟩
 ·rcases KD q with ⟨_,z⟩ | ⟨_,z,z2⟩
  ·cases z
  ·exact⟨z,z2⟩
 ·have hj:j≠i:=λz=>by rw[z,h] at q;cases q
  exact⟨jE (λz=>hj z.symm),d',by rw[jE (λz=>hj z.symm)];exact q⟩
def Vk(h:store i (.sh d) U=some U'):U'=U.set i (.sh d)/\i<U.length:=by
 unfold store at h;split at h
 ·cases h
 ·cases h
 ·cases h
 ·rename_i q;cases h;exact⟨rfl,(MD.mp q).1⟩
def qt(a0:MB K U Y H G U1 Y1 H1 G1)(rep:kA K G1 c v)(e2:store i (.sh c) U1=some U2)(e3:store j (.sh c) U2=some U3)(xI:i≠j) :
  MB K U Y H G (U3.set i .mv) (((Y1.set i (some v)).set j (some v)).set i none) H1 G1:=by
 have b2:=a0.lA.CY e2 rep;have b3:=b2.lA.CY e3 rep;obtain⟨q1,l1⟩:=Vk e2;obtain⟨q2,l2⟩:=Vk e3;refine a0.trans (b2.trans (b3.trans (vt b3.lA (d:=c) ?_)));rw[q2,jE (λz=>xI z.symm),q1,gI l1]
def Yy(xo:OA X K P C Z)(hx:Z.pL x=.GA cs)(hc:c∈cs)(JD:JB K oB c=some (some (.ref Ca))):∃D0,X.mg x=some (.ref D0)/\(∃i,EG K D0 i)/\XG K Ca (.ref D0)=some true/\Gl X x/\(x==("__debug__":aA))=false:=by
 unfold CC.pL at hx;split at hx
 ·cases hx
 ·rename_i jQ;split at hx
  ·rename_i J';obtain⟨D0,d1,d2,d3⟩:=(xo.GA x cs hx).ex;refine⟨D0,d1,d2,d3 _ hc Ca JD, ?_, ?_⟩
   ·unfold Gl Y9;rw[xo.nm];exact jB J'
   ·simp only[NF,uU,y9] at jQ;exact jQ.1.1
  ·cases hx
abbrev o7:Ends:={ nx:=λ_ _=>False,rt:=λ_ _=>False }
def SP.no(h:SP X bA o7 f s):False:=by
 cases f with
 |ret u=>obtain⟨_,_,_,_,_,z⟩:=h;exact z
 |_=>obtain⟨_,_,_,z⟩:=h;exact z
def SP.un{E:cA->xA->Prop}{D:Ends}(h:SP (Cx.re X E (X.pn++bA)) UD D f s):SP X bA D f s:=by
 cases f with
 |ret u=>obtain⟨v,Y',H',J,z⟩:=h;exact⟨v,Y',H',bg J,z⟩
 |_=>obtain⟨Y',H',J,z⟩:=h;exact⟨Y',H',bg J,z⟩
def Zm{D:Ends}(hb:RE X body λ_=>t)(I:dA X bA Y H s)(h:t D Y H) :
  AA (model X.prog X.w) X.A (exec (.Try body [h0] [] [] pos) X.env) (SP X bA D) X.xe s :=
 wpAny_Try_except (AE (hb _ (X.pn++bA) Kp [] s Y H D (ag I) h) (λf s1 h1=>by
  have h1:=SP.un h1
  cases f with
  |next=>exact lZ h1
  |_=>exact h1) λ_ _ z=>z)
theorem kI.c{a c:eA}(F:kI X bA H h a c p fl):∃oe vs a0,h.get? a=some oe/\(oe.cls=.ref c/\oe.dict=p.1)/\oe.data=.fields vs/\YK vs a0 p.2:=by
 obtain⟨oe,vs,a0,T,oT,ts,he,PM,hd,h0,_⟩:=F;exact⟨oe,vs,a0,he,PM,hd,h0⟩
theorem Ym(xo:OA X K P C Z)(rE:X.stack=X.env::X.outer)(fr:X.env.frame=some X.env.locals){D:Ends}{nm:Option aA}
  (QH:RE X body λX=>QG X K P C W cb) (hx:Z.pL x=.GA cs) (I:dA X bA Y H s) (r:CA K U Y H G) (q:aD P C W cb U=some (x0,U1)) (hc:cs.contains x0.cls=true)
  (h:∀{E UD Y' H' G' s' a Ca p},MB K U Y H G U1 Y' H' G'->dA (Cx.re X E (X.pn++bA)) UD Y' H' s'->yC (Cx.re X E (X.pn++bA)) UD H' a->kI (Cx.re X E (X.pn++bA)) UD H' s'.heap a Ca p .none ->
   JB K oB x0.cls=some (some (.ref Ca))->DE K Ca->sM K G' Ca p x0->fM (model X.prog X.w) (X.A.mark (some (.ref a))) (.handlers (.ref a) [.ExceptHandler none nm su hp] X.env) (λr s₂=>match r with
    |.ok f=>(match nm with
     |none=>SP X bA D f s₂
     |some n=>AA (model X.prog X.w) X.A (do bindName X.env n .none;unbindBehindTheSuite X.env n hp) (λ_ s₃=>SP X bA D f s₃) X.xe s₂)
    |.error x=>cameBackBy (model X.prog X.w) X.A X.env X.xe x s₂) s') :
  AA (model X.prog X.w) X.A (exec (.Try body [.ExceptHandler (some (.Name x np)) nm su hp] [] [] pos) X.env) (SP X bA D) X.xe s:=by
 refine wpAny_Try_except (AE (QH _ (X.pn++bA) Kp [] s Y H o7 (ag I) ⟨U,G,x0,U1,r,q,λUD Y' H' G' s' a Ca pp bH I' F JD hg zL=>?_⟩) (λf s1 h1=>(SP.no h1).elim) λ_ _ z=>z);refine C7 (X:=Cx.re X _ (X.pn++bA)) I' rE fr F λh1 I1 F1=>OV (X:=Cx.re X _ (X.pn++bA)) I1 F.1 F1 λh2 I2 F2=>?_
 obtain⟨D0,d1,d2,d3,d4,d5⟩:=Yy xo hx (c:=x0.cls) (by simpa using hc) JD;have hK:=xo.VC;subst hK;obtain⟨oe,_,_,he,PM,_⟩:=F2.c;refine wpAny_handleBy_cons (codeAny_handlers_test (rO (X:=Cx.ma (Cx.re X _ (X.pn++bA)) (.ref a)) (D5 I2) d4 d1 ?_ d5)) (by intro z;cases z);exact Ry (D5 (v:=.ref a) I2).pE hg.q.choose_spec d2.choose_spec d3 he PM.1 (h bH I2 F.1 F2 JD hg zL)
def oXa(xo:OA X K P C Z)(rE:X.stack=X.env::X.outer)(fr:X.env.frame=some X.env.locals){np hp pos:XB}{D:Ends}{n:aA}{i:Nat}{st:VA}
  (QH:RE X body λX=>QG X K P C W cb) (hx:Z.pL x=.GA cs) (I:dA X bA Y H s) (r:CA K U Y H G) (q:aD P C W cb U=some (x0,U1)) (hc:cs.contains x0.cls=true) (hi:X.N[i]?=some n) (hn:X.env.scope.names.lookup n=some .local)
  (h:∀{E F UD Y' H' G' s' a},MB K U Y H G U1 Y' H' G'->kA K G' (.uD x0.cls x0.num) (.ref a)->dA (Cx.ma (Cx.re X E (X.pn++bA)) (.ref a)) UD (Y'.set i (some (.ref a))) H' s' ->
   AA (model X.prog X.w) (X.A.mark (some (.ref a))) (execs (st::su) X.env) (λf s₃=>AA (model X.prog X.w) X.A (do bindName X.env n .none;unbindBehindTheSuite X.env n hp) (λ_ s₃=>SP X bA D f s₃) X.xe s₃) F s') :
  AA (model X.prog X.w) X.A (exec (.Try body [.ExceptHandler (some (.Name x np)) (some n) (st::su) hp] [] [] pos) X.env) (SP X bA D) X.xe s:=by
 refine Ym xo rE fr QH hx I r q hc λbH I2 fa F2 JD hg zL=>codeAny_handlers_suite_as (OV I2 fa F2 λh3 I3 F3=>?_)
 obtain⟨oe,vs,_,he,PM,hd,_⟩:=F3.c
 refine D8 (X:=Cx.ma (Cx.re X _ (X.pn++bA)) _) (v:=.ref _) (D5 (E5 (o:=.ext (CH _ _ _)) I3 fa ⟨⟨oe,vs,he,PM,hd⟩,⟨oe,he⟩,λh4 h5 z w=>by
  obtain⟨o1,v1,z1,z2,z3⟩:=z
  exact⟨o1,v1,w o1 z1,z2,z3⟩⟩)) (by rw[xo.VH];exact xo.nd) hi (.inl hn) rfl (λs5 I5=>h (bH.trans ⟨bH.lA.qJ fa.1,Ext.qJ bH.lA.sub fa.1,λ_ h=>.inl h,λ_ h=>⟨h,rfl⟩,λ_ d _ h=>⟨rfl,d,h⟩,rfl⟩) ?_ I5) (.inr hn)
 simp only[kA];exact⟨_,_,_,rfl,JD,hg,fC,zL.pay.mono (Sm.laid (fB.free bH.lA.sub fa.1))⟩
def mRa(xo:OA X K P C Z)(rE:X.stack=X.env::X.outer)(fr:X.env.frame=some X.env.locals)
  (hb:RE X body λ_=>IE K P C W cb) (QH:RE X body λX=>QG X K P C W cb)
  (hx:Z.pL x=.GA cs) (hi:X.N[i]?=some n) (hn:X.env.scope.names.lookup n=some .local) (zS:NF n=false) (hj:X.N[j]?=some y) (hy:L2.Loc X.env.scope y) (hyf:X.fn y=true\/X.env.scope.names.lookup y=some .local) :
  PS X (.Try body [.ExceptHandler (some (.Name x np)) (some n) [.Assign [.Name y p3] (.Name n p4) p5] hp] [] [] pos) (tS K P C W (.kR cb cs i j)):=by
 intro bA s Y H D I ⟨U,G,fl,U',r,e,k⟩;replace e:(match GA P C W cb U with | some (.nx,U1)=>some (.nx,U1) | _=>QN cs i j (aD P C W cb U))=some (fl,U'):=e;split at e
 ·rename_i U1 q;cases e;exact Zm hb I ⟨U,G,.nx,U',r,q,k⟩
 ·unfold QN at e;split at e
  ·cases e
  ·rename_i x0 U1 q;split at e
   ·rename_i hc
    cases q2:store i (.sh (.uD x0.cls x0.num)) U1 with
    |none=>rw[q2] at e;cases e
    |some U2 =>
     rw[q2] at e;simp only[GF] at e
     cases q3:store j (.sh (.uD x0.cls x0.num)) U2 with
     |none=>rw[q3] at e;cases e
     |some U3 =>
      rw[q3] at e;cases e;simp only[NF,y9] at zS;have hN:X.N.Nodup:=by rw[xo.VH];exact xo.nd
      refine oXa xo rE fr QH hx I r q hc.1 hi hn λ{E F UD Y' H' G' s' a} bH rep I5=>?_
      have il:i<(Y'.set i (some (.ref a))).length:=by rw[I5.len];exact(MD.mp hi).1
      refine AE (qRa (Gj (X:=Cx.ma (Cx.re X E (X.pn++bA)) (.ref a)) (pos:=p5) (pos':=p3) (i:=j) hN hj hy (bY (pos:=p4) hi (.inl hn) zS.1.1 zS.1.2) rfl hyf) UD s' _ _ { o7 with nx:=λY6 H6=>Y6=(Y'.set i (some (.ref a))).set j (some (.ref a))/\H6=H' } I5 ⟨.ref a,gI (by simpa using il),rfl,rfl⟩) (λf s6 h6=>?_) λ_ _ z=>z.elim
      cases f with
      |next =>
       obtain⟨Y6,H6,J,rfl,rfl⟩:=h6;exact j_ (nBa I.ok J) hN hi hn λs7 J7=>⟨_,_,J7,k _ _ _ (qt bH rep q2 q3 hc.2)⟩
      |ret u=>obtain⟨_,_,_,_,_,z⟩:=h6;exact z.elim
      |_=>obtain⟨_,_,_,z⟩:=h6;exact z.elim
   ·cases e
def jRa(hc:∀U,ex P C W c U=GA P C W cb U)
  (hb:RE X body λ_=>IE K P C W cb):PS X (.Try body [h0] [] [] pos) (tS K P C W c) :=
 λbA s Y H D I ⟨U,G,fl,U',r,e,k⟩=>Zm hb I ⟨U,G,fl,U',r,(hc U).symm.trans e,k⟩
def pXa(xo:OA X K P C Z)(rE:X.stack=X.env::X.outer)(fr:X.env.frame=some X.env.locals){D:Ends}{st:VA}
  (QH:RE X body λX=>QG X K P C W cb) (hx:Z.pL x=.GA cs) (I:dA X bA Y H s) (r:CA K U Y H G) (q:aD P C W cb U=some (x0,U1)) (hc:cs.contains x0.cls=true)
  (h:∀{E UD Y' H' G' s' a Ca p},MB K U Y H G U1 Y' H' G'->dA (Cx.re X E (X.pn++bA)) UD Y' H' s'->yC (Cx.re X E (X.pn++bA)) UD H' a->kI (Cx.re X E (X.pn++bA)) UD H' s'.heap a Ca p .none->sM K G' Ca p x0 ->
   AA (model X.prog X.w) (X.A.mark (some (.ref a))) (execs (st::su) X.env) (SP X bA D) (notedBy (model X.prog X.w) (X.A.mark (some (.ref a))) X.env (cameBackBy (model X.prog X.w) X.A X.env X.xe)) s') :
  AA (model X.prog X.w) X.A (exec (.Try body [.ExceptHandler (some (.Name x np)) none (st::su) hp] [] [] pos) X.env) (SP X bA D) X.xe s :=
 Ym xo rE fr QH hx I r q hc λbH I2 fa F2 _ _ zL=>codeAny_handlers_suite (OV I2 fa F2 λh3 I3 F3=>h bH I3 fa F3 zL)
def kRa
  (hb:RE X body λ_=>IE K P C W cb):PS X (.Try body hs o f pos) (tS K P C W (MY cb hs o f)):=cC
def Cj{st:VA}(h:∀U,UC P C W c U=none):PS X st (iF X K P C W c):=λbA s Y H D I hz=>by obtain⟨U,G,x,U',r,e,k⟩:=hz;rw[h] at e;cases e
def jQa:PS X (.Try body hs o f pos) (iF X K P C W (MY cb hs o f)):=by
 unfold MY
 (repeat' split)<;>exact Cj λU=>by rw[UC]<;>intros<;>contradiction
abbrev Cx.mr(X:Cx)(v:cA)(E:cA->xA->Prop):Cx:={ X with A:=X.A.mark (some v),calm:=false,xe:=E }
def qBa{E:cA->xA->Prop}(I:dA X bA Y H s):dA (Cx.mr X v E) bA Y H s :=
 ⟨⟨I.ok.mod,I.ok.kind,I.ok.glob,I.ok.AB,I.ok.above,I.ok.inj,I.ok.has,I.ok.eL,(λz=>nomatch z),I.ok.frames,I.ok.rE,I.ok.eQ,I.ok.bs,I.ok.lI,I.ok.IL,I.ok.HM,I.ok.XF,I.ok.YI⟩,I.os,I.bare,I.base,I.loc,I.cell,I.free,I.ZE,I.pin,I.HA,I.len⟩
def rBa{E E':cA->xA->Prop}(o:X.Ok)(I:dA (Cx.mr (Cx.re X E (X.pn++bA)) v E') UD Y H s):dA X bA Y H s :=
 ⟨o,I.os,I.bare,I.base,I.loc,I.cell,I.free,I.ZE,λp hp=>I.pin p (oN _ hp),I.HA,I.len⟩
def De{E E':cA->xA->Prop}(f:yC (Cx.mr (Cx.re X E (X.pn++bA)) v E') UD H b):yC X bA H b:=⟨f.1,f.2.1,f.2.2.1,f.2.2.2.1,f.2.2.2.2.1,λp hp=>f.2.2.2.2.2 p (oN _ hp)⟩
def du{E E':cA->xA->Prop}(rE:X.stack=X.env::X.outer)(fr:X.env.frame=some X.env.locals)(o:X.Ok)(I:dA (Cx.mr (Cx.re X E (X.pn++bA)) (.ref a) E') UD Y H s)(F:jI (Cx.mr (Cx.re X E (X.pn++bA)) (.ref a) E') UD H s.heap b c p)
  (h:∀s',dA X bA Y H s'->jI X bA H s'.heap b c p->X.xe (.ref b) s'):notedBy (model X.prog X.w) (X.A.mark (some (.ref a))) X.env (cameBackBy (model X.prog X.w) X.A X.env X.xe) (.ref b) s:=by
 refine C7 (X:=Cx.mr (Cx.re X _ (X.pn++bA)) (.ref a) _) I rE fr F λh5 I5 F5=>?_
 obtain⟨oe,vs,_,T,_,_,he,_,hd,_,_,h1,_⟩:=id F5;unfold cameBackBy;refine FA (SG he hd h1 ?_);rw[qB (show ¬((Value.ref T==Value.none)=true) from by simp)];refine se I5 F.1 F5 λh6 I6 F6=>?_
 obtain⟨oe,vs,a6,T,oT,ts,he,hc,hd,h0,fT,hr⟩:=F6;exact h _ (rBa o I6) ⟨De F.1,.inr ⟨_,oe,vs,a6,T,oT,ts,he,hc,hd,h0,De fT,hr⟩⟩
def kQa(xo:OA X K P C Z)(rE:X.stack=X.env::X.outer)(fr:X.env.frame=some X.env.locals)
  (QH:RE X body λX=>QG X K P C W cb) (hx:Z.pL x=.GA cs) (hy:Z.glob ("NoText":aA)=.exc) :
  PS X (.Try body [.ExceptHandler (some (.Name x np)) none [.Raise (some (.Call (.Name "NoText" p) [.Constant (.str m) k1 p1] [] p2)) none p3] hp] [] [] pos) (iF X K P C W (.SO cb cs)):=by
 intro bA s Y H D I ⟨U,G,x1,U',r,e,k⟩;simp only[UC,ZR] at e;split at e
 ·cases e
 ·rename_i x0 U1 q;split at e
  ·rename_i hc;cases e;have hK:=xo.VC;subst hK;obtain⟨g1,g2,g3,g4⟩:=CC.wG xo hy (λz=>nomatch z);obtain⟨Cn,c1,c2,c3,c4⟩:=(xo.exc "NoText" g2).ex;refine pXa xo rE fr QH hx I r q hc.1 λbH I3 fa F3 zL=>?_
   obtain⟨oe,vs,a0,he,_,hd,h0⟩:=F3.c
   exact T9 (vSa (X:=Cx.mr (Cx.re X _ (X.pn++bA)) (.ref _) _) (t:=OG (tC (.str m)) NI) (D:=D) rfl g1 c2 c4 (eG aN XH rfl) g3 rfl rfl (qBa I3) ⟨fa.1,fa.2⟩ he hd (h0.2 (zL.2 hc.2))
    ⟨by rw[dM];simp,λpn2 b s4 I4 F4=>du rE fr I.ok I4 F4 λs6 I6 F6=>k bA _ _ _ s6 b Cn (none,false) bH I6 F6 c1 c3 ⟨trivial,λz=>absurd rfl z⟩⟩)
  ·cases e
def lRa
  (hb:RE X body λ_=>IE K P C W cb):PS X (.Try body hs [] [] pos) (tS K P C W (aU Z cb hs)):=by
 unfold aU;split
 ·rename_i x hh;obtain⟨np,st,q,rfl,_⟩:=xf hh;split
  ·exact jRa (λU=>rfl) hb
  ·exact cC
 ·exact kRa hb
def lQa(xo:OA X K P C Z)(rE:X.stack=X.env::X.outer)(fr:X.env.frame=some X.env.locals)
  (QH:RE X body λX=>QG X K P C W cb):PS X (.Try body hs [] [] pos) (iF X K P C W (aU Z cb hs)):=by
 unfold aU;split
 ·rename_i x hh;obtain⟨np,st,q,rfl,hr⟩:=xf hh;obtain⟨p,m,k,p1,p2,p3,rfl⟩:=iTa hr;split
  ·exact kQa xo rE fr QH ‹_› ‹_›
  ·exact Cj λU=>by rw[UC]<;>intros<;>contradiction
 ·exact jQa
def eRa(xo:OA X K P C Z)(hi:Z.slot x=some i)(n:SD e=true)(n2:XM k=true):PS X (.Assign [.Subscript (.Name x p) k p2] e pos) (tS K P C W (VQ i k (cE Z k) (cE Z e))):=by
 have h:PS X (.Assign [.Subscript (.Name x p) k p2] e pos) (tS K P C W (.set i (cE Z k) (cE Z e))):=fRa xo hi (VE xo _) (VE xo _) n λv=>by cases k<;>first | rfl | cases n2
 unfold VQ;split
 ·obtain⟨j,q,rfl⟩:=DY ‹_›;exact gRa xo hi (VE xo _) n
 ·exact h
def iRa(xo:OA X K P C Z):PS X (.Assign [.Tuple ts k p] e pos) (tS K P C W (iR Z ts e (cE Z e))):=by
 unfold iR;split
 ·split
  ·rename_i t1 t2 q1 q2 h1 h2;split
   ·rename_i h;split
    ·rename_i i hi;rw[qA,qA,qA] at h;obtain⟨x1,k1⟩:=q1;obtain⟨x2,k2⟩:=q2;obtain⟨_,_,rfl⟩:=kl h1;obtain⟨_,_,rfl⟩:=kl h2;obtain rfl:x1=x2:=jB h.1.1.1;exact hRa xo hi (VE xo _) (VE xo _) (VE xo _) h.1.1.2 h.1.2 h.2
    ·exact cC
   ·exact cC
  ·exact cC
 ·exact cC
end
section
variable{K:fA}
def vY(xo:OA X K P C Z)(h:Z.sF x=some i):X.N[i]?=some x/\L2.Loc X.env.scope x/\Z.iO x=true:=by
 unfold CC.sF at h;split at h
 ·rename_i hl
  have hN:X.N[i]?=some x:=by
   unfold CC.slot at h;split at h
   ·cases h
   ·split at h
    ·rw[xo.VH];exact cX h
    ·cases h
  refine⟨hN, ?_,hl⟩;unfold L2.Loc;rw[xo.nm];unfold CC.iO at hl;rw[BH,qA] at hl;rcases hl with hl | hl
  ·exact .inl (jB hl)
  ·exact .inr (jB hl.2)
 ·cases h
def oQa(xo:OA X K P C Z)(bC:UI X Z){x:aA}{i:Nat}{e:sA}{c:E}{p pos:XB}(hi:Z.sF x=some i)(h:GP X K P C e c):PS X (.Assign [.Name x p] e pos) (tS K P C W (.kB i c)):=by
 obtain⟨h1,h2,h3⟩:=vY xo hi;refine TS.EE (h x i p pos (by rw[xo.VH];exact xo.nd) h1 h2 (bC x h3)) λD Y H hz=>?_
 obtain⟨U,G,fl,U',r,e,k⟩:=hz;obtain⟨v,U1,e1,e2⟩:=XI e k.ne;unfold YF at e2
 cases q:store i v U1 with
 |none=>rw[q] at e2;cases e2
 |some U2 =>
  rw[q] at e2;cases e2;exact⟨U,G,v,U1,r,e1,λx H' G' a hv=>k _ H' G' (DA.store r a q hv)⟩
def Ez(xo:OA X K P C Z)(bC:UI X Z){tg it:sA}{one:Bool}{is:List Nat}{k0:wF}{gA:List sA}{Φ:List E->Prop}
  (ht:qH Z tg=some (one,is)) (hi:pK Z it=some (k0,gA)) (mQ:EJ k0 one=true) (XA:∀{wi:TI} {its':List E},(∀x,OJ it X.env x=pure x)->PI X tg it wi->(∀Y H (R:It->Hp->Prop),SK K P C k0 its' Y H R->wi Y H R)->Φ its'):Φ (xB Z gA):=by
 have gen:∀e:sA,it=e->TX e=true->some (wF.of,[e])=some (k0,gA)->Φ (xB Z gA):=λe he hn hq=>by(subst he;cases hq;exact XA (B3 hn _) (PI.or (uj (VE xo it).h) (xj (VE xo it).h)) λY H R q=>Ni xo.VC Y H R q)
 unfold pK at hi;split at hi
 ·rename_i x hx;obtain⟨⟨f,p⟩,args,pos'⟩:=x;obtain rfl:=mX hx;dsimp only at hi;split at hi
  ·rename_i hf;have hf:=jB hf;subst hf;split at hi
   ·rename_i sL;split at hi
    ·rename_i hc;cases hi;rw[qA] at hc;obtain⟨h1,h2,h3,h4⟩:=CC.wG xo sL (λz=>nomatch z);have hm:=xo.AB _ h2;obtain _ | ⟨a,_ | ⟨b,_ | ⟨_,_⟩⟩⟩:=gA
     ·simp at hc
     ·have ns:=hc.1;rw[TB,qA] at ns;exact XA (λ_=>rfl) (vj h1 hm (YR xo [a] hc.1) (by rw[MC ns.1];rfl)) λY H R q=>ek Y H R q
     ·have ns:=hc.1;rw[TB,qA,TB,qA] at ns;exact XA (λ_=>rfl) (wj h1 hm (YR xo [a,b] hc.1) (by rw[MC ns.1,MC ns.2.1];rfl) (by rw[MC ns.2.1];rfl)) λY H R q=>fk Y H R q
     ·simp at hc
    ·cases hi
   ·cases hi
  ·split at hi
   ·rename_i hf;have hf:=jB hf;subst hf;split at hi
    ·rename_i sL;split at hi
     ·rename_i hc;cases hi;rw[qA] at hc;obtain⟨h1,h2,h3,h4⟩:=CC.wG xo sL (λz=>nomatch z);have hm:=xo.AB _ h2;obtain _ | ⟨a,_ | ⟨_,_⟩⟩:=gA
      ·simp at hc
      ·have ns:=hc.1;rw[TB,qA] at ns;obtain⟨elts,kk,tp,rfl⟩:=T8 ht (by simpa[EJ] using mQ);exact XA (λ_=>rfl) (tj h1 hm (YR xo [a] hc.1) (by rw[MC ns.1];rfl)) λY H R q=>C2 xo.VC Y H R q
      ·simp at hc
     ·cases hi
    ·cases hi
   ·exact gen _ rfl rfl hi
 ·split at hi
  ·rename_i x h0;obtain⟨f,a,x,c⟩:=x;obtain⟨p,jj,qq,kp,pos',rfl⟩:=aDa h0;clear h0;dsimp only at hi;split at hi
   ·rename_i hc;rw[qA,qA,qA] at hc;obtain⟨⟨⟨hf,hx⟩,ns⟩,h1⟩:=hc;have hf:=jB hf;have hx:=jB hx;have h1:=jB h1;subst hf hx h1;split at hi
    ·rename_i sL;cases hi;obtain⟨h1,h2,h3,h4⟩:=CC.wG xo sL (λz=>nomatch z);have hm:=xo.AB _ h2;obtain⟨elts,kk,tp,rfl⟩:=T8 ht (by simpa[EJ] using mQ);exact XA (λ_=>rfl) (oPa h1 hm (YR xo [_] (by rw[TB,ns];rfl)) (by rw[MC ns];rfl)) λY H R q=>C2 xo.VC Y H R q
    ·cases hi
   ·cases hi
  ·split at hi
   ·exact gen _ rfl ‹_› hi
   ·cases hi
def Ae(xo:OA X K P C Z)(bC:UI X Z){tg it:sA}{body:List VA}{one:Bool}{is:List Nat}{k0:wF}{gA:List sA}{Φ:List E->Prop}
  (ht:qH Z tg=some (one,is)) (hi:pK Z it=some (k0,gA)) (mQ:EJ k0 one=true) (XA:∀{wi:TI} {its':List E},(∀x,OJ it X.env x=pure x)->PI X tg it wi->(∀Y H (R:It->Hp->Prop),SK K P C k0 its' Y H R->wi Y H R)->Φ its'):Φ (zQ Z it body (xB Z gA)):=by
 exact Ez xo bC ht hi mQ XA
theorem Wd:∀{cs:List E} {ds:List D} {U U':Env},ZD P C cs U=some (.ok ds,U')->ds.length=cs.length
 |[],_,_,_,h=>by simp only[ZD] at h;cases h;rfl
 |c::cs,ds,U,U',h=>by(simp only[ZD] at h;obtain⟨v,U1,_,h⟩:=rB h;obtain⟨KG,U2,h2,h⟩:=rB h;cases h;rw[IC,IC,Wd h2])
structure tM(X:Cx)(K:fA)(P:YA)(C:Calls)(Z:CC):Prop where
 po:xN (model X.prog X.w) X.A X.env X.xe
 xo:OA X K P C Z
 bC:UI X Z
 sk:Z.top=true->X.stack=X.env::X.outer/\X.env.frame=some X.env.locals
def LR(K:fA)(P:YA)(C:Calls)(W:Nat)(Z:CC)(n:Nat):Prop:=∀X:Cx,tM X K P C Z->∀LD:List VA,sizeOf LD<n ->
 XC X LD (IE K P C W (tD Z LD))/\XC X LD (QG X K P C W (tD Z LD))
theorem tM.re{E:cA->xA->Prop}(c:tM X K P C Z)(po:xN (model X.prog X.w) X.A X.env E):tM (Cx.re X E pn) K P C Z:=⟨po,c.xo.re,c.bC,c.sk⟩
def Kc(ih:LR K P C W Z n)(cx:tM X K P C Z)(st:VA)(hZ:sizeOf st<n+1):PS X st (tS K P C W (cS Z st)):=by
 obtain⟨po,xo,bC,sk⟩:=id cx
 cases st with
 |Pass _=>exact yQa
 |Break _=>exact qQa
 |Continue _=>exact rQa
 |Return e _ =>
  cases e with
  |some e=>exact dRa (VE xo e)
  |none=>exact cRa
 |Expr e _ =>
  show PS X _ (tS K P C W (if SD e then .expr (cE Z e) else .nA));split
  ·exact uQa (VE xo _) ‹_›
  ·exact cC
 |If c a b _=>exact vQa (VE xo _) (ih _ cx a (EB hZ)).1 (ih _ cx b (EB hZ)).1
 |While c b o _ =>
  cases o with
  |nil=>exact cC
  |cons _ _=>exact cC
 |For tg it b o _ =>
  cases o with
  |nil =>
   show PS X _ (tS K P C W (match qH Z tg,pK Z it with
    |some (one,is),some (k,gA)=>if EJ k one then .for is one k (zQ Z it b (xB Z gA)) (tD Z b) else .nA
    |_,_=>.nA))
   cases h1:qH Z tg with
   |none=>exact cC
   |some t =>
    cases h2:pK Z it with
    |none=>exact cC
    |some u =>
     show PS X _ (tS K P C W (if EJ u.1 t.1 then .for t.2 t.1 u.1 (zQ Z it b (xB Z u.2)) (tD Z b) else .nA));split
     ·exact Ae xo bC h1 h2 ‹_› (Φ:=λits'=>PS X (.For tg it b [] _) (tS K P C W (.for t.2 t.1 u.1 its' (tD Z b)))) λhs hi hw=>Dz po xo (U8 xo bC h1) (ih _ cx b (EB hZ)).1 hs hi hw
     ·exact cC
  |cons _ _=>exact cC
 |Assign ts e _ =>
  obtain _ | ⟨t,_ | ⟨_,_⟩⟩:=ts
  ·exact cC
  ·cases t with
   |Name x p =>
    show PS X _ (tS K P C W (match Z.sF x with | some i=>if SD e||MS e then .kB i (cE Z e) else .nA | none=>.nA));split
    ·split
     ·rename_i hc;rw[BH] at hc;rcases hc with hc | hc
      ·exact mQa xo bC ‹_› (VE xo _) hc
      ·exact oQa xo bC ‹_› (gKa xo _ hc)
     ·exact cC
    ·exact cC
   |Tuple ts _ _ =>
    show PS X _ (tS K P C W (match zK Z ts with | some is=>if SD e&&iT e then .wM is (cE Z e) else .nA | none=>iR Z ts e (cE Z e)));split
    ·split
     ·rename_i h;rw[qA] at h;exact nQa xo bC ‹_› (VE xo _) h.1 h.2
     ·exact cC
    ·exact iRa xo
   |Subscript a k _ =>
    cases a with
    |Name x p =>
     show PS X _ (tS K P C W (match Z.slot x with | some i=>if SD e&&XM k then VQ i k (cE Z k) (cE Z e) else .nA | none=>.nA));split
     ·split
      ·rename_i h;rw[qA] at h;exact eRa xo ‹_› h.1 h.2
      ·exact cC
     ·exact cC
    |_=>exact cC
   |_=>exact cC
  ·cases t with
   |Subscript a _ _=>cases a<;>exact cC
   |_=>exact cC
 |AugAssign t op e _ =>
  cases t with
  |Name x p =>
   cases op with
   |Add =>
    show PS X _ (tS K P C W (match Z.sF x with | some i=>if SD e then .nA else .nA | none=>.nA));split
    ·split
     ·exact cC
     ·exact cC
    ·exact cC
   |_=>exact cC
  |_=>exact cC
 |Raise e c _ =>
  cases e with
  |none=>exact cC
  |some e =>
   cases c with
   |none =>
    show PS X _ (tS K P C W (CT Z e));unfold CT nY;split
    ·split
     ·split
      ·exact N7 λU=>rfl
      ·exact N7 λU=>rfl
      ·exact cC
     ·exact cC
    ·exact cC
   |some _=>exact cC
 |Try body hs o f _ =>
  show PS X _ (tS K P C W (ZT Z (tD Z body) hs o f));unfold ZT;split
  ·rename_i dO;rw[qA] at dO;obtain rfl:=vU.mp dO.1;obtain rfl:=vU.mp dO.2;split
   ·rename_i x n bd hh;obtain⟨np,hp,rfl⟩:=cAa hh;split
    ·rename_i hc;rw[qA] at hc;obtain⟨h2,h3⟩:=hc;have h2:=jB h2;obtain⟨s1,s2⟩:=sk h3;split
     ·unfold X8;split
      ·rename_i y n' ha;obtain⟨p3,p4,p5,rfl⟩:=Ht ha;split
       ·rename_i h1;have h1:=jB h1;subst h1;split
        ·rename_i cs i j e1 e2 e3;obtain⟨a1,a2,a3⟩:=vY xo e2;obtain⟨b1,b2,b3⟩:=vY xo e3
         have zS:NF n'=false:=by
          cases z:NF n' with
          |false=>rfl
          |true =>
           have w:Z.slot n'=none:=by unfold CC.slot;rw[uA z]
           unfold CC.sF at e2;rw[w] at e2;simp at e2
         exact mRa xo s1 s2 (λE pn yO=>(ih _ (cx.re yO) body (EB hZ)).1) (λE pn yO=>(ih _ (cx.re yO) body (EB hZ)).2) e1 a1 (by rw[xo.nm];exact h2) zS b1 b2 (bC y b3)
        ·exact cC
       ·exact cC
      ·exact cC
     ·split
      ·exact cC
      ·exact cC
    ·exact cC
   ·split
    ·exact lRa λE pn yO=>(ih _ (cx.re yO) body (EB hZ)).1
    ·exact cC
  ·exact cC
 |_=>exact cC
def Xu{n:Nat}(ih:LR K P C W Z n){X:Cx}(cx:tM X K P C Z)(LD:List VA)(hZ:sizeOf LD<n+1):XC X LD (IE K P C W (tD Z LD)):=by
 obtain⟨po,xo,bC,sk⟩:=id cx
 cases LD with
 |nil=>exact pRa
 |cons s r=>exact oRa (Kc ih cx s (wN (by simp;lia) hZ)) (ih _ cx r (EB hZ)).1
def Tu(ih:LR K P C W Z n)(cx:tM X K P C Z)(st:VA)(hZ:sizeOf st<n+1):PS X st (iF X K P C W (cS Z st)):=by
 obtain⟨po,xo,bC,sk⟩:=id cx;have no:∀{st:VA} (c:S),(∀U,UC P C W c U=none)->PS X st (iF X K P C W c):=λc h bA s Y H D I hz=>by obtain⟨U,G,x,U',r,e,k⟩:=hz;rw[h] at e;cases e
 have nA:∀{st:VA},PS X st (iF X K P C W .nA):=no .nA λU=>by rw[UC]<;>intros<;>contradiction
 cases st with
 |Pass _=>exact no .pass λU=>by rw[UC]<;>intros<;>contradiction
 |Break _=>exact no .brk λU=>by rw[UC]<;>intros<;>contradiction
 |Continue _=>exact no .cnt λU=>by rw[UC]<;>intros<;>contradiction
 |Return e _ =>
  cases e with
  |none=>exact no .jY λU=>by rw[UC]<;>intros<;>contradiction
  |some e=>exact TS.EE (O7 (S0 xo e)) λD Y H ⟨U,G,x,U',r,e0,k⟩=>⟨U,G,x,U',r,(show UC P C W (.ret (cE Z e)) U=some (x,U') from e0),k⟩
 |Expr e _ =>
  show PS X _ (iF X K P C W (if SD e then .expr (cE Z e) else .nA));split
  ·exact TS.EE (Dj (S0 xo e) (FY ‹_› _ _ _)) λD Y H ⟨U,G,x,U',r,e0,k⟩=>⟨U,G,x,U',r,by simpa only[UC] using e0,k⟩
  ·exact nA
 |If c a b _ =>
  refine TS.EE (Fj (VE xo c).t (ih _ cx a (EB hZ)).2 (ih _ cx b (EB hZ)).2) λD Y H hz=>?_
  obtain⟨U,G,x,U',r,e0,k⟩:=hz;replace e0:UC P C W (.wA (cE Z c) (tD Z a) (tD Z b)) U=some (x,U'):=e0;simp only[UC] at e0;split at e0
  ·rename_i U1 q;exact⟨U,G,true,U1,r,q,λH1 G1 a1=>⟨U1,G1,x,U',a1.lA,e0,k.pre (DA.s r a1)⟩⟩
  ·rename_i U1 q;exact⟨U,G,false,U1,r,q,λH1 G1 a1=>⟨U1,G1,x,U',a1.lA,e0,k.pre (DA.s r a1)⟩⟩
  ·cases e0
 |While c b o _ =>
  cases o with
  |nil=>exact nA
  |cons _ _=>exact nA
 |For tg it b o _ =>
  cases o with
  |nil =>
   show PS X _ (iF X K P C W (match qH Z tg,pK Z it with
    |some (one,is),some (k,gA)=>if EJ k one then .for is one k (zQ Z it b (xB Z gA)) (tD Z b) else .nA
    |_,_=>.nA))
   cases h1:qH Z tg with
   |none=>exact nA
   |some t =>
    cases h2:pK Z it with
    |none=>exact nA
    |some u =>
     show PS X _ (iF X K P C W (if EJ u.1 t.1 then .for t.2 t.1 u.1 (zQ Z it b (xB Z u.2)) (tD Z b) else .nA));split
     ·exact Ae xo bC h1 h2 ‹_› (Φ:=λits'=>PS X (.For tg it b [] _) (iF X K P C W (.for t.2 t.1 u.1 its' (tD Z b)))) λhs hi hw=>Cz po xo (U8 xo bC h1) (ih _ cx b (EB hZ)).1 (ih _ cx b (EB hZ)).2 hs hi hw
     ·exact nA
  |cons _ _=>exact nA
 |Assign ts e _ =>
  obtain _ | ⟨t,_ | ⟨_,_⟩⟩:=ts
  ·exact nA
  ·cases t with
   |Name x p =>
    show PS X _ (iF X K P C W (match Z.sF x with | some i=>if SD e||MS e then .kB i (cE Z e) else .nA | none=>.nA));split
    ·rename_i i hi;split
     ·intro bA s Y H D I ⟨U,G,x0,U',r,e0,k⟩;simp only[UC] at e0;obtain⟨h1,h2,h3⟩:=vY xo hi;rcases Pc (dQ e0) with ⟨f,p',a,r',pos',g,rfl,_⟩ | ⟨LA,tg,RA,wA,sc,pos',rfl,hq⟩
      case inr=>exact Yu xo hq W x i p _ (by rw[xo.VH];exact xo.nd) h1 h2 (bC x h3) bA s Y H D I ⟨U,G,x0,U',r,e0,k⟩
      exact Gj (by rw[xo.VH];exact xo.nd) h1 h2 (S0 xo _) (FY rfl _ _ _) (bC x h3) bA s Y H D I ⟨U,G,x0,U',r,e0,k⟩
     ·exact nA
    ·exact nA
   |Tuple ts _ _ =>
    show PS X _ (iF X K P C W (match zK Z ts with | some is=>if SD e&&iT e then .wM is (cE Z e) else .nA | none=>iR Z ts e (cE Z e)));split
    ·split
     ·exact no (.wM _ _) λU=>by rw[UC]<;>intros<;>contradiction
     ·exact nA
    ·unfold iR
     (repeat' split)<;>first | exact nA | exact no (.eR _ _ _ _) λU=>by rw[UC]<;>intros<;>contradiction
   |Subscript a k _ =>
    cases a with
    |Name x p =>
     show PS X _ (iF X K P C W (match Z.slot x with | some i=>if SD e&&XM k then VQ i k (cE Z k) (cE Z e) else .nA | none=>.nA));split
     ·split
      ·unfold VQ;(repeat' split)<;>first | exact no (.set _ _ _) λU=>by rw[UC]<;>intros<;>contradiction | exact no (.DO _ _ _) λU=>by rw[UC]<;>intros<;>contradiction
      ·exact nA
     ·exact nA
    |_=>exact nA
   |_=>exact nA
  ·cases t with
   |Subscript a _ _=>cases a<;>exact nA
   |_=>exact nA
 |AugAssign t op e _ =>
  cases t with
  |Name x p =>
   cases op with
   |Add =>
    show PS X _ (iF X K P C W (match Z.sF x with | some i=>if SD e then .nA else .nA | none=>.nA));split
    ·split
     ·exact nA
     ·exact nA
    ·exact nA
   |_=>exact nA
  |_=>exact nA
 |Raise e c _ =>
  cases e with
  |none=>exact nA
  |some e =>
   cases c with
   |none =>
    show PS X _ (iF X K P C W (CT Z e));unfold CT;split
    ·rename_i x0 VM;obtain⟨⟨x,np⟩,args,aB⟩:=x0;obtain rfl:=mX VM;show PS X _ (iF X K P C W (nY Z x args));unfold nY;split
     ·rename_i hc;split
      ·rename_i hg;rw[qA] at hc;obtain⟨h1,h2,h3,h4⟩:=CC.wG xo hg (λz=>nomatch z);obtain⟨Ca,c1,c2,c3,c4⟩:=(xo.exc x h2).ex;have hK:=xo.VC;obtain _ | ⟨a,aAc⟩:=args
       ·simp at hc
       ·have ns:=hc.1;rw[TB,qA] at ns;refine TS.EE (zQa xo.hh h1 c2 (by rw[hK];exact c4) (Jc xo (a::aAc) hc.1) h3 (MC ns.1 _ _) (zJ ns.2 _ _).1) λD Y H hz=>?_
        obtain⟨U,G,x0,U',r,e0,k⟩:=hz;simp only[UC] at e0;split at e0
        ·rename_i ds U1 q;cases e0;refine⟨U,G,ds,_,r,q,λxs H1 G1 a1 rx=>⟨?_,λbA b s' I' F=>k bA Y H1 G1 s' b Ca (none,true) (DA.s r a1) I' F c1 c3 (gj trivial)⟩⟩;rw[rx.len,Wd q,V0,dM]
         have:=hc.2
         simp at this;simp
         lia
        ·cases e0
      ·rename_i hg;rw[qA] at hc;obtain⟨h1,h2,h3,h4⟩:=CC.wG xo hg (λz=>nomatch z);obtain⟨Ca,c1,c2,c3,c4,c5⟩:=(xo.uG x h2).ex;have hK:=xo.VC;obtain _ | ⟨a,aAc⟩:=args
       ·simp at hc
       ·have ns:=hc.1;rw[TB,qA] at ns;refine TS.EE (aRa xo.hh xo.rm h1 c2 c4 (Jc xo (a::aAc) hc.1) h3 (MC ns.1 _ _) (zJ ns.2 _ _).1) λD Y H hz=>?_
        obtain⟨U,G,x0,U',r,e0,k⟩:=hz;simp only[UC] at e0;split at e0
        ·rename_i n U1 q;cases e0;refine⟨U,G,_,_,r,q,λxs H1 G1 a1 rx=>?_⟩;obtain⟨v,r',rfl,z1,z2⟩:=rx;cases z2;simp only[kA] at z1;subst z1;obtain⟨_,_,_,_,S,_⟩:=c4;refine⟨_,rfl,λbA b dx s' wI I' F=>k bA Y _ (vA G1 dx (.xd [(("number":aA),.int n)])) s' b Ca (some dx,true) (DA.s r (a1.qJ wI)) I' F c1 c3 (gj (rOa fC (by rw[<- hK];exact S) c5))⟩
        ·cases e0
      ·exact nA
     ·exact nA
    ·exact nA
   |some _=>exact nA
 |Try body hs o f _ =>
  show PS X _ (iF X K P C W (ZT Z (tD Z body) hs o f));unfold ZT X8 Xm;split
  ·rename_i dO;rw[qA] at dO;obtain rfl:=vU.mp dO.1;obtain rfl:=vU.mp dO.2;split
   ·split
    ·split
     ·split
      ·split
       ·split
        ·exact no (.kR _ _ _ _) λU=>by rw[UC]<;>intros<;>contradiction
        ·exact nA
       ·exact nA
      ·exact nA
     ·split
      ·exact nA
      ·exact nA
    ·exact nA
   ·split
    ·obtain⟨s1,s2⟩:=sk ‹_›;exact lQa xo s1 s2 λE pn yO=>(ih _ (cx.re yO) body (EB hZ)).2
    ·exact nA
  ·exact nA
 |_=>exact nA
def Vu{n:Nat}(ih:LR K P C W Z n){X:Cx}(cx:tM X K P C Z)(LD:List VA)(hZ:sizeOf LD<n+1):XC X LD (QG X K P C W (tD Z LD)):=by
 obtain⟨po,xo,bC,sk⟩:=id cx
 cases LD with
 |nil=>exact λbA s Y H D I hz=>by obtain⟨U,G,x,U',r,e,k⟩:=hz;simp only[tD,aD] at e;cases e
 |cons st aAc =>
  have FW:tD Z (st::aAc)=cS Z st::tD Z aAc:=by first | rfl | (show y0a (x0a Z st aAc) _ _=_;rw[qk];rfl)
  rw[FW];refine TS.x5 (P7 (wQa (Kc ih cx st (wN (by simp;lia) hZ)) (Tu ih cx st (wN (by simp;lia) hZ))) (ih _ cx aAc (EB hZ)).2) λD Y H hz=>?_
  obtain⟨U,G,x,U',r,e0,k⟩:=hz;simp only[tD,aD] at e0;split at e0
  ·rename_i U1 q;exact .inl ⟨U,G,.nx,U1,r,q,λY1 H1 G1 a1=>⟨U1,G1,x,U',a1.lA,e0,k.pre a1⟩⟩
  ·exact .inr ⟨U,G,x,U',r,e0,k⟩
theorem fX:∀n:Nat,LR K P C W Z n
 | 0,_,_,_,h=>absurd h (zU _)
 |n+1,_,c,LD,h=>⟨Xu (fX n) c LD h,Vu (fX n) c LD h⟩
def Wu(po:xN (model X.prog X.w) X.A X.env X.xe)(xo:OA X K P C Z)(bC:UI X Z)(sk:Z.top=true->X.stack=X.env::X.outer/\X.env.frame=some X.env.locals)(LD:List VA):XC X LD (IE K P C W (tD Z LD)):=(fX _ X ⟨po,xo,bC,sk⟩ LD (fP _)).1
def Uu(po:xN (model X.prog X.w) X.A X.env X.xe)(xo:OA X K P C Z)(bC:UI X Z)(sk:Z.top=true->X.stack=X.env::X.outer/\X.env.frame=some X.env.locals)(LD:List VA):XC X LD (QG X K P C W (tD Z LD)):=(fX _ X ⟨po,xo,bC,sk⟩ LD (fP _)).2
end
noncomputable def RX:sA->Option aA
 |.Name s _=>some s
 |_=>none
noncomputable def UZ:sA->Option (aA×aA)
 |.Attribute e f _=>(RX e).map λs=>(s,f)
 |_=>none
noncomputable def PZ:VA->Option (aA×aA×aA)
 |.Assign ts v _=>(match ts with
  |[]=>none
  |t::r=>(match r with
   |_::_=>none
   |[]=>(UZ t).bind λp=>(RX v).map λq=>(p.1,p.2,q)))
 |_=>none
def Fi(h:RX e=some s):∃p,e=.Name s p:=by
 unfold RX at h;split at h
 ·cases h;exact⟨_,rfl⟩
 ·cases h
def Mt(h:UZ e=some x):∃p1 p2,e=.Attribute (.Name x.1 p1) x.2 p2:=by
 unfold UZ at h;split at h
 ·obtain⟨s,hs,rfl⟩:=BN.mp h;obtain⟨_,rfl⟩:=Fi hs;exact⟨_,_,rfl⟩
 ·cases h
def Ft{st:VA}(h:PZ st=some x):∃p1 p2 p3 p4,st=.Assign [.Attribute (.Name x.1 p1) x.2.1 p2] (.Name x.2.2 p3) p4:=by
 unfold PZ at h;split at h
 ·rename_i ts v _
  cases ts with
  |nil=>cases h
  |cons t r =>
   cases r with
   |cons=>cases h
   |nil =>
    obtain⟨p,hp,h⟩:=yP.mp h;obtain⟨q,hq,rfl⟩:=BN.mp h;obtain⟨_,_,rfl⟩:=Mt hp;obtain⟨_,rfl⟩:=Fi hq;exact⟨_,_,_,_,rfl⟩
 ·cases h
noncomputable def hX(ps:List aA):List VA->Option aA
 |[]=>none
 |st::r=>(match r with
  |_::_=>none
  |[]=>(PZ st).bind λx=>if ps=[x.1,x.2.2]/\NF x.1=false/\NF x.2.2=false then some x.2.1 else none)
def jBa{K:fA}{st:VA}(F:TK K y bB st fa fd)(S:kM N ps (iC st))(hb:hX ps (YD st)=some f) :
  JF Pr w K mg base ZG 1 fa fd ps (j8 K f):=by
 have jQ:∃s0 p1 p2 q0 p3 p4,YD st=[.Assign [.Attribute (.Name s0 p1) f p2] (.Name q0 p3) p4]/\ps=[s0,q0]/\NF s0=false/\NF q0=false:=by
  cases q:YD st with
  |nil=>rw[q] at hb;cases hb
  |cons t r =>
   rw[q] at hb
   cases r with
   |cons=>cases hb
   |nil =>
    obtain⟨x,hx,hb⟩:=yP.mp hb;split at hb
    case isFalse=>cases hb
    cases hb;obtain⟨p1,p2,p3,p4,rfl⟩:=Ft hx;exact⟨_,_,_,_,_,_,rfl,‹_›⟩
 obtain⟨s0,p1,p2,q0,p3,p4,jQ,rfl,c3,c4⟩:=jQ;refine F.ok S (λvs H Q E h=>?_) λZA A outer s H vs Q E hr h=>?_
 ·obtain⟨a,Ca,y,rfl,_⟩:=h;rfl
 ·obtain⟨a,Ca,y,rfl,h2,h3,q⟩:=h
  have zW:∀(i:Nat) x,[s0,q0][i]?=some x->N[i]?=some x/\mV (iC st) x:=λi x hx=>by
   have hm:x∈[s0,q0]:=pN hx;refine⟨?_, ?_⟩
   ·have:=S.pre
    rw[<- this,List.getElem?_take] at hx;split at hx
    ·exact hx
    ·cases hx
   ·rcases S.par x hm with z | z
    ·exact .inl z
    ·exact .inr (.inl z)
  simp only[NF,y9] at c3 c4;have v0:=bY (X:=(dH ZG Pr w K mg base N bB (iC st) fa ZA A outer s H E).xO) (pos:=p1) (zW 0 s0 rfl).1 (zW 0 s0 rfl).2 c3.1.1 c3.1.2;have v1:=bY (X:=(dH ZG Pr w K mg base N bB (iC st) fa ZA A outer s H E).xO) (pos:=p3) (zW 1 q0 rfl).1 (zW 1 q0 rfl).2 c4.1.1 c4.1.2;rw[jQ];refine⟨_,P7 (nRa v0 v1 rfl) Hj, ?_⟩;have g0:(start N [V.ref a,y])[0]?=some (some (.ref a)):=by rw[AY (by simp)];rfl
  have g1:(start N [V.ref a,y])[1]?=some (some y):=by rw[AY (by simp)];rfl
  exact⟨_,g1,.ref a,g0,a,Ca,rfl,h2,h3,λdx wI=>q dx wI⟩
structure TU(K:fA)(mg:aA->Option cA)(x:aA):Prop where
 ex:∃(Ca fa:eA) (fd:wH) (ps:List aA) (y bB:aA) (st:VA) (N:List aA),JB K oB x=some (some (.ref Ca))/\mg x=some (.ref Ca)/\DE K Ca/\EG K Ca (some (.ref fa))/\RK K Ca "number" /\
  ya K (.ref fa)=some (.type "function")/\nG K (.ref Ca)=true/\eP K Ca=true/\TK K y bB st fa fd/\kM N ps (iC st)/\hX ps (YD st)=some "number"/\aAt K fd ps []
def TU.at{K:fA}(hK:X.K=K)(e:TU K X.mg x):SU X K x:=by
 subst hK;obtain⟨Ca,fa,fd,ps,y,bB,st,N,h1,h2,h3,h4,h5,h6,h7,h8,h9,v_,w_,Qe⟩:=e.ex;exact⟨Ca,h1,h2,h3,⟨fa,fd,ps,h4,h5,jBa h9 v_ w_,Qe,h6,h7⟩,h8⟩
structure CZ(K:fA)(T:Tab)(gl:aA->GV)(f:String)(fa:eA)(fd:wH)(ps:List aA):Prop where
 bd:aAt K fd ps []
 ex:∃(y bB:aA) (st:VA) (N:List aA) (fn:Fn),TK K y bB st fa fd/\kM N ps (iC st)/\N.Nodup/\T f=some fn/\fn.body=tD ⟨N,(iC st).names,gl,true⟩ (YD st)/\N.length=fn.bA.length+fn.nl/\ps.length=fn.bA.length
structure Entry(K:fA)(mg:aA->Option cA)(T:Tab)(gl:aA->GV)(x:aA)(f:String)(fa:eA)(fd:wH)(ps:List aA):Prop where
 JX:mg x=some (.ref fa)
 kp:nG K (.ref fa)=true
 b:CZ K T gl f fa fd ps
structure ub(K:fA)(mg:aA->Option cA)(x:aA)(ns:List aA):Prop where
 ex:False
structure Hb(K:fA)(T:Tab)(gl:aA->GV)(c m:aA)(f:String):Prop where
 ex:False
structure xb(K:fA)(mg:aA->Option cA)(T:Tab)(gl:aA->GV):Prop where
 c:∀x d,gl x=.c d->∃u v,mg x=some u/\aAe v u/\∀G,kA K G d v
 AB:∀x,gl x=.AB->mg x=none
 fn:∀x f,gl x=.fn f->∃fa fd ps,Entry K mg T gl x f fa fd ps
 cls:∀x ns,gl x=.cls ns->ub K mg x ns
 iH:∀m tb c f,gl (dot m)=.iH tb->tb.lookup c=some f->Hb K T gl c m f
 sub:∀x s n,gl (col x)=.sub s n->cV K mg x s n
 GD:∀x s n,gl (col x)=.GD s n->eV K mg x s n
 exc:∀x,gl x=.exc->ExcAt K mg x
 uG:∀x,gl x=.uG->TU K mg x
 GA:∀x cs,gl (cat x)=.GA cs->KR K mg x cs
def mY{b:Bool}{o:Option (Exc×Env)}{as QA:List Sl}{v:RV}(h:(if b=true then(match o with | some (x,U)=>(some (Out.ex x,back as U):zA RV) | none=>none) else none)=some (.ok v,QA)):False:=by
 split at h
 ·split at h<;>cases h
 ·cases h
theorem oS{Pr:HD}{w:DC}{K:fA}{mg:aA->Option cA}{base:DB}{T:Tab}{gl:aA->GV}(W:Nat)(g:xb K mg T gl):∀(d:Nat) (f:String) (fa:eA) (fd:wH) (ps:List aA),
  CZ K T gl f fa fd ps->JF Pr w K mg base ZG (d+2) fa fd ps (wY K (T.bA f).length (run T W d f))/\JF Pr w K mg base (QJ Pr w) (d+2) fa fd ps (Kk K (T.bA f).length (run T W d f))
 | 0,f,fa,fd,ps,e=>⟨⟨λvs H Q E h=>by obtain⟨_,as,G,v,QA,_,_,z,_⟩:=h;simp[run] at z,λA outer s H args us vs Q E _ _ _ _ h=>by obtain⟨_,as,G,v,QA,_,_,z,_⟩:=h;simp[run] at z⟩,
  ⟨λvs H Q E h=>by obtain⟨_,as,G,v,QA,_,_,z,_⟩:=h;simp[run] at z,λA outer s H args us vs Q E _ _ _ _ h=>by obtain⟨_,as,G,v,QA,_,_,z,_⟩:=h;simp[run] at z⟩⟩
 |d+1,f,fa,fd,ps,e=>by
  obtain⟨y,bB,st,N,fn,F,S,nd,hT,hb,hN,Cf⟩:=e.ex;have Bf:T.bA f=fn.bA:=by unfold Tab.bA;rw[hT]
  refine⟨F.ok S (λvs H Q E h=>by rw[h.1,Bf,Cf]) λZA A outer s H vs Q E hr h=>?_, ?_⟩
  ·obtain⟨hl,as,G,v,QA,lA,NM,er,k⟩:=h
   let X:Cx:=(dH ZG Pr w K mg base N bB (iC st) fa ZA A outer s H E).xO
   let Z:CC:=⟨N,(iC st).names,gl,true⟩
   have xo:OA X K T.bA (run T W d) Z:=by
    refine OA.of rfl rfl rfl nd rfl hr.hd hr.units g.c g.AB (λx' f' hx=>?_) (λx' ns hx=>?_) (λm tb c f' h1 h2=>?_) (hr.mono (by lia)) g.sub g.GD ⟨g.exc,λx hx=>(g.uG x hx).at rfl⟩ g.GA (λx' f' hx=>?_) ⟨_,_,_,rfl,rfl,rfl⟩
    ·obtain⟨pI,WI,uJ,e'⟩:=g.fn x' f' hx;exact⟨pI,WI,uJ,d+2,(oS W g d f' pI WI uJ e'.b).1,hr,e'.JX,e'.kp,e'.b.bd⟩
    ·exact(g.cls x' ns hx).ex.elim
    ·exact(g.iH m tb c f' h1 h2).ex.elim
    ·obtain⟨pI,WI,uJ,e'⟩:=g.fn x' f' hx;exact⟨pI,WI,uJ,d+2,(oS W g d f' pI WI uJ e'.b).2,hr,e'.JX,e'.kp,e'.b.bd⟩
   refine⟨_,Wu (W:=W) (X:=X) (Z:=Z) PassesOwn.never xo (λ_ _=>.inl rfl) (λ_=>⟨rfl,rfl⟩) (YD st), ?_⟩;simp only[run,hT] at er;split at er
   ·rename_i hc;rw[hb] at er;have gQ:N.length=as.length+fn.nl:=by rw[hN,hc.1]
    have QW:=lA.pad gQ
    cases q:GA T.bA (run T W d) W (tD ⟨N,(iC st).names,gl,true⟩ (YD st)) (as++wC fn.nl .un) with
    |none=>rw[q] at er;exact(mY er).elim
    |some y =>
     obtain⟨fl,U'⟩:=y;rw[q] at er;refine⟨as++wC fn.nl .un,G,fl,U',QW.1,q, ?_⟩
     cases fl with
     |nx =>
      cases er;intro Y' H' G' a;obtain⟨b1,b2⟩:=pV lA hc.2 gQ a;exact k .oA H' G' b1 (by show kA K G' .oA _;simp[kA])
     |rt v' =>
      cases er;intro x' Y' H' G' a hv;obtain⟨b1,b2⟩:=pV lA hc.2 gQ a;refine k x' H' G' b1 ?_
      have key:∀c,¬yA U' Y' c->(yA (as++wC fn.nl .un) (start N vs) c\/H c=none)->H c=none:=λc nc mc=>by
       rcases mc with mc | mc
       ·have:=QW.2 c mc
        obtain⟨i,d1,p1,l1,h1,h2⟩:=this;refine absurd ?_ nc
        apply b2 c
        have hp:=HF.mp hc.2 _ (pN h1);simp only[uK] at hp;subst hp
        have:=b1.aK i
        rw[h1] at this
        cases q3:(back as U')[i]? with
        |none=>rw[q3] at this;exact this.elim
        |some s =>
         rw[q3] at this
         cases s with
         |ow d2 p2 l2=>exact⟨i,d2,p2,l2,q3,h2⟩
         |sh d2=>exact absurd (show true=false from this) (by simp)
         |un=>exact this.elim
         |mv=>exact this.elim
       ·exact mc
      cases v with
      |sh d0=>exact hv
      |ow d0 =>
       obtain⟨c,rfl,gc,oc,nc,mc⟩:=hv;exact⟨c,rfl,gc,oc,λz=>nc (b2 c z),key c nc mc⟩
      |od d0 =>
       obtain⟨c,rfl,gc,oc,nc,mc,ys,hy,hr⟩:=hv;exact⟨c,rfl,gc,oc,λz=>nc (b2 c z),key c nc mc,ys,hy,λx hx=>let ⟨b,ws,h1,h2,h3,h4,h5,h6⟩:=hr x hx;⟨b,ws,h1,h2,h3,λz=>h4 (b2 b z),key b h4 h5,h6⟩⟩
     |bk=>exact(mY er).elim
     |ct=>exact(mY er).elim
     |ex x'=>exact(mY er).elim
   ·cases er
  ·obtain⟨oc,od,kV,doc,pm,an,ZA,ct,fF,rfl,lk,MG⟩:=F.ex;refine ue lk MG S (λvs H Q E h=>by rw[h.1,Bf,Cf]) λA outer s H vs Q E hr h=>?_
   obtain⟨hl,as,G,x0,QA,lA,NM,er,k⟩:=h
   let X:Cx:=dH (QJ Pr w) Pr w K mg base N bB (iC st) fa ZA A outer s H E
   let Z:CC:=⟨N,(iC st).names,gl,true⟩
   have xo:OA X K T.bA (run T W d) Z:=by
    refine OA.of rfl rfl rfl nd rfl hr.hd hr.units g.c g.AB (λx' f' hx=>?_) (λx' ns hx=>?_) (λm tb c f' h1 h2=>?_) (hr.mono (by lia)) g.sub g.GD ⟨g.exc,λx hx=>(g.uG x hx).at rfl⟩ g.GA (λx' f' hx=>?_) ⟨_,_,_,rfl,rfl,rfl⟩
    ·obtain⟨pI,WI,uJ,e'⟩:=g.fn x' f' hx;exact⟨pI,WI,uJ,d+2,(oS W g d f' pI WI uJ e'.b).1,hr,e'.JX,e'.kp,e'.b.bd⟩
    ·exact(g.cls x' ns hx).ex.elim
    ·exact(g.iH m tb c f' h1 h2).ex.elim
    ·obtain⟨pI,WI,uJ,e'⟩:=g.fn x' f' hx;exact⟨pI,WI,uJ,d+2,(oS W g d f' pI WI uJ e'.b).2,hr,e'.JX,e'.kp,e'.b.bd⟩
   refine⟨_,Uu (W:=W) (X:=X) (Z:=Z) PassesOwn.leaving xo (λ_ _=>.inl rfl) (λ_=>⟨rfl,rfl⟩) (YD st), ?_⟩;simp only[run,hT] at er;split at er
   ·rename_i hc;rw[hb] at er;have gQ:N.length=as.length+fn.nl:=by rw[hN,hc.1]
    have QW:=lA.pad gQ;split at er
    ·cases er
    ·cases er
    ·split at er
     ·split at er
      ·rename_i x1 U' q;cases er;refine⟨as++wC fn.nl .un,G,x0,U',QW.1,q,λUD Y' H' G' s' a Ca p bH I' F' JD hg zL=>?_⟩;obtain⟨b1,b2⟩:=pV lA hc.2 gQ bH;exact jw I' F' (k H' G' Ca p b1 JD hg zL)
      ·cases er
     ·cases er
   ·cases er
noncomputable def xD(st:VA):List aA:=(KH st).args.map (·.arg)
noncomputable def bG(st:VA):List aA:=xD st++(((iC st).names.filter λy=>(y.2==.local||y.2==.cell) && !(xD st).contains y.1).map (·.1))
noncomputable def td(gl:aA->GV)(st:VA):List S:=tD ⟨bG st,(iC st).names,gl,true⟩ (YD st)
structure ZU(K:fA)(x m bB:aA)(st:VA):Prop where
 ex:∃(Ca f:eA) (oc:cA) (od an:Option eA) (kV doc pm ZA ct:cA) (fF:Array (Option cA)),JB K oB x=some (some (.ref Ca))/\mG K (.ref Ca) m=some (some (.ref f))/\qZ K (.ref f)=true /\
  K.lookup f=some ⟨oc,od,.func (uH m bB (KH st) (YD st) (iC st) .none kV doc pm an ZA ct),fF⟩/\mP K ZA bB=true/\nG K (.ref f)=true
def yi{K:fA}{st:VA}{kV doc pm ZA ct:cA}(a:JB K oB x=some (some (.ref Ca)))(b:mG K (.ref Ca) m=some (some (.ref f)))(i:qZ K (.ref f)=true)
  (l:K.lookup f=some ⟨oc,od,.func (uH m bB (KH st) (YD st) (iC st) .none kV doc pm an ZA ct),fF⟩) (c:mP K ZA bB=true) (k:nG K (.ref f)=true):ZU K x m bB st :=
 ⟨Ca,f,oc,od,an,kV,doc,pm,ZA,ct,fF,a,b,i,l,c,k⟩
structure JR(K:fA)(x:aA)(st:VA):Prop where
 ex:∃(f:eA) (oc:cA) (od an:Option eA) (kV doc pm ZA ct:cA) (fF:Array (Option cA)),JB K oB x=some (some (.ref f)) /\
  K.lookup f=some ⟨oc,od,.func (uH x x (KH st) (YD st) (iC st) .none kV doc pm an ZA ct),fF⟩/\mP K ZA x=true/\nG K (.ref f)=true
def Ad{K:fA}{st:VA}{kV doc pm ZA ct:cA}(a:JB K oB x=some (some (.ref f)))
  (l:K.lookup f=some ⟨oc,od,.func (uH x x (KH st) (YD st) (iC st) .none kV doc pm an ZA ct),fF⟩) (c:mP K ZA x=true) (k:nG K (.ref f)=true):JR K x st :=
 ⟨f,oc,od,an,kV,doc,pm,ZA,ct,fF,a,l,c,k⟩
structure BZ(gl:aA->GV)(st:VA)(x bB:aA)(fn:Fn):Prop where
 sc:kM (bG st) (xD st) (iC st)
 body:fn.body=td gl st
 len:(bG st).length=fn.bA.length+fn.nl
 pl:(xD st).length=fn.bA.length
 bind:∀(kV doc pm:cA) (an:Option eA) (ZA ct:cA) (us:List cA),us.length=(xD st).length->bindArgs (uH x bB (KH st) (YD st) (iC st) .none kV doc pm an ZA ct) ⟨us,[]⟩=pure ((xD st).zip us)
abbrev lC(gl:aA->GV)(st:VA)(x:aA)(fn:Fn):Prop:=BZ gl st x x fn
def Nd{K:fA}{st:VA}(F:TK K x bB st fa fd)(O:BZ gl st x bB fn)(hT:T f=some fn):CZ K T gl f fa fd (xD st) :=
 ⟨F.binds O.bind,x,bB,st,bG st,fn,F,O.sc,O.sc.nd,hT,O.body,O.len,O.pl⟩
def Vw{K:fA}{st:VA}(X:K.In h)(G:h.Ns oB mg)(D:JR K x st)(O:lC gl st x fn)(hT:T f=some fn):∃fa fd ps,Entry K mg T gl x f fa fd ps:=by
 obtain⟨fa,oc,od,an,kV,doc,pm,ZA,ct,fF,a,l,c,k⟩:=D.ex;have F:=C3 l c k;exact⟨fa,_,xD st,ZL X G a,k,Nd F O hT⟩
noncomputable def QB(L:List (aA×GV))(x:aA):GV:=(L.lookup x).getD .no
theorem aAp[BEq O][LawfulBEq O]:∀{L:List (O×N)} {x:O} {v:N},L.lookup x=some v->(x,v)∈L
 |[],_,_,h=>by simp at h
 | (y,w)::L,x,v,h=>by
  rw[PJ] at h;split at h
  ·rename_i hb;cases h;rw[jB hb];exact kG
  ·exact jG _ (aAp h)
def iK(h:QB L x=v)(n:v≠.no):(x,v)∈L:=by
 unfold QB at h
 cases q:L.lookup x with
 |none=>rw[q] at h;exact absurd h.symm n
 |some w =>
  rw[q] at h;cases h;exact aAp q
def aH(K:fA)(mg:aA->Option cA)(T:Tab)(gl:aA->GV):aA×GV->Prop
 | (x,.cls ns)=>ub K mg x ns
 | (x,.iH tb)=>∃m,x=dot m/\∀p∈tb,Hb K T gl p.1 m p.2
 | (x,.c d)=>∃u v,mg x=some u/\aAe v u/\∀G,kA K G d v
 | (x,.AB)=>mg x=none
 | (x,.fn f)=>∃fa fd ps,Entry K mg T gl x f fa fd ps
 | (x,.sub s n)=>∃m,x=col m/\cV K mg m s n
 | (x,.GD s n)=>∃m,x=col m/\eV K mg m s n
 | (x,.exc)=>ExcAt K mg x
 | (x,.uG)=>TU K mg x
 | (x,.GA cs)=>∃m,x=cat m/\KR K mg m cs
 | (_,.no)=>True
def Bj{x y:aA}(h:(⟨p++x.cps⟩:aA)=⟨p++y.cps⟩):x=y:=by
 have e6:=congrArg GU (congrArg Str.cps h);simp only[bZ] at e6;have e5:=vR.mp (u9 e6);cases x;cases y;simp only at e5;rw[e5]
def h_{K:fA}(h:∀p∈L,aH K mg T (QB L) p):xb K mg T (QB L) :=
 ⟨λx d e=>h _ (iK e (λz=>nomatch z)),λx e=>h _ (iK e (λz=>nomatch z)),λx f e=>h _ (iK e (λz=>nomatch z)),λx ns e=>h _ (iK e (λz=>nomatch z)),λm tb c f e e2=>by
  obtain⟨m',e3,k⟩:=h _ (iK e (λz=>nomatch z))
  have:m'=m:=by
   unfold dot at e3;have e4:(#[46]++m.cps:Array Nat)=#[46]++m'.cps:=congrArg Str.cps e3
   have e5:m.cps=m'.cps:=by(have e6:=congrArg GU e4;rw[bZ,bZ] at e6;exact vR.mp (u9 e6))
   cases m;cases m';simp only at e5;rw[e5]
  subst this;exact k _ (aAp e2),λx s n e=>by
  obtain⟨m',e3,k⟩:=h _ (iK e (λz=>nomatch z))
  have:m'=x:=by
   unfold col at e3
   have e5:x.cps=m'.cps:=by(have e6:=congrArg GU (congrArg Str.cps e3);simp only[bZ] at e6;exact vR.mp (u9 e6))
   cases x;cases m';simp only at e5;rw[e5]
  subst this;exact k,λx s n e=>by
  obtain⟨m',e3,k⟩:=h _ (iK e (λz=>nomatch z));rw[Bj e3];exact k,λx e=>h _ (iK e (λz=>nomatch z)),λx e=>h _ (iK e (λz=>nomatch z)),λx cs e=>by
  obtain⟨m',e3,k⟩:=h _ (iK e (λz=>nomatch z));rw[Bj e3]
  exact k⟩
def rd{K:fA}(X:K.In h)(G:h.Ns oB mg)(a:JB K oB x=some (some (.int i t))):aH K mg T gl (x,.c (.int i)) :=
 ⟨_,.int i,ZL X G a,⟨t,rfl⟩,λG=>by simp[kA]⟩
def zu{K:fA}(X:K.In h)(G:h.Ns oB mg)(a:JB K oB x=some none):aH K mg T gl (x,.AB):=PySem.W.mg_none_of X G a
structure Bb(K:fA)(c x:aA):Prop where
 ex:∃Ca C:eA,JB K oB c=some (some (.ref Ca))/\JB K oB x=some (some (.ref C))/\pP K Ca C=true
structure Ab(K:fA)(c x:aA):Prop where
 ex:∃Ca C:eA,JB K oB c=some (some (.ref Ca))/\JB K oB x=some (some (.ref C))/\IU K (.ref Ca) C=true
structure Eb(K:fA)(x:aA):Prop where
 ex:∃C:eA,JB K oB x=some (some (.ref C))
def iGa{K:fA}(a:JB K oB c=some (some (.ref Ca)))(b:JB K oB x=some (some (.ref C)))(k:pP K Ca C=true):Bb K c x:=⟨Ca,C,a,b,k⟩
def hGa{K:fA}(a:JB K oB c=some (some (.ref Ca)))(b:JB K oB x=some (some (.ref C)))(k:IU K (.ref Ca) C=true):Ab K c x:=⟨Ca,C,a,b,k⟩
def jGa{K:fA}(a:JB K oB x=some (some (.ref C))):Eb K x:=⟨C,a⟩
structure BP(K:fA)(x:aA):Prop where
 ex:∃C:eA,JB K oB x=some (some (.ref C))/\DE K C/\EG K C none
def P2{K:fA}(a:JB K oB x=some (some (.ref C)))(q:Ha K C ZJ "ValueError.__new__"=true)(ga:mG K (.ref C) "__getattribute__"=some (some (.builtin "BaseException.__getattribute__")))(no:mG K (.ref C) "__getattr__"=some none)
  (cl:mG K (.ref C) "__class__"=some (some (.builtin "object.__class__"))) (gt:S9 K (.builtin "object.__class__") "__get__"=some (some (.builtin "getset_descriptor.__get__"))) (tk:ia K (.builtin "object.__class__")=some true)
  (mo:XG K C (.type "object")=some true) (mb:XG K C (.type "BaseException")=some true) (mv:XG K C (.type "ValueError")=some true):BP K x:=⟨C,a,⟨⟨_,Xd q⟩,ga,no,cl,gt,tk,mo,mb,mv⟩,Xd q⟩
structure UU(K:fA)(x:aA):Prop where
 ex:∃C f:eA,JB K oB x=some (some (.ref C))/\mG K (.ref C) "__init__"=some (some (.ref f))/\DE K C/\EG K C (some (.ref f))/\RK K C "number"/\eP K C=true/\nG K (.ref C)=true
def ae{K:fA}(a:JB K oB x=some (some (.ref C)))(b:mG K (.ref C) "__init__"=some (some (.ref f)))(q:O2 K C (.ref f)=true)(ga:mG K (.ref C) "__getattribute__"=some (some (.builtin "BaseException.__getattribute__")))(no:mG K (.ref C) "__getattr__"=some none)
  (cl:mG K (.ref C) "__class__"=some (some (.builtin "object.__class__"))) (gt:S9 K (.builtin "object.__class__") "__get__"=some (some (.builtin "getset_descriptor.__get__"))) (tk:ia K (.builtin "object.__class__")=some true)
  (mo:XG K C (.type "object")=some true) (mb:XG K C (.type "BaseException")=some true) (mv:XG K C (.type "ValueError")=some true)
  (ov:((Ia K C).any λcd=>eU cd.mro&&cd.hasDict)=true) (sa:mG K (.ref C) "__setattr__"=some (some (.builtin "object.__setattr__"))) (na:mG K (.ref C) "number"=some none) (hd:eP K C=true) (kp:nG K (.ref C)=true):UU K x :=
 ⟨C,f,a,b,⟨⟨_,Yd q⟩,ga,no,cl,gt,tk,mo,mb,mv⟩,Yd q,⟨ov,sa,na⟩,hd,kp⟩
structure WU(st:VA)(bB:aA):Prop where
 sc:kM (bG st) (xD st) (iC st)
 body:hX (xD st) (YD st)=some "number"
 bind:∀(kV doc pm:cA) (an:Option eA) (ZA ct:cA) (us:List cA),us.length=(xD st).length->bindArgs (uH "__init__" bB (KH st) (YD st) (iC st) .none kV doc pm an ZA ct) ⟨us,[]⟩=pure ((xD st).zip us)
def ie{K:fA}{st:VA}(X:K.In h)(G:h.Ns oB mg)(A:UU K x)(D:ZU K x "__init__" bB st)(O:WU st bB):aH K mg T gl (x,.uG):=by
 obtain⟨C,f,a,b,g,p,s,hd,kp⟩:=A.ex;obtain⟨Cb,fa,oc,od,an,kV,doc,pm,ZA,ct,fF,a',b',i,l,c,k⟩:=D.ex;rw[a] at a';cases a';rw[b] at b';cases b';have F:=C3 l c k;exact⟨C,f,_,xD st,"__init__",bB,st,bG st,a,ZL X G a,g,p,s,OD.mp i,kp,hd,F,O.sc,O.body,F.binds O.bind⟩
structure Gb(K:fA)(c x:aA):Prop where
 ex:∃C D:eA,JB K oB c=some (some (.ref C))/\JB K oB x=some (some (.ref D))/\XG K C (.ref D)=some true
def dIa{K:fA}{C D:eA}(a:JB K oB c=some (some (.ref C)))(b:JB K oB x=some (some (.ref D)))(m:XG K C (.ref D)=some true):Gb K c x:=⟨C,D,a,b,m⟩
def Zd{K:fA}(X:K.In h)(G:h.Ns oB mg)(A:BP K x):aH K mg T gl (x,.exc):=by
 obtain⟨C,a,g,p⟩:=A.ex;exact⟨C,a,ZL X G a,g,p⟩
def Zy{K:fA}(X:K.In h)(G:h.Ns oB mg)(A:BP K x)(M:∀c∈cs,Gb K c x):aH K mg T gl (cat x,.GA cs):=by
 obtain⟨D,a,g,_⟩:=A.ex;refine⟨x,rfl,D,ZL X G a,g.q,λc hc C e=>?_⟩;obtain⟨C',D',e1,e2,k⟩:=(M c hc).ex;rw[e] at e1;cases e1;rw[a] at e2;cases e2;exact k
def yVa{K:fA}(X:K.In h)(G:h.Ns oB mg)(A:Eb K x)(S:∀c∈s,Ab K c x)(N:∀c∈n,Bb K c x):aH K mg T gl (col x,.GD s n):=by
 obtain⟨C,a⟩:=A.ex;refine⟨x,rfl,C,ZL X G a,λc hc Ca e=>?_,λc hc Ca e=>?_⟩
 ·obtain⟨Cb,C',e1,e2,k⟩:=(S c hc).ex;rw[e] at e1;cases e1;rw[a] at e2;cases e2;exact k
 ·obtain⟨Cb,C',e1,e2,k⟩:=(N c hc).ex;rw[e] at e1;cases e1;rw[a] at e2;cases e2;exact k
def wGa{l:KU}{K:Params->fA}{st:VA}
  (hn:l.most=some 63) (rS:d.params.defaults=[]) (hr:YC (n+2) callerA) (hx:d.name=x) (hT:T f=some fn) (O:lC (QB L) st x fn) (hp:xD st=[p])
  (hY:∀(w:DC) (h:DB),YP w h->(K w.params).In h)
  (F:∀(w:DC) (mg:aA->Option cA) (h:DB),(K w.params).In h->h.Ns oB mg->JR (K w.params) x st/\∀p∈L,aH (K w.params) mg T (QB L) p)
  (M:∀ns:List Int,ns.length<=63->∃QA,run T W n f [.sh (.l (ns.map .int))]=some (.ok (.sh (.bl true)),QA)) :
  Xa q loose XP YP l.row.toRowW d [] (λf vs=>Za f vs):=by
 refine L2.aYa (n:=63) (k:=n+2) (x:=p) (CX:=λ_=>ZG) (sp:=λw=>wY (K w.params) 1 (run T W n f)) hn (by decide) rS hr hY (λw mg fa h KX G qQ=>?_) (λw H a ns hl hO hS=>?_) λ_ _ _ _ _ z=>z
 ·obtain⟨D,hG⟩:=F w mg h KX G;have g:=h_ hG;obtain⟨pI,oc,od,an,kV,doc,pm,ZA,ct,fF,a,lk,c,k⟩:=D.ex;have hm:=ZL KX G a;rw[hx,hm] at qQ;cases qQ;have Fu:=C3 lk c k;have E:Entry (K w.params) mg T (QB L) x f fa _ (xD st):=⟨hm,k,Nd Fu O hT⟩
  have qAa:(T.bA f).length=1:=by(unfold Tab.bA;rw[hT];show fn.bA.length=1;rw[<- O.pl,hp];rfl)
  refine⟨uH x x (KH st) (YD st) (iC st) .none kV doc pm an ZA ct,λs u=>?_,λbase kb nb=>?_⟩
  rotate_left
  ·have:=(oS (Pr:=l.prog) (w:=w) (base:=base) W g n f fa _ (xD st) E.b).1
   rw[qAa] at this;rw[hp] at this;exact this
  ·have:=O.bind kV doc pm an ZA ct [u] (by rw[hp];rfl)
   rw[hp] at this;exact .of_eq this
 ·obtain⟨QA,e⟩:=M ns hl
  have SW:rA (K w.params) H (ns.map .int) (ns.map V.int):=by
   induction ns with
   |nil=>exact rA.nil
   |cons i r ih=>exact rA.cons (by simp[kA]) (by
     clear e hS hl ih
     induction r with
     |nil=>exact rA.nil
     |cons i r ih=>exact rA.cons (by simp[kA]) ih)
  refine⟨rfl,[.sh (.l (ns.map .int))],H,.sh (.bl true),QA,CA.aS (CA.nil (fB.refl _)) ?_,rfl,e,λx H' G' _ hv=>yT (K:=K w.params) (G:=G') hv⟩;simp only[kA];exact⟨a,_,rfl,hS,SW⟩
end CI
namespace CI
open PySem (Operator CmpOp)
noncomputable section
variable{U U1 U2:Env}
theorem YM:Run.next (some (.nx,U)) f=f U:=rfl
theorem yJa:Run.next (some (.rt v,U)) f=some (.rt v,U):=rfl
theorem i_:YF (some U)=some (.nx,U):=rfl
noncomputable def bR(f:O->Env->zA N)(r:zA O):zA N:=r.bind f
theorem Rt:r.bind f=bR f r:=rfl
theorem Tt:bR f (some (.ok a,U))=f a U:=rfl
noncomputable def fR(f:O->Env->Run)(r:zA O):Run:=r.uC f
theorem bz:r.uC f=fR f r:=rfl
theorem dz:fR f (some (.ok a,U))=f a U:=rfl
theorem cz:fR f (some (.ex x,U))=some (.ex x,U):=rfl
noncomputable def nR(f:Env->Run)(r:Run):Run:=r.next f
theorem nR_:r.next f=nR f r:=rfl
theorem lIa:nR f (some (.nx,U))=f U:=rfl
theorem mIa:nR f (some (.rt v,U))=some (.rt v,U):=rfl
theorem jIa:nR f (some (.ex x,U))=some (.ex x,U):=rfl
theorem kIa:nR f none=none:=rfl
noncomputable def dR(U:Env)(o:Option RV):zA RV:=done o U
theorem mw:done o U=dR U o:=rfl
theorem qw:dR U (some v)=some (.ok v,U):=rfl
theorem yw:(RV.sh d).d=d:=rfl
theorem vw:(RV.ow d).d=d:=rfl
theorem Wz:(Sl.sh d).get=some d:=rfl
theorem Vz:(Sl.ow d p l).get=some d:=rfl
theorem U_:(Hd.val v).get U=some v.d:=rfl
theorem T_:(Hd.slot i).get U=(U[i]?).bind Sl.get:=rfl
noncomputable def Nh(U:Env)(o:Option Bool):zA RV:=o.map λb=>(.ok (.sh (.bl b)),U)
theorem qFa:Nh U (some b)=some (.ok (.sh (.bl b)),U):=rfl
theorem iYa:aAh false r=r:=rfl
theorem jYa:aAh true (some (.ok v,U))=Nh U (AK v.d):=rfl
noncomputable def kh(i:Nat)(U:Env):Option Sl->zA RV
 |some (.sh d)=>some (.ok (.sh d),U)
 |some (.ow d false false)=>some (.ok (.sh d),U.set i (.sh d))
 |_=>none
theorem jEa:kh i U (some (.sh d))=some (.ok (.sh d),U):=rfl
theorem qy:ev P C false (.v i) U=kh i U U[i]?:=rfl
theorem Qx:ev P C t (.c d) U=aAh t (some (.ok (.sh d),U)):=rfl
noncomputable def WS(b:Bool)(v:RV)(U:Env):zA RV:=if b then some (.ok v,U) else none
theorem nFa:WS true v U=some (.ok v,U):=rfl
def cN(h:n<=1000000):pB n=true:=@IB _ (cl _) h
theorem wUa:pB 0=true:=cN (by decide)
theorem xUa:pB 1=true:=cN (by decide)
theorem zUa:pB 2=true:=cN (by decide)
theorem aVa:pB 3=true:=cN (by decide)
theorem bVa:pB 4=true:=cN (by decide)
theorem cVa:pB 5=true:=cN (by decide)
theorem yUa:pB 13=true:=cN (by decide)
noncomputable def Ph(ds:List D)(U:Env):zA RV:=WS (pB ds.length) (.sh (.t ds)) U
noncomputable def vh(ds:List D)(U:Env):zA RV:=WS (pB ds.length) (.ow (.l ds)) U
theorem oy:ev P C t (.t es) U=aAh t ((ZD P C es U).bind Ph):=rfl
theorem Zx:ev P C t (.l es) U=aAh t ((ZD P C es U).bind vh):=rfl
theorem vy:ZD P C [] U=some (.ok [],U):=rfl
noncomputable def ah(v:RV)(ds:List D)(U:Env):zA (List D):=some (.ok (v.d::ds),U)
noncomputable def Zg(P:YA)(C:Calls)(es:List E)(v:RV)(U:Env):zA (List D):=(ZD P C es U).bind (ah v)
theorem uy:ZD P C (e::es) U=(ev P C false e U).bind (Zg P C es):=rfl
theorem Ax:nD P C [] U=some (.ok [],U):=rfl
noncomputable def mh(v:Hd)(ds:List Hd)(U:Env):zA (List Hd):=some (.ok (v::ds),U)
noncomputable def lh(P:YA)(C:Calls)(es:List E)(v:Hd)(U:Env):zA (List Hd):=(nD P C es U).bind (mh v)
noncomputable def LC(P:YA)(C:Calls)(e:E)(U:Env):zA Hd:=hd e (ev P C false e U) U
noncomputable def yG(v:RV)(U:Env):zA Hd:=some (.ok (.val v.low),U)
theorem vFa:yG (.sh d) U=some (.ok (.val (.sh d)),U):=rfl
theorem uFa:yG (.ow d) U=some (.ok (.val (.ow d)),U):=rfl
noncomputable def Kh(i:Nat)(U:Env)(b:Bool):zA Hd:=if b then some (.ok (.slot i),U) else none
theorem mFa:Kh i U true=some (.ok (.slot i),U):=rfl
theorem eOa:LC P C (.v i) U=Kh i U ((U[i]?).bind Sl.get).isSome:=rfl
theorem wNa:LC P C (.c d) U=some (.ok (.val (.sh d)),U):=rfl
theorem dOa:LC P C (.t es) U=(ev P C false (.t es) U).bind yG:=rfl
theorem zNa:LC P C (.l es) U=(ev P C false (.l es) U).bind yG:=rfl
theorem rNa:LC P C (.BA op a b) U=(ev P C false (.BA op a b) U).bind yG:=rfl
theorem aOa:LC P C (.neg a) U=(ev P C false (.neg a) U).bind yG:=rfl
theorem uNa:LC P C (.IA op a b) U=(ev P C false (.IA op a b) U).bind yG:=rfl
theorem pNa:LC P C (.and a b) U=(ev P C false (.and a b) U).bind yG:=rfl
theorem yNa:LC P C (.ix a b) U=(ev P C false (.ix a b) U).bind yG:=rfl
theorem bOa:LC P C (.sl a b c) U=(ev P C false (.sl a b c) U).bind yG:=rfl
theorem tNa:LC P C (.call f es) U=(ev P C false (.call f es) U).bind yG:=rfl
theorem qNa:LC P C (.bif f es) U=(ev P C false (.bif f es) U).bind yG:=rfl
theorem xNa:LC P C (.xG a ts) U=(ev P C false (.xG a ts) U).bind yG:=rfl
theorem vNa{gA cond:List E}:LC P C (.comp LA tg k gA cond imp nl) U=(ev P C false (.comp LA tg k gA cond imp nl) U).bind yG:=rfl
theorem zx:nD P C (e::es) U=(LC P C e U).bind (lh P C es):=rfl
noncomputable def GH(op:yN)(x:Hd)(a b:Option D):Option RV:=a.bind λd=>b.bind λe=>if ZS op x d then pC op d e else none
noncomputable def Og(op:yN)(x y:Hd)(U:Env):zA RV:=done (GH op x (x.get U) (y.get U)) U
noncomputable def Ng(P:YA)(C:Calls)(op:yN)(b:E)(x:Hd)(U:Env):zA RV:=(LC P C b U).bind (Og op x)
theorem Jx:ev P C t (.BA op a b) U=aAh t ((LC P C a U).bind (Ng P C op b)):=rfl
theorem iu:GH .Add x (some (.l ds)) (some e)=pC .Add (.l ds) e:=rfl
theorem Bu:GH .Add x (some (.int i)) (some (.int j))=some (.sh (.int (i+j))):=rfl
theorem Ku:GH .Sub x (some (.int i)) (some (.int j))=some (.sh (.int (i-j))):=rfl
theorem Iu:GH .Mult x (some (.int i)) (some e)=pC .Mult (.int i) e:=rfl
theorem Eu:GH .FloorDiv x (some (.int i)) (some e)=pC .FloorDiv (.int i) e:=rfl
theorem Hu:GH .Mod x (some (.int i)) (some e)=pC .Mod (.int i) e:=rfl
theorem Gu:GH .LShift x (some (.int i)) (some e)=pC .LShift (.int i) e:=rfl
theorem Ju:GH .RShift x (some (.int i)) (some e)=pC .RShift (.int i) e:=rfl
theorem Cu:GH .BitAnd x (some (.int i)) (some e)=pC .BitAnd (.int i) e:=rfl
theorem Du:GH .BitOr x (some (.int i)) (some e)=pC .BitOr (.int i) e:=rfl
theorem Mu:GH .Add x (some (.str s)) (some e)=pC .Add (.str s) e:=rfl
theorem Nu:GH .Mult x (some (.str s)) (some e)=pC .Mult (.str s) e:=rfl
def kc(h:(-(2 ^ 64)<i/\i<2 ^ 64)\/(-(2 ^ 64)<j/\j<2 ^ 64)):pC .Mult (.int i) (.int j)=some (.sh (.int (i*j))):=uA h
theorem Zt(h1:-18446744073709551616<j)(h2:j<18446744073709551616):pC .Mult (.int i) (.int j)=some (.sh (.int (i*j))):=kc (.inr ⟨h1,h2⟩)
theorem Yt(h1:-18446744073709551616<i)(h2:i<18446744073709551616):pC .Mult (.int i) (.int j)=some (.sh (.int (i*j))):=kc (.inl ⟨h1,h2⟩)
theorem Wt(h:0<j/\j<nofun):pC .FloorDiv (.int i) (.int j)=some (.sh (.int (i / j))):=uA h
theorem Xt(h:0<j):pC .Mod (.int i) (.int j)=some (.sh (.int (i % j))):=uA h
theorem bu(h:0<=j)(h2:j<=1000):pC .LShift (.int 1) (.int j)=some (.sh (.int (2 ^ j.toNat))):=by
 show @ite _ _ (cl _) _ _=_;rw[uA ⟨h,h2,by decide⟩,Int.one_mul]
theorem cu(h:0<=j):pC .RShift (.int i) (.int j)=some (.sh (.int (i / 2 ^ j.toNat))):=uA h
theorem au:pC .BitOr (.int i) (.int j)=some (.sh (.int (AH i j))):=rfl
theorem Vt:pC .BitAnd (.int i) (.int j)=some (.sh (.int (iZ i j))):=rfl
theorem aL(h:pB (xs.length+ys.length)=true):pC .Add (.l xs) (.l ys)=some (.ow (.l (xs++ys))):=uA h
noncomputable def xh(v:RV)(U:Env):zA RV:=match v.d with
 |.int i=>some (.ok (.sh (.int (-i))),U)
 |_=>none
theorem yEa:xh (.sh (.int i)) U=some (.ok (.sh (.int (-i))),U):=rfl
theorem ay:ev P C t (.neg a) U=aAh t ((ev P C false a U).bind xh):=rfl
noncomputable def zh(v:RV)(U:Env):zA RV:=match v with
 |.sh (.bl b)=>some (.ok (.sh (.bl (!b))),U)
 |_=>none
theorem zEa:zh (.sh (.bl b)) U=some (.ok (.sh (.bl (!b))),U):=rfl
theorem dy:ev P C true (.not a) U=(ev P C true a U).bind zh:=rfl
noncomputable def Ii(o:Option D):Option RV:=o.bind λd=>(AK d).map λb=>.sh (.bl (!b))
noncomputable def yh(x:Hd)(U:Env):zA RV:=done (Ii (x.get U)) U
theorem pJa:Ii (some (.bl b))=some (.sh (.bl (!b))):=rfl
theorem cy:ev P C false (.not a) U=(LC P C a U).bind yh:=rfl
noncomputable def A1(op:eI)(a b:Option D):Option RV:=a.bind λd=>b.bind λe=>(rC op d e).map λb=>.sh (.bl b)
theorem Yv:A1 op (some d) (some e)=(rC op d e).map λb=>.sh (.bl b):=rfl
noncomputable def Yc(op:eI)(a b:Option D):Option Bool:=a.bind λd=>b.bind λe=>rC op d e
theorem Xv:Yc op (some d) (some e)=rC op d e:=rfl
noncomputable def Yg(op:eI)(x y:Hd)(U:Env):zA RV:=done (A1 op (x.get U) (y.get U)) U
noncomputable def Xg(P:YA)(C:Calls)(op:eI)(b:E)(x:Hd)(U:Env):zA RV:=(LC P C b U).bind (Yg op x)
theorem Nx:ev P C t (.IA op a b) U=(LC P C a U).bind (Xg P C op b):=rfl
noncomputable def qX(op:eI)(y z:Hd)(U:Env):zA RV:=done (A1 op (y.get U) (z.get U)) U
noncomputable def pX(P:YA)(C:Calls)(BC:eI)(y:Hd)(c:E)(U:Env):Option Bool->zA RV
 |none=>none
 |some false=>some (.ok (.sh (.bl false)),U)
 |some true=>(LC P C c U).bind (qX BC y)
theorem zDa:pX P C BC y c U (some false)=some (.ok (.sh (.bl false)),U):=rfl
theorem aEa:pX P C BC y c U (some true)=(LC P C c U).bind (qX BC y):=rfl
theorem yDa:pX P C BC y c U (some b)=if b=true then(LC P C c U).bind (qX BC y) else some (.ok (.sh (.bl false)),U):=by cases b<;>rfl
noncomputable def Ug(P:YA)(C:Calls)(op BC:eI)(c:E)(x y:Hd)(U:Env):zA RV:=pX P C BC y c U (Yc op (x.get U) (y.get U))
noncomputable def Tg(P:YA)(C:Calls)(op BC:eI)(b c:E)(x:Hd)(U:Env):zA RV:=(LC P C b U).bind (Ug P C op BC c x)
theorem Ox:ev P C t (.HH op BC a b c) U=(LC P C a U).bind (Tg P C op BC b c):=rfl
theorem vv:rC .Lt (.int i) (.int j)=some (decide (i<j)):=rfl
theorem uv:rC .LtE (.int i) (.int j)=some (decide (i<=j)):=rfl
theorem fv:rC .Gt (.int i) (.int j)=some (decide (j<i)):=rfl
theorem dv:rC .GtE (.int i) (.int j)=some (decide (j<=i)):=rfl
theorem av:rC .Eq (.int i) (.int j)=some (decide (i=j)):=rfl
theorem xv:rC .NotEq (.int i) (.int j)=some (!decide (i=j)):=rfl
def Zu(h1:lB 20 d=true)(h2:lB 20 e=true):rC .Eq d e=some (TC d e):=by
 show(if(lB 20 d&&lB 20 e)=true then some (TC d e) else none)=_;rw[h1,h2];rfl
theorem cv:rC .Eq (.str a) (.str b)=some (a==b):=rfl
theorem zv:rC .NotEq (.str a) (.str b)=some (!(a==b)):=rfl
theorem sv:rC .Is .oA .oA=some true:=rfl
theorem Fv:rC .IsNot .oA .oA=some false:=rfl
theorem Dv:rC .IsNot (.int i) .oA=some true:=rfl
theorem dXa:AK (.bl b)=some b:=rfl
noncomputable def oX(P:YA)(C:Calls)(t:Bool)(b:E)(v:RV)(U:Env):zA RV:=match v with
 |.sh (.bl true)=>ev P C t b U
 |.sh (.bl false)=>some (.ok (.sh (.bl false)),U)
 |_=>none
noncomputable def G6(P:YA)(C:Calls)(t:Bool)(b:E)(v:RV)(U:Env):zA RV:=match v with
 |.sh (.bl true)=>some (.ok (.sh (.bl true)),U)
 |.sh (.bl false)=>ev P C t b U
 |_=>none
noncomputable def E6(P:YA)(C:Calls)(t:Bool)(a b:E)(v:RV)(U:Env):zA RV:=match v with
 |.sh (.bl true)=>ev P C t a U
 |.sh (.bl false)=>ev P C t b U
 |_=>none
theorem Fx:ev P C t (.and a b) U=(ev P C t a U).bind (oX P C t b):=rfl
theorem gy:ev P C t (.or a b) U=(ev P C t a U).bind (G6 P C t b):=rfl
theorem Wx:ev P C t (.ite c a b) U=(ev P C true c U).bind (E6 P C t a b):=rfl
theorem tDa:oX P C t b (.sh (.bl true)) U=ev P C t b U:=rfl
theorem sDa:oX P C t b (.sh (.bl false)) U=some (.ok (.sh (.bl false)),U):=rfl
theorem bFa:G6 P C t b (.sh (.bl true)) U=some (.ok (.sh (.bl true)),U):=rfl
theorem aFa:G6 P C t b (.sh (.bl false)) U=ev P C t b U:=rfl
theorem tEa:E6 P C t a b (.sh (.bl true)) U=ev P C t a U:=rfl
theorem sEa:E6 P C t a b (.sh (.bl false)) U=ev P C t b U:=rfl
theorem rDa:oX P C t b (.sh (.bl x)) U=if x=true then ev P C t b U else some (.ok (.sh (.bl false)),U):=by cases x<;>rfl
noncomputable def NC(a:Option D)(k:D):Option RV:=a.bind λd=>(CL d k).map .sh
noncomputable def rh(x:Hd)(k:RV)(U:Env):zA RV:=done (NC (x.get U) k.d) U
noncomputable def qh(P:YA)(C:Calls)(i:E)(x:Hd)(U:Env):zA RV:=(ev P C false i U).bind (rh x)
theorem Xx:ev P C t (.ix a i) U=aAh t ((LC P C a U).bind (qh P C i)):=rfl
def xg(h:L2.oC ds i=some d):NC (some (.l ds)) (.int i)=some (.sh d):=by
 show(L2.oC ds i).map RV.sh=_;rw[h];rfl
theorem fDa:NC (some (.t ds)) (.int i)=(L2.oC ds i).map RV.sh:=rfl
theorem eDa:NC (some (.l ds)) (.int i)=(L2.oC ds i).map RV.sh:=rfl
def VZ:L2.oC xs (OfNat.ofNat n)=xs[n]?:=by
 show L2.oC xs ((n:Nat):Int)=_
 cases h:xs[n]? with
 |some v=>exact L2.TZ h
 |none =>
  unfold L2.oC L2.iD
  have:=List.getElem?_eq_none_iff.mp h
  rw[uA (by lia),qB (by lia)];rfl
theorem Xb:L2.oC xs 0=xs[0]?:=VZ (n:=0)
theorem Yb:L2.oC xs 1=xs[1]?:=VZ (n:=1)
theorem Nt:L2.oC xs 2=xs[2]?:=VZ (n:=2)
def EI:NC (some (.l (a::l))) (.int 0)=some (.sh a):=xg (by rw[Xb];rfl)
def X5:NC (some (.l (a::b::l))) (.int 1)=some (.sh b):=xg (by rw[Yb];rfl)
noncomputable def bD(a l h:Option D):Option RV:=a.bind λd=>(ZM l).bind λl=>(ZM h).bind λh=>bN d l h
noncomputable def Jh(x:Hd)(l h:Option D)(U:Env):zA RV:=done (bD (x.get U) l h) U
noncomputable def zO(P:YA)(C:Calls)(e:E)(U:Env):zA (Option D):=aAL e (ev P C false e U) U
noncomputable def Ih(P:YA)(C:Calls)(hi:E)(x:Hd)(l:Option D)(U:Env):zA RV:=(zO P C hi U).bind (Jh x l)
noncomputable def Hh(P:YA)(C:Calls)(lo hi:E)(x:Hd)(U:Env):zA RV:=(zO P C lo U).bind (Ih P C hi x)
theorem hQa:zO P C .zC U=some (.ok none,U):=rfl
noncomputable def sX(v:RV)(U:Env):zA (Option D):=some (.ok (some v.d),U)
theorem gQa:zO P C (.c d) U=some (.ok (some d),U):=rfl
theorem iQa:zO P C (.v i) U=(ev P C false (.v i) U).bind sX:=rfl
theorem fQa:zO P C (.BA op a b) U=(ev P C false (.BA op a b) U).bind sX:=rfl
theorem eQa:zO P C (.bif f es) U=(ev P C false (.bif f es) U).bind sX:=rfl
theorem iy:ev P C t (.sl a lo hi) U=aAh t ((LC P C a U).bind (Hh P C lo hi)):=rfl
noncomputable def Rg(P:YA)(C:Calls)(f:String)(hs:List Hd)(U:Env):zA RV:=TF (P f) (C f) hs U
theorem Lx:ev P C t (.call f es) U=aAh t ((nD P C es U).bind (Rg P C f)):=rfl
noncomputable def j6(bA:List Bool)(hs:List Hd)(U U1:Env):zA RV->zA RV
 |none=>none
 |some (o,QA)=>(aAg bA hs QA U U1).map λU'=>(o,U')
noncomputable def Vg(bA:List Bool)(f:List Sl->zA RV)(hs:List Hd)(U:Env):Option (List Sl×Env)->zA RV
 |none=>none
 |some (as,U1)=>j6 bA hs U U1 (f as)
theorem Ew:TF bA f hs U=Vg bA f hs U (aAj bA hs U):=rfl
theorem bEa:Vg bA f hs U (some (as,U1))=j6 bA hs U U1 (f as):=rfl
noncomputable def Wg(o:Out RV)(x:Option Env):zA RV:=x.map λU'=>(o,U')
theorem dEa:Wg o (some U)=some (o,U):=rfl
theorem cEa:j6 bA hs U U1 (some (o,QA))=Wg o (aAg bA hs QA U U1):=rfl
noncomputable def qK(a:Sl)(o:Option (List Sl×Env)):Option (List Sl×Env):=o.map λ(as,U')=>(a::as,U')
theorem uEa:qK a (some (as,U))=some (a::as,U):=rfl
theorem xGa:aAj [] [] U=some ([],U):=rfl
theorem aHa:aAj (p::ps) (.val (.sh d)::r) U=qK (.sh d) (aAj ps r U):=rfl
theorem zGa:aAj (true::ps) (.val (.ow d)::r) U=qK (.ow d true false) (aAj ps r U):=rfl
theorem yGa:aAj (false::ps) (.val (.ow d)::r) U=qK (.sh d) (aAj ps r U):=rfl
noncomputable def rX(p:Bool)(ps:List Bool)(i:Nat)(r:List Hd)(U:Env):Option Sl->Option (List Sl×Env)
 |some (.sh d)=>qK (.sh d) (aAj ps r U)
 |some (.ow d pin lk)=>match p with
  |true=>qK (.ow d true lk) (aAj ps r (U.set i .un))
  |false=>if pin||lk then none else qK (.sh d) (aAj ps r (U.set i (.sh d)))
 |_=>none
theorem bHa:aAj (p::ps) (.slot i::r) U=rX p ps i r U U[i]?:=rfl
theorem xEa:rX p ps i r U (some (.sh d))=qK (.sh d) (aAj ps r U):=rfl
theorem wEa:rX true ps i r U (some (.ow d pin lk))=qK (.ow d true lk) (aAj ps r (U.set i .un)):=rfl
theorem vEa:rX false ps i r U (some (.ow d false false))=qK (.sh d) (aAj ps r (U.set i (.sh d))):=rfl
theorem c_:aAg [] [] [] U0 U=some U:=rfl
theorem a_:aAg (false::ps) (.slot i::hs) (a::as) U0 U=aAg ps hs as U0 U:=rfl
theorem b_:aAg (false::ps) (.val v::hs) (a::as) U0 U=aAg ps hs as U0 U:=rfl
theorem e_:aAg (true::ps) (.val v::hs) (a::as) U0 U=aAg ps hs as U0 U:=rfl
noncomputable def y6(ps:List Bool)(i:Nat)(hs:List Hd)(a:Sl)(as:List Sl)(U0 U:Env)(o:Option Sl):Option Env :=
  match o,a with
  |some (.ow _ pin lk),.ow d _ _=>aAg ps hs as U0 (U.set i (.ow d pin lk))
  |some (.ow _ _ _),_=>none
  |_,_=>aAg ps hs as U0 U
theorem d_:aAg (true::ps) (.slot i::hs) (a::as) U0 U=y6 ps i hs a as U0 U U0[i]?:=rfl
theorem kEa:y6 ps i hs (.ow d p l) as U0 U (some (.ow d' p' l'))=aAg ps hs as U0 (U.set i (.ow d p' l')):=rfl
theorem lEa:y6 ps i hs a as U0 U (some (.sh d))=aAg ps hs as U0 U:=rfl
noncomputable def Mg(f:BI)(hs:List Hd)(U:Env):zA RV:=done ((getAll hs U).bind (pD f)) U
theorem Hx:ev P C t (.bif f es) U=aAh t ((nD P C es U).bind (Mg f)):=rfl
theorem Zz:getAll [] U=some []:=rfl
noncomputable def Me(a:Option D)(b:Option (List D)):Option (List D):=a.bind λd=>b.map (d :: ·)
theorem Xz:Me (some d) (some ds)=some (d::ds):=rfl
theorem Yz:getAll (h::r) U=Me (h.get U) (getAll r U):=rfl
theorem iz:pD .len [.l ds]=some (.sh (.int ds.length)):=rfl
theorem jz:pD .len [.t ds]=some (.sh (.int ds.length)):=rfl
theorem gz:pD .int [.bl b]=some (.sh (.int (if b then 1 else 0))):=rfl
theorem kz:pD .tuple [.l ds]=some (.sh (.t ds)):=rfl
noncomputable def pF(ts:List Ty):Option D->Option RV
 |some d=>(NS ts d).map λb=>.sh (.bl b)
 |none=>none
noncomputable def D6(ts:List Ty)(x:Hd)(U:Env):zA RV:=done (pF ts (x.get U)) U
theorem Vx:ev P C t (.xG a ts) U=aAh t ((LC P C a U).bind (D6 ts)):=by
 show aAh t ((LC P C a U).bind λx U1=>done ((x.get U1).bind λd=>(NS ts d).map λb=>.sh (.bl b)) U1)=_
 congr 2
 funext x U1
 unfold D6;cases x.get U1<;>rfl
theorem zBa:pF [.int] (some (.oA))=some (.sh (.bl false)):=rfl
theorem wBa:pF [.int] (some (.bl b))=some (.sh (.bl true)):=rfl
theorem xBa:pF [.int] (some (.int i))=some (.sh (.bl true)):=rfl
theorem aCa:pF [.int] (some (.str x))=some (.sh (.bl false)):=rfl
theorem bCa:pF [.int] (some (.t ds))=some (.sh (.bl false)):=rfl
theorem yBa:pF [.int] (some (.l ds))=some (.sh (.bl false)):=rfl
theorem uBa:pF [.bool] (some (.bl b))=some (.sh (.bl true)):=rfl
theorem vBa:pF [.bool] (some (.int i))=some (.sh (.bl false)):=rfl
theorem gCa:pF [.str] (some (.oA))=some (.sh (.bl false)):=rfl
theorem dCa:pF [.str] (some (.bl b))=some (.sh (.bl false)):=rfl
theorem eCa:pF [.str] (some (.int i))=some (.sh (.bl false)):=rfl
theorem hCa:pF [.str] (some (.str x))=some (.sh (.bl true)):=rfl
theorem iCa:pF [.str] (some (.t ds))=some (.sh (.bl false)):=rfl
theorem fCa:pF [.str] (some (.l ds))=some (.sh (.bl false)):=rfl
theorem cCa:pF [.list] (some (.l ds))=some (.sh (.bl true)):=rfl
theorem jCa:pF [.tuple] (some (.t ds))=some (.sh (.bl true)):=rfl
noncomputable def Ig(i:Nat)(d:D)(U:Env)(o:Option Sl):zA RV:=match o with
 |some (.ow (.l ds) p false)=>if pB (ds.length+1) then some (.ok (.sh .oA),U.set i (.ow (.l (ds++[d])) p false)) else none
 |_=>none
noncomputable def Jg(i:Nat)(v:RV)(U:Env):zA RV:=Ig i v.d U U[i]?
theorem uDa:Ig i d U (some (.ow (.l ds) p false))=WS (pB (ds.length+1)) (.sh .oA) (U.set i (.ow (.l (ds++[d])) p false)):=rfl
noncomputable def C6(r:zA RV)(b:Bool):zA RV:=if b then r else none
theorem oEa:C6 r true=r:=rfl
theorem Gx:ev P C t (.app i a) U=aAh t (C6 ((ev P C false a U).bind (Jg i)) (CF U i)):=rfl
noncomputable def jg:Option Sl->Bool
 |some (.ow (.l _) _ _)=>true
 |_=>false
theorem vCa:CF U i=jg U[i]?:=rfl
theorem uCa:jg (some (.ow (.l ds) p l))=true:=rfl
noncomputable def Kg(i:Nat)(v:RV)(U:Env):Run:=YF (store i v U)
theorem Ey:ex P C W (.kB i e) U=(ev P C false e U).uC (Kg i):=rfl
noncomputable def aR(i:Nat)(v:RV)(U:Env)(o:Option Sl):Option Env:=match o with
 |none=>none
 |some (.ow _ true _)=>none
 |some (.ow _ _ true)=>none
 |some _=>match v with
  |.sh d=>some (U.set i (.sh d))
  |.ow d=>some (U.set i (.ow d false false))
  |.od _=>none
theorem JO:store i v U=aR i v U U[i]?:=rfl
theorem qVa:aR i (.sh d) U (some .un)=some (U.set i (.sh d)):=rfl
theorem pVa:aR i (.ow d) U (some .un)=some (U.set i (.ow d false false)):=rfl
theorem oVa:aR i (.sh d) U (some (.sh d'))=some (U.set i (.sh d)):=rfl
theorem nVa:aR i (.ow d) U (some (.ow d' false false))=some (U.set i (.ow d false false)):=rfl
noncomputable def PB:Sl->Bool
 |.un=>true
 |.mv=>true
 |.sh _=>true
 |.ow _ false false=>true
 |_=>false
theorem vC(h:PB s=true):aR i (.sh d) U (some s)=some (U.set i (.sh d)):=by
 cases s with
 |ow d p l=>cases p<;>cases l<;>first | rfl | cases h
 |_=>rfl
theorem mT:PB .un=true:=rfl
theorem WX:PB (.sh d)=true:=rfl
theorem fKa:PB (.ow d false false)=true:=rfl
noncomputable def Lg(is:List Nat)(v:RV)(U:Env):Run:=YF (WA false is v.d U)
theorem Fy:ex P C W (.wM is e) U=(ev P C false e U).uC (Lg is):=rfl
theorem Hc:WA true [i] d U=store i (.sh d) U:=rfl
theorem ON:WA false (i::is) (.t ds) U=aAo (i::is) ds U:=rfl
theorem GO:aAo [] [] U=some U:=rfl
noncomputable def Lh(is:List Nat)(ds:List D)(o:Option Env):Option Env:=o.bind (aAo is ds)
theorem FO:aAo (i::is) (d::ds) U=Lh is ds (store i (.sh d) U):=rfl
theorem pO:Lh is ds (some U)=aAo is ds U:=rfl
noncomputable def IT(i:Nat)(v:D)(U:Env):Option Sl->D->Run
 |some (.ow (.l ds) p false),.int n=>YF ((L2.iD ds.length n).map λm=>U.set i (.ow (.l (ds.set m v)) p false))
 |_,_=>none
noncomputable def Gh(i:Nat)(v:RV)(j:RV)(U:Env):Run:=IT i v.d U U[i]? j.d
noncomputable def aSa(i:Nat)(v j:RV)(U:Env):Option Sl->Run
 |o=>match o,j,v with
  |_,_,_=>none
noncomputable def dFa(i:Nat)(v:RV)(j:RV)(U:Env):Run:=aSa i v j U U[i]?
noncomputable def nCa:Option Sl->Bool
 |_=>false
theorem oCa:mCa U i=nCa U[i]?:=rfl
noncomputable def nh(r r':Run)(b:Bool):Run:=if b then r else r'
theorem pEa:nh r r' true=r:=rfl
noncomputable def kPS(i:Nat)(v:RV)(j:RV)(U:Env):Run:=eUa i U U[i]? (nUa j.d) v
noncomputable def qCa:Option Sl->Bool
 |_=>false
theorem rCa:pCa U i=qCa U[i]?:=rfl
noncomputable def Ah(P:YA)(C:Calls)(i:Nat)(k:E)(v:RV)(U:Env):Run:=none
noncomputable def Fh(P:YA)(C:Calls)(i:Nat)(k:E)(v:RV)(U:Env):Run:=nh ((ev P C false k U).uC (Gh i v)) (Ah P C i k v U) (CF U i)
theorem My:ex P C W (.set i k e) U=(ev P C false e U).uC (Fh P C i k):=rfl
def cDa:L2.iD (n+1) 0=some 0:=by unfold L2.iD;rw[uA (by lia),uA (by lia)];rfl
def dDa:L2.iD (n+2) 1=some 1:=by unfold L2.iD;rw[uA (by lia),uA (by lia)];rfl
theorem dUa:IT i v U (some (.ow (.l (a::b::ds)) p false)) (.int 1)=some (.nx,U.set i (.ow (.l (a::v::ds)) p false)):=by
 show YF ((L2.iD (ds.length+2) 1).map _)=_;rw[dDa];rfl
def Bk(h:L2.iD ds.length n=some m):IT i v U (some (.ow (.l ds) p false)) (.int n)=some (.nx,U.set i (.ow (.l (ds.set m v)) p false)):=by
 show YF ((L2.iD ds.length n).map _)=_;rw[h];rfl
noncomputable def bh(v:RV)(U:Env):Run:=some (.nx,U)
theorem Gy:ex P C W (.expr e) U=(ev P C false e U).uC bh:=rfl
noncomputable def dk(i:Nat)(U:Env):Option Sl->Run
 |some (.ow d false _)=>some (.rt (.ow d),U.set i .mv)
 |some (.sh d)=>some (.rt (.sh d),U)
 |_=>none
theorem fTa:dk i U (some (.sh d))=some (.rt (.sh d),U):=rfl
noncomputable def fH(v:RV)(U:Env):Run:=some (.rt v,U)
theorem Jy:ex P C W (.ret (.v i)) U=dk i U U[i]?:=rfl
theorem qx:ex P C W (.ret (.c d)) U=(ev P C false (.c d) U).uC fH:=rfl
theorem yx:ex P C W (.ret (.t es)) U=(ev P C false (.t es) U).uC fH:=rfl
theorem wx:ex P C W (.ret (.l es)) U=(ev P C false (.l es) U).uC fH:=rfl
theorem jx:ex P C W (.ret (.BA op a b)) U=(ev P C false (.BA op a b) U).uC fH:=rfl
theorem lx:ex P C W (.ret (.IA op a b)) U=(ev P C false (.IA op a b) U).uC fH:=rfl
theorem ax:ex P C W (.ret (.and a b)) U=(ev P C false (.and a b) U).uC fH:=rfl
theorem xx:ex P C W (.ret (.or a b)) U=(ev P C false (.or a b) U).uC fH:=rfl
theorem sx:ex P C W (.ret (.ite a b c)) U=(ev P C false (.ite a b c) U).uC fH:=rfl
theorem ux:ex P C W (.ret (.ix a b)) U=(ev P C false (.ix a b) U).uC fH:=rfl
theorem kx:ex P C W (.ret (.call f es)) U=(ev P C false (.call f es) U).uC fH:=rfl
theorem gx:ex P C W (.ret (.bif f es)) U=(ev P C false (.bif f es) U).uC fH:=rfl
theorem mx{gA cond:List E}:ex P C W (.ret (.comp LA tg k gA cond imp nl)) U=(ev P C false (.comp LA tg k gA cond imp nl) U).uC fH:=rfl
noncomputable def B6(P:YA)(C:Calls)(W:Nat)(a b:List S)(v:RV)(U:Env):Run:=match v with
 |.sh (.bl true)=>GA P C W a U
 |.sh (.bl false)=>GA P C W b U
 |_=>none
theorem rEa:B6 P C W a b (.sh (.bl true)) U=GA P C W a U:=rfl
theorem qEa:B6 P C W a b (.sh (.bl false)) U=GA P C W b U:=rfl
theorem Iy:ex P C W (.wA c a b) U=(ev P C true c U).uC (B6 P C W a b):=rfl
noncomputable def we(P:YA)(C:Calls)(W:Nat)(tg:List Nat)(one:Bool)(body:List S)(U:Env):Option (List D×Option Nat)->Run
 |none=>none
 |some (ds,o)=>(KC (WA one tg) (GA P C W body) ds (aAb o U)).restore o U
theorem Bz:we P C W tg one body U (some (ds,o))=(KC (WA one tg) (GA P C W body) ds (aAb o U)).restore o U:=rfl
noncomputable def aAX(P:YA)(C:Calls)(W:Nat)(tg:List Nat)(one:Bool)(k:wF)(body:List S)(hs:List Hd)(U:Env):Run:=we P C W tg one body U (aAa k hs U)
theorem Hy:ex P C W (.for tg one k gA body) U=(nD P C gA U).uC (aAX P C W tg one k body):=rfl
theorem fS:GA P C W [] U=some (.nx,U):=rfl
theorem OH:GA P C W (s::r) U=(ex P C W s U).next (GA P C W r):=rfl
theorem jTa{r:Run}:r.restore none U0=r:=by cases r with | none=>rfl | some y=>obtain⟨fl,U⟩:=y;rfl
theorem lXa:aAb none U=U:=rfl
def R5(h:a.get U=some (.int n))(h1:-1000000<=n)(h2:n<=1000000):aAa .yD [a] U=some ((jC n.toNat).map λ(j:Nat)=>.int (j:Int),none):=by
 (unfold aAa;simp only[h]);exact uA ⟨h1,h2⟩
def DI(h:v.d=.l ds):aAa .of [.val v] U=some (ds,none):=by(unfold aAa;simp only[h])
def S5(h:v.d=.t ds):aAa .of [.val v] U=some (ds,none):=by(unfold aAa;simp only[h])
def qg(h:U[i]?=some (.sh (.l ds))):aAa .of [.slot i] U=some (ds,none):=by(unfold aAa;simp only[h])
def AQ(h:U[i]?=some (.sh (.t ds))):aAa .of [.slot i] U=some (ds,none):=by(unfold aAa;simp only[h])
def AX{bind:D->Env->Option Env}(I:Env->Prop)(h:∀d∈ds,∀U,I U->∃U1,bind d U=some U1/\∃U2,body U1=some (.nx,U2)/\I U2):∀{U:Env},I U->∃U',KC bind body ds U=some (.nx,U')/\I U':=by
 induction ds with
 |nil=>exact λhU=>⟨_,rfl,hU⟩
 |cons d ds ih =>
  intro U hU;obtain⟨U1,e1,U2,e2,h2⟩:=h d (by simp) U hU;obtain⟨U',e3,h3⟩:=ih (λd' vI=>h d' (by simp[vI])) h2;exact⟨U',by simp only[KC,e1,e2,e3],h3⟩
def T6{bind:D->Env->Option Env}(I:List D->Env->Prop)(h:∀pre d post,ds=pre++d::post->∀U,I pre U->∃U1,bind d U=some U1/\∃U2,body U1=some (.nx,U2)/\I (pre++[d]) U2)(h0:I [] U):∃U',KC bind body ds U=some (.nx,U')/\I ds U':=by
 have key:∀(post pre:List D) (U:Env),ds=pre++post->I pre U->∃U',KC bind body post U=some (.nx,U')/\I ds U':=by
  intro post
  induction post with
  |nil=>intro pre U e hp;rw[DK] at e;subst e;exact⟨U,rfl,hp⟩
  |cons d post ih =>
   intro pre U e hp;obtain⟨U1,e1,U2,e2,h2⟩:=h pre d post e U hp;obtain⟨U',e3,h3⟩:=ih (pre++[d]) U2 (by rw[e];simp) h2;exact⟨U',by simp only[KC,e1,e2,e3],h3⟩
 exact key ds [] U rfl h0
noncomputable def J6(as:List Sl):Run->zA RV
 |some (.nx,U)=>some (.ok (.sh .oA),back as U)
 |some (.rt v,U)=>some (.ok v,back as U)
 |_=>none
theorem Eh:J6 as (some (.rt v,U))=some (.ok v,back as U):=rfl
def dC(hT:T f=some fn)(h1:as.length=fn.bA.length)(h2:as.all uK=true)(h3:fn.rs=false:=by rfl):run T W (n+1) f as=J6 as (GA T.bA (run T W n) W fn.body (as++wC fn.nl .un)):=by
 simp only[run,hT];rw[uA ⟨h1,h2⟩,h3];generalize GA T.bA (run T W n) W fn.body (as++wC fn.nl .un)=r;obtain _ | ⟨fl,U⟩:=r
 ·rfl
 ·cases fl<;>rfl
noncomputable def aAu(T:Tab)(W n:Nat)(fn:Fn)(as:List Sl):Option (Exc×Env):=aD T.bA (run T W n) W fn.body (as++wC fn.nl .un)
noncomputable def tX(as:List Sl)(r:Run)(o:Option (Exc×Env)):zA RV:=match r with
 |some (.nx,U)=>some (.ok (.sh .oA),back as U)
 |some (.rt v,U)=>some (.ok v,back as U)
 |_=>match o with
  |some (x,U)=>some (.ex x,back as U)
  |none=>none
theorem hFa:tX as (some (.nx,U)) o=some (.ok (.sh .oA),back as U):=rfl
theorem iFa:tX as (some (.rt v,U)) o=some (.ok v,back as U):=rfl
theorem gFa:tX as none o=(match o with | some (x,U)=>some (.ex x,back as U) | none=>none):=rfl
def wJ(hT:T f=some fn)(h1:as.length=fn.bA.length)(h2:as.all uK=true)(h3:fn.rs=true:=by rfl):run T W (n+1) f as=tX as (GA T.bA (run T W n) W fn.body (as++wC fn.nl .un)) (aAu T W n fn as):=by
 simp only[run,hT];rw[uA ⟨h1,h2⟩,h3];unfold aAu;generalize GA T.bA (run T W n) W fn.body (as++wC fn.nl .un)=r;obtain _ | ⟨fl,U⟩:=r
 ·rfl
 ·cases fl<;>rfl
end
end CI
namespace CI
open PySem PySem.Spec PyProof.Rows L2
noncomputable def C1:D->cA->Bool
 |.oA,.none=>true
 |.bl a,.bool b=>a==b
 |.int i,.int j _=>i==j
 |.str x,.str y _=>x==y&&nC x
 |_,_=>false
noncomputable def VP:List D->List cA->Bool
 |[],[]=>true
 |d::ds,v::vs=>C1 d v&&VP ds vs
 |_,_=>false
def bw{K:fA}(h:C1 d u=true):∃v,aAe v u/\∀G,kA K G d v:=by
 cases d<;>cases u<;>simp only[C1,zD] at h
 ·exact⟨.oA,rfl,λG=>by simp[kA]⟩
 ·exact⟨.bl _,rfl,λG=>by simp[kA,jB h]⟩
 ·rename_i i j t;exact⟨.int i,⟨t,by rw[jB h]⟩,λG=>by simp[kA]⟩
 ·rename_i x y t;rw[qA] at h;exact⟨.str x,⟨t,by rw[jB h.1]⟩,λG=>by simp[kA,h.2]⟩
theorem qd{K:fA}:∀{ds:List D} {us:List cA},VP ds us=true->∃vs,aAf vs us/\∀G,rA K G ds vs
 |[],[],_=>⟨[],.nil,λG=>rA.nil⟩
 |d::ds,u::us,h=>by
  simp only[VP,qA] at h;obtain⟨v,h1,h2⟩:=bw h.1;obtain⟨vs,h3,h4⟩:=qd h.2;exact⟨v::vs,.cons h1 h3,λG=>rA.cons (h2 G) (h4 G)⟩
 |[],_::_,h=>by simp[VP] at h
 |_::_,[],h=>by simp[VP] at h
def gw{K:fA}{sl}(X:K.In h)(G:h.Ns oB mg)
  (ha:JB K oB x=some (some (.ref a))) (hl:K.lookup a=some ⟨.type "tuple",dd,.seq gA n,sl⟩) (hc:VP ds gA.toList=true) (hz:decide (gA.size<=1000)=true):aH K mg T gl (x,.c (.t ds)):=by
 obtain⟨vs,h1,h2⟩:=qd hc;refine⟨_,.ref a,ZL X G ha,rfl,λG=>?_⟩;simp only[kA];exact⟨a,vs,rfl,.inr ⟨_,gA,n,hl,rfl,rfl,uE (RL hz) (by decide),h1⟩,h2 G⟩
noncomputable section
variable{U U1:Env}
noncomputable def n6(P:YA)(C:Calls)(LA:E)(tg:List Nat)(k:wF)(cond:List E)(imp:List Nat)(nl:Nat)(hs:List Hd)(U1:Env):zA RV :=
 match aAa k hs U1 with
 |none=>none
 |some (ds,o)=>(TF (imp.map λ_=>true) (RN (fD P C cond) (ev P C false LA) (WA (tg.length==1) tg) ds nl) (imp.map Hd.slot) (aAb o U1)).bind (aAB o U1)
theorem Px{gA cond:List E}:ev P C t (.comp LA tg k gA cond imp nl) U=aAh t ((nD P C gA U).bind (n6 P C LA tg k cond imp nl)):=rfl
def jD{cond:List E}(h:aAa k hs U1=some (ds,none)) :
  n6 P C LA tg k cond imp nl hs U1=(TF (imp.map λ_=>true) (RN (fD P C cond) (ev P C false LA) (WA (tg.length==1) tg) ds nl) (imp.map Hd.slot) U1).bind (aAB none U1):=by
 unfold n6;rw[h];rfl
theorem g_:aAB none U1 v U2=some (.ok v,U2):=rfl
noncomputable def l6(as:List Sl)(cB:List D)(Ui:Env):zA RV:=if pB cB.length then some (.ok (.ow (.l cB)),back as Ui) else none
theorem ZC{bind:D->Env->Option Env}(h:as.all uK=true):RN tests LA bind ds nl as=(QD tests LA bind ds [] (as++wC nl .un)).bind (l6 as):=by
 unfold RN;rw[uA h];rfl
theorem eEa(h:pB cB.length=true):l6 as cB Ui=some (.ok (.ow (.l cB)),back as Ui):=by unfold l6;rw[uA h]
theorem N2:fD P C [] U=some (.ok (.sh (.bl true)),U):=rfl
noncomputable def Oh(P:YA)(C:Calls)(es:List E)(v:RV)(U1:Env):zA RV:=match v with
 |.sh (.bl true)=>fD P C es U1
 |.sh (.bl false)=>some (.ok (.sh (.bl false)),U1)
 |_=>none
theorem Bx:fD P C (e::es) U=(ev P C true e U).bind (Oh P C es):=rfl
theorem tFa:Oh P C [] (.sh (.bl b)) U1=some (.ok (.sh (.bl b)),U1):=by
 cases b
 ·rfl
 ·show fD P C [] U1=_;exact N2
theorem rPa:uK (.ow d true l)=true:=rfl
theorem sPa:uK (.sh d)=true:=rfl
def Zc{bind:D->Env->Option Env}(I:Nat->List D->Env->Prop)
  (step:∀(j:Nat) (d:D),ds[j]?=some d->∀cB U,I j cB U->∃U1 c U2,bind d U=some U1/\tests U1=some (.ok (.sh (.bl c)),U2)/\(c=true->∃v U3,LA U2=some (.ok v,U3)/\I (j+1) (cB++[v.d]) U3)/\(c=false->I (j+1) cB U2)) :
  ∀cB U,I 0 cB U->∃sG U',QD tests LA bind ds cB U=some (.ok sG,U')/\I ds.length sG U'/\sG.length<=cB.length+ds.length:=by
 have key:∀(es:List D) (j:Nat),ds.drop j=es->∀cB U,I j cB U->∃sG U',QD tests LA bind es cB U=some (.ok sG,U')/\I (j+es.length) sG U'/\sG.length<=cB.length+es.length:=by
  intro es
  induction es with
  |nil=>intro j _ cB U h;exact⟨cB,U,rfl,h,by simp⟩
  |cons d es ih =>
   intro j hj cB U h
   have hd:ds[j]?=some d:=by
    have:(ds.drop j)[0]?=some d:=by rw[hj];rfl
    simpa using this
   have mf:ds.drop (j+1)=es:=by
    have:(ds.drop j).drop 1=es:=by rw[hj];rfl
    rw[List.drop_drop] at this;exact this
   obtain⟨U1,c,U2,h1,h2,h3,h4⟩:=step j d hd cB U h;simp only[QD,h1,h2,zA.bind]
   cases c with
   |false =>
    obtain⟨sG,U',e1,e2,e3⟩:=ih (j+1) mf cB U2 (h4 rfl);refine⟨sG,U',e1, ?_,by simp only[IC];lia⟩
    have:j+(d::es).length=j+1+es.length:=by simp only[IC];lia
    rw[this];exact e2
   |true =>
    obtain⟨v,U3,h5,h6⟩:=h3 rfl;obtain⟨sG,U',e1,e2,e3⟩:=ih (j+1) mf (cB++[v.d]) U3 h6;simp only[h5];refine⟨sG,U',e1, ?_,by simp only[lE,IC,rN] at e3 ⊢;lia⟩
    have:j+(d::es).length=j+1+es.length:=by simp only[IC];lia
    rw[this];exact e2
 intro cB U h
 have:=key ds 0 rfl cB U h
 simpa using this
def eC(h:n<=1000000):pB n=true:=cN h
end
end CI
namespace CI
open PySem (Operator CmpOp Str)
noncomputable section
variable{U U1 U2:Env}
noncomputable def lX(sn:List (List aA×List aA))(o:Option D):Option RV:=o.bind (N5 sn)
noncomputable def ph(sn:List (List aA×List aA))(x:Hd)(U:Env):zA RV:=done (lX sn (x.get U)) U
theorem Ux:ev P C t (.jO a sn) U=aAh t ((LC P C a U).bind (ph sn)):=rfl
noncomputable def K6(cs:List aA)(i j:Nat)(r:Run)(o:Option (Exc×Env)):Run:=match r with
 |some (.nx,U1)=>some (.nx,U1)
 |_=>QN cs i j o
theorem Py:ex P C W (.kR b cs i j) U=K6 cs i j (GA P C W b U) (aD P C W b U):=rfl
noncomputable def Hg(r:zA Hd)(f:Env->Option (Exc×Env))(o:Option (Exc×Env)):Option (Exc×Env):=match r with
 |some (.ok _,U1)=>f U1
 |_=>o
theorem Ex:jL P C (e::es) U=Hg (LC P C e U) (jL P C es) (NH P C e U):=rfl
theorem qDa:Hg (some (.ok h,U)) f o=f U:=rfl
theorem Ky:ex P C W (.YH c es) U=none:=rfl
noncomputable def uX(r:Run)(f:Env->Option (Exc×Env))(o:Option (Exc×Env)):Option (Exc×Env):=match r with
 |some (.nx,U1)=>f U1
 |_=>o
theorem je:aD P C W (s::r) U=uX (ex P C W s U) (aD P C W r) (UC P C W s U):=rfl
theorem lFa:uX (some (.nx,U)) f o=f U:=rfl
theorem kFa:uX none f o=o:=rfl
theorem jFa:uX (some (.ex x,U)) f o=o:=rfl
noncomputable def A6(r:zA RV)(f g:Env->Option (Exc×Env)):Option (Exc×Env):=match r with
 |some (.ok (.sh (.bl true)),U1)=>f U1
 |some (.ok (.sh (.bl false)),U1)=>g U1
 |_=>none
theorem zy:UC P C W (.wA c a b) U=A6 (ev P C true c U) (aD P C W a) (aD P C W b):=rfl
theorem nEa:A6 (some (.ok (.sh (.bl true)),U)) f g=f U:=rfl
theorem mEa:A6 (some (.ok (.sh (.bl false)),U)) f g=g U:=rfl
noncomputable def Dh(c:aA)(r:zA (List D)):Option (Exc×Env):=match r with
 |some (.ok _,U1)=>some (⟨c,none⟩,U1)
 |_=>none
theorem By:UC P C W (.YH c es) U=Dh c (ZD P C es U):=rfl
theorem fFa:Dh c (some (.ok ds,U))=some (⟨c,none⟩,U):=rfl
theorem Ly:ex P C W (.CO c es) U=none:=rfl
noncomputable def Bh(c:aA)(r:zA (List D)):Option (Exc×Env):=match r with
 |some (.ok [.int n],U1)=>some (⟨c,some n⟩,U1)
 |_=>none
theorem Cy:UC P C W (.CO c es) U=Bh c (ZD P C es U):=rfl
theorem eFa:Bh c (some (.ok [.int n],U))=some (⟨c,some n⟩,U):=rfl
noncomputable def pW(P:YA)(C:Calls)(W:Nat)(tg:List Nat)(one:Bool)(body:List S)(U:Env):Option (List D×Option Nat)->Option (Exc×Env)
 |some (ds,o)=>wK o U (gH (WA one tg) (GA P C W body) (aD P C W body) ds (aAb o U))
 |none=>none
theorem wz:pW P C W tg one body U (some (ds,o))=wK o U (gH (WA one tg) (GA P C W body) (aD P C W body) ds (aAb o U)):=rfl
noncomputable def x6(P:YA)(C:Calls)(W:Nat)(tg:List Nat)(one:Bool)(k:wF)(body:List S)(r:zA (List Hd)):Option (Exc×Env):=match r with
 |some (.ok hs,U1)=>pW P C W tg one body U1 (aAa k hs U1)
 |_=>none
theorem yy:UC P C W (.for tg one k gA body) U=x6 P C W tg one k body (nD P C gA U):=by
 show(match nD P C gA U with | some (.ok hs,U1)=>(match aAa k hs U1 with | some (ds,o)=>wK o U1 (gH (WA one tg) (GA P C W body) (aD P C W body) ds (aAb o U1)) | none=>none) | _=>none)=_;unfold x6 pW
 split<;>first | rfl | (split<;>rfl)
theorem iEa:x6 P C W tg one k body (some (.ok hs,U))=pW P C W tg one body U (aAa k hs U):=rfl
theorem S6{bind:D->Env->Option Env}(I:Env->Prop){J:Env->Prop}:∀{pre:List D},(∀e∈pre,∀U,I U->∃U1,bind e U=some U1/\∃U2,body U1=some (.nx,U2)/\I U2) ->
  (∀U,I U->∃U1,bind d U=some U1/\body U1=none/\∃U2,bx U1=some (x,U2)/\J U2)->∀U,I U->∃U2,gH bind body bx (pre++d::post) U=some (x,U2)/\J U2
 |[],_,hd,U,hi=>by
  obtain⟨U1,e1,e2,U2,e3,h3⟩:=hd U hi;exact⟨U2,by simp only[UL,gH,e1,e2,e3],h3⟩
 |a::pre,h,hd,U,hi=>by(obtain⟨U1,e1,U2,e2,h2⟩:=h a (by simp) U hi;obtain⟨U3,e3,h3⟩:=S6 (post:=post) I (λe he=>h e (jG _ he)) hd U2 h2;exact⟨U3,by simp only[gP,gH,e1,e2,e3],h3⟩)
theorem wy:UC P C W (.kB i e) U=NH P C e U:=rfl
theorem xy:UC P C W (.expr e) U=NH P C e U:=rfl
theorem Ay:UC P C W (.ret e) U=NH P C e U:=rfl
noncomputable def o6(r:zA RV):Option (Exc×Env):=match r with
 |some (.ex x,U')=>some (x,U')
 |_=>none
theorem fEa:o6 (some (.ex x,U))=some (x,U):=rfl
noncomputable def Qg(P:YA)(C:Calls)(f:String)(r:zA (List Hd))(o:Option (Exc×Env)):Option (Exc×Env):=match r with
 |some (.ok hs,U1)=>o6 (TF (P f) (C f) hs U1)
 |_=>o
theorem Dx:NH P C (.call f es) U=Qg P C f (nD P C es U) (jL P C es U):=rfl
theorem vDa:Qg P C f (some (.ok hs,U)) o=o6 (TF (P f) (C f) hs U):=rfl
theorem rFa:K6 cs i j (some (.ex x,U)) o=QN cs i j o:=rfl
theorem sFa:K6 cs i j (some (.nx,U)) o=some (.nx,U):=rfl
noncomputable def i6(i j:Nat)(d:D)(o:Option Env):Run:=o.bind λU2=>(store j (.sh d) U2).map λU3=>(.nx,U3.set i .mv)
def Qv(h:cs.contains x.cls=true)(h':i≠j):QN cs i j (some (x,U))=i6 i j (.uD x.cls x.num) (store i (.sh (.uD x.cls x.num)) U):=by
 show(if cs.contains x.cls=true/\i≠j then _ else none)=_;rw[uA ⟨h,h'⟩];rfl
noncomputable def Sg(i:Nat)(o:Option Env):Run:=o.map λU3=>(.nx,U3.set i .mv)
theorem wDa:i6 i j d (some U)=Sg i (store j (.sh d) U):=rfl
theorem xDa:Sg i (some U)=some (.nx,U.set i .mv):=rfl
def ng(h:kO c sn=some b):lX sn (some (.uD c m))=some (.sh (.bl b)):=by
 show(kO c sn).map _=_;rw[h];rfl
theorem sNa:LC P C (.yM a) U=(ev P C false (.yM a) U).bind yG:=rfl
noncomputable def J0(o:Option D):Option RV:=o.bind F0
theorem ku:J0 (some (.int i))=some (.sh (.int (xP i))):=rfl
noncomputable def Pg(x:Hd)(U:Env):zA RV:=done (J0 (x.get U)) U
theorem Kx:ev P C t (.yM a) U=aAh t ((LC P C a U).bind Pg):=rfl
theorem cOa:LC P C (.nH i x) U=(ev P C false (.nH i x) U).bind yG:=rfl
noncomputable def WM(x:aA)(o:Option D):Option RV:=o.bind (f6 x)
noncomputable def uh(x:aA)(h:Hd)(U:Env):zA RV:=done (WM x (h.get U)) U
theorem Yx:ev P C t (.bF x a) U=aAh t ((LC P C a U).bind (uh x)):=rfl
theorem jy:ev P C t (.nH i x) U=aAh t (oH x U U[i]?):=rfl
theorem my:ev P C t (.NT i x) U=aAh t (OT x U U[i]?):=rfl
theorem xVa:OT x U (some (.sh (.str y)))=some (.ok (.sh (.bl (lP y x))),U):=rfl
theorem vx:ex P C W (.ret (.bF x a)) U=(ev P C false (.bF x a) U).uC fH:=rfl
def Eg(h:BJ ds=some ts)(h1:uP x ts=true)(h2:nC (YB x ts)=true):WM x (some (.l ds))=some (.sh (.str (YB x ts))):=by
 show(match BJ ds with | some ts=>_ | none=>none)=_;rw[h];exact uA ⟨h1,h2⟩
def lVa(h1:(x.length==0)=false)(h2:y.length<=1000000)(h3:(UA y x).all nC=true):oH x U (some (.sh (.str y)))=some (.ok (.ow (.l ((UA y x).map D.str))),U):=uA ⟨h1,h2,h3⟩
def YJ(h:x.length+y.length<=1000000):pC .Add (.str x) (.str y)=some (.sh (.str (x++y))):=uA h
def qc(h1:yZ x n)(h2:nC (DG x n)=true):pC .Mult (.str x) (.int n)=some (.sh (.str (DG x n))):=uA ⟨h1,h2⟩
theorem bK:pD .str [.str x]=some (.sh (.str x)):=rfl
def Q2(h1:i.natAbs.log2<1920)(h2:nC (pA (toString i))=true):pD .str [.int i]=some (.sh (.str (pA (toString i)))):=uA ⟨h1,h2⟩
def pe(h1:x.length<=640)(h2:CU x=some n):pD .int [.str x]=some (.sh (.int n)):=by
 show @ite _ _ (cl _) _ none=_;rw[uA h1,h2];rfl
def XQ(h1:x.length<=1000000)(h2:nC (mD x lo hi)=true):bN (.str x) lo hi=some (.sh (.str (mD x lo hi))):=uA ⟨h1,h2⟩
def rg(h:a.get U=some (.str x))(h1:x.cps.all (·<128)=true)(h2:nC x=true):aAa .sig [a] U=some (yK x,none):=by
 show(match a.get U with | some (.str x)=>_ | _=>none)=_;rw[h];exact uA ⟨h1,h2⟩
theorem zg0:(a::l)[0]?=some a:=rfl
theorem zg1:(a::l)[n+1]?=l[n]?:=rfl
theorem zs0:(a::l).set 0 b=b::l:=rfl
theorem zs1:(a::l).set (n+1) b=a::l.set n b:=rfl
theorem zb:(some a).bind f=f a:=rfl
theorem zm:(some a).map f=some (f a):=rfl
theorem zi:(some a).isSome=true:=rfl
theorem zc:(a::l)++m=a::(l++m):=rfl
theorem zn:[]++l=l:=rfl
theorem zr0:wC 0 a=[]:=rfl
theorem zr1:wC (n+1) a=a::wC n a:=rfl
theorem zl0:([]:List O).length=0:=rfl
theorem zl1:(a::l).length=l.length+1:=rfl
theorem znt:(!true)=false:=rfl
theorem znf:(!false)=true:=rfl
theorem zko:back (.ow d p l::as) (b::bs)=b::back as bs:=rfl
theorem zks:back (.sh d::as) (b::bs)=.sh d::back as bs:=rfl
theorem zkn:back [] bs=[]:=rfl
end
def dHa{Q:List O->Prop}(h:∀a0,Q [a0])(us:List O)(hl:us.length=1):Q us:=by
 obtain _ | ⟨a0,r0⟩:=us
 ·simp at hl
 obtain _ | ⟨x,y⟩:=r0
 ·exact h a0
 ·simp at hl
def eHa{Q:List O->Prop}(h:∀a0 a1,Q [a0,a1])(us:List O)(hl:us.length=2):Q us:=by
 obtain _ | ⟨a0,r0⟩:=us
 ·simp at hl
 obtain _ | ⟨a1,r1⟩:=r0
 ·simp at hl
 obtain _ | ⟨x,y⟩:=r1
 ·exact h a0 a1
 ·simp at hl
def fHa{Q:List O->Prop}(h:∀a0 a1 a2,Q [a0,a1,a2])(us:List O)(hl:us.length=3):Q us:=by
 obtain _ | ⟨a0,r0⟩:=us
 ·simp at hl
 obtain _ | ⟨a1,r1⟩:=r0
 ·simp at hl
 obtain _ | ⟨a2,r2⟩:=r1
 ·simp at hl
 obtain _ | ⟨x,y⟩:=r2
 ·exact h a0 a1 a2
 ·simp at hl
def gHa{Q:List O->Prop}(h:∀a0 a1 a2 a3,Q [a0,a1,a2,a3])(us:List O)(hl:us.length=4):Q us:=by
 obtain _ | ⟨a0,r0⟩:=us
 ·simp at hl
 obtain _ | ⟨a1,r1⟩:=r0
 ·simp at hl
 obtain _ | ⟨a2,r2⟩:=r1
 ·simp at hl
 obtain _ | ⟨a3,r3⟩:=r2
 ·simp at hl
 obtain _ | ⟨x,y⟩:=r3
 ·exact h a0 a1 a2 a3
 ·simp at hl
def hHa{Q:List O->Prop}(h:∀a0 a1 a2 a3 a4,Q [a0,a1,a2,a3,a4])(us:List O)(hl:us.length=5):Q us:=by
 obtain _ | ⟨a0,r0⟩:=us
 ·simp at hl
 obtain _ | ⟨a1,r1⟩:=r0
 ·simp at hl
 obtain _ | ⟨a2,r2⟩:=r1
 ·simp at hl
 obtain _ | ⟨a3,r3⟩:=r2
 ·simp at hl
 obtain _ | ⟨a4,r4⟩:=r3
 ·simp at hl
 obtain _ | ⟨x,y⟩:=r4
 ·exact h a0 a1 a2 a3 a4
 ·simp at hl
open PySem PySem.Spec PyProof.Rows L2 in
def BQ(x bB:aA)(st:VA)(kV doc pm:cA)(an:Option eA)(ZA ct:cA)(us:List cA):Prop:=PySem.bindArgs (uH x bB (KH st) (YD st) (iC st) .none kV doc pm an ZA ct) ⟨us,[]⟩=pure ((xD st).zip us)
def fc{P:O->Prop}(h:P a)(t:∀x∈l,P x):∀x∈a::l,P x:=List.forall_mem_cons.mpr ⟨h,t⟩
section
open PySem PySem.Spec PyProof.Rows L2
def GC{K:fA}{mg:aA->Option cA}{h:DB}{T:Tab}{gl:aA->GV}{x:aA}{f:String}{st:VA}{fn:Fn}{r:List (aA×GV)}(X:K.In h)(G:h.Ns oB mg)(O:lC gl st x fn)(t:∀e∈r,aH K mg T gl e)(hT:T f=some fn:=by rfl)(D:JR K x st:=by refine' CI.Ad ?a ?l ?c ?k;(case a | l | c | k=>k_is)):∀e∈(x,GV.fn f)::r,aH K mg T gl e:=fc (Vw X G D O hT) t
abbrev Mb(st:VA):Prop:=(bG st).Nodup/\(bG st).take (xD st).length=xD st/\(∀x∈xD st,(iC st).names.lookup x=some .local\/(iC st).names.lookup x=some .cell)/\∀y∈(iC st).names,y.2≠.free
abbrev DN(x bB:aA)(st:VA):Prop:=∀(kV doc pm:cA) (an:Option eA) (ZA ct:cA) (us:List cA),us.length=(xD st).length->BQ x bB st kV doc pm an ZA ct us
def HC{st:VA}(q:DN x bB st)(h1:(iC st).kind=.function:=by rfl)(h2:(iC st).isCoroutine=false:=by rfl)(h3:(iC st).isGenerator=false:=by rfl)(h:Mb st/\(bG st).length=fn.bA.length+fn.nl/\(xD st).length=fn.bA.length:=by left)(b:fn.body=td gl st:=by kernel_rfl):BZ gl st x bB fn :=
 ⟨⟨h1,h2,h3,h.1.1,h.1.2.1,h.1.2.2.1,h.1.2.2.2⟩,b,h.2.1,h.2.2,q⟩
def qi{st:VA}{bB:aA}(q:DN "__init__" bB st)(h1:(iC st).kind=.function:=by rfl)(h2:(iC st).isCoroutine=false:=by rfl)(h3:(iC st).isGenerator=false:=by rfl)(h:Mb st:=by left)(b:hX (xD st) (YD st)=some "number":=by kernel_rfl):WU st bB :=
 ⟨⟨h1,h2,h3,h.1,h.2.1,h.2.2.1,h.2.2.2⟩,b,q⟩
variable{st:VA}
def mE(hn:(xD st).length=1:=by rfl)(h:∀kV doc pm an ZA ct a0,BQ x bB st kV doc pm an ZA ct [a0]:=by intros;exact rfl):DN x bB st:=λkV doc pm an ZA ct us hl=>dHa (h kV doc pm an ZA ct) us (hl.trans hn)
def NN(hn:(xD st).length=2:=by rfl)(h:∀kV doc pm an ZA ct a0 a1,BQ x bB st kV doc pm an ZA ct [a0,a1]:=by intros;exact rfl):DN x bB st:=λkV doc pm an ZA ct us hl=>eHa (h kV doc pm an ZA ct) us (hl.trans hn)
def Dc(hn:(xD st).length=3:=by rfl)(h:∀kV doc pm an ZA ct a0 a1 a2,BQ x bB st kV doc pm an ZA ct [a0,a1,a2]:=by intros;exact rfl):DN x bB st:=λkV doc pm an ZA ct us hl=>fHa (h kV doc pm an ZA ct) us (hl.trans hn)
def N0(hn:(xD st).length=4:=by rfl)(h:∀kV doc pm an ZA ct a0 a1 a2 a3,BQ x bB st kV doc pm an ZA ct [a0,a1,a2,a3]:=by intros;exact rfl):DN x bB st:=λkV doc pm an ZA ct us hl=>gHa (h kV doc pm an ZA ct) us (hl.trans hn)
def O0(hn:(xD st).length=5:=by rfl)(h:∀kV doc pm an ZA ct a0 a1 a2 a3 a4,BQ x bB st kV doc pm an ZA ct [a0,a1,a2,a3,a4]:=by intros;exact rfl):DN x bB st:=λkV doc pm an ZA ct us hl=>hHa (h kV doc pm an ZA ct) us (hl.trans hn)
end
noncomputable def gh(i:Nat)(v:RV)(U:Env)(o:Option Sl):zA RV:=match o,v with
 |some (.ow (.l ds) p false),.ow (.l es)=>if pB (ds.length+es.length) then some (.ok (.sh .oA),U.set i (.ow (.l (ds++es)) p false)) else none
 |_,_=>none
noncomputable def jh(i:Nat)(v:RV)(U:Env):zA RV:=gh i v U U[i]?
theorem hEa:gh i (.ow (.l es)) U (some (.ow (.l ds) p false))=WS (pB (ds.length+es.length)) (.sh .oA) (U.set i (.ow (.l (ds++es)) p false)):=rfl
theorem Sx:ev P C t (.ext i a) U=aAh t (C6 ((ev P C false a U).bind (jh i)) (CF U i)):=rfl
theorem Qy:ex P C W (.SO b cs) U=GA P C W b U:=rfl
theorem Dy:UC P C W (.SO b cs) U=ZR cs (aD P C W b U):=rfl
def Z0(h:cs.contains x.cls=true)(h':x.cls≠pA "NoText"):ZR cs (some (x,U))=some (⟨"NoText",none⟩,U):=uA ⟨h,h'⟩
noncomputable def r6(ks:List aA)(ds:List D)(U:Env):zA RV:=if ks.length=ds.length/\ks.Nodup then some (.ok (.ow (.sC ks ds)),U) else none
def gEa(h:ks.length=ds.length/\ks.Nodup):r6 ks ds U=some (.ok (.ow (.sC ks ds)),U):=uA h
theorem Rx:ev P C t (.AV ks es) U=aAh t ((ZD P C es U).bind (r6 ks)):=rfl
noncomputable def kT(i:Nat)(k:aA)(v:RV)(U:Env)(o:Option Sl):Run:=match o with
 |some (.ow (.sC ks ds) p false)=>if pB (ks.length+1) && !(ks.any λy=>decide (y=k)) then some (.nx,U.set i (.ow (.sC (ks++[k]) (ds++[v.d])) p false)) else none
 |_=>none
theorem fUa:qY i k v U=kT i k v U U[i]?:=rfl
def Mh(h:(pB (ks.length+1) && !(ks.any λy=>decide (y=k)))=true):kT i k v U (some (.ow (.sC ks ds) p false))=some (.nx,U.set i (.ow (.sC (ks++[k]) (ds++[v.d])) p false)):=uA h
theorem Ny:ex P C W (.DO i k e) U=(ev P C false e U).uC (qY i k):=rfl
theorem Bv:rC .NotIn (.str x) (.sC ks ds)=some (!(cF ks ds x).isSome):=rfl
def wg(h:cF ks ds x=some d):NC (some (.sC ks ds)) (.str x)=some (.sh d):=by
 show(cF ks ds x).map _=_;rw[h];rfl
noncomputable def vX(s:aA)(v:RV)(U:Env):zA RV:=k8 s v.d U
def oFa(h:v.d=.str x):vX s v U=oH s U (some (.sh (.str x))):=by
 unfold vX;rw[h];rfl
theorem ly:ev P C t (.xY a s) U=aAh t ((ev P C false a U).bind (vX s)):=rfl
noncomputable def wX(P:YA)(C:Calls)(i:Nat)(a b:E)(v:RV)(U:Env):Run:=J8 i (ev P C false a) (ev P C false b) v.d U
theorem Oy:ex P C W (.eR i a b e) U=(ev P C false e U).uC (wX P C i a b):=rfl
def pFa(h:v.d=.t [d1,d2])(h1:CF U i=true)(h2:eN i d1 (ev P C false a U)=some U2)(h3:CF U2 i=true)(h4:eN i d2 (ev P C false b U2)=some U3):wX P C i a b v U=some (.nx,U3):=by
 unfold wX;rw[h];show(if CF U i then YF _ else none)=_;rw[uA h1,h2];show YF (if CF U2 i then _ else none)=_;rw[uA h3,h4];rfl
open PySem in
def dw(X:K.In h)(G:h.Ns oB mg)(a:JB K oB x=some (some (.str y t)))(ok:nC y=true):aH K mg T gl (x,.c (.str y)) :=
 ⟨_,.str y,ZL X G a,⟨t,rfl⟩,λG=>by unfold kA;exact⟨rfl,ok⟩⟩
end CI
namespace Tx
abbrev _root_.CI.E.n(d:Int):CI.E:=.c (.int d)
abbrev _root_.CI.E.s(d:aA):CI.E:=.c (.str d)
abbrev _root_.CI.E.b(d:Bool):CI.E:=.c (.bl d)
open PySem PySem.Spec PyProof.Rows L2 CI
noncomputable def top(i:Nat):VA:=PySem.Challenge.pw_canonwright_k64_texts_of_no_house.main.body.getD i (.Pass ⟨0,0,0,0⟩)
noncomputable def qo:List aA:=[]
noncomputable def Rn:List aA:=["NoHouse","NoVoice","NoRule","NoText"]
noncomputable def uo:List aA:=["NoHouse"]
noncomputable def Sn:List aA:=["NoVoice","NoRule","NoText"]
noncomputable def vo:List aA:=[]
noncomputable def Tn:List aA:=["NoHouse","NoVoice","NoRule","NoText"]
noncomputable def yo:List aA:=[]
noncomputable def Vn:List aA:=["NoHouse","NoVoice","NoRule","NoText"]
noncomputable def zo:List aA:=[]
noncomputable def Wn:List aA:=["NoHouse","NoVoice","NoRule","NoText"]
noncomputable def Ao:List aA:=["NoRule"]
noncomputable def Xn:List aA:=["NoHouse","NoVoice","NoText"]
noncomputable def Co:List aA:=["NoVoice"]
noncomputable def Zn:List aA:=["NoHouse","NoRule","NoText"]
noncomputable def Eo:List aA:=[]
noncomputable def bo:List aA:=["NoHouse","NoVoice","NoRule","NoText"]
noncomputable def Fo:List aA:=[]
noncomputable def eo:List aA:=["NoHouse","NoVoice","NoRule","NoText"]
noncomputable def Bo:List aA:=["NoText"]
noncomputable def Yn:List aA:=["NoHouse","NoVoice","NoRule"]
noncomputable def gL:List aA:=["NoHouse","NoVoice","NoRule","NoText"]
noncomputable def jo:List (List aA×List aA):=[(qo,Rn),(uo,Sn),(vo,Tn),(yo,Vn),(zo,Wn),(Ao,Xn),(Co,Zn),(Eo,bo),(Fo,eo)]
noncomputable def ko:List (List aA×List aA):=[(Bo,Yn)]
noncomputable def L:List (aA×GV):=("WAYS",.c (.t [(.str ("like":aA)),(.str ("against":aA)),(.str ("aside":aA)),(.str ("any":aA))]))::("NOTES",.c (.int 0))::("BAR",.c (.int 1))::("OCTAVE",.c (.int 2))::("VOICES",.c (.int 3))::("RULES",.c (.int 4))::("LATE",.c (.int 0))::("SHIFT",.c (.int 1))::("TURNED",.c (.int 2))::("FIGURES",.c (.str ("0123456789":aA)))::("MOST_FIGURES",.c (.int 60))::("GREATEST_SPAN",.c (.int 11))::("is_whole",.fn "is_whole")::("is_within",.fn "is_within")::("are_within",.fn "are_within")::("is_follower",.fn "is_follower")::("is_way",.fn "is_way")::("are_spans",.fn "are_spans")::("is_rule",.fn "is_rule")::("check_frame",.fn "check_frame")::("house_of",.fn "house_of")::("show_row",.fn "show_row")::("show_follower",.fn "show_follower")::("show_spans",.fn "show_spans")::("show_rule",.fn "show_rule")::("show_house",.fn "show_house")::("read_number",.fn "read_number")::("read_numbers",.fn "read_numbers")::("read_spans",.fn "read_spans")::("read_follower",.fn "read_follower")::("read_rule",.fn "read_rule")::("made_of",.fn "made_of")::("read_house",.fn "read_house")::("_law_pen",.fn "L_pen")::("_law_draw",.fn "L_draw")::("_law_rule",.fn "L_rule")::("_law_house",.fn "L_house")::("_law_rule_text",.fn "L_rule_text")::("_law_text",.fn "L_text")::("_law_number",.fn "L_number")::("_law_between",.fn "L_between")::("_law_good_voice",.fn "L_good_voice")::("_law_good_spans",.fn "L_good_spans")::("_law_good_rule",.fn "L_good_rule")::("_law_good_text",.fn "L_good_text")::("_law_bend",.fn "L_bend")::("_law_read",.fn "L_read")::("law",.fn "law")::("ValueError",.AB)::("all",.AB)::("bool",.AB)::("enumerate",.AB)::("int",.AB)::("isinstance",.AB)::("len",.AB)::("list",.AB)::("range",.AB)::("str",.AB)::("tuple",.AB)::("NoHouse",.exc)::("NoVoice",.uG)::("NoRule",.uG)::("NoText",.exc)::(col "Broken",.GD qo Rn)::(col "NoHouse",.GD uo Sn)::(col "NoNote",.GD vo Tn)::(col "NoNumber",.GD yo Vn)::(col "NoRow",.GD zo Wn)::(col "NoRule",.GD Ao Xn)::(col "NoVoice",.GD Co Zn)::(col "TooMany",.GD Eo bo)::(col "Unlike",.GD Fo eo)::(col "NoText",.GD Bo Yn)::(cat "CanonError",.GA gL)::[]
noncomputable def Wv:VA->List VA
 |.ClassDef _ _ _ body _ _ _ _ _ _ _=>body
 |_=>[]
noncomputable def LX(i j:Nat):VA:=(Wv (top i)).getD j (.Pass ⟨0,0,0,0⟩)
noncomputable def Q1:E:=(.call "is_within" [.v 3,.v 1,.v 0])
noncomputable def Md:E:=(.bif .str [.v 1])
noncomputable def B2:E:=(.bif .str [.v 2])
noncomputable def Z1:E:=(.call "show_follower" [.v 1])
noncomputable def A2:E:=(.call "show_rule" [.v 1])
noncomputable def FV:E:=(.IA .In (.v 1) (.s "0123456789"))
noncomputable def V1:E:=(.call "read_number" [.v 1])
noncomputable def X1:E:=(.call "read_spans" [.v 1])
noncomputable def EV:E:=(.ix (.v 1) (.neg (.n 1)))
noncomputable def R1:E:=(.call "read_follower" [.v 1])
noncomputable def S1:E:=(.call "read_rule" [.v 1])
noncomputable def Ld:E:=(.nH 1 (" ":aA))
noncomputable def CV:E:=(.bif .str [.v 1])
noncomputable def DV:E:=(.bif .str [.v 2])
noncomputable def P1:E:=(.call "L_rule_text" [.v 1])
noncomputable def BV:E:=(.v 1)
noncomputable def Jd:E:=(.call "L_number" [.v 1])
noncomputable def Fd:E:=(.call "L_number" [.v 1])
noncomputable def Kd:E:=(.nH 1 (" ":aA))
noncomputable def K1:E:=(.v 1)
noncomputable def N1:E:=(.and (.IA .Eq (.ix (.v 1) (.n 0)) (.s "voice")) (.call "L_good_voice" [.v 1]))
noncomputable def O1:E:=(.call "L_good_rule" [.v 3,.ix (.v 1) (.n 1),.ix (.v 1) (.n 2),.v 0])
noncomputable def cL:List S:=[.wA (.not (.call "is_follower" [.v 6])) [.CO "NoVoice" [.v 5]] []]
noncomputable def xM:List S:=[.wA (.not (.call "is_rule" [.v 1,.v 2,.bif .len [.v 3],.v 6])) [.CO "NoRule" [.v 5]] []]
noncomputable def KN:List S:=[.wA (.not (.call "is_within" [.v 2,.n 0,.n 11])) [.ret (.c .oA)] [],.kB 1 (.BA .BitOr (.v 1) (.BA .LShift (.n 1) (.v 2)))]
noncomputable def YZ:List S:=[.kB 8 (.call "L_draw" [.v 0,.ix (.l [.n 2,.n 5]) (.bif .int [.v 1])]),.expr (.app 6 (.t [.v 8,.BA .Sub (.call "L_draw" [.v 0,.n 25]) (.n 12),.IA .Eq (.call "L_draw" [.v 0,.n 4]) (.n 0)]))]
noncomputable def ZZ:List S:=[.expr (.app 9 (.call "L_rule" [.v 0,.v 2,.v 3,.v 4,.v 5]))]
noncomputable def z0:List S:=[.expr (.app 6 (.BA .Add (.BA .Add (.BA .Add (.BA .Add (.s "voice ") (.bif .str [.v 7])) (.s " ")) (.bif .str [.v 8])) (.ix (.l [.s "",.s " turned"]) (.bif .int [.v 9]))))]
noncomputable def rV:List S:=[.wA (.or (.not (.call "L_between" [.ix (.v 2) (.v 3),.n 0,.BA .Sub (.v 1) (.n 1)])) (.and (.IA .Gt (.v 3) (.n 0)) (.IA .LtE (.ix (.v 2) (.v 3)) (.ix (.v 2) (.BA .Sub (.v 3) (.n 1)))))) [.ret (.b false)] []]
noncomputable def qV:List S:=[.wA (.not (.call "L_between" [.ix (.v 4) (.v 6),.ix (.ix (.ix (.v 5) (.ix (.v 0) (.n 0))) (.v 6)) (.n 0),.ix (.ix (.ix (.v 5) (.ix (.v 0) (.n 0))) (.v 6)) (.n 1)])) [.ret (.b false)] []]
noncomputable def bL:List S:=[.wA (.or (.IA .NotEq (.bif .len [.ix (.v 1) (.v 3)]) (.n 2)) (.IA .NotEq (.ix (.ix (.v 1) (.v 3)) (.n 0)) (.ix (.l [.s "notes",.s "bar",.s "octave"]) (.v 3)))) [.ret (.b false)] [],.expr (.app 2 (.call "L_number" [.ix (.ix (.v 1) (.v 3)) (.n 1)])),.wA (.not (.call "L_between" [.ix (.v 2) (.v 3),.n 1,.ix (.l [.n 7,.n 4,.n 12]) (.v 3)])) [.ret (.b false)] []]
noncomputable def A0:List S:=[.wA (.IA .NotEq (.call "L_read" [.v 5]) (.s "none")) [.ret (.b false)] []]
noncomputable def r8:S:=(.kB 5 (.call "L_draw" [.v 0,.n 9]))
noncomputable def zY:S:=(.wA (.IA .Lt (.v 5) (.n 2)) [.ret (.t [.s "span",.call "L_draw" [.v 0,.v 2],.call "L_draw" [.v 0,.BA .LShift (.n 1) (.v 3)]])] [])
noncomputable def v8:S:=(.wA (.IA .Eq (.v 5) (.n 2)) [.ret (.t [.s "span",.call "L_draw" [.v 0,.v 2],.BA .Sub (.BA .Sub (.BA .LShift (.n 1) (.v 3)) (.n 1)) (.BA .LShift (.n 1) (.call "L_draw" [.v 0,.v 3]))])] [])
noncomputable def x8:S:=(.wA (.IA .Eq (.v 5) (.n 3)) [.ret (.t [.s "leap",.call "L_draw" [.v 0,.ix (.l [.n 13,.BA .Add (.v 1) (.n 1)]) (.call "L_draw" [.v 0,.n 2])]])] [])
noncomputable def y8:S:=(.wA (.IA .Eq (.v 5) (.n 4)) [.ret (.t [.s "back",.BA .Add (.n 1) (.call "L_draw" [.v 0,.n 12]),.BA .Add (.n 1) (.call "L_draw" [.v 0,.n 12])])] [])
noncomputable def z8:S:=(.wA (.IA .Eq (.v 5) (.n 5)) [.ret (.t [.s "again",.BA .Add (.n 1) (.call "L_draw" [.v 0,.n 3])])] [])
noncomputable def A8:S:=(.wA (.IA .Eq (.v 5) (.n 6)) [.kB 6 (.ix (.l [.BA .Sub (.call "L_draw" [.v 0,.n 121]) (.n 60),.BA .Sub (.call "L_draw" [.v 0,.n 20]) (.n 12)]) (.call "L_draw" [.v 0,.n 2])),.ret (.t [.s "range",.v 6,.BA .Add (.v 6) (.call "L_draw" [.v 0,.BA .Sub (.n 61) (.v 6)])])] [])
noncomputable def B8:S:=(.wA (.IA .Eq (.v 5) (.n 7)) [.kB 7 (.call "L_draw" [.v 0,.BA .Add (.v 4) (.n 1)]),.ret (.t [.s "above",.v 7,.BA .Mod (.BA .Add (.BA .Add (.v 7) (.n 1)) (.call "L_draw" [.v 0,.v 4])) (.BA .Add (.v 4) (.n 1))])] [])
noncomputable def Rk:S:=(.kB 8 (.t [.s "like",.s "against",.s "aside",.s "any"]))
noncomputable def Sk:S:=(.ret (.t [.s "never",.call "L_draw" [.v 0,.v 3],.call "L_draw" [.v 0,.v 3],.ix (.v 8) (.call "L_draw" [.v 0,.n 4])]))
def kYa{P:YA}{C:Calls}{W:Nat}{U:CI.Env}:ex P C W Sk U=ex P C W (.ret (.t [(.c (.str ("never":aA))),(.call "L_draw" [(.v 0),(.v 3)]),(.call "L_draw" [(.v 0),(.v 3)]),(.ix (.v 8) (.call "L_draw" [(.v 0),(.c (.int 4))]))])) U:=(rfl)
noncomputable def eW:Fn:=⟨[true],0,[.ret (.and (.xG (.v 0) [.int]) (.not (.xG (.v 0) [.bool])))],false⟩
noncomputable def fW:Fn:=⟨[true,true,true],0,[.ret (.and (.call "is_whole" [.v 0]) (.HH .LtE .LtE (.v 1) (.v 0) (.v 2)))],false⟩
noncomputable def bW:Fn:=⟨[true,true,true,true],0,[.ret (.and (.IA .Eq (.bif .len [.v 0]) (.v 1)) (.bif .all [.comp Q1 [3] .of [.v 0] [] [3,2] 2]))],false⟩
noncomputable def mS:Fn:=⟨[true],0,[.wA (.or (.not (.xG (.v 0) [.tuple])) (.IA .NotEq (.bif .len [.v 0]) (.n 3))) [.ret (.b false)] [],.ret (.and (.call "is_within" [.ix (.v 0) (.n 0),.n 0,.n 4]) (.and (.call "is_within" [.ix (.v 0) (.n 1),.neg (.n 12),.n 12]) (.xG (.ix (.v 0) (.n 2)) [.bool])))],false⟩
noncomputable def dW:Fn:=⟨[true],0,[.ret (.and (.xG (.v 0) [.str]) (.IA .In (.v 0) (.c (.t [.str "like",.str "against",.str "aside",.str "any"]))))],false⟩
noncomputable def aW:Fn:=⟨[true,true],0,[.ret (.and (.call "is_whole" [.v 0]) (.and (.IA .GtE (.v 0) (.n 0)) (.IA .LtE (.yM (.v 0)) (.v 1))))],false⟩
noncomputable def lL:Fn:=⟨[true,true,true,true],2,[.wA (.or (.not (.xG (.v 3) [.tuple])) (.or (.IA .Eq (.bif .len [.v 3]) (.n 0)) (.not (.xG (.ix (.v 3) (.n 0)) [.str])))) [.ret (.b false)] [],.kB 4 (.ix (.v 3) (.n 0)),.kB 5 (.sl (.v 3) (.n 1) .zC),.wA (.IA .Eq (.v 4) (.s "span")) [.ret (.and (.IA .Eq (.bif .len [.v 5]) (.n 2)) (.and (.call "is_within" [.ix (.v 5) (.n 0),.n 0,.BA .Sub (.v 0) (.n 1)]) (.call "are_spans" [.ix (.v 5) (.n 1),.v 1])))] [],.wA (.IA .Eq (.v 4) (.s "leap")) [.ret (.call "are_within" [.v 5,.n 1,.n 0,.n 12])] [],.wA (.IA .Eq (.v 4) (.s "back")) [.ret (.call "are_within" [.v 5,.n 2,.n 1,.n 12])] [],.wA (.IA .Eq (.v 4) (.s "again")) [.ret (.call "are_within" [.v 5,.n 1,.n 1,.n 3])] [],.wA (.IA .Eq (.v 4) (.s "range")) [.ret (.and (.call "are_within" [.v 5,.n 2,.neg (.n 60),.n 60]) (.IA .LtE (.ix (.v 5) (.n 0)) (.ix (.v 5) (.n 1))))] [],.wA (.IA .Eq (.v 4) (.s "above")) [.ret (.and (.call "are_within" [.v 5,.n 2,.n 0,.v 2]) (.IA .NotEq (.ix (.v 5) (.n 0)) (.ix (.v 5) (.n 1))))] [],.wA (.IA .Eq (.v 4) (.s "never")) [.ret (.and (.IA .Eq (.bif .len [.v 5]) (.n 3)) (.and (.call "are_within" [.sl (.v 5) .zC (.n 2),.n 2,.n 0,.BA .Sub (.v 1) (.n 1)]) (.call "is_way" [.ix (.v 5) (.n 2)])))] [],.ret (.b false)],false⟩
noncomputable def cW:Fn:=⟨[true,true,true,true,true],0,[.wA (.not (.call "is_within" [.v 0,.n 1,.n 7])) [.YH "NoHouse" [.s "notes are from 1 to 7"]] [],.wA (.not (.call "is_within" [.v 1,.n 1,.n 4])) [.YH "NoHouse" [.s "a bar has from 1 to 4 beats"]] [],.wA (.not (.call "is_within" [.v 2,.n 1,.n 12])) [.YH "NoHouse" [.s "an octave is from 1 to 12"]] [],.wA (.not (.HH .LtE .LtE (.n 1) (.bif .len [.v 3]) (.n 3))) [.YH "NoHouse" [.s "followers are one to three"]] [],.wA (.IA .Gt (.bif .len [.v 4]) (.n 8)) [.YH "NoHouse" [.s "rules are at most eight"]] []],true⟩
noncomputable def VN:Fn:=⟨[false,false,false,true,true],2,[.expr (.call "check_frame" [.v 0,.v 1,.v 2,.v 3,.v 4]),.for [5,6] false (.enum 1) [.v 3] cL,.for [5,6] false (.enum 0) [.v 4] xM,.ret (.t [.v 0,.v 1,.v 2,.bif .tuple [.v 3],.bif .tuple [.v 4]])],true⟩
noncomputable def nW:Fn:=⟨[false],0,[.ret (.bF (" ":aA) (.comp Md [1] .of [.v 0] [] [] 2))],false⟩
noncomputable def lW:Fn:=⟨[true],1,[.kB 1 (.call "show_row" [.l [.s "voice",.ix (.v 0) (.n 0),.ix (.v 0) (.n 1)]]),.ret (.ite (.ix (.v 0) (.n 2)) (.BA .Add (.v 1) (.s " turned")) (.v 1))],false⟩
noncomputable def oW:Fn:=⟨[true],0,[.wA (.IA .Eq (.v 0) (.n 0)) [.ret (.s "-")] [],.ret (.bF (",":aA) (.comp B2 [2] .yD [.yM (.v 0)] [.IA .Eq (.BA .BitAnd (.BA .RShift (.v 0) (.v 2)) (.n 1)) (.n 1)] [0] 2))],false⟩
noncomputable def nS:Fn:=⟨[false],0,[.wA (.IA .Eq (.ix (.v 0) (.n 0)) (.s "span")) [.ret (.call "show_row" [.l [.s "span",.ix (.v 0) (.n 1),.call "show_spans" [.ix (.v 0) (.n 2)]]])] [],.ret (.call "show_row" [.v 0])],false⟩
noncomputable def mW:Fn:=⟨[true],1,[.kB 1 (.l [.call "show_row" [.l [.s "notes",.ix (.v 0) (.n 0)]],.call "show_row" [.l [.s "bar",.ix (.v 0) (.n 1)]],.call "show_row" [.l [.s "octave",.ix (.v 0) (.n 2)]]]),.expr (.ext 1 (.comp Z1 [1] .of [.ix (.v 0) (.n 3)] [] [] 2)),.expr (.ext 1 (.comp A2 [1] .of [.ix (.v 0) (.n 4)] [] [] 2)),.ret (.bF ("\n":aA) (.v 1))],false⟩
noncomputable def gK:Fn:=⟨[false],2,[.kB 1 (.ite (.NT 0 ("-":aA)) (.sl (.v 0) (.n 1) .zC) (.v 0)),.wA (.or (.not (.HH .LtE .LtE (.n 1) (.bif .len [.v 1]) (.n 60))) (.not (.bif .all [.comp FV [1] .sig [.v 1] [] [] 2]))) [.ret (.c .oA)] [],.kB 2 (.bif .int [.v 0]),.ret (.ite (.IA .Eq (.bif .str [.v 2]) (.v 0)) (.v 2) (.c .oA))],false⟩
noncomputable def iW:Fn:=⟨[false],0,[.ret (.comp V1 [1] .of [.v 0] [] [] 2)],false⟩
noncomputable def kW:Fn:=⟨[false],2,[.wA (.IA .Eq (.v 0) (.s "-")) [.ret (.n 0)] [],.kB 1 (.n 0),.for [2] true .of [.call "read_numbers" [.nH 0 (",":aA)]] KN,.ret (.v 1)],false⟩
noncomputable def gW:Fn:=⟨[false],0,[.ret (.bif .tuple [.BA .Add (.call "read_numbers" [.sl (.v 0) (.n 1) (.n 3)]) (.l [.IA .Eq (.sl (.v 0) (.n 3) .zC) (.l [.s "turned"])])])],false⟩
noncomputable def jW:Fn:=⟨[false],0,[.wA (.IA .Eq (.ix (.v 0) (.n 0)) (.s "span")) [.ret (.bif .tuple [.BA .Add (.BA .Add (.l [.s "span"]) (.call "read_numbers" [.sl (.v 0) (.n 1) (.n 2)])) (.comp X1 [1] .of [.sl (.v 0) (.n 2) .zC] [] [] 2)])] [],.wA (.IA .Eq (.ix (.v 0) (.n 0)) (.s "never")) [.ret (.bif .tuple [.BA .Add (.BA .Add (.l [.s "never"]) (.call "read_numbers" [.sl (.v 0) (.n 1) (.n 3)])) (.sl (.v 0) (.n 3) .zC)])] [],.ret (.bif .tuple [.BA .Add (.sl (.v 0) .zC (.n 1)) (.call "read_numbers" [.sl (.v 0) (.n 1) .zC])])],false⟩
noncomputable def JM:Fn:=⟨[false],3,[.kB 1 (.call "read_numbers" [.comp EV [1] .of [.sl (.v 0) .zC (.n 3)] [] [] 2]),.kB 2 (.comp R1 [1] .of [.sl (.v 0) (.n 3) .zC] [.IA .Eq (.ix (.v 1) (.n 0)) (.s "voice")] [] 2),.kB 3 (.comp S1 [1] .of [.sl (.v 0) (.n 3) .zC] [.IA .NotEq (.ix (.v 1) (.n 0)) (.s "voice")] [] 2),.SO [.ret (.call "house_of" [.ix (.v 1) (.n 0),.ix (.v 1) (.n 1),.ix (.v 1) (.n 2),.v 2,.v 3])] gL],true⟩
noncomputable def fK:Fn:=⟨[true],2,[.wA (.not (.xG (.v 0) [.str])) [.YH "NoText" [.s "a house is read from a text"]] [],.kB 1 (.comp Ld [1] .of [.nH 0 ("\n":aA)] [] [] 2),.wA (.IA .Lt (.bif .len [.v 1]) (.n 3)) [.YH "NoText" [.s "a house is written in more lines"]] [],.kB 2 (.call "made_of" [.v 1]),.wA (.IA .NotEq (.call "show_house" [.v 2]) (.v 0)) [.YH "NoText" [.s "a house is written otherwise"]] [],.ret (.v 2)],true⟩
noncomputable def YV:Fn:=⟨[true,false],1,[.wA (.and (.IA .Lt (.v 1) (.bif .len [.v 0])) (.IA .Eq (.BA .Mod (.ix (.v 0) (.n 0)) (.n 2)) (.n 0))) [.ret (.l [.n 0,.ix (.v 0) (.v 1)])] [],.kB 2 (.BA .Add (.BA .Mult (.n 30011) (.v 1)) (.n 7)),.wA (.IA .Gt (.bif .len [.v 0]) (.n 0)) [.kB 2 (.BA .Mod (.ix (.v 0) (.BA .Mod (.v 1) (.bif .len [.v 0]))) (.n 2147483587)),.kB 2 (.BA .Add (.BA .Add (.v 2) (.BA .Mult (.n 48611) (.BA .FloorDiv (.v 1) (.bif .len [.v 0])))) (.BA .Mult (.n 3) (.v 1)))] [],.ret (.l [.n 1,.BA .Mod (.BA .Add (.BA .Add (.BA .Mult (.v 2) (.n 48271)) (.BA .Mult (.n 11) (.v 1))) (.n 1)) (.n 2147483647)])],false⟩
noncomputable def QV:Fn:=⟨[true,true],3,[.wA (.IA .Eq (.ix (.v 0) (.n 0)) (.n 0)) [.kB 2 (.BA .Mod (.ix (.v 0) (.n 1)) (.v 1)),.set 0 (.n 1) (.BA .FloorDiv (.ix (.v 0) (.n 1)) (.v 1)),.ret (.v 2)] [],.set 0 (.n 1) (.BA .Mod (.BA .Add (.BA .Mult (.ix (.v 0) (.n 1)) (.n 69621)) (.n 7)) (.n 2147483629)),.kB 3 (.BA .Mod (.ix (.v 0) (.n 1)) (.n 65521)),.kB 4 (.BA .FloorDiv (.ix (.v 0) (.n 1)) (.n 65521)),.ret (.BA .Mod (.BA .FloorDiv (.BA .Mod (.BA .Mult (.BA .Add (.BA .Add (.BA .Mult (.v 3) (.n 40503)) (.v 4)) (.n 1)) (.n 16807)) (.n 2147483647)) (.n 13)) (.v 1))],false⟩
noncomputable def ZV:Fn:=⟨[true,true,true,true,true],4,[r8,zY,v8,x8,y8,z8,A8,B8,Rk,Sk],false⟩
noncomputable def WV:Fn:=⟨[true],9,[.kB 1 (.IA .Eq (.call "L_draw" [.v 0,.n 2]) (.n 0)),.kB 2 (.BA .Add (.n 1) (.call "L_draw" [.v 0,.ix (.l [.n 4,.n 7]) (.bif .int [.v 1])])),.kB 3 (.BA .Add (.n 1) (.call "L_draw" [.v 0,.ix (.l [.n 2,.n 4]) (.bif .int [.v 1])])),.kB 4 (.BA .Add (.n 1) (.call "L_draw" [.v 0,.n 12])),.kB 5 (.BA .Add (.n 1) (.call "L_draw" [.v 0,.ix (.l [.n 2,.n 3]) (.bif .int [.v 1])])),.kB 6 (.l []),.for [7] true .yD [.v 5] YZ,.kB 9 (.l []),.for [7] true .yD [.call "L_draw" [.v 0,.n 9]] ZZ,.ret (.t [.v 2,.v 3,.v 4,.bif .tuple [.v 6],.bif .tuple [.v 9]])],false⟩
noncomputable def IM:Fn:=⟨[true],1,[.kB 1 (.comp CV [1] .of [.v 0] [] [] 2),.wA (.IA .Eq (.ix (.v 0) (.n 0)) (.s "span")) [.set 1 (.n 2) (.bF (",":aA) (.comp DV [2] .yD [.n 12] [.IA .Eq (.BA .Mod (.BA .FloorDiv (.ix (.v 0) (.n 2)) (.BA .LShift (.n 1) (.v 2))) (.n 2)) (.n 1)] [0] 2)),.wA (.IA .Eq (.ix (.v 1) (.n 2)) (.s "")) [.set 1 (.n 2) (.s "-")] []] [],.ret (.bF (" ":aA) (.v 1))],false⟩
noncomputable def UN:Fn:=⟨[false],9,[.wM [1,2,3,4,5] (.v 0),.kB 6 (.l [.BA .Add (.s "notes ") (.bif .str [.v 1]),.BA .Add (.s "bar ") (.bif .str [.v 2]),.BA .Add (.s "octave ") (.bif .str [.v 3])]),.for [7,8,9] false .of [.v 4] z0,.ret (.bF ("\n":aA) (.BA .Add (.v 6) (.comp P1 [1] .of [.v 5] [] [] 2)))],false⟩
noncomputable def eK:Fn:=⟨[true],2,[.kB 1 (.sl (.v 0) (.bif .int [.IA .Eq (.sl (.v 0) .zC (.n 1)) (.s "-")]) .zC),.wA (.or (.IA .Eq (.v 1) (.s "")) (.or (.IA .Gt (.bif .len [.v 1]) (.n 60)) (.IA .NotEq (.comp BV [1] .sig [.v 1] [.IA .NotIn (.v 1) (.s "0123456789")] [] 2) (.l [])))) [.ret (.c .oA)] [],.kB 2 (.bif .int [.v 1]),.wA (.IA .Eq (.ix (.v 0) (.n 0)) (.s "-")) [.kB 2 (.BA .Sub (.n 0) (.v 2))] [],.wA (.IA .NotEq (.bif .str [.v 2]) (.v 0)) [.ret (.c .oA)] [],.ret (.v 2)],false⟩
noncomputable def PV:Fn:=⟨[true,true,true],0,[.ret (.and (.IA .IsNot (.v 0) (.c .oA)) (.HH .LtE .LtE (.v 1) (.v 0) (.v 2)))],false⟩
noncomputable def TV:Fn:=⟨[true],0,[.wA (.and (.IA .NotEq (.bif .len [.v 0]) (.n 3)) (.or (.IA .NotEq (.bif .len [.v 0]) (.n 4)) (.IA .NotEq (.ix (.v 0) (.n 3)) (.s "turned")))) [.ret (.b false)] [],.ret (.and (.call "L_between" [.call "L_number" [.ix (.v 0) (.n 1)],.n 0,.n 4]) (.call "L_between" [.call "L_number" [.ix (.v 0) (.n 2)],.neg (.n 12),.n 12]))],false⟩
noncomputable def SV:Fn:=⟨[true,true],2,[.wA (.IA .Eq (.v 0) (.s "-")) [.ret (.b true)] [],.kB 2 (.comp Jd [1] .of [.nH 0 (",":aA)] [] [] 2),.for [3] true .yD [.bif .len [.v 2]] rV,.ret (.b true)],false⟩
noncomputable def vG:Fn:=⟨[true,true,true,false],3,[.wA (.IA .Eq (.ix (.v 0) (.n 0)) (.s "span")) [.ret (.and (.IA .Eq (.bif .len [.v 0]) (.n 3)) (.and (.call "L_between" [.call "L_number" [.ix (.v 0) (.n 1)],.n 0,.BA .Sub (.v 1) (.n 1)]) (.call "L_good_spans" [.ix (.v 0) (.n 2),.v 2])))] [],.kB 4 (.comp Fd [1] .of [.sl (.v 0) (.n 1) .zC] [] [] 2),.wA (.IA .Eq (.ix (.v 0) (.n 0)) (.s "never")) [.wA (.or (.IA .NotEq (.bif .len [.v 0]) (.n 4)) (.IA .NotIn (.ix (.v 0) (.n 3)) (.t [.s "like",.s "against",.s "aside",.s "any"]))) [.ret (.b false)] [],.ret (.and (.call "L_between" [.ix (.v 4) (.n 0),.n 0,.BA .Sub (.v 2) (.n 1)]) (.call "L_between" [.ix (.v 4) (.n 1),.n 0,.BA .Sub (.v 2) (.n 1)]))] [],.kB 5 (.AV ["leap","back","again"] [.l [.t [.n 0,.n 12]],.l [.t [.n 1,.n 12],.t [.n 1,.n 12]],.l [.t [.n 1,.n 3]]]),.DO 5 "range" (.l [.t [.neg (.n 60),.n 60],.t [.neg (.n 60),.n 60]]),.DO 5 "above" (.l [.t [.n 0,.v 3],.t [.n 0,.v 3]]),.wA (.or (.IA .NotIn (.ix (.v 0) (.n 0)) (.v 5)) (.IA .NotEq (.bif .len [.ix (.v 5) (.ix (.v 0) (.n 0))]) (.bif .len [.v 4]))) [.ret (.b false)] [],.for [6] true .yD [.bif .len [.v 4]] qV,.wA (.IA .Eq (.ix (.v 0) (.n 0)) (.s "range")) [.ret (.IA .LtE (.ix (.v 4) (.n 0)) (.ix (.v 4) (.n 1)))] [],.ret (.or (.IA .NotEq (.ix (.v 0) (.n 0)) (.s "above")) (.IA .NotEq (.ix (.v 4) (.n 0)) (.ix (.v 4) (.n 1))))],false⟩
noncomputable def VF:Fn:=⟨[true],4,[.kB 1 (.comp Kd [1] .of [.nH 0 ("\n":aA)] [] [] 2),.wA (.IA .Lt (.bif .len [.v 1]) (.n 4)) [.ret (.b false)] [],.kB 2 (.l []),.for [3] true .yD [.n 3] bL,.kB 4 (.bif .len [.comp K1 [1] .of [.sl (.v 1) (.n 3) .zC] [.IA .Eq (.ix (.v 1) (.n 0)) (.s "voice")] [] 2]),.wA (.or (.not (.HH .LtE .LtE (.n 1) (.v 4) (.n 3))) (.IA .Gt (.bif .len [.v 1]) (.BA .Add (.n 11) (.v 4)))) [.ret (.b false)] [],.wA (.not (.bif .all [.comp N1 [1] .of [.sl (.v 1) (.n 3) (.BA .Add (.n 3) (.v 4))] [] [] 2])) [.ret (.b false)] [],.ret (.bif .all [.comp O1 [3] .of [.sl (.v 1) (.BA .Add (.n 3) (.v 4)) .zC] [] [4,2] 2])],false⟩
noncomputable def yF:Fn:=⟨[true,true],8,[.kB 2 (.call "L_draw" [.v 0,.n 13]),.kB 3 (.call "L_draw" [.v 0,.BA .Add (.bif .len [.v 1]) (.n 1)]),.kB 4 (.ix (.s "0123456789- ,\nacnortuvx.") (.call "L_draw" [.v 0,.n 24])),.wA (.IA .Lt (.v 2) (.n 3)) [.ret (.BA .Add (.BA .Add (.sl (.v 1) .zC (.v 3)) (.v 4)) (.sl (.v 1) (.v 3) .zC))] [],.wA (.IA .Lt (.v 2) (.n 5)) [.ret (.BA .Add (.sl (.v 1) .zC (.v 3)) (.sl (.v 1) (.BA .Add (.v 3) (.n 1)) .zC))] [],.wA (.IA .Lt (.v 2) (.n 8)) [.ret (.BA .Add (.BA .Add (.sl (.v 1) .zC (.v 3)) (.v 4)) (.sl (.v 1) (.BA .Add (.v 3) (.n 1)) .zC))] [],.kB 5 (.nH 1 ("\n":aA)),.kB 3 (.call "L_draw" [.v 0,.bif .len [.v 5]]),.wA (.IA .Eq (.v 2) (.n 8)) [.ret (.bF ("\n":aA) (.BA .Add (.sl (.v 5) .zC (.v 3)) (.sl (.v 5) (.BA .Add (.v 3) (.n 1)) .zC)))] [],.wA (.IA .Eq (.v 2) (.n 9)) [.ret (.bF ("\n":aA) (.BA .Add (.BA .Add (.sl (.v 5) .zC (.v 3)) (.l [.ix (.v 5) (.call "L_draw" [.v 0,.bif .len [.v 5]])])) (.sl (.v 5) (.v 3) .zC)))] [],.wA (.IA .Eq (.v 2) (.n 12)) [.kB 6 (.call "L_draw" [.v 0,.bif .len [.v 5]]),.eR 5 (.v 3) (.v 6) (.t [.ix (.v 5) (.v 6),.ix (.v 5) (.v 3)]),.ret (.bF ("\n":aA) (.v 5))] [],.kB 7 (.xY (.ix (.v 5) (.v 3)) (" ":aA)),.kB 8 (.call "L_draw" [.v 0,.bif .len [.v 7]]),.wA (.IA .Eq (.v 2) (.n 10)) [.kB 9 (.l [.s "0",.s "-0",.s "01",.s "+1",.s "13",.s "61",.s "-13",.s "-61",.BA .Mult (.s "1") (.n 60),.BA .Add (.s "-") (.BA .Mult (.s "9") (.n 61)),.s "turned",.s "any",.s ""]),.set 7 (.v 8) (.ix (.v 9) (.call "L_draw" [.v 0,.n 13]))] [.kB 7 (.BA .Add (.sl (.v 7) .zC (.v 8)) (.sl (.v 7) (.BA .Add (.v 8) (.n 1)) .zC))],.ret (.bF ("\n":aA) (.BA .Add (.BA .Add (.sl (.v 5) .zC (.v 3)) (.l [.bF (" ":aA) (.v 7)])) (.sl (.v 5) (.BA .Add (.v 3) (.n 1)) .zC)))],false⟩
noncomputable def lS:Fn:=⟨[true],3,[.kB 1 (.c .oA),.kB 2 (.c .oA),.kR [.kB 2 (.call "read_house" [.v 0])] gL 3 1,.wA (.IA .Is (.v 1) (.c .oA)) [.ret (.l [.v 2])] [],.wA (.jO (.v 1) jo) [.ret (.s "other")] [],.ret (.ix (.l [.s "other",.s "none"]) (.bif .int [.and (.jO (.v 1) ko) (.xG (.v 1) [.cU])]))],false⟩
noncomputable def qI:Fn:=⟨[true],5,[.kB 1 (.call "L_text" [.call "L_house" [.call "L_pen" [.v 0,.n 1]]]),.kB 2 (.call "L_pen" [.v 0,.n 2]),.kB 3 (.call "L_bend" [.v 2,.v 1]),.wA (.IA .Eq (.call "L_draw" [.v 2,.n 3]) (.n 0)) [.kB 3 (.call "L_bend" [.v 2,.v 3])] [],.kB 4 (.call "L_read" [.v 3]),.wA (.call "L_good_text" [.v 3]) [.wA (.or (.not (.xG (.v 4) [.list])) (.IA .NotEq (.call "show_house" [.ix (.v 4) (.n 0)]) (.v 3))) [.ret (.b false)] []] [.wA (.IA .NotEq (.v 4) (.s "none")) [.ret (.b false)] []],.for [5] true .of [.l [.c .oA,.n 7,.l [.v 1],.s ""]] A0,.ret (.IA .Eq (.call "show_house" [.call "read_house" [.v 1]]) (.v 1))],false⟩
noncomputable def TL:List (String×Fn):=[("is_whole",eW),("is_within",fW),("are_within",bW),("is_follower",mS),("is_way",dW),("are_spans",aW),("is_rule",lL),("check_frame",cW),("house_of",VN),("show_row",nW),("show_follower",lW),("show_spans",oW),("show_rule",nS),("show_house",mW),("read_number",gK),("read_numbers",iW),("read_spans",kW),("read_follower",gW),("read_rule",jW),("made_of",JM),("read_house",fK),("L_pen",YV),("L_draw",QV),("L_rule",ZV),("L_house",WV),("L_rule_text",IM),("L_text",UN),("L_number",eK),("L_between",PV),("L_good_voice",TV),("L_good_spans",SV),("L_good_rule",vG),("L_good_text",VF),("L_bend",yF),("L_read",lS),("law",qI)]
noncomputable def T:Tab:=λf=>TL.lookup f
theorem Bs:T "is_whole"=some eW:=rfl
theorem Kb:T.bA "is_whole"=[true]:=rfl
theorem Cs:T "is_within"=some fW:=rfl
theorem sr:T.bA "is_within"=[true,true,true]:=rfl
theorem Zr:T "are_within"=some bW:=rfl
theorem ir:T.bA "are_within"=[true,true,true,true]:=rfl
theorem Pb:T "is_follower"=some mS:=rfl
theorem lr:T.bA "is_follower"=[true]:=rfl
theorem As:T "is_way"=some dW:=rfl
theorem qr:T.bA "is_way"=[true]:=rfl
theorem Yr:T "are_spans"=some aW:=rfl
theorem br:T.bA "are_spans"=[true,true]:=rfl
theorem JP:T "is_rule"=some lL:=rfl
theorem nr:T.bA "is_rule"=[true,true,true,true]:=rfl
theorem js:T "check_frame"=some cW:=rfl
theorem jr:T.bA "check_frame"=[true,true,true,true,true]:=rfl
theorem hV:T "house_of"=some VN:=rfl
theorem kr:T.bA "house_of"=[false,false,false,true,true]:=rfl
theorem Ms:T "show_row"=some nW:=rfl
theorem Gr:T.bA "show_row"=[false]:=rfl
theorem Ks:T "show_follower"=some lW:=rfl
theorem Dr:T.bA "show_follower"=[true]:=rfl
theorem Qs:T "show_spans"=some oW:=rfl
theorem Ir:T.bA "show_spans"=[true]:=rfl
theorem Sb:T "show_rule"=some nS:=rfl
theorem Hr:T.bA "show_rule"=[false]:=rfl
theorem Ls:T "show_house"=some mW:=rfl
theorem Er:T.bA "show_house"=[true]:=rfl
theorem Fs:T "read_number"=some gK:=rfl
theorem zr:T.bA "read_number"=[false]:=rfl
theorem Gs:T "read_numbers"=some iW:=rfl
theorem Ar:T.bA "read_numbers"=[false]:=rfl
theorem Js:T "read_spans"=some kW:=rfl
theorem Cr:T.bA "read_spans"=[false]:=rfl
theorem Es:T "read_follower"=some gW:=rfl
theorem xr:T.bA "read_follower"=[false]:=rfl
theorem Hs:T "read_rule"=some jW:=rfl
theorem Br:T.bA "read_rule"=[false]:=rfl
theorem Rb:T "made_of"=some JM:=rfl
theorem ur:T.bA "made_of"=[false]:=rfl
theorem jV:T "read_house"=some fK:=rfl
theorem yr:T.bA "read_house"=[true]:=rfl
theorem Vr:T "L_pen"=some YV:=rfl
theorem Wq:T.bA "L_pen"=[true,false]:=rfl
theorem Mr:T "L_draw"=some QV:=rfl
theorem Pq:T.bA "L_draw"=[true,true]:=rfl
theorem Wr:T "L_rule"=some ZV:=rfl
theorem Yq:T.bA "L_rule"=[true,true,true,true,true]:=rfl
theorem Tr:T "L_house"=some WV:=rfl
theorem Uq:T.bA "L_house"=[true]:=rfl
theorem Ob:T "L_rule_text"=some IM:=rfl
theorem Zq:T.bA "L_rule_text"=[true]:=rfl
theorem Xr:T "L_text"=some UN:=rfl
theorem ar:T.bA "L_text"=[false]:=rfl
theorem Ur:T "L_number"=some eK:=rfl
theorem Vq:T.bA "L_number"=[true]:=rfl
theorem Lr:T "L_between"=some PV:=rfl
theorem Oq:T.bA "L_between"=[true,true,true]:=rfl
theorem Sr:T "L_good_voice"=some TV:=rfl
theorem Tq:T.bA "L_good_voice"=[true]:=rfl
theorem Qr:T "L_good_spans"=some SV:=rfl
theorem Rq:T.bA "L_good_spans"=[true,true]:=rfl
theorem Nr:T "L_good_rule"=some vG:=rfl
theorem Qq:T.bA "L_good_rule"=[true,true,true,false]:=rfl
theorem Rr:T "L_good_text"=some VF:=rfl
theorem Sq:T.bA "L_good_text"=[true]:=rfl
theorem Kr:T "L_bend"=some yF:=rfl
theorem Nq:T.bA "L_bend"=[true,true]:=rfl
theorem Nb:T "L_read"=some lS:=rfl
theorem Xq:T.bA "L_read"=[true]:=rfl
theorem Qb:T "law"=some qI:=rfl
def lBa:WU (LX 3 0) "NoVoice.__init__":=qi NN
def kBa:WU (LX 4 0) "NoRule.__init__":=qi NN
def yg{m:Option Int}:lX jo (some (.uD "NoText" m))=some (.sh (.bl false)):=ng (by left)
def zg{m:Option Int}:lX ko (some (.uD "NoText" m))=some (.sh (.bl true)):=ng (by left)
def Rv:gL.contains (pA "NoHouse")=true:=by left
def Uv:gL.contains (pA "NoVoice")=true:=by left
def Sv:gL.contains (pA "NoRule")=true:=by left
def Tv:gL.contains (pA "NoText")=true:=by left
def nLa:lC (QB L) (top 22) "is_whole" eW:=HC mE
def oLa:lC (QB L) (top 23) "is_within" fW:=HC Dc
def xKa:lC (QB L) (top 24) "are_within" bW:=HC N0
def kLa:lC (QB L) (top 25) "is_follower" mS:=HC mE
def mLa:lC (QB L) (top 26) "is_way" dW:=HC mE
def wKa:lC (QB L) (top 27) "are_spans" aW:=HC NN
def lLa:lC (QB L) (top 28) "is_rule" lL:=HC N0
def bLa:lC (QB L) (top 29) "check_frame" cW:=HC O0
def iLa:lC (QB L) (top 30) "house_of" VN:=HC O0
def iMa:lC (QB L) (top 35) "show_row" nW:=HC mE
def gMa:lC (QB L) (top 36) "show_follower" lW:=HC mE
def kMa:lC (QB L) (top 37) "show_spans" oW:=HC mE
def jMa:lC (QB L) (top 38) "show_rule" nS:=HC mE
def hMa:lC (QB L) (top 39) "show_house" mW:=HC mE
def cMa:lC (QB L) (top 40) "read_number" gK:=HC mE
def dMa:lC (QB L) (top 41) "read_numbers" iW:=HC mE
def fMa:lC (QB L) (top 42) "read_spans" kW:=HC mE
def aMa:lC (QB L) (top 43) "read_follower" gW:=HC mE
def eMa:lC (QB L) (top 44) "read_rule" jW:=HC mE
def wLa:lC (QB L) (top 45) "made_of" JM:=HC mE
def bMa:lC (QB L) (top 46) "read_house" fK:=HC mE
def qKa:lC (QB L) (top 48) "_law_pen" YV:=HC NN
def jKa:lC (QB L) (top 49) "_law_draw" QV:=HC NN
def sKa:lC (QB L) (top 50) "_law_rule" ZV:=HC O0
def oKa:lC (QB L) (top 51) "_law_house" WV:=HC mE
def tKa:lC (QB L) (top 52) "_law_rule_text" IM:=HC mE
def uKa:lC (QB L) (top 53) "_law_text" UN:=HC mE
def pKa:lC (QB L) (top 54) "_law_number" eK:=HC mE
def iKa:lC (QB L) (top 55) "_law_between" PV:=HC Dc
def nKa:lC (QB L) (top 56) "_law_good_voice" TV:=HC mE
def lKa:lC (QB L) (top 57) "_law_good_spans" SV:=HC NN
def kKa:lC (QB L) (top 58) "_law_good_rule" vG:=HC N0
def mKa:lC (QB L) (top 59) "_law_good_text" VF:=HC mE
def hKa:lC (QB L) (top 60) "_law_bend" yF:=HC NN
def rKa:lC (QB L) (top 61) "_law_read" lS:=HC mE
def Ti:lC (QB L) (top 62) "law" qI:=HC mE
end Tx
namespace Mx
open CI Tx
local macro_rules|`($f|||$n|||$a|||$v)=>`(run T $(Lean.mkIdent `W) ($n) $f $a=some (.ok ($v),$a))
open PySem hiding Entry Env Loc Made Run run start
abbrev _root_.CI.Sl.o(d:CI.D):CI.Sl:=.ow d false false
abbrev _root_.CI.Sl.p(d:CI.D):CI.Sl:=.ow d true false
abbrev _root_.CI.Sl.i(d:Int):CI.Sl:=.sh (.int d)
abbrev _root_.CI.RV.i(d:Int):CI.RV:=.sh (.int d)
abbrev _root_.CI.Sl.s(d:aA):CI.Sl:=.sh (.str d)
abbrev _root_.CI.RV.s(d:aA):CI.RV:=.sh (.str d)
abbrev _root_.CI.Sl.b(d:Bool):CI.Sl:=.sh (.bl d)
abbrev _root_.CI.RV.b(d:Bool):CI.RV:=.sh (.bl d)
def BB{O:Type}{a b:O}:(if false=true then a else b)=b:=qB (by decide)
set_option compiler.extract_closed false
local macro_rules | `(tactic| walk_at $s:str) => do if !s.getString.startsWith "!" then Lean.Macro.throwUnsupported else `(tactic| simp only[↓Rt, ↓bz, ↓nR_, ↓mw, ↓iYa, ↓aEa, ↓zDa, ↓tDa, ↓sDa, ↓bFa, ↓aFa, ↓tEa, ↓sEa, ↓rEa, ↓qEa, $[$((("Bu Ku Iu Eu Hu Gu Ju Cu Du Mu Nu Tt dz cz lIa mIa jIa kIa qw au i_ yw vw Wz Vz U_ T_ qFa jYa jEa qy Qx nFa wUa xUa zUa aVa bVa cVa yUa Ph vh oy Zx vy ah Zg uy Ax mh lh vFa uFa mFa eOa wNa dOa zNa rNa aOa uNa pNa yNa bOa tNa qNa xNa vNa zx Og Ng Jx iu Zt Yt Wt Xt bu cu Vt aL yEa ay zEa dy yh pJa cy Yv Xv Yg Xg Nx qX yDa Ug Tg Ox vv uv fv dv av xv cv zv sv Fv Dv dXa Fx gy Wx rDa rh qh Xx fDa eDa Xb Yb Nt Jh Ih Hh hQa sX gQa iQa fQa eQa iy Rg Ew bEa dEa cEa uEa xGa aHa zGa yGa bHa xEa wEa vEa c_ a_ b_ e_ d_ kEa lEa Mg Hx Zz Xz Yz iz jz gz kz D6 Vx zBa wBa xBa aCa bCa yBa uBa vBa gCa dCa eCa hCa iCa fCa cCa jCa Jg uDa oEa Gx vCa uCa Kg Ey JO qVa pVa oVa nVa vC mT WX fKa Lg Fy ON GO FO pO Gh Fh My dUa bh Gy fTa fH Jy qx yx wx jx lx ax xx sx ux kx gx mx Iy Bz aAX Hy fS OH jTa lXa Eh Px g_ Bx rPa sPa sNa ku Pg Kx zg0 zg1 zs0 zs1 zb zm zi zc zn zr0 zr1 zl0 zl1 znt znf zko zks zkn Lx jh hEa Sx dFa oCa pEa ph Ux Ky je lFa kFa jFa zy nEa mEa By fFa wy xy Ay fEa Dx vDa rFa sFa Py wDa xDa hFa iFa gFa Ex qDa kPS rCa Ah cOa uh Yx jy my xVa vx Ly Cy eFa yy iEa wz Qy Dy Rx Ny fUa Bv Oy ly Kb sr ir lr qr br nr jr kr Gr Dr Ir Hr Er zr Ar Cr xr Br ur yr Wq Pq Yq Uq Zq ar Vq Oq Tq Rq Qq Sq Nq Xq iE yE zD decide_true decide_false Bool.true_eq_false not_true_eq_false not_false_eq_true and_self and_true true_and or_true true_or lE reduceIte Int.reduceLT Int.reduceLE Int.reduceGT Int.reduceNeg Nat.reduceAdd Nat.reduceLT Nat.reduceLeDiff Int.reduceEq Int.reduceNe Nat.reduceBEq eD vN TB HK IF YG iI HJ rN IC QE ZC eEa tFa C9 oZ D9 za".splitOn " ")++(((s.getString.drop 1).toString.replace "%" "List.length_map").replace "&" "Bool.or_false Bool.false_or Bool.or_true Bool.true_or" |>.splitOn " ")).filter (· ≠ "") |>.toArray.map λx => Lean.mkIdent x.toName):term],*, *])
local macro_rules|`(tactic|exfalso)=>`(tactic|all_goals (first | done | (rw[ZC rfl];walk_at "!")))
local macro_rules|`(tactic|right)=>`(tactic|walk_at "!")
theorem CD:type_of% (And.intro @Hc (And.intro @JO (And.intro @FF.{0} (And.intro @QI.{0} (And.intro @RI.{0} (And.intro @SI.{0} (And.intro @ON (And.intro @FO (And.intro @GO @pO))))))))):=(And.intro @Hc (And.intro @JO (And.intro @FF.{0} (And.intro @QI.{0} (And.intro @RI.{0} (And.intro @SI.{0} (And.intro @ON (And.intro @FO (And.intro @GO @pO)))))))))
noncomputable def SA(k s m:Int):Int:=if k=0 then s / m else(s*69621+7) % 2147483629
noncomputable def uB(k s m:Int):Int:=if k=0 then s % m else((((s*69621+7) % 2147483629) % 65521*40503+((s*69621+7) % 2147483629) / 65521+1)*16807 % 2147483647) / 13 % m
def WE(h1:0<m)(h2:m<nofun):run T W (n+1) "L_draw" [.p (.l [.int k,.int s]),.i m]=some (.ok (.i (uB k s m)),[.p (.l [.int k,.int (SA k s m)]),.i m]):=by
 rw[dC Mr rfl rfl];unfold QV;by_cases hk:k=0
 ·subst hk;unfold SA uB
  right
 ·unfold SA uB
  right
def ED(h:0<m):0<=uB k s m:=by unfold uB;split<;>exact bq _ (by lia)
def DD(h:0<m):uB k s m<m:=by unfold uB;split<;>exact yp _ h
noncomputable def eE:D->Bool
 |.oA=>true | .bl _=>true | .int _=>true | .str _=>true | .t _=>true | .l _=>true
 |_=>false
noncomputable def lN:D->Bool
 |.int _=>true
 |_=>false
theorem QS(h:eE d=true):"is_whole"|||n+1|||[.sh d]|||.b (lN d):=by
 rw[dC Bs rfl rfl];unfold eW
 cases d<;>first | (simp only[eE,zD] at h;done) | (right;rfl) | (right;done)
noncomputable def EA(lo hi:Int):D->Bool
 |.int i=>decide (lo<=i)&&decide (i<=hi)
 |_=>false
def cI(h:eE d=true):"is_within"|||n+2|||[.sh d,.i lo,.i hi]|||.b (EA lo hi d):=by
 rw[dC Cs rfl rfl];unfold fW
 right
 try (simp only[Kb];right)
 simp only[QS h]
 right
 by_cases hw:lN d=true
 ·obtain⟨i,rfl⟩:∃i,d=.int i:=by cases d<;>first | exact⟨_,rfl⟩ | cases hw
  simp only[lN]
  right
  simp only[EA];by_cases h1:lo<=i<;>by_cases h2:i<=hi<;>simp only[h1,h2]<;>right<;>rfl
 ·have hw:lN d=false:=by cases e:lN d;rfl;exact absurd e hw
  have hv:EA lo hi d=false:=by cases d<;>first | rfl | cases hw
  simp only[hw,hv]
  right
noncomputable def rF(ns:List Int)(k:Nat):Int×Int :=
 if k<ns.length/\ns.headD 0 % 2=0 then(0,ns.getD k 0)
 else(1,((if 0<ns.length then ns.getD (k % ns.length) 0 % 2147483587+48611*((k / ns.length:Nat):Int)+3*(k:Int) else 30011*(k:Int)+7)*48271+11*(k:Int)+1) % 2147483647)
def bc{ns:List Int}(h:k<ns.length):L2.oC (ns.map D.int) (k:Int)=some (.int (ns.getD k 0)):=by
 apply L2.TZ
 rw[PL,kC h];simp[h]
def oj{k:Nat}(hn:ns.length<=63)(hk:k<=100000):"L_pen"|||n+1|||[.sh (.l (ns.map .int)),.i (k:Int)]|||.ow (.l [.int (rF ns k).1,.int (rF ns k).2]):=by
 rw[dC Vr rfl rfl];unfold YV;by_cases h0:ns=[]
 ·subst h0;have hb:decide ((k:Int)<((0:Nat):Int))=false:=zB (by lia);have AF:decide (((0:Nat):Int) > 0)=false:=rfl;have C_:decide (0<((0:Nat):Int))=false:=rfl;have hb3:decide ((k:Int)<0)=false:=zB (by lia)
  have ev:rF [] k=(1,((30011*(k:Int)+7)*48271+11*(k:Int)+1) % 2147483647):=by(unfold rF;rw[qB (by simp),qB (by simp)])
  walk_at "!JA"
 ·have R4:0<ns.length:=cZ.mpr h0;have C_:decide (0<(ns.length:Int))=true:=IB (by lia)
  have e0:(ns.map D.int)[0]?=some (.int (ns.headD 0)):=by cases ns with | nil=>exact absurd rfl h0 | cons a r=>rfl
  have e1:(0:Int)<(ns.length:Int):=by lia
  have e2:(ns.length:Int)<nofun:=by lia
  have e3:(k:Int) / (ns.length:Int)=((k / ns.length:Nat):Int):=by rw[Xp]
  have e4:(k:Int) % (ns.length:Int)=((k % ns.length:Nat):Int):=by rw[Int.natCast_emod]
  have e5:=bc (k:=k % ns.length) (Nat.mod_lt _ R4);by_cases oQ:k<ns.length
  ·have hb:decide ((k:Int)<(ns.length:Int))=true:=IB (by lia);have e6:=bc oQ;by_cases hm:ns.headD 0 % 2=0
   ·have ev:rF ns k=(0,ns.getD k 0):=by unfold rF;rw[uA ⟨oQ,hm⟩]
    walk_at "!JA"
   ·have hm':decide (ns.headD 0 % 2=0)=false:=zB hm
    have ev:rF ns k=(1,((ns.getD (k % ns.length) 0 % 2147483587+48611*((k / ns.length:Nat):Int)+3*(k:Int))*48271+11*(k:Int)+1) % 2147483647):=by(unfold rF;rw[qB (λz=>hm z.2),uA R4])
    walk_at "!JA"
  ·have hb:decide ((k:Int)<(ns.length:Int))=false:=zB (by lia)
   have ev:rF ns k=(1,((ns.getD (k % ns.length) 0 % 2147483587+48611*((k / ns.length:Nat):Int)+3*(k:Int))*48271+11*(k:Int)+1) % 2147483647):=by(unfold rF;rw[qB (λz=>oQ z.1),uA R4])
   walk_at "!JA"
def Em:((pA "span")==(pA "leap"))=false:=by left
def Dm:((pA "span")==(pA "back"))=false:=by left
def Cm:((pA "span")==(pA "again"))=false:=by left
def Gm:((pA "span")==(pA "range"))=false:=by left
def Bm:((pA "span")==(pA "above"))=false:=by left
def Fm:((pA "span")==(pA "never"))=false:=by left
def Xl:rC .In (.str (pA "span")) (.t [.str (pA "leap"),.str (pA "back"),.str (pA "again")])=some false:=(rfl)
def gm:((pA "leap")==(pA "span"))=false:=by left
def cm:((pA "leap")==(pA "back"))=false:=by left
def Zl:((pA "leap")==(pA "again"))=false:=by left
def fm:((pA "leap")==(pA "range"))=false:=by left
def Yl:((pA "leap")==(pA "above"))=false:=by left
def dm:((pA "leap")==(pA "never"))=false:=by left
def Ul:rC .In (.str (pA "leap")) (.t [.str (pA "leap"),.str (pA "back"),.str (pA "again")])=some true:=(rfl)
def Ol:((pA "back")==(pA "span"))=false:=by left
def Ll:((pA "back")==(pA "leap"))=false:=by left
def Kl:((pA "back")==(pA "again"))=false:=by left
def Nl:((pA "back")==(pA "range"))=false:=by left
def Jl:((pA "back")==(pA "above"))=false:=by left
def Ml:((pA "back")==(pA "never"))=false:=by left
def Rl:rC .In (.str (pA "back")) (.t [.str (pA "leap"),.str (pA "back"),.str (pA "again")])=some true:=(rfl)
def Il:((pA "again")==(pA "span"))=false:=by left
def Dl:((pA "again")==(pA "leap"))=false:=by left
def Bl:((pA "again")==(pA "back"))=false:=by left
def Hl:((pA "again")==(pA "range"))=false:=by left
def Al:((pA "again")==(pA "above"))=false:=by left
def El:((pA "again")==(pA "never"))=false:=by left
def Ql:rC .In (.str (pA "again")) (.t [.str (pA "leap"),.str (pA "back"),.str (pA "again")])=some true:=(rfl)
def Am:((pA "range")==(pA "span"))=false:=by left
def xm:((pA "range")==(pA "leap"))=false:=by left
def wm:((pA "range")==(pA "back"))=false:=by left
def vm:((pA "range")==(pA "again"))=false:=by left
def um:((pA "range")==(pA "above"))=false:=by left
def ym:((pA "range")==(pA "never"))=false:=by left
def Wl:rC .In (.str (pA "range")) (.t [.str (pA "leap"),.str (pA "back"),.str (pA "again")])=some false:=(rfl)
def zl:((pA "above")==(pA "span"))=false:=by left
def rl:((pA "above")==(pA "leap"))=false:=by left
def ql:((pA "above")==(pA "back"))=false:=by left
def ml:((pA "above")==(pA "again"))=false:=by left
def yl:((pA "above")==(pA "range"))=false:=by left
def xl:((pA "above")==(pA "never"))=false:=by left
def Pl:rC .In (.str (pA "above")) (.t [.str (pA "leap"),.str (pA "back"),.str (pA "again")])=some false:=(rfl)
def tm:((pA "never")==(pA "span"))=false:=by left
def qm:((pA "never")==(pA "leap"))=false:=by left
def om:((pA "never")==(pA "back"))=false:=by left
def km:((pA "never")==(pA "again"))=false:=by left
def sm:((pA "never")==(pA "range"))=false:=by left
def jm:((pA "never")==(pA "above"))=false:=by left
def Vl:rC .In (.str (pA "never")) (.t [.str (pA "leap"),.str (pA "back"),.str (pA "again")])=some false:=(rfl)
def LI:type_of% (And.intro @Em (And.intro @Dm (And.intro @Cm (And.intro @Gm (And.intro @Bm (And.intro @Fm (And.intro @Xl (And.intro @gm (And.intro @cm (And.intro @Zl (And.intro @fm (And.intro @Yl (And.intro @dm (And.intro @Ul (And.intro @Ol (And.intro @Ll (And.intro @Kl (And.intro @Nl (And.intro @Jl (And.intro @Ml (And.intro @Rl (And.intro @Il (And.intro @Dl (And.intro @Bl (And.intro @Hl (And.intro @Al (And.intro @El (And.intro @Ql (And.intro @Am (And.intro @xm (And.intro @wm (And.intro @vm (And.intro @um (And.intro @ym (And.intro @Wl (And.intro @zl (And.intro @rl (And.intro @ql (And.intro @ml (And.intro @yl (And.intro @xl (And.intro @Pl (And.intro @tm (And.intro @qm (And.intro @om (And.intro @km (And.intro @sm (And.intro @jm @Vl)))))))))))))))))))))))))))))))))))))))))))))))):=(And.intro @Em (And.intro @Dm (And.intro @Cm (And.intro @Gm (And.intro @Bm (And.intro @Fm (And.intro @Xl (And.intro @gm (And.intro @cm (And.intro @Zl (And.intro @fm (And.intro @Yl (And.intro @dm (And.intro @Ul (And.intro @Ol (And.intro @Ll (And.intro @Kl (And.intro @Nl (And.intro @Jl (And.intro @Ml (And.intro @Rl (And.intro @Il (And.intro @Dl (And.intro @Bl (And.intro @Hl (And.intro @Al (And.intro @El (And.intro @Ql (And.intro @Am (And.intro @xm (And.intro @wm (And.intro @vm (And.intro @um (And.intro @ym (And.intro @Wl (And.intro @zl (And.intro @rl (And.intro @ql (And.intro @ml (And.intro @yl (And.intro @xl (And.intro @Pl (And.intro @tm (And.intro @qm (And.intro @om (And.intro @km (And.intro @sm (And.intro @jm @Vl))))))))))))))))))))))))))))))))))))))))))))))))
noncomputable def NB(k lo hi:Int)(ps:List D):Bool:=decide ((ps.length:Int)=k)&&ps.all (EA lo hi)
noncomputable def GJ:D->Bool
 |.str x=>inD (.str x) [.str (pA "like"),.str (pA "against"),.str (pA "aside"),.str (pA "any")]
 |_=>false
noncomputable def xK(ba oc:Int):List D->Bool
 |[a,b]=>EA 0 (ba-1) a&&EA 0 (2 ^ oc.toNat-1) b
 |_=>false
noncomputable def GL:List D->Bool
 |[.int i,.int j]=>decide (i<=j)
 |_=>false
noncomputable def HL:List D->Bool
 |[.int i,.int j]=>!decide (i=j)
 |_=>false
noncomputable def jH(oc:Int):List D->Bool
 |[a,b,c]=>EA 0 (oc-1) a&&(EA 0 (oc-1) b&&GJ c)
 |_=>false
def Uh{O:Type}{l:List O}(h:l.length=2):∃a b,l=[a,b]:=by
 rcases l with _ | ⟨a,_ | ⟨b,_ | ⟨c,r⟩⟩⟩<;>first | exact⟨_,_,rfl⟩ | (simp at h;done)
def Ik{ba oc:Int}(ps:List D):(∃a b,ps=[a,b])\/xK ba oc ps=false:=by
 rcases ps with _ | ⟨a,_ | ⟨b,_ | ⟨c,r⟩⟩⟩<;>first | exact .inr rfl | exact .inl ⟨_,_,rfl⟩
def l7{oc:Int}(ps:List D):(∃a b c,ps=[a,b,c])\/jH oc ps=false:=by
 rcases ps with _ | ⟨a,_ | ⟨b,_ | ⟨c,_ | ⟨d,r⟩⟩⟩⟩<;>first | exact .inr rfl | exact .inl ⟨_,_,_,rfl⟩
def O6{O:Type}{l:List O}(h:l.length=3):∃a b c,l=[a,b,c]:=by
 rcases l with _ | ⟨a,_ | ⟨b,_ | ⟨c,_ | ⟨d,r⟩⟩⟩⟩<;>first | exact⟨_,_,_,rfl⟩ | (simp at h;done)
def iS{Z:List D}:pD .all [.l (Z.map λz=>.bl (p z))]=some (.b (Z.all p)):=by
 have h:RF (Z.map λz=>.bl (p z))=some (Z.map p):=by
  induction Z with
  |nil=>rfl
  |cons z Z ih=>simp[RF,ih]
 show(RF _).map _=_;rw[h];simp[bM]
def fE(h:EA lo hi d=true):∃i,d=.int i/\lo<=i/\i<=hi:=by
 cases d with
 |int i =>
  simp only[EA,qA,OE] at h;exact⟨i,rfl,h.1,h.2⟩
 |_=>cases h
def eYa(h:lN d=false):EA lo hi d=false:=by cases d<;>first | rfl | cases h
def dYa(h:lN d=true):∃i,d=.int i:=by cases d<;>first | exact⟨_,rfl⟩ | cases h
def MP(hl:ps.length<=1000000)(hy:ps.all eE=true) :
  "are_within"|||n+3|||[.sh (.t ps),.i k,.i lo,.i hi]|||.b (NB k lo hi ps):=by
 rw[dC Zr rfl rfl];unfold bW;have Y_:aAa .of [.slot 0] [.sh (.t ps),.i k,.i lo,.i hi]=some (ps,none):=AQ rfl
 obtain⟨cB,Ui,e,⟨t1,rfl,zI,rfl⟩,_⟩:=Zc (tests:=fD T.bA (run T W (n+2)) []) (LA:=ev T.bA (run T W (n+2)) false Q1) (bind:=WA true [3]) (ds:=ps)
  (λj cB U=>∃(t1:Sl),U=[.i hi,.i lo,.un,t1]/\PB t1=true/\cB=(ps.take j).map λy=>.bl (EA lo hi y))
  (λj d hd cB U hU=>by
   obtain⟨t1,rfl,zI,rfl⟩:=hU;have hw:=cI (W:=W) (n:=n) (lo:=lo) (hi:=hi) (HF.mp hy d (pN hd));refine⟨_,true,_,by simp only[CD,vC zI]<;>rfl,N2,λ_=>?_,λz=>nomatch z⟩;refine⟨.b (EA lo hi d),[.i hi,.i lo,.un,.sh d], ?_,_,rfl,rfl,by rw[fq,hd,jP];rfl⟩;unfold Q1
   walk_at "!cI iS JA")
  [] [.i hi,.i lo,.un,.un] ⟨_,rfl,rfl,rfl⟩
 rw[Z9] at e;have aF:pB ps.length=true:=eC (by lia);cases c:decide ((ps.length:Int)=k)
 ·have hv:NB k lo hi ps=false:=by unfold NB;rw[c];rfl
  walk_at "!cI iS JA"
 ·have hv:NB k lo hi ps=ps.all (EA lo hi):=by unfold NB;rw[c];rfl
  walk_at "!cI iS JA"
  rw[jD Y_]
  walk_at "!cI iS JA"
  all_goals (rw[ZC rfl];walk_at "!cI iS JA")
def jVa(h0:0<=i)(h1:0<=oc):decide ((xP i:Int)<=oc)=decide (i<=2 ^ oc.toNat-1):=by
 apply decide_eq_decide.mpr
 obtain⟨m,rfl⟩:∃m:Nat,oc=m:=⟨oc.toNat,by lia⟩
 have h:=PySem.intBits_le_iff (m:=m) (x:=i);have e:((2 ^ m:Nat):Int)=(2:Int) ^ m:=by norm_cast
 rw[BG,<- e];constructor
 ·intro q
  have:=h.mp (by lia)
  lia
 ·intro q
  have:=h.mpr (by lia)
  lia
def Ct(h1:0<=oc)(hd:eE d=true) :
  "are_spans"|||n+2|||[.sh d,.i oc]|||.b (EA 0 (2 ^ oc.toNat-1) d):=by
 rw[dC Yr rfl rfl];unfold aW;have hw:=QS (W:=W) (n:=n) hd;cases c:lN d
 ·rw[eYa c];rw[c] at hw
  walk_at "!QS"
 ·obtain⟨i,rfl⟩:=dYa c;rw[c] at hw;by_cases c1:0<=i
  ·have P0:decide (0<=i)=true:=IB c1;have hs:=jVa c1 h1
   have hv:EA 0 (2 ^ oc.toNat-1) (.int i)=decide (i<=2 ^ oc.toNat-1):=by(show(decide (0<=i)&&_)=_;rw[P0,YG])
   rw[hv,<- hs]
   walk_at "!QS"
  ·have P0:decide (0<=i)=false:=zB c1
   have hv:EA 0 (2 ^ oc.toNat-1) (.int i)=false:=by(show(decide (0<=i)&&_)=_;rw[P0,iI])
   walk_at "!QS"
def Lc:rC .In (.str x) (.t [.str (pA "like"),.str (pA "against"),.str (pA "aside"),.str (pA "any")])=some (GJ (.str x)):=(rfl)
def yCa(hd:eE d=true):"is_way"|||n+1|||[.sh d]|||.b (GJ d):=by
 rw[dC As rfl rfl];unfold dW
 cases d<;>first | (simp only[eE,zD] at hd;done) | (clear hd;walk_at "!Lc";rfl) | (clear hd;walk_at "!Lc";done)
def JI:bD (some (.t (a::ps))) (some (.int 1)) none=some (.sh (.t ps)):=by
 show bN (.t (a::ps)) (some 1) none=_
 have e:HT.vB (a::ps).length 0 (some 1)=1:=by
  have h:=HT.FT (a::ps).length 0 1;rw[show((1:Nat):Int)=1 from rfl] at h;rw[h,IC]
  lia
 first
  |show some (RV.sh (.t (aAz (a::ps) (some 1) none)))=_
  | (show(if HT.vB (a::ps).length 0 (some 1)=0/\HT.vB (a::ps).length (a::ps).length none=(a::ps).length then none else some (RV.sh (.t (aAz (a::ps) (some 1) none))))=_;rw[e,qB (λz=>absurd z.1 (by decide))])
 unfold aAz;rw[e,HT.Z7,List.drop_one,List.tail_cons,CN (by simp)]
def II:bD (some (.t [a,b,c])) none (some (.int 2))=some (.sh (.t [a,b])):=(rfl)
def NP(h:NB 2 lo hi ps=true):∃i j,ps=[.int i,.int j]/\lo<=i/\i<=hi/\lo<=j/\j<=hi:=by
 unfold NB at h;simp only[qA,OE] at h
 match ps,h with
 |[a,b],h =>
  simp only[TB,HK,IF,qA] at h;obtain⟨i,rfl,i1,i2⟩:=fE h.2.1;obtain⟨j,rfl,j1,j2⟩:=fE h.2.2;exact⟨i,j,rfl,i1,i2,j1,j2⟩
 |[],h=>simp at h
 |[_],h=>simp at h
 |_::_::_::_,h=>simp only[IC] at h;lia
def GI:decide (((2:Nat):Int)=2)=true:=(rfl)
def HI:decide (((3:Nat):Int)=3)=true:=(rfl)
def FI:decide (((2:Nat):Int)=0)=false:=(rfl)
def UQ(hl:ps.length<=1000000)(hy:ps.all eE=true) :
  ("is_rule"|||n+4|||[.sh ba,.sh oc,.sh ma,.sh (.t (.str (pA "leap")::ps))]|||.b (NB 1 0 12 ps)) /\
  ("is_rule"|||n+4|||[.sh ba,.sh oc,.sh ma,.sh (.t (.str (pA "back")::ps))]|||.b (NB 2 1 12 ps)) /\
  ("is_rule"|||n+4|||[.sh ba,.sh oc,.sh ma,.sh (.t (.str (pA "again")::ps))]|||.b (NB 1 1 3 ps)):=by
 have l0:decide (((ps.length+1:Nat):Int)=0)=false:=zB (by lia);have h1:=MP (W:=W) (n:=n) (k:=1) (lo:=0) (hi:=12) hl hy;have h2:=MP (W:=W) (n:=n) (k:=2) (lo:=1) (hi:=12) hl hy;have h3:=MP (W:=W) (n:=n) (k:=1) (lo:=1) (hi:=3) hl hy;clear hl hy;refine⟨?_, ?_, ?_⟩
 all_goals
  rw[dC JP rfl rfl];unfold lL
  walk_at "!LI JI II GI HI FI"
def yk{W n:Nat}{ba oc:Int}{ma:D}{ps:List D}(ho:0<=oc)(hy:ps.all eE=true) :
  "is_rule"|||n+4|||[.i ba,.i oc,.sh ma,.sh (.t (.str (pA "span")::ps))]|||.b (xK ba oc ps):=by
 have l0:decide (((ps.length+1:Nat):Int)=0)=false:=zB (by lia);rw[dC JP rfl rfl];unfold lL;by_cases c:∃a b,ps=[a,b]
 ·obtain⟨a,b,rfl⟩:=c;simp only[TB,HK,IF,qA] at hy;have h1:=cI (W:=W) (n:=n+1) (lo:=0) (hi:=ba-1) hy.1;have h2:=Ct (W:=W) (n:=n+1) ho hy.2;have l3:decide (((3:Nat):Int)=0)=false:=rfl;have hv:xK ba oc [a,b]=(EA 0 (ba-1) a&&EA 0 (2 ^ oc.toNat-1) b):=rfl;clear hy ho;cases c1:EA 0 (ba-1) a
  ·rw[c1] at h1 hv;have hv:xK ba oc [a,b]=false:=hv
   walk_at "!LI JI II GI HI FI"
  ·rw[c1] at h1 hv;have hv:xK ba oc [a,b]=EA 0 (2 ^ oc.toNat-1) b:=hv
   walk_at "!LI JI II GI HI FI"
 ·have l2:decide ((ps.length:Int)=2)=false:=zB λz=>c (Uh (by lia))
  have hv:xK ba oc ps=false:=(Ik ps).resolve_left c;clear c hy ho
  walk_at "!LI JI II GI HI FI"
def pY(hl:ps.length<=1000000)(hy:ps.all eE=true) :
  ("is_rule"|||n+4|||[.sh ba,.sh oc,.i ma,.sh (.t (.str (pA "range")::ps))]|||.b (NB 2 (-60) 60 ps&&GL ps)) /\
  ("is_rule"|||n+4|||[.sh ba,.sh oc,.i ma,.sh (.t (.str (pA "above")::ps))]|||.b (NB 2 0 ma ps&&HL ps)):=by
 have l0:decide (((ps.length+1:Nat):Int)=0)=false:=zB (by lia);have h1:=MP (W:=W) (n:=n) (k:=2) (lo:=-60) (hi:=60) hl hy;have h2:=MP (W:=W) (n:=n) (k:=2) (lo:=0) (hi:=ma) hl hy;clear hl hy;have l3:decide (((3:Nat):Int)=0)=false:=rfl;constructor
 ·rw[dC JP rfl rfl];unfold lL
  walk_at "!LI JI II GI HI FI"
  cases c:NB 2 (-60) 60 ps
  ·right
   all_goals rfl
  ·clear h1;obtain⟨i,j,rfl,_⟩:=NP c;have hv:(true&&GL [.int i,.int j])=decide (i<=j):=rfl
   walk_at "!LI JI II GI HI FI"
 ·rw[dC JP rfl rfl];unfold lL
  walk_at "!LI JI II GI HI FI"
  cases c:NB 2 0 ma ps
  ·right
   all_goals rfl
  ·clear h2;obtain⟨i,j,rfl,_⟩:=NP c;have hv:(true&&HL [.int i,.int j])=!decide (i=j):=rfl
   walk_at "!LI JI II GI HI FI"
def wk{W n:Nat}{ba ma:D}{oc:Int}{ps:List D}(hy:ps.all eE=true) :
  "is_rule"|||n+4|||[.sh ba,.i oc,.sh ma,.sh (.t (.str (pA "never")::ps))]|||.b (jH oc ps):=by
 have l0:decide (((ps.length+1:Nat):Int)=0)=false:=zB (by lia);rw[dC JP rfl rfl];unfold lL;by_cases c:∃a b d,ps=[a,b,d]
 ·obtain⟨a,b,d,rfl⟩:=c;simp only[TB,HK,IF,qA] at hy;have h1:=MP (W:=W) (n:=n) (k:=2) (lo:=0) (hi:=oc-1) (ps:=[a,b]) (by simp) (by simp[hy.1,hy.2.1]);have h2:=yCa (W:=W) (n:=n+2) hy.2.2;have l4:decide (((4:Nat):Int)=0)=false:=rfl
  have hv:jH oc [a,b,d]=(NB 2 0 (oc-1) [a,b]&&GJ d):=by(unfold jH NB;simp[iq])
  clear hy;cases c1:NB 2 0 (oc-1) [a,b]
  ·rw[c1] at h1 hv;have hv:jH oc [a,b,d]=false:=hv
   walk_at "!LI JI II GI HI FI"
  ·rw[c1] at h1 hv;have hv:jH oc [a,b,d]=GJ d:=hv
   walk_at "!LI JI II GI HI FI"
 ·have l2:decide ((ps.length:Int)=3)=false:=zB λz=>c (O6 (by lia))
  have hv:jH oc ps=false:=(l7 ps).resolve_left c;clear c hy
  walk_at "!LI JI II GI HI FI"
def nTa(w1:(w==pA "span")=false)(w2:(w==pA "leap")=false)(w3:(w==pA "back")=false)(w4:(w==pA "again")=false)(w5:(w==pA "range")=false)(w6:(w==pA "above")=false)(w7:(w==pA "never")=false) :
  "is_rule"|||n+4|||[.sh ba,.sh oc,.sh ma,.sh (.t (.str w::ps))]|||.b false:=by
 have l0:decide (((ps.length+1:Nat):Int)=0)=false:=zB (by lia);rw[dC JP rfl rfl];unfold lL
 walk_at "!LI JI II GI HI FI"
def pw{j:Int}(h1:0<=j)(h2:j<=12):(0:Int)<2 ^ j.toNat/\(2:Int) ^ j.toNat<nofun:=by
 have h:j.toNat<=12:=by lia
 generalize j.toNat=q at h;have h3:2 ^ q<=2 ^ 12:=LJ (by decide) h;have h4:(2:Int) ^ q<=4096:=by exact_mod_cast h3
 exact⟨Va (by decide),tR h4 (by decide)⟩
inductive UE(no ba oc ma:Int):D->Prop
 |span (a b:Int) (h1:0<=a) (h2:a<ba) (h3:0<=b) (h4:b<2 ^ oc.toNat):UE no ba oc ma (.t [.str "span",.int a,.int b])
 |leap (a:Int) (h1:0<=a) (h2:a<=12):UE no ba oc ma (.t [.str "leap",.int a])
 |back (a b:Int) (h1:1<=a) (h2:a<=12) (h3:1<=b) (h4:b<=12):UE no ba oc ma (.t [.str "back",.int a,.int b])
 |again (a:Int) (h1:1<=a) (h2:a<=3):UE no ba oc ma (.t [.str "again",.int a])
 |range (a b:Int) (h1:-60<=a) (h2:a<=b) (h3:b<=60):UE no ba oc ma (.t [.str "range",.int a,.int b])
 |above (v w:Nat) (h1:(v:Int)<=ma) (h2:(w:Int)<=ma) (h3:v≠w):UE no ba oc ma (.t [.str "above",.int (v:Int),.int (w:Int)])
 |never (a b:Int) (x:aA) (h1:0<=a) (h2:a<oc) (h3:0<=b) (h4:b<oc) (h5:x="like"\/x="against"\/x="aside"\/x="any"):UE no ba oc ma (.t [.str "never",.int a,.int b,.str x])
section
variable{P:YA}{C:Calls}{W:Nat}{k s no ba oc ma w:Int}{u6 u7 u8:Sl}
noncomputable def XE(k s no ba oc ma w:Int)(u6 u7 u8:Sl):Env:=[.p (.l [.int k,.int s]),.i no,.i ba,.i oc,.i ma,.i w,u6,u7,u8]
def AI:ex P C W (.wA (.IA .Eq (.v 5) (.c (.int i))) a []) (XE k s no ba oc ma w u6 u7 u8)=if w=i then GA P C W a (XE k s no ba oc ma w u6 u7 u8) else some (.nx,XE k s no ba oc ma w u6 u7 u8):=by
 unfold XE;by_cases h:w=i
 ·have h':decide (w=i)=true:=IB h;rw[uA h]
  right
 ·have h':decide (w=i)=false:=zB h;rw[qB h]
  right
end
def at2(h1:0<=c)(h2:c<2):L2.oC [D.int a,D.int b] c=some (.int (if c=0 then a else b)):=by
 have:c=0\/c=1:=by lia
 rcases this with rfl | rfl<;>rfl
def Kt(h1:0<=c)(h2:c<4):∃x:aA,L2.oC [D.str "like",D.str "against",D.str "aside",D.str "any"] c=some (.str x)/\(x="like"\/x="against"\/x="aside"\/x="any"):=by
 have:c=0\/c=1\/c=2\/c=3:=by lia
 rcases this with rfl | rfl | rfl | rfl
 ·exact⟨_,rfl,.inl rfl⟩
 ·exact⟨_,rfl,.inr (.inl rfl)⟩
 ·exact⟨_,rfl,.inr (.inr (.inl rfl))⟩
 ·exact⟨_,rfl,.inr (.inr (.inr rfl))⟩
def oTa{W n:Nat}{k s0 no ba oc ma:Int}(n1:1<=no)(n2:no<=7)(b1:1<=ba)(b2:ba<=4)(o1:1<=oc)(o2:oc<=12)(m1:1<=ma)(m2:ma<=3) :
  ∃s' d,run T W (n+2) "L_rule" [.p (.l [.int k,.int s0]),.i no,.i ba,.i oc,.i ma]=some (.ok (.sh d),[.p (.l [.int k,.int s']),.i no,.i ba,.i oc,.i ma])/\UE no ba oc ma d:=by
 rw[dC Wr rfl rfl];unfold ZV;have g1:0<ba:=b1;have g2:ba<nofun:=tR b2 (by decide);have g3:0<oc:=o1;have g4:oc<nofun:=tR o2 (by decide);have g5:0<=oc:=by lia
 have g6:oc<=1000:=by lia
 obtain⟨g7,g8⟩:=pw g5 o2;have g9:0<ma:=m1;have Kz:ma<nofun:=tR m2 (by decide);have D3:0<ma+1:=by lia
 have Lz:ma+1<nofun:=tR (Int.add_le_add_right m2 1) (by decide);have v1:=ED (k:=k) (s:=s0) (m:=9) (by decide);have v2:=DD (k:=k) (s:=s0) (m:=9) (by decide)
 have e0:ex T.bA (run T W (n+1)) W r8 ([.p (.l [.int k,.int s0]),.i no,.i ba,.i oc,.i ma]++wC 4 .un)=some (.nx,XE k (SA k s0 9) no ba oc ma (uB k s0 9) .un .un .un):=by
  unfold XE;rw[r8];clear g1 g2 g3 g4 g5 g6 g7 g8 g9 Kz D3 Lz v1 v2 n1 n2 b1 b2 o1 o2 m1 m2
  walk_at "!WE"
 generalize uB k s0 9=w at *
 generalize SA k s0 9=s at *
 rw[OH,e0,YM,OH];clear e0
 -- a return of a j1a ends JE def
 have XA:∀{st:S} {r:List S} {s':Int} {d:D} {u6 u7 u8:Sl},ex T.bA (run T W (n+1)) W st (XE k s no ba oc ma w .un .un .un)=some (.rt (.sh d),XE k s' no ba oc ma w u6 u7 u8)->UE no ba oc ma d ->
   ∃ET d,J6 [.p (.l [.int k,.int s0]),.i no,.i ba,.i oc,.i ma] ((ex T.bA (run T W (n+1)) W st (XE k s no ba oc ma w .un .un .un)).next (GA T.bA (run T W (n+1)) W r))=some (.ok (.sh d),[.p (.l [.int k,.int ET]),.i no,.i ba,.i oc,.i ma])/\UE no ba oc ma d:=λh hd=>by
  rw[h,yJa,Eh];exact⟨_,_,rfl,hd⟩
 by_cases c0:w<2
 ·refine XA (s':=SA k (SA k s ba) (2 ^ oc.toNat)) (d:=.t [.str "span",.int (uB k s ba),.int (uB k (SA k s ba) (2 ^ oc.toNat))]) (u6:=.un) (u7:=.un) (u8:=.un) ?_ (.span _ _ (ED g1) (DD g1) (ED g7) (DD g7));have Ou:decide (w<2)=true:=IB c0;rw[zY];unfold XE;clear n1 n2 b1 b2 o1 o2 m1 m2 v1 v2 c0 XA
  walk_at "!WE"
 have e1:ex T.bA (run T W (n+1)) W zY (XE k s no ba oc ma w .un .un .un)=some (.nx,XE k s no ba oc ma w .un .un .un):=by
  have Ou:decide (w<2)=false:=zB c0;rw[zY];unfold XE;clear n1 n2 b1 b2 o1 o2 m1 m2 v1 v2 c0 XA
  walk_at "!WE"
 rw[e1,YM,OH];clear e1;by_cases c2:w=2
 ·have x1:=ED (k:=k) (s:=SA k s ba) (m:=oc) g3;have x2:=DD (k:=k) (s:=SA k s ba) (m:=oc) g3;have x3:uB k (SA k s ba) oc<=1000:=by lia
  have h4:(2:Int) ^ (uB k (SA k s ba) oc).toNat<=2 ^ oc.toNat-1:=by
   have h1:(uB k (SA k s ba) oc).toNat+1<=oc.toNat:=by lia
   have h2:(2:Int) ^ ((uB k (SA k s ba) oc).toNat+1)<=2 ^ oc.toNat:=by
    have h3:2 ^ ((uB k (SA k s ba) oc).toNat+1)<=2 ^ oc.toNat:=LJ (by decide) h1
    exact_mod_cast h3
   have h4:(2:Int) ^ ((uB k (SA k s ba) oc).toNat+1)=2 ^ (uB k (SA k s ba) oc).toNat*2:=Int.pow_succ _ _;have h5:(0:Int)<2 ^ (uB k (SA k s ba) oc).toNat:=Va (by decide)
   lia
  have h5:(0:Int)<2 ^ (uB k (SA k s ba) oc).toNat:=Va (by decide);refine XA (s':=SA k (SA k s ba) oc) (d:=.t [.str "span",.int (uB k s ba),.int (2 ^ oc.toNat-1-2 ^ (uB k (SA k s ba) oc).toNat)]) (u6:=.un) (u7:=.un) (u8:=.un) ?_ (.span _ _ (ED g1) (DD g1) (by lia) (by lia));rw[v8,AI,uA c2];unfold XE;clear n1 n2 b1 b2 o1 o2 m1 m2 v1 v2 c0 XA h4 h5 x2
  walk_at "!WE"
 rw[v8,AI,qB c2,YM,OH];by_cases c3:w=3
 ·have x1:=ED (k:=k) (s:=s) (m:=2) (by decide);have x2:=DD (k:=k) (s:=s) (m:=2) (by decide);have iQ:=at2 (a:=13) (b:=no+1) x1 x2;obtain⟨q,hq⟩:∃q,q=(if uB k s 2=0 then 13 else no+1):=⟨_,rfl⟩
  rw[<- hq] at iQ;have q1:0<q:=by rw[hq];split<;>lia
  have q2:q<=13:=by rw[hq];split<;>lia
  have q3:q<nofun:=tR q2 (by decide);refine XA (s':=SA k (SA k s 2) q) (d:=.t [.str "leap",.int (uB k (SA k s 2) q)]) (u6:=.un) (u7:=.un) (u8:=.un) ?_ (.leap _ (ED q1) (by have:=DD (k:=k) (s:=SA k s 2) q1;lia));rw[x8,AI,uA c3];unfold XE;clear n1 n2 b1 b2 o1 o2 m1 m2 v1 v2 c0 XA q2 hq x1 x2
  walk_at "!WE"
 rw[x8,AI,qB c3,YM,OH];by_cases c4:w=4
 ·have x1:=ED (k:=k) (s:=s) (m:=12) (by decide);have x2:=DD (k:=k) (s:=s) (m:=12) (by decide);have x3:=ED (k:=k) (s:=SA k s 12) (m:=12) (by decide);have x4:=DD (k:=k) (s:=SA k s 12) (m:=12) (by decide);refine XA (s':=SA k (SA k s 12) 12) (d:=.t [.str "back",.int (1+uB k s 12),.int (1+uB k (SA k s 12) 12)]) (u6:=.un) (u7:=.un) (u8:=.un) ?_ (.back _ _ (by lia) (by lia) (by lia) (by lia));rw[y8,AI,uA c4];unfold XE;clear n1 n2 b1 b2 o1 o2 m1 m2 v1 v2 c0 XA x1 x2 x3 x4
  walk_at "!WE"
 rw[y8,AI,qB c4,YM,OH];by_cases c5:w=5
 ·have x1:=ED (k:=k) (s:=s) (m:=3) (by decide);have x2:=DD (k:=k) (s:=s) (m:=3) (by decide);refine XA (s':=SA k s 3) (d:=.t [.str "again",.int (1+uB k s 3)]) (u6:=.un) (u7:=.un) (u8:=.un) ?_ (.again _ (by lia) (by lia));rw[z8,AI,uA c5];unfold XE;clear n1 n2 b1 b2 o1 o2 m1 m2 v1 v2 c0 XA x1 x2
  walk_at "!WE"
 rw[z8,AI,qB c5,YM,OH];by_cases c6:w=6
 ·have u1:=ED (k:=k) (s:=s) (m:=121) (by decide);have u2:=DD (k:=k) (s:=s) (m:=121) (by decide);have u3:=ED (k:=k) (s:=SA k s 121) (m:=20) (by decide);have u4:=DD (k:=k) (s:=SA k s 121) (m:=20) (by decide);have u5:=ED (k:=k) (s:=SA k (SA k s 121) 20) (m:=2) (by decide);have u6:=DD (k:=k) (s:=SA k (SA k s 121) 20) (m:=2) (by decide);have iQ:=at2 (a:=uB k s 121-60) (b:=uB k (SA k s 121) 20-12) u5 u6;obtain⟨lo,xS⟩:∃lo,lo=(if uB k (SA k (SA k s 121) 20) 2=0 then uB k s 121-60 else uB k (SA k s 121) 20-12):=⟨_,rfl⟩
  rw[<- xS] at iQ;have q1:lo<=60:=by rw[xS];split<;>lia
  have q2:-60<=lo:=by rw[xS];split<;>lia
  have y1:0<61-lo:=by lia
  have y2:61-lo<nofun:=by lia
  obtain⟨s1,eO⟩:∃s1,s1=SA k (SA k (SA k s 121) 20) 2:=⟨_,rfl⟩
  have z1:=ED (k:=k) (s:=s1) y1;have z2:=DD (k:=k) (s:=s1) y1;refine XA (s':=SA k s1 (61-lo)) (d:=.t [.str "range",.int lo,.int (lo+uB k s1 (61-lo))]) (u6:=.i lo) (u7:=.un) (u8:=.un) ?_ (.range _ _ q2 (by lia) (by lia));rw[A8,AI,uA c6];have e0a:=eO.symm;unfold XE;clear n1 n2 b1 b2 o1 o2 m1 m2 v1 v2 c0 XA u1 u2 u3 u4 u5 u6 q1 q2 z1 z2 xS eO
  walk_at "!WE"
 rw[A8,AI,qB c6,YM,OH];by_cases c7:w=7
 ·have x1:=ED (k:=k) (s:=s) D3;have x2:=DD (k:=k) (s:=s) D3;have x3:=ED (k:=k) (s:=SA k s (ma+1)) g9;have x4:=DD (k:=k) (s:=SA k s (ma+1)) g9;obtain⟨a,ha⟩:∃a:Nat,uB k s (ma+1)=(a:Int):=⟨_,(ip x1).symm⟩
  have y1:=bq ((a:Int)+1+uB k (SA k s (ma+1)) ma) (b:=ma+1) (by lia);have y2:=yp ((a:Int)+1+uB k (SA k s (ma+1)) ma) (b:=ma+1) (by lia);obtain⟨b,hb⟩:∃b:Nat,((a:Int)+1+uB k (SA k s (ma+1)) ma) % (ma+1)=(b:Int):=⟨_,(ip y1).symm⟩
  have VB:a≠b:=λz=>by
   subst z;rcases Int.lt_or_le ((a:Int)+1+uB k (SA k s (ma+1)) ma) (ma+1) with h | h
   ·rw[Lp (by lia) h] at hb
    lia
   ·have h2:((a:Int)+1+uB k (SA k s (ma+1)) ma) % (ma+1)=((a:Int)+1+uB k (SA k s (ma+1)) ma-(ma+1)):=by
     rw[<- Int.sub_emod_right,Lp (by lia) (by lia)]
    lia
  refine XA (s':=SA k (SA k s (ma+1)) ma) (d:=.t [.str "above",.int (a:Int),.int (b:Int)]) (u6:=.un) (u7:=.i (a:Int)) (u8:=.un) ?_ (.above _ _ (by lia) (by lia) VB);rw[B8,AI,uA c7];unfold XE;clear n1 n2 b1 b2 o1 o2 m1 m2 v1 v2 c0 XA x1 x2 x3 x4 y1 y2 VB
  walk_at "!WE"
 rw[B8,AI,qB c7,YM,OH,Rk];have x1:=ED (k:=k) (s:=SA k (SA k s oc) oc) (m:=4) (by decide);have x2:=DD (k:=k) (s:=SA k (SA k s oc) oc) (m:=4) (by decide);obtain⟨x,iQ,hx⟩:=Kt x1 x2;refine⟨SA k (SA k (SA k s oc) oc) 4,.t [.str "never",.int (uB k s oc),.int (uB k (SA k s oc) oc),.str x], ?_,.never _ _ _ (ED g3) (DD g3) (ED g3) (DD g3) hx⟩;unfold XE;clear n1 n2 b1 b2 o1 o2 m1 m2 v1 v2 c0 XA x1 x2 hx
 walk_at "!kYa WE"
noncomputable def toD(f:Int×Int×Bool):D:=.t [.int f.1,.int f.2.1,.bl f.2.2]
def WZ:L2.oC [D.int a,D.int b] (if g=true then 1 else 0)=some (.int (if g=true then b else a)):=by cases g<;>rfl
def eX{g:Bool}{a b:Int}(ha:0<a)(hb:0<b):0<(if g=true then b else a):=by cases g<;>simpa
def dX{g:Bool}{a b c:Int}(ha:a<c)(hb:b<c):(if g=true then b else a)<c:=by cases g<;>simpa
structure yb(no ba oc:Int)(fs:List (Int×Int×Bool)):Prop where
 n1:1<=no
 n2:no<=7
 b1:1<=ba
 b2:ba<=4
 o1:1<=oc
 o2:oc<=12
 l1:1<=fs.length
 l2:fs.length<=3
 f:∀f∈fs,0<=f.1/\f.1<=4/\-12<=f.2.1/\f.2.1<=12
def mAa{W n:Nat}{k s:Int}:∃s' no ba oc fs rs,run T W (n+3) "L_house" [.p (.l [.int k,.int s])]=some (.ok (.sh (.t [.int no,.int ba,.int oc,.t (fs.map toD),.t rs])),[.p (.l [.int k,.int s'])])/\yb no ba oc fs/\rs.length<=8/\∀d∈rs,UE no ba oc (fs.length:Int) d:=by
 rw[dC Tr rfl rfl];unfold WV;generalize hg:decide (uB k s 2=0)=g;have p1:=eX (g:=g) (a:=4) (b:=7) (by decide) (by decide);have p2:=dX (g:=g) (a:=4) (b:=7) (c:=nofun) (by decide) (by decide);have p3:=eX (g:=g) (a:=2) (b:=4) (by decide) (by decide);have p4:=dX (g:=g) (a:=2) (b:=4) (c:=nofun) (by decide) (by decide);have p5:=eX (g:=g) (a:=2) (b:=3) (by decide) (by decide);have p6:=dX (g:=g) (a:=2) (b:=3) (c:=nofun) (by decide) (by decide);have p7:=eX (g:=g) (a:=2) (b:=5) (by decide) (by decide);have p8:=dX (g:=g) (a:=2) (b:=5) (c:=nofun) (by decide) (by decide);obtain⟨s1,eO⟩:∃s1,s1=SA k s 2:=⟨_,rfl⟩
 obtain⟨no,TM⟩:∃no,no=1+uB k s1 (if g=true then 7 else 4):=⟨_,rfl⟩
 obtain⟨s2,UH⟩:∃s2,s2=SA k s1 (if g=true then 7 else 4):=⟨_,rfl⟩
 obtain⟨ba,DW⟩:∃ba,ba=1+uB k s2 (if g=true then 4 else 2):=⟨_,rfl⟩
 obtain⟨s3,fO⟩:∃s3,s3=SA k s2 (if g=true then 4 else 2):=⟨_,rfl⟩
 obtain⟨oc,yL⟩:∃oc,oc=1+uB k s3 12:=⟨_,rfl⟩
 obtain⟨s4,VW⟩:∃s4,s4=SA k s3 12:=⟨_,rfl⟩
 obtain⟨ma,LW⟩:∃ma,ma=1+uB k s4 (if g=true then 3 else 2):=⟨_,rfl⟩
 obtain⟨s5,WW⟩:∃s5,s5=SA k s4 (if g=true then 3 else 2):=⟨_,rfl⟩
 have n1:1<=no:=by have:=ED (k:=k) (s:=s1) p1;lia
 have n2:no<=7:=by
  have:=DD (k:=k) (s:=s1) p1
  have:(if g=true then(7:Int) else 4)<=7:=by cases g<;>decide
  lia
 have b1:1<=ba:=by have:=ED (k:=k) (s:=s2) p3;lia
 have b2:ba<=4:=by
  have:=DD (k:=k) (s:=s2) p3
  have:(if g=true then(4:Int) else 2)<=4:=by cases g<;>decide
  lia
 have o1:1<=oc:=by have:=ED (k:=k) (s:=s3) (m:=12) (by decide);lia
 have o2:oc<=12:=by have:=DD (k:=k) (s:=s3) (m:=12) (by decide);lia
 have m1:1<=ma:=by have:=ED (k:=k) (s:=s4) p5;lia
 have m2:ma<=3:=by
  have:=DD (k:=k) (s:=s4) p5
  have:(if g=true then(3:Int) else 2)<=3:=by cases g<;>decide
  lia
 have QM:aAa .yD [.slot 5] [.p (.l [.int k,.int s5]),.b g,.i no,.i ba,.i oc,.i ma,.o (.l []),.un,.un,.un]=some ((jC ma.toNat).map λ(j:Nat)=>.int (j:Int),none):=R5 rfl (by lia) (by lia)
 have wFa:=T6 (bind:=WA true [7]) (body:=GA T.bA (run T W (n+2)) W YZ)
  (λpre U=>∃s6 fs t7 t8,U=[.p (.l [.int k,.int s6]),.b g,.i no,.i ba,.i oc,.i ma,.o (.l (fs.map toD)),t7,t8,.un]/\PB t7=true/\PB t8=true/\fs.length=pre.length/\∀f∈fs,0<=f.1/\f.1<=4/\-12<=f.2.1/\f.2.1<=12)
  (ds:=(jC ma.toNat).map λ(j:Nat)=>.int (j:Int)) (λpre d post gD U hU=>by
   obtain⟨s6,fs,t7,t8,rfl,h7,h8,hl,hf⟩:=hU
   have GB:pre.length<ma.toNat:=by
    have:=congrArg AR gD
    simp at this
    lia
   refine⟨_,by simp only[CD,vC h7]<;>rfl, ?_⟩;have aF:pB ((fs.map toD).length+1)=true:=eC (by simp;lia);have la:=ED (k:=k) (s:=s6) p7;have lb:=DD (k:=k) (s:=s6) p7;have lc:(if g=true then(5:Int) else 2)<=5:=by cases g<;>decide
   have sa:=ED (k:=k) (s:=SA k s6 (if g=true then 5 else 2)) (m:=25) (by decide);have sb:=DD (k:=k) (s:=SA k s6 (if g=true then 5 else 2)) (m:=25) (by decide);refine⟨[.p (.l [.int k,.int (SA k (SA k (SA k s6 (if g=true then 5 else 2)) 25) 4)]),.b g,.i no,.i ba,.i oc,.i ma,.o (.l ((fs++[(uB k s6 (if g=true then 5 else 2),uB k (SA k s6 (if g=true then 5 else 2)) 25-12,decide (uB k (SA k (SA k s6 (if g=true then 5 else 2)) 25) 4=0))]).map toD)),.sh d,.i (uB k s6 (if g=true then 5 else 2)),.un], ?_,_,_,_,_,rfl,rfl,rfl,by simp[hl],λf hm=>?_⟩
   ·unfold YZ;clear hf gD la lb lc sa sb hg TM UH DW fO yL VW LW WW n1 n2 b1 b2 o1 o2 m1 m2 GB hl QM eO
    walk_at "!WZ WE"
    simp only[jP,eD,vN,toD]
   ·rcases CG.mp hm with hm | hm
    ·exact hf f hm
    ·rw[ME.mp hm]
     refine⟨la, ?_, ?_, ?_⟩<;>simp only<;>lia)
  (U:=[.p (.l [.int k,.int s5]),.b g,.i no,.i ba,.i oc,.i ma,.o (.l []),.un,.un,.un]) ⟨_,[],_,_,rfl,rfl,rfl,rfl,λf h=>nomatch h⟩
 obtain⟨U1,Iw,s6,fs,t7,t8,rfl,h7,h8,hl,hf⟩:=wFa;have hl:fs.length=ma.toNat:=by rw[hl];simp
 have SW:=ED (k:=k) (s:=s6) (m:=9) (by decide);have dE:=DD (k:=k) (s:=s6) (m:=9) (by decide);have mK:aAa .yD [.val (.i (uB k s6 9))] [.p (.l [.int k,.int (SA k s6 9)]),.b g,.i no,.i ba,.i oc,.i ma,.o (.l (fs.map toD)),t7,t8,.o (.l [])]=some ((jC (uB k s6 9).toNat).map λ(j:Nat)=>.int (j:Int),none):=R5 rfl (by lia) (by lia)
 have xFa:=T6 (bind:=WA true [7]) (body:=GA T.bA (run T W (n+2)) W ZZ)
  (λpre U=>∃s7 rs t7,U=[.p (.l [.int k,.int s7]),.b g,.i no,.i ba,.i oc,.i ma,.o (.l (fs.map toD)),t7,t8,.o (.l rs)]/\PB t7=true/\rs.length=pre.length/\∀d∈rs,UE no ba oc ma d)
  (ds:=(jC (uB k s6 9).toNat).map λ(j:Nat)=>.int (j:Int)) (λpre d post gD U hU=>by
   obtain⟨s7,rs,t7,rfl,h7,hl,hR⟩:=hU
   have GB:pre.length<(uB k s6 9).toNat:=by
    have:=congrArg AR gD
    simp at this
    lia
   refine⟨_,by simp only[CD,vC h7]<;>rfl, ?_⟩;have aF:pB (rs.length+1)=true:=eC (by lia);obtain⟨s8,dr,er,V4⟩:=oTa (W:=W) (n:=n) (k:=k) (s0:=s7) n1 n2 b1 b2 o1 o2 m1 m2;refine⟨[.p (.l [.int k,.int s8]),.b g,.i no,.i ba,.i oc,.i ma,.o (.l (fs.map toD)),.sh d,t8,.o (.l (rs++[dr]))], ?_,_,_,_,rfl,rfl,by simp[hl],λd hd=>(CG.mp hd).elim (hR d) λq=>by rw[ME.mp q];exact V4⟩;unfold ZZ;clear hR V4 hf gD hg TM UH DW fO yL VW LW WW n1 n2 b1 b2 o1 o2 m1 m2 GB hl QM eO Iw mK SW dE
   walk_at "!WE WZ")
  (U:=[.p (.l [.int k,.int (SA k s6 9)]),.b g,.i no,.i ba,.i oc,.i ma,.o (.l (fs.map toD)),t7,t8,.o (.l [])]) ⟨_,[],_,rfl,h7,rfl,λ_ z=>nomatch z⟩
 obtain⟨U2,el2,s7,rs,t7',rfl,h7',jJ,hR⟩:=xFa;have qf:rs.length<=8:=by rw[jJ];simp;lia
 have pf:(fs.length:Int)=ma:=by lia
 refine⟨s7,no,ba,oc,fs,rs, ?_,⟨n1,n2,b1,b2,o1,o2,by lia,by lia,hf⟩,qf,by rw[pf];exact hR⟩;clear hf n1 n2 b1 b2 o1 o2 m1 m2 hl jJ SW dE hR qf pf;have e1:=TM.symm;have e2:=UH.symm;have e3:=DW.symm;have e4:=fO.symm;have e5:=yL.symm;have e6:=VW.symm;have e7:=LW.symm;have e8:=WW.symm;have e9:=eO.symm;clear TM UH DW fO yL VW LW WW eO
 walk_at "!WZ WE"
noncomputable def RD(no ba oc:Int)(fs:List (Int×Int×Bool))(rs:List D):D:=.t [.int no,.int ba,.int oc,.t (fs.map toD),.t rs]
mutual
theorem Yw:∀(n:Nat) (d:D),lB n d=true->TC d d=true
 |_,.oA,_=>by simp[TC]
 |_,.bl _,_=>by simp[TC]
 |_,.int _,_=>by simp[TC]
 |_,.str _,_=>by simp[TC]
 | 0,.t _,h=>by simp[lB] at h
 | 0,.l _,h=>by simp[lB] at h
 |n+1,.t ds,h=>by simp only[lB] at h;simp only[TC];exact J2 n ds h
 |n+1,.l ds,h=>by simp only[lB] at h;simp only[TC];exact J2 n ds h
 |_,.ins _ _ _,h=>by simp[lB] at h
 |_,.uD _ _,h=>by simp[lB] at h
 |_,.sC _ _,h=>by simp[lB] at h
theorem J2:∀(n:Nat) (ds:List D),ds.all (lB n)=true->tG ds ds=true
 |_,[],_=>by simp[tG]
 |n,d::ds,h=>by(simp only[TB,qA] at h;simp only[tG,Yw n d h.1,J2 n ds h.2,Bool.and_self])
end
def Q5{k:Nat}(h:k<=1000):aAa .yD [.val (.i (k:Int))] U=some ((jC k).map λ(j:Nat)=>.int (j:Int),none):=by
 refine OU (R5 (n:=(k:Int)) rfl (by lia) (by lia)) ?_;rw[BG]
def hTa(no ba oc ma:Int)(rs:List D):Prop:=rs.length<=8/\∀d∈rs,UE no ba oc ma d
def Pd(h:d∈RC lo ds):∃(j:Int) (x:D),d=.t [.int j,x]/\x∈ds:=by
 unfold RC at h;obtain⟨j,hj,rfl⟩:=OC.mp h;have hj:j<ds.length:=tN.mp hj;exact⟨_,_,rfl,by rw[gM,kC hj];exact CK hj⟩
def SS(h:U[i]?=some (.ow (.l ds) p l)):aAa (.enum lo) [.slot i] U=some (RC lo ds,some i):=by(unfold aAa;simp only[h])
def SN{bind:D->Env->Option Env}{xs:List O}(f:O->D)(keep:O->Bool)(g:O->D)(J:Env->Prop)
  (step:∀x∈xs,∀U,J U->∃U1 U2,bind (f x) U=some U1/\tests U1=some (.ok (.b (keep x)),U2)/\(keep x=true->∃v U3,LA U2=some (.ok v,U3)/\v.d=g x/\J U3)/\(keep x=false->J U2)) (h:J U) :
  ∃U',QD tests LA bind (xs.map f) [] U=some (.ok ((xs.filter keep).map g),U')/\J U':=by
 obtain⟨cB,U',e,⟨rfl,hJ⟩,_⟩:=Zc (ds:=xs.map f) (λj cB U=>cB=((xs.take j).filter keep).map g/\J U)
  (λj d hd cB U hz=>by
   obtain⟨ha,hJ⟩:=hz;rw[PL] at hd
   cases hq:xs[j]? with
   |none=>rw[hq] at hd;cases hd
   |some x =>
    rw[hq] at hd;cases hd;obtain⟨U1,U2,h1,h2,h3,h4⟩:=step x (pN hq) U hJ;refine⟨U1,keep x,U2,h1,h2,λhk=>?_,λhk=>⟨?_,h4 hk⟩⟩
    ·obtain⟨v,U3,h5,h6,h7⟩:=h3 hk;refine⟨v,U3,h5, ?_,h7⟩;rw[ha,h6,Mp,hq];simp[dP,hk]
    ·rw[ha,Mp,hq]
     simp[dP,hk]) [] U ⟨by simp,h⟩
 refine⟨U', ?_,hJ⟩;rw[e,JA,Z9]
def mI{bind:D->Env->Option Env}{xs:List O}(f g:O->D)(J:Env->Prop)
  (step:∀x∈xs,∀U,J U->∃U1 v U3,bind (f x) U=some U1/\LA U1=some (.ok v,U3)/\v.d=g x/\J U3) (h:J U) :
  ∃U',QD (fD P C []) LA bind (xs.map f) [] U=some (.ok (xs.map g),U')/\J U':=by
 obtain⟨U',e,hJ⟩:=SN (tests:=fD P C []) f (λ_=>true) g J (λx hx U hU=>by
  obtain⟨U1,v,U3,h1,h2,h3,h4⟩:=step x hx U hU
  exact⟨U1,U1,h1,N2,λ_=>⟨v,U3,h2,h3,h4⟩,λz=>nomatch z⟩) h
 refine⟨U', ?_,hJ⟩;rw[e,dZ.mpr λ_ _=>rfl]
noncomputable def jS(c:Nat):List (List Nat)->List Nat
 |[]=>[]
 |[a]=>a
 |a::b::r=>a++c::jS c (b::r)
theorem DQ(c:Nat):∀ws:List aA,(xH ⟨#[c]⟩ ws).cps.toList=jS c (ws.map λw=>w.cps.toList)
 |[]=>rfl
 |[a]=>rfl
 |a::b::r=>by(have ih:=DQ c (b::r);show((a++(⟨#[c]⟩:aA))++xH ⟨#[c]⟩ (b::r)).cps.toList=a.cps.toList++c::jS c ((b::r).map λw=>w.cps.toList);rw[<- ih];show(a.cps ++ #[c]++(xH ⟨#[c]⟩ (b::r)).cps).toList=_;simp)
theorem vd:∀{a a' s s':List Nat},c ∉ a->c ∉ a'->a++c::s=a'++c::s'->a=a'/\s=s'
 |[],[],s,s',_,_,h=>by simpa using h
 |[],x::a',s,s',_,h2,h=>by
  simp only[UL,gP,kP] at h;exact absurd (by rw[h.1];exact kG) h2
 |x::a,[],s,s',h1,_,h=>by
  simp only[UL,gP,kP] at h;exact absurd (by rw[h.1];exact kG) h1
 |x::a,y::a',s,s',h1,h2,h=>by(simp only[gP,kP] at h;obtain⟨e1,e2⟩:=vd (λz=>h1 (jG _ z)) (λz=>h2 (jG _ z)) h.2;exact⟨by rw[h.1,e1],e2⟩)
theorem Cg:∀{as bs:List (List Nat)},as≠[]->bs≠[]->(∀a∈as,c ∉ a)->(∀b∈bs,c ∉ b)->jS c as=jS c bs->as=bs
 |[],_,h,_,_,_,_=>absurd rfl h
 |_,[],_,h,_,_,_=>absurd rfl h
 |[a],[b],_,_,_,_,h=>by rw[show a=b from h]
 |[a],b::b2::r,_,_,ha,_,h=>by
  have h:a=b++c::jS c (b2::r):=h;exact absurd (by rw[h];simp) (ha a kG)
 |a::a2::r,[b],_,_,_,hb,h=>by
  have h:a++c::jS c (a2::r)=b:=h;exact absurd (by rw[<- h];simp) (hb b kG)
 |a::a2::r,b::b2::r',_,_,ha,hb,h=>by(obtain⟨rfl,e⟩:=vd (ha a kG) (hb b kG) h;rw[Cg (by simp) (by simp) (λx hx=>ha x (jG _ hx)) (λx hx=>hb x (jG _ hx)) e])
def aAv{a b:aA}(h:a.cps.toList=b.cps.toList):a=b:=by
 cases a;cases b;simp only[vR] at h;rw[h]
theorem ki:∀{as bs:List aA},(as.map λw=>w.cps.toList)=(bs.map λw=>w.cps.toList)->as=bs
 |[],[],_=>rfl
 |[],_::_,h=>nomatch h
 |_::_,[],h=>nomatch h
 |a::as,b::bs,h=>by(simp only[eD,kP] at h;rw[aAv h.1,ki h.2])
def l8(hs:s=⟨#[c]⟩)(hn:ws≠[])(hf:∀w∈ws,c ∉ w.cps.toList):UA (YB s ws) s=ws:=by
 subst hs;have ej:YB ⟨#[c]⟩ ws=xH ⟨#[c]⟩ ws:=YO _ _;rw[ej];have h1:=zp (xH ⟨#[c]⟩ ws) ⟨#[c]⟩;have h2:=Ap (xH ⟨#[c]⟩ ws) c;have h3:=Wo (xH ⟨#[c]⟩ ws) ⟨#[c]⟩
 generalize UA (xH ⟨#[c]⟩ ws) ⟨#[c]⟩=ps at *
 have e:=congrArg (λx:aA=>x.cps.toList) h1;simp only[DQ] at e;refine ki (Cg ?_ ?_ ?_ ?_ e)
 ·intro z;rw[bP] at z;subst z;simp at h3
 ·intro z;exact hn (bP.mp z)
 ·intro a ha;obtain⟨w,hw,rfl⟩:=OC.mp ha;exact h2 w hw
 ·intro a ha;obtain⟨w,hw,rfl⟩:=OC.mp ha;exact hf w hw
structure TG(n:Nat)(w:aA):Prop where
 len:w.length<=n
 asc:w.cps.all (·<128)=true
def kH(h:w.cps.all (·<128)=true):nC w=true:=by
 unfold nC;rw[Jp] at h ⊢;intro i hi
 have:=h i hi
 simp only[OE] at this ⊢
 lia
theorem Dg:∀{as:List (List Nat)} {x:Nat},x∈jS c as->x=c\/∃a∈as,x∈a
 |[],x,h=>nomatch h
 |[a],x,h=>.inr ⟨a,kG,h⟩
 |a::b::r,x,h=>by
  have h:x∈a++c::jS c (b::r):=h;rcases CG.mp h with h | h
  ·exact .inr ⟨a,kG,h⟩
  ·rcases AD.mp h with h | h
   ·exact .inl h
   ·rcases Dg h with h | ⟨d,hd,h⟩
    ·exact .inl h
    ·exact .inr ⟨d,jG _ hd,h⟩
def FQ(hs:s=⟨#[c]⟩)(h:x∈(YB s ws).cps.toList):x=c\/∃w∈ws,x∈w.cps.toList:=by
 subst hs;rw[show YB ⟨#[c]⟩ ws=xH ⟨#[c]⟩ ws from YO _ _,DQ] at h;rcases Dg h with h | ⟨a,ha,h⟩
 ·exact .inl h
 ·obtain⟨w,hw,rfl⟩:=OC.mp ha;exact .inr ⟨w,hw,h⟩
def VS(hs:s=⟨#[c]⟩)(hc:c<128)(h:∀w∈ws,TG B w)(hl:ws.length*(B+1)<=N)(hN:N<=1000000) :
  TG N (YB s ws)/\uP s ws=true:=by
 have h1:s.length=1:=by rw[hs];rfl
 have h2:ws.length*(B+1)=ws.length*B+ws.length:=Nat.mul_succ _ _;refine⟨⟨?_, ?_⟩, ?_⟩
 ·rw[show YB s ws=xH s ws from YO _ _];refine uE (StrLaws.join_length_le _ _) ?_
  have h3:(ws.map (·.length)).sum<=ws.length*B:=by
   clear hl h2
   induction ws with
   |nil=>simp
   |cons a r ih =>
    have h4:=(h a kG).len;have h5:=ih λw hw=>h w (jG _ hw)
    have h6:(r.length+1)*B=r.length*B+B:=Nat.succ_mul _ _;simp only[eD,pZ,IC]
    lia
  rw[h1]
  lia
 ·rw[UG];intro x hx;rcases FQ hs (by simpa using hx) with rfl | ⟨w,hw,hx⟩
  ·exact IB hc
  ·have h4:=(h w hw).asc;rw[UG] at h4;exact h4 x (by simpa using hx)
 ·unfold uP;rw[QK];refine StrLaws.joinFits (λy hy=>(h y hy).len) ?_;rw[h1]
  lia
def aAP:BJ (ts.map D.str)=some ts:=by
 induction ts with
 |nil=>rfl
 |cons a r ih =>
  show(BJ (r.map D.str)).map (a :: ·)=_;rw[ih];rfl
def IG:(" ":aA)=⟨#[32]⟩:=by left
def rJ:("\n":aA)=⟨#[10]⟩:=by left
def IH:(",":aA)=⟨#[44]⟩:=by left
def CQ(hs:s=⟨#[c]⟩)(hc:c<128)(h:∀w∈ws,TG B w)(hl:ws.length*(B+1)<=N)(hN:N<=1000000):WM s (some (.l (ws.map D.str)))=some (.s (YB s ws)):=by
 obtain⟨h1,h2⟩:=VS hs hc h hl hN;exact Eg aAP h2 (kH h1.asc)
noncomputable def aE(c:Nat):Bool:=!(AN ("0123456789":aA) ⟨#[c]⟩ 0 ("0123456789":aA).length 1).isEmpty
noncomputable def num(i:Int):aA:=pA (toString i)
noncomputable def dB(w:aA):aA:=if lP w ("-":aA)=true then mD w (some 1) none else w
noncomputable def E8(i:Int):Bool:=decide (i.natAbs.log2<1920)&&nC (num i)
noncomputable def eY(w:aA):Bool:=w.cps.all λc=>decide (c<128)&&(decide (c≠32)&&(decide (c≠10)&&decide (c≠44)))
noncomputable def E7(i:Int):Bool:=E8 i&&(decide ((num i).length<=3)&&(eY (num i)&&(decide (1<=(dB (num i)).length)&&(decide ((dB (num i)).length<=3)&&((dB (num i)).cps.all (·<128)&&((dB (num i)).cps.toList.all aE&&decide (intText? (num i)=some i)))))))
def vJa:(jC 121).all (λn=>E7 ((n:Int)-60))=true:=by left
structure FN(i:Int):Prop where
 s:pD .str [.int i]=some (.s (num i))
 tg:TG 3 (num i)
 MV:32 ∉ (num i).cps.toList
 LV:10 ∉ (num i).cps.toList
 az:44 ∉ (num i).cps.toList
 l1:1<=(dB (num i)).length
 l2:(dB (num i)).length<=3
 fa:(dB (num i)).cps.all (·<128)=true
 ff:(dB (num i)).cps.toList.all aE=true
 it:intText? (num i)=some i
def zj(h:eY w=true):w.cps.all (·<128)=true/\32 ∉ w.cps.toList/\10 ∉ w.cps.toList/\44 ∉ w.cps.toList:=by
 unfold eY at h;rw[UG] at h;have h:∀x∈w.cps,x<128/\x≠32/\x≠10/\x≠44:=λx hx=>by simpa using h x hx
 refine⟨by rw[UG];exact λx hx=>IB (h x hx).1,λz=>(h 32 (by simpa using z)).2.1 rfl,λz=>(h 10 (by simpa using z)).2.2.1 rfl,λz=>(h 44 (by simpa using z)).2.2.2 rfl⟩
def wVa(h:E8 i=true):pD .str [.int i]=some (.s (num i)):=by
 unfold E8 at h;rw[qA,OE] at h;exact Q2 h.1 h.2
def eF(h1:-60<=i)(h2:i<=60):FN i:=by
 have h:E7 i=true:=by
  have:=HF.mp vJa (i+60).toNat (tN.mpr (by lia))
  rwa[show(((i+60).toNat:Int)-60)=i by lia] at this
 unfold E7 at h;simp only[qA,OE] at h;obtain⟨a,b,c,d,e,f,g,k⟩:=h;obtain⟨p1,p2,p3,p4⟩:=zj c;exact⟨wVa a,⟨b,p1⟩,p2,p3,p4,d,e,f,g,k⟩
def j7(n:Nat):(num (n:Int)).cps.all (·<128)=true:=by
 unfold num;rw[XY,UG];intro x hx;have hx:x∈(toString (n:Int)).toList.map Char.toNat:=by simpa using hx
 obtain⟨c,hc,rfl⟩:=OC.mp hx
 have hc:c∈Nat.toDigits 10 n:=by
  have e:(toString (n:Int)).toList=Nat.toDigits 10 n:=String.toList_ofList
  rwa[e] at hc
 have hd:=Nat.isDigit_of_mem_toDigits (by decide) (by decide) hc;unfold Char.isDigit at hd;rw[qA,OE,OE] at hd;have h2:c.val.toNat<=57:=hd.2;exact IB (show c.val.toNat<128 by lia)
def vVa(h1:0<=b)(h2:b<4096):pD .str [.int b]=some (.s (num b)):=by
 obtain⟨n,rfl⟩:∃n:Nat,b=(n:Int):=⟨b.toNat,by lia⟩
 refine Q2 ?_ (kH (j7 n));rw[Bp];by_cases h0:n=0
 ·subst h0;decide
 ·rw[wZ h0];exact kE (show n<2 ^ 12 by lia) (LJ (i:=12) (j:=1920) (by decide) (by decide))
noncomputable def p2(k:Nat):Int:=((2 ^ k:Nat):Int)
def bj(k:Nat):(2:Int) ^ k=p2 k:=by unfold p2;rw[Int.natCast_pow];rfl
noncomputable def OF(n k:Nat):Bool:=decide (n / 2 ^ k % 2=1)
noncomputable def PF(n:Nat):List Nat:=(jC 12).filter (OF n)
def Cw(n k:Nat):(n:Int) / 2 ^ k=((n / 2 ^ k:Nat):Int):=by rw[bj,Xp];rfl
def Qm(n k:Nat):decide ((n:Int) / 2 ^ k % 2=1)=OF n k:=by
 rw[Cw];unfold OF;rw[AU,OE,OE]
 lia
def hXa(n k:Nat):decide (iZ ((n:Int) / 2 ^ k) 1=1)=OF n k:=by rw[PyProof.Rows.bitAnd_m1,Qm]
theorem Qj(h:∀k,m<=k->p k=false):∀d,(jC (m+d)).filter p=(jC m).filter p
 | 0=>rfl
 |d+1=>by rw[show m+(d+1)=(m+d)+1 by lia,ja,dP,Qj h d,jZ,h (m+d) (by lia)];simp
def qu{n:Nat}(h0:n≠0):xP (n:Int)=n.log2+1:=by
 unfold xP;rw[qB (by simpa using h0),Bp]
def aAK(h:n<4096):n.log2+1<=12:=by
 by_cases h0:n=0
 ·subst h0;decide
 ·have:=(wZ h0 (k:=12)).mpr h
  lia
def uu(h:n<4096):(jC (n.log2+1)).filter (OF n)=PF n:=by
 unfold PF
 have e:=Qj (p:=OF n) (m:=n.log2+1) (λk hk=>by
  unfold OF;have h1:n<2 ^ k:=kE Nat.lt_log2_self (LJ (by decide) hk);rw[wU h1]
  rfl) (12-(n.log2+1))
 rw[show n.log2+1+(12-(n.log2+1))=12 by have:=aAK h;lia] at e;exact e.symm
def fOa(a k:Nat)(h:a<2 ^ k):AH (a:Int) (p2 k)=((a+2 ^ k:Nat):Int):=by
 unfold p2
 have e:a &&& 2 ^ k=0:=Nat.eq_of_testBit_eq λi=>by
  rw[Nat.testBit_and,Nat.testBit_two_pow,Nat.zero_testBit];by_cases c:k=i
  ·subst c;rw[Nat.testBit_lt_two_pow h];rfl
  ·rw[zB c,HJ]
 rw[PyProof.Rows.bitOr_and,PyProof.Rows.bitAnd_pp (by lia) (by lia),BG,BG,e]
 lia
theorem ve(n:Nat):∀m,((jC m).filter (OF n)).foldl (λa k=>AH a (p2 k)) 0=((n % 2 ^ m:Nat):Int)
 | 0=>by simp[Nat.mod_one]
 |m+1=>by
  rw[ja,dP,List.foldl_append,ve n m,jZ,Nat.mod_pow_succ]
  cases h:OF n m with
  |true =>
   have h:n / 2 ^ m % 2=1:=RL h;rw[h];simp only[iE,List.filter_nil,oa,jq];rw[fOa _ _ (Nat.mod_lt _ (Nat.pow_pos (by decide))),Nat.mul_one]
  |false =>
   have h:¬n / 2 ^ m % 2=1:=of_decide_eq_false h;rw[show n / 2 ^ m % 2=0 by lia];simp
def Bc(h:n<4096):(PF n).foldl (λa k=>AH a (p2 k)) 0=(n:Int):=by
 unfold PF;rw[ve,Nat.mod_eq_of_lt (show n<2 ^ 12 from h)]
def Cc(h:n<4096)(h0:n≠0):PF n≠[]:=λz=>by
 have:=Bc h
 rw[z] at this;simp only[jq] at this
 lia
noncomputable def BD(n:Nat):List aA:=(PF n).map λ(k:Nat)=>num (k:Int)
noncomputable def cD(n:Nat):aA:=if n=0 then("-":aA) else YB (",":aA) (BD n)
def M0(h:k∈PF b):k<12:=by
 unfold PF at h;exact tN.mp (iP.mp h).1
def lu(b:Nat):(PF b).length<=12:=by
 unfold PF;exact uE (sR _ _) (by simp)
noncomputable def wd:D->aA
 |.int i=>num i
 |.str x=>x
 |_=>("":aA)
structure WO(w:aA):Prop where
 tg:TG 60 w
 MV:32 ∉ w.cps.toList
 LV:10 ∉ w.cps.toList
def TG.up(h:TG n w)(k:n<=m):TG m w:=⟨uE h.len k,h.asc⟩
def sJ(h1:-60<=i)(h2:i<=60):WO (num i):=have h:=eF h1 h2;⟨h.tg.up (by decide),h.MV,h.LV⟩
noncomputable def eB(ws:List aA):aA:=YB (" ":aA) ws
def F8{el:E}(sS:el=.bif .str [.v 1]){ds:List D}(hd:∀d∈ds,pD .str [d]=some (.s (wd d))) :
  ∃t,QD (fD T.bA (run T W n) []) (ev T.bA (run T W n) false el) (WA true [1]) ds [] [.un,.un]=some (.ok ((ds.map wd).map D.str),[.un,t]):=by
 obtain⟨U',e,t,rfl,ht⟩:=mI (P:=T.bA) (C:=run T W n) (LA:=ev T.bA (run T W n) false el) (bind:=WA true [1]) (xs:=ds) id (λd=>D.str (wd d)) (λU=>∃t,U=[.un,t]/\PB t=true)
  (λd hm U hU=>by
   obtain⟨t,rfl,ht⟩:=hU;have hs:=hd d hm;refine⟨[.un,.sh d],.s (wd d),[.un,.sh d],by simp only[CD,vC ht]<;>rfl, ?_,rfl,_,rfl,rfl⟩;rw[sS]
   right) (U:=[.un,.un]) ⟨_,rfl,rfl⟩
 refine⟨t, ?_⟩;rw[BR] at e;rw[e,oG];rfl
def gk(hw:∀w∈ws,WO w)(hl:ws.length<=20):TG 2000 (eB ws)/\10 ∉ (eB ws).cps.toList:=by
 refine⟨(VS IG (by decide) (λw h=>(hw w h).tg) (by lia) (by decide)).1,λz=>?_⟩;rcases FQ IG z with h | ⟨w,h1,h2⟩
 ·cases h
 ·exact(hw w h1).LV h2
def SQ(hs:s=.sh (.l ds)\/s=.sh (.t ds))(hd:∀d∈ds,pD .str [d]=some (.s (wd d)))(hw:∀w∈ds.map wd,WO w)(hl:ds.length<=20) :
  "show_row"|||n+1|||[s]|||.s (eB (ds.map wd)):=by
 rw[dC Ms rfl (by rcases hs with rfl | rfl<;>rfl)];unfold nW;obtain⟨t,e⟩:=F8 (W:=W) (n:=n) (el:=Md) rfl hd;have ho:=CQ IG (by decide) (B:=60) (N:=2000) (ws:=ds.map wd) (λw h=>(hw w h).tg) (by rw[JA];lia) (by decide);have aF:pB ((ds.map wd).map D.str).length=true:=eC (by simp;lia)
 have hi:aAa .of [.slot 0] [s]=some (ds,none):=by
  rcases hs with rfl | rfl
  ·exact qg rfl
  ·exact AQ rfl
 unfold eB;rcases hs with rfl | rfl
 ·right
  rw[jD hi]
  right
  exfalso
 ·right
  rw[jD hi]
  right
  exfalso
def EH{x y:aA}:(x++y).cps.toList=x.cps.toList++y.cps.toList:=by
 show(x.cps++y.cps).toList=_;simp
def zT(ws:List aA):(eB ws).cps.toList=jS 32 (ws.map λw=>w.cps.toList):=by
 unfold eB;rw[IG,show YB ⟨#[32]⟩ ws=xH ⟨#[32]⟩ ws from YO _ _,DQ]
noncomputable def vW(f:Int×Int×Bool):List aA:=("voice":aA)::num f.1::num f.2.1::(if f.2.2=true then [("turned":aA)] else [])
def Sh:(" turned":aA).cps.toList=32::("turned":aA).cps.toList:=by left
def Th:("voice ":aA).cps.toList=("voice":aA).cps.toList++[32]:=by left
def sGa:("notes ":aA).cps.toList=("notes":aA).cps.toList++[32]:=by left
def pGa:("bar ":aA).cps.toList=("bar":aA).cps.toList++[32]:=by left
def tGa:("octave ":aA).cps.toList=("octave":aA).cps.toList++[32]:=by left
def Rh:(" ":aA).cps.toList=[32]:=by left
theorem yX:("":aA).cps.toList=[]:=by left
def eXa:eB [a,b,c]++(" turned":aA)=eB [a,b,c,("turned":aA)]:=aAv (by
 rw[EH,zT,zT,Sh]
 simp[jS])
def Q8(h:p.cps.toList=q.cps.toList++[32]):p++a=eB [q,a]:=aAv (by
 rw[EH,zT,h]
 simp[jS])
def fXa(c:Bool):((((("voice ":aA)++a)++(" ":aA))++b)++(if c=true then(" turned":aA) else("":aA)))=eB (("voice":aA)::a::b::(if c=true then [("turned":aA)] else [])):=aAv (by
 cases c
 ·rw[BB,BB,EH,EH,EH,EH,zT,Th,Rh,yX];simp[jS]
 ·rw[uA rfl,uA rfl,EH,EH,EH,EH,zT,Th,Rh,Sh]
  simp[jS])
def sH(h:(decide (w.length<=60)&&eY w)=true):WO w:=by
 rw[qA,OE] at h;obtain⟨h1,h2,h3,_⟩:=zj h.2;exact⟨⟨h.1,h1⟩,h2,h3⟩
def f9:WO ("voice":aA):=sH (by left)
def gYa:WO ("turned":aA):=sH (by left)
def Mn:WO ("notes":aA)/\WO ("bar":aA)/\WO ("octave":aA):=⟨sH (by left),sH (by left),sH (by left)⟩
def lM(f:Int×Int×Bool):Prop:=0<=f.1/\f.1<=4/\-12<=f.2.1/\f.2.1<=12
def yn(h:lM f):(∀w∈vW f,WO w)/\(vW f).length<=20:=by
 obtain⟨a,b,c⟩:=f;obtain⟨h1,h2,h3,h4⟩:=h;have n1:=sJ (i:=a) (by simp at h1;lia) (by simp at h2;lia);have n2:=sJ (i:=b) (by simp at h3;lia) (by simp at h4;lia);unfold vW;cases c
 ·refine⟨?_,by simp⟩;dsimp only;rw[BB];exact fc f9 (fc n1 (fc n2 λ_ h=>nomatch h))
 ·refine⟨?_,by simp⟩;dsimp only;rw[uA rfl];exact fc f9 (fc n1 (fc n2 (fc gYa λ_ h=>nomatch h)))
def Az{W n:Nat}{f:Int×Int×Bool}(h:lM f):"show_follower"|||n+2|||[.sh (toD f)]|||.s (eB (vW f)):=by
 rw[dC Ks rfl rfl];unfold lW;obtain⟨a,b,c⟩:=f;obtain⟨h1,h2,h3,h4⟩:=h;have k1:=eF (i:=a) (by simp at h1;lia) (by simp at h2;lia);have k2:=eF (i:=b) (by simp at h3;lia) (by simp at h4;lia);have w1:=sJ (i:=a) (by simp at h1;lia) (by simp at h2;lia);have w2:=sJ (i:=b) (by simp at h3;lia) (by simp at h4;lia);have bX:∀w∈[D.str "voice",.int a,.int b].map wd,WO w:=fc f9 (fc w1 (fc w2 λ_ h=>nomatch h))
 have hr:=SQ (W:=W) (n:=n) (s:=.sh (.l [.str "voice",.int a,.int b])) (.inl rfl) (fc bK (fc k1.s (fc k2.s λ_ h=>nomatch h))) bX (by simp);have ht:=(gk bX (by simp)).1.len;replace hr:"show_row"|||n+1|||[.sh (.l [.str "voice",.int a,.int b])]|||.s (eB ["voice",num a,num b]):=hr;replace ht:(eB ["voice",num a,num b]).length<=2000:=ht;unfold toD vW;cases c
 ·dsimp only;rw[BB];clear h1 h2 h3 h4 k1 k2 w1 w2 bX ht
  generalize eB _=r at *
  right
 ·dsimp only;rw[uA rfl,<- eXa];have GB:((" turned":aA)).length=7:=by left
  have hb:=YJ (x:=eB ["voice",num a,num b]) (y:=" turned") (by lia);clear h1 h2 h3 h4 k1 k2 w1 w2 bX ht GB
  generalize eB _=r at *
  right
theorem YE:∀{j:Nat} {l:List S} {U:Env},GA P C W (l.take j) U=some (.nx,U')->GA P C W l U=GA P C W (l.drop j) U'
 | 0,l,U,h=>by
  rw[oZ,fS] at h;cases h;rfl
 |j+1,[],U,h=>by
  rw[FU,fS] at h;cases h;rfl
 |j+1,s::l,U,h=>by
  rw[C9,OH] at h;rw[OH,D9]
  generalize ex P C W s U=r at *
  obtain _ | ⟨fl,U1⟩:=r
  ·cases h
  ·cases fl with
   |nx=>exact YE h
   |_=>cases h
def YQ(h0:n≠0):cD n=YB (",":aA) (BD n):=by unfold cD;rw[qB h0]
def OP(h:w∈BD n):∃k:Nat,k<12/\w=num (k:Int):=by
 unfold BD at h;obtain⟨k,hk,rfl⟩:=OC.mp h;exact⟨k,M0 hk,rfl⟩
def K0:∀w∈BD n,TG 3 w:=λw h=>by
 obtain⟨k,hk,rfl⟩:=OP h;exact(eF (by lia) (by lia)).tg
def XR(n:Nat):(BD n).length<=12:=by unfold BD;rw[JA];exact lu n
def hVa(n:Nat):WO (cD n):=by
 by_cases h0:n=0
 ·subst h0;exact sH (w:=cD 0) (by left)
 ·rw[YQ h0];have hl:=XR n;refine⟨(VS IH (by decide) K0 (by lia) (by decide)).1.up (HB 60),λz=>?_,λz=>?_⟩
  ·rcases FQ IH z with h | ⟨w,h1,h2⟩
   ·cases h
   ·obtain⟨k,hk,rfl⟩:=OP h1;exact(eF (i:=(k:Int)) (by lia) (by lia)).MV h2
  ·rcases FQ IH z with h | ⟨w,h1,h2⟩
   ·cases h
   ·obtain⟨k,hk,rfl⟩:=OP h1;exact(eF (i:=(k:Int)) (by lia) (by lia)).LV h2
def kVa{W m n:Nat}(hn:n<4096):"show_spans"|||m+1|||[.i (n:Int)]|||.s (cD n):=by
 rw[dC Qs rfl rfl];unfold oW;by_cases h0:n=0
 ·subst h0;have e:decide (((0:Nat):Int)=0)=true:=rfl;have e2:cD 0=("-":aA):=rfl;rw[e2]
  right
 ·have e:decide ((n:Int)=0)=false:=zB (by lia)
  obtain⟨U',ec,t,rfl,ht⟩:=SN (tests:=fD T.bA (run T W m) [(.IA .Eq (.BA .BitAnd (.BA .RShift (.v 0) (.v 2)) (.c (.int 1))) (.c (.int 1)))]) (LA:=ev T.bA (run T W m) false B2) (bind:=WA true [2]) (xs:=jC (n.log2+1))
   (λ(k:Nat)=>D.int (k:Int)) (OF n) (λ(k:Nat)=>D.str (num (k:Int))) (λU=>∃t,U=[.i (n:Int),.un,t]/\PB t=true)
   (λk hk U hU=>by
    obtain⟨t,rfl,ht⟩:=hU;have hk:k<n.log2+1:=tN.mp hk;have hb:=aAK hn;have h1:(0:Int)<=(k:Int):=by lia
    have h2:=hXa n k;have h3:((k:Int)).toNat=k:=BG k;have hs:=(eF (i:=(k:Int)) (by lia) (by lia)).s;refine⟨[.i (n:Int),.un,.i (k:Int)],[.i (n:Int),.un,.i (k:Int)],by simp only[CD,vC ht]<;>rfl, ?_,λ_=>⟨.s (num (k:Int)),[.i (n:Int),.un,.i (k:Int)], ?_,rfl,_,rfl,rfl⟩,λ_=>⟨_,rfl,rfl⟩⟩
    ·generalize OF n k=b at *
     cases b<;>right
    ·unfold B2;clear hk hb e h0 hn ht h2 h3 h1
     right) (U:=[.i (n:Int),.un,.un]) ⟨_,rfl,rfl⟩
  have Ze:=uu hn;rw[Ze] at ec;have MW:(PF n).map (λ(k:Nat)=>D.str (num (k:Int)))=(BD n).map D.str:=by unfold BD;rw[oG];rfl
  rw[MW] at ec;have j4:=aAK hn;have hi:∀U,aAa .yD [.val (.i ((n.log2+1:Nat):Int))] U=some ((jC (n.log2+1)).map λ(j:Nat)=>.int (j:Int),none):=λU=>Q5 (by lia)
  have uI:J0 (some (.int (n:Int)))=some (.i ((n.log2+1:Nat):Int)):=by(show some (RV.sh (.int ((xP (n:Int):Nat):Int)))=_;rw[qu h0])
  have ho:=CQ IH (by decide) (B:=3) (N:=60) (ws:=BD n) K0 (by have:=XR n;lia) (by decide);have aF:pB ((BD n).map D.str).length=true:=eC (by rw[JA];have:=XR n;lia);rw[YQ h0];clear hn h0 Ze MW j4 ht
  right
  rw[jD (hi _)]
  right
  exfalso
noncomputable def jA(ws:List aA):D:=.l (ws.map D.str)
noncomputable def i8:List D->List aA
 |[.int a,.int b]=>[num a,cD b.toNat]
 |_=>[]
noncomputable def rW:D->List aA
 |.t (.str x::ps)=>x::(if(x==("span":aA))=true then i8 ps else ps.map wd)
 |_=>[]
structure RT(d:D):Prop where
 sh:∀W n,"show_rule"|||n+2|||[.sh d]|||.s (eB (rW d))
 tx:∀W n,"L_rule_text"|||n+1|||[.sh d]|||.s (eB (rW d))
 wo:∀w∈rW d,WO w
 ln:(rW d).length<=20
 nv:∃x r,rW d=x::r/\(x==("voice":aA))=false
def xk{x:aA}{ps:List D}(hx:(x==("span":aA))=false)(hd:∀d∈D.str x::ps,pD .str [d]=some (.s (wd d)))(hw:∀w∈x::ps.map wd,WO w)(hl:ps.length<=10) :
  rW (.t (.str x::ps))=x::ps.map wd/\(∀W n,"show_rule"|||n+2|||[.sh (.t (.str x::ps))]|||.s (eB (x::ps.map wd))) /\
  ∀W n,"L_rule_text"|||n+1|||[.sh (.t (.str x::ps))]|||.s (eB (x::ps.map wd)):=by
 have oE:((D.str x::ps).map wd)=x::ps.map wd:=rfl;refine⟨?_,λW n=>?_,λW n=>?_⟩
 ·show x::(if(x==("span":aA))=true then i8 ps else ps.map wd)=_;rw[hx,BB]
 ·rw[dC Sb rfl rfl];unfold nS;have hr:=SQ (W:=W) (n:=n) (s:=.sh (.t (.str x::ps))) (.inr rfl) hd hw (by simp;lia);rw[oE] at hr
  generalize eB _=t at *
  clear hd hw hl oE
  right
 ·rw[dC Ob rfl rfl];unfold IM;obtain⟨t,e⟩:=F8 (W:=W) (n:=n) (el:=CV) rfl hd;have ho:=CQ IG (by decide) (B:=60) (N:=2000) (ws:=(D.str x::ps).map wd) (λw h=>(hw w h).tg) (by rw[JA,IC];lia) (by decide);have aF:pB (((D.str x::ps).map wd).map D.str).length=true:=eC (by simp;lia);have hi:aAa .of [.slot 0] [.sh (.t (.str x::ps)),.un]=some (.str x::ps,none):=AQ rfl;rw[<- oE];unfold eB
  generalize ((D.str x::ps).map wd).map D.str=L at *
  generalize YB _ ((D.str x::ps).map wd)=tx at *
  clear hd hw hl oE
  right
  rw[jD hi]
  right
  exfalso
def DT{is:List Int}(hx:(x==("span":aA))=false)(hz:(x==("voice":aA))=false)(hwx:WO x)(hi:∀i∈is,-60<=i/\i<=60)(hl:is.length<=10):RT (.t (.str x::is.map D.int)):=by
 have uf:(is.map D.int).map wd=is.map num:=by rw[oG];rfl
 have hw:∀w∈x::(is.map D.int).map wd,WO w:=fc hwx (by
  rw[uf];intro w hw;obtain⟨i,h,rfl⟩:=OC.mp hw
  exact sJ (hi i h).1 (hi i h).2)
 obtain⟨h1,h2,h3⟩:=xk (ps:=is.map D.int) hx (fc bK λd hd=>by
  obtain⟨i,h,rfl⟩:=OC.mp hd
  exact(eF (hi i h).1 (hi i h).2).s) hw (by simpa using hl)
 rw[uf] at h1 h2 h3 hw;exact⟨λW n=>by rw[h1];exact h2 W n,λW n=>by rw[h1];exact h3 W n,by rw[h1];exact hw,by rw[h1];simp;lia,⟨_,_,h1,hz⟩⟩
def kTa(ha:-60<=a/\a<=60)(hb:-60<=b/\b<=60)(hx:WO x):RT (.t [.str "never",.int a,.int b,.str x]):=by
 have k1:=eF ha.1 ha.2;have k2:=eF hb.1 hb.2;have w1:=sJ ha.1 ha.2;have w2:=sJ hb.1 hb.2;have n1:(("never":aA)==("span":aA))=false:=by left
 have hw:∀w∈("never":aA)::[D.int a,.int b,.str x].map wd,WO w:=fc (sH (by left)) (fc w1 (fc w2 (fc hx λ_ h=>nomatch h)))
 obtain⟨h1,h2,h3⟩:=xk (x:=("never":aA)) (ps:=[.int a,.int b,.str x]) n1 (fc bK (fc k1.s (fc k2.s (fc bK λ_ h=>nomatch h)))) hw (by simp);exact⟨λW n=>by rw[h1];exact h2 W n,λW n=>by rw[h1];exact h3 W n,by rw[h1];exact hw,by rw[h1];simp,⟨_,_,h1,by left⟩⟩
def Jw:YB (",":aA) []=("":aA):=by left
def xJa{k:Nat}(h:k<12):(num (k:Int)).cps.toList≠[]:=by
 have:∀k<12,(num ((k:Nat):Int)).cps.toList.isEmpty=false:=by left
 intro z
 have:=this k h
 rw[z] at this;cases this
def pDa(hn:n<4096)(h0:n≠0):(YB (",":aA) (BD n)==("":aA))=false:=by
 rw[NK];intro z;have e:=congrArg (λx:aA=>x.cps.toList) z;simp only[yX] at e;rw[IH,show YB ⟨#[44]⟩ (BD n)=xH ⟨#[44]⟩ (BD n) from YO _ _,DQ] at e
 cases hb:BD n with
 |nil=>exact Cc hn h0 (bP.mp hb)
 |cons w r =>
  obtain⟨k,hk,rfl⟩:=OP (by rw[hb];exact kG);rw[hb] at e
  cases r with
  |nil=>exact xJa hk e
  |cons v r =>
   have e:(num (k:Int)).cps.toList++44::jS 44 ((v::r).map λw=>w.cps.toList)=[]:=e;simp at e
def uGa{W m n:Nat}(hn:n<4096):∃t,QD (fD T.bA (run T W m) [(.IA .Eq (.BA .Mod (.BA .FloorDiv (.ix (.v 0) (.c (.int 2))) (.BA .LShift (.c (.int 1)) (.v 2))) (.c (.int 2))) (.c (.int 1)))]) (ev T.bA (run T W m) false DV) (WA true [2]) ((jC 12).map λ(j:Nat)=>.int (j:Int)) [] [.sh (.t [.str "span",.int a,.int (n:Int)]),.un,.un]=some (.ok ((BD n).map D.str),[.sh (.t [.str "span",.int a,.int (n:Int)]),.un,t]):=by
 obtain⟨U',ec,t,rfl,ht⟩:=SN (tests:=fD T.bA (run T W m) [(.IA .Eq (.BA .Mod (.BA .FloorDiv (.ix (.v 0) (.c (.int 2))) (.BA .LShift (.c (.int 1)) (.v 2))) (.c (.int 2))) (.c (.int 1)))]) (LA:=ev T.bA (run T W m) false DV) (bind:=WA true [2]) (xs:=jC 12)
   (λ(k:Nat)=>D.int (k:Int)) (OF n) (λ(k:Nat)=>D.str (num (k:Int))) (λU=>∃t,U=[.sh (.t [.str "span",.int a,.int (n:Int)]),.un,t]/\PB t=true)
   (λk hk U hU=>by
    obtain⟨t,rfl,ht⟩:=hU;have hk:k<12:=tN.mp hk;have h1:(0:Int)<=(k:Int):=by lia
    have tI:(k:Int)<=1000:=by lia
    have h2:=Qm n k;have h3:((k:Int)).toNat=k:=BG k;obtain⟨h4,h5⟩:=pw (j:=(k:Int)) h1 (by lia);rw[h3] at h4 h5;have hs:=(eF (i:=(k:Int)) (by lia) (by lia)).s;refine⟨[.sh (.t [.str "span",.int a,.int (n:Int)]),.un,.i (k:Int)],[.sh (.t [.str "span",.int a,.int (n:Int)]),.un,.i (k:Int)],by simp only[CD,vC ht]<;>rfl, ?_,λ_=>⟨.s (num (k:Int)),[.sh (.t [.str "span",.int a,.int (n:Int)]),.un,.i (k:Int)], ?_,rfl,_,rfl,rfl⟩,λ_=>⟨_,rfl,rfl⟩⟩
    ·generalize OF n k=b at *
     cases b<;>right
    ·unfold DV
     right) (U:=[.sh (.t [.str "span",.int a,.int (n:Int)]),.un,.un]) ⟨_,rfl,rfl⟩
 refine⟨t, ?_⟩;rw[ec];unfold BD PF;rw[oG];rfl
def Ck:IT i v U (some (.ow (.l (a::b::c::ds)) p false)) (.int 2)=some (.nx,U.set i (.ow (.l (a::b::v::ds)) p false)):=by
 refine Bk (m:=2) ?_;show L2.iD (ds.length+3) 2=some 2;unfold L2.iD;simp
 lia
def lTa{n:Nat}(ha:-60<=a/\a<=60)(hn:n<4096):RT (.t [.str "span",.int a,.int (n:Int)]):=by
 have k1:=eF ha.1 ha.2;have w1:=sJ ha.1 ha.2;have n1:(("span":aA)==("span":aA))=true:=QE _
 have h1:rW (.t [.str "span",.int a,.int (n:Int)])=[("span":aA),num a,cD n]:=by(show("span":aA)::(if(("span":aA)==("span":aA))=true then [num a,cD ((n:Int)).toNat] else _)=_;rw[n1,uA rfl,BG])
 have hw:∀w∈[("span":aA),num a,cD n],WO w:=fc (sH (by left)) (fc w1 (fc (hVa n) λ_ h=>nomatch h))
 rw[show(["span",num a,cD n]:List aA)=[D.str "span",.int a,.str (cD n)].map wd from rfl] at hw;refine⟨λW m=>?_,λW m=>?_,by rw[h1];exact hw,by rw[h1];simp,⟨_,_,h1,by left⟩⟩
 ·rw[h1,dC Sb rfl rfl];unfold nS;have hr:=SQ (W:=W) (n:=m) (s:=.sh (.l [.str "span",.int a,.str (cD n)])) (.inl rfl) (fc bK (fc k1.s (fc bK λ_ h=>nomatch h))) hw (by simp);replace hr:"show_row"|||m+1|||[.sh (.l [.str "span",.int a,.str (cD n)])]|||.s (eB [("span":aA),num a,cD n]):=hr;have hs:=kVa (W:=W) (m:=m) hn
  generalize eB _=t at *
  generalize cD n=p at *
  right
 ·rw[h1,dC Ob rfl rfl];obtain⟨t,e⟩:=F8 (W:=W) (n:=m) (el:=CV) (ds:=[.str "span",.int a,.int (n:Int)]) rfl (fc bK (fc k1.s (fc (vVa (by lia) (by lia)) λ_ h=>nomatch h)));replace e:QD (fD T.bA (run T W m) []) (ev T.bA (run T W m) false CV) (WA true [1]) [.str "span",.int a,.int (n:Int)] [] [.un,.un]=some (.ok [.str "span",.str (num a),.str (num (n:Int))],[.un,t]):=e;have hi:aAa .of [.slot 0] [.sh (.t [.str "span",.int a,.int (n:Int)]),.un]=some ([.str "span",.int a,.int (n:Int)],none):=AQ rfl
  have hA:GA T.bA (run T W m) W (IM.body.take 1) ([.sh (.t [.str "span",.int a,.int (n:Int)])]++wC IM.nl .un)=some (.nx,[.sh (.t [.str "span",.int a,.int (n:Int)]),.o (.l [.str "span",.str (num a),.str (num (n:Int))])]):=by
   unfold IM
   right
   rw[jD hi]
   right
   exfalso
  rw[YE hA];obtain⟨t2,e2⟩:=uGa (W:=W) (m:=m) (n:=n) (a:=a) hn;have mK:aAa .yD [.val (.i 12)] [.sh (.t [.str "span",.int a,.int (n:Int)]),.o (.l [.str "span",.str (num a),.str (num (n:Int))])]=some ((jC 12).map λ(j:Nat)=>.int (j:Int),none):=Q5 (k:=12) (by decide);have ho:=CQ IH (by decide) (B:=3) (N:=60) (ws:=BD n) K0 (by have:=XR n;lia) (by decide);have aF:pB ((BD n).map D.str).length=true:=eC (by rw[JA];have:=XR n;lia);have UW:=CQ IG (by decide) (B:=60) (N:=2000) (ws:=[("span":aA),num a,cD n]) (λw h=>(hw w h).tg) (by simp) (by decide);have i2:∀{x y z:D},NC (some (.l [x,y,z])) (.int 2)=some (.sh z):=λ{_ _ _}=>rfl
  unfold IM eB;by_cases h0:n=0
  ·subst h0;have e3:BD 0=[]:=by left
   rw[e3] at ho e2 aF;rw[Jw] at ho;have e4:cD 0=("-":aA):=rfl;rw[e4] at UW ⊢;have e5:(("":aA)==("":aA))=true:=QE _;have e6:([]:List aA).map D.str=[]:=rfl;have e7:[("span":aA),num a,("-":aA)].map D.str=[.str "span",.str (num a),.str ("-":aA)]:=rfl;rw[e6] at e2 ho aF;rw[e7] at UW
   generalize YB _ [("span":aA),num a,("-":aA)]=tx at *
   have UH:=@Ck
   right
   rw[jD mK]
   right
   exfalso
  ·have e3:=pDa hn h0;have e4:=YQ h0;rw[e4] at UW ⊢;have e7:[("span":aA),num a,YB (",":aA) (BD n)].map D.str=[.str "span",.str (num a),.str (YB (",":aA) (BD n))]:=rfl;rw[e7] at UW;have UH:=@Ck
   right
   rw[jD mK]
   right
   exfalso
def W7(o2:oc<=12)(b2:ba<=4)(m2:ma<=3)(h:UE no ba oc ma d):RT d:=by
 cases h with
 |span a b h1 h2 h3 h4 =>
  obtain⟨n,rfl⟩:∃n:Nat,b=(n:Int):=⟨b.toNat,by lia⟩
  have hp:(2:Int) ^ oc.toNat<=4096:=by
   have h:oc.toNat<=12:=by lia
   have h3:2 ^ oc.toNat<=2 ^ 12:=LJ (by decide) h
   exact_mod_cast h3
  exact lTa ⟨by lia,by lia⟩ (by lia)
 |leap a h1 h2=>exact DT (x:=("leap":aA)) (is:=[a]) (by left) (by left) (sH (by left)) (fc ⟨by lia,by lia⟩ λ_ h=>nomatch h) (by simp)
 |back a b h1 h2 h3 h4=>exact DT (x:=("back":aA)) (is:=[a,b]) (by left) (by left) (sH (by left)) (fc ⟨by lia,by lia⟩ (fc ⟨by lia,by lia⟩ λ_ h=>nomatch h)) (by simp)
 |again a h1 h2=>exact DT (x:=("again":aA)) (is:=[a]) (by left) (by left) (sH (by left)) (fc ⟨by lia,by lia⟩ λ_ h=>nomatch h) (by simp)
 |range a b h1 h2 h3=>exact DT (x:=("range":aA)) (is:=[a,b]) (by left) (by left) (sH (by left)) (fc ⟨by lia,by lia⟩ (fc ⟨by lia,by lia⟩ λ_ h=>nomatch h)) (by simp)
 |above v w h1 h2 h3=>exact DT (x:=("above":aA)) (is:=[(v:Int),(w:Int)]) (by left) (by left) (sH (by left)) (fc ⟨by lia,by lia⟩ (fc ⟨by lia,by lia⟩ λ_ h=>nomatch h)) (by simp)
 |never a b x h1 h2 h3 h4 h5 =>
  refine kTa ⟨by lia,by lia⟩ ⟨by lia,by lia⟩ ?_;rcases h5 with rfl | rfl | rfl | rfl<;>exact sH (by left)
noncomputable def aO(no ba oc:Int):List (List aA):=[[("notes":aA),num no],[("bar":aA),num ba],[("octave":aA),num oc]]
abbrev FD:=(Int×Int×Bool) ⊕ D
noncomputable def dU:FD->List aA
 |.inl f=>vW f
 |.inr d=>rW d
noncomputable def kS(fs:List (Int×Int×Bool))(rs:List D):List FD:=fs.map .inl++rs.map .inr
noncomputable def hW(no ba oc:Int)(fs:List (Int×Int×Bool))(rs:List D):List (List aA):=aO no ba oc++(kS fs rs).map dU
noncomputable def AG(no ba oc:Int)(fs:List (Int×Int×Bool))(rs:List D):aA:=YB ("\n":aA) ((hW no ba oc fs rs).map eB)
structure HX(no ba oc:Int)(fs:List (Int×Int×Bool))(rs:List D):Prop where
 ho:yb no ba oc fs
 rr:hTa no ba oc fs.length rs
def HX.r(h:HX no ba oc fs rs):∀d∈rs,RT d:=λd hd=>W7 h.ho.o2 h.ho.b2 (by have:=h.ho.l2;lia) (h.rr.2 d hd)
theorem HX.hd(h:HX no ba oc fs rs):FN no/\FN ba/\FN oc/\WO (num no)/\WO (num ba)/\WO (num oc):=by
 obtain⟨n1,n2,b1,b2,o1,o2,_⟩:=h.ho;exact⟨eF (by lia) (by lia),eF (by lia) (by lia),eF (by lia) (by lia),sJ (by lia) (by lia),sJ (by lia) (by lia),sJ (by lia) (by lia)⟩
theorem HX.wo(h:HX no ba oc fs rs):∀ws∈hW no ba oc fs rs,(∀w∈ws,WO w)/\ws.length<=20/\ws≠[]:=by
 obtain⟨_,_,_,w1,w2,w3⟩:=h.hd;obtain⟨l1,l2,l3⟩:=Mn;intro ws hm;rcases CG.mp hm with hm | hm
 ·unfold aO at hm;simp only[AD,List.not_mem_nil,or_false] at hm;rcases hm with rfl | rfl | rfl
  ·exact⟨fc l1 (fc w1 λ_ h=>nomatch h),by simp,by simp⟩
  ·exact⟨fc l2 (fc w2 λ_ h=>nomatch h),by simp,by simp⟩
  ·exact⟨fc l3 (fc w3 λ_ h=>nomatch h),by simp,by simp⟩
 ·obtain⟨x,hx,rfl⟩:=OC.mp hm;rcases CG.mp hx with hx | hx
  ·obtain⟨f,hf,rfl⟩:=OC.mp hx;exact⟨(yn (h.ho.f f hf)).1,(yn (h.ho.f f hf)).2,by unfold dU vW;simp⟩
  ·obtain⟨d,hd,rfl⟩:=OC.mp hx;obtain⟨x,r,e,_⟩:=(h.r d hd).nv;exact⟨(h.r d hd).wo,(h.r d hd).ln,by show rW d≠[];rw[e];simp⟩
def HX.row(h:HX no ba oc fs rs):∀w∈(hW no ba oc fs rs).map eB,TG 2000 w/\10 ∉ w.cps.toList:=λw hw=>by
 obtain⟨ws,hm,rfl⟩:=OC.mp hw;exact gk (h.wo ws hm).1 (h.wo ws hm).2.1
def HX.len(h:HX no ba oc fs rs):(hW no ba oc fs rs).length=3+(fs.length+rs.length)/\fs.length<=3/\rs.length<=8:=by
 refine⟨?_,h.ho.l2,h.rr.1⟩;unfold hW aO kS;simp
 lia
def HX.bF(h:HX no ba oc fs rs):WM ("\n":aA) (some (.l (((hW no ba oc fs rs).map eB).map D.str)))=some (.s (AG no ba oc fs rs))/\nC (AG no ba oc fs rs)=true:=by
 obtain⟨l1,l2,l3⟩:=h.len;refine⟨CQ rJ (by decide) (B:=2000) (N:=100000) (λw hw=>(h.row w hw).1) (by rw[JA,l1];lia) (by decide), ?_⟩;exact kH (VS rJ (by decide) (B:=2000) (N:=100000) (λw hw=>(h.row w hw).1) (by rw[JA,l1];lia) (by decide)).1.asc
def OW{rs:List D}(h:HX no ba oc fs rs) :
  "show_house"|||n+3|||[.sh (RD no ba oc fs rs)]|||.s (AG no ba oc fs rs):=by
 rw[dC Ls rfl rfl];unfold mW;obtain⟨k1,k2,k3,w1,w2,w3⟩:=h.hd;obtain⟨v1,v2,v3⟩:=Mn;obtain⟨l1,l2,l3⟩:=h.len;have r1:=SQ (W:=W) (n:=n+1) (s:=.sh (.l [.str "notes",.int no])) (.inl rfl) (fc bK (fc k1.s λ_ h=>nomatch h)) (fc v1 (fc w1 λ_ h=>nomatch h)) (by simp);have r2:=SQ (W:=W) (n:=n+1) (s:=.sh (.l [.str "bar",.int ba])) (.inl rfl) (fc bK (fc k2.s λ_ h=>nomatch h)) (fc v2 (fc w2 λ_ h=>nomatch h)) (by simp);have r3:=SQ (W:=W) (n:=n+1) (s:=.sh (.l [.str "octave",.int oc])) (.inl rfl) (fc bK (fc k3.s λ_ h=>nomatch h)) (fc v3 (fc w3 λ_ h=>nomatch h)) (by simp)
 obtain⟨U1,e1,t1,rfl,zI⟩:=mI (P:=T.bA) (C:=run T W (n+2)) (LA:=ev T.bA (run T W (n+2)) false Z1) (bind:=WA true [1]) (xs:=fs) toD (λf=>D.str (eB (vW f))) (λU=>∃t,U=[.un,t]/\PB t=true)
  (λf hf U hU=>by
   obtain⟨t,rfl,ht⟩:=hU;have hr:=Az (W:=W) (n:=n) (h.ho.f f hf);refine⟨[.un,.sh (toD f)],.s (eB (vW f)),[.un,.sh (toD f)],by simp only[CD,vC ht]<;>rfl, ?_,rfl,_,rfl,rfl⟩;unfold Z1
   generalize eB _=p at *
   generalize toD f=q at *
   right) (U:=[.un,.un]) ⟨_,rfl,rfl⟩
 obtain⟨U2,e2,t2,rfl,AL⟩:=mI (P:=T.bA) (C:=run T W (n+2)) (LA:=ev T.bA (run T W (n+2)) false A2) (bind:=WA true [1]) (xs:=rs) id (λd=>D.str (eB (rW d))) (λU=>∃t,U=[.un,t]/\PB t=true)
  (λd hd U hU=>by
   obtain⟨t,rfl,ht⟩:=hU;have hr:=(h.r d hd).sh W n;refine⟨[.un,.sh d],.s (eB (rW d)),[.un,.sh d],by simp only[CD,vC ht]<;>rfl, ?_,rfl,_,rfl,rfl⟩;unfold A2
   generalize eB _=p at *
   right) (U:=[.un,.un]) ⟨_,rfl,rfl⟩
 rw[BR] at e2;have V3:=h.bF.1
 have nE:((hW no ba oc fs rs).map eB).map D.str=D.str (eB [("notes":aA),num no])::.str (eB [("bar":aA),num ba])::.str (eB [("octave":aA),num oc])::(fs.map (λf=>D.str (eB (vW f)))++rs.map (λd=>D.str (eB (rW d)))):=by(unfold hW aO kS;simp[dU,tU])
 rw[nE] at V3;have i3:∀U,aAa .of [.val (.sh (.t (fs.map toD)))] U=some (fs.map toD,none):=λU=>S5 rfl
 have i4:∀U,aAa .of [.val (.sh (.t rs))] U=some (rs,none):=λU=>S5 rfl
 have x0:NC (some (RD no ba oc fs rs)) (.int 0)=some (.i no):=rfl;have x1:NC (some (RD no ba oc fs rs)) (.int 1)=some (.i ba):=rfl;have x2:NC (some (RD no ba oc fs rs)) (.int 2)=some (.i oc):=rfl;have x3:NC (some (RD no ba oc fs rs)) (.int 3)=some (.sh (.t (fs.map toD))):=rfl;have x4:NC (some (RD no ba oc fs rs)) (.int 4)=some (.sh (.t rs)):=rfl;have m1:pB (fs.map (λf=>D.str (eB (vW f)))).length=true:=eC (by rw[JA];lia);have m2:pB (rs.map (λd=>D.str (eB (rW d)))).length=true:=eC (by rw[JA];lia);replace r1:"show_row"|||n+1+1|||[.sh (.l [.str "notes",.int no])]|||.s (eB [("notes":aA),num no]):=r1;replace r2:"show_row"|||n+1+1|||[.sh (.l [.str "bar",.int ba])]|||.s (eB [("bar":aA),num ba]):=r2;replace r3:"show_row"|||n+1+1|||[.sh (.l [.str "octave",.int oc])]|||.s (eB [("octave":aA),num oc]):=r3
 generalize hF:fs.map (λf=>D.str (eB (vW f)))=F at *
 generalize hR:rs.map (λd=>D.str (eB (rW d)))=R at *
 have lF:F.length<=3:=by rw[<- hF,JA];exact l2
 have lR:R.length<=8:=by rw[<- hR,JA];exact l3
 generalize eB [("notes":aA),num no]=q1 at *
 generalize eB [("bar":aA),num ba]=q2 at *
 generalize eB [("octave":aA),num oc]=q3 at *
 have m3:pB (3+F.length)=true:=eC (by lia);have m4:pB (([D.str q1,.str q2,.str q3]++F).length+R.length)=true:=eC (by simp;lia);have m5:pB (3+F.length+R.length)=true:=eC (by lia);have m6:pB (F.length+3+R.length)=true:=eC (by lia)
 right
 rw[jD (i3 _)]
 right
 exfalso
 all_goals (try (rw[jD (i4 _)];right))
 exfalso
noncomputable def HQ:D->D
 |.t [.int a,.int b,.bl c]=>.str (eB (vW (a,b,c)))
 |_=>.oA
def Ot:L2.oC [a,b] (if c=true then 1 else 0)=some (if c=true then b else a):=by cases c<;>rfl
def hBa:(if c=true then D.str x else D.str y)=.str (if c=true then x else y):=by cases c<;>rfl
def lT(h:FN i):(num i).length<=3:=h.tg.len
def aAD{x y:aA}:(x++y).length=x.length+y.length:=by
 show(x.cps++y.cps).size=_;simp;rfl
def jHa:("voice ":aA).length=6/\(" ":aA).length=1/\(" turned":aA).length=7/\("":aA).length=0/\("notes ":aA).length=6/\("bar ":aA).length=4/\("octave ":aA).length=7:=by left
def iXa(h:HX no ba oc fs rs) :
  "L_text"|||n+2|||[.sh (RD no ba oc fs rs)]|||.s (AG no ba oc fs rs):=by
 rw[dC Xr rfl rfl];obtain⟨k1,k2,k3,w1,w2,w3⟩:=h.hd;obtain⟨l1,l2,l3⟩:=h.len;obtain⟨z1,z2,z3,z4,z5,z6,z7⟩:=jHa
 have hA:GA T.bA (run T W (n+1)) W (UN.body.take 2) ([.sh (RD no ba oc fs rs)]++wC UN.nl .un)=some (.nx,[.sh (RD no ba oc fs rs),.i no,.i ba,.i oc,.sh (.t (fs.map toD)),.sh (.t rs),.o (.l [.str (eB [("notes":aA),num no]),.str (eB [("bar":aA),num ba]),.str (eB [("octave":aA),num oc])]),.un,.un,.un]):=by
  unfold UN RD;have s1:=k1.s;have s2:=k2.s;have s3:=k3.s;have b1:=YJ (x:=("notes ":aA)) (y:=num no) (by have:=lT k1;lia);have b2:=YJ (x:=("bar ":aA)) (y:=num ba) (by have:=lT k2;lia);have b3:=YJ (x:=("octave ":aA)) (y:=num oc) (by have:=lT k3;lia);rw[Q8 sGa] at b1;rw[Q8 pGa] at b2;rw[Q8 tGa] at b3
  generalize eB [("notes":aA),num no]=q1 at *
  right
 rw[YE hA]
 generalize hq1:D.str (eB [("notes":aA),num no])=q1 at *
 generalize S4:D.str (eB [("bar":aA),num ba])=q2 at *
 generalize hq3:D.str (eB [("octave":aA),num oc])=q3 at *
 obtain⟨U1,el,t7,t8,t9,rfl,ht7,ht8,ht9⟩:=T6 (bind:=WA false [7,8,9]) (body:=GA T.bA (run T W (n+1)) W z0)
  (λpre U=>∃t7 t8 t9,U=[.sh (RD no ba oc fs rs),.i no,.i ba,.i oc,.sh (.t (fs.map toD)),.sh (.t rs),.o (.l (q1::q2::q3::pre.map HQ)),t7,t8,t9]/\PB t7=true/\PB t8=true/\PB t9=true)
  (ds:=fs.map toD) (λpre d post gD U hU=>by
   obtain⟨t7,t8,t9,rfl,h7,h8,h9⟩:=hU
   have BF:pre.length<=3:=by
    have:=congrArg AR gD
    simp at this
    lia
   obtain⟨f,hf,rfl⟩:∃f∈fs,toD f=d:=OC.mp (by rw[gD];simp)
   obtain⟨a,b,c⟩:=f;obtain⟨f1,f2,f3,f4⟩:=h.ho.f _ hf;have j1:=eF (i:=a) (by simp at f1;lia) (by simp at f2;lia);have j2:=eF (i:=b) (by simp at f3;lia) (by simp at f4;lia);have s1:=j1.s;have s2:=j2.s;have g1:=lT j1;have g2:=lT j2;refine⟨[.sh (RD no ba oc fs rs),.i no,.i ba,.i oc,.sh (.t (fs.map toD)),.sh (.t rs),.o (.l (q1::q2::q3::pre.map HQ)),.i a,.i b,.b c],by unfold toD;simp only[CD,vC h7,vC h8,vC h9]<;>rfl, ?_⟩;have b1:=YJ (x:=("voice ":aA)) (y:=num a) (by lia);have e1:(("voice ":aA)++num a).length<=9:=by rw[aAD];lia
   have b2:=YJ (x:=("voice ":aA)++num a) (y:=(" ":aA)) (by lia);have e2:((("voice ":aA)++num a)++(" ":aA)).length<=10:=by rw[aAD];lia
   have b3:=YJ (x:=(("voice ":aA)++num a)++(" ":aA)) (y:=num b) (by lia);have e3:(((("voice ":aA)++num a)++(" ":aA))++num b).length<=13:=by rw[aAD];lia
   have e4:(if c=true then(" turned":aA) else("":aA)).length<=7:=by cases c<;>simp<;>lia
   have b4:=YJ (x:=((("voice ":aA)++num a)++(" ":aA))++num b) (y:=if c=true then(" turned":aA) else("":aA)) (by lia);rw[fXa] at b4;have wL:HQ (toD (a,b,c))=.str (eB (vW (a,b,c))):=rfl;have hvw:eB (("voice":aA)::num a::num b::(if c=true then [("turned":aA)] else []))=eB (vW (a,b,c)):=rfl;rw[hvw] at b4;rw[jP,eD,vN,wL];have iQ:=Ot (a:=D.str "") (b:=D.str " turned") (c:=c);rw[hBa] at iQ;have aF:pB ((q1::q2::q3::pre.map HQ).length+1)=true:=eC (by simp;lia);have Ff:pB ((pre.map HQ).length+4)=true:=eC (by simp;lia)
   generalize (if c=true then(" turned":aA) else("":aA))=tu at *
   unfold z0
   right
   exact⟨_,rfl,_,_,_,rfl,rfl,rfl,rfl⟩)
  (U:=[.sh (RD no ba oc fs rs),.i no,.i ba,.i oc,.sh (.t (fs.map toD)),.sh (.t rs),.o (.l [q1,q2,q3]),.un,.un,.un]) ⟨_,_,_,rfl,rfl,rfl,rfl⟩
 have MW:(fs.map toD).map HQ=fs.map λf=>D.str (eB (vW f)):=by rw[oG];rfl
 rw[MW] at el
 obtain⟨U2,e2,t2,rfl,AL⟩:=mI (P:=T.bA) (C:=run T W (n+1)) (LA:=ev T.bA (run T W (n+1)) false P1) (bind:=WA true [1]) (xs:=rs) id (λd=>D.str (eB (rW d))) (λU=>∃t,U=[.un,t]/\PB t=true)
  (λd hd U hU=>by
   obtain⟨t,rfl,ht⟩:=hU;have hr:=(h.r d hd).tx W n;refine⟨[.un,.sh d],.s (eB (rW d)),[.un,.sh d],by simp only[CD,vC ht]<;>rfl, ?_,rfl,_,rfl,rfl⟩;unfold P1
   right) (U:=[.un,.un]) ⟨_,rfl,rfl⟩
 rw[BR] at e2;have V3:=h.bF.1
 have nE:((hW no ba oc fs rs).map eB).map D.str=D.str (eB [("notes":aA),num no])::.str (eB [("bar":aA),num ba])::.str (eB [("octave":aA),num oc])::(fs.map (λf=>D.str (eB (vW f)))++rs.map (λd=>D.str (eB (rW d)))):=by(unfold hW aO kS;simp[dU,tU])
 rw[nE,hq1,S4,hq3] at V3;have m2:pB (rs.map (λd=>D.str (eB (rW d)))).length=true:=eC (by rw[JA];lia);have m3:pB ((q1::q2::q3::fs.map (λf=>D.str (eB (vW f)))).length+(rs.map (λd=>D.str (eB (rW d)))).length)=true:=eC (by simp;lia);have b5:=aL m3;have i4:∀U,aAa .of [.val (.sh (.t (fs.map toD)))] U=some (fs.map toD,none):=λU=>S5 rfl
 have i4':aAa .of [.slot 4] [.sh (RD no ba oc fs rs),.i no,.i ba,.i oc,.sh (.t (fs.map toD)),.sh (.t rs),.o (.l [q1,q2,q3]),.un,.un,.un]=some (fs.map toD,none):=AQ rfl;have i5:aAa .of [.slot 5] [.sh (RD no ba oc fs rs),.i no,.i ba,.i oc,.sh (.t (fs.map toD)),.sh (.t rs),.o (.l (q1::q2::q3::fs.map λf=>D.str (eB (vW f)))),t7,t8,t9]=some (rs,none):=AQ rfl;unfold UN
 right
 rw[jD i5]
 right
 exfalso
theorem X2{l:List Nat}:∀m,a+m<=l.length->(jC m).filterMap (λk=>l[a+k]?)=(l.drop a).take m
 | 0,_=>rfl
 |m+1,h=>by(have e:l[a+m]?=some (l[a+m]'(by lia)):=kC (by lia);rw[ja,List.filterMap_append,X2 m (by lia),fq,Cp];simp[e])
def Um{x L:Nat}:(if(x:Int)<L then((L:Int)-x+1-1) / 1 else 0).toNat=L-x:=by
 rw[Int.add_sub_cancel,Int.ediv_one]
 split<;>lia
def si{a L:Nat}:max 0 (min (a:Int) L)=((min a L:Nat):Int):=by lia
def rY{a:Nat}:(mD w (some (a:Int)) none).cps.toList=w.cps.toList.drop a:=by
 have hl:w.cps.toList.length=w.length:=jF
 have e:FR (some (a:Int)) none 1 w.length=(jC (w.length-min a w.length)).map (min a w.length+·):=by
  unfold FR sliceRange;simp only[show(1:Int) > 0 by decide,iE,qB (show ¬(a:Int)<0 by lia)];rw[si,Um];refine cP λk _=>?_
  generalize min a w.length=x
  lia
 have k:((FR (some (a:Int)) none 1 w.length).filterMap (w.cps[·]?))=w.cps.toList.drop a:=by
  rw[e,J9]
  have:=X2 (l:=w.cps.toList) (a:=min a w.length) (w.length-min a w.length) (by lia)
  simp only[x9] at this;refine OU this ?_;by_cases h:a<=w.length
  ·rw[BU h,CN (by rw[WG];lia)]
  ·rw[kZ (by lia),gU (by lia),gU (by lia),FU]
 unfold mD;split
 ·rename_i h;rw[qA,OD] at h;have h2:=jB h.2;rw[e,JA,Np] at h2;by_cases h3:w.length=0
  ·rw[VY.mp (hl.trans h3),List.drop_nil]
  ·rw[show a=0 by lia];rfl
 ·exact k
def uY{a:Nat}:(mD w none (some (a:Int))).cps.toList=w.cps.toList.take a:=by
 have hl:w.cps.toList.length=w.length:=jF
 have e:FR none (some (a:Int)) 1 w.length=(jC (min a w.length)).map (0+·):=by
  unfold FR sliceRange;simp only[show(1:Int) > 0 by decide,iE,qB (show ¬(a:Int)<0 by lia)];rw[si,show(if(0:Int)<((min a w.length:Nat):Int) then(((min a w.length:Nat):Int)-0+1-1) / 1 else 0).toNat=min a w.length from Um (x:=0)];refine cP λk _=>?_
  lia
 have k:((FR none (some (a:Int)) 1 w.length).filterMap (w.cps[·]?))=w.cps.toList.take a:=by
  rw[e,J9]
  have:=X2 (l:=w.cps.toList) (a:=0) (min a w.length) (by lia)
  simp only[x9] at this;refine OU this ?_;rw[za,<- hl,<- List.take_take,Z9]
 unfold mD;split
 ·rename_i h;rw[qA,OD] at h;have h2:=jB h.2;rw[e,JA,Np] at h2;rw[CN (by lia)]
 ·exact k
noncomputable def aAy:List Nat->Bool
 |c::_=>c==45
 |[]=>false
noncomputable def vD(l:List Nat):List Nat:=if aAy l then l.drop 1 else l
def jl:lP w ("-":aA)=aAy w.cps.toList:=by
 obtain⟨⟨l⟩⟩:=w;have e:("-":aA)=⟨#[45]⟩:=by left
 rw[e];unfold lP Builtin.Str.subAt
 cases l with
 |nil=>rfl
 |cons c r =>
  have h:(0+(⟨#[45]⟩:aA).length<=(⟨⟨c::r⟩⟩:aA).length):=by show 0+1<=r.length+1;lia
  rw[IB h,YG];show((⟨c::r⟩:Array Nat).extract 0 1 == #[45])=(c==45)
  have:(⟨c::r⟩:Array Nat).extract 0 1=#[c]:=by simp
  rw[this];by_cases q:c=45
  ·subst q;rfl
  ·rw[NK.mpr q,NK.mpr (λz=>q (by simpa using z))]
def PH:(dB w).cps.toList=vD w.cps.toList:=by
 unfold dB vD;rw[jl];split
 ·exact rY (a:=1)
 ·rfl
def nz:∀c<128,aE c=(decide (48<=c)&&decide (c<=57)):=by left
noncomputable def tJ(l:List Nat):Bool:=decide (1<=l.length)&&(decide (l.length<=60)&&l.all aE)
noncomputable def vL(l:List Nat):Int:=if aAy l then -((NJ (vD l):Nat):Int) else((NJ (vD l):Nat):Int)
noncomputable def HE(w:aA):Option Int:=if tJ (vD w.cps.toList)=true then(if num (vL w.cps.toList)=w then some (vL w.cps.toList) else none) else none
noncomputable def iA(w:aA):D:=match HE w with
 |some n=>.int n
 |none=>.oA
def Tj(h:HE w=some n):num n=w:=by
 unfold HE at h;split at h
 ·split at h
  ·cases h;assumption
  ·cases h
 ·cases h
def ZK{w:aA}(h:w.cps.all (·<128)=true):∀c∈w.cps.toList,c<128:=λc hc=>by
 rw[UG] at h;exact RL (h c (by simpa using hc))
def S2(h:c∈vD l):c∈l:=by
 unfold vD at h;split at h
 ·exact MK h
 ·exact h
def NV:(vD l).length<=l.length/\l.length<=(vD l).length+1:=by
 unfold vD;split
 ·rw[WG];lia
 ·lia
def Si(ha:∀c∈l,c<128)(h:tJ l=true):Pp l/\l≠[]/\l.length<=60:=by
 unfold tJ at h;simp only[qA,OE] at h;refine⟨λc hc=>?_,λz=>?_,h.2.1⟩
 ·have:=HF.mp h.2.2 c hc
  rw[nz c (ha c hc)] at this;simpa using this
 ·rw[z] at h;simp at h
def B5(ha:w.cps.all (·<128)=true)(h:tJ (vD w.cps.toList)=true):intText? w=some (vL w.cps.toList)/\intText? (dB w)=some ((NJ (vD w.cps.toList):Nat):Int):=by
 obtain⟨h1,h2,h3⟩:=Si (λc hc=>ZK ha c (S2 hc)) h;have hl:w.cps.toList.length=w.length:=jF;have hf:(dB w).cps.toList.length=(dB w).length:=jF;have l1:=NV (l:=w.cps.toList)
 have i2:intText? (dB w)=some ((NJ (vD w.cps.toList):Nat):Int):=by
  have:=intText_digits (x:=dB w) (by rw[PH];exact h1) (by rw[PH];exact h2) (by rw[<- hf,PH];lia)
  rwa[PH] at this
 refine⟨?_,i2⟩
 cases hn:aAy w.cps.toList with
 |false =>
  have e:vD w.cps.toList=w.cps.toList:=by unfold vD;rw[hn];rfl
  have e2:dB w=w:=aAv (by rw[PH,e]);rw[e2] at i2;rw[i2];unfold vL;rw[hn];rfl
 |true =>
  have e:vD w.cps.toList=w.cps.toList.drop 1:=by unfold vD;rw[hn];rfl
  have e3:w.cps.toList=45::w.cps.toList.drop 1:=by
   cases q:w.cps.toList with
   |nil=>rw[q] at hn;cases hn
   |cons c r=>rw[q] at hn;rw[jB (show(c==45)=true from hn)];rfl
  rw[e] at h1 h2;rw[intText_neg e3 h1 h2 (by lia)];unfold vL;rw[hn,e];rfl
theorem Ed:∀(l:List Nat) (a:Nat),Pp l->l.foldl (λcB c=>cB*10+(c-48)) a<(a+1)*10 ^ l.length
 |[],a,_=>by simp
 |c::l,a,h=>by(have h1:=h.head;have ih:=Ed l (a*10+(c-48)) h.tail;rw[oa,IC];refine kE ih ?_;rw[Qa,Nat.mul_comm (10 ^ l.length) 10,<- oq];exact Nat.mul_le_mul_right _ (by lia))
def wJa(i:Int):(num i).cps.all (·<128)=true:=by
 cases i with
 |ofNat n=>exact j7 n
 |negSucc n =>
  have e:num (Int.negSucc n)=pA "-" ++ num ((n+1:Nat):Int):=by
   refine aAv ?_;unfold num;rw[EH,XY,XY,XY];simp only[List.toList_toArray];rw[show(toString (Int.negSucc n)).toList='-'::(toString ((n+1:Nat):Int)).toList from ?_]
   ·rfl
   ·show("-" ++ (n+1).repr).toList=_;rw[String.toList_append];rfl
  rw[UG];intro x hx;have hx:x∈(num (Int.negSucc n)).cps.toList:=by simpa using hx
  rw[e,EH] at hx;rcases CG.mp hx with hx | hx
  ·have e2:(pA "-").cps.toList=[45]:=by left
   rw[e2] at hx;rw[ME.mp hx];decide
  ·have:=ZK (j7 (n+1)) x hx
   exact IB this
def Xk{w:aA}(ha:w.cps.all (·<128)=true)(h:tJ (vD w.cps.toList)=true):pD .str [.int (vL w.cps.toList)]=some (.s (num (vL w.cps.toList))):=by
 obtain⟨h1,h2,h3⟩:=Si (λc hc=>ZK ha c (S2 hc)) h;refine Q2 ?_ (kH (wJa _));have e:(vL w.cps.toList).natAbs=NJ (vD w.cps.toList):=by unfold vL;split<;>lia
 rw[e];have hb:=Ed _ 0 h1;have hp:10 ^ (vD w.cps.toList).length<=10 ^ 60:=LJ (by decide) h3;have hb:NJ (vD w.cps.toList)<10 ^ 60:=by unfold NJ;lia
 by_cases h0:NJ (vD w.cps.toList)=0
 ·rw[h0];decide
 ·rw[wZ h0];exact kE hb (uE (show 10 ^ 60<=2 ^ 200 by decide) (LJ (i:=200) (j:=1920) (by decide) (by decide)))
def S7(h:FN i):HE (num i)=some i:=by
 have h1:tJ (vD (num i).cps.toList)=true:=by
  have:=h.l1
  have:=h.l2
  have hf:(dB (num i)).cps.toList.length=(dB (num i)).length:=jF;rw[PH] at hf;have h4:=h.ff;rw[PH] at h4;unfold tJ;rw[h4,IB (by lia),IB (by lia)];rfl
 have h2:=(B5 h.tg.asc h1).1;rw[h.it] at h2;have h2:=uF h2;unfold HE;rw[uA h1,<- h2,uA rfl]
theorem jv:rC .In (.str ⟨#[c]⟩) (.str ("0123456789":aA))=some (aE c):=rfl
def fz{Z:List Nat}:pD .all [.l (Z.map λz=>.bl (p z))]=some (.b (Z.all p)):=by
 have h:RF (Z.map λz=>D.bl (p z))=some (Z.map p):=by
  induction Z with
  |nil=>rfl
  |cons a r ih =>
   show(RF (r.map λz=>D.bl (p z))).map (p a :: ·)=_;rw[ih];rfl
 show(RF _).map _=_;rw[h];simp[bM,tU]
def mUa:∃t,QD (fD T.bA (run T W n) []) (ev T.bA (run T W n) false FV) (WA true [1]) (yK fg) [] [.un,.un]=some (.ok (fg.cps.toList.map λc=>.bl (aE c)),[.un,t]):=by
 obtain⟨U',e,t,rfl,ht⟩:=mI (P:=T.bA) (C:=run T W n) (LA:=ev T.bA (run T W n) false FV) (bind:=WA true [1]) (xs:=fg.cps.toList) (λc=>D.str ⟨#[c]⟩) (λc=>D.bl (aE c)) (λU=>∃t,U=[.un,t]/\PB t=true)
  (λc hc U hU=>by
   obtain⟨t,rfl,ht⟩:=hU;have IW:=jv (c:=c);refine⟨[.un,.s (⟨#[c]⟩)],.b (aE c),[.un,.s (⟨#[c]⟩)],by simp only[CD,vC ht]<;>rfl, ?_,rfl,_,rfl,rfl⟩;unfold FV
   right) (U:=[.un,.un]) ⟨_,rfl,rfl⟩
 exact⟨t,e⟩
def Je(hw:TG N w):TG N (dB w):=by
 have h1:(dB w).cps.toList.length=(dB w).length:=jF;have h2:w.cps.toList.length=w.length:=jF;have h3:=NV (l:=w.cps.toList);rw[PH] at h1;refine⟨by have:=hw.len;lia, ?_⟩;rw[UG];intro x hx;have hx:x∈(dB w).cps.toList:=by simpa using hx
 rw[PH] at hx;exact IB (ZK hw.asc x (S2 hx))
def bTa(hw:TG 1000000 w):"read_number"|||n+1|||[.s w]|||.sh (iA w):=by
 rw[dC Fs rfl rfl];have hf:=Je hw;have oE:=hw.len;have TH:=hf.len
 have hA:GA T.bA (run T W n) W (gK.body.take 1) ([.s w]++wC gK.nl .un)=some (.nx,[.s w,.s (dB w),.un]):=by
  unfold gK
  cases hb:lP w ("-":aA) with
  |true =>
   have HW:mD w (some 1) none=dB w:=by unfold dB;rw[hb];rfl
   have Y4:bD (some (.str w)) (some (.int 1)) none=some (.s (dB w)):=by(show bN (.str w) (some 1) none=_;rw[<- HW];exact XQ oE (by rw[HW];exact kH hf.asc))
   right
  |false =>
   have HW:dB w=w:=by unfold dB;rw[hb];rfl
   rw[HW]
   right
 rw[YE hA];have bO:(dB w).cps.toList.length=(dB w).length:=jF
 have HA:tJ (vD w.cps.toList)=(decide (1<=(dB w).length)&&(decide ((dB w).length<=60)&&(dB w).cps.toList.all aE)):=by(unfold tJ;rw[<- PH,bO])
 have GB:pD .len [.str (dB w)]=some (.i ((dB w).length:Int)):=uA TH;by_cases c1:1<=(dB w).length
 case neg =>
  have e1:decide ((1:Int)<=((dB w).length:Int))=false:=zB (by lia);have hr:iA w=.oA:=by unfold iA HE;rw[HA,zB c1];rfl
  rw[hr]
  generalize dB w=fg at *
  unfold gK
  right
 have e1:decide ((1:Int)<=((dB w).length:Int))=true:=IB (by lia);by_cases c2:(dB w).length<=60
 case neg =>
  have e2:decide (((dB w).length:Int)<=60)=false:=zB (by lia);have hr:iA w=.oA:=by unfold iA HE;rw[HA,zB c2,iI,HJ];rfl
  rw[hr];unfold gK
  right
 have e2:decide (((dB w).length:Int)<=60)=true:=IB (by lia);obtain⟨t1,hc⟩:=mUa (W:=W) (n:=n) (fg:=dB w);have hi:aAa .sig [.slot 1] [.s w,.s (dB w),.un]=some (yK (dB w),none):=rg rfl hf.asc (kH hf.asc);have NM:=fz (Z:=(dB w).cps.toList) (p:=aE);have aF:pB ((dB w).cps.toList.map λc=>D.bl (aE c)).length=true:=eC (by rw[JA,bO];lia);rw[IB c1,IB c2,YG,YG] at HA
 cases c3:(dB w).cps.toList.all aE with
 |false =>
  rw[c3] at NM HA;have hr:iA w=.oA:=by unfold iA HE;rw[HA];rfl
  rw[hr];unfold gK
  right
  rw[jD hi]
  right
  exfalso
 |true =>
  rw[c3] at NM HA
  have R3:w.length<=640:=by
   have h2:w.cps.toList.length=w.length:=jF;have h3:=NV (l:=w.cps.toList);rw[<- PH] at h3
   lia
  have IW:=pe R3 (B5 hw.asc HA).1;have UM:=Xk hw.asc HA
  have hr:iA w=if num (vL w.cps.toList)=w then .int (vL w.cps.toList) else .oA:=by
   unfold iA HE;rw[uA HA]
   split<;>(rename_i q;split at q<;>first | cases q | skip)<;>simp_all
  rw[hr]
  generalize vL w.cps.toList=m at *
  unfold gK;by_cases hq:num m=w
  ·have T4:(num m==w)=true:=by rw[hq];exact QE w
   rw[uA hq]
   generalize num m=nm at *
   right
   rw[jD hi]
   right
   exfalso
  ·have T4:(num m==w)=false:=by simpa using hq
   rw[qB hq]
   right
   rw[jD hi]
   right
   exfalso
def RQ(h:∀w∈ws,TG 1000000 w)(hl:ws.length<=1000000):"read_numbers"|||n+2|||[.sh (jA ws)]|||.ow (.l (ws.map iA)):=by
 rw[dC Gs rfl rfl];unfold iW
 obtain⟨U',e,t,rfl,ht⟩:=mI (P:=T.bA) (C:=run T W (n+1)) (LA:=ev T.bA (run T W (n+1)) false V1) (bind:=WA true [1]) (xs:=ws) D.str iA (λU=>∃t,U=[.un,t]/\PB t=true)
  (λw hw U hU=>by
   obtain⟨t,rfl,ht⟩:=hU;have hr:=bTa (W:=W) (n:=n) (h w hw);refine⟨[.un,.s w],.sh (iA w),[.un,.s w],by simp only[CD,vC ht]<;>rfl, ?_,rfl,_,rfl,rfl⟩;unfold V1
   right) (U:=[.un,.un]) ⟨_,rfl,rfl⟩
 have hi:aAa .of [.slot 0] [.sh (jA ws)]=some (ws.map D.str,none):=qg rfl;have aF:pB (ws.map iA).length=true:=eC (by rw[JA];exact hl)
 unfold jA at *
 right
 rw[jD hi]
 right
 exfalso
def dD:iA w=.oA\/∃i,iA w=.int i:=by
 unfold iA
 cases HE w with
 |none=>exact .inl rfl
 |some n=>exact .inr ⟨n,rfl⟩
def iL:eE (iA w)=true:=by rcases dD with h | ⟨i,h⟩<;>rw[h]<;>rfl
def zM(h:d=.oA\/∃i,d=.int i):"L_between"|||n+1|||[.sh d,.i lo,.i hi]|||.b (EA lo hi d):=by
 rw[dC Lr rfl rfl];unfold PV;rcases h with rfl | ⟨i,rfl⟩
 ·right
  rfl
 ·by_cases h1:lo<=i
  ·have e1:decide (lo<=i)=true:=IB h1;have e2:EA lo hi (.int i)=decide (i<=hi):=by simp only[EA,e1,YG]
   rw[e2]
   right
  ·have e1:decide (lo<=i)=false:=zB h1;have e2:EA lo hi (.int i)=false:=by simp only[EA,e1,iI]
   rw[e2]
   right
def oi:("-":aA).cps.toList=[45]:=by left
def L_:(mD w none (some 1)==("-":aA))=aAy w.cps.toList:=by
 have e:=uY (w:=w) (a:=1);rw[AU,OD];constructor
 ·intro h;rw[show((1:Nat):Int)=1 from rfl,h,oi] at e
  cases q:w.cps.toList with
  |nil=>rw[q] at e;cases e
  |cons c r=>rw[q] at e;cases e;rfl
 ·intro h;refine aAv ?_;rw[show(some (1:Int))=some ((1:Nat):Int) from rfl,e,oi]
  cases q:w.cps.toList with
  |nil=>rw[q] at h;cases h
  |cons c r=>rw[q] at h;rw[jB (show(c==45)=true from h)];rfl
def oUa:mD w (some 0) none=w:=aAv (rY (a:=0))
theorem Av:rC .NotIn (.str ⟨#[c]⟩) (.str ("0123456789":aA))=some (!aE c):=rfl
def nHa:∃t,QD (fD T.bA (run T W n) [(.IA .NotIn (.v 1) (.c (.str ("0123456789":aA))))]) (ev T.bA (run T W n) false BV) (WA true [1]) (yK fg) [] [.un,.un]=some (.ok ((fg.cps.toList.filter λc=>!aE c).map λc=>.str ⟨#[c]⟩),[.un,t]):=by
 obtain⟨U',e,t,rfl,ht⟩:=SN (tests:=fD T.bA (run T W n) [(.IA .NotIn (.v 1) (.c (.str ("0123456789":aA))))]) (LA:=ev T.bA (run T W n) false BV) (bind:=WA true [1]) (xs:=fg.cps.toList) (λc=>D.str ⟨#[c]⟩) (λc=>!aE c) (λc=>D.str ⟨#[c]⟩) (λU=>∃t,U=[.un,t]/\PB t=true)
  (λc hc U hU=>by
   obtain⟨t,rfl,ht⟩:=hU;have IW:=Av (c:=c);refine⟨[.un,.s (⟨#[c]⟩)],[.un,.s (⟨#[c]⟩)],by simp only[CD,vC ht]<;>rfl, ?_,λ_=>⟨.s (⟨#[c]⟩),[.un,.s (⟨#[c]⟩)], ?_,rfl,_,rfl,rfl⟩,λ_=>⟨_,rfl,rfl⟩⟩
   ·clear hc ht
    generalize (!aE c)=b at *
    cases b<;>right
   ·unfold BV
    right) (U:=[.un,.un]) ⟨_,rfl,rfl⟩
 exact⟨t,e⟩
def aA0{ws:List aA}:rC .NotEq (.l (ws.map D.str)) (.l [])=some (!ws.isEmpty):=by
 have h:lB 20 (.l (ws.map D.str))=true:=by(show(ws.map D.str).all (lB 19)=true;rw[bM,HF];intro w _;rfl)
 show(if lB 20 (.l (ws.map D.str))&&lB 20 (.l []) then some (!TC (.l (ws.map D.str)) (.l [])) else none)=_;rw[h];cases ws<;>simp[TC,tG,lB]
def jT{w:aA}(hw:TG 1000000 w):"L_number"|||n+1|||[.s w]|||.sh (iA w):=by
 rw[dC Ur rfl rfl];have hf:=Je hw;have oE:=hw.len;have TH:=hf.len;have bO:(dB w).cps.toList.length=(dB w).length:=jF
 have s1:bD (some (.str w)) none (some (.int 1))=some (.s (mD w none (some 1))):=by
  refine XQ oE (kH ?_);rw[UG];intro x hx;have hx:x∈(mD w none (some ((1:Nat):Int))).cps.toList:=by simpa using hx
  rw[uY] at hx;exact IB (ZK hw.asc x (MJ hx))
 have s2:bD (some (.str w)) (some (.int (if aAy w.cps.toList=true then 1 else 0))) none=some (.s (dB w)):=by
  have e:mD w (some (if aAy w.cps.toList=true then 1 else 0)) none=dB w:=by
   unfold dB;rw[jl];cases aAy w.cps.toList
   ·exact oUa
   ·rfl
  show bN (.str w) (some _) none=_;rw[<- e];exact XQ oE (by rw[e];exact kH hf.asc)
 have e0:=L_ (w:=w)
 have hA:GA T.bA (run T W n) W (eK.body.take 1) ([.s w]++wC eK.nl .un)=some (.nx,[.s w,.s (dB w),.un]):=by
  unfold eK
  generalize mD w none (some 1)=y at *
  generalize aAy w.cps.toList=b at *
  clear hw hf oE TH bO
  right
 rw[YE hA]
 have HA:tJ (vD w.cps.toList)=(decide (1<=(dB w).length)&&(decide ((dB w).length<=60)&&(dB w).cps.toList.all aE)):=by(unfold tJ;rw[<- PH,bO])
 have GB:pD .len [.str (dB w)]=some (.i ((dB w).length:Int)):=uA TH;by_cases c1:1<=(dB w).length
 case neg =>
  have e1:(dB w==("":aA))=true:=by(rw[OD];refine aAv ?_;rw[yX];exact VY.mp (by lia))
  have hr:iA w=.oA:=by unfold iA HE;rw[HA,zB c1];rfl
  rw[hr];unfold eK
  right
 have e1:(dB w==("":aA))=false:=by
  rw[NK];intro z;rw[z,yX] at bO;rw[z] at c1;simp at bO
  lia
 by_cases c2:(dB w).length<=60
 case neg =>
  have e2:decide ((60:Int)<((dB w).length:Int))=true:=IB (by lia);have hr:iA w=.oA:=by unfold iA HE;rw[HA,zB c2,iI,HJ];rfl
  rw[hr];unfold eK
  right
 have e2:decide ((60:Int)<((dB w).length:Int))=false:=zB (by lia);obtain⟨t1,hc⟩:=nHa (W:=W) (n:=n) (fg:=dB w);have hi:aAa .sig [.slot 1] [.s w,.s (dB w),.un]=some (yK (dB w),none):=rg rfl hf.asc (kH hf.asc)
 have hq:((dB w).cps.toList.filter λc=>!aE c).isEmpty=(dB w).cps.toList.all aE:=by(rw[AU,vU,YY,HF];simp)
 have VB:=aA0 (ws:=((dB w).cps.toList.filter λc=>!aE c).map λc=>(⟨#[c]⟩:aA));rw[oG,List.isEmpty_map,hq] at VB;replace VB:rC .NotEq (.l (((dB w).cps.toList.filter λc=>!aE c).map λc=>D.str ⟨#[c]⟩)) (.l [])=_:=VB
 have aF:pB (((dB w).cps.toList.filter λc=>!aE c).map λc=>D.str ⟨#[c]⟩).length=true:=eC (by
  rw[JA]
  have:=sR (λc=>!aE c) (dB w).cps.toList
  lia)
 rw[IB c1,IB c2,YG,YG] at HA
 cases c3:(dB w).cps.toList.all aE with
 |false =>
  rw[c3] at VB HA;have hr:iA w=.oA:=by unfold iA HE;rw[HA];rfl
  rw[hr];unfold eK
  right
  rw[jD hi]
  right
  exfalso
 |true =>
  rw[c3] at VB HA;have R3:(dB w).length<=640:=by lia
  have IW:=pe R3 (B5 hw.asc HA).2;have UM:=Xk hw.asc HA
  have hr:iA w=if num (vL w.cps.toList)=w then .int (vL w.cps.toList) else .oA:=by
   unfold iA HE;rw[uA HA]
   split<;>(rename_i q;split at q<;>first | cases q | skip)<;>simp_all
  rw[hr]
  have hx:NC (some (.str w)) (.int 0)=some (.s (⟨#[w.cps.toList.headD 0]⟩))/\((⟨#[w.cps.toList.headD 0]⟩:aA)==("-":aA))=aAy w.cps.toList:=by
   have h2:w.cps.toList.length=w.length:=jF;have h3:=NV (l:=w.cps.toList);rw[<- PH] at h3
   cases q:w.cps.toList with
   |nil=>rw[q] at h3;simp only[rN] at h3;lia
   |cons c r =>
    constructor
    ·show(CL (.str w) (.int 0)).map RV.sh=_
     have:CL (.str w) (.int 0)=(L2.oC w.cps.toList 0).map λc=>.str ⟨#[c]⟩:=uA oE
     have e0:L2.oC (c::r) 0=some c:=by unfold L2.oC;rw[IC,cDa];rfl
     rw[this,q,e0];rfl
    ·show((⟨#[c]⟩:aA)==("-":aA))=(c==45);have e:("-":aA)=⟨#[45]⟩:=by left
     rw[e,AU,OD,OD];constructor
     ·intro h;injection h with h;simpa using h
     ·intro h;rw[h]
  obtain⟨hx,nJ⟩:=hx;have hv:vL w.cps.toList=if aAy w.cps.toList=true then 0-((NJ (vD w.cps.toList):Nat):Int) else((NJ (vD w.cps.toList):Nat):Int):=by unfold vL;split<;>lia
  generalize dB w=fg at *
  generalize (⟨#[w.cps.toList.headD 0]⟩:aA)=x0 at *
  generalize ((NJ (vD w.cps.toList):Nat):Int)=v at *
  generalize vL w.cps.toList=m at *
  generalize aAy w.cps.toList=b at *
  unfold eK;by_cases hq:num m=w
  ·have T4:(num m==w)=true:=by rw[hq];exact QE w
   rw[uA hq];cases b<;>(simp only[zD,yE,iE] at hv;subst hv)
   all_goals
    generalize num _=nm at *
    right
    rw[jD hi]
    right
   exfalso
  ·have T4:(num m==w)=false:=by simpa using hq
   rw[qB hq];cases b<;>(simp only[zD,yE,iE] at hv;subst hv)
   all_goals
    generalize num _=nm at *
    right
    rw[jD hi]
    right
   exfalso
def VG(b:Bool)(d:D):Prop:=∀(W n:Nat),"is_follower"|||n+3|||[.sh d]|||.b b
def RG(ba oc ma:Int)(b:Bool)(d:D):Prop:=∀(W n:Nat),"is_rule"|||n+4|||[.i ba,.i oc,.i ma,.sh d]|||.b b
def VU(no ba oc:Int)(vs rs:List D):Prop:=∀(W n:Nat),"check_frame"|||n+3|||[.i no,.i ba,.i oc,.p (.l vs),.p (.l rs)]|||.sh .oA
def He(ha:eE a=true)(hb:eE b=true)(hc:eE c=true) :
  run T W (n+3) "check_frame" [.sh a,.sh b,.sh c,.p (.l vs),.p (.l rs)]=some ((if EA 1 7 a&&(EA 1 4 b&&(EA 1 12 c&&(decide ((1:Int)<=vs.length)&&(decide ((vs.length:Int)<=3) && !decide ((8:Int)<rs.length))))) then .ok (.sh .oA) else .ex ⟨"NoHouse",none⟩),[.sh a,.sh b,.sh c,.p (.l vs),.p (.l rs)]):=by
 rw[wJ js rfl rfl];unfold aAu cW;have h1:=cI (W:=W) (n:=n) (lo:=1) (hi:=7) ha;have h2:=cI (W:=W) (n:=n) (lo:=1) (hi:=4) hb;have h3:=cI (W:=W) (n:=n) (lo:=1) (hi:=12) hc
 generalize EA 1 7 a=r1 at *
 generalize EA 1 4 b=r2 at *
 generalize EA 1 12 c=r3 at *
 clear ha hb hc;cases r1
 ·right
 cases r2
 ·right
 cases r3
 ·right
 cases q1:decide ((1:Int)<=vs.length)
 ·right
 cases q2:decide ((vs.length:Int)<=3)
 ·right
 cases q3:decide ((8:Int)<rs.length)<;>right
abbrev nF(no ba oc:Int)(a b:Sl)(t5 t6:Sl):Env:=[.i no,.i ba,.i oc,a,b,t5,t6]
def FX(hv:∀x∈pre,VG true x):∀d∈RC 1 pre,∀U,(∃t5 t6,U=nF no ba oc .un (.p (.l rs)) t5 t6/\PB t5=true/\PB t6=true) ->
  ∃U1,WA false [5,6] d U=some U1/\∃U2,GA T.bA (run T W (n+4)) W cL U1=some (.nx,U2)/\∃t5 t6,U2=nF no ba oc .un (.p (.l rs)) t5 t6/\PB t5=true/\PB t6=true:=λd hd U hU=>by
 obtain⟨t5,t6,rfl,h5,h6⟩:=hU;obtain⟨j,x,rfl,hx⟩:=Pd hd;refine⟨_,by simp only[nF,ON,FO,GO,pO,JO,FF,QI,vC h5,vC h6,RI,SI]<;>rfl, ?_⟩;have hw:=hv x hx W (n+1);unfold cL
 right
 refine⟨_,rfl,_,_,rfl,rfl,rfl⟩
def Z6(hv:∀x∈pre,RG ba oc vs.length true x):∀d∈RC 0 pre,∀U,(∃t5 t6,U=nF no ba oc (.p (.l vs)) .un t5 t6/\PB t5=true/\PB t6=true) ->
  ∃U1,WA false [5,6] d U=some U1/\∃U2,GA T.bA (run T W (n+4)) W xM U1=some (.nx,U2)/\∃t5 t6,U2=nF no ba oc (.p (.l vs)) .un t5 t6/\PB t5=true/\PB t6=true:=λd hd U hU=>by
 obtain⟨t5,t6,rfl,h5,h6⟩:=hU;obtain⟨j,x,rfl,hx⟩:=Pd hd;refine⟨_,by simp only[nF,ON,FO,GO,pO,JO,FF,QI,vC h5,vC h6,RI,SI]<;>rfl, ?_⟩;have hw:=hv x hx W n;unfold xM
 right
 refine⟨_,rfl,_,_,rfl,rfl,rfl⟩
def Af(uS:VU no ba oc vs rs)(hv:∀x∈vs,VG true x)(hR:∀x∈rs,RG ba oc vs.length true x) :
  "house_of"|||n+5|||[.i no,.i ba,.i oc,.p (.l vs),.p (.l rs)]|||.sh (.t [.int no,.int ba,.int oc,.t vs,.t rs]):=by
 rw[wJ hV rfl rfl];unfold VN;have hf:=uS W (n+1);have QM:aAa (.enum 1) [.slot 3] [.i no,.i ba,.i oc,.p (.l vs),.p (.l rs),.un,.un]=some (RC 1 vs,some 3):=SS rfl;obtain⟨U1,e1,t5,t6,rfl,CS,YW⟩:=AX (bind:=WA false [5,6]) (body:=GA T.bA (run T W (n+4)) W cL) _ (ds:=RC 1 vs) (FX hv) (U:=nF no ba oc .un (.p (.l rs)) .un .un) ⟨_,_,rfl,rfl,rfl⟩;have mK:aAa (.enum 0) [.slot 4] [.i no,.i ba,.i oc,.p (.l vs),.p (.l rs),t5,t6]=some (RC 0 rs,some 4):=SS rfl;obtain⟨U2,e2,t5',t6',rfl,i0a,j0a⟩:=AX (bind:=WA false [5,6]) (body:=GA T.bA (run T W (n+4)) W xM) _ (ds:=RC 0 rs) (Z6 hR) (U:=nF no ba oc (.p (.l vs)) .un t5 t6) ⟨_,_,rfl,CS,YW⟩
 right
 simp only[aAb,RI,SI,e1,Run.restore,aAk,FF,QI,WD]
 right
 simp only[aAb,RI,SI,e2,Run.restore,aAk,FF,QI,WD]
 right
theorem U6{bind:D->Env->Option Env}(I:Env->Prop):∀{pre:List D},(∀e∈pre,∀U,I U->∃U1,bind e U=some U1/\∃U2,body U1=some (.nx,U2)/\I U2) ->
  (∀U,I U->∃U1,bind d U=some U1/\body U1=none)->∀U,I U->KC bind body (pre++d::post) U=none
 |[],_,hd,U,hi=>by
  obtain⟨U1,e1,e2⟩:=hd U hi;simp only[UL,KC,e1,e2]
 |a::pre,h,hd,U,hi=>by(obtain⟨U1,e1,U2,e2,h2⟩:=h a (by simp) U hi;have e3:=U6 (post:=post) I (λe he=>h e (jG _ he)) hd U2 h2;simp only[gP,KC,e1,e2,e3])
def HV:RC lo (pre++d::post)=RC lo pre++.t [.int (lo+(pre.length:Int)),d]::(RC lo (pre++d::post)).drop (pre.length+1):=by
 have hl:(RC lo pre).length=pre.length:=cQ
 apply List.ext_getElem?
 intro i;by_cases h1:i<pre.length
 ·rw[zN (by rw[hl];exact h1),bQ (d:=pre[i]) (by rw[zN h1,kC h1]),bQ (d:=pre[i]) (kC h1)]
 ·rw[fU (by rw[hl];lia),hl];by_cases h2:i=pre.length
  ·subst h2;rw[bQ (by rw[fU (HB _),Ra];rfl),Ra];rfl
  ·obtain⟨k,rfl⟩:∃k,i=pre.length+1+k:=⟨i-(pre.length+1),by lia⟩
   rw[show pre.length+1+k-pre.length=k+1 by lia,QI,Cp]
def jAa(uS:VU no ba oc (pre++d::post) rs)(hv:∀x∈pre,VG true x)(hd:VG false d) :
  run T W (n+5) "house_of" [.i no,.i ba,.i oc,.p (.l (pre++d::post)),.p (.l rs)]=some (.ex ⟨"NoVoice",some (1+(pre.length:Int))⟩,[.i no,.i ba,.i oc,.p (.l (pre++d::post)),.p (.l rs)]):=by
 rw[wJ hV rfl rfl];unfold aAu VN;have hf:=uS W (n+1);have QM:aAa (.enum 1) [.slot 3] [.i no,.i ba,.i oc,.p (.l (pre++d::post)),.p (.l rs),.un,.un]=some (RC 1 (pre++d::post),some 3):=SS rfl
 have nA:∀U,(∃t5 t6,U=nF no ba oc .un (.p (.l rs)) t5 t6/\PB t5=true/\PB t6=true)->∃U1,WA false [5,6] (.t [.int (1+(pre.length:Int)),d]) U=some U1/\GA T.bA (run T W (n+4)) W cL U1=none /\
   ∃U2,aD T.bA (run T W (n+4)) W cL U1=some (⟨"NoVoice",some (1+(pre.length:Int))⟩,U2)/\∃t5 t6,U2=nF no ba oc .un (.p (.l rs)) t5 t6:=λU hU=>by
  obtain⟨t5,t6,rfl,h5,h6⟩:=hU;refine⟨_,by simp only[nF,ON,FO,GO,pO,JO,FF,QI,vC h5,vC h6,RI,SI]<;>rfl, ?_⟩;have hw:=hd W (n+1);unfold cL;refine⟨by right, ?_⟩
  right
  exact⟨_,rfl,_,_,rfl⟩
 have e1:KC (WA false [5,6]) (GA T.bA (run T W (n+4)) W cL) (RC 1 (pre++d::post)) (nF no ba oc .un (.p (.l rs)) .un .un)=none:=by(rw[HV];exact U6 _ (FX hv) (λU h=>let ⟨U1,a,b,_⟩:=nA U h;⟨U1,a,b⟩) _ ⟨_,_,rfl,rfl,rfl⟩)
 obtain⟨U2,e2,t5,t6,rfl⟩:=S6 (post:=(RC 1 (pre++d::post)).drop (pre.length+1)) _ (FX hv) nA (nF no ba oc .un (.p (.l rs)) .un .un) ⟨_,_,rfl,rfl,rfl⟩;rw[<- HV] at e2
 right
 simp only[aAb,RI,SI,e1,e2,Run.restore,wK,aAk,FF,QI,WD]
 right
def iAa(uS:VU no ba oc vs (pre++d::post))(hv:∀x∈vs,VG true x)(hR:∀x∈pre,RG ba oc vs.length true x)(hd:RG ba oc vs.length false d) :
  run T W (n+5) "house_of" [.i no,.i ba,.i oc,.p (.l vs),.p (.l (pre++d::post))]=some (.ex ⟨"NoRule",some (0+(pre.length:Int))⟩,[.i no,.i ba,.i oc,.p (.l vs),.p (.l (pre++d::post))]):=by
 rw[wJ hV rfl rfl];unfold aAu VN;have hf:=uS W (n+1);have QM:aAa (.enum 1) [.slot 3] [.i no,.i ba,.i oc,.p (.l vs),.p (.l (pre++d::post)),.un,.un]=some (RC 1 vs,some 3):=SS rfl;obtain⟨U1,e1,t5,t6,rfl,CS,YW⟩:=AX (bind:=WA false [5,6]) (body:=GA T.bA (run T W (n+4)) W cL) _ (ds:=RC 1 vs) (FX (rs:=pre++d::post) hv) (U:=nF no ba oc .un (.p (.l (pre++d::post))) .un .un) ⟨_,_,rfl,rfl,rfl⟩;have mK:aAa (.enum 0) [.slot 4] [.i no,.i ba,.i oc,.p (.l vs),.p (.l (pre++d::post)),t5,t6]=some (RC 0 (pre++d::post),some 4):=SS rfl
 have nA:∀U,(∃t5 t6,U=nF no ba oc (.p (.l vs)) .un t5 t6/\PB t5=true/\PB t6=true)->∃U1,WA false [5,6] (.t [.int (0+(pre.length:Int)),d]) U=some U1/\GA T.bA (run T W (n+4)) W xM U1=none /\
   ∃U2,aD T.bA (run T W (n+4)) W xM U1=some (⟨"NoRule",some (0+(pre.length:Int))⟩,U2)/\∃t5 t6,U2=nF no ba oc (.p (.l vs)) .un t5 t6:=λU hU=>by
  obtain⟨t5,t6,rfl,h5,h6⟩:=hU;refine⟨_,by simp only[nF,ON,FO,GO,pO,JO,FF,QI,vC h5,vC h6,RI,SI]<;>rfl, ?_⟩;have hw:=hd W n;unfold xM;refine⟨by right, ?_⟩
  right
  exact⟨_,rfl,_,_,rfl⟩
 have e3:KC (WA false [5,6]) (GA T.bA (run T W (n+4)) W xM) (RC 0 (pre++d::post)) (nF no ba oc (.p (.l vs)) .un t5 t6)=none:=by(rw[HV];exact U6 _ (Z6 hR) (λU h=>let ⟨U1,a,b,_⟩:=nA U h;⟨U1,a,b⟩) _ ⟨_,_,rfl,CS,YW⟩)
 obtain⟨U2,e2,t5',t6',rfl⟩:=S6 (post:=(RC 0 (pre++d::post)).drop (pre.length+1)) _ (Z6 hR) nA (nF no ba oc (.p (.l vs)) .un t5 t6) ⟨_,_,rfl,CS,YW⟩;rw[<- HV] at e2
 right
 simp only[aAb,RI,SI,e1,Run.restore,wK,aAk,FF,QI,WD]
 right
 simp only[aAb,RI,SI,e2,e3,Run.restore,wK,aAk,FF,QI,WD]
 right
theorem W2{P Q:D->Prop}:∀{l:List D},(∀x∈l,P x\/Q x)->(∀x∈l,P x)\/∃pre d post,l=pre++d::post/\(∀x∈pre,P x)/\Q d
 |[],_=>.inl λ_ h=>nomatch h
 |a::l,h=>by
  rcases h a (.head _) with ha | ha
  ·rcases W2 λx hx=>h x (.tail _ hx) with hl | ⟨pre,d,post,rfl,h1,h2⟩
   ·exact .inl λx hx=>by rcases AD.mp hx with rfl | hx;exact ha;exact hl x hx
   ·exact .inr ⟨a::pre,d,post,rfl,λx hx=>by rcases AD.mp hx with rfl | hx;exact ha;exact h1 x hx,h2⟩
  ·exact .inr ⟨[],a,l,rfl,(λ_ h=>nomatch h),ha⟩
def HR(x:Exc):Prop:=x=⟨"NoHouse",none⟩\/(∃m,x=⟨"NoVoice",m⟩)\/∃m,x=⟨"NoRule",m⟩
def hAa{a b c:D}{vs rs:List D}(ha:eE a=true)(hb:eE b=true)(hc:eE c=true)(hv:∀x∈vs,∃b,VG b x)(hr:∀(ba oc:Int),1<=oc->∀x∈rs,∃b,RG ba oc vs.length b x) :
  (∃x,HR x/\∀W n,run T W (n+5) "house_of" [.sh a,.sh b,.sh c,.p (.l vs),.p (.l rs)]=some (.ex x,[.sh a,.sh b,.sh c,.p (.l vs),.p (.l rs)])) \/
  ∃no ba oc:Int,a=.int no/\b=.int ba/\c=.int oc/\(1<=no/\no<=7/\1<=ba/\ba<=4/\1<=oc/\oc<=12/\1<=vs.length/\vs.length<=3/\rs.length<=8)/\(∀x∈vs,VG true x)/\(∀x∈rs,RG ba oc vs.length true x) /\
   ∀W n,"house_of"|||n+5|||[.sh a,.sh b,.sh c,.p (.l vs),.p (.l rs)]|||.sh (.t [a,b,c,.t vs,.t rs]):=by
 have hf:=λW n=>He (W:=W) (n:=n) (vs:=vs) (rs:=rs) ha hb hc
 cases q:(EA 1 7 a&&(EA 1 4 b&&(EA 1 12 c&&(decide ((1:Int)<=vs.length)&&(decide ((vs.length:Int)<=3) && !decide ((8:Int)<rs.length))))))
 ·refine .inl ⟨_,.inl rfl,λW n=>?_⟩;have hg:=hf W (n+1);rw[q,BB] at hg;rw[wJ hV rfl rfl];unfold aAu VN;clear q ha hb hc hv hr hf
  right
  rfl
 ·simp only[qA,OE,QK,zP] at q;obtain⟨q1,q2,q3,q4,q5,q6⟩:=q
  have hq:(EA 1 7 a&&(EA 1 4 b&&(EA 1 12 c&&(decide ((1:Int)<=vs.length)&&(decide ((vs.length:Int)<=3) && !decide ((8:Int)<rs.length))))))=true:=by(rw[q1,q2,q3,IB q4,IB q5,zB q6];rfl)
  obtain⟨no,rfl,n1,n2⟩:=fE q1;obtain⟨ba,rfl,b1,b2⟩:=fE q2;obtain⟨oc,rfl,o1,o2⟩:=fE q3
  have hf:VU no ba oc vs rs:=λW n=>by
   have:=hf W n
   rw[hq] at this;exact this
  have bb:∀{p:Bool->D->Prop} {x:D},(∃b,p b x)->p true x\/p false x:=λ{p x} ⟨b,h⟩=>by cases b;exact .inr h;exact .inl h
  rcases W2 (λx hx=>bb (hv x hx)) with gv | ⟨pre,d,post,rfl,h1,h2⟩
  ·rcases W2 (λx hx=>bb (p:=RG ba oc vs.length) (hr ba oc o1 x hx)) with gr | ⟨pre,d,post,rfl,h1,h2⟩
   ·exact .inr ⟨no,ba,oc,rfl,rfl,rfl,⟨n1,n2,b1,b2,o1,o2,by lia,by lia,by lia⟩,gv,gr,λW n=>Af hf gv gr⟩
   ·exact .inl ⟨_,.inr (.inr ⟨_,rfl⟩),λW n=>iAa hf gv h1 h2⟩
  ·exact .inl ⟨_,.inr (.inl ⟨_,rfl⟩),λW n=>jAa hf h1 h2⟩
def tY{L:List D}{c:Nat}:bD (some (.l L)) none (some (.int (c:Int)))=some (.ow (.l (L.take c))):=by
 show some (RV.ow (.l (aAz L none (some (c:Int)))))=_;unfold aAz;rw[HT.FT,HT.Z7,za,Nat.sub_zero];by_cases h:c<=L.length
 ·rw[BU h]
 ·rw[kZ (by lia),CN (HB _),CN (by lia)]
def xJ{L:List D}{c:Nat}:bD (some (.l L)) (some (.int (c:Int))) none=some (.ow (.l (L.drop c))):=by
 show some (RV.ow (.l (aAz L (some (c:Int)) none)))=_;unfold aAz;rw[HT.FT,HT.Z7];by_cases h:c<=L.length
 ·rw[BU h,CN (by rw[WG];lia)]
 ·rw[kZ (by lia),Ra,oZ,gU (by lia)]
theorem Z5:∀{as:List (List Nat)},as≠[]->(jS c as).length+1=(as.map λa=>a.length+1).sum
 |[],h=>absurd rfl h
 |[a],_=>by simp[jS]
 |a::b::r,_=>by
  have ih:=Z5 (c:=c) (as:=b::r) (by simp);show(a++c::jS c (b::r)).length+1=_;rw[eD,pZ,<- ih,lE,IC]
  lia
theorem Bg:∀{as:List (List Nat)} {a:List Nat} {x:Nat},a∈as->x∈a->x∈jS c as
 |[a],_,_,h,hx=>by rw[ME.mp h] at hx;exact hx
 |a::b::r,_,x,h,hx=>by
  show x∈a++c::jS c (b::r);rcases AD.mp h with rfl | h
  ·exact oN _ hx
  ·exact yH _ (jG _ (Bg h hx))
noncomputable def WC(ws:List aA):Nat:=(ws.map λw=>w.length+1).sum
def LO:WC (a++b)=WC a+WC b:=by unfold WC;rw[jP,List.sum_append]
def CJ:WC (a::b)=a.length+1+WC b:=by unfold WC;rw[eD,pZ]
theorem MO:∀{ws:List aA},ws.length<=WC ws
 |[]=>cM _
 |a::r=>by have:=MO (ws:=r);rw[CJ,IC];lia
theorem Hm:∀{ws:List aA} {w:aA},w∈ws->w.length+1<=WC ws
 |a::r,w,h=>by
  rw[CJ];rcases AD.mp h with rfl | h
  ·lia
  ·have:=Hm h;lia
def K8(k:Nat):WC (ws.take k)+WC (ws.drop k)=WC ws:=by rw[<- LO,jU]
def Gg(hs:s=⟨#[c]⟩):(YB s ws).cps.toList=jS c (ws.map λw=>w.cps.toList):=by
 subst hs;rw[show YB ⟨#[c]⟩ ws=xH ⟨#[c]⟩ ws from YO _ _,DQ]
def ll(ws:List aA):((ws.map λw=>w.cps.toList).map λa=>a.length+1).sum=WC ws:=by
 unfold WC;rw[oG];rfl
def oDa(hs:s=⟨#[c]⟩)(hc:c<128)(h:∀w∈ws,w.cps.all (·<128)=true)(hz:WC ws<=N+1)(hN:N<=1000000):TG N (YB s ws)/\uP s ws=true:=by
 have h1:s.length=1:=by rw[hs];rfl
 refine⟨⟨?_, ?_⟩, ?_⟩
 ·have hl:(YB s ws).cps.toList.length=(YB s ws).length:=jF;rw[Gg hs] at hl;by_cases he:ws=[]
  ·subst he;simp[jS] at hl;lia
  ·have:=Z5 (c:=c) (as:=ws.map λw=>w.cps.toList) (λz=>he (bP.mp z))
   rw[ll] at this
   lia
 ·rw[UG];intro x hx;rcases FQ hs (by simpa using hx) with rfl | ⟨w,hw,hx⟩
  ·exact IB hc
  ·have h4:=h w hw;rw[UG] at h4;exact h4 x (by simpa using hx)
 ·unfold uP;rw[QK];refine PyProof.Rows.joinFits_of_weight ?_ (by lia)
  have:(ws.map (·.length)).sum+ws.length=WC ws:=by
   clear h hz
   induction ws with
   |nil=>rfl
   |cons a r ih=>rw[CJ,eD,pZ,IC];lia
  lia
def Fg(hs:s=⟨#[c]⟩)(hc:c<128)(h:∀w∈ws,w.cps.all (·<128)=true)(hz:WC ws<=N+1)(hN:N<=1000000):WM s (some (.l (ws.map D.str)))=some (.s (YB s ws))/\TG N (YB s ws):=by
 obtain⟨h1,h2⟩:=oDa hs hc h hz hN;exact⟨Eg aAP h2 (kH h1.asc),h1⟩
def KI(hs:s=⟨#[c]⟩)(h:TG N t):(∀p∈UA t s,TG N p/\c ∉ p.cps.toList)/\WC (UA t s)=t.length+1/\UA t s≠[]/\YB s (UA t s)=t:=by
 subst hs
 have h1:YB ⟨#[c]⟩ (UA t ⟨#[c]⟩)=t:=by(rw[show YB ⟨#[c]⟩ (UA t ⟨#[c]⟩)=xH ⟨#[c]⟩ (UA t ⟨#[c]⟩) from YO _ _];exact zp t ⟨#[c]⟩)
 have h2:=Ap t c;have h3:=Wo t ⟨#[c]⟩;have VB:UA t ⟨#[c]⟩≠[]:=λz=>by rw[z] at h3;simp at h3
 have hj:=Gg (c:=c) rfl (ws:=UA t ⟨#[c]⟩);rw[h1] at hj;have hl:t.cps.toList.length=t.length:=jF
 have hz:WC (UA t ⟨#[c]⟩)=t.length+1:=by
  have:=Z5 (c:=c) (as:=(UA t ⟨#[c]⟩).map λw=>w.cps.toList) (λz=>VB (bP.mp z))
  rw[ll,<- hj] at this
  lia
 refine⟨λp hp=>⟨⟨?_, ?_⟩,h2 p hp⟩,hz,VB,h1⟩
 ·have:=Hm hp
  have:=h.len
  lia
 ·rw[UG];intro x hx;have nJ:x∈t.cps.toList:=by rw[hj];exact Bg (OC.mpr ⟨p,hp,rfl⟩) (by simpa using hx)
  have ha:=h.asc;rw[UG] at ha;exact ha x (by simpa using nJ)
def EO(hs:s=⟨#[c]⟩)(h:TG N t)(hN:N<=1000000):oH s U (some (.s t))=some (.ok (.ow (.l ((UA t s).map D.str))),U):=by
 refine lVa (by rw[hs];rfl) (uE h.len hN) ?_;rw[HF];exact λw hw=>kH ((KI hs h).1 w hw).1.asc
def sY{L:List D}{a b:Nat}(h:a<=b):bD (some (.l L)) (some (.int (a:Int))) (some (.int (b:Int)))=some (.ow (.l ((L.drop a).take (b-a)))):=by
 show some (RV.ow (.l (aAz L (some (a:Int)) (some (b:Int)))))=_;unfold aAz;rw[HT.FT,HT.FT]
 congr 3
 by_cases h1:a<=L.length
 ·rw[BU h1];by_cases h2:b<=L.length
  ·rw[BU h2]
  ·rw[kZ (by lia),CN (by rw[WG];lia),CN (by rw[WG];lia)]
 ·rw[gU (by lia),gU (by lia),FU,FU]
noncomputable def aI:List aA->Int->D
 |[],a=>.int a
 |w::r,a=>match iA w with
  |.int n=>if 0<=n/\n<=11 then aI r (AH a (2 ^ n.toNat)) else .oA
  |_=>.oA
noncomputable def NG(w:aA):D:=if(w==("-":aA))=true then .int 0 else aI (UA w (",":aA)) 0
theorem Lk:∀(ws:List aA) (a:Int) (t:Sl),PB t=true ->
  (∃b t',aI ws a=.int b/\KC (WA true [2]) (GA T.bA (run T W (n+2)) W KN) (ws.map iA) [x,.i a,t]=some (.nx,[x,.i b,t'])) \/
  (aI ws a=.oA/\∃y z,KC (WA true [2]) (GA T.bA (run T W (n+2)) W KN) (ws.map iA) [x,.i a,t]=some (.rt (.sh .oA),[x,y,z]))
 |[],a,t,_=>.inl ⟨a,t,rfl,rfl⟩
 |w::ws,a,t,ht=>by
  have hb:WA true [2] (iA w) [x,.i a,t]=some [x,.i a,.sh (iA w)]:=by simp only[CD,vC ht]<;>rfl
  have hw:=cI (W:=W) (n:=n) (d:=iA w) (lo:=0) (hi:=11) iL;rw[eD];by_cases c:EA 0 11 (iA w)=true
  ·obtain⟨i,hi,h1,h2⟩:=fE c
   have e2:aI (w::ws) a=aI ws (AH a (2 ^ i.toNat)):=by
    show(match iA w with | .int n=>if 0<=n/\n<=11 then aI ws (AH a (2 ^ n.toNat)) else .oA | _=>.oA)=_;rw[hi];exact uA ⟨h1,h2⟩
   rw[e2];rw[c] at hw;rw[hi] at hb hw ⊢;have h3:i<=1000:=by lia
   have e3:GA T.bA (run T W (n+2)) W KN [x,.i a,.i i]=some (.nx,[x,.i (AH a (2 ^ i.toNat)),.i i]):=by
    unfold KN
    right
   have ih:=Lk (W:=W) (n:=n) (x:=x) ws (AH a (2 ^ i.toNat)) (.i i) rfl;simp only[KC,hb,e3];exact ih
  ·have c:EA 0 11 (iA w)=false:=by simpa using c
   have e2:aI (w::ws) a=.oA:=by
    show(match iA w with | .int n=>if 0<=n/\n<=11 then aI ws (AH a (2 ^ n.toNat)) else .oA | _=>.oA)=_;rcases dD (w:=w) with h | ⟨i,h⟩
    ·rw[h]
    ·rw[h] at c ⊢;refine qB λz=>?_
     simp only[EA,Bool.and_eq_false_iff,zP] at c
     lia
   rw[c] at hw
   generalize iA w=d at *
   have e3:GA T.bA (run T W (n+2)) W KN [x,.i a,.sh d]=some (.rt (.sh .oA),[x,.i a,.sh d]):=by
    unfold KN
    right
   refine .inr ⟨e2,.i a,.sh d, ?_⟩;simp only[KC,hb,e3]
def up1(h:TG N w)(hN:N<=500000):TG 1000000 w:=h.up (by lia)
def iVa{W n:Nat}{w:aA}(h:TG 500000 w):"read_spans"|||n+3|||[.s w]|||.sh (NG w):=by
 rw[dC Js rfl rfl];unfold NG kW;cases c:w==("-":aA)
 ·obtain⟨h1,h2,h3,h4⟩:=KI IH h;have nE:∀U,oH (",":aA) U (some (.s w))=some (.ok (.ow (.l ((UA w (",":aA)).map D.str))),U):=λU=>EO IH h (by decide)
  have hl:=MO (ws:=UA w (",":aA));have hr:=RQ (W:=W) (n:=n) (ws:=UA w (",":aA)) (λp hp=>up1 (h1 p hp).1 (by decide)) (by have:=h.len;lia);have hi:∀U,aAa .of [.val (.ow (.l ((UA w (",":aA)).map iA)))] U=some ((UA w (",":aA)).map iA,none):=λU=>DI rfl
  rw[BB];unfold jA at hr;rcases Lk (W:=W) (n:=n) (x:=.s w) (UA w (",":aA)) 0 .un rfl with ⟨b,t',e1,e2⟩ | ⟨e1,y,z,e2⟩
  ·rw[e1]
   generalize (UA w (",":aA)).map iA=L at *
   generalize (UA w (",":aA)).map D.str=M at *
   clear h h1 h2 h3 h4 hl e1
   right
  ·rw[e1]
   generalize (UA w (",":aA)).map iA=L at *
   generalize (UA w (",":aA)).map D.str=M at *
   clear h h1 h2 h3 h4 hl e1
   right
   all_goals (first | done | rfl)
 ·rw[uA rfl];clear h
  right
def mVa:eE (NG w)=true:=by
 have:∀(ws:List aA) (a:Int),eE (aI ws a)=true:=by
  intro ws
  induction ws with
  |nil=>intro a;rfl
  |cons w r ih =>
   intro a;unfold aI;split
   ·split
    ·exact ih _
    ·rfl
   ·rfl
 unfold NG;split
 ·rfl
 ·exact this _ _
def Zw{xs ys:List aA}:rC .Eq (.l (xs.map D.str)) (.l (ys.map D.str))=some (decide (xs=ys)):=by
 have ok:∀zs:List aA,lB 20 (.l (zs.map D.str))=true:=λzs=>by(show(zs.map D.str).all (lB 19)=true;rw[bM,HF];intro w _;rfl)
 rw[Zu (ok xs) (ok ys)];congr 1;show tG (xs.map D.str) (ys.map D.str)=_
 induction xs generalizing ys with
 |nil=>cases ys<;>simp[tG]
 |cons a r ih =>
  cases ys with
  |nil=>simp[tG]
  |cons b s =>
   simp only[eD,tG,TC,ih,kP];by_cases h:a=b
   ·subst h;simp
   ·simp[h]
noncomputable def UO(r:List aA):Bool:=decide (r.drop 2=[("turned":aA)])
noncomputable def mL(r:List aA):D:=.t ((r.take 2).map iA++[.bl (UO r)])
def yz(h:∀x∈r,TG 1000000 x):"read_follower"|||n+3|||[.sh (jA (w::r))]|||.sh (mL r):=by
 rw[dC Es rfl rfl];unfold gW mL;have hr:=RQ (W:=W) (n:=n) (ws:=r.take 2) (λx hx=>h x (MJ hx)) (by rw[lG];lia)
 have s1:bD (some (jA (w::r))) (some (.int 1)) (some (.int 3))=some (.ow (jA (r.take 2))):=by
  have:=sY (L:=(w::r).map D.str) (a:=1) (b:=3) (by decide)
  rw[<- IJ,<- yR] at this;exact this
 have s2:bD (some (jA (w::r))) (some (.int 3)) none=some (.ow (jA (r.drop 2))):=by
  have:=xJ (L:=(w::r).map D.str) (c:=3)
  rw[<- IJ] at this;exact this
 have e:rC .Eq (jA (r.drop 2)) (.l [.str "turned"])=some (UO r):=Zw (xs:=r.drop 2) (ys:=[("turned":aA)]);have aF:pB ((r.take 2).map iA).length=true:=eC (by rw[JA,lG];lia);have hb:pC .Add (.l ((r.take 2).map iA)) (.l [.bl (UO r)])=some (.ow (.l ((r.take 2).map iA++[.bl (UO r)]))):=aL (eC (by rw[JA,lG];simp;lia))
 unfold jA at *
 generalize (w::r).map D.str=C at *
 right
noncomputable def rP(w:aA)(r:List aA):List D:=if(w==("span":aA))=true then(r.take 1).map iA++(r.drop 1).map NG else if(w==("never":aA))=true then(r.take 2).map iA++(r.drop 2).map D.str else r.map iA
def gY:(rP w r).all eE=true:=by
 unfold rP;split
 ·rw[cq,qA]
  refine⟨?_, ?_⟩<;>(rw[bM,HF];intro x _)<;>first | exact iL | exact mVa
 ·split
  ·rw[cq,qA]
   refine⟨?_, ?_⟩<;>(rw[bM,HF];intro x _)<;>first | exact iL | rfl
  ·rw[bM,HF];intro x _;exact iL
def Q7:(rP w r).length=r.length:=by
 unfold rP;split
 ·rw[lE,JA,JA,<- lE,jU]
 ·split
  ·rw[lE,JA,JA,<- lE,jU]
  ·rw[JA]
def mTa(h:∀x∈r,TG 500000 x)(hl:r.length<=500001):"read_rule"|||n+4|||[.sh (jA (w::r))]|||.sh (.t (.str w::rP w r)):=by
 rw[dC Hs rfl rfl];unfold jW;have hx:NC (some (jA (w::r))) (.int 0)=some (.s w):=EI;cases c1:w==("span":aA)
 ·cases c2:w==("never":aA)
  ·have hr:=RQ (W:=W) (n:=n+1) (ws:=r) (λx hx=>up1 (h x hx) (by decide)) (by lia);have s1:bD (some (jA (w::r))) none (some (.int 1))=some (.ow (.l [.str w])):=tY (L:=(w::r).map D.str) (c:=1);have s2:bD (some (jA (w::r))) (some (.int 1)) none=some (.ow (jA r)):=xJ (L:=(w::r).map D.str) (c:=1);have hb:pC .Add (.l [.str w]) (.l (r.map iA))=some (.ow (.l (.str w::r.map iA))):=aL (eC (by rw[JA];simp;lia));have e:rP w r=r.map iA:=by unfold rP;rw[c1,c2];rfl
   rw[e]
   unfold jA at *
   generalize r.map iA=L at *
   generalize r.map D.str=A at *
   generalize (w::r).map D.str=C at *
   clear h hl e
   right
  ·have ew:=jB c2;subst ew;have hr:=RQ (W:=W) (n:=n+1) (ws:=r.take 2) (λx hx=>up1 (h x (MJ hx)) (by decide)) (by rw[lG];lia)
   have s1:bD (some (jA (("never":aA)::r))) (some (.int 1)) (some (.int 3))=some (.ow (jA (r.take 2))):=by
    have:=sY (L:=(("never":aA)::r).map D.str) (a:=1) (b:=3) (by decide)
    rw[<- IJ,<- yR] at this;exact this
   have s2:bD (some (jA (("never":aA)::r))) (some (.int 3)) none=some (.ow (jA (r.drop 2))):=by
    have:=xJ (L:=(("never":aA)::r).map D.str) (c:=3)
    rw[<- IJ] at this;exact this
   have b1:pC .Add (.l [.str "never"]) (.l ((r.take 2).map iA))=some (.ow (.l (.str "never" :: (r.take 2).map iA))):=aL (eC (by rw[JA,lG];simp;lia));have b2:pC .Add (.l (.str "never" :: (r.take 2).map iA)) (jA (r.drop 2))=some (.ow (.l (.str "never" :: ((r.take 2).map iA++(r.drop 2).map D.str)))):=aL (eC (by rw[IC,JA,JA,lG,WG];lia));have e:rP ("never":aA) r=(r.take 2).map iA++(r.drop 2).map D.str:=by unfold rP;rw[c1,c2];rfl
   rw[e]
   unfold jA at *
   generalize (r.take 2).map iA++(r.drop 2).map D.str=R at *
   generalize (r.take 2).map iA=L at *
   generalize (r.take 2).map D.str=A at *
   generalize (r.drop 2).map D.str=B at *
   generalize (("never":aA)::r).map D.str=C at *
   clear h hl e
   right
 ·have ew:=jB c1;subst ew;have hr:=RQ (W:=W) (n:=n+1) (ws:=r.take 1) (λx hx=>up1 (h x (MJ hx)) (by decide)) (by rw[lG];lia)
  have s1:bD (some (jA (("span":aA)::r))) (some (.int 1)) (some (.int 2))=some (.ow (jA (r.take 1))):=by
   have:=sY (L:=(("span":aA)::r).map D.str) (a:=1) (b:=2) (by decide)
   rw[<- IJ,<- yR] at this;exact this
  have s2:bD (some (jA (("span":aA)::r))) (some (.int 2)) none=some (.ow (jA (r.drop 1))):=by
   have:=xJ (L:=(("span":aA)::r).map D.str) (c:=2)
   rw[<- IJ] at this;exact this
  obtain⟨U',ec,t,rfl,ht⟩:=mI (P:=T.bA) (C:=run T W (n+3)) (LA:=ev T.bA (run T W (n+3)) false X1) (bind:=WA true [1]) (xs:=r.drop 1) D.str NG (λU=>∃t,U=[.un,t]/\PB t=true)
   (λx hx U hU=>by
    obtain⟨t,rfl,ht⟩:=hU;have hs:=iVa (W:=W) (n:=n) (h x (MK hx));refine⟨[.un,.s x],.sh (NG x),[.un,.s x],by simp only[CD,vC ht]<;>rfl, ?_,rfl,_,rfl,rfl⟩;unfold X1;clear hx ht h hl hr s1 s2
    right) (U:=[.un,.un]) ⟨_,rfl,rfl⟩
  have hi:∀U,aAa .of [.val (.ow (.l ((r.drop 1).map D.str)))] U=some ((r.drop 1).map D.str,none):=λU=>DI rfl
  have aF:pB ((r.drop 1).map NG).length=true:=eC (by rw[JA,WG];lia);have b1:pC .Add (.l [.str "span"]) (.l ((r.take 1).map iA))=some (.ow (.l (.str "span" :: (r.take 1).map iA))):=aL (eC (by rw[JA,lG];simp;lia));have b2:pC .Add (.l (.str "span" :: (r.take 1).map iA)) (.l ((r.drop 1).map NG))=some (.ow (.l (.str "span" :: ((r.take 1).map iA++(r.drop 1).map NG)))):=aL (eC (by rw[IC,JA,JA,lG,WG];lia));have e:rP ("span":aA) r=(r.take 1).map iA++(r.drop 1).map NG:=by unfold rP;rw[c1];rfl
  rw[e]
  unfold jA at *
  generalize (r.drop 1).map D.str=B at *
  generalize (r.drop 1).map NG=E at *
  generalize (("span":aA)::r).map D.str=C at *
  clear h hl e ht
  right
  rw[jD (hi _)]
  right
  exfalso
def Us(h:VG b d)(k:VG c d):b=c:=by
 have:=(h 0 0).symm.trans (k 0 0)
 simp only[RB,ND,Out.ok.injEq,RV.sh.injEq,D.bl.injEq,and_true] at this;exact this
def IZ(h:RG ba oc ma b d)(k:RG ba oc ma c d):b=c:=by
 have:=(h 0 0).symm.trans (k 0 0)
 simp only[RB,ND,Out.ok.injEq,RV.sh.injEq,D.bl.injEq,and_true] at this;exact this
def Tb(h:ds.length≠3):VG false (.t ds):=λW n=>by
 rw[dC Pb rfl rfl];unfold mS;have e:decide ((ds.length:Int)=3)=false:=zB (by lia)
 right
def Ts(ha:eE a=true)(hb:eE b=true):VG (EA 0 4 a&&EA (-12) 12 b) (.t [a,b,.bl c]):=λW n=>by
 rw[dC Pb rfl rfl];unfold mS;have h1:=cI (W:=W) (n:=n) (lo:=0) (hi:=4) ha;have h2:=cI (W:=W) (n:=n) (lo:=-12) (hi:=12) hb;have e6:decide (((3:Nat):Int)=3)=true:=rfl
 generalize EA 0 4 a=r1 at *
 generalize EA (-12) 12 b=r2 at *
 clear ha hb;cases r1<;>cases r2<;>right
noncomputable def qW:List aA->Bool
 |a::b::_=>EA 0 4 (iA a)&&EA (-12) 12 (iA b)
 |_=>false
theorem Z2:∀r:List aA,VG (qW r) (mL r)
 |[]=>Tb (by simp)
 |[a]=>Tb (by simp)
 |a::b::s=>Ts (c:=UO (a::b::s)) iL iL
def KL(h:iA w=.int i):num i=w:=by
 unfold iA at h
 cases q:HE w with
 |none=>rw[q] at h;cases h
 |some n=>rw[q] at h;cases h;exact Tj q
def ML(h1:-60<=i)(h2:i<=60):iA (num i)=.int i:=by
 unfold iA;rw[S7 (eF h1 h2)]
theorem zz:∀{r:List aA},qW r=true->∃f,lM f/\mL r=toD f/\∃s,r=num f.1::num f.2.1::s/\f.2.2=UO r
 |a::b::s,h=>by
  unfold qW at h;rw[qA] at h;obtain⟨i,hi,i1,i2⟩:=fE h.1;obtain⟨j,hj,j1,j2⟩:=fE h.2;refine⟨(i,j,UO (a::b::s)),⟨i1,i2,j1,j2⟩, ?_,s, ?_,rfl⟩
  ·show D.t [iA a,iA b,.bl _]=_;rw[hi,hj];rfl
  ·rw[KL hi,KL hj]
def A3(h:lM f):mL (num f.1::num f.2.1::(if f.2.2=true then [("turned":aA)] else []))=toD f/\qW (num f.1::num f.2.1::(if f.2.2=true then [("turned":aA)] else []))=true:=by
 obtain⟨a,b,c⟩:=f;obtain⟨h1,h2,h3,h4⟩:=h;simp only at h1 h2 h3 h4;have e1:=ML (i:=a) (by lia) (by lia);have e2:=ML (i:=b) (by lia) (by lia);refine⟨?_, ?_⟩
 ·show D.t [iA (num a),iA (num b),.bl (decide ((if c=true then [("turned":aA)] else [])=[("turned":aA)]))]=_;rw[e1,e2];cases c<;>rfl
 ·show(EA 0 4 (iA (num a))&&EA (-12) 12 (iA (num b)))=true;rw[e1,e2];simp only[EA,qA,OE];exact⟨⟨h1,h2⟩,h3,h4⟩
noncomputable def qE(ba oc ma:Int)(w:aA)(ps:List D):Bool :=
 if(w==("span":aA))=true then xK ba oc ps else if(w==("leap":aA))=true then NB 1 0 12 ps else if(w==("back":aA))=true then NB 2 1 12 ps else if(w==("again":aA))=true then NB 1 1 3 ps
 else if(w==("range":aA))=true then NB 2 (-60) 60 ps&&GL ps else if(w==("above":aA))=true then NB 2 0 ma ps&&HL ps else if(w==("never":aA))=true then jH oc ps else false
def oY(ho:0<=oc)(hl:ps.length<=1000000)(hy:ps.all eE=true):RG ba oc ma (qE ba oc ma w ps) (.t (.str w::ps)):=λW n=>by
 unfold qE;cases c1:w==("span":aA)
 case true=>rw[jB c1];exact yk ho hy
 rw[BB];cases c2:w==("leap":aA)
 case true=>rw[jB c2];exact(UQ hl hy).1
 rw[BB];cases c3:w==("back":aA)
 case true=>rw[jB c3];exact(UQ hl hy).2.1
 rw[BB];cases c4:w==("again":aA)
 case true=>rw[jB c4];exact(UQ hl hy).2.2
 rw[BB];cases c5:w==("range":aA)
 case true=>rw[jB c5];exact(pY hl hy).1
 rw[BB];cases c6:w==("above":aA)
 case true=>rw[jB c6];exact(pY hl hy).2
 rw[BB];cases c7:w==("never":aA)
 case true=>rw[jB c7];exact wk hy
 rw[BB];exact nTa c1 c2 c3 c4 c5 c6 c7
def jc(h:NB 1 lo hi ps=true):∃i,ps=[.int i]/\lo<=i/\i<=hi:=by
 unfold NB at h;simp only[qA,OE] at h
 match ps,h with
 |[a],h =>
  simp only[TB,HK,IF] at h;obtain⟨i,rfl,i1,i2⟩:=fE h.2;exact⟨i,rfl,i1,i2⟩
 |[],h=>simp at h
 |_::_::_,h=>simp only[IC] at h;lia
def vk(o1:1<=oc)(h:qE ba oc ma w ps=true):UE no ba oc ma (.t (.str w::ps)):=by
 unfold qE at h;cases c1:w==("span":aA)
 case true =>
  rw[c1,uA rfl] at h;rw[jB c1];rcases Ik (ba:=ba) (oc:=oc) ps with ⟨a,b,rfl⟩ | e
  ·have h:(EA 0 (ba-1) a&&EA 0 (2 ^ oc.toNat-1) b)=true:=h;rw[qA] at h;obtain⟨i,rfl,i1,i2⟩:=fE h.1;obtain⟨j,rfl,j1,j2⟩:=fE h.2;exact .span i j i1 (by lia) j1 (by lia)
  ·rw[e] at h;cases h
 rw[c1,BB] at h;cases c2:w==("leap":aA)
 case true =>
  rw[c2,uA rfl] at h;obtain⟨i,rfl,i1,i2⟩:=jc h;rw[jB c2];exact .leap i i1 i2
 rw[c2,BB] at h;cases c3:w==("back":aA)
 case true =>
  rw[c3,uA rfl] at h;obtain⟨i,j,rfl,i1,i2,j1,j2⟩:=NP h;rw[jB c3];exact .back i j i1 i2 j1 j2
 rw[c3,BB] at h;cases c4:w==("again":aA)
 case true =>
  rw[c4,uA rfl] at h;obtain⟨i,rfl,i1,i2⟩:=jc h;rw[jB c4];exact .again i i1 i2
 rw[c4,BB] at h;cases c5:w==("range":aA)
 case true =>
  rw[c5,uA rfl,qA] at h;obtain⟨i,j,rfl,i1,i2,j1,j2⟩:=NP h.1;rw[jB c5];exact .range i j i1 (RL h.2) j2
 rw[c5,BB] at h;cases c6:w==("above":aA)
 case true =>
  rw[c6,uA rfl,qA] at h;obtain⟨i,j,rfl,i1,i2,j1,j2⟩:=NP h.1;have h2:(!decide (i=j))=true:=h.2;rw[QK,zP] at h2;have e1:((i.toNat:Nat):Int)=i:=by lia
  have e2:((j.toNat:Nat):Int)=j:=by lia
  rw[jB c6,<- e1,<- e2];exact .above i.toNat j.toNat (by lia) (by lia) (by lia)
 rw[c6,BB] at h;cases c7:w==("never":aA)
 case true =>
  rw[c7,uA rfl] at h;rw[jB c7];rcases l7 (oc:=oc) ps with ⟨a,b,c,rfl⟩ | e
  ·have h:(EA 0 (oc-1) a&&(EA 0 (oc-1) b&&GJ c))=true:=h;rw[qA,qA] at h;obtain⟨i,rfl,i1,i2⟩:=fE h.1;obtain⟨j,rfl,j1,j2⟩:=fE h.2.1
   cases c with
   |str x =>
    refine .never i j x i1 (by lia) j1 (by lia) ?_;have hw:inD (.str x) [.str (pA "like"),.str (pA "against"),.str (pA "aside"),.str (pA "any")]=true:=h.2.2;simp only[inD,FK,List.any_nil,TC,BH,OD,Ga] at hw;rcases hw with hw | hw | hw | hw
    ·exact .inl hw.symm
    ·exact .inr (.inl hw.symm)
    ·exact .inr (.inr (.inl hw.symm))
    ·exact .inr (.inr (.inr hw.symm))
   |_=>cases h.2.2
  ·rw[e] at h;cases h
 rw[c7,BB] at h;cases h
noncomputable def bG(f:Nat->Bool):Nat->Nat
 | 0=>0
 |m+1=>bG f m+(if f m=true then 2 ^ m else 0)
theorem MX(f:Nat->Bool):∀m,bG f m<2 ^ m
 | 0=>Nat.one_pos
 |m+1=>by
  have:=MX f m
  show bG f m+_<2 ^ (m+1);rw[Qa]
  split<;>lia
theorem Ai(f:Nat->Bool):∀{m k:Nat},k<m->OF (bG f m) k=f k
 |m+1,k,h=>by
  have hl:=MX f m;show decide ((bG f m+(if f m=true then 2 ^ m else 0)) / 2 ^ k % 2=1)=f k;by_cases hk:k=m
  ·subst hk;cases c:f k
   ·rw[BB,Nat.add_zero,wU hl];rfl
   ·rw[uA rfl,Nat.add_div_right _ (qa k),wU hl];rfl
  ·have ih:=Ai f (m:=m) (k:=k) (by lia)
   have e:2 ^ m=2 ^ k*(2*2 ^ (m-k-1)):=by
    rw[<- oq,<- Qa,<- Nat.pow_add];congr 1
    lia
   rw[<- ih];unfold OF;split
   ·rw[e,Nat.add_mul_div_left _ _ (qa k),Nat.add_mul_mod_self_left]
   ·rfl
theorem T2:∀{m a:Nat} {ks:List Nat},ks.Pairwise (·<·)->(∀k∈ks,a<=k/\k<a+m)->(Wa a m).filter (λk=>decide (k∈ks))=ks
 | 0,a,ks,_,h=>by
  cases ks with
  |nil=>rfl
  |cons k r=>have:=h k (.head _);lia
 |m+1,a,ks,hp,h=>by
  rw[Yp]
  cases ks with
  |nil=>simp
  |cons k r =>
   rw[gZ] at hp;by_cases hk:k=a
   ·subst hk;have hr:=T2 (m:=m) (a:=k+1) (ks:=r) hp.2 λj hj=>⟨hp.1 j hj,by have:=h j (.tail _ hj);lia⟩
    rw[jZ,uA (by simp)];congr 1;refine OU (Qp λj hj=>?_) hr
    have:=(List.mem_range'_1.mp hj).1
    have VB:j≠k:=by lia
    simp[VB]
   ·have h1:=h k (.head _)
    rw[jZ,qB (by
     simp only[AD,OE,not_or]
     exact⟨λz=>hk z.symm,λz=>by have:=hp.1 a z;lia⟩)]
    refine T2 (a:=a+1) (ks:=k::r) (gZ.mpr hp) λj hj=>?_
    have:=h j hj
    rcases AD.mp hj with rfl | hj
    ·lia
    ·have:=hp.1 j hj;lia
def ou(hm:m<=12)(hp:ks.Pairwise (·<·))(h:∀k∈ks,k<m):∃n,n<2 ^ m/\PF n=ks:=by
 refine⟨bG (λk=>decide (k∈ks)) m,MX _ m, ?_⟩;have e:=T2 (m:=12) (a:=0) hp λk hk=>⟨cM _,by have:=h k hk;lia⟩
 unfold PF;rw[z9];refine OU (Qp λk _=>?_) e;by_cases hk:k<m
 ·exact Ai _ hk
 ·have h1:k ∉ ks:=λz=>hk (h k z)
  have h2:bG (λk=>decide (k∈ks)) m / 2 ^ k=0:=wU (kE (MX _ m) (LJ (by decide) (by lia)));unfold OF;rw[h2,zB h1];rfl
def xu(n:Nat):(PF n).Pairwise (·<·):=List.Pairwise.filter _ List.pairwise_lt_range
def wu(hn:n<2 ^ m)(hk:k∈PF n):k<m:=by
 unfold PF at hk;have h1:=(iP.mp hk).2;unfold OF at h1;by_cases h:k<m
 ·exact h
 ·have h2:n / 2 ^ k=0:=wU (kE hn (LJ (by decide) (by lia)));rw[h2] at h1;cases h1
theorem Hk:∀(ks:List Nat) (a:Int),(∀k∈ks,k<12)->aI (ks.map λ(k:Nat)=>num (k:Int)) a=.int (ks.foldl (λa k=>AH a (p2 k)) a)
 |[],a,_=>rfl
 |k::ks,a,h=>by
  have hk:=h k (.head _);rw[eD,oa,<- Hk ks _ λj hj=>h j (.tail _ hj)];show(match iA (num (k:Int)) with | .int n=>if 0<=n/\n<=11 then aI _ (AH a (2 ^ n.toNat)) else .oA | _=>.oA)=_;rw[ML (by lia) (by lia)];simp only;rw[uA ⟨by lia,by lia⟩,BG,bj]
def kJa{k:Nat}(h:k<12):45 ∉ (num (k:Int)).cps.toList:=by
 have:∀k<12,(num ((k:Nat):Int)).cps.toList.contains 45=false:=by left
 intro z
 have:=this k h
 rw[List.contains_eq_mem,zP] at this;exact this z
def gVa{n:Nat}(h0:n≠0):(cD n==("-":aA))=false:=by
 rw[NK];intro z;have Se:45∈(cD n).cps.toList:=by rw[z];left
 rw[YQ h0] at Se;rcases FQ IH Se with h | ⟨w,h1,h2⟩
 ·cases h
 ·obtain⟨k,hk,rfl⟩:=OP h1;exact kJa hk h2
def Jk(hn:n<4096)(h0:n≠0):UA (cD n) (",":aA)=BD n:=by
 rw[YQ h0];refine l8 IH (λz=>Cc hn h0 (bP.mp z)) λw hw=>?_
 obtain⟨k,hk,rfl⟩:=OP hw;exact(eF (i:=(k:Int)) (by lia) (by lia)).az
def eVa(hn:n<4096):NG (cD n)=.int (n:Int):=by
 unfold NG;by_cases h0:n=0
 ·subst h0;rfl
 ·rw[gVa h0,BB,Jk hn h0];unfold BD;rw[Hk _ _ λk hk=>M0 hk,Bc hn]
noncomputable def BL(oc:Int):Option Int->List D->Bool
 |_,[]=>true
 |p,d::r=>match d with
  |.int n=>EA 0 (oc-1) (.int n)&&((match p with | none=>true | some q=>!decide (n<=q))&&BL oc (some n) r)
  |_=>false
noncomputable def aJ(oc:Int)(w:aA):Bool:=(w==("-":aA))||BL oc none ((UA w (",":aA)).map iA)
theorem Xf:∀{ws:List aA} {p:Option Int},BL oc p (ws.map iA)=true->∃ks:List Nat,ws=ks.map (λ(k:Nat)=>num (k:Int))/\ks.Pairwise (·<·)/\(∀k∈ks,(k:Int)<oc/\∀q,p=some q->q<(k:Int))
 |[],_,_=>⟨[],rfl,.nil,λ_ h=>nomatch h⟩
 |w::ws,p,h=>by
  rw[eD] at h;unfold BL at h;split at h
  ·rename_i n hn;rw[qA,qA] at h;obtain⟨i,hi,i1,i2⟩:=fE h.1;cases hi;obtain⟨ks,h1,h2,h3⟩:=Xf h.2.2;have en:((n.toNat:Nat):Int)=n:=by lia
   refine⟨n.toNat::ks, ?_, ?_,λk hk=>?_⟩
   ·rw[eD,<- h1,en,KL hn]
   ·rw[gZ];exact⟨λk hk=>by have:=(h3 k hk).2 n rfl;lia,h2⟩
   ·have hq:∀q,p=some q->q<n:=λq z=>by
     have:=h.2.1
     rw[z] at this;simp only[QK,zP] at this
     lia
    rcases AD.mp hk with rfl | hk
    ·exact⟨by lia,λq z=>by have:=hq q z;lia⟩
    ·have h4:=h3 k hk;exact⟨h4.1,λq z=>by have:=hq q z;have:=h4.2 n rfl;lia⟩
  ·cases h
theorem Zf:∀{ks:List Nat} {p:Option Int},ks.Pairwise (·<·)->(∀k∈ks,(k:Int)<oc/\k<12/\∀q,p=some q->q<(k:Int))->BL oc p ((ks.map λ(k:Nat)=>num (k:Int)).map iA)=true
 |[],_,_,_=>rfl
 |k::ks,p,hp,h=>by
  rw[gZ] at hp;obtain⟨h1,h2,h3⟩:=h k (.head _);have ih:=Zf (p:=some (k:Int)) hp.2 λj hj=>⟨(h j (.tail _ hj)).1,(h j (.tail _ hj)).2.1,λq z=>by cases z;have:=hp.1 j hj;lia⟩
  rw[eD,eD,ML (by lia) (by lia)];unfold BL;simp only[EA,ih,IF,qA,OE];refine⟨⟨by lia,by lia⟩, ?_⟩
  cases p with
  |none=>rfl
  |some q =>
   have:=h3 q rfl
   simp only[QK,zP]
   lia
def q_(o1:1<=oc)(o2:oc<=12)(hw:TG N w)(h:aJ oc w=true):∃n:Nat,n<2 ^ oc.toNat/\w=cD n:=by
 unfold aJ at h;rw[BH] at h;rcases h with h | h
 ·exact⟨0,qa _,jB h⟩
 ·obtain⟨h1,h2,h3,h4⟩:=KI IH hw;obtain⟨ks,k1,k2,k3⟩:=Xf h;obtain⟨n,n1,n2⟩:=ou (m:=oc.toNat) (by lia) k2 λk hk=>by have:=(k3 k hk).1;lia
  refine⟨n,n1, ?_⟩;have hb:BD n=UA w (",":aA):=by unfold BD;rw[n2,k1]
  have h0:n≠0:=λz=>by
   subst z
   have:BD 0=[]:=by left
   rw[this] at hb;exact h3 hb.symm
  rw[YQ h0,hb,h4]
def r_(o1:1<=oc)(o2:oc<=12)(hn:n<2 ^ oc.toNat):aJ oc (cD n)=true:=by
 unfold aJ;by_cases h0:n=0
 ·subst h0;rfl
 ·have Qe:2 ^ oc.toNat<=2 ^ 12:=LJ (by decide) (by lia);rw[Jk (by lia) h0,BH];refine .inr (Zf (xu n) λk hk=>⟨?_,M0 hk,λq z=>nomatch z⟩)
  have:=wu hn hk
  lia
def uk(b2:ba<=4)(o2:oc<=12)(m2:ma<=3)(h:UE no ba oc ma d)(e:rW d=w::r):D.t (.str w::rP w r)=d:=by
 have pl:∀{x:aA} {is:List Int},(x==("span":aA))=false->(x==("never":aA))=false->(∀i∈is,-60<=i/\i<=60)->rW (.t (.str x::is.map D.int))=w::r->D.t (.str w::rP w r)=.t (.str x::is.map D.int):=λ{x is} h1 h2 h3 e=>by
  have e1:rW (.t (.str x::is.map D.int))=x::is.map num:=by(show x::(if(x==("span":aA))=true then _ else(is.map D.int).map wd)=_;rw[h1,BB,oG];rfl)
  rw[e1] at e;cases e;unfold rP;rw[h1,h2,BB,BB,oG]
  congr 2
  exact cP λi hi=>ML (h3 i hi).1 (h3 i hi).2
 cases h with
 |span a b h1 h2 h3 h4 =>
  obtain⟨n,rfl⟩:∃n:Nat,b=(n:Int):=⟨b.toNat,by lia⟩
  have hp:(2:Int) ^ oc.toNat<=4096:=by
   have h3:2 ^ oc.toNat<=2 ^ 12:=LJ (by decide) (by lia:oc.toNat<=12)
   exact_mod_cast h3
  have e1:rW (.t [.str "span",.int a,.int (n:Int)])=[("span":aA),num a,cD n]:=by(show("span":aA)::(if(("span":aA)==("span":aA))=true then [num a,cD ((n:Int)).toNat] else _)=_;rw[uA (QE _),BG])
  rw[e1] at e;cases e;unfold rP;rw[uA (QE _)];show D.t [.str "span",iA (num a),NG (cD n)]=_;rw[ML (by lia) (by lia),eVa (by lia)]
 |leap a h1 h2=>exact pl (is:=[a]) (by left) (by left) (fc ⟨by lia,by lia⟩ λ_ h=>nomatch h) e
 |back a b h1 h2 h3 h4=>exact pl (is:=[a,b]) (by left) (by left) (fc ⟨by lia,by lia⟩ (fc ⟨by lia,by lia⟩ λ_ h=>nomatch h)) e
 |again a h1 h2=>exact pl (is:=[a]) (by left) (by left) (fc ⟨by lia,by lia⟩ λ_ h=>nomatch h) e
 |range a b h1 h2 h3=>exact pl (is:=[a,b]) (by left) (by left) (fc ⟨by lia,by lia⟩ (fc ⟨by lia,by lia⟩ λ_ h=>nomatch h)) e
 |above v w' h1 h2 h3=>exact pl (is:=[(v:Int),(w':Int)]) (by left) (by left) (fc ⟨by lia,by lia⟩ (fc ⟨by lia,by lia⟩ λ_ h=>nomatch h)) e
 |never a b x h1 h2 h3 h4 h5 =>
  have e0:(("never":aA)==("span":aA))=false:=by left
  have e1:rW (.t [.str "never",.int a,.int b,.str x])=[("never":aA),num a,num b,x]:=by(show("never":aA)::(if(("never":aA)==("span":aA))=true then _ else [num a,num b,x])=_;rw[e0,BB])
  rw[e1] at e;cases e;unfold rP;rw[e0,BB,uA (QE _)];show D.t [.str "never",iA (num a),iA (num b),.str x]=_;rw[ML (by lia) (by lia),ML (by lia) (by lia)]
noncomputable def gV:List aA->Bool
 |[a,b]=>EA 0 4 (iA a)&&EA (-12) 12 (iA b)
 |[a,b,c]=>(c==("turned":aA))&&(EA 0 4 (iA a)&&EA (-12) 12 (iA b))
 |_=>false
def Zb{L:List D}:NC (some (.l (a::b::c::d::L))) (.int 3)=some (.sh d):=by
 show(cH (a::b::c::d::L) 3).map RV.sh=_
 have:cH (a::b::c::d::L) 3=some d:=by(unfold cH L2.oC L2.iD;rw[uA (by decide),uA (by simp;lia)];rfl)
 rw[this];rfl
def XJ{L:List D}:NC (some (.l (a::b::c::L))) (.int 2)=some (.sh c):=by
 show(cH (a::b::c::L) 2).map RV.sh=_
 have:cH (a::b::c::L) 2=some c:=by(unfold cH L2.oC L2.iD;rw[uA (by decide),uA (by simp;lia)];rfl)
 rw[this];rfl
def u_(h:∀x∈r,TG 1000000 x):"L_good_voice"|||n+2|||[.sh (jA (w::r))]|||.b (gV r):=by
 rw[dC Sr rfl rfl];unfold TV
 have two:∀{a b:aA},TG 1000000 a->TG 1000000 b->"L_number"|||n+1|||[.s a]|||.sh (iA a)/\"L_number"|||n+1|||[.s b]|||.sh (iA b) /\
   "L_between"|||n+1|||[.sh (iA a),.i 0,.i 4]|||.b (EA 0 4 (iA a))/\"L_between"|||n+1|||[.sh (iA b),.i (-12),.i 12]|||.b (EA (-12) 12 (iA b)) :=
  λha hb=>⟨jT ha,jT hb,zM dD,zM dD⟩
 match r,h with
 |[],_ =>
  have e1:decide (((1:Nat):Int)=3)=false:=rfl;have e2:decide (((1:Nat):Int)=4)=false:=rfl;unfold jA gV
  right
 |[a],_ =>
  have e1:decide (((2:Nat):Int)=3)=false:=rfl;have e2:decide (((2:Nat):Int)=4)=false:=rfl;unfold jA gV
  right
 |[a,b],h =>
  obtain⟨h1,h2,h3,h4⟩:=two (h a (by simp)) (h b (by simp));have e1:decide (((3:Nat):Int)=3)=true:=rfl;have i2:=@XJ;rw[show gV [a,b]=(EA 0 4 (iA a)&&EA (-12) 12 (iA b)) from rfl];unfold jA
  generalize iA a=p at *
  generalize iA b=q at *
  generalize EA 0 4 p=x at *
  generalize EA (-12) 12 q=y at *
  cases x<;>right
 |[a,b,c],h =>
  obtain⟨h1,h2,h3,h4⟩:=two (h a (by simp)) (h b (by simp));have e1:decide (((4:Nat):Int)=3)=false:=rfl;have e2:decide (((4:Nat):Int)=4)=true:=rfl;have i2:=@XJ;have i3:=@Zb;rw[show gV [a,b,c]=((c==("turned":aA))&&(EA 0 4 (iA a)&&EA (-12) 12 (iA b))) from rfl];unfold jA
  generalize iA a=p at *
  generalize iA b=q at *
  generalize EA 0 4 p=x at *
  generalize EA (-12) 12 q=y at *
  cases hc:c==("turned":aA)
  ·right
  ·cases x<;>right
 |a::b::c::d::s,_ =>
  have e1:decide ((((s.map D.str).length+1+1+1+1+1:Nat):Int)=3)=false:=zB (by lia);have e2:decide ((((s.map D.str).length+1+1+1+1+1:Nat):Int)=4)=false:=zB (by lia);rw[show gV (a::b::c::d::s)=false from rfl,show jA (w::a::b::c::d::s)=.l (.str w::.str a::.str b::.str c::.str d::s.map D.str) from rfl]
  right
theorem W6{bind:D->Env->Option Env}{E:Sl->Env}{p:Nat->Bool}(hb:∀k t,PB t=true->bind (.int ((k:Nat):Int)) (E t)=some (E (.i (k:Int))))
  (hs:∀k<m,(∀j<k,p j=true)->body (E (.i (k:Int)))=if p k=true then some (.nx,E (.i (k:Int))) else some (.rt (.b false),E (.i (k:Int)))) :
  ∀(c k:Nat),k+c=m->(∀j<k,p j=true)->∀t,PB t=true->∃t',PB t'=true/\KC bind body ((Wa k c).map λ(j:Nat)=>.int (j:Int)) (E t)=if(Wa k c).all p=true then some (.nx,E t') else some (.rt (.b false),E t')
 | 0,k,_,_,t,ht=>⟨t,ht,rfl⟩
 |c+1,k,hk,hp,t,ht=>by
  rw[Yp,eD,TB];have h1:=hb k t ht;have h2:=hs k (by lia) hp;cases q:p k
  ·rw[q,BB] at h2;refine⟨.i (k:Int),rfl, ?_⟩;rw[iI,BB];simp only[KC,h1,h2]
  ·rw[q,uA rfl] at h2
   obtain⟨t',Z4,e⟩:=W6 hb hs c (k+1) (by lia) (λj hj=>by
    by_cases S':j=k
    ·rw[S'];exact q
    ·exact hp j (by lia)) (.i (k:Int)) rfl
   refine⟨t',Z4, ?_⟩;rw[YG,<- e];simp only[KC,h1,h2]
noncomputable def N6:D->D->Bool
 |.int a,.int b=>decide (a<=b)
 |_,_=>false
noncomputable def gq(oc:Int)(v:Option D)(ds:List D)(k:Nat):Bool:=EA 0 (oc-1) (ds.getD k .oA)&&(match (match k with | 0=>v | j+1=>some (ds.getD j .oA)) with | none=>true | some e=>!N6 (ds.getD k .oA) e)
theorem Pe:∀(ds:List D) (p:Option Int),(jC ds.length).all (gq oc (p.map D.int) ds)=BL oc p ds
 |[],_=>rfl
 |d::r,p=>by
  rw[IC,List.range_succ_eq_map,TB,bM]
  have h2:(jC r.length).all ((gq oc (p.map D.int) (d::r)) ∘ Nat.succ)=(jC r.length).all (gq oc (some d) r):=by
   congr 1
   funext k
   show gq oc (p.map D.int) (d::r) (k+1)=gq oc (some d) r k;unfold gq;cases k<;>rfl
  rw[h2]
  cases d with
  |int n =>
   have ih:=Pe (oc:=oc) r (some n);rw[WD] at ih;have e:BL oc p (.int n::r)=(EA 0 (oc-1) (.int n)&&((match p with | none=>true | some q=>!decide (n<=q))&&BL oc (some n) r)):=by cases p<;>rfl
   rw[ih,e,<- iq];cases p<;>rfl
  |_=>rfl
def SR{ds:List D}{k:Nat}(h:k<ds.length):NC (some (.l ds)) (.int (k:Int))=some (.sh (ds.getD k .oA)):=by
 show(cH ds (k:Int)).map RV.sh=_
 have:cH ds (k:Int)=some (ds.getD k .oA):=by(unfold cH L2.oC L2.iD;rw[uA (by lia),uA (by lia),BG];show ds[k]?=_;rw[gM,kC h];rfl)
 rw[this];rfl
def Ji(sS:el=.call "L_number" [.v 1]){ws:List aA}(h:∀w∈ws,TG 1000000 w):∃t,QD (fD T.bA (run T W (n+1)) []) (ev T.bA (run T W (n+1)) false el) (WA true [1]) (ws.map D.str) [] [.un,.un]=some (.ok (ws.map iA),[.un,t]):=by
 obtain⟨U',e,t,rfl,ht⟩:=mI (P:=T.bA) (C:=run T W (n+1)) (LA:=ev T.bA (run T W (n+1)) false el) (bind:=WA true [1]) (xs:=ws) D.str iA (λU=>∃t,U=[.un,t]/\PB t=true)
  (λw hw U hU=>by
   obtain⟨t,rfl,ht⟩:=hU;have hr:=jT (W:=W) (n:=n) (h w hw);refine⟨[.un,.s w],.sh (iA w),[.un,.s w],by simp only[CD,vC ht]<;>rfl, ?_,rfl,_,rfl,rfl⟩;subst sS
   right) (U:=[.un,.un]) ⟨_,rfl,rfl⟩
 exact⟨t,e⟩
def p_(h:TG 500000 w):"L_good_spans"|||n+2|||[.s w,.i oc]|||.b (aJ oc w):=by
 rw[dC Qr rfl rfl];unfold aJ SV;cases c:w==("-":aA)
 case true =>
  right
  rfl
 obtain⟨h1,h2,h3,h4⟩:=KI IH h;have nE:∀U,oH (",":aA) U (some (.s w))=some (.ok (.ow (.l ((UA w (",":aA)).map D.str))),U):=λU=>EO IH h (by decide)
 have hl:=MO (ws:=UA w (",":aA));obtain⟨t0,hc⟩:=Ji (W:=W) (n:=n) (el:=Jd) rfl (ws:=UA w (",":aA)) (λp hp=>up1 (h1 p hp).1 (by decide));have hz:=h.len;rw[Bool.false_or,<- Pe];have GB:((UA w (",":aA)).map iA).length<=1000000:=by rw[JA];lia
 have tL:∀U,aAa .of [.val (.ow (.l ((UA w (",":aA)).map D.str)))] U=some ((UA w (",":aA)).map D.str,none):=λU=>DI rfl
 have M_:∀d∈(UA w (",":aA)).map iA,d=.oA\/∃i,d=.int i:=λd hd=>by obtain⟨p,_,rfl⟩:=OC.mp hd;exact dD
 generalize (UA w (",":aA)).map iA=ds at *
 generalize (UA w (",":aA)).map D.str=M at *
 have gd:∀k<ds.length,ds.getD k .oA=.oA\/∃i,ds.getD k .oA=.int i:=λk hk=>M_ _ (by rw[gM,kC hk];exact CK hk)
 obtain⟨t',Z4,e⟩:=W6 (bind:=WA true [3]) (body:=GA T.bA (run T W (n+1)) W rV) (E:=λt=>[.s w,.i oc,.o (.l ds),t]) (m:=ds.length) (p:=gq oc none ds)
  (λk t ht=>by simp only[CD,vC ht]<;>rfl)
  (λk hk hp=>by
   have hx:=SR hk;have hb:=zM (W:=W) (n:=n) (lo:=0) (hi:=oc-1) (gd k hk)
   cases k with
   |zero =>
    have hx:NC (some (.l ds)) (.int 0)=some (.sh (ds.getD 0 .oA)):=hx;have e0:gq oc none ds 0=EA 0 (oc-1) (ds.getD 0 .oA):=IF _;show GA _ _ _ _ [_,_,_,.i 0]=_;rw[e0];unfold rV
    generalize ds.getD 0 .oA=d at *
    generalize EA 0 (oc-1) d=b at *
    cases b<;>right
    all_goals rfl
   |succ j =>
    have hj:=hp j (by lia);have nJ:=SR (ds:=ds) (k:=j) (by lia);have ej:((j+1:Nat):Int)-1=(j:Int):=by lia
    have e3:decide ((0:Int)<((j+1:Nat):Int))=true:=IB (by lia);have e0:gq oc none ds (j+1)=(EA 0 (oc-1) (ds.getD (j+1) .oA) && !N6 (ds.getD (j+1) .oA) (ds.getD j .oA)):=rfl
    have P':EA 0 (oc-1) (ds.getD j .oA)=true:=by(unfold gq at hj;rw[qA] at hj;exact hj.1)
    obtain⟨q,hq,_⟩:=fE P';rw[hq] at nJ e0;rw[e0]
    generalize ((j+1:Nat):Int)=z at *
    generalize ds.getD (j+1) .oA=d at *
    unfold rV;by_cases cw:EA 0 (oc-1) d=true
    ·obtain⟨i,rfl,_⟩:=fE cw;rw[cw] at hb ⊢;have el:N6 (.int i) (.int q)=decide (i<=q):=rfl;rw[el]
     generalize hdq:decide (i<=q)=b at *
     cases b<;>right
     all_goals rfl
    ·have cw:EA 0 (oc-1) d=false:=by simpa using cw
     rw[cw] at hb ⊢
     right) ds.length 0 (by lia) (λj hj=>absurd hj (zU j)) .un rfl
 rw[<- z9] at e
 have hi:∀U,aAa .yD [.val (.i (ds.length:Int))] U=some ((jC ds.length).map λ(j:Nat)=>.int (j:Int),none):=λU=>by(show @ite _ _ (cl _) _ none=_;rw[uA (by lia),BG])
 have aF:pB ds.length=true:=eC GB;have wL:pD .len [.l ds]=some (.i (ds.length:Int)):=rfl;have W_:(Option.map D.int none)=none:=rfl;rw[W_]
 generalize (jC ds.length).all (gq oc none ds)=b at *
 cases b
 ·rw[BB] at e
  right
  rw[jD (tL _)]
  right
  exfalso
 ·rw[uA rfl] at e
  right
  rw[jD (tL _)]
  right
  exfalso
noncomputable def gS(ba oc:Int):List aA->Bool
 |[a,b]=>EA 0 (ba-1) (iA a)&&aJ oc b
 |_=>false
def Le{ba oc:Int}(r:List aA):(∃a b,r=[a,b])\/gS ba oc r=false:=by
 rcases r with _ | ⟨a,_ | ⟨b,_ | ⟨c,r⟩⟩⟩<;>first | exact .inr rfl | exact .inl ⟨_,_,rfl⟩
noncomputable def gR(ba oc ma:Int)(w:aA)(r:List aA):Bool:=if(w==("span":aA))=true then gS ba oc r else qE ba oc ma w (rP w r)
def Cv:rC .NotIn (.str x) (.t [.str (pA "like"),.str (pA "against"),.str (pA "aside"),.str (pA "any")])=some (!GJ (.str x)):=(rfl)
noncomputable def K5:List aA:=[("leap":aA),("back":aA),("again":aA),("range":aA),("above":aA)]
noncomputable def b1(lo hi:Int):D:=.l [.t [.int lo,.int hi]]
noncomputable def b2(lo hi:Int):D:=.l [.t [.int lo,.int hi],.t [.int lo,.int hi]]
noncomputable def V5(ma:Int):List D:=[b1 0 12,b2 1 12,b1 1 3,b2 (-60) 60,b2 0 ma]
noncomputable def e5(ba oc ma:Int)(w:aA)(r:List aA)(t:Sl):Env:=[.sh (jA (w::r)),.i ba,.i oc,.i ma,.o (.l (r.map iA)),.o (.sC K5 (V5 ma)),t]
def kHa:cF K5 (V5 ma) x=if(x==("leap":aA))=true then some (b1 0 12) else if(x==("back":aA))=true then some (b2 1 12) else if(x==("again":aA))=true then some (b1 1 3) else if(x==("range":aA))=true then some (b2 (-60) 60) else if(x==("above":aA))=true then some (b2 0 ma) else none:=by
 have step:∀(k:aA) (ks:List aA) (d:D) (ds:List D),cF (k::ks) (d::ds) x=if(x==k)=true then some d else cF ks ds x:=λk ks d ds=>by
  unfold cF;rw[List.zip_cons_cons,yU];by_cases h:k=x
  ·subst h;simp
  ·have h1:(x==k)=false:=NK.mpr (gE h);rw[zB h,h1,BB]
 unfold K5 V5;simp only[step];rfl
def l_(h:∀x∈r,TG 1000000 x)(hl:r.length<=1000000)(h1:(w==("span":aA))=false) :
  GA T.bA (run T W (n+1)) W (vG.body.take 2) ([.sh (jA (w::r)),.i ba,.i oc,.i ma]++wC vG.nl .un)=some (.nx,[.sh (jA (w::r)),.i ba,.i oc,.i ma,.o (.l (r.map iA)),.un,.un]):=by
 have hx:NC (some (jA (w::r))) (.int 0)=some (.s w):=EI;obtain⟨t0,hc⟩:=Ji (W:=W) (n:=n) (el:=Fd) rfl h;have s2:bD (some (jA (w::r))) (some (.int 1)) none=some (.ow (jA r)):=xJ (L:=(w::r).map D.str) (c:=1);have tL:∀U,aAa .of [.val (.ow (jA r))] U=some (r.map D.str,none):=λU=>DI rfl
 have aF:pB (r.map iA).length=true:=eC (by rw[JA];exact hl);unfold vG
 right
 rw[jD (tL _)]
 right
 exfalso
def k_(h2:(w==("never":aA))=false) :
  GA P C W ((vG.body.drop 2).take 4) [.sh (jA (w::r)),.i ba,.i oc,.i ma,.o (.l (r.map iA)),.un,.un]=some (.nx,e5 ba oc ma w r .un):=by
 have hx:NC (some (jA (w::r))) (.int 0)=some (.s w):=EI;have k1:∀{U:Env} {a b c:D},r6 [("leap":aA),("back":aA),("again":aA)] [a,b,c] U=some (.ok (.ow (.sC [("leap":aA),("back":aA),("again":aA)] [a,b,c])),U):=λ{_ _ _ _}=>gEa ⟨rfl,by left⟩
 have k2:∀{U:Env} {ds:List D} {v:RV},kT 5 ("range":aA) v U (some (.o (.sC [("leap":aA),("back":aA),("again":aA)] ds)))=some (.nx,U.set 5 (.o (.sC [("leap":aA),("back":aA),("again":aA),("range":aA)] (ds++[v.d])))):=λ{_ _ _}=>Mh (by rw[eC (by decide)];left)
 have k3:∀{U:Env} {ds:List D} {v:RV},kT 5 ("above":aA) v U (some (.o (.sC [("leap":aA),("back":aA),("again":aA),("range":aA)] ds)))=some (.nx,U.set 5 (.o (.sC K5 (ds++[v.d])))):=λ{_ _ _}=>Mh (by rw[eC (by decide)];left)
 unfold vG e5 V5 b1 b2
 right
 all_goals (first | done | rfl)
def m_{L:List D}(hL:∀d∈L,d=.t [.int lo,.int hi])(hk:cF K5 (V5 ma) w=some (.l L))(hl:L.length=r.length) :
  ∃t',KC (WA true [6]) (GA T.bA (run T W (n+1)) W qV) ((jC r.length).map λ(j:Nat)=>.int (j:Int)) (e5 ba oc ma w r .un)=if(r.map iA).all (EA lo hi)=true then some (.nx,e5 ba oc ma w r t') else some (.rt (.b false),e5 ba oc ma w r t'):=by
 obtain⟨t',Z4,e⟩:=W6 (bind:=WA true [6]) (body:=GA T.bA (run T W (n+1)) W qV) (E:=e5 ba oc ma w r) (m:=r.length) (p:=λk=>EA lo hi ((r.map iA).getD k .oA))
  (λk t ht=>by unfold e5;simp only[CD,vC ht]<;>rfl)
  (λk oQ _=>by
   have VM:NC (some (jA (w::r))) (.int 0)=some (.s w):=EI;have vQ:=SR (ds:=r.map iA) (by rw[JA];exact oQ);have nJ:=SR (ds:=L) (k:=k) (by lia);have hd:L.getD k .oA=.t [.int lo,.int hi]:=hL _ (by rw[gM,kC (by lia)];exact CK _);rw[hd] at nJ;have GS:=wg hk
   have hb:=zM (W:=W) (n:=n) (d:=(r.map iA).getD k .oA) (lo:=lo) (hi:=hi) (by
    rw[gM,PL,kC oQ]
    exact dD)
   unfold qV e5
   generalize (r.map iA).getD k .oA=d at *
   generalize EA lo hi d=b at *
   cases b<;>right
   all_goals (first | done | rfl)) r.length 0 (by lia) (λj hj=>absurd hj (zU j)) .un rfl
 rw[<- z9] at e
 have ea:(jC r.length).all (λk=>EA lo hi ((r.map iA).getD k .oA))=(r.map iA).all (EA lo hi):=by
  rw[AU,HF,HF];constructor
  ·intro h d hd;obtain⟨k,hk,rfl⟩:=List.mem_iff_getElem.mp hd;rw[JA] at hk
   have:=h k (tN.mpr hk)
   rwa[gM,kC (by rw[JA];exact hk)] at this
  ·intro h k hk;have hk:=tN.mp hk;refine h _ ?_;rw[gM,kC (by rw[JA];exact hk)];exact CK _
 rw[ea] at e;exact⟨t',e⟩
def n_{W n:Nat}{ba oc ma lo hi:Int}{w:aA}{r:List aA}{L:List D}(hl:r.length<=1000000)(hL:∀d∈L,d=.t [.int lo,.int hi])(hk:cF K5 (V5 ma) w=some (.l L))(hw:(w==("range":aA))=true\/(w==("above":aA))=true->L.length=2) :
  ∃x1 x2 x3:Sl,GA T.bA (run T W (n+1)) W ((vG.body.drop 2).drop 4) (e5 ba oc ma w r .un)=some (.rt (.b (NB (L.length:Int) lo hi (r.map iA)&&(if(w==("range":aA))=true then GL (r.map iA) else if(w==("above":aA))=true then HL (r.map iA) else true))),[.sh (jA (w::r)),.i ba,.i oc,.i ma,x1,x2,x3]):=by
 have VM:NC (some (jA (w::r))) (.int 0)=some (.s w):=EI;have GS:=wg hk;have SM:(cF K5 (V5 ma) w).isSome=true:=by rw[hk];rfl
 have jJ:(r.map iA).length=r.length:=JA ..;by_cases c:L.length=r.length
 case neg =>
  have e1:decide ((L.length:Int)=(r.map iA).length)=false:=zB (by lia);have e2:NB (L.length:Int) lo hi (r.map iA)=false:=by unfold NB;rw[zB (by lia)];rfl
  rw[e2,iI];unfold vG e5
  generalize jA (w::r)=A at *
  generalize r.map iA=E at *
  generalize K5=K at *
  generalize V5 ma=V at *
  clear hk hL hl hw c jJ e2;refine⟨_,_,_,by right;rfl⟩
 obtain⟨t',e⟩:=m_ (W:=W) (n:=n) (ba:=ba) (oc:=oc) hL hk c;have e1:decide ((L.length:Int)=(r.map iA).length)=true:=IB (by lia);have ea:NB (L.length:Int) lo hi (r.map iA)=(r.map iA).all (EA lo hi):=by unfold NB;rw[IB (by lia)];rfl
 have hit:∀U,aAa .yD [.val (.i ((r.map iA).length:Int))] U=some ((jC r.length).map λ(j:Nat)=>.int (j:Int),none):=λU=>by(rw[jJ];show @ite _ _ (cl _) _ none=_;rw[uA (by lia),BG])
 have EM:∀t,e5 ba oc ma w r t=[.sh (jA (w::r)),.i ba,.i oc,.i ma,.o (.l (r.map iA)),.o (.sC K5 (V5 ma)),t]:=λ_=>rfl
 rw[ea];cases ca:(r.map iA).all (EA lo hi)
 ·rw[ca,BB] at e;rw[iI];rw[EM] at e ⊢;rw[EM] at e;unfold vG
  generalize (jC r.length).map (λ(j:Nat)=>D.int (j:Int))=R at *
  generalize jA (w::r)=A at *
  generalize r.map iA=E at *
  generalize K5=K at *
  generalize V5 ma=V at *
  clear hk hL hl hw c jJ ea ca EM;refine⟨_,_,_,by right;rfl⟩
 ·rw[ca,uA rfl] at e;rw[YG]
  have two:L.length=2->∃i j,r.map iA=[.int i,.int j]:=λh2=>by(obtain⟨i,j,h,_⟩:=NP (lo:=lo) (hi:=hi) (ps:=r.map iA) (by unfold NB;rw[ca,IB (by lia)];rfl);exact⟨i,j,h⟩)
  rw[EM] at e ⊢;rw[EM] at e;unfold vG
  generalize (jC r.length).map (λ(j:Nat)=>D.int (j:Int))=R at *
  generalize jA (w::r)=A at *
  generalize K5=K at *
  generalize V5 ma=V at *
  cases c1:w==("range":aA)
  ·cases c2:w==("above":aA)
   ·generalize r.map iA=E at *
    clear hk hL hl hw c jJ ea ca EM two;refine⟨_,_,_,by right;rfl⟩
   ·obtain⟨i,j,hE⟩:=two (hw (.inr c2));have e2:decide ((L.length:Int)=((2:Nat):Int))=true:=IB (by have:=hw (.inr c2);lia);rw[hE] at e hit ⊢;replace hit:∀U,aAa .yD [.val (.i ((2:Nat):Int))] U=some (R,none):=hit
    rw[show HL [.int i,.int j]=!decide (i=j) from rfl];clear hk hL hl hw c jJ ea ca EM two hE e1;refine⟨_,_,_,by right;rfl⟩
  ·obtain⟨i,j,hE⟩:=two (hw (.inl c1));have e2:decide ((L.length:Int)=((2:Nat):Int))=true:=IB (by have:=hw (.inl c1);lia);rw[hE] at e hit ⊢;replace hit:∀U,aAa .yD [.val (.i ((2:Nat):Int))] U=some (R,none):=hit
   rw[show GL [.int i,.int j]=decide (i<=j) from rfl];clear hk hL hl hw c jJ ea ca EM two hE e1;refine⟨_,_,_,by right;rfl⟩
def o_(h:∀x∈r,TG 500000 x)(hl:r.length<=500001) :
  "L_good_rule"|||n+3|||[.sh (jA (w::r)),.i ba,.i oc,.i ma]|||.b (gR ba oc ma w r):=by
 rw[dC Nr rfl rfl];have VM:NC (some (jA (w::r))) (.int 0)=some (.s w):=EI;have h6:∀x∈r,TG 1000000 x:=λx hx=>up1 (h x hx) (by decide)
 cases c0:w==("span":aA)
 case true =>
  have eg:gR ba oc ma w r=gS ba oc r:=by unfold gR;rw[c0];rfl
  rw[eg];unfold vG;by_cases c:∃a b,r=[a,b]
  ·obtain⟨a,b,rfl⟩:=c;have h1:=jT (W:=W) (n:=n+1) (h6 a (by simp));have h2:=zM (W:=W) (n:=n+1) (lo:=0) (hi:=ba-1) (dD (w:=a));have h3:=p_ (W:=W) (n:=n) (oc:=oc) (h b (by simp));have e1:decide (((3:Nat):Int)=3)=true:=rfl;have i2:=@XJ;rw[show gS ba oc [a,b]=(EA 0 (ba-1) (iA a)&&aJ oc b) from rfl];unfold jA
   generalize iA a=p at *
   generalize EA 0 (ba-1) p=x at *
   generalize aJ oc b=y at *
   clear eg h h6 hl VM;cases x<;>right
   all_goals (first | done | rfl)
  ·have e1:decide (((r.map D.str).length+1:Nat)=(3:Int))=false:=zB λz=>c (by
    rw[JA] at z
    exact Uh (by lia))
   have e2:gS ba oc r=false:=(Le r).resolve_left c;rw[e2];rw[show jA (w::r)=.l (.str w::r.map D.str) from rfl]
   generalize r.map D.str=S at *
   clear eg h h6 hl c e2 VM
   right
 have eg:gR ba oc ma w r=qE ba oc ma w (rP w r):=by unfold gR;rw[c0];rfl
 rw[eg,YE (l_ (n:=n+1) h6 (by lia) c0)];cases c1:w==("never":aA)
 case true =>
  have ew:=jB c1;subst ew
  have er:qE ba oc ma ("never":aA) (rP ("never":aA) r)=jH oc ((r.take 2).map iA++(r.drop 2).map D.str):=by
   have n1:(("never":aA)==("leap":aA))=false:=by left
   have n2:(("never":aA)==("back":aA))=false:=by left
   have n3:(("never":aA)==("again":aA))=false:=by left
   have n4:(("never":aA)==("range":aA))=false:=by left
   have n5:(("never":aA)==("above":aA))=false:=by left
   unfold qE rP;simp only[c0,c1,n1,n2,n3,n4,n5,zD,yE,iE]
  rw[er];clear er;unfold vG;by_cases c:∃a b d,r=[a,b,d]
  ·obtain⟨a,b,d,rfl⟩:=c;have h2:=zM (W:=W) (n:=n+1) (lo:=0) (hi:=oc-1) (dD (w:=a));have h3:=zM (W:=W) (n:=n+1) (lo:=0) (hi:=oc-1) (dD (w:=b));have e1:decide (((4:Nat):Int)=4)=true:=rfl;have hn:=Cv (x:=d);have i3:=@Zb;have ev:jH oc (([a,b,d].take 2).map iA++([a,b,d].drop 2).map D.str)=(EA 0 (oc-1) (iA a)&&(EA 0 (oc-1) (iA b)&&GJ (.str d))):=rfl;rw[ev];have em:[a,b,d].map iA=[iA a,iA b,iA d]:=rfl;rw[em];unfold jA
   generalize iA a=p at *
   generalize iA b=q at *
   generalize iA d=p3 at *
   generalize EA 0 (oc-1) p=x at *
   generalize EA 0 (oc-1) q=y at *
   generalize GJ (.str d)=z at *
   clear eg h h6 hl VM ev em;cases z
   ·rw[HJ,HJ]
    right
   ·rw[IF];cases x<;>right
    all_goals (first | done | rfl)
  ·have e1:decide (((r.map D.str).length+1:Nat)=(4:Int))=false:=zB λz=>c (by
    rw[JA] at z
    exact O6 (by lia))
   have e2:jH oc ((r.take 2).map iA++(r.drop 2).map D.str)=false:=(l7 _).resolve_left λ⟨x,y,z,e⟩=>c (by
    have:=congrArg AR e
    rw[lE,JA,JA,<- lE,jU] at this
    exact O6 this)
   rw[e2];rw[show jA (("never":aA)::r)=.l (.str "never" :: r.map D.str) from rfl]
   generalize r.map D.str=S at *
   generalize r.map iA=E at *
   clear eg h h6 hl c e2 VM
   right
 rw[YE (k_ c1)]
 have go:∀{L:List D} {lo hi:Int} (hL:∀d∈L,d=.t [.int lo,.int hi]) (hk:cF K5 (V5 ma) w=some (.l L)) (hw:(w==("range":aA))=true\/(w==("above":aA))=true->L.length=2),∃x1 x2 x3:Sl,GA T.bA (run T W (n+2)) W ((vG.body.drop 2).drop 4) (e5 ba oc ma w r .un)=some (.rt (.b (NB (L.length:Int) lo hi (r.map iA)&&(if(w==("range":aA))=true then GL (r.map iA) else if(w==("above":aA))=true then HL (r.map iA) else true))),[.sh (jA (w::r)),.i ba,.i oc,.i ma,x1,x2,x3]) :=
  λhL hk hw=>n_ (n:=n+1) (by lia) hL hk hw
 have Q3:∀{lo hi:Int},∀d∈[D.t [.int lo,.int hi]],d=.t [.int lo,.int hi]:=λd hd=>ME.mp hd
 have yW:∀{lo hi:Int},∀d∈[D.t [.int lo,.int hi],.t [.int lo,.int hi]],d=.t [.int lo,.int hi]:=λd hd=>by
  rcases AD.mp hd with h | h
  ·exact h
  ·exact ME.mp h
 have ZF:=kHa (ma:=ma) (x:=w);cases c2:w==("leap":aA)
 case true =>
  rw[c2,uA rfl] at ZF;have ew:=jB c2;have c5:(w==("range":aA))=false:=by rw[ew];left
  have c6:(w==("above":aA))=false:=by rw[ew];left
  obtain⟨x1,x2,x3,e⟩:=go Q3 ZF (λz=>by rw[c5,c6] at z;simp at z);rw[e,c5,c6];have er:qE ba oc ma w (rP w r)=NB 1 0 12 (r.map iA):=by unfold qE rP;simp only[c0,c1,c2,zD,yE,iE]
  rw[er];simp only[zD,yE,IF];rfl
 rw[c2,BB] at ZF;cases c3:w==("back":aA)
 case true =>
  rw[c3,uA rfl] at ZF;have ew:=jB c3;have c5:(w==("range":aA))=false:=by rw[ew];left
  have c6:(w==("above":aA))=false:=by rw[ew];left
  obtain⟨x1,x2,x3,e⟩:=go yW ZF (λ_=>rfl);rw[e,c5,c6];have er:qE ba oc ma w (rP w r)=NB 2 1 12 (r.map iA):=by unfold qE rP;simp only[c0,c1,c2,c3,zD,yE,iE]
  rw[er];simp only[zD,yE,IF];rfl
 rw[c3,BB] at ZF;cases c4:w==("again":aA)
 case true =>
  rw[c4,uA rfl] at ZF;have ew:=jB c4;have c5:(w==("range":aA))=false:=by rw[ew];left
  have c6:(w==("above":aA))=false:=by rw[ew];left
  obtain⟨x1,x2,x3,e⟩:=go Q3 ZF (λz=>by rw[c5,c6] at z;simp at z);rw[e,c5,c6];have er:qE ba oc ma w (rP w r)=NB 1 1 3 (r.map iA):=by unfold qE rP;simp only[c0,c1,c2,c3,c4,zD,yE,iE]
  rw[er];simp only[zD,yE,IF];rfl
 rw[c4,BB] at ZF;cases c5:w==("range":aA)
 case true =>
  rw[c5,uA rfl] at ZF;obtain⟨x1,x2,x3,e⟩:=go yW ZF (λ_=>rfl);rw[e,c5];have er:qE ba oc ma w (rP w r)=(NB 2 (-60) 60 (r.map iA)&&GL (r.map iA)):=by unfold qE rP;simp only[c0,c1,c2,c3,c4,c5,zD,yE,iE]
  rw[er,uA rfl];rfl
 rw[c5,BB] at ZF;cases c6:w==("above":aA)
 case true =>
  rw[c6,uA rfl] at ZF;obtain⟨x1,x2,x3,e⟩:=go yW ZF (λ_=>rfl);rw[e,c5,c6];have er:qE ba oc ma w (rP w r)=(NB 2 0 ma (r.map iA)&&HL (r.map iA)):=by unfold qE rP;simp only[c0,c1,c2,c3,c4,c5,c6,zD,yE,iE]
  rw[er,BB,uA rfl];rfl
 rw[c6,BB] at ZF;have er:qE ba oc ma w (rP w r)=false:=by unfold qE rP;simp only[c0,c1,c2,c3,c4,c5,c6,zD,yE]
 rw[er];have SM:(cF K5 (V5 ma) w).isSome=false:=by rw[ZF];rfl
 unfold vG e5
 generalize jA (w::r)=A at *
 generalize r.map iA=E at *
 generalize K5=K at *
 generalize V5 ma=V at *
 clear go Q3 yW h h6 hl eg er ZF
 right
noncomputable def aAi(t:aA):List (List aA):=(UA t ("\n":aA)).map λl=>UA l (" ":aA)
noncomputable def hd(r:List aA):aA:=r.headD ("":aA)
theorem ht(h:r≠[]):r=hd r::r.tail:=by
 cases r with
 |nil=>exact absurd rfl h
 |cons a s=>rfl
structure JN(R:List (List aA)):Prop where
 ne:∀r∈R,r≠[]
 tg:∀r∈R,∀w∈r,TG 500000 w
 ln:∀r∈R,r.length<=500001
 all:R.length<=500001
def TQ(h:TG 500000 t):JN (aAi t)/\aAi t≠[]/\t=YB ("\n":aA) ((aAi t).map eB):=by
 obtain⟨h1,h2,h3,h4⟩:=KI rJ h;have hl:=MO (ws:=UA t ("\n":aA));have hz:=h.len;refine⟨⟨λr hr=>?_,λr hr=>?_,λr hr=>?_, ?_⟩, ?_, ?_⟩
 ·obtain⟨l,hl,rfl⟩:=OC.mp hr;exact(KI IG (h1 l hl).1).2.2.1
 ·obtain⟨l,hl,rfl⟩:=OC.mp hr;exact λw hw=>((KI IG (h1 l hl).1).1 w hw).1
 ·obtain⟨l,hl,rfl⟩:=OC.mp hr
  have:=MO (ws:=UA l (" ":aA))
  have:=(KI IG (h1 l hl).1).2.1
  have:=(h1 l hl).1.len
  lia
 ·unfold aAi;rw[JA]
  lia
 ·exact λz=>h3 (bP.mp z)
 ·unfold aAi eB;rw[oG,show(UA t ("\n":aA)).map ((YB (" ":aA)) ∘ λl=>UA l (" ":aA))=UA t ("\n":aA) from ?_,h4];refine(cP λl hl=>?_).trans (BR _);exact(KI IG (h1 l hl).1).2.2.2
def ik(sS:el=.nH 1 (" ":aA))(h:TG 500000 t):∃s,QD (fD T.bA (run T W n) []) (ev T.bA (run T W n) false el) (WA true [1]) ((UA t ("\n":aA)).map D.str) [] [.un,.un]=some (.ok ((aAi t).map jA),[.un,s]):=by
 obtain⟨h1,h2,h3,h4⟩:=KI rJ h
 obtain⟨U',e,t',rfl,ht⟩:=mI (P:=T.bA) (C:=run T W n) (LA:=ev T.bA (run T W n) false el) (bind:=WA true [1]) (xs:=UA t ("\n":aA)) D.str (λl=>jA (UA l (" ":aA))) (λU=>∃t,U=[.un,t]/\PB t=true)
  (λl hl U hU=>by
   obtain⟨s,rfl,hs⟩:=hU;have nE:∀U,oH (" ":aA) U (some (.s l))=some (.ok (.ow (jA (UA l (" ":aA)))),U):=λU=>EO IG (h1 l hl).1 (by decide)
   refine⟨[.un,.s l],.ow (jA (UA l (" ":aA))),[.un,.s l],by simp only[CD,vC hs]<;>rfl, ?_,rfl,_,rfl,rfl⟩;subst sS
   right) (U:=[.un,.un]) ⟨_,rfl,rfl⟩
 refine⟨t', ?_⟩;rw[e];unfold aAi;rw[oG];rfl
def me{Z:List O}:pD .all [.l (Z.map λz=>.bl (p z))]=some (.b (Z.all p)):=by
 have h:RF (Z.map λz=>D.bl (p z))=some (Z.map p):=by
  induction Z with
  |nil=>rfl
  |cons a r ih =>
   show(RF (r.map λz=>D.bl (p z))).map (p a :: ·)=_;rw[ih];rfl
 show(RF _).map _=_;rw[h];simp[bM,tU]
noncomputable def gF(name:aA)(m:Int):List aA->Option Int
 |[a,b]=>if(a==name)=true then(match HE b with | some i=>if EA 1 m (.int i)=true then some i else none | none=>none) else none
 |_=>none
def O3(h:∀w∈row,TG 1000000 w)(hl:nums.length<=5)(vQ:NC (some (.l GN)) (.int k)=some (.sh (jA row)))(nJ:NC (some (.l [.str "notes",.str "bar",.str "octave"])) (.int k)=some (.s name))(GS:NC (some (.l [.int 7,.int 4,.int 12])) (.int k)=some (.i m))(wQ:∀d,NC (some (.l (nums++[d]))) (.int k)=some (.sh d)) :
  (∃i,gF name m row=some i/\GA T.bA (run T W (n+1)) W bL [.s t,.o (.l GN),.o (.l nums),.i k,.un]=some (.nx,[.s t,.o (.l GN),.o (.l (nums++[.int i])),.i k,.un])) \/
  (gF name m row=none/\∃x,GA T.bA (run T W (n+1)) W bL [.s t,.o (.l GN),.o (.l nums),.i k,.un]=some (.rt (.b false),[.s t,.o (.l GN),x,.i k,.un])):=by
 by_cases c:∃a b,row=[a,b]
 ·obtain⟨a,b,rfl⟩:=c;have e1:decide (((2:Nat):Int)=2)=true:=rfl;have hr:jA [a,b]=.l [.str a,.str b]:=rfl;rw[hr] at vQ;have hg:gF name m [a,b]=if(a==name)=true then(match HE b with | some i=>if EA 1 m (.int i)=true then some i else none | none=>none) else none:=rfl
  rw[hg];cases ca:a==name
  ·refine .inr ⟨rfl,.o (.l nums), ?_⟩;unfold bL
   right
  ·have h1:=jT (W:=W) (n:=n) (h b (by simp));have h2:=zM (W:=W) (n:=n) (lo:=1) (hi:=m) (dD (w:=b));have aF:pB (nums.length+1)=true:=eC (by lia);have wQ:=wQ (iA b);by_cases cw:EA 1 m (iA b)=true
   ·obtain⟨i,hi,_⟩:=fE cw;refine .inl ⟨i, ?_, ?_⟩
    ·have ho:HE b=some i:=by
      unfold iA at hi
      cases q:HE b with
      |none=>rw[q] at hi;cases hi
      |some j=>rw[q] at hi;cases hi;rfl
     rw[uA rfl,ho];rw[hi] at cw;exact uA cw
    ·rw[cw] at h2;rw[hi] at h1 h2 wQ;unfold bL
     right
   ·have cw:EA 1 m (iA b)=false:=by simpa using cw
    refine .inr ⟨?_,.o (.l (nums++[iA b])), ?_⟩
    ·rw[uA rfl];unfold iA at cw
     cases q:HE b with
     |none=>rfl
     |some j=>rw[q] at cw;exact qB (by rw[cw];decide)
    ·rw[cw] at h2;unfold bL
     right
 ·have e1:decide ((row.length:Int)=2)=false:=zB λz=>c (by
   match row,z with
   |[a,b],_=>exact⟨a,b,rfl⟩
   |[],z=>simp at z
   |[_],z=>simp at z
   |_::_::_::_,z=>simp only[IC] at z;lia)
  have wL:pD .len [jA row]=some (.i (row.length:Int)):=by(show some (RV.sh (.int ((row.map D.str).length:Int)))=_;rw[JA])
  refine .inr ⟨?_,.o (.l nums), ?_⟩
  ·unfold gF;split
   ·exact absurd ⟨_,_,rfl⟩ c
   ·rfl
  ·unfold bL
   right
def s_(h:JN (r0::r1::r2::aAc)) :
  (∃no ba oc,gF ("notes":aA) 7 r0=some no/\gF ("bar":aA) 4 r1=some ba/\gF ("octave":aA) 12 r2=some oc/\KC (WA true [3]) (GA T.bA (run T W (n+1)) W bL) [.int 0,.int 1,.int 2] [.s t,.o (.l ((r0::r1::r2::aAc).map jA)),.o (.l []),.un,.un]=some (.nx,[.s t,.o (.l ((r0::r1::r2::aAc).map jA)),.o (.l [.int no,.int ba,.int oc]),.i 2,.un])) \/
  ((gF ("notes":aA) 7 r0=none\/gF ("bar":aA) 4 r1=none\/gF ("octave":aA) 12 r2=none)/\∃x y,KC (WA true [3]) (GA T.bA (run T W (n+1)) W bL) [.int 0,.int 1,.int 2] [.s t,.o (.l ((r0::r1::r2::aAc).map jA)),.o (.l []),.un,.un]=some (.rt (.b false),[.s t,.o (.l ((r0::r1::r2::aAc).map jA)),x,y,.un])):=by
 have up:∀r∈r0::r1::r2::aAc,∀w∈r,TG 1000000 w:=λr hr w hw=>up1 (h.tg r hr w hw) (by decide)
 have bd:∀{a b:Sl} {k:Int} {s:Sl},PB s=true->WA true [3] (.int k) [.s t,a,b,s,.un]=some [.s t,a,b,.i k,.un]:=λ{a b k s} hs=>by simp only[CD,vC hs]<;>rfl
 rcases O3 (W:=W) (n:=n) (t:=t) (GN:=(r0::r1::r2::aAc).map jA) (nums:=[]) (k:=0) (up r0 (by simp)) (by simp) EI EI EI (λd=>rfl) with ⟨no,e0,s0⟩ | ⟨e0,x,s0⟩
 case inr=>exact .inr ⟨.inl e0,x,.i 0,by simp only[KC,bd mT,s0]⟩
 rcases O3 (W:=W) (n:=n) (t:=t) (GN:=(r0::r1::r2::aAc).map jA) (nums:=[.int no]) (k:=1) (up r1 (by simp)) (by simp) X5 X5 X5 (λd=>rfl) with ⟨ba,e1,s1⟩ | ⟨e1,x,s1⟩
 case inr=>exact .inr ⟨.inr (.inl e1),x,.i 1,by simp only[KC,bd mT,s0,UL,bd WX,s1]⟩
 rcases O3 (W:=W) (n:=n) (t:=t) (GN:=(r0::r1::r2::aAc).map jA) (nums:=[.int no,.int ba]) (k:=2) (up r2 (by simp)) (by simp) XJ XJ XJ (λd=>XJ) with ⟨oc,e2,s2⟩ | ⟨e2,x,s2⟩
 case inr=>exact .inr ⟨.inr (.inr e2),x,.i 2,by simp only[KC,bd mT,s0,UL,gP,bd WX,s1,s2]⟩
 exact .inl ⟨no,ba,oc,e0,e1,e2,by simp only[KC,bd mT,s0,UL,gP,bd WX,s1,s2]⟩
noncomputable def WB(r:List aA):Bool:=hd r==("voice":aA)
noncomputable def nL(ba oc:Int)(L:Nat)(aAc:List (List aA)):Bool :=
 let m:=(aAc.filter WB).length
 decide ((1:Int)<=m)&&(decide ((m:Int)<=3)&&(!decide ((11+m:Int)<L)&&((aAc.take m).all (λr=>WB r&&gV r.tail)&&(aAc.drop m).all λr=>gR ba oc m (hd r) r.tail)))
noncomputable def gT:List (List aA)->Bool
 |r0::r1::r2::r3::aAc=>match gF ("notes":aA) 7 r0,gF ("bar":aA) 4 r1,gF ("octave":aA) 12 r2 with
  |some _,some ba,some oc=>nL ba oc (aAc.length+4) (r3::aAc)
  |_,_,_=>false
 |_=>false
def t_{W n:Nat}{t:aA}(h:TG 500000 t):"L_good_text"|||n+4|||[.s t]|||.b (gT (aAi t)):=by
 rw[dC Rr rfl rfl];obtain⟨ok,ne,hj⟩:=TQ h;clear hj;obtain⟨s0,hc⟩:=ik (W:=W) (n:=n+3) (el:=Kd) rfl h;have nE:∀U,oH ("\n":aA) U (some (.s t))=some (.ok (.ow (.l ((UA t ("\n":aA)).map D.str))),U):=λU=>EO rJ h (by decide)
 have tL:∀U,aAa .of [.val (.ow (.l ((UA t ("\n":aA)).map D.str)))] U=some ((UA t ("\n":aA)).map D.str,none):=λU=>DI rfl
 have aF:pB ((aAi t).map jA).length=true:=eC (by rw[JA];have:=ok.all;lia)
 generalize aAi t=R at *
 have hA:GA T.bA (run T W (n+3)) W (VF.body.take 1) ([.s t]++wC VF.nl .un)=some (.nx,[.s t,.o (.l (R.map jA)),.un,.un,.un]):=by
  unfold VF
  generalize (UA t ("\n":aA)).map D.str=M at *
  generalize R.map jA=L at *
  clear h ok ne
  right
  rw[jD (tL _)]
  right
  exfalso
 rw[YE hA];clear hA hc nE tL aF h;by_cases c4:R.length<4
 ·have e1:decide (((R.map jA).length:Int)<4)=true:=IB (by rw[JA];lia)
  have e2:gT R=false:=by
   rcases R with _ | ⟨a,_ | ⟨b,_ | ⟨c,_ | ⟨d,r⟩⟩⟩⟩<;>first | rfl | (simp only[IC] at c4;lia)
  rw[e2];unfold VF
  generalize R.map jA=L at *
  clear ok ne c4 e2
  right
 obtain⟨r0,r1,r2,r3,aAc,rfl⟩:∃r0 r1 r2 r3 aAc,R=r0::r1::r2::r3::aAc:=by
  match R,c4 with
  |r0::r1::r2::r3::aAc,_=>exact⟨_,_,_,_,_,rfl⟩
  |[],c=>simp at c
  |[_],c=>simp at c
  |[_,_],c=>simp at c
  |[_,_,_],c=>simp at c
 have e1:decide ((((r0::r1::r2::r3::aAc).map jA).length:Int)<4)=false:=zB (by rw[JA];lia);have L':∀U,aAa .yD [.val (.i 3)] U=some ([.int 0,.int 1,.int 2],none):=λU=>Q5 (k:=3) (by decide)
 rcases s_ (W:=W) (n:=n+2) (t:=t) ok with ⟨no,ba,oc,g0,g1,g2,el⟩ | ⟨g0,x,y,el⟩
 case inr =>
  have e2:gT (r0::r1::r2::r3::aAc)=false:=by
   show(match gF ("notes":aA) 7 r0,gF ("bar":aA) 4 r1,gF ("octave":aA) 12 r2 with | some _,some ba,some oc=>nL ba oc (aAc.length+4) (r3::aAc) | _,_,_=>false)=false;split
   ·rename_i q1 q2 q3;rw[q1,q2,q3] at g0;simp at g0
   ·rfl
  rw[e2];unfold VF
  generalize (r0::r1::r2::r3::aAc).map jA=L at *
  clear ok ne c4 e2 g0
  right
  all_goals (first | done | rfl)
 have eT:gT (r0::r1::r2::r3::aAc)=nL ba oc (aAc.length+4) (r3::aAc):=by
  show(match gF ("notes":aA) 7 r0,gF ("bar":aA) 4 r1,gF ("octave":aA) 12 r2 with | some _,some ba,some oc=>nL ba oc (aAc.length+4) (r3::aAc) | _,_,_=>false)=_;rw[g0,g1,g2]
 rw[eT]
 have hB:GA T.bA (run T W (n+3)) W ((VF.body.drop 1).take 3) [.s t,.o (.l ((r0::r1::r2::r3::aAc).map jA)),.un,.un,.un]=some (.nx,[.s t,.o (.l ((r0::r1::r2::r3::aAc).map jA)),.o (.l [.int no,.int ba,.int oc]),.i 2,.un]):=by
  unfold VF
  generalize (r0::r1::r2::r3::aAc).map jA=L at *
  clear ok ne c4 g0 g1 g2 eT
  right
 rw[YE hB];clear hB e1 el L' eT g0 g1 g2
 generalize hS:r3::aAc=S at *
 have cG:∀r∈S,r≠[]/\(∀w∈r.tail,TG 500000 w)/\r.tail.length<=500001:=λr hr=>by
  have hm:r∈r0::r1::r2::S:=by simp[hr]
  exact⟨ok.ne r hm,λw hw=>ok.tg r hm w (aZ hw),by have:=ok.ln r hm;rw[aa];lia⟩
 have hL:(r0::r1::r2::S).length=aAc.length+4:=by rw[<- hS];rfl
 have jK:S.length<=500001:=by have:=ok.all;simp only[IC] at this hL;lia
 have s3:bD (some (.l ((r0::r1::r2::S).map jA))) (some (.int 3)) none=some (.ow (.l (S.map jA))):=xJ (L:=(r0::r1::r2::S).map jA) (c:=3)
 have hx:∀r:List aA,r≠[]->NC (some (jA r)) (.int 0)=some (.s (hd r)):=λr hr=>by(rw[ht hr];exact EI)
 -- how many o1a
 obtain⟨U1,Gw,t1,rfl,zI⟩:=SN (tests:=fD T.bA (run T W (n+3)) [(.IA .Eq (.ix (.v 1) (.c (.int 0))) (.c (.str ("voice":aA))))]) (LA:=ev T.bA (run T W (n+3)) false K1) (bind:=WA true [1]) (xs:=S) jA WB jA (λU=>∃t,U=[.un,t]/\PB t=true)
  (λr hr U hU=>by
   obtain⟨s,rfl,hs⟩:=hU;have hx:=hx r (cG r hr).1;have ev:(hd r==("voice":aA))=WB r:=rfl;refine⟨[.un,.sh (jA r)],[.un,.sh (jA r)],by simp only[CD,vC hs]<;>rfl, ?_,λ_=>⟨.sh (jA r),[.un,.sh (jA r)], ?_,rfl,_,rfl,rfl⟩,λ_=>⟨_,rfl,rfl⟩⟩
   ·generalize jA r=d at *
    generalize hd r=w at *
    generalize WB r=b at *
    clear hr hs ok cG hL jK s3 ne c4 hS;cases b<;>right
   ·unfold K1
    generalize jA r=d at *
    clear hr hs ok cG hL jK s3 ne c4 hS hx ev
    right) (U:=[.un,.un]) ⟨_,rfl,rfl⟩
 have hm:(S.filter WB).length<=S.length:=sR _ _;have wAa:pB ((S.filter WB).map jA).length=true:=eC (by rw[JA];lia);have QM:∀U,aAa .of [.val (.ow (.l (S.map jA)))] U=some (S.map jA,none):=λU=>DI rfl
 have wL:pD .len [.l ((S.filter WB).map jA)]=some (.i ((S.filter WB).length:Int)):=by(show some (RV.sh (.int (((S.filter WB).map jA).length:Int)))=_;rw[JA])
 have jJ:pD .len [.l ((r0::r1::r2::S).map jA)]=some (.i ((aAc.length+4:Nat):Int)):=by(show some (RV.sh (.int (((r0::r1::r2::S).map jA).length:Int)))=_;rw[JA,hL])
 have hC:GA T.bA (run T W (n+3)) W (((VF.body.drop 1).drop 3).take 1) [.s t,.o (.l ((r0::r1::r2::S).map jA)),.o (.l [.int no,.int ba,.int oc]),.i 2,.un]=some (.nx,[.s t,.o (.l ((r0::r1::r2::S).map jA)),.o (.l [.int no,.int ba,.int oc]),.i 2,.i ((S.filter WB).length:Int)]):=by
  unfold VF
  generalize (r0::r1::r2::S).map jA=L at *
  generalize (S.filter WB).map jA=F at *
  generalize S.map jA=G at *
  clear ok cG hL jK ne c4 hS hx hm zI jJ
  right
  rw[jD (QM _)]
  right
  exfalso
 rw[YE hC];clear hC Gw wAa QM wL s3 zI;unfold nL;simp only
 generalize (S.filter WB).length=m at *
 cases q1:decide ((1:Int)<=(m:Int))
 case false =>
  rw[iI];unfold VF
  generalize (r0::r1::r2::S).map jA=L at *
  clear ok cG hL jK ne c4 hS hx hm
  right
 cases q2:decide ((m:Int)<=3)
 case false =>
  rw[iI,HJ];unfold VF
  generalize (r0::r1::r2::S).map jA=L at *
  clear ok cG hL jK ne c4 hS hx hm
  right
 cases q3:decide ((11+m:Int)<((aAc.length+4:Nat):Int))
 case true =>
  rw[Bool.not_true,iI,HJ,HJ];unfold VF
  generalize (r0::r1::r2::S).map jA=L at *
  generalize ((aAc.length+4:Nat):Int)=LL at *
  clear ok cG hL jK ne c4 hS hx hm
  right
 rw[YG,YG,lq,YG];have pQ:m<=3:=by have:=RL q2;lia
 have s4:bD (some (.l ((r0::r1::r2::S).map jA))) (some (.int 3)) (some (.int (3+(m:Int))))=some (.ow (.l ((S.take m).map jA))):=by
  have:=sY (L:=(r0::r1::r2::S).map jA) (a:=3) (b:=3+m) (by lia)
  rw[<- IJ,<- yR,Nat.add_sub_cancel_left] at this;exact this
 have s5:bD (some (.l ((r0::r1::r2::S).map jA))) (some (.int (3+(m:Int)))) none=some (.ow (.l ((S.drop m).map jA))):=by
  have:=xJ (L:=(r0::r1::r2::S).map jA) (c:=3+m)
  rw[<- IJ,show(r0::r1::r2::S).drop (3+m)=S.drop m by rw[Nat.add_comm];rfl] at this;exact this
 obtain⟨U2,Hw,t2,rfl,AL⟩:=mI (P:=T.bA) (C:=run T W (n+3)) (LA:=ev T.bA (run T W (n+3)) false N1) (bind:=WA true [1]) (xs:=S.take m) jA (λr=>D.bl (WB r&&gV r.tail)) (λU=>∃t,U=[.un,t]/\PB t=true)
  (λr hr U hU=>by
   obtain⟨s,rfl,hs⟩:=hU;have hr:=MJ hr;have hx:=hx r (cG r hr).1;have ev:(hd r==("voice":aA))=WB r:=rfl;have hv:=u_ (W:=W) (n:=n+1) (w:=hd r) (r:=r.tail) (λw hw=>up1 ((cG r hr).2.1 w hw) (by decide));rw[<- ht (cG r hr).1] at hv;refine⟨[.un,.sh (jA r)],.b (WB r&&gV r.tail),[.un,.sh (jA r)],by simp only[CD,vC hs]<;>rfl, ?_,rfl,_,rfl,rfl⟩;unfold N1
   generalize jA r=d at *
   generalize hd r=w at *
   generalize WB r=b at *
   generalize gV r.tail=b2 at *
   clear hr hs ok cG hL jK s4 s5 ne c4 hS q1 q2 q3 hm pQ;cases b<;>right
   all_goals (first | done | rfl)) (U:=[.un,.un]) ⟨_,rfl,rfl⟩
 have mK:∀U,aAa .of [.val (.ow (.l ((S.take m).map jA)))] U=some ((S.take m).map jA,none):=λU=>DI rfl
 have Ff:pB ((S.take m).map λr=>D.bl (WB r&&gV r.tail)).length=true:=eC (by rw[JA,lG];lia);have Z3:=me (Z:=S.take m) (p:=λr=>WB r&&gV r.tail);cases qv:(S.take m).all (λr=>WB r&&gV r.tail)
 case false =>
  rw[iI];rw[qv] at Z3;unfold VF
  generalize (r0::r1::r2::S).map jA=L at *
  generalize (S.take m).map jA=F at *
  generalize ((S.take m).map λr=>D.bl (WB r&&gV r.tail))=G at *
  generalize ((aAc.length+4:Nat):Int)=LL at *
  clear ok cG hL jK ne c4 hS hx hm s5 AL qv pQ
  right
  rw[jD (mK _)]
  right
  exfalso
 rw[YG];rw[qv] at Z3
 obtain⟨U3,ec3,t3,rfl,j5⟩:=mI (P:=T.bA) (C:=run T W (n+3)) (LA:=ev T.bA (run T W (n+3)) false O1) (bind:=WA true [3]) (xs:=S.drop m) jA (λr=>D.bl (gR ba oc m (hd r) r.tail)) (λU=>∃t,U=[.i (m:Int),.p (.l [.int no,.int ba,.int oc]),.un,t]/\PB t=true)
  (λr hr U hU=>by
   obtain⟨s,rfl,hs⟩:=hU;have hr:=MK hr;have hg:=o_ (W:=W) (n:=n) (ba:=ba) (oc:=oc) (ma:=(m:Int)) (w:=hd r) (r:=r.tail) (cG r hr).2.1 (cG r hr).2.2;rw[<- ht (cG r hr).1] at hg;have i2:=@XJ;refine⟨[.i (m:Int),.p (.l [.int no,.int ba,.int oc]),.un,.sh (jA r)],.b (gR ba oc m (hd r) r.tail),[.i (m:Int),.p (.l [.int no,.int ba,.int oc]),.un,.sh (jA r)],by simp only[CD,vC hs]<;>rfl, ?_,rfl,_,rfl,rfl⟩;unfold O1
   generalize jA r=d at *
   generalize gR ba oc m (hd r) r.tail=b2 at *
   generalize (m:Int)=mm at *
   clear hr hs ok cG hL jK s4 s5 ne c4 hS q1 q2 q3 hm pQ hx Hw mK Ff Z3 qv AL
   right) (U:=[.i (m:Int),.p (.l [.int no,.int ba,.int oc]),.un,.un]) ⟨_,rfl,rfl⟩
 have Z_:∀U,aAa .of [.val (.ow (.l ((S.drop m).map jA)))] U=some ((S.drop m).map jA,none):=λU=>DI rfl
 have g0a:pB ((S.drop m).map λr=>D.bl (gR ba oc m (hd r) r.tail)).length=true:=eC (by rw[JA,WG];lia);have ha3:=me (Z:=S.drop m) (p:=λr=>gR ba oc m (hd r) r.tail)
 generalize (S.drop m).all (λr=>gR ba oc m (hd r) r.tail)=b3 at *
 unfold VF
 generalize (r0::r1::r2::S).map jA=L at *
 generalize (S.take m).map jA=F at *
 generalize (S.drop m).map jA=F3 at *
 generalize ((S.take m).map λr=>D.bl (WB r&&gV r.tail))=G at *
 generalize ((S.drop m).map λr=>D.bl (gR ba oc m (hd r) r.tail))=G3 at *
 generalize ((aAc.length+4:Nat):Int)=LL at *
 generalize (m:Int)=mm at *
 clear ok cG hL jK ne c4 hS hx hm AL j5 qv pQ
 right
 rw[jD (mK _)]
 right
 exfalso
 all_goals (try (rw[jD (Z_ _)];right))
 exfalso
def X7{d:D}(o1:1<=oc)(h:UE no ba oc ma d):"is_rule"|||n+4|||[.i ba,.i oc,.i ma,.sh d]|||.b true:=by
 have dt:∀{p:Prop} [Decidable p],p->decide p=true:=λh=>IB h
 cases h with
 |span a b h1 h2 h3 h4 =>
  have e:=yk (W:=W) (n:=n) (ba:=ba) (oc:=oc) (ma:=.int ma) (ps:=[.int a,.int b]) (by lia) rfl
  rwa[show xK ba oc [.int a,.int b]=true by simp only[xK,EA,qA];exact⟨⟨dt h1,dt (by lia)⟩,dt h3,dt (by lia)⟩] at e
 |leap a h1 h2 =>
  have e:=(UQ (W:=W) (n:=n) (ba:=.int ba) (oc:=.int oc) (ma:=.int ma) (ps:=[.int a]) (by simp) rfl).1
  rwa[show NB 1 0 12 [.int a]=true by simp only[NB,EA,TB,HK,IF,qA];exact⟨rfl,dt h1,dt h2⟩] at e
 |back a b h1 h2 h3 h4 =>
  have e:=(UQ (W:=W) (n:=n) (ba:=.int ba) (oc:=.int oc) (ma:=.int ma) (ps:=[.int a,.int b]) (by simp) rfl).2.1
  rwa[show NB 2 1 12 [.int a,.int b]=true by simp only[NB,EA,TB,HK,IF,qA];exact⟨rfl,⟨dt h1,dt h2⟩,dt h3,dt h4⟩] at e
 |again a h1 h2 =>
  have e:=(UQ (W:=W) (n:=n) (ba:=.int ba) (oc:=.int oc) (ma:=.int ma) (ps:=[.int a]) (by simp) rfl).2.2
  rwa[show NB 1 1 3 [.int a]=true by simp only[NB,EA,TB,HK,IF,qA];exact⟨rfl,dt h1,dt h2⟩] at e
 |range a b h1 h2 h3 =>
  have e:=(pY (W:=W) (n:=n) (ba:=.int ba) (oc:=.int oc) (ma:=ma) (ps:=[.int a,.int b]) (by simp) rfl).1
  rwa[show(NB 2 (-60) 60 [.int a,.int b]&&GL [.int a,.int b])=true by simp only[NB,GL,EA,TB,HK,IF,qA];exact⟨⟨rfl,⟨dt h1,dt (by lia)⟩,dt (by lia),dt h3⟩,dt h2⟩] at e
 |above v w h1 h2 h3 =>
  have e:=(pY (W:=W) (n:=n) (ba:=.int ba) (oc:=.int oc) (ma:=ma) (ps:=[.int v,.int w]) (by simp) rfl).2
  rwa[show(NB 2 0 ma [.int v,.int w]&&HL [.int v,.int w])=true by simp only[NB,HL,EA,TB,HK,IF,qA];exact⟨⟨rfl,⟨dt (by lia),dt h1⟩,dt (by lia),dt h2⟩,by rw[zB (by lia)];rfl⟩] at e
 |never a b x h1 h2 h3 h4 h5 =>
  have e:=wk (W:=W) (n:=n) (ba:=.int ba) (ma:=.int ma) (oc:=oc) (ps:=[.int a,.int b,.str x]) rfl
  have hx:GJ (.str x)=true:=by rcases h5 with rfl | rfl | rfl | rfl<;>left
  rwa[show jH oc [.int a,.int b,.str x]=true by simp only[jH,EA,hx,IF,qA];exact⟨⟨dt h1,dt (by lia)⟩,dt h3,dt (by lia)⟩] at e
def jk(h:HX no ba oc fs rs):aAi (AG no ba oc fs rs)=hW no ba oc fs rs:=by
 have VB:(hW no ba oc fs rs).map eB≠[]:=by unfold hW aO;simp
 unfold aAi AG;rw[l8 rJ VB λw hw=>(h.row w hw).2,oG];refine(cP λws hm=>?_).trans (BR _);obtain⟨h1,h2,h3⟩:=h.wo ws hm;exact l8 IG h3 λw hw=>(h1 w hw).MV
def W3:hW no ba oc fs rs=[("notes":aA),num no]::[("bar":aA),num ba]::[("octave":aA),num oc]::(fs.map vW++rs.map rW):=by
 unfold hW aO kS;simp[dU,tU]
def E3(h:gF name m r=some i):r=[name,num i]/\1<=i/\i<=m:=by
 unfold gF at h;split at h
 ·rename_i a b;split at h
  ·rename_i ha;split at h
   ·rename_i j hj;split at h
    ·rename_i hw;cases h;obtain⟨k,hk,k1,k2⟩:=fE hw;cases hk;rw[jB ha,Tj hj];exact⟨rfl,k1,k2⟩
    ·cases h
   ·cases h
  ·cases h
 ·cases h
def J3(h1:1<=i)(h2:i<=m)(h3:m<=60):gF name m [name,num i]=some i:=by
 show(if(name==name)=true then(match HE (num i) with | some i=>if EA 1 m (.int i)=true then some i else none | none=>none) else none)=_;rw[uA (QE _),S7 (eF (by lia) (by lia))];refine uA ?_;simp only[EA,qA,OE];exact⟨h1,h2⟩
def Tz:∀{r:List aA},gV r=true->∃f,lM f/\("voice":aA)::r=vW f:=by
 have two:∀{a b:aA},(EA 0 4 (iA a)&&EA (-12) 12 (iA b))=true->∃i j,a=num i/\b=num j/\(0<=i/\i<=4/\-12<=j/\j<=12):=λ{a b} h=>by(rw[qA] at h;obtain⟨i,hi,i1,i2⟩:=fE h.1;obtain⟨j,hj,j1,j2⟩:=fE h.2;exact⟨i,j,(KL hi).symm,(KL hj).symm,i1,i2,j1,j2⟩)
 intro r h;rcases r with _ | ⟨a,_ | ⟨b,_ | ⟨c,_ | ⟨d,r⟩⟩⟩⟩
 ·cases h
 ·cases h
 ·obtain⟨i,j,rfl,rfl,k⟩:=two h;exact⟨(i,j,false),k,rfl⟩
 ·have h:((c==("turned":aA))&&(EA 0 4 (iA a)&&EA (-12) 12 (iA b)))=true:=h;rw[qA] at h;obtain⟨i,j,rfl,rfl,k⟩:=two h.2;exact⟨(i,j,true),k,by rw[jB h.1];rfl⟩
 ·cases h
def Uz(h:lM f):gV (vW f).tail=true:=by
 obtain⟨a,b,c⟩:=f;have hb:(EA 0 4 (iA (num a))&&EA (-12) 12 (iA (num b)))=true:=(A3 h).2;cases c
 ·exact hb
 ·show((("turned":aA)==("turned":aA))&&(EA 0 4 (iA (num a))&&EA (-12) 12 (iA (num b))))=true;rw[hb,QE];rfl
theorem Kn:∀{r:List aA},(r.map iA).all (EA lo hi)=true->(r.map iA).map wd=r
 |[],_=>rfl
 |w::r,h=>by(rw[eD,TB,qA] at h;obtain⟨i,hi,_⟩:=fE h.1;rw[eD,eD,Kn h.2,hi];show num i::r=_;rw[KL hi])
def Oz(o1:1<=oc)(o2:oc<=12)(ht:∀x∈r,TG 500000 x)(h:gR ba oc ma w r=true):∃d,UE no ba oc ma d/\w::r=rW d:=by
 unfold gR at h;cases c0:w==("span":aA)
 case true =>
  rw[c0,uA rfl] at h;rcases Le (ba:=ba) (oc:=oc) r with ⟨a,b,rfl⟩ | e
  ·have h:(EA 0 (ba-1) (iA a)&&aJ oc b)=true:=h;rw[qA] at h;obtain⟨i,hi,i1,i2⟩:=fE h.1;obtain⟨n,n1,rfl⟩:=q_ o1 o2 (ht b (by simp)) h.2;refine⟨.t [.str "span",.int i,.int (n:Int)],.span i n i1 (by lia) (by lia) (by exact_mod_cast n1), ?_⟩;rw[jB c0,<- KL hi];show _=("span":aA)::(if(("span":aA)==("span":aA))=true then [num i,cD ((n:Int)).toNat] else _);rw[uA (QE _),BG]
  ·rw[e] at h;cases h
 rw[c0,BB] at h;refine⟨_,vk o1 h, ?_⟩;show _=w::(if(w==("span":aA))=true then i8 (rP w r) else(rP w r).map wd);rw[c0,BB];congr 1;unfold rP at h ⊢;rw[c0,BB] at h ⊢;cases c1:w==("never":aA)
 case true =>
  rw[c1,uA rfl] at h;have ew:=jB c1;subst ew
  have hn:jH oc ((r.take 2).map iA++(r.drop 2).map D.str)=true:=by
   have n1:(("never":aA)==("leap":aA))=false:=by left
   have n2:(("never":aA)==("back":aA))=false:=by left
   have n3:(("never":aA)==("again":aA))=false:=by left
   have n4:(("never":aA)==("range":aA))=false:=by left
   have n5:(("never":aA)==("above":aA))=false:=by left
   unfold qE at h;simpa only[c0,c1,n1,n2,n3,n4,n5,zD,yE,iE] using h
  rw[uA rfl]
  match r,hn with
  |[a,b,x],hn =>
   have hn:(EA 0 (oc-1) (iA a)&&(EA 0 (oc-1) (iA b)&&GJ (.str x)))=true:=hn;rw[qA,qA] at hn;obtain⟨i,hi,_⟩:=fE hn.1;obtain⟨j,hj,_⟩:=fE hn.2.1;show [a,b,x]=[wd (iA a),wd (iA b),x];rw[hi,hj];show _=[num i,num j,x];rw[KL hi,KL hj]
  |[],hn=>cases hn
  |[_],hn=>cases hn
  |[_,_],hn=>cases hn
  |_::_::_::_::_,hn=>cases hn
 rw[c1,BB] at h;rw[BB]
 have XA:∀{k lo hi:Int},NB k lo hi (r.map iA)=true->r=(r.map iA).map wd:=λ{k lo hi} h=>by(unfold NB at h;rw[qA] at h;exact(Kn h.2).symm)
 unfold qE at h;cases c2:w==("leap":aA)
 case true=>exact XA (by simpa only[c0,c2,zD,yE,iE] using h)
 cases c3:w==("back":aA)
 case true=>exact XA (by simpa only[c0,c2,c3,zD,yE,iE] using h)
 cases c4:w==("again":aA)
 case true=>exact XA (by simpa only[c0,c2,c3,c4,zD,yE,iE] using h)
 cases c5:w==("range":aA)
 case true =>
  rw[c0,c2,c3,c4,c5,BB,BB,BB,BB,uA rfl,qA] at h;exact XA h.1
 cases c6:w==("above":aA)
 case true =>
  rw[c0,c2,c3,c4,c5,c6,BB,BB,BB,BB,BB,uA rfl,qA] at h;exact XA h.1
 rw[c0,c2,c3,c4,c5,c6,c1] at h;cases h
def Pz(o1:1<=oc)(o2:oc<=12)(b2:ba<=4)(m2:ma<=3)(h:UE no ba oc ma d)(e:rW d=w::r):gR ba oc ma w r=true:=by
 have hb:=uk b2 o2 m2 h e;unfold gR;cases c0:w==("span":aA)
 ·rw[BB]
  have hl:(rP w r).length<=1000000:=by
   rw[Q7]
   have:=(W7 o2 b2 m2 h).ln
   rw[e,IC] at this
   lia
  have h1:=oY (ba:=ba) (oc:=oc) (ma:=ma) (w:=w) (by lia) hl gY;rw[hb] at h1;exact IZ h1 λW n=>X7 o1 h
 ·rw[uA rfl];have ew:=jB c0;subst ew
  have hs:xK ba oc (rP ("span":aA) r)=true:=by
   have hl:(rP ("span":aA) r).length<=1000000:=by
    rw[Q7]
    have:=(W7 o2 b2 m2 h).ln
    rw[e,IC] at this
    lia
   have h1:=oY (ba:=ba) (oc:=oc) (ma:=ma) (w:=("span":aA)) (by lia) hl gY;rw[hb] at h1;have h2:=IZ h1 λW n=>X7 o1 h
   unfold qE at h2
   rwa[uA (QE _)] at h2
  cases h with
  |span a b h1 h2 h3 h4 =>
   obtain⟨n,rfl⟩:∃n:Nat,b=(n:Int):=⟨b.toNat,by lia⟩
   have e1:rW (.t [.str "span",.int a,.int (n:Int)])=[("span":aA),num a,cD n]:=by(show("span":aA)::(if(("span":aA)==("span":aA))=true then [num a,cD ((n:Int)).toNat] else _)=_;rw[uA (QE _),BG])
   rw[e1] at e;cases e;show(EA 0 (ba-1) (iA (num a))&&aJ oc (cD n))=true;rw[ML (by lia) (by lia),r_ o1 o2 (by exact_mod_cast h4),IF];simp only[EA,qA,OE];exact⟨h1,by lia⟩
  |_=>exact absurd (congrArg (λd=>match d with | D.t (.str x::_)=>x==("span":aA) | _=>false) hb) (by simp only;left)
theorem zX{P:O->Prop}:∀{l:List N},(∀r∈l,∃f,P f/\r=g f)->∃fs:List O,(∀f∈fs,P f)/\l=fs.map g
 |[],_=>⟨[],(λ_ h=>nomatch h),rfl⟩
 |r::l,h=>by
  obtain⟨f,h1,h2⟩:=h r (.head _);obtain⟨fs,h3,h4⟩:=zX λx hx=>h x (.tail _ hx)
  exact⟨f::fs,λx hx=>by rcases AD.mp hx with rfl | hx;exact h1;exact h3 x hx,by rw[h4,h2];rfl⟩
def Qz{R:List (List aA)}(ok:JN R)(h:gT R=true):∃no ba oc fs rs,HX no ba oc fs rs/\R=hW no ba oc fs rs:=by
 rcases R with _ | ⟨r0,_ | ⟨r1,_ | ⟨r2,_ | ⟨r3,aAc⟩⟩⟩⟩
 ·cases h
 ·cases h
 ·cases h
 ·cases h
 ·unfold gT at h;dsimp only at h;split at h
  ·rename_i no ba oc g0 g1 g2;obtain⟨rfl,n1,n2⟩:=E3 g0;obtain⟨rfl,b1,b2⟩:=E3 g1;obtain⟨rfl,o1,o2⟩:=E3 g2;have hS:∀r∈r3::aAc,r≠[]/\∀w∈r.tail,TG 500000 w:=λr hr=>⟨ok.ne r (.tail _ (.tail _ (.tail _ hr))),λw hw=>ok.tg r (.tail _ (.tail _ (.tail _ hr))) w (aZ hw)⟩
   have GB:(r3::aAc).length+3=aAc.length+4:=by simp
   generalize r3::aAc=S at *
   generalize aAc.length+4=L at *
   unfold nL at h;simp only at h;have hm:(S.filter WB).length<=S.length:=sR _ _
   generalize (S.filter WB).length=m at *
   simp only[qA,OE,QK,zP] at h;obtain⟨m1,m2,m3,hv,hr⟩:=h
   obtain⟨fs,f1,f2⟩:=zX (l:=S.take m) (g:=vW) (P:=lM) λr hx=>by
    have:=HF.mp hv r hx
    rw[qA] at this;obtain⟨f,hf,e⟩:=Tz this.2;refine⟨f,hf, ?_⟩;rw[<- e,ht (hS r (MJ hx)).1];congr 1;exact jB this.1
   obtain⟨rs,Jz,Ke⟩:=zX (l:=S.drop m) (g:=rW) (P:=UE no ba oc m) λr hx=>by
    have:=HF.mp hr r hx
    obtain⟨d,J_,e⟩:=Oz (no:=no) o1 o2 (hS r (MK hx)).2 this;exact⟨d,J_,by rw[<- e];exact ht (hS r (MK hx)).1⟩
   have l1:fs.length=m:=by rw[<- JA (f:=vW),<- f2,lG];lia
   have l2:rs.length=S.length-m:=by rw[<- JA (f:=rW),<- Ke,WG]
   refine⟨no,ba,oc,fs,rs,⟨⟨n1,n2,b1,b2,o1,o2,by lia,by lia,f1⟩,by lia, ?_⟩, ?_⟩
   ·rw[l1];exact Jz
   ·rw[W3,<- f2,<- Ke,jU]
  ·cases h
def Rz(h:HX no ba oc fs rs):gT (hW no ba oc fs rs)=true:=by
 obtain⟨n1,n2,b1,b2,o1,o2,l1,l2,hf⟩:=h.ho;obtain⟨q1,q2⟩:=h.rr;have hv:∀f,WB (vW f)=true:=λf=>QE (("voice":aA))
 have hr:∀d∈rs,WB (rW d)=false:=λd hd=>by(obtain⟨x,r,e,hx⟩:=(h.r d hd).nv;rw[e];exact hx)
 have TH:((fs.map vW++rs.map rW).filter WB).length=fs.length:=by
  rw[dP,dZ.mpr,YY.mpr,DK,JA]
  ·intro r dE;obtain⟨d,hd,rfl⟩:=OC.mp dE;rw[hr d hd];decide
  ·intro r dE;obtain⟨f,_,rfl⟩:=OC.mp dE;exact hv f
 have main:nL ba oc ((fs.map vW++rs.map rW).length+3) (fs.map vW++rs.map rW)=true:=by
  unfold nL;simp only;rw[TH,IB (by lia),IB (by lia),zB (by rw[lE,JA,JA];lia),List.take_left' (JA ..),List.drop_left' (JA ..)];simp only[YG,lq,qA,HF];refine⟨λr dE=>?_,λr dE=>?_⟩
  ·obtain⟨f,vS,rfl⟩:=OC.mp dE;exact⟨hv f,Uz (hf f vS)⟩
  ·obtain⟨d,hd,rfl⟩:=OC.mp dE;obtain⟨x,r,e,hx⟩:=(h.r d hd).nv
   have:=Pz o1 o2 b2 (by lia) (q2 d hd) e
   rw[e];exact this
 rw[W3]
 cases hS:fs.map vW++rs.map rW with
 |nil =>
  have:=congrArg AR hS
  rw[lE,JA,JA,rN] at this
  lia
 |cons r3 aAc =>
  rw[hS] at main;show(match gF ("notes":aA) 7 [("notes":aA),num no],gF ("bar":aA) 4 [("bar":aA),num ba],gF ("octave":aA) 12 [("octave":aA),num oc] with | some _,some ba,some oc=>nL ba oc (aAc.length+4) (r3::aAc) | _,_,_=>false)=true;rw[J3 n1 n2 (by decide),J3 b1 b2 (by decide),J3 o1 o2 (by decide)];exact main
theorem eS:∀{j:Nat} {l:List S} {U:Env},GA P C W (l.take j) U=some (.nx,U')->aD P C W l U=aD P C W (l.drop j) U'
 | 0,l,U,h=>by
  rw[oZ,fS] at h;cases h;rfl
 |j+1,[],U,h=>by
  rw[FU,fS] at h;cases h;rfl
 |j+1,s::l,U,h=>by
  rw[C9,OH] at h;rw[je,D9]
  generalize ex P C W s U=r at *
  obtain _ | ⟨fl,U1⟩:=r
  ·cases h
  ·cases fl with
   |nx=>exact eS h
   |_=>cases h
noncomputable def OB(r:List aA):aA:=r.getLastD ("":aA)
def Pt(h:r≠[]):NC (some (jA r)) (.int (-1))=some (.s (OB r)):=by
 have hl:0<r.length:=cZ.mpr h;show(cH (r.map D.str) (-1)).map RV.sh=_
 have:cH (r.map D.str) (-1)=some (.str (OB r)):=by(unfold cH L2.oC L2.iD;rw[qB (by  decide),JA,uA (by lia)];show(r.map D.str)[((-1:Int)+r.length).toNat]?=_;rw[PL,show((-1:Int)+r.length).toNat=r.length-1 by lia,<- List.getLast?_eq_getElem?,j9 h];unfold OB;rw[Oo,j9 h];rfl)
 rw[this];rfl
def pHa(h:r≠[]):OB r∈r:=by
 unfold OB;rw[Oo,j9 h];exact List.getLast_mem h
noncomputable def rH(S:List (List aA)):List D:=(S.filter WB).map λr=>mL r.tail
noncomputable def lH(S:List (List aA)):List D:=(S.filter λr=>!WB r).map λr=>D.t (.str (hd r)::rP (hd r) r.tail)
def gi{W n:Nat}{r0 r1 r2:List aA}{S:List (List aA)}(ok:JN (r0::r1::r2::S)) :
  GA T.bA (run T W (n+5)) W (JM.body.take 3) ([.sh (.l ((r0::r1::r2::S).map jA))]++wC JM.nl .un)=some (.nx,[.sh (.l ((r0::r1::r2::S).map jA)),.o (.l [iA (OB r0),iA (OB r1),iA (OB r2)]),.o (.l (rH S)),.o (.l (lH S))]):=by
 have s1:bD (some (.l ((r0::r1::r2::S).map jA))) none (some (.int 3))=some (.ow (.l ([r0,r1,r2].map jA))):=tY (L:=(r0::r1::r2::S).map jA) (c:=3);have s3:bD (some (.l ((r0::r1::r2::S).map jA))) (some (.int 3)) none=some (.ow (.l (S.map jA))):=xJ (L:=(r0::r1::r2::S).map jA) (c:=3)
 have h3:∀r∈[r0,r1,r2],r∈r0::r1::r2::S:=λr hr=>by
  rcases AD.mp hr with rfl | hr
  ·exact .head _
  ·rcases AD.mp hr with rfl | hr
   ·exact .tail _ (.head _)
   ·rw[ME.mp hr];exact .tail _ (.tail _ (.head _))
 have hS:∀r∈S,r∈r0::r1::r2::S:=λr hr=>.tail _ (.tail _ (.tail _ hr))
 obtain⟨U1,c1,t1,rfl,zI⟩:=mI (P:=T.bA) (C:=run T W (n+5)) (LA:=ev T.bA (run T W (n+5)) false EV) (bind:=WA true [1]) (xs:=[r0,r1,r2]) jA (λr=>D.str (OB r)) (λU=>∃t,U=[.un,t]/\PB t=true)
  (λr hr U hU=>by
   obtain⟨s,rfl,hs⟩:=hU;have hx:=Pt (ok.ne r (h3 r hr));refine⟨[.un,.sh (jA r)],.s (OB r),[.un,.sh (jA r)],by simp only[CD,vC hs]<;>rfl, ?_,rfl,_,rfl,rfl⟩;unfold EV
   generalize jA r=d at *
   clear hr hs ok s1 s3 h3 hS
   right) (U:=[.un,.un]) ⟨_,rfl,rfl⟩
 obtain⟨U2,c2,t2,rfl,AL⟩:=SN (tests:=fD T.bA (run T W (n+5)) [(.IA .Eq (.ix (.v 1) (.c (.int 0))) (.c (.str ("voice":aA))))]) (LA:=ev T.bA (run T W (n+5)) false R1) (bind:=WA true [1]) (xs:=S) jA WB (λr=>mL r.tail) (λU=>∃t,U=[.un,t]/\PB t=true)
  (λr hr U hU=>by
   obtain⟨s,rfl,hs⟩:=hU;have VB:=ok.ne r (hS r hr);have hx:NC (some (jA r)) (.int 0)=some (.s (hd r)):=by rw[ht VB];exact EI
   have hf:=yz (W:=W) (n:=n+2) (w:=hd r) (r:=r.tail) (λx hx=>up1 (ok.tg r (hS r hr) x (aZ hx)) (by decide));rw[<- ht VB] at hf;have ev:(hd r==("voice":aA))=WB r:=rfl;refine⟨[.un,.sh (jA r)],[.un,.sh (jA r)],by simp only[CD,vC hs]<;>rfl, ?_,λ_=>⟨.sh (mL r.tail),[.un,.sh (jA r)], ?_,rfl,_,rfl,rfl⟩,λ_=>⟨_,rfl,rfl⟩⟩
   ·generalize jA r=d at *
    generalize hd r=w at *
    generalize WB r=b at *
    clear hr hs ok s1 s3 h3 hS c1 hf VB zI;cases b<;>right
   ·unfold R1
    generalize jA r=d at *
    generalize mL r.tail=f at *
    clear hr hs ok s1 s3 h3 hS c1 hx ev VB zI
    right) (U:=[.un,.un]) ⟨_,rfl,rfl⟩
 obtain⟨U3,c3,t3,rfl,j5⟩:=SN (tests:=fD T.bA (run T W (n+5)) [(.IA .NotEq (.ix (.v 1) (.c (.int 0))) (.c (.str ("voice":aA))))]) (LA:=ev T.bA (run T W (n+5)) false S1) (bind:=WA true [1]) (xs:=S) jA (λr=>!WB r) (λr=>D.t (.str (hd r)::rP (hd r) r.tail)) (λU=>∃t,U=[.un,t]/\PB t=true)
  (λr hr U hU=>by
   obtain⟨s,rfl,hs⟩:=hU;have VB:=ok.ne r (hS r hr);have hx:NC (some (jA r)) (.int 0)=some (.s (hd r)):=by rw[ht VB];exact EI
   have hf:=mTa (W:=W) (n:=n+1) (w:=hd r) (r:=r.tail) (λx hx=>ok.tg r (hS r hr) x (aZ hx)) (by have:=ok.ln r (hS r hr);rw[aa];lia);rw[<- ht VB] at hf;have ev:(hd r==("voice":aA))=WB r:=rfl;refine⟨[.un,.sh (jA r)],[.un,.sh (jA r)],by simp only[CD,vC hs]<;>rfl, ?_,λ_=>⟨.sh (.t (.str (hd r)::rP (hd r) r.tail)),[.un,.sh (jA r)], ?_,rfl,_,rfl,rfl⟩,λ_=>⟨_,rfl,rfl⟩⟩
   ·generalize jA r=d at *
    generalize hd r=w at *
    generalize WB r=b at *
    clear hr hs ok s1 s3 h3 hS c1 c2 hf VB zI AL;cases b<;>right
    all_goals (first | done | rfl)
   ·unfold S1
    generalize jA r=d at *
    generalize D.t (.str (hd r)::rP (hd r) r.tail)=f at *
    clear hr hs ok s1 s3 h3 hS c1 c2 hx ev VB zI AL
    right) (U:=[.un,.un]) ⟨_,rfl,rfl⟩
 have hr:=RQ (W:=W) (n:=n+3) (ws:=[OB r0,OB r1,OB r2]) (λw hw=>by
  have:∃r∈[r0,r1,r2],w=OB r:=by
   rcases AD.mp hw with rfl | hw
   ·exact⟨r0,by simp,rfl⟩
   ·rcases AD.mp hw with rfl | hw
    ·exact⟨r1,by simp,rfl⟩
    ·exact⟨r2,by simp,ME.mp hw⟩
  obtain⟨r,hr,rfl⟩:=this
  exact up1 (ok.tg r (h3 r hr) _ (pHa (ok.ne r (h3 r hr)))) (by decide)) (by simp)
 replace hr:"read_numbers"|||n+5|||[.sh (.l [.str (OB r0),.str (OB r1),.str (OB r2)])]|||.ow (.l [iA (OB r0),iA (OB r1),iA (OB r2)]):=hr;replace c1:QD (fD T.bA (run T W (n+5)) []) (ev T.bA (run T W (n+5)) false EV) (WA true [1]) [jA r0,jA r1,jA r2] [] [.un,.un]=some (.ok [.str (OB r0),.str (OB r1),.str (OB r2)],[.un,t1]):=c1;have hl:S.length<=500001:=by have:=ok.all;simp only[IC] at this;lia
 have m2:pB (rH S).length=true:=eC (by unfold rH;rw[JA];have:=sR WB S;lia);have m3:pB (lH S).length=true:=eC (by unfold lH;rw[JA];have:=sR (λr=>!WB r) S;lia);have i1:∀U,aAa .of [.val (.ow (.l [jA r0,jA r1,jA r2]))] U=some ([jA r0,jA r1,jA r2],none):=λU=>DI rfl
 have i2:∀U,aAa .of [.val (.ow (.l (S.map jA)))] U=some (S.map jA,none):=λU=>DI rfl
 replace s1:bD (some (.l ((r0::r1::r2::S).map jA))) none (some (.int 3))=some (.ow (.l [jA r0,jA r1,jA r2])):=s1;replace c2:QD _ _ _ (S.map jA) [] [.un,.un]=some (.ok (rH S),_):=c2;replace c3:QD _ _ _ (S.map jA) [] [.un,.un]=some (.ok (lH S),_):=c3
 generalize rH S=V at *
 generalize lH S=Q at *
 generalize (r0::r1::r2::S).map jA=A at *
 generalize S.map jA=B at *
 generalize jA r0=w0 at *
 generalize jA r1=w1 at *
 generalize jA r2=w2 at *
 generalize iA (OB r0)=x0 at *
 generalize iA (OB r1)=x1 at *
 generalize iA (OB r2)=x2 at *
 generalize OB r0=y0 at *
 generalize OB r1=y1 at *
 generalize OB r2=y2 at *
 unfold JM;clear ok h3 hS hl zI AL j5
 right
 rw[jD (i1 _)]
 right
 exfalso
 all_goals (try (rw[jD (i2 _)];right))
 exfalso
 all_goals (try (rw[jD (i2 _)];right))
 exfalso
abbrev bJ(r0 r1 r2:List aA)(S:List (List aA)):List Sl:=[.sh (iA (OB r0)),.sh (iA (OB r1)),.sh (iA (OB r2)),.p (.l (rH S)),.p (.l (lH S))]
def rHa{W n:Nat}{r0 r1 r2:List aA}{S:List (List aA)}{x:Exc}(ok:JN (r0::r1::r2::S))(hx:HR x)(h:run T W (n+5) "house_of" (bJ r0 r1 r2 S)=some (.ex x,bJ r0 r1 r2 S)) :
  run T W (n+6) "made_of" [.sh (.l ((r0::r1::r2::S).map jA))]=some (.ex ⟨"NoText",none⟩,[.sh (.l ((r0::r1::r2::S).map jA))]):=by
 rw[wJ Rb rfl rfl];unfold aAu;have hA:=gi (W:=W) (n:=n) ok;rw[YE hA,eS hA];clear hA ok;unfold bJ at h
 have hc:∀U,ZR gL (some (x,U))=some (⟨"NoText",none⟩,U):=λU=>by
  rcases hx with rfl | ⟨m,rfl⟩ | ⟨m,rfl⟩
  ·exact Z0 Rv (by left)
  ·exact Z0 Uv (by show pA "NoVoice"≠_;left)
  ·exact Z0 Sv (by show pA "NoRule"≠_;left)
 unfold JM
 generalize (r0::r1::r2::S).map jA=A at *
 generalize iA (OB r0)=x0 at *
 generalize iA (OB r1)=x1 at *
 generalize iA (OB r2)=x2 at *
 generalize rH S=V at *
 generalize lH S=Q at *
 have i2:=@XJ;clear hx
 right
 all_goals (first | done | rfl)
def ji{W n:Nat}{r0 r1 r2:List aA}{S:List (List aA)}{d:D}(ok:JN (r0::r1::r2::S))(h:run T W (n+5) "house_of" (bJ r0 r1 r2 S)=some (.ok (.sh d),bJ r0 r1 r2 S)) :
  "made_of"|||n+6|||[.sh (.l ((r0::r1::r2::S).map jA))]|||.sh d:=by
 rw[wJ Rb rfl rfl];rw[YE (gi (W:=W) (n:=n) ok)];clear ok;unfold bJ at h;unfold JM
 generalize (r0::r1::r2::S).map jA=A at *
 generalize iA (OB r0)=x0 at *
 generalize iA (OB r1)=x1 at *
 generalize iA (OB r2)=x2 at *
 generalize rH S=V at *
 generalize lH S=Q at *
 have i2:=@XJ
 right
def lAa{S:List (List aA)}(ok:JN (r0::r1::r2::S)) :
  (∃x,HR x/\∀W n,run T W (n+5) "house_of" (bJ r0 r1 r2 S)=some (.ex x,bJ r0 r1 r2 S)) \/
  ∃no ba oc fs rs,HX no ba oc fs rs/\∀W n,run T W (n+5) "house_of" (bJ r0 r1 r2 S)=some (.ok (.sh (RD no ba oc fs rs)),bJ r0 r1 r2 S):=by
 have hS:∀r∈S,r∈r0::r1::r2::S:=λr hr=>.tail _ (.tail _ (.tail _ hr))
 have Df:∀r∈S,(rP (hd r) r.tail).length<=1000000:=λr hr=>by rw[Q7,aa];have:=ok.ln r (hS r hr);lia
 rcases hAa (a:=iA (OB r0)) (b:=iA (OB r1)) (c:=iA (OB r2)) (vs:=rH S) (rs:=lH S) iL iL iL
  (λx hx=>by
   obtain⟨r,_,rfl⟩:=OC.mp hx
   exact⟨_,Z2 _⟩)
  (λba oc o1 x hx=>by
   obtain⟨r,hr,rfl⟩:=OC.mp hx
   exact⟨_,oY (by lia) (Df r (iP.mp hr).1) gY⟩) with h | ⟨no,ba,oc,ha,hb,hc,⟨n1,n2,b1,b2,o1,o2,l1,l2,l3⟩,hv,hr,h⟩
 ·exact .inl h
 ·obtain⟨fs,f1,f2⟩:=zX (l:=rH S) (P:=lM) (g:=toD) λx hx=>by
   have h1:=hv x hx;obtain⟨r,_,rfl⟩:=OC.mp hx;obtain⟨f,hf,e,_⟩:=zz (Us (Z2 r.tail) h1);exact⟨f,hf,e⟩
  have l4:(rH S).length=fs.length:=by rw[f2,JA]
  refine .inr ⟨no,ba,oc,fs,lH S,⟨⟨n1,n2,b1,b2,o1,o2,by lia,by lia,f1⟩,l3,λx hx=>?_⟩,λW n=>?_⟩
  ·have h1:=hr x hx;obtain⟨r,dE,rfl⟩:=OC.mp hx;rw[<- l4];exact vk o1 (IZ (oY (by lia) (Df r (iP.mp dE).1) gY) h1)
  ·have e:D.t [iA (OB r0),iA (OB r1),iA (OB r2),.t (rH S),.t (lH S)]=RD no ba oc fs (lH S):=by rw[ha,hb,hc,f2];rfl
   rw[h W n,e]
def kAa(h:HX no ba oc fs rs):rH (fs.map vW++rs.map rW)=fs.map toD/\lH (fs.map vW++rs.map rW)=rs:=by
 have hv:∀f,WB (vW f)=true:=λf=>QE (("voice":aA))
 have hr:∀d∈rs,WB (rW d)=false:=λd hd=>by(obtain⟨x,r,e,hx⟩:=(h.r d hd).nv;rw[e];exact hx)
 have q1:(fs.map vW).filter WB=fs.map vW:=dZ.mpr λr dE=>by obtain⟨f,_,rfl⟩:=OC.mp dE;exact hv f
 have q2:(rs.map rW).filter WB=[]:=YY.mpr λr dE=>by obtain⟨d,hd,rfl⟩:=OC.mp dE;rw[hr d hd];decide
 have q3:(fs.map vW).filter (λr=>!WB r)=[]:=YY.mpr λr dE=>by obtain⟨f,_,rfl⟩:=OC.mp dE;rw[hv f];decide
 have q4:(rs.map rW).filter (λr=>!WB r)=rs.map rW:=dZ.mpr λr dE=>by obtain⟨d,hd,rfl⟩:=OC.mp dE;rw[hr d hd];rfl
 refine⟨?_, ?_⟩
 ·unfold rH;rw[dP,q1,q2,DK,oG];exact cP λf hf=>(A3 (h.ho.f f hf)).1
 ·unfold lH;rw[dP,q3,q4,UL,oG];refine(cP λd hd2=>?_).trans (BR _);obtain⟨x,r,e,hx⟩:=(h.r d hd2).nv
  have:=uk h.ho.b2 h.ho.o2 (by have:=h.ho.l2;lia) (h.rr.2 d hd2) e
  show D.t (.str (hd (rW d))::rP (hd (rW d)) (rW d).tail)=d;rw[e];exact this
def nAa(h:HX no ba oc fs rs)(W n:Nat):"house_of"|||n+5|||[.i no,.i ba,.i oc,.p (.l (fs.map toD)),.p (.l rs)]|||.sh (RD no ba oc fs rs):=by
 obtain⟨n1,n2,b1,b2,o1,o2,l1,l2,hf⟩:=h.ho;obtain⟨q1,q2⟩:=h.rr;have wi:∀{i lo hi:Int},lo<=i->i<=hi->EA lo hi (.int i)=true:=λh1 h2=>by simp only[EA,qA,OE];exact⟨h1,h2⟩
 refine Af (λW n=>?_) (λx hx=>?_) λx hx=>?_
 ·have:=He (W:=W) (n:=n) (a:=.int no) (b:=.int ba) (c:=.int oc) (vs:=fs.map toD) (rs:=rs) rfl rfl rfl
  rw[wi n1 n2,wi b1 b2,wi o1 o2,IB (by rw[JA];lia),IB (by rw[JA];lia),zB (by lia)] at this;exact this
 ·obtain⟨f,R_,rfl⟩:=OC.mp hx;obtain⟨e1,e2⟩:=A3 (hf f R_)
  have:=Z2 (num f.1::num f.2.1::(if f.2.2=true then [("turned":aA)] else []))
  rwa[e1,e2] at this
 ·rw[JA];exact λW n=>X7 o1 (q2 x hx)
def R7(h:TG 500000 t):GA T.bA (run T W n) W (fK.body.take 2) ([.s t]++wC fK.nl .un)=some (.nx,[.s t,.o (.l ((aAi t).map jA)),.un]):=by
 obtain⟨ok,ne,hj⟩:=TQ h;clear hj;obtain⟨s0,hc⟩:=ik (W:=W) (n:=n) (el:=Ld) rfl h;have nE:∀U,oH ("\n":aA) U (some (.s t))=some (.ok (.ow (.l ((UA t ("\n":aA)).map D.str))),U):=λU=>EO rJ h (by decide)
 have tL:∀U,aAa .of [.val (.ow (.l ((UA t ("\n":aA)).map D.str)))] U=some ((UA t ("\n":aA)).map D.str,none):=λU=>DI rfl
 have aF:pB ((aAi t).map jA).length=true:=eC (by rw[JA];have:=ok.all;lia);unfold fK
 right
 rw[jD (tL _)]
 right
 exfalso
abbrev wO(t:D):zA RV:=some (.ex ⟨"NoText",none⟩,[.sh t])
def Vj(h:TG 500000 t)(hl:(aAi t).length<3):run T W (n+7) "read_house" [.s t]=wO (.str t):=by
 rw[wJ jV rfl rfl];unfold aAu;have hA:=R7 (W:=W) (n:=n+6) h;rw[YE hA,eS hA];have e:decide (((aAi t).map jA).length<(3:Int))=true:=IB (by rw[JA];lia);unfold fK
 right
def zSa(h:TG 500000 t)(hl:3<=(aAi t).length)(hm:run T W (n+6) "made_of" [.sh (.l ((aAi t).map jA))]=some (.ex ⟨"NoText",none⟩,[.sh (.l ((aAi t).map jA))])):run T W (n+7) "read_house" [.s t]=wO (.str t):=by
 rw[wJ jV rfl rfl];unfold aAu;have hA:=R7 (W:=W) (n:=n+6) h;rw[YE hA,eS hA];have e:decide (((aAi t).map jA).length<(3:Int))=false:=zB (by rw[JA];lia);unfold fK
 right
 all_goals (first | done | rfl)
def Uj(h:TG 500000 t)(hl:3<=(aAi t).length)(hm:"made_of"|||n+6|||[.sh (.l ((aAi t).map jA))]|||.sh d)(hs:"show_house"|||n+6|||[.sh d]|||.s x) :
  run T W (n+7) "read_house" [.s t]=if(x==t)=true then some (.ok (.sh d),[.s t]) else wO (.str t):=by
 rw[wJ jV rfl rfl];unfold aAu;have hA:=R7 (W:=W) (n:=n+6) h;rw[YE hA,eS hA];have e:decide (((aAi t).map jA).length<(3:Int))=false:=zB (by rw[JA];lia);unfold fK;cases c:x==t
 ·right
 ·right
def cTa(W n:Nat)(h:TG 500000 t):run T W (n+7) "read_house" [.s t]=wO (.str t)\/∃no ba oc fs rs,HX no ba oc fs rs/\AG no ba oc fs rs=t/\"read_house"|||n+7|||[.s t]|||.sh (RD no ba oc fs rs):=by
 obtain⟨ok,ne,hj⟩:=TQ h;by_cases c:(aAi t).length<3
 ·exact .inl (Vj h c)
 obtain⟨r0,r1,r2,S,hR⟩:∃r0 r1 r2 S,aAi t=r0::r1::r2::S:=by
  match aAi t,c with
  |r0::r1::r2::S,_=>exact⟨_,_,_,_,rfl⟩
  |[],c=>simp at c
  |[_],c=>simp at c
  |[_,_],c=>simp at c
 rw[hR] at ok;rcases lAa ok with ⟨x,hx,he⟩ | ⟨no,ba,oc,fs,rs,hh,he⟩
 ·refine .inl (zSa h (by lia) ?_);rw[hR];exact rHa ok hx (he W n)
 ·have hm:=ji ok (he W n);rw[<- hR] at hm;have hs:=Uj h (by lia) hm (OW (n:=n+3) hh);cases q:AG no ba oc fs rs==t
  ·rw[q,BB] at hs;exact .inl hs
  ·rw[q,uA rfl] at hs;exact .inr ⟨no,ba,oc,fs,rs,hh,jB q,hs⟩
def kn(h:HX no ba oc fs rs):TG 30000 (AG no ba oc fs rs):=by
 obtain⟨l1,l2,l3⟩:=h.len;exact(VS rJ (by decide) (B:=2000) (N:=30000) (λw hw=>(h.row w hw).1) (by rw[JA,l1];lia) (by decide)).1
def Wj(h:HX no ba oc fs rs)(W n:Nat):"read_house"|||n+7|||[.s (AG no ba oc fs rs)]|||.sh (RD no ba oc fs rs):=by
 have ht:=(kn h).up (m:=500000) (by decide);obtain⟨ok,ne,hj⟩:=TQ ht;have hR:=jk h;rw[W3] at hR;rw[hR] at ok;obtain⟨e1,e2⟩:=kAa h;obtain⟨k1,k2,k3,_⟩:=h.hd;have hv:=nAa h W n
 have hl:∀{x:aA} {i:Int},FN i->iA (OB [x,num i])=.int i:=λ{x i} hn=>by(show iA (num i)=_;unfold iA;rw[S7 hn])
 have hm:=ji ok (d:=RD no ba oc fs rs) (by
  unfold bJ;rw[hl k1,hl k2,hl k3,e1,e2]
  exact hv)
 rw[<- hR] at hm;have hs:=Uj ht (by rw[hR];simp) hm (OW (n:=n+3) h)
 rwa[QE,uA rfl] at hs
def T7(W n:Nat)(hd:pF [.str] (some d)=some (.b false)):run T W (n+7) "read_house" [.sh d]=wO d:=by
 rw[wJ jV rfl rfl];unfold aAu fK
 right
def Mc:QN gL 3 1 (some (⟨"NoText",none⟩,U))=i6 3 1 (.uD "NoText" none) (store 3 (.sh (.uD "NoText" none)) U):=Qv Tv (by decide)
def ai(h:run T W (n+7) "read_house" [.sh d]=wO d):"L_read"|||n+8|||[.sh d]|||.s ("none":aA):=by
 rw[dC Nb rfl rfl];unfold lS;unfold wO at h;have hi:rC .Is (.uD ("NoText":aA) none) .oA=some false:=rfl;have hv:pF [.cU] (some (.uD ("NoText":aA) none))=some (.b true):=rfl
 walk_at "!Mc yg zg"
def mHa(h:"read_house"|||n+7|||[.sh d]|||.sh v):"L_read"|||n+8|||[.sh d]|||.ow (.l [v]):=by
 rw[dC Nb rfl rfl];unfold lS
 walk_at "!Mc yg zg"
 all_goals (first | done | rfl)
def CM(h1:0<m)(h2:m<nofun):∃(v:Nat) (s':Int),(v:Int)<m/\∀W n,run T W (n+1) "L_draw" [.p (.l [.int k,.int s]),.i m]=some (.ok (.i (v:Int)),[.p (.l [.int k,.int s']),.i m]):=by
 have d1:=ED (k:=k) (s:=s) h1;have d2:=DD (k:=k) (s:=s) h1;have e:(((uB k s m).toNat:Nat):Int)=uB k s m:=by lia
 exact⟨(uB k s m).toNat,SA k s m,by lia,λW n=>by rw[e];exact WE h1 h2⟩
def oV{w:aA}(h:∀c∈w.cps.toList,c<128):w.cps.all (·<128)=true:=by
 rw[UG];intro x hx;exact IB (h x (by simpa using hx))
def Rm{N a:Nat}(h:TG N t):TG N (mD t none (some (a:Int))):=by
 have hl:(mD t none (some (a:Int))).cps.toList.length=(mD t none (some (a:Int))).length:=jF;have JW:t.cps.toList.length=t.length:=jF;rw[uY,lG] at hl;refine⟨by have:=h.len;lia,oV λc hc=>?_⟩;rw[uY] at hc;exact ZK h.asc c (MJ hc)
def JY{N a:Nat}(h:TG N t):TG N (mD t (some (a:Int)) none):=by
 have hl:(mD t (some (a:Int)) none).cps.toList.length=(mD t (some (a:Int)) none).length:=jF;have JW:t.cps.toList.length=t.length:=jF;rw[rY,WG] at hl;refine⟨by have:=h.len;lia,oV λc hc=>?_⟩;rw[rY] at hc;exact ZK h.asc c (MK hc)
def RO(h:TG A x)(k:TG B y):TG (A+B) (x++y):=by
 refine⟨?_,oV λc hc=>?_⟩
 ·rw[aAD]
  have:=h.len
  have:=k.len
  lia
 ·rw[EH] at hc;rcases CG.mp hc with hc | hc
  ·exact ZK h.asc c hc
  ·exact ZK k.asc c hc
def aAH{A B:Nat}{x y:aA}(h:TG A x)(k:TG B y)(hN:A+B<=1000000):pC .Add (.str x) (.str y)=some (.s (x++y)):=YJ (by have:=h.len;have:=k.len;lia)
def lUa{g:Nat}(h:(g:Int)<24):∃x:aA,NC (some (.str ("0123456789- ,\nacnortuvx.":aA))) (.int (g:Int))=some (.s x)/\TG 1 x:=by
 have hl:("0123456789- ,\nacnortuvx.":aA).cps.toList.length=24:=by left
 have hg:g<("0123456789- ,\nacnortuvx.":aA).cps.toList.length:=by lia
 have ha:∀c∈("0123456789- ,\nacnortuvx.":aA).cps.toList,c<128:=by left
 refine⟨⟨#[("0123456789- ,\nacnortuvx.":aA).cps.toList[g]]⟩, ?_,⟨HB 1,oV λc hc=>?_⟩⟩
 ·show(CL (.str _) (.int (g:Int))).map RV.sh=_
  have:CL (.str ("0123456789- ,\nacnortuvx.":aA)) (.int (g:Int))=(L2.oC ("0123456789- ,\nacnortuvx.":aA).cps.toList (g:Int)).map λc=>.str ⟨#[c]⟩:=uA (by left)
  rw[this,L2.TZ (kC hg)];rfl
 ·have:c=("0123456789- ,\nacnortuvx.":aA).cps.toList[g]:=by simpa using hc
  rw[this];exact ha _ (CK hg)
def TR{ws:List aA}(h:k<ws.length):NC (some (.l (ws.map D.str))) (.int (k:Int))=some (.s (ws[k])):=by
 rw[SR (by rw[JA];exact h),gM,PL,kC h];rfl
theorem GY:∀{ws:List aA} {k:Nat} {x:aA},WC (ws.set k x)<=WC ws+(x.length+1)
 |[],_,_=>by simp[WC]
 |a::r,0,x=>by rw[RI,CJ,CJ];lia
 |a::r,k+1,x=>by have:=GY (ws:=r) (k:=k) (x:=x);rw[SI,CJ,CJ];lia
def W5(h:k<m):L2.iD m (k:Int)=some k:=by
 unfold L2.iD;rw[uA (by lia),uA (by lia),BG]
def aAM{ws:List aA}(h:w∈ws.set k x):w∈ws\/w=x:=by
 rcases List.mem_or_eq_of_mem_set h with h | h
 ·exact .inl h
 ·exact .inr h
noncomputable def MM:List aA:=[("0":aA),("-0":aA),("01":aA),("+1":aA),("13":aA),("61":aA),("-13":aA),("-61":aA),DG ("1":aA) 60,("-":aA)++DG ("9":aA) 61,("turned":aA),("any":aA),("":aA)]
def Hz:∀w∈MM,TG 62 w:=by
 have h:∀w∈MM,w.length<=62/\w.cps.all (·<128)=true:=by left
 exact λw hw=>⟨(h w hw).1,(h w hw).2⟩
abbrev cY(k s:Int):Sl:=.p (.l [.int k,.int s])
abbrev pb(W n:Nat)(N:Nat)(k s:Int)(t:aA):Prop:=∃s' t',run T W (n+2) "L_bend" [cY k s,.s t]=some (.ok (.s t'),[cY k s',.s t])/\TG (4*N+200) t'
def nX(h:∀w∈ws,∃M,TG M w)(hz:WC ws<=4*N+201)(hN:N<=120200):WM ("\n":aA) (some (.l (ws.map D.str)))=some (.s (YB ("\n":aA) ws))/\TG (4*N+200) (YB ("\n":aA) ws) :=
 Fg rJ (by decide) (λw hw=>let ⟨_,h⟩:=h w hw;h.asc) hz (by lia)
def uc{W n N:Nat}{k s:Int}{t:aA}(h:TG N t)(hN:N<=120200):pb W n N k s t:=by
 unfold pb cY;have hl:=h.len;rw[dC Kr rfl rfl];obtain⟨way,s1,w1,d1⟩:=CM (k:=k) (s:=s) (m:=13) (by decide) (by decide);obtain⟨at',s2,a1,d2⟩:=CM (k:=k) (s:=s1) (m:=(t.length:Int)+1) (by lia) (by lia);obtain⟨g,s3,g1,d3⟩:=CM (k:=k) (s:=s2) (m:=24) (by decide) (by decide);obtain⟨sg,Ef,jN⟩:=lUa g1;have GB:pD .len [.str t]=some (.i (t.length:Int)):=uA (by lia)
 have hA:GA T.bA (run T W (n+1)) W (yF.body.take 3) ([.p (.l [.int k,.int s]),.s t]++wC yF.nl .un)=some (.nx,[.p (.l [.int k,.int s3]),.s t,.i (way:Int),.i (at':Int),.s sg,.un,.un,.un,.un,.un]):=by
  have d1:=d1 W n;have d2:=d2 W n;have d3:=d3 W n;unfold yF
  right
 rw[YE hA];have u1:bD (some (.str t)) none (some (.int (at':Int)))=some (.s (mD t none (some (at':Int)))):=XQ (by lia) (kH (Rm h).asc);have u2:bD (some (.str t)) (some (.int (at':Int))) none=some (.s (mD t (some (at':Int)) none)):=XQ (by lia) (kH (JY h).asc);have u3:bD (some (.str t)) (some (.int ((at':Int)+1))) none=some (.s (mD t (some ((at':Int)+1)) none)):=XQ (by lia) (kH (JY (a:=at'+1) h).asc);have t1:=Rm (a:=at') h;have t2:=JY (a:=at') h;have t3:TG N (mD t (some ((at':Int)+1)) none):=JY (a:=at'+1) h
 generalize mD t none (some (at':Int))=x1 at *
 generalize mD t (some (at':Int)) none=x2 at *
 generalize mD t (some ((at':Int)+1)) none=x3 at *
 by_cases c1:(way:Int)<3
 ·have q1:decide ((way:Int)<3)=true:=IB c1;have e1:=aAH t1 jN (by lia);have e2:=aAH (RO t1 jN) t2 (by lia);refine⟨s3,(x1++sg)++x2, ?_,(RO (RO t1 jN) t2).up (by lia)⟩
  generalize (x1++sg)++x2=y2 at *
  generalize x1++sg=y1 at *
  unfold yF
  right
 have q1:decide ((way:Int)<3)=false:=zB c1;by_cases c2:(way:Int)<5
 ·have q2:decide ((way:Int)<5)=true:=IB c2;have e1:=aAH t1 t3 (by lia);refine⟨s3,x1++x3, ?_,(RO t1 t3).up (by lia)⟩
  generalize x1++x3=y1 at *
  unfold yF
  right
 have q2:decide ((way:Int)<5)=false:=zB c2;by_cases c3:(way:Int)<8
 ·have q3:decide ((way:Int)<8)=true:=IB c3;have e1:=aAH t1 jN (by lia);have e2:=aAH (RO t1 jN) t3 (by lia);refine⟨s3,(x1++sg)++x3, ?_,(RO (RO t1 jN) t3).up (by lia)⟩
  generalize (x1++sg)++x3=y2 at *
  generalize x1++sg=y1 at *
  unfold yF
  right
 have q3:decide ((way:Int)<8)=false:=zB c3
 -- rows
 obtain⟨h1,h2,h3,h4⟩:=KI rJ h;have nE:∀U,oH ("\n":aA) U (some (.s t))=some (.ok (.ow (.l ((UA t ("\n":aA)).map D.str))),U):=λU=>EO rJ h (by lia)
 clear h4;have hz:WC (UA t ("\n":aA))<=N+1:=by lia
 generalize UA t ("\n":aA)=ws at *
 have hp:0<ws.length:=cZ.mpr h3;have oE:=MO (ws:=ws);obtain⟨a,s4,a1,d4⟩:=CM (k:=k) (s:=s3) (m:=(ws.length:Int)) (by lia) (by lia);have ha:a<ws.length:=by lia
 have wL:pD .len [.l (ws.map D.str)]=some (.i (ws.length:Int)):=by(show some (RV.sh (.int ((ws.map D.str).length:Int)))=_;rw[JA])
 have hB:GA T.bA (run T W (n+1)) W ((yF.body.drop 3).take 5) [.p (.l [.int k,.int s3]),.s t,.i (way:Int),.i (at':Int),.s sg,.un,.un,.un,.un,.un]=some (.nx,[.p (.l [.int k,.int s4]),.s t,.i (way:Int),.i (a:Int),.s sg,.o (.l (ws.map D.str)),.un,.un,.un,.un]):=by
  have d4:=d4 W n;unfold yF
  generalize ws.map D.str=M at *
  generalize (ws.length:Int)=LL at *
  clear h hN hl w1 jN c1 c2 c3 GB h1 h2 h3 hz hp oE a1 ha
  right
 rw[YE hB];clear hB d4 nE GB q1 q2 q3 jN
 have y1:bD (some (.l (ws.map D.str))) none (some (.int (a:Int)))=some (.ow (.l ((ws.take a).map D.str))):=by
  have:=tY (L:=ws.map D.str) (c:=a)
  rwa[<- yR] at this
 have y2:bD (some (.l (ws.map D.str))) (some (.int ((a:Int)+1))) none=some (.ow (.l ((ws.drop (a+1)).map D.str))):=by
  have:=xJ (L:=ws.map D.str) (c:=a+1)
  rwa[<- IJ] at this
 have y3:bD (some (.l (ws.map D.str))) (some (.int (a:Int))) none=some (.ow (.l ((ws.drop a).map D.str))):=by
  have:=xJ (L:=ws.map D.str) (c:=a)
  rwa[<- IJ] at this
 have zt:=K8 (ws:=ws) a;have pR:=K8 (ws:=ws) (a+1)
 have oR:WC (ws.drop (a+1))<=WC (ws.drop a):=by(rw[rR ha,CJ];lia)
 have IQ:(ws.take a).length<=ws.length:=by rw[lG];lia
 have FL:∀j,(ws.drop j).length<=ws.length:=λj=>by rw[WG];lia
 have cat:∀{xs ys:List aA},xs.length+ys.length<=1000000->pC .Add (.l (xs.map D.str)) (.l (ys.map D.str))=some (.ow (.l ((xs++ys).map D.str))):=λ{xs ys} hh=>by(rw[jP];exact aL (eC (by rw[JA,JA];exact hh)))
 by_cases c8:(way:Int)=8
 ·have q:decide ((way:Int)=8)=true:=IB c8;have e1:=cat (xs:=ws.take a) (ys:=ws.drop (a+1)) (by have:=FL (a+1);lia)
  obtain⟨e2,tt⟩:=nX (N:=N) (ws:=ws.take a++ws.drop (a+1)) (λw hw=>by
   rcases CG.mp hw with z | z
   ·exact⟨_,(h1 w (MJ z)).1⟩
   ·exact⟨_,(h1 w (MK z)).1⟩) (by rw[LO];lia) hN
  refine⟨s4,_, ?_,tt⟩
  generalize YB _ (ws.take a++ws.drop (a+1))=tx at *
  generalize (ws.take a++ws.drop (a+1)).map D.str=M3 at *
  generalize (ws.take a).map D.str=M1 at *
  generalize (ws.drop (a+1)).map D.str=M2 at *
  generalize ws.map D.str=M at *
  unfold yF;clear h hN hl w1 c1 c2 c3 h1 h2 h3 hz hp oE a1 ha zt pR oR IQ FL cat c8 wL y3 tt
  right
 have q8:decide ((way:Int)=8)=false:=zB c8;by_cases c9:(way:Int)=9
 ·have q:decide ((way:Int)=9)=true:=IB c9;obtain⟨b,s5,b1,d5⟩:=CM (k:=k) (s:=s4) (m:=(ws.length:Int)) (by lia) (by lia);have hb:b<ws.length:=by lia
  have d5:=d5 W n;have hx:=TR hb;have ZN:=h1 ws[b] (CK hb);have j4:=ZN.1.len;have e1:=cat (xs:=ws.take a) (ys:=[ws[b]]) (by simp;lia);have e2:=cat (xs:=ws.take a++[ws[b]]) (ys:=ws.drop a) (by have:=FL a;rw[lE];simp;lia)
  obtain⟨e3,tt⟩:=nX (N:=N) (ws:=(ws.take a++[ws[b]])++ws.drop a) (λw hw=>by
   rcases CG.mp hw with z | z
   ·rcases CG.mp z with z | z
    ·exact⟨_,(h1 w (MJ z)).1⟩
    ·rw[ME.mp z];exact⟨_,ZN.1⟩
   ·exact⟨_,(h1 w (MK z)).1⟩) (by rw[LO,LO,CJ];simp only[WC,vN,pq] at *;lia) hN
  refine⟨s5,_, ?_,tt⟩;have tf:[ws[b]].map D.str=[.str ws[b]]:=rfl;rw[tf] at e1
  generalize YB _ ((ws.take a++[ws[b]])++ws.drop a)=tx at *
  generalize ((ws.take a++[ws[b]])++ws.drop a).map D.str=M5 at *
  generalize (ws.take a++[ws[b]]).map D.str=M4 at *
  generalize ws[b]=wb at *
  generalize (ws.take a).map D.str=M1 at *
  generalize (ws.drop a).map D.str=M2 at *
  generalize ws.map D.str=M at *
  generalize (ws.length:Int)=LL at *
  unfold yF;clear h hN hl w1 c1 c2 c3 h1 h2 h3 hz hp oE a1 ha zt pR oR IQ FL cat c8 c9 y2 tt hb b1 ZN j4 tf
  right
 have q9:decide ((way:Int)=9)=false:=zB c9;by_cases RP:(way:Int)=12
 ·have q:decide ((way:Int)=12)=true:=IB RP;obtain⟨b,s5,b1,d5⟩:=CM (k:=k) (s:=s4) (m:=(ws.length:Int)) (by lia) (by lia);have hb:b<ws.length:=by lia
  have d5:=d5 W n;have vQ:=TR hb;have nJ:=TR ha;have ZN:=h1 ws[b] (CK hb);have kK:=h1 ws[a] (CK ha)
  have XW:∀(C:Calls),wX T.bA C 5 (.v 3) (.v 6) (.sh (.t [.str ws[b],.str ws[a]])) [.p (.l [.int k,.int s5]),.s t,.i (way:Int),.i (a:Int),.s sg,.o (.l (ws.map D.str)),.i (b:Int),.un,.un,.un] =
    some (.nx,[.p (.l [.int k,.int s5]),.s t,.i (way:Int),.i (a:Int),.s sg,.o (.l (((ws.set a ws[b]).set b ws[a]).map D.str)),.i (b:Int),.un,.un,.un]):=λC=>by
   refine pFa (U2:=[.p (.l [.int k,.int s5]),.s t,.i (way:Int),.i (a:Int),.s sg,.o (.l ((ws.set a ws[b]).map D.str)),.i (b:Int),.un,.un,.un]) rfl rfl ?_ rfl ?_
   ·show(L2.iD (ws.map D.str).length (a:Int)).map _=_;rw[JA,W5 ha,WD,<- Sa];rfl
   ·show(L2.iD ((ws.set a ws[b]).map D.str).length (b:Int)).map _=_;rw[JA,SE,W5 hb,WD,<- Sa];rfl
  have XW:=XW (run T W (n+1))
  obtain⟨e3,tt⟩:=nX (N:=N) (ws:=(ws.set a ws[b]).set b ws[a]) (λw hw=>by
   rcases aAM hw with z | rfl
   ·rcases aAM z with z | rfl
    ·exact⟨_,(h1 w z).1⟩
    ·exact⟨_,ZN.1⟩
   ·exact⟨_,kK.1⟩) (by
   have z1:=GY (ws:=ws.set a ws[b]) (k:=b) (x:=ws[a]);have z2:=GY (ws:=ws) (k:=a) (x:=ws[b])
   have:=ZN.1.len
   have:=kK.1.len
   lia) hN
  refine⟨s5,_, ?_,tt⟩
  generalize YB _ ((ws.set a ws[b]).set b ws[a])=tx at *
  generalize ((ws.set a ws[b]).set b ws[a]).map D.str=M5 at *
  generalize ws[b]=wb at *
  generalize ws[a]=wa at *
  generalize ws.map D.str=M at *
  generalize (ws.length:Int)=LL at *
  unfold yF;clear h hN hl w1 c1 c2 c3 h1 h2 h3 hz hp oE a1 ha zt pR oR IQ FL cat c8 c9 RP y1 y2 y3 tt hb b1 ZN kK
  right
 have q12:decide ((way:Int)=12)=false:=zB RP
 -- one h1a words
 have kK:=(h1 ws[a] (CK ha)).1;have hx:=TR ha;have l5:1<=ws.length:=hp;obtain⟨p1,p2,p3,p4⟩:=KI IG kK;have nE:∀U,oH (" ":aA) U (some (.s (ws[a])))=some (.ok (.ow (.l ((UA ws[a] (" ":aA)).map D.str))),U):=λU=>EO IG kK (by lia)
 clear p4;have pz:WC (UA ws[a] (" ":aA))<=N+1:=by have:=kK.len;lia
 have yAa:∀U,vX (" ":aA) (.s (ws[a])) U=some (.ok (.ow (.l ((UA ws[a] (" ":aA)).map D.str))),U):=λU=>(oFa rfl).trans (nE U)
 clear nE p2
 generalize UA ws[a] (" ":aA)=vs at *
 have vp:0<vs.length:=cZ.mpr p3;have b9:=MO (ws:=vs);obtain⟨c,s5,c0,d5⟩:=CM (k:=k) (s:=s4) (m:=(vs.length:Int)) (by lia) (by lia);have hc:c<vs.length:=by lia
 have sf:pD .len [.l (vs.map D.str)]=some (.i (vs.length:Int)):=by(show some (RV.sh (.int ((vs.map D.str).length:Int)))=_;rw[JA])
 have hC:GA T.bA (run T W (n+1)) W (((yF.body.drop 3).drop 5).take 5) [.p (.l [.int k,.int s4]),.s t,.i (way:Int),.i (a:Int),.s sg,.o (.l (ws.map D.str)),.un,.un,.un,.un]=some (.nx,[.p (.l [.int k,.int s5]),.s t,.i (way:Int),.i (a:Int),.s sg,.o (.l (ws.map D.str)),.un,.o (.l (vs.map D.str)),.i (c:Int),.un]):=by
  have d5:=d5 W n;unfold yF
  generalize vs.map D.str=V at *
  generalize ws[a]=wa at *
  generalize ws.map D.str=M at *
  generalize (vs.length:Int)=LL at *
  clear h hN hl w1 c1 c2 c3 h1 h2 h3 hz hp oE a1 ha zt pR oR IQ FL cat c8 c9 RP y1 y2 y3 kK p1 p3 pz vp b9 c0 hc l5 wL
  right
 rw[YE hC];clear hC d5 yAa q8 q9 q12 hx wL
 have XA:∀{us:List aA},(∀w∈us,∃M,TG M w)->WC us<=N+64->∃x,WM (" ":aA) (some (.l (us.map D.str)))=some (.s x) /\
   pC .Add (.l ((ws.take a).map D.str)) (.l [.str x])=some (.ow (.l ((ws.take a++[x]).map D.str)))/\pC .Add (.l ((ws.take a++[x]).map D.str)) (.l ((ws.drop (a+1)).map D.str))=some (.ow (.l (((ws.take a++[x])++ws.drop (a+1)).map D.str))) /\
   WM ("\n":aA) (some (.l (((ws.take a++[x])++ws.drop (a+1)).map D.str)))=some (.s (YB ("\n":aA) ((ws.take a++[x])++ws.drop (a+1))))/\TG (4*N+200) (YB ("\n":aA) ((ws.take a++[x])++ws.drop (a+1))):=λ{us} hu hus=>by
  obtain⟨e1,tx⟩:=Fg (N:=N+63) IG (by decide) (λw hw=>let ⟨_,h⟩:=hu w hw;h.asc) hus (by lia);refine⟨_,e1, ?_, ?_, ?_⟩
  ·exact cat (xs:=ws.take a) (ys:=[_]) (by simp;lia)
  ·exact cat (by have:=FL (a+1);rw[lE];simp;lia)
  ·refine nX (λw hw=>?_) ?_ hN
   ·rcases CG.mp hw with z | z
    ·rcases CG.mp z with z | z
     ·exact⟨_,(h1 w (MJ z)).1⟩
     ·rw[ME.mp z];exact⟨_,tx⟩
    ·exact⟨_,(h1 w (MK z)).1⟩
   ·have:=tx.len
    rw[LO,LO,CJ]
    simp only[WC,vN,pq] at *
    lia
 by_cases QP:(way:Int)=10
 ·have q:decide ((way:Int)=10)=true:=IB QP;obtain⟨f,s6,f1,d6⟩:=CM (k:=k) (s:=s5) (m:=13) (by decide) (by decide);have d6:=d6 W n;have TH:MM.length=13:=rfl;have hf:f<MM.length:=by lia
  have hxf:=TR hf;have D4:=Hz _ (CK hf)
  obtain⟨x,e1,e2,e3,e4,tt⟩:=XA (us:=vs.set c MM[f]) (λw hw=>by
   rcases aAM hw with z | rfl
   ·exact⟨_,(p1 w z).1⟩
   ·exact⟨_,D4⟩) (by have:=GY (ws:=vs) (k:=c) (x:=MM[f]);have:=D4.len;lia)
  have f0a:∀{U:Env} {v:D},IT 7 v U (some (.o (.l (vs.map D.str)))) (.int (c:Int))=some (.nx,U.set 7 (.o (.l ((vs.map D.str).set c v)))):=λ{_ _}=>Bk (by rw[JA];exact W5 hc)
  rw[Sa] at e1;have m1:pC .Mult (.str ("1":aA)) (.int 60)=some (.s (DG ("1":aA) 60)):=qc ⟨by decide,λ_ _=>by left,λ_ _=>by left⟩ (by left);have m2:pC .Mult (.str ("9":aA)) (.int 61)=some (.s (DG ("9":aA) 61)):=qc ⟨by decide,λ_ _=>by left,λ_ _=>by left⟩ (by left);have m3:pC .Add (.str ("-":aA)) (.str (DG ("9":aA) 61))=some (.s (("-":aA)++DG ("9":aA) 61)):=YJ (by left);refine⟨s6,_, ?_,tt⟩;have gJ:MM.map D.str=[.str ("0":aA),.str ("-0":aA),.str ("01":aA),.str ("+1":aA),.str ("13":aA),.str ("61":aA),.str ("-13":aA),.str ("-61":aA),.str (DG ("1":aA) 60),.str (("-":aA)++DG ("9":aA) 61),.str ("turned":aA),.str ("any":aA),.str ("":aA)]:=rfl;rw[gJ] at hxf
  generalize MM[f]=fw at *
  generalize ("-":aA)++DG ("9":aA) 61=z2 at *
  generalize DG ("1":aA) 60=z1 at *
  unfold yF;clear h hN hl w1 c1 c2 c3 h1 h2 h3 hz hp oE a1 ha zt pR oR IQ FL cat c8 c9 RP QP y3 tt kK p1 p3 pz vp b9 c0 hc l5 XA D4 hf TH f1 gJ sf
  right
 have Lj:decide ((way:Int)=10)=false:=zB QP
 have v1:bD (some (.l (vs.map D.str))) none (some (.int (c:Int)))=some (.ow (.l ((vs.take c).map D.str))):=by
  have:=tY (L:=vs.map D.str) (c:=c)
  rwa[<- yR] at this
 have v2:bD (some (.l (vs.map D.str))) (some (.int ((c:Int)+1))) none=some (.ow (.l ((vs.drop (c+1)).map D.str))):=by
  have:=xJ (L:=vs.map D.str) (c:=c+1)
  rwa[<- IJ] at this
 have e0:=cat (xs:=vs.take c) (ys:=vs.drop (c+1)) (by rw[lG,WG];lia)
 have vz:WC (vs.take c++vs.drop (c+1))<=N+64:=by
  have z1:=K8 (ws:=vs) c;have z2:WC (vs.drop (c+1))<=WC (vs.drop c):=by rw[rR hc,CJ];lia
  rw[LO]
  lia
 obtain⟨x,e1,e2,e3,e4,tt⟩:=XA (us:=vs.take c++vs.drop (c+1)) (λw hw=>by
  rcases CG.mp hw with z | z
  ·exact⟨_,(p1 w (MJ z)).1⟩
  ·exact⟨_,(p1 w (MK z)).1⟩) vz
 refine⟨s5,_, ?_,tt⟩;unfold yF;clear h hN hl w1 c1 c2 c3 h1 h2 h3 hz hp oE a1 ha zt pR oR IQ FL cat c8 c9 RP QP y3 tt kK p1 p3 pz vp b9 c0 hc l5 XA vz sf
 right
def qGa{ns:List Int}(hn:ns.length<=63):∃no ba oc fs rs b pk ps,HX no ba oc fs rs/\TG 500000 b/\GA T.bA (run T W 29) W (qI.body.take 4) ([.sh (.l (ns.map .int))]++wC qI.nl .un)=some (.nx,[.sh (.l (ns.map .int)),.s (AG no ba oc fs rs),.o (.l [.int pk,.int ps]),.s b,.un,.un]):=by
 obtain⟨s1,no,ba,oc,fs,rs,h1,ho,hr⟩:=mAa (W:=W) (n:=26) (k:=(rF ns 1).1) (s:=(rF ns 1).2);have h:HX no ba oc fs rs:=⟨ho,hr⟩
 replace h1:run T W (26+3) "L_house" [.p (.l [.int (rF ns 1).1,.int (rF ns 1).2])]=some (.ok (.sh (RD no ba oc fs rs)),[.p (.l [.int (rF ns 1).1,.int s1])]):=h1;have hp1:=oj (W:=W) (n:=28) (ns:=ns) (k:=1) hn (by lia);have hp2:=oj (W:=W) (n:=28) (ns:=ns) (k:=2) hn (by lia);have k1:((1:Nat):Int)=1:=rfl;have k2:((2:Nat):Int)=2:=rfl;rw[k1] at hp1;rw[k2] at hp2;have ht:=iXa (W:=W) (n:=27) h
 generalize (rF ns 1).1=p1 at *
 generalize (rF ns 1).2=p2 at *
 generalize (rF ns 2).1=k at *
 generalize (rF ns 2).2=s at *
 obtain⟨s2,b1,e1,t1⟩:=uc (W:=W) (n:=27) (k:=k) (s:=s) (kn h) (by decide);obtain⟨s3,b2,e2,t2⟩:=uc (W:=W) (n:=27) (k:=k) (s:=SA k s2 3) (N:=120200) t1 (by decide);unfold cY at e1 e2;by_cases c:uB k s2 3=0
 ·have c':decide (uB k s2 3=0)=true:=IB c;refine⟨no,ba,oc,fs,rs,b2,k,s3,h,t2.up (by decide), ?_⟩
  generalize AG no ba oc fs rs=tx at *
  unfold qI
  walk_at "!WE"
 ·have c':decide (uB k s2 3=0)=false:=zB c;refine⟨no,ba,oc,fs,rs,b1,k,SA k s2 3,h,t1.up (by decide), ?_⟩;unfold qI
  walk_at "!WE"
def rGa(h:TG 500000 b):∃f,GA T.bA (run T W 29) W ((qI.body.drop 4).take 2) [x0,x1,x2,.s b,.un,.un]=some (.nx,[x0,x1,x2,.s b,f,.un])/\PB f=true:=by
 have hg:=t_ (W:=W) (n:=25) h;rcases cTa W 21 h with hr | ⟨no,ba,oc,fs,rs,hh,e,hr⟩
 ·have hl:=ai hr
  have hf:gT (aAi b)=false:=by
   cases q:gT (aAi b)
   ·rfl
   ·obtain⟨no,ba,oc,fs,rs,hh,e⟩:=Qz (TQ h).1 q
    have e2:b=AG no ba oc fs rs:=by
     have:=(TQ h).2.2
     rw[e] at this;exact this
    have:=Wj hh W 21
    rw[<- e2,hr] at this;cases this
  rw[hf] at hg;refine⟨.s ("none":aA), ?_,rfl⟩;have e0:(("none":aA)==("none":aA))=true:=QE _;unfold qI
  walk_at "!WE"
 ·have hl:=mHa hr
  have hf:gT (aAi b)=true:=by(rw[<- e,jk hh];exact Rz hh)
  rw[hf] at hg;have hs:=OW (W:=W) (n:=26) hh;rw[e] at hs;have e0:(b==b)=true:=QE _;refine⟨.ow (.l [RD no ba oc fs rs]) false false, ?_,rfl⟩;unfold qI
  walk_at "!WE"
def Kw:(aAi ("":aA)).length<3:=by
 unfold aAi;rw[JA];have h:(UA ("":aA) ("\n":aA)).length=1:=by left
 lia
def law_spec(W:Nat)(ns:List Int)(hn:ns.length<=63):∃QA,run T W 30 "law" [.sh (.l (ns.map .int))]=some (.ok (.b true),QA):=by
 rw[dC Qb rfl rfl];obtain⟨no,ba,oc,fs,rs,b,pk,ps,h,tb,hA⟩:=qGa hn;rw[YE hA];obtain⟨f,hB,hf⟩:=rGa (x0:=.sh (.l (ns.map .int))) (x1:=.s (AG no ba oc fs rs)) (x2:=.o (.l [.int pk,.int ps])) tb;rw[YE hB];have hr:=Wj h W 22;have hs:=OW (W:=W) (n:=26) h
 generalize AG no ba oc fs rs=tx at *
 obtain⟨U1,el,t5,rfl,CS⟩:=AX (bind:=WA true [5]) (body:=GA T.bA (run T W 29) W A0)
  (λU=>∃t5,U=[.sh (.l (ns.map .int)),.s tx,.o (.l [.int pk,.int ps]),.s b,f,t5]/\PB t5=true)
  (ds:=[.oA,.int 7,.l [.str tx],.str ("":aA)]) (λd hd U hU=>by
   obtain⟨t5,rfl,h5⟩:=hU
   have hl:"L_read"|||29|||[.sh d]|||.s ("none":aA):=by
    refine ai (n:=21) ?_;rcases AD.mp hd with rfl | hd
    ·exact T7 W 21 rfl
    rcases AD.mp hd with rfl | hd
    ·exact T7 W 21 rfl
    rcases AD.mp hd with rfl | hd
    ·exact T7 W 21 rfl
    ·rw[ME.mp hd];exact Vj ⟨by left,by left⟩ Kw
   have e0:(("none":aA)==("none":aA))=true:=QE _;refine⟨_,by simp only[CD,vC h5]<;>rfl, ?_⟩;unfold A0
   walk_at "!WE"
   exact⟨_,rfl,_,rfl,rfl⟩)
  (U:=[.sh (.l (ns.map .int)),.s tx,.o (.l [.int pk,.int ps]),.s b,f,.un]) ⟨_,rfl,rfl⟩
 have hi:∀U,aAa .of [.val (.ow (.l [.oA,.int 7,.l [.str tx],.str ("":aA)]))] U=some ([.oA,.int 7,.l [.str tx],.str ("":aA)],none):=λU=>DI rfl
 have e0:(tx==tx)=true:=QE _;unfold qI
 walk_at "!WE"
 exact⟨_,rfl⟩
end Mx
namespace PySem.W.Fast
def tw1011601666811065686:=True
def tw10127774583325594890:=True
def tw10231540191284483533:=True
def tw10251784528830513568:=True
def tw10280082538937057197:=True
def tw10405187287368051698:=True
def tw1045781805100229163:=True
def tw1047158848838621257:=True
def tw10552160934863466137:=True
def tw1060158515671138615:=True
def tw10667479212703481804:=True
def tw106929457411798280:=True
def tw10785144324372078904:=True
def tw1079505610292649234:=True
def tw10845255520453243233:=True
def tw1085392062630164160:=True
def tw10895063055717341876:=True
def tw10961356288028418516:=True
def tw10994932612739017478:=True
def tw11029579083642040291:=True
def tw11036181841666219977:=True
def tw11204695653280195713:=True
def tw11231908703678240872:=True
def tw11251963549775469249:=True
def tw11267556880050827052:=True
def tw11302681226568807217:=True
def tw11388591064685311362:=True
def tw11394415474001132565:=True
def tw11414503341427587637:=True
def tw11553073751136785623:=True
def tw11634404036812247958:=True
def tw11691058935852185926:=True
def tw11876855036743887285:=True
def tw11880679519692075:=True
def tw11912642243521284675:=True
def tw12105612683837633433:=True
def tw12415077051933375926:=True
def tw12453597908776390924:=True
def tw12468636786636405834:=True
def tw12472265992729083476:=True
def tw12584818076912237637:=True
def tw1271516477934971399:=True
def tw12726475557626531941:=True
def tw128235628777813829:=True
def tw12842855347222750145:=True
def tw1286917598245035590:=True
def tw1292425411736799893:=True
def tw13017404249754046059:=True
def tw13041896524831681957:=True
def tw13063539443707418097:=True
def tw13122032598428360230:=True
def tw13191796560068278272:=True
def tw13246583958076609109:=True
def tw13301725635358359686:=True
def tw13334243234067619182:=True
def tw1335130365926005292:=True
def tw13464492977289060120:=True
def tw13518474975034213886:=True
def tw13571489942515308855:=True
def tw13612592730825401858:=True
def tw1368563908152120285:=True
def tw13721960937850270410:=True
def tw13805845368896598528:=True
def tw13805922207576353010:=True
def tw14098944642199933892:=True
def tw14117828293026121122:=True
def tw14154542689327897654:=True
def tw14194189952042576303:=True
def tw14233023177833730443:=True
def tw14304744880526263448:=True
def tw14447797342517473023:=True
def tw14460319914658403290:=True
def tw14494459913955732339:=True
def tw14881259683236903286:=True
def tw1488490170182146792:=True
def tw14939304379410716303:=True
def tw1497621909553031042:=True
def tw14984337697677229727:=True
def tw15001811968381721359:=True
def tw15010069321248765779:=True
def tw15162045459724271370:=True
def tw15178741547848729362:=True
def tw15190839712921767421:=True
def tw1538168226518284394:=True
def tw15388494825645608128:=True
def tw1541879557249715858:=True
def tw15431411664778243585:=True
def tw15535784931132704854:=True
def tw15680165343506156912:=True
def tw15705777516126267041:=True
def tw15810552695963464438:=True
def tw15817499735078663796:=True
def tw15841909727564152189:=True
def tw15877893920420975703:=True
def tw15920007699725982778:=True
def tw15964205733267612959:=True
def tw16021252469923594018:=True
def tw16076201004955429586:=True
def tw16079410304265910889:=True
def tw16126861581799694130:=True
def tw16193300437715787458:=True
def tw16210851131815358897:=True
def tw16277547584022610209:=True
def tw16360045642784986014:=True
def tw16382790547397208151:=True
def tw16393829259205279600:=True
def tw16474431372370702882:=True
def tw16485514954935058865:=True
def tw16492734857873941056:=True
def tw16493745049071490789:=True
def tw16654827372290555344:=True
def tw16689165583467664082:=True
def tw16700860565751320783:=True
def tw16841664715519554376:=True
def tw16877954074931794505:=True
def tw17118916348915274514:=True
def tw17150510192277348233:=True
def tw17239817788796630975:=True
def tw17268340935738188127:=True
def tw17340645369075834717:=True
def tw17346936959434711671:=True
def tw17367804316382761239:=True
def tw1737340625281883143:=True
def tw1738151099379549429:=True
def tw17456427091192048253:=True
def tw17525066223052875225:=True
def tw17648783569574156527:=True
def tw17774964993530293704:=True
def tw17791637832928494351:=True
def tw1792712032966073010:=True
def tw17938237383634017815:=True
def tw18043693190157964866:=True
def tw181144761098282357:=True
def tw18117881886563951829:=True
def tw18293661562920241393:=True
def tw1830324258737528712:=True
def tw18315395863783197285:=True
def tw18349143597571185438:=True
def tw1842482916996196855:=True
def tw188414562511042876:=True
def tw1897612484216602487:=True
def tw2031672625997292453:=True
def tw2055178796193816802:=True
def tw2055627672757212840:=True
def tw2060919795613251137:=True
def tw2092097276138762498:=True
def tw2161149920452847052:=True
def tw2179739699003689935:=True
def tw2187458378577177749:=True
def tw2220484713544169909:=True
def tw2277379353085667670:=True
def tw2330404933443148996:=True
def tw2361919925230084247:=True
def tw2406316658508451446:=True
def tw2420416672740161471:=True
def tw2477668846933898337:=True
def tw2479023267995892507:=True
def tw2502619416386273451:=True
def tw2505774625993803194:=True
def tw2605118383205192974:=True
def tw2649655897765126284:=True
def tw269666090230480919:=True
def tw2700160702229912621:=True
def tw27487024886783708:=True
def tw2807130701364464672:=True
def tw2817413254404966122:=True
def tw2886670646326580078:=True
def tw295439129256056989:=True
def tw308069715386535983:=True
def tw3097344929453347879:=True
def tw3135462940206634545:=True
def tw3190340715125568458:=True
def tw3261123447310592891:=True
def tw3267859245243579135:=True
def tw3299352164163675128:=True
def tw3325450133350315095:=True
def tw3358244914422705571:=True
def tw3385861725729735078:=True
def tw3672250824033729594:=True
def tw3678304628391026003:=True
def tw3686341333434252041:=True
def tw3761698297474145500:=True
def tw3764099364309316135:=True
def tw3814609854825139406:=True
def tw3862051319639865462:=True
def tw4094678755246425006:=True
def tw4144638260702875263:=True
def tw4144909999787336569:=True
def tw4168802940501661348:=True
def tw4211757627071222884:=True
def tw4230644837190894412:=True
def tw4338318152597968008:=True
def tw4413917833386671770:=True
def tw4503185486435615524:=True
def tw4518956192599161715:=True
def tw4550606243463784661:=True
def tw4685934867740822214:=True
def tw4769991871372848598:=True
def tw5150577643908031479:=True
def tw5171233251448172260:=True
def tw522557162694076312:=True
def tw5444307476407556090:=True
def tw5638347501246521757:=True
def tw5672047258839493892:=True
def tw5932804496134443756:=True
def tw6002396182271948071:=True
def tw6030906773887276017:=True
def tw6077742278451989391:=True
def tw6082044079443691216:=True
def tw6082545892489411039:=True
def tw611350333919143120:=True
def tw6137439893797346331:=True
def tw6155335545042735366:=True
def tw6174550813727834302:=True
def tw62174866082952647:=True
def tw6241115504978604499:=True
def tw6299210190380305134:=True
def tw6522244947691251057:=True
def tw6556421182747717135:=True
def tw6572911514750607724:=True
def tw6626626012040252657:=True
def tw6636214258121100465:=True
def tw6713516274426572570:=True
def tw6715097090180013833:=True
def tw6886948037149738295:=True
def tw6990522286490969539:=True
def tw7059955136417538459:=True
def tw7099590251983632061:=True
def tw7207278184048288429:=True
def tw7207426986124694027:=True
def tw7218011680774647195:=True
def tw7218353908159441297:=True
def tw7236025004010093352:=True
def tw7236201050074152107:=True
def tw7255229910583040782:=True
def tw7316890324096678476:=True
def tw7369584700098860570:=True
def tw7476143069211682099:=True
def tw7483405058368089964:=True
def tw7551391517457596918:=True
def tw7592219044177665950:=True
def tw7621305050803848173:=True
def tw7776106763166606:=True
def tw7980236691302215197:=True
def tw8008709479619173181:=True
def tw803309128056949015:=True
def tw8071622060345522256:=True
def tw8096075822860747817:=True
def tw8179881426916864947:=True
def tw8245810089314431996:=True
def tw8386701745260461238:=True
def tw8577539100809038849:=True
def tw8580618605524539950:=True
def tw8598181101423595307:=True
def tw8698122705613615915:=True
def tw8742696353326161163:=True
def tw8814357839898392190:=True
def tw8845677806892005807:=True
def tw8853357072999360747:=True
def tw8923771071447765056:=True
def tw8924665425257950288:=True
def tw8932993184757491562:=True
def tw9080895228386255568:=True
def tw909013299062396523:=True
def tw914055510761071426:=True
def tw9212084345730849096:=True
def tw931566253851975489:=True
def tw9336553129878783424:=True
def tw934741053401303059:=True
def tw9521335991162468223:=True
def tw9568602435365783514:=True
def tw9575000160281009152:=True
def tw9578500692158267138:=True
def tw9736462106868900408:=True
def tw9773834300526821419:=True
def tw9971407031828470508:=True
end PySem.W.Fast
open PySem PySem.W PyProof.Rows
set_option maxRecDepth 100000 in
set_option maxHeartbeats 0 in
theorem PySem.Challenge.cw_canonwright_k64_texts_of_no_house_holds : PySem.Challenge.rw_canonwright_k64_texts_of_no_house.Holds := by
 w_on;o_law;k_head;(case hw=>w_witness2)
 k_fill
 refine CI.wGa (l:=PySem.Challenge.rw_canonwright_k64_texts_of_no_house) (T:=Tx.T) (L:=Tx.L) (st:=Tx.top 62) (fn:=Tx.qI) (W:=1000000) (n:=30) (x:="law") (p:="_law_script") (f:="law") rfl rfl ⟨rfl,by decide,by decide,rfl⟩ rfl Tx.Qb Tx.Ti (by left) (λw h Y=>PySem.W.kIn_of Y) ?lz ?wHa
 case wHa=>exact Mx.law_spec _
 case lz =>
  intro w mg h KX G;have D_law:CI.JR (L2.PD KX) "law" (Tx.top 62):=by refine' CI.Ad ?a ?l ?c ?k;(case a | l | c | k=>dsimp only[L2.PD];k_is)
  have yq:CI.aH (L2.PD KX) mg Tx.T (CI.QB Tx.L) ("WAYS",.c (.t [(.str ("like":aA)),(.str ("against":aA)),(.str ("aside":aA)),(.str ("any":aA))])):=by
   refine' CI.gw KX G ?a ?l ?c ?z
   (case a | l=>dsimp only[L2.PD];k_is)
   (case c=>first | rfl | left)
   (case z=>rfl)
  have wq:CI.aH (L2.PD KX) mg Tx.T (CI.QB Tx.L) ("FIGURES",.c (.str ("0123456789":aA))):=by
   refine' CI.dw KX G ?a ?ok
   (case a=>dsimp only[L2.PD];k_is)
   (case ok=>left)
  have Zs:CI.UU (L2.PD KX) "NoVoice":=by
   refine' CI.ae ?a ?b ?xq ?ga ?no ?cl ?gt ?tk ?mo ?mb ?mv ?ov ?sa ?na ?hd ?kp
   (case a | b | ga | no | cl | gt | tk | mo | mb | mv | sa | na | hd | kp=>dsimp only[L2.PD];k_is)
   (case xq | ov=>dsimp only[L2.PD];kernel_rfl)
  have Hq:CI.ZU (L2.PD KX) "NoVoice" "__init__" "NoVoice.__init__" (Tx.LX 3 0):=by
   refine' CI.yi ?a ?b ?i ?l ?c ?k
   (case a | b | i | l | c | k=>dsimp only[L2.PD];k_is)
  have Xs:CI.UU (L2.PD KX) "NoRule":=by
   refine' CI.ae ?a ?b ?xq ?ga ?no ?cl ?gt ?tk ?mo ?mb ?mv ?ov ?sa ?na ?hd ?kp
   (case a | b | ga | no | cl | gt | tk | mo | mb | mv | sa | na | hd | kp=>dsimp only[L2.PD];k_is)
   (case xq | ov=>dsimp only[L2.PD];kernel_rfl)
  have Gq:CI.ZU (L2.PD KX) "NoRule" "__init__" "NoRule.__init__" (Tx.LX 4 0):=by
   refine' CI.yi ?a ?b ?i ?l ?c ?k
   (case a | b | i | l | c | k=>dsimp only[L2.PD];k_is)
  have Ws:CI.BP (L2.PD KX) "NoHouse":=by
   refine' CI.P2 ?a ?xq ?ga ?no ?cl ?gt ?tk ?mo ?mb ?mv
   (case a | ga | no | cl | gt | tk | mo | mb | mv=>dsimp only[L2.PD];k_is)
   (case xq=>dsimp only[L2.PD];k_exc)
  have Ys:CI.BP (L2.PD KX) "NoText":=by
   refine' CI.P2 ?a ?xq ?ga ?no ?cl ?gt ?tk ?mo ?mb ?mv
   (case a | ga | no | cl | gt | tk | mo | mb | mv=>dsimp only[L2.PD];k_is)
   (case xq=>dsimp only[L2.PD];k_exc)
  have Vs:CI.BP (L2.PD KX) "CanonError":=by
   refine' CI.P2 ?a ?xq ?ga ?no ?cl ?gt ?tk ?mo ?mb ?mv
   (case a | ga | no | cl | gt | tk | mo | mb | mv=>dsimp only[L2.PD];k_is)
   (case xq=>dsimp only[L2.PD];k_exc)
  refine⟨D_law, ?_⟩;unfold Tx.L;refine CI.fc (yq) ?_
  iterate 8 refine CI.fc (by refine' CI.rd KX G ?a;(case a=>k_is)) ?_
  refine CI.fc (wq) ?_
  iterate 2 refine CI.fc (by refine' CI.rd KX G ?a;(case a=>k_is)) ?_
  refine CI.GC KX G Tx.nLa ?_;refine CI.GC KX G Tx.oLa ?_;refine CI.GC KX G Tx.xKa ?_;refine CI.GC KX G Tx.kLa ?_;refine CI.GC KX G Tx.mLa ?_;refine CI.GC KX G Tx.wKa ?_;refine CI.GC KX G Tx.lLa ?_;refine CI.GC KX G Tx.bLa ?_;refine CI.GC KX G Tx.iLa ?_;refine CI.GC KX G Tx.iMa ?_;refine CI.GC KX G Tx.gMa ?_;refine CI.GC KX G Tx.kMa ?_;refine CI.GC KX G Tx.jMa ?_;refine CI.GC KX G Tx.hMa ?_;refine CI.GC KX G Tx.cMa ?_;refine CI.GC KX G Tx.dMa ?_;refine CI.GC KX G Tx.fMa ?_;refine CI.GC KX G Tx.aMa ?_;refine CI.GC KX G Tx.eMa ?_;refine CI.GC KX G Tx.wLa ?_;refine CI.GC KX G Tx.bMa ?_;refine CI.GC KX G Tx.qKa ?_;refine CI.GC KX G Tx.jKa ?_;refine CI.GC KX G Tx.sKa ?_;refine CI.GC KX G Tx.oKa ?_;refine CI.GC KX G Tx.tKa ?_;refine CI.GC KX G Tx.uKa ?_;refine CI.GC KX G Tx.pKa ?_;refine CI.GC KX G Tx.iKa ?_;refine CI.GC KX G Tx.nKa ?_;refine CI.GC KX G Tx.lKa ?_;refine CI.GC KX G Tx.kKa ?_;refine CI.GC KX G Tx.mKa ?_;refine CI.GC KX G Tx.hKa ?_;refine CI.GC KX G Tx.rKa ?_;refine CI.GC KX G Tx.Ti ?_
  iterate 11 refine CI.fc (by refine' CI.zu KX G ?a;(case a=>k_is)) ?_
  refine CI.fc (CI.Zd KX G Ws) ?_;refine CI.fc (CI.ie KX G Zs Hq Tx.lBa) ?_;refine CI.fc (CI.ie KX G Xs Gq Tx.kBa) ?_;refine CI.fc (CI.Zd KX G Ys) ?_
  iterate 10 refine CI.fc (by refine CI.yVa KX G ?s ?y ?n;(case s=>refine' CI.jGa ?a;(case a=>k_is));(case y=>(repeat refine CI.fc (by refine' CI.hGa ?a ?b ?k;(case a | b | k=>k_is)) ?_);exact E9 _);(case n=>(repeat refine CI.fc (by refine' CI.iGa ?a ?b ?k;(case a | b=>k_is);(case k=>kin_no)) ?_);exact E9 _)) ?_
  refine CI.fc (CI.Zy KX G Vs (by(repeat refine CI.fc (by refine' CI.dIa ?a ?b ?m;(case a | b | m=>k_is)) ?_);exact E9 _)) ?_
  exact λ_ h=>nomatch h
