import PyProof.Rows.All
import Wide.All
import OpenK.AllK
import Wide.FinOn
import Lean
import PyProof.EqAt
import PyProof.EqKinds
import PyProof.TupleCall
import PyProof.Rows.SortRunsK
import KE.KSortTup
import PyProof.Rows.SortShellK
import KE.KDictList
import KE.KDictOf
import PyProof.AttrMissHeap
import OpenK.KOwn
import PyProof.NsDelKeeps
import KE.KIsAll
import PyProof.ExcArgsOwn
import PyProof.ExcAttrAll.ValueError
import PyProof.ExcClass3
import PyProof.ExcInit
import PyProof.Rows.MatchSeqLen
import KE.KIntText
import PyProof.NeData
import KE.KStateDown
import PySem.Challenge.RW_canonwright_k54_whole_needed_in_fewer
open PySem.W renaming Frag->gA,nsIn->LC,findIn->DF,keepIn->UG,fnOf->yH,emptyDict->HL,mroIn->sJ,hideAll_none->eR,instObj->dN,kia_one->XO,mg_of->jN,plainGet->lR,codeIn->YO,hideAll->qR,hasDictIn->uU,of_hideAll->KY,callWith_K->LY,makesIn->UY,hideAll_get->Yb,plainGet_of->dc,isFn->GU,lookIn->aZ,methodObj->Ac,plainOver->Bc,OpenLaw->KU,cellsFrom_some->zq,takerIn->Mc,methodCall_KW->Fq,KdlSrc->Vc,excIn->jd,specialIn->Rr,handedIn->Xr,kat_cons->js,kat_one->Ms,kat_yes->Qs,kin_not->Ts,takesIn->Us,WalkO->Dd,kat_no->Vs,isIn->yt
open PySem.Str renaming ofString->wA
open PySem renaming wpAny_bind->kA,Value->cA,wpAny_pure->SA,Shared->qA,Str->bA,Addr->fA,wpAny->nA,mainGlobals->IB,Expr->vA,starEach->YB,Stmt->MA,Program->pC,wpAny_loadPart'->vH,compareOp->bE,foldedSetIterable->AJ,World->NB,ExceptHandler->cI,wpAny_truthy_bool->GL,wpAny_newObj_type->IL,Heap->jB,wpAny_callSpecial?_slot->aR,wpAny_mono->OG,wpAny_field->XH,binaryOp->gF,assignEach->qH,wpAny_holding->qK,behindInMarks->rK,Around->LD,wpAny_call_entry->QO,wpAny_Call_Name_kw->gR,wpAny_passesOwn->VO,bootBuiltins->NL,FuncData->QG,mem_of_lookup->oU,wpAny_typeNameOfWhole_keyiter->Ib,backTo->UE,richCompare_meets_room->BY,wpAny_setField_rec->sU,wpAny_pyIter_list->tU,wpAny_rule->QL,PassesOwn->xK,codeAny_mono->bP,Builtin->sH,Env->yK,NameKind->wJ,wpAny_typeNameOf_keyiter->Ob,wpAny_execs_nil->zU,codeAny_builtin->AU,sizeLine_eq->dP,Obj->nB,wpAny_setField->DU,Operator->zK,Scope->BF,codeAny->BK,Pos->MB,ItemsAre->bZ,CmpOp->RG,wpAny_dictEntries->Ec,wpAny_pyIter_enum->Fc,wpAny_standAt->dZ,IsPart->xJ,wpAny_attempt->gZ,IsEnum->yJ,wpAny_forIn_list->Hc,noFill_tuple_add->Ic,wpAny_isInstance->Kc,concat_meets->kZ,wpAny_specialOf->Oc,wpAny_isOneOf_keyiter->Kq,getitemInPython_of_ne->Lq,wpAny_mkInt->sZ,wpAny_pyIter_keyiter->Pq,wpAny_letTemporaryGo->Rq,codeAny_call_builtin->Sq,wpAny_isSubtype_exc->ar,seq_tuple_add->Yc,wpAny_newList->gd,wpAny_pyIter_tuple->jr,wpAny_call->wZ,call_meets->yZ,Within->sd,wpAny_assign_Name->Cr,wpAny_sequenceKey->Gr,wpAny_typeOf->ud,seqIndex_neg->vd,slot_list_getitem->Hr,wpAny_loadPart_at->Nr,seqIndex_of->Bd,wpAny_Name->Ed,typeIs_int->Fd,call->Kd,Sem->DE,Meets->iP,BindsTo->AZ,Keyword->BZ,Tok->kF
open List renaming length_map->EA,getElem?_eq_getElem->gD,length_append->oC,replicate->LB,mem_singleton->DC,getElem?_eq_some_iff->RD,mem_cons_of_mem->fD,length_cons->QC,append_nil->JC,size_toArray->mD,casesOn->XB,map_cons->KC,all_cons->WC,mem_cons_self->qE,getElem?_map->jE,getElem?_set_ne->iF,mem_append_right->XF,mem_cons->wD,range->vC,mem_append->VE,getElem?_cons_zero->EI,all_eq_true->YF,mem_of_getElem?->YH,map_append->CF,getElem?_set_self->DK,length_set->SG,length_take->ZH,length_nil->wH,lookup_cons->aI,mem_map->EF,getElem?_eq_none->RL,getD_eq_getElem?_getD->kP,append_assoc->BJ,drop_eq_getElem_cons->lP,length_singleton->oN,eraseIdx_eq_take_drop_succ->LU,mem_append_left->pN,getElem?_append_right->zR,take_of_length_le->KO,getElem?_append_left->YQ,replicate_succ->YM,getElem?_range->ZM,mem_of_mem_eraseIdx->ZQ,zip_cons_cons->aN,mem_filter->JL,flatten_cons->NO,foldl_cons->eN,find?_cons->fN,length->uJ,cons_append->UO,mem_range->iN,filter_append->jR,nil_append->WO,lookup->vK,length_eraseIdx->nU,length_drop->mR,getElem_mem->pR,append_cancel_left->yY,getElem?_cons_succ->zY,pairwise_singleton->AY,map_nil->kN,set_cons_zero->pU,nodup_cons->rR,forIn_cons->sR,any_cons->ZO,length_filter_le->FY,length_range->vU,isEmpty_iff->yU,find?_range_eq_some->Pb,range_succ->BU,set_cons_succ->NY,getElem?_replicate->Qb,take_succ->EU,take_append_drop->Tb,take_length->SY,forall_mem_cons->Wb,mem_of_mem_take->Xb,of_mem_zip->VY,filter_map->ZY,filterMap_cons->Zb,take_succ_cons->jc,drop_succ_cons->kc,findSome?_cons->qc,map_map->JU,mem_filterMap->uc,take_zero->cZ,pairwise_cons->yc,eq_of_mem_replicate->sq,find?_range_eq_none->tq,length_eq_zero_iff->vq,all_map->oZ,filter_eq_nil_iff->Dq,mem_iff_getElem?->Iq,getElem_eraseIdx->Nq,forIn_nil->Rc,drop_zero->Wc,pairwise_append->Uq,length_pos_iff->br,map_take->md,contains_cons->ur,filter_filter->yr,any_eq_false->Dr,zip_nil_left->Er,nodup_append->Ur,filter_congr->Vr,take_add_one->Wr,drop_length->Cs,mem_flatMap->Es,any_eq_true->Fs,isEmpty_nil->Gs,perm_middle->Js,foldl->Jd,drop_left->Ys,map_drop->ot,sum_cons->vt,take_nil->wt,any_map->Bt
open Bool renaming and_eq_true->WA,false_ne_true->SD,false_eq_true->wG,not_false->GI,or_eq_true->KL,not_true->ML,true_and->aP,false_and->uR,or_false->vR,not_eq_true->TY,or_eq_false_iff->Vb,casesOn->IU,false_or->iZ,or_true->pZ,true_or->qZ,eq_iff_iff->Pc,decide_and->Ls,and_true->jt,and_comm->qt
open PySem.Heap renaming get?_push_of_some->wC,lt_size->fC,get?_push_size->iE,SameBut->xH,get?_update_other->cR,get?_update_self->CY,get?_none_of_le->GY,size_push->CU
open Option.some renaming injEq->aC,inj->ZD
open Nat renaming le_refl->mB,le_trans->XC,lt_of_lt_of_le->jF,ne_of_lt->MD,lt_succ_self->FI,lt_of_le_of_ne->UL,le_of_lt->tK,le_of_eq->uK,lt_irrefl->LL,zero_le->tJ,succ_le_succ->SO,ne_of_gt->OL,le_succ->wK,le_add_right->oR,lt_trans->lN,add_le_add_right->IY,le_add_left->WY,not_lt_zero->XY,min_eq_left->YY,add_le_add_left->ic,sub_self->HU,pos_of_ne_zero->wc,lt_of_succ_lt->Dc,add_assoc->fZ,le_of_not_lt->Jc,zero_add->lZ,sub_one_lt_of_le->Oq,sub_one_lt->Tc,pow_le_pow_right->Tq,lt_of_le_of_lt->qr,add_right_comm->Ar,add_sub_of_le->Kr,sub_pos_of_lt->Lr,lt_succ_of_lt->Qr,le_of_lt_succ->Sr,max_eq_right->Zr,succ_ne_self->Bs,min_eq_right->Hs,mul_le_mul->Xs
open PyProof.Rows renaming wpS_pure->dB,wpS_bind->lB,SortSt->zB,slot_tuple_getitem->jP,wpS_forRange->ZF,Keyed->HB,wpS_mono->TF,callWith_type1->sY,wpS_modify->eP,IsTup->AF,AllBare->AK,wpS_get->CK,tupleItemsOf_->eZ,wpS_lift->gP,subscriptTail_builtinR->Bq,le_int->Qc,SortKind->yR,wpS_reverse->tZ,entry_tuple_getitem->Vq,listUpdate_at->Zc,args_tuple_getitem->lr,seqEpoch_at->Cd,lt_int->xt
open Option renaming map_eq_some_iff->VF,map_some->EE,bind_eq_some_iff->zJ,bind_some->uH,casesOn->VG,getD_none->Yr
open Array renaming length_toList->vG,getElem?_eq_some_iff->uY,getElem?_toList->mU,mem_toList_iff->HY,toList_append->JY,size_extract->MY,getElem?_setIfInBounds_ne->jq,toList_inj->RY,toList->FU,forIn_toList->vc,getElem?_eq_getElem->pq,mem_singleton->Xq,getElem_mem->Jr,size_map->Ws
open Prod.mk renaming injEq->aE
open LawfulBEq renaming eq_of_beq->EC
open PySem.PyData renaming canLay0->xG,eqvAll->bI,depth->zH,canLayAll0->cN,depthAll->gN,eqv->PL,strOk->cP
open Int renaming toNat_natCast->EK,toNat_of_nonneg->MO,lt_of_le_of_lt->iR,emod_nonneg->tR,emod_lt_of_pos->OY,emod_eq_of_lt->QY,fdiv_eq_ediv_of_nonneg->mq,pow_pos->vZ,sub_emod_right->xr,le_trans->zd,natCast_add->Ss
open PySem.Expr renaming casesOn->WG
open False renaming elim->uG
open Ne renaming symm->hE
open PySem.Builtin.Tuple renaming tupleHashOf->lU,tupleItemsOf->tY,tupleExact->wY,tupleCompareSizes->iq
open PySem.Builtin.Slice renaming slicePlaces->vY,sliceAdjust->Kb,sliceApplied->nq
open PySem.AutoSeq1 renaming wpAny_loadPart'->xY,sub_tuple_tuple->Lb
open PySem.Obj renaming data_mapFields->qU,isFreed_of_fields->DY,mapFields->wR,mapSeq->nN,cls_mapFields->Mr
open PySem.F renaming slot_dict_keyiterator_next->Jb,slot_enumerate_next->EY,args_tuple_add_2->Mb,entry_tuple_add->Rb,slot_tuple_add->Sb,excBase_ValueError->oq,called_enumerate->xc,slot_dict_getitem->rq,args_tuple_lt_2->uq,args_enumerate_next_1->wq,plainAttrs_list->yq,entry_tuple_lt->Aq,entry_enumerate_next->Cq,slot_tuple_lt->Gq,slot_list_append->Hq,slot_dict_len->Mq,args_tuple_hash_1->Wq,slot_list_pop->mr,entry_tuple_hash->nr,slot_tuple_hash->Ir,slot_dict_iter->As,slot_int_rmul->Ks
open PySem.Builtin renaming bitAnd->wU
open PySem.SeqAt renaming rcAt_reads->xU,EqAt->xZ
open PySem.Builtin.SmallTypes renaming ownedTupleHandOut->fq,ownedTupleIsFree->gq,fitsIndex->lq
open PySem.Builtin.List renaming listTooLong->Nb
open PySem.Value renaming isInt_shape->PY,isInt->rZ,isStrOf->Zs
open PySem.Around renaming under->xR,under_plainId->Qq,deeper->Xc
open Sum renaming elim->fP,isRight->uZ,elim_inr->yd
open PySem.Env renaming kindOf->Lc
open PySem.Code renaming isGuard->jZ,quiet_builtin->sr,isFrame->td,guards->Ad
open Nat.succ renaming inj->mZ
open PySem.Flow renaming casesOn->nZ
open List.cons renaming injEq->Nc,inj->qd
open PySem.Builtin.Dict renaming showsAll->Jq
open PySem.Heap.SameBut renaming update->Yq
open PySem.EntryCells renaming newEntry->Zq
open PySem.SeqAt.EqAt renaming int_str->gr,str_int->ir,int_int->kr
open PySem.Data.seq renaming inj->wd
open PySem.PassesOwn renaming looking->Tr
open PySem.Operator renaming casesOn->Ds
open PySem.Builtin.Dict_items renaming ownsTuple->v3a
open Eq renaming trans->zZ
open PySem.Paired renaming length->bt
open PyProof.Rows.IsTup renaming new->Ld
open PySem.Stmt renaming casesOn->zt
open Sum.inl renaming inj->Ct
open Sum.inr renaming inj->Dt
open Prod renaming ext->Md
open PySem.Heap.IsSliceOf renaming new->w3a
open PySem.W.WShape renaming has->Et
set_option Elab.async false
set_option linter.all false
set_option maxRecDepth 100000
theorem WB:type_of% @decide_eq_false:=@decide_eq_false
theorem jC:type_of% @decide_eq_true:=@decide_eq_true
theorem GA.{u}:type_of% @if_pos.{u}:=@if_pos.{u}
theorem LA.{u}:type_of% @if_neg.{u}:=@if_neg.{u}
theorem LO.{u}:type_of% @beq_eq_false_iff_ne.{u}:=@beq_eq_false_iff_ne.{u}
theorem OO:type_of% @decide_eq_true_eq:=@decide_eq_true_eq
theorem kR:type_of% @of_decide_eq_true:=@of_decide_eq_true
theorem vJ.{u}:type_of% @beq_iff_eq.{u}:=@beq_iff_eq.{u}
theorem rH.{u}:type_of% @if_false.{u}:=@if_false.{u}
set_option compiler.extract_closed false
set_option genSizeOf false
set_option bootstrap.genMatcherCode false
noncomputable section
namespace L2
open PySem PySem.Spec PyProof.Rows
abbrev Key:=Sum Int bA
noncomputable def wQ:Key->cA->Bool
 |.inl k,v=>rZ k v
 |.inr x,v=>Zs x v
noncomputable def jIa(w:NB):Key->Int
 |.inl k=>hashInt k
 |.inr x=>hashStr w x
theorem vL:∀{k:Key} {v:cA},wQ k v=true->(∃i t,k=Sum.inl i/\v=Value.int i t)\/(∃x t,k=Sum.inr x/\v=Value.str x t)
 |.inl i,v,h=>by
  obtain⟨t,e⟩:=PY (k:=i) h;exact .inl ⟨i,t,rfl,e⟩
 |.inr x,v,h=>by(obtain⟨t,e⟩:=Value.isStrOf_shape h;exact .inr ⟨x,t,rfl,e⟩)
def kIa(i:Int)(t:kF):wQ (.inl i) (.int i t)=true:=by simp[wQ,rZ]
def lIa(x:bA)(t:kF):wQ (.inr x) (.str x t)=true:=by simp[wQ,Zs]
def oIa(a b:Int):decide ((Sum.inl a:Key)=Sum.inl b)=(a==b):=by
 by_cases e:a=b
 ·subst e;simp
 ·have h:¬(Sum.inl a:Key)=Sum.inl b:=λq=>e (Ct q)
  rw[WB h];exact(LO.mpr e).symm
def rIa(a b:bA):decide ((Sum.inr a:Key)=Sum.inr b)=decide (a=b):=by
 by_cases e:a=b
 ·subst e;simp
 ·have h:¬(Sum.inr a:Key)=Sum.inr b:=λq=>e (Dt q)
  rw[WB h,WB e]
def pIa(a:Int)(b:bA):decide ((Sum.inl a:Key)=Sum.inr b)=false:=WB (λq=>nomatch q)
def qIa(a:bA)(b:Int):decide ((Sum.inr a:Key)=Sum.inl b)=false:=WB (λq=>nomatch q)
def zQ(prog:pC)(w:NB):PySem.KeyKind prog w Key where
 is:=wQ
 hash:=jIa w
 inj:=λv a b ha hb=>by
  rcases vL ha with ⟨i,t,rfl,rfl⟩ | ⟨x,t,rfl,rfl⟩
  ·rcases vL hb with ⟨j,u,rfl,e⟩ | ⟨y,u,rfl,e⟩
   ·injection e with e1 _;rw[e1]
   ·exact nomatch e
  ·rcases vL hb with ⟨j,u,rfl,e⟩ | ⟨y,u,rfl,e⟩
   ·exact nomatch e
   ·injection e with e1 _;rw[e1]
 byValue:=λk v h=>by
  rcases vL h with ⟨i,t,rfl,rfl⟩ | ⟨x,t,rfl,rfl⟩<;>rfl
 pyHash:=λhv h=>by
  rcases vL hv with ⟨i,t,rfl,rfl⟩ | ⟨x,t,rfl,rfl⟩
  ·exact wpAny_pyHash_int h
  ·exact wpAny_pyHash_str h
 eqBool:=λhu hv h=>by
  rcases vL hu with ⟨i,t,rfl,rfl⟩ | ⟨x,t,rfl,rfl⟩
  ·rcases vL hv with ⟨j,u,rfl,rfl⟩ | ⟨y,u,rfl,rfl⟩
   ·rw[oIa] at h;exact wpAny_eqBool_int h
   ·rw[pIa] at h;exact gr i t y u _ _ _ _ h
  ·rcases vL hv with ⟨j,u,rfl,rfl⟩ | ⟨y,u,rfl,rfl⟩
   ·rw[qIa] at h;exact ir x t j u _ _ _ _ h
   ·rw[rIa] at h;exact wpAny_eqBool_str h
 «strs»:=λk x t v h=>by
  rcases vL h with ⟨i,u,rfl,e⟩ | ⟨y,u,rfl,e⟩
  ·exact nomatch e
  ·injection e with e1 _
   subst e1;cases v<;>rfl
def oKa(prog:pC)(w:NB)(i:Int)(t:kF):(zQ prog w).is (.inl i) (.int i t)=true:=kIa i t
def pKa(prog:pC)(w:NB)(x:bA)(t:kF):(zQ prog w).is (.inr x) (.str x t)=true:=lIa x t
inductive V where
 |lA
 |bl (b:Bool)
 |int (i:Int)
 |str (x:bA)
 |ref (a:fA)
 |ty (n:String)
instance (x:V):Decidable (x=.lA):=by cases x<;>first | exact isTrue rfl | exact isFalse (λh=>nomatch h)
def aAe:V->cA->Prop
 |.lA,u=>u=Value.none
 |.bl b,u=>u=Value.bool b
 |.int i,u=>∃t,u=Value.int i t
 |.str x,u=>∃t,u=Value.str x t
 |.ref a,u=>u=Value.ref a
 |.ty n,u=>u=Value.type n
abbrev aAc:List V->List cA->Prop:=Paired aAe
theorem aAc.length(r:aAc xs us):xs.length=us.length:=bt r
def aAc.get{i:Nat}(h:aAc xs us)(e:xs[i]?=some x):∃u,us[i]?=some u/\aAe x u:=by
 induction h generalizing i with
 |nil=>cases e
 |cons r t ih =>
  cases i with
  |zero=>cases e;exact⟨_,rfl,r⟩
  |succ i=>exact ih e
theorem aAc.set(r:aAe x u)(i:Nat)(h:aAc xs us):aAc (xs.set i x) (us.set i u):=by
 induction h generalizing i with
 |nil=>exact .nil
 |cons q t ih =>
  cases i with
  |zero=>exact .cons r t
  |succ i=>exact .cons q (ih i)
def aAc.append(h:aAc xs us)(s:aAc ys ws):aAc (xs++ys) (us++ws):=by
 induction h with
 |nil=>exact s
 |cons r t ih=>exact .cons r ih
theorem aAc.take(n:Nat)(h:aAc xs us):aAc (xs.take n) (us.take n):=by
 induction h generalizing n with
 |nil=>cases n<;>exact .nil
 |cons r t ih =>
  cases n with
  |zero=>exact .nil
  |succ n=>exact .cons r (ih n)
theorem aAc.drop(n:Nat)(h:aAc xs us):aAc (xs.drop n) (us.drop n):=by
 induction h generalizing n with
 |nil=>cases n<;>exact .nil
 |cons r t ih =>
  cases n with
  |zero=>exact .cons r t
  |succ n=>exact ih n
def aH:Option V->Option cA->Prop
 |some v,some u=>aAe v u
 |none,none=>True
 |_,_=>False
def KV:List (J×V)->List (J×cA)->Prop:=Paired λ(p:J×V) (q:J×cA)=>p.1=q.1/\aAe p.2 q.2
noncomputable def kV:Key->V
 |.inl i=>.int i
 |.inr x=>.str x
inductive HO where
 |l (xs:List V)
 |t (xs:List V)
 |dK (iC:List (Key×V))
 |set (S:Int->Bool) (n:Nat)
 |ins (C dx:fA) (fs:List (bA×V))
 |own (x:fA)
 |xd (fs:List (bA×V))
 |met (f x:fA)
 |uD (lo hi:Int)
 |ID (o:nB) (u:HO)
 |RM (ps:Array cA)
 |ext (φ:jB->Prop)
abbrev Hp:=fA->Option HO
noncomputable def CA(H:Hp)(a:fA)(o:HO):Hp:=λb=>if b=a then some o else H b
def VC:CA H a o a=some o:=by unfold CA;rw[GA rfl]
def rB(h:b≠a):CA H a o b=H b:=by unfold CA;rw[LA h]
def xb:CA (CA H a o) a u=CA H a u:=by
 funext b;unfold CA;split<;>rfl
def NF{H:Hp}(h:H a=some o)(h':H b=none):a≠b:=by
 intro e;subst e;rw[h] at h';cases h'
section
variable(P:pC)(w:NB)
def nD(H:Hp)(h:jB)(a:fA):HO->Prop
 |.l xs=>xs.length<=sizeLine/\∃(dA:List cA) (n:Nat),aAc xs dA/\h.get? a=some { cls:=.type "list",data:=.seq dA.toArray n }
 |.t xs=>xs.length<=sizeLine/\∃dA:List cA,aAc xs dA/\AF h a dA.toArray
 |.dK iC=>iC.length<=sizeLine/\(a==sysModules)=false/\∃vs,KV iC vs/\h.DictOf (zQ P w) a vs
 |.set S n=>h.SetOf (intKind P w) a S n
 |.ins C dx fs=>H dx=some (.own a)/\fs.length<=1000/\dx≠a/\h.get? a=some (dN C dx) /\
   ∃mA,h.Ns1 dx mA/\(∀f,aH (fs.lookup f) (mA f))/\sd mA (fs.map (·.1))
 |.own _=>∃o,h.get? a=some o
 |.xd fs=>∃mA,h.Ns1 a mA/\∀f,aH (fs.lookup f) (mA f)
 |.uD lo hi=>∃t u v,h.get? a=some { cls:=.type "range",data:=.fields #[.int lo t,.int hi u,.int 1 v] }
 |.ID o u=>h.get? a=some o/\nD H h a u
 |.RM ps=>h.get? a=some { cls:=.none,data:=.fields ps }
 |.met f x=>h.get? a=some (Ac (.ref f) (.ref x))
 |.ext φ=>φ h/\(∃o,h.get? a=some o)/\∀h1 h2:jB,φ h1->(∀o,h1.get? a=some o->h2.get? a=some o)->φ h2
def yD(H:Hp)(h:jB):Prop:=∀a o,H a=some o->nD P w H h a o
end
section
variable{o:HO}
theorem nD.lt(x:nD P w H h a o):a<h.objs.size:=by
 cases o with
 |l xs=>obtain⟨_,_,_,_,e⟩:=x;exact fC e
 |t xs=>obtain⟨_,_,_,p⟩:=x;exact p.lt
 |dK iC=>obtain⟨_,_,_,_,o,_,_,e,_⟩:=x;exact fC e
 |set S n=>obtain⟨o,_,_,_,e,_⟩:=x;exact fC e
 |ins C dx fs=>obtain⟨_,_,_,e,_⟩:=x;exact fC e
 |own y=>obtain⟨_,e⟩:=x;exact fC e
 |xd fs=>obtain⟨_,⟨_,_,_,e,_⟩,_⟩:=x;exact fC e
 |uD lo hi=>obtain⟨_,_,_,e⟩:=x;exact fC e
 |ID ob u=>obtain⟨e,_⟩:=x;exact fC e
 |RM ps=>exact fC (show h.get? a=some _ from x)
 |met f y=>exact fC (show h.get? a=some _ from x)
 |ext φ=>obtain⟨_,⟨_,e⟩,_⟩:=x;exact fC e
def nD.LG(x:nD P w H h a o)(k:∀b u,(b=a\/H b=some (.own a))->h.get? b=some u->h'.get? b=some u)
  (ho:∀b,H b=some (.own a)->H' b=some (.own a)) (ht:∀b xs,H b=some (.t xs)->H' b=some (.t xs)):nD P w H' h' a o:=by
 induction o with
 |l xs=>obtain⟨z,dA,n,r,e⟩:=x;exact⟨z,dA,n,r,k _ _ (.inl rfl) e⟩
 |t xs=>obtain⟨z,dA,r,ob,e,c⟩:=x;exact⟨z,dA,r,ob,k _ _ (.inl rfl) e,c⟩
 |dK iC=>obtain⟨z,y,vs,r,ob,es,ep,e,c⟩:=x;exact⟨z,y,vs,r,ob,es,ep,k _ _ (.inl rfl) e,c⟩
 |set S n=>obtain⟨ob,es,ep,t,e,c⟩:=x;exact⟨ob,es,ep,t,k _ _ (.inl rfl) e,c⟩
 |ins C dx fs =>
  obtain⟨d,z,ne,e,mA,⟨od,es,ep,e2,c⟩,r⟩:=x;exact⟨ho _ d,z,ne,k _ _ (.inl rfl) e,mA,⟨od,es,ep,k _ _ (.inr d) e2,c⟩,r⟩
 |own y=>obtain⟨ob,e⟩:=x;exact⟨ob,k _ _ (.inl rfl) e⟩
 |xd fs=>obtain⟨mA,⟨od,es,ep,e,c⟩,r⟩:=x;exact⟨mA,⟨od,es,ep,k _ _ (.inl rfl) e,c⟩,r⟩
 |uD lo hi=>obtain⟨t,u,v,e⟩:=x;exact⟨t,u,v,k _ _ (.inl rfl) e⟩
 |ID ob u ih=>obtain⟨e,q⟩:=x;exact⟨k _ _ (.inl rfl) e,ih q⟩
 |RM ps =>
  have e:h.get? a=some { cls:=.none,data:=.fields ps }:=x;show h'.get? a=some { cls:=.none,data:=.fields ps };exact k a _ (.inl rfl) e
 |met f y =>
  have e:h.get? a=some (Ac (.ref f) (.ref y)):=x;show h'.get? a=some (Ac (.ref f) (.ref y));exact k a _ (.inl rfl) e
 |ext φ=>obtain⟨p,⟨o,e⟩,st⟩:=x;exact⟨st _ _ p λo q=>k _ _ (.inl rfl) q,⟨o,k _ _ (.inl rfl) e⟩,st⟩
theorem yD.lt(x:yD P w H h)(e:H a=some o):a<h.objs.size:=(x a o e).lt
def yD.fresh(x:yD P w H h)(e:h.objs.size<=a):H a=none:=by
 cases q:H a with
 |none=>rfl
 |some u=>exact absurd (jF (x.lt q) e) (LL _)
def yD.kept(x:yD P w H h)(k:∀b u,h.get? b=some u->h'.get? b=some u):yD P w H h':=λa o e =>
 (x a o e).LG (λb u _ q=>k b u q) (λ_ q=>q) λ_ _ q=>q
def yD.laid(x:yD P w H h)(k:∀b u,h.get? b=some u->h'.get? b=some u)(hp:h.objs.size<=a)(new:nD P w (CA H a o) h' a o):yD P w (CA H a o) h':=λb u e=>by
 have hn:=x.fresh hp;by_cases hb:b=a
 ·subst hb;rw[VC] at e;cases e;exact new
 ·rw[rB hb] at e;exact(x b u e).LG (λc v _ q=>k c v q) (λc q=>by rw[rB (NF q hn)];exact q) λc xs q=>by rw[rB (NF q hn)];exact q
end
def Rd(H:Hp)(a:fA)(u:HO):Prop:=H a=some u\/∃o,H a=some (.ID o u)
def Rd.ok(r:Rd H a u)(x:yD P w H h):nD P w H h a u:=by
 rcases r with r | ⟨o,r⟩
 ·exact x a u r
 ·obtain⟨_,q⟩:=x a _ r;exact q
def LR:Option HO->Prop
 |some (.l _)=>True
 |some (.dK _)=>True
 |some (.set _ _)=>True
 |some (.ins _ _ _)=>True
 |some (.ext _)=>True
 |_=>False
section
variable{P:pC}{w:NB}{H:Hp}{h h':jB}{x e:fA}{o':HO}
def yD.write(ok:yD P w H h)(mu:LR (H x))(he:e=x\/H e=some (.own x))(k:∀b u,b≠e->h.get? b=some u->h'.get? b=some u)(iQ:∃u,h'.get? e=some u)
  (new:nD P w (CA H x o') h' x o'):yD P w (CA H x o') h':=λb u q=>by
 have Ek:∀c y,H c=some (.own y)->c≠x:=λc y r z=>by subst z;rw[r] at mu;exact mu
 have sMa:∀c xs,H c=some (.t xs)->c≠x:=λc xs r z=>by subst z;rw[r] at mu;exact mu
 by_cases hb:b=x
 ·subst hb;rw[VC] at q;cases q;exact new
 ·rw[rB hb] at q;by_cases jL:b=e
  ·have q':H b=some (.own x):=by
    rcases he with z | z
    ·exact absurd (jL.trans z) hb
    ·rw[jL];exact z
   rw[q] at q';cases q';obtain⟨v,hv⟩:=iQ;exact⟨v,by rw[jL];exact hv⟩
  ·refine(ok b u q).LG (λc v hc r=>k c v ?_ r) (λc r=>by rw[rB (Ek c b r)];exact r) λc xs r=>by rw[rB (sMa c xs r)];exact r
   rcases hc with rfl | hc
   ·exact jL
   ·rintro rfl
    rcases he with z | z
    ·exact Ek c b hc z
    ·rw[hc] at z;cases z;exact hb rfl
end
structure Un(fs ex:List fA)(H H':Hp)(h h':jB):Prop where
 keep:∀b o,h.get? b=some o->H b=none->b ∉ fs->b ∉ ex->h'.get? b=some o
 slot:∀b o,h.get? b=some o->H b=none->b∈fs->b ∉ ex->∃sl,h'.get? b=some { o with slots:=sl }
 free:∀b o,h.get? b=some o->H b=none->b ∉ ex->H' b=none
 there:∀b o,h.get? b=some o->b ∉ ex->∃o',h'.get? b=some o'
 UM:∀b xs,H b=some (.t xs)->H' b=some (.t xs)
 eL:∀b o u,H b=some (.ID o u)->H' b=some (.ID o u)
 SM:∀b ps,H b=some (.RM ps)->∃more,H' b=some (.RM (ps++more))
section
variable{o:HO}
def Un.any(u:Un fs ex H H1 h h1)(q:h.get? b=some ob)(n:H b=none)(hx:b ∉ ex):∃sl,h1.get? b=some { ob with slots:=sl }:=by
 by_cases hb:b∈fs
 ·exact u.slot b ob q n hb hx
 ·exact⟨ob.slots,u.keep b ob q n hb hx⟩
def Un.kept(k:∀b u,h.get? b=some u->h'.get? b=some u):Un fs ex H H h h' :=
 ⟨λb ob q _ _ _=>k b ob q,λb ob q _ _ _=>⟨ob.slots,k b ob q⟩,λ_ _ _ n _=>n,λb ob q _=>⟨ob,k b ob q⟩,λ_ _ q=>q,λ_ _ _ q=>q,λ_ ps q=>⟨#[],by rw[q];simp⟩⟩
def Un.refl:Un fs ex H H h h:=Un.kept λ_ _ q=>q
def Un.laid(k:∀b u,h.get? b=some u->h'.get? b=some u)(hp:h.objs.size<=a)(hn:H a=none):Un fs ex H (CA H a o) h h' where
 keep:=λb u q _ _ _=>k b u q
 slot:=λb u q _ _ _=>⟨u.slots,k b u q⟩
 free:=λb u q n _=>by rw[rB (MD (jF (fC q) hp))];exact n
 there:=λb u q _=>⟨u,k b u q⟩
 UM:=λb xs q=>by rw[rB (NF q hn)];exact q
 eL:=λb u xs q=>by rw[rB (NF q hn)];exact q
 SM:=λb ps q=>⟨#[],by rw[rB (NF q hn),q];simp⟩
def Un.write(mu:LR (H x))(he:e=x\/H e=some (.own x))(k:∀b u,b≠e->h.get? b=some u->h'.get? b=some u)(iQ:∃u,h'.get? e=some u):Un fs ex H (CA H x o) h h':=by
 have hx:∀b,H b=none->b≠x:=λb n z=>by subst z;rw[n] at mu;exact mu
 have hb:∀b,H b=none->b≠e:=λb n z=>by
  subst z;rcases he with r | r
  ·exact hx b n r
  ·rw[n] at r;cases r
 have hm:∀b u,H b=some u->¬LR (some u)->b≠x:=λb u q nm z=>by subst z;rw[q] at mu;exact nm mu
 refine⟨λb u q n _ _=>k b u (hb b n) q,λb u q n _ _=>⟨u.slots,k b u (hb b n) q⟩,λb u q n _=>by rw[rB (hx b n)];exact n,λb u q _=>?_,
  λb xs q=>by rw[rB (hm b _ q λz=>z)];exact q,λb u xs q=>by rw[rB (hm b _ q λz=>z)];exact q,λb ps q=>⟨#[],by rw[rB (hm b _ q λz=>z),q];simp⟩⟩
 by_cases jL:b=e
 ·subst jL;exact iQ
 ·exact⟨u,k b u jL q⟩
end
noncomputable def YX(h:jB)(H:Hp):List fA:=(vC h.objs.size).filter λa=>(H a).isSome
def lL(h:jB)(H:Hp):jB:=qR h (YX h H)
def eCa(h:jB)(H:Hp):(lL h H).objs.size=h.objs.size:=PySem.W.hideAll_size _ _
def dCa(e:h.get? b=some o)(n:H b=none):(lL h H).get? b=some o :=
 Yb _ e λhm=>by(have q:(H b).isSome=true:=(JL.mp hm).2;rw[n] at q;simp at q)
def xMa(e:(lL h H).get? b=some o):h.get? b=some o/\H b=none:=by
 have e':h.get? b=some o:=KY (YX h H) e;refine⟨e', ?_⟩
 cases q:H b with
 |none=>rfl
 |some x =>
  have hm:b∈YX h H:=JL.mpr ⟨iN.mpr (fC e'),by simp[q]⟩;have z:(lL h H).get? b=none:=eR (YX h H) hm;rw[z] at e;cases e
noncomputable def Cv(g h:jB)(L:fA):List (fA×nB):=(vC h.objs.size).filterMap λa=>if a=L\/(g.get? a).isSome=true then none else(h.get? a).map λo=>(a,o)
def aAk(g h:jB)(L d:fA):List (fA×nB):=(Cv g h L).filter λp=>decide (p.1≠d)
structure Mod(K:gA)(mg:bA->Option cA)(base:jB):Prop where
 kin:K.In base
 glob:base.Ns IB mg
 BB:∃mb,base.Ns builtinsNs mb/\∀x:bA,x≠"__name__"->mb x=NL x
 nolimit:base.NoLimit
structure Cx where
 prog:pC
 w:NB
 K:gA
 mg:bA->Option cA
 base:jB
 A:LD
 N:List bA
 s₀:qA
 H₀:Hp
 env:Env
 outer:List Env
 stack:List Env
 ex:List fA
 fn:bA->Bool
 calm:Bool
 pn:List (fA×nB)
 xe:cA->qA->Prop
def VD(l:List Env):List fA:=l.filterMap (·.frame)
abbrev Cx.fs(X:Cx):List fA:=VD X.outer
def NR(sc:BF)(x:bA):Prop:=sc.names.lookup x=some .local\/sc.names.lookup x=some .cell\/sc.names.lookup x=some .free
def Loc(sc:BF)(x:bA):Prop:=sc.names.lookup x=some .local\/sc.names.lookup x=some .cell
def aA9(env:Env)(h:jB)(m:bA->Option cA)(x:bA)(u:cA):Prop :=
 (env.kindOf x=some .local/\m x=some u)\/((env.kindOf x=some .cell\/env.kindOf x=some .free)/\∃c,env.cells.lookup x=some c/\h.IsCell c (some u))
structure Cx.Ok(X:Cx):Prop where
 mod:Mod X.K X.mg X.base
 kind:X.env.scope.kind=.function
 glob:X.env.globals=IB
 BB:X.env.builtins=builtinsNs
 above:X.s₀.heap.objs.size<=X.env.locals
 inj:∀x y c,X.env.cells.lookup x=some c->X.env.cells.lookup y=some c->x=y
 has:∀x,(X.env.kindOf x=some .cell\/X.env.kindOf x=some .free)->∃c,X.env.cells.lookup x=some c
 mM:∀x c,X.fn x=true->X.env.cells.lookup x=some c->X.s₀.heap.objs.size<=c
 hd:X.calm=true->X.A.handled=none
 frames:X.A.frames=some X.stack
 YD:X.stack=X.outer\/(X.stack=X.env::X.outer/\X.env.frame=some X.env.locals)
 lS:∀b∈X.ex,b≠X.env.locals/\∀x c,X.env.cells.lookup x=some c->c≠b
 bs:∀b o,X.base.get? b=some o->X.s₀.heap.get? b=some o/\X.H₀ b=none
 OI:X.base.objs.size<=X.s₀.heap.objs.size
 HM:∀b o,X.base.get? b=some o->b ∉ X.ex
 NN:∀b∈X.ex,b ∉ X.fs
 fG:X.s₀.heap.FunFrames X.base X.outer
 OJ:∀b∈X.fs,X.H₀ b=none
structure eA(X:Cx)(aA:List (fA×nB))(Y:List (Option V))(H:Hp)(s:qA):Prop where
 ok:X.Ok
 os:s.os=X.s₀.os
 bare:AK s.gens
 base:Un X.fs X.ex X.H₀ H X.s₀.heap s.heap
 loc:∃m,s.heap.Ns X.env.locals m/\∀(i:Nat) (x:bA) (v:V),X.N[i]?=some x->Y[i]?=some (some v)->NR X.env.scope x->∃u,aAe v u/\aA9 X.env s.heap m x u
 cell:∀x c,X.env.cells.lookup x=some c->∃v,s.heap.IsCell c v
 free:H X.env.locals=none
 gH:∀x c,X.env.cells.lookup x=some c->H c=none
 pin:∀p∈X.pn++aA,s.heap.get? p.1=some p.2/\H p.1=none/\p.1≠X.env.locals/\p.1 ∉ X.fs/\∀v,p.2.data≠.cell v
 KA:yD X.prog X.w H s.heap
 len:Y.length=X.N.length
section
variable{X:Cx}
def Cx.Ok.kMa(ok:X.Ok)(e:X.base.get? b=some o):b ∉ X.fs:=λhb=>by
 have:=(ok.fG.mem hb).1
 rw[e] at this;cases this
theorem eA.bs(I:eA X aA Y H s):∀b o,X.base.get? b=some o->s.heap.get? b=some o/\H b=none:=λb o e =>
 ⟨I.base.keep b o (I.ok.bs b o e).1 (I.ok.bs b o e).2 (I.ok.kMa e) (I.ok.HM b o e),I.base.free b o (I.ok.bs b o e).1 (I.ok.bs b o e).2 (I.ok.HM b o e)⟩
def eA.bk(I:eA X aA Y H s):∀b o,X.base.get? b=some o->s.heap.get? b=some o:=λb o e=>(I.bs b o e).1
theorem eA.mod(I:eA X aA Y H s):Mod X.K X.mg X.base:=I.ok.mod
def eA.WD(I:eA X aA Y H s):X.K.In s.heap:=I.ok.mod.kin.keeps I.bk
theorem eA.lt(I:eA X aA Y H s):X.env.locals<s.heap.objs.size:=let ⟨_,hn,_⟩:=I.loc;hn.lt
def eA.sz(I:eA X aA Y H s):X.s₀.heap.objs.size<=s.heap.objs.size:=XC I.ok.above (tK I.lt)
def eA.mMa(I:eA X aA Y H s)(h:s.heap.objs.size<=a):a ∉ X.fs:=λhb=>by
 obtain⟨_,o,ho,_⟩:=I.ok.fG.mem hb;exact absurd (jF (fC ho) (XC I.sz h)) (LL _)
def eA.KN(I:eA X aA Y H s):∀x c,X.env.cells.lookup x=some c->c≠X.env.locals:=λx c e z=>by
 obtain⟨v,o,ho,hd⟩:=I.cell x c e;obtain⟨m,⟨o',es,ep,HG,LF,_⟩,_⟩:=I.loc;rw[z,HG] at ho;cases ho;rw[LF] at hd;cases hd
theorem eA.fG(I:eA X aA Y H s):s.heap.FunFrames X.base X.outer:=by
 have all:∀(l:List Env),(∀b∈VD l,b∈X.fs)->X.s₀.heap.FunFrames X.base l->s.heap.FunFrames X.base l:=by
  intro l
  induction l with
  |nil=>intro _ _;trivial
  |cons env r ih =>
   intro hs hl;obtain⟨hk,⟨L,o,hf,hn,ho,hd⟩,hr⟩:=hl;have hL:L∈X.fs:=hs L (by unfold VD;rw[Zb,hf];exact qE);obtain⟨sl,e⟩:=I.base.slot L o ho (I.ok.OJ L hL) hL λz=>I.ok.NN L z hL
   exact⟨hk,⟨L,_,hf,hn,e,hd⟩,ih (λb hb=>hs b (by unfold VD;rw[Zb,hf];exact fD _ hb)) hr⟩
 exact all X.outer (λ_ hb=>hb) I.ok.fG
theorem eA.stack(I:eA X aA Y H s):s.heap.FunFrames X.base X.stack:=by
 rcases I.ok.YD with e | ⟨e,hf⟩
 ·rw[e];exact I.fG
 ·rw[e];obtain⟨m,hn,_⟩:=I.loc;refine .cons (by rw[I.ok.kind];decide) hf hn ?_ I.fG;exact GY (XC I.ok.OI I.ok.above)
def eA.OX(I:eA X aA Y H s):∀b∈VD X.stack,b∈X.env.locals::X.fs:=λb hb=>by
 rcases I.ok.YD with e | ⟨e,hf⟩
 ·rw[e] at hb;exact fD _ hb
 ·rw[e] at hb;unfold VD at hb;rw[Zb,hf] at hb;exact hb
def eA.ya(I:eA X aA Y H s):∀b∈VD X.stack,H b=none:=λb hb=>by
 rcases wD.mp (I.OX b hb) with e | hb
 ·rw[e];exact I.free
 ·obtain⟨_,o,ho,_⟩:=I.ok.fG.mem hb;exact I.base.free b o ho (I.ok.OJ b hb) λz=>I.ok.NN b z hb
def eA.step{ch:List fA}(I:eA X aA Y H s)
  (QJ:∀b∈ch,(b∈X.ex\/X.s₀.heap.get? b=none)/\b≠X.env.locals/\(∀x c,X.env.cells.lookup x=some c->c≠b)/\∀p∈X.pn++aA,p.1≠b)
  (keep:∀b o,b≠X.env.locals->b ∉ X.fs->b ∉ ch->s.heap.get? b=some o->H b=none->h'.get? b=some o)
  (slot:∀b o,b≠X.env.locals->b∈X.fs->b ∉ ch->s.heap.get? b=some o->H b=none->∃sl,h'.get? b=some { o with slots:=sl }) (free:∀b o,b ∉ ch->s.heap.get? b=some o->H b=none->H' b=none)
  (there:∀b o,b ∉ ch->s.heap.get? b=some o->∃o',h'.get? b=some o')
  (UM:∀b xs,H b=some (.t xs)->H' b=some (.t xs)) (eL:∀b o u,H b=some (.ID o u)->H' b=some (.ID o u)) (SM:∀b ps,H b=some (.RM ps)->∃more,H' b=some (.RM (ps++more)))
  (ns:∀m,s.heap.Ns X.env.locals m->h'.Ns X.env.locals m) (KA:yD X.prog X.w H' h') (hg:AK g') :
  eA X aA Y H' { s with heap:=h',gens:=g',drawn:=d',toks:=t' }:=by
 have uk:∀b o,X.s₀.heap.get? b=some o->b≠X.env.locals:=λb o e=>MD (jF (fC e) I.ok.above)
 have UW:∀b o,X.s₀.heap.get? b=some o->b ∉ X.ex->b ∉ ch:=λb o e hx hb=>by
  rcases(QJ b hb).1 with z | z
  ·exact hx z
  ·rw[z] at e;cases e
 have cellK:∀x c,X.env.cells.lookup x=some c->∀v,s.heap.IsCell c v->h'.IsCell c v:=λx c e v hz=>by
  obtain⟨o,ho,hd⟩:=hz;have lT:c ∉ ch:=λz=>(QJ c z).2.2.1 x c e rfl
  by_cases hc:c∈X.fs
  ·obtain⟨sl,q⟩:=slot c o (I.KN x c e) hc lT ho (I.gH x c e);exact⟨_,q,hd⟩
  ·exact⟨o,keep c o (I.KN x c e) hc lT ho (I.gH x c e),hd⟩
 refine⟨I.ok,I.os,hg,⟨λb o e n hb hx=>?_,λb o e n hb hx=>?_,λb o e n hx=>?_,λb o e hx=>?_,λb xs e=>UM b xs (I.base.UM b xs e),λb o xs e=>eL b o xs (I.base.eL b o xs e),λb ps e=>?_⟩, ?_,λx c e=>?_, ?_,λx c e=>?_,λp hp=>?_,KA,I.len⟩
 ·exact keep b o (uk b o e) hb (UW b o e hx) (I.base.keep b o e n hb hx) (I.base.free b o e n hx)
 ·obtain⟨sl,e1⟩:=I.base.slot b o e n hb hx;obtain⟨Xm,e2⟩:=slot b _ (uk b o e) hb (UW b o e hx) e1 (I.base.free b o e n hx);exact⟨Xm,e2⟩
 ·obtain⟨o',e1⟩:=I.base.there b o e hx;exact free b o' (UW b o e hx) e1 (I.base.free b o e n hx)
 ·obtain⟨o',e1⟩:=I.base.there b o e hx;exact there b o' (UW b o e hx) e1
 ·obtain⟨m1,e1⟩:=I.base.SM b ps e;obtain⟨m2,e2⟩:=SM b _ e1;exact⟨m1++m2,by rw[e2,Array.append_assoc]⟩
 ·obtain⟨m,hn,hl⟩:=I.loc;refine⟨m,ns m hn,λi x v e1 e2 e3=>?_⟩;obtain⟨u,r,l⟩:=hl i x v e1 e2 e3;refine⟨u,r, ?_⟩;rcases l with l | ⟨k,c,e,z⟩
  ·exact .inl l
  ·exact .inr ⟨k,c,e,cellK x c e _ z⟩
 ·obtain⟨v,z⟩:=I.cell x c e;exact⟨v,cellK x c e v z⟩
 ·obtain⟨m,⟨o,_,_,ho,_⟩,_⟩:=I.loc;exact free _ o (λz=>(QJ _ z).2.1 rfl) ho I.free
 ·obtain⟨v,o,ho,hd⟩:=I.cell x c e;exact free c o (λz=>(QJ c z).2.2.1 x c e rfl) ho (I.gH x c e)
 ·obtain⟨e,n,ne,nf,d⟩:=I.pin p hp;have lT:p.1 ∉ ch:=λz=>(QJ p.1 z).2.2.2 p hp rfl
  exact⟨keep p.1 p.2 ne nf lT e n,free p.1 p.2 lT e n,ne,nf,d⟩
def eA.un{t':Nat}(I:eA X aA Y H s)(u:Un X.fs [] H H' s.heap h')(KA:yD X.prog X.w H' h'):eA X aA Y H' { s with heap:=h',toks:=t' }:=by
 obtain⟨m,⟨o,es,ep,ho,r⟩,_⟩:=id I.loc;obtain⟨sl,hL⟩:=u.any ho I.free (by simp)
 exact I.step (g':=s.gens) (d':=s.drawn) (ch:=[]) (λ_ z=>nomatch z) (λb o _ hb _ e n=>u.keep b o e n hb (by simp)) (λb o _ hb _ e n=>u.slot b o e n hb (by simp)) (λb o _ e n=>u.free b o e n (by simp)) (λb o _ e=>u.there b o e (by simp)) u.UM u.eL u.SM (λm' hm=>by
  obtain⟨o',IJ,X2,HG,r'⟩:=hm;rw[ho] at HG;cases HG
  exact⟨_,IJ,X2,hL,r'⟩) KA I.bare
def eA.call(I:eA X aA Y H s)(u:Un (VD X.stack) ch H H' s.heap h')(KA:yD X.prog X.w H' h')(hg:AK g')
  (QJ:∀b∈ch,(b∈X.ex\/X.s₀.heap.get? b=none)/\b≠X.env.locals/\(∀x c,X.env.cells.lookup x=some c->c≠b)/\∀p∈X.pn++aA,p.1≠b) :
  eA X aA Y H' { s with heap:=h',gens:=g',drawn:=d',toks:=t' }:=by
 obtain⟨m,⟨o,es,ep,ho,r⟩,_⟩:=id I.loc;obtain⟨sl,hL⟩:=u.any ho I.free λz=>(QJ _ z).2.1 rfl
 exact I.step QJ (λb o hL hb hc e n=>u.keep b o e n (λz=>(wD.mp (I.OX b z)).elim hL hb) hc) (λb o _ _ hc e n=>u.any e n hc) (λb o hc e n=>u.free b o e n hc) (λb o hc e=>u.there b o e hc) u.UM u.eL u.SM (λm' hm=>by
  obtain⟨o',IJ,X2,HG,r'⟩:=hm;rw[ho] at HG;cases HG
  exact⟨_,IJ,X2,hL,r'⟩) KA hg
def eA.turned{it:fA}(I:eA X aA Y H s)(k:∀b o,b≠it->s.heap.get? b=some o->h'.get? b=some o)(hn:H it=none)(hL:it≠X.env.locals)
  (h1:it∈X.ex\/X.s₀.heap.get? it=none) (h2:∀x c,X.env.cells.lookup x=some c->c≠it) (h3:∀p∈X.pn++aA,p.1≠it):eA X aA Y H { s with heap:=h',toks:=t' }:=by
 have vk:∀b u,H b=some u->b≠it:=λb u e z=>by rw[z,hn] at e;cases e
 refine I.step (g':=s.gens) (d':=s.drawn) (ch:=[it]) (λb hb=>?_) (λb o _ _ hc e _=>k b o (λz=>hc (by simp[z])) e) (λb o _ _ hc e _=>⟨o.slots,k b o (λz=>hc (by simp[z])) e⟩) (λ_ _ _ _ n=>n)
  (λb o hc e=>⟨o,k b o (λz=>hc (by simp[z])) e⟩) (λ_ _ e=>e) (λ_ _ _ e=>e) (λb ps e=>⟨#[],by rw[e];simp⟩) (λm hm=>?_) (λb u e=>?_) I.bare
 ·have e:b=it:=by simpa using hb
  subst e;exact⟨h1,hL,h2,h3⟩
 ·obtain⟨o,es,ep,ho,r⟩:=hm;exact⟨o,es,ep,k _ o (hE hL) ho,r⟩
 ·refine(I.KA b u e).LG (λc v hc q=>k c v ?_ q) (λ_ q=>q) λ_ _ q=>q
  rcases hc with z | z
  ·rw[z];exact vk b u e
  ·exact vk c _ z
def eA.tok(I:eA X aA Y H s)(t:Nat):eA X aA Y H { s with toks:=t }:=I.un (h':=s.heap) (t':=t) Un.refl I.KA
theorem eA.kept(I:eA X aA Y H s)(k:∀b u,s.heap.get? b=some u->h'.get? b=some u):eA X aA Y H { s with heap:=h',toks:=t' }:=I.un (Un.kept k) (I.KA.kept k)
theorem eA.laid(I:eA X aA Y H s)(k:∀b u,s.heap.get? b=some u->h'.get? b=some u)(hp:s.heap.objs.size<=a)(new:nD X.prog X.w (CA H a o) h' a o) :
  eA X aA Y (CA H a o) { s with heap:=h',toks:=t' }:=I.un (Un.laid k hp (I.KA.fresh hp)) (I.KA.laid k hp new)
theorem eA.write(I:eA X aA Y H s)(mu:LR (H x))(he:e=x\/H e=some (.own x))(k:∀b u,b≠e->s.heap.get? b=some u->h'.get? b=some u)(iQ:∃u,h'.get? e=some u)
  (new:nD X.prog X.w (CA H x o) h' x o):eA X aA Y (CA H x o) { s with heap:=h',toks:=t' }:=I.un (Un.write mu he k iQ) (I.KA.write mu he k iQ new)
def eA.Nl(I:eA X aA Y H s)(h:∀p∈eF,s.heap.get? p.1=some p.2/\H p.1=none/\p.1≠X.env.locals/\p.1 ∉ X.fs/\∀v,p.2.data≠.cell v):eA X eF Y H s :=
 ⟨I.ok,I.os,I.bare,I.base,I.loc,I.cell,I.free,I.gH,λp hp=>(VE.mp hp).elim (λz=>I.pin p (pN _ z)) (h p),I.KA,I.len⟩
def Ak{N:List bA}(hN:N.Nodup){i j:Nat}(a:N[i]?=some x)(b:N[j]?=some x):i=j:=by
 obtain⟨h1,e1⟩:=RD.mp a;obtain⟨h2,e2⟩:=RD.mp b;exact(List.getElem_inj hN).mp (e1.trans e2.symm)
def Sn(I:eA X aA Y H s)(hN:X.N.Nodup)(hi:X.N[i]?=some x)(hx:Loc X.env.scope x)(r:aAe v u)
  (h:∀s',eA X aA (Y.set i (some v)) H s'->(∃a,xH a s.heap s'.heap/\(a=X.env.locals\/X.env.cells.lookup x=some a))->Q () s') (hf:X.fn x=true\/X.env.scope.names.lookup x=some .local:=by first | exact .inl rfl | exact .inr rfl | assumption):nA M A (storeName X.env x u) Q E s:=by
 obtain⟨m,hn,hl⟩:=id I.loc;have oBa:(X.env.scope.kind==.class||(X.env.scope.kind==.module&&X.env.locals != X.env.globals))=false:=by rw[I.ok.kind];rfl
 have dh:i<Y.length:=by rw[I.len];exact(RD.mp hi).1
 have KN:=I.KN
 have tracked:∀{a:fA} {h':jB},(∃o,s.heap.get? a=some o/\H a=none)->xH a s.heap h'->yD X.prog X.w H h':=λ{a h'} ha hs b ob e=>by
  obtain⟨_,_,Xg⟩:=ha;refine(I.KA b ob e).LG (λc w' hc q=>(hs.2 c ?_).trans q) (λ_ q=>q) λ_ _ q=>q
  rintro rfl
  rcases hc with rfl | hc
  ·rw[Xg] at e;cases e
  ·rw[Xg] at hc;cases hc
 rcases hx with hk | hk
 ·refine wpAny_storeName_local hk hn (λh' hn' hs=>?_) oBa;obtain⟨oL,_,_,hoL,_⟩:=id hn;refine h _ ⟨I.ok,I.os,I.bare,⟨λb o e n hb hx=>?_,λb o e n hb hx=>?_,I.base.free,λb o e hx=>?_,I.base.UM,I.base.eL,I.base.SM⟩,⟨_,hn',λj y v' e1 e2 e3=>?_⟩,λy c e=>?_,I.free,I.gH,λp hp=>?_,tracked ⟨oL,hoL,I.free⟩ hs,by simpa using I.len⟩ ⟨_,hs,.inl rfl⟩
  ·exact(hs.2 b (MD (jF (fC e) I.ok.above))).trans (I.base.keep b o e n hb hx)
  ·obtain⟨sl,e1⟩:=I.base.slot b o e n hb hx;exact⟨sl,(hs.2 b (MD (jF (fC e) I.ok.above))).trans e1⟩
  ·obtain⟨o',e1⟩:=I.base.there b o e hx;exact⟨o',(hs.2 b (MD (jF (fC e) I.ok.above))).trans e1⟩
  ·by_cases hj:j=i
   ·subst hj;rw[hi] at e1;cases e1;rw[DK dh] at e2;cases e2;exact⟨u,r,.inl ⟨hk,by simp⟩⟩
   ·rw[iF (hE hj)] at e2;obtain⟨u',r',q⟩:=hl j y v' e1 e2 e3;refine⟨u',r', ?_⟩;rcases q with ⟨k,e⟩ | ⟨k,c,e,z⟩
    ·refine .inl ⟨k, ?_⟩
     have:y≠x:=λe=>hj (Ak hN e1 (e ▸ hi))
     simp[this,e]
    ·exact .inr ⟨k,c,e,z.sameBut hs (KN y c e)⟩
  ·obtain⟨w',z⟩:=I.cell y c e;exact⟨w',z.sameBut hs (KN y c e)⟩
  ·obtain⟨e,n,ne,nf,d⟩:=I.pin p hp;exact⟨(hs.2 p.1 ne).trans e,n,ne,nf,d⟩
 ·have UB:X.fn x=true:=by
   rcases hf with z | z
   ·exact z
   ·rw[z] at hk;cases hk
  obtain⟨c,hc⟩:=I.ok.has x (.inl hk);obtain⟨w',z⟩:=I.cell x c hc;refine wpAny_storeName_cell I.ok.kind hk hc z (λh' OH hs=>?_);obtain⟨oc,pL,zCa⟩:=id z;refine h { s with heap:=h' } ⟨I.ok,I.os,I.bare,⟨λb o e n hb hx=>?_,λb o e n hb hx=>?_,I.base.free,λb o e hx=>?_,I.base.UM,I.base.eL,I.base.SM⟩,⟨m,hn.sameBut hs (hE (KN x c hc)),λj y v' e1 e2 e3=>?_⟩,λy c' e=>?_,I.free,I.gH,λp hp=>?_,tracked ⟨oc,pL,I.gH x c hc⟩ hs,by simpa using I.len⟩ ⟨c,hs,.inr hc⟩
  ·exact(hs.2 b (MD (jF (fC e) (I.ok.mM x c UB hc)))).trans (I.base.keep b o e n hb hx)
  ·obtain⟨sl,e1⟩:=I.base.slot b o e n hb hx;exact⟨sl,(hs.2 b (MD (jF (fC e) (I.ok.mM x c UB hc)))).trans e1⟩
  ·obtain⟨o',e1⟩:=I.base.there b o e hx;exact⟨o',(hs.2 b (MD (jF (fC e) (I.ok.mM x c UB hc)))).trans e1⟩
  ·by_cases hj:j=i
   ·subst hj;rw[hi] at e1;cases e1;rw[DK dh] at e2;cases e2;exact⟨u,r,.inr ⟨.inl hk,c,hc,OH⟩⟩
   ·rw[iF (hE hj)] at e2;obtain⟨u',r',q⟩:=hl j y v' e1 e2 e3;refine⟨u',r', ?_⟩;rcases q with q | ⟨k,c',e,z'⟩
    ·exact .inl q
    ·refine .inr ⟨k,c',e,z'.sameBut hs ?_⟩
     rintro rfl
     exact hj (Ak hN e1 (I.ok.inj _ _ _ e hc ▸ hi))
  ·by_cases eQ:c'=c
   ·subst eQ;exact⟨_,OH⟩
   ·obtain⟨w2,z2⟩:=I.cell y c' e;exact⟨w2,z2.sameBut hs eQ⟩
  ·obtain⟨e,n,ne,nf,d⟩:=I.pin p hp;refine⟨(hs.2 p.1 ?_).trans e,n,ne,nf,d⟩;intro q;rw[q,pL] at e;have q':oc=p.2:=ZD e;exact d w' (by rw[<- q'];exact zCa)
def Rn(I:eA X aA Y H s)(hN:X.N.Nodup)(hi:X.N[i]?=some x)(hx:Loc X.env.scope x)(r:aAe v u)
  (h:∀s',eA X aA (Y.set i (some v)) H s'->Q () s') (hf:X.fn x=true\/X.env.scope.names.lookup x=some .local:=by first | exact .inl rfl | exact .inr rfl | assumption):nA M A (storeName X.env x u) Q E s :=
 Sn I hN hi hx r (λs' I' _=>h s' I') hf
def eA.Ze(I:eA X aA Y H s)(ho:s'.os=s.os)(u:Un (VD X.stack) ch H H' s.heap s'.heap)(KA:yD X.prog X.w H' s'.heap)(hg:AK s'.gens)
  (QJ:∀b∈ch,(b∈X.ex\/X.s₀.heap.get? b=none)/\b≠X.env.locals/\(∀x c,X.env.cells.lookup x=some c->c≠b)/\∀p∈X.pn++aA,p.1≠b):eA X aA Y H' s':=by
 obtain⟨h',g',d',t',o'⟩:=s';have e:o'=s.os:=ho;subst e;exact I.call u KA hg QJ
end
abbrev XK:=cA->Option fA×Bool->Hp->Prop
abbrev St:=List (Option V)
abbrev VK:=V->Hp->Prop
abbrev TE:=St->Hp->VK->Prop
abbrev TT:=St->Hp->(Bool->Hp->Prop)->Prop
abbrev TA:=St->Hp->(List V->Hp->Prop)->Prop
structure Ends where
 nx:St->Hp->Prop
 rt:VK
 bk:St->Hp->Prop:=λ_ _=>False
 ct:St->Hp->Prop:=λ_ _=>False
abbrev TS:=Ends->St->Hp->Prop
def EP(X:Cx)(aA:List (fA×nB))(Y:St)(Q:VK)(u:cA)(s':qA):Prop:=∃v H',eA X aA Y H' s'/\aAe v u/\Q v H'
def TP(X:Cx)(aA:List (fA×nB))(Y:St)(Q:Bool->Hp->Prop)(b:Bool)(s':qA):Prop:=∃H',eA X aA Y H' s'/\Q b H'
def AP(X:Cx)(aA:List (fA×nB))(Y:St)(Q:List V->Hp->Prop)(us:List cA)(s':qA):Prop:=∃vs H',eA X aA Y H' s'/\aAc vs us/\Q vs H'
def SP(X:Cx)(aA:List (fA×nB))(D:Ends)(f:Flow)(s':qA):Prop :=
 match f with
 |.next=>∃Y' H',eA X aA Y' H' s'/\D.nx Y' H'
 |.brk=>∃Y' H',eA X aA Y' H' s'/\D.bk Y' H'
 |.cont=>∃Y' H',eA X aA Y' H' s'/\D.ct Y' H'
 |.ret u=>∃v Y' H',eA X aA Y' H' s'/\aAe v u/\D.rt v H'
def PE(X:Cx)(e:vA)(t:TE):Prop :=
 ∀(aA:List (fA×nB)) (s:qA) (Y:St) (H:Hp) (Q:VK),eA X aA Y H s->t Y H Q->nA (model X.prog X.w) X.A (eval e X.env) (EP X aA Y Q) X.xe s
def PT(X:Cx)(e:vA)(t:TT):Prop :=
 ∀(aA:List (fA×nB)) (s:qA) (Y:St) (H:Hp) (Q:Bool->Hp->Prop),eA X aA Y H s->t Y H Q->nA (model X.prog X.w) X.A (isTrue e X.env (eval e X.env)) (TP X aA Y Q) X.xe s
def PW(X:Cx)(e:vA)(t:TT):Prop :=
 ∀(whole:DE cA) (aA:List (fA×nB)) (s:qA) (Y:St) (H:Hp) (Q:Bool->Hp->Prop),eA X aA Y H s->t Y H Q->nA (model X.prog X.w) X.A (isTrue e X.env whole) (TP X aA Y Q) X.xe s
def PW.pt(h:PW X e t):PT X e t:=h _
def PA(X:Cx)(es:List vA)(t:TA):Prop :=
 ∀(pos:MB) (aA:List (fA×nB)) (s:qA) (Y:St) (H:Hp) (Q:List V->Hp->Prop),eA X aA Y H s->t Y H Q->nA (model X.prog X.w) X.A (spliced (UE pos (YB es X.env))) (AP X aA Y Q) X.xe s
def PS(X:Cx)(st:MA)(t:TS):Prop :=
 ∀(aA:List (fA×nB)) (s:qA) (Y:St) (H:Hp) (D:Ends),eA X aA Y H s->t D Y H->nA (model X.prog X.w) X.A (exec st X.env) (SP X aA D) X.xe s
def FC(X:Cx)(st:List MA)(t:TS):Prop :=
 ∀(aA:List (fA×nB)) (s:qA) (Y:St) (H:Hp) (D:Ends),eA X aA Y H s->t D Y H->nA (model X.prog X.w) X.A (execs st X.env) (SP X aA D) X.xe s
def OA(h:nA M A t Q E s)(hQ:∀a s,Q a s->Q' a s):nA M A t Q' E s:=OG h hQ λ_ _ x=>x
section
variable{X:Cx}
def PM(i:Nat):TE:=λY H Q=>∃v,Y[i]?=some (some v)/\Q v H
def tC(v:V):TE:=λ_ H Q=>Q v H
def j9(hN:X.N[i]?=some x)(hv:NR X.env.scope x)(hd:(x==("__debug__":bA))=false:=by decide)(lI:(x==("__classdict__":bA))=false:=by decide):PE X (.Name x pos) (PM i):=by
 intro aA s Y H Q I h;obtain⟨v,e,h⟩:=h;obtain⟨m,hn,hl⟩:=I.loc;obtain⟨u,r,l⟩:=hl i x v hN e hv;have fin:EP X aA Y Q u s:=⟨v,H,I,r,h⟩
 rcases l with ⟨hk,hm⟩ | ⟨hk,c,hc,ZI⟩
 ·exact Ed (wpAny_loadName_local I.ok.kind hk hn hm fin) hd
 ·rcases hk with hk | hk
  ·exact Ed (wpAny_loadName_cell I.ok.kind hk hc ZI fin) hd
  ·exact Ed (wpAny_loadName_free I.ok.kind hk hc ZI fin lI) hd
def Al{i j pos}:PE X (.Constant (.int i) j pos) (tC (.int i)):=λ_ _ _ H _ I h=>wpAny_Constant_int ⟨.int i,H,I.tok _,⟨_,rfl⟩,h⟩
def rQa{b j pos}:PE X (.Constant (.bool b) j pos) (tC (.bl b)):=λ_ _ _ H _ I h=>Constant_bool ⟨.bl b,H,I,rfl,h⟩
def hRa{j pos}:PE X (.Constant .none j pos) (tC .lA):=λ_ _ _ H _ I h=>Constant_none ⟨.lA,H,I,rfl,h⟩
def lRa{x j pos}:PE X (.Constant (.str x) j pos) (tC (.str x)):=λ_ _ _ H _ I h=>Calls.Constant_str ⟨.str x,H,I.tok _,⟨_,rfl⟩,h⟩
def Gl(X:Cx)(x:bA):Prop:=X.env.kindOf x=some .globalImplicit
def xQ(I:eA X aA Y H s)(hg:Gl X x)(hm:X.mg x=some u)(h:Q u s)
  (hd:(x==("__debug__":bA))=false:=by decide):nA (model X.prog X.w) X.A (eval (.Name x pos) X.env) Q E s :=
 Calls.Name_function_global I.ok.kind hg (Calls.loadGlobal_global (by rw[I.ok.glob];exact I.mod.glob.keeps I.bk) hm h) hd
def bO(I:eA X aA Y H s)(hg:Gl X x)(hm:X.mg x=none)(hv:NL x=some u)(h:Q u s)
  (hn:x≠"__name__":=by decide) (hd:(x==("__debug__":bA))=false:=by decide):nA (model X.prog X.w) X.A (eval (.Name x pos) X.env) Q E s:=by
 obtain⟨mb,h1,h2⟩:=I.mod.BB;exact Calls.Name_function_global I.ok.kind hg (Calls.loadGlobal_builtin (by rw[I.ok.glob];exact I.mod.glob.keeps I.bk) hm (by rw[I.ok.BB];exact h1.keeps I.bk) ((h2 x hn).trans hv) h) hd
def aRa(hg:Gl X x)(hm:X.mg x=some u)(r:aAe v u)(hd:(x==("__debug__":bA))=false:=by decide):PE X (.Name x pos) (tC v) :=
 λ_ _ _ H _ I h=>xQ I hg hm ⟨v,H,I,r,h⟩ hd
def f9(hg:Gl X x)(hm:X.mg x=none)(hv:NL x=some u)(r:aAe v u)(hn:x≠"__name__":=by decide)(hd:(x==("__debug__":bA))=false:=by decide):PE X (.Name x pos) (tC v) :=
 λ_ _ _ H _ I h=>bO I hg hm hv ⟨v,H,I,r,h⟩ hn hd
variable{pos:MB}
variable{aAk:List vA}
def Yo(t u:TT):TT:=λY H Q=>t Y H λc H1=>if c=true then u Y H1 Q else Q false H1
def bp(t u:TT):TT:=λY H Q=>t Y H λc H1=>if c=true then Q true H1 else u Y H1 Q
def uZa(t:TT):TT:=λY H Q=>t Y H λc H1=>Q (!c) H1
def aAZ(ha:PT X a tA):PW X (.BoolOp .And [a] pos) tA:=by
 intro wh aA s Y H Q I h;refine isTrue_and (OA (ha aA s Y H Q I h) λc s1 e=>?_)
 cases c with
 |true=>exact isTrue_and_nil e
 |false=>exact e
def aA3(ha:PT X a tA):PW X (.BoolOp .Or [a] pos) tA:=by
 intro wh aA s Y H Q I h;refine isTrue_or (OA (ha aA s Y H Q I h) λc s1 e=>?_)
 cases c with
 |false=>exact isTrue_or_nil e
 |true=>exact e
def aA1(ha:PT X a tA)(hb:PW X (.BoolOp .And (b::aAk) pos) Oa):PW X (.BoolOp .And (a::b::aAk) pos) (Yo tA Oa):=by
 intro wh aA s Y H Q I h;refine isTrue_and (OA (ha aA s Y H _ I h) λc s1 hz=>?_);obtain⟨H1,I1,q1⟩:=hz
 cases c with
 |true=>exact hb wh aA s1 Y H1 Q I1 q1
 |false=>exact⟨H1,I1,q1⟩
def aA6(ha:PT X a tA)(hb:PW X (.BoolOp .Or (b::aAk) pos) Oa):PW X (.BoolOp .Or (a::b::aAk) pos) (bp tA Oa):=by
 intro wh aA s Y H Q I h;refine isTrue_or (OA (ha aA s Y H _ I h) λc s1 hz=>?_);obtain⟨H1,I1,q1⟩:=hz
 cases c with
 |true=>exact⟨H1,I1,q1⟩
 |false=>exact hb wh aA s1 Y H1 Q I1 q1
def cUa(ha:PT X a tA):PT X (.UnaryOp .Not a pos) (uZa tA):=by
 intro aA s Y H Q I h;exact isTrue_not (ha aA s Y H (λc H1=>Q (!c) H1) I h)
def Zo(ta tb:TE):TE:=λY H Q=>ta Y H λx H1=>∃c,x=.bl c/\if c=true then tb Y H1 Q else Q (.bl false) H1
def gp(ta tb:TE):TE:=λY H Q=>ta Y H λx H1=>∃c,x=.bl c/\if c=true then Q (.bl true) H1 else tb Y H1 Q
def Bl{op}(h:PE X a t):PE X (.BoolOp op [a] pos) t:=λaA s Y H Q I hw=>BoolOp_one (h aA s Y H Q I hw)
def qQa(ha:PE X a ta)(hb:PE X (.BoolOp .And (b::aAk) pos) tb):PE X (.BoolOp .And (a::b::aAk) pos) (Zo ta tb):=by
 intro aA s Y H Q I h;refine BoolOp_and (OA (ha aA s Y H _ I h) λv s1 hz=>?_);obtain⟨x,H1,I1,r1,q1⟩:=hz;obtain⟨c,rfl,q1⟩:=q1;cases r1;refine GL ?_
 cases c with
 |true=>exact hb aA s1 Y H1 Q I1 q1
 |false=>exact⟨.bl false,H1,I1,rfl,q1⟩
def i9(ha:PE X a ta)(hb:PE X (.BoolOp .Or (b::aAk) pos) tb):PE X (.BoolOp .Or (a::b::aAk) pos) (gp ta tb):=by
 intro aA s Y H Q I h;refine BoolOp_or (OA (ha aA s Y H _ I h) λv s1 hz=>?_);obtain⟨x,H1,I1,r1,q1⟩:=hz;obtain⟨c,rfl,q1⟩:=q1;cases r1;refine GL ?_
 cases c with
 |false=>exact hb aA s1 Y H1 Q I1 q1
 |true=>exact⟨.bl true,H1,I1,rfl,q1⟩
noncomputable def tIf(t:TT)(ta tb:TE):TE:=λY H Q=>t Y H λc H1=>if c=true then ta Y H1 Q else tb Y H1 Q
def bRa(hc:PT X c tA)(ha:PE X a ta)(hb:PE X b tb):PE X (.IfExp c a b pos) (tIf tA ta tb):=by
 intro aA s Y H Q I h;refine wpAny_IfExp (OA (hc aA s Y H _ I h) λd s1 hz=>?_);obtain⟨H1,I1,q1⟩:=hz
 cases d with
 |true=>exact ha aA s1 Y H1 Q I1 q1
 |false=>exact hb aA s1 Y H1 Q I1 q1
end
def EB(K:gA)(H:Hp)(a:fA)(xs:List V):Prop :=
 Rd H a (.l xs) \/
  ∃(o:nB) (dA:Array cA) (n:Nat),K.lookup a=some o/\o.cls=.type "list"/\o.dict=none/\o.data=.seq dA n/\dA.size<=sizeLine/\aAc xs dA.toList
def sC(K:gA)(H:Hp)(a:fA)(xs:List V):Prop :=
 Rd H a (.t xs) \/
  ∃(o:nB) (dA:Array cA) (n:Nat),K.lookup a=some o/\o.cls=.type "tuple"/\o.data=.seq dA n/\dA.size<=sizeLine/\aAc xs dA.toList
noncomputable def xv:cA->Option V
 |.none=>some .lA
 |.bool b=>some (.bl b)
 |.int i _=>some (.int i)
 |.str x _=>some (.str x)
 |.ref a=>some (.ref a)
 |.type n=>some (.ty n)
 |_=>none
def aAe.abs(r:aAe x u):xv u=some x:=by
 cases x with
 |lA=>cases r;rfl
 |bl _=>cases r;rfl
 |int _=>obtain⟨t,rfl⟩:=r;rfl
 |str _=>obtain⟨t,rfl⟩:=r;rfl
 |ref _=>cases r;rfl
 |ty _=>cases r;rfl
theorem aAe.inj(r:aAe x u)(q:aAe y u):x=y:=ZD (r.abs.symm.trans q.abs)
theorem aAc.inj{xs ys:List V}{us:List cA}(h:aAc xs us)(h':aAc ys us):xs=ys:=by
 induction h generalizing ys with
 |nil=>cases h';rfl
 |cons r t ih=>cases h' with | cons r' t'=>rw[r.inj r',ih t']
section
variable{xs ys:List V}
def EB.of{K:gA}(h:H a=some (.l xs)):EB K H a xs:=.inl (.inl h)
def sC.of{K:gA}(h:H a=some (.t xs)):sC K H a xs:=.inl (.inl h)
def eA.list(I:eA X aA Y H s)(h:EB X.K H a xs):∃dA:List cA,aAc xs dA/\PlainL s.heap a dA.toArray/\xs.length<=sizeLine:=by
 rcases h with h | ⟨o,dA,n,hk,hc,hd,hs,hz,r⟩
 ·obtain⟨z,dA,n,r,e⟩:=h.ok I.KA;exact⟨dA,r,⟨_,n,e,rfl,rfl,rfl⟩,z⟩
 ·refine⟨dA.toList,r,⟨o,n,I.WD a o hk,hc,hd,by simpa using hs⟩, ?_⟩;have e:=r.length;simp only[vG] at e
  lia
def eA.tuple(I:eA X aA Y H s)(h:sC X.K H a xs):∃dA:List cA,aAc xs dA/\AF s.heap a dA.toArray/\xs.length<=sizeLine:=by
 rcases h with h | ⟨o,dA,n,hk,hc,hs,hz,r⟩
 ·obtain⟨z,dA,r,p⟩:=h.ok I.KA;exact⟨dA,r,p,z⟩
 ·refine⟨dA.toList,r,⟨o,I.WD a o hk,hc,n,by simpa using hs⟩, ?_⟩;have e:=r.length;simp only[vG] at e
  lia
def eA.Nj(I:eA X aA Y H s)(h:EB X.K H a xs)(h':EB X.K H a ys):xs=ys:=by
 obtain⟨dA,r,⟨o,n,e,_,_,d⟩,_⟩:=I.list h;obtain⟨its',r',⟨o',n',e',_,_,d'⟩,_⟩:=I.list h';rw[e] at e';cases e';rw[d] at d'
 injection d' with d1 _
 have:dA=its':=by simpa using congrArg FU d1
 subst this;exact r.inj r'
def eA.r0a(I:eA X aA Y H s)(h:sC X.K H a xs)(h':sC X.K H a ys):xs=ys:=by
 obtain⟨dA,r,⟨o,e,_,n,d⟩,_⟩:=I.tuple h;obtain⟨its',r',⟨o',e',_,n',d'⟩,_⟩:=I.tuple h';rw[e] at e';cases e';rw[d] at d'
 injection d' with d1 _
 have:dA=its':=by simpa using congrArg FU d1
 subst this;exact r.inj r'
end
abbrev Cx.pK(X:Cx)(E:cA->qA->Prop):Cx:={ X with xe:=E }
abbrev Cx.HQ(X:Cx):Cx:=X.pK λ_ _=>False
theorem Cx.Ok.pK{X:Cx}(ok:X.Ok)(E:cA->qA->Prop):(X.pK E).Ok :=
 ⟨ok.mod,ok.kind,ok.glob,ok.BB,ok.above,ok.inj,ok.has,ok.mM,ok.hd,ok.frames,ok.YD,ok.lS,ok.bs,ok.OI,ok.HM,ok.NN,ok.fG,ok.OJ⟩
def Cx.Ok.WM{X:Cx}(ok:(X.pK E).Ok):X.Ok :=
 ⟨ok.mod,ok.kind,ok.glob,ok.BB,ok.above,ok.inj,ok.has,ok.mM,ok.hd,ok.frames,ok.YD,ok.lS,ok.bs,ok.OI,ok.HM,ok.NN,ok.fG,ok.OJ⟩
section
variable{E:cA->qA->Prop}
theorem eA.pK(I:eA X aA Y H s)(E:cA->qA->Prop):eA (X.pK E) aA Y H s:=⟨I.ok.pK E,I.os,I.bare,I.base,I.loc,I.cell,I.free,I.gH,I.pin,I.KA,I.len⟩
theorem eA.WM(I:eA (X.pK E) aA Y H s):eA X aA Y H s:=⟨I.ok.WM,I.os,I.bare,I.base,I.loc,I.cell,I.free,I.gH,I.pin,I.KA,I.len⟩
theorem SP.WM(h:SP (X.pK E) aA D f s'):SP X aA D f s':=by
 cases f with
 |next=>obtain⟨Y',H',I,q⟩:=h;exact⟨Y',H',I.WM,q⟩
 |brk=>obtain⟨Y',H',I,q⟩:=h;exact⟨Y',H',I.WM,q⟩
 |cont=>obtain⟨Y',H',I,q⟩:=h;exact⟨Y',H',I.WM,q⟩
 |ret u=>obtain⟨v,Y',H',I,r,q⟩:=h;exact⟨v,Y',H',I.WM,r,q⟩
theorem FC.HQ{st:List MA}(h:FC X.HQ st t):FC X st t:=λaA s Y H D I hw =>
 OG (h aA s Y H D (I.pK _) hw) (λ_ _ q=>q.WM) λ_ _ z=>uG z
end
section
variable{st:MA}{aAk:List MA}
def Wa:TS:=λD Y H=>D.nx Y H
def zZa(t u:TS):TS:=λD Y H=>t { D with nx:=u D } Y H
def cm:FC X [] Wa:=λ_ _ Y H _ I h=>zU ⟨Y,H,I,h⟩
def z9(h1:PS X st t)(h2:FC X aAk u):FC X (st::aAk) (zZa t u):=by
 intro aA s Y H D I h;refine wpAny_execs_cons (OA (h1 aA s Y H { D with nx:=u D } I h) λf s1 q=>?_)
 cases f with
 |next =>
  obtain⟨Y',H',I',q⟩:=q;exact h2 aA s1 Y' H' D I' q
 |ret v=>exact q
 |brk=>exact q
 |cont=>exact q
def xTa(h1:PS X st t):FC X [st] t:=by
 intro aA s Y H D I h;refine wpAny_execs_cons (OA (h1 aA s Y H D I h) λf s1 q=>?_)
 cases f with
 |next=>exact zU q
 |ret v=>exact q
 |brk=>exact q
 |cont=>exact q
def gZa:TS:=λD Y H=>D.bk Y H
def jZa:TS:=λD Y H=>D.ct Y H
def hTa:PS X (.Pass pos) Wa:=λ_ _ Y H _ I h=>wpAny_Pass ⟨Y,H,I,h⟩
def xSa:PS X (.Break pos) gZa:=λ_ _ Y H _ I h=>wpAny_Break ⟨Y,H,I,h⟩
def bTa:PS X (.Continue pos) jZa:=λ_ _ Y H _ I h=>wpAny_Continue ⟨Y,H,I,h⟩
def eA.quiet(I:eA X aA Y H s):interactive X.env=false:=by simp[interactive,I.ok.kind]
def lZa(te:TE):TS:=λD Y H=>te Y H λ_ H1=>D.nx Y H1
def Wl(he:PE X e te)(hs:swapsWith e none pos.line X.env=pure false:=by rfl):PS X (.Expr e pos) (lZa te):=by
 intro aA s Y H D I h;exact wpAny_Expr_any (OA (he aA s Y H _ I h) λv s1 hz=>(by obtain⟨x,H1,I1,r1,q1⟩:=hz;exact⟨Y,H1,I1,q1⟩)) I.quiet hs
def xZa(te:TE):TS:=λD Y H=>te Y H D.rt
def y9(he:PE X e te):PS X (.Return (some e) pos) (xZa te):=by
 intro aA s Y H D I h;exact wpAny_Return_some (OA (he aA s Y H _ I h) λv s1 hz=>(by obtain⟨x,H1,I1,r1,q1⟩:=hz;exact⟨x,Y,H1,I1,r1,q1⟩))
def yZa:TS:=λD _ H=>D.rt .lA H
def kTa:PS X (.Return none pos) yZa:=λ_ _ Y H _ I h=>wpAny_Return_none ⟨.lA,Y,H,I,rfl,h⟩
def qZa(c:TT)(t u:TS):TS:=λD Y H=>c Y H λb H1=>if b=true then t D Y H1 else u D Y H1
def Xl(hc:PT X c tc)(ha:FC X a t)(hb:FC X b u):PS X (.If c a b pos) (qZa tc t u):=by
 intro aA s Y H D I h;refine wpAny_If (OA (hc aA s Y H _ I h) λd s1 hz=>?_);obtain⟨H1,I1,q1⟩:=hz
 cases d with
 |true=>exact ha aA s1 Y H1 D I1 q1
 |false=>exact hb aA s1 Y H1 D I1 q1
end
abbrev TG:=V->St->Hp->(St->Hp->Prop)->Prop
abbrev tP:=List V->St->Hp->(St->Hp->Prop)->Prop
def PG(X:Cx)(target:vA)(t:TG):Prop :=
 ∀(aA:List (fA×nB)) (s:qA) (Y:St) (H:Hp) (v:V) (u:cA) (Q:St->Hp->Prop),eA X aA Y H s->aAe v u->t v Y H Q ->
  nA (model X.prog X.w) X.A (assign target X.env u) (λ_ s'=>∃Y' H',eA X aA Y' H' s'/\Q Y' H') X.xe s
def LK(X:Cx)(ts:List vA)(t:tP):Prop :=
 ∀(aA:List (fA×nB)) (s:qA) (Y:St) (H:Hp) (vs:List V) (us:List cA) (Q:St->Hp->Prop),eA X aA Y H s->aAc vs us->t vs Y H Q ->
  nA (model X.prog X.w) X.A (assignInOrder ((qH ts X.env).map (·.2)) us) (λ_ s'=>∃Y' H',eA X aA Y' H' s'/\Q Y' H') X.xe s
abbrev VU:=V->V->V->Hp->(Hp->Prop)->Prop
def TZ(X:Cx)(t:VU):Prop :=
 ∀(aA:List (fA×nB)) (s:qA) (Y:St) (H:Hp) (o i v:V) (ov iv u:cA) (Q:Hp->Prop),eA X aA Y H s->aAe o ov->aAe i iv->aAe v u->t o i v H Q ->
  nA (model X.prog X.w) X.A (setItem ov iv u) (λ_ s'=>∃H',eA X aA Y H' s'/\Q H') X.xe s
section
variable{pos:MB}
def ON(i:Nat):TG:=λv Y H Q=>Q (Y.set i (some v)) H
def Il(hN:X.N.Nodup)(hi:X.N[i]?=some x)(hx:Loc X.env.scope x)(hf:X.fn x=true\/X.env.scope.names.lookup x=some .local:=by first | exact .inl rfl | exact .inr rfl | assumption):PG X (.Name x pos) (ON i):=by
 intro aA s Y H v u Q I r h;exact Cr (Rn I hN hi hx r (λs' I'=>⟨_,H,I',h⟩) hf)
def R':tP:=λvs Y H Q=>vs=[]/\Q Y H
def P'(t:TG)(u:tP):tP:=λvs Y H Q=>∃v r,vs=v::r/\t v Y H λY' H'=>u r Y' H' Q
def uRa:LK X [] R':=by
 intro aA s Y H vs us Q I r h;obtain⟨e,h⟩:=h;subst e;cases r;exact assignInOrder_nil ⟨Y,H,I,h⟩
def sRa(h1:PG X e t)(h2:LK X es u)
  (hs:(qH (e::es) X.env).map (·.2)=assign e X.env::(qH es X.env).map (·.2):=by rfl):LK X (e::es) (P' t u):=by
 intro aA s Y H vs us Q I r h;obtain⟨v,vr,e1,h⟩:=h;subst e1
 cases r with
 |cons r rr =>
  rw[hs];refine assignInOrder_cons (OA (h1 aA s Y H _ _ _ I r h) λ_ s1 hz=>?_);obtain⟨Y1,H1,I1,q1⟩:=hz;exact h2 aA s1 Y1 H1 _ _ Q I1 rr q1
def V'(K:gA)(n:Nat)(t:tP):TG:=λv Y H Q=>∃a xs,v=.ref a/\sC K H a xs/\xs.length=n/\t xs Y H Q
def rRa(hc:X.calm=true)(h:LK X es t)
  (hn:(qH es X.env).length=n:=by rfl) (JS:(qH es X.env).findIdx? (·.1)=none:=by rfl):PG X (.Tuple es k pos) (V' X.K n t):=by
 intro aA s Y H v u Q I r hw;obtain⟨a,xs,e1,hq,hl,hw⟩:=hw;subst e1;cases r;obtain⟨dA,rv,ht,hz⟩:=I.tuple hq;refine assign_Tuple_tuple (I.ok.hd hc) ht (by simp[hn,<- hl,rv.length]) JS λh' hx=>?_
 have I1:eA X aA Y H { s with heap:=h' }:=I.kept (t':=s.toks) λb o e=>hx b o (MD (fC e)) e
 exact h aA _ Y H xs _ Q I1 (by simpa using rv) hw
def S'(to ti:TE)(t:VU):TG:=λv Y H Q=>to Y H λo H1=>ti Y H1 λi H2=>t o i v H2 λH3=>Q Y H3
def qRa(ho:PE X o to)(hi:PE X i ti)(hs:TZ X t)
  (ha:∀v,assign (.Subscript o i pos) X.env v=(do
   let ov <- holding [v] (eval o X.env)
   let iv <- holding [v,ov] (eval i X.env)
   standAt pos
   holding [v,ov,iv] (setItem ov iv v)
   release [v,ov,iv] []):=by intro _;rfl):PG X (.Subscript o i pos) (S' to ti t):=by
 intro aA s Y H v u Q I r h;rw[ha];refine kA (qK (OA (ho aA s Y H _ I h) λov s1 hz=>?_));obtain⟨x,H1,I1,r1,q1⟩:=hz;refine kA (qK (OA (hi aA s1 Y H1 _ I1 q1) λiv s2 hz=>?_));obtain⟨y,H2,I2,r2,q2⟩:=hz;refine kA (dZ (kA (qK (OA (hs aA s2 Y H2 x y v ov iv u _ I2 r1 r2 r q2) λ_ s3 hz=>?_))));obtain⟨H3,I3,q3⟩:=hz;exact wpAny_release ⟨Y,H3,I3,q3⟩
def VX(te:TE)(g:TG):TS:=λD Y H=>te Y H λx H1=>g x Y H1 D.nx
def qX(he:PE X e te)(hg:PG X tg g)(hs:swapsWithSole [tg] e pos.line X.env=pure false:=by rfl)(hw:swappedStores [tg] e X.env=pure none:=by rfl)
  (h1:(qH [tg] X.env).map (·.2)=[assign tg X.env]:=by rfl):PS X (.Assign [tg] e pos) (VX te g):=by
 intro aA s Y H D I h;refine wpAny_Assign_stores (OA (he aA s Y H _ I h) λv s1 hz=>?_) hs hw;obtain⟨x,H1,I1,r1,q1⟩:=hz;rw[h1];exact OA (hg aA s1 Y H1 x v _ I1 r1 q1) λ_ s2 q=>q
def nTa(hN:X.N.Nodup)(hi:X.N[i]?=some x)(hx:Loc X.env.scope x)(he:PE X e te)(hs:swapsWith e (some (.Name x pos')) pos.line X.env=pure false:=by rfl)(hf:X.fn x=true\/X.env.scope.names.lookup x=some .local:=by first | exact .inl rfl | exact .inr rfl | assumption) :
  PS X (.Assign [.Name x pos'] e pos) (VX te (ON i)):=by
 intro aA s Y H D I h;refine wpAny_Assign_Name (OA (he aA s Y H _ I h) λv s1 hz=>?_) hs;obtain⟨y,H1,I1,r1,q1⟩:=hz;exact Rn I1 hN hi hx r1 (λs2 I2=>⟨_,H1,I2,q1⟩) hf
end
section
variable{X:Cx}{pos:MB}
def d0a(c:TT)(tb:TS):TS:=λD Y H=>∃W:Nat->St->Hp->Prop,(∃m,W m Y H)/\∀m Y H,W m Y H ->
 c Y H λb H1=>if b=true then ∃N:St->Hp->Prop,(∀Y' H',N Y' H'->∃m',m'<m/\W m' Y' H')/\tb { D with nx:=N,ct:=N,bk:=D.nx } Y H1 else D.nx Y H1
def Zl(hp:xK (model X.prog X.w) X.A X.env X.xe)(hc:PT X c tc)(hb:FC X body tb):PS X (.While c body [] pos) (d0a tc tb):=by
 intro aA s Y H D I h;obtain⟨W,⟨m0,w0⟩,turn⟩:=h;refine wpAny_While (codeAny_whileLoop (λn s'=>∃Y' H',eA X aA Y' H' s'/\W n Y' H') ?_ m0 ⟨Y,H,I,w0⟩)
 rintro n s1 ⟨Y1,H1,I1,w1⟩
 refine VO hp (OA (hc aA s1 Y1 H1 _ I1 (turn n Y1 H1 w1)) λb s2 hz=>?_);obtain⟨H2,I2,q2⟩:=hz
 cases b with
 |true =>
  obtain⟨N,hN,q2⟩:=q2;rw[GA rfl];refine VO hp (OA (hb aA s2 Y1 H2 _ I2 q2) λf s3 q3=>?_)
  cases f with
  |next =>
   obtain⟨Y3,H3,I3,n3⟩:=q3;obtain⟨m',hm,w3⟩:=hN Y3 H3 n3;exact⟨m',hm,Y3,H3,I3,w3⟩
  |cont =>
   obtain⟨Y3,H3,I3,n3⟩:=q3;obtain⟨m',hm,w3⟩:=hN Y3 H3 n3;exact⟨m',hm,Y3,H3,I3,w3⟩
  |brk=>exact q3
  |ret v=>exact q3
 |false =>
  rw[LA SD];exact zU ⟨Y1,H2,I2,q2⟩
end
structure It where
 go:Nat->Hp->Prop
 rY:Nat->Hp->V->Hp->Prop
 stop:Nat->Hp->Prop
def xD(X:Cx)(aA:List (fA×nB))(H:Hp)(b:fA):Prop :=
 H b=none/\b≠X.env.locals/\b ∉ X.fs/\(b∈X.ex\/X.s₀.heap.get? b=none)/\(∀x c,X.env.cells.lookup x=some c->c≠b)/\∀p∈X.pn++aA,p.1≠b
def eA.oM(I:eA X aA Y H s)(hb:s.heap.objs.size<=b)(hn:H' b=none):xD X aA H' b:=by
 refine⟨hn,OL (jF I.lt hb),I.mMa hb,.inr (GY (XC I.sz hb)),λx c e z=>?_,λp hp z=>?_⟩
 ·obtain⟨v,q⟩:=I.cell x c e;exact absurd (jF q.lt (by rw[z];exact hb)) (LL _)
 ·exact absurd (jF (fC (I.pin p hp).1) (by rw[z];exact hb)) (LL _)
structure Turn(P:pC)(w:NB)(K:gA)(tg:vA)(J:It)(fp:List fA)(it:fA)(tn:Nat->jB->Prop):Prop where
 mem:it∈fp
 obj:∀i h,tn i h->∀b∈fp,∃o,h.get? b=some o/\∀v,o.data≠.cell v
 keep:∀i h h',tn i h->(∀b∈fp,∀o,h.get? b=some o->h'.get? b=some o)->tn i h'
 item:∀(X:Cx),X.prog=P->X.w=w->X.K=K->X.calm=true->∀(i:Nat) (aA:List (fA×nB)) (s:qA) (Y:St) (H:Hp) (E:cA->qA->Prop),eA X aA Y H s->(∀b∈fp,xD X aA H b)->tn i s.heap->J.go i H ->
  nA (model P w) X.A (pyNext (.ref it)) (λr s1=>∃u,r=some u /\
   nA (model P w) X.A (letOwnedTupleGo tg (.ref it) u) (λ_ s2=>∃x H',eA X aA Y H' s2/\aAe x u/\J.rY i H x H'/\tn (i+1) s2.heap/\∀b∈fp,H' b=none) E s1) E s
 done:∀(X:Cx),X.prog=P->X.w=w->X.K=K->X.calm=true->∀(i:Nat) (aA:List (fA×nB)) (s:qA) (Y:St) (H:Hp) (E:cA->qA->Prop),eA X aA Y H s->(∀b∈fp,xD X aA H b)->tn i s.heap->J.stop i H ->
  nA (model P w) X.A (pyNext (.ref it)) (λr s1=>r=none/\eA X aA Y H s1) E s
 self:∀(A:LD) (i:Nat) (s:qA) (Q:cA->qA->Prop) (E:cA->qA->Prop),tn i s.heap->Q (.ref it) s->nA (model P w) A (pyIter (.ref it)) Q E s
abbrev TI:=St->Hp->(It->Hp->Prop)->Prop
def ae(X:Cx)(aA:List (fA×nB))(Y:St)(tg:vA)(R:It->Hp->Prop)(K7:cA)(s2:qA):Prop :=
 ∃(it:fA) (fp:List fA) (tn:Nat->jB->Prop) (J:It) (H':Hp),K7=.ref it/\eA X aA Y H' s2/\Turn X.prog X.w X.K tg J fp it tn/\tn 0 s2.heap/\(∀b∈fp,xD X aA H' b)/\R J H'
def PI(X:Cx)(tg iter:vA)(wi:TI):Prop :=
 ∀(aA:List (fA×nB)) (s:qA) (Y:St) (H:Hp) (R:It->Hp->Prop),eA X aA Y H s->wi Y H R ->
  nA (model X.prog X.w) X.A (eval iter X.env) (λv s1=>nA (model X.prog X.w) X.A (pyIter v) (ae X aA Y tg R) X.xe s1) X.xe s
def PV(ho:s.heap.get? it=some o)(hc:o.cls=.type n)(hd:o.data=.fields vs)
  (hn:["enumerate","zip","dict_itemiterator","dict_reverseitemiterator","odict_iterator","itertools.zip_longest","itertools.pairwise"].contains n=false) (hQ:Q () s):nA M A (letOwnedTupleGo tg (.ref it) u) Q E s:=by
 unfold letOwnedTupleGo
 cases tg<;>first
  |exact SA hQ
  | (cases u<;>first
    |exact SA hQ
    | (refine kA (wpAny_load ho ?_)
       rw[hc,hd];show nA M A (if(["enumerate","zip","dict_itemiterator","dict_reverseitemiterator","odict_iterator","itertools.zip_longest","itertools.pairwise"].contains n&&vs[0]? == some (rawInt _))=true then _ else _) Q E s;rw[LA (by intro h;rw[hn,uR] at h;cases h)]
       exact SA hQ))
noncomputable def KZ(K:gA)(a:fA):It :=
 ⟨λi H=>∃xs x,EB K H a xs/\xs[i]?=some x,λi H x H'=>H'=H/\∀xs,EB K H a xs->xs[i]?=some x,λi H=>∃xs,EB K H a xs/\xs.length<=i⟩
noncomputable def LZ(K:gA)(a:fA):It :=
 ⟨λi H=>∃xs x,sC K H a xs/\xs[i]?=some x,λi H x H'=>H'=H/\∀xs,sC K H a xs->xs[i]?=some x,λi H=>∃xs,sC K H a xs/\xs.length<=i⟩
noncomputable def JR(lo:Int)(n:Nat):It:=⟨λi _=>i<n,λi H x H'=>H'=H/\x=.int (lo+i),λi _=>n<=i⟩
def a1a{K:gA}(a it:fA):Turn P w K tg (KZ K a) [it] it (λi h=>h.IsListIter it a i) where
 mem:=by simp
 obj:=λi h st b hb=>by
  have e:b=it:=by simpa using hb
  subst e;obtain⟨o,e,c,d⟩:=st;exact⟨o,e,λv z=>by rw[d] at z;cases z⟩
 keep:=λi h h' st k=>st.at λo e=>k it (by simp) o e
 item:=by
  intro X hP hw hK hc i aA s Y H E I hf st hg;subst hP hw hK;obtain⟨xs,x,hq,hx⟩:=hg;obtain⟨dA,rv,p,hz⟩:=I.list hq;obtain⟨u,hu,ru⟩:=rv.get hx;obtain⟨f0,f1,f2,f3,f4,f5⟩:=hf it (by simp);refine wpAny_pyNext_list_item st p.isList (x:=u) (by simpa using hu) λh' sA sb=>?_
  have I1:eA X aA Y H { s with heap:=h' }:=I.turned (t':=s.toks) (λb o hb e=>(sb.2 b hb).trans e) f0 f1 f3 f4 f5;obtain⟨o,e,c,d⟩:=id sA;exact⟨u,rfl,PV (s:={ s with heap:=h' }) e c d (by decide) ⟨x,H,I1,ru,⟨rfl,λys hy=>by rw[I.Nj hy hq];exact hx⟩,sA,λb hb=>(hf b hb).1⟩⟩
 done:=by(intro X hP hw hK hc i aA s Y H E I hf st hg;subst hP hw hK;obtain⟨xs,hq,hx⟩:=hg;obtain⟨dA,rv,p,hz⟩:=I.list hq;obtain⟨f0,f1,f2,f3,f4,f5⟩:=hf it (by simp);have hl:=rv.length;exact wpAny_pyNext_list_end (I.ok.hd hc) st p.isList (by simp;lia) λh' eb=>⟨rfl,I.turned (t':=s.toks) (λb o hb e=>eb b o hb e) f0 f1 f3 f4 f5⟩)
 self:=λ_ _ _ _ _ st h=>wpAny_pyIter_listiter st h
def d1a{K:gA}(a it:fA):Turn P w K tg (LZ K a) [it] it (λi h=>h.IsTupleIter it a i) where
 mem:=by simp
 obj:=λi h st b hb=>by
  have e:b=it:=by simpa using hb
  subst e;obtain⟨o,e,c,d⟩:=st;exact⟨o,e,λv z=>by rw[d] at z;cases z⟩
 keep:=λi h h' st k=>st.at λo e=>k it (by simp) o e
 item:=by
  intro X hP hw hK hc i aA s Y H E I hf st hg;subst hP hw hK;obtain⟨xs,x,hq,hx⟩:=hg;obtain⟨dA,rv,p,hz⟩:=I.tuple hq;obtain⟨u,hu,ru⟩:=rv.get hx;obtain⟨f0,f1,f2,f3,f4,f5⟩:=hf it (by simp);refine wpAny_pyNext_tuple_item st (show s.heap.IsTuple a dA.toArray from p) (x:=u) (by simpa using hu) λh' sA sb=>?_
  have I1:eA X aA Y H { s with heap:=h' }:=I.turned (t':=s.toks) (λb o hb e=>(sb.2 b hb).trans e) f0 f1 f3 f4 f5;obtain⟨o,e,c,d⟩:=id sA;exact⟨u,rfl,PV (s:={ s with heap:=h' }) e c d (by decide) ⟨x,H,I1,ru,⟨rfl,λys hy=>by rw[I.r0a hy hq];exact hx⟩,sA,λb hb=>(hf b hb).1⟩⟩
 done:=by(intro X hP hw hK hc i aA s Y H E I hf st hg;subst hP hw hK;obtain⟨xs,hq,hx⟩:=hg;obtain⟨dA,rv,p,hz⟩:=I.tuple hq;obtain⟨f0,f1,f2,f3,f4,f5⟩:=hf it (by simp);have hl:=rv.length;exact wpAny_pyNext_tuple_end (I.ok.hd hc) st (show s.heap.IsTuple a dA.toArray from p) (by simp;lia) λh' eb=>⟨rfl,I.turned (t':=s.toks) (λb o hb e=>eb b o hb e) f0 f1 f3 f4 f5⟩)
 self:=λ_ _ _ _ _ st h=>wpAny_pyIter_tupleiter st h
def c1a{K:gA}(it:fA)(lo:Int)(n:Nat):Turn P w K tg (JR lo n) [it] it (λi h=>IsRangeIter h it (lo+(i:Nat)*1) ((n:Int)-(i:Nat)) 1) where
 mem:=by simp
 obj:=λi h st b hb=>by
  have e:b=it:=by simpa using hb
  subst e
  exact⟨_,st,λv z=>by
   have z':Data.fields _=Data.cell v:=z
   cases z'⟩
 keep:=λi h h' st k=>k it (by simp) _ st
 item:=by
  intro X hP hw hK hc i aA s Y H E I hf st hg;subst hP hw hK;obtain⟨f0,f1,f2,f3,f4,f5⟩:=hf it (by simp);have W:=Walks.range (prog:=X.prog) (w:=X.w) (I.ok.hd hc) it lo 1 n;refine W.item i s _ _ hg st λv h' tk hv sA kk=>?_
  obtain⟨t,rfl⟩:=hv;have I1:eA X aA Y H { s with heap:=h',toks:=tk }:=I.turned (λb o hb e=>kk b o (by simpa using hb) e) f0 f1 f3 f4 f5;refine⟨_,rfl,PV (s:={ s with heap:=h',toks:=tk }) (n:="range_iterator") sA rfl rfl (by decide) ⟨.int (lo+i),H,I1,⟨t, ?_⟩,⟨rfl,rfl⟩,sA,λb hb=>(hf b hb).1⟩⟩;rw[Int.mul_one]
 done:=by(intro X hP hw hK hc i aA s Y H E I hf st hg;subst hP hw hK;obtain⟨f0,f1,f2,f3,f4,f5⟩:=hf it (by simp);exact wpAny_pyNext_range_end (I.ok.hd hc) st (by have:n<=i:=hg;lia) λh' eb=>⟨rfl,I.turned (t':=s.toks) (λb o hb e=>eb b o hb e) f0 f1 f3 f4 f5⟩)
 self:=λ_ _ _ _ _ st h=>wpAny_pyIter_rangeiter st h
section
variable{tg:vA}
def V6(K:gA)(tl:TE):TI:=λY H R=>tl Y H λx H1=>∃a,x=.ref a/\(∃xs,EB K H1 a xs)/\R (KZ K a) H1
def W6(K:gA)(tl:TE):TI:=λY H R=>tl Y H λx H1=>∃a,x=.ref a/\(∃xs,sC K H1 a xs)/\R (LZ K a) H1
def n9(hl:PE X l tl):PI X tg l (V6 X.K tl):=by
 intro aA s Y H R I h;refine OA (hl aA s Y H _ I h) λv s1 hz=>?_
 obtain⟨x,H1,I1,r1,q1⟩:=hz;obtain⟨a,e,⟨xs,hq⟩,q⟩:=q1;subst e;cases r1;obtain⟨dA,rv,p,hz⟩:=I1.list hq;refine tU p.isList ?_;refine⟨s1.heap.objs.size,[s1.heap.objs.size],_,_,H1,rfl,I1.kept (t':=s1.toks) λb o e=>wC _ e,a1a a _,⟨_,iE _ rfl,rfl,rfl⟩,λb hb=>?_,q⟩;have e:b=s1.heap.objs.size:=by simpa using hb
 subst e;exact I1.oM (mB _) (I1.KA.fresh (mB _))
def o9(hl:PE X l tl):PI X tg l (W6 X.K tl):=by
 intro aA s Y H R I h;refine OA (hl aA s Y H _ I h) λv s1 hz=>?_
 obtain⟨x,H1,I1,r1,q1⟩:=hz;obtain⟨a,e,⟨xs,hq⟩,q⟩:=q1;subst e;cases r1;obtain⟨dA,rv,p,hz⟩:=I1.tuple hq;refine jr (show s1.heap.IsTuple a dA.toArray from p) ?_;refine⟨s1.heap.objs.size,[s1.heap.objs.size],_,_,H1,rfl,I1.kept (t':=s1.toks) λb o e=>wC _ e,d1a a _,⟨_,iE _ rfl,rfl,rfl⟩,λb hb=>?_,q⟩;have e:b=s1.heap.objs.size:=by simpa using hb
 subst e;exact I1.oM (mB _) (I1.KA.fresh (mB _))
def ym{lo hi:Int}(I:eA X aA Y H s)(h1:-(2 ^ 62)<=lo)(h2:lo<2 ^ 62)(h3:-(2 ^ 62)<=hi)(h4:hi<2 ^ 62)
  (q:R (JR lo (hi-lo).toNat) H):nA (model X.prog X.w) X.A (pyIter (.ref s.heap.objs.size)) (ae X aA Y tg R) E { s with heap:=s.heap.push { cls:=.type "range",data:=.fields #[.int lo t,.int hi u,.int 1 v] },toks:=tk }:=by
 refine wpAny_pyIter_range (IsRange.new ..) (small_one h1 h2 h3 h4) ?_;have I1:eA X aA Y H { s with heap:=s.heap.push { cls:=.type "range",data:=.fields #[.int lo t,.int hi u,.int 1 v] },toks:=tk }:=I.kept λb o e=>wC _ e
 refine⟨(s.heap.push { cls:=.type "range",data:=.fields #[.int lo t,.int hi u,.int 1 v] }).objs.size,[(s.heap.push { cls:=.type "range",data:=.fields #[.int lo t,.int hi u,.int 1 v] }).objs.size],_,_,H,rfl,
  I1.kept (t':=tk) λb o e=>wC _ e,c1a _ lo (hi-lo).toNat, ?_,λb hb=>?_,q⟩
 ·have e1:lo+((0:Nat):Int)*1=lo:=by simp
  have e2:(((hi-lo).toNat:Nat):Int)-((0:Nat):Int)=Builtin.Range.rangeSize lo hi 1:=by rw[rangeSize_one];split<;>lia
  show IsRangeIter _ _ (lo+((0:Nat):Int)*1) ((((hi-lo).toNat:Nat):Int)-((0:Nat):Int)) 1;rw[e1,e2];exact iE _ rfl
 ·have e:b=(s.heap.push { cls:=.type "range",data:=.fields #[.int lo t,.int hi u,.int 1 v] }).objs.size:=by simpa using hb
  subst e;exact I1.oM (mB _) (I1.KA.fresh (mB _))
def Mh(ta:TA):TI:=λY H R=>ta Y H λvs H1=>∃j:Int,vs=[.int j]/\-(2 ^ 62)<=j/\j<2 ^ 62/\R (JR 0 j.toNat) H1
def Nh(ta:TA):TI:=λY H R=>ta Y H λvs H1=>∃i j:Int,vs=[.int i,.int j]/\(-(2 ^ 62)<=i/\i<2 ^ 62/\-(2 ^ 62)<=j/\j<2 ^ 62)/\R (JR i (j-i).toNat) H1
def Ll{p pos:MB}(hg:Gl X "range")(hm:X.mg "range"=none)(ha:PA X [a] ta)(hs:YB [a] X.env=[(false,eval a X.env)]:=by rfl):PI X tg (.Call (.Name "range" p) [a] [] pos) (Mh ta):=by
 intro aA s Y H R I h;refine Call_ (bO I hg hm boot_range (sY (OA (ha pos aA s Y H _ I h) λus s1 hz=>?_) hs rfl));obtain⟨vs,H1,I1,r1,q1⟩:=hz;obtain⟨j,e,q1,q2,q⟩:=q1;subst e
 cases r1 with
 |cons r rr =>
  cases rr;obtain⟨t,rfl⟩:=r;exact call_range_1 (ym I1 (by lia) (by lia) q1 q2 (by simpa using q))
def Ml(hg:Gl X "range")(hm:X.mg "range"=none)(ha:PA X [a,b] ta)(hs:YB [a,b] X.env=[(false,eval a X.env),(false,eval b X.env)]:=by rfl)(qF:YB [b] X.env=[(false,eval b X.env)]:=by rfl) :
  PI X tg (.Call (.Name "range" p) [a,b] [] pos) (Nh ta):=by
 intro aA s Y H R I h;refine Call_ (bO I hg hm boot_range (sY (OA (ha pos aA s Y H _ I h) λus s1 hz=>?_) (by rw[hs,qF]) (by rw[qF];rfl)));obtain⟨vs,H1,I1,r1,q1⟩:=hz;obtain⟨i,j,e,⟨q1,q2,q3,q4⟩,q⟩:=q1;subst e
 cases r1 with
 |cons r rr =>
  cases rr with
  |cons r' rr =>
   cases rr;obtain⟨t,rfl⟩:=r;obtain⟨t',rfl⟩:=r';exact call_range_2 (ym I1 q1 q2 q3 q4 q)
def nZa(wi:TI)(g:TG)(tb:TS):TS:=λD Y H=>wi Y H λJ H1=>∃W:Nat->Nat->St->Hp->Prop,(∃m,W 0 m Y H1)/\∀i m Y H,W i m Y H ->
 (J.stop i H/\D.nx Y H)\/(J.go i H/\∃N:St->Hp->Prop,(∀Y' H',N Y' H'->∃m',m'<m/\W (i+1) m' Y' H')/\∀x H',J.rY i H x H'->g x Y H' λY2 H2=>tb { D with nx:=N,ct:=N,bk:=D.nx } Y2 H2)
noncomputable def CT(fp:List fA)(h:jB):List (fA×nB):=fp.filterMap λb=>(h.get? b).map λo=>(b,o)
def OW(hb:b∈fp)(e:h.get? b=some o):(b,o)∈CT fp h:=uc.mpr ⟨b,hb,by rw[e];rfl⟩
def yMa(hp:p∈CT fp h):p.1∈fp/\h.get? p.1=some p.2:=by
 obtain⟨b,hb,e⟩:=uc.mp hp
 cases q:h.get? b with
 |none=>rw[q] at e;cases e
 |some o =>
  rw[q] at e;have e':(b,o)=p:=ZD e;subst e';exact⟨hb,q⟩
def eA.pinned(I:eA X aA Y H s)(hf:∀b∈fp,xD X aA H b)(ho:∀b∈fp,∃o,s.heap.get? b=some o/\∀v,o.data≠.cell v):eA X (aA++CT fp s.heap) Y H s :=
 I.Nl λp hp=>(VE.mp hp).elim (λz=>I.pin p (XF _ z)) λz=>by(obtain⟨hb,e⟩:=yMa z;obtain⟨f0,f1,f2,_⟩:=hf p.1 hb;obtain⟨o,e',d⟩:=ho p.1 hb;rw[e] at e';cases e';exact⟨e,f0,f1,f2,d⟩)
def eA.cY(I:eA X (aA++pl) Y H s):eA X aA Y H s:=I.Nl λp hp=>I.pin p (XF _ (pN _ hp))
def eTa(hp:xK (model X.prog X.w) X.A X.env X.xe)(hc:X.calm=true)(hi:PI X tg iter wi)(hg:PG X tg g)(hb:FC X body tb)
  (hs:∀x,AJ iter X.env x=pure x:=by intro _;rfl):PS X (.For tg iter body [] pos) (nZa wi g tb):=by
 intro aA s Y H D I h;refine wpAny_For (OA (hi aA s Y H _ I h) λv s1 h1=>OA h1 λK7 s2 h2=>?_) hs;obtain⟨it,fp,tn,J,H2,e,I2,T,xF,f2,W,⟨m0,w0⟩,turn⟩:=h2;subst e
 -- Qp stays true of AE w5a objects through AE loop
 have wO:∀{H':Hp},(∀b∈fp,H' b=none)->∀b∈fp,xD X aA H' b:=λhn b hb=>⟨hn b hb,(f2 b hb).2⟩
 refine codeAny_forLoop_any (λn s'=>∃i Y' H',eA X aA Y' H' s'/\tn i s'.heap/\(∀b∈fp,H' b=none)/\W i n Y' H') ?_ m0 ⟨0,Y,H2,I2,xF,λb hb=>(f2 b hb).1,w0⟩
 rintro n s3 ⟨i,Y3,H3,I3,Cn,yg,w3⟩
 rcases turn i n Y3 H3 w3 with ⟨stop,qn⟩ | ⟨go,N,hN,step⟩
 ·refine VO hp (OA (T.done X rfl rfl rfl hc i aA s3 Y3 H3 X.xe I3 (wO yg) Cn stop) λr s4 hz=>?_);obtain⟨hr,I4⟩:=hz;subst hr;exact zU ⟨Y3,H3,I4,qn⟩
 ·refine VO hp (OA (T.item X rfl rfl rfl hc i aA s3 Y3 H3 X.xe I3 (wO yg) Cn go) λr s4 hz=>?_);obtain⟨u,hr,h4⟩:=hz;subst hr;refine VO hp (OA h4 λ_ s5 hz=>?_);obtain⟨x,H5,I5,r5,y5,OM,NV⟩:=hz;have Tt:=I5.pinned (wO NV) (T.obj _ _ OM);refine VO hp (OA (hg _ s5 Y3 H5 x u _ Tt r5 (step x H5 y5)) λ_ s6 hz=>?_);obtain⟨Y6,H6,I6,q6⟩:=hz;refine VO hp (OA (hb _ s6 Y6 H6 _ I6 q6) λf s7 q7=>?_)
  have again:∀{Y7:St} {H7:Hp},eA X (aA++CT fp s5.heap) Y7 H7 s7->N Y7 H7->∃m,m<n/\∃i Y' H',eA X aA Y' H' s7/\tn i s7.heap/\(∀b∈fp,H' b=none)/\W i m Y' H':=λ{Y7 H7} I7 n7=>by(obtain⟨m',hm,w7⟩:=hN Y7 H7 n7;refine⟨m',hm,i+1,Y7,H7,I7.cY,T.keep _ _ _ OM λb hb o e=>(I7.pin (b,o) (XF _ (XF _ (OW hb e)))).1,λb hb=>?_,w7⟩;obtain⟨o,e,d⟩:=T.obj _ _ OM b hb;exact(I7.pin (b,o) (XF _ (XF _ (OW hb e)))).2.1)
  cases f with
  |next=>obtain⟨Y7,H7,I7,n7⟩:=q7;exact again I7 n7
  |cont=>obtain⟨Y7,H7,I7,n7⟩:=q7;exact again I7 n7
  |brk=>obtain⟨Y7,H7,I7,q7⟩:=q7;exact⟨Y7,H7,I7.cY,q7⟩
  |ret v=>obtain⟨x7,Y7,H7,I7,r7,q7⟩:=q7;exact⟨x7,Y7,H7,I7.cY,r7,q7⟩
end
abbrev R2:=V->V->Hp->VK->Prop
def yC(X:Cx)(f:cA->cA->DE cA)(r:R2):Prop :=
 ∀(aA:List (fA×nB)) (s:qA) (Y:St) (H:Hp) (x y:V) (v u:cA) (Q:VK),eA X aA Y H s->aAe x v->aAe y u->r x y H Q ->
  nA (model X.prog X.w) X.A (f v u) (EP X aA Y Q) X.xe s
def WZ(X:Cx)(f:cA->DE cA)(r:V->Hp->VK->Prop):Prop :=
 ∀(aA:List (fA×nB)) (s:qA) (Y:St) (H:Hp) (x:V) (v:cA) (Q:VK),eA X aA Y H s->aAe x v->r x H Q ->
  nA (model X.prog X.w) X.A (f v) (EP X aA Y Q) X.xe s
def FF(X:Cx)(f:cA)(r:List V->Hp->VK->Prop):Prop :=
 ∀(aA:List (fA×nB)) (s:qA) (Y:St) (H:Hp) (xs:List V) (us:List cA) (Q:VK),eA X aA Y H s->aAc xs us->r xs H Q ->
  nA (model X.prog X.w) X.A (call f us) (EP X aA Y Q) X.xe s
def nv(X:Cx)(r:V->Hp->(Bool->Hp->Prop)->Prop):Prop :=
 ∀(aA:List (fA×nB)) (s:qA) (Y:St) (H:Hp) (x:V) (v:cA) (Q:Bool->Hp->Prop),eA X aA Y H s->aAe x v->r x H Q ->
  nA (model X.prog X.w) X.A (truthy v) (TP X aA Y Q) X.xe s
def fU(r:R2)(ta tb:TE):TE:=λY H Q=>ta Y H λx H1=>tb Y H1 λy H2=>r x y H2 Q
def tUn(r:V->Hp->VK->Prop)(ta:TE):TE:=λY H Q=>ta Y H λx H1=>r x H1 Q
def rI(C:Int->Int->Prop)(g:Int->Int->V):R2:=λx y H Q=>∃i j,x=.int i/\y=.int j/\C i j/\Q (g i j) H
def gK(g:Int->Int->V):R2:=λx y H Q=>∃i j,x=.int i/\y=.int j/\Q (g i j) H
def rU(g:Int->V):V->Hp->VK->Prop:=λx H Q=>∃i,x=.int i/\Q (g i) H
section
variable{pos:MB}
def B1(ha:PE X a ta)(hb:PE X b tb){R:V->V->Hp->Prop}(I:eA X aA Y H s)
  (h:ta Y H λx H1=>tb Y H1 λy H2=>R x y H2) {f:cA->cA->DE cA}
  (hf:∀v u s2 x y H2,eA X aA Y H2 s2->aAe x v->aAe y u->R x y H2->nA (model X.prog X.w) X.A (f v u) Q X.xe s2) :
  nA (model X.prog X.w) X.A (eval a X.env) (λv s₁=>nA (model X.prog X.w) X.A (eval b X.env) (λu s₂=>nA (model X.prog X.w) X.A (f v u) Q X.xe s₂) X.xe s₁) X.xe s:=by
 refine OA (ha aA s Y H _ I h) λv s1 hz=>?_
 obtain⟨x,H1,I1,r1,q1⟩:=hz;refine OA (hb aA s1 Y H1 _ I1 q1) λu s2 hz=>?_
 obtain⟨y,H2,I2,r2,q2⟩:=hz;exact hf v u s2 x y H2 I2 r1 r2 q2
def jRa(ho:yC X (gF op) r)(ha:PE X a ta)(hb:PE X b tb):PE X (.BinOp a op b pos) (fU r ta tb):=by
 intro aA s Y H Q I h;exact wpAny_BinOp (B1 ha hb I h λv u s2 x y H2 I2 rx ry q=>ho aA s2 Y H2 x y v u Q I2 rx ry q)
def nRa(ho:WZ X (unaryOp op) r)(ha:PE X a ta):PE X (.UnaryOp op a pos) (tUn r ta):=by
 intro aA s Y H Q I h;exact UnaryOp_ (OA (ha aA s Y H _ I h) λv s1 hz=>(by obtain⟨x,H1,I1,r1,q1⟩:=hz;exact ho aA s1 Y H1 x v Q I1 r1 q1))
def sT{g:Int->Int->Int}
  (rule:∀(i j:Int) (t u:kF) (s:qA) (Q:cA->qA->Prop) (E:cA->qA->Prop),C i j->Q (.int (g i j) s.toks) { s with toks:=s.toks+1 }->nA (model X.prog X.w) X.A (f (.int i t) (.int j u)) Q E s) :
  yC X f (rI C λi j=>.int (g i j)):=by
 intro aA s Y H x y v u Q I rx ry h;obtain⟨i,j,rfl,rfl,hc,q⟩:=h;obtain⟨t,rfl⟩:=rx;obtain⟨t',rfl⟩:=ry;exact rule i j t t' s _ _ hc ⟨.int (g i j),H,I.tok _,⟨_,rfl⟩,q⟩
def X8{g:Int->Int->Int}
  (rule:∀(i j:Int) (t u:kF) (s:qA) (Q:cA->qA->Prop) (E:cA->qA->Prop),Q (.int (g i j) s.toks) { s with toks:=s.toks+1 }->nA (model X.prog X.w) X.A (f (.int i t) (.int j u)) Q E s) :
  yC X f (gK λi j=>.int (g i j)):=by
 intro aA s Y H x y v u Q I rx ry h;obtain⟨i,j,rfl,rfl,q⟩:=h;obtain⟨t,rfl⟩:=rx;obtain⟨t',rfl⟩:=ry;exact rule i j t t' s _ _ ⟨.int (g i j),H,I.tok _,⟨_,rfl⟩,q⟩
def jX{g:Int->Int->Bool}
  (rule:∀(i j:Int) (t u:kF) (s:qA) (Q:cA->qA->Prop) (E:cA->qA->Prop),Q (.bool (g i j)) s->nA (model X.prog X.w) X.A (f (.int i t) (.int j u)) Q E s) :
  yC X f (gK λi j=>.bl (g i j)):=by
 intro aA s Y H x y v u Q I rx ry h;obtain⟨i,j,rfl,rfl,q⟩:=h;obtain⟨t,rfl⟩:=rx;obtain⟨t',rfl⟩:=ry;exact rule i j t t' s _ _ ⟨.bl (g i j),H,I,rfl,q⟩
def Nd(i j:Int):Prop:=0<=j/\j<=1000000/\i.natAbs<2 ^ 64
def CZ(i j:Int):Prop:=(-(2 ^ 64)<i/\i<2 ^ 64)\/(-(2 ^ 64)<j/\j<2 ^ 64)
def CZ.ok(h:CZ i j):IntMulOk i j:=by
 rcases h with ⟨h1,h2⟩ | ⟨h1,h2⟩
 ·exact .of_left (intBits_le_64 h1 h2)
 ·exact .of_right (intBits_le_64 h1 h2)
def h1a(k:Nat):(0:Int)<=2 ^ k:=by
 rw[two_pow_cast];exact Int.natCast_nonneg _
def wOa:yC X (gF .Add) (gK λi j=>.int (i+j)):=X8 λ_ _ _ _ _ _ _ q=>add_int q
def oPa:yC X (gF .Sub) (gK λi j=>.int (i-j)):=X8 λ_ _ _ _ _ _ _ q=>sub_int q
def jPa:yC X (gF .Mult) (rI CZ λi j=>.int (i*j)):=sT λ_ _ _ _ _ _ _ hc q=>mul_int q hc.ok
def iPa:yC X (gF .Mod) (rI (λ_ j=>0<j) λi j=>.int (i % j)):=sT λi j _ _ _ _ _ hc q=>by
 have h1:(0:Int)<j:=hc;exact mod_int' (by lia) (by rw[Int.fmod_eq_emod_of_nonneg i (by lia)];exact q)
def mPa:yC X (gF .LShift) (rI Nd λi j=>.int (i*2 ^ j.toNat)):=sT λ_ _ _ _ _ _ _ hc q=>lshift_int_small hc.1 hc.2.1 hc.2.2 q
def nPa:yC X (gF .RShift) (rI (λ_ j=>0<=j) λi j=>.int (i / 2 ^ j.toNat)):=sT λi j _ _ _ _ _ hc q =>
 rshift_int hc (by rw[mq i (h1a _)];exact q)
def xOa:yC X (gF .BitAnd) (gK λi j=>.int (wU i j)):=X8 λ_ _ _ _ _ _ _ q=>and_int q
def unI{g:Int->Int}
  (rule:∀(i:Int) (t:kF) (s:qA) (Q:cA->qA->Prop) (E:cA->qA->Prop),Q (.int (g i) s.toks) { s with toks:=s.toks+1 }->nA (model X.prog X.w) X.A (f (.int i t)) Q E s) :
  WZ X f (rU λi=>.int (g i)):=by
 intro aA s Y H x v Q I rx h;obtain⟨i,rfl,q⟩:=h;obtain⟨t,rfl⟩:=rx;exact rule i t s _ _ ⟨.int (g i),H,I.tok _,⟨_,rfl⟩,q⟩
def m1a:WZ X (unaryOp .USub) (rU λi=>.int (-i)):=unI λ_ _ _ _ _ q=>neg_int q
end
section
variable{pos:MB}
def kg(I:eA X aA Y H s)(q:Q (.bl k) H)(e:k=k'):EP X aA Y Q (.bool k') s:=by
 subst e;exact⟨.bl k,H,I,rfl,q⟩
def hPa:yC X (bE .Lt) (gK λi j=>.bl (decide (i<j))):=jX λ_ _ _ _ _ _ _ q=>xt q
def fPa:yC X (bE .LtE) (gK λi j=>.bl (decide (i<=j))):=jX λ_ _ _ _ _ _ _ q=>Qc q
def dPa:yC X (bE .Gt) (gK λi j=>.bl (decide (j<i))):=jX λ_ _ _ _ _ _ _ q=>gt_int q
def cPa:yC X (bE .GtE) (gK λi j=>.bl (decide (j<=i))):=jX λ_ _ _ _ _ _ _ q=>ge_int q
def ePa:yC X (bE .Is) (λx y H Q=>y=.lA/\Q (.bl (decide (x=.lA))) H):=by
 intro aA s Y H x y v u Q I rx ry h;obtain⟨rfl,q⟩:=h;cases ry;refine is_none_gen (kg I q ?_)
 cases x<;>first
  | (cases rx;rfl)
  | (obtain⟨t,rfl⟩:=rx;rfl)
def kPa:yC X (bE .IsNot) (λx y H Q=>y=.lA/\Q (.bl (!decide (x=.lA))) H):=by
 intro aA s Y H x y v u Q I rx ry h;obtain⟨rfl,q⟩:=h;cases ry;refine isnot_none_gen (kg I q ?_)
 cases x<;>first
  | (cases rx;rfl)
  | (obtain⟨t,rfl⟩:=rx;rfl)
def vQa(ho:yC X (bE op) r)(ha:PE X a ta)(hb:PE X b tb)(hm:rK op b=false):PE X (.Compare a [op] [b] pos) (fU r ta tb):=by
 intro aA s Y H Q I h;exact wpAny_Compare1 (B1 ha hb I h λv u s2 x y H2 I2 rx ry q=>ho aA s2 Y H2 x y v u Q I2 rx ry q) hm
def ip(t:TE):TT:=λY H Q=>t Y H λx H'=>∃k,x=.bl k/\Q k H'
def aUa(ho:yC X (bE op) r)(ha:PE X a ta)(hb:PE X b tb)(hm:rK op b=false):PT X (.Compare a [op] [b] pos) (ip (fU r ta tb)):=by
 intro aA s Y H Q I h
 refine wpAny_isTrue_Compare1 (OA (ha aA s Y H _ I h) λv s1 ⟨x,H1,I1,r1,q1⟩=>OA (hb aA s1 Y H1 _ I1 q1) λu s2 ⟨y,H2,I2,r2,q2⟩ =>
  OA (ho aA s2 Y H2 x y v u _ I2 r1 r2 q2) λc s3 ⟨z,H3,I3,r3,k,e,q3⟩=>?_) hm
 subst e;cases r3;exact GL ⟨H3,I3,q3⟩
def Qa(r r':R2)(ta tb tc:TE):TE:=λY H Q=>ta Y H λx H1=>tb Y H1 λy H2=>r x y H2 λz H3=>∃k,z=.bl k /\
 (if k=true then tc Y H3 λw' H4=>r' y w' H4 Q else Q (.bl false) H3)
def uQa(ho:yC X (bE op) r)(HG:yC X (bE mC) r')(ha:PE X a ta)(hb:PE X b tb)(hc:PE X c tc)
  (hm:lastMarks [op,mC] [b,c]=false:=by with_unfolding_all rfl):PE X (.Compare a [op,mC] [b,c] pos) (Qa r r' ta tb tc):=by
 intro aA s Y H Q I h
 refine Compare_chain (OA (ha aA s Y H _ I h) λv s1 ⟨x,H1,I1,r1,q1⟩=>chain_link (OA (hb aA s1 Y H1 _ I1 q1) λu s2 ⟨y,H2,I2,r2,q2⟩ =>
  OA (ho aA s2 Y H2 x y v u _ I2 r1 r2 q2) λd s3 ⟨z,H3,I3,r3,k,e,q3⟩=>?_)) hm
 subst e;cases r3;refine GL ?_
 cases k with
 |false=>exact ite_ff ⟨.bl false,H3,I3,rfl,q3⟩
 |true=>exact ite_tt (chain_last (OA (hc aA s3 Y H3 _ I3 q3) λw' s4 hz=>(by obtain⟨z',H4,I4,r4,q4⟩:=hz;exact HG aA s4 Y H4 y z' u w' Q I4 r2 r4 q4)))
def zTa(ho:yC X (bE op) r)(HG:yC X (bE mC) r')(ha:PE X a ta)(hb:PE X b tb)(hc:PE X c tc)
  (hm:lastMarks [op,mC] [b,c]=false:=by with_unfolding_all rfl):PT X (.Compare a [op,mC] [b,c] pos) (ip (Qa r r' ta tb tc)):=by
 intro aA s Y H Q I h
 refine isTrue_chain (OA (ha aA s Y H _ I h) λv s1 ⟨x,H1,I1,r1,q1⟩=>test_link (OA (hb aA s1 Y H1 _ I1 q1) λu s2 ⟨y,H2,I2,r2,q2⟩ =>
  OA (ho aA s2 Y H2 x y v u _ I2 r1 r2 q2) λd s3 ⟨z,H3,I3,r3,k,e,q3⟩=>?_)) hm
 subst e;cases r3;refine GL ?_
 cases k with
 |false =>
  obtain⟨k',e',q'⟩:=q3;cases e';exact ite_ff ⟨H3,I3,q'⟩
 |true =>
  refine ite_tt (test_last (OA (hc aA s3 Y H3 _ I3 q3) λw' s4 ⟨z',H4,I4,r4,q4⟩=>OA (HG aA s4 Y H4 y z' u w' _ I4 r2 r4 q4) λd' s5 hz=>?_));obtain⟨z2,H5,I5,r5,k2,e2,q5⟩:=hz;subst e2;cases r5;exact GL ⟨H5,I5,q5⟩
def WU(K:gA)(x:V)(H:Hp)(k:Bool):Prop :=
 match x with
 |.lA=>k=false
 |.bl b=>k=b
 |.int i=>k=(i != 0)
 |.str y=>y.length<=sizeLine/\k=((y.length:Int) != 0)
 |.ref p=>(∃xs,EB K H p xs/\k=!xs.isEmpty)\/(∃xs,sC K H p xs/\k=!xs.isEmpty)\/∃iC,H p=some (.dK iC)/\k=!iC.isEmpty
 |_=>False
def wEa(r:KV iC vs):(!vs.isEmpty)=!iC.isEmpty:=by
 cases r<;>rfl
def ai(r:aAc xs dA):(!dA.toArray.isEmpty)=!xs.isEmpty:=by
 cases r<;>simp
def eO:(sizeLine:Nat)<2 ^ 63:=by rw[dP];decide
def xp:nv X (λx H Q=>∃k,WU X.K x H k/\Q k H):=by
 intro aA s Y H x v Q I rx h;obtain⟨k,e,q⟩:=h;have hl:=eO;have hs:sizeLine=16777216:=dP
 cases x with
 |lA =>
  cases rx;have e':k=false:=e;subst e';exact truthy_none ⟨H,I,q⟩
 |bl b =>
  cases rx;have e':k=b:=e;subst e';exact GL ⟨H,I,q⟩
 |int i =>
  obtain⟨t,rfl⟩:=rx;have e':k=(i != 0):=e;subst e';exact PySem.P.truthy_int ⟨H,I,q⟩
 |str y =>
  obtain⟨t,rfl⟩:=rx;obtain⟨hy,e'⟩:y.length<=sizeLine/\k=((y.length:Int) != 0):=e;subst e';exact PySem.P.truthy_str (by lia) ⟨H,I.tok _,q⟩
 |ref p =>
  cases rx;have e':(∃xs,EB X.K H p xs/\k=!xs.isEmpty)\/(∃xs,sC X.K H p xs/\k=!xs.isEmpty)\/∃iC,H p=some (.dK iC)/\k=!iC.isEmpty:=e
  rcases e' with ⟨xs,hx,e'⟩ | ⟨xs,hx,e'⟩ | ⟨iC,hx,e'⟩
  ·subst e';obtain⟨dA,r,pl,hz⟩:=I.list hx;have AB:=r.length;exact wpAny_truthy_list pl.isList (by simp only[mD];lia) ⟨H,I.tok _,by rw[ai r];exact q⟩
  ·subst e';obtain⟨dA,r,pl,hz⟩:=I.tuple hx;have AB:=r.length;exact truthy_tuple pl (by simp only[mD];lia) ⟨H,I.tok _,by rw[ai r];exact q⟩
  ·subst e';obtain⟨hz,hS,vs,r,m⟩:iC.length<=sizeLine/\(p==sysModules)=false/\∃vs,KV iC vs/\s.heap.DictOf (zQ X.prog X.w) p vs:=I.KA p _ hx
   have AB:iC.length=vs.length:=bt r;exact wpAny_truthy_dict hS m (by lia) ⟨H,I.tok _,by rw[wEa r];exact q⟩
 |_=>exact(show False from e).elim
def fm(ha:PE X a ta)(he:∀whole,isTrue a X.env whole=(do let v <- whole;standAt a.pos;holding [v] (truthy v))) :
  PT X a (λY H Q=>ta Y H λx H'=>∃k,WU X.K x H' k/\Q k H'):=by
 intro aA s Y H Q I h;exact isTrue_plain (OA (ha aA s Y H _ I h) λv s1 hz=>(by obtain⟨x,H1,I1,r1,q1⟩:=hz;exact xp aA s1 Y H1 x v Q I1 r1 q1)) (he _)
def aAy(r:aAc [x] us):∃u,us=[u]/\aAe x u:=by
 cases r with
 |cons r1 r2=>cases r2;exact⟨_,rfl,r1⟩
def aAF(r:aAc [x,y] us):∃u w',us=[u,w']/\aAe x u/\aAe y w':=by
 cases r with
 |cons r1 r2 =>
  cases r2 with
  |cons r3 r4=>cases r4;exact⟨_,_,rfl,r1,r3⟩
def Qx:FF X (.builtin "abs") (λxs H Q=>∃i,xs=[.int i]/\Q (.int (if i<0 then -i else i)) H):=by
 intro aA s Y H xs us Q I r h;obtain⟨i,rfl,q⟩:=h;obtain⟨u,rfl,t,rfl⟩:=aAy r;exact call_abs_int λu tk=>⟨.int (if i<0 then -i else i),H,I.tok _,⟨_,rfl⟩,q⟩
def Vx(hc:X.calm=true):FF X (.builtin "max") (λxs H Q=>∃i j,xs=[.int i,.int j]/\Q (.int (if j > i then j else i)) H):=by
 intro aA s Y H xs us Q I r h;obtain⟨i,j,rfl,q⟩:=h;obtain⟨u,w',rfl,⟨t,rfl⟩,⟨t',rfl⟩⟩:=aAF r;refine max_two_ints (I.ok.hd hc) λh' tk k=>⟨_,H,I.kept k, ?_,q⟩
 by_cases hj:j > i
 ·rw[GA hj,GA hj];exact⟨_,rfl⟩
 ·rw[LA hj,LA hj];exact⟨_,rfl⟩
def Yx(hc:X.calm=true):FF X (.builtin "min") (λxs H Q=>∃i j,xs=[.int i,.int j]/\Q (.int (if j<i then j else i)) H):=by
 intro aA s Y H xs us Q I r h;obtain⟨i,j,rfl,q⟩:=h;obtain⟨u,w',rfl,⟨t,rfl⟩,⟨t',rfl⟩⟩:=aAF r;refine min_two_ints (I.ok.hd hc) λh' tk k=>⟨_,H,I.kept k, ?_,q⟩
 by_cases hj:j<i
 ·rw[GA hj,GA hj];exact⟨_,rfl⟩
 ·rw[LA hj,LA hj];exact⟨_,rfl⟩
def bf:FF X (.type "int") (λxs H Q=>(∃i,xs=[.int i]/\Q (.int i) H)\/∃k,xs=[.bl k]/\Q (.int (if k then 1 else 0)) H):=by
 intro aA s Y H xs us Q I r h;rcases h with ⟨i,rfl,q⟩ | ⟨k,rfl,q⟩
 ·obtain⟨u,rfl,t,rfl⟩:=aAy r;exact call_int_int ⟨.int i,H,I,⟨_,rfl⟩,q⟩
 ·obtain⟨u,rfl,r1⟩:=aAy r;cases r1;exact call_int_bool ⟨.int (if k then 1 else 0),H,I.tok _,⟨_,rfl⟩,q⟩
end
structure uN(h:jB)(x dx C:fA)(mA:bA->Option cA):Prop where
 obj:h.get? x=some (dN C dx)
 ns:h.Ns1 dx mA
 ne:dx≠x
def tJa{h:jB}(n:h.Ns1 dx mA):∃od,h.get? dx=some od/\∀name,aZ name od=some (mA name):=by
 obtain⟨o,es,ep,ho,hd,hk,_,hm⟩:=n;refine⟨o,ho,λname=>?_⟩;have e:=hm name;unfold nsFind findBy at e;rw[<- Array.find?_toList] at e;unfold aZ;rw[hd];dsimp only;split
 ·rename_i y q;rw[q] at e;exact congrArg some e
 ·rename_i q;rw[q] at e
  have a:es.toList.any (·.refKey)=false:=by(rw[Dr];intro y hy;obtain⟨z,t,hCa⟩:=hk y (HY.mp hy);simp[DictEntry.refKey,hCa])
  have a':¬es.toList.any (·.refKey)=true:=by rw[a];exact SD
  rw[LA a'];exact congrArg some e
def uN.look(I:uN h x dx C mA):∃od,PySem.W.InstAt h x (dN C dx) C (some od)/\∀name,aZ name od=some (mA name) :=
 let ⟨od,ho,hl⟩:=tJa I.ns
 ⟨od,⟨I.obj,rfl,rfl,ho⟩,hl⟩
section
variable{K:gA}
def aAY(X:K.In s.heap)(I:uN s.heap x dx C mA)(hg:lR K C name=true)(hh:uU K C=true)
  (ha:DF K (.ref C) name=some none) (hv:mA name=some v) (hv':Xr v=true) (h:Q v { s with toks:=s.toks+1 }) :
  nA (model prog w) A (getAttr (.ref x) name expr) Q E s:=by
 obtain⟨od,J,hl⟩:=I.look;exact PySem.W.get_value X J (dc hg).1 (PySem.W.findObj_own hh ha rfl (by rw[hl,hv])) hv' h
def lAa(X:K.In s.heap)(I:uN s.heap x dx C mA)(hg:lR K C name=true)
  (hf:DF K (.ref C) name=some (some (.ref f))) (ht:GU K (.ref f)=true) (hv:mA name=none) (h:Q (.ref f,[.ref x]) s) :
  nA (model prog w) A (getMethod (.ref x) name pl) Q E s:=by
 obtain⟨od,J,hl⟩:=I.look;exact PySem.W.method_fn X J (dc hg).1 (dc hg).2 hf (vJ.mp ht) (by show(aZ name od).map (·.isSome)=some false;rw[hl,hv];rfl) h
def iXa(X:K.In s.heap)(I:uN s.heap x dx C mA)
  (hs:DF K (.ref C) "__setattr__"=some (some (.builtin "object.__setattr__"))) (hp:Bc K C=true) (ht:Mc K C name=some none) (hh:uU K C=true)
  (hw:sd mA ns) (qB:ns.length<=sizeLine)
  (h:∀h',uN h' x dx C (λy=>if y=name then some v else mA y)->xH dx s.heap h'->Q () { s with heap:=h',toks:=s.toks+2 }) :
  nA (model prog w) A (setAttr (.ref x) name v) Q E s:=by
 obtain⟨od,J,hl⟩:=I.look;refine PySem.W.set_plain X J hs (PySem.W.osa_open (s:={ s with toks:=s.toks+1 }) (r:=none) X J hp ht λb=>?_);obtain⟨cd,hc,LF⟩:=PySem.W.any_some hh;have hx:s.heap.get? x=some ⟨.ref C,some dx,.plain,#[]⟩:=I.obj;refine kA (SA (kA (kA (wpAny_loadPart hx (kA (PySem.W.Looks.here (s:={ s with toks:=s.toks+1 }) (PySem.W.looks_clsIn X hc) ?_))))));rw[LF];refine SA (a:=some dx) (kA (SA (kA ?_)));refine wpAny_nsSet1 (s:={ s with toks:=s.toks+1 }) I.ns λh' lW qF=>?_
 obtain⟨oD,esD,epD,hoD,hdD,hcD⟩:=lW.count (PySem.Within.cons name v hw);refine kA (wpAny_lookBehind hoD (by rw[hdD];exact pastItsLine_dict (XC hcD (by rw[QC];lia))) ?_);exact SA (h _ ⟨(qF.2 _ (hE I.ne)).trans I.obj,lW,I.ne⟩ qF)
def eKa(X:K.In s.heap)(hm:UY K C=true)
  (hi:DF K (.ref C) "__init__"=some (some (.ref f))) (hf:PySem.W.typeIn K (.ref f)=some (.type "function"))
  (h:BK (model prog w) (A.under (.builtin "type.__call__" ⟨.ref C::vs,kw⟩)) (.call (.ref f) ⟨.ref (s.heap.objs.size+1)::vs,kw⟩) (PySem.W.InitBack (s.heap.objs.size+1) R)
   { s with heap:=(s.heap.push HL).push (dN C s.heap.objs.size) }) :
  BK (model prog w) A (.call (.ref C) ⟨vs,kw⟩) R s:=by
 obtain⟨hh,g,d,t,os⟩:=s;exact PySem.W.make_core (PySem.W.makes_of X hm) (PySem.W.looks_findIn X hi) (λself=>PySem.W.bind_fn X self hf) (.inl rfl) h
end
noncomputable def vF(f:bA)(v:V):List (bA×V)->List (bA×V)
 |[]=>[(f,v)]
 | (g,x)::r=>if g=f then(g,v)::r else(g,x)::vF f v r
theorem Rj(f g:bA)(v:V):∀fs:List (bA×V),(vF f v fs).lookup g=if g=f then some v else fs.lookup g
 |[]=>by
  show vK g [(f,v)]=_;by_cases h:g=f
  ·have hb:(g==f)=true:=vJ.mpr h;simp only[vK,hb,GA h]
  ·have hb:(g==f)=false:=LO.mpr h;simp only[vK,hb,LA h]
 | (k,x)::r=>by
  have ih:=Rj f g v r;rw[show vF f v ((k,x)::r)=(if k=f then(k,v)::r else(k,x)::vF f v r) from rfl];by_cases hk:k=f
  ·rw[GA hk];by_cases h:g=k
   ·have hb:(g==k)=true:=vJ.mpr h;simp only[vK,hb,GA (h.trans hk)]
   ·have hb:(g==k)=false:=LO.mpr h;simp only[vK,hb,LA (λe:g=f=>h (e.trans hk.symm))]
  ·rw[LA hk];by_cases h:g=k
   ·have hb:(g==k)=true:=vJ.mpr h;simp only[vK,hb,LA (λe:g=f=>hk (h.symm.trans e))]
   ·have hb:(g==k)=false:=LO.mpr h;simp only[vK,hb];exact ih
theorem x8(f:bA)(v:V):∀fs:List (bA×V),f∈(vF f v fs).map (·.1)/\∀g,g∈fs.map (·.1)->g∈(vF f v fs).map (·.1)
 |[]=>⟨by simp[vF],λg h=>by simp at h⟩
 | (k,x)::r=>by
  obtain⟨i1,i2⟩:=x8 f v r;rw[show vF f v ((k,x)::r)=(if k=f then(k,v)::r else(k,x)::vF f v r) from rfl];by_cases hk:k=f
  ·rw[GA hk];subst hk;exact⟨by simp,λg h=>by simpa using h⟩
  ·rw[LA hk];refine⟨?_,λg h=>?_⟩
   ·rw[KC];exact fD _ i1
   ·rw[KC] at h ⊢;rcases wD.mp h with e | e
    ·exact wD.mpr (.inl e)
    ·exact fD _ (i2 g e)
theorem Ij(f:bA)(v:V):∀fs:List (bA×V),(vF f v fs).length<=fs.length+1
 |[]=>by simp[vF]
 | (k,x)::r=>by
  have ih:=Ij f v r;rw[show vF f v ((k,x)::r)=(if k=f then(k,v)::r else(k,x)::vF f v r) from rfl];by_cases hk:k=f
  ·rw[GA hk,QC,QC];lia
  ·rw[LA hk,QC,QC];lia
def aH.some_of(r:aH (some v) o):∃u,o=some u/\aAe v u:=by
 cases o with
 |none=>exact(show False from r).elim
 |some u=>exact⟨u,rfl,r⟩
def aH.none_of(r:aH none o):o=none:=by
 cases o with
 |none=>rfl
 |some u=>exact(show False from r).elim
def fBa(r:aAe v u):Xr u=true:=by
 cases v with
 |lA=>cases (show u=Value.none from r);rfl
 |bl b=>cases (show u=Value.bool b from r);rfl
 |int i=>obtain⟨t,e⟩:=(show ∃t,u=Value.int i t from r);cases e;rfl
 |str x=>obtain⟨t,e⟩:=(show ∃t,u=Value.str x t from r);cases e;rfl
 |ref a=>cases (show u=Value.ref a from r);rfl
 |ty n=>cases (show u=Value.type n from r);rfl
section
variable{fs aQ:List (bA×V)}
def d7(KA:yD P w H h)(e:H a=some (.ins C dx fs)):∃mA,uN h a dx C mA/\(∀f,aH (fs.lookup f) (mA f))/\sd mA (fs.map (·.1))/\fs.length<=1000/\H dx=some (.own a):=by
 obtain⟨d,z,ne,ob,mA,n,r,q⟩:=(show nD P w H h a (.ins C dx fs) from KA a _ e)
 exact⟨mA,⟨ob,n,ne⟩,r,q,z,d⟩
end
structure yG(K:gA)(C:fA):Prop where
 pg:lR K C Str.empty=true
 hd:uU K C=true
 po:Bc K C=true
 sa:DF K (.ref C) "__setattr__"=some (some (.builtin "object.__setattr__"))
def yG.get{K:gA}(c:yG K C)(f:bA):lR K C f=true:=c.pg
def cM(K:gA)(C:fA)(f:bA):Prop:=DF K (.ref C) f=some none
def cM.h0a{K:gA}(n:cM K C f):Mc K C f=some none:=by
 unfold Mc;rw[show DF K (.ref C) f=some none from n];rfl
structure Meth(K:gA)(C:fA)(m:bA)(f:fA):Prop where
 at_:DF K (.ref C) m=some (some (.ref f))
 fn:GU K (.ref f)=true
 kp:UG K (.ref f)=true
section
variable{E:cA->qA->Prop}
def mAa(I:eA X aA Y H s)(e:H a=some (.ins C dx fs))(c:yG X.K C)(n:cM X.K C f)(l:fs.lookup f=some v)
  (h:∀u s',eA X aA Y H s'->aAe v u->Q u s'):nA (model X.prog X.w) A (getAttr (.ref a) f b) Q E s:=by
 obtain⟨mA,O,r,_,_,_⟩:=d7 I.KA e;obtain⟨u,hu,ru⟩:=aH.some_of (o:=mA f) (by rw[<- l];exact r f);exact aAY I.WD O (c.get f) c.hd n hu (fBa ru) (h u _ (I.tok _) ru)
def Fg(I:eA X aA Y H s)(e:H a=some (.ins C dx fs))(c:yG X.K C)(k:Meth X.K C m g)(l:fs.lookup m=none)
  (h:Q (.ref g,[.ref a]) s):nA (model X.prog X.w) A (getMethod (.ref a) m pl) Q E s:=by
 obtain⟨mA,O,r,_,_,_⟩:=d7 I.KA e;have hn:mA m=none:=aH.none_of (by rw[<- l];exact r m);exact lAa I.WD O (c.get m) k.at_ k.fn hn h
def jXa(I:eA X aA Y H s)(e:H a=some (.ins C dx fs))(c:yG X.K C)(n:cM X.K C f)(hl:fs.length<1000)(ry:aAe y u)
  (h:∀s',eA X aA Y (CA H a (.ins C dx (vF f y fs))) s'->Q () s'):nA (model X.prog X.w) A (setAttr (.ref a) f u) Q E s:=by
 obtain⟨mA,O,r,wi,_,ho⟩:=d7 I.KA e;have hz:(fs.map (·.1)).length<=sizeLine:=by rw[EA,dP];lia
 refine iXa I.WD O c.sa c.po n.h0a c.hd wi hz λh' O' sb=>h _ ?_
 have hd:∃o,h'.get? dx=some o:=let ⟨o,_,_,e',_⟩:=O'.ns;⟨o,e'⟩
 refine I.write (x:=a) (e:=dx) (by rw[e];exact True.intro) (.inr ho) (λb q hb z=>(sb.2 b hb).trans z) hd ?_;refine⟨by rw[rB O.ne];exact ho, ?_,O.ne,O'.obj,_,O'.ns,λg=>?_,λg hg=>?_⟩
 ·have:=Ij f y fs;lia
 ·show aH ((vF f y fs).lookup g) (if g=f then some u else mA g);rw[Rj];by_cases q:g=f
  ·rw[GA q,GA q];exact ry
  ·rw[LA q,LA q];exact r g
 ·by_cases q:g=f
  ·rw[q];exact(x8 f y fs).1
  ·refine(x8 f y fs).2 g (wi g λz=>hg ?_);show(if g=f then some u else mA g)=none;rw[LA q];exact z
def eA.made(I:eA X aA Y H s):eA X aA Y (CA (CA H s.heap.objs.size (.own (s.heap.objs.size+1))) (s.heap.objs.size+1) (.ins C s.heap.objs.size []))
  { s with heap:=(s.heap.push HL).push (dN C s.heap.objs.size) }:=by
 have e1:(s.heap.push HL).get? s.heap.objs.size=some HL:=iE s.heap rfl
 have e2:((s.heap.push HL).push (dN C s.heap.objs.size)).get? (s.heap.objs.size+1)=some (dN C s.heap.objs.size):=by
  have:=iE (s.heap.push HL) (o:=dN C s.heap.objs.size) rfl
  rwa[CU] at this
 have e3:(s.heap.push HL).Ns s.heap.objs.size (λ_=>none):=⟨HL,#[],_,e1,rfl,(λe he=>absurd he (by simp)),λ_=>rfl⟩
 have I1:=I.laid (a:=s.heap.objs.size) (o:=.own (s.heap.objs.size+1)) (h':=s.heap.push HL) (t':=s.toks) (λb u q=>wC _ q) (mB _) ⟨_,e1⟩;refine I1.laid (a:=s.heap.objs.size+1) (o:=.ins C s.heap.objs.size []) (t':=s.toks) (λb u q=>wC _ q) (uK (CU _ _)) ?_;have ne:s.heap.objs.size≠s.heap.objs.size+1:=MD (FI _);refine⟨by rw[rB ne,VC],tJ _,ne,e2,λ_=>none,(Heap.Ns1.of_empty e3).at λo q=>wC _ q,λ_=>True.intro,λy hy=>absurd rfl hy⟩
def Wv(hb:attributeBase e f env (eval e env)=eval e env)
  (h:nA (model prog w) A (eval e env) (λo s₁=>nA (model prog w) A (getAttr o f true) Q E s₁) E s):nA (model prog w) A (eval (.Attribute e f pos) env) Q E s :=
 Attribute_any_ h (by rw[arm_eval_Attribute,hb])
end
def mZa(K:gA)(ta:TE)(f:bA):TE:=λY H Q=>ta Y H λx H1=>∃a C dx fs v,x=.ref a/\H1 a=some (.ins C dx fs)/\yG K C/\cM K C f/\fs.lookup f=some v/\Q v H1
def pWa(K:gA)(ta tv:TE)(f:bA):TS:=λD Y H=>tv Y H λy H1=>ta Y H1 λx H2=>∃a C dx fs,x=.ref a/\H2 a=some (.ins C dx fs)/\yG K C/\cM K C f/\fs.length<1000 /\
 D.nx Y (CA H2 a (.ins C dx (vF f y fs)))
section
variable{ta tv:TE}
def zQa(he:PE X e ta)(hb:attributeBase e f X.env (eval e X.env)=eval e X.env):PE X (.Attribute e f pos) (mZa X.K ta f):=by
 intro aA s Y H Q I h;refine Wv hb (OA (he aA s Y H _ I h) λu s1 hz=>?_);obtain⟨x,H1,I1,rx,a,C,dx,fs,v,ex,ea,c,n,l,q⟩:=hz;subst ex;obtain rfl:u=Value.ref a:=rx;exact mAa I1 ea c n l λu' s2 I2 ru=>⟨v,H1,I2,ru,q⟩
def dTa(ha:PE X o ta)(hv:PE X value tv)(hs:swapsWith value (some (.Attribute o f pos')) pos.line X.env=pure false):PS X (.Assign [.Attribute o f pos'] value pos) (pWa X.K ta tv f):=by
 intro aA s Y H D I h;refine plainObj_wpAny_Assign_Attribute (OA (hv aA s Y H _ I h) λu s1 ⟨y,H1,I1,ry,q⟩=>OA (ha aA s1 Y H1 _ I1 q) λov s2 hz=>?_) hs;obtain⟨x,H2,I2,rx,a,C,dx,fs,ex,ea,c,n,l,q2⟩:=hz;subst ex;obtain rfl:ov=Value.ref a:=rx;exact jXa I2 ea c n l ry λs3 I3=>⟨Y,_,I3,q2⟩
end
structure zC(k:Nat)(A:LD):Prop where
 hd:A.handled=none
 dp:A.depth+3*k+5<recursionLimit
 un:A.units+16*k+200<cLine
 gs:A.guards=some []
def zC.mono(r:zC k A)(h:j<=k):zC j A:=⟨r.hd,by have:=r.dp;lia,by have:=r.un;lia,by first | exact r.gs | simpa[Xc,xR,Ad,jZ,pushGuards,guardIds] using r.gs⟩
theorem zC.deeper(r:zC (k+1) A)(env:Env):zC k (A.deeper env) :=
 ⟨r.hd,by have:=r.dp;show A.depth+1+3*k+5<_;lia,by have:=r.un;show A.units+3+16*k+200<_;lia,by first | exact r.gs | simpa[Xc,xR,Ad,jZ,pushGuards,guardIds] using r.gs⟩
def dKa{A:LD}:(A.under (.builtin "type.__call__" ⟨.ref C::us,kw⟩)).depth=A.depth+1:=by
 first | rfl | simp[xR,Code.weight,Code.isCreation,jZ,Code.isCaller,Code.frames,td,guardIds]
def fKa{A:LD}:(A.under (.builtin "type.__call__" ⟨.ref C::us,kw⟩)).units=A.units+1:=by
 first | rfl | simp[xR,Code.cUnits,Code.frames,td]
def zC.make(r:zC (k+1) A)(C:fA)(us:List cA)(kw:List (bA×cA)):zC k (A.under (.builtin "type.__call__" ⟨.ref C::us,kw⟩)) :=
 ⟨r.hd,by have:=r.dp;rw[dKa];lia,by have:=r.un;rw[fKa];lia,by first | exact r.gs | simpa[Xc,xR,Ad,jZ,pushGuards,guardIds] using r.gs⟩
theorem zC.depth(r:zC k A):A.depth<recursionLimit:=by have:=r.dp;lia
theorem zC.units(r:zC k A):A.units+64<cLine:=by have:=r.un;lia
def TQ:TA:=λ_ H Q=>Q [] H
def SQ(ta:TE)(tr:TA):TA:=λY H Q=>ta Y H λx H1=>tr Y H1 λxs H2=>Q (x::xs) H2
section
variable{pos:MB}
def xT:PA X [] TQ:=λ_ _ _ _ H Q I h=>Calls.spliced_nil ⟨[],H,I,.nil,h⟩
def mO(ha:PE X e te)(hr:PA X es t)(hs:YB (e::es) X.env=(false,eval e X.env)::YB es X.env:=by rfl):PA X (e::es) (SQ te t):=by
 intro pos aA s Y H Q I h;rw[hs];show nA _ _ (spliced ((false,eval e X.env)::UE pos (YB es X.env))) _ _ s;refine Calls.spliced_cons (OA (ha aA s Y H _ I h) λu s1 hz=>?_);obtain⟨x,H1,I1,r1,q1⟩:=hz;exact OA (hr pos aA s1 Y H1 _ I1 q1) λus s2 hz=>(by obtain⟨xs,H2,I2,r2,q2⟩:=hz;exact⟨x::xs,H2,I2,.cons r1 r2,q2⟩)
def b0a(t:TA):TE:=λY H Q=>t Y H λxs H1=>xs.length<=sizeLine/\∀p,H1 p=none->Q (.ref p) (CA H1 p (.t xs))
def rZa(t:TA):TE:=λY H Q=>t Y H λxs H1=>xs.length<=sizeLine/\∀p,H1 p=none->Q (.ref p) (CA H1 p (.l xs))
def mRa{x1}(h:PA X es t):PE X (.Tuple es x1 pos) (b0a t):=by
 intro aA s Y H Q I hq;refine wpAny_Tuple_spliced (OA (h pos aA s Y H _ I hq) λus s1 ⟨xs,H1,I1,r,z,q⟩=>⟨by rw[<- r.length];exact z, ?_⟩);have hf:H1 s1.heap.objs.size=none:=I1.KA.fresh (mB _);refine⟨.ref s1.heap.objs.size,CA H1 s1.heap.objs.size (.t xs),I1.laid (t':=s1.toks) (λb u e=>wC _ e) (mB _) ?_,rfl,q _ hf⟩;exact⟨z,us,r,⟨_,iE _ rfl,rfl,_,rfl⟩⟩
def dRa(h:PA X es t):PE X (.List es pos) (rZa t):=by
 intro aA s Y H Q I hq;refine wpAny_List_spliced (OA (h pos aA s Y H _ I hq) λus s1 ⟨xs,H1,I1,r,z,q⟩=>⟨by rw[<- r.length];exact z, ?_⟩);have hf:H1 s1.heap.objs.size=none:=I1.KA.fresh (mB _);refine⟨.ref s1.heap.objs.size,CA H1 s1.heap.objs.size (.l xs),I1.laid (t':=s1.toks) (λb u e=>wC _ e) (mB _) ?_,rfl,q _ hf⟩;exact⟨z,us,0,r,iE _ rfl⟩
end
abbrev Sp:=List V->Hp->VK->XK->Prop
abbrev VL:=List Env->Hp->qA->XK->cA->qA->Prop
structure sN(P:pC)(w:NB)(K:gA)(mg:bA->Option cA)(base:jB)(A:LD)(outer:List Env)(s:qA)(H:Hp):Prop where
 frames:A.frames=some outer
 mod:Mod K mg base
 bs:∀b o,base.get? b=some o->s.heap.get? b=some o/\H b=none
 OI:base.objs.size<=s.heap.objs.size
 fG:s.heap.FunFrames base outer
 OJ:∀b∈VD outer,H b=none
 KA:yD P w H s.heap
 bare:AK s.gens
def CE(outer:List Env)(P:pC)(w:NB)(H:Hp)(s:qA)(Q:VK)(u:cA)(s':qA):Prop :=
 ∃v H',s'.os=s.os/\AK s'.gens/\Un (VD outer) [] H H' s.heap s'.heap/\yD P w H' s'.heap/\aAe v u/\Q v H'
def CR(CX:VL)(outer:List Env)(P:pC)(w:NB)(H:Hp)(s:qA)(Q:VK)(E:XK)(r:Result)(s':qA):Prop :=
 match r with
 |.ok (.ret u)=>CE outer P w H s Q u s'
 |.ok _=>False
 |.error e=>CX outer H s E e s'
structure sE(P:pC)(w:NB)(K:gA)(mg:bA->Option cA)(base:jB)(CX:VL)(k:Nat)(f:fA)(fd:QG)(ps:List bA)(sp:Sp):Prop where
 len:∀vs H Q E,sp vs H Q E->vs.length=ps.length
 run:∀(A:LD) (outer:List Env) (s:qA) (H:Hp) (args:Args) (us:List cA) (vs:List V) (Q:VK) (E:XK),zC k A->sN P w K mg base A outer s H->AZ s fd args (ps.zip us)->aAc vs us->sp vs H Q E ->
  BK (model P w) A (.call (.ref f) args) (CR CX outer P w H s Q E) s
def sN.make{K:gA}(e:sN P w K mg base A outer s H)(C:fA)(us:List cA)(kw:List (bA×cA)) :
  sN P w K mg base (A.under (.builtin "type.__call__" ⟨.ref C::us,kw⟩)) outer s H:=⟨by first | exact e.frames | (simpa[xR,Code.envs,td,pushEnvs] using e.frames),e.mod,e.bs,e.OI,e.fG,e.OJ,e.KA,e.bare⟩
section
variable{X:Cx}{aA:List (fA×nB)}{Y:St}{H:Hp}{s s':qA}
def eA.jI(I:eA X aA Y H s):sN X.prog X.w X.K X.mg X.base X.A X.stack s H :=
 ⟨I.ok.frames,I.ok.mod,I.bs,XC I.ok.OI I.sz,I.stack,I.ya,I.KA,I.bare⟩
def eA.after(I:eA X aA Y H s)(h:CE X.stack X.prog X.w H s Q u s'):EP X aA Y Q u s':=by
 obtain⟨v,H',os,bare,un,KA,r,q⟩:=h;obtain⟨hh,g,d,t,os'⟩:=s';obtain rfl:os'=s.os:=os;exact⟨v,H',I.call (h':=hh) (g':=g) (d':=d) (t':=t) (ch:=[]) un KA bare (λb z=>absurd z (by simp)),r,q⟩
end
def hZa(sp:Sp)(vE:List V)(E:XK)(t:TA):TE:=λY H Q=>t Y H λvs H1=>sp (vs++vE) H1 Q E
def Va(C:fA)(m:bA)(sp:Sp)(vE:List V)(E:XK)(ta:TE)(t:TA):TE:=λY H Q=>ta Y H λx H1=>∃a dx fs,x=.ref a/\H1 a=some (.ins C dx fs)/\fs.lookup m=none /\
 t Y H1 λvs H2=>sp (x::(vs++vE)) H2 Q E
def sZa(C:fA)(sp:Sp)(vE:List V)(E:XK)(t:TA):TE:=λY H Q=>t Y H λvs H1=>∀x dx,H1 x=none->H1 dx=none->dx≠x ->
 sp (.ref x::(vs++vE)) (CA (CA H1 dx (.own x)) x (.ins C dx [])) (λv H2=>v=.lA/\Q (.ref x) H2) E
def aAu(K:gA)(fd:QG)(ps:List bA)(ds:List cA):Prop :=
 ∀(s:qA) (us:List cA),K.In s.heap->(us++ds).length=ps.length->AZ s fd ⟨us,[]⟩ (ps.zip (us++ds))
def aAu.all{K:gA}(h:∀us:List cA,us.length=ps.length->bindArgs fd ⟨us,[]⟩=pure (ps.zip us)):aAu K fd ps []:=λs us _ hl=>by
 rw[JC] at hl ⊢;exact .of_eq (h us hl)
def aAC(CX:VL)(X:Cx)(E:XK):Prop:=∀(aA:List (fA×nB)) (Y:St) (H:Hp) (s:qA) (e:cA) (s':qA),eA X aA Y H s->CX X.stack H s E e s'->X.xe e s'
section
variable{X:Cx}{CX:VL}{k:Nat}{f C:fA}{fd:QG}{ps:List bA}{sp:Sp}{vE:List V}{ds:List cA}{E:XK}{x m:bA}{p pos OB:MB}{e o:vA}{es:List vA}{ta:TE}{t:TA}
def J9(F:sE X.prog X.w X.K X.mg X.base CX k f fd ps sp)(hr:zC k X.A)(hb:aAu X.K fd ps ds)(hd:aAc vE ds)(hx:aAC CX X E)
  (I:eA X aA Y H s) (r:aAc vs us) (h:sp (vs++vE) H Q E):nA (model X.prog X.w) X.A (call (.ref f) us) (EP X aA Y Q) X.xe s:=by
 have r2:aAc (vs++vE) (us++ds):=r.append hd;have hl:(us++ds).length=ps.length:=by rw[<- r2.length];exact F.len _ _ _ _ h
 refine wZ (bP (F.run X.A X.stack s H ⟨us,[]⟩ (us++ds) (vs++vE) Q E hr I.jI (hb s us I.WD hl) r2 h) λr s' hq=>?_)
 cases r with
 |error e=>exact hx aA Y H s e s' I hq
 |ok fl =>
  cases fl with
  |ret u=>exact I.after hq
  |next=>exact uG hq
  |brk=>exact uG hq
  |cont=>exact uG hq
def sQa(F:sE X.prog X.w X.K X.mg X.base CX k f fd ps sp)(hr:zC k X.A)(hg:Gl X x)(hm:X.mg x=some (.ref f))(hk:UG X.K (.ref f)=true)(hb:aAu X.K fd ps ds)(hd:aAc vE ds)(hx:aAC CX X E)
  (ha:PA X (e::es) t) (aJ:(x==("__debug__":bA))=false:=by decide) (he:YB (e::es) X.env=(false,eval e X.env)::YB es X.env:=by rfl) (MF:(UE pos (YB es X.env)).any (·.1)=false:=by rfl) :
  PE X (.Call (.Name x p) (e::es) [] pos) (hZa sp vE E t):=by
 intro aA s Y H Q I h;refine gR (xQ I hg hm ?_ aJ);refine LY (h₀:=X.base) I.ok.mod.kin hk (OA (ha pos aA s Y H _ I h) λus s1 ⟨vs,H1,I1,r,q⟩=>⟨I1.WD, ?_⟩) he MF;exact J9 F hr hb hd hx I1 r q
def fRa(he:PE X o ta)(c:yG X.K C)(hm:Meth X.K C m f)(F:sE X.prog X.w X.K X.mg X.base CX k f fd ps sp)(hr:zC k X.A)(hb:aAu X.K fd ps ds)(hd:aAc vE ds)(hx:aAC CX X E)(ha:PA X (e::es) t)
  (JS:YB (e::es) X.env=(false,eval e X.env)::YB es X.env:=by rfl) (MF:(UE pos (YB es X.env)).any (·.1)=false:=by rfl)
  (ht:eval (.Call (.Attribute o m OB) (e::es) [] pos) X.env=(do
   let ov <- eval o X.env
   standAt OB.atName
   let (f,first) <- holding [ov] (getMethod ov m pl)
   callWith pos f first (UE pos (YB (e::es) X.env)) (backToKw pos (keywordEach [] X.env))):=by rfl) :
  PE X (.Call (.Attribute o m OB) (e::es) [] pos) (Va C m sp vE E ta t):=by
 intro aA s Y H Q I h;refine Fq (OA (he aA s Y H _ I h) λu s1 hz=>?_) ht;obtain⟨x,H1,I1,rx,a,dx,fs,ex,ea,l,q⟩:=hz;subst ex;obtain rfl:u=Value.ref a:=rx;refine Fg I1 ea c hm l ?_;refine LY (first:=[.ref a]) (h₀:=X.base) I.ok.mod.kin hm.kp (OA (ha pos aA s1 Y H1 _ I1 q) λus s2 ⟨vs,H2,I2,r,q2⟩=>⟨I2.WD, ?_⟩) JS MF;exact J9 (us:=.ref a::us) (vs:=.ref a::vs) F hr hb hd hx I2 (.cons rfl r) q2
def gRa(he:PE X o ta)(c:yG X.K C)(hm:Meth X.K C m f)(F:sE X.prog X.w X.K X.mg X.base CX k f fd ps sp)(hr:zC k X.A)(hb:aAu X.K fd ps ds)(hd:aAc vE ds)(hx:aAC CX X E)
  (ht:eval (.Call (.Attribute o m OB) [] [] pos) X.env=(do
   let ov <- eval o X.env
   standAt OB.atName
   let (f,first) <- holding [ov] (getMethod ov m pl)
   callWith pos f first (UE pos (YB [] X.env)) (backToKw pos (keywordEach [] X.env))):=by rfl) :
  PE X (.Call (.Attribute o m OB) [] [] pos) (Va C m sp vE E ta TQ):=by
 intro aA s Y H Q I h;refine Fq (OA (he aA s Y H _ I h) λu s1 hz=>?_) ht;obtain⟨x,H1,I1,rx,a,dx,fs,ex,ea,l,q⟩:=hz;subst ex;obtain rfl:u=Value.ref a:=rx;refine Fg I1 ea c hm l ?_;exact PySem.W.callWith_K0 (first:=[.ref a]) I1.WD hm.kp (J9 (us:=[.ref a]) (vs:=[.ref a]) F hr hb hd hx I1 (.cons rfl .nil) q)
structure Mk(K:gA)(C f:fA):Prop where
 makes:UY K C=true
 init:DF K (.ref C) "__init__"=some (some (.ref f))
 fn:GU K (.ref f)=true
 kp:UG K (.ref C)=true
def eWa(M:Mk X.K C f)(F:sE X.prog X.w X.K X.mg X.base CX k f fd ps sp)(hr:zC (k+1) X.A)(hb:aAu X.K fd ps ds)(hd:aAc vE ds)
  (hx:aAC CX X E) (I:eA X aA Y H s) (r:aAc vs us)
  (h:∀x dx,H x=none->H dx=none->dx≠x->sp (.ref x::(vs++vE)) (CA (CA H dx (.own x)) x (.ins C dx [])) (λv H2=>v=.lA/\Q (.ref x) H2) E) :
  nA (model X.prog X.w) X.A (call (.ref C) us) (EP X aA Y Q) X.xe s:=by
 have hq:=h (s.heap.objs.size+1) s.heap.objs.size (I.KA.fresh (wK _)) (I.KA.fresh (mB _)) (MD (FI _));have I2:=eA.made (C:=C) I;have r2:aAc (V.ref (s.heap.objs.size+1)::(vs++vE)) (Value.ref (s.heap.objs.size+1)::(us++ds)):=.cons rfl (r.append hd)
 have hl:(Value.ref (s.heap.objs.size+1)::us++ds).length=ps.length:=by(have e:=r2.length;rw[F.len _ _ _ _ hq] at e;exact e.symm)
 refine wZ (eKa I.WD M.makes M.init (vJ.mp M.fn) (bP (F.run _ X.stack _ _ ⟨Value.ref (s.heap.objs.size+1)::us,[]⟩ (Value.ref (s.heap.objs.size+1)::(us++ds)) _ _ E (hr.make C us [])
  (I2.jI.make C us []) (hb _ (Value.ref (s.heap.objs.size+1)::us) I2.WD hl) r2 hq) λr s' HS=>?_))
 cases r with
 |error e=>exact hx aA Y _ _ e s' I2 HS
 |ok fl =>
  cases fl with
  |ret u =>
   obtain⟨v,H',I3,rv,ev,q3⟩:=I2.after HS;subst ev;exact⟨rv,⟨V.ref (s.heap.objs.size+1),H',I3,rfl,q3⟩⟩
  |next=>exact uG HS
  |brk=>exact uG HS
  |cont=>exact uG HS
def eRa(M:Mk X.K C f)(F:sE X.prog X.w X.K X.mg X.base CX k f fd ps sp)(hr:zC (k+1) X.A)(hg:Gl X x)(hm:X.mg x=some (.ref C))(hb:aAu X.K fd ps ds)(hd:aAc vE ds)(hx:aAC CX X E)
  (ha:PA X (e::es) t) (aJ:(x==("__debug__":bA))=false:=by decide) (he:YB (e::es) X.env=(false,eval e X.env)::YB es X.env:=by rfl) (MF:(UE pos (YB es X.env)).any (·.1)=false:=by rfl) :
  PE X (.Call (.Name x p) (e::es) [] pos) (sZa C sp vE E t):=by
 intro aA s Y H Q I h;refine gR (xQ I hg hm ?_ aJ);refine LY (h₀:=X.base) I.ok.mod.kin M.kp (OA (ha pos aA s Y H _ I h) λus s1 ⟨vs,H1,I1,r,q⟩=>⟨I1.WD, ?_⟩) he MF;exact eWa M F hr hb hd hx I1 r q
end
def PK(X:Cx)(bK:List BZ)(t:TA):Prop :=
 ∀(pos:MB) (aA:List (fA×nB)) (s:qA) (Y:St) (H:Hp) (Q:List V->Hp->Prop),eA X aA Y H s->t Y H Q->nA (model X.prog X.w) X.A (evalAll ((backToKw pos (keywordEach bK X.env)).map (·.2))) (AP X aA Y Q) X.xe s
section
variable{nm:Option bA}
def cSa:PK X [] TQ:=λ_ _ _ _ H Q I h=>wpAny_evalAll_nil ⟨[],H,I,.nil,h⟩
def bSa(ha:PE X e te)(hr:PK X bK t):PK X (⟨nm,e,kpos⟩::bK) (SQ te t):=by
 intro pos aA s Y H Q I h;show nA _ _ (evalAll ((do let v <- eval e X.env;standAt pos;pure v)::(backToKw pos (keywordEach bK X.env)).map (·.2))) _ _ s;refine wpAny_evalAll_cons (kA (OA (ha aA s Y H _ I h) λu s1 ⟨x,H1,I1,r1,q1⟩=>kA (dZ (SA ?_))));exact OA (hr pos aA s1 Y H1 _ I1 q1) λus s2 hz=>(by obtain⟨xs,H2,I2,r2,q2⟩:=hz;exact⟨x::xs,H2,I2,.cons r1 r2,q2⟩)
variable{g:List cA->List cA->List cA}{gV:List V->List V->List V}
end
structure ZL(N P:List bA)(sc:BF):Prop where
 kind:sc.kind=.function
 co:sc.isCoroutine=false
 gen:sc.isGenerator=false
 nd:N.Nodup
 pre:N.take P.length=P
 par:∀x∈P,sc.names.lookup x=some .local\/sc.names.lookup x=some .cell
 lMa:∀y∈sc.names,y.2≠.free
theorem Ke{kindOf:bA->Option wJ}:∀{binds:List (bA×cA)} {m:bA->Option cA},(∀v,(x,v) ∉ binds)->bindL kindOf binds m x=m x
 |[],_,_=>rfl
 | (n,v)::r,m,h=>by
  unfold bindL;rw[Ke λw hw=>h w (fD _ hw)];split
  ·have:x≠n:=by rintro rfl;exact h v qE
   simp[this]
  ·rfl
theorem Ie{kindOf:bA->Option wJ}:∀{binds:List (bA×cA)} {m:bA->Option cA},(∀v,(x,v) ∉ binds)->bindC kindOf binds m x=m x
 |[],_,_=>rfl
 | (n,v)::r,m,h=>by
  unfold bindC;rw[Ie λw hw=>h w (fD _ hw)];split
  ·rfl
  ·have:x≠n:=by rintro rfl;exact h v qE
   simp[this]
theorem Je{kindOf:bA->Option wJ}:∀{P:List bA} {vs:List cA} {i:Nat} {m:bA->Option cA},P.Nodup->P[i]?=some x->vs[i]?=some v->kindOf x=some .local ->
  bindL kindOf (P.zip vs) m x=some v
 |[],_,_,_,_,h,_,_=>by simp at h
 |_::_,[],_,_,_,_,h,_=>by simp at h
 |p::P,w::vs,0,m,nd,h1,h2,hk=>by
  simp at h1 h2;subst h1;subst h2;show bindL kindOf ((p,w)::P.zip vs) m p=_;unfold bindL;rw[Ke λv hv=>(rR.mp nd).1 (VY hv).1,GA hk];simp
 |p::P,w::vs,i+1,m,nd,h1,h2,hk=>by(show bindL kindOf ((p,w)::P.zip vs) m x=_;unfold bindL;exact Je (rR.mp nd).2 (by simpa using h1) (by simpa using h2) hk)
theorem He{kindOf:bA->Option wJ}:∀{P:List bA} {vs:List cA} {i:Nat} {m:bA->Option cA},P.Nodup->P[i]?=some x->vs[i]?=some v->kindOf x≠some .local ->
  bindC kindOf (P.zip vs) m x=some v
 |[],_,_,_,_,h,_,_=>by simp at h
 |_::_,[],_,_,_,_,h,_=>by simp at h
 |p::P,w::vs,0,m,nd,h1,h2,hk=>by
  simp at h1 h2;subst h1;subst h2;show bindC kindOf ((p,w)::P.zip vs) m p=_;unfold bindC;rw[Ie λv hv=>(rR.mp nd).1 (VY hv).1,LA hk];simp
 |p::P,w::vs,i+1,m,nd,h1,h2,hk=>by(show bindC kindOf ((p,w)::P.zip vs) m x=_;unfold bindC;exact He (rR.mp nd).2 (by simpa using h1) (by simpa using h2) hk)
noncomputable def aAm(N:List bA)(vs:List V):St:=vs.map some++LB (N.length-vs.length) none
noncomputable def DG(CX:VL)(P:pC)(w:NB)(K:gA)(mg:bA->Option cA)(base:jB)(N:List bA)(XA:bA)(scope:BF)(f:fA)(cd:cA)(A:LD)(outer:List Env)(s:qA)(H:Hp)(E:XK):Cx where
 prog:=P
 w:=w
 K:=K
 mg:=mg
 base:=base
 A:=A.deeper (envOfC XA scope s.heap.objs.size f cd)
 N:=N
 s₀:=s
 H₀:=H
 env:=envOfC XA scope s.heap.objs.size f cd
 outer:=outer
 stack:=envOfC XA scope s.heap.objs.size f cd::outer
 ex:=[]
 calm:=true
 fn:=λ_=>true
 pn:=[]
 xe:=λe s'=>nA (model P w) (A.deeper (envOfC XA scope s.heap.objs.size f cd)) (leaving (envOfC XA scope s.heap.objs.size f cd) e) (λ_ QT=>CX outer H s E e QT) (λe' QT=>CX outer H s E e' QT) s'
def jf{sc:BF}(h:sc.names.lookup x=some .cell):∃c,(cellsFrom n sc.names []).lookup x=some c:=by
 have q:=zq sc.names n [] (.inl h);exact Option.isSome_iff_exists.mp q
def iEa{K:gA}
  (S:ZL N ps scope) (hd:A.handled=none) (e0:sN P w K mg base A outer s H) (hl:vs.length=ps.length) (r:aAc vs us)
  (x:InCallC s s.heap.objs.size (bindL (envOfC XA scope s.heap.objs.size f cd).kindOf (ps.zip us) λ_=>none) (cellsFrom (s.heap.objs.size+1) scope.names []) (bindC (envOfC XA scope s.heap.objs.size f cd).kindOf (ps.zip us) λ_=>none) s1) :
  eA (DG CX P w K mg base N XA scope f cd A outer s H E) [] (aAm N vs) H s1:=by
 have MF:ps.length<=N.length:=by have:=congrArg uJ S.pre;rw[ZH] at this;lia
 obtain⟨h1,tk,rfl,hk⟩:=x.done;have mT:∀b:fA,b ∉ (DG CX P w K mg base N XA scope f cd A outer s H E).ex:=λb z=>absurd (show b∈([]:List fA) from z) (by simp)
 refine⟨⟨e0.mod,S.kind,rfl,rfl,mB _,λy z c h1 h2=>?_,λy hy=>?_,λy c _ h=>?_,λ_=>hd,Around.frames_deeper e0.frames,.inr ⟨rfl,rfl⟩,λb z=>absurd z (mT b),e0.bs,e0.OI,λb _ _=>mT b,λb z=>absurd z (mT b),e0.fG,e0.OJ⟩,
  rfl,e0.bare,Un.kept hk,⟨_,x.toInCall.ns,λi y v h1 h2 h3=>?_⟩,λy c h=>⟨_,x.cell y c h⟩,e0.KA.fresh (mB _),λy c h=>?_,λp hp=>absurd (show p∈([]:List (fA×nB)) from hp) (by simp),e0.KA.kept hk, ?_⟩
 ·exact name_of_addr x.apart (oU h1) (oU h2)
 ·have hy:scope.names.lookup y=some .cell\/scope.names.lookup y=some .free:=hy;rcases hy with hy | hy
  ·exact jf hy
  ·exact absurd rfl (S.lMa _ (oU hy))
 ·exact tK (x.above y c (oU h))
 ·have hi:i<vs.length:=by
   unfold aAm at h2;by_cases hi:i<vs.length
   ·exact hi
   ·rw[zR (by simpa using hi)] at h2;rw[Qb] at h2;split at h2<;>cases h2
  have ha:vs[i]?=some v:=by
   unfold aAm at h2;rw[YQ (by simpa using hi),jE] at h2
   cases e:vs[i]? with
   |none=>rw[e] at h2;cases h2
   |some a=>rw[e] at h2;cases h2;rfl
  obtain⟨u,hu,rv⟩:=r.get ha
  have hp:ps[i]?=some y:=by(rw[<- S.pre,List.getElem?_take_of_lt (by lia)];exact h1)
  have rk:ps.Nodup:=by rw[<- S.pre];exact S.nd.sublist (List.take_sublist _ _)
  refine⟨u,rv, ?_⟩;rcases S.par y (YH hp) with k | k
  ·exact .inl ⟨k,Je rk hp hu k⟩
  ·obtain⟨c,e⟩:=jf (n:=s.heap.objs.size+1) k;refine .inr ⟨.inl k,c,e, ?_⟩;have q:=x.cell y c e;rw[He rk hp hu (by show scope.names.lookup y≠_;rw[k];decide)] at q;exact q
 ·exact e0.KA.fresh (tK (x.above y c (oU h)))
 ·unfold aAm;show _=N.length;rw[oC,EA,List.length_replicate]
  lia
def og{K:gA}{dV kV doc pm VA ct oc:cA}{an od:Option fA}(lk:K.lookup f=some ⟨oc,od,.func (yH name XA params body scope dV kV doc pm an VA ct),bF⟩)(lI:YO K VA XA=true)(S:ZL N ps scope)
  (len:∀vs H Q E,sp vs H Q E->vs.length=ps.length)
  (U5:∀(A:LD) (outer:List Env) (s:qA) (H:Hp) (vs:List V) (Q:VK) (E:XK),zC k (A.deeper (envOfC XA scope s.heap.objs.size f VA))->sp vs H Q E ->
   ∃t,FC (DG CX P w K mg base N XA scope f VA A outer s H E) body t/\t { nx:=λ_ H'=>Q .lA H',rt:=Q } (aAm N vs) H) :
  sE P w K mg base CX (k+1) f (yH name XA params body scope dV kV doc pm an VA ct) ps sp:=by
 refine⟨len,λA outer s H args us vs Q E hr e0 hb r QH=>?_⟩;have hl:=len _ _ _ _ QH;have KX:K.In s.heap:=e0.mod.kin.keeps λb o e=>(e0.bs b o e).1
 have lim:s.heap.NoLimit:=e0.mod.nolimit.keeps λb o e=>(e0.bs b o e).1
 have cJ:∀y∈ps.zip us,scope.names.lookup y.1=some .local\/(scope.names.lookup y.1=some .cell/\((cellsFrom (s.heap.objs.size+1) scope.names []).lookup y.1).isSome=true):=λ⟨n,v⟩ hy=>by
  rcases S.par n (VY hy).1 with q | q
  ·exact .inl q
  ·exact .inr ⟨q,zq _ _ _ (.inl q)⟩
 refine codeAny_call_function hr.depth (KX _ _ lk) rfl S.co S.gen rfl (PySem.W.codeRec_of KX lI) (hb _ _ _ _ ?_);refine wpAny_newFunctionEnv_cells S.kind cJ λenv he s1 x=>?_
 subst he;refine⟨lim.keeps x.toInCall.keep,codeAny_func ?_⟩;obtain⟨t,ht,hq⟩:=U5 A outer s H vs Q E (hr.deeper _) QH;have I:eA (DG CX P w K mg base N XA scope f VA A outer s H E) [] (aAm N vs) H s1:=iEa S hr.hd e0 hl r x;refine OG (ht [] s1 (aAm N vs) H _ I hq) (λfl s' hs=>?_) λe s' hs=>hs
 have fin:∀{Y':St} {H':Hp} {v:V} {u:cA},eA (DG CX P w K mg base N XA scope f VA A outer s H E) [] Y' H' s'->aAe v u->Q v H'->CE outer P w H s Q u s' :=
  λ{Y' H' v u} J rv q=>⟨v,H',J.os,J.bare,J.base,J.KA,rv,q⟩
 cases fl with
 |ret u =>
  obtain⟨v,Y',H',J,rv,q⟩:=hs;exact fin J rv q
 |next =>
  obtain⟨Y',H',J,q⟩:=hs;exact fin (v:=V.lA) (u:=Value.none) J rfl q
 |brk =>
  obtain⟨_,_,_,q⟩:=hs;exact uG q
 |cont =>
  obtain⟨_,_,_,q⟩:=hs;exact uG q
section
variable{id T:String}
def Pa(r:List V->Hp->VK->Prop)(t:TA):TE:=λY H Q=>t Y H λvs H1=>r vs H1 Q
def yl(hc:FF X (.builtin id) r)(hg:Gl X x)(hm:X.mg x=none)(hv:NL x=some (.builtin id))(ha:PA X (e::es) t)(hn:x≠"__name__":=by decide)(aJ:(x==("__debug__":bA))=false:=by decide)
  (he:YB (e::es) X.env=(false,eval e X.env)::YB es X.env:=by rfl) (MF:(UE pos (YB es X.env)).any (·.1)=false:=by rfl):PE X (.Call (.Name x p) (e::es) [] pos) (Pa r t):=by
 intro aA s Y H Q I h;refine gR (bO I hg hm hv ?_ hn aJ);exact PyProof.Rows.callWith_builtin1 (OA (ha pos aA s Y H _ I h) λus s1 hz=>(by obtain⟨vs,H1,I1,r1,q1⟩:=hz;exact hc aA s1 Y H1 vs us Q I1 r1 q1)) he MF
def tQa(hc:FF X (.type T) r)(hg:Gl X x)(hm:X.mg x=none)(hv:NL x=some (.type T))(ha:PA X (e::es) t)(hn:x≠"__name__":=by decide)(aJ:(x==("__debug__":bA))=false:=by decide)
  (he:YB (e::es) X.env=(false,eval e X.env)::YB es X.env:=by rfl) (MF:(UE pos (YB es X.env)).any (·.1)=false:=by rfl):PE X (.Call (.Name x p) (e::es) [] pos) (Pa r t):=by
 intro aA s Y H Q I h;refine gR (bO I hg hm hv ?_ hn aJ);exact sY (OA (ha pos aA s Y H _ I h) λus s1 hz=>(by obtain⟨vs,H1,I1,r1,q1⟩:=hz;exact hc aA s1 Y H1 vs us Q I1 r1 q1)) he MF
end
end L2
namespace HT
open PySem PyProof.Rows
noncomputable def aAj:List Int->List Int->Bool
 |[],[]=>false
 |[],_::_=>true
 |_::_,[]=>false
 |x::xs,y::ys=>if x=y then aAj xs ys else decide (x<y)
theorem EM(x y:Int)(xs ys:List Int):aAj (x::xs) (y::ys)=if x=y then aAj xs ys else decide (x<y):=rfl
theorem qJa:aAj [] []=false:=rfl
theorem pJa(y:Int)(ys:List Int):aAj [] (y::ys)=true:=rfl
theorem oJa(x:Int)(xs:List Int):aAj (x::xs) []=false:=rfl
def AV(A:LD)(s:qA)(a:Int)(t:kF)(c:Int)(u:kF):∃e,xZ A s (.int a t) (.int c u) e/\(e=true↔a=c) :=
 ⟨(a==c),kr a t c u,by simp⟩
def Bm(A:LD)(s:qA)(a:Int)(t:kF)(c:Int)(u:kF)(prog:pC)(w:NB)(E:cA->qA->Prop)(Q:cA->qA->Prop)(h:Q (.bool (decide (a<c))) s) :
  nA (model prog w) A (richCompare .Lt (.int a t) (.int c u)) Q E s :=
 (xt h:nA (model prog w) A (bE .Lt (.int a t) (.int c u)) Q E s)
section
open PySem.SeqAt
open PySem.AutoSeq1 (wpAny_loadPart')
open PySem.MeetsSeq PySem.MeetsSeq2 PySem.MeetsSeq3
def u0a(l b:fA)(items tL:Array cA)(n n2:Nat)(dd lE:Option fA)(sl oE:Array (Option cA))(ns ms:List Int)(hi:IntsAre items.toList ns)(hj:IntsAre tL.toList ms) :
  iP (sH.«tuple.__lt__» ⟨[.ref l,.ref b],[]⟩)
   (λ_ R s=>s.heap.get? l=some { cls:=.type "tuple",dict:=dd,data:=.seq items n,slots:=sl }/\s.heap.get? b=some { cls:=.type "tuple",dict:=lE,data:=.seq tL n2,slots:=oE } /\
    R (.ok (.ret (.bool (aAj ns ms)))) s) :=
 .of_wp λprog w A R s h=>by
  obtain⟨hp,g,d,tk,os⟩:=s;obtain⟨hl,hb,h⟩:=h;have f2:=Lb;have z1:items.size=ns.length:=by rw[<- hi.length];simp
  have z2:tL.size=ms.length:=by rw[<- hj.length];simp
  wp_walk using vH hl,vH hb,Hc _ (λaAk b s'=>b.1=none/\s'=⟨hp,g,d,tk,os⟩/\∃(vs ws:List cA) (JE AQ:List Int),aAk=vs.zip ws /\
   IntsAre vs JE/\IntsAre ws AQ/\JE.length+tL.size=AQ.length+items.size/\R (.ok (.ret (.bool (aAj JE AQ)))) ⟨hp,g,d,tk,os⟩) _
  case turn =>
   rintro⟨y,x⟩ aAk b s' ⟨jD,rfl,vs,ws,JE,AQ,hz,O6,wW,AB,hR⟩
   cases O6 with
   |nil=>rw[Er] at hz;cases hz
   |cons a t rDa =>
    cases wW with
    |nil=>rw[List.zip_nil_right] at hz;cases hz
    |cons c u uDa =>
     rw[aN] at hz
     injection hz with hyx jDa
     injection hyx with hy hx
     subst hy hx;rw[EM] at hR;simp only[QC] at AB;obtain⟨e,he,mL⟩:=AV A.in1 ⟨hp,g,d,tk,os⟩ a t c u;refine kA (he prog w _ _ ?_)
     cases e with
     |true =>
      rw[GA (mL.mp rfl)] at hR
      wp_walk
      exact⟨rfl,rfl,_,_,_,_,jDa,rDa,uDa,by lia,hR⟩
     |false =>
      rw[LA (λq=>absurd (mL.mpr q) SD)] at hR;have dJ:=Bm A.in1 ⟨hp,g,d,tk,os⟩ a t c u prog w
      wp_walk using dJ
      exact⟨_,rfl,by simpa using hR⟩
  case fin =>
   rintro⟨b1,b2⟩ s' ⟨jD,rfl,vs,ws,JE,AQ,hz,O6,wW,AB,hR⟩
   simp only at jD;subst jD
   have hv:aAj JE AQ=decide (items.size<tL.size):=by
    cases O6 with
    |nil =>
     cases wW with
     |nil =>
      simp only[wH] at AB;rw[qJa];exact(WB (by lia)).symm
     |cons c u hw =>
      simp only[wH,QC] at AB;rw[pJa];exact(jC (by lia)).symm
    |cons a t hv =>
     cases wW with
     |nil =>
      simp only[wH,QC] at AB;rw[oJa];exact(WB (by lia)).symm
     |cons c u hw =>
      rw[aN] at hz;cases hz
   rw[hv] at hR
   wp_walk
   exact⟨_,rfl,by simpa[iq] using hR⟩
  case h =>
   exact⟨rfl,rfl,items.toList,tL.toList,ns,ms,rfl,hi,hj,by lia,h⟩
end
section
variable{s:qA}
def bKa(hl:AF s.heap l items)(hb:AF s.heap b tL)(hi:IntsAre items.toList ns)(hj:IntsAre tL.toList ms)
  (hu:A.units<cLine) (h:Q (.bool (aAj ns ms)) s):nA (model prog w) A (bE .Lt (.ref l) (.ref b)) Q E s:=by
 obtain⟨⟨cls,dd,data,sl⟩,ho,hc,n,hd⟩:=id hl;obtain⟨⟨bS,lE,data2,oE⟩,jG,iG,n2,hd2⟩:=id hb;simp only at hc hd iG hd2;subst hc hd iG hd2
 exact BY (op:=.Lt) ⟨_,ho,rfl⟩ ⟨_,jG,rfl⟩ Gq Aq (uq _ _) (u0a l b items tL n n2 dd lE sl oE ns ms hi hj)
  ⟨ho,jG,show Value.bool (aAj ns ms)≠Value.notImplemented/\Q (.bool (aAj ns ms)) s from⟨(λx=>nomatch x),h⟩⟩ hu
def Zx(ht:AF s.heap t vs.toArray)(hb:AF s.heap b ws.toArray)(hv:vs≠[])
  (h1:ws=[]->Q (.ref t) s) (h2:ws≠[]->Q (.ref s.heap.objs.size) { s with heap:=s.heap.push { cls:=.type "tuple",data:=.seq (vs++ws).toArray } })
  (qB:vs.length+ws.length<=sizeLine):nA (model prog w) A (gF .Add (.ref t) (.ref b)) Q E s:=by
 obtain⟨⟨cls,dd,data,sl⟩,ho,hc,n,hd⟩:=id ht;obtain⟨⟨bS,lE,data2,oE⟩,jG,iG,n2,hd2⟩:=id hb;simp only at hc hd iG hd2;subst hc hd iG hd2;have e:vs.toArray++ws.toArray=(vs++ws).toArray:=by simp
 by_cases hw:ws=[]
 ·exact kZ ⟨_,ho,rfl⟩ ⟨_,jG,rfl⟩ Ic Yc Sb Rb (Mb _ _)
   (tuple_addW1 t b vs.toArray ws.toArray n n2 dd lE sl oE (by simpa using hv) (by simp[hw])) ⟨ho,jG,h1 hw⟩
 ·refine kZ ⟨_,ho,rfl⟩ ⟨_,jG,rfl⟩ Ic Yc Sb Rb (Mb _ _)
   (tuple_addW2 t b vs.toArray ws.toArray n n2 dd lE sl oE (by simpa using hv) (by simpa using hw) (by rw[mD,mD];exact qB)) ⟨ho,jG, ?_⟩
  rw[e];exact h2 hw
noncomputable def fB(n d:Nat):Option Int->Nat
 |none=>d
 |some v=>if v<0 then(v+(n:Int)).toNat else min v.toNat n
theorem L9(n d:Nat):fB n d none=d:=rfl
def yX(n d k:Nat):fB n d (some (k:Int))=min k n:=by
 show(if(k:Int)<0 then((k:Int)+(n:Int)).toNat else min (k:Int).toNat n)=min k n;rw[LA (by lia),EK]
def qWa(n d:Nat)(hd:d<=n)(o:Option Int):fB n d o<=n:=by
 cases o with
 |none=>exact hd
 |some v =>
  show(if v<0 then(v+(n:Int)).toNat else min v.toNat n)<=n;by_cases hv:v<0
  ·rw[GA hv];lia
  ·rw[LA hv];exact Nat.min_le_right _ _
def pf(v:Int)(n d:Nat):(if v<0 then max (v+(n:Int)) 0 else min v (n:Int))=((fB n d (some v):Nat):Int):=by
 show(if v<0 then max (v+(n:Int)) 0 else min v (n:Int))=(((if v<0 then(v+(n:Int)).toNat else min v.toNat n):Nat):Int);by_cases hv:v<0
 ·simp only[GA hv];lia
 ·simp only[LA hv];lia
def zv(lo hi:Option Int)(n:Nat):Kb lo hi 1 (n:Int)=(((fB n 0 lo:Nat):Int),((fB n n hi:Nat):Int)):=by
 have h1:¬((1:Int)<0):=by lia
 unfold Kb;simp only[h1,rH];refine Md ?_ ?_
 ·cases lo with
  |none=>rfl
  |some v=>exact pf v n 0
 ·cases hi with
  |none=>rfl
  |some v=>exact pf v n n
def dSa(i j:Nat):vY (i:Int) (j:Int) 1=j-i:=by
 unfold vY;have h1:(1:Int) > 0:=by lia
 simp only[h1,if_true,Int.ediv_one]
 split<;>lia
def cn(p:xJ v o)(h:Q o s):nA (model prog w) A (Builtin.Slice.slicePartIndex v) Q E s:=by
 cases p with
 |none=>exact slicePart_none h
 |int i t=>exact slicePart_int h
def Zm{lo hi:Option Int}{Q:Int×Int×Nat->qA->Prop}(hs:s.heap.IsSliceOf sl vl vu .none)(pl:xJ vl lo)(pu:xJ vu hi)
  (h:Q (((fB n 0 lo:Nat):Int),1,fB n n hi-fB n 0 lo) s):nA (model prog w) A (nq (.ref sl) (pure (n:Int))) Q E s:=by
 obtain⟨os,WN,fQ,ED⟩:=id hs;unfold nq Builtin.Slice.sliceFields;refine kA (kA (XH WN ED (x:=vl) rfl (kA (XH WN ED (x:=vu) rfl (kA (XH WN ED (x:=.none) rfl (SA ?_)))))));refine kA (slicePart_none ?_);show nA _ _ (if((1:Int)==0)=true then _ else _) _ _ s;rw[LA (by decide)];refine kA (cn pl (kA (cn pu (kA (SA ?_)))));show nA _ _ (match Kb lo hi 1 (n:Int) with | (lo,hi)=>pure (lo,(1:Int),vY lo hi 1)) _ _ s;rw[zv lo hi n];show nA _ _ (pure (((fB n 0 lo:Nat):Int),(1:Int),vY ((fB n 0 lo:Nat):Int) ((fB n n hi:Nat):Int) 1)) _ _ s;rw[dSa];exact SA h
def xRa(xs:Array cA)(i k:Nat):((vC k).filterMap λ(m:Nat)=>xs[((i:Int)+(m:Int)*1).toNat]?).toArray=((xs.toList.drop i).take k).toArray:=by
 have e:(λ(m:Nat)=>xs[((i:Int)+(m:Int)*1).toNat]?)=λm=>xs[i+m]?:=by
  funext m
  have:((i:Int)+(m:Int)*1).toNat=i+m:=by lia
  rw[this]
 rw[e]
 have:=pick_run xs i k
 rw[List.filterMap_map] at this;have e2:((λx=>xs[x]?) ∘ λx=>i+x)=λm=>xs[i+m]?:=rfl
 rw[e2] at this;rw[this]
def kAa{lo hi:Option Int}(ht:AF s.heap t items)(hs:s.heap.IsSliceOf sl vl vu .none)(pl:xJ vl lo)(pu:xJ vu hi)
  (hw:¬(fB items.size 0 lo=0/\fB items.size items.size hi=items.size))
  (h:Q (.ref s.heap.objs.size) { s with heap:=s.heap.push { cls:=.type "tuple",data:=.seq ((items.toList.drop (fB items.size 0 lo)).take (fB items.size items.size hi-fB items.size 0 lo)).toArray } })
  (qB:items.size<=sizeLine):nA (model prog w) A (getItem (.ref t) (.ref sl)) Q E s:=by
 have vW:sizeOk (.seq ((items.toList.drop (fB items.size 0 lo)).take (fB items.size items.size hi-fB items.size 0 lo)).toArray):=by(show((items.toList.drop (fB items.size 0 lo)).take (fB items.size items.size hi-fB items.size 0 lo)).toArray.size<=sizeLine;rw[mD,ZH,mR,vG];omega)
 have hj:fB items.size items.size hi<=items.size:=qWa _ _ (mB _) hi;obtain⟨os,WN,fQ,ED⟩:=id hs;have O5:s.TypeIs (.ref sl) "slice":=⟨os,WN,fQ⟩
 unfold getItem
 try with_reducible refine qK ?_
 first | refine kA (SA ?_) | skip
 refine kA (Gr ht.typeIs (by decide) ?_)
 refine kA (aR (name:=wA "__getitem__") ht.typeIs jP
  (QO jP ht.typeIs Vq ?_ (lr _ _)))
 show nA _ _ (tY (.ref t)>>=_) _ _ s;refine kA (eZ ht ?_);refine kA (ud O5 ?_);rw[GA (by decide)];refine kA (Zm hs pl pu ?_)
 have UJ:¬((((fB items.size 0 lo:Nat):Int)==0&&(1:Int)==1&&(fB items.size items.size hi-fB items.size 0 lo)==items.size)=true):=by(intro q;rw[WA,WA] at q;have q1:((fB items.size 0 lo:Nat):Int)=0:=EC q.1.1;have q2:fB items.size items.size hi-fB items.size 0 lo=items.size:=EC q.2;exact hw ⟨by omega,by omega⟩)
 show nA _ _ (if(((fB items.size 0 lo:Nat):Int)==0&&(1:Int)==1&&(fB items.size items.size hi-fB items.size 0 lo)==items.size)=true then _ else _) _ _ s;rw[LA UJ,xRa]
 first
  |exact kA (m:=wY _) (IL (SA ⟨_,rfl,SA h⟩) vW)
  |exact kA (m:=wY _) (IL (kA (SA (SA ⟨_,rfl,SA h⟩))) vW)
  |exact kA (kA (m:=wY _) (IL (SA (SA ⟨_,rfl,SA h⟩)) vW))
  |exact kA (kA (m:=wY _) (IL (SA ⟨_,rfl,SA h⟩) vW))
end
end HT
namespace L2
open PySem PySem.Spec PyProof.Rows
abbrev TO:=St->Hp->(Option Int->Hp->Prop)->Prop
def PO(X:Cx)(e:Option vA)(t:TO):Prop :=
 ∀(aA:List (fA×nB)) (s:qA) (Y:St) (H:Hp) (Q:Option Int->Hp->Prop),eA X aA Y H s->t Y H Q ->
  nA (model X.prog X.w) X.A (evalPart e X.env) (λu s'=>∃o H',eA X aA Y H' s'/\xJ u o/\Q o H') X.xe s
def tZa:TO:=λ_ H Q=>Q none H
def vZa(t:TE):TO:=λY H Q=>t Y H λx H1=>∃i,x=.int i/\Q (some i) H1
def aAM:∀{us:List cA},aAc (ns.map V.int) us->IntsAre us ns:=by
 induction ns with
 |nil=>intro us r;rw[kN] at r;cases r;exact .nil
 |cons n ns ih =>
  intro us r;rw[KC] at r
  cases r with
  |cons r1 r2 =>
   obtain⟨t,e⟩:=r1;subst e;exact .cons n t (ih r2)
section
variable{lo hi:Option vA}
def fSa:PO X none tZa:=by
 intro aA s Y H Q I h;rw[evalPart_none];exact SA ⟨none,H,I,.none,h⟩
def hSa(h:PE X e te):PO X (some e) (vZa te):=by
 intro aA s Y H Q I hw;rw[evalPart_some];refine OA (h aA s Y H _ I hw) λu s1 hz=>?_
 obtain⟨x,H1,I1,r1,q1⟩:=hz;obtain⟨i,rfl,q⟩:=q1;obtain⟨t,rfl⟩:=r1;exact⟨some i,H1,I1,.int i t,q⟩
def GJ(X:Cx)(r:V->Option Int->Option Int->Hp->VK->Prop):Prop :=
 ∀(aA:List (fA×nB)) (s:qA) (Y:St) (H:Hp) (x:V) (v vl vu:cA) (lo hi:Option Int) (sl:fA) (Q:VK),eA X aA Y H s->aAe x v->s.heap.IsSliceOf sl vl vu .none->xJ vl lo->xJ vu hi->r x lo hi H Q ->
  ∃T id,typeLookup (.type T) "__getitem__"=pure (some (.builtin id))/\s.TypeIs v T/\nA (model X.prog X.w) X.A (getItem v (.ref sl)) (EP X aA Y Q) X.xe s
def GJ.or(h:GJ X r)(h':GJ X r'):GJ X (λx lo hi H Q=>r x lo hi H Q\/r' x lo hi H Q):=by
 intro aA s Y H x v vl vu lo hi sl Q I rx hs pl pu q;rcases q with q | q
 ·exact h aA s Y H x v vl vu lo hi sl Q I rx hs pl pu q
 ·exact h' aA s Y H x v vl vu lo hi sl Q I rx hs pl pu q
def tSl(r:V->Option Int->Option Int->Hp->VK->Prop)(te:TE)(tl th:TO):TE:=λY H Q=>te Y H λx H1=>tl Y H1 λl H2=>th Y H2 λu H3=>r x l u H3 Q
def kRa(hr:GJ X r)(he:PE X e te)(hl:PO X lo tl)(hu:PO X hi th):PE X (.Subscript e (.Slice lo hi none p2) pos) (tSl r te tl th):=by
 intro aA s Y H Q I h;refine Subscript_ (OA (he aA s Y H _ I h) λv s1 hz=>?_);obtain⟨x,H1,I1,r1,q1⟩:=hz;refine wpAny_Slice (OA (hl aA s1 Y H1 _ I1 q1) λvl s2 ⟨l,H2,I2,pl,q2⟩=>OA (hu aA s2 Y H2 _ I2 q2) λvu s3 hz=>?_);obtain⟨u,H3,I3,pu,q3⟩:=hz;rw[evalPart_none];refine SA ?_;have I4:eA X aA Y H3 { s3 with heap:=s3.heap.push { cls:=.type "slice",data:=.fields #[vl,vu,.none] } }:=I3.kept (t':=s3.toks) λb ob q=>wC _ q
 obtain⟨T,id,hT,ht,hg⟩:=hr aA { s3 with heap:=s3.heap.push { cls:=.type "slice",data:=.fields #[vl,vu,.none] } } Y H3 x v vl vu l u s3.heap.objs.size Q I4 r1 (w3a ..) pl pu q3;show nA (model X.prog X.w) X.A (subscriptTail e (.Slice lo hi none p2) v (.ref s3.heap.objs.size)) (EP X aA Y Q) X.xe { s3 with heap:=s3.heap.push { cls:=.type "slice",data:=.fields #[vl,vu,.none] } };exact tail_any (ops:=[.ref s3.heap.objs.size,v]) ht hT hg (by with_unfolding_all rfl)
def UK(xs:List V)(lo hi:Option Int):List V:=(xs.drop (HT.fB xs.length 0 lo)).take (HT.fB xs.length xs.length hi-HT.fB xs.length 0 lo)
def Kf(xs:List V)(lo hi:Option Int):(UK xs lo hi).length<=xs.length:=by
 unfold UK;rw[ZH,mR]
 lia
def bVa(K:gA):V->Option Int->Option Int->Hp->VK->Prop:=λx lo hi H Q=>∃a xs,x=.ref a/\sC K H a xs /\
 ¬(HT.fB xs.length 0 lo=0/\HT.fB xs.length xs.length hi=xs.length)/\∀p,H p=none->Q (.ref p) (CA H p (.t (UK xs lo hi)))
def pXa:GJ X (bVa X.K):=by
 intro aA s Y H x v vl vu lo hi sl Q I rx hs pl pu h;obtain⟨a,xs,rfl,hx,hw,q⟩:=h;cases rx;obtain⟨dA,r,ht,hz⟩:=I.tuple hx;have AB:dA.toArray.size=xs.length:=by rw[mD];exact r.length.symm
 refine⟨"tuple",_,jP.lookup,ht.typeIs, ?_⟩;refine HT.kAa ht hs pl pu (by rw[AB];exact hw) ?_ (by rw[AB];exact hz);rw[AB];refine⟨.ref s.heap.objs.size,_,I.laid (t':=s.toks) (o:=.t (UK xs lo hi)) (λb ob q=>wC _ q) (mB _) ?_,rfl,q _ (I.KA.fresh (mB _))⟩;exact⟨XC (Kf xs lo hi) hz,_,(r.drop (HT.fB xs.length 0 lo)).take (HT.fB xs.length xs.length hi-HT.fB xs.length 0 lo),Ld _ _⟩
def qUa(K:gA):R2:=λx y H Q=>∃a b xs ys,x=.ref a/\y=.ref b/\sC K H a xs/\sC K H b ys/\xs≠[]/\xs.length+ys.length<=sizeLine /\
 (ys=[]->Q (.ref a) H)/\(ys≠[]->∀p,H p=none->Q (.ref p) (CA H p (.t (xs++ys))))
def aAc.aX(r:aAc xs us):us=[]↔xs=[]:=by
 cases r with
 |nil=>simp
 |cons _ _=>simp
def aPa:yC X (gF .Add) (qUa X.K):=by
 intro aA s Y H x y v u Q I rx ry h;obtain⟨a,b,xs,ys,rfl,rfl,ha,hb,hx,hz,q1,q2⟩:=h;cases rx;cases ry;obtain⟨dA,r1,p1,_⟩:=I.tuple ha;obtain⟨uL,r2,p2,_⟩:=I.tuple hb;refine HT.Zx p1 p2 (λz=>hx (r1.aX.mp z)) (λz=>⟨.ref a,H,I,rfl,q1 (r2.aX.mp z)⟩) (λz=>?_) (by rw[<- r1.length,<- r2.length];exact hz);refine⟨.ref s.heap.objs.size,_,I.laid (t':=s.toks) (o:=.t (xs++ys)) (λb ob q=>wC _ q) (mB _) ?_,rfl,q2 (λw=>z (r2.aX.mpr w)) _ (I.KA.fresh (mB _))⟩;exact⟨by rw[oC];exact hz,_,r1.append r2,Ld _ _⟩
end
noncomputable def kG(n:Nat)(i:Int):Option Nat:=if 0<=i then(if i<n then some i.toNat else none) else if -(n:Int)<=i then some (i+n).toNat else none
def lC(xs:List O)(i:Int):Option O:=(kG xs.length i).bind λj=>xs[j]?
def mi(h:kG n i=some j):seqIndex? i n=some j/\j<n/\-(n:Int)<=i/\i<n:=by
 unfold kG at h;by_cases h0:0<=i
 ·rw[GA h0] at h;by_cases h1:i<n
  ·rw[GA h1] at h;have e:i.toNat=j:=ZD h;exact⟨by rw[Bd h0 h1,e],by lia,by lia,h1⟩
  ·rw[LA h1] at h;cases h
 ·rw[LA h0] at h;by_cases h1:-(n:Int)<=i
  ·rw[GA h1] at h;have e:(i+n).toNat=j:=ZD h;exact⟨by rw[vd (by lia) h1,e],by lia,h1,by lia⟩
  ·rw[LA h1] at h;cases h
def B0(h:lC xs i=some v):∃j,seqIndex? i xs.length=some j/\xs[j]?=some v/\j<xs.length/\-(xs.length:Int)<=i/\i<xs.length:=by
 unfold lC at h
 cases e:kG xs.length i with
 |none=>rw[e] at h;cases h
 |some j =>
  rw[e] at h;obtain⟨h1,h2,h3,h4⟩:=mi e;exact⟨j,h1,h,h2,h3,h4⟩
def AN{j:Nat}(h:xs[j]?=some v):lC xs (j:Int)=some v:=by
 have hj:j<xs.length:=(RD.mp h).1
 have e:kG xs.length (j:Int)=some j:=by(unfold kG;rw[GA (by lia),GA (by lia)];simp)
 unfold lC;rw[e];exact h
def UZ(b:vA):Prop:=∀o i,subscripted b false o i=operate [o,i] (getItem o i)
def bG(X:Cx)(r:R2):Prop :=
 ∀(value slice:vA) (aA:List (fA×nB)) (s:qA) (Y:St) (H:Hp) (x y:V) (v u:cA) (Q:VK),eA X aA Y H s->aAe x v->aAe y u->r x y H Q ->
  subscripted slice false v u=operate [v,u] (getItem v u)->nA (model X.prog X.w) X.A (subscriptTail value slice v u) (EP X aA Y Q) X.xe s
def Xd(X:Cx)(id:String)(r:V->List V->Hp->VK->Prop):Prop :=
 ∀(aA:List (fA×nB)) (s:qA) (Y:St) (H:Hp) (x:V) (xs:List V) (v:cA) (us:List cA) (Q:VK),eA X aA Y H s->aAe x v->aAc xs us->r x xs H Q ->
  nA (model X.prog X.w) X.A (call (.builtin id) (v::us)) (EP X aA Y Q) X.xe s
section
variable{pos:MB}
def bG.or(h:bG X r)(h':bG X r'):bG X (λx y H Q=>r x y H Q\/r' x y H Q):=by
 intro value slice aA s Y H x y v u Q I rx ry q hs;rcases q with q | q
 ·exact h value slice aA s Y H x y v u Q I rx ry q hs
 ·exact h' value slice aA s Y H x y v u Q I rx ry q hs
def cRa(hr:bG X r)(ha:PE X a ta)(hb:PE X b tb)(hs:UZ b):PE X (.Subscript a b pos) (fU r ta tb):=by
 intro aA s Y H Q I h;exact Subscript_ (B1 ha hb I h λv u s2 x y H2 I2 rx ry q=>hr a b aA s2 Y H2 x y v u Q I2 rx ry q (hs _ _))
def vm(K:gA):R2:=λx y H Q=>∃p xs i v,x=.ref p/\y=.int i/\EB K H p xs/\lC xs i=some v/\Q v H
def wm(K:gA):R2:=λx y H Q=>∃p xs i v,x=.ref p/\y=.int i/\sC K H p xs/\lC xs i=some v/\Q v H
def rX:R2:=λx y H Q=>∃z i c,x=.str z/\y=.int i/\z.length<=sizeLine/\lC z.cps.toList i=some c/\Q (.str ⟨#[c]⟩) H
def tFa:bG X (vm X.K):=by
 intro value slice aA s Y H x y v u Q I rx ry h hs;obtain⟨p,xs,i,z,rfl,rfl,hq,he,q⟩:=h;cases rx;obtain⟨t,rfl⟩:=ry;obtain⟨dA,r,pl,hz⟩:=I.list hq;obtain⟨j,h1,h2,h3,h4,h5⟩:=B0 he;obtain⟨w,ew,nJ⟩:=r.get h2;have hl:=r.length;have hn:=eO;have fin:EP X aA Y Q w s:=⟨z,H,I,nJ,q⟩
 by_cases h0:0<=i
 ·have hj:i.toNat=j:=by
   rw[Bd h0 h5] at h1;exact ZD h1
  exact item_listR pl.isList h0 (by lia) (by rw[hj];simpa using ew) fin hs
 ·have hj:(i+(dA.toArray.size:Int)).toNat=j:=by
   rw[vd (by lia) h4] at h1;rw[mD,<- hl];exact ZD h1
  exact Bq (x:=w) pl.isList.typeIs Hr.lookup
   (wpAny_getItem_list_neg (Q:=λr s'=>r=w/\EP X aA Y Q r s') pl.isList (by lia) (by rw[mD]<;>lia) (by lia) (by rw[hj];simpa using ew) ⟨rfl,fin⟩) hs
def xFa:bG X (wm X.K):=by
 intro value slice aA s Y H x y v u Q I rx ry h hs;obtain⟨p,xs,i,z,rfl,rfl,hq,he,q⟩:=h;cases rx;obtain⟨t,rfl⟩:=ry;obtain⟨dA,r,pl,hz⟩:=I.tuple hq;obtain⟨j,h1,h2,h3,h4,h5⟩:=B0 he;obtain⟨w,ew,nJ⟩:=r.get h2;have hl:=r.length;have hn:=eO;have fin:EP X aA Y Q w s:=⟨z,H,I,nJ,q⟩
 exact Bq (x:=w) pl.typeIs jP.lookup
  (getItem_tuple (j:=j) (Q:=λr s'=>r=w/\EP X aA Y Q r s') pl (by lia) (by lia) (by rw[mD,<- hl];exact h1) (by simpa using ew) ⟨rfl,fin⟩) hs
def wFa:bG X rX:=by
 intro value slice aA s Y H x y v u Q I rx ry h hs;obtain⟨z,i,c,rfl,rfl,hz,he,q⟩:=h;obtain⟨t,rfl⟩:=rx;obtain⟨t',rfl⟩:=ry;obtain⟨j,h1,h2,h3,h4,h5⟩:=B0 he;have hl:z.cps.toList.length=z.length:=by simp[Str.length]
 rw[hl] at h1 h4 h5;have hn:=eO
 exact tail_any (typeIs_str s z t) slot_str_getitem.lookup (getItem_str (by
  have e1:decide (i < -(2 ^ 63:Int))=false:=WB (by lia);have e2:decide (i >= 2 ^ 63)=false:=WB (by lia)
  rw[e1,e2,vR]) (by rw[h1];simpa using h2) ⟨.str ⟨#[c]⟩,H,I.tok _,⟨_,rfl⟩,q⟩) hs
def rIx(K:gA):R2:=λx y H Q=>vm K x y H Q\/wm K x y H Q\/rX x y H Q
def vFa:bG X (rIx X.K):=tFa.or (xFa.or wFa)
def gKa(dA:List cA)(n j:Nat)(u:cA):nN (·.setIfInBounds j u) { cls:=.type "list",data:=.seq dA.toArray n }={ cls:=.type "list",data:=.seq (dA.set j u).toArray n }:=by
 simp[nN]
theorem eA.l(I:eA X aA Y H s)(h:H p=some (.l xs)) :
  ∃(dA:List cA) (n:Nat),aAc xs dA/\s.heap.get? p=some { cls:=.type "list",data:=.seq dA.toArray n }/\xs.length<=sizeLine:=by
 obtain⟨z,dA,n,r,e⟩:=I.KA p _ h;exact⟨dA,n,r,e,z⟩
def eA.yJa{dA its':List cA}(I:eA X aA Y H s)(h:H p=some (.l xs))
  (ho:s.heap.get? p=some { cls:=.type "list",data:=.seq dA.toArray n }) (hf:f { cls:=.type "list",data:=.seq dA.toArray n }={ cls:=.type "list",data:=.seq its'.toArray n' }) (r:aAc ys its') (hz:ys.length<=sizeLine) (t:Nat) :
  eA X aA Y (CA H p (.l ys)) { s with heap:=s.heap.update p f,toks:=t }:=by
 have e:(s.heap.update p f).get? p=some { cls:=.type "list",data:=.seq its'.toArray n' }:=by(rw[CY f ho (by rw[hf]<;>rfl),hf])
 refine I.write (x:=p) (e:=p) (by rw[h];trivial) (.inl rfl) (λb u hb q=>(cR _ _ (hE hb)).trans q) ⟨_,e⟩ ?_;exact⟨hz,its',n',r,e⟩
def xm:V->V->V->Hp->(Hp->Prop)->Prop:=λo i v H Q=>∃p xs k j,o=.ref p/\i=.int k/\H p=some (.l xs)/\kG xs.length k=some j/\Q (CA H p (.l (xs.set j v)))
def aAV:TZ X xm:=by
 intro aA s Y H o i v ov iv u Q I ro ri rv h;obtain⟨p,xs,k,j,rfl,rfl,hp,hj,q⟩:=h;cases ro;obtain⟨t,rfl⟩:=ri;obtain⟨dA,n,r,ho,hz⟩:=I.l hp;obtain⟨h1,h2,h3,h4⟩:=mi hj;have hl:=r.length;have hn:=eO
 have I':eA X aA Y (CA H p (.l (xs.set j v))) { s with heap:=s.heap.update p (nN (·.setIfInBounds j u)) } :=
  I.yJa hp ho (gKa dA n j u) (r.set rv j) (by rw[SG];exact hz) s.toks
 by_cases h0:0<=k
 ·have hk:k.toNat=j:=by
   rw[Bd h0 h4] at h1;exact ZD h1
  exact PySem.W.ki_setAt ho h0 (by lia) (by rw[mD,<- hl];exact h4) (by rw[hk];exact⟨_,I',q⟩)
 ·have hk:(k+(dA.toArray.size:Int)).toNat=j:=by
   rw[vd (by lia) h3] at h1;rw[mD,<- hl];exact ZD h1
  exact PySem.W.ki_setBack ho (by lia) (by rw[mD,<- hl];exact h3) (by lia) (by rw[hk];exact⟨_,I',q⟩)
def uXa(lo hi:Option Int)(n:Nat):(sliceBounds lo hi none n).1=((HT.fB n 0 lo:Nat):Int)/\(sliceBounds lo hi none n).2.1=((HT.fB n n hi:Nat):Int)/\(sliceBounds lo hi none n).2.2=1:=by
 refine⟨?_, ?_,rfl⟩
 ·cases lo with
  |none=>simp[sliceBounds,HT.fB]
  |some i =>
   simp only[sliceBounds,HT.fB,Yr,show(1:Int) > 0 by decide,if_true];by_cases h:i<0
   ·simp only[h,if_true]<;>lia
   ·simp only[h,rH]<;>lia
 ·cases hi with
  |none=>simp[sliceBounds,HT.fB]
  |some i =>
   simp only[sliceBounds,HT.fB,Yr,show(1:Int) > 0 by decide,if_true];by_cases h:i<0
   ·simp only[h,if_true]<;>lia
   ·simp only[h,rH]<;>lia
def tXa(dA:List cA)(lo hi:Option Int):slicePick dA.toArray lo hi none=((dA.drop (HT.fB dA.length 0 lo)).take (HT.fB dA.length dA.length hi-HT.fB dA.length 0 lo)).toArray:=by
 obtain⟨h1,h2,h3⟩:=uXa lo hi dA.toArray.size;unfold slicePick;rw[h1,h2,h3];simp only[sliceRange_one,pick_run,mD]<;>rfl
def aVa(K:gA):V->Option Int->Option Int->Hp->VK->Prop:=λx lo hi H Q=>∃a xs,x=.ref a/\EB K H a xs/\∀p,H p=none->Q (.ref p) (CA H p (.l (UK xs lo hi)))
def nXa:GJ X (aVa X.K):=by
 intro aA s Y H x v vl vu lo hi sl Q I rx hs pl pu h;obtain⟨a,xs,rfl,hx,q⟩:=h;cases rx;obtain⟨dA,r,ht,hz⟩:=I.list hx;have AB:=r.length;refine⟨"list",_,Hr.lookup,ht.isList.typeIs, ?_⟩;refine wpAny_getItem_list_slice ht.isList hs pl pu .none (by simp) ?_ (by rw[mD]<;>lia);rw[tXa,<- AB];refine⟨.ref s.heap.objs.size,_,I.laid (t':=s.toks) (o:=.l (UK xs lo hi)) (λb ob q=>wC _ q) (mB _) ?_,rfl,q _ (I.KA.fresh (mB _))⟩;exact⟨XC (Kf xs lo hi) hz,_,0,(r.drop (HT.fB xs.length 0 lo)).take (HT.fB xs.length xs.length hi-HT.fB xs.length 0 lo),iE _ rfl⟩
noncomputable def NJ:V->Bool
 |.lA=>true
 |.bl _=>true
 |.int _=>true
 |.str _=>true
 |_=>false
noncomputable def ZK:V->V->Bool
 |.lA,.lA=>true
 |.bl a,.bl b=>a==b
 |.bl a,.int b=>(if a then 1 else 0)==b
 |.int a,.bl b=>a==(if b then 1 else 0)
 |.int a,.int b=>a==b
 |.str a,.str b=>a==b
 |_,_=>false
def Xy(ry:aAe y u)(rx:aAe x v)(fy:NJ y=true)(fx:NJ x=true):xZ A s u v (ZK y x):=by
 cases y with
 |lA =>
  cases ry
  cases x with
  |lA=>cases rx;exact SeqAt.EqAt.same _
  |bl b=>cases rx;exact SeqAt.EqAt.none_bool b
  |int b=>obtain⟨t,rfl⟩:=rx;exact SeqAt.EqAt.none_int b t
  |str b=>obtain⟨t,rfl⟩:=rx;exact SeqAt.EqAt.none_str b t
  |_=>exact absurd (show false=true from fx) SD
 |bl a =>
  cases ry
  cases x with
  |lA=>cases rx;exact SeqAt.EqAt.bool_none a
  |bl b=>cases rx;exact SeqAt.EqAt.bool_bool a b
  |int b=>obtain⟨t,rfl⟩:=rx;exact SeqAt.EqAt.bool_int a b t
  |str b=>obtain⟨t,rfl⟩:=rx;exact SeqAt.EqAt.bool_str a b t
  |_=>exact absurd (show false=true from fx) SD
 |int a =>
  obtain⟨t',rfl⟩:=ry
  cases x with
  |lA=>cases rx;exact SeqAt.EqAt.int_none a t'
  |bl b=>cases rx;exact SeqAt.EqAt.int_bool a t' b
  |int b=>obtain⟨t,rfl⟩:=rx;exact kr a t' b t
  |str b=>obtain⟨t,rfl⟩:=rx;exact gr a t' b t
  |_=>exact absurd (show false=true from fx) SD
 |str a =>
  obtain⟨t',rfl⟩:=ry
  cases x with
  |lA=>cases rx;exact SeqAt.EqAt.str_none a t'
  |bl b=>cases rx;exact SeqAt.EqAt.str_bool a t' b
  |int b=>obtain⟨t,rfl⟩:=rx;exact ir a t' b t
  |str b=>obtain⟨t,rfl⟩:=rx;exact SeqAt.EqAt.str_str a t' b t
  |_=>exact absurd (show false=true from fx) SD
 |_=>exact absurd (show false=true from fy) SD
def FG(x:V)(u:cA):Bool:=match u with
 |.none=>ZK .lA x
 |.bool b=>ZK (.bl b) x
 |.int i _=>ZK (.int i) x
 |.str z _=>ZK (.str z) x
 |_=>false
def Tf(r:aAe y u)(f:NJ y=true):FG x u=ZK y x:=by
 cases y with
 |lA=>cases r;rfl
 |bl b=>cases r;rfl
 |int i=>obtain⟨t,rfl⟩:=r;rfl
 |str z=>obtain⟨t,rfl⟩:=r;rfl
 |_=>exact absurd (show false=true from f) SD
def YU(h:aAc xs us)(f:xs.all NJ=true):us.any (FG x)=xs.any λy=>ZK y x:=by
 induction h with
 |nil=>rfl
 |cons r t ih =>
  rw[WC,WA] at f;rw[ZO,ZO,Tf r f.1,ih f.2]
def NW(rx:aAe x v)(fx:NJ x=true)(h:aAc xs us)(f:xs.all NJ=true):∀u∈us,xZ A s u v (FG x u):=by
 induction h with
 |nil=>exact λu hu=>nomatch hu
 |cons r t ih =>
  intro u' hu;rw[WC,WA] at f;rcases wD.mp hu with rfl | hu
  ·rw[Tf r f.1];exact Xy r rx f.1 fx
  ·exact ih f.2 u' hu
def BW(x:V)(xs:List V):Bool:=xs.any λy=>ZK y x
def um(K:gA)(neg:Bool):R2:=λx y H Q=>∃p xs,y=.ref p/\(EB K H p xs\/sC K H p xs)/\NJ x=true/\xs.all NJ=true/\Q (.bl (if neg then !BW x xs else BW x xs)) H
def Wk:yC X (bE .In) (um X.K false):=by
 intro aA s Y H x y v u Q I rx ry h;obtain⟨p,xs,rfl,hq,fx,fs,q⟩:=h;cases ry;rcases hq with hq | hq
 ·obtain⟨dA,r,pl,hz⟩:=I.list hq;refine SeqAt.in_listAt (FG x) pl.isList (λw hw=>NW rx fx r fs w (by simpa using hw)) ⟨.bl _,H,I,rfl, ?_⟩;rw[show dA.toArray.any (FG x)=dA.any (FG x) by simp,YU r fs];exact q
 ·obtain⟨dA,r,pl,hz⟩:=I.tuple hq;refine SeqAt.in_tupleAt (FG x) pl (λw hw=>NW rx fx r fs w (by simpa using hw)) ⟨.bl _,H,I,rfl, ?_⟩;rw[show dA.toArray.any (FG x)=dA.any (FG x) by simp,YU r fs];exact q
def Xk:yC X (bE .NotIn) (um X.K true):=by
 intro aA s Y H x y v u Q I rx ry h;obtain⟨p,xs,rfl,hq,fx,fs,q⟩:=h;cases ry;rcases hq with hq | hq
 ·obtain⟨dA,r,pl,hz⟩:=I.list hq;refine SeqAt.notIn_listAt (FG x) pl.isList (λw hw=>NW rx fx r fs w (by simpa using hw)) ⟨.bl _,H,I,rfl, ?_⟩;rw[show dA.toArray.any (FG x)=dA.any (FG x) by simp,YU r fs];exact q
 ·obtain⟨dA,r,pl,hz⟩:=I.tuple hq;refine SeqAt.notIn_tupleAt (FG x) pl (λw hw=>NW rx fx r fs w (by simpa using hw)) ⟨.bl _,H,I,rfl, ?_⟩;rw[show dA.toArray.any (FG x)=dA.any (FG x) by simp,YU r fs];exact q
def O1:FF X (.builtin "len") (λxs H Q=>∃p ys,xs=[.ref p]/\(EB X.K H p ys\/sC X.K H p ys)/\Q (.int ys.length) H):=by
 intro aA s Y H xs us Q I r h;obtain⟨p,ys,rfl,hq,q⟩:=h;obtain⟨u,rfl,rx⟩:=aAy r;cases rx;have hn:=eO;rcases hq with hq | hq
 ·obtain⟨dA,r',pl,hz⟩:=I.list hq;have AB:=r'.length;exact Calls.call_len_list pl.isList (by simp only[mD]<;>lia) ⟨.int ys.length,H,I.tok _,⟨s.toks+1,by rw[mD,AB]⟩,q⟩
 ·obtain⟨dA,r',pl,hz⟩:=I.tuple hq;have AB:=r'.length;exact len_tuple pl (by simp only[mD]<;>lia) ⟨.int ys.length,H,I.tok _,⟨s.toks+1,by rw[mD,AB]⟩,q⟩
def Ux:FF X (.builtin "len") (λxs H Q=>∃z,xs=[.str z]/\z.length<=sizeLine/\Q (.int z.length) H):=by
 intro aA s Y H xs us Q I r h;obtain⟨z,rfl,hz,q⟩:=h;obtain⟨u,rfl,t,rfl⟩:=aAy r;have hn:=eO;exact len_str (by lia) ⟨.int z.length,H,I.tok _,⟨_,rfl⟩,q⟩
def ff:FF X (.type "list") (λxs H Q=>∃p ys,xs=[.ref p]/\(EB X.K H p ys\/sC X.K H p ys)/\∀l,H l=none->Q (.ref l) (CA H l (.l ys))):=by
 intro aA s Y H xs us Q I r h;obtain⟨p,ys,rfl,hq,q⟩:=h;obtain⟨u,rfl,rx⟩:=aAy r;cases rx
 have fin:∀(dA:List cA),aAc ys dA->ys.length<=sizeLine->∀(h':jB) (c':Nat),(∀b o',s.heap.get? b=some o'->h'.get? b=some o') ->
   h'.get? s.heap.objs.size=some { cls:=.type "list",dict:=none,data:=.seq dA.toArray c',slots:=#[] }->EP X aA Y Q (.ref s.heap.objs.size) { s with heap:=h' }:=λdA r' hz h' c' kp e =>
  ⟨.ref s.heap.objs.size,_,I.laid (t':=s.toks) kp (mB _) (show nD X.prog X.w _ h' _ (.l ys) from⟨hz,dA,c',r',e⟩),rfl,q _ (I.KA.fresh (mB _))⟩
 rcases hq with hq | hq
 ·obtain⟨dA,r',pl,hz⟩:=I.list hq;have AB:=r'.length;obtain⟨o,ho,hc,n,hd⟩:=pl.isList;exact call_list_seq p (.inl rfl) ho hc hd (λh' c' kp e=>fin dA r' hz h' c' kp e) (by simp only[mD]<;>lia)
 ·obtain⟨dA,r',pl,hz⟩:=I.tuple hq;have AB:=r'.length;obtain⟨o,ho,hc,n,hd⟩:=pl;exact call_list_seq p (.inr rfl) ho hc hd (λh' c' kp e=>fin dA r' hz h' c' kp e) (by simp only[mD]<;>lia)
def gf:FF X (.type "tuple") (λxs H Q=>∃p ys,xs=[.ref p]/\((EB X.K H p ys/\∀l,H l=none->Q (.ref l) (CA H l (.t ys)))\/(sC X.K H p ys/\Q (.ref p) H))):=by
 intro aA s Y H xs us Q I r h;obtain⟨p,ys,rfl,h⟩:=h;obtain⟨u,rfl,rx⟩:=aAy r;cases rx;rcases h with ⟨hq,q⟩ | ⟨hq,q⟩
 ·obtain⟨dA,r',pl,hz⟩:=I.list hq;have AB:=r'.length;refine call_tuple_list pl.isList (λh' kp=>?_) (by simp only[mD]<;>lia);have I1:eA X aA Y H { s with heap:=h' }:=I.kept (t':=s.toks) kp
  have I2:eA X aA Y (CA H h'.objs.size (.t ys)) { s with heap:=h'.push { cls:=.type "tuple",data:=.seq dA.toArray } } :=
   I1.laid (t':=s.toks) (λb o e=>wC _ e) (mB _) (show nD X.prog X.w _ _ _ (.t ys) from⟨hz,dA,r',Ld _ _⟩)
  exact⟨.ref h'.objs.size,_,I2,rfl,q _ (I1.KA.fresh (mB _))⟩
 ·obtain⟨dA,r',pl,hz⟩:=I.tuple hq;exact call_tuple_same pl ⟨.ref p,H,I,rfl,q⟩
def Fp(K:gA)(T:String)(x:V)(H:Hp):Prop:=match x with
 |.str _=>T="str"
 |.int _=>T="int"
 |.ref p=>(T="list"/\∃xs,EB K H p xs)\/(T="tuple"/\∃o,K.lookup p=some o/\o.cls=.type "tuple"/\o.dict=none) \/
   (T="dict"/\∃iC,H p=some (.dK iC))\/(T="set"/\∃S n,H p=some (.set S n))
 |_=>False
def k1a(I:eA X aA Y H s)(r:aAe x v)(ty:Fp X.K T x H) :
  s.TypeIs v T/\∀a,v=.ref a->∃ob,s.heap.get? a=some ob/\ob.dict=none:=by
 cases x with
 |str z =>
  obtain⟨t,rfl⟩:=r;cases (show T="str" from ty);exact⟨typeIs_str s z t,λ_ e=>nomatch e⟩
 |int i =>
  obtain⟨t,rfl⟩:=r;cases (show T="int" from ty);exact⟨Fd s i t,λ_ e=>nomatch e⟩
 |ref p =>
  cases r;rcases ty with ⟨rfl,xs,hq⟩ | ⟨rfl,o,hk,hc,hd⟩ | ⟨rfl,hk⟩ | ⟨rfl,S,n,hk⟩
  ·obtain⟨dA,_,pl,_⟩:=I.list hq;refine⟨pl.isList.typeIs,λa e=>?_⟩;cases e;obtain⟨o,n,e,c,hd,_⟩:=pl;exact⟨o,e,hd⟩
  ·refine⟨⟨o,I.WD p o hk,hc⟩,λa e=>?_⟩;cases e;exact⟨o,I.WD _ o hk,hd⟩
  ·have z:∃o,s.heap.get? p=some o/\o.ExactDict:=by
    obtain⟨iC,hk⟩:=hk;obtain⟨_,_,_,_,o,_,_,e,ex,_⟩:=I.KA p _ hk;exact⟨o,e,ex⟩
   obtain⟨o,e,ex⟩:=z;refine⟨⟨o,e,ex.1⟩,λa e2=>?_⟩;cases e2;exact⟨o,e,ex.2.1⟩
  ·obtain⟨o,_,_,_,e,ex,_⟩:=I.KA p _ hk;refine⟨⟨o,e,ex.1⟩,λa e2=>?_⟩;cases e2;exact⟨o,e,ex.2.1⟩
 |_=>exact uG ty
def tBM(K:gA)(T:String)(r:V->List V->Hp->VK->Prop)(to:TE)(t:TA):TE:=λY H Q=>to Y H λx H1=>Fp K T x H1/\t Y H1 λxs H2=>r x xs H2 Q
variable{T id:String}
def xl(pa:PlainAttrs T)(slot:Slot T name id)(M6:typeOf (.builtin id)=pure (.type "method_descriptor"))(hm:Xd X id r)(ho:PE X o to)(ha:PA X (e::es) t)
  (hBa:attributeBase o name X.env (eval o X.env)=eval o X.env:=by rfl)
  (xBa:((UE OC (YB (e::es) X.env)).all (λx=>!x.1)&&(backToKw OC (keywordEach [] X.env)).all (λx=>x.1.isSome)
   && decide ((e::es).length+([]:List BZ).length+(if([]:List BZ).isEmpty then 0 else 1)<30))=true:=by rfl)
  (lCa:(OB.endLine==OC.line)=true:=by rfl) (hs:YB (e::es) X.env=(false,eval e X.env)::YB es X.env:=by rfl) (fDa:(UE OC (YB es X.env)).any (·.1)=false:=by rfl) :
  PE X (.Call (.Attribute o name OB) (e::es) [] OC) (tBM X.K T r to t):=by
 intro aA s Y H Q I h;refine wpAny_Call_method_late hBa xBa lCa rfl (OA (ho aA s Y H _ I h) λv s1 hz=>?_);obtain⟨x,H1,I1,r1,ty,q1⟩:=hz;obtain⟨h1,h2⟩:=k1a I1 r1 ty;refine⟨T,id,pa,slot,M6,h1,h2, ?_⟩;have hA:=ha OC aA s1 Y H1 _ I1 q1;rw[hs] at hA ⊢;refine Calls.callWith_builtin (by show(false||(UE OC (YB es X.env)).any (·.1))=false;rw[fDa]<;>rfl) (Calls.evalArgs_plain ?_);exact OA hA λus s2 hz=>(by obtain⟨vs,H2,I2,r2,q2⟩:=hz;exact hm aA s2 Y H2 x vs v us Q I2 r1 r2 q2)
end
def Wd(X:Cx)(id:String)(r:V->List V->Hp->VK->Prop):Prop :=
 ∀(aA:List (fA×nB)) (s:qA) (Y:St) (H:Hp) (x:V) (xs:List V) (v:cA) (us:List cA) (Q:VK),eA X aA Y H s->aAe x v->aAc xs us->r x xs H Q ->
  nA (model X.prog X.w) X.A (call (.builtin id) (v::us)) (EP X aA Y Q) X.xe s
def aAc.one{x:V}{us:List cA}(h:aAc [x] us):∃u,us=[u]/\aAe x u:=by
 cases h with | cons r t=>cases t;exact⟨_,rfl,r⟩
theorem aAc.eraseIdx:∀{xs:List V} {us:List cA} (i:Nat),aAc xs us->aAc (xs.eraseIdx i) (us.eraseIdx i)
 |_,_,_,.nil=>.nil
 |_,_,0,.cons _ t=>t
 |_,_,i+1,.cons r t=>.cons r (aAc.eraseIdx i t)
theorem aAc.rep(h:aAc xs us):∀k:Nat,aAc (LB k xs).flatten (LB k us).flatten
 | 0=>.nil
 |k+1=>by(rw[YM,YM,NO,NO];exact aAc.append h (aAc.rep h k))
theorem Gj:∀(l:List O) (i:Nat),(l.eraseIdx i).length<=l.length
 |[],_=>mB _
 |_::_,0=>wK _
 |_::r,i+1=>SO (Gj r i)
theorem aAP(dA:List cA):∀(k:Nat) (rA:List cA),
  Jd (λx1 x2=>x1++x2) rA.toArray (LB k dA.toArray)=(rA++(LB k dA).flatten).toArray
 | 0,rA=>by simp
 |k+1,rA=>by
  have e:rA.toArray++dA.toArray=(rA++dA).toArray:=by simp
  have e2:(rA++dA)++(LB k dA).flatten=rA++(LB (k+1) dA).flatten:=by(rw[YM,NO,BJ])
  rw[<- e2,<- aAP dA k (rA++dA),<- e,YM,eN]
section
variable{X:Cx}{aA:List (fA×nB)}{Y:St}{H:Hp}{s:qA}{l b:fA}{xs ys zs:List V}
def eA.Wj{dA its':List cA}(I:eA X aA Y H s)(hH:H l=some (.l xs))
  (e:s.heap.get? l=some { cls:=.type "list",data:=.seq dA.toArray n }) (hf:f dA.toArray=its'.toArray) (hv:aAc ys its') (hz:ys.length<=sizeLine) :
  eA X aA Y (CA H l (.l ys)) { s with heap:=s.heap.update l (nN f),toks:=t' }:=by
 have q:=PySem.IsL.update e f;rw[hf] at q;refine I.write (x:=l) (e:=l) (by rw[hH];exact trivial) (.inl rfl) (λb' u hb hu=>(cR s.heap (nN f) (hE hb)).trans hu) ⟨_,q⟩ ?_;exact⟨hz,its',_,hv,q⟩
def eA.C8(I:eA X aA Y H s)(hv:aAc ys dA)(hz:ys.length<=sizeLine) :
  eA X aA Y (CA H s.heap.objs.size (.l ys)) { s with heap:=s.heap.push { cls:=.type "list",data:=.seq dA.toArray },toks:=t' } :=
 I.laid (λ_ _ q=>wC _ q) (mB _) ⟨hz,dA,0,hv,iE _ rfl⟩
theorem eA.fresh(I:eA X aA Y H s):H s.heap.objs.size=none:=I.KA.fresh (mB _)
def eA.G8(I:eA X aA Y H s)(hH:H l=some (.l xs)):xs.length<=sizeLine/\∃(dA:List cA) (n:Nat),aAc xs dA/\xs.length=dA.length/\s.heap.get? l=some { cls:=.type "list",data:=.seq dA.toArray n }:=by
 obtain⟨z,dA,n,r,e⟩:=I.KA l _ hH;exact⟨z,dA,n,r,r.length,e⟩
def nMa(h:n<=sizeLine):Nb n=false:=by
 unfold Nb;exact WB (by lia)
end
section
variable{X:Cx}
def nUa:V->List V->Hp->VK->Prop:=λx vs H Q=>∃l xs y,x=.ref l/\vs=[y]/\H l=some (.l xs)/\xs.length<sizeLine/\Q .lA (CA H l (.l (xs++[y])))
def ik:Wd X "list.append" nUa:=by
 intro aA s Y H x vs v us Q I rx rv h;obtain⟨l,xs,y,rfl,rfl,hH,hz,q⟩:=h;cases rx;obtain⟨u,rfl,ru⟩:=rv.one;obtain⟨z,dA,n,r,hl,e⟩:=I.G8 hH;refine yZ Hq ⟨_,e,rfl⟩ F.entry_list_append (F.args_list_append_2 _ _) (PySem.list_append l dA.toArray n u (by rw[mD];lia)) ⟨e, ?_⟩;refine⟨.lA,_,I.Wj (its':=dA++[u]) hH e (by simp) (r.append (.cons ru .nil)) ?_,rfl,q⟩;rw[oC,oN]
 lia
def vUa:V->List V->Hp->VK->Prop:=λx vs H Q=>∃l xs i k y,x=.ref l/\vs=[.int i]/\H l=some (.l xs)/\-(2 ^ 63)<=i/\i<2 ^ 63/\seqIndex? i xs.length=some k/\xs[k]?=some y/\Q y (CA H l (.l (xs.eraseIdx k)))
def bLa:Wd X "list.pop" vUa:=by
 intro aA s Y H x vs v us Q I rx rv h;obtain⟨l,xs,i,k,y,rfl,rfl,hH,h1,h2,hk,hy,q⟩:=h;cases rx;obtain⟨u,rfl,ru⟩:=rv.one;obtain⟨t,rfl⟩:=ru;obtain⟨z,dA,n,r,hl,e⟩:=I.G8 hH;obtain⟨w,hw,nJ⟩:=r.get hy
 refine yZ mr ⟨_,e,rfl⟩ F.entry_list_pop (F.args_list_pop_2 _ _)
  (MeetsSeq.list_pop_at l dA.toArray n i t k w (fitsIndex_both h1 h2) (by rw[mD,<- hl];exact hk) (by rw[<- mU];exact hw) (by rw[mD];lia)) ⟨e, ?_⟩
 refine⟨y,_,I.Wj (its':=dA.eraseIdx k) hH e ?_ (r.eraseIdx k) ?_,nJ,q⟩
 ·show dA.toArray.eraseIdxIfInBounds k=(dA.eraseIdx k).toArray;rw[List.eraseIdxIfInBounds_toArray]
 ·have:=Gj xs k
  lia
def wUa:R2:=λx y H Q=>∃l k xs,x=.ref l/\y=.int k/\H l=some (.l xs)/\-(2 ^ 63)<=k/\k<2 ^ 63/\xs.length*k.toNat<=sizeLine /\
 ∀p,H p=none->Q (.ref p) (CA H p (.l (LB k.toNat xs).flatten))
def aAX(xs:List O)(k:Nat):(LB k xs).flatten.length=k*xs.length:=by
 induction k with
 |zero=>simp
 |succ k ih=>rw[YM,NO,oC,ih,Nat.succ_mul,Nat.add_comm]
def lPa:yC X (gF .Mult) wUa:=by
 intro aA s Y H x y v u Q I rx ry h;obtain⟨l,k,xs,rfl,rfl,hH,h1,h2,hz,q⟩:=h;cases rx;obtain⟨t,rfl⟩:=ry;obtain⟨z,dA,n,r,hl,e⟩:=I.G8 hH;have AB:dA.toArray.size*k.toNat<=sizeLine:=by rw[mD,<- hl];exact hz
 have mBa:¬dA.toArray.size*k.toNat > (2 ^ 63-1) / 8:=by
  have:(sizeLine:Nat)<=(2 ^ 63-1) / 8:=by decide
  lia
 have RJ:¬(!Builtin.List.listFitsIndex k)=true:=by(rw[fitsIndex_both h1 h2];exact SD)
 have mCa:¬Nb (dA.toArray.size*k.toNat)=true:=by(rw[nMa AB];exact SD)
 have vCa:Jd (λx1 x2=>x1++x2) #[] (LB (if dA.toArray.isEmpty=true then 0 else k.toNat) dA.toArray)=(LB k.toNat dA).flatten.toArray:=by
  have f0:∀m:Nat,Jd (λx1 x2=>x1++x2) #[] (LB m dA.toArray)=(LB m dA).flatten.toArray:=λm=>by
   have:=aAP dA m []
   rw[WO] at this;exact this
  rw[f0]
  cases dA with
  |nil=>simp
  |cons a r'=>rw[LA (by simp)]
 refine wpAny_binaryOp_repeat_ref (T:="list") (U:="int") (by decide) ⟨_,e,rfl⟩ (λs'=>Fd s' k t) noFill_list_mul F.fills_int_mul Ks repeat_list F.slot_int_index.lookup
  (yZ Ks (Fd s k t) F.entry_int_rmul (F.args_int_rmul_2 _ _) (int___rmul___int_list k t l dA.toArray n)
   ⟨e,rfl,⟨_,e,rfl⟩,yZ F.slot_list_mul ⟨_,e,rfl⟩ F.entry_list_mul (F.args_list_mul_2 _ _) (AutoListH.list___mul___list_int_3 l dA.toArray n k t RJ mBa mCa) ⟨e, ?_⟩⟩)
 rw[vCa];exact⟨.ref _,_,I.C8 (t':=s.toks) (r.rep k.toNat) (by rw[aAX,Nat.mul_comm];exact hz),rfl,q _ I.fresh⟩
end
end L2
namespace Att
open PySem PySem.W PySem.Calls PyProof.Rows
def fEa:∀(ns:List Int) (vs:List cA),WellAll P h vs (ns.map WData.int)->IntsAre vs ns:=by
 intro ns
 induction ns with
 |nil =>
  intro vs w;rw[kN] at w;cases w;exact .nil
 |cons n ns ih =>
  intro vs w;rw[KC] at w
  cases w with
  |cons a b =>
   cases a;exact .cons _ _ (ih _ b)
def dXa{l:KU}(hn:l.most=some n)
  (rM:l.row.toRowW.claim.pre args=true) (Q6:WellAll P h vals args) :
  ∃a vs ns,vals=[Value.ref a]/\args=[WData.list (ns.map WData.int)]/\h.get? a=some { cls:=.type "list",data:=.seq vs.toArray }/\IntsAre vs ns/\ns.length<=n:=by
 have hsh:WShape.hasAll [] args [.list .int]=true:=(pre_splitW rM).1;have hc:l.pre.holds [] { args:=args }=true:=(pre_splitW rM).2;obtain⟨d,r,rfl,h1,h2⟩:=hasAllW_cons hsh;obtain rfl:=hasAllW_nil h2;obtain⟨xs,rfl,h3⟩:=hasW_list h1;obtain⟨ns,rfl⟩:=items_int h3
 have AB:ns.length<=n:=by
  unfold OpenLaw.pre at hc
  have h4:(WTm.not (.lt (.lit (.int (n:Int))) (.len (.arg 0)))).holds [] { args:=[.list (ns.map .int)] }=true:=by(have h4:=(holds_andW hc).1;rw[hn] at h4;exact h4)
  have h5:=condW_of h4 (w_not (w_lt w_lit (w_len_list (w_arg rfl))));rw[EA] at h5;refine Jc λq=>?_
  have q':(n:Int)<((ns.length:Nat):Int):=by omega
  first
   | (rw[jC q'] at h5;exact absurd h5 (by decide))
   | (simp at h5;omega)
 cases Q6 with
 |cons w1 w2 =>
  cases w2
  cases w1 with
  |list ho RN=>exact⟨_,_,ns,rfl,rfl,ho,fEa ns _ RN,AB⟩
def lSa(l:KU)(args:List WData):l.row.toRowW.claim.post args (.bool true) args=true :=
 postW_of (r:=l.row.toRowW) (X:=(true==true))
  (show Et [] (.bool true) .bool=true by first | rfl | decide | simp[Et,WShape.arms,WShape.armsAll])
  (show(WTm.eq .res (.lit (.bool true))).value [] { args:=args,res:=some (.bool true),after:=args }=some (.bool (true==true)) from w_eq_bool (w_res rfl) w_lit) rfl
def Vv{l:KU}
  (hn:l.most=some n) (AS:d.params.defaults=[])
  (call:∀(w:NB) (s₀ s₁:qA) (mg mb:bA->Option cA) (fa:fA) (o:nB) (pm cd doc:cA) (a:fA) (vs:List cA) (ns:List Int),
   Ground q loose [] XP w s₀ mg mb s₁.heap->YP w s₁.heap ->
   s₁.heap.get? fa=some o->o.data=.func (docDef d.name d.params d.body d.scope pm cd doc)->s₁.heap.CodeRec cd d.name->mg d.name=some (.ref fa) ->
   s₁.heap.get? a=some { cls:=.type "list",data:=.seq vs.toArray }->IntsAre vs ns->ns.length<=n->s₁.gens=#[] ->
   BK (model l.prog w) callerA (.call (.ref fa) ⟨[.ref a],[]⟩) (λr s'=>r=.ok (.ret (.bool true))/\OldK s₁.heap s'.heap/\s'.os=s₁.os/\AK s'.gens) s₁) :
  Dd q loose XP YP l.row.toRowW d [] (λf vs=>Kd f vs):=by
 intro w s₀ s₁ mg mb G Y fa o pm cd doc dV kV ho hd lI hD lQ hg args vals as rM d5a C6 Q6 TN;obtain rfl:dV=.none:=Dflts.none hD AS;obtain rfl:kV=.none:=Dflts.noKw hD;obtain⟨a,vs,ns,rfl,rfl,A6,hints,AB⟩:=dXa hn rM Q6;refine enter_call (bP (call w s₀ s₁ mg mb fa o pm cd doc a vs ns G Y ho (fd_plain hd) lI lQ A6 hints AB hg) λr s' hq=>?_);obtain⟨rfl,h2,h3,h4⟩:=hq;exact⟨.inl ⟨.bool true,.bool true,[],rfl,λ_=>rfl,.bool true,lSa l _,λ_=>⟨List.Pairwise.nil,λ_ hm=>(nomatch hm)⟩⟩,h2,h3,h4⟩
end Att
namespace L2
open PySem PySem.Spec PyProof.Rows
def o1a(h:IntsAre vs ns):aAc (ns.map V.int) vs:=by
 induction h with
 |nil=>exact .nil
 |cons n t h ih=>exact .cons ⟨t,rfl⟩ ih
def RZ(H:Hp):Prop:=∀b,H b=none\/∃o xs,H b=some (.ID o (.l xs))
def uIa{K:gA}
  (KX:K.In s₁.heap) (nI:s₁.heap.Ns IB mg) (hb:s₁.heap.Ns builtinsNs mb) (hbb:∀x:bA,x≠"__name__"->mb x=NL x) (kCa:s₁.heap.NoLimit) (hg:s₁.gens=#[])
  (ha:s₁.heap.get? a=some { cls:=.type "list",data:=.seq vs.toArray }) (hi:IntsAre vs ns) (hl:ns.length<=sizeLine) (hr:zC k callerA)
  (F:∀base:jB,K.In base->base.Ns IB mg->sE P w K mg base CX k fa fd [x] sp) (jBa:∀(s:qA) (u:cA),AZ s fd ⟨[u],[]⟩ [(x,u)])
  (QH:∀H:Hp,RZ H->EB K H a (ns.map V.int)->sp [.ref a] H (λv _=>v=.bl true) λ_ _ _=>False)
  (M5:∀H e s',CX [] H s₁ (λ_ _ _=>False) e s'->False) :
  BK (model P w) callerA (.call (.ref fa) ⟨[.ref a],[]⟩) (λr s'=>r=.ok (.ret (.bool true))/\OldK s₁.heap s'.heap/\s'.os=s₁.os/\AK s'.gens) s₁:=by
 have rv:=o1a hi;have lJa:=hi.length
 -- from an abstract heap in h7a nothing but AE script may be tracked
 have core:∀H:Hp,RZ H->EB K H a (ns.map V.int)->yD P w H s₁.heap->(∀b,H b≠none->b=a)->(H a≠none->K.lookup a=none) ->
   BK (model P w) callerA (.call (.ref fa) ⟨[.ref a],[]⟩) (λr s'=>r=.ok (.ret (.bool true))/\OldK s₁.heap s'.heap/\s'.os=s₁.os/\AK s'.gens) s₁:=by
  intro H hO hS KA hA hK;have base_of:∀{b:fA} {o:nB},s₁.heap.get? b=some o->H b=none->(lL s₁.heap H).get? b=some o:=λe n=>dCa e n
  have mT:∀{b:fA} {o:nB} {es:Array DictEntry} {ep:Nat},s₁.heap.get? b=some o->o.data=.dict es ep->H b=none:=λ{b o es ep} e d=>by
   cases q:H b with
   |none=>rfl
   |some u =>
    have e':b=a:=hA b (by rw[q];simp);subst e';rw[ha] at e;cases e;have d':Data.seq vs.toArray _=Data.dict es ep:=d;cases d'
  have gX:∀{b:fA} {m:bA->Option cA},s₁.heap.Ns b m->(lL s₁.heap H).Ns b m:=λ{b m} ⟨o,es,ep,e,d,r⟩=>⟨o,es,ep,base_of e (mT e d),d,r⟩
  have Kg:K.In (lL s₁.heap H):=λb o e=>base_of (KX b o e) (by
   cases q:H b with
   |none=>rfl
   |some u =>
    have e':b=a:=hA b (by rw[q];simp);subst e'
    rw[hK (by rw[q];simp)] at e;cases e)
  have hM:Mod K mg (lL s₁.heap H):=⟨Kg,gX nI,⟨mb,gX hb,hbb⟩,let ⟨mc,h1,h2⟩:=kCa;⟨mc,gX h1,h2⟩⟩
  have e0:sN P w K mg (lL s₁.heap H) callerA [] s₁ H:=⟨rfl,hM,λb o e=>xMa e,uK (eCa _ _),trivial,λb hb=>absurd (show b∈([]:List fA) from hb) (by simp),KA,.of_eq hg⟩
  refine bP ((F _ Kg (gX nI)).run callerA [] s₁ H ⟨[.ref a],[]⟩ [.ref a] [.ref a] _ _ hr e0 (jBa s₁ (.ref a)) (.cons rfl .nil) (QH H hO hS)) λr s' h=>?_
  cases r with
  |error e=>exact(M5 H e s' h).elim
  |ok fl =>
   cases fl with
   |next=>exact uG h
   |brk=>exact uG h
   |cont=>exact uG h
   |ret u =>
    obtain⟨v,H',os,bare,un,aDa,r',q⟩:=h;have q':v=.bl true:=q;subst q';obtain rfl:u=Value.bool true:=r';refine⟨rfl,OldK.of_keep λb o e=>?_,os,bare⟩
    cases q:H b with
    |none=>exact un.keep b o e q (by intro z;exact absurd (show b∈([]:List fA) from z) (by simp)) (by simp)
    |some u =>
     rcases hO b with z | ⟨ob,xs,z⟩
     ·rw[q] at z;cases z
     ·have z2:=un.eL b ob _ z;obtain⟨e1,_⟩:=KA b _ z;obtain⟨e2,_⟩:=aDa b _ z2;rw[e] at e1;cases e1;exact e2
 cases hk:K.lookup a with
 |some o =>
  -- AE script is one of AE rKa own objects
  have e:=KX a o hk;rw[ha] at e;cases e;refine core (λ_=>none) (λ_=>.inl rfl) (.inr ⟨_,vs.toArray,_,hk,rfl,rfl,rfl,by rw[mD,lJa];exact hl,by simpa using rv⟩) (λb u z=>by have z':(none:Option HO)=some u:=z;cases z') (λb z=>absurd rfl z) λz=>absurd rfl z
 |none =>
  refine core (λb=>if b=a then some (.ID { cls:=.type "list",data:=.seq vs.toArray } (.l (ns.map V.int))) else none) (λb=>?_) (.inl (.inr ⟨{ cls:=.type "list",data:=.seq vs.toArray },GA rfl⟩)) (λb u z=>?_) (λb z=>?_) λ_=>hk
  ·by_cases hb:b=a
   ·exact .inr ⟨_,_,GA hb⟩
   ·exact .inl (LA hb)
  ·by_cases hb:b=a
   ·have z':=(GA hb).symm.trans z;cases z';subst hb;exact⟨ha,by rw[EA];exact hl,vs,_,rv,ha⟩
   ·have z':=(LA hb).symm.trans z;cases z'
  ·by_cases hb:b=a
   ·exact hb
   ·exact absurd (LA hb) z
abbrev uB{K:gA}{h:jB}(_:K.In h):gA:=K
def r1a{l:KU}{K:Params->gA}{CX:NB->VL}{sp:NB->Sp}{x:bA}
  (hn:l.most=some n) (lW:n<=sizeLine) (AS:d.params.defaults=[]) (hr:zC k callerA)
  (hY:∀(w:NB) (h:jB),YP w h->(K w.params).In h)
  (F:∀(w:NB) (mg:bA->Option cA) (fa:fA) (h:jB),(K w.params).In h->h.Ns IB mg->mg d.name=some (.ref fa) ->
   ∃fd:QG,(∀(s:qA) (u:cA),AZ s fd ⟨[u],[]⟩ [(x,u)]) /\
    ∀base:jB,(K w.params).In base->base.Ns IB mg->sE l.prog w (K w.params) mg base (CX w) k fa fd [x] (sp w))
  (QH:∀(w:NB) (H:Hp) (a:fA) (ns:List Int),ns.length<=n->RZ H->EB (K w.params) H a (ns.map V.int)->sp w [.ref a] H (λv _=>v=.bl true) λ_ _ _=>False)
  (M5:∀(w:NB) (H:Hp) (s:qA) (e:cA) (s':qA),CX w [] H s (λ_ _ _=>False) e s'->False) :
  Dd q loose XP YP l.row.toRowW d [] (λf vs=>Kd f vs):=by
 refine Att.Vv hn AS λw s₀ s₁ mg mb fa o pm cd doc a vs ns G Y ho hd lI lQ A6 hints AB hg=>?_
 have KX:=hY w _ Y;obtain⟨fd,hb,hF⟩:=F w mg fa _ KX G.T.g lQ;exact uIa KX G.T.g G.T.b G.T.builtins G.T.nolimit hg A6 hints (XC AB lW) hr hF hb (λH hO hS=>QH w H a ns AB hO hS) λH e s'=>M5 w H s₁ e s'
noncomputable def JH(s:MA):Arguments:=match s with
 |.FunctionDef _ a _ _ _ _ _ _ _ _=>a
 |_=>{ posonlyargs:=[],args:=[],vararg:=none,kwonlyargs:=[],kw_defaults:=[],kwarg:=none,defaults:=[] }
noncomputable def fE(s:MA):List MA:=match s with
 |.FunctionDef _ _ b _ _ _ _ _ _ _=>b
 |_=>[]
noncomputable def dC(s:MA):BF:=match s with
 |.FunctionDef _ _ _ _ _ _ sc _ _ _=>sc
 |_=>{ kind:=.function,names:=[],isGenerator:=false,isCoroutine:=false }
abbrev XG:VL:=λ_ _ _ _ _ _=>False
abbrev E0:XK:=λ_ _ _=>False
def pX:aAC XG X E0:=λ_ _ _ _ _ _ _ h=>h.elim
structure GK(K:gA)(x XA:bA)(st:MA)(f:fA)(fd:QG):Prop where
 ex:∃(oc:cA) (od:Option fA) (kV doc pm:cA) (an:Option fA) (VA ct:cA) (bF:Array (Option cA)),
  fd=yH x XA (JH st) (fE st) (dC st) .none kV doc pm an VA ct/\K.lookup f=some ⟨oc,od,.func fd,bF⟩/\YO K VA XA=true
 kp:UG K (.ref f)=true
section
variable{P:pC}{w:NB}{K:gA}{mg:bA->Option cA}{base:jB}
def GK.ok{st:MA}(F:GK K x XA st f fd)(S:ZL N ps (dC st))(len:∀vs H Q E,sp vs H Q E->vs.length=ps.length)
  (U5:∀(VA:cA) (A:LD) (outer:List Env) (s:qA) (H:Hp) (vs:List V) (Q:VK) (E:XK),zC k (A.deeper (envOfC XA (dC st) s.heap.objs.size f VA))->sp vs H Q E ->
   ∃t,FC (DG XG P w K mg base N XA (dC st) f VA A outer s H E).HQ (fE st) t/\t { nx:=λ_ H'=>Q .lA H',rt:=Q } (aAm N vs) H):sE P w K mg base XG (k+1) f fd ps sp:=by
 obtain⟨oc,od,kV,doc,pm,an,VA,ct,bF,rfl,lk,lI⟩:=F.ex;refine og lk lI S len λA outer s H vs Q E hr QH=>?_
 obtain⟨t,h,q⟩:=U5 VA A outer s H vs Q E hr QH;exact⟨t,h.HQ,q⟩
def GK.binds{st:MA}(F:GK K x XA st f fd)
  (h:∀(kV doc pm:cA) (an:Option fA) (VA ct:cA) (us:List cA),us.length=ps.length->bindArgs (yH x XA (JH st) (fE st) (dC st) .none kV doc pm an VA ct) ⟨us,[]⟩=pure (ps.zip us)):aAu K fd ps []:=by
 obtain⟨oc,od,kV,doc,pm,an,VA,ct,bF,rfl,lk,lI⟩:=F.ex;exact .all (h kV doc pm an VA ct)
def OV{st:MA}{kV doc pm VA ct:cA}(l:K.lookup f=some ⟨oc,od,.func (yH x XA (JH st) (fE st) (dC st) .none kV doc pm an VA ct),bF⟩)
  (c:YO K VA XA=true) (k:UG K (.ref f)=true):GK K x XA st f (yH x XA (JH st) (fE st) (dC st) .none kV doc pm an VA ct):=⟨⟨oc,od,kV,doc,pm,an,VA,ct,bF,rfl,l,c⟩,k⟩
end
def AM{A B:Prop}(h:B):if false=true then A else B:=by
 rw[LA SD];exact h
def sL{A B:Prop}(h:A):if true=true then A else B:=by
 rw[GA rfl];exact h
def bB(H H':Hp):Prop:=∀b o,H b=some o->H' b=some o
def bB.refl(H:Hp):bB H H:=λ_ _ h=>h
def bB.trans(a:bB H H1)(b:bB H1 H2):bB H H2:=λc o h=>b c o (a c o h)
def bB.free(e:bB H H')(h:H' l=Option.none):H l=Option.none:=by
 cases q:H l with
 |none=>rfl
 |some o =>
  rw[e l o q] at h;cases h
def bB.seq{K:gA}(e:bB H H')(h:EB K H a xs):EB K H' a xs:=by
 rcases h with (h | ⟨o,h⟩) | h
 ·exact .inl (.inl (e _ _ h))
 ·exact .inl (.inr ⟨o,e _ _ h⟩)
 ·exact .inr h
end L2
set_option maxHeartbeats 4000000
namespace L2
open PySem PySem.Spec PyProof.Rows
section
variable{J:Type}[DecidableEq J]
noncomputable def VH(iC:List (J×V))(k:J):Option V:=(iC.find? λkv=>decide (kv.1=k)).map (·.2)
def Jp{p:J×V}{r:List (J×V)}{k:J}(e:p.1=k):VH (p::r) k=some p.2:=by simp[VH,fN,e]
def Ip{p:J×V}{r:List (J×V)}{k:J}(e:¬p.1=k):VH (p::r) k=VH r k:=by simp[VH,fN,e]
def aH.bFa{o:Option V}{u:Option cA}(r:aH o u):o.isSome=u.isSome:=by
 cases o with
 |none=>cases u with
  |none=>rfl
  |some _=>exact(show False from r).elim
 |some _=>cases u with
  |none=>exact(show False from r).elim
  |some _=>rfl
def KV.val{iC:List (J×V)}{vs:List (J×cA)}(r:KV iC vs)(k:J):aH (VH iC k) (valueAt vs k):=by
 unfold KV at r
 induction r with
 |nil=>exact True.intro
 | @cons p q ps qs h t ih =>
  obtain⟨h1,h2⟩:=h;by_cases e:p.1=k
  ·have e':q.1=k:=h1.symm.trans e;have b:valueAt (q::qs) k=some q.2:=by simp[valueAt,fN,e']
   rw[Jp e,b];exact h2
  ·have e':¬q.1=k:=λz=>e (h1.trans z)
   have b:valueAt (q::qs) k=valueAt qs k:=by simp[valueAt,fN,e']
   rw[Ip e,b];exact ih
end
def xj{P:pC}{w:NB}{k:Key}{u:cA}(r:aAe (kV k) u):(zQ P w).is k u=true:=by
 cases k with
 |inl i=>obtain⟨t,e⟩:=(show ∃t,u=Value.int i t from r);subst e;exact oKa P w i t
 |inr x=>obtain⟨t,e⟩:=(show ∃t,u=Value.str x t from r);subst e;exact pKa P w x t
section
variable{P:pC}{w:NB}{H:Hp}{h:jB}{a:fA}
def fVa{u:HO}(ok:yD P w H h)(e:Rd H a u):nD P w H h a u:=e.ok ok
def Z1{iC:List (Key×V)}(ok:yD P w H h)(e:Rd H a (.dK iC)):iC.length<=sizeLine/\(a==sysModules)=false/\∃vs,KV iC vs/\h.DictOf (zQ P w) a vs :=
 show nD P w H h a (.dK iC) from fVa ok e
end
def WL(H:Hp)(a:fA)(y:V)(r:Option V):Prop :=
 (∃iC k,Rd H a (.dK iC)/\y=kV k/\r=VH iC k)\/False
theorem WL.k{H:Hp}{a:fA}{iC:List (Key×V)}{k:Key}(e:H a=some (.dK iC)):WL H a (kV k) (VH iC k):=.inl ⟨iC,k,.inl e,rfl,rfl⟩
section
variable{X:Cx}{aA:List (fA×nB)}{Y:St}{H:Hp}{s:qA}{a:fA}{y v:V}{u r:cA}{o:Option V}{A:LD}{E:cA->qA->Prop}
def eA.big(I:eA X aA Y H s):sysModules<s.heap.objs.size:=by
 have h:IB<s.heap.objs.size:=(I.mod.glob.keeps I.bk).lt;exact lN (by decide) h
def yy{Q:cA->qA->Prop}(hu:A.units+1<cLine)(I:eA X aA Y H s)(g:WL H a y (some v))(ry:aAe y u)(h:∀w' s',eA X aA Y H s'->aAe v w'->Q w' s') :
  nA (model X.prog X.w) A (getItem (.ref a) u) Q E s:=by
 rcases g with ⟨iC,k,e,ey,l⟩ | g
 ·subst ey;obtain⟨z,hd,vs,oA,dd⟩:=Z1 I.KA e;obtain⟨w',hw,nJ⟩:=aH.some_of (v:=v) (o:=valueAt vs k) (by rw[l];exact oA.val k);exact wpAny_getItem_of (xj ry) dd.mapOf hw (h w' _ (I.tok _) nJ)
 ·exact g.elim
def zy{Q:cA->qA->Prop}(hu:A.units+1<cLine)(I:eA X aA Y H s)(g:WL H a y o)(ry:aAe y u)(h:∀s',eA X aA Y H s'->Q (.bool o.isSome) s') :
  nA (model X.prog X.w) A (bE .In u (.ref a)) Q E s:=by
 rcases g with ⟨iC,k,e,ey,l⟩ | g
 ·subst ey;obtain⟨z,hd,vs,oA,dd⟩:=Z1 I.KA e;refine wpAny_in_of (xj ry) hd dd.mapOf ?_;rw[<- (oA.val k).bFa,<- l];exact h _ (I.tok _)
 ·exact g.elim
def Of{h':jB}{t':Nat}{ob:HO}(I:eA X aA Y H s)(mu:LR (H a))(hs:xH a s.heap h')(he:∃q,h'.get? a=some q)(new:nD X.prog X.w (CA H a ob) h' a ob) :
  eA X aA Y (CA H a ob) { s with heap:=h',toks:=t' } :=
 I.write (x:=a) (e:=a) mu (.inl rfl) (λb q hb z=>(hs.2 b hb).trans z) he new
end
def Fy{X:Cx}{aA:List (fA×nB)}{Y:St}{H:Hp}{s:qA}{a:fA}{y:V}{o:Option V}(I:eA X aA Y H s)(g:WL H a y o):s.TypeIs (.ref a) "dict":=by
 rcases g with ⟨iC,k,e,_,_⟩ | g
 ·obtain⟨_,_,vs,_,dd⟩:=Z1 I.KA e;exact dd.typeIs
 ·exact g.elim
abbrev aB:=Int×List Int
section
variable{h:jB}
def aD(P:pC)(w:NB)(h:jB)(k:aB)(a:fA):Prop:=∃(t:kF) (b:fA),AF h a #[.int k.1 t,.ref b]/\IsTupleKey (intKind P w) h k.2 b
noncomputable def zS(P:pC)(w:NB)(k:aB):Int:=reduceHash (lU [hashInt k.1,tupleKeyHash (intKind P w) k.2])
theorem aD.inj(hx:aD P w h x a)(hy:aD P w h y a):x=y:=by
 obtain⟨t,b,⟨o,e,_,n,d⟩,kx⟩:=hx;obtain⟨t',b',⟨o',e',_,n',d'⟩,ky⟩:=hy;rw[e] at e';cases e';rw[d] at d';have z:=(wd d').1;have z1:Value.int x.1 t=Value.int y.1 t':=congrArg (λ(q:Array cA)=>q.getD 0 .none) z;have z2:Value.ref b=Value.ref b':=congrArg (λ(q:Array cA)=>q.getD 1 .none) z;cases z2;exact Md (Value.int.inj z1).1 ((tupleKind (intKind P w)).inj kx ky)
theorem aD.keeps(hk:aD P w h k a)(e:h.get? d=some o)(ed:o.data=.dict es ep)(sb:xH d h h'):aD P w h' k a:=by
 obtain⟨t,b,⟨o',e',c,n,d'⟩,kb⟩:=hk
 have ne:a≠d:=λz=>by(subst z;rw[e'] at e;cases e;rw[d'] at ed;cases ed)
 exact⟨t,b,⟨o',(sb.2 a ne).trans e',c,n,d'⟩,(tupleKind (intKind P w)).keeps kb e ed sb⟩
noncomputable def OF(k:aB):PyData:=.tuple [.int k.1,.tuple (k.2.map .int)]
def mFa{ns:List Int}{us:List cA}(q:bZ (intKind P w) ns us):∃as,ReadsAll h us (ns.map .int) as:=by
 induction q with
 |nil=>exact⟨_,.nil⟩
 |cons hk t ih =>
  obtain⟨as,r⟩:=ih;obtain⟨tk,rfl⟩:=PY hk;exact⟨_,.cons (.int _ _) r⟩
def aD.reads(hk:aD P w h k a):∃as,Reads h (.ref a) (OF k) as:=by
 obtain⟨t,b,⟨o,e,c,n,d⟩,o2,dA,n2,e2,c2,d2,i2⟩:=hk;obtain⟨as,r⟩:=mFa i2;exact⟨_,.tuple e c d (.cons (.int _ _) (.cons (.tuple e2 c2 d2 r) .nil))⟩
def vT{ns:List Int}:cN (ns.map .int)=true:=by
 induction ns with
 |nil=>simp[cN]
 |cons n ns ih=>simp[cN,xG,ih]
def mX{k:aB}:(OF k).canLay0=true:=by simp[OF,xG,cN,vT]
def b9{ns:List Int}:gN (ns.map .int)<=1:=by
 induction ns with
 |nil=>simp[gN]
 |cons n ns ih=>simp[gN,zH];lia
def kX{k:aB}:(OF k).depth<=5:=by
 have:=b9 (ns:=k.2)
 simp[OF,zH,gN]
 lia
theorem nX:∀{ns ms:List Int},bI (ns.map .int) (ms.map .int)=decide (ns=ms)
 |[],[]=>by simp[bI]
 |[],_::_=>by simp[bI]
 |_::_,[]=>by simp[bI]
 |n::ns,m::ms=>by(rw[KC,KC,bI,nX];simp only[PL,Nc,Ls];congr 1)
def lX:(OF x).eqv (OF y)=decide (x=y):=by
 obtain⟨a,as⟩:=x;obtain⟨b,bs⟩:=y;simp only[OF,PL,bI,nX,jt,aE,Ls];congr 1
def BV(hs:a=b->c=true)(r:SeqAt.RcAt A s (.ref a) (.ref b) c)(q:Q c s):nA (model P w) A (eqBool (.ref a) (.ref b)) Q E s:=by
 unfold eqBool;refine qK ?_;by_cases e:a=b
 ·subst e;rw[GA (by simp)];rw[hs rfl] at q;exact kA (QL (SA q))
 ·rw[LA (by simpa using e)];exact kA (r P w E _ (GL q))
theorem aD.eqBool(hu:A.units+8<cLine)(hx:aD P w s.heap x a)(hy:aD P w s.heap y b)(q:Q (decide (x=y)) s):nA (model P w) A (eqBool (.ref a) (.ref b)) Q E s:=by
 obtain⟨as,r1⟩:=hx.reads;obtain⟨bs,r2⟩:=hy.reads;have d1:=kX (k:=x);refine BV (λe=>jC (by subst e;exact hx.inj hy)) ?_ q;rw[<- lX];exact xU r1 r2 mX mX (by lia)
theorem aD.pyHash(hu:A.units+8<cLine)(hk:aD P w s.heap k a)(q:Q (zS P w k) { s with toks:=s.toks+(k.2.length+3) }):nA (model P w) A (pyHash (.ref a)) Q E s:=by
 obtain⟨t,b,ht,kb⟩:=hk;show nA _ _ (pyHashByItsType (.ref a)) _ _ s;refine W.pyHash_slot ht.typeIs Ir nr (Wq _) rfl (.inr (by lia)) ?_;unfold sH.«tuple.__hash__»;show nA _ _ (tY (.ref a)>>=_) _ _ s;refine kA (eZ ht ?_);rw[<- vc];simp only[sR,Rc,bind_assoc,pure_bind];refine kA (wpAny_pyHash_int ?_);refine kA (wpAny_pyHash_tuple (knd:=intKind P w) (by show A.units+1<cLine;lia) kb ?_);refine kA (sZ (SA ⟨_,_,rfl, ?_⟩));have e:s.toks+1+(k.2.length+1)+1=s.toks+(k.2.length+3):=by lia
 show Q (zS P w k) { s with toks:=s.toks+1+(k.2.length+1)+1 };rw[e];exact q
def A9(ht:AF s.heap a dA)(hi:∀v∈dA.toList,∀(R:Bool->qA->Prop),R true s->nA (model P w) A (eqIsQuiet d v) R E s)(q:Q true s):nA (model P w) A (eqIsQuiet (d+1) (.ref a)) Q E s:=by
 unfold eqIsQuiet;refine kA (Oc ht.typeIs (PyProof.Rows.slot_tuple_eq.lookup) ?_);obtain⟨o,e,c,n,dd⟩:=id ht;show nA _ _ (isInstance (.ref a) (.type "tuple")>>=_) _ _ s;refine kA (Kc ht.typeIs (by with_unfolding_all rfl) ?_);show nA _ _ (seqItems? (.ref a)>>=_) _ _ s;refine kA (wpAny_seqItems e dd ?_)
 have key:∀{k:Option Bool×Unit->DE Bool},nA (model P w) A (k (none,())) Q E s->∀xs:List cA,(∀v∈xs,v∈dA.toList)->nA (model P w) A (forIn xs ((none:Option Bool),()) (λy _=>do
    let v <- eqIsQuiet d y
    if(!v)=true then pure (ForInStep.done (some false,())) else pure (ForInStep.yield (none,())))>>=k) Q E s:=by
  intro k hk xs
  induction xs with
  |nil=>intro _;exact kA (SA hk)
  |cons x xs ih =>
   intro hm;have ih:=ih λv hv=>hm v (fD _ hv)
   simp only[sR,bind_assoc] at ih ⊢;refine kA (hi x (hm x qE) _ ?_);simp only[ML,wG,rH,pure_bind];exact ih
 show nA _ _ (forIn dA _ _>>=_) _ _ s;rw[<- vc];exact key (SA q) dA.toList λ_ h=>h
def qm(q:Q true s):nA (model P w) A (eqIsQuiet d (.int i t)) Q E s:=by
 unfold eqIsQuiet;exact SA q
theorem gi:∀{ns:List Int} {us:List cA},bZ (intKind P w) ns us->∀v∈us,∃i t,v=.int i t
 |_,_,.nil=>λ_ h=>nomatch h
 |_,_,.cons hk r=>λv hv=>by
  rcases wD.mp hv with rfl | hv
  ·obtain⟨t,e⟩:=PY hk;exact⟨_,t,e⟩
  ·exact gi r v hv
def aD.quiet(hk:aD P w s.heap k a)(q:Q true s):nA (model P w) A (eqIsQuiet (d+2) (.ref a)) Q E s:=by
 obtain⟨t,b,ht,o2,dA,n2,e2,c2,d2,i2⟩:=hk;refine A9 (d:=d+1) ht (λv hv R hR=>?_) q;rcases wD.mp (show v∈[Value.int k.1 t,Value.ref b] from hv) with rfl | hv
 ·exact qm hR
 ·rw[DC.mp hv];refine A9 ⟨o2,e2,c2,n2,d2⟩ (λv hv R hR=>?_) hR;obtain⟨i,t,rfl⟩:=gi i2 v hv;exact qm hR
abbrev cC:=aB ⊕ aB×aB
def JK(P:pC)(w:NB)(h:jB)(k:aB×aB)(a:fA):Prop:=∃b c,AF h a #[.ref b,.ref c]/\aD P w h k.1 b/\aD P w h k.2 c
def eE(P:pC)(w:NB)(h:jB):cC->fA->Prop:=fP (aD P w h) (JK P w h)
def R5(P:pC)(w:NB)(k:aB×aB):Int:=reduceHash (lU [zS P w k.1,zS P w k.2])
def Q5(P:pC)(w:NB):cC->Int:=fP (zS P w) (R5 P w)
def Bp(hx:AF h a x)(hy:AF h a y):x=y:=by
 obtain⟨o,e,_,n,d⟩:=hx;obtain⟨o',e',_,n',d'⟩:=hy;rw[e] at e';cases e';rw[d] at d';exact(wd d').1
def Ol(hx:JK P w h x a)(hy:aD P w h y a):False:=by
 obtain⟨b,c,e,_⟩:=hx;obtain⟨t,b',e',_⟩:=hy
 exact nomatch (show Value.ref b=Value.int y.1 t from congrArg (λ(q:Array cA)=>q.getD 0 .none) (Bp e e'))
theorem eE.inj:∀{x y:cC},eE P w h x a->eE P w h y a->x=y
 |.inl _,.inl _,hx,hy=>congrArg Sum.inl (aD.inj hx hy)
 |.inl _,.inr _,hx,hy=>(Ol hy hx).elim
 |.inr _,.inl _,hx,hy=>(Ol hx hy).elim
 |.inr x,.inr y,hx,hy=>by(obtain⟨b,c,e,h1,h2⟩:=hx;obtain⟨b',c',e',NH,L5⟩:=hy;have z:=Bp e e';cases (show Value.ref b=Value.ref b' from congrArg (λ(q:Array cA)=>q.getD 0 .none) z);cases (show Value.ref c=Value.ref c' from congrArg (λ(q:Array cA)=>q.getD 1 .none) z);exact congrArg Sum.inr (Md (h1.inj NH) (h2.inj L5)))
theorem eE.keeps:∀{k:cC},eE P w h k a->h.get? d=some o->o.data=.dict es ep->xH d h h'->eE P w h' k a
 |.inl _,hk,e,ed,sb=>aD.keeps hk e ed sb
 |.inr k,hk,e,ed,sb=>by
  obtain⟨b,c,⟨o',e',cl,n,d'⟩,h1,h2⟩:=hk
  have ne:a≠d:=λz=>by(subst z;rw[e'] at e;cases e;rw[d'] at ed;cases ed)
  exact⟨b,c,⟨o',(sb.2 a ne).trans e',cl,n,d'⟩,h1.keeps e ed sb,h2.keeps e ed sb⟩
def mJ:cC->PyData:=fP OF λk=>.tuple [OF k.1,OF k.2]
theorem eE.reads:∀{k:cC},eE P w h k a->∃as,Reads h (.ref a) (mJ k) as
 |.inl _,hk=>aD.reads hk
 |.inr k,hk=>by(obtain⟨b,c,⟨o,e,cl,n,d⟩,h1,h2⟩:=hk;obtain⟨as,r1⟩:=h1.reads;obtain⟨bs,r2⟩:=h2.reads;exact⟨_,.tuple e cl d (.cons r1 (.cons r2 .nil))⟩)
theorem ll:∀{k:cC},(mJ k).canLay0=true
 |.inl _=>mX
 |.inr _=>by simp[mJ,xG,cN,mX]
theorem jQa:∀{k:cC},(mJ k).depth<=6
 |.inl k=>XC (kX) (by decide)
 |.inr k=>by
  have h1:=kX (k:=k.1);have h2:=kX (k:=k.2);simp only[mJ,yd,zH,gN]
  lia
theorem kQa:∀{x y:cC},(mJ x).eqv (mJ y)=decide (x=y)
 |.inl x,.inl y=>by rw[show(mJ (.inl x)).eqv (mJ (.inl y))=decide (x=y) from lX];simp
 |.inl x,.inr y=>by simp[mJ,OF,PL,bI]
 |.inr x,.inl y=>by simp[mJ,OF,PL,bI]
 |.inr (x,x'),.inr (y,y')=>by(show(PyData.tuple [OF x,OF x']).eqv (.tuple [OF y,OF y'])=_;rw[PL,bI,bI,bI,lX,lX];simp)
theorem eE.eqBool(hu:A.units+10<cLine)(hx:eE P w s.heap x a)(hy:eE P w s.heap y b)(q:Q (decide (x=y)) s):nA (model P w) A (eqBool (.ref a) (.ref b)) Q E s:=by
 obtain⟨as,r1⟩:=hx.reads;obtain⟨bs,r2⟩:=hy.reads;have d1:=jQa (k:=x);refine BV (λe=>jC (by subst e;exact hx.inj hy)) ?_ q;rw[<- kQa];exact xU r1 r2 ll ll (by omega)
noncomputable def A2:cC->Nat:=fP (λk=>k.2.length+3) λk=>k.1.2.length+3+(k.2.2.length+3)+1
theorem JK.pyHash(hu:A.units+10<cLine)(hk:JK P w s.heap k a)(q:Q (R5 P w k) { s with toks:=s.toks+(k.1.2.length+3+(k.2.2.length+3)+1) }):nA (model P w) A (pyHash (.ref a)) Q E s:=by
 obtain⟨b,c,ht,h1,h2⟩:=hk;show nA _ _ (pyHashByItsType (.ref a)) _ _ s;refine W.pyHash_slot ht.typeIs Ir nr (Wq _) rfl (.inr (by lia)) ?_;unfold sH.«tuple.__hash__»;show nA _ _ (tY (.ref a)>>=_) _ _ s;refine kA (eZ ht ?_);rw[<- vc];simp only[sR,Rc,bind_assoc,pure_bind];refine kA (aD.pyHash (k:=k.1) (by show A.units+1+8<cLine;lia) h1 ?_);refine kA (aD.pyHash (k:=k.2) (by show A.units+1+8<cLine;lia) h2 ?_);refine kA (sZ (SA ⟨_,_,rfl, ?_⟩));have e:s.toks+(k.1.2.length+3)+(k.2.2.length+3)+1=s.toks+(k.1.2.length+3+(k.2.2.length+3)+1):=by lia
 show Q (R5 P w k) { s with toks:=s.toks+(k.1.2.length+3)+(k.2.2.length+3)+1 };rw[e];exact q
theorem eE.pyHash(hu:A.units+10<cLine)(hk:eE P w s.heap k a)(q:Q (Q5 P w k) { s with toks:=s.toks+A2 k }):nA (model P w) A (pyHash (.ref a)) Q E s:=by
 unfold eE at hk;unfold Q5 A2 at q
 cases k with
 |inl k =>
  rw[Sum.elim_inl] at hk q;rw[Sum.elim_inl] at q;exact aD.pyHash (by lia) hk q
 |inr k =>
  rw[yd] at hk q;rw[yd] at q;exact JK.pyHash hu hk q
theorem eE.quiet:∀{k:cC},eE P w s.heap k a->Q true s->nA (model P w) A (eqIsQuiet 8 (.ref a)) Q E s
 |.inl _,hk,q=>aD.quiet (d:=6) hk q
 |.inr k,hk,q=>by
  obtain⟨b,c,ht,h1,h2⟩:=hk;refine A9 (d:=7) ht (λv hv R hR=>?_) q;rcases wD.mp (show v∈[Value.ref b,Value.ref c] from hv) with rfl | hv
  ·exact aD.quiet (d:=5) h1 hR
  ·rw[DC.mp hv];exact aD.quiet (d:=5) h2 hR
end
def QQ(P:pC)(w:NB):HeapKind P w cC where
 is:=eE P w
 hash:=Q5 P w
 draws:=A2
 room:=λA=>A.units+10<cLine
 inj:=eE.inj
 keeps:=eE.keeps
 pyHash:=λhu hk q=>eE.pyHash hu hk q
 eqBool:=λhu hx hy q=>eE.eqBool hu hx hy q
 quiet:=λhk q=>eE.quiet hk q
end L2
namespace CS
open PySem PyProof.Rows
noncomputable def Cg:Bool->HB->Array HB->Nat->Nat->Nat->StateT zB DE (Option Nat):=sortPriv% PySem.Builtin.gallop
noncomputable def nKa:Array HB->Array HB->StateT zB DE (Array HB):=sortPriv% PySem.Builtin.mergeLo
noncomputable def mKa:Array HB->Array HB->StateT zB DE (Array HB):=sortPriv% PySem.Builtin.mergeHi
noncomputable def fXa:Nat->StateT zB DE Unit:=sortPriv% PySem.Builtin.setMinGallop
def AP(P:HB->Prop)(a:Array HB):Prop:=∀x∈a,P x
section
variable{P:HB->Prop}{a b:Array HB}{v:HB}{i j:Nat}
theorem AP.push(h:AP P a)(hv:P v):AP P (a.push v):=λx hx=>(Array.mem_push.mp hx).elim (h x) λe=>e ▸ hv
def AP.app(h:AP P a)(k:AP P b):AP P (a++b):=λx hx=>(Array.mem_append.mp hx).elim (h x) (k x)
def AP.ext(h:AP P a):AP P (a.extract i j):=λx hx=>by
 obtain⟨k,hk,rfl⟩:=Array.mem_extract_iff_getElem.mp hx;exact h _ (Jr _)
def AP.rev(h:AP P a):AP P a.reverse:=λx hx=>h x (Array.mem_reverse.mp hx)
end
def LI(A B n ia ib:Nat):Prop:=ia+1<A/\ib<B/\n<=ia+ib
def HI(A B n na nb:Nat):Prop:=(0<na/\na<=A)/\(1<nb/\nb<=B)/\n+na+nb<=A+B
section
variable{A B n m k ia ib na nb:Nat}
theorem LI.a0(h:LI A B n ia ib):ia<A:=Dc h.1
def LI.b(h:LI A B n ia ib)(e:ib+1≠B):LI A B (n+1) ia (ib+1):=⟨h.1,UL h.2.1 e,SO h.2.2⟩
def LI.a(h:LI A B n ia ib)(e:ia+1+1≠A):LI A B (n+1) (ia+1) ib:=⟨UL h.1 e,h.2.1,Nat.succ_add ia ib ▸ SO h.2.2⟩
def LI.ka(h:LI A B n ia ib)(hk:k<=A-ia)(e:ia+k+1≠A)(e':ia+k≠A):LI A B n (ia+k) ib:=⟨UL (UL (by have:=h.a0;lia) e') e,h.2.1,XC h.2.2 (IY (oR ..) _)⟩
theorem LI.kb(h:LI A B n ia ib)(hk:k<=B-ib)(e:ib+k≠B):LI A B n ia (ib+k):=⟨h.1,UL (by have:=h.2.1;lia) e,XC h.2.2 (ic (oR ..) _)⟩
def LI.le(h:LI A B n ia ib)(e:m<=n):LI A B m ia ib:=⟨h.1,h.2.1,XC e h.2.2⟩
def LI.no(h:LI A B n ia ib)(e:A+B<=n):False:=LL _ (jF (Nat.add_lt_add h.a0 h.2.1) (XC e h.2.2))
theorem HI.a0(h:HI A B n na nb):na-1<A:=Oq h.1.1 h.1.2
def HI.b0(h:HI A B n na nb):nb-1<B:=Oq (Dc h.2.1.1) h.2.1.2
def HI.b(h:HI A B n na nb)(e:nb-1≠1):HI A B (n+1) na (nb-1):=⟨h.1,⟨by have:=h.2.1.1;lia,tK h.b0⟩,by obtain⟨_,⟨h1,_⟩,h2⟩:=h;lia⟩
def HI.a(h:HI A B n na nb)(e:na-1≠0):HI A B (n+1) (na-1) nb:=⟨⟨wc e,tK h.a0⟩,h.2.1,by obtain⟨⟨h1,_⟩,_,h2⟩:=h;lia⟩
def HI.ka(h:HI A B n na nb)(hk:k<=na)(e:k≠0):HI A B n k nb:=⟨⟨wc e,XC hk h.1.2⟩,h.2.1,XC (IY (ic hk _) _) h.2.2⟩
theorem HI.kb(h:HI A B n na nb)(hk:k<=nb)(e:k≠1)(e':k≠0):HI A B n na k:=⟨h.1,⟨UL (wc e') (hE e),XC hk h.2.1.2⟩,XC (ic hk _) h.2.2⟩
def HI.le(h:HI A B n na nb)(e:m<=n):HI A B m na nb:=⟨h.1,h.2.1,XC (IY (IY e _) _) h.2.2⟩
def HI.no(h:HI A B n na nb)(e:A+B<=n):False:=by obtain⟨⟨h1,_⟩,_,h2⟩:=h;lia
end
section
variable{prog:pC}{w:NB}{A:LD}{E:cA->qA->Prop}{s:qA}
def DJ(prog:pC)(w:NB)(A:LD)(E:cA->qA->Prop)(s:qA)(kd:yR)(P:HB->Prop):Prop :=
 ∀(st:zB) (x y:HB) (Q:Option Bool->zB->Prop),kindOf st=kd->P x->P y->(∀b,Q (some b) st)->wpS (model prog w) A E s (lt' x y) Q st
structure BD(st sA:zB):Prop where
 k:kindOf sA=kindOf st
 a:arrOf sA=arrOf st
 p:pendingOf sA=pendingOf st
 f:failedOf sA=failedOf st
def BD.refl(st:zB):BD st st:=⟨rfl,rfl,rfl,rfl⟩
variable{kd:yR}{P:HB->Prop}
def gE{O:Type}{arr:Array HB}{i:Nat}{st:zB}{f:HB->StateT zB DE O}{Q:O->zB->Prop}(hp:AP P arr)(h:i<arr.size)(q:∀x,P x->wpS (model prog w) A E s (f x) Q st):wpS (model prog w) A E s (elem' arr i>>=f) Q st:=lB (by
 rw[elem'_eq,pq h]
 exact dB (q _ (hp _ (Jr h))))
def eY{O:Type}{g:Nat}{st IC:zB}{f:Unit->StateT zB DE O}{Q:O->zB->Prop}(h0:BD IC st)(q:∀sA,BD IC sA->wpS (model prog w) A E s (f ()) Q sA):wpS (model prog w) A E s (fXa g>>=f) Q st :=
 lB (eP (q _ ⟨h0.k,h0.a,h0.p,h0.f⟩))
def Fb{O:Type}{x y:HB}{st:zB}{f:Option Bool->StateT zB DE O}{Q:O->zB->Prop}(hL:DJ prog w A E s kd P)(hk:kindOf st=kd)(hx:P x)(hy:P y)(q:∀b,wpS (model prog w) A E s (f (some b)) Q st):wpS (model prog w) A E s (lt' x y>>=f) Q st:=lB (hL st x y _ hk hx hy q)
def nC{O:Type}{c:Prop}[Decidable c]{m m':StateT zB DE O}{st:zB}{Q:O->zB->Prop}(h:c->wpS (model prog w) A E s m Q st)(h':¬c->wpS (model prog w) A E s m' Q st):wpS (model prog w) A E s (if c then m else m') Q st:=by
 split
 ·exact h ‹_›
 ·exact h' ‹_›
def BE{O:Type}{x y:Nat}{m m':StateT zB DE O}{st:zB}{Q:O->zB->Prop}(h:x=y->wpS (model prog w) A E s m Q st)(h':x≠y->wpS (model prog w) A E s m' Q st):wpS (model prog w) A E s (if(x==y)=true then m else m') Q st:=nC (λe=>h (by simpa using e)) λe=>h' (by simpa using e)
def XM{O N:Type}{f:N->StateT zB DE O}{m:StateT zB DE O}{J:N->zB->Prop}{Q:O->zB->Prop}{st:zB}(h:∀x st,J x st->wpS (model prog w) A E s (f x) Q st)(k:(∀x st,J x st->wpS (model prog w) A E s (f x) Q st)->wpS (model prog w) A E s m Q st):wpS (model prog w) A E s m Q st:=k h
def d2a{left:Bool}{key:HB}{arr:Array HB}{base n hint:Nat}{st:zB}{Q:Option Nat->zB->Prop}(hL:DJ prog w A E s kd P)(hk:kindOf st=kd)(hn:base+n<=arr.size)(hh:hint<n)(px:AP P arr)(pk:P key)(h:∀k,k<=n->Q (some k) st) :
  wpS (model prog w) A E s (Cg left key arr base n hint) Q st:=by
 have hb:∀i,i<n->∀R:Option Bool->zB->Prop,(∀b,R (some b) st)->wpS (model prog w) A E s (elem' arr (base+i)>>=λx=>if left=true then lt' x key else lt' key x>>=λr=>pure (r.map (!·))) R st:=λi hi R hR =>
  gE px (by lia) λx hx=>nC (λ_=>hL st x key R hk hx pk hR) λ_=>Fb hL hk pk hx λb=>dB (hR _)
 refine lB (hb hint hh _ λb=>nC (λ_=>lB (TF (ZF (I:=λx c sA=>sA=st/\c.1=none) (Q:=λc sA=>sA=st/\c.1=none) ?s1 (λ_ _ z=>z) ⟨rfl,rfl⟩) ?_)) λ_=>lB (TF (ZF (I:=λx c sA=>sA=st/\c.1=none) (Q:=λc sA=>sA=st/\c.1=none) ?s2 (λ_ _ z=>z) ⟨rfl,rfl⟩) ?_))
 case s1 | s2 =>
  rintro x ⟨c1,l,o⟩ sA _ hx ⟨rfl,e⟩
  cases e;exact nC (λ_=>dB ⟨rfl,rfl⟩) λg=>lB (hb _ (by dsimp only at *;lia) _ λb=>nC (λ_=>dB ⟨rfl,rfl⟩) λ_=>dB ⟨rfl,rfl⟩)
 all_goals
  rintro⟨c1,l,o⟩ sA ⟨rfl,e⟩
  cases e;refine lB (TF (ZF (I:=λx c u=>u=sA/\c.1=none/\c.2.2<=n) (Q:=λc u=>u=sA/\c.1=none/\c.2.2<=n) ?_ (λ_ _ z=>z) ⟨rfl,rfl,by dsimp only;lia⟩) ?_)
  ·rintro x ⟨c1,l,o⟩ sA _ hx ⟨rfl,e,hle⟩
   cases e;exact nC (λ_=>dB ⟨rfl,rfl,hle⟩) λg=>lB (hb _ (by dsimp only at *;lia) _ λb=>nC (λ_=>dB ⟨rfl,rfl,hle⟩) λ_=>dB ⟨rfl,rfl,by dsimp only at *;lia⟩)
  ·rintro⟨c1,l,o⟩ sA ⟨rfl,e,hle⟩
   cases e;exact dB (h _ hle)
def WQ{O:Type}{left:Bool}{key:HB}{arr:Array HB}{base n hint:Nat}{st:zB}{f:Option Nat->StateT zB DE O}{Q:O->zB->Prop}(hL:DJ prog w A E s kd P)(hk:kindOf st=kd)(hn:base+n<=arr.size)(hh:hint<n)(px:AP P arr)(pk:P key)(h:∀k,k<=n->wpS (model prog w) A E s (f (some k)) Q st) :
  wpS (model prog w) A E s (Cg left key arr base n hint>>=f) Q st:=lB (d2a hL hk hn hh px pk h)
def Jg{U:Type}(P:HB->Prop)(a b:Array HB)(n:Nat)(c:Option (Array HB)×Array HB×Nat×Nat×U):Prop:=c.1=none/\AP P c.2.1/\LI a.size b.size n c.2.2.1 c.2.2.2.1
def Jh{U:Type}(P:HB->Prop)(a b:Array HB)(n:Nat)(c:Option (Array HB)×Nat×Nat×Array HB×U):Prop:=c.1=none/\AP P c.2.2.2.1/\HI a.size b.size n c.2.1 c.2.2.1
def Dn{U:Type}(P:HB->Prop)(c:Option (Array HB)×U):Prop:=∃z,c.1=some z/\AP P z
variable{a b:Array HB}
def rD{st IC:zB}{U:Type}{q:U}{z:Array HB}{J:Prop}(hs:BD IC st)(hz:AP P z:=by(try dsimp only);(with_reducible repeat' first | assumption | apply AP.push | apply AP.app | apply AP.ext | apply AP.rev)):BD IC st/\(Dn P (some z,q)\/J):=⟨hs,.inl ⟨z,rfl,hz⟩⟩
def g2a(hL:DJ prog w A E s kd P)(pa:AP P a)(pb:AP P b){st:zB}{Q:Array HB->zB->Prop}(hk:kindOf st=kd)(ha:0<a.size)(hb:0<b.size)(h:∀z sA,BD st sA->AP P z->Q z sA):wpS (model prog w) A E s (nKa a b) Q st:=by
 refine lB (gP (QL ⟨rfl, ?_⟩));refine gE pb hb λy hy=>?_
 have p1:AP P #[y]:=λx hx=>(Xq.mp hx) ▸ hy
 refine BE (λe=>dB (h _ _ (.refl _) ((p1.app pa.ext).app pb.ext))) λe1=>BE (λe=>dB (h _ _ (.refl _) ((p1.app pb.ext).app pa.ext))) λe2=>lB (CK ?_)
 refine lB (TF (ZF (I:=λi c sA=>BD st sA/\Jg P a b (i+1) c) (Q:=λc sA=>BD st sA/\(Dn P c\/False)) ?step (λc sA z=>(z.2.2.2.no (wK _)).elim) ⟨.refl _,rfl,p1,UL ha e2,UL hb e1,mB _⟩) ?post)
 case post =>
  rintro⟨c,c2⟩ sA ⟨hs,⟨z,e,hz⟩ | z⟩
  ·cases e;exact dB (h z sA hs hz)
  ·cases z
 case step =>
  rintro i ⟨c1,out,ia,ib,mg⟩ sA _ hi ⟨hs,hJ⟩
  refine lB (TF (ZF (I:=λj c sA=>BD st sA/\Jg P a b (i+1+j) c) (Q:=λc sA=>BD st sA/\(Dn P c\/Jg P a b (i+2) c)) ?wa (λc sA z=>(z.2.2.2.no (WY ..)).elim) ⟨hs,rfl,hJ.2⟩) ?r9)
  case wa =>
   rintro j ⟨c1,out,ia,ib,ac,bc⟩ sA _ hj ⟨hs,e,h1,h2⟩
   cases e;replace h1:AP P out:=h1;have l2:i+2<=i+1+j+1:=SO (oR ..);refine gE pb h2.2.1 λy hy=>gE pa h2.a0 λx hx=>Fb hL (hs.k.trans hk) hy hx λc=>?_
   refine nC (λ_=>gE pb h2.2.1 λy hy=>BE (λ_=>dB (rD hs)) λe1=>nC (λ_=>dB ⟨hs,.inr ⟨rfl,h1.push hy,(h2.b e1).le l2⟩⟩) λ_=>dB ⟨hs,rfl,h1.push hy,h2.b e1⟩) λ_=>gE pa h2.a0 λy hy=>BE (λ_=>dB (rD hs)) λe1=>nC (λ_=>dB ⟨hs,.inr ⟨rfl,h1.push hy,(h2.a e1).le l2⟩⟩) λ_=>dB ⟨hs,rfl,h1.push hy,h2.a e1⟩
  case r9 =>
   rintro⟨c1,out,ia,ib,ac,bc⟩ sA ⟨hs,⟨z,e,hz⟩ | hJ⟩
   ·cases e;exact dB (rD hs)
   ·cases hJ.1;refine lB (gP (QL ⟨rfl, ?_⟩));refine lB (TF (ZF (I:=λj c sA=>BD st sA/\Jg P a b (i+2+j) c) (Q:=λc sA=>BD st sA/\(Dn P c\/Jg P a b (i+2) c)) ?xa (λc sA z=>(z.2.2.2.no (WY ..)).elim) ⟨hs,rfl,hJ.2⟩) ?u9)
    case u9 =>
     rintro⟨c1,out,ia,ib,ac,bc⟩ sA ⟨hs,⟨z,e,hz⟩ | ⟨e,h⟩⟩
     ·cases e;exact dB (rD hs)
     ·cases e;exact eY hs λsA hs=>dB ⟨hs,rfl,h⟩
    case xa =>
     rintro j ⟨c1,out,ia,ib,mg,ac,bc⟩ sA _ hj ⟨hs,e,h1,h2⟩
     cases e
     dsimp -zeta only
     extract_lets -underBinder s1 out s2 ia s3 ib s4 mg s5 ac bc jp
     have h1:AP P out:=h1;have h2:LI a.size b.size (i+2+j) ia ib:=h2
     clear_value out ia ib mg ac bc
     refine XM (f:=jp ()) (J:=λ_ u=>BD st u) (λg sA hs=>eY hs λsA hs=>gE pb h2.2.1 λy hy=>WQ hL (hs.k.trans hk) (uK (Kr (tK h2.a0))) (Lr h2.a0) pa hy λk k1=>?_) λhj=>nC (λ_=>hj _ _ hs) λ_=>hj _ _ hs
     dsimp -zeta only
     extract_lets -underBinder ac jp
     refine XM (f:=λx:Array HB×Nat=>jp () x.1 x.2) (J:=λx u=>BD st u/\AP P x.1/\LI a.size b.size (i+2+j) x.2 ib) (λ⟨out,ia⟩ sA ⟨hs,h1,h2⟩=>gE pb h2.2.1 λy hy=>BE (λ_=>dB (rD hs)) λe1=>gE pa h2.a0 λx hx=>WQ hL (hs.k.trans hk) (uK (Kr h2.2.1)) (Lr (h2.b e1).2.1) pb hx λm m1=>?_) λhj=>nC (λ_=>BE (λ_=>dB (rD hs)) λe1=>BE (λ_=>dB (rD hs)) λe2=>hj (_,_) _ ⟨hs,h1.app pa.ext,h2.ka k1 e1 e2⟩) λ_=>hj (_,_) _ ⟨hs,h1,h2⟩
     have h3:=h2.b e1
     dsimp -zeta only
     extract_lets -underBinder bc jp
     refine XM (f:=λx:Array HB×Nat=>jp () x.1 x.2) (J:=λx u=>BD st u/\AP P x.1/\LI a.size b.size (i+2+j+1) ia x.2) (λ⟨out,ib⟩ sA ⟨hs,h1,h3⟩=>gE pa h3.a0 λv hv=>BE (λ_=>dB (rD hs)) λe1=>nC (λ_=>dB ⟨hs,.inr ⟨rfl,h1.push hv,(h3.a e1).le (oR _ (j+2))⟩⟩) λ_=>dB ⟨hs,rfl,h1.push hv,(h3.a e1).le (wK _)⟩) λhj=>nC (λ_=>BE (λ_=>dB (rD hs)) λe1=>hj (_,_) _ ⟨hs,(h1.push hy).app pb.ext,h3.kb m1 e1⟩) λ_=>hj (_,_) _ ⟨hs,h1.push hy,h3⟩
def f2a(hL:DJ prog w A E s kd P)(pa:AP P a)(pb:AP P b){st:zB}{Q:Array HB->zB->Prop}(hk:kindOf st=kd)(ha:0<a.size)(hb:0<b.size)(h:∀z sA,BD st sA->AP P z->Q z sA):wpS (model prog w) A E s (mKa a b) Q st:=by
 refine lB (gP (QL ⟨rfl, ?_⟩));refine gE pa (Tc (OL ha)) λy hy=>?_
 have p1:AP P #[y]:=λx hx=>(Xq.mp hx) ▸ hy
 refine BE (λe=>dB (h _ _ (.refl _) ((pa.ext.app pb.ext).app p1.rev))) λe1=>BE (λe=>dB (h _ _ (.refl _) ((pb.ext.app pa.ext).app p1.rev))) λe2=>lB (CK ?_)
 refine lB (TF (ZF (I:=λi c sA=>BD st sA/\Jh P a b (i+1) c) (Q:=λc sA=>BD st sA/\(Dn P c\/False)) ?step (λc sA z=>(z.2.2.2.no (wK _)).elim) ⟨.refl _,rfl,p1,by show HI _ _ (0+1) (a.size-1) b.size;unfold HI;lia⟩) ?post)
 case post =>
  rintro⟨c,c2⟩ sA ⟨hs,⟨z,e,hz⟩ | z⟩
  ·cases e;exact dB (h z sA hs hz)
  ·cases z
 case step =>
  rintro i ⟨c1,na,nb,out,mg⟩ sA _ hi ⟨hs,hJ⟩
  refine lB (TF (ZF (I:=λj c sA=>BD st sA/\Jh P a b (i+1+j) c) (Q:=λc sA=>BD st sA/\(Dn P c\/Jh P a b (i+2) c)) ?wa (λc sA z=>(z.2.2.2.no (WY ..)).elim) ⟨hs,rfl,hJ.2⟩) ?r9)
  case wa =>
   rintro j ⟨c1,na,nb,out,ac,bc⟩ sA _ hj ⟨hs,e,h1,h2⟩
   cases e;replace h1:AP P out:=h1;have l2:i+2<=i+1+j+1:=SO (oR ..);refine gE pb h2.b0 λy hy=>gE pa h2.a0 λx hx=>Fb hL (hs.k.trans hk) hy hx λc=>?_
   refine nC (λ_=>gE pa h2.a0 λy hy=>BE (λ_=>dB (rD hs)) λe1=>nC (λ_=>dB ⟨hs,.inr ⟨rfl,h1.push hy,(h2.a e1).le l2⟩⟩) λ_=>dB ⟨hs,rfl,h1.push hy,h2.a e1⟩) λ_=>gE pb h2.b0 λy hy=>BE (λ_=>dB (rD hs)) λe1=>nC (λ_=>dB ⟨hs,.inr ⟨rfl,h1.push hy,(h2.b e1).le l2⟩⟩) λ_=>dB ⟨hs,rfl,h1.push hy,h2.b e1⟩
  case r9 =>
   rintro⟨c1,na,nb,out,ac,bc⟩ sA ⟨hs,⟨z,e,hz⟩ | hJ⟩
   ·cases e;exact dB (rD hs)
   ·cases hJ.1;refine lB (gP (QL ⟨rfl, ?_⟩));refine lB (TF (ZF (I:=λj c sA=>BD st sA/\Jh P a b (i+2+j) c) (Q:=λc sA=>BD st sA/\(Dn P c\/Jh P a b (i+2) c)) ?xa (λc sA z=>(z.2.2.2.no (WY ..)).elim) ⟨hs,rfl,hJ.2⟩) ?u9)
    case u9 =>
     rintro⟨c1,na,nb,out,ac,bc⟩ sA ⟨hs,⟨z,e,hz⟩ | ⟨e,h⟩⟩
     ·cases e;exact dB (rD hs)
     ·cases e;exact eY hs λsA hs=>dB ⟨hs,rfl,h⟩
    case xa =>
     rintro j ⟨c1,na,nb,out,mg,ac,bc⟩ sA _ hj ⟨hs,e,h1,h2⟩
     cases e
     dsimp -zeta only
     extract_lets -underBinder s1 na s2 nb s3 out s4 mg s5 ac bc jp
     have h1:AP P out:=h1;have h2:HI a.size b.size (i+2+j) na nb:=h2
     clear_value out na nb mg ac bc
     refine XM (f:=jp ()) (J:=λ_ u=>BD st u) (λg sA hs=>eY hs λsA hs=>gE pb h2.b0 λy hy=>WQ hL (hs.k.trans hk) (XC (uK (lZ _)) h2.1.2) (Tc (OL h2.1.1)) pa hy λk k1=>?_) λhj=>nC (λ_=>hj _ _ hs) λ_=>hj _ _ hs
     dsimp -zeta only
     extract_lets -underBinder r ac jp
     refine XM (f:=λx:Nat×Array HB=>jp () x.1 x.2) (J:=λx u=>BD st u/\AP P x.2/\HI a.size b.size (i+2+j) x.1 nb) (λ⟨na,out⟩ sA ⟨hs,h1,h2⟩=>gE pb h2.b0 λy hy=>BE (λ_=>dB (rD hs)) λe1=>gE pa h2.a0 λx hx=>WQ hL (hs.k.trans hk) (XC (uK (lZ _)) (h2.b e1).2.1.2) (Tc (OL (Dc (h2.b e1).2.1.1))) pb hx λm m1=>?_) λhj=>nC (λ_=>BE (λ_=>dB (rD hs)) λe1=>hj (_,_) _ ⟨hs,h1.app pa.ext.rev,h2.ka k1 e1⟩) λ_=>hj (_,_) _ ⟨hs,h1,h2⟩
     have h3:=h2.b e1
     dsimp -zeta only
     extract_lets -underBinder r bc jp
     refine XM (f:=λx:Nat×Array HB=>jp () x.1 x.2) (J:=λx u=>BD st u/\AP P x.2/\HI a.size b.size (i+2+j+1) na x.1) (λ⟨nb,out⟩ sA ⟨hs,h1,h3⟩=>gE pa h3.a0 λv hv=>BE (λ_=>dB (rD hs)) λe1=>nC (λ_=>dB ⟨hs,.inr ⟨rfl,h1.push hv,(h3.a e1).le (oR _ (j+2))⟩⟩) λ_=>dB ⟨hs,rfl,h1.push hv,(h3.a e1).le (wK _)⟩) λhj=>nC (λ_=>BE (λ_=>dB (rD hs)) λe1=>BE (λ_=>dB (rD hs)) λe2=>hj (_,_) _ ⟨hs,(h1.push hy).app pb.ext.rev,h3.kb m1 e1 e2⟩) λ_=>hj (_,_) _ ⟨hs,h1.push hy,h3⟩
end
structure Fr(P:HB->Prop)(IC st:zB):Prop where
 k:kindOf st=kindOf IC
 p:pendingOf st=pendingOf IC
 f:failedOf st=failedOf IC
 z:(arrOf st).size=(arrOf IC).size
 a:AP P (arrOf st)
section
variable{P:HB->Prop}{IC st:zB}
def Fr.to{x:Array HB}(h:Fr P IC st)(p:x.Perm (arrOf st)):Fr P IC (setArr st x):=⟨h.k,h.p,h.f,p.size_eq.trans h.z,λy hy=>h.a y (p.mem_iff.mp hy)⟩
def Fr.QW{i j:Nat}(h:Fr P IC st):Fr P IC (setArr st (mirror (arrOf st) i j ((j-i) / 2))):=h.to (mirror_perm _ _ _ _)
variable{prog:pC}{w:NB}{A:LD}{E:cA->qA->Prop}{s:qA}{kd:yR}{lo:Nat}
variable(hL:DJ prog w A E s kd P)(hk:kindOf IC=kd)(hF:Fr P IC st)
include hL hk hF
theorem XQ{i j:Nat}{Q:Option Bool->zB->Prop}(hi:i<(arrOf IC).size)(hj:j<(arrOf IC).size)(h:∀b,Q (some b) st):wpS (model prog w) A E s (ltAt' i j) Q st:=by
 rw[ltAt'_eq]
 have:=hF.z
 exact lB (CK (gE hF.a (by lia) λx hx=>gE hF.a (by lia) λy hy=>hL st x y Q (hF.k.trans hk) hx hy h))
theorem c2a{wI:Nat}{Q:Option Nat->zB->Prop}(hr:lo+wI<=(arrOf IC).size)(h1:1<=wI)(h:∀m sA,Fr P IC sA->1<=m->m<=wI->Q (some m) sA):wpS (model prog w) A E s (countRun' lo wI) Q st:=by
 refine lB (TF (ZF (I:=λx c u=>u=st/\c=(none,x)) (Q:=λc u=>u=st/\c.1=none/\1<=c.2/\c.2<=wI) ?s ?f ⟨rfl,rfl⟩) ?_)
 case f =>
  rintro c u ⟨rfl,rfl⟩
  exact⟨rfl,rfl,by dsimp only;lia,by dsimp only;lia⟩
 case s =>
  rintro x c u vM RH ⟨rfl,rfl⟩
  exact lB (XQ hL hk hF (by lia) (by lia) λb=>nC (λ_=>dB ⟨rfl,rfl,vM,by dsimp only;lia⟩) λ_=>dB ⟨rfl,rfl⟩)
 rintro⟨c1,n⟩ u ⟨rfl,e,n1,n2⟩
 cases e;have n1:1<=n:=n1;have n2:n<=wI:=n2;refine BE (λ_=>dB (h _ _ hF n1 n2)) λe1=>?_
 have l0:∀{m:Nat},m<wI->lo+m<(arrOf IC).size:=λhm=>jF (Nat.add_lt_add_left hm lo) hr
 have l1:∀{m:Nat},m<wI->lo+m-1<(arrOf IC).size:=λhm=>qr (Nat.sub_le ..) (l0 hm)
 have n3:n<wI:=UL n2 e1
 dsimp -zeta only
 extract_lets -underBinder jp
 refine XM (f:=jp) (J:=λ_ u=>Fr P IC u) (λ_ st hF=>?_) λhj=>nC (λ_=>lB (XQ hL hk hF (l0 h1) (l1 n3) λb=>nC (λ_=>dB (h _ _ hF n1 n2)) λ_=>lB (tZ (hj () _ hF.QW)))) λ_=>hj () _ hF
 refine lB (gP (QL ⟨rfl,lB (TF (ZF (I:=λx c u=>Fr P IC u/\c.1=none/\c.2.1=x) (Q:=λc u=>Fr P IC u/\c.1=none/\1<=c.2.1/\c.2.1<=wI) ?_ ?_ ⟨hF,rfl,rfl⟩) ?_)⟩))
 ·rintro x ⟨c1,m,q⟩ u vM RH ⟨hF,e,e2⟩
  cases e;cases e2;exact lB (XQ hL hk hF (l0 RH) (l1 RH) λb=>nC (λ_=>nC (λ_=>lB (tZ (dB ⟨hF.QW,rfl,rfl⟩))) λ_=>dB ⟨hF,rfl,rfl⟩) λ_=>lB (XQ hL hk hF (l1 RH) (l0 RH) λb=>nC (λ_=>dB ⟨hF,rfl,XC (Nat.le_succ_of_le n1) vM,tK RH⟩) λ_=>dB ⟨hF,rfl,rfl⟩))
 ·rintro c u ⟨hF,e,e2⟩
  rw[Zr n3] at e2;exact⟨hF,e,e2 ▸ h1,uK e2⟩
 ·rintro⟨c1,m,q⟩ u ⟨hF,e,m1,m2⟩
  cases e;have m1:1<=m:=m1;have m2:m<=wI:=m2
  extract_lets -underBinder r s2 m' q'
  have IS:r=none:=rfl;have BS:m'=m:=rfl
  clear_value r m' q'
  subst IS BS
  dsimp -zeta only
  extract_lets -underBinder jp
  refine XM (f:=jp) (J:=λ_ u=>Fr P IC u) (λ_ st hF=>lB (tZ (lB (TF (ZF (I:=λx c u=>Fr P IC u/\c.1=none/\c.2=x) (Q:=λc u=>Fr P IC u/\c.1=none/\1<=c.2/\c.2<=wI) ?_ ?_ ⟨hF.QW,rfl,rfl⟩) ?_)))) λhj=>nC (λ_=>lB (tZ (hj () _ hF.QW))) λ_=>hj () _ hF
  ·rintro x ⟨c1,y⟩ u vM RH ⟨hF,e,e2⟩
   cases e;cases e2;exact lB (XQ hL hk hF (l0 RH) (l1 RH) λb=>nC (λ_=>dB ⟨hF,rfl,XC m1 vM,tK RH⟩) λ_=>dB ⟨hF,rfl,rfl⟩)
  ·rintro c u ⟨hF,e,e2⟩
   rw[Zr m2] at e2;exact⟨hF,e,e2 ▸ h1,uK e2⟩
  ·rintro⟨c1,y⟩ u ⟨hF,e,y1,y2⟩
   obtain rfl:c1=none:=e;exact dB (h _ _ hF y1 y2)
theorem b2a{n ok:Nat}{Q:Bool->zB->Prop}(hn:lo+n<=(arrOf IC).size)(h:∀sA,Fr P IC sA->Q true sA):wpS (model prog w) A E s (binarySort' lo n ok) Q st:=by
 rw[binarySort'_eq];refine lB (TF (ZF (I:=λk c u=>c=(none,())/\Fr P IC u) (Q:=λc u=>c=(none,())/\Fr P IC u) ?_ (λ_ _ z=>z) ⟨rfl,hF⟩) ?_)
 ·rintro k c u k1 k2 ⟨rfl,hF⟩
  refine lB (TF (ZF (I:=λx c v=>v=u/\c.1=none/\c.2.2<=k) (Q:=λc v=>v=u/\c.1=none/\c.2.2<=k) ?_ (λ_ _ z=>z) ⟨rfl,rfl,mB _⟩) ?_)
  ·rintro x ⟨c1,l,r⟩ v _ hx ⟨rfl,e,a2⟩
   cases e;exact nC (λ_=>dB ⟨rfl,rfl,a2⟩) λ_=>lB (XQ hL hk hF (by dsimp only at *;lia) (by dsimp only at *;lia) λb=>nC (λ_=>dB ⟨rfl,rfl,by dsimp only at *;lia⟩) λ_=>dB ⟨rfl,rfl,a2⟩)
  ·rintro⟨c1,l,r⟩ v ⟨rfl,e,b1⟩
   cases e;show wpS _ _ _ _ (moveDown' _ _>>=λ_=>pure (ForInStep.yield (none,()))) _ _;rw[moveDown'_eq];exact lB (eP (dB ⟨rfl,hF.to (bubble_perm _ _ _)⟩))
 ·rintro c u ⟨rfl,hF⟩
  exact dB (h u hF)
end
theorem Fj{P:HB->Prop}{f:Array HB->HB×Nat->Array HB}(hf:∀a x,P x.1->AP P a->(f a x).size=a.size/\AP P (f a x)):∀(l:List (HB×Nat)) (a:Array HB),(∀x∈l,P x.1)->AP P a->(l.foldl f a).size=a.size/\AP P (l.foldl f a)
 |[],a,_,h=>⟨rfl,h⟩
 |x::l,a,hl,h=>by(obtain⟨h1,h2⟩:=hf a x (hl x (.head _)) h;obtain⟨h3,h4⟩:=Fj hf l (f a x) (λy hy=>hl y (.tail _ hy)) h2;exact⟨h3.trans h1,h4⟩)
section
variable{prog:pC}{w:NB}{A:LD}{E:cA->qA->Prop}{s:qA}
variable{kd:yR}{P:HB->Prop}
def a2a{u st:zB}{Q:Unit->zB->Prop}(q:Q () u):wpS (model prog w) A E s (set u:StateT zB DE Unit) Q st:=eP (f:=λ_=>u) q
def e2a{st:zB}{i sa na pw nb q:Nat}{Q:Bool->zB->Prop}(hL:DJ prog w A E s kd P)(hk:kindOf st=kd)(hP:AP P (arrOf st))(hf:failedOf st=none)(h1:(pendingOf st)[i]?=some (sa,na,pw))(h2:(pendingOf st)[i+1]?=some (sa+na,nb,q))(n1:1<=na)(n2:1<=nb)(hz:sa+na+nb<=(arrOf st).size)
  (h:∀sA,kindOf sA=kd->pendingOf sA=((pendingOf st).setIfInBounds i (sa,na+nb,pw)).eraseIdxIfInBounds (i+1)->failedOf sA=none->(arrOf sA).size=(arrOf st).size->AP P (arrOf sA)->Q true sA):wpS (model prog w) A E s (mergeAt' i) Q st:=by
 refine lB (CK ?_);dsimp only;rw[h1,h2];refine lB (a2a ?_);have same:Q true (setPending st (((pendingOf st).setIfInBounds i (sa,na+nb,pw)).eraseIdxIfInBounds (i+1))):=h _ hk rfl hf rfl hP;refine gE (arr:=arrOf st) hP (by lia) λy hy=>WQ (arr:=arrOf st) hL hk (by lia) (by lia) hP hy λk k1=>BE (λ_=>dB same) λe1=>gE (arr:=arrOf st) hP (by lia) λx hx=>WQ (arr:=arrOf st) hL hk (by lia) (by lia) hP hx λm m1=>BE (λ_=>dB same) λe2=>?_
 have fin:∀z sA,BD (setPending st (((pendingOf st).setIfInBounds i (sa,na+nb,pw)).eraseIdxIfInBounds (i+1))) sA->AP P z->wpS (model prog w) A E s ((modify λu=>setArr u (z.toList.zipIdx.foldl (λa x=>a.setIfInBounds (sa+k+x.2) x.1) (arrOf u)))>>=λ_=>(get:StateT zB DE zB)>>=λu=>pure (failedOf u).isNone) Q sA:=λz sA hs hz=>by
  refine lB (eP (lB (CK (dB ?_))));have hff:(failedOf sA).isNone=true:=by rw[hs.f];show(failedOf st).isNone=true;rw[hf];rfl
  show Q (failedOf sA).isNone _;rw[hff];obtain⟨g1,g2⟩:=Fj (P:=P) (f:=λa x=>a.setIfInBounds (sa+k+x.2) x.1) (λa x hx ha=>⟨Array.size_setIfInBounds,λy hy=>(Array.mem_or_eq_of_mem_setIfInBounds hy).elim (ha y) λe=>e ▸ hx⟩) z.toList.zipIdx (arrOf sA) (λx hx=>hz _ (by obtain⟨_,_,e⟩:=List.mem_zipIdx hx;rw[e];exact HY.mp (pR _))) (hs.a ▸ hP);exact h _ (hs.k.trans hk) hs.p (hs.f.trans hf) (g1.trans (congrArg Array.size hs.a)) g2
 exact nC (λ_=>lB (g2a (a:=(arrOf st).extract (sa+k) (sa+na)) (b:=(arrOf st).extract (sa+na) (sa+na+m)) hL hP.ext hP.ext hk (by rw[MY];lia) (by rw[MY];lia) fin)) λ_=>lB (f2a (a:=(arrOf st).extract (sa+k) (sa+na)) (b:=(arrOf st).extract (sa+na) (sa+na+m)) hL hP.ext hP.ext hk (by rw[MY];lia) (by rw[MY];lia) fin)
end
def aA4{c:Prop}[Decidable c]{x y:Nat}(h:x<=y):(if c then x else y)<=y:=by split<;>lia
def aAv:Nat->List (Nat×Nat×Nat)->Nat->Prop
 |s,[],e=>s=e
 |s,x::r,e=>x.1=s/\1<=x.2.1/\aAv (s+x.2.1) r e
theorem aAv.le:∀{s:Nat} {r:List (Nat×Nat×Nat)} {e:Nat},aAv s r e->s+r.length<=e
 |s,[],e,h=>uK h
 |s,x::r,e,h=>by
  have:=aAv.le h.2.2
  have:=h.2.1
  rw[QC]
  lia
theorem aAv.app:∀{s:Nat} {r1 r2:List (Nat×Nat×Nat)} {e:Nat},aAv s (r1++r2) e↔∃m,aAv s r1 m/\aAv m r2 e
 |s,[],r2,e=>⟨λh=>⟨s,rfl,h⟩,λ⟨m,h1,h2⟩=>by have h1:s=m:=h1;rw[h1];exact h2⟩
 |s,x::r,r2,e=>by
  constructor
  ·rintro⟨h1,h2,h4⟩
   obtain⟨m,h5,h6⟩:=aAv.app.mp h4;exact⟨m,⟨h1,h2,h5⟩,h6⟩
  ·rintro⟨m,⟨h1,h2,h4⟩,h5⟩
   exact⟨h1,h2,aAv.app.mpr ⟨m,h4,h5⟩⟩
theorem kf{pw:Nat}:∀{s e:Nat} {rs:List (Nat×Nat×Nat)} (i:Nat),aAv s rs e->aAv s (rs.modify i λx=>(x.1,x.2.1,pw)) e
 |s,e,[],i,h=>by cases i<;>exact h
 |s,e,x::r,0,h=>h
 |s,e,x::r,i+1,h=>⟨h.1,h.2.1,kf i h.2.2⟩
structure SI(kd:yR)(P:HB->Prop)(n:Nat)(st:zB)(lo:Nat)(rs:List (Nat×Nat×Nat)):Prop where
 k:kindOf st=kd
 f:failedOf st=none
 z:(arrOf st).size=n
 a:AP P (arrOf st)
 p:(pendingOf st).toList=rs
 ch:aAv 0 rs lo
 le:lo<=n
section
variable{prog:pC}{w:NB}{A:LD}{E:cA->qA->Prop}{s:qA}
variable{kd:yR}{P:HB->Prop}{st:zB}{lo n:Nat}{rs:List (Nat×Nat×Nat)}
def SI.dm(h:SI kd P n st lo rs):(pendingOf st).size=rs.length:=by rw[<- h.p,vG]
def SI.pat(h:SI kd P n st lo rs)(i:Nat):(pendingOf st)[i]?=rs[i]?:=by rw[<- h.p,mU]
def SI.to{sA:zB}(h:SI kd P n st lo rs)(f:Fr P st sA):SI kd P n sA lo rs:=⟨f.k.trans h.k,f.f.trans h.f,f.z.trans h.z,f.a,by rw[f.p];exact h.p,h.ch,h.le⟩
def SI.fr(h:SI kd P n st lo rs):Fr P st st:=⟨rfl,rfl,rfl,rfl,h.a⟩
theorem SI.push{m:Nat}(h:SI kd P n st lo rs)(h1:1<=m)(h2:lo+m<=n):SI kd P n (setPending st ((pendingOf st).push (lo,m,0))) (lo+m) (rs++[(lo,m,0)]):=⟨h.k,h.f,h.z,h.a,(Array.toList_push).trans (by rw[h.p]),aAv.app.mpr ⟨lo,h.ch,rfl,h1,rfl⟩,h2⟩
def SI.mod{i pw:Nat}(h:SI kd P n st lo rs):SI kd P n (setPending st ((pendingOf st).modify i λx=>(x.1,x.2.1,pw))) lo (rs.modify i λx=>(x.1,x.2.1,pw)):=⟨h.k,h.f,h.z,h.a,(Array.toList_modify).trans (by rw[h.p]),kf i h.ch,h.le⟩
variable(hL:DJ prog w A E s kd P)
include hL
theorem Rp{i:Nat}{Q:Bool->zB->Prop}(h:SI kd P n st lo rs)(hi:i+1<rs.length)(hQ:∀sA NT,SI kd P n sA lo NT->Q true sA):wpS (model prog w) A E s (mergeAt' i) Q st:=by
 obtain⟨pre,x,y,post,rfl,rM⟩:∃pre x y post,rs=pre++x::y::post/\pre.length=i:=by(refine⟨rs.take i,rs[i],rs[i+1],rs.drop (i+2), ?_,by rw[ZH];lia⟩;rw[<- lP (by lia),<- lP (by lia),Tb])
 obtain⟨sa,na,pw⟩:=x;obtain⟨sb,nb,q⟩:=y;obtain⟨m,c1,c2⟩:=aAv.app.mp h.ch;obtain⟨rfl,n1,rfl,n2,c3⟩:=c2;have pV:=c3.le;have hz:=h.z;have TN:=h.le;refine e2a (sa:=sa) (na:=na) (pw:=pw) (nb:=nb) (q:=q) hL h.k h.a h.f ?_ ?_ n1 n2 (by dsimp only at *;lia) λsA k' p' f' z' a'=>?_
 ·rw[h.pat,zR (by lia),rM,HU];rfl
 ·rw[h.pat,zR (by lia),rM,show i+1-i=1 by lia];rfl
 ·refine hQ sA (pre++(sa,na+nb,pw)::post) ⟨k',f',z'.trans hz,a', ?_,aAv.app.mpr ⟨sa,c1,rfl,by dsimp only at *;lia,by rw[<- fZ];exact c3⟩,TN⟩;rw[p',Array.toList_eraseIdxIfInBounds,Array.toList_setIfInBounds,h.p,<- rM,List.set_append_right _ _ (mB _),HU,pU,List.eraseIdx_append_of_length_le (by lia),show pre.length+1-pre.length=1 by lia];rfl
theorem h2a{Q:Unit->zB->Prop}(hk:kindOf st=kd)(hf:failedOf st=none)(hp:pendingOf st=#[])(ha:AP P (arrOf st))(hQ:∀sA,failedOf sA=none->(arrOf sA).size=(arrOf st).size->AP P (arrOf sA)->Q () sA):wpS (model prog w) A E s sortRuns' Q st:=by
 rw[sortRuns'_eq];have h0:SI kd P (arrOf st).size st 0 []:=⟨hk,hf,rfl,ha,by rw[hp],rfl,tJ _⟩
 refine lB (CK ?_);refine lB (TF (ZF (I:=λx c u=>c.1=none/\x<=c.2/\∃rs,SI kd P (arrOf st).size u c.2 rs) (Q:=λc u=>c.1=none/\∃lo rs,SI kd P (arrOf st).size u lo rs) ?step ?fin ⟨rfl,mB _,[],h0⟩) ?post)
 case fin =>
  rintro c u ⟨e,_,rs,h⟩
  exact⟨e,_,rs,h⟩
 case step =>
  rintro x ⟨c1,lo⟩ u _ hx ⟨e,XJ,rs,h⟩
  cases e;have XJ:x<=lo:=XJ;have h:SI kd P (arrOf st).size u lo rs:=h;have hz:=h.z;refine nC (λ_=>dB ⟨rfl,lo,rs,h⟩) λe=>lB (c2a hL h.k h.fr (by dsimp only at *;lia) (by dsimp only at *;lia) λm st1 f1 m1 m2=>?_)
  refine nC (λ_=>lB (gP (QL ⟨rfl,lB (b2a hL h.k f1 (by dsimp only at *;lia) λxF f2=>nC (λz=>nomatch z) λ_=>?_)⟩))) λ_=>?_
  all_goals
   refine lB (CK ?_)
   first | have g:=h.to f2 | have g:=h.to f1
   dsimp only at *
   split
   ·refine lB (TF (ZF (I:=λx c v=>c.1=none/\∃rs,SI kd P (arrOf st).size v lo rs) (Q:=λc v=>c.1=none/\∃rs,SI kd P (arrOf st).size v lo rs) ?_ (λ_ _ z=>z) ⟨rfl,rs,g⟩) ?_)
    ·rintro y ⟨c1,⟨⟩⟩ v _ _ ⟨e,rs,h⟩
     cases e;have hp:=h.dm;refine lB (CK ?_);split
     ·rename_i hq;refine nC (λ_=>dB ⟨rfl,rs,h⟩) λ_=>lB (Rp hL h ?_ λsA NT h'=>nC (λz=>nomatch z) λ_=>dB ⟨rfl,NT,h'⟩)
      split at hq
      ·lia
      ·cases hq
     ·exact dB ⟨rfl,rs,h⟩
    ·rintro⟨c1,⟨⟩⟩ v ⟨e,rs,h⟩
     cases e;exact lB (eP (lB (eP (dB ⟨rfl,by dsimp only;lia,_,h.mod.push (by lia) (by lia)⟩))))
   ·exact lB (eP (dB ⟨rfl,by dsimp only;lia,_,g.push (by lia) (by lia)⟩))
 case post =>
  rintro⟨c1,c2⟩ u ⟨e,lo,rs,h⟩
  cases e;refine lB (TF (ZF (I:=λx c u=>c.1=none/\∃rs,SI kd P (arrOf st).size u lo rs) (Q:=λc u=>c.1=none/\∃rs,SI kd P (arrOf st).size u lo rs) ?_ (λ_ _ z=>z) ⟨rfl,rs,h⟩) ?_)
  ·rintro x ⟨c1,⟨⟩⟩ u _ _ ⟨e,rs,h⟩
   cases e;have hp:=h.dm;refine lB (CK (nC (λ_=>dB ⟨rfl,rs,h⟩) λe=>lB (Rp hL h ?_ λsA NT h'=>nC (λz=>nomatch z) λ_=>dB ⟨rfl,NT,h'⟩)));have e:¬(pendingOf u).size<=1:=e;refine qr (SO (aA4 (Nat.sub_le _ _))) ?_
   lia
  ·rintro⟨c1,⟨⟩⟩ u ⟨e,rs,h⟩
   cases e;exact dB (hQ u h.f h.z h.a)
end
theorem MW:∀a:List Int,HT.aAj a a=false
 |[]=>rfl
 |x::xs=>by rw[HT.EM,GA rfl];exact MW xs
theorem K8:∀a b c:List Int,HT.aAj a b=true->HT.aAj b c=true->HT.aAj a c=true
 |[],[],_,h,_=>nomatch h
 |[],_::_,[],_,h=>nomatch h
 |[],_::_,_::_,_,_=>rfl
 |_::_,[],_,h,_=>nomatch h
 |_::_,_::_,[],_,h=>nomatch h
 |x::xs,y::ys,z::zs,h,k=>by
  rw[HT.EM] at h k ⊢;by_cases e:x=y
  ·subst e;rw[GA rfl] at h;by_cases e2:x=z
   ·rw[GA e2] at k ⊢;exact K8 xs ys zs h k
   ·rw[LA e2] at k ⊢;exact k
  ·rw[LA e,OO] at h;by_cases e2:y=z
   ·rw[LA (e2 ▸ e),OO];omega
   ·rw[LA e2,OO] at k;rw[LA (by omega),OO];omega
abbrev gv:=L2.aB×L2.aB
section
variable{prog:pC}{w:NB}{A:LD}{E:cA->qA->Prop}{s:qA}
theorem US{h:jB}:∀{us:List cA} {ns:List Int},IntsAre us ns->∃as,ReadsAll h us (ns.map .int) as
 |_,_,.nil=>⟨_,.nil⟩
 |_,_,.cons n t r=>by(obtain⟨as,r⟩:=US (h:=h) r;exact⟨_,.cons (.int _ _) r⟩)
theorem IntsAre.one:∀{us:List cA} {ns ms:List Int},IntsAre us ns->IntsAre us ms->ns=ms
 |_,_,_,.nil,.nil=>rfl
 |_,_,_,.cons n t r,.cons _ _ r2=>by rw[IntsAre.one r r2]
def q0a{h:jB}{u:fA}{vs ws:Array cA}(p:AF h u vs)(q:AF h u ws):vs=ws:=by
 obtain⟨o,e,_,n,d⟩:=p;obtain⟨o',e',_,n',d'⟩:=q;rw[e] at e';cases e';rw[d] at d';exact(wd d').1
def Yy{a b:fA}{vs ws:Array cA}{ns ms:List Int}{Q:Bool->qA->Prop}(p:AF s.heap a vs)(q:AF s.heap b ws)(i:IntsAre vs.toList ns)(j:IntsAre ws.toList ms)(hu:A.units+8<cLine)
  (k:Q (decide (ns=ms)) s):nA (model prog w) A (eqBool (.ref a) (.ref b)) Q E s:=by
 obtain⟨as,r1⟩:=US (h:=s.heap) i;obtain⟨bs,r2⟩:=US (h:=s.heap) j;obtain⟨o,e,c,n,d⟩:=id p;obtain⟨o',e',c',n',d'⟩:=id q;refine L2.BV (λz=>jC ?_) ?_ k
 ·subst z;obtain rfl:=q0a p q;exact IntsAre.one i j
 ·have dp:=L2.b9 (ns:=ns)
  have:(PyData.tuple (ns.map .int)).eqv (.tuple (ms.map .int))=decide (ns=ms):=by simp only[PL,L2.nX]
  rw[<- this];refine xU (.tuple e c d r1) (.tuple e' c' d' r2) ?_ ?_ ?_
  ·simp[xG,L2.vT]
  ·simp[xG,L2.vT]
  ·simp only[zH];omega
theorem SS:∀{ns:List Int} {us:List cA},bZ (intKind prog w) ns us->IntsAre us ns
 |_,_,.nil=>.nil
 |_,_,.cons hk r=>by(obtain⟨t,rfl⟩:=PY hk;exact .cons _ t (SS r))
section
open PySem.SeqAt
open PySem.AutoSeq1 (wpAny_loadPart')
open PySem.MeetsSeq PySem.MeetsSeq2 PySem.MeetsSeq3
def de(op:RG)(A:LD)(s:qA)(v u:cA)(r:Bool):Prop:=∀(prog:pC) (w:NB) (E:cA->qA->Prop) (Q:cA->qA->Prop),Q (.bool r) s->nA (model prog w) A (richCompare op v u) Q E s
def t0a(l b:fA)(x y:Int)(t u:kF)(v v':cA)(n n2:Nat)(dd lE:Option fA)(sl oE:Array (Option cA))(e r:Bool) :
  iP (sH.«tuple.__lt__» ⟨[.ref l,.ref b],[]⟩)
   (λA R s=>s.heap.get? l=some { cls:=.type "tuple",dict:=dd,data:=.seq #[.int x t,v] n,slots:=sl }/\s.heap.get? b=some { cls:=.type "tuple",dict:=lE,data:=.seq #[.int y u,v'] n2,slots:=oE } /\
    EqAt A.in1 s v v' e/\de .Lt A.in1 s v v' r/\∀b,R (.ok (.ret (.bool b))) s) :=
 .of_wp λprog w A R s h=>by
  obtain⟨hp,g,d,tk,os⟩:=s;obtain⟨hl,hb,he,hr,h⟩:=h;have f2:=Lb
  wp_walk using vH hl,vH hb,Hc _ (λaAk b s'=>b.1=none/\s'=⟨hp,g,d,tk,os⟩/\(aAk=[(.int x t,.int y u),(v,v')]\/aAk=[(v,v')]\/aAk=[])) _
  case turn =>
   rintro⟨y',x'⟩ aAk b s' ⟨jD,rfl,hz⟩
   rcases hz with hz | hz | hz<;>cases hz
   ·obtain⟨e1,V5,mL⟩:=HT.AV A.in1 ⟨hp,g,d,tk,os⟩ x t y u;refine kA (V5 prog w _ _ ?_);have dJ:=HT.Bm A.in1 ⟨hp,g,d,tk,os⟩ x t y u prog w;cases e1
    ·wp_walk using dJ
     exact⟨_,rfl,h _⟩
    ·wp_walk
     exact⟨rfl,rfl,.inr (.inl rfl)⟩
   ·refine kA (he prog w _ _ ?_);have dJ:=hr prog w;cases e
    ·wp_walk using dJ
     exact⟨_,rfl,h _⟩
    ·wp_walk
     exact⟨rfl,rfl,.inr (.inr rfl)⟩
  case fin =>
   rintro⟨b1,b2⟩ s' ⟨jD,rfl,hz⟩
   simp only at jD;subst jD
   wp_walk
   exact⟨_,rfl,h _⟩
  case h=>exact⟨rfl,rfl,.inl rfl⟩
def Xj{a b:fA}{k m:L2.aB}{Q:cA->qA->Prop}(hx:L2.aD prog w s.heap k a)(hy:L2.aD prog w s.heap m b)(hu:A.units+10<cLine)(h:∀b,Q (.bool b) s):nA (model prog w) A (bE .Lt (.ref a) (.ref b)) Q E s:=by
 obtain⟨t,c,⟨⟨cls,dd,data,sl⟩,ho,hc,n,hd⟩,o1,dA,n1,e1,c1,d1,i1⟩:=hx;obtain⟨t',c',⟨⟨bS,lE,data2,oE⟩,jG,iG,n2,hd2⟩,o2,uL,jk,e2,c2,d2,i2⟩:=hy;simp only at hc hd iG hd2;subst hc hd iG hd2
 exact BY (op:=.Lt) ⟨_,ho,rfl⟩ ⟨_,jG,rfl⟩ Gq Aq (uq _ _) (t0a a b k.1 m.1 t t' (.ref c) (.ref c') n n2 dd lE sl oE (decide (k.2=m.2)) (HT.aAj k.2 m.2))
  ⟨ho,jG,λ_ _ _ _ hq=>Yy ⟨o1,e1,c1,n1,d1⟩ ⟨o2,e2,c2,jk,d2⟩ (SS i1) (SS i2) (by show A.units+1+8<cLine;lia) hq,
   λ_ _ _ _ hq=>HT.bKa ⟨o1,e1,c1,n1,d1⟩ ⟨o2,e2,c2,jk,d2⟩ (SS i1) (SS i2) (by show A.units+1<cLine;lia) hq,λb=>show Value.bool _≠Value.notImplemented/\Q _ s from⟨(λx=>nomatch x),h b⟩⟩ (by lia)
def mIa{a b:fA}{k l:gv}{Q:Bool->qA->Prop}(hx:L2.JK prog w s.heap k a)(hy:L2.JK prog w s.heap l b)(hu:A.units+10<cLine)(q:∀b,Q b s):nA (model prog w) A (keyLt' (tuples' false) (.ref a) (.ref b)) Q E s:=by
 obtain⟨b1,c1,⟨o,e,_,n,d⟩,p1,p2⟩:=hx;obtain⟨b2,c2,⟨o',e',_,n',d'⟩,q1,q2⟩:=hy;refine PySem.W.kat_lt (b:=false) e d e' d' (js (p1.eqBool (by lia) q1 ?_));cases decide (k.1=l.1)
 ·exact Vs (Ms _ _ (Xj p1 q1 hu q))
 ·refine Qs (js (p2.eqBool (by lia) q2 ?_));cases decide (k.2=l.2)
  ·exact Vs (Ms _ _ (Xj p2 q2 hu q))
  ·exact Qs (PySem.W.kat_nil (q _))
def zJa{P:HB->Prop}(hu:A.units+10<cLine)(hP:∀x,P x->∃a k,x.1=.ref a/\L2.JK prog w s.heap k a):DJ prog w A E s (tuples' false) P:=by
 intro st x y Q hk hx hy q;rw[lt'_eq];refine lB (CK ?_);rw[hk];obtain⟨a,_,e1,h1⟩:=hP x hx;obtain⟨b,_,e2,h2⟩:=hP y hy;rw[e1,e2];exact lB (gP (gZ (mIa h1 h2 hu λb=>⟨rfl,dB (q b)⟩)))
end
end
def Eg{h:jB}{a b:fA}{o:nB}(f:nB->nB)(ne:b≠a)(e:h.get? b=some o):(h.update a f).get? b=some o:=by
 rw[Heap.get?_update_ne _ _ _ _ ne];exact e
section
variable{prog:pC}{w:NB}{A:LD}{E:cA->qA->Prop}{s:qA}
def vN(prog:pC)(w:NB)(h:jB)(v:cA):Prop:=∃a k,v=.ref a/\L2.JK prog w h k a
def vN.mono{h h':jB}(m:∀b o,h.get? b=some o->o.cls=.type "tuple"->h'.get? b=some o){v:cA}(x:vN prog w h v):vN prog w h' v:=by
 obtain⟨a,k,e0,b,c,⟨o,e,z,r⟩,⟨t1,b1,⟨o1,e1,z1,r1⟩,o2,i2,n2,e2,z2,r2⟩,t3,b3,⟨o3,e3,z3,r3⟩,o4,i4,n4,e4,z4,r4⟩:=x;exact⟨a,k,e0,b,c,⟨o,m _ _ e z,z,r⟩,⟨t1,b1,⟨o1,m _ _ e1 z1,z1,r1⟩,o2,i2,n2,m _ _ e2 z2,z2,r2⟩,t3,b3,⟨o3,m _ _ e3 z3,z3,r3⟩,o4,i4,n4,m _ _ e4 z4,z4,r4⟩
theorem ng{h:jB}:∀vs:List cA,(∀x∈vs,vN prog w h x)->∃fs,PySem.W.KatTups h vs fs/\fs.length=vs.length/\∀f∈fs,∃b dA,f=.ref b/\AF h b dA
 |[],_=>⟨[],trivial,rfl,λ_ z=>nomatch z⟩
 |v::vs,hv=>by
  obtain⟨fs,h1,h2,h3⟩:=ng vs λx hx=>hv x (fD _ hx)
  obtain⟨a,_,rfl,b,c,⟨o,e,z,n,d⟩,⟨t1,b1,p,_⟩,_⟩:=hv v qE;refine⟨.ref b::fs,.cons e z d rfl h1,congrArg (·+1) h2,λf hf=>?_⟩;rcases wD.mp hf with rfl | hf
  ·exact⟨b,_,rfl,p⟩
  ·exact h3 f hf
def bYa{a:fA}{vs:List cA}{n:Nat}{P:Fin->qA->Prop}(ho:s.heap.get? a=some (seqObj "list" vs.toArray n))(hz:vs.length<=sizeLine)(hv:∀x∈vs,vN prog w s.heap x)(hu:A.units+10<cLine)
  (h:∀(out:Array cA) h' n',out.size=vs.length->(∀x∈out.toList,x∈vs)->h'.get? a=some (seqObj "list" out n')->(∀b o,b≠a->s.heap.get? b=some o->h'.get? b=some o)->P (.done (.ret .none)) { s with heap:=h' }):nA (model prog w) A (sH.«list.sort» ⟨[.ref a],[]⟩) P E s:=by
 rw[list_sort_plain];have S6:vs.toArray.size<=sizeLine:=by simpa using hz
 refine kA (listItems_at ho rfl (kA (Zc ho rfl ?_ S6 (by simp))));obtain⟨e1,g1⟩:∃e1,(s.heap.update a (nN λ_=>#[])).get? a=some (seqObj "list" #[] e1):=⟨_,get?_update_seq ho _⟩
 refine kA (Cd g1 rfl (kA (wpAny_newTuple (kA (gd (qK ?_))) )));generalize hh:((s.heap.update a (nN λ_=>#[])).push (seqObj "tuple" vs.toArray 0)).push (seqObj "list" #[] 0)=h6
 have g6:h6.get? a=some (seqObj "list" #[] e1):=by(rw[<- hh];exact wC _ (wC _ g1))
 have kp:∀b o,b≠a->s.heap.get? b=some o->h6.get? b=some o:=λb o ne e=>by(rw[<- hh];exact wC _ (wC _ (Eg _ ne e)))
 show nA (model prog w) A _ P E { s with heap:=h6 }
 have pz:AP (λx=>x.1∈vs/\x.2∈vs) (pairsOf vs):=λx hx=>by(have hx:=HY.mpr hx;rw[pairsOf_toList] at hx;exact VY hx)
 have fin:∀sA:zB,(arrOf sA).size=(pairsOf vs).size->AP (λx=>x.1∈vs/\x.2∈vs) (arrOf sA)->P (.done (.ret .none)) { s with heap:=h6.update a (nN λ_=>(arrOf sA).map (·.2)) }:=λsA p r=>by
  refine h _ _ _ (by rw[Ws,p,pairsOf_size]) (λx hx=>?_) (get?_update_seq g6 _) λb o ne e=>Eg _ ne (kp b o ne e)
  obtain⟨y,hy,rfl⟩:=Array.mem_map.mp (HY.mp hx);exact(r y hy).2
 have sz:∀sA:zB,(arrOf sA).size=(pairsOf vs).size->((arrOf sA).map (·.2)).size<=sizeLine+1:=λsA p=>by(rw[Ws,p,pairsOf_size];lia)
 by_cases h2:vs.toArray.size<2
 ·rw[GA h2,GA h2];refine kA (SA ?_);dsimp only;rw[StateT.run_pure];refine kA (SA ?_);dsimp only;have p0:(arrOf (SortSt.mk' general' (vs.toArray.zip vs.toArray) #[] 7 none)).size=(pairsOf vs).size:=rfl;refine kA (Cd g6 rfl (kA (Zc g6 rfl ?_ (tJ _) (sz _ p0))));simp only[bne_self_eq_false,wG,rH];exact SA (fin _ p0 pz)
 ·rw[LA h2,LA h2]
  have Fh:∀x∈vs,vN prog w h6 x:=λx hx=>(hv x hx).mono λb o e c=>kp b o (λz=>by
   subst z;rw[ho] at e;cases e
   exact absurd (show Value.type "list"=Value.type "tuple" from c) (by decide)) e
  obtain⟨fs,f1,f2,f3⟩:=ng vs Fh;refine kA (PySem.W.kat_kind (T:=.type "tuple") f1 (by rw[f2];simp at h2;lia) (λv hv=>?_) rfl ?_)
  ·obtain⟨b,dA,rfl,o,e,c,_⟩:=f3 v hv;rw[<- c];exact(PySem.W.Looks.ld e).andThen .now
  have L:DJ prog w A E { s with heap:=h6 } (tuples' false) (λx=>x.1∈vs/\x.2∈vs):=zJa hu λx hx=>Fh _ hx.1
  refine kA (OG (h2a L (Q:=λ_ sA=>failedOf sA=none/\(arrOf sA).size=(pairsOf vs).size/\AP (λx=>x.1∈vs/\x.2∈vs) (arrOf sA)) rfl rfl rfl pz λsA a1 a2 a3=>⟨a1,a2,a3⟩) ?_ λ_ _ e=>e)
  ·rintro⟨⟨⟩,sA⟩ s' ⟨rfl,f,p,r⟩
   dsimp only;refine kA (Cd g6 rfl (kA (Zc g6 rfl ?_ (tJ _) (sz _ p))));rw[f];simp only[bne_self_eq_false,wG,rH];exact SA (fin sA p r)
def x_{T:String}{r d S:fA}{n:Nat}{P:Nat->cA->Prop}{OK:jB->Prop}{R:Result->qA->Prop}(K:Vc prog w T r d n P OK)(hh:A.handled=none)(KA:OK s.heap)(hSr:S≠r)(hSd:S≠d)(hS:s.heap.get? S=some { cls:=.type "list",data:=.seq #[] 0 })
  (hR:∀h' tk GD c',(∀b o,b≠S->s.heap.get? b=some o->h'.get? b=some o)->h'.get? S=some { cls:=.type "list",dict:=none,data:=.seq GD c',slots:=#[] }->ItemsOf P GD n->R (.ok (.ret (.ref S))) { s with heap:=h',toks:=tk }) (hn:n<=sizeLine) :
  BK (model prog w) A (.builtin "list.__iadd__" ⟨[.ref S,.ref r],[]⟩) R s :=
 AU entry_list_iadd' (by
  show nA _ A.in1 (Builtin.List.listExtendWith (.ref S) (.ref r) (.ref S)) _ _ _
  exact PySem.W.kdl_extend K hh KA S hSr hSd _ 0 hS hR hn)
def cYa{T:String}{r d:fA}{n:Nat}{P:Nat->cA->Prop}{OK:jB->Prop}{Q:cA->qA->Prop}(K:Vc prog w T r d n P OK)(hh:A.handled=none)(KA:OK s.heap)(hz:n<=sizeLine)(hv:∀(i:Nat) v,P i v->vN prog w s.heap v)(hu:A.units+12<cLine)
  (h:∀(vs:List cA) (out:Array cA) p h' tk n',vs.length=n->(∀(j:Nat) v,vs[j]?=some v->P j v)->out.size=n->(∀x∈out.toList,x∈vs)->s.heap.objs.size<=p->h'.get? p=some (seqObj "list" out n')->(∀b o,s.heap.get? b=some o->h'.get? b=some o)->Q (.ref p) { s with heap:=h',toks:=tk }):nA (model prog w) A (call (.builtin "sorted") [.ref r]) Q E s:=by
 refine Calls.call_function_entry kind_sorted plain_sorted entry_sorted (args_sorted1 _) ?_;show nA _ _ (checkCount _ _ _ _>>=_) _ _ _;refine kA (SA (kA ?_));unfold collect;refine kA (wpAny_runValue (AU entry_proto_collect' ?_));show nA _ _ (do again (.builtin "list.__iadd__" ⟨[<- newList [],.ref r],[]⟩)) _ _ s;refine kA (gd (SA ⟨sr _ (by decide +kernel), ?_⟩));have lt:=K.there _ KA;have up:∀b o,s.heap.get? b=some o->(s.heap.push (seqObj "list" #[] 0)).get? b=some o:=λb o e=>wC _ e
 refine x_ (s:={ s with heap:=s.heap.push (seqObj "list" #[] 0) }) K hh (K.keep _ _ KA λb _ o e=>up b o e) (OL lt.1) (OL lt.2) (iE _ rfl) (λh1 tk rA c k1 g1 it=>?_) hz;refine kA (wpAny_load g1 (SA (kA (gd ?_ (by have:=it.1;rw[vG];lia)))));have k2:∀b o,s.heap.get? b=some o->h1.get? b=some o:=λb o e=>k1 b o (MD (fC e)) (up b o e)
 have g2:(h1.push (seqObj "list" rA.toList.toArray 0)).get? h1.objs.size=some (seqObj "list" rA.toList.toArray 0):=iE _ rfl;have hl:=it.1;refine kA (qK (QO slot_list_sort ⟨_,g2,rfl⟩ entry_list_sort (bYa g2 (by rw[vG];lia) (λx hx=>?_) (by show A.units+1+1+10<_;lia) λout h' n' p r g3 k3=>⟨_,rfl,SA ⟨_,rfl,h rA.toList out _ h' tk n' (by rw[vG];exact hl) (λj v e=>it.2 j v (by rw[<- mU];exact e)) (by rw[p,vG];exact hl) r ?_ g3 λb o e=>?_⟩⟩) (args_list_sort _)))
 ·obtain⟨j,e⟩:=Iq.mp hx;rw[mU] at e;exact(hv j x (it.2 j x e)).mono λb o e _=>wC _ (k2 b o e)
 ·exact tK (fC g1)
 ·have e':=k2 b o e;exact k3 b o (MD (fC e')) (wC _ e')
end
end CS
namespace L2
open PySem PySem.Spec PyProof.Rows
abbrev cH:=List (cC×fA×cA)
noncomputable def N5(k:aB):Int:=reduceHash (lU [hashInt k.1,reduceHash (lU (k.2.map hashInt))])
def hS:cC->Int:=fP N5 λk=>reduceHash (lU [N5 k.1,N5 k.2])
def Qf(x:cC×fA×cA):DictEntry:={ hash:=hS x.1,key:=.ref x.2.1,val:=x.2.2 }
def bC(a:fA)(xs:cH)(ep:Nat)(h:jB):Prop:=∃o es,h.get? a=some o/\o.ExactDict/\o.data=.dict es ep/\es.toList=xs.map Qf
def QU(H:Hp)(a:fA)(xs:cH):Prop:=∃ep,H a=some (.ext (bC a xs ep))
def bH(K:gA)(H:Hp)(k:aB)(b:fA):Prop:=∃c,sC K H b [.int k.1,.ref c]/\sC K H c (k.2.map V.int)
def bu(K:gA)(H:Hp)(k:aB×aB)(b:fA):Prop:=∃c d,sC K H b [.ref c,.ref d]/\bH K H k.1 c/\bH K H k.2 d
def rC(K:gA)(H:Hp):cC->fA->Prop:=fP (bH K H) (bu K H)
structure DS(K:gA)(H:Hp)(a:fA)(xs:cH):Prop where
 at_:QU H a xs
 nd:(xs.map (·.1)).Nodup
 len:xs.length<=sizeLine
 sm:(a==sysModules)=false
 keys:∀x∈xs,rC K H x.1 x.2.1
section
variable{k:cC}
def bH.is{k:aB}(I:eA X aA Y H s)(e:bH X.K H k b):aD X.prog X.w s.heap k b:=by
 obtain⟨c,e1,e2⟩:=e;obtain⟨dA,r,ht,_⟩:=I.tuple e1;obtain⟨uL,r2,⟨o,h1,h2,n,h3⟩,_⟩:=I.tuple e2;obtain⟨u,v,rfl,ru,rv⟩:=aAF r;obtain⟨t,rfl⟩:=ru;cases rv;refine⟨t,c,ht,o,uL.toArray,n,h1,h2,h3, ?_⟩
 have key:∀{ns:List Int} {us:List cA},aAc (ns.map V.int) us->bZ (intKind X.prog X.w) ns us:=by
  intro ns
  induction ns with
  |nil=>intro us q;cases q;exact .nil
  |cons n ns ih =>
   intro us q;rw[KC] at q
   cases q with
   |cons q1 q2 =>
    obtain⟨t,rfl⟩:=q1;exact .cons (by show rZ n (.int n t)=true;simp[rZ]) (ih q2)
 simpa using key r2
theorem rC.is(I:eA X aA Y H s):∀{k:cC},rC X.K H k b->(QQ X.prog X.w).is s.heap k b
 |.inl _,e=>bH.is I e
 |.inr k,e=>by(obtain⟨c,d,e1,e2,e3⟩:=e;obtain⟨dA,r,ht,_⟩:=I.tuple e1;obtain⟨u,v,rfl,ru,rv⟩:=aAF r;cases ru;cases rv;exact⟨c,d,ht,e2.is I,e3.is I⟩)
theorem Rf:entryOfKey (QQ P w)=Qf:=rfl
def DS.dict(I:eA X aA Y H s)(d:DS X.K H a xs):s.heap.DictOfH (QQ X.prog X.w) a xs:=by
 obtain⟨ep,e⟩:=d.at_;obtain⟨⟨o,es,h1,h2,h3,h4⟩,_⟩:=(show nD X.prog X.w H s.heap a (.ext (bC a xs ep)) from I.KA a _ e)
 exact⟨o,es,ep,h1,h2,h3,by rw[Rf];exact h4,λx hx=>(d.keys x hx).is I,d.nd⟩
def bC.LG(r:bC a xs ep h1)(k:∀o,h1.get? a=some o->h2.get? a=some o):bC a xs ep h2:=by
 obtain⟨o,es,e,r⟩:=r;exact⟨o,es,k o e,r⟩
def bC.ok(d:h.DictOfH (QQ P w) a xs):∃ep,∀H:Hp,nD P w H h a (.ext (bC a xs ep)):=by
 obtain⟨o,es,ep,h1,h2,h3,h4,_⟩:=d;exact⟨ep,λ_=>⟨⟨o,es,h1,h2,h3,by rw[<- Rf];exact h4⟩,⟨o,h1⟩,λ_ _ r k=>r.LG k⟩⟩
def vYa:(storedH xs k b v).length<=xs.length+1:=by unfold storedH;split<;>simp
def uYa{K:gA}(h:∀x∈xs,rC K H x.1 x.2.1)(hk:rC K H k b):∀x∈storedH xs k b v,rC K H x.1 x.2.1:=by
 unfold storedH;split
 ·intro x hx;obtain⟨y,hy,rfl⟩:=EF.mp hx;unfold putAt;split
  ·exact h y hy
  ·exact h y hy
 ·intro x hx;rcases VE.mp hx with hx | hx
  ·exact h x hx
  ·rw[DC.mp hx];exact hk
def rWa(hu:A.units+11<cLine)(I:eA X aA Y H s)(d:DS X.K H a xs)(hk:rC X.K H k b)(e:atKey xs k=some p)(h:∀s',eA X aA Y H s'->Q p.2 s'):nA (model X.prog X.w) A (getItem (.ref a) (.ref b)) Q E s :=
 wpAny_getItem_heap (show A.units+1+10<cLine by lia) (hk.is I) (d.dict I) e (h _ (I.tok _))
def sWa(hu:A.units+11<cLine)(I:eA X aA Y H s)(d:DS X.K H a xs)(hk:rC X.K H k b)(h:∀s',eA X aA Y H s'->Q (.bool (atKey xs k).isSome) s'):nA (model X.prog X.w) A (bE .In (.ref b) (.ref a)) Q E s :=
 wpAny_in_heap (show A.units+1+10<cLine by lia) (hk.is I) d.sm (d.dict I) (h _ (I.tok _))
def vWa(hu:A.units+11<cLine)(I:eA X aA Y H s)(d:DS X.K H a xs)(hk:rC X.K H k b)(h:∀s',eA X aA Y H s'->Q (.bool !(atKey xs k).isSome) s'):nA (model X.prog X.w) A (bE .NotIn (.ref b) (.ref a)) Q E s :=
 wpAny_notIn_heap (show A.units+1+10<cLine by lia) (hk.is I) d.sm (d.dict I) (h _ (I.tok _))
def xLa{h:jB}(d:h.DictOfH (QQ P w) a xs):(xs.map (·.1)).Nodup:=by
 obtain⟨_,_,_,_,_,_,_,_,nd⟩:=d;exact nd
def wWa(hu:A.units+11<cLine)(I:eA X aA Y H s)(d:DS X.K H a xs)(hk:rC X.K H k b)(hl:xs.length<sizeLine)
  (h:∀ep s',eA X aA Y (CA H a (.ext (bC a (storedH xs k b v) ep))) s'->((storedH xs k b v).map (·.1)).Nodup->Q () s'):nA (model X.prog X.w) A (setItem (.ref a) (.ref b) v) Q E s :=
 wpAny_setItem_heap (show A.units+1+10<cLine by lia) (hk.is I) (d.dict I) (λh' dd hs=>let ⟨_,e⟩:=d.at_;let ⟨_,w⟩:=bC.ok dd;h _ _ (Of I (by rw[e];exact True.intro) hs (let ⟨o,_,_,e,_⟩:=dd;⟨o,e⟩) (w _)) (xLa dd)) (tK hl)
def Am(h:jB):nD P w H (h.push { cls:=.type "dict",data:=.dict #[] }) h.objs.size (.ext (bC h.objs.size [] 0)) :=
 ⟨⟨_,#[],iE _ rfl,⟨rfl,rfl,rfl⟩,rfl,rfl⟩,⟨_,iE _ rfl⟩,λ_ _ r k=>r.LG k⟩
def xQa:PE X (.Dict [] [] pos) (λ_ H Q=>∀p,H p=none->(p==sysModules)=false->Q (.ref p) (CA H p (.ext (bC p [] 0)))):=λaA s Y H Q I q =>
 wpAny_Dict_empty ⟨.ref s.heap.objs.size,_,I.laid (a:=s.heap.objs.size) (o:=.ext (bC s.heap.objs.size [] 0)) (t':=s.toks) (λ_ _ q=>wC _ q) (mB _) (Am s.heap),rfl,q _ (I.KA.fresh (mB _)) (LO.mpr (hE (MD I.big)))⟩
def kZa(K:gA)(tk tv:TE):TE:=λY H Q=>∀p,H p=none->(p==sysModules)=false->tk Y (CA H p (.ext (bC p [] 0))) λx H1=>tv Y H1 λy H2=>H2 p=some (.ext (bC p [] 0))/\∃k b,x=.ref b/\rC K H2 k b/\∀v,aAe y v->∀ep,Q (.ref p) (CA H2 p (.ext (bC p [(k,b,v)] ep)))
def yQa(hu:X.A.units+11<cLine)(hk:PE X ke tk)(hv:PE X ve tv):PE X (.Dict [some ke] [ve] pos) (kZa X.K tk tv):=by
 intro aA s Y H Q I q;have hn:=I.KA.fresh (mB s.heap.objs.size);have sm:(s.heap.objs.size==sysModules)=false:=LO.mpr (hE (MD I.big));have I1:=I.laid (a:=s.heap.objs.size) (o:=.ext (bC s.heap.objs.size [] 0)) (h':=s.heap.push { cls:=.type "dict",data:=.dict #[] }) (t':=s.toks) (λ_ _ q=>wC _ q) (mB _) (Am s.heap);refine wpAny_Dict_any rfl rfl (by simp) (by simp) (pairTrees_cons_walk (OA (hk aA _ Y _ _ I1 (q _ hn sm)) λu s1 ⟨x,H1,I2,rx,q1⟩=>OA (hv aA s1 Y H1 _ I2 q1) λw2 s2 ⟨y,H2,I3,ry,q2⟩=>pairTrees_nil_walk ?_));obtain⟨e,k,b,rfl,kk,q3⟩:=q2;cases rx;have d:DS X.K H2 s.heap.objs.size []:=⟨⟨_,e⟩,by simp,by simp,sm,λx hx=>nomatch hx⟩
 unfold storeAll;simp only[sR,Rc,bind_assoc,pure_bind];refine kA (wpAny_dictSet_heap (knd:=QQ X.prog X.w) (show X.A.units+10<cLine by lia) (kk.is I3) (d.dict I3) (λh' dd hs=>let ⟨_,w⟩:=bC.ok dd;SA ⟨.ref s.heap.objs.size,_,Of I3 (by rw[e];exact True.intro) hs (let ⟨o,_,_,e,_⟩:=dd;⟨o,e⟩) (w _),rfl,q3 _ ry _⟩) (by simp))
end
section
variable{s:qA}
def bC.typeIs(h:bC a xs ep s.heap):s.TypeIs (.ref a) "dict":=let ⟨o,_,h1,h2,_⟩:=h;⟨o,h1,h2.1⟩
def ji(hd:(a==sysModules)=false)(hm:bC a xs ep s.heap)(hQ:Q (.ref s.heap.objs.size) { s with heap:=s.heap.push { cls:=.type "dict_keyiterator",data:=.fields #[.ref a,.int 0 0,.int xs.length 0,.int ep 0] } }):nA (model prog w) A (pyIter (.ref a)) Q E s:=by
 obtain⟨o,es,ho,hc,bW,hp⟩:=id hm;have hT:s.TypeIs (.ref a) "dict":=hm.typeIs;refine wpAny_pyIter_slot hT As (QO As hT F.entry_dict_iter ?_ (F.args_dict_iter_1 _));unfold sH.«dict.__iter__»;refine kA ?_;unfold Builtin.Dict.dictSlotNone;refine kA (wpAny_notOrdered_dict hT ?_);show nA _ _ (pure (Value.ref a)) _ _ s;refine SA ?_;show nA _ _ (Jq a>>=_) _ _ s;unfold Jq;rw[LA (by rw[hd];exact SD)];refine kA (SA (kA (Ec ho bW (kA (wpAny_dictEpoch ho bW ?_)))));have qB:es.size=xs.length:=by rw[<- vG,hp,EA]
 refine kA (IL (SA ⟨_,rfl,"dict_keyiterator",_,⟨_,iE _ rfl,rfl⟩,Jb.lookup, ?_⟩));simpa[rawInt,qB] using hQ
def YW(hh:A.handled=none)(hit:s.heap.IsKeyIter it a i xs.length ep)(hm:bC a xs ep s.heap)
  (h1:∀x h',xs[i]?=some x->h'.IsKeyIter it a (i+1) xs.length ep->xH it s.heap h'->Q (some (.ref x.2.1)) { s with heap:=h' })
  (h2:∀h',xs.length<=i->Heap.ExtBut it s.heap h'->Q none { s with heap:=h' }):nA (model prog w) A (pyNext (.ref it)) Q E s:=by
 obtain⟨o,ho,hc,hd⟩:=id hit;obtain⟨od,es,rh,lI,Ug,hp⟩:=id hm;have qB:es.size=xs.length:=by rw[<- vG,hp,EA]
 unfold pyNext
 refine kA (gZ (aR (name:=wA "__next__") hit.typeIs Jb
  (QO Jb hit.typeIs F.entry_dict_keyiterator_next ?_ (F.args_dict_keyiterator_next_1 _))))
 refine kA (SA (kA (kA ?_)))
 first | refine kA (Ib hit.typeIs (SA ?_)) | refine kA (Ob hit.typeIs (SA ?_))
 refine kA (wpAny_fieldsOf ho hd ?_);rw[LA (show ¬v3a "dict_keyiterator"=true from by decide)];show nA _ _ (if(Value.ref a==Value.none)=true then _ else _) _ _ s;rw[LA (show ¬((Value.ref a==Value.none)=true) from SD)];refine kA (SA (kA (Ec rh Ug ?_)));rw[LA (by rw[qB];simp)];refine kA (SA (kA (wpAny_dictEpoch rh Ug ?_)));rw[LA (by simp)];refine SA ?_;rcases Nat.lt_or_ge i es.size with AD | Zg
 ·have hx:∃x,xs[i]?=some x/\es[i].key=.ref x.2.1:=by
   have e:es.toList[i]?=some es[i]:=by simp[AD]
   rw[hp,jE] at e
   cases q:xs[i]? with
   |none=>rw[q] at e;cases e
   |some x=>rw[q] at e;exact⟨x,rfl,congrArg DictEntry.key (ZD e).symm⟩
  obtain⟨x,hx,hk⟩:=hx;dsimp only;rw[LA (show ¬((i:Int)<0) from by lia),EK,pq AD];refine kA ?_
  first | refine kA (Ib hit.typeIs (SA ?_)) | refine kA (Ob hit.typeIs (SA ?_))
  refine kA (Kq hit.typeIs ?_);show nA _ _ (setField (.ref it) 1 (rawInt ((i:Int)+1))>>=_) _ _ s;refine kA (DU ho hd (by simp) ?_)
  have gW:(s.heap.update it (wR (·.setIfInBounds 1 (rawInt ((i:Int)+1))))).IsKeyIter it a (i+1) xs.length ep :=
   ⟨_,CY _ ho (DY (qU hd _)),(Mr ..).trans hc,by rw[qU hd];simp[rawInt]⟩
  refine kA (qK ?_);refine kA (Kq (s:={ s with heap:=s.heap.update it (wR (·.setIfInBounds 1 (rawInt ((i:Int)+1)))) }) gW.typeIs ?_);show nA _ _ (pure es[i].key) _ _ _;rw[hk];exact SA (SA ⟨_,rfl,SA (h1 x _ hx gW (Yq ..))⟩)
 ·dsimp only;rw[LA (show ¬((i:Int)<0) from by lia),EK,Array.getElem?_eq_none Zg];refine kA ?_
  first | refine kA (Ib hit.typeIs (SA ?_)) | refine kA (Ob hit.typeIs (SA ?_))
  show nA _ _ (setField (.ref it) 0 .none>>=_) _ _ s;refine kA (DU ho hd (by simp) ?_);show nA _ _ (newExc (.type "StopIteration") []>>=_) _ _ _;refine kA ?_;simp only[newExc,newTuple];refine kA (IL ?_ (by size_fits));refine kA (m:=firstArgMember _ _) (wpAny_of_eq (a:=Value.none) (by first | rfl | (simp only[firstArgMember];rfl)) ?_);refine IL ?_ (by size_fits);simp only[raiseNew];refine kA (wpAny_handled ?_);rw[show A.in1.handled=none from hh];refine kA (SA (wpAny_throw ?_));refine kA (Kc (T:="StopIteration") (b:=true) ⟨_,iE _ rfl,rfl⟩ isSubtype_stop ?_);exact SA (h2 _ (qB ▸ Zg) (((Yq ..).extBut.push _).push _))
end
noncomputable def IZ(a:fA)(xs:cH)(ep:Nat):It:=⟨λi H=>H a=some (.ext (bC a xs ep))/\i<xs.length,λi H v H'=>H'=H/\∃x,xs[i]?=some x/\v=.ref x.2.1,λi H=>H a=some (.ext (bC a xs ep))/\xs.length<=i⟩
def z0a{K:gA}(a it:fA)(xs:cH)(ep:Nat):Turn P w K tg (IZ a xs ep) [it] it (λi h=>h.IsKeyIter it a i xs.length ep) where
 mem:=DC.mpr rfl
 obj:=λi h st b hb=>by(obtain rfl:=DC.mp hb;obtain⟨o,e,c,d⟩:=st;exact⟨o,e,λv z=>by rw[d] at z;cases z⟩)
 keep:=λi h h' st k=>let ⟨o,ho,r⟩:=st;⟨o,k it (DC.mpr rfl) o ho,r⟩
 item:=by
  intro X hP hw hK hc i aA s Y H E I hf st hg;subst hP hw hK;obtain⟨f0,f1,f2,f3,f4,f5⟩:=hf it (DC.mpr rfl);obtain⟨g1,g2⟩:=hg;refine YW (I.ok.hd hc) st (show nD X.prog X.w H s.heap a (.ext (bC a xs ep)) from I.KA a _ g1).1 (λx h' hx sA sb=>?_) λ_ z=>absurd g2 (Nat.not_lt.mpr z)
  have I1:eA X aA Y H { s with heap:=h' }:=I.turned (t':=s.toks) (λb o hb e=>(sb.2 b hb).trans e) f0 f1 f3 f4 f5;obtain⟨o,e,c,d⟩:=id sA;exact⟨_,rfl,PV (s:={ s with heap:=h' }) e c d (by decide) ⟨.ref x.2.1,H,I1,rfl,⟨rfl,_,hx,rfl⟩,sA,λb hb=>(hf b hb).1⟩⟩
 done:=by(intro X hP hw hK hc i aA s Y H E I hf st hg;subst hP hw hK;obtain⟨f0,f1,f2,f3,f4,f5⟩:=hf it (DC.mpr rfl);obtain⟨g1,g2⟩:=hg;exact YW (I.ok.hd hc) st (show nD X.prog X.w H s.heap a (.ext (bC a xs ep)) from I.KA a _ g1).1 (λx h' hx=>by rw[RL g2] at hx;cases hx) λh' _ eb=>⟨rfl,I.turned (t':=s.toks) (λb o hb e=>eb b o hb e) f0 f1 f3 f4 f5⟩)
 self:=λ_ _ _ _ _ st h=>Pq st h
section
variable{tg:vA}
def Lh(tl:TE):TI:=λY H R=>tl Y H λv H1=>∃a xs ep,v=.ref a/\(a==sysModules)=false/\H1 a=some (.ext (bC a xs ep))/\R (IZ a xs ep) H1
def Kl{tl:TE}(hl:PE X l tl):PI X tg l (Lh tl):=by
 intro aA s Y H R I h;refine OA (hl aA s Y H _ I h) λv s1 hz=>?_
 obtain⟨y,H1,I1,r1,q1⟩:=hz;obtain⟨a,xs,ep,rfl,sm,hx,q⟩:=q1;cases r1;refine ji sm (show nD X.prog X.w H1 s1.heap a (.ext (bC a xs ep)) from I1.KA a _ hx).1 ?_;refine⟨s1.heap.objs.size,[s1.heap.objs.size],_,_,H1,rfl,I1.kept (t':=s1.toks) λb o e=>wC _ e,z0a a _ xs ep,⟨_,iE _ rfl,rfl,rfl⟩,λb hb=>?_,q⟩;obtain rfl:=DC.mp hb;exact I1.oM (mB _) (I1.KA.fresh (mB _))
def Aj(sm:(a==sysModules)=false):Vc P w "dict" a a xs.length (λi v=>∃x,xs[i]?=some x/\v=.ref x.2.1) (bC a xs ep) where
 type:=λ_ hm=>hm.typeIs
 there:=λ_ hm=>let ⟨_,_,h,_⟩:=hm;⟨fC h,fC h⟩
 keep:=λ_ _ hm hk=>hm.LG λo e=>hk a (.inl rfl) o e
 notList:=by decide
 notTuple:=by decide
 hint:=λ_ _ _ _ hm hq=>PySem.W.kdl_hint_dict hm.typeIs hq
 iter:=λ_ s hh hm=>⟨_,λi h=>h.IsKeyIter s.heap.objs.size a i xs.length ep/\bC a xs ep h,(λ_ _ hq=>ji sm hm hq),{
  sub:=λb hb=>by simp at hb;simp[hb]
  frame:=λ_ _ _ st hk=>⟨st.1.at λo e=>hk _ (by simp) o e,st.2.LG λo e=>hk a (by simp) o e⟩
  item:=λi s1 Q E hi st hQ=>YW hh st.1 st.2 (λx h' hx sA sb=>hQ _ h' s1.toks ⟨x,hx,rfl⟩ ⟨sA,st.2.LG λo e=>sb.extBut a o (let ⟨_,_,h,_⟩:=hm;MD (fC h)) e⟩ λb o hb e=>sb.extBut b o (λh=>hb (by simp[h])) e) λ_ z=>absurd hi (Nat.not_lt.mpr z)
  done:=λs1 Q E st hQ=>YW hh st.1 st.2 (λx h' hx=>by simp at hx) λh' _ he=>hQ h' s1.toks λb o hb e=>he b o (λh=>hb (by simp[h])) e
  self:=λ_ _ _ _ st hQ=>Pq st.1 hQ },⟨⟨_,iE _ rfl,rfl,rfl⟩,hm.LG λo e=>wC _ e⟩⟩
end
end L2
namespace HT
open PySem PySem.Spec PyProof.Rows
section
variable{s:qA}
def jAa{lo hi:Option Int}(ht:AF s.heap t items)(hs:s.heap.IsSliceOf sl vl vu .none)(pl:xJ vl lo)(pu:xJ vu hi)
  (hw:fB items.size 0 lo=0/\fB items.size items.size hi=items.size) (h:Q (.ref t) s):nA (model prog w) A (getItem (.ref t) (.ref sl)) Q E s:=by
 obtain⟨os,WN,fQ,ED⟩:=id hs;have O5:s.TypeIs (.ref sl) "slice":=⟨os,WN,fQ⟩
 unfold getItem
 try with_reducible refine qK ?_
 first | refine kA (SA ?_) | skip
 refine kA (Gr ht.typeIs (by decide) ?_)
 refine kA (aR (name:=wA "__getitem__") ht.typeIs jP
  (QO jP ht.typeIs Vq ?_ (lr _ _)))
 show nA _ _ (tY (.ref t)>>=_) _ _ s;refine kA (eZ ht ?_);refine kA (ud O5 ?_);rw[GA (by decide)];refine kA (Zm hs pl pu ?_)
 have UJ:(((fB items.size 0 lo:Nat):Int)==0&&(1:Int)==1&&(fB items.size items.size hi-fB items.size 0 lo)==items.size)=true:=by(rw[hw.1,hw.2];simp)
 show nA _ _ (if(((fB items.size 0 lo:Nat):Int)==0&&(1:Int)==1&&(fB items.size items.size hi-fB items.size 0 lo)==items.size)=true then _ else _) _ _ s;rw[GA UJ];refine kA (show nA _ _ (Builtin.Tuple.tupleIsExact (.ref t)) _ _ _ from kA (ud ht.typeIs (SA ?_)));rw[GA (by decide)];refine kA (QL ?_);exact SA ⟨_,rfl,SA h⟩
end
end HT
namespace L2
open PySem PySem.Spec PyProof.Rows
section
variable{e st:vA}
def cVa(K:gA):V->Option Int->Option Int->Hp->VK->Prop:=λx lo hi H Q=>∃a xs,x=.ref a/\sC K H a xs /\
 (∀p,H p=none->Q (.ref p) (CA H p (.t (UK xs lo hi))))/\(HT.fB xs.length 0 lo=0/\HT.fB xs.length xs.length hi=xs.length->Q (.ref a) H)
def qXa:GJ X (cVa X.K):=by
 intro aA s Y H x v vl vu lo hi sl Q I rx hs pl pu h;obtain⟨a,xs,rfl,hx,q,q2⟩:=h;by_cases hw:HT.fB xs.length 0 lo=0/\HT.fB xs.length xs.length hi=xs.length
 ·cases rx;obtain⟨dA,r,ht,hz⟩:=I.tuple hx;have AB:dA.toArray.size=xs.length:=by rw[mD];exact r.length.symm
  refine⟨"tuple",_,jP.lookup,ht.typeIs, ?_⟩;exact HT.jAa ht hs pl pu (by rw[AB];exact hw) ⟨.ref a,H,I,rfl,q2 hw⟩
 ·exact pXa aA s Y H (.ref a) v vl vu lo hi sl Q I rx hs pl pu ⟨a,xs,rfl,hx,hw,q⟩
end
end L2
namespace CI
open PySem PySem.Spec PyProof.Rows L2
section
variable{h':jB}
def vMa(x:nD P w H h b o):∃ob,h.get? b=some ob:=by
 cases o with
 |l xs=>obtain⟨_,_,_,_,e⟩:=x;exact⟨_,e⟩
 |t xs=>obtain⟨_,_,_,ob,e,_⟩:=x;exact⟨_,e⟩
 |dK iC=>obtain⟨_,_,_,_,o,_,_,e,_⟩:=x;exact⟨_,e⟩
 |set S n=>obtain⟨o,_,_,_,e,_⟩:=x;exact⟨_,e⟩
 |ins C dx fs=>obtain⟨_,_,_,e,_⟩:=x;exact⟨_,e⟩
 |own y=>obtain⟨_,e⟩:=x;exact⟨_,e⟩
 |xd fs=>obtain⟨_,⟨_,_,_,e,_⟩,_⟩:=x;exact⟨_,e⟩
 |uD lo hi=>obtain⟨_,_,_,e⟩:=x;exact⟨_,e⟩
 |ID ob u=>obtain⟨e,_⟩:=x;exact⟨_,e⟩
 |RM ps=>exact⟨_,show h.get? b=some _ from x⟩
 |met f y=>exact⟨_,show h.get? b=some _ from x⟩
 |ext φ=>obtain⟨_,⟨_,e⟩,_⟩:=x;exact⟨_,e⟩
def MV(I:eA X aA Y H s)(hb:s.heap.get? b=none)(hn:H' b=none):xD X aA H' b:=by
 refine⟨hn,λz=>?_,λz=>?_, ?_,λx c e z=>?_,λp hp z=>?_⟩
 ·obtain⟨m,⟨o,_,_,ho,_⟩,_⟩:=I.loc;rw[<- z,hb] at ho;cases ho
 ·obtain⟨_,o,ho,_⟩:=I.fG.mem z;rw[hb] at ho;cases ho
 ·by_cases hx:b∈X.ex
  ·exact .inl hx
  ·refine .inr ?_
   cases q:X.s₀.heap.get? b with
   |none=>rfl
   |some o =>
    obtain⟨o',e⟩:=I.base.there b o q hx;rw[hb] at e;cases e
 ·obtain⟨v,o,ho,_⟩:=I.cell x c e;rw[z,hb] at ho;cases ho
 ·have:=(I.pin p hp).1
  rw[z,hb] at this;cases this
def Ag(I:eA X aA Y H s)(hb:s.heap.get? b=none):H b=none:=by
 cases q:H b with
 |none=>rfl
 |some u =>
  obtain⟨ob,e⟩:=vMa (I.KA b u q);rw[hb] at e;cases e
def i7(I:eA X aA Y H s)(fp:∀b∈as,xD X aA H b)(k:(qR s.heap (as++VD X.stack)).StaysIn h')
  (sl:∀b o,s.heap.get? b=some o->(∀vs,o.data≠.fields vs)->∃sl,h'.get? b=some { o with slots:=sl }):eA X aA Y H { s with heap:=h' }:=by
 have kp:∀b o,b ∉ as->b ∉ VD X.stack->s.heap.get? b=some o->h'.get? b=some o:=λb o h1 h2 e=>k b o (Yb _ e (by simp[h1,h2]))
 have tr:∀b u,H b=some u->b ∉ as/\b ∉ VD X.stack:=λb u e=>⟨(λz=>by rw[(fp b z).1] at e;cases e),(λz=>by rw[I.ya b z] at e;cases e)⟩
 have fr:∀b∈VD X.stack,∀o,s.heap.get? b=some o->∃sl,h'.get? b=some { o with slots:=sl }:=λb hb o e=>by(obtain⟨_,o',e',nf⟩:=I.stack.mem hb;rw[e] at e';cases e';exact sl b o e nf)
 have KA:yD X.prog X.w H h':=λb u e=>(I.KA b u e).LG (λc v hc q=>by
  have z:c ∉ as/\c ∉ VD X.stack:=by
   rcases hc with rfl | hc
   ·exact tr _ u e
   ·exact tr c _ hc
  exact kp c v z.1 z.2 q) (λ_ q=>q) λ_ _ q=>q
 have u:Un (VD X.stack) as H H s.heap h':=⟨λb o e n hf hx=>kp b o hx hf e,λb o e n hf hx=>fr b hf o e,λb o e n hx=>n,λb o e hx=>by
  by_cases hf:b∈VD X.stack
  ·obtain⟨_,z⟩:=fr b hf o e;exact⟨_,z⟩
  ·exact⟨o,kp b o hx hf e⟩,λ_ _ e=>e,λ_ _ _ e=>e,λb ps e=>⟨#[],by rw[e];simp⟩⟩
 exact I.call (g':=s.gens) (t':=s.toks) (d':=s.drawn) (ch:=as) u KA I.bare λb hb=>⟨(fp b hb).2.2.2.1,(fp b hb).2.1,(fp b hb).2.2.2.2.1,(fp b hb).2.2.2.2.2⟩
abbrev PX:=Option fA×Bool
def MK(vs:Array cA)(a0:cA)(b:Bool):Prop:=vs[0]?=some a0/\(b=true->vs[2]?=some .none)
def MK.eXa(h:MK vs a0 b):MK (vs.setIfInBounds 1 v) a0 b :=
 ⟨by rw[jq (by decide)];exact h.1,λz=>by rw[jq (by decide)];exact h.2 z⟩
def dI(X:Cx)(aA:List (fA×nB))(H:Hp)(h:jB)(a C:fA)(p:PX)(fl:cA):Prop :=
 ∃oe vs a0 T oT ts,h.get? a=some oe/\(oe.cls=.ref C/\oe.dict=p.1)/\oe.data=.fields vs/\MK vs a0 p.2/\xD X aA H T/\vs[1]?=some (.ref T)/\T≠a/\h.get? T=some oT/\oT.data=.fields ts/\ts[3]?=some fl
def Yt(h:jB)(a C:fA)(p:PX):Prop:=∃oe vs a0,h.get? a=some oe/\(oe.cls=.ref C/\oe.dict=p.1)/\oe.data=.fields vs/\MK vs a0 p.2/\vs[1]?=some .none
def YL(X:Cx)(aA:List (fA×nB))(H:Hp)(h:jB)(a C:fA)(p:PX):Prop:=xD X aA H a/\(Yt h a C p\/∃fl,dI X aA H h a C p fl)
def fMa(I:eA X aA Y H s)(fp:∀b∈as,xD X aA H b)(hB:(qR s.heap (as++VD X.stack)).get? T=none)(hT:h'.get? T=some oT)(hd:oT.data=.fields ts)
  (sl:∀b o,s.heap.get? b=some o->(∀vs,o.data≠.fields vs)->∃sl,h'.get? b=some { o with slots:=sl }):xD X aA H T:=by
 by_cases h1:T∈as
 ·exact fp T h1
 ·by_cases h2:T∈VD X.stack
  ·obtain⟨_,o,e,nf⟩:=I.stack.mem h2;obtain⟨Xm,e'⟩:=sl T o e nf;rw[hT] at e';cases e';exact absurd hd (nf ts)
  ·have hn:s.heap.get? T=none:=by
    cases q:s.heap.get? T with
    |none=>rfl
    |some o=>rw[Yb _ q (by simp[h1,h2])] at hB;cases hB
   exact MV I hn (Ag I hn)
def zg(I:eA X aA Y H s)(as:List fA):s.heap.FunFrames (qR s.heap (as++VD X.stack)) X.stack :=
 PySem.W.funFrames_hide I.stack λenv he b hb=>XF _ (uc.mpr ⟨env,he,hb⟩)
def VZ(h base:jB)(e:fA)(cls:cA)(p:PX)(a0 fl:cA):Prop :=
 ∃oe vs T oT ts,h.get? e=some oe/\((oe.cls=cls/\oe.dict=p.1)/\MK vs a0 p.2)/\oe.data=.fields vs/\vs[1]?=some (.ref T)/\base.get? T=none/\T≠e/\h.get? T=some oT/\oT.data=.fields ts/\ts[3]?=some fl
def Zd(base:jB)(e:fA)(cls:cA)(p:PX)(a0 fl:cA)(h h':jB):Prop:=base.StaysIn h'/\VZ h' base e cls p a0 fl/\∀b o,h.get? b=some o->(∀vs,o.data≠.fields vs)->∃sl,h'.get? b=some { o with slots:=sl }
def Ey(f:Array cA->Array cA)(o:nB):(wR f o).dict=o.dict:=by obtain⟨_,_,dt,_⟩:=o;cases dt<;>rfl
def vp(I:eA X aA Y H s)(fp:∀b∈as,xD X aA H b)(t:VZ h' (qR s.heap (as++VD X.stack)) a (.ref C) p a0 fl)
  (sl:∀b o,s.heap.get? b=some o->(∀vs,o.data≠.fields vs)->∃sl,h'.get? b=some { o with slots:=sl }):dI X aA H h' a C p fl:=by
 obtain⟨oe,vs,T,oT,ts,he,⟨hc,h0⟩,hd,h1,hB,xE,hT,YE,h3⟩:=t;exact⟨oe,vs,a0,T,oT,ts,he,hc,hd,h0,fMa I fp hB hT YE sl,h1,xE,hT,YE,h3⟩
variable{M:Model}{A:LD}{E:cA->qA->Prop}{Q:Unit->qA->Prop}
def Sf(qM:A.frames=some (env::outer))(hl:s.heap.FunFrames base (env::outer))(hf:env.frame=some L)
  (he:s.heap.get? e=some oe) (n6:base.StaysIn s.heap) (X5:base.get? e=none) (hd:oe.data=.fields vs) (qB:1<vs.size) (h0:MK vs a0 b0)
  (h:∀h',Zd base e oe.cls (oe.dict,b0) a0 (rawInt L) s.heap h'->Q () { s with heap:=h' }) :
  nA M A (do let a <- frameOf env;let pl <- entryPlaceOf L nx;let b <- Zq head a .none (rawInt L) .none pl;setField (.ref e) 1 b) Q E s:=by
 have Bk:∀b o,s.heap.get? b=some o->(∀vs,o.data≠.fields vs)->b≠e:=λb o hb nf z=>by rw[z,he] at hb;cases hb;exact nf vs hd
 have vBa:e ∉ (env::outer).filterMap (·.frame):=λhm=>by obtain⟨_,o,ho,nf⟩:=hl.mem hm;exact Bk e o ho nf rfl
 refine kA (wpAny_frameOf_fun qM hl hf λh₁ hs₁=>kA (wpAny_entryPlaceOf λpl MF=>?_));have he₁:h₁.get? e=some oe:=(hs₁.2.1 e vBa).trans he;have kb₁:base.StaysIn h₁:=λb o YI=>(hs₁.2.1 b λhm=>by rw[(hl.mem hm).1] at YI;cases YI).trans (n6 b o YI)
 unfold Zq newFields;refine kA (IL ?_ (MF.sizeOk5 _ _ _ _ _));generalize hoT:({ cls:=.type "traceback",dict:=none,data:=.fields ([head,.ref L,.none,rawInt L,.none]++(if pl.isEmpty then LB 6 Value.none else pl)).toArray }:nB)=oT;have Ng:oT.data=.fields ([head,.ref L,.none,rawInt L,.none]++(if pl.isEmpty then LB 6 Value.none else pl)).toArray:=by rw[<- hoT]
 have he₂:=wC (h:=h₁) oT he₁;refine DU he₂ hd qB (h _ ?_);have TV:h₁.objs.size≠e:=OL (fC he₁);have hd₃:=qU hd (·.setIfInBounds 1 (Value.ref h₁.objs.size));have keep:∀b o,b≠e->h₁.get? b=some o->((h₁.push oT).update e (wR (·.setIfInBounds 1 (Value.ref h₁.objs.size)))).get? b=some o:=λb o jL hb=>(cR _ _ (hE jL)).trans (wC _ hb)
 refine⟨λb o YI=>keep b o (λq=>by rw[q,X5] at YI;cases YI) (kb₁ b o YI), ?_,λb o hb TJ=>?_⟩
 ·exact⟨_,_,h₁.objs.size,_,_,CY _ he₂ (DY hd₃),⟨⟨Mr _ _,Ey _ _⟩,h0.eXa⟩,hd₃,by simp[qB],kb₁.fresh,TV,(cR _ _ (hE TV)).trans (iE h₁ (DY Ng)),Ng,by first | (simp;done) | (rcases MF with rfl | ⟨_,_,_,_,_,_,_,rfl⟩<;>simp)⟩
 ·obtain⟨sl,hs⟩:=hs₁.2.2 b o hb;exact⟨sl,keep b _ (Bk b o hb TJ) hs⟩
def pMa(qM:A.frames=some (env::outer))(hl:s.heap.FunFrames base (env::outer))(hf:env.frame=some L)(ht:VZ s.heap base e cls p a0 fl)(hn:¬(fl==rawInt L)=true)(n6:base.StaysIn s.heap)(X5:base.get? e=none)
  (h:∀h',Zd base e cls p a0 (rawInt L) s.heap h'->Q () { s with heap:=h' }):nA M A (noteFrame (.ref e) env) Q E s:=by
 obtain⟨p1,p2⟩:=p;obtain⟨oe,vs,T,oT,ts,he,⟨⟨rfl,rfl⟩,h0⟩,hd,h1,hnT,TV,hT,YE,h3⟩:=ht;unfold noteFrame;simp only[hf];refine kA (XH he hd h1 ?_);rw[GA (show(Value.ref T != Value.none)=true from by simp)];refine kA (XH hT YE h3 ?_);rw[LA hn];refine kA (DU hT YE (uY.mp h3).1 ?_);have other:∀b,b≠T->(s.heap.update T (wR (·.setIfInBounds 3 Value.none))).get? b=s.heap.get? b:=λb hb=>cR _ _ (hE hb)
 have zk:∀b o,s.heap.get? b=some o->(∀vs,o.data≠.fields vs)->b≠T:=λb o hb TJ q=>by
  rw[q,hT] at hb;injection hb with hb;subst hb;exact TJ ts YE
 refine Sf qM (hl.of_keeps λb o hb TJ=>⟨o,(other b (zk b o hb TJ)).trans hb,rfl⟩) hf ((other e (hE TV)).trans he)
  (λb o YI=>(other b λq=>by rw[q,hnT] at YI;cases YI).trans (n6 b o YI)) X5 hd (uY.mp h1).1 h0
  λh' hz=>(by obtain⟨x1,x3,x4⟩:=hz;exact h h' ⟨x1,x3,λb o hb TJ=>x4 b o ((other b (zk b o hb TJ)).trans hb) TJ⟩)
def Dk(I:eA X aA Y H s)(hs:X.stack=env::outer)(hf:env.frame=some L)(F:YL X aA H s.heap a C p)
  (h:∀h',eA X aA Y H { s with heap:=h' }->dI X aA H h' a C p (rawInt L)->Q () { s with heap:=h' }):nA M X.A (noteFrame (.ref a) env) Q E s:=by
 have qM:X.A.frames=some (env::outer):=by rw[<- hs];exact I.ok.frames
 obtain⟨fa,F⟩:=F;rcases F with ⟨oe,vs,a0,he,hc,hd,h0,h1⟩ | ⟨fl,oe,vs,a0,T,oT,ts,he,hc,hd,h0,fT,h1,xE,hT,YE,h3⟩
 ·have fp:∀b∈[a],xD X aA H b:=λb hb=>by rw[DC.mp hb];exact fa
  have hl:=zg I [a];rw[hs] at hl;unfold noteFrame;simp only[hf];refine kA (XH he hd h1 ?_);rw[LA (by decide)];refine Sf qM hl hf he (λb o e=>KY _ e) (eR _ (by simp)) hd (uY.mp h1).1 h0 λh' N=>?_
  obtain⟨k1,k3,k4⟩:=N;rw[<- hs] at k1 k3;rw[hc.1,show(oe.dict,p.2)=p by rw[hc.2]] at k3;exact h h' (i7 I fp k1 k4) (vp I fp k3 k4)
 ·have fp:∀b∈[a,T],xD X aA H b:=λb hb=>by
   rcases wD.mp hb with rfl | hb
   ·exact fa
   ·rw[DC.mp hb];exact fT
  have hl:=zg I [a,T];rw[hs] at hl;by_cases fW:(fl==rawInt L)=true
  ·have fW:=EC fW;subst fW;exact wpAny_noteFrame_againW (base:=qR s.heap ([a,T]++VD (env::outer))) hf ⟨oe,vs,T,oT,ts,he,⟨hc.1,h0.1⟩,hd,h1,eR _ (by simp),xE,hT,YE,h3⟩ (h s.heap I ⟨oe,vs,a0,T,oT,ts,he,hc,hd,h0,fT,h1,xE,hT,YE,h3⟩)
  refine pMa qM hl hf ⟨oe,vs,T,oT,ts,he,⟨hc,h0⟩,hd,h1,eR _ (by simp),xE,hT,YE,h3⟩ fW (λb o e=>KY _ e) (eR _ (by simp)) λh' N=>?_
  obtain⟨k1,k3,k4⟩:=N;rw[<- hs] at k1 k3;exact h h' (i7 I fp k1 k4) (vp I fp k3 k4)
def V_(I:eA X aA Y H s)(fa:xD X aA H a)(F:dI X aA H s.heap a C p fl)
  (h:∀h',eA X aA Y H { s with heap:=h' }->dI X aA H h' a C p (f.elim Value.none λf=>rawInt f)->Q () { s with heap:=h' }):nA M A (setFlight (.ref a) f) Q E s:=by
 obtain⟨oe,vs,a0,T,oT,ts,he,hc,hd,h0,fT,h1,xE,hT,YE,h3⟩:=F
 have fp:∀b∈[a,T],xD X aA H b:=λb hb=>by
  rcases wD.mp hb with rfl | hb
  ·exact fa
  ·rw[DC.mp hb];exact fT
 have Ah:3<ts.size:=(uY.mp h3).1;unfold setFlight;refine kA (XH he hd h1 ?_);rw[GA (show(Value.ref T != Value.none)=true from by simp)];refine DU hT YE Ah ?_;have other:∀b,b≠T->(s.heap.update T (wR (·.setIfInBounds 3 (f.elim Value.none λf=>rawInt f)))).get? b=s.heap.get? b:=λb hb=>cR _ _ (hE hb)
 refine h _ (i7 I fp (λb o e=>?_) λb o e nf=>⟨o.slots, ?_⟩) ⟨oe,vs,a0,T,_,_,(other a (hE xE)).trans he,hc,hd,h0,fT,h1,xE,CY _ hT (DY (qU YE _)),qU YE _,by simp[Ah]⟩
 ·have hb:b≠T:=λz=>by rw[z,eR _ (by simp)] at e;cases e
  exact(other b hb).trans (KY _ e)
 ·have hb:b≠T:=λz=>by rw[z,hT] at e;cases e;exact nf ts YE
  exact(other b hb).trans e
def L3(I:eA X aA Y H s)(fa:xD X aA H a)(F:dI X aA H s.heap a C p fl)
  (h:∀h',eA X aA Y H { s with heap:=h' }->dI X aA H h' a C p .none->Q () { s with heap:=h' }):nA M A (setFlight (.ref a) none) Q E s:=V_ I fa F h
def fJa(I:eA X aA Y H s)(hs:X.stack=X.env::X.outer)(hf:X.env.frame=some X.env.locals)(F:YL X aA H s.heap a C p)
  (h:∀h',eA X aA Y H { s with heap:=h' }->dI X aA H h' a C p .none->Q () { s with heap:=h' }):nA M X.A (leaving X.env (.ref a)) Q E s:=by
 unfold leaving;exact kA (Dk I hs hf F λh1 I1 F1=>L3 I1 F.1 F1 λh2 I2 F2=>h h2 I2 F2)
end
def II(P:pC)(w:NB):VL:=λouter H s E v s'=>∃a C p H',v=.ref a/\s'.os=s.os/\AK s'.gens/\Un (VD outer) [] H H' s.heap s'.heap/\yD P w H' s'.heap/\s.heap.get? a=none/\H' a=none /\
 (∃oe vs a0 T oT ts,s'.heap.get? a=some oe/\(oe.cls=.ref C/\oe.dict=p.1)/\oe.data=.fields vs/\MK vs a0 p.2/\s.heap.get? T=none/\H' T=none/\vs[1]?=some (.ref T)/\T≠a/\s'.heap.get? T=some oT/\oT.data=.fields ts/\ts[3]?=some .none)/\E (.ref C) p H'
def vy{K:gA}(I:eA (DG (II P w) P w K mg base N XA scope f cd A outer s₀ H₀ E) aA Y H s)(F:YL (DG (II P w) P w K mg base N XA scope f cd A outer s₀ H₀ E) aA H s.heap a C p)(h:E (.ref C) p H) :
  (DG (II P w) P w K mg base N XA scope f cd A outer s₀ H₀ E).xe (.ref a) s:=by
 refine fJa I rfl rfl F λh' I2 F2=>?_
 obtain⟨oe,vs,a0,T,oT,ts,he,hc,hd,h0,fT,h1,xE,hT,YE,h3⟩:=F2
 have nn:∀b,xD (DG (II P w) P w K mg base N XA scope f cd A outer s₀ H₀ E) aA H b->s₀.heap.get? b=none:=λb fb=>by
  rcases fb.2.2.2.1 with z | z
  ·exact absurd (show b∈([]:List fA) from z) (by simp)
  ·exact z
 exact⟨a,C,p,H,rfl,I2.os,I2.bare,I2.base,I2.KA,nn a F.1,F.1.1,⟨oe,vs,a0,T,oT,ts,he,hc,hd,h0,nn T fT,fT.1,h1,xE,hT,YE,h3⟩,h⟩
section
variable{X:Cx}{aA:List (fA×nB)}{Y:L2.St}{H:Hp}{s s':qA}
def uy(I:eA X aA Y H s)(h:II X.prog X.w X.stack H s E v s'):∃a C p H',v=.ref a/\eA X aA Y H' s'/\YL X aA H' s'.heap a C p/\E (.ref C) p H':=by
 obtain⟨a,C,p,H',rfl,os,bare,un,KA,na,ha,⟨oe,vs,a0,T,oT,ts,he,hc,hd,h0,nT,hT0,h1,xE,hT,YE,h3⟩,e⟩:=h;refine⟨a,C,p,H',rfl,I.Ze (ch:=[]) os un KA bare (λb z=>absurd z (by simp)),⟨MV I na ha,.inr ⟨_,oe,vs,a0,T,oT,ts,he,hc,hd,h0,MV I nT hT0,h1,xE,hT,YE,h3⟩⟩,e⟩
def dWa(F:sE X.prog X.w X.K X.mg X.base (II X.prog X.w) k f fd ps sp)(hr:zC k X.A)(hb:aAu X.K fd ps [])
  (I:eA X aA Y H s) (r:aAc vs us) (h:sp vs H Q E) (hx:∀aA a C p H' s',eA X aA Y H' s'->YL X aA H' s'.heap a C p->E (.ref C) p H'->X.xe (.ref a) s'):nA (model X.prog X.w) X.A (call (.ref f) us) (EP X aA Y Q) X.xe s:=by
 have hl:us.length=ps.length:=by rw[<- r.length];exact F.len _ _ _ _ h
 have jD:=hb s us I.WD (by rw[JC];exact hl);rw[JC] at jD;refine wZ (bP (F.run X.A X.stack s H ⟨us,[]⟩ us vs Q E hr I.jI jD r h) λr s' hq=>?_)
 cases r with
 |error e =>
  obtain⟨a,C,p,H',rfl,I',F',e'⟩:=uy I hq;exact hx aA a C p H' s' I' F' e'
 |ok fl =>
  cases fl with
  |ret u=>exact I.after hq
  |next=>exact uG hq
  |brk=>exact uG hq
  |cont=>exact uG hq
def iZa(X:Cx)(sp:Sp)(t:TA):TE:=λY H Q=>t Y H λvs H1=>∃E:XK,sp vs H1 Q E/\∀aA a C p H' s',eA X aA Y H' s'->YL X aA H' s'.heap a C p->E (.ref C) p H'->X.xe (.ref a) s'
def zl(F:sE X.prog X.w X.K X.mg X.base (II X.prog X.w) k f fd ps sp)(hr:zC k X.A)(hg:Gl X x)(hm:X.mg x=some (.ref f))(hk:UG X.K (.ref f)=true)(hb:aAu X.K fd ps [])
  (ha:PA X (e::es) t) (aJ:(x==("__debug__":bA))=false) (he:YB (e::es) X.env=(false,eval e X.env)::YB es X.env) (MF:(UE pos (YB es X.env)).any (·.1)=false) :
  PE X (.Call (.Name x p) (e::es) [] pos) (iZa X sp t):=by
 intro aA s Y H Q I h;refine gR (xQ I hg hm ?_ aJ);refine LY (h₀:=X.base) I.ok.mod.kin hk (OA (ha pos aA s Y H _ I h) λus s1 ⟨vs,H1,I1,r,E,q,hx⟩=>⟨I1.WD, ?_⟩) he MF;exact dWa F hr hb I1 r q hx
end
abbrev oV:List cA:=[.type "ValueError",.type "Exception",.type "BaseException",.type "object"]
def FK(K:gA)(C:fA)(i:Option cA):Prop:=∃(tl:List cA) (N:fA),(∀v,sJ K C v=some ((Value.ref C::tl).contains v)) /\
  ∀{h:jB},K.In h->∃(nm qn:bA) (bs:List cA) (hd:Bool) (sn:List bA) (sub:List cA) (ab:Bool) (col:Option Bool) (dd:Option fA) (k0 k1 k2 k3 k5:Option cA),
   h.get? C=some (excClassObj nm qn C N bs tl hd sn sub ab col dd k0 k1 k2 k3 k5 "ValueError.__new__")/\h.Ns N (h.nsMap N)/\h.nsMap N "__init__"=i/\OwnTail h oV tl
def cg{K:gA}(q:jd K C oV "ValueError.__new__"=true):FK K C none:=by
 unfold jd at q;split at q
 ·rename_i dd cd sl lk;rcases e1:cd.mro with _ | ⟨m0,tl⟩<;>rw[e1] at q
  ·cases q
  cases m0<;>try (cases q;done)
  rename_i C'
  rcases e2:sl.toList with _ | ⟨k0,_ | ⟨k1,_ | ⟨k2,_ | ⟨k3,_ | ⟨_ | n',_ | ⟨k5,_ | ⟨k6,r⟩⟩⟩⟩⟩⟩⟩<;>rw[e2] at q<;>try (cases q;done)
  all_goals (cases n'<;>try (cases q;done))
  rename_i n'
  try dsimp only at q
  rw[WA,WA,WA,WA,WA] at q;obtain⟨⟨⟨⟨⟨q1,q2⟩,q3⟩,q4⟩,q5⟩,q6⟩:=q;have q1:=vJ.mp q1;have q2:=vJ.mp q2;have q6:=vJ.mp q6;subst q1 q2;refine⟨tl,cd.ns,λv=>?_,λ{h} X=>?_⟩
  ·unfold sJ PySem.W.clsIn;rw[lk];simp only[uH];rw[e1,LA (by simp)]
  ·refine⟨cd.name,cd.qualname,cd.bases,cd.hasDict,cd.slotNames,cd.subclasses,cd.abstract,cd.collection,dd,k0,k1,k2,k3,k5, ?_,.of_isNs (PySem.W.isNs_of_in X q5),PySem.W.nsMap_none_of_in X q5 q6,PySem.W.tail_of_in X q4⟩;rw[X _ _ lk];have e3:sl=#[k0,k1,k2,k3,some (.builtin "ValueError.__new__"),k5]:=RY.mp e2;rw[e3];obtain⟨c1,c2,c3,c4,c5,c6,c7,c8,c9,c10,c11⟩:=cd;simp only[Bool.not_eq_true'] at q3;simp only at e1;subst e1 q3;rfl
 ·cases q
section
variable{X:Cx}{aA:List (fA×nB)}{Y:L2.St}{H:Hp}{s:qA}{h':jB}{a C:fA}
def wZa(X:Cx)(C:fA)(t:TA):TS:=λ_ Y H=>t Y H λvs H1=>vs.length<=sizeLine/\∀aA a s',eA X aA Y H1 s'->YL X aA H1 s'.heap a C (none,true)->X.xe (.ref a) s'
def jTa(hh:X.A.handled=none)(hg:Gl X x)(hm:X.mg x=some (.ref C))(q:FK X.K C none)(ha:PA X (e::es) t)
  (aJ:(x==("__debug__":bA))=false) (he:YB (e::es) X.env=(false,eval e X.env)::YB es X.env) (MF:(UE OC (YB es X.env)).any (·.1)=false) :
  PS X (.Raise (some (.Call (.Name x np) (e::es) [] OC)) none pos) (wZa X C t):=by
 intro aA s Y H D I h;obtain⟨tl,N,_,k⟩:=q;obtain⟨nm,qn,bs,hd,sn,sub,ab,col,dd,k0,k1,k2,k3,k5,hC,hN,mW,T⟩:=k I.ok.mod.kin
 refine wpAny_Raise_call_subT (nm:=nm) (q:=qn) (N:=N) (bs:=bs) (bm:=tl) (hdct:=hd) (sn:=sn) (sub:=sub) (ab:=ab) (col:=col) (dd:=dd) (k0:=k0) (k1:=k1) (k2:=k2) (k3:=k3) (k5:=k5)
  oq (mN:=X.base.nsMap N) (T.hasType oq.hasBase) hh (by rw[he];unfold UE at *;rw[KC,ZO,MF];rfl) mW (xQ I hg hm ⟨rfl, ?_⟩ aJ)
 have h2:=ha OC aA s Y H _ I h;rw[he] at h2 ⊢;refine Calls.evalArgs_plain (OG h2 (λus s2 h3=>?_) λ_ _ y=>y);obtain⟨vs,H1,I1,r,hl,hx⟩:=h3;refine⟨rfl,by rw[<- r.length];exact hl,I1.bk _ _ hC,hN.keeps I1.bk,T.keeps I1.bk,λh' e hM=>?_⟩;obtain⟨t0,he0,_,_⟩:=hM.there;have I2:eA X aA Y H1 { s2 with heap:=h' }:=I1.kept (t':=s2.toks) hM.keeps;exact hx aA e _ I2 ⟨MV I1 hM.new (Ag I1 hM.new),.inl ⟨_,_,_,he0,⟨rfl,rfl⟩,rfl,⟨rfl,λ_=>rfl⟩,rfl⟩⟩
def t_{K:gA}(X:K.In s.heap)(qC:FK K C i)(qD:FK K D j)
  (hm:sJ K C (.ref D)=some true) (he:s.heap.get? a=some oe) (hc:oe.cls=.ref C) (h:Q true s):nA M A (excMatches (.ref a) (.ref D)) Q E s:=by
 obtain⟨tl,N,m1,k⟩:=qC;obtain⟨nm,qn,bs,hd,sn,sub,ab,col,dd,k0,k1,k2,k3,k5,hC,hN,mW,T⟩:=k X;obtain⟨tl',N',m1',k'⟩:=qD;obtain⟨nm',qn',Qe,LF,sn',a7a,ab',j4a,dd',k0',k1',k2',k3',k5',hD,hN',l5a,T'⟩:=k' X;have b1:(Value.ref C::tl).contains (.ref D)=true:=ZD ((m1 _).symm.trans hm);have b2:(Value.ref D::tl').contains (.type "BaseException")=true:=by rw[ur,T'.hasType (X:="BaseException") (b:=true) (by decide)];rfl
 obtain⟨hp,g,d,tk,os⟩:=s;have f:=tc_notTuple;unfold excMatches
 repeat (first | (with_reducible refine Nr he ?_;rw[hc]) | with_reducible refine Nr hD ?_ | (with_reducible refine ar hC ?_;rw[b1]) | (with_reducible refine ar hD ?_;rw[b2]) | wp_step)
 exact h
end
end CI
namespace CI
open PySem PySem.Spec PySem.Calls PyProof.Rows L2 PySem.W PySem.Builtin PySem.Builtin.ObjectAttr PySem.Builtin.Getset_descriptor
def Mt(a C:fA)(p:Option fA)(h:jB):Prop:=∃oe vs,h.get? a=some oe/\(oe.cls=.ref C/\oe.dict=p)/\oe.data=.fields vs
structure tN(K:gA)(C:fA):Prop where
 q:∃i,FK K C i
 ga:findIn K (.ref C) "__getattribute__"=some (some (.builtin "BaseException.__getattribute__"))
 no:findIn K (.ref C) "__getattr__"=some none
 cl:findIn K (.ref C) "__class__"=some (some (.builtin "object.__class__"))
 gt:specialIn K (.builtin "object.__class__") "__get__"=some (some (.builtin "getset_descriptor.__get__"))
 tk:takesIn K (.builtin "object.__class__")=some true
 mo:mroIn K C (.type "object")=some true
 mb:mroIn K C (.type "BaseException")=some true
 mv:mroIn K C (.type "ValueError")=some true
end CI
namespace CI
open PySem PySem.Spec PyProof.Rows L2
section
open PySem.W PySem.Builtin PySem.Builtin.ObjectAttr
variable{prog:pC}{w:NB}{A:LD}{E:cA->qA->Prop}{s:qA}{K:gA}{x C:fA}
noncomputable def b3a:List cA->Bool
 |.ref _::r=>b3a r
 |l=>l==oV
end
end CI
namespace L2
open PySem PySem.Spec PyProof.Rows
end L2
namespace CI
open PySem PySem.Spec PyProof.Rows L2
end CI
namespace L2
open PySem PySem.Spec PyProof.Rows
end L2
namespace CI
open PySem
inductive D where
 |lA
 |bl (b:Bool)
 |int (i:Int)
 |str (x:bA)
 |t (ds:List D)
 |l (ds:List D)
 |ins (c:bA) (ns:List bA) (ds:List D)
 |aL (c:bA) (n:Option Int)
 |ZA (ks:List L2.cC) (ds:List D)
 |EG (ks:List Int) (ds:List D)
 |GC (ds:List D)
 deriving Inhabited
inductive RV where
 |sh (d:D) | ow (d:D) | od (d:D)
noncomputable def RV.d:RV->D
 |.sh d=>d
 |.ow d=>d
 |.od d=>d
noncomputable def RV.low:RV->RV
 |.od d=>.ow d
 |v=>v
inductive Sl where
 |un | mv | sh (d:D) | ow (d:D) (pin lk:Bool)
noncomputable def Sl.get:Sl->Option D
 |.un=>none
 |.mv=>none
 |.sh d=>some d
 |.ow d _ _=>some d
structure Exc where
 cls:bA
 num:Option Int
inductive Out(O:Type) where
 |ok (a:O) | ex (e:Exc)
abbrev Env:=List Sl
abbrev xA(O:Type):=Option (Out O×Env)
noncomputable def xA.bind(r:xA O)(f:O->Env->xA N):xA N :=
 match r with
 |none=>none
 |some (.ex e,U)=>some (.ex e,U)
 |some (.ok a,U)=>f a U
inductive Hd where
 |slot (i:Nat) | val (v:RV)
noncomputable def Hd.get(h:Hd)(U:Env):Option D :=
 match h with
 |.slot i=>(U[i]?).bind Sl.get
 |.val v=>some v.d
noncomputable def getAll:List Hd->Env->Option (List D)
 |[],_=>some []
 |h::r,U=>(h.get U).bind λd=>(getAll r U).map (d :: ·)
inductive Ty where
 |int
 |bool
 |tuple
inductive BI where
 |len
 |abs
 |int
 |list
 |tuple
 |min
 |max
 |all
 |sorted
inductive UD where
 |uD | of | enum (lo:Int) | sig | key | rdn
 deriving DecidableEq
set_option genSizeOf false
set_option genInjectivity false
inductive E where
 |pA
 |mH
 |v (i:Nat)
 |c (d:D)
 |t (es:List E)
 |l (es:List E)
 |zA (op:zK) (a b:E)
 |neg (a:E)
 |not (a:E)
 |FA (op:RG) (a b:E)
 |GH (op mC:RG) (a b c:E)
 |and (a b:E)
 |or (a b:E)
 |ite (c a b:E)
 |ix (a i:E)
 |sl (a lo hi:E)
 |rev (a:E)
 |call (f:String) (args:List E)
 |bif (f:BI) (args:List E)
 |zM (a:E) (ts:List Ty)
 |app (i:Nat) (a:E)
 |fS (k v:E)
 |X1
 |ET (i:Nat) (k:E)
 |jSa (i:Nat)
 |ID (i:Nat)
 |qKa (a:E)
 |qMa (a:E)
 |fld (a:E) (f:bA)
 |make (c:bA) (ns:List bA) (args:List E)
 |kJ (i:Nat) (m:bA) (tb:List (bA×String)) (args:List E)
 |comp (HA:E) (tg:List Nat) (k:UD) (dA:List E) (cond:List E) (imp:List Nat) (nl:Nat)
inductive S where
 |pA
 |pass
 |brk
 |cnt
 |YA (i:Nat) (e:E)
 |kM (is:List Nat) (e:E)
 |set (i:Nat) (k e:E)
 |expr (e:E)
 |ret (e:E)
 |tX
 |iVa (h e:E)
 |DA (c:E) (a b:List S)
 |for (tg:List Nat) (one:Bool) (k:UD) (dA:List E) (body:List S)
 |FL (c:E) (body:List S)
 |AL (c:bA) (args:List E)
 |G9 (c:bA) (args:List E)
 |UQ (body:List S) (cs:List bA) (i:Nat) (e:E)
 |Rm (i j:Nat) (e c:E)
set_option genInjectivity true
noncomputable def eC:Nat->D->Bool
 |_,.lA=>true
 |_,.bl _=>true
 |_,.int _=>true
 |_,.str _=>true
 |n+1,.t ds=>ds.all (eC n)
 |n+1,.l ds=>ds.all (eC n)
 |_,_=>false
mutual
noncomputable def pF:D->D->Bool
 |.lA,.lA=>true
 |.bl a,.bl b=>a==b
 |.bl a,.int b=>(if a then 1 else 0)==b
 |.int a,.bl b=>a==(if b then 1 else 0)
 |.int a,.int b=>a==b
 |.str a,.str b=>a==b
 |.t a,.t b=>YK a b
 |.l a,.l b=>YK a b
 |_,_=>false
noncomputable def YK:List D->List D->Bool
 |[],[]=>true
 |a::as,b::bs=>pF a b&&YK as bs
 |_,_=>false
end
noncomputable def cl(p:Prop):Decidable p:=Classical.propDecidable p
noncomputable section
def oK:D->Option Bool
 |.lA=>some false
 |.bl b=>some b
 |.int i=>some (i != 0)
 |.str x=>@ite _ (x.length<=1000000) (cl _) (some ((x.length:Int) != 0)) none
 |.t ds=>some (!ds.isEmpty)
 |.l ds=>some (!ds.isEmpty)
 |_=>none
def GB(n:Nat):Bool:=@decide (n<=1000000) (cl _)
def uC:zK->D->D->Option RV
 |.Add,.int i,.int j=>some (.sh (.int (i+j)))
 |.Sub,.int i,.int j=>some (.sh (.int (i-j)))
 |.Mult,.int i,.int j=>@ite _ ((-(2 ^ 64)<i/\i<2 ^ 64)\/(-(2 ^ 64)<j/\j<2 ^ 64)) (cl _) (some (.sh (.int (i*j)))) none
 |.FloorDiv,.int i,.int j=>@ite _ (0<j/\j<100000000000000000000000000000000000000000000000000000000000000000000000000000000) (cl _) (some (.sh (.int (i / j)))) none
 |.Mod,.int i,.int j=>@ite _ (0<j) (cl _) (some (.sh (.int (i % j)))) none
 |.LShift,.int i,.int j=>@ite _ (0<=j/\j<=1000/\i.natAbs<2 ^ 64) (cl _) (some (.sh (.int (i*2 ^ j.toNat)))) none
 |.RShift,.int i,.int j=>@ite _ (0<=j) (cl _) (some (.sh (.int (i / 2 ^ j.toNat)))) none
 |.BitAnd,.int i,.int j=>some (.sh (.int (wU i j)))
 |.Add,.l xs,.l ys=>if GB (xs.length+ys.length) then some (.ow (.l (xs++ys))) else none
 |.Add,.t [],.t ys=>some (.sh (.t ys))
 |.Add,.t (x::xs),.t ys=>if GB (xs.length+1+ys.length) then some (.sh (.t (x::xs++ys))) else none
 |.Mult,.l xs,.int k=>@ite _ (-(2 ^ 31)<=k/\k<=1000/\GB (xs.length*k.toNat)) (cl _) (some (.ow (.l (LB k.toNat xs).flatten))) none
 |_,_,_=>none
noncomputable def CD:D->Bool
 |.lA=>true | .bl _=>true | .int _=>true | .str _=>true
 |_=>false
def inD(x:D)(ds:List D):Bool:=ds.any λy=>pF y x
noncomputable def IE:List D->Option (List Int)
 |[]=>some []
 |.int i::r=>(IE r).map (i :: ·)
 |_=>none
def iK:D->Option L2.aB
 |.t [.int t,.t ds]=>(IE ds).map λns=>(t,ns)
 |_=>none
def nE:D->Option L2.cC
 |.t [.t a,.t b]=>(iK (.t a)).bind λx=>(iK (.t b)).map λy=>.inr (x,y)
 |d=>(iK d).map .inl
noncomputable def YC(k:L2.aB):D:=.t [.int k.1,.t (k.2.map D.int)]
def RI:L2.cC->D:=fP YC λk=>.t [YC k.1,YC k.2]
noncomputable def cK(ks:List L2.cC)(ds:List D)(k:L2.cC):Option D:=((ks.zip ds).find? λp=>decide (p.1=k)).map (·.2)
noncomputable def XI(ks:List L2.cC)(k:L2.cC):Bool:=ks.any λx=>decide (x=k)
def qO(ks:List L2.cC)(k:L2.cC):List L2.cC:=if XI ks k then ks else ks++[k]
def rO(ks:List L2.cC)(ds:List O)(k:L2.cC)(d:O):List O:=if XI ks k then(ks.zip ds).map (λp=>if p.1=k then d else p.2) else ds++[d]
def rQ(x:D)(ks:List L2.cC):Option Bool:=(nE x).map λk=>XI ks k
noncomputable def wL(ks:List Int)(ds:List D)(k:Int):Option D:=((ks.zip ds).find? λp=>decide (p.1=k)).map (·.2)
def Rh(x:D)(ks:List Int)(ds:List D):Option Bool:=match x with
 |.int i=>some (wL ks ds i).isSome
 |_=>none
def xM:List D->Option (Int×List Int)
 |[.int i,.l a]=>(IE a).map λns=>(i,ns)
 |_=>none
def leT(x y:List D):Option Bool:=(xM x).bind λp=>(xM y).map λq=>if p.1=q.1 then !HT.aAj q.2 p.2 else decide (p.1<=q.1)
noncomputable def P8:D->Bool
 |.lA=>true
 |_=>false
noncomputable def j7(b:Bool):D->Option Bool
 |.bl a=>some (a==b)
 |_=>none
def isD(x:D):D->Option Bool
 |.lA=>some (P8 x)
 |.bl b=>j7 b x
 |_=>none
def eFa(x:D):D->Option Bool
 |.lA=>some (!P8 x)
 |_=>none
def wB:RG->D->D->Option Bool
 |.Eq,x,y=>if eC 20 x&&eC 20 y then some (pF x y) else none
 |.NotEq,x,y=>if eC 20 x&&eC 20 y then some (!pF x y) else none
 |.Lt,.int i,.int j=>some (decide (i<j))
 |.LtE,.int i,.int j=>some (decide (i<=j))
 |.LtE,.t x,.t y=>leT x y
 |.Gt,.int i,.int j=>some (decide (j<i))
 |.GtE,.int i,.int j=>some (decide (j<=i))
 |.Is,x,y=>isD x y
 |.IsNot,x,y=>eFa x y
 |.In,x,.t ds=>if CD x&&ds.all CD then some (inD x ds) else none
 |.In,x,.l ds=>if CD x&&ds.all CD then some (inD x ds) else none
 |.In,x,.ZA ks _=>rQ x ks
 |.In,x,.EG ks ds=>Rh x ks ds
 |.NotIn,x,.t ds=>if CD x&&ds.all CD then some (!inD x ds) else none
 |.NotIn,x,.l ds=>if CD x&&ds.all CD then some (!inD x ds) else none
 |.NotIn,x,.ZA ks _=>(rQ x ks).map (!·)
 |_,_,_=>none
def Ae(ds:List D)(i:Int):Option D:=L2.lC ds i
def bT:D->D->Option D
 |.t ds,.int i=>Ae ds i
 |.l ds,.int i=>Ae ds i
 |.ZA ks ds,x=>(nE x).bind (cK ks ds)
 |.EG ks ds,.int i=>wL ks ds i
 |.str x,.int i=>@ite _ (x.length<=1000000) (cl _) ((L2.lC x.cps.toList i).map λc=>.str ⟨#[c]⟩) none
 |_,_=>none
def aAz(ds:List D)(lo hi:Option Int):List D:=(ds.drop (HT.fB ds.length 0 lo)).take (HT.fB ds.length ds.length hi-HT.fB ds.length 0 lo)
noncomputable def JM:Option D->Option (Option Int)
 |none=>some none
 |some (.int i)=>some (some i)
 |_=>none
def BX:D->Option Int->Option Int->Option RV
 |.l ds,lo,hi=>some (.ow (.l (aAz ds lo hi)))
 |.t ds,lo,hi=>some (.sh (.t (aAz ds lo hi)))
 |_,_,_=>none
noncomputable def lVa:D->Option RV
 |.t ds=>some (.sh (.t ds.reverse))
 |.l ds=>some (.ow (.l ds.reverse))
 |_=>none
noncomputable def NI:List D->Option (List Bool)
 |[]=>some []
 |.bl b::r=>(NI r).map (b :: ·)
 |_=>none
mutual
noncomputable def QD:D->PyData
 |.lA=>.none
 |.bl b=>.bool b
 |.int i=>.int i
 |.str x=>.str x
 |.t ds=>.tuple (pH ds)
 |.l ds=>.list (pH ds)
 |.ins _ _ _=>.none
 |.aL _ _=>.none
 |.ZA _ _=>.none
 |.EG _ _=>.none
 |.GC _=>.none
noncomputable def pH:List D->List PyData
 |[]=>[]
 |d::ds=>QD d::pH ds
end
noncomputable def M8:List D->Option RV
 |[.int i,.int j]=>some (.sh (.int (if j > i then j else i)))
 |_=>none
def WE:BI->List D->Option RV
 |.len,[.l ds]=>some (.sh (.int ds.length))
 |.len,[.t ds]=>some (.sh (.int ds.length))
 |.len,[.ZA ks _]=>some (.sh (.int ks.length))
 |.len,[.str x]=>@ite _ (x.length<=1000000) (cl _) (some (.sh (.int x.length))) none
 |.abs,[.int i]=>some (.sh (.int (if i<0 then -i else i)))
 |.int,[.int i]=>some (.sh (.int i))
 |.int,[.bl b]=>some (.sh (.int (if b then 1 else 0)))
 |.list,[.l ds]=>some (.ow (.l ds))
 |.list,[.t ds]=>some (.ow (.l ds))
 |.list,[.ZA ks _]=>some (.ow (.l (ks.map RI)))
 |.tuple,[.l ds]=>some (.sh (.t ds))
 |.tuple,[.t ds]=>some (.sh (.t ds))
 |.min,[.int i,.int j]=>some (.sh (.int (if j<i then j else i)))
 |.max,[.int i,.int j]=>some (.sh (.int (if j > i then j else i)))
 |.max,[.l ds]=>match IE ds with
  |some (i::r)=>some (.sh (.int (r.foldl (λm y=>if y > m then y else m) i)))
  |_=>none
 |.max,[.t ds]=>M8 ds
 |.all,[.l ds]=>(NI ds).map λbs=>.sh (.bl (bs.all id))
 |.len,[.GC ds]=>some (.sh (.int ds.length))
 |.sorted,[.ZA ks _]=>if ks.all uZ then some (.sh (.GC (ks.map RI))) else none
 |_,_=>none
noncomputable def B7:Ty->D->Option Bool
 |.int,d=>match d with
  |.int _=>some true | .bl _=>some true | .lA=>some false | .str _=>some false | .t _=>some false | .l _=>some false
  |_=>none
 |.bool,d=>match d with
  |.bl _=>some true | .int _=>some false | .lA=>some false | .str _=>some false | .t _=>some false | .l _=>some false
  |_=>none
 |.tuple,d=>match d with
  |.t _=>some true | .bl _=>some false | .int _=>some false | .lA=>some false | .l _=>some false | .str _=>some false
  |_=>none
def XS:List Ty->D->Option Bool
 |[],_=>some false
 |t::r,d=>(B7 t d).bind λb=>(XS r d).map λc=>b||c
def rMa:D->Option RV
 |.l ds=>match IE ds with
  |some is=>@ite _ (is.length<=1000) (cl _) (some (.sh (.int (PyProof.Rows.firstMet (λi=>is.getD i 0) is.length).length))) none
  |none=>none
 |_=>none
noncomputable def D3:D->bA->Option D
 |.ins _ ns ds,f=>(ns.zip ds).lookup f
 |_,_=>none
noncomputable def JG(c:bA)(ns:List bA)(m:bA)(tb:List (bA×String)):Option String:=if ns.contains m then none else tb.lookup c
def aAh(t:Bool)(r:xA RV):xA RV :=
 match t with
 |false=>r
 |true=>r.bind λv U=>(oK v.d).map λb=>(.ok (.sh (.bl b)),U)
noncomputable def hd(e:E)(r:xA RV)(U:Env):xA Hd :=
 match e with
 |.v i=>if((U[i]?).bind Sl.get).isSome then some (.ok (.slot i),U) else none
 |_=>r.bind λv U'=>some (.ok (.val v.low),U')
noncomputable def o7:E->Bool
 |.mH=>true
 |_=>false
def aAN(e:E)(r:xA RV)(U:Env):xA (Option D) :=
 if o7 e then some (.ok none,U) else r.bind λv U'=>some (.ok (some v.d),U')
noncomputable def CQ(op:zK)(x:Hd)(d:D):Bool :=
 match op,d with
 |.Mult,.l _=>match x with
  |.val (.ow _)=>true
  |_=>false
 |_,_=>true
noncomputable def gJ(U:Env)(i:Nat):Bool :=
 match U[i]? with
 |some (.ow (.l _) _ _)=>true
 |_=>false
noncomputable def VS(U:Env)(i:Nat):Bool :=
 match U[i]? with
 |some (.ow (.ZA _ _) _ _)=>true
 |_=>false
noncomputable def pEa(U:Env)(i:Nat):Bool :=
 match U[i]? with
 |_=>false
noncomputable def aAK(i:Nat)(U:Env):xA RV :=
 match U[i]? with
 |some (.sh d)=>some (.ok (.sh d),U)
 |some (.ow d false false)=>some (.ok (.sh d),U.set i (.sh d))
 |_=>none
noncomputable def done(o:Option RV)(U:Env):xA RV:=o.map λv=>(.ok v,U)
noncomputable def store(i:Nat)(v:RV)(U:Env):Option Env :=
 match U[i]? with
 |none=>none
 |some (.ow _ true _)=>none
 |some (.ow _ _ true)=>none
 |some _=>match v with
  |.sh d=>some (U.set i (.sh d))
  |.ow d=>some (U.set i (.ow d false false))
  |.od _=>none
def aAp:List Nat->List D->Env->Option Env
 |[],[],U=>some U
 |i::is,d::ds,U=>(store i (.sh d) U).bind (aAp is ds)
 |_,_,_=>none
def oB(one:Bool)(tg:List Nat)(d:D)(U:Env):Option Env :=
 match one,tg,d with
 |true,[i],d=>store i (.sh d) U
 |false,is,.t ds=>aAp is ds U
 |_,_,_=>none
abbrev Calls:=String->List Sl->xA RV
noncomputable def aAi(aA:List Bool)(hs:List Hd)(U:Env):Option (List Sl×Env) :=
 match aA,hs with
 |[],[]=>some ([],U)
 |p::ps,.val (.sh d)::r=>(aAi ps r U).map λ(as,U')=>(.sh d::as,U')
 |p::ps,.val (.ow d)::r=>(aAi ps r U).map λ(as,U')=>((if p then .ow d true false else .sh d)::as,U')
 |p::ps,.slot i::r =>
  match U[i]? with
  |some (.sh d)=>(aAi ps r U).map λ(as,U')=>(.sh d::as,U')
  |some (.ow d pin lk) =>
   match p with
   |true=>(aAi ps r (U.set i .un)).map λ(as,U')=>(.ow d true lk::as,U')
   |false=>if pin||lk then none else(aAi ps r (U.set i (.sh d))).map λ(as,U')=>(.sh d::as,U')
  |_=>none
 |_,_=>none
noncomputable def aAf(aA:List Bool)(hs:List Hd)(as:List Sl)(U0 U:Env):Option Env :=
 match aA,hs,as with
 |[],[],[]=>some U
 |true::ps,.slot i::r,a::as =>
  match U0[i]?,a with
  |some (.ow _ pin lk),.ow d _ _=>aAf ps r as U0 (U.set i (.ow d pin lk))
  |some (.ow _ _ _),_=>none
  |_,_=>aAf ps r as U0 U
 |_::ps,_::r,_::as=>aAf ps r as U0 U
 |_,_,_=>none
def ND(aA:List Bool)(f:List Sl->xA RV)(hs:List Hd)(U:Env):xA RV :=
 match aAi aA hs U with
 |none=>none
 |some (as,U1) =>
  match f as with
  |none=>none
  |some (o,QA)=>(aAf aA hs QA U U1).map λU'=>(o,U')
noncomputable def eH(lo:Int)(ds:List D):List D:=(vC ds.length).map λ(j:Nat)=>.t [.int (lo+(j:Int)),ds.getD j .lA]
def r8:RV->Option (List D×Option Nat)
 |.sh (.ZA ks _)=>some (ks.map RI,none)
 |_=>none
def Fm{O:Type}(es ds:List O):Prop:=es.length=ds.length/\∀e∈es,e∈ds
def SR(k:UD)(hs:List Hd)(f:List D->xA RV):xA RV:=match k,hs with
 |.of,[.val (.sh (.GC ds))]=>@dite _ (∃r,∀es:List D,Fm es ds->f es=some r) (cl _) (λh=>some h.choose) λ_=>none
 |_,_=>none
def aAb(k:UD)(hs:List Hd)(U:Env):Option (List D×Option Nat) :=
 match k,hs with
 |.uD,[a]=>match a.get U with
  |some (.int n)=>@ite _ (-1000000<=n/\n<=1000000) (cl _) (some ((vC n.toNat).map λ(j:Nat)=>.int (j:Int),none)) none
  |_=>none
 |.uD,[a,b]=>match a.get U,b.get U with
  |some (.int m),some (.int n)=>@ite _ ((-1000000<=m/\m<=1000000)/\(-1000000<=n/\n<=1000000)) (cl _) (some ((vC (n-m).toNat).map λ(j:Nat)=>.int (m+(j:Int)),none)) none
  |_,_=>none
 |.enum lo,[.slot i]=>match U[i]? with
  |some (.ow (.l ds) _ _)=>some (eH lo ds,some i)
  |some (.sh (.l ds))=>some (eH lo ds,none)
  |_=>none
 |.enum lo,[.val v]=>match v.d with
  |.l ds=>some (eH lo ds,none)
  |_=>none
 |.of,[.slot i]=>match U[i]? with
  |some (.ow (.l ds) _ _)=>some (ds,some i)
  |some (.sh (.l ds))=>some (ds,none)
  |some (.sh (.t ds))=>some (ds,none)
  |_=>none
 |.of,[.val v]=>match v.d with
  |.l ds=>some (ds,none)
  |.t ds=>some (ds,none)
  |_=>none
 |.key,[.val v]=>r8 v
 |_,_=>none
noncomputable def aAg(o:Option Nat)(U:Env):Env :=
 match o with
 |none=>U
 |some i=>U.set i .un
noncomputable def aAr(o:Option Nat)(U0 U:Env):Option Env :=
 match o with
 |none=>some U
 |some i=>match U[i]?,U0[i]? with
  |some .un,some sl=>some (U.set i sl)
  |_,_=>none
noncomputable def dG(tests:Env->xA RV)(HA:Env->xA RV)(bind:D->Env->Option Env):List D->List D->Env->xA (List D)
 |[],rA,U=>some (.ok rA,U)
 |d::ds,rA,U=>match bind d U with
  |none=>none
  |some U1=>(tests U1).bind λc U2=>match c with
   |.sh (.bl true)=>(HA U2).bind λv U3=>dG tests HA bind ds (rA++[v.d]) U3
   |.sh (.bl false)=>dG tests HA bind ds rA U2
   |_=>none
noncomputable def back:List Sl->Env->List Sl
 |.ow _ _ _::as,b::bs=>b::back as bs
 |a::as,_::bs=>a::back as bs
 |_,_=>[]
noncomputable def fK:Sl->Bool
 |.ow _ p _=>p
 |.sh _=>true
 |_=>false
def IH(tests:Env->xA RV)(HA:Env->xA RV)(bind:D->Env->Option Env)(ds:List D)(nl:Nat)(as:List Sl):xA RV :=
 if as.all fK=true then(dG tests HA bind ds [] (as++LB nl .un)).bind λrA Ui =>
  if GB rA.length then some (.ok (.ow (.l rA)),back as Ui) else none
 else none
def aAt(o:Option Nat)(U1:Env)(v:RV)(U2:Env):xA RV:=(aAr o U1 U2).map λU'=>(.ok v,U')
structure Fn where
 aA:List Bool
 nl:Nat
 body:List S
 rs:Bool
abbrev RA:=String->List Bool
noncomputable def yV(k:Option L2.cC)(u:RV)(U:Env):xA RV :=
 match k with
 |some k=>some (.ok (.ow (.ZA [k] [u.d])),U)
 |none=>none
mutual
noncomputable def ev(P:RA)(C:Calls)(t:Bool):E->Env->xA RV
 |.pA,_=>none
 |.mH,_=>none
 |.v i,U=>match t with
  |true=>aAh true (((U[i]?).bind Sl.get).map λd=>(.ok (.sh d),U))
  |false=>aAK i U
 |.c d,U=>aAh t (some (.ok (.sh d),U))
 |.t es,U=>aAh t ((XE P C es U).bind λds U'=>if GB ds.length then some (.ok (.sh (.t ds)),U') else none)
 |.l es,U=>aAh t ((XE P C es U).bind λds U'=>if GB ds.length then some (.ok (.ow (.l ds)),U') else none)
 |.zA op a b,U=>aAh t ((hd a (ev P C false a U) U).bind λx U1=>(hd b (ev P C false b U1) U1).bind λy U2 =>
   done ((x.get U2).bind λd=>(y.get U2).bind λe=>if CQ op x d then uC op d e else none) U2)
 |.neg a,U=>aAh t ((ev P C false a U).bind λv U1=>match v.d with
  |.int i=>some (.ok (.sh (.int (-i))),U1)
  |_=>none)
 |.not a,U=>match t with
  |true=>(ev P C true a U).bind λv U1=>match v with
   |.sh (.bl b)=>some (.ok (.sh (.bl (!b))),U1)
   |_=>none
  |false=>(hd a (ev P C false a U) U).bind λx U1=>done ((x.get U1).bind λd=>(oK d).map λb=>.sh (.bl (!b))) U1
 |.FA op a b,U=>(hd a (ev P C false a U) U).bind λx U1=>(hd b (ev P C false b U1) U1).bind λy U2 =>
   done ((x.get U2).bind λd=>(y.get U2).bind λe=>(wB op d e).map λb=>.sh (.bl b)) U2
 |.GH op mC a b c,U=>(hd a (ev P C false a U) U).bind λx U1=>(hd b (ev P C false b U1) U1).bind λy U2 =>
   match (x.get U2).bind λd=>(y.get U2).bind λe=>wB op d e with
   |none=>none
   |some false=>some (.ok (.sh (.bl false)),U2)
   |some true=>(hd c (ev P C false c U2) U2).bind λz U3 =>
    done ((y.get U3).bind λd=>(z.get U3).bind λe=>(wB mC d e).map λb=>.sh (.bl b)) U3
 |.and a b,U=>(ev P C t a U).bind λv U1=>match v with
  |.sh (.bl true)=>ev P C t b U1
  |.sh (.bl false)=>some (.ok (.sh (.bl false)),U1)
  |_=>none
 |.or a b,U=>(ev P C t a U).bind λv U1=>match v with
  |.sh (.bl true)=>some (.ok (.sh (.bl true)),U1)
  |.sh (.bl false)=>ev P C t b U1
  |_=>none
 |.ite c a b,U=>(ev P C true c U).bind λv U1=>match v with
  |.sh (.bl true)=>ev P C t a U1
  |.sh (.bl false)=>ev P C t b U1
  |_=>none
 |.ix a i,U=>aAh t ((hd a (ev P C false a U) U).bind λx U1=>(ev P C false i U1).bind λk U2 =>
   done ((x.get U2).bind λd=>(bT d k.d).map .sh) U2)
 |.sl a lo hi,U=>aAh t ((hd a (ev P C false a U) U).bind λx U1 =>
   (aAN lo (ev P C false lo U1) U1).bind λl U2=>(aAN hi (ev P C false hi U2) U2).bind λh U3 =>
   done ((x.get U3).bind λd=>(JM l).bind λl=>(JM h).bind λh=>BX d l h) U3)
 |.rev a,U=>aAh t ((hd a (ev P C false a U) U).bind λx U1=>done ((x.get U1).bind lVa) U1)
 |.call f es,U=>aAh t ((bD P C es U).bind λhs U1=>ND (P f) (C f) hs U1)
 |.bif f es,U=>aAh t ((bD P C es U).bind λhs U1=>done ((getAll hs U1).bind (WE f)) U1)
 |.zM a ts,U=>aAh t ((hd a (ev P C false a U) U).bind λx U1 =>
   done ((x.get U1).bind λd=>(XS ts d).map λb=>.sh (.bl b)) U1)
 |.app i a,U=>aAh t (if gJ U i then(ev P C false a U).bind λv U1=>match U1[i]? with
  |some (.ow (.l ds) p false)=>if GB (ds.length+1) then some (.ok (.sh .lA),U1.set i (.ow (.l (ds++[v.d])) p false)) else none
  |_=>none
  else none)
 |.ET i k,U=>aAh t (if gJ U i then(ev P C false k U).bind λj U1=>match U1[i]?,j with
  |some (.ow (.l ds) p false),.sh (.int n)=>@ite _ (0<=n/\n<=1000000) (cl _) ((ds[n.toNat]?).map λd=>(.ok (.sh d),U1.set i (.ow (.l (ds.eraseIdx n.toNat)) p false))) none
  |_,_=>none
  else none)
 |.jSa _,_=>none
 |.X1,U=>aAh t (some (.ok (.ow (.ZA [] [])),U))
 |.fS a b,U=>aAh t ((ev P C false a U).bind λv U1=>(ev P C false b U1).bind λu U2=>yV (nE v.d) u U2)
 |.ID i,U=>aAh t (aAK i U)
 |.qKa _,_=>none
 |.qMa a,U=>aAh t ((hd a (ev P C false a U) U).bind λx U1=>done ((x.get U1).bind rMa) U1)
 |.fld a f,U=>aAh t ((hd a (ev P C false a U) U).bind λx U1=>done ((x.get U1).bind λd=>(D3 d f).map .sh) U1)
 |.make c ns es,U=>aAh t ((XE P C es U).bind λds U1=>if ds.length=ns.length then some (.ok (.sh (.ins c ns ds)),U1) else none)
 |.kJ i m tb es,U=>aAh t (match U[i]? with
  |some (.sh (.ins c ns ds))=>(match JG c ns m tb with
   |some f=>(bD P C es U).bind λhs U1=>ND (P f) (C f) (.val (.sh (.ins c ns ds))::hs) U1
   |none=>none)
  |_=>none)
 |.comp HA tg k dA cond imp nl,U=>aAh t ((bD P C dA U).bind λhs U1 =>
   match aAb k hs U1 with
   |none=>SR k hs λds=>(ND (imp.map λ_=>true) (IH (cD P C cond) (ev P C false HA) (oB (tg.length==1) tg) ds nl) (imp.map Hd.slot) U1).bind (aAt none U1)
   |some (ds,o)=>(ND (imp.map λ_=>true) (IH (cD P C cond) (ev P C false HA) (oB (tg.length==1) tg) ds nl) (imp.map Hd.slot) (aAg o U1)).bind (aAt o U1))
noncomputable def XE(P:RA)(C:Calls):List E->Env->xA (List D)
 |[],U=>some (.ok [],U)
 |e::es,U=>(ev P C false e U).bind λv U1=>(XE P C es U1).bind λds U2=>some (.ok (v.d::ds),U2)
noncomputable def bD(P:RA)(C:Calls):List E->Env->xA (List Hd)
 |[],U=>some (.ok [],U)
 |e::es,U=>(hd e (ev P C false e U) U).bind λv U1=>(bD P C es U1).bind λds U2=>some (.ok (v::ds),U2)
noncomputable def cD(P:RA)(C:Calls):List E->Env->xA RV
 |[],U=>some (.ok (.sh (.bl true)),U)
 |e::es,U=>(ev P C true e U).bind λv U1=>match v with
  |.sh (.bl true)=>cD P C es U1
  |.sh (.bl false)=>some (.ok (.sh (.bl false)),U1)
  |_=>none
end
mutual
noncomputable def KH(P:RA)(C:Calls):E->Env->Option (Exc×Env)
 |.call f es,U=>match bD P C es U with
  |some (.ok hs,U1)=>match ND (P f) (C f) hs U1 with
   |some (.ex x,U')=>some (x,U')
   |_=>none
  |_=>JJ P C es U
 |_,_=>none
noncomputable def JJ(P:RA)(C:Calls):List E->Env->Option (Exc×Env)
 |[],_=>none
 |e::es,U=>match hd e (ev P C false e U) U with
  |some (.ok _,U1)=>JJ P C es U1
  |_=>KH P C e U
end
inductive Fl where
 |nx | bk | ct | rt (v:RV) | ex (e:Exc)
abbrev Run:=Option (Fl×Env)
noncomputable def xA.VB(r:xA O)(f:O->Env->Run):Run :=
 match r with
 |none=>none
 |some (.ex e,U)=>some (.ex e,U)
 |some (.ok a,U)=>f a U
noncomputable def Run.next(r:Run)(f:Env->Run):Run :=
 match r with
 |some (.nx,U)=>f U
 |r=>r
def Run.restore(r:Run)(o:Option Nat)(U0:Env):Run :=
 match r with
 |none=>none
 |some (fl,U)=>(aAr o U0 U).map λU'=>(fl,U')
noncomputable def JF(o:Option Env):Run:=o.map λU=>(.nx,U)
noncomputable def RC(bind:D->Env->Option Env)(body:Env->Run):List D->Env->Run
 |[],U=>some (.nx,U)
 |d::ds,U=>match bind d U with
  |none=>none
  |some U1=>match body U1 with
   |some (.nx,U2)=>RC bind body ds U2
   |some (.ct,U2)=>RC bind body ds U2
   |some (.bk,U2)=>some (.nx,U2)
   |r=>r
noncomputable def rF(test:Env->xA RV)(body:Env->Run):Nat->Env->Run
 | 0,_=>none
 |n+1,U=>(test U).VB λv U1=>match v with
  |.sh (.bl true)=>match body U1 with
   |some (.nx,U2)=>rF test body n U2
   |some (.ct,U2)=>rF test body n U2
   |some (.bk,U2)=>some (.nx,U2)
   |r=>r
  |.sh (.bl false)=>some (.nx,U1)
  |_=>none
noncomputable def tI(test:Env->xA RV)(body:Env->Run)(bx:Env->Option (Exc×Env)):Nat->Env->Option (Exc×Env)
 | 0,_=>none
 |n+1,U=>match test U with
  |some (.ok (.sh (.bl true)),U1)=>(match body U1 with
   |some (.nx,U2)=>tI test body bx n U2
   |some (.ct,U2)=>tI test body bx n U2
   |_=>bx U1)
  |_=>none
def zX(i:Nat)(U:Env)(o:Option Sl)(k:Option L2.cC)(v:RV):Run :=
 match o,k with
 |some (.ow (.ZA ks ds) p false),some k=>if GB (ks.length+1) then some (.nx,U.set i (.ow (.ZA (qO ks k) (rO ks ds k v.d)) p false)) else none
 |_,_=>none
def ag(P:RA)(C:Calls)(HA:Env->xA RV)(tg:List Nat)(k:UD)(dA cond:List E)(imp:List Nat)(nl:Nat)(U:Env):xA RV :=
 (bD P C dA U).bind λhs U1 =>
   match aAb k hs U1 with
   |none=>SR k hs λds=>(ND (imp.map λ_=>true) (IH (cD P C cond) HA (oB (tg.length==1) tg) ds nl) (imp.map Hd.slot) U1).bind (aAt none U1)
   |some (ds,o)=>(ND (imp.map λ_=>true) (IH (cD P C cond) HA (oB (tg.length==1) tg) ds nl) (imp.map Hd.slot) (aAg o U1)).bind (aAt o U1)
noncomputable def iMa(U:Env):Bool:=U.all λs=>match s with | .ow _ _ _=>false | _=>true
noncomputable def K'(n:Nat)(U:Env):Env :=
 match U[n]? with
 |some (.ow d false false)=>U.set n (.sh d)
 |_=>U
def ID:Nat->Env->Env
 | 0,U=>U
 |n+1,U=>K' n (ID n U)
def aXa(i j:Nat)(U:Env)(e c:Env->xA RV):Run :=
 match e (ID U.length U) with
 |some (.ok (.od (.l ds)),U1)=>@ite _ (U1=ID U.length U/\iMa U1=true/\ds.length<=1000/\i<U1.length/\j<U1.length/\c (U1.set i (.sh (.l ds)))=some (.ok (.sh (.bl false)),U1.set i (.sh (.l ds)))) (cl _) (some (.nx,(U1.set i .mv).set j .mv)) none
 |_=>none
mutual
noncomputable def ex(P:RA)(C:Calls)(W:Nat):S->Env->Run
 |.pA,_=>none
 |.pass,U=>some (.nx,U)
 |.brk,U=>some (.bk,U)
 |.cnt,U=>some (.ct,U)
 |.YA i e,U=>(ev P C false e U).VB λv U1=>JF (store i v U1)
 |.kM is e,U=>(ev P C false e U).VB λv U1=>JF (oB false is v.d U1)
 |.set i k e,U=>(ev P C false e U).VB λv U1=>if gJ U1 i then(ev P C false k U1).VB λj U2=>match U2[i]?,j.d with
  |some (.ow (.l ds) p false),.int n=>JF ((L2.kG ds.length n).map λm=>U2.set i (.ow (.l (ds.set m v.d)) p false))
  |_,_=>none
  else if VS U1 i then(ev P C false k U1).VB λj U2=>zX i U2 U2[i]? (nE j.d) v
  else none
 |.expr e,U=>(ev P C false e U).VB λ_ U1=>some (.nx,U1)
 |.ret e,U=>match e with
  |.v i=>match U[i]? with
   |some (.ow d false _)=>some (.rt (.ow d),U.set i .mv)
   |some (.sh d)=>some (.rt (.sh d),U)
   |_=>none
  |e=>(ev P C false e U).VB λv U1=>some (.rt v,U1)
 |.tX,U=>some (.rt (.sh .lA),U)
 |.iVa _ _,_=>none
 |.DA c a b,U=>(ev P C true c U).VB λv U1=>match v with
  |.sh (.bl true)=>IA P C W a U1
  |.sh (.bl false)=>IA P C W b U1
  |_=>none
 |.for tg one k dA body,U=>(bD P C dA U).VB λhs U1 =>
  match aAb k hs U1 with
  |none=>none
  |some (ds,o)=>(RC (oB one tg) (IA P C W body) ds (aAg o U1)).restore o U1
 |.FL c body,U=>rF (ev P C true c) (IA P C W body) W U
 |.AL _ _,_=>none
 |.G9 _ _,_=>none
 |.Rm i j e c,U=>aXa i j U (ev P C false e) (ev P C true c)
 |.UQ body cs i e,U=>match IA P C W body U with
  |some (.nx,U1)=>some (.nx,U1)
  |_=>match zD P C W body U with
   |some (x,U1)=>if cs.contains x.cls then(ev P C false e U1).VB λv U2=>JF (store i v U2) else none
   |none=>none
noncomputable def IA(P:RA)(C:Calls)(W:Nat):List S->Env->Run
 |[],U=>some (.nx,U)
 |s::r,U=>(ex P C W s U).next (IA P C W r)
noncomputable def GG(P:RA)(C:Calls)(W:Nat):S->Env->Option (Exc×Env)
 |.YA _ e,U=>KH P C e U
 |.expr e,U=>KH P C e U
 |.ret e,U=>KH P C e U
 |.AL c es,U=>match XE P C es U with
  |some (.ok _,U1)=>some (⟨c,none⟩,U1)
  |_=>none
 |.DA c a b,U=>match ev P C true c U with
  |some (.ok (.sh (.bl true)),U1)=>zD P C W a U1
  |some (.ok (.sh (.bl false)),U1)=>zD P C W b U1
  |_=>none
 |.FL c body,U=>tI (ev P C true c) (IA P C W body) (zD P C W body) W U
 |_,_=>none
noncomputable def zD(P:RA)(C:Calls)(W:Nat):List S->Env->Option (Exc×Env)
 |[],_=>none
 |s::r,U=>match ex P C W s U with
  |some (.nx,U1)=>zD P C W r U1
  |_=>GG P C W s U
end
abbrev Tab:=String->Option Fn
noncomputable def Tab.aA(T:Tab):RA:=λf=>match T f with
 |some fn=>fn.aA
 |none=>[]
def run(T:Tab)(W:Nat):Nat->Calls
 | 0=>λ_ _=>none
 |n+1=>λf as=>match T f with
  |none=>none
  |some fn=>if as.length=fn.aA.length/\as.all fK=true then
    match IA T.aA (run T W n) W fn.body (as++LB fn.nl .un) with
    |some (.nx,U)=>some (.ok (.sh .lA),back as U)
    |some (.rt v,U)=>some (.ok v,back as U)
    |_=>if fn.rs then match zD T.aA (run T W n) W fn.body (as++LB fn.nl .un) with
     |some (x,U)=>some (.ex x,back as U)
     |none=>none
     else none
   else none
end
end CI
namespace CI
open PySem PySem.Spec PyProof.Rows L2
abbrev St:=L2.St
abbrev Sm(G G':Hp):Prop:=bB G G'
def Sm.of(s:bB G G'):Sm G G':=s
theorem Sm.refl(G:Hp):Sm G G:=bB.refl G
theorem Sm.trans(a:Sm G G1)(b:Sm G1 G2):Sm G G2:=bB.trans a b
theorem Sm.seq{K:gA}(e:Sm G G')(h:EB K G a xs):EB K G' a xs:=bB.seq e h
def Sm.app(s:Sm G G')(n:∀x,o≠.own x)(h:G b=some o):G' b=some o:=s b o h
structure NU(K:gA)(C:fA)(ns:List bA):Prop where
 cl:yG K C
 no:∀f∈ns,cM K C f
noncomputable def WK(ks:List Int)(vs:List V):List (Key×V):=(ks.zip vs).map λp=>(Sum.inl p.1,p.2)
def rN(K:gA)(G:Hp)(a:fA)(ks:List cC)(vs:List V)(xs:cH):Prop:=(xs.map (·.1)).Nodup/\xs.length<=sizeLine/\(a==sysModules)=false/\(∀x∈xs,rC K G x.1 x.2.1)/\xs.map (·.1)=ks/\aAc vs (xs.map (·.2.2))
def qP(K:gA)(G:Hp)(C:fA)(p:Option fA)(n:Option Int):Prop:=True
def qP.mono{K:gA}(s:Sm G G'){n:Option Int}(h:qP K G C p n):qP K G' C p n:=trivial
abbrev rP(K:gA)(G:Hp)(C:fA)(p:PX)(x:Exc):Prop:=qP K G C p.1 x.num
def pQa{K:gA}(h:qP K G C q x.num):rP K G C (q,true) x:=h
mutual
def jA(K:gA)(G:Hp):D->V->Prop
 |.lA,v=>v=.lA
 |.bl b,v=>v=.bl b
 |.int i,v=>v=.int i
 |.str x,v=>v=.str x/\cP x=true
 |.t ds,v=>∃a vs,v=.ref a/\sC K G a vs/\iA K G ds vs
 |.l ds,v=>∃a vs,v=.ref a/\EB K G a vs/\iA K G ds vs
 |.ins c ns ds,v=>∃a C dx vs,v=.ref a/\LC K IB c=some (some (.ref C))/\G a=some (.ins C dx (ns.zip vs))/\iA K G ds vs/\NU K C ns/\ns.length=vs.length
 |.aL c n,v=>∃a C p,v=.ref a/\LC K IB c=some (some (.ref C))/\tN K C/\G a=some (.ext (Mt a C p))/\qP K G C p n
 |.ZA ks ds,v=>∃a xs vs,v=.ref a/\QU G a xs/\rN K G a ks vs xs/\iA K G ds vs
 |.EG ks ds,v=>∃a vs,v=.ref a/\G a=some (.dK (WK ks vs))/\iA K G ds vs/\ks.length=ds.length
 |.GC ds,v=>∃a ws vs,v=.ref a/\EB K G a ws/\Fm ws vs/\iA K G ds vs
def iA(K:gA)(G:Hp):List D->List V->Prop
 |[],vs=>vs=[]
 |d::ds,vs=>∃v r,vs=v::r/\jA K G d v/\iA K G ds r
end
def yI{K:gA}(s:Sm G G')(h:sC K G a vs):sC K G' a vs:=by
 rcases h with (h | ⟨o,h⟩) | h
 ·exact .inl (.inl (s.app (λ_ z=>nomatch z) h))
 ·exact .inl (.inr ⟨o,s.app (λ_ z=>nomatch z) h⟩)
 ·exact .inr h
def bH.mono{K:gA}(s:Sm G G')(h:bH K G k b):bH K G' k b:=let ⟨c,h1,h2⟩:=h;⟨c,yI s h1,yI s h2⟩
theorem rC.mono{K:gA}(s:Sm G G'):∀{k:cC} {b:fA},rC K G k b->rC K G' k b
 |.inl _,_,h=>bH.mono s h
 |.inr _,_,h=>let ⟨c,d,h1,h2,h3⟩:=h;⟨c,d,yI s h1,bH.mono s h2,bH.mono s h3⟩
theorem rN.mono{K:gA}(s:Sm G G')(h:rN K G a ks vs xs):rN K G' a ks vs xs:=⟨h.1,h.2.1,h.2.2.1,λx hx=>rC.mono s (h.2.2.2.1 x hx),h.2.2.2.2⟩
mutual
theorem jA.mono{K:gA}(s:Sm G G'):∀(d:D) {v:V},jA K G d v->jA K G' d v
 |.lA,_,h=>by simpa[jA] using h
 |.bl _,_,h=>by simpa[jA] using h
 |.int _,_,h=>by simpa[jA] using h
 |.str _,_,h=>by simpa[jA] using h
 |.t ds,_,h=>by
  simp only[jA] at h ⊢;obtain⟨a,vs,e,h1,h2⟩:=h;exact⟨a,vs,e,yI s h1,iA.mono s ds h2⟩
 |.l ds,_,h=>by
  simp only[jA] at h ⊢;obtain⟨a,vs,e,h1,h2⟩:=h;exact⟨a,vs,e,s.seq h1,iA.mono s ds h2⟩
 |.ins c ns ds,_,h=>by
  simp only[jA] at h ⊢;obtain⟨a,C,dx,vs,e,h1,h2,h3,h4,h5⟩:=h;exact⟨a,C,dx,vs,e,h1,s.app (λ_ z=>nomatch z) h2,iA.mono s ds h3,h4,h5⟩
 |.aL c n,_,h=>by
  simp only[jA] at h ⊢;obtain⟨a,C,p,e,h1,h2,h3,h4⟩:=h;exact⟨a,C,p,e,h1,h2,s.app (λ_ z=>nomatch z) h3,h4.mono s⟩
 |.ZA ks ds,_,h=>by
  simp only[jA] at h ⊢;obtain⟨a,xs,vs,e,⟨ep,h1⟩,h2,h3⟩:=h;exact⟨a,xs,vs,e,⟨ep,s.app (λ_ z=>nomatch z) h1⟩,h2.mono s,iA.mono s ds h3⟩
 |.EG ks ds,_,h=>by
  simp only[jA] at h ⊢;obtain⟨a,vs,e,h1,h2,h3⟩:=h;exact⟨a,vs,e,s.app (λ_ z=>nomatch z) h1,iA.mono s ds h2,h3⟩
 |.GC ds,_,h=>by(simp only[jA] at h ⊢;obtain⟨a,ws,vs,e,h1,p,h2⟩:=h;exact⟨a,ws,vs,e,s.seq h1,p,iA.mono s ds h2⟩)
theorem iA.mono{K:gA}(s:Sm G G'):∀(ds:List D) {vs:List V},iA K G ds vs->iA K G' ds vs
 |[],_,h=>by simpa[iA] using h
 |d::ds,_,h=>by(simp only[iA] at h ⊢;obtain⟨v,r,e,h1,h2⟩:=h;exact⟨v,r,e,jA.mono s d h1,iA.mono s ds h2⟩)
end
theorem iA.len{K:gA}:∀{ds:List D} {vs:List V},iA K G ds vs->vs.length=ds.length
 |[],_,h=>by simp only[iA] at h;subst h;rfl
 |d::ds,_,h=>by(simp only[iA] at h;obtain⟨v,r,rfl,_,h2⟩:=h;simp[iA.len h2])
def iA.nil{K:gA}:iA K G [] []:=by simp[iA]
def iA.cons{K:gA}(h:jA K G d v)(t:iA K G ds vs):iA K G (d::ds) (v::vs):=by
 simp only[iA];exact⟨v,vs,rfl,h,t⟩
theorem iA.app{K:gA}:∀{ds es:List D} {vs ws:List V},iA K G ds vs->iA K G es ws->iA K G (ds++es) (vs++ws)
 |[],_,_,_,h,h'=>by simp only[iA] at h;subst h;exact h'
 |d::ds,_,_,_,h,h'=>by(simp only[iA] at h;obtain⟨v,r,rfl,h1,h2⟩:=h;exact iA.cons h1 (iA.app h2 h'))
theorem iA.get{K:gA}:∀{ds:List D} {vs:List V} {i:Nat} {d:D},iA K G ds vs->ds[i]?=some d->∃v,vs[i]?=some v/\jA K G d v
 |[],_,_,_,_,e=>by simp at e
 |d::ds,_,0,_,h,e=>by
  simp only[iA] at h;obtain⟨v,r,rfl,h1,h2⟩:=h;simp at e;subst e;exact⟨v,rfl,h1⟩
 |d::ds,_,i+1,_,h,e=>by
  simp only[iA] at h;obtain⟨v,r,rfl,h1,h2⟩:=h
  have:=iA.get h2 (by simpa using e)
  simpa using this
theorem iA.set{K:gA}(hv:jA K G d v):∀{ds:List D} {vs:List V} (i:Nat),iA K G ds vs->iA K G (ds.set i d) (vs.set i v)
 |[],_,_,h=>by simp only[iA] at h;subst h;simp[iA]
 |e::ds,_,0,h=>by
  simp only[iA] at h;obtain⟨u,r,rfl,h1,h2⟩:=h;exact iA.cons hv h2
 |e::ds,_,i+1,h=>by(simp only[iA] at h;obtain⟨u,r,rfl,h1,h2⟩:=h;exact iA.cons h1 (iA.set hv i h2))
theorem iA.take{K:gA}:∀{ds:List D} {vs:List V} (n:Nat),iA K G ds vs->iA K G (ds.take n) (vs.take n)
 |_,_,0,_=>by simp[iA]
 |[],_,_+1,h=>by simp only[iA] at h;subst h;simp[iA]
 |e::ds,_,n+1,h=>by(simp only[iA] at h;obtain⟨u,r,rfl,h1,h2⟩:=h;exact iA.cons h1 (iA.take n h2))
theorem iA.drop{K:gA}:∀{ds:List D} {vs:List V} (n:Nat),iA K G ds vs->iA K G (ds.drop n) (vs.drop n)
 |_,_,0,h=>h
 |[],_,_+1,h=>by simp only[iA] at h;subst h;simp[iA]
 |e::ds,_,n+1,h=>by(simp only[iA] at h;obtain⟨u,r,rfl,h1,h2⟩:=h;exact iA.drop n h2)
theorem iA.rep{K:gA}(h:iA K G ds vs):∀n,iA K G (LB n ds).flatten (LB n vs).flatten
 | 0=>iA.nil
 |n+1=>by(rw[YM,YM,NO,NO];exact iA.app h (iA.rep h n))
def zG(K:gA)(H G:Hp)(a:fA):D->Prop
 |.l ds=>∃vs,H a=some (.l vs)/\iA K G ds vs
 |.ZA ks ds=>∃xs vs,QU H a xs/\rN K G a ks vs xs/\iA K G ds vs
 |_=>False
def yA(U:Env)(Y:St)(a:fA):Prop:=∃(i:Nat) (d:D) (p l:Bool),U[i]?=some (.ow d p l)/\Y[i]?=some (some (.ref a))
structure BA(K:gA)(U:Env)(Y:St)(H G:Hp):Prop where
 len:U.length=Y.length
 sub:bB G H
 sh:∀(i:Nat) (d:D),U[i]?=some (.sh d)->∃v,Y[i]?=some (some v)/\jA K G d v
 ow:∀(i:Nat) (d:D) (p l:Bool),U[i]?=some (.ow d p l)->∃a,Y[i]?=some (some (.ref a))/\G a=none/\zG K H G a d
 inj:∀(i j:Nat) (d:D) (p l:Bool) (d':D) (p' l':Bool) (a:fA),U[i]?=some (.ow d p l)->U[j]?=some (.ow d' p' l')->Y[i]?=some (some (.ref a))->Y[j]?=some (some (.ref a))->i=j
structure Ext(own:fA->Prop)(H G H' G':Hp):Prop where
 gg:Sm G G'
 hh:∀a o,H a=some o->¬own a->H' a=some o
 hx:∀a,H' a=none->H a=none
 gn:∀a,H a≠none->G a=none->¬own a->G' a=none
theorem Ext.refl:Ext own H G H G:=⟨Sm.refl _,λ_ _ h _=>h,λ_ h=>h,λ_ _ h _=>h⟩
theorem Ext.trans(a:Ext own H G H1 G1)(w:∀x,iQa x->own x\/H x=none)(b:Ext iQa H1 G1 H2 G2):Ext own H G H2 G2:=by
 refine⟨a.gg.trans b.gg,λx o h n=>?_,λx h=>a.hx x (b.hx x h),λx h g n=>?_⟩
 ·refine b.hh x o (a.hh x o h n) λz=>?_
  rcases w x z with z | z
  ·exact n z
  ·rw[h] at z;cases z
 ·have h1:H1 x≠none:=λz=>h (a.hx x z)
  refine b.gn x h1 (a.gn x h g n) λz=>?_
  rcases w x z with z | z
  ·exact n z
  ·exact h z
def Ext.weaken(a:Ext own H G H1 G1)(w:∀x,own x->dF x):Ext dF H G H1 G1 :=
 ⟨a.gg,λx o h n=>a.hh x o h λz=>n (w x z),a.hx,λx h g n=>a.gn x h g λz=>n (w x z)⟩
def wN(H:Hp)(own new:fA->Prop)(vs:List V):Prop:=∀x∈vs,∃b ws,x=.ref b/\H b=some (.l ws)/\ws.length<=1000/\¬own b/\new b
def Rows(H:Hp)(own new:fA->Prop)(a:fA):Prop:=∃vs,H a=some (.l vs)/\wN H own (λb=>new b/\b≠a) vs
def wN.step(h:wN H own new vs)(e:∀b o,H b=some o->¬own b->H' b=some o)(w:∀b,dF b->own b\/H b=none):wN H' dF new vs:=λx hx=>by
 obtain⟨b,ws,h1,h2,h3,h4,h5⟩:=h x hx;refine⟨b,ws,h1,e b _ h2 h4,h3,λz=>?_,h5⟩;rcases w b z with z | z
 ·exact h4 z
 ·rw[h2] at z;cases z
theorem wN.new{own new new':fA->Prop}(h:wN H own new vs)(w:∀b,new b->new' b):wN H own new' vs:=λx hx=>let ⟨b,ws,h1,h2,h3,h4,h5⟩:=h x hx;⟨b,ws,h1,h2,h3,h4,w b h5⟩
def NC(K:gA)(H G:Hp)(own:fA->Prop)(new:fA->Prop):RV->V->Prop
 |.sh d,v=>jA K G d v
 |.ow d,v=>∃a,v=.ref a/\G a=none/\zG K H G a d/\¬own a/\new a
 |.od d,v=>∃a,v=.ref a/\G a=none/\zG K H G a d/\¬own a/\new a/\Rows H own new a
def JB(K:gA)(H G:Hp)(d:D)(v:V):Prop:=jA K G d v\/∃a,v=.ref a/\zG K H G a d
def lF(K:gA)(H G:Hp)(own:fA->Prop)(new:fA->Prop)(Y:St):Hd->V->Prop
 |.slot i,v=>Y[i]?=some (some v)
 |.val (.od _),_=>False
 |.val r,v=>NC K H G own new r v
section
variable{K:gA}{own dF new new':fA->Prop}
theorem zG.mono(h:zG K H G a d)(s:Sm G G')(e:∀o,H a=some o->H' a=some o):zG K H' G' a d:=by
 induction d using D.casesOn with
 |l ds =>
  obtain⟨vs,h1,h2⟩:=h;exact⟨vs,e _ h1,iA.mono s _ h2⟩
 |ZA ks ds=>obtain⟨xs,vs,⟨ep,h1⟩,h2,h3⟩:=h;exact⟨xs,vs,⟨ep,e _ h1⟩,h2.mono s,iA.mono s ds h3⟩
 |_=>exact h
def zG.put(h:zG K H G a d):∃o,H a=some o/\∀G',Sm G G'->G' a=some o->jA K G' d (.ref a):=by
 induction d using D.casesOn with
 |l ds =>
  obtain⟨vs,h1,h2⟩:=h;exact⟨_,h1,λG' s e=>by simp only[jA];exact⟨a,vs,rfl,EB.of e,iA.mono s ds h2⟩⟩
 |ZA ks ds=>obtain⟨xs,vs,⟨ep,h1⟩,h2,h3⟩:=h;exact⟨_,h1,λG' s e=>by simp only[jA];exact⟨a,xs,vs,rfl,⟨ep,e⟩,h2.mono s,iA.mono s ds h3⟩⟩
 |_=>exact h.elim
def zG.there(h:zG K H G a d):∃o,H a=some o:=let ⟨o,h,_⟩:=h.put;⟨o,h⟩
def BA.owned(r:BA K U Y H G)(o:yA U Y a):H a≠none/\G a=none:=by
 obtain⟨i,d,p,l,h1,h2⟩:=o;obtain⟨b,e,g,h⟩:=r.ow i d p l h1;rw[h2] at e;cases e;obtain⟨vs,h⟩:=h.there;exact⟨by rw[h];simp,g⟩
def NC.wait(h:NC K H G own new v x)(e:Ext own H G H' G')(w:∀a,dF a->own a\/H a=none):NC K H' G' dF new v x:=by
 induction v using RV.casesOn with
 |sh d=>exact jA.mono e.gg d h
 |ow d =>
  obtain⟨a,rfl,g,o,n,m⟩:=h;obtain⟨vs,hv⟩:=o.there;have ne:H a≠none:=by rw[hv];simp
  refine⟨a,rfl,e.gn a ne g n,o.mono e.gg λo' h'=>e.hh a o' h' n,λz=>?_,m⟩;rcases w a z with z | z
  ·exact n z
  ·exact ne z
 |od d =>
  obtain⟨a,rfl,g,o,n,m,vs,hv,hr⟩:=h;have ne:H a≠none:=by rw[hv];simp
  refine⟨a,rfl,e.gn a ne g n,o.mono e.gg λo' h'=>e.hh a o' h' n,λz=>?_,m,vs,e.hh a _ hv n,hr.step e.hh w⟩;rcases w a z with z | z
  ·exact n z
  ·exact ne z
theorem lF.wait(h:lF K H G own new Y v x)(e:Ext own H G H' G')(w:∀a,dF a->own a\/H a=none):lF K H' G' dF new Y v x:=by
 induction v using Hd.casesOn with
 |slot i=>exact h
 |val r=>cases r with
  |od d=>exact h.elim
  |sh d=>exact jA.mono e.gg d h
  |ow d=>exact NC.wait (new:=new) (v:=.ow d) h e w
def NC.SH(h:NC K H G own new v x)(w:∀a,new a->new' a):NC K H G own new' v x:=by
 induction v using RV.casesOn with
 |sh d=>exact h
 |ow d =>
  obtain⟨a,rfl,g,o,n,m⟩:=h;exact⟨a,rfl,g,o,n,w a m⟩
 |od d =>
  obtain⟨a,rfl,g,o,n,m,vs,hv,hr⟩:=h;exact⟨a,rfl,g,o,n,w a m,vs,hv,hr.new λb z=>⟨w b z.1,z.2⟩⟩
theorem NC.low(h:NC K H G own new v x):NC K H G own new v.low x:=by
 induction v using RV.casesOn with
 |sh d=>exact h
 |ow d=>exact h
 |od d =>
  obtain⟨a,rfl,g,o,n,m,_⟩:=h;exact⟨a,rfl,g,o,n,m⟩
def lF.of(h:NC K H G own new v x):lF K H G own new Y (.val v.low) x:=by
 have:=h.low
 cases v<;>exact this
theorem lF.SH(h:lF K H G own new Y v x)(w:∀a,new a->new' a):lF K H G own new' Y v x:=by
 induction v using Hd.casesOn with
 |slot i=>exact h
 |val r=>cases r with
  |od d=>exact h.elim
  |sh d=>exact h
  |ow d=>exact NC.SH (own:=own) (H:=H) (v:=.ow d) h w
def NC.MM(h:NC K H G own new v x):JB K H G v.d x:=by
 induction v using RV.casesOn with
 |sh d=>exact .inl h
 |ow d =>
  obtain⟨a,rfl,g,o,n,m⟩:=h;exact .inr ⟨a,rfl,o⟩
 |od d =>
  obtain⟨a,rfl,g,o,n,m,_⟩:=h;exact .inr ⟨a,rfl,o⟩
theorem BA.get(r:BA K U Y H G){i:Nat}(h:(U[i]?).bind Sl.get=some d)(hx:Y[i]?=some (some x)):JB K H G d x:=by
 cases e:U[i]? with
 |none=>rw[e] at h;cases h
 |some sl =>
  rw[e] at h
  induction sl using Sl.casesOn with
  |un=>cases h
  |mv=>cases h
  |sh d' =>
   cases h;obtain⟨v,h1,h2⟩:=r.sh i _ e;rw[hx] at h1;cases h1;exact .inl h2
  |ow d' p l =>
   cases h;obtain⟨a,h1,_,h2⟩:=r.ow i _ p l e;rw[hx] at h1;cases h1;exact .inr ⟨a,rfl,h2⟩
def lF.read(h:lF K H G own new Y v x)(r:BA K U Y H G)(e:v.get U=some d):JB K H G d x:=by
 induction v using Hd.casesOn with
 |slot i=>exact r.get e h
 |val u =>
  simp only[Hd.get,aC] at e;subst e
  induction u using RV.casesOn with
  |od d=>exact h.elim
  |sh d=>exact .inl h
  |ow d=>exact NC.MM (own:=own) (new:=new) (v:=.ow d) h
def BA.bound(r:BA K U Y H G){i:Nat}(h:((U[i]?).bind Sl.get).isSome=true):∃v,Y[i]?=some (some v):=by
 cases e:U[i]? with
 |none=>rw[e] at h;cases h
 |some sl =>
  rw[e] at h
  induction sl using Sl.casesOn with
  |un=>cases h
  |mv=>cases h
  |sh d' =>
   obtain⟨v,h1,h2⟩:=r.sh i _ e;exact⟨v,h1⟩
  |ow d' p l =>
   obtain⟨a,h1,_,h2⟩:=r.ow i _ p l e;exact⟨_,h1⟩
theorem JB.l(s:bB G H)(h:JB K H G (.l ds) x):∃a vs,x=.ref a/\EB K H a vs/\iA K G ds vs:=by
 rcases h with h | ⟨a,rfl,h⟩
 ·simp only[jA] at h;obtain⟨a,vs,e,h1,h2⟩:=h;exact⟨a,vs,e,s.seq h1,h2⟩
 ·obtain⟨vs,h1,h2⟩:=h;exact⟨a,vs,rfl,EB.of h1,h2⟩
theorem JB.t{ds:List D}(s:bB G H)(h:JB K H G (.t ds) x):∃a vs,x=.ref a/\sC K H a vs/\iA K G ds vs:=by
 rcases h with h | ⟨a,rfl,h⟩
 ·simp only[jA] at h;obtain⟨a,vs,e,h1,h2⟩:=h;exact⟨a,vs,e,yI s h1,h2⟩
 ·exact h.elim
theorem JB.int(h:JB K H G (.int i) x):x=.int i:=by
 rcases h with h | ⟨a,rfl,h⟩
 ·simpa[jA] using h
 ·exact h.elim
theorem JB.bl(h:JB K H G (.bl i) x):x=.bl i:=by
 rcases h with h | ⟨a,rfl,h⟩
 ·simpa[jA] using h
 ·exact h.elim
theorem JB.str(h:JB K H G (.str i) x):x=.str i/\cP i=true:=by
 rcases h with h | ⟨a,rfl,h⟩
 ·simpa[jA] using h
 ·exact h.elim
theorem JB.lA(h:JB K H G .lA x):x=.lA:=by
 rcases h with h | ⟨a,rfl,h⟩
 ·simpa[jA] using h
 ·exact h.elim
def MT(h:jA K G (.bl i) x):x=.bl i:=by simpa[jA] using h
def bB.laid(h:H a=none):bB H (CA H a o):=λb u e=>by rw[rB (NF e h)];exact e
theorem Sm.laid(h:H a=none):Sm H (CA H a o):=Sm.of (bB.laid h)
def Sm.put(h:H a=none):Sm H (CA H a o):=Sm.laid h
def BA.DM(r:BA K U Y H G)(h:H a=none):BA K U Y (CA H a o) (CA G a o):=by
 have hg:G a=none:=bB.free r.sub h;refine⟨r.len,λb u e=>?_,λi d e=>?_,λi d p l e=>?_,r.inj⟩
 ·by_cases hb:b=a
  ·subst hb;rw[VC] at e ⊢;exact e
  ·rw[rB hb] at e ⊢;exact r.sub b u e
 ·obtain⟨v,h1,h2⟩:=r.sh i d e;exact⟨v,h1,jA.mono (Sm.laid hg) d h2⟩
 ·obtain⟨b,h1,h2,h3⟩:=r.ow i d p l e;obtain⟨vs,hv⟩:=h3.there;have hb:b≠a:=NF hv h;refine⟨b,h1,by rw[rB hb];exact h2,h3.mono (Sm.laid hg) λo' h'=>by rw[rB hb];exact h'⟩
def Ext.DM(s:bB G H)(h:H a=none):Ext own H G (CA H a o) (CA G a o):=by
 have hg:G a=none:=bB.free s h;refine⟨Sm.laid hg,λb u e _=>bB.laid h b u e,λb e=>?_,λb e g _=>?_⟩
 ·by_cases hb:b=a
  ·subst hb;exact h
  ·rwa[rB hb] at e
 ·by_cases hb:b=a
  ·subst hb;exact absurd h e
  ·rw[rB hb];exact g
def BA.iJ(r:BA K U Y H G)(h:H a=none):BA K U Y (CA H a o) G:=by
 refine⟨r.len,r.sub.trans (bB.laid h),r.sh,λi d p l e=>?_,r.inj⟩;obtain⟨b,h1,h2,h3⟩:=r.ow i d p l e;obtain⟨vs,hv⟩:=h3.there;have hb:b≠a:=NF hv h;exact⟨b,h1,h2,h3.mono (Sm.refl _) λo' h'=>by rw[rB hb];exact h'⟩
def Ext.iJ(h:H a=none):Ext own H G (CA H a o) G:=by
 refine⟨Sm.refl _,λb u e _=>bB.laid h b u e,λb e=>?_,λb e g _=>g⟩;by_cases hb:b=a
 ·subst hb;exact h
 ·rwa[rB hb] at e
def BA.eX(r:BA K U Y H G)(h:H a=none):¬yA U Y a:=λo=>(r.owned o).1 h
def bB.put(h:G a=none):bB G (CA G a o):=bB.laid h
def NC.share(h:NC K H G (yA U Y) new v x)(r:BA K U Y H G)(hn:∀a,new a->own a\/new' a) :
  ∃G',BA K U Y H G'/\bB G G'/\(∀a,G' a≠none->G a≠none\/new a)/\jA K G' v.d x:=by
 have main:∀d,NC K H G (yA U Y) new (.ow d) x->∃G',BA K U Y H G'/\bB G G'/\(∀a,G' a≠none->G a≠none\/new a)/\jA K G' d x:=by
  intro d h;obtain⟨a,rfl,g,o,n,m⟩:=h;obtain⟨ob,hv,hr⟩:=o.put;refine⟨CA G a ob,⟨r.len,λb u e=>?_,λi d e=>?_,λi d p l e=>?_,r.inj⟩,bB.put g,λb z=>?_, ?_⟩
  ·by_cases hb:b=a
   ·subst hb;rw[VC] at e;rw[hv];exact e
   ·rw[rB hb] at e;exact r.sub b u e
  ·obtain⟨v,h1,h2⟩:=r.sh i d e;exact⟨v,h1,jA.mono (Sm.put g) d h2⟩
  ·obtain⟨b,h1,h2,h3⟩:=r.ow i d p l e;have hb:b≠a:=λz=>by subst z;exact n ⟨i,d,p,l,e,h1⟩
   exact⟨b,h1,by rw[rB hb];exact h2,h3.mono (Sm.put g) λ_ z=>z⟩
  ·by_cases hb:b=a
   ·subst hb;exact .inr m
   ·rw[rB hb] at z;exact .inl z
  ·exact hr _ (Sm.put g) VC
 induction v using RV.casesOn with
 |sh d=>exact⟨G,r,bB.refl _,λa z=>.inl z,h⟩
 |ow d=>exact main d h
 |od d=>exact main d h.low
end
def GF:Option Sl->Option Sl->Prop
 |some (.ow _ p l),some (.ow _ p' l')=>p=p'/\l=l'
 |some (.ow _ p _),some (.sh _)=>p=false
 |some .un,some .un=>True
 |some .mv,some .mv=>True
 |some (.sh _),some (.sh _)=>True
 |none,none=>True
 |_,_=>False
def GF.refl(a:Option Sl):GF a a:=by
 cases a with
 |none=>trivial
 |some s=>cases s<;>first | trivial | exact⟨rfl,rfl⟩
theorem GF.trans(h:GF a b)(h':GF b c):GF a c:=by
 cases a with
 |none =>
  cases b with
  |none=>exact h'
  |some t=>cases t<;>exact h.elim
 |some s =>
  cases b with
  |none=>cases s<;>exact h.elim
  |some t =>
   cases c with
   |none=>cases t<;>exact h'.elim
   |some u=>cases s<;>cases t<;>first | exact h.elim | (cases u<;>first | exact h'.elim | trivial | exact⟨h.1.trans h'.1,h.2.trans h'.2⟩ | exact h.1.trans h' | exact h)
def GF.jl(h:GF a (some (.ow d p l))):∃d',a=some (.ow d' p l):=by
 cases a with
 |none=>exact h.elim
 |some s=>cases s<;>first | exact h.elim | (obtain⟨rfl,rfl⟩:=h;exact⟨_,rfl⟩)
def rE(U U':Env):Prop:=∀i:Nat,GF U[i]? U'[i]?
theorem rE.refl(U:Env):rE U U:=λ_=>GF.refl _
theorem rE.trans(h:rE a b)(h':rE b c):rE a c:=λi=>(h i).trans (h' i)
def rE.own(h:rE U U')(a:fA)(o:yA U' Y a):yA U Y a:=by
 obtain⟨i,d,p,l,h1,h2⟩:=o
 have:=h i
 rw[h1] at this;obtain⟨d',e⟩:=this.jl;exact⟨i,d',p,l,e,h2⟩
theorem rE.set(h:GF U[i]? (some s)):rE U (U.set i s):=λj=>by
 by_cases SJ:j=i
 ·subst SJ;by_cases hl:j<U.length
  ·rw[DK hl];exact h
  ·rw[RL (by lia)] at h;cases s<;>exact h.elim
 ·rw[iF (λz=>SJ z.symm)];exact GF.refl _
structure AA(K:gA)(U:Env)(Y:St)(H G:Hp)(U':Env)(H' G':Hp):Prop where
 oA:BA K U' Y H' G'
 ext:Ext (yA U Y) H G H' G'
 KJ:rE U U'
section
variable{K:gA}
theorem AA.own(a:AA K U Y H G U' H' G'):∀a,yA U' Y a->yA U Y a:=λx h=>a.KJ.own x h
theorem AA.refl(r:BA K U Y H G):AA K U Y H G U H G:=⟨r,Ext.refl,rE.refl _⟩
theorem AA.trans(a:AA K U Y H G U1 H1 G1)(b:AA K U1 Y H1 G1 U2 H2 G2):AA K U Y H G U2 H2 G2 :=
 ⟨b.oA,a.ext.trans (λx h=>.inl (a.own x h)) b.ext,a.KJ.trans b.KJ⟩
abbrev uE(H:Hp):fA->Prop:=λa=>H a=none
def AA.fresh(a:AA K U Y H G U1 H1 G1)(h:H1 x=none):H x=none:=a.ext.hx x h
def AA.O9(a:AA K U Y H G U' H' G')(h:NC K H' G' (yA U' Y) (uE H) v x):∃G2,AA K U Y H G U' H' G2/\jA K G2 v.d x/\bB G' G2:=by
 obtain⟨G2,r2,s2,n2,h2⟩:=h.share (own:=λ_=>False) (new':=uE H) a.oA (λ_ z=>.inr z);refine⟨G2,⟨r2,⟨a.ext.gg.trans s2,a.ext.hh,a.ext.hx,λb hb gb nb=>?_⟩,a.KJ⟩,h2,s2⟩
 cases e:G2 b with
 |none=>rfl
 |some o =>
  rcases n2 b (by rw[e];simp) with z | z
  ·exact absurd (a.ext.gn b hb gb nb) z
  ·exact absurd z hb
def AA.share(a:AA K U Y H G U' H' G')(h:NC K H' G' (yA U' Y) (uE H) v x):∃G2,AA K U Y H G U' H' G2/\jA K G2 v.d x:=let ⟨G2,h1,h2,_⟩:=a.O9 h;⟨G2,h1,h2⟩
theorem AA.DM(a:AA K U Y H G U' H' G')(h:H' p=none):AA K U Y H G U' (CA H' p o) (CA G' p o) :=
 a.trans ⟨a.oA.DM h,Ext.DM a.oA.sub h,rE.refl _⟩
theorem AA.iJ(a:AA K U Y H G U' H' G')(h:H' p=none):AA K U Y H G U' (CA H' p o) G' :=
 a.trans ⟨a.oA.iJ h,Ext.iJ h,rE.refl _⟩
def AA.kl(a:AA K U Y H G U' H' G')(h:H' p=none)(r:iA K G' ds vs) :
  AA K U Y H G U' (CA H' p (.l vs)) G'/\NC K (CA H' p (.l vs)) G' (yA U' Y) (uE H) (.ow (.l ds)) (.ref p) :=
 ⟨a.iJ h,p,rfl,bB.free a.oA.sub h,⟨vs,VC,r⟩,a.oA.eX h,a.fresh h⟩
def AA.Cy(a:AA K U Y H G U' H' G')(h:H' p=none)(r:rN K G' p ks vs xs)(q:iA K G' ds vs) :
  AA K U Y H G U' (CA H' p (.ext (bC p xs ep))) G'/\NC K (CA H' p (.ext (bC p xs ep))) G' (yA U' Y) (uE H) (.ow (.ZA ks ds)) (.ref p) :=
 ⟨a.iJ h,p,rfl,bB.free a.oA.sub h,⟨xs,vs,⟨_,VC⟩,r,q⟩,a.oA.eX h,a.fresh h⟩
def AA.Ap(a:AA K U Y H G U' H' G')(h:H' p=none)(r:iA K G' ds vs) :
  AA K U Y H G U' (CA H' p (.t vs)) (CA G' p (.t vs))/\NC K (CA H' p (.t vs)) (CA G' p (.t vs)) (yA U' Y) (uE H) (.sh (.t ds)) (.ref p):=by
 refine⟨a.DM h, ?_⟩;show jA K _ (.t ds) _;simp only[jA];exact⟨p,vs,rfl,sC.of VC,iA.mono (Sm.laid (bB.free a.oA.sub h)) ds r⟩
end
def AG:List Hd->List V->fA->Prop
 |.val (.ow _)::hs,x::xs,a=>x=.ref a\/AG hs xs a
 |_::hs,_::xs,a=>AG hs xs a
 |_,_,_=>False
def dE(K:gA)(H G:Hp)(own new:fA->Prop)(Y:St):List Hd->List V->Prop
 |[],xs=>xs=[]
 |h::hs,xs=>∃x r,xs=x::r/\lF K H G own new Y h x/\dE K H G own new Y hs r/\∀d a,h=.val (.ow d)->x=.ref a->¬AG hs r a
section
variable(K:gA)(P:RA)(C:Calls)
def tE(c:E):TE:=λY H Q=>∃(U:Env) (G:Hp) (v:RV) (U':Env),BA K U Y H G/\ev P C false c U=some (.ok v,U') /\
 ∀x H' G',AA K U Y H G U' H' G'->NC K H' G' (yA U' Y) (uE H) v x->Q x H'
def tT(c:E):TT:=λY H Q=>∃(U:Env) (G:Hp) (b:Bool) (U':Env),BA K U Y H G/\ev P C true c U=some (.ok (.sh (.bl b)),U') /\
 ∀H' G',AA K U Y H G U' H' G'->Q b H'
def tH(c:E):TE:=λY H Q=>∃(U:Env) (G:Hp) (h:Hd) (U':Env),BA K U Y H G/\hd c (ev P C false c U) U=some (.ok h,U') /\
 ∀x H' G',AA K U Y H G U' H' G'->lF K H' G' (yA U' Y) (uE H) Y h x->Q x H'
def DL(cs:List E):TA:=λY H Q=>∃(U:Env) (G:Hp) (ds:List D) (U':Env),BA K U Y H G/\XE P C cs U=some (.ok ds,U') /\
 ∀xs H' G',AA K U Y H G U' H' G'->iA K G' ds xs->Q xs H'
def oH(cs:List E):TA:=λY H Q=>∃(U:Env) (G:Hp) (hs:List Hd) (U':Env),BA K U Y H G/\bD P C cs U=some (.ok hs,U') /\
 ∀xs H' G',AA K U Y H G U' H' G'->dE K H' G' (yA U' Y) (uE H) Y hs xs->Q xs H'
end
def TE.JD(h:PE X e t)(w:∀Y H Q,u Y H Q->t Y H Q):PE X e u:=λaA s Y H Q I q=>h aA s Y H Q I (w Y H Q q)
def TT.qQ(h:PT X e t)(w:∀Y H Q,u Y H Q->t Y H Q):PT X e u:=λaA s Y H Q I q=>h aA s Y H Q I (w Y H Q q)
def TA.QS(h:PA X e t)(w:∀Y H Q,u Y H Q->t Y H Q):PA X e u:=λpos aA s Y H Q I q=>h pos aA s Y H Q I (w Y H Q q)
def vB{r:xA O}(h:r.bind f=some (.ok b,U)):∃a U1,r=some (.ok a,U1)/\f a U1=some (.ok b,U):=by
 unfold xA.bind at h;split at h
 ·cases h
 ·cases h
 ·exact⟨_,_,rfl,h⟩
def UI(h:done o U=some (.ok v,U')):o=some v/\U'=U:=by
 unfold done at h
 cases o with
 |none=>cases h
 |some u=>simp only[EE,aC,aE,Out.ok.injEq] at h;exact⟨by rw[h.1],h.2.symm⟩
def Tp{r:xA RV}{U':Env}(h:aAh true r=some (.ok v,U')):∃u b,r=some (.ok u,U')/\oK u.d=some b/\v=.sh (.bl b):=by
 obtain⟨u,U1,h1,h2⟩:=vB h
 cases e:oK u.d with
 |none=>rw[e] at h2;cases h2
 |some b =>
  rw[e] at h2;simp only[EE,aC,aE,Out.ok.injEq] at h2;obtain⟨h3,h4⟩:=h2;subst h4;exact⟨u,b,h1,e,h3.symm⟩
section
variable{K:gA}{P:RA}{C:Calls}{Y:St}{H:Hp}
def zO{X:Cx}{c:E}(h:PE X e (tE K P C c))(n:∀i,c≠.v i):PE X e (tH K P C c):=by
 refine TE.JD h λY H Q q=>?_
 obtain⟨U,G,LF,U',r,e1,k⟩:=q
 have:hd c (ev P C false c U) U=(ev P C false c U).bind λv U'=>some (.ok (.val v.low),U'):=by
  cases c<;>first | rfl | exact absurd rfl (n _)
 rw[this] at e1;obtain⟨v,U1,e2,e3⟩:=vB e1;cases e3;exact⟨U,G,v,_,r,e2,λx H' G' a hv=>k x H' G' a (lF.of hv)⟩
def Dl(h:PE X e (PM i)):PE X e (tE K P C (.v i)):=by
 refine TE.JD h λY H Q q=>?_
 obtain⟨U,G,v,U',r,e1,k⟩:=q;replace e1:aAK i U=_:=e1;unfold aAK at e1;split at e1
 ·rename_i d hd;cases e1;obtain⟨x,h1,h2⟩:=r.sh i d hd;exact⟨x,h1,k x H G (AA.refl r) h2⟩
 ·rename_i d hd;cases e1;obtain⟨a,h1,g,o⟩:=r.ow i d _ _ hd;refine⟨.ref a,h1, ?_⟩;obtain⟨ob,hv,hr⟩:=o.put;have li:i<U.length:=(RD.mp hd).1
  have cF:∀(j:Nat) (sl:Sl),(U.set i (.sh d))[j]?=some sl->(j=i/\sl=.sh d)\/(j≠i/\U[j]?=some sl):=λj sl hj=>by
   by_cases SJ:j=i
   ·subst SJ;rw[DK li] at hj;exact .inl ⟨rfl,(ZD hj).symm⟩
   ·rw[iF (λz=>SJ z.symm)] at hj;exact .inr ⟨SJ,hj⟩
  have dF:∀b,yA (U.set i (.sh d)) Y b->yA U Y b:=λb hz=>by
   obtain⟨j,d',p,l,h3,h4⟩:=hz;rcases cF j _ h3 with ⟨_,z⟩ | ⟨_,z⟩
   ·cases z
   ·exact⟨j,d',p,l,z,h4⟩
  refine k (.ref a) H (CA G a ob) ⟨⟨?_,λb u z=>?_,λj d' hj=>?_,λj d' p l hj=>?_,λj k' d1 p1 l1 d2 p2 l2 b h3 h4 h5 h6=>?_⟩,⟨Sm.put g,λ_ _ z _=>z,λ_ z=>z,λb h3 h4 h5=>?_⟩,rE.set (by rw[hd];rfl)⟩ ?_
  ·rw[SG];exact r.len
  ·by_cases hb:b=a
   ·subst hb;rw[VC] at z;rw[hv];exact z
   ·rw[rB hb] at z;exact r.sub b u z
  ·rcases cF j _ hj with ⟨rfl,z⟩ | ⟨_,z⟩
   ·cases z;exact⟨_,h1,hr _ (Sm.put g) VC⟩
   ·obtain⟨x,h3,h4⟩:=r.sh j d' z;exact⟨x,h3,jA.mono (Sm.put g) d' h4⟩
  ·rcases cF j _ hj with ⟨_,z⟩ | ⟨ne,z⟩
   ·cases z
   ·obtain⟨b,h3,h4,h5⟩:=r.ow j d' p l z;have hb:b≠a:=λe=>by subst e;exact ne (r.inj _ _ _ _ _ _ _ _ _ z hd h3 h1)
    exact⟨b,h3,by rw[rB hb];exact h4,h5.mono (Sm.put g) λ_ z=>z⟩
  ·rcases cF j _ h3 with ⟨_,z⟩ | ⟨_,z⟩
   ·cases z
   ·rcases cF k' _ h4 with ⟨_,z'⟩ | ⟨_,z'⟩
    ·cases z'
    ·exact r.inj _ _ _ _ _ _ _ _ _ z z' h5 h6
  ·by_cases hb:b=a
   ·subst hb;exact absurd ⟨i,_,_,_,hd,h1⟩ h5
   ·rw[rB hb];exact h4
  ·exact hr _ (Sm.put g) VC
 ·cases e1
def oRa(h:PE X e (PM i)):PE X e (tH K P C (.v i)):=by
 refine TE.JD h λY H Q q=>?_
 obtain⟨U,G,LF,U',r,e1,k⟩:=q;simp only[hd] at e1;split at e1
 ·rename_i hb;cases e1;obtain⟨x,hx⟩:=r.bound hb;exact⟨x,hx,k x H G (AA.refl r) hx⟩
 ·cases e1
def ub(s:bB G H)(h:JB K H G d x)(e:oK d=some b):WU K x H b:=by
 cases d<;>simp only[oK,aC,reduceCtorEq] at e
 ·have:=h.lA;subst this;exact e.symm
 ·have:=h.bl;subst this;exact e.symm
 ·have:=h.int;subst this;exact e.symm
 ·split at e
  ·rename_i hz;obtain⟨rfl,_⟩:=h.str;exact⟨XC hz (by decide),(ZD e).symm⟩
  ·cases e
 ·obtain⟨a,vs,rfl,h1,h2⟩:=h.t s;refine .inr (.inl ⟨vs,h1, ?_⟩);rw[<- e]
  have:=h2.len
  cases vs<;>cases ‹List D›<;>simp_all
 ·obtain⟨a,vs,rfl,h1,h2⟩:=h.l s;refine .inl ⟨vs,h1, ?_⟩;rw[<- e]
  have:=h2.len
  cases vs<;>cases ‹List D›<;>simp_all
def dUa(hK:X.K=K)(h:PE X e (tE K P C c))(hw:∀U,ev P C true c U=aAh true (ev P C false c U))
  (he:∀whole,isTrue e X.env whole=(do let v <- whole;standAt e.pos;holding [v] (truthy v))):PT X e (tT K P C c):=by
 refine TT.qQ (fm h he) λY H Q q=>?_
 obtain⟨U,G,b,U',r,e1,k⟩:=q;rw[hw] at e1;obtain⟨u,b',e2,e3,e4⟩:=Tp e1;cases e4;refine⟨U,G,u,U',r,e2,λx H' G' a hv=>⟨b, ?_,k H' G' a⟩⟩;rw[hK];exact ub a.oA.sub hv.MM e3
end
mutual
theorem Wf:∀(n:Nat) (d e:D),eC n d=true->eC n e=true->PL (QD d) (QD e)=pF d e
 |n,.lA,e,_,h=>by cases e<;>first | (cases n<;>cases h;done) | rfl
 |n,.bl b,e,_,h=>by cases e<;>first | (cases n<;>cases h;done) | rfl
 |n,.int b,e,_,h=>by cases e<;>first | (cases n<;>cases h;done) | rfl
 |n,.str b,e,_,h=>by cases e<;>first | (cases n<;>cases h;done) | rfl
 |n+1,.t ds,e,h,h'=>by
  induction e using D.casesOn with
  |t es =>
   exact l3 n ds es (YF.mp h) (YF.mp h')
  |ins=>cases h'
  |ZA=>cases h'
  |EG=>cases h'
  |GC=>cases h'
  |aL=>cases h'
  |_=>rfl
 |n+1,.l ds,e,h,h'=>by
  induction e using D.casesOn with
  |l es =>
   exact l3 n ds es (YF.mp h) (YF.mp h')
  |ins=>cases h'
  |ZA=>cases h'
  |EG=>cases h'
  |GC=>cases h'
  |aL=>cases h'
  |_=>rfl
 | 0,.t ds,e,h,_=>by cases h
 | 0,.l ds,e,h,_=>by cases h
 |n,.ins _ _ _,_,h,_=>by cases n<;>cases h
 |n,.ZA _ _,_,h,_=>by cases n<;>cases h
 |n,.EG _ _,_,h,_=>by cases n<;>cases h
 |n,.GC _,_,h,_=>by cases n<;>cases h
 |n,.aL _ _,_,h,_=>by cases n<;>cases h
theorem l3:∀(n:Nat) (ds es:List D),(∀d∈ds,eC n d=true)->(∀d∈es,eC n d=true)->bI (pH ds) (pH es)=YK ds es
 |n,[],[],_,_=>rfl
 |n,[],_::_,_,_=>rfl
 |n,_::_,[],_,_=>rfl
 |n,d::ds,e::es,h,h'=>by(show(PL (QD d) (QD e)&&bI (pH ds) (pH es))=(pF d e&&YK ds es);rw[Wf n d e (h d (by simp)) (h' e (by simp)),l3 n ds es (λx hx=>h x (by simp[hx])) (λx hx=>h' x (by simp[hx]))])
end
section
variable{K:gA}
mutual
theorem Dm(I:eA X aA Y H s)(hK:X.K=K)(sub:bB G H):∀(n:Nat) (d:D) (x:V) (u:cA),eC n d=true->jA K G d x->aAe x u->∃as,Reads s.heap u (QD d) as/\xG (QD d)=true/\zH (QD d)<=n
 |n,.lA,x,u,_,h,r=>by
  simp only[jA] at h;subst h;cases r;exact⟨_,Reads.none,by simp[QD,xG],by simp[QD,zH]⟩
 |n,.bl b,x,u,_,h,r=>by
  simp only[jA] at h;subst h;cases r;exact⟨_,Reads.bool b,by simp[QD,xG],by simp[QD,zH]⟩
 |n,.int b,x,u,_,h,r=>by
  simp only[jA] at h;subst h;obtain⟨t,rfl⟩:=r;exact⟨_,Reads.int b t,by simp[QD,xG],by simp[QD,zH]⟩
 |n,.str b,x,u,_,h,r=>by
  simp only[jA] at h;obtain⟨rfl,hs⟩:=h;obtain⟨t,rfl⟩:=r;exact⟨_,Reads.str b t,by simpa[QD,xG] using hs,by simp[QD,zH]⟩
 |n+1,.t ds,x,u,ok,h,r=>by
  simp only[jA] at h;obtain⟨a,vs,rfl,h1,h2⟩:=h;cases r;obtain⟨dA,rv,⟨o,ho,hc,m,hd⟩,hz⟩:=I.tuple (show sC X.K H a vs from hK ▸ yI sub h1);obtain⟨as,r1,r2,r3⟩:=sX I hK sub n ds vs dA (YF.mp ok) h2 rv;exact⟨_,Reads.tuple ho hc hd (by simpa using r1),by simpa[QD,xG] using r2,by simp[QD,zH];lia⟩
 |n+1,.l ds,x,u,ok,h,r=>by
  simp only[jA] at h;obtain⟨a,vs,rfl,h1,h2⟩:=h;cases r;obtain⟨dA,rv,⟨o,m,ho,hc,hn,hd⟩,hz⟩:=I.list (show EB X.K H a vs from hK ▸ sub.seq h1);obtain⟨as,r1,r2,r3⟩:=sX I hK sub n ds vs dA (YF.mp ok) h2 rv;exact⟨_,Reads.list ho hc hd (by simpa using r1),by simpa[QD,xG] using r2,by simp[QD,zH];lia⟩
 | 0,.t ds,_,_,h,_,_=>by cases h
 | 0,.l ds,_,_,h,_,_=>by cases h
 |n,.ins _ _ _,_,_,h,_,_=>by cases n<;>cases h
 |n,.ZA _ _,_,_,h,_,_=>by cases n<;>cases h
 |n,.EG _ _,_,_,h,_,_=>by cases n<;>cases h
 |n,.GC _,_,_,h,_,_=>by cases n<;>cases h
 |n,.aL _ _,_,_,h,_,_=>by cases n<;>cases h
theorem sX(I:eA X aA Y H s)(hK:X.K=K)(sub:bB G H):∀(n:Nat) (ds:List D) (xs:List V) (us:List cA),(∀d∈ds,eC n d=true)->iA K G ds xs->aAc xs us->∃as,ReadsAll s.heap us (pH ds) as/\cN (pH ds)=true/\gN (pH ds)<=n
 |n,[],xs,us,_,h,r=>by
  simp only[iA] at h;subst h;cases r;exact⟨_,ReadsAll.nil,by simp[pH,cN],by simp[pH,gN]⟩
 |n,d::ds,xs,us,ok,h,r=>by
  simp only[iA] at h;obtain⟨v,r',rfl,h1,h2⟩:=h
  cases r with
  |cons ra rb =>
   obtain⟨as,a1,a2,a3⟩:=Dm I hK sub n d v _ (ok d (by simp)) h1 ra;obtain⟨bs,b1,b2,b3⟩:=sX I hK sub n ds r' _ (λx hx=>ok x (by simp[hx])) h2 rb;exact⟨_,ReadsAll.cons a1 b1,by simp[pH,cN,a2,b2],by simp[pH,gN];lia⟩
end
def Em(I:eA X aA Y H s)(hK:X.K=K)(sub:bB G H)(n:Nat)(d:D)(x:V)(u:cA)(ok:eC n d=true)(h:JB K H G d x)(r:aAe x u):∃as,Reads s.heap u (QD d) as/\xG (QD d)=true/\zH (QD d)<=n:=by
 rcases h with h | ⟨a,rfl,h⟩
 ·exact Dm I hK sub n d x u ok h r
 ·cases r
  cases d<;>first | exact h.elim | skip
  case ZA=>cases n<;>cases ok
  rename_i ds;obtain⟨vs,h1,h2⟩:=h
  cases n with
  |zero=>cases ok
  |succ n =>
   obtain⟨dA,rv,⟨o,m,ho,hc,hn,hd⟩,hz⟩:=I.list (EB.of h1);obtain⟨as,r1,r2,r3⟩:=sX I hK sub n ds vs dA (YF.mp ok) h2 rv;exact⟨_,Reads.list ho hc hd (by simpa using r1),by simpa[QD,xG] using r2,by simp[QD,zH];lia⟩
def aAH(K:gA)(H G:Hp)(v:RV)(x:V)(H':Hp):Prop :=
 (∃d,v=.sh d/\jA K G d x/\H'=H) \/
 (∃ds vs p,v=.ow (.l ds)/\H p=none/\iA K G ds vs/\x=.ref p/\H'=CA H p (.l vs)) \/
 (∃ds vs p,v=.sh (.t ds)/\H p=none/\iA K G ds vs/\x=.ref p/\H'=CA H p (.t vs)) \/
 (∃d p o,v=.sh d/\H p=none/\x=.ref p/\H'=CA H p o/\∀G',Sm G G'->G' p=some o->jA K G' d x)
def L8(h:∃ds vs p,v=.sh (.t ds)/\H p=none/\iA K G ds vs/\x=.ref p/\H'=CA H p (.t vs)):aAH K H G v x H' :=
 .inr (.inr (.inl h))
def AA.made(a:AA K U Y H0 G0 U' H G)(m:aAH K H G v x H2) :
  ∃G2,AA K U Y H0 G0 U' H2 G2/\NC K H2 G2 (yA U' Y) (uE H0) v x:=by
 rcases m with ⟨d,rfl,h,rfl⟩ | ⟨ds,vs,p,rfl,h,r,rfl,rfl⟩ | ⟨ds,vs,p,rfl,h,r,rfl,rfl⟩ | ⟨d,p,o,rfl,h,rfl,rfl,f⟩
 ·exact⟨G,a,h⟩
 ·exact⟨_,a.kl h r⟩
 ·exact⟨_,a.Ap h r⟩
 ·exact⟨_,a.DM h,f _ (Sm.laid (bB.free a.oA.sub h)) VC⟩
def oUa(K:gA)(op:zK):R2:=λx y H Q=>∃G d e v,bB G H/\JB K H G d x/\JB K H G e y/\(op=.Mult->∀ds,d=.l ds->∃a vs,x=.ref a/\H a=some (.l vs)/\iA K G ds vs)/\uC op d e=some v/\∀z H',aAH K H G v z H'->Q z H'
def aAn:aAH K H G (.sh (.int i)) (.int i) H:=.inl ⟨_,rfl,by simp[jA],rfl⟩
def cKa:aAH K H G (.sh (.bl i)) (.bl i) H:=.inl ⟨_,rfl,by simp[jA],rfl⟩
def NM(h:GB n=true):n<=sizeLine:=XC (@kR _ (cl _) h) (by decide)
def FX(I:eA X aA Y H s)(h:EB X.K H a vs):∃(dA:List cA),aAc vs dA/\s.heap.IsList a dA.toArray/\vs.length<=sizeLine:=by
 obtain⟨dA,r,p,z⟩:=I.list h;exact⟨dA,r,p.isList,z⟩
def pUa(K:gA):R2:=λx y H Q=>∃l b xs zs,x=.ref l/\y=.ref b/\EB K H l xs/\EB K H b zs/\xs.length+zs.length<=sizeLine/\∀p,H p=none->Q (.ref p) (CA H p (.l (xs++zs)))
def zOa:yC X (gF .Add) (pUa X.K):=by
 intro aA s Y H x y v u Q I rx ry h;obtain⟨l,b,xs,zs,rfl,rfl,hH,hB,hz,q⟩:=h;cases rx;cases ry;obtain⟨dA,r,hl,z⟩:=FX I hH;obtain⟨uL,r2,hl2,z2⟩:=FX I hB;have e1:=r.length;have e2:=r2.length;obtain⟨⟨cls,dd,data,sl⟩,ho,hc,n,hd⟩:=id hl;obtain⟨⟨bS,lE,data2,oE⟩,jG,iG,n2,hd2⟩:=id hl2;simp only at hc hd iG hd2;subst hc hd iG hd2;refine kZ ⟨_,ho,rfl⟩ ⟨_,jG,rfl⟩ noFill_list_add seq_list_add PySem.F.slot_list_add PySem.F.entry_list_add (PySem.F.args_list_add_2 _ _) (list_addW l b dA.toArray uL.toArray n n2 dd lE sl oE (by simp;lia)) ⟨ho,jG, ?_⟩;have ea:dA.toArray++uL.toArray=(dA++uL).toArray:=by simp
 rw[ea];exact⟨.ref _,_,I.C8 (t':=s.toks) (r.append r2) (by rw[oC];lia),rfl,q _ I.fresh⟩
def bPa:yC X (gF .FloorDiv) (rI (λ_ j=>0<j/\j<100000000000000000000000000000000000000000000000000000000000000000000000000000000) λi j=>.int (i / j)):=sT λi j _ _ _ _ _ hc q=>by
 have h1:(0:Int)<j:=hc.1;have h2:j<100000000000000000000000000000000000000000000000000000000000000000000000000000000:=hc.2;have h3:j.natAbs<2 ^ 300:=jF (by omega:j.natAbs<100000000000000000000000000000000000000000000000000000000000000000000000000000000) (by decide);have h4:j.natAbs.log2<300:=(Nat.log2_lt (by omega)).mpr h3;exact PyProof.Rows.floordiv_int (by omega) (by rw[mq i (by omega)];exact q) (.inl (PyProof.noPylong_of_log2 (by omega)))
def eB(e:none=some v):False:=nomatch e
def yOa:yC X (gF .Add) (λx y H Q=>∃a b ys,x=.ref a/\y=.ref b/\sC X.K H a []/\sC X.K H b ys/\Q (.ref b) H):=by
 intro aA s Y H x y v u Q I rx ry h;obtain⟨a,b,ys,rfl,rfl,ha,hb,q⟩:=h;cases rx;cases ry;obtain⟨dA,r1,p1,_⟩:=I.tuple ha;obtain⟨uL,r2,p2,_⟩:=I.tuple hb;have e0:dA=[]:=r1.aX.mpr rfl;subst e0;obtain⟨⟨cls,dd,data,sl⟩,ho,hc,n,hd⟩:=id p1;obtain⟨⟨bS,lE,data2,oE⟩,jG,iG,n2,hd2⟩:=id p2;simp only at hc hd iG hd2;subst hc hd iG hd2
 exact kZ ⟨_,ho,rfl⟩ ⟨_,jG,rfl⟩ Ic Yc Sb Rb (Mb _ _)
  (tuple_addW0 a b [].toArray uL.toArray n n2 dd lE sl oE rfl) ⟨ho,jG,⟨.ref b,H,I,rfl,q⟩⟩
def Dw{d e:D}{w:RV}(h:uC .Sub d e=some w):∃i j,d=.int i/\e=.int j/\w=.sh (.int (i-j)):=by
 induction d using D.casesOn with
 |int=>induction e using D.casesOn with
  |int=>cases h;exact⟨_,_,rfl,rfl,rfl⟩
  |_=>exact(eB h).elim
 |_=>exact(eB h).elim
def zw{d e:D}{w:RV}(h:uC .FloorDiv d e=some w):∃i j,d=.int i/\e=.int j/\(0<j/\j<100000000000000000000000000000000000000000000000000000000000000000000000000000000)/\w=.sh (.int (i / j)):=by
 induction d using D.casesOn with
 |int=>induction e using D.casesOn with
  |int =>
   change @ite _ _ (cl _) _ none=_ at h;split at h
   ·rename_i hc;cases h;exact⟨_,_,rfl,rfl,hc,rfl⟩
   ·cases h
  |_=>exact(eB h).elim
 |_=>exact(eB h).elim
def Bw{d e:D}{w:RV}(h:uC .Mod d e=some w):∃i j,d=.int i/\e=.int j/\0<j/\w=.sh (.int (i % j)):=by
 induction d using D.casesOn with
 |int=>induction e using D.casesOn with
  |int =>
   change @ite _ _ (cl _) _ none=_ at h;split at h
   ·rename_i hc;cases h;exact⟨_,_,rfl,rfl,hc,rfl⟩
   ·cases h
  |_=>exact(eB h).elim
 |_=>exact(eB h).elim
def Aw{d e:D}{w:RV}(h:uC .LShift d e=some w):∃i j,d=.int i/\e=.int j/\Nd i j/\w=.sh (.int (i*2 ^ j.toNat)):=by
 induction d using D.casesOn with
 |int=>induction e using D.casesOn with
  |int =>
   change @ite _ _ (cl _) _ none=_ at h;split at h
   ·rename_i hc;cases h;exact⟨_,_,rfl,rfl,⟨hc.1,by omega,hc.2.2⟩,rfl⟩
   ·cases h
  |_=>exact(eB h).elim
 |_=>exact(eB h).elim
def Cw{d e:D}{w:RV}(h:uC .RShift d e=some w):∃i j,d=.int i/\e=.int j/\0<=j/\w=.sh (.int (i / 2 ^ j.toNat)):=by
 induction d using D.casesOn with
 |int=>induction e using D.casesOn with
  |int =>
   change @ite _ _ (cl _) _ none=_ at h;split at h
   ·rename_i hc;cases h;exact⟨_,_,rfl,rfl,hc,rfl⟩
   ·cases h
  |_=>exact(eB h).elim
 |_=>exact(eB h).elim
def yw{d e:D}{w:RV}(h:uC .BitAnd d e=some w):∃i j,d=.int i/\e=.int j/\w=.sh (.int (wU i j)):=by
 induction d using D.casesOn with
 |int=>induction e using D.casesOn with
  |int=>cases h;exact⟨_,_,rfl,rfl,rfl⟩
  |_=>exact(eB h).elim
 |_=>exact(eB h).elim
def lV{op:zK}{P:Int->Int->Prop}{f:Int->Int->Int}{aA:List (fA×nB)}{s:qA}{Y:St}{H G:Hp}{x y:V}{v u:cA}{Q:VK}{d e:D}{w:RV}(h:yC X (gF op) (rI P λi j=>.int (f i j)))(I:eA X aA Y H s)(rx:aAe x v)(ry:aAe y u)(hx:JB X.K H G d x)(hy:JB X.K H G e y)(k:∀z H',aAH X.K H G w z H'->Q z H')(z:∃i j,d=.int i/\e=.int j/\P i j/\w=.sh (.int (f i j))) :
  nA (model X.prog X.w) X.A (gF op v u) (EP X aA Y Q) X.xe s:=by
 obtain⟨i,j,rfl,rfl,hp,rfl⟩:=z;exact h aA s Y H x y v u Q I rx ry ⟨i,j,hx.int,hy.int,hp,k _ _ aAn⟩
def Ge{op:zK}{f:Int->Int->Int}{aA:List (fA×nB)}{s:qA}{Y:St}{H G:Hp}{x y:V}{v u:cA}{Q:VK}{d e:D}{w:RV}(h:yC X (gF op) (gK λi j=>.int (f i j)))(I:eA X aA Y H s)(rx:aAe x v)(ry:aAe y u)(hx:JB X.K H G d x)(hy:JB X.K H G e y)(k:∀z H',aAH X.K H G w z H'->Q z H')(z:∃i j,d=.int i/\e=.int j/\w=.sh (.int (f i j))) :
  nA (model X.prog X.w) X.A (gF op v u) (EP X aA Y Q) X.xe s:=by
 obtain⟨i,j,rfl,rfl,rfl⟩:=z;exact h aA s Y H x y v u Q I rx ry ⟨i,j,hx.int,hy.int,k _ _ aAn⟩
def Lw(hK:X.K=K)(op:zK):yC X (gF op) (oUa K op):=by
 intro aA s Y H x y v u Q I rx ry h;obtain⟨G,d,e,w,sub,hx,hy,hm,eb,k⟩:=h;subst hK
 cases op with
 |Add =>
  induction d using D.casesOn with
  |int =>
   induction e using D.casesOn with
   |int =>
    cases hx.int;cases hy.int;change some _=_ at eb;cases eb;exact wOa aA s Y H _ _ _ _ Q I rx ry ⟨_,_,rfl,rfl,k _ _ aAn⟩
   |_=>exact(eB eb).elim
  |l xs =>
   induction e using D.casesOn with
   |l ys =>
    change (if GB (xs.length+ys.length) then some _ else none)=_ at eb;split at eb
    ·rename_i hz;cases eb;obtain⟨a,vs,rfl,h1,h2⟩:=hx.l sub;obtain⟨b,ws,rfl,h3,h4⟩:=hy.l sub;refine zOa aA s Y H _ _ _ _ Q I rx ry ⟨a,b,vs,ws,rfl,rfl,h1,h3, ?_,λp hp=>k _ _ (.inr (.inl ⟨_,_,p,rfl,hp,h2.app h4,rfl,rfl⟩))⟩;rw[h2.len,h4.len];exact NM hz
    ·cases eb
   |_=>exact(eB eb).elim
  |t xs =>
   cases xs with
   |nil =>
    induction e using D.casesOn with
    |t Gb =>
     change some _=_ at eb;cases eb;have MS:=hy;obtain⟨a,vs,rfl,h1,h2⟩:=hx.t sub;obtain⟨b,ws,rfl,h3,h4⟩:=hy.t sub;have e1:vs=[]:=vq.mp h2.len;subst e1;refine yOa aA s Y H _ _ _ _ Q I rx ry ⟨a,b,ws,rfl,rfl,h1,h3, ?_⟩;rcases MS with MS | ⟨_,_,MS⟩
     ·exact k _ _ (.inl ⟨_,rfl,MS,rfl⟩)
     ·exact MS.elim
    |_=>exact(eB eb).elim
   |cons x0 xs0 =>
    induction e using D.casesOn with
    |t Gb =>
     change (if GB (xs0.length+1+Gb.length) then some _ else none)=_ at eb;split at eb
     ·rename_i hz;cases eb;have LS:=hx;obtain⟨a,vs,rfl,h1,h2⟩:=hx.t sub;obtain⟨b,ws,rfl,h3,h4⟩:=hy.t sub;have e1:=h2.len;have e2:=h4.len;refine aPa aA s Y H _ _ _ _ Q I rx ry ⟨a,b,vs,ws,rfl,rfl,h1,h3, ?_, ?_,λhw=>?_,λhw p hp=>?_⟩
      ·intro z;subst z;simp at e1
      ·rw[e1,e2];exact NM hz
      ·subst hw;have e3:Gb=[]:=vq.mp e2.symm;subst e3;rcases LS with LS | ⟨_,_,LS⟩
       ·exact k _ _ (.inl ⟨_,rfl,by simpa using LS,rfl⟩)
       ·exact LS.elim
      ·exact k _ _ (L8 ⟨_,_,p,rfl,hp,h2.app h4,rfl,rfl⟩)
     ·cases eb
    |_=>exact(eB eb).elim
  |_=>exact(eB eb).elim
 |Sub=>exact Ge oPa I rx ry hx hy k (Dw eb)
 |Mult =>
  induction d using D.casesOn with
  |int =>
   induction e using D.casesOn with
   |int =>
    cases hx.int;cases hy.int;change @ite _ _ (cl _) _ none=_ at eb;split at eb
    ·cases eb;exact jPa aA s Y H _ _ _ _ Q I rx ry ⟨_,_,rfl,rfl,‹_›,k _ _ aAn⟩
    ·cases eb
   |_=>exact(eB eb).elim
  |l xs =>
   induction e using D.casesOn with
   |int kk =>
    change @ite _ (-(2 ^ 31)<=kk/\kk<=1000/\GB (xs.length*kk.toNat)) (cl _) _ none=_ at eb;split at eb
    ·rename_i hc;cases eb;cases hy.int;obtain⟨a,vs,rfl,h1,h2⟩:=hm rfl _ rfl;refine lPa aA s Y H _ _ _ _ Q I rx ry ⟨a,_,vs,rfl,rfl,h1,by omega,by omega, ?_,λp hp=>k _ _ (.inr (.inl ⟨_,_,p,rfl,hp,h2.rep _,rfl,rfl⟩))⟩;rw[h2.len];exact NM hc.2.2
    ·cases eb
   |_=>exact(eB eb).elim
  |_=>exact(eB eb).elim
 |FloorDiv=>exact lV bPa I rx ry hx hy k (zw eb)
 |Mod=>exact lV iPa I rx ry hx hy k (Bw eb)
 |Pow=>exact(eB eb).elim
 |LShift=>exact lV mPa I rx ry hx hy k (Aw eb)
 |RShift=>exact lV nPa I rx ry hx hy k (Cw eb)
 |BitAnd=>exact Ge xOa I rx ry hx hy k (yw eb)
 |BitOr=>exact(eB eb).elim
 |_=>exact(eB eb).elim
def IT(K:gA)(op:RG):R2:=λx y H Q=>∃G d e b,bB G H/\JB K H G d x/\JB K H G e y/\wB op d e=some b/\Q (.bl b) H
def KP(h:jA K G d x)(f:CD d=true):NJ x=true/\∀(e:D) (y:V),jA K G e y->CD e=true->ZK y x=pF e d:=by
 cases d<;>simp only[CD,wG] at f<;>simp only[jA] at h
 ·subst h;refine⟨rfl,λe y hy fe=>?_⟩;cases e<;>simp only[CD,wG] at fe<;>simp only[jA] at hy<;>(first | subst hy | (obtain⟨rfl,_⟩:=hy))<;>rfl
 ·subst h;refine⟨rfl,λe y hy fe=>?_⟩;cases e<;>simp only[CD,wG] at fe<;>simp only[jA] at hy<;>(first | subst hy | (obtain⟨rfl,_⟩:=hy))<;>rfl
 ·subst h;refine⟨rfl,λe y hy fe=>?_⟩;cases e<;>simp only[CD,wG] at fe<;>simp only[jA] at hy<;>(first | subst hy | (obtain⟨rfl,_⟩:=hy))<;>rfl
 ·obtain⟨rfl,_⟩:=h;refine⟨rfl,λe y hy fe=>?_⟩;cases e<;>simp only[CD,wG] at fe<;>simp only[jA] at hy<;>(first | subst hy | (obtain⟨rfl,_⟩:=hy))<;>rfl
def JB.flat(h:JB K H G d x)(f:CD d=true):jA K G d x:=by
 rcases h with h | ⟨a,rfl,h⟩
 ·exact h
 ·cases d<;>first | exact h.elim | cases f
theorem RS(h:jA K G d x)(f:CD d=true):∀{ds:List D} {vs:List V},iA K G ds vs->ds.all CD=true->vs.all NJ=true/\BW x vs=inD d ds
 |[],vs,h2,_=>by simp only[iA] at h2;subst h2;exact⟨rfl,rfl⟩
 |e::ds,vs,h2,fs=>by
  simp only[iA] at h2;obtain⟨y,r,rfl,h3,h4⟩:=h2;rw[WC,WA] at fs;obtain⟨a1,a2⟩:=RS h f h4 fs.2;obtain⟨b1,_⟩:=KP h3 fs.1;have b2:=(KP h f).2 e y h3 fs.1;refine⟨by rw[WC,b1,a1];rfl, ?_⟩
  unfold BW inD at *
  rw[ZO,ZO,a2,b2]
def Cm(I:eA X aA Y H s)(hK:X.K=K)(sub:bB G H)(hu:A.units+20<cLine)(od:eC 20 d=true)(oe:eC 20 e=true)(hx:JB K H G d x)(hy:JB K H G e y)(rx:aAe x v)(ry:aAe y u) :
  SeqAt.RcAt A s v u (pF d e)/\SeqAt.RcNeAt A s v u (!pF d e):=by
 obtain⟨as,a1,a2,a3⟩:=Em I hK sub 20 d x v od hx rx;obtain⟨bs,b1,b2,b3⟩:=Em I hK sub 20 e y u oe hy ry;rw[<- Wf 20 d e od oe];exact⟨xU a1 b1 a2 b2 (by lia),SeqAt.rcNeAt_reads a1 b1 a2 b2 (by lia)⟩
def Th{ds:List D}:∀{ns:List Int},IE ds=some ns->ds=ns.map D.int:=by
 induction ds with
 |nil=>intro ns h;cases h;rfl
 |cons d r ih =>
  intro ns h
  induction d using D.casesOn with
  |int i =>
   replace h:(IE r).map (i :: ·)=some ns:=h
   cases q:IE r with
   |none=>rw[q] at h;cases h
   |some ms =>
    rw[q] at h;cases h;rw[KC,<- ih q]
  |_=>cases h
theorem iA.ints:∀{ns:List Int} {vs:List V},iA K G (ns.map D.int) vs->vs=ns.map V.int
 |[],vs,h=>by simp only[kN,iA] at h;exact h
 |n::ns,vs,h=>by(simp only[KC,iA] at h;obtain⟨v,r,rfl,h1,h2⟩:=h;simp only[jA] at h1;rw[h1,iA.ints h2];rfl)
def P9(h:iK d=some k):d=YC k:=by
 unfold iK at h;split at h
 ·rename_i t ds
  cases q:IE ds with
  |none=>rw[q] at h;cases h
  |some ns =>
   rw[q] at h;cases h;rw[Th q];rfl
 ·cases h
def lXa(h:nE d=some k):d=RI k:=by
 have one:∀{d:D},(iK d).map Sum.inl=some k->d=RI k:=λ{d} h=>by(obtain⟨x,h1,rfl⟩:=VF.mp h;exact P9 h1)
 unfold nE at h;split at h
 ·rename_i a b
  cases q:iK (.t a) with
  |none=>rw[q] at h;cases h
  |some x =>
   rw[q] at h;obtain⟨y,h1,rfl⟩:=VF.mp h;rw[P9 q,P9 h1];rfl
 ·exact one h
def Q9(h:jA K G (YC k) x):∃b,x=.ref b/\bH K G k b:=by
 simp only[YC,jA,iA] at h;obtain⟨a,vs,rfl,h1,v1,r1,rfl,rfl,v2,r2,rfl,⟨c,ws,rfl,h2,h3⟩,rfl⟩:=h;rw[iA.ints h3] at h2;exact⟨a,rfl,c,h1,h2⟩
def gT(hk:nE d=some k)(h:JB K H G d x):∃b,x=.ref b/\rC K G k b:=by
 rw[lXa hk] at h
 cases k with
 |inl k =>
  rcases h with h | ⟨_,_,h⟩
  ·exact Q9 h
  ·exact h.elim
 |inr k =>
  rcases h with h | ⟨_,_,h⟩
  ·replace h:jA K G (.t [YC k.1,YC k.2]) x:=h;simp only[jA,iA] at h;obtain⟨a,vs,rfl,h1,v1,r1,rfl,h2,v2,r2,rfl,h3,rfl⟩:=h;obtain⟨b,rfl,g2⟩:=Q9 h2;obtain⟨c,rfl,g3⟩:=Q9 h3;exact⟨a,rfl,b,c,h1,g2,g3⟩
  ·exact h.elim
theorem Mm:∀(ns:List Int),iA K G (ns.map D.int) (ns.map V.int)
 |[]=>iA.nil
 |n::ns=>iA.cons (by simp only[jA]) (Mm ns)
def C9(h:bH K G k b):jA K G (YC k) (.ref b):=by
 obtain⟨c,h1,h2⟩:=h;simp only[YC,jA];exact⟨b,_,rfl,h1,iA.cons (by simp only[jA]) (iA.cons (by simp only[jA];exact⟨c,_,rfl,h2,Mm _⟩) iA.nil)⟩
theorem Hm:∀{k:cC} {b:fA},rC K G k b->jA K G (RI k) (.ref b)
 |.inl k,b,h=>C9 h
 |.inr k,b,h=>by(obtain⟨c,d,h1,h2,h3⟩:=h;show jA K G (.t [YC k.1,YC k.2]) _;simp only[jA];exact⟨b,_,rfl,h1,iA.cons (C9 h2) (iA.cons (C9 h3) iA.nil)⟩)
theorem D9:∀{xs:cH},(∀x∈xs,rC K G x.1 x.2.1)->iA K G ((xs.map (·.1)).map RI) (xs.map λx=>.ref x.2.1)
 |[],_=>iA.nil
 |x::xs,h=>iA.cons (Hm (h x (.head _))) (D9 λy hy=>h y (.tail _ hy))
theorem JB.GC{ds:List D}{x:V}(h:JB K H G (.GC ds) x)(sub:bB G H):∃a ws,x=.ref a/\EB K H a ws/\ws.length=ds.length:=by
 rcases h with h | ⟨_,_,h⟩
 ·simp only[jA] at h;obtain⟨a,ws,vs,rfl,h1,p,h2⟩:=h;exact⟨a,ws,rfl,sub.seq h1,p.1.trans h2.len⟩
 ·exact h.elim
theorem JB.EG(h:JB K H G (.EG ks ds) x)(sub:bB G H):∃a vs,x=.ref a/\H a=some (.dK (WK ks vs))/\iA K G ds vs/\ks.length=ds.length:=by
 rcases h with h | ⟨_,_,h⟩
 ·simp only[jA] at h;obtain⟨a,vs,rfl,h1,h2⟩:=h;exact⟨a,vs,rfl,sub _ _ h1,h2⟩
 ·exact h.elim
theorem D8(k:Int):∀{ks:List Int} {ds:List D} {vs:List V},iA K G ds vs->ks.length=ds.length->(VH (WK ks vs) (.inl k)=none/\wL ks ds k=none)\/∃d v,VH (WK ks vs) (.inl k)=some v/\wL ks ds k=some d/\jA K G d v
 |[],_,_,_,_=>.inl ⟨rfl,rfl⟩
 |a::ks,[],_,_,z=>by cases z
 |a::ks,d::ds,_,h,z=>by
  simp only[iA] at h;obtain⟨v,r,rfl,h1,h2⟩:=h;have ih:=D8 k h2 (mZ z);by_cases e:a=k
  ·exact .inr ⟨d,v,Jp (p:=(Sum.inl a,v)) (r:=WK ks r) (congrArg Sum.inl e),by simp[wL,e],h1⟩
  ·have e1:VH (WK (a::ks) (v::r)) (.inl k)=VH (WK ks r) (.inl k):=Ip (p:=(Sum.inl a,v)) (r:=WK ks r) (λz=>e (Ct z));have e2:wL (a::ks) (d::ds) k=wL ks ds k:=by simp[wL,e]
   rw[e1,e2];exact ih
def uJa(h:iA K G ds vs)(z:ks.length=ds.length):(VH (WK ks vs) (.inl k)).isSome=(wL ks ds k).isSome:=by
 rcases D8 k h z with ⟨h1,h2⟩ | ⟨d,v,h1,h2,_⟩<;>rw[h1,h2]<;>rfl
abbrev pP(K:gA)(G:Hp)(ks:List cC)(ds:List D)(xs:cH):Prop:=xs.map (·.1)=ks/\∃vs,aAc vs (xs.map (·.2.2))/\iA K G ds vs
theorem JB.ZA(h:JB K H G (.ZA ks ds) x)(sub:bB G H):∃a xs,x=.ref a/\DS K H a xs/\pP K G ks ds xs/\∀x∈xs,rC K G x.1 x.2.1:=by
 have go:∀{a xs vs},QU H a xs->rN K G a ks vs xs->iA K G ds vs->DS K H a xs/\pP K G ks ds xs/\∀x∈xs,rC K G x.1 x.2.1:=λh1 h2 h3=>⟨⟨h1,h2.1,h2.2.1,h2.2.2.1,λx hx=>rC.mono sub (h2.2.2.2.1 x hx)⟩,⟨h2.2.2.2.2.1,_,h2.2.2.2.2.2,h3⟩,h2.2.2.2.1⟩
 rcases h with h | ⟨a,rfl,xs,vs,h1,h2,h3⟩
 ·simp only[jA] at h;obtain⟨a,xs,vs,rfl,⟨ep,h1⟩,h2,h3⟩:=h;exact⟨a,xs,rfl,go ⟨ep,sub _ _ h1⟩ h2 h3⟩
 ·exact⟨a,xs,rfl,go h1 h2 h3⟩
theorem Pj:∀{xs:cH} {ks:List cC} {ds:List D},pP K G ks ds xs->(atKey xs k=none/\cK ks ds k=none)\/∃p d v,atKey xs k=some p/\cK ks ds k=some d/\aAe v p.2/\jA K G d v
 |[],_,_,⟨rfl,_⟩=>.inl ⟨rfl,rfl⟩
 |q::xs,_,ds,⟨rfl,vs,h1,h2⟩=>by
  cases h1 with
  | @cons v u vs us h1 t1 =>
   obtain _ | ⟨d,ds⟩:=ds
   ·simp only[iA] at h2;cases h2
   ·simp only[iA] at h2;obtain⟨v',r,e,h3,h4⟩:=h2;cases e;have ih:=Pj (k:=k) (ks:=xs.map (·.1)) ⟨rfl,_,t1,h4⟩;unfold atKey cK at ih ⊢;rw[KC,aN,fN,fN];by_cases e:q.1=k
    ·rw[jC e];exact .inr ⟨_,_,_,rfl,rfl,h1,h3⟩
    ·rw[WB e];exact ih
theorem I0:∀(xs:cH),(atKey xs k).isSome=XI (xs.map (·.1)) k
 |[]=>rfl
 |q::xs=>by
  have ih:=I0 (k:=k) xs;unfold atKey XI at ih ⊢;rw[KC,fN,ZO];by_cases e:q.1=k
  ·rw[jC e];rfl
  ·rw[WB e];exact ih
def Qj(r:pP K G ks ds xs)(k:cC):(atKey xs k).isSome=XI ks k:=by rw[<- r.1];exact I0 xs
theorem om(hv:aAe v u)(hd:jA K G d v):∀{xs:cH} {ds:List D} {vs:List V},aAc vs (xs.map (·.2.2))->iA K G ds vs ->
  (xs.map (putAt k u)).map (·.1)=xs.map (·.1)/\∃ws,aAc ws ((xs.map (putAt k u)).map (·.2.2))/\iA K G (((xs.map (·.1)).zip ds).map λp=>if p.1=k then d else p.2) ws
 |[],ds,vs,h1,h2=>⟨rfl,[],.nil,by simp[iA]⟩
 |q::xs,ds,vs,h1,h2=>by
  cases h1 with
  | @cons v0 u0 vs us h1 t1 =>
   obtain _ | ⟨d0,ds⟩:=ds
   ·simp only[iA] at h2;cases h2
   ·simp only[iA] at h2;obtain⟨v',r,e,h3,h4⟩:=h2;cases e;obtain⟨g1,ws,g2,g3⟩:=om hv hd t1 h4;rw[KC,KC,KC,KC,aN,KC,g1];unfold putAt;by_cases e:q.1=k
    ·rw[GA e];exact⟨rfl,v::ws,.cons hv g2,iA.cons (by rw[GA e];exact hd) g3⟩
    ·rw[LA e];exact⟨rfl,_::ws,.cons h1 g2,iA.cons (by rw[LA e];exact h3) g3⟩
def aAc.snoc(h:aAc vs us)(hv:aAe v u):aAc (vs++[v]) (us++[u]):=h.append (.cons hv .nil)
def iUa(r:pP K G ks ds xs)(hv:aAe v u)(hd:jA K G d v):pP K G (qO ks k) (rO ks ds k d) (storedH xs k b u):=by
 obtain⟨rfl,vs,h1,h2⟩:=r;unfold qO rO storedH;rw[<- I0 xs];split
 ·exact om hv hd h1 h2
 ·refine⟨by rw[CF];rfl,_, ?_,iA.app h2 (iA.cons hd iA.nil)⟩;rw[CF];exact aAc.snoc h1 hv
def Kj{us:List cA}{ns:List Int}(h:IntsAre us ns):∀i:Nat,(us[i]?=none/\us.length<=i/\ns.drop i=[])\/∃n t,us[i]?=some (.int n t)/\i<us.length/\ns.drop i=n::ns.drop (i+1):=by
 induction h with
 |nil=>exact λi=>.inl ⟨by simp,tJ _,by simp⟩
 |cons a t h ih =>
  intro i
  cases i with
  |zero=>exact .inr ⟨a,t,rfl,Nat.succ_pos _,rfl⟩
  |succ i =>
   rcases ih i with ⟨h1,h2,h3⟩ | ⟨n,u,h1,h2,h3⟩
   ·exact .inl ⟨by simpa using h1,SO h2,h3⟩
   ·exact .inr ⟨n,u,by simpa using h1,Nat.succ_lt_succ h2,h3⟩
section
open PySem.AutoSeq1 (wpAny_loadPart')
open PySem.MeetsSeq3
theorem Oj{l b:fA}{us ws:List cA}{n n2:Nat}{dd lE:Option fA}{sl oE:Array (Option cA)}{ns ms:List Int}(hi:IntsAre us ns)(hj:IntsAre ws ms) :
  ∀(k i:Nat),us.length<i+k->i<=us.length->i<=ws.length->iP (sH.«list.__eq__.loop» ⟨[.ref l,.ref b,rawInt i,rawInt 1],[]⟩)
   (λ_ R s=>s.heap.get? l=some { cls:=.type "list",dict:=dd,data:=.seq us.toArray n,slots:=sl }/\s.heap.get? b=some { cls:=.type "list",dict:=lE,data:=.seq ws.toArray n2,slots:=oE } /\
    R (.ok (.ret (.bool (!HT.aAj (ms.drop i) (ns.drop i))))) s)
 | 0,i,hk,h1,_=>by lia
 |k+1,i,hk,z1,z2=>by
  intro prog w A R s h;obtain⟨hp,g,d,tk,os⟩:=s;obtain⟨hl,hb,h⟩:=h
  wp_walk using vH hl,vH hb
  have e1:us.toArray[((i:Nat):Int).toNat]?=us[i]?:=by simp
  have e2:ws.toArray[((i:Nat):Int).toNat]?=ws[i]?:=by simp
  rw[e1,e2];rcases Kj hi i with ⟨a1,a2,a3⟩ | ⟨x,t,a1,a2,a3⟩<;>rcases Kj hj i with ⟨b1,b2,b3⟩ | ⟨y,u,b1,b2,b3⟩<;>rw[a3,b3] at h<;>rw[a1,b1]
  iterate 3
   ·wp_walk using vH hl,vH hb
    refine cast (congrArg (λc=>R (.ok (.ret (.bool c))) _) ?_) h;show(!HT.aAj _ _)=decide (us.toArray.size<=ws.toArray.size);rw[mD,mD]
    symm
    first
     |exact WB (by lia)
     |exact jC (by lia)
  ·obtain⟨e,he,mL⟩:=HT.AV A.in1 ⟨hp,g,d,tk,os⟩ x t y u;refine kA (he prog w _ _ ?_);rw[HT.EM] at h
   cases e with
   |true =>
    rw[GA (mL.mp rfl).symm] at h
    wp_walk
    exact⟨plainId_quiet plain_eq_loop _,AU entry_eq_loop (by
     rw[Qq plain_eq_loop _]
     exact Oj hi hj k (i+1) (by lia) a2 b2 prog w A R _ ⟨hl,hb,h⟩)⟩
   |false =>
    rw[LA (λq=>absurd (mL.mpr q.symm) SD)] at h
    wp_walk using vH hl,vH hb
    rw[e1,e2,a1,b1];have dJ:∀(E:cA->qA->Prop) (Q:cA->qA->Prop),Q (.bool (decide (x<=y))) ⟨hp,g,d,tk,os⟩->nA (model prog w) A.in1 (richCompare .LtE (.int x t) (.int y u)) Q E ⟨hp,g,d,tk,os⟩:=λE Q h=>Qc h
    wp_walk using dJ
    refine cast (congrArg (λc=>R (.ok (.ret (.bool c))) _) ?_) h;by_cases z:y<x<;>simp[z]<;>lia
def sJa{l b:fA}{us ws:List cA}{n n2:Nat}{dd lE:Option fA}{sl oE:Array (Option cA)}{ns ms:List Int}(hi:IntsAre us ns)(hj:IntsAre ws ms) :
  iP (sH.«list.__le__» ⟨[.ref l,.ref b],[]⟩)
   (λ_ R s=>s.heap.get? l=some { cls:=.type "list",dict:=dd,data:=.seq us.toArray n,slots:=sl }/\s.heap.get? b=some { cls:=.type "list",dict:=lE,data:=.seq ws.toArray n2,slots:=oE } /\
    R (.ok (.ret (.bool (!HT.aAj ms ns)))) s):=by
 intro prog w A R s h;obtain⟨hp,g,d,tk,os⟩:=s;obtain⟨hl,hb,h⟩:=h;have f3:=AutoSeq1.sub_list_list
 wp_walk using vH hl,vH hb
 exact⟨plainId_quiet plain_eq_loop _,AU entry_eq_loop (by
  rw[Qq plain_eq_loop _]
  exact Oj hi hj (us.length+1) 0 (by lia) (tJ _) (tJ _) prog w A R _ ⟨hl,hb,h⟩)⟩
def s0a(l b:fA)(x y:Int)(t u:kF)(v v':cA)(n n2:Nat)(dd lE:Option fA)(sl oE:Array (Option cA))(e r:Bool) :
  iP (sH.«tuple.__le__» ⟨[.ref l,.ref b],[]⟩)
   (λA R s=>s.heap.get? l=some { cls:=.type "tuple",dict:=dd,data:=.seq #[.int x t,v] n,slots:=sl }/\s.heap.get? b=some { cls:=.type "tuple",dict:=lE,data:=.seq #[.int y u,v'] n2,slots:=oE } /\
    xZ A.in1 s v v' e/\(e=false->CS.de .LtE A.in1 s v v' r)/\R (.ok (.ret (.bool (if x=y then e||r else decide (x<=y))))) s) :=
 .of_wp λprog w A R s h=>by
  obtain⟨hp,g,d,tk,os⟩:=s;obtain⟨hl,hb,he,hr,h⟩:=h;have f2:=Lb
  wp_walk using vH hl,vH hb,Hc _ (λaAk b s'=>b.1=none/\s'=⟨hp,g,d,tk,os⟩/\(aAk=[(.int x t,.int y u),(v,v')]\/aAk=[(v,v')]/\x=y\/aAk=[]/\x=y/\e=true)) _
  case turn =>
   rintro⟨y',x'⟩ aAk b s' ⟨jD,rfl,hz⟩
   rcases hz with hz | ⟨hz,rfl⟩ | ⟨hz,_⟩
   ·cases hz;obtain⟨e1,V5,mL⟩:=HT.AV A.in1 ⟨hp,g,d,tk,os⟩ x t y u;refine kA (V5 prog w _ _ ?_)
    cases e1 with
    |true =>
     wp_walk
     exact⟨rfl,rfl,.inr (.inl ⟨rfl,mL.mp rfl⟩)⟩
    |false =>
     rw[LA (λq=>absurd (mL.mpr q) SD)] at h;have dJ:∀(E:cA->qA->Prop) (Q:cA->qA->Prop),Q (.bool (decide (x<=y))) ⟨hp,g,d,tk,os⟩->nA (model prog w) A.in1 (richCompare .LtE (.int x t) (.int y u)) Q E ⟨hp,g,d,tk,os⟩:=λE Q h=>Qc h
     wp_walk using dJ
     exact⟨_,rfl,by simpa using h⟩
   ·cases hz;refine kA (he prog w _ _ ?_)
    cases e with
    |true =>
     wp_walk
     exact⟨rfl,rfl,.inr (.inr ⟨rfl,rfl,rfl⟩)⟩
    |false =>
     rw[GA rfl] at h;have dJ:=hr rfl prog w
     wp_walk using dJ
     exact⟨_,rfl,by simpa using h⟩
   ·cases hz
  case fin =>
   rintro⟨b1,b2⟩ s' ⟨jD,rfl,hz⟩
   simp only at jD;subst jD;rcases hz with hz | ⟨hz,_⟩ | ⟨_,hz,rfl⟩
   ·cases hz
   ·cases hz
   ·rw[GA hz] at h
    wp_walk
    exact⟨_,rfl,by simpa[iq] using h⟩
  case h=>exact⟨rfl,rfl,.inl rfl⟩
end
def Ph{x:List D}{p:Int×List Int}(h:xM x=some p):x=[.int p.1,.l (p.2.map .int)]:=by
 unfold xM at h;split at h
 ·obtain⟨ns,q,rfl⟩:=VF.mp h;rw[Th q]
 ·cases h
def uUa(K:gA):R2:=λx y H Q=>∃(a b a2 b2:fA) (p q:Int×List Int),x=.ref a/\y=.ref b/\sC K H a [.int p.1,.ref a2]/\sC K H b [.int q.1,.ref b2]/\EB K H a2 (p.2.map V.int)/\EB K H b2 (q.2.map V.int)/\Q (.bl (if p.1=q.1 then !HT.aAj q.2 p.2 else decide (p.1<=q.1))) H
def gPa(hu:X.A.units+20<cLine):yC X (bE .LtE) (uUa X.K):=by
 intro aA s Y H x y v u Q I rx ry h;obtain⟨a,b,a2,b2,p,q,rfl,rfl,ha,hb,ha2,S5,k⟩:=h;cases rx;cases ry;obtain⟨us,r1,⟨⟨cls,dd,data,sl⟩,h1,c1,n,d1⟩,_⟩:=I.tuple ha;obtain⟨ws,r2,⟨⟨bS,lE,data2,oE⟩,h2,c2,n2,d2⟩,_⟩:=I.tuple hb;obtain⟨us3,r3,⟨⟨h4a,dd3,data3,jK⟩,n3,h3,c3,_,d3⟩,_⟩:=I.list ha2;obtain⟨us4,r4,⟨⟨i4a,dd4,k4a,sl4⟩,n4,h4,c4,_,d4⟩,_⟩:=I.list S5;obtain⟨_,_,rfl,⟨t1,rfl⟩,w1⟩:=aAF r1;obtain⟨_,_,rfl,⟨t2,rfl⟩,w2⟩:=aAF r2;cases w1;cases w2;cases c1;cases c2;cases c3;cases c4;cases d1;cases d2;cases d3;cases d4;have i3:=aAM r3;have i4:=aAM r4;obtain⟨as3,z3⟩:=CS.US (h:=s.heap) i3;obtain⟨as4,z4⟩:=CS.US (h:=s.heap) i4
 have e:(if p.1=q.1 then decide (p.2=q.2) || !HT.aAj q.2 p.2 else decide (p.1<=q.1))=if p.1=q.1 then !HT.aAj q.2 p.2 else decide (p.1<=q.1):=by
  by_cases z:p.2=q.2
  ·rw[z,CS.MW];simp
  ·rw[WB z];rfl
 exact BY (op:=.LtE) ⟨_,h1,rfl⟩ ⟨_,h2,rfl⟩ PySem.F.slot_tuple_le PySem.F.entry_tuple_le (PySem.F.args_tuple_le_2 _ _) (s0a a b p.1 q.1 t1 t2 (.ref a2) (.ref b2) n n2 dd lE sl oE (decide (p.2=q.2)) (!HT.aAj q.2 p.2))
  ⟨h1,h2,λ_ _ _ _ hq=>BV (λz=>jC (by
    subst z;rw[h3] at h4;cases h4
    exact CS.IntsAre.one i3 i4)) (by
     have dp:=L2.b9 (ns:=p.2)
     have:(PyData.list (p.2.map .int)).eqv (.list (q.2.map .int))=decide (p.2=q.2):=by simp only[PL,L2.nX]
     rw[<- this];refine xU (.list h3 rfl rfl z3) (.list h4 rfl rfl z4) ?_ ?_ ?_
     ·simp[xG,L2.vT]
     ·simp[xG,L2.vT]
     ·simp only[zH];show X.A.units+1+_<_
      omega) hq,
   λ_ _ _ _ _ hq=>BY (op:=.LtE) ⟨_,h3,rfl⟩ ⟨_,h4,rfl⟩ PySem.F.slot_list_le PySem.F.entry_list_le (PySem.F.args_list_le_2 _ _) (sJa i3 i4) ⟨h3,h4,show Value.bool _≠Value.notImplemented/\_ from⟨(λx=>nomatch x),hq⟩⟩ (by show X.A.units+1<_;omega),
   show Value.bool _≠Value.notImplemented/\_ from⟨(λx=>nomatch x),by rw[e];exact⟨.bl _,H,I,rfl,k⟩⟩⟩ (by omega)
def Im{H G:Hp}{d:D}{x:V}(h:JB K H G d x):decide (x=.lA)=P8 d:=by
 rcases h with h | ⟨a,rfl,h⟩
 ·induction d using D.casesOn with
  |lA=>simp only[jA] at h;subst h;rfl
  |bl=>simp only[jA] at h;subst h;rfl
  |int=>simp only[jA] at h;subst h;rfl
  |str=>simp only[jA] at h;rw[h.1];rfl
  |t=>simp only[jA] at h;obtain⟨a,_,rfl,_⟩:=h;rfl
  |l=>simp only[jA] at h;obtain⟨a,_,rfl,_⟩:=h;rfl
  |_=>simp only[jA] at h;first | exact h.elim | (obtain⟨_,h⟩:=h;first | (obtain⟨rfl,_⟩:=h;rfl) | (obtain⟨_,h⟩:=h;first | (obtain⟨rfl,_⟩:=h;rfl) | (obtain⟨_,h⟩:=h;first | (obtain⟨rfl,_⟩:=h;rfl) | (obtain⟨_,rfl,_⟩:=h;rfl))))
 ·induction d using D.casesOn with
  |lA=>exact h.elim
  |_=>rfl
def nEa{q b:Bool}{d:D}(h:j7 q d=some b):∃p,d=.bl p/\b=(p==q):=by
 induction d using D.casesOn with
 |bl p=>cases h;exact⟨p,rfl,rfl⟩
 |_=>exact(eB h).elim
def aKa{d e:D}{b:Bool}(h:wB .Lt d e=some b):∃i j,d=.int i/\e=.int j/\b=decide (i<j):=by
 cases d with
 |int=>cases e with
  |int=>cases h;exact⟨_,_,rfl,rfl,rfl⟩
  |_=>exact(eB h).elim
 |_=>exact(eB h).elim
def cJa{d e:D}{b:Bool}(h:wB .LtE d e=some b):(∃i j,d=.int i/\e=.int j/\b=decide (i<=j))\/∃x y,d=.t x/\e=.t y:=by
 induction d using D.casesOn with
 |int=>induction e using D.casesOn with
  |int=>cases h;exact .inl ⟨_,_,rfl,rfl,rfl⟩
  |_=>exact(eB h).elim
 |t=>induction e using D.casesOn with
  |t=>exact .inr ⟨_,_,rfl,rfl⟩
  |_=>exact(eB h).elim
 |_=>exact(eB h).elim
def rAa{d e:D}{b:Bool}(h:wB .Gt d e=some b):∃i j,d=.int i/\e=.int j/\b=decide (j<i):=by
 induction d using D.casesOn with
 |int=>induction e using D.casesOn with
  |int=>cases h;exact⟨_,_,rfl,rfl,rfl⟩
  |_=>exact(eB h).elim
 |_=>exact(eB h).elim
def iAa{d e:D}{b:Bool}(h:wB .GtE d e=some b):∃i j,d=.int i/\e=.int j/\b=decide (j<=i):=by
 induction d using D.casesOn with
 |int=>induction e using D.casesOn with
  |int=>cases h;exact⟨_,_,rfl,rfl,rfl⟩
  |_=>exact(eB h).elim
 |_=>exact(eB h).elim
def sV{op:RG}{f:Int->Int->Bool}{aA:List (fA×nB)}{s:qA}{Y:St}{H G:Hp}{x y:V}{v u:cA}{Q:VK}{d e:D}{b:Bool}(h:yC X (bE op) (λx y H Q=>∃i j,x=.int i/\y=.int j/\Q (.bl (f i j)) H))(I:eA X aA Y H s)(rx:aAe x v)(ry:aAe y u)(hx:JB K H G d x)(hy:JB K H G e y)(k:Q (.bl b) H)(z:∃i j,d=.int i/\e=.int j/\b=f i j) :
  nA (model X.prog X.w) X.A (bE op v u) (EP X aA Y Q) X.xe s:=by
 obtain⟨i,j,rfl,rfl,rfl⟩:=z;exact h aA s Y H x y v u Q I rx ry ⟨i,j,hx.int,hy.int,k⟩
def zP(hK:X.K=K)(hu:X.A.units+64<cLine)(op:RG):yC X (bE op) (IT K op):=by
 intro aA s Y H x y v u Q I rx ry h;obtain⟨G,d,e,b,sub,hx,hy,eb,k⟩:=h
 cases op with
 |Eq =>
  change (if eC 20 d&&eC 20 e then some _ else none)=_ at eb;split at eb
  ·rename_i hc;cases eb;rw[WA] at hc;exact(Cm I hK sub (by lia) hc.1 hc.2 hx hy rx ry).1 _ _ _ _ ⟨.bl _,H,I,rfl,k⟩
  ·cases eb
 |NotEq =>
  change (if eC 20 d&&eC 20 e then some _ else none)=_ at eb;split at eb
  ·rename_i hc;cases eb;rw[WA] at hc;exact(Cm I hK sub (by lia) hc.1 hc.2 hx hy rx ry).2 _ _ _ _ ⟨.bl _,H,I,rfl,k⟩
  ·cases eb
 |Lt =>
  exact sV hPa I rx ry hx hy k (aKa eb)
 |LtE =>
  rcases cJa eb with z | ⟨_,_,rfl,rfl⟩
  ·exact sV fPa I rx ry hx hy k z
  ·obtain⟨p,h1,eb⟩:=zJ.mp eb;obtain⟨q,h2,rfl⟩:=VF.mp eb;cases Ph h1;cases Ph h2;obtain⟨a,vs,rfl,g1,hx⟩:=hx.t sub;obtain⟨b,ws,rfl,f1,hy⟩:=hy.t sub;simp only[iA,jA] at hx hy;obtain⟨v1,y1,rfl,rfl,v2,y2,rfl,⟨a2,vs2,rfl,g2,g3⟩,rfl⟩:=hx;obtain⟨w1,y1,rfl,rfl,w2,y2,rfl,⟨b2,ws2,rfl,f2,f3⟩,rfl⟩:=hy;cases g3.ints;cases f3.ints;exact gPa (by lia) aA s Y H _ _ _ _ Q I rx ry ⟨a,b,a2,b2,p,q,rfl,rfl,hK ▸ g1,hK ▸ f1,hK ▸ sub.seq g2,hK ▸ sub.seq f2,k⟩
 |Gt=>exact sV dPa I rx ry hx hy k (rAa eb)
 |GtE=>exact sV cPa I rx ry hx hy k (iAa eb)
 |Is =>
  induction e using D.casesOn with
  |lA =>
   cases hy.lA;change some _=_ at eb;cases eb;refine ePa aA s Y H _ _ _ _ Q I rx ry ⟨rfl, ?_⟩;rw[Im hx];exact k
  |bl q =>
   obtain⟨p,rfl,rfl⟩:=nEa (show j7 q d=_ from eb);cases hx.bl;cases hy.bl;cases rx;cases ry;exact is_bool ⟨.bl _,H,I,rfl,k⟩
  |_=>exact(eB eb).elim
 |IsNot =>
  induction e using D.casesOn with
  |lA =>
   cases hy.lA;change some _=_ at eb;cases eb;refine kPa aA s Y H _ _ _ _ Q I rx ry ⟨rfl, ?_⟩;rw[Im hx];exact k
  |_=>exact(eB eb).elim
 |In =>
  induction e using D.casesOn with
  |t ds =>
   change (if CD d&&ds.all CD then some _ else none)=_ at eb;split at eb
   ·rename_i hc;cases eb;rw[WA] at hc;obtain⟨a,vs,rfl,h1,h2⟩:=hy.t sub;obtain⟨i1,i2⟩:=RS (hx.flat hc.1) hc.1 h2 hc.2;refine Wk aA s Y H _ _ _ _ Q I rx ry ⟨a,vs,rfl,.inr (hK ▸ h1),(KP (hx.flat hc.1) hc.1).1,i1, ?_⟩;simpa[i2] using k
   ·cases eb
  |l ds =>
   change (if CD d&&ds.all CD then some _ else none)=_ at eb;split at eb
   ·rename_i hc;cases eb;rw[WA] at hc;obtain⟨a,vs,rfl,h1,h2⟩:=hy.l sub;obtain⟨i1,i2⟩:=RS (hx.flat hc.1) hc.1 h2 hc.2;refine Wk aA s Y H _ _ _ _ Q I rx ry ⟨a,vs,rfl,.inl (hK ▸ h1),(KP (hx.flat hc.1) hc.1).1,i1, ?_⟩;simpa[i2] using k
   ·cases eb
  |EG ks es =>
   change Rh d ks es=_ at eb
   induction d using D.casesOn with
   |int i =>
    change some _=_ at eb;cases eb;obtain⟨a,vs,rfl,h1,h2,h3⟩:=hy.EG sub;cases hx.int;cases ry;refine zy (by lia) I (WL.k (k:=Sum.inl i) h1) rx λs3 I3=>⟨.bl _,H,I3,rfl, ?_⟩
    rw[uJa h2 h3];exact k
   |_=>exact(eB eb).elim
  |ZA ks es =>
   change rQ d ks=_ at eb;unfold rQ at eb
   cases hs:nE d with
   |none=>rw[hs] at eb;cases eb
   |some k0 =>
    rw[hs] at eb;cases eb;subst hK;obtain⟨b0,rfl,kk⟩:=gT hs hx;obtain⟨a,xs,rfl,ds,pr,_⟩:=hy.ZA sub;cases rx;cases ry;refine sWa (by lia) I ds (rC.mono sub kk) λs3 I3=>⟨.bl _,H,I3,rfl, ?_⟩
    rw[Qj pr];exact k
  |_=>exact(eB eb).elim
 |NotIn =>
  induction e using D.casesOn with
  |t ds =>
   change (if CD d&&ds.all CD then some _ else none)=_ at eb;split at eb
   ·rename_i hc;cases eb;rw[WA] at hc;obtain⟨a,vs,rfl,h1,h2⟩:=hy.t sub;obtain⟨i1,i2⟩:=RS (hx.flat hc.1) hc.1 h2 hc.2;refine Xk aA s Y H _ _ _ _ Q I rx ry ⟨a,vs,rfl,.inr (hK ▸ h1),(KP (hx.flat hc.1) hc.1).1,i1, ?_⟩;simpa[i2] using k
   ·cases eb
  |l ds =>
   change (if CD d&&ds.all CD then some _ else none)=_ at eb;split at eb
   ·rename_i hc;cases eb;rw[WA] at hc;obtain⟨a,vs,rfl,h1,h2⟩:=hy.l sub;obtain⟨i1,i2⟩:=RS (hx.flat hc.1) hc.1 h2 hc.2;refine Xk aA s Y H _ _ _ _ Q I rx ry ⟨a,vs,rfl,.inl (hK ▸ h1),(KP (hx.flat hc.1) hc.1).1,i1, ?_⟩;simpa[i2] using k
   ·cases eb
  |ZA ks es =>
   change (rQ d ks).map (!·)=_ at eb;unfold rQ at eb
   cases hs:nE d with
   |none=>rw[hs] at eb;cases eb
   |some k0 =>
    rw[hs] at eb;cases eb;subst hK;obtain⟨b0,rfl,kk⟩:=gT hs hx;obtain⟨a,xs,rfl,ds,pr,_⟩:=hy.ZA sub;cases rx;cases ry;refine vWa (by lia) I ds (rC.mono sub kk) λs3 I3=>⟨.bl _,H,I3,rfl, ?_⟩
    rw[Qj pr];exact k
  |_=>exact(eB eb).elim
end
section
variable{X:Cx}{K:gA}{aA:List (fA×nB)}{Y:St}{H G:Hp}{s:qA}
def Be(h:iA K G ds vs)(e:lC ds i=some d):∃v,lC vs i=some v/\jA K G d v:=by
 unfold lC at e ⊢;rw[h.len]
 cases q:kG ds.length i with
 |none=>rw[q] at e;cases e
 |some j =>
  rw[q] at e;exact h.get e
def sUa(K:gA):R2:=λx y H Q=>∃G d e r,bB G H/\JB K H G d x/\JB K H G e y/\bT d e=some r/\∀z,jA K G r z->Q z H
def bG.imp(h:bG X r)(w:∀x y H Q,r' x y H Q->r x y H Q):bG X r':=λva sl aA s Y H x y v u Q I rx ry q hs=>h va sl aA s Y H x y v u Q I rx ry (w x y H Q q) hs
def wYa(h:cP x=true)(e:lC x.cps.toList i=some c):cP ⟨#[c]⟩=true:=by
 unfold cP at *
 have hm:c∈x.cps.toList:=by
  unfold lC at e
  cases q:kG x.cps.toList.length i with
  |none=>rw[q] at e;cases e
  |some j=>rw[q] at e;exact YH e
 have:=Array.all_eq_true'.mp h c (by simpa using hm)
 simpa using this
def tUa:R2:=λx y H Q=>∃a v,x=.ref a/\WL H a y (some v)/\Q v H
def rFa(hu:X.A.units+1<cLine):bG X tUa:=by
 intro value slice aA s Y H x y v u Q I rx ry h hs;obtain⟨a,z,rfl,g,q⟩:=h;cases rx;have hT:=Fy I g;unfold subscriptTail;refine kA ?_;rw[Lq hT.not_modules];refine kA (Oc hT rq.lookup ?_)
 have fin:nA (model X.prog X.w) X.A (subscripted slice false (.ref a) u) (λr s₃=>nA (model X.prog X.w) X.A (letTemporaryGo value (.ref a) r>>=λ_=>pure r) (EP X aA Y Q) X.xe s₃) X.xe s:=by(rw[hs];exact wpAny_operating (yy hu I g ry λw' s3 I3 nJ=>kA (Rq (SA ⟨z,H,I3,nJ,q⟩))))
 first
  |exact SA (kA fin)
  |exact kA (SA (kA fin))
  |exact kA fin
def rX(K:gA):R2:=λx y H Q=>∃a b xs k p v,x=.ref a/\y=.ref b/\DS K H a xs/\rC K H k b/\atKey xs k=some p/\aAe v p.2/\Q v H
def DS.typeIs(I:eA X aA Y H s)(d:DS X.K H a xs):s.TypeIs (.ref a) "dict":=by
 obtain⟨o,es,ep,h1,h2,_⟩:=d.dict I;exact⟨o,h1,h2.1⟩
def sFa(hu:X.A.units+11<cLine):bG X (rX X.K):=by
 intro value slice aA s Y H x y v u Q I rx ry h hs;obtain⟨a,b,xs,k,p,z,rfl,rfl,ds,kk,e,en,q⟩:=h;cases rx;cases ry;have hT:=DS.typeIs I ds;unfold subscriptTail;refine kA ?_;rw[Lq hT.not_modules];refine kA (Oc hT rq.lookup ?_)
 have fin:nA (model X.prog X.w) X.A (subscripted slice false (.ref a) (.ref b)) (λr s₃=>nA (model X.prog X.w) X.A (letTemporaryGo value (.ref a) r>>=λ_=>pure r) (EP X aA Y Q) X.xe s₃) X.xe s:=by(rw[hs];exact wpAny_operating (rWa hu I ds kk e λs3 I3=>kA (Rq (SA ⟨z,H,I3,en,q⟩))))
 first
  |exact SA (kA fin)
  |exact kA (SA (kA fin))
  |exact kA fin
def uFa(hK:X.K=K)(hu:X.A.units+11<cLine):bG X (sUa K):=by
 refine bG.imp ((vFa.or (rFa (by lia))).or (sFa hu)) λx y H Q h=>?_
 obtain⟨G,d,e,r,sub,hx,hy,er,k⟩:=h;subst hK;unfold bT at er;split at er
 ·cases hy.int;obtain⟨a,vs,rfl,h1,h2⟩:=hx.t sub;obtain⟨v,h3,h4⟩:=Be h2 er;exact .inl (.inl (.inr (.inl ⟨a,vs,_,v,rfl,rfl,h1,h3,k v h4⟩)))
 ·cases hy.int;obtain⟨a,vs,rfl,h1,h2⟩:=hx.l sub;obtain⟨v,h3,h4⟩:=Be h2 er;exact .inl (.inl (.inl ⟨a,vs,_,v,rfl,rfl,h1,h3,k v h4⟩))
 ·rename_i ks es
  cases hs:nE e with
  |none=>rw[hs] at er;cases er
  |some k0 =>
   rw[hs] at er;simp only[uH] at er;obtain⟨b0,rfl,kk⟩:=gT hs hy;obtain⟨a,xs,rfl,ds,pr,_⟩:=hx.ZA sub;rcases Pj (k:=k0) pr with ⟨_,h2⟩ | ⟨p,n,v,h1,h2,h3,h4⟩
   ·rw[h2] at er;cases er
   ·rw[h2] at er;cases er;exact .inr ⟨a,b0,xs,k0,p,v,rfl,rfl,ds,rC.mono sub kk,h1,h3,k _ h4⟩
 ·rename_i ks es i;cases hy.int;obtain⟨a,vs,rfl,h1,h2,h3⟩:=hx.EG sub;rcases D8 i h2 h3 with ⟨_,q⟩ | ⟨d,v,q1,q2,q3⟩
  ·rw[q] at er;cases er
  ·rw[q2] at er;cases er;refine .inl (.inr ⟨a,v,rfl, ?_,k _ q3⟩);have g:=WL.k (k:=Sum.inl i) h1;rw[q1] at g;exact g
 ·split at er
  ·rename_i hz;cases hy.int;obtain⟨rfl,ok⟩:=hx.str
   cases q:lC ‹bA›.cps.toList ‹Int› with
   |none=>rw[q] at er;cases er
   |some c =>
    rw[q] at er;cases er;exact .inl (.inl (.inr (.inr ⟨_,_,c,rfl,rfl,XC hz (by decide),q,k _ (show jA X.K G (.str _) _ by simp only[jA];exact⟨trivial,wYa ok q⟩)⟩)))
  ·cases er
 ·cases er
def Lf{lo hi:Option Int}(h:iA K G ds vs):iA K G (aAz ds lo hi) (UK vs lo hi):=by
 unfold aAz UK;rw[h.len];exact(h.drop _).take _
def zUa(K:gA):V->Option Int->Option Int->Hp->VK->Prop:=λx lo hi H Q=>∃G d v,bB G H/\JB K H G d x/\BX d lo hi=some v/\∀z H',aAH K H G v z H'->Q z H'
def oXa(hK:X.K=K):GJ X (zUa K):=by
 intro aA s Y H x v vl vu lo hi sl Q I rx hs pl pu h;obtain⟨G,d,r,sub,hx,er,k⟩:=h;subst hK;refine GJ.or nXa qXa aA s Y H x v vl vu lo hi sl Q I rx hs pl pu ?_;unfold BX at er;split at er
 ·cases er;obtain⟨a,vs,rfl,h1,h2⟩:=hx.l sub;exact .inl ⟨a,vs,rfl,h1,λp hp=>k _ _ (.inr (.inl ⟨_,_,p,rfl,hp,Lf h2,rfl,rfl⟩))⟩
 ·rename_i ds;cases er;obtain⟨a,vs,rfl,h1,h2⟩:=hx.t sub;refine .inr ⟨a,vs,rfl,h1,λp hp=>k _ _ (L8 ⟨_,_,p,rfl,hp,Lf h2,rfl,rfl⟩),λhw=>k _ _ (.inl ⟨_,rfl, ?_,rfl⟩)⟩
  have hc:aAz ds lo hi=ds:=by(unfold aAz;rw[<- h2.len,hw.1,hw.2,h2.len,Wc,Nat.sub_zero,SY])
  rw[hc];rcases hx with hx | ⟨_,_,hx⟩
  ·exact hx
  ·exact hx.elim
 ·cases er
def MR(K:gA)(H G:Hp):List D->List V->Prop
 |[],xs=>xs=[]
 |d::ds,xs=>∃x r,xs=x::r/\JB K H G d x/\MR K H G ds r
def wF(h:MR K H G [d] xs):∃x,xs=[x]/\JB K H G d x:=by
 obtain⟨x,r,rfl,h1,h2⟩:=h;cases (show r=[] from h2);exact⟨x,rfl,h1⟩
def Jm(h:MR K H G [d,e] xs):∃x y,xs=[x,y]/\JB K H G d x/\JB K H G e y:=by
 obtain⟨x,r,rfl,h1,h2⟩:=h;obtain⟨y,rfl,h3⟩:=wF h2;exact⟨x,y,rfl,h1,h3⟩
def tm(K:gA)(f:BI):List V->Hp->VK->Prop:=λxs H Q=>∃G ds v,bB G H/\MR K H G ds xs/\WE f ds=some v/\∀z H',aAH K H G v z H'->Q z H'
noncomputable def A1:BI->cA
 |.len=>.builtin "len"
 |.abs=>.builtin "abs"
 |.int=>.type "int"
 |.list=>.type "list"
 |.tuple=>.type "tuple"
 |.min=>.builtin "min"
 |.max=>.builtin "max"
 |.all=>.builtin "all"
 |.sorted=>.builtin "sorted"
theorem Le:∀{ds:List D} {vs:List V} {us:List cA} {bs:List Bool},iA K G ds vs->aAc vs us->NI ds=some bs->LSm.BoolsAre us bs
 |[],_,_,_,h,r,e=>by
  simp only[iA] at h;subst h;cases r;cases e;exact .nil
 |d::ds,_,_,_,h,r,e=>by
  simp only[iA] at h;obtain⟨v,r',rfl,h1,h2⟩:=h
  cases r with
  |cons ra rb =>
   cases d<;>simp only[NI,reduceCtorEq] at e;rename_i b
   cases q:NI ds with
   |none=>rw[q] at e;cases e
   |some Qe =>
    rw[q] at e;cases e;simp only[jA] at h1;subst h1;cases ra;exact .cons b (Le h2 rb q)
def Rx(hc:X.A.handled=none):FF X (.builtin "all") (λxs H Q=>∃a vs ds bs G,xs=[.ref a]/\EB X.K H a vs/\iA X.K G ds vs/\NI ds=some bs/\Q (.bl (bs.all id)) H):=by
 intro aA s Y H xs us Q I r h;obtain⟨a,vs,ds,bs,G,rfl,h1,h2,h3,q⟩:=h;obtain⟨u,rfl,rx⟩:=aAy r;cases rx;obtain⟨dA,rv,hl,z⟩:=FX I h1;have hb:=Le h2 rv h3;have AD:a<s.heap.objs.size:=by obtain⟨_,e,_⟩:=hl;exact fC e
 refine call_all_walk (tU hl ?_)
 refine⟨s.heap.objs.size,[s.heap.objs.size,a],[s.heap.objs.size],dA.toArray.size,_,_,λi=>(bs[i]?).getD true,rfl,Walks.list (A:=X.A.in1) hc _ a (MD AD) dA.toArray,
  ⟨⟨_,iE _ rfl,rfl,rfl⟩,hl.push _⟩,λi v s' Q' E' hP hQ=>?_,λh' tk hk=>?_⟩
 ·obtain⟨b,e,rfl⟩:=hb.get i v (by simpa using hP);simp only[e,Option.getD_some] at hQ;exact GL hQ
 ·have e:((vC dA.toArray.size).all λi=>(bs[i]?).getD true)=bs.all id:=by
   rw[mD,hb.length];exact LSm.range_all bs
  rw[e];exact⟨.bl _,H,I.kept (t':=tk) (LSm.kept_iter hk),rfl,q⟩
theorem Uh:∀{ds:List D} {vs:List V} {us:List cA} {is:List Int},iA K G ds vs->aAc vs us->IE ds=some is->IntsAre us is
 |[],_,_,_,h,r,e=>by
  simp only[iA] at h;subst h;cases r;cases e;exact .nil
 |d::ds,_,_,_,h,r,e=>by
  simp only[iA] at h;obtain⟨v,r',rfl,h1,h2⟩:=h
  cases r with
  |cons ra rb =>
   cases d<;>simp only[IE,reduceCtorEq] at e;rename_i b
   cases q:IE ds with
   |none=>rw[q] at e;cases e
   |some Qe =>
    rw[q] at e;cases e;simp only[jA] at h1;subst h1;obtain⟨t,rfl⟩:=ra;exact .cons _ _ (Uh h2 rb q)
def jKa(i:Int):∀(r:List Int),(r.foldl (λm y=>if y > m then y else m) i)∈i::r/\∀a∈i::r,a<=r.foldl (λm y=>if y > m then y else m) i:=by
 intro r
 induction r generalizing i with
 |nil=>exact⟨by simp,λa ha=>by simp at ha;simp;lia⟩
 |cons y r ih =>
  simp only[eN];obtain⟨h1,h2⟩:=ih (if y > i then y else i);refine⟨?_,λa ha=>?_⟩
  ·rcases wD.mp h1 with h | h
   ·rw[h];split
    ·simp
    ·simp
   ·exact fD _ (fD _ h)
  ·have h3:=h2 (if y > i then y else i) (by simp);have h4:i<=(if y > i then y else i):=by split<;>lia
   have h5:y<=(if y > i then y else i):=by split<;>lia
   rcases wD.mp ha with h | h
   ·rw[h];exact zd h4 h3
   ·rcases wD.mp h with h | h
    ·rw[h];exact zd h5 h3
    ·exact h2 a (fD _ h)
def Xx(hc:X.calm=true):FF X (.builtin "max") (λxs H Q=>∃a i j,xs=[.ref a]/\sC X.K H a [.int i,.int j]/\Q (.int (if j > i then j else i)) H):=by
 intro aA s Y H xs us Q I r h;obtain⟨a,i,j,rfl,h1,q⟩:=h;obtain⟨u,rfl,rx⟩:=aAy r;cases rx;obtain⟨dA,rv,ht,_⟩:=I.tuple h1;obtain⟨_,_,rfl,⟨t,rfl⟩,⟨t',rfl⟩⟩:=aAF rv
 have hT:s.heap.IsTuple a (intItems #[(i,t),(j,t')]):=by(obtain⟨o,e,c,n,d⟩:=ht;exact⟨o,e,c,n,by rw[d];simp[intItems]⟩)
 have lt:a<s.heap.objs.size:=by obtain⟨_,e,_⟩:=hT;exact fC e
 refine call_max_walk (jr hT ?_);refine⟨_,[_,a],[_],_,_,_,_,rfl,Walks.tuple (A:=X.A.in1) (I.ok.hd hc) _ a (MD lt) (intItems #[(i,t),(j,t')]),⟨⟨_,iE _ rfl,rfl,rfl⟩,hT.push _⟩,λc hc=>?_,by simp[intItems],CmpOf.ints_gt (numAt #[(i,t),(j,t')]) (λ_ _=>intItems_at),λv h' tk hP hk=>?_⟩
 ·show c<(s.heap.push _).objs.size;rw[CU];rcases wD.mp hc with rfl | hc
  ·exact FI _
  ·rw[DC.mp hc];exact Qr lt
 ·have hold:∀c o,s.heap.get? c=some o->h'.get? c=some o:=λc o e=>by
   refine hk c o (λhm=>?_) (wC _ e);exact absurd (DC.mp hm ▸ fC e) (LL _)
  have hv:v=if j > i then Value.int j t' else Value.int i t:=by
   have hP':(intItems #[(i,t),(j,t')])[argBest (λk l=>decide (numAt #[(i,t),(j,t')] k > numAt #[(i,t),(j,t')] l)) 1]?=some v:=by(rw[<- show(intItems #[(i,t),(j,t')]).size-1=1 by simp[intItems]];exact hP)
   by_cases iL:j > i<;>simpa[argBest,numAt,intItems,iL] using hP'.symm
  rw[hv];refine⟨.int (if j > i then j else i),H,I.kept (t':=tk) hold, ?_,q⟩;by_cases c:j > i
  ·rw[GA c,GA c];exact⟨_,rfl⟩
  ·rw[LA c,LA c];exact⟨_,rfl⟩
def Wx(hc:X.calm=true):FF X (.builtin "max") (λxs H Q=>∃a vs ds i r G,xs=[.ref a]/\EB X.K H a vs/\iA X.K G ds vs/\IE ds=some (i::r)/\Q (.int (r.foldl (λm y=>if y > m then y else m) i)) H):=by
 intro aA s Y H xs us Q I r h;obtain⟨a,vs,ds,i,ns,G,rfl,h1,h2,h3,q⟩:=h;obtain⟨u,rfl,rx⟩:=aAy r;cases rx;obtain⟨dA,rv,hl,z⟩:=FX I h1;have hi:=Uh h2 rv h3;obtain⟨xs,e⟩:=hi.allInts.items
 have nI:i::ns=xs.toList.map (·.1):=by(rw[<- hi.numsOf,<- nums_intItems,<- e])
 have qB:0<xs.size:=by
  have h3:0<(i::ns).length:=by simp
  rw[nI,EA,vG] at h3;exact h3
 rw[e] at hl;refine max_intList (I.ok.hd hc) hl qB λv h' tk hv hk=>?_
 obtain⟨t,rfl⟩:=intItems_at hv;obtain⟨k1,k2⟩:=argBest_gt (numAt xs) (xs.size-1)
 have m1:numAt xs (argBest (λi j=>decide (numAt xs i > numAt xs j)) (xs.size-1))∈i::ns:=by(rw[nI,numAt_eq];exact getD_mem (by rw[EA,vG];omega))
 have m2:∀b∈i::ns,b<=numAt xs (argBest (λi j=>decide (numAt xs i > numAt xs j)) (xs.size-1)):=λb ha=>by(rw[nI] at ha;obtain⟨j,hj,rfl⟩:=mem_getD ha;rw[EA,vG] at hj;rw[<- numAt_eq];exact k2 j (by omega))
 obtain⟨m3,m4⟩:=jKa i ns;have e2:numAt xs (argBest (λi j=>decide (numAt xs i > numAt xs j)) (xs.size-1))=ns.foldl (λm y=>if y > m then y else m) i:=Int.le_antisymm (m4 _ m1) (m2 _ m3);refine⟨.int _,H,I.kept hk,⟨t,rfl⟩, ?_⟩;rw[e2];exact q
def Gy(d:fA)(hd:(d==sysModules)=false):MeetsIn P w (sH.«dict.__len__» ⟨[.ref d],[]⟩) (λ_ R s=>∃xs ep,bC d xs ep s.heap/\R (.ok (.ret (.int xs.length s.toks))) { s with toks:=s.toks+1 }):=by
 refine .of_wp λA R s ⟨xs,ep,⟨o,es,ho,hc,bW,hk⟩,h⟩=>?_
 have e:es.size=xs.length:=by rw[<- vG,hk,EA]
 show nA _ _ ((dictEntries d>>=_)>>=_) _ _ s;refine kA (kA (Ec ho bW ?_));refine SA (kA (wpAny_pendingCount_other hd (wpAny_ret_mkInt ?_)));rw[Nat.add_zero,e];exact h
def uWa(I:eA X aA Y H s)(d:DS X.K H a xs)(h:∀t s',eA X aA Y H s'->Q (.int xs.length t) s'):nA (model X.prog X.w) X.A (call (.builtin "len") [.ref a]) Q X.xe s:=by
 have hT:=DS.typeIs I d;have z:=d.len;rw[dP] at z;obtain⟨ep,e⟩:=d.at_;have hr:bC a xs ep s.heap:=(show nD X.prog X.w H s.heap a (.ext (bC a xs ep)) from I.KA a _ e).1;refine Calls.call_function_entry kind_len plain_len entry_len (args_len1 _) ?_;unfold sH.«len»
 refine kA (m:=oneArg "len" _) (SA (kA (m:=callSpecial? (.ref a) (wA "__len__")) (aR (name:=wA "__len__") hT Mq
  (call_meetsIn Mq hT PySem.F.entry_dict_len (PySem.F.args_dict_len_1 _) (Gy a d.sm) ⟨xs,ep,hr, ?_⟩))))
 refine kA (qK (SA (kA (wpAny_letGo ?_))));have h1:¬((xs.length:Nat):Int)<0:=by lia
 have h2:¬((xs.length:Nat):Int) >= 2 ^ 63:=by lia
 show nA _ _ (if((xs.length:Nat):Int)<0 then _ else _) _ _ _;rw[LA h1];show nA _ _ (if((xs.length:Nat):Int) >= 2 ^ 63 then _ else _) _ _ _;rw[LA h2];exact kA (sZ (SA ⟨_,rfl,h _ _ ((I.tok _).tok _)⟩))
def p1a:∀{xs:cH} {us:List cA},us.length=xs.length->(∀(j:Nat) v,us[j]?=some v->∃x,xs[j]?=some x/\v=.ref x.2.1)->aAc (xs.map λx=>V.ref x.2.1) us:=by
 intro xs
 induction xs with
 |nil =>
  intro us h k
  induction us using XB with
  |nil=>exact .nil
  |cons _ _=>cases h
 |cons x xs ih =>
  intro us h k
  induction us using XB with
  |nil=>cases h
  |cons u us =>
   obtain⟨_,e,q⟩:=k 0 u rfl;cases e;exact .cons q (ih (mZ h) λj v e=>k (j+1) v e)
def tWa(hh:X.A.handled=none)(I:eA X aA Y H s)(d:DS X.K H a xs)(h:∀p s',H p=none->eA X aA Y (CA H p (.l (xs.map λx=>V.ref x.2.1))) s'->Q (.ref p) s'):nA (model X.prog X.w) X.A (call (.type "list") [.ref a]) Q X.xe s:=by
 obtain⟨ep,e⟩:=d.at_;refine PySem.W.kdl_call (Aj d.sm) hh (show nD X.prog X.w H s.heap a (.ext (bC a xs ep)) from I.KA a _ e).1 d.len λh' tk GD c' hk hS Og=>?_
 refine h _ _ (I.KA.fresh (mB _)) (I.laid (o:=.l (xs.map λx=>V.ref x.2.1)) (t':=tk) hk (mB _) ⟨?_,GD.toList,c',p1a (by rw[vG];exact Og.1) λj v e=>Og.2 j v (by rw[<- mU];exact e), ?_⟩)
 ·rw[EA];exact d.len
 ·rw[hS]
def xWa{a:fA}{xs:cH}(rm:zC 2 X.A)(hh:X.A.handled=none)(I:eA X aA Y H s)(d:DS X.K H a xs)(pW:∀x∈xs,x.1.isRight=true){Q:cA->qA->Prop}
  (h:∀p ws s',H p=none->Fm ws (xs.map λx=>V.ref x.2.1)->eA X aA Y (CA H p (.l ws)) s'->Q (.ref p) s'):nA (model X.prog X.w) X.A (call (.builtin "sorted") [.ref a]) Q X.xe s:=by
 obtain⟨ep,e⟩:=d.at_;refine CS.cYa (Aj d.sm) hh (show nD X.prog X.w H s.heap a (.ext (bC a xs ep)) from I.KA a _ e).1 d.len (λi v ⟨x,hx,hv⟩=>?_) (by have:=rm.un;lia) λvs out p h' tk n' hl hP ho hm hp g kp=>?_
 ·have hx:=YH hx;have g:eE X.prog X.w s.heap x.1 x.2.1:=rC.is I (d.keys x hx);have hr:=pW x hx
  cases q:x.1 with
  |inl=>rw[q] at hr;cases hr
  |inr k=>rw[q] at g;exact⟨_,k,hv,g⟩
 have key:∀us:List cA,(∀u∈us,u∈vs)->∃ws,aAc ws us/\∀w∈ws,w∈xs.map λx=>V.ref x.2.1:=by
  intro us
  induction us with
  |nil=>exact λ_=>⟨[],.nil,λ_ z=>nomatch z⟩
  |cons u us ih =>
   intro hu;obtain⟨ws,i1,i2⟩:=ih λv hv=>hu v (fD _ hv)
   obtain⟨j,hj⟩:=Iq.mp (hu u qE);obtain⟨x,hx,rfl⟩:=hP j u hj;refine⟨.ref x.2.1::ws,.cons rfl i1,λw hw=>?_⟩;rcases wD.mp hw with rfl | hw
   ·exact EF.mpr ⟨x,YH hx,rfl⟩
   ·exact i2 w hw
 obtain⟨ws,i1,i2⟩:=key out.toList hm;have l:ws.length=xs.length:=i1.length.trans (vG.trans ho);refine h p ws _ (I.KA.fresh hp) ⟨by rw[EA];exact l,i2⟩ (I.laid (o:=.l ws) (t':=tk) kp hp ⟨?_,out.toList,n',i1,by rw[Array.toArray_toList];exact g⟩);rw[l];exact d.len
def Gw(hK:X.K=K)(hc:X.calm=true)(hh:X.A.handled=none)(rm:zC 2 X.A)(f:BI):FF X (A1 f) (tm K f):=by
 intro aA s Y H xs us Q I r h;obtain⟨G,ds,v,sub,hx,e,k⟩:=h;subst hK
 induction f using BI.casesOn with
 |len =>
  obtain _ | ⟨d,_ | ⟨_,_⟩⟩:=ds
  ·exact(eB e).elim
  ·induction d using D.casesOn with
   |l =>
    change some _=_ at e;cases e;obtain⟨x,rfl,h1⟩:=wF hx;obtain⟨a,vs,rfl,h2,h3⟩:=h1.l sub;exact O1 aA s Y H _ us Q I r ⟨a,vs,rfl,.inl h2,by rw[h3.len];exact k _ _ aAn⟩
   |t =>
    change some _=_ at e;cases e;obtain⟨x,rfl,h1⟩:=wF hx;obtain⟨a,vs,rfl,h2,h3⟩:=h1.t sub;exact O1 aA s Y H _ us Q I r ⟨a,vs,rfl,.inr h2,by rw[h3.len];exact k _ _ aAn⟩
   |GC =>
    change some _=_ at e;cases e;obtain⟨x,rfl,h1⟩:=wF hx;obtain⟨a,vs,rfl,h2,h3⟩:=h1.GC sub;exact O1 aA s Y H _ us Q I r ⟨a,vs,rfl,.inl h2,by rw[h3];exact k _ _ aAn⟩
   |ZA =>
    change some _=_ at e;cases e;obtain⟨x,rfl,h1⟩:=wF hx;obtain⟨a,zs,rfl,h2,⟨h3,_⟩,_⟩:=h1.ZA sub;obtain⟨u,rfl,ru⟩:=aAy r;cases ru;refine uWa I h2 λt s' I'=>⟨.int (zs.length:Int),H,I',⟨t,rfl⟩, ?_⟩
    rw[show zs.length=_ from(EA _).symm.trans (congrArg uJ h3)];exact k _ _ aAn
   |str x =>
    change @ite _ (x.length<=1000000) (cl _) _ none=_ at e;split at e
    ·rename_i hz;cases e;obtain⟨x,rfl,h1⟩:=wF hx;obtain⟨rfl,_⟩:=h1.str;exact Ux aA s Y H _ us Q I r ⟨_,rfl,XC hz (by decide),k _ _ aAn⟩
    ·cases e
   |_=>exact(eB e).elim
  ·cases d<;>exact(eB e).elim
 |abs =>
  obtain _ | ⟨d,_ | ⟨_,_⟩⟩:=ds
  ·exact(eB e).elim
  ·cases d with
   |int =>
    change some _=_ at e;cases e;obtain⟨x,rfl,h1⟩:=wF hx;cases h1.int;exact Qx aA s Y H _ us Q I r ⟨_,rfl,k _ _ aAn⟩
   |_=>exact(eB e).elim
  ·cases d<;>exact(eB e).elim
 |int =>
  obtain _ | ⟨d,_ | ⟨_,_⟩⟩:=ds
  ·exact(eB e).elim
  ·induction d using D.casesOn with
   |int =>
    change some _=_ at e;cases e;obtain⟨x,rfl,h1⟩:=wF hx;cases h1.int;exact bf aA s Y H _ us Q I r (.inl ⟨_,rfl,k _ _ aAn⟩)
   |bl =>
    change some _=_ at e;cases e;obtain⟨x,rfl,h1⟩:=wF hx;cases h1.bl;exact bf aA s Y H _ us Q I r (.inr ⟨_,rfl,k _ _ aAn⟩)
   |_=>exact(eB e).elim
  ·cases d<;>exact(eB e).elim
 |list =>
  obtain _ | ⟨d,_ | ⟨_,_⟩⟩:=ds
  ·exact(eB e).elim
  ·induction d using D.casesOn with
   |l =>
    change some _=_ at e;cases e;obtain⟨x,rfl,h1⟩:=wF hx;obtain⟨a,vs,rfl,h2,h3⟩:=h1.l sub;exact ff aA s Y H _ us Q I r ⟨a,vs,rfl,.inl h2,λp hp=>k _ _ (.inr (.inl ⟨_,_,p,rfl,hp,h3,rfl,rfl⟩))⟩
   |t =>
    change some _=_ at e;cases e;obtain⟨x,rfl,h1⟩:=wF hx;obtain⟨a,vs,rfl,h2,h3⟩:=h1.t sub;exact ff aA s Y H _ us Q I r ⟨a,vs,rfl,.inr h2,λp hp=>k _ _ (.inr (.inl ⟨_,_,p,rfl,hp,h3,rfl,rfl⟩))⟩
   |ZA =>
    change some _=_ at e;cases e;obtain⟨x,rfl,h1⟩:=wF hx;obtain⟨a,zs,rfl,h2,⟨h3,_⟩,h4⟩:=h1.ZA sub;obtain⟨u,rfl,ru⟩:=aAy r;cases ru;exact tWa hh I h2 λp s' hp I'=>⟨.ref p,_,I',rfl,k _ _ (.inr (.inl ⟨_,_,p,rfl,hp,h3 ▸ D9 h4,rfl,rfl⟩))⟩
   |_=>exact(eB e).elim
  ·cases d<;>exact(eB e).elim
 |tuple =>
  obtain _ | ⟨d,_ | ⟨_,_⟩⟩:=ds
  ·exact(eB e).elim
  ·induction d using D.casesOn with
   |l =>
    change some _=_ at e;cases e;obtain⟨x,rfl,h1⟩:=wF hx;obtain⟨a,vs,rfl,h2,h3⟩:=h1.l sub;exact gf aA s Y H _ us Q I r ⟨a,vs,rfl,.inl ⟨h2,λp hp=>k _ _ (L8 ⟨_,_,p,rfl,hp,h3,rfl,rfl⟩)⟩⟩
   |t =>
    change some _=_ at e;cases e;obtain⟨x,rfl,h1⟩:=wF hx;have NH:=h1;obtain⟨a,vs,rfl,h2,h3⟩:=h1.t sub;refine gf aA s Y H _ us Q I r ⟨a,vs,rfl,.inr ⟨h2, ?_⟩⟩;rcases NH with NH | ⟨_,_,NH⟩
    ·exact k _ _ (.inl ⟨_,rfl,NH,rfl⟩)
    ·exact NH.elim
   |_=>exact(eB e).elim
  ·cases d<;>exact(eB e).elim
 |min =>
  obtain _ | ⟨d,_ | ⟨d2,_ | ⟨_,_⟩⟩⟩:=ds
  ·exact(eB e).elim
  ·cases d<;>exact(eB e).elim
  ·cases d with
   |int =>
    cases d2 with
    |int =>
     change some _=_ at e;cases e;obtain⟨x,y,rfl,h1,h2⟩:=Jm hx;cases h1.int;cases h2.int;exact Yx hc aA s Y H _ us Q I r ⟨_,_,rfl,k _ _ aAn⟩
    |_=>exact(eB e).elim
   |_=>exact(eB e).elim
  ·cases d with
   |int=>cases d2<;>exact(eB e).elim
   |_=>exact(eB e).elim
 |max =>
  obtain _ | ⟨d,_ | ⟨d2,_ | ⟨_,_⟩⟩⟩:=ds
  ·exact(eB e).elim
  ·induction d using D.casesOn with
   |l ds =>
    change (match IE ds with | some (i::r)=>some (RV.sh (.int (r.foldl (λm y=>if y > m then y else m) i))) | _=>none)=_ at e;split at e
    ·rename_i i r' q;cases e;obtain⟨x,rfl,h1⟩:=wF hx;obtain⟨a,vs,rfl,h2,h3⟩:=h1.l sub;exact Wx hc aA s Y H _ us Q I r ⟨a,vs,ds,i,r',G,rfl,h2,h3,q,k _ _ aAn⟩
    ·cases e
   |t ds =>
    change M8 ds=_ at e;unfold M8 at e;split at e
    ·rename_i i j;cases e;obtain⟨x,rfl,h1⟩:=wF hx;obtain⟨a,vs,rfl,h2,h3⟩:=h1.t sub;simp only[iA,jA] at h3;obtain⟨v1,y1,rfl,rfl,v2,y2,rfl,rfl,rfl⟩:=h3;exact Xx hc aA s Y H _ us Q I r ⟨a,i,j,rfl,h2,k _ _ aAn⟩
    ·cases e
   |_=>exact(eB e).elim
  ·cases d with
   |int =>
    cases d2 with
    |int =>
     change some _=_ at e;cases e;obtain⟨x,y,rfl,h1,h2⟩:=Jm hx;cases h1.int;cases h2.int;exact Vx hc aA s Y H _ us Q I r ⟨_,_,rfl,k _ _ aAn⟩
    |_=>exact(eB e).elim
   |_=>exact(eB e).elim
  ·cases d with
   |int=>cases d2<;>exact(eB e).elim
   |_=>exact(eB e).elim
 |all =>
  obtain _ | ⟨d,_ | ⟨_,_⟩⟩:=ds
  ·exact(eB e).elim
  ·induction d using D.casesOn with
   |l ds =>
    change (NI ds).map _=_ at e
    cases q:NI ds with
    |none=>rw[q] at e;cases e
    |some bs =>
     rw[q] at e;cases e;obtain⟨x,rfl,h1⟩:=wF hx;obtain⟨a,vs,rfl,h2,h3⟩:=h1.l sub;exact Rx hh aA s Y H _ us Q I r ⟨a,vs,ds,bs,G,rfl,h2,h3,q,k _ _ cKa⟩
   |_=>exact(eB e).elim
  ·cases d<;>exact(eB e).elim
 |sorted =>
  obtain _ | ⟨d,_ | ⟨_,_⟩⟩:=ds
  ·exact(eB e).elim
  ·induction d using D.casesOn with
   |ZA ks zs =>
    change (if ks.all uZ then _ else none)=_ at e;split at e
    ·rename_i q;cases e;obtain⟨x,rfl,h1⟩:=wF hx;obtain⟨a,zs,rfl,h2,⟨h3,_⟩,h4⟩:=h1.ZA sub;obtain⟨u,rfl,ru⟩:=aAy r;cases ru;subst h3;refine xWa rm hh I h2 (λx hx=>YF.mp q _ (List.mem_map_of_mem hx)) λp ws s' hp hw I'=>⟨.ref p,_,I',rfl,k _ _ (.inr (.inr (.inr ⟨_,p,_,rfl,hp,rfl,rfl,λG' sm hg=>?_⟩)))⟩
     simp only[jA];exact⟨p,ws,_,rfl,EB.of hg,hw,D9 λx hx=>rC.mono sm (h4 x hx)⟩
    ·cases e
   |_=>exact(eB e).elim
  ·cases d<;>exact(eB e).elim
noncomputable def wb:Ty->V
 |.int=>.ty "int"
 |.bool=>.ty "bool"
 |.tuple=>.ty "tuple"
def dFa(hK:X.K=K)(t:Ty):FF X (.builtin "isinstance") (λxs H Q=>∃G d x b,bB G H/\xs=[x,wb t]/\JB K H G d x/\B7 t d=some b/\Q (.bl b) H):=by
 intro aA s Y H xs us Q I r h;obtain⟨G,d,x,b,sub,rfl,hx,e,q⟩:=h;subst hK;obtain⟨u,w,rfl,rx,nJ⟩:=aAF r;have fin:∀tk,EP X aA Y Q (.bool b) { s with toks:=tk }:=λtk=>⟨.bl b,H,I.tok tk,rfl,q⟩
 cases t<;>cases d<;>cases e<;>(try (cases (show w=_ from nJ)))
 all_goals
  first
   | (cases hx.lA;cases (show u=Value.none from rx);exact XO PySem.W.kitx_none I.WD True.intro (by rfl) (λz=>nomatch z) fin)
   | (cases hx.bl;cases (show u=Value.bool _ from rx);exact XO PySem.W.kitx_bool I.WD True.intro (by rfl) (λz=>nomatch z) fin)
   | (cases hx.int;obtain⟨t,q'⟩:=(show ∃t,u=Value.int _ t from rx);cases q';exact XO PySem.W.kitx_int I.WD True.intro (by rfl) (λz=>nomatch z) fin)
   | (obtain⟨rfl,_⟩:=hx.str;obtain⟨t,q'⟩:=(show ∃t,u=Value.str _ t from rx);cases q';exact XO PySem.W.kitx_str I.WD True.intro (by rfl) (λz=>nomatch z) fin)
   | (obtain⟨a,vs,rfl,h2,h3⟩:=hx.l sub;cases (show u=Value.ref a from rx);obtain⟨dA,_,⟨o,n,h4,h5,_⟩,_⟩:=I.list h2;exact XO PySem.W.kitx_list I.WD ⟨o,h4,h5⟩ (by rfl) (λz=>nomatch z) fin)
   | (obtain⟨a,C,p,rfl,h2,h3,h4,_⟩:=hx.aL sub;cases (show u=Value.ref a from rx);exact XO (i6a h3) I.WD (I.KA a _ h4).1 (h6a h3) (λz=>nomatch z) fin)
   | (obtain⟨a,vs,rfl,h2,h3⟩:=hx.t sub;cases (show u=Value.ref a from rx);obtain⟨dA,_,⟨o,h4,h5,_⟩,_⟩:=I.tuple h2;exact XO PySem.W.kitx_tuple I.WD ⟨o,h4,h5⟩ (by rfl) (λz=>nomatch z) fin)
end
section
variable{X:Cx}{aA:List (fA×nB)}{Y:L2.St}{H:Hp}{s:qA}{h':jB}
def hEa(I:eA X aA Y H s)(k:∀b u,b≠e->b≠it->s.heap.get? b=some u->h'.get? b=some u)(fe:xD X aA H e)(fi:xD X aA H it)(hp:s.heap.objs.size<=p)
  (new:nD X.prog X.w (CA H p o) h' p o):eA X aA Y (CA H p o) { s with heap:=h',toks:=t' }:=by
 have hn:H p=none:=I.KA.fresh hp;have ne:∀{b:fA} {u:HO},H b=some u->b≠e/\b≠it:=λq=>⟨NF q fe.1,NF q fi.1⟩
 have nc:∀{b:fA},b ∉ [e,it]->b≠e/\b≠it:=λhc=>⟨λz=>hc (by simp[z]),λz=>hc (by simp[z])⟩
 refine I.step (g':=s.gens) (d':=s.drawn) (ch:=[e,it]) (λb hb=>?_) (λb o _ _ hc q _=>k b o (nc hc).1 (nc hc).2 q) (λb o _ _ hc q _=>⟨o.slots,k b o (nc hc).1 (nc hc).2 q⟩)
  (λb o _ q n=>by rw[rB (MD (jF (fC q) hp))];exact n)
  (λb o hc q=>⟨o,k b o (nc hc).1 (nc hc).2 q⟩) (λb xs q=>by rw[rB (NF q hn)];exact q) (λb o u q=>by rw[rB (NF q hn)];exact q) (λb ps q=>⟨#[],by rw[rB (NF q hn),q];simp⟩) (λm hm=>?_) (λb u q=>?_) I.bare
 ·have hb:b=e\/b=it:=by simpa using hb
  rcases hb with rfl | rfl
  ·exact⟨fe.2.2.2.1,fe.2.1,fe.2.2.2.2.1,fe.2.2.2.2.2⟩
  ·exact⟨fi.2.2.2.1,fi.2.1,fi.2.2.2.2.1,fi.2.2.2.2.2⟩
 ·obtain⟨o,es,ep,ho,r⟩:=hm;exact⟨o,es,ep,k _ o (hE fe.2.1) (hE fi.2.1) ho,r⟩
 ·by_cases hb:b=p
  ·subst hb;rw[VC] at q;cases q;exact new
  ·rw[rB hb] at q;refine(I.KA b u q).LG (λc v hc z=>?_) (λc q=>by rw[rB (NF q hn)];exact q) λc xs q=>by rw[rB (NF q hn)];exact q
   have OH:c≠e/\c≠it:=by
    rcases hc with w | w
    ·rw[w];exact ne q
    ·exact ne w
   exact k c v OH.1 OH.2 z
def jEa(I:eA X aA Y H s)(k:∀b u,b≠e->b≠it->s.heap.get? b=some u->h'.get? b=some u)(fe:xD X aA H e)(fi:xD X aA H it):eA X aA Y H { s with heap:=h',toks:=t' }:=by
 have ne:∀{b:fA} {u:HO},H b=some u->b≠e/\b≠it:=λq=>⟨NF q fe.1,NF q fi.1⟩
 have nc:∀{b:fA},b ∉ [e,it]->b≠e/\b≠it:=λhc=>⟨λz=>hc (by simp[z]),λz=>hc (by simp[z])⟩
 refine I.step (g':=s.gens) (d':=s.drawn) (ch:=[e,it]) (λb hb=>?_) (λb o _ _ hc q _=>k b o (nc hc).1 (nc hc).2 q) (λb o _ _ hc q _=>⟨o.slots,k b o (nc hc).1 (nc hc).2 q⟩)
  (λ_ _ _ _ n=>n) (λb o hc q=>⟨o,k b o (nc hc).1 (nc hc).2 q⟩) (λ_ _ q=>q) (λ_ _ _ q=>q) (λb ps q=>⟨#[],by rw[q];simp⟩) (λm hm=>?_) (λb u q=>?_) I.bare
 ·have hb:b=e\/b=it:=by simpa using hb
  rcases hb with rfl | rfl
  ·exact⟨fe.2.2.2.1,fe.2.1,fe.2.2.2.2.1,fe.2.2.2.2.2⟩
  ·exact⟨fi.2.2.2.1,fi.2.1,fi.2.2.2.2.1,fi.2.2.2.2.2⟩
 ·obtain⟨o,es,ep,ho,r⟩:=hm;exact⟨o,es,ep,k _ o (hE fe.2.1) (hE fi.2.1) ho,r⟩
 ·refine(I.KA b u q).LG (λc v hc z=>?_) (λ_ q=>q) λ_ _ q=>q
  have OH:c≠e/\c≠it:=by
   rcases hc with w | w
   ·rw[w];exact ne q
   ·exact ne w
  exact k c v OH.1 OH.2 z
end
section
variable{prog:pC}{w:NB}{A:LD}{E:cA->qA->Prop}{s:qA}
def Qy{Q:cA->qA->Prop}(q1:yJ s.heap e it c old)(q2:s.heap.IsListIter it l i)(q3:s.heap.IsList l us)(q4:us[i]?=some u)(ne:e≠it)
  (k:∀g,IsEnumOut g e it (c+1) u s.heap.objs.size->g.IsListIter it l (i+1)->g.get? s.heap.objs.size=some { cls:=.type "tuple",data:=.seq #[.int c s.toks,u] }->(∀b o,b≠e->b≠it->s.heap.get? b=some o->g.get? b=some o)->Q (.ref s.heap.objs.size) { s with heap:=g,toks:=s.toks+1 }) :
  nA (model prog w) A (sH.«enumerate.__next__» ⟨[.ref e],[]⟩) (λfin s'=>∃v,fin=.done (.ret v)/\Q v s') E s:=by
 obtain⟨m0,ge,dr,tk,os⟩:=s;refine kA (m:=field (.ref e) 2) (XH q1 rfl (x:=.ref it) rfl (kA (wpAny_nextOf_list_item q2 q3 q4 λm1 t1 b1=>?_)));have b1:xH it m0 m1:=b1;have e1:yJ m1 e it c old:=(b1.2 e ne).trans q1;refine kA (m:=field (.ref e) 3) (XH e1 rfl (x:=rawInt c) rfl (kA (m:=field (.ref e) 4) (XH e1 rfl (x:=.none) rfl (kA (m:=mkInt c) (sZ ?_)))));refine kA (m:=setField (.ref e) 3 (rawInt (c+1))) (sU e1 (by simp) λm2 e2 b2=>?_);have b2:xH e m1 m2:=b2;have e2:yJ m2 e it (c+1) old:=e2;refine kA (m:=setField (.ref e) 4 .none) (sU e2 (by simp) λm3 e3 b3=>?_);have b3:xH e m2 m3:=b3;have e3:yJ m3 e it (c+1) old:=e3;refine kA (m:=newTuple [.int c tk,u]) (wpAny_newTuple ?_);have n3:m3.objs.size=m0.objs.size:=by rw[b3.1,b2.1,b1.1]
 have lt:e<m0.objs.size:=fC q1;obtain⟨m4,z4⟩:∃m4,m3.push { cls:=.type "tuple",data:=.seq #[.int c tk,u] }=m4:=⟨_,rfl⟩
 have e4:yJ m4 e it (c+1) old:=z4 ▸ wC _ e3;have p4:m4.get? m0.objs.size=some { cls:=.type "tuple",data:=.seq #[.int c tk,u] }:=z4 ▸ n3 ▸ iE _ rfl;have k4:∀b o,b≠e->b≠it->m0.get? b=some o->m4.get? b=some o:=λb o x y q=>z4 ▸ wC _ (b3.extBut b o x (b2.extBut b o x (b1.extBut b o y q)))
 have t4:m4.IsListIter it l (i+1):=by(obtain⟨o,ho,r⟩:=(t1.extBut b2.extBut ne.symm).extBut b3.extBut ne.symm;exact⟨o,z4 ▸ wC _ ho,r⟩)
 rw[n3,z4];refine kA (m:=gq (.ref e)) ?_;unfold gq;refine kA (XH e4 rfl (x:=.none) rfl (SA ?_));simp only[if_true];refine kA (QL (kA (XH e4 rfl (x:=old) rfl (kA (sU e4 (by simp) λm5 e5 b5=>?_)))));have b5:xH e m4 m5:=b5;have e5:yJ m5 e it (c+1) u:=e5;refine kA (m:=fq (.ref e) (.ref m0.objs.size)) ?_;unfold fq;refine kA (sU e5 (by simp) λm6 e6 b6=>?_);have b6:xH e m5 m6:=b6;have e6:IsEnumOut m6 e it (c+1) u m0.objs.size:=e6;refine sU e6 (by simp) λm7 e7 b7=>?_
 have b7:xH e m6 m7:=b7;have st:∀b o,b≠e->m4.get? b=some o->m7.get? b=some o:=λb o x q=>b7.extBut b o x (b6.extBut b o x (b5.extBut b o x q))
 refine kA (wpAny_letGo (SA ⟨_,rfl,k m7 e7 ?_ (st _ _ (OL lt) p4) λb o x y q=>st b o x (k4 b o x y q)⟩));exact((t4.extBut b5.extBut ne.symm).extBut b6.extBut ne.symm).extBut b7.extBut ne.symm
def Ry(q1:yJ s.heap e it c old)(q2:s.heap.IsListIter it l i)(q3:s.heap.IsList l us)(q4:us[i]?=some u)(ne:e≠it)
  (k:∀g,IsEnumOut g e it (c+1) u s.heap.objs.size->g.IsListIter it l (i+1)->g.get? s.heap.objs.size=some { cls:=.type "tuple",data:=.seq #[.int c s.toks,u] }->(∀b o,b≠e->b≠it->s.heap.get? b=some o->g.get? b=some o)->Q (some (.ref s.heap.objs.size)) { s with heap:=g,toks:=s.toks+1 }) :
  nA (model prog w) A (pyNext (.ref e)) Q E s :=
 have ty:s.TypeIs (.ref e) "enumerate":=⟨_,q1,rfl⟩
 kA (gZ (aR (name:=wA "__next__") ty EY (QO EY ty Cq (Qy q1 q2 q3 q4 ne λg a b c d=>SA (k g a b c d)) (wq _))))
def Sy(hh:A.handled=none)(q1:yJ s.heap e it c old)(q2:s.heap.IsListIter it l i)(q3:s.heap.IsList l us)(q4:us[i]?=none)
  (k:∀g,Heap.ExtBut it s.heap g->Q none { s with heap:=g }):nA (model prog w) A (pyNext (.ref e)) Q E s:=by
 have ty:s.TypeIs (.ref e) "enumerate":=⟨_,q1,rfl⟩
 refine kA (gZ (aR (name:=wA "__next__") ty EY (QO EY ty Cq ?_ (wq _))));refine kA (m:=field (.ref e) 2) (XH q1 rfl (x:=.ref it) rfl (kA (wpAny_nextOf_list_end hh q2 q3 q4 λg x ex px=>?_)));obtain⟨o,ho,hc⟩:=px;exact kA (Kc (T:="StopIteration") (b:=true) ⟨o,ho,hc⟩ isSubtype_stop (SA (k _ ex)))
end
def Py(l:fA)(us:Array cA)(n:Nat)(V1:Option fA)(sl:Array (Option cA))(c:Int)(t:kF)(hc:lq c=true) :
  iP (sH.«enumerate.__new__» ⟨[.type "enumerate",.ref l],[("start",.int c t)]⟩) (λ_ R s=>s.heap.get? l=some { cls:=.type "list",dict:=V1,data:=.seq us n,slots:=sl } /\
   R (.ok (.ret (.ref (s.heap.push { cls:=.type "list_iterator",data:=.fields #[.ref l,.int 0 0] }).objs.size)))
    { s with heap:=(s.heap.push { cls:=.type "list_iterator",data:=.fields #[.ref l,.int 0 0] }).push { cls:=.type "enumerate",data:=.fields #[.none,.bool false,.ref s.heap.objs.size,rawInt c,.none,.none] } }) :=
 .of_wp λprog w A R s h=>by
  obtain⟨hp,g,d,tk,os⟩:=s;obtain⟨hl,h⟩:=h;have sb:=sub_enumerate;have D7:Heap.IsList (Shared.heap ⟨hp,g,d,tk,os⟩) l us:=⟨_,hl,rfl,n,rfl⟩
  wp_walk using xY hl
  refine wpAny_stack_any λst=>SA ?_
  split
  ·rename_i v _ _ _ _ _;cases (v==Value.type "enumerate")
   ·wp_walk using xY hl,tU D7
    exact⟨_,rfl,h⟩
   ·wp_walk using xY hl,tU D7
    exact⟨_,rfl,h⟩
  ·wp_walk using xY hl,tU D7
   exact⟨_,rfl,h⟩
def My(a:cA)(c:Int)(t:kF):checkTypeCall "enumerate" ⟨[a],[("start",.int c t)]⟩=pure ():=by kernel_rfl
def Ny(a:cA)(c:Int)(t:kF):checkBuiltinCall "enumerate.__new__" ⟨[.type "enumerate",a],[("start",.int c t)]⟩=pure ():=by kernel_rfl
def Oy:iP (sH.«object.__init__» ⟨[a,b],kw⟩) (λ_ R s=>s.TypeIs a "enumerate"/\R (.ok (.ret .none)) s):=by
 refine Meets.of_wp λprog w A R s hs=>?_
 obtain⟨ty,hq⟩:=hs;have hl:typeLookup (.type "enumerate") "__init__"=pure (some (.builtin "object.__init__")):=xc.init.lookup;have hm:=xc.made;have xE:(some "enumerate.__new__" != some "object.__new__")=true:=by decide
 repeat (any_goals (first | assumption | wp_step))
 exact⟨_,rfl,hq⟩
def Ly(a b:cA)(c:Int)(t:kF):argsOk "object.__init__" ⟨[a,b],[("start",.int c t)]⟩:=by
 unfold argsOk;rw[signature?_of (id:="object.__init__") (n:="__init__".toList.reverse) (o:="object".toList.reverse) (by kernel_rfl) F.owner_object]
 kernel_rfl
section
variable{prog:pC}{w:NB}{A:LD}{E:cA->qA->Prop}{s:qA}
def Uy(hc:lq c=true)(q:s.heap.IsList l us)
  (k:∀g,yJ g (s.heap.objs.size+1) s.heap.objs.size c .none->g.IsListIter s.heap.objs.size l 0->(∀b o,s.heap.get? b=some o->g.get? b=some o)->Q (.ref (s.heap.objs.size+1)) { s with heap:=g }) :
  nA (model prog w) A (call (.type "enumerate") [.ref l] [("start",.int c t)]) Q E s:=by
 have ft:=xc;obtain⟨c0,tl,h5a⟩:=ft.mro;have f5a:=ft.made;have p5a:=ft.sub;obtain⟨⟨cl,V1,dt,sl⟩,hl,DD,n,hd⟩:=q;have DD:cl=.type "list":=DD;have hd:dt=.seq us n:=hd;subst DD hd;refine wZ (codeAny_of_tree ?_);change nA _ _ (callAny (.type "enumerate") _) _ _ _;refine SA ⟨sr _ (by decide +kernel),AU F.entry_type_call ?_⟩;rw[Around.under_plain (weight_type_call_type "enumerate" _ _) (units_type_call_type "enumerate" _ _)];have h1:=ft.notType;have h2:=ft.canCreate;have h3:=My (.ref l) c t
 repeat (any_goals (first | assumption | wp_step))
 refine bP (Sq ft.plain F.entry_enumerate_new (wpAny_of_eq (Ny (.ref l) c t) (Py l us n V1 sl c t hc prog w A.in1 (wants (λobj s1=>s1.TypeIs obj "enumerate"/\Q obj s1) E) s ⟨hl, ?_⟩))) λr s1 hr=>?_
 ·have hz:(s.heap.push { cls:=.type "list_iterator",data:=.fields #[.ref l,.int 0 0] }).objs.size=s.heap.objs.size+1:=CU ..;change _/\_;rw[hz]
  have he:yJ ((s.heap.push { cls:=.type "list_iterator",data:=.fields #[.ref l,.int 0 0] }).push { cls:=.type "enumerate",data:=.fields #[.none,.bool false,.ref s.heap.objs.size,rawInt c,.none,.none] }) (s.heap.objs.size+1) s.heap.objs.size c .none:=by
   have x:=iE (s.heap.push { cls:=.type "list_iterator",data:=.fields #[.ref l,.int 0 0] }) (o:={ cls:=.type "enumerate",data:=.fields #[.none,.bool false,.ref s.heap.objs.size,rawInt c,.none,.none] }) rfl
   rwa[hz] at x
  exact⟨⟨_,he,rfl⟩,k _ he ⟨_,wC _ (iE _ rfl),rfl,rfl⟩ λb o x=>wC _ (wC _ x)⟩
 ·cases r with
  |error e=>exact hr
  |ok fl =>
   cases fl with
   |ret obj =>
    have hT:s1.TypeIs obj "enumerate":=hr.1;have hli:=ft.init.lookup;have hbi:=ft.init.bind obj
    repeat (any_goals (first | assumption | wp_step))
    refine bP (Sq ft.init.plain F.entry_object_init (ft.init.check _ _ _ _ _ _ _ _ hT (Ly obj (.ref l) c t) (Oy prog w A.in1 (wants (λr s2=>r=.none/\Q obj s2) E) s1 ⟨hT,rfl,hr.2⟩))) λr2 s2 pQ=>?_
    cases r2 with
    |error e=>exact pQ
    |ok JP =>
     cases JP with
     |ret r =>
      obtain⟨rfl,hq⟩:=pQ
      repeat (any_goals (first | assumption | wp_step))
     |_=>exact pQ.elim
   |_=>exact hr.elim
end
noncomputable def JZ(K:gA)(a:fA)(lo:Int):It :=
 ⟨λi H=>∃xs x,EB K H a xs/\xs[i]?=some x,λi H x H'=>∃p y,H p=none/\x=.ref p/\H'=CA H p (.t [.int (lo+(i:Int)),y])/\∀xs,EB K H a xs->xs[i]?=some y,λi H=>∃xs,EB K H a xs/\xs.length<=i⟩
def Dp{K:gA}(a e it:fA)(lo:Int)(Wg:e≠it):Turn P w K (.Tuple elts k0 pos) (JZ K a lo) [e,it] e (λi h=>(∃old,yJ h e it (lo+(i:Int)) old)/\h.IsListIter it a i) where
 mem:=by simp
 obj:=λi h st b hb=>by
  obtain⟨⟨old,h1⟩,o,h2,c,d⟩:=st;have hb:b=e\/b=it:=by simpa using hb
  rcases hb with rfl | rfl
  ·exact⟨_,h1,λv z=>by
    have z':Data.fields _=Data.cell v:=z
    cases z'⟩
  ·exact⟨o,h2,λv z=>by rw[d] at z;cases z⟩
 keep:=λi h h' st k=>by(obtain⟨⟨old,h1⟩,h2⟩:=st;exact⟨⟨old,k e (by simp) _ h1⟩,h2.at λo q=>k it (by simp) o q⟩)
 item:=by
  intro X hP hw hK hc i aA s Y H E I hf st hg;subst hP hw hK;obtain⟨xs,x,hq,hx⟩:=hg;obtain⟨dA,rv,p,hz⟩:=I.list hq;obtain⟨u,hu,ru⟩:=rv.get hx;obtain⟨⟨old,he⟩,hit⟩:=st;have fe:=hf e (by simp);have fi:=hf it (by simp);refine Ry he hit p.isList (by simpa using hu) Wg λh' ho gW hT hk=>?_
  refine⟨_,rfl,wpAny_letOwnedTupleGo_enum ho λh2 he2 qF=>?_⟩;have dW:e<s.heap.objs.size:=fC he;have gCa:it<s.heap.objs.size:=by obtain⟨_,q,_⟩:=hit;exact fC q
  have ke:∀b u,b≠e->b≠it->s.heap.get? b=some u->h2.get? b=some u:=λb u n1 n2 q=>(qF.2 b n1).trans (hk b u n1 n2 q)
  have hT2:h2.get? s.heap.objs.size=some { cls:=.type "tuple",data:=.seq #[.int (lo+(i:Int)) s.toks,u] }:=(qF.2 _ (OL dW)).trans hT;have qM:H s.heap.objs.size=none:=I.KA.fresh (mB _);have I2:eA X aA Y (CA H s.heap.objs.size (.t [.int (lo+(i:Int)),x])) { s with heap:=h2,toks:=s.toks+1 }:=hEa I ke fe fi (mB _) ⟨by rw[dP];simp,[.int (lo+(i:Int)) s.toks,u],.cons ⟨_,rfl⟩ (.cons ru .nil),⟨_,hT2,rfl,_,rfl⟩⟩;refine⟨.ref s.heap.objs.size,CA H s.heap.objs.size (.t [.int (lo+(i:Int)),x]),I2,rfl,⟨s.heap.objs.size,x,qM,rfl,rfl,λys hy=>by rw[I.Nj hy hq];exact hx⟩,⟨⟨_,by rw[Ss,Int.natCast_one,<- Int.add_assoc];exact he2⟩,gW.at λo q=>(qF.2 it Wg.symm).trans q⟩,λb hb=>?_⟩
  ·have hb:b=e\/b=it:=by simpa using hb
   rcases hb with rfl | rfl
   ·rw[rB (MD dW)];exact fe.1
   ·rw[rB (MD gCa)];exact fi.1
 done:=by(intro X hP hw hK hc i aA s Y H E I hf st hg;subst hP hw hK;obtain⟨xs,hq,hx⟩:=hg;obtain⟨dA,rv,p,hz⟩:=I.list hq;obtain⟨⟨old,he⟩,hit⟩:=st;have hl:=rv.length;exact Sy (I.ok.hd hc) he hit p.isList (by simp;lia) λh' eb=>⟨rfl,jEa (t':=s.toks) I (λb o _ n2 q=>eb b o n2 q) (hf e (by simp)) (hf it (by simp))⟩)
 self:=λ_ _ _ _ _ st h=>by(obtain⟨⟨old,he⟩,_⟩:=st;exact Fc he h)
section
variable{X:Cx}
def U6(K:gA)(lo:Int)(ta:TA):TI:=λY H R=>ta Y H λvs H1=>∃a,vs=[.ref a]/\(∃xs,EB K H1 a xs)/\R (JZ K a lo) H1
def Me:NL "enumerate"=some (.type "enumerate"):=by decide +kernel
def Jl{ta:TA}(hg:Gl X "enumerate")(hm:X.mg "enumerate"=none)(ha:PA X [a] ta)(hs:YB [a] X.env=[(false,eval a X.env)]:=by rfl):PI X (.Tuple elts k0 l0a) (.Call (.Name "enumerate" p) [a] [] pos) (U6 X.K 0 ta):=by
 intro aA s Y H R I h;refine Call_ (bO I hg hm Me (sY (OA (ha pos aA s Y H _ I h) λus s1 hz=>?_) hs rfl));obtain⟨vs,H1,I1,r1,q1⟩:=hz;obtain⟨l,e,⟨xs,hq⟩,q⟩:=q1;subst e
 cases r1 with
 |cons r rr =>
  cases rr;cases r;obtain⟨dA,rv,p,hz⟩:=I1.list hq;refine call_enumerate_list p.isList λh' he hit qB hk=>?_
  have I2:eA X aA Y H1 { s1 with heap:=h' }:=I1.kept (t':=s1.toks) hk;refine Fc he ?_;refine⟨s1.heap.objs.size+1,[s1.heap.objs.size+1,s1.heap.objs.size],_,_,H1,rfl,I2,Dp l _ _ 0 (Bs _),⟨⟨_,by simpa using he⟩,hit⟩,λb hb=>?_,q⟩;have hb:b=s1.heap.objs.size+1\/b=s1.heap.objs.size:=by simpa using hb
  rcases hb with rfl | rfl
  ·exact I1.oM (wK _) (I1.KA.fresh (wK _))
  ·exact I1.oM (mB _) (I1.KA.fresh (mB _))
def wRa{j:Nat}(hg:Gl X "enumerate")(hm:X.mg "enumerate"=none)(ha:PA X [a] ta)(hs:YB [a] X.env=[(false,eval a X.env)]:=by rfl) :
  PI X (.Tuple elts k0 l0a) (.Call (.Name "enumerate" p) [a] [⟨some "start",.Constant (.int 1) j kq,kp⟩] pos) (U6 X.K 1 ta):=by
 intro aA s Y H R I h;refine gR (bO I hg hm Me ?_);refine PySem.W.callWith_of (P:=λ_=>True) (by rw[hs];rfl) (λ_ _=>⟨.machine,.inr (.inl rfl),PySem.W.Looks.now⟩) (evalArgs_kw2 rfl (OA (ha pos aA s Y H _ I h) λus s1 hz=>?_) hs);obtain⟨vs,H1,I1,r1,q1⟩:=hz;obtain⟨l,e,⟨xs,hq⟩,q⟩:=q1;subst e
 cases r1 with
 |cons r rr =>
  cases rr;cases r;refine OA (bSa (nm:=some "start") (kpos:=kp) (Al (i:=1) (pos:=kq)) cSa pos aA s1 Y H1 (λzs H2=>zs=[.int 1]/\H2=H1) I1 ⟨rfl,rfl⟩) λws s2 ⟨zs,H2,I2,rz,ez,eh⟩=>⟨trivial, ?_⟩
  subst ez eh
  cases rz with
  |cons rz rn =>
   cases rn;obtain⟨t,rfl⟩:=rz;obtain⟨dA,rv,p,hz⟩:=I2.list hq;refine Uy (c:=1) (by decide) p.isList λh' he hit hk=>?_
   have I3:eA X aA Y H2 { s2 with heap:=h' }:=I2.kept (t':=s2.toks) hk;refine Fc he ?_;refine⟨s2.heap.objs.size+1,[s2.heap.objs.size+1,s2.heap.objs.size],_,_,H2,rfl,I3,Dp l _ _ 1 (Bs _),⟨⟨_,by simpa using he⟩,hit⟩,λb hb=>?_,q⟩;have hb:b=s2.heap.objs.size+1\/b=s2.heap.objs.size:=by simpa using hb
   rcases hb with rfl | rfl
   ·exact I2.oM (wK _) (I2.KA.fresh (wK _))
   ·exact I2.oM (mB _) (I2.KA.fresh (mB _))
end
end CI
namespace L2
open PySem PySem.Spec PyProof.Rows
end L2
namespace CI
open PySem PySem.Spec PyProof.Rows L2
section
variable{K:gA}{U U1:Env}
def TH{l:List O}(h:(l.set i a)[j]?=some b):(j=i/\b=a/\i<l.length)\/(j≠i/\l[j]?=some b):=by
 by_cases SJ:j=i
 ·subst SJ;by_cases hl:j<l.length
  ·rw[DK hl] at h;exact .inl ⟨rfl,(ZD h).symm,hl⟩
  ·rw[RL (by rw[SG];lia)] at h;cases h
 ·rw[iF (λz=>SJ z.symm)] at h;exact .inr ⟨SJ,h⟩
def BA.unset(r:BA K U Y H G)(i:Nat):BA K (U.set i .un) Y H G:=by
 refine⟨by rw[SG];exact r.len,r.sub,λj d h=>?_,λj d p l h=>?_,λj k d p l d' p' l' a h1 h2 h3 h4=>?_⟩
 ·rcases TH h with ⟨_,z,_⟩ | ⟨_,z⟩
  ·cases z
  ·exact r.sh j d z
 ·rcases TH h with ⟨_,z,_⟩ | ⟨_,z⟩
  ·cases z
  ·exact r.ow j d p l z
 ·rcases TH h1 with ⟨_,z,_⟩ | ⟨_,z⟩
  ·cases z
  ·rcases TH h2 with ⟨_,z',_⟩ | ⟨_,z'⟩
   ·cases z'
   ·exact r.inj _ _ _ _ _ _ _ _ _ z z' h3 h4
def yA.unset{i:Nat}{a:fA}(h:yA (U.set i .un) Y a):yA U Y a:=by
 obtain⟨j,d,p,l,h1,h2⟩:=h;rcases TH h1 with ⟨_,z,_⟩ | ⟨_,z⟩
 ·cases z
 ·exact⟨j,d,p,l,z,h2⟩
def BA.VQ(r:BA K U Y H G){d:D}(h:U[i]?=some (.ow d p l))(hx:Y[i]?=some (some (.ref a))):¬yA (U.set i .un) Y a:=by
 rintro⟨j,d',p',l',h1,h2⟩
 rcases TH h1 with ⟨_,z,_⟩ | ⟨ne,z⟩
 ·cases z
 ·exact ne (r.inj _ _ _ _ _ _ _ _ _ z h h2 hx)
def BA.grow(r:BA K U Y H G)(hv:H a=some ob)(g:G a=none)(no:¬yA U Y a):BA K U Y H (CA G a ob):=by
 refine⟨r.len,λb u e=>?_,λi d e=>?_,λi d p l e=>?_,r.inj⟩
 ·by_cases hb:b=a
  ·subst hb;rw[VC] at e;rw[hv];exact e
  ·rw[rB hb] at e;exact r.sub b u e
 ·obtain⟨v,h1,h2⟩:=r.sh i d e;exact⟨v,h1,jA.mono (Sm.put g) d h2⟩
 ·obtain⟨b,h1,h2,h3⟩:=r.ow i d p l e;have hb:b≠a:=λz=>by subst z;exact no ⟨i,d,p,l,e,h1⟩
  exact⟨b,h1,by rw[rB hb];exact h2,h3.mono (Sm.put g) λ_ z=>z⟩
def BA.MQ(r:BA K (U.set i .un) Y H G){d:D}{v:V}(hx:Y[i]?=some (some v))(hr:jA K G d v):BA K (U.set i (.sh d)) Y H G:=by
 have key:∀(j:Nat) (sl:Sl),(U.set i (.sh d))[j]?=some sl->(j=i/\sl=.sh d)\/(U.set i .un)[j]?=some sl:=λj sl h=>by
  rcases TH h with ⟨e,z,_⟩ | ⟨ne,z⟩
  ·exact .inl ⟨e,z⟩
  ·exact .inr (by rw[iF (λq=>ne q.symm)];exact z)
 refine⟨by have:=r.len;rw[SG] at this ⊢;exact this,r.sub,λj d' h=>?_,λj d' p l h=>?_,λj k d1 p l d2 p' l' a h1 h2 h3 h4=>?_⟩
 ·rcases key j _ h with ⟨rfl,z⟩ | z
  ·cases z;exact⟨v,hx,hr⟩
  ·exact r.sh j d' z
 ·rcases key j _ h with ⟨rfl,z⟩ | z
  ·cases z
  ·exact r.ow j d' p l z
 ·rcases key j _ h1 with ⟨rfl,z⟩ | z
  ·cases z
  ·rcases key k _ h2 with ⟨rfl,z'⟩ | z'
   ·cases z'
   ·exact r.inj _ _ _ _ _ _ _ _ _ z z' h3 h4
def BA.sO(r:BA K (U.set i .un) Y H G){d:D}{a:fA}(hx:Y[i]?=some (some (.ref a)))(g:G a=none)(ho:zG K H G a d)(no:¬yA (U.set i .un) Y a):BA K (U.set i (.ow d p l)) Y H G:=by
 have key:∀(j:Nat) (sl:Sl),(U.set i (.ow d p l))[j]?=some sl->(j=i/\sl=.ow d p l)\/(U.set i .un)[j]?=some sl:=λj sl h=>by
  rcases TH h with ⟨e,z,_⟩ | ⟨ne,z⟩
  ·exact .inl ⟨e,z⟩
  ·exact .inr (by rw[iF (λq=>ne q.symm)];exact z)
 refine⟨by have:=r.len;rw[SG] at this ⊢;exact this,r.sub,λj d' h=>?_,λj d' p' l' h=>?_,λj k d1 p1 l1 d2 p2 l2 b h1 h2 h3 h4=>?_⟩
 ·rcases key j _ h with ⟨rfl,z⟩ | z
  ·cases z
  ·exact r.sh j d' z
 ·rcases key j _ h with ⟨rfl,z⟩ | z
  ·cases z;exact⟨a,hx,g,ho⟩
  ·exact r.ow j d' p' l' z
 ·rcases key j _ h1 with ⟨rfl,z⟩ | z
  ·rcases key k _ h2 with ⟨rfl,z'⟩ | z'
   ·rfl
   ·rw[hx] at h3;cases h3;exact absurd ⟨k,_,_,_,z',h4⟩ no
  ·rcases key k _ h2 with ⟨rfl,z'⟩ | z'
   ·rw[hx] at h4;cases h4;exact absurd ⟨j,_,_,_,z,h3⟩ no
   ·exact r.inj _ _ _ _ _ _ _ _ _ z z' h3 h4
def yA.MQ{i:Nat}{a:fA}(h:yA (U.set i (.sh d)) Y a):yA (U.set i .un) Y a:=by
 obtain⟨j,d',p,l,h1,h2⟩:=h;rcases TH h1 with ⟨_,z,_⟩ | ⟨ne,z⟩
 ·cases z
 ·exact⟨j,d',p,l,by rw[iF (λq=>ne q.symm)];exact z,h2⟩
def yA.sO{d:D}(hx:Y[i]?=some (some (.ref b)))(h:yA (U.set i (.ow d p l)) Y a):a=b\/yA (U.set i .un) Y a:=by
 obtain⟨j,d',p',l',h1,h2⟩:=h;rcases TH h1 with ⟨rfl,z,_⟩ | ⟨ne,z⟩
 ·rw[hx] at h2;cases h2;exact .inl rfl
 ·exact .inr ⟨j,d',p',l',by rw[iF (λq=>ne q.symm)];exact z,h2⟩
def lF.grow(r:lF K H G own new Y h x)(s:bB G G2)(k:∀a d,h=.val (.ow d)->x=.ref a->G2 a=none)(w:∀a,dF a->own a):lF K H G2 dF new Y h x:=by
 induction h using Hd.casesOn with
 |slot i=>exact r
 |val v =>
  induction v using RV.casesOn with
  |sh d=>exact jA.mono s d r
  |ow d =>
   obtain⟨a,rfl,g,o,n,m⟩:=r;exact⟨a,rfl,k a d rfl rfl,o.mono s λ_ z=>z,λz=>n (w a z),m⟩
  |od d=>exact r.elim
theorem dE.TM:∀{hs:List Hd} {xs:List V} {a:fA},dE K H G own new Y hs xs->AG hs xs a->¬own a/\new a/\H a≠none/\G a=none
 |[],_,_,h,t=>by cases (show _=[] from h);exact t.elim
 |h::hs,_,a,r,t=>by
  obtain⟨x,r',rfl,h1,h2,h3⟩:=r;have tl:AG hs r' a->¬own a/\new a/\H a≠none/\G a=none:=λt=>dE.TM h2 t
  induction h using Hd.casesOn with
  |slot i=>exact tl t
  |val v =>
   induction v using RV.casesOn with
   |sh d=>exact tl t
   |ow d =>
    rcases t with rfl | t
    ·obtain⟨b,e,g,o,n,m⟩:=h1;cases e;obtain⟨vs,hv⟩:=o.there;exact⟨n,m,by rw[hv];simp,g⟩
    ·exact tl t
   |od d=>exact h1.elim
theorem dE.grow:∀{hs:List Hd} {xs:List V},dE K H G own new Y hs xs->∀{G2:Hp},bB G G2->(∀a,AG hs xs a->G2 a=none)->(∀a,dF a->own a)->dE K H G2 dF new Y hs xs
 |[],_,h,_,_,_,_=>h
 |h::hs,_,r,G2,s,k,w=>by
  obtain⟨x,r',rfl,h1,h2,h3⟩:=r;refine⟨x,r',rfl,h1.grow s (λa d e1 e2=>k a (by subst e1;exact .inl e2)) w,dE.grow h2 s (λa t=>k a ?_) w,h3⟩
  induction h using Hd.casesOn with
  |slot i=>exact t
  |val v =>
   induction v using RV.casesOn with
   |sh d=>exact t
   |ow d=>exact .inr t
   |od d=>exact h1.elim
def BA.nil(s:bB G H):BA K [] [] H G:=⟨rfl,s,λi d h=>by simp at h,λi d p l h=>by simp at h,λi j d p l d' p' l' a h=>by simp at h⟩
def BA.dS(r:BA K as τ H G)(h:jA K G d x):BA K (.sh d::as) (some x :: τ) H G:=by
 refine⟨by simp[r.len],r.sub,λi d' e=>?_,λi d' p l e=>?_,λi j d1 p l d2 p' l' a h1 h2 h3 h4=>?_⟩
 ·cases i with
  |zero=>simp at e;subst e;exact⟨x,rfl,h⟩
  |succ i=>simpa using r.sh i d' (by simpa using e)
 ·cases i with
  |zero=>simp at e
  |succ i=>simpa using r.ow i d' p l (by simpa using e)
 ·cases i with
  |zero=>simp at h1
  |succ i =>
   cases j with
   |zero=>simp at h2
   |succ j=>exact congrArg (·+1) (r.inj i j d1 p l d2 p' l' a (by simpa using h1) (by simpa using h2) (by simpa using h3) (by simpa using h4))
def BA.Ff(r:BA K as τ H G)(g:G a=none)(o:zG K H G a d)(n:¬yA as τ a):BA K (.ow d p l::as) (some (.ref a) :: τ) H G:=by
 refine⟨by simp[r.len],r.sub,λi d' e=>?_,λi d' p l e=>?_,λi j d1 p1 l1 d2 p' l' b h1 h2 h3 h4=>?_⟩
 ·cases i with
  |zero=>simp at e
  |succ i=>simpa using r.sh i d' (by simpa using e)
 ·cases i with
  |zero =>
   simp only[EI,aC,Sl.ow.injEq] at e;obtain⟨rfl,_,_⟩:=e;exact⟨a,rfl,g,o⟩
  |succ i=>simpa using r.ow i d' p l (by simpa using e)
 ·cases i with
  |zero =>
   simp only[EI,aC,V.ref.injEq] at h3;subst h3
   cases j with
   |zero=>rfl
   |succ j=>exact absurd ⟨j,d2,p',l',by simpa using h2,by simpa using h4⟩ n
  |succ i =>
   cases j with
   |zero =>
    simp only[EI,aC,V.ref.injEq] at h4;subst h4;exact absurd ⟨i,d1,p1,l1,by simpa using h1,by simpa using h3⟩ n
   |succ j=>exact congrArg (·+1) (r.inj i j d1 p1 l1 d2 p' l' b (by simpa using h1) (by simpa using h2) (by simpa using h3) (by simpa using h4))
def yA.cons{as:List Sl}{τ:St}{sl:Sl}{v:Option V}{a:fA}(h:yA (sl::as) (v :: τ) a):(∃d p l,sl=.ow d p l/\v=some (.ref a))\/yA as τ a:=by
 obtain⟨i,d,p,l,h1,h2⟩:=h
 cases i with
 |zero=>exact .inl ⟨d,p,l,by simpa using h1,by simpa using h2⟩
 |succ i=>exact .inr ⟨i,d,p,l,by simpa using h1,by simpa using h2⟩
structure Xt(K:gA)(U:Env)(Y:St)(H G:Hp)(hs:List Hd)(xs:List V)(as:List Sl)(U1:Env)(G2:Hp):Prop where
 gg:bB G G2
 gn:∀a,G2 a≠none->G a≠none\/yA U Y a\/AG hs xs a
 ra:BA K as (xs.map some) H G2
 rc:BA K U1 Y H G2
 ao:∀a,yA as (xs.map some) a->yA U Y a\/AG hs xs a
 an:∀a,yA as (xs.map some) a->¬yA U1 Y a
 ro:∀a,yA U1 Y a->yA U Y a
section
variable{p:Bool}{ps:List Bool}{hs:List Hd}{d:D}{U:Env}{i:Nat}
theorem nJa:aAi (p::ps) (.val (.sh d)::hs) U=(aAi ps hs U).map λ(as,U')=>(.sh d::as,U'):=rfl
theorem mJa:aAi (p::ps) (.val (.ow d)::hs) U=(aAi ps hs U).map λ(as,U')=>((if p then .ow d true false else .sh d)::as,U'):=rfl
theorem LW:aAi (p::ps) (.slot i::hs) U=(match U[i]? with
  |some (.sh d)=>(aAi ps hs U).map λ(as,U')=>(.sh d::as,U')
  |some (.ow d pin lk) =>
   match p with
   |true=>(aAi ps hs (U.set i .un)).map λ(as,U')=>(.ow d true lk::as,U')
   |false=>if pin||lk then none else(aAi ps hs (U.set i (.sh d))).map λ(as,U')=>(.sh d::as,U')
  |_=>none):=rfl
end
theorem dO:∀(hs:List Hd) (aA:List Bool) (U:Env) (G:Hp) (xs:List V) (as:List Sl) (U1:Env),BA K U Y H G->dE K H G (yA U Y) new Y hs xs->aAi aA hs U=some (as,U1) ->
  ∃G2,Xt K U Y H G hs xs as U1 G2
 |[],aA,U,G,xs,as,U1,r,h,e=>by
  cases (show xs=[] from h)
  induction aA using XB with
  |cons p ps=>cases e
  |nil =>
   replace e:some ([],U)=some (as,U1):=e;simp only[aC,aE] at e;obtain⟨rfl,rfl⟩:=e;exact⟨G,bB.refl _,λa z=>.inl z,BA.nil r.sub,r,λa ⟨i,d,p,l,z,_⟩=>by simp at z,λa ⟨i,d,p,l,z,_⟩=>by simp at z,λ_ z=>z⟩
 |.val (.sh d)::hs,aA,U,G,xs,as,U1,r,h,e=>by
  obtain⟨x,r',rfl,h1,h2,h3⟩:=h
  induction aA using XB with
  |nil=>cases e
  |cons p ps =>
   rw[nJa] at e
   cases q:aAi ps hs U with
   |none=>rw[q] at e;cases e
   |some y =>
    obtain⟨QA,U'⟩:=y;rw[q] at e;simp only[EE,aC,aE] at e;obtain⟨rfl,rfl⟩:=e;obtain⟨G2,L⟩:=dO hs ps U G r' QA U' r h2 q;refine⟨G2,L.gg,L.gn,L.ra.dS (jA.mono L.gg d h1),L.rc,λa z=>?_,λa z=>?_,L.ro⟩
    ·rcases z.cons with ⟨_,_,_,z,_⟩ | z
     ·cases z
     ·exact L.ao a z
    ·rcases z.cons with ⟨_,_,_,z,_⟩ | z
     ·cases z
     ·exact L.an a z
 |.val (.ow d)::hs,aA,U,G,xs,as,U1,r,h,e=>by
  obtain⟨x,r',rfl,h1,h2,h3⟩:=h;obtain⟨b,rfl,g,o,n,m⟩:=h1;have nt:¬AG hs r' b:=h3 d b rfl rfl
  induction aA using XB with
  |nil=>cases e
  |cons p ps =>
   rw[mJa] at e
   cases q:aAi ps hs U with
   |none=>rw[q] at e;cases e
   |some y =>
    obtain⟨QA,U'⟩:=y;rw[q] at e;simp only[EE,aC,aE] at e;obtain⟨rfl,rfl⟩:=e
    induction p using IU with
    |true =>
     obtain⟨G2,L⟩:=dO hs ps U G r' QA U' r h2 q
     have g2:G2 b=none:=by
      cases w:G2 b with
      |none=>rfl
      |some o' =>
       rcases L.gn b (by rw[w];simp) with z | z | z
       ·exact absurd g z
       ·exact absurd z n
       ·exact absurd z nt
     have nb:¬yA QA (r'.map some) b:=λz=>by
      rcases L.ao b z with z | z
      ·exact n z
      ·exact nt z
     refine⟨G2,L.gg,λa z=>?_,L.ra.Ff g2 (o.mono L.gg λ_ z=>z) nb,L.rc,λa z=>?_,λa z=>?_,L.ro⟩
     ·rcases L.gn a z with z | z | z
      ·exact .inl z
      ·exact .inr (.inl z)
      ·exact .inr (.inr (.inr z))
     ·rcases z.cons with ⟨_,_,_,_,z⟩ | z
      ·cases z;exact .inr (.inl rfl)
      ·rcases L.ao a z with z | z
       ·exact .inl z
       ·exact .inr (.inr z)
     ·rcases z.cons with ⟨_,_,_,_,z⟩ | z
      ·cases z;exact λw=>n (L.ro _ w)
      ·exact L.an a z
    |false =>
     obtain⟨ob,hv,hr⟩:=o.put
     have tb:∀a,AG hs r' a->(CA G b ob) a=none:=λa z=>by
      have hb:a≠b:=λw=>by subst w;exact nt z
      rw[rB hb];exact(h2.TM z).2.2.2
     obtain⟨G2,L⟩:=dO hs ps U (CA G b ob) r' QA U' (r.grow hv g n) (h2.grow (bB.put g) tb λ_ z=>z) q;refine⟨G2,(bB.put g).trans L.gg,λa z=>?_,L.ra.dS ?_,L.rc,λa z=>?_,λa z=>?_,L.ro⟩
     ·by_cases hb:a=b
      ·subst hb;exact .inr (.inr (.inl rfl))
      ·rcases L.gn a z with z | z | z
       ·rw[rB hb] at z;exact .inl z
       ·exact .inr (.inl z)
       ·exact .inr (.inr (.inr z))
     ·exact hr _ (Sm.of ((bB.put g).trans L.gg)) (L.gg _ _ VC)
     ·rcases z.cons with ⟨_,_,_,z,_⟩ | z
      ·simp at z
      ·rcases L.ao a z with z | z
       ·exact .inl z
       ·exact .inr (.inr z)
     ·rcases z.cons with ⟨_,_,_,z,_⟩ | z
      ·simp at z
      ·exact L.an a z
 |.slot i::hs,aA,U,G,xs,as,U1,r,h,e=>by
  obtain⟨x,r',rfl,h1,h2,h3⟩:=h;have h1:Y[i]?=some (some x):=h1
  induction aA using XB with
  |nil=>cases e
  |cons p ps =>
   rw[LW] at e;split at e
   ·rename_i d hd
    cases q:aAi ps hs U with
    |none=>rw[q] at e;cases e
    |some y =>
     obtain⟨QA,U'⟩:=y;rw[q] at e;simp only[EE,aC,aE] at e;obtain⟨rfl,rfl⟩:=e;obtain⟨G2,L⟩:=dO hs ps U G r' QA U' r h2 q;obtain⟨v,h4,h5⟩:=r.sh i d hd;rw[h1] at h4;cases h4;refine⟨G2,L.gg,L.gn,L.ra.dS (jA.mono L.gg d h5),L.rc,λa z=>?_,λa z=>?_,L.ro⟩
     ·rcases z.cons with ⟨_,_,_,z,_⟩ | z
      ·cases z
      ·exact L.ao a z
     ·rcases z.cons with ⟨_,_,_,z,_⟩ | z
      ·cases z
      ·exact L.an a z
   ·rename_i d pin lk hd;obtain⟨b,h4,g,o⟩:=r.ow i d pin lk hd;rw[h1] at h4;cases h4;have nQ:yA U Y b:=⟨i,d,pin,lk,hd,h1⟩
    have nt:¬AG hs r' b:=λz=>(h2.TM z).1 nQ
    have nu:¬yA (U.set i .un) Y b:=r.VQ hd h1
    induction p using IU with
    |true =>
     simp only at e
     cases q:aAi ps hs (U.set i .un) with
     |none=>rw[q] at e;cases e
     |some y =>
      obtain⟨QA,U'⟩:=y;rw[q] at e;simp only[EE,aC,aE] at e;obtain⟨rfl,rfl⟩:=e;obtain⟨G2,L⟩:=dO hs ps (U.set i .un) G r' QA U' (r.unset i) (h2.grow (bB.refl _) (λa z=>(h2.TM z).2.2.2) λa z=>z.unset) q
      have g2:G2 b=none:=by
       cases w:G2 b with
       |none=>rfl
       |some o' =>
        rcases L.gn b (by rw[w];simp) with z | z | z
        ·exact absurd g z
        ·exact absurd z nu
        ·exact absurd z nt
      have nb:¬yA QA (r'.map some) b:=λz=>by
       rcases L.ao b z with z | z
       ·exact nu z
       ·exact nt z
      refine⟨G2,L.gg,λa z=>?_,L.ra.Ff g2 (o.mono L.gg λ_ z=>z) nb,L.rc,λa z=>?_,λa z=>?_,λa z=>(L.ro a z).unset⟩
      ·rcases L.gn a z with z | z | z
       ·exact .inl z
       ·exact .inr (.inl z.unset)
       ·exact .inr (.inr z)
      ·rcases z.cons with ⟨_,_,_,_,z⟩ | z
       ·cases z;exact .inl nQ
       ·rcases L.ao a z with z | z
        ·exact .inl z.unset
        ·exact .inr z
      ·rcases z.cons with ⟨_,_,_,_,z⟩ | z
       ·cases z;exact λw=>nu (L.ro _ w)
       ·exact L.an a z
    |false =>
     simp only at e;split at e
     ·cases e
     ·cases q:aAi ps hs (U.set i (.sh d)) with
      |none=>rw[q] at e;cases e
      |some y =>
       obtain⟨QA,U'⟩:=y;rw[q] at e;simp only[EE,aC,aE] at e;obtain⟨rfl,rfl⟩:=e;obtain⟨ob,hv,hr⟩:=o.put
       have tb:∀a,AG hs r' a->(CA G b ob) a=none:=λa z=>by
        have hb:a≠b:=λw=>by subst w;exact nt z
        rw[rB hb];exact(h2.TM z).2.2.2
       have rb:∀G2,bB (CA G b ob) G2->jA K G2 d (.ref b):=λG2 s2=>hr _ (Sm.of ((bB.put g).trans s2)) (s2 _ _ VC)
       obtain⟨G2,L⟩:=dO hs ps (U.set i (.sh d)) (CA G b ob) r' QA U' (((r.unset i).grow hv g nu).MQ h1 (rb _ (bB.refl _)))
        (h2.grow (bB.put g) tb λa z=>z.MQ.unset) q
       refine⟨G2,(bB.put g).trans L.gg,λa z=>?_,L.ra.dS (rb G2 L.gg),L.rc,λa z=>?_,λa z=>?_,λa z=>(L.ro a z).MQ.unset⟩
       ·by_cases hb:a=b
        ·subst hb;exact .inr (.inl nQ)
        ·rcases L.gn a z with z | z | z
         ·rw[rB hb] at z;exact .inl z
         ·exact .inr (.inl z.MQ.unset)
         ·exact .inr (.inr z)
       ·rcases z.cons with ⟨_,_,_,z,_⟩ | z
        ·cases z
        ·rcases L.ao a z with z | z
         ·exact .inl z.MQ.unset
         ·exact .inr z
       ·rcases z.cons with ⟨_,_,_,z,_⟩ | z
        ·cases z
        ·exact L.an a z
   ·cases e
end
section
variable{K:gA}
def BA.keep(r:BA K U Y H G)(e:Ext own H G H' G')(n:∀a,yA U Y a->¬own a)(s:bB G' H'):BA K U Y H' G':=by
 refine⟨r.len,s,λi d h=>?_,λi d p l h=>?_,r.inj⟩
 ·obtain⟨v,h1,h2⟩:=r.sh i d h;exact⟨v,h1,jA.mono e.gg d h2⟩
 ·obtain⟨a,h1,g,o⟩:=r.ow i d p l h;have na:=n a ⟨i,d,p,l,h,h1⟩;obtain⟨vs,hv⟩:=o.there;exact⟨a,h1,e.gn a (by rw[hv];simp) g na,o.mono e.gg λo' h'=>e.hh a o' h' na⟩
def BA.tail(r:BA K (a::as) (v :: τ) H G):BA K as τ H G:=by
 refine⟨by have:=r.len;simpa using this,r.sub,λi d h=>?_,λi d p l h=>?_,λi j d p l d' p' l' b h1 h2 h3 h4=>?_⟩
 ·simpa using r.sh (i+1) d (by simpa using h)
 ·simpa using r.ow (i+1) d p l (by simpa using h)
 ·have:=r.inj (i+1) (j+1) d p l d' p' l' b (by simpa using h1) (by simpa using h2) (by simpa using h3) (by simpa using h4)
  lia
def yA.tail(h:yA as τ b):yA (a::as) (v :: τ) b:=by
 obtain⟨i,d,p,l,h1,h2⟩:=h;exact⟨i+1,d,p,l,by simpa using h1,by simpa using h2⟩
def Dg{i:Nat}{ps:List Bool}{hs:List Hd}{a:Sl}{as:List Sl}{U0 U U':Env}(e:aAf (true::ps) (.slot i::hs) (a::as) U0 U=some U') :
  (∃d0 pin lk d p' l',U0[i]?=some (.ow d0 pin lk)/\a=.ow d p' l'/\aAf ps hs as U0 (U.set i (.ow d pin lk))=some U')\/(∀d p l,U0[i]?≠some (.ow d p l))/\aAf ps hs as U0 U=some U':=by
 replace e:(match (generalizing:=false) U0[i]?,a with
  |some (.ow _ pin lk),.ow d _ _=>aAf ps hs as U0 (U.set i (.ow d pin lk))
  |some (.ow _ _ _),_=>none
  |_,_=>aAf ps hs as U0 U)=some U':=e
 generalize U0[i]?=o at e ⊢
 induction o using VG with
 |none=>exact .inr ⟨λ_ _ _ z=>(nomatch z),e⟩
 |some s=>cases s with
  |ow d0 pin lk=>cases a with
   |ow d p' l'=>exact .inl ⟨_,_,_,_,_,_,rfl,rfl,e⟩
   |_=>exact nomatch (show(none:Option Env)=some U' from e)
  |_=>exact .inr ⟨λ_ _ _ z=>(nomatch z),e⟩
theorem J5:∀(hs:List Hd) (aA:List Bool) (as:List Sl) (xs:List V) (U U':Env),BA K as (xs.map some) H G->BA K U Y H G->(∀a,yA as (xs.map some) a->¬yA U Y a)->dE K H0 G0 own new Y hs xs ->
  aAf aA hs as U0 U=some U'->BA K U' Y H G/\∀a,yA U' Y a->yA U Y a\/yA U0 Y a
 |[],aA,as,xs,U,U',ra,r,n,h,e=>by
  induction aA using XB with
  |nil =>
   induction as using XB with
   |nil =>
    cases e;exact⟨r,λ_ z=>.inl z⟩
   |cons a as=>cases e
  |cons p ps=>cases p<;>cases as<;>cases e
 |h::hs,aA,as,xs,U,U',ra,r,n,hh,e=>by
  obtain⟨x,r',rfl,h1,h2,h3⟩:=hh
  induction aA using XB with
  |nil=>cases e
  |cons p ps =>
   induction as using XB with
   |nil=>cases p<;>cases h<;>cases e
   |cons a QA =>
    have skip:aAf ps hs QA U0 U=some U'->BA K U' Y H G/\∀a,yA U' Y a->yA U Y a\/yA U0 Y a:=λe' =>
     J5 hs ps QA r' U U' ra.tail r (λb z=>n b z.tail) h2 e'
    induction p using IU with
    |false=>cases h<;>exact skip e
    |true =>
     induction h using Hd.casesOn with
     |val v=>exact skip e
     |slot i =>
      have h1:Y[i]?=some (some x):=h1;rcases Dg e with ⟨_,pin,lk,d,p',l',hi,rfl,eg⟩ | ⟨_,eg⟩
      ·replace e:=eg;obtain⟨b,hb,g,o⟩:=ra.ow 0 d p' l' rfl;simp only[KC,EI,aC] at hb;subst hb;have nb:¬yA U Y b:=n b ⟨0,d,p',l',rfl,rfl⟩;have r2:BA K (U.set i (.ow d pin lk)) Y H G:=(r.unset i).sO h1 g o λz=>nb z.unset
       obtain⟨r3,r4⟩:=J5 hs ps QA r' (U.set i (.ow d pin lk)) U' ra.tail r2 (λc z w=>by
        rcases w.sO h1 with rfl | w
        ·obtain⟨j,d2,p2,l2,z1,z2⟩:=z
         have:=ra.inj 0 (j+1) d p' l' d2 p2 l2 c rfl (by simpa using z1) rfl (by simpa using z2)
         lia
        ·exact n c z.tail w.unset) h2 e
       refine⟨r3,λc z=>?_⟩;rcases r4 c z with z | z
       ·rcases z.sO h1 with rfl | z
        ·exact .inr ⟨i,_,pin,lk,hi,h1⟩
        ·exact .inl z.unset
       ·exact .inr z
      ·exact skip eg
def CJ(aA:List Bool)(hs:List Hd)(i:Nat):Prop:=∃j:Nat,aA[j]?=some true/\hs[j]?=some (.slot i)
def CJ.cons{p:Bool}{ps:List Bool}{h:Hd}{hs:List Hd}{i:Nat}(l:CJ ps hs i):CJ (p::ps) (h::hs) i:=by
 obtain⟨j,h1,h2⟩:=l;exact⟨j+1,by simpa using h1,by simpa using h2⟩
theorem Hj:∀(hs:List Hd) (aA:List Bool) (U:Env) (as:List Sl) (U1:Env),aAi aA hs U=some (as,U1)->∀i:Nat,GF U[i]? U1[i]?\/(CJ aA hs i/\∃d p l,U[i]?=some (.ow d p l))
 |[],aA,U,as,U1,e,i=>by
  cases aA<;>cases e;exact .inl (GF.refl _)
 |h::hs,aA,U,as,U1,e,i=>by
  induction aA using XB with
  |nil=>cases h with
   |slot i=>cases e
   |val v=>cases v<;>cases e
  |cons p ps =>
   have fin:∀{U':Env} {g:Sl},(aAi ps hs U').map (λ(as,U')=>(g::as,U'))=some (as,U1)->GF U'[i]? U1[i]?\/(CJ ps hs i/\∃d p l,U'[i]?=some (.ow d p l)):=by
    intro U' g e
    cases q:aAi ps hs U' with
    |none=>rw[q] at e;cases e
    |some y =>
     obtain⟨QA,U2⟩:=y;rw[q] at e;simp only[EE,aC,aE] at e;obtain⟨_,rfl⟩:=e;exact Hj hs ps U' QA U2 q i
   have same:∀{g:Sl},(aAi ps hs U).map (λ(as,U')=>(g::as,U'))=some (as,U1)->GF U[i]? U1[i]?\/(CJ (p::ps) (h::hs) i/\∃d p l,U[i]?=some (.ow d p l)):=by
    intro g e;rcases fin e with z | ⟨z,w⟩
    ·exact .inl z
    ·exact .inr ⟨z.cons,w⟩
   induction h using Hd.casesOn with
   |val v=>cases v<;>first | exact same e | cases e
   |slot i0 =>
    rw[LW] at e;split at e
    ·exact same e
    ·rename_i d pin lk hd
     induction p using IU with
     |true =>
      simp only at e;by_cases hi:i=i0
      ·subst hi;exact .inr ⟨⟨0,rfl,rfl⟩,d,pin,lk,hd⟩
      ·have:=fin e
       rw[iF (λz=>hi z.symm)] at this;rcases this with z | ⟨z,w⟩
       ·exact .inl z
       ·exact .inr ⟨z.cons,w⟩
     |false =>
      simp only at e;split at e
      ·cases e
      ·rename_i hp;simp only[KL,not_or,TY] at hp;have Zf:rE U (U.set i0 (.sh d)):=rE.set (by rw[hd];exact hp.1);rcases fin e with z | ⟨z,d',p',l',w⟩
       ·exact .inl ((Zf i).trans z)
       ·have:=Zf i
        rw[w] at this;obtain⟨d2,e2⟩:=this.jl;exact .inr ⟨z.cons,d2,p',l',e2⟩
    ·cases e
theorem F5:∀(hs:List Hd) (aA:List Bool) (as:List Sl) (U U':Env),aAf aA hs as U0 U=some U'->∀i:Nat,(U'[i]?=U[i]?\/∃d d' p l,U0[i]?=some (.ow d p l)/\U'[i]?=some (.ow d' p l)) /\
  (CJ aA hs i->(∃d p l,U0[i]?=some (.ow d p l))->i<U.length->∃d d' p l,U0[i]?=some (.ow d p l)/\U'[i]?=some (.ow d' p l))
 |[],aA,as,U,U',e,i=>by
  induction aA using XB with
  |nil =>
   induction as using XB with
   |nil =>
    cases e;exact⟨.inl rfl,λ⟨j,h,_⟩=>by simp at h⟩
   |cons a as=>cases e
  |cons p ps=>cases p<;>cases as<;>cases e
 |h::hs,aA,as,U,U',e,i=>by
  induction aA using XB with
  |nil=>cases e
  |cons p ps =>
   induction as using XB with
   |nil=>cases p<;>cases h<;>cases e
   |cons a QA =>
    have Gp:¬(p=true/\h=.slot i)->CJ (p::ps) (h::hs) i->CJ ps hs i:=λn hz=>by
     obtain⟨j,h1,h2⟩:=hz
     cases j with
     |zero =>
      simp only[EI,aC] at h1 h2;exact absurd ⟨h1,h2⟩ n
     |succ j=>exact⟨j,by simpa using h1,by simpa using h2⟩
    have skip:¬(p=true/\h=.slot i)\/¬(∃d p l,U0[i]?=some (.ow d p l))->aAf ps hs QA U0 U=some U'->(U'[i]?=U[i]?\/∃d d' p l,U0[i]?=some (.ow d p l)/\U'[i]?=some (.ow d' p l)) /\
      (CJ (p::ps) (h::hs) i->(∃d p l,U0[i]?=some (.ow d p l))->i<U.length->∃d d' p l,U0[i]?=some (.ow d p l)/\U'[i]?=some (.ow d' p l)):=λn e'=>by
     obtain⟨h1,h2⟩:=F5 hs ps QA U U' e' i;refine⟨h1,λl o=>?_⟩;rcases n with n | n
     ·exact h2 (Gp n l) o
     ·exact absurd o n
    induction p using IU with
    |false=>cases h<;>exact skip (.inl (by simp)) e
    |true =>
     induction h using Hd.casesOn with
     |val v=>exact skip (.inl (by simp)) e
     |slot i0 =>
      rcases Dg e with ⟨d0,pin,lk,d,p',l',hi,rfl,eg⟩ | ⟨hn1,eg⟩
      ·replace e:=eg;obtain⟨h1,h2⟩:=F5 hs ps QA _ U' e i;by_cases kQ:i=i0
       ·subst kQ;refine⟨?_,λl o hl=>?_⟩
        ·rcases h1 with h1 | h1
         ·by_cases hl:i<U.length
          ·rw[DK hl] at h1;exact .inr ⟨_,_,_,_,hi,h1⟩
          ·exact .inl (by rw[h1,RL (by rw[SG];lia),RL (by lia)])
         ·exact .inr h1
        ·rcases h1 with h1 | h1
         ·rw[DK hl] at h1;exact⟨_,_,_,_,hi,h1⟩
         ·exact h1
       ·rw[iF (λz=>kQ z.symm)] at h1;refine⟨h1,λl o hl=>h2 (Gp (λz=>kQ (by have:=z.2;simp at this;exact this.symm)) l) o (by rw[SG];exact hl)⟩
      ·refine skip ?_ eg;by_cases kQ:i=i0
       ·subst kQ;refine .inr λhz=>?_
        obtain⟨d,p,l,z⟩:=hz;exact hn1 d p l z
       ·exact .inl λz=>kQ (by have:=z.2;simp at this;exact this.symm)
def xV(a:AA K U0 Y H0 G0 U H G)(h:dE K H G (yA U Y) (uE H0) Y hs xs)(e:ND aA f hs U=some (.ok v,U')) :
  ∃as G2 QA,BA K as (xs.map some) H G2/\as.length=aA.length/\f as=some (.ok v,QA)/\(bB G G2/\∀c,yA as (xs.map some) c->yA U Y c\/AG hs xs c)/\∀x H' G',AA K as (xs.map some) H G2 QA H' G'->NC K H' G' (yA QA (xs.map some)) (uE H) v x ->
   AA K U0 Y H0 G0 U' H' G'/\NC K H' G' (yA U' Y) (uE H0) v x:=by
 unfold ND at e
 cases q:aAi aA hs U with
 |none=>rw[q] at e;cases e
 |some y =>
  obtain⟨as,U1⟩:=y;rw[q] at e;simp only at e
  cases q2:f as with
  |none=>rw[q2] at e;cases e
  |some y =>
   obtain⟨o,QA⟩:=y;rw[q2] at e;simp only at e
   cases q3:aAf aA hs QA U U1 with
   |none=>rw[q3] at e;cases e
   |some U2 =>
    rw[q3] at e;simp only[EE,aC,aE] at e;obtain⟨rfl,rfl⟩:=e;obtain⟨G2,L⟩:=dO hs aA U G xs as U1 a.oA h q;refine⟨as,G2,QA,L.ra, ?_,q2,⟨L.gg,L.ao⟩,λx H' G' b hv=>?_⟩
    ·have:∀(hs:List Hd) (aA:List Bool) (U:Env) (as:List Sl) (U1:Env),aAi aA hs U=some (as,U1)->as.length=aA.length:=by
      intro hs
      induction hs with
      |nil =>
       intro aA U as U1 e;cases aA<;>cases e;rfl
      |cons h hs ih =>
       intro aA U as U1 e
       induction aA using XB with
       |nil=>cases h with
        |slot i=>cases e
        |val v=>cases v<;>cases e
       |cons p ps =>
        have fin:∀{o:Option (List Sl×Env)} {g:Sl},(o.map λ(as,U')=>(g::as,U'))=some (as,U1)->(∀QA U',o=some (QA,U')->QA.length=ps.length)->as.length=(p::ps).length:=by
         intro o g e k
         induction o using VG with
         |none=>cases e
         |some y =>
          obtain⟨QA,U'⟩:=y;simp only[EE,aC,aE] at e;rw[<- e.1,QC,QC,k QA U' rfl]
        induction h using Hd.casesOn with
        |slot i =>
         rw[LW] at e;split at e
         ·exact fin e λQA U' z=>ih _ _ _ _ z
         ·split at e
          ·exact fin e λQA U' z=>ih _ _ _ _ z
          ·split at e
           ·cases e
           ·exact fin e λQA U' z=>ih _ _ _ _ z
         ·cases e
        |val v =>
         induction v using RV.casesOn with
         |sh d=>exact fin e λQA U' z=>ih _ _ _ _ z
         |ow d=>exact fin e λQA U' z=>ih _ _ _ _ z
         |od d=>cases e
     exact this hs aA U as U1 q
    ·have own_there:∀c,yA as (xs.map some) c->H c≠none:=λc z=>(L.ra.owned z).1
     have rc:BA K U1 Y H' G':=L.rc.keep b.ext (λc z w=>L.an c w z) b.oA.sub;obtain⟨r3,r4⟩:=J5 hs aA QA xs U1 U2 b.oA rc (λc z w=>L.an c (b.own c z) w) h q3
     have Z8:∀c,yA U2 Y c->yA U Y c:=λc z=>by
      rcases r4 c z with z | z
      ·exact L.ro c z
      ·exact z
     have nQ:∀c,yA as (xs.map some) c->yA U0 Y c\/H0 c=none:=λc z=>by
      rcases L.ao c z with z | z
      ·exact .inl (a.own c z)
      ·exact .inr (h.TM z).2.1
     have Zz:rE U U2:=λi=>by
      obtain⟨g1,g2⟩:=F5 hs aA QA U1 U2 q3 i;rcases Hj hs aA U as U1 q i with z | ⟨z,o⟩
      ·rcases g1 with g1 | ⟨d,d',p,l,w1,w2⟩
       ·rw[g1];exact z
       ·rw[w1,w2];exact⟨rfl,rfl⟩
      ·have hl:i<U1.length:=by
        obtain⟨d,p,l,o⟩:=o;rw[L.rc.len,<- a.oA.len];exact(RD.mp o).1
       obtain⟨d,d',p,l,w1,w2⟩:=g2 z o hl;rw[w1,w2];exact⟨rfl,rfl⟩
     refine⟨⟨r3,⟨a.ext.gg.trans ((Sm.of L.gg).trans b.ext.gg),λc o hc nc=>?_,λc z=>a.ext.hx c (b.ext.hx c z),λc hc gc nc=>?_⟩,a.KJ.trans Zz⟩, ?_⟩
     ·refine b.ext.hh c o (a.ext.hh c o hc nc) λz=>?_
      rcases nQ c z with z | z
      ·exact nc z
      ·rw[hc] at z;cases z
     ·have OH:H c≠none:=λz=>hc (a.ext.hx c z)
      have g1:G c=none:=a.ext.gn c hc gc nc
      have g2:G2 c=none:=by
       cases w:G2 c with
       |none=>rfl
       |some o =>
        rcases L.gn c (by rw[w];simp) with z | z | z
        ·exact absurd g1 z
        ·exact absurd (a.own c z) nc
        ·exact absurd (h.TM z).2.1 hc
      refine b.ext.gn c OH g2 λz=>?_
      rcases nQ c z with z | z
      ·exact nc z
      ·exact hc z
     ·induction v using RV.casesOn with
      |sh d=>exact hv
      |ow d =>
       obtain⟨c,rfl,g,o,n,m⟩:=hv;exact⟨c,rfl,g,o,λz=>(a.oA.owned (Z8 c z)).1 m,a.ext.hx c m⟩
      |od d =>
       obtain⟨c,rfl,g,o,n,m,vs,hv,hr⟩:=hv;exact⟨c,rfl,g,o,λz=>(a.oA.owned (Z8 c z)).1 m,a.ext.hx c m,vs,hv,λx hx=>let ⟨b,ws,h1,h2,h3,h4,h5,h6⟩:=hr x hx;⟨b,ws,h1,h2,h3,λz=>(a.oA.owned (Z8 b z)).1 h5,a.ext.hx b h5,h6⟩⟩
def iX(x:Exc)(o:xA RV):xA RV :=
 match o with
 |some (Out.ex y,QA)=>@ite _ (y=x) (cl _) (some (Out.ok (.sh .lA),QA)) none
 |_=>none
def dNa(h:iX x o=some (.ok v,QA)):o=some (.ex x,QA):=by
 unfold iX at h;split at h
 ·split at h
  ·rename_i hy;cases h;rw[hy]
  ·cases h
 ·cases h
def Iy(a:AA K U0 Y H0 G0 U H G)(h:dE K H G (yA U Y) (uE H0) Y hs xs)(e:ND aA f hs U=some (.ex x,U')) :
  ∃as G2 QA,BA K as (xs.map some) H G2/\as.length=aA.length/\f as=some (.ex x,QA)/\∀H' G',AA K as (xs.map some) H G2 QA H' G'->AA K U0 Y H0 G0 U' H' G':=by
 have e':ND aA (λas=>iX x (f as)) hs U=some (.ok (.sh .lA),U'):=by
  unfold ND at e ⊢
  cases q:aAi aA hs U with
  |none=>rw[q] at e;cases e
  |some y =>
   obtain⟨as,U1⟩:=y;rw[q] at e;simp only at e ⊢
   cases q2:f as with
   |none=>rw[q2] at e;cases e
   |some y =>
    obtain⟨o,QA⟩:=y;rw[q2] at e;simp only at e
    cases q3:aAf aA hs QA U U1 with
    |none=>rw[q3] at e;cases e
    |some U2 =>
     rw[q3] at e;simp only[EE,aC,aE] at e;obtain⟨rfl,rfl⟩:=e;have z:iX x (some (.ex x,QA))=some (.ok (.sh .lA),QA):=GA rfl;rw[z];simp only[q3,EE]
 obtain⟨as,G2,QA,h1,h2,h3,_,h4⟩:=xV a h e';exact⟨as,G2,QA,h1,h2,dNa h3,λH' G' b=>(h4 .lA H' G' b (by show jA K G' .lA _;simp[jA])).1⟩
end
inductive GV where
 |no | c (d:D) | fn (f:String) | BB | cls (ns:List bA) | sF (tb:List (bA×String)) | sub (s n:List bA) | AI (s n:List bA) | exc | LJ | IA (cs:List bA)
structure CC where
 N:List bA
 names:List (bA×wJ)
 gl:bA->GV
 top:Bool
noncomputable def CC.l7(Z:CC)(x:bA):Bool:=Z.names.lookup x==some .globalImplicit
noncomputable def CC.di(Z:CC)(x:bA):Bool:=Z.names.lookup x==some .local||Z.names.lookup x==some .cell||Z.names.lookup x==some .free
noncomputable def QK(x:bA):Bool:=x==("__debug__":bA)||x==("__classdict__":bA)||x==("__name__":bA)
def CC.slot(Z:CC)(x:bA):Option Nat:=if QK x then none else if Z.di x then Z.N.idxOf? x else none
def CC.glob(Z:CC)(x:bA):GV:=if QK x then .no else if Z.l7 x then Z.gl x else .no
def FN(Z:CC)(x:bA):E :=
 match Z.slot x with
 |some i=>.v i
 |none=>match Z.glob x with
  |.c d=>.c d
  |_=>.pA
noncomputable def XR:Const->E
 |.none=>.c .lA
 |.bool b=>.c (.bl b)
 |.int i=>.c (.int i)
 |.str s=>if cP s then .c (.str s) else .pA
 |_=>.pA
noncomputable def Z0(f:bA):Option BI :=
 if f=("len":bA) then some .len else if f=("abs":bA) then some .abs else if f=("int":bA) then some .int else if f=("list":bA) then some .list
 else if f=("tuple":bA) then some .tuple else if f=("min":bA) then some .min else if f=("max":bA) then some .max else if f=("all":bA) then some .all else if f=("sorted":bA) then some .sorted else none
def X0(f:bA):Option BI:=Z0 f
def bY(Z:CC):vA->Option Ty
 |.Name x _=>match Z.glob x with
  |.BB=>if x=("int":bA) then some .int else if x=("bool":bA) then some .bool else if x=("tuple":bA) then some .tuple else none
  |_=>none
 |_=>none
def HC{p:Prop}(h:false=true):p:=nomatch h
def KQ{p:Prop}(h:none=some a):p:=nomatch h
noncomputable def aAw:vA->Option bA
 |.Name x _=>some x
 |_=>none
noncomputable def pT:E->E
 |.mH=>.pA
 |c=>c
noncomputable def aAd:vA->Bool
 |.Starred _ _=>false
 |_=>true
noncomputable def col(x:bA):bA:=⟨#[58]++x.cps⟩
noncomputable def cat(x:bA):bA:=⟨#[94]++x.cps⟩
def CC.bQ(Z:CC)(x:bA):GV:=if QK x then .no else if Z.l7 x then Z.gl (cat x) else .no
noncomputable def Wn(Z:CC)(t:vA)(a:E):E:=.pA
def aO(Z:CC)(args:List vA)(cs:List E):E :=
 match args,cs with
 |[_,t],[a,_]=>(match bY Z t with | some ty=>.zM a [ty] | none=>Wn Z t a)
 |_,_=>.pA
noncomputable def aAU:vA->Option Int
 |.Constant (.int a) _ _=>some a
 |_=>none
noncomputable def vV(cs es:List E):E:=match cs,es with
 |[c],[e]=>.fS c e
 |_,_=>.pA
noncomputable def Mf:E:=.pA
def Nf(k v:vA)(cs es:List E):E:=vV cs es
def wV(ks:List (Option vA))(vs:List vA)(cs es:List E):E:=match ks with
 |[]=>(match vs with | []=>Mf | _::_=>.pA)
 |k::r=>(match r with
  |_::_=>.pA
  |[]=>(match k with
   |none=>.pA
   |some k=>(match vs with
    |[]=>.pA
    |v::r=>(match r with | _::_=>.pA | []=>Nf k v cs es))))
noncomputable def vEa(Z:CC):Bool:=match Z.gl ("{}":bA) with
 |.BB=>true
 |_=>false
noncomputable def gS(z:Bool)(ks:List (Option vA))(vs:List vA)(c:E):E:=match z,ks,vs with
 |true,[],[]=>.X1
 |_,_,_=>c
noncomputable def dot(m:bA):bA:=⟨#[46]++m.cps⟩
noncomputable def i1a(Z:CC)(x m:bA)(OB OC:MB)(a:vA):E:=.pA
noncomputable def B2(ks:List (Option vA))(vs:List vA)(es:List E)(c:E):E:=c
def PR(Z:CC)(x m:bA)(OB OC:MB)(a:vA)(c:E):E :=
 if aAd a&&(OB.endLine==OC.line)&&(m==("append":bA)) then(match Z.slot x with | some i=>.app i c | none=>.pA) else if aAd a&&(OB.endLine==OC.line)&&(m==("extend":bA)) then .pA else if aAd a&&(OB.endLine==OC.line)&&(m==("pop":bA)) then(match Z.slot x with | some i=>.ET i c | none=>.pA) else i1a Z x m OB OC a
noncomputable def OR(Z:CC)(x m:bA)(OB OC:MB):E:=if(OB.endLine==OC.line)&&(m==("bit_length":bA)) then .pA else
 .pA
def L0(Z:CC)(x m:bA)(OB OC:MB)(args:List vA)(cs:List E):E:=match args,cs with
 |[a],[c]=>PR Z x m OB OC a c
 |[],[]=>OR Z x m OB OC
 |_,_=>.pA
def QR(Z:CC)(x m:bA)(OB OC:MB)(args:List vA)(cs:List E):E :=
 match Z.gl (dot m) with
 |.sF tb=>if args.all aAd&&(OB.endLine==OC.line)&&decide (args.length<29) then(match Z.slot x with | some i=>.kJ i m tb cs | none=>.pA) else .pA
 |_=>L0 Z x m OB OC args cs
def iT(Z:CC)(m:bA)(OB OC:MB)(args:List vA)(a:E)(cs:List E):E :=
 match Z.gl (dot m) with
 |.sF tb=>if args.all aAd&&(OB.endLine==OC.line)&&decide (args.length<29) then .pA else .pA
 |_=>.pA
noncomputable def y8(args:List vA)(cs:List E):E:=.bif .len cs
noncomputable def aA2(cs:List E):E:=.pA
noncomputable def B8(args:List vA)(cs:List E):E:=.bif .list cs
def DN(f:bA)(args:List vA)(cs:List E):E :=
 if f=("len":bA) then y8 args cs else if f=("set":bA) then aA2 cs else if f=("range":bA) then .pA else if f=("list":bA) then B8 args cs else(match X0 f with | some b=>.bif b cs | none=>.pA)
noncomputable def WS:vA->Bool
 |.ListComp _ _ _ _=>true
 |_=>false
noncomputable def XD:vA->Bool
 |.ListComp _ _ _ _=>false
 |.SetComp _ _ _ _=>false
 |.DictComp _ _ _ _ _=>false
 |_=>true
noncomputable def fX:vA->Bool
 |.Slice _ _ _ _=>false
 |_=>true
noncomputable def GQ:vA->Bool
 |.Set _ _ _=>false
 |_=>true
noncomputable def qT:vA->Bool
 |.Tuple _ _ _=>false
 |_=>true
noncomputable def CC.ZN(Z:CC)(x:bA):Bool:=Z.names.lookup x==some .local||(Z.top&&Z.names.lookup x==some .cell)
def CC.fF(Z:CC)(x:bA):Option Nat:=if Z.ZN x then Z.slot x else none
def Xa(Z:CC):vA->Option Nat
 |.Name x _=>Z.fF x
 |_=>none
def nK(Z:CC):List vA->Option (List Nat)
 |[]=>some []
 |e::es=>(Xa Z e).bind λi=>(nK Z es).map (i :: ·)
def tG(Z:CC):vA->Option (Bool×List Nat)
 |.Name x _=>(Z.fF x).map λi=>(true,[i])
 |.Tuple es _ _=>(nK Z es).map λis=>(false,is)
 |_=>none
noncomputable def bX:vA->Option (bA×MB)
 |.Name f p=>some (f,p)
 |_=>none
def YS:vA->Option ((bA×MB)×List vA×MB)
 |.Call fn args bK pos=>(match bK with
  |[]=>(bX fn).map λq=>(q,args,pos)
  |_::_=>none)
 |_=>none
noncomputable def aAT:List O->Option O
 |[]=>none
 |a::r=>(match r with | []=>some a | _::_=>none)
def CW:vA->Option (bA×vA×bA×Int)
 |.Call fn args bK _=>(bX fn).bind λq=>(aAT args).bind λa=>(aAT bK).bind λk=>k.arg.bind λx=>(aAU k.value).map λc=>(q.1,a,x,c)
 |_=>none
def ZJ(Z:CC)(e:vA):Option (UD×List vA):=match YS e with
 |some x=>if(x.1.1==("range":bA)) then
   (match Z.glob x.1.1 with
   |.BB=>if x.2.1.all aAd&&(x.2.1.length==1||x.2.1.length==2) then some (.uD,x.2.1) else none
   |_=>none)
  else if(x.1.1==("enumerate":bA)) then
   (match Z.glob x.1.1 with
   |.BB=>if x.2.1.all aAd&&(x.2.1.length==1) then some (.enum 0,x.2.1) else none
   |_=>none)
  else some (.of,[e])
 |none=>(match CW e with
  |some x=>if x.1==("enumerate":bA)&&x.2.2.1==("start":bA)&&aAd x.2.1&&x.2.2.2==1 then
    (match Z.glob x.1 with
    |.BB=>some (.enum 1,[x.2.1])
    |_=>none)
   else none
  |none=>if GQ e then some (.of,[e]) else none)
def xk(h:bX e=some x):e=.Name x.1 x.2:=by
 unfold bX at h;split at h
 ·cases h;rfl
 ·cases h
def E7(h:YS e=some ((f,p),args,pos)):e=.Call (.Name f p) args [] pos:=by
 unfold YS at h;split at h
 ·rename_i fn as bK ps
  cases bK with
  |nil =>
   obtain⟨q,hq,h⟩:=VF.mp h;cases h;rw[xk hq]
  |cons=>cases h
 ·cases h
def tx(h:aAU e=some a):∃j q,e=.Constant (.int a) j q:=by
 unfold aAU at h;split at h
 ·cases h;exact⟨_,_,rfl⟩
 ·cases h
def Vk(h:aAT l=some a):l=[a]:=by
 cases l with
 |nil=>cases h
 |cons b r =>
  cases r with
  |nil=>cases h;rfl
  |cons=>cases h
def fFa(h:CW e=some (f,a,x,c)):∃p j q kp pos,e=.Call (.Name f p) [a] [⟨some x,.Constant (.int c) j q,kp⟩] pos:=by
 unfold CW at h;split at h
 ·obtain⟨q,hq,h⟩:=zJ.mp h;obtain⟨b,hb,h⟩:=zJ.mp h;obtain⟨k,hk,h⟩:=zJ.mp h;obtain⟨y,hy,h⟩:=zJ.mp h;obtain⟨d,hd,h⟩:=VF.mp h;cases h;obtain⟨j,z,e⟩:=tx hd;obtain⟨ka,kv,kp⟩:=k;cases hy;cases e;rw[xk hq,Vk hb,Vk hk];exact⟨_,_,_,_,_,rfl⟩
 ·cases h
noncomputable def A7:vA->Bool
 |.Slice none none (some (.UnaryOp .USub (.Constant (.int i) _ _) _)) _=>i==1
 |_=>false
noncomputable def aAx(scope:BF):List bA:=(scope.names.filter λp=>p.2==NameKind.free).map (·.1)
noncomputable def aAs(scope:BF):List bA:=(scope.names.filter λp=>p.2==NameKind.local).map (·.1)
def CC.inner(Z:CC)(scope:BF):CC :=
 ⟨aAx scope++aAs scope,scope.names.map λ(n,k)=>if(k==NameKind.free&&Z.names.lookup n==some .cell) then(n,NameKind.cell) else(n,k),Z.gl,false⟩
noncomputable def CC.YJ(Z:CC):List bA->Option (List Nat)
 |[]=>some []
 |x::xs=>(Z.N.idxOf? x).bind λi=>(Z.YJ xs).map (i :: ·)
def CC.N9(Z:CC)(scope:BF):Bool:=(scope.kind==ScopeKind.function)&&(scope.names.all λp=>p.2 != NameKind.cell)&&(scope.names.all λp=>p.2 != NameKind.local||scope.names.lookup p.1==some NameKind.local) &&
 (scope.names.all λp=>p.2 != NameKind.free||(scope.names.lookup p.1==some NameKind.free&&(Z.names.lookup p.1==some NameKind.cell||Z.names.lookup p.1==some NameKind.free)))&&decide (aAx scope++aAs scope).Nodup
noncomputable def ki(k:UD)(ci:E)(CG:List E):List E:=match k with
 |.of=>[ci]
 |_=>CG
noncomputable def mK(k:UD)(one:Bool):Bool:=match k with
 |.enum _=>!one
 |_=>true
noncomputable def kXa(iter:vA):Bool:=false
def v8(Z:CC):vA->Option Nat
 |.Name x _=>if x==("listed":bA) then Z.slot x else none
 |_=>none
def HH(Z:CC)(scope:BF)(tg iter:vA)(ci:E)(CG cond:List E)(ce:E):E :=
 if Z.N9 scope then
  match Z.YJ (aAx scope),tG (Z.inner scope) tg,ZJ Z iter with
  |some imp,some (one,is),some (k,_)=>if kXa iter then(if one==(is.length==1) then .comp ce is .sig [ci] cond imp (aAs scope).length else .pA) else match v8 Z iter with | some i=>(if one==(is.length==1) then .comp ce is .key [.ID i] cond imp (aAs scope).length else .pA) | none=>if one==(is.length==1)&&mK k one&&k != .enum 1 then .comp ce is k (ki k ci CG) cond imp (aAs scope).length else .pA
  |_,_,_=>.pA
 else .pA
mutual
noncomputable def cE(Z:CC):vA->E
 |.Name x _=>FN Z x
 |.Constant c _ _=>XR c
 |.Tuple es _ _=>if es.all aAd then .t (pB Z es) else .pA
 |.List es _=>if es.all aAd then .l (pB Z es) else .pA
 |.Dict ks vs _=>B2 ks vs (pB Z vs) (gS (vEa Z) ks vs (wV ks vs (L1 Z ks) (pB Z vs)))
 |.BinOp a op b _=>.zA op (cE Z a) (cE Z b)
 |.UnaryOp .Not a _=>.not (cE Z a)
 |.UnaryOp .USub a _=>.neg (cE Z a)
 |.Compare a [op] [b] _=>if rK op b then .pA else .FA op (cE Z a) (cE Z b)
 |.Compare a [op,mC] [b,c] _=>if rK mC c then .pA else .GH op mC (cE Z a) (cE Z b) (cE Z c)
 |.BoolOp .And (a::b::r) _=>.and (cE Z a) (D1 Z (b::r))
 |.BoolOp .Or (a::b::r) _=>.or (cE Z a) (K1 Z (b::r))
 |.IfExp c a b _=>.ite (cE Z c) (cE Z a) (cE Z b)
 |.Subscript a (.Slice lo hi none _) _=>.sl (cE Z a) (cO Z lo) (cO Z hi)
 |.Subscript a i _=>if A7 i then .pA else .ix (cE Z a) (cE Z i)
 |.Call (.Name f _) args [] _=>if args.all aAd&&decide (args≠[]) then
   match Z.glob f with
   |.fn g=>.call g (pB Z args)
   |.cls ns=>.make f ns (pB Z args)
   |.BB=>if f=("isinstance":bA) then aO Z args (pB Z args)
     else DN f args (pB Z args)
   |_=>.pA
  else .pA
 |.Call (.Attribute (.Name x _) m OB) args [] OC=>QR Z x m OB OC args (pB Z args)
 |.Call (.Attribute (.Call g (a0::jM) kw p) m OB) args [] OC=>iT Z m OB OC args (cE Z (.Call g (a0::jM) kw p)) (pB Z args)
 |.Attribute (.Name x _) f _=>.fld (FN Z x) f
 |.ListComp HA [⟨tg,iter,[],0⟩] scope _=>HH Z scope tg iter (cE Z iter) (lM Z iter) [] (cE (Z.inner scope) HA)
 |.ListComp HA [⟨tg,iter,[c],0⟩] scope _=>HH Z scope tg iter (cE Z iter) (lM Z iter) [cE (Z.inner scope) c] (cE (Z.inner scope) HA)
 |_=>.pA
noncomputable def lM(Z:CC):vA->List E
 |.Call _ args _ _=>pB Z args
 |_=>[]
noncomputable def pB(Z:CC):List vA->List E
 |[]=>[]
 |e::es=>cE Z e::pB Z es
noncomputable def L1(Z:CC):List (Option vA)->List E
 |[]=>[]
 |o::os=>cO Z o::L1 Z os
noncomputable def D1(Z:CC):List vA->E
 |[]=>.pA
 |[a]=>cE Z a
 |a::b::r=>.and (cE Z a) (D1 Z (b::r))
noncomputable def K1(Z:CC):List vA->E
 |[]=>.pA
 |[a]=>cE Z a
 |a::b::r=>.or (cE Z a) (K1 Z (b::r))
noncomputable def cO(Z:CC):Option vA->E
 |none=>.mH
 |some e=>pT (cE Z e)
end
def PQ(K:gA)(n:Nat)(run:List Sl->xA RV):Sp:=λvs H Q _=>vs.length=n/\∃(as:List Sl) (G:Hp) (v:RV) (QA:List Sl),BA K as (vs.map some) H G/\as.length=n/\run as=some (.ok v,QA) /\
 ∀x H' G',AA K as (vs.map some) H G QA H' G'->NC K H' G' (yA QA (vs.map some)) (uE H) v x->Q x H'
structure FnAt(X:Cx)(K:gA)(x:bA)(n:Nat)(run:List Sl->xA RV):Prop where
 ex:∃(fa:fA) (fd:QG) (ps:List bA) (k:Nat),sE X.prog X.w X.K X.mg X.base XG k fa fd ps (PQ K n run)/\zC k X.A/\X.mg x=some (.ref fa)/\UG X.K (.ref fa)=true/\aAu X.K fd ps []
def Bn(K:gA)(ns:List bA):Sp:=λvs H Q _=>∃a C dx xs,vs=.ref a::xs/\xs.length=ns.length/\H a=some (.ins C dx [])/\NU K C ns/\Q .lA (CA H a (.ins C dx (ns.zip xs)))
structure OZ(X:Cx)(K:gA)(x:bA)(ns:List bA):Prop where
 ex:∃(Ca fa:fA) (fd:QG) (ps:List bA),LC K IB x=some (some (.ref Ca))/\X.mg x=some (.ref Ca)/\Mk X.K Ca fa/\NU K Ca ns/\sE X.prog X.w X.K X.mg X.base XG 1 fa fd ps (Bn K ns)/\aAu X.K fd ps []
structure MethAt(X:Cx)(K:gA)(c m:bA)(n:Nat)(run:List Sl->xA RV):Prop where
 ex:∃(Ca fa:fA) (fd:QG) (ps:List bA) (k:Nat),LC K IB c=some (some (.ref Ca))/\Meth X.K Ca m fa/\sE X.prog X.w X.K X.mg X.base XG k fa fd ps (PQ K n run)/\zC k X.A/\aAu X.K fd ps []/\yG K Ca
structure Zt(K:gA)(D C:fA):Prop where
 a:Ts K D C=true
 b:lR K D "__class__"=true
 c:uU K D=true
 d:DF K (.ref D) "__class__"=some (some (.builtin "object.__class__"))
 e:Rr K (.builtin "object.__class__") "__get__"=some (some (.builtin "getset_descriptor.__get__"))
 f:Us K (.builtin "object.__class__")=some true
 g:sJ K D (.type "object")=some true
structure TU(K:gA)(mg:bA->Option cA)(x:bA)(s n:List bA):Prop where
 ex:∃C,mg x=some (.ref C)/\(∀c∈s,∀Ca,LC K IB c=some (some (.ref Ca))->yt K (.ref Ca) C=true)/\∀c∈n,∀Ca,LC K IB c=some (some (.ref Ca))->Zt K Ca C
def U9(K:gA)(n:Nat)(run:List Sl->xA RV):Sp:=λvs H _ E=>vs.length=n/\∃(as:List Sl) (G:Hp) (x:Exc) (QA:List Sl),BA K as (vs.map some) H G/\as.length=n/\run as=some (.ex x,QA) /\
 ∀H' G' C p,AA K as (vs.map some) H G QA H' G'->LC K IB x.cls=some (some (.ref C))->tN K C->rP K G' C p x->E (.ref C) p H'
structure EZ(X:Cx)(K:gA)(x:bA)(n:Nat)(run:List Sl->xA RV):Prop where
 ex:∃(fa:fA) (fd:QG) (ps:List bA) (k:Nat),sE X.prog X.w X.K X.mg X.base (II X.prog X.w) k fa fd ps (U9 K n run)/\zC k X.A/\X.mg x=some (.ref fa)/\UG X.K (.ref fa)=true/\aAu X.K fd ps []
structure ExcAt(K:gA)(mg:bA->Option cA)(x:bA):Prop where
 ex:∃C,LC K IB x=some (some (.ref C))/\mg x=some (.ref C)/\tN K C/\FK K C none
structure RU(X:Cx)(K:gA)(x:bA):Prop where
 ex:True
structure ER(K:gA)(mg:bA->Option cA)(x:bA)(cs:List bA):Prop where
 ex:∃D,mg x=some (.ref D)/\(∃i,FK K D i)/\∀c∈cs,∀C,LC K IB c=some (some (.ref C))->sJ K C (.ref D)=some true
structure UU(K:gA)(mg:bA->Option cA)(x:bA)(s n:List bA):Prop where
 ex:∃D,mg x=some (.ref D)/\(∀c∈s,∀C,LC K IB c=some (some (.ref C))->yt K (.ref C) D=true)/\∀c∈n,∀C,LC K IB c=some (some (.ref C))->Ts K C D=true
structure gC(q:Bool)(X:Cx)(K:gA)(P:RA)(C:Calls)(Z:CC):Prop where
 ZC:X.K=K
 vI:X.N=Z.N
 nm:X.env.scope.names=Z.names
 nd:Z.N.Nodup
 c:∀x d,Z.gl x=.c d->∃u v,X.mg x=some u/\aAe v u/\∀G,jA K G d v
 BB:∀x,Z.gl x=.BB->X.mg x=none
 sub:∀x s n,Z.gl (col x)=.sub s n->TU K X.mg x s n
 AI:∀x s n,Z.gl (col x)=.AI s n->UU K X.mg x s n
 cond:q=true->X.calm=true/\X.A.handled=none/\X.A.units+64<cLine/\(∀x f,Z.gl x=.fn f->FnAt X K x (P f).length (C f))/\(∀x ns,Z.gl x=.cls ns->OZ X K x ns) /\
  (∀m tb c f,Z.gl (dot m)=.sF tb->tb.lookup c=some f->MethAt X K c m (P f).length (C f))/\zC 2 X.A/\((∀x,Z.gl x=.exc->ExcAt K X.mg x)/\∀x,Z.gl x=.LJ->RU X K x)/\(∀x cs,Z.gl (cat x)=.IA cs->ER K X.mg x cs)/\(∀x f,Z.gl x=.fn f->EZ X K x (P f).length (C f))/\∃jI uT L,X.stack=jI::uT/\jI.frame=some L/\X.env.frame=some L
abbrev NA(X:Cx)(K:gA)(P:RA)(C:Calls)(Z:CC):Prop:=gC true X K P C Z
section
variable{X:Cx}{K:gA}{P:RA}{C:Calls}{Z:CC}
theorem gC.calm(o:gC true X K P C Z):X.calm=true:=(o.cond rfl).1
def gC.hh(o:gC true X K P C Z):X.A.handled=none:=(o.cond rfl).2.1
def gC.hu(o:gC true X K P C Z):X.A.units+64<cLine:=(o.cond rfl).2.2.1
theorem gC.fn(o:gC true X K P C Z):∀x f,Z.gl x=.fn f->FnAt X K x (P f).length (C f):=(o.cond rfl).2.2.2.1
theorem gC.cls(o:gC true X K P C Z):∀x ns,Z.gl x=.cls ns->OZ X K x ns:=(o.cond rfl).2.2.2.2.1
theorem gC.sF(o:gC true X K P C Z):∀m tb c f,Z.gl (dot m)=.sF tb->tb.lookup c=some f->MethAt X K c m (P f).length (C f):=(o.cond rfl).2.2.2.2.2.1
def gC.rm(o:gC true X K P C Z):zC 2 X.A:=(o.cond rfl).2.2.2.2.2.2.1
theorem gC.exc(o:gC true X K P C Z):∀x,Z.gl x=.exc->ExcAt K X.mg x:=(o.cond rfl).2.2.2.2.2.2.2.1.1
theorem gC.LJ(o:gC true X K P C Z):∀x,Z.gl x=.LJ->RU X K x:=(o.cond rfl).2.2.2.2.2.2.2.1.2
theorem gC.IA(o:gC true X K P C Z):∀x cs,Z.gl (cat x)=.IA cs->ER K X.mg x cs:=(o.cond rfl).2.2.2.2.2.2.2.2.1
def gC.fnX(o:gC true X K P C Z):∀x f,Z.gl x=.fn f->EZ X K x (P f).length (C f):=(o.cond rfl).2.2.2.2.2.2.2.2.2.1
def gC.tp(o:gC true X K P C Z):∃jI uT L,X.stack=jI::uT/\jI.frame=some L/\X.env.frame=some L:=(o.cond rfl).2.2.2.2.2.2.2.2.2.2
def NA.of(ZC:X.K=K)(vI:X.N=Z.N)(nm:X.env.scope.names=Z.names)(nd:Z.N.Nodup)(calm:X.calm=true)(hh:X.A.handled=none)(hu:X.A.units+64<cLine)
  (c:∀x d,Z.gl x=.c d->∃u v,X.mg x=some u/\aAe v u/\∀G,jA K G d v) (BB:∀x,Z.gl x=.BB->X.mg x=none) (fn:∀x f,Z.gl x=.fn f->FnAt X K x (P f).length (C f)) (cls:∀x ns,Z.gl x=.cls ns->OZ X K x ns)
  (sF:∀m tb c f,Z.gl (dot m)=.sF tb->tb.lookup c=some f->MethAt X K c m (P f).length (C f)) (rm:zC 2 X.A) (sub:∀x s n,Z.gl (col x)=.sub s n->TU K X.mg x s n) (AI:∀x s n,Z.gl (col x)=.AI s n->UU K X.mg x s n)
  (exc:(∀x,Z.gl x=.exc->ExcAt K X.mg x)/\∀x,Z.gl x=.LJ->RU X K x) (IA:∀x cs,Z.gl (cat x)=.IA cs->ER K X.mg x cs) (fnX:∀x f,Z.gl x=.fn f->EZ X K x (P f).length (C f)) (tp:∃jI uT L,X.stack=jI::uT/\jI.frame=some L/\X.env.frame=some L):NA X K P C Z :=
 ⟨ZC,vI,nm,nd,c,BB,sub,AI,λ_=>⟨calm,hh,hu,fn,cls,sF,rm,exc,IA,fnX,tp⟩⟩
end
structure JA(X:Cx)(K:gA)(P:RA)(C:Calls)(e:vA)(c:E):Prop where
 v:PE X e (tE K P C c)
 t:PT X e (tT K P C c)
 h:PE X e (tH K P C c)
section
variable{K:gA}
def mw(h:∀t U,ev P C t c U=none)(n:∀i,c≠.v i):JA X K P C e c:=by
 have v:PE X e (tE K P C c):=λaA s Y H Q I hz=>by obtain⟨U,G,w,U',r,z,k⟩:=hz;rw[h] at z;cases z
 exact⟨v,(λaA s Y H Q I ⟨U,G,w,U',r,z,k⟩=>by rw[h] at z;cases z),zO v n⟩
def xB:JA X K P C e .pA:=mw (λt U=>rfl) λi z=>nomatch z
def aF(xo:gC q X K P C Z)(h:PE X e (tE K P C c))(n:∀i,c≠.v i:=by exact λi z=>nomatch z)(hw:∀U,ev P C true c U=aAh true (ev P C false c U):=by exact λU=>rfl)
  (he:∀whole,isTrue e X.env whole=(do let v <- whole;standAt e.pos;holding [v] (truthy v)):=by exact λ_=>rfl):JA X K P C e c:=⟨h,dUa xo.ZC h hw he,zO h n⟩
def xW[BEq O][LawfulBEq O]{l:List O}(h:l.idxOf? x=some i):l[i]?=some x:=by
 rw[List.idxOf?,List.findIdx?_eq_some_iff_getElem] at h;obtain⟨h1,h2,_⟩:=h;rw[gD h1];exact congrArg some (EC h2)
def CC.OQ(xo:gC q X K P C Z)(h:Z.slot x=some i):PE X (.Name x pos) (PM i):=by
 unfold CC.slot at h;split at h
 ·cases h
 ·rename_i hb;split at h
  ·rename_i hv;simp only[QK,KL,not_or,TY] at hb;refine j9 (by rw[xo.vI];exact xW h) ?_ hb.1.1 hb.1.2;unfold CC.di at hv;simp only[KL,vJ] at hv;unfold NR;rw[xo.nm];rcases hv with (h | h) | h
   ·exact .inl h
   ·exact .inr (.inl h)
   ·exact .inr (.inr h)
  ·cases h
def CC.MH(xo:gC q X K P C Z)(h:Z.glob x=g)(hg:g≠.no):Gl X x/\Z.gl x=g/\(x==("__debug__":bA))=false/\x≠"__name__":=by
 unfold CC.glob at h;split at h
 ·exact absurd h.symm hg
 ·rename_i hb;split at h
  ·rename_i hv;simp only[QK,KL,not_or,TY] at hb;refine⟨?_,h,hb.1.1,λz=>?_⟩
   ·unfold Gl Env.kindOf;rw[xo.nm];unfold CC.l7 at hv;simpa using hv
   ·have:=hb.2
    rw[z] at this;simp at this
  ·exact absurd h.symm hg
def rT(xo:gC q X K P C Z)(h:PE X e (tC v))(r:∀G,jA K G d v)(he:∀whole,isTrue e X.env whole=(do let v <- whole;standAt e.pos;holding [v] (truthy v))):JA X K P C e (.c d):=by
 refine aF xo (TE.JD h λY H Q q=>?_) (λi z=>nomatch z) (λU=>rfl) he;obtain⟨U,G,w,U',r',z,k⟩:=q;cases z;exact k v H G (AA.refl r') (r G)
def Qk(xo:gC q X K P C Z)(x:bA)(pos:MB):JA X K P C (.Name x pos) (FN Z x):=by
 unfold FN;split
 ·rename_i i hi;have hp:=CC.OQ xo hi (pos:=pos);refine⟨Dl hp, ?_,oRa hp⟩
  -- a test of a local: looked at
  refine TT.qQ (fm hp λ_=>rfl) λY H Q q=>?_
  obtain⟨U,G,b,U',r,e1,k⟩:=q;obtain⟨u,b',e2,e3,e4⟩:=Tp e1;cases e4
  cases w:(U[i]?).bind Sl.get with
  |none=>rw[w] at e2;cases e2
  |some d =>
   rw[w] at e2;simp only[EE,aC,aE,Out.ok.injEq] at e2;obtain⟨rfl,rfl⟩:=e2;obtain⟨x,hx⟩:=r.bound (by rw[w];rfl);exact⟨x,hx,b,by rw[xo.ZC];exact ub r.sub (r.get w hx) e3,k H G (AA.refl r)⟩
 ·split
  ·rename_i d hd;obtain⟨h1,h2,h3,h4⟩:=CC.MH xo hd (λz=>nomatch z);obtain⟨u,v,hm,hr,E6⟩:=xo.c x d h2;exact rT xo (aRa h1 hm hr h3) E6 λ_=>rfl
  ·exact xB
def Nk(xo:gC q X K P C Z)(c:Const)(k:Nat)(pos:MB):JA X K P C (.Constant c k pos) (XR c):=by
 cases c with
 |none=>exact rT xo hRa (λG=>by simp[jA]) λ_=>rfl
 |bool b=>exact rT xo rQa (λG=>by simp[jA]) λ_=>rfl
 |int i=>exact rT xo Al (λG=>by simp[jA]) λ_=>rfl
 |str s =>
  simp only[XR];split
  ·rename_i h;exact rT xo lRa (λG=>by simp only[jA];exact⟨trivial,h⟩) λ_=>rfl
  ·exact xB
 |_=>exact xB
def lD(h:aAd e=true)(es:List vA)(env:yK):YB (e::es) env=(false,eval e env)::YB es env:=by
 cases e<;>first | rfl | cases h
def d9:PA X [] (DL K P C []):=by
 refine TA.QS xT λY H Q q=>?_
 obtain⟨U,G,ds,U',r,e,k⟩:=q;simp only[XE,aC,aE,Out.ok.injEq] at e;obtain⟨rfl,rfl⟩:=e;exact k [] H G (AA.refl r) iA.nil
def ml(h:JA X K P C e c)(t:PA X es (DL K P C cs))(ns:aAd e=true):PA X (e::es) (DL K P C (c::cs)):=by
 refine TA.QS (mO h.v t (lD ns _ _)) λY H Q q=>?_
 obtain⟨U,G,ds,U',r,e,k⟩:=q;rw[XE] at e;obtain⟨v,U1,e1,e2⟩:=vB e;obtain⟨OD,U2,e3,e4⟩:=vB e2;cases e4;refine⟨U,G,v,U1,r,e1,λx H1 G1 a1 hx=>?_⟩;obtain⟨Ot,me,rx⟩:=a1.share hx;refine⟨U1,Ot,OD,_,me.oA,e3,λxs H2 G2 a2 wM=>?_⟩;exact k (x::xs) H2 G2 (me.trans a2) (iA.cons (jA.mono a2.ext.gg _ rx) wM)
def mQa:PA X [] (oH K P C []):=by
 refine TA.QS xT λY H Q q=>?_
 obtain⟨U,G,ds,U',r,e,k⟩:=q;simp only[bD,aC,aE,Out.ok.injEq] at e;obtain⟨rfl,rfl⟩:=e;exact k [] H G (AA.refl r) rfl
theorem dE.SH(w:∀a,new a->new' a):∀{hs:List Hd} {xs:List V},dE K H G own new Y hs xs->dE K H G own new' Y hs xs
 |[],_,h=>h
 |h::hs,_,r=>by(obtain⟨x,r',rfl,h1,h2,h3⟩:=r;exact⟨x,r',rfl,h1.SH w,dE.SH w h2,h3⟩)
def lQa(h:JA X K P C e c)(t:PA X es (oH K P C cs))(ns:aAd e=true):PA X (e::es) (oH K P C (c::cs)):=by
 refine TA.QS (mO h.h t (lD ns _ _)) λY H Q q=>?_
 obtain⟨U,G,ds,U',r,e,k⟩:=q;rw[bD] at e;obtain⟨v,U1,e1,e2⟩:=vB e;obtain⟨OD,U2,e3,e4⟩:=vB e2;cases e4;refine⟨U,G,v,U1,r,e1,λx H1 G1 a1 hx=>⟨U1,G1,OD,_,a1.oA,e3,λxs H2 G2 a2 wM=>?_⟩⟩;refine k (x::xs) H2 G2 (a1.trans a2) ⟨x,xs,rfl,hx.wait a2.ext λa z=>.inl (a2.own a z),wM.SH λa z=>a1.ext.hx a z,λd a hd ha ht=>?_⟩;subst hd;obtain⟨b,e5,g,o,n,m⟩:=hx;rw[ha] at e5;cases e5;obtain⟨vs,hv⟩:=o.there
 have:=(wM.TM ht).2.1
 rw[show H1 a=none from this] at hv;cases hv
theorem dE.getAll(r:BA K U Y H G):∀{hs:List Hd} {xs:List V} {ds:List D},dE K H G own new Y hs xs->getAll hs U=some ds->MR K H G ds xs
 |[],_,_,h,e=>by cases (show _=[] from h);cases e;rfl
 |h::hs,_,ds,hh,e=>by
  obtain⟨x,r',rfl,h1,h2,h3⟩:=hh;simp only[CI.getAll] at e
  cases q:h.get U with
  |none=>rw[q] at e;cases e
  |some d =>
   rw[q] at e
   cases q2:CI.getAll hs U with
   |none=>rw[q2] at e;cases e
   |some OD =>
    rw[q2] at e;cases e;exact⟨x,r',rfl,h1.read r q,dE.getAll r h2 q2⟩
def tNa(xo:NA X K P C Z)(ha:JA X K P C a ca)(hb:JA X K P C b cb):JA X K P C (.BinOp a op b pos) (.zA op ca cb):=by
 refine aF xo (TE.JD (jRa (Lw xo.ZC op) ha.h hb.h) λY H Q q=>?_);obtain⟨U,G,v,U',r,e,k⟩:=q;obtain⟨hx,U1,e1,e⟩:=vB e;obtain⟨hy,U2,e2,e⟩:=vB e;obtain⟨e3,rfl⟩:=UI e;refine⟨U,G,hx,U1,r,e1,λx H1 G1 a1 rx=>⟨U1,G1,hy,U',a1.oA,e2,λy H2 G2 a2 ry=>?_⟩⟩
 cases q1:hx.get U' with
 |none=>rw[q1] at e3;cases e3
 |some d =>
  cases q2:hy.get U' with
  |none=>rw[q1,q2] at e3;cases e3
  |some d2 =>
   rw[q1,q2] at e3;simp only[uH] at e3;split at e3
   ·rename_i hm;have xX:=rx.wait a2.ext λa z=>.inl (a2.own a z)
    refine⟨G2,d,d2,v,a2.oA.sub,xX.read a2.oA q1,ry.read a2.oA q2,λho ds hd=>?_,e3,λz H3 hm3=>?_⟩
    ·subst ho;subst hd
     induction hx using Hd.casesOn with
     |slot i=>simp[CQ] at hm
     |val w =>
      induction w using RV.casesOn with
      |sh _=>simp[CQ] at hm
      |od _=>simp[CQ] at hm
      |ow w =>
       simp only[Hd.get,RV.d,aC] at q1;subst q1;obtain⟨c,e5,g,⟨vs,o1,o2⟩,n,m⟩:=xX;exact⟨c,vs,e5,o1,o2⟩
    ·obtain⟨G3,a3,v3⟩:=(a1.trans a2).made hm3;exact k z H3 G3 a3 v3
   ·cases e3
def lOa(xo:NA X K P C Z)(ha:JA X K P C a ca):JA X K P C (.UnaryOp .USub a pos) (.neg ca):=by
 refine aF xo (TE.JD (nRa m1a ha.v) λY H Q q=>?_);obtain⟨U,G,v,U',r,e,k⟩:=q;obtain⟨w,U1,e1,e⟩:=vB e;split at e
 ·rename_i i hi;cases e;refine⟨U,G,w,_,r,e1,λx H1 G1 a1 rx=>?_⟩
  have:=rx.MM
  rw[hi] at this;cases this.int;exact⟨i,rfl,k _ H1 G1 a1 (by show jA K G1 (.int (-i)) _;simp[jA])⟩
 ·cases e
def iRa(ha:PE X a ta):PE X (.UnaryOp .Not a pos) (λY H Q=>ta Y H λx H'=>∃k,WU X.K x H' k/\Q (.bl (!k)) H'):=by
 intro aA s Y H Q I h;refine UnaryOp_ (OA (ha aA s Y H _ I h) λv s1 hz=>?_);obtain⟨x,H1,I1,r1,q1⟩:=hz;exact not_of (OA (xp aA s1 Y H1 x v (λk H'=>Q (.bl (!k)) H') I1 r1 q1) λb s2 hz=>(by obtain⟨H2,I2,q2⟩:=hz;exact⟨.bl (!b),H2,I2,rfl,q2⟩))
def nOa(xo:NA X K P C Z)(ha:JA X K P C a ca):JA X K P C (.UnaryOp .Not a pos) (.not ca):=by
 have v:PE X (.UnaryOp .Not a pos) (tE K P C (.not ca)):=by
  refine TE.JD (iRa ha.h) λY H Q q=>?_
  obtain⟨U,G,v,U',r,e,k⟩:=q;obtain⟨w,U1,e1,e⟩:=vB e;obtain⟨e2,rfl⟩:=UI e;refine⟨U,G,w,U',r,e1,λx H1 G1 a1 rx=>?_⟩
  cases q:w.get U' with
  |none=>rw[q] at e2;cases e2
  |some d =>
   rw[q] at e2;simp only[uH] at e2
   cases q2:oK d with
   |none=>rw[q2] at e2;cases e2
   |some b =>
    rw[q2] at e2;cases e2;refine⟨b, ?_,k _ H1 G1 a1 (by show jA K G1 (.bl _) _;simp[jA])⟩;rw[xo.ZC];exact ub a1.oA.sub (rx.read a1.oA q) q2
 refine⟨v, ?_,zO v λi z=>nomatch z⟩;refine TT.qQ (cUa ha.t) λY H Q q=>?_
 obtain⟨U,G,b,U',r,e,k⟩:=q;obtain⟨w,U1,e1,e⟩:=vB e;split at e
 ·rename_i b';cases e;exact⟨U,G,b',_,r,e1,λH1 G1 a1=>k H1 G1 a1⟩
 ·cases e
def rV(a1:AA K U Y H G U1 H1 G1)(rx:lF K H1 G1 (yA U1 Y) (uE H) Y hx x)(a2:AA K U1 Y H1 G1 U2 H2 G2)(ry:lF K H2 G2 (yA U2 Y) (uE H1) Y hy y)
  (e:((hx.get U2).bind λd=>(hy.get U2).bind λe=>wB op d e)=some b) (Q:VK) (q:Q (.bl b) H2):IT K op x y H2 Q:=by
 cases q1:hx.get U2 with
 |none=>rw[q1] at e;cases e
 |some d =>
  cases q2:hy.get U2 with
  |none=>rw[q1,q2] at e;cases e
  |some d2 =>
   rw[q1,q2] at e;exact⟨G2,d,d2,b,a2.oA.sub,(rx.wait a2.ext λa z=>.inl (a2.own a z)).read a2.oA q1,ry.read a2.oA q2,e,q⟩
def hKa(e:(o.map λb=>RV.sh (.bl b))=some v):∃b,o=some b/\v=.sh (.bl b):=by
 induction o using VG with
 |none=>cases e
 |some b=>cases e;exact⟨b,rfl,rfl⟩
def mV{x y:Option D}{f:D->D->Option Bool}(e:(x.bind λd=>y.bind λe=>(f d e).map λb=>RV.sh (.bl b))=some v):∃b,(x.bind λd=>y.bind λe=>f d e)=some b/\v=.sh (.bl b):=by
 induction x using VG with
 |none=>cases e
 |some d =>
  induction y using VG with
  |none=>cases e
  |some d2=>exact hKa e
def vNa(xo:NA X K P C Z)(ha:JA X K P C a ca)(hb:JA X K P C b cb)(hm:rK op b=false):JA X K P C (.Compare a [op] [b] pos) (.FA op ca cb):=by
 have core:∀Y H (Q:VK),(∃(U:Env) (G:Hp) (b:Bool) (U':Env),BA K U Y H G/\ev P C false (.FA op ca cb) U=some (.ok (.sh (.bl b)),U')/\∀H' G',AA K U Y H G U' H' G'->Q (.bl b) H') ->
   fU (IT K op) (tH K P C ca) (tH K P C cb) Y H Q:=λY H Q q=>by
  obtain⟨U,G,b,U',r,e,k⟩:=q;obtain⟨hx,U1,e1,e⟩:=vB e;obtain⟨hy,U2,e2,e⟩:=vB e;obtain⟨e3,rfl⟩:=UI e;obtain⟨b',e4,e5⟩:=mV e3;cases e5;exact⟨U,G,hx,U1,r,e1,λx H1 G1 a1 rx=>⟨U1,G1,hy,U',a1.oA,e2,λy H2 G2 a2 ry=>rV a1 rx a2 ry e4 Q (k H2 G2 (a1.trans a2))⟩⟩
 have v:PE X (.Compare a [op] [b] pos) (tE K P C (.FA op ca cb)):=by
  refine TE.JD (vQa (zP xo.ZC xo.hu op) ha.h hb.h hm) λY H Q q=>core Y H Q ?_
  obtain⟨U,G,v,U',r,e,k⟩:=q;have e0:=e;obtain⟨hx,U1,e1,e⟩:=vB e;obtain⟨hy,U2,e2,e⟩:=vB e;obtain⟨e3,rfl⟩:=UI e;obtain⟨b',e4,rfl⟩:=mV e3;exact⟨U,G,b',U',r,e0,λH' G' a=>k _ H' G' a (by show jA K G' (.bl _) _;simp[jA])⟩
 refine⟨v, ?_,zO v λi z=>nomatch z⟩;refine TT.qQ (aUa (zP xo.ZC xo.hu op) ha.h hb.h hm) λY H Q q=>core Y H _ ?_
 obtain⟨U,G,b',U',r,e,k⟩:=q;exact⟨U,G,b',U',r,e,λH' G' a=>⟨b',rfl,k H' G' a⟩⟩
def wNa(xo:NA X K P C Z)(ha:JA X K P C a ca)(hb:JA X K P C b cb)(hc:JA X K P C c cc)(hm:rK mC c=false):JA X K P C (.Compare a [op,mC] [b,c] pos) (.GH op mC ca cb cc):=by
 have core:∀Y H (Q:VK),(∃(U:Env) (G:Hp) (b:Bool) (U':Env),BA K U Y H G/\ev P C false (.GH op mC ca cb cc) U=some (.ok (.sh (.bl b)),U')/\∀H' G',AA K U Y H G U' H' G'->Q (.bl b) H') ->
   Qa (IT K op) (IT K mC) (tH K P C ca) (tH K P C cb) (tH K P C cc) Y H Q:=λY H Q q=>by
  obtain⟨U,G,b,U',r,e,k⟩:=q;obtain⟨hx,U1,e1,e⟩:=vB e;obtain⟨hy,U2,e2,e⟩:=vB e;refine⟨U,G,hx,U1,r,e1,λx H1 G1 a1 rx=>⟨U1,G1,hy,U2,a1.oA,e2,λy H2 G2 a2 ry=>?_⟩⟩;split at e
  ·cases e
  ·rename_i e4;cases e;refine rV a1 rx a2 ry e4 _ ⟨false,rfl, ?_⟩;rw[LA SD];exact k H2 G2 (a1.trans a2)
  ·rename_i e4;obtain⟨hz,U3,e5,e⟩:=vB e;obtain⟨e6,rfl⟩:=UI e;obtain⟨b',e7,e8⟩:=mV e6;cases e8;refine rV a1 rx a2 ry e4 _ ⟨true,rfl, ?_⟩;rw[GA rfl];exact⟨U2,G2,hz,U',a2.oA,e5,λz H3 G3 a3 rz=>rV (a1.trans a2) (ry.SH λa z=>a1.ext.hx a z) a3 rz e7 Q (k H3 G3 ((a1.trans a2).trans a3))⟩
 have hl:lastMarks [op,mC] [b,c]=false:=hm
 have v:PE X (.Compare a [op,mC] [b,c] pos) (tE K P C (.GH op mC ca cb cc)):=by
  refine TE.JD (uQa (zP xo.ZC xo.hu op) (zP xo.ZC xo.hu mC) ha.h hb.h hc.h hl) λY H Q q=>core Y H Q ?_
  obtain⟨U,G,v,U',r,e,k⟩:=q;have e0:=e
  have:∃b,v=.sh (.bl b):=by
   obtain⟨hx,U1,e1,e⟩:=vB e;obtain⟨hy,U2,e2,e⟩:=vB e;split at e
   ·cases e
   ·cases e;exact⟨_,rfl⟩
   ·obtain⟨hz,U3,e5,e⟩:=vB e;obtain⟨e6,rfl⟩:=UI e;obtain⟨b',e7,e8⟩:=mV e6;exact⟨b',e8⟩
  obtain⟨b',rfl⟩:=this;exact⟨U,G,b',U',r,e0,λH' G' a=>k _ H' G' a (by show jA K G' (.bl _) _;simp[jA])⟩
 refine⟨v, ?_,zO v λi z=>nomatch z⟩;refine TT.qQ (zTa (zP xo.ZC xo.hu op) (zP xo.ZC xo.hu mC) ha.h hb.h hc.h hl) λY H Q q=>core Y H _ ?_
 obtain⟨U,G,b',U',r,e,k⟩:=q;exact⟨U,G,b',U',r,e,λH' G' a=>⟨b',rfl,k H' G' a⟩⟩
end
section
variable{K:gA}
def PW.imp(h:PW X e t)(w:∀Y H Q,u Y H Q->t Y H Q):PW X e u:=λwh aA s Y H Q I q=>h wh aA s Y H Q I (w Y H Q q)
def Fv(q:tE K P C (.and ca cb) Y H Q):Zo (tE K P C ca) (tE K P C cb) Y H Q:=by
 obtain⟨U,G,v,U',r,e,k⟩:=q;obtain⟨w,U1,e1,e⟩:=vB e;refine⟨U,G,w,U1,r,e1,λx H1 G1 a1 rx=>?_⟩;split at e
 ·refine⟨true,MT (K:=K) (G:=G1) rx, ?_⟩;refine sL ?_;exact⟨U1,G1,v,U',a1.oA,e,λy H2 G2 a2 ry=>k y H2 G2 (a1.trans a2) (ry.SH λa z=>a1.ext.hx a z)⟩
 ·refine⟨false,MT (K:=K) (G:=G1) rx, ?_⟩;refine AM ?_;cases e;exact k _ H1 G1 a1 (by show jA K G1 (.bl _) _;simp[jA])
 ·cases e
def Dv(q:tT K P C (.and ca cb) Y H Q):Yo (tT K P C ca) (tT K P C cb) Y H Q:=by
 obtain⟨U,G,b,U',r,e,k⟩:=q;obtain⟨w,U1,e1,e⟩:=vB e;split at e
 ·refine⟨U,G,true,U1,r,e1,λH1 G1 a1=>?_⟩;refine sL ?_;exact⟨U1,G1,b,U',a1.oA,e,λH2 G2 a2=>k H2 G2 (a1.trans a2)⟩
 ·refine⟨U,G,false,U1,r,e1,λH1 G1 a1=>?_⟩;refine AM ?_;cases e;exact k H1 G1 a1
 ·cases e
def gQa(q:tE K P C (.or ca cb) Y H Q):gp (tE K P C ca) (tE K P C cb) Y H Q:=by
 obtain⟨U,G,v,U',r,e,k⟩:=q;obtain⟨w,U1,e1,e⟩:=vB e;refine⟨U,G,w,U1,r,e1,λx H1 G1 a1 rx=>?_⟩;split at e
 ·refine⟨true,MT (K:=K) (G:=G1) rx, ?_⟩;refine sL ?_;cases e;exact k _ H1 G1 a1 (by show jA K G1 (.bl _) _;simp[jA])
 ·refine⟨false,MT (K:=K) (G:=G1) rx, ?_⟩;refine AM ?_;exact⟨U1,G1,v,U',a1.oA,e,λy H2 G2 a2 ry=>k y H2 G2 (a1.trans a2) (ry.SH λa z=>a1.ext.hx a z)⟩
 ·cases e
def fQa(q:tT K P C (.or ca cb) Y H Q):bp (tT K P C ca) (tT K P C cb) Y H Q:=by
 obtain⟨U,G,b,U',r,e,k⟩:=q;obtain⟨w,U1,e1,e⟩:=vB e;split at e
 ·refine⟨U,G,true,U1,r,e1,λH1 G1 a1=>?_⟩;refine sL ?_;cases e;exact k H1 G1 a1
 ·refine⟨U,G,false,U1,r,e1,λH1 G1 a1=>?_⟩;refine AM ?_;exact⟨U1,G1,b,U',a1.oA,e,λH2 G2 a2=>k H2 G2 (a1.trans a2)⟩
 ·cases e
structure EJ(X:Cx)(K:gA)(P:RA)(C:Calls)(op:BoolOp)(vs:List vA)(c:E):Prop where
 v:∀pos,PE X (.BoolOp op vs pos) (tE K P C c)
 w:∀pos,PW X (.BoolOp op vs pos) (tT K P C c)
def zMa(h:JA X K P C a c):EJ X K P C .And [a] c:=⟨λ_=>Bl h.v,λ_=>aAZ h.t⟩
def aNa(h:JA X K P C a c):EJ X K P C .Or [a] c:=⟨λ_=>Bl h.v,λ_=>aA3 h.t⟩
def Hk(h:JA X K P C a ca)(t:EJ X K P C .And (b::r) cb):EJ X K P C .And (a::b::r) (.and ca cb) :=
 ⟨λpos=>TE.JD (qQa h.v (t.v pos)) λ_ _ _ q=>Fv q,λpos=>PW.imp (aA1 h.t (t.w pos)) λ_ _ _ q=>Dv q⟩
def Ik(h:JA X K P C a ca)(t:EJ X K P C .Or (b::r) cb):EJ X K P C .Or (a::b::r) (.or ca cb) :=
 ⟨λpos=>TE.JD (i9 h.v (t.v pos)) λ_ _ _ q=>gQa q,λpos=>PW.imp (aA6 h.t (t.w pos)) λ_ _ _ q=>fQa q⟩
def EJ.Jk(h:EJ X K P C op vs c)(n:∀i,c≠.v i):JA X K P C (.BoolOp op vs pos) c:=⟨h.v pos,(h.w pos).pt,zO (h.v pos) n⟩
def bUa(hc:PT X c tc)(ha:PT X a ta)(hb:PT X b tb):PT X (.IfExp c a b pos) (λY H Q=>tc Y H λk H1=>if k=true then ta Y H1 Q else tb Y H1 Q):=by
 intro aA s Y H Q I h;show nA _ _ (do if <- isTrue c X.env (eval c X.env) then isTrue a X.env (eval a X.env) else isTrue b X.env (eval b X.env)) _ _ s;refine kA (OA (hc aA s Y H _ I h) λk s1 hz=>?_);obtain⟨H1,I1,q1⟩:=hz
 cases k with
 |true =>
  simp only[if_true] at q1 ⊢;exact ha aA s1 Y H1 Q I1 q1
 |false =>
  simp only[wG,rH] at q1 ⊢;exact hb aA s1 Y H1 Q I1 q1
def fOa(hc:JA X K P C c cc)(ha:JA X K P C a ca)(hb:JA X K P C b cb):JA X K P C (.IfExp c a b pos) (.ite cc ca cb):=by
 have v:PE X (.IfExp c a b pos) (tE K P C (.ite cc ca cb)):=by
  refine TE.JD (bRa hc.t ha.v hb.v) λY H Q q=>?_
  obtain⟨U,G,v,U',r,e,k⟩:=q;obtain⟨w,U1,e1,e⟩:=vB e;split at e
  ·refine⟨U,G,true,U1,r,e1,λH1 G1 a1=>?_⟩;refine sL ?_;exact⟨U1,G1,v,U',a1.oA,e,λy H2 G2 a2 ry=>k y H2 G2 (a1.trans a2) (ry.SH λa z=>a1.ext.hx a z)⟩
  ·refine⟨U,G,false,U1,r,e1,λH1 G1 a1=>?_⟩;refine AM ?_;exact⟨U1,G1,v,U',a1.oA,e,λy H2 G2 a2 ry=>k y H2 G2 (a1.trans a2) (ry.SH λa z=>a1.ext.hx a z)⟩
  ·cases e
 refine⟨v, ?_,zO v λi z=>nomatch z⟩;refine TT.qQ (bUa hc.t ha.t hb.t) λY H Q q=>?_
 obtain⟨U,G,b,U',r,e,k⟩:=q;obtain⟨w,U1,e1,e⟩:=vB e;split at e
 ·refine⟨U,G,true,U1,r,e1,λH1 G1 a1=>?_⟩;refine sL ?_;exact⟨U1,G1,b,U',a1.oA,e,λH2 G2 a2=>k H2 G2 (a1.trans a2)⟩
 ·refine⟨U,G,false,U1,r,e1,λH1 G1 a1=>?_⟩;refine AM ?_;exact⟨U1,G1,b,U',a1.oA,e,λH2 G2 a2=>k H2 G2 (a1.trans a2)⟩
 ·cases e
def Rk{q:Bool}(xo:gC q X K P C Z){es:List vA}{cs:List E}{k0:Nat}{pos:MB}(h:PA X es (DL K P C cs)):JA X K P C (.Tuple es k0 pos) (.t cs):=by
 refine aF xo (TE.JD (mRa h) λY H Q q=>?_);obtain⟨U,G,v,U',r,e,k⟩:=q;obtain⟨ds,U1,e1,e⟩:=vB e;split at e
 ·rename_i hz;cases e;refine⟨U,G,ds,_,r,e1,λxs H1 G1 a1 rx=>⟨by rw[rx.len];exact NM hz,λp hp=>?_⟩⟩;obtain⟨a2,v2⟩:=a1.Ap hp rx;exact k _ _ _ a2 v2
 ·cases e
def Pk(xo:gC q X K P C Z)(h:PA X es (DL K P C cs)):JA X K P C (.List es pos) (.l cs):=by
 refine aF xo (TE.JD (dRa h) λY H Q q=>?_);obtain⟨U,G,v,U',r,e,k⟩:=q;obtain⟨ds,U1,e1,e⟩:=vB e;split at e
 ·rename_i hz;cases e;refine⟨U,G,ds,_,r,e1,λxs H1 G1 a1 rx=>⟨by rw[rx.len];exact NM hz,λp hp=>?_⟩⟩;obtain⟨a2,v2⟩:=a1.kl hp rx;exact k _ _ _ a2 v2
 ·cases e
def gOa(xo:NA X K P C Z)(ha:JA X K P C a ca)(hb:JA X K P C b cb)(hs:UZ b):JA X K P C (.Subscript a b pos) (.ix ca cb):=by
 refine aF xo (TE.JD (cRa (uFa xo.ZC (by have:=xo.hu;lia)) ha.h hb.v hs) λY H Q q=>?_);obtain⟨U,G,v,U',r,e,k⟩:=q;obtain⟨hx,U1,e1,e⟩:=vB e;obtain⟨w,U2,e2,e⟩:=vB e;obtain⟨e3,rfl⟩:=UI e;refine⟨U,G,hx,U1,r,e1,λx H1 G1 a1 rx=>⟨U1,G1,w,U',a1.oA,e2,λy H2 G2 a2 ry=>?_⟩⟩
 cases q1:hx.get U' with
 |none=>rw[q1] at e3;cases e3
 |some d =>
  rw[q1] at e3;simp only[uH] at e3
  cases q2:bT d w.d with
  |none=>rw[q2] at e3;cases e3
  |some d2 =>
   rw[q2] at e3;cases e3;exact⟨G2,d,w.d,d2,a2.oA.sub,(rx.wait a2.ext λa z=>.inl (a2.own a z)).read a2.oA q1,ry.MM,q2,λz hz=>k z H2 G2 (a1.trans a2) hz⟩
def tO(K:gA)(P:RA)(C:Calls)(c:E):TO:=λY H Q=>∃(U:Env) (G:Hp) (o:Option D) (U':Env),BA K U Y H G/\aAN c (ev P C false c U) U=some (.ok o,U')/\∃i,JM o=some i/\∀H' G',AA K U Y H G U' H' G'->Q i H'
def gSa:PO X none (tO K P C .mH):=λaA s Y H Q I hz=>by
 obtain⟨U,G,o,U',r,e,i,e2,k⟩:=hz;simp only[aAN,o7,if_true,aC,aE,Out.ok.injEq] at e;obtain⟨rfl,rfl⟩:=e;cases e2;exact fSa aA s Y H Q I (k H G (AA.refl r))
def iSa(h:JA X K P C e c):PO X (some e) (tO K P C (pT c)):=λaA s Y H Q I hz=>by
 obtain⟨U,G,o,U',r,e1,i,e2,k⟩:=hz
 have key:∀c',pT c=c'->o7 c'=false->(∀U,ev P C false c' U=ev P C false c U\/ev P C false c' U=none)->nA (model X.prog X.w) X.A (evalPart (some e) X.env) (λu s'=>∃o H',eA X aA Y H' s'/\xJ u o/\Q o H') X.xe s:=λc' e0 UJ he=>by
  rw[e0] at e1;simp only[aAN,UJ,wG,rH] at e1;obtain⟨w,U1,e3,e4⟩:=vB e1;cases e4;rcases he U with he | he
  ·rw[he] at e3;refine hSa h.v aA s Y H Q I ⟨U,G,w,_,r,e3,λx H1 G1 a1 rx=>?_⟩;cases q:w.d<;>rw[q] at e2<;>simp only[JM,reduceCtorEq,aC] at e2;subst e2
   have:=rx.MM
   rw[q] at this;exact⟨_,this.int,k H1 G1 a1⟩
  ·rw[he] at e3;cases e3
 cases c with
 |mH=>exact key .pA rfl rfl λU=>.inr (rfl)
 |_=>exact key _ rfl rfl λU=>.inl rfl
def rOa(xo:NA X K P C Z){lo hi:Option vA}{ca cl ch:E}(ha:JA X K P C a ca)(hl:PO X lo (tO K P C cl))(hh:PO X hi (tO K P C ch)):JA X K P C (.Subscript a (.Slice lo hi none p2) pos) (.sl ca cl ch):=by
 refine aF xo (TE.JD (kRa (oXa xo.ZC) ha.h hl hh) λY H Q q=>?_);obtain⟨U,G,v,U',r,e,k⟩:=q;obtain⟨hx,U1,e1,e⟩:=vB e;obtain⟨l,U2,e2,e⟩:=vB e;obtain⟨h,U3,e3,e⟩:=vB e;obtain⟨e4,rfl⟩:=UI e
 cases q1:hx.get U' with
 |none=>rw[q1] at e4;cases e4
 |some d =>
  cases q2:JM l with
  |none=>rw[q1,q2] at e4;cases e4
  |some l' =>
   cases q3:JM h with
   |none=>rw[q1,q2,q3] at e4;cases e4
   |some h' =>
    rw[q1,q2,q3] at e4;simp only[uH] at e4;refine⟨U,G,hx,U1,r,e1,λx H1 G1 a1 rx=>⟨U1,G1,l,U2,a1.oA,e2,l',q2,λH2 G2 a2=>⟨U2,G2,h,U',a2.oA,e3,h',q3,λH3 G3 a3=>?_⟩⟩⟩;have XZ:=a2.trans a3;refine⟨G3,d,v,a3.oA.sub,(rx.wait XZ.ext λa z=>.inl (XZ.own a z)).read a3.oA q1,e4,λz H4 hm=>?_⟩;obtain⟨G4,a4,v4⟩:=(a1.trans XZ).made hm;exact k z H4 G4 a4 v4
def zI(h:es.all aAd=true)(env:yK)(pos:MB):(UE pos (YB es env)).any (·.1)=false/\(UE pos (YB es env)).all (λx=>!x.1)=true:=by
 induction es with
 |nil=>exact⟨rfl,rfl⟩
 |cons e es ih =>
  rw[WC,WA] at h;rw[lD h.1];obtain⟨i1,i2⟩:=ih h.2
  unfold UE at *
  refine⟨?_, ?_⟩
  ·rw[KC,ZO,i1];rfl
  ·rw[KC,WC,i2];rfl
def uNa(xo:NA X K P C Z)(hf:Z.glob f=.fn g)(ns:(e::es).all aAd=true)(ha:PA X (e::es) (oH K P C cs)):JA X K P C (.Call (.Name f p) (e::es) [] pos) (.call g cs):=by
 obtain⟨h1,h2,h3,h4⟩:=CC.MH xo hf (λz=>nomatch z);obtain⟨fa,fd,ps,k0,F,hr,hm,hk,hb⟩:=(xo.fn f g h2).ex;rw[WC,WA] at ns;refine aF xo (TE.JD (sQa F hr h1 hm hk hb .nil pX ha h3 (lD ns.1 _ _) (zI ns.2 _ _).1) λY H Q q=>?_);obtain⟨U,G,v,U',r,e,k⟩:=q;obtain⟨hs,U1,e1,e⟩:=vB e;refine⟨U,G,hs,U1,r,e1,λxs H1 G1 a1 rx=>?_⟩;obtain⟨as,G2,QA,d1,d2,d3,_,d4⟩:=xV a1 rx e;rw[JC];refine⟨?_,as,G2,v,QA,d1,d2,d3,λx H' G' a hv=>?_⟩
 ·have:=d1.len
  rw[EA] at this
  lia
 ·obtain⟨a5,v5⟩:=d4 x H' G' a hv;exact k x H' G' a5 v5
def vw{f:bA}{b:BI}(h:Z0 f=some b):NL f=some (A1 b):=by
 unfold Z0 at h
 repeat (split at h;· (rename_i hf;cases h;subst hf;first | exact PySem.boot_len | decide +kernel | rfl))
 cases h
def xw(h:X0 f=some b):NL f=some (A1 b):=vw h
def T8(xo:NA X K P C Z)(hf:Z.glob f=.BB)(hb:X0 f=some b)(ns:(e::es).all aAd=true)(ha:PA X (e::es) (oH K P C cs)):JA X K P C (.Call (.Name f p) (e::es) [] pos) (.bif b cs):=by
 obtain⟨h1,h2,h3,h4⟩:=CC.MH xo hf (λz=>nomatch z);have hm:=xo.BB f h2;have hv:=xw hb;rw[WC,WA] at ns
 have hp:PE X (.Call (.Name f p) (e::es) [] pos) (Pa (tm K b) (oH K P C cs)):=by
  have hc:=Gw xo.ZC xo.calm xo.hh xo.rm b
  cases b<;>first
   |exact yl hc h1 hm hv ha h4 h3 (lD ns.1 _ _) (zI ns.2 _ _).1
   |exact tQa hc h1 hm hv ha h4 h3 (lD ns.1 _ _) (zI ns.2 _ _).1
 refine aF xo (TE.JD hp λY H Q q=>?_);obtain⟨U,G,v,U',r,e,k⟩:=q;obtain⟨hs,U1,e1,e⟩:=vB e;obtain⟨e2,rfl⟩:=UI e;refine⟨U,G,hs,U',r,e1,λxs H1 G1 a1 rx=>?_⟩
 cases q1:getAll hs U' with
 |none=>rw[q1] at e2;cases e2
 |some ds =>
  rw[q1] at e2;refine⟨G1,ds,v,a1.oA.sub,rx.getAll a1.oA q1,e2,λz H' hm=>?_⟩;obtain⟨G2,a2,v2⟩:=a1.made hm;exact k z H' G2 a2 v2
end
section
variable{K:gA}
def z7(h:gJ U i=true):∃ds p l,U[i]?=some (.ow (.l ds) p l):=by
 unfold gJ at h;split at h
 ·rename_i d p l e;exact⟨d,p,l,e⟩
 ·cases h
def BA.Up(r:BA K U Y H G)(h:U[i]?=some (.ow d p l))(hx:Y[i]?=some (some (.ref a)))(hr:zG K (CA H a ob) G a d') :
  AA K U Y H G (U.set i (.ow d' p l)) (CA H a ob) G:=by
 obtain⟨b,h1,g,o⟩:=r.ow i d p l h;rw[hx] at h1;cases h1;have hn:H a≠none:=(r.owned ⟨i,d,p,l,h,hx⟩).1
 have r0:BA K (U.set i .un) Y (CA H a ob) G:=by
  have ru:=r.unset i;have nu:=r.VQ h hx;refine⟨ru.len,λb u e=>?_,ru.sh,λj d' p' l' hj=>?_,ru.inj⟩
  ·have:b≠a:=λz=>by subst z;rw[g] at e;cases e
   rw[rB this];exact ru.sub b u e
  ·obtain⟨b,h3,h4,h5⟩:=ru.ow j d' p' l' hj;have hb:b≠a:=λz=>by subst z;exact nu ⟨j,d',p',l',hj,h3⟩
   exact⟨b,h3,h4,h5.mono (Sm.refl _) λ_ z=>by rw[rB hb];exact z⟩
 refine⟨r0.sO hx g hr (r.VQ h hx),⟨Sm.refl _,λb u e nb=>?_,λb e=>?_,λb e g' _=>g'⟩,rE.set (by rw[h];exact⟨rfl,rfl⟩)⟩
 ·have:b≠a:=λz=>by subst z;exact nb ⟨i,d,p,l,h,hx⟩
  rw[rB this];exact e
 ·by_cases hb:b=a
  ·subst hb;rw[VC] at e;cases e
  ·rwa[rB hb] at e
def BA.write(r:BA K U Y H G)(h:U[i]?=some (.ow d p l))(hx:Y[i]?=some (some (.ref a)))(hr:iA K G ds vs) :
  AA K U Y H G (U.set i (.ow (.l ds) p l)) (CA H a (.l vs)) G:=r.Up h hx ⟨vs,VC,hr⟩
def sNa(xo:NA X K P C Z)(hi:Z.slot x=some i)(hl:(OB.endLine==OC.line)=true)(ns:aAd a=true)(ha:JA X K P C a ca) :
  JA X K P C (.Call (.Attribute (.Name x p) ("append":bA) OB) [a] [] OC) (.app i ca):=by
 have hp:PE X (.Name x p) (PM i):=CC.OQ xo hi;have WJ:PA X [a] (SQ (tE K P C ca) TQ):=mO ha.v xT (lD ns _ _);have RN:[a].all aAd=true:=by rw[WC,ns];rfl
 refine aF xo (TE.JD (xl yq Hq PySem.F.type_list_append ik hp WJ rfl (by
   rw[WA,WA];exact⟨⟨(zI RN _ _).2,rfl⟩,rfl⟩) hl (lD ns _ _) rfl) λY H Q q=>?_)
 obtain⟨U,G,v,U',r,e,k⟩:=q;replace e:(if gJ U i then _ else none)=_:=e;split at e
 ·rename_i ho;obtain⟨d0,p0,l0,h0⟩:=z7 ho;obtain⟨b,hb,g0,o0⟩:=r.ow i _ p0 l0 h0;obtain⟨w,U1,e1,e⟩:=vB e;refine⟨.ref b,hb,.inl ⟨rfl, ?_⟩,U,G,w,U1,r,e1,λy H1 G1 a1 ry=>?_⟩
  ·obtain⟨vs,hv,_⟩:=o0;exact⟨vs,EB.of hv⟩
  ·split at e
   ·rename_i ds p1 h1;split at e
    ·rename_i hz;cases e;obtain⟨G2,a2,r2⟩:=a1.share ry;obtain⟨b',jD,g1,vs,hv,hr⟩:=a2.oA.ow i _ _ _ h1;rw[hb] at jD;cases jD
     have:=hr.len
     refine⟨b,vs,y,rfl,rfl,hv, ?_, ?_⟩
     ·have:=NM hz
      lia
     ·have a3:=a2.oA.write h1 hb (hr.app (iA.cons r2 iA.nil));exact k _ _ _ (a2.trans a3) (by show jA K G2 .lA _;simp[jA])
    ·cases e
   ·cases e
 ·cases e
def oOa(xo:NA X K P C Z)(hi:Z.slot x=some i)(hl:(OB.endLine==OC.line)=true)(ns:aAd a=true)(ha:JA X K P C a ca) :
  JA X K P C (.Call (.Attribute (.Name x p) ("pop":bA) OB) [a] [] OC) (.ET i ca):=by
 have hp:PE X (.Name x p) (PM i):=CC.OQ xo hi;have WJ:PA X [a] (SQ (tE K P C ca) TQ):=mO ha.v xT (lD ns _ _);have RN:[a].all aAd=true:=by rw[WC,ns];rfl
 refine aF xo (TE.JD (xl yq mr PySem.F.type_list_pop bLa hp WJ rfl (by
   rw[WA,WA];exact⟨⟨(zI RN _ _).2,rfl⟩,rfl⟩) hl (lD ns _ _) rfl) λY H Q q=>?_)
 obtain⟨U,G,v,U',r,e,k⟩:=q;replace e:(if gJ U i then _ else none)=_:=e;split at e
 ·rename_i ho;obtain⟨d0,p0,l0,h0⟩:=z7 ho;obtain⟨b,hb,g0,o0⟩:=r.ow i _ p0 l0 h0;obtain⟨w,U1,e1,e⟩:=vB e;refine⟨.ref b,hb,.inl ⟨rfl, ?_⟩,U,G,w,U1,r,e1,λy H1 G1 a1 ry=>?_⟩
  ·obtain⟨vs,hv,_⟩:=o0;exact⟨vs,EB.of hv⟩
  ·split at e
   ·rename_i _ ds p1 n h1;split at e
    ·rename_i hz
     cases q:ds[n.toNat]? with
     |none=>rw[q] at e;cases e
     |some d =>
      rw[q] at e;cases e;have ry:jA K G1 (.int n) y:=ry;simp only[jA] at ry;subst ry;obtain⟨b',jD,g1,vs,hv,hr⟩:=a1.oA.ow i _ _ _ h1;rw[hb] at jD;cases jD;obtain⟨x,hx,rd⟩:=hr.get q;have hn:n.toNat<vs.length:=(RD.mp hx).1;refine⟨b,vs,n,n.toNat,x,rfl,rfl,hv,by lia,by lia, ?_,hx, ?_⟩
      ·unfold seqIndex?
       have:¬n<0:=by lia
       have h9:n.toNat<vs.length:=hn;simp only[this,rH];exact GA (by rw[WA,OO,OO];lia)
      ·have a3:=a1.oA.write h1 hb (ds:=ds.eraseIdx n.toNat) (vs:=vs.eraseIdx n.toNat) (by rw[LU,LU];exact(hr.take _).app (hr.drop _));exact k _ _ _ (a1.trans a3) rd
    ·cases e
   ·cases e
 ·cases e
def xb:CA (CA H p a) p b=CA H p b:=by
 funext q
 by_cases h:q=p
 ·subst h;rw[VC,VC]
 ·rw[rB h,rB h,rB h]
def BA.LQ(r:BA K U Y H G)(g:G a=none)(n:¬yA U Y a):BA K U Y (CA H a o) G:=by
 refine⟨r.len,λb u e=>?_,r.sh,λj d' p' l' hj=>?_,r.inj⟩
 ·have:b≠a:=λz=>by subst z;rw[g] at e;cases e
  rw[rB this];exact r.sub b u e
 ·obtain⟨b,h3,h4,h5⟩:=r.ow j d' p' l' hj;have hb:b≠a:=λz=>by subst z;exact n ⟨j,d',p',l',hj,h3⟩
  exact⟨b,h3,h4,h5.mono (Sm.refl _) λ_ z=>by rw[rB hb];exact z⟩
theorem AA.LQ(b:AA K U Y H G U' H' G')(h:H a=none)(g:G' a=none)(n:¬yA U' Y a):AA K U Y H G U' (CA H' a o) G':=by
 refine⟨b.oA.LQ g n,⟨b.ext.gg,λc u e nc=>?_,λc e=>?_,b.ext.gn⟩,b.KJ⟩
 ·have:c≠a:=λz=>by subst z;rw[h] at e;cases e
  rw[rB this];exact b.ext.hh c u e nc
 ·by_cases hc:c=a
  ·subst hc;rw[VC] at e;cases e
  ·rw[rB hc] at e;exact b.ext.hx c e
def aOa(xo:NA X K P C Z)(hk:JA X K P C ke ck)(hv:JA X K P C ve cv):JA X K P C (.Dict [some ke] [ve] pos) (.fS ck cv):=by
 refine aF xo (TE.JD (yQa (by have:=xo.hu;lia) hk.v hv.v) λY H Q q=>?_);obtain⟨U,G,v,U',r,e,k⟩:=q;obtain⟨w,U1,e1,e⟩:=vB e;obtain⟨w2,U2,e2,e3⟩:=vB e;unfold yV at e3;split at e3
 ·rename_i k0 hs;cases e3;intro p hp sm;have nO:=r.eX hp;have gO:=bB.free r.sub hp;refine⟨U,G,w,U1,((AA.refl r).iJ hp).oA,e1,λx H1 G1 a1 rx=>?_⟩;have hH:H1 p=some (.ext (bC p [] 0)):=a1.ext.hh p _ VC nO;have hG:G1 p=none:=a1.ext.gn p (by rw[VC];simp) gO nO;have hN:¬yA U1 Y p:=λz=>nO (a1.own p z)
  obtain⟨b,rfl,kk⟩:=gT hs rx.MM;refine⟨U1,G1,w2,U',a1.oA,e2,λy H2 G2 a2 ry=>?_⟩;have a0:AA K U Y H G U' H2 G2:=((AA.refl r).iJ hp).trans (a1.trans a2);have hH2:H2 p=some (.ext (bC p [] 0)):=a2.ext.hh p _ hH hN;have hG2:G2 p=none:=a2.ext.gn p (by rw[hH];simp) hG hN;have Lg:¬yA U' Y p:=λz=>hN (a2.own p z)
  obtain⟨G3,a3,r3,s3⟩:=a2.O9 ry;have Bj:rC K G3 k0 b:=rC.mono (a2.ext.gg.trans s3) kk;have a4:AA K U Y H G U' H2 G3:=((AA.refl r).iJ hp).trans (a1.trans a3);have Ig:G3 p=none:=a3.ext.gn p (by rw[hH];simp) hG hN;refine⟨hH2,k0,b,rfl,by rw[xo.ZC];exact rC.mono a3.oA.sub Bj,λu ru ep=>?_⟩;refine k _ _ G3 (a4.LQ hp Ig Lg) ⟨p,rfl,Ig,⟨_,[y],⟨_,VC⟩, ?_,iA.cons r3 iA.nil⟩,Lg,hp⟩;exact⟨by simp,by rw[dP];simp,sm,λx hx=>by rw[DC.mp hx];exact Bj,rfl,.cons ru .nil⟩
 ·cases e3
def zNa(xo:NA X K P C Z):JA X K P C (.Dict [] [] pos) .X1:=by
 refine aF xo (TE.JD xQa λY H Q q=>?_);obtain⟨U,G,v,U',r,e,k⟩:=q;cases e;intro p hp sm;obtain⟨a1,v1⟩:=(AA.refl r).Cy (ks:=[]) (ds:=[]) (vs:=[]) (xs:=[]) hp ⟨List.nodup_nil,tJ _,sm,(λx hx=>nomatch hx),rfl,.nil⟩ iA.nil;exact k _ _ _ a1 v1
def yNa(xo:NA X K P C Z){k v:vA}{cs es:List E}{pos:MB}(hk:∀c,cs=[c]->JA X K P C k c)(hv:∀c,es=[c]->JA X K P C v c):JA X K P C (.Dict [some k] [v] pos) (vV cs es):=by
 unfold vV;split
 ·exact aOa xo (hk _ rfl) (hv _ rfl)
 ·exact xB
def bOa(xo:NA X K P C Z)(hk:∀k c,ks=[some k]->cs=[c]->JA X K P C k c)(hv:∀v c,vs=[v]->es=[c]->JA X K P C v c):JA X K P C (.Dict ks vs pos) (wV ks vs cs es):=by
 induction ks using XB with
 |nil =>
  induction vs using XB with
  |nil=>exact xB
  |cons=>exact xB
 |cons k r =>
  induction r using XB with
  |cons=>exact xB
  |nil =>
   induction k using VG with
   |none=>exact xB
   |some k =>
    induction vs using XB with
    |nil=>exact xB
    |cons v r =>
     induction r using XB with
     |cons=>exact xB
     |nil =>
      have d2:=yNa (pos:=pos) xo (λc h=>hk _ c rfl h) λc h=>hv _ c rfl h
      exact d2
def j1a(xo:gC q X K P C Z)(h:bY Z t=some ty):PE X t (tC (wb ty))/\aAd t=true:=by
 cases t<;>simp only[bY,reduceCtorEq] at h;rename_i x pos;split at h
 ·rename_i hg;obtain⟨h1,h2,h3,h4⟩:=CC.MH xo hg (λz=>nomatch z);have hm:=xo.BB x h2;refine⟨?_,rfl⟩;split at h
  ·rename_i hx;cases h;subst hx;exact f9 h1 hm (u:=.type "int") (by decide +kernel) rfl
  ·split at h
   ·rename_i hx;cases h;subst hx;exact f9 h1 hm (u:=.type "bool") (by decide +kernel) rfl
   ·split at h
    ·rename_i hx;cases h;subst hx;exact f9 h1 hm (u:=.type "tuple") (by decide +kernel) rfl
    ·cases h
 ·cases h
def eOa(xo:gC q X K P C Z)(hf:Z.glob ("isinstance":bA)=.BB)(ht:bY Z t=some ty)(ns:aAd a=true)(ha:JA X K P C a ca) :
  JA X K P C (.Call (.Name ("isinstance":bA) p) [a,t] [] pos) (.zM ca [ty]):=by
 obtain⟨h1,h2,h3,h4⟩:=CC.MH xo hf (λz=>nomatch z);have hm:=xo.BB _ h2;obtain⟨pt,nt⟩:=j1a xo ht;have WJ:PA X [a,t] (SQ (tH K P C ca) (SQ (tC (wb ty)) TQ)):=mO ha.h (mO pt xT (lD nt _ _)) (lD ns _ _);have RN:[t].all aAd=true:=by rw[WC,nt];rfl
 have hp:=yl (p:=p) (pos:=pos) (dFa xo.ZC ty) h1 hm (by decide +kernel) WJ h4 h3 (lD ns _ _) (zI RN _ _).1;refine aF xo (TE.JD hp λY H Q q=>?_);obtain⟨U,G,v,U',r,e,k⟩:=q;obtain⟨hx,U1,e1,e⟩:=vB e;obtain⟨e2,rfl⟩:=UI e;refine⟨U,G,hx,U',r,e1,λx H1 G1 a1 rx=>?_⟩
 cases q1:hx.get U' with
 |none=>rw[q1] at e2;cases e2
 |some d =>
  rw[q1] at e2;simp only[uH,XS] at e2
  cases q2:B7 ty d with
  |none=>rw[q2] at e2;cases e2
  |some b =>
   rw[q2] at e2;simp only[uH,EE,vR,aC] at e2;subst e2;exact⟨G1,d,x,b,a1.oA.sub,rfl,rx.read a1.oA q1,q2,k _ H1 G1 a1 (by show jA K G1 (.bl _) _;simp[jA])⟩
def eSa(h:∀lo hi p,b≠.Slice lo hi none p):UZ b:=λo i=>by
 cases b<;>first
  |rfl
  | (rename_i lo hi st p;cases st with
    |none=>exact absurd rfl (h lo hi p)
    |some s=>rfl)
end
section
variable{K:gA}
def U8(xo:NA X K P C Z)(hi:Z.slot x=some i)(pos:MB):JA X K P C (.Name x pos) (.ID i):=by
 have hp:=CC.OQ xo hi (pos:=pos);refine aF xo (TE.JD (Dl (K:=K) (P:=P) (C:=C) hp) λY H Q q=>?_);obtain⟨U,G,v,U',r,e,k⟩:=q;exact⟨U,G,v,U',r,e,k⟩
theorem Sj:∀{ns:List bA} {ds:List D} {vs:List V} {d:D},iA K G ds vs->(ns.zip ds).lookup f=some d->f∈ns/\∃v,(ns.zip vs).lookup f=some v/\jA K G d v
 |[],_,_,_,_,h=>by simp at h
 |n::ns,[],_,_,_,h=>by simp at h
 |n::ns,d0::ds,vs,d,r,h=>by
  simp only[iA] at r;obtain⟨v,r',rfl,h1,h2⟩:=r;rw[aN,aI] at h ⊢
  cases q:(f==n) with
  |true =>
   rw[q] at h;cases h;exact⟨by rw[EC q];simp,v,rfl,h1⟩
  |false =>
   rw[q] at h;obtain⟨z1,v',z2,z3⟩:=Sj h2 h;exact⟨fD _ z1,v',z2,z3⟩
theorem JB.ins(h:JB K H G (.ins c ns ds) x):jA K G (.ins c ns ds) x:=by
 rcases h with h | ⟨a,rfl,h⟩
 ·exact h
 ·exact h.elim
def dOa(xo:NA X K P C Z):JA X K P C (.Attribute (.Name x p) f pos) (.fld (FN Z x) f):=by
 have ha:=Qk xo x p;refine aF xo (TE.JD (zQa ha.h rfl) λY H Q q=>?_);obtain⟨U,G,v,U',r,e,k⟩:=q;obtain⟨hx,U1,e1,e⟩:=vB e;obtain⟨e3,rfl⟩:=UI e;refine⟨U,G,hx,U',r,e1,λx H1 G1 a1 rx=>?_⟩
 cases q1:hx.get U' with
 |none=>rw[q1] at e3;cases e3
 |some d =>
  rw[q1] at e3;simp only[uH] at e3;have hK:=xo.ZC;cases d<;>simp only[D3,reduceCtorEq,Option.map_none] at e3
  case ins c ns ds =>
   cases q2:(ns.zip ds).lookup f with
   |none=>rw[q2] at e3;cases e3
   |some d' =>
    rw[q2] at e3;cases e3;have rr:=(rx.read a1.oA q1).ins;simp only[jA] at rr;obtain⟨a,Ca,dx,vs,rfl,h1,h2,h3,h4,h5⟩:=rr;obtain⟨z1,v',z2,z3⟩:=Sj h3 q2;exact⟨a,Ca,dx,_,v',rfl,a1.oA.sub _ _ h2,by rw[hK];exact h4.cl,by rw[hK];exact h4.no f z1,z2,k v' H1 G1 a1 z3⟩
def jOa(xo:NA X K P C Z)(hf:Z.glob f=.cls ns)(st:(e::es).all aAd=true)(ha:PA X (e::es) (DL K P C cs)):JA X K P C (.Call (.Name f p) (e::es) [] pos) (.make f ns cs):=by
 obtain⟨h1,h2,h3,h4⟩:=CC.MH xo hf (λz=>nomatch z);obtain⟨Ca,fa,fd,ps,hn,hm,M,cf,F,hb⟩:=(xo.cls f ns h2).ex;rw[WC,WA] at st;refine aF xo (TE.JD (eRa M F xo.rm h1 hm hb .nil pX ha h3 (lD st.1 _ _) (zI st.2 _ _).1) λY H Q q=>?_);obtain⟨U,G,v,U',r,e,k⟩:=q;obtain⟨ds,U1,e1,e⟩:=vB e;split at e
 ·rename_i hl;cases e;refine⟨U,G,ds,_,r,e1,λxs H1 G1 a1 rx x dx nx ndx ne=>?_⟩;have el:xs.length=ns.length:=rx.len.trans hl;rw[JC];refine⟨x,Ca,dx,xs,rfl,el,VC,cf,rfl, ?_⟩;rw[xb];have nx':(CA H1 dx (.own x)) x=none:=by rw[rB (hE ne)];exact nx
  have a2:=(a1.iJ (o:=.own x) ndx).DM (o:=.ins Ca dx (ns.zip xs)) nx';refine k (.ref x) _ _ a2 ?_;show jA K _ (.ins f ns ds) _;simp only[jA];exact⟨x,Ca,dx,xs,rfl,hn,VC,iA.mono (Sm.laid (bB.free a1.oA.sub nx)) ds rx,cf,el.symm⟩
 ·cases e
theorem Tj:∀{ns:List bA} {vs:List O},ns.contains f=false->(ns.zip vs).lookup f=none
 |[],_,_=>by simp
 |n::ns,[],_=>by simp
 |n::ns,v::vs,h=>by(rw[ur,Vb] at h;rw[aN,aI,h.1];exact Tj h.2)
def fk(st:es.all aAd=true)(PH:(OB.endLine==pos.line)=true)(d6:es.length<29)(env:yK)(hb:attributeBase o m env (eval o env)=eval o env:=by rfl):eval (.Call (.Attribute o m OB) es [] pos) env=(do
   let ov <- eval o env
   standAt OB.atName
   let (f,first) <- holding [ov] (getMethod ov m (do return (<- importBound o env).getD true))
   callWith pos f first (UE pos (YB es env)) (backToKw pos (keywordEach [] env))):=by
 rw[arm_eval_Call]
 have aCa:methodCallForm (es.length+([]:List BZ).length) (UE pos (YB es env)) (backToKw pos (keywordEach [] env))=true:=by
  unfold methodCallForm;rw[(zI st env pos).2];simp only[aP]
  have:(backToKw pos (keywordEach [] env))=[]:=rfl
  rw[this];simp
  lia
 have GS:methodCallPos true o env OB pos=pure pos:=by unfold methodCallPos;simp[PH]
 unfold methodCall;rw[aCa];unfold calleeOf;simp only[if_true,GS,hb];rfl
def kOa(xo:NA X K P C Z)(hi:Z.slot x=some i)(hm:Z.gl (dot m)=.sF tb)(st:es.all aAd=true)(PH:(OB.endLine==pos.line)=true)(d6:es.length<29)(ha:PA X es (oH K P C cs))(hz:es=[]->cs=[]):JA X K P C (.Call (.Attribute (.Name x p) m OB) es [] pos) (.kJ i m tb cs):=by
 have hp:=CC.OQ xo hi (pos:=p);refine aF xo (λaA s Y H Q I q=>?_);obtain⟨U,G,v,U',r,e,k⟩:=q;replace e:(match U[i]? with | some (.sh (.ins c ns ds))=>(match JG c ns m tb with | some f=>(bD P C cs U).bind λhs U1=>ND (P f) (C f) (.val (.sh (.ins c ns ds))::hs) U1 | none=>none) | _=>none)=some (.ok v,U'):=e;split at e
 ·rename_i c ns ds hs;split at e
  ·rename_i f kW;unfold JG at kW;split at kW
   ·cases kW
   ·rename_i nI;obtain⟨Ca,fa,fd,ps,k0,hn,M,F,hr,hb,DD⟩:=(xo.sF m tb c f hm kW).ex;obtain⟨x0,R6,K9⟩:=r.sh i _ hs;have rx1:=K9;simp only[jA] at K9;obtain⟨a,Cb,dx,vs,rfl,h1,h2,h3,h4,h5⟩:=K9;rw[hn] at h1;cases h1;obtain⟨Tg,U1,e1,e⟩:=vB e;have hK:=xo.ZC;have mf:yG X.K Ca:=by rw[hK];exact h4.cl
    have main:∀t:TA,(∀Y H Q,oH K P C cs Y H Q->t Y H Q)->Va Ca m (PQ K (P f).length (C f)) [] (λ_ _ _=>False) (PM i) t Y H Q:=λt ht=>by
     refine⟨.ref a,R6,a,dx,_,rfl,r.sub _ _ h2,Tj (by simpa using nI),ht _ _ _ ⟨U,G,Tg,U1,r,e1,λxs H1 G1 a1 rx=>?_⟩⟩;have xX:dE K H1 G1 (yA U1 Y) (uE H) Y (.val (.sh (.ins c ns ds))::Tg) (.ref a::xs):=⟨.ref a,xs,rfl,jA.mono a1.ext.gg _ rx1,rx,λd b z=>by cases z⟩
     obtain⟨as,G2,QA,d1,d2,d3,_,d4⟩:=xV a1 xX e;dsimp only;rw[JC];refine⟨?_,as,G2,v,QA,d1,d2,d3,λx H' G' a hv=>?_⟩
     ·have:=d1.len
      rw[EA] at this
      lia
     ·obtain⟨a5,v5⟩:=d4 x H' G' a hv;exact k x H' G' a5 v5
    induction es using XB with
    |nil =>
     cases hz rfl;refine gRa hp mf M F hr hb .nil pX (fk st PH d6 _) aA s Y H Q I (main _ λY' H' Q' z=>?_);obtain⟨U2,G2,qF,U3,r2,e2,k2⟩:=z;rw[bD] at e2;cases e2;exact k2 [] H' G2 (AA.refl r2) rfl
    |cons e0 es0 =>
     have IC:=st;rw[WC,WA] at st;exact fRa hp mf M F hr hb .nil pX ha (lD st.1 _ _) (zI st.2 _ _).1 (fk IC PH d6 _) aA s Y H Q I (main _ λ_ _ _ z=>z)
  ·cases e
 ·cases e
end
section
variable{X:Cx}{K:gA}{P:RA}{C:Calls}{Z:CC}
def cOa(xo:NA X K P C Z)(hv:∀v∈vs,JA X K P C v (cE Z v))(hc:JA X K P C (.Dict ks vs pos) c):JA X K P C (.Dict ks vs pos) (B2 ks vs (pB Z vs) c):=hc
end
structure TB(K:gA)(U:Env)(Y:St)(H G:Hp)(U':Env)(Y':St)(H' G':Hp):Prop where
 oA:BA K U' Y' H' G'
 ext:Ext (yA U Y) H G H' G'
 own:∀a,yA U' Y' a->yA U Y a\/H a=none
 un:∀i:Nat,U'[i]?=some .un->U[i]?=some .un/\Y'[i]?=Y[i]?
 pin:∀(i:Nat) d l,U[i]?=some (.ow d true l)->Y'[i]?=Y[i]?/\∃d',U'[i]?=some (.ow d' true l)
 len:U'.length=U.length
section
variable{K:gA}
theorem TB.refl(r:BA K U Y H G):TB K U Y H G U Y H G:=⟨r,Ext.refl,λ_ h=>.inl h,λ_ h=>⟨h,rfl⟩,λ_ d _ h=>⟨rfl,d,h⟩,rfl⟩
theorem AA.s(r:BA K U Y H G)(a:AA K U Y H G U' H' G'):TB K U Y H G U' Y H' G':=by
 refine⟨a.oA,a.ext,λx h=>.inl (a.own x h),λi h=>⟨?_,rfl⟩,λi d l h=>⟨rfl, ?_⟩, ?_⟩
 ·have:=a.KJ i
  rw[h] at this
  cases e:U[i]? with
  |none=>rw[e] at this;exact this.elim
  |some s=>rw[e] at this;cases s<;>first | rfl | exact this.elim
 ·have:=a.KJ i
  rw[h] at this
  cases e:U'[i]? with
  |none=>rw[e] at this;exact this.elim
  |some s =>
   rw[e] at this
   cases s with
   |ow d' p' l'=>obtain⟨rfl,rfl⟩:=this;exact⟨d',rfl⟩
   |sh d'=>exact absurd (show true=false from this) (by simp)
   |_=>exact this.elim
 ·rw[a.oA.len,r.len]
theorem TB.trans(a:TB K U Y H G U1 Y1 H1 G1)(b:TB K U1 Y1 H1 G1 U2 Y2 H2 G2):TB K U Y H G U2 Y2 H2 G2:=by
 refine⟨b.oA,a.ext.trans a.own b.ext,λx h=>?_,λi h=>?_,λi d l h=>?_,b.len.trans a.len⟩
 ·rcases b.own x h with z | z
  ·exact a.own x z
  ·exact .inr (a.ext.hx x z)
 ·obtain⟨h1,h2⟩:=b.un i h;obtain⟨h3,h4⟩:=a.un i h1;exact⟨h3,h2.trans h4⟩
 ·obtain⟨h1,d',h2⟩:=a.pin i d l h;obtain⟨h3,h4⟩:=b.pin i d' l h2;exact⟨h3.trans h1,h4⟩
def YG(K:gA)(U:Env)(Y:St)(H G:Hp)(U':Env)(D:Ends):Fl->Prop
 |.nx=>∀Y' H' G',TB K U Y H G U' Y' H' G'->D.nx Y' H'
 |.bk=>∀Y' H' G',TB K U Y H G U' Y' H' G'->D.bk Y' H'
 |.ct=>∀Y' H' G',TB K U Y H G U' Y' H' G'->D.ct Y' H'
 |.rt v=>∀x Y' H' G',TB K U Y H G U' Y' H' G'->NC K H' G' (yA U' Y') (λa=>yA U Y a\/H a=none) v x->D.rt x H'
 |.ex _=>False
def YG.pre{D:Ends}(a:TB K U Y H G U1 Y1 H1 G1)(h:YG K U Y H G U' D fl):YG K U1 Y1 H1 G1 U' D fl:=by
 induction fl using Fl.casesOn with
 |nx=>exact λY' H' G' b=>h Y' H' G' (a.trans b)
 |bk=>exact λY' H' G' b=>h Y' H' G' (a.trans b)
 |ct=>exact λY' H' G' b=>h Y' H' G' (a.trans b)
 |rt v=>exact λx Y' H' G' b hv=>h x Y' H' G' (a.trans b) (hv.SH λc z=>by
   rcases z with z | z
   ·exact a.own c z
   ·exact .inr (a.ext.hx c z))
 |ex e=>exact h
end
def tS(K:gA)(P:RA)(C:Calls)(W:Nat)(c:S):TS:=λD Y H=>∃(U:Env) (G:Hp) (fl:Fl) (U':Env),BA K U Y H G/\ex P C W c U=some (fl,U')/\YG K U Y H G U' D fl
def PF(K:gA)(P:RA)(C:Calls)(W:Nat)(c:List S):TS:=λD Y H=>∃(U:Env) (G:Hp) (fl:Fl) (U':Env),BA K U Y H G/\IA P C W c U=some (fl,U')/\YG K U Y H G U' D fl
def TS.ZE(h:PS X e t)(w:∀D Y H,u D Y H->t D Y H):PS X e u:=λaA s Y H D I q=>h aA s Y H D I (w D Y H q)
def TS.X6(h:FC X e t)(w:∀D Y H,u D Y H->t D Y H):FC X e u:=λaA s Y H D I q=>h aA s Y H D I (w D Y H q)
section
variable{X:Cx}{K:gA}
def kI{r:xA O}(h:r.VB f=some (fl,U))(n:∀e,fl≠.ex e):∃a U1,r=some (.ok a,U1)/\f a U1=some (fl,U):=by
 unfold xA.VB at h;split at h
 ·cases h
 ·cases h;exact absurd rfl (n _)
 ·exact⟨_,_,rfl,h⟩
def YG.ne{D:Ends}(h:YG K U Y H G U' D fl):∀e,fl≠.ex e:=λe z=>by subst z;exact h
def wTa:FC X [] (PF K P C W []):=TS.X6 cm λD Y H hz=>by
 obtain⟨U,G,fl,U',r,e,k⟩:=hz;simp only[IA,aC,aE] at e;obtain⟨rfl,rfl⟩:=e;exact k Y H G (TB.refl r)
def vTa{st:MA}{aAk:List MA}(h1:PS X st (tS K P C W c))(h2:FC X aAk (PF K P C W cs)):FC X (st::aAk) (PF K P C W (c::cs)):=by
 refine TS.X6 (z9 h1 h2) λD Y H hz=>?_
 obtain⟨U,G,fl,U',r,e,k⟩:=hz;rw[IA] at e
 cases q:ex P C W c U with
 |none=>rw[q] at e;cases e
 |some y =>
  obtain⟨bL,U1⟩:=y;rw[q] at e;refine⟨U,G,bL,U1,r,q, ?_⟩
  induction bL using Fl.casesOn with
  |nx=>exact λY1 H1 G1 a1=>⟨U1,G1,fl,U',a1.oA,e,k.pre a1⟩
  |bk=>cases e;exact k
  |ct=>cases e;exact k
  |rt v=>cases e;exact k
  |ex x=>cases e;exact k
def BA.tYa(r:BA K U Y H G)(e:store i v U=some U')(h:NC K H G (yA U Y) new v x) :
  BA K U' (Y.set i (some x)) H G/\(∀a,yA U' (Y.set i (some x)) a->yA U Y a\/new a)/\(∀j:Nat,U'[j]?=some .un->U[j]?=some .un/\(Y.set i (some x))[j]?=Y[j]?) /\
  (∀(j:Nat) d l,U[j]?=some (.ow d true l)->(Y.set i (some x))[j]?=Y[j]?/\∃d',U'[j]?=some (.ow d' true l))/\U'.length=U.length:=by
 have key:∃sl,i<U.length/\U'=U.set i sl/\(∀d l,U[i]?≠some (.ow d true l))/\((∃d,v=.sh d/\sl=.sh d)\/∃d,v=.ow d/\sl=.ow d false false):=by
  unfold store at e;split at e
  ·cases e
  ·cases e
  ·cases e
  ·rename_i s h1 h2 h3;have qh:∀d l,U[i]?≠some (.ow d true l):=λd l z=>by rw[h3] at z;cases z;exact h1 _ _ rfl
   have AD:=(RD.mp h3).1
   induction v using RV.casesOn with
   |sh d=>cases e;exact⟨_,AD,rfl,qh,.inl ⟨d,rfl,rfl⟩⟩
   |ow d=>cases e;exact⟨_,AD,rfl,qh,.inr ⟨d,rfl,rfl⟩⟩
   |od d=>cases e
 obtain⟨sl,hi,rfl,np,hs⟩:=key;have nL:i<Y.length:=by rw[<- r.len];exact hi
 have hx:(Y.set i (some x))[i]?=some (some x):=DK nL;have ne:∀j:Nat,j≠i->(Y.set i (some x))[j]?=Y[j]?:=λj h=>iF (λz=>h z.symm)
 have cF:∀(j:Nat) s,(U.set i sl)[j]?=some s->(j=i/\s=sl)\/(j≠i/\U[j]?=some s):=λj s h=>by
  rcases TH h with ⟨h1,h2,_⟩ | h
  ·exact .inl ⟨h1,h2⟩
  ·exact .inr h
 refine⟨⟨by rw[SG,SG];exact r.len,r.sub,λj d h1=>?_,λj d p l h1=>?_,λj k d p l d' p' l' a h1 h2 h3 h4=>?_⟩,λa ⟨j,d,p,l,h1,h2⟩=>?_,λj h1=>?_,λj d l h1=>?_,by rw[SG]⟩
 ·rcases cF j _ h1 with ⟨rfl,z⟩ | ⟨nj,z⟩
  ·rcases hs with ⟨d0,rfl,rfl⟩ | ⟨d0,rfl,rfl⟩
   ·cases z;exact⟨x,hx,h⟩
   ·cases z
  ·rw[ne j nj];exact r.sh j d z
 ·rcases cF j _ h1 with ⟨rfl,z⟩ | ⟨nj,z⟩
  ·rcases hs with ⟨d0,rfl,rfl⟩ | ⟨d0,rfl,rfl⟩
   ·cases z
   ·cases z;obtain⟨a,rfl,g,o,_,_⟩:=h;exact⟨a,hx,g,o⟩
  ·rw[ne j nj];exact r.ow j d p l z
 ·rcases cF j _ h1 with ⟨rfl,z⟩ | ⟨nj,z⟩
  ·rcases cF k _ h2 with ⟨rfl,z'⟩ | ⟨nk,z'⟩
   ·rfl
   ·rcases hs with ⟨d0,rfl,rfl⟩ | ⟨d0,rfl,rfl⟩
    ·cases z
    ·obtain⟨b,rfl,g,o,no,_⟩:=h;rw[hx] at h3;cases h3;rw[ne k nk] at h4;exact absurd ⟨k,_,_,_,z',h4⟩ no
  ·rcases cF k _ h2 with ⟨rfl,z'⟩ | ⟨nk,z'⟩
   ·rcases hs with ⟨d0,rfl,rfl⟩ | ⟨d0,rfl,rfl⟩
    ·cases z'
    ·obtain⟨b,rfl,g,o,no,_⟩:=h;rw[hx] at h4;cases h4;rw[ne j nj] at h3;exact absurd ⟨j,_,_,_,z,h3⟩ no
   ·rw[ne j nj] at h3;rw[ne k nk] at h4;exact r.inj _ _ _ _ _ _ _ _ _ z z' h3 h4
 ·rcases cF j _ h1 with ⟨rfl,z⟩ | ⟨nj,z⟩
  ·rcases hs with ⟨d0,rfl,rfl⟩ | ⟨d0,rfl,rfl⟩
   ·cases z
   ·obtain⟨b,rfl,g,o,no,m⟩:=h;rw[hx] at h2;cases h2;exact .inr m
  ·rw[ne j nj] at h2;exact .inl ⟨j,d,p,l,z,h2⟩
 ·rcases cF j _ h1 with ⟨rfl,z⟩ | ⟨nj,z⟩
  ·rcases hs with ⟨d0,rfl,rfl⟩ | ⟨d0,rfl,rfl⟩<;>cases z
  ·exact⟨z,ne j nj⟩
 ·by_cases hj:j=i
  ·subst hj;exact absurd h1 (np d l)
  ·exact⟨ne j hj,d,by rw[iF (λz=>hj z.symm)];exact h1⟩
theorem AA.store(r:BA K U Y H G)(a:AA K U Y H G U1 H1 G1)(e:store i v U1=some U')(h:NC K H1 G1 (yA U1 Y) (uE H) v x):TB K U Y H G U' (Y.set i (some x)) H1 G1:=by
 obtain⟨h1,h2,h3,h4,h5⟩:=a.oA.tYa e h;have s:=AA.s r a;refine⟨h1,a.ext,λb z=>?_,λj z=>?_,λj d l z=>?_,h5.trans s.len⟩
 ·rcases h2 b z with z | z
  ·exact s.own b z
  ·exact .inr z
 ·obtain⟨z1,z2⟩:=h3 j z;obtain⟨z3,z4⟩:=s.un j z1;exact⟨z3,z2⟩
 ·obtain⟨_,d',z2⟩:=s.pin j d l z;exact h4 j d' l z2
def BA.Qn(r:BA K U Y H G)(e:store i (.sh d) U=some U')(h:jA K G d x):TB K U Y H G U' (Y.set i (some x)) H G :=
 AA.store r (AA.refl r) e h
def gB(K:gA)(one:Bool)(is:List Nat):TG:=λv Y H Q=>∃(U:Env) (G:Hp) (d:D) (U':Env),BA K U Y H G/\jA K G d v/\oB one is d U=some U'/\∀Y',TB K U Y H G U' Y' H G->Q Y' H
def vS(K:gA)(is:List Nat):tP:=λvs Y H Q=>∃(U:Env) (G:Hp) (ds:List D) (U':Env),BA K U Y H G/\iA K G ds vs/\aAp is ds U=some U'/\∀Y',TB K U Y H G U' Y' H G->Q Y' H
def pRa(h:PG X tg (ON i)):PG X tg (gB K true [i]):=by
 intro aA s Y H v u Q I rv h0;obtain⟨U,G,d,U',r,hd,e,k⟩:=h0;exact h aA s Y H v u Q I rv (k _ (r.Qn (by simpa only[oB] using e) hd))
def vRa:LK X [] (vS K []):=λaA s Y H vs us Q I rv hz=>by
 obtain⟨U,G,ds,U',r,hd,e,k⟩:=hz
 induction ds using XB with
 |nil =>
  simp only[aAp,aC] at e;subst e;simp only[iA] at hd;subst hd;exact uRa aA s Y H [] us Q I rv ⟨rfl,k Y (TB.refl r)⟩
 |cons d ds=>simp[aAp] at e
def tRa(h:PG X e (ON i))(t:LK X es (vS K is))(hs:(qH (e::es) X.env).map (·.2)=assign e X.env::(qH es X.env).map (·.2)):LK X (e::es) (vS K (i::is)) :=
 λaA s Y H vs us Q I rv hz=>by
  obtain⟨U,G,ds,U',r,hd,e,k⟩:=hz
  induction ds using XB with
  |nil=>simp[aAp] at e
  |cons d ds =>
   simp only[aAp] at e
   cases q:store i (.sh d) U with
   |none=>rw[q] at e;cases e
   |some U1 =>
    rw[q] at e;simp only[iA] at hd;obtain⟨v,r',rfl,h1,h2⟩:=hd;have a1:=r.Qn q h1;exact sRa h t hs aA s Y H (v::r') us Q I rv ⟨v,r',rfl,U1,G,ds,U',a1.oA,h2,e,λY' a2=>k Y' (a1.trans a2)⟩
theorem Tn:∀{is:List Nat} {ds:List D} {U U':Env},aAp is ds U=some U'->ds.length=is.length
 |[],[],_,_,_=>rfl
 |[],_::_,_,_,e=>by simp[aAp] at e
 |_::_,[],_,_,e=>by simp[aAp] at e
 |i::is,d::ds,U,U',e=>by
  simp only[aAp] at e
  cases q:store i (.sh d) U with
  |none=>rw[q] at e;cases e
  |some U1=>rw[q] at e;simp[Tn e]
def Hl(xo:NA X K P C Z)(t:LK X es (vS K is))(hn:(qH es X.env).length=is.length)(JS:(qH es X.env).findIdx? (·.1)=none):PG X (.Tuple es k0 pos) (gB K false is) :=
 λaA s Y H v u Q I rv hz=>by
  obtain⟨U,G,d,U',r,hd,e,k⟩:=hz
  induction d using D.casesOn with
  |t ds =>
   simp only[oB] at e;simp only[jA] at hd;obtain⟨a,vs,rfl,h1,h2⟩:=hd;refine rRa xo.calm t hn JS aA s Y H (.ref a) u Q I rv ⟨a,vs,rfl, ?_, ?_,U,G,ds,U',r,h2,e,k⟩
   ·rw[xo.ZC];exact yI r.sub h1
   ·rw[h2.len];exact Tn e
  |_=>simp only[oB,reduceCtorEq] at e
end
mutual
noncomputable def s1a(x:bA):MA->Bool
 |.For _ it body _ _=>(aAw it==some x)||kU x body
 |.If _ a b _=>kU x a||kU x b
 |_=>false
noncomputable def kU(x:bA):List MA->Bool
 |[]=>false
 |s::r=>s1a x s||kU x r
end
def tQ(Z:CC)(it:vA)(body:List MA)(cs:List E):List E :=
 match aAw it with
 |some x=>(match Z.slot x with | some i=>if kU x body then [.ID i] else cs | none=>cs)
 |none=>cs
def wX(Z:CC)(x:bA)(args:List vA):S:=if args.all aAd&&(decide (args≠[])&&decide (args.length<=100)) then(match Z.glob x with | .exc=>.AL x (pB Z args) | .LJ=>.G9 x (pB Z args) | _=>.pA) else .pA
def OT(Z:CC)(e:vA):S:=match YS e with
 |some x=>wX Z x.1.1 x.2.1
 |none=>.pA
def UN:List cI->Option (bA×bA×List MA)
 |[.ExceptHandler (some c) (some n) body _]=>(aAw c).map λx=>(x,n,body)
 |_=>none
def N8(h:aAw e=some x):∃p,e=.Name x p:=by
 cases e<;>first | exact KQ h | exact⟨_,congrArg (λy=>Expr.Name y _) (ZD h)⟩
def uCa(h:UN hs=some (x,n,body)):∃p q,hs=[.ExceptHandler (some (.Name x p)) (some n) body q]:=by
 obtain _ | ⟨⟨ty,nm,bd,p2⟩,_ | ⟨_,_⟩⟩:=hs
 ·exact KQ h
 ·obtain _ | c:=ty
  ·exact KQ h
  ·obtain _ | n':=nm
   ·exact KQ h
   ·replace h:(aAw c).map (λx=>(x,n',bd))=some (x,n,body):=h
    cases hc:aAw c with
    |none=>rw[hc] at h;exact KQ h
    |some y =>
     rw[hc] at h;cases h;obtain⟨p,rfl⟩:=N8 hc;exact⟨_,_,rfl⟩
 ·obtain _ | c:=ty<;>obtain _ | n':=nm<;>exact KQ h
def Lv:List MA->Option (bA×bA)
 |[.Assign [t] v _]=>(aAw t).bind λy=>(aAw v).map λn=>(y,n)
 |_=>none
noncomputable def yp(Z:CC)(cb:List S)(x n:bA)(body:List MA):S:=.pA
noncomputable def zp(Z:CC)(cb:List S)(x n:bA)(body:List MA):S:=.pA
def mEa(n:bA)(body:List MA):Bool:=match Lv body with
 |some (_,n')=>n'==n
 |none=>false
noncomputable def aY(cb:List S)(hs:List cI)(o f:List MA):S:=.pA
def vb(Z:CC)(cb:List S)(hs:List cI):S:=aY cb hs [] []
def ZX(Z:CC)(cb:List S)(hs:List cI):S:=vb Z cb hs
def cU:vA->Option E
 |.Constant c _ _=>some (XR c)
 |.List [] _=>some (.l [])
 |_=>none
def Aa:List vA->Option (List E)
 |[]=>some []
 |e::es=>(cU e).bind λc=>(Aa es).map (c :: ·)
def bU:vA->Option E
 |.Tuple es _ _=>(Aa es).map .t
 |e=>cU e
def za(Z:CC):MA->Option (Nat×E)
 |.Assign [t] e _=>(aAw t).bind λy=>(Z.fF y).bind λj=>(bU e).map λc=>(j,c)
 |_=>none
def x6:List cI->Option (bA×MA)
 |[.ExceptHandler (some c) none [st] _]=>(aAw c).map λx=>(x,st)
 |_=>none
def iU(Z:CC)(cb:List S)(hs:List cI):S:=match x6 hs with
 |some q=>(match za Z q.2 with
  |some z=>(match Z.bQ q.1 with
   |.IA cs=>.UQ cb cs z.1 z.2
   |_=>.pA)
  |none=>ZX Z cb hs)
 |none=>ZX Z cb hs
def tCa{hs:List cI}{q:bA×MA}(h:x6 hs=some q):∃np hp,hs=[.ExceptHandler (some (.Name q.1 np)) none [q.2] hp]:=by
 unfold x6 at h;split at h
 ·obtain⟨x,h1,rfl⟩:=VF.mp h;obtain⟨p,rfl⟩:=N8 h1;exact⟨_,_,rfl⟩
 ·cases h
def xYa{Z:CC}{st:MA}{z:Nat×E}(h:za Z st=some z):∃y p e pos,st=.Assign [.Name y p] e pos/\Z.fF y=some z.1/\bU e=some z.2:=by
 unfold za at h;split at h
 ·obtain⟨y,h1,h⟩:=zJ.mp h;obtain⟨j,h2,h⟩:=zJ.mp h;obtain⟨c,h3,rfl⟩:=VF.mp h;obtain⟨p,rfl⟩:=N8 h1;exact⟨y,p,_,_,rfl,h2,h3⟩
 ·cases h
def gU(Z:CC)(cb:List S)(hs:List cI)(o f:List MA):S :=
 if o.isEmpty&&f.isEmpty then(match UN hs with
  |some (x,n,body)=>if(Z.names.lookup n==some .local)&&Z.top then(if mEa n body then yp Z cb x n body else if body.isEmpty then .pA else zp Z cb x n body) else .pA
  |none=>if Z.top then iU Z cb hs else .pA) else .pA
noncomputable def hVa(Z:CC)(e:vA)(c:S):S:=c
noncomputable def E9(e:vA)(c:E):S:=.ret c
noncomputable def bXa(Z:CC)(s:MA)(r:List MA):Option (Nat×Nat×E×E):=none
noncomputable def cXa(o:Option (Nat×Nat×E×E))(c:S)(cs:List S):List S :=
 match o with
 |none=>c::cs
 |some (i,j,ce,cc)=>.Rm i j ce cc::cs.drop 3
noncomputable def RT(i:Nat)(k:vA)(ck ce:E):S:=.set i ck ce
noncomputable def dU(Z:CC)(ts:List vA)(e:vA)(ce:E):S:=.pA
def sS(Z:CC)(it:vA):Option (UD×List E):=match aAw it with
 |some x=>if(x==("steps":bA))||(x==("lines":bA)) then(Z.slot x).map λi=>(.key,[.ID i]) else none
 |none=>none
noncomputable def uS(o:Option (UD×List E))(t:Option (Bool×List Nat))(cb:List S)(c:S):S:=match o with
 |some u=>(match t with | some x=>.for x.2 x.1 u.1 u.2 cb | none=>.pA)
 |none=>c
mutual
noncomputable def cS(Z:CC):MA->S
 |.Pass _=>.pass
 |.Break _=>.brk
 |.Continue _=>.cnt
 |.Return (some e) _=>hVa Z e (E9 e (cE Z e))
 |.Return none _=>.tX
 |.Expr e _=>if XD e then .expr (cE Z e) else .pA
 |.If c a b _=>.DA (cE Z c) (iD Z a) (iD Z b)
 |.While c body [] _=>.FL (cE Z c) (iD Z body)
 |.For tg it body [] _=>uS (sS Z it) (tG Z tg) (iD Z body) (match tG Z tg,ZJ Z it with
  |some (one,is),some (k,dA)=>if mK k one then .for is one k (tQ Z it body (pB Z dA)) (iD Z body) else .pA
  |_,_=>.pA)
 |.Assign [.Name x _] e _=>match Z.fF x with
  |some i=>if XD e||WS e then .YA i (cE Z e) else .pA
  |none=>.pA
 |.Assign [.Tuple ts _ _] e _=>match nK Z ts with
  |some is=>if XD e&&qT e then .kM is (cE Z e) else .pA
  |none=>dU Z ts e (cE Z e)
 |.Assign [.Subscript (.Name x _) k _] e _=>match Z.slot x with
  |some i=>if XD e&&fX k then RT i k (cE Z k) (cE Z e) else .pA
  |none=>.pA
 |.AugAssign (.Name x _) .Add e _=>(match Z.fF x with
  |some i=>if XD e then .pA else .pA
  |none=>.pA)
 |.Raise (some e) none _=>OT Z e
 |.Try body hs o f _=>gU Z (iD Z body) hs o f
 |_=>.pA
noncomputable def iD(Z:CC):List MA->List S
 |[]=>[]
 |s::r=>cXa (bXa Z s r) (cS Z s) (iD Z r)
end
abbrev CH(X:Cx)(Z:CC):Prop:=∀x,Z.ZN x=true->X.fn x=true\/X.env.scope.names.lookup x=some .local
section
variable{K:gA}
def UX(h:XD e=true)(t:Option vA)(line:Nat)(env:yK):swapsWith e t line env=pure false:=by
 cases e<;>first | rfl | cases h
def La(h:XD e=true)(t:vA)(line:Nat)(env:yK):swapsWithSole [t] e line env=pure false:=UX h _ _ _
def x9{st:MA}(h:∀U,ex P C W c U=none):PS X st (tS K P C W c):=λaA s Y H D I hz=>by obtain⟨U,G,fl,U',r,e,k⟩:=hz;rw[h] at e;cases e
def xC{st:MA}:PS X st (tS K P C W .pA):=x9 λU=>rfl
def iTa:PS X (.Pass pos) (tS K P C W .pass):=TS.ZE hTa λD Y H hz=>by
 obtain⟨U,G,fl,U',r,e,k⟩:=hz;cases e;exact k Y H G (TB.refl r)
def ySa:PS X (.Break pos) (tS K P C W .brk):=TS.ZE xSa λD Y H hz=>by
 obtain⟨U,G,fl,U',r,e,k⟩:=hz;cases e;exact k Y H G (TB.refl r)
def zSa:PS X (.Continue pos) (tS K P C W .cnt):=TS.ZE bTa λD Y H hz=>by
 obtain⟨U,G,fl,U',r,e,k⟩:=hz;cases e;exact k Y H G (TB.refl r)
def cTa(h:JA X K P C e c)(n:XD e=true):PS X (.Expr e pos) (tS K P C W (.expr c)):=by
 refine TS.ZE (Wl h.v (UX n _ _ _)) λD Y H hz=>?_
 obtain⟨U,G,fl,U',r,e,k⟩:=hz;obtain⟨v,U1,e1,e2⟩:=kI e k.ne;cases e2;exact⟨U,G,v,_,r,e1,λx H' G' a hv=>k Y H' G' (AA.s r a)⟩
def lTa:PS X (.Return none pos) (tS K P C W .tX):=TS.ZE kTa λD Y H hz=>by
 obtain⟨U,G,fl,U',r,e,k⟩:=hz;cases e;exact k .lA Y H G (TB.refl r) (by show jA K G .lA _;simp[jA])
def BA.give(r:BA K U Y H G)(h:U[i]?=some (.ow d false l))(hx:Y[i]?=some (some (.ref a))) :
  TB K U Y H G (U.set i .mv) Y H G/\NC K H G (yA (U.set i .mv) Y) (λa=>yA U Y a\/H a=none) (.ow d) (.ref a):=by
 have key:∀(j:Nat) (sl:Sl),(U.set i .mv)[j]?=some sl->(j=i/\sl=.mv)\/(j≠i/\U[j]?=some sl):=λj sl z=>by
  rcases TH z with ⟨e,z,_⟩ | z
  ·exact .inl ⟨e,z⟩
  ·exact .inr z
 obtain⟨b,h1,g,o⟩:=r.ow i d false l h;rw[hx] at h1;cases h1
 have dF:∀c,yA (U.set i .mv) Y c->yA U Y c/\c≠a:=λc hz=>by
  obtain⟨j,d',p',l',z,w⟩:=hz;rcases key j _ z with ⟨_,q⟩ | ⟨nj,q⟩
  ·cases q
  ·refine⟨⟨j,d',p',l',q,w⟩,λz=>?_⟩;subst z;exact nj (r.inj _ _ _ _ _ _ _ _ _ q h w hx)
 refine⟨⟨⟨by rw[SG];exact r.len,r.sub,λj d' z=>?_,λj d' p' l' z=>?_,λj k d1 p1 l1 d2 p2 l2 c z1 z2 z3 z4=>?_⟩,Ext.refl,λc z=>.inl (dF c z).1,λj z=>?_,λj d' l' z=>⟨rfl,d', ?_⟩,by rw[SG]⟩,a,rfl,g,o,λz=>(dF a z).2 rfl,.inl ⟨i,d,false,l,h,hx⟩⟩
 ·rcases key j _ z with ⟨_,q⟩ | ⟨nj,q⟩
  ·cases q
  ·exact r.sh j d' q
 ·rcases key j _ z with ⟨_,q⟩ | ⟨nj,q⟩
  ·cases q
  ·exact r.ow j d' p' l' q
 ·rcases key j _ z1 with ⟨_,q⟩ | ⟨nj,q⟩
  ·cases q
  ·rcases key k _ z2 with ⟨_,q'⟩ | ⟨nk,q'⟩
   ·cases q'
   ·exact r.inj _ _ _ _ _ _ _ _ _ q q' z3 z4
 ·rcases key j _ z with ⟨_,q⟩ | ⟨nj,q⟩
  ·cases q
  ·exact⟨q,rfl⟩
 ·have nj:j≠i:=λw=>by subst w;rw[h] at z;cases z
  rw[iF (λw=>nj w.symm)];exact z
def mTa(h:JA X K P C e c):PS X (.Return (some e) pos) (tS K P C W (.ret c)):=by
 by_cases hv:∃i,c=.v i
 ·obtain⟨i,rfl⟩:=hv;refine TS.ZE (y9 h.h) λD Y H hz=>?_
  obtain⟨U,G,fl,U',r,e,k⟩:=hz;replace e:(match U[i]? with | some (.ow d false _)=>some (.rt (.ow d),U.set i .mv) | some (.sh d)=>some (.rt (.sh d),U) | _=>none)=some (fl,U'):=e;split at e
  ·rename_i d l hd;cases e;obtain⟨a,h1,g,o⟩:=r.ow i d false l hd;refine⟨U,G,.slot i,U,r,by simp[hd,hd,Sl.get,CI.hd],λx H' G' a1 hx=>?_⟩;obtain⟨a',NH,g',o'⟩:=a1.oA.ow i d false l hd;have hx:Y[i]?=some (some x):=hx;rw[hx] at NH;cases NH;obtain⟨s1,v1⟩:=a1.oA.give hd hx;exact(k.pre (AA.s r a1)) _ Y H' G' s1 v1
  ·rename_i d hd;cases e;obtain⟨v,h1,h2⟩:=r.sh i d hd;refine⟨U,G,.slot i,U,r,by simp[hd,Sl.get,CI.hd],λx H' G' a1 hx=>?_⟩;obtain⟨v',NH,L5⟩:=a1.oA.sh i d hd;have hx:Y[i]?=some (some x):=hx;rw[hx] at NH;cases NH;exact k x Y H' G' (AA.s r a1) L5
  ·cases e
 ·refine TS.ZE (y9 h.v) λD Y H hz=>?_
  obtain⟨U,G,fl,U',r,e,k⟩:=hz
  have e':(ev P C false c U).VB (λv U1=>some (.rt v,U1))=some (fl,U'):=by
   cases c<;>first | exact absurd ⟨_,rfl⟩ hv | exact e
  obtain⟨v,U1,e1,e2⟩:=kI e' k.ne;cases e2;exact⟨U,G,v,_,r,e1,λx H' G' a hv=>k x Y H' G' (AA.s r a) (hv.SH λa z=>.inr z)⟩
def fTa(hc:JA X K P C c cc)(ha:FC X a (PF K P C W ca))(hb:FC X b (PF K P C W cb)):PS X (.If c a b pos) (tS K P C W (.DA cc ca cb)):=by
 refine TS.ZE (Xl hc.t ha hb) λD Y H hz=>?_
 obtain⟨U,G,fl,U',r,e,k⟩:=hz;obtain⟨v,U1,e1,e2⟩:=kI e k.ne;split at e2
 ·refine⟨U,G,true,U1,r,e1,λH1 G1 a1=>?_⟩;refine sL ?_;exact⟨U1,G1,fl,U',a1.oA,e2,k.pre (AA.s r a1)⟩
 ·refine⟨U,G,false,U1,r,e1,λH1 G1 a1=>?_⟩;refine AM ?_;exact⟨U1,G1,fl,U',a1.oA,e2,k.pre (AA.s r a1)⟩
 ·cases e2
def R9{qq:Bool}(xo:gC qq X K P C Z)(UB:CH X Z){x:bA}{i:Nat}(h:Z.fF x=some i){pos:MB}:PG X (.Name x pos) (ON i):=by
 unfold CC.fF at h;split at h
 ·rename_i hl
  have hN:X.N[i]?=some x:=by
   unfold CC.slot at h;split at h
   ·cases h
   ·split at h
    ·rw[xo.vI];exact xW h
    ·cases h
  refine Il (by rw[xo.vI];exact xo.nd) hN ?_ (UB x hl);unfold L2.Loc;rw[xo.nm];unfold CC.ZN at hl;rw[KL,WA] at hl;rcases hl with hl | hl
  ·exact .inl (EC hl)
  ·exact .inr (EC hl.2)
 ·cases h
def Vl{qq:Bool}(xo:gC qq X K P C Z)(UB:CH X Z){x:bA}{i:Nat}{e:vA}{c:E}{p pos:MB}(hi:Z.fF x=some i)(h:JA X K P C e c)(n:XD e=true):PS X (.Assign [.Name x p] e pos) (tS K P C W (.YA i c)):=by
 refine TS.ZE (qX h.v (R9 xo UB hi) (La n _ _ _)) λD Y H hz=>?_
 obtain⟨U,G,fl,U',r,e,k⟩:=hz;obtain⟨v,U1,e1,e2⟩:=kI e k.ne;unfold JF at e2
 cases q:store i v U1 with
 |none=>rw[q] at e2;cases e2
 |some U2 =>
  rw[q] at e2;cases e2;exact⟨U,G,v,U1,r,e1,λx H' G' a hv=>k _ H' G' (AA.store r a q hv)⟩
theorem Ya(xo:NA X K P C Z)(UB:CH X Z):∀{ts:List vA} {is:List Nat},nK Z ts=some is->LK X ts (vS K is)/\(qH ts X.env).length=is.length/\(qH ts X.env).findIdx? (·.1)=none/\ts.length=is.length
 |[],is,h=>by cases h;exact⟨vRa,rfl,rfl,rfl⟩
 |e::es,is,h=>by
  simp only[nK] at h
  cases q:Xa Z e with
  |none=>rw[q] at h;cases h
  |some i =>
   rw[q] at h;simp only[uH] at h
   cases q2:nK Z es with
   |none=>rw[q2] at h;cases h
   |some Xh =>
    rw[q2] at h;cases h;obtain⟨h1,h2,h3,h4⟩:=Ya xo UB q2;cases e<;>simp only[Xa,reduceCtorEq] at q;refine⟨tRa (R9 xo UB q) h1 rfl, ?_, ?_,by simp[h4]⟩
    ·show(qH es X.env).length+1=Xh.length+1;rw[h2]
    ·show((false,_)::qH es X.env).findIdx? (·.1)=none;rw[List.findIdx?_cons,h3];rfl
def eZa(h:qT e=true)(env:yK):swappedStores [.Tuple ts k0 p] e env=pure none:=by
 cases e<;>first | rfl | cases h
def vSa(xo:NA X K P C Z)(UB:CH X Z){ts:List vA}{is:List Nat}{e:vA}{c:E}{k0:Nat}{p pos:MB}(hi:nK Z ts=some is)(h:JA X K P C e c)(n:XD e=true)(n2:qT e=true):PS X (.Assign [.Tuple ts k0 p] e pos) (tS K P C W (.kM is c)):=by
 obtain⟨h1,h2,h3,h4⟩:=Ya xo UB hi;refine TS.ZE (qX h.v (Hl xo h1 h2 h3) (La n _ _ _) (eZa n2 _)) λD Y H hz=>?_
 obtain⟨U,G,fl,U',r,e,k⟩:=hz;obtain⟨v,U1,e1,e2⟩:=kI e k.ne;unfold JF at e2
 cases q:oB false is v.d U1 with
 |none=>rw[q] at e2;cases e2
 |some U2 =>
  rw[q] at e2;cases e2;refine⟨U,G,v,U1,r,e1,λx H' G' a hv=>?_⟩;obtain⟨G2,a2,r2⟩:=a.share hv;exact⟨U1,G2,v.d,_,a2.oA,r2,q,λY' b=>k Y' H' G2 ((AA.s r a2).trans b)⟩
def uEa(h:VS U i=true):∃ks ds p l,U[i]?=some (.ow (.ZA ks ds) p l):=by
 unfold VS at h;split at h
 ·rename_i d e p l q;exact⟨d,e,p,l,q⟩
 ·cases h
def xUa(K:gA):VU:=λo i v H Q=>∃a xs k b,o=.ref a/\i=.ref b/\DS K H a xs/\rC K H k b/\xs.length<sizeLine/\∀u,aAe v u->((storedH xs k b u).map (·.1)).Nodup->∀ep,Q (CA H a (.ext (bC a (storedH xs k b u) ep)))
def yUa:VU:=λ_ _ _ _ _=>False
def hXa(hu:X.A.units+11<cLine):TZ X (λo i v H Q=>xm o i v H Q\/yUa o i v H Q\/xUa X.K o i v H Q):=by
 intro aA s Y H o i v ov iv u Q I ro ri rv h;rcases h with h | h | ⟨a,xs,k,b,rfl,rfl,d,kk,hl,q⟩
 ·exact aAV aA s Y H o i v ov iv u Q I ro ri rv h
 ·exact h.elim
 ·cases ro;cases ri;exact wWa hu I d kk hl λep s' I' nd=>⟨_,I',q _ rv nd ep⟩
def pTa(xo:NA X K P C Z)(hi:Z.slot x=some i)(h:JA X K P C e c)(hj:JA X K P C j cj)(n:XD e=true)
  (ha:∀v,assign (.Subscript (.Name x p) j p2) X.env v=(do
   let ov <- holding [v] (eval (.Name x p) X.env)
   let iv <- holding [v,ov] (eval j X.env)
   standAt p2
   holding [v,ov,iv] (setItem ov iv v)
   release [v,ov,iv] [])):PS X (.Assign [.Subscript (.Name x p) j p2] e pos) (tS K P C W (.set i cj c)):=by
 have hp:PE X (.Name x p) (PM i):=CC.OQ xo hi;refine TS.ZE (qX h.v (qRa hp hj.v (xo.ZC ▸ hXa (by have:=xo.hu;lia)) ha) (La n _ _ _)) λD Y H hz=>?_
 obtain⟨U,G,fl,U',r,e,k⟩:=hz;obtain⟨v,U1,e1,e2⟩:=kI e k.ne;split at e2
 ·rename_i ho;obtain⟨w,U2,e3,e4⟩:=kI e2 k.ne;split at e4
  ·rename_i ds p1 nn hs hw;unfold JF at e4
   cases q:kG ds.length nn with
   |none=>rw[q] at e4;cases e4
   |some m =>
    rw[q] at e4;cases e4;refine⟨U,G,v,U1,r,e1,λy H1 G1 a1 hv=>?_⟩;obtain⟨d0,p0,l0,h0⟩:=z7 ho;obtain⟨b,hb,g0,o0⟩:=a1.oA.ow i _ p0 l0 h0;refine⟨.ref b,hb,U1,G1,w,U2,a1.oA,e3,λz H2 G2 a2 hz=>?_⟩;have N6:=hv.wait a2.ext λa z=>.inl (a2.own a z)
    obtain⟨G3,a3,r3⟩:=(a1.trans a2).share N6;obtain⟨b',jD,g1,vs,P6,hr⟩:=a3.oA.ow i _ _ _ hs;rw[hb] at jD;cases jD;have Kh:=hz.MM;rw[hw] at Kh;cases Kh.int;have a4:=a3.oA.write hs hb (hr.set r3 m);exact .inl ⟨b,vs,nn,m,rfl,rfl,P6,by rw[hr.len];exact q,k Y _ _ (AA.s r (a3.trans a4))⟩
  ·cases e4
 ·split at e2
  ·rename_i ho;obtain⟨w,U2,e3,e4⟩:=kI e2 k.ne;unfold zX at e4;split at e4
   ·rename_i ks ds p1 k0 hs hk;split at e4
    ·rename_i hz;cases e4;refine⟨U,G,_,U1,r,e1,λy H1 G1 a1 hv=>?_⟩;obtain⟨d0,c0,p0,l0,h0⟩:=uEa ho;obtain⟨b,hb,g0,o0⟩:=a1.oA.ow i _ p0 l0 h0;refine⟨.ref b,hb,U1,G1,w,U2,a1.oA,e3,λz H2 G2 a2 S6=>?_⟩;have N6:=hv.wait a2.ext λa z=>.inl (a2.own a z)
     obtain⟨G3,a3,r3,s3⟩:=(a1.trans a2).O9 N6;obtain⟨b0,rfl,kk⟩:=gT hk S6.MM;replace kk:=rC.mono (Sm.of s3) kk;obtain⟨b',jD,g1,xs,vs,hx,⟨nd,hl,sm,kh,pr⟩,hr⟩:=a3.oA.ow i _ _ _ hs;rw[hb] at jD;cases jD
     have IG:xs.length<sizeLine:=by
      have h1:=NM hz;have h2:=(EA _).symm.trans (congrArg uJ pr.1)
      lia
     refine .inr (.inr ⟨b,xs,k0,b0,rfl,rfl,⟨hx,nd,hl,sm,λx hx=>rC.mono a3.oA.sub (kh x hx)⟩,rC.mono a3.oA.sub kk,IG,λu ru nd2 ep=>?_⟩);obtain⟨g2,ws,g3,g4⟩:=iUa (k:=k0) (b:=b0) ⟨pr.1,vs,pr.2,hr⟩ ru r3;have a4:=a3.oA.Up (ob:=.ext (bC b (storedH xs k0 b0 u) ep)) (d':=.ZA (qO ks k0) (rO ks ds k0 v.d)) hs hb ⟨_,ws,⟨_,VC⟩,⟨nd2,XC vYa IG,sm,uYa kh kk,g2,g3⟩,g4⟩;exact k Y _ _ (AA.s r (a3.trans a4))
    ·cases e4
   ·cases e4
  ·cases e2
def v1a(po:xK (model X.prog X.w) X.A X.env X.xe)(hc:JA X K P C c cc)(hb:FC X body (PF K P C W cb)):PS X (.While c body [] pos) (tS K P C W (.FL cc cb)):=by
 refine TS.ZE (Zl po hc.t hb) λD Y H hz=>?_
 obtain⟨U,G,fl,U',r,e,k⟩:=hz;refine⟨λm Y1 H1=>∃U1 G1,TB K U Y H G U1 Y1 H1 G1/\rF (ev P C true cc) (IA P C W cb) m U1=some (fl,U'),⟨W,U,G,TB.refl r,e⟩,λm Y1 H1 hz=>?_⟩;obtain⟨U1,G1,a1,e1⟩:=hz
 cases m with
 |zero=>simp[rF] at e1
 |succ m =>
  simp only[rF] at e1;obtain⟨v,U2,e2,e3⟩:=kI e1 k.ne;split at e3
  ·refine⟨U1,G1,true,U2,a1.oA,e2,λH2 G2 a2=>?_⟩;refine sL ?_;have fM:=a1.trans (AA.s a1.oA a2);refine⟨λY3 H3=>∃U3 G3,TB K U Y H G U3 Y3 H3 G3/\rF (ev P C true cc) (IA P C W cb) m U3=some (fl,U'),λY3 H3 ⟨U3,G3,a3,e4⟩=>⟨m,FI m,U3,G3,a3,e4⟩, ?_⟩
   cases q:IA P C W cb U2 with
   |none=>rw[q] at e3;cases e3
   |some y =>
    obtain⟨bL,U3⟩:=y;rw[q] at e3;refine⟨U2,G2,bL,U3,a2.oA,q, ?_⟩
    induction bL using Fl.casesOn with
    |nx=>exact λY3 H3 G3 a3=>⟨U3,G3,fM.trans a3,e3⟩
    |ct=>exact λY3 H3 G3 a3=>⟨U3,G3,fM.trans a3,e3⟩
    |bk=>cases e3;exact λY3 H3 G3 a3=>k Y3 H3 G3 (fM.trans a3)
    |rt v=>cases e3;exact k.pre fM
    |ex x=>cases e3;exact k
  ·refine⟨U1,G1,false,U2,a1.oA,e2,λH2 G2 a2=>?_⟩;refine AM ?_;cases e3;exact k Y1 H2 G2 (a1.trans (AA.s a1.oA a2))
  ·cases e3
end
section
variable{X:Cx}{K:gA}{P:RA}{C:Calls}{W:Nat}{Z:CC}
def WX(r:BA K U Y H G):BA K (aAg o U) Y H G/\∀a,yA (aAg o U) Y a->yA U Y a:=by
 induction o using VG with
 |none=>exact⟨r,λ_ z=>z⟩
 |some i=>exact⟨r.unset i,λ_ z=>z.unset⟩
def FT(r:BA K U1 Y H1 G1)(ho:∀i,o=some i->∃d p l,U1[i]?=some (.ow d p l))(e:aAr o U1 Uf=some U')(a:TB K (aAg o U1) Y H1 G1 Uf Yf Hf Gf) :
  TB K U1 Y H1 G1 U' Yf Hf Gf/\∀c,yA U' Yf c->yA Uf Yf c\/(yA U1 Y c/\¬yA (aAg o U1) Y c):=by
 induction o using VG with
 |none =>
  simp only[aAr,aC] at e;subst e;exact⟨a,λ_ z=>.inl z⟩
 |some i =>
  obtain⟨d,p,l,hi⟩:=ho i rfl;obtain⟨b,hb,g,ob⟩:=r.ow i d p l hi;have y6:yA U1 Y b:=⟨i,d,p,l,hi,hb⟩
  have dX:¬yA (U1.set i .un) Y b:=r.VQ hi hb;have xE:H1 b≠none:=(r.owned y6).1;simp only[aAr] at e;split at e
  ·rename_i sl hf hs;rw[hi] at hs;cases hs;cases e;obtain⟨hu1,Eh⟩:=a.un i hf;have hx:Yf[i]?=some (some (.ref b)):=Eh.trans hb;have gb:Gf b=none:=a.ext.gn b xE g dX;have of:zG K Hf Gf b d:=ob.mono a.ext.gg λo' h'=>a.ext.hh b o' h' dX
   have nf:¬yA Uf Yf b:=λz=>by
    rcases a.own b z with z | z
    ·exact dX z
    ·exact xE z
   have rf:BA K (Uf.set i (.ow d p l)) Yf Hf Gf:=(a.oA.unset i).sO hx gb of λz=>nf z.unset
   have dF:∀c,yA (Uf.set i (.ow d p l)) Yf c->c=b\/yA Uf Yf c:=λc z=>by
    rcases z.sO hx with z | z
    ·exact .inl z
    ·exact .inr z.unset
   refine⟨⟨rf,a.ext.weaken λc z=>z.unset,λc z=>?_,λj z=>?_,λj d' l' z=>?_,by rw[SG,a.len];exact SG⟩,λc z=>?_⟩
   ·rcases dF c z with rfl | z
    ·exact .inl y6
    ·rcases a.own c z with z | z
     ·exact .inl z.unset
     ·exact .inr z
   ·rcases TH z with ⟨_,w,_⟩ | ⟨nj,w⟩
    ·cases w
    ·obtain⟨w1,w2⟩:=a.un j w;have Kp:(U1.set i .un)[j]?=some .un:=w1;rw[iF (λq=>nj q.symm)] at Kp;exact⟨Kp,w2⟩
   ·by_cases hj:j=i
    ·subst hj;rw[hi] at z;cases z;refine⟨Eh,d, ?_⟩;rw[DK (RD.mp hf).1]
    ·have z':(aAg (some i) U1)[j]?=some (.ow d' true l'):=by
      show(U1.set i .un)[j]?=_;rw[iF (λq=>hj q.symm)];exact z
     obtain⟨w1,d2,w2⟩:=a.pin j d' l' z';exact⟨w1,d2,by rw[iF (λq=>hj q.symm)];exact w2⟩
   ·rcases dF c z with rfl | z
    ·exact .inr ⟨y6,dX⟩
    ·exact .inl z
  ·cases e
def YG.restore{D:Ends}(r:BA K U1 Y H1 G1)(ho:∀i,o=some i->∃d p l,U1[i]?=some (.ow d p l))(e:aAr o U1 Uf=some U')(k:YG K U1 Y H1 G1 U' D fl) :
  YG K (aAg o U1) Y H1 G1 Uf D fl:=by
 induction fl using Fl.casesOn with
 |nx=>exact λY' H' G' b=>k Y' H' G' (FT r ho e b).1
 |bk=>exact λY' H' G' b=>k Y' H' G' (FT r ho e b).1
 |ct=>exact λY' H' G' b=>k Y' H' G' (FT r ho e b).1
 |rt v =>
  refine λx Y' H' G' b hv=>?_
  obtain⟨b1,b2⟩:=FT r ho e b;refine k x Y' H' G' b1 ?_
  induction v using RV.casesOn with
  |sh d=>exact hv
  |ow d =>
   obtain⟨c,rfl,g,oo,n,m⟩:=hv;refine⟨c,rfl,g,oo,λz=>?_, ?_⟩
   ·rcases b2 c z with z | ⟨z1,z2⟩
    ·exact n z
    ·rcases m with m | m
     ·exact z2 m
     ·exact(r.owned z1).1 m
   ·rcases m with m | m
    ·exact .inl ((WX r).2 c m)
    ·exact .inr m
  |od d =>
   obtain⟨c,rfl,g,oo,n,m,vs,P6,hr⟩:=hv
   have key:∀c,¬yA Uf Y' c->(yA (aAg o U1) Y c\/H1 c=none)->¬yA U' Y' c/\(yA U1 Y c\/H1 c=none):=λc n m=>by
    refine⟨λz=>?_, ?_⟩
    ·rcases b2 c z with z | ⟨z1,z2⟩
     ·exact n z
     ·rcases m with m | m
      ·exact z2 m
      ·exact(r.owned z1).1 m
    ·rcases m with m | m
     ·exact .inl ((WX r).2 c m)
     ·exact .inr m
   exact⟨c,rfl,g,oo,(key c n m).1,(key c n m).2,vs,P6,λx hx=>let ⟨b,ws,h1,h2,h3,h4,h5,h6⟩:=hr x hx;⟨b,ws,h1,h2,h3,(key b h4 h5).1,(key b h4 h5).2,h6⟩⟩
 |ex x=>exact k
def KR(K:gA)(P:RA)(C:Calls)(W:Nat)(one:Bool)(tg:List Nat)(cb:List S)(U0:Env)(Y0:St)(H0 G0:Hp)(fl:Fl)(Uf:Env)(ds:List D)(i:Nat):St->Hp->Prop:=λY H =>
 ∃U G,TB K U0 Y0 H0 G0 U Y H G/\RC (oB one tg) (IA P C W cb) (ds.drop i) U=some (fl,Uf)
def xJa(hk:YG K U0 Y0 H0 G0 Uf D0 fl)(hd:ds[i]?=some d)
  (h:∃U G,TB K U0 Y0 H0 G0 U Y H G/\jA K G d x/\RC (oB one tg) (IA P C W cb) (ds.drop i) U=some (fl,Uf)) :
  gB K one tg x Y H λY2 H2=>PF K P C W cb { D0 with nx:=KR K P C W one tg cb U0 Y0 H0 G0 fl Uf ds (i+1),ct:=KR K P C W one tg cb U0 Y0 H0 G0 fl Uf ds (i+1),bk:=D0.nx } Y2 H2:=by
 obtain⟨U,G,a,hx,e⟩:=h;have hl:i<ds.length:=(RD.mp hd).1
 have ed:ds.drop i=d::ds.drop (i+1):=by(rw[lP hl];congr 1;rw[gD hl] at hd;exact ZD hd)
 rw[ed] at e;simp only[RC] at e
 cases q:oB one tg d U with
 |none=>rw[q] at e;cases e
 |some U1 =>
  rw[q] at e;simp only at e;refine⟨U,G,d,U1,a.oA,hx,q,λY1 a1=>?_⟩;have yN:=a.trans a1
  cases q2:IA P C W cb U1 with
  |none=>rw[q2] at e;cases e
  |some y =>
   obtain⟨bL,U2⟩:=y;rw[q2] at e;refine⟨U1,G,bL,U2,a1.oA,q2, ?_⟩
   induction bL using Fl.casesOn with
   |nx=>exact λY2 H2 G2 a2=>⟨U2,G2,yN.trans a2,e⟩
   |ct=>exact λY2 H2 G2 a2=>⟨U2,G2,yN.trans a2,e⟩
   |bk=>cases e;exact λY2 H2 G2 a2=>hk Y2 H2 G2 (yN.trans a2)
   |rt v=>cases e;exact hk.pre yN
   |ex x=>cases e;exact hk
def FP{lo:Int}:(eH lo ds).length=ds.length:=by unfold eH;simp
def V2{lo:Int}{i:Nat}(h:ds[i]?=some d):(eH lo ds)[i]?=some (.t [.int (lo+(i:Int)),d]):=by
 have hl:i<ds.length:=(RD.mp h).1;unfold eH;rw[jE,ZM hl,EE,kP,h];rfl
def Wy(hg:G p=none)(h:jA K G d y):jA K (CA G p (.t [.int i,y])) (.t [.int i,d]) (.ref p):=by
 simp only[jA];exact⟨p,_,rfl,sC.of VC,iA.cons (by simp[jA]) (iA.cons (jA.mono (Sm.laid hg) d h) iA.nil)⟩
def wJa(hk:YG K U0 Y0 H0 G0 Uf D0 fl)(h:KR K P C W one tg cb U0 Y0 H0 G0 fl Uf ds ds.length Y H):D0.nx Y H:=by
 obtain⟨U,G,a,e⟩:=h;rw[Cs] at e;simp only[RC,aC,aE] at e;obtain⟨rfl,rfl⟩:=e;exact hk Y H G a
def Src(K:gA)(U:Env)(Y:St)(H G:Hp)(a:fA)(vs:List V):Prop:=EB K G a vs\/(H a=some (.l vs)/\G a=none/\¬yA U Y a)
def Od(K:gA)(U0:Env)(Y0:St)(H1 G2:Hp)(ds:List D)(J:It):Prop:=∀i H' Uc Y' Gc,TB K U0 Y0 H1 G2 Uc Y' H' Gc->(i=ds.length->J.stop i H')/\(i<ds.length->J.go i H')/\∀d x H2,ds[i]?=some d->J.rY i H' x H2->∃Gd,AA K Uc Y' H' Gc Uc H2 Gd/\jA K Gd d x
def eM(K:gA)(U:Env)(Y:St)(H1 G1:Hp)(ds:List D)(J:It):Prop:=∀{U0:Env} {Y0:St} {G2:Hp},bB G1 G2->(∀c,yA U0 Y0 c->yA U Y c)->Od K U0 Y0 H1 G2 ds J
section
variable{U U0 Uc:Env}{Y Y0 Y':St}{H1 G1 G2 H' Gc:Hp}{ds:List D}{a:fA}{vs:List V}
def Src.at(h:Src K U Y H1 G1 a vs)(IF:bB G1 G2)(own:∀c,yA U0 Y0 c->yA U Y c)(af:TB K U0 Y0 H1 G2 Uc Y' H' Gc):EB K H' a vs:=by
 rcases h with h | ⟨h1,h2,h3⟩
 ·exact af.oA.sub.seq (af.ext.gg.seq (IF.seq h))
 ·exact EB.of (af.ext.hh a _ h1 λz=>h3 (own a z))
def jU(L6:Src K U Y H1 G1 a vs)(hr:iA K G1 ds vs):eM K U Y H1 G1 ds (KZ K a):=by
 intro U0 Y0 G2 IF own i H' Uc Y' Gc af;have jH:=L6.at IF own af;refine⟨λhi=>⟨vs,jH,by rw[hr.len];lia⟩,λhi=>?_,λd x H2 hd hy=>?_⟩
 ·obtain⟨x',h1,h2⟩:=hr.get (gD hi);exact⟨vs,x',jH,h1⟩
 ·obtain⟨rfl,hy⟩:=hy;obtain⟨x',h1,h2⟩:=hr.get hd
  have:=hy vs jH
  rw[h1] at this;cases this;exact⟨_,AA.refl af.oA,jA.mono af.ext.gg d (jA.mono IF d h2)⟩
def Mp(ht:sC K G1 a vs)(hr:iA K G1 ds vs):eM K U Y H1 G1 ds (LZ K a):=by
 intro U0 Y0 G2 IF own i H' Uc Y' Gc af;have jH:sC K H' a vs:=yI af.oA.sub (yI af.ext.gg (yI IF ht));refine⟨λhi=>⟨vs,jH,by rw[hr.len];lia⟩,λhi=>?_,λd x H2 hd hy=>?_⟩
 ·obtain⟨x',h1,h2⟩:=hr.get (gD hi);exact⟨vs,x',jH,h1⟩
 ·obtain⟨rfl,hy⟩:=hy;obtain⟨x',h1,h2⟩:=hr.get hd
  have:=hy vs jH
  rw[h1] at this;cases this;exact⟨_,AA.refl af.oA,jA.mono af.ext.gg d (jA.mono IF d h2)⟩
def Lp{lo:Int}{n:Nat}:eM K U Y H1 G1 ((vC n).map λ(j:Nat)=>D.int (lo+(j:Int))) (JR lo n):=by
 intro U0 Y0 G2 IF own i H' Uc Y' Gc af;rw[EA,vU];refine⟨λhi=>by show n<=i;lia,λhi=>hi,λd x H2 hd hy=>?_⟩;obtain⟨rfl,rfl⟩:=hy;rw[jE] at hd;obtain⟨j,hj,rfl⟩:=VF.mp hd;obtain⟨hl,rfl⟩:=RD.mp hj;exact⟨_,AA.refl af.oA,by simp[jA]⟩
def dY{lo:Int}(L6:Src K U Y H1 G1 a vs)(hr:iA K G1 ds vs):eM K U Y H1 G1 (eH lo ds) (JZ K a lo):=by
 intro U0 Y0 G2 IF own i H' Uc Y' Gc af;have jH:=L6.at IF own af;rw[FP];refine⟨λhi=>⟨vs,jH,by rw[hr.len];lia⟩,λhi=>?_,λd x H2 hd hy=>?_⟩
 ·obtain⟨x',h1,h2⟩:=hr.get (gD hi);exact⟨vs,x',jH,h1⟩
 ·obtain⟨p0,y0,hn,rfl,rfl,hy⟩:=hy;have hl:i<ds.length:=by rw[<- FP (lo:=lo)];exact(RD.mp hd).1
  obtain⟨x',h1,h2⟩:=hr.get (gD hl);have hy:=hy vs jH;rw[h1] at hy;cases hy;rw[V2 (gD hl)] at hd;cases hd;exact⟨_,(AA.refl af.oA).DM hn,Wy (bB.free af.oA.sub hn) (jA.mono af.ext.gg _ (jA.mono IF _ h2))⟩
def q1a{xs:cH}{ep:Nat}(ED:ds=(xs.map (·.1)).map RI)(h1:G1 a=some (.ext (bC a xs ep)))(h2:∀x∈xs,rC K G1 x.1 x.2.1):eM K U Y H1 G1 ds (IZ a xs ep):=by
 intro U0 Y0 G2 IF own i H' Uc Y' Gc af;have hG:Gc a=some (.ext (bC a xs ep)):=af.ext.gg.app (λ_ z=>nomatch z) (IF _ _ h1);have jH:=af.oA.sub _ _ hG;have hl:ds.length=xs.length:=by rw[ED,EA,EA]
 refine⟨λhi=>⟨jH,by lia⟩,λhi=>⟨jH,by lia⟩,λd v H2 hd hy=>?_⟩;obtain⟨rfl,x,hx,rfl⟩:=hy;rw[ED,jE,jE,hx] at hd;cases hd;exact⟨_,AA.refl af.oA,Hm (rC.mono af.ext.gg (rC.mono (Sm.of IF) (h2 x (YH hx))))⟩
end
def JI(K:gA)(P:RA)(C:Calls)(k0:UD)(dA:List E)(Y:St)(H:Hp)(R:It->Hp->Prop):Prop:=∃(U:Env) (G:Hp) (hs:List Hd) (U1:Env) (ds:List D) (o:Option Nat),BA K U Y H G/\bD P C dA U=some (.ok hs,U1)/\aAb k0 hs U1=some (ds,o) /\
 ∀H1 G1,AA K U Y H G U1 H1 G1->(∀i,o=some i->∃d p l,U1[i]?=some (.ow d p l))->∀J,eM K (aAg o U1) Y H1 G1 ds J->R J H1
def nP(K:gA)(P:RA)(C:Calls)(k0:UD)(dA:List E)(Y:St)(H:Hp)(R:It->Hp->Prop):Prop:=JI K P C k0 dA Y H R\/∃(U:Env) (G:Hp) (d0:List D) (U1:Env),k0=.of/\BA K U Y H G/\bD P C dA U=some (.ok [.val (.sh (.GC d0))],U1) /\
 ∀ds,Fm ds d0->∀H1 G1,AA K U Y H G U1 H1 G1->∀J,eM K U1 Y H1 G1 ds J->R J H1
def nb{k0:UD}{dA:List E}{wi:TI}(n:k0≠.of)(h:∀Y H (R:It->Hp->Prop),JI K P C k0 dA Y H R->wi Y H R)(Y:St)(H:Hp)(R:It->Hp->Prop)(q:nP K P C k0 dA Y H R):wi Y H R:=q.elim (h Y H R) λ⟨_,_,_,_,e,_⟩=>absurd e n
def qw{k:UD}{hs:List Hd}{f:List D->xA RV}{r:Out RV×Env}(h:SR k hs f=some r):∃ds,k=.of/\hs=[.val (.sh (.GC ds))]/\∀es:List D,Fm es ds->f es=some r:=by
 unfold SR at h;split at h
 ·rename_i ds;split at h
  ·rename_i z;cases h;exact⟨ds,rfl,rfl,z.choose_spec⟩
  ·cases h
 ·cases h
theorem Lm{K:gA}{G:Hp}{w:V}:∀{ds:List D} {vs:List V},iA K G ds vs->w∈vs->∃d∈ds,jA K G d w
 |[],vs,h,z=>by
  simp only[iA] at h;subst h;cases z
 |d::ds,vs,h,z=>by
  simp only[iA] at h;obtain⟨v,r,rfl,h1,h2⟩:=h;rcases wD.mp z with rfl | z
  ·exact⟨d,.head _,h1⟩
  ·obtain⟨e,he,h⟩:=Lm h2 z;exact⟨e,.tail _ he,h⟩
theorem Km{K:gA}{G:Hp}{vs:List V}{ds:List D}(h:iA K G ds vs):∀{ws:List V},(∀w∈ws,w∈vs)->∃es:List D,(∀e∈es,e∈ds)/\iA K G es ws
 |[],_=>⟨[],(λ_ z=>nomatch z),iA.nil⟩
 |w::ws,m=>by
  obtain⟨es,h1,h2⟩:=Km h (ws:=ws) λx hx=>m x (.tail _ hx)
  obtain⟨d,hd,hr⟩:=Lm h (m w (.head _));refine⟨d::es,λe he=>?_,iA.cons hr h2⟩;rcases wD.mp he with rfl | he
  ·exact hd
  ·exact h1 e he
def vg(po:xK (model X.prog X.w) X.A X.env X.xe)(xo:NA X K P C Z){tg it:vA}{body:List MA}{pos:MB}{one:Bool}{is:List Nat}{k0:UD}{dA:List E}{cb:List S}{wi:TI}(hg:PG X tg (gB K one is))(hb:FC X body (PF K P C W cb))
  (hs:∀x,AJ it X.env x=pure x) (hi:PI X tg it wi)
  (hw:∀Y H (R:It->Hp->Prop),JI K P C k0 dA Y H R->wi Y H R) :
  PS X (.For tg it body [] pos) (tS K P C W (.for is one k0 dA cb)):=by
 refine TS.ZE (eTa po xo.calm hi hg hb hs) λD Y H hz=>?_
 obtain⟨U,G,fl,U',r,e,k⟩:=hz;obtain⟨hs,U1,e1,e2⟩:=kI e k.ne
 cases q:aAb k0 hs U1 with
 |none=>rw[q] at e2;cases e2
 |some y =>
  obtain⟨ds,o⟩:=y;rw[q] at e2;simp only at e2
  cases q2:RC (oB one is) (IA P C W cb) ds (aAg o U1) with
  |none=>rw[q2] at e2;cases e2
  |some y =>
   obtain⟨bL,Uf⟩:=y;rw[q2] at e2;simp only[Run.restore] at e2
   cases q3:aAr o U1 Uf with
   |none=>rw[q3] at e2;cases e2
   |some U2 =>
    rw[q3] at e2;cases e2;refine hw Y H _ ⟨U,G,hs,U1,ds,o,r,e1,q,λH1 G1 a1 ho J wj=>?_⟩;have k1:YG K (aAg o U1) Y H1 G1 Uf D fl:=YG.restore a1.oA ho q3 (k.pre (AA.s r a1));refine⟨λi m Y2 H2=>m=ds.length-i/\i<=ds.length/\KR K P C W one is cb (aAg o U1) Y H1 G1 fl Uf ds i Y2 H2,⟨_,rfl,tJ _,aAg o U1,G1,TB.refl (WX a1.oA).1,q2⟩, ?_⟩
    rintro i m Y2 H2 ⟨rfl,hi,hp⟩
    obtain⟨U2,G2,b,e2⟩:=id hp;obtain⟨j1,j2,j3⟩:=wj (bB.refl _) (λ_ h=>h) i H2 U2 Y2 G2 b;by_cases AD:i<ds.length
    ·refine .inr ⟨j2 AD,KR K P C W one is cb (aAg o U1) Y H1 G1 fl Uf ds (i+1),λY' H' p'=>⟨ds.length-(i+1),by lia,rfl,AD,p'⟩,λx H' y=>?_⟩;obtain⟨Gd,af,rp⟩:=j3 _ x H' (gD AD) y;exact xJa k1 (gD AD) ⟨U2,Gd,b.trans (AA.s b.oA af),rp,e2⟩
    ·obtain rfl:i=ds.length:=by lia
     exact .inl ⟨j1 rfl,wJa k1 hp⟩
end
section
variable{X:Cx}{K:gA}
def PI.or(h:PI X tg it w)(h':PI X tg it w'):PI X tg it (λY H R=>w Y H R\/w' Y H R):=λaA s Y H R I q=>by
 rcases q with q | q
 ·exact h aA s Y H R I q
 ·exact h' aA s Y H R I q
def jS(e:bD P C [c] U=some (.ok hs,U1)):∃h,hs=[h]/\hd c (ev P C false c U) U=some (.ok h,U1):=by
 rw[bD] at e;obtain⟨h,U2,e1,e2⟩:=vB e;rw[bD] at e2;simp only[xA.bind] at e2;cases e2;exact⟨h,rfl,e1⟩
def R8(hK:X.K=K)(Y:St)(H:Hp)(R:It->Hp->Prop)(q:JI K P C .of [c] Y H R) :
  V6 X.K (tH K P C c) Y H R\/W6 X.K (tH K P C c) Y H R:=by
 obtain⟨U,G,hs,U1,ds,o,r,e,ei,k⟩:=q;obtain⟨h,rfl,e1⟩:=jS e;rw[hK]
 induction h using Hd.casesOn with
 |slot i =>
  (unfold aAb at ei;dsimp only at ei)
  split at ei
  ·rename_i OD p l hi;cases ei;refine .inl ⟨U,G,.slot i,U1,r,e1,λx H1 G1 a1 hx=>?_⟩;have hx:Y[i]?=some (some x):=hx;obtain⟨b,h1,g,vs,hv,hr⟩:=a1.oA.ow i _ _ _ hi;rw[hx] at h1;cases h1;exact⟨b,rfl,⟨vs,EB.of hv⟩,k H1 G1 a1 (λj z=>by cases z;exact⟨_,_,_,hi⟩) _ (jU (.inr ⟨hv,g,a1.oA.VQ hi hx⟩) hr)⟩
  ·rename_i OD hi;cases ei;refine .inl ⟨U,G,.slot i,U1,r,e1,λx H1 G1 a1 hx=>?_⟩;have hx:Y[i]?=some (some x):=hx;obtain⟨v,h1,h2⟩:=a1.oA.sh i _ hi;rw[hx] at h1;cases h1;simp only[jA] at h2;obtain⟨b,vs,rfl,h3,h4⟩:=h2;exact⟨b,rfl,⟨vs,a1.oA.sub.seq h3⟩,k H1 G1 a1 (λj z=>by cases z) _ (jU (.inl h3) h4)⟩
  ·rename_i OD hi;cases ei;refine .inr ⟨U,G,.slot i,U1,r,e1,λx H1 G1 a1 hx=>?_⟩;have hx:Y[i]?=some (some x):=hx;obtain⟨v,h1,h2⟩:=a1.oA.sh i _ hi;rw[hx] at h1;cases h1;simp only[jA] at h2;obtain⟨b,vs,rfl,h3,h4⟩:=h2;exact⟨b,rfl,⟨vs,yI a1.oA.sub h3⟩,k H1 G1 a1 (λj z=>by cases z) _ (Mp h3 h4)⟩
  ·cases ei
 |val v =>
  (unfold aAb at ei;dsimp only at ei)
  split at ei
  ·rename_i OD hd;cases ei;refine .inl ⟨U,G,.val v,U1,r,e1,λx H1 G1 a1 hx=>?_⟩
   induction v using RV.casesOn with
   |sh d =>
    simp only[RV.d] at hd;subst hd;have hx:jA K G1 (.l ds) x:=hx;simp only[jA] at hx;obtain⟨b,vs,rfl,h3,h4⟩:=hx;exact⟨b,rfl,⟨vs,a1.oA.sub.seq h3⟩,k H1 G1 a1 (λj z=>by cases z) _ (jU (.inl h3) h4)⟩
   |ow d =>
    simp only[RV.d] at hd;subst hd;obtain⟨b,rfl,g,⟨vs,hv,hr⟩,n,m⟩:=hx;exact⟨b,rfl,⟨vs,EB.of hv⟩,k H1 G1 a1 (λj z=>by cases z) _ (jU (.inr ⟨hv,g,n⟩) hr)⟩
   |od d=>exact hx.elim
  ·rename_i OD hd;cases ei;refine .inr ⟨U,G,.val v,U1,r,e1,λx H1 G1 a1 hx=>?_⟩
   induction v using RV.casesOn with
   |sh d =>
    simp only[RV.d] at hd;subst hd;have hx:jA K G1 (.t ds) x:=hx;simp only[jA] at hx;obtain⟨b,vs,rfl,h3,h4⟩:=hx;exact⟨b,rfl,⟨vs,yI a1.oA.sub h3⟩,k H1 G1 a1 (λj z=>by cases z) _ (Mp h3 h4)⟩
   |ow d =>
    simp only[RV.d] at hd;subst hd;obtain⟨b,rfl,g,o,n,m⟩:=hx;exact o.elim
   |od d=>exact hx.elim
  ·cases ei
def wMa(hK:X.K=K){c:E}(Y:St)(H:Hp)(R:It->Hp->Prop)(q:nP K P C .of [c] Y H R) :
  V6 X.K (tH K P C c) Y H R\/W6 X.K (tH K P C c) Y H R:=by
 rcases q with q | ⟨U,G,d0,U1,_,r,e,k⟩
 ·exact R8 hK Y H R q
 ·obtain⟨h,hh,e1⟩:=jS e;cases hh;rw[hK];refine .inl ⟨U,G,_,U1,r,e1,λx H1 G1 a1 hx=>?_⟩;have hx:jA K G1 (.GC d0) x:=hx;simp only[jA] at hx;obtain⟨b,ws,vs,rfl,h3,p,h4⟩:=hx;obtain⟨es,pe,h5⟩:=Km h4 p.2;exact⟨b,rfl,⟨ws,a1.oA.sub.seq h3⟩,k es ⟨h5.len.symm.trans (p.1.trans h4.len),pe⟩ H1 G1 a1 _ (jU (.inl h3) h5)⟩
def Nm(Y:St)(H:Hp)(R:It->Hp->Prop)(q:JI K P C .uD [c] Y H R) :
  Mh (oH K P C [c]) Y H R:=by
 obtain⟨U,G,hs,U1,ds,o,r,e,ei,k⟩:=q;refine⟨U,G,hs,U1,r,e,λxs H1 G1 a1 hx=>?_⟩;obtain⟨h,rfl,e1⟩:=jS e;obtain⟨x,r',rfl,h1,h2,_⟩:=hx;cases (show r'=[] from h2)
 (unfold aAb at ei;dsimp only at ei)
 split at ei
 ·rename_i n hn;split at ei
  ·rename_i hb;cases ei;cases (h1.read a1.oA hn).int;refine⟨n,rfl,by lia,by lia,k H1 G1 a1 (λj z=>by cases z) _ ?_⟩;rw[show(λ(j:Nat)=>D.int (j:Int))=λ(j:Nat)=>D.int (0+(j:Int)) from funext λj=>by rw[Int.zero_add]];exact Lp
  ·cases ei
 ·cases ei
def Om(Y:St)(H:Hp)(R:It->Hp->Prop)(q:JI K P C .uD [c,c2] Y H R) :
  Nh (oH K P C [c,c2]) Y H R:=by
 obtain⟨U,G,hs,U1,ds,o,r,e,ei,k⟩:=q;refine⟨U,G,hs,U1,r,e,λxs H1 G1 a1 hx=>?_⟩;rw[bD] at e;obtain⟨h,U2,e1,e2⟩:=vB e;obtain⟨J6,U3,e3,e4⟩:=vB e2;obtain⟨h',rfl,e5⟩:=jS e3;cases e4;obtain⟨x,r',rfl,h1,h2,_⟩:=hx;obtain⟨y,r'',rfl,h3,h4,_⟩:=h2;cases (show r''=[] from h4)
 (unfold aAb at ei;dsimp only at ei)
 split at ei
 ·rename_i m n hm hn;split at ei
  ·rename_i hb;cases ei;cases (h1.read a1.oA hm).int;cases (h3.read a1.oA hn).int;exact⟨m,n,rfl,by omega,k H1 G1 a1 (λj z=>by cases z) _ Lp⟩
  ·cases ei
 ·cases ei
def W2(hK:X.K=K){lo:Int}(Y:St)(H:Hp)(R:It->Hp->Prop)(q:JI K P C (.enum lo) [c] Y H R) :
  U6 X.K lo (oH K P C [c]) Y H R:=by
 obtain⟨U,G,hs,U1,ds,o,r,e,ei,k⟩:=q;rw[hK];refine⟨U,G,hs,U1,r,e,λxs H1 G1 a1 wM=>?_⟩;obtain⟨h,rfl,e1⟩:=jS e;obtain⟨x,r',rfl,hx,h2,_⟩:=wM;cases (show r'=[] from h2)
 induction h using Hd.casesOn with
 |slot i =>
  (unfold aAb at ei;dsimp only at ei)
  have hx:Y[i]?=some (some x):=hx;split at ei
  ·rename_i OD p l hi;cases ei;obtain⟨b,h1,g,vs,hv,hr⟩:=a1.oA.ow i _ _ _ hi;rw[hx] at h1;cases h1;exact⟨b,rfl,⟨vs,EB.of hv⟩,k H1 G1 a1 (λj z=>by cases z;exact⟨_,_,_,hi⟩) _ (dY (.inr ⟨hv,g,a1.oA.VQ hi hx⟩) hr)⟩
  ·rename_i OD hi;cases ei;obtain⟨v,h1,h2⟩:=a1.oA.sh i _ hi;rw[hx] at h1;cases h1;simp only[jA] at h2;obtain⟨b,vs,rfl,h3,h4⟩:=h2;exact⟨b,rfl,⟨vs,a1.oA.sub.seq h3⟩,k H1 G1 a1 (λj z=>by cases z) _ (dY (.inl h3) h4)⟩
  ·cases ei
 |val v =>
  (unfold aAb at ei;dsimp only at ei)
  split at ei
  ·rename_i OD hd;cases ei
   induction v using RV.casesOn with
   |sh d =>
    simp only[RV.d] at hd;subst hd;have hx:jA K G1 (.l OD) x:=hx;simp only[jA] at hx;obtain⟨b,vs,rfl,h3,h4⟩:=hx;exact⟨b,rfl,⟨vs,a1.oA.sub.seq h3⟩,k H1 G1 a1 (λj z=>by cases z) _ (dY (.inl h3) h4)⟩
   |ow d =>
    simp only[RV.d] at hd;subst hd;obtain⟨b,rfl,g,⟨vs,hv,hr⟩,n,m⟩:=hx;exact⟨b,rfl,⟨vs,EB.of hv⟩,k H1 G1 a1 (λj z=>by cases z) _ (dY (.inr ⟨hv,g,n⟩) hr)⟩
   |od d=>exact hx.elim
  ·cases ei
def LV(h:GQ e=true)(env:yK):∀x,AJ e env x=pure x:=λx=>by
 cases e<;>first | rfl | cases h
def jb(xo:NA X K P C Z)(UB:CH X Z){tg:vA}{one:Bool}{is:List Nat}(h:tG Z tg=some (one,is)):PG X tg (gB K one is):=by
 cases tg<;>simp only[tG,reduceCtorEq] at h
 ·rename_i x pos
  cases q:Z.fF x with
  |none=>rw[q] at h;cases h
  |some i=>rw[q] at h;cases h;exact pRa (R9 xo UB q)
 ·rename_i es k0 pos
  cases q:nK Z es with
  |none=>rw[q] at h;cases h
  |some Xh =>
   rw[q] at h;cases h;obtain⟨h1,h2,h3,h4⟩:=Ya xo UB q;exact Hl xo h1 h2 h3
end
section
variable{K:gA}{Y Y':St}{H G H' G':Hp}
def yT(h:(as++LB n Sl.un)[i]?=some s):(as[i]?=some s)\/(as.length<=i/\s=.un):=by
 by_cases hl:i<as.length
 ·rw[YQ hl] at h;exact .inl h
 ·rw[zR (by lia),Qb] at h;split at h
  ·cases h;exact .inr ⟨by lia,rfl⟩
  ·cases h
def ua(h:i<vs.length):(L2.aAm N vs)[i]?=(vs.map some)[i]?:=by
 unfold L2.aAm;rw[YQ (by rw[EA];exact h)]
def BA.pad(r:BA K as (vs.map some) H G)(hn:N.length=as.length+n):BA K (as++LB n .un) (L2.aAm N vs) H G/\∀a,yA (as++LB n .un) (L2.aAm N vs) a->yA as (vs.map some) a:=by
 have hl:as.length=vs.length:=by have:=r.len;rwa[EA] at this
 have st:∀i:Nat,i<as.length->(L2.aAm N vs)[i]?=(vs.map some)[i]?:=λi h=>ua (by lia)
 have lt:∀{i:Nat} {s:Sl},as[i]?=some s->i<as.length:=λh=>(RD.mp h).1
 refine⟨⟨by unfold L2.aAm;simp;lia,r.sub,λi d h=>?_,λi d p l h=>?_,λi j d p l d' p' l' a h1 h2 h3 h4=>?_⟩,λa ⟨i,d,p,l,h1,h2⟩=>?_⟩
 ·rcases yT h with h | ⟨_,h⟩
  ·rw[st i (lt h)];exact r.sh i d h
  ·cases h
 ·rcases yT h with h | ⟨_,h⟩
  ·rw[st i (lt h)];exact r.ow i d p l h
  ·cases h
 ·rcases yT h1 with h1 | ⟨_,h1⟩
  ·rcases yT h2 with h2 | ⟨_,h2⟩
   ·rw[st i (lt h1)] at h3;rw[st j (lt h2)] at h4;exact r.inj _ _ _ _ _ _ _ _ _ h1 h2 h3 h4
   ·cases h2
  ·cases h1
 ·rcases yT h1 with h1 | ⟨_,h1⟩
  ·rw[st i (lt h1)] at h2;exact⟨i,d,p,l,h1,h2⟩
  ·cases h1
theorem RR:∀{as:List Sl} {U:Env} (i:Nat),as.length<=U.length->(back as U)[i]?=(as[i]?).bind λa=>match a with | .ow _ _ _=>U[i]? | a=>some a
 |[],U,i,_=>by cases U<;>rfl
 |a::as,[],i,h=>by simp at h
 |a::as,b::U,i,h=>by
  have ih:=λj=>RR (as:=as) (U:=U) j (by simpa using h)
  cases i with
  |zero=>cases a<;>rfl
  |succ i=>cases a<;>exact ih i
def cV(r:BA K as (vs.map some) H G)(hp:as.all fK=true)(hn:N.length=as.length+n)
  (a:TB K (as++LB n .un) (L2.aAm N vs) H G U' Y' H' G'):AA K as (vs.map some) H G (back as U') H' G'/\∀c,yA (back as U') (vs.map some) c->yA U' Y' c:=by
 have hl:as.length=vs.length:=by have:=r.len;rwa[EA] at this
 have lt:∀{i:Nat} {s:Sl},as[i]?=some s->i<as.length:=λh=>(RD.mp h).1
 have st:∀i:Nat,i<as.length->(L2.aAm N vs)[i]?=(vs.map some)[i]?:=λi h=>ua (by lia)
 have AB:as.length<=U'.length:=by rw[a.len,oC];lia
 have Mv:∀{i:Nat} {s:Sl},as[i]?=some s->(as++LB n .un)[i]?=some s:=λh=>by rw[YQ (lt h)];exact h
 have pin:∀(i:Nat) d p l,as[i]?=some (.ow d p l)->p=true/\Y'[i]?=(vs.map some)[i]?/\∃d',U'[i]?=some (.ow d' true l):=λi d p l h=>by(have h1:=YF.mp hp _ (YH h);simp only[fK] at h1;subst h1;obtain⟨h2,d',h3⟩:=a.pin i d l (Mv h);exact⟨rfl,h2.trans (st i (lt h)),d',h3⟩)
 have cF:∀{i:Nat} {s:Sl},(back as U')[i]?=some s->(∃d d' l,as[i]?=some (.ow d true l)/\s=.ow d' true l/\U'[i]?=some s/\Y'[i]?=(vs.map some)[i]?)\/(as[i]?=some s/\∀d p l,s≠.ow d p l):=λ{i s} h=>by
  rw[RR i AB] at h
  cases e:as[i]? with
  |none=>rw[e] at h;cases h
  |some b =>
   rw[e] at h
   cases b with
   |ow d p l =>
    obtain⟨rfl,h1,d',h2⟩:=pin i d p l e;simp only[uH] at h;rw[h2] at h;cases h;exact .inl ⟨d,d',l,rfl,rfl,h2,h1⟩
   |un=>cases h;exact .inr ⟨rfl,λd p l z=>nomatch z⟩
   |mv=>cases h;exact .inr ⟨rfl,λd p l z=>nomatch z⟩
   |sh d=>cases h;exact .inr ⟨rfl,λd p l z=>nomatch z⟩
 have Mw:(back as U').length=as.length:=by
  apply Nat.le_antisymm
  ·refine Jc λz=>?_
   have:=RR (U:=U') as.length AB
   rw[gD z,RL (mB _)] at this;cases this
  ·refine Jc λz=>?_
   have h1:=RR (U:=U') (back as U').length AB;rw[RL (mB _),gD z] at h1
   cases e:as[(back as U').length] with
   |ow d p l =>
    have e':as[(back as U').length]?=some (.ow d p l):=by rw[gD z,e]
    obtain⟨_,_,d',h2⟩:=pin _ d p l e';rw[e] at h1;simp only[uH] at h1;rw[h2] at h1;cases h1
   |un=>rw[e] at h1;cases h1
   |mv=>rw[e] at h1;cases h1
   |sh d=>rw[e] at h1;cases h1
 refine⟨⟨⟨by rw[Mw];exact r.len,a.oA.sub,λi d h=>?_,λi d p l h=>?_,λi j d p l d' p' l' c h1 h2 h3 h4=>?_⟩,a.ext.weaken λc z=>(r.pad hn).2 c z,λi=>?_⟩,λc ⟨i,d,p,l,h1,h2⟩=>?_⟩
 ·rcases cF h with ⟨_,_,_,_,z,_,_⟩ | ⟨z,_⟩
  ·cases z
  ·obtain⟨v,h1,h2⟩:=r.sh i d z;exact⟨v,h1,jA.mono a.ext.gg d h2⟩
 ·rcases cF h with ⟨d0,d',l',h1,h2,h3,h4⟩ | ⟨_,z⟩
  ·rw[<- h4];exact a.oA.ow i d p l h3
  ·exact absurd rfl (z d p l)
 ·rcases cF h1 with ⟨_,_,_,_,_,z3,z4⟩ | ⟨_,z⟩
  ·rcases cF h2 with ⟨_,_,_,_,_,w3,w4⟩ | ⟨_,w⟩
   ·rw[<- z4] at h3;rw[<- w4] at h4;exact a.oA.inj _ _ _ _ _ _ _ _ _ z3 w3 h3 h4
   ·exact absurd rfl (w _ _ _)
  ·exact absurd rfl (z _ _ _)
 ·rw[RR i AB]
  cases e:as[i]? with
  |none=>trivial
  |some b =>
   cases b with
   |ow d p l =>
    obtain⟨rfl,_,d',h2⟩:=pin i d p l e;simp only[uH];rw[h2];exact⟨rfl,rfl⟩
   |un=>trivial
   |mv=>trivial
   |sh d=>trivial
 ·rcases cF h1 with ⟨_,_,_,_,_,z3,z4⟩ | ⟨_,z⟩
  ·rw[<- z4] at h2;exact⟨i,d,p,l,z3,h2⟩
  ·exact absurd rfl (z _ _ _)
end
end CI
namespace L2
open PySem PySem.Spec PyProof.Rows
theorem aAq[BEq O][LawfulBEq O]:∀{l:List (O×N)} {x:O} {k:N},l.lookup x=some k->(x,k)∈l
 |[],x,k,h=>by simp at h
 | (y,k')::r,x,k,h=>by
  rw[aI] at h;split at h
  ·rename_i e;have e:=EC e;subst e;cases h;exact qE
  ·exact fD _ (aAq h)
def cy(h:∀p∈scope.names,p.2=.free->∃c,env.cells.lookup p.1=some c) :
  ∃cl,closureFor scope env=pure cl/\(∀x c,cl.lookup x=some c->env.cells.lookup x=some c)/\∀p∈scope.names,p.2=.free->∃c,cl.lookup p.1=some c:=by
 have key:∀(names:List (bA×wJ)) (rA:List (bA×fA)),(∀p∈names,p.2=.free->∃c,env.cells.lookup p.1=some c)->(∀x c,rA.lookup x=some c->env.cells.lookup x=some c) ->
   ∃cl,(forIn names rA λ(p:bA×wJ) (cs:List (bA×fA))=>(if(p.2==NameKind.free)=true then do let a <- cellOf env p.1;pure (ForInStep.yield ((p.1,a)::cs)) else pure (ForInStep.yield cs):DE _))=pure cl /\
    (∀x c,cl.lookup x=some c->env.cells.lookup x=some c)/\(∀p∈names,p.2=.free->∃c,cl.lookup p.1=some c)/\∀x c,rA.lookup x=some c->∃c',cl.lookup x=some c':=by
  intro names
  induction names with
  |nil=>intro rA _ h2;exact⟨rA,by simp,h2,λp hp=>(nomatch hp),λx c e=>⟨c,e⟩⟩
  |cons p r ih =>
   intro rA h1 h2;by_cases hp:p.2=.free
   ·obtain⟨c,hc⟩:=h1 p qE hp;have e:cellOf env p.1=pure c:=by unfold cellOf;rw[hc]
    obtain⟨cl,q1,q2,q3,q4⟩:=ih ((p.1,c)::rA) (λq hq=>h1 q (fD _ hq)) (λx c' z=>by
     rw[aI] at z;split at z
     ·rename_i w;rw[EC w,hc];exact z
     ·exact h2 x c' z)
    refine⟨cl, ?_,q2,λq hq hf=>?_,λx c' z=>?_⟩
    ·rw[sR];have hb:(p.2==NameKind.free)=true:=by rw[hp];rfl
     rw[GA hb,e];simp only[pure_bind];exact q1
    ·rcases wD.mp hq with w | w
     ·subst w;exact q4 q.1 c (by rw[aI];simp)
     ·exact q3 q w hf
    ·by_cases w:x=p.1
     ·subst w;exact q4 p.1 c (by rw[aI];simp)
     ·refine q4 x c' ?_;rw[aI]
      have:(x==p.1)=false:=LO.mpr w
      rw[this];exact z
   ·obtain⟨cl,q1,q2,q3,q4⟩:=ih rA (λq hq=>h1 q (fD _ hq)) h2;refine⟨cl, ?_,q2,λq hq hf=>?_,q4⟩
    ·rw[sR];have hb:¬(p.2==NameKind.free)=true:=by simpa using hp
     rw[LA hb];simp only[pure_bind];exact q1
    ·rcases wD.mp hq with w | w
     ·subst w;exact absurd hf hp
     ·exact q3 q w hf
 obtain⟨cl,q1,q2,q3,_⟩:=key scope.names [] h (λx c e=>by simp at e);refine⟨cl, ?_,q2,q3⟩;unfold closureFor
 have:(forIn scope.names ([]:List (bA×fA)) λ(x:bA×wJ) (r:List (bA×fA))=>(match x with | (name,kind)=>if(kind==NameKind.free)=true then do let a <- cellOf env name;pure (ForInStep.yield ((name,a)::r)) else pure (ForInStep.yield r):DE _))=pure cl:=q1
 simp only[this,pure_bind,bind_pure]
 first | rfl | (rw[this];rfl) | skip
theorem B9{env:yK}:∀{names:List (bA×wJ)} {x:bA} {k':wJ},
  (names.map λ(n,k)=>if(k==NameKind.free&&env.scope.kind==.function&&env.kindOf n==some .cell) then(n,NameKind.cell) else(n,k)).lookup x=some k'->∃k,names.lookup x=some k/\(k'=k\/(k=.free/\k'=.cell))
 |[],x,k',h=>by simp at h
 | (n,k)::r,x,k',h=>by
  have ih:=@B9 env r x k';have h':vK x ((if(k==NameKind.free&&env.scope.kind==.function&&env.kindOf n==some .cell)=true then(n,NameKind.cell) else(n,k))::(r.map λ(n,k)=>if(k==NameKind.free&&env.scope.kind==.function&&env.kindOf n==some .cell) then(n,NameKind.cell) else(n,k)))=some k':=h;by_cases hc:(k==NameKind.free&&env.scope.kind==.function&&env.kindOf n==some .cell)=true
  ·rw[GA hc] at h';rw[aI] at h' ⊢
   cases hx:x==n with
   |true=>rw[hx] at h';cases h';simp only[WA,vJ] at hc;exact⟨k,rfl,.inr ⟨hc.1.1,rfl⟩⟩
   |false=>rw[hx] at h';exact ih h'
  ·rw[LA hc] at h';rw[aI] at h' ⊢
   cases hx:x==n with
   |true=>rw[hx] at h';cases h';exact⟨k,rfl,.inl rfl⟩
   |false=>rw[hx] at h';exact ih h'
theorem Gm{env:yK}:∀{names:List (bA×wJ)} {x:bA},names.lookup x=some .free ->
  (names.map λ(n,k)=>if(k==NameKind.free&&env.scope.kind==.function&&env.kindOf n==some .cell) then(n,NameKind.cell) else(n,k)).lookup x=some .cell \/
  (names.map λ(n,k)=>if(k==NameKind.free&&env.scope.kind==.function&&env.kindOf n==some .cell) then(n,NameKind.cell) else(n,k)).lookup x=some .free
 |[],x,h=>by simp at h
 | (n,k)::r,x,h=>by
  have ih:=@Gm env r x;show vK x ((if(k==NameKind.free&&env.scope.kind==.function&&env.kindOf n==some .cell)=true then(n,NameKind.cell) else(n,k))::_)=_\/vK x ((if(k==NameKind.free&&env.scope.kind==.function&&env.kindOf n==some .cell)=true then(n,NameKind.cell) else(n,k))::_)=_;rw[aI] at h;by_cases hc:(k==NameKind.free&&env.scope.kind==.function&&env.kindOf n==some .cell)=true
  ·rw[GA hc,aI]
   cases hx:x==n with
   |true=>exact .inl rfl
   |false=>rw[hx] at h;exact ih h
  ·rw[LA hc,aI]
   cases hx:x==n with
   |true=>rw[hx] at h;exact .inr h
   |false=>rw[hx] at h;exact ih h
theorem jy(I:Nat->qA->Prop)
  (turn:∀n s,I n s->nA (model prog w) A (pyNext it) (λr s₁=>match r with
   |none=>R (.ok .next) s₁
   |some v=>nA (model prog w) A (letOwnedTupleGo target it v) (λ_ s₁=>nA (model prog w) A (assign target env v) (λ_ s₂ =>
     nA (model prog w) A (forIn DA true λc r=>if r=true then do let ok <- isTrue c env (eval c env);pure (ForInStep.yield ok) else pure (ForInStep.yield r)) (λok s₃ =>
      if ok=true then nA (model prog w) A (eval HA env) (λx s₄ =>
       nA (model prog w) A (call (.builtin "list.append") [rA,x]) (λ_ s₅=>∃m,m<n/\I m s₅) (notedBy (model prog w) A env λe s'=>R (.error e) s') s₄) (notedBy (model prog w) A env λe s'=>R (.error e) s') s₃
      else ∃m,m<n/\I m s₃) (notedBy (model prog w) A env λe s'=>R (.error e) s') s₂) (notedBy (model prog w) A env λe s'=>R (.error e) s') s₁) (notedBy (model prog w) A env λe s'=>R (.error e) s') s₁) (notedBy (model prog w) A env λe s'=>R (.error e) s') s)
  (n:Nat) (h:I n s):BK (model prog w) A (.compLoop (.ListComp HA [⟨target,iter,DA,0⟩] scope pos) 0 it rA env) R s:=by
 refine codeAny_loop rfl I (λn s hI=>?_) n h;show nA _ A ((compTurn (.ListComp HA [⟨target,iter,DA,0⟩] scope pos) 0 it rA env).onRaise (λx=>do noteFrame x env;theTreesLotGoes x)) _ _ s;refine wpAny_noted ?_;rw[compTurn_list];refine kA (dZ (kA (OG (turn n s hI) (λr s₁ h₁=>?_) λ_ _ h'=>h')))
 cases r with
 |none=>exact SA h₁
 |some v =>
  refine kA (OG h₁ (λ_ s₁' h₁'=>?_) λ_ _ h'=>h');refine kA (OG h₁' (λ_ s₂ h₂=>kA (OG h₂ (λok s₃ h₃=>?_) λ_ _ h'=>h')) λ_ _ h'=>h')
  cases ok with
  |false=>exact SA ⟨rfl,h₃⟩
  |true =>
   exact kA (kA (OG h₃ (λx s₄ h₄=>kA (OG h₄ (λ_ s₅ h₅=>SA (SA ⟨rfl,h₅⟩)) λ_ _ h'=>h')) λ_ _ h'=>h'))
def nV(X:Cx)(scope:BF)(cl:List (bA×fA))(C:fA)(N':List bA)(s₃:qA)(H₃:Hp)(fp:List fA)(xe:cA->qA->Prop):Cx :=
 { X with N:=N',s₀:=s₃,H₀:=H₃,env:=compEnvC scope cl C X.env,outer:=X.stack,stack:=X.stack,ex:=fp,fn:=λ_=>false,pn:=[],xe:=xe }
def aG(X:Cx)(scope:BF)(N':List bA)(X':Cx):Prop:=∃cl C s₃ H₃ fp xe,X'=nV X scope cl C N' s₃ H₃ fp xe
section
variable{s:qA}
def sYa{i:Nat}(h:(aAm N vs)[i]?=some (some v)):vs[i]?=some v:=by
 unfold aAm at h;by_cases hl:i<vs.length
 ·rw[YQ (by rw[EA];exact hl),jE,gD hl] at h;rw[gD hl];simpa using h
 ·rw[zR (by rw[EA];lia),Qb] at h;split at h
  ·cases h
  ·cases h
def eA.block(I:eA X aA Y H s)
  (cJ:scope.kind=.function) (ZI:∀y∈scope.names,y.2≠.cell) (sub:∀x c,cl.lookup x=some c->X.env.cells.lookup x=some c) (WV:∀p∈scope.names,p.2=.free->∃c,cl.lookup p.1=some c)
  (bJ:∀p∈scope.names,p.2=.free->X.env.kindOf p.1=some .cell\/X.env.kindOf p.1=some .free)
  (hf:∀b∈fp,xD X aA H b) (hfo:∀b∈fp,b<s.heap.objs.size) (Gh:vs.length<=N'.length)
  (himp:∀(i:Nat) x v,N'[i]?=some x->vs[i]?=some v->∃j:Nat,X.N[j]?=some x/\Y[j]?=some (some v)/\scope.names.lookup x=some .free)
  (m:bA->Option cA) (nI:h₄.Ns s.heap.objs.size m) (hsb:xH s.heap.objs.size (s.heap.push ob) h₄) :
  eA (nV X scope cl s.heap.objs.size N' s H fp xe) [] (aAm N' vs) H { s with heap:=h₄,toks:=tk }:=by
 have old:∀b o,s.heap.get? b=some o->h₄.get? b=some o:=λb o e=>(hsb.2 b (MD (fC e))).trans (wC _ e)
 have freeOf:∀x,(relabel scope X.env).names.lookup x=some .cell\/(relabel scope X.env).names.lookup x=some .free->scope.names.lookup x=some .free:=λx hx=>by
  rcases hx with hx | hx
  ·obtain⟨k,h1,h2⟩:=B9 (env:=X.env) hx;rcases h2 with h2 | ⟨h2,_⟩
   ·subst h2;exact absurd rfl (ZI _ (aAq h1))
   ·subst h2;exact h1
  ·obtain⟨k,h1,h2⟩:=B9 (env:=X.env) hx;rcases h2 with h2 | ⟨_,h2⟩
   ·subst h2;exact h1
   ·cases h2
 have ok:(nV X scope cl s.heap.objs.size N' s H fp xe).Ok:=by
  refine⟨I.ok.mod,cJ,I.ok.glob,I.ok.BB,mB _,λx y c h1 h2=>I.ok.inj x y c (sub x c h1) (sub y c h2),λx hx=>?_,λx c h=>(nomatch h),I.ok.hd,I.ok.frames,.inl rfl,λb hb=>⟨MD (hfo b hb),λx c e=>(hf b hb).2.2.2.2.1 x c (sub x c e)⟩,λb o e=>I.bs b o e,XC I.ok.OI I.sz,λb o e hb=>?_,λb hb z=>?_,I.stack,I.ya⟩
  ·exact WV (x,.free) (aAq (freeOf x hx)) rfl
  ·rcases(hf b hb).2.2.2.1 with z | z
   ·exact I.ok.HM b o e z
   ·rw[(I.ok.bs b o e).1] at z;cases z
  ·rcases wD.mp (I.OX b z) with z | z
   ·exact(hf b hb).2.1 z
   ·exact(hf b hb).2.2.1 z
 refine⟨ok,rfl,I.bare,Un.kept old,⟨m,nI,λi x v e1 e2 e3=>?_⟩,λx c e=>?_,I.KA.fresh (mB _),λx c e=>I.gH x c (sub x c e),λp hp=>(nomatch hp),I.KA.kept old, ?_⟩
 ·obtain⟨j,h1,h2,h3⟩:=himp i x v e1 (sYa e2);have hk:=bJ (x,.free) (aAq h3) rfl;obtain⟨m0,hn0,hl⟩:=I.loc;obtain⟨u,r,lk⟩:=hl j x v h1 h2 (.inr hk);refine⟨u,r, ?_⟩;rcases lk with ⟨k,_⟩ | ⟨k,c,e,z⟩
  ·rcases hk with hk | hk
   ·rw[hk] at k;cases k
   ·rw[hk] at k;cases k
  ·obtain⟨c',OH⟩:=WV (x,.free) (aAq h3) rfl;have ec:=sub x c' OH;rw[e] at ec;cases ec;obtain⟨o,ho,hd⟩:=z;exact .inr ⟨Gm (env:=X.env) h3,c,OH,o,old c o ho,hd⟩
 ·obtain⟨v,o,ho,hd⟩:=I.cell x c (sub x c e);exact⟨v,o,old c o ho,hd⟩
 ·show(aAm N' vs).length=N'.length;unfold aAm;simp
  lia
def FJ(X:Cx)(DA:List vA)(t:TT):Prop:=∀(aA:List (fA×nB)) (s:qA) (Y:St) (H:Hp) (Q:Bool->Hp->Prop),eA X aA Y H s->t Y H Q ->
 nA (model X.prog X.w) X.A (forIn DA true λc r=>if r=true then do let ok <- isTrue c X.env (eval c X.env);pure (ForInStep.yield ok) else pure (ForInStep.yield r)) (TP X aA Y Q) X.xe s
def eUa:FJ X [] (λY H Q=>Q true H):=λaA s Y H Q I h=>wpAny_tests_nil ⟨H,I,h⟩
def fUa(h:PT X c t):FJ X [c] t:=λaA s Y H Q I q=>wpAny_tests_one (h aA s Y H Q I q)
def Ra(N:List bA)(scope:BF)(N':List bA)(g:TG)(tt:TT)(te:TE)(Y:St)(Q:VK)(J:It)(H1:Hp):Prop:=∃vs:List V,vs.length<=N'.length /\
 (∀(i:Nat) x v,N'[i]?=some x->vs[i]?=some v->∃j:Nat,N[j]?=some x/\Y[j]?=some (some v)/\scope.names.lookup x=some .free) /\
 ∀D,H1 D=none->∃(n:Nat) (LP:Nat->St->Hp->Prop),LP 0 (aAm N' vs) (CA H1 D (.l []))/\∀i Y' H',LP i Y' H' ->
  (J.stop i H'/\Q (.ref D) H')\/(i<n/\J.go i H'/\∀x H2,J.rY i H' x H2->g x Y' H2 λY2 H3=>tt Y2 H3 λb H4 =>
   if b=true then te Y2 H4 λy H5=>∃ys,H5 D=some (.l ys)/\ys.length<sizeLine/\LP (i+1) Y2 (CA H5 D (.l (ys++[y]))) else LP (i+1) Y2 H4)
def RQ(N:List bA)(scope:BF)(N':List bA)(wi:TI)(g:TG)(tt:TT)(te:TE):TE:=λY H Q=>wi Y H (Ra N scope N' g tt te Y Q)
def yf(hc:X.calm=true)(hi:PI X tg iter wi)(hs:∀x,AJ iter X.env x=pure x)
  (cJ:scope.kind=.function) (ZI:∀y∈scope.names,y.2≠.cell) (ES:∀x∈scope.names,x.2=.local->scope.names.lookup x.1=some .local)
  (bJ:∀p∈scope.names,p.2=.free->X.env.kindOf p.1=some .cell\/X.env.kindOf p.1=some .free)
  (hg:∀X',aG X scope N' X'->PG X' tg g) (ht:∀X',aG X scope N' X'->FJ X' DA tt) (he:∀X',aG X scope N' X'->PE X' HA te) (I:eA X aA Y H s) (h:RQ X.N scope N' wi g tt te Y H Q)
  (fin:∀(D C:fA) (H':Hp) (s':qA),eA X aA Y H' s'->Q (.ref D) H'->H' C=none->X.s₀.heap.objs.size<=C->C≠X.env.locals->(∀x c,X.env.cells.lookup x=some c->c≠C)->(∀p∈X.pn++aA,p.1≠C)->(∃m,s'.heap.Ns C m) ->
   compPost (model X.prog X.w) X.A X.xe use QF (.ref D) C (.ok .next) s') :
  nA (model X.prog X.w) X.A (comprehension (.ListComp HA [⟨tg,iter,DA,0⟩] scope pos) scope X.env ps (newList []) false (eval iter X.env) use) QF X.xe s:=by
 obtain⟨cl,nBa,sub,WV⟩:=cy (env:=X.env) λp hp hf=>I.ok.has p.1 (bJ p hp hf)
 refine wpAny_comprehension_free rfl hs nBa cJ ES (OA (hi aA s Y H _ I h) λv s1 h1=>OA h1 λK7 s2 h2=>?_);obtain⟨it,fp,tn,J,H2,e,I2,T,xF,f2,vs,Gh,himp,hD⟩:=h2;subst e
 have wg:∀b∈fp,b<s2.heap.objs.size:=λb hb=>by(obtain⟨o,e,_⟩:=T.obj _ _ xF b hb;exact fC e)
 refine IL (wpAny_newFunctionEnv ZI (by intro y hy;simp at hy) (λh₁ hns₁ hsb₁=>?_) cJ);dsimp only at hns₁ hsb₁ ⊢;have I3:eA X aA Y (CA H2 s2.heap.objs.size (.l [])) { s2 with heap:=s2.heap.push { cls:=.type "list",dict:=none,data:=.seq ([]:List cA).toArray } }:=I2.C8 (dA:=[]) (t':=s2.toks) .nil (tJ _);obtain⟨n,LP,l0,turn⟩:=hD s2.heap.objs.size I2.fresh;generalize YN:({ s2 with heap:=s2.heap.push { cls:=.type "list",dict:=none,data:=.seq ([]:List cA).toArray } }:qA)=s3 at I3;have f6:s3.heap=s2.heap.push { cls:=.type "list",dict:=none,data:=.seq ([]:List cA).toArray }:=by rw[<- YN]
 rw[<- f6] at hns₁ hsb₁ ⊢;have f3:∀b∈fp,xD X aA (CA H2 s2.heap.objs.size (.l [])) b:=λb hb=>⟨by rw[rB (MD (wg b hb))];exact(f2 b hb).1,(f2 b hb).2⟩
 have xg:∀b∈fp,b<s3.heap.objs.size:=λb hb=>by rw[f6,CU];exact Qr (wg b hb)
 let R:Result->qA->Prop:=compPost (model X.prog X.w) X.A X.xe use QF (.ref s2.heap.objs.size) s3.heap.objs.size
 let X':Cx:=nV X scope cl s3.heap.objs.size N' s3 (CA H2 s2.heap.objs.size (.l [])) fp (notedBy (model X.prog X.w) X.A (compEnvC scope cl s3.heap.objs.size X.env) λe s'=>R (.error e) s')
 have P5:aG X scope N' X':=⟨_,_,_,_,_,_,rfl⟩
 have I4:∀tk,eA X' [] (aAm N' vs) (CA H2 s2.heap.objs.size (.l [])) { s3 with heap:=h₁,toks:=tk }:=λtk=>I3.block cJ ZI sub WV bJ f3 xg Gh himp _ hns₁ hsb₁
 have old:∀b o,s3.heap.get? b=some o->h₁.get? b=some o:=λb o e=>(hsb₁.2 b (MD (fC e))).trans (wC _ e)
 have GX:tn 0 h₁:=T.keep _ _ _ xF λb hb o e=>old b o (by rw[f6];exact wC _ e)
 have wO:∀{H':Hp},(∀b∈fp,H' b=none)->∀b∈fp,xD X' [] H' b:=λhn b hb=>⟨hn b hb,MD (xg b hb),λz=>by
  rcases wD.mp (I3.OX b z) with z | z
  ·exact(f2 b hb).2.1 z
  ·exact(f2 b hb).2.2.1 z,.inl hb,λx c e=>(f2 b hb).2.2.2.2.1 x c (sub x c e),λp hp=>(nomatch hp)⟩
 have loop:∀tk,BK (model X.prog X.w) X.A (.compLoop (.ListComp HA [⟨tg,iter,DA,0⟩] scope pos) 0 (.ref it) (.ref s2.heap.objs.size) (compEnvC scope cl s3.heap.objs.size X.env)) R { s3 with heap:=h₁,toks:=tk }:=by
  intro tk;refine jy (λm s'=>∃i Y' H',m=n-i/\eA X' [] Y' H' s'/\tn i s'.heap/\(∀b∈fp,H' b=none)/\LP i Y' H') ?_ n ⟨0,_,_,by simp,I4 tk,GX,λb hb=>(f3 b hb).1,l0⟩
  rintro m s5 ⟨i,Y5,H5,rfl,I5,OM,NV,w5⟩
  rcases turn i Y5 H5 w5 with ⟨stop,qn⟩ | ⟨gh,go,step⟩
  ·refine OA (T.done X' rfl rfl rfl hc i [] s5 Y5 H5 _ I5 (wO NV) OM stop) λr s6 hz=>?_
   obtain⟨hr,I6⟩:=hz;subst hr;obtain⟨m6,hn6,_⟩:=I6.loc;have IX:eA X aA Y H5 s6:=I3.Ze (s':=s6) (ch:=fp) I6.os I6.base I6.KA I6.bare λb hb=>⟨(f2 b hb).2.2.2.1,(f2 b hb).2.1,(f2 b hb).2.2.2.2.1,(f2 b hb).2.2.2.2.2⟩
   refine fin _ _ H5 s6 IX qn I6.free I3.sz (λz=>LL _ (jF I3.lt (uK z))) (λx c e z=>?_) (λp hp z=>?_) ⟨m6,hn6⟩
   ·obtain⟨v,o,ho,hd⟩:=I3.cell x c e;rw[z] at ho;exact LL _ (fC ho)
   ·have:=(I3.pin p hp).1
    rw[z] at this;exact LL _ (fC this)
  ·refine OA (T.item X' rfl rfl rfl hc i [] s5 Y5 H5 _ I5 (wO NV) OM go) λr s6 hz=>?_
   obtain⟨u,hr,h6⟩:=hz;subst hr;refine OA h6 λ_ s7 hz=>?_
   obtain⟨x,H7,I7,r7,y7,Z9,B'⟩:=hz;have Vt:=I7.pinned (wO B') (T.obj _ _ Z9)
   have again:∀{Y8:St} {H8:Hp} {s8:qA},eA X' ([]++CT fp s7.heap) Y8 H8 s8->LP (i+1) Y8 H8->∃m,m<n-i/\∃i Y' H',m=n-i/\eA X' [] Y' H' s8/\tn i s8.heap/\(∀b∈fp,H' b=none)/\LP i Y' H':=λ{Y8 H8 s8} I8 w8=>by(refine⟨n-(i+1),by lia,i+1,Y8,H8,rfl,I8.cY,T.keep _ _ _ Z9 λb hb o e=>(I8.pin (b,o) (XF _ (XF _ (OW hb e)))).1,λb hb=>?_,w8⟩;obtain⟨o,e,d⟩:=T.obj _ _ Z9 b hb;exact(I8.pin (b,o) (XF _ (XF _ (OW hb e)))).2.1)
   refine OA (hg X' P5 _ s7 Y5 H7 x u _ Vt r7 (step x H7 y7)) λ_ s8 hz=>?_
   obtain⟨Y8,H8,I8,q8⟩:=hz;refine OA (ht X' P5 _ s8 Y8 H8 _ I8 q8) λb s9 hz=>?_
   obtain⟨H9,I9,q9⟩:=hz
   cases b with
   |false=>exact again I9 q9
   |true =>
    refine OA (he X' P5 _ s9 Y8 H9 _ I9 q9) λy s10 hz=>?_
    obtain⟨yv,Pt,Qt,r10,ys,hy,hz,q10⟩:=hz;refine OA (ik (X:=X') _ s10 Y8 Pt (.ref s2.heap.objs.size) [yv] (.ref s2.heap.objs.size) [y] (λ_ H'=>LP (i+1) Y8 H') Qt rfl (.cons r10 .nil) ⟨_,ys,yv,rfl,rfl,hy,hz,q10⟩) λ_ s11 hz=>?_
    obtain⟨_,H11,Rt,_,q11⟩:=hz;exact again Rt q11
 subst YN;exact codeAny_compStart_list (loop _) (T.self _ 0 _ _ _ GX (loop _))
def wQa(hc:X.calm=true)(hi:PI X tg iter wi)(hs:∀x,AJ iter X.env x=pure x)
  (cJ:scope.kind=.function) (ZI:∀y∈scope.names,y.2≠.cell) (ES:∀x∈scope.names,x.2=.local->scope.names.lookup x.1=some .local)
  (bJ:∀p∈scope.names,p.2=.free->X.env.kindOf p.1=some .cell\/X.env.kindOf p.1=some .free)
  (hg:∀X',aG X scope N' X'->PG X' tg g) (ht:∀X',aG X scope N' X'->FJ X' DA tt) (he:∀X',aG X scope N' X'->PE X' HA te) :
  PE X (.ListComp HA [⟨tg,iter,DA,0⟩] scope pos) (RQ X.N scope N' wi g tt te):=by
 intro aA s Y H Q I h;rw[eval_ListComp];refine yf (use:=none) (QF:=EP X aA Y Q) hc hi hs cJ ZI ES bJ hg ht he I h λD C H' s' I' q hC hz hL DD hp hm=>?_
 obtain⟨m,hm⟩:=hm;refine⟨m,hm,λh' sb=>⟨.ref D,H',I'.turned (t':=s'.toks) (λb o hb e=>(sb.2 b hb).trans e) hC hL (.inr (GY hz)) DD hp,rfl,q⟩⟩
def aTa(hsw:swapsWith (.ListComp HA [⟨tg,iter,DA,0⟩] scope pos) (some (.Name y py)) V9.line X.env=pure true)
  (hN:X.N.Nodup) (hy:X.N[i]?=some y) (hx:Loc X.env.scope y) (hf:X.fn y=true\/X.env.scope.names.lookup y=some .local) (hc:X.calm=true) (hi:PI X tg iter wi) (hs:∀x,AJ iter X.env x=pure x)
  (cJ:scope.kind=.function) (ZI:∀y∈scope.names,y.2≠.cell) (ES:∀x∈scope.names,x.2=.local->scope.names.lookup x.1=some .local)
  (bJ:∀p∈scope.names,p.2=.free->X.env.kindOf p.1=some .cell\/X.env.kindOf p.1=some .free)
  (hg:∀X',aG X scope N' X'->PG X' tg g) (ht:∀X',aG X scope N' X'->FJ X' DA tt) (he:∀X',aG X scope N' X'->PE X' HA te) :
  PS X (.Assign [.Name y py] (.ListComp HA [⟨tg,iter,DA,0⟩] scope pos) V9) (VX (RQ X.N scope N' wi g tt te) (ON i)):=by
 intro aA s Y H D0 I h;rw[exec_Assign_Name_used _ _ _ _ hsw];refine kA (dZ (kA ?_));show nA _ X.A (do let _ <- comprehension (.ListComp HA [⟨tg,iter,DA,0⟩] scope pos) scope X.env _ (newList []) false (eval iter X.env) (some (assign (.Name y py) X.env))) _ _ s;refine kA (OG (yf (use:=some (assign (.Name y py) X.env)) (QF:=λ_ s'=>SP X aA D0 .next s') hc hi hs cJ ZI ES bJ hg ht he I h λD C H' s' I' q hC hz hL DD hp hm=>?_) (λ_ s' hq=>SA (SA hq)) λ_ _ e=>e);obtain⟨m,hm⟩:=hm;refine Cr (Sn I' hN hy hx (v:=.ref D) rfl (λs2 I2 hz=>?_) hf);obtain⟨a,sb,ha⟩:=hz
 have xE:a≠C:=by
  rcases ha with rfl | ha
  ·exact hE hL
  ·exact DD _ _ ha
 refine⟨m,hm.sameBut sb (hE xE),λh' sb2=>⟨_,H',I2.turned (t':=s2.toks) (λb o hb e=>(sb2.2 b hb).trans e) hC hL (.inr (GY hz)) DD hp,q⟩⟩
end
end L2
namespace CI
open PySem PySem.Spec PyProof.Rows L2
section
variable{X:Cx}{K:gA}{P:RA}{C:Calls}{Z:CC}
theorem NA.inner(xo:NA X K P C Z)(hk:X.env.scope.kind=.function)(nd:(aAx scope++aAs scope).Nodup)(b:aG X scope (Z.inner scope).N X'):NA X' K P C (Z.inner scope):=by
 obtain⟨cl,C0,s₃,H₃,fp,xe,rfl⟩:=b;refine NA.of xo.ZC rfl ?_ nd xo.calm xo.hh xo.hu xo.c xo.BB (λx f h=>?_) (λx ns h=>?_) (λm tb c f h1 h2=>?_) xo.rm xo.sub xo.AI ⟨xo.exc,λx h=>?_⟩ xo.IA (λx f h=>?_) xo.tp
 ·show(relabel scope X.env).names=(Z.inner scope).names;unfold relabel CC.inner;simp only;congr 1
  funext p
  obtain⟨n,k⟩:=p;have e:X.env.kindOf n=Z.names.lookup n:=by unfold Lc;rw[xo.nm]
  simp only[hk,e];simp
 ·obtain⟨fa,fd,ps,k,h1,h2,h3,h4,h5⟩:=(xo.fn x f h).ex;exact⟨⟨fa,fd,ps,k,h1,h2,h3,h4,h5⟩⟩
 ·obtain⟨Ca,fa,fd,ps,h1,h2,h3,h4,h5,h6⟩:=(xo.cls x ns h).ex;exact⟨⟨Ca,fa,fd,ps,h1,h2,h3,h4,h5,h6⟩⟩
 ·obtain⟨Ca,fa,fd,ps,k,z1,z2,z3,z4,z5,z6⟩:=(xo.sF m tb c f h1 h2).ex;exact⟨⟨Ca,fa,fd,ps,k,z1,z2,z3,z4,z5,z6⟩⟩
 ·exact⟨trivial⟩
 ·obtain⟨fa,fd,ps,k,h1,h2,h3,h4,h5⟩:=(xo.fnX x f h).ex;exact⟨⟨fa,fd,ps,k,h1,h2,h3,h4,h5⟩⟩
def EL(K:gA)(P:RA)(C:Calls)(cs:List E):TT:=λY H Q=>∃(U:Env) (G:Hp) (b:Bool) (U':Env),BA K U Y H G/\cD P C cs U=some (.ok (.sh (.bl b)),U') /\
 ∀H' G',AA K U Y H G U' H' G'->Q b H'
def gm:FJ X [] (EL K P C []):=λaA s Y H Q I hz=>by
 obtain⟨U,G,b,U',r,e,k⟩:=hz;rw[cD] at e;cases e;exact eUa aA s Y H Q I (k H G (AA.refl r))
def jm(h:JA X K P C c cc):FJ X [c] (EL K P C [cc]):=λaA s Y H Q I hz=>by
 obtain⟨U,G,b,U',r,e,k⟩:=hz;refine fUa h.t aA s Y H Q I ?_;rw[cD] at e;obtain⟨v,U1,e1,e2⟩:=vB e;split at e2
 ·rw[cD] at e2;cases e2;exact⟨U,G,true,_,r,e1,k⟩
 ·cases e2;exact⟨U,G,false,_,r,e1,k⟩
 ·cases e2
theorem TB.LQ(b:TB K U Y H G U' Y' H' G')(h:H a=none)(g:G' a=none)(n:¬yA U' Y' a):TB K U Y H G U' Y' (CA H' a o) G':=by
 refine⟨b.oA.LQ g n,⟨b.ext.gg,λc u e nc=>?_,λc e=>?_,b.ext.gn⟩,b.own,b.un,b.pin,b.len⟩
 ·have:c≠a:=λz=>by subst z;rw[h] at e;cases e
  rw[rB this];exact b.ext.hh c u e nc
 ·by_cases hc:c=a
  ·subst hc;rw[VC] at e;cases e
  ·rw[rB hc] at e;exact b.ext.hx c e
theorem Q1{bind:D->Env->Option Env}:∀{ds rA GD:List D} {U U':Env},dG tests HA bind ds rA U=some (.ok GD,U')->rA.length<=GD.length
 |[],rA,GD,U,U',e=>by simp only[dG,aC,aE,Out.ok.injEq] at e;rw[e.1];exact mB _
 |d::ds,rA,GD,U,U',e=>by
  simp only[dG] at e;split at e
  ·cases e
  ·obtain⟨c,U2,e1,e2⟩:=vB e;split at e2
   ·obtain⟨v,U3,e3,e4⟩:=vB e2
    have:=Q1 e4
    simp at this
    lia
   ·exact Q1 e2
   ·cases e2
theorem mn:∀(imp:List Nat) (U:Env) (as:List Sl) (U1:Env),BA K U Y H G->aAi (imp.map λ_=>true) (imp.map Hd.slot) U=some (as,U1) ->
  ∃xs,dE K H G own new Y (imp.map Hd.slot) xs/\xs.length=imp.length/\(∀a,¬AG (imp.map Hd.slot) xs a)/\∀(j:Nat) v,xs[j]?=some v->∃i:Nat,imp[j]?=some i/\Y[i]?=some (some v)
 |[],U,as,U1,r,e=>⟨[],rfl,rfl,λa z=>z,λj v h=>by simp at h⟩
 |i::imp,U,as,U1,r,e=>by
  have go:∀(U2:Env) (n0:List Sl) (U3:Env),BA K U2 Y H G->aAi (imp.map λ_=>true) (imp.map Hd.slot) U2=some (n0,U3)->(∃v,Y[i]?=some (some v)) ->
    ∃xs,dE K H G own new Y ((i::imp).map Hd.slot) xs/\xs.length=(i::imp).length/\(∀a,¬AG ((i::imp).map Hd.slot) xs a)/\∀(j:Nat) v,xs[j]?=some v->∃i':Nat,(i::imp)[j]?=some i'/\Y[i']?=some (some v):=by
   intro U2 n0 U3 r2 e2 ⟨v,hv⟩;obtain⟨xs,h1,h2,h3,h4⟩:=mn imp U2 n0 U3 r2 e2;refine⟨v::xs,⟨v,xs,rfl,hv,h1,λd a z=>(nomatch z)⟩,by simp[h2],λa z=>h3 a z,λj w hw=>?_⟩
   cases j with
   |zero=>simp only[EI,aC] at hw;subst hw;exact⟨i,rfl,hv⟩
   |succ j=>exact h4 j w (by simpa using hw)
  rw[KC,KC,LW] at e;split at e
  ·rename_i d hi
   cases q:aAi (imp.map λ_=>true) (imp.map Hd.slot) U with
   |none=>rw[q] at e;cases e
   |some y=>exact go U y.1 y.2 r q (r.bound (by rw[hi];rfl))
  ·rename_i d p l hi
   cases q:aAi (imp.map λ_=>true) (imp.map Hd.slot) (U.set i .un) with
   |none=>rw[q] at e;cases e
   |some y=>exact go _ y.1 y.2 (r.unset i) q (r.bound (by rw[hi];rfl))
  ·cases e
def gUa(ho:∀i,o=some i->∃d p l,U1[i]?=some (.ow d p l))(e:aAr o U1 U2=some U')(h:rE (aAg o U1) U2):rE U1 U':=by
 cases o with
 |none=>simp only[aAr,aC] at e;subst e;exact h
 |some i =>
  obtain⟨d,p,l,hi⟩:=ho i rfl;simp only[aAr] at e;split at e
  ·rename_i sl hf hs;rw[hi] at hs;cases hs;cases e;intro j;by_cases hj:j=i
   ·subst hj;rw[hi,DK (RD.mp hf).1];exact GF.refl _
   ·have:=h j
    rw[iF (λz=>hj z.symm)]
    have e2:(aAg (some i) U1)[j]?=U1[j]?:=by(show(U1.set i .un)[j]?=_;rw[iF (λz=>hj z.symm)])
    rw[e2] at this;exact this
  ·cases e
theorem Qh{Z:CC}:∀{xs:List bA} {imp:List Nat},Z.YJ xs=some imp->imp.length=xs.length/\∀(j:Nat) x i,xs[j]?=some x->imp[j]?=some i->Z.N[i]?=some x
 |[],imp,h=>by simp only[CC.YJ,aC] at h;subst h;exact⟨rfl,λj x i z=>by simp at z⟩
 |x::xs,imp,h=>by
  simp only[CC.YJ] at h
  cases q:Z.N.idxOf? x with
  |none=>rw[q] at h;cases h
  |some i =>
   rw[q] at h;simp only[uH] at h
   cases q2:Z.YJ xs with
   |none=>rw[q2] at h;cases h
   |some r =>
    rw[q2] at h;simp only[EE,aC] at h;subst h;obtain⟨h1,h2⟩:=Qh q2;refine⟨by simp[h1],λj y k hy hk=>?_⟩
    cases j with
    |zero =>
     simp only[EI,aC] at hy hk;subst hy hk;exact xW q
    |succ j=>exact h2 j y k (by simpa using hy) (by simpa using hk)
structure sP(Z:CC)(scope:BF):Prop where
 kind:scope.kind=.function
 cell:∀y∈scope.names,y.2≠.cell
 names:∀x∈scope.names,x.2=.local->scope.names.lookup x.1=some .local
 free:∀x∈scope.names,x.2=.free->scope.names.lookup x.1=some .free
 out:∀p∈scope.names,p.2=.free->Z.names.lookup p.1=some .cell\/Z.names.lookup p.1=some .free
 nd:(aAx scope++aAs scope).Nodup
def zWa(h:Z.N9 scope=true):sP Z scope:=by
 unfold CC.N9 at h;simp only[WA,YF,OO,vJ,bne_iff_ne,KL,ne_eq] at h;obtain⟨⟨⟨⟨h1,h2⟩,h3⟩,h4⟩,h5⟩:=h;refine⟨h1,h2,λx hx hl=>?_,λx hx hf=>?_,λx hx hf=>?_,h5⟩
 ·rcases h3 x hx with z | z
  ·exact absurd hl z
  ·exact z
 ·rcases h4 x hx with z | z
  ·exact absurd hf z
  ·exact z.1
 ·rcases h4 x hx with z | z
  ·exact absurd hf z
  ·exact z.2
def J'(sc:sP Z scope)(h:x∈aAx scope):scope.names.lookup x=some .free:=by
 unfold aAx at h;obtain⟨p,hp,rfl⟩:=EF.mp h;obtain⟨h1,h2⟩:=JL.mp hp;exact sc.free p h1 (EC h2)
def yj(Y:St)(H:Hp)(R:It->Hp->Prop)(q:JI K P C .key [c] Y H R):Lh (tH K P C c) Y H R:=by
 obtain⟨U,G,hs,U1,ds,o,r,e,ei,k⟩:=q;simp only[bD] at e;obtain⟨h,U2,e1,e2⟩:=vB e;simp only[xA.bind,aC,aE,Out.ok.injEq] at e2;obtain⟨rfl,rfl⟩:=e2;refine⟨U,G,h,_,r,e1,λv H1 G1 a1 hv=>?_⟩;obtain _ | w:=h
 ·cases ei
 ·change r8 w=_ at ei;unfold r8 at ei;split at ei
  ·cases ei;replace hv:jA K G1 _ v:=hv;simp only[jA] at hv;obtain⟨a,xs,vs,rfl,⟨ep,h1⟩,h2,h3⟩:=hv;exact⟨a,xs,ep,rfl,h2.2.2.1,a1.oA.sub _ _ h1,k H1 G1 a1 (λi z=>nomatch z) _ (q1a (by rw[h2.2.2.2.2.1]) h1 h2.2.2.2.1)⟩
  ·cases ei
structure Ft(K:gA)(P:RA)(C:Calls)(cond:List E)(HA:Env->xA RV)(is:List Nat)(U0:Env)(Y0:St)(H1 G2:Hp)(ds rA:List D)(Ui:Env)(D:fA)(i:Nat)(Y':St)(H':Hp):Prop where
 le:i<=ds.length
 ex:∃Uc Gc ac ys,TB K U0 Y0 H1 G2 Uc Y' H' Gc/\H' D=some (.l ys)/\Gc D=none/\¬yA Uc Y' D/\iA K Gc ac ys/\dG (cD P C cond) HA (oB (is.length==1) is) (ds.drop i) ac Uc=some (.ok rA,Ui)
def ly(xo:NA X K P C Z){scope:BF}{ce:E}{k0:UD}{dA cond:List E}{imp is:List Nat}{wi:TI}{HA:Env->xA RV}(dW:∀U v U',HA U=some (.ok v,U')->ev P C false ce U=some (.ok v,U'))(sc:sP Z scope)(himp:Z.YJ (aAx scope)=some imp)
  (hw:∀Y H (R:It->Hp->Prop),nP K P C k0 dA Y H R->wi Y H R)
  {Y:St} {H:Hp} {Q:VK} (h:∃(U:Env) (G:Hp) (v:RV) (U':Env),BA K U Y H G/\ag P C HA is k0 dA cond imp (aAs scope).length U=some (.ok v,U')/\∀x H' G',AA K U Y H G U' H' G'->NC K H' G' (yA U' Y) (uE H) v x->Q x H'):RQ X.N scope (Z.inner scope).N wi (gB K (is.length==1) is) (EL K P C cond) (tE K P C ce) Y H Q:=by
 obtain⟨U,G,v,U',r,e,k⟩:=h;unfold ag at e;obtain⟨J6,U1,e1,e2⟩:=vB e
 have body:∀ds o,(ND (imp.map λ_=>true) (IH (cD P C cond) HA (oB (is.length==1) is) ds (aAs scope).length) (imp.map Hd.slot) (aAg o U1)).bind (aAt o U1)=some (.ok v,U')->∀H1 G1,AA K U Y H G U1 H1 G1->(∀i,o=some i->∃d p l,U1[i]?=some (.ow d p l))->∀J,eM K (aAg o U1) Y H1 G1 ds J->Ra X.N scope (Z.inner scope).N (gB K (is.length==1) is) (EL K P C cond) (tE K P C ce) Y Q J H1:=by
  intro ds o e2 H1 G1 a1 ho;obtain⟨v',U2,e3,e4⟩:=vB e2;unfold aAt at e4
  cases q3:aAr o U1 U2 with
  |none=>rw[q3] at e4;cases e4
  |some U3 =>
   rw[q3] at e4;simp only[EE,aC,aE,Out.ok.injEq] at e4;obtain⟨rfl,rfl⟩:=e4;have R0:=(WX (o:=o) a1.oA).1
   have iW:∃as U4,aAi (imp.map λ_=>true) (imp.map Hd.slot) (aAg o U1)=some (as,U4):=by
    unfold ND at e3
    cases q4:aAi (imp.map λ_=>true) (imp.map Hd.slot) (aAg o U1) with
    |none=>rw[q4] at e3;cases e3
    |some y=>exact⟨y.1,y.2,rfl⟩
   obtain⟨jM,U4,iW⟩:=iW;obtain⟨xs,vM,RH,Hh,Ih⟩:=mn (own:=yA (aAg o U1) Y) (new:=uE H1) imp _ _ _ R0 iW;obtain⟨as,G2,QA,ra,gL,ef,⟨IF,ue⟩,kk⟩:=xV (AA.refl R0) vM e3;unfold IH at ef;split at ef
   ·rename_i hp;obtain⟨rA,Ui,e5,e6⟩:=vB ef;split at e6
    ·rename_i hz;simp only[aC,aE,Out.ok.injEq] at e6;obtain⟨rfl,rfl⟩:=e6;obtain⟨il,ig⟩:=Qh himp
     have SV:(Z.inner scope).N.length=as.length+(aAs scope).length:=by(show(aAx scope++aAs scope).length=_;rw[oC,gL,EA,il])
     obtain⟨rp,op⟩:=ra.pad SV;have qB:=NM hz
     -- AE d4a turns
     have turns:∀(J:It),Od K (as++LB (aAs scope).length .un) (aAm (Z.inner scope).N xs) H1 G2 ds J->Ra X.N scope (Z.inner scope).N (gB K (is.length==1) is) (EL K P C cond) (tE K P C ce) Y Q J H1:=by
      intro J hJ;refine Exists.intro xs ⟨by rw[SV,RH,gL,EA];lia,λi x v hN hv=>?_,λD hD=>?_⟩
      ·obtain⟨j,hj,hY⟩:=Ih i v hv
       have AD:i<(aAx scope).length:=by(rw[<- il];exact(RD.mp hj).1)
       have Yg:(aAx scope)[i]?=some x:=by
        have:(aAx scope++aAs scope)[i]?=some x:=hN
        rwa[YQ AD] at this
       exact⟨j,by rw[xo.vI];exact ig i x j Yg hj,hY,J' sc (YH Yg)⟩
      ·have fin:∀Y' H' Gc ys,TB K (as++LB (aAs scope).length .un) (aAm (Z.inner scope).N xs) H1 G2 Ui Y' H' Gc->H' D=some (.l ys)->Gc D=none->¬yA Ui Y' D->iA K Gc rA ys->Q (.ref D) H':=by
        intro Y' H' Gc ys a WI PN mQ hr;obtain⟨b1,b2⟩:=cV ra hp SV a;obtain⟨c1,c2⟩:=kk (.ref D) H' Gc b1 ⟨D,rfl,PN,⟨ys,WI,hr⟩,λz=>mQ (b2 D z),hD⟩;obtain⟨d1,d2⟩:=FT a1.oA ho q3 (AA.s R0 c1);have a2:AA K U1 Y H1 G1 U3 H' Gc:=⟨d1.oA,d1.ext,gUa ho q3 c1.KJ⟩
        obtain⟨D',e',g',o',n',f'⟩:=c2;cases e';refine k _ _ _ (a1.trans a2) ⟨D,rfl,g',o',λz=>?_,a1.fresh hD⟩;rcases d2 D z with z | ⟨z,_⟩
        ·exact n' z
        ·exact(a1.oA.owned z).1 hD
       clear kk k q3 R0 ho a1 hp SV ra gL IF ue vM RH Hh Ih iW e3 e1 r himp il ig op;refine⟨ds.length,Ft K P C cond HA is (as++LB (aAs scope).length .un) (aAm (Z.inner scope).N xs) H1 G2 ds rA Ui D, ?_, ?_⟩
       ·have g2:G2 D=none:=by
         cases z:G2 D with
         |none=>rfl
         |some u=>have:=rp.sub D u z;rw[hD] at this;cases this
        exact⟨tJ _,_,G2,[],[],AA.s rp ((AA.refl rp).iJ hD),VC,g2,rp.eX hD,iA.nil,e5⟩
       ·rintro i Y' H' ⟨hil,Uc,Gc,ac,ys,a,WI,PN,mQ,hr,ec⟩
        obtain⟨j1,j2,j3⟩:=hJ i H' Uc Y' Gc a;by_cases AD:i<ds.length
        ·refine .inr ⟨AD,j2 AD,λx H2 hy=>?_⟩;have hd:ds[i]?=some ds[i]:=gD AD;obtain⟨Gd,XU,E6⟩:=j3 _ x H2 hd hy;have PN:=XU.ext.gn D (by rw[WI];simp) PN mQ;have WI:=XU.ext.hh D _ WI mQ;have hr:=iA.mono XU.ext.gg _ hr;have a:=a.trans (AA.s a.oA XU);rw[lP AD] at ec;simp only[dG] at ec;split at ec
         ·cases ec
         ·rename_i Ub hb;obtain⟨c,Ut,et,ec⟩:=vB ec;refine⟨Uc,Gd,ds[i],Ub,a.oA,E6,hb,λY1 ab=>?_⟩;have yN:=a.trans ab
          have nb:¬yA Ub Y1 D:=λz=>by
           rcases ab.own D z with z | z
           ·exact mQ z
           ·rw[WI] at z;cases z
          split at ec
          ·obtain⟨w,Ue,ee,ec⟩:=vB ec;refine⟨Ub,Gd,true,Ut,ab.oA,et,λH3 G3 EH=>?_⟩;have h3:H3 D=some (.l ys):=EH.ext.hh D _ WI nb;have g3:G3 D=none:=EH.ext.gn D (by rw[WI];simp) PN nb;have n3:¬yA Ut Y1 D:=λz=>nb (EH.own D z)
           dsimp only;rw[GA rfl];refine⟨Ut,G3,w,Ue,EH.oA,dW _ _ _ ee,λy H4 G4 a4 ry=>?_⟩;obtain⟨G5,a5,ry5⟩:=a4.share ry;have h4:H4 D=some (.l ys):=a5.ext.hh D _ h3 n3;have g5:G5 D=none:=a5.ext.gn D (by rw[h3];simp) g3 n3;have n5:¬yA Ue Y1 D:=λz=>n3 (a5.own D z)
           have AB:=Q1 ec;have hyl:=hr.len;rw[oC] at AB;simp only[QC,wH] at AB;have uv:=(yN.trans (AA.s ab.oA EH)).trans (AA.s EH.oA a5);refine⟨ys,h4,by lia,AD,Ue,G5,ac++[w.d],ys++[y],uv.LQ hD g5 n5,VC,g5,n5, ?_,ec⟩;exact(iA.mono a5.ext.gg _ (iA.mono EH.ext.gg _ hr)).app (iA.cons ry5 iA.nil)
          ·refine⟨Ub,Gd,false,Ut,ab.oA,et,λH3 G3 EH=>?_⟩;have h3:H3 D=some (.l ys):=EH.ext.hh D _ WI nb;have g3:G3 D=none:=EH.ext.gn D (by rw[WI];simp) PN nb;have n3:¬yA Ut Y1 D:=λz=>nb (EH.own D z)
           dsimp only;rw[LA (by decide)];exact⟨AD,Ut,G3,ac,ys,yN.trans (AA.s ab.oA EH),h3,g3,n3,iA.mono EH.ext.gg _ hr,ec⟩
          ·cases ec
        ·have fh:i=ds.length:=by lia
         refine .inl ⟨j1 fh, ?_⟩;subst fh;rw[Cs] at ec;simp only[dG,aC,aE,Out.ok.injEq] at ec;obtain⟨rfl,rfl⟩:=ec;exact fin _ _ _ _ a WI PN mQ hr
     have jMa:∀c,yA as (xs.map some) c->yA (aAg o U1) Y c:=λc z=>by
      rcases ue c z with z | z
      ·exact z
      ·exact absurd z (Hh c)
     exact λJ wj=>turns J (wj IF λc z=>jMa c (op c z))
    ·cases e6
   ·cases ef
 unfold RQ
 cases q:aAb k0 J6 U1 with
 |none =>
  rw[q] at e2;obtain⟨d0,rfl,rfl,h⟩:=qw e2;exact hw Y H _ (.inr ⟨U,G,d0,U1,rfl,r,e1,λds p H1 G1 a1=>body ds none (h ds p) H1 G1 a1 λ_ z=>nomatch z⟩)
 |some y =>
  obtain⟨ds,o⟩:=y;rw[q] at e2;exact hw Y H _ (.inl ⟨U,G,J6,U1,ds,o,r,e1,q,body ds o e2⟩)
def zf(xo:NA X K P C Z){dA cond:List E}(sc:sP Z scope)(himp:Z.YJ (aAx scope)=some imp)
  (hw:∀Y H (R:It->Hp->Prop),nP K P C k0 dA Y H R->wi Y H R) (h:tE K P C (.comp ce is k0 dA cond imp (aAs scope).length) Y H Q):RQ X.N scope (Z.inner scope).N wi (gB K (is.length==1) is) (EL K P C cond) (tE K P C ce) Y H Q:=by
 obtain⟨U,G,v,U',r,e,k⟩:=h;exact ly xo (HA:=ev P C false ce) (λ_ _ _ z=>z) sc himp hw ⟨U,G,v,U',r,e,λx H' G' a hv=>k x H' G' a hv⟩
def Sa(K:gA)(P:RA)(C:Calls)(c:E):TE:=λY H Q=>False
def oP(X:Cx)(K:gA)(P:RA)(C:Calls)(e:vA)(c:E):Prop:=∀(x:bA) (i:Nat) (p pos:MB),X.N.Nodup->X.N[i]?=some x->Loc X.env.scope x->(X.fn x=true\/X.env.scope.names.lookup x=some .local) ->
 PS X (.Assign [.Name x p] e pos) (VX (tE K P C c) (ON i))
def JQ:oP X K P C e .pA:=λx i p pos _ _ _ _ aA s Y H D I h=>by
 obtain⟨U,G,v,U',r,e,k⟩:=h;cases e
def xNa(xo:NA X K P C Z){dA cond:List E}(sc:sP Z scope)(himp:Z.YJ (aAx scope)=some imp)(htg:tG (Z.inner scope) tg=some (is.length==1,is))
  (hi:PI X tg iter wi) (hs:∀x,AJ iter X.env x=pure x)
  (hw:∀Y H (R:It->Hp->Prop),nP K P C k0 dA Y H R->wi Y H R)
  (he:∀X',NA X' K P C (Z.inner scope)->JA X' K P C HA ce) (ht:∀X',NA X' K P C (Z.inner scope)->FJ X' DA (EL K P C cond)) :
  JA X K P C (.ListComp HA [⟨tg,iter,DA,0⟩] scope pos) (.comp ce is k0 dA cond imp (aAs scope).length)/\oP X K P C (.ListComp HA [⟨tg,iter,DA,0⟩] scope pos) (.comp ce is k0 dA cond imp (aAs scope).length)/\PE X (.ListComp HA [⟨tg,iter,DA,0⟩] scope pos) (Sa K P C (.comp ce is k0 dA cond imp (aAs scope).length)):=by
 have all:X.env.scope.kind=.function->(∀X',aG X scope (Z.inner scope).N X'->PG X' tg (gB K (is.length==1) is))/\(∀X',aG X scope (Z.inner scope).N X'->FJ X' DA (EL K P C cond))/\∀X',aG X scope (Z.inner scope).N X'->PE X' HA (tE K P C ce):=by
  intro hk;have xi:∀X',aG X scope (Z.inner scope).N X'->NA X' K P C (Z.inner scope):=λX' b=>xo.inner hk sc.nd b
  have UB:∀X',aG X scope (Z.inner scope).N X'->∀x,(Z.inner scope).ZN x=true->X'.fn x=true\/X'.env.scope.names.lookup x=some .local:=λX' b x hx=>by
   rw[(xi X' b).nm];unfold CC.ZN at hx;rw[KL,WA] at hx;rcases hx with hx | hx
   ·exact .inr (EC hx)
   ·exact absurd hx.1 (by simp[CC.inner])
  exact⟨λX' b=>jb (xi X' b) (UB X' b) htg,λX' b=>ht X' (xi X' b),λX' b=>(he X' (xi X' b)).v⟩
 have bJ:∀p∈scope.names,p.2=.free->X.env.kindOf p.1=some .cell\/X.env.kindOf p.1=some .free:=λp hp hf=>by unfold Lc;rw[xo.nm];exact sc.out p hp hf
 have Mg:PE X (.ListComp HA [⟨tg,iter,DA,0⟩] scope pos) (tE K P C (.comp ce is k0 dA cond imp (aAs scope).length)):=λaA s Y H Q I h=>by(obtain⟨h1,h2,h3⟩:=all I.ok.kind;exact wQa (N':=(Z.inner scope).N) xo.calm hi hs sc.kind sc.cell sc.names bJ h1 h2 h3 aA s Y H Q I (zf xo sc himp hw h))
 refine⟨aF xo Mg,λx i p V9 hN hx hl hf=>?_,λaA s Y H Q I h=>?_⟩
 case refine_2 =>
  obtain⟨h1,h2,h3⟩:=all I.ok.kind
  cases cond with
  |nil=>exact h.elim
  |cons _ _=>exact h.elim
 obtain⟨b,hb⟩:∃b:Bool,swapsWith (.ListComp HA [⟨tg,iter,DA,0⟩] scope pos) (some (.Name x p)) V9.line X.env=pure b:=⟨_,rfl⟩
 cases b with
 |false=>exact qX Mg (Il hN hx hl hf) hb
 |true =>
  intro aA s Y H D I h;obtain⟨h1,h2,h3⟩:=all I.ok.kind;exact aTa hb hN hx hl hf xo.calm hi hs sc.kind sc.cell sc.names bJ h1 h2 h3 aA s Y H D I (zf xo sc himp hw h)
end
structure MU(X:Cx)(K:gA)(P:RA)(C:Calls)(e:vA)(cs:List E):Prop where
 h:∀(f:bA) (p:MB) (args:List vA) (kw:List _) (pos:MB),e=.Call (.Name f p) args kw pos->args.all aAd=true->PA X args (oH K P C cs)/\cs.length=args.length
theorem J1:∀(es:List vA),(pB Z es).length=es.length
 |[]=>by rw[pB];rfl
 |e::es=>by rw[pB,QC,QC,J1 es]
section
variable{K:gA}
def Za(h:tG Z tg=some (one,is))(n:one=false):∃elts k p,tg=.Tuple elts k p:=by
 cases tg<;>simp only[tG,reduceCtorEq] at h
 ·rename_i x pos
  cases q:Z.fF x with
  |none=>rw[q] at h;cases h
  |some i=>rw[q] at h;cases h;cases n
 ·exact⟨_,_,_,rfl⟩
def nIa(xo:NA X K P C Z)(h:v8 Z e=some i):GQ e=true/\JA X K P C e (.ID i):=by
 unfold v8 at h;split at h
 ·split at h
  ·exact⟨rfl,U8 xo h _⟩
  ·cases h
 ·cases h
def aAR(xo:NA X K P C Z){CG cond:List E}(aW:JA X K P C iter ci)(YV:MU X K P C iter CG){Φ:E->Prop}(pA:Φ .pA)
  (good:∀{k0:UD} {dA:List E} {imp is:List Nat} {wi:TI},sP Z scope->Z.YJ (aAx scope)=some imp->tG (Z.inner scope) tg=some (is.length==1,is)->PI X tg iter wi->(∀x,AJ iter X.env x=pure x) ->
   (∀Y H (R:It->Hp->Prop),nP K P C k0 dA Y H R->wi Y H R)->Φ (.comp ce is k0 dA cond imp (aAs scope).length)) :
  Φ (HH Z scope tg iter ci CG cond ce):=by
 unfold HH;split
 ·rename_i hsc;have sc:=zWa hsc;split
  ·rename_i imp one is k0 J7 q1 q2 q3;split
   ·rename_i hsg;exact(SD hsg).elim
   split
   ·rename_i i hk;split
    ·rename_i VJ;have VJ:=EC VJ;subst VJ;obtain⟨hn,h3⟩:=nIa xo hk;exact good sc q1 q2 (Kl h3.h) (LV hn _) (nb (λz=>nomatch z) λY H R q=>yj Y H R q)
    ·exact pA
   split
   ·rename_i VJ;rw[WA,WA] at VJ;obtain⟨⟨VJ,RJ⟩,nI⟩:=VJ;have VJ:=EC VJ;subst VJ
    have gen:∀e:vA,iter=e->GQ e=true->some (UD.of,[e])=some (k0,J7)->Φ (.comp ce is k0 (ki k0 ci CG) cond imp (aAs scope).length):=λe cW hn hq=>by(subst cW;cases hq;exact good sc q1 q2 (PI.or (n9 aW.h) (o9 aW.h)) (LV hn _) (λY H R q=>wMa xo.ZC Y H R q))
    unfold ZJ at q3;split at q3
    ·rename_i x hx;obtain⟨⟨f,p⟩,args,pos'⟩:=x;obtain rfl:=E7 hx;dsimp only at q3;split at q3
     ·rename_i hf;have hf:=EC hf;subst hf;split at q3
      ·rename_i kL;split at q3
       ·rename_i hc;cases q3;rw[WA] at hc;obtain⟨h1,h2,h3,h4⟩:=CC.MH xo kL (λz=>nomatch z);have hm:=xo.BB _ h2;obtain⟨WJ,DD⟩:=YV.h _ _ _ _ _ rfl hc.1;obtain _ | ⟨a,_ | ⟨b,_ | ⟨_,_⟩⟩⟩:=J7
        ·simp at hc
        ·obtain _ | ⟨c1,_ | ⟨_,_⟩⟩:=CG
         ·simp at DD
         ·have ns:=hc.1;rw[WC,WA] at ns;exact good sc q1 q2 (Ll h1 hm WJ (by rw[lD ns.1];rfl)) (λ_=>rfl) (nb (λz=>nomatch z) λY H R q=>Nm Y H R q)
         ·simp at DD
        ·obtain _ | ⟨c1,_ | ⟨c2,_ | ⟨_,_⟩⟩⟩:=CG
         ·simp at DD
         ·simp at DD
         ·have ns:=hc.1;rw[WC,WA,WC,WA] at ns;exact good sc q1 q2 (Ml h1 hm WJ (by rw[lD ns.1,lD ns.2.1];rfl) (by rw[lD ns.2.1];rfl)) (λ_=>rfl) (nb (λz=>nomatch z) λY H R q=>Om Y H R q)
         ·simp at DD
        ·simp at hc
       ·cases q3
      ·cases q3
     ·split at q3
      ·rename_i hf;have hf:=EC hf;subst hf;split at q3
       ·rename_i kL;split at q3
        ·rename_i hc;cases q3;rw[WA] at hc;obtain⟨h1,h2,h3,h4⟩:=CC.MH xo kL (λz=>nomatch z);have hm:=xo.BB _ h2;obtain⟨WJ,DD⟩:=YV.h _ _ _ _ _ rfl hc.1;obtain _ | ⟨a,_ | ⟨_,_⟩⟩:=J7
         ·simp at hc
         ·obtain _ | ⟨c1,_ | ⟨_,_⟩⟩:=CG
          ·simp at DD
          ·have ns:=hc.1;rw[WC,WA] at ns;obtain⟨elts,kk,tp,rfl⟩:=Za q2 (by simpa[mK] using RJ);exact good sc q1 q2 (Jl h1 hm WJ (by rw[lD ns.1];rfl)) (λ_=>rfl) (nb (λz=>nomatch z) λY H R q=>W2 xo.ZC Y H R q)
          ·simp at DD
         ·simp at hc
        ·cases q3
       ·cases q3
      ·exact gen _ rfl rfl q3
    ·split at q3
     ·rename_i hx;split at q3
      ·split at q3
       ·cases q3;exact absurd nI (by decide)
       ·cases q3
      ·cases q3
     ·split at q3
      ·exact gen _ rfl ‹_› q3
      ·cases q3
   ·exact pA
  ·exact pA
 ·exact pA
def uV(xo:NA X K P C Z){CG cond:List E}(aW:JA X K P C iter ci)(YV:MU X K P C iter CG)
  (he:∀X',NA X' K P C (Z.inner scope)->JA X' K P C HA ce) (ht:∀X',NA X' K P C (Z.inner scope)->FJ X' DA (EL K P C cond)) :
  JA X K P C (.ListComp HA [⟨tg,iter,DA,0⟩] scope pos) (HH Z scope tg iter ci CG cond ce)/\oP X K P C (.ListComp HA [⟨tg,iter,DA,0⟩] scope pos) (HH Z scope tg iter ci CG cond ce)/\PE X (.ListComp HA [⟨tg,iter,DA,0⟩] scope pos) (Sa K P C (HH Z scope tg iter ci CG cond ce)) :=
 aAR xo aW YV (Φ:=λc=>JA X K P C (.ListComp HA [⟨tg,iter,DA,0⟩] scope pos) c/\oP X K P C (.ListComp HA [⟨tg,iter,DA,0⟩] scope pos) c/\PE X (.ListComp HA [⟨tg,iter,DA,0⟩] scope pos) (Sa K P C c)) ⟨xB,JQ,λaA s Y H Q I h=>h.elim⟩ λsc q1 q2 hi hs hw=>xNa xo sc q1 q2 hi hs hw he ht
end
def fv(i:vA):Prop:=∃k p1 p2 p3,i=.Slice none none (some (.UnaryOp .USub (.Constant (.int 1) k p1) p2)) p3
def aFa(h:A7 i=true):fv i:=by
 cases i with
 |Slice lo hi st q =>
  obtain _ | _:=lo
  ·obtain _ | _:=hi
   ·obtain _ | st:=st
    ·exact HC h
    ·cases st with
     |UnaryOp op a p =>
      cases op with
      |USub =>
       induction a using WG with
       |Constant c k p1 =>
        cases c with
        |int n =>
         have h:=EC (show(n==1)=true from h);subst h;exact Exists.intro _ ⟨_,_,_,rfl⟩
        |_=>exact HC h
       |_=>exact HC h
      |_=>exact HC h
     |_=>exact HC h
   ·exact HC h
  ·exact HC h
 |_=>exact HC h
def oi(Z:CC)(a i:vA)(p:MB):(∃lo hi q,i=.Slice lo hi none q)\/((∀lo hi q,i≠.Slice lo hi none q)/\cE Z (.Subscript a i p)=if A7 i then .pA else .ix (cE Z a) (cE Z i)):=by
 cases i with
 |Slice lo hi st q =>
  induction st using VG with
  |none=>exact .inl ⟨_,_,_,rfl⟩
  |some _=>exact .inr ⟨λ_ _ _ z=>(by cases z),rfl⟩
 |_=>exact .inr ⟨λ_ _ _ z=>Expr.noConfusion z,rfl⟩
def aM(K:gA)(P:RA)(C:Calls)(n:Nat):Prop:=∀(X:Cx) (Z:CC),NA X K P C Z->∀e:vA,sizeOf e<n->JA X K P C e (cE Z e)
def J8(h:a<b)(k:b<n+1):a<n:=jF h (Sr k)
def CB{a b n:Nat}(k:b<n+1)(h:a<b:=by simp;lia):a<n:=J8 h k
section
variable{K:gA}
def yO{r:List vA}(h:sizeOf (e::r)<n):sizeOf e<n:=lN (by simp;lia) h
def eU{r:List vA}(h:sizeOf (e::r)<n):sizeOf r<n:=lN (by simp;lia) h
theorem iS(ih:aM K P C n)(xo:NA X K P C Z):∀es:List vA,sizeOf es<n->es.all aAd=true->PA X es (DL K P C (pB Z es))
 |[],_,_=>d9
 |e::r,hs,h=>by(rw[WC,WA] at h;exact ml (ih _ _ xo e (yO hs)) (iS ih xo r (eU hs) h.2) h.1)
theorem nM(ih:aM K P C n)(xo:NA X K P C Z):∀es:List vA,sizeOf es<n->es.all aAd=true->PA X es (oH K P C (pB Z es))
 |[],_,_=>mQa
 |e::r,hs,h=>by(rw[WC,WA] at h;exact lQa (ih _ _ xo e (yO hs)) (nM ih xo r (eU hs) h.2) h.1)
theorem se(ih:aM K P C n)(xo:NA X K P C Z):∀vs:List vA,sizeOf vs<n->vs≠[]->EJ X K P C .And vs (D1 Z vs)
 |[],_,h=>absurd rfl h
 |[a],hs,_=>zMa (ih _ _ xo a (yO hs))
 |a::b::r,hs,_=>Hk (ih _ _ xo a (yO hs)) (se ih xo (b::r) (eU hs) (λz=>nomatch z))
theorem Yk(ih:aM K P C n)(xo:NA X K P C Z):∀vs:List vA,sizeOf vs<n->vs≠[]->EJ X K P C .Or vs (K1 Z vs)
 |[],_,h=>absurd rfl h
 |[a],hs,_=>aNa (ih _ _ xo a (yO hs))
 |a::b::r,hs,_=>Ik (ih _ _ xo a (yO hs)) (Yk ih xo (b::r) (eU hs) (λz=>nomatch z))
theorem Gk(ih:aM K P C n)(xo:NA X K P C Z):∀o:Option vA,sizeOf o<n->PO X o (tO K P C (cO Z o))
 |none,_=>gSa
 |some e,hs=>iSa (ih _ _ xo e (lN (by simp) hs))
def ZZ(ih:aM K P C n)(xo:NA X K P C Z)(e:vA)(hs:sizeOf e<n):MU X K P C e (lM Z e):=by
 cases e<;>first
  | (rename_i f args kw pos;exact⟨λf' p' Iv kw' pos' z ns=>by cases z;exact⟨nM ih xo args (lN (by simp;lia) hs) ns,J1 args⟩⟩)
  |exact⟨λf' p' Iv kw' pos' z ns=>by cases z⟩
end
def mOa{K:gA}(h:JA X K P C e c):JA X K P C e (pT c):=by
 unfold pT;split
 ·exact xB
 ·exact h
def qx{K:gA}(ih:aM K P C n)(xo:NA X K P C Z)(e:vA)(qB:sizeOf e<n+1):JA X K P C e (cE Z e):=by
 induction e using WG with
 |Name x p =>
  exact Qk xo _ _
 |Constant c k p =>
  exact Nk xo _ _ _
 |Tuple es k p =>
  show JA X K P C _ (if es.all aAd then .t (pB Z es) else .pA);split
  ·exact Rk xo (iS ih xo _ (CB qB) ‹_›)
  ·exact xB
 |List es p =>
  show JA X K P C _ (if es.all aAd then .l (pB Z es) else .pA);split
  ·exact Pk xo (iS ih xo _ (CB qB) ‹_›)
  ·exact xB
 |Dict ks vs p =>
  refine cOa xo (λv hv=>ih _ _ xo v (J8 (by have:=List.sizeOf_lt_of_mem hv;simp;lia) qB)) ?_;show JA X K P C _ (gS _ _ _ _);unfold gS;split
  ·exact zNa xo
  refine bOa xo (λk c h1 h2=>?_) λv c h1 h2=>?_
  ·subst h1;cases h2;exact mOa (ih _ _ xo k (CB qB))
  ·subst h1;cases h2;exact ih _ _ xo v (CB qB)
 |BinOp a op b p =>
  exact tNa xo (ih _ _ xo _ (CB qB)) (ih _ _ xo _ (CB qB))
 |UnaryOp op a p =>
  cases op with
  |Not =>
   exact nOa xo (ih _ _ xo _ (CB qB))
  |USub =>
   exact lOa xo (ih _ _ xo _ (CB qB))
  |_=>exact xB
 |Compare a ops cs p =>
  obtain _ | ⟨op,_ | ⟨mC,_ | ⟨_,_⟩⟩⟩:=ops
  ·exact xB
  ·obtain _ | ⟨b,_ | ⟨_,_⟩⟩:=cs
   ·exact xB
   ·show JA X K P C _ (if rK op b then .pA else .FA op (cE Z a) (cE Z b));split
    ·exact xB
    ·exact vNa xo (ih _ _ xo _ (CB qB)) (ih _ _ xo _ (CB qB)) (by rename_i h;simpa using h)
   ·exact xB
  ·obtain _ | ⟨b,_ | ⟨c,_ | ⟨_,_⟩⟩⟩:=cs
   ·exact xB
   ·exact xB
   ·show JA X K P C _ (if rK mC c then .pA else .GH op mC (cE Z a) (cE Z b) (cE Z c));split
    ·exact xB
    ·exact wNa xo (ih _ _ xo _ (CB qB)) (ih _ _ xo _ (CB qB)) (ih _ _ xo _ (CB qB)) (by rename_i h;simpa using h)
   ·exact xB
  ·exact xB
 |BoolOp op vs p =>
  obtain _ | ⟨a,_ | ⟨b,r⟩⟩:=vs
  ·cases op<;>exact xB
  ·cases op<;>exact xB
  ·cases op with
   |And =>
    exact(Hk (ih _ _ xo _ (CB qB)) (se ih xo _ (CB qB) (by simp))).Jk λi z=>nomatch z
   |Or =>
    exact(Ik (ih _ _ xo _ (CB qB)) (Yk ih xo _ (CB qB) (by simp))).Jk λi z=>nomatch z
 |IfExp c a b p =>
  exact fOa (ih _ _ xo _ (CB qB)) (ih _ _ xo _ (CB qB)) (ih _ _ xo _ (CB qB))
 |Subscript a i p =>
  rcases oi Z a i p with ⟨lo,hi,q,rfl⟩ | ⟨hn,e⟩
  ·exact rOa xo (ih _ _ xo _ (CB qB)) (Gk ih xo _ (CB qB)) (Gk ih xo _ (CB qB))
  ·rw[e];split
   ·rename_i hr;obtain⟨k,p1,p2,p3,rfl⟩:=aFa hr;exact xB
   ·exact gOa xo (ih _ _ xo _ (CB qB)) (ih _ _ xo _ (CB qB)) (eSa hn)
 |Call fn args kw pos =>
  induction fn using WG with
  |Name f p =>
   induction kw using XB with
   |nil =>
    show JA X K P C _ (if args.all aAd&&decide (args≠[]) then(match Z.glob f with | .fn g=>.call g (pB Z args) | .cls ns=>.make f ns (pB Z args) | .BB=>if f=("isinstance":bA) then aO Z args (pB Z args) else DN f args (pB Z args) | _=>.pA) else .pA);split
    ·rename_i hc;rw[WA] at hc;obtain⟨ns,ne⟩:=hc
     induction args using XB with
     |nil=>simp at ne
     |cons a r =>
      split
      ·rename_i g hg;exact uNa xo hg ns (nM ih xo _ (CB qB) ns)
      ·rename_i g hg;exact jOa xo hg ns (iS ih xo _ (CB qB) ns)
      ·rename_i hg;split
       ·rename_i hf;subst hf;unfold aO;split
        ·rename_i t a' _ e1 e2;split
         ·rename_i ty M6;simp only[pB,Nc] at e1 e2;obtain⟨rfl,rfl⟩:=e1;obtain⟨rfl,_⟩:=e2;rw[WC,WA] at ns;exact eOa xo hg M6 ns.1 (ih _ _ xo _ (CB qB))
         ·simp only[pB,Nc] at e1 e2;obtain⟨rfl,rfl⟩:=e1;obtain⟨rfl,_⟩:=e2;rw[WC,WA] at ns;exact xB
        ·exact xB
       ·unfold DN;split
        ·rename_i Z5;subst Z5;exact T8 xo hg (b:=.len) rfl ns (nM ih xo _ (CB qB) ns)
        ·split
         ·exact xB
         ·split
          ·exact xB
          ·split
           ·rename_i Z5;subst Z5;exact T8 xo hg (b:=.list) rfl ns (nM ih xo _ (CB qB) ns)
           ·split
            ·rename_i b hb;exact T8 xo hg hb ns (nM ih xo _ (CB qB) ns)
            ·exact xB
      ·exact xB
    ·exact xB
   |cons _ _=>exact xB
  |Attribute o m OB =>
   induction o using WG with
   |Name x p =>
    induction kw using XB with
    |nil =>
     have hD:JA X K P C (.Call (.Attribute (.Name x p) m OB) args [] pos) (L0 Z x m OB pos args (pB Z args)):=by
      induction args using XB with
      |nil =>
       show JA X K P C _ (OR Z x m OB pos);unfold OR;split
       ·rename_i hc;rw[WA] at hc;obtain⟨hl,hm⟩:=hc;have hm:=EC hm;subst hm;exact xB
       ·exact xB
      |cons a as =>
       induction as using XB with
       |nil =>
        show JA X K P C _ (PR Z x m OB pos a (cE Z a));unfold PR;split
        ·rename_i hc;rw[WA,WA] at hc;obtain⟨⟨ns,hl⟩,hm⟩:=hc;have hm:=EC hm;subst hm;split
         ·exact sNa xo ‹_› hl ns (ih _ _ xo _ (CB qB))
         ·exact xB
        ·split
         ·rename_i hc;rw[WA,WA] at hc;obtain⟨⟨ns,hl⟩,hm⟩:=hc;have hm:=EC hm;subst hm;exact xB
         ·split
          ·rename_i hc;rw[WA,WA] at hc;obtain⟨⟨ns,hl⟩,hm⟩:=hc;have hm:=EC hm;subst hm;split
           ·exact oOa xo ‹_› hl ns (ih _ _ xo _ (CB qB))
           ·exact xB
          ·exact xB
       |cons b as=>exact xB
     show JA X K P C _ (QR Z x m OB pos args (pB Z args));unfold QR;split
     ·rename_i tb hm;split
      ·rename_i hc;rw[WA,WA] at hc;obtain⟨⟨ns,hl⟩,hf⟩:=hc;split
       ·exact kOa xo ‹_› hm ns hl (kR hf) (nM ih xo _ (CB qB) ns) λz=>by rw[z,pB]
       ·exact xB
      ·exact xB
     ·exact hD
    |cons _ _=>exact xB
   |Call g as kw2 p2 =>
    induction as using XB with
    |nil=>exact xB
    |cons a0 jM =>
     induction kw using XB with
     |nil =>
      show JA X K P C _ (iT Z m OB pos args (cE Z (.Call g (a0::jM) kw2 p2)) (pB Z args));unfold iT;split
      ·rename_i tb hm;split
       ·rename_i hc;rw[WA,WA] at hc;exact xB
       ·exact xB
      ·exact xB
     |cons _ _=>exact xB
   |_=>exact xB
  |_=>exact xB
 |Attribute o f p =>
  induction o using WG with
  |Name x q =>
   exact dOa xo
  |_=>exact xB
 |ListComp HA gs scope pos =>
  obtain _ | ⟨⟨tg,iter,DA,m⟩,_ | ⟨_,_⟩⟩:=gs
  ·exact xB
  ·obtain _ | ⟨c,_ | ⟨_,_⟩⟩:=DA<;>obtain(_ | _) | _:=m
   ·exact(uV xo (ih _ _ xo _ (CB qB)) (ZZ ih xo _ (CB qB)) (λX' WH=>ih _ _ WH _ (CB qB)) (λX' WH=>gm)).1
   ·exact xB
   ·exact xB
   ·exact(uV xo (ih _ _ xo _ (CB qB)) (ZZ ih xo _ (CB qB)) (λX' WH=>ih _ _ WH _ (CB qB)) (λX' WH=>jm (ih _ _ WH _ (CB qB)))).1
   all_goals exact xB
  ·obtain _ | ⟨c,_ | ⟨_,_⟩⟩:=DA<;>obtain(_ | _) | _:=m<;>exact xB
 |_=>exact xB
theorem NS{K:gA}:∀n:Nat,aM K P C n
 | 0=>λ_ _ _ _ h=>absurd h (XY _)
 |n+1=>λ_ _ xo e h=>qx (NS n) xo e h
section
variable{K:gA}
def nF(xo:NA X K P C Z)(e:vA):JA X K P C e (cE Z e):=NS _ _ _ xo e (FI _)
def Te(xo:NA X K P C Z)(e:vA):MU X K P C e (lM Z e):=ZZ (NS _) xo e (FI _)
def sx(xo:NA X K P C Z)(es:List vA)(h:es.all aAd=true):PA X es (DL K P C (pB Z es)):=iS (NS _) xo es (FI _) h
def YR(xo:NA X K P C Z)(es:List vA)(h:es.all aAd=true):PA X es (oH K P C (pB Z es)):=nM (NS _) xo es (FI _) h
end
def iNa{K:gA}(xo:NA X K P C Z)(e:vA)(h:WS e=true):oP X K P C e (cE Z e):=by
 cases e<;>simp only[WS,wG] at h;rename_i HA gs scope pos;obtain _ | ⟨⟨tg,iter,DA,n⟩,_ | ⟨_,_⟩⟩:=gs
 ·exact JQ
 ·obtain _ | ⟨c,_ | ⟨_,_⟩⟩:=DA<;>obtain(_ | _) | _:=n
  ·exact(uV xo (nF xo iter) (Te xo iter) (λX' WH=>nF WH HA) (λX' WH=>gm)).2.1
  ·exact JQ
  ·exact JQ
  ·exact(uV xo (nF xo iter) (Te xo iter) (λX' WH=>nF WH HA) (λX' WH=>jm (nF WH c))).2.1
  all_goals exact JQ
 ·obtain _ | ⟨c,_ | ⟨_,_⟩⟩:=DA<;>obtain(_ | _) | _:=n<;>exact JQ
section
variable{X:Cx}{K:gA}{P:RA}{C:Calls}{W:Nat}{Z:CC}
def xN(X:Cx)(K:gA)(U:Env)(Y:St)(H G:Hp)(U':Env)(x:Exc):Prop:=∀aA Y' H' G' s' a Ca p,TB K U Y H G U' Y' H' G'->eA X aA Y' H' s'->YL X aA H' s'.heap a Ca p->LC K IB x.cls=some (some (.ref Ca))->tN K Ca->rP K G' Ca p x->X.xe (.ref a) s'
def xN.pre(a:TB K U Y H G U1 Y1 H1 G1)(h:xN X K U Y H G U' x):xN X K U1 Y1 H1 G1 U' x:=λaA Y' H' G' s' b Ca p q=>h aA Y' H' G' s' b Ca p (a.trans q)
def Ta(X:Cx)(K:gA)(P:RA)(C:Calls)(c:E):TE:=λY H _=>∃U G x U',BA K U Y H G/\KH P C c U=some (x,U')/\xN X K U Y H G U' x
def oZa(X:Cx)(K:gA)(P:RA)(C:Calls)(cs:List E):TA:=λY H _=>∃U G x U',BA K U Y H G/\JJ P C cs U=some (x,U')/\xN X K U Y H G U' x
def zE(X:Cx)(K:gA)(P:RA)(C:Calls)(W:Nat)(c:S):TS:=λ_ Y H=>∃U G x U',BA K U Y H G/\GG P C W c U=some (x,U')/\xN X K U Y H G U' x
def DI(X:Cx)(K:gA)(P:RA)(C:Calls)(W:Nat)(c:List S):TS:=λ_ Y H=>∃U G x U',BA K U Y H G/\zD P C W c U=some (x,U')/\xN X K U Y H G U' x
def yTa(h1:FC X b t)(h2:FC X b u):FC X b (λD Y H=>t D Y H\/u D Y H):=λaA s Y H D I q=>q.elim (h1 aA s Y H D I) (h2 aA s Y H D I)
theorem vJa{test:Env->xA RV}{body:Env->Run}{bx:Env->Option (Exc×Env)}{n:Nat}{U:Env}:tI test body bx (n+1) U=(match test U with
  |some (.ok (.sh (.bl true)),U1)=>(match body U1 with
   |some (.nx,U2)=>tI test body bx n U2
   |some (.ct,U2)=>tI test body bx n U2
   |_=>bx U1)
  |_=>none):=rfl
def u1a(po:xK (model X.prog X.w) X.A X.env X.xe)(hc:JA X K P C c cc)(hb:FC X body (PF K P C W cb))(hx:FC X body (DI X K P C W cb)):PS X (.While c body [] pos) (zE X K P C W (.FL cc cb)):=by
 refine TS.ZE (Zl po hc.t (yTa hb hx)) λD Y H hz=>?_
 obtain⟨U,G,x,U',r,e,k⟩:=hz;refine⟨λm Y1 H1=>∃U1 G1,TB K U Y H G U1 Y1 H1 G1/\tI (ev P C true cc) (IA P C W cb) (zD P C W cb) m U1=some (x,U'),⟨W,U,G,TB.refl r,e⟩,λm Y1 H1 hz=>?_⟩;obtain⟨U1,G1,a1,e1⟩:=hz
 cases m with
 |zero=>cases e1
 |succ m =>
  rw[vJa] at e1;split at e1
  ·rename_i U2 q1;refine⟨U1,G1,true,U2,a1.oA,q1,λH2 G2 a2=>sL ?_⟩;have fM:=a1.trans (AA.s a1.oA a2);refine⟨λY3 H3=>∃U3 G3,TB K U Y H G U3 Y3 H3 G3/\tI (ev P C true cc) (IA P C W cb) (zD P C W cb) m U3=some (x,U'),λY3 H3 ⟨U3,G3,a3,e4⟩=>⟨m,FI m,U3,G3,a3,e4⟩, ?_⟩;split at e1
   ·rename_i U3 q;exact .inl ⟨U2,G2,.nx,U3,a2.oA,q,λY3 H3 G3 a3=>⟨U3,G3,fM.trans a3,e1⟩⟩
   ·rename_i U3 q;exact .inl ⟨U2,G2,.ct,U3,a2.oA,q,λY3 H3 G3 a3=>⟨U3,G3,fM.trans a3,e1⟩⟩
   ·exact .inr ⟨U2,G2,x,U',a2.oA,e1,k.pre fM⟩
  ·cases e1
def i9(h1:PE X e t)(h2:PE X e u):PE X e (λY H Q=>t Y H Q\/u Y H Q):=λaA s Y H Q I q=>q.elim (h1 aA s Y H Q I) (h2 aA s Y H Q I)
def gTa{st:MA}(h1:PS X st t)(h2:PS X st u):PS X st (λD Y H=>t D Y H\/u D Y H):=λaA s Y H D I q=>q.elim (h1 aA s Y H D I) (h2 aA s Y H D I)
end
section
variable{X:Cx}{K:gA}{P:RA}{C:Calls}{Z:CC}
def au(X:Cx)(K:gA)(P:RA)(C:Calls)(e:vA)(c:E):Prop:=∀(W:Nat) (x:bA) (i:Nat) (p pos:MB),X.N.Nodup->X.N[i]?=some x->Loc X.env.scope x->(X.fn x=true\/X.env.scope.names.lookup x=some .local) ->
 PS X (.Assign [.Name x p] e pos) (zE X K P C W (.YA i c))
end
section
variable{X:Cx}{K:gA}{P:RA}{C:Calls}{W:Nat}{Z:CC}
noncomputable def kD:E->Bool
 |.call _ _=>true
 |_=>false
def uLa:kD (FN Z x)=false:=by unfold FN;split;rfl;split<;>rfl
def mLa:kD (XR c)=false:=by
 cases c<;>first | rfl | (show kD (if _ then _ else _)=false;split<;>rfl)
def pLa(h:kD c=false):kD (gS z ks vs c)=false:=by unfold gS;first | exact h | (split<;>first | rfl | exact h)
def oLa(h:kD c=false):kD (B2 ks vs es c)=false:=by
 exact h
def nLa:kD (wV ks vs cs es)=false:=by
 unfold wV;unfold Nf Mf;unfold vV
 (repeat' split)<;>rfl
def iLa{x m:bA}{p q:MB}{a:vA}{c:E}:kD (PR Z x m p q a c)=false:=by unfold PR;repeat' split<;>first | rfl | exact m6a | skip
def hLa{x m:bA}{p q:MB}:kD (OR Z x m p q)=false:=by unfold OR;(repeat' split)<;>rfl
def kLa{x m:bA}{p q:MB}{as:List vA}{cs:List E}:kD (L0 Z x m p q as cs)=false:=by
 rcases as with _ | ⟨a,_ | _⟩<;>rcases cs with _ | ⟨c,_ | _⟩<;>first | rfl | exact hLa (Z:=Z) (x:=x) | exact iLa
def jLa:kD (QR Z x m p q as cs)=false:=by
 unfold QR;split
 ·split
  ·split<;>rfl
  ·rfl
 ·exact kLa
def tLa:kD (iT Z m p q as a cs)=false:=by unfold iT;repeat' split<;>try rfl
theorem vLa:kD (Wn Z t a)=false:=rfl
def qLa:kD (aO Z as cs)=false:=by
 unfold aO;split
 ·split
  ·rfl
  ·exact vLa
 ·rfl
def rLa:kD (y8 as cs)=false:=by unfold y8;first | rfl | (repeat' split<;>try rfl)
def sLa:kD (B8 as cs)=false:=by unfold B8;first | rfl | (repeat' split<;>try rfl)
def lLa:kD (DN f as cs)=false:=by
 unfold DN aA2;split
 ·exact rLa
 ·split
  ·(repeat' split)<;>rfl
  ·split
   ·rfl
   ·split
    ·exact sLa
    ·split<;>rfl
def DQ[Decidable b](h1:kD a=false)(h2:kD c=false):kD (if b then a else c)=false:=by split<;>assumption
def FF(Z:CC)(e:vA):Prop:=(∃f p a r pos g,e=.Call (.Name f p) (a::r) [] pos/\Z.glob f=.fn g/\(a::r).all aAd=true/\cE Z e=.call g (pB Z (a::r)))\/∃HA tg iter DA sc pos,e=.ListComp HA [⟨tg,iter,DA,0⟩] sc pos/\(DA=[]\/∃c1,DA=[c1])
def Sx(h:kD (cE Z e)=true):FF Z e:=by
 induction e using WG with
 |Name x p=>exact HC ((uLa (x:=x)).symm.trans h)
 |Constant c _ _=>exact HC ((mLa (c:=c)).symm.trans h)
 |Tuple es _ _=>exact HC ((DQ (b:=es.all aAd=true) (a:=.t (pB Z es)) (c:=.pA) rfl rfl).symm.trans h)
 |List es _=>exact HC ((DQ (b:=es.all aAd=true) (a:=.l (pB Z es)) (c:=.pA) rfl rfl).symm.trans h)
 |Dict ks vs _=>exact HC ((oLa (pLa (nLa (ks:=ks) (vs:=vs) (cs:=L1 Z ks) (es:=pB Z vs)))).symm.trans h)
 |BinOp a op b _=>exact HC h
 |UnaryOp op a _=>cases op<;>exact HC h
 |Compare a ops bs _ =>
  obtain _ | ⟨o1,_ | ⟨o2,_ | ⟨o3,_⟩⟩⟩:=ops<;>obtain _ | ⟨b1,_ | ⟨b2,_ | ⟨b3,_⟩⟩⟩:=bs<;>first
   |exact HC h
   |exact HC ((DQ (b:=rK o1 b1=true) (a:=.pA) (c:=.FA o1 (cE Z a) (cE Z b1)) rfl rfl).symm.trans h)
   |exact HC ((DQ (b:=rK o2 b2=true) (a:=.pA) (c:=.GH o1 o2 (cE Z a) (cE Z b1) (cE Z b2)) rfl rfl).symm.trans h)
 |BoolOp op es _ =>
  cases op<;>obtain _ | ⟨a,_ | ⟨b,r⟩⟩:=es<;>exact HC h
 |IfExp c a b _=>exact HC h
 |Subscript a i _ =>
  rcases oi Z a i ‹MB› with ⟨lo,hi,q,rfl⟩ | ⟨_,z⟩
  ·exact HC h
  ·rw[z] at h;exact HC ((DQ rfl rfl).symm.trans h)
 |Attribute o f _=>cases o<;>exact HC h
 |ListComp HA gens sc _ =>
  obtain _ | ⟨⟨tg,it,DA,n⟩,_ | ⟨_,_⟩⟩:=gens
  ·exact HC h
  ·obtain _ | ⟨c1,_ | ⟨_,_⟩⟩:=DA<;>obtain(_ | _) | _:=n<;>first
    |exact Or.inr ⟨HA,tg,it,[],sc,_,rfl,.inl rfl⟩
    |exact Or.inr ⟨HA,tg,it,[c1],sc,_,rfl,.inr ⟨c1,rfl⟩⟩
    |exact HC h
  ·obtain _ | ⟨c1,_ | ⟨_,_⟩⟩:=DA<;>obtain(_ | _) | _:=n<;>exact HC h
 |Call fn args kw pos =>
  induction fn using WG with
  |Name f p =>
   induction kw using XB with
   |nil =>
    change kD (if args.all aAd&&decide (args≠[]) then(match Z.glob f with | .fn g=>.call g (pB Z args) | .cls ns=>.make f ns (pB Z args) | .BB=>if f=("isinstance":bA) then aO Z args (pB Z args) else DN f args (pB Z args) | _=>.pA) else .pA)=true at h;split at h
    ·rename_i hc;split at h
     ·rename_i g hg;rw[WA] at hc
      induction args using XB with
      |nil=>simp at hc
      |cons a r =>
       refine Or.inl ⟨f,p,a,r,pos,g,rfl,hg,hc.1, ?_⟩;show(if(a::r).all aAd&&decide ((a::r)≠[]) then(match Z.glob f with | .fn g=>E.call g (pB Z (a::r)) | .cls ns=>E.make f ns (pB Z (a::r)) | .BB=>if f=("isinstance":bA) then aO Z (a::r) (pB Z (a::r)) else DN f (a::r) (pB Z (a::r)) | _=>.pA) else .pA)=_;rw[GA (by rw[hc.1];simp),hg]
     ·cases h
     ·rw[DQ qLa lLa] at h;cases h
     ·cases h
    ·cases h
   |cons _ _=>exact HC h
  |Attribute o m OB =>
   induction kw using XB with
   |nil =>
    induction o using WG with
    |Name x p=>exact HC ((jLa (x:=x) (m:=m) (p:=OB) (q:=pos) (as:=args) (cs:=pB Z args)).symm.trans h)
    |Call g jM Dj p0 =>
     induction jM using XB with
     |nil=>exact HC h
     |cons a0 r0=>exact HC ((tLa (m:=m) (p:=OB) (q:=pos) (as:=args) (a:=cE Z (.Call g (a0::r0) Dj p0)) (cs:=pB Z args)).symm.trans h)
    |_=>exact HC h
   |cons _ _ =>
    induction o using WG with
    |Call g jM Dj p0=>cases jM<;>exact HC h
    |_=>exact HC h
  |_=>exact HC h
 |_=>exact HC h
def df(h:kD (cE Z e)=true):(∃f p a r pos g,e=.Call (.Name f p) (a::r) [] pos/\Z.glob f=.fn g/\(a::r).all aAd=true/\cE Z e=.call g (pB Z (a::r)))\/∃HA tg iter DA sc pos,e=.ListComp HA [⟨tg,iter,DA,0⟩] sc pos/\(DA=[]\/∃c1,DA=[c1]):=Sx h
def GP(h:KH P C c U=some (x,U')):kD c=true:=by
 cases c<;>first | rfl | (simp[KH] at h)
def uX{sc:BF}{tg it:vA}{ci:E}{as cs:List E}{ce:E}(h:kD (HH Z sc tg it ci as cs ce)=true):False:=by
 unfold HH at h
 (repeat' split at h)<;>cases h
def HZ(K:gA)(P:RA)(C:Calls)(n:Nat):Prop:=∀(X:Cx) (Z:CC),NA X K P C Z->∀e:vA,sizeOf e<n->PE X e (Ta X K P C (cE Z e))
theorem Xf(ih:HZ K P C n)(xo:NA X K P C Z):∀es:List vA,sizeOf es<n->es.all aAd=true->PA X es (oZa X K P C (pB Z es))
 |[],_,_=>by
  intro pos aA s Y H Q I ⟨U,G,x,U',r,e0,k⟩;simp only[pB,JJ] at e0;cases e0
 |e::es,hs,ns=>by
  have JE:=ns;rw[WC,WA] at JE;refine TA.QS (mO (i9 (nF xo e).h (ih _ _ xo e (yO hs))) (Xf ih xo es (eU hs) JE.2) (lD JE.1 _ _)) λY H Q hz=>?_
  obtain⟨U,G,x,U',r,e0,k⟩:=hz;simp only[pB,JJ] at e0;split at e0
  ·rename_i v U1 q1;exact .inl ⟨U,G,v,U1,r,q1,λy H1 G1 a1 _=>⟨U1,G1,x,U',a1.oA,e0,k.pre (AA.s r a1)⟩⟩
  ·exact .inr ⟨U,G,x,U',r,e0,k⟩
theorem vz{P:RA}{C:Calls}{f:String}{es:List E}{U:Env}:KH P C (.call f es) U=(match bD P C es U with
  |some (.ok hs,U1)=>match ND (P f) (C f) hs U1 with
   |some (.ex x,U')=>some (x,U')
   |_=>none
  |_=>JJ P C es U):=rfl
def ox(ih:HZ K P C n)(xo:NA X K P C Z)(e:vA)(qB:sizeOf e<n+1):PE X e (Ta X K P C (cE Z e)):=by
 intro aA s Y H Q I ⟨U,G,x,U',r,e0,k⟩;rcases df (GP e0) with ⟨f,p,a,aAk,pos,g,rfl,hf,ns,hc⟩ | ⟨HA,tg,iter,DA,sc,pos,rfl,rfl | ⟨c1,rfl⟩⟩
 case inr.inl=>exact(uX (show kD (HH Z sc tg iter (cE Z iter) (lM Z iter) [] (cE (Z.inner sc) HA))=true from GP e0)).elim
 case inr.inr=>exact(uX (show kD (HH Z sc tg iter (cE Z iter) (lM Z iter) [cE (Z.inner sc) c1] (cE (Z.inner sc) HA))=true from GP e0)).elim
 rw[hc] at e0;obtain⟨h1,h2,h3,h4⟩:=CC.MH xo hf (λz=>nomatch z);obtain⟨fa,fd,ps,k0,F,hr,hm,hk,hb⟩:=(xo.fnX f g h2).ex;have JE:=ns;rw[WC,WA] at JE;rw[vz] at e0
 have Jv:JJ P C (pB Z (a::aAk)) U=some (x,U')->nA (model X.prog X.w) X.A (eval (.Call (.Name f p) (a::aAk) [] pos) X.env) (EP X aA Y Q) X.xe s:=λz =>
  zl F hr h1 hm hk hb (Xf ih xo (a::aAk) (J8 (by simp;lia) qB) ns) h3 (lD JE.1 _ _) (zI JE.2 _ _).1 aA s Y H Q I ⟨U,G,x,U',r,z,k⟩
 split at e0
 ·rename_i hs U1 q1;split at e0
  ·rename_i x' U2 q2;cases e0;refine zl F hr h1 hm hk hb (YR xo (a::aAk) ns) h3 (lD JE.1 _ _) (zI JE.2 _ _).1 aA s Y H Q I ⟨U,G,hs,U1,r,q1,λxs H1 G1 a1 rx=>?_⟩;obtain⟨as,G2,QA,d1,d2,d3,d4⟩:=Iy a1 rx q2;refine⟨λv p H'=>∃Ca G',v=.ref Ca/\AA K U Y H G U' H' G'/\LC K IB x.cls=some (some (.ref Ca))/\tN K Ca/\rP K G' Ca p x,⟨?_,as,G2,x,QA,d1,d2,d3,λH' G' Ca p b hn hg hp=>⟨Ca,G',rfl,d4 H' G' b,hn,hg,hp⟩⟩,λeF b Cb p H' s' I' F' ⟨Ca,G',z,b1,b2,b3,b4⟩=>?_⟩
   ·have:=d1.len
    rw[EA] at this
    lia
   ·cases z;exact k eF Y H' G' s' b Cb p (AA.s r b1) I' F' b2 b3 b4
  ·cases e0
 ·exact Jv e0
theorem Oh:∀n:Nat,HZ K P C n
 | 0=>λ_ _ _ _ h=>absurd h (XY _)
 |n+1=>λ_ _ xo e h=>ox (Oh n) xo e h
def E1(xo:NA X K P C Z)(e:vA):PE X e (Ta X K P C (cE Z e)):=Oh _ _ _ xo e (FI _)
def zx(xo:NA X K P C Z)(h:DA=[]\/∃c1,DA=[c1]):au X K P C (.ListComp HA [⟨tg,iter,DA,0⟩] sc pos) (cE Z (.ListComp HA [⟨tg,iter,DA,0⟩] sc pos)):=by
 intro W x i p pos _ _ _ _ aA s Y H D I ⟨U,G,x0,U',r,e0,k⟩;rcases h with rfl | ⟨c1,rfl⟩
 ·exact(uX (show kD (HH Z sc tg iter (cE Z iter) (lM Z iter) [] (cE (Z.inner sc) HA))=true from GP (P:=P) (C:=C) e0)).elim
 ·exact(uX (show kD (HH Z sc tg iter (cE Z iter) (lM Z iter) [cE (Z.inner sc) c1] (cE (Z.inner sc) HA))=true from GP (P:=P) (C:=C) e0)).elim
end
section
variable{X:Cx}{K:gA}{P:RA}{C:Calls}{W:Nat}{Z:CC}{aA eF:List (fA×nB)}{Y:St}{H G:Hp}{s:qA}
abbrev Cx.re(X:Cx)(E:cA->qA->Prop)(pn:List (fA×nB)):Cx:={ X with xe:=E,pn:=pn }
abbrev RE(X:Cx)(b:List MA)(t:Cx->TS):Prop:=∀E pn,xK (model X.prog X.w) X.A X.env E->FC (Cx.re X E pn) b (t (Cx.re X E pn))
abbrev Cx.ma(X:Cx)(v:cA):Cx:={ X with A:=X.A.mark (some v),calm:=false,xe:=λ_ _=>False }
def pOa{E:cA->qA->Prop}(o:X.Ok):(Cx.re X E pn).Ok :=
 ⟨o.mod,o.kind,o.glob,o.BB,o.above,o.inj,o.has,o.mM,o.hd,o.frames,o.YD,o.lS,o.bs,o.OI,o.HM,o.NN,o.fG,o.OJ⟩
def sOa{E:cA->qA->Prop}(o:(Cx.re X E pn).Ok):X.Ok :=
 ⟨o.mod,o.kind,o.glob,o.BB,o.above,o.inj,o.has,o.mM,o.hd,o.frames,o.YD,o.lS,o.bs,o.OI,o.HM,o.NN,o.fG,o.OJ⟩
def iOa(o:X.Ok):(Cx.ma X v).Ok :=
 ⟨o.mod,o.kind,o.glob,o.BB,o.above,o.inj,o.has,o.mM,(λz=>nomatch z),o.frames,o.YD,o.lS,o.bs,o.OI,o.HM,o.NN,o.fG,o.OJ⟩
def Vh{E:cA->qA->Prop}(I:eA X aA Y H s):eA (Cx.re X E (X.pn++aA)) [] Y H s :=
 ⟨pOa I.ok,I.os,I.bare,I.base,I.loc,I.cell,I.free,I.gH,λp hp=>I.pin p (by simpa using hp),I.KA,I.len⟩
def Wh{E:cA->qA->Prop}(I:eA (Cx.re X E (X.pn++aA)) eF Y H s):eA X aA Y H s :=
 ⟨sOa I.ok,I.os,I.bare,I.base,I.loc,I.cell,I.free,I.gH,λp hp=>I.pin p (pN _ hp),I.KA,I.len⟩
def f7(I:eA X aA Y H s):eA (Cx.ma X v) aA Y H s :=
 ⟨iOa I.ok,I.os,I.bare,I.base,I.loc,I.cell,I.free,I.gH,I.pin,I.KA,I.len⟩
def gEa{E:cA->qA->Prop}(o:X.Ok)(I:eA (Cx.ma (Cx.re X E (X.pn++aA)) v) eF Y H s):eA X aA Y H s :=
 ⟨o,I.os,I.bare,I.base,I.loc,I.cell,I.free,I.gH,λp hp=>I.pin p (pN _ hp),I.KA,I.len⟩
theorem NA.re{E:cA->qA->Prop}(xo:NA X K P C Z):NA (Cx.re X E pn) K P C Z :=
 NA.of xo.ZC xo.vI xo.nm xo.nd xo.calm xo.hh xo.hu xo.c xo.BB (λx f h=>⟨(xo.fn x f h).ex⟩) (λx ns h=>⟨(xo.cls x ns h).ex⟩) (λm tb c f h1 h2=>⟨(xo.sF m tb c f h1 h2).ex⟩) xo.rm xo.sub xo.AI ⟨xo.exc,λx h=>⟨(xo.LJ x h).ex⟩⟩ xo.IA (λx f h=>⟨(xo.fnX x f h).ex⟩) xo.tp
def v_(xo:NA X K P C Z)(hx:Z.bQ x=.IA cs)(hc:c∈cs)(DD:LC K IB c=some (some (.ref Ca))):∃D0,X.mg x=some (.ref D0)/\(∃i,FK K D0 i)/\sJ K Ca (.ref D0)=some true/\Gl X x/\(x==("__debug__":bA))=false:=by
 unfold CC.bQ at hx;split at hx
 ·cases hx
 ·rename_i Rg;split at hx
  ·rename_i hig;obtain⟨D0,d1,d2,d3⟩:=(xo.IA x cs hx).ex;refine⟨D0,d1,d2,d3 _ hc Ca DD, ?_, ?_⟩
   ·unfold Gl Lc;rw[xo.nm];exact EC hig
   ·simp only[QK,TY,Vb] at Rg;exact Rg.1.1
  ·cases hx
abbrev O8:Ends:={ nx:=λ_ _=>False,rt:=λ_ _=>False }
def SP.no{f:Flow}(h:SP X aA O8 f s):False:=by
 induction f using nZ with
 |ret u=>obtain⟨_,_,_,_,_,z⟩:=h;exact z
 |_=>obtain⟨_,_,_,z⟩:=h;exact z
def SP.un{E:cA->qA->Prop}{D:Ends}{f:Flow}(h:SP (Cx.re X E (X.pn++aA)) eF D f s):SP X aA D f s:=by
 induction f using nZ with
 |ret u=>obtain⟨v,Y',H',J,z⟩:=h;exact⟨v,Y',H',Wh J,z⟩
 |_=>obtain⟨Y',H',J,z⟩:=h;exact⟨Y',H',Wh J,z⟩
def o0a{t:TS}{D:Ends}{body:List MA}{h0:cI}{pos:MB}(hb:RE X body λ_=>t)(I:eA X aA Y H s)(h:t D Y H) :
  nA (model X.prog X.w) X.A (exec (.Try body [h0] [] [] pos) X.env) (SP X aA D) X.xe s :=
 wpAny_Try_except (OG (hb _ (X.pn++aA) Tr [] s Y H D (Vh I) h) (λf s1 h1=>by
  have h1:=SP.un h1
  induction f using nZ with
  |next=>exact zU h1
  |_=>exact h1) λ_ _ z=>z)
theorem dI.c{h:jB}{a c:fA}{p:PX}{fl:cA}(F:dI X aA H h a c p fl):∃oe vs a0,h.get? a=some oe/\(oe.cls=.ref c/\oe.dict=p.1)/\oe.data=.fields vs/\MK vs a0 p.2:=by
 obtain⟨oe,vs,a0,T,oT,ts,he,eQ,hd,h0,_⟩:=F;exact⟨oe,vs,a0,he,eQ,hd,h0⟩
theorem m0a(xo:NA X K P C Z)(YD:X.stack=X.env::X.outer)(fr:X.env.frame=some X.env.locals){body su:List MA}{cb:List S}{x:bA}{cs:List bA}{x0:Exc}{U U1:Env}{np hp pos:MB}{D:Ends}{nm:Option bA}
  (gG:RE X body λX=>DI X K P C W cb) (hx:Z.bQ x=.IA cs) (I:eA X aA Y H s) (r:BA K U Y H G) (q:zD P C W cb U=some (x0,U1)) (hc:cs.contains x0.cls=true)
  (h:∀{E eF Y' H' G' s' a Ca p},TB K U Y H G U1 Y' H' G'->eA (Cx.re X E (X.pn++aA)) eF Y' H' s'->xD (Cx.re X E (X.pn++aA)) eF H' a->dI (Cx.re X E (X.pn++aA)) eF H' s'.heap a Ca p .none ->
   LC K IB x0.cls=some (some (.ref Ca))->tN K Ca->rP K G' Ca p x0->BK (model X.prog X.w) (X.A.mark (some (.ref a))) (.handlers (.ref a) [.ExceptHandler none nm su hp] X.env) (λr s₂=>match r with
    |.ok f=>(match nm with
     |none=>SP X aA D f s₂
     |some n=>nA (model X.prog X.w) X.A (do bindName X.env n .none;unbindBehindTheSuite X.env n hp) (λ_ s₃=>SP X aA D f s₃) X.xe s₂)
    |.error x=>cameBackBy (model X.prog X.w) X.A X.env X.xe x s₂) s') :
  nA (model X.prog X.w) X.A (exec (.Try body [.ExceptHandler (some (.Name x np)) nm su hp] [] [] pos) X.env) (SP X aA D) X.xe s:=by
 refine wpAny_Try_except (OG (gG _ (X.pn++aA) Tr [] s Y H O8 (Vh I) ⟨U,G,x0,U1,r,q,λeF Y' H' G' s' a Ca pp gM I' F DD hg oQ=>?_⟩) (λf s1 h1=>(SP.no h1).elim) λ_ _ z=>z);refine Dk (X:=Cx.re X _ (X.pn++aA)) I' YD fr F λh1 I1 F1=>L3 (X:=Cx.re X _ (X.pn++aA)) I1 F.1 F1 λh2 I2 F2=>?_
 obtain⟨D0,d1,d2,d3,d4,d5⟩:=v_ xo hx (c:=x0.cls) (by simpa using hc) DD;have hK:=xo.ZC;subst hK;obtain⟨oe,_,_,he,eQ,_⟩:=F2.c;refine wpAny_handleBy_cons (codeAny_handlers_test (xQ (X:=Cx.ma (Cx.re X _ (X.pn++aA)) (.ref a)) (f7 I2) d4 d1 ?_ d5)) (by intro z;cases z);exact t_ (f7 (v:=.ref a) I2).WD hg.q.choose_spec d2.choose_spec d3 he eQ.1 (h gM I2 F.1 F2 DD hg oQ)
def n0a(xo:NA X K P C Z)(YD:X.stack=X.env::X.outer)(fr:X.env.frame=some X.env.locals){body su:List MA}{cb:List S}{x:bA}{cs:List bA}{x0:Exc}{U U1:Env}{np hp pos:MB}{D:Ends}{st:MA}
  (gG:RE X body λX=>DI X K P C W cb) (hx:Z.bQ x=.IA cs) (I:eA X aA Y H s) (r:BA K U Y H G) (q:zD P C W cb U=some (x0,U1)) (hc:cs.contains x0.cls=true)
  (h:∀{E eF Y' H' G' s' a Ca p},TB K U Y H G U1 Y' H' G'->eA (Cx.re X E (X.pn++aA)) eF Y' H' s'->xD (Cx.re X E (X.pn++aA)) eF H' a->dI (Cx.re X E (X.pn++aA)) eF H' s'.heap a Ca p .none->rP K G' Ca p x0 ->
   nA (model X.prog X.w) (X.A.mark (some (.ref a))) (execs (st::su) X.env) (SP X aA D) (notedBy (model X.prog X.w) (X.A.mark (some (.ref a))) X.env (cameBackBy (model X.prog X.w) X.A X.env X.xe)) s') :
  nA (model X.prog X.w) X.A (exec (.Try body [.ExceptHandler (some (.Name x np)) none (st::su) hp] [] [] pos) X.env) (SP X aA D) X.xe s :=
 m0a xo YD fr gG hx I r q hc λgM I2 fa F2 _ _ oQ=>codeAny_handlers_suite (L3 I2 fa F2 λh3 I3 F3=>h gM I3 fa F3 oQ)
def rTa
  (hb:RE X body λ_=>PF K P C W cb):PS X (.Try body hs o f pos) (tS K P C W (aY cb hs o f)):=xC
def Rl{st:MA}(h:∀U,GG P C W c U=none):PS X st (zE X K P C W c):=λaA s Y H D I hz=>by obtain⟨U,G,x,U',r,e,k⟩:=hz;rw[h] at e;cases e
def sSa:PS X (.Try body hs o f pos) (zE X K P C W (aY cb hs o f)):=by
 unfold aY
 (repeat' split)<;>exact Rl λU=>rfl
def sTa
  (hb:RE X body λ_=>PF K P C W cb):PS X (.Try body hs [] [] pos) (tS K P C W (vb Z cb hs)):=rTa hb
def tSa(xo:NA X K P C Z)(YD:X.stack=X.env::X.outer)(fr:X.env.frame=some X.env.locals)
  (gG:RE X body λX=>DI X K P C W cb):PS X (.Try body hs [] [] pos) (zE X K P C W (vb Z cb hs)):=sSa
def Yl(xo:NA X K P C Z)(YD:X.stack=X.env::X.outer)(fr:X.env.frame=some X.env.locals){body:List MA}{hs:List cI}{cb:List S}{pos:MB}
  (hb:RE X body λ_=>PF K P C W cb) (gG:RE X body λX=>DI X K P C W cb):PS X (.Try body hs [] [] pos) (tS K P C W (ZX Z cb hs)):=sTa hb
def Ul(xo:NA X K P C Z)(YD:X.stack=X.env::X.outer)(fr:X.env.frame=some X.env.locals){body:List MA}{hs:List cI}{cb:List S}{pos:MB}
  (gG:RE X body λX=>DI X K P C W cb):PS X (.Try body hs [] [] pos) (zE X K P C W (ZX Z cb hs)):=tSa xo YD fr gG
theorem NA.ma{E:cA->qA->Prop}(xo:NA X K P C Z):gC false (Cx.ma (Cx.re X E pn) v) K P C Z:=⟨xo.ZC,xo.vI,xo.nm,xo.nd,xo.c,xo.BB,xo.sub,xo.AI,λz=>nomatch z⟩
def QX{qq:Bool}(xo:gC qq X K P C Z){e:vA}{c:E}(h:cU e=some c):JA X K P C e c/\aAd e=true/\XD e=true:=by
 unfold cU at h;split at h
 ·cases h;exact⟨Nk xo _ _ _,rfl,rfl⟩
 ·cases h;exact⟨Pk xo d9,rfl,rfl⟩
 ·cases h
theorem Vn{qq:Bool}(xo:gC qq X K P C Z):∀{es:List vA} {cs:List E},Aa es=some cs->PA X es (DL K P C cs)
 |[],_,h=>by cases h;exact d9
 |e::es,_,h=>by(obtain⟨c,h1,h⟩:=zJ.mp (show(cU e).bind _=_ from h);obtain⟨cs,h2,rfl⟩:=VF.mp h;exact ml (QX xo h1).1 (Vn xo h2) (QX xo h1).2.1)
def yYa{qq:Bool}(xo:gC qq X K P C Z){e:vA}{c:E}(h:bU e=some c):JA X K P C e c/\XD e=true:=by
 unfold bU at h;split at h
 ·obtain⟨cs,h2,rfl⟩:=VF.mp h;exact⟨Rk xo (Vn xo h2),rfl⟩
 ·exact⟨(QX xo h).1,(QX xo h).2.2⟩
def tTa(xo:NA X K P C Z)(YD:X.stack=X.env::X.outer)(fr:X.env.frame=some X.env.locals)(UB:CH X Z){body:List MA}{cb:List S}{x:bA}{cs:List bA}{z:Nat×E}{y:bA}{e0:vA}{p np hp p2 pos:MB}
  (hb:RE X body λ_=>PF K P C W cb) (gG:RE X body λX=>DI X K P C W cb)
  (hx:Z.bQ x=.IA cs) (hj:Z.fF y=some z.1) (hv:bU e0=some z.2) :
  PS X (.Try body [.ExceptHandler (some (.Name x np)) none [.Assign [.Name y p] e0 p2] hp] [] [] pos) (tS K P C W (.UQ cb cs z.1 z.2)):=by
 intro aA s Y H D I ⟨U,G,fl,U',r,e,k⟩;replace e:(match IA P C W cb U with | some (.nx,U1)=>some (.nx,U1) | _=>match zD P C W cb U with | some (x,U1)=>if cs.contains x.cls then(ev P C false z.2 U1).VB λv U2=>JF (store z.1 v U2) else none | none=>none)=some (fl,U'):=e;split at e
 ·rename_i U1 q;cases e;exact o0a hb I ⟨U,G,.nx,U',r,q,k⟩
 ·split at e
  case h_2=>cases e
  rename_i x0 U1 q;split at e
  case isFalse=>cases e
  rename_i hc
  obtain rfl:fl=.nx:=by(obtain⟨v,U2,_,e2⟩:=kI e k.ne;unfold JF at e2;cases q:store z.1 v U2<;>rw[q] at e2<;>cases e2;rfl)
  refine n0a xo YD fr gG hx I r q hc λ{E eF Y' H' G' s' a Ca p} gM I3 fa F3 oQ=>?_
  have ok:=yYa (X:=Cx.ma (Cx.re X E (X.pn++aA)) (.ref a)) xo.ma hv;refine OG (xTa (Vl (X:=Cx.ma (Cx.re X E (X.pn++aA)) (.ref a)) (W:=W) xo.ma UB hj ok.1 ok.2) eF s' _ _ { O8 with nx:=λY6 H6=>∃G6,TB K U1 Y' H' G' U' Y6 H6 G6 } (f7 (v:=.ref a) I3) ⟨U1,G',.nx,U',gM.oA,e,λY6 H6 G6 a6=>⟨G6,a6⟩⟩) (λf s6 h6=>?_) λ_ _ z=>z.elim
  induction f using nZ with
  |next =>
   obtain⟨Y6,H6,J,G6,a6⟩:=h6;exact⟨_,_,gEa I.ok J,k _ _ G6 (gM.trans a6)⟩
  |ret u=>obtain⟨_,_,_,_,_,z⟩:=h6;exact z.elim
  |_=>obtain⟨_,_,_,z⟩:=h6;exact z.elim
def uTa(xo:NA X K P C Z)(YD:X.stack=X.env::X.outer)(fr:X.env.frame=some X.env.locals)(UB:CH X Z){body:List MA}{hs:List cI}{cb:List S}{pos:MB}
  (hb:RE X body λ_=>PF K P C W cb) (gG:RE X body λX=>DI X K P C W cb):PS X (.Try body hs [] [] pos) (tS K P C W (iU Z cb hs)):=by
 unfold iU;split
 ·rename_i q hq;split
  ·rename_i z hz;split
   ·obtain⟨x,st⟩:=q;obtain⟨np,hp,rfl⟩:=tCa hq;obtain⟨y,p,e0,p2,rfl,h1,h2⟩:=xYa hz;exact tTa xo YD fr UB hb gG ‹_› h1 h2
   ·exact xC
  ·exact Yl xo YD fr hb gG
 ·exact Yl xo YD fr hb gG
def uSa(xo:NA X K P C Z)(YD:X.stack=X.env::X.outer)(fr:X.env.frame=some X.env.locals){body:List MA}{hs:List cI}{cb:List S}{pos:MB}
  (gG:RE X body λX=>DI X K P C W cb):PS X (.Try body hs [] [] pos) (zE X K P C W (iU Z cb hs)):=by
 unfold iU;split
 ·split
  ·split<;>exact Rl λU=>rfl
  ·exact Ul xo YD fr gG
 ·exact Ul xo YD fr gG
def oTa(xo:NA X K P C Z)(hi:Z.slot x=some i)(n:XD e=true)(n2:fX k=true):PS X (.Assign [.Subscript (.Name x p) k p2] e pos) (tS K P C W (RT i k (cE Z k) (cE Z e))):=by
 have h:PS X (.Assign [.Subscript (.Name x p) k p2] e pos) (tS K P C W (.set i (cE Z k) (cE Z e))):=pTa xo hi (nF xo _) (nF xo _) n λv=>by cases k<;>first | rfl | cases n2
 exact h
def qTa(xo:NA X K P C Z):PS X (.Assign [.Tuple ts k p] e pos) (tS K P C W (dU Z ts e (cE Z e))):=by
 exact xC
end
section
variable{K:gA}
def jn(xo:NA X K P C Z)(h:Z.fF x=some i):X.N[i]?=some x/\L2.Loc X.env.scope x/\Z.ZN x=true:=by
 unfold CC.fF at h;split at h
 ·rename_i hl
  have hN:X.N[i]?=some x:=by
   unfold CC.slot at h;split at h
   ·cases h
   ·split at h
    ·rw[xo.vI];exact xW h
    ·cases h
  refine⟨hN, ?_,hl⟩;unfold L2.Loc;rw[xo.nm];unfold CC.ZN at hl;rw[KL,WA] at hl;rcases hl with hl | hl
  ·exact .inl (EC hl)
  ·exact .inr (EC hl.2)
 ·cases h
def wSa(xo:NA X K P C Z)(UB:CH X Z){x:bA}{i:Nat}{e:vA}{c:E}{p pos:MB}(hi:Z.fF x=some i)(h:oP X K P C e c):PS X (.Assign [.Name x p] e pos) (tS K P C W (.YA i c)):=by
 obtain⟨h1,h2,h3⟩:=jn xo hi;refine TS.ZE (h x i p pos (by rw[xo.vI];exact xo.nd) h1 h2 (UB x h3)) λD Y H hz=>?_
 obtain⟨U,G,fl,U',r,e,k⟩:=hz;obtain⟨v,U1,e1,e2⟩:=kI e k.ne;unfold JF at e2
 cases q:store i v U1 with
 |none=>rw[q] at e2;cases e2
 |some U2 =>
  rw[q] at e2;cases e2;exact⟨U,G,v,U1,r,e1,λx H' G' a hv=>k _ H' G' (AA.store r a q hv)⟩
def T_(xo:NA X K P C Z){tg it:vA}{k:UD}{dA:List E}(h:sS Z it=some (k,dA)):∃wi,(∀x,AJ it X.env x=pure x)/\PI X tg it wi/\∀Y H (R:It->Hp->Prop),JI K P C k dA Y H R->wi Y H R:=by
 unfold sS at h;split at h
 ·rename_i x hx;split at h
  ·obtain⟨i,hi,h⟩:=VF.mp h;cases h;cases it<;>simp only[aAw,reduceCtorEq] at hx;cases hx;exact⟨_,LV rfl _,Kl (U8 xo hi _).h,λY H R q=>yj Y H R q⟩
  ·cases h
 ·cases h
def C5(xo:NA X K P C Z)(UB:CH X Z){tg it:vA}{one:Bool}{is:List Nat}{k0:UD}{dA:List vA}{Φ:List E->Prop}
  (ht:tG Z tg=some (one,is)) (hi:ZJ Z it=some (k0,dA)) (RJ:mK k0 one=true) (fin:∀{wi:TI} {its':List E},(∀x,AJ it X.env x=pure x)->PI X tg it wi->(∀Y H (R:It->Hp->Prop),JI K P C k0 its' Y H R->wi Y H R)->Φ its'):Φ (pB Z dA):=by
 have gen:∀e:vA,it=e->GQ e=true->some (UD.of,[e])=some (k0,dA)->Φ (pB Z dA):=λe he hn hq=>by(subst he;cases hq;exact fin (LV hn _) (PI.or (n9 (nF xo it).h) (o9 (nF xo it).h)) λY H R q=>R8 xo.ZC Y H R q)
 unfold ZJ at hi;split at hi
 ·rename_i x hx;obtain⟨⟨f,p⟩,args,pos'⟩:=x;obtain rfl:=E7 hx;dsimp only at hi;split at hi
  ·rename_i hf;have hf:=EC hf;subst hf;split at hi
   ·rename_i kL;split at hi
    ·rename_i hc;cases hi;rw[WA] at hc;obtain⟨h1,h2,h3,h4⟩:=CC.MH xo kL (λz=>nomatch z);have hm:=xo.BB _ h2;obtain _ | ⟨a,_ | ⟨b,_ | ⟨_,_⟩⟩⟩:=dA
     ·simp at hc
     ·have ns:=hc.1;rw[WC,WA] at ns;exact fin (λ_=>rfl) (Ll h1 hm (YR xo [a] hc.1) (by rw[lD ns.1];rfl)) λY H R q=>Nm Y H R q
     ·have ns:=hc.1;rw[WC,WA,WC,WA] at ns;exact fin (λ_=>rfl) (Ml h1 hm (YR xo [a,b] hc.1) (by rw[lD ns.1,lD ns.2.1];rfl) (by rw[lD ns.2.1];rfl)) λY H R q=>Om Y H R q
     ·simp at hc
    ·cases hi
   ·cases hi
  ·split at hi
   ·rename_i hf;have hf:=EC hf;subst hf;split at hi
    ·rename_i kL;split at hi
     ·rename_i hc;cases hi;rw[WA] at hc;obtain⟨h1,h2,h3,h4⟩:=CC.MH xo kL (λz=>nomatch z);have hm:=xo.BB _ h2;obtain _ | ⟨a,_ | ⟨_,_⟩⟩:=dA
      ·simp at hc
      ·have ns:=hc.1;rw[WC,WA] at ns;obtain⟨elts,kk,tp,rfl⟩:=Za ht (by simpa[mK] using RJ);exact fin (λ_=>rfl) (Jl h1 hm (YR xo [a] hc.1) (by rw[lD ns.1];rfl)) λY H R q=>W2 xo.ZC Y H R q
      ·simp at hc
     ·cases hi
    ·cases hi
   ·exact gen _ rfl rfl hi
 ·split at hi
  ·rename_i x h0;obtain⟨f,a,x,c⟩:=x;obtain⟨p,jj,qq,kp,pos',rfl⟩:=fFa h0;clear h0;dsimp only at hi;split at hi
   ·rename_i hc;rw[WA,WA,WA] at hc;obtain⟨⟨⟨hf,hx⟩,ns⟩,h1⟩:=hc;have hf:=EC hf;have hx:=EC hx;have h1:=EC h1;subst hf hx h1;split at hi
    ·rename_i kL;cases hi;obtain⟨h1,h2,h3,h4⟩:=CC.MH xo kL (λz=>nomatch z);have hm:=xo.BB _ h2;obtain⟨elts,kk,tp,rfl⟩:=Za ht (by simpa[mK] using RJ);exact fin (λ_=>rfl) (wRa h1 hm (YR xo [_] (by rw[WC,ns];rfl)) (by rw[lD ns];rfl)) λY H R q=>W2 xo.ZC Y H R q
    ·cases hi
   ·cases hi
  ·split at hi
   ·exact gen _ rfl ‹_› hi
   ·cases hi
def Z_(xo:NA X K P C Z)(UB:CH X Z){tg it:vA}{body:List MA}{one:Bool}{is:List Nat}{k0:UD}{dA:List vA}{Φ:List E->Prop}
  (ht:tG Z tg=some (one,is)) (hi:ZJ Z it=some (k0,dA)) (RJ:mK k0 one=true) (fin:∀{wi:TI} {its':List E},(∀x,AJ it X.env x=pure x)->PI X tg it wi->(∀Y H (R:It->Hp->Prop),JI K P C k0 its' Y H R->wi Y H R)->Φ its'):Φ (tQ Z it body (pB Z dA)):=by
 unfold tQ;split
 ·rename_i x hx;split
  ·rename_i i hs;split
   ·cases it<;>simp only[aAw,reduceCtorEq] at hx;cases hx
    have:k0=.of:=by(simp only[ZJ,YS,CW,GQ,if_true] at hi;cases hi;rfl)
    subst this;have h:=(U8 xo hs ‹MB›).h;exact fin (λ_=>rfl) (PI.or (n9 h) (o9 h)) λY H R q=>R8 xo.ZC Y H R q
   ·exact C5 xo UB ht hi RJ fin
  ·exact C5 xo UB ht hi RJ fin
 ·exact C5 xo UB ht hi RJ fin
theorem bg:∀{cs:List E} {ds:List D} {U U':Env},XE P C cs U=some (.ok ds,U')->ds.length=cs.length
 |[],_,_,_,h=>by simp only[XE] at h;cases h;rfl
 |c::cs,ds,U,U',h=>by(simp only[XE] at h;obtain⟨v,U1,_,h⟩:=vB h;obtain⟨OD,U2,h2,h⟩:=vB h;cases h;rw[QC,QC,bg h2])
structure dM(X:Cx)(K:gA)(P:RA)(C:Calls)(Z:CC):Prop where
 po:xK (model X.prog X.w) X.A X.env X.xe
 xo:NA X K P C Z
 UB:CH X Z
 sk:Z.top=true->X.stack=X.env::X.outer/\X.env.frame=some X.env.locals
def HR(K:gA)(P:RA)(C:Calls)(W:Nat)(Z:CC)(n:Nat):Prop:=∀X:Cx,dM X K P C Z->∀KD:List MA,sizeOf KD<n ->
 FC X KD (PF K P C W (iD Z KD))/\FC X KD (DI X K P C W (iD Z KD))
theorem dM.re{E:cA->qA->Prop}(c:dM X K P C Z)(po:xK (model X.prog X.w) X.A X.env E):dM (Cx.re X E pn) K P C Z:=⟨po,c.xo.re,c.UB,c.sk⟩
def Ve(ih:HR K P C W Z n)(cx:dM X K P C Z)(st:MA)(hZ:sizeOf st<n+1):PS X st (tS K P C W (cS Z st)):=by
 obtain⟨po,xo,UB,sk⟩:=id cx
 induction st using zt with
 |Pass _=>exact iTa
 |Break _=>exact ySa
 |Continue _=>exact zSa
 |Return e rp0 =>
  induction e using VG with
  |some e =>
   have hR:PS X (.Return (some e) rp0) (tS K P C W (E9 e (cE Z e))):=mTa (nF xo e);exact hR
  |none=>exact lTa
 |Expr e _ =>
  show PS X _ (tS K P C W (if XD e then .expr (cE Z e) else .pA));split
  ·exact cTa (nF xo _) ‹_›
  ·exact xC
 |If c a b _=>exact fTa (nF xo _) (ih _ cx a (CB hZ)).1 (ih _ cx b (CB hZ)).1
 |While c b o _ =>
  induction o using XB with
  |nil=>exact v1a po (nF xo _) (ih _ cx b (CB hZ)).1
  |cons _ _=>exact xC
 |For tg it b o D5 =>
  induction o using XB with
  |nil =>
   have hF:PS X (.For tg it b [] D5) (tS K P C W (match tG Z tg,ZJ Z it with
    |some (one,is),some (k,dA)=>if mK k one then .for is one k (tQ Z it b (pB Z dA)) (iD Z b) else .pA
    |_,_=>.pA)):=by
    cases h1:tG Z tg with
    |none=>exact xC
    |some t =>
     cases h2:ZJ Z it with
     |none=>exact xC
     |some u =>
      show PS X _ (tS K P C W (if mK u.1 t.1 then .for t.2 t.1 u.1 (tQ Z it b (pB Z u.2)) (iD Z b) else .pA));split
      ·exact Z_ xo UB h1 h2 ‹_› (Φ:=λits'=>PS X (.For tg it b [] _) (tS K P C W (.for t.2 t.1 u.1 its' (iD Z b)))) λhs hi hw=>vg po xo (jb xo UB h1) (ih _ cx b (CB hZ)).1 hs hi hw
      ·exact xC
   show PS X _ (tS K P C W (uS (sS Z it) (tG Z tg) (iD Z b) _));unfold uS;split
   ·rename_i u hu;obtain⟨wi,h1,h2,h3⟩:=T_ xo (tg:=tg) hu;split
    ·exact vg po xo (jb xo UB ‹_›) (ih _ cx b (CB hZ)).1 h1 h2 h3
    ·exact xC
   ·exact hF
  |cons _ _=>exact xC
 |Assign ts e _ =>
  obtain _ | ⟨t,_ | ⟨_,_⟩⟩:=ts
  ·exact xC
  ·induction t using WG with
   |Name x p =>
    show PS X _ (tS K P C W (match Z.fF x with | some i=>if XD e||WS e then .YA i (cE Z e) else .pA | none=>.pA));split
    ·split
     ·rename_i hc;rw[KL] at hc;rcases hc with hc | hc
      ·exact Vl xo UB ‹_› (nF xo _) hc
      ·exact wSa xo UB ‹_› (iNa xo _ hc)
     ·exact xC
    ·exact xC
   |Tuple ts _ _ =>
    show PS X _ (tS K P C W (match nK Z ts with | some is=>if XD e&&qT e then .kM is (cE Z e) else .pA | none=>dU Z ts e (cE Z e)));split
    ·split
     ·rename_i h;rw[WA] at h;exact vSa xo UB ‹_› (nF xo _) h.1 h.2
     ·exact xC
    ·exact qTa xo
   |Subscript a k _ =>
    cases a with
    |Name x p =>
     show PS X _ (tS K P C W (match Z.slot x with | some i=>if XD e&&fX k then RT i k (cE Z k) (cE Z e) else .pA | none=>.pA));split
     ·split
      ·rename_i h;rw[WA] at h;exact oTa xo ‹_› h.1 h.2
      ·exact xC
     ·exact xC
    |_=>exact xC
   |_=>exact xC
  ·induction t using WG with
   |Subscript a _ _=>cases a<;>exact xC
   |_=>exact xC
 |AugAssign t op e _ =>
  induction t using WG with
  |Name x p =>
   induction op using Ds with
   |Add =>
    show PS X _ (tS K P C W (match Z.fF x with | some i=>if XD e then .pA else .pA | none=>.pA));split
    ·split
     ·exact xC
     ·exact xC
    ·exact xC
   |_=>exact xC
  |_=>exact xC
 |Raise e c _ =>
  induction e using VG with
  |none=>exact xC
  |some e =>
   induction c using VG with
   |none =>
    show PS X _ (tS K P C W (OT Z e));unfold OT wX;split
    ·split
     ·split
      ·exact x9 λU=>rfl
      ·exact x9 λU=>rfl
      ·exact xC
     ·exact xC
    ·exact xC
   |some _=>exact xC
 |Try body hs o f _ =>
  show PS X _ (tS K P C W (gU Z (iD Z body) hs o f));unfold gU;split
  ·rename_i VN;rw[WA] at VN;obtain rfl:=yU.mp VN.1;obtain rfl:=yU.mp VN.2;split
   ·rename_i x n bd hh;obtain⟨np,hp,rfl⟩:=uCa hh;split
    ·rename_i hc;rw[WA] at hc;obtain⟨h2,h3⟩:=hc;have h2:=EC h2;obtain⟨s1,s2⟩:=sk h3;split
     ·exact xC
     ·split
      ·exact xC
      ·exact xC
    ·exact xC
   ·split
    ·obtain⟨s1,s2⟩:=sk ‹_›;exact uTa xo s1 s2 UB (λE pn DT=>(ih _ (cx.re DT) body (CB hZ)).1) (λE pn DT=>(ih _ (cx.re DT) body (CB hZ)).2)
    ·exact xC
  ·exact xC
 |_=>exact xC
def yx{n:Nat}(ih:HR K P C W Z n){X:Cx}(cx:dM X K P C Z)(KD:List MA)(hZ:sizeOf KD<n+1):FC X KD (PF K P C W (iD Z KD)):=by
 obtain⟨po,xo,UB,sk⟩:=id cx
 induction KD using XB with
 |nil=>exact wTa
 |cons s r=>exact vTa (Ve ih cx s (lN (by simp;lia) hZ)) (ih _ cx r (CB hZ)).1
theorem e_{c:E}{a b:List S}{U:Env}:GG P C W (.DA c a b) U=(match ev P C true c U with | some (.ok (.sh (.bl true)),U1)=>zD P C W a U1 | some (.ok (.sh (.bl false)),U1)=>zD P C W b U1 | _=>none):=rfl
theorem u_{s:S}{r:List S}{U:Env}:zD P C W (s::r) U=(match ex P C W s U with | some (.nx,U1)=>zD P C W r U1 | _=>GG P C W s U):=rfl
theorem h_{c:bA}{es:List E}{U:Env}:GG P C W (.AL c es) U=(match XE P C es U with | some (.ok _,U1)=>some (⟨c,none⟩,U1) | _=>none):=rfl
def ux(ih:HR K P C W Z n)(cx:dM X K P C Z)(st:MA)(hZ:sizeOf st<n+1):PS X st (zE X K P C W (cS Z st)):=by
 obtain⟨po,xo,UB,sk⟩:=id cx;have no:∀{st:MA} (c:S),(∀U,GG P C W c U=none)->PS X st (zE X K P C W c):=λc h aA s Y H D I hz=>by obtain⟨U,G,x,U',r,e,k⟩:=hz;rw[h] at e;cases e
 have pA:∀{st:MA},PS X st (zE X K P C W .pA):=no .pA λU=>rfl
 induction st using zt with
 |Pass _=>exact no .pass λU=>rfl
 |Break _=>exact no .brk λU=>rfl
 |Continue _=>exact no .cnt λU=>rfl
 |Return e rVa =>
  induction e using VG with
  |none=>exact no .tX λU=>rfl
  |some e =>
   have hR:PS X (.Return (some e) rVa) (zE X K P C W (E9 e (cE Z e))):=by(exact TS.ZE (y9 (E1 xo e)) λD Y H hz=>(by obtain⟨U,G,x,U',r,e0,k⟩:=hz;exact⟨U,G,x,U',r,(show GG P C W (.ret (cE Z e)) U=some (x,U') from e0),k⟩))
   exact hR
 |Expr e _ =>
  show PS X _ (zE X K P C W (if XD e then .expr (cE Z e) else .pA));split
  ·exact TS.ZE (Wl (E1 xo e) (UX ‹_› _ _ _)) λD Y H hz=>(by obtain⟨U,G,x,U',r,e0,k⟩:=hz;exact⟨U,G,x,U',r,e0,k⟩)
  ·exact pA
 |If c a b _ =>
  refine TS.ZE (Xl (nF xo c).t (ih _ cx a (CB hZ)).2 (ih _ cx b (CB hZ)).2) λD Y H hz=>?_
  obtain⟨U,G,x,U',r,e0,k⟩:=hz;replace e0:GG P C W (.DA (cE Z c) (iD Z a) (iD Z b)) U=some (x,U'):=e0;replace e0:=(e_ (a:=iD Z a)).symm.trans e0;split at e0
  ·rename_i U1 q;exact⟨U,G,true,U1,r,q,λH1 G1 a1=>⟨U1,G1,x,U',a1.oA,e0,k.pre (AA.s r a1)⟩⟩
  ·rename_i U1 q;exact⟨U,G,false,U1,r,q,λH1 G1 a1=>⟨U1,G1,x,U',a1.oA,e0,k.pre (AA.s r a1)⟩⟩
  ·cases e0
 |While c b o _ =>
  induction o using XB with
  |nil=>exact u1a po (nF xo c) (ih _ cx b (CB hZ)).1 (ih _ cx b (CB hZ)).2
  |cons _ _=>exact pA
 |For tg it b o D5 =>
  induction o using XB with
  |nil =>
   have hF:PS X (.For tg it b [] D5) (zE X K P C W (match tG Z tg,ZJ Z it with
    |some (one,is),some (k,dA)=>if mK k one then .for is one k (tQ Z it b (pB Z dA)) (iD Z b) else .pA
    |_,_=>.pA)):=by
    split
    ·split
     ·exact no (.for _ _ _ _ _) λU=>rfl
     ·exact pA
    ·exact pA
   show PS X _ (zE X K P C W (uS (sS Z it) (tG Z tg) (iD Z b) _));unfold uS;split
   ·rename_i u hu;split
    ·exact no (.for _ _ _ _ _) λU=>rfl
    ·exact pA
   ·exact hF
  |cons _ _=>exact pA
 |Assign ts e _ =>
  obtain _ | ⟨t,_ | ⟨_,_⟩⟩:=ts
  ·exact pA
  ·induction t using WG with
   |Name x p =>
    show PS X _ (zE X K P C W (match Z.fF x with | some i=>if XD e||WS e then .YA i (cE Z e) else .pA | none=>.pA));split
    ·rename_i i hi;split
     ·intro aA s Y H D I ⟨U,G,x0,U',r,e0,k⟩;replace e0:KH P C _ U=some (x0,U'):=e0;obtain⟨h1,h2,h3⟩:=jn xo hi;rcases df (GP e0) with ⟨f,p',a,r',pos',g,rfl,_⟩ | ⟨HA,tg,iter,DA,sc,pos',rfl,hq⟩
      case inr=>exact zx xo hq W x i p _ (by rw[xo.vI];exact xo.nd) h1 h2 (UB x h3) aA s Y H D I ⟨U,G,x0,U',r,e0,k⟩
      exact nTa (by rw[xo.vI];exact xo.nd) h1 h2 (E1 xo _) (UX rfl _ _ _) (UB x h3) aA s Y H D I ⟨U,G,x0,U',r,e0,k⟩
     ·exact pA
    ·exact pA
   |Tuple ts _ _ =>
    show PS X _ (zE X K P C W (match nK Z ts with | some is=>if XD e&&qT e then .kM is (cE Z e) else .pA | none=>dU Z ts e (cE Z e)));split
    ·split
     ·exact no (.kM _ _) λU=>rfl
     ·exact pA
    ·unfold dU
     (repeat' split)<;>first | exact pA | exact no (.swp _ _ _ _) λU=>rfl
   |Subscript a k _ =>
    cases a with
    |Name x p =>
     show PS X _ (zE X K P C W (match Z.slot x with | some i=>if XD e&&fX k then RT i k (cE Z k) (cE Z e) else .pA | none=>.pA));split
     ·split
      ·unfold RT;(repeat' split)<;>first | exact no (.set _ _ _) λU=>rfl | exact no (.v6a _ _ _) λU=>rfl
      ·exact pA
     ·exact pA
    |_=>exact pA
   |_=>exact pA
  ·induction t using WG with
   |Subscript a _ _=>cases a<;>exact pA
   |_=>exact pA
 |AugAssign t op e _ =>
  induction t using WG with
  |Name x p =>
   induction op using Ds with
   |Add =>
    show PS X _ (zE X K P C W (match Z.fF x with | some i=>if XD e then .pA else .pA | none=>.pA));split
    ·split
     ·exact pA
     ·exact pA
    ·exact pA
   |_=>exact pA
  |_=>exact pA
 |Raise e c _ =>
  induction e using VG with
  |none=>exact pA
  |some e =>
   induction c using VG with
   |none =>
    show PS X _ (zE X K P C W (OT Z e));unfold OT;split
    ·rename_i x0 R6;obtain⟨⟨x,np⟩,args,OC⟩:=x0;obtain rfl:=E7 R6;show PS X _ (zE X K P C W (wX Z x args));unfold wX;split
     ·rename_i hc;split
      ·rename_i hg;rw[WA] at hc;obtain⟨h1,h2,h3,h4⟩:=CC.MH xo hg (λz=>nomatch z);obtain⟨Ca,c1,c2,c3,c4⟩:=(xo.exc x h2).ex;have hK:=xo.ZC;obtain _ | ⟨a,aAk⟩:=args
       ·simp at hc
       ·have ns:=hc.1;rw[WC,WA] at ns;refine TS.ZE (jTa xo.hh h1 c2 (by rw[hK];exact c4) (sx xo (a::aAk) hc.1) h3 (lD ns.1 _ _) (zI ns.2 _ _).1) λD Y H hz=>?_
        obtain⟨U,G,x0,U',r,e0,k⟩:=hz;replace e0:=(h_ (P:=P) (C:=C) (W:=W)).symm.trans e0;split at e0
        ·rename_i ds U1 q;cases e0;refine⟨U,G,ds,_,r,q,λxs H1 G1 a1 rx=>⟨?_,λaA b s' I' F=>k aA Y H1 G1 s' b Ca (none,true) (AA.s r a1) I' F c1 c3 (pQa trivial)⟩⟩;rw[rx.len,bg q,J1,dP]
         have:=hc.2
         simp at this;simp
         lia
        ·cases e0
      ·exact no (.G9 _ _) λU=>rfl
      ·exact pA
     ·exact pA
    ·exact pA
   |some _=>exact pA
 |Try body hs o f _ =>
  show PS X _ (zE X K P C W (gU Z (iD Z body) hs o f));unfold gU yp zp;split
  ·rename_i VN;rw[WA] at VN;obtain rfl:=yU.mp VN.1;obtain rfl:=yU.mp VN.2;split
   ·split
    ·split
     ·exact pA
     ·split
      ·exact pA
      ·exact pA
    ·exact pA
   ·split
    ·obtain⟨s1,s2⟩:=sk ‹_›;exact uSa xo s1 s2 λE pn DT=>(ih _ (cx.re DT) body (CB hZ)).2
    ·exact pA
  ·exact pA
 |_=>exact pA
def wx{n:Nat}(ih:HR K P C W Z n){X:Cx}(cx:dM X K P C Z)(KD:List MA)(hZ:sizeOf KD<n+1):FC X KD (DI X K P C W (iD Z KD)):=by
 obtain⟨po,xo,UB,sk⟩:=id cx
 induction KD using XB with
 |nil=>exact λaA s Y H D I hz=>(by obtain⟨U,G,x,U',r,e,k⟩:=hz;exact nomatch (show(none:Option (Exc×Env))=some (x,U') from e))
 |cons st aAk =>
  have fQ:iD Z (st::aAk)=cS Z st::iD Z aAk:=by first | rfl | (show g6a (f6a Z st aAk) _ _=_;rw[qk];rfl)
  rw[fQ];refine TS.X6 (z9 (gTa (Ve ih cx st (lN (by simp;lia) hZ)) (ux ih cx st (lN (by simp;lia) hZ))) (ih _ cx aAk (CB hZ)).2) λD Y H hz=>?_
  obtain⟨U,G,x,U',r,e0,k⟩:=hz;replace e0:zD P C W (cS Z st::iD Z aAk) U=some (x,U'):=e0;rw[u_] at e0;split at e0
  ·rename_i U1 q;exact .inl ⟨U,G,.nx,U1,r,q,λY1 H1 G1 a1=>⟨U1,G1,x,U',a1.oA,e0,k.pre a1⟩⟩
  ·exact .inr ⟨U,G,x,U',r,e0,k⟩
theorem AW:∀n:Nat,HR K P C W Z n
 | 0,_,_,_,h=>absurd h (XY _)
 |n+1,_,c,KD,h=>⟨yx (AW n) c KD h,wx (AW n) c KD h⟩
def xx(po:xK (model X.prog X.w) X.A X.env X.xe)(xo:NA X K P C Z)(UB:CH X Z)(sk:Z.top=true->X.stack=X.env::X.outer/\X.env.frame=some X.env.locals)(KD:List MA):FC X KD (PF K P C W (iD Z KD)):=(AW _ X ⟨po,xo,UB,sk⟩ KD (FI _)).1
def vx(po:xK (model X.prog X.w) X.A X.env X.xe)(xo:NA X K P C Z)(UB:CH X Z)(sk:Z.top=true->X.stack=X.env::X.outer/\X.env.frame=some X.env.locals)(KD:List MA):FC X KD (DI X K P C W (iD Z KD)):=(AW _ X ⟨po,xo,UB,sk⟩ KD (FI _)).2
end
noncomputable def cX:vA->Option bA
 |.Name s _=>some s
 |_=>none
def F0:vA->Option (bA×bA)
 |.Attribute e f _=>(cX e).map λs=>(s,f)
 |_=>none
def A0:MA->Option (bA×bA×bA)
 |.Assign ts v _=>(match ts with
  |[]=>none
  |t::r=>(match r with
   |_::_=>none
   |[]=>(F0 t).bind λp=>(cX v).map λq=>(p.1,p.2,q)))
 |_=>none
def yk(h:cX e=some s):∃p,e=.Name s p:=by
 unfold cX at h;split at h
 ·cases h;exact⟨_,rfl⟩
 ·cases h
def Ov(h:F0 e=some x):∃p1 p2,e=.Attribute (.Name x.1 p1) x.2 p2:=by
 unfold F0 at h;split at h
 ·obtain⟨s,hs,rfl⟩:=VF.mp h;obtain⟨_,rfl⟩:=yk hs;exact⟨_,_,rfl⟩
 ·cases h
def Kv{st:MA}(h:A0 st=some x):∃p1 p2 p3 p4,st=.Assign [.Attribute (.Name x.1 p1) x.2.1 p2] (.Name x.2.2 p3) p4:=by
 unfold A0 at h;split at h
 ·rename_i ts v _
  induction ts using XB with
  |nil=>cases h
  |cons t r =>
   induction r using XB with
   |cons=>cases h
   |nil =>
    obtain⟨p,hp,h⟩:=zJ.mp h;obtain⟨q,hq,rfl⟩:=VF.mp h;obtain⟨_,_,rfl⟩:=Ov hp;obtain⟨_,rfl⟩:=yk hq;exact⟨_,_,_,_,rfl⟩
 ·cases h
def rL(ps:List bA):Nat->List MA->Option (List bA)
 |j,[]=>if j=ps.length then some [] else none
 |j,st::r=>(A0 st).bind λx=>if ps[0]?=some x.1/\ps[j]?=some x.2.2/\QK x.1=false/\QK x.2.2=false then(rL ps (j+1) r).map (x.2.1 :: ·) else none
theorem km:∀{fs:List (bA×V)},f ∉ fs.map (·.1)->vF f y fs=fs++[(f,y)]
 |[],_=>rfl
 | (g,x)::r,h=>by(rw[KC,wD,not_or] at h;rw[vF,LA (λz=>h.1 z.symm),km h.2];rfl)
def n1a(h:H a=some o):CA H a o=H:=by
 funext b
 unfold CA;split
 ·rename_i z;rw[z,h]
 ·rfl
theorem Sh{K:gA}(hK:X.K=K)(hN:∀(i:Nat) x,ps[i]?=some x->X.N[i]?=some x/\NR X.env.scope x)(hl:xs.length+1=ps.length)(cl:yG K Ca):∀(r:List MA) (j:Nat) (ns:List bA),rL ps j r=some ns->1<=j ->
  ∃t,FC X r t/\∀(D:Ends) (Y:L2.St) (H:Hp) (fs:List (bA×V)),(∀(i:Nat) v,(V.ref a::xs)[i]?=some v->Y[i]?=some (some v))->H a=some (.ins Ca dx fs)->(∀f∈ns,cM K Ca f)->(fs.map (·.1)++ns).Nodup->fs.length+ns.length<1000 ->
   D.nx Y (CA H a (.ins Ca dx (fs++ns.zip (xs.drop (j-1)))))->t D Y H
 |[],j,ns,h,hj=>by
  unfold rL at h;split at h
  ·rename_i hje;cases h;refine⟨Wa,cm,λD Y H fs _ ha _ _ _ q=>?_⟩;simp only[Er,JC] at q;rw[n1a ha] at q;exact q
  ·cases h
 |st::r,j,ns,h,hj=>by
  unfold rL at h;obtain⟨x,hx,h2⟩:=zJ.mp h;obtain⟨p1,p2,p3,p4,rfl⟩:=Kv hx;obtain⟨s,f,q⟩:=x;replace h:=h2;dsimp only at h;split at h
  ·rename_i hc;obtain⟨c1,c2,c3,c4⟩:=hc
   cases q1:rL ps (j+1) r with
   |none=>rw[q1] at h;cases h
   |some JE =>
    rw[q1] at h;cases h;obtain⟨t,ht,k⟩:=Sh hK hN hl cl r (j+1) JE q1 (by lia);simp only[QK,Vb] at c3 c4;have v0:=j9 (pos:=p1) (hN 0 s c1).1 (hN 0 s c1).2 c3.1.1 c3.1.2;have v1:=j9 (pos:=p3) (hN j q c2).1 (hN j q c2).2 c4.1.1 c4.1.2;refine⟨_,z9 (dTa v0 v1 rfl) ht,λD Y H fs hY ha hn UN AD qq=>?_⟩;have i6:j<ps.length:=(RD.mp c2).1;obtain⟨j',rfl⟩:∃j',j=j'+1:=⟨j-1,by lia⟩
    have XJ:j'<xs.length:=by lia
    have hx:(V.ref a::xs)[j'+1]?=some xs[j']:=by simp[XJ]
    have TJ:f ∉ fs.map (·.1):=λz=>by
     have:=(Ur.mp UN).2.2 f z f (by simp)
     exact this rfl
    refine⟨_,hY _ _ hx,.ref a,hY 0 _ rfl,a,Ca,dx,fs,rfl,ha,by rw[hK];exact cl,by rw[hK];exact hn f (by simp),by simp at AD;lia, ?_⟩;rw[km TJ];refine k D Y _ _ hY VC (λg hg=>hn g (fD _ hg)) ?_ ?_ ?_
    ·simpa using UN
    ·simp at AD ⊢;lia
    ·rw[xb]
     have e:fs++(f::JE).zip (xs.drop (j'+1-1))=fs++[(f,xs[j'])]++JE.zip (xs.drop (j'+1+1-1)):=by(rw[show j'+1-1=j' from rfl,show j'+1+1-1=j'+1 from rfl,lP XJ,aN,BJ];rfl)
     rw[<- e];exact qq
  ·cases h
def eEa{K:gA}{mg:bA->Option cA}{st:MA}{fa:fA}(F:GK K y XA st fa fd)(S:ZL N ps (dC st))(hb:rL ps 1 (fE st)=some ns)(hp:ps.length=ns.length+1)(UN:ns.Nodup)(AD:ns.length<1000) :
  sE Pr w K mg base XG 1 fa fd ps (Bn K ns):=by
 refine F.ok S (λvs H Q E h=>?_) λVA A outer s H vs Q E hr h=>?_
 ·obtain⟨a,Ca,dx,xs,rfl,h1,_⟩:=h;rw[QC,h1,hp]
 ·obtain⟨a,Ca,dx,xs,rfl,h1,h2,h3,q⟩:=h
  have hNN:∀(i:Nat) x,ps[i]?=some x->N[i]?=some x/\NR (dC st) x:=λi x hx=>by
   have hm:x∈ps:=YH hx;refine⟨?_, ?_⟩
   ·have:=S.pre
    rw[<- this,List.getElem?_take] at hx;split at hx
    ·exact hx
    ·cases hx
   ·rcases S.par x hm with z | z
    ·exact .inl z
    ·exact .inr (.inl z)
  obtain⟨t,ht,k⟩:=Sh (X:=(DG XG Pr w K mg base N XA (dC st) fa VA A outer s H E).HQ) (xs:=xs) (a:=a) rfl hNN (by lia) h3.cl (fE st) 1 ns hb (mB _)
  ·refine⟨t,ht,k _ _ H [] (λi v hv=>?_) h2 h3.no (by simpa using UN) (by simpa using AD) ?_⟩
   ·have hl:i<(V.ref a::xs).length:=(RD.mp hv).1;rw[ua hl,jE,hv];rfl
   ·simpa using q
structure SU(K:gA)(mg:bA->Option cA)(x:bA):Prop where
 ex:True
def SU.at{K:gA}(hK:X.K=K)(e:SU K X.mg x):RU X K x:=⟨trivial⟩
structure DR(K:gA)(T:Tab)(gl:bA->GV)(f:String)(fa:fA)(fd:QG)(ps:List bA):Prop where
 bd:aAu K fd ps []
 ex:∃(y XA:bA) (st:MA) (N:List bA) (fn:Fn),GK K y XA st fa fd/\ZL N ps (dC st)/\N.Nodup/\T f=some fn/\fn.body=iD ⟨N,(dC st).names,gl,true⟩ (fE st)/\N.length=fn.aA.length+fn.nl/\ps.length=fn.aA.length
structure Entry(K:gA)(mg:bA->Option cA)(T:Tab)(gl:bA->GV)(x:bA)(f:String)(fa:fA)(fd:QG)(ps:List bA):Prop where
 gk:mg x=some (.ref fa)
 kp:UG K (.ref fa)=true
 b:DR K T gl f fa fd ps
structure DZ(K:gA)(mg:bA->Option cA)(x:bA)(ns:List bA):Prop where
 ex:∃(Ca fa:fA) (fd:QG) (ps:List bA) (y XA:bA) (st:MA) (N:List bA),LC K IB x=some (some (.ref Ca))/\mg x=some (.ref Ca)/\Mk K Ca fa/\NU K Ca ns /\
  GK K y XA st fa fd/\ZL N ps (dC st)/\rL ps 1 (fE st)=some ns/\ps.length=ns.length+1/\ns.Nodup/\ns.length<1000/\aAu K fd ps []
structure QZ(K:gA)(T:Tab)(gl:bA->GV)(c m:bA)(f:String):Prop where
 ex:∃(Ca fa:fA) (fd:QG) (ps:List bA),LC K IB c=some (some (.ref Ca))/\Meth K Ca m fa/\DR K T gl f fa fd ps/\yG K Ca
structure FZ(K:gA)(mg:bA->Option cA)(T:Tab)(gl:bA->GV):Prop where
 c:∀x d,gl x=.c d->∃u v,mg x=some u/\aAe v u/\∀G,jA K G d v
 BB:∀x,gl x=.BB->mg x=none
 fn:∀x f,gl x=.fn f->∃fa fd ps,Entry K mg T gl x f fa fd ps
 cls:∀x ns,gl x=.cls ns->DZ K mg x ns
 sF:∀m tb c f,gl (dot m)=.sF tb->tb.lookup c=some f->QZ K T gl c m f
 sub:∀x s n,gl (col x)=.sub s n->TU K mg x s n
 AI:∀x s n,gl (col x)=.AI s n->UU K mg x s n
 exc:∀x,gl x=.exc->ExcAt K mg x
 LJ:∀x,gl x=.LJ->SU K mg x
 IA:∀x cs,gl (cat x)=.IA cs->ER K mg x cs
def vX{b:Bool}{o:Option (Exc×Env)}{as QA:List Sl}{v:RV}(h:(if b=true then(match o with | some (x,U)=>(some (Out.ex x,back as U):xA RV) | none=>none) else none)=some (.ok v,QA)):False:=by
 split at h
 ·split at h<;>cases h
 ·cases h
abbrev Nt(Pr:pC)(w:NB)(K:gA)(mg:bA->Option cA)(base:jB)(T:Tab)(gl:bA->GV)(W d:Nat):Prop:=∀(f:String) (fa:fA) (fd:QG) (ps:List bA),DR K T gl f fa fd ps->sE Pr w K mg base XG (d+2) fa fd ps (PQ K (T.aA f).length (run T W d f))/\sE Pr w K mg base (II Pr w) (d+2) fa fd ps (U9 K (T.aA f).length (run T W d f))
def dq{Pr:pC}{w:NB}{K:gA}{mg:bA->Option cA}{base:jB}{T:Tab}{gl:bA->GV}{W d:Nat}{N:List bA}{XA:bA}{st:MA}{fa:fA}{VA:cA}{A:LD}{outer:List yK}{s:qA}{H:Hp}{E:XK}{xe:cA->qA->Prop}(g:FZ K mg T gl)(ih:Nt Pr w K mg base T gl W d)(nd:N.Nodup)(hr:zC (d+2) (DG XG Pr w K mg base N XA (dC st) fa VA A outer s H E).A) :
  NA { DG XG Pr w K mg base N XA (dC st) fa VA A outer s H E with xe:=xe } K T.aA (run T W d) ⟨N,(dC st).names,gl,true⟩:=by
 refine NA.of rfl rfl rfl nd rfl hr.hd hr.units g.c g.BB (λx' f' hx=>?_) (λx' ns hx=>?_) (λm tb c f' h1 h2=>?_) (hr.mono (by lia)) g.sub g.AI ⟨g.exc,λx hx=>(g.LJ x hx).at rfl⟩ g.IA (λx' f' hx=>?_) ⟨_,_,_,rfl,rfl,rfl⟩
 ·obtain⟨VI,MJ,nH,e'⟩:=g.fn x' f' hx;exact⟨VI,MJ,nH,d+2,(ih f' VI MJ nH e'.b).1,hr,e'.gk,e'.kp,e'.b.bd⟩
 ·obtain⟨Ca,VI,MJ,nH,y',r6a,sA,N',h1,h2,h3,h4,h5,h6,h7,h8,h9,h10,h11⟩:=(g.cls x' ns hx).ex;exact⟨Ca,VI,MJ,nH,h1,h2,h3,h4,eEa h5 h6 h7 h8 h9 h10,h11⟩
 ·obtain⟨Ca,VI,MJ,nH,h3,h4,e',DD⟩:=(g.sF m tb c f' h1 h2).ex;exact⟨Ca,VI,MJ,nH,d+2,h3,h4,(ih f' VI MJ nH e').1,hr,e'.bd,DD⟩
 ·obtain⟨VI,MJ,nH,e'⟩:=g.fn x' f' hx;exact⟨VI,MJ,nH,d+2,(ih f' VI MJ nH e'.b).2,hr,e'.gk,e'.kp,e'.b.bd⟩
theorem A5{Pr:pC}{w:NB}{K:gA}{mg:bA->Option cA}{base:jB}{T:Tab}{gl:bA->GV}(W:Nat)(g:FZ K mg T gl):∀(d:Nat) (f:String) (fa:fA) (fd:QG) (ps:List bA),
  DR K T gl f fa fd ps->sE Pr w K mg base XG (d+2) fa fd ps (PQ K (T.aA f).length (run T W d f))/\sE Pr w K mg base (II Pr w) (d+2) fa fd ps (U9 K (T.aA f).length (run T W d f))
 | 0,f,fa,fd,ps,e=>⟨⟨λvs H Q E h=>by obtain⟨_,as,G,v,QA,_,_,z,_⟩:=h;simp[run] at z,λA outer s H args us vs Q E _ _ _ _ h=>by obtain⟨_,as,G,v,QA,_,_,z,_⟩:=h;simp[run] at z⟩,
  ⟨λvs H Q E h=>by obtain⟨_,as,G,v,QA,_,_,z,_⟩:=h;simp[run] at z,λA outer s H args us vs Q E _ _ _ _ h=>by obtain⟨_,as,G,v,QA,_,_,z,_⟩:=h;simp[run] at z⟩⟩
 |d+1,f,fa,fd,ps,e=>by
  obtain⟨y,XA,st,N,fn,F,S,nd,hT,hb,hN,pW⟩:=e.ex;have xh:T.aA f=fn.aA:=by unfold Tab.aA;rw[hT]
  refine⟨F.ok S (λvs H Q E h=>by rw[h.1,xh,pW]) λVA A outer s H vs Q E hr h=>?_, ?_⟩
  ·obtain⟨hl,as,G,v,QA,oA,gL,er,k⟩:=h
   let X:Cx:=(DG XG Pr w K mg base N XA (dC st) fa VA A outer s H E).HQ
   let Z:CC:=⟨N,(dC st).names,gl,true⟩
   have xo:NA X K T.aA (run T W d) Z:=dq (E:=E) g (A5 W g d) nd hr;refine⟨_,xx (W:=W) (X:=X) (Z:=Z) PassesOwn.never xo (λ_ _=>.inl rfl) (λ_=>⟨rfl,rfl⟩) (fE st), ?_⟩;simp only[run,hT] at er;split at er
   ·rename_i hc;rw[hb] at er;have cQ:N.length=as.length+fn.nl:=by rw[hN,hc.1]
    have nW:=oA.pad cQ
    cases q:IA T.aA (run T W d) W (iD ⟨N,(dC st).names,gl,true⟩ (fE st)) (as++LB fn.nl .un) with
    |none=>rw[q] at er;exact(vX er).elim
    |some y =>
     obtain⟨fl,U'⟩:=y;rw[q] at er;refine⟨as++LB fn.nl .un,G,fl,U',nW.1,q, ?_⟩
     induction fl using Fl.casesOn with
     |nx =>
      cases er;intro Y' H' G' a;obtain⟨b1,b2⟩:=cV oA hc.2 cQ a;exact k .lA H' G' b1 (by show jA K G' .lA _;simp[jA])
     |rt v' =>
      cases er;intro x' Y' H' G' a hv;obtain⟨b1,b2⟩:=cV oA hc.2 cQ a;refine k x' H' G' b1 ?_
      have key:∀c,¬yA U' Y' c->(yA (as++LB fn.nl .un) (aAm N vs) c\/H c=none)->H c=none:=λc nc mc=>by
       rcases mc with mc | mc
       ·have:=nW.2 c mc
        obtain⟨i,d1,p1,l1,h1,h2⟩:=this;refine absurd ?_ nc
        apply b2 c
        have hp:=YF.mp hc.2 _ (YH h1);simp only[fK] at hp;subst hp
        have:=b1.KJ i
        rw[h1] at this
        cases q3:(back as U')[i]? with
        |none=>rw[q3] at this;exact this.elim
        |some s =>
         rw[q3] at this
         induction s using Sl.casesOn with
         |ow d2 p2 l2=>exact⟨i,d2,p2,l2,q3,h2⟩
         |sh d2=>exact absurd (show true=false from this) (by simp)
         |un=>exact this.elim
         |mv=>exact this.elim
       ·exact mc
      induction v using RV.casesOn with
      |sh d0=>exact hv
      |ow d0 =>
       obtain⟨c,rfl,gc,oc,nc,mc⟩:=hv;exact⟨c,rfl,gc,oc,λz=>nc (b2 c z),key c nc mc⟩
      |od d0 =>
       obtain⟨c,rfl,gc,oc,nc,mc,ys,hy,hr⟩:=hv;exact⟨c,rfl,gc,oc,λz=>nc (b2 c z),key c nc mc,ys,hy,λx hx=>let ⟨b,ws,h1,h2,h3,h4,h5,h6⟩:=hr x hx;⟨b,ws,h1,h2,h3,λz=>h4 (b2 b z),key b h4 h5,h6⟩⟩
     |bk=>exact(vX er).elim
     |ct=>exact(vX er).elim
     |ex x'=>exact(vX er).elim
   ·cases er
  ·obtain⟨oc,od,kV,doc,pm,an,VA,ct,bF,rfl,lk,lI⟩:=F.ex;refine og lk lI S (λvs H Q E h=>by rw[h.1,xh,pW]) λA outer s H vs Q E hr h=>?_
   obtain⟨hl,as,G,x0,QA,oA,gL,er,k⟩:=h
   let X:Cx:=DG (II Pr w) Pr w K mg base N XA (dC st) fa VA A outer s H E
   let Z:CC:=⟨N,(dC st).names,gl,true⟩
   have xo:NA X K T.aA (run T W d) Z:=dq (E:=E) g (A5 W g d) nd hr;refine⟨_,vx (W:=W) (X:=X) (Z:=Z) PassesOwn.leaving xo (λ_ _=>.inl rfl) (λ_=>⟨rfl,rfl⟩) (fE st), ?_⟩;simp only[run,hT] at er;split at er
   ·rename_i hc;rw[hb] at er;have cQ:N.length=as.length+fn.nl:=by rw[hN,hc.1]
    have nW:=oA.pad cQ;split at er
    ·cases er
    ·cases er
    ·split at er
     ·split at er
      ·rename_i x1 U' q;cases er;refine⟨as++LB fn.nl .un,G,x0,U',nW.1,q,λeF Y' H' G' s' a Ca p gM I' F' DD hg oQ=>?_⟩;obtain⟨b1,b2⟩:=cV oA hc.2 cQ gM;exact vy I' F' (k H' G' Ca p b1 DD hg oQ)
      ·cases er
     ·cases er
   ·cases er
def eD(st:MA):List bA:=(JH st).args.map (·.arg)
def zL(st:MA):List bA:=eD st++(((dC st).names.filter λy=>(y.2==.local||y.2==.cell) && !(eD st).contains y.1).map (·.1))
def Jf(gl:bA->GV)(st:MA):List S:=iD ⟨zL st,(dC st).names,gl,true⟩ (fE st)
structure PZ(K:gA)(x m XA:bA)(st:MA):Prop where
 ex:∃(Ca f:fA) (oc:cA) (od an:Option fA) (kV doc pm VA ct:cA) (bF:Array (Option cA)),LC K IB x=some (some (.ref Ca))/\DF K (.ref Ca) m=some (some (.ref f))/\GU K (.ref f)=true /\
  K.lookup f=some ⟨oc,od,.func (yH m XA (JH st) (fE st) (dC st) .none kV doc pm an VA ct),bF⟩/\YO K VA XA=true/\UG K (.ref f)=true
def nG{K:gA}{st:MA}{kV doc pm VA ct:cA}(a:LC K IB x=some (some (.ref Ca)))(b:DF K (.ref Ca) m=some (some (.ref f)))(i:GU K (.ref f)=true)
  (l:K.lookup f=some ⟨oc,od,.func (yH m XA (JH st) (fE st) (dC st) .none kV doc pm an VA ct),bF⟩) (c:YO K VA XA=true) (k:UG K (.ref f)=true):PZ K x m XA st :=
 ⟨Ca,f,oc,od,an,kV,doc,pm,VA,ct,bF,a,b,i,l,c,k⟩
structure ClsAt(K:gA)(x:bA):Prop where
 ex:∃Ca:fA,LC K IB x=some (some (.ref Ca))/\yG K Ca/\UY K Ca=true/\UG K (.ref Ca)=true
def HN{K:gA}(a:LC K IB x=some (some (.ref Ca)))(pg:lR K Ca Str.empty=true)(hd:uU K Ca=true)(po:Bc K Ca=true)
  (sa:DF K (.ref Ca) "__setattr__"=some (some (.builtin "object.__setattr__"))) (mk:UY K Ca=true) (kp:UG K (.ref Ca)=true):ClsAt K x:=⟨Ca,a,⟨pg,hd,po,sa⟩,mk,kp⟩
def Yd(K:gA)(x f:bA):Prop:=∃Ca:fA,LC K IB x=some (some (.ref Ca))/\DF K (.ref Ca) f=some none
def jO{K:gA}(a:LC K IB x=some (some (.ref Ca)))(b:DF K (.ref Ca) f=some none):Yd K x f:=⟨Ca,a,b⟩
structure AR(K:gA)(x:bA)(st:MA):Prop where
 ex:∃(f:fA) (oc:cA) (od an:Option fA) (kV doc pm VA ct:cA) (bF:Array (Option cA)),LC K IB x=some (some (.ref f)) /\
  K.lookup f=some ⟨oc,od,.func (yH x x (JH st) (fE st) (dC st) .none kV doc pm an VA ct),bF⟩/\YO K VA x=true/\UG K (.ref f)=true
def Pf{K:gA}{st:MA}{kV doc pm VA ct:cA}(a:LC K IB x=some (some (.ref f)))
  (l:K.lookup f=some ⟨oc,od,.func (yH x x (JH st) (fE st) (dC st) .none kV doc pm an VA ct),bF⟩) (c:YO K VA x=true) (k:UG K (.ref f)=true):AR K x st :=
 ⟨f,oc,od,an,kV,doc,pm,VA,ct,bF,a,l,c,k⟩
structure AH(gl:bA->GV)(st:MA)(x XA:bA)(fn:Fn):Prop where
 sc:ZL (zL st) (eD st) (dC st)
 body:fn.body=Jf gl st
 len:(zL st).length=fn.aA.length+fn.nl
 pl:(eD st).length=fn.aA.length
 bind:∀(kV doc pm:cA) (an:Option fA) (VA ct:cA) (us:List cA),us.length=(eD st).length->bindArgs (yH x XA (JH st) (fE st) (dC st) .none kV doc pm an VA ct) ⟨us,[]⟩=pure ((eD st).zip us)
abbrev BR(gl:bA->GV)(st:MA)(x:bA)(fn:Fn):Prop:=AH gl st x x fn
def T2{K:gA}{st:MA}(F:GK K x XA st fa fd)(O:AH gl st x XA fn)(hT:T f=some fn):DR K T gl f fa fd (eD st) :=
 ⟨F.binds O.bind,x,XA,st,zL st,fn,F,O.sc,O.sc.nd,hT,O.body,O.len,O.pl⟩
def yL{K:gA}{st:MA}(A:ClsAt K x)(D:PZ K x m XA st)(O:AH gl st m XA fn)(hT:T f=some fn):QZ K T gl x m f:=by
 obtain⟨Ca,fa,oc,od,an,kV,doc,pm,VA,ct,bF,a,b,i,l,c,k⟩:=D.ex;obtain⟨Cb,a',cl,_,_⟩:=A.ex;rw[a] at a';cases a';exact⟨Ca,fa,_,eD st,a,⟨b,i,k⟩,T2 (OV l c k) O hT,cl⟩
structure IK(st:MA)(XA:bA)(ns:List bA):Prop where
 sc:ZL (zL st) (eD st) (dC st)
 body:rL (eD st) 1 (fE st)=some ns
 pl:(eD st).length=ns.length+1
 nd:ns.Nodup
 lt:ns.length<1000
 bind:∀(kV doc pm:cA) (an:Option fA) (VA ct:cA) (us:List cA),us.length=(eD st).length->bindArgs (yH "__init__" XA (JH st) (fE st) (dC st) .none kV doc pm an VA ct) ⟨us,[]⟩=pure ((eD st).zip us)
def JN{K:gA}{st:MA}(X:K.In h)(G:h.Ns IB mg)(A:ClsAt K x)(D:PZ K x "__init__" XA st)(O:IK st XA ns)(N:∀f∈ns,Yd K x f):DZ K mg x ns:=by
 obtain⟨Ca,a,cl,mk,kp⟩:=A.ex;obtain⟨Cb,fa,oc,od,an,kV,doc,pm,VA,ct,bF,a',b,i,l,c,k⟩:=D.ex;rw[a] at a';cases a';have F:=OV l c k;refine⟨Ca,fa,_,eD st,"__init__",XA,st,zL st,a,jN X G a,⟨mk,b,i,kp⟩,⟨cl,λf hf=>?_⟩,F,O.sc,O.body,O.pl,O.nd,O.lt,F.binds O.bind⟩;obtain⟨Cc,a2,b2⟩:=N f hf;rw[a] at a2;cases a2;exact b2
def Vy{K:gA}{st:MA}(X:K.In h)(G:h.Ns IB mg)(D:AR K x st)(O:BR gl st x fn)(hT:T f=some fn):∃fa fd ps,Entry K mg T gl x f fa fd ps:=by
 obtain⟨fa,oc,od,an,kV,doc,pm,VA,ct,bF,a,l,c,k⟩:=D.ex;have F:=OV l c k;exact⟨fa,_,eD st,jN X G a,k,T2 F O hT⟩
noncomputable def HE(L:List (bA×GV))(x:bA):GV:=(L.lookup x).getD .no
theorem aAq[BEq O][LawfulBEq O]:∀{L:List (O×N)} {x:O} {v:N},L.lookup x=some v->(x,v)∈L
 |[],_,_,h=>by simp at h
 | (y,w)::L,x,v,h=>by
  rw[aI] at h;split at h
  ·rename_i hb;cases h;rw[EC hb];exact qE
  ·exact fD _ (aAq h)
def PJ(h:HE L x=v)(n:v≠.no):(x,v)∈L:=by
 unfold HE at h
 cases q:L.lookup x with
 |none=>rw[q] at h;exact absurd h.symm n
 |some w =>
  rw[q] at h;cases h;exact aAq q
def BH(K:gA)(mg:bA->Option cA)(T:Tab)(gl:bA->GV):bA×GV->Prop
 | (x,.cls ns)=>DZ K mg x ns
 | (x,.sF tb)=>∃m,x=dot m/\∀p∈tb,QZ K T gl p.1 m p.2
 | (x,.c d)=>∃u v,mg x=some u/\aAe v u/\∀G,jA K G d v
 | (x,.BB)=>mg x=none
 | (x,.fn f)=>∃fa fd ps,Entry K mg T gl x f fa fd ps
 | (x,.sub s n)=>∃m,x=col m/\TU K mg m s n
 | (x,.AI s n)=>∃m,x=col m/\UU K mg m s n
 | (x,.exc)=>ExcAt K mg x
 | (x,.LJ)=>SU K mg x
 | (x,.IA cs)=>∃m,x=cat m/\ER K mg m cs
 | (_,.no)=>True
def Ql{x y:bA}(h:(⟨p++x.cps⟩:bA)=⟨p++y.cps⟩):x=y:=by
 have e6:=congrArg FU (congrArg Str.cps h);simp only[JY] at e6;have e5:=RY.mp (yY e6);cases x;cases y;simp only at e5;rw[e5]
def pAa{K:gA}(h:∀p∈L,BH K mg T (HE L) p):FZ K mg T (HE L) :=
 ⟨λx d e=>h _ (PJ e (λz=>nomatch z)),λx e=>h _ (PJ e (λz=>nomatch z)),λx f e=>h _ (PJ e (λz=>nomatch z)),λx ns e=>h _ (PJ e (λz=>nomatch z)),λm tb c f e e2=>by
  obtain⟨m',e3,k⟩:=h _ (PJ e (λz=>nomatch z))
  have:m'=m:=by
   unfold dot at e3;have e4:(#[46]++m.cps:Array Nat)=#[46]++m'.cps:=congrArg Str.cps e3
   have e5:m.cps=m'.cps:=by(have e6:=congrArg FU e4;rw[JY,JY] at e6;exact RY.mp (yY e6))
   cases m;cases m';simp only at e5;rw[e5]
  subst this;exact k _ (aAq e2),λx s n e=>by
  obtain⟨m',e3,k⟩:=h _ (PJ e (λz=>nomatch z))
  have:m'=x:=by
   unfold col at e3
   have e5:x.cps=m'.cps:=by(have e6:=congrArg FU (congrArg Str.cps e3);simp only[JY] at e6;exact RY.mp (yY e6))
   cases x;cases m';simp only at e5;rw[e5]
  subst this;exact k,λx s n e=>by
  obtain⟨m',e3,k⟩:=h _ (PJ e (λz=>nomatch z));rw[Ql e3];exact k,λx e=>h _ (PJ e (λz=>nomatch z)),λx e=>h _ (PJ e (λz=>nomatch z)),λx cs e=>by
  obtain⟨m',e3,k⟩:=h _ (PJ e (λz=>nomatch z));rw[Ql e3]
  exact k⟩
def T1{K:gA}(X:K.In h)(G:h.Ns IB mg)(a:LC K IB x=some (some (.int i t))):BH K mg T gl (x,.c (.int i)) :=
 ⟨_,.int i,jN X G a,⟨t,rfl⟩,λG=>by simp[jA]⟩
def Nw{K:gA}(X:K.In h)(G:h.Ns IB mg)(a:LC K IB x=some none):BH K mg T gl (x,.BB):=PySem.W.mg_none_of X G a
structure mP(K:gA)(x:bA):Prop where
 ex:∃C:fA,LC K IB x=some (some (.ref C))/\tN K C/\FK K C none
def y3{K:gA}(a:LC K IB x=some (some (.ref C)))(q:jd K C oV "ValueError.__new__"=true)(ga:DF K (.ref C) "__getattribute__"=some (some (.builtin "BaseException.__getattribute__")))(no:DF K (.ref C) "__getattr__"=some none)
  (cl:DF K (.ref C) "__class__"=some (some (.builtin "object.__class__"))) (gt:Rr K (.builtin "object.__class__") "__get__"=some (some (.builtin "getset_descriptor.__get__"))) (tk:Us K (.builtin "object.__class__")=some true)
  (mo:sJ K C (.type "object")=some true) (mb:sJ K C (.type "BaseException")=some true) (mv:sJ K C (.type "ValueError")=some true):mP K x:=⟨C,a,⟨⟨_,cg q⟩,ga,no,cl,gt,tk,mo,mb,mv⟩,cg q⟩
structure Vd(K:gA)(c x:bA):Prop where
 ex:∃C D:fA,LC K IB c=some (some (.ref C))/\LC K IB x=some (some (.ref D))/\sJ K C (.ref D)=some true
def tKa{K:gA}{C D:fA}(a:LC K IB c=some (some (.ref C)))(b:LC K IB x=some (some (.ref D)))(m:sJ K C (.ref D)=some true):Vd K c x:=⟨C,D,a,b,m⟩
def A3{K:gA}(X:K.In h)(G:h.Ns IB mg)(A:mP K x):BH K mg T gl (x,.exc):=by
 obtain⟨C,a,g,p⟩:=A.ex;exact⟨C,a,jN X G a,g,p⟩
def w_{K:gA}(X:K.In h)(G:h.Ns IB mg)(A:mP K x)(M:∀c∈cs,Vd K c x):BH K mg T gl (cat x,.IA cs):=by
 obtain⟨D,a,g,_⟩:=A.ex;refine⟨x,rfl,D,jN X G a,g.q,λc hc C e=>?_⟩;obtain⟨C',D',e1,e2,k⟩:=(M c hc).ex;rw[e] at e1;cases e1;rw[a] at e2;cases e2;exact k
def wIa{l:KU}{K:Params->gA}{st:MA}
  (hn:l.most=some 63) (AS:d.params.defaults=[]) (hr:zC (n+2) callerA) (hx:d.name=x) (hT:T f=some fn) (O:BR (HE L) st x fn) (hp:eD st=[p])
  (hY:∀(w:NB) (h:jB),YP w h->(K w.params).In h)
  (F:∀(w:NB) (mg:bA->Option cA) (h:jB),(K w.params).In h->h.Ns IB mg->AR (K w.params) x st/\∀p∈L,BH (K w.params) mg T (HE L) p)
  (M:∀ns:List Int,ns.length<=63->∃QA,run T W n f [.sh (.l (ns.map .int))]=some (.ok (.sh (.bl true)),QA)) :
  Dd q loose XP YP l.row.toRowW d [] (λf vs=>Kd f vs):=by
 refine L2.r1a (n:=63) (k:=n+2) (x:=p) (CX:=λ_=>XG) (sp:=λw=>PQ (K w.params) 1 (run T W n f)) hn (by decide) AS hr hY (λw mg fa h KX G lQ=>?_) (λw H a ns hl hO hS=>?_) λ_ _ _ _ _ z=>z
 ·obtain⟨D,hG⟩:=F w mg h KX G;have g:=pAa hG;obtain⟨VI,oc,od,an,kV,doc,pm,VA,ct,bF,a,lk,c,k⟩:=D.ex;have hm:=jN KX G a;rw[hx,hm] at lQ;cases lQ;have Fu:=OV lk c k;have E:Entry (K w.params) mg T (HE L) x f fa _ (eD st):=⟨hm,k,T2 Fu O hT⟩
  have eDa:(T.aA f).length=1:=by(unfold Tab.aA;rw[hT];show fn.aA.length=1;rw[<- O.pl,hp];rfl)
  refine⟨yH x x (JH st) (fE st) (dC st) .none kV doc pm an VA ct,λs u=>?_,λbase kb nb=>?_⟩
  rotate_left
  ·have:=(A5 (Pr:=l.prog) (w:=w) (base:=base) W g n f fa _ (eD st) E.b).1
   rw[eDa] at this;rw[hp] at this;exact this
  ·have:=O.bind kV doc pm an VA ct [u] (by rw[hp];rfl)
   rw[hp] at this;exact .of_eq this
 ·obtain⟨QA,e⟩:=M ns hl
  have qW:iA (K w.params) H (ns.map .int) (ns.map V.int):=by
   induction ns with
   |nil=>exact iA.nil
   |cons i r ih=>exact iA.cons (by simp[jA]) (by
     clear e hS hl ih
     induction r with
     |nil=>exact iA.nil
     |cons i r ih=>exact iA.cons (by simp[jA]) ih)
  refine⟨rfl,[.sh (.l (ns.map .int))],H,.sh (.bl true),QA,BA.dS (BA.nil (bB.refl _)) ?_,rfl,e,λx H' G' _ hv=>MT (K:=K w.params) (G:=G') hv⟩;simp only[jA];exact⟨a,_,rfl,hS,qW⟩
end CI
namespace CI
open PySem (Operator CmpOp)
noncomputable section
variable{U U1 U2:Env}
theorem IM:Run.next (some (.nx,U)) f=f U:=rfl
theorem uMa:Run.next (some (.rt v,U)) f=some (.rt v,U):=rfl
theorem qAa:JF (some U)=some (.nx,U):=rfl
noncomputable def bR(f:O->Env->xA N)(r:xA O):xA N:=r.bind f
theorem Xv:r.bind f=bR f r:=rfl
theorem Yv:bR f (some (.ok a,U))=f a U:=rfl
noncomputable def fR(f:O->Env->Run)(r:xA O):Run:=r.VB f
theorem y_:r.VB f=fR f r:=rfl
theorem A_:fR f (some (.ok a,U))=f a U:=rfl
theorem z_:fR f (some (.ex x,U))=some (.ex x,U):=rfl
noncomputable def nR(f:Env->Run)(r:Run):Run:=r.next f
theorem nR_:r.next f=nR f r:=rfl
theorem fLa:nR f (some (.nx,U))=f U:=rfl
theorem gLa:nR f (some (.rt v,U))=some (.rt v,U):=rfl
theorem dLa:nR f (some (.ex x,U))=some (.ex x,U):=rfl
theorem eLa:nR f none=none:=rfl
noncomputable def dR(U:Env)(o:Option RV):xA RV:=done o U
theorem wy:done o U=dR U o:=rfl
theorem xy:dR U (some v)=some (.ok v,U):=rfl
theorem By:(RV.sh d).d=d:=rfl
theorem Ay:(RV.ow d).d=d:=rfl
theorem Z':(Sl.sh d).get=some d:=rfl
theorem W':(Sl.ow d p l).get=some d:=rfl
theorem cCa:(Hd.val v).get U=some v.d:=rfl
theorem bCa:(Hd.slot i).get U=(U[i]?).bind Sl.get:=rfl
noncomputable def tj(U:Env)(o:Option Bool):xA RV:=o.map λb=>(.ok (.sh (.bl b)),U)
theorem bIa:tj U (some b)=some (.ok (.sh (.bl b)),U):=rfl
theorem i2a:aAh false r=r:=rfl
theorem j2a:aAh true (some (.ok v,U))=tj U (oK v.d):=rfl
noncomputable def FW(i:Nat)(U:Env):Option Sl->xA RV
 |some (.sh d)=>some (.ok (.sh d),U)
 |some (.ow d false false)=>some (.ok (.sh d),U.set i (.sh d))
 |_=>none
theorem sGa:FW i U (some (.sh d))=some (.ok (.sh d),U):=rfl
theorem rGa:FW i U (some (.ow d false false))=some (.ok (.sh d),U.set i (.sh d)):=rfl
theorem Yz:ev P C false (.v i) U=FW i U U[i]?:=rfl
theorem Hz:ev P C t (.c d) U=aAh t (some (.ok (.sh d),U)):=rfl
noncomputable def JW(b:Bool)(v:RV)(U:Env):xA RV:=if b then some (.ok v,U) else none
theorem aIa:JW true v U=some (.ok v,U):=rfl
def qG(h:n<=1000000):GB n=true:=@jC _ (cl _) h
theorem vXa:GB 0=true:=qG (by decide)
theorem wXa:GB 1=true:=qG (by decide)
theorem xXa:GB 2=true:=qG (by decide)
theorem yXa:GB 3=true:=qG (by decide)
theorem zXa:GB 4=true:=qG (by decide)
theorem yn:GB 5=true:=qG (by decide)
def vj(ds:List D)(U:Env):xA RV:=JW (GB ds.length) (.sh (.t ds)) U
def Xi(ds:List D)(U:Env):xA RV:=JW (GB ds.length) (.ow (.l ds)) U
theorem Xz:ev P C t (.t es) U=aAh t ((XE P C es U).bind vj):=rfl
theorem Oz:ev P C t (.l es) U=aAh t ((XE P C es U).bind Xi):=rfl
theorem b_:XE P C [] U=some (.ok [],U):=rfl
noncomputable def Li(v:RV)(ds:List D)(U:Env):xA (List D):=some (.ok (v.d::ds),U)
def Ki(P:RA)(C:Calls)(es:List E)(v:RV)(U:Env):xA (List D):=(XE P C es U).bind (Li v)
theorem a_:XE P C (e::es) U=(ev P C false e U).bind (Ki P C es):=rfl
theorem qz:bD P C [] U=some (.ok [],U):=rfl
noncomputable def Si(v:Hd)(ds:List Hd)(U:Env):xA (List Hd):=some (.ok (v::ds),U)
def Ri(P:RA)(C:Calls)(es:List E)(v:Hd)(U:Env):xA (List Hd):=(bD P C es U).bind (Si v)
def TC(P:RA)(C:Calls)(e:E)(U:Env):xA Hd:=hd e (ev P C false e U) U
noncomputable def lG(v:RV)(U:Env):xA Hd:=some (.ok (.val v.low),U)
theorem fIa:lG (.sh d) U=some (.ok (.val (.sh d)),U):=rfl
theorem eIa:lG (.ow d) U=some (.ok (.val (.ow d)),U):=rfl
def rj(i:Nat)(U:Env)(b:Bool):xA Hd:=if b then some (.ok (.slot i),U) else none
theorem zHa:rj i U true=some (.ok (.slot i),U):=rfl
theorem eQa:TC P C (.v i) U=rj i U ((U[i]?).bind Sl.get).isSome:=rfl
theorem vPa:TC P C (.c d) U=some (.ok (.val (.sh d)),U):=rfl
theorem dQa:TC P C (.t es) U=(ev P C false (.t es) U).bind lG:=rfl
theorem aQa:TC P C (.l es) U=(ev P C false (.l es) U).bind lG:=rfl
theorem qPa:TC P C (.zA op a b) U=(ev P C false (.zA op a b) U).bind lG:=rfl
theorem sPa:TC P C (.FA op a b) U=(ev P C false (.FA op a b) U).bind lG:=rfl
theorem tPa:TC P C (.GH op mC a b c) U=(ev P C false (.GH op mC a b c) U).bind lG:=rfl
theorem zPa:TC P C (.ix a b) U=(ev P C false (.ix a b) U).bind lG:=rfl
theorem cQa:TC P C (.sl a b c) U=(ev P C false (.sl a b c) U).bind lG:=rfl
theorem rPa:TC P C (.call f es) U=(ev P C false (.call f es) U).bind lG:=rfl
theorem pPa:TC P C (.bif f es) U=(ev P C false (.bif f es) U).bind lG:=rfl
theorem yPa:TC P C (.zM a ts) U=(ev P C false (.zM a ts) U).bind lG:=rfl
theorem uPa{dA cond:List E}:TC P C (.comp HA tg k dA cond imp nl) U=(ev P C false (.comp HA tg k dA cond imp nl) U).bind lG:=rfl
theorem oz:bD P C (e::es) U=(TC P C e U).bind (Ri P C es):=rfl
def FH(op:zK)(x:Hd)(a b:Option D):Option RV:=a.bind λd=>b.bind λe=>if CQ op x d then uC op d e else none
def Ci(op:zK)(x y:Hd)(U:Env):xA RV:=done (FH op x (x.get U) (y.get U)) U
def Bi(P:RA)(C:Calls)(op:zK)(b:E)(x:Hd)(U:Env):xA RV:=(TC P C b U).bind (Ci op x)
theorem Cz:ev P C t (.zA op a b) U=aAh t ((TC P C a U).bind (Bi P C op b)):=rfl
theorem Kw:FH op x (some (.t ds)) (some e)=uC op (.t ds) e:=by
 unfold FH CQ;cases op<;>rfl
theorem Iw:FH .Add x (some (.l ds)) (some e)=uC .Add (.l ds) e:=rfl
theorem Jw:FH .Mult (.val (.ow d)) (some (.l ds)) (some e)=uC .Mult (.l ds) e:=rfl
theorem Pw{x:Hd}{i j:Int}:FH .Add x (some (.int i)) (some (.int j))=some (.sh (.int (i+j))):=rfl
theorem Ww{x:Hd}{i j:Int}:FH .Sub x (some (.int i)) (some (.int j))=some (.sh (.int (i-j))):=rfl
theorem Uw{x:Hd}{i:Int}{e:D}:FH .Mult x (some (.int i)) (some e)=uC .Mult (.int i) e:=rfl
theorem Rw{x:Hd}{i:Int}{e:D}:FH .FloorDiv x (some (.int i)) (some e)=uC .FloorDiv (.int i) e:=rfl
theorem Tw{x:Hd}{i:Int}{e:D}:FH .Mod x (some (.int i)) (some e)=uC .Mod (.int i) e:=rfl
theorem Sw{x:Hd}{i:Int}{e:D}:FH .LShift x (some (.int i)) (some e)=uC .LShift (.int i) e:=rfl
theorem Vw{x:Hd}{i:Int}{e:D}:FH .RShift x (some (.int i)) (some e)=uC .RShift (.int i) e:=rfl
theorem Qw{x:Hd}{i:Int}{e:D}:FH .BitAnd x (some (.int i)) (some e)=uC .BitAnd (.int i) e:=rfl
def De(h:(-(2 ^ 64)<i/\i<2 ^ 64)\/(-(2 ^ 64)<j/\j<2 ^ 64)):uC .Mult (.int i) (.int j)=some (.sh (.int (i*j))):=GA h
theorem cw(h1:-18446744073709551616<j)(h2:j<18446744073709551616):uC .Mult (.int i) (.int j)=some (.sh (.int (i*j))):=De (.inr ⟨h1,h2⟩)
theorem bw(h1:-18446744073709551616<i)(h2:i<18446744073709551616):uC .Mult (.int i) (.int j)=some (.sh (.int (i*j))):=De (.inl ⟨h1,h2⟩)
theorem aw(h:0<j/\j<100000000000000000000000000000000000000000000000000000000000000000000000000000000):uC .FloorDiv (.int i) (.int j)=some (.sh (.int (i / j))):=GA h
theorem Ce(h:0<j):uC .Mod (.int i) (.int j)=some (.sh (.int (i % j))):=GA h
theorem fw(h:0<=j)(h2:j<=1000):uC .LShift (.int 1) (.int j)=some (.sh (.int (2 ^ j.toNat))):=by
 show @ite _ _ (cl _) _ _=_;rw[GA ⟨h,h2,by decide⟩,Int.one_mul]
theorem gw(h:0<=j):uC .RShift (.int i) (.int j)=some (.sh (.int (i / 2 ^ j.toNat))):=GA h
theorem Zv:uC .BitAnd (.int i) (.int j)=some (.sh (.int (wU i j))):=rfl
theorem vP(h:GB (xs.length+ys.length)=true):uC .Add (.l xs) (.l ys)=some (.ow (.l (xs++ys))):=GA h
def dw(h1:-(2 ^ 31)<=k)(h2:k<=1000)(h3:GB (xs.length*k.toNat)=true):uC .Mult (.l xs) (.int k)=some (.ow (.l (LB k.toNat xs).flatten)):=GA ⟨h1,h2,h3⟩
theorem M0(h:GB (xs.length+1+ys.length)=true):uC .Add (.t (x::xs)) (.t ys)=some (.sh (.t (x::xs++ys))):=GA h
noncomputable def Zi(v:RV)(U:Env):xA RV:=match v.d with
 |.int i=>some (.ok (.sh (.int (-i))),U)
 |_=>none
theorem nHa:Zi (.sh (.int i)) U=some (.ok (.sh (.int (-i))),U):=rfl
theorem Rz:ev P C t (.neg a) U=aAh t ((ev P C false a U).bind Zi):=rfl
noncomputable def bj(v:RV)(U:Env):xA RV:=match v with
 |.sh (.bl b)=>some (.ok (.sh (.bl (!b))),U)
 |_=>none
theorem oHa:bj (.sh (.bl b)) U=some (.ok (.sh (.bl (!b))),U):=rfl
theorem Tz:ev P C true (.not a) U=(ev P C true a U).bind bj:=rfl
def Ck(o:Option D):Option RV:=o.bind λd=>(oK d).map λb=>.sh (.bl (!b))
def aj(x:Hd)(U:Env):xA RV:=done (Ck (x.get U)) U
theorem oMa:Ck (some (.bl b))=some (.sh (.bl (!b))):=rfl
theorem Sz:ev P C false (.not a) U=(TC P C a U).bind aj:=rfl
def P1(op:RG)(a b:Option D):Option RV:=a.bind λd=>b.bind λe=>(wB op d e).map λb=>.sh (.bl b)
theorem iy:P1 op (some d) (some e)=(wB op d e).map λb=>.sh (.bl b):=rfl
def tf(op:RG)(a b:Option D):Option Bool:=a.bind λd=>b.bind λe=>wB op d e
theorem gy:tf op (some d) (some e)=wB op d e:=rfl
def Ji(op:RG)(x y:Hd)(U:Env):xA RV:=done (P1 op (x.get U) (y.get U)) U
def Ii(P:RA)(C:Calls)(op:RG)(b:E)(x:Hd)(U:Env):xA RV:=(TC P C b U).bind (Ji op x)
theorem Ez:ev P C t (.FA op a b) U=(TC P C a U).bind (Ii P C op b):=rfl
def EW(op:RG)(y z:Hd)(U:Env):xA RV:=done (P1 op (y.get U) (z.get U)) U
def DW(P:RA)(C:Calls)(mC:RG)(y:Hd)(c:E)(U:Env):Option Bool->xA RV
 |none=>none
 |some false=>some (.ok (.sh (.bl false)),U)
 |some true=>(TC P C c U).bind (EW mC y)
theorem jGa:DW P C mC y c U (some false)=some (.ok (.sh (.bl false)),U):=rfl
theorem kGa:DW P C mC y c U (some true)=(TC P C c U).bind (EW mC y):=rfl
theorem iGa:DW P C mC y c U (some b)=if b=true then(TC P C c U).bind (EW mC y) else some (.ok (.sh (.bl false)),U):=by cases b<;>rfl
def Fi(P:RA)(C:Calls)(op mC:RG)(c:E)(x y:Hd)(U:Env):xA RV:=DW P C mC y c U (tf op (x.get U) (y.get U))
def Ei(P:RA)(C:Calls)(op mC:RG)(b c:E)(x:Hd)(U:Env):xA RV:=(TC P C b U).bind (Fi P C op mC c x)
theorem Fz:ev P C t (.GH op mC a b c) U=(TC P C a U).bind (Ei P C op mC b c):=rfl
theorem Kx:wB .Lt (.int i) (.int j)=some (decide (i<j)):=rfl
theorem Jx:wB .LtE (.int i) (.int j)=some (decide (i<=j)):=rfl
theorem Ex:wB .Gt (.int i) (.int j)=some (decide (j<i)):=rfl
theorem Dx:wB .GtE (.int i) (.int j)=some (decide (j<=i)):=rfl
theorem Ax:wB .Eq (.int i) (.int j)=some (decide (i=j)):=rfl
theorem Nx:wB .NotEq (.int i) (.int j)=some (!decide (i=j)):=rfl
def GN(h1:eC 20 d=true)(h2:eC 20 e=true):wB .Eq d e=some (pF d e):=by
 show(if(eC 20 d&&eC 20 e)=true then some (pF d e) else none)=_;rw[h1,h2];rfl
def N1(h1:eC 20 d=true)(h2:eC 20 e=true):wB .NotEq d e=some (!pF d e):=by
 show(if(eC 20 d&&eC 20 e)=true then some (!pF d e) else none)=_;rw[h1,h2];rfl
theorem Bx:wB .Eq (.str a) (.str b)=some (a==b):=rfl
theorem Gx:wB .Is .lA .lA=some true:=rfl
theorem Fx:wB .Is (.int i) .lA=some false:=rfl
theorem Hx:wB .Is (.t ds) .lA=some false:=rfl
theorem Px:wB .IsNot .lA .lA=some false:=rfl
theorem Ox:wB .IsNot (.int i) .lA=some true:=rfl
theorem e0a:oK (.bl b)=some b:=rfl
def L7(P:RA)(C:Calls)(t:Bool)(b:E)(v:RV)(U:Env):xA RV:=match v with
 |.sh (.bl true)=>ev P C t b U
 |.sh (.bl false)=>some (.ok (.sh (.bl false)),U)
 |_=>none
def d8(P:RA)(C:Calls)(t:Bool)(b:E)(v:RV)(U:Env):xA RV:=match v with
 |.sh (.bl true)=>some (.ok (.sh (.bl true)),U)
 |.sh (.bl false)=>ev P C t b U
 |_=>none
def W7(P:RA)(C:Calls)(t:Bool)(a b:E)(v:RV)(U:Env):xA RV:=match v with
 |.sh (.bl true)=>ev P C t a U
 |.sh (.bl false)=>ev P C t b U
 |_=>none
theorem zz:ev P C t (.and a b) U=(ev P C t a U).bind (L7 P C t b):=rfl
theorem Uz:ev P C t (.or a b) U=(ev P C t a U).bind (d8 P C t b):=rfl
theorem Mz:ev P C t (.ite c a b) U=(ev P C true c U).bind (W7 P C t a b):=rfl
theorem fGa:L7 P C t b (.sh (.bl true)) U=ev P C t b U:=rfl
theorem eGa:L7 P C t b (.sh (.bl false)) U=some (.ok (.sh (.bl false)),U):=rfl
theorem qHa:d8 P C t b (.sh (.bl true)) U=some (.ok (.sh (.bl true)),U):=rfl
theorem pHa:d8 P C t b (.sh (.bl false)) U=ev P C t b U:=rfl
theorem eHa:W7 P C t a b (.sh (.bl true)) U=ev P C t a U:=rfl
theorem dHa:W7 P C t a b (.sh (.bl false)) U=ev P C t b U:=rfl
def RB(a:Option D)(k:D):Option RV:=a.bind λd=>(bT d k).map .sh
def Wi(x:Hd)(k:RV)(U:Env):xA RV:=done (RB (x.get U) k.d) U
def Vi(P:RA)(C:Calls)(i:E)(x:Hd)(U:Env):xA RV:=(ev P C false i U).bind (Wi x)
theorem Nz:ev P C t (.ix a i) U=aAh t ((TC P C a U).bind (Vi P C i)):=rfl
theorem qFa:RB (some (.t ds)) (.int i)=(L2.lC ds i).map RV.sh:=rfl
theorem pFa:RB (some (.l ds)) (.int i)=(L2.lC ds i).map RV.sh:=rfl
def bV:L2.lC xs (OfNat.ofNat n)=xs[n]?:=by
 show L2.lC xs ((n:Nat):Int)=_
 cases h:xs[n]? with
 |some v=>exact L2.AN h
 |none =>
  unfold L2.lC L2.kG
  have:=List.getElem?_eq_none_iff.mp h
  rw[GA (by lia),LA (by lia)];rfl
theorem Qv:L2.lC xs 0=xs[0]?:=bV (n:=0)
theorem Rv:L2.lC xs 1=xs[1]?:=bV (n:=1)
theorem Sv:L2.lC xs 2=xs[2]?:=bV (n:=2)
theorem Tv:L2.lC xs 3=xs[3]?:=bV (n:=3)
def BL(a l h:Option D):Option RV:=a.bind λd=>(JM l).bind λl=>(JM h).bind λh=>BX d l h
def qj(x:Hd)(l h:Option D)(U:Env):xA RV:=done (BL (x.get U) l h) U
def pO(P:RA)(C:Calls)(e:E)(U:Env):xA (Option D):=aAN e (ev P C false e U) U
def pj(P:RA)(C:Calls)(hi:E)(x:Hd)(l:Option D)(U:Env):xA RV:=(pO P C hi U).bind (qj x l)
def oj(P:RA)(C:Calls)(lo hi:E)(x:Hd)(U:Env):xA RV:=(pO P C lo U).bind (pj P C hi x)
theorem qSa:pO P C .mH U=some (.ok none,U):=rfl
noncomputable def HW(v:RV)(U:Env):xA (Option D):=some (.ok (some v.d),U)
theorem oSa:pO P C (.c d) U=some (.ok (some d),U):=rfl
theorem rSa:pO P C (.v i) U=(ev P C false (.v i) U).bind HW:=rfl
theorem nSa:pO P C (.zA op a b) U=(ev P C false (.zA op a b) U).bind HW:=rfl
theorem Wz:ev P C t (.sl a lo hi) U=aAh t ((TC P C a U).bind (oj P C lo hi)):=rfl
def M7(P:RA)(C:Calls)(f:String)(hs:List Hd)(U:Env):xA RV:=ND (P f) (C f) hs U
theorem Dz:ev P C t (.call f es) U=aAh t ((bD P C es U).bind (M7 P C f)):=rfl
def N7(aA:List Bool)(hs:List Hd)(U U1:Env):xA RV->xA RV
 |none=>none
 |some (o,QA)=>(aAf aA hs QA U U1).map λU'=>(o,U')
def Gi(aA:List Bool)(f:List Sl->xA RV)(hs:List Hd)(U:Env):Option (List Sl×Env)->xA RV
 |none=>none
 |some (as,U1)=>N7 aA hs U U1 (f as)
theorem Hy:ND aA f hs U=Gi aA f hs U (aAi aA hs U):=rfl
theorem lGa:Gi aA f hs U (some (as,U1))=N7 aA hs U U1 (f as):=rfl
noncomputable def Hi(o:Out RV)(x:Option Env):xA RV:=x.map λU'=>(o,U')
theorem nGa:Hi o (some U)=some (o,U):=rfl
theorem mGa:N7 aA hs U U1 (some (o,QA))=Hi o (aAf aA hs QA U U1):=rfl
noncomputable def CM(a:Sl)(o:Option (List Sl×Env)):Option (List Sl×Env):=o.map λ(as,U')=>(a::as,U')
theorem fHa:CM a (some (as,U))=some (a::as,U):=rfl
theorem xIa:aAi [] [] U=some ([],U):=rfl
theorem zIa:aAi (p::ps) (.val (.sh d)::r) U=CM (.sh d) (aAi ps r U):=rfl
theorem yIa:aAi (true::ps) (.val (.ow d)::r) U=CM (.ow d true false) (aAi ps r U):=rfl
def X7(p:Bool)(ps:List Bool)(i:Nat)(r:List Hd)(U:Env):Option Sl->Option (List Sl×Env)
 |some (.sh d)=>CM (.sh d) (aAi ps r U)
 |some (.ow d pin lk)=>match p with
  |true=>CM (.ow d true lk) (aAi ps r (U.set i .un))
  |false=>if pin||lk then none else CM (.sh d) (aAi ps r (U.set i (.sh d)))
 |_=>none
theorem aJa:aAi (p::ps) (.slot i::r) U=X7 p ps i r U U[i]?:=rfl
theorem hHa:X7 p ps i r U (some (.sh d))=CM (.sh d) (aAi ps r U):=rfl
theorem gHa:X7 true ps i r U (some (.ow d pin lk))=CM (.ow d true lk) (aAi ps r (U.set i .un)):=rfl
theorem fAa:aAf [] [] [] U0 U=some U:=rfl
theorem dAa:aAf (false::ps) (.slot i::hs) (a::as) U0 U=aAf ps hs as U0 U:=rfl
theorem eAa:aAf (false::ps) (.val v::hs) (a::as) U0 U=aAf ps hs as U0 U:=rfl
theorem hAa:aAf (true::ps) (.val v::hs) (a::as) U0 U=aAf ps hs as U0 U:=rfl
def Q7(ps:List Bool)(i:Nat)(hs:List Hd)(a:Sl)(as:List Sl)(U0 U:Env)(o:Option Sl):Option Env :=
  match o,a with
  |some (.ow _ pin lk),.ow d _ _=>aAf ps hs as U0 (U.set i (.ow d pin lk))
  |some (.ow _ _ _),_=>none
  |_,_=>aAf ps hs as U0 U
theorem gAa:aAf (true::ps) (.slot i::hs) (a::as) U0 U=Q7 ps i hs a as U0 U U0[i]?:=rfl
theorem tGa:Q7 ps i hs (.ow d p l) as U0 U (some (.ow d' p' l'))=aAf ps hs as U0 (U.set i (.ow d p' l')):=rfl
theorem uGa:Q7 ps i hs a as U0 U (some (.sh d))=aAf ps hs as U0 U:=rfl
def Ai(f:BI)(hs:List Hd)(U:Env):xA RV:=done ((getAll hs U).bind (WE f)) U
theorem Bz:ev P C t (.bif f es) U=aAh t ((bD P C es U).bind (Ai f)):=rfl
theorem cAa:getAll [] U=some []:=rfl
noncomputable def Bg(a:Option D)(b:Option (List D)):Option (List D):=a.bind λd=>b.map (d :: ·)
theorem aAa:Bg (some d) (some ds)=some (d::ds):=rfl
theorem bAa:getAll (h::r) U=Bg (h.get U) (getAll r U):=rfl
theorem D_:WE .len [.l ds]=some (.sh (.int ds.length)):=rfl
theorem E_:WE .len [.t ds]=some (.sh (.int ds.length)):=rfl
theorem B_:WE .abs [.int i]=some (.sh (.int (if i<0 then -i else i))):=rfl
theorem C_:WE .int [.bl b]=some (.sh (.int (if b then 1 else 0))):=rfl
theorem F_:WE .list [.t ds]=some (.ow (.l ds)):=rfl
theorem J_:WE .tuple [.l ds]=some (.sh (.t ds)):=rfl
theorem I_:WE .min [.int i,.int j]=some (.sh (.int (if j<i then j else i))):=rfl
theorem G_:WE .max [.int i,.int j]=some (.sh (.int (if j > i then j else i))):=rfl
def C7(ts:List Ty):Option D->Option RV
 |some d=>(XS ts d).map λb=>.sh (.bl b)
 |none=>none
def V7(ts:List Ty)(x:Hd)(U:Env):xA RV:=done (C7 ts (x.get U)) U
theorem Lz:ev P C t (.zM a ts) U=aAh t ((TC P C a U).bind (V7 ts)):=by
 show aAh t ((TC P C a U).bind λx U1=>done ((x.get U1).bind λd=>(XS ts d).map λb=>.sh (.bl b)) U1)=_
 congr 2
 funext x U1
 unfold V7;cases x.get U1<;>rfl
theorem lEa:C7 [.int] (some (.int i))=some (.sh (.bl true)):=rfl
theorem kEa:C7 [.bool] (some (.int i))=some (.sh (.bl false)):=rfl
def si(i:Nat)(d:D)(U:Env)(o:Option Sl):xA RV:=match o with
 |some (.ow (.l ds) p false)=>if GB (ds.length+1) then some (.ok (.sh .lA),U.set i (.ow (.l (ds++[d])) p false)) else none
 |_=>none
def ui(i:Nat)(v:RV)(U:Env):xA RV:=si i v.d U U[i]?
theorem gGa:si i d U (some (.ow (.l ds) p false))=JW (GB (ds.length+1)) (.sh .lA) (U.set i (.ow (.l (ds++[d])) p false)):=rfl
noncomputable def T7(r:xA RV)(b:Bool):xA RV:=if b then r else none
theorem xGa:T7 r true=r:=rfl
theorem Az:ev P C t (.app i a) U=aAh t (T7 ((ev P C false a U).bind (ui i)) (gJ U i)):=rfl
noncomputable def v7:Option Sl->Bool
 |some (.ow (.l _) _ _)=>true
 |_=>false
theorem zEa:gJ U i=v7 U[i]?:=rfl
theorem yEa:v7 (some (.ow (.l ds) p l))=true:=rfl
def vi(i:Nat)(v:RV)(U:Env):Run:=JF (store i v U)
theorem j_:ex P C W (.YA i e) U=(ev P C false e U).VB (vi i):=rfl
noncomputable def vO(i:Nat)(v:RV)(U:Env)(o:Option Sl):Option Env:=match o with
 |none=>none
 |some (.ow _ true _)=>none
 |some (.ow _ _ true)=>none
 |some _=>match v with
  |.sh d=>some (U.set i (.sh d))
  |.ow d=>some (U.set i (.ow d false false))
  |.od _=>none
theorem aa:store i v U=vO i v U U[i]?:=rfl
theorem qYa:vO i (.sh d) U (some .un)=some (U.set i (.sh d)):=rfl
theorem pYa:vO i (.ow d) U (some .un)=some (U.set i (.ow d false false)):=rfl
theorem oYa:vO i (.sh d) U (some (.sh d'))=some (U.set i (.sh d)):=rfl
theorem nYa:vO i (.sh d) U (some (.ow d' false false))=some (U.set i (.sh d)):=rfl
noncomputable def iB:Sl->Bool
 |.un=>true
 |.mv=>true
 |.sh _=>true
 |.ow _ false false=>true
 |_=>false
theorem FD(h:iB s=true):vO i (.sh d) U (some s)=some (U.set i (.sh d)):=by
 cases s with
 |ow d p l=>cases p<;>cases l<;>first | rfl | cases h
 |_=>rfl
theorem mYa(h:iB s=true):vO i (.ow d) U (some s)=some (U.set i (.ow d false false)):=by
 cases s with
 |ow d p l=>cases p<;>cases l<;>first | rfl | cases h
 |_=>rfl
theorem gNa:iB .un=true:=rfl
theorem fNa:iB (.sh d)=true:=rfl
theorem eNa:iB (.ow d false false)=true:=rfl
def yi(is:List Nat)(v:RV)(U:Env):Run:=JF (oB false is v.d U)
theorem k_:ex P C W (.kM is e) U=(ev P C false e U).VB (yi is):=rfl
theorem Se:oB true [i] d U=store i (.sh d) U:=rfl
theorem C1:oB false (i::is) (.t ds) U=aAp (i::is) ds U:=rfl
theorem Y9:aAp [] [] U=some U:=rfl
def sj(is:List Nat)(ds:List D)(o:Option Env):Option Env:=o.bind (aAp is ds)
theorem X9:aAp (i::is) (d::ds) U=sj is ds (store i (.sh d) U):=rfl
theorem n8:sj is ds (some U)=aAp is ds U:=rfl
def Um(i:Nat)(v:D)(U:Env):Option Sl->D->Run
 |some (.ow (.l ds) p false),.int n=>JF ((L2.kG ds.length n).map λm=>U.set i (.ow (.l (ds.set m v)) p false))
 |_,_=>none
def mj(i:Nat)(v:RV)(j:RV)(U:Env):Run:=Um i v.d U U[i]? j.d
noncomputable def Ti(r:Run)(b:Bool):Run:=if b then r else none
theorem yGa:Ti r true=r:=rfl
noncomputable def hUa(i:Nat)(v j:RV)(U:Env):Option Sl->Run
 |o=>match o,j,v with
  |_,_,_=>none
def sHa(i:Nat)(v:RV)(j:RV)(U:Env):Run:=hUa i v j U U[i]?
noncomputable def Yh:Option Sl->Bool
 |_=>false
theorem rEa:pEa U i=Yh U[i]?:=rfl
noncomputable def U7(r r':Run)(b:Bool):Run:=if b then r else r'
theorem aHa:U7 r r' true=r:=rfl
theorem zGa:U7 r r' false=r':=rfl
theorem i_:GG P C W (.FL c b) U=tI (ev P C true c) (IA P C W b) (zD P C W b) W U:=rfl
def ej(i:Nat)(v:RV)(j:RV)(U:Env):Run:=zX i U U[i]? (nE j.d) v
def Vm(h:GB (ks.length+1)=true):zX i U (some (.ow (.ZA ks ds) p false)) (some k) v=some (.nx,U.set i (.ow (.ZA (qO ks k) (rO ks ds k v.d)) p false)):=GA h
noncomputable def Zh:Option Sl->Bool
 |some (.ow (.ZA _ _) _ _)=>true
 |_=>false
theorem tEa:VS U i=Zh U[i]?:=rfl
theorem sEa:Zh (some (.ow (.ZA ks ds) p l))=true:=rfl
theorem qEa:Yh (some (.ow (.ZA ks ds) p l))=false:=rfl
theorem xEa:v7 (some (.ow (.ZA ks ds) p l))=false:=rfl
def gj(P:RA)(C:Calls)(i:Nat)(k:E)(v:RV)(U:Env):Run:=Ti ((ev P C false k U).VB (ej i v)) (VS U i)
def lj(P:RA)(C:Calls)(i:Nat)(k:E)(v:RV)(U:Env):Run:=U7 ((ev P C false k U).VB (mj i v)) (gj P C i k v U) (gJ U i)
theorem q_:ex P C W (.set i k e) U=(ev P C false e U).VB (lj P C i k):=rfl
def oFa:L2.kG (n+2) 1=some 1:=by unfold L2.kG;rw[GA (by lia),GA (by lia)];rfl
theorem gXa:Um i v U (some (.ow (.l (a::b::ds)) p false)) (.int 1)=some (.nx,U.set i (.ow (.l (a::v::ds)) p false)):=by
 show JF ((L2.kG (ds.length+2) 1).map _)=_;rw[oFa];rfl
noncomputable def Oi(v:RV)(U:Env):Run:=some (.nx,U)
theorem l_:ex P C W (.expr e) U=(ev P C false e U).VB Oi:=rfl
noncomputable def F9(i:Nat)(U:Env):Option Sl->Run
 |some (.ow d false _)=>some (.rt (.ow d),U.set i .mv)
 |some (.sh d)=>some (.rt (.sh d),U)
 |_=>none
theorem jVa:F9 i U (some (.ow d false l))=some (.rt (.ow d),U.set i .mv):=rfl
theorem kVa:F9 i U (some (.sh d))=some (.rt (.sh d),U):=rfl
noncomputable def pI(v:RV)(U:Env):Run:=some (.rt v,U)
theorem o_:ex P C W (.ret (.v i)) U=F9 i U U[i]?:=rfl
theorem jz:ex P C W (.ret (.c d)) U=(ev P C false (.c d) U).VB pI:=rfl
theorem nz:ex P C W (.ret (.t es)) U=(ev P C false (.t es) U).VB pI:=rfl
theorem lz:ex P C W (.ret (.l es)) U=(ev P C false (.l es) U).VB pI:=rfl
theorem bz:ex P C W (.ret (.zA op a b)) U=(ev P C false (.zA op a b) U).VB pI:=rfl
theorem fz:ex P C W (.ret (.FA op a b)) U=(ev P C false (.FA op a b) U).VB pI:=rfl
theorem Zy:ex P C W (.ret (.and a b)) U=(ev P C false (.and a b) U).VB pI:=rfl
theorem kz:ex P C W (.ret (.ix a b)) U=(ev P C false (.ix a b) U).VB pI:=rfl
theorem dz:ex P C W (.ret (.call f es)) U=(ev P C false (.call f es) U).VB pI:=rfl
theorem az:ex P C W (.ret (.bif f es)) U=(ev P C false (.bif f es) U).VB pI:=rfl
theorem gz{dA cond:List E}:ex P C W (.ret (.comp HA tg k dA cond imp nl)) U=(ev P C false (.comp HA tg k dA cond imp nl) U).VB pI:=rfl
def S7(P:RA)(C:Calls)(W:Nat)(a b:List S)(v:RV)(U:Env):Run:=match v with
 |.sh (.bl true)=>IA P C W a U
 |.sh (.bl false)=>IA P C W b U
 |_=>none
theorem cHa:S7 P C W a b (.sh (.bl true)) U=IA P C W a U:=rfl
theorem bHa:S7 P C W a b (.sh (.bl false)) U=IA P C W b U:=rfl
theorem n_:ex P C W (.DA c a b) U=(ev P C true c U).VB (S7 P C W a b):=rfl
def ug(P:RA)(C:Calls)(W:Nat)(tg:List Nat)(one:Bool)(body:List S)(U:Env):Option (List D×Option Nat)->Run
 |none=>none
 |some (ds,o)=>(RC (oB one tg) (IA P C W body) ds (aAg o U)).restore o U
theorem Y_:ug P C W tg one body U (some (ds,o))=(RC (oB one tg) (IA P C W body) ds (aAg o U)).restore o U:=rfl
def aA5(P:RA)(C:Calls)(W:Nat)(tg:List Nat)(one:Bool)(k:UD)(body:List S)(hs:List Hd)(U:Env):Run:=ug P C W tg one body U (aAb k hs U)
theorem m_:ex P C W (.for tg one k dA body) U=(bD P C dA U).VB (aA5 P C W tg one k body):=rfl
theorem s_:ex P C W (.FL c body) U=rF (ev P C true c) (IA P C W body) W U:=rfl
theorem mS:IA P C W [] U=some (.nx,U):=rfl
theorem LH:IA P C W (s::r) U=(ex P C W s U).next (IA P C W r):=rfl
theorem sVa{r:Run}:r.restore none U0=r:=by cases r with | none=>rfl | some y=>obtain⟨fl,U⟩:=y;rfl
theorem k0a:aAg none U=U:=rfl
def ZS(h:a.get U=some (.int n))(h1:-1000000<=n)(h2:n<=1000000):aAb .uD [a] U=some ((vC n.toNat).map λ(j:Nat)=>.int (j:Int),none):=by
 (unfold aAb;simp only[h]);exact GA ⟨h1,h2⟩
def lFa(h:a.get U=some (.int m))(h':b.get U=some (.int n))(h1:-1000000<=m/\m<=1000000)(h2:-1000000<=n/\n<=1000000):aAb .uD [a,b] U=some ((vC (n-m).toNat).map λ(j:Nat)=>.int (m+(j:Int)),none):=by
 (unfold aAb;simp only[h,h']);exact GA ⟨h1,h2⟩
def uQ(h:v.d=.l ds):aAb .of [.val v] U=some (ds,none):=by(unfold aAb;simp only[h])
def G7(h:v.d=.t ds):aAb .of [.val v] U=some (ds,none):=by(unfold aAb;simp only[h])
def kFa(h:U[i]?=some (.sh (.l ds))):aAb .of [.slot i] U=some (ds,none):=by(unfold aAb;simp only[h])
def jFa(h:U[i]?=some (.ow (.l ds) p l)):aAb .of [.slot i] U=some (ds,some i):=by(unfold aAb;simp only[h])
def fO{bind:D->Env->Option Env}(I:List D->Env->Prop)(h:∀pre d post,ds=pre++d::post->∀U,I pre U->∃U1,bind d U=some U1/\∃U2,body U1=some (.nx,U2)/\I (pre++[d]) U2)(h0:I [] U):∃U',RC bind body ds U=some (.nx,U')/\I ds U':=by
 have key:∀(post pre:List D) (U:Env),ds=pre++post->I pre U->∃U',RC bind body post U=some (.nx,U')/\I ds U':=by
  intro post
  induction post with
  |nil=>intro pre U e hp;rw[JC] at e;subst e;exact⟨U,rfl,hp⟩
  |cons d post ih =>
   intro pre U e hp;obtain⟨U1,e1,U2,e2,h2⟩:=h pre d post e U hp;obtain⟨U',e3,h3⟩:=ih (pre++[d]) U2 (by rw[e];simp) h2;exact⟨U',by simp only[RC,e1,e2,e3],h3⟩
 exact key ds [] U rfl h0
noncomputable def j8(as:List Sl):Run->xA RV
 |some (.nx,U)=>some (.ok (.sh .lA),back as U)
 |some (.rt v,U)=>some (.ok v,back as U)
 |_=>none
theorem kj:j8 as (some (.rt v,U))=some (.ok v,back as U):=rfl
def cWa(hT:T f=some fn)(h1:as.length=fn.aA.length)(h2:as.all fK=true)(h3:fn.rs=false:=by rfl):run T W (n+1) f as=j8 as (IA T.aA (run T W n) W fn.body (as++LB fn.nl .un)):=by
 simp only[run,hT];rw[GA ⟨h1,h2⟩,h3];generalize IA T.aA (run T W n) W fn.body (as++LB fn.nl .un)=r;obtain _ | ⟨fl,U⟩:=r
 ·rfl
 ·cases fl<;>rfl
def aAL(T:Tab)(W n:Nat)(fn:Fn)(as:List Sl):Option (Exc×Env):=zD T.aA (run T W n) W fn.body (as++LB fn.nl .un)
def l8(as:List Sl)(r:Run)(o:Option (Exc×Env)):xA RV:=match r with
 |some (.nx,U)=>some (.ok (.sh .lA),back as U)
 |some (.rt v,U)=>some (.ok v,back as U)
 |_=>match o with
  |some (x,U)=>some (.ex x,back as U)
  |none=>none
theorem vHa:l8 as (some (.rt v,U)) o=some (.ok v,back as U):=rfl
theorem uHa:l8 as none o=(match o with | some (x,U)=>some (.ex x,back as U) | none=>none):=rfl
def Qm(hT:T f=some fn)(h1:as.length=fn.aA.length)(h2:as.all fK=true)(h3:fn.rs=true:=by rfl):run T W (n+1) f as=l8 as (IA T.aA (run T W n) W fn.body (as++LB fn.nl .un)) (aAL T W n fn as):=by
 simp only[run,hT];rw[GA ⟨h1,h2⟩,h3];unfold aAL;generalize IA T.aA (run T W n) W fn.body (as++LB fn.nl .un)=r;obtain _ | ⟨fl,U⟩:=r
 ·rfl
 ·cases fl<;>rfl
end
end CI
namespace CI
open PySem PySem.Spec PyProof.Rows L2
noncomputable def R1:D->cA->Bool
 |.lA,.none=>true
 |.bl a,.bool b=>a==b
 |.int i,.int j _=>i==j
 |.str x,.str y _=>x==y&&cP x
 |_,_=>false
def S1:List D->List cA->Bool
 |[],[]=>true
 |d::ds,v::vs=>R1 d v&&S1 ds vs
 |_,_=>false
def Cf{K:gA}(h:R1 d u=true):∃v,aAe v u/\∀G,jA K G d v:=by
 cases d<;>cases u<;>try exact nomatch (show false=true from h)
 ·exact⟨.lA,rfl,λG=>by simp[jA]⟩
 ·exact⟨.bl _,rfl,λG=>by simp[jA,EC (show(_==_)=true from h)]⟩
 ·rename_i i j t;exact⟨.int i,⟨t,by rw[EC (show(i==j)=true from h)]⟩,λG=>by simp[jA]⟩
 ·rename_i x y t;replace h:=(WA _ _).mp h;exact⟨.str x,⟨t,by rw[EC h.1]⟩,λG=>by simp[jA,h.2]⟩
theorem Df{K:gA}:∀{ds:List D} {us:List cA},S1 ds us=true->∃vs,aAc vs us/\∀G,iA K G ds vs
 |[],[],_=>⟨[],.nil,λG=>iA.nil⟩
 |d::ds,u::us,h=>by
  replace h:=(WA _ _).mp h;obtain⟨v,h1,h2⟩:=Cf (K:=K) h.1;obtain⟨vs,h3,h4⟩:=Df (K:=K) h.2;exact⟨v::vs,.cons h1 h3,λG=>iA.cons (h2 G) (h4 G)⟩
 |[],_::_,h=>nomatch (show false=true from h)
 |_::_,[],h=>nomatch (show false=true from h)
def OU(K:gA)(d:D)(u:cA):Prop:=∃v,aAe v u/\∀G,jA K G d v
def PU(K:gA)(ds:List D)(us:List cA):Prop:=∃vs,aAc vs us/\∀G,iA K G ds vs
def Ye{K:gA}(h:R1 d u=true):OU K d u:=Cf h
def eS{K:gA}:PU K [] []:=⟨[],.nil,λ_=>iA.nil⟩
def DP{K:gA}(h:OU K d u)(t:PU K ds us):PU K (d::ds) (u::us):=let ⟨v,h1,h2⟩:=h;let ⟨vs,h3,h4⟩:=t;⟨v::vs,.cons h1 h3,λG=>iA.cons (h2 G) (h4 G)⟩
def aS{K:gA}{sl}(hl:K.lookup a=some ⟨.type "tuple",dd,.seq dA n,sl⟩)(hc:PU K ds dA.toList)(hz:decide (dA.size<=1000)=true):OU K (.t ds) (.ref a):=by
 obtain⟨vs,h1,h2⟩:=hc;refine⟨.ref a,rfl,λG=>?_⟩;simp only[jA];exact⟨a,vs,rfl,.inr ⟨_,dA,n,hl,rfl,rfl,XC (kR hz) (by decide),h1⟩,h2 G⟩
def oy{K:gA}(X:K.In h)(G:h.Ns IB mg)(ha:LC K IB x=some (some (.ref a)))(c:OU K d (.ref a)):BH K mg T gl (x,.c d):=by
 obtain⟨v,h1,h2⟩:=c;exact⟨_,v,jN X G ha,h1,h2⟩
def Ef{K:gA}{sl}(X:K.In h)(G:h.Ns IB mg)
  (ha:LC K IB x=some (some (.ref a))) (hl:K.lookup a=some ⟨.type "tuple",dd,.seq dA n,sl⟩) (hc:S1 ds dA.toList=true) (hz:decide (dA.size<=1000)=true):BH K mg T gl (x,.c (.t ds)):=by
 obtain⟨vs,h1,h2⟩:=Df hc;refine⟨_,.ref a,jN X G ha,rfl,λG=>?_⟩;simp only[jA];exact⟨a,vs,rfl,.inr ⟨_,dA,n,hl,rfl,rfl,XC (kR hz) (by decide),h1⟩,h2 G⟩
noncomputable section
variable{U U1:Env}
def vQ(P:RA)(C:Calls)(HA:E)(tg:List Nat)(k:UD)(cond:List E)(imp:List Nat)(nl:Nat)(hs:List Hd)(U1:Env):xA RV :=
 match aAb k hs U1 with
 |none=>SR k hs λds=>(ND (imp.map λ_=>true) (IH (cD P C cond) (ev P C false HA) (oB (tg.length==1) tg) ds nl) (imp.map Hd.slot) U1).bind (aAt none U1)
 |some (ds,o)=>(ND (imp.map λ_=>true) (IH (cD P C cond) (ev P C false HA) (oB (tg.length==1) tg) ds nl) (imp.map Hd.slot) (aAg o U1)).bind (aAt o U1)
theorem Gz{dA cond:List E}:ev P C t (.comp HA tg k dA cond imp nl) U=aAh t ((bD P C dA U).bind (vQ P C HA tg k cond imp nl)):=rfl
def aK{cond:List E}(h:aAb k hs U1=some (ds,none)) :
  vQ P C HA tg k cond imp nl hs U1=(ND (imp.map λ_=>true) (IH (cD P C cond) (ev P C false HA) (oB (tg.length==1) tg) ds nl) (imp.map Hd.slot) U1).bind (aAt none U1):=by
 unfold vQ;rw[h];rfl
def pGa{HA:E}{tg:List Nat}{cond:List E}{imp:List Nat}{nl:Nat}{ds:List D}{r:Out RV×Env}(h:∀es:List D,Fm es ds->(ND (imp.map λ_=>true) (IH (cD P C cond) (ev P C false HA) (oB (tg.length==1) tg) es nl) (imp.map Hd.slot) U1).bind (aAt none U1)=some r) :
  vQ P C HA tg .of cond imp nl [.val (.sh (.GC ds))] U1=some r:=by
 have z:∃r,∀es:List D,Fm es ds->(ND (imp.map λ_=>true) (IH (cD P C cond) (ev P C false HA) (oB (tg.length==1) tg) es nl) (imp.map Hd.slot) U1).bind (aAt none U1)=some r:=⟨r,h⟩
 have i:aAb .of [.val (.sh (.GC ds))] U1=none:=rfl;unfold vQ;rw[i];exact(@dif_pos _ (cl _) z _ _ _).trans ((z.choose_spec ds ⟨rfl,λ_ z=>z⟩).symm.trans (h ds ⟨rfl,λ_ z=>z⟩))
theorem nAa:aAt none U1 v U2=some (.ok v,U2):=rfl
def O7(as:List Sl)(rA:List D)(Ui:Env):xA RV:=if GB rA.length then some (.ok (.ow (.l rA)),back as Ui) else none
theorem LN{bind:D->Env->Option Env}(h:as.all fK=true):IH tests HA bind ds nl as=(dG tests HA bind ds [] (as++LB nl .un)).bind (O7 as):=by
 unfold IH;rw[GA h];rfl
theorem oGa(h:GB rA.length=true):O7 as rA Ui=some (.ok (.ow (.l rA)),back as Ui):=by unfold O7;rw[GA h]
theorem kS:cD P C [] U=some (.ok (.sh (.bl true)),U):=rfl
def uj(P:RA)(C:Calls)(es:List E)(v:RV)(U1:Env):xA RV:=match v with
 |.sh (.bl true)=>cD P C es U1
 |.sh (.bl false)=>some (.ok (.sh (.bl false)),U1)
 |_=>none
theorem uz:cD P C (e::es) U=(ev P C true e U).bind (uj P C es):=rfl
theorem dIa:uj P C [] (.sh (.bl b)) U1=some (.ok (.sh (.bl b)),U1):=by
 cases b
 ·rfl
 ·show cD P C [] U1=_;exact kS
theorem zRa:fK (.ow d true l)=true:=rfl
theorem aSa:fK (.sh d)=true:=rfl
def BP{bind:D->Env->Option Env}(I:Nat->List D->Env->Prop)
  (step:∀(j:Nat) (d:D),ds[j]?=some d->∀rA U,I j rA U->∃U1 c U2,bind d U=some U1/\tests U1=some (.ok (.sh (.bl c)),U2)/\(c=true->∃v U3,HA U2=some (.ok v,U3)/\I (j+1) (rA++[v.d]) U3)/\(c=false->I (j+1) rA U2)) :
  ∀rA U,I 0 rA U->∃GD U',dG tests HA bind ds rA U=some (.ok GD,U')/\I ds.length GD U'/\GD.length<=rA.length+ds.length:=by
 have key:∀(es:List D) (j:Nat),ds.drop j=es->∀rA U,I j rA U->∃GD U',dG tests HA bind es rA U=some (.ok GD,U')/\I (j+es.length) GD U'/\GD.length<=rA.length+es.length:=by
  intro es
  induction es with
  |nil=>intro j _ rA U h;exact⟨rA,U,rfl,h,by simp⟩
  |cons d es ih =>
   intro j hj rA U h
   have hd:ds[j]?=some d:=by
    have:(ds.drop j)[0]?=some d:=by rw[hj];rfl
    simpa using this
   have jh:ds.drop (j+1)=es:=by
    have:(ds.drop j).drop 1=es:=by rw[hj];rfl
    rw[List.drop_drop] at this;exact this
   obtain⟨U1,c,U2,h1,h2,h3,h4⟩:=step j d hd rA U h;simp only[dG,h1,h2,xA.bind]
   cases c with
   |false =>
    obtain⟨GD,U',e1,e2,e3⟩:=ih (j+1) jh rA U2 (h4 rfl);refine⟨GD,U',e1, ?_,by simp only[QC];lia⟩
    have:j+(d::es).length=j+1+es.length:=by simp only[QC];lia
    rw[this];exact e2
   |true =>
    obtain⟨v,U3,h5,h6⟩:=h3 rfl;obtain⟨GD,U',e1,e2,e3⟩:=ih (j+1) jh (rA++[v.d]) U3 h6;simp only[h5];refine⟨GD,U',e1, ?_,by simp only[oC,QC,wH] at e3 ⊢;lia⟩
    have:j+(d::es).length=j+1+es.length:=by simp only[QC];lia
    rw[this];exact e2
 intro rA U h
 have:=key ds 0 rfl rA U h
 simpa using this
def QE(h:n<=1000000):GB n=true:=qG h
end
end CI
namespace CI
open PySem (Operator CmpOp Str)
noncomputable section
variable{U U1 U2:Env}
theorem xPa:TC P C (.ID i) U=(ev P C false (.ID i) U).bind lG:=rfl
theorem aAD:∀ns:List Int,IE (ns.map D.int)=some ns
 |[]=>rfl
 |n::r=>by(show(IE (r.map D.int)).map (n :: ·)=_;rw[aAD r];rfl)
noncomputable def qi(r:xA Hd)(f:Env->Option (Exc×Env))(o:Option (Exc×Env)):Option (Exc×Env):=match r with
 |some (.ok _,U1)=>f U1
 |_=>o
theorem yz:JJ P C (e::es) U=qi (TC P C e U) (JJ P C es) (KH P C e U):=rfl
theorem dGa:qi (some (.ok h,U)) f o=f U:=rfl
theorem p_:ex P C W (.AL c es) U=none:=rfl
noncomputable def IW(r:Run)(f:Env->Option (Exc×Env))(o:Option (Exc×Env)):Option (Exc×Env):=match r with
 |some (.nx,U1)=>f U1
 |_=>o
theorem dg:zD P C W (s::r) U=IW (ex P C W s U) (zD P C W r) (GG P C W s U):=rfl
theorem yHa:IW (some (.nx,U)) f o=f U:=rfl
theorem xHa:IW none f o=o:=rfl
theorem wHa:IW (some (.ex x,U)) f o=o:=rfl
noncomputable def R7(r:xA RV)(f g:Env->Option (Exc×Env)):Option (Exc×Env):=match r with
 |some (.ok (.sh (.bl true)),U1)=>f U1
 |some (.ok (.sh (.bl false)),U1)=>g U1
 |_=>none
theorem d_:GG P C W (.DA c a b) U=R7 (ev P C true c U) (zD P C W a) (zD P C W b):=rfl
theorem wGa:R7 (some (.ok (.sh (.bl true)),U)) f g=f U:=rfl
theorem vGa:R7 (some (.ok (.sh (.bl false)),U)) f g=g U:=rfl
noncomputable def ij(c:bA)(r:xA (List D)):Option (Exc×Env):=match r with
 |some (.ok _,U1)=>some (⟨c,none⟩,U1)
 |_=>none
theorem g_:GG P C W (.AL c es) U=ij c (XE P C es U):=rfl
theorem tHa:ij c (some (.ok ds,U))=some (⟨c,none⟩,U):=rfl
theorem c_:GG P C W (.YA i e) U=KH P C e U:=rfl
theorem f_:GG P C W (.ret e) U=KH P C e U:=rfl
def P7(r:xA RV):Option (Exc×Env):=match r with
 |some (.ex x,U')=>some (x,U')
 |_=>none
theorem qGa:P7 (some (.ex x,U))=some (x,U):=rfl
def Di(P:RA)(C:Calls)(f:String)(r:xA (List Hd))(o:Option (Exc×Env)):Option (Exc×Env):=match r with
 |some (.ok hs,U1)=>P7 (ND (P f) (C f) hs U1)
 |_=>o
theorem wz:KH P C (.call f es) U=Di P C f (bD P C es U) (JJ P C es U):=rfl
theorem hGa:Di P C f (some (.ok hs,U)) o=P7 (ND (P f) (C f) hs U):=rfl
theorem wPa:TC P C (.fld a f) U=(ev P C false (.fld a f) U).bind lG:=rfl
theorem bQa:TC P C (.kJ i m tb es) U=(ev P C false (.kJ i m tb es) U).bind lG:=rfl
theorem pSa:pO P C (.neg a) U=(ev P C false (.neg a) U).bind HW:=rfl
theorem Kz:ev P C t (.ID i) U=aAh t (FW i U U[i]?):=rfl
def fH(o:Option D)(f:bA):Option RV:=o.bind λd=>(D3 d f).map .sh
def Qi(f:bA)(x:Hd)(U:Env):xA RV:=done (fH (x.get U) f) U
theorem Jz:ev P C t (.fld a f) U=aAh t ((TC P C a U).bind (Qi f)):=rfl
noncomputable def GW(c:bA)(ns:List bA)(ds:List D)(U:Env):xA RV:=if ds.length=ns.length then some (.ok (.sh (.ins c ns ds)),U) else none
theorem Pz:ev P C t (.make c ns es) U=aAh t ((XE P C es U).bind (GW c ns)):=rfl
theorem iHa:GW c [f] [a] U=some (.ok (.sh (.ins c [f] [a])),U):=rfl
theorem jHa:GW c [f,g] [a,b] U=some (.ok (.sh (.ins c [f,g] [a,b])),U):=rfl
theorem kHa:GW c [f,g,h] [a,b,d] U=some (.ok (.sh (.ins c [f,g,h] [a,b,d])),U):=rfl
def b8(P:RA)(C:Calls)(f:String)(d:D)(hs:List Hd)(U:Env):xA RV:=M7 P C f (.val (.sh d)::hs) U
def Z7(P:RA)(C:Calls)(d:D)(es:List E)(U:Env):Option String->xA RV
 |some f=>(bD P C es U).bind (b8 P C f d)
 |none=>none
theorem lHa:Z7 P C d es U (some f)=(bD P C es U).bind (b8 P C f d):=rfl
def Yi(P:RA)(C:Calls)(m:bA)(tb:List (bA×String))(es:List E)(U:Env):Option Sl->xA RV
 |some (.sh (.ins c ns ds))=>Z7 P C (.ins c ns ds) es U (JG c ns m tb)
 |_=>none
theorem mHa:Yi P C m tb es U (some (.sh (.ins c ns ds)))=Z7 P C (.ins c ns ds) es U (JG c ns m tb):=rfl
theorem Qz:ev P C t (.kJ i m tb es) U=aAh t (Yi P C m tb es U U[i]?):=rfl
theorem iFa:aAb .key [.val (.sh (.ZA ks ds))] U=some (ks.map RI,none):=rfl
theorem mz:ex P C W (.ret (.make c ns es)) U=(ev P C false (.make c ns es) U).VB pI:=rfl
theorem Lx:wB .NotEq (.bl a) (.bl b)=some (!(a==b)):=rfl
theorem zg0:(a::l)[0]?=some a:=rfl
theorem zg1:(a::l)[n+1]?=l[n]?:=rfl
theorem zs0:(a::l).set 0 b=b::l:=rfl
theorem zs1:(a::l).set (n+1) b=a::l.set n b:=rfl
theorem zb:(some a).bind f=f a:=rfl
theorem zm:(some a).map f=some (f a):=rfl
theorem zi:(some a).isSome=true:=rfl
theorem zc:(a::l)++m=a::(l++m):=rfl
theorem zn:[]++l=l:=rfl
theorem zr0:LB 0 a=[]:=rfl
theorem zr1:LB (n+1) a=a::LB n a:=rfl
theorem zl0:([]:List O).length=0:=rfl
theorem zl1:(a::l).length=l.length+1:=rfl
theorem znt:(!true)=false:=rfl
theorem znf:(!false)=true:=rfl
theorem zko:back (.ow d p l::as) (b::bs)=b::back as bs:=rfl
theorem zks:back (.sh d::as) (b::bs)=.sh d::back as bs:=rfl
theorem zkn:back [] bs=[]:=rfl
end
def gJa{Q:List O->Prop}(h:∀a0,Q [a0])(us:List O)(hl:us.length=1):Q us:=by
 obtain _ | ⟨a0,r0⟩:=us
 ·simp at hl
 obtain _ | ⟨x,y⟩:=r0
 ·exact h a0
 ·simp at hl
def hJa{Q:List O->Prop}(h:∀a0 a1,Q [a0,a1])(us:List O)(hl:us.length=2):Q us:=by
 obtain _ | ⟨a0,r0⟩:=us
 ·simp at hl
 obtain _ | ⟨a1,r1⟩:=r0
 ·simp at hl
 obtain _ | ⟨x,y⟩:=r1
 ·exact h a0 a1
 ·simp at hl
def iJa{Q:List O->Prop}(h:∀a0 a1 a2,Q [a0,a1,a2])(us:List O)(hl:us.length=3):Q us:=by
 obtain _ | ⟨a0,r0⟩:=us
 ·simp at hl
 obtain _ | ⟨a1,r1⟩:=r0
 ·simp at hl
 obtain _ | ⟨a2,r2⟩:=r1
 ·simp at hl
 obtain _ | ⟨x,y⟩:=r2
 ·exact h a0 a1 a2
 ·simp at hl
def jJa{Q:List O->Prop}(h:∀a0 a1 a2 a3,Q [a0,a1,a2,a3])(us:List O)(hl:us.length=4):Q us:=by
 obtain _ | ⟨a0,r0⟩:=us
 ·simp at hl
 obtain _ | ⟨a1,r1⟩:=r0
 ·simp at hl
 obtain _ | ⟨a2,r2⟩:=r1
 ·simp at hl
 obtain _ | ⟨a3,r3⟩:=r2
 ·simp at hl
 obtain _ | ⟨x,y⟩:=r3
 ·exact h a0 a1 a2 a3
 ·simp at hl
def kJa{Q:List O->Prop}(h:∀a0 a1 a2 a3 a4,Q [a0,a1,a2,a3,a4])(us:List O)(hl:us.length=5):Q us:=by
 obtain _ | ⟨a0,r0⟩:=us
 ·simp at hl
 obtain _ | ⟨a1,r1⟩:=r0
 ·simp at hl
 obtain _ | ⟨a2,r2⟩:=r1
 ·simp at hl
 obtain _ | ⟨a3,r3⟩:=r2
 ·simp at hl
 obtain _ | ⟨a4,r4⟩:=r3
 ·simp at hl
 obtain _ | ⟨x,y⟩:=r4
 ·exact h a0 a1 a2 a3 a4
 ·simp at hl
open PySem PySem.Spec PyProof.Rows L2 in
def BQ(x XA:bA)(st:MA)(kV doc pm:cA)(an:Option fA)(VA ct:cA)(us:List cA):Prop:=PySem.bindArgs (yH x XA (JH st) (fE st) (dC st) .none kV doc pm an VA ct) ⟨us,[]⟩=pure ((eD st).zip us)
def fc{P:O->Prop}(h:P a)(t:∀x∈l,P x):∀x∈a::l,P x:=Wb.mpr ⟨h,t⟩
section
open PySem PySem.Spec PyProof.Rows L2
def O_{K:gA}{mg:bA->Option cA}{h:jB}{T:Tab}{gl:bA->GV}{x:bA}{f:String}{st:MA}{fn:Fn}{r:List (bA×GV)}(X:K.In h)(G:h.Ns IB mg)(O:BR gl st x fn)(t:∀e∈r,BH K mg T gl e)(hT:T f=some fn:=by rfl)(D:AR K x st:=by refine' CI.Pf ?a ?l ?c ?k;(case a | l | c | k=>k_is)):∀e∈(x,GV.fn f)::r,BH K mg T gl e:=fc (Vy X G D O hT) t
abbrev ie(st:MA):Prop:=(zL st).Nodup/\(zL st).take (eD st).length=eD st/\(∀x∈eD st,(dC st).names.lookup x=some .local\/(dC st).names.lookup x=some .cell)/\∀y∈(dC st).names,y.2≠.free
abbrev qN(x XA:bA)(st:MA):Prop:=∀(kV doc pm:cA) (an:Option fA) (VA ct:cA) (us:List cA),us.length=(eD st).length->BQ x XA st kV doc pm an VA ct us
def lJ{st:MA}(q:qN x XA st)(h1:(dC st).kind=.function:=by rfl)(h2:(dC st).isCoroutine=false:=by rfl)(h3:(dC st).isGenerator=false:=by rfl)(h:ie st/\(zL st).length=fn.aA.length+fn.nl/\(eD st).length=fn.aA.length:=by decide +kernel)(b:fn.body=Jf gl st:=by kernel_rfl):AH gl st x XA fn :=
 ⟨⟨h1,h2,h3,h.1.1,h.1.2.1,h.1.2.2.1,h.1.2.2.2⟩,b,h.2.1,h.2.2,q⟩
def iO{st:MA}(q:qN "__init__" XA st)(h1:(dC st).kind=.function:=by rfl)(h2:(dC st).isCoroutine=false:=by rfl)(h3:(dC st).isGenerator=false:=by rfl)(h:ie st/\(eD st).length=ns.length+1/\ns.Nodup/\ns.length<1000:=by decide +kernel)(b:rL (eD st) 1 (fE st)=some ns:=by kernel_rfl):IK st XA ns :=
 ⟨⟨h1,h2,h3,h.1.1,h.1.2.1,h.1.2.2.1,h.1.2.2.2⟩,b,h.2.1,h.2.2.1,h.2.2.2,q⟩
variable{st:MA}
def HJ(hn:(eD st).length=1:=by rfl)(h:∀kV doc pm an VA ct a0,BQ x XA st kV doc pm an VA ct [a0]:=by intros;exact rfl):qN x XA st:=λkV doc pm an VA ct us hl=>gJa (h kV doc pm an VA ct) us (hl.trans hn)
def mF(hn:(eD st).length=2:=by rfl)(h:∀kV doc pm an VA ct a0 a1,BQ x XA st kV doc pm an VA ct [a0,a1]:=by intros;exact rfl):qN x XA st:=λkV doc pm an VA ct us hl=>hJa (h kV doc pm an VA ct) us (hl.trans hn)
def MI(hn:(eD st).length=3:=by rfl)(h:∀kV doc pm an VA ct a0 a1 a2,BQ x XA st kV doc pm an VA ct [a0,a1,a2]:=by intros;exact rfl):qN x XA st:=λkV doc pm an VA ct us hl=>iJa (h kV doc pm an VA ct) us (hl.trans hn)
def gI(hn:(eD st).length=4:=by rfl)(h:∀kV doc pm an VA ct a0 a1 a2 a3,BQ x XA st kV doc pm an VA ct [a0,a1,a2,a3]:=by intros;exact rfl):qN x XA st:=λkV doc pm an VA ct us hl=>jJa (h kV doc pm an VA ct) us (hl.trans hn)
def Ow(hn:(eD st).length=5:=by rfl)(h:∀kV doc pm an VA ct a0 a1 a2 a3 a4,BQ x XA st kV doc pm an VA ct [a0,a1,a2,a3,a4]:=by intros;exact rfl):qN x XA st:=λkV doc pm an VA ct us hl=>kJa (h kV doc pm an VA ct) us (hl.trans hn)
end
def Ni(v u:RV)(U:Env):xA RV:=yV (nE v.d) u U
def Mi(P:RA)(C:Calls)(b:E)(v:RV)(U:Env):xA RV:=(ev P C false b U).bind (Ni v)
theorem Jy:yV (some k) u U=some (.ok (.ow (.ZA [k] [u.d])),U):=rfl
theorem Iz:ev P C t (.fS a b) U=aAh t ((ev P C false a U).bind (Mi P C b)):=rfl
def Wm:iK (.t [.int t,.t (ns.map D.int)])=some (t,ns):=by
 show(IE (ns.map D.int)).map _=_;rw[aAD];rfl
theorem mXa:nE (.t [.t [.int t,.t (ns.map D.int)],.t [.int u,.t (ms.map D.int)]])=some (.inr ((t,ns),(u,ms))):=by
 show(iK _).bind _=_;rw[Wm];show(iK _).map _=_;rw[Wm];rfl
def ni(hk:nE e=some k)(h:cK ks ds k=some d):RB (some (.ZA ks ds)) e=some (.sh d):=by
 show(((nE e).bind (cK ks ds)).map RV.sh)=_;rw[hk];show((cK ks ds k).map RV.sh)=_;rw[h];rfl
def Xe(hk:nE e=some k):wB .NotIn e (.ZA ks ds)=some !XI ks k:=by
 show((nE e).map _).map _=_;rw[hk];rfl
theorem Fw:WE .len [.ZA ks ds]=some (.sh (.int ks.length)):=rfl
def i8(i:Nat)(j:RV)(U:Env)(o:Option Sl):xA RV:=match o,j with
 |some (.ow (.l ds) p false),.sh (.int n)=>@ite _ (0<=n/\n<=1000000) (cl _) ((ds[n.toNat]?).map λd=>(.ok (.sh d),U.set i (.ow (.l (ds.eraseIdx n.toNat)) p false))) none
 |_,_=>none
def fj(i:Nat)(j:RV)(U:Env):xA RV:=i8 i j U U[i]?
def rHa(h1:0<=n)(h2:n<=1000000)(h3:ds[n.toNat]?=some d):i8 i (.sh (.int n)) U (some (.ow (.l ds) p false))=some (.ok (.sh d),U.set i (.ow (.l (ds.eraseIdx n.toNat)) p false)):=by
 show @ite _ (0<=n/\n<=1000000) (cl _) ((ds[n.toNat]?).map _) none=_;rw[GA ⟨h1,h2⟩,h3];rfl
theorem Vz:ev P C t (.ET i k) U=aAh t (T7 ((ev P C false k U).bind (fj i)) (gJ U i)):=rfl
def Hw{ks:List L2.cC}{ds:List D}(h:ks.all uZ=true):WE .sorted [.ZA ks ds]=some (.sh (.GC (ks.map RI))):=GA h
theorem Ew{ds:List D}:WE .len [.GC ds]=some (.sh (.int ds.length)):=rfl
theorem C3{i j:Int}:WE .max [.t [.int i,.int j]]=some (.sh (.int (if j > i then j else i))):=rfl
def We{i j:Int}{ns ms:List Int}:wB .LtE (.t [.int i,.l (ns.map .int)]) (.t [.int j,.l (ms.map .int)])=some (if i=j then !HT.aAj ms ns else decide (i<=j)):=by
 show(xM _).bind _=_;rw[show xM [.int i,.l (ns.map .int)]=some (i,ns) from by show(IE _).map _=_;rw[aAD];rfl];show(xM _).map _=_;rw[show xM [.int j,.l (ms.map .int)]=some (j,ms) from by show(IE _).map _=_;rw[aAD];rfl];rfl
def o8(P:RA)(C:Calls)(cs:List bA)(i:Nat)(e:E)(r:Run)(o:Option (Exc×Env)):Run:=match r with
 |some (.nx,U1)=>some (.nx,U1)
 |_=>match o with
  |some (x,U1)=>if cs.contains x.cls then(ev P C false e U1).VB λv U2=>JF (store i v U2) else none
  |none=>none
theorem r_{b:List S}{cs:List bA}{i:Nat}{e:E}:ex P C W (.UQ b cs i e) U=o8 P C cs i e (IA P C W b U) (zD P C W b U):=rfl
theorem cIa{cs:List bA}{i:Nat}{e:E}{o:Option (Exc×Env)}:o8 P C cs i e (some (.nx,U)) o=some (.nx,U):=rfl
end CI
namespace Tx
noncomputable abbrev _root_.CI.E.n(d:Int):CI.E:=.c (.int d)
noncomputable abbrev _root_.CI.E.s(d:bA):CI.E:=.c (.str d)
noncomputable abbrev _root_.CI.E.b(d:Bool):CI.E:=.c (.bl d)
open PySem PySem.Spec PyProof.Rows L2 CI
noncomputable def top(i:Nat):MA:=PySem.Challenge.pw_canonwright_k54_whole_needed_in_fewer.main.body.getD i (.Pass ⟨0,0,0,0⟩)
noncomputable def CP:List bA:=["TooMany"]
noncomputable def pJ:List (bA×String):=[("Span","I"),("Leap","K"),("Back","L"),("Again","M"),("Range","N"),("Above","P"),("Never","Q")]
noncomputable def QM:List (bA×String):=[("Span","J"),("Range","O")]
def L:List (bA×GV):=("NOTES",.c (.int 0))::("BAR",.c (.int 1))::("OCTAVE",.c (.int 2))::("VOICES",.c (.int 3))::("RULES",.c (.int 4))::("LATE",.c (.int 0))::("SHIFT",.c (.int 1))::("TURNED",.c (.int 2))::("LEADER",.c (.t [(.int 0),(.int 0),(.bl false)]))::("BY_THE_LINE",.c (.t []))::("TURN",.c (.int 0))::("TAIL",.c (.int 1))::("LEAST_MEMORY",.c (.int 3))::("START",.c (.t [(.t [(.int 0),(.t [])]),(.t [(.int 0),(.t [])])]))::("MOST_PAIRS",.c (.int 150))::("is_whole",.fn "w")::("is_within",.fn "x")::("pitch",.fn "y")::("singer",.fn "z")::("sung",.fn "m")::("span",.fn "i")::("chord",.fn "c")::("sounding_pairs",.fn "r")::("move_so",.fn "A")::("rule_of",.fn "d")::("rules_of",.fn "B")::("breaks_at",.fn "s")::("memory",.fn "t")::("turn_of",.fn "C")::("stand_of",.fn "D")::("line_to",.fn "u")::("nexts",.fn "e")::("behind",.fn "g")::("pair_behind",.fn "j")::("notes_of_both",.fn "n")::("lines_of_pairs",.fn "k")::("first_apart",.fn "o")::("compared",.fn "b")::("less",.fn "p")::("needed",.fn "q")::("_law_pen",.fn "l")::("_law_draw",.fn "a")::("_law_rule",.fn "E")::("_law_house",.fn "F")::("_law_fair",.fn "G")::("_law_told",.fn "f")::("_law_word",.fn "h")::("_law_alike",.fn "H")::("_law_fewer",.fn "v")::("law",.fn "law")::("Span",.cls ["beat","spans"])::("Leap",.cls ["most"])::("Back",.cls ["leap","most"])::("Again",.cls ["most"])::("Range",.cls ["low","high"])::("Above",.cls ["one","other"])::("Never",.cls ["one","other","way"])::(dot "broken",.sF pJ)::(dot "forbids",.sF QM)::("abs",.BB)::("all",.BB)::("bool",.BB)::("enumerate",.BB)::("int",.BB)::("isinstance",.BB)::("len",.BB)::("list",.BB)::("max",.BB)::("min",.BB)::("range",.BB)::("sorted",.BB)::("tuple",.BB)::("TooMany",.exc)::("Unlike",.exc)::("NoNumber",.exc)::(cat "TooMany",.IA CP)::[]
noncomputable def dy:MA->List MA
 |.ClassDef _ _ _ body _ _ _ _ _ _ _=>body
 |_=>[]
def mG(i j:Nat):MA:=(dy (top i)).getD j (.Pass ⟨0,0,0,0⟩)
noncomputable def J2:E:=(.call "m" [.v 1,.v 2,.v 4,.v 0])
noncomputable def E2:E:=(.t [.v 4,.v 5])
noncomputable def C2:E:=(.FA .Eq (.v 3) (.ix (.v 1) (.v 0)))
noncomputable def D2:E:=(.t [.v 2])
noncomputable def S2:E:=(.call "d" [.v 1])
def O2:E:=(.ix (.v 1) (.n 0))
noncomputable def P2:E:=(.v 4)
noncomputable def Q2:E:=(.v 2)
noncomputable def K2:E:=(.v 1)
noncomputable def zV:E:=(.v 4)
noncomputable def V0:List S:=[.DA (.and (.FA .IsNot (.ix (.v 0) (.v 2)) (.c .lA)) (.FA .IsNot (.ix (.v 0) (.v 3)) (.c .lA))) [.expr (.app 1 (.t [.v 2,.v 3]))] []]
def W0:List S:=[.for [3] true .uD [.zA .Add (.v 2) (.n 1),.bif .len [.v 0]] V0]
noncomputable def P0:List S:=[.DA (.and (.FA .Eq (.call "i" [.v 4,.ix (.v 5) (.v 8),.ix (.v 5) (.v 9)]) (.fld (.v 0) "one")) (.FA .Eq (.call "i" [.v 4,.ix (.v 6) (.v 8),.ix (.v 6) (.v 9)]) (.fld (.v 0) "other"))) [.DA (.call "A" [.fld (.v 0) "way",.zA .Sub (.ix (.v 6) (.v 8)) (.ix (.v 5) (.v 8)),.zA .Sub (.ix (.v 6) (.v 9)) (.ix (.v 5) (.v 9))]) [.expr (.app 7 (.t [.v 8,.v 9]))] []] []]
noncomputable def Q0:List S:=[.expr (.app 4 (.t [.v 3,.v 5,.v 7]))]
def S0:List S:=[.for [7] true .of [.kJ 6 "broken" pJ [.v 0,.v 2,.v 3]] Q0]
noncomputable def RK:List S:=[.YA 7 (.call "j" [.v 0,.v 1,.v 5,.v 6]),.DA (.FA .NotIn (.v 7) (.v 2)) [.set 2 (.v 7) (.zA .Add (.ix (.v 2) (.v 5)) (.l [.v 6])),.expr (.app 4 (.v 7))] []]
def TR:List S:=[.for [6] true .of [.call "n" [.v 0,.v 1,.v 5]] RK]
def BG:List S:=[.YA 4 (.l []),.for [5] true .of [.v 3] TR,.DA (.FA .Gt (.bif .len [.v 2]) (.n 150)) [.AL "TooMany" [.s "more than 150 pairs belong to lines that both houses let by"]] [],.YA 3 (.v 4)]
def fV:List S:=[.DA (.FA .NotEq (.FA .In (.v 5) (.v 3)) (.FA .In (.v 5) (.v 4))) [.ret (.t [.v 5,.ite (.FA .In (.v 5) (.v 3)) (.n 1) (.n 2)])] []]
def xP:List S:=[.YA 4 (.call "o" [.v 0,.v 1,.v 3]),.DA (.FA .IsNot (.v 4) (.c .lA)) [.ret (.t [.s "apart",.zA .Add (.ix (.v 2) (.v 3)) (.l [.ix (.v 4) (.n 0)]),.ix (.v 4) (.n 1)])] []]
def N0:List S:=[.YA 8 (.call "a" [.v 0,.ix (.l [.n 2,.n 5]) (.bif .int [.v 1])]),.expr (.app 6 (.t [.v 8,.zA .Sub (.call "a" [.v 0,.n 25]) (.n 12),.FA .Eq (.call "a" [.v 0,.n 4]) (.n 0)]))]
noncomputable def O0:List S:=[.expr (.app 9 (.call "E" [.v 0,.v 2,.v 3,.v 4,.v 5]))]
def CN:List S:=[.DA (.or (.FA .NotEq (.ix (.v 7) (.n 0)) (.s "above")) (.FA .LtE (.bif .max [.sl (.v 7) (.n 1) .mH]) (.bif .len [.v 4]))) [.expr (.app 6 (.v 7))] []]
noncomputable def eV:List S:=[.expr (.app 3 (.ET 2 (.call "a" [.v 1,.bif .len [.v 2]])))]
def ja:S:=(.YA 5 (.call "a" [.v 0,.n 9]))
def k2a{P:RA}{C:Calls}{W:Nat}{U:CI.Env}:ex P C W ja U=ex P C W (.YA 5 (.call "a" [(.v 0),(.c (.int 9))])) U:=(rfl)
def oa:S:=(.DA (.FA .Lt (.v 5) (.n 2)) [.ret (.t [.s "span",.call "a" [.v 0,.v 2],.call "a" [.v 0,.zA .LShift (.n 1) (.v 3)]])] [])
def Vp{P:RA}{C:Calls}{W:Nat}{U:CI.Env}:ex P C W oa U=ex P C W (.DA (.FA .Lt (.v 5) (.c (.int 2))) [(.ret (.t [(.c (.str ("span":bA))),(.call "a" [(.v 0),(.v 2)]),(.call "a" [(.v 0),(.zA .LShift (.c (.int 1)) (.v 3))])]))] []) U:=(rfl)
def Gn:S:=(.DA (.FA .Eq (.v 5) (.n 2)) [.ret (.t [.s "span",.call "a" [.v 0,.v 2],.zA .Sub (.zA .Sub (.zA .LShift (.n 1) (.v 3)) (.n 1)) (.zA .LShift (.n 1) (.call "a" [.v 0,.v 3]))])] [])
def Xp{P:RA}{C:Calls}{W:Nat}{U:CI.Env}:ex P C W Gn U=ex P C W (.DA (.FA .Eq (.v 5) (.c (.int 2))) [(.ret (.t [(.c (.str ("span":bA))),(.call "a" [(.v 0),(.v 2)]),(.zA .Sub (.zA .Sub (.zA .LShift (.c (.int 1)) (.v 3)) (.c (.int 1))) (.zA .LShift (.c (.int 1)) (.call "a" [(.v 0),(.v 3)])))]))] []) U:=(rfl)
def Hn:S:=(.DA (.FA .Eq (.v 5) (.n 3)) [.ret (.t [.s "leap",.call "a" [.v 0,.ix (.l [.n 13,.zA .Add (.v 1) (.n 1)]) (.call "a" [.v 0,.n 2])]])] [])
def Yp{P:RA}{C:Calls}{W:Nat}{U:CI.Env}:ex P C W Hn U=ex P C W (.DA (.FA .Eq (.v 5) (.c (.int 3))) [(.ret (.t [(.c (.str ("leap":bA))),(.call "a" [(.v 0),(.ix (.l [(.c (.int 13)),(.zA .Add (.v 1) (.c (.int 1)))]) (.call "a" [(.v 0),(.c (.int 2))]))])]))] []) U:=(rfl)
def Jn:S:=(.DA (.FA .Eq (.v 5) (.n 4)) [.ret (.t [.s "back",.zA .Add (.n 1) (.call "a" [.v 0,.n 12]),.zA .Add (.n 1) (.call "a" [.v 0,.n 12])])] [])
def Zp{P:RA}{C:Calls}{W:Nat}{U:CI.Env}:ex P C W Jn U=ex P C W (.DA (.FA .Eq (.v 5) (.c (.int 4))) [(.ret (.t [(.c (.str ("back":bA))),(.zA .Add (.c (.int 1)) (.call "a" [(.v 0),(.c (.int 12))])),(.zA .Add (.c (.int 1)) (.call "a" [(.v 0),(.c (.int 12))]))]))] []) U:=(rfl)
def Kn:S:=(.DA (.FA .Eq (.v 5) (.n 5)) [.ret (.t [.s "again",.zA .Add (.n 1) (.call "a" [.v 0,.n 3])])] [])
def aq{P:RA}{C:Calls}{W:Nat}{U:CI.Env}:ex P C W Kn U=ex P C W (.DA (.FA .Eq (.v 5) (.c (.int 5))) [(.ret (.t [(.c (.str ("again":bA))),(.zA .Add (.c (.int 1)) (.call "a" [(.v 0),(.c (.int 3))]))]))] []) U:=(rfl)
def Ln:S:=(.DA (.FA .Eq (.v 5) (.n 6)) [.YA 6 (.ix (.l [.zA .Sub (.call "a" [.v 0,.n 121]) (.n 60),.zA .Sub (.call "a" [.v 0,.n 20]) (.n 12)]) (.call "a" [.v 0,.n 2])),.ret (.t [.s "range",.v 6,.zA .Add (.v 6) (.call "a" [.v 0,.zA .Sub (.n 61) (.v 6)])])] [])
def bq{P:RA}{C:Calls}{W:Nat}{U:CI.Env}:ex P C W Ln U=ex P C W (.DA (.FA .Eq (.v 5) (.c (.int 6))) [(.YA 6 (.ix (.l [(.zA .Sub (.call "a" [(.v 0),(.c (.int 121))]) (.c (.int 60))),(.zA .Sub (.call "a" [(.v 0),(.c (.int 20))]) (.c (.int 12)))]) (.call "a" [(.v 0),(.c (.int 2))]))),(.ret (.t [(.c (.str ("range":bA))),(.v 6),(.zA .Add (.v 6) (.call "a" [(.v 0),(.zA .Sub (.c (.int 61)) (.v 6))]))]))] []) U:=(rfl)
def Mn:S:=(.DA (.FA .Eq (.v 5) (.n 7)) [.YA 7 (.call "a" [.v 0,.zA .Add (.v 4) (.n 1)]),.ret (.t [.s "above",.v 7,.zA .Mod (.zA .Add (.zA .Add (.v 7) (.n 1)) (.call "a" [.v 0,.v 4])) (.zA .Add (.v 4) (.n 1))])] [])
def cq{P:RA}{C:Calls}{W:Nat}{U:CI.Env}:ex P C W Mn U=ex P C W (.DA (.FA .Eq (.v 5) (.c (.int 7))) [(.YA 7 (.call "a" [(.v 0),(.zA .Add (.v 4) (.c (.int 1)))])),(.ret (.t [(.c (.str ("above":bA))),(.v 7),(.zA .Mod (.zA .Add (.zA .Add (.v 7) (.c (.int 1))) (.call "a" [(.v 0),(.v 4)])) (.zA .Add (.v 4) (.c (.int 1))))]))] []) U:=(rfl)
def Nn:S:=(.YA 8 (.t [.s "like",.s "against",.s "aside",.s "any"]))
def l2a{P:RA}{C:Calls}{W:Nat}{U:CI.Env}:ex P C W Nn U=ex P C W (.YA 8 (.t [(.c (.str ("like":bA))),(.c (.str ("against":bA))),(.c (.str ("aside":bA))),(.c (.str ("any":bA)))])) U:=(rfl)
def Pn:S:=(.ret (.t [.s "never",.call "a" [.v 0,.v 3],.call "a" [.v 0,.v 3],.ix (.v 8) (.call "a" [.v 0,.n 4])]))
def m2a{P:RA}{C:Calls}{W:Nat}{U:CI.Env}:ex P C W Pn U=ex P C W (.ret (.t [(.c (.str ("never":bA))),(.call "a" [(.v 0),(.v 3)]),(.call "a" [(.v 0),(.v 3)]),(.ix (.v 8) (.call "a" [(.v 0),(.c (.int 4))]))])) U:=(rfl)
def HX:S:=(.YA 1 (.call "G" [.call "l" [.v 0,.n 0]]))
def JX:S:=(.YA 2 (.call "l" [.v 0,.n 1]))
noncomputable def LX:S:=(.YA 3 (.call "H" [.v 1,.v 2]))
noncomputable def MX:S:=(.YA 4 (.call "h" [.v 1,.v 3]))
def WT:S:=(.DA (.or (.FA .Eq (.ix (.v 4) (.n 0)) (.s "apart")) (.and (.FA .Eq (.ix (.v 4) (.n 0)) (.s "alike")) (.FA .Gt (.bif .len [.comp K2 [1] .of [.ix (.v 4) (.n 1)] [.FA .NotEq (.ix (.v 1) (.n 0)) (.ix (.v 1) (.n 1))] [] 2]) (.n 0)))) [.ret (.b false)] [])
def XT:S:=(.DA (.or (.FA .Lt (.bif .len [.ix (.v 1) (.n 4)]) (.n 2)) (.or (.FA .Eq (.ix (.v 4) (.n 0)) (.s "many")) (.FA .Gt (.bif .len [.ix (.v 4) (.n 1)]) (.n 40)))) [.ret (.b true)] [])
def YT:S:=(.YA 5 (.call "a" [.v 2,.bif .len [.ix (.v 1) (.n 4)]]))
def ZT:S:=(.YA 6 (.zA .Mod (.zA .Add (.zA .Add (.v 5) (.n 1)) (.call "a" [.v 2,.zA .Sub (.bif .len [.ix (.v 1) (.n 4)]) (.n 1)])) (.bif .len [.ix (.v 1) (.n 4)])))
noncomputable def aU:S:=(.YA 7 (.call "f" [.v 1,.v 5]))
def lK:S:=(.DA (.and (.FA .IsNot (.v 7) (.c .lA)) (.FA .Eq (.ix (.v 7) (.n 0)) (.s "needed"))) [.YA 8 (.comp zV [4] .uD [.bif .len [.ix (.v 3) (.n 4)]] [.FA .Eq (.ix (.ix (.v 2) (.n 4)) (.v 4)) (.ix (.ix (.v 0) (.n 4)) (.v 1))] [1,5,3] 2),.DA (.or (.FA .NotEq (.bif .len [.v 8]) (.n 1)) (.or (.FA .NotEq (.call "f" [.v 3,.ix (.v 8) (.n 0)]) (.v 7)) (.not (.call "v" [.v 1,.v 5,.v 6,.v 7])))) [.ret (.b false)] []] [])
noncomputable def UT:S:=(.YA 9 (.call "p" [.v 1,.v 6]))
def VT:S:=(.ret (.FA .Eq (.ix (.call "h" [.v 9,.v 1]) (.n 0)) (.ix (.call "h" [.v 9,.v 3]) (.n 0))))
noncomputable def M4:Fn:=⟨[true],0,[.ret (.and (.zM (.v 0) [.int]) (.not (.zM (.v 0) [.bool])))],false⟩
noncomputable def N4:Fn:=⟨[true,true,true],0,[.ret (.and (.call "w" [.v 0]) (.GH .LtE .LtE (.v 1) (.v 0) (.v 2)))],false⟩
def X4:Fn:=⟨[true,true],0,[.DA (.ix (.v 0) (.n 2)) [.ret (.zA .Sub (.ix (.v 0) (.n 1)) (.v 1))] [],.ret (.zA .Add (.ix (.v 0) (.n 1)) (.v 1))],false⟩
def Z4:Fn:=⟨[true,true],0,[.DA (.FA .Eq (.v 1) (.n 0)) [.ret (.c (.t [.int 0,.int 0,.bl false]))] [],.ret (.ix (.ix (.v 0) (.n 3)) (.zA .Sub (.v 1) (.n 1)))],false⟩
def o5:Fn:=⟨[true,true,true,true],2,[.YA 4 (.call "z" [.v 0,.v 2]),.YA 5 (.zA .Sub (.v 3) (.ix (.v 4) (.n 0))),.DA (.GH .LtE .Lt (.n 0) (.v 5) (.bif .len [.v 1])) [.ret (.call "y" [.v 4,.ix (.v 1) (.v 5)])] [],.ret (.c .lA)],false⟩
noncomputable def j5:Fn:=⟨[true,true,true],0,[.ret (.zA .Mod (.bif .abs [.zA .Sub (.v 1) (.v 2)]) (.v 0))],false⟩
def K4:Fn:=⟨[true,true,true],0,[.ret (.comp J2 [4] .uD [.zA .Add (.bif .len [.ix (.v 0) (.n 3)]) (.n 1)] [] [2,0,1] 2)],false⟩
def i5:Fn:=⟨[true],3,[.YA 1 (.l []),.for [2] true .uD [.bif .len [.v 0]] W0,.ret (.v 1)],false⟩
def R4:Fn:=⟨[true,true,true],0,[.DA (.FA .Eq (.v 0) (.s "like")) [.ret (.FA .Gt (.zA .Mult (.v 1) (.v 2)) (.n 0))] [],.DA (.FA .Eq (.v 0) (.s "against")) [.ret (.FA .Lt (.zA .Mult (.v 1) (.v 2)) (.n 0))] [],.DA (.FA .Eq (.v 0) (.s "aside")) [.ret (.FA .NotEq (.FA .Eq (.v 1) (.n 0)) (.FA .Eq (.v 2) (.n 0)))] [],.ret (.b true)],false⟩
def D4:Fn:=⟨[true,true,true,true],2,[.DA (.FA .NotEq (.zA .Mod (.v 3) (.ix (.v 1) (.n 1))) (.fld (.v 0) "beat")) [.ret (.l [])] [],.YA 4 (.ix (.v 1) (.n 2)),.YA 5 (.call "c" [.v 1,.v 2,.v 3]),.ret (.comp E2 [4,5] .of [.call "r" [.v 5]] [.kJ 2 "forbids" QM [.call "i" [.v 1,.ix (.v 0) (.v 4),.ix (.v 0) (.v 5)]]] [5,4,0] 3)],false⟩
def E4:Fn:=⟨[true,true],0,[.ret (.FA .Eq (.zA .BitAnd (.zA .RShift (.fld (.v 0) "spans") (.v 1)) (.n 1)) (.n 0))],false⟩
def y4:Fn:=⟨[true,true,true,false],0,[.DA (.and (.FA .Gt (.v 3) (.n 0)) (.FA .Gt (.bif .abs [.zA .Sub (.ix (.v 2) (.v 3)) (.ix (.v 2) (.zA .Sub (.v 3) (.n 1)))]) (.fld (.v 0) "most"))) [.ret (.l [.c (.t [])])] [],.ret (.l [])],false⟩
def O3:Fn:=⟨[true,true,true,false],2,[.DA (.FA .Lt (.v 3) (.n 2)) [.ret (.l [])] [],.YA 4 (.zA .Sub (.ix (.v 2) (.zA .Sub (.v 3) (.n 1))) (.ix (.v 2) (.zA .Sub (.v 3) (.n 2)))),.YA 5 (.zA .Sub (.ix (.v 2) (.v 3)) (.ix (.v 2) (.zA .Sub (.v 3) (.n 1)))),.DA (.FA .Lt (.bif .abs [.v 4]) (.fld (.v 0) "leap")) [.ret (.l [])] [],.DA (.and (.FA .Lt (.zA .Mult (.v 4) (.v 5)) (.n 0)) (.FA .LtE (.bif .abs [.v 5]) (.fld (.v 0) "most"))) [.ret (.l [])] [],.ret (.l [.c (.t [])])],false⟩
def N3:Fn:=⟨[true,true,true,false],0,[.DA (.FA .Lt (.v 3) (.fld (.v 0) "most")) [.ret (.l [])] [],.DA (.bif .all [.comp C2 [3] .of [.sl (.v 2) (.zA .Sub (.v 3) (.fld (.v 0) "most")) (.v 3)] [] [3,2] 2]) [.ret (.l [.c (.t [])])] [],.ret (.l [])],false⟩
def B4:Fn:=⟨[true,true,true,true],0,[.ret (.comp D2 [2,3] (.enum 0) [.call "c" [.v 1,.v 2,.v 3]] [.kJ 0 "forbids" QM [.v 3]] [0] 3)],false⟩
noncomputable def C4:Fn:=⟨[true,true],0,[.ret (.and (.FA .IsNot (.v 1) (.c .lA)) (.not (.GH .LtE .LtE (.fld (.v 0) "low") (.v 1) (.fld (.v 0) "high"))))],false⟩
noncomputable def M3:Fn:=⟨[true,true,true,true],2,[.YA 4 (.call "m" [.v 1,.v 2,.fld (.v 0) "one",.v 3]),.YA 5 (.call "m" [.v 1,.v 2,.fld (.v 0) "other",.v 3]),.DA (.or (.FA .Is (.v 4) (.c .lA)) (.or (.FA .Is (.v 5) (.c .lA)) (.FA .GtE (.v 4) (.v 5)))) [.ret (.l [])] [],.ret (.l [.t [.fld (.v 0) "one",.fld (.v 0) "other"]])],false⟩
def A4:Fn:=⟨[true,true,true,true],6,[.YA 4 (.ix (.v 1) (.n 2)),.YA 5 (.call "c" [.v 1,.v 2,.zA .Sub (.v 3) (.n 1)]),.YA 6 (.call "c" [.v 1,.v 2,.v 3]),.YA 7 (.l []),.for [8,9] false .of [.call "r" [.v 5]] P0,.ret (.v 7)],false⟩
def cL:Fn:=⟨[true],1,[.YA 1 (.ix (.v 0) (.n 0)),.DA (.FA .Eq (.v 1) (.s "span")) [.ret (.make "Span" ["beat","spans"] [.ix (.v 0) (.n 1),.ix (.v 0) (.n 2)])] [],.DA (.FA .Eq (.v 1) (.s "leap")) [.ret (.make "Leap" ["most"] [.ix (.v 0) (.n 1)])] [],.DA (.FA .Eq (.v 1) (.s "back")) [.ret (.make "Back" ["leap","most"] [.ix (.v 0) (.n 1),.ix (.v 0) (.n 2)])] [],.DA (.FA .Eq (.v 1) (.s "again")) [.ret (.make "Again" ["most"] [.ix (.v 0) (.n 1)])] [],.DA (.FA .Eq (.v 1) (.s "range")) [.ret (.make "Range" ["low","high"] [.ix (.v 0) (.n 1),.ix (.v 0) (.n 2)])] [],.DA (.FA .Eq (.v 1) (.s "above")) [.ret (.make "Above" ["one","other"] [.ix (.v 0) (.n 1),.ix (.v 0) (.n 2)])] [],.ret (.make "Never" ["one","other","way"] [.ix (.v 0) (.n 1),.ix (.v 0) (.n 2),.ix (.v 0) (.n 3)])],false⟩
def Y4:Fn:=⟨[true],0,[.ret (.comp S2 [1] .of [.ix (.v 0) (.n 4)] [] [] 2)],false⟩
def J4:Fn:=⟨[true,true,true,false],4,[.YA 4 (.l []),.for [5,6] false (.enum 0) [.v 1] S0,.ret (.v 4)],false⟩
def Q4:Fn:=⟨[true],0,[.ret (.bif .max [.n 3,.zA .Add (.n 1) (.bif .max [.comp O2 [1] .of [.ix (.v 0) (.n 3)] [] [] 2])])],false⟩
def x5:Fn:=⟨[true,false],1,[.YA 2 (.call "t" [.v 0]),.DA (.FA .LtE (.v 1) (.v 2)) [.ret (.v 1)] [],.ret (.zA .Add (.v 2) (.zA .Mod (.zA .Sub (.v 1) (.v 2)) (.ix (.v 0) (.n 1))))],false⟩
noncomputable def l5:Fn:=⟨[true,true],0,[.ret (.t [.call "C" [.v 0,.bif .len [.v 1]],.bif .tuple [.sl (.v 1) (.neg (.call "t" [.v 0])) .mH]])],false⟩
def P4:Fn:=⟨[true],0,[.ret (.zA .Add (.zA .Mult (.l [.n 0]) (.zA .Sub (.ix (.v 0) (.n 0)) (.bif .len [.ix (.v 0) (.n 1)]))) (.bif .list [.ix (.v 0) (.n 1)]))],false⟩
def T4:Fn:=⟨[true,true],2,[.YA 2 (.call "B" [.v 0]),.YA 3 (.call "u" [.v 1]),.ret (.comp P2 [4] .uD [.ix (.v 0) (.n 0)] [.FA .Eq (.bif .len [.call "s" [.v 0,.v 2,.zA .Add (.v 1) (.l [.v 4]),.bif .len [.v 1]]]) (.n 0)] [0,3,2] 2)],false⟩
noncomputable def F4:Fn:=⟨[true,true,false],0,[.ret (.call "D" [.v 0,.zA .Add (.call "u" [.v 1]) (.l [.v 2])])],false⟩
def W4:Fn:=⟨[true,true,true,false],0,[.ret (.t [.call "g" [.v 0,.ix (.v 2) (.n 0),.v 3],.call "g" [.v 1,.ix (.v 2) (.n 1),.v 3]])],false⟩
def V4:Fn:=⟨[true,true,true],1,[.YA 3 (.call "e" [.v 1,.ix (.v 2) (.n 1)]),.ret (.comp Q2 [2] .of [.call "e" [.v 0,.ix (.v 2) (.n 0)]] [.FA .In (.v 2) (.v 0)] [3] 2)],false⟩
def HV:Fn:=⟨[true,true],6,[.YA 2 (.fS (.c (.t [.t [.int 0,.t []],.t [.int 0,.t []]])) (.l [])),.YA 3 (.l [.c (.t [.t [.int 0,.t []],.t [.int 0,.t []]])]),.FL (.FA .Gt (.bif .len [.v 3]) (.n 0)) BG,.ret (.v 2)],true⟩
def L4:Fn:=⟨[true,true,true],3,[.YA 3 (.call "e" [.v 0,.ix (.v 2) (.n 0)]),.YA 4 (.call "e" [.v 1,.ix (.v 2) (.n 1)]),.for [5] true .uD [.ix (.v 0) (.n 0)] fV,.ret (.c .lA)],false⟩
def FV:Fn:=⟨[true,true],3,[.DA (.FA .NotEq (.ix (.v 0) (.n 0)) (.ix (.v 1) (.n 0))) [.AL "Unlike" [.s "the houses have not as many notes"]] [],.YA 2 (.call "k" [.v 0,.v 1]),.for [3] true .key [.ID 2] xP,.ret (.t [.s "alike",.bif .sorted [.v 2]])],true⟩
def O4:Fn:=⟨[true,false],1,[.YA 2 (.ix (.v 0) (.n 4)),.DA (.not (.call "x" [.v 1,.n 0,.zA .Sub (.bif .len [.v 2]) (.n 1)])) [.AL "NoNumber" [.s "no rule has this number"]] [],.ret (.t [.ix (.v 0) (.n 0),.ix (.v 0) (.n 1),.ix (.v 0) (.n 2),.ix (.v 0) (.n 3),.zA .Add (.sl (.v 2) .mH (.v 1)) (.sl (.v 2) (.zA .Add (.v 1) (.n 1)) .mH)])],true⟩
def qS:Fn:=⟨[true,false],1,[.YA 2 (.call "b" [.call "p" [.v 0,.v 1],.v 0]),.DA (.FA .Eq (.ix (.v 2) (.n 0)) (.s "apart")) [.ret (.t [.s "needed",.ix (.v 2) (.n 1)])] [],.ret (.t [.s "follows",.ix (.v 2) (.n 1)])],true⟩
def X3:Fn:=⟨[true,false],2,[.DA (.and (.FA .Lt (.v 1) (.bif .len [.v 0])) (.FA .Eq (.zA .Mod (.ix (.v 0) (.n 0)) (.n 2)) (.n 0))) [.ret (.l [.n 0,.ix (.v 0) (.v 1)])] [],.YA 2 (.zA .Add (.zA .Mult (.n 30011) (.v 1)) (.n 7)),.DA (.FA .Gt (.bif .len [.v 0]) (.n 0)) [.YA 3 (.zA .FloorDiv (.v 1) (.bif .len [.v 0])),.YA 2 (.zA .Add (.zA .Add (.zA .Mod (.ix (.v 0) (.zA .Mod (.v 1) (.bif .len [.v 0]))) (.n 2147483587)) (.zA .Mult (.n 48611) (.v 3))) (.zA .Mult (.n 3) (.v 1)))] [],.ret (.l [.n 1,.zA .Mod (.zA .Add (.zA .Add (.zA .Mult (.v 2) (.n 48271)) (.zA .Mult (.n 11) (.v 1))) (.n 1)) (.n 2147483647)])],false⟩
def R3:Fn:=⟨[true,true],2,[.DA (.FA .Eq (.ix (.v 0) (.n 0)) (.n 0)) [.YA 2 (.zA .Mod (.ix (.v 0) (.n 1)) (.v 1)),.set 0 (.n 1) (.zA .FloorDiv (.ix (.v 0) (.n 1)) (.v 1)),.ret (.v 2)] [],.set 0 (.n 1) (.zA .Mod (.zA .Add (.zA .Mult (.ix (.v 0) (.n 1)) (.n 69621)) (.n 7)) (.n 2147483629)),.YA 3 (.zA .Mod (.zA .Mult (.zA .Add (.zA .Add (.zA .Mult (.zA .Mod (.ix (.v 0) (.n 1)) (.n 65521)) (.n 40503)) (.zA .FloorDiv (.ix (.v 0) (.n 1)) (.n 65521))) (.n 1)) (.n 16807)) (.n 2147483647)),.ret (.zA .Mod (.zA .FloorDiv (.v 3) (.n 13)) (.v 1))],false⟩
def Z3:Fn:=⟨[true,true,true,true,true],4,[ja,oa,Gn,Hn,Jn,Kn,Ln,Mn,Nn,Pn],false⟩
def W3:Fn:=⟨[true],9,[.YA 1 (.FA .Eq (.call "a" [.v 0,.n 2]) (.n 0)),.YA 2 (.zA .Add (.n 1) (.call "a" [.v 0,.ix (.l [.n 4,.n 7]) (.bif .int [.v 1])])),.YA 3 (.zA .Add (.n 1) (.call "a" [.v 0,.ix (.l [.n 2,.n 4]) (.bif .int [.v 1])])),.YA 4 (.zA .Add (.n 1) (.call "a" [.v 0,.n 12])),.YA 5 (.zA .Add (.n 1) (.call "a" [.v 0,.ix (.l [.n 2,.n 3]) (.bif .int [.v 1])])),.YA 6 (.l []),.for [7] true .uD [.v 5] N0,.YA 9 (.l []),.for [7] true .uD [.call "a" [.v 0,.n 9]] O0,.ret (.t [.v 2,.v 3,.v 4,.bif .tuple [.v 6],.bif .tuple [.v 9]])],false⟩
def T3:Fn:=⟨[true],7,[.kM [1,2,3,4,5] (.call "F" [.v 0]),.YA 4 (.sl (.v 4) .mH (.n 2)),.YA 6 (.l []),.for [7] true .of [.sl (.v 5) .mH (.n 5)] CN,.ret (.t [.bif .min [.v 1,.n 4],.v 2,.v 3,.v 4,.bif .tuple [.v 6]])],false⟩
def j4:Fn:=⟨[true,false],1,[.YA 2 (.c .lA),.UQ [.YA 2 (.call "q" [.v 0,.v 1])] CP 2 (.c .lA),.ret (.v 2)],false⟩
def l4:Fn:=⟨[true,true],1,[.YA 2 (.t [.s "many",.l []]),.UQ [.YA 2 (.call "b" [.v 0,.v 1])] CP 2 (.t [.s "many",.l []]),.ret (.v 2)],false⟩
def Q3:Fn:=⟨[true,true],2,[.YA 2 (.bif .list [.ix (.v 0) (.n 4)]),.YA 3 (.l []),.FL (.FA .NotEq (.v 2) (.l [])) eV,.ret (.zA .Add (.sl (.v 0) .mH (.n 4)) (.t [.bif .tuple [.v 3]]))],false⟩
def V3:Fn:=⟨[true,true,false,true],1,[.YA 4 (.call "f" [.call "p" [.v 0,.v 2],.zA .Sub (.v 1) (.bif .int [.FA .Lt (.v 2) (.v 1)])]),.DA (.FA .Is (.v 4) (.c .lA)) [.ret (.b true)] [],.ret (.and (.FA .Eq (.ix (.v 4) (.n 0)) (.s "needed")) (.FA .LtE (.t [.bif .len [.ix (.v 4) (.n 1)],.ix (.v 4) (.n 1)]) (.t [.bif .len [.ix (.v 3) (.n 1)],.ix (.v 3) (.n 1)])))],false⟩
def VP:Fn:=⟨[true],9,[HX,JX,LX,MX,WT,XT,YT,ZT,aU,lK,UT,VT],false⟩
def TL:List (String×Fn):=[("w",M4),("x",N4),("y",X4),("z",Z4),("m",o5),("i",j5),("c",K4),("r",i5),("A",R4),("I",D4),("J",E4),("K",y4),("L",O3),("M",N3),("N",B4),("O",C4),("P",M3),("Q",A4),("d",cL),("B",Y4),("s",J4),("t",Q4),("C",x5),("D",l5),("u",P4),("e",T4),("g",F4),("j",W4),("n",V4),("k",HV),("o",L4),("b",FV),("p",O4),("q",qS),("l",X3),("a",R3),("E",Z3),("F",W3),("G",T3),("f",j4),("h",l4),("H",Q3),("v",V3),("law",VP)]
def T:Tab:=λf=>TL.lookup f
theorem Iu:T.aA "w"=[true]:=rfl
theorem Ju:T.aA "x"=[true,true,true]:=rfl
theorem Tu:T.aA "y"=[true,true]:=rfl
theorem Wu:T.aA "z"=[true,true]:=rfl
theorem av:T.aA "m"=[true,true,true,true]:=rfl
theorem Yu:T.aA "i"=[true,true,true]:=rfl
theorem Eu:T.aA "c"=[true,true,true]:=rfl
theorem Xu:T.aA "r"=[true]:=rfl
theorem Ou:T.aA "A"=[true,true,true]:=rfl
theorem Au:T.aA "I"=[true,true,true,true]:=rfl
theorem Bu:T.aA "J"=[true,true]:=rfl
theorem wu:T.aA "K"=[true,true,true,false]:=rfl
theorem eu:T.aA "L"=[true,true,true,false]:=rfl
theorem du:T.aA "M"=[true,true,true,false]:=rfl
theorem yu:T.aA "N"=[true,true,true,true]:=rfl
theorem zu:T.aA "O"=[true,true]:=rfl
theorem cu:T.aA "P"=[true,true,true,true]:=rfl
theorem xu:T.aA "Q"=[true,true,true,true]:=rfl
theorem Uu:T.aA "d"=[true]:=rfl
theorem Vu:T.aA "B"=[true]:=rfl
theorem Du:T.aA "s"=[true,true,true,false]:=rfl
theorem Nu:T.aA "t"=[true]:=rfl
theorem dv:T.aA "C"=[true,false]:=rfl
theorem Zu:T.aA "D"=[true,true]:=rfl
theorem Lu:T.aA "u"=[true]:=rfl
theorem Qu:T.aA "e"=[true,true]:=rfl
theorem Cu:T.aA "g"=[true,true,false]:=rfl
theorem Su:T.aA "j"=[true,true,true,false]:=rfl
theorem Ru:T.aA "n"=[true,true,true]:=rfl
theorem Mu:T.aA "k"=[true,true]:=rfl
theorem Hu:T.aA "o"=[true,true,true]:=rfl
theorem Gu:T.aA "b"=[true,true]:=rfl
theorem Ku:T.aA "p"=[true,false]:=rfl
theorem Pu:T.aA "q"=[true,false]:=rfl
theorem ou:T.aA "l"=[true,false]:=rfl
theorem gu:T.aA "a"=[true,true]:=rfl
theorem qu:T.aA "E"=[true,true,true,true,true]:=rfl
theorem lu:T.aA "F"=[true]:=rfl
theorem iu:T.aA "G"=[true]:=rfl
theorem tu:T.aA "f"=[true,false]:=rfl
theorem uu:T.aA "h"=[true,true]:=rfl
theorem fu:T.aA "H"=[true,true]:=rfl
theorem ju:T.aA "v"=[true,true,false,true]:=rfl
theorem jv:T "law"=some VP:=rfl
def dEa:IK (mG 28 0) "Span.__init__" ["beat","spans"]:=iO MI
def QP{d0 d1:D}:fH (some (.ins "Span" ["beat","spans"] [d0,d1])) "beat"=some (.sh d0):=(rfl)
def UP{d0 d1:D}:fH (some (.ins "Span" ["beat","spans"] [d0,d1])) "spans"=some (.sh d1):=(rfl)
def aEa:IK (mG 29 0) "Leap.__init__" ["most"]:=iO mF
def E3{d0:D}:fH (some (.ins "Leap" ["most"] [d0])) "most"=some (.sh d0):=(rfl)
def zDa:IK (mG 30 0) "Back.__init__" ["leap","most"]:=iO MI
def NP{d0 d1:D}:fH (some (.ins "Back" ["leap","most"] [d0,d1])) "leap"=some (.sh d0):=(rfl)
def OP{d0 d1:D}:fH (some (.ins "Back" ["leap","most"] [d0,d1])) "most"=some (.sh d1):=(rfl)
def yDa:IK (mG 31 0) "Again.__init__" ["most"]:=iO mF
def MP{d0:D}:fH (some (.ins "Again" ["most"] [d0])) "most"=some (.sh d0):=(rfl)
def cEa:IK (mG 32 0) "Range.__init__" ["low","high"]:=iO MI
def K3{d0 d1:D}:fH (some (.ins "Range" ["low","high"] [d0,d1])) "low"=some (.sh d0):=(rfl)
def J3{d0 d1:D}:fH (some (.ins "Range" ["low","high"] [d0,d1])) "high"=some (.sh d1):=(rfl)
def xDa:IK (mG 33 0) "Above.__init__" ["one","other"]:=iO MI
def DV{d0 d1:D}:fH (some (.ins "Above" ["one","other"] [d0,d1])) "one"=some (.sh d0):=(rfl)
def EV{d0 d1:D}:fH (some (.ins "Above" ["one","other"] [d0,d1])) "other"=some (.sh d1):=(rfl)
def bEa:IK (mG 34 0) "Never.__init__" ["one","other","way"]:=iO gI
def nS{d0 d1 d2:D}:fH (some (.ins "Never" ["one","other","way"] [d0,d1,d2])) "one"=some (.sh d0):=(rfl)
def oS{d0 d1 d2:D}:fH (some (.ins "Never" ["one","other","way"] [d0,d1,d2])) "other"=some (.sh d1):=(rfl)
def pS{d0 d1 d2:D}:fH (some (.ins "Never" ["one","other","way"] [d0,d1,d2])) "way"=some (.sh d2):=(rfl)
def ay:CP.contains (wA "TooMany")=true:=by decide +kernel
def aLa:JG "Span" ["beat","spans"] "broken" pJ=some "I":=by decide +kernel
def xKa:JG "Leap" ["most"] "broken" pJ=some "K":=by decide +kernel
def wKa:JG "Back" ["leap","most"] "broken" pJ=some "L":=by decide +kernel
def vKa:JG "Again" ["most"] "broken" pJ=some "M":=by decide +kernel
def zKa:JG "Range" ["low","high"] "broken" pJ=some "N":=by decide +kernel
def uKa:JG "Above" ["one","other"] "broken" pJ=some "P":=by decide +kernel
def yKa:JG "Never" ["one","other","way"] "broken" pJ=some "Q":=by decide +kernel
def kT:JG "Span" ["beat","spans"] "forbids" QM=some "J":=by decide +kernel
def RW:JG "Range" ["low","high"] "forbids" QM=some "O":=by decide +kernel
def qNa:AH (HE L) (mG 28 1) "broken" "Span.broken" D4:=lJ gI
def rNa:AH (HE L) (mG 28 2) "forbids" "Span.forbids" E4:=lJ mF
def mNa:AH (HE L) (mG 29 1) "broken" "Leap.broken" y4:=lJ gI
def lNa:AH (HE L) (mG 30 1) "broken" "Back.broken" O3:=lJ gI
def kNa:AH (HE L) (mG 31 1) "broken" "Again.broken" N3:=lJ gI
def oNa:AH (HE L) (mG 32 1) "broken" "Range.broken" B4:=lJ gI
def pNa:AH (HE L) (mG 32 2) "forbids" "Range.forbids" C4:=lJ mF
def jNa:AH (HE L) (mG 33 1) "broken" "Above.broken" M3:=lJ gI
def nNa:AH (HE L) (mG 34 1) "broken" "Never.broken" A4:=lJ gI
def hOa:BR (HE L) (top 69) "law" VP:=lJ HJ
end Tx
namespace Mx
open CI Tx
local macro_rules|`($f|||$n|||$a|||$v)=>`(run T $(Lean.mkIdent `W) ($n) $f $a=some (.ok ($v),$a))
abbrev _root_.CI.Sl.o(d:CI.D):CI.Sl:=.ow d false false
abbrev _root_.CI.Sl.p(d:CI.D):CI.Sl:=.ow d true false
abbrev _root_.CI.Sl.i(d:Int):CI.Sl:=.sh (.int d)
abbrev _root_.CI.RV.i(d:Int):CI.RV:=.sh (.int d)
abbrev _root_.CI.Sl.s(d:bA):CI.Sl:=.sh (.str d)
abbrev _root_.CI.RV.s(d:bA):CI.RV:=.sh (.str d)
abbrev _root_.CI.Sl.b(d:Bool):CI.Sl:=.sh (.bl d)
abbrev _root_.CI.RV.b(d:Bool):CI.RV:=.sh (.bl d)
local macro_rules | `(tactic| exists $x:ident)=>`(tactic| ((first | rw[cWa (fn:=$x) rfl rfl rfl] | (rw[Qm (fn:=$x) rfl rfl rfl];unfold aAL));unfold $x))
noncomputable def toD(f:Int×Int×Bool):D:=.t [.int f.1,.int f.2.1,.bl f.2.2]
def uA(no ba oc:Int)(fs:List (Int×Int×Bool))(rs:List D):D:=.t [.int no,.int ba,.int oc,.t (fs.map toD),.t rs]
theorem yFa:RB (some (uA no ba oc fs rs)) (.int 0)=some (.i no):=rfl
theorem zFa:RB (some (uA no ba oc fs rs)) (.int 1)=some (.i ba):=rfl
theorem aGa:RB (some (uA no ba oc fs rs)) (.int 2)=some (.i oc):=rfl
theorem bGa:RB (some (uA no ba oc fs rs)) (.int 3)=some (.sh (.t (fs.map toD))):=rfl
theorem cGa:RB (some (uA no ba oc fs rs)) (.int 4)=some (.sh (.t rs)):=rfl
abbrev rg(n:Nat):List D:=(vC n).map λ(j:Nat)=>D.int (j:Int)
set_option compiler.extract_closed false
local macro_rules | `(tactic| walk_at $s:str) => do if !s.getString.startsWith "!" then Lean.Macro.throwUnsupported else `(tactic| simp only[↓Xv, ↓y_, ↓nR_, ↓wy, ↓i2a, ↓kGa, ↓jGa, ↓fGa, ↓eGa, ↓qHa, ↓pHa, ↓eHa, ↓dHa, ↓cHa, ↓bHa, $[$((("Pw Ww Uw Rw Tw Sw Vw Qw Yv A_ z_ fLa gLa dLa eLa xy r_ cIa qAa By Ay Z' W' cCa bCa bIa j2a sGa rGa Yz Hz aIa vXa wXa xXa yXa zXa yn vj Xi Xz Oz b_ Li Ki a_ qz Si Ri fIa eIa zHa eQa vPa dQa aQa qPa sPa tPa zPa cQa rPa pPa yPa uPa oz Ci Bi Cz Kw Iw Jw cw bw aw Ce fw gw Zv vP M0 nHa Rz oHa Tz aj oMa Sz iy gy Ji Ii Ez EW iGa Fi Ei Fz Kx Jx Ex Dx Ax Nx Bx Gx Fx Hx Px Ox e0a zz Uz Mz Wi Vi Nz qFa pFa Qv Rv Sv Tv qj pj oj qSa HW oSa rSa nSa Wz M7 Hy lGa nGa mGa fHa xIa zIa yIa aJa hHa gHa fAa dAa eAa hAa gAa tGa uGa Ai Bz cAa aAa bAa D_ E_ B_ C_ F_ J_ I_ G_ V7 Lz lEa kEa ui gGa xGa Az zEa yEa vi j_ aa qYa pYa oYa nYa FD mYa gNa fNa eNa yi k_ C1 Y9 X9 n8 yGa mj lj q_ gXa Oi l_ jVa kVa pI o_ jz nz lz bz fz Zy kz dz az gz n_ Y_ aA5 m_ s_ mS LH sVa k0a kj Gz nAa uz zRa aSa xPa wPa bQa pSa Kz Qi Jz Pz iHa jHa kHa b8 lHa mHa Qz mz Lx zg0 zg1 zs0 zs1 zb zm zi zc zn zr0 zr1 zl0 zl1 znt znf zko zks zkn Dz sHa rEa aHa zGa p_ dg yHa xHa wHa d_ wGa vGa g_ tHa c_ f_ qGa wz hGa vHa uHa yz dGa ej tEa sEa qEa xEa gj Mi Jy Ni Fw Ew i_ Iz Vz fj Iu Ju Tu Wu av Yu Eu Xu Ou Bu zu Uu Vu Du Nu dv Zu Lu Qu Cu Su Ru Mu Hu Gu Ku Pu ou gu qu lu iu tu uu fu ju if_true rH wG decide_true decide_false Bool.true_eq_false not_true_eq_false not_false_eq_true and_self and_true true_and or_true true_or oC reduceIte Int.reduceLT Int.reduceLE Int.reduceGT Int.reduceNeg Nat.reduceAdd Nat.reduceLT Nat.reduceLeDiff Int.reduceEq Int.reduceNe Nat.reduceBEq KC kN WC List.all_nil jt aP uR Bool.and_false wH QC beq_self_eq_true LN oGa dIa jc cZ kc Wc yFa zFa aGa bGa cGa".splitOn " ")++(((s.getString.drop 1).toString.replace "%" "List.length_map").replace "&" "Bool.or_false Bool.false_or Bool.or_true Bool.true_or" |>.splitOn " ")).filter (· ≠ "") |>.toArray.map λx => Lean.mkIdent x.toName):term],*, *])
theorem kE:type_of% (And.intro @Se (And.intro @aa (And.intro @EI.{0} (And.intro @zY.{0} (And.intro @pU.{0} (And.intro @NY.{0} (And.intro @C1 (And.intro @X9 (And.intro @Y9 @n8))))))))):=(And.intro @Se (And.intro @aa (And.intro @EI.{0} (And.intro @zY.{0} (And.intro @pU.{0} (And.intro @NY.{0} (And.intro @C1 (And.intro @X9 (And.intro @Y9 @n8)))))))))
def UA(k s m:Int):Int:=if k=0 then s / m else(s*69621+7) % 2147483629
def yB(k s m:Int):Int:=if k=0 then s % m else((((s*69621+7) % 2147483629) % 65521*40503+((s*69621+7) % 2147483629) / 65521+1)*16807 % 2147483647) / 13 % m
def eG(h1:0<m)(h2:m<100000000000000000000000000000000000000000000000000000000000000000000000000000000):run T W (n+1) "a" [.p (.l [.int k,.int s]),.i m]=some (.ok (.i (yB k s m)),[.p (.l [.int k,.int (UA k s m)]),.i m]):=by
 exists R3
 by_cases hk:k=0
 ·subst hk;unfold UA yB
  walk_at "!"
 ·unfold UA yB
  walk_at "!"
def sD(h:0<m):0<=yB k s m:=by unfold yB;split<;>exact tR _ (by lia)
def pD(h:0<m):yB k s m<m:=by unfold yB;split<;>exact OY _ h
mutual
theorem CV:∀(n:Nat) (d:D),eC n d=true->pF d d=true
 |_,.lA,_=>rfl
 |_,.bl b,_=>beq_self_eq_true b
 |_,.int i,_=>beq_self_eq_true i
 |_,.str x,_=>beq_self_eq_true x
 | 0,.t _,h=>(SD h).elim
 | 0,.l _,h=>(SD h).elim
 |n+1,.t ds,h=>Z2 n ds h
 |n+1,.l ds,h=>Z2 n ds h
 |n,.ins _ _ _,h=>by cases n<;>exact(SD h).elim
 |n,.aL _ _,h=>by cases n<;>exact(SD h).elim
 |n,.ZA _ _,h=>by cases n<;>exact(SD h).elim
 |n,.EG _ _,h=>by cases n<;>exact(SD h).elim
 |n,.GC _,h=>by cases n<;>exact(SD h).elim
theorem Z2:∀(n:Nat) (ds:List D),ds.all (eC n)=true->YK ds ds=true
 |_,[],_=>rfl
 |n,d::ds,h=>by(rw[WC,WA] at h;show(pF d d&&YK ds ds)=true;rw[CV n d h.1,Z2 n ds h.2];rfl)
end
def yP(h:eC 20 d=true):wB .NotEq d d=some false:=by rw[N1 h h,CV 20 d h];rfl
def ZR(h:eC 20 d=true):wB .Eq d d=some true:=by rw[GN h h,CV 20 d h]
def bNa(is:List Int):eC (n+1) (.t (is.map D.int))=true:=by simp[eC]
noncomputable def cB(tss:List (List Int)):List D:=tss.map λis=>.t (is.map D.int)
noncomputable def uF(ns:List Int)(k:Nat):Int×Int :=
 if k<ns.length/\ns.headD 0 % 2=0 then(0,ns.getD k 0)
 else(1,((if 0<ns.length then ns.getD (k % ns.length) 0 % 2147483587+48611*((k / ns.length:Nat):Int)+3*(k:Int) else 30011*(k:Int)+7)*48271+11*(k:Int)+1) % 2147483647)
def aV{ns:List Int}(h:k<ns.length):L2.lC (ns.map D.int) (k:Int)=some (.int (ns.getD k 0)):=by
 apply L2.AN
 rw[jE,gD h];simp[h]
def El{k:Nat}(hn:ns.length<=63)(hk:k<=100000):"l"|||n+1|||[.sh (.l (ns.map .int)),.i k]|||.ow (.l [.int (uF ns k).1,.int (uF ns k).2]):=by
 exists X3
 by_cases h0:ns=[]
 ·subst h0;have hb:decide ((k:Int)<((0:Nat):Int))=false:=WB (by lia);have jD:decide (((0:Nat):Int) > 0)=false:=rfl;have S5:decide (0<((0:Nat):Int))=false:=rfl;have hb3:decide ((k:Int)<0)=false:=WB (by lia)
  have ev:uF [] k=(1,((30011*(k:Int)+7)*48271+11*(k:Int)+1) % 2147483647):=by(unfold uF;rw[LA (by simp),LA (by simp)])
  walk_at "!EA"
 ·have GS:0<ns.length:=br.mpr h0;have S5:decide (0<(ns.length:Int))=true:=jC (by lia)
  have e0:(ns.map D.int)[0]?=some (.int (ns.headD 0)):=by cases ns with | nil=>exact absurd rfl h0 | cons a r=>rfl
  have e1:(0:Int)<(ns.length:Int):=by lia
  have e2:(ns.length:Int)<100000000000000000000000000000000000000000000000000000000000000000000000000000000:=by lia
  have e3:(k:Int) / (ns.length:Int)=((k / ns.length:Nat):Int):=by rw[Int.natCast_ediv]
  have e4:(k:Int) % (ns.length:Int)=((k % ns.length:Nat):Int):=by rw[Int.natCast_emod]
  have e5:=aV (k:=k % ns.length) (Nat.mod_lt _ GS);by_cases l6:k<ns.length
  ·have hb:decide ((k:Int)<(ns.length:Int))=true:=jC (by lia);have e6:=aV l6;by_cases hm:ns.headD 0 % 2=0
   ·have ev:uF ns k=(0,ns.getD k 0):=by unfold uF;rw[GA ⟨l6,hm⟩]
    walk_at "!EA"
   ·have BS:decide (ns.headD 0 % 2=0)=false:=WB hm
    have ev:uF ns k=(1,((ns.getD (k % ns.length) 0 % 2147483587+48611*((k / ns.length:Nat):Int)+3*(k:Int))*48271+11*(k:Int)+1) % 2147483647):=by(unfold uF;rw[LA (λz=>hm z.2),GA GS])
    walk_at "!EA"
  ·have hb:decide ((k:Int)<(ns.length:Int))=false:=WB (by lia)
   have ev:uF ns k=(1,((ns.getD (k % ns.length) 0 % 2147483587+48611*((k / ns.length:Nat):Int)+3*(k:Int))*48271+11*(k:Int)+1) % 2147483647):=by(unfold uF;rw[LA (λz=>l6 z.1),GA GS])
   walk_at "!EA"
def sG:((wA "span")==(wA "leap"))=false:=by decide +kernel
def Vo:((wA "span")==(wA "back"))=false:=by decide +kernel
def Uo:((wA "span")==(wA "again"))=false:=by decide +kernel
def Xo:((wA "span")==(wA "range"))=false:=by decide +kernel
def Ka:((wA "span")==(wA "above"))=false:=by decide +kernel
def Wo:((wA "span")==(wA "never"))=false:=by decide +kernel
def Io:((wA "leap")==(wA "span"))=false:=by decide +kernel
def Eo:((wA "leap")==(wA "back"))=false:=by decide +kernel
def Co:((wA "leap")==(wA "again"))=false:=by decide +kernel
def Ho:((wA "leap")==(wA "range"))=false:=by decide +kernel
def Ha:((wA "leap")==(wA "above"))=false:=by decide +kernel
def Fo:((wA "leap")==(wA "never"))=false:=by decide +kernel
def Bo:((wA "back")==(wA "span"))=false:=by decide +kernel
def yo:((wA "back")==(wA "leap"))=false:=by decide +kernel
def wo:((wA "back")==(wA "again"))=false:=by decide +kernel
def Ao:((wA "back")==(wA "range"))=false:=by decide +kernel
def Ga:((wA "back")==(wA "above"))=false:=by decide +kernel
def zo:((wA "back")==(wA "never"))=false:=by decide +kernel
def vo:((wA "again")==(wA "span"))=false:=by decide +kernel
def ko:((wA "again")==(wA "leap"))=false:=by decide +kernel
def jo:((wA "again")==(wA "back"))=false:=by decide +kernel
def uo:((wA "again")==(wA "range"))=false:=by decide +kernel
def Ea:((wA "again")==(wA "above"))=false:=by decide +kernel
def qo:((wA "again")==(wA "never"))=false:=by decide +kernel
def To:((wA "range")==(wA "span"))=false:=by decide +kernel
def Ro:((wA "range")==(wA "leap"))=false:=by decide +kernel
def Qo:((wA "range")==(wA "back"))=false:=by decide +kernel
def Po:((wA "range")==(wA "again"))=false:=by decide +kernel
def Ja:((wA "range")==(wA "above"))=false:=by decide +kernel
def So:((wA "range")==(wA "never"))=false:=by decide +kernel
def fo:((wA "above")==(wA "span"))=false:=by decide +kernel
def Zn:((wA "above")==(wA "leap"))=false:=by decide +kernel
def Yn:((wA "above")==(wA "back"))=false:=by decide +kernel
def Xn:((wA "above")==(wA "again"))=false:=by decide +kernel
def eo:((wA "above")==(wA "range"))=false:=by decide +kernel
def bo:((wA "above")==(wA "never"))=false:=by decide +kernel
def Oo:((wA "never")==(wA "span"))=false:=by decide +kernel
def Lo:((wA "never")==(wA "leap"))=false:=by decide +kernel
def Ko:((wA "never")==(wA "back"))=false:=by decide +kernel
def Jo:((wA "never")==(wA "again"))=false:=by decide +kernel
def Mo:((wA "never")==(wA "range"))=false:=by decide +kernel
def Ia:((wA "never")==(wA "above"))=false:=by decide +kernel
def xO:type_of% (And.intro @sG (And.intro @Vo (And.intro @Uo (And.intro @Xo (And.intro @Ka (And.intro @Wo (And.intro @sG (And.intro @Io (And.intro @Eo (And.intro @Co (And.intro @Ho (And.intro @Ha (And.intro @Fo (And.intro @sG (And.intro @Bo (And.intro @yo (And.intro @wo (And.intro @Ao (And.intro @Ga (And.intro @zo (And.intro @sG (And.intro @vo (And.intro @ko (And.intro @jo (And.intro @uo (And.intro @Ea (And.intro @qo (And.intro @sG (And.intro @To (And.intro @Ro (And.intro @Qo (And.intro @Po (And.intro @Ja (And.intro @So (And.intro @sG (And.intro @fo (And.intro @Zn (And.intro @Yn (And.intro @Xn (And.intro @eo (And.intro @bo (And.intro @sG (And.intro @Oo (And.intro @Lo (And.intro @Ko (And.intro @Jo (And.intro @Mo (And.intro @Ia @sG)))))))))))))))))))))))))))))))))))))))))))))))):=(And.intro @sG (And.intro @Vo (And.intro @Uo (And.intro @Xo (And.intro @Ka (And.intro @Wo (And.intro @sG (And.intro @Io (And.intro @Eo (And.intro @Co (And.intro @Ho (And.intro @Ha (And.intro @Fo (And.intro @sG (And.intro @Bo (And.intro @yo (And.intro @wo (And.intro @Ao (And.intro @Ga (And.intro @zo (And.intro @sG (And.intro @vo (And.intro @ko (And.intro @jo (And.intro @uo (And.intro @Ea (And.intro @qo (And.intro @sG (And.intro @To (And.intro @Ro (And.intro @Qo (And.intro @Po (And.intro @Ja (And.intro @So (And.intro @sG (And.intro @fo (And.intro @Zn (And.intro @Yn (And.intro @Xn (And.intro @eo (And.intro @bo (And.intro @sG (And.intro @Oo (And.intro @Lo (And.intro @Ko (And.intro @Jo (And.intro @Mo (And.intro @Ia @sG))))))))))))))))))))))))))))))))))))))))))))))))
def pw{j:Int}(h1:0<=j)(h2:j<=12):(0:Int)<2 ^ j.toNat/\(2:Int) ^ j.toNat<100000000000000000000000000000000000000000000000000000000000000000000000000000000:=by
 have h:j.toNat<=12:=by lia
 generalize j.toNat=q at h;have h3:2 ^ q<=2 ^ 12:=Tq (by decide) h;have h4:(2:Int) ^ q<=4096:=by exact_mod_cast h3
 exact⟨vZ (by decide),iR h4 (by decide)⟩
inductive DH(no ba oc ma:Int):D->Prop
 |span (a b:Int) (h1:0<=a) (h2:a<ba) (h3:0<=b) (h4:b<2 ^ oc.toNat):DH no ba oc ma (.t [.str "span",.int a,.int b])
 |leap (a:Int) (h1:0<=a) (h2:a<=12):DH no ba oc ma (.t [.str "leap",.int a])
 |back (a b:Int) (h1:1<=a) (h2:a<=12) (h3:1<=b) (h4:b<=12):DH no ba oc ma (.t [.str "back",.int a,.int b])
 |again (a:Int) (h1:1<=a) (h2:a<=3):DH no ba oc ma (.t [.str "again",.int a])
 |range (a b:Int) (h1:-60<=a) (h2:a<=b) (h3:b<=60):DH no ba oc ma (.t [.str "range",.int a,.int b])
 |above (v w:Nat) (h1:(v:Int)<=ma) (h2:(w:Int)<=ma) (h3:v≠w):DH no ba oc ma (.t [.str "above",.int v,.int w])
 |never (a b:Int) (x:bA) (h1:0<=a) (h2:a<oc) (h3:0<=b) (h4:b<oc) (h5:x="like"\/x="against"\/x="aside"\/x="any"):DH no ba oc ma (.t [.str "never",.int a,.int b,.str x])
section
variable{P:RA}{C:Calls}{W:Nat}{k s no ba oc ma w:Int}{u6 u7 u8:Sl}
def FE(k s no ba oc ma w:Int)(u6 u7 u8:Sl):Env:=[.p (.l [.int k,.int s]),.i no,.i ba,.i oc,.i ma,.i w,u6,u7,u8]
def oI:ex P C W (.DA (.FA .Eq (.v 5) (.c (.int i))) a []) (FE k s no ba oc ma w u6 u7 u8)=if w=i then IA P C W a (FE k s no ba oc ma w u6 u7 u8) else some (.nx,FE k s no ba oc ma w u6 u7 u8):=by
 unfold FE;by_cases h:w=i
 ·have h':decide (w=i)=true:=jC h;rw[GA h]
  walk_at "!"
 ·have h':decide (w=i)=false:=WB h;rw[LA h]
  walk_at "!"
end
def at2(h1:0<=c)(h2:c<2):L2.lC [D.int a,D.int b] c=some (.int (if c=0 then a else b)):=by
 have:c=0\/c=1:=by lia
 rcases this with rfl | rfl<;>rfl
def Nv(h1:0<=c)(h2:c<4):∃x:bA,L2.lC [D.str "like",D.str "against",D.str "aside",D.str "any"] c=some (.str x)/\(x="like"\/x="against"\/x="aside"\/x="any"):=by
 have:c=0\/c=1\/c=2\/c=3:=by lia
 rcases this with rfl | rfl | rfl | rfl
 ·exact⟨_,rfl,.inl rfl⟩
 ·exact⟨_,rfl,.inr (.inl rfl)⟩
 ·exact⟨_,rfl,.inr (.inr (.inl rfl))⟩
 ·exact⟨_,rfl,.inr (.inr (.inr rfl))⟩
def aWa{W n:Nat}{k s0 no ba oc ma:Int}(n1:1<=no)(n2:no<=7)(b1:1<=ba)(b2:ba<=4)(o1:1<=oc)(o2:oc<=12)(m1:1<=ma)(m2:ma<=3) :
  ∃s' d,run T W (n+2) "E" [.p (.l [.int k,.int s0]),.i no,.i ba,.i oc,.i ma]=some (.ok (.sh d),[.p (.l [.int k,.int s']),.i no,.i ba,.i oc,.i ma])/\DH no ba oc ma d:=by
 exists Z3
 have g1:0<ba:=b1;have g2:ba<100000000000000000000000000000000000000000000000000000000000000000000000000000000:=iR b2 (by decide);have g3:0<oc:=o1;have g4:oc<100000000000000000000000000000000000000000000000000000000000000000000000000000000:=iR o2 (by decide);have g5:0<=oc:=by lia
 have g6:oc<=1000:=by lia
 obtain⟨g7,g8⟩:=pw g5 o2;have g9:0<ma:=m1;have L':ma<100000000000000000000000000000000000000000000000000000000000000000000000000000000:=iR m2 (by decide);have E5:0<ma+1:=by lia
 have M':ma+1<100000000000000000000000000000000000000000000000000000000000000000000000000000000:=iR (Int.add_le_add_right m2 1) (by decide);have v1:=sD (k:=k) (s:=s0) (m:=9) (by decide);have v2:=pD (k:=k) (s:=s0) (m:=9) (by decide)
 have e0:ex T.aA (run T W (n+1)) W ja ([.p (.l [.int k,.int s0]),.i no,.i ba,.i oc,.i ma]++LB 4 .un)=some (.nx,FE k (UA k s0 9) no ba oc ma (yB k s0 9) .un .un .un):=by
  unfold FE;rw[k2a];clear g1 g2 g3 g4 g5 g6 g7 g8 g9 L' E5 M' v1 v2 n1 n2 b1 b2 o1 o2 m1 m2
  walk_at "!eG"
 generalize yB k s0 9=w at *
 generalize UA k s0 9=s at *
 rw[LH,e0,IM,LH];clear e0
 -- a return of a z6a ends AE def
 have fin:∀{st:S} {r:List S} {s':Int} {d:D} {u6 u7 u8:Sl},ex T.aA (run T W (n+1)) W st (FE k s no ba oc ma w .un .un .un)=some (.rt (.sh d),FE k s' no ba oc ma w u6 u7 u8)->DH no ba oc ma d ->
   ∃QT d,j8 [.p (.l [.int k,.int s0]),.i no,.i ba,.i oc,.i ma] ((ex T.aA (run T W (n+1)) W st (FE k s no ba oc ma w .un .un .un)).next (IA T.aA (run T W (n+1)) W r))=some (.ok (.sh d),[.p (.l [.int k,.int QT]),.i no,.i ba,.i oc,.i ma])/\DH no ba oc ma d:=λh hd=>by
  rw[h,uMa,kj];exact⟨_,_,rfl,hd⟩
 by_cases c0:w<2
 ·refine fin (s':=UA k (UA k s ba) (2 ^ oc.toNat)) (d:=.t [.str "span",.int (yB k s ba),.int (yB k (UA k s ba) (2 ^ oc.toNat))]) (u6:=.un) (u7:=.un) (u8:=.un) ?_ (.span _ _ (sD g1) (pD g1) (sD g7) (pD g7));have lx:decide (w<2)=true:=jC c0;rw[Vp];unfold FE;clear n1 n2 b1 b2 o1 o2 m1 m2 v1 v2 c0 fin
  walk_at "!eG"
 have e1:ex T.aA (run T W (n+1)) W oa (FE k s no ba oc ma w .un .un .un)=some (.nx,FE k s no ba oc ma w .un .un .un):=by
  have lx:decide (w<2)=false:=WB c0;rw[Vp];unfold FE;clear n1 n2 b1 b2 o1 o2 m1 m2 v1 v2 c0 fin
  walk_at "!eG"
 rw[e1,IM,LH];clear e1;by_cases c2:w=2
 ·have x1:=sD (k:=k) (s:=UA k s ba) (m:=oc) g3;have x2:=pD (k:=k) (s:=UA k s ba) (m:=oc) g3;have x3:yB k (UA k s ba) oc<=1000:=by lia
  have h4:(2:Int) ^ (yB k (UA k s ba) oc).toNat<=2 ^ oc.toNat-1:=by
   have h1:(yB k (UA k s ba) oc).toNat+1<=oc.toNat:=by lia
   have h2:(2:Int) ^ ((yB k (UA k s ba) oc).toNat+1)<=2 ^ oc.toNat:=by
    have h3:2 ^ ((yB k (UA k s ba) oc).toNat+1)<=2 ^ oc.toNat:=Tq (by decide) h1
    exact_mod_cast h3
   have h4:(2:Int) ^ ((yB k (UA k s ba) oc).toNat+1)=2 ^ (yB k (UA k s ba) oc).toNat*2:=Int.pow_succ _ _;have h5:(0:Int)<2 ^ (yB k (UA k s ba) oc).toNat:=vZ (by decide)
   lia
  have h5:(0:Int)<2 ^ (yB k (UA k s ba) oc).toNat:=vZ (by decide);refine fin (s':=UA k (UA k s ba) oc) (d:=.t [.str "span",.int (yB k s ba),.int (2 ^ oc.toNat-1-2 ^ (yB k (UA k s ba) oc).toNat)]) (u6:=.un) (u7:=.un) (u8:=.un) ?_ (.span _ _ (sD g1) (pD g1) (by lia) (by lia));rw[Xp,oI,GA c2];unfold FE;clear n1 n2 b1 b2 o1 o2 m1 m2 v1 v2 c0 fin h4 h5 x2
  walk_at "!eG"
 rw[Xp,oI,LA c2,IM,LH];by_cases c3:w=3
 ·have x1:=sD (k:=k) (s:=s) (m:=2) (by decide);have x2:=pD (k:=k) (s:=s) (m:=2) (by decide);have pM:=at2 (a:=13) (b:=no+1) x1 x2;obtain⟨q,hq⟩:∃q,q=(if yB k s 2=0 then 13 else no+1):=⟨_,rfl⟩
  rw[<- hq] at pM;have q1:0<q:=by rw[hq];split<;>lia
  have q2:q<=13:=by rw[hq];split<;>lia
  have q3:q<100000000000000000000000000000000000000000000000000000000000000000000000000000000:=iR q2 (by decide);refine fin (s':=UA k (UA k s 2) q) (d:=.t [.str "leap",.int (yB k (UA k s 2) q)]) (u6:=.un) (u7:=.un) (u8:=.un) ?_ (.leap _ (sD q1) (by have:=pD (k:=k) (s:=UA k s 2) q1;lia));rw[Yp,oI,GA c3];unfold FE;clear n1 n2 b1 b2 o1 o2 m1 m2 v1 v2 c0 fin q2 hq x1 x2
  walk_at "!eG"
 rw[Yp,oI,LA c3,IM,LH];by_cases c4:w=4
 ·have x1:=sD (k:=k) (s:=s) (m:=12) (by decide);have x2:=pD (k:=k) (s:=s) (m:=12) (by decide);have x3:=sD (k:=k) (s:=UA k s 12) (m:=12) (by decide);have x4:=pD (k:=k) (s:=UA k s 12) (m:=12) (by decide);refine fin (s':=UA k (UA k s 12) 12) (d:=.t [.str "back",.int (1+yB k s 12),.int (1+yB k (UA k s 12) 12)]) (u6:=.un) (u7:=.un) (u8:=.un) ?_ (.back _ _ (by lia) (by lia) (by lia) (by lia));rw[Zp,oI,GA c4];unfold FE;clear n1 n2 b1 b2 o1 o2 m1 m2 v1 v2 c0 fin x1 x2 x3 x4
  walk_at "!eG"
 rw[Zp,oI,LA c4,IM,LH];by_cases c5:w=5
 ·have x1:=sD (k:=k) (s:=s) (m:=3) (by decide);have x2:=pD (k:=k) (s:=s) (m:=3) (by decide);refine fin (s':=UA k s 3) (d:=.t [.str "again",.int (1+yB k s 3)]) (u6:=.un) (u7:=.un) (u8:=.un) ?_ (.again _ (by lia) (by lia));rw[aq,oI,GA c5];unfold FE;clear n1 n2 b1 b2 o1 o2 m1 m2 v1 v2 c0 fin x1 x2
  walk_at "!eG"
 rw[aq,oI,LA c5,IM,LH];by_cases c6:w=6
 ·have u1:=sD (k:=k) (s:=s) (m:=121) (by decide);have u2:=pD (k:=k) (s:=s) (m:=121) (by decide);have u3:=sD (k:=k) (s:=UA k s 121) (m:=20) (by decide);have u4:=pD (k:=k) (s:=UA k s 121) (m:=20) (by decide);have u5:=sD (k:=k) (s:=UA k (UA k s 121) 20) (m:=2) (by decide);have u6:=pD (k:=k) (s:=UA k (UA k s 121) 20) (m:=2) (by decide);have pM:=at2 (a:=yB k s 121-60) (b:=yB k (UA k s 121) 20-12) u5 u6;obtain⟨lo,TN⟩:∃lo,lo=(if yB k (UA k (UA k s 121) 20) 2=0 then yB k s 121-60 else yB k (UA k s 121) 20-12):=⟨_,rfl⟩
  rw[<- TN] at pM;have q1:lo<=60:=by rw[TN];split<;>lia
  have q2:-60<=lo:=by rw[TN];split<;>lia
  have y1:0<61-lo:=by lia
  have y2:61-lo<100000000000000000000000000000000000000000000000000000000000000000000000000000000:=by lia
  obtain⟨s1,qL⟩:∃s1,s1=UA k (UA k (UA k s 121) 20) 2:=⟨_,rfl⟩
  have z1:=sD (k:=k) (s:=s1) y1;have z2:=pD (k:=k) (s:=s1) y1;refine fin (s':=UA k s1 (61-lo)) (d:=.t [.str "range",.int lo,.int (lo+yB k s1 (61-lo))]) (u6:=.i lo) (u7:=.un) (u8:=.un) ?_ (.range _ _ q2 (by lia) (by lia));rw[bq,oI,GA c6];have o5a:=qL.symm;unfold FE;clear n1 n2 b1 b2 o1 o2 m1 m2 v1 v2 c0 fin u1 u2 u3 u4 u5 u6 q1 q2 z1 z2 TN qL
  walk_at "!eG"
 rw[bq,oI,LA c6,IM,LH];by_cases c7:w=7
 ·have x1:=sD (k:=k) (s:=s) E5;have x2:=pD (k:=k) (s:=s) E5;have x3:=sD (k:=k) (s:=UA k s (ma+1)) g9;have x4:=pD (k:=k) (s:=UA k s (ma+1)) g9;obtain⟨a,ha⟩:∃a:Nat,yB k s (ma+1)=(a:Int):=⟨_,(MO x1).symm⟩
  have y1:=tR ((a:Int)+1+yB k (UA k s (ma+1)) ma) (b:=ma+1) (by lia);have y2:=OY ((a:Int)+1+yB k (UA k s (ma+1)) ma) (b:=ma+1) (by lia);obtain⟨b,hb⟩:∃b:Nat,((a:Int)+1+yB k (UA k s (ma+1)) ma) % (ma+1)=(b:Int):=⟨_,(MO y1).symm⟩
  have xE:a≠b:=λz=>by
   subst z;rcases Int.lt_or_le ((a:Int)+1+yB k (UA k s (ma+1)) ma) (ma+1) with h | h
   ·rw[QY (by lia) h] at hb
    lia
   ·have h2:((a:Int)+1+yB k (UA k s (ma+1)) ma) % (ma+1)=((a:Int)+1+yB k (UA k s (ma+1)) ma-(ma+1)):=by
     rw[<- xr,QY (by lia) (by lia)]
    lia
  refine fin (s':=UA k (UA k s (ma+1)) ma) (d:=.t [.str "above",.int a,.int b]) (u6:=.un) (u7:=.i a) (u8:=.un) ?_ (.above _ _ (by lia) (by lia) xE);rw[cq,oI,GA c7];unfold FE;clear n1 n2 b1 b2 o1 o2 m1 m2 v1 v2 c0 fin x1 x2 x3 x4 y1 y2 xE
  walk_at "!eG"
 rw[cq,oI,LA c7,IM,LH,l2a];have x1:=sD (k:=k) (s:=UA k (UA k s oc) oc) (m:=4) (by decide);have x2:=pD (k:=k) (s:=UA k (UA k s oc) oc) (m:=4) (by decide);obtain⟨x,pM,hx⟩:=Nv x1 x2;refine⟨UA k (UA k (UA k s oc) oc) 4,.t [.str "never",.int (yB k s oc),.int (yB k (UA k s oc) oc),.str x], ?_,.never _ _ _ (sD g3) (pD g3) (sD g3) (pD g3) hx⟩;unfold FE;clear n1 n2 b1 b2 o1 o2 m1 m2 v1 v2 c0 fin x1 x2 hx
 walk_at "!m2a eG"
def J0:L2.lC [D.int a,D.int b] (if g=true then 1 else 0)=some (.int (if g=true then b else a)):=by cases g<;>rfl
def zW{g:Bool}{a b:Int}(ha:0<a)(hb:0<b):0<(if g=true then b else a):=by cases g<;>simpa
def yW{g:Bool}{a b c:Int}(ha:a<c)(hb:b<c):(if g=true then b else a)<c:=by cases g<;>simpa
structure ZG(no ba oc:Int)(fs:List (Int×Int×Bool)):Prop where
 n1:1<=no
 n2:no<=7
 b1:1<=ba
 b2:ba<=4
 o1:1<=oc
 o2:oc<=12
 l1:1<=fs.length
 l2:fs.length<=3
 f:∀f∈fs,0<=f.1/\f.1<=4/\-12<=f.2.1/\f.2.1<=12
def bDa{W n:Nat}{k s:Int}:∃s' no ba oc fs rs,run T W (n+3) "F" [.p (.l [.int k,.int s])]=some (.ok (.sh (.t [.int no,.int ba,.int oc,.t (fs.map toD),.t rs])),[.p (.l [.int k,.int s'])])/\ZG no ba oc fs/\rs.length<=8/\∀d∈rs,DH no ba oc (fs.length:Int) d:=by
 exists W3
 generalize hg:decide (yB k s 2=0)=g;have p1:=zW (g:=g) (a:=4) (b:=7) (by decide) (by decide);have p2:=yW (g:=g) (a:=4) (b:=7) (c:=100000000000000000000000000000000000000000000000000000000000000000000000000000000) (by decide) (by decide);have p3:=zW (g:=g) (a:=2) (b:=4) (by decide) (by decide);have p4:=yW (g:=g) (a:=2) (b:=4) (c:=100000000000000000000000000000000000000000000000000000000000000000000000000000000) (by decide) (by decide);have p5:=zW (g:=g) (a:=2) (b:=3) (by decide) (by decide);have p6:=yW (g:=g) (a:=2) (b:=3) (c:=100000000000000000000000000000000000000000000000000000000000000000000000000000000) (by decide) (by decide);have p7:=zW (g:=g) (a:=2) (b:=5) (by decide) (by decide);have p8:=yW (g:=g) (a:=2) (b:=5) (c:=100000000000000000000000000000000000000000000000000000000000000000000000000000000) (by decide) (by decide);obtain⟨s1,qL⟩:∃s1,s1=UA k s 2:=⟨_,rfl⟩
 obtain⟨no,UJ⟩:∃no,no=1+yB k s1 (if g=true then 7 else 4):=⟨_,rfl⟩
 obtain⟨s2,qF⟩:∃s2,s2=UA k s1 (if g=true then 7 else 4):=⟨_,rfl⟩
 obtain⟨ba,iL⟩:∃ba,ba=1+yB k s2 (if g=true then 4 else 2):=⟨_,rfl⟩
 obtain⟨s3,YN⟩:∃s3,s3=UA k s2 (if g=true then 4 else 2):=⟨_,rfl⟩
 obtain⟨oc,pL⟩:∃oc,oc=1+yB k s3 12:=⟨_,rfl⟩
 obtain⟨s4,rW⟩:∃s4,s4=UA k s3 12:=⟨_,rfl⟩
 obtain⟨ma,jW⟩:∃ma,ma=1+yB k s4 (if g=true then 3 else 2):=⟨_,rfl⟩
 obtain⟨s5,sW⟩:∃s5,s5=UA k s4 (if g=true then 3 else 2):=⟨_,rfl⟩
 have n1:1<=no:=by have:=sD (k:=k) (s:=s1) p1;lia
 have n2:no<=7:=by
  have:=pD (k:=k) (s:=s1) p1
  have:(if g=true then(7:Int) else 4)<=7:=by cases g<;>decide
  lia
 have b1:1<=ba:=by have:=sD (k:=k) (s:=s2) p3;lia
 have b2:ba<=4:=by
  have:=pD (k:=k) (s:=s2) p3
  have:(if g=true then(4:Int) else 2)<=4:=by cases g<;>decide
  lia
 have o1:1<=oc:=by have:=sD (k:=k) (s:=s3) (m:=12) (by decide);lia
 have o2:oc<=12:=by have:=pD (k:=k) (s:=s3) (m:=12) (by decide);lia
 have m1:1<=ma:=by have:=sD (k:=k) (s:=s4) p5;lia
 have m2:ma<=3:=by
  have:=pD (k:=k) (s:=s4) p5
  have:(if g=true then(3:Int) else 2)<=3:=by cases g<;>decide
  lia
 have bh:aAb .uD [.slot 5] [.p (.l [.int k,.int s5]),.b g,.i no,.i ba,.i oc,.i ma,.o (.l []),.un,.un,.un]=some (rg ma.toNat,none):=ZS rfl (by lia) (by lia)
 have hIa:=fO (bind:=oB true [7]) (body:=IA T.aA (run T W (n+2)) W N0)
  (λpre U=>∃s6 fs t7 t8,U=[.p (.l [.int k,.int s6]),.b g,.i no,.i ba,.i oc,.i ma,.o (.l (fs.map toD)),t7,t8,.un]/\iB t7=true/\iB t8=true/\fs.length=pre.length/\∀f∈fs,0<=f.1/\f.1<=4/\-12<=f.2.1/\f.2.1<=12)
  (ds:=rg ma.toNat) (λpre d post ED U hU=>by
   obtain⟨s6,fs,t7,t8,rfl,h7,h8,hl,hf⟩:=hU
   have AB:pre.length<ma.toNat:=by
    have:=congrArg uJ ED
    simp at this
    lia
   refine⟨_,by simp only[kE,FD h7]<;>rfl, ?_⟩;have IG:GB ((fs.map toD).length+1)=true:=QE (by simp;lia);have la:=sD (k:=k) (s:=s6) p7;have lb:=pD (k:=k) (s:=s6) p7;have lc:(if g=true then(5:Int) else 2)<=5:=by cases g<;>decide
   have sa:=sD (k:=k) (s:=UA k s6 (if g=true then 5 else 2)) (m:=25) (by decide);have sb:=pD (k:=k) (s:=UA k s6 (if g=true then 5 else 2)) (m:=25) (by decide);refine⟨[.p (.l [.int k,.int (UA k (UA k (UA k s6 (if g=true then 5 else 2)) 25) 4)]),.b g,.i no,.i ba,.i oc,.i ma,.o (.l ((fs++[(yB k s6 (if g=true then 5 else 2),yB k (UA k s6 (if g=true then 5 else 2)) 25-12,decide (yB k (UA k (UA k s6 (if g=true then 5 else 2)) 25) 4=0))]).map toD)),.sh d,.i (yB k s6 (if g=true then 5 else 2)),.un], ?_,_,_,_,_,rfl,rfl,rfl,by simp[hl],λf hm=>?_⟩
   ·unfold N0;clear hf ED la lb lc sa sb hg UJ qF iL YN pL rW jW sW n1 n2 b1 b2 o1 o2 m1 m2 AB hl bh qL
    walk_at "!J0 eG"
    simp only[CF,KC,kN,toD]
   ·rcases VE.mp hm with hm | hm
    ·exact hf f hm
    ·rw[DC.mp hm]
     refine⟨la, ?_, ?_, ?_⟩<;>simp only<;>lia)
  (U:=[.p (.l [.int k,.int s5]),.b g,.i no,.i ba,.i oc,.i ma,.o (.l []),.un,.un,.un]) ⟨_,[],_,_,rfl,rfl,rfl,rfl,λf h=>nomatch h⟩
 obtain⟨U1,Ky,s6,fs,t7,t8,rfl,h7,h8,hl,hf⟩:=hIa;have hl:fs.length=ma.toNat:=by rw[hl];simp
 have qW:=sD (k:=k) (s:=s6) (m:=9) (by decide);have pQ:=pD (k:=k) (s:=s6) (m:=9) (by decide);have mI:aAb .uD [.val (.i (yB k s6 9))] [.p (.l [.int k,.int (UA k s6 9)]),.b g,.i no,.i ba,.i oc,.i ma,.o (.l (fs.map toD)),t7,t8,.o (.l [])]=some ((vC (yB k s6 9).toNat).map λ(j:Nat)=>.int j,none):=ZS rfl (by lia) (by lia)
 have iIa:=fO (bind:=oB true [7]) (body:=IA T.aA (run T W (n+2)) W O0)
  (λpre U=>∃s7 rs t7,U=[.p (.l [.int k,.int s7]),.b g,.i no,.i ba,.i oc,.i ma,.o (.l (fs.map toD)),t7,t8,.o (.l rs)]/\iB t7=true/\rs.length=pre.length/\∀d∈rs,DH no ba oc ma d)
  (ds:=(vC (yB k s6 9).toNat).map λ(j:Nat)=>.int j) (λpre d post ED U hU=>by
   obtain⟨s7,rs,t7,rfl,h7,hl,hR⟩:=hU
   have AB:pre.length<(yB k s6 9).toNat:=by
    have:=congrArg uJ ED
    simp at this
    lia
   refine⟨_,by simp only[kE,FD h7]<;>rfl, ?_⟩;have IG:GB (rs.length+1)=true:=QE (by lia);obtain⟨s8,dr,er,C6⟩:=aWa (W:=W) (n:=n) (k:=k) (s0:=s7) n1 n2 b1 b2 o1 o2 m1 m2;refine⟨[.p (.l [.int k,.int s8]),.b g,.i no,.i ba,.i oc,.i ma,.o (.l (fs.map toD)),.sh d,t8,.o (.l (rs++[dr]))], ?_,_,_,_,rfl,rfl,by simp[hl],λd hd=>(VE.mp hd).elim (hR d) λq=>by rw[DC.mp q];exact C6⟩;unfold O0;clear hR C6 hf ED hg UJ qF iL YN pL rW jW sW n1 n2 b1 b2 o1 o2 m1 m2 AB hl bh qL Ky mI qW pQ
   walk_at "!eG J0")
  (U:=[.p (.l [.int k,.int (UA k s6 9)]),.b g,.i no,.i ba,.i oc,.i ma,.o (.l (fs.map toD)),t7,t8,.o (.l [])]) ⟨_,[],_,rfl,h7,rfl,λ_ z=>nomatch z⟩
 obtain⟨U2,el2,s7,rs,PD,rfl,Gg,oh,hR⟩:=iIa;have ph:rs.length<=8:=by rw[oh];simp;lia
 have mh:(fs.length:Int)=ma:=by lia
 refine⟨s7,no,ba,oc,fs,rs, ?_,⟨n1,n2,b1,b2,o1,o2,by lia,by lia,hf⟩,ph,by rw[mh];exact hR⟩;clear hf n1 n2 b1 b2 o1 o2 m1 m2 hl oh qW pQ hR ph mh;have e1:=UJ.symm;have e2:=qF.symm;have e3:=iL.symm;have e4:=YN.symm;have e5:=pL.symm;have e6:=rW.symm;have e7:=jW.symm;have e8:=sW.symm;have e9:=qL.symm;clear UJ qF iL YN pL rW jW sW qL
 walk_at "!J0 eG"
def p9:"y"|||n+1|||[.sh (.t [.int qI,.int shift,.bl turned]),.i note]|||.i (if turned then shift-note else shift+note):=by
 exists X4
 cases turned<;>walk_at "!"
def yF(xs:List Int)(b:Int)(f:Int×Int×Bool):D :=
 if 0<=b-f.1/\b-f.1<xs.length then .int (if f.2.2=true then f.2.1-xs.getD (b-f.1).toNat 0 else f.2.1+xs.getD (b-f.1).toNat 0) else .lA
abbrev SF(fs:List (Int×Int×Bool)):List (Int×Int×Bool):=(0,0,false)::fs
def AX{v:Nat}(h:(SF fs)[v]?=some f) :
  "z"|||n+1|||[.sh (uA no ba oc fs rs),.i v]|||.sh (toD f):=by
 exists Z4
 cases v with
 |zero =>
  simp only[EI,aC] at h;subst h;have e:decide (((0:Nat):Int)=0)=true:=rfl
  walk_at "!"
  all_goals (try simp only[e])
  all_goals (try walk_at "!")
  all_goals rfl
 |succ v =>
  have h:fs[v]?=some f:=by simpa using h
  have e:decide (((v+1:Nat):Int)=0)=false:=WB (by lia);have e2:((v+1:Nat):Int)-1=(v:Int):=by lia
  have e3:L2.lC (fs.map toD) (v:Int)=some (toD f):=L2.AN (by rw[jE,h];rfl);unfold uA
  walk_at "!"
def Uv{xs:List Int}{i:Int}(h1:0<=i)(h2:i<xs.length):L2.lC (xs.map D.int) i=some (.int (xs.getD i.toNat 0)):=by
 have:=aV (ns:=xs) (k:=i.toNat) (by lia)
 have e:((i.toNat:Nat):Int)=i:=by lia
 rwa[e] at this
def Ba{W n:Nat}{no ba oc:Int}{fs:List (Int×Int×Bool)}{rs:List D}{xs:List Int}{v:Nat}{b:Int}{p:Bool}{f:Int×Int×Bool}(h:(SF fs)[v]?=some f) :
  "m"|||n+2|||[.sh (uA no ba oc fs rs),.p (.l (xs.map D.int)),.i v,.i b]|||.sh (yF xs b f):=by
 exists o5
 have hs:=AX (W:=W) (n:=n) (no:=no) (ba:=ba) (oc:=oc) (rs:=rs) h;obtain⟨qI,shift,turned⟩:=f;simp only[toD] at hs;by_cases c:0<=b-qI/\b-qI<xs.length
 ·have e1:=Uv c.1 c.2;have ev:yF xs b (qI,shift,turned)=.int (if turned=true then shift-xs.getD (b-qI).toNat 0 else shift+xs.getD (b-qI).toNat 0):=GA c;obtain⟨c1,c2⟩:=c;clear h
  walk_at "!AX p9 EA"
 ·have ev:yF xs b (qI,shift,turned)=.lA:=LA c;by_cases c1:0<=b-qI
  ·have c2:¬b-qI<xs.length:=λz=>c ⟨c1,z⟩
   have TK:decide (b-qI<(xs.length:Int))=false:=WB c2;clear h c c2
   walk_at "!AX p9 EA"
  ·have EN:decide (0<=b-qI)=false:=WB c1;clear h c c1
   walk_at "!AX p9 EA"
def SX:yF xs b f=.lA\/∃i,yF xs b f=.int i:=by
 unfold yF;split
 ·exact .inr ⟨_,rfl⟩
 ·exact .inl rfl
def tV{bind:D->Env->Option Env}(sel:Nat->Bool)(val:Nat->D)(J:Env->Prop)
  (step:∀(j:Nat) (d:D),ds[j]?=some d->∀U,J U->∃U1 U2,bind d U=some U1/\tests U1=some (.ok (.b (sel j)),U2)/\(sel j=true->∃v U3,HA U2=some (.ok v,U3)/\v.d=val j/\J U3)/\(sel j=false->J U2)) :
  ∀U,J U->∃U',dG tests HA bind ds [] U=some (.ok (((vC ds.length).filter sel).map val),U')/\J U':=by
 intro U hU
 obtain⟨rA,U',e,⟨rfl,hJ⟩,_⟩:=BP (λj rA U=>rA=((vC j).filter sel).map val/\J U)
  (λj d hd rA U hz=>by
   obtain⟨ha,hJ⟩:=hz;subst ha;obtain⟨U1,U2,h1,h2,h3,h4⟩:=step j d hd U hJ;refine⟨U1,sel j,U2,h1,h2,λhc=>?_,λhc=>?_⟩
   ·obtain⟨v,U3,h5,h6,h7⟩:=h3 hc;refine⟨v,U3,h5, ?_,h7⟩;rw[BU,jR,CF,h6];simp[hc]
   ·refine⟨?_,h4 hc⟩;rw[BU,jR,CF]
    simp[hc]) [] U ⟨rfl,hU⟩
 exact⟨U',e,hJ⟩
def qV{xs:List Int}{b:Int}(hl:fs.length<=1000) :
  "c"|||n+3|||[.sh (uA no ba oc fs rs),.p (.l (xs.map D.int)),.i b]|||.ow (.l ((SF fs).map (yF xs b))):=by
 exists K4
 have hi:aAb .uD [.val (.i ((fs.length:Int)+1))] [.sh (uA no ba oc fs rs),.p (.l (xs.map D.int)),.i b]=some (rg (fs.length+1),none):=by(refine zZ (ZS (n:=(fs.length:Int)+1) rfl (by lia) (by lia)) ?_;rw[show((fs.length:Int)+1).toNat=fs.length+1 from by lia])
 obtain⟨rA,Ui,e,⟨t4,rfl,mE,rfl⟩,hz⟩:=BP (tests:=cD T.aA (run T W (n+2)) []) (HA:=ev T.aA (run T W (n+2)) false J2) (bind:=oB true [4]) (ds:=rg (fs.length+1))
  (λj rA U=>∃(t4:Sl),U=[.i b,.sh (uA no ba oc fs rs),.p (.l (xs.map D.int)),.un,t4]/\iB t4=true/\rA=((SF fs).take j).map (yF xs b))
  (λj d hd rA U hU=>by
   obtain⟨t4,rfl,mE,rfl⟩:=hU
   have hj:j<fs.length+1:=by
    have:=(RD.mp hd).1
    simpa using this
   have LF:d=.int j:=by(rw[jE,ZM hj] at hd;exact(ZD hd).symm)
   subst LF;obtain⟨f,hf⟩:∃f,(SF fs)[j]?=some f:=⟨_,gD (by simp;lia)⟩
   have hs:=Ba (W:=W) (n:=n) (no:=no) (ba:=ba) (oc:=oc) (rs:=rs) (xs:=xs) (b:=b) (p:=true) hf;refine⟨_,true,_,by simp only[kE,FD mE]<;>rfl,kS,λ_=>?_,λz=>nomatch z⟩;refine⟨.sh (yF xs b f),[.i b,.sh (uA no ba oc fs rs),.p (.l (xs.map D.int)),.un,.i j], ?_,_,rfl,rfl, ?_⟩
   ·unfold J2;clear hd hj hf hi mE
    walk_at "!EA"
   ·rw[EU,hf,CF]
    rfl)
  [] [.i b,.sh (uA no ba oc fs rs),.p (.l (xs.map D.int)),.un,.un] ⟨_,rfl,rfl,rfl⟩
 have ht:(SF fs).take ((rg (fs.length+1)).length)=SF fs:=by(rw[KO];simp)
 rw[ht] at e;have IG:GB ((SF fs).map (yF xs b)).length=true:=QE (by simp;lia);have tW:GB (fs.length+1)=true:=QE (by lia);clear hz mE ht hl
 walk_at "!EA"
 rw[aK hi]
 walk_at "!EA"
noncomputable def uO(lo hi:Int):D->Bool
 |.int i=>!(decide (lo<=i)&&decide (i<=hi))
 |_=>false
def lO(n:Nat)(sel:Nat->Bool):List (List Int):=((vC n).filter sel).map λ(j:Nat)=>[(j:Int)]
def vOa(h:is∈lO n sel):is.length<=1000:=by
 obtain⟨j,_,rfl⟩:=EF.mp h;simp
def Sk(hn:n<=1000):(lO n sel).length<=1000:=by
 unfold lO;rw[EA]
 have:=FY sel (vC n)
 simp at this
 lia
def uOa:((vC n).filter sel).map (λ(j:Nat)=>D.t [.int j])=cB (lO n sel):=by
 unfold cB lO;rw[JU];rfl
def eVa(hd:d=.lA\/∃i,d=.int i):"O"|||n+1|||[.sh (.ins "Range" ["low","high"] [.int lo,.int hi]),.sh d]|||.b (uO lo hi d):=by
 exists C4
 rcases hd with rfl | ⟨i,rfl⟩
 ·have e:uO lo hi .lA=false:=rfl
  walk_at "!K3 J3"
 ·have e:uO lo hi (.int i)=!(decide (lo<=i)&&decide (i<=hi)):=rfl;by_cases c:lo<=i
  ·have c':decide (lo<=i)=true:=jC c;rw[e,c',aP]
   walk_at "!K3 J3"
  ·have c':decide (lo<=i)=false:=WB c;rw[e,c',uR]
   walk_at "!K3 J3"
def QB(fs:List (Int×Int×Bool))(xs:List Int)(b:Int):List D:=(SF fs).map (yF xs b)
def uBa{j:Nat}(h:(QB fs xs b)[j]?=some d):d=.lA\/∃i,d=.int i:=by
 unfold QB at h;rw[jE] at h
 cases q:(SF fs)[j]? with
 |none=>rw[q] at h;cases h
 |some f =>
  rw[q] at h;cases h;exact SX
def gQ:(QB fs xs b).length=fs.length+1:=by unfold QB;simp
def tBa{v:Nat}(h:(SF fs)[v]?=some f):(QB fs xs b)[v]?=some (yF xs b f):=by
 unfold QB;rw[jE,h];rfl
def W5{v:Nat}(h:(SF fs)[v]?=some f):(QB fs xs b).getD v .lA=yF xs b f:=by
 rw[kP,tBa h];rfl
def hFa(h:v.d=.l ds):aAb (.enum 0) [.val v] U=some (eH 0 ds,none):=by(unfold aAb;simp only[h])
def JT(lo hi:Int)(fs:List (Int×Int×Bool))(xs:List Int)(b:Int):List (List Int):=lO (fs.length+1) λj=>uO lo hi ((QB fs xs b).getD j .lA)
def dVa(hl:fs.length<=900) :
  "N"|||n+4|||[.sh (.ins "Range" ["low","high"] [.int lo,.int hi]),.sh (uA no ba oc fs rs),.p (.l (xs.map D.int)),.i b]|||.ow (.l (cB (JT lo hi fs xs b))):=by
 exists B4
 have hc:run T W (n+3) "c" _=some (.ok (.ow (.l (QB fs xs b))),_):=qV (no:=no) (ba:=ba) (oc:=oc) (fs:=fs) (rs:=rs) (xs:=xs) (b:=b) (by lia);have mI:aAb (.enum 0) [.val (.ow (.l (QB fs xs b)))] [.sh (.ins "Range" ["low","high"] [.int lo,.int hi]),.sh (uA no ba oc fs rs),.p (.l (xs.map D.int)),.i b]=some (eH 0 (QB fs xs b),none):=hFa rfl
 obtain⟨Ui,e,t2,t3,rfl,fJ,Bh⟩:=tV (tests:=cD T.aA (run T W (n+3)) [.kJ 0 "forbids" QM [.v 3]]) (HA:=ev T.aA (run T W (n+3)) false D2) (bind:=oB false [2,3]) (ds:=eH 0 (QB fs xs b))
  (λj=>uO lo hi ((QB fs xs b).getD j .lA)) (λ(j:Nat)=>.t [.int j])
  (λU=>∃(t2 t3:Sl),U=[.sh (.ins "Range" ["low","high"] [.int lo,.int hi]),.un,t2,t3]/\iB t2=true/\iB t3=true)
  (λj d hd U hU=>by
   obtain⟨t2,t3,rfl,fJ,Bh⟩:=hU
   have hj:j<(QB fs xs b).length:=by
    have:=(RD.mp hd).1
    rwa[FP] at this
   have hg:=gD hj;rw[V2 hg,Int.zero_add] at hd;cases hd;generalize (QB fs xs b)[j]=x at hg;have SN:(QB fs xs b).getD j .lA=x:=by rw[kP,hg];rfl
   have hk:=uBa hg;have hf:=eVa (W:=W) (n:=n+2) (lo:=lo) (hi:=hi) hk;refine⟨_,[.sh (.ins "Range" ["low","high"] [.int lo,.int hi]),.un,.i j,.sh x],by simp only[kE,FD fJ,FD Bh]<;>rfl, ?_,λ_=>?_,λ_=>?_⟩
   ·simp only[SN]
    walk_at "!RW"
   ·refine⟨.sh (.t [.int j]),[.sh (.ins "Range" ["low","high"] [.int lo,.int hi]),.un,.i j,.sh x], ?_,rfl,_,_,rfl,rfl,rfl⟩;unfold D2
    walk_at "!RW"
   ·exact⟨_,_,rfl,rfl,rfl⟩)
  [.sh (.ins "Range" ["low","high"] [.int lo,.int hi]),.un,.un,.un] ⟨_,_,rfl,rfl,rfl⟩
 rw[FP,gQ,uOa] at e;have hB:lO (fs.length+1) (λj=>uO lo hi ((QB fs xs b).getD j .lA))=JT lo hi fs xs b:=rfl;rw[hB] at e
 have IG:GB (cB (JT lo hi fs xs b)).length=true:=QE (by
  have:=Sk (n:=fs.length+1) (sel:=λj=>uO lo hi ((QB fs xs b).getD j .lA)) (by lia)
  unfold cB JT;simp only[EA]
  lia)
 walk_at "!RW"
 rw[aK mI]
 walk_at "!RW"
noncomputable def OE(m v:Nat)(P:Nat->Nat->Bool):List (List Int):=((vC m).filter λj=>P v (v+1+j)).map λ(j:Nat)=>[(v:Int),((v+1+j:Nat):Int)]
def pG(n:Nat)(P:Nat->Nat->Bool):List (List Int):=(vC n).flatMap λv=>OE (n-(v+1)) v P
def nVa:OE (m+1) v P=OE m v P++(if P v (v+1+m)=true then [[(v:Int),((v+1+m:Nat):Int)]] else []):=by
 unfold OE;rw[BU,jR,CF];congr 1;by_cases h:P v (v+1+m)=true
 ·simp[h]
 ·simp[h]
def mVa(h:is∈OE m v P):is.length<=1000:=by
 obtain⟨j,_,rfl⟩:=EF.mp h;simp
def ql(h:is∈pG n P):is.length<=1000:=by
 obtain⟨v,_,h⟩:=Es.mp h;exact mVa h
def Pm:(OE m v P).length<=m:=by
 unfold OE;rw[EA]
 have:=FY (λj=>P v (v+1+j)) (vC m)
 simpa using this
def rl:(vC (m+1)).flatMap (λv=>OE (n-(v+1)) v P)=(vC m).flatMap (λv=>OE (n-(v+1)) v P)++OE (n-(m+1)) m P:=by
 rw[BU,List.flatMap_append];simp
theorem yb:∀(m:Nat),((vC m).flatMap (λv=>OE (n-(v+1)) v P)).length<=m*n
 | 0=>by simp
 |m+1=>by(rw[rl,oC];have h1:=yb (n:=n) (P:=P) m;have h2:=Pm (m:=n-(m+1)) (v:=m) (P:=P);rw[Nat.succ_mul];omega)
def oX(hn:n<=30):(pG n P).length<=1000:=by
 have h1:=yb (n:=n) (P:=P) n;have h2:n*n<=30*30:=Xs hn hn;unfold pG
 lia
def Cp:cB (a++b)=cB a++cB b:=by unfold cB;rw[CF]
def CO:(cB a).length=a.length:=by unfold cB;rw[EA]
def oVa(E:List D->Sl->Sl->Env)(P:Nat->Nat->Bool)(n v:Nat)(rA:List (List Int))(ha:rA.length<=10000)(hn:n<=1000)
  (hb:∀(a:List D) (t:Sl) (d:D),iB t=true->oB true [iw] d (E a (.i v) t)=some (E a (.i v) (.sh d)))
  (hs:∀(a:List (List Int)) (w:Nat),v<w->w<n->a.length<=20000->body (E (cB a) (.i v) (.i w))=some (.nx,E (cB (a++(if P v w=true then [[(v:Int),(w:Int)]] else []))) (.i v) (.i w))) (t:Sl) (ht:iB t=true) :
  ∃t',RC (oB true [iw]) body ((vC (n-(v+1))).map λ(j:Nat)=>.int ((v:Int)+1+(j:Int))) (E (cB rA) (.i v) t)=some (.nx,E (cB (rA++OE (n-(v+1)) v P)) (.i v) t')/\iB t'=true:=by
 obtain⟨U',e,t',rfl,tM⟩:=fO (bind:=oB true [iw]) (λpre U=>∃t',U=E (cB (rA++OE pre.length v P)) (.i v) t'/\iB t'=true)
  (ds:=(vC (n-(v+1))).map λ(j:Nat)=>.int ((v:Int)+1+(j:Int))) (λpre d post ED U hU=>by
   obtain⟨t',rfl,tM⟩:=hU
   have AB:pre.length<n-(v+1):=by
    have:=congrArg uJ ED
    simp at this;omega
   have hd:d=.int (((v+1+pre.length:Nat)):Int):=by
    have h1:((vC (n-(v+1))).map λ(j:Nat)=>D.int ((v:Int)+1+(j:Int)))[pre.length]?=some d:=by rw[ED];simp
    rw[jE,ZM AB] at h1;simp only[EE,aC] at h1;rw[<- h1];congr 1
   subst hd;refine⟨_,hb _ _ _ tM,_,hs _ (v+1+pre.length) (by omega) (by omega) ?_,.i ((v+1+pre.length:Nat):Int), ?_,rfl⟩
   ·have:=Pm (m:=pre.length) (v:=v) (P:=P)
    rw[oC];omega
   ·rw[oC,QC,wH,nVa,BJ])
  (U:=E (cB rA) (.i v) t) ⟨t,by simp[OE],ht⟩
 refine⟨t', ?_,tM⟩;rw[e];simp
def oQa(E:List D->Sl->Sl->Env)(P:Nat->Nat->Bool)(n:Nat)(hn:n<=30)
  (hb:∀(a:List D) (t t2:Sl) (d:D),iB t=true->oB true [iv] d (E a t t2)=some (E a (.sh d) t2))
  (hs:∀(rA:List (List Int)) (v:Nat) (t:Sl),v<n->rA.length<=10000->iB t=true->∃t',body (E (cB rA) (.i v) t)=some (.nx,E (cB (rA++OE (n-(v+1)) v P)) (.i v) t')/\iB t'=true) (t t2:Sl) (ht:iB t=true) (fJ:iB t2=true) :
  ∃t' SE,RC (oB true [iv]) body (rg n) (E [] t t2)=some (.nx,E (cB (pG n P)) t' SE)/\iB t'=true/\iB SE=true:=by
 obtain⟨U',e,t',SE,rfl,tM,uW⟩:=fO (bind:=oB true [iv]) (λpre U=>∃t' SE,U=E (cB ((vC pre.length).flatMap λv=>OE (n-(v+1)) v P)) t' SE/\iB t'=true/\iB SE=true)
  (ds:=rg n) (λpre d post ED U hU=>by
   obtain⟨t',SE,rfl,tM,uW⟩:=hU
   have AB:pre.length<n:=by
    have:=congrArg uJ ED
    simp at this
    lia
   have hd:d=.int ((pre.length:Nat):Int):=by
    have h1:(rg n)[pre.length]?=some d:=by rw[ED];simp
    rw[jE,ZM AB] at h1;simp only[EE,aC] at h1;exact h1.symm
   subst hd
   obtain⟨t3,h3,h4⟩:=hs ((vC pre.length).flatMap λv=>OE (n-(v+1)) v P) pre.length SE AB (by
    have h1:=yb (n:=n) (P:=P) pre.length;have h2:pre.length*n<=30*30:=Xs (by lia) hn
    lia) uW
   refine⟨_,hb _ _ _ _ tM,_,h3,.i ((pre.length:Nat):Int),_, ?_,rfl,h4⟩
   rw[oC,QC,wH,rl])
  (U:=E [] t t2) ⟨t,t2,by simp[cB],ht,fJ⟩
 refine⟨t',SE, ?_,tM,uW⟩;rw[e];unfold pG;simp
noncomputable def yM:D->Bool
 |.lA=>true
 |_=>false
def KG(hs:List D)(v w:Nat):Bool:=!yM (hs.getD v .lA) && !yM (hs.getD w .lA)
def GR(hs:List D):Prop:=∀d∈hs,d=.lA\/∃i,d=.int i
def D6:GR (QB fs xs b):=λd hd=>by
 obtain⟨f,_,rfl⟩:=EF.mp hd;exact SX
def sM(h:GR hs)(hv:v<hs.length):∃d,L2.lC hs (v:Int)=some d/\hs.getD v .lA=d/\(d=.lA\/∃i,d=.int i):=by
 refine⟨hs[v],L2.AN (gD hv), ?_,h _ (pR hv)⟩;rw[kP,gD hv];rfl
def An(hh:GR hs)(hl:hs.length<=30) :
  "r"|||n+1|||[.p (.l hs)]|||.ow (.l (cB (pG hs.length (KG hs)))):=by
 exists i5
 have hi:aAb .uD [.val (.i hs.length)] [.p (.l hs),.o (.l []),.un,.un]=some (rg hs.length,none):=by(refine zZ (ZS (n:=(hs.length:Int)) rfl (by lia) (by lia)) ?_;rw[EK])
 obtain⟨t',SE,e,tM,uW⟩:=oQa (iv:=2) (body:=IA T.aA (run T W n) W W0) (λa t t2=>[.p (.l hs),.o (.l a),t,t2]) (KG hs) hs.length hl
  (λa t t2 d ht=>by simp only[kE,FD ht])
  (λrA v t hv hac ht=>by
   have mI:aAb .uD [.val (.i ((v:Int)+1)),.val (.i hs.length)] [.p (.l hs),.o (.l (cB rA)),.i v,t]=some ((vC (hs.length-(v+1))).map λ(j:Nat)=>.int ((v:Int)+1+(j:Int)),none):=by(refine zZ (lFa (m:=(v:Int)+1) (n:=(hs.length:Int)) rfl rfl (by lia) (by lia)) ?_;rw[show((hs.length:Int)-((v:Int)+1)).toNat=hs.length-(v+1) from by lia])
   obtain⟨t3,e3,h3⟩:=oVa (iw:=3) (body:=IA T.aA (run T W n) W V0) (λa t t2=>[.p (.l hs),.o (.l a),t,t2]) (KG hs) hs.length v rA hac (by lia)
    (λa t d ht=>by simp only[kE,FD ht])
    (λa w hvw hw gL=>by
     obtain⟨d1,a1,g1,k1⟩:=sM hh hv;obtain⟨d2,a2,g2,k2⟩:=sM hh hw;have IG:GB ((cB a).length+1)=true:=QE (by rw[CO];lia);unfold V0 KG;rw[g1,g2];rcases k1 with rfl | ⟨i1,rfl⟩
     ·have e:yM .lA=true:=rfl
      walk_at "!EA"
      all_goals (try simp only[JC])
     ·have e1:yM (.int i1)=false:=rfl;rcases k2 with rfl | ⟨i2,rfl⟩
      ·have e:yM .lA=true:=rfl
       walk_at "!EA"
       all_goals (try simp only[JC])
      ·have e:yM (.int i2)=false:=rfl;have et:cB (a++[[(v:Int),(w:Int)]])=cB a++[.t [.int v,.int w]]:=by rw[Cp];rfl
       walk_at "!EA") t ht
   refine⟨t3, ?_,h3⟩;unfold W0
   walk_at "!EA") .un .un rfl rfl
 walk_at "!EA"
noncomputable def HF(i:Int):Int:=if i<0 then -i else i
theorem KI:(if i<0 then -i else i)=HF i:=rfl
noncomputable def gx(xs:List Int)(i:Nat):Int:=xs.getD i 0
def uP{xs:List Int}(h:k<xs.length):L2.lC (xs.map D.int) (k:Int)=some (.int (gx xs k)):=aV h
def QV(h:k<xs.length):gx xs k∈xs:=by
 unfold gx;rw[kP,gD h];simp
noncomputable def ME(c:Bool):List (List Int):=if c=true then [[]] else []
def V8(h:is∈ME c):is.length<=1000:=by
 cases c
 ·cases h
 ·rw[DC.mp h];decide
def W8:(ME c).length<=1000:=by cases c<;>decide
def yQ(mo:Int)(xs:List Int):Nat->Bool
 | 0=>false
 |b+1=>decide (mo<HF (gx xs (b+1)-gx xs b))
def eJa{b:Nat}(hb:b<xs.length) :
  "K"|||n+1|||[.sh (.ins "Leap" ["most"] [.int mo]),.sh h,.p (.l (xs.map D.int)),.i b]|||.ow (.l (cB (ME (yQ mo xs b)))):=by
 exists y4
 match b,hb with
 | 0,hb =>
  have e:cB (ME (yQ mo xs 0))=[]:=rfl;have c:decide (0<((0:Nat):Int))=false:=rfl
  walk_at "!E3 EA KI"
 |b+1,hb =>
  have c:decide (0<((b+1:Nat):Int))=true:=jC (by lia);have i1:((b+1:Nat):Int)-1=((b:Nat):Int):=by lia
  have a0:=uP (xs:=xs) (k:=b) (by lia);have a1:=uP (xs:=xs) (k:=b+1) (by lia);have ev:yQ mo xs (b+1)=decide (mo<HF (gx xs (b+1)-gx xs b)):=rfl;cases c1:decide (mo<HF (gx xs (b+1)-gx xs b))
  ·have e:cB (ME (yQ mo xs (b+1)))=[]:=by rw[ev,c1];rfl
   clear ev
   walk_at "!E3 EA KI"
  ·have e:cB (ME (yQ mo xs (b+1)))=[.t []]:=by rw[ev,c1];rfl
   clear ev
   walk_at "!E3 EA KI"
def NQ(m:Nat)(xs:List Int)(b:Nat):List Int:=(xs.drop (b-m)).take m
def iM(m:Nat)(xs:List Int)(b:Nat):Bool:=decide ((m:Int)<=(b:Int))&&(NQ m xs b).all λz=>decide (z=gx xs b)
def sy{xs:List Int}(h:m<=b)(hb:b<=e)(he:e<=xs.length):BL (some (.l (xs.map D.int))) (some (.int ((b:Int)-(m:Int)))) (some (.int e))=some (.ow (.l (((xs.drop (b-m)).take (m+(e-b))).map D.int))):=by
 have e1:(b:Int)-(m:Int)=((b-m:Nat):Int):=by lia
 show some (RV.ow (.l (aAz (xs.map D.int) (some ((b:Int)-(m:Int))) (some (e:Int)))))=_;rw[e1];unfold aAz;rw[HT.yX,HT.yX,EA,YY (by lia),YY (by lia),<- ot,<- md,show e-(b-m)=m+(e-b) from by lia]
def HP{Z:List Int}:WE .all [.l (Z.map λz=>.bl (p z))]=some (.b (Z.all p)):=by
 have h:NI (Z.map λz=>.bl (p z))=some (Z.map p):=by
  induction Z with
  |nil=>rfl
  |cons z Z ih=>simp[NI,ih]
 show(NI _).map _=_;rw[h];simp[oZ]
def Av{m:Nat}{h:D}{xs:List Int}{b:Nat}(hb:b<xs.length)(hm:m<=3) :
  "M"|||n+1|||[.sh (.ins "Again" ["most"] [.int m]),.sh h,.p (.l (xs.map D.int)),.i b]|||.ow (.l (cB (ME (iM m xs b)))):=by
 exists N3
 by_cases c:(b:Int)<(m:Int)
 ·have c':decide ((b:Int)<(m:Int))=true:=jC c
  have e:cB (ME (iM m xs b))=[]:=by(unfold iM;rw[WB (by lia)];rfl)
  walk_at "!MP HP EA"
 ·have c':decide ((b:Int)<(m:Int))=false:=WB c;have hs:=sy (xs:=xs) (m:=m) (b:=b) (e:=b) (by lia) (mB _) (by lia);rw[HU,Nat.add_zero] at hs;have hZ:((xs.drop (b-m)).take m)=NQ m xs b:=rfl;rw[hZ] at hs
  have hv:iM m xs b=(NQ m xs b).all λz=>decide (z=gx xs b):=by(unfold iM;rw[jC (by lia),aP])
  have hzl:(NQ m xs b).length<=3:=by unfold NQ;rw[ZH];lia
  have a0:=uP (k:=b) hb
  generalize NQ m xs b=Z at *
  have hi:aAb .of [.val (.ow (.l (Z.map D.int)))] [.sh (.ins "Again" ["most"] [.int m]),.sh h,.p (.l (xs.map D.int)),.i b]=some (Z.map D.int,none):=uQ rfl
  obtain⟨rA,Ui,e,⟨t4,rfl,mE,rfl⟩,hz⟩:=BP (tests:=cD T.aA (run T W n) []) (HA:=ev T.aA (run T W n) false C2) (bind:=oB true [3]) (ds:=Z.map D.int)
   (λj rA U=>∃(t4:Sl),U=[.i b,.p (.l (xs.map D.int)),.un,t4]/\iB t4=true/\rA=(Z.take j).map λz=>.bl (decide (z=gx xs b)))
   (λj d hd rA U hU=>by
    obtain⟨t4,rfl,mE,rfl⟩:=hU;obtain⟨z,hz,rfl⟩:∃z,Z[j]?=some z/\D.int z=d:=by simpa using hd
    refine⟨_,true,_,by simp only[kE,FD mE]<;>rfl,kS,λ_=>?_,λz=>nomatch z⟩;refine⟨.b (decide (z=gx xs b)),[.i b,.p (.l (xs.map D.int)),.un,.i z], ?_,_,rfl,rfl, ?_⟩
    ·unfold C2
     walk_at "!MP HP EA"
    ·rw[EU,hz,CF]
     rfl)
   [] [.i b,.p (.l (xs.map D.int)),.un,.un] ⟨_,rfl,rfl,rfl⟩
  have ht:Z.take (Z.map D.int).length=Z:=by(rw[KO];simp)
  rw[ht] at e;have IG:GB (Z.map λz=>D.bl (decide (z=gx xs b))).length=true:=QE (by simp;lia);have tW:GB Z.length=true:=QE (by lia);cases c1:Z.all λz=>decide (z=gx xs b)
  ·have e2:cB (ME (iM m xs b))=[]:=by rw[hv,c1];rfl
   clear hv
   walk_at "!MP HP EA"
   rw[aK hi]
   walk_at "!MP HP EA"
  ·have e2:cB (ME (iM m xs b))=[.t []]:=by rw[hv,c1];rfl
   clear hv
   walk_at "!MP HP EA"
   rw[aK hi]
   walk_at "!MP HP EA"
def wVa:"d"|||n+1|||[.sh (.t [.str "leap",a])]|||.sh (.ins "Leap" ["most"] [a]):=by
 exists cL
 walk_at "!xO"
def uVa:"d"|||n+1|||[.sh (.t [.str "again",a])]|||.sh (.ins "Again" ["most"] [a]):=by
 exists cL
 walk_at "!xO"
def NK(lp mo:Int)(xs:List Int):Nat->Bool
 | 0=>false
 | 1=>false
 |b+2=>decide (lp<=HF (gx xs (b+1)-gx xs b)) && !(decide ((gx xs (b+1)-gx xs b)*(gx xs (b+2)-gx xs (b+1))<0)&&decide (HF (gx xs (b+2)-gx xs (b+1))<=mo))
def jw{b:Nat}(hb:b<xs.length)(hx:∀x∈xs,0<=x/\x<100) :
  "L"|||n+1|||[.sh (.ins "Back" ["leap","most"] [.int lp,.int mo]),.sh h,.p (.l (xs.map D.int)),.i b]|||.ow (.l (cB (ME (NK lp mo xs b)))):=by
 exists O3
 match b,hb with
 | 0,hb =>
  have e:cB (ME (NK lp mo xs 0))=[]:=rfl;have c:decide (((0:Nat):Int)<2)=true:=rfl
  walk_at "!NP OP EA KI"
 | 1,hb =>
  have e:cB (ME (NK lp mo xs 1))=[]:=rfl;have c:decide (((1:Nat):Int)<2)=true:=rfl
  walk_at "!NP OP EA KI"
 |b+2,hb =>
  have c:decide (((b+2:Nat):Int)<2)=false:=WB (by lia);have i1:((b+2:Nat):Int)-1=((b+1:Nat):Int):=by lia
  have i2:((b+2:Nat):Int)-2=((b:Nat):Int):=by lia
  have a0:=uP (xs:=xs) (k:=b) (by lia);have a1:=uP (xs:=xs) (k:=b+1) (by lia);have a2:=uP (xs:=xs) (k:=b+2) (by lia);have x0:=hx _ (QV (xs:=xs) (k:=b) (by lia));have x1:=hx _ (QV (xs:=xs) (k:=b+1) (by lia));have x2:=hx _ (QV (xs:=xs) (k:=b+2) (by lia));have ev:NK lp mo xs (b+2)=(decide (lp<=HF (gx xs (b+1)-gx xs b)) && !(decide ((gx xs (b+1)-gx xs b)*(gx xs (b+2)-gx xs (b+1))<0)&&decide (HF (gx xs (b+2)-gx xs (b+1))<=mo))):=rfl
  generalize gx xs b=p0 at *
  generalize gx xs (b+1)=p1 at *
  generalize gx xs (b+2)=p2 at *
  have m1:-18446744073709551616<p1-p0:=by lia
  have m2:p1-p0<18446744073709551616:=by lia
  clear hx hb x0 x1 x2;by_cases c1:HF (p1-p0)<lp
  ·have EN:decide (HF (p1-p0)<lp)=true:=jC c1;have WR:decide (lp<=HF (p1-p0))=false:=WB (by lia);have e:cB (ME (NK lp mo xs (b+2)))=[]:=by rw[ev,WR];rfl
   clear ev c1
   walk_at "!NP OP EA KI"
  ·have EN:decide (HF (p1-p0)<lp)=false:=WB c1;have WR:decide (lp<=HF (p1-p0))=true:=jC (by lia);by_cases c2:(p1-p0)*(p2-p1)<0
   ·have TK:decide ((p1-p0)*(p2-p1)<0)=true:=jC c2;by_cases c3:HF (p2-p1)<=mo
    ·have pV:decide (HF (p2-p1)<=mo)=true:=jC c3;have e:cB (ME (NK lp mo xs (b+2)))=[]:=by rw[ev,WR,TK,pV];rfl
     clear ev c1 c2 c3
     walk_at "!NP OP EA KI"
    ·have pV:decide (HF (p2-p1)<=mo)=false:=WB c3;have e:cB (ME (NK lp mo xs (b+2)))=[.t []]:=by rw[ev,WR,TK,pV];rfl
     clear ev c1 c2 c3
     walk_at "!NP OP EA KI"
   ·have TK:decide ((p1-p0)*(p2-p1)<0)=false:=WB c2;have e:cB (ME (NK lp mo xs (b+2)))=[.t []]:=by rw[ev,WR,TK];rfl
    clear ev c1 c2
    walk_at "!NP OP EA KI"
def vVa:"d"|||n+1|||[.sh (.t [.str "back",a,b])]|||.sh (.ins "Back" ["leap","most"] [a,b]):=by
 exists cL
 walk_at "!xO"
def yVa:"d"|||n+1|||[.sh (.t [.str "range",a,b])]|||.sh (.ins "Range" ["low","high"] [a,b]):=by
 exists cL
 walk_at "!xO"
noncomputable def zN:D->D->Bool
 |.int i,.int j=>decide (i<j)
 |_,_=>false
def VM(c:Bool)(a b:Int):List (List Int):=if c=true then [[a,b]] else []
def e1a(h:is∈VM c a b):is.length<=1000:=by
 cases c
 ·cases h
 ·rw[DC.mp h];simp
def f1a:(VM c a b).length<=1000:=by cases c<;>simp[VM]
def YZ(fs:List (Int×Int×Bool))(xs:List Int)(b:Int)(v w:Nat):List (List Int):=VM (zN ((QB fs xs b).getD v .lA) ((QB fs xs b).getD w .lA)) (v:Int) (w:Int)
def vv{W n:Nat}{no ba oc:Int}{fs:List (Int×Int×Bool)}{rs:List D}{xs:List Int}{b:Int}{v w:Nat}(hv:v<fs.length+1)(hw:w<fs.length+1) :
  "P"|||n+3|||[.sh (.ins "Above" ["one","other"] [.int v,.int w]),.sh (uA no ba oc fs rs),.p (.l (xs.map D.int)),.i b]|||.ow (.l (cB (YZ fs xs b v w))):=by
 exists M3
 obtain⟨f,hf⟩:∃f,(SF fs)[v]?=some f:=⟨_,gD (by simp;lia)⟩
 obtain⟨g,hg⟩:∃g,(SF fs)[w]?=some g:=⟨_,gD (by simp;lia)⟩
 have h1:=Ba (W:=W) (n:=n) (no:=no) (ba:=ba) (oc:=oc) (rs:=rs) (xs:=xs) (b:=b) (p:=true) hf;have h2:=Ba (W:=W) (n:=n) (no:=no) (ba:=ba) (oc:=oc) (rs:=rs) (xs:=xs) (b:=b) (p:=true) hg;unfold YZ;rw[W5 hf,W5 hg];have k1:=SX (xs:=xs) (b:=b) (f:=f);have k2:=SX (xs:=xs) (b:=b) (f:=g)
 generalize yF xs b f=d1 at *
 generalize yF xs b g=d2 at *
 clear hf hg hv hw;rcases k1 with rfl | ⟨i,rfl⟩
 ·have e:cB (VM (zN .lA d2) (v:Int) (w:Int))=[]:=rfl
  walk_at "!DV EV"
 ·rcases k2 with rfl | ⟨j,rfl⟩
  ·have e:cB (VM (zN (.int i) .lA) (v:Int) (w:Int))=[]:=rfl
   walk_at "!DV EV"
  ·by_cases c:i<j
   ·have c':decide (j<=i)=false:=WB (by lia)
    have e:cB (VM (zN (.int i) (.int j)) (v:Int) (w:Int))=[.t [.int v,.int w]]:=by(unfold zN;simp only;rw[jC c];rfl)
    clear c
    walk_at "!DV EV"
   ·have c':decide (j<=i)=true:=jC (by lia)
    have e:cB (VM (zN (.int i) (.int j)) (v:Int) (w:Int))=[]:=by(unfold zN;simp only;rw[WB c];rfl)
    clear c
    walk_at "!DV EV"
def tVa:"d"|||n+1|||[.sh (.t [.str "above",a,b])]|||.sh (.ins "Above" ["one","other"] [a,b]):=by
 exists cL
 walk_at "!xO"
def yRa(L:List O)(d:O)(f:O->Bool)(g:O->N):((vC L.length).filter λj=>f (L.getD j d)).map (λj=>g (L.getD j d))=(L.filter f).map g:=by
 have h:L=(vC L.length).map λj=>L.getD j d:=by
  apply List.ext_getElem?
  intro i;rw[jE];by_cases hi:i<L.length
  ·rw[ZM hi,gD hi];simp[hi]
  ·rw[RL (by lia),RL (by simp;lia)];rfl
 have h2:(L.filter f).map g=(((vC L.length).map λj=>L.getD j d).filter f).map g:=congrArg (λl=>(l.filter f).map g) h;rw[h2,ZY,JU];rfl
def Q_{n m v:Nat}{P Q:Nat->Nat->Bool}{R:List Int->Bool}(hR:∀w:Nat,R [(v:Int),(w:Int)]=Q v w):(OE m v P).filter R=OE m v λv w=>P v w&&Q v w:=by
 unfold OE;rw[ZY,yr];congr 1
 apply Vr
 intro j _;simp only[Function.comp,hR,qt]
def jg{n:Nat}{P Q:Nat->Nat->Bool}{R:List Int->Bool}(hR:∀v w:Nat,R [(v:Int),(w:Int)]=Q v w):(pG n P).filter R=pG n λv w=>P v w&&Q v w:=by
 unfold pG;rw[List.filter_flatMap];congr 1
 funext v
 exact Q_ (n:=n) (hR v)
noncomputable def xI:D->Int
 |.int i=>i
 |_=>0
def rG(oc a b:Int):Int:=HF (a-b) % oc
def kK(ho:0<oc):"i"|||n+1|||[.i oc,.i a,.i b]|||.i (rG oc a b):=by
 exists j5
 unfold rG
 walk_at "!KI"
def ZP(sp s:Int):Bool:=decide (sp / 2 ^ s.toNat % 2=0)
def A'(h:0<=sp):decide (wU (sp / 2 ^ s.toNat) 1=0)=ZP sp s:=by
 have hq:0<=sp / 2 ^ s.toNat:=Int.ediv_nonneg h (by exact Int.le_of_lt (vZ (by decide)));unfold ZP;rw[PyProof.Rows.bitAnd_pp hq (by decide)];have e1:(1:Int).toNat=1:=rfl;rw[e1,Nat.and_one_is_mod];have e2:(((sp / 2 ^ s.toNat).toNat % 2:Nat):Int)=sp / 2 ^ s.toNat % 2:=by lia
 rw[e2]
def gYa(h:0<=sp)(hs:0<=s):"J"|||n+1|||[.sh (.ins "Span" ["beat","spans"] [.int be,.int sp]),.i s]|||.b (ZP sp s):=by
 exists E4
 have e:=A' (s:=s) h
 walk_at "!QP UP KI"
def Ee(oc sp:Int)(hs:List D)(v w:Nat):Bool:=ZP sp (rG oc (xI (hs.getD v .lA)) (xI (hs.getD w .lA)))
def BN(oc sp:Int)(hs:List D):List Int->Bool
 |[v,w]=>ZP sp (rG oc (xI (hs.getD v.toNat .lA)) (xI (hs.getD w.toNat .lA)))
 |_=>false
def oJ(be sp ba oc:Int)(fs:List (Int×Int×Bool))(xs:List Int)(b:Int):List (List Int):=if b % ba=be then pG (fs.length+1) (λv w=>KG (QB fs xs b) v w&&Ee oc sp (QB fs xs b) v w) else []
def dk(h:is∈pG n P):∃v w:Nat,is=[(v:Int),(w:Int)]/\v<n/\w<n/\v<w/\P v w=true:=by
 obtain⟨v,hv,h⟩:=Es.mp h;have hv:=iN.mp hv;obtain⟨j,hj,rfl⟩:=EF.mp h;obtain⟨hj,hp⟩:=JL.mp hj;have hj:=iN.mp hj;exact⟨v,v+1+j,rfl,hv,by omega,by omega,hp⟩
def fYa(hl:fs.length<=20)(QH:0<=sp)(iL:0<ba)(pL:0<oc) :
  "I"|||n+4|||[.sh (.ins "Span" ["beat","spans"] [.int be,.int sp]),.sh (uA no ba oc fs rs),.p (.l (xs.map D.int)),.i b]|||.ow (.l (cB (oJ be sp ba oc fs xs b))):=by
 exists D4
 by_cases c:b % ba=be
 ·have c':decide (b % ba=be)=true:=jC c;have hc:run T W (n+3) "c" _=some (.ok (.ow (.l (QB fs xs b))),_):=qV (no:=no) (ba:=ba) (oc:=oc) (fs:=fs) (rs:=rs) (xs:=xs) (b:=b) (by lia);have jQ:=D6 (fs:=fs) (xs:=xs) (b:=b);have PH:=gQ (fs:=fs) (xs:=xs) (b:=b);have kH:=An (W:=W) (n:=n+2) jQ (by lia);rw[PH] at kH
  have hB:oJ be sp ba oc fs xs b=(pG (fs.length+1) (KG (QB fs xs b))).filter (BN oc sp (QB fs xs b)):=by(unfold oJ;rw[GA c,jg (Q:=Ee oc sp (QB fs xs b))];intro v w;rfl)
  generalize QB fs xs b=hs at *
  obtain⟨L,hL⟩:∃L,L=pG (fs.length+1) (KG hs):=⟨_,rfl⟩
  have fL:∀is∈L,∃v w:Nat,is=[(v:Int),(w:Int)]/\v<hs.length/\w<hs.length/\KG hs v w=true:=λis nL=>by(rw[hL] at nL;obtain⟨v,w,h1,h2,h3,_,h4⟩:=dk nL;exact⟨v,w,h1,by lia,by lia,h4⟩)
  have QN:L.length<=1000:=by rw[hL];exact oX (by lia)
  rw[<- hL] at kH hB;have mI:aAb .of [.val (.ow (.l (cB L)))] [.sh (.ins "Span" ["beat","spans"] [.int be,.int sp]),.sh (uA no ba oc fs rs),.p (.l (xs.map D.int)),.i b,.i oc,.o (.l hs)]=some (cB L,none):=uQ rfl
  obtain⟨Ui,e,t4,t5,rfl,mE,KS⟩:=tV (tests:=cD T.aA (run T W (n+3)) [.kJ 2 "forbids" QM [.call "i" [.v 1,.ix (.v 0) (.v 4),.ix (.v 0) (.v 5)]]]) (HA:=ev T.aA (run T W (n+3)) false E2) (bind:=oB false [4,5]) (ds:=cB L)
   (λj=>BN oc sp hs (L.getD j [])) (λj=>.t ((L.getD j []).map D.int))
   (λU=>∃(t4 t5:Sl),U=[.p (.l hs),.i oc,.sh (.ins "Span" ["beat","spans"] [.int be,.int sp]),.un,t4,t5]/\iB t4=true/\iB t5=true)
   (λj d hd U hU=>by
    obtain⟨t4,t5,rfl,mE,KS⟩:=hU
    have hj:j<L.length:=by
     have:=(RD.mp hd).1
     rwa[CO] at this
    have hg:=gD hj
    have hd2:d=.t (L[j].map D.int):=by(unfold cB at hd;rw[jE,hg] at hd;exact(ZD hd).symm)
    have SN:L.getD j []=L[j]:=by rw[kP,hg];rfl
    obtain⟨v,w,h1,hv,hw,kH⟩:=fL L[j] (pR hj);rw[h1] at hd2 SN;subst hd2;obtain⟨d1,a1,g1,k1⟩:=sM jQ hv;obtain⟨d2,a2,g2,k2⟩:=sM jQ hw;unfold KG at kH;rw[g1,g2,WA] at kH
    obtain⟨i1,rfl⟩:∃i,d1=.int i:=by
     rcases k1 with rfl | k1
     ·exact absurd kH.1 (by decide)
     ·exact k1
    obtain⟨i2,rfl⟩:∃i,d2=.int i:=by
     rcases k2 with rfl | k2
     ·exact absurd kH.2 (by decide)
     ·exact k2
    have K6:0<=rG oc i1 i2:=tR _ (by lia);have hfb:=gYa (W:=W) (n:=n+2) (be:=be) QH K6
    have T5:BN oc sp hs [(v:Int),(w:Int)]=ZP sp (rG oc i1 i2):=by(unfold BN;simp only[EK,g1,g2];rfl)
    refine⟨_,[.p (.l hs),.i oc,.sh (.ins "Span" ["beat","spans"] [.int be,.int sp]),.un,.i v,.i w],by simp only[KC,kN,kE,FD mE,FD KS]<;>rfl, ?_,λ_=>?_,λ_=>?_⟩
    ·simp only[SN,T5];clear hd hj hg SN T5 h1 hv hw kH fL QN mI hB hL hc jQ PH k1 k2 g1 g2 mE KS hl QH iL c K6
     walk_at "!kT kK QP UP"
    ·refine⟨.sh (.t [.int v,.int w]),[.p (.l hs),.i oc,.sh (.ins "Span" ["beat","spans"] [.int be,.int sp]),.un,.i v,.i w], ?_,by rw[SN];rfl,_,_,rfl,rfl,rfl⟩;unfold E2;clear hd hj hg SN T5 h1 hv hw kH fL QN mI hB hL hc jQ PH k1 k2 g1 g2 mE KS hl QH iL c K6 hfb a1 a2
     walk_at "!kT kK QP UP"
    ·exact⟨_,_,rfl,rfl,rfl⟩)
   [.p (.l hs),.i oc,.sh (.ins "Span" ["beat","spans"] [.int be,.int sp]),.un,.un,.un] ⟨_,_,rfl,rfl,rfl⟩
  rw[CO,yRa L [] (BN oc sp hs) (λis=>D.t (is.map D.int))] at e;have Hg:(L.filter (BN oc sp hs)).map (λis=>D.t (is.map D.int))=cB (oJ be sp ba oc fs xs b):=by rw[hB];rfl
  rw[Hg] at e
  have IG:GB (cB (oJ be sp ba oc fs xs b)).length=true:=QE (by
   rw[CO,hB]
   have:=FY (BN oc sp hs) L
   lia)
  clear hl mE KS hB Hg fL QN hL jQ PH QH c
  walk_at "!kT kK QP UP"
  rw[aK mI]
  walk_at "!kT kK QP UP"
 ·have c':decide (b % ba=be)=false:=WB c;have e:oJ be sp ba oc fs xs b=[]:=LA c;have e2:cB []=[]:=rfl;clear c hl
  walk_at "!kT kK QP UP"
def zVa:"d"|||n+1|||[.sh (.t [.str "span",a,b])]|||.sh (.ins "Span" ["beat","spans"] [a,b]):=by
 exists cL
 walk_at "!xO"
def dYa(h:is∈oJ be sp ba oc fs xs b):is.length<=1000:=by
 unfold oJ at h;split at h
 ·exact ql h
 ·cases h
def eYa(hl:fs.length<=20):(oJ be sp ba oc fs xs b).length<=1000:=by
 unfold oJ;split
 ·exact oX (by lia)
 ·simp
def gIa(E:List D->Sl->Sl->Env)(R:List Int->Bool)(L:List (List Int))(hL:L.length<=1000)
  (hb:∀(a:List D) (t t2 d d2:_),iB t=true->iB t2=true->oB false [iv,iw] (.t [d,d2]) (E a t t2)=some (E a (.sh d) (.sh d2)))
  (hp:∀is∈L,∃v w:Nat,is=[(v:Int),(w:Int)])
  (hs:∀(a:List (List Int)) (v w:Nat),[(v:Int),(w:Int)]∈L->a.length<=2000->body (E (cB a) (.i v) (.i w))=some (.nx,E (cB (a++(if R [(v:Int),(w:Int)]=true then [[(v:Int),(w:Int)]] else []))) (.i v) (.i w))) (t t2:Sl) (ht:iB t=true) (fJ:iB t2=true) :
  ∃t' SE,RC (oB false [iv,iw]) body (cB L) (E [] t t2)=some (.nx,E (cB (L.filter R)) t' SE)/\iB t'=true/\iB SE=true:=by
 have key:∀(M:List (List Int)) (rA:List (List Int)) (t t2:Sl),(∀is∈M,is∈L)->rA.length+M.length<=2000->iB t=true->iB t2=true->∃t' SE,RC (oB false [iv,iw]) body (cB M) (E (cB rA) t t2)=some (.nx,E (cB (rA++M.filter R)) t' SE)/\iB t'=true/\iB SE=true:=by
  intro M
  induction M with
  |nil=>intro rA t t2 _ _ h1 h2;exact⟨t,t2,by simp[cB,RC],h1,h2⟩
  |cons is M ih =>
   intro rA t t2 hM hl h1 h2;obtain⟨v,w,rfl⟩:=hp is (hM is (by simp));have e1:cB ([(v:Int),(w:Int)]::M)=.t [.int v,.int w]::cB M:=rfl;have iH:rA.length+M.length+1<=2000:=by simpa[fZ] using hl
   rw[e1];simp only[RC,hb _ _ _ _ _ h1 h2,hs rA v w (hM _ (by simp)) (by lia)]
   obtain⟨t',SE,e,h3,h4⟩:=ih (rA++(if R [(v:Int),(w:Int)]=true then [[(v:Int),(w:Int)]] else [])) (.i v) (.i w) (λis h=>hM is (fD _ h)) (by
    rw[oC];split
    ·simp only[QC,wH];lia
    ·simp only[wH];lia) rfl rfl
   refine⟨t',SE, ?_,h3,h4⟩;rw[e,List.filter_cons];by_cases q:R [(v:Int),(w:Int)]=true
   ·simp[q]
   ·simp[q]
 obtain⟨t',SE,e,h⟩:=key L [] t t2 (λ_ h=>h) (by simp;lia) ht fJ;exact⟨t',SE,by simpa[cB] using e,h⟩
def Pp(x:bA):Prop:=x="like"\/x="against"\/x="aside"\/x="any"
def jT(x:bA)(a b:Int):Bool:=if x==("like":bA) then decide (0<a*b) else if x==("against":bA) then decide (a*b<0) else if x==("aside":bA) then !(decide (a=0)==decide (b=0)) else true
def fY:((wA "against")==(wA "like"))=false:=by decide +kernel
def jY:((wA "aside")==(wA "like"))=false:=by decide +kernel
def kY:((wA "any")==(wA "like"))=false:=by decide +kernel
def lY:((wA "aside")==(wA "against"))=false:=by decide +kernel
def mY:((wA "any")==(wA "against"))=false:=by decide +kernel
def nY:((wA "any")==(wA "aside"))=false:=by decide +kernel
def oY:((wA "like")==(wA "any"))=false:=by decide +kernel
def pY:((wA "like")==(wA "aside"))=false:=by decide +kernel
def qY:((wA "against")==(wA "any"))=false:=by decide +kernel
def gY:((wA "against")==(wA "aside"))=false:=by decide +kernel
def iY:((wA "aside")==(wA "any"))=false:=by decide +kernel
def sKa(hx:Pp x)(h1:-18446744073709551616<a)(h2:a<18446744073709551616):"A"|||n+1|||[.s x,.i a,.i b]|||.b (jT x a b):=by
 exists R4
 unfold jT;rcases hx with rfl | rfl | rfl | rfl
 ·walk_at "!fY jY kY lY mY nY oY pY qY gY iY vR iZ pZ qZ"
 ·walk_at "!fY jY kY lY mY nY oY pY qY gY iY vR iZ pZ qZ"
 ·walk_at "!fY jY kY lY mY nY oY pY qY gY iY vR iZ pZ qZ"
 ·walk_at "!fY jY kY lY mY nY oY pY qY gY iY vR iZ pZ qZ"
def XW(one other oc:Int)(x:bA)(ah hs:List D)(v w:Nat):Bool :=
 decide (rG oc (xI (ah.getD v .lA)) (xI (ah.getD w .lA))=one)&&decide (rG oc (xI (hs.getD v .lA)) (xI (hs.getD w .lA))=other)&&jT x (xI (hs.getD v .lA)-xI (ah.getD v .lA)) (xI (hs.getD w .lA)-xI (ah.getD w .lA))
def WW(one other oc:Int)(x:bA)(ah hs:List D):List Int->Bool
 |[v,w]=>XW one other oc x ah hs v.toNat w.toNat
 |_=>false
def VW(one other oc:Int)(x:bA)(fs:List (Int×Int×Bool))(xs:List Int)(b:Int):List (List Int):=pG (fs.length+1) (λv w=>KG (QB fs xs (b-1)) v w&&XW one other oc x (QB fs xs (b-1)) (QB fs xs b) v w)
structure GZ(hs ah:List D):Prop where
 h1:GR hs
 h2:GR ah
 len:ah.length=hs.length
 bd:∀v i,hs.getD v .lA=.int i->-100<=i/\i<=100
 tw:∀v i,ah.getD v .lA=.int i->-100<=i/\i<=100
 on:∀v,yM (ah.getD v .lA)=false->yM (hs.getD v .lA)=false
def Vg{fs:List (Int×Int×Bool)}{xs:List Int}{b:Int}{v:Nat}:(∃f∈SF fs,∀b:Int,(QB fs xs b).getD v .lA=yF xs b f)\/∀b:Int,(QB fs xs b).getD v .lA=.lA:=by
 cases h:(SF fs)[v]? with
 |some f=>exact .inl ⟨f,YH h,λb=>W5 h⟩
 |none =>
  refine .inr λb=>?_
  unfold QB;rw[kP,jE,h];rfl
def iDa{no ba oc:Int}{fs:List (Int×Int×Bool)}{xs:List Int}{b:Nat}(ho:ZG no ba oc fs)(wM:∀x∈xs,0<=x/\x<no)(hb:b<xs.length):GZ (QB fs xs (b:Int)) (QB fs xs ((b:Int)-1)):=by
 have n2:=ho.n2
 have hv:∀f∈SF fs,0<=f.1/\-12<=f.2.1/\f.2.1<=12:=λf hf=>by
  rcases wD.mp hf with rfl | hf
  ·decide
  ·have:=ho.f f hf
   omega
 have bd:∀(c:Int) v i,(QB fs xs c).getD v .lA=.int i->-100<=i/\i<=100:=λc v i h=>by
  rcases Vg (fs:=fs) (xs:=xs) (b:=c) (v:=v) with ⟨f,hf,e⟩ | e
  ·rw[e c] at h;unfold yF at h;split at h
   ·rename_i hc;have h:=D.int.inj h
    have hx:xs.getD (c-f.1).toNat 0∈xs:=by
     have AD:(c-f.1).toNat<xs.length:=by omega
     exact QV (k:=(c-f.1).toNat) AD
    have:=wM _ hx
    have:=hv f hf
    split at h<;>omega
   ·cases h
  ·rw[e c] at h;cases h
 refine⟨D6,D6,by rw[gQ,gQ],bd _,bd _,λv h=>?_⟩;rcases Vg (fs:=fs) (xs:=xs) (b:=(b:Int)) (v:=v) with ⟨f,hf,e⟩ | e
 ·rw[e] at h ⊢;unfold yF at h ⊢;split at h
  ·rename_i hc
   have:=hv f hf
   rw[GA (by omega)];rfl
  ·cases h
 ·rw[e] at h;cases h
def hDa(H:GZ hs ah)(hv:v<hs.length)(hw:w<hs.length)(h:KG ah v w=true):∃i1 i2 j1 j2:Int,L2.lC ah (v:Int)=some (.int i1)/\L2.lC ah (w:Int)=some (.int i2)/\L2.lC hs (v:Int)=some (.int j1)/\L2.lC hs (w:Int)=some (.int j2)/\ah.getD v .lA=.int i1/\ah.getD w .lA=.int i2/\hs.getD v .lA=.int j1/\hs.getD w .lA=.int j2/\(-100<=i1/\i1<=100)/\(-100<=j1/\j1<=100):=by
 unfold KG at h;rw[WA] at h;obtain⟨d1,a1,g1,k1⟩:=sM H.h2 (by rw[H.len];exact hv);obtain⟨d2,a2,g2,k2⟩:=sM H.h2 (v:=w) (by rw[H.len];exact hw);obtain⟨d3,a3,g3,k3⟩:=sM H.h1 hv;obtain⟨d4,a4,g4,k4⟩:=sM H.h1 hw;have o1:=H.on v (by simpa using h.1);have o2:=H.on w (by simpa using h.2);rw[g1,g2] at h;rw[g3] at o1;rw[g4] at o2;rcases k1 with rfl | ⟨i1,rfl⟩
 ·exact absurd h.1 (by decide)
 rcases k2 with rfl | ⟨i2,rfl⟩
 ·exact absurd h.2 (by decide)
 rcases k3 with rfl | ⟨j1,rfl⟩
 ·exact absurd o1 (by decide)
 rcases k4 with rfl | ⟨j2,rfl⟩
 ·exact absurd o2 (by decide)
 exact⟨i1,i2,j1,j2,a1,a2,a3,a4,g1,g2,g3,g4,H.tw v i1 g1,H.bd v j1 g3⟩
def eMa(hl:fs.length<=20)(pL:0<oc)(hx:Pp x)(H:GZ (QB fs xs b) (QB fs xs (b-1))) :
  "Q"|||n+4|||[.sh (.ins "Never" ["one","other","way"] [.int one,.int other,.str x]),.sh (uA no ba oc fs rs),.p (.l (xs.map D.int)),.i b]|||.ow (.l (cB (VW one other oc x fs xs b))):=by
 exists A4
 have hc1:run T W (n+3) "c" _=some (.ok (.ow (.l (QB fs xs (b-1)))),_):=qV (no:=no) (ba:=ba) (oc:=oc) (fs:=fs) (rs:=rs) (xs:=xs) (b:=b-1) (by lia);have iG:run T W (n+3) "c" _=some (.ok (.ow (.l (QB fs xs b))),_):=qV (W:=W) (n:=n) (no:=no) (ba:=ba) (oc:=oc) (fs:=fs) (rs:=rs) (xs:=xs) (b:=b) (by lia);have PH:=gQ (fs:=fs) (xs:=xs) (b:=b-1);have nh:=gQ (fs:=fs) (xs:=xs) (b:=b);have kH:=An (W:=W) (n:=n+2) H.h2 (by lia);rw[PH] at kH
 have hB:VW one other oc x fs xs b=(pG (fs.length+1) (KG (QB fs xs (b-1)))).filter (WW one other oc x (QB fs xs (b-1)) (QB fs xs b)):=by(unfold VW;rw[jg (Q:=XW one other oc x (QB fs xs (b-1)) (QB fs xs b))];intro v w;rfl)
 generalize QB fs xs b=hs at *
 generalize QB fs xs (b-1)=ah at *
 obtain⟨L,hL⟩:∃L,L=pG (fs.length+1) (KG ah):=⟨_,rfl⟩
 have fL:∀is∈L,∃v w:Nat,is=[(v:Int),(w:Int)]/\v<hs.length/\w<hs.length/\KG ah v w=true:=λis nL=>by(rw[hL] at nL;obtain⟨v,w,h1,h2,h3,_,h4⟩:=dk nL;exact⟨v,w,h1,by lia,by lia,h4⟩)
 have QN:L.length<=1000:=by rw[hL];exact oX (by lia)
 rw[<- hL] at kH hB;have mI:aAb .of [.val (.ow (.l (cB L)))] [.sh (.ins "Never" ["one","other","way"] [.int one,.int other,.str x]),.sh (uA no ba oc fs rs),.p (.l (xs.map D.int)),.i b,.i oc,.o (.l ah),.o (.l hs),.o (.l []),.un,.un]=some (cB L,none):=uQ rfl
 obtain⟨t8,t9,e,h8,h9⟩:=gIa (iv:=8) (iw:=9) (body:=IA T.aA (run T W (n+3)) W P0) (λa t t2=>[.sh (.ins "Never" ["one","other","way"] [.int one,.int other,.str x]),.sh (uA no ba oc fs rs),.p (.l (xs.map D.int)),.i b,.i oc,.o (.l ah),.o (.l hs),.o (.l a),t,t2]) (WW one other oc x ah hs) L QN
  (λa t t2 d d2 ht fJ=>by simp only[kE,FD ht,FD fJ])
  (λis nL=>by obtain⟨v,w,h,_⟩:=fL is nL;exact⟨v,w,h⟩)
  (λa v w hm gL=>by
   obtain⟨v',w',h1,hv,hw,zh⟩:=fL _ hm;have hvv:v'=v:=by have:=(qd h1).1;lia
   have hww:w'=w:=by have:=(qd (qd h1).2).1;lia
   subst hvv hww;obtain⟨i1,i2,j1,j2,a1,a2,a3,a4,g1,g2,g3,g4,q1,q2⟩:=hDa H hv hw zh;have IG:GB ((cB a).length+1)=true:=QE (by rw[CO];lia);have et:cB (a++[[(v':Int),(w':Int)]])=cB a++[.t [.int v',.int w']]:=by rw[Cp];rfl
   have en:WW one other oc x ah hs [(v':Int),(w':Int)]=(decide (rG oc i1 i2=one)&&decide (rG oc j1 j2=other)&&jT x (j1-i1) (j2-i2)):=by(unfold WW XW;simp only[EK,g1,g2,g3,g4];rfl)
   have hmv:=sKa (W:=W) (n:=n+2) (a:=j1-i1) (b:=j2-i2) hx (by lia) (by lia);rw[en];unfold P0;clear h1 hv hw zh hm gL fL QN mI hB hL kH hc1 iG PH nh H g1 g2 g3 g4 q1 q2 hl en hx;by_cases c1:rG oc i1 i2=one
   ·have EN:decide (rG oc i1 i2=one)=true:=jC c1;by_cases c2:rG oc j1 j2=other
    ·have TK:decide (rG oc j1 j2=other)=true:=jC c2;rw[EN,TK,aP,aP]
     generalize jT x (j1-i1) (j2-i2)=q at *
     clear c1 c2;cases q
     ·walk_at "!nS oS pS kK"
      all_goals (try simp only[JC])
     ·walk_at "!nS oS pS kK"
    ·have TK:decide (rG oc j1 j2=other)=false:=WB c2;rw[EN,TK,aP,uR];clear c1 c2
     walk_at "!nS oS pS kK"
     all_goals (try simp only[JC])
   ·have EN:decide (rG oc i1 i2=one)=false:=WB c1;rw[EN,uR,uR];clear c1
    walk_at "!nS oS pS kK"
    all_goals (try simp only[JC])) .un .un rfl rfl
 rw[hB];clear hl h8 h9 hB fL QN hL PH nh H hx
 walk_at "!nS oS pS kK"
def xVa:"d"|||n+1|||[.sh (.t [.str "never",a,b,c])]|||.sh (.ins "Never" ["one","other","way"] [a,b,c]):=by
 exists cL
 walk_at "!xO"
noncomputable def mx(m y:Int):Int:=if y > m then y else m
theorem SW:(if y > m then y else m)=mx m y:=rfl
def jJ(fs:List (Int×Int×Bool)):Int:=(fs.map λf=>1+f.1).foldl mx 3
def Ej:List (Int×Int×Bool)->Int
 |[]=>0
 |f::r=>(r.map λf=>f.1).foldl mx f.1
theorem Yj:∀(l:List (Int×Int×Bool)) (a c:Int),(l.map λf=>1+f.1).foldl mx (mx c (1+a))=mx c (1+(l.map λf=>f.1).foldl mx a)
 |[],_,_=>rfl
 |f::l,a,c=>by
  have h:mx (mx c (1+a)) (1+f.1)=mx c (1+mx a f.1):=by
   unfold mx
   split<;>split<;>split<;>first | lia | (split<;>lia)
  rw[KC,eN,h,Yj l (mx a f.1) c,KC,eN]
def lKa(h:1<=fs.length):mx 3 (1+Ej fs)=jJ fs:=by
 match fs,h with
 |f::r,_=>exact(Yj r f.1 3).symm
theorem Zj:∀(l:List Int) (a:Int),a<=l.foldl mx a
 |[],a=>Int.le_refl a
 |b::l,a=>zd (by unfold mx;split<;>lia) (Zj l (mx a b))
theorem ak:∀(l:List Int) (a:Int),a<=b->(∀x∈l,x<=b)->l.foldl mx a<=b
 |[],_,h,_=>h
 |x::l,a,h,hl=>ak l (mx a x) (by have:=hl x (qE ..);unfold mx;split<;>lia) λy hy=>hl y (fD _ hy)
def kKa(h:ZG no ba oc fs):∃m:Nat,jJ fs=(m:Int)/\3<=m/\m<=5:=by
 have h1:3<=jJ fs:=Zj _ _
 have h2:jJ fs<=5:=ak _ _ (by decide) λx hx=>by
  obtain⟨f,hf,rfl⟩:=EF.mp hx
  have:=(h.f f hf).2.1
  lia
 exact⟨(jJ fs).toNat,by lia,by lia,by lia⟩
def H_:WE .max [.l ((a::l).map D.int)]=some (.i (l.foldl mx a)):=by
 show(match IE ((a::l).map D.int) with
  |some (i::r)=>some (RV.sh (.int (r.foldl (λm y=>if y > m then y else m) i)))
  |_=>none)=_
 rw[aAD];rfl
def ek(h1:1<=fs.length)(h3:fs.length<=3) :
  "t"|||n+1|||[.sh (uA no ba oc fs rs)]|||.i (jJ fs):=by
 exists Q4
 have hi:aAb .of [.val (.sh (.t (fs.map toD)))] [.sh (uA no ba oc fs rs)]=some (fs.map toD,none):=G7 rfl
 obtain⟨rA,Ui,e,⟨t1,rfl,uM,rfl⟩,_⟩:=BP (tests:=cD T.aA (run T W n) []) (HA:=ev T.aA (run T W n) false O2) (bind:=oB true [1]) (ds:=fs.map toD)
  (λj rA U=>∃(t1:Sl),U=[.un,t1]/\iB t1=true/\rA=((fs.take j).map λf=>f.1).map D.int)
  (λj d hd rA U hU=>by
   obtain⟨t1,rfl,uM,rfl⟩:=hU;obtain⟨f,hf,rfl⟩:∃f,fs[j]?=some f/\toD f=d:=by simpa using hd
   refine⟨_,true,_,by simp only[kE,FD uM]<;>rfl,kS,λ_=>?_,λz=>nomatch z⟩;refine⟨.i f.1,[.un,.sh (toD f)], ?_,_,rfl,rfl, ?_⟩
   ·unfold O2 toD
    walk_at "!EA SW"
   ·rw[EU,hf,CF,CF]
    rfl)
  [] [.un,.un] ⟨_,rfl,rfl,rfl⟩
 have ht:fs.take (fs.map toD).length=fs:=by(rw[KO];simp)
 rw[ht] at e;have IG:GB ((fs.map λf=>f.1).map D.int).length=true:=QE (by simp;lia);have tW:GB fs.length=true:=QE (by lia)
 have hmx:WE .max [.l ((fs.map λf=>f.1).map D.int)]=some (.i (Ej fs)):=by
  match fs,h1 with
  |f::r,_=>exact H_
 have hml:=lKa h1
 walk_at "!EA SW"
 rw[aK hi]
 walk_at "!EA SW"
 all_goals (rw[LN rfl];walk_at "!EA SW")
def qJ(m ba n:Int):Int:=if n<=m then n else m+(n-m) % ba
noncomputable def AO(m:Nat)(xs:List Int):List Int:=xs.drop (xs.length-m)
def y0a(h:n<=m):qJ m ba n=n:=GA h
def b1a(h:¬n<=m):qJ m ba n=m+(n-m) % ba:=LA h
def x0a(h0:0<=n)(hm:3<=m)(hb:1<=ba):0<=qJ m ba n/\qJ m ba n<=m+ba-1:=by
 unfold qJ;split
 ·lia
 ·have a:=tR (n-m) (b:=ba) (by lia);have b:=OY (n-m) (b:=ba) (by lia)
  lia
def g0a(hb:1<=ba):((AO m xs).length:Int)=if(m:Int)<qJ m ba xs.length then(m:Int) else qJ m ba xs.length:=by
 unfold AO;rw[mR];unfold qJ;by_cases h:(xs.length:Int)<=(m:Int)
 ·rw[GA h,LA (by omega)];omega
 ·rw[LA h];have a:=tR ((xs.length:Int)-m) (b:=ba) (by omega)
  split<;>omega
def f0a(h:x∈AO m xs):x∈xs:=List.mem_of_mem_drop h
def Ep(ho:ZG no ba oc fs)(hm:jJ fs=(m:Int)) :
  "C"|||n+2|||[.sh (uA no ba oc fs rs),.i k]|||.i (qJ m ba k):=by
 exists x5
 have r6:=ek (W:=W) (n:=n) (no:=no) (ba:=ba) (oc:=oc) (rs:=rs) ho.l1 ho.l2;rw[hm] at r6;have g1:0<ba:=by have:=ho.b1;lia
 have g2:ba<100000000000000000000000000000000000000000000000000000000000000000000000000000000:=by have:=ho.b2;lia
 by_cases c:k<=(m:Int)
 ·have c':decide (k<=(m:Int))=true:=jC c;rw[y0a c]
  walk_at "!"
 ·have c':decide (k<=(m:Int))=false:=WB c;rw[b1a c]
  walk_at "!"
def qy{m:Nat}(h:1<=m):BL (some (.l (xs.map D.int))) (some (.int (-(m:Int)))) none=some (.ow (.l ((AO m xs).map D.int))):=by
 show some (RV.ow (.l (aAz (xs.map D.int) (some (-(m:Int))) none)))=_;unfold aAz AO
 have e:HT.fB (xs.map D.int).length 0 (some (-(m:Int)))=xs.length-m:=by
  unfold HT.fB;rw[EA];show(if -(m:Int)<0 then _ else _)=_;rw[GA (by lia)]
  lia
 rw[e,HT.L9,EA,<- ot,<- md,KO (by rw[mR];lia)]
def qa(m:Nat)(ba:Int)(xs:List Int):D:=.t [.int (qJ m ba xs.length),.t ((AO m xs).map D.int)]
def rYa{m:Nat}{xs:List Int}(ho:ZG no ba oc fs)(hm:jJ fs=(m:Int))(h3:3<=m) :
  "D"|||n+3|||[.sh (uA no ba oc fs rs),.p (.l (xs.map D.int))]|||.sh (qa m ba xs):=by
 exists l5
 unfold qa;have r6:=ek (W:=W) (n:=n+1) (no:=no) (ba:=ba) (oc:=oc) (rs:=rs) ho.l1 ho.l2;rw[hm] at r6;have htu:=Ep (W:=W) (n:=n) (rs:=rs) (k:=(xs.length:Int)) ho hm;have hs:=qy (xs:=xs) (m:=m) (by lia);clear ho hm h3
 walk_at "!Ep EA"
abbrev Br:=List Int->Nat->List (List Int)
abbrev RP:=D×D×Br
def M9(o h:D)(xs:List Int)(b:Nat):List Sl:=[.sh o,.sh h,.p (.l (xs.map D.int)),.i b]
structure RX(no ba oc:Int)(fs:List (Int×Int×Bool))(rs:List D)(m:Nat)(p:RP):Prop where
 ob:∃c ns ds f q,p.2.1=.ins c ns ds/\JG c ns "broken" pJ=some f/\T.aA f=[true,true,true,q] /\
  ∀(W n:Nat) (xs:List Int) (b:Nat),b<xs.length->(∀x∈xs,0<=x/\x<no)->run T W (n+4) f (M9 (.ins c ns ds) (uA no ba oc fs rs) xs b)=some (.ok (.ow (.l (cB (p.2.2 xs b)))),M9 (.ins c ns ds) (uA no ba oc fs rs) xs b)
 ru:∀(W n:Nat),"d"|||n+1|||[.sh p.1]|||.sh p.2.1
 inn:∀xs b is,is∈p.2.2 xs b->is.length<=1000
 len:∀xs b,(p.2.2 xs b).length<=1000
section
variable{no ba oc:Int}{fs:List (Int×Int×Bool)}{rs:List D}{m:Nat}
theorem mWa(ho:ZG no ba oc fs)(h3':0<=b):RX no ba oc fs rs m (.t [.str "span",.int a,.int b],.ins "Span" ["beat","spans"] [.int a,.int b],λxs b'=>oJ a b ba oc fs xs (b':Int)):=by
 have l2:=ho.l2;have o1:=ho.o1;have o2:=ho.o2;have b1:=ho.b1;have KW:fs.length<=20:=by lia
 exact⟨⟨_,_,_,_,true,rfl,aLa,Au,λW n xs b' _ _=>fYa KW h3' (by lia) (by lia)⟩,λW n=>zVa,λxs b is h=>dYa h,λxs b'=>eYa KW⟩
def jWa:RX no ba oc fs rs m (.t [.str "leap",.int a],.ins "Leap" ["most"] [.int a],λxs b'=>ME (yQ a xs b')) :=
 ⟨⟨_,_,_,_,false,rfl,xKa,wu,λW n xs b' hb _=>eJa (n:=n+3) hb⟩,λW n=>wVa,λxs b is h=>V8 h,λxs b'=>W8⟩
theorem iWa(ho:ZG no ba oc fs):RX no ba oc fs rs m (.t [.str "back",.int a,.int b],.ins "Back" ["leap","most"] [.int a,.int b],λxs b'=>ME (NK a b xs b')):=by
 have n2:=ho.n2;exact⟨⟨_,_,_,_,false,rfl,wKa,eu,λW n xs b' hb hx=>jw (n:=n+3) hb λx BS=>⟨(hx x BS).1,by have:=(hx x BS).2;lia⟩⟩,λW n=>vVa,λxs b is h=>V8 h,λxs b'=>W8⟩
theorem hWa{k:Nat}(h2:k<=3):RX no ba oc fs rs m (.t [.str "again",.int k],.ins "Again" ["most"] [.int k],λxs b'=>ME (iM k xs b')) :=
 ⟨⟨_,_,_,_,false,rfl,vKa,du,λW n xs b' hb _=>Av (n:=n+3) hb (by lia)⟩,λW n=>uVa,λxs b is h=>V8 h,λxs b'=>W8⟩
theorem lWa(ho:ZG no ba oc fs):RX no ba oc fs rs m (.t [.str "range",.int a,.int b],.ins "Range" ["low","high"] [.int a,.int b],λxs b'=>JT a b fs xs (b':Int)):=by
 have l2:=ho.l2;have l9:fs.length<=900:=by lia
 exact⟨⟨_,_,_,_,true,rfl,zKa,yu,λW n xs b' _ _=>dVa l9⟩,λW n=>yVa,λxs b is h=>vOa h,λxs b'=>Sk (by lia)⟩
theorem gWa{v w:Nat}(h1:(v:Int)<=fs.length)(h2:(w:Int)<=fs.length):RX no ba oc fs rs m (.t [.str "above",.int v,.int w],.ins "Above" ["one","other"] [.int v,.int w],λxs b'=>YZ fs xs (b':Int) v w) :=
 ⟨⟨_,_,_,_,true,rfl,uKa,cu,λW n xs b' _ _=>vv (n:=n+1) (by lia) (by lia)⟩,λW n=>tVa,λxs b is h=>e1a h,λxs b'=>f1a⟩
theorem kWa{a b:Int}{x:bA}(ho:ZG no ba oc fs)(h5:x="like"\/x="against"\/x="aside"\/x="any"):RX no ba oc fs rs m (.t [.str "never",.int a,.int b,.str x],.ins "Never" ["one","other","way"] [.int a,.int b,.str x],λxs b'=>VW a b oc x fs xs (b':Int)):=by
 have l2:=ho.l2;have o1:=ho.o1;have KW:fs.length<=20:=by lia
 exact⟨⟨_,_,_,_,true,rfl,yKa,xu,λW n xs b' hb hx=>eMa KW (by lia) h5 (iDa ho hx hb)⟩,λW n=>xVa,λxs b is h=>ql h,λxs b'=>oX (by lia)⟩
end
def gFa(h:U[i]?=some (.ow (.l ds) p l)):aAb (.enum lo) [.slot i] U=some (eH lo ds,some i):=by(unfold aAb;simp only[h])
section
variable{no ba oc:Int}{fs:List (Int×Int×Bool)}{rs:List D}{m:Nat}{ps:List RP}
theorem bWa(eJ:ps.map (·.1)=rs)(hp:∀p∈ps,RX no ba oc fs rs m p)(hl:rs.length<=8):"B"|||n+2|||[.sh (uA no ba oc fs rs)]|||.ow (.l (ps.map (·.2.1))):=by
 exists Y4
 have iH:ps.length<=8:=by rw[<- eJ,EA] at hl;exact hl
 have hi:aAb .of [.val (.sh (.t rs))] [.sh (uA no ba oc fs rs)]=some (rs,none):=G7 rfl
 obtain⟨rA,Ui,e,⟨t1,rfl,uM,rfl⟩,_⟩:=BP (tests:=cD T.aA (run T W (n+1)) []) (HA:=ev T.aA (run T W (n+1)) false S2) (bind:=oB true [1]) (ds:=rs)
  (λj rA U=>∃(t1:Sl),U=[.un,t1]/\iB t1=true/\rA=(ps.take j).map (·.2.1))
  (λj d hd rA U hU=>by
   obtain⟨t1,rfl,uM,rfl⟩:=hU
   obtain⟨p,XN,rfl⟩:∃p,ps[j]?=some p/\p.1=d:=by
    rw[<- eJ,jE] at hd
    cases q:ps[j]? with
    |none=>rw[q] at hd;cases hd
    |some p=>rw[q] at hd;exact⟨p,rfl,ZD hd⟩
   have hw:=(hp p (YH XN)).ru W n;refine⟨_,true,_,by simp only[kE,FD uM]<;>rfl,kS,λ_=>?_,λz=>nomatch z⟩;refine⟨.sh p.2.1,[.un,.sh p.1], ?_,_,rfl,rfl,by rw[EU,XN,CF];rfl⟩;unfold S2
   walk_at "!")
  [] [.un,.un] ⟨_,rfl,rfl,rfl⟩
 rw[show rs.length=ps.length by rw[<- eJ,EA],SY] at e;have IG:GB (ps.map (·.2.1)).length=true:=QE (by simp;lia)
 walk_at "!"
 rw[aK hi]
 walk_at "!"
 all_goals (rw[LN rfl];walk_at "!")
def iI(ps:List RP)(xs:List Int)(b:Nat):Nat:=(ps.map λp=>(p.2.2 xs b).length).sum
theorem Oe:∀(ps:List RP),(∀p∈ps,(p.2.2 xs b).length<=1000)->iI ps xs b<=1000*ps.length
 |[],_=>by simp[iI]
 |p::ps,h=>by
  have h1:=h p qE;have h2:=Oe ps λq hq=>h q (fD _ hq)
  unfold iI at h2 ⊢;rw[KC,vt,QC]
  lia
theorem jx{b:Nat}(hp:∀p∈ps,RX no ba oc fs rs m p)(hl:ps.length<=8)(hb:b<xs.length)(hx:∀x∈xs,0<=x/\x<no) :
  ∃L:List D,"s"|||n+5|||[.sh (uA no ba oc fs rs),.p (.l (ps.map (·.2.1))),.p (.l (xs.map D.int)),.i b]|||.ow (.l L)/\L.length=iI ps xs b:=by
 exists J4
 have hi:aAb (.enum 0) [.slot 1] [.sh (uA no ba oc fs rs),.p (.l (ps.map (·.2.1))),.p (.l (xs.map D.int)),.i b,.o (.l []),.un,.un,.un]=some (eH 0 (ps.map (·.2.1)),some 1):=gFa rfl
 obtain⟨U1,e1,L,t5,t6,t7,rfl,h5,h6,h7,hL⟩:=fO (bind:=oB false [5,6]) (body:=IA T.aA (run T W (n+4)) W S0)
  (λpre U=>∃(L:List D) (t5 t6 t7:Sl),U=[.sh (uA no ba oc fs rs),.un,.p (.l (xs.map D.int)),.i b,.o (.l L),t5,t6,t7]/\iB t5=true/\iB t6=true/\iB t7=true/\L.length=iI (ps.take pre.length) xs b)
  (ds:=eH 0 (ps.map (·.2.1))) (λpre d post ED U hU=>by
   obtain⟨L,t5,t6,t7,rfl,h5,h6,h7,hL⟩:=hU
   have AB:pre.length<ps.length:=by
    have:=congrArg uJ ED
    rw[FP,EA,oC,QC] at this
    lia
   obtain⟨p,XN⟩:∃p,ps[pre.length]?=some p:=⟨_,gD AB⟩
   have hd:d=.t [.int (0+(pre.length:Int)),p.2.1]:=by(have q:=V2 (lo:=0) (ds:=ps.map (·.2.1)) (i:=pre.length) (d:=p.2.1) (by rw[jE,XN];rfl);rw[ED,zR (mB _),HU] at q;exact ZD q)
   subst hd;refine⟨_,by simp only[kE,FD h5,FD h6]<;>rfl, ?_⟩;have F6:=hp p (YH XN);have jCa:=F6.len xs b;have Sg:=Oe (ps.take pre.length) λq hq=>(hp q (Xb hq)).len xs b
   rw[ZH] at Sg
   have hN:iI (ps.take (pre++[D.t [D.int (0+(pre.length:Int)),p.2.1]]).length) xs b=iI (ps.take pre.length) xs b+(p.2.2 xs b).length:=by(rw[oC,QC,wH,EU,XN];unfold iI;simp)
   rw[hN];obtain⟨c,ns,ds,f,q,ho,hmt,hpi,yh⟩:=F6.ob;have hr:=yh W n xs b hb hx;unfold M9 at hr;rw[ho]
   generalize p.2.2 xs b=Z at *
   have mI:aAb .of [.val (.ow (.l (cB Z)))] [.sh (uA no ba oc fs rs),.un,.p (.l (xs.map D.int)),.i b,.o (.l L),.i (0+(pre.length:Int)),.sh (.ins c ns ds),t7]=some (cB Z,none):=uQ rfl
   obtain⟨U2,e2,L2,PD,rfl,Gg,xS⟩:=fO (bind:=oB true [7]) (body:=IA T.aA (run T W (n+4)) W Q0)
    (λpr U=>∃(L2:List D) (t7:Sl),U=[.sh (uA no ba oc fs rs),.un,.p (.l (xs.map D.int)),.i b,.o (.l L2),.i (0+(pre.length:Int)),.sh (.ins c ns ds),t7]/\iB t7=true/\L2.length=L.length+pr.length)
    (ds:=cB Z) (λpr d po LF U hU=>by
     obtain⟨L2,t7,rfl,h7,xS⟩:=hU;refine⟨_,by simp only[kE,FD h7]<;>rfl, ?_⟩
     have hz:pr.length<=1000:=by
      have:=congrArg uJ LF
      rw[CO,oC] at this
      lia
     have IG:GB (L2.length+1)=true:=QE (by lia);refine⟨[.sh (uA no ba oc fs rs),.un,.p (.l (xs.map D.int)),.i b,.o (.l (L2++[.t [.int b,.int (0+(pre.length:Int)),d]])),.i (0+(pre.length:Int)),.sh (.ins c ns ds),.sh d], ?_,_,_,rfl,rfl,by rw[oC,oC,xS];rfl⟩;unfold Q0;clear hp hl hb hx hi hL AB XN F6 jCa Sg hN ho hmt hpi yh hr mI LF hz xS h5 h6 h7 ED
     walk_at "!")
    (U:=[.sh (uA no ba oc fs rs),.un,.p (.l (xs.map D.int)),.i b,.o (.l L),.i (0+(pre.length:Int)),.sh (.ins c ns ds),t7]) ⟨L,_,rfl,h7,by simp⟩
   rw[CO] at xS;refine⟨[.sh (uA no ba oc fs rs),.un,.p (.l (xs.map D.int)),.i b,.o (.l L2),.i (0+(pre.length:Int)),.sh (.ins c ns ds),PD], ?_,_,_,_,_,rfl,rfl,rfl,Gg,by rw[xS,hL]⟩;unfold S0
   cases q<;>walk_at "!")
  (U:=[.sh (uA no ba oc fs rs),.un,.p (.l (xs.map D.int)),.i b,.o (.l []),.un,.un,.un]) ⟨[],_,_,_,rfl,rfl,rfl,rfl,by simp[iI]⟩
 rw[FP,EA,SY] at hL;refine⟨L, ?_,hL⟩
 walk_at "!"
 simp only[aAg,pU,NY,e1,Run.restore,aAr,EI,zY,EE]
 walk_at "!"
end
section
variable{no ba oc:Int}{fs:List (Int×Int×Bool)}{rs:List D}{m:Nat}{ps:List RP}
def gVa:(LB z [x]).flatten=LB z x:=by
 induction z with
 |zero=>rfl
 |succ z ih=>rw[YM,NO,ih];rfl
noncomputable def zF(z:Nat)(tl:List Int):List Int:=LB z 0++tl
noncomputable def CL(z:Nat)(tl:List Int):D:=.t [.int ((z:Int)+(tl.length:Int)),.t (tl.map D.int)]
theorem qp:(zF z tl).length=z+tl.length:=by unfold zF;simp
theorem Mj(hz:z<=100)(ht:tl.length<=1000):"u"|||n+1|||[.sh (CL z tl)]|||.ow (.l ((zF z tl).map D.int)):=by
 exists P4
 unfold CL;have e0:(z:Int)+(tl.length:Int)-(tl.length:Int)=(z:Int):=by lia
 have e1:uC .Mult (.l [.int 0]) (.int z)=some (.ow (.l (LB z (.int 0)))):=by(rw[dw (by lia) (by lia) (qG (by simp;lia)),EK,gVa])
 have e2:uC .Add (.l (LB z (.int 0))) (.l (tl.map D.int))=some (.ow (.l ((zF z tl).map D.int))):=by(rw[vP (qG (by simp;lia))];unfold zF;rw[CF,List.map_replicate])
 walk_at "!EA"
def ZU:xs.map D.int++[D.int q]=(xs++[q]).map D.int:=by rw[CF];rfl
def lH(ps:List RP)(xs:List Int)(q:Int):Bool:=decide (((iI ps (xs++[q]) xs.length:Nat):Int)=0)
theorem F7{k:Nat}(h:k<=1000):aAb .uD [.val (.i k)] U=some (rg k,none):=by
 refine zZ (ZS (n:=(k:Int)) rfl (by lia) (by lia)) ?_;rw[EK]
noncomputable def kC(k:Nat)(ok:Int->Bool):List Int:=((vC k).filter λ(j:Nat)=>ok (j:Int)).map λ(j:Nat)=>(j:Int)
def W_:((vC k).filter λ(j:Nat)=>ok (j:Int)).map (λ(j:Nat)=>D.int j)=(kC k ok).map D.int:=by unfold kC;rw[JU];rfl
theorem sg(h:x∈kC k ok):0<=x/\x<k:=by
 obtain⟨j,hj,rfl⟩:=EF.mp h
 have:=iN.mp (JL.mp hj).1
 lia
def IV:(kC k ok).length<=k:=by
 unfold kC;rw[EA];exact XC (FY _ _) (by rw[vU];exact mB _)
theorem gMa{k z:Nat}(hk:no=(k:Int))(hk7:k<=7)(eJ:ps.map (·.1)=rs)(hp:∀p∈ps,RX no ba oc fs rs m p)(hl:rs.length<=8)(hz:z<=100)(ht:tl.length<=1000)(hx:∀x∈tl,0<=x/\x<no) :
  "e"|||n+6|||[.sh (uA no ba oc fs rs),.sh (CL z tl)]|||.ow (.l ((kC k (lH ps (zF z tl))).map D.int)):=by
 exists T4
 have iH:ps.length<=8:=by rw[<- eJ,EA] at hl;exact hl
 have h1:=bWa (W:=W) (n:=n+3) eJ hp hl;have h2:=Mj (W:=W) (n:=n+4) hz ht;have hi:∀{U:Env},aAb .uD [.val (.i no)] U=some (rg k,none):=λ{U}=>by rw[hk];exact F7 (by lia)
 have hW:RB (some (uA no ba oc fs rs)) (.int 0)=some (.i no):=rfl
 have XJ:∀x∈zF z tl,0<=x/\x<no\/x=0:=λx hm=>by
  unfold zF at hm;rcases VE.mp hm with h | h
  ·exact .inr (sq h)
  ·exact .inl (hx x h)
 have AB:(zF z tl).length<=1100:=by rw[qp];lia
 generalize zF z tl=ys at *
 obtain⟨Ui,e,t4,rfl,mE⟩:=tV (tests:=cD T.aA (run T W (n+5)) [.FA .Eq (.bif .len [.call "s" [.v 0,.v 2,.zA .Add (.v 1) (.l [.v 4]),.bif .len [.v 1]]]) (.c (.int 0))]) (HA:=ev T.aA (run T W (n+5)) false P2) (bind:=oB true [4]) (ds:=rg k)
  (λj=>lH ps ys (j:Int)) (λj=>.int j) (λU=>∃t4,U=[.sh (uA no ba oc fs rs),.p (.l (ys.map D.int)),.p (.l (ps.map (·.2.1))),.un,t4]/\iB t4=true)
  (λj d hd U hU=>by
   obtain⟨t4,rfl,mE⟩:=hU
   have hj:j<k:=by
    have:=(RD.mp hd).1
    simpa using this
   have LF:d=.int j:=by(rw[jE,ZM hj] at hd;exact(ZD hd).symm)
   subst LF
   have ZV:uC .Add (.l (ys.map D.int)) (.l [.int j])=some (.ow (.l ((ys++[(j:Int)]).map D.int))):=by(rw[vP (qG (by simp;lia)),ZU])
   obtain⟨L,hb,hL⟩:=jx (W:=W) (n:=n) (xs:=ys++[(j:Int)]) (b:=ys.length) hp iH (by simp) (λx hm=>by
    rcases VE.mp hm with h | h
    ·rcases XJ x h with h | h
     ·exact h
     ·subst h;lia
    ·rw[DC.mp h];lia)
   have KA:decide ((L.length:Int)=0)=lH ps ys (j:Int):=by rw[hL];rfl
   refine⟨_,[.sh (uA no ba oc fs rs),.p (.l (ys.map D.int)),.p (.l (ps.map (·.2.1))),.un,.i j],by simp only[kE,FD mE]<;>rfl, ?_,λ_=>⟨.i j,[.sh (uA no ba oc fs rs),.p (.l (ys.map D.int)),.p (.l (ps.map (·.2.1))),.un,.i j], ?_,rfl,.i j,rfl,rfl⟩,λ_=>⟨.i j,rfl,rfl⟩⟩
   ·clear hd hj hL hp hl iH XJ AB h1 h2 hi hW mE eJ hx hk
    walk_at "!EA"
   ·unfold P2;clear hd hj hL hp hl iH XJ AB h1 h2 hi hW mE eJ hx hk ZV hb KA
    walk_at "!EA")
  [.sh (uA no ba oc fs rs),.p (.l (ys.map D.int)),.p (.l (ps.map (·.2.1))),.un,.un] ⟨_,rfl,rfl⟩
 rw[EA,vU,W_] at e;have IG:GB ((kC k (lH ps ys)).map D.int).length=true:=QE (by rw[EA];have:=IV (k:=k) (ok:=lH ps ys);lia);have tW:GB (kC k (lH ps ys)).length=true:=QE (by have:=IV (k:=k) (ok:=lH ps ys);lia);clear hp hl iH XJ AB eJ hx hk mE
 walk_at "!EA"
 rw[aK hi]
 walk_at "!EA"
 all_goals (first | done | (rw[LN rfl];walk_at "!EA"))
theorem Pe:∀(ps:List RP),decide (((iI ps xs b:Nat):Int)=0)=ps.all λp=>(p.2.2 xs b).isEmpty
 |[]=>rfl
 |p::ps=>by(have ih:=Pe (xs:=xs) (b:=b) ps;rw[WC,<- ih];unfold iI;rw[KC,vt,Pc];cases p.2.2 xs b<;>simp<;>lia)
end
def Z6{k:Nat}{q:Int}(h0:0<=q)(hk:q<k):wB .In (.int q) (.l ((kC k ok).map D.int))=some (ok q):=by
 have h1:((kC k ok).map D.int).all CD=true:=by rw[oZ,YF];exact λ_ _=>rfl
 refine(GA (by rw[h1];rfl)).trans ?_;congr 1;unfold inD;rw[Bt,Pc,Fs];constructor
 ·rintro⟨y,hy,e⟩
  obtain⟨j,hj,rfl⟩:=EF.mp hy;have i6:=(JL.mp hj).2;have e:pF (.int j) (.int q)=true:=e;have e:=EC (show((_:Int)==q)=true from e);rw[<- e];exact i6
 ·intro h;refine⟨q,EF.mpr ⟨q.toNat,JL.mpr ⟨iN.mpr (by lia),by rw[MO h0];exact h⟩,MO h0⟩, ?_⟩;show pF (.int q) (.int q)=true;exact beq_self_eq_true q
section
variable{no ba oc:Int}{fs:List (Int×Int×Bool)}{rs:List D}{m:Nat}{ps:List RP}
theorem uw(ho:ZG no ba oc fs)(hm:jJ fs=(m:Int))(h3:3<=m)(hz:z<=100)(ht:tl.length<=1000) :
  "g"|||n+4|||[.sh (uA no ba oc fs rs),.sh (CL z tl),.i q]|||.sh (qa m ba (zF z tl++[q])):=by
 exists F4
 have h1:=Mj (W:=W) (n:=n+2) hz ht
 have ZV:uC .Add (.l ((zF z tl).map D.int)) (.l [.int q])=some (.ow (.l ((zF z tl++[q]).map D.int))):=by(rw[vP (qG (by simp[qp];lia)),ZU])
 have h2:=rYa (W:=W) (n:=n) (rs:=rs) (xs:=zF z tl++[q]) ho hm h3
 generalize zF z tl++[q]=zs at *
 walk_at "!EA"
end
section
variable{no:Int}
def In(no:Int)(xs:List Int):Prop:=∀x∈xs,0<=x/\x<no
def In.app(h:In no xs)(k:In no ys):In no (xs++ys):=λx hx=>(VE.mp hx).elim (h x) (k x)
def In.one(h:0<=q/\q<no):In no [q]:=λx hx=>by rw[DC.mp hx];exact h
theorem Wt(h:In no tl)(h1:1<=no):In no (zF z tl):=λx hx=>by
 unfold zF at hx;rcases VE.mp hx with hx | hx
 ·rw[sq hx];lia
 ·exact h x hx
end
theorem Vj{bind:D->Env->Option Env}(Q:RV->Env->Prop)(I:Nat->Env->Prop):∀(ds:List D) (j:Nat),(∀i d U,ds[i]?=some d->I (j+i) U->∃U1,bind d U=some U1/\∃U2,(body U1=some (.nx,U2)/\I (j+i+1) U2)\/∃v,body U1=some (.rt v,U2)/\Q v U2)->∀U,I j U->∃U',(RC bind body ds U=some (.nx,U')/\I (j+ds.length) U')\/∃v,RC bind body ds U=some (.rt v,U')/\Q v U'
 |[],j,h,U,hU=>⟨U,.inl ⟨rfl,hU⟩⟩
 |d::ds,j,h,U,hU=>by
  obtain⟨U1,e1,U2,⟨e2,h2⟩ | ⟨v,e2,h2⟩⟩:=h 0 d U rfl hU
  ·obtain⟨U',h3⟩:=Vj Q I ds (j+1) (λi d U hd hi=>by
    have:=h (i+1) d U hd (by rw[<- fZ,Ar];exact hi)
    rw[<- fZ,Ar j i 1] at this
    exact this) U2 h2
   refine⟨U', ?_⟩;rw[QC,show j+(ds.length+1)=j+1+ds.length by lia];simp only[RC,e1,e2];exact h3
  ·exact⟨U2,.inr ⟨v,by simp only[RC,e1,e2],h2⟩⟩
structure VK(no ba:Int)(m:Nat)(k:L2.aB):Prop where
 t0:0<=k.1
 t1:k.1<=(m:Int)+ba-1
 tl:(k.2.length:Int)=if(m:Int)<k.1 then(m:Int) else k.1
 xs:In no k.2
def sI(k:L2.aB):List Int:=zF (k.1-k.2.length).toNat k.2
def NX(m:Nat)(ba:Int)(xs:List Int):L2.aB:=(qJ m ba xs.length,AO m xs)
section
variable{no ba oc:Int}{fs:List (Int×Int×Bool)}{rs:List D}{m kn:Nat}{ps:List RP}{k:L2.aB}
theorem VK.le(h:VK no ba m k):(k.2.length:Int)<=k.1:=by
 have:=h.tl
 split at this<;>lia
theorem VK.st(h:VK no ba m k):YC k=CL (k.1-k.2.length).toNat k.2:=by
 have:=h.le
 unfold YC CL;rw[MO (by lia),Int.sub_add_cancel]
structure HK(no ba oc:Int)(fs:List (Int×Int×Bool))(rs:List D)(m kn:Nat)(ps:List RP):Prop where
 ho:ZG no ba oc fs
 hm:jJ fs=(m:Int)
 h3:3<=m
 h5:m<=5
 hk:no=(kn:Int)
 eJ:ps.map (·.1)=rs
 hp:∀p∈ps,RX no ba oc fs rs m p
 hl:rs.length<=8
theorem HK.z(H:HK no ba oc fs rs m kn ps)(h:VK no ba m k):(k.1-k.2.length).toNat<=100/\k.2.length<=1000:=by
 have:=h.t1;have:=h.le;have:=H.h5;have:=H.ho.b2
 lia
theorem HK.k7(H:HK no ba oc fs rs m kn ps):kn<=7:=by have:=H.ho.n2;have:=H.hk;lia
def HK.line(H:HK no ba oc fs rs m kn ps)(h:VK no ba m k):In no (sI k):=Wt h.xs H.ho.n1
theorem HK.next(H:HK no ba oc fs rs m kn ps)(h:In no xs):VK no ba m (NX m ba xs):=by
 have b1:=H.ho.b1;have h3:=H.h3;have tb:=x0a (m:=(m:Int)) (ba:=ba) (n:=(xs.length:Int)) (by lia) (by lia) b1;exact⟨tb.1,tb.2,g0a b1,λx hx=>h x (f0a hx)⟩
def HD(hA:D)(no ba:Int)(m kn:Nat)(ps:List RP):Prop:=∃oc fs rs,hA=uA no ba oc fs rs/\HK no ba oc fs rs m kn ps
theorem HD.i0(H:HD hA no ba m kn ps):RB (some hA) (.int 0)=some (.i no):=by obtain⟨_,_,_,rfl,_⟩:=H;rfl
theorem HD.k7(H:HD hA no ba m kn ps):kn<=7:=by obtain⟨_,_,_,rfl,H⟩:=H;exact H.k7
theorem HD.hk(H:HD hA no ba m kn ps):no=(kn:Int):=by obtain⟨_,_,_,rfl,H⟩:=H;exact H.hk
theorem HD.line(H:HD hA no ba m kn ps)(h:VK no ba m k):In no (sI k):=by obtain⟨_,_,_,rfl,H⟩:=H;exact H.line h
theorem HD.next(H:HD hA no ba m kn ps)(h:In no xs):VK no ba m (NX m ba xs):=by obtain⟨_,_,_,rfl,H⟩:=H;exact H.next h
def B5(kn:Nat)(ps:List RP)(k:L2.aB):List Int:=kC kn (lH ps (sI k))
def ZW{W n:Nat}(H:HD hA no ba m kn ps)(h:VK no ba m k):"e"|||n+6|||[.sh hA,.sh (YC k)]|||.ow (.l ((B5 kn ps k).map D.int)):=by
 obtain⟨oc,fs,rs,rfl,H⟩:=H;rw[h.st];exact gMa H.hk H.k7 H.eJ H.hp H.hl (H.z h).1 (H.z h).2 h.xs
def Fe(H:HD hA no ba m kn ps)(h:VK no ba m k):"g"|||n+4|||[.sh hA,.sh (YC k),.i q]|||.sh (YC (NX m ba (sI k++[q]))):=by
 obtain⟨oc,fs,rs,rfl,H⟩:=H;rw[h.st];exact uw H.ho H.hm H.h3 (H.z h).1 (H.z h).2
end
def slt(u v:List Int):Prop:=u.length<v.length\/(u.length=v.length/\HT.aAj u v=true)
def sle(u v:List Int):Prop:=u=v\/slt u v
theorem Jj:∀{u v:List Int},u.length=v.length->HT.aAj u v=true->HT.aAj (u++x) (v++y)=true
 |[],[],_,h=>nomatch h
 |a::u,b::v,hl,h=>by
  rw[UO,UO,HT.EM];rw[HT.EM] at h;by_cases e:a=b
  ·rw[GA e] at h ⊢;exact Jj (mZ hl) h
  ·rw[LA e] at h ⊢;exact h
theorem Lj(h:a<b):∀u:List Int,HT.aAj (u++[a]) (u++[b])=true
 |[]=>by
  show HT.aAj [a] [b]=true;rw[HT.EM,LA (by lia)];exact jC h
 |x::u=>by(rw[UO,UO,HT.EM,GA rfl];exact Lj h u)
def S9(h:slt u v)(k:slt v w):slt u w:=by
 rcases h with h | ⟨h1,h2⟩<;>rcases k with k | ⟨k1,k2⟩
 ·exact .inl (by lia)
 ·exact .inl (by lia)
 ·exact .inl (by lia)
 ·exact .inr ⟨h1.trans k1,CS.K8 _ _ _ h2 k2⟩
def EX(h:slt u v):slt (u++[a]) (v++[b]):=by
 unfold slt;rw[oC,oC,oN,oN];rcases h with h | ⟨h1,h2⟩
 ·exact .inl (by lia)
 ·exact .inr ⟨by lia,Jj h1 h2⟩
def xn(h:a<b):slt (u++[a]) (u++[b]):=.inr ⟨by rw[oC,oC];rfl,Lj h u⟩
def T9(h:u.length<=v.length):slt u (v++[a]):=.inl (by rw[oC,oN];lia)
def rXa(h:sle u v):sle (u++[a]) (v++[a]):=by
 rcases h with rfl | h
 ·exact .inl rfl
 ·exact .inr (EX h)
def sXa(h:sle u v)(k:sle v w):sle u w:=by
 rcases h with rfl | h
 ·exact k
 ·rcases k with rfl | k
  ·exact .inr h
  ·exact .inr (S9 h k)
section
variable{S:Type}[DecidableEq S]{kB:S->List Int}{nx:S->Int->S}{s0:S}
abbrev MC(S:Type):=List (S×List Int)
def dQ(L:MC S)(k:S):Bool:=L.any λe=>decide (e.1=k)
def sQ(nx:S->Int->S)(f:S×List Int)(L:MC S)(q:Int):MC S:=if dQ L (nx f.1 q) then L else L++[(nx f.1 q,f.2++[q])]
def oO(kB:S->List Int)(nx:S->Int->S)(L:MC S)(f:S×List Int):MC S:=(kB f.1).foldl (sQ nx f) L
def SK(kB:S->List Int)(nx:S->Int->S):Nat->MC S->MC S->Option (MC S)
 | 0,_,_=>none
 |n+1,L,B=>if B.isEmpty then some L else if 150<(B.foldl (oO kB nx) L).length then none else SK kB nx n (B.foldl (oO kB nx) L) ((B.foldl (oO kB nx) L).drop L.length)
def NG(kB:S->List Int)(nx:S->Int->S):S->List Int->Option S
 |s,[]=>some s
 |s,q::r=>if q∈kB s then NG kB nx (nx s q) r else none
theorem Ab:∀{u:List Int} {s:S},NG kB nx s (u++[q])=(NG kB nx s u).bind λk=>if q∈kB k then some (nx k q) else none
 |[],s=>rfl
 |a::u,s=>by
  rw[UO];unfold NG;split
  ·exact Ab
  ·rfl
def gBa{L:MC S}(h:dQ L k=false)(he:e∈L):e.1≠k:=λz=>by
 have:=Dr.mp h e he
 exact this (jC z)
structure BI(kB:S->List Int)(nx:S->Int->S)(s0:S)(A B:MC S):Prop where
 W9:(A++B).Pairwise λx y=>slt x.2 y.2
 wk:∀e∈A++B,NG kB nx s0 e.2=some e.1
 hd:(s0,[])∈A++B
 nd:((A++B).map (·.1)).Nodup
 cl:∀e∈A,∀q∈kB e.1,∃e'∈A++B,e'.1=nx e.1 q/\sle e'.2 (e.2++[q])
 bd:∀e∈A++B,∀f∈B,∀q,slt e.2 (f.2++[q])
theorem v9{f:S×List Int}(hf:f∈A++f::B)(hw:NG kB nx s0 f.2=some f.1):∀(qs dn:List Int) (N:MC S),(∀q∈qs,q∈kB f.1)->qs.Pairwise (·<·) ->
  ((A++f::B)++N).Pairwise (λx y=>slt x.2 y.2)->(∀e∈(A++f::B)++N,NG kB nx s0 e.2=some e.1)->(((A++f::B)++N).map (·.1)).Nodup ->
  (∀q∈dn,∃e'∈(A++f::B)++N,e'.1=nx f.1 q/\sle e'.2 (f.2++[q]))->(∀e∈(A++f::B)++N,∀q∈qs,slt e.2 (f.2++[q]))->(∀e∈N,∃q,e.2=f.2++[q]) ->
  ∃N',qs.foldl (sQ nx f) ((A++f::B)++N)=(A++f::B)++N'/\((A++f::B)++N').Pairwise (λx y=>slt x.2 y.2)/\(∀e∈(A++f::B)++N',NG kB nx s0 e.2=some e.1)/\(((A++f::B)++N').map (·.1)).Nodup /\
   (∀q∈dn++qs,∃e'∈(A++f::B)++N',e'.1=nx f.1 q/\sle e'.2 (f.2++[q]))/\∀e∈N',∃q,e.2=f.2++[q]
 |[],dn,N,_,_,h1,h2,h3,h4,_,h6=>⟨N,rfl,h1,h2,h3,by rw[JC];exact h4,h6⟩
 |q::qs,dn,N,hq,hs,h1,h2,h3,h4,h5,h6=>by
  generalize hL:A++f::B=L at *
  rw[eN];obtain⟨qL,qF⟩:=yc.mp hs;unfold sQ
  cases c:dQ (L++N) (nx f.1 q) with
  |true =>
   rw[GA rfl];have key:=@v9 A B f (by rw[hL];exact hf) hw qs (dn++[q]) N (λp hp=>hq p (fD _ hp)) qF;rw[hL] at key
   obtain⟨N',e,k⟩:=key h1 h2 h3 (λp hp=>by
    rcases VE.mp hp with hp | hp
    ·exact h4 p hp
    ·rw[DC.mp hp];obtain⟨e,he,z⟩:=Fs.mp c
     exact⟨e,he,kR z,.inr (h5 e he q (qE ..))⟩) (λe he p hp=>h5 e he p (fD _ hp)) h6
   refine⟨N',e, ?_⟩;rw[BJ] at k;exact k
  |false =>
   rw[LA (by decide)];have key:=@v9 A B f (by rw[hL];exact hf) hw qs (dn++[q]) (N++[(nx f.1 q,f.2++[q])]) (λp hp=>hq p (fD _ hp)) qF;rw[hL,<- BJ] at key;have mm:∀{e:S×List Int},e∈(L++N)++[(nx f.1 q,f.2++[q])]->e∈L++N\/e=(nx f.1 q,f.2++[q]):=λh=>(VE.mp h).imp id DC.mp
   obtain⟨N',e,k⟩:=key
    (Uq.mpr ⟨h1,AY _ _,λx hx y hy=>by rw[DC.mp hy];exact h5 x hx q (qE ..)⟩)
    (λe he=>by
     rcases mm he with he | rfl
     ·exact h2 e he
     ·show NG kB nx s0 (f.2++[q])=_;rw[Ab,hw]
      exact GA (hq q (qE ..)))
    (by
     rw[CF];refine Ur.mpr ⟨h3,AY _ _,λx hx y hy=>?_⟩;obtain⟨e,he,rfl⟩:=EF.mp hx;rw[DC.mp hy]
     exact gBa c he)
    (λp hp=>by
     rcases VE.mp hp with hp | hp
     ·obtain⟨e,he,z⟩:=h4 p hp;exact⟨e,pN _ he,z⟩
     ·rw[DC.mp hp]
      exact⟨_,XF _ (DC.mpr rfl),rfl,.inl rfl⟩)
    (λe he p hp=>by
     rcases mm he with he | rfl
     ·exact h5 e he p (fD _ hp)
     ·exact xn (qL p hp))
    (λe he=>by
     rcases VE.mp he with he | he
     ·exact h6 e he
     ·rw[DC.mp he];exact⟨q,rfl⟩)
   refine⟨N',e, ?_⟩;rw[BJ] at k;exact k
def mSa(hs:∀s,(kB s).Pairwise (·<·))(h:BI kB nx s0 A (f::B)):∃N,oO kB nx (A++f::B) f=(A++f::B)++N/\BI kB nx s0 (A++[f]) (B++N):=by
 have hf:f∈A++f::B:=XF _ (qE ..)
 obtain⟨N,e,k1,k2,k3,k4,k5⟩:=v9 hf (h.wk f hf) (kB f.1) [] [] (λ_ z=>z) (hs _) (by rw[JC];exact h.W9) (by rw[JC];exact h.wk) (by rw[JC];exact h.nd) (λ_ z=>nomatch z)
  (by rw[JC];exact λe he q _=>h.bd e he f (qE ..) q) (λ_ z=>nomatch z)
 rw[JC] at e;refine⟨N,e, ?_⟩;have ea:(A++[f])++(B++N)=(A++f::B)++N:=by simp
 have lt:∀g∈B,slt f.2 g.2:=λg hg=>by
  have:=(Uq.mp h.W9).2.1
  exact(yc.mp this).1 g hg
 refine⟨by rw[ea];exact k1,by rw[ea];exact k2,by rw[ea];exact pN _ h.hd,by rw[ea];exact k3,λx hx q hq=>?_,λx hx g hg q=>?_⟩
 ·rw[ea];rcases VE.mp hx with hx | hx
  ·obtain⟨e',he,z⟩:=h.cl x hx q hq;exact⟨e',pN _ he,z⟩
  ·rw[DC.mp hx] at hq ⊢;exact k4 q hq
 ·rw[ea] at hx;rcases VE.mp hg with hg | hg
  ·rcases VE.mp hx with hx | hx
   ·exact h.bd x hx g (fD _ hg) q
   ·obtain⟨p,hp⟩:=k5 x hx;rw[hp];exact EX (lt g hg)
  ·obtain⟨p,hp⟩:=k5 g hg;rw[hp];rcases VE.mp hx with hx | hx
   ·exact S9 (h.bd x hx f (qE ..) p) (T9 (mB _))
   ·obtain⟨p',hp'⟩:=k5 x hx;rw[hp'];exact T9 (by rw[oC,oC];exact mB _)
theorem A8(hs:∀s,(kB s).Pairwise (·<·)):∀(B A N:MC S),BI kB nx s0 A (B++N)->∃N',B.foldl (oO kB nx) (A++(B++N))=(A++B)++(N++N')/\BI kB nx s0 (A++B) (N++N')
 |[],A,N,h=>⟨[],by simp,by simpa using h⟩
 |f::B,A,N,h=>by
  obtain⟨M,e,k⟩:=mSa (B:=B++N) hs h;rw[BJ] at k;obtain⟨N',e2,k2⟩:=A8 hs B (A++[f]) (N++M) k;refine⟨M++N', ?_, ?_⟩
  ·rw[eN,show oO kB nx (A++(f::B++N)) f=(A++[f])++(B++(N++M)) by rw[UO,e];simp,e2];simp
  ·have:(A++f::B)=(A++[f])++B:=by simp
   rw[this,<- BJ N];exact k2
theorem iV(hs:∀s,(kB s).Pairwise (·<·)):∀(n:Nat) (A B M:MC S),BI kB nx s0 A B->SK kB nx n (A++B) B=some M->BI kB nx s0 M []/\(A++B).length<=M.length
 |n+1,A,B,M,h,e=>by
  unfold SK at e;split at e
  ·rename_i hb;cases e;obtain rfl:=yU.mp hb;rw[JC];exact⟨h,mB _⟩
  ·obtain⟨N',e2,k⟩:=A8 hs B A [] (by rw[JC];exact h);rw[JC,WO] at e2;rw[WO] at k;rw[e2] at e;split at e
   ·cases e
   ·rw[Ys] at e
    have:=iV hs n (A++B) N' M k e
    exact⟨this.1,by have:=this.2;rw[oC] at this;lia⟩
def jV:BI kB nx s0 [] [(s0,[])]:=by
 refine⟨AY _ _,λe he=>?_,DC.mpr rfl,AY _ _,(λ_ z=>nomatch z),λe he f hf q=>?_⟩
 ·rw[DC.mp he];rfl
 ·rw[DC.mp he,DC.mp hf];exact T9 (mB _)
theorem qe(h:BI kB nx s0 M []):∀(n:Nat) (w:List Int) (k:S),w.length=n->NG kB nx s0 w=some k->∃e∈M,e.1=k/\sle e.2 w
 | 0,w,k,hn,hw=>by
  obtain rfl:=List.eq_nil_of_length_eq_zero hn;cases hw
  have:=h.hd
  rw[JC] at this;exact⟨_,this,rfl,.inl rfl⟩
 |n+1,w,k,hn,hw=>by
  rcases List.eq_nil_or_concat w with rfl | ⟨u,q,e⟩
  ·cases hn
  ·rw[List.concat_eq_append] at e;subst e;rw[Ab] at hw;obtain⟨k0,h1,h2⟩:=zJ.mp hw;split at h2
   ·rename_i hq;cases h2;obtain⟨e,he,rfl,hl⟩:=qe h n u k0 (by rw[oC] at hn;exact mZ hn) h1;obtain⟨e',cW,z1,z2⟩:=h.cl e he q hq;rw[JC] at cW;exact⟨e',cW,z1,sXa z2 (rXa hl)⟩
   ·cases h2
theorem lg{g:O->Option N}:∀{l:List O} {e:O},l.Pairwise R->e∈l->(g e).isSome=true->∃e1∈l,∃b,g e1=some b/\l.findSome? g=some b/\(e1=e\/R e1 e)
 |x::l,e,hp,he,hg=>by
  obtain⟨p1,p2⟩:=yc.mp hp
  cases c:g x with
  |some b =>
   refine⟨x,qE ..,b,c,by rw[qc,c], ?_⟩;rcases wD.mp he with rfl | he
   ·exact .inl rfl
   ·exact .inr (p1 e he)
  |none =>
   have he:e∈l:=(wD.mp he).resolve_left λz=>by rw[z,c] at hg;cases hg
   obtain⟨e1,h1,b,h2,h3,h4⟩:=lg p2 he hg;exact⟨e1,fD _ h1,b,h2,by rw[qc,c];exact h3,h4⟩
def S_{ap:S->Option (Int×Int)}(h:BI kB nx s0 M [])(hw:NG kB nx s0 w=some k)(ha:∃p,ap k=some p/\p.1<=q) :
  ∃v c,M.findSome? (λe=>(ap e.1).map λp=>(e.2++[p.1],p.2))=some (v,c)/\sle v (w++[q]):=by
 obtain⟨p,ha,hp⟩:=ha;obtain⟨e,he,rfl,hl⟩:=qe h _ w k rfl hw;have hs:=h.W9;rw[JC] at hs;obtain⟨e1,h1,b,h2,h3,h4⟩:=lg (g:=λe=>(ap e.1).map λp=>(e.2++[p.1],p.2)) hs he (by rw[ha];rfl);refine⟨b.1,b.2,h3, ?_⟩;rcases h4 with rfl | h4
 ·rw[ha] at h2;cases h2;show sle (e1.2++[p.1]) _;rcases hl with hl | hl
  ·rw[hl];rcases Int.lt_or_eq_of_le hp with z | z
   ·exact .inr (xn z)
   ·rw[z];exact .inl rfl
  ·exact .inr (EX hl)
 ·obtain⟨p1,h5,rfl⟩:=VF.mp h2
  exact .inr (EX (by
   rcases hl with hl | hl
   ·rw[<- hl];exact h4
   ·exact S9 h4 hl))
end
theorem B3:∀{j:Nat} {l:List S} {U:Env},IA P C W (l.take j) U=some (.nx,U')->IA P C W l U=IA P C W (l.drop j) U'
 | 0,l,U,h=>by
  rw[cZ,mS] at h;cases h;rfl
 |j+1,[],U,h=>by
  rw[wt,mS] at h;cases h;rfl
 |j+1,s::l,U,h=>by
  rw[jc,LH] at h;rw[LH,kc]
  generalize ex P C W s U=r at *
  obtain _ | ⟨fl,U1⟩:=r
  ·cases h
  ·cases fl with
   |nx=>exact B3 h
   |_=>cases h
theorem fg:∀{j:Nat} {l:List S} {U:Env},IA P C W (l.take j) U=some (.nx,U')->zD P C W l U=zD P C W (l.drop j) U'
 | 0,l,U,h=>by
  rw[cZ,mS] at h;cases h;rfl
 |j+1,[],U,h=>by
  rw[wt,mS] at h;cases h;rfl
 |j+1,s::l,U,h=>by
  rw[jc,LH] at h;rw[dg,kc]
  generalize ex P C W s U=r at *
  obtain _ | ⟨fl,U1⟩:=r
  ·cases h
  ·cases fl with
   |nx=>exact fg h
   |_=>cases h
noncomputable def Cj(ok:Int->Bool):D->Bool
 |.int x=>ok x
 |_=>false
def X_:(((kC k tF).map D.int).filter (Cj oG)).map id=(kC k λq=>tF q&&oG q).map D.int:=by
 rw[List.map_id,ZY];congr 1;show(kC k tF).filter oG=_;unfold kC;rw[ZY,yr];congr 1;refine Vr λj _=>?_
 exact qt _ _
def xf{bind:D->Env->Option Env}(keep:D->Bool)(val:D->D)(J:Env->Prop)
  (step:∀d∈ds,∀U,J U->∃U1 U2,bind d U=some U1/\tests U1=some (.ok (.b (keep d)),U2)/\(keep d=true->∃v U3,HA U2=some (.ok v,U3)/\v.d=val d/\J U3)/\(keep d=false->J U2)) (h:J U) :
  ∃U',dG tests HA bind ds [] U=some (.ok ((ds.filter keep).map val),U')/\J U':=by
 obtain⟨rA,U',e,⟨rfl,hJ⟩,_⟩:=BP (λj rA U=>rA=((ds.take j).filter keep).map val/\J U)
  (λj d hd rA U hz=>by
   obtain⟨ha,hJ⟩:=hz;obtain⟨U1,U2,h1,h2,h3,h4⟩:=step d (YH hd) U hJ;refine⟨U1,keep d,U2,h1,h2,λhk=>?_,λhk=>⟨?_,h4 hk⟩⟩
   ·obtain⟨v,U3,h5,h6,h7⟩:=h3 hk;refine⟨v,U3,h5, ?_,h7⟩;rw[ha,h6,Wr,hd];simp[jR,hk]
   ·rw[ha,Wr,hd]
    simp[jR,hk]) [] U ⟨by simp,h⟩
 refine⟨U', ?_,hJ⟩;rw[e,SY]
def ax{W n kn:Nat}(k7:kn<=7)(h1:"e"|||n+1|||[.sh H1,.sh s1]|||.ow (.l ((kC kn tF).map D.int)))(h2:"e"|||n+1|||[.sh H2,.sh s2]|||.ow (.l ((kC kn oG).map D.int))) :
  "n"|||n+2|||[.sh H1,.sh H2,.sh (.t [s1,s2])]|||.ow (.l ((kC kn λq=>tF q&&oG q).map D.int)):=by
 exists V4
 have hi:∀{U:Env},aAb .of [.val (.ow (.l ((kC kn tF).map D.int)))] U=some ((kC kn tF).map D.int,none):=uQ rfl
 obtain⟨Ua,ea,t2,rfl,fJ⟩:=xf (tests:=cD T.aA (run T W (n+1)) [.FA .In (.v 2) (.v 0)]) (HA:=ev T.aA (run T W (n+1)) false Q2) (bind:=oB true [2]) (ds:=(kC kn tF).map D.int)
  (Cj oG) id (λU=>∃t2,U=[.p (.l ((kC kn oG).map D.int)),.un,t2]/\iB t2=true)
  (λd hd U hU=>by
   obtain⟨t2,rfl,fJ⟩:=hU;obtain⟨x,hx,rfl⟩:=EF.mp hd;have hx:=sg hx;have gh:=Z6 (k:=kn) (ok:=oG) (q:=x) hx.1 hx.2;refine⟨[.p (.l ((kC kn oG).map D.int)),.un,.i x],[.p (.l ((kC kn oG).map D.int)),.un,.i x],by simp only[kE,FD fJ]<;>rfl, ?_,λ_=>⟨.i x,[.p (.l ((kC kn oG).map D.int)),.un,.i x], ?_,rfl,_,rfl,rfl⟩,λ_=>⟨_,rfl,rfl⟩⟩
   ·show(_:xA RV)=some (Out.ok (RV.sh (.bl (oG x))),_);cases hb:oG x<;>rw[hb] at gh<;>walk_at "!EA"
   ·unfold Q2
    walk_at "!EA") (U:=[.p (.l ((kC kn oG).map D.int)),.un,.un]) ⟨_,rfl,rfl⟩
 rw[X_] at ea;have hz:=IV (k:=kn) (ok:=λq=>tF q&&oG q);have IG:GB (kC kn λq=>tF q&&oG q).length=true:=QE (by lia);have tW:GB ((kC kn λq=>tF q&&oG q).map D.int).length=true:=QE (by rw[EA];lia)
 walk_at "!EA"
 rw[aK hi]
 walk_at "!EA"
 all_goals (first | done | (rw[LN rfl];walk_at "!EA"))
def nQa(h1:"g"|||n+1|||[.sh H1,.sh s1,.i q]|||.sh u1)(h2:"g"|||n+1|||[.sh H2,.sh s2,.i q]|||.sh u2) :
  "j"|||n+2|||[.sh H1,.sh H2,.sh (.t [s1,s2]),.i q]|||.sh (.t [u1,u2]):=by
 exists W4
 walk_at "!"
def Xw(h7:iB t7=true)
  (oW:"j"|||n+1|||[.sh H1,.sh H2,.sh pd,.i q]|||.sh LM)
  (hk:nE pd=some k) (j6:nE LM=some k') (hl:cK ks ds k=some (.l v)) (hn:XI ks k'=false) (s1:v.length<=1000) (s2:ks.length<=2000) (s3:N.length<=2000) :
  IA T.aA (run T W (n+1)) W RK [.sh H1,.sh H2,.o (.ZA ks ds),S3,.o (.l N),.sh pd,.i q,t7]=some (.nx,[.sh H1,.sh H2,.o (.ZA (ks++[k']) (ds++[.l (v++[.int q])])),S3,.o (.l (N++[LM])),.sh pd,.i q,.sh LM]):=by
 have mW:wB .NotIn LM (.ZA ks ds)=some true:=by rw[Xe j6,hn];rfl
 have hW:RB (some (.ZA ks ds)) pd=some (.sh (.l v)):=ni hk hl;have ZV:uC .Add (.l v) (.l [.int q])=some (.ow (.l (v++[.int q]))):=vP (qG (by simp;lia));have hpk:qO ks k'=ks++[k']:=by unfold qO;rw[hn];rfl
 have hpv:rO ks ds k' (.l (v++[.int q]))=ds++[.l (v++[.int q])]:=by unfold rO;rw[hn];rfl
 have z2:GB (ks.length+1)=true:=qG (by lia);have z3:GB (N.length+1)=true:=qG (by lia);unfold RK
 walk_at "!Vm"
def Yw(h7:iB t7=true)
  (oW:"j"|||n+1|||[.sh H1,.sh H2,.sh pd,.i q]|||.sh LM)
  (j6:nE LM=some k') (hn:XI ks k'=true) :
  IA T.aA (run T W (n+1)) W RK [.sh H1,.sh H2,.o (.ZA ks ds),S3,.o (.l N),.sh pd,.i q,t7]=some (.nx,[.sh H1,.sh H2,.o (.ZA ks ds),S3,.o (.l N),.sh pd,.i q,.sh LM]):=by
 have mW:wB .NotIn LM (.ZA ks ds)=some false:=by rw[Xe j6,hn];rfl
 unfold RK
 walk_at "!Vm"
abbrev En:=L2.aB×List Int
def UC(k:L2.aB):D:=.t [YC k,YC k]
noncomputable def BC(e:En):L2.cC:=.inr (e.1,e.1)
noncomputable def dD(e:En):D:=.l (e.2.map D.int)
def DB(e:En):D:=UC e.1
def zT:nE (UC k)=some (.inr (k,k)):=mXa
def K5:(Sum.inr (k,k):L2.cC)=.inr (l,l)↔k=l:=⟨λh=>(Prod.mk.inj (Dt h)).1,λh=>by rw[h]⟩
def Pg{L:MC L2.aB}:XI (L.map BC) (.inr (k,k))=dQ L k:=by
 unfold XI dQ;rw[Bt];congr 1
 funext e
 exact decide_eq_decide.mpr K5
theorem E8:∀{L:MC L2.aB},(L.map (·.1)).Nodup->f∈L->cK ((L++N).map BC) ((L++N).map dD) (.inr (f.1,f.1))=some (dD f)
 |e::L,nd,h=>by
  rw[UO];unfold cK;rw[KC,KC,aN,fN];by_cases z:e.1=f.1
  ·rw[show decide (BC e=.inr (f.1,f.1))=true from jC (K5.mpr z)]
   have:e=f:=by
    rcases wD.mp h with h | h
    ·exact h.symm
    ·exact absurd (EF.mpr ⟨f,h,z.symm⟩) (rR.mp nd).1
   rw[this];rfl
  ·rw[show decide (BC e=.inr (f.1,f.1))=false from WB λw=>z (K5.mp w)];have hm:f∈L:=(wD.mp h).resolve_left λw=>z (by rw[w])
   exact E8 (rR.mp nd).2 hm
def vD(H1 H2:D)(L N:MC L2.aB)(S3 t5 t6 t7:Sl):Env:=[.sh H1,.sh H2,.o (.ZA ((L++N).map BC) ((L++N).map dD)),S3,.o (.l (N.map DB)),t5,t6,t7]
section
variable{W n:Nat}{H1 H2:D}{S3:Sl}{kB:L2.aB->List Int}{nx:L2.aB->Int->L2.aB}{V:L2.aB->Prop}{L:MC L2.aB}
structure PB(W n:Nat)(H1 H2:D)(kB:L2.aB->List Int)(nx:L2.aB->Int->L2.aB)(V:L2.aB->Prop):Prop where
 nb:∀k,V k->"n"|||n+1|||[.sh H1,.sh H2,.sh (UC k)]|||.ow (.l ((kB k).map D.int))
 pb:∀k q,V k->"j"|||n+1|||[.sh H1,.sh H2,.sh (UC k),.i q]|||.sh (UC (nx k q))
 vn:∀k q,V k->q∈kB k->V (nx k q)
 fl:∀k,(kB k).length<=7
theorem F8(h:PB W n H1 H2 kB nx V)(hV:V f.1)(hf:f∈L)(nd:(L.map (·.1)).Nodup)(hl:f.2.length<=900)(hL:L.length<=150):∀(qs:List Int) (N:MC L2.aB) (t6 t7:Sl),iB t6=true->iB t7=true->N.length+qs.length<=1200->(∀q∈qs,q∈kB f.1) ->
  ∃N' pE PD,RC (oB true [6]) (IA T.aA (run T W (n+1)) W RK) (qs.map D.int) (vD H1 H2 L N S3 (.sh (DB f)) t6 t7)=some (.nx,vD H1 H2 L N' S3 (.sh (DB f)) pE PD)/\iB pE=true/\iB PD=true/\L++N'=qs.foldl (sQ nx f) (L++N)/\N'.length<=N.length+qs.length/\∀e∈N',e∈N\/(V e.1/\e.2.length=f.2.length+1)
 |[],N,t6,t7,h6,h7,_,_=>⟨N,t6,t7,rfl,h6,h7,rfl,mB _,λ_ z=>.inl z⟩
 |q::qs,N,t6,t7,h6,h7,hN,hq=>by
  rw[QC] at hN
  have e1:oB true [6] (.int q) (vD H1 H2 L N S3 (.sh (DB f)) t6 t7)=some (vD H1 H2 L N S3 (.sh (DB f)) (.i q) t7):=by(unfold vD;simp only[kE,FD h6]<;>rfl)
  rw[KC,eN];have oW:=h.pb f.1 q hV
  cases c:dQ (L++N) (nx f.1 q) with
  |true =>
   have e2:=Yw (S3:=S3) (N:=N.map DB) (ds:=(L++N).map dD) h7 oW zT (Pg.trans c);obtain⟨N',pE,PD,e3,k6,k7,k8,k9,BM⟩:=F8 h hV hf nd hl hL qs N (.i q) (.sh (UC (nx f.1 q))) rfl rfl (by lia) λp hp=>hq p (fD _ hp)
   refine⟨N',pE,PD, ?_,k6,k7, ?_,by rw[QC];lia,BM⟩
   ·replace e2:IA T.aA (run T W (n+1)) W RK (vD H1 H2 L N S3 (.sh (DB f)) (.i q) t7)=some (.nx,vD H1 H2 L N S3 (.sh (DB f)) (.i q) (.sh (UC (nx f.1 q)))):=e2;simp only[RC,e1,e2];exact e3
   ·rw[k8];congr 1;unfold sQ;rw[c,GA rfl]
  |false =>
   have e2:=Xw (S3:=S3) (N:=N.map DB) h7 oW zT zT (E8 nd hf) (Pg.trans c) (by rw[EA];lia) (by rw[EA,oC];lia) (by rw[EA];lia);obtain⟨N',pE,PD,e3,k6,k7,k8,k9,BM⟩:=F8 h hV hf nd hl hL qs (N++[(nx f.1 q,f.2++[q])]) (.i q) (.sh (UC (nx f.1 q))) rfl rfl (by rw[oC,oN];lia) λp hp=>hq p (fD _ hp)
   rw[oC,oN] at k9;refine⟨N',pE,PD, ?_,k6,k7, ?_,by rw[QC];lia,λe he=>?_⟩
   ·replace e2:IA T.aA (run T W (n+1)) W RK (vD H1 H2 L N S3 (.sh (DB f)) (.i q) t7)=some (.nx,vD H1 H2 L (N++[(nx f.1 q,f.2++[q])]) S3 (.sh (DB f)) (.i q) (.sh (UC (nx f.1 q)))):=by
     unfold vD;rw[<- BJ,CF (f:=BC) (l₁:=L++N),CF (f:=dD) (l₁:=L++N),CF (f:=DB)];refine e2.trans ?_;rw[ZU];rfl
    simp only[RC,e1,e2];exact e3
   ·rw[k8,<- BJ];congr 1;unfold sQ;rw[c,LA (by decide)]
   ·rcases BM e he with z | z
    ·rcases VE.mp z with z | z
     ·exact .inl z
     ·rw[DC.mp z];exact .inr ⟨h.vn _ _ hV (hq q (qE ..)),by rw[oC];rfl⟩
    ·exact .inr z
def Zw{qs:List Int}(hb:"n"|||n+1|||[.sh H1,.sh H2,.sh (DB f)]|||.ow (.l (qs.map D.int)))(e:RC (oB true [6]) (IA T.aA (run T W (n+1)) W RK) (qs.map D.int) (vD H1 H2 L N S3 (.sh (DB f)) t6 t7)=some (.nx,U')):IA T.aA (run T W (n+1)) W TR (vD H1 H2 L N S3 (.sh (DB f)) t6 t7)=some (.nx,U'):=by
 have hi:∀{U:Env},aAb .of [.val (.ow (.l (qs.map D.int)))] U=some (qs.map D.int,none):=uQ rfl
 unfold TR;unfold vD at e ⊢
 generalize qs.map D.int=Q at *
 generalize DB f=pd at *
 generalize (L++N).map BC=ks at *
 generalize (L++N).map dD=vs at *
 generalize N.map DB=N' at *
 walk_at "!EA"
theorem Uj(h:PB W n H1 H2 kB nx V)(nd:(L.map (·.1)).Nodup)(hL:L.length<=150)(hc:c<=900):∀(ws N:MC L2.aB) (t5 t6 t7:Sl),iB t5=true->iB t6=true->iB t7=true->(∀f∈ws,f∈L/\V f.1/\f.2.length<=c)->N.length+7*ws.length<=1200->(∀e∈N,V e.1/\e.2.length<=c+1) ->
  ∃N' MG pE PD,RC (oB true [5]) (IA T.aA (run T W (n+1)) W TR) (ws.map DB) (vD H1 H2 L N S3 t5 t6 t7)=some (.nx,vD H1 H2 L N' S3 MG pE PD)/\iB MG=true/\iB pE=true/\iB PD=true/\L++N'=ws.foldl (oO kB nx) (L++N)/\∀e∈N',V e.1/\e.2.length<=c+1
 |[],N,t5,t6,t7,h5,h6,h7,_,_,hv=>⟨N,t5,t6,t7,rfl,h5,h6,h7,rfl,hv⟩
 |f::ws,N,t5,t6,t7,h5,h6,h7,hw,hN,hv=>by
  obtain⟨g1,g2,g3⟩:=hw f (qE ..);rw[QC] at hN;have h8:=h.fl f.1;obtain⟨M,u6,u7,e1,k6,k7,k8,k9,BM⟩:=F8 (S3:=S3) h g2 g1 nd (by lia) hL (kB f.1) N t6 t7 h6 h7 (by lia) λ_ z=>z
  have e2:=Zw (h.nb f.1 g2) e1
  have e0:oB true [5] (DB f) (vD H1 H2 L N S3 t5 t6 t7)=some (vD H1 H2 L N S3 (.sh (DB f)) t6 t7):=by(unfold vD;simp only[kE,FD h5]<;>rfl)
  obtain⟨N',MG,pE,PD,e4,m5,m6,m7,m8,m9⟩:=Uj h nd hL hc ws M (.sh (DB f)) u6 u7 rfl k6 k7 (λv hv=>hw v (fD _ hv)) (by lia) λe he=>by
   rcases BM e he with z | ⟨z1,z2⟩
   ·exact hv e z
   ·exact⟨z1,by lia⟩
  refine⟨N',MG,pE,PD, ?_,m5,m6,m7, ?_,m9⟩
  ·rw[KC];simp only[RC,e0,e2];exact e4
  ·rw[m8,eN,k8];rfl
def aA7{ws N':MC L2.aB}(h4:iB S4=true)(o:Bool)
  (e:RC (oB true [5]) (IA T.aA (run T W (n+1)) W TR) (ws.map DB) (vD H1 H2 L [] (if o then .un else .sh (.l (ws.map DB))) t5 t6 t7)=some (.nx,vD H1 H2 L N' (if o then .un else .sh (.l (ws.map DB))) MG pE PD)) :
  IA T.aA (run T W (n+1)) W (BG.take 2) [.sh H1,.sh H2,.o (.ZA (L.map BC) (L.map dD)),if o then .o (.l (ws.map DB)) else .sh (.l (ws.map DB)),S4,t5,t6,t7]=some (.nx,vD H1 H2 L N' (if o then .o (.l (ws.map DB)) else .sh (.l (ws.map DB))) MG pE PD):=by
 unfold BG;unfold vD at e ⊢;rw[kN,JC] at e
 generalize ws.map DB=Q at *
 generalize L.map BC=ks at *
 generalize L.map dD=vs at *
 generalize (L++N').map BC=ks' at *
 generalize (L++N').map dD=vs' at *
 generalize N'.map DB=N2 at *
 cases o with
 |true =>
  have hi:aAb .of [.slot 3] [.sh H1,.sh H2,.o (.ZA ks vs),.o (.l Q),.o (.l []),t5,t6,t7]=some (Q,some 3):=jFa rfl;simp only[if_true] at e ⊢
  walk_at "!EA"
  simp only[aAg,pU,NY,e,Run.restore,aAr,EI,zY,EE]
  walk_at "!EA"
 |false =>
  have hi:aAb .of [.slot 3] [.sh H1,.sh H2,.o (.ZA ks vs),.sh (.l Q),.o (.l []),t5,t6,t7]=some (Q,none):=kFa rfl;simp only[rH,wG] at e ⊢
  walk_at "!EA"
def jK(o:Bool)(ws:MC L2.aB):Sl:=if o then .o (.l (ws.map DB)) else .sh (.l (ws.map DB))
def xF(H1 H2:D)(L ws:MC L2.aB)(o:Bool)(S4 t5 t6 t7:Sl):Env:=[.sh H1,.sh H2,.o (.ZA (L.map BC) (L.map dD)),jK o ws,S4,t5,t6,t7]
theorem v0a(hA:IA T.aA (run T W (n+1)) W (BG.take 2) U0=some (.nx,vD H1 H2 L N' (jK o ws) MG pE PD))(hl:(L++N').length<=150) :
  IA T.aA (run T W (n+1)) W BG U0=some (.nx,xF H1 H2 (L++N') N' false (.sh (.l (N'.map DB))) MG pE PD):=by
 rw[B3 hA];have c:decide (150<((((L++N').map BC).length:Nat):Int))=false:=WB (by rw[EA];lia);unfold BG xF vD jK
 generalize (L++N').map BC=ks at *
 generalize (L++N').map dD=vs at *
 generalize N'.map DB=Q at *
 generalize ws.map DB=R at *
 cases o<;>simp only[if_true,rH,wG]<;>walk_at "!EA"
theorem w0a(hA:IA T.aA (run T W (n+1)) W (BG.take 2) U0=some (.nx,vD H1 H2 L N' (jK o ws) MG pE PD))(hl:150<(L++N').length) :
  IA T.aA (run T W (n+1)) W BG U0=none/\zD T.aA (run T W (n+1)) W BG U0=some (⟨"TooMany",none⟩,vD H1 H2 L N' (jK o ws) MG pE PD):=by
 rw[B3 hA,fg hA];have c:decide (150<((((L++N').map BC).length:Nat):Int))=true:=jC (by rw[EA];lia);unfold BG vD jK
 generalize (L++N').map BC=ks at *
 generalize (L++N').map dD=vs at *
 generalize N'.map DB=Q at *
 generalize ws.map DB=R at *
 cases o<;>simp only[if_true,rH,wG]<;>exact⟨by walk_at "!EA",by walk_at "!EA"⟩
theorem BO:ev P C true (.FA .Gt (.bif .len [.v 3]) (.c (.int 0))) (xF H1 H2 L ws o S4 t5 t6 t7)=some (.ok (.b (!ws.isEmpty)),xF H1 H2 L ws o S4 t5 t6 t7):=by
 have c:decide (0<(((ws.map DB).length:Nat):Int))=!ws.isEmpty:=by cases ws<;>simp<;>lia
 unfold xF jK;rw[<- c]
 generalize L.map BC=ks at *
 generalize L.map dD=vs at *
 generalize ws.map DB=R at *
 cases o<;>simp only[if_true,rH,wG]<;>walk_at "!EA"
theorem aAS(h:PB W n H1 H2 kB nx V)(hs:∀s,(kB s).Pairwise (·<·))(c:Nat):∀(j:Nat) (A B:MC L2.aB) (o:Bool) (S4 t5 t6 t7:Sl),iB S4=true->iB t5=true->iB t6=true->iB t7=true->BI kB nx s0 A B->(∀e∈A++B,V e.1/\e.2.length+j<=152)->(A++B).length<=150->152<=j+(A++B).length ->
  (∃M U',SK kB nx j (A++B) B=some M/\(∀e∈M,V e.1/\e.2.length<=152)/\M.length<=150/\rF (ev T.aA (run T W (n+1)) true (.FA .Gt (.bif .len [.v 3]) (.c (.int 0)))) (IA T.aA (run T W (n+1)) W BG) (j+c) (xF H1 H2 (A++B) B o S4 t5 t6 t7)=some (.nx,U')/\∃r,U'=.sh H1::.sh H2::.o (.ZA (M.map BC) (M.map dD))::r) \/
  (SK kB nx j (A++B) B=none/\rF (ev T.aA (run T W (n+1)) true (.FA .Gt (.bif .len [.v 3]) (.c (.int 0)))) (IA T.aA (run T W (n+1)) W BG) (j+c) (xF H1 H2 (A++B) B o S4 t5 t6 t7)=none /\
   ∃r,tI (ev T.aA (run T W (n+1)) true (.FA .Gt (.bif .len [.v 3]) (.c (.int 0)))) (IA T.aA (run T W (n+1)) W BG) (zD T.aA (run T W (n+1)) W BG) (j+c) (xF H1 H2 (A++B) B o S4 t5 t6 t7)=some (⟨"TooMany",none⟩,.sh H1::.sh H2::r))
 | 0,A,B,_,_,_,_,_,_,_,_,_,_,_,hl,hj=>by lia
 |j+1,A,B,o,S4,t5,t6,t7,h4,h5,h6,h7,hB,hV,hl,hj=>by
  rw[show j+1+c=(j+c)+1 by lia];unfold SK
  cases hb:B.isEmpty with
  |true =>
   refine .inl ⟨A++B,xF H1 H2 (A++B) B o S4 t5 t6 t7,GA rfl,λe he=>⟨(hV e he).1,by have:=(hV e he).2;lia⟩,hl, ?_,_,rfl⟩;simp only[rF,BO,hb,ML,xA.VB]
  |false =>
   rw[LA (by decide)];have i6:j+1<=152:=by have:=(hV _ hB.hd).2;simp only[wH] at this;lia
   have hB1:7*B.length<=1050:=by rw[oC] at hl;lia
   obtain⟨N',MG,pE,PD,e,k5,k6,k7,k8,k9⟩:=Uj (L:=A++B) (S3:=if o then .un else .sh (.l (B.map DB))) (c:=152-(j+1)) h hB.nd hl (by lia) B [] t5 t6 t7 h5 h6 h7 (λf hf=>⟨XF _ hf,(hV f (XF _ hf)).1,by have:=(hV f (XF _ hf)).2;lia⟩) (by rw[wH];lia) λ_ z=>nomatch z
   have e2:=aA7 h4 o e;rw[JC] at k8;obtain⟨N2,e3,BM⟩:=A8 hs B A [] (by rw[JC];exact hB);rw[JC,WO] at e3;rw[WO] at BM;obtain rfl:N'=N2:=yY (k8.trans e3);rw[e3];replace e2:IA T.aA (run T W (n+1)) W (BG.take 2) (xF H1 H2 (A++B) B o S4 t5 t6 t7)=some (.nx,vD H1 H2 (A++B) N' (jK o B) MG pE PD):=e2;by_cases hz:150<((A++B)++N').length
   ·rw[GA hz];obtain⟨b2,bx⟩:=w0a e2 hz;refine .inr ⟨rfl, ?_,(vD H1 H2 (A++B) N' (jK o B) MG pE PD).drop 2, ?_⟩
    ·simp only[rF,BO,hb,GI,xA.VB,b2]
    ·simp only[tI,BO,hb,GI,b2,bx];rfl
   ·rw[LA hz,Ys];have b2:=v0a e2 (by lia)
    have hV2:∀e∈(A++B)++N',V e.1/\e.2.length+j<=152:=λe he=>by
     rcases VE.mp he with he | he
     ·exact⟨(hV e he).1,by have:=(hV e he).2;lia⟩
     ·have:=k9 e he;exact⟨this.1,by have:=this.2;lia⟩
    by_cases hn:N'=[]
    ·subst hn;obtain⟨j',rfl⟩:∃j',j=j'+1:=⟨j-1,by lia⟩
     refine .inl ⟨A++B,xF H1 H2 (A++B) [] false (.sh (.l [])) MG pE PD, ?_,λe he=>⟨(hV e he).1,by have:=(hV e he).2;lia⟩,hl, ?_,_,rfl⟩
     ·rw[JC];rfl
     ·rw[JC] at b2;rw[show j'+1+c=(j'+c)+1 by lia];simp only[rF,BO,hb,GI,xA.VB,b2,Gs,ML];rfl
    ·have hg:0<N'.length:=br.mpr hn
     have:=aAS h hs c j (A++B) N' false (.sh (.l (N'.map DB))) MG pE PD rfl k5 k6 k7 BM hV2 (by lia) (by rw[oC];lia)
     rcases this with ⟨M,U',g1,g2,g3,g4,g5⟩ | ⟨g1,g2,r,g3⟩
     ·refine .inl ⟨M,U',g1,g2,g3, ?_,g5⟩;simp only[rF,BO,hb,GI,xA.VB,b2];exact g4
     ·refine .inr ⟨g1, ?_,r, ?_⟩
      ·simp only[rF,BO,hb,GI,xA.VB,b2];exact g2
      ·simp only[tI,BO,hb,GI,b2];exact g3
end
noncomputable def yE:L2.aB:=(0,[])
section
variable{W n:Nat}{H1 H2:D}{kB:L2.aB->List Int}{nx:L2.aB->Int->L2.aB}{V:L2.aB->Prop}
theorem rJa(h:PB (W+200) n H1 H2 kB nx V)(hs:∀s,(kB s).Pairwise (·<·))(h0:V yE) :
  (∃M,SK kB nx 152 [(yE,[])] [(yE,[])]=some M/\(∀e∈M,V e.1/\e.2.length<=152)/\M.length<=150/\run T (W+200) (n+2) "k" [.sh H1,.sh H2]=some (.ok (.ow (.ZA (M.map BC) (M.map dD))),[.sh H1,.sh H2])) \/
  (SK kB nx 152 [(yE,[])] [(yE,[])]=none/\run T (W+200) (n+2) "k" [.sh H1,.sh H2]=some (.ex ⟨"TooMany",none⟩,[.sh H1,.sh H2])):=by
 have hk:nE (.t [.t [.int 0,.t []],.t [.int 0,.t []]])=some (.inr (yE,yE)):=zT (k:=yE);have hz:=aAS (s0:=yE) h hs (W+48) 152 [] [(yE,[])] true .un .un .un .un rfl rfl rfl rfl jV (λe he=>by rw[DC.mp he];exact⟨h0,by simp⟩) (by simp) (by simp);rw[show 152+(W+48)=W+200 by lia,WO] at hz;have hu:xF H1 H2 [(yE,[])] [(yE,[])] true .un .un .un .un=[.sh H1,.sh H2,.o (.ZA [.inr (yE,yE)] [.l []]),.o (.l [.t [.t [.int 0,.t []],.t [.int 0,.t []]]]),.un,.un,.un,.un]:=rfl;rw[hu] at hz;rcases hz with ⟨M,U',g1,g2,g3,g4,r,rfl⟩ | ⟨g1,g2,r,g3⟩
 ·refine .inl ⟨M,g1,g2,g3, ?_⟩
  exists HV
  generalize M.map BC=ks at *
  generalize M.map dD=vs at *
  walk_at "!"
 ·refine .inr ⟨g1, ?_⟩
  exists HV
  walk_at "!"
end
noncomputable def fI(kn:Nat)(f g:Int->Bool):Option (Int×Int):=((vC kn).find? λ(j:Nat)=>f (j:Int) != g (j:Int)).map λ(j:Nat)=>((j:Int),if f (j:Int)=true then 1 else 2)
noncomputable def eI:Option (Int×Int)->D
 |none=>.lA
 |some p=>.t [.int p.1,.int p.2]
theorem UR:(false==true)=false:=rfl
theorem VR:(true==false)=false:=rfl
def Hv(ha:∀a:Nat,a<i->f a=g a)(hi:i<kn)(e:f i≠g i):fI kn f g=some ((i:Int),if f (i:Int)=true then 1 else 2):=by
 unfold fI;rw[Pb (p:=λ(j:Nat)=>f (j:Int) != g (j:Int)) |>.mpr ⟨bne_iff_ne.mpr e,iN.mpr hi,λj hj=>by rw[ha j hj,bne_self_eq_false];rfl⟩];rfl
def ze(ha:∀a:Nat,a<kn->f a=g a):fI kn f g=none:=by
 unfold fI;rw[tq (p:=λ(j:Nat)=>f (j:Int) != g (j:Int)) |>.mpr λj hj=>by rw[ha j hj,bne_self_eq_false];rfl];rfl
section
variable{no ba:Int}{kn m:Nat}{ps nH:List RP}{hA hB:D}
theorem cT:RB (some (UC k)) (.int 0)=some (.sh (YC k)):=rfl
theorem eT:RB (some (UC k)) (.int 1)=some (.sh (YC k)):=rfl
theorem R_(H:HD hA no ba m kn ps)(H':HD hB no ba m kn nH)(h:VK no ba m k) :
  "o"|||n+7|||[.sh hA,.sh hB,.sh (UC k)]|||.sh (eI (fI kn (lH ps (sI k)) (lH nH (sI k)))):=by
 exists L4
 have h1:=ZW (W:=W) (n:=n) H h;have h2:=ZW (W:=W) (n:=n) H' h;unfold B5 at h1 h2;have k7:=H.k7;have hk:=H.hk;have hi:∀{U:Env},aAb .uD [.val (.i no)] U=some (rg kn,none):=λ{U}=>by rw[hk];exact F7 (by lia)
 have i0:RB (some hA) (.int 0)=some (.i no):=H.i0;clear H H' h hk k7
 generalize lH ps (sI k)=f at *
 generalize lH nH (sI k)=g at *
 obtain⟨U',q⟩:=Vj (bind:=oB true [5]) (body:=IA T.aA (run T W (n+6)) W fV)
  (λv U=>∃t5,U=[.sh hA,.sh hB,.sh (UC k),.o (.l ((kC kn f).map D.int)),.o (.l ((kC kn g).map D.int)),t5]/\v=.sh (eI (fI kn f g)))
  (λi U=>∃t5,U=[.sh hA,.sh hB,.sh (UC k),.o (.l ((kC kn f).map D.int)),.o (.l ((kC kn g).map D.int)),t5]/\iB t5=true/\∀a:Nat,a<i->f a=g a)
  (rg kn) 0 (λi d U hd hU=>by
   obtain⟨t5,rfl,h5,ha⟩:=hU;rw[lZ] at ha ⊢
   have hj:i<kn:=by
    have:=(RD.mp hd).1
    simpa using this
   have LF:d=.int i:=by(rw[jE,ZM hj] at hd;exact(ZD hd).symm)
   subst LF;refine⟨_,by simp only[kE,FD h5]<;>rfl, ?_⟩;have c1:=Z6 (k:=kn) (ok:=f) (q:=(i:Int)) (by lia) (by lia);have c2:=Z6 (k:=kn) (ok:=g) (q:=(i:Int)) (by lia) (by lia);refine⟨[.sh hA,.sh hB,.sh (UC k),.o (.l ((kC kn f).map D.int)),.o (.l ((kC kn g).map D.int)),.i i], ?_⟩;by_cases e:f i=g i
   ·refine .inl ⟨?_,_,rfl,rfl,λa z=>?_⟩
    ·rw[<- e] at c2
     generalize f (i:Int)=b at *
     unfold fV;clear hd hj ha h5 h1 h2 hi i0 e;cases b<;>walk_at "!cT eT UR VR ML GI EA"
    ·rcases Nat.lt_or_eq_of_le (Sr z) with z | z
     ·exact ha a z
     ·rw[z];exact e
   ·refine .inr ⟨.sh (.t [.int i,.int (if f (i:Int)=true then 1 else 2)]), ?_,_,rfl,by rw[Hv ha hj e];rfl⟩;unfold fV
    generalize f (i:Int)=b at *
    generalize g (i:Int)=b2 at *
    cases b<;>cases b2
    ·exact(e rfl).elim
    ·walk_at "!cT eT UR VR ML GI EA"
    ·walk_at "!cT eT UR VR ML GI EA"
    ·exact(e rfl).elim)
  [.sh hA,.sh hB,.sh (UC k),.o (.l ((kC kn f).map D.int)),.o (.l ((kC kn g).map D.int)),.un] ⟨_,rfl,rfl,λa z=>absurd z (XY a)⟩
 rw[EA,vU,lZ] at q;rcases q with ⟨e,t5,rfl,h5,ha⟩ | ⟨v,e,t5,rfl,rfl⟩
 ·rw[ze ha]
  walk_at "!cT eT UR VR ML GI EA"
  rfl
 ·generalize eI (fI kn f g)=d at *
  walk_at "!cT eT UR VR ML GI EA"
end
noncomputable def dH(ap:L2.aB->Option (Int×Int))(M:MC L2.aB):Option (List Int×Int):=M.findSome? λe=>(ap e.1).map λp=>(e.2++[p.1],p.2)
def UH(M:MC L2.aB):D:=.GC (M.map DB)
def QI(ap:L2.aB->Option (Int×Int))(M:MC L2.aB):D:=match dH ap M with
 |some p=>.t [.str "apart",.l (p.1.map D.int),.int p.2]
 |none=>.t [.str "alike",UH M]
def Zk:Option D->Out RV
 |some d=>.ok (.sh d)
 |none=>.ex ⟨"TooMany",none⟩
def oAa{M:MC L2.aB}:(M.map BC).all uZ=true:=by
 rw[oZ];exact YF.mpr λ_ _=>rfl
def zj{M:MC L2.aB}:(M.map BC).map RI=M.map DB:=by rw[JU];rfl
section
variable{W n:Nat}{H1 H2:D}{no:Int}{ap:L2.aB->Option (Int×Int)}{V:L2.aB->Prop}{M:MC L2.aB}
theorem uf(yS:∀k,V k->"o"|||n+1|||[.sh H1,.sh H2,.sh (UC k)]|||.sh (eI (ap k)))(nd:(M.map (·.1)).Nodup):∀(B:MC L2.aB) (t3 t4:Sl),iB t3=true->iB t4=true->(∀f∈B,f∈M/\V f.1/\f.2.length<=152) ->
  ∃Ma Na,RC (oB true [3]) (IA T.aA (run T W (n+1)) W xP) (B.map DB) [.sh H1,.sh H2,.sh (.ZA (M.map BC) (M.map dD)),t3,t4]=some (match dH ap B with | some p=>.rt (.sh (.t [.str "apart",.l (p.1.map D.int),.int p.2])) | none=>.nx,[.sh H1,.sh H2,.sh (.ZA (M.map BC) (M.map dD)),Ma,Na])
 |[],t3,t4,_,_,_=>⟨t3,t4,rfl⟩
 |f::B,t3,t4,h3,h4,hB=>by
  obtain⟨g1,g2,g3⟩:=hB f (qE ..);have ha:=yS f.1 g2
  have e0:oB true [3] (DB f) [.sh H1,.sh H2,.sh (.ZA (M.map BC) (M.map dD)),t3,t4]=some [.sh H1,.sh H2,.sh (.ZA (M.map BC) (M.map dD)),.sh (UC f.1),t4]:=by(simp only[kE,FD h3]<;>rfl)
  rw[KC];unfold dH;rw[qc]
  cases c:ap f.1 with
  |none =>
   rw[c] at ha
   have e1:IA T.aA (run T W (n+1)) W xP [.sh H1,.sh H2,.sh (.ZA (M.map BC) (M.map dD)),.sh (UC f.1),t4]=some (.nx,[.sh H1,.sh H2,.sh (.ZA (M.map BC) (M.map dD)),.sh (UC f.1),.sh .lA]):=by
    unfold xP;have c0:wB .IsNot (eI none) .lA=some false:=rfl
    generalize M.map BC=ks at *
    generalize M.map dD=vs at *
    generalize UC f.1=pd at *
    walk_at "!"
    rfl
   obtain⟨Ma,Na,e2⟩:=uf yS nd B (.sh (UC f.1)) (.sh .lA) rfl rfl λg hg=>hB g (fD _ hg)
   refine⟨Ma,Na, ?_⟩;simp only[RC,e0,e1];exact e2
  |some p =>
   rw[c] at ha;refine⟨.sh (UC f.1),.sh (eI (some p)), ?_⟩;have hl:=E8 (N:=[]) nd g1;rw[JC] at hl;have hW:RB (some (.ZA (M.map BC) (M.map dD))) (UC f.1)=some (.sh (.l (f.2.map D.int))):=ni zT hl
   have ZV:uC .Add (.l (f.2.map D.int)) (.l [.int p.1])=some (.ow (.l ((f.2++[p.1]).map D.int))):=by(rw[vP (qG (by simp;lia)),ZU])
   have e1:IA T.aA (run T W (n+1)) W xP [.sh H1,.sh H2,.sh (.ZA (M.map BC) (M.map dD)),.sh (UC f.1),t4]=some (.rt (.sh (.t [.str "apart",.l ((f.2++[p.1]).map D.int),.int p.2])),[.sh H1,.sh H2,.sh (.ZA (M.map BC) (M.map dD)),.sh (UC f.1),.sh (eI (some p))]):=by
    unfold xP;have c0:wB .IsNot (eI (some p)) .lA=some true:=rfl;have j0:RB (some (eI (some p))) (.int 0)=some (.i p.1):=rfl;have j1:RB (some (eI (some p))) (.int 1)=some (.i p.2):=rfl
    generalize M.map BC=ks at *
    generalize M.map dD=vs at *
    generalize UC f.1=pd at *
    generalize (f.2++[p.1]).map D.int=l2 at *
    generalize f.2.map D.int=lf at *
    generalize eI (some p)=da at *
    walk_at "!"
   simp only[RC,e0,e1];rfl
def ny(i1:RB (some H1) (.int 0)=some (.i no))(i2:RB (some H2) (.int 0)=some (.i no))(hr:"k"|||n+1|||[.sh H1,.sh H2]|||.ow (.ZA (M.map BC) (M.map dD)))
  (yS:∀k,V k->"o"|||n+1|||[.sh H1,.sh H2,.sh (UC k)]|||.sh (eI (ap k))) (nd:(M.map (·.1)).Nodup) (hV:∀e∈M,V e.1/\e.2.length<=152) :
  "b"|||n+2|||[.sh H1,.sh H2]|||.sh (QI ap M):=by
 exists FV
 have c:wB .NotEq (.int no) (.int no)=some false:=yP rfl;obtain⟨t3,t4,e⟩:=uf yS nd M .un .un rfl rfl λf hf=>⟨hf,hV f hf⟩
 have hi:∀{U:Env},aAb .key [.val (.sh (.ZA (M.map BC) (M.map dD)))] U=some (M.map DB,none):=λ{U}=>by rw[iFa,zj]
 have kH:WE .sorted [.ZA (M.map BC) (M.map dD)]=some (.sh (.GC (M.map DB))):=by rw[Hw oAa,zj]
 unfold QI UH;clear yS nd hV
 generalize M.map BC=ks at *
 generalize M.map dD=vs at *
 generalize M.map DB=dA at *
 cases cc:dH ap M with
 |some p =>
  rw[cc] at e
  walk_at "!"
 |none =>
  rw[cc] at e
  walk_at "!"
def my(i1:RB (some H1) (.int 0)=some (.i no))(i2:RB (some H2) (.int 0)=some (.i no))(h:run T W (n+1) "k" [.sh H1,.sh H2]=some (.ex ⟨"TooMany",none⟩,[.sh H1,.sh H2])) :
  run T W (n+2) "b" [.sh H1,.sh H2]=some (.ex ⟨"TooMany",none⟩,[.sh H1,.sh H2]):=by
 exists FV
 have c:wB .NotEq (.int no) (.int no)=some false:=yP rfl
 walk_at "!"
 rfl
end
def cFa:"w"|||n+1|||[.i i]|||.b true:=by
 exists M4
 walk_at "!"
def w1a(h1:a<=i)(h2:i<=b):"x"|||n+2|||[.i i,.i a,.i b]|||.b true:=by
 exists N4
 have c1:decide (a<=i)=true:=jC h1;have c2:decide (i<=b)=true:=jC h2
 walk_at "!cFa"
def DX{c:Nat}:BL (some (.t ds)) none (some (.int c))=some (.sh (.t (ds.take c))):=by
 show some (RV.sh (.t (aAz ds none (some (c:Int)))))=_;unfold aAz;rw[HT.yX,HT.L9,Wc,Nat.sub_zero];by_cases h:c<=ds.length
 ·rw[YY h]
 ·rw[Hs (by lia),KO (mB _),KO (by lia)]
def Ym{c:Nat}:BL (some (.t ds)) (some (.int c)) none=some (.sh (.t (ds.drop c))):=by
 show some (RV.sh (.t (aAz ds (some (c:Int)) none)))=_;unfold aAz;rw[HT.yX,HT.L9];by_cases h:c<=ds.length
 ·rw[YY h,KO (by rw[mR];lia)]
 ·rw[Hs (by lia),HU,cZ,List.drop_of_length_le (by lia)]
section
variable{no ba oc:Int}{fs:List (Int×Int×Bool)}{m kn:Nat}
structure FR(no ba oc:Int)(fs:List (Int×Int×Bool))(m kn:Nat):Prop where
 ho:ZG no ba oc fs
 hm:jJ fs=(m:Int)
 h3:3<=m
 h5:m<=5
 hk:no=(kn:Int)
def RO(no ba oc:Int)(fs:List (Int×Int×Bool))(m:Nat)(d:D):Prop:=∃x:D×Br,∀rs,RX no ba oc fs rs m (d,x.1,x.2)
noncomputable def rp(no ba oc:Int)(fs:List (Int×Int×Bool))(m:Nat)(d:D):RP:=(d,Classical.epsilon λ(x:D×Br)=>∀rs,RX no ba oc fs rs m (d,x.1,x.2))
def qVa(h:RO no ba oc fs m d)(rs:List D):RX no ba oc fs rs m (rp no ba oc fs m d):=Classical.epsilon_spec (p:=λ(x:D×Br)=>∀rs,RX no ba oc fs rs m (d,x.1,x.2)) h rs
def tF(no ba oc:Int)(fs:List (Int×Int×Bool))(m:Nat)(k:L2.aB)(q:Int)(d:D):Bool:=((rp no ba oc fs m d).2.2 (sI k++[q]) (sI k).length).isEmpty
def tD(no ba oc:Int)(fs:List (Int×Int×Bool))(m:Nat)(ds:List D)(k:L2.aB)(q:Int):Bool:=ds.all (tF no ba oc fs m k q)
def S8:lH (ds.map (rp no ba oc fs m)) (sI k)=tD no ba oc fs m ds k:=by
 funext q
 unfold lH tD;rw[Pe,oZ];rfl
theorem FR.hd(F:FR no ba oc fs m kn)(h:∀d∈ds,RO no ba oc fs m d)(hl:ds.length<=8):HD (uA no ba oc fs ds) no ba m kn (ds.map (rp no ba oc fs m)) :=
 ⟨oc,fs,ds,rfl,F.ho,F.hm,F.h3,F.h5,F.hk,by rw[JU];exact List.map_id _,λp hp=>by
  obtain⟨d,hd,rfl⟩:=EF.mp hp
  exact qVa (h d hd) ds,hl⟩
def Q8(m:Nat)(ba:Int)(k:L2.aB)(q:Int):L2.aB:=NX m ba (sI k++[q])
def rS(no ba oc:Int)(fs:List (Int×Int×Bool))(m kn:Nat)(ds es:List D)(k:L2.aB):List Int:=kC kn λq=>tD no ba oc fs m ds k q&&tD no ba oc fs m es k q
def oF(no ba oc:Int)(fs:List (Int×Int×Bool))(m kn:Nat)(ds es:List D):Option (MC L2.aB):=SK (rS no ba oc fs m kn ds es) (Q8 m ba) 152 [(yE,[])] [(yE,[])]
def cG(no ba oc:Int)(fs:List (Int×Int×Bool))(m kn:Nat)(ds es:List D)(k:L2.aB):Option (Int×Int):=fI kn (tD no ba oc fs m ds k) (tD no ba oc fs m es k)
theorem JV:(kC kn ok).Pairwise (·<·):=by
 unfold kC;refine List.pairwise_map.mpr (List.Pairwise.imp (λ{x y} h=>?_) (List.Pairwise.filter _ List.pairwise_lt_range))
 lia
theorem FR.v0(F:FR no ba oc fs m kn):VK no ba m yE:=⟨Int.le_refl _,by have:=F.ho.b1;have:=F.h3;show(0:Int)<=_;lia,by
 show((0:Nat):Int)=if(m:Int)<0 then(m:Int) else 0
 rw[LA (by lia)];rfl,λ_ z=>nomatch z⟩
theorem FR.pb(F:FR no ba oc fs m kn)(h:∀d∈ds,RO no ba oc fs m d)(hl:ds.length<=8)(h':∀d∈es,RO no ba oc fs m d)(iH:es.length<=8) :
  PB W (j+6) (uA no ba oc fs ds) (uA no ba oc fs es) (rS no ba oc fs m kn ds es) (Q8 m ba) (VK no ba m) where
 nb:=λk hk=>by(have h1:=ZW (W:=W) (n:=j) (F.hd h hl) hk;have h2:=ZW (W:=W) (n:=j) (F.hd h' iH) hk;unfold B5 at h1 h2;rw[S8] at h1 h2;exact ax (n:=j+5) (F.hd h hl).k7 h1 h2)
 pb:=λk q hk=>nQa (n:=j+5) (Fe (n:=j+2) (F.hd h hl) hk) (Fe (n:=j+2) (F.hd h' iH) hk)
 vn:=λk q hk hq=>(F.hd h hl).next (((F.hd h hl).line hk).app (In.one (by have:=sg hq;have:=F.hk;lia)))
 fl:=λk=>XC IV (F.hd h hl).k7
def Af(F:FR no ba oc fs m kn)(h:∀d∈ds,RO no ba oc fs m d)(hl:ds.length<=8)(h':∀d∈es,RO no ba oc fs m d)(iH:es.length<=8) :
  run T (W+200) (j+9) "b" [.sh (uA no ba oc fs ds),.sh (uA no ba oc fs es)]=some (Zk ((oF no ba oc fs m kn ds es).map (QI (cG no ba oc fs m kn ds es))),[.sh (uA no ba oc fs ds),.sh (uA no ba oc fs es)]):=by
 unfold oF;rcases rJa (F.pb (W:=W+200) h hl h' iH) (λs=>JV) F.v0 with ⟨M,e,hV,hM,hr⟩ | ⟨e,hr⟩
 ·rw[e];have nd:=(iV (λs=>JV) 152 [] [(yE,[])] M jV e).1.nd;rw[JC] at nd
  exact ny (n:=j+7) rfl rfl hr (λk hk=>by
   have:=R_ (W:=W+200) (n:=j+1) (F.hd h hl) (F.hd h' iH) hk
   rw[S8,S8] at this
   exact this) nd hV
 ·rw[e];exact my (n:=j+7) rfl rfl hr
theorem z8{a:Nat}(hl:ds.length<=100)(ha:a<ds.length) :
  "p"|||n+3|||[.sh (uA no ba oc fs ds),.i a]|||.sh (uA no ba oc fs (ds.eraseIdx a)):=by
 exists O4
 have i0:RB (some (uA no ba oc fs ds)) (.int 0)=some (.i no):=rfl;have i1:RB (some (uA no ba oc fs ds)) (.int 1)=some (.i ba):=rfl;have i2:RB (some (uA no ba oc fs ds)) (.int 2)=some (.i oc):=rfl;have i3:RB (some (uA no ba oc fs ds)) (.int 3)=some (.sh (.t (fs.map toD))):=rfl;have i4:RB (some (uA no ba oc fs ds)) (.int 4)=some (.sh (.t ds)):=rfl;have hw:=w1a (W:=W) (n:=n) (i:=(a:Int)) (a:=0) (b:=(ds.length:Int)-1) (by lia) (by lia);have s1:=DX (ds:=ds) (c:=a);have s2:=Ym (ds:=ds) (c:=a+1);rw[Ss,show((1:Nat):Int)=1 from rfl] at s2
 have hc:uC .Add (.t (ds.take a)) (.t (ds.drop (a+1)))=some (.sh (.t (ds.eraseIdx a))):=by
  rw[LU]
  cases q:ds.take a with
  |nil=>rfl
  |cons x xs =>
   have:=congrArg uJ q
   rw[ZH,QC] at this;rw[M0 (qG (by rw[mR];lia))]
 have e:uA no ba oc fs (ds.eraseIdx a)=.t [.int no,.int ba,.int oc,.t (fs.map toD),.t (ds.eraseIdx a)]:=rfl;rw[e]
 generalize uA no ba oc fs ds=H at *
 generalize ds.eraseIdx a=es at *
 generalize ds.take a=d1 at *
 generalize ds.drop (a+1)=d2 at *
 generalize (a:Int)=kk at *
 walk_at "!"
def eK(ap:L2.aB->Option (Int×Int))(M:MC L2.aB):D:=match dH ap M with
 |some p=>.t [.str "needed",.l (p.1.map D.int)]
 |none=>.t [.str "follows",UH M]
def uI(no ba oc:Int)(fs:List (Int×Int×Bool))(m kn:Nat)(ds:List D)(a:Nat):Option D:=(oF no ba oc fs m kn (ds.eraseIdx a) ds).map (eK (cG no ba oc fs m kn (ds.eraseIdx a) ds))
def TX:((wA "alike")==(wA "apart"))=false:=by decide +kernel
theorem dMa{W j:Nat}(F:FR no ba oc fs m kn){ds:List D}{a:Nat}(h:∀d∈ds,RO no ba oc fs m d)(hl:ds.length<=8)(ha:a<ds.length) :
  run T (W+200) (j+10) "q" [.sh (uA no ba oc fs ds),.i a]=some (Zk (uI no ba oc fs m kn ds a),[.sh (uA no ba oc fs ds),.i a]):=by
 have h1:=z8 (W:=W+200) (n:=j+6) (no:=no) (ba:=ba) (oc:=oc) (fs:=fs) (ds:=ds) (a:=a) (by lia) ha;have h2:=Af (W:=W) (j:=j) F (ds:=ds.eraseIdx a) (es:=ds) (λd hd=>h d (ZQ hd)) (by rw[nU];split<;>lia) h hl;rw[Qm (fn:=qS) rfl rfl rfl];unfold uI;clear h hl ha F
 generalize uA no ba oc fs ds=H at *
 generalize uA no ba oc fs (ds.eraseIdx a)=H' at *
 generalize (a:Int)=kk at *
 generalize cG no ba oc fs m kn (ds.eraseIdx a) ds=ap at *
 generalize oF no ba oc fs m kn (ds.eraseIdx a) ds=o at *
 cases o with
 |none =>
  replace h2:run T (W+200) (j+9) "b" [.sh H',.sh H]=some (.ex ⟨"TooMany",none⟩,[.sh H',.sh H]):=h2;show _=some (Out.ex ⟨"TooMany",none⟩,_);unfold aAL qS
  walk_at "!TX"
  try rfl
 |some M =>
  replace h2:run T (W+200) (j+9) "b" [.sh H',.sh H]=some (.ok (.sh (QI ap M)),[.sh H',.sh H]):=h2;show _=some (Out.ok (RV.sh (eK ap M)),_);unfold qS;unfold QI at h2;unfold eK
  generalize UH M=so at *
  cases c:dH ap M with
  |none =>
   rw[c] at h2;replace h2:run T (W+200) (j+9) "b" [.sh H',.sh H]=some (.ok (.sh (.t [.str "alike",so])),[.sh H',.sh H]):=h2
   walk_at "!TX"
   try rfl
  |some p =>
   rw[c] at h2;replace h2:run T (W+200) (j+9) "b" [.sh H',.sh H]=some (.ok (.sh (.t [.str "apart",.l (p.1.map D.int),.int p.2])),[.sh H',.sh H]):=h2
   walk_at "!TX"
   try rfl
def ku:o8 P C CP i e (some (.ex x,U')) (some (⟨"TooMany",none⟩,U))=(ev P C false e U).VB λv U2=>JF (store i v U2):=by
 show(if CP.contains (wA "TooMany")=true then _ else none)=_;exact GA ay
def qb{W j:Nat}(F:FR no ba oc fs m kn){a:Nat}(h:∀d∈ds,RO no ba oc fs m d)(hl:ds.length<=8)(ha:a<ds.length) :
  run T (W+200) (j+11) "f" [.sh (uA no ba oc fs ds),.i a]=some (.ok (.sh ((uI no ba oc fs m kn ds a).getD .lA)),[.sh (uA no ba oc fs ds),.i a]):=by
 have h1:=dMa (W:=W) (j:=j) F h hl ha
 exists j4
 generalize uA no ba oc fs ds=H at *
 generalize (a:Int)=kk at *
 generalize uI no ba oc fs m kn ds a=o at *
 cases o with
 |none =>
  replace h1:run T (W+200) (j+10) "q" [.sh H,.i kk]=some (.ex ⟨"TooMany",none⟩,[.sh H,.i kk]):=h1
  walk_at "!ku"
  try rfl
 |some d =>
  replace h1:run T (W+200) (j+10) "q" [.sh H,.i kk]=some (.ok (.sh d),[.sh H,.i kk]):=h1
  walk_at "!ku"
  try rfl
def rJ(no ba oc:Int)(fs:List (Int×Int×Bool))(m kn:Nat)(ds es:List D):D:=((oF no ba oc fs m kn ds es).map (QI (cG no ba oc fs m kn ds es))).getD (.t [.str "many",.l []])
def Eb(F:FR no ba oc fs m kn)(h:∀d∈ds,RO no ba oc fs m d)(hl:ds.length<=8)(h':∀d∈es,RO no ba oc fs m d)(iH:es.length<=8) :
  run T (W+200) (j+10) "h" [.sh (uA no ba oc fs ds),.sh (uA no ba oc fs es)]=some (.ok (.sh (rJ no ba oc fs m kn ds es)),[.sh (uA no ba oc fs ds),.sh (uA no ba oc fs es)]):=by
 have h1:=Af (W:=W) (j:=j) F h hl h' iH
 exists l4
 unfold rJ
 generalize uA no ba oc fs ds=H at *
 generalize uA no ba oc fs es=H' at *
 generalize (oF no ba oc fs m kn ds es).map (QI (cG no ba oc fs m kn ds es))=o at *
 cases o with
 |none =>
  replace h1:run T (W+200) (j+9) "b" [.sh H,.sh H']=some (.ex ⟨"TooMany",none⟩,[.sh H,.sh H']):=h1
  walk_at "!ku"
  try rfl
 |some d =>
  replace h1:run T (W+200) (j+9) "b" [.sh H,.sh H']=some (.ok (.sh d),[.sh H,.sh H']):=h1
  walk_at "!ku"
  try rfl
end
noncomputable def JP:D->Bool
 |.int _=>true
 |.str _=>true
 |_=>false
def RF(d:D):Prop:=∃ds,d=.t ds/\ds.all JP=true
def U_(h:JP d=true):eC n d=true:=by
 cases d with
 |int=>cases n<;>rfl
 |str=>cases n<;>rfl
 |_=>cases h
def RF.ok(h:RF d):eC (n+1) d=true:=by
 obtain⟨ds,rfl,h⟩:=h;exact YF.mpr λx hx=>U_ (YF.mp h x hx)
def RF.all(h:∀d∈ds,RF d):eC (n+2) (.l ds)=true:=YF.mpr λd hd=>(h d hd).ok
theorem Vf:∀{ds es:List D},ds.all JP=true->es.all JP=true->YK ds es=true->ds=es
 |[],[],_,_,_=>rfl
 |[],_::_,_,_,h=>nomatch h
 |_::_,[],_,_,h=>nomatch h
 |d::ds,e::es,h,h',k=>by
  rw[WC,WA] at h h';replace k:(pF d e&&YK ds es)=true:=k;rw[WA] at k;rw[Vf h.2 h'.2 k.2];congr 1
  cases d with
  |int a =>
   cases e with
   |int b=>exact congrArg D.int (EC k.1)
   |str b=>exact nomatch k.1
   |_=>exact nomatch h'.1
  |str a =>
   cases e with
   |str b=>exact congrArg D.str (EC k.1)
   |int b=>exact nomatch k.1
   |_=>exact nomatch h'.1
  |_=>exact nomatch h.1
def RF.eq(h:RF d)(h':RF e):wB .Eq d e=some (@decide (d=e) (cl _)):=by
 rw[GN h.ok h'.ok];congr 1;by_cases z:d=e
 ·rw[@jC _ (cl _) z,<- z];exact CV 20 d h.ok
 ·rw[@WB _ (cl _) z,Bool.eq_false_iff];intro k;obtain⟨ds,rfl,h⟩:=h;obtain⟨es,rfl,h'⟩:=h';exact z (congrArg D.t (Vf h h' k))
def FQ(h:(x==(wA "above"))=false):wB .NotEq (.str x) (.str "above")=some true:=by
 rw[N1 rfl rfl];show some (!(x==_))=_;rw[h];rfl
section
variable{W n:Nat}{k s:Int}{no ba oc:Int}{vs rs rA:List D}{d:D}
def IP(hi:RB (some d) (.int 0)=some (.s x))(hx:wB .NotEq (.str x) (.str "above")=some true)(hs:GB (rA.length+1)=true) :
  IA T.aA (run T W n) W CN [.p (.l [.int k,.int s]),.i no,.i ba,.i oc,.sh (.t vs),.sh (.t rs),.o (.l rA),.sh d]=some (.nx,[.p (.l [.int k,.int s]),.i no,.i ba,.i oc,.sh (.t vs),.sh (.t rs),.o (.l (rA++[d])),.sh d]):=by
 unfold CN
 walk_at "!C3"
def L_(hs:GB (rA.length+1)=true) :
  IA T.aA (run T W n) W CN [.p (.l [.int k,.int s]),.i no,.i ba,.i oc,.sh (.t vs),.sh (.t rs),.o (.l rA),.sh (.t [.str "above",.int v,.int w])]=some (.nx,[.p (.l [.int k,.int s]),.i no,.i ba,.i oc,.sh (.t vs),.sh (.t rs),.o (.l (rA++if decide ((if w > v then w else v)<=(vs.length:Int))=true then [.t [.str "above",.int v,.int w]] else [])),.sh (.t [.str "above",.int v,.int w])]):=by
 have hx:wB .NotEq (.str "above") (.str "above")=some false:=yP rfl;have s1:BL (some (.t [.str "above",.int v,.int w])) (some (.int 1)) none=some (.sh (.t [.int v,.int w])):=Ym (ds:=[.str "above",.int v,.int w]) (c:=1);have hi:RB (some (.t [.str "above",.int v,.int w])) (.int 0)=some (.s "above"):=rfl;unfold CN
 generalize D.t [.str "above",.int v,.int w]=d at *
 cases c:decide ((if w > v then w else v)<=(vs.length:Int)) with
 |true =>
  rw[GA rfl]
  walk_at "!C3"
 |false =>
  rw[LA (by decide),JC]
  walk_at "!C3"
def aA0:∀y∈(a++if b=true then [x] else []),y∈a\/(b=true/\y=x):=λy hy=>by
 rcases VE.mp hy with hy | hy
 ·exact .inl hy
 ·cases b with
  |true=>exact .inr ⟨rfl,DC.mp hy⟩
  |false=>exact nomatch hy
theorem M_{fs aQ:List (Int×Int×Bool)}(ho:ZG no' ba oc aQ)(hv:vs.length=aQ.length)(h:DH no ba oc (fs.length:Int) d)(hs:GB (rA.length+1)=true) :
  ∃b:Bool,IA T.aA (run T W n) W CN [.p (.l [.int k,.int s]),.i no,.i ba,.i oc,.sh (.t vs),.sh (.t rs),.o (.l rA),.sh d]=some (.nx,[.p (.l [.int k,.int s]),.i no,.i ba,.i oc,.sh (.t vs),.sh (.t rs),.o (.l (rA++if b=true then [d] else [])),.sh d])/\(b=true->RO no' ba oc aQ m d/\RF d):=by
 cases h with
 |span a b h1 h2 h3 h4=>exact⟨true,IP rfl (FQ Ka) hs,λ_=>⟨⟨(_,_),λrs=>mWa ho h3⟩,_,rfl,rfl⟩⟩
 |leap a h1 h2=>exact⟨true,IP rfl (FQ Ha) hs,λ_=>⟨⟨(_,_),λrs=>jWa⟩,_,rfl,rfl⟩⟩
 |back a b h1 h2 h3 h4=>exact⟨true,IP rfl (FQ Ga) hs,λ_=>⟨⟨(_,_),λrs=>iWa ho⟩,_,rfl,rfl⟩⟩
 |again a h1 h2 =>
  obtain⟨j,rfl⟩:∃j:Nat,a=(j:Int):=⟨a.toNat,by omega⟩
  exact⟨true,IP rfl (FQ Ea) hs,λ_=>⟨⟨(_,_),λrs=>hWa (by omega)⟩,_,rfl,rfl⟩⟩
 |range a b h1 h2 h3=>exact⟨true,IP rfl (FQ Ja) hs,λ_=>⟨⟨(_,_),λrs=>lWa ho⟩,_,rfl,rfl⟩⟩
 |above v w h1 h2 h3 =>
  refine⟨_,L_ hs,λz=>?_⟩;have z:=kR z;rw[hv] at z;have z1:(v:Int)<=aQ.length:=by split at z<;>omega
  have z2:(w:Int)<=aQ.length:=by split at z<;>omega
  exact⟨⟨(_,_),λrs=>gWa z1 z2⟩,_,rfl,rfl⟩
 |never a b x h1 h2 h3 h4 h5=>exact⟨true,IP rfl (FQ Ia) hs,λ_=>⟨⟨(_,_),λrs=>kWa ho h5⟩,_,rfl,rfl⟩⟩
theorem N_:∃s' no ba oc fs m kn ds,run T W (n+4) "G" [.p (.l [.int k,.int s])]=some (.ok (.sh (uA no ba oc fs ds)),[.p (.l [.int k,.int s'])])/\FR no ba oc fs m kn/\(∀d∈ds,RO no ba oc fs m d/\RF d)/\ds.length<=5:=by
 obtain⟨s',no,ba,oc,fs,rs,hr,ho,hl,hd⟩:=bDa (W:=W) (n:=n) (k:=k) (s:=s);have n1:=ho.n1;have n2:=ho.n2;have l1:=ho.l1;have HG:ZG (if 4<no then 4 else no) ba oc (fs.take 2):=⟨by split<;>lia,by split<;>lia,ho.b1,ho.b2,ho.o1,ho.o2,by rw[ZH];lia,by rw[ZH];lia,λf hf=>ho.f f (Xb hf)⟩
 obtain⟨m,hm,h3,h5⟩:=kKa HG;have hv:((fs.map toD).take 2).length=(fs.take 2).length:=by rw[ZH,ZH,EA]
 have e1:=DX (ds:=fs.map toD) (c:=2);have e2:=DX (ds:=rs) (c:=5);have hi:∀{U:Env},aAb .of [.val (.sh (.t (rs.take 5)))] U=some (rs.take 5,none):=G7 rfl
 obtain⟨U',e,rA,t7,rfl,h7,ha,lh⟩:=fO (bind:=oB true [7]) (body:=IA T.aA (run T W (n+3)) W CN)
  (λpre U=>∃rA t7,U=[.p (.l [.int k,.int s']),.i no,.i ba,.i oc,.sh (.t ((fs.map toD).take 2)),.sh (.t rs),.o (.l rA),t7]/\iB t7=true/\(∀d∈rA,RO (if 4<no then 4 else no) ba oc (fs.take 2) m d/\RF d)/\rA.length<=pre.length)
  (ds:=rs.take 5) (λpre d post ED U hU=>by
   obtain⟨rA,t7,rfl,h7,ha,lh⟩:=hU
   have hz:pre.length<=5:=by
    have:=congrArg uJ ED
    rw[ZH,oC] at this
    lia
   have hdm:d∈rs:=Xb (by rw[ED];exact XF _ (qE ..));obtain⟨b,e,hb⟩:=M_ (W:=W) (n:=n+3) (s:=s') (rs:=rs) (rA:=rA) (m:=m) HG hv (hd d hdm) (QE (by lia));refine⟨_,by simp only[kE,FD h7]<;>rfl,_,e,_,_,rfl,rfl,λy hy=>?_, ?_⟩
   ·rcases aA0 y hy with hy | ⟨hz,rfl⟩
    ·exact ha y hy
    ·exact hb hz
   ·rw[oC,oC,oN]
    split<;>simp<;>lia)
  (U:=[.p (.l [.int k,.int s']),.i no,.i ba,.i oc,.sh (.t ((fs.map toD).take 2)),.sh (.t rs),.o (.l []),.un]) ⟨[],_,rfl,rfl,(λ_ z=>nomatch z),mB _⟩
 refine⟨s',if 4<no then 4 else no,ba,oc,fs.take 2,m,(if 4<no then 4 else no).toNat,rA, ?_,⟨HG,hm,h3,h5,by split<;>lia⟩,ha,by rw[ZH] at lh;lia⟩
 exists T3
 unfold uA;rw[md];replace e1:BL (some (.t (fs.map toD))) none (some (.int 2))=some (.sh (.t ((fs.map toD).take 2))):=e1;replace e2:BL (some (.t rs)) none (some (.int 5))=some (.sh (.t (rs.take 5))):=e2
 generalize (fs.map toD).take 2=vs at *
 generalize fs.map toD=vf at *
 generalize rs.take 5=r5 at *
 walk_at "!"
end
section
variable{W n:Nat}{k s:Int}{no ba oc:Int}{fs:List (Int×Int×Bool)}
theorem kSa{q:Nat}(hr:run T W (n+1) "a" [.p (.l [.int k,.int s]),.i rs.length]=some (.ok (.i q),[.p (.l [.int k,.int s']),.i rs.length]))(hq:rs[q]?=some d)(hl:q<=1000)(hs:GB (rA.length+1)=true) :
  IA T.aA (run T W (n+1)) W eV [.sh H,.p (.l [.int k,.int s]),.o (.l rs),.o (.l rA)]=some (.nx,[.sh H,.p (.l [.int k,.int s']),.o (.l (rs.eraseIdx q)),.o (.l (rA++[d]))]):=by
 have hp:∀U:Env,i8 2 (.i q) U (some (.o (.l rs)))=some (.ok (.sh d),U.set 2 (.o (.l (rs.eraseIdx q)))):=λU=>by(rw[rHa (by lia) (by lia) (by rw[EK];exact hq),EK])
 unfold eV
 generalize rs.eraseIdx q=r2 at *
 walk_at "!"
def aMa(h:∀d∈rs,RF d):wB .NotEq (.l rs) (.l [])=some (!rs.isEmpty):=by
 rw[N1 (RF.all h) rfl];cases rs<;>rfl
theorem Pl(c:Nat):∀(j:Nat) (rs rA:List D) (s:Int),rs.length<=j->j<=8->rA.length+rs.length<=8->(∀d∈rs,RF d)->∃s' GD,rF (ev T.aA (run T W (n+1)) true (.FA .NotEq (.v 2) (.l []))) (IA T.aA (run T W (n+1)) W eV) (j+1+c) [.sh H,.p (.l [.int k,.int s]),.o (.l rs),.o (.l rA)]=some (.nx,[.sh H,.p (.l [.int k,.int s']),.o (.l []),.o (.l GD)])/\GD.Perm (rA++rs)
 |j,rs,rA,s,hj,h8,hl,hf=>by
  have ht:ev T.aA (run T W (n+1)) true (.FA .NotEq (.v 2) (.l [])) [.sh H,.p (.l [.int k,.int s]),.o (.l rs),.o (.l rA)]=some (.ok (.b (!rs.isEmpty)),[.sh H,.p (.l [.int k,.int s]),.o (.l rs),.o (.l rA)]):=by
   have:=aMa hf
   generalize (!rs.isEmpty)=b at *
   clear hf
   walk_at "!"
  rw[show j+1+c=(j+c)+1 by lia]
  cases hr:rs with
  |nil =>
   subst hr;refine⟨s,rA, ?_,by rw[JC]⟩;simp only[rF,ht,Gs,ML,xA.VB]
  |cons d0 r0 =>
   have hp:0<rs.length:=by rw[hr];simp
   have he:rs.isEmpty=false:=by rw[hr];rfl
   rw[he] at ht;rw[<- hr];clear hr;have g1:(0:Int)<(rs.length:Int):=by lia
   have v1:=sD (k:=k) (s:=s) g1;have v2:=pD (k:=k) (s:=s) g1;obtain⟨q,hq⟩:∃q:Nat,yB k s (rs.length:Int)=(q:Int):=⟨_,(MO v1).symm⟩
   have B6:q<rs.length:=by lia
   have hd:=eG (W:=W) (n:=n) (k:=k) (s:=s) g1 (by lia);rw[hq] at hd;have e:=kSa (H:=H) (rA:=rA) hd (gD B6) (by lia) (QE (by lia));obtain⟨j',rfl⟩:∃j',j=j'+1:=⟨j-1,by lia⟩
   have hle:(rs.eraseIdx q).length=rs.length-1:=by rw[nU,GA B6]
   obtain⟨s',GD,e2,hpm⟩:=Pl (H:=H) c j' (rs.eraseIdx q) (rA++[rs[q]]) (UA k s (rs.length:Int)) (by lia) (by lia) (by rw[oC,oN];lia) λd hd=>hf d (ZQ hd)
   refine⟨s',GD, ?_,hpm.trans ?_⟩
   ·simp only[rF,ht,GI,xA.VB,e];rw[show j'+1+c=j'+c+1 by lia] at e2 ⊢;exact e2
   ·rw[BJ];refine List.Perm.append_left rA ?_;rw[LU];have pm:(rs.take q++rs[q]::rs.drop (q+1)).Perm (rs[q]::(rs.take q++rs.drop (q+1))):=Js;rw[<- lP B6,Tb] at pm;exact pm.symm
theorem Bv(hf:∀d∈ds,RF d)(hl:ds.length<=5):∃s' es,run T (W+200) (n+2) "H" [.sh (uA no ba oc fs ds),.p (.l [.int k,.int s])]=some (.ok (.sh (uA no ba oc fs es)),[.sh (uA no ba oc fs ds),.p (.l [.int k,.int s'])])/\es.Perm ds:=by
 obtain⟨s',es,e,hp⟩:=Pl (W:=W+200) (n:=n) (k:=k) (H:=uA no ba oc fs ds) (W+194) 5 ds [] s hl (by decide) (by rw[wH];lia) hf;rw[WO] at hp;refine⟨s',es, ?_,hp⟩;rw[show 5+1+(W+194)=W+200 by lia] at e;have i4:RB (some (uA no ba oc fs ds)) (.int 4)=some (.sh (.t ds)):=rfl;have s4:BL (some (uA no ba oc fs ds)) none (some (.int 4))=some (.sh (.t [.int no,.int ba,.int oc,.t (fs.map toD)])):=DX (ds:=[.int no,.int ba,.int oc,.t (fs.map toD),.t ds]) (c:=4);have hc:uC .Add (.t [.int no,.int ba,.int oc,.t (fs.map toD)]) (.t [.t es])=some (.sh (uA no ba oc fs es)):=M0 yn
 exists Q3
 generalize uA no ba oc fs ds=H at *
 generalize uA no ba oc fs es=H' at *
 generalize D.t (fs.map toD)=vf at *
 walk_at "!"
end
section
variable{no ba oc:Int}{fs:List (Int×Int×Bool)}{m kn:Nat}{ds es OD IJ:List D}{k:L2.aB}{q:Int}
def Lk:tD no ba oc fs m ds k q=true↔∀d∈ds,tF no ba oc fs m k q d=true:=YF
def Kk(h:∀d,d∈es↔d∈ds):tD no ba oc fs m es=tD no ba oc fs m ds:=by
 funext k q
 rw[Pc,Lk,Lk];exact⟨λz d hd=>z d ((h d).mpr hd),λz d hd=>z d ((h d).mp hd)⟩
def kO(h:es.Perm ds):tD no ba oc fs m es=tD no ba oc fs m ds:=Kk λ_=>h.mem_iff
def IQ(h:ds.Perm (d::es)):tD no ba oc fs m ds k q=(tF no ba oc fs m k q d&&tD no ba oc fs m es k q):=by
 rw[kO h];rfl
def sf(h:tD no ba oc fs m ds=tD no ba oc fs m OD)(h':tD no ba oc fs m es=tD no ba oc fs m IJ):oF no ba oc fs m kn ds es=oF no ba oc fs m kn OD IJ:=by
 unfold oF rS;rw[h,h']
def we(h:tD no ba oc fs m ds=tD no ba oc fs m OD)(h':tD no ba oc fs m es=tD no ba oc fs m IJ):cG no ba oc fs m kn ds es=cG no ba oc fs m kn OD IJ:=by
 unfold cG;rw[h,h']
def x1a(h:tD no ba oc fs m ds=tD no ba oc fs m OD)(h':tD no ba oc fs m es=tD no ba oc fs m IJ):rJ no ba oc fs m kn ds es=rJ no ba oc fs m kn OD IJ:=by
 unfold rJ;rw[sf h h',we h h']
def qf(h:dH ap M=some p):∃e∈M,∃r,ap e.1=some r/\p=(e.2++[r.1],r.2):=by
 obtain⟨e,he,h⟩:=List.exists_of_findSome?_eq_some h;obtain⟨r,hr,h⟩:=VF.mp h;exact⟨e,he,r,hr,h.symm⟩
def ye(h:fI kn f g=some p):∃i:Nat,p.1=(i:Int)/\i<kn/\f i≠g i:=by
 unfold fI at h;obtain⟨i,hi,rfl⟩:=VF.mp h
 have:=Pb.mp hi
 exact⟨i,rfl,iN.mp this.2.1,bne_iff_ne.mp this.1⟩
theorem Gv(hi:i<kn)(h:f i≠g i):∃p,fI kn f g=some p/\p.1<=(i:Int):=by
 unfold fI
 cases c:(vC kn).find? λ(j:Nat)=>f (j:Int) != g (j:Int) with
 |none =>
  have:=tq.mp c i hi
  rw[bne_iff_ne.mpr h] at this;cases this
 |some j =>
  refine⟨_,rfl, ?_⟩
  have:=Pb.mp c
  show(j:Int)<=i;rcases Nat.lt_or_ge i j with z | z
  ·have:=this.2.2 i z
   rw[bne_iff_ne.mpr h] at this;cases this
  ·lia
def y1a(h:es.Perm ds):rJ no ba oc fs m kn ds es=match oF no ba oc fs m kn ds es with | some M=>.t [.str "alike",UH M] | none=>.t [.str "many",.l []]:=by
 unfold rJ
 cases oF no ba oc fs m kn ds es with
 |none=>rfl
 |some M =>
  show QI _ M=_;unfold QI
  have:dH (cG no ba oc fs m kn ds es) M=none:=by(unfold dH;rw[List.findSome?_eq_none_iff];intro e _;unfold cG;rw[kO h,ze λ_ _=>rfl];rfl)
  rw[this]
def z1a:∃z r,rJ no ba oc fs m kn ds es=.t (.str z::r):=by
 unfold rJ
 cases oF no ba oc fs m kn ds es with
 |none=>exact⟨_,_,rfl⟩
 |some M =>
  show ∃z r,QI _ M=_
  unfold QI
  split<;>exact⟨_,_,rfl⟩
def MN(h:a<ds.length):ds.Perm (ds[a]::ds.eraseIdx a):=by
 rw[LU];have pm:(ds.take a++ds[a]::ds.drop (a+1)).Perm (ds[a]::(ds.take a++ds.drop (a+1))):=Js;rw[<- lP h,Tb] at pm;exact pm
def cMa(h:a<ds.length)(hc:dH (cG no ba oc fs m kn (ds.eraseIdx a) ds) M=some p):ds[a] ∉ ds.eraseIdx a:=λhm=>by
 obtain⟨e,_,r,hr,_⟩:=qf hc;obtain⟨i,_,_,hn⟩:=ye hr
 exact hn (congrFun (congrFun (Kk λd=>⟨λz=>ZQ z,λz=>by
  rcases wD.mp ((MN h).mem_iff.mp z) with z | z
  ·rw[z];exact hm
  ·exact z⟩) e.1) i)
def zLa(h:(es.eraseIdx b).Perm (ds.eraseIdx a))(h':es.Perm ds):uI no ba oc fs m kn es b=uI no ba oc fs m kn ds a:=by
 unfold uI;rw[sf (kO h) (kO h'),we (kO h) (kO h')]
theorem Np{S:Type}{kB qg:S->List Int}{nx:S->Int->S}(h:∀s q,q∈kB s->q∈qg s):∀{w:List Int} {s k:S},NG kB nx s w=some k->NG qg nx s w=some k
 |[],_,_,e=>e
 |q::r,s,k,e=>by
  unfold NG at e ⊢;split at e
  ·rename_i hq;rw[GA (h s q hq)];exact Np h e
  ·cases e
def bMa{a:Nat}{A B:D}{E:List D}(h1:ds.Perm (A::OD))(h2:es.Perm (A::E))(h3:OD.Perm (B::E)){M N:MC L2.aB}{p:List Int×Int}(hM:oF no ba oc fs m kn OD ds=some M)(hN:oF no ba oc fs m kn E es=some N)(hp:dH (cG no ba oc fs m kn OD ds) M=some p) :
  ∃v c,dH (cG no ba oc fs m kn E es) N=some (v,c)/\sle v p.1:=by
 have bM:=(iV (λs=>JV) 152 [] [(yE,[])] M jV hM).1;have bN:=(iV (λs=>JV) 152 [] [(yE,[])] N jV hN).1;obtain⟨e,he,r,hr,rfl⟩:=qf hp;obtain⟨i,hi,hk,hn⟩:=ye hr;have hw:=bM.wk e (pN _ he)
 have hw2:NG (rS no ba oc fs m kn E es) (Q8 m ba) yE e.2=some e.1:=by
  refine Np (λs q hq=>?_) hw;unfold rS kC at hq ⊢;obtain⟨j,hj,rfl⟩:=EF.mp hq;obtain⟨j1,j2⟩:=JL.mp hj;refine EF.mpr ⟨j,JL.mpr ⟨j1, ?_⟩,rfl⟩;dsimp only at j2 ⊢;rw[IQ h1,IQ h3] at j2;rw[IQ h2]
  revert j2
  generalize tF no ba oc fs m s (j:Int) A=x;generalize tF no ba oc fs m s (j:Int) B=y;generalize tD no ba oc fs m E s (j:Int)=z
  revert x y z
  decide
 have hd:tD no ba oc fs m E e.1 (i:Int)≠tD no ba oc fs m es e.1 (i:Int):=by
  rw[IQ h1,IQ h3] at hn;rw[IQ h2]
  revert hn
  generalize tF no ba oc fs m e.1 (i:Int) A=x;generalize tF no ba oc fs m e.1 (i:Int) B=y;generalize tD no ba oc fs m E e.1 (i:Int)=z
  revert x y z
  decide
 rw[hi];exact S_ bN hw2 (Gv hk hd)
theorem dJa(h:sle u v):(if(u.length:Int)=(v.length:Int) then !HT.aAj v u else decide ((u.length:Int)<=(v.length:Int)))=true:=by
 rcases h with rfl | h | ⟨h1,h2⟩
 ·rw[GA rfl,CS.MW];rfl
 ·rw[LA (by lia)];exact jC (by lia)
 ·rw[GA (by lia)]
  cases c:HT.aAj v u with
  |false=>rfl
  |true =>
   have:=CS.K8 _ _ _ h2 c
   rw[CS.MW] at this;cases this
end
theorem Uk(h:∀j,p j=true↔j=i):∀{N:Nat},i<N->(vC N).filter p=[i]
 |N+1,hi=>by
  rw[BU,jR];by_cases z:i=N
  ·subst z
   rw[Dq.mpr λj hj=>by
    rw[h]
    have:=iN.mp hj
    lia,List.filter_cons_of_pos ((h i).mpr rfl)]
   rfl
  ·rw[Uk h (by lia),List.filter_cons_of_neg (by rw[h];exact λw=>z w.symm)];rfl
def tOa{ds es:List D}(ha:a<ds.length)(hn:ds[a] ∉ ds.eraseIdx a)(hp:es.Perm ds):∃b:Nat,b<es.length/\(es.eraseIdx b).Perm (ds.eraseIdx a)/\∀j d,es[j]?=some d->(d=ds[a]↔j=b):=by
 have hm:ds[a]∈es:=hp.mem_iff.mpr (pR ha);obtain⟨b,hb,e⟩:=List.getElem_of_mem hm;have pe:=MN hb
 have pp:(es.eraseIdx b).Perm (ds.eraseIdx a):=by
  have:=(pe.symm.trans hp).trans (MN ha)
  rw[e] at this;exact this.cons_inv
 refine⟨b,hb,pp,λj d hj=>⟨λz=>?_,λz=>?_⟩⟩
 ·by_cases w:j=b
  ·exact w
  ·exfalso
   apply hn
   rw[<- z];refine pp.mem_iff.mp ?_;rw[List.mem_eraseIdx_iff_getElem?];exact⟨j,w,hj⟩
 ·subst z;rw[gD hb] at hj;rw[<- e];exact(ZD hj).symm
section
variable{no ba oc:Int}{fs:List (Int×Int×Bool)}{m kn:Nat}{ds es:List D}{W j:Nat}
theorem g1a(ha:a<ds.length)(hb:b<ds.length)(ne:a≠b):∃a':Nat,(a:Int)-(if decide ((b:Int)<(a:Int))=true then 1 else 0)=(a':Int)/\a'<(ds.eraseIdx b).length/\(ds.eraseIdx b).Perm (ds[a]::(ds.eraseIdx b).eraseIdx a')/\(ds.eraseIdx a).Perm (ds[b]::(ds.eraseIdx b).eraseIdx a'):=by
 have hl:(ds.eraseIdx b).length=ds.length-1:=by rw[nU,GA hb]
 obtain⟨a',h1,h2,h3⟩:∃a':Nat,(a:Int)-(if decide ((b:Int)<(a:Int))=true then 1 else 0)=(a':Int)/\a'<(ds.eraseIdx b).length/\∀h:a'<(ds.eraseIdx b).length,(ds.eraseIdx b)[a']=ds[a]:=by
  by_cases c:b<a
  ·refine⟨a-1,by rw[GA (jC (by lia))];lia,by lia,λh=>?_⟩;rw[Nq,dif_neg (by lia)];congr 1
   lia
  ·refine⟨a,by rw[LA (by rw[WB (by lia)];decide)];lia,by lia,λh=>?_⟩;rw[Nq,dif_pos (by lia)]
 have p:=MN h2;rw[h3 h2] at p;refine⟨a',h1,h2,p, ?_⟩;have q:=((MN ha).symm.trans (MN hb)).trans ((p.cons ds[b]).trans (.swap ..));exact q.cons_inv
theorem P_(F:FR no ba oc fs m kn)(h:∀d∈ds,RO no ba oc fs m d)(hl:ds.length<=8)(ha:a<ds.length)(hb:b<ds.length)(ne:a≠b)(hM:oF no ba oc fs m kn (ds.eraseIdx a) ds=some M)(hp:dH (cG no ba oc fs m kn (ds.eraseIdx a) ds) M=some p) :
  run T (W+200) (j+12) "v" [.sh (uA no ba oc fs ds),.i a,.i b,.sh (.t [.str "needed",.l (p.1.map D.int)])]=some (.ok (.b true),[.sh (uA no ba oc fs ds),.i a,.i b,.sh (.t [.str "needed",.l (p.1.map D.int)])]):=by
 obtain⟨a',h1,h2,h3,h4⟩:=g1a ha hb ne;have g1:=z8 (W:=W+200) (n:=j+8) (no:=no) (ba:=ba) (oc:=oc) (fs:=fs) (ds:=ds) (a:=b) (by lia) hb;have g2:=qb (W:=W) (j:=j) F (ds:=ds.eraseIdx b) (a:=a') (λd hd=>h d (ZQ hd)) (by rw[nU];split<;>lia) h2;unfold uI at g2;have q0:wB .Eq (.str "needed") (.str "needed")=some true:=ZR rfl
 exists V3
 cases c:oF no ba oc fs m kn ((ds.eraseIdx b).eraseIdx a') (ds.eraseIdx b) with
 |none =>
  rw[c] at g2;replace g2:run T (W+200) (j+11) "f" [.sh (uA no ba oc fs (ds.eraseIdx b)),.i a']=some (.ok (.sh .lA),[.sh (uA no ba oc fs (ds.eraseIdx b)),.i a']):=g2
  generalize uA no ba oc fs ds=H at *
  generalize uA no ba oc fs (ds.eraseIdx b)=H' at *
  generalize p.1.map D.int=pl at *
  walk_at "!We EA"
 |some N =>
  obtain⟨v,c1,hv,hs⟩:=bMa (a:=a) (MN ha) h3 h4 hM c hp;have hle:=dJa hs;rw[c] at g2;replace g2:run T (W+200) (j+11) "f" [.sh (uA no ba oc fs (ds.eraseIdx b)),.i a']=some (.ok (.sh (eK (cG no ba oc fs m kn ((ds.eraseIdx b).eraseIdx a') (ds.eraseIdx b)) N)),[.sh (uA no ba oc fs (ds.eraseIdx b)),.i a']):=g2;unfold eK at g2;rw[hv] at g2;replace g2:run T (W+200) (j+11) "f" [.sh (uA no ba oc fs (ds.eraseIdx b)),.i a']=some (.ok (.sh (.t [.str "needed",.l (v.map D.int)])),[.sh (uA no ba oc fs (ds.eraseIdx b)),.i a']):=g2
  generalize uA no ba oc fs ds=H at *
  generalize uA no ba oc fs (ds.eraseIdx b)=H' at *
  walk_at "!We EA"
end
def aYa{M:MC L2.aB}(h:d∈M.map DB):∃k:L2.aB,d=.t [YC k,YC k]:=by
 obtain⟨e,_,rfl⟩:=EF.mp h;exact⟨e.1,rfl⟩
def qOa:eC 20 (YC k)=true:=by
 unfold YC;show(eC 19 (.int k.1)&&(eC 19 (.t (k.2.map D.int))&&true))=true;rw[bNa];rfl
def zYa:wB .Eq (.str "alike") (.str "apart")=some false:=by
 rw[GN rfl rfl];show some (_==_)=_;rw[TX]
def aZa:wB .Eq (.str "alike") (.str "many")=some false:=by
 rw[GN rfl rfl];show some ((wA "alike")==(wA "many"))=_;rw[show((wA "alike")==(wA "many"))=false by decide +kernel]
def cZa:wB .Eq (.str "many") (.str "apart")=some false:=by
 rw[GN rfl rfl];show some ((wA "many")==(wA "apart"))=_;rw[show((wA "many")==(wA "apart"))=false by decide +kernel]
def dZa:wB .Eq (.str "many") (.str "alike")=some false:=by
 rw[GN rfl rfl];show some ((wA "many")==(wA "alike"))=_;rw[show((wA "many")==(wA "alike"))=false by decide +kernel]
def bZa:wB .Eq (.str "follows") (.str "needed")=some false:=by
 rw[GN rfl rfl];show some ((wA "follows")==(wA "needed"))=_;rw[show((wA "follows")==(wA "needed"))=false by decide +kernel]
section
variable{W n:Nat}{a0 a1 a2 a3 a5 a6 a7 a8 a9:Sl}
def GX:ex T.aA (run T W n) W WT [a0,a1,a2,a3,.sh (.t [.str "alike",UH M]),a5,a6,a7,a8,a9]=some (.nx,[a0,a1,a2,a3,.sh (.t [.str "alike",UH M]),a5,a6,a7,a8,a9]):=by
 have q1:=zYa;have q2:wB .Eq (.str "alike") (.str "alike")=some true:=ZR rfl
 have kb:∀U:Env,vQ T.aA (run T W n) K2 [1] .of [.FA .NotEq (.ix (.v 1) (.c (.int 0))) (.ix (.v 1) (.c (.int 1)))] [] 2 [.val (.sh (.GC (M.map DB)))] U=some (.ok (.ow (.l [])),U):=λU=>pGa λes p=>by
  obtain⟨Ua,ea,t1,rfl,uM⟩:=xf (tests:=cD T.aA (run T W n) [.FA .NotEq (.ix (.v 1) (.c (.int 0))) (.ix (.v 1) (.c (.int 1)))]) (HA:=ev T.aA (run T W n) false K2) (bind:=oB true [1]) (ds:=es)
   (λ_=>false) id (λU=>∃t1,U=[.un,t1]/\iB t1=true)
   (λd hd U hU=>by
    obtain⟨t1,rfl,uM⟩:=hU;obtain⟨k,rfl⟩:=aYa (p.2 _ hd);refine⟨[.un,.sh (.t [YC k,YC k])],[.un,.sh (.t [YC k,YC k])],by simp only[kE,FD uM]<;>rfl, ?_,(λz=>nomatch z),λ_=>⟨_,rfl,rfl⟩⟩;have c:=yP (qOa (k:=k))
    generalize YC k=sk at *
    walk_at "!") (U:=[.un,.un]) ⟨_,rfl,rfl⟩
  have ef:es.filter (λ_=>false)=[]:=Dq.mpr λ_ _ z=>nomatch z
  rw[ef,kN] at ea
  walk_at "!"
  all_goals (first | done | (rw[LN rfl];walk_at "!"))
 have ix1:RB (some (.t [.str "alike",UH M])) (.int 1)=some (.sh (.GC (M.map DB))):=rfl;have aT:RB (some (.t [.str "alike",UH M])) (.int 0)=some (.s "alike"):=rfl;have z0:decide ((0:Int)<((0:Nat):Int))=false:=rfl;unfold WT
 generalize UH M=so at *
 generalize M.map DB=dA at *
 generalize D.t [.str "alike",so]=X at *
 walk_at "!"
def hYa:ex T.aA (run T W n) W WT [a0,a1,a2,a3,.sh (.t [.str "many",.l []]),a5,a6,a7,a8,a9]=some (.nx,[a0,a1,a2,a3,.sh (.t [.str "many",.l []]),a5,a6,a7,a8,a9]):=by
 have q1:=cZa;have q2:=dZa;have aT:RB (some (.t [.str "many",.l []])) (.int 0)=some (.s "many"):=rfl;unfold WT
 generalize D.t [.str "many",.l []]=X at *
 walk_at "!"
def iYa(i4:RB (some H) (.int 4)=some (.sh (.t ds))):ex T.aA (run T W n) W XT [a0,.sh H,a2,a3,.sh (.t [.str "many",.l []]),a5,a6,a7,a8,a9]=some (.rt (.b true),[a0,.sh H,a2,a3,.sh (.t [.str "many",.l []]),a5,a6,a7,a8,a9]):=by
 have q1:wB .Eq (.str "many") (.str "many")=some true:=ZR rfl;have aT:RB (some (.t [.str "many",.l []])) (.int 0)=some (.s "many"):=rfl;unfold XT
 generalize D.t [.str "many",.l []]=X at *
 cases c:decide (((ds.length:Nat):Int)<2)<;>walk_at "!"
theorem OM{ds L:List D}(i4:RB (some H) (.int 4)=some (.sh (.t ds))):ex T.aA (run T W n) W XT [a0,.sh H,a2,a3,.sh (.t [.str "alike",.GC L]),a5,a6,a7,a8,a9]=some (if ds.length<2\/40<L.length then .rt (.b true) else .nx,[a0,.sh H,a2,a3,.sh (.t [.str "alike",.GC L]),a5,a6,a7,a8,a9]):=by
 have q1:=aZa;have aT:RB (some (.t [.str "alike",.GC L])) (.int 0)=some (.s "alike"):=rfl;have ix1:RB (some (.t [.str "alike",.GC L])) (.int 1)=some (.sh (.GC L)):=rfl;unfold XT
 generalize D.t [.str "alike",.GC L]=X at *
 by_cases c1:ds.length<2
 ·rw[GA (.inl c1)];have d1:decide (((ds.length:Nat):Int)<2)=true:=jC (by lia)
  walk_at "!"
 ·have d1:decide (((ds.length:Nat):Int)<2)=false:=WB (by lia);by_cases c2:40<L.length
  ·rw[GA (.inr c2)];have d2:decide (40<((L.length:Nat):Int))=true:=jC (by lia)
   walk_at "!"
  ·rw[LA (λz=>z.elim c1 c2)];have d2:decide (40<((L.length:Nat):Int))=false:=WB (by lia)
   walk_at "!"
def lYa:ex T.aA (run T W n) W lK [a0,.sh H,a2,.sh H3,a5,.i x,a6,.sh .lA,a8,a9]=some (.nx,[a0,.sh H,a2,.sh H3,a5,.i x,a6,.sh .lA,a8,a9]):=by
 have c0:wB .IsNot .lA .lA=some false:=rfl;unfold lK
 walk_at "!"
def kYa:ex T.aA (run T W n) W lK [a0,.sh H,a2,.sh H3,a5,.i x,a6,.sh (.t [.str "follows",so]),a8,a9]=some (.nx,[a0,.sh H,a2,.sh H3,a5,.i x,a6,.sh (.t [.str "follows",so]),a8,a9]):=by
 have c0:wB .IsNot (.t [.str "follows",so]) .lA=some true:=rfl;have q1:=bZa;have aT:RB (some (.t [.str "follows",so])) (.int 0)=some (.s "follows"):=rfl;unfold lK
 generalize D.t [.str "follows",so]=X at *
 walk_at "!"
theorem st9{a b c:Nat}(ha:a<ds.length)(hl:es.length<=8)(i4:RB (some H) (.int 4)=some (.sh (.t ds)))(T6:RB (some H3) (.int 4)=some (.sh (.t es)))(hf:∀d∈ds,RF d)(eW:∀d∈es,RF d)(hb:b<es.length)(pM:∀j d,es[j]?=some d->(d=ds[a]↔j=b))
  (c0:wB .IsNot X .lA=some true) (aT:RB (some X) (.int 0)=some (.s "needed")) (hX:eC 20 X=true)
  (h1:"f"|||n|||[.sh H3,.i b]|||.sh X) (h2:"v"|||n|||[.sh H,.i a,.i c,.sh X]|||.b true) (h8:iB a8=true) :
  ∃t8,ex T.aA (run T W n) W lK [a0,.sh H,a2,.sh H3,a5,.i a,.i c,.sh X,a8,a9]=some (.nx,[a0,.sh H,a2,.sh H3,a5,.i a,.i c,.sh X,t8,a9]):=by
 have q1:wB .Eq (.str "needed") (.str "needed")=some true:=ZR rfl;have q2:=yP hX;have q3:wB .NotEq (.int 1) (.int 1)=some false:=yP rfl
 have ixa:RB (some (.t ds)) (.int a)=some (.sh ds[a]):=by(show(L2.lC ds (a:Int)).map _=_;rw[L2.AN (gD ha)];rfl)
 have hi:∀{U:Env},aAb .uD [.val (.i es.length)] U=some (rg es.length,none):=F7 (by lia)
 obtain⟨Ua,ea,t4,rfl,mE⟩:=tV (tests:=cD T.aA (run T W n) [.FA .Eq (.ix (.ix (.v 2) (.c (.int 4))) (.v 4)) (.ix (.ix (.v 0) (.c (.int 4))) (.v 1))]) (HA:=ev T.aA (run T W n) false zV) (bind:=oB true [4]) (ds:=rg es.length)
  (λj=>decide (j=b)) (λj=>.int j) (λU=>∃t4,U=[.sh H,.i a,.sh H3,.un,t4]/\iB t4=true)
  (λj d hd U hU=>by
   obtain⟨t4,rfl,mE⟩:=hU
   have hj:j<es.length:=by
    have:=(RD.mp hd).1
    simpa using this
   have LF:d=.int j:=by(rw[jE,ZM hj] at hd;exact(ZD hd).symm)
   subst LF
   have ixe:RB (some (.t es)) (.int j)=some (.sh es[j]):=by(show(L2.lC es (j:Int)).map _=_;rw[L2.AN (gD hj)];rfl)
   have cc:wB .Eq es[j] ds[a]=some (decide (j=b)):=by
    rw[(eW _ (pR hj)).eq (hf _ (pR ha))];congr 1
    have:=pM j es[j] (gD hj)
    by_cases z:j=b
    ·rw[jC z,@jC _ (cl _) (this.mpr z)]
    ·rw[WB z,@WB _ (cl _) (λw=>z (this.mp w))]
   refine⟨_,[.sh H,.i a,.sh H3,.un,.i j],by simp only[kE,FD mE]<;>rfl, ?_,λ_=>⟨.i j,[.sh H,.i a,.sh H3,.un,.i j], ?_,rfl,.i j,rfl,rfl⟩,λ_=>⟨.i j,rfl,rfl⟩⟩
   ·generalize decide (j=b)=bb at *
    generalize es[j]=dj at *
    generalize ds[a]=da at *
    walk_at "!"
   ·unfold zV
    walk_at "!")
  [.sh H,.i a,.sh H3,.un,.un] ⟨_,rfl,rfl⟩
 rw[EA,vU,Uk (λj=>decide_eq_true_iff) hb] at ea;replace ea:dG (cD T.aA (run T W n) [.FA .Eq (.ix (.ix (.v 2) (.c (.int 4))) (.v 4)) (.ix (.ix (.v 0) (.c (.int 4))) (.v 1))]) (ev T.aA (run T W n) false zV) (oB true [4]) (rg es.length) [] [.sh H,.i a,.sh H3,.un,.un]=some (.ok [.int b],[.sh H,.i a,.sh H3,.un,t4]):=ea;have q4:decide (((1:Nat):Int)=1)=true:=rfl;refine⟨.ow (.l [.int b]) false false, ?_⟩;unfold lK
 generalize ds[a]=da at *
 walk_at "!"
 rw[aK hi]
 walk_at "!"
 all_goals (first | done | (rw[LN rfl];walk_at "!"))
end
def cNa{l:List Int}:eC 20 (.t [.str "needed",.l (l.map D.int)])=true:=by simp[eC]
section
variable{no ba oc:Int}{fs:List (Int×Int×Bool)}{m kn:Nat}{ds es:List D}{W:Nat}{K s:Int}{sc a4 a8:Sl}
theorem vIa(F:FR no ba oc fs m kn)(h:∀d∈ds,RO no ba oc fs m d/\RF d)(hl:ds.length<=5)(h2:2<=ds.length)(hp:es.Perm ds) :
  ∃U',IA T.aA (run T (W+200) 29) (W+200) [YT,ZT,aU,lK,UT,VT] [sc,.sh (uA no ba oc fs ds),.o (.l [.int K,.int s]),.sh (uA no ba oc fs es),a4,.un,.un,.un,.un,.un]=some (.rt (.b true),U'):=by
 have hr:∀d∈ds,RO no ba oc fs m d:=λd hd=>(h d hd).1
 have hf:∀d∈ds,RF d:=λd hd=>(h d hd).2
 have IS:∀d∈es,RO no ba oc fs m d:=λd hd=>hr d (hp.mem_iff.mp hd)
 have eW:∀d∈es,RF d:=λd hd=>hf d (hp.mem_iff.mp hd)
 have hle:es.length=ds.length:=hp.length_eq;have g1:(0:Int)<(ds.length:Int):=by lia
 have v1:=sD (k:=K) (s:=s) g1;have v2:=pD (k:=K) (s:=s) g1;obtain⟨a,hq⟩:∃a:Nat,yB K s (ds.length:Int)=(a:Int):=⟨_,(MO v1).symm⟩
 have ha:a<ds.length:=by lia
 have d1:=eG (W:=W+200) (n:=28) (k:=K) (s:=s) g1 (by lia);rw[hq] at d1
 generalize UA K s (ds.length:Int)=s1 at *
 have g2:(0:Int)<(ds.length:Int)-1:=by lia
 have w1:=sD (k:=K) (s:=s1) g2;have w2:=pD (k:=K) (s:=s1) g2;have d2:=eG (W:=W+200) (n:=28) (k:=K) (s:=s1) g2 (by lia)
 generalize UA K s1 ((ds.length:Int)-1)=s2 at *
 generalize yB K s1 ((ds.length:Int)-1)=v at *
 obtain⟨b,Qg,hb,ne⟩:∃b:Nat,((a:Int)+1+v) % (ds.length:Int)=(b:Int)/\b<ds.length/\a≠b:=by
  have e1:=tR ((a:Int)+1+v) (show(ds.length:Int)≠0 by lia);have e2:=OY ((a:Int)+1+v) g1;refine⟨(((a:Int)+1+v) % (ds.length:Int)).toNat,by lia,by lia,λz=>?_⟩;by_cases c:(a:Int)+1+v<ds.length
  ·rw[QY (by lia) c] at z;lia
  ·have:((a:Int)+1+v) % (ds.length:Int)=(a:Int)+1+v-ds.length:=by
    rw[<- xr,QY (by lia) (by lia)]
   lia
 have bm:uC .Mod (.int ((a:Int)+1+v)) (.int ds.length)=some (.i b):=by rw[Ce g1,Qg]
 have i4:RB (some (uA no ba oc fs ds)) (.int 4)=some (.sh (.t ds)):=rfl;have T6:RB (some (uA no ba oc fs es)) (.int 4)=some (.sh (.t es)):=rfl;have t1:=qb (W:=W) (j:=18) F hr (by lia) ha;have l1:=z8 (W:=W+200) (n:=26) (no:=no) (ba:=ba) (oc:=oc) (fs:=fs) (ds:=ds) (a:=b) (by lia) hb;have o6:(ds.eraseIdx b).length<=8:=by rw[nU];split<;>lia
 have x1:=Eb (W:=W) (j:=19) F (ds:=ds.eraseIdx b) (es:=ds) (λd hd=>hr d (ZQ hd)) o6 hr (by lia);have x2:=Eb (W:=W) (j:=19) F (ds:=ds.eraseIdx b) (λd hd=>hr d (ZQ hd)) o6 IS (by lia);rw[x1a rfl (kO hp)] at x2;obtain⟨z,zr,hz⟩:=z1a (m:=m) (kn:=kn) (ds:=ds.eraseIdx b) (es:=ds)
 have iz:RB (some (rJ no ba oc fs m kn (ds.eraseIdx b) ds)) (.int 0)=some (.s z):=by(rw[hz];show(L2.lC (D.str z::zr) ((0:Nat):Int)).map _=_;rw[L2.AN rfl];rfl)
 have cz:wB .Eq (.str z) (.str z)=some true:=ZR rfl
 have key:∃t7 t8,(uI no ba oc fs m kn ds a).getD .lA=t7/\ex T.aA (run T (W+200) 29) (W+200) lK [sc,.sh (uA no ba oc fs ds),.o (.l [.int K,.int s2]),.sh (uA no ba oc fs es),a4,.i a,.i b,.sh t7,.un,.un]=some (.nx,[sc,.sh (uA no ba oc fs ds),.o (.l [.int K,.int s2]),.sh (uA no ba oc fs es),a4,.i a,.i b,.sh t7,t8,.un]):=by
  unfold uI
  cases c:oF no ba oc fs m kn (ds.eraseIdx a) ds with
  |none=>exact⟨.lA,.un,rfl,lYa⟩
  |some M =>
   show ∃t7 t8,eK _ M=t7/\_
   cases c2:dH (cG no ba oc fs m kn (ds.eraseIdx a) ds) M with
   |none=>exact⟨.t [.str "follows",UH M],.un,by unfold eK;rw[c2],kYa⟩
   |some p =>
    obtain⟨b',jD,pp,pM⟩:=tOa ha (cMa ha c2) hp
    have hn:uI no ba oc fs m kn es b'=some (.t [.str "needed",.l (p.1.map D.int)]):=by(rw[zLa pp hp];unfold uI;rw[c];show some (eK _ M)=_;unfold eK;rw[c2])
    have t2:=qb (W:=W) (j:=18) F IS (by lia) jD;rw[hn] at t2;have f1:=P_ (W:=W) (j:=17) F hr (by lia) ha hb ne c c2;obtain⟨t8,e⟩:=st9 (W:=W+200) (n:=29) (a0:=sc) (a2:=.o (.l [.int K,.int s2])) (a5:=a4) (a8:=.un) (a9:=.un) (X:=.t [.str "needed",.l (p.1.map D.int)]) ha (by lia) i4 T6 hf eW jD pM rfl rfl cNa t2 f1 rfl;exact⟨_,t8,by unfold eK;rw[c2],e⟩
 obtain⟨t7,t8,Dh,e9⟩:=key;rw[Dh] at t1
 generalize hH:uA no ba oc fs ds=H at *
 generalize uA no ba oc fs es=H3 at *
 generalize uA no ba oc fs (ds.eraseIdx b)=Hb at *
 generalize rJ no ba oc fs m kn (ds.eraseIdx b) ds=X at *
 clear F h hl h2 hp hr hf IS eW hle g1 v1 v2 hq ha g2 w1 w2 Qg hb ne o6 hz Dh hH
 have e6:ex T.aA (run T (W+200) 29) (W+200) YT [sc,.sh H,.o (.l [.int K,.int s]),.sh H3,a4,.un,.un,.un,.un,.un]=some (.nx,[sc,.sh H,.o (.l [.int K,.int s1]),.sh H3,a4,.i a,.un,.un,.un,.un]):=by
  unfold YT
  walk_at "!"
 have e7:ex T.aA (run T (W+200) 29) (W+200) ZT [sc,.sh H,.o (.l [.int K,.int s1]),.sh H3,a4,.i a,.un,.un,.un,.un]=some (.nx,[sc,.sh H,.o (.l [.int K,.int s2]),.sh H3,a4,.i a,.i b,.un,.un,.un]):=by
  unfold ZT
  walk_at "!"
 have e8:ex T.aA (run T (W+200) 29) (W+200) aU [sc,.sh H,.o (.l [.int K,.int s2]),.sh H3,a4,.i a,.i b,.un,.un,.un]=some (.nx,[sc,.sh H,.o (.l [.int K,.int s2]),.sh H3,a4,.i a,.i b,.sh t7,.un,.un]):=by
  unfold aU
  walk_at "!"
 have e10:ex T.aA (run T (W+200) 29) (W+200) UT [sc,.sh H,.o (.l [.int K,.int s2]),.sh H3,a4,.i a,.i b,.sh t7,t8,.un]=some (.nx,[sc,.sh H,.o (.l [.int K,.int s2]),.sh H3,a4,.i a,.i b,.sh t7,t8,.sh Hb]):=by
  unfold UT
  walk_at "!"
 have e11:ex T.aA (run T (W+200) 29) (W+200) VT [sc,.sh H,.o (.l [.int K,.int s2]),.sh H3,a4,.i a,.i b,.sh t7,t8,.sh Hb]=some (.rt (.b true),[sc,.sh H,.o (.l [.int K,.int s2]),.sh H3,a4,.i a,.i b,.sh t7,t8,.sh Hb]):=by
  unfold VT
  walk_at "!"
 refine⟨[sc,.sh H,.o (.l [.int K,.int s2]),.sh H3,a4,.i a,.i b,.sh t7,t8,.sh Hb], ?_⟩;clear d1 d2 bm i4 T6 t1 l1 x1 x2 iz cz
 walk_at "!"
theorem law_spec(W:Nat)(ns:List Int)(hn:ns.length<=63):∃QA,run T (W+200) 30 "law" [.sh (.l (ns.map .int))]=some (.ok (.b true),QA):=by
 have uh:=El (W:=W+200) (n:=28) (ns:=ns) (k:=0) hn (by lia);have vh:=El (W:=W+200) (n:=28) (ns:=ns) (k:=1) hn (by lia);replace uh:run T (W+200) 29 "l" [.sh (.l (ns.map .int)),.i 0]=some (.ok (.ow (.l [.int (uF ns 0).1,.int (uF ns 0).2])),[.sh (.l (ns.map .int)),.i 0]):=uh;replace vh:run T (W+200) 29 "l" [.sh (.l (ns.map .int)),.i 1]=some (.ok (.ow (.l [.int (uF ns 1).1,.int (uF ns 1).2])),[.sh (.l (ns.map .int)),.i 1]):=vh
 generalize (uF ns 0).1=K0 at *
 generalize (uF ns 0).2=s0 at *
 generalize (uF ns 1).1=K at *
 generalize (uF ns 1).2=z0 at *
 obtain⟨s0',no,ba,oc,fs,m,kn,ds,hfa,F,hd,hl⟩:=N_ (W:=W+200) (n:=25) (k:=K0) (s:=s0);obtain⟨s1,es,gL,hp⟩:=Bv (W:=W) (n:=27) (k:=K) (s:=z0) (λd h=>(hd d h).2) hl;have hw:=Eb (W:=W) (j:=19) F (λd h=>(hd d h).1) (by lia) (λd h=>(hd d (hp.mem_iff.mp h)).1) (by have:=hp.length_eq;lia);rw[y1a hp] at hw;have i4:RB (some (uA no ba oc fs ds)) (.int 4)=some (.sh (.t ds)):=rfl
 exists VP
 cases c:oF no ba oc fs m kn ds es with
 |none =>
  rw[c] at hw;replace hw:run T (W+200) 29 "h" [.sh (uA no ba oc fs ds),.sh (uA no ba oc fs es)]=some (.ok (.sh (.t [.str "many",.l []])),[.sh (uA no ba oc fs ds),.sh (uA no ba oc fs es)]):=hw
  generalize uA no ba oc fs ds=H at *
  generalize uA no ba oc fs es=H3 at *
  generalize ns.map D.int=sc at *
  have e4:=hYa (W:=W+200) (n:=29) (a0:=.sh (.l sc)) (a1:=.sh H) (a2:=.o (.l [.int K,.int s1])) (a3:=.sh H3) (a5:=.un) (a6:=.un) (a7:=.un) (a8:=.un) (a9:=.un);have e5:=iYa (W:=W+200) (n:=29) (a0:=.sh (.l sc)) (a2:=.o (.l [.int K,.int s1])) (a3:=.sh H3) (a5:=.un) (a6:=.un) (a7:=.un) (a8:=.un) (a9:=.un) i4;refine⟨[.sh (.l sc)], ?_⟩;clear F hd hl hp c hn i4;unfold HX JX LX MX
  generalize D.t [.str "many",.l []]=X at *
  walk_at "!"
 |some M =>
  rw[c] at hw;replace hw:run T (W+200) 29 "h" [.sh (uA no ba oc fs ds),.sh (uA no ba oc fs es)]=some (.ok (.sh (.t [.str "alike",UH M])),[.sh (uA no ba oc fs ds),.sh (uA no ba oc fs es)]):=hw;have e4:=GX (M:=M) (W:=W+200) (n:=29) (a0:=.sh (.l (ns.map D.int))) (a1:=.sh (uA no ba oc fs ds)) (a2:=.o (.l [.int K,.int s1])) (a3:=.sh (uA no ba oc fs es)) (a5:=.un) (a6:=.un) (a7:=.un) (a8:=.un) (a9:=.un);have e5:=OM (L:=M.map DB) (W:=W+200) (n:=29) (a0:=.sh (.l (ns.map D.int))) (a2:=.o (.l [.int K,.int s1])) (a3:=.sh (uA no ba oc fs es)) (a5:=.un) (a6:=.un) (a7:=.un) (a8:=.un) (a9:=.un) i4;unfold UH at hw e4
  generalize M.map DB=L at *
  by_cases q:ds.length<2\/40<L.length
  ·rw[GA q] at e5
   generalize uA no ba oc fs ds=H at *
   generalize uA no ba oc fs es=H3 at *
   generalize ns.map D.int=sc at *
   refine⟨[.sh (.l sc)], ?_⟩;clear F hd hl hp c hn i4 q;unfold HX JX LX MX
   generalize D.t [.str "alike",.GC L]=X at *
   walk_at "!"
  ·rw[LA q] at e5;obtain⟨U',et⟩:=vIa (W:=W) (K:=K) (s:=s1) (sc:=.sh (.l (ns.map D.int))) (a4:=.sh (.t [.str "alike",.GC L])) F hd hl (by lia) hp
   generalize uA no ba oc fs ds=H at *
   generalize uA no ba oc fs es=H3 at *
   generalize ns.map D.int=sc at *
   generalize hT:[YT,ZT,aU,lK,UT,VT]=TL6 at *
   refine⟨back [.sh (.l sc)] U', ?_⟩;clear F hd hl hp c hn i4 q hT;unfold HX JX LX MX
   generalize D.t [.str "alike",.GC L]=X at *
   walk_at "!"
end
end Mx
namespace PySem.W.Fast
local macro_rules | `(command|universe $x)=>do let l:=x.getId.toString.toList;let c←(List.range (l.length/11)).toArray.mapM λi=>(do let n:=Lean.mkIdent (.mkSimple s!"tw{((l.drop (1+11*i)).take 11).foldl (fun n d=>62*n+(d.toNat-if d<'A' then 48 else if d<'a' then 55 else 61)) 0}");`(command|def $n:ident:=True));return Lean.mkNullNode (c.map (·.raw))
universe xC0azhkE4lUtC5dGqYVl8LBC7SdLzxGRBHC7gBhGej2Fm1EpSnDkMT7vCP2hebUhzYvCUnBv05kVlfCZnIzIOUE1oCkVTFnnsoANCkyXGs5qDSMCs6Z9oS7XydCsvyJlO9qHwCuOCzFxjzLcCuR7N8FV6QaCuzls5PTNK7Cxph2JnM1xH083AWkgNWiYD2lsbH1s3yMD4eWsiSEJlND6gCMu9dYo9DAYIleApafpDBARTA2lyZWDEUQ2lHMOWDDID1mZs6Da3DLbMSnNOe3xDMM6N1uPScgDMs6X9iEJz1DO3laBvVKZsDOsnKeLBZRSDQApdpIrTk2DTmEB9O2KRf1LulDJKsmguDf8dBOsXrNoDfODxpqWe9tDkusUFVjbwzDmMVNtuQY97DnucqIA7jKvDw4nbtOf3TQDzTajdcbBg0E0S7Z2UhRMoEA0ADQ2AQsrEALLQkXDmjuEBMWMLsqYpoEEfY4I6PZJ2EH21nZgX8LyEOWOrWdYeRq1SYvd2ZbCPqEdc78sq78oD1T6jOYuyCj1EiS2NIPHG3eEilELBkjDSmEirFEzOf8llEjFAaDLaEu61TMXxCb26INEkh15ZhdYVdEnETDAgwQHzEpZ8a45c2bwExozcS0oOAsF47Pmi7jUtsF5Gydtn5Vsq09MTZkFtcSeF6YMdM680qtF7OwyDUFHpLFFapqctiH7Z1Wg7LuzNtBL1Xbwf1I9ZGOFSaHiVNeoqn09bdDtupRMkFe88iXuMa2ZFeNSEBi8L22FfBzh9QkVPuFiYDHCKbF4xFj18ZKjxNt71ZhRc2wnAbMFnNiSRlPkP2FpSRikf0cIeFs1lbs3UzG2FtUamYf6wLSFuK2UaNIr2Y1anPuU8BGLa09uWgoDK2KkG1x6QhKGd4t1cYLe2hMZFB1cwpHNRaZBbGLn1GHn7XEAGPrNk6DIVPbGQPEh8wSGf41eO0MV4GTrfGVwGlJq7lvuGZztEh7FRNHGdn4Mk3azemGf3AoDMdC88GfR7a16bUi5GhZXMYQzz441fq3DSRvcHu1g7Db4DLIoaGnJQo7P1gI7GpZaJE46DV6GrPmdCLuPupGrUi8hhmCBYGrp52G0ogYSGvERI8kaByoGwAFunyFg51GzPYS5rmdOk1hM8h7yyXljH0ujOUf30Q4H6dzQTq1N5tHL4xYOQzEIYHRwvF9Pk4BeHWs7ujkjStnHZ0TBJoZZhRHaqLm67pgtsHdOJM2HpBT3He9zMOCXPa5HqotJOXaokGHs5U9wTvLI11nN7qnX1RQwIFJfqkqLAZtIMzGTRDvo3yIOtw8SMoZN0ISCtLvzMzCW0BSHpcrGB68IhUJcxLwAZuIjJtp6v3D7iIkrXEkHw1toImBCcUWeX7VIoL79WW1m7HIoOnWyXYbYhIrfrTTPd6JqIsqi4Fus3BFIuOoTxHfcGjIuwrxAgF8lNJ0pkkiV6CVOJ4sdfWtPy8XJBptzVJTUVIJEEaATJvC3fJGl8OlQVsOE1wQmXoKespSJVqv1d0wk1nJZ0Fr6B5ts9Jaqyq1k5dNHJbZrnjpT2jZJimCZr7GQ4eJjhezcteyIjJjmMCqADqgV1yPO1F7Uw46JlT9CtAHG2YJmTqGXxzvQMJqXQ9QVR9ZHK0PzQHRVlDQK45dThJd0iQ20kFmrF9fKPK7b0TTfa1tOK9zdVCCw4sOKCbwLO87oHHKJ9Nfu0WyfGKQNdDqFVCcy23Q9nNsCGYEKbe6qUs0UBnKdZSqleYGZ6Kdtwz3EZdbMKiK00PpgfVeKzJiCrc6cWiL8FXMcd8fHNLAqym0Iqb4WLGIzUnkRYo9LNnMkFsvzeo28igqF5TXrALPmpU9Hb90WLQT9QWhkcXK28qnSGRhAZN29hGJD1RJ4RLZG2zIXVnx729zYJgbvtO9LcdEnBH6obiLndcXnhXqyNLpH93061eRtLtCOnXC4NNZ2DFpEtqCpvU2ImLQ1areYx2OHSswGzK3B2TbD5E3XQmE2Xm3vNYgFj22ZY4fKcqQeM2e9hUZI1OgY2eBnMrU6oo92fEv9eFkoWX2j3MSEQ7xgl0HORQTlKtxt2p4R8K9ltmf2vS6EVzll9130m00u1zGJt34dFiJnpQfn3BjyBMcgcs03CoizLgTIjt0JuBSdObau63E7jmsRJPU53HnYsFZYzzZ3N4b5UQz0TN3Pt4uBCXw3r3SKmMcpcEJv0Lh37IqV8CK3W3hbpPSgv73Xcce3mg3DO0M07ykGbCPf3YQB3G8d2ui3dAtORMM2mV3eZDvy58mvs3nXaQCWT9dx3no1vAjtLTy3okw4aPHZ1j3tNyWktiypq3wvHtAZA25z3y5atknD75z3zVW7Z311pr403klQsuKFT42tB1Te8zyg49aLmnLS5RS4Lp59wMc5qw4PXuFHF4nQX4WPdyzkYY2i4WUAXy31Ufi4X6ll3Ug8Gv4dAxPjxKD044ePYHfasDvn4pE1SQTtl6O4qNRFhePzAY4wH1nzUhsaE4wSAUZh6KRw4y3pYRKRniG50cMPTsc2FF51OY2mn9XeT5Cj4MaOcjtN5IxtaZbI9c35RUDUnuDbg05bzyTymT0Zo03VdTlY10R50ZS9P7CxalD5n6xScFJUZz5nSpRGSOe3v5nxTfnFRsTK5pJbXu9VqxU5q1PtUP9xNG5wYkiPMDbol62gfYErVAQS677UIQrFWqD6FqoiLkxEKM6GDyzWpMNx16K5mcAfL0K76LgDTi193gY6MwHL85a0rO6O6B6iiklyd0dmUZdRgX5y6QXcn1cy7kw6WYB8UNKQRT6XznXR4z9J46cMCygoU0Fq6dW9EHf4jZV6fwXdd5djtx0faSFER2kXi6juRRGIb0V26p86K7hTNDt6v4DCEdaTGo6x5Z3HdVCyA6xAWa0zpAIg6z3VnSTeei071gdiH5r75575zc2g8N8z204QsRsbrZ3t7DJyTZc6B4M7DSvFfOIItF7OAtDUvuZQt7PZqD1qMoIc7PrsKVUcoCd7XY4yfNae5a7elXAB5OZF37ncnZb3tHOh0mOF7UECXtA7sNBirzM3bH7tiMFsGwXJG7ym2B2dexJE82uwGY6lAQ083C5ThZPHvs83XmW6PJCod85QThaUZZmk86hkLmONA9s87IMRccIe6988EgAuzs5WJ8AfKUB1HChE8DBnhixhwwD8HaDY5UM2668HqI1Yy1TXf8Ibmsn2vSKi0pbJXDNVRQF8L5PtEEos7Z8Lat5RcCn3x8Nskw2KjVwL8Q7vfEISG9Y8Y5hPny0qIx0r964iSbezu8db9QVetfcE8wLkVvX38qa8z1IIb61ubk91G0Gvo9VGs0tyYv3HNWFJ92F4ll91BIt99uLvs6qJlj9BHqo5Q2ChJ9Bces9plBXX9Hn00MZc3gR9JE30IxhQah9OnlsquASkZ0wRWaUhuTdn9QaaP17EOf39RDZWTIhC2E9TPqA4Nslwl0wt37icHWB79W1pfxboSKy9XtDACXUZK49ZaR3KbsJD19a9389IfIuj9al0faENNby9f06v8qUHtK9gpyOThSvSD9jTWtL3ElM99loZ8trJYc29uDiZhJ9kZh9uN5mgWNKiW9uVShNq13wy9ym13iIaGRIA0TNRkjkJSMA27UHi1QRkUA37xYxcZH7gA6agudNQinUAAg4j2X2ectAFEqbyBzjHkAFfKrfNthBmAGhrpoUhWWB11mC84iKT0JAHmFBn68yb7Ab1f8R2OeMiAiInkmFMJLkAkbBJATrB3AAoOJ1xls4PqAvcDDBcZxSjAvo2Q6b0CjkAwEqgj7MdzQAyFuXO1a6lFB0OS8REhP9uB0So3qMBsvl16Z6xi2naOZB7eEPY4sT1AB8RqQvfgdkuBBRo8Bbz114BDvRLnT8J5YBIKu0V1WKOgBKlLeHF65R2BMK757aB0iHBMtdCrohop6BOeVEGa8hwWBR4TrflVSCnBSDURcuCsJiBWDNormpUTWBWyRRXDq0PUBYt3VBSCFZr19hlmEXOlrPBZaDsuFINGGBaMxJfEvU1Z1A5AmOPmTi8Bd5WO5W3pVxBeBqB8QtMSBBejRUBVikDhBkJ2U52c1bQBp6sJ2xlUZmBpFQkBrpZZXBsVs3ayuBQP
end PySem.W.Fast
open PySem PySem.W PyProof.Rows
local macro_rules | `(tactic| exists $n,$b,$f)=>`(tactic| refine CI.O_ $(Lean.mkIdent `KX) $(Lean.mkIdent `G) (show CI.BR _ (Tx.top $n) _ $f from CI.lJ $b) ?_)
set_option maxRecDepth 100000 in
set_option maxHeartbeats 0 in
theorem PySem.Challenge.cw_canonwright_k54_whole_needed_in_fewer_holds : PySem.Challenge.rw_canonwright_k54_whole_needed_in_fewer.Holds := by
 w_on;o_law;k_head;(case hw=>w_witness2)
 k_fill
 refine CI.wIa (l:=PySem.Challenge.rw_canonwright_k54_whole_needed_in_fewer) (T:=Tx.T) (L:=Tx.L) (st:=Tx.top 69) (fn:=Tx.VP) (W:=1000000) (n:=30) (x:="law") (p:="_law_script") (f:="law") rfl rfl ⟨rfl,by decide,by decide,rfl⟩ rfl Tx.jv Tx.hOa (by decide +kernel) (λw h Y=>PySem.W.kIn_of Y) ?K_ ?iKa
 case iKa=>exact Mx.law_spec _
 case K_ =>
  intro w mg h KX G;have NZ:CI.ClsAt (L2.uB KX) "Span":=by refine' CI.HN ?a ?pg ?hd ?po ?sa ?mk ?kp;(case a | pg | hd | po | sa | mk | kp=>dsimp only[L2.uB];k_is)
  have Td:CI.ClsAt (L2.uB KX) "Leap":=by refine' CI.HN ?a ?pg ?hd ?po ?sa ?mk ?kp;(case a | pg | hd | po | sa | mk | kp=>dsimp only[L2.uB];k_is)
  have Sd:CI.ClsAt (L2.uB KX) "Back":=by refine' CI.HN ?a ?pg ?hd ?po ?sa ?mk ?kp;(case a | pg | hd | po | sa | mk | kp=>dsimp only[L2.uB];k_is)
  have Qd:CI.ClsAt (L2.uB KX) "Again":=by refine' CI.HN ?a ?pg ?hd ?po ?sa ?mk ?kp;(case a | pg | hd | po | sa | mk | kp=>dsimp only[L2.uB];k_is)
  have MZ:CI.ClsAt (L2.uB KX) "Range":=by refine' CI.HN ?a ?pg ?hd ?po ?sa ?mk ?kp;(case a | pg | hd | po | sa | mk | kp=>dsimp only[L2.uB];k_is)
  have Pd:CI.ClsAt (L2.uB KX) "Above":=by refine' CI.HN ?a ?pg ?hd ?po ?sa ?mk ?kp;(case a | pg | hd | po | sa | mk | kp=>dsimp only[L2.uB];k_is)
  have Ud:CI.ClsAt (L2.uB KX) "Never":=by refine' CI.HN ?a ?pg ?hd ?po ?sa ?mk ?kp;(case a | pg | hd | po | sa | mk | kp=>dsimp only[L2.uB];k_is)
  have D_law:CI.AR (L2.uB KX) "law" (Tx.top 69):=by refine' CI.Pf ?a ?l ?c ?k;(case a | l | c | k=>dsimp only[L2.uB];k_is)
  have Jt:CI.BH (L2.uB KX) mg Tx.T (CI.HE Tx.L) ("LEADER",.c (.t [(.int 0),(.int 0),(.bl false)])):=by
   refine' CI.Ef KX G ?a ?l ?c ?z
   (case a | l=>dsimp only[L2.uB];k_is)
   (case c=>first | rfl | decide +kernel)
   (case z=>rfl)
  have Ht:CI.BH (L2.uB KX) mg Tx.T (CI.HE Tx.L) ("BY_THE_LINE",.c (.t [])):=by
   refine' CI.Ef KX G ?a ?l ?c ?z
   (case a | l=>dsimp only[L2.uB];k_is)
   (case c=>first | rfl | decide +kernel)
   (case z=>rfl)
  have Kt:CI.BH (L2.uB KX) mg Tx.T (CI.HE Tx.L) ("START",.c (.t [(.t [(.int 0),(.t [])]),(.t [(.int 0),(.t [])])])):=by
   refine' CI.oy KX G ?a ?xq
   (case a=>dsimp only[L2.uB];k_is)
   case xq =>
    refine' CI.aS ?xl1 ?xc1 ?xz1
    (case xl1=>dsimp only[L2.uB];k_is)
    (case xz1=>rfl)
    case xc1 =>
     refine' CI.DP ?s2a (CI.DP ?t2a CI.eS)
     case s2a =>
      refine' CI.aS ?xl2 ?xc2 ?xz2
      (case xl2=>dsimp only[L2.uB];k_is)
      (case xz2=>rfl)
      case xc2 =>
       refine' CI.DP (CI.Ye (by decide +kernel)) (CI.DP ?u2a CI.eS)
       case u2a =>
        refine' CI.aS ?xl3 ?xc3 ?xz3
        (case xl3=>dsimp only[L2.uB];k_is)
        (case xz3=>rfl)
        (case xc3=>exact CI.eS)
     case t2a =>
      refine' CI.aS ?xl4 ?xc4 ?xz4
      (case xl4=>dsimp only[L2.uB];k_is)
      (case xz4=>rfl)
      case xc4 =>
       refine' CI.DP (CI.Ye (by decide +kernel)) (CI.DP ?v2a CI.eS)
       case v2a =>
        refine' CI.aS ?xl5 ?xc5 ?xz5
        (case xl5=>dsimp only[L2.uB];k_is)
        (case xz5=>rfl)
        (case xc5=>exact CI.eS)
  have je:CI.mP (L2.uB KX) "TooMany":=by
   refine' CI.y3 ?a ?xq ?ga ?no ?cl ?gt ?tk ?mo ?mb ?mv
   (case a | ga | no | cl | gt | tk | mo | mb | mv=>dsimp only[L2.uB];k_is)
   (case xq=>dsimp only[L2.uB];k_exc)
  have sv:CI.mP (L2.uB KX) "Unlike":=by
   refine' CI.y3 ?a ?xq ?ga ?no ?cl ?gt ?tk ?mo ?mb ?mv
   (case a | ga | no | cl | gt | tk | mo | mb | mv=>dsimp only[L2.uB];k_is)
   (case xq=>dsimp only[L2.uB];k_exc)
  have qv:CI.mP (L2.uB KX) "NoNumber":=by
   refine' CI.y3 ?a ?xq ?ga ?no ?cl ?gt ?tk ?mo ?mb ?mv
   (case a | ga | no | cl | gt | tk | mo | mb | mv=>dsimp only[L2.uB];k_is)
   (case xq=>dsimp only[L2.uB];k_exc)
  refine⟨D_law, ?_⟩;unfold Tx.L
  iterate 8 refine CI.fc (by refine' CI.T1 KX G ?a;(case a=>k_is)) ?_
  refine CI.fc (Jt) ?_;refine CI.fc (Ht) ?_
  iterate 3 refine CI.fc (by refine' CI.T1 KX G ?a;(case a=>k_is)) ?_
  refine CI.fc (Kt) ?_
  iterate 1 refine CI.fc (by refine' CI.T1 KX G ?a;(case a=>k_is)) ?_
  exists 15,CI.HJ,Tx.M4
  exists 16,CI.MI,Tx.N4
  exists 18,CI.mF,Tx.X4
  exists 19,CI.mF,Tx.Z4
  exists 20,CI.gI,Tx.o5
  exists 21,CI.MI,Tx.j5
  exists 22,CI.MI,Tx.K4
  exists 25,CI.HJ,Tx.i5
  exists 26,CI.MI,Tx.R4
  exists 35,CI.HJ,Tx.cL
  exists 37,CI.HJ,Tx.Y4
  exists 38,CI.gI,Tx.J4
  exists 43,CI.HJ,Tx.Q4
  exists 44,CI.mF,Tx.x5
  exists 45,CI.mF,Tx.l5
  exists 46,CI.HJ,Tx.P4
  exists 47,CI.mF,Tx.T4
  exists 48,CI.MI,Tx.F4
  exists 52,CI.gI,Tx.W4
  exists 53,CI.MI,Tx.V4
  exists 54,CI.mF,Tx.HV
  exists 55,CI.MI,Tx.L4
  exists 56,CI.mF,Tx.FV
  exists 57,CI.mF,Tx.O4
  exists 58,CI.mF,Tx.qS
  exists 60,CI.mF,Tx.X3
  exists 61,CI.mF,Tx.R3
  exists 62,CI.Ow,Tx.Z3
  exists 63,CI.HJ,Tx.W3
  exists 64,CI.HJ,Tx.T3
  exists 65,CI.mF,Tx.j4
  exists 66,CI.mF,Tx.l4
  exists 67,CI.mF,Tx.Q3
  exists 68,CI.gI,Tx.V3
  exists 69,CI.HJ,Tx.VP
  refine CI.fc (CI.JN KX G NZ (by refine' CI.nG ?a ?b ?i ?l ?c ?k;(case a | b | i | l | c | k=>(try dsimp only[L2.uB]);k_is)) Tx.dEa (by(repeat refine CI.fc (by refine' CI.jO ?a ?b;(case a | b=>(try dsimp only[L2.uB]);k_is)) ?_);exact λ_ h=>nomatch h)) ?_;refine CI.fc (CI.JN KX G Td (by refine' CI.nG ?a ?b ?i ?l ?c ?k;(case a | b | i | l | c | k=>(try dsimp only[L2.uB]);k_is)) Tx.aEa (by(repeat refine CI.fc (by refine' CI.jO ?a ?b;(case a | b=>(try dsimp only[L2.uB]);k_is)) ?_);exact λ_ h=>nomatch h)) ?_;refine CI.fc (CI.JN KX G Sd (by refine' CI.nG ?a ?b ?i ?l ?c ?k;(case a | b | i | l | c | k=>(try dsimp only[L2.uB]);k_is)) Tx.zDa (by(repeat refine CI.fc (by refine' CI.jO ?a ?b;(case a | b=>(try dsimp only[L2.uB]);k_is)) ?_);exact λ_ h=>nomatch h)) ?_;refine CI.fc (CI.JN KX G Qd (by refine' CI.nG ?a ?b ?i ?l ?c ?k;(case a | b | i | l | c | k=>(try dsimp only[L2.uB]);k_is)) Tx.yDa (by(repeat refine CI.fc (by refine' CI.jO ?a ?b;(case a | b=>(try dsimp only[L2.uB]);k_is)) ?_);exact λ_ h=>nomatch h)) ?_;refine CI.fc (CI.JN KX G MZ (by refine' CI.nG ?a ?b ?i ?l ?c ?k;(case a | b | i | l | c | k=>(try dsimp only[L2.uB]);k_is)) Tx.cEa (by(repeat refine CI.fc (by refine' CI.jO ?a ?b;(case a | b=>(try dsimp only[L2.uB]);k_is)) ?_);exact λ_ h=>nomatch h)) ?_;refine CI.fc (CI.JN KX G Pd (by refine' CI.nG ?a ?b ?i ?l ?c ?k;(case a | b | i | l | c | k=>(try dsimp only[L2.uB]);k_is)) Tx.xDa (by(repeat refine CI.fc (by refine' CI.jO ?a ?b;(case a | b=>(try dsimp only[L2.uB]);k_is)) ?_);exact λ_ h=>nomatch h)) ?_;refine CI.fc (CI.JN KX G Ud (by refine' CI.nG ?a ?b ?i ?l ?c ?k;(case a | b | i | l | c | k=>(try dsimp only[L2.uB]);k_is)) Tx.bEa (by(repeat refine CI.fc (by refine' CI.jO ?a ?b;(case a | b=>(try dsimp only[L2.uB]);k_is)) ?_);exact λ_ h=>nomatch h)) ?_;refine Wb.mpr ⟨⟨"broken",rfl,by unfold Tx.pJ;exact CI.fc (CI.yL NZ (by refine' CI.nG ?a ?b ?i ?l ?c ?k;(case a | b | i | l | c | k=>(try dsimp only[L2.uB]);k_is)) Tx.qNa rfl) (CI.fc (CI.yL Td (by refine' CI.nG ?a ?b ?i ?l ?c ?k;(case a | b | i | l | c | k=>(try dsimp only[L2.uB]);k_is)) Tx.mNa rfl) (CI.fc (CI.yL Sd (by refine' CI.nG ?a ?b ?i ?l ?c ?k;(case a | b | i | l | c | k=>(try dsimp only[L2.uB]);k_is)) Tx.lNa rfl) (CI.fc (CI.yL Qd (by refine' CI.nG ?a ?b ?i ?l ?c ?k;(case a | b | i | l | c | k=>(try dsimp only[L2.uB]);k_is)) Tx.kNa rfl) (CI.fc (CI.yL MZ (by refine' CI.nG ?a ?b ?i ?l ?c ?k;(case a | b | i | l | c | k=>(try dsimp only[L2.uB]);k_is)) Tx.oNa rfl) (CI.fc (CI.yL Pd (by refine' CI.nG ?a ?b ?i ?l ?c ?k;(case a | b | i | l | c | k=>(try dsimp only[L2.uB]);k_is)) Tx.jNa rfl) (CI.fc (CI.yL Ud (by refine' CI.nG ?a ?b ?i ?l ?c ?k;(case a | b | i | l | c | k=>(try dsimp only[L2.uB]);k_is)) Tx.nNa rfl) (λ_ h=>nomatch h)))))))⟩, ?_⟩;refine Wb.mpr ⟨⟨"forbids",rfl,by unfold Tx.QM;exact CI.fc (CI.yL NZ (by refine' CI.nG ?a ?b ?i ?l ?c ?k;(case a | b | i | l | c | k=>(try dsimp only[L2.uB]);k_is)) Tx.rNa rfl) (CI.fc (CI.yL MZ (by refine' CI.nG ?a ?b ?i ?l ?c ?k;(case a | b | i | l | c | k=>(try dsimp only[L2.uB]);k_is)) Tx.pNa rfl) (λ_ h=>nomatch h))⟩, ?_⟩
  iterate 13 refine CI.fc (by refine' CI.Nw KX G ?a;(case a=>k_is)) ?_
  refine CI.fc (CI.A3 KX G je) ?_;refine CI.fc (CI.A3 KX G sv) ?_;refine CI.fc (CI.A3 KX G qv) ?_;refine CI.fc (CI.w_ KX G je (by(repeat refine CI.fc (by refine' CI.tKa ?a ?b ?m;(case a | b | m=>k_is)) ?_);exact List.forall_mem_nil _)) ?_
  exact λ_ h=>nomatch h
