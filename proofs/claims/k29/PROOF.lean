import PyProof.Rows.All
import Wide.All
import OpenK.AllK
import PySem.Challenge.RW_canonwright_k29_stands_that_come
open Option renaming some->aA,none->eA,bind_eq_some_iff->nF,map_eq_some_iff->RF,map_some->WE,bind_some->sG,casesOn->XF,getD_none->Yh
open PySem.W renaming Frag->kA,nsIn->yB,findIn->XE,keepIn->tG,fnOf->JG,emptyDict->oK,mroIn->kI,hideAll_none->AO,instObj->DL,kia_one->EL,mg_of->IL,plainGet->OO,codeIn->XM,hideAll->RO,hasDictIn->jR,kin_not->aN,of_hideAll->PU,callWith_K->QU,kitAny->yR,makesIn->aV,hideAll_get->X2,plainGet_of->Z2,isFn->BR,isIn->FR,lookIn->eV,looks_findIn->fV,methodObj->E3,plainOver->J3,OpenLaw->HR,cellsFrom_some->Rg,takerIn->W3,methodCall_KW->Wg,KdlSrc->Y3,excIn->y4,specialIn->Uh,handedIn->Xh,kat_cons->ai,looks_mroIn->P4,kat_yes->ti,takesIn->vi,WalkO->R4,kat_no->Di,Looks->EV
open Bool renaming true->bA,false->dA,and_eq_true->RA,false_ne_true->CD,or_false->YE,false_or->YF,false_eq_true->eJ,or_true->mG,true_or->nG,or_eq_true->jI,true_and->mJ,false_and->FL,not_eq_true'->KO,not_eq_true->oR,or_eq_false_iff->V2,casesOn->ER,and_false->iV,eq_false_iff->M3,and_true->m4,decide_and->si,eq_iff_iff->Bi
open PySem.Str renaming ofString->xA
open List renaming length_map->vA,getElem?_eq_getElem->pC,replicate->AB,getElem?_eq_some_iff->BD,length_cons->YB,size_toArray->EC,map_cons->MB,length_append->NC,casesOn->LB,mem_cons_of_mem->tD,getElem?_set_ne->PD,all_cons->kC,getElem?_map->jD,mem_singleton->RD,map_append->vD,mem_append_left->VE,append_nil->DD,mem_cons->WC,mem_of_getElem?->pF,mem_append_right->SF,range->qC,mem_append->SD,getElem?_cons_zero->nH,length_set->oE,append_assoc->rG,mem_cons_self->MG,getElem?_set_self->sI,getD_eq_getElem?_getD->zK,pairwise_append->tI,getElem?_append_right->LL,getElem?_eq_none->uJ,getElem?_append_left->NL,lookup_cons->oH,take_of_length_le->AK,mem_map->qF,length_nil->pH,all_eq_true->IH,length_take->iI,zip_cons_cons->lK,drop_eq_getElem_cons->wO,replicate_succ->wL,getElem?_range->yL,mem_iff_getElem?->OM,length_drop->rK,extract_eq_take_drop->WQ,take_append_drop->zO,set_cons_zero->QM,length->EH,flatten_cons->RM,getElem?_cons_succ->XQ,reverse_append->CO,getElem?_take->EO,getElem?_drop->FO,set_cons_succ->GO,pairwise_iff_getElem->BU,foldl_cons->VM,lookup->oJ,map_map->wK,nodup_append->MO,any_cons->HL,take_succ->YM,nodup_cons->SO,length_singleton->HU,length_filter_le->KU,length_range->lR,drop_drop->VO,map_nil->cN,mem_filter->pR,forIn_cons->rR,range_succ->uR,filter_append->SU,getElem?_replicate->K2,append_cancel_left->O2,mem_range->vR,take_zero->wR,isEmpty_iff_length_eq_zero->Ag,pairwise_reverse->Q2,take_length->XU,isEmpty_iff->YU,reverse_reverse->S2,forall_mem_cons->W2,find?_cons->dV,filterMap_cons->Y2,drop_succ_cons->l3,mergeSort_perm->m3,forall_mem_nil->o3,mem_filterMap->y3,getElem?_eq_none_iff->Hg,reverse_perm->L3,eq_of_mem_replicate->Mg,length_eq_zero_iff->Og,foldl->JR,drop_of_length_le->Tg,of_mem_zip->X3,dropLast_eq_take->kh,eq_nil_or_concat->lh,concat_eq_append->mh,mem_of_mem_drop->oh,mem_of_mem_take->ph,take_succ_cons->yh,length_pos_iff->zh,take_add->n4,map_drop->A4,map_take->B4,contains_cons->Kh,map_replicate->Lh,zip_nil_left->Nh,ext_getElem?->Rh,filter_congr->Wh,mem_reverse->Zh,drop_length->ji,getElem_mem->mi,nil_append->ni,filter_map->Ai,forIn_nil->Ci,drop_zero->Fi,nodup_nil->Hi,sum_cons->Mi,all_nil->Ri,all_map->Si
open PySem renaming wpAny_bind->pA,Value->gA,wpAny_pure->WA,mainGlobals->eB,Str->fA,Shared->zA,Addr->jA,wpAny->tA,Expr->wA,starEach->QB,Stmt->QA,Program->GC,foldedSetIterable->fJ,compareOp->bE,wpAny_truthy_bool->nK,wpAny_newObj_type->pK,Heap->nB,wpAny_holding->DH,World->PB,wpAny_callSpecial?_slot->xO,ExceptHandler->lI,wpAny_mono->oG,wpAny_field->lH,binaryOp->yE,wpAny_call_entry->BL,behindInMarks->lJ,assignEach->mH,bootBuiltins->nJ,Around->AD,wpAny_Call_Name_kw->DO,wpAny_passesOwn->UM,FuncData->qG,mem_of_lookup->aR,PassesOwn->FH,wpAny_typeNameOfWhole_keyiter->x2,backTo->mE,Params->mI,wpAny_setField_rec->gR,wpAny_pyIter_list->iR,sizeLine_eq->KL,codeAny_call_builtin->NU,codeAny_mono->bN,Env->qJ,NameKind->nI,wpAny_typeNameOf_keyiter->J2,Obj->qB,Builtin->GH,wpAny_setField->xR,Operator->rJ,Pos->xB,codeAny->oI,wpAny_attempt->zR,wpAny_execs_nil->ZU,codeAny_builtin->cV,Scope->kF,CmpOp->lF,call_meets->aP,ItemsAre->jV,wpAny_dictEntries->N3,wpAny_pyIter_enum->O3,wpAny_standAt->lV,IsPart->pI,wpAny_newList->mV,IsEnum->qI,noFill_tuple_add->Q3,wpAny_isInstance->T3,concat_meets->pV,wpAny_isOneOf_keyiter->fh,wpAny_isSubtype_exc->xh,seq_tuple_add->j4,wpAny_call->wV,wpAny_rule->xV,Within->C4,wpAny_assign_Name->Mh,wpAny_sequenceKey->Oh,wpAny_typeOf->E4,seqIndex_neg->F4,slot_list_getitem->Ph,wpAny_loadPart_at->Th,seqIndex_of->M4,wpAny_mkInt->N4,wpAny_Name->S4,typeIs_int->V4,call->W4,boot_len->Gi,BindsTo->BV,Keyword->DV,Sem->oF
open PySem.Heap renaming get?_push_of_some->jC,lt_size->OB,get?_push_size->QD,SameBut->jH,get?_update_other->yO,get?_update_self->GU,get?_none_of_le->LU,size_push->hV
open Nat renaming le_refl->kB,lt_of_lt_of_le->MC,le_trans->TB,ne_of_lt->XC,lt_of_le_of_lt->TF,lt_succ_self->VF,le_of_lt->eE,le_add_right->NG,zero_le->pE,le_of_eq->NF,add_sub_of_le->gJ,lt_of_le_of_ne->mK,ne_of_gt->kH,eq_or_lt_of_le->zL,sub_le->PF,le_of_lt_succ->AL,succ_le_succ->CL,sub_one_lt->tK,lt_of_succ_lt->SM,add_assoc->uK,le_add_left->WM,lt_trans->vK,add_le_add_right->YQ,add_sub_assoc->LO,lt_irrefl->GL,add_lt_add_left->cR,le_succ->xK,add_le_add_left->OU,min_eq_left->sR,not_lt_zero->tR,sub_pos_of_lt->UU,sub_self->ZO,max_eq_right->VU,le_sub_one_of_lt->T2,zero_add->DR,pos_of_ne_zero->A3,lt_of_lt_of_eq->C3,le_of_not_lt->R3,add_sub_cancel_left->Ng,eq_zero_of_not_pos->Ug,add_zero->qV,le_of_sub_eq_zero->bh,sub_one_lt_of_le->nh,one_pos->uV,pow_le_pow_right->rh,not_lt->yV,lt_succ_of_lt->Qh,succ_ne_self->gi,strongRecOn->ui,le_antisymm->xi,mul_le_mul->Ii
open Option.some renaming injEq->XB,inj->kD
open PyProof.Rows renaming wpS_pure->bB,Keyed->LA,step_dedup->tJ,slot_tuple_getitem->gN,SortSt->HB,wpS_bind->RC,callWith_type1->zU,AllBare->sJ,IsTup->KG,subscriptTail_builtinR->Sg,firstMet->gh,SortKind->bP,wpS_reverse->vV,entry_tuple_getitem->th,tupleItemsOf_->l4,listUpdate_at->u4,args_tuple_getitem->Fh,seqEpoch_at->O4,KK_congr->AV,lt_int->Ni
open Array renaming length_toList->uD,getElem?_eq_getElem->mF,toList_append->nE,getElem?_toList->LG,getElem?_eq_some_iff->VQ,mem_toList_iff->BO,toList_extract->ZQ,getElem_mem->kR,toList_reverse->MU,toList->XO,getElem?_setIfInBounds_ne->zg,toList_inj->WU,toList_setIfInBounds->Eg,perm_iff_toList_perm->Fg,toList_push->K3,getElem_extract->dh,toArray_toList->qh,forIn_toList->Hh,size_extract->Ih,size_map->Ei
open PySem.Expr renaming casesOn->FC
open LawfulBEq renaming eq_of_beq->yC
open Prod.mk renaming injEq->ZE
open Int renaming toNat_natCast->HH,lt_trichotomy->NO,emod_nonneg->UO,emod_lt_of_pos->RU,mul_zero->GR,fdiv_eq_ediv_of_nonneg->Cg,mul_pos_of_neg_of_neg->Ig,mul_neg_of_neg_of_pos->Kg,mul_neg_of_pos_of_neg->Lg,toNat_of_nonneg->Ah,le_trans->J4,pow_pos->Q4,ediv_nonneg->yi
open PyProof.Rows.KeyOrd renaming kle_of_not_klt->BK,kle_trans->jJ,kle_of_klt->qK,kle_refl->bV,kle_antisymm->uh
open False renaming elim->OF
open Ne renaming symm->sD
open PySem.PyData renaming canLay0->kJ,canLayAll0->JO,depth->JL,eqvAll->ZM,strOk->dN,depthAll->qR,eqv->fN
open PySem.Builtin.Slice renaming slicePlaces->AU,sliceAdjust->C2,sliceApplied->Dg
open PySem.Builtin.Tuple renaming tupleExact->CU,tupleItemsOf->B2,tupleHashOf->D2
open PySem.Builtin.List renaming listTooLong->DU
open PySem.AutoSeq1 renaming wpAny_loadPart'->EU,list_clear_list_0->gMa
open PySem.F renaming plainAttrs_list->FU,slot_dict_keyiterator_next->A2,slot_enumerate_next->JU,args_tuple_add_2->E2,entry_tuple_add->N2,slot_tuple_add->P2,excBase_ValueError->Gg,called_enumerate->D3,args_enumerate_next_1->Pg,slot_list_clear->Qg,entry_enumerate_next->Vg,slot_list_append->Xg,slot_list_extend->Yg,slot_dict_len->jh,slot_list_pop->Gh,slot_dict_iter->di,slot_int_rmul->oi
open PySem.Obj renaming mapSeq->pJ,data_mapFields->eR,isFreed_of_fields->IU,mapFields->WO,cls_mapFields->Sh
open PySem.Builtin renaming bitAnd->mR
open PySem.Builtin.SmallTypes renaming ownedTupleHandOut->xg,ownedTupleIsFree->yg,fitsIndex->Bg
open PySem.Value renaming isInt_shape->TU,casesOn->nV,isInt->K4,isStrOf->Ji
open PySem.Around renaming under->YO,deeper->Z3
open List.cons renaming inj->AR,injEq->ri
open Eq renaming trans->yK
open PySem.Code renaming quiet_builtin->B3,isGuard->oV,isFrame->D4,guards->L4
open PySem.SeqAt renaming rcAt_reads->S3,EqAt->T4
open PySem.Env renaming kindOf->V3
open PySem.Stmt renaming casesOn->rV
open PySem.Flow renaming casesOn->sV
open List.Perm renaming append_left->Zg
open PySem.Builtin.Dict renaming showsAll->eh
open Sum.inl renaming inj->tV
open PySem.Heap.SameBut renaming update->vh
open PySem.EntryCells renaming newEntry->wh
open PySem.SeqAt.EqAt renaming int_str->Bh,str_int->Dh,int_int->Eh
open PySem.PassesOwn renaming looking->Vh
open PySem.Operator renaming casesOn->ki
open PySem.Builtin.Dict_items renaming ownsTuple->hMa
open Prod renaming ext->zV
open PySem.Paired renaming length->Ki
open PySem.Value.ref renaming inj->Li
open PyProof.Rows.IsTup renaming new->X4
open PySem.Data.seq renaming inj->Oi
open Nat.succ renaming inj->Qi
open PySem.Heap.IsSliceOf renaming new->iMa
open PySem.W.WShape renaming has->Ti
set_option Elab.async false
set_option linter.all false
set_option maxRecDepth 100000
set_option genCtorIdx false
set_option genInjectivity false
set_option tactic.hygienic false
theorem cB:type_of% @decide_eq_false:=@decide_eq_false
theorem vB:type_of% @decide_eq_true:=@decide_eq_true
theorem JA.{u}:type_of% @if_neg.{u}:=@if_neg.{u}
theorem MA.{u}:type_of% @if_pos.{u}:=@if_pos.{u}
theorem iJ:type_of% @decide_eq_true_eq:=@decide_eq_true_eq
theorem pG.{u}:type_of% @beq_iff_eq.{u}:=@beq_iff_eq.{u}
theorem PM.{u}:type_of% @beq_eq_false_iff_ne.{u}:=@beq_eq_false_iff_ne.{u}
theorem TM.{u}:type_of% @beq_self_eq_true.{u}:=@beq_self_eq_true.{u}
theorem QO:type_of% @decide_eq_decide:=@decide_eq_decide
set_option compiler.extract_closed false
set_option genSizeOf false
set_option bootstrap.genMatcherCode false
noncomputable section
namespace L2
open PySem PySem.Spec PyProof.Rows
abbrev Key:=Sum Int fA
noncomputable def N9:Key->gA->Bool
 |.inl k,v=>K4 k v
 |.inr x,v=>Ji x v
noncomputable def sx(w:PB):Key->Int
 |.inl k=>hashInt k
 |.inr x=>hashStr w x
theorem QJ:∀{k:Key} {v:gA},N9 k v=bA->(∃i t,k=Sum.inl i/\v=Value.int i t)\/(∃x t,k=Sum.inr x/\v=Value.str x t)
 |.inl i,v,h=>by
  obtain⟨t,e⟩:=TU (k:=i) h;exact .inl ⟨i,t,rfl,e⟩
 |.inr x,v,h=>by(obtain⟨t,e⟩:=Value.isStrOf_shape h;exact .inr ⟨x,t,rfl,e⟩)
def vx(a b:Int):decide ((Sum.inl a:Key)=Sum.inl b)=(a==b):=by
 by_cases e:a=b
 ·subst e;simp
 ·have h:¬(Sum.inl a:Key)=Sum.inl b:=λq=>e (tV q)
  rw[cB h];exact(PM.mpr e).symm
def yx(a b:fA):decide ((Sum.inr a:Key)=Sum.inr b)=decide (a=b):=by
 by_cases e:a=b
 ·subst e;simp
 ·have h:¬(Sum.inr a:Key)=Sum.inr b:=λq=>e (Sum.inr.inj q)
  rw[cB h,cB e]
def wx(a:Int)(b:fA):decide ((Sum.inl a:Key)=Sum.inr b)=dA:=cB (λq=>nomatch q)
def xx(a:fA)(b:Int):decide ((Sum.inr a:Key)=Sum.inl b)=dA:=cB (λq=>nomatch q)
def Aa(prog:GC)(w:PB):PySem.KeyKind prog w Key where
 is:=N9
 hash:=sx w
 inj:=λv a b f d=>by
  rcases QJ f with ⟨i,t,rfl,rfl⟩ | ⟨x,t,rfl,rfl⟩
  ·rcases QJ d with ⟨j,u,rfl,e⟩ | ⟨y,u,rfl,e⟩
   ·injection e with e1 _;rw[e1]
   ·exact nomatch e
  ·rcases QJ d with ⟨j,u,rfl,e⟩ | ⟨y,u,rfl,e⟩
   ·exact nomatch e
   ·injection e with e1 _;rw[e1]
 byValue:=λk v h=>by
  rcases QJ h with ⟨i,t,rfl,rfl⟩ | ⟨x,t,rfl,rfl⟩<;>rfl
 pyHash:=λc h=>by
  rcases QJ c with ⟨i,t,rfl,rfl⟩ | ⟨x,t,rfl,rfl⟩
  ·exact wpAny_pyHash_int h
  ·exact wpAny_pyHash_str h
 eqBool:=λhu c h=>by
  rcases QJ hu with ⟨i,t,rfl,rfl⟩ | ⟨x,t,rfl,rfl⟩
  ·rcases QJ c with ⟨j,u,rfl,rfl⟩ | ⟨y,u,rfl,rfl⟩
   ·rw[vx] at h;exact wpAny_eqBool_int h
   ·rw[wx] at h;exact Bh i t y u _ _ _ _ h
  ·rcases QJ c with ⟨j,u,rfl,rfl⟩ | ⟨y,u,rfl,rfl⟩
   ·rw[xx] at h;exact Dh x t j u _ _ _ _ h
   ·rw[yx] at h;exact wpAny_eqBool_str h
 «strs»:=λk x t v h=>by
  rcases QJ h with ⟨i,u,rfl,e⟩ | ⟨y,u,rfl,e⟩
  ·exact nomatch e
  ·injection e with e1 _
   subst e1;cases v<;>rfl
inductive V where
 |lA
 |bl (b:Bool)
 |int (i:Int)
 |str (x:fA)
 |ref (a:jA)
 |ty (n:String)
set_option genCtorIdx true in
set_option genInjectivity true in
gen_injective_theorems% V
instance (x:V):Decidable (x=.lA):=by cases x<;>first | exact isTrue rfl | exact isFalse (λh=>nomatch h)
def aAe:V->gA->Prop
 |.lA,u=>u=Value.none
 |.bl b,u=>u=Value.bool b
 |.int i,u=>∃t,u=Value.int i t
 |.str x,u=>∃t,u=Value.str x t
 |.ref a,u=>u=Value.ref a
 |.ty n,u=>u=Value.type n
abbrev aAc:List V->List gA->Prop:=Paired aAe
theorem aAc.length(r:aAc xs j):xs.length=j.length:=Ki r
def aAc.get{i:Nat}(h:aAc xs j)(e:xs[i]?=aA x):∃u,j[i]?=aA u/\aAe x u:=by
 induction h generalizing i with
 |nil=>cases e
 |cons r t m =>
  cases i with
  |zero=>cases e;exact⟨_,rfl,r⟩
  |succ i=>exact m e
theorem aAc.set(r:aAe x u)(i:Nat)(h:aAc xs j):aAc (xs.set i x) (j.set i u):=by
 induction h generalizing i with
 |nil=>exact .nil
 |cons q t m =>
  cases i with
  |zero=>exact .cons r t
  |succ i=>exact .cons q (m i)
def aAc.append(h:aAc xs j)(s:aAc m x):aAc (xs++m) (j++x):=by
 induction h with
 |nil=>exact s
 |cons r t y=>exact .cons r y
theorem aAc.take(n:Nat)(h:aAc xs j):aAc (xs.take n) (j.take n):=by
 induction h generalizing n with
 |nil=>cases n<;>exact .nil
 |cons r t m =>
  cases n with
  |zero=>exact .nil
  |succ n=>exact .cons r (m n)
theorem aAc.drop(n:Nat)(h:aAc xs j):aAc (xs.drop n) (j.drop n):=by
 induction h generalizing n with
 |nil=>cases n<;>exact .nil
 |cons r t m =>
  cases n with
  |zero=>exact .cons r t
  |succ n=>exact m n
def zI:Option V->Option gA->Prop
 |some v,aA u=>aAe v u
 |none,eA=>True
 |_,_=>False
def KV:List (N×V)->List (N×gA)->Prop:=Paired λ(p:N×V) (q:N×gA)=>p.1=q.1/\aAe p.2 q.2
noncomputable def kV:Key->V
 |.inl i=>.int i
 |.inr x=>.str x
inductive HO where
 |l (xs:List V)
 |t (xs:List V)
 |dK (kvs:List (Key×V))
 |set (S:Int->Bool) (n:Nat)
 |ins (C dx:jA) (fs:List (fA×V))
 |own (x:jA)
 |xd (fs:List (fA×V))
 |met (f x:jA)
 |gC (lo hi:Int)
 |IE (o:qB) (u:HO)
 |pL (ps:Array gA)
 |ext (φ:nB->Prop)
set_option genCtorIdx true in
gen_injective_theorems% HO
abbrev Hp:=jA->Option HO
noncomputable def EA(H:Hp)(a:jA)(o:HO):Hp:=λb=>if b=a then aA o else H b
def oC:EA H a o a=aA o:=by unfold EA;rw[MA rfl]
def pB(h:b≠a):EA H a o b=H b:=by unfold EA;rw[JA h]
def Q1:EA (EA H a o) a u=EA H a u:=by
 funext b;unfold EA;split<;>rfl
def vE{H:Hp}(h:H a=aA o)(c:H b=eA):a≠b:=by
 intro e;subst e;rw[h] at c;cases c
section
variable(P:GC)(w:PB)
def lD(H:Hp)(h:nB)(a:jA):HO->Prop
 |.l d=>d.length<=sizeLine/\∃(b:List gA) (n:Nat),aAc d b/\h.get? a=aA { cls:=.type "list",data:=.seq b.toArray n }
 |.t d=>d.length<=sizeLine/\∃b:List gA,aAc d b/\KG h a b.toArray
 |.dK e=>e.length<=sizeLine/\(a==sysModules)=dA/\∃i,KV e i/\h.DictOf (Aa P w) a i
 |.set S n=>h.SetOf (intKind P w) a S n
 |.ins C g fs=>H g=aA (.own a)/\fs.length<=1000/\g≠a/\h.get? a=aA (DL C g) /\
   ∃c,h.Ns1 g c/\(∀f,zI (fs.lookup f) (c f))/\C4 c (fs.map (·.1))
 |.own _=>∃o,h.get? a=aA o
 |.xd fs=>∃c,h.Ns1 a c/\∀f,zI (fs.lookup f) (c f)
 |.gC lo l=>∃t u v,h.get? a=aA { cls:=.type "range",data:=.fields #[.int lo t,.int l u,.int 1 v] }
 |.IE o u=>h.get? a=aA o/\lD H h a u
 |.pL m=>h.get? a=aA { cls:=.none,data:=.fields m }
 |.met f x=>h.get? a=aA (E3 (.ref f) (.ref x))
 |.ext φ=>φ h/\(∃o,h.get? a=aA o)/\∀j k:nB,φ j->(∀o,j.get? a=aA o->k.get? a=aA o)->φ k
def dD(H:Hp)(h:nB):Prop:=∀a o,H a=aA o->lD P w H h a o
end
section
variable{o:HO}
theorem lD.lt(x:lD P w H h a o):a<h.objs.size:=by
 cases o with
 |l xs=>obtain⟨_,_,_,_,e⟩:=x;exact OB e
 |t xs=>obtain⟨_,_,_,p⟩:=x;exact p.lt
 |dK j=>obtain⟨_,_,_,_,o,_,_,e,_⟩:=x;exact OB e
 |set S n=>obtain⟨o,_,_,_,e,_⟩:=x;exact OB e
 |ins C m fs=>obtain⟨_,_,_,e,_⟩:=x;exact OB e
 |own y=>obtain⟨_,e⟩:=x;exact OB e
 |xd fs=>obtain⟨_,⟨_,_,_,e,_⟩,_⟩:=x;exact OB e
 |gC lo r=>obtain⟨_,_,_,e⟩:=x;exact OB e
 |IE ob u=>obtain⟨e,_⟩:=x;exact OB e
 |pL B=>exact OB (show h.get? a=aA _ from x)
 |met f y=>exact OB (show h.get? a=aA _ from x)
 |ext φ=>obtain⟨_,⟨_,e⟩,_⟩:=x;exact OB e
def lD.iF(x:lD P w H h a o)(k:∀b u,(b=a\/H b=aA (.own a))->h.get? b=aA u->F.get? b=aA u)
  (ho:∀b,H b=aA (.own a)->J b=aA (.own a)) (U:∀b xs,H b=aA (.t xs)->J b=aA (.t xs)):lD P w J F a o:=by
 induction o with
 |l xs=>obtain⟨z,j,n,r,e⟩:=x;exact⟨z,j,n,r,k _ _ (.inl rfl) e⟩
 |t xs=>obtain⟨z,j,r,ob,e,c⟩:=x;exact⟨z,j,r,ob,k _ _ (.inl rfl) e,c⟩
 |dK O=>obtain⟨z,y,Q,r,ob,m,B,e,c⟩:=x;exact⟨z,y,Q,r,ob,m,B,k _ _ (.inl rfl) e,c⟩
 |set S n=>obtain⟨ob,m,B,t,e,c⟩:=x;exact⟨ob,m,B,t,k _ _ (.inl rfl) e,c⟩
 |ins C X fs =>
  obtain⟨d,z,ne,e,I,⟨od,m,B,e2,c⟩,r⟩:=x;exact⟨ho _ d,z,ne,k _ _ (.inl rfl) e,I,⟨od,m,B,k _ _ (.inr d) e2,c⟩,r⟩
 |own y=>obtain⟨ob,e⟩:=x;exact⟨ob,k _ _ (.inl rfl) e⟩
 |xd fs=>obtain⟨I,⟨od,m,B,e,c⟩,r⟩:=x;exact⟨I,⟨od,m,B,k _ _ (.inl rfl) e,c⟩,r⟩
 |gC lo Y=>obtain⟨t,u,v,e⟩:=x;exact⟨t,u,v,k _ _ (.inl rfl) e⟩
 |IE ob u R=>obtain⟨e,q⟩:=x;exact⟨k _ _ (.inl rfl) e,R q⟩
 |pL M =>
  have e:h.get? a=aA { cls:=.none,data:=.fields M }:=x;show F.get? a=aA { cls:=.none,data:=.fields M };exact k a _ (.inl rfl) e
 |met f y =>
  have e:h.get? a=aA (E3 (.ref f) (.ref y)):=x;show F.get? a=aA (E3 (.ref f) (.ref y));exact k a _ (.inl rfl) e
 |ext φ=>obtain⟨p,⟨o,e⟩,st⟩:=x;exact⟨st _ _ p λo q=>k _ _ (.inl rfl) q,⟨o,k _ _ (.inl rfl) e⟩,st⟩
theorem dD.lt(x:dD P w H h)(e:H a=aA o):a<h.objs.size:=(x a o e).lt
def dD.fresh(x:dD P w H h)(e:h.objs.size<=a):H a=eA:=by
 cases q:H a with
 |none=>rfl
 |some u=>exact absurd (MC (x.lt q) e) (GL _)
def dD.kept(x:dD P w H h)(k:∀b u,h.get? b=aA u->j.get? b=aA u):dD P w H j:=λa o e =>
 (x a o e).iF (λb u _ q=>k b u q) (λ_ q=>q) λ_ _ q=>q
def dD.laid(x:dD P w H h)(k:∀b u,h.get? b=aA u->h'.get? b=aA u)(hp:h.objs.size<=a)(new:lD P w (EA H a o) h' a o):dD P w (EA H a o) h':=λb u e=>by
 have j:=x.fresh hp;by_cases m:b=a
 ·subst m;rw[oC] at e;cases e;exact new
 ·rw[pB m] at e;exact(x b u e).iF (λc v _ q=>k c v q) (λc q=>by rw[pB (vE q j)];exact q) λc xs q=>by rw[pB (vE q j)];exact q
end
def Rd(H:Hp)(a:jA)(u:HO):Prop:=H a=aA u\/∃o,H a=aA (.IE o u)
def Rd.ok(r:Rd H a u)(x:dD P w H h):lD P w H h a u:=by
 rcases r with r | ⟨o,r⟩
 ·exact x a u r
 ·obtain⟨_,q⟩:=x a _ r;exact q
def lP:Option HO->Prop
 |some (.l _)=>True
 |some (.dK _)=>True
 |some (.set _ _)=>True
 |some (.ins _ _ _)=>True
 |some (.ext _)=>True
 |_=>False
section
variable{P:GC}{w:PB}{H:Hp}{h h':nB}{x e:jA}{o':HO}
def dD.write(ok:dD P w H h)(C:lP (H x))(M:e=x\/H e=aA (.own x))(k:∀b u,b≠e->h.get? b=aA u->h'.get? b=aA u)(J:∃u,h'.get? e=aA u)
  (new:lD P w (EA H x o') h' x o'):dD P w (EA H x o') h':=λb u q=>by
 have m:∀c y,H c=aA (.own y)->c≠x:=λc y r z=>by subst z;rw[r] at C;exact C
 have B:∀c xs,H c=aA (.t xs)->c≠x:=λc xs r z=>by subst z;rw[r] at C;exact C
 by_cases F:b=x
 ·subst F;rw[oC] at q;cases q;exact new
 ·rw[pB F] at q;by_cases j:b=e
  ·have O:H b=aA (.own x):=by
    rcases M with z | z
    ·exact absurd (j.trans z) F
    ·rw[j];exact z
   rw[q] at O;cases O;obtain⟨v,Q⟩:=J;exact⟨v,by rw[j];exact Q⟩
  ·refine(ok b u q).iF (λc v I r=>k c v ?_ r) (λc r=>by rw[pB (m c b r)];exact r) λc xs r=>by rw[pB (B c xs r)];exact r
   rcases I with rfl | I
   ·exact j
   ·rintro rfl
    rcases M with z | z
    ·exact m c b I z
    ·rw[I] at z;cases z;exact F rfl
end
structure Un(fs ex:List jA)(H H':Hp)(h h':nB):Prop where
 keep:∀b o,h.get? b=aA o->H b=eA->b ∉ fs->b ∉ ex->h'.get? b=aA o
 slot:∀b o,h.get? b=aA o->H b=eA->b∈fs->b ∉ ex->∃sl,h'.get? b=aA { o with slots:=sl }
 free:∀b o,h.get? b=aA o->H b=eA->b ∉ ex->H' b=eA
 there:∀b o,h.get? b=aA o->b ∉ ex->∃o',h'.get? b=aA o'
 cJ:∀b xs,H b=aA (.t xs)->H' b=aA (.t xs)
 VH:∀b o u,H b=aA (.IE o u)->H' b=aA (.IE o u)
 aJ:∀b ps,H b=aA (.pL ps)->∃more,H' b=aA (.pL (ps++more))
section
variable{o:HO}
def Un.any(u:Un fs ex H m h h1)(q:h.get? b=aA ob)(n:H b=eA)(hx:b ∉ ex):∃sl,h1.get? b=aA { ob with slots:=sl }:=by
 by_cases j:b∈fs
 ·exact u.slot b ob q n j hx
 ·exact⟨ob.slots,u.keep b ob q n j hx⟩
def Un.kept(k:∀b u,h.get? b=aA u->j.get? b=aA u):Un fs ex H H h j :=
 ⟨λb ob q _ _ _=>k b ob q,λb ob q _ _ _=>⟨ob.slots,k b ob q⟩,λ_ _ _ n _=>n,λb ob q _=>⟨ob,k b ob q⟩,λ_ _ q=>q,λ_ _ _ q=>q,λ_ m q=>⟨#[],by rw[q];simp⟩⟩
def Un.refl:Un fs ex H H h h:=Un.kept λ_ _ q=>q
def Un.laid(k:∀b u,h.get? b=aA u->h'.get? b=aA u)(hp:h.objs.size<=a)(j:H a=eA):Un fs ex H (EA H a o) h h' where
 keep:=λb u q _ _ _=>k b u q
 slot:=λb u q _ _ _=>⟨u.slots,k b u q⟩
 free:=λb u q n _=>by rw[pB (XC (MC (OB q) hp))];exact n
 there:=λb u q _=>⟨u,k b u q⟩
 cJ:=λb xs q=>by rw[pB (vE q j)];exact q
 VH:=λb u xs q=>by rw[pB (vE q j)];exact q
 aJ:=λb m q=>⟨#[],by rw[pB (vE q j),q];simp⟩
def Un.write(m:lP (H x))(F:e=x\/H e=aA (.own x))(k:∀b u,b≠e->h.get? b=aA u->B.get? b=aA u)(y:∃u,B.get? e=aA u):Un fs ex H (EA H x o) h B:=by
 have hx:∀b,H b=eA->b≠x:=λb n z=>by subst z;rw[n] at m;exact m
 have C:∀b,H b=eA->b≠e:=λb n z=>by
  subst z;rcases F with r | r
  ·exact hx b n r
  ·rw[n] at r;cases r
 have hm:∀b u,H b=aA u->¬lP (aA u)->b≠x:=λb u q nm z=>by subst z;rw[q] at m;exact nm m
 refine⟨λb u q n _ _=>k b u (C b n) q,λb u q n _ _=>⟨u.slots,k b u (C b n) q⟩,λb u q n _=>by rw[pB (hx b n)];exact n,λb u q _=>?_,
  λb xs q=>by rw[pB (hm b _ q λz=>z)];exact q,λb u xs q=>by rw[pB (hm b _ q λz=>z)];exact q,λb I q=>⟨#[],by rw[pB (hm b _ q λz=>z),q];simp⟩⟩
 by_cases j:b=e
 ·subst j;exact y
 ·exact⟨u,k b u j q⟩
end
noncomputable def oU(h:nB)(H:Hp):List jA:=(qC h.objs.size).filter λa=>(H a).isSome
def MJ(h:nB)(H:Hp):nB:=RO h (oU h H)
def Tt(h:nB)(H:Hp):(MJ h H).objs.size=h.objs.size:=PySem.W.hideAll_size _ _
def Rt(e:h.get? b=aA o)(n:H b=eA):(MJ h H).get? b=aA o :=
 X2 _ e λa=>by(have q:(H b).isSome=bA:=(pR.mp a).2;rw[n] at q;simp at q)
def b_(e:(MJ h H).get? b=aA o):h.get? b=aA o/\H b=eA:=by
 have a:h.get? b=aA o:=PU (oU h H) e;refine⟨a, ?_⟩
 cases q:H b with
 |none=>rfl
 |some x =>
  have c:b∈oU h H:=pR.mpr ⟨vR.mpr (OB a),by simp[q]⟩;have z:(MJ h H).get? b=eA:=AO (oU h H) c;rw[z] at e;cases e
noncomputable def Ik(g h:nB)(L:jA):List (jA×qB):=(qC h.objs.size).filterMap λa=>if a=L\/(g.get? a).isSome=bA then eA else(h.get? a).map λo=>(a,o)
def aAl(g h:nB)(L d:jA):List (jA×qB):=(Ik g h L).filter λp=>decide (p.1≠d)
structure Mod(K:kA)(mg:fA->Option gA)(base:nB):Prop where
 kin:K.In base
 glob:base.Ns eB mg
 blt:∃mb,base.Ns builtinsNs mb/\∀x:fA,x≠"__name__"->mb x=nJ x
 nolimit:base.NoLimit
structure Cx where
 prog:GC
 w:PB
 K:kA
 mg:fA->Option gA
 base:nB
 A:AD
 N:List fA
 s₀:zA
 H₀:Hp
 env:Env
 outer:List Env
 stack:List Env
 ex:List jA
 fn:fA->Bool
 calm:Bool
 pn:List (jA×qB)
 xe:gA->zA->Prop
def yD(l:List Env):List jA:=l.filterMap (·.frame)
abbrev Cx.fs(X:Cx):List jA:=yD X.outer
def nP(a:kF)(x:fA):Prop:=a.names.lookup x=aA .local\/a.names.lookup x=aA .cell\/a.names.lookup x=aA .free
def Loc(a:kF)(x:fA):Prop:=a.names.lookup x=aA .local\/a.names.lookup x=aA .cell
def aA7(env:Env)(h:nB)(m:fA->Option gA)(x:fA)(u:gA):Prop :=
 (env.kindOf x=aA .local/\m x=aA u)\/((env.kindOf x=aA .cell\/env.kindOf x=aA .free)/\∃c,env.cells.lookup x=aA c/\h.IsCell c (aA u))
structure Cx.Ok(X:Cx):Prop where
 mod:Mod X.K X.mg X.base
 kind:X.env.scope.kind=.function
 glob:X.env.globals=eB
 blt:X.env.builtins=builtinsNs
 above:X.s₀.heap.objs.size<=X.env.locals
 inj:∀x y c,X.env.cells.lookup x=aA c->X.env.cells.lookup y=aA c->x=y
 has:∀x,(X.env.kindOf x=aA .cell\/X.env.kindOf x=aA .free)->∃c,X.env.cells.lookup x=aA c
 QK:∀x c,X.fn x=bA->X.env.cells.lookup x=aA c->X.s₀.heap.objs.size<=c
 hd:X.calm=bA->X.A.handled=eA
 frames:X.A.frames=aA X.stack
 LM:X.stack=X.outer\/(X.stack=X.env::X.outer/\X.env.frame=aA X.env.locals)
 OP:∀b∈X.ex,b≠X.env.locals/\∀x c,X.env.cells.lookup x=aA c->c≠b
 bs:∀b o,X.base.get? b=aA o->X.s₀.heap.get? b=aA o/\X.H₀ b=eA
 TH:X.base.objs.size<=X.s₀.heap.objs.size
 gL:∀b o,X.base.get? b=aA o->b ∉ X.ex
 eM:∀b∈X.ex,b ∉ X.fs
 yF:X.s₀.heap.FunFrames X.base X.outer
 NI:∀b∈X.fs,X.H₀ b=eA
structure iA(X:Cx)(cA:List (jA×qB))(Y:List (Option V))(H:Hp)(s:zA):Prop where
 ok:X.Ok
 os:s.os=X.s₀.os
 bare:sJ s.gens
 base:Un X.fs X.ex X.H₀ H X.s₀.heap s.heap
 loc:∃m,s.heap.Ns X.env.locals m/\∀(i:Nat) (x:fA) (v:V),X.N[i]?=aA x->Y[i]?=aA (aA v)->nP X.env.scope x->∃u,aAe v u/\aA7 X.env s.heap m x u
 cell:∀x c,X.env.cells.lookup x=aA c->∃v,s.heap.IsCell c v
 free:H X.env.locals=eA
 xF:∀x c,X.env.cells.lookup x=aA c->H c=eA
 pin:∀p∈X.pn++cA,s.heap.get? p.1=aA p.2/\H p.1=eA/\p.1≠X.env.locals/\p.1 ∉ X.fs/\∀v,p.2.data≠.cell v
 SA:dD X.prog X.w H s.heap
 len:Y.length=X.N.length
section
variable{X:Cx}
def Cx.Ok.Rz(ok:X.Ok)(e:X.base.get? b=aA o):b ∉ X.fs:=λj=>by
 have:=(ok.yF.mem j).1
 rw[e] at this;cases this
theorem iA.bs(I:iA X cA Y H s):∀b o,X.base.get? b=aA o->s.heap.get? b=aA o/\H b=eA:=λb o e =>
 ⟨I.base.keep b o (I.ok.bs b o e).1 (I.ok.bs b o e).2 (I.ok.Rz e) (I.ok.gL b o e),I.base.free b o (I.ok.bs b o e).1 (I.ok.bs b o e).2 (I.ok.gL b o e)⟩
def iA.bk(I:iA X cA Y H s):∀b o,X.base.get? b=aA o->s.heap.get? b=aA o:=λb o e=>(I.bs b o e).1
theorem iA.mod(I:iA X cA Y H s):Mod X.K X.mg X.base:=I.ok.mod
def iA.fD(I:iA X cA Y H s):X.K.In s.heap:=I.ok.mod.kin.keeps I.bk
theorem iA.lt(I:iA X cA Y H s):X.env.locals<s.heap.objs.size:=let ⟨_,j,_⟩:=I.loc;j.lt
def iA.sz(I:iA X cA Y H s):X.s₀.heap.objs.size<=s.heap.objs.size:=TB I.ok.above (eE I.lt)
def iA.Tz(I:iA X cA Y H s)(h:s.heap.objs.size<=a):a ∉ X.fs:=λj=>by
 obtain⟨_,o,ho,_⟩:=I.ok.yF.mem j;exact absurd (MC (OB ho) (TB I.sz h)) (GL _)
def iA.CJ(I:iA X cA Y H s):∀x c,X.env.cells.lookup x=aA c->c≠X.env.locals:=λx c e z=>by
 obtain⟨v,o,ho,hd⟩:=I.cell x c e;obtain⟨m,⟨y,B,C,j,r,_⟩,_⟩:=I.loc;rw[z,j] at ho;cases ho;rw[r] at hd;cases hd
theorem iA.yF(I:iA X cA Y H s):s.heap.FunFrames X.base X.outer:=by
 have all:∀(l:List Env),(∀b∈yD l,b∈X.fs)->X.s₀.heap.FunFrames X.base l->s.heap.FunFrames X.base l:=by
  intro l
  induction l with
  |nil=>intro _ _;trivial
  |cons env r B =>
   intro y hl;obtain⟨hk,⟨L,o,j,C,ho,hd⟩,F⟩:=hl;have m:L∈X.fs:=y L (by unfold yD;rw[Y2,j];exact MG);obtain⟨sl,e⟩:=I.base.slot L o ho (I.ok.NI L m) m λz=>I.ok.eM L z m
   exact⟨hk,⟨L,_,j,C,e,hd⟩,B (λb x=>y b (by unfold yD;rw[Y2,j];exact tD _ x)) F⟩
 exact all X.outer (λ_ x=>x) I.ok.yF
theorem iA.stack(I:iA X cA Y H s):s.heap.FunFrames X.base X.stack:=by
 rcases I.ok.LM with e | ⟨e,j⟩
 ·rw[e];exact I.yF
 ·rw[e];obtain⟨m,r,_⟩:=I.loc;refine .cons (by rw[I.ok.kind];decide) j r ?_ I.yF;exact LU (TB I.ok.TH I.ok.above)
def iA.gU(I:iA X cA Y H s):∀b∈yD X.stack,b∈X.env.locals::X.fs:=λb j=>by
 rcases I.ok.LM with e | ⟨e,m⟩
 ·rw[e] at j;exact tD _ j
 ·rw[e] at j;unfold yD at j;rw[Y2,m] at j;exact j
def iA.L0(I:iA X cA Y H s):∀b∈yD X.stack,H b=eA:=λb j=>by
 rcases WC.mp (I.gU b j) with e | j
 ·rw[e];exact I.free
 ·obtain⟨_,o,ho,_⟩:=I.ok.yF.mem j;exact I.base.free b o ho (I.ok.NI b j) λz=>I.ok.eM b z j
def iA.step{ch:List jA}(I:iA X cA Y H s)
  (j:∀b∈ch,(b∈X.ex\/X.s₀.heap.get? b=eA)/\b≠X.env.locals/\(∀x c,X.env.cells.lookup x=aA c->c≠b)/\∀p∈X.pn++cA,p.1≠b)
  (keep:∀b o,b≠X.env.locals->b ∉ X.fs->b ∉ ch->s.heap.get? b=aA o->H b=eA->J.get? b=aA o)
  (slot:∀b o,b≠X.env.locals->b∈X.fs->b ∉ ch->s.heap.get? b=aA o->H b=eA->∃sl,J.get? b=aA { o with slots:=sl }) (free:∀b o,b ∉ ch->s.heap.get? b=aA o->H b=eA->H' b=eA)
  (there:∀b o,b ∉ ch->s.heap.get? b=aA o->∃M,J.get? b=aA M)
  (cJ:∀b xs,H b=aA (.t xs)->H' b=aA (.t xs)) (VH:∀b o u,H b=aA (.IE o u)->H' b=aA (.IE o u)) (aJ:∀b P,H b=aA (.pL P)->∃more,H' b=aA (.pL (P++more)))
  (ns:∀m,s.heap.Ns X.env.locals m->J.Ns X.env.locals m) (SA:dD X.prog X.w H' J) (Z:sJ g') :
  iA X cA Y H' { s with heap:=J,gens:=g',drawn:=d',toks:=t' }:=by
 have O:∀b o,X.s₀.heap.get? b=aA o->b≠X.env.locals:=λb o e=>XC (MC (OB e) I.ok.above)
 have C:∀b o,X.s₀.heap.get? b=aA o->b ∉ X.ex->b ∉ ch:=λb o e hx F=>by
  rcases(j b F).1 with z | z
  ·exact hx z
  ·rw[z] at e;cases e
 have y:∀x c,X.env.cells.lookup x=aA c->∀v,s.heap.IsCell c v->J.IsCell c v:=λx c e v hz=>by
  obtain⟨o,ho,hd⟩:=hz;have B:c ∉ ch:=λz=>(j c z).2.2.1 x c e rfl
  by_cases R:c∈X.fs
  ·obtain⟨sl,q⟩:=slot c o (I.CJ x c e) R B ho (I.xF x c e);exact⟨_,q,hd⟩
  ·exact⟨o,keep c o (I.CJ x c e) R B ho (I.xF x c e),hd⟩
 refine⟨I.ok,I.os,Z,⟨λb o e n F hx=>?_,λb o e n F hx=>?_,λb o e n hx=>?_,λb o e hx=>?_,λb xs e=>cJ b xs (I.base.cJ b xs e),λb o xs e=>VH b o xs (I.base.VH b o xs e),λb P e=>?_⟩, ?_,λx c e=>?_, ?_,λx c e=>?_,λp hp=>?_,SA,I.len⟩
 ·exact keep b o (O b o e) F (C b o e hx) (I.base.keep b o e n F hx) (I.base.free b o e n hx)
 ·obtain⟨sl,e1⟩:=I.base.slot b o e n F hx;obtain⟨Q,e2⟩:=slot b _ (O b o e) F (C b o e hx) e1 (I.base.free b o e n hx);exact⟨Q,e2⟩
 ·obtain⟨M,e1⟩:=I.base.there b o e hx;exact free b M (C b o e hx) e1 (I.base.free b o e n hx)
 ·obtain⟨M,e1⟩:=I.base.there b o e hx;exact there b M (C b o e hx) e1
 ·obtain⟨m1,e1⟩:=I.base.aJ b P e;obtain⟨m2,e2⟩:=aJ b _ e1;exact⟨m1++m2,by rw[e2,Array.append_assoc]⟩
 ·obtain⟨m,hn,hl⟩:=I.loc;refine⟨m,ns m hn,λi x v e1 e2 e3=>?_⟩;obtain⟨u,r,l⟩:=hl i x v e1 e2 e3;refine⟨u,r, ?_⟩;rcases l with l | ⟨k,c,e,z⟩
  ·exact .inl l
  ·exact .inr ⟨k,c,e,y x c e _ z⟩
 ·obtain⟨v,z⟩:=I.cell x c e;exact⟨v,y x c e v z⟩
 ·obtain⟨m,⟨o,_,_,ho,_⟩,_⟩:=I.loc;exact free _ o (λz=>(j _ z).2.1 rfl) ho I.free
 ·obtain⟨v,o,ho,hd⟩:=I.cell x c e;exact free c o (λz=>(j c z).2.2.1 x c e rfl) ho (I.xF x c e)
 ·obtain⟨e,n,ne,U,d⟩:=I.pin p hp;have B:p.1 ∉ ch:=λz=>(j p.1 z).2.2.2 p hp rfl
  exact⟨keep p.1 p.2 ne U B e n,free p.1 p.2 B e n,ne,U,d⟩
def iA.un{t':Nat}(I:iA X cA Y H s)(u:Un X.fs [] H C s.heap h')(SA:dD X.prog X.w C h'):iA X cA Y C { s with heap:=h',toks:=t' }:=by
 obtain⟨m,⟨o,M,O,ho,r⟩,_⟩:=id I.loc;obtain⟨sl,F⟩:=u.any ho I.free (by simp)
 exact I.step (g':=s.gens) (d':=s.drawn) (ch:=[]) (λ_ z=>nomatch z) (λb o _ x _ e n=>u.keep b o e n x (by simp)) (λb o _ x _ e n=>u.slot b o e n x (by simp)) (λb o _ e n=>u.free b o e n (by simp)) (λb o _ e=>u.there b o e (by simp)) u.cJ u.VH u.aJ (λP hm=>by
  obtain⟨Q,y,B,j,J⟩:=hm;rw[ho] at j;cases j
  exact⟨_,y,B,F,J⟩) SA I.bare
def iA.call(I:iA X cA Y H s)(u:Un (yD X.stack) ch H M s.heap h')(SA:dD X.prog X.w M h')(O:sJ g')
  (y:∀b∈ch,(b∈X.ex\/X.s₀.heap.get? b=eA)/\b≠X.env.locals/\(∀x c,X.env.cells.lookup x=aA c->c≠b)/\∀p∈X.pn++cA,p.1≠b) :
  iA X cA Y M { s with heap:=h',gens:=g',drawn:=d',toks:=t' }:=by
 obtain⟨m,⟨o,R,U,ho,r⟩,_⟩:=id I.loc;obtain⟨sl,C⟩:=u.any ho I.free λz=>(y _ z).2.1 rfl
 exact I.step y (λb o C P j e n=>u.keep b o e n (λz=>(WC.mp (I.gU b z)).elim C P) j) (λb o _ _ j e n=>u.any e n j) (λb o j e n=>u.free b o e n j) (λb o j e=>u.there b o e j) u.cJ u.VH u.aJ (λZ hm=>by
  obtain⟨o',F,J,B,Q⟩:=hm;rw[ho] at B;cases B
  exact⟨_,F,J,C,Q⟩) SA O
def iA.turned{it:jA}(I:iA X cA Y H s)(k:∀b o,b≠it->s.heap.get? b=aA o->C.get? b=aA o)(F:H it=eA)(B:it≠X.env.locals)
  (h1:it∈X.ex\/X.s₀.heap.get? it=eA) (h2:∀x c,X.env.cells.lookup x=aA c->c≠it) (h3:∀p∈X.pn++cA,p.1≠it):iA X cA Y H { s with heap:=C,toks:=t' }:=by
 have y:∀b u,H b=aA u->b≠it:=λb u e z=>by rw[z,F] at e;cases e
 refine I.step (g':=s.gens) (d':=s.drawn) (ch:=[it]) (λb J=>?_) (λb o _ _ j e _=>k b o (λz=>j (by simp[z])) e) (λb o _ _ j e _=>⟨o.slots,k b o (λz=>j (by simp[z])) e⟩) (λ_ _ _ _ n=>n)
  (λb o j e=>⟨o,k b o (λz=>j (by simp[z])) e⟩) (λ_ _ e=>e) (λ_ _ _ e=>e) (λb P e=>⟨#[],by rw[e];simp⟩) (λm hm=>?_) (λb u e=>?_) I.bare
 ·have e:b=it:=by simpa using J
  subst e;exact⟨h1,B,h2,h3⟩
 ·obtain⟨o,M,O,ho,r⟩:=hm;exact⟨o,M,O,k _ o (sD B) ho,r⟩
 ·refine(I.SA b u e).iF (λc v j q=>k c v ?_ q) (λ_ q=>q) λ_ _ q=>q
  rcases j with z | z
  ·rw[z];exact y b u e
  ·exact y c _ z
def iA.tok(I:iA X cA Y H s)(t:Nat):iA X cA Y H { s with toks:=t }:=I.un (h':=s.heap) (t':=t) Un.refl I.SA
theorem iA.kept(I:iA X cA Y H s)(k:∀b u,s.heap.get? b=aA u->j.get? b=aA u):iA X cA Y H { s with heap:=j,toks:=t' }:=I.un (Un.kept k) (I.SA.kept k)
theorem iA.laid(I:iA X cA Y H s)(k:∀b u,s.heap.get? b=aA u->h'.get? b=aA u)(hp:s.heap.objs.size<=a)(new:lD X.prog X.w (EA H a o) h' a o) :
  iA X cA Y (EA H a o) { s with heap:=h',toks:=t' }:=I.un (Un.laid k hp (I.SA.fresh hp)) (I.SA.laid k hp new)
theorem iA.write(I:iA X cA Y H s)(r:lP (H x))(y:e=x\/H e=aA (.own x))(k:∀b u,b≠e->s.heap.get? b=aA u->m.get? b=aA u)(j:∃u,m.get? e=aA u)
  (new:lD X.prog X.w (EA H x o) m x o):iA X cA Y (EA H x o) { s with heap:=m,toks:=t' }:=I.un (Un.write r y k j) (I.SA.write r y k j new)
def iA.Mb(I:iA X cA Y H s)(h:∀p∈j,s.heap.get? p.1=aA p.2/\H p.1=eA/\p.1≠X.env.locals/\p.1 ∉ X.fs/\∀v,p.2.data≠.cell v):iA X j Y H s :=
 ⟨I.ok,I.os,I.bare,I.base,I.loc,I.cell,I.free,I.xF,λp hp=>(SD.mp hp).elim (λz=>I.pin p (VE _ z)) (h p),I.SA,I.len⟩
def qZ{N:List fA}(c:N.Nodup){i j:Nat}(a:N[i]?=aA x)(b:N[j]?=aA x):i=j:=by
 obtain⟨d,e1⟩:=BD.mp a;obtain⟨e,e2⟩:=BD.mp b;exact(List.getElem_inj c).mp (e1.trans e2.symm)
def Ed(I:iA X cA Y H s)(hN:X.N.Nodup)(O:X.N[i]?=aA x)(t:Loc X.env.scope x)(r:aAe v u)
  (h:∀s',iA X cA (Y.set i (aA v)) H s'->(∃a,jH a s.heap s'.heap/\(a=X.env.locals\/X.env.cells.lookup x=aA a))->Q () s') (hf:X.fn x=bA\/X.env.scope.names.lookup x=aA .local:=by first | exact .inl rfl | exact .inr rfl | assumption):tA M A (storeName X.env x u) Q E s:=by
 obtain⟨m,hn,hl⟩:=id I.loc;have P:(X.env.scope.kind==.class||(X.env.scope.kind==.module&&X.env.locals != X.env.globals))=dA:=by rw[I.ok.kind];rfl
 have R:i<Y.length:=by rw[I.len];exact(BD.mp O).1
 have CJ:=I.CJ
 have g:∀{a:jA} {K:nB},(∃o,s.heap.get? a=aA o/\H a=eA)->jH a s.heap K->dD X.prog X.w H K:=λ{a K} ha f b ob e=>by
  obtain⟨_,_,B⟩:=ha;refine(I.SA b ob e).iF (λc w' l q=>(f.2 c ?_).trans q) (λ_ q=>q) λ_ _ q=>q
  rintro rfl
  rcases l with rfl | l
  ·rw[B] at e;cases e
  ·rw[B] at l;cases l
 rcases t with hk | hk
 ·refine wpAny_storeName_local hk hn (λK Wt f=>?_) P;obtain⟨oL,_,_,W7,_⟩:=id hn;refine h _ ⟨I.ok,I.os,I.bare,⟨λb o e n C t=>?_,λb o e n C t=>?_,I.base.free,λb o e t=>?_,I.base.cJ,I.base.VH,I.base.aJ⟩,⟨_,Wt,λj y v' e1 e2 e3=>?_⟩,λy c e=>?_,I.free,I.xF,λp hp=>?_,g ⟨oL,W7,I.free⟩ f,by simpa using I.len⟩ ⟨_,f,.inl rfl⟩
  ·exact(f.2 b (XC (MC (OB e) I.ok.above))).trans (I.base.keep b o e n C t)
  ·obtain⟨sl,e1⟩:=I.base.slot b o e n C t;exact⟨sl,(f.2 b (XC (MC (OB e) I.ok.above))).trans e1⟩
  ·obtain⟨o',e1⟩:=I.base.there b o e t;exact⟨o',(f.2 b (XC (MC (OB e) I.ok.above))).trans e1⟩
  ·by_cases F:j=i
   ·subst F;rw[O] at e1;cases e1;rw[sI R] at e2;cases e2;exact⟨u,r,.inl ⟨hk,by simp⟩⟩
   ·rw[PD (sD F)] at e2;obtain⟨u',r',q⟩:=hl j y v' e1 e2 e3;refine⟨u',r', ?_⟩;rcases q with ⟨k,e⟩ | ⟨k,c,e,z⟩
    ·refine .inl ⟨k, ?_⟩
     have:y≠x:=λe=>F (qZ hN e1 (e ▸ O))
     simp[this,e]
    ·exact .inr ⟨k,c,e,z.sameBut f (CJ y c e)⟩
  ·obtain⟨w',z⟩:=I.cell y c e;exact⟨w',z.sameBut f (CJ y c e)⟩
  ·obtain⟨e,n,ne,nf,d⟩:=I.pin p hp;exact⟨(f.2 p.1 ne).trans e,n,ne,nf,d⟩
 ·have J:X.fn x=bA:=by
   rcases hf with z | z
   ·exact z
   ·rw[z] at hk;cases hk
  obtain⟨c,l⟩:=I.ok.has x (.inl hk);obtain⟨w',z⟩:=I.cell x c l;refine wpAny_storeName_cell I.ok.kind hk l z (λK U f=>?_);obtain⟨oc,Z,bu⟩:=id z;refine h { s with heap:=K } ⟨I.ok,I.os,I.bare,⟨λb o e n C t=>?_,λb o e n C t=>?_,I.base.free,λb o e t=>?_,I.base.cJ,I.base.VH,I.base.aJ⟩,⟨m,hn.sameBut f (sD (CJ x c l)),λj y v' e1 e2 e3=>?_⟩,λy c' e=>?_,I.free,I.xF,λp hp=>?_,g ⟨oc,Z,I.xF x c l⟩ f,by simpa using I.len⟩ ⟨c,f,.inr l⟩
  ·exact(f.2 b (XC (MC (OB e) (I.ok.QK x c J l)))).trans (I.base.keep b o e n C t)
  ·obtain⟨sl,e1⟩:=I.base.slot b o e n C t;exact⟨sl,(f.2 b (XC (MC (OB e) (I.ok.QK x c J l)))).trans e1⟩
  ·obtain⟨o',e1⟩:=I.base.there b o e t;exact⟨o',(f.2 b (XC (MC (OB e) (I.ok.QK x c J l)))).trans e1⟩
  ·by_cases F:j=i
   ·subst F;rw[O] at e1;cases e1;rw[sI R] at e2;cases e2;exact⟨u,r,.inr ⟨.inl hk,c,l,U⟩⟩
   ·rw[PD (sD F)] at e2;obtain⟨u',r',q⟩:=hl j y v' e1 e2 e3;refine⟨u',r', ?_⟩;rcases q with q | ⟨k,c',e,z'⟩
    ·exact .inl q
    ·refine .inr ⟨k,c',e,z'.sameBut f ?_⟩
     rintro rfl
     exact F (qZ hN e1 (I.ok.inj _ _ _ e l ▸ O))
  ·by_cases O7:c'=c
   ·subst O7;exact⟨_,U⟩
   ·obtain⟨w2,z2⟩:=I.cell y c' e;exact⟨w2,z2.sameBut f O7⟩
  ·obtain⟨e,n,ne,nf,d⟩:=I.pin p hp;refine⟨(f.2 p.1 ?_).trans e,n,ne,nf,d⟩;intro q;rw[q,Z] at e;have q':oc=p.2:=kD e;exact d w' (by rw[<- q'];exact bu)
def N0(I:iA X cA Y H s)(b:X.N.Nodup)(c:X.N[i]?=aA x)(d:Loc X.env.scope x)(r:aAe v u)
  (h:∀a,iA X cA (Y.set i (aA v)) H a->Q () a) (e:X.fn x=bA\/X.env.scope.names.lookup x=aA .local:=by first | exact .inl rfl | exact .inr rfl | assumption):tA M A (storeName X.env x u) Q E s :=
 Ed I b c d r (λa f _=>h a f) e
def iA.r6(I:iA X cA Y H s)(ho:s'.os=s.os)(u:Un (yD X.stack) ch H m s.heap s'.heap)(SA:dD X.prog X.w m s'.heap)(r:sJ s'.gens)
  (j:∀b∈ch,(b∈X.ex\/X.s₀.heap.get? b=eA)/\b≠X.env.locals/\(∀x c,X.env.cells.lookup x=aA c->c≠b)/\∀p∈X.pn++cA,p.1≠b):iA X cA Y m s':=by
 obtain⟨B,C,F,J,y⟩:=s';have e:y=s.os:=ho;subst e;exact I.call u SA r j
end
abbrev XK:=gA->Option jA×Bool->Hp->Prop
abbrev St:=List (Option V)
abbrev VK:=V->Hp->Prop
abbrev TE:=St->Hp->VK->Prop
abbrev TT:=St->Hp->(Bool->Hp->Prop)->Prop
abbrev TA:=St->Hp->(List V->Hp->Prop)->Prop
structure Ends where
 nx:St->Hp->Prop
 rt:VK
 bk:St->Hp->Prop:=λ_ _=>False
 ct:St->Hp->Prop:=λ_ _=>False
abbrev TS:=Ends->St->Hp->Prop
def EP(X:Cx)(cA:List (jA×qB))(Y:St)(Q:VK)(u:gA)(b:zA):Prop:=∃v a,iA X cA Y a b/\aAe v u/\Q v a
def TP(X:Cx)(cA:List (jA×qB))(Y:St)(Q:Bool->Hp->Prop)(b:Bool)(c:zA):Prop:=∃a,iA X cA Y a c/\Q b a
def AP(X:Cx)(cA:List (jA×qB))(Y:St)(Q:List V->Hp->Prop)(c:List gA)(d:zA):Prop:=∃a b,iA X cA Y b d/\aAc a c/\Q a b
def SP(X:Cx)(cA:List (jA×qB))(D:Ends)(f:Flow)(c:zA):Prop :=
 match f with
 |.next=>∃b a,iA X cA b a c/\D.nx b a
 |.brk=>∃b a,iA X cA b a c/\D.bk b a
 |.cont=>∃b a,iA X cA b a c/\D.ct b a
 |.ret u=>∃v b a,iA X cA b a c/\aAe v u/\D.rt v a
def PE(X:Cx)(e:wA)(t:TE):Prop :=
 ∀(cA:List (jA×qB)) (s:zA) (Y:St) (H:Hp) (Q:VK),iA X cA Y H s->t Y H Q->tA (model X.prog X.w) X.A (eval e X.env) (EP X cA Y Q) X.xe s
def PT(X:Cx)(e:wA)(t:TT):Prop :=
 ∀(cA:List (jA×qB)) (s:zA) (Y:St) (H:Hp) (Q:Bool->Hp->Prop),iA X cA Y H s->t Y H Q->tA (model X.prog X.w) X.A (isTrue e X.env (eval e X.env)) (TP X cA Y Q) X.xe s
def PW(X:Cx)(e:wA)(t:TT):Prop :=
 ∀(whole:oF gA) (cA:List (jA×qB)) (s:zA) (Y:St) (H:Hp) (Q:Bool->Hp->Prop),iA X cA Y H s->t Y H Q->tA (model X.prog X.w) X.A (isTrue e X.env whole) (TP X cA Y Q) X.xe s
def PW.pt(h:PW X e t):PT X e t:=h _
def PA(X:Cx)(a:List wA)(t:TA):Prop :=
 ∀(pos:xB) (cA:List (jA×qB)) (s:zA) (Y:St) (H:Hp) (Q:List V->Hp->Prop),iA X cA Y H s->t Y H Q->tA (model X.prog X.w) X.A (spliced (mE pos (QB a X.env))) (AP X cA Y Q) X.xe s
def PS(X:Cx)(st:QA)(t:TS):Prop :=
 ∀(cA:List (jA×qB)) (s:zA) (Y:St) (H:Hp) (D:Ends),iA X cA Y H s->t D Y H->tA (model X.prog X.w) X.A (exec st X.env) (SP X cA D) X.xe s
def dC(X:Cx)(st:List QA)(t:TS):Prop :=
 ∀(cA:List (jA×qB)) (s:zA) (Y:St) (H:Hp) (D:Ends),iA X cA Y H s->t D Y H->tA (model X.prog X.w) X.A (execs st X.env) (SP X cA D) X.xe s
def UA(h:tA M A t Q E s)(b:∀a s,Q a s->c a s):tA M A t c E s:=oG h b λ_ _ x=>x
section
variable{X:Cx}
def mL(i:Nat):TE:=λY H Q=>∃v,Y[i]?=aA (aA v)/\Q v H
def tC(v:V):TE:=λ_ H Q=>Q v H
def DZ(f:X.N[i]?=aA x)(g:nP X.env.scope x)(hd:(x==("__debug__":fA))=dA:=by decide)(b:(x==("__classdict__":fA))=dA:=by decide):PE X (.Name x pos) (mL i):=by
 intro cA s Y H Q I h;obtain⟨v,e,h⟩:=h;obtain⟨m,j,k⟩:=I.loc;obtain⟨u,r,l⟩:=k i x v f e g;have fin:EP X cA Y Q u s:=⟨v,H,I,r,h⟩
 rcases l with ⟨hk,n⟩ | ⟨hk,c,d,a⟩
 ·exact S4 (wpAny_loadName_local I.ok.kind hk j n fin) hd
 ·rcases hk with hk | hk
  ·exact S4 (wpAny_loadName_cell I.ok.kind hk d a fin) hd
  ·exact S4 (wpAny_loadName_free I.ok.kind hk d a fin b) hd
def yb{i j pos}:PE X (.Constant (.int i) j pos) (tC (.int i)):=λ_ _ _ H _ I h=>wpAny_Constant_int ⟨.int i,H,I.tok _,⟨_,rfl⟩,h⟩
def eBa{b j pos}:PE X (.Constant (.bool b) j pos) (tC (.bl b)):=λ_ _ _ H _ I h=>Constant_bool ⟨.bl b,H,I,rfl,h⟩
def rBa{j pos}:PE X (.Constant .none j pos) (tC .lA):=λ_ _ _ H _ I h=>Constant_none ⟨.lA,H,I,rfl,h⟩
def vBa{x j pos}:PE X (.Constant (.str x) j pos) (tC (.str x)):=λ_ _ _ H _ I h=>Calls.Constant_str ⟨.str x,H,I.tok _,⟨_,rfl⟩,h⟩
def Gl(X:Cx)(x:fA):Prop:=X.env.kindOf x=aA .globalImplicit
def SN(I:iA X cA Y H s)(a:Gl X x)(b:X.mg x=aA u)(h:Q u s)
  (hd:(x==("__debug__":fA))=dA:=by decide):tA (model X.prog X.w) X.A (eval (.Name x pos) X.env) Q E s :=
 Calls.Name_function_global I.ok.kind a (Calls.loadGlobal_global (by rw[I.ok.glob];exact I.mod.glob.keeps I.bk) b h) hd
def tM(I:iA X cA Y H s)(a:Gl X x)(b:X.mg x=eA)(c:nJ x=aA u)(h:Q u s)
  (d:x≠"__name__":=by decide) (hd:(x==("__debug__":fA))=dA:=by decide):tA (model X.prog X.w) X.A (eval (.Name x pos) X.env) Q E s:=by
 obtain⟨g,e,f⟩:=I.mod.blt;exact Calls.Name_function_global I.ok.kind a (Calls.loadGlobal_builtin (by rw[I.ok.glob];exact I.mod.glob.keeps I.bk) b (by rw[I.ok.blt];exact e.keeps I.bk) ((f x d).trans c) h) hd
def BZ(a:Gl X x)(b:X.mg x=aA u)(r:aAe v u)(hd:(x==("__debug__":fA))=dA:=by decide):PE X (.Name x pos) (tC v) :=
 λ_ _ _ H _ I h=>SN I a b ⟨v,H,I,r,h⟩ hd
def ZN(a:Gl X x)(b:X.mg x=eA)(c:nJ x=aA u)(r:aAe v u)(d:x≠"__name__":=by decide)(hd:(x==("__debug__":fA))=dA:=by decide):PE X (.Name x pos) (tC v) :=
 λ_ _ _ H _ I h=>tM I a b c ⟨v,H,I,r,h⟩ d hd
variable{pos:xB}
variable{aAl:List wA}
def df(t u:TT):TT:=λY H Q=>t Y H λc a=>if c=bA then u Y a Q else Q dA a
def gf(t u:TT):TT:=λY H Q=>t Y H λc a=>if c=bA then Q bA a else u Y a Q
def qJa(t:TT):TT:=λY H Q=>t Y H λc a=>Q (!c) a
def aAX(b:PT X a d):PW X (.BoolOp .And [a] pos) d:=by
 intro f cA s Y H Q I h;refine isTrue_and (UA (b cA s Y H Q I h) λc g e=>?_)
 cases c with
 |true=>exact isTrue_and_nil e
 |false=>exact e
def aAZ(b:PT X a d):PW X (.BoolOp .Or [a] pos) d:=by
 intro f cA s Y H Q I h;refine isTrue_or (UA (b cA s Y H Q I h) λc g e=>?_)
 cases c with
 |false=>exact isTrue_or_nil e
 |true=>exact e
def aA1(i:PT X a j)(k:PW X (.BoolOp .And (b::aAl) pos) d):PW X (.BoolOp .And (a::b::aAl) pos) (df j d):=by
 intro l cA s Y H Q I h;refine isTrue_and (UA (i cA s Y H _ I h) λc m n=>?_);obtain⟨e,f,g⟩:=n
 cases c with
 |true=>exact k l cA m Y e Q f g
 |false=>exact⟨e,f,g⟩
def aA5(i:PT X a j)(k:PW X (.BoolOp .Or (b::aAl) pos) d):PW X (.BoolOp .Or (a::b::aAl) pos) (gf j d):=by
 intro l cA s Y H Q I h;refine isTrue_or (UA (i cA s Y H _ I h) λc m n=>?_);obtain⟨e,f,g⟩:=n
 cases c with
 |true=>exact⟨e,f,g⟩
 |false=>exact k l cA m Y e Q f g
def mEa(b:PT X a d):PT X (.UnaryOp .Not a pos) (qJa d):=by
 intro cA s Y H Q I h;exact isTrue_not (b cA s Y H (λc e=>Q (!c) e) I h)
def ff(b d:TE):TE:=λY H Q=>b Y H λx a=>∃c,x=.bl c/\if c=bA then d Y a Q else Q (.bl dA) a
def jf(b d:TE):TE:=λY H Q=>b Y H λx a=>∃c,x=.bl c/\if c=bA then Q (.bl bA) a else d Y a Q
def Ab{op}(h:PE X a t):PE X (.BoolOp op [a] pos) t:=λcA s Y H Q I b=>BoolOp_one (h cA s Y H Q I b)
def dBa(g:PE X a i)(j:PE X (.BoolOp .And (b::aAl) pos) k):PE X (.BoolOp .And (a::b::aAl) pos) (ff i k):=by
 intro cA s Y H Q I h;refine BoolOp_and (UA (g cA s Y H _ I h) λv l m=>?_);obtain⟨x,e,f,n,d⟩:=m;obtain⟨c,rfl,d⟩:=d;cases n;refine nK ?_
 cases c with
 |true=>exact j cA l Y e Q f d
 |false=>exact⟨.bl dA,e,f,rfl,d⟩
def CZ(g:PE X a i)(j:PE X (.BoolOp .Or (b::aAl) pos) k):PE X (.BoolOp .Or (a::b::aAl) pos) (jf i k):=by
 intro cA s Y H Q I h;refine BoolOp_or (UA (g cA s Y H _ I h) λv l m=>?_);obtain⟨x,e,f,n,d⟩:=m;obtain⟨c,rfl,d⟩:=d;cases n;refine nK ?_
 cases c with
 |false=>exact j cA l Y e Q f d
 |true=>exact⟨.bl bA,e,f,rfl,d⟩
end
def zB(K:kA)(H:Hp)(a:jA)(c:List V):Prop :=
 Rd H a (.l c) \/
  ∃(o:qB) (b:Array gA) (n:Nat),K.lookup a=aA o/\o.cls=.type "list"/\o.dict=eA/\o.data=.seq b n/\b.size<=sizeLine/\aAc c b.toList
def BC(K:kA)(H:Hp)(a:jA)(c:List V):Prop :=
 Rd H a (.t c) \/
  ∃(o:qB) (b:Array gA) (n:Nat),K.lookup a=aA o/\o.cls=.type "tuple"/\o.data=.seq b n/\b.size<=sizeLine/\aAc c b.toList
noncomputable def Ck:gA->Option V
 |.none=>aA .lA
 |.bool b=>aA (.bl b)
 |.int i _=>aA (.int i)
 |.str x _=>aA (.str x)
 |.ref a=>aA (.ref a)
 |.type n=>aA (.ty n)
 |_=>eA
def aAe.abs(r:aAe x u):Ck u=aA x:=by
 cases x with
 |lA=>cases r;rfl
 |bl _=>cases r;rfl
 |int _=>obtain⟨t,rfl⟩:=r;rfl
 |str _=>obtain⟨t,rfl⟩:=r;rfl
 |ref _=>cases r;rfl
 |ty _=>cases r;rfl
theorem aAe.inj(r:aAe x u)(q:aAe y u):x=y:=kD (r.abs.symm.trans q.abs)
theorem aAc.inj{xs j:List V}{m:List gA}(h:aAc xs m)(x:aAc j m):xs=j:=by
 induction h generalizing j with
 |nil=>cases x;rfl
 |cons r t y=>cases x with | cons B C=>rw[r.inj B,y C]
section
variable{xs ys:List V}
def zB.of{K:kA}(h:H a=aA (.l xs)):zB K H a xs:=.inl (.inl h)
def BC.of{K:kA}(h:H a=aA (.t xs)):BC K H a xs:=.inl (.inl h)
def iA.list(I:iA X cA Y H s)(h:zB X.K H a xs):∃j:List gA,aAc xs j/\PlainL s.heap a j.toArray/\xs.length<=sizeLine:=by
 rcases h with h | ⟨o,j,n,hk,m,hd,x,y,r⟩
 ·obtain⟨z,j,n,r,e⟩:=h.ok I.SA;exact⟨j,r,⟨_,n,e,rfl,rfl,rfl⟩,z⟩
 ·refine⟨j.toList,r,⟨o,n,I.fD a o hk,m,hd,by simpa using x⟩, ?_⟩;have e:=r.length;simp only[uD] at e
  lia
def iA.tuple(I:iA X cA Y H s)(h:BC X.K H a xs):∃j:List gA,aAc xs j/\KG s.heap a j.toArray/\xs.length<=sizeLine:=by
 rcases h with h | ⟨o,j,n,hk,m,x,y,r⟩
 ·obtain⟨z,j,r,p⟩:=h.ok I.SA;exact⟨j,r,p,z⟩
 ·refine⟨j.toList,r,⟨o,I.fD a o hk,m,n,by simpa using x⟩, ?_⟩;have e:=r.length;simp only[uD] at e
  lia
def iA.W9(I:iA X cA Y H s)(h:zB X.K H a xs)(B:zB X.K H a ys):xs=ys:=by
 obtain⟨m,r,⟨o,n,e,_,_,d⟩,_⟩:=I.list h;obtain⟨j,C,⟨J,M,x,_,_,y⟩,_⟩:=I.list B;rw[e] at x;cases x;rw[d] at y
 injection y with F _
 have:m=j:=by simpa using congrArg XO F
 subst this;exact r.inj C
def iA.mKa(I:iA X cA Y H s)(h:BC X.K H a xs)(B:BC X.K H a ys):xs=ys:=by
 obtain⟨m,r,⟨o,e,_,n,d⟩,_⟩:=I.tuple h;obtain⟨j,C,⟨J,x,_,M,y⟩,_⟩:=I.tuple B;rw[e] at x;cases x;rw[d] at y
 injection y with F _
 have:m=j:=by simpa using congrArg XO F
 subst this;exact r.inj C
end
abbrev Cx.dJ(X:Cx)(E:gA->zA->Prop):Cx:={ X with xe:=E }
abbrev Cx.XN(X:Cx):Cx:=X.dJ λ_ _=>False
theorem Cx.Ok.dJ{X:Cx}(ok:X.Ok)(E:gA->zA->Prop):(X.dJ E).Ok :=
 ⟨ok.mod,ok.kind,ok.glob,ok.blt,ok.above,ok.inj,ok.has,ok.QK,ok.hd,ok.frames,ok.LM,ok.OP,ok.bs,ok.TH,ok.gL,ok.eM,ok.yF,ok.NI⟩
def Cx.Ok.tL{X:Cx}(ok:(X.dJ E).Ok):X.Ok :=
 ⟨ok.mod,ok.kind,ok.glob,ok.blt,ok.above,ok.inj,ok.has,ok.QK,ok.hd,ok.frames,ok.LM,ok.OP,ok.bs,ok.TH,ok.gL,ok.eM,ok.yF,ok.NI⟩
section
variable{E:gA->zA->Prop}
theorem iA.dJ(I:iA X cA Y H s)(E:gA->zA->Prop):iA (X.dJ E) cA Y H s:=⟨I.ok.dJ E,I.os,I.bare,I.base,I.loc,I.cell,I.free,I.xF,I.pin,I.SA,I.len⟩
theorem iA.tL(I:iA (X.dJ E) cA Y H s):iA X cA Y H s:=⟨I.ok.tL,I.os,I.bare,I.base,I.loc,I.cell,I.free,I.xF,I.pin,I.SA,I.len⟩
theorem SP.tL(h:SP (X.dJ E) cA D f x):SP X cA D f x:=by
 cases f with
 |next=>obtain⟨j,m,I,q⟩:=h;exact⟨j,m,I.tL,q⟩
 |brk=>obtain⟨j,m,I,q⟩:=h;exact⟨j,m,I.tL,q⟩
 |cont=>obtain⟨j,m,I,q⟩:=h;exact⟨j,m,I.tL,q⟩
 |ret u=>obtain⟨v,j,m,I,r,q⟩:=h;exact⟨v,j,m,I.tL,r,q⟩
theorem dC.XN{st:List QA}(h:dC X.XN st t):dC X st t:=λcA s Y H D I j =>
 oG (h cA s Y H D (I.dJ _) j) (λ_ _ q=>q.tL) λ_ _ z=>OF z
end
section
variable{st:QA}{aAl:List QA}
def B1:TS:=λD Y H=>D.nx Y H
def vJa(t u:TS):TS:=λD Y H=>t { D with nx:=u D } Y H
def Vb:dC X [] B1:=λ_ _ Y H _ I h=>ZU ⟨Y,H,I,h⟩
def KZ(a:PS X st t)(b:dC X aAl u):dC X (st::aAl) (vJa t u):=by
 intro cA s Y H D I h;refine wpAny_execs_cons (UA (a cA s Y H { D with nx:=u D } I h) λf c q=>?_)
 cases f with
 |next =>
  obtain⟨d,e,g,q⟩:=q;exact b cA c d e D g q
 |ret v=>exact q
 |brk=>exact q
 |cont=>exact q
def dJa:TS:=λD Y H=>D.bk Y H
def gJa:TS:=λD Y H=>D.ct Y H
def uDa:PS X (.Pass pos) B1:=λ_ _ Y H _ I h=>wpAny_Pass ⟨Y,H,I,h⟩
def kDa:PS X (.Break pos) dJa:=λ_ _ Y H _ I h=>wpAny_Break ⟨Y,H,I,h⟩
def oDa:PS X (.Continue pos) gJa:=λ_ _ Y H _ I h=>wpAny_Continue ⟨Y,H,I,h⟩
def iA.quiet(I:iA X cA Y H s):interactive X.env=dA:=by simp[interactive,I.ok.kind]
def iJa(a:TE):TS:=λD Y H=>a Y H λ_ b=>D.nx Y b
def Qb(a:PE X e b)(c:swapsWith e eA pos.line X.env=pure dA:=by rfl):PS X (.Expr e pos) (iJa b):=by
 intro cA s Y H D I h;exact wpAny_Expr_any (UA (a cA s Y H _ I h) λv j d=>(by obtain⟨x,f,g,k,i⟩:=d;exact⟨Y,f,g,i⟩)) I.quiet c
def tJa(a:TE):TS:=λD Y H=>a Y H D.rt
def JZ(a:PE X e b):PS X (.Return (aA e) pos) (tJa b):=by
 intro cA s Y H D I h;exact wpAny_Return_some (UA (a cA s Y H _ I h) λv j c=>(by obtain⟨x,d,f,g,i⟩:=c;exact⟨x,Y,d,f,g,i⟩))
def uJa:TS:=λD _ H=>D.rt .lA H
def xDa:PS X (.Return eA pos) uJa:=λ_ _ Y H _ I h=>wpAny_Return_none ⟨.lA,Y,H,I,rfl,h⟩
def mJa(c:TT)(t u:TS):TS:=λD Y H=>c Y H λb a=>if b=bA then t D Y a else u D Y a
def Rb(j:PT X c k)(l:dC X a t)(m:dC X b u):PS X (.If c a b pos) (mJa k t u):=by
 intro cA s Y H D I h;refine wpAny_If (UA (j cA s Y H _ I h) λd e n=>?_);obtain⟨f,g,i⟩:=n
 cases d with
 |true=>exact l cA e Y f D g i
 |false=>exact m cA e Y f D g i
end
abbrev TG:=V->St->Hp->(St->Hp->Prop)->Prop
abbrev qN:=List V->St->Hp->(St->Hp->Prop)->Prop
def PG(X:Cx)(target:wA)(t:TG):Prop :=
 ∀(cA:List (jA×qB)) (s:zA) (Y:St) (H:Hp) (v:V) (u:gA) (Q:St->Hp->Prop),iA X cA Y H s->aAe v u->t v Y H Q ->
  tA (model X.prog X.w) X.A (assign target X.env u) (λ_ c=>∃a b,iA X cA a b c/\Q a b) X.xe s
def AJ(X:Cx)(e:List wA)(t:qN):Prop :=
 ∀(cA:List (jA×qB)) (s:zA) (Y:St) (H:Hp) (a:List V) (b:List gA) (Q:St->Hp->Prop),iA X cA Y H s->aAc a b->t a Y H Q ->
  tA (model X.prog X.w) X.A (assignInOrder ((mH e X.env).map (·.2)) b) (λ_ f=>∃c d,iA X cA c d f/\Q c d) X.xe s
abbrev TR:=V->V->V->Hp->(Hp->Prop)->Prop
def bW(X:Cx)(t:TR):Prop :=
 ∀(cA:List (jA×qB)) (s:zA) (Y:St) (H:Hp) (o i v:V) (a b u:gA) (Q:Hp->Prop),iA X cA Y H s->aAe o a->aAe i b->aAe v u->t o i v H Q ->
  tA (model X.prog X.w) X.A (setItem a b u) (λ_ d=>∃c,iA X cA Y c d/\Q c) X.xe s
section
variable{pos:xB}
def kM(i:Nat):TG:=λv Y H Q=>Q (Y.set i (aA v)) H
def Gb(a:X.N.Nodup)(b:X.N[i]?=aA x)(c:Loc X.env.scope x)(d:X.fn x=bA\/X.env.scope.names.lookup x=aA .local:=by first | exact .inl rfl | exact .inr rfl | assumption):PG X (.Name x pos) (kM i):=by
 intro cA s Y H v u Q I r h;exact Mh (N0 I a b c r (λf e=>⟨_,H,e,h⟩) d)
def Fs:qN:=λa Y H Q=>a=[]/\Q Y H
def Es(t:TG)(u:qN):qN:=λa Y H Q=>∃v r,a=v::r/\t v Y H λb c=>u r b c Q
def eCa:AJ X [] Fs:=by
 intro cA s Y H a b Q I r h;obtain⟨e,h⟩:=h;subst e;cases r;exact assignInOrder_nil ⟨Y,H,I,h⟩
def cCa(b:PG X e t)(c:AJ X a u)
  (d:(mH (e::a) X.env).map (·.2)=assign e X.env::(mH a X.env).map (·.2):=by rfl):AJ X (e::a) (Es t u):=by
 intro cA s Y H n o Q I r h;obtain⟨v,p,e1,h⟩:=h;subst e1
 cases r with
 |cons r f =>
  rw[d];refine assignInOrder_cons (UA (b cA s Y H _ _ _ I r h) λ_ g i=>?_);obtain⟨j,k,l,m⟩:=i;exact c cA g j k _ _ Q l f m
def Hs(K:kA)(n:Nat)(t:qN):TG:=λv Y H Q=>∃a b,v=.ref a/\BC K H a b/\b.length=n/\t b Y H Q
def bCa(i:X.calm=bA)(h:AJ X c t)
  (j:(mH c X.env).length=n:=by rfl) (d:(mH c X.env).findIdx? (·.1)=eA:=by rfl):PG X (.Tuple c k pos) (Hs X.K n t):=by
 intro cA s Y H v u Q I r f;obtain⟨a,l,e1,m,p,f⟩:=f;subst e1;cases r;obtain⟨q,g,w,A⟩:=I.tuple m;refine assign_Tuple_tuple (I.ok.hd i) w (by simp[j,<- p,g.length]) d λx y=>?_
 have z:iA X cA Y H { s with heap:=x }:=I.kept (t':=s.toks) λb o e=>y b o (XC (OB e)) e
 exact h cA _ Y H l _ Q z (by simpa using g) f
def Gs(to a:TE)(t:TR):TG:=λv Y H Q=>to Y H λo b=>a Y b λi c=>t o i v c λd=>Q Y d
def aCa(d:PE X o to)(e:PE X i f)(g:bW X t)
  (j:∀v,assign (.Subscript o i pos) X.env v=(do
   let a <- holding [v] (eval o X.env)
   let b <- holding [v,a] (eval i X.env)
   standAt pos
   holding [v,a,b] (setItem a b v)
   release [v,a,b] []):=by intro _;rfl):PG X (.Subscript o i pos) (Gs to f t):=by
 intro cA s Y H v u Q I r h;rw[j];refine pA (DH (UA (d cA s Y H _ I h) λa k c=>?_));obtain⟨x,l,m,n,p⟩:=c;refine pA (DH (UA (e cA k Y l _ m p) λb q c=>?_));obtain⟨y,w,z,A,B⟩:=c;refine pA (lV (pA (DH (UA (g cA q Y w x y v a b u _ z n A r B) λ_ K c=>?_))));obtain⟨C,F,J⟩:=c;exact wpAny_release ⟨Y,C,F,J⟩
def lU(a:TE)(g:TG):TS:=λD Y H=>a Y H λx b=>g x Y b D.nx
def OT(b:PE X e c)(d:PG X a g)(f:swapsWithSole [a] e pos.line X.env=pure dA:=by rfl)(i:swappedStores [a] e X.env=pure eA:=by rfl)
  (j:(mH [a] X.env).map (·.2)=[assign a X.env]:=by rfl):PS X (.Assign [a] e pos) (lU c g):=by
 intro cA s Y H D I h;refine wpAny_Assign_stores (UA (b cA s Y H _ I h) λv k l=>?_) f i;obtain⟨x,m,n,o,p⟩:=l;rw[j];exact UA (d cA k Y m x v _ n o p) λ_ r q=>q
def aEa(b:X.N.Nodup)(c:X.N[i]?=aA x)(d:Loc X.env.scope x)(f:PE X e g)(j:swapsWith e (aA (.Name x a)) pos.line X.env=pure dA:=by rfl)(k:X.fn x=bA\/X.env.scope.names.lookup x=aA .local:=by first | exact .inl rfl | exact .inr rfl | assumption) :
  PS X (.Assign [.Name x a] e pos) (lU g (kM i)):=by
 intro cA s Y H D I h;refine wpAny_Assign_Name (UA (f cA s Y H _ I h) λv r l=>?_) j;obtain⟨y,m,n,o,p⟩:=l;exact N0 n b c d o (λt q=>⟨_,m,q,p⟩) k
end
section
variable{X:Cx}{pos:xB}
def yJa(c:TT)(g:TS):TS:=λD Y H=>∃W:Nat->St->Hp->Prop,(∃m,W m Y H)/\∀m Y H,W m Y H ->
 c Y H λb a=>if b=bA then ∃N:St->Hp->Prop,(∀d e,N d e->∃f,f<m/\W f d e)/\g { D with nx:=N,ct:=N,bk:=D.nx } Y a else D.nx Y a
def Sb(q:FH (model X.prog X.w) X.A X.env X.xe)(B:PT X c C)(F:dC X body J):PS X (.While c body [] pos) (yJa C J):=by
 intro cA s Y H D I h;obtain⟨W,⟨K,M⟩,a⟩:=h;refine wpAny_While (codeAny_whileLoop (λn O=>∃r t,iA X cA r t O/\W n r t) ?_ K ⟨Y,H,I,M⟩)
 rintro n P ⟨g,u,Q,R⟩
 refine UM q (UA (B cA P g u _ Q (a n g u R)) λb U Z=>?_);obtain⟨x,y,i⟩:=Z
 cases b with
 |true =>
  obtain⟨N,z,i⟩:=i;rw[MA rfl];refine UM q (UA (F cA U g x _ y i) λf s3 j=>?_)
  cases f with
  |next =>
   obtain⟨d,e,k,l⟩:=j;obtain⟨m,o,p⟩:=z d e l;exact⟨m,o,d,e,k,p⟩
  |cont =>
   obtain⟨d,e,k,l⟩:=j;obtain⟨m,o,p⟩:=z d e l;exact⟨m,o,d,e,k,p⟩
  |brk=>exact j
  |ret v=>exact j
 |false =>
  rw[JA CD];exact ZU ⟨g,x,y,i⟩
end
structure It where
 go:Nat->Hp->Prop
 yU:Nat->Hp->V->Hp->Prop
 stop:Nat->Hp->Prop
def TC(X:Cx)(cA:List (jA×qB))(H:Hp)(b:jA):Prop :=
 H b=eA/\b≠X.env.locals/\b ∉ X.fs/\(b∈X.ex\/X.s₀.heap.get? b=eA)/\(∀x c,X.env.cells.lookup x=aA c->c≠b)/\∀p∈X.pn++cA,p.1≠b
def iA.jM(I:iA X cA Y H s)(j:s.heap.objs.size<=b)(m:r b=eA):TC X cA r b:=by
 refine⟨m,kH (MC I.lt j),I.Tz j,.inr (LU (TB I.sz j)),λx c e z=>?_,λp hp z=>?_⟩
 ·obtain⟨v,q⟩:=I.cell x c e;exact absurd (MC q.lt (by rw[z];exact j)) (GL _)
 ·exact absurd (MC (OB (I.pin p hp).1) (by rw[z];exact j)) (GL _)
structure Turn(P:GC)(w:PB)(K:kA)(tg:wA)(J:It)(fp:List jA)(it:jA)(tn:Nat->nB->Prop):Prop where
 mem:it∈fp
 obj:∀i h,tn i h->∀b∈fp,∃o,h.get? b=aA o/\∀v,o.data≠.cell v
 keep:∀i h h',tn i h->(∀b∈fp,∀o,h.get? b=aA o->h'.get? b=aA o)->tn i h'
 item:∀(X:Cx),X.prog=P->X.w=w->X.K=K->X.calm=bA->∀(i:Nat) (cA:List (jA×qB)) (s:zA) (Y:St) (H:Hp) (E:gA->zA->Prop),iA X cA Y H s->(∀b∈fp,TC X cA H b)->tn i s.heap->J.go i H ->
  tA (model P w) X.A (pyNext (.ref it)) (λr s1=>∃u,r=aA u /\
   tA (model P w) X.A (letOwnedTupleGo tg (.ref it) u) (λ_ s2=>∃x H',iA X cA Y H' s2/\aAe x u/\J.yU i H x H'/\tn (i+1) s2.heap/\∀b∈fp,H' b=eA) E s1) E s
 done:∀(X:Cx),X.prog=P->X.w=w->X.K=K->X.calm=bA->∀(i:Nat) (cA:List (jA×qB)) (s:zA) (Y:St) (H:Hp) (E:gA->zA->Prop),iA X cA Y H s->(∀b∈fp,TC X cA H b)->tn i s.heap->J.stop i H ->
  tA (model P w) X.A (pyNext (.ref it)) (λr s1=>r=eA/\iA X cA Y H s1) E s
 self:∀(A:AD) (i:Nat) (s:zA) (Q:gA->zA->Prop) (E:gA->zA->Prop),tn i s.heap->Q (.ref it) s->tA (model P w) A (pyIter (.ref it)) Q E s
abbrev TI:=St->Hp->(It->Hp->Prop)->Prop
def x5(X:Cx)(cA:List (jA×qB))(Y:St)(g:wA)(R:It->Hp->Prop)(a:gA)(d:zA):Prop :=
 ∃(it:jA) (e:List jA) (f:Nat->nB->Prop) (J:It) (c:Hp),a=.ref it/\iA X cA Y c d/\Turn X.prog X.w X.K g J e it f/\f 0 d.heap/\(∀b∈e,TC X cA c b)/\R J c
def PI(X:Cx)(a iter:wA)(b:TI):Prop :=
 ∀(cA:List (jA×qB)) (s:zA) (Y:St) (H:Hp) (R:It->Hp->Prop),iA X cA Y H s->b Y H R ->
  tA (model X.prog X.w) X.A (eval iter X.env) (λv c=>tA (model X.prog X.w) X.A (pyIter v) (x5 X cA Y a R) X.xe c) X.xe s
def kY(b:s.heap.get? it=aA o)(c:o.cls=.type n)(hd:o.data=.fields d)
  (e:["enumerate","zip","dict_itemiterator","dict_reverseitemiterator","odict_iterator","itertools.zip_longest","itertools.pairwise"].contains n=dA) (a:Q () s):tA M A (letOwnedTupleGo f (.ref it) u) Q E s:=by
 unfold letOwnedTupleGo
 cases f<;>first
  |exact WA a
  | (cases u<;>first
    |exact WA a
    | (refine pA (wpAny_load b ?_)
       rw[c,hd];show tA M A (if(["enumerate","zip","dict_itemiterator","dict_reverseitemiterator","odict_iterator","itertools.zip_longest","itertools.pairwise"].contains n&&d[0]? == aA (rawInt _))=bA then _ else _) Q E s;rw[JA (by intro h;rw[e,FL] at h;cases h)]
       exact WA a))
noncomputable def NV(K:kA)(a:jA):It :=
 ⟨λi H=>∃b x,zB K H a b/\b[i]?=aA x,λi H x c=>c=H/\∀b,zB K H a b->b[i]?=aA x,λi H=>∃b,zB K H a b/\b.length<=i⟩
noncomputable def OV(K:kA)(a:jA):It :=
 ⟨λi H=>∃b x,BC K H a b/\b[i]?=aA x,λi H x c=>c=H/\∀b,BC K H a b->b[i]?=aA x,λi H=>∃b,BC K H a b/\b.length<=i⟩
noncomputable def jP(lo:Int)(n:Nat):It:=⟨λi _=>i<n,λi H x a=>a=H/\x=.int (lo+i),λi _=>n<=i⟩
def pKa{K:kA}(a it:jA):Turn P w K tg (NV K a) [it] it (λi h=>h.IsListIter it a i) where
 mem:=by simp
 obj:=λi h st b f=>by
  have e:b=it:=by simpa using f
  subst e;obtain⟨o,e,c,d⟩:=st;exact⟨o,e,λv z=>by rw[d] at z;cases z⟩
 keep:=λi h j st k=>st.at λo e=>k it (by simp) o e
 item:=by
  intro X n q r N i cA s Y H E I l st t;subst n q r;obtain⟨O,x,m,y⟩:=t;obtain⟨A,B,p,Q⟩:=I.list m;obtain⟨u,hu,R⟩:=B.get y;obtain⟨C,f1,f2,F,J,M⟩:=l it (by simp);refine wpAny_pyNext_list_item st p.isList (x:=u) (by simpa using hu) λj g U=>?_
  have Z:iA X cA Y H { s with heap:=j }:=I.turned (t':=s.toks) (λb o f e=>(U.2 b f).trans e) C f1 F J M;obtain⟨o,e,c,d⟩:=id g;exact⟨u,rfl,kY (s:={ s with heap:=j }) e c d (by decide) ⟨x,H,Z,R,⟨rfl,λys hy=>by rw[I.W9 hy m];exact y⟩,g,λb f=>(l b f).1⟩⟩
 done:=by(intro X n q r N i cA s Y H E I l st t;subst n q r;obtain⟨O,m,y⟩:=t;obtain⟨A,B,p,Q⟩:=I.list m;obtain⟨C,f1,f2,F,J,M⟩:=l it (by simp);have hl:=B.length;exact wpAny_pyNext_list_end (I.ok.hd N) st p.isList (by simp;lia) λj eb=>⟨rfl,I.turned (t':=s.toks) (λb o f e=>eb b o f e) C f1 F J M⟩)
 self:=λ_ _ _ _ _ st h=>wpAny_pyIter_listiter st h
def rKa{K:kA}(a it:jA):Turn P w K tg (OV K a) [it] it (λi h=>h.IsTupleIter it a i) where
 mem:=by simp
 obj:=λi h st b f=>by
  have e:b=it:=by simpa using f
  subst e;obtain⟨o,e,c,d⟩:=st;exact⟨o,e,λv z=>by rw[d] at z;cases z⟩
 keep:=λi h l st k=>st.at λo e=>k it (by simp) o e
 item:=by
  intro X q r t N i cA s Y H E I m st y;subst q r t;obtain⟨O,x,n,A⟩:=y;obtain⟨g,B,p,Q⟩:=I.tuple n;obtain⟨u,hu,R⟩:=B.get A;obtain⟨C,f1,f2,F,J,M⟩:=m it (by simp);refine wpAny_pyNext_tuple_item st (show s.heap.IsTuple a g.toArray from p) (x:=u) (by simpa using hu) λl j U=>?_
  have Z:iA X cA Y H { s with heap:=l }:=I.turned (t':=s.toks) (λb o f e=>(U.2 b f).trans e) C f1 F J M;obtain⟨o,e,c,d⟩:=id j;exact⟨u,rfl,kY (s:={ s with heap:=l }) e c d (by decide) ⟨x,H,Z,R,⟨rfl,λys hy=>by rw[I.mKa hy n];exact A⟩,j,λb f=>(m b f).1⟩⟩
 done:=by(intro X q r t N i cA s Y H E I m st y;subst q r t;obtain⟨O,n,A⟩:=y;obtain⟨g,B,p,Q⟩:=I.tuple n;obtain⟨C,f1,f2,F,J,M⟩:=m it (by simp);have hl:=B.length;exact wpAny_pyNext_tuple_end (I.ok.hd N) st (show s.heap.IsTuple a g.toArray from p) (by simp;lia) λl eb=>⟨rfl,I.turned (t':=s.toks) (λb o f e=>eb b o f e) C f1 F J M⟩)
 self:=λ_ _ _ _ _ st h=>wpAny_pyIter_tupleiter st h
def qKa{K:kA}(it:jA)(lo:Int)(n:Nat):Turn P w K J (jP lo n) [it] it (λi h=>IsRangeIter h it (lo+(i:Nat)*1) ((n:Int)-(i:Nat)) 1) where
 mem:=by simp
 obj:=λi h st b a=>by
  have e:b=it:=by simpa using a
  subst e
  exact⟨_,st,λv z=>by
   have y:Data.fields _=Data.cell v:=z
   cases y⟩
 keep:=λi h d st k=>k it (by simp) _ st
 item:=by
  intro X g j l m i cA s Y H E I f st p;subst g j l;obtain⟨q,f1,f2,r,u,x⟩:=f it (by simp);have W:=Walks.range (prog:=X.prog) (w:=X.w) (I.ok.hd m) it lo 1 n;refine W.item i s _ _ p st λv d tk A c B=>?_
  obtain⟨t,rfl⟩:=A;have C:iA X cA Y H { s with heap:=d,toks:=tk }:=I.turned (λb o a e=>B b o (by simpa using a) e) q f1 r u x;refine⟨_,rfl,kY (s:={ s with heap:=d,toks:=tk }) (n:="range_iterator") c rfl rfl (by decide) ⟨.int (lo+i),H,C,⟨t, ?_⟩,⟨rfl,rfl⟩,c,λb a=>(f b a).1⟩⟩;rw[Int.mul_one]
 done:=by(intro X g j l m i cA s Y H E I f st p;subst g j l;obtain⟨q,f1,f2,r,u,x⟩:=f it (by simp);exact wpAny_pyNext_range_end (I.ok.hd m) st (by have:n<=i:=p;lia) λd F=>⟨rfl,I.turned (t':=s.toks) (λb o a e=>F b o a e) q f1 r u x⟩)
 self:=λ_ _ _ _ _ st h=>wpAny_pyIter_rangeiter st h
section
variable{tg:wA}
def tY(K:kA)(c:TE):TI:=λY H R=>c Y H λx b=>∃a,x=.ref a/\(∃d,zB K b a d)/\R (NV K a) b
def uY(K:kA)(c:TE):TI:=λY H R=>c Y H λx b=>∃a,x=.ref a/\(∃d,BC K b a d)/\R (OV K a) b
def Ib(g:PE X l i):PI X tg l (tY X.K i):=by
 intro cA s Y H R I h;refine UA (g cA s Y H _ I h) λv c f=>?_
 obtain⟨x,j,d,k,m⟩:=f;obtain⟨a,e,⟨u,n⟩,q⟩:=m;subst e;cases k;obtain⟨r,w,p,f⟩:=d.list n;refine iR p.isList ?_;refine⟨c.heap.objs.size,[c.heap.objs.size],_,_,j,rfl,d.kept (t':=c.toks) λb o e=>jC _ e,pKa a _,⟨_,QD _ rfl,rfl,rfl⟩,λb t=>?_,q⟩;have e:b=c.heap.objs.size:=by simpa using t
 subst e;exact d.jM (kB _) (d.SA.fresh (kB _))
def Lb(i:PE X l j):PI X tg l (uY X.K j):=by
 intro cA s Y H R I h;refine UA (i cA s Y H _ I h) λv c g=>?_
 obtain⟨x,k,d,m,n⟩:=g;obtain⟨a,e,⟨u,r⟩,q⟩:=n;subst e;cases m;obtain⟨f,w,p,g⟩:=d.tuple r;refine wpAny_pyIter_tuple (show c.heap.IsTuple a f.toArray from p) ?_;refine⟨c.heap.objs.size,[c.heap.objs.size],_,_,k,rfl,d.kept (t':=c.toks) λb o e=>jC _ e,rKa a _,⟨_,QD _ rfl,rfl,rfl⟩,λb t=>?_,q⟩;have e:b=c.heap.objs.size:=by simpa using t
 subst e;exact d.jM (kB _) (d.SA.fresh (kB _))
def xc{lo a:Int}(I:iA X cA Y H s)(d:-(2 ^ 62)<=lo)(f:lo<2 ^ 62)(g:-(2 ^ 62)<=a)(h:a<2 ^ 62)
  (q:R (jP lo (a-lo).toNat) H):tA (model X.prog X.w) X.A (pyIter (.ref s.heap.objs.size)) (x5 X cA Y tg R) E { s with heap:=s.heap.push { cls:=.type "range",data:=.fields #[.int lo t,.int a u,.int 1 v] },toks:=tk }:=by
 refine wpAny_pyIter_range (IsRange.new ..) (small_one d f g h) ?_;have c:iA X cA Y H { s with heap:=s.heap.push { cls:=.type "range",data:=.fields #[.int lo t,.int a u,.int 1 v] },toks:=tk }:=I.kept λb o e=>jC _ e
 refine⟨(s.heap.push { cls:=.type "range",data:=.fields #[.int lo t,.int a u,.int 1 v] }).objs.size,[(s.heap.push { cls:=.type "range",data:=.fields #[.int lo t,.int a u,.int 1 v] }).objs.size],_,_,H,rfl,
  c.kept (t':=tk) λb o e=>jC _ e,qKa _ lo (a-lo).toNat, ?_,λb i=>?_,q⟩
 ·have e1:lo+((0:Nat):Int)*1=lo:=by simp
  have e2:(((a-lo).toNat:Nat):Int)-((0:Nat):Int)=Builtin.Range.rangeSize lo a 1:=by rw[rangeSize_one];split<;>lia
  show IsRangeIter _ _ (lo+((0:Nat):Int)*1) ((((a-lo).toNat:Nat):Int)-((0:Nat):Int)) 1;rw[e1,e2];exact QD _ rfl
 ·have e:b=(s.heap.push { cls:=.type "range",data:=.fields #[.int lo t,.int a u,.int 1 v] }).objs.size:=by simpa using i
  subst e;exact c.jM (kB _) (c.SA.fresh (kB _))
def i8(a:TA):TI:=λY H R=>a Y H λb c=>∃j:Int,b=[.int j]/\-(2 ^ 62)<=j/\j<2 ^ 62/\R (jP 0 j.toNat) c
def j8(a:TA):TI:=λY H R=>a Y H λb c=>∃i j:Int,b=[.int i,.int j]/\(-(2 ^ 62)<=i/\i<2 ^ 62/\-(2 ^ 62)<=j/\j<2 ^ 62)/\R (jP i (j-i).toNat) c
def Jb{p pos:xB}(c:Gl X "range")(d:X.mg "range"=eA)(f:PA X [a] g)(i:QB [a] X.env=[(dA,eval a X.env)]:=by rfl):PI X tg (.Call (.Name "range" p) [a] [] pos) (i8 g):=by
 intro cA s Y H R I h;refine Call_ (tM I c d boot_range (zU (UA (f pos cA s Y H _ I h) λu v k=>?_) i rfl));obtain⟨w,x,l,m,b⟩:=k;obtain⟨j,e,b,n,q⟩:=b;subst e
 cases m with
 |cons r o =>
  cases o;obtain⟨t,rfl⟩:=r;exact call_range_1 (xc l (by lia) (by lia) b n (by simpa using q))
def Kb(g:Gl X "range")(k:X.mg "range"=eA)(l:PA X [a,b] m)(n:QB [a,b] X.env=[(dA,eval a X.env),(dA,eval b X.env)]:=by rfl)(c:QB [b] X.env=[(dA,eval b X.env)]:=by rfl) :
  PI X tg (.Call (.Name "range" p) [a,b] [] pos) (j8 m):=by
 intro cA s Y H R I h;refine Call_ (tM I g k boot_range (zU (UA (l pos cA s Y H _ I h) λA B o=>?_) (by rw[n,c]) (by rw[c];rfl)));obtain⟨C,F,u,v,d⟩:=o;obtain⟨i,j,e,⟨d,w,x,y⟩,q⟩:=d;subst e
 cases v with
 |cons r f =>
  cases f with
  |cons z f =>
   cases f;obtain⟨t,rfl⟩:=r;obtain⟨J,rfl⟩:=z;exact call_range_2 (xc u d w x y q)
def kJa(d:TI)(g:TG)(e:TS):TS:=λD Y H=>d Y H λJ f=>∃W:Nat->Nat->St->Hp->Prop,(∃m,W 0 m Y f)/\∀i m Y H,W i m Y H ->
 (J.stop i H/\D.nx Y H)\/(J.go i H/\∃N:St->Hp->Prop,(∀b a,N b a->∃c,c<m/\W (i+1) c b a)/\∀x a,J.yU i H x a->g x Y a λh j=>e { D with nx:=N,ct:=N,bk:=D.nx } h j)
noncomputable def AQ(a:List jA)(h:nB):List (jA×qB):=a.filterMap λb=>(h.get? b).map λo=>(b,o)
def sT(a:b∈c)(e:h.get? b=aA o):(b,o)∈AQ c h:=y3.mpr ⟨b,a,by rw[e];rfl⟩
def c_(a:p∈AQ c h):p.1∈c/\h.get? p.1=aA p.2:=by
 obtain⟨b,d,e⟩:=y3.mp a
 cases q:h.get? b with
 |none=>rw[q] at e;cases e
 |some o =>
  rw[q] at e;have f:(b,o)=p:=kD e;subst f;exact⟨d,q⟩
def iA.pinned(I:iA X cA Y H s)(x:∀b∈j,TC X cA H b)(ho:∀b∈j,∃o,s.heap.get? b=aA o/\∀v,o.data≠.cell v):iA X (cA++AQ j s.heap) Y H s :=
 I.Mb λp hp=>(SD.mp hp).elim (λz=>I.pin p (SF _ z)) λz=>by(obtain⟨m,e⟩:=c_ z;obtain⟨y,f1,f2,_⟩:=x p.1 m;obtain⟨o,r,d⟩:=ho p.1 m;rw[e] at r;cases r;exact⟨e,y,f1,f2,d⟩)
def iA.uU(I:iA X (cA++pl) Y H s):iA X cA Y H s:=I.Mb λp hp=>I.pin p (SF _ (VE _ hp))
def rDa(z:FH (model X.prog X.w) X.A X.env X.xe)(hc:X.calm=bA)(hi:PI X tg iter wi)(hg:PG X tg g)(a:dC X body tb)
  (hs:∀x,fJ iter X.env x=pure x:=by intro _;rfl):PS X (.For tg iter body [] pos) (kJa wi g tb):=by
 intro cA s Y H D I h;refine wpAny_For (UA (hi cA s Y H _ I h) λv s1 h1=>UA h1 λuv s2 h2=>?_) hs;obtain⟨it,B,tn,J,H2,e,I2,T,R,f2,W,⟨m0,w0⟩,C⟩:=h2;subst e
 -- Mf stays bA of lE iNa objects through lE loop
 have c:∀{p:Hp},(∀b∈B,p b=eA)->∀b∈B,TC X cA p b:=λhn b a=>⟨hn b a,(f2 b a).2⟩
 refine codeAny_forLoop_any (λn s'=>∃i F p,iA X cA F p s'/\tn i s'.heap/\(∀b∈B,p b=eA)/\W i n F p) ?_ m0 ⟨0,Y,H2,I2,R,λb a=>(f2 b a).1,w0⟩
 rintro n s3 ⟨i,K,Q,I3,M,O,w3⟩
 rcases C i n K Q w3 with ⟨stop,qn⟩ | ⟨go,N,hN,step⟩
 ·refine UM z (UA (T.done X rfl rfl rfl hc i cA s3 K Q X.xe I3 (c O) M stop) λr s4 t=>?_);obtain⟨U,I4⟩:=t;subst U;exact ZU ⟨K,Q,I4,qn⟩
 ·refine UM z (UA (T.item X rfl rfl rfl hc i cA s3 K Q X.xe I3 (c O) M go) λr s4 t=>?_);obtain⟨u,U,h4⟩:=t;subst U;refine UM z (UA h4 λ_ s5 t=>?_);obtain⟨x,H5,I5,r5,y5,y,Z⟩:=t;have ej:=I5.pinned (c Z) (T.obj _ _ y);refine UM z (UA (hg _ s5 K H5 x u _ ej r5 (step x H5 y5)) λ_ s6 t=>?_);obtain⟨Y6,H6,I6,q6⟩:=t;refine UM z (UA (a _ s6 Y6 H6 _ I6 q6) λf s7 q=>?_)
  have again:∀{j:St} {k:Hp},iA X (cA++AQ B s5.heap) j k s7->N j k->∃m,m<n/\∃i F p,iA X cA F p s7/\tn i s7.heap/\(∀b∈B,p b=eA)/\W i m F p:=λ{j k} l P=>by(obtain⟨m',hm,w7⟩:=hN j k P;refine⟨m',hm,i+1,j,k,l.uU,T.keep _ _ _ y λb a o e=>(l.pin (b,o) (SF _ (SF _ (sT a e)))).1,λb a=>?_,w7⟩;obtain⟨o,e,d⟩:=T.obj _ _ y b a;exact(l.pin (b,o) (SF _ (SF _ (sT a e)))).2.1)
  cases f with
  |next=>obtain⟨j,k,l,P⟩:=q;exact again l P
  |cont=>obtain⟨j,k,l,P⟩:=q;exact again l P
  |brk=>obtain⟨j,k,l,q⟩:=q;exact⟨j,k,l.uU,q⟩
  |ret v=>obtain⟨x7,j,k,l,r7,q⟩:=q;exact⟨x7,j,k,l.uU,r7,q⟩
end
abbrev R2:=V->V->Hp->VK->Prop
def rC(X:Cx)(f:gA->gA->oF gA)(r:R2):Prop :=
 ∀(cA:List (jA×qB)) (s:zA) (Y:St) (H:Hp) (x y:V) (v u:gA) (Q:VK),iA X cA Y H s->aAe x v->aAe y u->r x y H Q ->
  tA (model X.prog X.w) X.A (f v u) (EP X cA Y Q) X.xe s
def dW(X:Cx)(f:gA->oF gA)(r:V->Hp->VK->Prop):Prop :=
 ∀(cA:List (jA×qB)) (s:zA) (Y:St) (H:Hp) (x:V) (v:gA) (Q:VK),iA X cA Y H s->aAe x v->r x H Q ->
  tA (model X.prog X.w) X.A (f v) (EP X cA Y Q) X.xe s
def fE(X:Cx)(f:gA)(r:List V->Hp->VK->Prop):Prop :=
 ∀(cA:List (jA×qB)) (s:zA) (Y:St) (H:Hp) (a:List V) (b:List gA) (Q:VK),iA X cA Y H s->aAc a b->r a H Q ->
  tA (model X.prog X.w) X.A (call f b) (EP X cA Y Q) X.xe s
def xk(X:Cx)(r:V->Hp->(Bool->Hp->Prop)->Prop):Prop :=
 ∀(cA:List (jA×qB)) (s:zA) (Y:St) (H:Hp) (x:V) (v:gA) (Q:Bool->Hp->Prop),iA X cA Y H s->aAe x v->r x H Q ->
  tA (model X.prog X.w) X.A (truthy v) (TP X cA Y Q) X.xe s
def RQ(r:R2)(a b:TE):TE:=λY H Q=>a Y H λx c=>b Y c λy d=>r x y d Q
def tUn(r:V->Hp->VK->Prop)(a:TE):TE:=λY H Q=>a Y H λx b=>r x b Q
def rI(C:Int->Int->Prop)(g:Int->Int->V):R2:=λx y H Q=>∃i j,x=.int i/\y=.int j/\C i j/\Q (g i j) H
def YI(g:Int->Int->V):R2:=λx y H Q=>∃i j,x=.int i/\y=.int j/\Q (g i j) H
def rU(g:Int->V):V->Hp->VK->Prop:=λx H Q=>∃i,x=.int i/\Q (g i) H
section
variable{pos:xB}
def xW(i:PE X a j)(k:PE X b l){R:V->V->Hp->Prop}(I:iA X cA Y H s)
  (h:j Y H λx e=>l Y e λy c=>R x y c) {f:gA->gA->oF gA}
  (m:∀v u d x y c,iA X cA Y c d->aAe x v->aAe y u->R x y c->tA (model X.prog X.w) X.A (f v u) Q X.xe d) :
  tA (model X.prog X.w) X.A (eval a X.env) (λv n=>tA (model X.prog X.w) X.A (eval b X.env) (λu o=>tA (model X.prog X.w) X.A (f v u) Q X.xe o) X.xe n) X.xe s:=by
 refine UA (i cA s Y H _ I h) λv p g=>?_
 obtain⟨x,e,q,r,t⟩:=g;refine UA (k cA p Y e _ q t) λu d g=>?_
 obtain⟨y,c,z,B,C⟩:=g;exact m v u d x y c z r B C
def tBa(c:rC X (yE op) r)(d:PE X a e)(f:PE X b g):PE X (.BinOp a op b pos) (RQ r e g):=by
 intro cA s Y H Q I h;exact wpAny_BinOp (xW d f I h λv u i x y j k l m q=>c cA i Y j x y v u Q k l m q)
def wBa(b:dW X (unaryOp op) r)(c:PE X a d):PE X (.UnaryOp op a pos) (tUn r d):=by
 intro cA s Y H Q I h;exact UnaryOp_ (UA (c cA s Y H _ I h) λv e f=>(by obtain⟨x,g,i,j,k⟩:=f;exact b cA e Y g x v Q i j k))
def yQ{g:Int->Int->Int}
  (rule:∀(i j:Int) (t u:Tok) (s:zA) (Q:gA->zA->Prop) (E:gA->zA->Prop),C i j->Q (.int (g i j) s.toks) { s with toks:=s.toks+1 }->tA (model X.prog X.w) X.A (f (.int i t) (.int j u)) Q E s) :
  rC X f (rI C λi j=>.int (g i j)):=by
 intro cA s Y H x y v u Q I a b h;obtain⟨i,j,rfl,rfl,c,q⟩:=h;obtain⟨t,rfl⟩:=a;obtain⟨d,rfl⟩:=b;exact rule i j t d s _ _ c ⟨.int (g i j),H,I.tok _,⟨_,rfl⟩,q⟩
def xZ{g:Int->Int->Int}
  (rule:∀(i j:Int) (t u:Tok) (s:zA) (Q:gA->zA->Prop) (E:gA->zA->Prop),Q (.int (g i j) s.toks) { s with toks:=s.toks+1 }->tA (model X.prog X.w) X.A (f (.int i t) (.int j u)) Q E s) :
  rC X f (YI λi j=>.int (g i j)):=by
 intro cA s Y H x y v u Q I a b h;obtain⟨i,j,rfl,rfl,q⟩:=h;obtain⟨t,rfl⟩:=a;obtain⟨c,rfl⟩:=b;exact rule i j t c s _ _ ⟨.int (g i j),H,I.tok _,⟨_,rfl⟩,q⟩
def JT{g:Int->Int->Bool}
  (rule:∀(i j:Int) (t u:Tok) (s:zA) (Q:gA->zA->Prop) (E:gA->zA->Prop),Q (.bool (g i j)) s->tA (model X.prog X.w) X.A (f (.int i t) (.int j u)) Q E s) :
  rC X f (YI λi j=>.bl (g i j)):=by
 intro cA s Y H x y v u Q I a b h;obtain⟨i,j,rfl,rfl,q⟩:=h;obtain⟨t,rfl⟩:=a;obtain⟨c,rfl⟩:=b;exact rule i j t c s _ _ ⟨.bl (g i j),H,I,rfl,q⟩
def Y4(i j:Int):Prop:=0<=j/\j<=1000000/\i.natAbs<2 ^ 64
def FV(i j:Int):Prop:=(-(2 ^ 64)<i/\i<2 ^ 64)\/(-(2 ^ 64)<j/\j<2 ^ 64)
def FV.ok(h:FV i j):IntMulOk i j:=by
 rcases h with ⟨h1,h2⟩ | ⟨h1,h2⟩
 ·exact .of_left (intBits_le_64 h1 h2)
 ·exact .of_right (intBits_le_64 h1 h2)
def uKa(k:Nat):(0:Int)<=2 ^ k:=by
 rw[two_pow_cast];exact Int.natCast_nonneg _
def y':rC X (yE .Add) (YI λi j=>.int (i+j)):=xZ λ_ _ _ _ _ _ _ q=>add_int q
def bAa:rC X (yE .Sub) (YI λi j=>.int (i-j)):=xZ λ_ _ _ _ _ _ _ q=>sub_int q
def S':rC X (yE .Mult) (rI FV λi j=>.int (i*j)):=yQ λ_ _ _ _ _ _ _ a q=>mul_int q a.ok
def R':rC X (yE .Mod) (rI (λ_ j=>0<j) λi j=>.int (i % j)):=yQ λi j _ _ _ _ _ a q=>by
 have b:(0:Int)<j:=a;exact mod_int' (by lia) (by rw[Int.fmod_eq_emod_of_nonneg i (by lia)];exact q)
def Z':rC X (yE .LShift) (rI Y4 λi j=>.int (i*2 ^ j.toNat)):=yQ λ_ _ _ _ _ _ _ a q=>lshift_int_small a.1 a.2.1 a.2.2 q
def aAa:rC X (yE .RShift) (rI (λ_ j=>0<=j) λi j=>.int (i / 2 ^ j.toNat)):=yQ λi j _ _ _ _ _ a q =>
 rshift_int a (by rw[Cg i (uKa _)];exact q)
def A':rC X (yE .BitAnd) (YI λi j=>.int (mR i j)):=xZ λ_ _ _ _ _ _ _ q=>and_int q
def unI{g:Int->Int}
  (rule:∀(i:Int) (t:Tok) (s:zA) (Q:gA->zA->Prop) (E:gA->zA->Prop),Q (.int (g i) s.toks) { s with toks:=s.toks+1 }->tA (model X.prog X.w) X.A (f (.int i t)) Q E s) :
  dW X f (rU λi=>.int (g i)):=by
 intro cA s Y H x v Q I a h;obtain⟨i,rfl,q⟩:=h;obtain⟨t,rfl⟩:=a;exact rule i t s _ _ ⟨.int (g i),H,I.tok _,⟨_,rfl⟩,q⟩
def yKa:dW X (unaryOp .USub) (rU λi=>.int (-i)):=unI λ_ _ _ _ _ q=>neg_int q
end
section
variable{pos:xB}
def n7(I:iA X cA Y H s)(q:Q (.bl k) H)(e:k=a):EP X cA Y Q (.bool a) s:=by
 subst e;exact⟨.bl k,H,I,rfl,q⟩
def P':rC X (bE .Lt) (YI λi j=>.bl (decide (i<j))):=JT λ_ _ _ _ _ _ _ q=>Ni q
def O':rC X (bE .LtE) (YI λi j=>.bl (decide (i<=j))):=JT λ_ _ _ _ _ _ _ q=>le_int q
def L':rC X (bE .Gt) (YI λi j=>.bl (decide (j<i))):=JT λ_ _ _ _ _ _ _ q=>gt_int q
def K':rC X (bE .GtE) (YI λi j=>.bl (decide (j<=i))):=JT λ_ _ _ _ _ _ _ q=>ge_int q
def M':rC X (bE .Is) (λx y H Q=>y=.lA/\Q (.bl (decide (x=.lA))) H):=by
 intro cA s Y H x y v u Q I a b h;obtain⟨rfl,q⟩:=h;cases b;refine is_none_gen (n7 I q ?_)
 cases x<;>first
  | (cases a;rfl)
  | (obtain⟨t,rfl⟩:=a;rfl)
def V':rC X (bE .IsNot) (λx y H Q=>y=.lA/\Q (.bl (!decide (x=.lA))) H):=by
 intro cA s Y H x y v u Q I a b h;obtain⟨rfl,q⟩:=h;cases b;refine isnot_none_gen (n7 I q ?_)
 cases x<;>first
  | (cases a;rfl)
  | (obtain⟨t,rfl⟩:=a;rfl)
def hBa(c:rC X (bE op) r)(d:PE X a e)(f:PE X b g)(i:lJ op b=dA):PE X (.Compare a [op] [b] pos) (RQ r e g):=by
 intro cA s Y H Q I h;exact wpAny_Compare1 (xW d f I h λv u j x y k l m n q=>c cA j Y k x y v u Q l m n q) i
def mf(t:TE):TT:=λY H Q=>t Y H λx a=>∃k,x=.bl k/\Q k a
def lEa(d:rC X (bE op) r)(f:PE X a g)(i:PE X b j)(l:lJ op b=dA):PT X (.Compare a [op] [b] pos) (mf (RQ r g j)):=by
 intro cA s Y H Q I h
 refine wpAny_isTrue_Compare1 (UA (f cA s Y H _ I h) λv m ⟨x,n,o,p,q⟩=>UA (i cA m Y n _ o q) λu t ⟨y,w,A,B,C⟩ =>
  UA (d cA t Y w x y v u _ A p B C) λc N ⟨z,F,J,K,k,e,M⟩=>?_) l
 subst e;cases K;exact nK ⟨F,J,M⟩
def W0(r b:R2)(c d e:TE):TE:=λY H Q=>c Y H λx f=>d Y f λy g=>r x y g λz a=>∃k,z=.bl k /\
 (if k=bA then e Y a λh i=>b y h i Q else Q (.bl dA) a)
def gBa(n:rC X (bE op) r)(g:rC X (bE f) o)(p:PE X a q)(t:PE X b w)(A:PE X c B)
  (C:lastMarks [op,f] [b,c]=dA:=by with_unfolding_all rfl):PE X (.Compare a [op,f] [b,c] pos) (W0 r o q w B):=by
 intro cA s Y H Q I h
 refine Compare_chain (UA (p cA s Y H _ I h) λv F ⟨x,J,K,M,N⟩=>chain_link (UA (t cA F Y J _ K N) λu O ⟨y,P,R,i,U⟩ =>
  UA (n cA O Y P x y v u _ R M i U) λd Z ⟨z,j,l,r3,k,e,m⟩=>?_)) C
 subst e;cases r3;refine nK ?_
 cases k with
 |false=>exact ite_ff ⟨.bl dA,j,l,rfl,m⟩
 |true=>exact ite_tt (chain_last (UA (A cA Z Y j _ l m) λw' s4 hz=>(by obtain⟨z',H4,I4,r4,q4⟩:=hz;exact g cA s4 Y H4 y z' u w' Q I4 i r4 q4)))
def kEa(n:rC X (bE op) r)(g:rC X (bE f) o)(p:PE X a q)(t:PE X b w)(A:PE X c B)
  (C:lastMarks [op,f] [b,c]=dA:=by with_unfolding_all rfl):PT X (.Compare a [op,f] [b,c] pos) (mf (W0 r o q w B)):=by
 intro cA s Y H Q I h
 refine isTrue_chain (UA (p cA s Y H _ I h) λv F ⟨x,J,K,M,N⟩=>test_link (UA (t cA F Y J _ K N) λu O ⟨y,P,R,i,U⟩ =>
  UA (n cA O Y P x y v u _ R M i U) λd Z ⟨z,j,l,r3,k,e,m⟩=>?_)) C
 subst e;cases r3;refine nK ?_
 cases k with
 |false =>
  obtain⟨k',e',q'⟩:=m;cases e';exact ite_ff ⟨j,l,q'⟩
 |true =>
  refine ite_tt (test_last (UA (A cA Z Y j _ l m) λw' s4 ⟨z',H4,I4,r4,q4⟩=>UA (g cA s4 Y H4 y z' u w' _ I4 i r4 q4) λd' s5 hz=>?_));obtain⟨z2,H5,I5,r5,k2,e2,q5⟩:=hz;subst e2;cases r5;exact nK ⟨H5,I5,q5⟩
def UR(K:kA)(x:V)(H:Hp)(k:Bool):Prop :=
 match x with
 |.lA=>k=dA
 |.bl b=>k=b
 |.int i=>k=(i != 0)
 |.str y=>y.length<=sizeLine/\k=((y.length:Int) != 0)
 |.ref p=>(∃a,zB K H p a/\k=!a.isEmpty)\/(∃a,BC K H p a/\k=!a.isEmpty)\/∃c,H p=aA (.dK c)/\k=!c.isEmpty
 |_=>False
def Xu(r:KV a b):(!b.isEmpty)=!a.isEmpty:=by
 cases r<;>rfl
def p8(r:aAc b a):(!a.toArray.isEmpty)=!b.isEmpty:=by
 cases r<;>simp
def vM:(sizeLine:Nat)<2 ^ 63:=by rw[KL];decide
def vf:xk X (λx H Q=>∃k,UR X.K x H k/\Q k H):=by
 intro cA s Y H x v Q I g h;obtain⟨k,e,q⟩:=h;have z:=vM;have A:sizeLine=16777216:=KL
 cases x with
 |lA =>
  cases g;have a:k=dA:=e;subst a;exact truthy_none ⟨H,I,q⟩
 |bl b =>
  cases g;have a:k=b:=e;subst a;exact nK ⟨H,I,q⟩
 |int i =>
  obtain⟨t,rfl⟩:=g;have a:k=(i != 0):=e;subst a;exact PySem.P.truthy_int ⟨H,I,q⟩
 |str y =>
  obtain⟨t,rfl⟩:=g;obtain⟨B,a⟩:y.length<=sizeLine/\k=((y.length:Int) != 0):=e;subst a;exact PySem.P.truthy_str (by lia) ⟨H,I.tok _,q⟩
 |ref p =>
  cases g;have a:(∃f,zB X.K H p f/\k=!f.isEmpty)\/(∃f,BC X.K H p f/\k=!f.isEmpty)\/∃c,H p=aA (.dK c)/\k=!c.isEmpty:=e
  rcases a with ⟨f,j,a⟩ | ⟨f,j,a⟩ | ⟨c,j,a⟩
  ·subst a;obtain⟨n,r,o,u⟩:=I.list j;have d:=r.length;exact wpAny_truthy_list o.isList (by simp only[EC];lia) ⟨H,I.tok _,by rw[p8 r];exact q⟩
  ·subst a;obtain⟨n,r,o,u⟩:=I.tuple j;have d:=r.length;exact truthy_tuple o (by simp only[EC];lia) ⟨H,I.tok _,by rw[p8 r];exact q⟩
  ·subst a;obtain⟨u,hS,l,r,m⟩:c.length<=sizeLine/\(p==sysModules)=dA/\∃l,KV c l/\s.heap.DictOf (Aa X.prog X.w) p l:=I.SA p _ j
   have d:c.length=l.length:=Ki r;exact wpAny_truthy_dict hS m (by lia) ⟨H,I.tok _,by rw[Xu r];exact q⟩
 |_=>exact(show False from e).elim
def Yb(c:PE X a d)(e:∀whole,isTrue a X.env whole=(do let v <- whole;standAt a.pos;holding [v] (truthy v))) :
  PT X a (λY H Q=>d Y H λx b=>∃k,UR X.K x b k/\Q k b):=by
 intro cA s Y H Q I h;exact isTrue_plain (UA (c cA s Y H _ I h) λv f g=>(by obtain⟨x,i,j,l,m⟩:=g;exact vf cA f Y i x v Q j l m)) (e _)
def aAw(r:aAc [x] a):∃u,a=[u]/\aAe x u:=by
 cases r with
 |cons b c=>cases c;exact⟨_,rfl,b⟩
def aAG(r:aAc [x,y] b):∃u a,b=[u,a]/\aAe x u/\aAe y a:=by
 cases r with
 |cons c d =>
  cases d with
  |cons e f=>cases f;exact⟨_,_,rfl,c,e⟩
def Cn:fE X (.builtin "abs") (λa H Q=>∃i,a=[.int i]/\Q (.int (if i<0 then -i else i)) H):=by
 intro cA s Y H a b Q I r h;obtain⟨i,rfl,q⟩:=h;obtain⟨u,rfl,t,rfl⟩:=aAw r;exact call_abs_int λu tk=>⟨.int (if i<0 then -i else i),H,I.tok _,⟨_,rfl⟩,q⟩
def Nn(c:X.calm=bA):fE X (.builtin "max") (λb H Q=>∃i j,b=[.int i,.int j]/\Q (.int (if j > i then j else i)) H):=by
 intro cA s Y H b d Q I r h;obtain⟨i,j,rfl,q⟩:=h;obtain⟨u,e,rfl,⟨t,rfl⟩,⟨f,rfl⟩⟩:=aAG r;refine max_two_ints (I.ok.hd c) λg tk k=>⟨_,H,I.kept k, ?_,q⟩
 by_cases a:j > i
 ·rw[MA a,MA a];exact⟨_,rfl⟩
 ·rw[JA a,JA a];exact⟨_,rfl⟩
def Qn(c:X.calm=bA):fE X (.builtin "min") (λb H Q=>∃i j,b=[.int i,.int j]/\Q (.int (if j<i then j else i)) H):=by
 intro cA s Y H b d Q I r h;obtain⟨i,j,rfl,q⟩:=h;obtain⟨u,e,rfl,⟨t,rfl⟩,⟨f,rfl⟩⟩:=aAG r;refine min_two_ints (I.ok.hd c) λg tk k=>⟨_,H,I.kept k, ?_,q⟩
 by_cases a:j<i
 ·rw[MA a,MA a];exact⟨_,rfl⟩
 ·rw[JA a,JA a];exact⟨_,rfl⟩
def t6:fE X (.type "int") (λa H Q=>(∃i,a=[.int i]/\Q (.int i) H)\/∃k,a=[.bl k]/\Q (.int (if k then 1 else 0)) H):=by
 intro cA s Y H a c Q I r h;rcases h with ⟨i,rfl,q⟩ | ⟨k,rfl,q⟩
 ·obtain⟨u,rfl,t,rfl⟩:=aAw r;exact call_int_int ⟨.int i,H,I,⟨_,rfl⟩,q⟩
 ·obtain⟨u,rfl,b⟩:=aAw r;cases b;exact call_int_bool ⟨.int (if k then 1 else 0),H,I.tok _,⟨_,rfl⟩,q⟩
end
structure QL(h:nB)(x dx C:jA)(mA:fA->Option gA):Prop where
 obj:h.get? x=aA (DL C dx)
 ns:h.Ns1 dx mA
 ne:dx≠x
set_option tactic.hygienic true in
def ly{h:nB}(n:h.Ns1 d f):∃od,h.get? d=aA od/\∀name,eV name od=aA (f name):=by
 obtain⟨o,c,l,g,hd,hk,_,i⟩:=n;refine⟨o,g,λname=>?_⟩;have e:=i name;unfold nsFind findBy at e;rw[<- Array.find?_toList] at e;unfold eV;rw[hd];dsimp only;split
 ·rename_i y q;rw[q] at e;exact congrArg aA e
 ·rename_i q;rw[q] at e
  have a:c.toList.any (·.refKey)=dA:=by(rw[List.any_eq_false];intro y j;obtain⟨z,t,b⟩:=hk y (BO.mp j);simp[DictEntry.refKey,b])
  have k:¬c.toList.any (·.refKey)=bA:=by rw[a];exact CD
  rw[JA k];exact congrArg aA e
def QL.look(I:QL h x j C m):∃od,PySem.W.InstAt h x (DL C j) C (aA od)/\∀name,eV name od=aA (m name) :=
 let ⟨od,ho,hl⟩:=ly I.ns
 ⟨od,⟨I.obj,rfl,rfl,ho⟩,hl⟩
section
variable{K:kA}
def aAY(X:K.In s.heap)(I:QL s.heap x g C b)(c:OO K C name=bA)(hh:jR K C=bA)
  (d:XE K (.ref C) name=aA eA) (e:b name=aA v) (a:Xh v=bA) (h:Q v { s with toks:=s.toks+1 }) :
  tA (model prog w) A (getAttr (.ref x) name expr) Q E s:=by
 obtain⟨od,J,f⟩:=I.look;exact PySem.W.get_value X J (Z2 c).1 (PySem.W.findObj_own hh d rfl (by rw[f,e])) a h
def bt(X:K.In s.heap)(I:QL s.heap x i C b)(a:OO K C name=bA)
  (c:XE K (.ref C) name=aA (aA (.ref f))) (d:BR K (.ref f)=bA) (e:b name=eA) (h:Q (.ref f,[.ref x]) s) :
  tA (model prog w) A (getMethod (.ref x) name j) Q E s:=by
 obtain⟨od,J,g⟩:=I.look;exact PySem.W.method_fn X J (Z2 a).1 (Z2 a).2 c (pG.mp d) (by show(eV name od).map (·.isSome)=aA dA;rw[g,e];rfl) h
def lHa(X:K.In s.heap)(I:QL s.heap x e C l)
  (m:XE K (.ref C) "__setattr__"=aA (aA (.builtin "object.__setattr__"))) (n:J3 K C=bA) (o:W3 K C name=aA eA) (hh:jR K C=bA)
  (p:C4 l ns) (q:ns.length<=sizeLine)
  (h:∀f,QL f x e C (λy=>if y=name then aA v else l y)->jH e s.heap f->Q () { s with heap:=f,toks:=s.toks+2 }) :
  tA (model prog w) A (setAttr (.ref x) name v) Q E s:=by
 obtain⟨od,J,F⟩:=I.look;refine PySem.W.set_plain X J m (PySem.W.osa_open (s:={ s with toks:=s.toks+1 }) (r:=eA) X J n o λb=>?_);obtain⟨H,t,g⟩:=PySem.W.any_some hh;have u:s.heap.get? x=aA ⟨.ref C,aA e,.plain,#[]⟩:=I.obj;refine pA (WA (pA (pA (wpAny_loadPart u (pA (PySem.W.Looks.here (s:={ s with toks:=s.toks+1 }) (PySem.W.looks_clsIn X t) ?_))))));rw[g];refine WA (a:=aA e) (pA (WA (pA ?_)));refine wpAny_nsSet1 (s:={ s with toks:=s.toks+1 }) I.ns λf c d=>?_
 obtain⟨M,z,B,i,j,k⟩:=c.count (PySem.Within.cons name v p);refine pA (wpAny_lookBehind i (by rw[j];exact pastItsLine_dict (TB k (by rw[YB];lia))) ?_);exact WA (h _ ⟨(d.2 _ (sD I.ne)).trans I.obj,c,I.ne⟩ d)
def Ay(X:K.In s.heap)(c:aV K C=bA)
  (e:XE K (.ref C) "__init__"=aA (aA (.ref f))) (i:PySem.W.typeIn K (.ref f)=aA (.type "function"))
  (h:oI (model prog w) (A.under (.builtin "type.__call__" ⟨.ref C::a,b⟩)) (.call (.ref f) ⟨.ref (s.heap.objs.size+1)::a,b⟩) (PySem.W.InitBack (s.heap.objs.size+1) R)
   { s with heap:=(s.heap.push oK).push (DL C s.heap.objs.size) }) :
  oI (model prog w) A (.call (.ref C) ⟨a,b⟩) R s:=by
 obtain⟨hh,g,d,t,os⟩:=s;exact PySem.W.make_core (PySem.W.makes_of X c) (fV X e) (λself=>PySem.W.bind_fn X self i) (.inl rfl) h
end
noncomputable def OE(f:fA)(v:V):List (fA×V)->List (fA×V)
 |[]=>[(f,v)]
 | (g,x)::r=>if g=f then(g,v)::r else(g,x)::OE f v r
theorem aa(f g:fA)(v:V):∀fs:List (fA×V),(OE f v fs).lookup g=if g=f then aA v else fs.lookup g
 |[]=>by
  show oJ g [(f,v)]=_;by_cases h:g=f
  ·have a:(g==f)=bA:=pG.mpr h;simp only[oJ,a,MA h]
  ·have a:(g==f)=dA:=PM.mpr h;simp only[oJ,a,JA h]
 | (k,x)::r=>by
  have b:=aa f g v r;rw[show OE f v ((k,x)::r)=(if k=f then(k,v)::r else(k,x)::OE f v r) from rfl];by_cases hk:k=f
  ·rw[MA hk];by_cases h:g=k
   ·have a:(g==k)=bA:=pG.mpr h;simp only[oJ,a,MA (h.trans hk)]
   ·have a:(g==k)=dA:=PM.mpr h;simp only[oJ,a,JA (λe:g=f=>h (e.trans hk.symm))]
  ·rw[JA hk];by_cases h:g=k
   ·have a:(g==k)=bA:=pG.mpr h;simp only[oJ,a,JA (λe:g=f=>hk (h.symm.trans e))]
   ·have a:(g==k)=dA:=PM.mpr h;simp only[oJ,a];exact b
theorem fZ(f:fA)(v:V):∀fs:List (fA×V),f∈(OE f v fs).map (·.1)/\∀g,g∈fs.map (·.1)->g∈(OE f v fs).map (·.1)
 |[]=>⟨by simp[OE],λg h=>by simp at h⟩
 | (k,x)::r=>by
  obtain⟨a,b⟩:=fZ f v r;rw[show OE f v ((k,x)::r)=(if k=f then(k,v)::r else(k,x)::OE f v r) from rfl];by_cases hk:k=f
  ·rw[MA hk];subst hk;exact⟨by simp,λg h=>by simpa using h⟩
  ·rw[JA hk];refine⟨?_,λg h=>?_⟩
   ·rw[MB];exact tD _ a
   ·rw[MB] at h ⊢;rcases WC.mp h with e | e
    ·exact WC.mpr (.inl e)
    ·exact tD _ (b g e)
theorem U9(f:fA)(v:V):∀fs:List (fA×V),(OE f v fs).length<=fs.length+1
 |[]=>by simp[OE]
 | (k,x)::r=>by
  have a:=U9 f v r;rw[show OE f v ((k,x)::r)=(if k=f then(k,v)::r else(k,x)::OE f v r) from rfl];by_cases hk:k=f
  ·rw[MA hk,YB,YB];lia
  ·rw[JA hk,YB,YB];lia
def zI.some_of(r:zI (aA v) o):∃u,o=aA u/\aAe v u:=by
 cases o with
 |none=>exact(show False from r).elim
 |some u=>exact⟨u,rfl,r⟩
def zI.none_of(r:zI eA o):o=eA:=by
 cases o with
 |none=>rfl
 |some u=>exact(show False from r).elim
def zt(r:aAe v u):Xh u=bA:=by
 cases v with
 |lA=>cases (show u=Value.none from r);rfl
 |bl b=>cases (show u=Value.bool b from r);rfl
 |int i=>obtain⟨t,e⟩:=(show ∃t,u=Value.int i t from r);cases e;rfl
 |str x=>obtain⟨t,e⟩:=(show ∃t,u=Value.str x t from r);cases e;rfl
 |ref a=>cases (show u=Value.ref a from r);rfl
 |ty n=>cases (show u=Value.type n from r);rfl
section
variable{fs fs':List (fA×V)}
def wY(c:dD P w H h)(e:H a=aA (.ins C g fs)):∃b,QL h a g C b/\(∀f,zI (fs.lookup f) (b f))/\C4 b (fs.map (·.1))/\fs.length<=1000/\H g=aA (.own a):=by
 obtain⟨d,z,ne,i,b,n,r,q⟩:=(show lD P w H h a (.ins C g fs) from c a _ e)
 exact⟨b,⟨i,n,ne⟩,r,q,z,d⟩
end
structure aF(K:kA)(C:jA):Prop where
 pg:OO K C Str.empty=bA
 hd:jR K C=bA
 po:J3 K C=bA
 sa:XE K (.ref C) "__setattr__"=aA (aA (.builtin "object.__setattr__"))
def aF.get{K:kA}(c:aF K C)(f:fA):OO K C f=bA:=c.pg
def sH(K:kA)(C:jA)(f:fA):Prop:=XE K (.ref C) f=aA eA
def sH.dKa{K:kA}(n:sH K C f):W3 K C f=aA eA:=by
 unfold W3;rw[show XE K (.ref C) f=aA eA from n];rfl
structure Meth(K:kA)(C:jA)(m:fA)(f:jA):Prop where
 at_:XE K (.ref C) m=aA (aA (.ref f))
 fn:BR K (.ref f)=bA
 kp:tG K (.ref f)=bA
section
variable{E:gA->zA->Prop}
def dt(I:iA X cA Y H s)(e:H a=aA (.ins C j fs))(c:aF X.K C)(n:sH X.K C f)(l:fs.lookup f=aA v)
  (h:∀u d,iA X cA Y H d->aAe v u->Q u d):tA (model X.prog X.w) A (getAttr (.ref a) f b) Q E s:=by
 obtain⟨i,O,r,_,_,_⟩:=wY I.SA e;obtain⟨u,hu,g⟩:=zI.some_of (o:=i f) (by rw[<- l];exact r f);exact aAY I.fD O (c.get f) c.hd n hu (zt g) (h u _ (I.tok _) g)
def G7(I:iA X cA Y H s)(e:H a=aA (.ins C f fs))(c:aF X.K C)(k:Meth X.K C m g)(l:fs.lookup m=eA)
  (h:Q (.ref g,[.ref a]) s):tA (model X.prog X.w) A (getMethod (.ref a) m i) Q E s:=by
 obtain⟨b,O,r,_,_,_⟩:=wY I.SA e;have d:b m=eA:=zI.none_of (by rw[<- l];exact r m);exact bt I.fD O (c.get m) k.at_ k.fn d h
def mHa(I:iA X cA Y H s)(e:H a=aA (.ins C d fs))(c:aF X.K C)(n:sH X.K C f)(N:fs.length<1000)(p:aAe y u)
  (h:∀j,iA X cA Y (EA H a (.ins C d (OE f y fs))) j->Q () j):tA (model X.prog X.w) A (setAttr (.ref a) f u) Q E s:=by
 obtain⟨k,O,r,l,_,m⟩:=wY I.SA e;have t:(fs.map (·.1)).length<=sizeLine:=by rw[vA,KL];lia
 refine lHa I.fD O c.sa c.po n.dKa c.hd l t λv i B=>h _ ?_
 have hd:∃o,v.get? d=aA o:=let ⟨o,_,_,F,_⟩:=i.ns;⟨o,F⟩
 refine I.write (x:=a) (e:=d) (by rw[e];exact True.intro) (.inr m) (λb q J z=>(B.2 b J).trans z) hd ?_;refine⟨by rw[pB O.ne];exact m, ?_,O.ne,i.obj,_,i.ns,λg=>?_,λg M=>?_⟩
 ·have:=U9 f y fs;lia
 ·show zI ((OE f y fs).lookup g) (if g=f then aA u else k g);rw[aa];by_cases q:g=f
  ·rw[MA q,MA q];exact p
  ·rw[JA q,JA q];exact r g
 ·by_cases q:g=f
  ·rw[q];exact(fZ f y fs).1
  ·refine(fZ f y fs).2 g (l g λz=>M ?_);show(if g=f then aA u else k g)=eA;rw[JA q];exact z
def iA.made(I:iA X cA Y H s):iA X cA Y (EA (EA H s.heap.objs.size (.own (s.heap.objs.size+1))) (s.heap.objs.size+1) (.ins C s.heap.objs.size []))
  { s with heap:=(s.heap.push oK).push (DL C s.heap.objs.size) }:=by
 have e1:(s.heap.push oK).get? s.heap.objs.size=aA oK:=QD s.heap rfl
 have e2:((s.heap.push oK).push (DL C s.heap.objs.size)).get? (s.heap.objs.size+1)=aA (DL C s.heap.objs.size):=by
  have:=QD (s.heap.push oK) (o:=DL C s.heap.objs.size) rfl
  rwa[hV] at this
 have j:(s.heap.push oK).Ns s.heap.objs.size (λ_=>eA):=⟨oK,#[],_,e1,rfl,(λe m=>absurd m (by simp)),λ_=>rfl⟩
 have r:=I.laid (a:=s.heap.objs.size) (o:=.own (s.heap.objs.size+1)) (h':=s.heap.push oK) (t':=s.toks) (λb u q=>jC _ q) (kB _) ⟨_,e1⟩;refine r.laid (a:=s.heap.objs.size+1) (o:=.ins C s.heap.objs.size []) (t':=s.toks) (λb u q=>jC _ q) (NF (hV _ _)) ?_;have ne:s.heap.objs.size≠s.heap.objs.size+1:=XC (VF _);refine⟨by rw[pB ne,oC],pE _,ne,e2,λ_=>eA,(Heap.Ns1.of_empty j).at λo q=>jC _ q,λ_=>True.intro,λy x=>absurd rfl x⟩
def Zk(a:attributeBase e f env (eval e env)=eval e env)
  (h:tA (model prog w) A (eval e env) (λo b=>tA (model prog w) A (getAttr o f bA) Q E b) E s):tA (model prog w) A (eval (.Attribute e f pos) env) Q E s :=
 Attribute_any_ h (by rw[arm_eval_Attribute,a])
end
def jJa(K:kA)(c:TE)(f:fA):TE:=λY H Q=>c Y H λx b=>∃a C d fs v,x=.ref a/\b a=aA (.ins C d fs)/\aF K C/\sH K C f/\fs.lookup f=aA v/\Q v b
def rGa(K:kA)(d e:TE)(f:fA):TS:=λD Y H=>e Y H λy g=>d Y g λx b=>∃a C c fs,x=.ref a/\b a=aA (.ins C c fs)/\aF K C/\sH K C f/\fs.length<1000 /\
 D.nx Y (EA b a (.ins C c (OE f y fs)))
section
variable{ta tv:TE}
def lBa(b:PE X e ta)(d:attributeBase e f X.env (eval e X.env)=eval e X.env):PE X (.Attribute e f pos) (jJa X.K ta f):=by
 intro cA s Y H Q I h;refine Zk d (UA (b cA s Y H _ I h) λu r g=>?_);obtain⟨x,i,j,k,a,C,t,fs,v,ex,m,c,n,l,q⟩:=g;subst ex;obtain rfl:u=Value.ref a:=k;exact dt j m c n l λw y o p=>⟨v,i,o,p,q⟩
def qDa(d:PE X o ta)(e:PE X value tv)(g:swapsWith value (aA (.Attribute o f b)) pos.line X.env=pure dA):PS X (.Assign [.Attribute o f b] value pos) (rGa X.K ta tv f):=by
 intro cA s Y H D I h;refine plainObj_wpAny_Assign_Attribute (UA (e cA s Y H _ I h) λu i ⟨y,j,k,m,q⟩=>UA (d cA i Y j _ k q) λp B r=>?_) g;obtain⟨x,F,t,v,a,C,J,fs,ex,w,c,n,l,z⟩:=r;subst ex;obtain rfl:p=Value.ref a:=v;exact mHa t w c n l m λM A=>⟨Y,_,A,z⟩
end
structure eC(k:Nat)(A:AD):Prop where
 hd:A.handled=eA
 dp:A.depth+3*k+5<recursionLimit
 un:A.units+16*k+200<cLine
 gs:A.guards=aA []
def eC.mono(r:eC k A)(h:j<=k):eC j A:=⟨r.hd,by have:=r.dp;lia,by have:=r.un;lia,by first | exact r.gs | simpa[Z3,YO,L4,oV,pushGuards,guardIds] using r.gs⟩
theorem eC.deeper(r:eC (k+1) A)(env:Env):eC k (A.deeper env) :=
 ⟨r.hd,by have:=r.dp;show A.depth+1+3*k+5<_;lia,by have:=r.un;show A.units+3+16*k+200<_;lia,by first | exact r.gs | simpa[Z3,YO,L4,oV,pushGuards,guardIds] using r.gs⟩
def zy{A:AD}:(A.under (.builtin "type.__call__" ⟨.ref C::a,b⟩)).depth=A.depth+1:=by
 first | rfl | simp[YO,Code.weight,Code.isCreation,oV,Code.isCaller,Code.frames,D4,guardIds]
def By{A:AD}:(A.under (.builtin "type.__call__" ⟨.ref C::a,b⟩)).units=A.units+1:=by
 first | rfl | simp[YO,Code.cUnits,Code.frames,D4]
def eC.make(r:eC (k+1) A)(C:jA)(j:List gA)(m:List (fA×gA)):eC k (A.under (.builtin "type.__call__" ⟨.ref C::j,m⟩)) :=
 ⟨r.hd,by have:=r.dp;rw[zy];lia,by have:=r.un;rw[By];lia,by first | exact r.gs | simpa[Z3,YO,L4,oV,pushGuards,guardIds] using r.gs⟩
theorem eC.depth(r:eC k A):A.depth<recursionLimit:=by have:=r.dp;lia
theorem eC.units(r:eC k A):A.units+64<cLine:=by have:=r.un;lia
def cK:TA:=λ_ H Q=>Q [] H
def dI(a:TE)(tr:TA):TA:=λY H Q=>a Y H λx b=>tr Y b λc d=>Q (x::c) d
section
variable{pos:xB}
def VI:PA X [] cK:=λ_ _ _ _ H Q I h=>Calls.spliced_nil ⟨[],H,I,.nil,h⟩
def FG(c:PE X e d)(f:PA X a t)(g:QB (e::a) X.env=(dA,eval e X.env)::QB a X.env:=by rfl):PA X (e::a) (dI d t):=by
 intro pos cA s Y H Q I h;rw[g];show tA _ _ (spliced ((dA,eval e X.env)::mE pos (QB a X.env))) _ _ s;refine Calls.spliced_cons (UA (c cA s Y H _ I h) λu i b=>?_);obtain⟨x,j,k,l,m⟩:=b;exact UA (f pos cA i Y j _ k m) λv w b=>(by obtain⟨n,o,p,q,r⟩:=b;exact⟨x::n,o,p,.cons l q,r⟩)
def pf(t:TA):TE:=λY H Q=>t Y H λa b=>a.length<=sizeLine/\∀p,b p=eA->Q (.ref p) (EA b p (.t a))
def nJa(t:TA):TE:=λY H Q=>t Y H λa b=>a.length<=sizeLine/\∀p,b p=eA->Q (.ref p) (EA b p (.l a))
def Bb{f}(h:PA X g t):PE X (.Tuple g f pos) (pf t):=by
 intro cA s Y H Q I i;refine wpAny_Tuple_spliced (UA (h pos cA s Y H _ I i) λj a ⟨k,c,d,r,z,q⟩=>⟨by rw[<- r.length];exact z, ?_⟩);have l:c a.heap.objs.size=eA:=d.SA.fresh (kB _);refine⟨.ref a.heap.objs.size,EA c a.heap.objs.size (.t k),d.laid (t':=a.toks) (λb u e=>jC _ e) (kB _) ?_,rfl,q _ l⟩;exact⟨z,j,r,⟨_,QD _ rfl,rfl,_,rfl⟩⟩
def nBa(h:PA X f t):PE X (.List f pos) (nJa t):=by
 intro cA s Y H Q I g;refine wpAny_List_spliced (UA (h pos cA s Y H _ I g) λi a ⟨j,c,d,r,z,q⟩=>⟨by rw[<- r.length];exact z, ?_⟩);have k:c a.heap.objs.size=eA:=d.SA.fresh (kB _);refine⟨.ref a.heap.objs.size,EA c a.heap.objs.size (.l j),d.laid (t':=a.toks) (λb u e=>jC _ e) (kB _) ?_,rfl,q _ k⟩;exact⟨z,i,0,r,QD _ rfl⟩
end
abbrev Sp:=List V->Hp->VK->XK->Prop
abbrev DK:=List Env->Hp->zA->XK->gA->zA->Prop
structure PL(P:GC)(w:PB)(K:kA)(mg:fA->Option gA)(base:nB)(A:AD)(outer:List Env)(s:zA)(H:Hp):Prop where
 frames:A.frames=aA outer
 mod:Mod K mg base
 bs:∀b o,base.get? b=aA o->s.heap.get? b=aA o/\H b=eA
 TH:base.objs.size<=s.heap.objs.size
 yF:s.heap.FunFrames base outer
 NI:∀b∈yD outer,H b=eA
 SA:dD P w H s.heap
 bare:sJ s.gens
def CE(outer:List Env)(P:GC)(w:PB)(H:Hp)(s:zA)(Q:VK)(u:gA)(a:zA):Prop :=
 ∃v b,a.os=s.os/\sJ a.gens/\Un (yD outer) [] H b s.heap a.heap/\dD P w b a.heap/\aAe v u/\Q v b
def CR(b:DK)(outer:List Env)(P:GC)(w:PB)(H:Hp)(s:zA)(Q:VK)(E:XK)(r:Result)(a:zA):Prop :=
 match r with
 |.ok (.ret u)=>CE outer P w H s Q u a
 |.ok _=>False
 |.error e=>b outer H s E e a
structure VD(P:GC)(w:PB)(K:kA)(mg:fA->Option gA)(base:nB)(CX:DK)(k:Nat)(f:jA)(fd:qG)(ps:List fA)(sp:Sp):Prop where
 len:∀vs H Q E,sp vs H Q E->vs.length=ps.length
 run:∀(A:AD) (outer:List Env) (s:zA) (H:Hp) (args:Args) (us:List gA) (vs:List V) (Q:VK) (E:XK),eC k A->PL P w K mg base A outer s H->BV s fd args (ps.zip us)->aAc vs us->sp vs H Q E ->
  oI (model P w) A (.call (.ref f) args) (CR CX outer P w H s Q E) s
def PL.make{K:kA}(e:PL P w K mg base A outer s H)(C:jA)(j:List gA)(m:List (fA×gA)) :
  PL P w K mg base (A.under (.builtin "type.__call__" ⟨.ref C::j,m⟩)) outer s H:=⟨by first | exact e.frames | (simpa[YO,Code.envs,D4,pushEnvs] using e.frames),e.mod,e.bs,e.TH,e.yF,e.NI,e.SA,e.bare⟩
section
variable{X:Cx}{cA:List (jA×qB)}{Y:St}{H:Hp}{s s':zA}
def iA.wH(I:iA X cA Y H s):PL X.prog X.w X.K X.mg X.base X.A X.stack s H :=
 ⟨I.ok.frames,I.ok.mod,I.bs,TB I.ok.TH I.sz,I.stack,I.L0,I.SA,I.bare⟩
def iA.after(I:iA X cA Y H s)(h:CE X.stack X.prog X.w H s Q u s'):EP X cA Y Q u s':=by
 obtain⟨v,m,os,bare,un,SA,r,q⟩:=h;obtain⟨hh,g,d,t,j⟩:=s';obtain rfl:j=s.os:=os;exact⟨v,m,I.call (h':=hh) (g':=g) (d':=d) (t':=t) (ch:=[]) un SA bare (λb z=>absurd z (by simp)),r,q⟩
end
def eJa(b:Sp)(a:List V)(E:XK)(t:TA):TE:=λY H Q=>t Y H λc d=>b (c++a) d Q E
def A1(C:jA)(m:fA)(d:Sp)(b:List V)(E:XK)(e:TE)(t:TA):TE:=λY H Q=>e Y H λx c=>∃a f fs,x=.ref a/\c a=aA (.ins C f fs)/\fs.lookup m=eA /\
 t Y c λg h=>d (x::(g++b)) h Q E
def oJa(C:jA)(d:Sp)(b:List V)(E:XK)(t:TA):TE:=λY H Q=>t Y H λe c=>∀x a,c x=eA->c a=eA->a≠x ->
 d (.ref x::(e++b)) (EA (EA c a (.own x)) x (.ins C a [])) (λv f=>v=.lA/\Q (.ref x) f) E
def aAu(K:kA)(d:qG)(b:List fA)(c:List gA):Prop :=
 ∀(s:zA) (a:List gA),K.In s.heap->(a++c).length=b.length->BV s d ⟨a,[]⟩ (b.zip (a++c))
def aAu.all{K:kA}(h:∀j:List gA,j.length=m.length->bindArgs r ⟨j,[]⟩=pure (m.zip j)):aAu K r m []:=λs j _ hl=>by
 rw[DD] at hl ⊢;exact .of_eq (h j hl)
def aAC(b:DK)(X:Cx)(E:XK):Prop:=∀(cA:List (jA×qB)) (Y:St) (H:Hp) (s:zA) (e:gA) (a:zA),iA X cA Y H s->b X.stack H s E e a->X.xe e a
section
variable{X:Cx}{CX:DK}{k:Nat}{f C:jA}{fd:qG}{ps:List fA}{sp:Sp}{dG:List V}{ds:List gA}{E:XK}{x m:fA}{p pos hB:xB}{e o:wA}{es:List wA}{ta:TE}{t:TA}
def XZ(F:VD X.prog X.w X.K X.mg X.base CX k f fd ps sp)(c:eC k X.A)(d:aAu X.K fd ps ds)(hd:aAc dG ds)(g:aAC CX X E)
  (I:iA X cA Y H s) (r:aAc vs us) (h:sp (vs++dG) H Q E):tA (model X.prog X.w) X.A (call (.ref f) us) (EP X cA Y Q) X.xe s:=by
 have b:aAc (vs++dG) (us++ds):=r.append hd;have i:(us++ds).length=ps.length:=by rw[<- b.length];exact F.len _ _ _ _ h
 refine wV (bN (F.run X.A X.stack s H ⟨us,[]⟩ (us++ds) (vs++dG) Q E c I.wH (d s us I.fD i) b h) λr j a=>?_)
 cases r with
 |error e=>exact g cA Y H s e j I a
 |ok l =>
  cases l with
  |ret u=>exact I.after a
  |next=>exact OF a
  |brk=>exact OF a
  |cont=>exact OF a
def fBa(F:VD X.prog X.w X.K X.mg X.base CX k f fd ps sp)(d:eC k X.A)(g:Gl X x)(i:X.mg x=aA (.ref f))(hk:tG X.K (.ref f)=bA)(j:aAu X.K fd ps ds)(hd:aAc dG ds)(l:aAC CX X E)
  (n:PA X (e::es) t) (a:(x==("__debug__":fA))=dA:=by decide) (u:QB (e::es) X.env=(dA,eval e X.env)::QB es X.env:=by rfl) (b:(mE pos (QB es X.env)).any (·.1)=dA:=by rfl) :
  PE X (.Call (.Name x p) (e::es) [] pos) (eJa sp dG E t):=by
 intro cA s Y H Q I h;refine DO (SN I g i ?_ a);refine QU (h₀:=X.base) I.ok.mod.kin hk (UA (n pos cA s Y H _ I h) λv y ⟨z,B,c,r,q⟩=>⟨c.fD, ?_⟩) u b;exact XZ F d j hd l c r q
def pBa(v:PE X o ta)(c:aF X.K C)(g:Meth X.K C m f)(F:VD X.prog X.w X.K X.mg X.base CX k f fd ps sp)(y:eC k X.A)(z:aAu X.K fd ps ds)(hd:aAc dG ds)(B:aAC CX X E)(J:PA X (e::es) t)
  (b:QB (e::es) X.env=(dA,eval e X.env)::QB es X.env:=by rfl) (d:(mE pos (QB es X.env)).any (·.1)=dA:=by rfl)
  (M:eval (.Call (.Attribute o m hB) (e::es) [] pos) X.env=(do
   let i <- eval o X.env
   standAt hB.atName
   let (f,first) <- holding [i] (getMethod i m pl)
   callWith pos f first (mE pos (QB (e::es) X.env)) (backToKw pos (keywordEach [] X.env))):=by rfl) :
  PE X (.Call (.Attribute o m hB) (e::es) [] pos) (A1 C m sp dG E ta t):=by
 intro cA s Y H Q I h;refine Wg (UA (v cA s Y H _ I h) λu N O=>?_) M;obtain⟨x,P,j,R,a,dx,fs,ex,U,l,q⟩:=O;subst ex;obtain rfl:u=Value.ref a:=R;refine G7 j U c g l ?_;refine QU (first:=[.ref a]) (h₀:=X.base) I.ok.mod.kin g.kp (UA (J pos cA N Y P _ j q) λus s2 ⟨vs,H2,n,r,Z⟩=>⟨n.fD, ?_⟩) b d;exact XZ (us:=.ref a::us) (vs:=.ref a::vs) F y z hd B n (.cons rfl r) Z
def qBa(i:PE X o ta)(c:aF X.K C)(d:Meth X.K C m f)(F:VD X.prog X.w X.K X.mg X.base CX k f fd ps sp)(j:eC k X.A)(n:aAu X.K fd ps ds)(hd:aAc dG ds)(r:aAC CX X E)
  (v:eval (.Call (.Attribute o m hB) [] [] pos) X.env=(do
   let g <- eval o X.env
   standAt hB.atName
   let (f,first) <- holding [g] (getMethod g m J)
   callWith pos f first (mE pos (QB [] X.env)) (backToKw pos (keywordEach [] X.env))):=by rfl) :
  PE X (.Call (.Attribute o m hB) [] [] pos) (A1 C m sp dG E ta cK):=by
 intro cA s Y H Q I h;refine Wg (UA (i cA s Y H _ I h) λu M y=>?_) v;obtain⟨x,N,b,z,a,O,fs,ex,B,l,q⟩:=y;subst ex;obtain rfl:u=Value.ref a:=z;refine G7 b B c d l ?_;exact PySem.W.callWith_K0 (first:=[.ref a]) b.fD d.kp (XZ (us:=[.ref a]) (vs:=[.ref a]) F j n hd r b (.cons rfl .nil) q)
structure Mk(K:kA)(C f:jA):Prop where
 makes:aV K C=bA
 init:XE K (.ref C) "__init__"=aA (aA (.ref f))
 fn:BR K (.ref f)=bA
 kp:tG K (.ref C)=bA
def mGa(M:Mk X.K C f)(F:VD X.prog X.w X.K X.mg X.base CX k f fd ps sp)(l:eC (k+1) X.A)(n:aAu X.K fd ps ds)(hd:aAc dG ds)
  (q:aAC CX X E) (I:iA X cA Y H s) (r:aAc g b)
  (h:∀x c,H x=eA->H c=eA->c≠x->sp (.ref x::(g++dG)) (EA (EA H c (.own x)) x (.ins C c [])) (λv y=>v=.lA/\Q (.ref x) y) E) :
  tA (model X.prog X.w) X.A (call (.ref C) b) (EP X cA Y Q) X.xe s:=by
 have i:=h (s.heap.objs.size+1) s.heap.objs.size (I.SA.fresh (xK _)) (I.SA.fresh (kB _)) (XC (VF _));have d:=iA.made (C:=C) I;have j:aAc (V.ref (s.heap.objs.size+1)::(g++dG)) (Value.ref (s.heap.objs.size+1)::(b++ds)):=.cons rfl (r.append hd)
 have z:(Value.ref (s.heap.objs.size+1)::b++ds).length=ps.length:=by(have e:=j.length;rw[F.len _ _ _ _ i] at e;exact e.symm)
 refine wV (Ay I.fD M.makes M.init (pG.mp M.fn) (bN (F.run _ X.stack _ _ ⟨Value.ref (s.heap.objs.size+1)::b,[]⟩ (Value.ref (s.heap.objs.size+1)::(b++ds)) _ _ E (l.make C b [])
  (d.wH.make C b []) (n _ (Value.ref (s.heap.objs.size+1)::b) d.fD z) j i) λr B a=>?_))
 cases r with
 |error e=>exact q cA Y _ _ e B d a
 |ok J =>
  cases J with
  |ret u =>
   obtain⟨v,N,O,P,ev,R⟩:=d.after a;subst ev;exact⟨P,⟨V.ref (s.heap.objs.size+1),N,O,rfl,R⟩⟩
  |next=>exact OF a
  |brk=>exact OF a
  |cont=>exact OF a
def oBa(M:Mk X.K C f)(F:VD X.prog X.w X.K X.mg X.base CX k f fd ps sp)(d:eC (k+1) X.A)(g:Gl X x)(i:X.mg x=aA (.ref C))(j:aAu X.K fd ps ds)(hd:aAc dG ds)(l:aAC CX X E)
  (n:PA X (e::es) t) (a:(x==("__debug__":fA))=dA:=by decide) (u:QB (e::es) X.env=(dA,eval e X.env)::QB es X.env:=by rfl) (b:(mE pos (QB es X.env)).any (·.1)=dA:=by rfl) :
  PE X (.Call (.Name x p) (e::es) [] pos) (oJa C sp dG E t):=by
 intro cA s Y H Q I h;refine DO (SN I g i ?_ a);refine QU (h₀:=X.base) I.ok.mod.kin M.kp (UA (n pos cA s Y H _ I h) λv y ⟨z,B,c,r,q⟩=>⟨c.fD, ?_⟩) u b;exact mGa M F d j hd l c r q
end
def PK(X:Cx)(a:List DV)(t:TA):Prop :=
 ∀(pos:xB) (cA:List (jA×qB)) (s:zA) (Y:St) (H:Hp) (Q:List V->Hp->Prop),iA X cA Y H s->t Y H Q->tA (model X.prog X.w) X.A (evalAll ((backToKw pos (keywordEach a X.env)).map (·.2))) (AP X cA Y Q) X.xe s
section
variable{nm:Option fA}
def mCa:PK X [] cK:=λ_ _ _ _ H Q I h=>wpAny_evalAll_nil ⟨[],H,I,.nil,h⟩
def lCa(b:PE X e c)(d:PK X a t):PK X (⟨nm,e,kpos⟩::a) (dI c t):=by
 intro pos cA s Y H Q I h;show tA _ _ (evalAll ((do let v <- eval e X.env;standAt pos;pure v)::(backToKw pos (keywordEach a X.env)).map (·.2))) _ _ s;refine wpAny_evalAll_cons (pA (UA (b cA s Y H _ I h) λu f ⟨x,g,i,j,k⟩=>pA (lV (WA ?_))));exact UA (d pos cA f Y g _ i k) λr w l=>(by obtain⟨m,n,o,p,q⟩:=l;exact⟨x::m,n,o,.cons j p,q⟩)
variable{g:List gA->List gA->List gA}{gV:List V->List V->List V}
end
structure GK(N P:List fA)(sc:kF):Prop where
 kind:sc.kind=.function
 co:sc.isCoroutine=dA
 gen:sc.isGenerator=dA
 nd:N.Nodup
 pre:N.take P.length=P
 par:∀x∈P,sc.names.lookup x=aA .local\/sc.names.lookup x=aA .cell
 Sz:∀y∈sc.names,y.2≠.free
theorem W5{kindOf:fA->Option nI}:∀{binds:List (fA×gA)} {m:fA->Option gA},(∀v,(x,v) ∉ binds)->bindL kindOf binds m x=m x
 |[],_,_=>rfl
 | (n,v)::r,m,h=>by
  unfold bindL;rw[W5 λw a=>h w (tD _ a)];split
  ·have:x≠n:=by rintro rfl;exact h v MG
   simp[this]
  ·rfl
theorem U5{kindOf:fA->Option nI}:∀{binds:List (fA×gA)} {m:fA->Option gA},(∀v,(x,v) ∉ binds)->bindC kindOf binds m x=m x
 |[],_,_=>rfl
 | (n,v)::r,m,h=>by
  unfold bindC;rw[U5 λw a=>h w (tD _ a)];split
  ·rfl
  ·have:x≠n:=by rintro rfl;exact h v MG
   simp[this]
theorem V5{kindOf:fA->Option nI}:∀{P:List fA} {a:List gA} {i:Nat} {m:fA->Option gA},P.Nodup->P[i]?=aA x->a[i]?=aA v->kindOf x=aA .local ->
  bindL kindOf (P.zip a) m x=aA v
 |[],_,_,_,_,h,_,_=>by simp at h
 |_::_,[],_,_,_,_,h,_=>by simp at h
 |p::P,w::a,0,m,d,b,c,hk=>by
  simp at b c;subst b;subst c;show bindL kindOf ((p,w)::P.zip a) m p=_;unfold bindL;rw[W5 λv e=>(SO.mp d).1 (X3 e).1,MA hk];simp
 |p::P,w::a,i+1,m,d,b,c,hk=>by(show bindL kindOf ((p,w)::P.zip a) m x=_;unfold bindL;exact V5 (SO.mp d).2 (by simpa using b) (by simpa using c) hk)
theorem T5{kindOf:fA->Option nI}:∀{P:List fA} {a:List gA} {i:Nat} {m:fA->Option gA},P.Nodup->P[i]?=aA x->a[i]?=aA v->kindOf x≠aA .local ->
  bindC kindOf (P.zip a) m x=aA v
 |[],_,_,_,_,h,_,_=>by simp at h
 |_::_,[],_,_,_,_,h,_=>by simp at h
 |p::P,w::a,0,m,d,b,c,hk=>by
  simp at b c;subst b;subst c;show bindC kindOf ((p,w)::P.zip a) m p=_;unfold bindC;rw[U5 λv e=>(SO.mp d).1 (X3 e).1,JA hk];simp
 |p::P,w::a,i+1,m,d,b,c,hk=>by(show bindC kindOf ((p,w)::P.zip a) m x=_;unfold bindC;exact T5 (SO.mp d).2 (by simpa using b) (by simpa using c) hk)
noncomputable def start(N:List fA)(a:List V):St:=a.map aA++AB (N.length-a.length) eA
noncomputable def cG(g:DK)(P:GC)(w:PB)(K:kA)(mg:fA->Option gA)(base:nB)(N:List fA)(b:fA)(a:kF)(f:jA)(d:gA)(A:AD)(outer:List Env)(s:zA)(H:Hp)(E:XK):Cx where
 prog:=P
 w:=w
 K:=K
 mg:=mg
 base:=base
 A:=A.deeper (envOfC b a s.heap.objs.size f d)
 N:=N
 s₀:=s
 H₀:=H
 env:=envOfC b a s.heap.objs.size f d
 outer:=outer
 stack:=envOfC b a s.heap.objs.size f d::outer
 ex:=[]
 calm:=bA
 fn:=λ_=>bA
 pn:=[]
 xe:=λe h=>tA (model P w) (A.deeper (envOfC b a s.heap.objs.size f d)) (leaving (envOfC b a s.heap.objs.size f d) e) (λ_ c=>g outer H s E e c) (λi c=>g outer H s E i c) h
def z6{a:kF}(h:a.names.lookup x=aA .cell):∃c,(cellsFrom n a.names []).lookup x=aA c:=by
 have q:=Rg a.names n [] (.inl h);exact Option.isSome_iff_exists.mp q
def Iu{K:kA}
  (S:GK N t d) (hd:A.handled=eA) (l:PL P w K mg base A outer s H) (Z:B.length=t.length) (r:aAc B O)
  (x:InCallC s s.heap.objs.size (bindL (envOfC j d s.heap.objs.size f M).kindOf (t.zip O) λ_=>eA) (cellsFrom (s.heap.objs.size+1) d.names []) (bindC (envOfC j d s.heap.objs.size f M).kindOf (t.zip O) λ_=>eA) Q) :
  iA (cG R P w K mg base N j d f M A outer s H E) [] (start N B) H Q:=by
 have U:t.length<=N.length:=by have:=congrArg EH S.pre;rw[iI] at this;lia
 obtain⟨I,tk,rfl,hk⟩:=x.done;have m:∀b:jA,b ∉ (cG R P w K mg base N j d f M A outer s H E).ex:=λb z=>absurd (show b∈([]:List jA) from z) (by simp)
 refine⟨⟨l.mod,S.kind,rfl,rfl,kB _,λy z c I g=>?_,λy o=>?_,λy c _ h=>?_,λ_=>hd,Around.frames_deeper l.frames,.inr ⟨rfl,rfl⟩,λb z=>absurd z (m b),l.bs,l.TH,λb _ _=>m b,λb z=>absurd z (m b),l.yF,l.NI⟩,
  rfl,l.bare,Un.kept hk,⟨_,x.toInCall.ns,λi y v I g h3=>?_⟩,λy c h=>⟨_,x.cell y c h⟩,l.SA.fresh (kB _),λy c h=>?_,λp C=>absurd (show p∈([]:List (jA×qB)) from C) (by simp),l.SA.kept hk, ?_⟩
 ·exact name_of_addr x.apart (aR I) (aR g)
 ·have o:d.names.lookup y=aA .cell\/d.names.lookup y=aA .free:=o;rcases o with o | o
  ·exact z6 o
  ·exact absurd rfl (S.Sz _ (aR o))
 ·exact eE (x.above y c (aR h))
 ·have J:i<B.length:=by
   unfold start at g;by_cases J:i<B.length
   ·exact J
   ·rw[LL (by simpa using J)] at g;rw[K2] at g;split at g<;>cases g
  have X:B[i]?=aA v:=by
   unfold start at g;rw[NL (by simpa using J),jD] at g
   cases e:B[i]? with
   |none=>rw[e] at g;cases g
   |some a=>rw[e] at g;cases g;rfl
  obtain⟨u,hu,Y⟩:=r.get X
  have C:t[i]?=aA y:=by(rw[<- S.pre,List.getElem?_take_of_lt (by lia)];exact I)
  have F:t.Nodup:=by rw[<- S.pre];exact S.nd.sublist (List.take_sublist _ _)
  refine⟨u,Y, ?_⟩;rcases S.par y (pF C) with k | k
  ·exact .inl ⟨k,V5 F C hu k⟩
  ·obtain⟨c,e⟩:=z6 (n:=s.heap.objs.size+1) k;refine .inr ⟨.inl k,c,e, ?_⟩;have q:=x.cell y c e;rw[T5 F C hu (by show d.names.lookup y≠_;rw[k];decide)] at q;exact q
 ·exact l.SA.fresh (eE (x.above y c (aR h)))
 ·unfold start;show _=N.length;rw[NC,vA,List.length_replicate]
  lia
def p7{K:kA}{Z kV p pm d ct oc:gA}{an od:Option jA}(lk:K.lookup f=aA ⟨oc,od,.func (JG name c g body a Z kV p pm an d ct),iL⟩)(F:XM K d c=bA)(S:GK N M a)
  (len:∀h H Q E,sp h H Q E->h.length=M.length)
  (j:∀(A:AD) (outer:List Env) (s:zA) (H:Hp) (h:List V) (Q:VK) (E:XK),eC k (A.deeper (envOfC c a s.heap.objs.size f d))->sp h H Q E ->
   ∃t,dC (cG O P w K mg base N c a f d A outer s H E) body t/\t { nx:=λ_ i=>Q .lA i,rt:=Q } (start N h) H) :
  VD P w K mg base O (k+1) f (JG name c g body a Z kV p pm an d ct) M sp:=by
 refine⟨len,λA outer s H args us h Q E R z hb r B=>?_⟩;have hl:=len _ _ _ _ B;have KX:K.In s.heap:=z.mod.kin.keeps λb o e=>(z.bs b o e).1
 have U:s.heap.NoLimit:=z.mod.nolimit.keeps λb o e=>(z.bs b o e).1
 have l:∀y∈M.zip us,a.names.lookup y.1=aA .local\/(a.names.lookup y.1=aA .cell/\((cellsFrom (s.heap.objs.size+1) a.names []).lookup y.1).isSome=bA):=λ⟨n,v⟩ hy=>by
  rcases S.par n (X3 hy).1 with q | q
  ·exact .inl q
  ·exact .inr ⟨q,Rg _ _ _ (.inl q)⟩
 refine codeAny_call_function R.depth (KX _ _ lk) rfl S.co S.gen rfl (PySem.W.codeRec_of KX F) (hb _ _ _ _ ?_);refine wpAny_newFunctionEnv_cells S.kind l λenv he s1 x=>?_
 subst he;refine⟨U.keeps x.toInCall.keep,codeAny_func ?_⟩;obtain⟨t,ht,hq⟩:=j A outer s H h Q E (R.deeper _) B;have I:iA (cG O P w K mg base N c a f d A outer s H E) [] (start N h) H s1:=Iu S R.hd z hl r x;refine oG (ht [] s1 (start N h) H _ I hq) (λfl X m=>?_) λe X m=>m
 have fin:∀{C:St} {i:Hp} {v:V} {u:gA},iA (cG O P w K mg base N c a f d A outer s H E) [] C i X->aAe v u->Q v i->CE outer P w H s Q u X :=
  λ{C i v u} J Y q=>⟨v,i,J.os,J.bare,J.base,J.SA,Y,q⟩
 cases fl with
 |ret u =>
  obtain⟨v,C,i,J,Y,q⟩:=m;exact fin J Y q
 |next =>
  obtain⟨C,i,J,q⟩:=m;exact fin (v:=V.lA) (u:=Value.none) J rfl q
 |brk =>
  obtain⟨_,_,_,q⟩:=m;exact OF q
 |cont =>
  obtain⟨_,_,_,q⟩:=m;exact OF q
section
variable{id T:String}
def V0(r:List V->Hp->VK->Prop)(t:TA):TE:=λY H Q=>t Y H λa b=>r a b Q
def aO(d:fE X (.builtin id) r)(f:Gl X x)(g:X.mg x=eA)(i:nJ x=aA (.builtin id))(j:PA X (e::a) t)(k:x≠"__name__":=by decide)(b:(x==("__debug__":fA))=dA:=by decide)
  (l:QB (e::a) X.env=(dA,eval e X.env)::QB a X.env:=by rfl) (c:(mE pos (QB a X.env)).any (·.1)=dA:=by rfl):PE X (.Call (.Name x p) (e::a) [] pos) (V0 r t):=by
 intro cA s Y H Q I h;refine DO (tM I f g i ?_ k b);exact PyProof.Rows.callWith_builtin1 (UA (j pos cA s Y H _ I h) λm n o=>(by obtain⟨q,u,v,w,y⟩:=o;exact d cA n Y u q m Q v w y)) l c
def wb(d:fE X (.type T) r)(f:Gl X x)(g:X.mg x=eA)(i:nJ x=aA (.type T))(j:PA X (e::a) t)(k:x≠"__name__":=by decide)(b:(x==("__debug__":fA))=dA:=by decide)
  (l:QB (e::a) X.env=(dA,eval e X.env)::QB a X.env:=by rfl) (c:(mE pos (QB a X.env)).any (·.1)=dA:=by rfl):PE X (.Call (.Name x p) (e::a) [] pos) (V0 r t):=by
 intro cA s Y H Q I h;refine DO (tM I f g i ?_ k b);exact zU (UA (j pos cA s Y H _ I h) λm n o=>(by obtain⟨q,u,v,w,y⟩:=o;exact d cA n Y u q m Q v w y)) l c
end
end L2
namespace HT
open PySem PyProof.Rows
noncomputable def aAi:List Int->List Int->Bool
 |[],[]=>dA
 |[],_::_=>bA
 |_::_,[]=>dA
 |x::a,y::b=>if x=y then aAi a b else decide (x<y)
theorem uM(x y:Int)(a b:List Int):aAi (x::a) (y::b)=if x=y then aAi a b else decide (x<y):=rfl
theorem jy:aAi [] []=dA:=rfl
theorem iy(y:Int)(a:List Int):aAi [] (y::a)=bA:=rfl
theorem gy(x:Int)(a:List Int):aAi (x::a) []=dA:=rfl
def zp(A:AD)(s:zA)(a:Int)(t:Tok)(c:Int)(u:Tok):∃e,T4 A s (.int a t) (.int c u) e/\(e=bA↔a=c) :=
 ⟨(a==c),Eh a t c u,by simp⟩
def pFa(A:AD)(s:zA)(a:Int)(t:Tok)(c:Int)(u:Tok)(prog:GC)(w:PB)(E:gA->zA->Prop)(Q:gA->zA->Prop)(h:Q (.bool (decide (a<c))) s) :
  tA (model prog w) A (richCompare .Lt (.int a t) (.int c u)) Q E s :=
 (Ni h:tA (model prog w) A (bE .Lt (.int a t) (.int c u)) Q E s)
section
open PySem.SeqAt
open PySem.AutoSeq1 (wpAny_loadPart')
open PySem.MeetsSeq PySem.MeetsSeq2 PySem.MeetsSeq3
def nKa(l b:jA)(items f:Array gA)(n n2:Nat)(dd N:Option jA)(sl O:Array (Option gA))(H I:List Int)(X:IntsAre items.toList H)(Y:IntsAre f.toList I) :
  Meets (GH.«tuple.__lt__» ⟨[.ref l,.ref b],[]⟩)
   (λ_ R s=>s.heap.get? l=aA { cls:=.type "tuple",dict:=dd,data:=.seq items n,slots:=sl }/\s.heap.get? b=aA { cls:=.type "tuple",dict:=N,data:=.seq f n2,slots:=O } /\
    R (.ok (.ret (.bool (aAi H I)))) s) :=
 .of_wp λprog w A R s h=>by
  obtain⟨J,g,d,tk,os⟩:=s;obtain⟨hl,hb,h⟩:=h;have f2:=AutoSeq1.sub_tuple_tuple;have z1:items.size=H.length:=by rw[<- X.length];simp
  have z2:f.size=I.length:=by rw[<- Y.length];simp
  wp_walk using wpAny_loadPart' hl,wpAny_loadPart' hb,wpAny_forIn_list _ (λaAl b P=>b.1=eA/\P=⟨J,g,d,tk,os⟩/\∃(K M:List gA) (j k:List Int),aAl=K.zip M /\
   IntsAre K j/\IntsAre M k/\j.length+f.size=k.length+items.size/\R (.ok (.ret (.bool (aAi j k)))) ⟨J,g,d,tk,os⟩) _
  case turn =>
   rintro⟨y,x⟩ aAl b P ⟨v,rfl,K,M,j,k,m,z,o,i,p⟩
   cases z with
   |nil=>rw[Nh] at m;cases m
   |cons a t C =>
    cases o with
    |nil=>rw[List.zip_nil_right] at m;cases m
    |cons c u F =>
     rw[lK] at m
     injection m with Q B
     injection Q with hy hx
     subst hy hx;rw[uM] at p;simp only[YB] at i;obtain⟨e,he,r⟩:=zp A.in1 ⟨J,g,d,tk,os⟩ a t c u;refine pA (he prog w _ _ ?_)
     cases e with
     |true =>
      rw[MA (r.mp rfl)] at p
      wp_walk
      exact⟨rfl,rfl,_,_,_,_,B,C,F,by lia,p⟩
     |false =>
      rw[JA (λq=>absurd (r.mpr q) CD)] at p;have U:=pFa A.in1 ⟨J,g,d,tk,os⟩ a t c u prog w
      wp_walk using U
      exact⟨_,rfl,by simpa using p⟩
  case fin =>
   rintro⟨b1,b2⟩ P ⟨v,rfl,K,M,j,k,m,z,o,i,p⟩
   simp only at v;subst v
   have Z:aAi j k=decide (items.size<f.size):=by
    cases z with
    |nil =>
     cases o with
     |nil =>
      simp only[pH] at i;rw[jy];exact(cB (by lia)).symm
     |cons c u hw =>
      simp only[pH,YB] at i;rw[iy];exact(vB (by lia)).symm
    |cons a t Z =>
     cases o with
     |nil =>
      simp only[pH,YB] at i;rw[gy];exact(cB (by lia)).symm
     |cons c u hw =>
      rw[lK] at m;cases m
   rw[Z] at p
   wp_walk
   exact⟨_,rfl,by simpa[Builtin.Tuple.tupleCompareSizes] using p⟩
  case h =>
   exact⟨rfl,rfl,items.toList,f.toList,H,I,rfl,X,Y,by lia,h⟩
end
section
variable{s:zA}
def xy(p:KG s.heap l items)(q:KG s.heap b a)(r:IntsAre items.toList f)(t:IntsAre a.toList g)
  (hu:A.units<cLine) (h:Q (.bool (aAi f g)) s):tA (model prog w) A (bE .Lt (.ref l) (.ref b)) Q E s:=by
 obtain⟨⟨cls,u,data,sl⟩,k,m,n,hd⟩:=id p;obtain⟨⟨o,i,data2,j⟩,c,d,v,e⟩:=id q;simp only at m hd d e;subst m hd d e
 exact richCompare_meets_room (op:=.Lt) ⟨_,k,rfl⟩ ⟨_,c,rfl⟩ PySem.F.slot_tuple_lt PySem.F.entry_tuple_lt (PySem.F.args_tuple_lt_2 _ _) (nKa l b items a n v u i sl j f g r t)
  ⟨k,c,show Value.bool (aAi f g)≠Value.notImplemented/\Q (.bool (aAi f g)) s from⟨(λx=>nomatch x),h⟩⟩ hu
def Sn(u:KG s.heap t d.toArray)(v:KG s.heap b a.toArray)(m:d≠[])
  (x:a=[]->Q (.ref t) s) (y:a≠[]->Q (.ref s.heap.objs.size) { s with heap:=s.heap.push { cls:=.type "tuple",data:=.seq (d++a).toArray } })
  (l:d.length+a.length<=sizeLine):tA (model prog w) A (yE .Add (.ref t) (.ref b)) Q E s:=by
 obtain⟨⟨cls,o,data,sl⟩,j,p,n,hd⟩:=id u;obtain⟨⟨q,f,data2,g⟩,c,h,r,i⟩:=id v;simp only at p hd h i;subst p hd h i;have e:d.toArray++a.toArray=(d++a).toArray:=by simp
 by_cases k:a=[]
 ·exact pV ⟨_,j,rfl⟩ ⟨_,c,rfl⟩ Q3 j4 P2 N2 (E2 _ _)
   (tuple_addW1 t b d.toArray a.toArray n r o f sl g (by simpa using m) (by simp[k])) ⟨j,c,x k⟩
 ·refine pV ⟨_,j,rfl⟩ ⟨_,c,rfl⟩ Q3 j4 P2 N2 (E2 _ _)
   (tuple_addW2 t b d.toArray a.toArray n r o f sl g (by simpa using m) (by simpa using k) (by rw[EC,EC];exact l)) ⟨j,c, ?_⟩
  rw[e];exact y k
noncomputable def fB(n d:Nat):Option Int->Nat
 |none=>d
 |some v=>if v<0 then(v+(n:Int)).toNat else min v.toNat n
theorem Pc(n d:Nat):fB n d eA=d:=rfl
def YZ(n d k:Nat):fB n d (aA (k:Int))=min k n:=by
 show(if(k:Int)<0 then((k:Int)+(n:Int)).toNat else min (k:Int).toNat n)=min k n;rw[JA (by lia),HH]
def sGa(n d:Nat)(hd:d<=n)(o:Option Int):fB n d o<=n:=by
 cases o with
 |none=>exact hd
 |some v =>
  show(if v<0 then(v+(n:Int)).toNat else min v.toNat n)<=n;by_cases a:v<0
  ·rw[MA a];lia
  ·rw[JA a];exact Nat.min_le_right _ _
def B6(v:Int)(n d:Nat):(if v<0 then max (v+(n:Int)) 0 else min v (n:Int))=((fB n d (aA v):Nat):Int):=by
 show(if v<0 then max (v+(n:Int)) 0 else min v (n:Int))=(((if v<0 then(v+(n:Int)).toNat else min v.toNat n):Nat):Int);by_cases a:v<0
 ·simp only[MA a];lia
 ·simp only[JA a];lia
def Dk(lo a:Option Int)(n:Nat):C2 lo a 1 (n:Int)=(((fB n 0 lo:Nat):Int),((fB n n a:Nat):Int)):=by
 have b:¬((1:Int)<0):=by lia
 unfold C2;simp only[b,if_false];refine zV ?_ ?_
 ·cases lo with
  |none=>rfl
  |some v=>exact B6 v n 0
 ·cases a with
  |none=>rfl
  |some v=>exact B6 v n n
def nCa(i j:Nat):AU (i:Int) (j:Int) 1=j-i:=by
 unfold AU;have a:(1:Int) > 0:=by lia
 simp only[a,if_true,Int.ediv_one]
 split<;>lia
def Xc(p:pI v o)(h:Q o s):tA (model prog w) A (Builtin.Slice.slicePartIndex v) Q E s:=by
 cases p with
 |none=>exact slicePart_none h
 |int i t=>exact slicePart_int h
def Wc{lo a:Option Int}{Q:Int×Int×Nat->zA->Prop}(f:s.heap.IsSliceOf sl d e .none)(g:pI d lo)(i:pI e a)
  (h:Q (((fB n 0 lo:Nat):Int),1,fB n n a-fB n 0 lo) s):tA (model prog w) A (Dg (.ref sl) (pure (n:Int))) Q E s:=by
 obtain⟨os,b,j,c⟩:=id f;unfold Dg Builtin.Slice.sliceFields;refine pA (pA (lH b c (x:=d) rfl (pA (lH b c (x:=e) rfl (pA (lH b c (x:=.none) rfl (WA ?_)))))));refine pA (slicePart_none ?_);show tA _ _ (if((1:Int)==0)=bA then _ else _) _ _ s;rw[JA (by decide)];refine pA (Xc g (pA (Xc i (pA (WA ?_)))));show tA _ _ (match C2 lo a 1 (n:Int) with | (lo,a)=>pure (lo,(1:Int),AU lo a 1)) _ _ s;rw[Dk lo a n];show tA _ _ (pure (((fB n 0 lo:Nat):Int),(1:Int),AU ((fB n 0 lo:Nat):Int) ((fB n n a:Nat):Int) 1)) _ _ s;rw[nCa];exact WA h
def hCa(a:Array gA)(i k:Nat):((qC k).filterMap λ(m:Nat)=>a[((i:Int)+(m:Int)*1).toNat]?).toArray=((a.toList.drop i).take k).toArray:=by
 have e:(λ(m:Nat)=>a[((i:Int)+(m:Int)*1).toNat]?)=λm=>a[i+m]?:=by
  funext m
  have:((i:Int)+(m:Int)*1).toNat=i+m:=by lia
  rw[this]
 rw[e]
 have:=pick_run a i k
 rw[List.filterMap_map] at this;have e2:((λx=>a[x]?) ∘ λx=>i+x)=λm=>a[i+m]?:=rfl
 rw[e2] at this;rw[this]
def Zs{lo b:Option Int}(c:KG s.heap t items)(i:s.heap.IsSliceOf sl j k .none)(l:pI j lo)(n:pI k b)
  (o:¬(fB items.size 0 lo=0/\fB items.size items.size b=items.size))
  (h:Q (.ref s.heap.objs.size) { s with heap:=s.heap.push { cls:=.type "tuple",data:=.seq ((items.toList.drop (fB items.size 0 lo)).take (fB items.size items.size b-fB items.size 0 lo)).toArray } })
  (p:items.size<=sizeLine):tA (model prog w) A (getItem (.ref t) (.ref sl)) Q E s:=by
 have a:sizeOk (.seq ((items.toList.drop (fB items.size 0 lo)).take (fB items.size items.size b-fB items.size 0 lo)).toArray):=by(show((items.toList.drop (fB items.size 0 lo)).take (fB items.size items.size b-fB items.size 0 lo)).toArray.size<=sizeLine;rw[EC,iI,rK,uD];omega)
 have u:fB items.size items.size b<=items.size:=sGa _ _ (kB _) b;obtain⟨os,d,e,r⟩:=id i;have f:s.TypeIs (.ref sl) "slice":=⟨os,d,e⟩
 unfold getItem
 try with_reducible refine DH ?_
 first | refine pA (WA ?_) | skip
 refine pA (Oh c.typeIs (by decide) ?_)
 refine pA (xO (name:=xA "__getitem__") c.typeIs gN
  (BL gN c.typeIs th ?_ (Fh _ _)))
 show tA _ _ (B2 (.ref t)>>=_) _ _ s;refine pA (l4 c ?_);refine pA (E4 f ?_);rw[MA (by decide)];refine pA (Wc i l n ?_)
 have g:¬((((fB items.size 0 lo:Nat):Int)==0&&(1:Int)==1&&(fB items.size items.size b-fB items.size 0 lo)==items.size)=bA):=by(intro q;rw[RA,RA] at q;have v:((fB items.size 0 lo:Nat):Int)=0:=yC q.1.1;have x:fB items.size items.size b-fB items.size 0 lo=items.size:=yC q.2;exact o ⟨by omega,by omega⟩)
 show tA _ _ (if(((fB items.size 0 lo:Nat):Int)==0&&(1:Int)==1&&(fB items.size items.size b-fB items.size 0 lo)==items.size)=bA then _ else _) _ _ s;rw[JA g,hCa]
 first
  |exact pA (m:=CU _) (pK (WA ⟨_,rfl,WA h⟩) a)
  |exact pA (m:=CU _) (pK (pA (WA (WA ⟨_,rfl,WA h⟩))) a)
  |exact pA (pA (m:=CU _) (pK (WA (WA ⟨_,rfl,WA h⟩)) a))
  |exact pA (pA (m:=CU _) (pK (WA ⟨_,rfl,WA h⟩) a))
end
end HT
namespace L2
open PySem PySem.Spec PyProof.Rows
abbrev TO:=St->Hp->(Option Int->Hp->Prop)->Prop
def PO(X:Cx)(e:Option wA)(t:TO):Prop :=
 ∀(cA:List (jA×qB)) (s:zA) (Y:St) (H:Hp) (Q:Option Int->Hp->Prop),iA X cA Y H s->t Y H Q ->
  tA (model X.prog X.w) X.A (evalPart e X.env) (λu b=>∃o a,iA X cA Y a b/\pI u o/\Q o a) X.xe s
def pJa:TO:=λ_ H Q=>Q eA H
def rJa(t:TE):TO:=λY H Q=>t Y H λx a=>∃i,x=.int i/\Q (aA i) a
section
variable{lo hi:Option wA}
def pCa:PO X eA pJa:=by
 intro cA s Y H Q I h;rw[evalPart_none];exact WA ⟨eA,H,I,.none,h⟩
def rCa(h:PE X e a):PO X (aA e) (rJa a):=by
 intro cA s Y H Q I b;rw[evalPart_some];refine UA (h cA s Y H _ I b) λu k c=>?_
 obtain⟨x,d,f,g,j⟩:=c;obtain⟨i,rfl,q⟩:=j;obtain⟨t,rfl⟩:=g;exact⟨aA i,d,f,.int i t,q⟩
def AI(X:Cx)(r:V->Option Int->Option Int->Hp->VK->Prop):Prop :=
 ∀(cA:List (jA×qB)) (s:zA) (Y:St) (H:Hp) (x:V) (v a b:gA) (lo hi:Option Int) (sl:jA) (Q:VK),iA X cA Y H s->aAe x v->s.heap.IsSliceOf sl a b .none->pI a lo->pI b hi->r x lo hi H Q ->
  ∃T id,typeLookup (.type T) "__getitem__"=pure (aA (.builtin id))/\s.TypeIs v T/\tA (model X.prog X.w) X.A (getItem v (.ref sl)) (EP X cA Y Q) X.xe s
def AI.or(h:AI X r)(F:AI X J):AI X (λx lo hi H Q=>r x lo hi H Q\/J x lo hi H Q):=by
 intro cA s Y H x v j m lo hi sl Q I y B pl C q;rcases q with q | q
 ·exact h cA s Y H x v j m lo hi sl Q I y B pl C q
 ·exact F cA s Y H x v j m lo hi sl Q I y B pl C q
def tSl(r:V->Option Int->Option Int->Hp->VK->Prop)(a:TE)(b c:TO):TE:=λY H Q=>a Y H λx d=>b Y d λl e=>c Y e λu f=>r x l u f Q
def uBa(i:AI X r)(j:PE X e k)(m:PO X lo n)(hu:PO X hi o):PE X (.Subscript e (.Slice lo hi eA p) pos) (tSl r k n o):=by
 intro cA s Y H Q I h;refine Subscript_ (UA (j cA s Y H _ I h) λv t f=>?_);obtain⟨x,y,z,B,C⟩:=f;refine wpAny_Slice (UA (m cA t Y y _ z C) λc F ⟨l,J,K,M,N⟩=>UA (hu cA F Y J _ K N) λd a f=>?_);obtain⟨u,g,O,P,R⟩:=f;rw[evalPart_none];refine WA ?_;have U:iA X cA Y g { a with heap:=a.heap.push { cls:=.type "slice",data:=.fields #[c,d,.none] } }:=O.kept (t':=a.toks) λb ob q=>jC _ q
 obtain⟨T,id,Z,ht,hg⟩:=i cA { a with heap:=a.heap.push { cls:=.type "slice",data:=.fields #[c,d,.none] } } Y g x v c d l u a.heap.objs.size Q U B (iMa ..) M P R;show tA (model X.prog X.w) X.A (subscriptTail e (.Slice lo hi eA p) v (.ref a.heap.objs.size)) (EP X cA Y Q) X.xe { a with heap:=a.heap.push { cls:=.type "slice",data:=.fields #[c,d,.none] } };exact tail_any (ops:=[.ref a.heap.objs.size,v]) ht Z hg (by with_unfolding_all rfl)
def GJ(a:List V)(lo hi:Option Int):List V:=(a.drop (HT.fB a.length 0 lo)).take (HT.fB a.length a.length hi-HT.fB a.length 0 lo)
def P6(a:List V)(lo hi:Option Int):(GJ a lo hi).length<=a.length:=by
 unfold GJ;rw[iI,rK]
 lia
def lFa(K:kA):V->Option Int->Option Int->Hp->VK->Prop:=λx lo hi H Q=>∃a b,x=.ref a/\BC K H a b /\
 ¬(HT.fB b.length 0 lo=0/\HT.fB b.length b.length hi=b.length)/\∀p,H p=eA->Q (.ref p) (EA H p (.t (GJ b lo hi)))
def uHa:AI X (lFa X.K):=by
 intro cA s Y H x v p t lo hi sl Q I i j k l h;obtain⟨a,d,rfl,m,n,q⟩:=h;cases i;obtain⟨e,r,f,g⟩:=I.tuple m;have c:e.toArray.size=d.length:=by rw[EC];exact r.length.symm
 refine⟨"tuple",_,gN.lookup,f.typeIs, ?_⟩;refine HT.Zs f j k l (by rw[c];exact n) ?_ (by rw[c];exact g);rw[c];refine⟨.ref s.heap.objs.size,_,I.laid (t':=s.toks) (o:=.t (GJ d lo hi)) (λb u q=>jC _ q) (kB _) ?_,rfl,q _ (I.SA.fresh (kB _))⟩;exact⟨TB (P6 d lo hi) g,_,(r.drop (HT.fB d.length 0 lo)).take (HT.fB d.length d.length hi-HT.fB d.length 0 lo),X4 _ _⟩
def aFa(K:kA):R2:=λx y H Q=>∃a b d c,x=.ref a/\y=.ref b/\BC K H a d/\BC K H b c/\d≠[]/\d.length+c.length<=sizeLine /\
 (c=[]->Q (.ref a) H)/\(c≠[]->∀p,H p=eA->Q (.ref p) (EA H p (.t (d++c))))
def aAc.yT(r:aAc xs j):j=[]↔xs=[]:=by
 cases r with
 |nil=>simp
 |cons _ _=>simp
def E':rC X (yE .Add) (aFa X.K):=by
 intro cA s Y H x y v u Q I g i h;obtain⟨a,b,j,k,rfl,rfl,l,m,n,e,p,r⟩:=h;cases g;cases i;obtain⟨t,d,A,_⟩:=I.tuple l;obtain⟨f,c,B,_⟩:=I.tuple m;refine HT.Sn A B (λz=>n (d.yT.mp z)) (λz=>⟨.ref a,H,I,rfl,p (c.yT.mp z)⟩) (λz=>?_) (by rw[<- d.length,<- c.length];exact e);refine⟨.ref s.heap.objs.size,_,I.laid (t':=s.toks) (o:=.t (j++k)) (λb C q=>jC _ q) (kB _) ?_,rfl,r (λw=>z (c.yT.mpr w)) _ (I.SA.fresh (kB _))⟩;exact⟨by rw[NC];exact e,_,d.append c,X4 _ _⟩
end
noncomputable def AF(n:Nat)(i:Int):Option Nat:=if 0<=i then(if i<n then aA i.toNat else eA) else if -(n:Int)<=i then aA (i+n).toNat else eA
def lC(a:List O)(i:Int):Option O:=(AF a.length i).bind λj=>a[j]?
def B8(h:AF n i=aA j):seqIndex? i n=aA j/\j<n/\-(n:Int)<=i/\i<n:=by
 unfold AF at h;by_cases b:0<=i
 ·rw[MA b] at h;by_cases a:i<n
  ·rw[MA a] at h;have e:i.toNat=j:=kD h;exact⟨by rw[M4 b a,e],by lia,by lia,a⟩
  ·rw[JA a] at h;cases h
 ·rw[JA b] at h;by_cases a:-(n:Int)<=i
  ·rw[MA a] at h;have e:(i+n).toNat=j:=kD h;exact⟨by rw[F4 (by lia) a,e],by lia,a,by lia⟩
  ·rw[JA a] at h;cases h
def hW(h:lC a i=aA v):∃j,seqIndex? i a.length=aA j/\a[j]?=aA v/\j<a.length/\-(a.length:Int)<=i/\i<a.length:=by
 unfold lC at h
 cases e:AF a.length i with
 |none=>rw[e] at h;cases h
 |some j =>
  rw[e] at h;obtain⟨b,c,d,f⟩:=B8 e;exact⟨j,b,h,c,d,f⟩
def YL{j:Nat}(h:a[j]?=aA v):lC a (j:Int)=aA v:=by
 have b:j<a.length:=(BD.mp h).1
 have e:AF a.length (j:Int)=aA j:=by(unfold AF;rw[MA (by lia),MA (by lia)];simp)
 unfold lC;rw[e];exact h
def QR(b:wA):Prop:=∀o i,subscripted b dA o i=operate [o,i] (getItem o i)
def tF(X:Cx)(r:R2):Prop :=
 ∀(value slice:wA) (cA:List (jA×qB)) (s:zA) (Y:St) (H:Hp) (x y:V) (v u:gA) (Q:VK),iA X cA Y H s->aAe x v->aAe y u->r x y H Q ->
  subscripted slice dA v u=operate [v,u] (getItem v u)->tA (model X.prog X.w) X.A (subscriptTail value slice v u) (EP X cA Y Q) X.xe s
def TV(X:Cx)(id:String)(r:V->List V->Hp->VK->Prop):Prop :=
 ∀(cA:List (jA×qB)) (s:zA) (Y:St) (H:Hp) (x:V) (a:List V) (v:gA) (b:List gA) (Q:VK),iA X cA Y H s->aAe x v->aAc a b->r x a H Q ->
  tA (model X.prog X.w) X.A (call (.builtin id) (v::b)) (EP X cA Y Q) X.xe s
section
variable{pos:xB}
def tF.or(h:tF X r)(C:tF X F):tF X (λx y H Q=>r x y H Q\/F x y H Q):=by
 intro value slice cA s Y H x y v u Q I j m q B;rcases q with q | q
 ·exact h value slice cA s Y H x y v u Q I j m q B
 ·exact C value slice cA s Y H x y v u Q I j m q B
def mBa(c:tF X r)(d:PE X a e)(f:PE X b g)(i:QR b):PE X (.Subscript a b pos) (RQ r e g):=by
 intro cA s Y H Q I h;exact Subscript_ (xW d f I h λv u j x y k l m n q=>c a b cA j Y k x y v u Q l m n q (i _ _))
def uc(K:kA):R2:=λx y H Q=>∃p a i v,x=.ref p/\y=.int i/\zB K H p a/\lC a i=aA v/\Q v H
def vc(K:kA):R2:=λx y H Q=>∃p a i v,x=.ref p/\y=.int i/\BC K H p a/\lC a i=aA v/\Q v H
def QT:R2:=λx y H Q=>∃z i c,x=.str z/\y=.int i/\z.length<=sizeLine/\lC z.cps.toList i=aA c/\Q (.str ⟨#[c]⟩) H
def Bv:tF X (uc X.K):=by
 intro value slice cA s Y H x y v u Q I l m h f;obtain⟨p,M,i,z,rfl,rfl,n,o,q⟩:=h;cases l;obtain⟨t,rfl⟩:=m;obtain⟨b,r,c,N⟩:=I.list n;obtain⟨j,a,A,O,B,C⟩:=hW o;obtain⟨w,g,d⟩:=r.get A;have F:=r.length;have P:=vM;have fin:EP X cA Y Q w s:=⟨z,H,I,d,q⟩
 by_cases k:0<=i
 ·have e:i.toNat=j:=by
   rw[M4 k C] at a;exact kD a
  exact item_listR c.isList k (by lia) (by rw[e];simpa using g) fin f
 ·have e:(i+(b.toArray.size:Int)).toNat=j:=by
   rw[F4 (by lia) B] at a;rw[EC,<- F];exact kD a
  exact Sg (x:=w) c.isList.typeIs Ph.lookup
   (wpAny_getItem_list_neg (Q:=λr J=>r=w/\EP X cA Y Q r J) c.isList (by lia) (by rw[EC]<;>lia) (by lia) (by rw[e];simpa using g) ⟨rfl,fin⟩) f
def Hv:tF X (vc X.K):=by
 intro value slice cA s Y H x y v u Q I c d h e;obtain⟨p,B,i,z,rfl,rfl,f,g,q⟩:=h;cases c;obtain⟨t,rfl⟩:=d;obtain⟨k,r,b,C⟩:=I.tuple f;obtain⟨j,l,m,F,J,M⟩:=hW g;obtain⟨w,n,a⟩:=r.get m;have o:=r.length;have N:=vM;have fin:EP X cA Y Q w s:=⟨z,H,I,a,q⟩
 exact Sg (x:=w) b.typeIs gN.lookup
  (getItem_tuple (Q:=λr A=>r=w/\EP X cA Y Q r A) b (by lia) (by lia) (by rw[EC,<- o];exact l) (by simpa using n) ⟨rfl,fin⟩) e
def Gv:tF X QT:=by
 intro value slice cA s Y H x y v u Q I b d h e;obtain⟨z,i,c,rfl,rfl,n,f,q⟩:=h;obtain⟨t,rfl⟩:=b;obtain⟨o,rfl⟩:=d;obtain⟨j,a,g,p,k,l⟩:=hW f;have m:z.cps.toList.length=z.length:=by simp[Str.length]
 rw[m] at a k l;have r:=vM
 exact tail_any (typeIs_str s z t) slot_str_getitem.lookup (getItem_str (by
  have e1:decide (i < -(2 ^ 63:Int))=dA:=cB (by lia);have e2:decide (i >= 2 ^ 63)=dA:=cB (by lia)
  rw[e1,e2,YE]) (by rw[a];simpa using g) ⟨.str ⟨#[c]⟩,H,I.tok _,⟨_,rfl⟩,q⟩) e
def rIx(K:kA):R2:=λx y H Q=>uc K x y H Q\/vc K x y H Q\/QT x y H Q
def Fv:tF X (rIx X.K):=Bv.or (Hv.or Gv)
def Cy(a:List gA)(n j:Nat)(u:gA):pJ (·.setIfInBounds j u) { cls:=.type "list",data:=.seq a.toArray n }={ cls:=.type "list",data:=.seq (a.set j u).toArray n }:=by
 simp[pJ]
theorem iA.l(I:iA X cA Y H s)(h:H p=aA (.l xs)) :
  ∃(j:List gA) (n:Nat),aAc xs j/\s.heap.get? p=aA { cls:=.type "list",data:=.seq j.toArray n }/\xs.length<=sizeLine:=by
 obtain⟨z,j,n,r,e⟩:=I.SA p _ h;exact⟨j,n,r,e,z⟩
def iA.uy{m j:List gA}(I:iA X cA Y H s)(h:H p=aA (.l xs))
  (ho:s.heap.get? p=aA { cls:=.type "list",data:=.seq m.toArray n }) (y:f { cls:=.type "list",data:=.seq m.toArray n }={ cls:=.type "list",data:=.seq j.toArray n' }) (r:aAc ys j) (B:ys.length<=sizeLine) (t:Nat) :
  iA X cA Y (EA H p (.l ys)) { s with heap:=s.heap.update p f,toks:=t }:=by
 have e:(s.heap.update p f).get? p=aA { cls:=.type "list",data:=.seq j.toArray n' }:=by(rw[GU f ho (by rw[y]<;>rfl),y])
 refine I.write (x:=p) (e:=p) (by rw[h];trivial) (.inl rfl) (λb u C q=>(yO _ _ (sD C)).trans q) ⟨_,e⟩ ?_;exact⟨B,j,n',r,e⟩
def wc:V->V->V->Hp->(Hp->Prop)->Prop:=λo i v H Q=>∃p a k j,o=.ref p/\i=.int k/\H p=aA (.l a)/\AF a.length k=aA j/\Q (EA H p (.l (a.set j v)))
def aAT:bW X wc:=by
 intro cA s Y H o i v C F u Q I w x y h;obtain⟨p,z,k,j,rfl,rfl,e,A,q⟩:=h;cases w;obtain⟨t,rfl⟩:=x;obtain⟨a,n,r,c,B⟩:=I.l e;obtain⟨b,J,f,g⟩:=B8 A;have d:=r.length;have K:=vM
 have l:iA X cA Y (EA H p (.l (z.set j v))) { s with heap:=s.heap.update p (pJ (·.setIfInBounds j u)) } :=
  I.uy e c (Cy a n j u) (r.set y j) (by rw[oE];exact B) s.toks
 by_cases m:0<=k
 ·have hk:k.toNat=j:=by
   rw[M4 m g] at b;exact kD b
  exact PySem.W.ki_setAt c m (by lia) (by rw[EC,<- d];exact g) (by rw[hk];exact⟨_,l,q⟩)
 ·have hk:(k+(a.toArray.size:Int)).toNat=j:=by
   rw[F4 (by lia) f] at b;rw[EC,<- d];exact kD b
  exact PySem.W.ki_setBack c (by lia) (by rw[EC,<- d];exact f) (by lia) (by rw[hk];exact⟨_,l,q⟩)
def xHa(lo a:Option Int)(n:Nat):(sliceBounds lo a eA n).1=((HT.fB n 0 lo:Nat):Int)/\(sliceBounds lo a eA n).2.1=((HT.fB n n a:Nat):Int)/\(sliceBounds lo a eA n).2.2=1:=by
 refine⟨?_, ?_,rfl⟩
 ·cases lo with
  |none=>simp[sliceBounds,HT.fB]
  |some i =>
   simp only[sliceBounds,HT.fB,Yh,show(1:Int) > 0 by decide,if_true];by_cases h:i<0
   ·simp only[h,if_true]<;>lia
   ·simp only[h,if_false]<;>lia
 ·cases a with
  |none=>simp[sliceBounds,HT.fB]
  |some i =>
   simp only[sliceBounds,HT.fB,Yh,show(1:Int) > 0 by decide,if_true];by_cases h:i<0
   ·simp only[h,if_true]<;>lia
   ·simp only[h,if_false]<;>lia
def wHa(a:List gA)(lo b:Option Int):slicePick a.toArray lo b eA=((a.drop (HT.fB a.length 0 lo)).take (HT.fB a.length a.length b-HT.fB a.length 0 lo)).toArray:=by
 obtain⟨c,d,e⟩:=xHa lo b a.toArray.size;unfold slicePick;rw[c,d,e];simp only[sliceRange_one,pick_run,EC]<;>rfl
def kFa(K:kA):V->Option Int->Option Int->Hp->VK->Prop:=λx lo c H Q=>∃a b,x=.ref a/\zB K H a b/\∀p,H p=eA->Q (.ref p) (EA H p (.l (GJ b lo c)))
def sHa:AI X (kFa X.K):=by
 intro cA s Y H x v p t lo e sl Q I g i j k h;obtain⟨a,c,rfl,l,q⟩:=h;cases g;obtain⟨m,r,f,n⟩:=I.list l;have d:=r.length;refine⟨"list",_,Ph.lookup,f.isList.typeIs, ?_⟩;refine wpAny_getItem_list_slice f.isList i j k .none (by simp) ?_ (by rw[EC]<;>lia);rw[wHa,<- d];refine⟨.ref s.heap.objs.size,_,I.laid (t':=s.toks) (o:=.l (GJ c lo e)) (λb u q=>jC _ q) (kB _) ?_,rfl,q _ (I.SA.fresh (kB _))⟩;exact⟨TB (P6 c lo e) n,_,0,(r.drop (HT.fB c.length 0 lo)).take (HT.fB c.length c.length e-HT.fB c.length 0 lo),QD _ rfl⟩
noncomputable def KI:V->Bool
 |.lA=>bA
 |.bl _=>bA
 |.int _=>bA
 |.str _=>bA
 |_=>dA
noncomputable def HJ:V->V->Bool
 |.lA,.lA=>bA
 |.bl a,.bl b=>a==b
 |.bl a,.int b=>(if a then 1 else 0)==b
 |.int a,.bl b=>a==(if b then 1 else 0)
 |.int a,.int b=>a==b
 |.str a,.str b=>a==b
 |_,_=>dA
def yp(e:aAe y u)(c:aAe x v)(g:KI y=bA)(f:KI x=bA):T4 A s u v (HJ y x):=by
 cases y with
 |lA =>
  cases e
  cases x with
  |lA=>cases c;exact SeqAt.EqAt.same _
  |bl b=>cases c;exact SeqAt.EqAt.none_bool b
  |int b=>obtain⟨t,rfl⟩:=c;exact SeqAt.EqAt.none_int b t
  |str b=>obtain⟨t,rfl⟩:=c;exact SeqAt.EqAt.none_str b t
  |_=>exact absurd (show dA=bA from f) CD
 |bl a =>
  cases e
  cases x with
  |lA=>cases c;exact SeqAt.EqAt.bool_none a
  |bl b=>cases c;exact SeqAt.EqAt.bool_bool a b
  |int b=>obtain⟨t,rfl⟩:=c;exact SeqAt.EqAt.bool_int a b t
  |str b=>obtain⟨t,rfl⟩:=c;exact SeqAt.EqAt.bool_str a b t
  |_=>exact absurd (show dA=bA from f) CD
 |int a =>
  obtain⟨d,rfl⟩:=e
  cases x with
  |lA=>cases c;exact SeqAt.EqAt.int_none a d
  |bl b=>cases c;exact SeqAt.EqAt.int_bool a d b
  |int b=>obtain⟨t,rfl⟩:=c;exact Eh a d b t
  |str b=>obtain⟨t,rfl⟩:=c;exact Bh a d b t
  |_=>exact absurd (show dA=bA from f) CD
 |str a =>
  obtain⟨d,rfl⟩:=e
  cases x with
  |lA=>cases c;exact SeqAt.EqAt.str_none a d
  |bl b=>cases c;exact SeqAt.EqAt.str_bool a d b
  |int b=>obtain⟨t,rfl⟩:=c;exact Dh a d b t
  |str b=>obtain⟨t,rfl⟩:=c;exact SeqAt.EqAt.str_str a d b t
  |_=>exact absurd (show dA=bA from f) CD
 |_=>exact absurd (show dA=bA from g) CD
def eG(x:V)(u:gA):Bool:=match u with
 |.none=>HJ .lA x
 |.bool b=>HJ (.bl b) x
 |.int i _=>HJ (.int i) x
 |.str z _=>HJ (.str z) x
 |_=>dA
def f7(r:aAe y u)(f:KI y=bA):eG x u=HJ y x:=by
 cases y with
 |lA=>cases r;rfl
 |bl b=>cases r;rfl
 |int i=>obtain⟨t,rfl⟩:=r;rfl
 |str z=>obtain⟨t,rfl⟩:=r;rfl
 |_=>exact absurd (show dA=bA from f) CD
def WR(h:aAc a b)(f:a.all KI=bA):b.any (eG x)=a.any λy=>HJ y x:=by
 induction h with
 |nil=>rfl
 |cons r t c =>
  rw[kC,RA] at f;rw[HL,HL,f7 r f.1,c f.2]
def rT(a:aAe x v)(b:KI x=bA)(h:aAc c d)(f:c.all KI=bA):∀u∈d,T4 A s u v (eG x u):=by
 induction h with
 |nil=>exact λu hu=>nomatch hu
 |cons r t e =>
  intro g hu;rw[kC,RA] at f;rcases WC.mp hu with rfl | hu
  ·rw[f7 r f.1];exact yp r a f.1 b
  ·exact e f.2 g hu
def XS(x:V)(a:List V):Bool:=a.any λy=>HJ y x
def tc(K:kA)(neg:Bool):R2:=λx y H Q=>∃p a,y=.ref p/\(zB K H p a\/BC K H p a)/\KI x=bA/\a.all KI=bA/\Q (.bl (if neg then !XS x a else XS x a)) H
def Wa:rC X (bE .In) (tc X.K dA):=by
 intro cA s Y H x y v u Q I e g h;obtain⟨p,j,rfl,b,f,fs,q⟩:=h;cases g;rcases b with b | b
 ·obtain⟨a,r,c,i⟩:=I.list b;refine SeqAt.in_listAt (eG x) c.isList (λw d=>rT e f r fs w (by simpa using d)) ⟨.bl _,H,I,rfl, ?_⟩;rw[show a.toArray.any (eG x)=a.any (eG x) by simp,WR r fs];exact q
 ·obtain⟨a,r,c,i⟩:=I.tuple b;refine SeqAt.in_tupleAt (eG x) c (λw d=>rT e f r fs w (by simpa using d)) ⟨.bl _,H,I,rfl, ?_⟩;rw[show a.toArray.any (eG x)=a.any (eG x) by simp,WR r fs];exact q
def Xa:rC X (bE .NotIn) (tc X.K bA):=by
 intro cA s Y H x y v u Q I e g h;obtain⟨p,j,rfl,b,f,fs,q⟩:=h;cases g;rcases b with b | b
 ·obtain⟨a,r,c,i⟩:=I.list b;refine SeqAt.notIn_listAt (eG x) c.isList (λw d=>rT e f r fs w (by simpa using d)) ⟨.bl _,H,I,rfl, ?_⟩;rw[show a.toArray.any (eG x)=a.any (eG x) by simp,WR r fs];exact q
 ·obtain⟨a,r,c,i⟩:=I.tuple b;refine SeqAt.notIn_tupleAt (eG x) c (λw d=>rT e f r fs w (by simpa using d)) ⟨.bl _,H,I,rfl, ?_⟩;rw[show a.toArray.any (eG x)=a.any (eG x) by simp,WR r fs];exact q
def w6:fE X (.builtin "len") (λg H Q=>∃p b,g=[.ref p]/\(zB X.K H p b\/BC X.K H p b)/\Q (.int b.length) H):=by
 intro cA s Y H g k Q I r h;obtain⟨p,b,rfl,c,q⟩:=h;obtain⟨u,rfl,i⟩:=aAw r;cases i;have l:=vM;rcases c with c | c
 ·obtain⟨d,e,f,j⟩:=I.list c;have a:=e.length;exact Calls.call_len_list f.isList (by simp only[EC]<;>lia) ⟨.int b.length,H,I.tok _,⟨s.toks+1,by rw[EC,a]⟩,q⟩
 ·obtain⟨d,e,f,j⟩:=I.tuple c;have a:=e.length;exact len_tuple f (by simp only[EC]<;>lia) ⟨.int b.length,H,I.tok _,⟨s.toks+1,by rw[EC,a]⟩,q⟩
def Ln:fE X (.builtin "len") (λa H Q=>∃z,a=[.str z]/\z.length<=sizeLine/\Q (.int z.length) H):=by
 intro cA s Y H a b Q I r h;obtain⟨z,rfl,c,q⟩:=h;obtain⟨u,rfl,t,rfl⟩:=aAw r;have d:=vM;exact len_str (by lia) ⟨.int z.length,H,I.tok _,⟨_,rfl⟩,q⟩
def x6:fE X (.type "list") (λx H Q=>∃p d,x=[.ref p]/\(zB X.K H p d\/BC X.K H p d)/\∀l,H l=eA->Q (.ref l) (EA H l (.l d))):=by
 intro cA s Y H x A Q I r h;obtain⟨p,d,rfl,i,q⟩:=h;obtain⟨u,rfl,z⟩:=aAw r;cases z
 have fin:∀(a:List gA),aAc d a->d.length<=sizeLine->∀(c:nB) (f:Nat),(∀b y,s.heap.get? b=aA y->c.get? b=aA y) ->
   c.get? s.heap.objs.size=aA { cls:=.type "list",dict:=eA,data:=.seq a.toArray f,slots:=#[] }->EP X cA Y Q (.ref s.heap.objs.size) { s with heap:=c }:=λa g j c f kp e =>
  ⟨.ref s.heap.objs.size,_,I.laid (t':=s.toks) kp (kB _) (show lD X.prog X.w _ c _ (.l d) from⟨j,a,f,g,e⟩),rfl,q _ (I.SA.fresh (kB _))⟩
 rcases i with i | i
 ·obtain⟨a,g,m,j⟩:=I.list i;have k:=g.length;obtain⟨o,t,v,n,hd⟩:=m.isList;exact call_list_seq p (.inl rfl) t v hd (λc f kp e=>fin a g j c f kp e) (by simp only[EC]<;>lia)
 ·obtain⟨a,g,m,j⟩:=I.tuple i;have k:=g.length;obtain⟨o,t,v,n,hd⟩:=m;exact call_list_seq p (.inr rfl) t v hd (λc f kp e=>fin a g j c f kp e) (by simp only[EC]<;>lia)
def y6:fE X (.type "tuple") (λj H Q=>∃p c,j=[.ref p]/\((zB X.K H p c/\∀l,H l=eA->Q (.ref l) (EA H l (.t c)))\/(BC X.K H p c/\Q (.ref p) H))):=by
 intro cA s Y H j x Q I r h;obtain⟨p,c,rfl,h⟩:=h;obtain⟨u,rfl,t⟩:=aAw r;cases t;rcases h with ⟨f,q⟩ | ⟨f,q⟩
 ·obtain⟨a,g,i,k⟩:=I.list f;have m:=g.length;refine call_tuple_list i.isList (λd kp=>?_) (by simp only[EC]<;>lia);have n:iA X cA Y H { s with heap:=d }:=I.kept (t':=s.toks) kp
  have v:iA X cA Y (EA H d.objs.size (.t c)) { s with heap:=d.push { cls:=.type "tuple",data:=.seq a.toArray } } :=
   n.laid (t':=s.toks) (λb o e=>jC _ e) (kB _) (show lD X.prog X.w _ _ _ (.t c) from⟨k,a,g,X4 _ _⟩)
  exact⟨.ref d.objs.size,_,v,rfl,q _ (n.SA.fresh (kB _))⟩
 ·obtain⟨a,g,i,k⟩:=I.tuple f;exact call_tuple_same i ⟨.ref p,H,I,rfl,q⟩
def P1(K:kA)(T:String)(x:V)(H:Hp):Prop:=match x with
 |.str _=>T="str"
 |.int _=>T="int"
 |.ref p=>(T="list"/\∃b,zB K H p b)\/(T="tuple"/\∃o,K.lookup p=aA o/\o.cls=.type "tuple"/\o.dict=eA) \/
   (T="dict"/\∃a,H p=aA (.dK a))\/(T="set"/\∃S n,H p=aA (.set S n))
 |_=>False
def Gf(I:iA X cA Y H s)(r:aAe x v)(ty:P1 X.K T x H) :
  s.TypeIs v T/\∀a,v=.ref a->∃b,s.heap.get? a=aA b/\b.dict=eA:=by
 cases x with
 |str z =>
  obtain⟨t,rfl⟩:=r;cases (show T="str" from ty);exact⟨typeIs_str s z t,λ_ e=>nomatch e⟩
 |int i =>
  obtain⟨t,rfl⟩:=r;cases (show T="int" from ty);exact⟨V4 s i t,λ_ e=>nomatch e⟩
 |ref p =>
  cases r;rcases ty with ⟨rfl,k,f⟩ | ⟨rfl,o,hk,g,hd⟩ | ⟨rfl,hk⟩ | ⟨rfl,S,n,hk⟩
  ·obtain⟨h,_,d,_⟩:=I.list f;refine⟨d.isList.typeIs,λa e=>?_⟩;cases e;obtain⟨o,n,e,c,hd,_⟩:=d;exact⟨o,e,hd⟩
  ·refine⟨⟨o,I.fD p o hk,g⟩,λa e=>?_⟩;cases e;exact⟨o,I.fD _ o hk,hd⟩
  ·have z:∃o,s.heap.get? p=aA o/\o.ExactDict:=by
    obtain⟨j,hk⟩:=hk;obtain⟨_,_,_,_,o,_,_,e,ex,_⟩:=I.SA p _ hk;exact⟨o,e,ex⟩
   obtain⟨o,e,ex⟩:=z;refine⟨⟨o,e,ex.1⟩,λa e2=>?_⟩;cases e2;exact⟨o,e,ex.2.1⟩
  ·obtain⟨o,_,_,_,e,ex,_⟩:=I.SA p _ hk;refine⟨⟨o,e,ex.1⟩,λa e2=>?_⟩;cases e2;exact⟨o,e,ex.2.1⟩
 |_=>exact OF ty
def cJa(K:kA)(T:String)(r:V->List V->Hp->VK->Prop)(to:TE):TE:=λY H Q=>to Y H λx a=>P1 K T x a/\r x [] a Q
def tBM(K:kA)(T:String)(r:V->List V->Hp->VK->Prop)(to:TE)(t:TA):TE:=λY H Q=>to Y H λx a=>P1 K T x a/\t Y a λb c=>r x b c Q
variable{T id:String}
def vb(pa:PlainAttrs T)(slot:Slot T name id)(c:typeOf (.builtin id)=pure (.type "method_descriptor"))(f:TV X id r)(g:PE X o to)
  (a:attributeBase o name X.env (eval o X.env)=eval o X.env:=by rfl) (b:(hB.endLine==FJ.line)=bA:=by rfl):PE X (.Call (.Attribute o name hB) [] [] FJ) (cJa X.K T r to):=by
 intro cA s Y H Q I h;refine wpAny_Call_method0_late a b (UA (g cA s Y H _ I h) λv i j=>?_);obtain⟨x,k,d,e,ty,l⟩:=j;obtain⟨m,n⟩:=Gf d e ty;exact⟨T,id,pa,slot,c,m,n,Calls.callWith_builtin rfl (PySem.evalArgs_none (f cA i Y k x [] v [] Q d e .nil l))⟩
def ub(pa:PlainAttrs T)(slot:Slot T name id)(i:typeOf (.builtin id)=pure (.type "method_descriptor"))(n:TV X id r)(p:PE X o to)(q:PA X (e::c) t)
  (d:attributeBase o name X.env (eval o X.env)=eval o X.env:=by rfl)
  (g:((mE FJ (QB (e::c) X.env)).all (λx=>!x.1)&&(backToKw FJ (keywordEach [] X.env)).all (λx=>x.1.isSome)
   && decide ((e::c).length+([]:List DV).length+(if([]:List DV).isEmpty then 0 else 1)<30))=bA:=by rfl)
  (f:(hB.endLine==FJ.line)=bA:=by rfl) (u:QB (e::c) X.env=(dA,eval e X.env)::QB c X.env:=by rfl) (b:(mE FJ (QB c X.env)).any (·.1)=dA:=by rfl) :
  PE X (.Call (.Attribute o name hB) (e::c) [] FJ) (tBM X.K T r to t):=by
 intro cA s Y H Q I h;refine wpAny_Call_method_late d g f rfl (UA (p cA s Y H _ I h) λv w j=>?_);obtain⟨x,y,k,l,ty,z⟩:=j;obtain⟨A,B⟩:=Gf k l ty;refine⟨T,id,pa,slot,i,A,B, ?_⟩;have m:=q FJ cA w Y y _ k z;rw[u] at m ⊢;refine Calls.callWith_builtin (by show(dA||(mE FJ (QB c X.env)).any (·.1))=dA;rw[b]<;>rfl) (Calls.evalArgs_plain ?_);exact UA m λC F j=>(by obtain⟨J,M,N,O,P⟩:=j;exact n cA F Y M x J v C Q N l O P)
end
def PR(X:Cx)(id:String)(r:V->List V->Hp->VK->Prop):Prop :=
 ∀(cA:List (jA×qB)) (s:zA) (Y:St) (H:Hp) (x:V) (a:List V) (v:gA) (b:List gA) (Q:VK),iA X cA Y H s->aAe x v->aAc a b->r x a H Q ->
  tA (model X.prog X.w) X.A (call (.builtin id) (v::b)) (EP X cA Y Q) X.xe s
def aAc.one{x:V}{j:List gA}(h:aAc [x] j):∃u,j=[u]/\aAe x u:=by
 cases h with | cons r t=>cases t;exact⟨_,rfl,r⟩
def aAc.two{x y:V}{j:List gA}(h:aAc [x,y] j):∃u v,j=[u,v]/\aAe x u/\aAe y v:=by
 cases h with | cons r t=>obtain⟨_,rfl,q⟩:=aAc.one t;exact⟨_,_,rfl,r,q⟩
theorem aAc.zero:∀{j:List gA},aAc [] j->j=[]
 |_,.nil=>rfl
theorem aAc.dropLast(h:aAc xs j):aAc xs.dropLast j.dropLast:=by
 induction h with
 |nil=>exact .nil
 |cons r t m =>
  cases t with
  |nil=>exact .nil
  |cons q x=>exact .cons r m
theorem aAc.rep(h:aAc xs j):∀k:Nat,aAc (AB k xs).flatten (AB k j).flatten
 | 0=>.nil
 |k+1=>by(rw[wL,wL,RM,RM];exact aAc.append h (aAc.rep h k))
def Rp(l:List O):l.eraseIdx (l.length-1)=l.dropLast:=by
 induction l with
 |nil=>rfl
 |cons a r c =>
  cases r with
  |nil=>rfl
  |cons b r =>
   have e:(a::b::r).length-1=((b::r).length-1)+1:=by
    have d:(a::b::r).length=r.length+2:=rfl;have f:(b::r).length=r.length+1:=rfl
    lia
   rw[e,List.eraseIdx_cons_succ,c]
   all_goals rfl
theorem aAL(a:List gA):∀(k:Nat) (b:List gA),
  JR (λc d=>c++d) b.toArray (AB k a.toArray)=(b++(AB k a).flatten).toArray
 | 0,b=>by simp
 |k+1,b=>by
  have e:b.toArray++a.toArray=(b++a).toArray:=by simp
  have e2:(b++a)++(AB k a).flatten=b++(AB (k+1) a).flatten:=by(rw[wL,RM,rG])
  rw[<- e2,<- aAL a k (b++a),<- e,wL,VM]
section
variable{X:Cx}{cA:List (jA×qB)}{Y:St}{H:Hp}{s:zA}{l b:jA}{xs ys zs:List V}
def iA.pT{j its':List gA}(I:iA X cA Y H s)(m:H l=aA (.l xs))
  (e:s.heap.get? l=aA { cls:=.type "list",data:=.seq j.toArray n }) (r:f j.toArray=its'.toArray) (y:aAc ys its') (B:ys.length<=sizeLine) :
  iA X cA Y (EA H l (.l ys)) { s with heap:=s.heap.update l (pJ f),toks:=t' }:=by
 have q:=PySem.IsL.update e f;rw[r] at q;refine I.write (x:=l) (e:=l) (by rw[m];exact trivial) (.inl rfl) (λF u C hu=>(yO s.heap (pJ f) (sD C)).trans hu) ⟨_,q⟩ ?_;exact⟨B,its',_,y,q⟩
def iA.jZ(I:iA X cA Y H s)(j:aAc ys zF)(m:ys.length<=sizeLine) :
  iA X cA Y (EA H s.heap.objs.size (.l ys)) { s with heap:=s.heap.push { cls:=.type "list",data:=.seq zF.toArray },toks:=t' } :=
 I.laid (λ_ _ q=>jC _ q) (kB _) ⟨m,zF,0,j,QD _ rfl⟩
theorem iA.fresh(I:iA X cA Y H s):H s.heap.objs.size=eA:=I.SA.fresh (kB _)
def iA.TN(I:iA X cA Y H s)(m:H l=aA (.l xs)):xs.length<=sizeLine/\∃(j:List gA) (n:Nat),aAc xs j/\xs.length=j.length/\s.heap.get? l=aA { cls:=.type "list",data:=.seq j.toArray n }:=by
 obtain⟨z,j,n,r,e⟩:=I.SA l _ m;exact⟨z,j,n,r,r.length,e⟩
def Ia(h:n<=sizeLine):DU n=dA:=by
 unfold DU;exact cB (by lia)
end
section
variable{X:Cx}
def xEa:V->List V->Hp->VK->Prop:=λx b H Q=>∃l a y,x=.ref l/\b=[y]/\H l=aA (.l a)/\a.length<sizeLine/\Q .lA (EA H l (.l (a++[y])))
def Ea:PR X "list.append" xEa:=by
 intro cA s Y H x g v i Q I c d h;obtain⟨l,j,y,rfl,rfl,b,k,q⟩:=h;cases c;obtain⟨u,rfl,f⟩:=d.one;obtain⟨z,a,n,r,m,e⟩:=I.TN b;refine aP Xg ⟨_,e,rfl⟩ F.entry_list_append (F.args_list_append_2 _ _) (PySem.list_append l a.toArray n u (by rw[EC];lia)) ⟨e, ?_⟩;refine⟨.lA,_,I.pT (its':=a++[u]) b e (by simp) (r.append (.cons f .nil)) ?_,rfl,q⟩;rw[NC,HU]
 lia
def cFa:V->List V->Hp->VK->Prop:=λx d H Q=>∃l b a c,x=.ref l/\d=[.ref b]/\H l=aA (.l a)/\H b=aA (.l c)/\a.length+c.length<=sizeLine/\Q .lA (EA H l (.l (a++c)))
def az:PR X "list.extend" cFa:=by
 intro cA s Y H x w v y Q I i j h;obtain⟨l,b,A,B,rfl,rfl,g,k,C,q⟩:=h;cases i;obtain⟨u,rfl,m⟩:=j.one;cases m;obtain⟨z,c,n,r,J,e⟩:=I.TN g;obtain⟨K,a,o,p,t,e2⟩:=I.TN k;have f:c.toArray.size+a.toArray.size<=sizeLine:=by rw[EC,EC];lia
 have d:¬(!c.toArray.isEmpty&&DU (c.toArray.size+a.toArray.size))=bA:=by(rw[Ia f,iV];exact CD)
 refine aP Yg ⟨_,e,rfl⟩ F.entry_list_extend (F.args_list_extend_2 _ _)
  (AutoSeq1.list_extend_list_list_0 l c.toArray n b a.toArray o d (by rw[EC];lia) (by lia)) ⟨e,e2, ?_⟩
 refine⟨.lA,_,I.pT (its':=c++a) g e (by simp) (r.append p) ?_,rfl,q⟩;rw[NC]
 lia
def fFa:V->List V->Hp->VK->Prop:=λx b H Q=>∃l a y,x=.ref l/\b=[]/\H l=aA (.l a)/\a[a.length-1]?=aA y/\Q y (EA H l (.l a.dropLast))
def bz:PR X "list.pop" fFa:=by
 intro cA s Y H x m v o Q I f g h;obtain⟨l,p,y,rfl,rfl,d,i,q⟩:=h;cases f;have b:=g.zero;subst b;obtain⟨z,a,n,r,j,e⟩:=I.TN d;obtain⟨u,hu,k⟩:=r.get i
 have c:a.toArray[a.toArray.size-1]?=aA u:=by(show a.toArray[a.length-1]?=aA u;rw[<- LG,<- j];exact hu)
 refine aP Gh ⟨_,e,rfl⟩ F.entry_list_pop (F.args_list_pop_1 _) (MeetsSeq.list_pop_last l a.toArray n u c (by rw[EC];lia)) ⟨e, ?_⟩;refine⟨y,_,I.pT (its':=a.dropLast) d e ?_ r.dropLast ?_,k,q⟩
 ·show a.toArray.eraseIdxIfInBounds (a.toArray.size-1)=a.dropLast.toArray;rw[EC,List.eraseIdxIfInBounds_toArray,Rp]
 ·rw[List.length_dropLast]
  lia
def gFa:R2:=λx y H Q=>∃l k a,x=.ref l/\y=.int k/\H l=aA (.l a)/\-(2 ^ 63)<=k/\k<2 ^ 63/\a.length*k.toNat<=sizeLine /\
 ∀p,H p=eA->Q (.ref p) (EA H p (.l (AB k.toNat a).flatten))
def aAW(a:List O)(k:Nat):(AB k a).flatten.length=k*a.length:=by
 induction k with
 |zero=>simp
 |succ k b=>rw[wL,RM,NC,b,Nat.succ_mul,Nat.add_comm]
def W':rC X (yE .Mult) gFa:=by
 intro cA s Y H x y v u Q I w A h;obtain⟨l,k,O,rfl,rfl,B,C,J,p,q⟩:=h;cases w;obtain⟨t,rfl⟩:=A;obtain⟨z,b,n,r,K,e⟩:=I.TN B;have d:b.toArray.size*k.toNat<=sizeLine:=by rw[EC,<- K];exact p
 have f:¬b.toArray.size*k.toNat > (2 ^ 63-1) / 8:=by
  have:(sizeLine:Nat)<=(2 ^ 63-1) / 8:=by decide
  lia
 have g:¬(!Builtin.List.listFitsIndex k)=bA:=by(rw[fitsIndex_both C J];exact CD)
 have c:¬DU (b.toArray.size*k.toNat)=bA:=by(rw[Ia d];exact CD)
 have i:JR (λj o=>j++o) #[] (AB (if b.toArray.isEmpty=bA then 0 else k.toNat) b.toArray)=(AB k.toNat b).flatten.toArray:=by
  have M:∀m:Nat,JR (λj o=>j++o) #[] (AB m b.toArray)=(AB m b).flatten.toArray:=λm=>by
   have:=aAL b m []
   rw[ni] at this;exact this
  rw[M]
  cases b with
  |nil=>simp
  |cons a P=>rw[JA (by simp)]
 refine wpAny_binaryOp_repeat_ref (T:="list") (U:="int") (by decide) ⟨_,e,rfl⟩ (λN=>V4 N k t) noFill_list_mul F.fills_int_mul oi repeat_list F.slot_int_index.lookup
  (aP oi (V4 s k t) F.entry_int_rmul (F.args_int_rmul_2 _ _) (int___rmul___int_list k t l b.toArray n)
   ⟨e,rfl,⟨_,e,rfl⟩,aP F.slot_list_mul ⟨_,e,rfl⟩ F.entry_list_mul (F.args_list_mul_2 _ _) (AutoListH.list___mul___list_int_3 l b.toArray n k t g f c) ⟨e, ?_⟩⟩)
 rw[i];exact⟨.ref _,_,I.jZ (t':=s.toks) (r.rep k.toNat) (by rw[aAW,Nat.mul_comm];exact p),rfl,q _ I.fresh⟩
end
end L2
namespace Att
open PySem PySem.W PySem.Calls PyProof.Rows
def Eu:∀(c:List Int) (d:List gA),WellAll P h d (c.map WData.int)->IntsAre d c:=by
 intro c
 induction c with
 |nil =>
  intro d w;rw[cN] at w;cases w;exact .nil
 |cons n c e =>
  intro d w;rw[MB] at w
  cases w with
  |cons a b =>
   cases a;exact .cons _ _ (e _ b)
def gHa{l:HR}(s:l.most=aA n)
  (c:l.row.toRowW.claim.pre args=bA) (k:WellAll P h e args) :
  ∃a o b,e=[Value.ref a]/\args=[WData.list (b.map WData.int)]/\h.get? a=aA { cls:=.type "list",data:=.seq o.toArray }/\IntsAre o b/\b.length<=n:=by
 have m:WShape.hasAll [] args [.list .int]=bA:=(pre_splitW c).1;have p:l.pre.holds [] { args:=args }=bA:=(pre_splitW c).2;obtain⟨d,r,rfl,t,u⟩:=hasAllW_cons m;obtain rfl:=hasAllW_nil u;obtain⟨A,rfl,v⟩:=hasW_list t;obtain⟨b,rfl⟩:=items_int v
 have f:b.length<=n:=by
  unfold OpenLaw.pre at p
  have i:(WTm.not (.lt (.lit (.int (n:Int))) (.len (.arg 0)))).holds [] { args:=[.list (b.map .int)] }=bA:=by(have i:=(holds_andW p).1;rw[s] at i;exact i)
  have j:=condW_of i (w_not (w_lt w_lit (w_len_list (w_arg rfl))));rw[vA] at j;refine R3 λq=>?_
  have w:(n:Int)<((b.length:Nat):Int):=by omega
  first
   | (rw[vB w] at j;exact absurd j (by decide))
   | (simp at j;omega)
 cases k with
 |cons x y =>
  cases y
  cases x with
  |list z g=>exact⟨_,_,b,rfl,rfl,z,Eu b _ g,f⟩
def uCa(l:HR)(args:List WData):l.row.toRowW.claim.post args (.bool bA) args=bA :=
 postW_of (r:=l.row.toRowW) (X:=(bA==bA))
  (show Ti [] (.bool bA) .bool=bA by first | rfl | decide | simp[Ti,WShape.arms,WShape.armsAll])
  (show(WTm.eq .res (.lit (.bool bA))).value [] { args:=args,res:=aA (.bool bA),after:=args }=aA (.bool (bA==bA)) from w_eq_bool (w_res rfl) w_lit) rfl
def Yk{l:HR}
  (F:l.most=aA n) (u:d.params.defaults=[])
  (call:∀(w:PB) (s₀ b:zA) (mg v:fA->Option gA) (i:jA) (o:qB) (pm p c:gA) (a:jA) (h:List gA) (s:List Int),
   Ground q e [] H w s₀ mg v b.heap->I w b.heap ->
   b.heap.get? i=aA o->o.data=.func (docDef d.name d.params d.body d.scope pm p c)->b.heap.CodeRec p d.name->mg d.name=aA (.ref i) ->
   b.heap.get? a=aA { cls:=.type "list",data:=.seq h.toArray }->IntsAre h s->s.length<=n->b.gens=#[] ->
   oI (model l.prog w) callerA (.call (.ref i) ⟨[.ref a],[]⟩) (λr t=>r=.ok (.ret (.bool bA))/\OldK b.heap t.heap/\t.os=b.os/\sJ t.gens) b) :
  R4 q e H I l.row.toRowW d [] (λf h=>W4 f h):=by
 intro w s₀ b mg v G Y i o pm p c J kV K hd x A y M args B as j C N z O;obtain rfl:J=.none:=Dflts.none A u;obtain rfl:kV=.none:=Dflts.noKw A;obtain⟨a,h,s,rfl,rfl,k,g,m⟩:=gHa F j z;refine enter_call (bN (call w s₀ b mg v i o pm p c a h s G Y K (fd_plain hd) x y k g m M) λr t P=>?_);obtain⟨rfl,Q,R,U⟩:=P;exact⟨.inl ⟨.bool bA,.bool bA,[],rfl,λ_=>rfl,.bool bA,uCa l _,λ_=>⟨List.Pairwise.nil,λ_ X=>(nomatch X)⟩⟩,Q,R,U⟩
end Att
namespace L2
open PySem PySem.Spec PyProof.Rows
def bLa(h:IntsAre a b):aAc (b.map V.int) a:=by
 induction h with
 |nil=>exact .nil
 |cons n t h c=>exact .cons ⟨t,rfl⟩ c
def aW(H:Hp):Prop:=∀b,H b=eA\/∃o a,H b=aA (.IE o (.l a))
def Jx{K:kA}
  (KX:K.In c.heap) (l:c.heap.Ns eB mg) (f:c.heap.Ns builtinsNs Y) (O:∀x:fA,x≠"__name__"->Y x=nJ x) (p:c.heap.NoLimit) (hg:c.gens=#[])
  (N:c.heap.get? a=aA { cls:=.type "list",data:=.seq vs.toArray }) (Z:IntsAre vs ns) (hl:ns.length<=sizeLine) (hr:eC k callerA)
  (F:∀base:nB,K.In base->base.Ns eB mg->VD P w K mg base CX k fa fd [x] sp) (j:∀(s:zA) (u:gA),BV s fd ⟨[u],[]⟩ [(x,u)])
  (Q:∀H:Hp,aW H->zB K H a (ns.map V.int)->sp [.ref a] H (λv _=>v=.bl bA) λ_ _ _=>False)
  (R:∀H e g,CX [] H c (λ_ _ _=>False) e g->False) :
  oI (model P w) callerA (.call (.ref fa) ⟨[.ref a],[]⟩) (λr g=>r=.ok (.ret (.bool bA))/\OldK c.heap g.heap/\g.os=c.os/\sJ g.gens) c:=by
 have rv:=bLa Z;have t:=Z.length
 -- from an abstract heap in fOa nothing but lE script may be tracked
 have core:∀H:Hp,aW H->zB K H a (ns.map V.int)->dD P w H c.heap->(∀b,H b≠eA->b=a)->(H a≠eA->K.lookup a=eA) ->
   oI (model P w) callerA (.call (.ref fa) ⟨[.ref a],[]⟩) (λr g=>r=.ok (.ret (.bool bA))/\OldK c.heap g.heap/\g.os=c.os/\sJ g.gens) c:=by
  intro H hO hS y hA hK;have base_of:∀{b:jA} {o:qB},c.heap.get? b=aA o->H b=eA->(MJ c.heap H).get? b=aA o:=λe n=>Rt e n
  have U:∀{b:jA} {o:qB} {A:Array DictEntry} {B:Nat},c.heap.get? b=aA o->o.data=.dict A B->H b=eA:=λ{b o A B} e d=>by
   cases q:H b with
   |none=>rfl
   |some u =>
    have X:b=a:=hA b (by rw[q];simp);subst X;rw[N] at e;cases e;have d':Data.seq vs.toArray _=Data.dict A B:=d;cases d'
  have i:∀{b:jA} {m:fA->Option gA},c.heap.Ns b m->(MJ c.heap H).Ns b m:=λ{b m} ⟨o,A,B,e,d,r⟩=>⟨o,A,B,base_of e (U e d),d,r⟩
  have C:K.In (MJ c.heap H):=λb o e=>base_of (KX b o e) (by
   cases q:H b with
   |none=>rfl
   |some u =>
    have X:b=a:=hA b (by rw[q];simp);subst X
    rw[hK (by rw[q];simp)] at e;cases e)
  have hM:Mod K mg (MJ c.heap H):=⟨C,i l,⟨Y,i f,O⟩,let ⟨mc,h1,h2⟩:=p;⟨mc,i h1,h2⟩⟩
  have e0:PL P w K mg (MJ c.heap H) callerA [] c H:=⟨rfl,hM,λb o e=>b_ e,NF (Tt _ _),trivial,λb f=>absurd (show b∈([]:List jA) from f) (by simp),y,.of_eq hg⟩
  refine bN ((F _ C (i l)).run callerA [] c H ⟨[.ref a],[]⟩ [.ref a] [.ref a] _ _ hr e0 (j c (.ref a)) (.cons rfl .nil) (Q H hO hS)) λr g h=>?_
  cases r with
  |error e=>exact(R H e g h).elim
  |ok fl =>
   cases fl with
   |next=>exact OF h
   |brk=>exact OF h
   |cont=>exact OF h
   |ret u =>
    obtain⟨v,H',os,I,un,J,r',q⟩:=h;have q':v=.bl bA:=q;subst q';obtain rfl:u=Value.bool bA:=r';refine⟨rfl,OldK.of_keep λb o e=>?_,os,I⟩
    cases q:H b with
    |none=>exact un.keep b o e q (by intro z;exact absurd (show b∈([]:List jA) from z) (by simp)) (by simp)
    |some u =>
     rcases hO b with z | ⟨ob,xs,z⟩
     ·rw[q] at z;cases z
     ·have z2:=un.VH b ob _ z;obtain⟨e1,_⟩:=y b _ z;obtain⟨e2,_⟩:=J b _ z2;rw[e] at e1;cases e1;exact e2
 cases hk:K.lookup a with
 |some o =>
  -- lE script is one of lE Ny own objects
  have e:=KX a o hk;rw[N] at e;cases e;refine core (λ_=>eA) (λ_=>.inl rfl) (.inr ⟨_,vs.toArray,_,hk,rfl,rfl,rfl,by rw[EC,t];exact hl,by simpa using rv⟩) (λb u z=>by have M:(eA:Option HO)=aA u:=z;cases M) (λb z=>absurd rfl z) λz=>absurd rfl z
 |none =>
  refine core (λb=>if b=a then aA (.IE { cls:=.type "list",data:=.seq vs.toArray } (.l (ns.map V.int))) else eA) (λb=>?_) (.inl (.inr ⟨{ cls:=.type "list",data:=.seq vs.toArray },MA rfl⟩)) (λb u z=>?_) (λb z=>?_) λ_=>hk
  ·by_cases f:b=a
   ·exact .inr ⟨_,_,MA f⟩
   ·exact .inl (JA f)
  ·by_cases f:b=a
   ·have M:=(MA f).symm.trans z;cases M;subst f;exact⟨N,by rw[vA];exact hl,vs,_,rv,N⟩
   ·have M:=(JA f).symm.trans z;cases M
  ·by_cases f:b=a
   ·exact f
   ·exact absurd (JA f) z
abbrev IB{K:kA}{h:nB}(_:K.In h):kA:=K
def dLa{l:HR}{K:mI->kA}{CX:PB->DK}{sp:PB->Sp}{x:fA}
  (M:l.most=aA n) (r:n<=sizeLine) (t:d.params.defaults=[]) (N:eC k callerA)
  (O:∀(w:PB) (h:nB),P w h->(K w.params).In h)
  (F:∀(w:PB) (mg:fA->Option gA) (m:jA) (h:nB),(K w.params).In h->h.Ns eB mg->mg d.name=aA (.ref m) ->
   ∃y:qG,(∀(s:zA) (u:gA),BV s y ⟨[u],[]⟩ [(x,u)]) /\
    ∀base:nB,(K w.params).In base->base.Ns eB mg->VD l.prog w (K w.params) mg base (CX w) k m y [x] (sp w))
  (z:∀(w:PB) (H:Hp) (a:jA) (p:List Int),p.length<=n->aW H->zB (K w.params) H a (p.map V.int)->sp w [.ref a] H (λv _=>v=.bl bA) λ_ _ _=>False)
  (A:∀(w:PB) (H:Hp) (s:zA) (e:gA) (B:zA),CX w [] H s (λ_ _ _=>False) e B->False) :
  R4 q C XP P l.row.toRowW d [] (λf J=>W4 f J):=by
 refine Att.Yk M t λw s₀ Q mg mb m o pm cd R a J p G Y ho hd U I j i c X=>?_
 have KX:=O w _ Y;obtain⟨y,Z,hF⟩:=F w mg m _ KX G.T.g I;exact Jx KX G.T.g G.T.b G.T.builtins G.T.nolimit X j i (TB c r) N hF Z (λH hO hS=>z w H a p c hO hS) λH e B=>A w H Q e B
noncomputable def WG(s:QA):Arguments:=match s with
 |.FunctionDef _ a _ _ _ _ _ _ _ _=>a
 |_=>{ posonlyargs:=[],args:=[],vararg:=eA,kwonlyargs:=[],kw_defaults:=[],kwarg:=eA,defaults:=[] }
noncomputable def GD(s:QA):List QA:=match s with
 |.FunctionDef _ _ b _ _ _ _ _ _ _=>b
 |_=>[]
noncomputable def RB(s:QA):kF:=match s with
 |.FunctionDef _ _ _ _ _ _ a _ _ _=>a
 |_=>{ kind:=.function,names:=[],isGenerator:=dA,isCoroutine:=dA }
abbrev uG:DK:=λ_ _ _ _ _ _=>False
abbrev E0:XK:=λ_ _ _=>False
def NT:aAC uG X E0:=λ_ _ _ _ _ _ _ h=>h.elim
structure xJ(K:kA)(x pD:fA)(st:QA)(f:jA)(fd:qG):Prop where
 ex:∃(oc:gA) (od:Option jA) (kV doc pm:gA) (an:Option jA) (vH ct:gA) (iL:Array (Option gA)),
  fd=JG x pD (WG st) (GD st) (RB st) .none kV doc pm an vH ct/\K.lookup f=aA ⟨oc,od,.func fd,iL⟩/\XM K vH pD=bA
 kp:tG K (.ref f)=bA
section
variable{P:GC}{w:PB}{K:kA}{mg:fA->Option gA}{base:nB}
def xJ.ok{st:QA}(F:xJ K x m st f M)(S:GK N I (RB st))(len:∀r H Q E,J r H Q E->r.length=I.length)
  (y:∀(j:gA) (A:AD) (outer:List Env) (s:zA) (H:Hp) (r:List V) (Q:VK) (E:XK),eC k (A.deeper (envOfC m (RB st) s.heap.objs.size f j))->J r H Q E ->
   ∃t,dC (cG uG P w K mg base N m (RB st) f j A outer s H E).XN (GD st) t/\t { nx:=λ_ O=>Q .lA O,rt:=Q } (start N r) H):VD P w K mg base uG (k+1) f M I J:=by
 obtain⟨oc,od,kV,R,pm,an,j,ct,U,rfl,X,B⟩:=F.ex;refine p7 X B S len λA outer s H r Q E Y C=>?_
 obtain⟨t,h,q⟩:=y j A outer s H r Q E Y C;exact⟨t,h.XN,q⟩
def xJ.binds{st:QA}(F:xJ K x r st f C)
  (h:∀(kV j pm:gA) (an:Option jA) (m ct:gA) (y:List gA),y.length=B.length->bindArgs (JG x r (WG st) (GD st) (RB st) .none kV j pm an m ct) ⟨y,[]⟩=pure (B.zip y)):aAu K C B []:=by
 obtain⟨oc,od,kV,j,pm,an,m,ct,H,rfl,J,I⟩:=F.ex;exact .all (h kV j pm an m ct)
def GS{st:QA}{kV d pm b ct:gA}(l:K.lookup f=aA ⟨oc,od,.func (JG x a (WG st) (GD st) (RB st) .none kV d pm g b ct),e⟩)
  (c:XM K b a=bA) (k:tG K (.ref f)=bA):xJ K x a st f (JG x a (WG st) (GD st) (RB st) .none kV d pm g b ct):=⟨⟨oc,od,kV,d,pm,g,b,ct,e,rfl,l,c⟩,k⟩
end
def PN{A B:Prop}(h:B):if dA=bA then A else B:=by
 rw[JA CD];exact h
def sM{A B:Prop}(h:A):if bA=bA then A else B:=by
 rw[MA rfl];exact h
def aB(H a:Hp):Prop:=∀b o,H b=aA o->a b=aA o
def aB.refl(H:Hp):aB H H:=λ_ _ h=>h
def aB.trans(a:aB H j)(b:aB j m):aB H m:=λc o h=>b c o (a c o h)
def aB.free(e:aB H j)(h:j l=Option.none):H l=Option.none:=by
 cases q:H l with
 |none=>rfl
 |some o =>
  rw[e l o q] at h;cases h
def aB.seq{K:kA}(e:aB H j)(h:zB K H a xs):zB K j a xs:=by
 rcases h with (h | ⟨o,h⟩) | h
 ·exact .inl (.inl (e _ _ h))
 ·exact .inl (.inr ⟨o,e _ _ h⟩)
 ·exact .inr h
end L2
set_option maxHeartbeats 4000000
namespace L2
open PySem PySem.Spec PyProof.Rows
section
variable{N:Type}[DecidableEq N]
noncomputable def Hf(a:List (N×V))(k:N):Option V:=(a.find? λb=>decide (b.1=k)).map (·.2)
end
def Z4(H:Hp)(a:jA)(y:V)(r:Option V):Prop :=
 (∃b k,Rd H a (.dK b)/\y=kV k/\r=Hf b k)\/False
theorem Z4.k{H:Hp}{a:jA}{j:List (Key×V)}{k:Key}(e:H a=aA (.dK j)):Z4 H a (kV k) (Hf j k):=.inl ⟨j,k,.inl e,rfl,rfl⟩
section
variable{X:Cx}{cA:List (jA×qB)}{Y:St}{H:Hp}{s:zA}{a:jA}{y v:V}{u r:gA}{o:Option V}{A:AD}{E:gA->zA->Prop}
def iA.big(I:iA X cA Y H s):sysModules<s.heap.objs.size:=by
 have h:eB<s.heap.objs.size:=(I.mod.glob.keeps I.bk).lt;exact vK (by decide) h
def U6{c:nB}{f:Nat}{d:HO}(I:iA X cA Y H s)(g:lP (H a))(h:jH a s.heap c)(i:∃q,c.get? a=aA q)(new:lD X.prog X.w (EA H a d) c a d) :
  iA X cA Y (EA H a d) { s with heap:=c,toks:=f } :=
 I.write (x:=a) (e:=a) g (.inl rfl) (λb q j z=>(h.2 b j).trans z) i new
end
abbrev XA:=Int×List Int
section
variable{h:nB}
def OC(P:GC)(w:PB)(h:nB)(k:XA)(a:jA):Prop:=∃(t:Tok) (b:jA),KG h a #[.int k.1 t,.ref b]/\IsTupleKey (intKind P w) h k.2 b
noncomputable def mY(P:GC)(w:PB)(k:XA):Int:=reduceHash (D2 [hashInt k.1,tupleKeyHash (intKind P w) k.2])
theorem OC.inj(hx:OC P w h x a)(r:OC P w h y a):x=y:=by
 obtain⟨t,b,⟨o,e,_,n,d⟩,B⟩:=hx;obtain⟨C,F,⟨J,j,_,M,m⟩,ky⟩:=r;rw[e] at j;cases j;rw[d] at m;have z:=(Oi m).1;have H:Value.int x.1 t=Value.int y.1 C:=congrArg (λ(q:Array gA)=>q.getD 0 .none) z;have I:Value.ref b=Value.ref F:=congrArg (λ(q:Array gA)=>q.getD 1 .none) z;cases I;exact zV (Value.int.inj H).1 ((tupleKind (intKind P w)).inj B ky)
theorem OC.keeps(hk:OC P w h k a)(e:h.get? d=aA o)(j:o.data=.dict B C)(sb:jH d h x):OC P w x k a:=by
 obtain⟨t,b,⟨y,m,c,n,r⟩,kb⟩:=hk
 have ne:a≠d:=λz=>by(subst z;rw[m] at e;cases e;rw[r] at j;cases j)
 exact⟨t,b,⟨y,(sb.2 a ne).trans m,c,n,r⟩,(tupleKind (intKind P w)).keeps kb e j sb⟩
noncomputable def jL(k:XA):PyData:=.tuple [.int k.1,.tuple (k.2.map .int)]
def qv{a:List Int}{b:List gA}(q:jV (intKind P w) a b):∃as,ReadsAll h b (a.map .int) as:=by
 induction q with
 |nil=>exact⟨_,.nil⟩
 |cons hk t c =>
  obtain⟨as,r⟩:=c;obtain⟨tk,rfl⟩:=TU hk;exact⟨_,.cons (.int _ _) r⟩
def OC.reads(hk:OC P w h k a):∃as,Reads h (.ref a) (jL k) as:=by
 obtain⟨t,b,⟨o,e,c,n,d⟩,o2,j,n2,e2,m,x,y⟩:=hk;obtain⟨as,r⟩:=qv y;exact⟨_,.tuple e c d (.cons (.int _ _) (.cons (.tuple e2 m x r) .nil))⟩
def zZ{a:List Int}:JO (a.map .int)=bA:=by
 induction a with
 |nil=>simp[JO]
 |cons n a b=>simp[JO,kJ,b]
def cb{k:XA}:(jL k).canLay0=bA:=by simp[jL,kJ,JO,zZ]
def fb{ns:List Int}:qR (ns.map .int)<=1:=by
 induction ns with
 |nil=>simp[qR]
 |cons n ns a=>simp[qR,JL];omega
def vAa{k:XA}:(jL k).depth<=5:=by
 have:=fb (ns:=k.2)
 simp[jL,JL,qR]
 lia
theorem yZ:∀{a b:List Int},ZM (a.map .int) (b.map .int)=decide (a=b)
 |[],[]=>by simp[ZM]
 |[],_::_=>by simp[ZM]
 |_::_,[]=>by simp[ZM]
 |n::a,m::b=>by(rw[MB,MB,ZM,yZ];simp only[fN,ri,si];congr 1)
def wAa:(jL x).eqv (jL y)=decide (x=y):=by
 obtain⟨a,as⟩:=x;obtain⟨b,bs⟩:=y;simp only[jL,fN,ZM,yZ,m4,ZE,si];congr 1
def d7(d:a=b->c=bA)(r:SeqAt.RcAt A s (.ref a) (.ref b) c)(q:Q c s):tA (model P w) A (eqBool (.ref a) (.ref b)) Q E s:=by
 unfold eqBool;refine DH ?_;by_cases e:a=b
 ·subst e;rw[MA (by simp)];rw[d rfl] at q;exact pA (xV (WA q))
 ·rw[JA (by simpa using e)];exact pA (r P w E _ (nK q))
theorem OC.eqBool(hu:A.units+8<cLine)(hx:OC P w s.heap x a)(j:OC P w s.heap y b)(q:Q (decide (x=y)) s):tA (model P w) A (eqBool (.ref a) (.ref b)) Q E s:=by
 obtain⟨as,m⟩:=hx.reads;obtain⟨bs,r⟩:=j.reads;have B:=vAa (k:=x);refine d7 (λe=>vB (by subst e;exact hx.inj j)) ?_ q;rw[<- wAa];exact S3 m r cb cb (by lia)
theorem OC.pyHash(hu:A.units+8<cLine)(hk:OC P w s.heap k a)(q:Q (mY P w k) { s with toks:=s.toks+(k.2.length+3) }):tA (model P w) A (pyHash (.ref a)) Q E s:=by
 obtain⟨t,b,j,kb⟩:=hk;show tA _ _ (pyHashByItsType (.ref a)) _ _ s;refine W.pyHash_slot j.typeIs F.slot_tuple_hash F.entry_tuple_hash (F.args_tuple_hash_1 _) rfl (.inr (by lia)) ?_;unfold GH.«tuple.__hash__»;show tA _ _ (B2 (.ref a)>>=_) _ _ s;refine pA (l4 j ?_);rw[<- Hh];simp only[rR,Ci,bind_assoc,pure_bind];refine pA (wpAny_pyHash_int ?_);refine pA (wpAny_pyHash_tuple (knd:=intKind P w) (by show A.units+1<cLine;lia) kb ?_);refine pA (N4 (WA ⟨_,_,rfl, ?_⟩));have e:s.toks+1+(k.2.length+1)+1=s.toks+(k.2.length+3):=by lia
 show Q (mY P w k) { s with toks:=s.toks+1+(k.2.length+1)+1 };rw[e];exact q
def nc(i:KG s.heap a b)(l:∀v∈b.toList,∀(R:Bool->zA->Prop),R bA s->tA (model P w) A (eqIsQuiet d v) R E s)(q:Q bA s):tA (model P w) A (eqIsQuiet (d+1) (.ref a)) Q E s:=by
 unfold eqIsQuiet;refine pA (wpAny_specialOf i.typeIs (PyProof.Rows.slot_tuple_eq.lookup) ?_);obtain⟨o,e,c,n,m⟩:=id i;show tA _ _ (isInstance (.ref a) (.type "tuple")>>=_) _ _ s;refine pA (T3 i.typeIs (by with_unfolding_all rfl) ?_);show tA _ _ (seqItems? (.ref a)>>=_) _ _ s;refine pA (wpAny_seqItems e m ?_)
 have key:∀{k:Option Bool×Unit->oF Bool},tA (model P w) A (k (eA,())) Q E s->∀f:List gA,(∀v∈f,v∈b.toList)->tA (model P w) A (forIn f ((eA:Option Bool),()) (λy _=>do
    let v <- eqIsQuiet d y
    if(!v)=bA then pure (ForInStep.done (aA dA,())) else pure (ForInStep.yield (eA,())))>>=k) Q E s:=by
  intro k hk f
  induction f with
  |nil=>intro _;exact pA (WA hk)
  |cons x f g =>
   intro j;have g:=g λv p=>j v (tD _ p)
   simp only[rR,bind_assoc] at g ⊢;refine pA (l x (j x MG) _ ?_);simp only[Bool.not_true,eJ,if_false,pure_bind];exact g
 show tA _ _ (forIn b _ _>>=_) _ _ s;rw[<- Hh];exact key (WA q) b.toList λ_ h=>h
def kc(q:Q bA s):tA (model P w) A (eqIsQuiet d (.int i t)) Q E s:=by
 unfold eqIsQuiet;exact WA q
theorem z8:∀{c:List Int} {b:List gA},jV (intKind P w) c b->∀v∈b,∃i t,v=.int i t
 |_,_,.nil=>λ_ h=>nomatch h
 |_,_,.cons hk r=>λv a=>by
  rcases WC.mp a with rfl | a
  ·obtain⟨t,e⟩:=TU hk;exact⟨_,t,e⟩
  ·exact z8 r v a
def OC.quiet(hk:OC P w s.heap k a)(q:Q bA s):tA (model P w) A (eqIsQuiet (d+2) (.ref a)) Q E s:=by
 obtain⟨t,b,r,o2,x,n2,e2,y,B,C⟩:=hk;refine nc (d:=d+1) r (λv j R m=>?_) q;rcases WC.mp (show v∈[Value.int k.1 t,Value.ref b] from j) with rfl | j
 ·exact kc m
 ·rw[RD.mp j];refine nc ⟨o2,e2,y,n2,B⟩ (λv j R m=>?_) m;obtain⟨i,t,rfl⟩:=z8 C v j;exact kc m
abbrev aC:=XA ⊕ Empty
noncomputable def gk:aC->XA:=Sum.elim id Empty.elim
def L7{x y:aC}(h:gk x=gk y):x=y:=by
 obtain x | x:=x
 ·obtain y | y:=y
  ·exact congrArg Sum.inl h
  ·cases y
 ·cases x
end
def jO(P:GC)(w:PB):HeapKind P w aC where
 is:=λh k a=>OC P w h (gk k) a
 hash:=λk=>mY P w (gk k)
 draws:=λk=>(gk k).2.length+3
 room:=λA=>A.units+10<cLine
 inj:=λb c=>L7 (OC.inj b c)
 keeps:=λhk e f g=>OC.keeps hk e f g
 pyHash:=λhu hk q=>OC.pyHash (by lia) hk q
 eqBool:=λhu b c q=>OC.eqBool (by lia) b c ((QO.mpr ⟨L7,congrArg gk⟩).symm ▸ q)
 quiet:=λhk q=>OC.quiet (d:=6) hk q
end L2
namespace CS
open PySem PyProof.Rows
noncomputable def E7:Bool->LA->Array LA->Nat->Nat->Nat->StateT HB oF (Option Nat):=sortPriv% PySem.Builtin.gallop
noncomputable def Jy:Array LA->Array LA->StateT HB oF (Array LA):=sortPriv% PySem.Builtin.mergeLo
noncomputable def Iy:Array LA->Array LA->StateT HB oF (Array LA):=sortPriv% PySem.Builtin.mergeHi
noncomputable def iHa:Nat->StateT HB oF Unit:=sortPriv% PySem.Builtin.setMinGallop
def AP(P:LA->Prop)(a:Array LA):Prop:=∀x∈a,P x
def AP.ext{a:Array LA}(h:AP P a):AP P (a.extract i j):=λx hx=>by
 obtain⟨k,hk,rfl⟩:=Array.mem_extract_iff_getElem.mp hx;exact h _ (kR _)
def LI(A B n a ib:Nat):Prop:=a+1<A/\ib<B/\n<=a+ib
def HI(A B n a nb:Nat):Prop:=(0<a/\a<=A)/\(1<nb/\nb<=B)/\n+a+nb<=A+B
section
variable{A B n m k ia ib na nb:Nat}
theorem LI.a0(h:LI A B n ia ib):ia<A:=SM h.1
def LI.b(h:LI A B n ia ib)(e:ib+1≠B):LI A B (n+1) ia (ib+1):=⟨h.1,mK h.2.1 e,CL h.2.2⟩
def LI.a(h:LI A B n ia ib)(e:ia+1+1≠A):LI A B (n+1) (ia+1) ib:=⟨mK h.1 e,h.2.1,Nat.succ_add ia ib ▸ CL h.2.2⟩
theorem LI.ka(h:LI A B n ia ib)(hk:k<=A-ia)(e:ia+k+1≠A)(j:ia+k≠A):LI A B n (ia+k) ib:=⟨mK (mK (by have:=h.a0;lia) j) e,h.2.1,TB h.2.2 (YQ (NG ..) _)⟩
theorem LI.kb(h:LI A B n ia ib)(hk:k<=B-ib)(e:ib+k≠B):LI A B n ia (ib+k):=⟨h.1,mK (by have:=h.2.1;lia) e,TB h.2.2 (OU (NG ..) _)⟩
def LI.le(h:LI A B n ia ib)(e:m<=n):LI A B m ia ib:=⟨h.1,h.2.1,TB e h.2.2⟩
def LI.no(h:LI A B n ia ib)(e:A+B<=n):False:=GL _ (MC (Nat.add_lt_add h.a0 h.2.1) (TB e h.2.2))
theorem HI.a0(h:HI A B n na nb):na-1<A:=nh h.1.1 h.1.2
def HI.b0(h:HI A B n na nb):nb-1<B:=nh (SM h.2.1.1) h.2.1.2
theorem HI.b(h:HI A B n na nb)(e:nb-1≠1):HI A B (n+1) na (nb-1):=⟨h.1,⟨by have:=h.2.1.1;lia,eE h.b0⟩,by obtain⟨_,⟨h1,_⟩,h2⟩:=h;lia⟩
theorem HI.a(h:HI A B n na nb)(e:na-1≠0):HI A B (n+1) (na-1) nb:=⟨⟨A3 e,eE h.a0⟩,h.2.1,by obtain⟨⟨h1,_⟩,_,h2⟩:=h;lia⟩
def HI.ka(h:HI A B n na nb)(hk:k<=na)(e:k≠0):HI A B n k nb:=⟨⟨A3 e,TB hk h.1.2⟩,h.2.1,TB (YQ (OU hk _) _) h.2.2⟩
def HI.kb(h:HI A B n na nb)(hk:k<=nb)(e:k≠1)(j:k≠0):HI A B n na k:=⟨h.1,⟨mK (A3 j) (sD e),TB hk h.2.1.2⟩,TB (OU hk _) h.2.2⟩
def HI.le(h:HI A B n na nb)(e:m<=n):HI A B m na nb:=⟨h.1,h.2.1,TB (YQ (YQ e _) _) h.2.2⟩
theorem HI.no(h:HI A B n na nb)(e:A+B<=n):False:=by obtain⟨⟨h1,_⟩,_,h2⟩:=h;lia
end
section
variable{R:LA->LA->Prop}{t out u u' v:List LA}{x y:LA}
def aAv(R:LA->LA->Prop)(t z:List LA):Prop:=z.Perm t/\z.Pairwise R
structure MI(R:LA->LA->Prop)(t out u v:List LA):Prop where
 p:(out++(u++v)).Perm t
 u:(out++u).Pairwise R
 v:(out++v).Pairwise R
def MI.sw(h:MI R t out u v):MI R t out v u:=⟨(Zg _ List.perm_append_comm).trans h.p,h.v,h.u⟩
def MI.go(tr:∀{x y z},R x y->R y z->R x z)(h:MI R t out (u++u') (y::v))(k:∀x∈u,R x y):MI R t (out++u) u' (y::v):=by
 have e:=h.u;rw[<- rG] at e;obtain⟨_,j,r⟩:=tI.mp h.v;refine⟨by simpa only[rG] using h.p,e,tI.mpr ⟨(tI.mp e).1,j,λx hx z m=>?_⟩⟩;rcases SD.mp hx with hx | hx
 ·exact r x hx z m
 ·exact(WC.mp m).elim (λq=>q ▸ k x hx) λq=>tr (k x hx) ((List.pairwise_cons.mp j).1 z q)
theorem MI.e1(h:MI R t out u []):aAv R t (out++u):=⟨by simpa only[DD] using h.p,h.u⟩
theorem MI.e2(h:MI R t out [x] v)(k:∀y∈v,R y x):aAv R t (out++v++[x]):=⟨by have:=h.sw.p;rwa[<- rG] at this,tI.mpr ⟨h.v,List.pairwise_singleton ..,λy j z m=>by
 rw[RD.mp m]
 exact(SD.mp j).elim (λq=>(tI.mp h.u).2.2 y q x (RD.mpr rfl)) (k y)⟩⟩
def dr{a:Array LA}(h:i<a.size):a.toList.drop i=a[i]::a.toList.drop (i+1):=wO h
def tk{a:Array LA}(h:i<a.size):(a.toList.take (i+1)).reverse=a[i]::(a.toList.take i).reverse:=by
 rw[List.take_succ_eq_append_getElem h,CO];rfl
end
section
variable{N:KeyKind}
noncomputable def ky(N:KeyKind)(x:LA):N.α:=(N.keyOf x.1).getD N.dflt
def le(N:KeyKind)(x y:LA):Prop:=N.kle (ky N x) (ky N y)
def ge(N:KeyKind)(x y:LA):Prop:=le N y x
def le.tr{x y z:LA}(h:le N x y)(k:le N y z):le N x z:=jJ h k
def ge.tr{x y z:LA}(h:ge N x y)(k:ge N y z):ge N x z:=jJ k h
def Mn(R:N.α->N.α->Prop)(a:Array LA)(lo n:Nat):Prop:=∀i j,i<j->j<n->R (KK N a (lo+i)) (KK N a (lo+j))
abbrev Up(N:KeyKind):Array LA->Nat->Nat->Prop:=Mn N.kle
def AE{a:Array LA}(h:a[i]?=aA x):KK N a i=ky N x:=by
 unfold KK;rw[h];rfl
theorem Up.of{a:Array LA}{lo n:Nat}(h:a.toList.Pairwise (le N))(r:lo+n<=a.size):Up N a lo n:=λi j m x=>by
 rw[AE (mF (show lo+i<a.size by lia)),AE (mF (show lo+j<a.size by lia))];exact BU.mp h _ _ _ _ (cR m lo)
def ML(N:KeyKind)(t:List LA)(a b c:Array LA)(d ib:Nat):Prop:=MI (le N) t c.toList (a.toList.drop d) (b.toList.drop ib)
def MH(N:KeyKind)(t:List LA)(a b c:Array LA)(d nb:Nat):Prop:=MI (ge N) t c.toList (a.toList.take d).reverse (b.toList.take nb).reverse
variable{t:List LA}{a b out:Array LA}{ia ib na nb k:Nat}{x y:LA}
theorem ML.sw(h:ML N t a b out ia ib):ML N t b a out ib ia:=MI.sw h
theorem MH.sw(h:MH N t a b out na nb):MH N t b a out nb na:=MI.sw h
def ML.pa(h:ML N t a b out ia ib)(j:ia<a.size)(m:ib<b.size)(c:le N a[ia] b[ib]):ML N t a b (out.push a[ia]) (ia+1) ib:=by
 unfold ML at *
 rw[dr m] at *
 rw[dr j] at h;rw[K3];exact MI.go (u:=[_]) le.tr h λz r=>by rw[RD.mp r];exact c
theorem MH.pa(h:MH N t a b out na nb)(h1:0<na)(h2:0<nb)(j:na-1<a.size)(r:nb-1<b.size)(c:le N b[nb-1] a[na-1]):MH N t a b (out.push a[na-1]) (na-1) nb:=by
 obtain⟨m,rfl⟩:∃m,na=m+1:=⟨na-1,by lia⟩
 obtain⟨n,rfl⟩:∃n,nb=n+1:=⟨nb-1,by lia⟩
 unfold MH at *
 rw[tk (show n<b.size from r)] at *
 rw[tk (show m<a.size from j)] at h;rw[K3];exact MI.go (u:=[_]) ge.tr h λz B=>by rw[RD.mp B];exact c
def ML.ka(h:ML N t a b out ia ib)(m:ib<b.size)(c:∀i x,i<k->a[ia+i]?=aA x->le N x b[ib]):ML N t a b (out++a.extract ia (ia+k)) (ia+k) ib:=by
 unfold ML at *
 rw[dr m] at *
 rw[nE,ZQ,WQ,Ng];refine MI.go le.tr (by rw[<- VO,zO];exact h) λx hx=>?_
 obtain⟨i,j⟩:=OM.mp hx;rw[EO] at j;split at j
 ·rw[FO,LG] at j;exact c i x ‹_› j
 ·cases j
theorem MH.ka(h:MH N t a b out na nb)(hk:k<=na)(h2:0<nb)(m:nb-1<b.size)(c:∀i x,k<=i->i<na->a[i]?=aA x->le N b[nb-1] x):MH N t a b (out++(a.extract k na).reverse) k nb:=by
 obtain⟨n,rfl⟩:∃n,nb=n+1:=⟨nb-1,by lia⟩
 unfold MH at *
 rw[tk (show n<b.size from m)] at *
 rw[nE,MU,ZQ,WQ]
 have e:a.toList.take na=a.toList.take k++(a.toList.drop k).take (na-k):=by(rw[<- n4,gJ hk])
 rw[e,CO] at h;refine MI.go ge.tr h λx hx=>?_
 obtain⟨i,j⟩:=OM.mp (Zh.mp hx);rw[EO] at j;split at j
 ·rw[FO,LG] at j;exact c _ x (NG ..) (by lia) j
 ·cases j
def vL{a:Array LA}:(a.extract i a.size).toList=a.toList.drop i:=by
 rw[ZQ,WQ,AK (by rw[rK];exact kB _)]
def vO{a:Array LA}:(a.extract 0 i).toList=a.toList.take i:=by
 rw[ZQ,WQ];rfl
def IP{a:Array LA}(h:i=a.size):a.toList.drop i=[]:=Tg (by rw[h];exact kB _)
theorem ML.e1(h:ML N t a b out ia ib)(e:ib=b.size):aAv (le N) t (out++a.extract ia a.size++b.extract ib b.size).toList:=by
 unfold ML at h;rw[IP e] at h;rw[nE,vL,IP e,DD,nE,vL];exact h.e1
def ML.zN(h:ML N t a b out ia ib)(e:ia=a.size):aAv (le N) t (out++a.extract ia a.size++b.extract ib b.size).toList:=by
 have:=h.sw.e1 e
 rw[nE,vL,IP e,DD,nE,vL] at this;rw[nE,vL,nE,vL,IP e,DD];exact this
theorem ML.e2(h:ML N t a b out ia ib)(e:ia+1=a.size)(hl:∀h:ia<a.size,∀y∈b,le N y a[ia]):aAv (le N) t (out++b.extract ib b.size++a.extract ia a.size).toList:=by
 have j:ia<a.size:=by lia
 unfold ML at h;have d:a.toList.drop ia=[a[ia]]:=by rw[dr j,IP e]
 rw[d] at h;rw[nE,vL,d,nE,vL];exact h.e2 λy m=>hl j y (BO.mp (oh m))
def aAv.rev{z:List LA}(h:aAv (ge N) t z.reverse):aAv (le N) t z:=⟨(L3 z).symm.trans h.1,Q2.mp h.2⟩
theorem MH.e1(h:MH N t a b out na nb)(e:nb=0):aAv (le N) t (a.extract 0 na++b.extract 0 nb++out.reverse).toList:=by
 subst e;refine aAv.rev ?_;rw[nE,nE,vO,vO,wR,DD,MU,CO,S2];exact MI.e1 h
def MH.zN(h:MH N t a b out na nb)(e:na=0):aAv (le N) t (a.extract 0 na++b.extract 0 nb++out.reverse).toList:=by
 subst e;refine aAv.rev ?_;rw[nE,nE,vO,vO,wR,ni,MU,CO,S2];exact MI.e1 h.sw
theorem MH.e2(h:MH N t a b out na nb)(e1:nb=1)(j:0<b.size)(hl:∀x∈a,le N b[0] x):aAv (le N) t (b.extract 0 nb++a.extract 0 na++out.reverse).toList:=by
 subst e1;refine aAv.rev ?_;unfold MH at h;have e:=tk j;rw[DR,wR,List.reverse_nil] at e;rw[e] at h;rw[nE,nE,vO,vO,MU,CO,S2,CO,e,<- rG];exact h.sw.e2 λx hx=>hl x (BO.mp (ph (Zh.mp hx)))
end
section
variable{prog:GC}{w:PB}{A:AD}{E:gA->zA->Prop}{s:zA}
def vI(prog:GC)(w:PB)(A:AD)(E:gA->zA->Prop)(s:zA)(N:KeyKind)(a:bP)(P:LA->Prop):Prop :=
 ∀(st:HB) (x y:LA) (Q:Option Bool->HB->Prop),kindOf st=a->P x->P y->Q (aA (N.blt (ky N x) (ky N y))) st->wpS (model prog w) A E s (lt' x y) Q st
structure YC(st dU:HB):Prop where
 k:kindOf dU=kindOf st
 a:arrOf dU=arrOf st
 p:pendingOf dU=pendingOf st
 f:failedOf dU=failedOf st
def YC.refl(st:HB):YC st st:=⟨rfl,rfl,rfl,rfl⟩
variable{N:KeyKind}{kd:bP}{P:LA->Prop}
def jF{lo b:Nat}{st:HB}{c:B}(I:Nat->B->HB->Prop)(R:B->HB->Prop)
  (e:∀i c st,lo<=i->i<b->I i c st->wpS (model prog w) A E s (body i c) (λr a=>match r with | .done d=>R d a | .yield d=>I (i+1) d a) st) (g:∀c st,I (max lo b) c st->R c st) (h:I lo c st) (p:∀c st,R c st->wpS (model prog w) A E s (f c) Q st):wpS (model prog w) A E s (forIn [lo:b] c body>>=f) Q st:=RC (wpS_mono (wpS_forRange I e g h) p)
def uO{st:HB}(q:wpS (model prog w) A E s (f ()) Q st):wpS (model prog w) A E s ((liftM (rule r):StateT HB oF Unit)>>=f) Q st:=RC (wpS_lift (xV ⟨rfl,q⟩))
def kK{st:HB}(q:wpS (model prog w) A E s (f st) Q st):wpS (model prog w) A E s (get>>=f) Q st:=RC (wpS_get q)
def sO{st:HB}(q:wpS (model prog w) A E s (f ⟨⟩) Q (g st)):wpS (model prog w) A E s (modify g>>=f) Q st:=RC (wpS_modify q)
def OD{st:HB}(a:AP P arr)(h:i<arr.size)(q:P arr[i]->wpS (model prog w) A E s (f arr[i]) Q st):wpS (model prog w) A E s (elem' arr i>>=f) Q st:=RC (by
 rw[elem'_eq,mF h]
 exact bB (q (a _ (kR h))))
def xU{st b:HB}(d:YC b st)(q:∀c,YC b c->wpS (model prog w) A E s (f ()) Q c):wpS (model prog w) A E s (iHa g>>=f) Q st :=
 sO (q _ ⟨d.k,d.a,d.p,d.f⟩)
def Z1{st:HB}(a:vI prog w A E s N kd P)(hk:kindOf st=kd)(b:P x)(c:P y)(q:wpS (model prog w) A E s (f (aA (N.blt (ky N x) (ky N y)))) Q st):wpS (model prog w) A E s (lt' x y>>=f) Q st:=RC (a st x y _ hk b c q)
def WB{c:Prop}[Decidable c]{st:HB}(h:c->wpS (model prog w) A E s m Q st)(a:¬c->wpS (model prog w) A E s b Q st):wpS (model prog w) A E s (if c then m else b) Q st:=by
 split
 ·exact h ‹_›
 ·exact a ‹_›
def aE{x y:Nat}{st:HB}(h:x=y->wpS (model prog w) A E s m Q st)(a:x≠y->wpS (model prog w) A E s b Q st):wpS (model prog w) A E s (if(x==y)=bA then m else b) Q st:=WB (λe=>h (by simpa using e)) λe=>a (by simpa using e)
def uL{f:B->StateT HB oF O}{J:B->HB->Prop}{st:HB}(h:∀x st,J x st->wpS (model prog w) A E s (f x) Q st)(k:(∀x st,J x st->wpS (model prog w) A E s (f x) Q st)->wpS (model prog w) A E s m Q st):wpS (model prog w) A E s m Q st:=k h
def pr(N:KeyKind)(left:Bool)(key x:LA):Bool:=if left=bA then N.blt (ky N x) (ky N key) else !N.blt (ky N key) (ky N x)
def wCa{key x z:LA}(h:le N x z)(p:pr N left key z=bA):pr N left key x=bA:=by
 unfold pr at *
 cases left with
 |true=>exact KeyOrd.klt_of_kle_of_klt h p
 |false=>exact(KO _).mpr (jJ h ((KO _).mp p))
def xCa(h:pr N left key x=bA):le N x key:=by
 unfold pr at h
 cases left with
 |true=>exact qK h
 |false=>exact(KO _).mp h
def vCa(h:pr N left key x=dA):le N key x:=by
 unfold pr at h
 cases left with
 |true=>exact h
 |false=>exact qK ((Bool.not_eq_false' _).mp h)
def Cut(N:KeyKind)(key:LA)(arr:Array LA)(base n k:Nat):Prop:=k<=n/\(∀i x,i<k->arr[base+i]?=aA x->le N x key)/\∀i x,k<=i->i<n->arr[base+i]?=aA x->le N key x
theorem mLa{left:Bool}{key:LA}{arr:Array LA}{base n hint:Nat}{st:HB}{Q:Option Nat->HB->Prop}(hL:vI prog w A E s N kd P)(hk:kindOf st=kd)(C:base+n<=arr.size)(hh:hint<n)(px:AP P arr)(pk:P key)(up:Up N arr base n)(h:∀k,Cut N key arr base n k->Q (aA k) st) :
  wpS (model prog w) A E s (E7 left key arr base n hint) Q st:=by
 obtain⟨b,f⟩:∃b:Nat->Bool,∀i x,arr[base+i]?=aA x->b i=pr N left key x:=⟨λi=>(arr[base+i]?).elim bA (pr N left key),λi x e=>congrArg (Option.elim · bA (pr N left key)) e⟩
 have z:∀{i},i<n->base+i<arr.size:=λh=>MC (cR h _) C
 have Z:∀i,i<n->∀R:Option Bool->HB->Prop,R (aA (b i)) st->wpS (model prog w) A E s (elem' arr (base+i)>>=λx=>if left=bA then lt' x key else lt' key x>>=λr=>pure (r.map (!·))) R st:=λi a R J =>
  OD px (z a) λH=>by
   rw[f i _ (mF (z a))] at J;unfold pr at J;refine WB (λe=>?_) λe=>?_
   ·rw[MA e] at J;exact hL st _ key R hk H pk J
   ·rw[JA e] at J;exact Z1 hL hk pk H (bB J)
 have mono:∀i j,i<=j->j<n->b j=bA->b i=bA:=λi j p U q=>by
  obtain⟨x,H⟩:∃x,arr[base+i]?=aA x:=⟨_,mF (z (TF p U))⟩
  obtain⟨y,hz⟩:∃x,arr[base+j]?=aA x:=⟨_,mF (z U)⟩
  rcases zL p with rfl | p
  ·exact q
  rw[f j y hz] at q;rw[f i x H]
  have:=up i j p U
  rw[AE H,AE hz] at this;exact wCa this q
 have dn:∀i j,i<=j->j<n->b i=dA->b j=dA:=λi j p U X=>by
  cases q:b j with
  |false=>rfl
  |true=>rw[mono i j p U q] at X;cases X
 replace h:∀k,k<=n->(∀i,i<k->b i=bA)->(∀i,k<=i->i<n->b i=dA)->Q (aA k) st:=λk v h2 B=>h k ⟨v,λi x a e=>xCa (f i x e ▸ h2 i a),λi x v a e=>vCa (f i x e ▸ B i v a)⟩
 clear f up z
 have tail:∀L O,L<=O->O<=n->(∀i,i<L->b i=bA)->(∀i,O<=i->i<n->b i=dA)->wpS (model prog w) A E s (forIn [:n] ((eA:Option (Option Nat)),L,O) (λ_ c=>if c.2.1 >= c.2.2 then pure (.done (eA,c.2.1,c.2.2)) else(elem' arr (base+(c.2.1+(c.2.2-c.2.1) / 2))>>=λx=>if left=bA then lt' x key else lt' key x>>=λr=>pure (r.map (!·)))>>=λy=>(sortPriv% PySem.Builtin.countRun.match_1) (λ_=>StateT HB oF (ForInStep (Option (Option Nat)×Nat×Nat))) y (λg=>if g=bA then pure (.yield (eA,c.2.1+(c.2.2-c.2.1) / 2+1,c.2.2)) else pure (.yield (eA,c.2.1,c.2.1+(c.2.2-c.2.1) / 2))) λ_=>pure (.done (aA eA,c.2.1,c.2.2)))>>=λc=>Break.runK.match_1 (λ_=>StateT HB oF (Option Nat)) c.1 (λr=>pure r) λ_=>pure (aA c.2.2)) Q st:=λL O i1 i2 i3 i4=>by
  refine jF (I:=λx c u=>u=st/\c.1=eA/\c.2.1<=c.2.2/\c.2.2<=n/\c.2.2-c.2.1<=n-x/\(∀i,i<c.2.1->b i=bA)/\∀i,c.2.2<=i->i<n->b i=dA) (R:=λc u=>u=st/\c.1=eA/\c.2.2<=n/\(∀i,i<c.2.2->b i=bA)/\∀i,c.2.2<=i->i<n->b i=dA) ?_ (λc u z=>⟨z.1,z.2.1,z.2.2.2.1,λi a=>z.2.2.2.2.2.1 i (by have:=z.2.2.2.2.1;omega),z.2.2.2.2.2.2⟩) ⟨rfl,rfl,i1,i2,TB (PF ..) i2,i3,i4⟩ ?_
  ·rintro x ⟨K,l,o⟩ u _ H ⟨rfl,e,q1,M,q3,q4,q5⟩
   cases e;dsimp only at q1 M q3 q4 q5 ⊢;refine WB (λg=>bB ⟨rfl,rfl,M,λi a=>q4 i (MC a g),q5⟩) λg=>?_
   obtain⟨m,em⟩:∃m,l+(o-l) / 2=m:=⟨_,rfl⟩
   rw[em];have lm:l<=m:=em ▸ NG ..;have Y:m<o:=by omega
   have ho:o-l<=n-(x+1)+1:=by omega
   exact RC (Z _ (MC Y M) _ (WB (λe=>bB ⟨rfl,rfl,Y,M,AL (MC (by show o-(m+1)<o-l;omega) ho),λi a=>mono i _ (AL a) (MC Y M) e,q5⟩) λe=>bB ⟨rfl,rfl,lm,eE (MC Y M),AL (MC (by show m-l<o-l;omega) ho),q4,λi a C=>dn _ i a C (M3.mpr e)⟩))
  ·rintro⟨K,l,o⟩ u ⟨rfl,e,z1,z2,z3⟩
   cases e;exact bB (h _ z1 z2 z3)
 refine RC (Z hint hh _ (WB (λe0=>jF (I:=λx c d=>d=st/\c.1=eA/\c.2.1<c.2.2/\x<c.2.2/\hint+c.2.1<n/\b (hint+c.2.1)=bA) (R:=λc d=>d=st/\c.1=eA/\c.2.1<c.2.2/\hint+c.2.1<n/\b (hint+c.2.1)=bA/\(n-hint<=c.2.2\/(hint+c.2.2<n/\b (hint+c.2.2)=dA))) ?s1 ?f1 ⟨rfl,rfl,uV,uV,hh,by exact e0⟩ ?p1) λe0=>jF (I:=λx c d=>d=st/\c.1=eA/\c.2.1<c.2.2/\x<c.2.2/\c.2.1<=hint/\b (hint-c.2.1)=dA) (R:=λc d=>d=st/\c.1=eA/\c.2.1<c.2.2/\c.2.1<=hint/\b (hint-c.2.1)=dA/\(hint+1<=c.2.2\/(c.2.2<=hint/\b (hint-c.2.2)=bA))) ?s2 ?f2 ⟨rfl,rfl,uV,uV,pE _,by exact M3.mpr e0⟩ ?p2))
 case f1 | f2 =>
  rintro c d ⟨z1,z2,z3,z4,z5⟩
  exact⟨z1,z2,z3,z5.1,z5.2,.inl (by omega)⟩
 case s1 | s2 =>
  rintro x ⟨K,l,o⟩ d _ H ⟨rfl,e,v,h2,B,F⟩
  cases e
  dsimp only at *
  refine WB (λg=>bB ⟨rfl,rfl,v,B,F,.inl g⟩) λg=>RC (Z _ (by omega) _ (WB (λe=>bB ?_) λe=>bB ?_))
  all_goals first | exact⟨rfl,rfl,v,B,F,.inr ⟨by dsimp only;omega,by simpa using e⟩⟩ | exact⟨rfl,rfl,by dsimp only;omega,by dsimp only;omega,by dsimp only;omega,by simpa using e⟩
 case p1 =>
  rintro⟨K,l,o⟩ u ⟨rfl,e,v,B,F,t⟩
  obtain rfl:K=eA:=e;dsimp only at v B F t;dsimp only;refine tail (hint+l+1) (hint+min o (n-hint)) ?_ ?_ (λi a=>mono i _ (AL a) B F) λi a C=>t.elim (λt=>absurd C ?_) λt=>dn _ i ?_ C t.2
  all_goals omega
 case p2 =>
  rintro⟨K,l,o⟩ u ⟨rfl,e,v,B,F,t⟩
  obtain rfl:K=eA:=e;dsimp only at v B F t;dsimp only;refine tail (hint+1-min o (hint+1)) (hint-l) ?_ (TB (PF ..) (eE hh)) (λi a=>t.elim (λt=>absurd a ?_) λt=>mono i _ ?_ (TF (PF ..) hh) t.2) λi a C=>dn _ i a C F
  all_goals omega
def qO{base n hint:Nat}{st:HB}(a:vI prog w A E s N kd P)(hk:kindOf st=kd)(b:base+n<=arr.size)(hh:hint<n)(c:AP P arr)(pk:P key)(up:Up N arr base n)(h:∀k,Cut N key arr base n k->wpS (model prog w) A E s (f (aA k)) Q st) :
  wpS (model prog w) A E s (E7 left key arr base n hint>>=f) Q st:=RC (mLa a hk b hh c pk up h)
def Jg(N:KeyKind)(t:List LA)(a b:Array LA)(n:Nat)(c:Option (Array LA)×Array LA×Nat×Nat×U):Prop:=c.1=eA/\ML N t a b c.2.1 c.2.2.1 c.2.2.2.1/\LI a.size b.size n c.2.2.1 c.2.2.2.1
def Jh(N:KeyKind)(t:List LA)(a b:Array LA)(n:Nat)(c:Option (Array LA)×Nat×Nat×Array LA×U):Prop:=c.1=eA/\MH N t a b c.2.2.2.1 c.2.1 c.2.2.1/\HI a.size b.size n c.2.1 c.2.2.1
def Dn(N:KeyKind)(t:List LA)(c:Option (Array LA)×U):Prop:=∃z,c.1=aA z/\aAv (le N) t z.toList
variable{a b:Array LA}{t:List LA}
@[elab_as_elim] theorem yN{J:Option (Array LA)×U->Prop}{F:Option (Array LA)×U->Prop}(c:Option (Array LA)×U)(h:Dn N t c\/J c)(n:∀c,J c->c.1=eA)(f:∀z q,aAv (le N) t z.toList->F (aA z,q))(g:∀q,J (eA,q)->F (eA,q)):F c:=by
 obtain⟨j,d⟩:=c;rcases h with ⟨z,e,i⟩ | h
 ·cases e;exact f z d i
 ·cases n _ h;exact g d h
def rD{st c:HB}{z:Array LA}(d:YC c st)(e:aAv (le N) t z.toList):YC c st/\(Dn N t (aA z,q)\/J):=⟨d,.inl ⟨z,rfl,e⟩⟩
structure MP(N:KeyKind)(P:LA->Prop)(a b:Array LA):Prop where
 pa:AP P a
 pb:AP P b
 sa:a.toList.Pairwise (le N)
 sb:b.toList.Pairwise (le N)
 za:0<a.size
 zb:0<b.size
 hF:∀x∈a,le N b[0] x
 hE:∀i,i+1=a.size->∀h:i<a.size,∀y∈b,le N y a[i]
theorem gl{a:Array LA}{i k:Nat}{z:LA}(h:a[i+k]?=aA z):k<a.size-i:=by have:=(VQ.mp h).1;lia
def pLa(X:vI prog w A E s N kd P)(m:MP N P a b){st:HB}{Q:Array LA->HB->Prop}(hk:kindOf st=kd)(h:∀z d,YC st d->aAv (le N) (a.toList++b.toList) z.toList->Q z d):wpS (model prog w) A E s (Jy a b) Q st:=by
 obtain⟨pa,C,sa,sb,ha,Y,hF,M⟩:=m;have F:ML N (a.toList++b.toList) a b #[] 0 0:=⟨.refl _,sa,sb⟩
 have F:=(F.sw.pa Y ha (hF _ (kR _))).sw
 generalize a.toList++b.toList=t at *
 refine uO ?_;refine OD C Y λH=>?_
 refine aE (λe=>bB (h _ _ (.refl _) (F.e1 e))) λe1=>aE (λe=>bB (h _ _ (.refl _) (F.e2 e (M _ e)))) λe2=>kK ?_
 refine jF (I:=λi c d=>YC st d/\Jg N t a b (i+1) c) (R:=λc d=>YC st d/\(Dn N t c\/False)) ?step (λc d z=>(z.2.2.2.no (xK _)).elim) ⟨.refl _,rfl,F,mK ha e2,mK Y e1,kB _⟩ ?post;clear F
 case post =>
  intro c d hh;refine yN (J:=λ_=>False) c hh.2 (λ_ z=>z.elim) ?_ λ_ z=>z.elim
  exact λz q o=>bB (h z d hh.1 o)
 case step =>
  intro i c d _ hi hh;have l:=hh.1;have K:=hh.2;refine jF (I:=λj c d=>YC st d/\Jg N t a b (i+1+j) c) (R:=λc d=>YC st d/\(Dn N t c\/Jg N t a b (i+2) c)) ?J0 (λc d z=>(z.2.2.2.no (WM ..)).elim) ⟨l,rfl,K.2⟩ ?FZ
  case J0 =>
   intro j c d _ r hh;have l:=hh.1;have p:ML N t a b c.2.1 c.2.2.1 c.2.2.2.1:=hh.2.2.1;have n:LI a.size b.size (i+1+j) c.2.2.1 c.2.2.2.1:=hh.2.2.2;have l2:i+2<=i+1+j+1:=CL (NG ..);refine OD C n.2.1 λH=>OD pa n.a0 λZ=>Z1 X (l.k.trans hk) H Z ?_
   refine WB (λc=>?_) λc=>?_
   ·have g:=(p.sw.pa n.2.1 n.a0 (qK c)).sw;exact OD C n.2.1 λ_=>aE (λe=>bB (rD l (g.e1 e))) λe1=>WB (λ_=>bB ⟨l,.inr ⟨rfl,g,(n.b e1).le l2⟩⟩) λ_=>bB ⟨l,rfl,g,n.b e1⟩
   ·have g:=p.pa n.a0 n.2.1 (BK c);exact OD pa n.a0 λ_=>aE (λe=>bB (rD l (g.e2 e (M _ e)))) λe1=>WB (λ_=>bB ⟨l,.inr ⟨rfl,g,(n.a e1).le l2⟩⟩) λ_=>bB ⟨l,rfl,g,n.a e1⟩
  case FZ =>
   intro c d hh;have l:=hh.1;refine yN (J:=Jg N t a b (i+2)) c hh.2 (λ_ z=>z.1) ?_ ?_
   ·exact λz q o=>bB (rD l o)
   ·intro c K;refine uO ?_;refine jF (I:=λj c d=>YC st d/\Jg N t a b (i+2+j) c) (R:=λc d=>YC st d/\(Dn N t c\/Jg N t a b (i+2) c)) ?K0 (λc d z=>(z.2.2.2.no (WM ..)).elim) ⟨l,rfl,K.2⟩ ?GZ
    case GZ =>
     intro c d hh;have l:=hh.1;refine yN (J:=Jg N t a b (i+2)) c hh.2 (λ_ z=>z.1) ?_ ?_
     ·exact λz q o=>bB (rD l o)
     ·exact λc K=>xU l λd l=>bB ⟨l,rfl,K.2⟩
    case K0 =>
     intro j c d _ r hh;have l:=hh.1;have p:=hh.2.2.1;have n:=hh.2.2.2
     dsimp -zeta only
     extract_lets -underBinder s1 v s2 B s3 ib s4 mg s5 ac bc jp
     have p:ML N t a b v B ib:=p;have n:LI a.size b.size (i+2+j) B ib:=n
     clear_value v B ib mg ac bc
     refine uL (f:=jp ()) (J:=λ_ u=>YC st u) (λg d l=>xU l λd l=>OD C n.2.1 λH=>qO X (l.k.trans hk) (NF (gJ (eE n.a0))) (UU n.a0) pa H (.of sa (NF (gJ (eE n.a0)))) λk O=>?_) λr=>WB (λ_=>r _ _ l) λ_=>r _ _ l
     dsimp -zeta only
     extract_lets -underBinder ac jp
     refine uL (f:=λx:Array LA×Nat=>jp () x.1 x.2) (J:=λx u=>YC st u/\ML N t a b x.1 x.2 ib/\LI a.size b.size (i+2+j) x.2 ib/\∀z,a[x.2]?=aA z->le N (b[ib]'n.2.1) z) (λ⟨v,B⟩ d ⟨l,p,n,h4⟩=>OD C n.2.1 λH=>have g:=(p.sw.pa n.2.1 n.a0 (h4 _ (mF _))).sw;aE (λe=>bB (rD l (g.e1 e))) λe1=>OD pa n.a0 λZ=>qO X (l.k.trans hk) (NF (gJ n.2.1)) (UU (n.b e1).2.1) C Z (.of sb (NF (gJ n.2.1))) λm U=>?_) λr=>WB (λ_=>have g:=p.ka n.2.1 O.2.1;aE (λe=>bB (rD l (g.e2 e (M _ e)))) λe1=>aE (λe=>bB (rD l (g.zN e))) λe2=>r (_,_) _ ⟨l,g,n.ka O.1 e1 e2,λz o=>O.2.2 k z (kB _) (gl o) o⟩) λc=>r (_,_) _ ⟨l,p,n,λz o=>O.2.2 0 z (yV.mp c) (UU n.a0) o⟩
     have y:=n.b e1
     dsimp -zeta only
     extract_lets -underBinder bc jp
     refine uL (f:=λx:Array LA×Nat=>jp () x.1 x.2) (J:=λx u=>YC st u/\ML N t a b x.1 B x.2/\LI a.size b.size (i+2+j+1) B x.2/\∀z,b[x.2]?=aA z->le N (a[B]'n.a0) z) (λ⟨v,ib⟩ d ⟨l,p,y,h4⟩=>OD pa y.a0 λhv=>have g:=p.pa y.a0 y.2.1 (h4 _ (mF _));aE (λe=>bB (rD l (g.e2 e (M _ e)))) λe1=>WB (λ_=>bB ⟨l,.inr ⟨rfl,g,(y.a e1).le (NG _ (j+2))⟩⟩) λ_=>bB ⟨l,rfl,g,(y.a e1).le (xK _)⟩) λr=>WB (λ_=>have g:=(g.sw.ka n.a0 U.2.1).sw;aE (λe=>bB (rD l (g.e1 e))) λe1=>r (_,_) _ ⟨l,g,y.kb U.1 e1,λz o=>U.2.2 m z (kB _) (gl o) o⟩) λc=>r (_,_) _ ⟨l,g,y,λz o=>U.2.2 0 z (yV.mp c) (UU y.2.1) o⟩
theorem oLa(hL:vI prog w A E s N kd P)(m:MP N P a b){st:HB}{Q:Array LA->HB->Prop}(hk:kindOf st=kd)(h:∀z d,YC st d->aAv (le N) (a.toList++b.toList) z.toList->Q z d):wpS (model prog w) A E s (Iy a b) Q st:=by
 obtain⟨pa,U,sa,sb,ha,M,hF,hE⟩:=m
 have O:MH N (a.toList++b.toList) a b #[] a.size b.size:=by
  have e:∀x:Array LA,x.toList.take x.size=x.toList:=λx=>AK (kB _)
  unfold MH;rw[e,e];exact⟨((L3 _).append (L3 _)),Q2.mpr sa,Q2.mpr sb⟩
 have O:=O.pa ha M (tK (kH ha)) (tK (kH M)) (hE _ (Nat.sub_add_cancel ha) _ _ (kR _))
 generalize a.toList++b.toList=t at *
 refine uO ?_;refine OD pa (tK (kH ha)) λX=>?_
 refine aE (λe=>bB (h _ _ (.refl _) (O.zN e))) λe1=>aE (λe=>bB (h _ _ (.refl _) (O.e2 e M hF))) λe2=>kK ?_
 refine jF (I:=λi c d=>YC st d/\Jh N t a b (i+1) c) (R:=λc d=>YC st d/\(Dn N t c\/False)) ?step (λc d z=>(z.2.2.2.no (xK _)).elim) ⟨.refl _,rfl,O,by show HI _ _ (0+1) (a.size-1) b.size;unfold HI;lia⟩ ?post;clear O
 case post =>
  intro c d hh;refine yN (J:=λ_=>False) c hh.2 (λ_ z=>z.elim) ?_ λ_ z=>z.elim
  exact λz q B=>bB (h z d hh.1 B)
 case step =>
  intro i c d _ hi hh;have o:=hh.1;have Y:=hh.2;refine jF (I:=λj c d=>YC st d/\Jh N t a b (i+1+j) c) (R:=λc d=>YC st d/\(Dn N t c\/Jh N t a b (i+2) c)) ?J0 (λc d z=>(z.2.2.2.no (WM ..)).elim) ⟨o,rfl,Y.2⟩ ?FZ
  case J0 =>
   intro j c d _ C hh;have o:=hh.1;have v:MH N t a b c.2.2.2.1 c.2.1 c.2.2.1:=hh.2.2.1;have l:HI a.size b.size (i+1+j) c.2.1 c.2.2.1:=hh.2.2.2;have l2:i+2<=i+1+j+1:=CL (NG ..);have p:=SM l.2.1.1;refine OD U l.b0 λX=>OD pa l.a0 λhx=>Z1 hL (o.k.trans hk) X hx ?_
   refine WB (λc=>?_) λc=>?_
   ·have g:=v.pa l.1.1 p l.a0 l.b0 (qK c);exact OD pa l.a0 λ_=>aE (λe=>bB (rD o (g.zN e))) λe1=>WB (λ_=>bB ⟨o,.inr ⟨rfl,g,(l.a e1).le l2⟩⟩) λ_=>bB ⟨o,rfl,g,l.a e1⟩
   ·have g:=(v.sw.pa p l.1.1 l.b0 l.a0 (BK c)).sw;exact OD U l.b0 λ_=>aE (λe=>bB (rD o (g.e2 e M hF))) λe1=>WB (λ_=>bB ⟨o,.inr ⟨rfl,g,(l.b e1).le l2⟩⟩) λ_=>bB ⟨o,rfl,g,l.b e1⟩
  case FZ =>
   intro c d hh;have o:=hh.1;refine yN (J:=Jh N t a b (i+2)) c hh.2 (λ_ z=>z.1) ?_ ?_
   ·exact λz q B=>bB (rD o B)
   ·intro c Y;refine uO ?_;refine jF (I:=λj c d=>YC st d/\Jh N t a b (i+2+j) c) (R:=λc d=>YC st d/\(Dn N t c\/Jh N t a b (i+2) c)) ?K0 (λc d z=>(z.2.2.2.no (WM ..)).elim) ⟨o,rfl,Y.2⟩ ?GZ
    case GZ =>
     intro c d hh;have o:=hh.1;refine yN (J:=Jh N t a b (i+2)) c hh.2 (λ_ z=>z.1) ?_ ?_
     ·exact λz q B=>bB (rD o B)
     ·exact λc Y=>xU o λd o=>bB ⟨o,rfl,Y.2⟩
    case K0 =>
     intro j c d _ C hh;have o:=hh.1;have v:=hh.2.2.1;have l:=hh.2.2.2
     dsimp -zeta only
     extract_lets -underBinder s1 K s2 nb s3 F s4 mg s5 ac bc jp
     have v:MH N t a b F K nb:=v;have l:HI a.size b.size (i+2+j) K nb:=l
     clear_value F K nb mg ac bc
     have p:=SM l.2.1.1;have H:∀{n:Nat},0+n=n:=λ{n}=>DR n
     refine uL (f:=jp ()) (J:=λ_ u=>YC st u) (λg d o=>xU o λd o=>OD U l.b0 λX=>qO hL (o.k.trans hk) (TB (NF H) l.1.2) (tK (kH l.1.1)) pa X (.of sa (TB (NF H) l.1.2)) λk Z=>?_) λC=>WB (λ_=>C _ _ o) λ_=>C _ _ o
     dsimp -zeta only
     extract_lets -underBinder r ac jp
     refine uL (f:=λx:Nat×Array LA=>jp () x.1 x.2) (J:=λx u=>YC st u/\MH N t a b x.2 x.1 nb/\HI a.size b.size (i+2+j) x.1 nb/\∀z,a[0+(x.1-1)]?=aA z->le N z (b[nb-1]'l.b0)) (λ⟨K,F⟩ d ⟨o,v,l,h4⟩=>OD U l.b0 λX=>have g:=(v.sw.pa p l.1.1 l.b0 l.a0 (h4 _ (H.symm ▸ mF _))).sw;aE (λe=>bB (rD o (g.e2 e M hF))) λe1=>OD pa l.a0 λhx=>qO hL (o.k.trans hk) (TB (NF H) (l.b e1).2.1.2) (tK (kH (SM (l.b e1).2.1.1))) U hx (.of sb (TB (NF H) (l.b e1).2.1.2)) λm mc=>?_) λC=>WB (λ_=>have g:=v.ka Z.1 p l.b0 (λi x v l y=>Z.2.2 i x v l (H.symm ▸ y));aE (λe=>bB (rD o (g.zN e))) λe1=>C (_,_) _ ⟨o,g,l.ka Z.1 e1,λz B=>Z.2.1 _ z (tK e1) B⟩) λc=>C (_,_) _ ⟨o,v,l,λz B=>Z.2.1 _ z (MC (tK (kH l.1.1)) (bh (Ug c))) B⟩
     have y:=l.b e1
     dsimp -zeta only
     extract_lets -underBinder r bc jp
     refine uL (f:=λx:Nat×Array LA=>jp () x.1 x.2) (J:=λx u=>YC st u/\MH N t a b x.2 K x.1/\HI a.size b.size (i+2+j+1) K x.1/\∀z,b[0+(x.1-1)]?=aA z->le N z (a[K-1]'l.a0)) (λ⟨nb,F⟩ d ⟨o,v,y,h4⟩=>OD pa y.a0 λhv=>have g:=v.pa y.1.1 (SM y.2.1.1) y.a0 y.b0 (h4 _ (H.symm ▸ mF _));aE (λe=>bB (rD o (g.zN e))) λe1=>WB (λ_=>bB ⟨o,.inr ⟨rfl,g,(y.a e1).le (NG _ (j+2))⟩⟩) λ_=>bB ⟨o,rfl,g,(y.a e1).le (xK _)⟩) λC=>WB (λ_=>have g:=(g.sw.ka mc.1 l.1.1 l.a0 (λi x v l y=>mc.2.2 i x v l (H.symm ▸ y))).sw;aE (λe=>bB (rD o (g.e2 e M hF))) λe1=>aE (λe=>bB (rD o (g.e1 e))) λe2=>C (_,_) _ ⟨o,g,y.kb mc.1 e1 e2,λz B=>mc.2.1 _ z (tK e2) B⟩) λc=>C (_,_) _ ⟨o,g,y,λz B=>mc.2.1 _ z (MC (tK (kH (SM y.2.1.1))) (bh (Ug c))) B⟩
end
structure Fr(P:LA->Prop)(lo hi:Nat)(VC st:HB):Prop where
 k:kindOf st=kindOf VC
 p:pendingOf st=pendingOf VC
 f:failedOf st=failedOf VC
 q:(arrOf st).Perm (arrOf VC)
 o:∀i,i<lo\/hi<=i->(arrOf st)[i]?=(arrOf VC)[i]?
 a:AP P (arrOf st)
section
variable{N:KeyKind}{P:LA->Prop}{VC st:HB}{lo hi n:Nat}
theorem Fr.z(h:Fr P lo hi VC st):(arrOf st).size=(arrOf VC).size:=h.q.size_eq
def Fr.to(h:Fr P lo hi VC st)(p:x.Perm (arrOf st))(o:∀i,i<lo\/hi<=i->x[i]?=(arrOf st)[i]?):Fr P lo hi VC (setArr st x):=⟨h.k,h.p,h.f,p.trans h.q,λi hi=>(o i hi).trans (h.o i hi),λy j=>h.a y (p.mem_iff.mp j)⟩
theorem Fr.TJ(h:Fr P lo hi VC st)(h1:lo<=i)(h2:j<=hi)(m:j<=(arrOf st).size):Fr P lo hi VC (setArr st (mirror (arrOf st) i j ((j-i) / 2))):=h.to (mirror_perm _ _ _ _) λq r=>(getElem?_mirror_all m q).trans (JA (by lia))
theorem Mn.grow(tr:∀{x y z},R x y->R y z->R x z)(hu:Mn R xs lo n)(h:R (KK N xs (lo+n-1)) (KK N xs (lo+n))):Mn R xs lo (n+1):=λi j m r=>by
 rcases zL (AL r) with rfl | r
 ·rcases zL (T2 m) with rfl | hi
  ·rwa[LO (TF (pE _) m)] at h
  ·refine tr (hu i (j-1) hi (by lia)) ?_
   rwa[LO (by lia)] at h
 ·exact hu i j m r
theorem Mn.one:Mn R xs lo 1:=λi j m r=>by lia
def Mn.eqv{R:N.α->N.α->Prop}(h:Mn R xs lo n)(e:∀k,KK N r k=KK N xs k):Mn R r lo n:=λi j m x=>by
 rw[e,e];exact h i j m x
abbrev Dw(N:KeyKind):Array LA->Nat->Nat->Prop:=Mn λx y=>N.kle y x
def qS(h:Dw N a lo n)(c:N.kle (KK N a (lo+n)) (KK N a (lo+n-1))):Dw N a lo (n+1):=Mn.grow (R:=λx y=>N.kle y x) (λh k=>jJ k h) h c
theorem Dw.TJ(h:Dw N xs lo n)(x:lo+n<=xs.size):Up N (mirror xs lo (lo+n) ((lo+n-lo) / 2)) lo n:=λi j m r=>by
 have e:∀{i},i<n->lo+(lo+n)-1-(lo+i)=lo+(n-1-i):=λh=>by omega
 have hi:=vK m r;rw[KK_mirror x,KK_mirror x,MA ⟨NG ..,cR hi _⟩,MA ⟨NG ..,cR r _⟩,e hi,e r];exact h _ _ (Nat.sub_lt_sub_left (MC m (T2 r)) m) (TF (PF ..) (Nat.sub_one_lt_of_lt r))
def jN(N:KeyKind)(a:Array LA)(lo n q:Nat):Prop:=q+1<=n/\∀k,lo+n-(q+1)<=k->k<lo+n->KK N a k=KK N a (lo+n-1)
theorem jN.one(h:1<=n):jN N xs lo n 0:=⟨h,λk h1 h2=>by rw[show k=lo+n-1 by lia]⟩
def jN.TJ(h:jN N xs lo n q)(j:lo+n<=xs.size):∀k,KK N (mirror xs (lo+n-(q+1)) (lo+n) ((lo+n-(lo+n-(q+1))) / 2)) k=KK N xs k:=KK_mirror_equal j h.2
theorem Em{a:Array LA}{k l:Nat}(b:lo+k<a.size)(c:l<=k)(f:Up N a lo k)(d:∀i,i<l->N.kle (KK N a (lo+i)) (KK N a (lo+k)))(g:∀i,l<=i->i<k->N.klt (KK N a (lo+k)) (KK N a (lo+i))):Up N (bubble a (lo+k) (lo+k-(lo+l))) lo (k+1):=λi j m o=>by
 have e:∀i,KK N (bubble a (lo+k) (lo+k-(lo+l))) (lo+i)=if i=l then KK N a (lo+k) else if l<i/\i<=k then KK N a (lo+(i-1)) else KK N a (lo+i):=λi=>by
  rw[KK_bubble b (PF ..),Nat.sub_sub_self (OU c lo)];simp only[Nat.add_left_cancel_iff,Nat.add_lt_add_iff_left,Nat.add_le_add_iff_left];split
  ·rfl
  ·split
   ·rename_i h;rw[LO (TF (pE _) h.1)]
   ·rfl
 rw[e,e];clear e b
 repeat' split
 all_goals first | exact d i (by omega) | exact qK (g _ (by omega) (by omega)) | exact f _ _ (by omega) (by omega) | omega
variable{prog:GC}{w:PB}{A:AD}{E:gA->zA->Prop}{s:zA}{kd:bP}
variable(hL:vI prog w A E s N kd P)(hk:kindOf VC=kd)(hz:hi<=(arrOf VC).size)(hF:Fr P lo hi VC st)
include hL hk hz hF
theorem rO(f:i<hi)(g:j<hi)(h:Q (aA (N.blt (KK N (arrOf st) i) (KK N (arrOf st) j))) st):wpS (model prog w) A E s (ltAt' i j) Q st:=by
 rw[ltAt'_eq]
 have:=hF.z
 have b:i<(arrOf st).size:=by lia
 have c:j<(arrOf st).size:=by lia
 rw[AE (mF b),AE (mF c)] at h;exact kK (OD hF.a b λd=>OD hF.a c λe=>hL st _ _ Q (hF.k.trans hk) d e h)
theorem lLa(hr:lo+a=hi)(M:1<=a)(h:∀m C,Fr P lo hi VC C->1<=m->m<=a->Up N (arrOf C) lo m->Q (aA m) C):wpS (model prog w) A E s (countRun' lo a) Q st:=by
 subst hr;have b:∀{x},x<a->lo+x<lo+a:=λh=>cR h lo
 have l:∀{x},x<a->lo+x-1<lo+a:=λh=>TF (PF ..) (b h)
 have b0:lo<lo+a:=Nat.lt_add_of_pos_right M;refine jF (I:=λx c u=>u=st/\c=(eA,x)/\Up N (arrOf st) lo x) (R:=λc u=>u=st/\c.1=eA/\1<=c.2/\c.2<=a/\Up N (arrOf st) lo c.2/\(c.2=a\/N.klt (KK N (arrOf st) (lo+c.2)) (KK N (arrOf st) (lo+c.2-1)))) ?s ?f ⟨rfl,rfl,.one⟩ ?_
 case f =>
  rintro c u ⟨rfl,rfl,hu⟩
  rw[VU M] at hu ⊢;exact⟨rfl,rfl,M,kB _,hu,.inl rfl⟩
 case s =>
  rintro x c u t d ⟨rfl,rfl,hu⟩
  exact RC (rO hL hk hz hF (by first | exact b d | exact l d | exact l (TF (PF ..) d) | lia) (by first | exact b d | exact l d | exact l (TF (PF ..) d) | lia) (WB (λc=>bB ⟨rfl,rfl,t,eE d,hu,.inr c⟩) λc=>bB ⟨rfl,rfl,hu.grow jJ (BK c)⟩))
 rintro⟨K,n⟩ u ⟨rfl,e,Z,F,hu,O⟩
 cases e;dsimp only at Z F hu O;refine aE (λ_=>bB (h _ _ hF Z F hu)) λe1=>?_
 have U:=O.resolve_left e1;have X:n<a:=mK F e1
 dsimp -zeta only
 extract_lets -underBinder jp
 have sz:∀{v m},Fr P lo (lo+a) VC v->m<=a->lo+m<=(arrOf v).size:=λh hm=>by rw[h.z];lia
 refine uL (f:=jp) (J:=λ_ u=>Fr P lo (lo+a) VC u/\Dw N (arrOf u) lo (n+1)) (λ_ st ⟨hF,hd⟩=>?_) λB=>WB (λc=>RC (rO hL hk hz hF (by first | exact b X | exact l X | exact b0 | lia) (by first | exact b X | exact l X | exact b0 | lia) (WB (λ_=>bB (h _ _ hF Z F hu)) λc=>RC (vV (B () _ ?_))))) λc=>B () _ ⟨hF, ?_⟩
 rotate_left
 ·have o:∀k,lo<=k->k<lo+n->KK N (arrOf u) k=KK N (arrOf u) (lo+n-1):=λk k1 k2=>by
   have c:=BK c;have le:∀i j,i<=j->j<n->N.kle (KK N (arrOf u) (lo+i)) (KK N (arrOf u) (lo+j)):=λi j Y B=>(zL Y).elim (λe=>e ▸ bV _) λe=>hu i j e B
   have a1:=le 0 (k-lo) (by lia) (by lia);have a2:=le (k-lo) (n-1) (by lia) (by lia);rw[show lo+(k-lo)=k by lia] at a1 a2;rw[show lo+(n-1)=lo+n-1 by lia] at a2;exact uh a2 (jJ c a1)
  refine⟨hF.TJ (kB _) (by lia) (sz hF F),Mn.eqv (qS (λi j Y B=>?_) (qK U)) (KK_mirror_equal (sz hF F) o)⟩;rw[o (lo+i) (by lia) (by lia),o (lo+j) (by lia) (by lia)];exact bV _
 ·obtain rfl:n=1:=by lia
  exact qS .one (qK U)
 refine uO (jF (I:=λx c u=>Fr P lo (lo+a) VC u/\c.1=eA/\c.2.1=x/\Dw N (arrOf u) lo x/\jN N (arrOf u) lo x c.2.2) (R:=λc u=>Fr P lo (lo+a) VC u/\c.1=eA/\1<=c.2.1/\c.2.1<=a/\Dw N (arrOf u) lo c.2.1/\jN N (arrOf u) lo c.2.1 c.2.2) ?_ ?_ ⟨hF,rfl,rfl,hd,.one (WM ..)⟩ ?_)
 ·rintro x ⟨K,m,q⟩ u t d ⟨hF,e,e2,hd,p⟩
  cases e;obtain rfl:x=m:=e2.symm;dsimp only at hd p;refine RC (rO hL hk hz hF (by first | exact b d | exact l d | exact l (TF (PF ..) d) | lia) (by first | exact b d | exact l d | exact l (TF (PF ..) d) | lia) (WB (λc=>?_) λc=>RC (rO hL hk hz hF (by first | exact b d | exact l d | exact l (TF (PF ..) d) | lia) (by first | exact b d | exact l d | exact l (TF (PF ..) d) | lia) (WB (λ_=>bB ⟨hF,rfl,by dsimp only;lia,eE d,hd,p⟩) λc'=>bB ⟨hF,rfl,rfl, ?_⟩))))
  ·have g:=qS hd (qK c);exact WB (λ_=>RC (vV (bB ⟨hF.TJ (by have:=p.1;dsimp only;lia) (by dsimp only;lia) (sz hF (eE d)),rfl,rfl,g.eqv (p.TJ (sz hF (eE d))),.one (WM ..)⟩))) λ_=>bB ⟨hF,rfl,rfl,g,.one (WM ..)⟩
  ·have ee:=uh (BK c) (BK c');refine⟨qS hd (BK c'),CL p.1,λk k1 k2=>?_⟩;rw[show lo+(x+1)-1=lo+x from rfl];rcases zL (AL k2) with rfl | k3
   ·rfl
   ·rw[p.2 k (by dsimp only at k1;lia) k3];exact ee
 ·rintro c u ⟨hF,e,e2,hd⟩
  rw[VU X] at e2 hd;exact⟨hF,e,e2 ▸ M,NF e2,e2 ▸ hd⟩
 ·rintro⟨K,m,q⟩ u ⟨hF,e,m1,H,hd,p⟩
  cases e;dsimp only at m1 H hd p
  extract_lets -underBinder r s2 m' q'
  have fu:r=eA:=rfl;have Vt:m'=m:=rfl;have eu:q'=q:=rfl
  clear_value r m' q'
  subst fu Vt eu
  dsimp -zeta only
  extract_lets -underBinder jp
  refine uL (f:=jp) (J:=λ_ u=>Fr P lo (lo+a) VC u/\Dw N (arrOf u) lo m') (λ_ st ⟨hF,hd⟩=>RC (vV (jF (I:=λx c u=>Fr P lo (lo+a) VC u/\c.1=eA/\c.2=x/\Up N (arrOf u) lo x) (R:=λc u=>Fr P lo (lo+a) VC u/\c.1=eA/\1<=c.2/\c.2<=a/\Up N (arrOf u) lo c.2) ?_ ?_ ⟨hF.TJ (kB _) (by lia) (sz hF H),rfl,rfl,hd.TJ (sz hF H)⟩ ?_))) λB=>WB (λ_=>RC (vV (B () _ ⟨hF.TJ (by have:=p.1;lia) (by lia) (sz hF H),hd.eqv (p.TJ (sz hF H))⟩))) λ_=>B () _ ⟨hF,hd⟩
  ·rintro x ⟨K,y⟩ u t d ⟨hF,e,e2,hu⟩
   cases e;obtain rfl:x=y:=e2.symm;exact RC (rO hL hk hz hF (by first | exact b d | exact l d | exact l (TF (PF ..) d) | lia) (by first | exact b d | exact l d | exact l (TF (PF ..) d) | lia) (WB (λ_=>bB ⟨hF,rfl,TB m1 t,eE d,hu⟩) λc=>bB ⟨hF,rfl,rfl,hu.grow jJ (BK c)⟩))
  ·rintro c u ⟨hF,e,e2,hu⟩
   rw[VU H] at e2 hu;exact⟨hF,e,e2 ▸ M,NF e2,e2 ▸ hu⟩
  ·rintro⟨K,y⟩ u ⟨hF,e,y1,y2,hu⟩
   obtain rfl:K=eA:=e;exact bB (h _ _ hF y1 y2 hu)
theorem kLa{n ok:Nat}(J:lo+n<=hi)(B:ok<=n)(hu:Up N (arrOf st) lo ok)(h:∀d,Fr P lo hi VC d->Up N (arrOf d) lo n->Q bA d):wpS (model prog w) A E s (binarySort' lo n ok) Q st:=by
 rw[binarySort'_eq];refine jF (I:=λk c u=>c=(eA,())/\Fr P lo hi VC u/\Up N (arrOf u) lo (min k n)) (R:=λc u=>c=(eA,())/\Fr P lo hi VC u/\Up N (arrOf u) lo n) ?_ (λc u z=>⟨z.1,z.2.1,by have:=z.2.2;rwa[Nat.min_eq_right (Nat.le_max_right ..)] at this⟩) ⟨rfl,hF,λi j m K=>hu i j m (by lia)⟩ ?_
 ·rintro k c u M p ⟨rfl,hF,hu⟩
  rw[sR (eE p)] at hu;refine jF (I:=λx c v=>v=u/\c.1=eA/\c.2.1<=c.2.2/\c.2.2<=k/\c.2.2-c.2.1<=k-x/\(∀i,i<c.2.1->N.kle (KK N (arrOf u) (lo+i)) (KK N (arrOf u) (lo+k)))/\∀i,c.2.2<=i->i<k->N.klt (KK N (arrOf u) (lo+k)) (KK N (arrOf u) (lo+i))) (R:=λc v=>v=u/\c.1=eA/\c.2.1<=k/\(∀i,i<c.2.1->N.kle (KK N (arrOf u) (lo+i)) (KK N (arrOf u) (lo+k)))/\∀i,c.2.1<=i->i<k->N.klt (KK N (arrOf u) (lo+k)) (KK N (arrOf u) (lo+i))) ?_ (λc u z=>⟨z.1,z.2.1,by have:=z.2.2;lia,z.2.2.2.2.2.1,λi hi=>z.2.2.2.2.2.2 i (by have:=z.2.2;lia)⟩) ⟨rfl,rfl,pE _,kB _,kB _,(λi hi=>absurd hi (tR i)),λi a b=>absurd b (yV.mpr a)⟩ ?_
  ·rintro x ⟨C,l,r⟩ v _ O ⟨rfl,e,F,q,U,t,y⟩
   cases e
   dsimp only at *
   refine WB (λg=>bB ⟨rfl,rfl,TB F q,t,λi hi=>y i (TB g hi)⟩) λg=>RC (rO hL hk hz hF (by lia) (by lia) (WB (λc=>bB ⟨rfl,rfl,by dsimp only;lia,by dsimp only;lia,by dsimp only;lia,t,λi f o=>?_⟩) λc=>bB ⟨rfl,rfl,by dsimp only;lia,q,by dsimp only;lia,λi f=>?_,y⟩))
   ·exact(zL f).elim (λe=>e ▸ c) λe=>KeyOrd.klt_of_klt_of_kle c (hu _ _ e o)
   ·have c:=BK c;exact(zL (AL f)).elim (λe=>e ▸ c) λe=>jJ (hu _ _ e (by lia)) c
  ·rintro⟨C,l,r⟩ v ⟨rfl,e,f,o,H⟩
   cases e;show wpS _ _ _ _ (moveDown' _ _>>=λ_=>pure (ForInStep.yield (eA,()))) _ _;rw[moveDown'_eq]
   have:=hF.z
   refine sO (bB ⟨rfl,hF.to (bubble_perm _ _ _) λi hi=>?_, ?_⟩)
   ·rw[getElem?_bubble (by lia) _ (PF ..),JA (by lia),JA (by lia)]
   ·rw[sR p];exact Em (by lia) f hu o H
 ·rintro c u ⟨rfl,hF,hu⟩
  exact bB (h u hF hu)
end
theorem T9:∀(l:List LA) (n:Nat) (arr:Array LA),off+n+l.length<=arr.size->((l.zipIdx n).foldl (λa p=>a.setIfInBounds (off+p.2) p.1) arr).toList=arr.toList.take (off+n)++(l++arr.toList.drop (off+n+l.length))
 |[],n,arr,_=>(zO ..).symm
 |x::l,n,arr,h=>by
  rw[YB] at h;refine(T9 l (n+1) (arr.setIfInBounds (off+n) x) (by rw[Array.size_setIfInBounds];lia)).trans ?_;rw[Eg];have c:arr.toList.length=arr.size:=uD
  generalize arr.toList=L at *
  generalize arr.size=z at *
  subst c;have b:(L.take (off+n)).length=off+n:=by rw[iI];lia
  have e1:(L.set (off+n) x)=L.take (off+n)++x::L.drop (off+n+1):=by rw[List.set_eq_take_append_cons_drop,MA (by lia)]
  have e2:(L.set (off+n) x).take (off+(n+1))=L.take (off+n)++[x]:=by rw[e1,List.take_append,b,AK (by lia),show off+(n+1)-(off+n)=1 by lia];rfl
  have d:(L.set (off+n) x).drop (off+(n+1)+l.length)=L.drop (off+n+(l.length+1)):=by rw[e1,List.drop_append,b,Tg (by lia),show off+(n+1)+l.length-(off+n)=l.length+1 by lia,l3,VO,show off+n+1+l.length=off+n+(l.length+1) by lia];rfl
  rw[e2,d,rG,YB];rfl
noncomputable def seg(l:List LA)(s n:Nat):List LA:=(l.drop s).take n
def j0{s a b:Nat}:seg l s (a+b)=seg l s a++seg l (s+a) b:=by
 unfold seg;rw[n4,VO]
def XT{s n:Nat}(h:s+n<=l.length):(seg l s n).length=n:=by
 unfold seg;rw[iI,rK]
 lia
def Ox{L z:List LA}{a k b m nb:Nat}(hk:k<=b)(g:m<=nb)(j:a+b+nb<=L.length)(o:z.length=b-k+m) :
  seg (L.take (a+k)++(z++L.drop (a+b+m))) a (b+nb)=seg L a k++(z++seg L (a+b+m) (nb-m))/\∀i,i<a\/a+b+nb<=i->(L.take (a+k)++(z++L.drop (a+b+m)))[i]?=L[i]?:=by
 have e1:L.take (a+k)=L.take a++seg L a k:=n4 ..
 have e2:L.drop (a+b+m)=seg L (a+b+m) (nb-m)++L.drop (a+b+nb):=by
  have:=zO (nb-m) (L.drop (a+b+m))
  rw[VO,show a+b+m+(nb-m)=a+b+nb by lia] at this;exact this.symm
 have p:=XT (l:=L) (s:=a) (n:=k) (by lia);have q:=XT (l:=L) (s:=a+b+m) (n:=nb-m) (by lia);have e:(L.take a).length=a:=by rw[iI];lia
 have ld:∀i,(L.drop (a+b+nb))[i]?=L[a+b+nb+i]?:=λi=>FO
 have lt:∀i,i<a->(L.take a)[i]?=L[i]?:=λi h=>by rw[EO,MA h]
 rw[e1,e2]
 generalize seg L a k=c at *
 generalize seg L (a+b+m) (nb-m)=d at *
 generalize L.drop (a+b+nb)=R at *
 generalize L.take a=X at *
 constructor
 ·unfold seg;rw[rG,List.drop_left' e,show c++(z++(d++R))=(c++(z++d))++R by simp only[rG]];exact List.take_left' (by simp only[NC];lia)
 ·intro i h;rw[show X++c++(z++(d++R))=(X++(c++(z++d)))++R by simp only[rG]];have f:(X++(c++(z++d))).length=a+b+nb:=by simp only[NC];lia
  rcases h with h | h
  ·rw[NL (by lia),NL (by lia),lt i h]
  ·rw[LL (by lia),f,ld,gJ h]
section
variable{N:KeyKind}
def UN{a:Array LA}{s n:Nat}(h:x∈seg a.toList s n):∃i,i<n/\a[s+i]?=aA x:=by
 obtain⟨i,b⟩:=OM.mp h;unfold seg at b;rw[EO] at b;split at b
 ·rw[FO,LG] at b;exact⟨i,‹_›,b⟩
 ·cases b
def aAJ{a:Array LA}{s n i:Nat}(h:(seg a.toList s n)[i]?=aA x):i<n/\a[s+i]?=aA x:=by
 unfold seg at h;rw[EO] at h;split at h
 ·rw[FO,LG] at h;exact⟨‹_›,h⟩
 ·cases h
def Qf{a:Array LA}{s n:Nat}:(a.extract s (s+n)).toList=seg a.toList s n:=by
 rw[ZQ,WQ,Ng];rfl
theorem Up.seg{a:Array LA}{lo n:Nat}(h:Up N a lo n):(seg a.toList lo n).Pairwise (le N):=BU.mpr λi j r x m=>by
 have e1:=aAJ (pC r);have e2:=aAJ (pC x)
 have:=h i j m e2.1
 rwa[AE e1.2,AE e2.2] at this
theorem Up.by{a:Array LA}{lo n:Nat}(h:(CS.seg a.toList lo n).Pairwise (le N))(r:lo+n<=a.size):Up N a lo n:=λi j m x=>by
 have hl:(CS.seg a.toList lo n).length=n:=by unfold CS.seg;rw[iI,rK,uD];lia
 have e1:=aAJ (pC (show i<(CS.seg a.toList lo n).length by lia));have e2:=aAJ (pC (show j<(CS.seg a.toList lo n).length by lia));rw[AE e1.2,AE e2.2];exact BU.mp h _ _ _ _ m
def Up.join{a:Array LA}{s n m:Nat}(h:Up N a s n)(k:Up N a (s+n) m)(n1:1<=n)(c:N.kle (KK N a (s+n-1)) (KK N a (s+n))):Up N a s (n+m):=by
 induction m with
 |zero=>exact h
 |succ m x =>
  refine Mn.grow jJ (x λi j r y=>k i j r (Qh y)) ?_
  cases m with
  |zero=>exact c
  |succ m =>
   have:=k m (m+1) (VF m) (VF _)
   rw[uK,uK] at this;exact this
def Ly{d e f b z:List LA}(j:(d++e).Pairwise (le N))(k:(f++b).Pairwise (le N))(i:∀p∈d,∀q∈f++b,le N p q)(l:∀p∈e,∀q∈b,le N p q)(g:aAv (le N) (e++f) z):(d++(z++b)).Pairwise (le N):=by
 obtain⟨m,_,n⟩:=tI.mp j;obtain⟨_,o,r⟩:=tI.mp k;refine tI.mpr ⟨m,tI.mpr ⟨g.2,o,λp a q c=>(SD.mp (g.1.mem_iff.mp a)).elim (λh=>l p h q c) λh=>r p h q c⟩,λp a q c=>(SD.mp c).elim (λh=>(SD.mp (g.1.mem_iff.mp h)).elim (n p a q) λh=>i p a q (VE _ h)) λh=>i p a q (SF _ h)⟩
variable{prog:GC}{w:PB}{A:AD}{E:gA->zA->Prop}{s:zA}
variable{kd:bP}{P:LA->Prop}
def jLa{u st:HB}(q:Q () u):wpS (model prog w) A E s (set u:StateT HB oF Unit) Q st:=wpS_modify (f:=λ_=>u) q
theorem nLa{st:HB}{i sa na pw nb q:Nat}{Q:Bool->HB->Prop}(F:vI prog w A E s N kd P)(hk:kindOf st=kd)(t:AP P (arrOf st))(H:failedOf st=eA)(h1:(pendingOf st)[i]?=aA (sa,na,pw))(h2:(pendingOf st)[i+1]?=aA (sa+na,nb,q))(I:1<=na)(n2:1<=nb)(v:sa+na+nb<=(arrOf st).size)(J:Up N (arrOf st) sa na)(M:Up N (arrOf st) (sa+na) nb)
  (h:∀b,kindOf b=kd->pendingOf b=((pendingOf st).setIfInBounds i (sa,na+nb,pw)).eraseIdxIfInBounds (i+1)->failedOf b=eA->(arrOf b).Perm (arrOf st)->(∀i,i<sa\/sa+na+nb<=i->(arrOf b)[i]?=(arrOf st)[i]?)->Up N (arrOf b) sa (na+nb)->Q bA b):wpS (model prog w) A E s (mergeAt' i) Q st:=by
 refine kK ?_;dsimp only;rw[h1,h2];refine RC (jLa ?_);have same:N.kle (KK N (arrOf st) (sa+na-1)) (KK N (arrOf st) (sa+na))->Q bA (setPending st (((pendingOf st).setIfInBounds i (sa,na+nb,pw)).eraseIdxIfInBounds (i+1))):=λc=>h _ hk rfl H (.refl _) (λ_ _=>rfl) (J.join M I c)
 have K:=mF (show sa+na<(arrOf st).size by lia);have ex:=mF (show sa+na-1<(arrOf st).size by lia);rw[AE K,AE ex] at same;refine OD (arr:=arrOf st) t (by lia) λhy=>qO (arr:=arrOf st) F hk (by lia) (by lia) t hy J λk y=>aE (λe=>bB (same (y.2.1 (na-1) _ (by have:=y.1;omega) (by rw[<- LO I];exact ex)))) λe1=>?_
 have e1:k<na:=by have:=y.1;lia
 have ei:sa+k+(na-k)-1=sa+na-1:=by lia
 refine OD (arr:=arrOf st) t (by omega) λhx=>qO (arr:=arrOf st) F hk (by omega) (by lia) t hx M λm B=>aE (λe=>bB (same ?_)) λe2=>?_
 ·have:=B.2.2 0 _ (by lia) n2 K
  simp only[ei] at this;exact this
 clear same;simp only[ei] at B;have m1:=B.1;have O:=J.seg;have R:=M.seg
 have hl:∀{p},p∈seg (arrOf st).toList sa na->le N p (arrOf st)[sa+na-1]:=λg=>by
  obtain⟨i,l,d⟩:=UN g;rcases zL (T2 l) with rfl | n
  ·rw[<- LO I,ex] at d;cases d;exact bV _
  ·have:=J i (na-1) n (by lia)
   rwa[<- LO I,AE d,AE ex] at this
 have H:∀{p},p∈seg (arrOf st).toList (sa+na) nb->le N (arrOf st)[sa+na] p:=λg=>by
  obtain⟨i,l,d⟩:=UN g;rcases Nat.eq_zero_or_pos i with rfl | n
  ·have:=d.symm.trans K
   cases this;exact bV _
  ·have:=M 0 i n l
   rwa[AE d,qV,AE K] at this
 have sA:seg (arrOf st).toList sa na=seg (arrOf st).toList sa k++seg (arrOf st).toList (sa+k) (na-k):=by rw[<- j0,gJ (eE e1)]
 have sB:seg (arrOf st).toList (sa+na) nb=seg (arrOf st).toList (sa+na) m++seg (arrOf st).toList (sa+na+m) (nb-m):=by rw[<- j0,gJ m1]
 rw[sA] at O hl;rw[sB] at R H;have U:((arrOf st).extract (sa+k) (sa+na)).toList=seg (arrOf st).toList (sa+k) (na-k):=by rw[<- Qf,uK,gJ (eE e1)]
 have X:((arrOf st).extract (sa+na) (sa+na+m)).toList=seg (arrOf st).toList (sa+na) m:=Qf;have za:((arrOf st).extract (sa+k) (sa+na)).size=na-k:=by rw[Ih];lia
 have zb:((arrOf st).extract (sa+na) (sa+na+m)).size=m:=by rw[Ih];lia
 have mp:MP N P ((arrOf st).extract (sa+k) (sa+na)) ((arrOf st).extract (sa+na) (sa+na+m)):=by
  refine⟨t.ext,t.ext,U ▸ (tI.mp O).2.1,X ▸ (tI.mp R).1,by lia,by lia,λp g=>?_,λi l h p g=>?_⟩
  ·rw[dh];obtain⟨i,l,d⟩:=UN (U ▸ BO.mpr g);exact y.2.2 (k+i) p (NG ..) (by omega) (by rw[<- uK];exact d)
  ·rw[dh];obtain⟨j,hj,d⟩:=UN (X ▸ BO.mpr g)
   have:=B.2.1 j p hj d
   simpa only[show sa+k+i=sa+na-1 by lia] using this
 have fin:∀(z:Array LA) b,YC (setPending st (((pendingOf st).setIfInBounds i (sa,na+nb,pw)).eraseIdxIfInBounds (i+1))) b->aAv (le N) (((arrOf st).extract (sa+k) (sa+na)).toList++((arrOf st).extract (sa+na) (sa+na+m)).toList) z.toList->wpS (model prog w) A E s ((modify λu=>setArr u (z.toList.zipIdx.foldl (λa x=>a.setIfInBounds (sa+k+x.2) x.1) (arrOf u)))>>=λ_=>(get:StateT HB oF HB)>>=λu=>pure (failedOf u).isNone) Q b:=λz b C v=>by
  refine sO (kK (bB ?_));have Y:(failedOf b).isNone=bA:=by rw[C.f];show(failedOf st).isNone=bA;rw[‹failedOf st=eA›];rfl
  show Q (failedOf b).isNone _;rw[Y];have o:arrOf b=arrOf st:=C.a;rw[U,X] at v;have r:z.toList.length=na-k+m:=by rw[v.1.length_eq,NC,XT (by rw[uD];omega),XT (by rw[uD];lia)]
  have el:=T9 (off:=sa+k) z.toList 0 (arrOf b) (by rw[o,r];lia);rw[o,r,qV,show sa+k+(na-k+m)=sa+na+m by lia] at el;obtain⟨g1,g2⟩:=Ox (L:=(arrOf st).toList) (z:=z.toList) (nb:=nb) (eE e1) m1 (by rw[uD];exact ‹sa+na+nb<=_›) r
  have p':((arrOf st).toList.take (sa+k)++(z.toList++(arrOf st).toList.drop (sa+na+m))).Perm (arrOf st).toList:=by
   have:=zO (sa+k) (arrOf st).toList
   conv=>rhs;rw[<- this,<- zO (na-k+m) ((arrOf st).toList.drop (sa+k)),VO,show sa+k+(na-k+m)=sa+na+m by lia]
   refine Zg _ (List.Perm.append_right _ (v.1.trans (.of_eq ?_)));rw[show seg (arrOf st).toList (sa+na) m=seg (arrOf st).toList (sa+k+(na-k)) m by rw[uK,gJ (eE e1)],<- j0];rfl
  rw[<- el] at g1 g2 p';have pm:=Fg.mpr p';refine h _ (C.k.trans hk) C.p (C.f.trans ‹_›) (by rw[<- o] at pm ⊢;exact pm) (λi l=>?_) (.by ?_ ?_)
  ·have:=g2 i l
   rw[LG,LG,<- o] at this;rw[<- o];exact this
  ·show(seg (JR _ (arrOf b) _).toList _ _).Pairwise _;rw[o,g1];exact Ly O R (λp g q Z=>le.tr (by obtain⟨i,l,d⟩:=UN g;exact y.2.1 i p l d) (H Z)) (λp g q Z=>le.tr (hl (SF _ g)) (by obtain⟨j,hj,d⟩:=UN Z;exact B.2.2 (m+j) q (NG ..) (by lia) (by rw[<- uK];exact d))) v
  ·show _<=(JR _ (arrOf b) _).size;rw[o,pm.size_eq,<- uK];exact ‹sa+na+nb<=_›
 exact WB (λ_=>RC (pLa F mp hk fin)) λ_=>RC (oLa F mp hk fin)
end
def aA0{c:Prop}[Decidable c]{x y:Nat}(h:x<=y):(if c then x else y)<=y:=by split<;>lia
section
variable{N:KeyKind}{a b:Array LA}
def aAo(N:KeyKind)(a:Array LA):Nat->List (Nat×Nat×Nat)->Nat->Prop
 |s,[],e=>s=e
 |s,x::r,e=>x.1=s/\1<=x.2.1/\Up N a s x.2.1/\aAo N a (s+x.2.1) r e
theorem aAo.le:∀{s:Nat} {r:List (Nat×Nat×Nat)} {e:Nat},aAo N a s r e->s+r.length<=e
 |s,[],e,h=>NF h
 |s,x::r,e,h=>by
  have:=aAo.le h.2.2.2
  have:=h.2.1
  rw[YB]
  lia
theorem aAo.app:∀{s:Nat} {B j:List (Nat×Nat×Nat)} {e:Nat},aAo N a s (B++j) e↔∃m,aAo N a s B m/\aAo N a m j e
 |s,[],j,e=>⟨λh=>⟨s,rfl,h⟩,λ⟨m,h1,h2⟩=>by have h1:s=m:=h1;rw[h1];exact h2⟩
 |s,x::r,j,e=>by
  constructor
  ·rintro⟨h1,h2,h3,y⟩
   obtain⟨m,h5,C⟩:=aAo.app.mp y;exact⟨m,⟨h1,h2,h3,h5⟩,C⟩
  ·rintro⟨m,⟨h1,h2,h3,y⟩,h5⟩
   exact⟨h1,h2,h3,aAo.app.mpr ⟨m,y,h5⟩⟩
theorem aAo.same:∀{s:Nat} {r:List (Nat×Nat×Nat)} {e:Nat},aAo N a s r e->(∀i,s<=i->i<e->b[i]?=a[i]?)->aAo N b s r e
 |s,[],e,h,_=>h
 |s,x::r,e,h,k=>by
  have:=aAo.le h.2.2.2
  refine⟨h.1,h.2.1,λi j m y=>?_,aAo.same h.2.2.2 λi h1=>k i (by lia)⟩;rw[AV (k (s+i) (by lia) (by lia)),AV (k (s+j) (by lia) (by lia))];exact h.2.2.1 i j m y
theorem A6{pw:Nat}:∀{s e:Nat} {rs:List (Nat×Nat×Nat)} (i:Nat),aAo N a s rs e->aAo N a s (rs.modify i λx=>(x.1,x.2.1,pw)) e
 |s,e,[],i,h=>by cases i<;>exact h
 |s,e,x::r,0,h=>h
 |s,e,x::r,i+1,h=>⟨h.1,h.2.1,h.2.2.1,A6 i h.2.2.2⟩
structure SI(N:KeyKind)(kd:bP)(P:LA->Prop)(a:Array LA)(st:HB)(lo:Nat)(rs:List (Nat×Nat×Nat)):Prop where
 k:kindOf st=kd
 f:failedOf st=eA
 q:(arrOf st).Perm a
 ap:AP P (arrOf st)
 p:(pendingOf st).toList=rs
 ch:aAo N (arrOf st) 0 rs lo
 le:lo<=a.size
variable{prog:GC}{w:PB}{A:AD}{E:gA->zA->Prop}{s:zA}
variable{kd:bP}{P:LA->Prop}{st:HB}{lo n:Nat}{rs:List (Nat×Nat×Nat)}
def SI.Xb(h:SI N kd P a st lo rs):(pendingOf st).size=rs.length:=by rw[<- h.p,uD]
theorem SI.z(h:SI N kd P a st lo rs):(arrOf st).size=a.size:=h.q.size_eq
def SI.to(h:SI N kd P a st lo rs)(f:Fr P lo m st j):SI N kd P a j lo rs:=⟨f.k.trans h.k,f.f.trans h.f,f.q.trans h.q,f.a,by rw[f.p];exact h.p,h.ch.same λi _ m=>f.o i (.inl m),h.le⟩
def SI.fr(h:SI N kd P a st lo rs):Fr P lo j st st:=⟨rfl,rfl,rfl,.refl _,λ_ _=>rfl,h.ap⟩
theorem SI.push(h:SI N kd P a st lo rs)(h1:1<=m)(h2:lo+m<=a.size)(u:Up N (arrOf st) lo m):SI N kd P a (setPending st ((pendingOf st).push (lo,m,0))) (lo+m) (rs++[(lo,m,0)]):=⟨h.k,h.f,h.q,h.ap,(K3).trans (by rw[h.p]),aAo.app.mpr ⟨lo,h.ch,rfl,h1,u,rfl⟩,h2⟩
def SI.mod{i pw:Nat}(h:SI N kd P a st lo rs):SI N kd P a (setPending st ((pendingOf st).modify i λx=>(x.1,x.2.1,pw))) lo (rs.modify i λx=>(x.1,x.2.1,pw)):=⟨h.k,h.f,h.q,h.ap,(Array.toList_modify).trans (by rw[h.p]),A6 i h.ch,h.le⟩
variable(hL:vI prog w A E s N kd P)
include hL
theorem Nf{i:Nat}{Q:Bool->HB->Prop}(h:SI N kd P a st lo rs)(e:i+1<rs.length)(v:∀c g,SI N kd P a c lo g->g.length+1=rs.length->(∀i,lo<=i->(arrOf c)[i]?=(arrOf st)[i]?)->Q bA c):wpS (model prog w) A E s (mergeAt' i) Q st:=by
 obtain⟨pre,x,y,post,rfl,d⟩:∃pre x y post,rs=pre++x::y::post/\pre.length=i:=by(refine⟨rs.take i,rs[i],rs[i+1],rs.drop (i+2), ?_,by rw[iI];lia⟩;rw[<- wO (by omega),<- wO (by omega),zO])
 obtain⟨sa,na,pw⟩:=x;obtain⟨Y,nb,q⟩:=y;obtain⟨m,B,C⟩:=aAo.app.mp h.ch;obtain⟨rfl,F,H,rfl,I,J,t⟩:=C;have K:=t.le;have Z:=h.z;have o:=h.le;have l:∀j,(pendingOf st)[j]?=(pre++(sa,na,pw)::(sa+na,nb,q)::post)[j]?:=λj=>by rw[<- LG,h.p]
 dsimp only at *
 refine nLa (sa:=sa) (na:=na) (pw:=pw) (nb:=nb) (q:=q) hL h.k h.ap h.f ?_ ?_ F I (by lia) H J λc M O R u r U=>?_
 ·rw[l,LL (by lia),d,ZO];rfl
 ·rw[l,LL (by lia),d,show i+1-i=1 by lia];rfl
 ·refine v c (pre++(sa,na+nb,pw)::post) ⟨M,R,u.trans h.q,λx X=>h.ap x (u.mem_iff.mp X), ?_,aAo.app.mpr ⟨sa,B.same λi _ e=>r i (.inl e),rfl,by dsimp only;lia,U,by rw[<- uK];exact t.same λi e _=>r i (.inr e)⟩,o⟩ (by simp only[NC,YB];lia) λi e=>r i (.inr (by lia))
  rw[O,Array.toList_eraseIdxIfInBounds,Eg,h.p,<- d,List.set_append_right _ _ (kB _),ZO,QM,List.eraseIdx_append_of_length_le (by lia),show pre.length+1-pre.length=1 by lia];rfl
theorem qLa(hk:kindOf st=kd)(Z:failedOf st=eA)(B:pendingOf st=#[])(ha:AP P (arrOf st))(J:∀d,failedOf d=eA->(arrOf d).Perm (arrOf st)->Up N (arrOf d) 0 (arrOf d).size->Q () d):wpS (model prog w) A E s sortRuns' Q st:=by
 rw[sortRuns'_eq];obtain⟨a,K⟩:∃a,arrOf st=a:=⟨_,rfl⟩
 have h0:SI N kd P a st 0 []:=⟨hk,Z,K ▸ .refl _,ha,by rw[B],rfl,pE _⟩
 refine kK ?_;rw[K] at J ⊢;refine jF (I:=λx c u=>c.1=eA/\x<=c.2/\∃rs,SI N kd P a u c.2 rs) (R:=λc u=>c.1=eA/\∃rs,SI N kd P a u a.size rs) ?step ?fin ⟨rfl,kB _,[],h0⟩ ?post
 case fin =>
  rintro c u ⟨e,M,rs,h⟩
  have:=h.le
  rw[show c.2=a.size by lia] at h;exact⟨e,rs,h⟩
 case step =>
  rintro x ⟨p,lo⟩ u _ M ⟨e,r,rs,h⟩
  cases e;have r:x<=lo:=r;have h:SI N kd P a u lo rs:=h;have O:=h.z;have C:=h.le;refine WB (λe=>bB ⟨rfl,rs,by rw[show a.size=lo by dsimp only at e;lia];exact h⟩) λe=>RC (lLa (hi:=a.size) hL h.k (NF O.symm) h.fr (by dsimp only at *;lia) (by dsimp only at *;lia) λm st1 f1 m1 m2 hu=>?_)
  refine WB (λ_=>uO (RC (kLa (hi:=a.size) hL h.k (NF O.symm) f1 (by dsimp only at *;lia) (by dsimp only at *;lia) hu λB0 f2 hu=>WB (λz=>nomatch z) λ_=>?_))) λ_=>?_
  all_goals
   refine kK ?_
   first | have g:=h.to f2 | have g:=h.to f1
   dsimp only at *
   split
   ·refine jF (I:=λx c v=>c.1=eA/\∃rs,SI N kd P a v lo rs/\Up N (arrOf v) lo _) (R:=λc v=>c.1=eA/\∃rs,SI N kd P a v lo rs/\Up N (arrOf v) lo _) ?_ (λ_ _ z=>z) ⟨rfl,rs,g,hu⟩ ?_
    ·rintro y ⟨p,⟨⟩⟩ v _ _ ⟨e,rs,h,hu⟩
     cases e;have B:=h.Xb;refine kK ?_;split
     ·rename_i U;refine WB (λ_=>bB ⟨rfl,rs,h,hu⟩) λ_=>RC (Nf hL h ?_ λd l F _ o=>WB (λz=>nomatch z) λ_=>bB ⟨rfl,l,F,λi j t X=>by rw[AV (o _ (NG ..)),AV (o _ (NG ..))];exact hu i j t X⟩)
      split at U
      ·lia
      ·cases U
     ·exact bB ⟨rfl,rs,h,hu⟩
    ·rintro⟨p,⟨⟩⟩ v ⟨e,rs,h,hu⟩
     cases e;exact sO (sO (bB ⟨rfl,by dsimp only;lia,_,h.mod.push (by lia) (by lia) hu⟩))
   ·exact sO (bB ⟨rfl,by dsimp only;lia,_,g.push (by lia) (by lia) hu⟩)
 case post =>
  rintro⟨p,c2⟩ u ⟨e,rs,h⟩
  cases e;have C:=h.ch.le;refine jF (I:=λx c u=>c.1=eA/\∃rs,SI N kd P a u a.size rs/\rs.length<=1+(a.size-x)) (R:=λc u=>c.1=eA/\∃rs,SI N kd P a u a.size rs/\rs.length<=1) ?_ (λ_ _ z=>by rw[VU (pE _),ZO] at z;exact z) ⟨rfl,rs,h,by lia⟩ ?_
  ·rintro x ⟨p,⟨⟩⟩ u _ M ⟨e,rs,h,Y⟩
   cases e;have B:=h.Xb;refine kK (WB (λe=>bB ⟨rfl,rs,h,B ▸ e⟩) λe=>RC (Nf hL h ?_ λd l F l' _=>WB (λz=>nomatch z) λ_=>bB ⟨rfl,l,F,by lia⟩));have e:¬(pendingOf u).size<=1:=e;refine TF (CL (aA0 (PF _ _))) ?_
   lia
  ·rintro⟨p,⟨⟩⟩ u ⟨e,rs,h,Y⟩
   cases e;refine bB (J u h.f h.q (h.z ▸ ?_));have H:=h.ch
   match rs,Y,H with
   |[],_,H=>exact(show 0=a.size from H) ▸ λi j t X=>by lia
   |[x],_,⟨_,_,u,e⟩=>exact(show 0+x.2.1=a.size from e) ▸ (DR _).symm ▸ u
end
theorem lZ:∀a:List Int,HT.aAi a a=dA
 |[]=>rfl
 |x::b=>by rw[HT.uM,MA rfl];exact lZ b
theorem la:∀a b c:List Int,HT.aAi a b=bA->HT.aAi b c=bA->HT.aAi a c=bA
 |[],[],_,h,_=>nomatch h
 |[],_::_,[],_,h=>nomatch h
 |[],_::_,_::_,_,_=>rfl
 |_::_,[],_,h,_=>nomatch h
 |_::_,_::_,[],_,h=>nomatch h
 |x::d,y::f,z::g,h,k=>by
  rw[HT.uM] at h k ⊢;by_cases e:x=y
  ·subst e;rw[MA rfl] at h;by_cases e2:x=z
   ·rw[MA e2] at k ⊢;exact la d f g h k
   ·rw[JA e2] at k ⊢;exact k
  ·rw[JA e,iJ] at h;by_cases e2:y=z
   ·rw[JA (e2 ▸ e),iJ];omega
   ·rw[JA e2,iJ] at k;rw[JA (by omega),iJ];omega
theorem ja:∀a b c:List Int,HT.aAi a c=bA->HT.aAi a b=bA\/HT.aAi b c=bA
 |[],[],_,h=>.inr h
 |[],_::_,_,_=>.inl rfl
 |_::_,_,[],h=>nomatch h
 |_::_,[],_::_,_=>.inr rfl
 |x::d,y::f,z::g,h=>by
  rw[HT.uM] at h ⊢;rw[HT.uM];by_cases e:x=y
  ·subst e;rw[MA rfl];by_cases e2:x=z
   ·rw[MA e2] at h ⊢;exact ja d f g h
   ·rw[JA e2] at h ⊢;exact .inr h
  ·rw[JA e];by_cases e2:y=z
   ·rw[JA (e2 ▸ e)] at h;exact .inl (e2 ▸ h)
   ·rw[JA e2];by_cases i:x=z
    ·rw[iJ,iJ];lia
    ·rw[JA i,iJ] at h;rw[iJ,iJ];lia
theorem mZ:∀a b:List Int,HT.aAi a b=dA->HT.aAi b a=dA->a=b
 |[],[],_,_=>rfl
 |[],_::_,h,_=>nomatch h
 |_::_,[],_,h=>nomatch h
 |x::c,y::d,h,k=>by
  rw[HT.uM] at h k;by_cases e:x=y
  ·subst e;rw[MA rfl] at h k;rw[mZ c d h k]
  ·rw[JA e,decide_eq_false_iff_not] at h;rw[JA (λz=>e z.symm),decide_eq_false_iff_not] at k
   lia
@[reducible] noncomputable def kZ:KeyOrd:=⟨List Int,HT.aAi,lZ,la,ja,mZ⟩
section
variable{prog:GC}{w:PB}{A:AD}{E:gA->zA->Prop}{s:zA}
theorem yY:∀{a:List gA} {b:List Int},IntsAre a b->∃as,ReadsAll h a (b.map .int) as
 |_,_,.nil=>⟨_,.nil⟩
 |_,_,.cons n t r=>by(obtain⟨as,r⟩:=yY r;exact⟨_,.cons (.int _ _) r⟩)
theorem IntsAre.one:∀{j:List gA} {ns m:List Int},IntsAre j ns->IntsAre j m->ns=m
 |_,_,_,.nil,.nil=>rfl
 |_,_,_,.cons n t r,.cons _ _ x=>by rw[IntsAre.one r x]
def zf(p:KG h u c)(q:KG h u f):c=f:=by
 obtain⟨o,e,_,n,d⟩:=p;obtain⟨g,a,_,i,b⟩:=q;rw[e] at a;cases a;rw[d] at b;exact(Oi b).1
theorem Ap{a b:jA}(p:KG s.heap a g)(q:KG s.heap b l)(i:IntsAre g.toList ns)(j:IntsAre l.toList f)(hu:A.units+8<cLine)
  (k:Q (decide (ns=f)) s):tA (model prog w) A (eqBool (.ref a) (.ref b)) Q E s:=by
 obtain⟨as,m⟩:=yY (h:=s.heap) i;obtain⟨bs,r⟩:=yY (h:=s.heap) j;obtain⟨o,e,c,n,d⟩:=id p;obtain⟨x,t,u,y,v⟩:=id q;refine L2.d7 (λz=>vB ?_) ?_ k
 ·subst z;obtain rfl:=zf p q;exact IntsAre.one i j
 ·have B:=L2.fb (ns:=ns)
  have:(PyData.tuple (ns.map .int)).eqv (.tuple (f.map .int))=decide (ns=f):=by simp only[fN,L2.yZ]
  rw[<- this];refine S3 (.tuple e c d m) (.tuple t u v r) ?_ ?_ ?_
  ·simp[kJ,L2.zZ]
  ·simp[kJ,L2.zZ]
  ·simp only[JL];omega
theorem nM:∀{a:List Int} {b:List gA},jV (intKind prog w) a b->IntsAre b a
 |_,_,.nil=>.nil
 |_,_,.cons hk r=>by(obtain⟨t,rfl⟩:=TU hk;exact .cons _ t (nM r))
def xD(prog:GC)(w:PB)(h:nB)(v:gA)(k:L2.XA):Prop:=∃a,v=.ref a/\L2.OC prog w h k a
theorem xD.one{k l:L2.XA}(x:xD prog w h v k)(y:xD prog w h v l):k=l:=by
 obtain⟨a,rfl,t,c,C,o1,F,n1,e1,O,H,I⟩:=x;obtain⟨_,e,P,Q,J,o2,r,n2,e2,R,B,M⟩:=y;cases e;have q:=congrArg XO (zf C J)
 injection q with m j
 injection m with m
 injection j with j
 injection j with j
 subst j;rw[e1] at e2;cases e2;rw[H] at B;cases B;exact zV m (IntsAre.one (nM I) (nM M))
noncomputable def kf(prog:GC)(w:PB)(h:nB)(v:gA):L2.XA:=open Classical in if e:∃k,xD prog w h v k then e.choose else(0,[])
def RN{k:L2.XA}(e:xD prog w h v k):kf prog w h v=k:=by
 have a:∃k,xD prog w h v k:=⟨k,e⟩
 exact(dif_pos a).trans (xD.one a.choose_spec e)
noncomputable def pk(k:L2.XA):List Int:=k.1::k.2
def JQ(prog:GC)(w:PB)(h:nB):KeyKind:={ kZ with keyOf:=λv=>aA (pk (kf prog w h v)),dflt:=[] }
theorem mT:ky (JQ prog w h) x=pk (kf prog w h x.1):=rfl
def qD(c:List L2.XA):List L2.XA:=c.mergeSort λa b=>!HT.aAi (pk b) (pk a)
def cU:(qD a).length=a.length:=(m3 ..).length_eq
def md:(qD d).Pairwise λa b=>HT.aAi (pk b) (pk a)=dA:=by
 have tr:∀a b c:L2.XA,(!HT.aAi (pk b) (pk a))=bA->(!HT.aAi (pk c) (pk b))=bA->(!HT.aAi (pk c) (pk a))=bA:=λa b c h k=>by
  rw[KO] at *
  exact jJ (O:=kZ) (a:=pk a) (b:=pk b) (c:=pk c) h k
 have to:∀a b:L2.XA,(!HT.aAi (pk b) (pk a) || !HT.aAi (pk a) (pk b))=bA:=λa b=>by
  cases e:HT.aAi (pk b) (pk a) with
  |false=>rfl
  |true=>rw[show HT.aAi (pk a) (pk b)=dA from qK (O:=kZ) (a:=pk b) (b:=pk a) e];rfl
 exact(List.pairwise_mergeSort tr to d).imp λh=>(KO _).mp h
def jd(p:c.Perm d)(h:c.Pairwise λa b=>HT.aAi (pk b) (pk a)=dA):c=qD d:=by
 refine List.Perm.eq_of_pairwise (le:=λa b=>HT.aAi (pk b) (pk a)=dA) (λa b _ _ h k=>?_) h md (p.trans (m3 ..).symm)
 have:=mZ _ _ k h
 injection this with e f
 exact zV e f
theorem tx{a b:jA}{k l:L2.XA}(B:L2.OC prog w s.heap k a)(C:L2.OC prog w s.heap l b)(hu:A.units+10<cLine)(q:Q (HT.aAi (pk k) (pk l)) s):tA (model prog w) A (keyLt' (tuples' bA) (.ref a) (.ref b)) Q E s:=by
 obtain⟨t,c,⟨o,e,_,n,d⟩,g,F,h,e1,i,j,m⟩:=B;obtain⟨J,K,⟨M,H,_,N,I⟩,p,r,u,e2,v,x,y⟩:=C;unfold pk at q;rw[HT.uM] at q;refine PySem.W.kat_lt (b:=bA) e d H I (ai (wpAny_eqBool_int ?_));cases z:k.1==l.1
 ·rw[JA (by simpa using z)] at q;exact Di (oneLt_int q)
 ·rw[MA (by simpa using z)] at q;refine ti (ai (Ap ⟨g,e1,i,h,j⟩ ⟨p,e2,v,u,x⟩ (nM m) (nM y) (by lia) ?_));by_cases f:k.2=l.2
  ·rw[vB f];rw[f,lZ] at q;exact ti (PySem.W.kat_nil q)
  ·rw[cB f];exact Di (PySem.W.kat_one _ _ (HT.xy ⟨g,e1,i,h,j⟩ ⟨p,e2,v,u,x⟩ (nM m) (nM y) (by lia) q))
def vy(hu:A.units+10<cLine)(e:∀x,P x->∃k,xD prog w s.heap x.1 k):vI prog w A E s (JQ prog w s.heap) (tuples' bA) P:=by
 intro st x y Q hk f g q;rw[lt'_eq];refine RC (wpS_get ?_);rw[hk];refine RC (wpS_lift (zR ?_));obtain⟨k,c⟩:=e x f;obtain⟨l,d⟩:=e y g;rw[mT,mT,RN c,RN d] at q;obtain⟨a,e1,c⟩:=c;obtain⟨b,e2,d⟩:=d;rw[e1,e2];exact tx c d hu ⟨rfl,bB q⟩
end
def iY{h:nB}{a b:jA}{o:qB}(f:qB->qB)(ne:b≠a)(e:h.get? b=aA o):(h.update a f).get? b=aA o:=by
 rw[Heap.get?_update_ne _ _ _ _ ne];exact e
section
variable{prog:GC}{w:PB}{A:AD}{E:gA->zA->Prop}{s:zA}
def OC.kp(m:∀b o,h.get? b=aA o->o.cls=.type "tuple"->y.get? b=aA o){k:L2.XA}{a:jA}(x:L2.OC prog w h k a):L2.OC prog w y k a:=by
 obtain⟨t1,b1,⟨o1,e1,j,B⟩,o2,C,n2,e2,r,F⟩:=x;exact⟨t1,b1,⟨o1,m _ _ e1 j,j,B⟩,o2,C,n2,m _ _ e2 r,r,F⟩
theorem xD.kp(m:∀b o,h.get? b=aA o->o.cls=.type "tuple"->j.get? b=aA o){k:L2.XA}(x:xD prog w h v k):xD prog w j v k:=x.imp λ_ y=>⟨y.1,OC.kp m y.2⟩
theorem o7:∀{b:List gA},(∀x∈b,∃k,xD prog w h x k)->∃fs,PySem.W.KatTups h b fs/\fs.length=b.length/\∀f∈fs,EV (model prog w) h (typeOf f) (.type "int")
 |[],_=>⟨[],trivial,rfl,λ_ z=>nomatch z⟩
 |v::b,d=>by
  obtain⟨fs,g,i,j⟩:=o7 λx c=>d x (tD _ c)
  obtain⟨k,a,rfl,n,o,⟨p,e1,l,q,m⟩,_⟩:=d v MG;exact⟨_::fs,.cons e1 l m rfl g,congrArg (·+1) i,λx c=>(WC.mp c).elim (λe=>e ▸ .now) (j x)⟩
def VK(prog:GC)(w:PB)(h:nB)(a:List gA)(b:List L2.XA):Prop:=a.length=b.length/\∀(i:Nat) v,a[i]?=aA v->∃k,b[i]?=aA k/\xD prog w h v k
theorem VK.kf(x:VK prog w h j m):j.map (kf prog w h)=m:=Rh λi=>by
 rw[jD]
 cases e:j[i]? with
 |none=>rw[uJ (x.1 ▸ Hg.mp e)];rfl
 |some v =>
  obtain⟨k,e1,e2⟩:=x.2 i v e;rw[e1,<- RN e2];rfl
def VK.mem(x:VK prog w h j r):∀v∈j,∃k,xD prog w h v k:=λv m=>by
 obtain⟨i,e⟩:=OM.mp m;obtain⟨k,_,e⟩:=x.2 i v e;exact⟨k,e⟩
theorem Zc{a:jA}{n:Nat}(J:s.heap.get? a=aA (seqObj "list" l.toArray n))(Y:l.length<=sizeLine)(M:VK prog w s.heap l R)(hu:A.units+10<cLine)
  (h:∀(u:Array gA) N Z,VK prog w s.heap u.toList (qD R)->(∀x∈u.toList,x∈l)->N.get? a=aA (seqObj "list" u Z)->(∀b o,b≠a->s.heap.get? b=aA o->N.get? b=aA o)->P (.done (.ret .none)) { s with heap:=N }):tA (model prog w) A (GH.«list.sort» ⟨[.ref a],[]⟩) P E s:=by
 rw[list_sort_plain];have K:l.toArray.size<=sizeLine:=by simpa using Y
 refine pA (listItems_at J rfl (pA (u4 J rfl ?_ K (by simp))));obtain⟨e1,g1⟩:∃e1,(s.heap.update a (pJ λ_=>#[])).get? a=aA (seqObj "list" #[] e1):=⟨_,get?_update_seq J _⟩
 refine pA (O4 g1 rfl (pA (wpAny_newTuple (pA (mV (DH ?_))) )));generalize hh:((s.heap.update a (pJ λ_=>#[])).push (seqObj "tuple" l.toArray 0)).push (seqObj "list" #[] 0)=t
 have C:t.get? a=aA (seqObj "list" #[] e1):=by(rw[<- hh];exact jC _ (jC _ g1))
 have kp:∀b o,b≠a->s.heap.get? b=aA o->t.get? b=aA o:=λb o ne e=>by(rw[<- hh];exact jC _ (jC _ (iY _ ne e)))
 show tA (model prog w) A _ P E { s with heap:=t }
 have U:∀b o,s.heap.get? b=aA o->o.cls=.type "tuple"->t.get? b=aA o:=λb o e c=>kp b o (λz=>by
  subst z;rw[J] at e;cases e
  exact absurd (show Value.type "list"=Value.type "tuple" from c) (by decide)) e
 have v6:∀x∈l,∃k,xD prog w t x k:=λx m=>(M.mem x m).imp λ_ y=>xD.kp U y
 have k6:∀x∈l,kf prog w t x=kf prog w s.heap x:=λx m=>by(obtain⟨k,y⟩:=M.mem x m;rw[RN y,RN (xD.kp U y)])
 have X:∀x∈pairsOf l,x.1∈l/\x.2=x.1:=λx m=>by(have m:=BO.mpr m;rw[pairsOf_toList] at m;obtain⟨i,e⟩:=OM.mp m;rw[List.getElem?_zip_eq_some] at e;exact⟨pF e.1,kD (e.2.symm.trans e.1)⟩)
 have fin:∀d:HB,(arrOf d).Perm (pairsOf l)->Up (JQ prog w t) (arrOf d) 0 (arrOf d).size->P (.done (.ret .none)) { s with heap:=t.update a (pJ λ_=>(arrOf d).map (·.2)) }:=λd p r=>by
  have pm:((arrOf d).map (·.2)).toList.Perm l:=by(rw[Array.toList_map];refine((Fg.mp p).map _).trans (.of_eq ?_);rw[pairsOf_toList];exact List.map_snd_zip (kB _))
  have e:(((arrOf d).map (·.2)).toList.map (kf prog w s.heap))=qD R:=by
   refine jd (M.kf ▸ pm.map _) (BU.mpr λi j F H I=>?_);simp only[vA,uD,Ei] at F H
   have:=r i j I H
   rw[DR,DR,AE (mF F),AE (mF H),mT,mT] at this
   have g:∀{i} (F:i<(arrOf d).size),kf prog w t (arrOf d)[i].1=kf prog w s.heap (arrOf d)[i].2:=λF=>by(have q:=X _ (p.mem_iff.mp (kR F));rw[q.2,k6 _ q.1])
   rw[g,g] at this;change HT.aAi _ _=dA at this;simpa only[List.getElem_map,Array.getElem_toList,Array.getElem_map] using this
  refine h _ _ _ ⟨by rw[<- e,vA],λi v ev=>⟨kf prog w s.heap v,by rw[<- e,jD,ev];rfl, ?_⟩⟩ (λx m=>pm.mem_iff.mp m) (get?_update_seq C _) λb o ne e=>iY _ ne (kp b o ne e)
  obtain⟨k,y⟩:=M.mem v (pm.mem_iff.mp (pF ev))
  rwa[RN y]
 have sz:∀d:HB,(arrOf d).Perm (pairsOf l)->((arrOf d).map (·.2)).size<=sizeLine+1:=λd p=>by(rw[Ei,p.size_eq,pairsOf_size];lia)
 by_cases B:l.toArray.size<2
 ·rw[MA B,MA B];refine pA (WA ?_);dsimp only;rw[StateT.run_pure];refine pA (WA ?_);dsimp only;have O:(arrOf (SortSt.mk' general' (l.toArray.zip l.toArray) #[] 7 eA)).Perm (pairsOf l):=.refl _;refine pA (O4 C rfl (pA (u4 C rfl ?_ (pE _) (sz _ O))));simp only[bne_self_eq_false,eJ,if_false];exact WA (fin _ O λi j I H=>by rw[O.size_eq,pairsOf_size] at H;simp at B;lia)
 ·rw[JA B,JA B];obtain⟨fs,f1,f2,f3⟩:=o7 v6;refine pA (PySem.W.kat_kind f1 (by rw[f2];simp at B;lia) f3 rfl ?_);have L:vI prog w A E { s with heap:=t } (JQ prog w t) (tuples' bA) (λx=>x.1∈l):=vy (s:={ s with heap:=t }) hu λx m=>v6 _ m
  refine pA (oG (qLa L (Q:=λ_ d=>failedOf d=eA/\(arrOf d).Perm (pairsOf l)/\Up (JQ prog w t) (arrOf d) 0 (arrOf d).size) rfl rfl rfl (λx m=>(X x m).1) λd a1 a2 a3=>⟨a1,a2,a3⟩) ?_ λ_ _ e=>e)
  ·rintro⟨⟨⟩,d⟩ s' ⟨rfl,f,p,r⟩
   dsimp only;refine pA (O4 C rfl (pA (u4 C rfl ?_ (pE _) (sz _ p))));rw[f];simp only[bne_self_eq_false,eJ,if_false];exact WA (fin d p r)
def zr{T:String}{r d S:jA}{n:Nat}(K:Y3 prog w T r d n P h)(hh:A.handled=eA)(c:h s.heap)(e:S≠r)(f:S≠d)(hS:s.heap.get? S=aA { cls:=.type "list",data:=.seq #[] 0 })
  (i:∀g tk a j,(∀b o,b≠S->s.heap.get? b=aA o->g.get? b=aA o)->g.get? S=aA { cls:=.type "list",dict:=eA,data:=.seq a j,slots:=#[] }->ItemsOf P a n->R (.ok (.ret (.ref S))) { s with heap:=g,toks:=tk }) (k:n<=sizeLine) :
  oI (model prog w) A (.builtin "list.__iadd__" ⟨[.ref S,.ref r],[]⟩) R s :=
 cV entry_list_iadd' (by
  show tA _ A.in1 (Builtin.List.listExtendWith (.ref S) (.ref r) (.ref S)) _ _ _
  exact PySem.W.kdl_extend K hh c S e f _ 0 hS i k)
theorem fIa{T:String}{r d:jA}(K:Y3 prog w T r d ks.length P F)(hh:A.handled=eA)(g:F s.heap)(H:ks.length<=sizeLine)(x:∀(i:Nat) v,P i v->∃k,ks[i]?=aA k/\xD prog w s.heap v k)(hu:A.units+12<cLine)
  (h:∀(f:Array gA) p m tk q,(∀(i:Nat) v,f[i]?=aA v->∃k,∃j:Nat,(qD ks)[i]?=aA k/\ks[j]?=aA k/\P j v)->f.size=ks.length->s.heap.objs.size<=p->m.get? p=aA (seqObj "list" f q)->(∀b o,s.heap.get? b=aA o->m.get? b=aA o)->Q (.ref p) { s with heap:=m,toks:=tk }):tA (model prog w) A (call (.builtin "sorted") [.ref r]) Q E s:=by
 refine Calls.call_function_entry kind_sorted plain_sorted entry_sorted (args_sorted1 _) ?_;show tA _ _ (checkCount _ _ _ _>>=_) _ _ _;refine pA (WA (pA ?_));unfold collect;refine pA (wpAny_runValue (cV entry_proto_collect' ?_));show tA _ _ (do again (.builtin "list.__iadd__" ⟨[<- newList [],.ref r],[]⟩)) _ _ s;refine pA (mV (WA ⟨B3 _ (by decide +kernel), ?_⟩));have lt:=K.there _ g;have up:∀b o,s.heap.get? b=aA o->(s.heap.push (seqObj "list" #[] 0)).get? b=aA o:=λb o e=>jC _ e
 refine zr (s:={ s with heap:=s.heap.push (seqObj "list" #[] 0) }) K hh (K.keep _ _ g λb _ o e=>up b o e) (kH lt.1) (kH lt.2) (QD _ rfl) (λn tk a c I g1 it=>?_) H;refine pA (wpAny_load g1 (WA (pA (mV ?_ (by have:=it.1;rw[uD];lia)))));have z:∀b o,s.heap.get? b=aA o->n.get? b=aA o:=λb o e=>I b o (XC (OB e)) (up b o e)
 have g2:(n.push (seqObj "list" a.toList.toArray 0)).get? n.objs.size=aA (seqObj "list" a.toList.toArray 0):=QD _ rfl;have t:∀b o,s.heap.get? b=aA o->(n.push (seqObj "list" a.toList.toArray 0)).get? b=aA o:=λb o e=>jC _ (z b o e)
 have J:a.toList.length=ks.length:=by rw[uD];exact it.1
 have u:∀(i:Nat) v,a.toList[i]?=aA v->P i v:=λi v e=>it.2 i v (by rw[<- LG];exact e)
 refine pA (DH (BL slot_list_sort ⟨_,g2,rfl⟩ entry_list_sort (Zc (s:={ s with heap:=n.push (seqObj "list" a.toList.toArray 0),toks:=tk }) g2 (by lia) ⟨J,λi v e=>(x i v (u i v e)).imp λ_ y=>⟨y.1,xD.kp (λb o e _=>t b o e) y.2⟩⟩ (by show A.units+1+1+10<_;lia) λf m q B mm g3 M=>⟨_,rfl,WA ⟨_,rfl,h f _ m tk q (λi v e=>?_) ?_ (eE (OB g1)) g3 λb o e=>M b o (XC (OB (z b o e))) (t b o e)⟩⟩) (args_list_sort _)))
 ·rw[<- LG] at e;obtain⟨k,e1,e2⟩:=B.2 i v e;obtain⟨j,C⟩:=OM.mp (mm v (pF e));obtain⟨l,N,O⟩:=x j v (u j v C);rw[xD.one e2 (xD.kp (λb o e _=>t b o e) O)] at e1;exact⟨l,j,e1,N,u j v C⟩
 ·rw[<- uD,B.1];exact cU
theorem gIa(x:s.heap.IsList l c.toArray)(g:c.length<=sizeLine)(m:VK prog w s.heap c ks)(hu:A.units+12<cLine)
  (h:∀(a:Array gA) p d n,(∀(i:Nat) v,a[i]?=aA v->∃k,∃j:Nat,(qD ks)[i]?=aA k/\ks[j]?=aA k/\c[j]?=aA v)->a.size=ks.length->s.heap.objs.size<=p->d.get? p=aA (seqObj "list" a n)->(∀b o,s.heap.get? b=aA o->d.get? b=aA o)->Q (.ref p) { s with heap:=d }):tA (model prog w) A (call (.builtin "sorted") [.ref l]) Q E s:=by
 refine Calls.call_function_entry kind_sorted plain_sorted entry_sorted (args_sorted1 _) ?_;show tA _ _ (checkCount _ _ _ _>>=_) _ _ _;refine pA (WA (pA (collect_list x (pA (mV ?_ (by simpa using g))) g)));have ky:∀b o,s.heap.get? b=aA o->((s.heap.push (seqObj "list" #[] 0)).update s.heap.objs.size (pJ (· ++ c.toArray))).get? b=aA o:=λb o e=>iY _ (XC (OB e)) (jC _ e)
 generalize hh:(s.heap.push (seqObj "list" #[] 0)).update s.heap.objs.size (pJ (· ++ c.toArray))=f at ky;have g2:(f.push (seqObj "list" c.toArray 0)).get? f.objs.size=aA (seqObj "list" c.toArray 0):=QD _ rfl;have r:s.heap.objs.size<=f.objs.size:=by rw[<- hh,Heap.size_update,size_push'];lia
 have q:∀b o,s.heap.get? b=aA o->(f.push (seqObj "list" c.toArray 0)).get? b=aA o:=λb o e=>jC _ (ky b o e)
 refine pA (DH (BL slot_list_sort ⟨_,g2,rfl⟩ entry_list_sort (Zc (s:={ s with heap:=f.push (seqObj "list" c.toArray 0) }) g2 g ⟨m.1,λi v e=>(m.2 i v e).imp λ_ y=>⟨y.1,xD.kp (λb o e _=>q b o e) y.2⟩⟩ (by show A.units+1+1+10<_;lia) λa d n t mm g3 z=>⟨_,rfl,WA ⟨_,rfl,h a _ d n (λi v e=>?_) ?_ r g3 λb o e=>z b o (XC (MC (OB e) r)) (q b o e)⟩⟩) (args_list_sort _)))
 ·rw[<- LG] at e;obtain⟨k,e1,e2⟩:=t.2 i v e;obtain⟨j,u⟩:=OM.mp (mm v (pF e));obtain⟨l,B,C⟩:=m.2 j v u;rw[xD.one e2 (xD.kp (λb o e _=>q b o e) C)] at e1;exact⟨l,j,e1,B,u⟩
 ·rw[<- uD,t.1];exact cU
end
end CS
namespace L2
open PySem PySem.Spec PyProof.Rows
abbrev KH:=List (aC×jA×gA)
noncomputable def yt(k:XA):Int:=reduceHash (D2 [hashInt k.1,reduceHash (D2 (k.2.map hashInt))])
def hS(k:aC):Int:=yt (gk k)
def a7(x:aC×jA×gA):DictEntry:={ hash:=hS x.1,key:=.ref x.2.1,val:=x.2.2 }
def zC(a:jA)(c:KH)(d:Nat)(h:nB):Prop:=∃o b,h.get? a=aA o/\o.ExactDict/\o.data=.dict b d/\b.toList=c.map a7
def LR(H:Hp)(a:jA)(b:KH):Prop:=∃c,H a=aA (.ext (zC a b c))
def aG(K:kA)(H:Hp)(k:XA)(b:jA):Prop:=∃c,BC K H b [.int k.1,.ref c]/\BC K H c (k.2.map V.int)
def IC(K:kA)(H:Hp)(k:aC)(b:jA):Prop:=aG K H (gk k) b
structure DS(K:kA)(H:Hp)(a:jA)(xs:KH):Prop where
 at_:LR H a xs
 nd:(xs.map (·.1)).Nodup
 len:xs.length<=sizeLine
 sm:(a==sysModules)=dA
 keys:∀x∈xs,IC K H x.1 x.2.1
section
variable{k:aC}
def aG.is{k:XA}(I:iA X cA Y H s)(e:aG X.K H k b):OC X.prog X.w s.heap k b:=by
 obtain⟨c,e1,e2⟩:=e;obtain⟨x,r,y,_⟩:=I.tuple e1;obtain⟨j,B,⟨o,h1,h2,n,h3⟩,_⟩:=I.tuple e2;obtain⟨u,v,rfl,ru,C⟩:=aAG r;obtain⟨t,rfl⟩:=ru;cases C;refine⟨t,c,y,o,j.toArray,n,h1,h2,h3, ?_⟩
 have key:∀{ns:List Int} {m:List gA},aAc (ns.map V.int) m->jV (intKind X.prog X.w) ns m:=by
  intro ns
  induction ns with
  |nil=>intro m q;cases q;exact .nil
  |cons n ns F =>
   intro m q;rw[MB] at q
   cases q with
   |cons J M =>
    obtain⟨t,rfl⟩:=J;exact .cons (by show K4 n (.int n t)=bA;simp[K4]) (F M)
 simpa using key B
theorem IC.is{k:aC}(I:iA X cA Y H s)(e:IC X.K H k b):(jO X.prog X.w).is s.heap k b:=aG.is I e
theorem b7:entryOfKey (jO P w)=a7:=rfl
def DS.dict(I:iA X cA Y H s)(d:DS X.K H a xs):s.heap.DictOfH (jO X.prog X.w) a xs:=by
 obtain⟨j,e⟩:=d.at_;obtain⟨⟨o,m,h1,h2,h3,r⟩,_⟩:=(show lD X.prog X.w H s.heap a (.ext (zC a xs j)) from I.SA a _ e)
 exact⟨o,m,j,h1,h2,h3,by rw[b7];exact r,λx hx=>(d.keys x hx).is I,d.nd⟩
def zC.iF(r:zC a xs j h1)(k:∀o,h1.get? a=aA o->h2.get? a=aA o):zC a xs j h2:=by
 obtain⟨o,m,e,r⟩:=r;exact⟨o,m,k o e,r⟩
def zC.ok(d:h.DictOfH (jO P w) a xs):∃j,∀H:Hp,lD P w H h a (.ext (zC a xs j)):=by
 obtain⟨o,m,j,h1,h2,h3,x,_⟩:=d;exact⟨j,λ_=>⟨⟨o,m,h1,h2,h3,by rw[<- b7];exact x⟩,⟨o,h1⟩,λ_ _ r k=>r.iF k⟩⟩
def wIa:(storedH a k b v).length<=a.length+1:=by unfold storedH;split<;>simp
def vIa{T:aC->jA->Prop}(h:∀x∈d,T x.1 x.2.1)(hk:T k b):∀x∈storedH d k b v,T x.1 x.2.1:=by
 unfold storedH;split
 ·intro x a;obtain⟨y,c,rfl⟩:=qF.mp a;unfold putAt;split
  ·exact h y c
  ·exact h y c
 ·intro x a;rcases SD.mp a with a | a
  ·exact h x a
  ·rw[RD.mp a];exact hk
def tGa(hu:A.units+11<cLine)(I:iA X cA Y H s)(d:DS X.K H a f)(hk:IC X.K H k b)(e:atKey f k=aA p)(h:∀c,iA X cA Y H c->Q p.2 c):tA (model X.prog X.w) A (getItem (.ref a) (.ref b)) Q E s :=
 wpAny_getItem_heap (show A.units+1+10<cLine by omega) (hk.is I) (d.dict I) e (h _ (I.tok _))
def uGa(hu:A.units+11<cLine)(I:iA X cA Y H s)(d:DS X.K H a e)(hk:IC X.K H k b)(h:∀c,iA X cA Y H c->Q (.bool (atKey e k).isSome) c):tA (model X.prog X.w) A (bE .In (.ref b) (.ref a)) Q E s :=
 wpAny_in_heap (show A.units+1+10<cLine by lia) (hk.is I) d.sm (d.dict I) (h _ (I.tok _))
def xGa(hu:A.units+11<cLine)(I:iA X cA Y H s)(d:DS X.K H a e)(hk:IC X.K H k b)(h:∀c,iA X cA Y H c->Q (.bool !(atKey e k).isSome) c):tA (model X.prog X.w) A (bE .NotIn (.ref b) (.ref a)) Q E s :=
 wpAny_notIn_heap (show A.units+1+10<cLine by lia) (hk.is I) d.sm (d.dict I) (h _ (I.tok _))
def Hz{h:nB}(d:h.DictOfH (jO P w) a b):(b.map (·.1)).Nodup:=by
 obtain⟨_,_,_,_,_,_,_,_,c⟩:=d;exact c
def yGa(hu:A.units+11<cLine)(I:iA X cA Y H s)(d:DS X.K H a c)(hk:IC X.K H k b)(i:c.length<sizeLine)
  (h:∀j g,iA X cA Y (EA H a (.ext (zC a (storedH c k b v) j))) g->((storedH c k b v).map (·.1)).Nodup->Q () g):tA (model X.prog X.w) A (setItem (.ref a) (.ref b) v) Q E s :=
 wpAny_setItem_heap (show A.units+1+10<cLine by lia) (hk.is I) (d.dict I) (λm f l=>let ⟨_,e⟩:=d.at_;let ⟨_,w⟩:=zC.ok f;h _ _ (U6 I (by rw[e];exact True.intro) l (let ⟨o,_,_,e,_⟩:=f;⟨o,e⟩) (w _)) (Hz f)) (eE i)
def yc(h:nB):lD P w H (h.push { cls:=.type "dict",data:=.dict #[] }) h.objs.size (.ext (zC h.objs.size [] 0)) :=
 ⟨⟨_,#[],QD _ rfl,⟨rfl,rfl,rfl⟩,rfl,rfl⟩,⟨_,QD _ rfl⟩,λ_ _ r k=>r.iF k⟩
def jBa:PE X (.Dict [] [] pos) (λ_ H Q=>∀p,H p=eA->(p==sysModules)=dA->Q (.ref p) (EA H p (.ext (zC p [] 0)))):=λcA s Y H Q I q =>
 wpAny_Dict_empty ⟨.ref s.heap.objs.size,_,I.laid (a:=s.heap.objs.size) (o:=.ext (zC s.heap.objs.size [] 0)) (t':=s.toks) (λ_ _ q=>jC _ q) (kB _) (yc s.heap),rfl,q _ (I.SA.fresh (kB _)) (PM.mpr (sD (XC I.big)))⟩
def hJa(K:kA)(tk c:TE):TE:=λY H Q=>∀p,H p=eA->(p==sysModules)=dA->tk Y (EA H p (.ext (zC p [] 0))) λx d=>c Y d λy a=>a p=aA (.ext (zC p [] 0))/\∃k b,x=.ref b/\IC K a k b/\∀v,aAe y v->∀e,Q (.ref p) (EA a p (.ext (zC p [(k,b,v)] e)))
def kBa(hu:X.A.units+11<cLine)(hk:PE X h tk)(i:PE X j l):PE X (.Dict [aA h] [j] pos) (hJa X.K tk l):=by
 intro cA s Y H Q I q;have m:=I.SA.fresh (kB s.heap.objs.size);have f:(s.heap.objs.size==sysModules)=dA:=PM.mpr (sD (XC I.big));have n:=I.laid (a:=s.heap.objs.size) (o:=.ext (zC s.heap.objs.size [] 0)) (h':=s.heap.push { cls:=.type "dict",data:=.dict #[] }) (t':=s.toks) (λ_ _ q=>jC _ q) (kB _) (yc s.heap);refine wpAny_Dict_any rfl rfl (by simp) (by simp) (pairTrees_cons_walk (UA (hk cA _ Y _ _ n (q _ m f)) λu p ⟨x,r,t,v,z⟩=>UA (i cA p Y r _ t z) λP R ⟨y,B,c,C,F⟩=>pairTrees_nil_walk ?_));obtain⟨e,k,b,rfl,J,M⟩:=F;cases v;have d:DS X.K B s.heap.objs.size []:=⟨⟨_,e⟩,by simp,by simp,f,λx N=>nomatch N⟩
 unfold storeAll;simp only[rR,Ci,bind_assoc,pure_bind];refine pA (wpAny_dictSet_heap (knd:=jO X.prog X.w) (show X.A.units+10<cLine by lia) (J.is c) (d.dict c) (λh' g O=>let ⟨_,w⟩:=zC.ok g;WA ⟨.ref s.heap.objs.size,_,U6 c (by rw[e];exact True.intro) O (let ⟨o,_,_,e,_⟩:=g;⟨o,e⟩) (w _),rfl,M _ C _⟩) (by simp))
end
section
variable{s:zA}
def zC.typeIs(h:zC a xs j s.heap):s.TypeIs (.ref a) "dict":=let ⟨o,_,h1,h2,_⟩:=h;⟨o,h1,h2.1⟩
def sv(hd:(a==sysModules)=dA)(e:zC a f h s.heap)(i:Q (.ref s.heap.objs.size) { s with heap:=s.heap.push { cls:=.type "dict_keyiterator",data:=.fields #[.ref a,.int 0 0,.int f.length 0,.int h 0] } }):tA (model prog w) A (pyIter (.ref a)) Q E s:=by
 obtain⟨o,j,g,l,b,k⟩:=id e;have c:s.TypeIs (.ref a) "dict":=e.typeIs;refine wpAny_pyIter_slot c di (BL di c F.entry_dict_iter ?_ (F.args_dict_iter_1 _));unfold GH.«dict.__iter__»;refine pA ?_;unfold Builtin.Dict.dictSlotNone;refine pA (wpAny_notOrdered_dict c ?_);show tA _ _ (pure (Value.ref a)) _ _ s;refine WA ?_;show tA _ _ (eh a>>=_) _ _ s;unfold eh;rw[JA (by rw[hd];exact CD)];refine pA (WA (pA (N3 g b (pA (wpAny_dictEpoch g b ?_)))));have d:j.size=f.length:=by rw[<- uD,k,vA]
 refine pA (pK (WA ⟨_,rfl,"dict_keyiterator",_,⟨_,QD _ rfl,rfl⟩,A2.lookup, ?_⟩));simpa[rawInt,d] using i
def Ga(hh:A.handled=eA)(hit:s.heap.IsKeyIter it a i c.length r)(v:zC a c r s.heap)
  (y:∀x f,c[i]?=aA x->f.IsKeyIter it a (i+1) c.length r->jH it s.heap f->Q (aA (.ref x.2.1)) { s with heap:=f })
  (z:∀f,c.length<=i->Heap.ExtBut it s.heap f->Q eA { s with heap:=f }):tA (model prog w) A (pyNext (.ref it)) Q E s:=by
 obtain⟨o,p,B,hd⟩:=id hit;obtain⟨od,g,h,C,j,u⟩:=id v;have k:g.size=c.length:=by rw[<- uD,u,vA]
 unfold pyNext
 refine pA (zR (xO (name:=xA "__next__") hit.typeIs A2
  (BL A2 hit.typeIs F.entry_dict_keyiterator_next ?_ (F.args_dict_keyiterator_next_1 _))))
 refine pA (WA (pA (pA ?_)))
 first | refine pA (x2 hit.typeIs (WA ?_)) | refine pA (J2 hit.typeIs (WA ?_))
 refine pA (wpAny_fieldsOf p hd ?_);rw[JA (show ¬hMa "dict_keyiterator"=bA from by decide)];show tA _ _ (if(Value.ref a==Value.none)=bA then _ else _) _ _ s;rw[JA (show ¬((Value.ref a==Value.none)=bA) from CD)];refine pA (WA (pA (N3 h j ?_)));rw[JA (by rw[k];simp)];refine pA (WA (pA (wpAny_dictEpoch h j ?_)));rw[JA (by simp)];refine WA ?_;rcases Nat.lt_or_ge i g.size with l | n
 ·have t:∃x,c[i]?=aA x/\g[i].key=.ref x.2.1:=by
   have e:g.toList[i]?=aA g[i]:=by simp[l]
   rw[u,jD] at e
   cases q:c[i]? with
   |none=>rw[q] at e;cases e
   |some x=>rw[q] at e;exact⟨x,rfl,congrArg DictEntry.key (kD e).symm⟩
  obtain⟨x,t,hk⟩:=t;dsimp only;rw[JA (show ¬((i:Int)<0) from by lia),HH,mF l];refine pA ?_
  first | refine pA (x2 hit.typeIs (WA ?_)) | refine pA (J2 hit.typeIs (WA ?_))
  refine pA (fh hit.typeIs ?_);show tA _ _ (setField (.ref it) 1 (rawInt ((i:Int)+1))>>=_) _ _ s;refine pA (xR p hd (by simp) ?_)
  have d:(s.heap.update it (WO (·.setIfInBounds 1 (rawInt ((i:Int)+1))))).IsKeyIter it a (i+1) c.length r :=
   ⟨_,GU _ p (IU (eR hd _)),(Sh ..).trans B,by rw[eR hd];simp[rawInt]⟩
  refine pA (DH ?_);refine pA (fh (s:={ s with heap:=s.heap.update it (WO (·.setIfInBounds 1 (rawInt ((i:Int)+1)))) }) d.typeIs ?_);show tA _ _ (pure g[i].key) _ _ _;rw[hk];exact WA (WA ⟨_,rfl,WA (y x _ t d (vh ..))⟩)
 ·dsimp only;rw[JA (show ¬((i:Int)<0) from by lia),HH,Array.getElem?_eq_none n];refine pA ?_
  first | refine pA (x2 hit.typeIs (WA ?_)) | refine pA (J2 hit.typeIs (WA ?_))
  show tA _ _ (setField (.ref it) 0 .none>>=_) _ _ s;refine pA (xR p hd (by simp) ?_);show tA _ _ (newExc (.type "StopIteration") []>>=_) _ _ _;refine pA ?_;simp only[newExc,newTuple];refine pA (pK ?_ (by size_fits));refine pA (m:=firstArgMember _ _) (wpAny_of_eq (a:=Value.none) (by first | rfl | (simp only[firstArgMember];rfl)) ?_);refine pK ?_ (by size_fits);simp only[raiseNew];refine pA (wpAny_handled ?_);rw[show A.in1.handled=eA from hh];refine pA (WA (wpAny_throw ?_));refine pA (T3 (T:="StopIteration") (b:=bA) ⟨_,QD _ rfl,rfl⟩ isSubtype_stop ?_);exact WA (z _ (k ▸ n) (((vh ..).extBut.push _).push _))
end
section
variable{tg:wA}
def Q9(r:(a==sysModules)=dA):Y3 P w "dict" a a g.length (λi v=>∃x,g[i]?=aA x/\v=.ref x.2.1) (zC a g p) where
 type:=λ_ c=>c.typeIs
 there:=λ_ c=>let ⟨_,_,h,_⟩:=c;⟨OB h,OB h⟩
 keep:=λ_ _ c hk=>c.iF λo e=>hk a (.inl rfl) o e
 notList:=by decide
 notTuple:=by decide
 hint:=λ_ _ _ _ c k=>PySem.W.kdl_hint_dict c.typeIs k
 iter:=λ_ s hh c=>⟨_,λi h=>h.IsKeyIter s.heap.objs.size a i g.length p/\zC a g p h,(λ_ _ k=>sv r c k),{
  sub:=λb d=>by simp at d;simp[d]
  frame:=λ_ _ _ st hk=>⟨st.1.at λo e=>hk _ (by simp) o e,st.2.iF λo e=>hk a (by simp) o e⟩
  item:=λi l Q E t st f=>Ga hh st.1 st.2 (λx j m n q=>f _ j l.toks ⟨x,m,rfl⟩ ⟨n,st.2.iF λo e=>q.extBut a o (let ⟨_,_,h,_⟩:=c;XC (OB h)) e⟩ λb o d e=>q.extBut b o (λh=>d (by simp[h])) e) λ_ z=>absurd t (yV.mpr z)
  done:=λl Q E st f=>Ga hh st.1 st.2 (λx j m=>by simp at m) λj _ u=>f j l.toks λb o d e=>u b o (λh=>d (by simp[h])) e
  self:=λ_ _ _ _ st f=>wpAny_pyIter_keyiter st.1 f },⟨⟨_,QD _ rfl,rfl,rfl⟩,c.iF λo e=>jC _ e⟩⟩
end
end L2
namespace HT
open PySem PySem.Spec PyProof.Rows
section
variable{s:zA}
def Ys{lo b:Option Int}(a:KG s.heap t items)(g:s.heap.IsSliceOf sl j k .none)(l:pI j lo)(m:pI k b)
  (i:fB items.size 0 lo=0/\fB items.size items.size b=items.size) (h:Q (.ref t) s):tA (model prog w) A (getItem (.ref t) (.ref sl)) Q E s:=by
 obtain⟨os,c,d,n⟩:=id g;have e:s.TypeIs (.ref sl) "slice":=⟨os,c,d⟩
 unfold getItem
 try with_reducible refine DH ?_
 first | refine pA (WA ?_) | skip
 refine pA (Oh a.typeIs (by decide) ?_)
 refine pA (xO (name:=xA "__getitem__") a.typeIs gN
  (BL gN a.typeIs th ?_ (Fh _ _)))
 show tA _ _ (B2 (.ref t)>>=_) _ _ s;refine pA (l4 a ?_);refine pA (E4 e ?_);rw[MA (by decide)];refine pA (Wc g l m ?_)
 have f:(((fB items.size 0 lo:Nat):Int)==0&&(1:Int)==1&&(fB items.size items.size b-fB items.size 0 lo)==items.size)=bA:=by(rw[i.1,i.2];simp)
 show tA _ _ (if(((fB items.size 0 lo:Nat):Int)==0&&(1:Int)==1&&(fB items.size items.size b-fB items.size 0 lo)==items.size)=bA then _ else _) _ _ s;rw[MA f];refine pA (show tA _ _ (Builtin.Tuple.tupleIsExact (.ref t)) _ _ _ from pA (E4 a.typeIs (WA ?_)));rw[MA (by decide)];refine pA (xV ?_);exact WA ⟨_,rfl,WA h⟩
end
end HT
namespace L2
open PySem PySem.Spec PyProof.Rows
section
variable{e st:wA}
def mFa(K:kA):V->Option Int->Option Int->Hp->VK->Prop:=λx lo c H Q=>∃a b,x=.ref a/\BC K H a b /\
 (∀p,H p=eA->Q (.ref p) (EA H p (.t (GJ b lo c))))/\(HT.fB b.length 0 lo=0/\HT.fB b.length b.length c=b.length->Q (.ref a) H)
def vHa:AI X (mFa X.K):=by
 intro cA s Y H x v o p lo g sl Q I i j k l h;obtain⟨a,b,rfl,m,q,t⟩:=h;by_cases d:HT.fB b.length 0 lo=0/\HT.fB b.length b.length g=b.length
 ·cases i;obtain⟨f,r,n,u⟩:=I.tuple m;have c:f.toArray.size=b.length:=by rw[EC];exact r.length.symm
  refine⟨"tuple",_,gN.lookup,n.typeIs, ?_⟩;exact HT.Ys n j k l (by rw[c];exact d) ⟨.ref a,H,I,rfl,t d⟩
 ·exact uHa cA s Y H (.ref a) v o p lo g sl Q I i j k l ⟨a,b,rfl,m,d,q⟩
end
end L2
namespace CI
open PySem PySem.Spec PyProof.Rows L2
section
variable{h':nB}
def Zz(x:lD P w H h b o):∃a,h.get? b=aA a:=by
 cases o with
 |l c=>obtain⟨_,_,_,_,e⟩:=x;exact⟨_,e⟩
 |t c=>obtain⟨_,_,_,a,e,_⟩:=x;exact⟨_,e⟩
 |dK d=>obtain⟨_,_,_,_,o,_,_,e,_⟩:=x;exact⟨_,e⟩
 |set S n=>obtain⟨o,_,_,_,e,_⟩:=x;exact⟨_,e⟩
 |ins C g fs=>obtain⟨_,_,_,e,_⟩:=x;exact⟨_,e⟩
 |own y=>obtain⟨_,e⟩:=x;exact⟨_,e⟩
 |xd fs=>obtain⟨_,⟨_,_,_,e,_⟩,_⟩:=x;exact⟨_,e⟩
 |gC lo i=>obtain⟨_,_,_,e⟩:=x;exact⟨_,e⟩
 |IE a u=>obtain⟨e,_⟩:=x;exact⟨_,e⟩
 |pL j=>exact⟨_,show h.get? b=aA _ from x⟩
 |met f y=>exact⟨_,show h.get? b=aA _ from x⟩
 |ext φ=>obtain⟨_,⟨_,e⟩,_⟩:=x;exact⟨_,e⟩
def ES(I:iA X cA Y H s)(d:s.heap.get? b=eA)(g:h b=eA):TC X cA h b:=by
 refine⟨g,λz=>?_,λz=>?_, ?_,λx c e z=>?_,λp i z=>?_⟩
 ·obtain⟨m,⟨o,_,_,a,_⟩,_⟩:=I.loc;rw[<- z,d] at a;cases a
 ·obtain⟨_,o,a,_⟩:=I.yF.mem z;rw[d] at a;cases a
 ·by_cases f:b∈X.ex
  ·exact .inl f
  ·refine .inr ?_
   cases q:X.s₀.heap.get? b with
   |none=>rfl
   |some o =>
    obtain⟨j,e⟩:=I.base.there b o q f;rw[d] at e;cases e
 ·obtain⟨v,o,a,_⟩:=I.cell x c e;rw[z,d] at a;cases a
 ·have:=(I.pin p i).1
  rw[z,d] at this;cases this
def C7(I:iA X cA Y H s)(a:s.heap.get? b=eA):H b=eA:=by
 cases q:H b with
 |none=>rfl
 |some u =>
  obtain⟨c,e⟩:=Zz (I.SA b u q);rw[a] at e;cases e
def AY(I:iA X cA Y H s)(f:∀b∈as,TC X cA H b)(k:(RO s.heap (as++yD X.stack)).StaysIn h')
  (sl:∀b o,s.heap.get? b=aA o->(∀j,o.data≠.fields j)->∃sl,h'.get? b=aA { o with slots:=sl }):iA X cA Y H { s with heap:=h' }:=by
 have kp:∀b o,b ∉ as->b ∉ yD X.stack->s.heap.get? b=aA o->h'.get? b=aA o:=λb o l m e=>k b o (X2 _ e (by simp[l,m]))
 have tr:∀b u,H b=aA u->b ∉ as/\b ∉ yD X.stack:=λb u e=>⟨(λz=>by rw[(f b z).1] at e;cases e),(λz=>by rw[I.L0 b z] at e;cases e)⟩
 have fr:∀b∈yD X.stack,∀o,s.heap.get? b=aA o->∃sl,h'.get? b=aA { o with slots:=sl }:=λb a o e=>by(obtain⟨_,r,i,p⟩:=I.stack.mem a;rw[e] at i;cases i;exact sl b o e p)
 have SA:dD X.prog X.w H h':=λb u e=>(I.SA b u e).iF (λc v h q=>by
  have z:c ∉ as/\c ∉ yD X.stack:=by
   rcases h with rfl | h
   ·exact tr _ u e
   ·exact tr c _ h
  exact kp c v z.1 z.2 q) (λ_ q=>q) λ_ _ q=>q
 have u:Un (yD X.stack) as H H s.heap h':=⟨λb o e n d g=>kp b o g d e,λb o e n d g=>fr b d o e,λb o e n g=>n,λb o e g=>by
  by_cases d:b∈yD X.stack
  ·obtain⟨_,z⟩:=fr b d o e;exact⟨_,z⟩
  ·exact⟨o,kp b o g d e⟩,λ_ _ e=>e,λ_ _ _ e=>e,λb t e=>⟨#[],by rw[e];simp⟩⟩
 exact I.call (g':=s.gens) (t':=s.toks) (d':=s.drawn) (ch:=as) u SA I.bare λb a=>⟨(f b a).2.2.2.1,(f b a).2.1,(f b a).2.2.2.2.1,(f b a).2.2.2.2.2⟩
abbrev PX:=Option jA×Bool
def BJ(a:Array gA)(a0:gA)(b:Bool):Prop:=a[0]?=aA a0/\(b=bA->a[2]?=aA .none)
def BJ.hHa(h:BJ j a0 b):BJ (j.setIfInBounds 1 v) a0 b :=
 ⟨by rw[zg (by decide)];exact h.1,λz=>by rw[zg (by decide)];exact h.2 z⟩
def LH(X:Cx)(cA:List (jA×qB))(H:Hp)(h:nB)(a C:jA)(p:PX)(f:gA):Prop :=
 ∃b c a0 T d e,h.get? a=aA b/\(b.cls=.ref C/\b.dict=p.1)/\b.data=.fields c/\BJ c a0 p.2/\TC X cA H T/\c[1]?=aA (.ref T)/\T≠a/\h.get? T=aA d/\d.data=.fields e/\e[3]?=aA f
def ij(h:nB)(a C:jA)(p:PX):Prop:=∃b c a0,h.get? a=aA b/\(b.cls=.ref C/\b.dict=p.1)/\b.data=.fields c/\BJ c a0 p.2/\c[1]?=aA .none
def FK(X:Cx)(cA:List (jA×qB))(H:Hp)(h:nB)(a C:jA)(p:PX):Prop:=TC X cA H a/\(ij h a C p\/∃b,LH X cA H h a C p b)
def Lz(I:iA X cA Y H s)(i:∀b∈as,TC X cA H b)(a:(RO s.heap (as++yD X.stack)).get? T=eA)(j:h'.get? T=aA k)(hd:k.data=.fields l)
  (sl:∀b o,s.heap.get? b=aA o->(∀m,o.data≠.fields m)->∃sl,h'.get? b=aA { o with slots:=sl }):TC X cA H T:=by
 by_cases c:T∈as
 ·exact i T c
 ·by_cases d:T∈yD X.stack
  ·obtain⟨_,o,e,f⟩:=I.stack.mem d;obtain⟨n,g⟩:=sl T o e f;rw[j] at g;cases g;exact absurd hd (f l)
  ·have h:s.heap.get? T=eA:=by
    cases q:s.heap.get? T with
    |none=>rfl
    |some o=>rw[X2 _ q (by simp[c,d])] at a;cases a
   exact ES I h (C7 I h)
def B7(I:iA X cA Y H s)(as:List jA):s.heap.FunFrames (RO s.heap (as++yD X.stack)) X.stack :=
 PySem.W.funFrames_hide I.stack λenv a b c=>SF _ (y3.mpr ⟨env,a,c⟩)
def cW(h base:nB)(e:jA)(cls:gA)(p:PX)(a0 f:gA):Prop :=
 ∃a b T c d,h.get? e=aA a/\((a.cls=cls/\a.dict=p.1)/\BJ b a0 p.2)/\a.data=.fields b/\b[1]?=aA (.ref T)/\base.get? T=eA/\T≠e/\h.get? T=aA c/\c.data=.fields d/\d[3]?=aA f
def p5(base:nB)(e:jA)(cls:gA)(p:PX)(a0 a:gA)(h h':nB):Prop:=base.StaysIn h'/\cW h' base e cls p a0 a/\∀b o,h.get? b=aA o->(∀c,o.data≠.fields c)->∃sl,h'.get? b=aA { o with slots:=sl }
def Po(f:Array gA->Array gA)(o:qB):(WO f o).dict=o.dict:=by obtain⟨_,_,a,_⟩:=o;cases a<;>rfl
def uf(I:iA X cA Y H s)(g:∀b∈as,TC X cA H b)(t:cW h' (RO s.heap (as++yD X.stack)) a (.ref C) p a0 h)
  (sl:∀b o,s.heap.get? b=aA o->(∀d,o.data≠.fields d)->∃sl,h'.get? b=aA { o with slots:=sl }):LH X cA H h' a C p h:=by
 obtain⟨i,d,T,j,k,l,⟨m,n⟩,hd,q,r,e,f,c,u⟩:=t;exact⟨i,d,a0,T,j,k,l,m,hd,n,Lz I g r f c sl,q,e,f,c,u⟩
variable{M:Model}{A:AD}{E:gA->zA->Prop}{Q:Unit->zA->Prop}
def c7(y:A.frames=aA (env::outer))(B:s.heap.FunFrames base (env::outer))(R:env.frame=aA L)
  (P:s.heap.get? e=aA x) (C:base.StaysIn s.heap) (F:base.get? e=eA) (hd:x.data=.fields j) (k:1<j.size) (U:BJ j a0 b0)
  (h:∀h',p5 base e x.cls (x.dict,b0) a0 (rawInt L) s.heap h'->Q () { s with heap:=h' }) :
  tA M A (do let a <- frameOf env;let i <- entryPlaceOf L nx;let b <- wh head a .none (rawInt L) .none i;setField (.ref e) 1 b) Q E s:=by
 have l:∀b o,s.heap.get? b=aA o->(∀j,o.data≠.fields j)->b≠e:=λb o f H z=>by rw[z,P] at f;cases f;exact H j hd
 have m:e ∉ (env::outer).filterMap (·.frame):=λI=>by obtain⟨_,o,X,H⟩:=B.mem I;exact l e o X H rfl
 refine pA (wpAny_frameOf_fun y B R λd g=>pA (wpAny_entryPlaceOf λi n=>?_));have p:d.get? e=aA x:=(g.2.1 e m).trans P;have r:base.StaysIn d:=λb o c=>(g.2.1 b λI=>by rw[(B.mem I).1] at c;cases c).trans (C b o c)
 unfold wh newFields;refine pA (pK ?_ (n.sizeOk5 _ _ _ _ _));generalize J:({ cls:=.type "traceback",dict:=eA,data:=.fields ([head,.ref L,.none,rawInt L,.none]++(if i.isEmpty then AB 6 Value.none else i)).toArray }:qB)=K;have t:K.data=.fields ([head,.ref L,.none,rawInt L,.none]++(if i.isEmpty then AB 6 Value.none else i)).toArray:=by rw[<- J]
 have u:=jC (h:=d) K p;refine xR u hd k (h _ ?_);have v:d.objs.size≠e:=kH (OB p);have w:=eR hd (·.setIfInBounds 1 (Value.ref d.objs.size));have keep:∀b o,b≠e->d.get? b=aA o->((d.push K).update e (WO (·.setIfInBounds 1 (Value.ref d.objs.size)))).get? b=aA o:=λb o N f=>(yO _ _ (sD N)).trans (jC _ f)
 refine⟨λb o c=>keep b o (λq=>by rw[q,F] at c;cases c) (r b o c), ?_,λb o f O=>?_⟩
 ·exact⟨_,_,d.objs.size,_,_,GU _ u (IU w),⟨⟨Sh _ _,Po _ _⟩,U.hHa⟩,w,by simp[k],r.fresh,v,(yO _ _ (sD v)).trans (QD d (IU t)),t,by first | (simp;done) | (rcases n with rfl | ⟨_,_,_,_,_,_,_,rfl⟩<;>simp)⟩
 ·obtain⟨sl,Y⟩:=g.2.2 b o f;exact⟨sl,keep b _ (l b o f O) Y⟩
def Vz(i:A.frames=aA (env::outer))(x:s.heap.FunFrames base (env::outer))(r:env.frame=aA L)(y:cW s.heap base e cls p a0 z)(B:¬(z==rawInt L)=bA)(j:base.StaysIn s.heap)(k:base.get? e=eA)
  (h:∀h',p5 base e cls p a0 (rawInt L) s.heap h'->Q () { s with heap:=h' }):tA M A (noteFrame (.ref e) env) Q E s:=by
 obtain⟨N,O⟩:=p;obtain⟨P,t,T,R,C,u,⟨⟨rfl,rfl⟩,F⟩,hd,v,l,m,n,f,w⟩:=y;unfold noteFrame;simp only[r];refine pA (lH u hd v ?_);rw[MA (show(Value.ref T != Value.none)=bA from by simp)];refine pA (lH n f w ?_);rw[JA B];refine pA (xR n f (VQ.mp w).1 ?_);have other:∀b,b≠T->(s.heap.update T (WO (·.setIfInBounds 3 Value.none))).get? b=s.heap.get? b:=λb d=>yO _ _ (sD d)
 have a:∀b o,s.heap.get? b=aA o->(∀t,o.data≠.fields t)->b≠T:=λb o d c q=>by
  rw[q,n] at d;injection d with d;subst d;exact c C f
 refine c7 i (x.of_keeps λb o d c=>⟨o,(other b (a b o d c)).trans d,rfl⟩) r ((other e (sD m)).trans u)
  (λb o g=>(other b λq=>by rw[q,l] at g;cases g).trans (j b o g)) k hd (VQ.mp v).1 F
  λh' H=>(by obtain⟨I,J,K⟩:=H;exact h h' ⟨I,J,λb o d c=>K b o ((other b (a b o d c)).trans d) c⟩)
def Ka(I:iA X cA Y H s)(l:X.stack=env::outer)(x:env.frame=aA L)(F:FK X cA H s.heap a C p)
  (h:∀h',iA X cA Y H { s with heap:=h' }->LH X cA H h' a C p (rawInt L)->Q () { s with heap:=h' }):tA M X.A (noteFrame (.ref a) env) Q E s:=by
 have m:X.A.frames=aA (env::outer):=by rw[<- l];exact I.ok.frames
 obtain⟨O,F⟩:=F;rcases F with ⟨n,y,a0,g,i,hd,q,j⟩ | ⟨R,n,y,a0,T,z,B,g,i,hd,q,P,j,d,J,f,K⟩
 ·have r:∀b∈[a],TC X cA H b:=λb t=>by rw[RD.mp t];exact O
  have u:=B7 I [a];rw[l] at u;unfold noteFrame;simp only[x];refine pA (lH g hd j ?_);rw[JA (by decide)];refine c7 m u x g (λb o e=>PU _ e) (AO _ (by simp)) hd (VQ.mp j).1 q λh' N=>?_
  obtain⟨v,k,w⟩:=N;rw[<- l] at v k;rw[i.1,show(n.dict,p.2)=p by rw[i.2]] at k;exact h h' (AY I r v w) (uf I r k w)
 ·have r:∀b∈[a,T],TC X cA H b:=λb t=>by
   rcases WC.mp t with rfl | t
   ·exact O
   ·rw[RD.mp t];exact P
  have u:=B7 I [a,T];rw[l] at u;by_cases c:(R==rawInt L)=bA
  ·have c:=yC c;subst c;exact wpAny_noteFrame_againW (base:=RO s.heap ([a,T]++yD (env::outer))) x ⟨n,y,T,z,B,g,⟨i.1,q.1⟩,hd,j,AO _ (by simp),d,J,f,K⟩ (h s.heap I ⟨n,y,a0,T,z,B,g,i,hd,q,P,j,d,J,f,K⟩)
  refine Vz m u x ⟨n,y,T,z,B,g,⟨i,q⟩,hd,j,AO _ (by simp),d,J,f,K⟩ c (λb o e=>PU _ e) (AO _ (by simp)) λh' N=>?_
  obtain⟨v,k,w⟩:=N;rw[<- l] at v k;exact h h' (AY I r v w) (uf I r k w)
def Sr(I:iA X cA Y H s)(q:TC X cA H a)(F:LH X cA H s.heap a C p B)
  (h:∀h',iA X cA Y H { s with heap:=h' }->LH X cA H h' a C p (f.elim Value.none λf=>rawInt f)->Q () { s with heap:=h' }):tA M A (setFlight (.ref a) f) Q E s:=by
 obtain⟨r,t,a0,T,J,k,l,u,hd,v,m,n,i,j,c,w⟩:=F
 have x:∀b∈[a,T],TC X cA H b:=λb d=>by
  rcases WC.mp d with rfl | d
  ·exact q
  ·rw[RD.mp d];exact m
 have g:3<k.size:=(VQ.mp w).1;unfold setFlight;refine pA (lH l hd n ?_);rw[MA (show(Value.ref T != Value.none)=bA from by simp)];refine xR j c g ?_;have other:∀b,b≠T->(s.heap.update T (WO (·.setIfInBounds 3 (f.elim Value.none λf=>rawInt f)))).get? b=s.heap.get? b:=λb d=>yO _ _ (sD d)
 refine h _ (AY I x (λb o e=>?_) λb o e y=>⟨o.slots, ?_⟩) ⟨r,t,a0,T,_,_,(other a (sD i)).trans l,u,hd,v,m,n,i,GU _ j (IU (eR c _)),eR c _,by simp[g]⟩
 ·have d:b≠T:=λz=>by rw[z,AO _ (by simp)] at e;cases e
  exact(other b d).trans (PU _ e)
 ·have d:b≠T:=λz=>by rw[z,j] at e;cases e;exact y k c
  exact(other b d).trans e
def nX(I:iA X cA Y H s)(b:TC X cA H a)(F:LH X cA H s.heap a C p c)
  (h:∀h',iA X cA Y H { s with heap:=h' }->LH X cA H h' a C p .none->Q () { s with heap:=h' }):tA M A (setFlight (.ref a) eA) Q E s:=Sr I b F h
def Wx(I:iA X cA Y H s)(b:X.stack=X.env::X.outer)(c:X.env.frame=aA X.env.locals)(F:FK X cA H s.heap a C p)
  (h:∀h',iA X cA Y H { s with heap:=h' }->LH X cA H h' a C p .none->Q () { s with heap:=h' }):tA M X.A (leaving X.env (.ref a)) Q E s:=by
 unfold leaving;exact pA (Ka I b c F λj d e=>nX d F.1 e λf g i=>h f g i)
end
def JH(P:GC)(w:PB):DK:=λouter H s E v b=>∃a C p c,v=.ref a/\b.os=s.os/\sJ b.gens/\Un (yD outer) [] H c s.heap b.heap/\dD P w c b.heap/\s.heap.get? a=eA/\c a=eA /\
 (∃d e a0 T f g,b.heap.get? a=aA d/\(d.cls=.ref C/\d.dict=p.1)/\d.data=.fields e/\BJ e a0 p.2/\s.heap.get? T=eA/\c T=eA/\e[1]?=aA (.ref T)/\T≠a/\b.heap.get? T=aA f/\f.data=.fields g/\g[3]?=aA .none)/\E (.ref C) p c
def Ao{K:kA}(I:iA (cG (JH P w) P w K mg base N d c f g A outer s₀ H₀ E) cA Y H s)(F:FK (cG (JH P w) P w K mg base N d c f g A outer s₀ H₀ E) cA H s.heap a C p)(h:E (.ref C) p H) :
  (cG (JH P w) P w K mg base N d c f g A outer s₀ H₀ E).xe (.ref a) s:=by
 refine Wx I rfl rfl F λM e m=>?_
 obtain⟨n,o,a0,T,q,r,t,u,hd,v,k,x,i,y,j,B⟩:=m
 have l:∀b,TC (cG (JH P w) P w K mg base N d c f g A outer s₀ H₀ E) cA H b->s₀.heap.get? b=eA:=λb J=>by
  rcases J.2.2.2.1 with z | z
  ·exact absurd (show b∈([]:List jA) from z) (by simp)
  ·exact z
 exact⟨a,C,p,H,rfl,e.os,e.bare,e.base,e.SA,l a F.1,F.1.1,⟨n,o,a0,T,q,r,t,u,hd,v,l T k,k.1,x,i,y,j,B⟩,h⟩
section
variable{X:Cx}{cA:List (jA×qB)}{Y:L2.St}{H:Hp}{s s':zA}
def zo(I:iA X cA Y H s)(h:JH X.prog X.w X.stack H s E v s'):∃a C p c,v=.ref a/\iA X cA Y c s'/\FK X cA c s'.heap a C p/\E (.ref C) p c:=by
 obtain⟨a,C,p,c,rfl,os,d,un,f,k,l,⟨m,n,a0,T,o,q,r,t,hd,u,x,g,y,i,A,j,B⟩,e⟩:=h;refine⟨a,C,p,c,rfl,I.r6 (ch:=[]) os un f d (λb z=>absurd z (by simp)),⟨ES I k l,.inr ⟨_,m,n,a0,T,o,q,r,t,hd,u,ES I x g,y,i,A,j,B⟩⟩,e⟩
def lGa(F:VD X.prog X.w X.K X.mg X.base (JH X.prog X.w) k f l i m)(n:eC k X.A)(o:aAu X.K l i [])
  (I:iA X cA Y H s) (r:aAc j b) (h:m j H Q E) (q:∀cA a C p c s',iA X cA Y c s'->FK X cA c s'.heap a C p->E (.ref C) p c->X.xe (.ref a) s'):tA (model X.prog X.w) X.A (call (.ref f) b) (EP X cA Y Q) X.xe s:=by
 have t:b.length=i.length:=by rw[<- r.length];exact F.len _ _ _ _ h
 have d:=o s b I.fD (by rw[DD];exact t);rw[DD] at d;refine wV (bN (F.run X.A X.stack s H ⟨b,[]⟩ b j Q E n I.wH d r h) λr s' g=>?_)
 cases r with
 |error e =>
  obtain⟨a,C,p,c,rfl,v,x,y⟩:=zo I g;exact q cA a C p c s' v x y
 |ok z =>
  cases z with
  |ret u=>exact I.after g
  |next=>exact OF g
  |brk=>exact OF g
  |cont=>exact OF g
def fJa(X:Cx)(c:Sp)(t:TA):TE:=λY H Q=>t Y H λd e=>∃E:XK,c d e Q E/\∀cA a C p b s',iA X cA Y b s'->FK X cA b s'.heap a C p->E (.ref C) p b->X.xe (.ref a) s'
def xb(F:VD X.prog X.w X.K X.mg X.base (JH X.prog X.w) k f g i j)(l:eC k X.A)(m:Gl X x)(n:X.mg x=aA (.ref f))(hk:tG X.K (.ref f)=bA)(o:aAu X.K g i [])
  (u:PA X (e::a) t) (b:(x==("__debug__":fA))=dA) (v:QB (e::a) X.env=(dA,eval e X.env)::QB a X.env) (c:(mE pos (QB a X.env)).any (·.1)=dA) :
  PE X (.Call (.Name x p) (e::a) [] pos) (fJa X j t):=by
 intro cA s Y H Q I h;refine DO (SN I m n ?_ b);refine QU (h₀:=X.base) I.ok.mod.kin hk (UA (u pos cA s Y H _ I h) λz B ⟨C,J,d,r,E,q,y⟩=>⟨d.fD, ?_⟩) v c;exact lGa F l o d r q y
end
set_option tactic.hygienic true
abbrev yW:List gA:=[.type "ValueError",.type "Exception",.type "BaseException",.type "object"]
def vJ(K:kA)(C:jA)(i:Option gA):Prop:=∃(a:List gA) (N:jA),(∀v,kI K C v=aA ((Value.ref C::a).contains v)) /\
  ∀{h:nB},K.In h->∃(b c:fA) (bs:List gA) (hd:Bool) (d:List fA) (sub:List gA) (e:Bool) (col:Option Bool) (f:Option jA) (g j k l m:Option gA),
   h.get? C=aA (excClassObj b c C N bs a hd d sub e col f g j k l m "ValueError.__new__")/\h.Ns N (h.nsMap N)/\h.nsMap N "__init__"=i/\OwnTail h yW a
def j7{K:kA}(q:y4 K C yW "ValueError.__new__"=bA):vJ K C eA:=by
 unfold y4 at q;split at q
 ·rename_i o a sl e;rcases e1:a.mro with _ | ⟨p,s⟩<;>rw[e1] at q
  ·cases q
  cases p<;>try (cases q;done)
  rename_i y
  rcases e2:sl.toList with _ | ⟨f,_ | ⟨g,_ | ⟨i,_ | ⟨j,_ | ⟨_ | k,_ | ⟨l,_ | ⟨z,r⟩⟩⟩⟩⟩⟩⟩<;>rw[e2] at q<;>try (cases q;done)
  all_goals (cases k<;>try (cases q;done))
  rename_i k
  try dsimp only at q
  rw[RA,RA,RA,RA,RA] at q;obtain⟨⟨⟨⟨⟨b,c⟩,m⟩,t⟩,n⟩,d⟩:=q;have b:=pG.mp b;have c:=pG.mp c;have d:=pG.mp d;subst b c;refine⟨s,a.ns,λv=>?_,λ{h} X=>?_⟩
  ·unfold kI PySem.W.clsIn;rw[e];simp only[sG];rw[e1,JA (by simp)]
  ·refine⟨a.name,a.qualname,a.bases,a.hasDict,a.slotNames,a.subclasses,a.abstract,a.collection,o,f,g,i,j,l, ?_,.of_isNs (PySem.W.isNs_of_in X n),PySem.W.nsMap_none_of_in X n d,PySem.W.tail_of_in X t⟩;rw[X _ _ e];have u:sl=#[f,g,i,j,aA (.builtin "ValueError.__new__"),l]:=WU.mp e2;rw[u];obtain⟨A,B,F,H,I,J,M,N,O,w,x⟩:=a;simp only[KO] at m;simp only at e1;subst e1 m;rfl
 ·cases q
section
variable{X:Cx}{cA:List (jA×qB)}{Y:L2.St}{H:Hp}{s:zA}{h':nB}{a C:jA}
def sJa(X:Cx)(C:jA)(t:TA):TS:=λ_ Y H=>t Y H λd c=>d.length<=sizeLine/\∀cA a b,iA X cA Y c b->FK X cA c b.heap a C (eA,bA)->X.xe (.ref a) b
def wDa(hh:X.A.handled=eA)(p:Gl X x)(u:X.mg x=aA (.ref C))(q:vJ X.K C eA)(v:PA X (e::d) t)
  (g:(x==("__debug__":fA))=dA) (m:QB (e::d) X.env=(dA,eval e X.env)::QB d X.env) (i:(mE b (QB d X.env)).any (·.1)=dA) :
  PS X (.Raise (aA (.Call (.Name x np) (e::d) [] b)) eA pos) (sJa X C t):=by
 intro cA s Y H D I h;obtain⟨w,N,_,k⟩:=q;obtain⟨nm,z,bs,hd,sn,sub,ab,col,dd,k0,k1,k2,k3,k5,B,J,j,T⟩:=k I.ok.mod.kin
 refine wpAny_Raise_call_subT (nm:=nm) (q:=z) (N:=N) (bs:=bs) (bm:=w) (hdct:=hd) (sn:=sn) (sub:=sub) (ab:=ab) (col:=col) (dd:=dd) (k0:=k0) (k1:=k1) (k2:=k2) (k3:=k3) (k5:=k5)
  Gg (mN:=X.base.nsMap N) (T.hasType Gg.hasBase) hh (by rw[m];unfold mE at *;rw[MB,HL,i];rfl) j (SN I p u ⟨rfl, ?_⟩ g)
 have n:=v b cA s Y H _ I h;rw[m] at n ⊢;refine Calls.evalArgs_plain (oG n (λU o M=>?_) λ_ _ y=>y);obtain⟨Z,O,c,r,P,Q⟩:=M;refine⟨rfl,by rw[<- r.length];exact P,c.bk _ _ B,J.keeps c.bk,T.keeps c.bk,λh' e f=>?_⟩;obtain⟨t0,l,_,_⟩:=f.there;have R:iA X cA Y O { o with heap:=h' }:=c.kept (t':=o.toks) f.keeps;exact Q cA e _ R ⟨ES c f.new (C7 c f.new),.inl ⟨_,_,_,l,⟨rfl,rfl⟩,rfl,⟨rfl,λ_=>rfl⟩,rfl⟩⟩
def kr{K:kA}(X:K.In s.heap)(o:vJ K C i)(p:vJ K D j)
  (q:kI K C (.ref D)=aA bA) (r:s.heap.get? a=aA t) (u:t.cls=.ref C) (h:Q bA s):tA M A (excMatches (.ref a) (.ref D)) Q E s:=by
 obtain⟨v,N,w,k⟩:=o;obtain⟨nm,qn,bs,hd,sn,sub,ab,col,dd,k0,k1,k2,k3,k5,x,hN,y,T⟩:=k X;obtain⟨c,N',z,B⟩:=p;obtain⟨F,I,J,O,P,e,R,l,U,Z,k1',k2',k3',k5',m,hN',n,T'⟩:=B X;have b1:(Value.ref C::v).contains (.ref D)=bA:=kD ((w _).symm.trans q);have b2:(Value.ref D::c).contains (.type "BaseException")=bA:=by rw[Kh,T'.hasType (X:="BaseException") (b:=bA) (by decide)];rfl
 obtain⟨hp,g,d,tk,os⟩:=s;have f:=tc_notTuple;unfold excMatches
 repeat (first | (with_reducible refine Th r ?_;rw[u]) | with_reducible refine Th m ?_ | (with_reducible refine xh x ?_;rw[b1]) | (with_reducible refine xh m ?_;rw[b2]) | wp_step)
 exact h
def Ju(I:iA X cA Y H s)(d:TC X cA H a)(ok:lD X.prog X.w (EA H a o) s.heap a o):iA X cA Y (EA H a o) s:=by
 have ne:∀{b:jA} {u:HO},H b=aA u->b≠a:=λq=>vE q d.1
 have e1:∀{b:jA} {u:HO},H b=aA u->EA H a o b=aA u:=λq=>by rw[pB (ne q)];exact q
 have f:∀{b:jA},b≠a->H b=eA->EA H a o b=eA:=λn q=>by rw[pB n];exact q
 refine⟨I.ok,I.os,I.bare,⟨I.base.keep,I.base.slot,λb g e n h=>f (λz=>?_) (I.base.free b g e n h),I.base.there,λb k e=>e1 (I.base.cJ b k e),λb g u e=>e1 (I.base.VH b g u e),λb l e=>?_⟩,I.loc,I.cell,f (sD d.2.1) I.free,
  λx c e=>f (d.2.2.2.2.1 x c e) (I.xF x c e),λp i=>?_,λb u e=>?_,I.len⟩
 ·rcases d.2.2.2.1 with w | w
  ·exact h (z ▸ w)
  ·rw[z,w] at e;cases e
 ·obtain⟨more,z⟩:=I.base.aJ b l e;exact⟨more,e1 z⟩
 ·obtain⟨m,r,t⟩:=I.pin p i;exact⟨m,f (d.2.2.2.2.2 p i) r,t⟩
 ·by_cases j:b=a
  ·subst j;rw[oC] at e;cases e;exact ok
  ·rw[pB j] at e;exact(I.SA b u e).iF (λ_ _ _ q=>q) (λ_ q=>e1 q) λ_ _ q=>e1 q
def ot(I:iA X cA Y H s)(U:X.N.Nodup)(Z:X.N[i]?=aA x)(hx:X.env.kindOf x=aA .local)
  (h:∀P,iA X cA (Y.set i eA) H P->Q () P):tA M A (do bindName X.env x .none;unbindBehindTheSuite X.env x pos) Q E s:=by
 obtain⟨m,R,hl⟩:=id I.loc;refine wpAny_nameGoes_keeps hx R (by rw[I.ok.kind];rfl) λh' v B sb=>h _ ?_
 obtain⟨oL,es,ep,W7,_⟩:=id R;have f:∀b d,X.s₀.heap.get? b=aA d->b≠X.env.locals:=λb d e=>XC (MC (OB e) I.ok.above)
 have kp:∀{b:jA} {d:qB},b≠X.env.locals->s.heap.get? b=aA d->h'.get? b=aA d:=λn e=>(sb.2 _ n).trans e
 refine⟨I.ok,I.os,I.bare,⟨λb d e n F l=>kp (f b d e) (I.base.keep b d e n F l),λb d e n F l=>?_,I.base.free,λb d e l=>?_,I.base.cJ,I.base.VH,I.base.aJ⟩,⟨_,B,λj y w e1 e2 e3=>?_⟩,λy c e=>?_,I.free,I.xF,λp hp=>?_,λb u e=>?_,by rw[oE];exact I.len⟩
 ·obtain⟨sl,z⟩:=I.base.slot b d e n F l;exact⟨sl,kp (f b d e) z⟩
 ·obtain⟨o',z⟩:=I.base.there b d e l;exact⟨o',kp (f b d e) z⟩
 ·by_cases J:j=i
  ·subst J;by_cases K:j<Y.length
   ·rw[sI K] at e2;cases e2
   ·rw[uJ (by rw[oE];lia)] at e2;cases e2
  ·rw[PD (sD J)] at e2;obtain⟨u,r,lk⟩:=hl j y w e1 e2 e3;refine⟨u,r, ?_⟩;rcases lk with ⟨o,g⟩ | ⟨o,c,g,oc,k,t⟩
   ·refine .inl ⟨o, ?_⟩;have ny:y≠x:=λz=>J (qZ U e1 (z ▸ Z))
    simp[ny,g]
   ·exact .inr ⟨o,c,g,oc,kp (I.CJ y c g) k,t⟩
 ·obtain⟨w,oc,k,t⟩:=I.cell y c e;exact⟨w,oc,kp (I.CJ y c e) k,t⟩
 ·obtain⟨o,g,k,t⟩:=I.pin p hp;exact⟨kp k o,g,k,t⟩
 ·have nl:∀c w,H c=aA w->c≠X.env.locals:=λc w z z'=>by rw[z',I.free] at z;cases z
  refine(I.SA b u e).iF (λc w O q=>kp ?_ q) (λ_ q=>q) λ_ _ q=>q
  rcases O with rfl | O
  ·exact nl _ u e
  ·exact nl c _ O
end
end CI
namespace CI
set_option tactic.hygienic true
open PySem PySem.Spec PySem.Calls PyProof.Rows L2 PySem.W PySem.Builtin PySem.Builtin.ObjectAttr PySem.Builtin.Getset_descriptor
def QG(a C:jA)(p:Option jA)(h:nB):Prop:=∃b c,h.get? a=aA b/\(b.cls=.ref C/\b.dict=p)/\b.data=.fields c
def QG.ty(x:QG a C p h):EV M h (typeOf (.ref a)) (.ref C):=by
 obtain⟨j,m,e,c,_⟩:=x;rw[<- c.1];exact(Looks.ld e).andThen .now
structure zE(K:kA)(C:jA):Prop where
 q:∃i,vJ K C i
 ga:findIn K (.ref C) "__getattribute__"=aA (aA (.builtin "BaseException.__getattribute__"))
 no:findIn K (.ref C) "__getattr__"=aA eA
 cl:findIn K (.ref C) "__class__"=aA (aA (.builtin "object.__class__"))
 gt:specialIn K (.builtin "object.__class__") "__get__"=aA (aA (.builtin "getset_descriptor.__get__"))
 tk:takesIn K (.builtin "object.__class__")=aA bA
 mo:mroIn K C (.type "object")=aA bA
 mb:mroIn K C (.type "BaseException")=aA bA
 mv:mroIn K C (.type "ValueError")=aA bA
section
variable{K:kA}
def rr(X:K.In s.heap)(G:zE K C)(x:QG a C p s.heap)(h:R (.ok (.ret (.ref C))) s) :
  oI (model prog w) A (.call (.builtin "getset_descriptor.__get__") ⟨[.builtin "object.__class__",.ref a,tp],[]⟩) R s:=by
 obtain⟨hh,g,dr,t,os⟩:=s;have b:=x.ty (M:=model prog w);have c:=P4 (M:=model prog w) X G.mo;refine NU KF.slot_gs.plain KF.entry_gs (KF.slot_gs.check _ _ _ _ _ _ _ _ KF.type_class (KF.args_gs _ _ _) ?_);unfold GH.«getset_descriptor.__get__»;unfold descrGet;rw[dga_obj];refine pA (WA ?_);unfold descrGetter;unfold descrCheckInstance;unfold descrNameAndClass;unfold isInstance;simp only[KF.owner_class]
 repeat lk
 refine⟨B3 _ (by decide +kernel),cV KF.entry_class ?_⟩;unfold GH.«object.__class__»;unfold shownTypeOf
 repeat lk
 exact h
def qr(X:K.In h)(G:zE K C):EV M h (find (.ref a) (.ref C) "__class__") (.bind (.builtin "getset_descriptor.__get__") (.builtin "object.__class__")):=by
 have b:=looks_takesIn (M:=M) X G.tk;refine(fV X G.cl).andThen ((looks_specialIn X G.gt).andThen ?_);exact(show EV M h (dataDescriptor? (aA (.builtin "object.__class__")) (aA (.builtin "getset_descriptor.__get__"))) (aA (.builtin "getset_descriptor.__get__",.builtin "object.__class__")) from b.andThen .now).andThen (Looks.tag .now)
def nr(X:K.In s.heap)(G:zE K C)(x:QG a C p s.heap)(h:Q (.done (.ret (.ref C))) s) :
  tA (model prog w) A (GH.«object.__getattribute__» ⟨[.ref a,.str "__class__" tk],[]⟩) Q E s:=by
 obtain⟨hh,g,dr,t,os⟩:=s;have b:=x.ty (M:=model prog w);have c:=qr (M:=model prog w) (a:=a) X G
 repeat (any_goals (first | assumption | with_reducible refine Looks.at (by assumption) ?_ | wp_step))
 refine rr X G x ?_
 repeat (any_goals (first | assumption | wp_step))
def lr(X:K.In s.heap)(G:zE K C)(x:QG a C p s.heap)(h:Q () s):tA (model prog w) A (checkBuiltinCall "BaseException.__getattribute__" ⟨[.ref a,v],[]⟩) Q E s:=by
 obtain⟨hh,g,dr,t,os⟩:=s;have b:=x.ty (M:=model prog w);have c:=P4 (M:=model prog w) X G.mb;have z:=PySem.F.args_bexc_ga (.ref a) v;simp only[checkBuiltinCall,show builtinKind "BaseException.__getattribute__"=aA .slot from by decide +kernel,show splitId "BaseException.__getattribute__"=aA ("BaseException","__getattribute__") from by decide +kernel];refine pA ?_;unfold isInstance
 repeat (any_goals (first | assumption | with_reducible refine Looks.at (by assumption) ?_ | wp_step))
def mr(X:K.In s.heap)(G:zE K C)(x:QG a C p s.heap)(h:Q (aA (.ref C)) { s with toks:=s.toks+1 }):tA (model prog w) A (getAttr? (.ref a) "__class__") Q E s:=by
 obtain⟨hh,g,dr,t,os⟩:=s;have b:=x.ty (M:=model prog w);have c:=fV (M:=model prog w) X G.ga;have L2:=fV (M:=model prog w) X G.no;have e:=P4 (M:=model prog w) X G.mb;have f:=PySem.F.excAttr_ValueError.ga.bind (.ref a);unfold getAttr? getAttrBy? getAttrBy;refine pA (wpAny_mkText (pA (zR (DH (pA (b.at (pA (c.at ?_))))))));have d:(onTheHeap (Value.ref C)&&Value.builtin "BaseException.__getattribute__" == Value.builtin "object.__getattribute__")=dA:=by rw[show(Value.builtin "BaseException.__getattribute__" == Value.builtin "object.__getattribute__")=dA from by decide +kernel,iV]
 dsimp only;rw[JA (by rw[d];exact CD)];unfold getAttrByItsOwn
 repeat (any_goals (first | assumption | with_reducible refine Looks.at (by assumption) ?_ | wp_step))
 refine NU PySem.F.attr_ValueError.ga.plain PySem.F.entry_bexc_ga (lr (s:=⟨hh,g,dr,t+1,os⟩) X G x (nr (s:=⟨hh,g,dr,t+1,os⟩) X G x ?_))
 repeat (any_goals (first | assumption | wp_step))
def gZ(G:zE K C):KitX K (.ref a) (.ref C) (QG a C p) where
 ty:=λ_ _ _ x=>x.ty
 it:=λ_ _ X _=>by(obtain⟨_,f,N,_,k⟩:=G.q;obtain⟨g,i,bs,hd,j,sub,l,col,d,m,o,r,s,t,c,_⟩:=k X;intro w y A B u q;unfold isType loadHead;exact pA (wpAny_loadPart (u _ _ c) (WA q)))
 ne:=λh tp d v n sl X b=>by
  obtain⟨_,f,N,_,k⟩:=G.q;obtain⟨g,i,bs,hd,j,sub,l,col,d,m,o,r,s,t,c,_⟩:=k X;refine M3.mpr λq=>?_
  have e:C=tp:=Li (pG.mp q);subst e;rw[c] at b;have z:=congrArg Obj.data (kD b);cases z
 ca:=λX x k=>mr X G x k
def Fx(G:zE K C):kitOne K (.ref C) (.type "ValueError")=aA bA:=by
 unfold kitOne kitCls;rw[JA (by simp)];show(if kitMeta "ValueError"=bA then subIn K (.ref C) (.type "ValueError") else eA)=aA bA;rw[MA (by decide +kernel)];exact G.mv
def Ex(e:aN K C D=bA):kitOne K (.ref C) (.ref D)=aA dA:=by
 unfold aN at e;rw[RA,RA,RA] at e;obtain⟨⟨⟨a,e1⟩,e2⟩,b⟩:=e;unfold kitOne kitCls;rw[JA (λz=>of_decide_eq_true a (Li (pG.mp z)))];show(if((clsIn K D).isSome&&typeIn K (.ref D)==aA (.type "type"))=bA then subIn K (.ref C) (.ref D) else eA)=aA dA;rw[MA (by rw[e1,e2];rfl)];exact pG.mp b
def Dx(e:isIn K (.ref C) D=bA):kitOne K (.ref C) (.ref D)=aA bA:=by
 unfold isIn at e;unfold kitOne kitCls;by_cases h:(Value.ref C==Value.ref D)=bA
 ·rw[MA h]
 ·rw[JA h];rw[jI] at e;rcases e with e | e
  ·exact absurd e h
  ·rw[RA,RA,RA] at e;obtain⟨⟨⟨e1,e2⟩,_⟩,a⟩:=e;show(if((clsIn K D).isSome&&typeIn K (.ref D)==aA (.type "type"))=bA then subIn K (.ref C) (.ref D) else eA)=aA bA;rw[MA (by rw[e1,e2];rfl)];exact pG.mp a
end
end CI
namespace CI
set_option tactic.hygienic true
open PySem PySem.Spec PyProof.Rows L2
end CI
namespace CI
set_option tactic.hygienic true
open PySem PySem.Spec PyProof.Rows L2
end CI
namespace L2
set_option tactic.hygienic true
open PySem PySem.Spec PyProof.Rows
end L2
namespace CI
set_option tactic.hygienic true
open PySem PySem.Spec PyProof.Rows L2
end CI
namespace L2
set_option tactic.hygienic true
open PySem PySem.Spec PyProof.Rows
end L2
namespace CI
set_option tactic.hygienic true
open PySem
def oD{O:Type}{a:O}{p:Prop}(h:eA=aA a):p:=nomatch h
inductive D where
 |lA
 |bl (b:Bool)
 |int (i:Int)
 |str (x:fA)
 |t (ds:List D)
 |l (ds:List D)
 |ins (c:fA) (ns:List fA) (ds:List D)
 |FE (c:fA) (n:Option Int)
 |dB (ks:List L2.aC) (ds:List D)
 |pS (ks:List Int) (ds:List D)
set_option genCtorIdx true in
set_option genInjectivity true in
gen_injective_theorems% D
inductive RV where
 |sh (d:D) | ow (d:D) | od (d:D)
set_option genCtorIdx true in
set_option genInjectivity true in
gen_injective_theorems% RV
noncomputable def RV.d:RV->D
 |.sh d=>d
 |.ow d=>d
 |.od d=>d
noncomputable def RV.low:RV->RV
 |.od d=>.ow d
 |v=>v
inductive Sl where
 |un | mv | sh (d:D) | ow (d:D) (pin lk:Bool)
set_option genCtorIdx true in
set_option genInjectivity true in
gen_injective_theorems% Sl
noncomputable def Sl.get:Sl->Option D
 |.un=>eA
 |.mv=>eA
 |.sh d=>aA d
 |.ow d _ _=>aA d
structure Exc where
 cls:fA
 num:Option Int
inductive Out(O:Type) where
 |ok (a:O) | ex (e:Exc)
set_option genCtorIdx true in
set_option genInjectivity true in
gen_injective_theorems% Out
abbrev Env:=List Sl
abbrev BA(O:Type):=Option (Out O×Env)
noncomputable def BA.bind(r:BA O)(f:O->Env->BA B):BA B :=
 match r with
 |none=>eA
 |some (.ex e,U)=>some (.ex e,U)
 |some (.ok a,U)=>f a U
inductive Hd where
 |slot (i:Nat) | val (v:RV)
set_option genCtorIdx true in
set_option genInjectivity true in
gen_injective_theorems% Hd
noncomputable def Hd.get(h:Hd)(U:Env):Option D :=
 match h with
 |.slot i=>(U[i]?).bind Sl.get
 |.val v=>aA v.d
noncomputable def getAll:List Hd->Env->Option (List D)
 |[],_=>aA []
 |h::r,U=>(h.get U).bind λd=>(getAll r U).map (d :: ·)
inductive Ty where
 |int | bool | str | list | tuple | dict | cls (c:Nat) | TQ
set_option genCtorIdx true in
set_option genInjectivity true in
gen_injective_theorems% Ty
set_option genCtorIdx true in
inductive BI where
 |len
 |abs
 |int
 |list
 |tuple
 |min
 |max
 |all
 |sorted
set_option genCtorIdx true in
inductive sF where
 |gC | of | enum (lo:Int) | sig | key | rdn
 deriving DecidableEq
set_option genSizeOf false
inductive E where
 |qA
 |UI
 |v (i:Nat)
 |c (d:D)
 |t (es:List E)
 |l (es:List E)
 |yA (op:rJ) (a b:E)
 |neg (a:E)
 |not (a:E)
 |CA (op:lF) (a b:E)
 |vF (op op':lF) (a b c:E)
 |and (a b:E)
 |or (a b:E)
 |ite (c a b:E)
 |ix (a i:E)
 |sl (a lo hi:E)
 |rev (a:E)
 |call (f:String) (args:List E)
 |bif (f:BI) (args:List E)
 |QI (a:E) (ts:List Ty)
 |pM (a:E) (sn:List (List fA×List fA))
 |app (i:Nat) (a:E)
 |ext (i:Nat) (a:E)
 |HP (k v:E)
 |GP
 |dO (i:Nat)
 |zKa (i j:Nat)
 |BP (i:Nat)
 |IE (i:Nat)
 |aL (a:E)
 |zM (a:E)
 |fld (a:E) (f:fA)
 |make (c:fA) (ns:List fA) (args:List E)
 |ZH (i:Nat) (m:fA) (tb:List (fA×String)) (args:List E)
 |comp (uC:E) (tg:List Nat) (k:sF) (zF:List E) (cond:List E) (imp:List Nat) (nl:Nat)
set_option genCtorIdx true in
gen_injective_theorems% E
inductive S where
 |qA
 |pass
 |brk
 |cnt
 |YA (i:Nat) (e:E)
 |tN (is:List Nat) (e:E)
 |set (i:Nat) (k e:E)
 |expr (e:E)
 |ret (e:E)
 |RT
 |tFa (h e:E)
 |FA (c:E) (a b:List S)
 |for (tg:List Nat) (one:Bool) (k:sF) (zF:List E) (body:List S)
 |jK (c:E) (body:List S)
 |DM (c:fA) (args:List E)
 |VZ (c:fA) (args:List E)
 |oO (body:List S) (cs:List fA) (i:Nat) (ss:List S)
 |Qc (i j:Nat) (e c:E)
set_option genCtorIdx true in
gen_injective_theorems% S
noncomputable def JB:Nat->D->Bool
 |_,.lA=>bA
 |_,.bl _=>bA
 |_,.int _=>bA
 |_,.str _=>bA
 |n+1,.t a=>a.all (JB n)
 |n+1,.l a=>a.all (JB n)
 |_,_=>dA
mutual
noncomputable def EE:D->D->Bool
 |.lA,.lA=>bA
 |.bl a,.bl b=>a==b
 |.bl a,.int b=>(if a then 1 else 0)==b
 |.int a,.bl b=>a==(if b then 1 else 0)
 |.int a,.int b=>a==b
 |.str a,.str b=>a==b
 |.t a,.t b=>BN a b
 |.l a,.l b=>BN a b
 |_,_=>dA
noncomputable def BN:List D->List D->Bool
 |[],[]=>bA
 |a::as,b::bs=>EE a b&&BN as bs
 |_,_=>dA
end
noncomputable def cl(p:Prop):Decidable p:=Classical.propDecidable p
noncomputable section
def fI:D->Option Bool
 |.lA=>aA dA
 |.bl b=>aA b
 |.int i=>aA (i != 0)
 |.str x=>@ite _ (x.length<=1000000) (cl _) (aA ((x.length:Int) != 0)) eA
 |.t a=>aA (!a.isEmpty)
 |.l a=>aA (!a.isEmpty)
 |_=>eA
def jB(n:Nat):Bool:=@decide (n<=1000000) (cl _)
def UB:rJ->D->D->Option RV
 |.Add,.int i,.int j=>aA (.sh (.int (i+j)))
 |.Sub,.int i,.int j=>aA (.sh (.int (i-j)))
 |.Mult,.int i,.int j=>@ite _ ((-(2 ^ 64)<i/\i<2 ^ 64)\/(-(2 ^ 64)<j/\j<2 ^ 64)) (cl _) (aA (.sh (.int (i*j)))) eA
 |.FloorDiv,.int i,.int j=>@ite _ (0<j/\j<100000000000000000000000000000000000000000000000000000000000000000000000000000000) (cl _) (aA (.sh (.int (i / j)))) eA
 |.Mod,.int i,.int j=>@ite _ (0<j) (cl _) (aA (.sh (.int (i % j)))) eA
 |.LShift,.int i,.int j=>@ite _ (0<=j/\j<=1000/\i.natAbs<2 ^ 64) (cl _) (aA (.sh (.int (i*2 ^ j.toNat)))) eA
 |.RShift,.int i,.int j=>@ite _ (0<=j) (cl _) (aA (.sh (.int (i / 2 ^ j.toNat)))) eA
 |.BitAnd,.int i,.int j=>aA (.sh (.int (mR i j)))
 |.Add,.l a,.l b=>if jB (a.length+b.length) then aA (.ow (.l (a++b))) else eA
 |.Add,.t [],.t b=>aA (.sh (.t b))
 |.Add,.t (x::a),.t b=>if jB (a.length+1+b.length) then aA (.sh (.t (x::a++b))) else eA
 |.Mult,.l a,.int k=>@ite _ (-(2 ^ 31)<=k/\k<=1000/\jB (a.length*k.toNat)) (cl _) (aA (.ow (.l (AB k.toNat a).flatten))) eA
 |_,_,_=>eA
noncomputable def eD:D->Bool
 |.lA=>bA | .bl _=>bA | .int _=>bA | .str _=>bA
 |_=>dA
def inD(x:D)(a:List D):Bool:=a.any λy=>EE y x
noncomputable def WD:List D->Option (List Int)
 |[]=>aA []
 |.int i::r=>(WD r).map (i :: ·)
 |_=>eA
def sk2:D->D->Option L2.XA
 |.int t,.t a=>(WD a).map λb=>(t,b)
 |_,_=>eA
def EM:D->Option L2.XA
 |.t [a,b]=>sk2 a b
 |_=>eA
def jE(d:D):Option L2.aC:=(EM d).map .inl
noncomputable def uA(k:L2.XA):D:=.t [.int k.1,.t (k.2.map D.int)]
def FP(k:L2.aC):D:=uA (L2.gk k)
def QN:List D->Option (List L2.XA)
 |[]=>aA []
 |d::r=>(EM d).bind λk=>(QN r).map (k :: ·)
noncomputable def SJ(a:List L2.aC)(b:List D)(k:L2.aC):Option D:=((a.zip b).find? λp=>decide (p.1=k)).map (·.2)
noncomputable def KJ(a:List L2.aC)(k:L2.aC):Bool:=a.any λx=>decide (x=k)
def XI(a:List L2.aC)(k:L2.aC):List L2.aC:=if KJ a k then a else a++[k]
def zH(a:List L2.aC)(b:List O)(k:L2.aC)(d:O):List O:=if KJ a k then(a.zip b).map (λp=>if p.1=k then d else p.2) else b++[d]
def ON(x:D)(a:List L2.aC):Option Bool:=(jE x).map λk=>KJ a k
noncomputable def rZ:D->Bool
 |.lA=>bA
 |_=>dA
noncomputable def BY(b:Bool):D->Option Bool
 |.bl a=>aA (a==b)
 |_=>eA
def Pu(x:D):D->Option Bool
 |.lA=>aA (rZ x)
 |.bl b=>BY b x
 |_=>eA
def gv(x:D):D->Option Bool
 |.lA=>aA (!rZ x)
 |_=>eA
def DB:lF->D->D->Option Bool
 |.Eq,x,y=>if JB 20 x&&JB 20 y then aA (EE x y) else eA
 |.NotEq,x,y=>if JB 20 x&&JB 20 y then aA (!EE x y) else eA
 |.Lt,.int i,.int j=>aA (decide (i<j))
 |.LtE,.int i,.int j=>aA (decide (i<=j))
 |.Gt,.int i,.int j=>aA (decide (j<i))
 |.GtE,.int i,.int j=>aA (decide (j<=i))
 |.Is,x,y=>Pu x y
 |.IsNot,x,y=>gv x y
 |.In,x,.t a=>if eD x&&a.all eD then aA (inD x a) else eA
 |.In,x,.l a=>if eD x&&a.all eD then aA (inD x a) else eA
 |.In,x,.dB b _=>ON x b
 |.NotIn,x,.t a=>if eD x&&a.all eD then aA (!inD x a) else eA
 |.NotIn,x,.l a=>if eD x&&a.all eD then aA (!inD x a) else eA
 |.NotIn,x,.dB b _=>(ON x b).map (!·)
 |_,_,_=>eA
def K5(a:List D)(i:Int):Option D:=L2.lC a i
def mQ:D->D->Option D
 |.t a,.int i=>K5 a i
 |.l a,.int i=>K5 a i
 |.dB b a,x=>(jE x).bind (SJ b a)
 |.str x,.int i=>@ite _ (x.length<=1000000) (cl _) ((L2.lC x.cps.toList i).map λc=>.str ⟨#[c]⟩) eA
 |_,_=>eA
def aAB(a:List D)(lo b:Option Int):List D:=(a.drop (HT.fB a.length 0 lo)).take (HT.fB a.length a.length b-HT.fB a.length 0 lo)
noncomputable def kL:Option D->Option (Option Int)
 |none=>aA eA
 |some (.int i)=>aA (aA i)
 |_=>eA
def aU:D->Option Int->Option Int->Option RV
 |.l a,lo,b=>aA (.ow (.l (aAB a lo b)))
 |.t a,lo,b=>aA (.sh (.t (aAB a lo b)))
 |_,_,_=>eA
noncomputable def wFa:D->Option RV
 |.t a=>aA (.sh (.t a.reverse))
 |.l a=>aA (.ow (.l a.reverse))
 |_=>eA
noncomputable def SH:List D->Option (List Bool)
 |[]=>aA []
 |.bl b::r=>(SH r).map (b :: ·)
 |_=>eA
mutual
noncomputable def zD:D->PyData
 |.lA=>.none
 |.bl b=>.bool b
 |.int i=>.int i
 |.str x=>.str x
 |.t a=>.tuple (gK a)
 |.l a=>.list (gK a)
 |.ins _ _ _=>.none
 |.FE _ _=>.none
 |.dB _ _=>.none
 |.pS _ _=>.none
noncomputable def gK:List D->List PyData
 |[]=>[]
 |d::a=>zD d::gK a
end
def Jl:BI->D->Option RV
 |.len,.l a=>aA (.sh (.int a.length))
 |.len,.t a=>aA (.sh (.int a.length))
 |.len,.dB c _=>aA (.sh (.int c.length))
 |.len,.str x=>@ite _ (x.length<=1000000) (cl _) (aA (.sh (.int x.length))) eA
 |.abs,.int i=>aA (.sh (.int (if i<0 then -i else i)))
 |.int,.int i=>aA (.sh (.int i))
 |.int,.bl b=>aA (.sh (.int (if b then 1 else 0)))
 |.list,.l a=>aA (.ow (.l a))
 |.list,.t a=>aA (.ow (.l a))
 |.list,.dB c _=>aA (.ow (.l (c.map FP)))
 |.tuple,.l a=>aA (.sh (.t a))
 |.tuple,.t a=>aA (.sh (.t a))
 |.max,.l a=>match WD a with
  |some (i::r)=>aA (.sh (.int (r.foldl (λm y=>if y > m then y else m) i)))
  |_=>eA
 |.all,.l a=>(SH a).map λbs=>.sh (.bl (bs.all id))
 |.sorted,.l a=>(QN a).map λc=>.ow (.l ((CS.qD c).map uA))
 |.sorted,.dB c _=>aA (.ow (.l ((CS.qD (c.map L2.gk)).map uA)))
 |_,_=>eA
noncomputable def mm(f:Int->Int->Int):D->D->Option RV
 |.int i,.int j=>aA (.sh (.int (f i j)))
 |_,_=>eA
def FD:BI->List D->Option RV
 |.min,[x,y]=>mm (λi j=>if j<i then j else i) x y
 |.max,[x,y]=>mm (λi j=>if j > i then j else i) x y
 |f,[d]=>Jl f d
 |_,_=>eA
noncomputable def HY:Ty->D->Option Bool
 |.int,d=>match d with
  |.int _=>aA bA | .bl _=>aA bA | .lA=>aA dA | .str _=>aA dA | .t _=>aA dA | .l _=>aA dA
  |_=>eA
 |.bool,d=>match d with
  |.bl _=>aA bA | .int _=>aA dA | .lA=>aA dA | .str _=>aA dA | .t _=>aA dA | .l _=>aA dA
  |_=>eA
 |.str,d=>match d with
  |.str _=>aA bA | .bl _=>aA dA | .int _=>aA dA | .lA=>aA dA | .t _=>aA dA | .l _=>aA dA
  |_=>eA
 |.list,d=>match d with
  |.l _=>aA bA | .bl _=>aA dA | .int _=>aA dA | .lA=>aA dA | .t _=>aA dA | .str _=>aA dA
  |_=>eA
 |.tuple,d=>match d with
  |.t _=>aA bA | .bl _=>aA dA | .int _=>aA dA | .lA=>aA dA | .l _=>aA dA | .str _=>aA dA
  |_=>eA
 |.TQ,d=>match d with
  |.FE _ _=>aA bA
  |_=>eA
 |_,_=>eA
def iQ:List Ty->D->Option Bool
 |[],_=>aA dA
 |t::r,d=>(HY t d).bind λb=>(iQ r d).map λc=>b||c
noncomputable def qM(c:fA):List (List fA×List fA)->Option Bool
 |[]=>aA dA
 | (s,n)::r=>if s.contains c then aA bA else if n.contains c then qM c r else eA
def IY(a:List (List fA×List fA)):D->Option RV
 |.FE c _=>(qM c a).map λb=>.sh (.bl b)
 |_=>eA
def vQ:D->Option RV
 |.l a=>match WD a with
  |some is=>@ite _ (is.length<=1000) (cl _) (aA (.sh (.int (gh (λi=>is.getD i 0) is.length).length))) eA
  |none=>eA
 |_=>eA
noncomputable def jX:D->fA->Option D
 |.ins _ a b,f=>(a.zip b).lookup f
 |_,_=>eA
noncomputable def DF(c:fA)(a:List fA)(m:fA)(b:List (fA×String)):Option String:=if a.contains m then eA else b.lookup c
def aAh(t:Bool)(r:BA RV):BA RV :=
 match t with
 |false=>r
 |true=>r.bind λv U=>(fI v.d).map λb=>(.ok (.sh (.bl b)),U)
noncomputable def hd(e:E)(r:BA RV)(U:Env):BA Hd :=
 match e with
 |.v i=>if((U[i]?).bind Sl.get).isSome then some (.ok (.slot i),U) else eA
 |_=>r.bind λv a=>some (.ok (.val v.low),a)
noncomputable def r8:E->Bool
 |.UI=>bA
 |_=>dA
def aAP(e:E)(r:BA RV)(U:Env):BA (Option D) :=
 if r8 e then some (.ok eA,U) else r.bind λv a=>some (.ok (aA v.d),a)
noncomputable def VN(op:rJ)(x:Hd)(d:D):Bool :=
 match op,d with
 |.Mult,.l _=>match x with
  |.val (.ow _)=>bA
  |_=>dA
 |_,_=>bA
noncomputable def YH(U:Env)(i:Nat):Bool :=
 match U[i]? with
 |some (.ow (.l _) _ _)=>bA
 |_=>dA
noncomputable def gQ(U:Env)(i:Nat):Bool :=
 match U[i]? with
 |some (.ow (.dB _ _) _ _)=>bA
 |_=>dA
noncomputable def Qu(U:Env)(i:Nat):Bool :=
 match U[i]? with
 |_=>dA
noncomputable def aAK(i:Nat)(U:Env):BA RV :=
 match U[i]? with
 |some (.sh d)=>some (.ok (.sh d),U)
 |some (.ow d dA dA)=>some (.ok (.sh d),U.set i (.sh d))
 |_=>eA
noncomputable def done(o:Option RV)(U:Env):BA RV:=o.map λv=>(.ok v,U)
noncomputable def store(i:Nat)(v:RV)(U:Env):Option Env :=
 match U[i]? with
 |none=>eA
 |some (.ow _ bA _)=>eA
 |some (.ow _ _ bA)=>eA
 |some _=>match v with
  |.sh d=>aA (U.set i (.sh d))
  |.ow d=>aA (U.set i (.ow d dA dA))
  |.od _=>eA
def aAq:List Nat->List D->Env->Option Env
 |[],[],U=>aA U
 |i::is,d::a,U=>(store i (.sh d) U).bind (aAq is a)
 |_,_,_=>eA
def wB(one:Bool)(a:List Nat)(d:D)(U:Env):Option Env :=
 match one,a,d with
 |true,[i],d=>store i (.sh d) U
 |false,is,.t b=>aAq is b U
 |_,_,_=>eA
abbrev Calls:=String->List Sl->BA RV
noncomputable def aAk(cA:List Bool)(f:List Hd)(U:Env):Option (List Sl×Env) :=
 match cA,f with
 |[],[]=>aA ([],U)
 |p::b,.val (.sh d)::r=>(aAk b r U).map λ(as,a)=>(.sh d::as,a)
 |p::b,.val (.ow d)::r=>(aAk b r U).map λ(as,a)=>((if p then .ow d bA dA else .sh d)::as,a)
 |p::b,.slot i::r =>
  match U[i]? with
  |some (.sh d)=>(aAk b r U).map λ(as,a)=>(.sh d::as,a)
  |some (.ow d c e) =>
   match p with
   |true=>(aAk b r (U.set i .un)).map λ(as,a)=>(.ow d bA e::as,a)
   |false=>if c||e then eA else(aAk b r (U.set i (.sh d))).map λ(as,a)=>(.sh d::as,a)
  |_=>eA
 |_,_=>eA
noncomputable def aAf(cA:List Bool)(f:List Hd)(as:List Sl)(b U:Env):Option Env :=
 match cA,f,as with
 |[],[],[]=>aA U
 |true::c,.slot i::r,a::as =>
  match b[i]?,a with
  |some (.ow _ e g),.ow d _ _=>aAf c r as b (U.set i (.ow d e g))
  |some (.ow _ _ _),_=>eA
  |_,_=>aAf c r as b U
 |_::c,_::r,_::as=>aAf c r as b U
 |_,_,_=>eA
def ID(cA:List Bool)(f:List Sl->BA RV)(b:List Hd)(U:Env):BA RV :=
 match aAk cA b U with
 |none=>eA
 |some (as,c) =>
  match f as with
  |none=>eA
  |some (o,a)=>(aAf cA b a U c).map λd=>(o,d)
noncomputable def yG(lo:Int)(a:List D):List D:=(qC a.length).map λ(j:Nat)=>.t [.int (lo+(j:Int)),a.getD j .lA]
def aAb(k:sF)(e:List Hd)(U:Env):Option (List D×Option Nat) :=
 match k,e with
 |.gC,[a]=>match a.get U with
  |some (.int n)=>@ite _ (-1000000<=n/\n<=1000000) (cl _) (aA ((qC n.toNat).map λ(j:Nat)=>.int (j:Int),eA)) eA
  |_=>eA
 |.gC,[a,b]=>match a.get U,b.get U with
  |some (.int m),aA (.int n)=>@ite _ ((-1000000<=m/\m<=1000000)/\(-1000000<=n/\n<=1000000)) (cl _) (aA ((qC (n-m).toNat).map λ(j:Nat)=>.int (m+(j:Int)),eA)) eA
  |_,_=>eA
 |.enum lo,[.slot i]=>match U[i]? with
  |some (.ow (.l c) _ _)=>aA (yG lo c,aA i)
  |some (.sh (.l c))=>aA (yG lo c,eA)
  |_=>eA
 |.enum lo,[.val v]=>match v.d with
  |.l c=>aA (yG lo c,eA)
  |_=>eA
 |.of,[.slot i]=>match U[i]? with
  |some (.ow (.l c) _ _)=>aA (c,aA i)
  |some (.sh (.l c))=>aA (c,eA)
  |some (.sh (.t c))=>aA (c,eA)
  |_=>eA
 |.of,[.val v]=>match v.d with
  |.l c=>aA (c,eA)
  |.t c=>aA (c,eA)
  |_=>eA
 |_,_=>eA
noncomputable def aAg(o:Option Nat)(U:Env):Env :=
 match o with
 |none=>U
 |some i=>U.set i .un
noncomputable def aAs(o:Option Nat)(a U:Env):Option Env :=
 match o with
 |none=>aA U
 |some i=>match U[i]?,a[i]? with
  |some .un,aA sl=>aA (U.set i sl)
  |_,_=>eA
noncomputable def dF(a:Env->BA RV)(e:Env->BA RV)(bind:D->Env->Option Env):List D->List D->Env->BA (List D)
 |[],b,U=>some (.ok b,U)
 |d::f,b,U=>match bind d U with
  |none=>eA
  |some h=>(a h).bind λc g=>match c with
   |.sh (.bl bA)=>(e g).bind λv i=>dF a e bind f (b++[v.d]) i
   |.sh (.bl dA)=>dF a e bind f b g
   |_=>eA
noncomputable def back:List Sl->Env->List Sl
 |.ow _ _ _::as,b::bs=>b::back as bs
 |a::as,_::bs=>a::back as bs
 |_,_=>[]
noncomputable def WI:Sl->Bool
 |.ow _ p _=>p
 |.sh _=>bA
 |_=>dA
def DJ(a:Env->BA RV)(c:Env->BA RV)(bind:D->Env->Option Env)(d:List D)(nl:Nat)(as:List Sl):BA RV :=
 if as.all WI=bA then(dF a c bind d [] (as++AB nl .un)).bind λb e =>
  if jB b.length then some (.ok (.ow (.l b)),back as e) else eA
 else eA
def aAz(o:Option Nat)(a:Env)(v:RV)(b:Env):BA RV:=(aAs o a b).map λc=>(.ok v,c)
structure Fn where
 cA:List Bool
 nl:Nat
 body:List S
 rs:Bool
abbrev VA:=String->List Bool
noncomputable def uS(k:Option L2.aC)(u:RV)(U:Env):BA RV :=
 match k with
 |some k=>some (.ok (.ow (.dB [k] [u.d])),U)
 |none=>eA
noncomputable def CP(i:Nat)(U:Env):Option Sl->BA RV
 |some (.ow (.l _) p dA)=>some (.ok (.sh .lA),U.set i (.ow (.l []) p dA))
 |_=>eA
noncomputable def CQ(i:Nat)(U:Env):Option Sl->BA RV
 |some (.ow (.l a) p dA)=>(a[a.length-1]?).map λd=>(.ok (.sh d),U.set i (.ow (.l a.dropLast) p dA))
 |_=>eA
mutual
noncomputable def ev(P:VA)(C:Calls)(t:Bool):E->Env->BA RV
 |.qA,_=>eA
 |.UI,_=>eA
 |.v i,U=>match t with
  |true=>aAh bA (((U[i]?).bind Sl.get).map λd=>(.ok (.sh d),U))
  |false=>aAK i U
 |.c d,U=>aAh t (some (.ok (.sh d),U))
 |.t q,U=>aAh t ((qE P C q U).bind λn A=>if jB n.length then some (.ok (.sh (.t n)),A) else eA)
 |.l q,U=>aAh t ((qE P C q U).bind λn A=>if jB n.length then some (.ok (.ow (.l n)),A) else eA)
 |.yA op a b,U=>aAh t ((hd a (ev P C dA a U) U).bind λx g=>(hd b (ev P C dA b g) g).bind λy j =>
   done ((x.get j).bind λd=>(y.get j).bind λe=>if VN op x d then UB op d e else eA) j)
 |.neg a,U=>aAh t ((ev P C dA a U).bind λv g=>match v.d with
  |.int i=>some (.ok (.sh (.int (-i))),g)
  |_=>eA)
 |.not a,U=>match t with
  |true=>(ev P C bA a U).bind λv g=>match v with
   |.sh (.bl b)=>some (.ok (.sh (.bl (!b))),g)
   |_=>eA
  |false=>(hd a (ev P C dA a U) U).bind λx g=>done ((x.get g).bind λd=>(fI d).map λb=>.sh (.bl (!b))) g
 |.CA op a b,U=>(hd a (ev P C dA a U) U).bind λx g=>(hd b (ev P C dA b g) g).bind λy j =>
   done ((x.get j).bind λd=>(y.get j).bind λe=>(DB op d e).map λb=>.sh (.bl b)) j
 |.vF op B a b c,U=>(hd a (ev P C dA a U) U).bind λx g=>(hd b (ev P C dA b g) g).bind λy j =>
   match (x.get j).bind λd=>(y.get j).bind λe=>DB op d e with
   |none=>eA
   |some dA=>some (.ok (.sh (.bl dA)),j)
   |some bA=>(hd c (ev P C dA c j) j).bind λz s =>
    done ((y.get s).bind λd=>(z.get s).bind λe=>(DB B d e).map λb=>.sh (.bl b)) s
 |.and a b,U=>(ev P C t a U).bind λv g=>match v with
  |.sh (.bl bA)=>ev P C t b g
  |.sh (.bl dA)=>some (.ok (.sh (.bl dA)),g)
  |_=>eA
 |.or a b,U=>(ev P C t a U).bind λv g=>match v with
  |.sh (.bl bA)=>some (.ok (.sh (.bl bA)),g)
  |.sh (.bl dA)=>ev P C t b g
  |_=>eA
 |.ite c a b,U=>(ev P C bA c U).bind λv g=>match v with
  |.sh (.bl bA)=>ev P C t a g
  |.sh (.bl dA)=>ev P C t b g
  |_=>eA
 |.ix a i,U=>aAh t ((hd a (ev P C dA a U) U).bind λx g=>(ev P C dA i g).bind λk j =>
   done ((x.get j).bind λd=>(mQ d k.d).map .sh) j)
 |.sl a lo I,U=>aAh t ((hd a (ev P C dA a U) U).bind λx g =>
   (aAP lo (ev P C dA lo g) g).bind λl j=>(aAP I (ev P C dA I j) j).bind λh s =>
   done ((x.get s).bind λd=>(kL l).bind λl=>(kL h).bind λh=>aU d l h) s)
 |.rev a,U=>aAh t ((hd a (ev P C dA a U) U).bind λx g=>done ((x.get g).bind wFa) g)
 |.call f q,U=>aAh t ((JC P C q U).bind λr g=>ID (P f) (C f) r g)
 |.bif f q,U=>aAh t ((JC P C q U).bind λr g=>done ((getAll r g).bind (FD f)) g)
 |.QI a K,U=>aAh t ((hd a (ev P C dA a U) U).bind λx g =>
   done ((x.get g).bind λd=>(iQ K d).map λb=>.sh (.bl b)) g)
 |.pM a M,U=>aAh t ((hd a (ev P C dA a U) U).bind λx g=>done ((x.get g).bind (IY M)) g)
 |.app i a,U=>aAh t (if YH U i then(ev P C dA a U).bind λv g=>match g[i]? with
  |some (.ow (.l n) p dA)=>if jB (n.length+1) then some (.ok (.sh .lA),g.set i (.ow (.l (n++[v.d])) p dA)) else eA
  |_=>eA
  else eA)
 |.BP i,U=>aAh t (CP i U U[i]?)
 |.dO i,U=>aAh t (CQ i U U[i]?)
 |.zKa _ _,_=>eA
 |.GP,U=>aAh t (some (.ok (.ow (.dB [] [])),U))
 |.HP a b,U=>aAh t ((ev P C dA a U).bind λv g=>(ev P C dA b g).bind λu j=>uS (jE v.d) u j)
 |.ext i a,U=>aAh t (if YH U i then(ev P C dA a U).bind λv g=>match g[i]?,v with
  |some (.ow (.l n) p dA),.ow (.l q)=>if jB (n.length+q.length) then some (.ok (.sh .lA),g.set i (.ow (.l (n++q)) p dA)) else eA
  |_,_=>eA
  else eA)
 |.IE i,U=>aAh t (aAK i U)
 |.aL _,_=>eA
 |.zM a,U=>aAh t ((hd a (ev P C dA a U) U).bind λx g=>done ((x.get g).bind vQ) g)
 |.fld a f,U=>aAh t ((hd a (ev P C dA a U) U).bind λx g=>done ((x.get g).bind λd=>(jX d f).map .sh) g)
 |.make c w q,U=>aAh t ((qE P C q U).bind λn g=>if n.length=w.length then some (.ok (.sh (.ins c w n)),g) else eA)
 |.ZH i m N q,U=>aAh t (match U[i]? with
  |some (.sh (.ins c w n))=>(match DF c w m N with
   |some f=>(JC P C q U).bind λr g=>ID (P f) (C f) (.val (.sh (.ins c w n))::r) g
   |none=>eA)
  |_=>eA)
 |.comp F J k H cond imp nl,U=>aAh t ((JC P C H U).bind λr g =>
   match aAb k r g with
   |none=>eA
   |some (n,o)=>(ID (imp.map λ_=>bA) (DJ (KC P C cond) (ev P C dA F) (wB (J.length==1) J) n nl) (imp.map Hd.slot) (aAg o g)).bind (aAz o g))
noncomputable def qE(P:VA)(C:Calls):List E->Env->BA (List D)
 |[],U=>some (.ok [],U)
 |e::a,U=>(ev P C dA e U).bind λv b=>(qE P C a b).bind λc f=>some (.ok (v.d::c),f)
noncomputable def JC(P:VA)(C:Calls):List E->Env->BA (List Hd)
 |[],U=>some (.ok [],U)
 |e::a,U=>(hd e (ev P C dA e U) U).bind λv b=>(JC P C a b).bind λc d=>some (.ok (v::c),d)
noncomputable def KC(P:VA)(C:Calls):List E->Env->BA RV
 |[],U=>some (.ok (.sh (.bl bA)),U)
 |e::b,U=>(ev P C bA e U).bind λv a=>match v with
  |.sh (.bl bA)=>KC P C b a
  |.sh (.bl dA)=>some (.ok (.sh (.bl dA)),a)
  |_=>eA
end
mutual
noncomputable def zG(P:VA)(C:Calls):E->Env->Option (Exc×Env)
 |.call f a,U=>match JC P C a U with
  |some (.ok b,c)=>match ID (P f) (C f) b c with
   |some (.ex x,d)=>aA (x,d)
   |_=>eA
  |_=>xH P C a U
 |.bif .sorted a,U=>xH P C a U
 |_,_=>eA
noncomputable def xH(P:VA)(C:Calls):List E->Env->Option (Exc×Env)
 |[],_=>eA
 |e::a,U=>match hd e (ev P C dA e U) U with
  |some (.ok _,b)=>xH P C a b
  |_=>zG P C e U
end
inductive Fl where
 |nx | bk | ct | rt (v:RV) | ex (e:Exc)
set_option genCtorIdx true in
set_option genInjectivity true in
gen_injective_theorems% Fl
abbrev Run:=Option (Fl×Env)
noncomputable def BA.cC(r:BA O)(f:O->Env->Run):Run :=
 match r with
 |none=>eA
 |some (.ex e,U)=>some (.ex e,U)
 |some (.ok a,U)=>f a U
noncomputable def Run.next(r:Run)(f:Env->Run):Run :=
 match r with
 |some (.nx,U)=>f U
 |r=>r
def Run.restore(r:Run)(o:Option Nat)(j:Env):Run :=
 match r with
 |none=>eA
 |some (m,U)=>(aAs o j U).map λx=>(m,x)
noncomputable def WH(o:Option Env):Run:=o.map λU=>(.nx,U)
noncomputable def gD(bind:D->Env->Option Env)(body:Env->Run):List D->Env->Run
 |[],U=>aA (.nx,U)
 |d::b,U=>match bind d U with
  |none=>eA
  |some c=>match body c with
   |some (.nx,a)=>gD bind body b a
   |some (.ct,a)=>gD bind body b a
   |some (.bk,a)=>aA (.nx,a)
   |r=>r
noncomputable def eF(a:Env->BA RV)(body:Env->Run):Nat->Env->Run
 | 0,_=>eA
 |n+1,U=>(a U).cC λv c=>match v with
  |.sh (.bl bA)=>match body c with
   |some (.nx,b)=>eF a body n b
   |some (.ct,b)=>eF a body n b
   |some (.bk,b)=>aA (.nx,b)
   |r=>r
  |.sh (.bl dA)=>aA (.nx,c)
  |_=>eA
noncomputable def dH(a:Env->BA RV)(body:Env->Run)(b:Env->Option (Exc×Env)):Nat->Env->Option (Exc×Env)
 | 0,_=>eA
 |n+1,U=>match a U with
  |some (.ok (.sh (.bl bA)),d)=>(match body d with
   |some (.nx,c)=>dH a body b n c
   |some (.ct,c)=>dH a body b n c
   |_=>b d)
  |_=>eA
def fO(i:Nat)(U:Env)(o:Option Sl)(k:Option L2.aC)(v:RV):Run :=
 match o,k with
 |some (.ow (.dB a b) p dA),aA k=>if jB (a.length+1) then aA (.nx,U.set i (.ow (.dB (XI a k) (zH a b k v.d)) p dA)) else eA
 |_,_=>eA
def g7(P:VA)(C:Calls)(a:Env->BA RV)(d:List Nat)(k:sF)(b cond:List E)(imp:List Nat)(nl:Nat)(U:Env):BA RV :=
 (JC P C b U).bind λe c =>
   match aAb k e c with
   |none=>eA
   |some (f,o)=>(ID (imp.map λ_=>bA) (DJ (KC P C cond) a (wB (d.length==1) d) f nl) (imp.map Hd.slot) (aAg o c)).bind (aAz o c)
noncomputable def Oz(U:Env):Bool:=U.all λs=>match s with | .ow _ _ _=>dA | _=>bA
noncomputable def Cs(n:Nat)(U:Env):Env :=
 match U[n]? with
 |some (.ow d dA dA)=>U.set n (.sh d)
 |_=>U
def IE:Nat->Env->Env
 | 0,U=>U
 |n+1,U=>Cs n (IE n U)
def dHa(i j:Nat)(U:Env)(e c:Env->BA RV):Run :=
 match e (IE U.length U) with
 |some (.ok (.od (.l b)),a)=>@ite _ (a=IE U.length U/\Oz a=bA/\b.length<=1000/\i<a.length/\j<a.length/\c (a.set i (.sh (.l b)))=some (.ok (.sh (.bl dA)),a.set i (.sh (.l b)))) (cl _) (aA (.nx,(a.set i .mv).set j .mv)) eA
 |_=>eA
def sL(a:List fA)(i:Nat)(o:Option (Exc×Env)):Option Env :=
 match o with
 |none=>eA
 |some (x,b)=>if a.contains x.cls then store i (.sh (.FE x.cls x.num)) b else eA
noncomputable def aAI(i:Nat)(r:Run):Run :=
 match r with
 |some (.nx,U)=>(match U[i]? with | some (.sh _)=>aA (.nx,U.set i .mv) | _=>eA)
 |_=>eA
mutual
noncomputable def ex(P:VA)(C:Calls)(W:Nat):S->Env->Run
 |.qA,_=>eA
 |.pass,U=>aA (.nx,U)
 |.brk,U=>aA (.bk,U)
 |.cnt,U=>aA (.ct,U)
 |.YA i e,U=>(ev P C dA e U).cC λv f=>WH (store i v f)
 |.tN is e,U=>(ev P C dA e U).cC λv f=>WH (wB dA is v.d f)
 |.set i k e,U=>(ev P C dA e U).cC λv f=>if YH f i then(ev P C dA k f).cC λj g=>match g[i]?,j.d with
  |some (.ow (.l h) p dA),.int n=>WH ((L2.AF h.length n).map λm=>g.set i (.ow (.l (h.set m v.d)) p dA))
  |_,_=>eA
  else if gQ f i then(ev P C dA k f).cC λj g=>fO i g g[i]? (jE j.d) v
  else eA
 |.expr e,U=>(ev P C dA e U).cC λ_ f=>aA (.nx,f)
 |.ret e,U=>match e with
  |.v i=>match U[i]? with
   |some (.ow d dA _)=>aA (.rt (.ow d),U.set i .mv)
   |some (.sh d)=>aA (.rt (.sh d),U)
   |_=>eA
  |e=>(ev P C dA e U).cC λv f=>aA (.rt v,f)
 |.RT,U=>aA (.rt (.sh .lA),U)
 |.tFa _ _,_=>eA
 |.FA c a b,U=>(ev P C bA c U).cC λv f=>match v with
  |.sh (.bl bA)=>KA P C W a f
  |.sh (.bl dA)=>KA P C W b f
  |_=>eA
 |.for q one k l body,U=>(JC P C l U).cC λr f =>
  match aAb k r f with
  |none=>eA
  |some (h,o)=>(gD (wB one q) (KA P C W body) h (aAg o f)).restore o f
 |.jK c body,U=>eF (ev P C bA c) (KA P C W body) W U
 |.DM _ _,_=>eA
 |.VZ _ _,_=>eA
 |.Qc i j e c,U=>dHa i j U (ev P C dA e) (ev P C bA c)
 |.oO body s i t,U=>match KA P C W body U with
  |some (.nx,f)=>aA (.nx,f)
  |_=>match sL s i (UC P C W body U) with
   |some g=>aAI i (KA P C W t g)
   |none=>eA
noncomputable def KA(P:VA)(C:Calls)(W:Nat):List S->Env->Run
 |[],U=>aA (.nx,U)
 |s::r,U=>(ex P C W s U).next (KA P C W r)
noncomputable def wF(P:VA)(C:Calls)(W:Nat):S->Env->Option (Exc×Env)
 |.YA _ e,U=>zG P C e U
 |.expr e,U=>zG P C e U
 |.ret e,U=>zG P C e U
 |.DM c f,U=>match qE P C f U with
  |some (.ok _,d)=>aA (⟨c,eA⟩,d)
  |_=>eA
 |.FA c a b,U=>match ev P C bA c U with
  |some (.ok (.sh (.bl bA)),d)=>UC P C W a d
  |some (.ok (.sh (.bl dA)),d)=>UC P C W b d
  |_=>eA
 |.jK c body,U=>dH (ev P C bA c) (KA P C W body) (UC P C W body) W U
 |_,_=>eA
noncomputable def UC(P:VA)(C:Calls)(W:Nat):List S->Env->Option (Exc×Env)
 |[],_=>eA
 |s::r,U=>match ex P C W s U with
  |some (.nx,a)=>UC P C W r a
  |_=>wF P C W s U
end
abbrev Tab:=String->Option Fn
noncomputable def Tab.cA(T:Tab):VA:=λf=>match T f with
 |some fn=>fn.cA
 |none=>[]
def run(T:Tab)(W:Nat):Nat->Calls
 | 0=>λ_ _=>eA
 |n+1=>λf as=>match T f with
  |none=>eA
  |some fn=>if as.length=fn.cA.length/\as.all WI=bA then
    match KA T.cA (run T W n) W fn.body (as++AB fn.nl .un) with
    |some (.nx,U)=>some (.ok (.sh .lA),back as U)
    |some (.rt v,U)=>some (.ok v,back as U)
    |_=>if fn.rs then match UC T.cA (run T W n) W fn.body (as++AB fn.nl .un) with
     |some (x,U)=>some (.ex x,back as U)
     |none=>eA
     else eA
   else eA
end
end CI
namespace CI
set_option tactic.hygienic true
open PySem PySem.Spec PyProof.Rows L2
abbrev St:=L2.St
abbrev Sm(G a:Hp):Prop:=aB G a
def Sm.of(s:aB G j):Sm G j:=s
theorem Sm.refl(G:Hp):Sm G G:=aB.refl G
theorem Sm.trans(a:Sm G j)(b:Sm j m):Sm G m:=aB.trans a b
theorem Sm.seq{K:kA}(e:Sm G j)(h:zB K G a xs):zB K j a xs:=aB.seq e h
def Sm.app(s:Sm G j)(n:∀x,o≠.own x)(h:G b=aA o):j b=aA o:=s b o h
structure iN(K:kA)(C:jA)(ns:List fA):Prop where
 cl:aF K C
 no:∀f∈ns,sH K C f
def OL(K:kA)(G:Hp)(a:jA)(c:List aC)(d:List V)(b:KH):Prop:=(b.map (·.1)).Nodup/\b.length<=sizeLine/\(a==sysModules)=dA/\(∀x∈b,IC K G x.1 x.2.1)/\b.map (·.1)=c/\aAc d (b.map (·.2.2))
def LK(K:kA)(G:Hp)(C:jA)(p:Option jA)(n:Option Int):Prop:=True
def LK.mono{K:kA}(s:Sm G j){n:Option Int}(h:LK K G C p n):LK K j C p n:=trivial
abbrev RL(K:kA)(G:Hp)(C:jA)(p:PX)(x:Exc):Prop:=LK K G C p.1 x.num
def RL.pay{K:kA}(h:RL K G C p x):LK K G C p.1 x.num:=h
def cBa{K:kA}(h:LK K G C q x.num):RL K G C (q,bA) x:=h
mutual
def nA(K:kA)(G:Hp):D->V->Prop
 |.lA,v=>v=.lA
 |.bl b,v=>v=.bl b
 |.int i,v=>v=.int i
 |.str x,v=>v=.str x/\dN x=bA
 |.t e,v=>∃a d,v=.ref a/\BC K G a d/\oA K G e d
 |.l e,v=>∃a d,v=.ref a/\zB K G a d/\oA K G e d
 |.ins c f e,v=>∃a C h d,v=.ref a/\yB K eB c=aA (aA (.ref C))/\G a=aA (.ins C h (f.zip d))/\oA K G e d/\iN K C f/\f.length=d.length
 |.FE c n,v=>∃a C p,v=.ref a/\yB K eB c=aA (aA (.ref C))/\zE K C/\G a=aA (.ext (QG a C p))/\LK K G C p n
 |.dB j e,v=>∃a g d,v=.ref a/\LR G a g/\OL K G a j d g/\oA K G e d
 |.pS _ _,v=>False
def oA(K:kA)(G:Hp):List D->List V->Prop
 |[],a=>a=[]
 |d::b,a=>∃v r,a=v::r/\nA K G d v/\oA K G b r
end
def cI{K:kA}(s:Sm G b)(h:BC K G a c):BC K b a c:=by
 rcases h with (h | ⟨o,h⟩) | h
 ·exact .inl (.inl (s.app (λ_ z=>nomatch z) h))
 ·exact .inl (.inr ⟨o,s.app (λ_ z=>nomatch z) h⟩)
 ·exact .inr h
def aG.mono{K:kA}(s:Sm G j)(h:aG K G k b):aG K j k b:=let ⟨c,h1,h2⟩:=h;⟨c,cI s h1,cI s h2⟩
theorem IC.mono{K:kA}(s:Sm G j){k:aC}{b:jA}(h:IC K G k b):IC K j k b:=aG.mono s h
theorem OL.mono{K:kA}(s:Sm G j)(h:OL K G a m r xs):OL K j a m r xs:=⟨h.1,h.2.1,h.2.2.1,λx hx=>IC.mono s (h.2.2.2.1 x hx),h.2.2.2.2⟩
mutual
theorem nA.mono{K:kA}(s:Sm G x):∀(d:D) {v:V},nA K G d v->nA K x d v
 |.lA,_,h=>by simpa[nA] using h
 |.bl _,_,h=>by simpa[nA] using h
 |.int _,_,h=>by simpa[nA] using h
 |.str _,_,h=>by simpa[nA] using h
 |.t j,_,h=>by
  simp only[nA] at h ⊢;obtain⟨a,m,e,h1,h2⟩:=h;exact⟨a,m,e,cI s h1,oA.mono s j h2⟩
 |.l j,_,h=>by
  simp only[nA] at h ⊢;obtain⟨a,m,e,h1,h2⟩:=h;exact⟨a,m,e,s.seq h1,oA.mono s j h2⟩
 |.ins c ns j,_,h=>by
  simp only[nA] at h ⊢;obtain⟨a,C,y,m,e,h1,h2,h3,r,h5⟩:=h;exact⟨a,C,y,m,e,h1,s.app (λ_ z=>nomatch z) h2,oA.mono s j h3,r,h5⟩
 |.FE c n,_,h=>by
  simp only[nA] at h ⊢;obtain⟨a,C,p,e,h1,h2,h3,r⟩:=h;exact⟨a,C,p,e,h1,h2,s.app (λ_ z=>nomatch z) h3,r.mono s⟩
 |.dB F j,_,h=>by
  simp only[nA] at h ⊢;obtain⟨a,xs,m,e,⟨B,h1⟩,h2,h3⟩:=h;exact⟨a,xs,m,e,⟨B,s.app (λ_ z=>nomatch z) h1⟩,h2.mono s,oA.mono s j h3⟩
 |.pS _ _,_,h=>by simp only[nA] at h
theorem oA.mono{K:kA}(s:Sm G x):∀(j:List D) {m:List V},oA K G j m->oA K x j m
 |[],_,h=>by simpa[oA] using h
 |d::j,_,h=>by(simp only[oA] at h ⊢;obtain⟨v,r,e,h1,h2⟩:=h;exact⟨v,r,e,nA.mono s d h1,oA.mono s j h2⟩)
end
theorem oA.len{K:kA}:∀{j:List D} {m:List V},oA K G j m->m.length=j.length
 |[],_,h=>by simp only[oA] at h;subst h;rfl
 |d::j,_,h=>by(simp only[oA] at h;obtain⟨v,r,rfl,_,h2⟩:=h;simp[oA.len h2])
def oA.nil{K:kA}:oA K G [] []:=by simp[oA]
def oA.cons{K:kA}(h:nA K G d v)(t:oA K G m j):oA K G (d::m) (v::j):=by
 simp only[oA];exact⟨v,j,rfl,h,t⟩
theorem oA.app{K:kA}:∀{j x:List D} {y B:List V},oA K G j y->oA K G x B->oA K G (j++x) (y++B)
 |[],_,_,_,h,m=>by simp only[oA] at h;subst h;exact m
 |d::j,_,_,_,h,m=>by(simp only[oA] at h;obtain⟨v,r,rfl,h1,h2⟩:=h;exact oA.cons h1 (oA.app h2 m))
theorem oA.get{K:kA}:∀{j:List D} {m:List V} {i:Nat} {d:D},oA K G j m->j[i]?=aA d->∃v,m[i]?=aA v/\nA K G d v
 |[],_,_,_,_,e=>by simp at e
 |d::j,_,0,_,h,e=>by
  simp only[oA] at h;obtain⟨v,r,rfl,h1,h2⟩:=h;simp at e;subst e;exact⟨v,rfl,h1⟩
 |d::j,_,i+1,_,h,e=>by
  simp only[oA] at h;obtain⟨v,r,rfl,h1,h2⟩:=h
  have:=oA.get h2 (by simpa using e)
  simpa using this
theorem oA.set{K:kA}(m:nA K G d v):∀{j:List D} {x:List V} (i:Nat),oA K G j x->oA K G (j.set i d) (x.set i v)
 |[],_,_,h=>by simp only[oA] at h;subst h;simp[oA]
 |e::j,_,0,h=>by
  simp only[oA] at h;obtain⟨u,r,rfl,h1,h2⟩:=h;exact oA.cons m h2
 |e::j,_,i+1,h=>by(simp only[oA] at h;obtain⟨u,r,rfl,h1,h2⟩:=h;exact oA.cons h1 (oA.set m i h2))
theorem oA.take{K:kA}:∀{j:List D} {m:List V} (n:Nat),oA K G j m->oA K G (j.take n) (m.take n)
 |_,_,0,_=>by simp[oA]
 |[],_,_+1,h=>by simp only[oA] at h;subst h;simp[oA]
 |e::j,_,n+1,h=>by(simp only[oA] at h;obtain⟨u,r,rfl,h1,h2⟩:=h;exact oA.cons h1 (oA.take n h2))
theorem oA.drop{K:kA}:∀{j:List D} {m:List V} (n:Nat),oA K G j m->oA K G (j.drop n) (m.drop n)
 |_,_,0,h=>h
 |[],_,_+1,h=>by simp only[oA] at h;subst h;simp[oA]
 |e::j,_,n+1,h=>by(simp only[oA] at h;obtain⟨u,r,rfl,h1,h2⟩:=h;exact oA.drop n h2)
theorem oA.rep{K:kA}(h:oA K G j m):∀n,oA K G (AB n j).flatten (AB n m).flatten
 | 0=>oA.nil
 |n+1=>by(rw[wL,wL,RM,RM];exact oA.app h (oA.rep h n))
def ZF(K:kA)(H G:Hp)(a:jA):D->Prop
 |.l c=>∃b,H a=aA (.l b)/\oA K G c b
 |.dB e c=>∃d b,LR H a d/\OL K G a e b d/\oA K G c b
 |_=>False
def AA(U:Env)(Y:St)(a:jA):Prop:=∃(i:Nat) (d:D) (p l:Bool),U[i]?=aA (.ow d p l)/\Y[i]?=aA (aA (.ref a))
structure GA(K:kA)(U:Env)(Y:St)(H G:Hp):Prop where
 len:U.length=Y.length
 sub:aB G H
 sh:∀(i:Nat) (d:D),U[i]?=aA (.sh d)->∃v,Y[i]?=aA (aA v)/\nA K G d v
 ow:∀(i:Nat) (d:D) (p l:Bool),U[i]?=aA (.ow d p l)->∃a,Y[i]?=aA (aA (.ref a))/\G a=eA/\ZF K H G a d
 inj:∀(i j:Nat) (d:D) (p l:Bool) (d':D) (p' l':Bool) (a:jA),U[i]?=aA (.ow d p l)->U[j]?=aA (.ow d' p' l')->Y[i]?=aA (aA (.ref a))->Y[j]?=aA (aA (.ref a))->i=j
structure Ext(own:jA->Prop)(H G H' G':Hp):Prop where
 gg:Sm G G'
 hh:∀a o,H a=aA o->¬own a->H' a=aA o
 hx:∀a,H' a=eA->H a=eA
 gn:∀a,H a≠eA->G a=eA->¬own a->G' a=eA
theorem Ext.refl:Ext own H G H G:=⟨Sm.refl _,λ_ _ h _=>h,λ_ h=>h,λ_ _ h _=>h⟩
theorem Ext.trans(a:Ext own H G m r)(w:∀x,j x->own x\/H x=eA)(b:Ext j m r y B):Ext own H G y B:=by
 refine⟨a.gg.trans b.gg,λx o h n=>?_,λx h=>a.hx x (b.hx x h),λx h g n=>?_⟩
 ·refine b.hh x o (a.hh x o h n) λz=>?_
  rcases w x z with z | z
  ·exact n z
  ·rw[h] at z;cases z
 ·have h1:m x≠eA:=λz=>h (a.hx x z)
  refine b.gn x h1 (a.gn x h g n) λz=>?_
  rcases w x z with z | z
  ·exact n z
  ·exact h z
def Ext.weaken(a:Ext own H G m r)(w:∀x,own x->j x):Ext j H G m r :=
 ⟨a.gg,λx o h n=>a.hh x o h λz=>n (w x z),a.hx,λx h g n=>a.gn x h g λz=>n (w x z)⟩
def UL(H:Hp)(own new:jA->Prop)(c:List V):Prop:=∀x∈c,∃b a,x=.ref b/\H b=aA (.l a)/\a.length<=1000/\¬own b/\new b
def Rows(H:Hp)(own new:jA->Prop)(a:jA):Prop:=∃c,H a=aA (.l c)/\UL H own (λb=>new b/\b≠a) c
def UL.step(h:UL H own new r)(e:∀b o,H b=aA o->¬own b->y b=aA o)(w:∀b,j b->own b\/H b=eA):UL y j new r:=λx hx=>by
 obtain⟨b,B,h1,h2,h3,m,h5⟩:=h x hx;refine⟨b,B,h1,e b _ h2 m,h3,λz=>?_,h5⟩;rcases w b z with z | z
 ·exact m z
 ·rw[h2] at z;cases z
theorem UL.new{own new j:jA->Prop}(h:UL H own new m)(w:∀b,new b->j b):UL H own j m:=λx hx=>let ⟨b,r,h1,h2,h3,y,h5⟩:=h x hx;⟨b,r,h1,h2,h3,y,w b h5⟩
def sC(K:kA)(H G:Hp)(own:jA->Prop)(new:jA->Prop):RV->V->Prop
 |.sh d,v=>nA K G d v
 |.ow d,v=>∃a,v=.ref a/\G a=eA/\ZF K H G a d/\¬own a/\new a
 |.od d,v=>∃a,v=.ref a/\G a=eA/\ZF K H G a d/\¬own a/\new a/\Rows H own new a
def GB(K:kA)(H G:Hp)(d:D)(v:V):Prop:=nA K G d v\/∃a,v=.ref a/\ZF K H G a d
def gE(K:kA)(H G:Hp)(own:jA->Prop)(new:jA->Prop)(Y:St):Hd->V->Prop
 |.slot i,v=>Y[i]?=aA (aA v)
 |.val (.od _),_=>False
 |.val r,v=>sC K H G own new r v
section
variable{K:kA}{own XJ new new':jA->Prop}
theorem ZF.mono(h:ZF K H G a d)(s:Sm G r)(e:∀o,H a=aA o->x a=aA o):ZF K x r a d:=by
 induction d using D.casesOn with
 |l m =>
  obtain⟨j,h1,h2⟩:=h;exact⟨j,e _ h1,oA.mono s _ h2⟩
 |dB B m=>obtain⟨xs,j,⟨y,h1⟩,h2,h3⟩:=h;exact⟨xs,j,⟨y,e _ h1⟩,h2.mono s,oA.mono s m h3⟩
 |_=>exact h
def ZF.put(h:ZF K H G a d):∃o,H a=aA o/\∀j,Sm G j->j a=aA o->nA K j d (.ref a):=by
 induction d using D.casesOn with
 |l m =>
  obtain⟨r,h1,h2⟩:=h;exact⟨_,h1,λj s e=>by simp only[nA];exact⟨a,r,rfl,zB.of e,oA.mono s m h2⟩⟩
 |dB y m=>obtain⟨xs,r,⟨x,h1⟩,h2,h3⟩:=h;exact⟨_,h1,λj s e=>by simp only[nA];exact⟨a,xs,r,rfl,⟨x,e⟩,h2.mono s,oA.mono s m h3⟩⟩
 |_=>exact h.elim
def ZF.there(h:ZF K H G a d):∃o,H a=aA o:=let ⟨o,h,_⟩:=h.put;⟨o,h⟩
def GA.owned(r:GA K U Y H G)(o:AA U Y a):H a≠eA/\G a=eA:=by
 obtain⟨i,d,p,l,h1,h2⟩:=o;obtain⟨b,e,g,h⟩:=r.ow i d p l h1;rw[h2] at e;cases e;obtain⟨j,h⟩:=h.there;exact⟨by rw[h];simp,g⟩
def sC.wait(h:sC K H G own new v x)(e:Ext own H G C F)(w:∀a,XJ a->own a\/H a=eA):sC K C F XJ new v x:=by
 induction v using RV.casesOn with
 |sh d=>exact nA.mono e.gg d h
 |ow d =>
  obtain⟨a,rfl,g,o,n,m⟩:=h;obtain⟨B,j⟩:=o.there;have ne:H a≠eA:=by rw[j];simp
  refine⟨a,rfl,e.gn a ne g n,o.mono e.gg λr y=>e.hh a r y n,λz=>?_,m⟩;rcases w a z with z | z
  ·exact n z
  ·exact ne z
 |od d =>
  obtain⟨a,rfl,g,o,n,m,B,j,I⟩:=h;have ne:H a≠eA:=by rw[j];simp
  refine⟨a,rfl,e.gn a ne g n,o.mono e.gg λr y=>e.hh a r y n,λz=>?_,m,B,e.hh a _ j n,I.step e.hh w⟩;rcases w a z with z | z
  ·exact n z
  ·exact ne z
theorem gE.wait{v:Hd}{x:V}(h:gE K H G own new Y v x)(e:Ext own H G j m)(w:∀a,XJ a->own a\/H a=eA):gE K j m XJ new Y v x:=by
 induction v using Hd.casesOn with
 |slot i=>exact h
 |val r=>cases r with
  |od d=>exact h.elim
  |sh d=>exact nA.mono e.gg d h
  |ow d=>exact sC.wait (new:=new) (v:=.ow d) h e w
def sC.bI(h:sC K H G own new v x)(w:∀a,new a->new' a):sC K H G own new' v x:=by
 induction v using RV.casesOn with
 |sh d=>exact h
 |ow d =>
  obtain⟨a,rfl,g,o,n,m⟩:=h;exact⟨a,rfl,g,o,n,w a m⟩
 |od d =>
  obtain⟨a,rfl,g,o,n,m,j,r,y⟩:=h;exact⟨a,rfl,g,o,n,w a m,j,r,y.new λb z=>⟨w b z.1,z.2⟩⟩
theorem sC.low(h:sC K H G own new v x):sC K H G own new v.low x:=by
 induction v using RV.casesOn with
 |sh d=>exact h
 |ow d=>exact h
 |od d =>
  obtain⟨a,rfl,g,o,n,m,_⟩:=h;exact⟨a,rfl,g,o,n,m⟩
def gE.of(h:sC K H G own new v x):gE K H G own new Y (.val v.low) x:=by
 have:=h.low
 cases v<;>exact this
theorem gE.bI{v:Hd}{x:V}(h:gE K H G own new Y v x)(w:∀a,new a->new' a):gE K H G own new' Y v x:=by
 induction v using Hd.casesOn with
 |slot i=>exact h
 |val r=>cases r with
  |od d=>exact h.elim
  |sh d=>exact h
  |ow d=>exact sC.bI (own:=own) (H:=H) (v:=.ow d) h w
def sC.lL(h:sC K H G own new v x):GB K H G v.d x:=by
 induction v using RV.casesOn with
 |sh d=>exact .inl h
 |ow d =>
  obtain⟨a,rfl,g,o,n,m⟩:=h;exact .inr ⟨a,rfl,o⟩
 |od d =>
  obtain⟨a,rfl,g,o,n,m,_⟩:=h;exact .inr ⟨a,rfl,o⟩
theorem GA.get(r:GA K U Y H G){i:Nat}(h:(U[i]?).bind Sl.get=aA d)(hx:Y[i]?=aA (aA x)):GB K H G d x:=by
 cases e:U[i]? with
 |none=>rw[e] at h;cases h
 |some sl =>
  rw[e] at h
  induction sl using Sl.casesOn with
  |un=>cases h
  |mv=>cases h
  |sh j =>
   cases h;obtain⟨v,h1,h2⟩:=r.sh i _ e;rw[hx] at h1;cases h1;exact .inl h2
  |ow j p l =>
   cases h;obtain⟨a,h1,_,h2⟩:=r.ow i _ p l e;rw[hx] at h1;cases h1;exact .inr ⟨a,rfl,h2⟩
def gE.read{v:Hd}{x:V}{d:D}(h:gE K H G own new Y v x)(r:GA K U Y H G)(e:v.get U=aA d):GB K H G d x:=by
 induction v using Hd.casesOn with
 |slot i=>exact r.get e h
 |val u =>
  simp only[Hd.get,XB] at e;subst e
  induction u using RV.casesOn with
  |od d=>exact h.elim
  |sh d=>exact .inl h
  |ow d=>exact sC.lL (own:=own) (new:=new) (v:=.ow d) h
def GA.bound(r:GA K U Y H G){i:Nat}(h:((U[i]?).bind Sl.get).isSome=bA):∃v,Y[i]?=aA (aA v):=by
 cases e:U[i]? with
 |none=>rw[e] at h;cases h
 |some sl =>
  rw[e] at h
  induction sl using Sl.casesOn with
  |un=>cases h
  |mv=>cases h
  |sh j =>
   obtain⟨v,h1,h2⟩:=r.sh i _ e;exact⟨v,h1⟩
  |ow j p l =>
   obtain⟨a,h1,_,h2⟩:=r.ow i _ p l e;exact⟨_,h1⟩
theorem GB.l(s:aB G H)(h:GB K H G (.l m) x):∃a j,x=.ref a/\zB K H a j/\oA K G m j:=by
 rcases h with h | ⟨a,rfl,h⟩
 ·simp only[nA] at h;obtain⟨a,j,e,h1,h2⟩:=h;exact⟨a,j,e,s.seq h1,h2⟩
 ·obtain⟨j,h1,h2⟩:=h;exact⟨a,j,rfl,zB.of h1,h2⟩
theorem GB.t{m:List D}(s:aB G H)(h:GB K H G (.t m) x):∃a j,x=.ref a/\BC K H a j/\oA K G m j:=by
 rcases h with h | ⟨a,rfl,h⟩
 ·simp only[nA] at h;obtain⟨a,j,e,h1,h2⟩:=h;exact⟨a,j,e,cI s h1,h2⟩
 ·exact h.elim
theorem GB.ins{c:fA}{ns:List fA}{r:List D}{x:V}(s:aB G H)(h:GB K H G (.ins c ns r) x):∃a C m j,x=.ref a/\yB K eB c=aA (aA (.ref C))/\H a=aA (.ins C m (ns.zip j))/\oA K G r j/\iN K C ns/\ns.length=j.length:=by
 rcases h with h | ⟨a,rfl,h⟩
 ·simp only[nA] at h;obtain⟨a,C,m,j,e,h1,h2,h3⟩:=h;exact⟨a,C,m,j,e,h1,s _ _ h2,h3⟩
 ·exact h.elim
theorem GB.int(h:GB K H G (.int i) x):x=.int i:=by
 rcases h with h | ⟨a,rfl,h⟩
 ·simpa[nA] using h
 ·exact h.elim
theorem GB.bl(h:GB K H G (.bl i) x):x=.bl i:=by
 rcases h with h | ⟨a,rfl,h⟩
 ·simpa[nA] using h
 ·exact h.elim
theorem GB.str(h:GB K H G (.str i) x):x=.str i/\dN i=bA:=by
 rcases h with h | ⟨a,rfl,h⟩
 ·simpa[nA] using h
 ·exact h.elim
theorem GB.lA(h:GB K H G .lA x):x=.lA:=by
 rcases h with h | ⟨a,rfl,h⟩
 ·simpa[nA] using h
 ·exact h.elim
def GQ(h:nA K G (.bl i) x):x=.bl i:=by simpa[nA] using h
def aB.laid(h:H a=eA):aB H (EA H a o):=λb u e=>by rw[pB (vE e h)];exact e
theorem Sm.laid(h:H a=eA):Sm H (EA H a o):=Sm.of (aB.laid h)
def Sm.put(h:H a=eA):Sm H (EA H a o):=Sm.laid h
def GA.RJ(r:GA K U Y H G)(h:H a=eA):GA K U Y (EA H a o) (EA G a o):=by
 have m:G a=eA:=aB.free r.sub h;refine⟨r.len,λb u e=>?_,λi d e=>?_,λi d p l e=>?_,r.inj⟩
 ·by_cases j:b=a
  ·subst j;rw[oC] at e ⊢;exact e
  ·rw[pB j] at e ⊢;exact r.sub b u e
 ·obtain⟨v,h1,h2⟩:=r.sh i d e;exact⟨v,h1,nA.mono (Sm.laid m) d h2⟩
 ·obtain⟨b,h1,h2,h3⟩:=r.ow i d p l e;obtain⟨B,x⟩:=h3.there;have j:b≠a:=vE x h;refine⟨b,h1,by rw[pB j];exact h2,h3.mono (Sm.laid m) λC y=>by rw[pB j];exact y⟩
def Ext.RJ(s:aB G H)(h:H a=eA):Ext own H G (EA H a o) (EA G a o):=by
 have m:G a=eA:=aB.free s h;refine⟨Sm.laid m,λb u e _=>aB.laid h b u e,λb e=>?_,λb e g _=>?_⟩
 ·by_cases j:b=a
  ·subst j;exact h
  ·rwa[pB j] at e
 ·by_cases j:b=a
  ·subst j;exact absurd h e
  ·rw[pB j];exact g
def GA.cH(r:GA K U Y H G)(h:H a=eA):GA K U Y (EA H a o) G:=by
 refine⟨r.len,r.sub.trans (aB.laid h),r.sh,λi d p l e=>?_,r.inj⟩;obtain⟨b,h1,h2,h3⟩:=r.ow i d p l e;obtain⟨y,j⟩:=h3.there;have m:b≠a:=vE j h;exact⟨b,h1,h2,h3.mono (Sm.refl _) λB x=>by rw[pB m];exact x⟩
def Ext.cH(h:H a=eA):Ext own H G (EA H a o) G:=by
 refine⟨Sm.refl _,λb u e _=>aB.laid h b u e,λb e=>?_,λb e g _=>g⟩;by_cases j:b=a
 ·subst j;exact h
 ·rwa[pB j] at e
def GA.DT(r:GA K U Y H G)(h:H a=eA):¬AA U Y a:=λo=>(r.owned o).1 h
def aB.put(h:G a=eA):aB G (EA G a o):=aB.laid h
def sC.share(h:sC K H G (AA U Y) new v x)(r:GA K U Y H G)(I:∀a,new a->own a\/new' a) :
  ∃j,GA K U Y H j/\aB G j/\(∀a,j a≠eA->G a≠eA\/new a)/\nA K j v.d x:=by
 have y:∀d,sC K H G (AA U Y) new (.ow d) x->∃j,GA K U Y H j/\aB G j/\(∀a,j a≠eA->G a≠eA\/new a)/\nA K j d x:=by
  intro d h;obtain⟨a,rfl,g,o,n,m⟩:=h;obtain⟨ob,C,F⟩:=o.put;refine⟨EA G a ob,⟨r.len,λb u e=>?_,λi d e=>?_,λi d p l e=>?_,r.inj⟩,aB.put g,λb z=>?_, ?_⟩
  ·by_cases B:b=a
   ·subst B;rw[oC] at e;rw[C];exact e
   ·rw[pB B] at e;exact r.sub b u e
  ·obtain⟨v,h1,h2⟩:=r.sh i d e;exact⟨v,h1,nA.mono (Sm.put g) d h2⟩
  ·obtain⟨b,h1,h2,h3⟩:=r.ow i d p l e;have B:b≠a:=λz=>by subst z;exact n ⟨i,d,p,l,e,h1⟩
   exact⟨b,h1,by rw[pB B];exact h2,h3.mono (Sm.put g) λ_ z=>z⟩
  ·by_cases B:b=a
   ·subst B;exact .inr m
   ·rw[pB B] at z;exact .inl z
  ·exact F _ (Sm.put g) oC
 induction v using RV.casesOn with
 |sh d=>exact⟨G,r,aB.refl _,λa z=>.inl z,h⟩
 |ow d=>exact y d h
 |od d=>exact y d h.low
end
end CI
namespace CI
set_option tactic.hygienic true
open PySem PySem.Spec PyProof.Rows L2
def bF:Option Sl->Option Sl->Prop
 |some (.ow _ p l),aA (.ow _ a b)=>p=a/\l=b
 |some (.ow _ p _),aA (.sh _)=>p=dA
 |some .un,aA .un=>True
 |some .mv,aA .mv=>True
 |some (.sh _),aA (.sh _)=>True
 |none,eA=>True
 |_,_=>False
def bF.refl(a:Option Sl):bF a a:=by
 cases a with
 |none=>trivial
 |some s=>cases s<;>first | trivial | exact⟨rfl,rfl⟩
theorem bF.trans(h:bF a b)(j:bF b c):bF a c:=by
 cases a with
 |none =>
  cases b with
  |none=>exact j
  |some t=>cases t<;>exact h.elim
 |some s =>
  cases b with
  |none=>cases s<;>exact h.elim
  |some t =>
   cases c with
   |none=>cases t<;>exact j.elim
   |some u=>cases s<;>cases t<;>first | exact h.elim | (cases u<;>first | exact j.elim | trivial | exact⟨h.1.trans j.1,h.2.trans j.2⟩ | exact h.1.trans j | exact h)
def bF.Za(h:bF a (aA (.ow d p l))):∃j,a=aA (.ow j p l):=by
 cases a with
 |none=>exact h.elim
 |some s=>cases s<;>first | exact h.elim | (obtain⟨rfl,rfl⟩:=h;exact⟨_,rfl⟩)
def UD(U a:Env):Prop:=∀i:Nat,bF U[i]? a[i]?
theorem UD.refl(U:Env):UD U U:=λ_=>bF.refl _
theorem UD.trans(h:UD a b)(j:UD b c):UD a c:=λi=>(h i).trans (j i)
def UD.own(h:UD U j)(a:jA)(o:AA j Y a):AA U Y a:=by
 obtain⟨i,d,p,l,h1,h2⟩:=o
 have:=h i
 rw[h1] at this;obtain⟨m,e⟩:=this.Za;exact⟨i,m,p,l,e,h2⟩
theorem UD.set(h:bF U[i]? (aA s)):UD U (U.set i s):=λj=>by
 by_cases m:j=i
 ·subst m;by_cases hl:j<U.length
  ·rw[sI hl];exact h
  ·rw[uJ (by lia)] at h;cases s<;>exact h.elim
 ·rw[PD (λz=>m z.symm)];exact bF.refl _
structure DA(K:kA)(U:Env)(Y:St)(H G:Hp)(U':Env)(H' G':Hp):Prop where
 rA:GA K U' Y H' G'
 ext:Ext (AA U Y) H G H' G'
 II:UD U U'
section
variable{K:kA}
theorem DA.own(a:DA K U Y H G j m r):∀a,AA j Y a->AA U Y a:=λx h=>a.II.own x h
theorem DA.refl(r:GA K U Y H G):DA K U Y H G U H G:=⟨r,Ext.refl,UD.refl _⟩
theorem DA.trans(a:DA K U Y H G j m r)(b:DA K j Y m r y B C):DA K U Y H G y B C :=
 ⟨b.rA,a.ext.trans (λx h=>.inl (a.own x h)) b.ext,a.II.trans b.II⟩
abbrev wD(H:Hp):jA->Prop:=λa=>H a=eA
def DA.fresh(a:DA K U Y H G m j r)(h:j x=eA):H x=eA:=a.ext.hx x h
def DA.n0(a:DA K U Y H G m r y)(h:sC K r y (AA m Y) (wD H) v x):∃j,DA K U Y H G m r j/\nA K j v.d x/\aB y j:=by
 obtain⟨j,F,B,n2,h2⟩:=h.share (own:=λ_=>False) (new':=wD H) a.rA (λ_ z=>.inr z);refine⟨j,⟨F,⟨a.ext.gg.trans B,a.ext.hh,a.ext.hx,λb C I nb=>?_⟩,a.II⟩,h2,B⟩
 cases e:j b with
 |none=>rfl
 |some o =>
  rcases n2 b (by rw[e];simp) with z | z
  ·exact absurd (a.ext.gn b C I nb) z
  ·exact absurd z C
def DA.share(a:DA K U Y H G m r y)(h:sC K r y (AA m Y) (wD H) v x):∃j,DA K U Y H G m r j/\nA K j v.d x:=let ⟨j,h1,h2,_⟩:=a.n0 h;⟨j,h1,h2⟩
theorem DA.RJ(a:DA K U Y H G m j r)(h:j p=eA):DA K U Y H G m (EA j p o) (EA r p o) :=
 a.trans ⟨a.rA.RJ h,Ext.RJ a.rA.sub h,UD.refl _⟩
theorem DA.cH(a:DA K U Y H G m j r)(h:j p=eA):DA K U Y H G m (EA j p o) r :=
 a.trans ⟨a.rA.cH h,Ext.cH h,UD.refl _⟩
def DA.bb(a:DA K U Y H G y j m)(h:j p=eA)(r:oA K m B x) :
  DA K U Y H G y (EA j p (.l x)) m/\sC K (EA j p (.l x)) m (AA y Y) (wD H) (.ow (.l B)) (.ref p) :=
 ⟨a.cH h,p,rfl,aB.free a.rA.sub h,⟨x,oC,r⟩,a.rA.DT h,a.fresh h⟩
def DA.Ho(a:DA K U Y H G x m j)(h:m p=eA)(r:OL K j p ks vs xs)(q:oA K j ds vs) :
  DA K U Y H G x (EA m p (.ext (zC p xs y))) j/\sC K (EA m p (.ext (zC p xs y))) j (AA x Y) (wD H) (.ow (.dB ks ds)) (.ref p) :=
 ⟨a.cH h,p,rfl,aB.free a.rA.sub h,⟨xs,vs,⟨_,oC⟩,r,q⟩,a.rA.DT h,a.fresh h⟩
def DA.yf(a:DA K U Y H G B m x)(h:m p=eA)(r:oA K x y j) :
  DA K U Y H G B (EA m p (.t j)) (EA x p (.t j))/\sC K (EA m p (.t j)) (EA x p (.t j)) (AA B Y) (wD H) (.sh (.t y)) (.ref p):=by
 refine⟨a.RJ h, ?_⟩;show nA K _ (.t y) _;simp only[nA];exact⟨p,j,rfl,BC.of oC,oA.mono (Sm.laid (aB.free a.rA.sub h)) y r⟩
end
def bG:List Hd->List V->jA->Prop
 |.val (.ow _)::b,x::c,a=>x=.ref a\/bG b c a
 |_::b,_::c,a=>bG b c a
 |_,_,_=>False
def ED(K:kA)(H G:Hp)(own new:jA->Prop)(Y:St):List Hd->List V->Prop
 |[],b=>b=[]
 |h::c,b=>∃x r,b=x::r/\gE K H G own new Y h x/\ED K H G own new Y c r/\∀d a,h=.val (.ow d)->x=.ref a->¬bG c r a
section
variable(K:kA)(P:VA)(C:Calls)
def tE(c:E):TE:=λY H Q=>∃(U:Env) (G:Hp) (v:RV) (a:Env),GA K U Y H G/\ev P C dA c U=some (.ok v,a) /\
 ∀x b d,DA K U Y H G a b d->sC K b d (AA a Y) (wD H) v x->Q x b
def tT(c:E):TT:=λY H Q=>∃(U:Env) (G:Hp) (b:Bool) (a:Env),GA K U Y H G/\ev P C bA c U=some (.ok (.sh (.bl b)),a) /\
 ∀d e,DA K U Y H G a d e->Q b d
def tH(c:E):TE:=λY H Q=>∃(U:Env) (G:Hp) (h:Hd) (a:Env),GA K U Y H G/\hd c (ev P C dA c U) U=some (.ok h,a) /\
 ∀x b d,DA K U Y H G a b d->gE K b d (AA a Y) (wD H) Y h x->Q x b
def bK(f:List E):TA:=λY H Q=>∃(U:Env) (G:Hp) (a:List D) (b:Env),GA K U Y H G/\qE P C f U=some (.ok a,b) /\
 ∀c d e,DA K U Y H G b d e->oA K e a c->Q c d
def IG(f:List E):TA:=λY H Q=>∃(U:Env) (G:Hp) (c:List Hd) (a:Env),GA K U Y H G/\JC P C f U=some (.ok c,a) /\
 ∀d b e,DA K U Y H G a b e->ED K b e (AA a Y) (wD H) Y c d->Q d b
end
def TE.QC(h:PE X e t)(w:∀Y H Q,u Y H Q->t Y H Q):PE X e u:=λcA s Y H Q I q=>h cA s Y H Q I (w Y H Q q)
def TT.eQ(h:PT X e t)(w:∀Y H Q,u Y H Q->t Y H Q):PT X e u:=λcA s Y H Q I q=>h cA s Y H Q I (w Y H Q q)
def TA.NN(h:PA X e t)(w:∀Y H Q,u Y H Q->t Y H Q):PA X e u:=λpos cA s Y H Q I q=>h pos cA s Y H Q I (w Y H Q q)
def rB{r:BA O}(h:r.bind f=some (.ok b,U)):∃a c,r=some (.ok a,c)/\f a c=some (.ok b,U):=by
 unfold BA.bind at h;split at h
 ·cases h
 ·cases h
 ·exact⟨_,_,rfl,h⟩
def XG(h:done o U=some (.ok v,a)):o=aA v/\a=U:=by
 unfold done at h
 cases o with
 |none=>cases h
 |some u=>simp only[WE,XB,ZE,Out.ok.injEq] at h;exact⟨by rw[h.1],h.2.symm⟩
def Of{r:BA RV}{c:Env}(h:aAh bA r=some (.ok v,c)):∃u b,r=some (.ok u,c)/\fI u.d=aA b/\v=.sh (.bl b):=by
 obtain⟨u,j,f,a⟩:=rB h
 cases e:fI u.d with
 |none=>rw[e] at a;cases a
 |some b =>
  rw[e] at a;simp only[WE,XB,ZE,Out.ok.injEq] at a;obtain⟨g,i⟩:=a;subst i;exact⟨u,b,f,e,g.symm⟩
section
variable{K:kA}{P:VA}{C:Calls}{Y:St}{H:Hp}
def nO{X:Cx}{c:E}(h:PE X e (tE K P C c))(n:∀i,c≠.v i):PE X e (tH K P C c):=by
 refine TE.QC h λY H Q q=>?_
 obtain⟨U,G,d,b,r,e1,k⟩:=q
 have:hd c (ev P C dA c U) U=(ev P C dA c U).bind λv b=>some (.ok (.val v.low),b):=by
  induction c using E.casesOn with
  |v=>exact absurd rfl (n _)
  |_=>rfl
 rw[this] at e1;obtain⟨v,m,e2,f⟩:=rB e1;cases f;exact⟨U,G,v,_,r,e2,λx g j a l=>k x g j a (gE.of l)⟩
def xBa(h:PE X e (mL i)):PE X e (tE K P C (.v i)):=by
 refine TE.QC h λY H Q q=>?_
 obtain⟨U,G,v,U',r,e1,k⟩:=q;replace e1:aAK i U=_:=e1;unfold aAK at e1;split at e1
 ·rename_i d hd;cases e1;obtain⟨x,w,J⟩:=r.sh i d hd;exact⟨x,w,k x H G (DA.refl r) J⟩
 ·rename_i d hd;cases e1;obtain⟨a,w,g,o⟩:=r.ow i d _ _ hd;refine⟨.ref a,w, ?_⟩;obtain⟨M,N,F⟩:=o.put;have O:i<U.length:=(BD.mp hd).1
  have c:∀(j:Nat) (sl:Sl),(U.set i (.sh d))[j]?=aA sl->(j=i/\sl=.sh d)\/(j≠i/\U[j]?=aA sl):=λj sl n=>by
   by_cases s:j=i
   ·subst s;rw[sI O] at n;exact .inl ⟨rfl,(kD n).symm⟩
   ·rw[PD (λz=>s z.symm)] at n;exact .inr ⟨s,n⟩
  have I:∀b,AA (U.set i (.sh d)) Y b->AA U Y b:=λb R=>by
   obtain⟨j,y,p,l,f,m⟩:=R;rcases c j _ f with ⟨_,z⟩ | ⟨_,z⟩
   ·cases z
   ·exact⟨j,y,p,l,z,m⟩
  refine k (.ref a) H (EA G a M) ⟨⟨?_,λb u z=>?_,λj y n=>?_,λj y p l n=>?_,λj Z d1 p1 l1 d2 p2 l2 b f m A h6=>?_⟩,⟨Sm.put g,λ_ _ z _=>z,λ_ z=>z,λb f m A=>?_⟩,UD.set (by rw[hd];rfl)⟩ ?_
  ·rw[oE];exact r.len
  ·by_cases t:b=a
   ·subst t;rw[oC] at z;rw[N];exact z
   ·rw[pB t] at z;exact r.sub b u z
  ·rcases c j _ n with ⟨rfl,z⟩ | ⟨_,z⟩
   ·cases z;exact⟨_,w,F _ (Sm.put g) oC⟩
   ·obtain⟨x,f,m⟩:=r.sh j y z;exact⟨x,f,nA.mono (Sm.put g) y m⟩
  ·rcases c j _ n with ⟨_,z⟩ | ⟨ne,z⟩
   ·cases z
   ·obtain⟨b,f,m,A⟩:=r.ow j y p l z;have t:b≠a:=λe=>by subst e;exact ne (r.inj _ _ _ _ _ _ _ _ _ z hd f w)
    exact⟨b,f,by rw[pB t];exact m,A.mono (Sm.put g) λ_ z=>z⟩
  ·rcases c j _ f with ⟨_,z⟩ | ⟨_,z⟩
   ·cases z
   ·rcases c Z _ m with ⟨_,B⟩ | ⟨_,B⟩
    ·cases B
    ·exact r.inj _ _ _ _ _ _ _ _ _ z B A h6
  ·by_cases t:b=a
   ·subst t;exact absurd ⟨i,_,_,_,hd,w⟩ A
   ·rw[pB t];exact m
  ·exact F _ (Sm.put g) oC
 ·cases e1
def yBa(h:PE X e (mL i)):PE X e (tH K P C (.v i)):=by
 refine TE.QC h λY H Q q=>?_
 obtain⟨U,G,b,d,r,e1,k⟩:=q;replace e1:(if((U[i]?).bind Sl.get).isSome then aA (Out.ok (Hd.slot i),U) else eA)=_:=e1;split at e1
 ·rename_i c;cases e1;obtain⟨x,a⟩:=r.bound c;exact⟨x,a,k x H G (DA.refl r) a⟩
 ·cases e1
def E1(s:aB G H)(h:GB K H G d x)(e:fI d=aA b):UR K x H b:=by
 cases d<;>simp only[fI,XB,reduceCtorEq] at e
 ·have:=h.lA;subst this;exact e.symm
 ·have:=h.bl;subst this;exact e.symm
 ·have:=h.int;subst this;exact e.symm
 ·split at e
  ·rename_i i;obtain⟨rfl,_⟩:=h.str;exact⟨TB i (by decide),(kD e).symm⟩
  ·cases e
 ·obtain⟨a,c,rfl,f,g⟩:=h.t s;refine .inr (.inl ⟨c,f, ?_⟩);rw[<- e]
  have:=g.len
  cases c<;>cases ‹List D›<;>simp_all
 ·obtain⟨a,c,rfl,f,g⟩:=h.l s;refine .inl ⟨c,f, ?_⟩;rw[<- e]
  have:=g.len
  cases c<;>cases ‹List D›<;>simp_all
def nEa(d:X.K=K)(h:PE X e (tE K P C c))(f:∀U,ev P C bA c U=aAh bA (ev P C dA c U))
  (g:∀whole,isTrue e X.env whole=(do let v <- whole;standAt e.pos;holding [v] (truthy v))):PT X e (tT K P C c):=by
 refine TT.eQ (Yb h g) λY H Q q=>?_
 obtain⟨U,G,b,i,r,e1,k⟩:=q;rw[f] at e1;obtain⟨u,p,e2,j,l⟩:=Of e1;cases l;refine⟨U,G,u,i,r,e2,λx m n a o=>⟨b, ?_,k m n a⟩⟩;rw[d];exact E1 a.rA.sub o.lL j
end
end CI
namespace CI
set_option tactic.hygienic true
open PySem PySem.Spec PyProof.Rows L2
def sZ{M:D->Prop}{n:Nat}{d:D}(h:JB n d=bA)(c:M .lA)(e:∀b,M (.bl b))(f:∀i,M (.int i))(g:∀t,M (.str t))(j:∀m a,n=m+1->(∀x∈a,JB m x=bA)->M (.t a))(k:∀m a,n=m+1->(∀x∈a,JB m x=bA)->M (.l a)):M d:=by
 induction d using D.casesOn with
 |lA=>exact c
 |bl=>exact e _
 |int=>exact f _
 |str=>exact g _
 |t a=>cases n with
  |zero=>cases h
  |succ n=>exact j _ _ rfl (IH.mp h)
 |l a=>cases n with
  |zero=>cases h
  |succ n=>exact k _ _ rfl (IH.mp h)
 |_=>cases n<;>cases h
def Cp{n:Nat}(g:∀d e,JB n d=bA->JB n e=bA->fN (zD d) (zD e)=EE d e)(b:List D):∀a:List D,(∀d∈b,JB n d=bA)->(∀d∈a,JB n d=bA)->ZM (gK b) (gK a)=BN b a:=by
 induction b with
 |nil =>
  intro a;cases a<;>exact λ_ _=>rfl
 |cons d b i =>
  intro a
  cases a with
  |nil=>exact λ_ _=>rfl
  |cons e a=>exact λh f=>congr (congrArg and (g d e (h d (by simp)) (f e (by simp)))) (i a (λx c=>h x (by simp[c])) λx c=>f x (by simp[c]))
def Bp(n:Nat):∀d e:D,JB n d=bA->JB n e=bA->fN (zD d) (zD e)=EE d e:=by
 induction n using ui with | ind n i =>
 intro d e h j
 refine sZ (M:=λd=>fN (zD d) (zD e)=EE d e) h ?_ (λ_=>?_) (λ_=>?_) (λ_=>?_) (λm c b hd=>?_) (λm c b hd=>?_)<;>refine sZ (M:=λe=>fN (zD _) (zD e)=EE _ e) j ?_ (λ_=>?_) (λ_=>?_) (λ_=>?_) (λk f a g=>?_) (λk f a g=>?_)<;>first | rfl | (cases b.symm.trans a;exact Cp (i m (C3 (VF m) b.symm)) c f hd g)
section
variable{K:kA}
def MZ{s:zA}{n:Nat}(e:∀(d:D) (x:V) (u:gA),JB n d=bA->nA K G d x->aAe x u->∃as,Reads s.heap u (zD d) as/\kJ (zD d)=bA/\JL (zD d)<=n)(a:List D):∀(b:List V) (c:List gA),(∀d∈a,JB n d=bA)->oA K G a b->aAc b c->∃as,ReadsAll s.heap c (gK a) as/\JO (gK a)=bA/\qR (gK a)<=n:=by
 induction a with
 |nil =>
  intro b c _ h r;cases (show b=[] from h);cases r;exact⟨_,ReadsAll.nil,rfl,pE _⟩
 |cons d a f =>
  intro b c ok h r;obtain⟨v,g,rfl,i,j⟩:=h
  cases r with
  |cons k l =>
   obtain⟨as,m,o,p⟩:=e d v _ (ok d (by simp)) i k;obtain⟨bs,q,t,w⟩:=f g _ (λx y=>ok x (by simp[y])) j l;exact⟨_,ReadsAll.cons m q,by simp[gK,JO,o,t],Nat.max_le.mpr ⟨p,w⟩⟩
def Bc(I:iA X cA Y H s)(A:X.K=K)(sub:aB G H)(n:Nat):∀(d:D) (x:V) (u:gA),JB n d=bA->nA K G d x->aAe x u->∃as,Reads s.heap u (zD d) as/\kJ (zD d)=bA/\JL (zD d)<=n:=by
 induction n using ui with | ind n B =>
 intro d x u ok;refine sZ (M:=λd=>nA K G d x->aAe x u->∃as,Reads s.heap u (zD d) as/\kJ (zD d)=bA/\JL (zD d)<=n) ok (λh r=>?_) (λb h r=>?_) (λb h r=>?_) (λb h r=>?_) (λm i f hd h r=>?_) (λm i f hd h r=>?_)
 ·cases (show x=_ from h);cases r;exact⟨_,Reads.none,rfl,pE _⟩
 ·cases (show x=_ from h);cases r;exact⟨_,Reads.bool b,rfl,pE _⟩
 ·cases (show x=_ from h);obtain⟨t,rfl⟩:=r;exact⟨_,Reads.int b t,rfl,pE _⟩
 ·obtain⟨rfl,C⟩:=h;obtain⟨t,rfl⟩:=r;exact⟨_,Reads.str b t,by simpa[zD,kJ] using C,pE _⟩
 ·obtain⟨a,g,rfl,j,l⟩:=h;cases r;obtain⟨c,p,⟨o,q,v,k,e⟩,F⟩:=I.tuple (show BC X.K H a g from A ▸ cI sub j);obtain⟨as,w,y,z⟩:=MZ (B m (C3 (VF m) f.symm)) i g c hd l p;exact⟨_,Reads.tuple q v e (by simpa using w),y,f ▸ CL z⟩
 ·obtain⟨a,g,rfl,j,l⟩:=h;cases r;obtain⟨c,p,⟨o,k,q,v,J,e⟩,F⟩:=I.list (show zB X.K H a g from A ▸ sub.seq j);obtain⟨as,w,y,z⟩:=MZ (B m (C3 (VF m) f.symm)) i g c hd l p;exact⟨_,Reads.list q v e (by simpa using w),y,f ▸ CL z⟩
def Cc(I:iA X cA Y H s)(c:X.K=K)(sub:aB G H)(n:Nat)(d:D)(x:V)(u:gA)(ok:JB n d=bA)(h:GB K H G d x)(r:aAe x u):∃as,Reads s.heap u (zD d) as/\kJ (zD d)=bA/\JL (zD d)<=n:=by
 rcases h with h | ⟨a,rfl,h⟩
 ·exact Bc I c sub n d x u ok h r
 ·cases r
  cases d<;>first | exact h.elim | skip
  case dB=>cases n<;>cases ok
  rename_i e;obtain⟨f,g,i⟩:=h
  cases n with
  |zero=>cases ok
  |succ n =>
   obtain⟨b,j,⟨o,m,k,l,t,hd⟩,v⟩:=I.list (zB.of g);obtain⟨as,p,q,w⟩:=MZ (Bc I c sub n) e f b (IH.mp ok) i j;exact⟨_,Reads.list k l hd (by simpa using p),by simpa[zD,kJ] using q,by simp[zD,JL];lia⟩
def aAF(K:kA)(H G:Hp)(v:RV)(x:V)(c:Hp):Prop :=
 (∃d,v=.sh d/\nA K G d x/\c=H) \/
 (∃a b p,v=.ow (.l a)/\H p=eA/\oA K G a b/\x=.ref p/\c=EA H p (.l b)) \/
 (∃a b p,v=.sh (.t a)/\H p=eA/\oA K G a b/\x=.ref p/\c=EA H p (.t b))
def nZ(h:∃a b p,v=.sh (.t a)/\H p=eA/\oA K G a b/\x=.ref p/\c=EA H p (.t b)):aAF K H G v x c :=
 .inr (.inr h)
def DA.made(a:DA K U Y j F y H G)(m:aAF K H G v x B) :
  ∃C,DA K U Y j F y B C/\sC K B C (AA y Y) (wD j) v x:=by
 rcases m with ⟨d,rfl,h,rfl⟩ | ⟨I,J,p,rfl,h,r,rfl,rfl⟩ | ⟨I,J,p,rfl,h,r,rfl,rfl⟩
 ·exact⟨G,a,h⟩
 ·exact⟨_,a.bb h r⟩
 ·exact⟨_,a.yf h r⟩
def yEa(K:kA)(op:rJ):R2:=λx y H Q=>∃G d e v,aB G H/\GB K H G d x/\GB K H G e y/\(op=.Mult->∀b,d=.l b->∃a c,x=.ref a/\H a=aA (.l c)/\oA K G b c)/\UB op d e=aA v/\∀z f,aAF K H G v z f->Q z f
def aAn:aAF K H G (.sh (.int i)) (.int i) H:=.inl ⟨_,rfl,by simp[nA],rfl⟩
def yy:aAF K H G (.sh (.bl i)) (.bl i) H:=.inl ⟨_,rfl,by simp[nA],rfl⟩
def aK(h:jB n=bA):n<=sizeLine:=TB (@of_decide_eq_true _ (cl _) h) (by decide)
def KQ(I:iA X cA Y H s)(h:zB X.K H a c):∃(b:List gA),aAc c b/\s.heap.IsList a b.toArray/\c.length<=sizeLine:=by
 obtain⟨b,r,p,z⟩:=I.list h;exact⟨b,r,p.isList,z⟩
def zEa(K:kA):R2:=λx y H Q=>∃l b a c,x=.ref l/\y=.ref b/\zB K H l a/\zB K H b c/\a.length+c.length<=sizeLine/\∀p,H p=eA->Q (.ref p) (EA H p (.l (a++c)))
def C':rC X (yE .Add) (zEa X.K):=by
 intro cA s Y H x y v u Q I t w h;obtain⟨l,b,O,P,rfl,rfl,A,B,R,q⟩:=h;cases t;cases w;obtain⟨c,r,C,z⟩:=KQ I A;obtain⟨a,k,g,U⟩:=KQ I B;have e1:=r.length;have e2:=k.length;obtain⟨⟨cls,J,data,sl⟩,m,o,n,hd⟩:=id C;obtain⟨⟨p,i,data2,j⟩,d,e,M,f⟩:=id g;simp only at o hd e f;subst o hd e f;refine pV ⟨_,m,rfl⟩ ⟨_,d,rfl⟩ noFill_list_add seq_list_add PySem.F.slot_list_add PySem.F.entry_list_add (PySem.F.args_list_add_2 _ _) (list_addW l b c.toArray a.toArray n M J i sl j (by simp;lia)) ⟨m,d, ?_⟩;have N:c.toArray++a.toArray=(c++a).toArray:=by simp
 rw[N];exact⟨.ref _,_,I.jZ (t':=s.toks) (r.append k) (by rw[NC];lia),rfl,q _ I.fresh⟩
def J':rC X (yE .FloorDiv) (rI (λ_ j=>0<j/\j<100000000000000000000000000000000000000000000000000000000000000000000000000000000) λi j=>.int (i / j)):=yQ λi j _ _ _ _ _ a q=>by
 have c:(0:Int)<j:=a.1;have d:j<100000000000000000000000000000000000000000000000000000000000000000000000000000000:=a.2;have b:j.natAbs<2 ^ 300:=MC (by omega:j.natAbs<100000000000000000000000000000000000000000000000000000000000000000000000000000000) (by decide);have e:j.natAbs.log2<300:=(Nat.log2_lt (by omega)).mpr b;exact PyProof.Rows.floordiv_int (by omega) (by rw[Cg i (by omega)];exact q) (.inl (PyProof.noPylong_of_log2 (by omega)))
def oB(e:eA=aA v):False:=nomatch e
def B':rC X (yE .Add) (λx y H Q=>∃a b k,x=.ref a/\y=.ref b/\BC X.K H a []/\BC X.K H b k/\Q (.ref b) H):=by
 intro cA s Y H x y v u Q I p r h;obtain⟨a,b,k,rfl,rfl,t,w,q⟩:=h;cases p;cases r;obtain⟨g,z,A,_⟩:=I.tuple t;obtain⟨c,N,B,_⟩:=I.tuple w;have C:g=[]:=z.yT.mpr rfl;subst C;obtain⟨⟨cls,J,data,sl⟩,l,m,n,hd⟩:=id A;obtain⟨⟨o,i,data2,j⟩,d,e,M,f⟩:=id B;simp only at m hd e f;subst m hd e f
 exact pV ⟨_,l,rfl⟩ ⟨_,d,rfl⟩ Q3 j4 P2 N2 (E2 _ _)
  (tuple_addW0 a b [].toArray c.toArray n M J i sl j rfl) ⟨l,d,⟨.ref b,H,I,rfl,q⟩⟩
def Ql{d e:D}{w:RV}(h:UB .Sub d e=aA w):∃i j,d=.int i/\e=.int j/\w=.sh (.int (i-j)):=by
 induction d using D.casesOn with
 |int=>induction e using D.casesOn with
  |int=>cases h;exact⟨_,_,rfl,rfl,rfl⟩
  |_=>exact(oB h).elim
 |_=>exact(oB h).elim
def Ml{d e:D}{w:RV}(h:UB .FloorDiv d e=aA w):∃i j,d=.int i/\e=.int j/\(0<j/\j<100000000000000000000000000000000000000000000000000000000000000000000000000000000)/\w=.sh (.int (i / j)):=by
 induction d using D.casesOn with
 |int=>induction e using D.casesOn with
  |int =>
   change @ite _ _ (cl _) _ eA=_ at h;split at h
   ·rename_i a;cases h;exact⟨_,_,rfl,rfl,a,rfl⟩
   ·cases h
  |_=>exact(oB h).elim
 |_=>exact(oB h).elim
def Ol{d e:D}{w:RV}(h:UB .Mod d e=aA w):∃i j,d=.int i/\e=.int j/\0<j/\w=.sh (.int (i % j)):=by
 induction d using D.casesOn with
 |int=>induction e using D.casesOn with
  |int =>
   change @ite _ _ (cl _) _ eA=_ at h;split at h
   ·rename_i a;cases h;exact⟨_,_,rfl,rfl,a,rfl⟩
   ·cases h
  |_=>exact(oB h).elim
 |_=>exact(oB h).elim
def Nl{d e:D}{w:RV}(h:UB .LShift d e=aA w):∃i j,d=.int i/\e=.int j/\Y4 i j/\w=.sh (.int (i*2 ^ j.toNat)):=by
 induction d using D.casesOn with
 |int=>induction e using D.casesOn with
  |int =>
   change @ite _ _ (cl _) _ eA=_ at h;split at h
   ·rename_i a;cases h;exact⟨_,_,rfl,rfl,⟨a.1,by omega,a.2.2⟩,rfl⟩
   ·cases h
  |_=>exact(oB h).elim
 |_=>exact(oB h).elim
def Pl{d e:D}{w:RV}(h:UB .RShift d e=aA w):∃i j,d=.int i/\e=.int j/\0<=j/\w=.sh (.int (i / 2 ^ j.toNat)):=by
 induction d using D.casesOn with
 |int=>induction e using D.casesOn with
  |int =>
   change @ite _ _ (cl _) _ eA=_ at h;split at h
   ·rename_i a;cases h;exact⟨_,_,rfl,rfl,a,rfl⟩
   ·cases h
  |_=>exact(oB h).elim
 |_=>exact(oB h).elim
def Ll{d e:D}{w:RV}(h:UB .BitAnd d e=aA w):∃i j,d=.int i/\e=.int j/\w=.sh (.int (mR i j)):=by
 induction d using D.casesOn with
 |int=>induction e using D.casesOn with
  |int=>cases h;exact⟨_,_,rfl,rfl,rfl⟩
  |_=>exact(oB h).elim
 |_=>exact(oB h).elim
def bS{op:rJ}{P:Int->Int->Prop}{f:Int->Int->Int}{cA:List (jA×qB)}{s:zA}{Y:St}{H G:Hp}{x y:V}{v u:gA}{Q:VK}{d e:D}{w:RV}(h:rC X (yE op) (rI P λi j=>.int (f i j)))(I:iA X cA Y H s)(b:aAe x v)(c:aAe y u)(g:GB X.K H G d x)(l:GB X.K H G e y)(k:∀z a,aAF X.K H G w z a->Q z a)(z:∃i j,d=.int i/\e=.int j/\P i j/\w=.sh (.int (f i j))) :
  tA (model X.prog X.w) X.A (yE op v u) (EP X cA Y Q) X.xe s:=by
 obtain⟨i,j,rfl,rfl,m,rfl⟩:=z;exact h cA s Y H x y v u Q I b c ⟨i,j,g.int,l.int,m,k _ _ aAn⟩
def S5{op:rJ}{f:Int->Int->Int}{cA:List (jA×qB)}{s:zA}{Y:St}{H G:Hp}{x y:V}{v u:gA}{Q:VK}{d e:D}{w:RV}(h:rC X (yE op) (YI λi j=>.int (f i j)))(I:iA X cA Y H s)(b:aAe x v)(c:aAe y u)(g:GB X.K H G d x)(l:GB X.K H G e y)(k:∀z a,aAF X.K H G w z a->Q z a)(z:∃i j,d=.int i/\e=.int j/\w=.sh (.int (f i j))) :
  tA (model X.prog X.w) X.A (yE op v u) (EP X cA Y Q) X.xe s:=by
 obtain⟨i,j,rfl,rfl,rfl⟩:=z;exact h cA s Y H x y v u Q I b c ⟨i,j,g.int,l.int,k _ _ aAn⟩
def Yl(P:X.K=K)(op:rJ):rC X (yE op) (yEa K op):=by
 intro cA s Y H x y v u Q I g i h;obtain⟨G,d,e,w,sub,j,f,R,c,k⟩:=h;subst P
 cases op with
 |Add =>
  induction d using D.casesOn with
  |int =>
   induction e using D.casesOn with
   |int =>
    cases j.int;cases f.int;change aA _=_ at c;cases c;exact y' cA s Y H _ _ _ _ Q I g i ⟨_,_,rfl,rfl,k _ _ aAn⟩
   |_=>exact(oB c).elim
  |l A =>
   induction e using D.casesOn with
   |l U =>
    change (if jB (A.length+U.length) then aA _ else eA)=_ at c;split at c
    ·rename_i J;cases c;obtain⟨a,o,rfl,q,n⟩:=j.l sub;obtain⟨b,B,rfl,C,t⟩:=f.l sub;refine C' cA s Y H _ _ _ _ Q I g i ⟨a,b,o,B,rfl,rfl,q,C, ?_,λp F=>k _ _ (.inr (.inl ⟨_,_,p,rfl,F,n.app t,rfl,rfl⟩))⟩;rw[n.len,t.len];exact aK J
    ·cases c
   |_=>exact(oB c).elim
  |t A =>
   cases A with
   |nil =>
    induction e using D.casesOn with
    |t r =>
     change aA _=_ at c;cases c;have l:=f;obtain⟨a,o,rfl,q,n⟩:=j.t sub;obtain⟨b,B,rfl,C,t⟩:=f.t sub;have e1:o=[]:=Og.mp n.len;subst e1;refine B' cA s Y H _ _ _ _ Q I g i ⟨a,b,B,rfl,rfl,q,C, ?_⟩;rcases l with l | ⟨_,_,l⟩
     ·exact k _ _ (.inl ⟨_,rfl,l,rfl⟩)
     ·exact l.elim
    |_=>exact(oB c).elim
   |cons x0 M =>
    induction e using D.casesOn with
    |t r =>
     change (if jB (M.length+1+r.length) then aA _ else eA)=_ at c;split at c
     ·rename_i J;cases c;have m:=j;obtain⟨a,o,rfl,q,n⟩:=j.t sub;obtain⟨b,B,rfl,C,t⟩:=f.t sub;have e1:=n.len;have e2:=t.len;refine E' cA s Y H _ _ _ _ Q I g i ⟨a,b,o,B,rfl,rfl,q,C, ?_, ?_,λO=>?_,λO p F=>?_⟩
      ·intro z;subst z;simp at e1
      ·rw[e1,e2];exact aK J
      ·subst O;have Z:r=[]:=Og.mp e2.symm;subst Z;rcases m with m | ⟨_,_,m⟩
       ·exact k _ _ (.inl ⟨_,rfl,by simpa using m,rfl⟩)
       ·exact m.elim
      ·exact k _ _ (nZ ⟨_,_,p,rfl,F,n.app t,rfl,rfl⟩)
     ·cases c
    |_=>exact(oB c).elim
  |_=>exact(oB c).elim
 |Sub=>exact S5 bAa I g i j f k (Ql c)
 |Mult =>
  induction d using D.casesOn with
  |int =>
   induction e using D.casesOn with
   |int =>
    cases j.int;cases f.int;change @ite _ _ (cl _) _ eA=_ at c;split at c
    ·cases c;exact S' cA s Y H _ _ _ _ Q I g i ⟨_,_,rfl,rfl,‹_›,k _ _ aAn⟩
    ·cases c
   |_=>exact(oB c).elim
  |l A =>
   induction e using D.casesOn with
   |int N =>
    change @ite _ (-(2 ^ 31)<=N/\N<=1000/\jB (A.length*N.toNat)) (cl _) _ eA=_ at c;split at c
    ·rename_i hc;cases c;cases f.int;obtain⟨a,o,rfl,q,n⟩:=R rfl _ rfl;refine W' cA s Y H _ _ _ _ Q I g i ⟨a,_,o,rfl,rfl,q,by omega,by omega, ?_,λp F=>k _ _ (.inr (.inl ⟨_,_,p,rfl,F,n.rep _,rfl,rfl⟩))⟩;rw[n.len];exact aK hc.2.2
    ·cases c
   |_=>exact(oB c).elim
  |_=>exact(oB c).elim
 |FloorDiv=>exact bS J' I g i j f k (Ml c)
 |Mod=>exact bS R' I g i j f k (Ol c)
 |Pow=>exact(oB c).elim
 |LShift=>exact bS Z' I g i j f k (Nl c)
 |RShift=>exact bS aAa I g i j f k (Pl c)
 |BitAnd=>exact S5 A' I g i j f k (Ll c)
 |BitOr=>exact(oB c).elim
 |_=>exact(oB c).elim
def FQ(K:kA)(op:lF):R2:=λx y H Q=>∃G d e b,aB G H/\GB K H G d x/\GB K H G e y/\DB op d e=aA b/\Q (.bl b) H
def EN(h:nA K G d x)(f:eD d=bA):KI x=bA/\∀(e:D) (y:V),nA K G e y->eD e=bA->HJ y x=EE e d:=by
 cases d<;>simp only[eD,eJ] at f<;>simp only[nA] at h
 ·subst h;refine⟨rfl,λe y a b=>?_⟩;cases e<;>simp only[eD,eJ] at b<;>simp only[nA] at a<;>(first | subst a | (obtain⟨rfl,_⟩:=a))<;>rfl
 ·subst h;refine⟨rfl,λe y a b=>?_⟩;cases e<;>simp only[eD,eJ] at b<;>simp only[nA] at a<;>(first | subst a | (obtain⟨rfl,_⟩:=a))<;>rfl
 ·subst h;refine⟨rfl,λe y a b=>?_⟩;cases e<;>simp only[eD,eJ] at b<;>simp only[nA] at a<;>(first | subst a | (obtain⟨rfl,_⟩:=a))<;>rfl
 ·obtain⟨rfl,_⟩:=h;refine⟨rfl,λe y a b=>?_⟩;cases e<;>simp only[eD,eJ] at b<;>simp only[nA] at a<;>(first | subst a | (obtain⟨rfl,_⟩:=a))<;>rfl
def GB.flat(h:GB K H G d x)(f:eD d=bA):nA K G d x:=by
 rcases h with h | ⟨a,rfl,h⟩
 ·exact h
 ·cases d<;>first | exact h.elim | cases f
theorem fQ(h:nA K G d x)(f:eD d=bA):∀{c:List D} {a:List V},oA K G c a->c.all eD=bA->a.all KI=bA/\XS x a=inD d c
 |[],a,b,_=>by simp only[oA] at b;subst b;exact⟨rfl,rfl⟩
 |e::c,a,b,fs=>by
  simp only[oA] at b;obtain⟨y,r,rfl,g,i⟩:=b;rw[kC,RA] at fs;obtain⟨j,k⟩:=fQ h f i fs.2;obtain⟨l,_⟩:=EN g fs.1;have m:=(EN h f).2 e y g fs.1;refine⟨by rw[kC,l,j];rfl, ?_⟩
  unfold XS inD at *
  rw[HL,HL,k,m]
def Ac(I:iA X cA Y H s)(a:X.K=K)(sub:aB G H)(hu:A.units+20<cLine)(od:JB 20 d=bA)(b:JB 20 e=bA)(i:GB K H G d x)(j:GB K H G e y)(k:aAe x v)(l:aAe y u) :
  SeqAt.RcAt A s v u (EE d e)/\SeqAt.RcNeAt A s v u (!EE d e):=by
 obtain⟨as,c,f,m⟩:=Cc I a sub 20 d x v od i k;obtain⟨bs,g,h,n⟩:=Cc I a sub 20 e y u b j l;rw[<- Bp 20 d e od b];exact⟨S3 c g f h (by lia),SeqAt.rcNeAt_reads c g f h (by lia)⟩
def Du{b:List D}:∀{a:List Int},WD b=aA a->b=a.map D.int:=by
 induction b with
 |nil=>intro a h;cases h;rfl
 |cons d r c =>
  intro a h
  induction d using D.casesOn with
  |int i =>
   replace h:(WD r).map (i :: ·)=aA a:=h
   cases q:WD r with
   |none=>rw[q] at h;cases h
   |some e =>
    rw[q] at h;cases h;rw[MB,<- c q]
  |_=>cases h
theorem oA.ints:∀{ns:List Int} {j:List V},oA K G (ns.map D.int) j->j=ns.map V.int
 |[],j,h=>by simp only[cN,oA] at h;exact h
 |n::ns,j,h=>by(simp only[MB,oA] at h;obtain⟨v,r,rfl,h1,h2⟩:=h;simp only[nA] at h1;rw[h1,oA.ints h2];rfl)
def Tc(h:EM d=aA k):d=uA k:=by
 induction d using D.casesOn with
 |t l =>
  obtain _ | ⟨a,_ | ⟨b,_ | ⟨_,_⟩⟩⟩:=l
  ·exact oD h
  ·exact oD h
  ·induction a using D.casesOn with
   |int t =>
    induction b using D.casesOn with
    |t c =>
     obtain⟨e,q,rfl⟩:=RF.mp h;rw[Du q];rfl
    |_=>exact oD h
   |_=>exact oD h
  ·exact oD h
 |_=>exact oD h
def rHa(h:jE d=aA k):d=FP k:=by
 obtain⟨x,a,rfl⟩:=RF.mp h;exact Tc a
def Vc(h:nA K G (uA k) x):∃b,x=.ref b/\aG K G k b:=by
 simp only[uA,nA,oA] at h;obtain⟨a,g,rfl,e,v1,i,rfl,rfl,j,l,rfl,⟨c,m,rfl,d,f⟩,rfl⟩:=h;rw[oA.ints f] at d;exact⟨a,rfl,c,e,d⟩
def qQ(hk:jE d=aA k)(h:GB K H G d x):∃b,x=.ref b/\IC K G k b:=by
 rw[rHa hk] at h;rcases h with h | ⟨_,_,h⟩
 ·exact Vc h
 ·exact h.elim
theorem Kc:∀(a:List Int),oA K G (a.map D.int) (a.map V.int)
 |[]=>oA.nil
 |n::a=>oA.cons (by simp only[nA]) (Kc a)
def Hc(h:aG K G k b):nA K G (uA k) (.ref b):=by
 obtain⟨c,a,d⟩:=h;simp only[uA,nA];exact⟨b,_,rfl,a,oA.cons (by simp only[nA]) (oA.cons (by simp only[nA];exact⟨c,_,rfl,d,Kc _⟩) oA.nil)⟩
def rFa{k:aC}{b:jA}(h:IC K G k b):nA K G (FP k) (.ref b):=Hc h
theorem Jc:∀{a:KH},(∀x∈a,IC K G x.1 x.2.1)->oA K G ((a.map (·.1)).map FP) (a.map λx=>.ref x.2.1)
 |[],_=>oA.nil
 |x::a,h=>oA.cons (rFa (h x (.head _))) (Jc λy b=>h y (.tail _ b))
abbrev oN(K:kA)(G:Hp)(c:List aC)(d:List D)(a:KH):Prop:=a.map (·.1)=c/\∃b,aAc b (a.map (·.2.2))/\oA K G d b
theorem GB.dB(h:GB K H G (.dB m r) x)(sub:aB G H):∃a xs,x=.ref a/\DS K H a xs/\oN K G m r xs/\∀x∈xs,IC K G x.1 x.2.1:=by
 have go:∀{a xs j},LR H a xs->OL K G a m j xs->oA K G r j->DS K H a xs/\oN K G m r xs/\∀x∈xs,IC K G x.1 x.2.1:=λh1 h2 h3=>⟨⟨h1,h2.1,h2.2.1,h2.2.2.1,λx hx=>IC.mono sub (h2.2.2.2.1 x hx)⟩,⟨h2.2.2.2.2.1,_,h2.2.2.2.2.2,h3⟩,h2.2.2.2.1⟩
 rcases h with h | ⟨a,rfl,xs,j,h1,h2,h3⟩
 ·simp only[nA] at h;obtain⟨a,xs,j,rfl,⟨y,h1⟩,h2,h3⟩:=h;exact⟨a,xs,rfl,go ⟨y,sub _ _ h1⟩ h2 h3⟩
 ·exact⟨a,xs,rfl,go h1 h2 h3⟩
theorem X9:∀{b:KH} {ks:List aC} {a:List D},oN K G ks a b->(atKey b k=eA/\SJ ks a k=eA)\/∃p d v,atKey b k=aA p/\SJ ks a k=aA d/\aAe v p.2/\nA K G d v
 |[],_,_,⟨rfl,_⟩=>.inl ⟨rfl,rfl⟩
 |q::b,_,a,⟨rfl,h,f,c⟩=>by
  cases f with
  | @cons v u h m f i =>
   obtain _ | ⟨d,a⟩:=a
   ·simp only[oA] at c;cases c
   ·simp only[oA] at c;obtain⟨n,r,e,j,l⟩:=c;cases e;have g:=X9 (k:=k) (ks:=b.map (·.1)) ⟨rfl,_,i,l⟩;unfold atKey SJ at g ⊢;rw[MB,lK,dV,dV];by_cases e:q.1=k
    ·rw[vB e];exact .inr ⟨_,_,_,rfl,rfl,f,j⟩
    ·rw[cB e];exact g
theorem jW:∀(a:KH),(atKey a k).isSome=KJ (a.map (·.1)) k
 |[]=>rfl
 |q::a=>by
  have b:=jW (k:=k) a;unfold atKey KJ at b ⊢;rw[MB,dV,HL];by_cases e:q.1=k
  ·rw[vB e];rfl
  ·rw[cB e];exact b
def Z9(r:oN K G b c a)(k:aC):(atKey a k).isSome=KJ b k:=by rw[<- r.1];exact jW a
theorem jc(i:aAe v u)(hd:nA K G d v):∀{a:KH} {b:List D} {c:List V},aAc c (a.map (·.2.2))->oA K G b c ->
  (a.map (putAt k u)).map (·.1)=a.map (·.1)/\∃f,aAc f ((a.map (putAt k u)).map (·.2.2))/\oA K G (((a.map (·.1)).zip b).map λp=>if p.1=k then d else p.2) f
 |[],b,c,h,g=>⟨rfl,[],.nil,by simp[oA]⟩
 |q::a,b,c,h,g=>by
  cases h with
  | @cons v0 n c o h j =>
   obtain _ | ⟨s,b⟩:=b
   ·simp only[oA] at g;cases g
   ·simp only[oA] at g;obtain⟨t,r,e,l,m⟩:=g;cases e;obtain⟨g1,f,g2,g3⟩:=jc i hd j m;rw[MB,MB,MB,MB,lK,MB,g1];unfold putAt;by_cases e:q.1=k
    ·rw[MA e];exact⟨rfl,v::f,.cons i g2,oA.cons (by rw[MA e];exact hd) g3⟩
    ·rw[JA e];exact⟨rfl,_::f,.cons h g2,oA.cons (by rw[JA e];exact l) g3⟩
def aAc.snoc(h:aAc j m)(r:aAe v u):aAc (j++[v]) (m++[u]):=h.append (.cons r .nil)
def tEa(r:oN K G a h c)(e:aAe v u)(hd:nA K G d v):oN K G (XI a k) (zH a h k d) (storedH c k b u):=by
 obtain⟨rfl,i,f,g⟩:=r;unfold XI zH storedH;rw[<- jW c];split
 ·exact jc e hd f g
 ·refine⟨by rw[vD];rfl,_, ?_,oA.app g (oA.cons hd oA.nil)⟩;rw[vD];exact aAc.snoc f e
def Fc{H G:Hp}{d:D}{x:V}(h:GB K H G d x):decide (x=.lA)=rZ d:=by
 rcases h with h | ⟨a,rfl,h⟩
 ·induction d using D.casesOn with
  |lA=>simp only[nA] at h;subst h;rfl
  |bl=>simp only[nA] at h;subst h;rfl
  |int=>simp only[nA] at h;subst h;rfl
  |str=>simp only[nA] at h;rw[h.1];rfl
  |t=>simp only[nA] at h;obtain⟨a,_,rfl,_⟩:=h;rfl
  |l=>simp only[nA] at h;obtain⟨a,_,rfl,_⟩:=h;rfl
  |_=>simp only[nA] at h<;>first | exact h.elim | (obtain⟨_,h⟩:=h;first | (obtain⟨rfl,_⟩:=h;rfl) | (obtain⟨_,h⟩:=h;first | (obtain⟨rfl,_⟩:=h;rfl) | (obtain⟨_,h⟩:=h;first | (obtain⟨rfl,_⟩:=h;rfl) | (obtain⟨_,rfl,_⟩:=h;rfl))))
 ·induction d using D.casesOn with
  |lA=>exact h.elim
  |_=>rfl
def Ou{q b:Bool}{d:D}(h:BY q d=aA b):∃p,d=.bl p/\b=(p==q):=by
 induction d using D.casesOn with
 |bl p=>cases h;exact⟨p,rfl,rfl⟩
 |_=>exact(oB h).elim
def wy{d e:D}{b:Bool}(h:DB .Lt d e=aA b):∃i j,d=.int i/\e=.int j/\b=decide (i<j):=by
 cases d with
 |int=>cases e with
  |int=>cases h;exact⟨_,_,rfl,rfl,rfl⟩
  |_=>exact(oB h).elim
 |_=>exact(oB h).elim
def Ux{d e:D}{b:Bool}(h:DB .LtE d e=aA b):∃i j,d=.int i/\e=.int j/\b=decide (i<=j):=by
 cases d with
 |int=>cases e with
  |int=>cases h;exact⟨_,_,rfl,rfl,rfl⟩
  |_=>exact(oB h).elim
 |_=>exact(oB h).elim
def wt{d e:D}{b:Bool}(h:DB .Gt d e=aA b):∃i j,d=.int i/\e=.int j/\b=decide (j<i):=by
 induction d using D.casesOn with
 |int=>induction e using D.casesOn with
  |int=>cases h;exact⟨_,_,rfl,rfl,rfl⟩
  |_=>exact(oB h).elim
 |_=>exact(oB h).elim
def Xs{d e:D}{b:Bool}(h:DB .GtE d e=aA b):∃i j,d=.int i/\e=.int j/\b=decide (j<=i):=by
 induction d using D.casesOn with
 |int=>induction e using D.casesOn with
  |int=>cases h;exact⟨_,_,rfl,rfl,rfl⟩
  |_=>exact(oB h).elim
 |_=>exact(oB h).elim
def kS{op:lF}{f:Int->Int->Bool}{cA:List (jA×qB)}{s:zA}{Y:St}{H G:Hp}{x y:V}{v u:gA}{Q:VK}{d e:D}{b:Bool}(h:rC X (bE op) (λx y H Q=>∃i j,x=.int i/\y=.int j/\Q (.bl (f i j)) H))(I:iA X cA Y H s)(a:aAe x v)(c:aAe y u)(g:GB K H G d x)(l:GB K H G e y)(k:Q (.bl b) H)(z:∃i j,d=.int i/\e=.int j/\b=f i j) :
  tA (model X.prog X.w) X.A (bE op v u) (EP X cA Y Q) X.xe s:=by
 obtain⟨i,j,rfl,rfl,rfl⟩:=z;exact h cA s Y H x y v u Q I a c ⟨i,j,g.int,l.int,k⟩
def xN(n:X.K=K)(hu:X.A.units+64<cLine)(op:lF):rC X (bE op) (FQ K op):=by
 intro cA s Y H x y v u Q I i j h;obtain⟨G,d,e,b,sub,g,l,c,k⟩:=h
 cases op with
 |Eq =>
  change (if JB 20 d&&JB 20 e then aA _ else eA)=_ at c;split at c
  ·rename_i f;cases c;rw[RA] at f;exact(Ac I n sub (by lia) f.1 f.2 g l i j).1 _ _ _ _ ⟨.bl _,H,I,rfl,k⟩
  ·cases c
 |NotEq =>
  change (if JB 20 d&&JB 20 e then aA _ else eA)=_ at c;split at c
  ·rename_i f;cases c;rw[RA] at f;exact(Ac I n sub (by lia) f.1 f.2 g l i j).2 _ _ _ _ ⟨.bl _,H,I,rfl,k⟩
  ·cases c
 |Lt =>
  exact kS P' I i j g l k (wy c)
 |LtE =>
  exact kS O' I i j g l k (Ux c)
 |Gt=>exact kS L' I i j g l k (wt c)
 |GtE=>exact kS K' I i j g l k (Xs c)
 |Is =>
  induction e using D.casesOn with
  |lA =>
   cases l.lA;change aA _=_ at c;cases c;refine M' cA s Y H _ _ _ _ Q I i j ⟨rfl, ?_⟩;rw[Fc g];exact k
  |bl q =>
   obtain⟨p,rfl,rfl⟩:=Ou (show BY q d=_ from c);cases g.bl;cases l.bl;cases i;cases j;exact is_bool ⟨.bl _,H,I,rfl,k⟩
  |_=>exact(oB c).elim
 |IsNot =>
  induction e using D.casesOn with
  |lA =>
   cases l.lA;change aA _=_ at c;cases c;refine V' cA s Y H _ _ _ _ Q I i j ⟨rfl, ?_⟩;rw[Fc g];exact k
  |_=>exact(oB c).elim
 |In =>
  induction e using D.casesOn with
  |t m =>
   change (if eD d&&m.all eD then aA _ else eA)=_ at c;split at c
   ·rename_i f;cases c;rw[RA] at f;obtain⟨a,o,rfl,r,t⟩:=l.t sub;obtain⟨w,z⟩:=fQ (g.flat f.1) f.1 t f.2;refine Wa cA s Y H _ _ _ _ Q I i j ⟨a,o,rfl,.inr (n ▸ r),(EN (g.flat f.1) f.1).1,w, ?_⟩;simpa[z] using k
   ·cases c
  |l m =>
   change (if eD d&&m.all eD then aA _ else eA)=_ at c;split at c
   ·rename_i f;cases c;rw[RA] at f;obtain⟨a,o,rfl,r,t⟩:=l.l sub;obtain⟨w,z⟩:=fQ (g.flat f.1) f.1 t f.2;refine Wa cA s Y H _ _ _ _ Q I i j ⟨a,o,rfl,.inl (n ▸ r),(EN (g.flat f.1) f.1).1,w, ?_⟩;simpa[z] using k
   ·cases c
  |dB B J =>
   change ON d B=_ at c;unfold ON at c
   cases hs:jE d with
   |none=>rw[hs] at c;cases c
   |some M =>
    rw[hs] at c;cases c;subst n;obtain⟨b0,rfl,C⟩:=qQ hs g;obtain⟨a,N,rfl,m,pr,_⟩:=l.dB sub;cases i;cases j;refine uGa (by lia) I m (IC.mono sub C) λO F=>⟨.bl _,H,F,rfl, ?_⟩
    rw[Z9 pr];exact k
  |_=>exact(oB c).elim
 |NotIn =>
  induction e using D.casesOn with
  |t m =>
   change (if eD d&&m.all eD then aA _ else eA)=_ at c;split at c
   ·rename_i f;cases c;rw[RA] at f;obtain⟨a,o,rfl,r,t⟩:=l.t sub;obtain⟨w,z⟩:=fQ (g.flat f.1) f.1 t f.2;refine Xa cA s Y H _ _ _ _ Q I i j ⟨a,o,rfl,.inr (n ▸ r),(EN (g.flat f.1) f.1).1,w, ?_⟩;simpa[z] using k
   ·cases c
  |l m =>
   change (if eD d&&m.all eD then aA _ else eA)=_ at c;split at c
   ·rename_i f;cases c;rw[RA] at f;obtain⟨a,o,rfl,r,t⟩:=l.l sub;obtain⟨w,z⟩:=fQ (g.flat f.1) f.1 t f.2;refine Xa cA s Y H _ _ _ _ Q I i j ⟨a,o,rfl,.inl (n ▸ r),(EN (g.flat f.1) f.1).1,w, ?_⟩;simpa[z] using k
   ·cases c
  |dB B J =>
   change (ON d B).map (!·)=_ at c;unfold ON at c
   cases hs:jE d with
   |none=>rw[hs] at c;cases c
   |some M =>
    rw[hs] at c;cases c;subst n;obtain⟨b0,rfl,C⟩:=qQ hs g;obtain⟨a,N,rfl,m,pr,_⟩:=l.dB sub;cases i;cases j;refine xGa (by lia) I m (IC.mono sub C) λO F=>⟨.bl _,H,F,rfl, ?_⟩
    rw[Z9 pr];exact k
  |_=>exact(oB c).elim
end
end CI
namespace CI
set_option tactic.hygienic true
open PySem PySem.Spec PyProof.Rows L2
section
variable{X:Cx}{K:kA}{cA:List (jA×qB)}{Y:St}{H G:Hp}{s:zA}
def M5(h:oA K G a b)(e:lC a i=aA d):∃v,lC b i=aA v/\nA K G d v:=by
 unfold lC at e ⊢;rw[h.len]
 cases q:AF a.length i with
 |none=>rw[q] at e;cases e
 |some j =>
  rw[q] at e;exact h.get e
def eFa(K:kA):R2:=λx y H Q=>∃G d e r,aB G H/\GB K H G d x/\GB K H G e y/\mQ d e=aA r/\∀z,nA K G r z->Q z H
def tF.imp(h:tF X r)(w:∀x y H Q,j x y H Q->r x y H Q):tF X j:=λm sl cA s Y H x y v u Q I B C q F=>h m sl cA s Y H x y v u Q I B C (w x y H Q q) F
def yIa(h:dN x=bA)(e:lC x.cps.toList i=aA c):dN ⟨#[c]⟩=bA:=by
 unfold dN at *
 have a:c∈x.cps.toList:=by
  unfold lC at e
  cases q:AF x.cps.toList.length i with
  |none=>rw[q] at e;cases e
  |some j=>rw[q] at e;exact pF e
 have:=Array.all_eq_true'.mp h c (by simpa using a)
 simpa using this
def Cv:tF X (λ_ _ _ _=>False):=λ_ _ _ _ _ _ _ _ _ _ _ _ _ _ h _=>h.elim
def QT(K:kA):R2:=λx y H Q=>∃a b c k p v,x=.ref a/\y=.ref b/\DS K H a c/\IC K H k b/\atKey c k=aA p/\aAe v p.2/\Q v H
def DS.typeIs(I:iA X cA Y H s)(d:DS X.K H a xs):s.TypeIs (.ref a) "dict":=by
 obtain⟨o,j,m,h1,h2,_⟩:=d.dict I;exact⟨o,h1,h2.1⟩
def Av(hu:X.A.units+11<cLine):tF X (QT X.K):=by
 intro value slice cA s Y H x y v u Q I f g h i;obtain⟨a,b,o,k,p,z,rfl,rfl,c,j,e,l,q⟩:=h;cases f;cases g;have d:=DS.typeIs I c;unfold subscriptTail;refine pA ?_;rw[getitemInPython_of_ne d.not_modules];refine pA (wpAny_specialOf d PySem.F.slot_dict_getitem.lookup ?_)
 have fin:tA (model X.prog X.w) X.A (subscripted slice dA (.ref a) (.ref b)) (λr m=>tA (model X.prog X.w) X.A (letTemporaryGo value (.ref a) r>>=λ_=>pure r) (EP X cA Y Q) X.xe m) X.xe s:=by(rw[i];exact wpAny_operating (tGa hu I c j e λt n=>pA (wpAny_letTemporaryGo (WA ⟨z,H,n,l,q⟩))))
 first
  |exact WA (pA fin)
  |exact pA (WA (pA fin))
  |exact pA fin
def Dv(u:X.K=K)(hu:X.A.units+11<cLine):tF X (eFa K):=by
 refine tF.imp ((Fv.or Cv).or (Av hu)) λx y H Q h=>?_
 obtain⟨G,d,e,r,sub,l,m,b,k⟩:=h;subst u;unfold mQ at b;split at b
 ·cases m.int;obtain⟨a,o,rfl,g,f⟩:=l.t sub;obtain⟨v,i,j⟩:=M5 f b;exact .inl (.inl (.inr (.inl ⟨a,o,_,v,rfl,rfl,g,i,k v j⟩)))
 ·cases m.int;obtain⟨a,o,rfl,g,f⟩:=l.l sub;obtain⟨v,i,j⟩:=M5 f b;exact .inl (.inl (.inl ⟨a,o,_,v,rfl,rfl,g,i,k v j⟩))
 ·rename_i F I
  cases hs:jE e with
  |none=>rw[hs] at b;cases b
  |some t =>
   rw[hs] at b;simp only[sG] at b;obtain⟨b0,rfl,w⟩:=qQ hs m;obtain⟨a,z,rfl,B,pr,_⟩:=l.dB sub;rcases X9 (k:=t) pr with ⟨_,f⟩ | ⟨p,n,v,g,f,i,j⟩
   ·rw[f] at b;cases b
   ·rw[f] at b;cases b;exact .inr ⟨a,b0,z,t,p,v,rfl,rfl,B,IC.mono sub w,g,i,k _ j⟩
 ·split at b
  ·rename_i C;cases m.int;obtain⟨rfl,ok⟩:=l.str
   cases q:lC ‹fA›.cps.toList ‹Int› with
   |none=>rw[q] at b;cases b
   |some c =>
    rw[q] at b;cases b;exact .inl (.inl (.inr (.inr ⟨_,_,c,rfl,rfl,TB C (by decide),q,k _ (show nA X.K G (.str _) _ by simp only[nA];exact⟨trivial,yIa ok q⟩)⟩)))
  ·cases b
 ·cases b
def Q6{lo a:Option Int}(h:oA K G b c):oA K G (aAB b lo a) (GJ c lo a):=by
 unfold aAB GJ;rw[h.len];exact(h.drop _).take _
def jFa(K:kA):V->Option Int->Option Int->Hp->VK->Prop:=λx lo b H Q=>∃G d v,aB G H/\GB K H G d x/\aU d lo b=aA v/\∀z a,aAF K H G v z a->Q z a
def tHa(n:X.K=K):AI X (jFa K):=by
 intro cA s Y H x v o q lo j sl Q I t u w y h;obtain⟨G,d,r,sub,b,c,k⟩:=h;subst n;refine AI.or sHa vHa cA s Y H x v o q lo j sl Q I t u w y ?_;unfold aU at c;split at c
 ·cases c;obtain⟨a,f,rfl,g,e⟩:=b.l sub;exact .inl ⟨a,f,rfl,g,λp i=>k _ _ (.inr (.inl ⟨_,_,p,rfl,i,Q6 e,rfl,rfl⟩))⟩
 ·rename_i l;cases c;obtain⟨a,f,rfl,g,e⟩:=b.t sub;refine .inr ⟨a,f,rfl,g,λp i=>k _ _ (nZ ⟨_,_,p,rfl,i,Q6 e,rfl,rfl⟩),λm=>k _ _ (.inl ⟨_,rfl, ?_,rfl⟩)⟩
  have z:aAB l lo j=l:=by(unfold aAB;rw[<- e.len,m.1,m.2,e.len,Fi,Nat.sub_zero,XU])
  rw[z];rcases b with b | ⟨_,_,b⟩
  ·exact b
  ·exact b.elim
 ·cases c
def mP(K:kA)(H G:Hp):List D->List V->Prop
 |[],a=>a=[]
 |d::b,a=>∃x r,a=x::r/\GB K H G d x/\mP K H G b r
def fF(h:mP K H G [d] a):∃x,a=[x]/\GB K H G d x:=by
 obtain⟨x,r,rfl,b,c⟩:=h;cases (show r=[] from c);exact⟨x,rfl,b⟩
def Ic(h:mP K H G [d,e] a):∃x y,a=[x,y]/\GB K H G d x/\GB K H G e y:=by
 obtain⟨x,r,rfl,b,c⟩:=h;obtain⟨y,rfl,f⟩:=fF c;exact⟨x,y,rfl,b,f⟩
def qc(K:kA)(f:BI):List V->Hp->VK->Prop:=λc H Q=>∃G a v,aB G H/\mP K H G a c/\FD f a=aA v/\∀z b,aAF K H G v z b->Q z b
noncomputable def wW:BI->gA
 |.len=>.builtin "len"
 |.abs=>.builtin "abs"
 |.int=>.type "int"
 |.list=>.type "list"
 |.tuple=>.type "tuple"
 |.min=>.builtin "min"
 |.max=>.builtin "max"
 |.all=>.builtin "all"
 |.sorted=>.builtin "sorted"
theorem X5:∀{a:List D} {c:List V} {f:List gA} {bs:List Bool},oA K G a c->aAc c f->SH a=aA bs->LSm.BoolsAre f bs
 |[],_,_,_,h,r,e=>by
  simp only[oA] at h;subst h;cases r;cases e;exact .nil
 |d::a,_,_,_,h,r,e=>by
  simp only[oA] at h;obtain⟨v,m,rfl,g,i⟩:=h
  cases r with
  |cons j k =>
   cases d<;>simp only[SH,reduceCtorEq] at e;rename_i b
   cases q:SH a with
   |none=>rw[q] at e;cases e
   |some l =>
    rw[q] at e;cases e;simp only[nA] at g;subst g;cases j;exact .cons b (X5 i k q)
def En(n:X.A.handled=eA):fE X (.builtin "all") (λk H Q=>∃a d f bs G,k=[.ref a]/\zB X.K H a d/\oA X.K G f d/\SH f=aA bs/\Q (.bl (bs.all id)) H):=by
 intro cA s Y H k B Q I r h;obtain⟨a,d,f,bs,G,rfl,o,p,t,q⟩:=h;obtain⟨u,rfl,w⟩:=aAw r;cases w;obtain⟨c,x,g,z⟩:=KQ I o;have l:=X5 p x t;have j:a<s.heap.objs.size:=by obtain⟨_,e,_⟩:=g;exact OB e
 refine call_all_walk (iR g ?_)
 refine⟨s.heap.objs.size,[s.heap.objs.size,a],[s.heap.objs.size],c.toArray.size,_,_,λi=>(bs[i]?).getD bA,rfl,Walks.list (A:=X.A.in1) n _ a (XC j) c.toArray,
  ⟨⟨_,QD _ rfl,rfl,rfl⟩,g.push _⟩,λi v C F J y m=>?_,λM tk hk=>?_⟩
 ·obtain⟨b,e,rfl⟩:=l.get i v (by simpa using y);simp only[e,Option.getD_some] at m;exact nK m
 ·have e:((qC c.toArray.size).all λi=>(bs[i]?).getD bA)=bs.all id:=by
   rw[EC,l.length];exact LSm.range_all bs
  rw[e];exact⟨.bl _,H,I.kept (t':=tk) (LSm.kept_iter hk),rfl,q⟩
theorem xY:∀{a:List D} {c:List V} {f:List gA} {is:List Int},oA K G a c->aAc c f->WD a=aA is->IntsAre f is
 |[],_,_,_,h,r,e=>by
  simp only[oA] at h;subst h;cases r;cases e;exact .nil
 |d::a,_,_,_,h,r,e=>by
  simp only[oA] at h;obtain⟨v,m,rfl,g,i⟩:=h
  cases r with
  |cons j k =>
   cases d<;>simp only[WD,reduceCtorEq] at e;rename_i b
   cases q:WD a with
   |none=>rw[q] at e;cases e
   |some l =>
    rw[q] at e;cases e;simp only[nA] at g;subst g;obtain⟨t,rfl⟩:=j;exact .cons _ _ (xY i k q)
def Fy(i:Int):∀(r:List Int),(r.foldl (λm y=>if y > m then y else m) i)∈i::r/\∀a∈i::r,a<=r.foldl (λm y=>if y > m then y else m) i:=by
 intro r
 induction r generalizing i with
 |nil=>exact⟨by simp,λa b=>by simp at b;simp;lia⟩
 |cons y r e =>
  simp only[VM];obtain⟨f,c⟩:=e (if y > i then y else i);refine⟨?_,λa b=>?_⟩
  ·rcases WC.mp f with h | h
   ·rw[h];split
    ·simp
    ·simp
   ·exact tD _ (tD _ h)
  ·have d:=c (if y > i then y else i) (by simp);have g:i<=(if y > i then y else i):=by split<;>lia
   have j:y<=(if y > i then y else i):=by split<;>lia
   rcases WC.mp b with h | h
   ·rw[h];exact J4 g d
   ·rcases WC.mp h with h | h
    ·rw[h];exact J4 j d
    ·exact c a (tD _ h)
def Pn(x:X.calm=bA):fE X (.builtin "max") (λc H Q=>∃a k l i r G,c=[.ref a]/\zB X.K H a k/\oA X.K G l k/\WD l=aA (i::r)/\Q (.int (r.foldl (λm y=>if y > m then y else m) i)) H):=by
 intro cA s Y H c us Q I r h;obtain⟨a,k,l,i,f,G,rfl,A,B,g,q⟩:=h;obtain⟨u,rfl,C⟩:=aAw r;cases C;obtain⟨F,J,o,z⟩:=KQ I A;have p:=xY B J g;obtain⟨c,e⟩:=p.allInts.items
 have d:i::f=c.toList.map (·.1):=by(rw[<- p.numsOf,<- nums_intItems,<- e])
 have n:0<c.size:=by
  have g:0<(i::f).length:=by simp
  rw[d,vA,uD] at g;exact g
 rw[e] at o;refine max_intList (I.ok.hd x) o n λv h' tk M hk=>?_
 obtain⟨t,rfl⟩:=intItems_at M;obtain⟨k1,N⟩:=argBest_gt (numAt c) (c.size-1)
 have O:numAt c (argBest (λi j=>decide (numAt c i > numAt c j)) (c.size-1))∈i::f:=by(rw[d,numAt_eq];exact getD_mem (by rw[vA,uD];omega))
 have P:∀b∈i::f,b<=numAt c (argBest (λi j=>decide (numAt c i > numAt c j)) (c.size-1)):=λb w=>by(rw[d] at w;obtain⟨j,R,rfl⟩:=mem_getD w;rw[vA,uD] at R;rw[<- numAt_eq];exact N j (by omega))
 obtain⟨U,Z⟩:=Fy i f;have e2:numAt c (argBest (λi j=>decide (numAt c i > numAt c j)) (c.size-1))=f.foldl (λm y=>if y > m then y else m) i:=Int.le_antisymm (Z _ O) (P _ U);refine⟨.int _,H,I.kept hk,⟨t,rfl⟩, ?_⟩;rw[e2];exact q
def Qo(d:jA)(hd:(d==sysModules)=dA):MeetsIn P w (GH.«dict.__len__» ⟨[.ref d],[]⟩) (λ_ R s=>∃b c,zC d b c s.heap/\R (.ok (.ret (.int b.length s.toks))) { s with toks:=s.toks+1 }):=by
 refine .of_wp λA R s ⟨b,c,⟨o,f,g,i,a,hk⟩,h⟩=>?_
 have e:f.size=b.length:=by rw[<- uD,hk,vA]
 show tA _ _ ((dictEntries d>>=_)>>=_) _ _ s;refine pA (pA (N3 g a ?_));refine WA (pA (wpAny_pendingCount_other hd (wpAny_ret_mkInt ?_)));rw[qV,e];exact h
def wGa(I:iA X cA Y H s)(d:DS X.K H a b)(h:∀t f,iA X cA Y H f->Q (.int b.length t) f):tA (model X.prog X.w) X.A (call (.builtin "len") [.ref a]) Q X.xe s:=by
 have g:=DS.typeIs I d;have z:=d.len;rw[KL] at z;obtain⟨c,e⟩:=d.at_;have i:zC a b c s.heap:=(show lD X.prog X.w H s.heap a (.ext (zC a b c)) from I.SA a _ e).1;refine Calls.call_function_entry kind_len plain_len entry_len (args_len1 _) ?_;unfold GH.«len»
 refine pA (m:=oneArg "len" _) (WA (pA (m:=callSpecial? (.ref a) (xA "__len__")) (xO (name:=xA "__len__") g jh
  (call_meetsIn jh g PySem.F.entry_dict_len (PySem.F.args_dict_len_1 _) (Qo a d.sm) ⟨b,c,i, ?_⟩))))
 refine pA (DH (WA (pA (wpAny_letGo ?_))));have j:¬((b.length:Nat):Int)<0:=by lia
 have k:¬((b.length:Nat):Int) >= 2 ^ 63:=by lia
 show tA _ _ (if((b.length:Nat):Int)<0 then _ else _) _ _ _;rw[JA j];show tA _ _ (if((b.length:Nat):Int) >= 2 ^ 63 then _ else _) _ _ _;rw[JA k];exact pA (N4 (WA ⟨_,rfl,h _ _ ((I.tok _).tok _)⟩))
def cLa:∀{b:KH} {a:List gA},a.length=b.length->(∀(j:Nat) v,a[j]?=aA v->∃x,b[j]?=aA x/\v=.ref x.2.1)->aAc (b.map λx=>V.ref x.2.1) a:=by
 intro b
 induction b with
 |nil =>
  intro a h k
  induction a using LB with
  |nil=>exact .nil
  |cons _ _=>cases h
 |cons x b c =>
  intro a h k
  induction a using LB with
  |nil=>cases h
  |cons u a =>
   obtain⟨_,e,q⟩:=k 0 u rfl;cases e;exact .cons q (c (Qi h) λj v e=>k (j+1) v e)
def vGa(hh:X.A.handled=eA)(I:iA X cA Y H s)(d:DS X.K H a f)(h:∀p g,H p=eA->iA X cA Y (EA H p (.l (f.map λx=>V.ref x.2.1))) g->Q (.ref p) g):tA (model X.prog X.w) X.A (call (.type "list") [.ref a]) Q X.xe s:=by
 obtain⟨i,e⟩:=d.at_;refine PySem.W.kdl_call (Q9 d.sm) hh (show lD X.prog X.w H s.heap a (.ext (zC a f i)) from I.SA a _ e).1 d.len λl tk c k hk hS b=>?_
 refine h _ _ (I.SA.fresh (kB _)) (I.laid (o:=.l (f.map λx=>V.ref x.2.1)) (t':=tk) hk (kB _) ⟨?_,c.toList,k,cLa (by rw[uD];exact b.1) λj v e=>b.2 j v (by rw[<- LG];exact e), ?_⟩)
 ·rw[vA];exact d.len
 ·rw[hS]
theorem r0:∀{us:List gA} {ks:List XA},us.length=ks.length->(∀(i:Nat) v,us[i]?=aA v->∃k,ks[i]?=aA k/\∃b,v=.ref b/\aG K G k b)->∃a,aAc a us/\oA K G (ks.map uA) a
 |[],[],_,_=>⟨[],.nil,oA.nil⟩
 |u::us,k::ks,c,h=>by
  obtain⟨_,e,b,rfl,d⟩:=h 0 u rfl;cases e;obtain⟨a,f,g⟩:=r0 (Qi c) λi v j=>h (i+1) v j
  exact⟨.ref b::a,.cons rfl f,oA.cons (Hc d) g⟩
def zGa{a:jA}{b:KH}(rm:eC 2 X.A)(hh:X.A.handled=eA)(I:iA X cA Y H s)(d:DS X.K H a b)(y:∀x∈b,IC X.K G x.1 x.2.1){Q:gA->zA->Prop}
  (h:∀p c q,H p=eA->oA X.K G ((CS.qD (b.map λx=>gk x.1)).map uA) c->iA X cA Y (EA H p (.l c)) q->Q (.ref p) q):tA (model X.prog X.w) X.A (call (.builtin "sorted") [.ref a]) Q X.xe s:=by
 obtain⟨z,e⟩:=d.at_;have n:(b.map λx=>gk x.1).length=b.length:=vA _;refine CS.fIa (ks:=b.map λx=>gk x.1) (n ▸ Q9 d.sm) hh (show lD X.prog X.w H s.heap a (.ext (zC a b z)) from I.SA a _ e).1 (n ▸ d.len) (λi v ⟨x,f,m⟩=>⟨gk x.1,by rw[jD,f];rfl,_,m,aG.is I (d.keys x (pF f))⟩) (by have:=rm.un;lia) λl p J tk B C r t g kp=>?_
 obtain⟨c,u,F⟩:=r0 (K:=X.K) (G:=G) (us:=l.toList) (ks:=CS.qD (b.map λx=>gk x.1)) (by rw[uD,r,CS.cU]) λi v m=>by(rw[LG] at m;obtain⟨k,j,e1,e2,x,f,rfl⟩:=C i v m;rw[jD,f] at e2;cases e2;exact⟨_,e1,_,rfl,y x (pF f)⟩)
 exact h p c _ (I.SA.fresh t) F (I.laid (o:=.l c) (t':=tk) kp t ⟨by rw[u.length,uD,r,n];exact d.len,l.toList,B,u,by rw[qh];exact g⟩)
theorem P9:∀{a:List D} {b:List XA},QN a=aA b->a=b.map uA
 |[],_,h=>by cases h;rfl
 |d::a,_,h=>by(obtain⟨k,c,e⟩:=nF.mp h;obtain⟨b,f,rfl⟩:=RF.mp e;rw[Tc c,P9 f];rfl)
def aHa{a:jA}{q:List V}{ks:List XA}(rm:eC 2 X.A)(I:iA X cA Y H s)(sub:aB G H)(O:zB X.K H a q)(x:oA X.K G (ks.map uA) q){Q:gA->zA->Prop}
  (h:∀p f B,H p=eA->oA X.K G ((CS.qD ks).map uA) f->iA X cA Y (EA H p (.l f)) B->Q (.ref p) B):tA (model X.prog X.w) X.A (call (.builtin "sorted") [.ref a]) Q X.xe s:=by
 obtain⟨l,n,P,z⟩:=I.list O;have R:q.length=ks.length:=x.len.trans (vA _);have c:l.length=ks.length:=n.length.symm.trans R
 have get:∀(i:Nat) v,l[i]?=aA v->∃k,ks[i]?=aA k/\∃b,v=.ref b/\aG X.K G k b:=λi v e=>by(have C:i<ks.length:=c ▸ (BD.mp e).1;obtain⟨y,U,Z⟩:=x.get (i:=i) (d:=uA ks[i]) (by rw[jD,pC C];rfl);obtain⟨u,hu,r⟩:=n.get U;cases e.symm.trans hu;obtain⟨b,rfl,h2⟩:=Vc Z;cases r;exact⟨_,pC C,b,rfl,h2⟩)
 refine CS.gIa (ks:=ks) P.isList (n.length ▸ z) ⟨c,λi v e=>let ⟨k,e1,b,e2,t⟩:=get i v e;⟨k,e1,b,e2,aG.is I (aG.mono (Sm.of sub) t)⟩⟩ (by have:=rm.un;lia) λm p h' n' ho F J g kp=>?_
 obtain⟨f,M,i2⟩:=r0 (K:=X.K) (G:=G) (us:=m.toList) (ks:=CS.qD ks) (by rw[uD,F,CS.cU]) λi v N=>by(rw[LG] at N;obtain⟨k,j,e1,e2,t⟩:=ho i v N;obtain⟨k2,e4,b,e5,e6⟩:=get j v t;cases e2.symm.trans e4;exact⟨_,e1,b,e5,e6⟩)
 exact h p f _ (I.SA.fresh J) i2 (I.laid (o:=.l f) (t':=s.toks) kp J ⟨by rw[M.length,uD,F,<- c,<- n.length];exact z,m.toList,n',M,by rw[qh];exact g⟩)
def Ba{f:Int->Int->Int}{d e:D}{v:RV}(h:mm f d e=aA v):∃i j,d=.int i/\e=.int j/\v=.sh (.int (f i j)):=by
 induction d using D.casesOn with
 |int i =>
  induction e using D.casesOn with
  |int j=>exact⟨i,j,rfl,rfl,(kD h).symm⟩
  |_=>exact(oB h).elim
 |_=>exact(oB h).elim
def R5(R:X.K=K)(M:X.calm=bA)(hh:X.A.handled=eA)(rm:eC 2 X.A)(f:BI):fE X (wW f) (qc K f):=by
 intro cA s Y H xs w Q I r h;obtain⟨G,l,v,sub,n,e,k⟩:=h;subst R
 induction f using BI.casesOn with
 |len =>
  obtain _ | ⟨d,_ | ⟨_,_⟩⟩:=l
  ·exact(oB e).elim
  ·induction d using D.casesOn with
   |l =>
    change aA _=_ at e;cases e;obtain⟨x,rfl,b⟩:=fF n;obtain⟨a,o,rfl,c,g⟩:=b.l sub;exact w6 cA s Y H _ w Q I r ⟨a,o,rfl,.inl c,by rw[g.len];exact k _ _ aAn⟩
   |t =>
    change aA _=_ at e;cases e;obtain⟨x,rfl,b⟩:=fF n;obtain⟨a,o,rfl,c,g⟩:=b.t sub;exact w6 cA s Y H _ w Q I r ⟨a,o,rfl,.inr c,by rw[g.len];exact k _ _ aAn⟩
   |dB =>
    change aA _=_ at e;cases e;obtain⟨x,rfl,b⟩:=fF n;obtain⟨a,J,rfl,c,⟨g,_⟩,_⟩:=b.dB sub;obtain⟨u,rfl,C⟩:=aAw r;cases C;refine wGa I c λt N F=>⟨.int (J.length:Int),H,F,⟨t,rfl⟩, ?_⟩
    rw[show J.length=_ from(vA _).symm.trans (congrArg EH g)];exact k _ _ aAn
   |str x =>
    change @ite _ (x.length<=1000000) (cl _) _ eA=_ at e;split at e
    ·rename_i U;cases e;obtain⟨x,rfl,b⟩:=fF n;obtain⟨rfl,_⟩:=b.str;exact Ln cA s Y H _ w Q I r ⟨_,rfl,TB U (by decide),k _ _ aAn⟩
    ·cases e
   |_=>exact(oB e).elim
  ·exact(oB e).elim
 |abs =>
  obtain _ | ⟨d,_ | ⟨_,_⟩⟩:=l
  ·exact(oB e).elim
  ·cases d with
   |int =>
    change aA _=_ at e;cases e;obtain⟨x,rfl,b⟩:=fF n;cases b.int;exact Cn cA s Y H _ w Q I r ⟨_,rfl,k _ _ aAn⟩
   |_=>exact(oB e).elim
  ·exact(oB e).elim
 |int =>
  obtain _ | ⟨d,_ | ⟨_,_⟩⟩:=l
  ·exact(oB e).elim
  ·induction d using D.casesOn with
   |int =>
    change aA _=_ at e;cases e;obtain⟨x,rfl,b⟩:=fF n;cases b.int;exact t6 cA s Y H _ w Q I r (.inl ⟨_,rfl,k _ _ aAn⟩)
   |bl =>
    change aA _=_ at e;cases e;obtain⟨x,rfl,b⟩:=fF n;cases b.bl;exact t6 cA s Y H _ w Q I r (.inr ⟨_,rfl,k _ _ aAn⟩)
   |_=>exact(oB e).elim
  ·exact(oB e).elim
 |list =>
  obtain _ | ⟨d,_ | ⟨_,_⟩⟩:=l
  ·exact(oB e).elim
  ·induction d using D.casesOn with
   |l =>
    change aA _=_ at e;cases e;obtain⟨x,rfl,b⟩:=fF n;obtain⟨a,o,rfl,c,g⟩:=b.l sub;exact x6 cA s Y H _ w Q I r ⟨a,o,rfl,.inl c,λp z=>k _ _ (.inr (.inl ⟨_,_,p,rfl,z,g,rfl,rfl⟩))⟩
   |t =>
    change aA _=_ at e;cases e;obtain⟨x,rfl,b⟩:=fF n;obtain⟨a,o,rfl,c,g⟩:=b.t sub;exact x6 cA s Y H _ w Q I r ⟨a,o,rfl,.inr c,λp z=>k _ _ (.inr (.inl ⟨_,_,p,rfl,z,g,rfl,rfl⟩))⟩
   |dB =>
    change aA _=_ at e;cases e;obtain⟨x,rfl,b⟩:=fF n;obtain⟨a,J,rfl,c,⟨g,_⟩,O⟩:=b.dB sub;obtain⟨u,rfl,C⟩:=aAw r;cases C;exact vGa hh I c λp N z F=>⟨.ref p,_,F,rfl,k _ _ (.inr (.inl ⟨_,_,p,rfl,z,g ▸ Jc O,rfl,rfl⟩))⟩
   |_=>exact(oB e).elim
  ·exact(oB e).elim
 |tuple =>
  obtain _ | ⟨d,_ | ⟨_,_⟩⟩:=l
  ·exact(oB e).elim
  ·induction d using D.casesOn with
   |l =>
    change aA _=_ at e;cases e;obtain⟨x,rfl,b⟩:=fF n;obtain⟨a,o,rfl,c,g⟩:=b.l sub;exact y6 cA s Y H _ w Q I r ⟨a,o,rfl,.inl ⟨c,λp z=>k _ _ (nZ ⟨_,_,p,rfl,z,g,rfl,rfl⟩)⟩⟩
   |t =>
    change aA _=_ at e;cases e;obtain⟨x,rfl,b⟩:=fF n;have B:=b;obtain⟨a,o,rfl,c,g⟩:=b.t sub;refine y6 cA s Y H _ w Q I r ⟨a,o,rfl,.inr ⟨c, ?_⟩⟩;rcases B with B | ⟨_,_,B⟩
    ·exact k _ _ (.inl ⟨_,rfl,B,rfl⟩)
    ·exact B.elim
   |_=>exact(oB e).elim
  ·exact(oB e).elim
 |min =>
  obtain _ | ⟨d,_ | ⟨Z,_ | ⟨_,_⟩⟩⟩:=l
  ·exact(oB e).elim
  ·exact(oB e).elim
  ·obtain⟨i,j,rfl,rfl,rfl⟩:=Ba e;obtain⟨x,y,rfl,b,c⟩:=Ic n;cases b.int;cases c.int;exact Qn M cA s Y H _ w Q I r ⟨_,_,rfl,k _ _ aAn⟩
  ·exact(oB e).elim
 |max =>
  obtain _ | ⟨d,_ | ⟨Z,_ | ⟨_,_⟩⟩⟩:=l
  ·exact(oB e).elim
  ·induction d using D.casesOn with
   |l l =>
    change (match WD l with | some (i::r)=>aA (RV.sh (.int (r.foldl (λm y=>if y > m then y else m) i))) | _=>eA)=_ at e;split at e
    ·rename_i i r' q;cases e;obtain⟨x,rfl,b⟩:=fF n;obtain⟨a,o,rfl,c,g⟩:=b.l sub;exact Pn M cA s Y H _ w Q I r ⟨a,o,l,i,r',G,rfl,c,g,q,k _ _ aAn⟩
    ·cases e
   |_=>exact(oB e).elim
  ·obtain⟨i,j,rfl,rfl,rfl⟩:=Ba e;obtain⟨x,y,rfl,b,c⟩:=Ic n;cases b.int;cases c.int;exact Nn M cA s Y H _ w Q I r ⟨_,_,rfl,k _ _ aAn⟩
  ·exact(oB e).elim
 |all =>
  obtain _ | ⟨d,_ | ⟨_,_⟩⟩:=l
  ·exact(oB e).elim
  ·induction d using D.casesOn with
   |l l =>
    change (SH l).map _=_ at e
    cases q:SH l with
    |none=>rw[q] at e;cases e
    |some bs =>
     rw[q] at e;cases e;obtain⟨x,rfl,b⟩:=fF n;obtain⟨a,o,rfl,c,g⟩:=b.l sub;exact En hh cA s Y H _ w Q I r ⟨a,o,l,bs,G,rfl,c,g,q,k _ _ yy⟩
   |_=>exact(oB e).elim
  ·exact(oB e).elim
 |sorted =>
  obtain _ | ⟨d,_ | ⟨_,_⟩⟩:=l
  ·exact(oB e).elim
  ·induction d using D.casesOn with
   |dB ks J =>
    change aA _=_ at e;cases e;obtain⟨x,rfl,b⟩:=fF n;obtain⟨a,J,rfl,c,⟨g,_⟩,O⟩:=b.dB sub;obtain⟨u,rfl,C⟩:=aAw r;cases C;subst g;exact zGa rm hh I c O λp ws N z P F=>⟨.ref p,_,F,rfl,k _ _ (.inr (.inl ⟨_,_,p,rfl,z,by rw[wK];exact P,rfl,rfl⟩))⟩
   |l l =>
    change (QN l).map _=_ at e;obtain⟨ks,q,e⟩:=RF.mp e;cases e;obtain⟨x,rfl,b⟩:=fF n;obtain⟨a,o,rfl,c,g⟩:=b.l sub;obtain⟨u,rfl,C⟩:=aAw r;cases C;exact aHa rm I sub c (P9 q ▸ g) λp ws N z P F=>⟨.ref p,_,F,rfl,k _ _ (.inr (.inl ⟨_,_,p,rfl,z,P,rfl,rfl⟩))⟩
   |_=>exact(oB e).elim
  ·exact(oB e).elim
def Rn(l:X.calm=bA):fE X (.type "set") (λj H Q=>∃a d f is G,j=[.ref a]/\zB X.K H a d/\oA X.K G f d/\WD f=aA is/\is.length<=1000/\∀p S,H p=eA->Q (.ref p) (EA H p (.set S (firstMet (λi=>is.getD i 0) is.length).length))):=by
 intro cA s Y H j B Q I r h;obtain⟨a,d,f,is,G,rfl,m,n,t,v,q⟩:=h;obtain⟨u,rfl,w⟩:=aAw r;cases w;obtain⟨g,x,y,z⟩:=KQ I m;have k:=xY n x t;have c:g.toArray.size=is.length:=by rw[EC];exact k.length
 refine call_set_list (I.ok.hd l) y k (by rw[c];exact TF (YQ v 1) (by decide)) λC tk hS hk=>?_
 rw[c] at hS;exact⟨.ref s.heap.objs.size,_,I.laid (o:=.set (λA=>(firstMet (λi=>is.getD i 0) is.length).any (· == A)) (firstMet (λi=>is.getD i 0) is.length).length) (t':=tk) (λb o e=>hk b o (OB e) e) (kB _) hS,rfl,q _ _ (I.SA.fresh (kB _))⟩
def Kn:fE X (.builtin "len") (λa H Q=>∃p S n,a=[.ref p]/\H p=aA (.set S n)/\Q (.int n) H):=by
 intro cA s Y H a i Q I r h;obtain⟨p,S,n,rfl,c,q⟩:=h;obtain⟨u,rfl,d⟩:=aAw r;cases d;obtain⟨o,b,j,t,e,hex,hd,_,_,f,g,rfl⟩:=I.SA p _ c;refine call_len_set e hex hd g (by have:b.size<4096:=f;lia) ⟨.int b.size,H,I.tok _,⟨_,rfl⟩,q⟩
noncomputable def tU:Ty->V
 |.int=>.ty "int"
 |.bool=>.ty "bool"
 |.str=>.ty "str"
 |.list=>.ty "list"
 |.tuple=>.ty "tuple"
 |.dict=>.ty "dict"
 |.cls _=>.ty "dict"
 |.TQ=>.ty "ValueError"
theorem GB.FE(sub:aB G H)(h:GB K H G (.FE c n) x):∃a C p,x=.ref a/\yB K eB c=aA (aA (.ref C))/\zE K C/\H a=aA (.ext (QG a C p))/\LK K H C p n:=by
 rcases h with h | ⟨a,rfl,h⟩
 ·simp only[nA] at h;obtain⟨a,C,p,e,h1,h2,h3,j⟩:=h;exact⟨a,C,p,e,h1,h2,sub _ _ h3,j.mono sub⟩
 ·exact h.elim
def tyW(t:Ty):gA:=match tU t with
 |.ty x=>.type x
 |_=>.none
def fv(A:X.K=K)(t:Ty):fE X (.builtin "isinstance") (λy H Q=>∃G d x b,aB G H/\y=[x,tU t]/\GB K H G d x/\HY t d=aA b/\Q (.bl b) H):=by
 intro cA s Y H y F Q I r h;obtain⟨G,d,x,b,sub,rfl,c,e,q⟩:=h;subst A;obtain⟨u,w,rfl,f,k⟩:=aAG r;have fin:∀tk,EP X cA Y Q (.bool b) { s with toks:=tk }:=λtk=>⟨.bl b,H,I.tok tk,rfl,q⟩
 obtain rfl:w=tyW t:=by cases t<;>exact k
 cases d<;>first
   | (cases c.lA;cases (show u=Value.none from f);refine EL PySem.W.kitx_none I.fD True.intro ?_ (λz=>nomatch z) fin)
   | (cases c.bl;cases (show u=Value.bool _ from f);refine EL PySem.W.kitx_bool I.fD True.intro ?_ (λz=>nomatch z) fin)
   | (cases c.int;obtain⟨_,l⟩:=(show ∃t,u=Value.int _ t from f);cases l;refine EL PySem.W.kitx_int I.fD True.intro ?_ (λz=>nomatch z) fin)
   | (obtain⟨rfl,_⟩:=c.str;obtain⟨_,l⟩:=(show ∃t,u=Value.str _ t from f);cases l;refine EL PySem.W.kitx_str I.fD True.intro ?_ (λz=>nomatch z) fin)
   | (obtain⟨a,B,rfl,i,j⟩:=c.l sub;cases (show u=Value.ref a from f);obtain⟨m,_,⟨o,n,g,v,_⟩,_⟩:=I.list i;refine EL PySem.W.kitx_list I.fD ⟨o,g,v⟩ ?_ (λz=>nomatch z) fin)
   | (obtain⟨a,B,rfl,i,j⟩:=c.t sub;cases (show u=Value.ref a from f);obtain⟨m,_,⟨o,g,v,_⟩,_⟩:=I.tuple i;refine EL PySem.W.kitx_tuple I.fD ⟨o,g,v⟩ ?_ (λz=>nomatch z) fin)
   | (obtain⟨a,C,p,rfl,i,j,g,_⟩:=c.FE sub;cases (show u=Value.ref a from f);cases t<;>cases e;exact EL (gZ j) I.fD (I.SA a _ g).1 (Fx j) (λz=>nomatch z) fin)
   |skip
 all_goals (cases t<;>first | exact e | cases e)
end
end CI
namespace CI
set_option tactic.hygienic true
open PySem PySem.Spec PyProof.Rows L2
section
variable{X:Cx}{cA:List (jA×qB)}{Y:L2.St}{H:Hp}{s:zA}{h':nB}
def Hu(I:iA X cA Y H s)(k:∀b u,b≠e->b≠it->s.heap.get? b=aA u->h'.get? b=aA u)(d:TC X cA H e)(f:TC X cA H it)(l:s.heap.objs.size<=p)
  (new:lD X.prog X.w (EA H p o) h' p o):iA X cA Y (EA H p o) { s with heap:=h',toks:=t' }:=by
 have i:H p=eA:=I.SA.fresh l;have ne:∀{b:jA} {u:HO},H b=aA u->b≠e/\b≠it:=λq=>⟨vE q d.1,vE q f.1⟩
 have g:∀{b:jA},b ∉ [e,it]->b≠e/\b≠it:=λa=>⟨λz=>a (by simp[z]),λz=>a (by simp[z])⟩
 refine I.step (g':=s.gens) (d':=s.drawn) (ch:=[e,it]) (λb h=>?_) (λb o _ _ a q _=>k b o (g a).1 (g a).2 q) (λb o _ _ a q _=>⟨o.slots,k b o (g a).1 (g a).2 q⟩)
  (λb o _ q n=>by rw[pB (XC (MC (OB q) l))];exact n)
  (λb o a q=>⟨o,k b o (g a).1 (g a).2 q⟩) (λb t q=>by rw[pB (vE q i)];exact q) (λb o u q=>by rw[pB (vE q i)];exact q) (λb C q=>⟨#[],by rw[pB (vE q i),q];simp⟩) (λm x=>?_) (λb u q=>?_) I.bare
 ·have h:b=e\/b=it:=by simpa using h
  rcases h with rfl | rfl
  ·exact⟨d.2.2.2.1,d.2.1,d.2.2.2.2.1,d.2.2.2.2.2⟩
  ·exact⟨f.2.2.2.1,f.2.1,f.2.2.2.2.1,f.2.2.2.2.2⟩
 ·obtain⟨o,y,A,B,r⟩:=x;exact⟨o,y,A,k _ o (sD d.2.1) (sD f.2.1) B,r⟩
 ·by_cases h:b=p
  ·subst h;rw[oC] at q;cases q;exact new
  ·rw[pB h] at q;refine(I.SA b u q).iF (λc v a z=>?_) (λc q=>by rw[pB (vE q i)];exact q) λc t q=>by rw[pB (vE q i)];exact q
   have j:c≠e/\c≠it:=by
    rcases a with w | w
    ·rw[w];exact ne q
    ·exact ne w
   exact k c v j.1 j.2 z
def Ku(I:iA X cA Y H s)(k:∀b u,b≠e->b≠it->s.heap.get? b=aA u->h'.get? b=aA u)(d:TC X cA H e)(f:TC X cA H it):iA X cA Y H { s with heap:=h',toks:=t' }:=by
 have ne:∀{b:jA} {u:HO},H b=aA u->b≠e/\b≠it:=λq=>⟨vE q d.1,vE q f.1⟩
 have g:∀{b:jA},b ∉ [e,it]->b≠e/\b≠it:=λa=>⟨λz=>a (by simp[z]),λz=>a (by simp[z])⟩
 refine I.step (g':=s.gens) (d':=s.drawn) (ch:=[e,it]) (λb i=>?_) (λb o _ _ a q _=>k b o (g a).1 (g a).2 q) (λb o _ _ a q _=>⟨o.slots,k b o (g a).1 (g a).2 q⟩)
  (λ_ _ _ _ n=>n) (λb o a q=>⟨o,k b o (g a).1 (g a).2 q⟩) (λ_ _ q=>q) (λ_ _ _ q=>q) (λb x q=>⟨#[],by rw[q];simp⟩) (λm j=>?_) (λb u q=>?_) I.bare
 ·have i:b=e\/b=it:=by simpa using i
  rcases i with rfl | rfl
  ·exact⟨d.2.2.2.1,d.2.1,d.2.2.2.2.1,d.2.2.2.2.2⟩
  ·exact⟨f.2.2.2.1,f.2.1,f.2.2.2.2.1,f.2.2.2.2.2⟩
 ·obtain⟨o,l,p,t,r⟩:=j;exact⟨o,l,p,k _ o (sD d.2.1) (sD f.2.1) t,r⟩
 ·refine(I.SA b u q).iF (λc v a z=>?_) (λ_ q=>q) λ_ _ q=>q
  have h:c≠e/\c≠it:=by
   rcases a with w | w
   ·rw[w];exact ne q
   ·exact ne w
  exact k c v h.1 h.2 z
end
section
variable{prog:GC}{w:PB}{A:AD}{E:gA->zA->Prop}{s:zA}
def gp{Q:gA->zA->Prop}(C:qI s.heap e it c old)(U:s.heap.IsListIter it l i)(X:s.heap.IsList l Y)(Z:Y[i]?=aA u)(ne:e≠it)
  (k:∀g,IsEnumOut g e it (c+1) u s.heap.objs.size->g.IsListIter it l (i+1)->g.get? s.heap.objs.size=aA { cls:=.type "tuple",data:=.seq #[.int c s.toks,u] }->(∀b o,b≠e->b≠it->s.heap.get? b=aA o->g.get? b=aA o)->Q (.ref s.heap.objs.size) { s with heap:=g,toks:=s.toks+1 }) :
  tA (model prog w) A (GH.«enumerate.__next__» ⟨[.ref e],[]⟩) (λfin s'=>∃v,fin=.done (.ret v)/\Q v s') E s:=by
 obtain⟨d,ge,dr,tk,os⟩:=s;refine pA (m:=field (.ref e) 2) (lH C rfl (x:=.ref it) rfl (pA (wpAny_nextOf_list_item U X Z λF t1 f=>?_)));have f:jH it d F:=f;have e1:qI F e it c old:=(f.2 e ne).trans C;refine pA (m:=field (.ref e) 3) (lH e1 rfl (x:=rawInt c) rfl (pA (m:=field (.ref e) 4) (lH e1 rfl (x:=.none) rfl (pA (m:=mkInt c) (N4 ?_)))));refine pA (m:=setField (.ref e) 3 (rawInt (c+1))) (gR e1 (by simp) λH e2 h=>?_);have h:jH e F H:=h;have e2:qI H e it (c+1) old:=e2;refine pA (m:=setField (.ref e) 4 .none) (gR e2 (by simp) λp I j=>?_);have j:jH e H p:=j;have I:qI p e it (c+1) old:=I;refine pA (m:=newTuple [.int c tk,u]) (wpAny_newTuple ?_);have R:p.objs.size=d.objs.size:=by rw[j.1,h.1,f.1]
 have lt:e<d.objs.size:=OB C;obtain⟨a,n⟩:∃a,p.push { cls:=.type "tuple",data:=.seq #[.int c tk,u] }=a:=⟨_,rfl⟩
 have J:qI a e it (c+1) old:=n ▸ jC _ I;have p4:a.get? d.objs.size=aA { cls:=.type "tuple",data:=.seq #[.int c tk,u] }:=n ▸ R ▸ QD _ rfl;have k4:∀b o,b≠e->b≠it->d.get? b=aA o->a.get? b=aA o:=λb o x y q=>n ▸ jC _ (j.extBut b o x (h.extBut b o x (f.extBut b o y q)))
 have t4:a.IsListIter it l (i+1):=by(obtain⟨o,ho,r⟩:=(t1.extBut h.extBut ne.symm).extBut j.extBut ne.symm;exact⟨o,n ▸ jC _ ho,r⟩)
 rw[R,n];refine pA (m:=yg (.ref e)) ?_;unfold yg;refine pA (lH J rfl (x:=.none) rfl (WA ?_));simp only[if_true];refine pA (xV (pA (lH J rfl (x:=old) rfl (pA (gR J (by simp) λK M t=>?_)))));have t:jH e a K:=t;have M:qI K e it (c+1) u:=M;refine pA (m:=xg (.ref e) (.ref d.objs.size)) ?_;unfold xg;refine pA (gR M (by simp) λN O z=>?_);have z:jH e K N:=z;have O:IsEnumOut N e it (c+1) u d.objs.size:=O;refine gR O (by simp) λP e7 B=>?_
 have B:jH e N P:=B;have st:∀b o,b≠e->a.get? b=aA o->P.get? b=aA o:=λb o x q=>B.extBut b o x (z.extBut b o x (t.extBut b o x q))
 refine pA (wpAny_letGo (WA ⟨_,rfl,k P e7 ?_ (st _ _ (kH lt) p4) λb o x y q=>st b o x (k4 b o x y q)⟩));exact((t4.extBut t.extBut ne.symm).extBut z.extBut ne.symm).extBut B.extBut ne.symm
def ip(f:qI s.heap e it c old)(h:s.heap.IsListIter it l i)(j:s.heap.IsList l m)(n:m[i]?=aA u)(ne:e≠it)
  (k:∀g,IsEnumOut g e it (c+1) u s.heap.objs.size->g.IsListIter it l (i+1)->g.get? s.heap.objs.size=aA { cls:=.type "tuple",data:=.seq #[.int c s.toks,u] }->(∀b o,b≠e->b≠it->s.heap.get? b=aA o->g.get? b=aA o)->Q (aA (.ref s.heap.objs.size)) { s with heap:=g,toks:=s.toks+1 }) :
  tA (model prog w) A (pyNext (.ref e)) Q E s :=
 have ty:s.TypeIs (.ref e) "enumerate":=⟨_,f,rfl⟩
 pA (zR (xO (name:=xA "__next__") ty JU (BL JU ty Vg (gp f h j n ne λg a b c d=>WA (k g a b c d)) (Pg _))))
def lp(hh:A.handled=eA)(a:qI s.heap e it c old)(d:s.heap.IsListIter it l i)(f:s.heap.IsList l h)(j:h[i]?=eA)
  (k:∀g,Heap.ExtBut it s.heap g->Q eA { s with heap:=g }):tA (model prog w) A (pyNext (.ref e)) Q E s:=by
 have ty:s.TypeIs (.ref e) "enumerate":=⟨_,a,rfl⟩
 refine pA (zR (xO (name:=xA "__next__") ty JU (BL JU ty Vg ?_ (Pg _))));refine pA (m:=field (.ref e) 2) (lH a rfl (x:=.ref it) rfl (pA (wpAny_nextOf_list_end hh d f j λg x ex n=>?_)));obtain⟨o,p,q⟩:=n;exact pA (T3 (T:="StopIteration") (b:=bA) ⟨o,p,q⟩ isSubtype_stop (WA (k _ ex)))
end
def bp(l:jA)(f:Array gA)(n:Nat)(e:Option jA)(sl:Array (Option gA))(c:Int)(t:Tok)(j:Bg c=bA) :
  Meets (GH.«enumerate.__new__» ⟨[.type "enumerate",.ref l],[("start",.int c t)]⟩) (λ_ R s=>s.heap.get? l=aA { cls:=.type "list",dict:=e,data:=.seq f n,slots:=sl } /\
   R (.ok (.ret (.ref (s.heap.push { cls:=.type "list_iterator",data:=.fields #[.ref l,.int 0 0] }).objs.size)))
    { s with heap:=(s.heap.push { cls:=.type "list_iterator",data:=.fields #[.ref l,.int 0 0] }).push { cls:=.type "enumerate",data:=.fields #[.none,.bool dA,.ref s.heap.objs.size,rawInt c,.none,.none] } }) :=
 .of_wp λprog w A R s h=>by
  obtain⟨i,g,d,tk,os⟩:=s;obtain⟨b,h⟩:=h;have k:=sub_enumerate;have a:Heap.IsList (Shared.heap ⟨i,g,d,tk,os⟩) l f:=⟨_,b,rfl,n,rfl⟩
  wp_walk using EU b
  refine wpAny_stack_any λst=>WA ?_
  split
  ·rename_i v _ _ _ _ _;cases (v==Value.type "enumerate")
   ·wp_walk using EU b,iR a
    exact⟨_,rfl,h⟩
   ·wp_walk using EU b,iR a
    exact⟨_,rfl,h⟩
  ·wp_walk using EU b,iR a
   exact⟨_,rfl,h⟩
def Xo(a:gA)(c:Int)(t:Tok):checkTypeCall "enumerate" ⟨[a],[("start",.int c t)]⟩=pure ():=by kernel_rfl
def Yo(a:gA)(c:Int)(t:Tok):checkBuiltinCall "enumerate.__new__" ⟨[.type "enumerate",a],[("start",.int c t)]⟩=pure ():=by kernel_rfl
def Zo:Meets (GH.«object.__init__» ⟨[a,b],f⟩) (λ_ R s=>s.TypeIs a "enumerate"/\R (.ok (.ret .none)) s):=by
 refine Meets.of_wp λprog w A R s c=>?_
 obtain⟨ty,d⟩:=c;have g:typeLookup (.type "enumerate") "__init__"=pure (aA (.builtin "object.__init__")):=D3.init.lookup;have h:=D3.made;have e:(aA "enumerate.__new__" != aA "object.__new__")=bA:=by decide
 repeat (any_goals (first | assumption | wp_step))
 exact⟨_,rfl,d⟩
def Wo(a b:gA)(c:Int)(t:Tok):argsOk "object.__init__" ⟨[a,b],[("start",.int c t)]⟩:=by
 unfold argsOk;rw[signature?_of (id:="object.__init__") (n:="__init__".toList.reverse) (o:="object".toList.reverse) (by kernel_rfl) F.owner_object]
 kernel_rfl
section
variable{prog:GC}{w:PB}{A:AD}{E:gA->zA->Prop}{s:zA}
def qp(I:Bg c=bA)(q:s.heap.IsList l u)
  (k:∀g,qI g (s.heap.objs.size+1) s.heap.objs.size c .none->g.IsListIter s.heap.objs.size l 0->(∀b o,s.heap.get? b=aA o->g.get? b=aA o)->Q (.ref (s.heap.objs.size+1)) { s with heap:=g }) :
  tA (model prog w) A (call (.type "enumerate") [.ref l] [("start",.int c t)]) Q E s:=by
 have a:=D3;obtain⟨R,U,v⟩:=a.mro;have j:=a.made;have y:=a.sub;obtain⟨⟨cl,m,J,sl⟩,K,d,n,hd⟩:=q;have d:cl=.type "list":=d;have hd:J=.seq u n:=hd;subst d hd;refine wV (codeAny_of_tree ?_);change tA _ _ (callAny (.type "enumerate") _) _ _ _;refine WA ⟨B3 _ (by decide +kernel),cV F.entry_type_call ?_⟩;rw[Around.under_plain (weight_type_call_type "enumerate" _ _) (units_type_call_type "enumerate" _ _)];have X:=a.notType;have Y:=a.canCreate;have Z:=Xo (.ref l) c t
 repeat (any_goals (first | assumption | wp_step))
 refine bN (NU a.plain F.entry_enumerate_new (wpAny_of_eq (Yo (.ref l) c t) (bp l u n m sl c t I prog w A.in1 (wants (λobj h=>h.TypeIs obj "enumerate"/\Q obj h) E) s ⟨K, ?_⟩))) λr h i=>?_
 ·have z:(s.heap.push { cls:=.type "list_iterator",data:=.fields #[.ref l,.int 0 0] }).objs.size=s.heap.objs.size+1:=hV ..;change _/\_;rw[z]
  have B:qI ((s.heap.push { cls:=.type "list_iterator",data:=.fields #[.ref l,.int 0 0] }).push { cls:=.type "enumerate",data:=.fields #[.none,.bool dA,.ref s.heap.objs.size,rawInt c,.none,.none] }) (s.heap.objs.size+1) s.heap.objs.size c .none:=by
   have x:=QD (s.heap.push { cls:=.type "list_iterator",data:=.fields #[.ref l,.int 0 0] }) (o:={ cls:=.type "enumerate",data:=.fields #[.none,.bool dA,.ref s.heap.objs.size,rawInt c,.none,.none] }) rfl
   rwa[z] at x
  exact⟨⟨_,B,rfl⟩,k _ B ⟨_,jC _ (QD _ rfl),rfl,rfl⟩ λb o x=>jC _ (jC _ x)⟩
 ·cases r with
  |error e=>exact i
  |ok M =>
   cases M with
   |ret obj =>
    have C:h.TypeIs obj "enumerate":=i.1;have N:=a.init.lookup;have O:=a.init.bind obj
    repeat (any_goals (first | assumption | wp_step))
    refine bN (NU a.init.plain F.entry_object_init (a.init.check _ _ _ _ _ _ _ _ C (Wo obj (.ref l) c t) (Zo prog w A.in1 (wants (λr H=>r=.none/\Q obj H) E) h ⟨C,rfl,i.2⟩))) λP H f=>?_
    cases P with
    |error e=>exact f
    |ok p =>
     cases p with
     |ret r =>
      obtain⟨rfl,hq⟩:=f
      repeat (any_goals (first | assumption | wp_step))
     |_=>exact f.elim
   |_=>exact i.elim
end
noncomputable def MV(K:kA)(a:jA)(lo:Int):It :=
 ⟨λi H=>∃b x,zB K H a b/\b[i]?=aA x,λi H x c=>∃p y,H p=eA/\x=.ref p/\c=EA H p (.t [.int (lo+(i:Int)),y])/\∀b,zB K H a b->b[i]?=aA y,λi H=>∃b,zB K H a b/\b.length<=i⟩
def Af{K:kA}(a e it:jA)(lo:Int)(n:e≠it):Turn P w K (.Tuple elts k0 pos) (MV K a lo) [e,it] e (λi h=>(∃old,qI h e it (lo+(i:Int)) old)/\h.IsListIter it a i) where
 mem:=by simp
 obj:=λi h st b g=>by
  obtain⟨⟨old,B⟩,o,j,c,d⟩:=st;have g:b=e\/b=it:=by simpa using g
  rcases g with rfl | rfl
  ·exact⟨_,B,λv z=>by
    have z':Data.fields _=Data.cell v:=z
    cases z'⟩
  ·exact⟨o,j,λv z=>by rw[d] at z;cases z⟩
 keep:=λi h h' st k=>by(obtain⟨⟨old,B⟩,j⟩:=st;exact⟨⟨old,k e (by simp) _ B⟩,j.at λo q=>k it (by simp) o q⟩)
 item:=by
  intro X C F J hc i cA s Y H E I r st M;subst C F J;obtain⟨xs,x,A,N⟩:=M;obtain⟨O,Q,p,hz⟩:=I.list A;obtain⟨u,hu,ru⟩:=Q.get N;obtain⟨⟨old,m⟩,hit⟩:=st;have fe:=r e (by simp);have fi:=r it (by simp);refine ip m hit p.isList (by simpa using hu) n λh' ho t hT hk=>?_
  refine⟨_,rfl,wpAny_letOwnedTupleGo_enum ho λj R l=>?_⟩;have f:e<s.heap.objs.size:=OB m;have y:it<s.heap.objs.size:=by obtain⟨_,q,_⟩:=hit;exact OB q
  have ke:∀b u,b≠e->b≠it->s.heap.get? b=aA u->j.get? b=aA u:=λb u n1 U q=>(l.2 b n1).trans (hk b u n1 U q)
  have Z:j.get? s.heap.objs.size=aA { cls:=.type "tuple",data:=.seq #[.int (lo+(i:Int)) s.toks,u] }:=(l.2 _ (kH f)).trans hT;have Nt:H s.heap.objs.size=eA:=I.SA.fresh (kB _);have I2:iA X cA Y (EA H s.heap.objs.size (.t [.int (lo+(i:Int)),x])) { s with heap:=j,toks:=s.toks+1 }:=Hu I ke fe fi (kB _) ⟨by rw[KL];simp,[.int (lo+(i:Int)) s.toks,u],.cons ⟨_,rfl⟩ (.cons ru .nil),⟨_,Z,rfl,_,rfl⟩⟩;refine⟨.ref s.heap.objs.size,EA H s.heap.objs.size (.t [.int (lo+(i:Int)),x]),I2,rfl,⟨s.heap.objs.size,x,Nt,rfl,rfl,λys hy=>by rw[I.W9 hy A];exact N⟩,⟨⟨_,by rw[Int.natCast_add,Int.natCast_one,<- Int.add_assoc];exact R⟩,t.at λo q=>(l.2 it n.symm).trans q⟩,λb g=>?_⟩
  ·have g:b=e\/b=it:=by simpa using g
   rcases g with rfl | rfl
   ·rw[pB (XC f)];exact fe.1
   ·rw[pB (XC y)];exact fi.1
 done:=by(intro X C F J hc i cA s Y H E I r st M;subst C F J;obtain⟨xs,A,N⟩:=M;obtain⟨O,Q,p,hz⟩:=I.list A;obtain⟨⟨old,m⟩,hit⟩:=st;have hl:=Q.length;exact lp (I.ok.hd hc) m hit p.isList (by simp;lia) λh' eb=>⟨rfl,Ku (t':=s.toks) I (λb o _ U q=>eb b o U q) (r e (by simp)) (r it (by simp))⟩)
 self:=λ_ _ _ _ _ st h=>by(obtain⟨⟨old,m⟩,_⟩:=st;exact O3 m h)
section
variable{X:Cx}
def sY(K:kA)(lo:Int)(c:TA):TI:=λY H R=>c Y H λd b=>∃a,d=[.ref a]/\(∃e,zB K b a e)/\R (MV K a lo) b
def Z5:nJ "enumerate"=aA (.type "enumerate"):=by decide +kernel
def Hb{g:TA}(m:Gl X "enumerate")(n:X.mg "enumerate"=eA)(o:PA X [a] g)(t:QB [a] X.env=[(dA,eval a X.env)]:=by rfl):PI X (.Tuple elts k0 iKa) (.Call (.Name "enumerate" p) [a] [] pos) (sY X.K 0 g):=by
 intro cA s Y H R I h;refine Call_ (tM I m n Z5 (zU (UA (o pos cA s Y H _ I h) λC c i=>?_) t rfl));obtain⟨F,j,d,u,v⟩:=i;obtain⟨l,e,⟨J,w⟩,q⟩:=v;subst e
 cases u with
 |cons r x =>
  cases x;cases r;obtain⟨y,M,p,i⟩:=d.list w;refine call_enumerate_list p.isList λz k hit A hk=>?_
  have B:iA X cA Y j { c with heap:=z }:=d.kept (t':=c.toks) hk;refine O3 k ?_;refine⟨c.heap.objs.size+1,[c.heap.objs.size+1,c.heap.objs.size],_,_,j,rfl,B,Af l _ _ 0 (gi _),⟨⟨_,by simpa using k⟩,hit⟩,λb f=>?_,q⟩;have f:b=c.heap.objs.size+1\/b=c.heap.objs.size:=by simpa using f
  rcases f with rfl | rfl
  ·exact d.jM (xK _) (d.SA.fresh (xK _))
  ·exact d.jM (kB _) (d.SA.fresh (kB _))
def gCa{j:Nat}(x:Gl X "enumerate")(y:X.mg "enumerate"=eA)(z:PA X [a] A)(n:QB [a] X.env=[(dA,eval a X.env)]:=by rfl) :
  PI X (.Tuple elts k0 iKa) (.Call (.Name "enumerate" p) [a] [⟨aA "start",.Constant (.int 1) j kq,kp⟩] pos) (sY X.K 1 A):=by
 intro cA s Y H R I h;refine DO (tM I x y Z5 ?_);refine PySem.W.callWith_of (P:=λ_=>True) (by rw[n];rfl) (λ_ _=>⟨.machine,.inr (.inl rfl),PySem.W.Looks.now⟩) (evalArgs_kw2 rfl (UA (z pos cA s Y H _ I h) λus B o=>?_) n);obtain⟨vs,u,C,F,J⟩:=o;obtain⟨l,e,⟨xs,M⟩,q⟩:=J;subst e
 cases F with
 |cons r N =>
  cases N;cases r;refine UA (lCa (nm:=aA "start") (kpos:=kp) (yb (i:=1) (pos:=kq)) mCa pos cA B Y u (λv g=>v=[.int 1]/\g=u) C ⟨rfl,rfl⟩) λws d ⟨v,g,f,k,O,Q⟩=>⟨trivial, ?_⟩
  subst O Q
  cases k with
  |cons k U =>
   cases U;obtain⟨t,rfl⟩:=k;obtain⟨Z,rv,p,o⟩:=f.list M;refine qp (c:=1) (by decide) p.isList λh' w hit hk=>?_
   have I3:iA X cA Y g { d with heap:=h' }:=f.kept (t':=d.toks) hk;refine O3 w ?_;refine⟨d.heap.objs.size+1,[d.heap.objs.size+1,d.heap.objs.size],_,_,g,rfl,I3,Af l _ _ 1 (gi _),⟨⟨_,by simpa using w⟩,hit⟩,λb m=>?_,q⟩;have m:b=d.heap.objs.size+1\/b=d.heap.objs.size:=by simpa using m
   rcases m with rfl | rfl
   ·exact f.jM (xK _) (f.SA.fresh (xK _))
   ·exact f.jM (kB _) (f.SA.fresh (kB _))
end
end CI
namespace L2
set_option tactic.hygienic true
open PySem PySem.Spec PyProof.Rows
end L2
namespace CI
set_option tactic.hygienic true
open PySem PySem.Spec PyProof.Rows L2
section
variable{K:kA}{U U1:Env}{Y:St}{H G H' G':Hp}{own XJ new new':jA->Prop}
def HG{l:List O}(h:(l.set i a)[j]?=aA b):(j=i/\b=a/\i<l.length)\/(j≠i/\l[j]?=aA b):=by
 by_cases c:j=i
 ·subst c;by_cases d:j<l.length
  ·rw[sI d] at h;exact .inl ⟨rfl,(kD h).symm,d⟩
  ·rw[uJ (by rw[oE];lia)] at h;cases h
 ·rw[PD (λz=>c z.symm)] at h;exact .inr ⟨c,h⟩
def GA.unset(r:GA K U Y H G)(i:Nat):GA K (U.set i .un) Y H G:=by
 refine⟨by rw[oE];exact r.len,r.sub,λj d h=>?_,λj d p l h=>?_,λj k d p l y B C a h1 h2 h3 x=>?_⟩
 ·rcases HG h with ⟨_,z,_⟩ | ⟨_,z⟩
  ·cases z
  ·exact r.sh j d z
 ·rcases HG h with ⟨_,z,_⟩ | ⟨_,z⟩
  ·cases z
  ·exact r.ow j d p l z
 ·rcases HG h1 with ⟨_,z,_⟩ | ⟨_,z⟩
  ·cases z
  ·rcases HG h2 with ⟨_,m,_⟩ | ⟨_,m⟩
   ·cases m
   ·exact r.inj _ _ _ _ _ _ _ _ _ z m h3 x
def AA.unset{i:Nat}{a:jA}(h:AA (U.set i .un) Y a):AA U Y a:=by
 obtain⟨j,d,p,l,h1,h2⟩:=h;rcases HG h1 with ⟨_,z,_⟩ | ⟨_,z⟩
 ·cases z
 ·exact⟨j,d,p,l,z,h2⟩
def GA.pO(r:GA K U Y H G){d:D}(h:U[i]?=aA (.ow d p l))(hx:Y[i]?=aA (aA (.ref a))):¬AA (U.set i .un) Y a:=by
 rintro⟨j,m,x,y,h1,h2⟩
 rcases HG h1 with ⟨_,z,_⟩ | ⟨ne,z⟩
 ·cases z
 ·exact ne (r.inj _ _ _ _ _ _ _ _ _ z h h2 hx)
def GA.grow(r:GA K U Y H G)(m:H a=aA ob)(g:G a=eA)(no:¬AA U Y a):GA K U Y H (EA G a ob):=by
 refine⟨r.len,λb u e=>?_,λi d e=>?_,λi d p l e=>?_,r.inj⟩
 ·by_cases j:b=a
  ·subst j;rw[oC] at e;rw[m];exact e
  ·rw[pB j] at e;exact r.sub b u e
 ·obtain⟨v,h1,h2⟩:=r.sh i d e;exact⟨v,h1,nA.mono (Sm.put g) d h2⟩
 ·obtain⟨b,h1,h2,h3⟩:=r.ow i d p l e;have j:b≠a:=λz=>by subst z;exact no ⟨i,d,p,l,e,h1⟩
  exact⟨b,h1,by rw[pB j];exact h2,h3.mono (Sm.put g) λ_ z=>z⟩
def GA.eO(r:GA K (U.set i .un) Y H G){d:D}{v:V}(hx:Y[i]?=aA (aA v))(y:nA K G d v):GA K (U.set i (.sh d)) Y H G:=by
 have key:∀(j:Nat) (sl:Sl),(U.set i (.sh d))[j]?=aA sl->(j=i/\sl=.sh d)\/(U.set i .un)[j]?=aA sl:=λj sl h=>by
  rcases HG h with ⟨e,z,_⟩ | ⟨ne,z⟩
  ·exact .inl ⟨e,z⟩
  ·exact .inr (by rw[PD (λq=>ne q.symm)];exact z)
 refine⟨by have:=r.len;rw[oE] at this ⊢;exact this,r.sub,λj m h=>?_,λj m p l h=>?_,λj k C p l F I J a h1 h2 h3 B=>?_⟩
 ·rcases key j _ h with ⟨rfl,z⟩ | z
  ·cases z;exact⟨v,hx,y⟩
  ·exact r.sh j m z
 ·rcases key j _ h with ⟨rfl,z⟩ | z
  ·cases z
  ·exact r.ow j m p l z
 ·rcases key j _ h1 with ⟨rfl,z⟩ | z
  ·cases z
  ·rcases key k _ h2 with ⟨rfl,x⟩ | x
   ·cases x
   ·exact r.inj _ _ _ _ _ _ _ _ _ z x h3 B
def GA.CM(r:GA K (U.set i .un) Y H G){d:D}{a:jA}(hx:Y[i]?=aA (aA (.ref a)))(g:G a=eA)(ho:ZF K H G a d)(no:¬AA (U.set i .un) Y a):GA K (U.set i (.ow d p l)) Y H G:=by
 have key:∀(j:Nat) (sl:Sl),(U.set i (.ow d p l))[j]?=aA sl->(j=i/\sl=.ow d p l)\/(U.set i .un)[j]?=aA sl:=λj sl h=>by
  rcases HG h with ⟨e,z,_⟩ | ⟨ne,z⟩
  ·exact .inl ⟨e,z⟩
  ·exact .inr (by rw[PD (λq=>ne q.symm)];exact z)
 refine⟨by have:=r.len;rw[oE] at this ⊢;exact this,r.sub,λj y h=>?_,λj y B C h=>?_,λj k F I l1 J M l2 b h1 h2 h3 x=>?_⟩
 ·rcases key j _ h with ⟨rfl,z⟩ | z
  ·cases z
  ·exact r.sh j y z
 ·rcases key j _ h with ⟨rfl,z⟩ | z
  ·cases z;exact⟨a,hx,g,ho⟩
  ·exact r.ow j y B C z
 ·rcases key j _ h1 with ⟨rfl,z⟩ | z
  ·rcases key k _ h2 with ⟨rfl,m⟩ | m
   ·rfl
   ·rw[hx] at h3;cases h3;exact absurd ⟨k,_,_,_,m,x⟩ no
  ·rcases key k _ h2 with ⟨rfl,m⟩ | m
   ·rw[hx] at x;cases x;exact absurd ⟨j,_,_,_,z,h3⟩ no
   ·exact r.inj _ _ _ _ _ _ _ _ _ z m h3 x
def AA.eO{i:Nat}{a:jA}(h:AA (U.set i (.sh d)) Y a):AA (U.set i .un) Y a:=by
 obtain⟨j,m,p,l,h1,h2⟩:=h;rcases HG h1 with ⟨_,z,_⟩ | ⟨ne,z⟩
 ·cases z
 ·exact⟨j,m,p,l,by rw[PD (λq=>ne q.symm)];exact z,h2⟩
def AA.CM{d:D}(hx:Y[i]?=aA (aA (.ref b)))(h:AA (U.set i (.ow d p l)) Y a):a=b\/AA (U.set i .un) Y a:=by
 obtain⟨j,m,r,x,h1,h2⟩:=h;rcases HG h1 with ⟨rfl,z,_⟩ | ⟨ne,z⟩
 ·rw[hx] at h2;cases h2;exact .inl rfl
 ·exact .inr ⟨j,m,r,x,by rw[PD (λq=>ne q.symm)];exact z,h2⟩
def gE.grow(r:gE K H G own new Y h x)(s:aB G j)(k:∀a d,h=.val (.ow d)->x=.ref a->j a=eA)(w:∀a,XJ a->own a):gE K H j XJ new Y h x:=by
 induction h using Hd.casesOn with
 |slot i=>exact r
 |val v =>
  induction v using RV.casesOn with
  |sh d=>exact nA.mono s d r
  |ow d =>
   obtain⟨a,rfl,g,o,n,m⟩:=r;exact⟨a,rfl,k a d rfl rfl,o.mono s λ_ z=>z,λz=>n (w a z),m⟩
  |od d=>exact r.elim
theorem ED.rL:∀{j:List Hd} {xs:List V} {a:jA},ED K H G own new Y j xs->bG j xs a->¬own a/\new a/\H a≠eA/\G a=eA
 |[],_,_,h,t=>by cases (show _=[] from h);exact t.elim
 |h::j,_,a,r,t=>by
  obtain⟨x,y,rfl,h1,h2,h3⟩:=r;have tl:bG j y a->¬own a/\new a/\H a≠eA/\G a=eA:=λt=>ED.rL h2 t
  induction h using Hd.casesOn with
  |slot i=>exact tl t
  |val v =>
   induction v using RV.casesOn with
   |sh d=>exact tl t
   |ow d =>
    rcases t with rfl | t
    ·obtain⟨b,e,g,o,n,m⟩:=h1;cases e;obtain⟨C,B⟩:=o.there;exact⟨n,m,by rw[B];simp,g⟩
    ·exact tl t
   |od d=>exact h1.elim
theorem ED.grow:∀{j:List Hd} {xs:List V},ED K H G own new Y j xs->∀{m:Hp},aB G m->(∀a,bG j xs a->m a=eA)->(∀a,XJ a->own a)->ED K H m XJ new Y j xs
 |[],_,h,_,_,_,_=>h
 |h::j,_,r,m,s,k,w=>by
  obtain⟨x,y,rfl,h1,h2,h3⟩:=r;refine⟨x,y,rfl,h1.grow s (λa d e1 e2=>k a (by subst e1;exact .inl e2)) w,ED.grow h2 s (λa t=>k a ?_) w,h3⟩
  induction h using Hd.casesOn with
  |slot i=>exact t
  |val v =>
   induction v using RV.casesOn with
   |sh d=>exact t
   |ow d=>exact .inr t
   |od d=>exact h1.elim
def GA.nil(s:aB G H):GA K [] [] H G:=⟨rfl,s,λi d h=>by simp at h,λi d p l h=>by simp at h,λi j d p l m r x a h=>by simp at h⟩
def GA.DP(r:GA K as τ H G)(h:nA K G d x):GA K (.sh d::as) (aA x :: τ) H G:=by
 refine⟨by simp[r.len],r.sub,λi m e=>?_,λi m p l e=>?_,λi j y p l B C F a h1 h2 h3 I=>?_⟩
 ·cases i with
  |zero=>simp at e;subst e;exact⟨x,rfl,h⟩
  |succ i=>simpa using r.sh i m (by simpa using e)
 ·cases i with
  |zero=>simp at e
  |succ i=>simpa using r.ow i m p l (by simpa using e)
 ·cases i with
  |zero=>simp at h1
  |succ i =>
   cases j with
   |zero=>simp at h2
   |succ j=>exact congrArg (·+1) (r.inj i j y p l B C F a (by simpa using h1) (by simpa using h2) (by simpa using h3) (by simpa using I))
def GA.N6(r:GA K as τ H G)(g:G a=eA)(o:ZF K H G a d)(n:¬AA as τ a):GA K (.ow d p l::as) (aA (.ref a) :: τ) H G:=by
 refine⟨by simp[r.len],r.sub,λi x e=>?_,λi x p l e=>?_,λi j y B l1 C F I b h1 h2 h3 m=>?_⟩
 ·cases i with
  |zero=>simp at e
  |succ i=>simpa using r.sh i x (by simpa using e)
 ·cases i with
  |zero =>
   simp only[nH,XB,Sl.ow.injEq] at e;obtain⟨rfl,_,_⟩:=e;exact⟨a,rfl,g,o⟩
  |succ i=>simpa using r.ow i x p l (by simpa using e)
 ·cases i with
  |zero =>
   simp only[nH,XB,V.ref.injEq] at h3;subst h3
   cases j with
   |zero=>rfl
   |succ j=>exact absurd ⟨j,C,F,I,by simpa using h2,by simpa using m⟩ n
  |succ i =>
   cases j with
   |zero =>
    simp only[nH,XB,V.ref.injEq] at m;subst m;exact absurd ⟨i,y,B,l1,by simpa using h1,by simpa using h3⟩ n
   |succ j=>exact congrArg (·+1) (r.inj i j y B l1 C F I b (by simpa using h1) (by simpa using h2) (by simpa using h3) (by simpa using m))
def AA.cons{as:List Sl}{τ:St}{sl:Sl}{v:Option V}{a:jA}(h:AA (sl::as) (v :: τ) a):(∃d p l,sl=.ow d p l/\v=aA (.ref a))\/AA as τ a:=by
 obtain⟨i,d,p,l,h1,h2⟩:=h
 cases i with
 |zero=>exact .inl ⟨d,p,l,by simpa using h1,by simpa using h2⟩
 |succ i=>exact .inr ⟨i,d,p,l,by simpa using h1,by simpa using h2⟩
structure gj(K:kA)(U:Env)(Y:St)(H G:Hp)(hs:List Hd)(xs:List V)(as:List Sl)(U1:Env)(G2:Hp):Prop where
 gg:aB G G2
 gn:∀a,G2 a≠eA->G a≠eA\/AA U Y a\/bG hs xs a
 ra:GA K as (xs.map aA) H G2
 rc:GA K U1 Y H G2
 ao:∀a,AA as (xs.map aA) a->AA U Y a\/bG hs xs a
 an:∀a,AA as (xs.map aA) a->¬AA U1 Y a
 ro:∀a,AA U1 Y a->AA U Y a
section
variable{p:Bool}{ps:List Bool}{hs:List Hd}{d:D}{U:Env}{i:Nat}
theorem fy:aAk (p::ps) (.val (.sh d)::hs) U=(aAk ps hs U).map λ(as,a)=>(.sh d::as,a):=rfl
theorem ey:aAk (p::ps) (.val (.ow d)::hs) U=(aAk ps hs U).map λ(as,a)=>((if p then .ow d bA dA else .sh d)::as,a):=rfl
theorem oT:aAk (p::ps) (.slot i::hs) U=(match U[i]? with
  |some (.sh d)=>(aAk ps hs U).map λ(as,a)=>(.sh d::as,a)
  |some (.ow d b c) =>
   match p with
   |true=>(aAk ps hs (U.set i .un)).map λ(as,a)=>(.ow d bA c::as,a)
   |false=>if b||c then eA else(aAk ps hs (U.set i (.sh d))).map λ(as,a)=>(.sh d::as,a)
  |_=>eA):=rfl
end
def map_cons{o:Option (List Sl×Env)}{s:Sl}{as:List Sl}{U1:Env}(e:(o.map λ(as,b)=>(s::as,b))=aA (as,U1)):∃a,o=aA (a,U1)/\as=s::a:=by
 cases o with
 |none=>cases e
 |some y=>cases e;exact⟨_,rfl,rfl⟩
theorem YK:∀(s:List Hd) (cA:List Bool) (U:Env) (G:Hp) (I:List V) (as:List Sl) (U1:Env),GA K U Y H G->ED K H G (AA U Y) new Y s I->aAk cA s U=aA (as,U1) ->
  ∃f,gj K U Y H G s I as U1 f:=by
 intro s
 induction s with
 |nil =>
  intro cA U G I as U1 r h e;cases (show I=[] from h)
  induction cA using LB with
  |cons p A=>cases e
  |nil =>
   replace e:aA ([],U)=aA (as,U1):=e;simp only[XB,ZE] at e;obtain⟨rfl,rfl⟩:=e;exact⟨G,aB.refl _,λa z=>.inl z,GA.nil r.sub,r,λa ⟨i,d,p,l,z,_⟩=>by simp at z,λa ⟨i,d,p,l,z,_⟩=>by simp at z,λ_ z=>z⟩
 |cons x0 s YK =>
  intro cA U G I as U1 r h e
  induction x0 using Hd.casesOn with
  |val rv =>
   induction rv using RV.casesOn with
   |sh d =>
    obtain⟨x,j,rfl,t,k,O⟩:=h
    induction cA using LB with
    |nil=>cases e
    |cons p A =>
     rw[fy] at e;obtain⟨c,q,rfl⟩:=map_cons e;obtain⟨f,L⟩:=YK A U G j c U1 r k q;refine⟨f,L.gg,L.gn,L.ra.DP (nA.mono L.gg d t),L.rc,λa z=>?_,λa z=>?_,L.ro⟩
     ·rcases z.cons with ⟨_,_,_,z,_⟩ | z
      ·cases z
      ·exact L.ao a z
     ·rcases z.cons with ⟨_,_,_,z,_⟩ | z
      ·cases z
      ·exact L.an a z
   |ow d =>
    obtain⟨x,j,rfl,t,k,O⟩:=h;obtain⟨b,rfl,g,o,n,m⟩:=t;have C:¬bG s j b:=O d b rfl rfl
    induction cA using LB with
    |nil=>cases e
    |cons p A =>
     rw[ey] at e;obtain⟨c,q,rfl⟩:=map_cons e
     induction p using ER with
     |true =>
      obtain⟨f,L⟩:=YK A U G j c U1 r k q
      have g2:f b=eA:=by
       cases w:f b with
       |none=>rfl
       |some o' =>
        rcases L.gn b (by rw[w];simp) with z | z | z
        ·exact absurd g z
        ·exact absurd z n
        ·exact absurd z C
      have nb:¬AA c (j.map aA) b:=λz=>by
       rcases L.ao b z with z | z
       ·exact n z
       ·exact C z
      refine⟨f,L.gg,λa z=>?_,L.ra.N6 g2 (o.mono L.gg λ_ z=>z) nb,L.rc,λa z=>?_,λa z=>?_,L.ro⟩
      ·rcases L.gn a z with z | z | z
       ·exact .inl z
       ·exact .inr (.inl z)
       ·exact .inr (.inr (.inr z))
      ·rcases z.cons with ⟨_,_,_,_,z⟩ | z
       ·cases z;exact .inr (.inl rfl)
       ·rcases L.ao a z with z | z
        ·exact .inl z
        ·exact .inr (.inr z)
      ·rcases z.cons with ⟨_,_,_,_,z⟩ | z
       ·cases z;exact λw=>n (L.ro _ w)
       ·exact L.an a z
     |false =>
      obtain⟨F,P,Q⟩:=o.put
      have R:∀a,bG s j a->(EA G b F) a=eA:=λa z=>by
       have B:a≠b:=λw=>by subst w;exact C z
       rw[pB B];exact(k.rL z).2.2.2
      obtain⟨f,L⟩:=YK A U (EA G b F) j c U1 (r.grow P g n) (k.grow (aB.put g) R λ_ z=>z) q;refine⟨f,(aB.put g).trans L.gg,λa z=>?_,L.ra.DP ?_,L.rc,λa z=>?_,λa z=>?_,L.ro⟩
      ·by_cases B:a=b
       ·subst B;exact .inr (.inr (.inl rfl))
       ·rcases L.gn a z with z | z | z
        ·rw[pB B] at z;exact .inl z
        ·exact .inr (.inl z)
        ·exact .inr (.inr (.inr z))
      ·exact Q _ (Sm.of ((aB.put g).trans L.gg)) (L.gg _ _ oC)
      ·rcases z.cons with ⟨_,_,_,z,_⟩ | z
       ·simp at z
       ·rcases L.ao a z with z | z
        ·exact .inl z
        ·exact .inr (.inr z)
      ·rcases z.cons with ⟨_,_,_,z,_⟩ | z
       ·simp at z
       ·exact L.an a z
   |od=>induction cA using LB<;>cases e
  |slot i =>
   obtain⟨x,j,rfl,t,k,O⟩:=h;have t:Y[i]?=aA (aA x):=t
   induction cA using LB with
   |nil=>cases e
   |cons p A =>
    rw[oT] at e;split at e
    ·rename_i d hd;obtain⟨c,q,rfl⟩:=map_cons e;obtain⟨f,L⟩:=YK A U G j c U1 r k q;obtain⟨v,J,h5⟩:=r.sh i d hd;rw[t] at J;cases J;refine⟨f,L.gg,L.gn,L.ra.DP (nA.mono L.gg d h5),L.rc,λa z=>?_,λa z=>?_,L.ro⟩
     ·rcases z.cons with ⟨_,_,_,z,_⟩ | z
      ·cases z
      ·exact L.ao a z
     ·rcases z.cons with ⟨_,_,_,z,_⟩ | z
      ·cases z
      ·exact L.an a z
    ·rename_i d M X hd;obtain⟨b,J,g,o⟩:=r.ow i d M X hd;rw[t] at J;cases J;have u:AA U Y b:=⟨i,d,M,X,hd,t⟩
     have C:¬bG s j b:=λz=>(k.rL z).1 u
     have N:¬AA (U.set i .un) Y b:=r.pO hd t
     induction p using ER with
     |true =>
      simp only at e;obtain⟨c,q,rfl⟩:=map_cons e;obtain⟨f,L⟩:=YK A (U.set i .un) G j c U1 (r.unset i) (k.grow (aB.refl _) (λa z=>(k.rL z).2.2.2) λa z=>z.unset) q
      have g2:f b=eA:=by
       cases w:f b with
       |none=>rfl
       |some o' =>
        rcases L.gn b (by rw[w];simp) with z | z | z
        ·exact absurd g z
        ·exact absurd z N
        ·exact absurd z C
      have nb:¬AA c (j.map aA) b:=λz=>by
       rcases L.ao b z with z | z
       ·exact N z
       ·exact C z
      refine⟨f,L.gg,λa z=>?_,L.ra.N6 g2 (o.mono L.gg λ_ z=>z) nb,L.rc,λa z=>?_,λa z=>?_,λa z=>(L.ro a z).unset⟩
      ·rcases L.gn a z with z | z | z
       ·exact .inl z
       ·exact .inr (.inl z.unset)
       ·exact .inr (.inr z)
      ·rcases z.cons with ⟨_,_,_,_,z⟩ | z
       ·cases z;exact .inl u
       ·rcases L.ao a z with z | z
        ·exact .inl z.unset
        ·exact .inr z
      ·rcases z.cons with ⟨_,_,_,_,z⟩ | z
       ·cases z;exact λw=>N (L.ro _ w)
       ·exact L.an a z
     |false =>
      simp only at e;split at e
      ·cases e
      ·cases q:aAk A s (U.set i (.sh d)) with
       |none=>rw[q] at e;cases e
       |some y =>
        obtain⟨c,U'⟩:=y;rw[q] at e;simp only[WE,XB,ZE] at e;obtain⟨rfl,rfl⟩:=e;obtain⟨F,P,Q⟩:=o.put
        have R:∀a,bG s j a->(EA G b F) a=eA:=λa z=>by
         have B:a≠b:=λw=>by subst w;exact C z
         rw[pB B];exact(k.rL z).2.2.2
        have Z:∀f,aB (EA G b F) f->nA K f d (.ref b):=λf s2=>Q _ (Sm.of ((aB.put g).trans s2)) (s2 _ _ oC)
        obtain⟨f,L⟩:=YK A (U.set i (.sh d)) (EA G b F) j c U' (((r.unset i).grow P g N).eO t (Z _ (aB.refl _)))
         (k.grow (aB.put g) R λa z=>z.eO.unset) q
        refine⟨f,(aB.put g).trans L.gg,λa z=>?_,L.ra.DP (Z f L.gg),L.rc,λa z=>?_,λa z=>?_,λa z=>(L.ro a z).eO.unset⟩
        ·by_cases B:a=b
         ·subst B;exact .inr (.inl u)
         ·rcases L.gn a z with z | z | z
          ·rw[pB B] at z;exact .inl z
          ·exact .inr (.inl z.eO.unset)
          ·exact .inr (.inr z)
        ·rcases z.cons with ⟨_,_,_,z,_⟩ | z
         ·cases z
         ·rcases L.ao a z with z | z
          ·exact .inl z.eO.unset
          ·exact .inr z
        ·rcases z.cons with ⟨_,_,_,z,_⟩ | z
         ·cases z
         ·exact L.an a z
    ·cases e
end
end CI
namespace CI
set_option tactic.hygienic true
open PySem PySem.Spec PyProof.Rows L2
section
variable{K:kA}
def GA.keep(r:GA K U Y H G)(e:Ext own H G j m)(n:∀a,AA U Y a->¬own a)(s:aB m j):GA K U Y j m:=by
 refine⟨r.len,s,λi d h=>?_,λi d p l h=>?_,r.inj⟩
 ·obtain⟨v,h1,h2⟩:=r.sh i d h;exact⟨v,h1,nA.mono e.gg d h2⟩
 ·obtain⟨a,h1,g,o⟩:=r.ow i d p l h;have x:=n a ⟨i,d,p,l,h,h1⟩;obtain⟨F,y⟩:=o.there;exact⟨a,h1,e.gn a (by rw[y];simp) g x,o.mono e.gg λB C=>e.hh a B C x⟩
def GA.tail(r:GA K (a::as) (v :: τ) H G):GA K as τ H G:=by
 refine⟨by have:=r.len;simpa using this,r.sub,λi d h=>?_,λi d p l h=>?_,λi j d p l m x y b h1 h2 h3 B=>?_⟩
 ·simpa using r.sh (i+1) d (by simpa using h)
 ·simpa using r.ow (i+1) d p l (by simpa using h)
 ·have:=r.inj (i+1) (j+1) d p l m x y b (by simpa using h1) (by simpa using h2) (by simpa using h3) (by simpa using B)
  lia
def AA.tail(h:AA as τ b):AA (a::as) (v :: τ) b:=by
 obtain⟨i,d,p,l,h1,h2⟩:=h;exact⟨i+1,d,p,l,by simpa using h1,by simpa using h2⟩
def F7{i:Nat}{f:List Bool}{g:List Hd}{a:Sl}{as:List Sl}{c U h:Env}(e:aAf (bA::f) (.slot i::g) (a::as) c U=aA h) :
  (∃k b j d m n,c[i]?=aA (.ow k b j)/\a=.ow d m n/\aAf f g as c (U.set i (.ow d b j))=aA h)\/(∀d p l,c[i]?≠aA (.ow d p l))/\aAf f g as c U=aA h:=by
 replace e:(match (generalizing:=false) c[i]?,a with
  |some (.ow _ b j),.ow d _ _=>aAf f g as c (U.set i (.ow d b j))
  |some (.ow _ _ _),_=>eA
  |_,_=>aAf f g as c U)=aA h:=e
 generalize c[i]?=o at e ⊢
 induction o using XF with
 |none=>exact .inr ⟨λ_ _ _ z=>(nomatch z),e⟩
 |some s=>cases s with
  |ow k b j=>cases a with
   |ow d m n=>exact .inl ⟨_,_,_,_,_,_,rfl,rfl,e⟩
   |_=>exact nomatch (show(eA:Option Env)=aA h from e)
  |_=>exact .inr ⟨λ_ _ _ z=>(nomatch z),e⟩
theorem JS:∀(m:List Hd) (cA:List Bool) (as:List Sl) (s:List V) (U f:Env),GA K as (s.map aA) H G->GA K U Y H G->(∀a,AA as (s.map aA) a->¬AA U Y a)->ED K H0 G0 own new Y m s ->
  aAf cA m as y U=aA f->GA K f Y H G/\∀a,AA f Y a->AA U Y a\/AA y Y a:=by
 intro m
 induction m with
 |nil =>
  intro cA as s U f t r n h e
  induction cA using LB with
  |nil =>
   induction as using LB with
   |nil =>
    cases e;exact⟨r,λ_ z=>.inl z⟩
   |cons a as=>cases e
  |cons p u=>cases p<;>cases as<;>cases e
 |cons h m JS =>
  intro cA as s U f t r n hh e;obtain⟨x,I,rfl,q,J,h3⟩:=hh
  induction cA using LB with
  |nil=>cases e
  |cons p u =>
   induction as using LB with
   |nil=>cases p<;>cases h<;>cases e
   |cons a k =>
    have skip:aAf u m k y U=aA f->GA K f Y H G/\∀a,AA f Y a->AA U Y a\/AA y Y a:=λN =>
     JS u k I U f t.tail r (λb z=>n b z.tail) J N
    induction p using ER with
    |false=>cases h<;>exact skip e
    |true =>
     induction h using Hd.casesOn with
     |val v=>exact skip e
     |slot i =>
      have q:Y[i]?=aA (aA x):=q;rcases F7 e with ⟨_,l,A,d,B,C,O,rfl,F⟩ | ⟨_,F⟩
      ·replace e:=F;obtain⟨b,M,g,o⟩:=t.ow 0 d B C rfl;simp only[MB,nH,XB] at M;subst M;have nb:¬AA U Y b:=n b ⟨0,d,B,C,rfl,rfl⟩;have P:GA K (U.set i (.ow d l A)) Y H G:=(r.unset i).CM q g o λz=>nb z.unset
       obtain⟨Q,R⟩:=JS u k I (U.set i (.ow d l A)) f t.tail P (λc z w=>by
        rcases w.CM q with rfl | w
        ·obtain⟨j,X,Z,l2,z1,z2⟩:=z
         have:=t.inj 0 (j+1) d B C X Z l2 c rfl (by simpa using z1) rfl (by simpa using z2)
         lia
        ·exact n c z.tail w.unset) J e
       refine⟨Q,λc z=>?_⟩;rcases R c z with z | z
       ·rcases z.CM q with rfl | z
        ·exact .inr ⟨i,_,l,A,O,q⟩
        ·exact .inl z.unset
       ·exact .inr z
      ·exact skip F
def uI(cA:List Bool)(a:List Hd)(i:Nat):Prop:=∃j:Nat,cA[j]?=aA bA/\a[j]?=aA (.slot i)
def uI.cons{p:Bool}{m:List Bool}{h:Hd}{r:List Hd}{i:Nat}(l:uI m r i):uI (p::m) (h::r) i:=by
 obtain⟨j,h1,h2⟩:=l;exact⟨j+1,by simpa using h1,by simpa using h2⟩
theorem hZ:∀(a:List Hd) (cA:List Bool) (U:Env) (as:List Sl) (c:Env),aAk cA a U=aA (as,c)->∀i:Nat,bF U[i]? c[i]?\/(uI cA a i/\∃d p l,U[i]?=aA (.ow d p l)):=by
 intro a
 induction a with
 |nil =>
  intro cA U as c e i;cases cA<;>cases e;exact .inl (bF.refl _)
 |cons h a hZ =>
  intro cA U as c e i
  induction cA using LB with
  |nil=>cases h with
   |slot i=>cases e
   |val v=>cases v<;>cases e
  |cons p f =>
   have fin:∀{b:Env} {g:Sl},(aAk f a b).map (λ(as,b)=>(g::as,b))=aA (as,c)->bF b[i]? c[i]?\/(uI f a i/\∃d p l,b[i]?=aA (.ow d p l)):=by
    intro b g e
    cases q:aAk f a b with
    |none=>rw[q] at e;cases e
    |some y =>
     obtain⟨k,s⟩:=y;rw[q] at e;simp only[WE,XB,ZE] at e;obtain⟨_,rfl⟩:=e;exact hZ f b k s q i
   have same:∀{g:Sl},(aAk f a U).map (λ(as,b)=>(g::as,b))=aA (as,c)->bF U[i]? c[i]?\/(uI (p::f) (h::a) i/\∃d p l,U[i]?=aA (.ow d p l)):=by
    intro g e;rcases fin e with z | ⟨z,w⟩
    ·exact .inl z
    ·exact .inr ⟨z.cons,w⟩
   induction h using Hd.casesOn with
   |val v=>cases v<;>first | exact same e | cases e
   |slot n =>
    rw[oT] at e;split at e
    ·exact same e
    ·rename_i d m t hd
     induction p using ER with
     |true =>
      simp only at e;by_cases o:i=n
      ·subst o;exact .inr ⟨⟨0,rfl,rfl⟩,d,m,t,hd⟩
      ·have:=fin e
       rw[PD (λz=>o z.symm)] at this;rcases this with z | ⟨z,w⟩
       ·exact .inl z
       ·exact .inr ⟨z.cons,w⟩
     |false =>
      simp only at e;split at e
      ·cases e
      ·rename_i r;simp only[jI,not_or,oR] at r;have j:UD U (U.set n (.sh d)):=UD.set (by rw[hd];exact r.1);rcases fin e with z | ⟨z,B,u,x,w⟩
       ·exact .inl ((j i).trans z)
       ·have:=j i
        rw[w] at this;obtain⟨A,e2⟩:=this.Za;exact .inr ⟨z.cons,A,u,x,e2⟩
    ·cases e
theorem IS:∀(k:List Hd) (cA:List Bool) (as:List Sl) (U g:Env),aAf cA k as m U=aA g->∀i:Nat,(g[i]?=U[i]?\/∃d q p l,m[i]?=aA (.ow d p l)/\g[i]?=aA (.ow q p l)) /\
  (uI cA k i->(∃d p l,m[i]?=aA (.ow d p l))->i<U.length->∃d q p l,m[i]?=aA (.ow d p l)/\g[i]?=aA (.ow q p l)):=by
 intro k
 induction k with
 |nil =>
  intro cA as U g e i
  induction cA using LB with
  |nil =>
   induction as using LB with
   |nil =>
    cases e;exact⟨.inl rfl,λ⟨j,h,_⟩=>by simp at h⟩
   |cons a as=>cases e
  |cons p r=>cases p<;>cases as<;>cases e
 |cons h k IS =>
  intro cA as U g e i
  induction cA using LB with
  |nil=>cases e
  |cons p r =>
   induction as using LB with
   |nil=>cases p<;>cases h<;>cases e
   |cons a s =>
    have c:¬(p=bA/\h=.slot i)->uI (p::r) (h::k) i->uI r k i:=λn w=>by
     obtain⟨j,b,t⟩:=w
     cases j with
     |zero =>
      simp only[nH,XB] at b t;exact absurd ⟨b,t⟩ n
     |succ j=>exact⟨j,by simpa using b,by simpa using t⟩
    have skip:¬(p=bA/\h=.slot i)\/¬(∃d p l,m[i]?=aA (.ow d p l))->aAf r k s m U=aA g->(g[i]?=U[i]?\/∃d q p l,m[i]?=aA (.ow d p l)/\g[i]?=aA (.ow q p l)) /\
      (uI (p::r) (h::k) i->(∃d p l,m[i]?=aA (.ow d p l))->i<U.length->∃d q p l,m[i]?=aA (.ow d p l)/\g[i]?=aA (.ow q p l)):=λn C=>by
     obtain⟨b,t⟩:=IS r s U g C i;refine⟨b,λl o=>?_⟩;rcases n with n | n
     ·exact t (c n l) o
     ·exact absurd o n
    induction p using ER with
    |false=>cases h<;>exact skip (.inl (by simp)) e
    |true =>
     induction h using Hd.casesOn with
     |val v=>exact skip (.inl (by simp)) e
     |slot A =>
      rcases F7 e with ⟨H,F,I,d,J,M,B,rfl,x⟩ | ⟨y,x⟩
      ·replace e:=x;obtain⟨b,t⟩:=IS r s _ g e i;by_cases f:i=A
       ·subst f;refine⟨?_,λl o u=>?_⟩
        ·rcases b with b | b
         ·by_cases u:i<U.length
          ·rw[sI u] at b;exact .inr ⟨_,_,_,_,B,b⟩
          ·exact .inl (by rw[b,uJ (by rw[oE];lia),uJ (by lia)])
         ·exact .inr b
        ·rcases b with b | b
         ·rw[sI u] at b;exact⟨_,_,_,_,B,b⟩
         ·exact b
       ·rw[PD (λz=>f z.symm)] at b;refine⟨b,λl o u=>t (c (λz=>f (by have:=z.2;simp at this;exact this.symm)) l) o (by rw[oE];exact u)⟩
      ·refine skip ?_ x;by_cases f:i=A
       ·subst f;refine .inr λw=>?_
        obtain⟨d,p,l,z⟩:=w;exact y d p l z
       ·exact .inl λz=>f (by have:=z.2;simp at this;exact this.symm)
def sS(a:DA K U0 Y Q G0 U H G)(h:ED K H G (AA U Y) (wD Q) Y r A)(e:ID cA f r U=some (.ok v,s)) :
  ∃as C j,GA K as (A.map aA) H C/\as.length=cA.length/\f as=some (.ok v,j)/\(aB G C/\∀c,AA as (A.map aA) c->AA U Y c\/bG r A c)/\∀x I J,DA K as (A.map aA) H C j I J->sC K I J (AA j (A.map aA)) (wD H) v x ->
   DA K U0 Y Q G0 s I J/\sC K I J (AA s Y) (wD Q) v x:=by
 unfold ID at e
 cases q:aAk cA r U with
 |none=>rw[q] at e;cases e
 |some y =>
  obtain⟨as,t⟩:=y;rw[q] at e;simp only at e
  cases q2:f as with
  |none=>rw[q2] at e;cases e
  |some y =>
   obtain⟨o,j⟩:=y;rw[q2] at e;simp only at e
   cases q3:aAf cA r j U t with
   |none=>rw[q3] at e;cases e
   |some R =>
    rw[q3] at e;simp only[WE,XB,ZE] at e;obtain⟨rfl,rfl⟩:=e;obtain⟨C,L⟩:=YK r cA U G A as t a.rA h q;refine⟨as,C,j,L.ra, ?_,q2,⟨L.gg,L.ao⟩,λx I J b N=>?_⟩
    ·have:∀(r:List Hd) (cA:List Bool) (U:Env) (as:List Sl) (t:Env),aAk cA r U=aA (as,t)->as.length=cA.length:=by
      intro r
      induction r with
      |nil =>
       intro cA U as t e;cases cA<;>cases e;rfl
      |cons h r O =>
       intro cA U as t e
       induction cA using LB with
       |nil=>cases h with
        |slot i=>cases e
        |val v=>cases v<;>cases e
       |cons p ps =>
        have fin:∀{o:Option (List Sl×Env)} {g:Sl},(o.map λ(as,s)=>(g::as,s))=aA (as,t)->(∀j s,o=aA (j,s)->j.length=ps.length)->as.length=(p::ps).length:=by
         intro o g e k
         induction o using XF with
         |none=>cases e
         |some y =>
          obtain⟨j,s⟩:=y;simp only[WE,XB,ZE] at e;rw[<- e.1,YB,YB,k j s rfl]
        induction h using Hd.casesOn with
        |slot i =>
         rw[oT] at e;split at e
         ·exact fin e λj s z=>O _ _ _ _ z
         ·split at e
          ·exact fin e λj s z=>O _ _ _ _ z
          ·split at e
           ·cases e
           ·exact fin e λj s z=>O _ _ _ _ z
         ·cases e
        |val v =>
         induction v using RV.casesOn with
         |sh d=>exact fin e λj s z=>O _ _ _ _ z
         |ow d=>exact fin e λj s z=>O _ _ _ _ z
         |od d=>cases e
     exact this r cA U as t q
    ·have own_there:∀c,AA as (A.map aA) c->H c≠eA:=λc z=>(L.ra.owned z).1
     have rc:GA K t Y I J:=L.rc.keep b.ext (λc z w=>L.an c w z) b.rA.sub;obtain⟨r3,r4⟩:=JS r cA j A t R b.rA rc (λc z w=>L.an c (b.own c z) w) h q3
     have u:∀c,AA R Y c->AA U Y c:=λc z=>by
      rcases r4 c z with z | z
      ·exact L.ro c z
      ·exact z
     have B:∀c,AA as (A.map aA) c->AA U0 Y c\/Q c=eA:=λc z=>by
      rcases L.ao c z with z | z
      ·exact .inl (a.own c z)
      ·exact .inr (h.rL z).2.1
     have P:UD U R:=λi=>by
      obtain⟨g1,g2⟩:=IS r cA j t R q3 i;rcases hZ r cA U as t q i with z | ⟨z,o⟩
      ·rcases g1 with g1 | ⟨d,d',p,l,X,Z⟩
       ·rw[g1];exact z
       ·rw[X,Z];exact⟨rfl,rfl⟩
      ·have hl:i<t.length:=by
        obtain⟨d,p,l,o⟩:=o;rw[L.rc.len,<- a.rA.len];exact(BD.mp o).1
       obtain⟨d,d',p,l,X,Z⟩:=g2 z o hl;rw[X,Z];exact⟨rfl,rfl⟩
     refine⟨⟨r3,⟨a.ext.gg.trans ((Sm.of L.gg).trans b.ext.gg),λc o F M=>?_,λc z=>a.ext.hx c (b.ext.hx c z),λc F gc M=>?_⟩,a.II.trans P⟩, ?_⟩
     ·refine b.ext.hh c o (a.ext.hh c o F M) λz=>?_
      rcases B c z with z | z
      ·exact M z
      ·rw[F] at z;cases z
     ·have Ct:H c≠eA:=λz=>F (a.ext.hx c z)
      have g1:G c=eA:=a.ext.gn c F gc M
      have g2:C c=eA:=by
       cases w:C c with
       |none=>rfl
       |some o =>
        rcases L.gn c (by rw[w];simp) with z | z | z
        ·exact absurd g1 z
        ·exact absurd (a.own c z) M
        ·exact absurd (h.rL z).2.1 F
      refine b.ext.gn c Ct g2 λz=>?_
      rcases B c z with z | z
      ·exact M z
      ·exact F z
     ·induction v using RV.casesOn with
      |sh d=>exact N
      |ow d =>
       obtain⟨c,rfl,g,o,n,m⟩:=N;exact⟨c,rfl,g,o,λz=>(a.rA.owned (u c z)).1 m,a.ext.hx c m⟩
      |od d =>
       obtain⟨c,rfl,g,o,n,m,vs,N,hr⟩:=N;exact⟨c,rfl,g,o,λz=>(a.rA.owned (u c z)).1 m,a.ext.hx c m,vs,N,λx hx=>let ⟨b,ws,h1,h2,h3,h4,h5,h6⟩:=hr x hx;⟨b,ws,h1,h2,h3,λz=>(a.rA.owned (u b z)).1 h5,a.ext.hx b h5,h6⟩⟩
def IT(x:Exc)(o:BA RV):BA RV :=
 match o with
 |some (Out.ex y,a)=>@ite _ (y=x) (cl _) (aA (Out.ok (.sh .lA),a)) eA
 |_=>eA
def g_(h:IT x o=some (.ok v,a)):o=some (.ex x,a):=by
 unfold IT at h;split at h
 ·split at h
  ·rename_i b;cases h;rw[b]
  ·cases h
 ·cases h
def So(a:DA K n Y k p U H G)(h:ED K H G (AA U Y) (wD k) Y g l)(e:ID cA f g U=some (.ex x,m)) :
  ∃as i c,GA K as (l.map aA) H i/\as.length=cA.length/\f as=some (.ex x,c)/\∀j d,DA K as (l.map aA) H i c j d->DA K n Y k p m j d:=by
 have r:ID cA (λas=>IT x (f as)) g U=some (.ok (.sh .lA),m):=by
  unfold ID at e ⊢
  cases q:aAk cA g U with
  |none=>rw[q] at e;cases e
  |some y =>
   obtain⟨as,s⟩:=y;rw[q] at e;simp only at e ⊢
   cases q2:f as with
   |none=>rw[q2] at e;cases e
   |some y =>
    obtain⟨o,c⟩:=y;rw[q2] at e;simp only at e
    cases q3:aAf cA g c U s with
    |none=>rw[q3] at e;cases e
    |some A =>
     rw[q3] at e;simp only[WE,XB,ZE] at e;obtain⟨rfl,rfl⟩:=e;have z:IT x (some (.ex x,c))=some (.ok (.sh .lA),c):=MA rfl;rw[z];simp only[q3,WE]
 obtain⟨as,i,c,t,u,v,_,w⟩:=sS a h r;exact⟨as,i,c,t,u,g_ v,λj d b=>(w .lA j d b (by show nA K d .lA _;simp[nA])).1⟩
end
end CI
namespace CI
set_option tactic.hygienic true
open PySem PySem.Spec PyProof.Rows L2
inductive GV where
 |no | c (d:D) | fn (f:String) | blt | cls (ns:List fA) | XD (tb:List (fA×String)) | sub (s n:List fA) | bD (s n:List fA) | exc | JI | KA (cs:List fA) | obj (f:String) | yH (cs:List fA) | HS (ks:List fA) (vs:List Int)
set_option genCtorIdx true in
gen_injective_theorems% GV
structure CC where
 N:List fA
 names:List (fA×nI)
 gl:fA->GV
 top:Bool
noncomputable def CC.hQ(Z:CC)(x:fA):Bool:=Z.names.lookup x==aA .globalImplicit
noncomputable def CC.v8(Z:CC)(x:fA):Bool:=Z.names.lookup x==aA .local||Z.names.lookup x==aA .cell||Z.names.lookup x==aA .free
noncomputable def OH(x:fA):Bool:=x==("__debug__":fA)||x==("__classdict__":fA)||x==("__name__":fA)
def CC.slot(Z:CC)(x:fA):Option Nat:=if OH x then eA else if Z.v8 x then Z.N.idxOf? x else eA
def CC.glob(Z:CC)(x:fA):GV:=if OH x then .no else if Z.hQ x then Z.gl x else .no
def GI(Z:CC)(x:fA):E :=
 match Z.slot x with
 |some i=>.v i
 |none=>match Z.glob x with
  |.c d=>.c d
  |_=>.qA
noncomputable def gS:Const->E
 |.none=>.c .lA
 |.bool b=>.c (.bl b)
 |.int i=>.c (.int i)
 |.str s=>if dN s then .c (.str s) else .qA
 |_=>.qA
noncomputable def vW(f:fA):Option BI :=
 if f=("len":fA) then aA .len else if f=("abs":fA) then aA .abs else if f=("int":fA) then aA .int else if f=("list":fA) then aA .list
 else if f=("tuple":fA) then aA .tuple else if f=("min":fA) then aA .min else if f=("max":fA) then aA .max else if f=("all":fA) then aA .all else if f=("sorted":fA) then aA .sorted else eA
def yP(f:fA):Option BI:=vW f
def mC{p:Prop}(h:dA=bA):p:=nomatch h
noncomputable def aAp:wA->Option fA
 |.Name x _=>aA x
 |_=>eA
def eL{e:wA}{x:fA}(h:aAp e=aA x):∃p,e=.Name x p:=by
 induction e using FC<;>first | exact oD h | exact⟨_,congrArg (λy=>Expr.Name y _) (kD h)⟩
def O1(Z:CC)(x:fA):Option Ty:=match Z.glob x with
 |.blt=>if x=("int":fA) then aA .int else if x=("bool":fA) then aA .bool else if x=("str":fA) then aA .str else if x=("list":fA) then aA .list else if x=("tuple":fA) then aA .tuple else if x=("ValueError":fA) then aA .TQ else eA
 |_=>eA
def sU(Z:CC)(e:wA):Option Ty:=(aAp e).bind (O1 Z)
noncomputable def CT:E->E
 |.UI=>.qA
 |c=>c
noncomputable def aAd:wA->Bool
 |.Starred _ _=>dA
 |_=>bA
noncomputable def col(x:fA):fA:=⟨#[58]++x.cps⟩
def CC.LS(Z:CC)(x:fA):GV:=if OH x then .no else if Z.hQ x then Z.gl (col x) else .no
def P0(Z:CC):List wA->Option (List (List fA×List fA))
 |[]=>aA []
 |e::a=>(aAp e).bind λx=>match Z.LS x with
  |.bD s n=>(P0 Z a).map ((s,n) :: ·)
  |_=>eA
noncomputable def cat(x:fA):fA:=⟨#[94]++x.cps⟩
def CC.MN(Z:CC)(x:fA):GV:=if OH x then .no else if Z.hQ x then Z.gl (cat x) else .no
def NQ(Z:CC)(x:fA)(a:E):E:=match Z.LS x with
 |.sub s n=>.qA
 |.bD s n=>.pM a [(s,n)]
 |_=>.qA
def OQ(Z:CC)(b:List wA)(a:E):E:=match P0 Z b with
 |some c=>if b.length<=100 then .pM a c else .qA
 |none=>.qA
def jU(Z:CC)(t:wA)(a:E):E:=match t with
 |.Name x _=>NQ Z x a
 |.Tuple b _ _=>OQ Z b a
 |_=>.qA
noncomputable def z0{O:Type}:List O->Option O
 |[]=>eA
 |a::r=>(match r with
  |[]=>aA a
  |_::_=>eA)
def eIa{O:Type}{l:List O}{a:O}(h:z0 l=aA a):l=[a]:=by
 obtain _ | ⟨b,_ | ⟨_,_⟩⟩:=l<;>first | exact nomatch (show eA=aA a from h) | (cases (show aA b=aA a from h);rfl)
noncomputable def two{O:Type}:List O->Option (O×O)
 |[]=>eA
 |a::r=>(match r with
  |[]=>eA
  |b::q=>(match q with
   |[]=>aA (a,b)
   |_::_=>eA))
def tKa{O:Type}{l:List O}{p:O×O}(h:two l=aA p):l=[p.1,p.2]:=by
 obtain _ | ⟨a,_ | ⟨b,_ | ⟨_,_⟩⟩⟩:=l<;>first | exact nomatch (show eA=aA p from h) | (cases (show aA (a,b)=aA p from h);rfl)
def eT(Z:CC)(t:wA)(a:E):E:=match sU Z t with | some ty=>.QI a [ty] | none=>jU Z t a
def OJ(Z:CC)(args:List wA)(a:List E):E:=match two args with
 |some p=>(match two a with | some q=>eT Z p.2 q.1 | none=>.qA)
 |none=>.qA
noncomputable def aA4:wA->Option Int
 |.Constant (.int a) _ _=>aA a
 |_=>eA
noncomputable def oS(a b:List E):E:=match a,b with
 |[c],[e]=>.HP c e
 |_,_=>.qA
noncomputable def S6:E:=.qA
def T6(k v:wA)(a b:List E):E:=oS a b
def rS(b:List (Option wA))(a:List wA)(c d:List E):E:=match b with
 |[]=>(match a with | []=>S6 | _::_=>.qA)
 |k::r=>(match r with
  |_::_=>.qA
  |[]=>(match k with
   |none=>.qA
   |some k=>(match a with
    |[]=>.qA
    |v::r=>(match r with | _::_=>.qA | []=>T6 k v c d))))
noncomputable def Wu(Z:CC):Bool:=match Z.gl ("{}":fA) with
 |.blt=>bA
 |_=>dA
noncomputable def KP(z:Bool)(a:List (Option wA))(b:List wA)(c:E):E:=match z,a,b with
 |true,[],[]=>.GP
 |_,_,_=>c
noncomputable def dot(m:fA):fA:=⟨#[46]++m.cps⟩
noncomputable def vS(x:fA):fA:=⟨#[61]++x.cps⟩
noncomputable def R1(Z:CC)(x m:fA)(hB a:xB):E:=.qA
noncomputable def Ff(Z:CC)(x m:fA)(hB b:xB)(a:wA):E:=.qA
noncomputable def KW(a:List (Option wA))(b:List wA)(d:List E)(c:E):E:=c
def rP(Z:CC)(x m:fA)(hB b:xB)(a:wA):E:=Ff Z x m hB b a
def qP(Z:CC)(x m:fA)(hB b:xB)(a:wA)(c:E):E :=
 if aAd a&&(hB.endLine==b.line)&&(m==("append":fA)) then(match Z.slot x with | some i=>.app i c | none=>.qA) else if aAd a&&(hB.endLine==b.line)&&(m==("extend":fA)) then(match Z.slot x with | some i=>.ext i c | none=>.qA) else if aAd a&&(hB.endLine==b.line)&&(m==("pop":fA)) then .qA else rP Z x m hB b a
def pP(Z:CC)(x m:fA)(hB a:xB):E:=if(hB.endLine==a.line)&&(m==("bit_length":fA)) then .qA else
 if(hB.endLine==a.line)&&(m==("clear":fA)) then(match Z.slot x with | some i=>.BP i | none=>.qA) else
 if(hB.endLine==a.line)&&(m==("pop":fA)) then(match Z.slot x with | some i=>.dO i | none=>.qA) else R1 Z x m hB a
def kW(Z:CC)(x m:fA)(hB b:xB)(args:List wA)(d:List E):E:=match args,d with
 |[a],[c]=>qP Z x m hB b a c
 |[],[]=>pP Z x m hB b
 |_,_=>.qA
def sP(Z:CC)(x m:fA)(hB a:xB)(args:List wA)(b:List E):E :=
 match Z.gl (dot m) with
 |.XD c=>if args.all aAd&&(hB.endLine==a.line)&&decide (args.length<29) then(match Z.slot x with | some i=>.ZH i m c b | none=>.qA) else .qA
 |_=>kW Z x m hB a args b
def rQ(Z:CC)(m:fA)(hB b:xB)(args:List wA)(a:E)(c:List E):E :=
 match Z.gl (dot m) with
 |.XD d=>if args.all aAd&&(hB.endLine==b.line)&&decide (args.length<29) then .qA else .qA
 |_=>.qA
noncomputable def zT:wA->Option (fA×xB)
 |.Name f p=>aA (f,p)
 |_=>eA
def rM:wA->Option ((fA×xB)×List wA×xB)
 |.Call fn args a pos=>(match a with
  |[]=>(zT fn).map λq=>(q,args,pos)
  |_::_=>eA)
 |_=>eA
def GY(e:wA):Bool:=match rM e with
 |some (f,[_],_)=>f.1==("set":fA)
 |_=>dA
noncomputable def oZ:E->Option E
 |.aL c=>aA c
 |_=>eA
def Qy{e c:E}(h:oZ e=aA c):e=.aL c:=by
 induction e using E.casesOn with
 |aL=>cases h;rfl
 |_=>exact nomatch (show eA=aA c from h)
def nT(args:List wA)(b:List E):E :=
 match (z0 args).bind λa=>if GY a=bA then(z0 b).bind oZ else eA with
 |some c=>.zM c
 |none=>.bif .len b
noncomputable def aAQ(a:List E):E :=
 match a with
 |[c]=>.aL c
 |_=>.qA
noncomputable def iZ(args:List wA)(a:List E):E:=.bif .list a
def PH(f:fA)(args:List wA)(a:List E):E :=
 if f=("len":fA) then nT args a else if f=("set":fA) then aAQ a else if f=("range":fA) then .qA else if f=("list":fA) then iZ args a else(match yP f with | some b=>.bif b a | none=>.qA)
noncomputable def YS:wA->Bool
 |.ListComp _ _ _ _=>bA
 |_=>dA
noncomputable def iD:wA->Bool
 |.ListComp _ _ _ _=>dA
 |.SetComp _ _ _ _=>dA
 |.DictComp _ _ _ _ _=>dA
 |_=>bA
noncomputable def FT:wA->Bool
 |.Slice _ _ _ _=>dA
 |_=>bA
noncomputable def ET:wA->Bool
 |.Set _ _ _=>dA
 |_=>bA
noncomputable def uQ:wA->Bool
 |.Tuple _ _ _=>dA
 |_=>bA
noncomputable def CC.oM(Z:CC)(x:fA):Bool:=Z.names.lookup x==aA .local||(Z.top&&Z.names.lookup x==aA .cell)
def CC.QE(Z:CC)(x:fA):Option Nat:=if Z.oM x then Z.slot x else eA
def qf(Z:CC):wA->Option Nat
 |.Name x _=>Z.QE x
 |_=>eA
def qL(Z:CC):List wA->Option (List Nat)
 |[]=>aA []
 |e::a=>(qf Z e).bind λi=>(qL Z a).map (i :: ·)
def CH(Z:CC):wA->Option (Bool×List Nat)
 |.Name x _=>(Z.QE x).map λi=>(bA,[i])
 |.Tuple a _ _=>(qL Z a).map λis=>(dA,is)
 |_=>eA
noncomputable def aAS:List O->Option O
 |[]=>eA
 |a::r=>(match r with | []=>aA a | _::_=>eA)
def JY:wA->Option (fA×wA×fA×Int)
 |.Call fn args b _=>(zT fn).bind λq=>(aAS args).bind λa=>(aAS b).bind λk=>k.arg.bind λx=>(aA4 k.value).map λc=>(q.1,a,x,c)
 |_=>eA
def PJ(Z:CC)(e:wA):Option (sF×List wA):=match rM e with
 |some x=>if(x.1.1==("range":fA)) then
   (match Z.glob x.1.1 with
   |.blt=>if x.2.1.all aAd&&(x.2.1.length==1||x.2.1.length==2) then aA (.gC,x.2.1) else eA
   |_=>eA)
  else if(x.1.1==("enumerate":fA)) then
   (match Z.glob x.1.1 with
   |.blt=>if x.2.1.all aAd&&(x.2.1.length==1) then aA (.enum 0,x.2.1) else eA
   |_=>eA)
  else aA (.of,[e])
 |none=>(match JY e with
  |some x=>if x.1==("enumerate":fA)&&x.2.2.1==("start":fA)&&aAd x.2.1&&x.2.2.2==1 then
    (match Z.glob x.1 with
    |.blt=>aA (.enum 1,[x.2.1])
    |_=>eA)
   else eA
  |none=>if ET e then aA (.of,[e]) else eA)
def Ha(h:zT e=aA x):e=.Name x.1 x.2:=by
 unfold zT at h;split at h
 ·cases h;rfl
 ·cases h
def jQ(h:rM e=aA ((f,p),args,pos)):e=.Call (.Name f p) args [] pos:=by
 unfold rM at h;split at h
 ·rename_i fn as a c
  cases a with
  |nil =>
   obtain⟨q,b,h⟩:=RF.mp h;cases h;rw[Ha b]
  |cons=>cases h
 ·cases h
def Jm(h:aA4 e=aA a):∃j q,e=.Constant (.int a) j q:=by
 induction e using FC with
 |Constant c j q=>cases c<;>first | exact oD h | (cases h;exact⟨_,_,rfl⟩)
 |_=>exact oD h
def Va(h:aAS l=aA a):l=[a]:=by
 cases l with
 |nil=>cases h
 |cons b r =>
  cases r with
  |nil=>cases h;rfl
  |cons=>cases h
def jv(h:JY e=aA (f,a,x,c)):∃p j q kp pos,e=.Call (.Name f p) [a] [⟨aA x,.Constant (.int c) j q,kp⟩] pos:=by
 unfold JY at h;split at h
 ·obtain⟨q,g,h⟩:=nF.mp h;obtain⟨b,i,h⟩:=nF.mp h;obtain⟨k,hk,h⟩:=nF.mp h;obtain⟨y,l,h⟩:=nF.mp h;obtain⟨d,hd,h⟩:=RF.mp h;cases h;obtain⟨j,z,e⟩:=Jm hd;obtain⟨ka,m,kp⟩:=k;cases l;cases e;rw[Ha g,Va i,Va hk];exact⟨_,_,_,_,_,rfl⟩
 ·cases h
noncomputable def FY:wA->Bool
 |.Slice eA eA (aA (.UnaryOp .USub (.Constant (.int i) _ _) _)) _=>i==1
 |_=>dA
noncomputable def aAx(a:kF):List fA:=(a.names.filter λp=>p.2==NameKind.free).map (·.1)
noncomputable def aAt(a:kF):List fA:=(a.names.filter λp=>p.2==NameKind.local).map (·.1)
def CC.inner(Z:CC)(j:kF):CC :=
 ⟨aAx j++aAt j,j.names.map λ(n,k)=>if(k==NameKind.free&&Z.names.lookup n==aA .cell) then(n,NameKind.cell) else(n,k),Z.gl,dA⟩
noncomputable def CC.OI(Z:CC):List fA->Option (List Nat)
 |[]=>aA []
 |x::xs=>(Z.N.idxOf? x).bind λi=>(Z.OI xs).map (i :: ·)
def CC.i0(Z:CC)(j:kF):Bool:=(j.kind==ScopeKind.function)&&(j.names.all λp=>p.2 != NameKind.cell)&&(j.names.all λp=>p.2 != NameKind.local||j.names.lookup p.1==aA NameKind.local) &&
 (j.names.all λp=>p.2 != NameKind.free||(j.names.lookup p.1==aA NameKind.free&&(Z.names.lookup p.1==aA NameKind.cell||Z.names.lookup p.1==aA NameKind.free)))&&decide (aAx j++aAt j).Nodup
noncomputable def A8(k:sF)(ci:E)(a:List E):List E:=match k with
 |.of=>[ci]
 |_=>a
noncomputable def bJ(k:sF)(one:Bool):Bool:=match k with
 |.enum _=>!one
 |_=>bA
noncomputable def nHa(iter:wA):Bool:=dA
noncomputable def ux(Z:CC)(iter:wA):Option Nat:=eA
def UG(Z:CC)(a:kF)(c iter:wA)(ci:E)(b cond:List E)(ce:E):E :=
 if Z.i0 a then
  match Z.OI (aAx a),CH (Z.inner a) c,PJ Z iter with
  |some imp,aA (one,is),aA (k,_)=>if nHa iter then(if one==(is.length==1) then .comp ce is .sig [ci] cond imp (aAt a).length else .qA) else match ux Z iter with | some i=>(if one==(is.length==1) then .comp ce is .key [.IE i] cond imp (aAt a).length else .qA) | none=>if one==(is.length==1)&&bJ k one&&k != .enum 1 then .comp ce is k (A8 k ci b) cond imp (aAt a).length else .qA
  |_,_,_=>.qA
 else .qA
mutual
noncomputable def cE(Z:CC):wA->E
 |.Name x _=>GI Z x
 |.Constant c _ _=>gS c
 |.Tuple j _ _=>if j.all aAd then .t (lB Z j) else .qA
 |.List j _=>if j.all aAd then .l (lB Z j) else .qA
 |.Dict n k _=>KW n k (lB Z k) (KP (Wu Z) n k (rS n k (DW Z n) (lB Z k)))
 |.BinOp a op b _=>.yA op (cE Z a) (cE Z b)
 |.UnaryOp .Not a _=>.not (cE Z a)
 |.UnaryOp .USub a _=>.neg (cE Z a)
 |.Compare a [op] [b] _=>if lJ op b then .qA else .CA op (cE Z a) (cE Z b)
 |.Compare a [op,l] [b,c] _=>if lJ l c then .qA else .vF op l (cE Z a) (cE Z b) (cE Z c)
 |.BoolOp .And (a::b::r) _=>.and (cE Z a) (zW Z (b::r))
 |.BoolOp .Or (a::b::r) _=>.or (cE Z a) (CW Z (b::r))
 |.IfExp c a b _=>.qA
 |.Subscript a (.Slice lo s eA _) _=>.sl (cE Z a) (cO Z lo) (cO Z s)
 |.Subscript a i _=>if FY i then .qA else .ix (cE Z a) (cE Z i)
 |.Call (.Name f _) args [] _=>if args.all aAd&&decide (args≠[]) then
   match Z.glob f with
   |.fn g=>.call g (lB Z args)
   |.cls t=>.make f t (lB Z args)
   |.blt=>if f=("isinstance":fA) then OJ Z args (lB Z args)
     else PH f args (lB Z args)
   |_=>.qA
  else .qA
 |.Call (.Attribute (.Name x _) m hB) args [] e=>sP Z x m hB e args (lB Z args)
 |.Call (.Attribute (.Call g (a0::o) u p) m hB) args [] e=>rQ Z m hB e args (cE Z (.Call g (a0::o) u p)) (lB Z args)
 |.Attribute (.Name x _) f _=>.fld (GI Z x) f
 |.ListComp h [⟨q,iter,[],0⟩] d _=>UG Z d q iter (cE Z iter) (OK Z iter) [] (cE (Z.inner d) h)
 |.ListComp h [⟨q,iter,[c],0⟩] d _=>UG Z d q iter (cE Z iter) (OK Z iter) [cE (Z.inner d) c] (cE (Z.inner d) h)
 |_=>.qA
noncomputable def OK(Z:CC):wA->List E
 |.Call _ args _ _=>lB Z args
 |_=>[]
noncomputable def lB(Z:CC):List wA->List E
 |[]=>[]
 |e::a=>cE Z e::lB Z a
noncomputable def DW(Z:CC):List (Option wA)->List E
 |[]=>[]
 |o::os=>cO Z o::DW Z os
noncomputable def zW(Z:CC):List wA->E
 |[]=>.qA
 |[a]=>cE Z a
 |a::b::r=>.and (cE Z a) (zW Z (b::r))
noncomputable def CW(Z:CC):List wA->E
 |[]=>.qA
 |[a]=>cE Z a
 |a::b::r=>.or (cE Z a) (CW Z (b::r))
noncomputable def cO(Z:CC):Option wA->E
 |none=>.UI
 |some e=>CT (cE Z e)
end
end CI
namespace CI
set_option tactic.hygienic true
open PySem PySem.Spec PyProof.Rows L2
def iO(K:kA)(n:Nat)(run:List Sl->BA RV):Sp:=λb H Q _=>b.length=n/\∃(as:List Sl) (G:Hp) (v:RV) (a:List Sl),GA K as (b.map aA) H G/\as.length=n/\run as=some (.ok v,a) /\
 ∀x c d,DA K as (b.map aA) H G a c d->sC K c d (AA a (b.map aA)) (wD H) v x->Q x c
structure FnAt(X:Cx)(K:kA)(x:fA)(n:Nat)(run:List Sl->BA RV):Prop where
 ex:∃(fa:jA) (fd:qG) (ps:List fA) (k:Nat),VD X.prog X.w X.K X.mg X.base uG k fa fd ps (iO K n run)/\eC k X.A/\X.mg x=aA (.ref fa)/\tG X.K (.ref fa)=bA/\aAu X.K fd ps []
def gd(K:kA)(b:List fA):Sp:=λe H Q _=>∃a C d c,e=.ref a::c/\c.length=b.length/\H a=aA (.ins C d [])/\iN K C b/\Q .lA (EA H a (.ins C d (b.zip c)))
structure QV(X:Cx)(K:kA)(x:fA)(ns:List fA):Prop where
 ex:∃(Ca fa:jA) (fd:qG) (ps:List fA),yB K eB x=aA (aA (.ref Ca))/\X.mg x=aA (.ref Ca)/\Mk X.K Ca fa/\iN K Ca ns/\VD X.prog X.w X.K X.mg X.base uG 1 fa fd ps (gd K ns)/\aAu X.K fd ps []
structure ZV(X:Cx)(K:kA)(x:fA)(n:Nat)(run:List Sl->BA RV):Prop where
 ex:True
structure PV(X:Cx)(K:kA)(c m:fA)(n:Nat)(run:List Sl->BA RV):Prop where
 ex:True
structure MethAt(X:Cx)(K:kA)(c m:fA)(n:Nat)(run:List Sl->BA RV):Prop where
 ex:∃(Ca fa:jA) (fd:qG) (ps:List fA) (k:Nat),yB K eB c=aA (aA (.ref Ca))/\Meth X.K Ca m fa/\VD X.prog X.w X.K X.mg X.base uG k fa fd ps (iO K n run)/\eC k X.A/\aAu X.K fd ps []/\aF K Ca
structure kj(K:kA)(D C:jA):Prop where
 a:aN K D C=bA
 b:OO K D "__class__"=bA
 c:jR K D=bA
 d:XE K (.ref D) "__class__"=aA (aA (.builtin "object.__class__"))
 e:Uh K (.builtin "object.__class__") "__get__"=aA (aA (.builtin "getset_descriptor.__get__"))
 f:vi K (.builtin "object.__class__")=aA bA
 g:kI K D (.type "object")=aA bA
structure RR(K:kA)(mg:fA->Option gA)(x:fA)(s n:List fA):Prop where
 ex:∃C,mg x=aA (.ref C)/\(∀c∈s,∀Ca,yB K eB c=aA (aA (.ref Ca))->FR K (.ref Ca) C=bA)/\∀c∈n,∀Ca,yB K eB c=aA (aA (.ref Ca))->kj K Ca C
def A0(K:kA)(n:Nat)(run:List Sl->BA RV):Sp:=λb H _ E=>b.length=n/\∃(as:List Sl) (G:Hp) (x:Exc) (a:List Sl),GA K as (b.map aA) H G/\as.length=n/\run as=some (.ex x,a) /\
 ∀c d C p,DA K as (b.map aA) H G a c d->yB K eB x.cls=aA (aA (.ref C))->zE K C->RL K d C p x->E (.ref C) p c
structure IV(X:Cx)(K:kA)(x:fA)(n:Nat)(run:List Sl->BA RV):Prop where
 ex:∃(fa:jA) (fd:qG) (ps:List fA) (k:Nat),VD X.prog X.w X.K X.mg X.base (JH X.prog X.w) k fa fd ps (A0 K n run)/\eC k X.A/\X.mg x=aA (.ref fa)/\tG X.K (.ref fa)=bA/\aAu X.K fd ps []
structure ExcAt(K:kA)(mg:fA->Option gA)(x:fA):Prop where
 ex:∃C,yB K eB x=aA (aA (.ref C))/\mg x=aA (.ref C)/\zE K C/\vJ K C eA
structure MR(X:Cx)(K:kA)(x:fA):Prop where
 ex:True
structure gP(K:kA)(mg:fA->Option gA)(x:fA)(cs:List fA):Prop where
 ex:∃D,mg x=aA (.ref D)/\(∃i,vJ K D i)/\∀c∈cs,∀C,yB K eB c=aA (aA (.ref C))->kI K C (.ref D)=aA bA
structure SR(K:kA)(mg:fA->Option gA)(x:fA)(s n:List fA):Prop where
 ex:∃D,mg x=aA (.ref D)/\(∀c∈s,∀C,yB K eB c=aA (aA (.ref C))->FR K (.ref C) D=bA)/\∀c∈n,∀C,yB K eB c=aA (aA (.ref C))->aN K C D=bA
def Zi:Option gA->Option Int->Prop
 |some v,aA i=>∃t,v=.int i t
 |none,eA=>True
 |_,_=>False
structure OR(pr:mI)(mg:fA->Option gA)(K:kA)(x:fA)(ks:List fA)(vs:List Int):Prop where
 ex:∃(a:jA) (es:Array DictEntry) (n:Nat),mg x=aA (.ref a)/\(a==sysModules)=dA/\K.lookup a=aA { cls:=.type "dict",data:=.dict es n }/\PySem.W.KeysLit pr es.toList/\ks.length=vs.length/\∀k:fA,Zi (findBy Ji es k) ((ks.zip vs).lookup k)
structure CB(q:Bool)(X:Cx)(K:kA)(P:VA)(C:Calls)(Z:CC):Prop where
 vC:X.K=K
 DG:X.N=Z.N
 nm:X.env.scope.names=Z.names
 nd:Z.N.Nodup
 c:∀x d,Z.gl x=.c d->∃u v,X.mg x=aA u/\aAe v u/\∀G,nA K G d v
 blt:∀x,Z.gl x=.blt->X.mg x=eA
 sub:∀x s n,Z.gl (col x)=.sub s n->RR K X.mg x s n
 bD:∀x s n,Z.gl (col x)=.bD s n->SR K X.mg x s n
 yH:(∀f cs,Z.gl (vS f)=.yH cs->∀c∈cs,∀Ca,yB K eB c=aA (aA (.ref Ca))->sH K Ca f)/\∀x ks vs,Z.gl x=.HS ks vs->OR X.w.params X.mg K x ks vs
 cond:q=bA->X.calm=bA/\X.A.handled=eA/\X.A.units+64<cLine/\(∀x f,Z.gl x=.fn f->FnAt X K x (P f).length (C f))/\(∀x ns,Z.gl x=.cls ns->QV X K x ns) /\
  (∀m tb c f,Z.gl (dot m)=.XD tb->tb.lookup c=aA f->MethAt X K c m (P f).length (C f))/\eC 2 X.A/\((∀x,Z.gl x=.exc->ExcAt K X.mg x)/\∀x,Z.gl x=.JI->MR X K x)/\(∀x cs,Z.gl (cat x)=.KA cs->gP K X.mg x cs)/\((∀x f,Z.gl x=.fn f->IV X K x (P f).length (C f))/\(∀x f,Z.gl x=.obj f->ZV X K x (P f).length (C f))/\∀m tb c f,Z.gl (dot m)=.XD tb->tb.lookup c=aA f->PV X K c m (P f).length (C f))/\∃wH uAa L,X.stack=wH::uAa/\wH.frame=aA L/\X.env.frame=aA L
abbrev OA(X:Cx)(K:kA)(P:VA)(C:Calls)(Z:CC):Prop:=CB bA X K P C Z
section
variable{X:Cx}{K:kA}{P:VA}{C:Calls}{Z:CC}
theorem CB.calm(o:CB bA X K P C Z):X.calm=bA:=(o.cond rfl).1
theorem CB.hh(o:CB bA X K P C Z):X.A.handled=eA:=(o.cond rfl).2.1
def CB.hu(o:CB bA X K P C Z):X.A.units+64<cLine:=(o.cond rfl).2.2.1
theorem CB.fn(o:CB bA X K P C Z):∀x f,Z.gl x=.fn f->FnAt X K x (P f).length (C f):=(o.cond rfl).2.2.2.1
theorem CB.cls(o:CB bA X K P C Z):∀x ns,Z.gl x=.cls ns->QV X K x ns:=(o.cond rfl).2.2.2.2.1
theorem CB.XD(o:CB bA X K P C Z):∀m j c f,Z.gl (dot m)=.XD j->j.lookup c=aA f->MethAt X K c m (P f).length (C f):=(o.cond rfl).2.2.2.2.2.1
def CB.rm(o:CB bA X K P C Z):eC 2 X.A:=(o.cond rfl).2.2.2.2.2.2.1
theorem CB.exc(o:CB bA X K P C Z):∀x,Z.gl x=.exc->ExcAt K X.mg x:=(o.cond rfl).2.2.2.2.2.2.2.1.1
theorem CB.JI(o:CB bA X K P C Z):∀x,Z.gl x=.JI->MR X K x:=(o.cond rfl).2.2.2.2.2.2.2.1.2
theorem CB.KA(o:CB bA X K P C Z):∀x j,Z.gl (cat x)=.KA j->gP K X.mg x j:=(o.cond rfl).2.2.2.2.2.2.2.2.1
def CB.fnX(o:CB bA X K P C Z):∀x f,Z.gl x=.fn f->IV X K x (P f).length (C f):=(o.cond rfl).2.2.2.2.2.2.2.2.2.1.1
theorem CB.obj(o:CB bA X K P C Z):∀x f,Z.gl x=.obj f->ZV X K x (P f).length (C f):=(o.cond rfl).2.2.2.2.2.2.2.2.2.1.2.1
def CB.cz(o:CB bA X K P C Z):∀m j c f,Z.gl (dot m)=.XD j->j.lookup c=aA f->PV X K c m (P f).length (C f):=(o.cond rfl).2.2.2.2.2.2.2.2.2.1.2.2
def CB.tp(o:CB bA X K P C Z):∃wH j L,X.stack=wH::j/\wH.frame=aA L/\X.env.frame=aA L:=(o.cond rfl).2.2.2.2.2.2.2.2.2.2
def OA.of(vC:X.K=K)(DG:X.N=Z.N)(nm:X.env.scope.names=Z.names)(nd:Z.N.Nodup)(calm:X.calm=bA)(hh:X.A.handled=eA)(hu:X.A.units+64<cLine)
  (c:∀x d,Z.gl x=.c d->∃u v,X.mg x=aA u/\aAe v u/\∀G,nA K G d v) (blt:∀x,Z.gl x=.blt->X.mg x=eA) (fn:∀x f,Z.gl x=.fn f->FnAt X K x (P f).length (C f)) (cls:∀x ns,Z.gl x=.cls ns->QV X K x ns)
  (XD:∀m r c f,Z.gl (dot m)=.XD r->r.lookup c=aA f->MethAt X K c m (P f).length (C f)) (rm:eC 2 X.A) (sub:∀x s n,Z.gl (col x)=.sub s n->RR K X.mg x s n) (bD:∀x s n,Z.gl (col x)=.bD s n->SR K X.mg x s n) (yH:(∀f y,Z.gl (vS f)=.yH y->∀c∈y,∀B,yB K eB c=aA (aA (.ref B))->sH K B f)/\∀x F H,Z.gl x=.HS F H->OR X.w.params X.mg K x F H)
  (exc:(∀x,Z.gl x=.exc->ExcAt K X.mg x)/\∀x,Z.gl x=.JI->MR X K x) (KA:∀x y,Z.gl (cat x)=.KA y->gP K X.mg x y) (fnX:(∀x f,Z.gl x=.fn f->IV X K x (P f).length (C f))/\(∀x f,Z.gl x=.obj f->ZV X K x (P f).length (C f))/\∀m r c f,Z.gl (dot m)=.XD r->r.lookup c=aA f->PV X K c m (P f).length (C f)) (tp:∃wH j L,X.stack=wH::j/\wH.frame=aA L/\X.env.frame=aA L):OA X K P C Z :=
 ⟨vC,DG,nm,nd,c,blt,sub,bD,yH,λ_=>⟨calm,hh,hu,fn,cls,XD,rm,exc,KA,fnX,tp⟩⟩
end
structure IA(X:Cx)(K:kA)(P:VA)(C:Calls)(e:wA)(c:E):Prop where
 v:PE X e (tE K P C c)
 t:PT X e (tT K P C c)
 h:PE X e (tH K P C c)
section
variable{K:kA}
def P5(h:∀t U,ev P C t c U=eA)(n:∀i,c≠.v i):IA X K P C e c:=by
 have v:PE X e (tE K P C c):=λcA s Y H Q I a=>by obtain⟨U,G,w,b,r,z,k⟩:=a;rw[h] at z;cases z
 exact⟨v,(λcA s Y H Q I ⟨U,G,w,b,r,z,k⟩=>by rw[h] at z;cases z),nO v n⟩
def mB:IA X K P C e .qA:=P5 (λt U=>rfl) λi z=>nomatch z
def KD(a:CB q X K P C Z)(h:PE X e (tE K P C c))(n:∀i,c≠.v i:=by exact λi z=>nomatch z)(b:∀U,ev P C bA c U=aAh bA (ev P C dA c U):=by exact λU=>rfl)
  (d:∀whole,isTrue e X.env whole=(do let v <- whole;standAt e.pos;holding [v] (truthy v)):=by exact λ_=>rfl):IA X K P C e c:=⟨h,nEa a.vC h b d,nO h n⟩
def VS[BEq O][LawfulBEq O]{l:List O}(h:l.idxOf? x=aA i):l[i]?=aA x:=by
 rw[List.idxOf?,List.findIdx?_eq_some_iff_getElem] at h;obtain⟨a,b,_⟩:=h;rw[pC a];exact congrArg aA (yC b)
def CC.HM(xo:CB q X K P C Z)(h:Z.slot x=aA i):PE X (.Name x pos) (mL i):=by
 unfold CC.slot at h;split at h
 ·cases h
 ·rename_i j;split at h
  ·rename_i m;simp only[OH,jI,not_or,oR] at j;refine DZ (by rw[xo.DG];exact VS h) ?_ j.1.1 j.1.2;unfold CC.v8 at m;simp only[jI,pG] at m;unfold nP;rw[xo.nm];rcases m with (h | h) | h
   ·exact .inl h
   ·exact .inr (.inl h)
   ·exact .inr (.inr h)
  ·cases h
def CC.M7(xo:CB q X K P C Z)(h:Z.LS x=g)(m:g≠.no):Gl X x/\Z.gl (col x)=g/\(x==("__debug__":fA))=dA/\x≠"__name__":=by
 unfold CC.LS at h;split at h
 ·exact absurd h.symm m
 ·rename_i j;split at h
  ·rename_i r;simp only[OH,jI,not_or,oR] at j;refine⟨?_,h,j.1.1,λz=>?_⟩
   ·unfold Gl Env.kindOf;rw[xo.nm];unfold CC.hQ at r;simpa using r
   ·have:=j.2
    rw[z] at this;simp at this
  ·exact absurd h.symm m
def CC.JE(xo:CB q X K P C Z)(h:Z.glob x=g)(m:g≠.no):Gl X x/\Z.gl x=g/\(x==("__debug__":fA))=dA/\x≠"__name__":=by
 unfold CC.glob at h;split at h
 ·exact absurd h.symm m
 ·rename_i j;split at h
  ·rename_i r;simp only[OH,jI,not_or,oR] at j;refine⟨?_,h,j.1.1,λz=>?_⟩
   ·unfold Gl Env.kindOf;rw[xo.nm];unfold CC.hQ at r;simpa using r
   ·have:=j.2
    rw[z] at this;simp at this
  ·exact absurd h.symm m
def wQ(a:CB q X K P C Z)(h:PE X e (tC v))(r:∀G,nA K G d v)(b:∀whole,isTrue e X.env whole=(do let v <- whole;standAt e.pos;holding [v] (truthy v))):IA X K P C e (.c d):=by
 refine KD a (TE.QC h λY H Q q=>?_) (λi z=>nomatch z) (λU=>rfl) b;obtain⟨U,G,w,f,c,z,k⟩:=q;cases z;exact k v H G (DA.refl c) (r G)
def xQ(c:CB q X K P C Z)(x:fA)(pos:xB):IA X K P C (.Name x pos) (GI Z x):=by
 unfold GI;split
 ·rename_i i h;have f:=CC.HM c h (pos:=pos);refine⟨xBa f, ?_,yBa f⟩
  -- a test of a local: looked at
  refine TT.eQ (Yb f λ_=>rfl) λY H Q q=>?_
  obtain⟨U,G,b,t,r,e1,k⟩:=q;obtain⟨u,y,e2,j,l⟩:=Of e1;cases l
  cases w:(U[i]?).bind Sl.get with
  |none=>rw[w] at e2;cases e2
  |some d =>
   rw[w] at e2;simp only[WE,XB,ZE,Out.ok.injEq] at e2;obtain⟨rfl,rfl⟩:=e2;obtain⟨x,g⟩:=r.bound (by rw[w];rfl);exact⟨x,g,b,by rw[c.vC];exact E1 r.sub (r.get w g) j,k H G (DA.refl r)⟩
 ·split
  ·rename_i d hd;obtain⟨m,n,o,A⟩:=CC.JE c hd (λz=>nomatch z);obtain⟨u,v,p,s,e⟩:=c.c x d n;exact wQ c (BZ m p s o) e λ_=>rfl
  ·exact mB
def C_(a:CB q X K P C Z)(c:Const)(k:Nat)(pos:xB):IA X K P C (.Constant c k pos) (gS c):=by
 cases c with
 |none=>exact wQ a rBa (λG=>by simp[nA]) λ_=>rfl
 |bool b=>exact wQ a eBa (λG=>by simp[nA]) λ_=>rfl
 |int i=>exact wQ a yb (λG=>by simp[nA]) λ_=>rfl
 |str s =>
  simp only[gS];split
  ·rename_i h;exact wQ a vBa (λG=>by simp only[nA];exact⟨trivial,h⟩) λ_=>rfl
  ·exact mB
 |_=>exact mB
def iC(h:aAd e=bA)(a:List wA)(env:qJ):QB (e::a) env=(dA,eval e env)::QB a env:=by
 induction e using FC with
 |Starred=>cases h
 |_=>rfl
def lb:PA X [] (bK K P C []):=by
 refine TA.NN VI λY H Q q=>?_
 obtain⟨U,G,a,b,r,e,k⟩:=q;simp only[qE,XB,ZE,Out.ok.injEq] at e;obtain⟨rfl,rfl⟩:=e;exact k [] H G (DA.refl r) oA.nil
def jb(h:IA X K P C e c)(t:PA X j (bK K P C l))(m:aAd e=bA):PA X (e::j) (bK K P C (c::l)):=by
 refine TA.NN (FG h.v t (iC m _ _)) λY H Q q=>?_
 obtain⟨U,G,A,B,r,e,k⟩:=q;rw[qE] at e;obtain⟨v,g,e1,e2⟩:=rB e;obtain⟨b,F,n,o⟩:=rB e2;cases o;refine⟨U,G,v,g,r,e1,λx I J p s=>?_⟩;obtain⟨d,a,u⟩:=p.share s;refine⟨g,d,b,_,a.rA,n,λw y z i f=>?_⟩;exact k (x::w) y z (a.trans i) (oA.cons (nA.mono i.ext.gg _ u) f)
def yAa:PA X [] (IG K P C []):=by
 refine TA.NN VI λY H Q q=>?_
 obtain⟨U,G,a,b,r,e,k⟩:=q;simp only[JC,XB,ZE,Out.ok.injEq] at e;obtain⟨rfl,rfl⟩:=e;exact k [] H G (DA.refl r) rfl
theorem ED.bI(w:∀a,new a->j a):∀{m:List Hd} {xs:List V},ED K H G own new Y m xs->ED K H G own j Y m xs
 |[],_,h=>h
 |h::m,_,r=>by(obtain⟨x,y,rfl,h1,h2,h3⟩:=r;exact⟨x,y,rfl,h1.bI w,ED.bI w h2,h3⟩)
def xAa(h:IA X K P C e c)(t:PA X y (IG K P C A))(B:aAd e=bA):PA X (e::y) (IG K P C (c::A)):=by
 refine TA.NN (FG h.h t (iC B _ _)) λY H Q q=>?_
 obtain⟨U,G,ds,U',r,e,k⟩:=q;rw[JC] at e;obtain⟨v,p,e1,e2⟩:=rB e;obtain⟨i,U2,F,I⟩:=rB e2;cases I;refine⟨U,G,v,p,r,e1,λx J M j hx=>⟨p,M,i,_,j.rA,F,λs N O l f=>?_⟩⟩;refine k (x::s) N O (j.trans l) ⟨x,s,rfl,hx.wait l.ext λa z=>.inl (l.own a z),f.bI λa z=>j.ext.hx a z,λd a hd R Z=>?_⟩;subst hd;obtain⟨b,u,g,o,n,m⟩:=hx;rw[R] at u;cases u;obtain⟨vs,w⟩:=o.there
 have:=(f.rL Z).2.1
 rw[show J a=eA from this] at w;cases w
theorem ED.getAll(r:GA K U Y H G):∀{j:List Hd} {xs:List V} {m:List D},ED K H G own new Y j xs->getAll j U=aA m->mP K H G m xs
 |[],_,_,h,e=>by cases (show _=[] from h);cases e;rfl
 |h::j,_,m,hh,e=>by
  obtain⟨x,y,rfl,h1,h2,h3⟩:=hh;simp only[CI.getAll] at e
  cases q:h.get U with
  |none=>rw[q] at e;cases e
  |some d =>
   rw[q] at e
   cases q2:CI.getAll j U with
   |none=>rw[q2] at e;cases e
   |some B =>
    rw[q2] at e;cases e;exact⟨x,y,rfl,h1.read r q,ED.getAll r h2 q2⟩
def w_(u:OA X K P C Z)(I:IA X K P C a ca)(J:IA X K P C b M):IA X K P C (.BinOp a op b pos) (.yA op ca M):=by
 refine KD u (TE.QC (tBa (Yl u.vC op) I.h J.h) λY H Q q=>?_);obtain⟨U,G,v,o,r,e,k⟩:=q;obtain⟨p,A,e1,e⟩:=rB e;obtain⟨B,U2,e2,e⟩:=rB e;obtain⟨f,rfl⟩:=XG e;refine⟨U,G,p,A,r,e1,λx H1 N F O=>⟨A,N,B,o,F.rA,e2,λy H2 R j ry=>?_⟩⟩
 cases q1:p.get o with
 |none=>rw[q1] at f;cases f
 |some d =>
  cases q2:B.get o with
  |none=>rw[q1,q2] at f;cases f
  |some d2 =>
   rw[q1,q2] at f;simp only[sG] at f;split at f
   ·rename_i s;have l:=O.wait j.ext λa z=>.inl (j.own a z)
    refine⟨R,d,d2,v,j.rA.sub,l.read j.rA q1,ry.read j.rA q2,λho ds hd=>?_,f,λz H3 t=>?_⟩
    ·subst ho;subst hd
     induction p using Hd.casesOn with
     |slot i=>simp[VN] at s
     |val w =>
      induction w using RV.casesOn with
      |sh _=>simp[VN] at s
      |od _=>simp[VN] at s
      |ow w =>
       simp only[Hd.get,RV.d,XB] at q1;subst q1;obtain⟨c,e5,g,⟨vs,o1,o2⟩,n,m⟩:=l;exact⟨c,vs,e5,o1,o2⟩
    ·obtain⟨G3,a3,v3⟩:=(F.trans j).made t;exact k z H3 G3 a3 v3
   ·cases f
def S_(c:OA X K P C Z)(d:IA X K P C a ca):IA X K P C (.UnaryOp .USub a pos) (.neg ca):=by
 refine KD c (TE.QC (wBa yKa d.v) λY H Q q=>?_);obtain⟨U,G,v,l,r,e,k⟩:=q;obtain⟨w,m,e1,e⟩:=rB e;split at e
 ·rename_i i f;cases e;refine⟨U,G,w,_,r,e1,λx g b h j=>?_⟩
  have:=j.lL
  rw[f] at this;cases this.int;exact⟨i,rfl,k _ g b h (by show nA K b (.int (-i)) _;simp[nA])⟩
 ·cases e
def sBa(e:PE X a f):PE X (.UnaryOp .Not a pos) (λY H Q=>f Y H λx c=>∃k,UR X.K x c k/\Q (.bl (!k)) c):=by
 intro cA s Y H Q I h;refine UnaryOp_ (UA (e cA s Y H _ I h) λv g d=>?_);obtain⟨x,i,j,l,m⟩:=d;exact not_of (UA (vf cA g Y i x v (λk c=>Q (.bl (!k)) c) j l m) λb q d=>(by obtain⟨n,o,p⟩:=d;exact⟨.bl (!b),n,o,rfl,p⟩))
def U_(m:OA X K P C Z)(l:IA X K P C a ca):IA X K P C (.UnaryOp .Not a pos) (.not ca):=by
 have v:PE X (.UnaryOp .Not a pos) (tE K P C (.not ca)):=by
  refine TE.QC (sBa l.h) λY H Q q=>?_
  obtain⟨U,G,v,g,r,e,k⟩:=q;obtain⟨w,n,e1,e⟩:=rB e;obtain⟨e2,rfl⟩:=XG e;refine⟨U,G,w,g,r,e1,λx j f c o=>?_⟩
  cases q:w.get g with
  |none=>rw[q] at e2;cases e2
  |some d =>
   rw[q] at e2;simp only[sG] at e2
   cases q2:fI d with
   |none=>rw[q2] at e2;cases e2
   |some b =>
    rw[q2] at e2;cases e2;refine⟨b, ?_,k _ j f c (by show nA K f (.bl _) _;simp[nA])⟩;rw[m.vC];exact E1 c.rA.sub (o.read c.rA q) q2
 refine⟨v, ?_,nO v λi z=>nomatch z⟩;refine TT.eQ (mEa l.t) λY H Q q=>?_
 obtain⟨U,G,b,g,r,e,k⟩:=q;obtain⟨w,n,e1,e⟩:=rB e;split at e
 ·rename_i p;cases e;exact⟨U,G,p,_,r,e1,λj f c=>k j f c⟩
 ·cases e
def jS(r:DA K U Y H G i g j)(n:gE K g j (AA i Y) (wD H) Y k x)(c:DA K i Y g j f h l)(o:gE K h l (AA f Y) (wD g) Y m y)
  (e:((k.get f).bind λd=>(m.get f).bind λe=>DB op d e)=aA b) (Q:VK) (q:Q (.bl b) h):FQ K op x y h Q:=by
 cases q1:k.get f with
 |none=>rw[q1] at e;cases e
 |some d =>
  cases q2:m.get f with
  |none=>rw[q1,q2] at e;cases e
  |some p =>
   rw[q1,q2] at e;exact⟨l,d,p,b,c.rA.sub,(n.wait c.ext λa z=>.inl (c.own a z)).read c.rA q1,o.read c.rA q2,e,q⟩
def Dy(e:(o.map λb=>RV.sh (.bl b))=aA v):∃b,o=aA b/\v=.sh (.bl b):=by
 induction o using XF with
 |none=>cases e
 |some b=>cases e;exact⟨b,rfl,rfl⟩
def dS{x y:Option D}{f:D->D->Option Bool}(e:(x.bind λd=>y.bind λe=>(f d e).map λb=>RV.sh (.bl b))=aA v):∃b,(x.bind λd=>y.bind λe=>f d e)=aA b/\v=.sh (.bl b):=by
 induction x using XF with
 |none=>cases e
 |some d =>
  induction y using XF with
  |none=>cases e
  |some a=>exact Dy e
def z_(j:OA X K P C Z)(p:IA X K P C a ca)(s:IA X K P C b l)(t:lJ op b=dA):IA X K P C (.Compare a [op] [b] pos) (.CA op ca l):=by
 have core:∀Y H (Q:VK),(∃(U:Env) (G:Hp) (b:Bool) (c:Env),GA K U Y H G/\ev P C dA (.CA op ca l) U=some (.ok (.sh (.bl b)),c)/\∀d f,DA K U Y H G c d f->Q (.bl b) d) ->
   RQ (FQ K op) (tH K P C ca) (tH K P C l) Y H Q:=λY H Q q=>by
  obtain⟨U,G,b,c,r,e,k⟩:=q;obtain⟨u,m,e1,e⟩:=rB e;obtain⟨w,F,e2,e⟩:=rB e;obtain⟨n,rfl⟩:=XG e;obtain⟨g,A,I⟩:=dS n;cases I;exact⟨U,G,u,m,r,e1,λx H1 J o M=>⟨m,J,w,c,o.rA,e2,λy N O B R=>jS o M B R A Q (k N O (o.trans B))⟩⟩
 have v:PE X (.Compare a [op] [b] pos) (tE K P C (.CA op ca l)):=by
  refine TE.QC (hBa (xN j.vC j.hu op) p.h s.h t) λY H Q q=>core Y H Q ?_
  obtain⟨U,G,v,c,r,e,k⟩:=q;have e0:=e;obtain⟨u,m,e1,e⟩:=rB e;obtain⟨w,F,e2,e⟩:=rB e;obtain⟨n,rfl⟩:=XG e;obtain⟨g,A,rfl⟩:=dS n;exact⟨U,G,g,c,r,e0,λd f a=>k _ d f a (by show nA K f (.bl _) _;simp[nA])⟩
 refine⟨v, ?_,nO v λi z=>nomatch z⟩;refine TT.eQ (lEa (xN j.vC j.hu op) p.h s.h t) λY H Q q=>core Y H _ ?_
 obtain⟨U,G,g,c,r,e,k⟩:=q;exact⟨U,G,g,c,r,e,λd f a=>⟨g,rfl,k d f a⟩⟩
def A_(f:OA X K P C Z)(I:IA X K P C a ca)(J:IA X K P C b p)(M:IA X K P C c s)(hm:lJ d c=dA):IA X K P C (.Compare a [op,d] [b,c] pos) (.vF op d ca p s):=by
 have core:∀Y H (Q:VK),(∃(U:Env) (G:Hp) (b:Bool) (g:Env),GA K U Y H G/\ev P C dA (.vF op d ca p s) U=some (.ok (.sh (.bl b)),g)/\∀m n,DA K U Y H G g m n->Q (.bl b) m) ->
   W0 (FQ K op) (FQ K d) (tH K P C ca) (tH K P C p) (tH K P C s) Y H Q:=λY H Q q=>by
  obtain⟨U,G,b,g,r,e,k⟩:=q;obtain⟨hx,t,e1,e⟩:=rB e;obtain⟨N,u,e2,e⟩:=rB e;refine⟨U,G,hx,t,r,e1,λx H1 G1 j O=>⟨t,G1,N,u,j.rA,e2,λy H2 R o w=>?_⟩⟩;split at e
  ·cases e
  ·rename_i A;cases e;refine jS j O o w A _ ⟨dA,rfl, ?_⟩;rw[JA CD];exact k H2 R (j.trans o)
  ·rename_i A;obtain⟨hz,U3,e5,e⟩:=rB e;obtain⟨B,rfl⟩:=XG e;obtain⟨l,e7,F⟩:=dS B;cases F;refine jS j O o w A _ ⟨bA,rfl, ?_⟩;rw[MA rfl];exact⟨u,R,hz,g,o.rA,e5,λz H3 G3 a3 rz=>jS (j.trans o) (w.bI λa z=>j.ext.hx a z) a3 rz e7 Q (k H3 G3 ((j.trans o).trans a3))⟩
 have hl:lastMarks [op,d] [b,c]=dA:=hm
 have v:PE X (.Compare a [op,d] [b,c] pos) (tE K P C (.vF op d ca p s)):=by
  refine TE.QC (gBa (xN f.vC f.hu op) (xN f.vC f.hu d) I.h J.h M.h hl) λY H Q q=>core Y H Q ?_
  obtain⟨U,G,v,g,r,e,k⟩:=q;have e0:=e
  have:∃b,v=.sh (.bl b):=by
   obtain⟨hx,t,e1,e⟩:=rB e;obtain⟨N,u,e2,e⟩:=rB e;split at e
   ·cases e
   ·cases e;exact⟨_,rfl⟩
   ·obtain⟨hz,U3,e5,e⟩:=rB e;obtain⟨B,rfl⟩:=XG e;obtain⟨l,e7,F⟩:=dS B;exact⟨l,F⟩
  obtain⟨l,rfl⟩:=this;exact⟨U,G,l,g,r,e0,λm n a=>k _ m n a (by show nA K n (.bl _) _;simp[nA])⟩
 refine⟨v, ?_,nO v λi z=>nomatch z⟩;refine TT.eQ (kEa (xN f.vC f.hu op) (xN f.vC f.hu d) I.h J.h M.h hl) λY H Q q=>core Y H _ ?_
 obtain⟨U,G,l,g,r,e,k⟩:=q;exact⟨U,G,l,g,r,e,λm n a=>⟨l,rfl,k m n a⟩⟩
end
end CI
namespace CI
set_option tactic.hygienic true
open PySem PySem.Spec PyProof.Rows L2
section
variable{K:kA}
def PW.imp(h:PW X e t)(w:∀Y H Q,u Y H Q->t Y H Q):PW X e u:=λj cA s Y H Q I q=>h j cA s Y H Q I (w Y H Q q)
def Kk(q:tE K P C (.and ca g) Y H Q):ff (tE K P C ca) (tE K P C g) Y H Q:=by
 obtain⟨U,G,v,h,r,e,k⟩:=q;obtain⟨w,d,e1,e⟩:=rB e;refine⟨U,G,w,d,r,e1,λx i b c f=>?_⟩;split at e
 ·refine⟨bA,GQ (K:=K) (G:=b) f, ?_⟩;refine sM ?_;exact⟨d,b,v,h,c.rA,e,λy j l m n=>k y j l (c.trans m) (n.bI λa z=>c.ext.hx a z)⟩
 ·refine⟨dA,GQ (K:=K) (G:=b) f, ?_⟩;refine PN ?_;cases e;exact k _ i b c (by show nA K b (.bl _) _;simp[nA])
 ·cases e
def Jk(q:tT K P C (.and ca g) Y H Q):df (tT K P C ca) (tT K P C g) Y H Q:=by
 obtain⟨U,G,b,h,r,e,k⟩:=q;obtain⟨w,c,e1,e⟩:=rB e;split at e
 ·refine⟨U,G,bA,c,r,e1,λf d a=>?_⟩;refine sM ?_;exact⟨c,d,b,h,a.rA,e,λi j l=>k i j (a.trans l)⟩
 ·refine⟨U,G,dA,c,r,e1,λf d a=>?_⟩;refine PN ?_;cases e;exact k f d a
 ·cases e
def tAa(q:tE K P C (.or ca g) Y H Q):jf (tE K P C ca) (tE K P C g) Y H Q:=by
 obtain⟨U,G,v,h,r,e,k⟩:=q;obtain⟨w,d,e1,e⟩:=rB e;refine⟨U,G,w,d,r,e1,λx i b c f=>?_⟩;split at e
 ·refine⟨bA,GQ (K:=K) (G:=b) f, ?_⟩;refine sM ?_;cases e;exact k _ i b c (by show nA K b (.bl _) _;simp[nA])
 ·refine⟨dA,GQ (K:=K) (G:=b) f, ?_⟩;refine PN ?_;exact⟨d,b,v,h,c.rA,e,λy j l m n=>k y j l (c.trans m) (n.bI λa z=>c.ext.hx a z)⟩
 ·cases e
def sAa(q:tT K P C (.or ca g) Y H Q):gf (tT K P C ca) (tT K P C g) Y H Q:=by
 obtain⟨U,G,b,h,r,e,k⟩:=q;obtain⟨w,c,e1,e⟩:=rB e;split at e
 ·refine⟨U,G,bA,c,r,e1,λf d a=>?_⟩;refine sM ?_;cases e;exact k f d a
 ·refine⟨U,G,dA,c,r,e1,λf d a=>?_⟩;refine PN ?_;exact⟨c,d,b,h,a.rA,e,λi j l=>k i j (a.trans l)⟩
 ·cases e
structure wI(X:Cx)(K:kA)(P:VA)(C:Calls)(op:BoolOp)(vs:List wA)(c:E):Prop where
 v:∀pos,PE X (.BoolOp op vs pos) (tE K P C c)
 w:∀pos,PW X (.BoolOp op vs pos) (tT K P C c)
def d_(h:IA X K P C a c):wI X K P C .And [a] c:=⟨λ_=>Ab h.v,λ_=>aAX h.t⟩
def e_(h:IA X K P C a c):wI X K P C .Or [a] c:=⟨λ_=>Ab h.v,λ_=>aAZ h.t⟩
def Oa(h:IA X K P C a ca)(t:wI X K P C .And (b::r) c):wI X K P C .And (a::b::r) (.and ca c) :=
 ⟨λpos=>TE.QC (dBa h.v (t.v pos)) λ_ _ _ q=>Kk q,λpos=>PW.imp (aA1 h.t (t.w pos)) λ_ _ _ q=>Jk q⟩
def Pa(h:IA X K P C a ca)(t:wI X K P C .Or (b::r) c):wI X K P C .Or (a::b::r) (.or ca c) :=
 ⟨λpos=>TE.QC (CZ h.v (t.v pos)) λ_ _ _ q=>tAa q,λpos=>PW.imp (aA5 h.t (t.w pos)) λ_ _ _ q=>sAa q⟩
def wI.Qa(h:wI X K P C op j c)(n:∀i,c≠.v i):IA X K P C (.BoolOp op j pos) c:=⟨h.v pos,(h.w pos).pt,nO (h.v pos) n⟩
def Z_{q:Bool}(d:CB q X K P C Z){a:List wA}{b:List E}{f:Nat}{pos:xB}(h:PA X a (bK K P C b)):IA X K P C (.Tuple a f pos) (.t b):=by
 refine KD d (TE.QC (Bb h) λY H Q q=>?_);obtain⟨U,G,v,o,r,e,k⟩:=q;obtain⟨g,s,e1,e⟩:=rB e;split at e
 ·rename_i i;cases e;refine⟨U,G,g,_,r,e1,λt u w j c=>⟨by rw[c.len];exact aK i,λp l=>?_⟩⟩;obtain⟨m,n⟩:=j.yf l c;exact k _ _ _ m n
 ·cases e
def Ta(b:CB q X K P C Z)(h:PA X c (bK K P C d)):IA X K P C (.List c pos) (.l d):=by
 refine KD b (TE.QC (nBa h) λY H Q q=>?_);obtain⟨U,G,v,n,r,e,k⟩:=q;obtain⟨f,o,e1,e⟩:=rB e;split at e
 ·rename_i g;cases e;refine⟨U,G,f,_,r,e1,λs t u i a=>⟨by rw[a.len];exact aK g,λp j=>?_⟩⟩;obtain⟨l,m⟩:=i.bb j a;exact k _ _ _ l m
 ·cases e
def M_(g:OA X K P C Z)(o:IA X K P C a ca)(p:IA X K P C b s)(t:QR b):IA X K P C (.Subscript a b pos) (.ix ca s):=by
 refine KD g (TE.QC (mBa (Dv g.vC (by have:=g.hu;lia)) o.h p.v t) λY H Q q=>?_);obtain⟨U,G,v,i,r,e,k⟩:=q;obtain⟨j,l,e1,e⟩:=rB e;obtain⟨w,M,e2,e⟩:=rB e;obtain⟨c,rfl⟩:=XG e;refine⟨U,G,j,l,r,e1,λx N u m A=>⟨l,u,w,i,m.rA,e2,λy B n f F=>?_⟩⟩
 cases q1:j.get i with
 |none=>rw[q1] at c;cases c
 |some d =>
  rw[q1] at c;simp only[sG] at c
  cases q2:mQ d w.d with
  |none=>rw[q2] at c;cases c
  |some I =>
   rw[q2] at c;cases c;exact⟨n,d,w.d,I,f.rA.sub,(A.wait f.ext λa z=>.inl (f.own a z)).read f.rA q1,F.lL,q2,λz J=>k z B n (m.trans f) J⟩
def tO(K:kA)(P:VA)(C:Calls)(c:E):TO:=λY H Q=>∃(U:Env) (G:Hp) (o:Option D) (a:Env),GA K U Y H G/\aAP c (ev P C dA c U) U=some (.ok o,a)/\∃i,kL o=aA i/\∀b d,DA K U Y H G a b d->Q i b
def qCa:PO X eA (tO K P C .UI):=λcA s Y H Q I a=>by
 obtain⟨U,G,o,b,r,e,i,e2,k⟩:=a;cases (show aA (Out.ok (eA:Option D),U)=some (.ok o,b) from e);cases e2;exact pCa cA s Y H Q I (k H G (DA.refl r))
def sCa(h:IA X K P C e c):PO X (aA e) (tO K P C (CT c)):=λcA s Y H Q I l=>by
 obtain⟨U,G,o,F,r,e1,i,e2,k⟩:=l
 have key:∀a,CT c=a->r8 a=dA->(∀U,ev P C dA a U=ev P C dA c U\/ev P C dA a U=eA)->tA (model X.prog X.w) X.A (evalPart (aA e) X.env) (λu m=>∃o j,iA X cA Y j m/\pI u o/\Q o j) X.xe s:=λa n g b=>by
  rw[n] at e1;simp only[aAP,g,eJ,if_false] at e1;obtain⟨w,J,f,p⟩:=rB e1;cases p;rcases b U with b | b
  ·rw[b] at f;refine rCa h.v cA s Y H Q I ⟨U,G,w,_,r,f,λx t y z B=>?_⟩;cases q:w.d<;>rw[q] at e2<;>simp only[kL,reduceCtorEq,XB] at e2;subst e2
   have:=B.lL
   rw[q] at this;exact⟨_,this.int,k t y z⟩
  ·rw[b] at f;cases f
 cases c with
 |UI=>exact key .qA rfl rfl λU=>.inr (rfl)
 |_=>exact key _ rfl rfl λU=>.inl rfl
def Y_(g:OA X K P C Z){lo i:Option wA}{ca cl j:E}(u:IA X K P C a ca)(w:PO X lo (tO K P C cl))(hh:PO X i (tO K P C j)):IA X K P C (.Subscript a (.Slice lo i eA p2) pos) (.sl ca cl j):=by
 refine KD g (TE.QC (uBa (tHa g.vC) u.h w hh) λY H Q q=>?_);obtain⟨U,G,v,m,r,e,k⟩:=q;obtain⟨n,o,e1,e⟩:=rB e;obtain⟨l,p,e2,e⟩:=rB e;obtain⟨h,U3,y,e⟩:=rB e;obtain⟨b,rfl⟩:=XG e
 cases q1:n.get m with
 |none=>rw[q1] at b;cases b
 |some d =>
  cases q2:kL l with
  |none=>rw[q1,q2] at b;cases b
  |some A =>
   cases q3:kL h with
   |none=>rw[q1,q2,q3] at b;cases b
   |some B =>
    rw[q1,q2,q3] at b;simp only[sG] at b;refine⟨U,G,n,o,r,e1,λx H1 F s I=>⟨o,F,l,p,s.rA,e2,A,q2,λH2 J t=>⟨p,J,h,m,t.rA,y,B,q3,λH3 M f=>?_⟩⟩⟩;have c:=t.trans f;refine⟨M,d,v,f.rA.sub,(I.wait c.ext λa z=>.inl (c.own a z)).read f.rA q1,b,λz N O=>?_⟩;obtain⟨R,a4,v4⟩:=(s.trans c).made O;exact k z N R a4 v4
def gH(h:a.all aAd=bA)(env:qJ)(pos:xB):(mE pos (QB a env)).any (·.1)=dA/\(mE pos (QB a env)).all (λx=>!x.1)=bA:=by
 induction a with
 |nil=>exact⟨rfl,rfl⟩
 |cons e a b =>
  rw[kC,RA] at h;rw[iC h.1];obtain⟨c,d⟩:=b h.2
  unfold mE at *
  refine⟨?_, ?_⟩
  ·rw[MB,HL,c];rfl
  ·rw[MB,kC,d];rfl
def x_(b:OA X K P C Z)(m:Z.glob f=.fn g)(c:(e::h).all aAd=bA)(n:PA X (e::h) (IG K P C o)):IA X K P C (.Call (.Name f p) (e::h) [] pos) (.call g o):=by
 obtain⟨s,t,u,h4⟩:=CC.JE b m (λz=>nomatch z);obtain⟨fa,fd,ps,k0,F,w,y,hk,A⟩:=(b.fn f g t).ex;rw[kC,RA] at c;refine KD b (TE.QC (fBa F w s y hk A .nil NT n u (iC c.1 _ _) (gH c.2 _ _).1) λY H Q q=>?_);obtain⟨U,G,v,U',r,e,k⟩:=q;obtain⟨B,I,e1,e⟩:=rB e;refine⟨U,G,B,I,r,e1,λxs H1 G1 J M=>?_⟩;obtain⟨as,N,d,i,O,R,_,d4⟩:=sS J M e;rw[DD];refine⟨?_,as,N,v,d,i,O,R,λx j l a hv=>?_⟩
 ·have:=i.len
  rw[vA] at this
  lia
 ·obtain⟨a5,v5⟩:=d4 x j l a hv;exact k x j l a5 v5
def Kl{f:fA}{b:BI}(h:vW f=aA b):nJ f=aA (wW b):=by
 unfold vW at h
 repeat (split at h;· (rename_i a;cases h;subst a;first | exact Gi | decide +kernel | rfl))
 cases h
def Q5(h:yP f=aA b):nJ f=aA (wW b):=Kl h
def uZ(a:OA X K P C Z)(w:Z.glob f=.blt)(x:yP f=aA b)(c:(e::g).all aAd=bA)(i:PA X (e::g) (IG K P C j)):IA X K P C (.Call (.Name f p) (e::g) [] pos) (.bif b j):=by
 obtain⟨l,y,m,n⟩:=CC.JE a w (λz=>nomatch z);have d:=a.blt f y;have o:=Q5 x;rw[kC,RA] at c
 have A:PE X (.Call (.Name f p) (e::g) [] pos) (V0 (qc K b) (IG K P C j)):=by
  have s:=R5 a.vC a.calm a.hh a.rm b
  cases b<;>first
   |exact aO s l d o i n m (iC c.1 _ _) (gH c.2 _ _).1
   |exact wb s l d o i n m (iC c.1 _ _) (gH c.2 _ _).1
 refine KD a (TE.QC A λY H Q q=>?_);obtain⟨U,G,v,t,r,e,k⟩:=q;obtain⟨u,R,e1,e⟩:=rB e;obtain⟨e2,rfl⟩:=XG e;refine⟨U,G,u,t,r,e1,λxs H1 B h F=>?_⟩
 cases q1:getAll u t with
 |none=>rw[q1] at e2;cases e2
 |some I =>
  rw[q1] at e2;refine⟨B,I,v,h.rA.sub,F.getAll h.rA q1,e2,λz J d=>?_⟩;obtain⟨M,N,O⟩:=h.made d;exact k z J M N O
end
end CI
namespace CI
set_option tactic.hygienic true
open PySem PySem.Spec PyProof.Rows L2
section
variable{K:kA}
def EY(h:YH U i=bA):∃a p l,U[i]?=aA (.ow (.l a) p l):=by
 unfold YH at h;split at h
 ·rename_i d p l e;exact⟨d,p,l,e⟩
 ·cases h
def GA.Pf(r:GA K U Y H G)(h:U[i]?=aA (.ow d p l))(hx:Y[i]?=aA (aA (.ref a)))(C:ZF K (EA H a ob) G a d') :
  DA K U Y H G (U.set i (.ow d' p l)) (EA H a ob) G:=by
 obtain⟨b,h1,g,o⟩:=r.ow i d p l h;rw[hx] at h1;cases h1;have O:H a≠eA:=(r.owned ⟨i,d,p,l,h,hx⟩).1
 have F:GA K (U.set i .un) Y (EA H a ob) G:=by
  have ru:=r.unset i;have I:=r.pO h hx;refine⟨ru.len,λb u e=>?_,ru.sh,λj d' x y B=>?_,ru.inj⟩
  ·have:b≠a:=λz=>by subst z;rw[g] at e;cases e
   rw[pB this];exact ru.sub b u e
  ·obtain⟨b,h3,J,h5⟩:=ru.ow j d' x y B;have m:b≠a:=λz=>by subst z;exact I ⟨j,d',x,y,B,h3⟩
   exact⟨b,h3,J,h5.mono (Sm.refl _) λ_ z=>by rw[pB m];exact z⟩
 refine⟨F.CM hx g C (r.pO h hx),⟨Sm.refl _,λb u e nb=>?_,λb e=>?_,λb e M _=>M⟩,UD.set (by rw[h];exact⟨rfl,rfl⟩)⟩
 ·have:b≠a:=λz=>by subst z;exact nb ⟨i,d,p,l,h,hx⟩
  rw[pB this];exact e
 ·by_cases m:b=a
  ·subst m;rw[oC] at e;cases e
  ·rwa[pB m] at e
def GA.write(r:GA K U Y H G)(h:U[i]?=aA (.ow d p l))(hx:Y[i]?=aA (aA (.ref a)))(j:oA K G ds vs) :
  DA K U Y H G (U.set i (.ow (.l ds) p l)) (EA H a (.l vs)) G:=r.Pf h hx ⟨vs,oC,j⟩
def v_(o:OA X K P C Z)(u:Z.slot x=aA i)(z:(hB.endLine==c.line)=bA)(g:aAd a=bA)(A:IA X K P C a ca) :
  IA X K P C (.Call (.Attribute (.Name x p) ("append":fA) hB) [a] [] c) (.app i ca):=by
 have B:PE X (.Name x p) (mL i):=CC.HM o u;have h:PA X [a] (dI (tE K P C ca) cK):=FG A.v VI (iC g _ _);have d:[a].all aAd=bA:=by rw[kC,g];rfl
 refine KD o (TE.QC (ub FU Xg PySem.F.type_list_append Ea B h rfl (by
   rw[RA,RA];exact⟨⟨(gH d _ _).2,rfl⟩,rfl⟩) z (iC g _ _) rfl) λY H Q q=>?_)
 obtain⟨U,G,v,U',r,e,k⟩:=q;replace e:(if YH U i then _ else eA)=_:=e;split at e
 ·rename_i I;obtain⟨d0,J,M,N⟩:=EY I;obtain⟨b,j,g0,O⟩:=r.ow i _ J M N;obtain⟨w,R,e1,e⟩:=rB e;refine⟨.ref b,j,.inl ⟨rfl, ?_⟩,U,G,w,R,r,e1,λy H1 G1 a1 ry=>?_⟩
  ·obtain⟨l,m,_⟩:=O;exact⟨l,zB.of m⟩
  ·split at e
   ·rename_i ds p1 s;split at e
    ·rename_i hz;cases e;obtain⟨G2,n,r2⟩:=a1.share ry;obtain⟨b',f,g1,l,m,t⟩:=n.rA.ow i _ _ _ s;rw[j] at f;cases f
     have:=t.len
     refine⟨b,l,y,rfl,rfl,m, ?_, ?_⟩
     ·have:=aK hz
      lia
     ·have a3:=n.rA.write s j (t.app (oA.cons r2 oA.nil));exact k _ _ _ (n.trans a3) (by show nA K G2 .lA _;simp[nA])
    ·cases e
   ·cases e
 ·cases e
def I_(t:OA X K P C Z)(B:Z.slot x=aA i)(I:(hB.endLine==d.line)=bA)(j:aAd a=bA)(J:IA X K P C a ca) :
  IA X K P C (.Call (.Attribute (.Name x p) ("extend":fA) hB) [a] [] d) (.ext i ca):=by
 have M:PE X (.Name x p) (mL i):=CC.HM t B;have l:PA X [a] (dI (tE K P C ca) cK):=FG J.v VI (iC j _ _);have f:[a].all aAd=bA:=by rw[kC,j];rfl
 refine KD t (TE.QC (ub FU Yg PySem.F.type_list_extend az M l rfl (by
   rw[RA,RA];exact⟨⟨(gH f _ _).2,rfl⟩,rfl⟩) I (iC j _ _) rfl) λY H Q q=>?_)
 obtain⟨U,G,v,U',r,e,k⟩:=q;replace e:(if YH U i then _ else eA)=_:=e;split at e
 ·rename_i N;obtain⟨d0,O,R,h0⟩:=EY N;obtain⟨b,m,g0,o0⟩:=r.ow i _ O R h0;obtain⟨w,U1,e1,e⟩:=rB e;refine⟨.ref b,m,.inl ⟨rfl, ?_⟩,U,G,w,U1,r,e1,λy H1 G1 n ry=>?_⟩
  ·obtain⟨o,s,_⟩:=o0;exact⟨o,zB.of s⟩
  ·split at e
   ·rename_i ds p1 es u;split at e
    ·rename_i hz;cases e;obtain⟨c,rfl,gc,⟨zs,hc,g⟩,z,new⟩:=ry;obtain⟨b',h,g1,o,s,A⟩:=n.rA.ow i _ _ _ u;rw[m] at h;cases h;have l1:=A.len;have l2:=g.len;refine⟨b,c,o,zs,rfl,rfl,s,hc, ?_, ?_⟩
     ·have:=aK hz
      lia
     ·exact k _ _ _ (n.trans (n.rA.write u m (A.app g))) (by show nA K G1 .lA _;simp[nA])
    ·cases e
   ·cases e
 ·cases e
def bFa:V->List V->Hp->VK->Prop:=λx a H Q=>∃l b,x=.ref l/\a=[]/\H l=aA (.l b)/\Q .lA (EA H l (.l []))
def Zy:PR X "list.clear" bFa:=by
 intro cA s Y H x g v i Q I d f h;obtain⟨l,j,rfl,rfl,c,q⟩:=h;cases d;have a:=f.zero;subst a;obtain⟨z,b,n,r,k,e⟩:=I.TN c;refine aP Qg ⟨_,e,rfl⟩ PySem.F.entry_list_clear (PySem.F.args_list_clear_1 _) (gMa l b.toArray n (by rw[EC];lia)) ⟨e, ?_⟩;exact⟨.lA,_,I.pT (its':=[]) c e rfl .nil (pE _),rfl,q⟩
def y_(c:OA X K P C Z){x:fA}{i:Nat}{p hB a:xB}(g:Z.slot x=aA i)(h:(hB.endLine==a.line)=bA) :
  IA X K P C (.Call (.Attribute (.Name x p) ("clear":fA) hB) [] [] a) (.BP i):=by
 refine KD c (TE.QC (vb FU Qg PySem.F.type_list_clear Zy (CC.HM c g) rfl h) λY H Q q=>?_);obtain⟨U,G,v,j,r,e,k⟩:=q;replace e:CP i U U[i]?=_:=e
 cases q0:U[i]? with
 |none=>rw[q0] at e;cases e
 |some sl =>
  rw[q0] at e;unfold CP at e;split at e
  ·rename_i ds l z;cases z;cases e;obtain⟨b,d,m,vs,f,n⟩:=r.ow i _ _ _ q0;refine⟨.ref b,d,.inl ⟨rfl,vs,zB.of f⟩,b,vs,rfl,rfl,f, ?_⟩;exact k _ _ _ (r.write q0 d (ds:=[]) (vs:=[]) oA.nil) (by show nA K G .lA _;simp[nA])
  ·cases e
def W_(f:OA X K P C Z){x:fA}{i:Nat}{p hB a:xB}(j:Z.slot x=aA i)(l:(hB.endLine==a.line)=bA) :
  IA X K P C (.Call (.Attribute (.Name x p) ("pop":fA) hB) [] [] a) (.dO i):=by
 refine KD f (TE.QC (vb FU Gh PySem.F.type_list_pop bz (CC.HM f j) rfl l) λY H Q q=>?_);obtain⟨U,G,v,o,r,e,k⟩:=q;replace e:CQ i U U[i]?=_:=e
 cases q0:U[i]? with
 |none=>rw[q0] at e;cases e
 |some sl =>
  rw[q0] at e;unfold CQ at e;split at e
  ·rename_i ds s z;cases z
   cases q:ds[ds.length-1]? with
   |none=>rw[q] at e;cases e
   |some d =>
    rw[q] at e;cases e;obtain⟨b,g,t,vs,h,c⟩:=r.ow i _ _ _ q0;obtain⟨x,m,n⟩:=c.get q;refine⟨.ref b,g,.inl ⟨rfl,vs,zB.of h⟩,b,vs,x,rfl,rfl,h,by rw[c.len];exact m, ?_⟩;exact k _ _ _ (r.write q0 g (ds:=ds.dropLast) (vs:=vs.dropLast) (by rw[kh,kh,c.len];exact c.take _)) n
  ·cases e
def Q1:EA (EA H p a) p b=EA H p b:=by
 funext q
 by_cases h:q=p
 ·subst h;rw[oC,oC]
 ·rw[pB h,pB h,pB h]
def GA.bO(r:GA K U Y H G)(g:G a=eA)(n:¬AA U Y a):GA K U Y (EA H a o) G:=by
 refine⟨r.len,λb u e=>?_,r.sh,λj m x y B=>?_,r.inj⟩
 ·have:b≠a:=λz=>by subst z;rw[g] at e;cases e
  rw[pB this];exact r.sub b u e
 ·obtain⟨b,h3,C,h5⟩:=r.ow j m x y B;have F:b≠a:=λz=>by subst z;exact n ⟨j,m,x,y,B,h3⟩
  exact⟨b,h3,C,h5.mono (Sm.refl _) λ_ z=>by rw[pB F];exact z⟩
theorem DA.bO(b:DA K U Y H G j x m)(h:H a=eA)(g:m a=eA)(n:¬AA j Y a):DA K U Y H G j (EA x a o) m:=by
 refine⟨b.rA.bO g n,⟨b.ext.gg,λc u e y=>?_,λc e=>?_,b.ext.gn⟩,b.II⟩
 ·have:c≠a:=λz=>by subst z;rw[h] at e;cases e
  rw[pB this];exact b.ext.hh c u e y
 ·by_cases r:c=a
  ·subst r;rw[oC] at e;cases e
  ·rw[pB r] at e;exact b.ext.hx c e
def F_(n:OA X K P C Z)(hk:IA X K P C O R)(hv:IA X K P C ve cv):IA X K P C (.Dict [aA O] [ve] pos) (.HP R cv):=by
 refine KD n (TE.QC (kBa (by have:=n.hu;lia) hk.v hv.v) λY H Q q=>?_);obtain⟨U,G,v,i,r,e,k⟩:=q;obtain⟨w,o,e1,e⟩:=rB e;obtain⟨w2,U2,e2,j⟩:=rB e;unfold uS at j;split at j
 ·rename_i I hs;cases j;intro p a sm;have s:=r.DT a;have gO:=aB.free r.sub a;refine⟨U,G,w,o,((DA.refl r).cH a).rA,e1,λx H1 J c rx=>?_⟩;have t:H1 p=aA (.ext (zC p [] 0)):=c.ext.hh p _ oC s;have M:J p=eA:=c.ext.gn p (by rw[oC];simp) gO s;have l:¬AA o Y p:=λz=>s (c.own p z)
  obtain⟨b,rfl,kk⟩:=qQ hs rx.lL;refine⟨o,J,w2,i,c.rA,e2,λy A N d ry=>?_⟩;have a0:DA K U Y H G i A N:=((DA.refl r).cH a).trans (c.trans d);have B:A p=aA (.ext (zC p [] 0)):=d.ext.hh p _ t l;have hG2:N p=eA:=d.ext.gn p (by rw[t];simp) M l;have f:¬AA i Y p:=λz=>l (d.own p z)
  obtain⟨m,F,r3,s3⟩:=d.n0 ry;have g:IC K m I b:=IC.mono (d.ext.gg.trans s3) kk;have a4:DA K U Y H G i A m:=((DA.refl r).cH a).trans (c.trans F);have h:m p=eA:=F.ext.gn p (by rw[t];simp) M l;refine⟨B,I,b,rfl,by rw[n.vC];exact IC.mono F.rA.sub g,λu ru ep=>?_⟩;refine k _ _ m (a4.bO a h f) ⟨p,rfl,h,⟨_,[y],⟨_,oC⟩, ?_,oA.cons r3 oA.nil⟩,f,a⟩;exact⟨by simp,by rw[KL];simp,sm,λx hx=>by rw[RD.mp hx];exact g,rfl,.cons ru .nil⟩
 ·cases j
def E_(a:OA X K P C Z):IA X K P C (.Dict [] [] pos) .GP:=by
 refine KD a (TE.QC jBa λY H Q q=>?_);obtain⟨U,G,v,g,r,e,k⟩:=q;cases e;intro p b c;obtain⟨d,v1⟩:=(DA.refl r).Ho (ks:=[]) (ds:=[]) (vs:=[]) (xs:=[]) b ⟨Hi,pE _,c,(λx f=>nomatch f),rfl,.nil⟩ oA.nil;exact k _ _ _ d v1
def D_(d:OA X K P C Z){k v:wA}{a b:List E}{pos:xB}(hk:∀c,a=[c]->IA X K P C k c)(e:∀c,b=[c]->IA X K P C v c):IA X K P C (.Dict [aA k] [v] pos) (oS a b):=by
 unfold oS;split
 ·exact F_ d (hk _ rfl) (e _ rfl)
 ·exact mB
def G_(d:OA X K P C Z)(hk:∀k c,b=[aA k]->e=[c]->IA X K P C k c)(f:∀v c,a=[v]->g=[c]->IA X K P C v c):IA X K P C (.Dict b a pos) (rS b a e g):=by
 induction b using LB with
 |nil =>
  induction a using LB with
  |nil=>exact mB
  |cons=>exact mB
 |cons k r =>
  induction r using LB with
  |cons=>exact mB
  |nil =>
   induction k using XF with
   |none=>exact mB
   |some k =>
    induction a using LB with
    |nil=>exact mB
    |cons v r =>
     induction r using LB with
     |cons=>exact mB
     |nil =>
      have i:=D_ (pos:=pos) d (λc h=>hk _ c rfl h) λc h=>f _ c rfl h
      exact i
def vKa(d:CB q X K P C Z)(h:sU Z t=aA ty):PE X t (tC (tU ty))/\aAd t=bA:=by
 obtain⟨x,a,g⟩:=nF.mp h;clear h;obtain⟨pos,rfl⟩:=eL a;have h:O1 Z x=aA ty:=g;clear g;unfold O1 at h;split at h
 ·rename_i e;obtain⟨b,f,i,j⟩:=CC.JE d e (λz=>nomatch z);have c:=d.blt x f;refine⟨?_,rfl⟩;split at h
  ·rename_i a;cases h;subst a;exact ZN b c (u:=.type "int") (by decide +kernel) rfl
  ·split at h
   ·rename_i a;cases h;subst a;exact ZN b c (u:=.type "bool") (by decide +kernel) rfl
   ·split at h
    ·rename_i a;cases h;subst a;exact ZN b c (u:=.type "str") (by decide +kernel) rfl
    ·split at h
     ·rename_i a;cases h;subst a;exact ZN b c (u:=.type "list") (by decide +kernel) rfl
     ·split at h
      ·rename_i a;cases h;subst a;exact ZN b c (u:=.type "tuple") (by decide +kernel) rfl
      ·split at h
       ·rename_i a;cases h;subst a;exact ZN b c (u:=.type "ValueError") (by decide +kernel) rfl
       ·cases h
 ·cases h
def Sa(c:CB q X K P C Z)(s:Z.glob ("isinstance":fA)=.blt)(u:sU Z t=aA ty)(l:aAd a=bA)(w:IA X K P C a ca) :
  IA X K P C (.Call (.Name ("isinstance":fA) p) [a,t] [] pos) (.QI ca [ty]):=by
 obtain⟨y,A,B,F⟩:=CC.JE c s (λz=>nomatch z);have I:=c.blt _ A;obtain⟨pt,m⟩:=vKa c u;have g:PA X [a,t] (dI (tH K P C ca) (dI (tC (tU ty)) cK)):=FG w.h (FG pt VI (iC m _ _)) (iC l _ _);have f:[t].all aAd=bA:=by rw[kC,m];rfl
 have J:=aO (p:=p) (pos:=pos) (fv c.vC ty) y I (by decide +kernel) g F B (iC l _ _) (gH f _ _).1;refine KD c (TE.QC J λY H Q q=>?_);obtain⟨U,G,v,n,r,e,k⟩:=q;obtain⟨o,O,e1,e⟩:=rB e;obtain⟨e2,rfl⟩:=XG e;refine⟨U,G,o,n,r,e1,λx M i j N=>?_⟩
 cases q1:o.get n with
 |none=>rw[q1] at e2;cases e2
 |some d =>
  rw[q1] at e2;simp only[sG,iQ] at e2
  cases q2:HY ty d with
  |none=>rw[q2] at e2;cases e2
  |some b =>
   rw[q2] at e2;simp only[sG,WE,YE,XB] at e2;subst e2;exact⟨i,d,x,b,j.rA.sub,rfl,N.read j.rA q1,q2,k _ M i j (by show nA K i (.bl _) _;simp[nA])⟩
def Nb(h:∀lo a p,b≠.Slice lo a eA p):QR b:=λo i=>by
 induction b using FC with
 |Slice lo a st p =>
  induction st using XF with
  |none=>exact absurd rfl (h lo a p)
  |some s=>rfl
 |_=>rfl
end
end CI
namespace CI
set_option tactic.hygienic true
open PySem PySem.Spec PyProof.Rows L2
section
variable{K:kA}
def R_:IA X K P C e (.aL c):=P5 (λt U=>rfl) λi z=>nomatch z
def V_(f:OA X K P C Z)(w:Z.glob "len"=.blt)(y:Z.glob "set"=.blt)(n:aAd e=bA)(A:IA X K P C e c) :
  IA X K P C (.Call (.Name "len" p) [.Call (.Name "set" B) [e] [] g] [] pos) (.zM c):=by
 obtain⟨i,F,I,J⟩:=CC.JE f w (λz=>nomatch z);obtain⟨M,N,O,R⟩:=CC.JE f y (λz=>nomatch z);have hp:PA X [e] (dI (tH K P C c) cK):=FG A.h VI (iC n _ _);have j:=wb (Rn f.calm) M (f.blt _ N) (by decide +kernel:nJ "set"=aA (.type "set")) hp (pos:=g) (p:=B) R O (iC n _ _) rfl;have l:=aO Kn i (f.blt _ F) Gi (FG j VI rfl) (pos:=pos) (p:=p) J I rfl rfl;refine KD f (TE.QC l λY H Q q=>?_);obtain⟨U,G,v,o,r,e,k⟩:=q;obtain⟨s,U1,e1,e⟩:=rB e;obtain⟨a,rfl⟩:=XG e;refine⟨U,G,s,o,r,e1,λx H1 m i rx=>?_⟩
 cases q1:s.get o with
 |none=>rw[q1] at a;cases a
 |some d =>
  rw[q1] at a;simp only[sG] at a;cases d<;>simp only[vQ,reduceCtorEq] at a;rename_i t
  cases q2:WD t with
  |none=>rw[q2] at a;cases a
  |some is =>
   rw[q2] at a;simp only at a;split at a
   ·rename_i hz;cases a;obtain⟨b,vs,rfl,h3,h4⟩:=(rx.read i.rA q1).l i.rA.sub;have u:=f.vC;refine⟨b,vs,t,is,m,rfl,by rw[u];exact h3,by rw[u];exact h4,q2,hz,λp S hn=>?_⟩;refine⟨p,S,_,rfl,oC, ?_⟩;exact k _ _ m (i.cH hn) (by show nA K m (.int _) _;simp[nA])
   ·cases a
theorem da:∀{a:List fA} {b:List D} {c:List V} {d:D},oA K G b c->(a.zip b).lookup f=aA d->f∈a/\∃v,(a.zip c).lookup f=aA v/\nA K G d v
 |[],_,_,_,_,h=>by simp at h
 |n::a,[],_,_,_,h=>by simp at h
 |n::a,m::b,c,d,r,h=>by
  simp only[oA] at r;obtain⟨v,o,rfl,e,g⟩:=r;rw[lK,oH] at h ⊢
  cases q:(f==n) with
  |true =>
   rw[q] at h;cases h;exact⟨by rw[yC q];simp,v,rfl,e⟩
  |false =>
   rw[q] at h;obtain⟨i,j,k,l⟩:=da g h;exact⟨tD _ i,j,k,l⟩
def J_(g:OA X K P C Z):IA X K P C (.Attribute (.Name x p) f pos) (.fld (GI Z x) f):=by
 have s:=xQ g x p;refine KD g (TE.QC (lBa s.h rfl) λY H Q q=>?_);obtain⟨U,G,v,j,r,e,k⟩:=q;obtain⟨l,M,e1,e⟩:=rB e;obtain⟨b,rfl⟩:=XG e;refine⟨U,G,l,j,r,e1,λx t u i w=>?_⟩
 cases q1:l.get j with
 |none=>rw[q1] at b;cases b
 |some d =>
  rw[q1] at b;simp only[sG] at b;have m:=g.vC;cases d<;>simp only[jX,reduceCtorEq,Option.map_none] at b
  case ins c ns ds =>
   cases q2:(ns.zip ds).lookup f with
   |none=>rw[q2] at b;cases b
   |some N =>
    rw[q2] at b;cases b;obtain⟨a,y,z,O,rfl,R,A,B,n,h5⟩:=(w.read i.rA q1).ins i.rA.sub;obtain⟨F,o,I,J⟩:=da B q2;exact⟨a,y,z,_,o,rfl,A,by rw[m];exact n.cl,by rw[m];exact n.no f F,I,k o t u i J⟩
def Hn(j:X.K=K):fE X (.builtin "isinstance") (λf H Q=>∃a c Da b,f=[.ref a,.ref Da]/\(∃i,H a=aA (.ext (QG a c i)))/\zE K c/\PySem.W.kitOne K (.ref c) (.ref Da)=aA b/\Q (.bl b) H):=by
 intro cA s Y H f m Q I r h;obtain⟨a,c,Da,b,rfl,⟨i,k⟩,g,e,q⟩:=h;subst j;obtain⟨u,w,rfl,l,d⟩:=aAG r;cases l;cases d;exact EL (gZ g) I.fD (I.SA a _ k).1 e (λz=>nomatch z) λtk=>⟨.bl b,H,I.tok tk,rfl,q⟩
theorem Jf:∀{a:List jA} {b:List gA},aAc (a.map V.ref) b->b=a.map Value.ref
 |[],_,.nil=>rfl
 |_::_,_,.cons r t=>by rw[MB,<- Jf t];cases (show _=_ from r);rfl
def Jn(l:X.K=K):fE X (.builtin "isinstance") (λj H Q=>∃(a c p:jA) (d:List jA) (b:Bool),j=[.ref a,.ref p]/\(∃k,H a=aA (.ext (QG a c k)))/\zE K c/\H p=aA (.t (d.map V.ref))/\yR K (.ref c) (d.map Value.ref)=aA b/\Q (.bl b) H):=by
 intro cA s Y H j F Q I r h;obtain⟨a,c,p,d,b,rfl,⟨k,m⟩,g,o,e,q⟩:=h;subst l;obtain⟨u,w,rfl,t,f⟩:=aAG r;cases t;cases f;obtain⟨_,v,x,⟨oc,od,i,y⟩,A,B,n,C⟩:=I.SA p _ o;cases (show oc=_ from B);cases (show i=_ from C);obtain rfl:=Jf x;exact PySem.W.kia_tup (gZ g) I.fD (I.SA a _ m).1 A e (λz=>nomatch z) λtk=>⟨.bl b,H,I.tok tk,rfl,q⟩
inductive sN(K:PySem.W.Frag):List (List Str×List Str)->List Addr->Prop
 |nil:sN K [] []
 |cons {s n:List fA} {D:jA} {sn:List (List fA×List fA)} {Ds:List jA} (hs:∀c∈s,∀C,yB K eB c=aA (aA (.ref C))->FR K (.ref C) D=bA)
   (hn:∀c∈n,∀C,yB K eB c=aA (aA (.ref C))->aN K C D=bA) (t:sN K sn Ds):sN K ((s,n)::sn) (D::Ds)
theorem Rf(a:yB K eB c=aA (aA (.ref d))):∀{f:List (List fA×List fA)} {g:List jA} {b:Bool},sN K f g->qM c f=aA b->yR K (.ref d) (g.map Value.ref)=aA b
 |_,_,b,.nil,e=>by cases e;rfl
 |_,_,b,.cons h i t,e=>by
  simp only[qM] at e;rw[MB];unfold yR;split at e
  ·rename_i j;cases e;rw[Dx (h c (by simpa using j) d a)]
  ·split at e
   ·rename_i k;rw[Ex (i c (by simpa using k) d a)];exact Rf a t e
   ·cases e
theorem qb(c:CB q X K P C Z):∀{b:List wA} {d:List (List fA×List fA)},P0 Z b=aA d->∃a,sN K d a/\PA X b (λY H Q=>Q (a.map V.ref) H)/\a.length=b.length
 |[],_,h=>by cases h;exact⟨[],.nil,VI,rfl⟩
 |e::b,d,h=>by
  obtain⟨x,f,g⟩:=nF.mp (show(aAp e).bind _=_ from h);clear h;obtain⟨p,rfl⟩:=eL f;split at g
  ·rename_i s n f;obtain⟨i,q,rfl⟩:=RF.mp g;obtain⟨a,j,k,l⟩:=qb c q;obtain⟨m,o,r,y⟩:=CC.M7 c f (λz=>nomatch z);obtain⟨D,t,u,w⟩:=(c.bD x s n o).ex;exact⟨D::a,.cons u w j,TA.NN (FG (BZ m t (v:=.ref D) rfl r) k rfl) λY H Q q=>q,by rw[YB,YB,l]⟩
  ·cases g
def y8(z:CB A X K P C Z)(q:tE K P C (.pM ca l) Y H Q):tH K P C ca Y H λx f=>∃a h b g,x=.ref a/\aB g f/\(∃j,f a=aA (.ext (QG a h j)))/\zE K h/\(∀{m:List jA},sN K l m->yR K (.ref h) (m.map Value.ref)=aA b)/\Q (.bl b) f/\∀p o,f p=eA->Q (.bl b) (EA f p o):=by
 obtain⟨U,G,v,n,r,e,k⟩:=q;obtain⟨s,B,e1,e⟩:=rB e;obtain⟨e2,rfl⟩:=XG e;refine⟨U,G,s,n,r,e1,λy f g i u=>?_⟩
 cases q1:s.get n with
 |none=>rw[q1] at e2;cases e2
 |some d =>
  rw[q1] at e2;simp only[sG] at e2;cases d<;>simp only[IY,reduceCtorEq] at e2;rename_i c _
  cases q2:qM c l with
  |none=>rw[q2] at e2;cases e2
  |some b =>
   rw[q2] at e2;cases e2;obtain⟨a,h,j,rfl,g1,g2,g3,_⟩:=(u.read i.rA q1).FE i.rA.sub;exact⟨a,h,b,g,rfl,i.rA.sub,⟨j,g3⟩,g2,λt=>Rf g1 t q2,k _ f g i (by show nA K g (.bl b) _;simp[nA]),λp o w=>k _ _ g (i.cH w) (by show nA K g (.bl b) _;simp[nA])⟩
def Ra(c:CB q X K P C Z)(hf:Z.glob ("isinstance":fA)=.blt)(f:aAd a=bA)(ha:IA X K P C a ca):IA X K P C (.Call (.Name ("isinstance":fA) p) [a,t] [] pos) (jU Z t ca):=by
 induction t using FC with
 |Name x g =>
  show IA X K P C _ (NQ Z x ca);unfold NQ;split
  ·rename_i s n hx;exact mB
  ·rename_i s n hx;obtain⟨i,j,l,m⟩:=CC.JE c hf (λz=>nomatch z);have o:=c.blt _ j;obtain⟨u,v,w,x4⟩:=CC.M7 c hx (λz=>nomatch z);obtain⟨Da,d1,d2,d3⟩:=(c.bD x s n v).ex;have d:PA X [a,.Name x g] (dI (tH K P C ca) (dI (tC (.ref Da)) cK)):=FG ha.h (FG (BZ u d1 rfl w) VI rfl) (iC f _ _);have A:=aO (p:=p) (pos:=pos) (Hn c.vC) i o (by decide +kernel) d m l (iC f _ _) rfl;refine KD c (TE.QC A λY H Q q=>?_);obtain⟨U,G,e,B,r,e1,k⟩:=y8 c q;refine⟨U,G,e,B,r,e1,λy F I J M=>?_⟩;obtain⟨N,O,b,G2,rfl,_,g3,g2,ky,q1,_⟩:=k y F I J M;refine⟨N,O,Da,b,rfl,g3,g2, ?_,q1⟩;have z:=ky (.cons d2 d3 .nil);simp only[MB,cN,yR] at z;split at z
   ·rename_i R;rw[R];exact z
   ·rename_i R;rw[R];exact z
   ·cases z
  ·exact mB
 |Tuple es k0 g =>
  show IA X K P C _ (OQ Z es ca);unfold OQ;split
  ·rename_i sn lu;split
   case isFalse=>exact mB
   rename_i hle;obtain⟨i,j,l,m⟩:=CC.JE c hf (λz=>nomatch z);have o:=c.blt _ j;obtain⟨Ds,u,v,w⟩:=qb c lu;have d:PA X [a,.Tuple es k0 g] (dI (tH K P C ca) (dI (pf λY H Q=>Q (Ds.map V.ref) H) cK)):=FG ha.h (FG (Bb v) VI rfl) (iC f _ _);have A:=aO (p:=p) (pos:=pos) (Jn c.vC) i o (by decide +kernel) d m l (iC f _ _) rfl;refine KD c (TE.QC A λY H Q q=>?_);obtain⟨U,G,e,B,r,e1,k⟩:=y8 c q;refine⟨U,G,e,B,r,e1,λy F I J M=>?_⟩;obtain⟨N,O,b,G2,rfl,_,⟨pp,g3⟩,g2,ky,_,q2⟩:=k y F I J M;refine⟨?_,λt ht=>?_⟩
   ·rw[vA,w,KL];lia
   ·refine⟨N,O,t,Ds,b,rfl,⟨pp,by rw[pB (vE g3 ht)];exact g3⟩,g2,oC,ky u,q2 t _ ht⟩
  ·exact mB
 |_=>exact mB
def P_(b:OA X K P C Z)(u:Z.glob f=.cls a)(st:(e::l).all aAd=bA)(w:PA X (e::l) (bK K P C y)):IA X K P C (.Call (.Name f p) (e::l) [] pos) (.make f a y):=by
 obtain⟨A,B,I,h4⟩:=CC.JE b u (λz=>nomatch z);obtain⟨g,fa,fd,ps,J,N,M,m,F,O⟩:=(b.cls f a B).ex;rw[kC,RA] at st;refine KD b (TE.QC (oBa M F b.rm A N O .nil NT w I (iC st.1 _ _) (gH st.2 _ _).1) λY H Q q=>?_);obtain⟨U,G,v,U',r,e,k⟩:=q;obtain⟨h,U1,e1,e⟩:=rB e;split at e
 ·rename_i R;cases e;refine⟨U,G,h,_,r,e1,λc H1 G1 n s x d nx i ne=>?_⟩;have t:c.length=a.length:=s.len.trans R;rw[DD];refine⟨x,g,d,c,rfl,t,oC,m,rfl, ?_⟩;rw[Q1];have j:(EA H1 d (.own x)) x=eA:=by rw[pB (sD ne)];exact nx
  have a2:=(n.cH (o:=.own x) i).RJ (o:=.ins g d (a.zip c)) j;refine k (.ref x) _ _ a2 ?_;show nA K _ (.ins f a h) _;simp only[nA];exact⟨x,g,d,c,rfl,J,oC,oA.mono (Sm.laid (aB.free n.rA.sub nx)) h s,m,t.symm⟩
 ·cases e
theorem ea:∀{a:List fA} {b:List O},a.contains f=dA->(a.zip b).lookup f=eA
 |[],_,_=>by simp
 |n::a,[],_=>by simp
 |n::a,v::b,h=>by(rw[Kh,V2] at h;rw[lK,oH,h.1];exact ea h.2)
def xa(st:b.all aAd=bA)(d:(hB.endLine==pos.line)=bA)(g:b.length<29)(env:qJ)(h:attributeBase o m env (eval o env)=eval o env:=by rfl):eval (.Call (.Attribute o m hB) b [] pos) env=(do
   let e <- eval o env
   standAt hB.atName
   let (f,first) <- holding [e] (getMethod e m (do return (<- importBound o env).getD bA))
   callWith pos f first (mE pos (QB b env)) (backToKw pos (keywordEach [] env))):=by
 rw[arm_eval_Call]
 have a:methodCallForm (b.length+([]:List DV).length) (mE pos (QB b env)) (backToKw pos (keywordEach [] env))=bA:=by
  unfold methodCallForm;rw[(gH st env pos).2];simp only[mJ]
  have:(backToKw pos (keywordEach [] env))=[]:=rfl
  rw[this];simp
  lia
 have c:methodCallPos bA o env hB pos=pure pos:=by unfold methodCallPos;simp[d]
 unfold methodCall;rw[a];unfold calleeOf;simp only[if_true,c,h];rfl
def Ky{Y:St}{H:Hp}{Q:VK}{U j n:Env}{G:Hp}{i:Nat}{f:String}{m:fA}{w:List E}{c:List Hd}{l:Hd}{v:RV}{a y A:jA}{fs:List (fA×V)}(o:Y[i]?=aA (aA (.ref a)))(N:H a=aA (.ins y A fs))(O:fs.lookup m=eA)(r:GA K U Y H G)(e1:JC P C w U=some (.ok c,j))(e:ID (P f) (C f) (l::c) j=some (.ok v,n))
  (p:∀g h,DA K U Y H G j g h->gE K g h (AA j Y) (wD H) Y l (.ref a)) (q:∀d,l≠.val (.ow d)) (k:∀x g h,DA K U Y H G n g h->sC K g h (AA n Y) (wD H) v x->Q x g) (t:TA) (R:∀Y H Q,IG K P C w Y H Q->t Y H Q) :
  A1 y m (iO K (P f).length (C f)) [] (λ_ _ _=>False) (mL i) t Y H Q:=by
 refine⟨.ref a,o,a,A,_,rfl,N,O,R _ _ _ ⟨U,G,c,j,r,e1,λB g h F X=>?_⟩⟩;have s:ED K g h (AA j Y) (wD H) Y (l::c) (.ref a::B):=⟨.ref a,B,rfl,p g h F,X,λd b z=>absurd z (q _)⟩
 obtain⟨as,Z,u,I,d2,d3,_,d4⟩:=sS F s e;dsimp only;rw[DD];refine⟨?_,as,Z,v,u,I,d2,d3,λx J M a hv=>?_⟩
 ·have:=I.len
  rw[vA] at this
  lia
 ·obtain⟨a5,v5⟩:=d4 x J M a hv;exact k x J M a5 v5
def Q_(N:OA X K P C Z)(hi:Z.slot x=aA i)(hm:Z.gl (dot m)=.XD O)(st:n.all aAd=bA)(o:(hB.endLine==pos.line)=bA)(t:n.length<29)(ha:PA X n (IG K P C R))(hz:n=[]->R=[]):IA X K P C (.Call (.Attribute (.Name x p) m hB) n [] pos) (.ZH i m O R):=by
 have hp:=CC.HM N hi (pos:=p);refine KD N (λcA s Y H Q I q=>?_);obtain⟨U,G,v,U',r,e,k⟩:=q
 have u:∀{c:fA} {g:List fA} {ds:List D} {h0:Hd} {a y dx:jA} {vs:List V},(match DF c g m O with | some f=>(JC P C R U).bind λB h=>ID (P f) (C f) (h0::B) h | none=>eA)=some (.ok v,U')->Y[i]?=aA (aA (.ref a))->H a=aA (.ins y dx (g.zip vs))->yB K eB c=aA (aA (.ref y))->iN K y g ->
   (∀h H1 G1,DA K U Y H G h H1 G1->gE K H1 G1 (AA h Y) (wD H) Y h0 (.ref a))->(∀d,h0≠.val (.ow d))->tA (model X.prog X.w) X.A (eval (.Call (.Attribute (.Name x p) m hB) n [] pos) X.env) (EP X cA Y Q) X.xe s:=by
  intro c g ds h0 a y dx vs e j hH h1 h4 gu V7;split at e
  ·rename_i f b;unfold DF at b;split at b
   ·cases b
   ·rename_i rY;obtain⟨Cb,fa,fd,ps,k0,hn,M,F,hr,hb,P7⟩:=(N.XD m O c f hm b).ex;rw[hn] at h1;cases h1;obtain⟨hd0,h,e1,e⟩:=rB e;have hK:=N.vC;have J:aF X.K y:=by rw[hK];exact h4.cl
    have fin:=Ky (m:=m) j hH (ea (by simpa using rY)) r e1 e (gu h) V7 k
    induction n using LB with
    |nil =>
     cases hz rfl;refine qBa hp J M F hr hb .nil NT (xa st o t _) cA s Y H Q I (fin _ λY' H' Q' z=>?_);obtain⟨U2,G2,hs2,U3,r2,e2,k2⟩:=z;rw[JC] at e2;cases e2;exact k2 [] H' G2 (DA.refl r2) rfl
    |cons e0 es0 =>
     have VC:=st;rw[kC,RA] at st;exact pBa hp J M F hr hb .nil NT ha (iC st.1 _ _) (gH st.2 _ _).1 (xa VC o t _) cA s Y H Q I (fin _ λ_ _ _ z=>z)
  ·cases e
 replace e:(match U[i]? with | some (.sh (.ins c g ds))=>(match DF c g m O with | some f=>(JC P C R U).bind λB h=>ID (P f) (C f) (.val (.sh (.ins c g ds))::B) h | none=>eA) | _=>eA)=some (.ok v,U'):=e;split at e
 ·rename_i c g ds B;obtain⟨x0,j,l⟩:=r.sh i _ B;have rx1:=l;simp only[nA] at l;obtain⟨a,Cb,dx,vs,rfl,h1,h2,h3,h4,h5⟩:=l
  exact u (ds:=ds) e j (r.sub _ _ h2) h1 h4 (λ_ H1 G1 a1=>nA.mono a1.ext.gg _ rx1) λd z=>nomatch z
 ·cases e
end
end CI
namespace CI
set_option tactic.hygienic true
open PySem PySem.Spec PyProof.Rows L2
section
variable{X:Cx}{K:kA}{P:VA}{C:Calls}{Z:CC}
def j'(b:OA X K P C Z){x m:fA}{p hB a:xB}:IA X K P C (.Call (.Attribute (.Name x p) m hB) [] [] a) (R1 Z x m hB a):=mB
end
section
variable{X:Cx}{K:kA}{P:VA}{C:Calls}{Z:CC}
def H_(e:OA X K P C Z)(f:∀v∈a,IA X K P C v (cE Z v))(d:IA X K P C (.Dict b a pos) c):IA X K P C (.Dict b a pos) (KW b a (lB Z a) c):=d
def u_(c:OA X K P C Z){x m:fA}{a:wA}{p hB b:xB}:IA X K P C (.Call (.Attribute (.Name x p) m hB) [a] [] b) (rP Z x m hB b a):=by
 unfold rP
 all_goals exact mB
end
end CI
namespace CI
set_option tactic.hygienic true
open PySem PySem.Spec PyProof.Rows L2
structure EB(K:kA)(U:Env)(Y:St)(H G:Hp)(U':Env)(Y':St)(H' G':Hp):Prop where
 rA:GA K U' Y' H' G'
 ext:Ext (AA U Y) H G H' G'
 own:∀a,AA U' Y' a->AA U Y a\/H a=eA
 un:∀i:Nat,U'[i]?=aA .un->U[i]?=aA .un/\Y'[i]?=Y[i]?
 pin:∀(i:Nat) d l,U[i]?=aA (.ow d bA l)->Y'[i]?=Y[i]?/\∃d',U'[i]?=aA (.ow d' bA l)
 len:U'.length=U.length
section
variable{K:kA}
theorem EB.refl(r:GA K U Y H G):EB K U Y H G U Y H G:=⟨r,Ext.refl,λ_ h=>.inl h,λ_ h=>⟨h,rfl⟩,λ_ d _ h=>⟨rfl,d,h⟩,rfl⟩
theorem DA.s(r:GA K U Y H G)(a:DA K U Y H G j y B):EB K U Y H G j Y y B:=by
 refine⟨a.rA,a.ext,λx h=>.inl (a.own x h),λi h=>⟨?_,rfl⟩,λi d l h=>⟨rfl, ?_⟩, ?_⟩
 ·have:=a.II i
  rw[h] at this
  cases e:U[i]? with
  |none=>rw[e] at this;exact this.elim
  |some s=>rw[e] at this;cases s<;>first | rfl | exact this.elim
 ·have:=a.II i
  rw[h] at this
  cases e:j[i]? with
  |none=>rw[e] at this;exact this.elim
  |some s =>
   rw[e] at this
   cases s with
   |ow m C F=>obtain⟨rfl,rfl⟩:=this;exact⟨m,rfl⟩
   |sh m=>exact absurd (show bA=dA from this) (by simp)
   |_=>exact this.elim
 ·rw[a.rA.len,r.len]
theorem EB.trans(a:EB K U Y H G m r y B)(b:EB K m r y B C F I J):EB K U Y H G C F I J:=by
 refine⟨b.rA,a.ext.trans a.own b.ext,λx h=>?_,λi h=>?_,λi d l h=>?_,b.len.trans a.len⟩
 ·rcases b.own x h with z | z
  ·exact a.own x z
  ·exact .inr (a.ext.hx x z)
 ·obtain⟨h1,h2⟩:=b.un i h;obtain⟨h3,j⟩:=a.un i h1;exact⟨h3,h2.trans j⟩
 ·obtain⟨h1,M,h2⟩:=a.pin i d l h;obtain⟨h3,j⟩:=b.pin i M l h2;exact⟨h3.trans h1,j⟩
def vG(K:kA)(U:Env)(Y:St)(H G:Hp)(e:Env)(D:Ends):Fl->Prop
 |.nx=>∀c b d,EB K U Y H G e c b d->D.nx c b
 |.bk=>∀c b d,EB K U Y H G e c b d->D.bk c b
 |.ct=>∀c b d,EB K U Y H G e c b d->D.ct c b
 |.rt v=>∀x c b d,EB K U Y H G e c b d->sC K b d (AA e c) (λa=>AA U Y a\/H a=eA) v x->D.rt x b
 |.ex _=>False
def vG.pre{D:Ends}(a:EB K U Y H G B C F I)(h:vG K U Y H G J D y):vG K B C F I J D y:=by
 induction y using Fl.casesOn with
 |nx=>exact λj m r b=>h j m r (a.trans b)
 |bk=>exact λj m r b=>h j m r (a.trans b)
 |ct=>exact λj m r b=>h j m r (a.trans b)
 |rt v=>exact λx j m r b M=>h x j m r (a.trans b) (M.bI λc z=>by
   rcases z with z | z
   ·exact a.own c z
   ·exact .inr (a.ext.hx c z))
 |ex e=>exact h
end
def tS(K:kA)(P:VA)(C:Calls)(W:Nat)(c:S):TS:=λD Y H=>∃(U:Env) (G:Hp) (a:Fl) (b:Env),GA K U Y H G/\ex P C W c U=aA (a,b)/\vG K U Y H G b D a
def xE(K:kA)(P:VA)(C:Calls)(W:Nat)(c:List S):TS:=λD Y H=>∃(U:Env) (G:Hp) (a:Fl) (b:Env),GA K U Y H G/\KA P C W c U=aA (a,b)/\vG K U Y H G b D a
def TS.sE(h:PS X e t)(w:∀D Y H,u D Y H->t D Y H):PS X e u:=λcA s Y H D I q=>h cA s Y H D I (w D Y H q)
def TS.vY(h:dC X e t)(w:∀D Y H,u D Y H->t D Y H):dC X e u:=λcA s Y H D I q=>h cA s Y H D I (w D Y H q)
section
variable{X:Cx}{K:kA}
def UH{r:BA O}(h:r.cC f=aA (b,U))(n:∀e,b≠.ex e):∃a c,r=some (.ok a,c)/\f a c=aA (b,U):=by
 unfold BA.cC at h;split at h
 ·cases h
 ·cases h;exact absurd rfl (n _)
 ·exact⟨_,_,rfl,h⟩
def vG.ne{D:Ends}(h:vG K U Y H G m D j):∀e,j≠.ex e:=λe z=>by subst z;exact h
def Wb:dC X [] (xE K P C W []):=TS.vY Vb λD Y H a=>by
 obtain⟨U,G,b,c,r,e,k⟩:=a;simp only[KA,XB,ZE] at e;obtain⟨rfl,rfl⟩:=e;exact k Y H G (EB.refl r)
def Tb{st:QA}{aAl:List QA}(f:PS X st (tS K P C W c))(g:dC X aAl (xE K P C W h)):dC X (st::aAl) (xE K P C W (c::h)):=by
 refine TS.vY (KZ f g) λD Y H i=>?_
 obtain⟨U,G,j,l,r,e,k⟩:=i;rw[KA] at e
 cases q:ex P C W c U with
 |none=>rw[q] at e;cases e
 |some y =>
  obtain⟨a,b⟩:=y;rw[q] at e;refine⟨U,G,a,b,r,q, ?_⟩
  induction a using Fl.casesOn with
  |nx=>exact λn o m d=>⟨b,m,j,l,d.rA,e,k.pre d⟩
  |bk=>cases e;exact k
  |ct=>cases e;exact k
  |rt v=>cases e;exact k
  |ex x=>cases e;exact k
def GA.uIa(r:GA K U Y H G)(e:store i v U=aA F)(h:sC K H G (AA U Y) new v x) :
  GA K F (Y.set i (aA x)) H G/\(∀a,AA F (Y.set i (aA x)) a->AA U Y a\/new a)/\(∀j:Nat,F[j]?=aA .un->U[j]?=aA .un/\(Y.set i (aA x))[j]?=Y[j]?) /\
  (∀(j:Nat) d l,U[j]?=aA (.ow d bA l)->(Y.set i (aA x))[j]?=Y[j]?/\∃d',F[j]?=aA (.ow d' bA l))/\F.length=U.length:=by
 have key:∃sl,i<U.length/\F=U.set i sl/\(∀d l,U[i]?≠aA (.ow d bA l))/\((∃d,v=.sh d/\sl=.sh d)\/∃d,v=.ow d/\sl=.ow d dA dA):=by
  unfold store at e;split at e
  ·cases e
  ·cases e
  ·cases e
  ·rename_i s h1 h2 h3;have O:∀d l,U[i]?≠aA (.ow d bA l):=λd l z=>by rw[h3] at z;cases z;exact h1 _ _ rfl
   have P:=(BD.mp h3).1
   induction v using RV.casesOn with
   |sh d=>cases e;exact⟨_,P,rfl,O,.inl ⟨d,rfl,rfl⟩⟩
   |ow d=>cases e;exact⟨_,P,rfl,O,.inr ⟨d,rfl,rfl⟩⟩
   |od d=>cases e
 obtain⟨sl,hi,rfl,np,I⟩:=key;have Q:i<Y.length:=by rw[<- r.len];exact hi
 have hx:(Y.set i (aA x))[i]?=aA (aA x):=sI Q;have ne:∀j:Nat,j≠i->(Y.set i (aA x))[j]?=Y[j]?:=λj h=>PD (λz=>h z.symm)
 have y:∀(j:Nat) s,(U.set i sl)[j]?=aA s->(j=i/\s=sl)\/(j≠i/\U[j]?=aA s):=λj s h=>by
  rcases HG h with ⟨h1,h2,_⟩ | h
  ·exact .inl ⟨h1,h2⟩
  ·exact .inr h
 refine⟨⟨by rw[oE,oE];exact r.len,r.sub,λj d h1=>?_,λj d p l h1=>?_,λj k d p l d' p' l' a h1 h2 h3 J=>?_⟩,λa ⟨j,d,p,l,h1,h2⟩=>?_,λj h1=>?_,λj d l h1=>?_,by rw[oE]⟩
 ·rcases y j _ h1 with ⟨rfl,z⟩ | ⟨C,z⟩
  ·rcases I with ⟨B,rfl,rfl⟩ | ⟨B,rfl,rfl⟩
   ·cases z;exact⟨x,hx,h⟩
   ·cases z
  ·rw[ne j C];exact r.sh j d z
 ·rcases y j _ h1 with ⟨rfl,z⟩ | ⟨C,z⟩
  ·rcases I with ⟨B,rfl,rfl⟩ | ⟨B,rfl,rfl⟩
   ·cases z
   ·cases z;obtain⟨a,rfl,g,o,_,_⟩:=h;exact⟨a,hx,g,o⟩
  ·rw[ne j C];exact r.ow j d p l z
 ·rcases y j _ h1 with ⟨rfl,z⟩ | ⟨C,z⟩
  ·rcases y k _ h2 with ⟨rfl,M⟩ | ⟨R,M⟩
   ·rfl
   ·rcases I with ⟨B,rfl,rfl⟩ | ⟨B,rfl,rfl⟩
    ·cases z
    ·obtain⟨b,rfl,g,o,no,_⟩:=h;rw[hx] at h3;cases h3;rw[ne k R] at J;exact absurd ⟨k,_,_,_,M,J⟩ no
  ·rcases y k _ h2 with ⟨rfl,M⟩ | ⟨R,M⟩
   ·rcases I with ⟨B,rfl,rfl⟩ | ⟨B,rfl,rfl⟩
    ·cases M
    ·obtain⟨b,rfl,g,o,no,_⟩:=h;rw[hx] at J;cases J;rw[ne j C] at h3;exact absurd ⟨j,_,_,_,z,h3⟩ no
   ·rw[ne j C] at h3;rw[ne k R] at J;exact r.inj _ _ _ _ _ _ _ _ _ z M h3 J
 ·rcases y j _ h1 with ⟨rfl,z⟩ | ⟨C,z⟩
  ·rcases I with ⟨B,rfl,rfl⟩ | ⟨B,rfl,rfl⟩
   ·cases z
   ·obtain⟨b,rfl,g,o,no,m⟩:=h;rw[hx] at h2;cases h2;exact .inr m
  ·rw[ne j C] at h2;exact .inl ⟨j,d,p,l,z,h2⟩
 ·rcases y j _ h1 with ⟨rfl,z⟩ | ⟨C,z⟩
  ·rcases I with ⟨B,rfl,rfl⟩ | ⟨B,rfl,rfl⟩<;>cases z
  ·exact⟨z,ne j C⟩
 ·by_cases Z:j=i
  ·subst Z;exact absurd h1 (np d l)
  ·exact⟨ne j Z,d,by rw[PD (λz=>Z z.symm)];exact h1⟩
theorem DA.store(r:GA K U Y H G)(a:DA K U Y H G y B C)(e:store i v y=aA F)(h:sC K B C (AA y Y) (wD H) v x):EB K U Y H G F (Y.set i (aA x)) B C:=by
 obtain⟨h1,h2,h3,I,h5⟩:=a.rA.uIa e h;have s:=DA.s r a;refine⟨h1,a.ext,λb z=>?_,λj z=>?_,λj d l z=>?_,h5.trans s.len⟩
 ·rcases h2 b z with z | z
  ·exact s.own b z
  ·exact .inr z
 ·obtain⟨J,m⟩:=h3 j z;obtain⟨M,P⟩:=s.un j J;exact⟨M,m⟩
 ·obtain⟨_,O,m⟩:=s.pin j d l z;exact I j O l m
def GA.M0(r:GA K U Y H G)(e:store i (.sh d) U=aA j)(h:nA K G d x):EB K U Y H G j (Y.set i (aA x)) H G :=
 DA.store r (DA.refl r) e h
def gB(K:kA)(one:Bool)(is:List Nat):TG:=λv Y H Q=>∃(U:Env) (G:Hp) (d:D) (a:Env),GA K U Y H G/\nA K G d v/\wB one is d U=aA a/\∀b,EB K U Y H G a b H G->Q b H
def aQ(K:kA)(is:List Nat):qN:=λd Y H Q=>∃(U:Env) (G:Hp) (a:List D) (b:Env),GA K U Y H G/\oA K G a d/\aAq is a U=aA b/\∀c,EB K U Y H G b c H G->Q c H
def zBa(h:PG X a (kM i)):PG X a (gB K bA [i]):=by
 intro cA s Y H v u Q I b c;obtain⟨U,G,d,f,r,hd,e,k⟩:=c;exact h cA s Y H v u Q I b (k _ (r.M0 (by simpa only[wB] using e) hd))
def fCa:AJ X [] (aQ K []):=λcA s Y H g b Q I c f=>by
 obtain⟨U,G,a,h,r,hd,e,k⟩:=f
 induction a using LB with
 |nil =>
  simp only[aAq,XB] at e;subst e;simp only[oA] at hd;subst hd;exact eCa cA s Y H [] b Q I c ⟨rfl,k Y (EB.refl r)⟩
 |cons d a=>simp[aAq] at e
def dCa(h:PG X e (kM i))(t:AJ X a (aQ K is))(g:(mH (e::a) X.env).map (·.2)=assign e X.env::(mH a X.env).map (·.2)):AJ X (e::a) (aQ K (i::is)) :=
 λcA s Y H y j Q I l m=>by
  obtain⟨U,G,b,n,r,hd,e,k⟩:=m
  induction b using LB with
  |nil=>simp[aAq] at e
  |cons d b =>
   simp only[aAq] at e
   cases q:store i (.sh d) U with
   |none=>rw[q] at e;cases e
   |some o =>
    rw[q] at e;simp only[oA] at hd;obtain⟨v,c,rfl,p,u⟩:=hd;have f:=r.M0 q p;exact cCa h t g cA s Y H (v::c) j Q I l ⟨v,c,rfl,o,G,b,n,f.rA,u,e,λw x=>k w (f.trans x)⟩
theorem Fd:∀{is:List Nat} {a:List D} {U b:Env},aAq is a U=aA b->a.length=is.length
 |[],[],_,_,_=>rfl
 |[],_::_,_,_,e=>by simp[aAq] at e
 |_::_,[],_,_,e=>by simp[aAq] at e
 |i::is,d::a,U,b,e=>by
  simp only[aAq] at e
  cases q:store i (.sh d) U with
  |none=>rw[q] at e;cases e
  |some c=>rw[q] at e;simp[Fd e]
def Fb(f:OA X K P C Z)(t:AJ X b (aQ K is))(h:(mH b X.env).length=is.length)(c:(mH b X.env).findIdx? (·.1)=eA):PG X (.Tuple b p pos) (gB K dA is) :=
 λcA s Y H v u Q I i j=>by
  obtain⟨U,G,d,l,r,hd,e,k⟩:=j
  induction d using D.casesOn with
  |t m =>
   simp only[wB] at e;simp only[nA] at hd;obtain⟨a,n,rfl,o,g⟩:=hd;refine bCa f.calm t h c cA s Y H (.ref a) u Q I i ⟨a,n,rfl, ?_, ?_,U,G,m,l,r,g,e,k⟩
   ·rw[f.vC];exact cI r.sub o
   ·rw[g.len];exact Fd e
  |_=>simp only[wB,reduceCtorEq] at e
end
end CI
namespace CI
set_option tactic.hygienic true
open PySem PySem.Spec PyProof.Rows L2
noncomputable def kQ(Z:CC)(it:wA)(body:List QA)(a:List E):List E:=a
def WT(Z:CC)(x:fA)(args:List wA):S:=if args.all aAd&&(decide (args≠[])&&decide (args.length<=100)) then(match Z.glob x with | .exc=>.DM x (lB Z args) | .JI=>.VZ x (lB Z args) | _=>.qA) else .qA
def HQ(Z:CC)(e:wA):S:=match rM e with
 |some x=>WT Z x.1.1 x.2.1
 |none=>.qA
def kO(Z:CC)(e:wA):Option E:=match aAp e with
 |some x=>aA (GI Z x)
 |none=>(rM e).bind λy=>match y.2.1 with
  |[a,t]=>(aAp a).bind λx=>if y.1.1=("isinstance":fA) then(match Z.glob ("isinstance":fA) with
   |.blt=>aA (match sU Z t with | some ty=>.QI (GI Z x) [ty] | none=>jU Z t (GI Z x))
   |_=>eA) else eA
  |_=>eA
def LQ(Z:CC):List wA->Option (List E)
 |[]=>aA []
 |e::a=>(kO Z e).bind λc=>(LQ Z a).map (c :: ·)
def Jd(Z:CC):wA->Option E
 |.List a _=>(LQ Z a).map .l
 |e=>kO Z e
def gW:QA->Option (fA×wA)
 |.Assign [t] e _=>(aAp t).map λx=>(x,e)
 |_=>eA
def Qk{s:QA}{x:fA}{e:wA}(h:gW s=aA (x,e)):∃p q,s=.Assign [.Name x p] e q:=by
 induction s using rV with
 |Assign a e q =>
  obtain _ | ⟨t,_ | ⟨_,_⟩⟩:=a
  ·exact oD h
  ·obtain⟨y,b,c⟩:=RF.mp (show(aAp t).map _=_ from h);cases c;obtain⟨p,rfl⟩:=eL b;exact⟨_,_,rfl⟩
  ·exact oD h
 |_=>exact oD h
def MQ(Z:CC):List QA->Option (List S)
 |[]=>aA []
 |s::r=>(gW s).bind λx=>(Z.QE x.1).bind λj=>(Jd Z x.2).bind λc=>(MQ Z r).map (.YA j c :: ·)
def mM:List lI->Option (fA×fA×List QA)
 |[.ExceptHandler (aA c) (aA n) body _]=>(aAp c).map λx=>(x,n,body)
 |_=>eA
def Zt(h:mM a=aA (x,n,body)):∃p q,a=[.ExceptHandler (aA (.Name x p)) (aA n) body q]:=by
 obtain _ | ⟨⟨ty,b,e,f⟩,_ | ⟨_,_⟩⟩:=a
 ·exact oD h
 ·obtain _ | c:=ty
  ·exact oD h
  ·obtain _ | d:=b
   ·exact oD h
   ·replace h:(aAp c).map (λx=>(x,d,e))=aA (x,n,body):=h
    cases hc:aAp c with
    |none=>rw[hc] at h;exact oD h
    |some y =>
     rw[hc] at h;cases h;obtain⟨p,rfl⟩:=eL hc;exact⟨_,_,rfl⟩
 ·obtain _ | c:=ty<;>obtain _ | d:=b<;>exact oD h
def Rk:List QA->Option (fA×fA)
 |[.Assign [t] v _]=>(aAp t).bind λy=>(aAp v).map λn=>(y,n)
 |_=>eA
noncomputable def xf(Z:CC)(a:List S)(x n:fA)(body:List QA):S:=.qA
def J1(Z:CC)(a:List S)(x n:fA)(body:List QA):S:=match Z.MN x,Z.QE n,MQ Z body with
 |.KA b,aA i,aA c=>.oO a b i c
 |_,_,_=>.qA
def Nu(n:fA)(body:List QA):Bool:=match Rk body with
 |some (_,a)=>a==n
 |none=>dA
noncomputable def pU(a:List S)(b:List lI)(o f:List QA):S:=.qA
def L1(Z:CC)(a:List S)(b:List lI):S:=pU a b [] []
def K1(Z:CC)(a:List S)(b:List lI):S:=L1 Z a b
def N1(Z:CC)(a:List S)(b:List lI):S:=K1 Z a b
def SQ(Z:CC)(a:List S)(b:List lI)(o f:List QA):S :=
 if o.isEmpty&&f.isEmpty then(match mM b with
  |some (x,n,body)=>if(Z.names.lookup n==aA .local)&&Z.top then(if Nu n body then xf Z a x n body else if body.isEmpty then .qA else J1 Z a x n body) else .qA
  |none=>if Z.top then N1 Z a b else .qA) else .qA
noncomputable def sFa(Z:CC)(e:wA)(c:S):S:=c
noncomputable def RZ(e:wA)(c:E):S:=.ret c
noncomputable def eHa(Z:CC)(s:QA)(r:List QA):Option (Nat×Nat×E×E):=eA
noncomputable def fHa(o:Option (Nat×Nat×E×E))(c:S)(a:List S):List S :=
 match o with
 |none=>c::a
 |some (i,j,ce,b)=>.Qc i j ce b::a.drop 3
noncomputable def IQ(i:Nat)(k:wA)(a ce:E):S:=.set i a ce
noncomputable def PQ(Z:CC)(a:List wA)(e:wA)(ce:E):S:=.qA
mutual
noncomputable def cS(Z:CC):QA->S
 |.Pass _=>.pass
 |.Break _=>.brk
 |.Continue _=>.cnt
 |.Return (aA e) _=>sFa Z e (RZ e (cE Z e))
 |.Return eA _=>.RT
 |.Expr e _=>if iD e then .expr (cE Z e) else .qA
 |.If c a b _=>.FA (cE Z c) (nD Z a) (nD Z b)
 |.While c body [] _=>.jK (cE Z c) (nD Z body)
 |.For h it body [] _=>match CH Z h,PJ Z it with
  |some (one,is),aA (k,d)=>if bJ k one then .for is one k (kQ Z it body (lB Z d)) (nD Z body) else .qA
  |_,_=>.qA
 |.Assign [.Name x _] e _=>match Z.QE x with
  |some i=>if iD e||YS e then .YA i (cE Z e) else .qA
  |none=>.qA
 |.Assign [.Tuple g _ _] e _=>match qL Z g with
  |some is=>if iD e&&uQ e then .tN is (cE Z e) else .qA
  |none=>PQ Z g e (cE Z e)
 |.Assign [.Subscript (.Name x _) k _] e _=>match Z.slot x with
  |some i=>if iD e&&FT k then IQ i k (cE Z k) (cE Z e) else .qA
  |none=>.qA
 |.AugAssign (.Name x _) .Add e _=>(match Z.QE x with
  |some i=>if iD e then .qA else .qA
  |none=>.qA)
 |.Raise (aA e) eA _=>HQ Z e
 |.Try body j o f _=>SQ Z (nD Z body) j o f
 |_=>.qA
noncomputable def nD(Z:CC):List QA->List S
 |[]=>[]
 |s::r=>fHa (eHa Z s r) (cS Z s) (nD Z r)
end
abbrev uF(X:Cx)(Z:CC):Prop:=∀x,Z.oM x=bA->X.fn x=bA\/X.env.scope.names.lookup x=aA .local
section
variable{K:kA}
def kU(h:iD e=bA)(t:Option wA)(line:Nat)(env:qJ):swapsWith e t line env=pure dA:=by
 induction e using FC<;>first | rfl | cases h
def S0(h:iD e=bA)(t:wA)(line:Nat)(env:qJ):swapsWithSole [t] e line env=pure dA:=kU h _ _ _
def IZ{st:QA}(h:∀U,ex P C W c U=eA):PS X st (tS K P C W c):=λcA s Y H D I a=>by obtain⟨U,G,b,d,r,e,k⟩:=a;rw[h] at e;cases e
def xC{st:QA}:PS X st (tS K P C W .qA):=IZ λU=>rfl
def vDa:PS X (.Pass pos) (tS K P C W .pass):=TS.sE uDa λD Y H a=>by
 obtain⟨U,G,b,c,r,e,k⟩:=a;cases e;exact k Y H G (EB.refl r)
def lDa:PS X (.Break pos) (tS K P C W .brk):=TS.sE kDa λD Y H a=>by
 obtain⟨U,G,b,c,r,e,k⟩:=a;cases e;exact k Y H G (EB.refl r)
def mDa:PS X (.Continue pos) (tS K P C W .cnt):=TS.sE oDa λD Y H a=>by
 obtain⟨U,G,b,c,r,e,k⟩:=a;cases e;exact k Y H G (EB.refl r)
def pDa(h:IA X K P C e c)(n:iD e=bA):PS X (.Expr e pos) (tS K P C W (.expr c)):=by
 refine TS.sE (Qb h.v (kU n _ _ _)) λD Y H b=>?_
 obtain⟨U,G,g,i,r,e,k⟩:=b;obtain⟨v,j,e1,e2⟩:=UH e k.ne;cases e2;exact⟨U,G,v,_,r,e1,λx d f a l=>k Y d f (DA.s r a)⟩
def yDa:PS X (.Return eA pos) (tS K P C W .RT):=TS.sE xDa λD Y H a=>by
 obtain⟨U,G,b,c,r,e,k⟩:=a;cases e;exact k .lA Y H G (EB.refl r) (by show nA K G .lA _;simp[nA])
def GA.give(r:GA K U Y H G)(h:U[i]?=aA (.ow d dA l))(hx:Y[i]?=aA (aA (.ref a))) :
  EB K U Y H G (U.set i .mv) Y H G/\sC K H G (AA (U.set i .mv) Y) (λa=>AA U Y a\/H a=eA) (.ow d) (.ref a):=by
 have key:∀(j:Nat) (sl:Sl),(U.set i .mv)[j]?=aA sl->(j=i/\sl=.mv)\/(j≠i/\U[j]?=aA sl):=λj sl z=>by
  rcases HG z with ⟨e,z,_⟩ | z
  ·exact .inl ⟨e,z⟩
  ·exact .inr z
 obtain⟨b,h1,g,o⟩:=r.ow i d dA l h;rw[hx] at h1;cases h1
 have m:∀c,AA (U.set i .mv) Y c->AA U Y c/\c≠a:=λc I=>by
  obtain⟨j,x,C,B,z,w⟩:=I;rcases key j _ z with ⟨_,q⟩ | ⟨y,q⟩
  ·cases q
  ·refine⟨⟨j,x,C,B,q,w⟩,λz=>?_⟩;subst z;exact y (r.inj _ _ _ _ _ _ _ _ _ q h w hx)
 refine⟨⟨⟨by rw[oE];exact r.len,r.sub,λj x z=>?_,λj x C B z=>?_,λj k Q R l1 X Z l2 c J M O P=>?_⟩,Ext.refl,λc z=>.inl (m c z).1,λj z=>?_,λj x B z=>⟨rfl,x, ?_⟩,by rw[oE]⟩,a,rfl,g,o,λz=>(m a z).2 rfl,.inl ⟨i,d,dA,l,h,hx⟩⟩
 ·rcases key j _ z with ⟨_,q⟩ | ⟨y,q⟩
  ·cases q
  ·exact r.sh j x q
 ·rcases key j _ z with ⟨_,q⟩ | ⟨y,q⟩
  ·cases q
  ·exact r.ow j x C B q
 ·rcases key j _ J with ⟨_,q⟩ | ⟨y,q⟩
  ·cases q
  ·rcases key k _ M with ⟨_,F⟩ | ⟨nk,F⟩
   ·cases F
   ·exact r.inj _ _ _ _ _ _ _ _ _ q F O P
 ·rcases key j _ z with ⟨_,q⟩ | ⟨y,q⟩
  ·cases q
  ·exact⟨q,rfl⟩
 ·have y:j≠i:=λw=>by subst w;rw[h] at z;cases z
  rw[PD (λw=>y w.symm)];exact z
def zDa(h:IA X K P C e c):PS X (.Return (aA e) pos) (tS K P C W (.ret c)):=by
 by_cases p:∃i,c=.v i
 ·obtain⟨i,rfl⟩:=p;refine TS.sE (JZ h.h) λD Y H q=>?_
  obtain⟨U,G,t,u,r,e,k⟩:=q;replace e:(match U[i]? with | some (.ow d dA _)=>aA (.rt (.ow d),U.set i .mv) | some (.sh d)=>aA (.rt (.sh d),U) | _=>eA)=aA (t,u):=e;split at e
  ·rename_i d l hd;cases e;obtain⟨a,A,g,o⟩:=r.ow i d dA l hd;refine⟨U,G,.slot i,U,r,by simp[hd,hd,Sl.get,CI.hd],λx m n j f=>?_⟩;obtain⟨I,b,J,M⟩:=j.rA.ow i d dA l hd;have f:Y[i]?=aA (aA x):=f;rw[f] at b;cases b;obtain⟨B,v1⟩:=j.rA.give hd f;exact(k.pre (DA.s r j)) _ Y m n B v1
  ·rename_i d hd;cases e;obtain⟨v,A,N⟩:=r.sh i d hd;refine⟨U,G,.slot i,U,r,by simp[hd,Sl.get,CI.hd],λx m n j f=>?_⟩;obtain⟨O,b,w⟩:=j.rA.sh i d hd;have f:Y[i]?=aA (aA x):=f;rw[f] at b;cases b;exact k x Y m n (DA.s r j) w
  ·cases e
 ·refine TS.sE (JZ h.v) λD Y H q=>?_
  obtain⟨U,G,t,u,r,e,k⟩:=q
  have F:(ev P C dA c U).cC (λv y=>aA (.rt v,y))=aA (t,u):=by
   cases c<;>first | exact absurd ⟨_,rfl⟩ p | exact e
  obtain⟨v,y,e1,e2⟩:=UH F k.ne;cases e2;exact⟨U,G,v,_,r,e1,λx m n a p=>k x Y m n (DA.s r a) (p.bI λa z=>.inr z)⟩
def sDa(j:IA X K P C c l)(m:dC X a (xE K P C W ca))(n:dC X b (xE K P C W o)):PS X (.If c a b pos) (tS K P C W (.FA l ca o)):=by
 refine TS.sE (Rb j.t m n) λD Y H p=>?_
 obtain⟨U,G,h,i,r,e,k⟩:=p;obtain⟨v,f,e1,e2⟩:=UH e k.ne;split at e2
 ·refine⟨U,G,bA,f,r,e1,λq g d=>?_⟩;refine sM ?_;exact⟨f,g,h,i,d.rA,e2,k.pre (DA.s r d)⟩
 ·refine⟨U,G,dA,f,r,e1,λq g d=>?_⟩;refine PN ?_;exact⟨f,g,h,i,d.rA,e2,k.pre (DA.s r d)⟩
 ·cases e2
def y0{d:Bool}(b:CB d X K P C Z)(c:uF X Z){x:fA}{i:Nat}(h:Z.QE x=aA i){pos:xB}:PG X (.Name x pos) (kM i):=by
 unfold CC.QE at h;split at h
 ·rename_i a
  have e:X.N[i]?=aA x:=by
   unfold CC.slot at h;split at h
   ·cases h
   ·split at h
    ·rw[b.DG];exact VS h
    ·cases h
  refine Gb (by rw[b.DG];exact b.nd) e ?_ (c x a);unfold L2.Loc;rw[b.nm];unfold CC.oM at a;rw[jI,RA] at a;rcases a with a | a
  ·exact .inl (yC a)
  ·exact .inr (yC a.2)
 ·cases h
def Pb{f:Bool}(g:CB f X K P C Z)(b:uF X Z){x:fA}{i:Nat}{e:wA}{c:E}{p pos:xB}(j:Z.QE x=aA i)(h:IA X K P C e c)(n:iD e=bA):PS X (.Assign [.Name x p] e pos) (tS K P C W (.YA i c)):=by
 refine TS.sE (OT h.v (y0 g b j) (S0 n _ _ _)) λD Y H l=>?_
 obtain⟨U,G,t,u,r,e,k⟩:=l;obtain⟨v,d,e1,e2⟩:=UH e k.ne;unfold WH at e2
 cases q:store i v d with
 |none=>rw[q] at e2;cases e2
 |some w =>
  rw[q] at e2;cases e2;exact⟨U,G,v,d,r,e1,λx m o a s=>k _ m o (DA.store r a q s)⟩
def eKa{e:wA}{i:Nat}(h:qf Z e=aA i):∃x p,e=.Name x p/\Z.QE x=aA i:=by
 induction e using FC with
 |Name x p=>exact⟨x,p,rfl,h⟩
 |_=>exact nomatch (show eA=aA i from h)
def sf(c:OA X K P C Z)(b:uF X Z){a:List wA}:∀{is:List Nat},qL Z a=aA is->AJ X a (aQ K is)/\(mH a X.env).length=is.length/\(mH a X.env).findIdx? (·.1)=eA/\a.length=is.length:=by
 induction a with
 |nil=>intro is h;cases h;exact⟨fCa,rfl,rfl,rfl⟩
 |cons e d f =>
  intro is h;obtain⟨i,q,h⟩:=nF.mp h;obtain⟨g,j,rfl⟩:=RF.mp h;obtain⟨k,l,m,n⟩:=f j;obtain⟨x,p,rfl,q⟩:=eKa q;refine⟨dCa (y0 c b q) k rfl,congrArg (·+1) l, ?_,congrArg (·+1) n⟩;show((dA,_)::mH d X.env).findIdx? (·.1)=eA;rw[List.findIdx?_cons,m];rfl
def aJa(h:uQ e=bA)(env:qJ):swappedStores [.Tuple a b p] e env=pure eA:=by
 induction e using FC<;>first | rfl | cases h
def iDa(i:OA X K P C Z)(f:uF X Z){j:List wA}{is:List Nat}{e:wA}{c:E}{o:Nat}{p pos:xB}(t:qL Z j=aA is)(h:IA X K P C e c)(n:iD e=bA)(u:uQ e=bA):PS X (.Assign [.Tuple j o p] e pos) (tS K P C W (.tN is c)):=by
 obtain⟨w,y,z,M⟩:=sf i f t;refine TS.sE (OT h.v (Fb i w y z) (S0 n _ _ _) (aJa u _)) λD Y H A=>?_
 obtain⟨U,G,N,O,r,e,k⟩:=A;obtain⟨v,g,e1,e2⟩:=UH e k.ne;unfold WH at e2
 cases q:wB dA is v.d g with
 |none=>rw[q] at e2;cases e2
 |some Q =>
  rw[q] at e2;cases e2;refine⟨U,G,v,g,r,e1,λx B R a F=>?_⟩;obtain⟨l,m,I⟩:=a.share F;exact⟨g,l,v.d,_,m.rA,I,q,λJ b=>k J B l ((DA.s r m).trans b)⟩
def Vu(h:gQ U i=bA):∃a b p l,U[i]?=aA (.ow (.dB a b) p l):=by
 unfold gQ at h;split at h
 ·rename_i d e p l q;exact⟨d,e,p,l,q⟩
 ·cases h
def hFa(K:kA):TR:=λo i v H Q=>∃a c k b,o=.ref a/\i=.ref b/\DS K H a c/\IC K H k b/\c.length<sizeLine/\∀u,aAe v u->((storedH c k b u).map (·.1)).Nodup->∀d,Q (EA H a (.ext (zC a (storedH c k b u) d)))
def iFa:TR:=λ_ _ _ _ _=>False
def kHa(hu:X.A.units+11<cLine):bW X (λo i v H Q=>wc o i v H Q\/iFa o i v H Q\/hFa X.K o i v H Q):=by
 intro cA s Y H o i v g j u Q I c e f h;rcases h with h | h | ⟨a,t,k,b,rfl,rfl,d,l,m,q⟩
 ·exact aAT cA s Y H o i v g j u Q I c e f h
 ·exact h.elim
 ·cases c;cases e;exact yGa hu I d l m λn w p r=>⟨_,p,q _ f r n⟩
def cEa(xo:OA X K P C Z)(hi:Z.slot x=aA i)(h:IA X K P C e c)(hj:IA X K P C j cj)(n:iD e=bA)
  (ha:∀v,assign (.Subscript (.Name x p) j p2) X.env v=(do
   let Q <- holding [v] (eval (.Name x p) X.env)
   let iv <- holding [v,Q] (eval j X.env)
   standAt p2
   holding [v,Q,iv] (setItem Q iv v)
   release [v,Q,iv] [])):PS X (.Assign [.Subscript (.Name x p) j p2] e pos) (tS K P C W (.set i cj c)):=by
 have hp:PE X (.Name x p) (mL i):=CC.HM xo hi;refine TS.sE (OT h.v (aCa hp hj.v (xo.vC ▸ kHa (by have:=xo.hu;lia)) ha) (S0 n _ _ _)) λD Y H F=>?_
 obtain⟨U,G,fl,U',r,e,k⟩:=F;obtain⟨v,R,e1,e2⟩:=UH e k.ne;split at e2
 ·rename_i ho;obtain⟨w,U2,e3,f⟩:=UH e2 k.ne;split at f
  ·rename_i ds p1 nn I hw;unfold WH at f
   cases q:AF ds.length nn with
   |none=>rw[q] at f;cases f
   |some m =>
    rw[q] at f;cases f;refine⟨U,G,v,R,r,e1,λy H1 G1 o hv=>?_⟩;obtain⟨d0,p0,l0,h0⟩:=EY ho;obtain⟨b,t,g0,o0⟩:=o.rA.ow i _ p0 l0 h0;refine⟨.ref b,t,R,G1,w,U2,o.rA,e3,λz H2 G2 A F=>?_⟩;have B:=hv.wait A.ext λa z=>.inl (A.own a z)
    obtain⟨G3,l,r3⟩:=(o.trans A).share B;obtain⟨b',g,g1,vs,nu,hr⟩:=l.rA.ow i _ _ _ I;rw[t] at g;cases g;have J:=F.lL;rw[hw] at J;cases J.int;have a4:=l.rA.write I t (hr.set r3 m);exact .inl ⟨b,vs,nn,m,rfl,rfl,nu,by rw[hr.len];exact q,k Y _ _ (DA.s r (l.trans a4))⟩
  ·cases f
 ·split at e2
  ·rename_i ho;obtain⟨w,U2,e3,f⟩:=UH e2 k.ne;unfold fO at f;split at f
   ·rename_i ks ds p1 M I hk;split at f
    ·rename_i F;cases f;refine⟨U,G,_,R,r,e1,λy H1 G1 o hv=>?_⟩;obtain⟨d0,c0,p0,l0,h0⟩:=Vu ho;obtain⟨b,t,g0,o0⟩:=o.rA.ow i _ p0 l0 h0;refine⟨.ref b,t,R,G1,w,U2,o.rA,e3,λz H2 G2 A tu=>?_⟩;have B:=hv.wait A.ext λa z=>.inl (A.own a z)
     obtain⟨G3,l,r3,s3⟩:=(o.trans A).n0 B;obtain⟨b0,rfl,kk⟩:=qQ hk tu.lL;replace kk:=IC.mono (Sm.of s3) kk;obtain⟨b',g,g1,xs,vs,hx,⟨nd,hl,sm,N,pr⟩,hr⟩:=l.rA.ow i _ _ _ I;rw[t] at g;cases g
     have O:xs.length<sizeLine:=by
      have h1:=aK F;have h2:=(vA _).symm.trans (congrArg EH pr.1)
      lia
     refine .inr (.inr ⟨b,xs,M,b0,rfl,rfl,⟨hx,nd,hl,sm,λx hx=>IC.mono l.rA.sub (N x hx)⟩,IC.mono l.rA.sub kk,O,λu ru Gz ep=>?_⟩);obtain⟨g2,ws,g3,g4⟩:=tEa (k:=M) (b:=b0) ⟨pr.1,vs,pr.2,hr⟩ ru r3;have a4:=l.rA.Pf (ob:=.ext (zC b (storedH xs M b0 u) ep)) (d':=.dB (XI ks M) (zH ks ds M v.d)) I t ⟨_,ws,⟨_,oC⟩,⟨Gz,TB wIa O,sm,vIa N kk,g2,g3⟩,g4⟩;exact k Y _ _ (DA.s r (l.trans a4))
    ·cases f
   ·cases f
  ·cases e2
def iLa(po:FH (model X.prog X.w) X.A X.env X.xe)(R:IA X K P C c B)(Z:dC X body (xE K P C W o)):PS X (.While c body [] pos) (tS K P C W (.jK B o)):=by
 refine TS.sE (Sb po R.t Z) λD Y H F=>?_
 obtain⟨U,G,M,N,r,e,k⟩:=F;refine⟨λm I O=>∃l p,EB K U Y H G l I O p/\eF (ev P C bA B) (KA P C W o) m l=aA (M,N),⟨W,U,G,EB.refl r,e⟩,λm I O F=>?_⟩;obtain⟨l,p,h,e1⟩:=F
 cases m with
 |zero=>simp[eF] at e1
 |succ m =>
  simp only[eF] at e1;obtain⟨v,u,e2,a⟩:=UH e1 k.ne;split at a
  ·refine⟨l,p,bA,u,h.rA,e2,λQ J z=>?_⟩;refine sM ?_;have b:=h.trans (DA.s h.rA z);refine⟨λi j=>∃f d,EB K U Y H G f i j d/\eF (ev P C bA B) (KA P C W o) m f=aA (M,N),λi j ⟨f,d,g,e4⟩=>⟨m,VF m,f,d,g,e4⟩, ?_⟩
   cases q:KA P C W o u with
   |none=>rw[q] at a;cases a
   |some y =>
    obtain⟨n,f⟩:=y;rw[q] at a;refine⟨u,J,n,f,z.rA,q, ?_⟩
    induction n using Fl.casesOn with
    |nx=>exact λi j d g=>⟨f,d,b.trans g,a⟩
    |ct=>exact λi j d g=>⟨f,d,b.trans g,a⟩
    |bk=>cases a;exact λi j d g=>k i j d (b.trans g)
    |rt v=>cases a;exact k.pre b
    |ex x=>cases a;exact k
  ·refine⟨l,p,dA,u,h.rA,e2,λQ J z=>?_⟩;refine PN ?_;cases a;exact k I Q J (h.trans (DA.s h.rA z))
  ·cases a
end
end CI
namespace CI
set_option tactic.hygienic true
open PySem PySem.Spec PyProof.Rows L2
section
variable{X:Cx}{K:kA}{P:VA}{C:Calls}{W:Nat}{Z:CC}
def mU(r:GA K U Y H G):GA K (aAg o U) Y H G/\∀a,AA (aAg o U) Y a->AA U Y a:=by
 induction o using XF with
 |none=>exact⟨r,λ_ z=>z⟩
 |some i=>exact⟨r.unset i,λ_ z=>z.unset⟩
def DQ(r:GA K f Y A M)(ho:∀i,o=aA i->∃d p l,f[i]?=aA (.ow d p l))(e:aAs o f s=aA N)(a:EB K (aAg o f) Y A M s k B y) :
  EB K f Y A M N k B y/\∀c,AA N k c->AA s k c\/(AA f Y c/\¬AA (aAg o f) Y c):=by
 induction o using XF with
 |none =>
  simp only[aAs,XB] at e;subst e;exact⟨a,λ_ z=>.inl z⟩
 |some i =>
  obtain⟨d,p,l,t⟩:=ho i rfl;obtain⟨b,F,g,ob⟩:=r.ow i d p l t;have n:AA f Y b:=⟨i,d,p,l,t,F⟩
  have h:¬AA (f.set i .un) Y b:=r.pO t F;have u:A b≠eA:=(r.owned n).1;simp only[aAs] at e;split at e
  ·rename_i sl O Q;rw[t] at Q;cases Q;cases e;obtain⟨hu1,v⟩:=a.un i O;have R:k[i]?=aA (aA (.ref b)):=v.trans F;have gb:y b=eA:=a.ext.gn b u g h;have of:ZF K B y b d:=ob.mono a.ext.gg λo' h'=>a.ext.hh b o' h' h
   have nf:¬AA s k b:=λz=>by
    rcases a.own b z with z | z
    ·exact h z
    ·exact u z
   have rf:GA K (s.set i (.ow d p l)) k B y:=(a.rA.unset i).CM R gb of λz=>nf z.unset
   have m:∀c,AA (s.set i (.ow d p l)) k c->c=b\/AA s k c:=λc z=>by
    rcases z.CM R with z | z
    ·exact .inl z
    ·exact .inr z.unset
   refine⟨⟨rf,a.ext.weaken λc z=>z.unset,λc z=>?_,λj z=>?_,λj U l' z=>?_,by rw[oE,a.len];exact oE⟩,λc z=>?_⟩
   ·rcases m c z with rfl | z
    ·exact .inl n
    ·rcases a.own c z with z | z
     ·exact .inl z.unset
     ·exact .inr z
   ·rcases HG z with ⟨_,w,_⟩ | ⟨nj,w⟩
    ·cases w
    ·obtain⟨H,I⟩:=a.un j w;have x:(f.set i .un)[j]?=aA .un:=H;rw[PD (λq=>nj q.symm)] at x;exact⟨x,I⟩
   ·by_cases J:j=i
    ·subst J;rw[t] at z;cases z;refine⟨v,d, ?_⟩;rw[sI (BD.mp O).1]
    ·have z':(aAg (aA i) f)[j]?=aA (.ow U bA l'):=by
      show(f.set i .un)[j]?=_;rw[PD (λq=>J q.symm)];exact z
     obtain⟨H,d2,I⟩:=a.pin j U l' z';exact⟨H,d2,by rw[PD (λq=>J q.symm)];exact I⟩
   ·rcases m c z with rfl | z
    ·exact .inr ⟨n,h⟩
    ·exact .inl z
  ·cases e
def vG.restore{D:Ends}(r:GA K F Y H R)(ho:∀i,o=aA i->∃d p l,F[i]?=aA (.ow d p l))(e:aAs o F U=aA U')(k:vG K F Y H R U' D fl) :
  vG K (aAg o F) Y H R U D fl:=by
 induction fl using Fl.casesOn with
 |nx=>exact λj y B b=>k j y B (DQ r ho e b).1
 |bk=>exact λj y B b=>k j y B (DQ r ho e b).1
 |ct=>exact λj y B b=>k j y B (DQ r ho e b).1
 |rt v =>
  refine λx j y B b I=>?_
  obtain⟨b1,b2⟩:=DQ r ho e b;refine k x j y B b1 ?_
  induction v using RV.casesOn with
  |sh d=>exact I
  |ow d =>
   obtain⟨c,rfl,g,J,n,m⟩:=I;refine⟨c,rfl,g,J,λz=>?_, ?_⟩
   ·rcases b2 c z with z | ⟨M,O⟩
    ·exact n z
    ·rcases m with m | m
     ·exact O m
     ·exact(r.owned M).1 m
   ·rcases m with m | m
    ·exact .inl ((mU r).2 c m)
    ·exact .inr m
  |od d =>
   obtain⟨c,rfl,g,J,n,m,vs,Q,hr⟩:=I
   have key:∀c,¬AA U j c->(AA (aAg o F) Y c\/H c=eA)->¬AA U' j c/\(AA F Y c\/H c=eA):=λc n m=>by
    refine⟨λz=>?_, ?_⟩
    ·rcases b2 c z with z | ⟨M,O⟩
     ·exact n z
     ·rcases m with m | m
      ·exact O m
      ·exact(r.owned M).1 m
    ·rcases m with m | m
     ·exact .inl ((mU r).2 c m)
     ·exact .inr m
   exact⟨c,rfl,g,J,(key c n m).1,(key c n m).2,vs,Q,λx hx=>let ⟨b,ws,h1,h2,h3,h4,h5,h6⟩:=hr x hx;⟨b,ws,h1,h2,h3,(key b h4 h5).1,(key b h4 h5).2,h6⟩⟩
 |ex x=>exact k
def kP(K:kA)(P:VA)(C:Calls)(W:Nat)(one:Bool)(a:List Nat)(b:List S)(c:Env)(d:St)(e f:Hp)(g:Fl)(h:Env)(j:List D)(i:Nat):St->Hp->Prop:=λY H =>
 ∃U G,EB K c d e f U Y H G/\gD (wB one a) (KA P C W b) (j.drop i) U=aA (g,h)
def sy(hk:vG K o p r s t A u)(hd:c[i]?=aA d)
  (h:∃U G,EB K o p r s U Y H G/\nA K G d x/\gD (wB one m) (KA P C W n) (c.drop i) U=aA (u,t)) :
  gB K one m x Y H λf g=>xE K P C W n { A with nx:=kP K P C W one m n o p r s u t c (i+1),ct:=kP K P C W one m n o p r s u t c (i+1),bk:=A.nx } f g:=by
 obtain⟨U,G,a,I,e⟩:=h;have B:i<c.length:=(BD.mp hd).1
 have J:c.drop i=d::c.drop (i+1):=by(rw[wO B];congr 1;rw[pC B] at hd;exact kD hd)
 rw[J] at e;simp only[gD] at e
 cases q:wB one m d U with
 |none=>rw[q] at e;cases e
 |some w =>
  rw[q] at e;simp only at e;refine⟨U,G,d,w,a.rA,I,q,λM F=>?_⟩;have b:=a.trans F
  cases q2:KA P C W n w with
  |none=>rw[q2] at e;cases e
  |some y =>
   obtain⟨j,z⟩:=y;rw[q2] at e;refine⟨w,G,j,z,F.rA,q2, ?_⟩
   induction j using Fl.casesOn with
   |nx=>exact λf g k l=>⟨z,k,b.trans l,e⟩
   |ct=>exact λf g k l=>⟨z,k,b.trans l,e⟩
   |bk=>cases e;exact λf g k l=>hk f g k (b.trans l)
   |rt v=>cases e;exact hk.pre b
   |ex x=>cases e;exact hk
def AN{lo:Int}:(yG lo a).length=a.length:=by unfold yG;simp
def bX{lo:Int}{i:Nat}(h:ds[i]?=aA d):(yG lo ds)[i]?=aA (.t [.int (lo+(i:Int)),d]):=by
 have a:i<ds.length:=(BD.mp h).1;unfold yG;rw[jD,yL a,WE,zK,h];rfl
def xp(a:G p=eA)(h:nA K G d y):nA K (EA G p (.t [.int i,y])) (.t [.int i,d]) (.ref p):=by
 simp only[nA];exact⟨p,_,rfl,BC.of oC,oA.cons (by simp[nA]) (oA.cons (nA.mono (Sm.laid a) d h) oA.nil)⟩
def qy(hk:vG K b c d f g i j)(h:kP K P C W one l m b c d f j g k k.length Y H):i.nx Y H:=by
 obtain⟨U,G,a,e⟩:=h;rw[ji] at e;simp only[gD,XB,ZE] at e;obtain⟨rfl,rfl⟩:=e;exact hk Y H G a
def Src(K:kA)(U:Env)(Y:St)(H G:Hp)(a:jA)(b:List V):Prop:=zB K G a b\/(H a=aA (.l b)/\G a=eA/\¬AA U Y a)
def c5(K:kA)(j:Env)(k:St)(l m:Hp)(b:List D)(J:It):Prop:=∀i a c e f,EB K j k l m c e a f->(i=b.length->J.stop i a)/\(i<b.length->J.go i a)/\∀d x g,b[i]?=aA d->J.yU i a x g->∃h,DA K c e a f c g h/\nA K h d x
def rN(K:kA)(U:Env)(Y:St)(e f:Hp)(g:List D)(J:It):Prop:=∀{a:Env} {b:St} {d:Hp},aB f d->(∀c,AA a b c->AA U Y c)->c5 K a b e d g J
section
variable{U U0 Uc:Env}{Y Y0 Y':St}{H1 G1 G2 H' Gc:Hp}{ds:List D}{a:jA}{vs:List V}
def Src.at(h:Src K U Y H1 G1 a vs)(j:aB G1 G2)(own:∀c,AA U0 Y0 c->AA U Y c)(m:EB K U0 Y0 H1 G2 Uc Y' H' Gc):zB K H' a vs:=by
 rcases h with h | ⟨h1,h2,h3⟩
 ·exact m.rA.sub.seq (m.ext.gg.seq (j.seq h))
 ·exact zB.of (m.ext.hh a _ h1 λz=>h3 (own a z))
def wU(c:Src K U Y H1 G1 a vs)(f:oA K G1 ds vs):rN K U Y H1 G1 ds (NV K a):=by
 intro U0 Y0 G2 e own i H' Uc Y' Gc g;have b:=c.at e own g;refine⟨λk=>⟨vs,b,by rw[f.len];lia⟩,λk=>?_,λd x n hd h=>?_⟩
 ·obtain⟨l,j,m⟩:=f.get (pC k);exact⟨vs,l,b,j⟩
 ·obtain⟨rfl,h⟩:=h;obtain⟨l,j,m⟩:=f.get hd
  have:=h vs b
  rw[j] at this;cases this;exact⟨_,DA.refl g.rA,nA.mono g.ext.gg d (nA.mono e d m)⟩
def Lf(m:BC K G1 a vs)(f:oA K G1 ds vs):rN K U Y H1 G1 ds (OV K a):=by
 intro U0 Y0 G2 c own i H' Uc Y' Gc e;have b:BC K H' a vs:=cI e.rA.sub (cI e.ext.gg (cI c m));refine⟨λj=>⟨vs,b,by rw[f.len];lia⟩,λj=>?_,λd x n hd g=>?_⟩
 ·obtain⟨k,h,l⟩:=f.get (pC j);exact⟨vs,k,b,h⟩
 ·obtain⟨rfl,g⟩:=g;obtain⟨k,h,l⟩:=f.get hd
  have:=g vs b
  rw[h] at this;cases this;exact⟨_,DA.refl e.rA,nA.mono e.ext.gg d (nA.mono c d l)⟩
def Kf{lo:Int}:rN K U Y H1 G1 ((qC n).map λ(j:Nat)=>D.int (lo+(j:Int))) (jP lo n):=by
 intro U0 Y0 G2 c own i H' Uc Y' Gc e;rw[vA,lR];refine⟨λb=>by show n<=i;lia,λb=>b,λd x h hd f=>?_⟩;obtain⟨rfl,rfl⟩:=f;rw[jD] at hd;obtain⟨j,g,rfl⟩:=RF.mp hd;obtain⟨k,rfl⟩:=BD.mp g;exact⟨_,DA.refl e.rA,by simp[nA]⟩
def vU{lo:Int}(e:Src K U Y H1 G1 a vs)(h:oA K G1 ds vs):rN K U Y H1 G1 (yG lo ds) (MV K a lo):=by
 intro U0 Y0 G2 f own i H' Uc Y' Gc g;have b:=e.at f own g;rw[AN];refine⟨λk=>⟨vs,b,by rw[h.len];lia⟩,λk=>?_,λd x p hd c=>?_⟩
 ·obtain⟨l,j,m⟩:=h.get (pC k);exact⟨vs,l,b,j⟩
 ·obtain⟨q,r,n,rfl,rfl,c⟩:=c;have o:i<ds.length:=by rw[<- AN];exact(BD.mp hd).1
  obtain⟨l,j,m⟩:=h.get (pC o);have c:=c vs b;rw[j] at c;cases c;rw[bX (pC o)] at hd;cases hd;exact⟨_,(DA.refl g.rA).RJ n,xp (aB.free g.rA.sub n) (nA.mono g.ext.gg _ (nA.mono f _ m))⟩
end
def wJ(K:kA)(P:VA)(C:Calls)(h:sF)(b:List E)(Y:St)(H:Hp)(R:It->Hp->Prop):Prop:=∃(U:Env) (G:Hp) (e:List Hd) (a:Env) (f:List D) (o:Option Nat),GA K U Y H G/\JC P C b U=some (.ok e,a)/\aAb h e a=aA (f,o) /\
 ∀c g,DA K U Y H G a c g->(∀i,o=aA i->∃d p l,a[i]?=aA (.ow d p l))->∀J,rN K (aAg o a) Y c g f J->R J c
abbrev kN(K:kA)(P:VA)(C:Calls)(b:sF)(a:List E)(Y:St)(H:Hp)(R:It->Hp->Prop):Prop:=wJ K P C b a Y H R
def nb{b:TI}(n:c≠.of)(h:∀Y H (R:It->Hp->Prop),wJ K P C c a Y H R->b Y H R)(Y:St)(H:Hp)(R:It->Hp->Prop)(q:kN K P C c a Y H R):b Y H R:=h Y H R q
def Xr(po:FH (model X.prog X.w) X.A X.env X.xe)(xo:OA X K P C Z)(hg:PG X F (gB K one is))(hb:dC X body (xE K P C W f))
  (g:∀x,fJ it X.env x=pure x) (I:PI X F it wi)
  (hw:∀Y H (R:It->Hp->Prop),wJ K P C M n Y H R->wi Y H R) :
  PS X (.For F it body [] pos) (tS K P C W (.for is one M n f)):=by
 refine TS.sE (rDa po xo.calm I hg hb g) λD Y H hz=>?_
 obtain⟨U,G,p,U',r,e,k⟩:=hz;obtain⟨g,d,e1,e2⟩:=UH e k.ne
 cases q:aAb M g d with
 |none=>rw[q] at e2;cases e2
 |some y =>
  obtain⟨a,o⟩:=y;rw[q] at e2;simp only at e2
  cases q2:gD (wB one is) (KA P C W f) a (aAg o d) with
  |none=>rw[q2] at e2;cases e2
  |some y =>
   obtain⟨fl1,j⟩:=y;rw[q2] at e2;simp only[Run.restore] at e2
   cases q3:aAs o d j with
   |none=>rw[q3] at e2;cases e2
   |some t =>
    rw[q3] at e2;cases e2;refine hw Y H _ ⟨U,G,g,d,a,o,r,e1,q,λu l v ho J wj=>?_⟩;have N:vG K (aAg o d) Y u l j D p:=vG.restore v.rA ho q3 (k.pre (DA.s r v));refine⟨λi m z B=>m=a.length-i/\i<=a.length/\kP K P C W one is f (aAg o d) Y u l p j a i z B,⟨_,rfl,pE _,aAg o d,l,EB.refl (mU v.rA).1,q2⟩, ?_⟩
    rintro i m z B ⟨rfl,I,O⟩
    obtain⟨t,G2,b,e2⟩:=id O;obtain⟨j1,j2,j3⟩:=wj (aB.refl _) (λ_ h=>h) i B t z G2 b;by_cases c:i<a.length
    ·refine .inr ⟨j2 c,kP K P C W one is f (aAg o d) Y u l p j a (i+1),λY' Q p'=>⟨a.length-(i+1),by lia,rfl,c,p'⟩,λx Q y=>?_⟩;obtain⟨Gd,af,rp⟩:=j3 _ x Q (pC c) y;exact sy N (pC c) ⟨t,Gd,b.trans (DA.s b.rA af),rp,e2⟩
    ·obtain rfl:i=a.length:=by lia
     exact .inl ⟨j1 rfl,qy N O⟩
end
end CI
namespace CI
set_option tactic.hygienic true
open PySem PySem.Spec PyProof.Rows L2
section
variable{X:Cx}{K:kA}
def PI.or(h:PI X j it w)(m:PI X j it r):PI X j it (λY H R=>w Y H R\/r Y H R):=λcA s Y H R I q=>by
 rcases q with q | q
 ·exact h cA s Y H R I q
 ·exact m cA s Y H R I q
def xS(e:JC P C [c] U=some (.ok a,b)):∃h,a=[h]/\hd c (ev P C dA c U) U=some (.ok h,b):=by
 rw[JC] at e;obtain⟨h,d,e1,e2⟩:=rB e;rw[JC] at e2;simp only[BA.bind] at e2;cases e2;exact⟨h,rfl,e1⟩
def Na(Z:X.K=K)(Y:St)(H:Hp)(R:It->Hp->Prop)(q:wJ K P C .of [c] Y H R) :
  tY X.K (tH K P C c) Y H R\/uY X.K (tH K P C c) Y H R:=by
 obtain⟨U,G,hs,J,Q,o,r,e,s,k⟩:=q;obtain⟨h,rfl,e1⟩:=xS e;rw[Z]
 induction h using Hd.casesOn with
 |slot i =>
  (unfold aAb at s;dsimp only at s)
  split at s
  ·rename_i A p l F;cases s;refine .inl ⟨U,G,.slot i,J,r,e1,λx y t f a=>?_⟩;have a:Y[i]?=aA (aA x):=a;obtain⟨b,B,g,u,M,O⟩:=f.rA.ow i _ _ _ F;rw[a] at B;cases B;exact⟨b,rfl,⟨u,zB.of M⟩,k y t f (λj z=>by cases z;exact⟨_,_,_,F⟩) _ (wU (.inr ⟨M,g,f.rA.pO F a⟩) O)⟩
  ·rename_i A F;cases s;refine .inl ⟨U,G,.slot i,J,r,e1,λx y t f a=>?_⟩;have a:Y[i]?=aA (aA x):=a;obtain⟨v,B,N⟩:=f.rA.sh i _ F;rw[a] at B;cases B;simp only[nA] at N;obtain⟨b,u,rfl,w,I⟩:=N;exact⟨b,rfl,⟨u,f.rA.sub.seq w⟩,k y t f (λj z=>by cases z) _ (wU (.inl w) I)⟩
  ·rename_i A F;cases s;refine .inr ⟨U,G,.slot i,J,r,e1,λx y t f a=>?_⟩;have a:Y[i]?=aA (aA x):=a;obtain⟨v,B,N⟩:=f.rA.sh i _ F;rw[a] at B;cases B;simp only[nA] at N;obtain⟨b,u,rfl,w,I⟩:=N;exact⟨b,rfl,⟨u,cI f.rA.sub w⟩,k y t f (λj z=>by cases z) _ (Lf w I)⟩
  ·cases s
 |val v =>
  (unfold aAb at s;dsimp only at s)
  split at s
  ·rename_i A hd;cases s;refine .inl ⟨U,G,.val v,J,r,e1,λx y t f a=>?_⟩
   induction v using RV.casesOn with
   |sh d =>
    simp only[RV.d] at hd;subst hd;have a:nA K t (.l Q) x:=a;simp only[nA] at a;obtain⟨b,u,rfl,w,I⟩:=a;exact⟨b,rfl,⟨u,f.rA.sub.seq w⟩,k y t f (λj z=>by cases z) _ (wU (.inl w) I)⟩
   |ow d =>
    simp only[RV.d] at hd;subst hd;obtain⟨b,rfl,g,⟨u,M,O⟩,n,m⟩:=a;exact⟨b,rfl,⟨u,zB.of M⟩,k y t f (λj z=>by cases z) _ (wU (.inr ⟨M,g,n⟩) O)⟩
   |od d=>exact a.elim
  ·rename_i A hd;cases s;refine .inr ⟨U,G,.val v,J,r,e1,λx y t f a=>?_⟩
   induction v using RV.casesOn with
   |sh d =>
    simp only[RV.d] at hd;subst hd;have a:nA K t (.t Q) x:=a;simp only[nA] at a;obtain⟨b,u,rfl,w,I⟩:=a;exact⟨b,rfl,⟨u,cI f.rA.sub w⟩,k y t f (λj z=>by cases z) _ (Lf w I)⟩
   |ow d =>
    simp only[RV.d] at hd;subst hd;obtain⟨b,rfl,g,o,n,m⟩:=a;exact o.elim
   |od d=>exact a.elim
  ·cases s
def a_(a:X.K=K)(Y:St)(H:Hp)(R:It->Hp->Prop)(q:kN K P C .of [c] Y H R):tY X.K (tH K P C c) Y H R\/uY X.K (tH K P C c) Y H R:=Na a Y H R q
def Lc(Y:St)(H:Hp)(R:It->Hp->Prop)(q:wJ K P C .gC [c] Y H R) :
  i8 (IG K P C [c]) Y H R:=by
 obtain⟨U,G,d,f,u,o,r,e,a,k⟩:=q;refine⟨U,G,d,f,r,e,λv g i b l=>?_⟩;obtain⟨h,rfl,e1⟩:=xS e;obtain⟨x,m,rfl,p,s,_⟩:=l;cases (show m=[] from s)
 (unfold aAb at a;dsimp only at a)
 split at a
 ·rename_i n t;split at a
  ·rename_i w;cases a;cases (p.read b.rA t).int;refine⟨n,rfl,by lia,by lia,k g i b (λj z=>by cases z) _ ?_⟩;rw[show(λ(j:Nat)=>D.int (j:Int))=λ(j:Nat)=>D.int (0+(j:Int)) from funext λj=>by rw[Int.zero_add]];exact Kf
  ·cases a
 ·cases a
def Mc(Y:St)(H:Hp)(R:It->Hp->Prop)(q:wJ K P C .gC [c,f] Y H R) :
  j8 (IG K P C [c,f]) Y H R:=by
 obtain⟨U,G,g,i,M,o,r,e,a,k⟩:=q;refine⟨U,G,g,i,r,e,λN l p b s=>?_⟩;rw[JC] at e;obtain⟨h,O,e1,e2⟩:=rB e;obtain⟨t,Q,u,v⟩:=rB e2;obtain⟨Z,rfl,e5⟩:=xS u;cases v;obtain⟨x,r',rfl,w,A,_⟩:=s;obtain⟨y,d,rfl,B,F,_⟩:=A;cases (show d=[] from F)
 (unfold aAb at a;dsimp only at a)
 split at a
 ·rename_i m n I J;split at a
  ·rename_i hb;cases a;cases (w.read b.rA I).int;cases (B.read b.rA J).int;exact⟨m,n,rfl,by omega,k l p b (λj z=>by cases z) _ Kf⟩
  ·cases a
 ·cases a
def cX(Q:X.K=K){lo:Int}(Y:St)(H:Hp)(R:It->Hp->Prop)(q:wJ K P C (.enum lo) [c] Y H R) :
  sY X.K lo (IG K P C [c]) Y H R:=by
 obtain⟨U,G,Z,U1,ds,o,r,e,a,k⟩:=q;rw[Q];refine⟨U,G,Z,U1,r,e,λxs I w s M=>?_⟩;obtain⟨h,rfl,e1⟩:=xS e;obtain⟨x,r',rfl,f,J,_⟩:=M;cases (show r'=[] from J)
 induction h using Hd.casesOn with
 |slot i =>
  (unfold aAb at a;dsimp only at a)
  have f:Y[i]?=aA (aA x):=f;split at a
  ·rename_i t p l y;cases a;obtain⟨b,A,g,u,B,N⟩:=s.rA.ow i _ _ _ y;rw[f] at A;cases A;exact⟨b,rfl,⟨u,zB.of B⟩,k I w s (λj z=>by cases z;exact⟨_,_,_,y⟩) _ (vU (.inr ⟨B,g,s.rA.pO y f⟩) N)⟩
  ·rename_i t y;cases a;obtain⟨v,A,J⟩:=s.rA.sh i _ y;rw[f] at A;cases A;simp only[nA] at J;obtain⟨b,u,rfl,F,O⟩:=J;exact⟨b,rfl,⟨u,s.rA.sub.seq F⟩,k I w s (λj z=>by cases z) _ (vU (.inl F) O)⟩
  ·cases a
 |val v =>
  (unfold aAb at a;dsimp only at a)
  split at a
  ·rename_i t hd;cases a
   induction v using RV.casesOn with
   |sh d =>
    simp only[RV.d] at hd;subst hd;have f:nA K w (.l t) x:=f;simp only[nA] at f;obtain⟨b,u,rfl,F,O⟩:=f;exact⟨b,rfl,⟨u,s.rA.sub.seq F⟩,k I w s (λj z=>by cases z) _ (vU (.inl F) O)⟩
   |ow d =>
    simp only[RV.d] at hd;subst hd;obtain⟨b,rfl,g,⟨u,B,N⟩,n,m⟩:=f;exact⟨b,rfl,⟨u,zB.of B⟩,k I w s (λj z=>by cases z) _ (vU (.inr ⟨B,g,n⟩) N)⟩
   |od d=>exact f.elim
  ·cases a
def t7(h:ET e=bA)(env:qJ):∀x,fJ e env x=pure x:=λx=>by
 induction e using FC<;>first | rfl | cases h
def tf(b:OA X K P C Z)(a:uF X Z)(h:CH Z c=aA (one,is)):PG X c (gB K one is):=by
 cases c<;>simp only[CH,reduceCtorEq] at h
 ·rename_i x pos
  cases q:Z.QE x with
  |none=>rw[q] at h;cases h
  |some i=>rw[q] at h;cases h;exact zBa (y0 b a q)
 ·rename_i d k pos
  cases q:qL Z d with
  |none=>rw[q] at h;cases h
  |some e =>
   rw[q] at h;cases h;obtain⟨f,g,j,l⟩:=sf b a q;exact Fb b f g j
end
end CI
namespace CI
set_option tactic.hygienic true
open PySem PySem.Spec PyProof.Rows L2
section
variable{K:kA}{Y Y':St}{H G H' G':Hp}
def zQ(h:(as++AB n Sl.un)[i]?=aA s):(as[i]?=aA s)\/(as.length<=i/\s=.un):=by
 by_cases a:i<as.length
 ·rw[NL a] at h;exact .inl h
 ·rw[LL (by lia),K2] at h;split at h
  ·cases h;exact .inr ⟨by lia,rfl⟩
  ·cases h
def I0(h:i<a.length):(L2.start N a)[i]?=(a.map aA)[i]?:=by
 unfold L2.start;rw[NL (by rw[vA];exact h)]
def GA.pad(r:GA K as (m.map aA) H G)(y:N.length=as.length+n):GA K (as++AB n .un) (L2.start N m) H G/\∀a,AA (as++AB n .un) (L2.start N m) a->AA as (m.map aA) a:=by
 have hl:as.length=m.length:=by have:=r.len;rwa[vA] at this
 have st:∀i:Nat,i<as.length->(L2.start N m)[i]?=(m.map aA)[i]?:=λi h=>I0 (by lia)
 have lt:∀{i:Nat} {s:Sl},as[i]?=aA s->i<as.length:=λh=>(BD.mp h).1
 refine⟨⟨by unfold L2.start;simp;lia,r.sub,λi d h=>?_,λi d p l h=>?_,λi j d p l B C F a h1 h2 h3 x=>?_⟩,λa ⟨i,d,p,l,h1,h2⟩=>?_⟩
 ·rcases zQ h with h | ⟨_,h⟩
  ·rw[st i (lt h)];exact r.sh i d h
  ·cases h
 ·rcases zQ h with h | ⟨_,h⟩
  ·rw[st i (lt h)];exact r.ow i d p l h
  ·cases h
 ·rcases zQ h1 with h1 | ⟨_,h1⟩
  ·rcases zQ h2 with h2 | ⟨_,h2⟩
   ·rw[st i (lt h1)] at h3;rw[st j (lt h2)] at x;exact r.inj _ _ _ _ _ _ _ _ _ h1 h2 h3 x
   ·cases h2
  ·cases h1
 ·rcases zQ h1 with h1 | ⟨_,h1⟩
  ·rw[st i (lt h1)] at h2;exact⟨i,d,p,l,h1,h2⟩
  ·cases h1
theorem uP:∀{as:List Sl} {U:Env} (i:Nat),as.length<=U.length->(back as U)[i]?=(as[i]?).bind λa=>match a with | .ow _ _ _=>U[i]? | a=>aA a
 |[],U,i,_=>by cases U<;>rfl
 |a::as,[],i,h=>by simp at h
 |a::as,b::U,i,h=>by
  have c:=λj=>uP (as:=as) (U:=U) j (by simpa using h)
  cases i with
  |zero=>cases a<;>rfl
  |succ i=>cases a<;>exact c i
def ZR(r:GA K as (t.map aA) H G)(F:as.all WI=bA)(I:N.length=as.length+n)
  (a:EB K (as++AB n .un) (L2.start N t) H G m Y' H' G'):DA K as (t.map aA) H G (back as m) H' G'/\∀c,AA (back as m) (t.map aA) c->AA m Y' c:=by
 have Q:as.length=t.length:=by have:=r.len;rwa[vA] at this
 have lt:∀{i:Nat} {s:Sl},as[i]?=aA s->i<as.length:=λh=>(BD.mp h).1
 have st:∀i:Nat,i<as.length->(L2.start N t)[i]?=(t.map aA)[i]?:=λi h=>I0 (by lia)
 have k:as.length<=m.length:=by rw[a.len,NC];lia
 have A:∀{i:Nat} {s:Sl},as[i]?=aA s->(as++AB n .un)[i]?=aA s:=λh=>by rw[NL (lt h)];exact h
 have pin:∀(i:Nat) d p l,as[i]?=aA (.ow d p l)->p=bA/\Y'[i]?=(t.map aA)[i]?/\∃o,m[i]?=aA (.ow o bA l):=λi d p l h=>by(have f:=IH.mp F _ (pF h);simp only[WI] at f;subst f;obtain⟨g,o,u⟩:=a.pin i d l (A h);exact⟨rfl,g.trans (st i (lt h)),o,u⟩)
 have q:∀{i:Nat} {s:Sl},(back as m)[i]?=aA s->(∃d o l,as[i]?=aA (.ow d bA l)/\s=.ow o bA l/\m[i]?=aA s/\Y'[i]?=(t.map aA)[i]?)\/(as[i]?=aA s/\∀d p l,s≠.ow d p l):=λ{i s} h=>by
  rw[uP i k] at h
  cases e:as[i]? with
  |none=>rw[e] at h;cases h
  |some b =>
   rw[e] at h
   cases b with
   |ow d p l =>
    obtain⟨rfl,f,o,g⟩:=pin i d p l e;simp only[sG] at h;rw[g] at h;cases h;exact .inl ⟨d,o,l,rfl,rfl,g,f⟩
   |un=>cases h;exact .inr ⟨rfl,λd p l z=>nomatch z⟩
   |mv=>cases h;exact .inr ⟨rfl,λd p l z=>nomatch z⟩
   |sh d=>cases h;exact .inr ⟨rfl,λd p l z=>nomatch z⟩
 have x:(back as m).length=as.length:=by
  apply xi
  ·refine R3 λz=>?_
   have:=uP (U:=m) as.length k
   rw[pC z,uJ (kB _)] at this;cases this
  ·refine R3 λz=>?_
   have f:=uP (U:=m) (back as m).length k;rw[uJ (kB _),pC z] at f
   cases e:as[(back as m).length] with
   |ow d p l =>
    have J:as[(back as m).length]?=aA (.ow d p l):=by rw[pC z,e]
    obtain⟨_,_,o,g⟩:=pin _ d p l J;rw[e] at f;simp only[sG] at f;rw[g] at f;cases f
   |un=>rw[e] at f;cases f
   |mv=>rw[e] at f;cases f
   |sh d=>rw[e] at f;cases f
 refine⟨⟨⟨by rw[x];exact r.len,a.rA.sub,λi d h=>?_,λi d p l h=>?_,λi j d p l o R M c f g u y=>?_⟩,a.ext.weaken λc z=>(r.pad I).2 c z,λi=>?_⟩,λc ⟨i,d,p,l,f,g⟩=>?_⟩
 ·rcases q h with ⟨_,_,_,_,z,_,_⟩ | ⟨z,_⟩
  ·cases z
  ·obtain⟨v,f,g⟩:=r.sh i d z;exact⟨v,f,nA.mono a.ext.gg d g⟩
 ·rcases q h with ⟨X,o,M,f,g,u,y⟩ | ⟨_,z⟩
  ·rw[<- y];exact a.rA.ow i d p l u
  ·exact absurd rfl (z d p l)
 ·rcases q f with ⟨_,_,_,_,_,B,C⟩ | ⟨_,z⟩
  ·rcases q g with ⟨_,_,_,_,_,O,P⟩ | ⟨_,w⟩
   ·rw[<- C] at u;rw[<- P] at y;exact a.rA.inj _ _ _ _ _ _ _ _ _ B O u y
   ·exact absurd rfl (w _ _ _)
  ·exact absurd rfl (z _ _ _)
 ·rw[uP i k]
  cases e:as[i]? with
  |none=>trivial
  |some b =>
   cases b with
   |ow d p l =>
    obtain⟨rfl,_,o,g⟩:=pin i d p l e;simp only[sG];rw[g];exact⟨rfl,rfl⟩
   |un=>trivial
   |mv=>trivial
   |sh d=>trivial
 ·rcases q f with ⟨_,_,_,_,_,B,C⟩ | ⟨_,z⟩
  ·rw[<- C] at g;exact⟨i,d,p,l,B,g⟩
  ·exact absurd rfl (z _ _ _)
end
end CI
namespace L2
set_option tactic.hygienic true
open PySem PySem.Spec PyProof.Rows
theorem aAr[BEq O][LawfulBEq O]:∀{l:List (O×B)} {x:O} {k:B},l.lookup x=aA k->(x,k)∈l
 |[],x,k,h=>by simp at h
 | (y,a)::r,x,k,h=>by
  rw[oH] at h;split at h
  ·rename_i e;have e:=yC e;subst e;cases h;exact MG
  ·exact tD _ (aAr h)
def Vn(h:∀p∈b.names,p.2=.free->∃c,env.cells.lookup p.1=aA c) :
  ∃cl,closureFor b env=pure cl/\(∀x c,cl.lookup x=aA c->env.cells.lookup x=aA c)/\∀p∈b.names,p.2=.free->∃c,cl.lookup p.1=aA c:=by
 have key:∀(names:List (fA×nI)) (d:List (fA×jA)),(∀p∈names,p.2=.free->∃c,env.cells.lookup p.1=aA c)->(∀x c,d.lookup x=aA c->env.cells.lookup x=aA c) ->
   ∃cl,(forIn names d λ(p:fA×nI) (u:List (fA×jA))=>(if(p.2==NameKind.free)=bA then do let a <- cellOf env p.1;pure (ForInStep.yield ((p.1,a)::u)) else pure (ForInStep.yield u):oF _))=pure cl /\
    (∀x c,cl.lookup x=aA c->env.cells.lookup x=aA c)/\(∀p∈names,p.2=.free->∃c,cl.lookup p.1=aA c)/\∀x c,d.lookup x=aA c->∃i,cl.lookup x=aA i:=by
  intro names
  induction names with
  |nil=>intro d _ n;exact⟨d,by simp,n,λp g=>(nomatch g),λx c e=>⟨c,e⟩⟩
  |cons p r v =>
   intro d s n;by_cases g:p.2=.free
   ·obtain⟨c,y⟩:=s p MG g;have e:cellOf env p.1=pure c:=by unfold cellOf;rw[y]
    obtain⟨cl,j,k,l,m⟩:=v ((p.1,c)::d) (λq f=>s q (tD _ f)) (λx i z=>by
     rw[oH] at z;split at z
     ·rename_i w;rw[yC w,y];exact z
     ·exact n x i z)
    refine⟨cl, ?_,k,λq f o=>?_,λx i z=>?_⟩
    ·rw[rR];have t:(p.2==NameKind.free)=bA:=by rw[g];rfl
     rw[MA t,e];simp only[pure_bind];exact j
    ·rcases WC.mp f with w | w
     ·subst w;exact m q.1 c (by rw[oH];simp)
     ·exact l q w o
    ·by_cases w:x=p.1
     ·subst w;exact m p.1 c (by rw[oH];simp)
     ·refine m x i ?_;rw[oH]
      have:(x==p.1)=dA:=PM.mpr w
      rw[this];exact z
   ·obtain⟨cl,j,k,l,m⟩:=v d (λq f=>s q (tD _ f)) n;refine⟨cl, ?_,k,λq f o=>?_,m⟩
    ·rw[rR];have t:¬(p.2==NameKind.free)=bA:=by simpa using g
     rw[JA t];simp only[pure_bind];exact j
    ·rcases WC.mp f with w | w
     ·subst w;exact absurd o g
     ·exact l q w o
 obtain⟨cl,j,k,l,_⟩:=key b.names [] h (λx c e=>by simp at e);refine⟨cl, ?_,k,l⟩;unfold closureFor
 have:(forIn b.names ([]:List (fA×jA)) λ(x:fA×nI) (r:List (fA×jA))=>(match x with | (name,kind)=>if(kind==NameKind.free)=bA then do let a <- cellOf env name;pure (ForInStep.yield ((name,a)::r)) else pure (ForInStep.yield r):oF _))=pure cl:=j
 simp only[this,pure_bind,bind_pure]
 first | rfl | (rw[this];rfl) | skip
theorem NZ{env:qJ}:∀{names:List (fA×nI)} {x:fA} {b:nI},
  (names.map λ(n,k)=>if(k==NameKind.free&&env.scope.kind==.function&&env.kindOf n==aA .cell) then(n,NameKind.cell) else(n,k)).lookup x=aA b->∃k,names.lookup x=aA k/\(b=k\/(k=.free/\b=.cell))
 |[],x,b,h=>by simp at h
 | (n,k)::r,x,b,h=>by
  have d:=@NZ env r x b;have a:oJ x ((if(k==NameKind.free&&env.scope.kind==.function&&env.kindOf n==aA .cell)=bA then(n,NameKind.cell) else(n,k))::(r.map λ(n,k)=>if(k==NameKind.free&&env.scope.kind==.function&&env.kindOf n==aA .cell) then(n,NameKind.cell) else(n,k)))=aA b:=h;by_cases c:(k==NameKind.free&&env.scope.kind==.function&&env.kindOf n==aA .cell)=bA
  ·rw[MA c] at a;rw[oH] at a ⊢
   cases hx:x==n with
   |true=>rw[hx] at a;cases a;simp only[RA,pG] at c;exact⟨k,rfl,.inr ⟨c.1.1,rfl⟩⟩
   |false=>rw[hx] at a;exact d a
  ·rw[JA c] at a;rw[oH] at a ⊢
   cases hx:x==n with
   |true=>rw[hx] at a;cases a;exact⟨k,rfl,.inl rfl⟩
   |false=>rw[hx] at a;exact d a
theorem Dc{env:qJ}:∀{names:List (fA×nI)} {x:fA},names.lookup x=aA .free ->
  (names.map λ(n,k)=>if(k==NameKind.free&&env.scope.kind==.function&&env.kindOf n==aA .cell) then(n,NameKind.cell) else(n,k)).lookup x=aA .cell \/
  (names.map λ(n,k)=>if(k==NameKind.free&&env.scope.kind==.function&&env.kindOf n==aA .cell) then(n,NameKind.cell) else(n,k)).lookup x=aA .free
 |[],x,h=>by simp at h
 | (n,k)::r,x,h=>by
  have a:=@Dc env r x;show oJ x ((if(k==NameKind.free&&env.scope.kind==.function&&env.kindOf n==aA .cell)=bA then(n,NameKind.cell) else(n,k))::_)=_\/oJ x ((if(k==NameKind.free&&env.scope.kind==.function&&env.kindOf n==aA .cell)=bA then(n,NameKind.cell) else(n,k))::_)=_;rw[oH] at h;by_cases b:(k==NameKind.free&&env.scope.kind==.function&&env.kindOf n==aA .cell)=bA
  ·rw[MA b,oH]
   cases hx:x==n with
   |true=>exact .inl rfl
   |false=>rw[hx] at h;exact a h
  ·rw[JA b,oH]
   cases hx:x==n with
   |true=>rw[hx] at h;exact .inr h
   |false=>rw[hx] at h;exact a h
theorem oo(I:Nat->zA->Prop)
  (d:∀n s,I n s->tA (model prog w) A (pyNext it) (λr f=>match r with
   |none=>R (.ok .next) f
   |some v=>tA (model prog w) A (letOwnedTupleGo target it v) (λ_ f=>tA (model prog w) A (assign target env v) (λ_ j =>
     tA (model prog w) A (forIn FA bA λc r=>if r=bA then do let ok <- isTrue c env (eval c env);pure (ForInStep.yield ok) else pure (ForInStep.yield r)) (λok g =>
      if ok=bA then tA (model prog w) A (eval uC env) (λx k =>
       tA (model prog w) A (call (.builtin "list.append") [WL,x]) (λ_ l=>∃m,m<n/\I m l) (notedBy (model prog w) A env λe a=>R (.error e) a) k) (notedBy (model prog w) A env λe a=>R (.error e) a) g
      else ∃m,m<n/\I m g) (notedBy (model prog w) A env λe a=>R (.error e) a) j) (notedBy (model prog w) A env λe a=>R (.error e) a) f) (notedBy (model prog w) A env λe a=>R (.error e) a) f) (notedBy (model prog w) A env λe a=>R (.error e) a) s)
  (n:Nat) (h:I n s):oI (model prog w) A (.compLoop (.ListComp uC [⟨target,iter,FA,0⟩] scope pos) 0 it WL env) R s:=by
 refine codeAny_loop rfl I (λn s q=>?_) n h;show tA _ A ((compTurn (.ListComp uC [⟨target,iter,FA,0⟩] scope pos) 0 it WL env).onRaise (λx=>do noteFrame x env;theTreesLotGoes x)) _ _ s;refine wpAny_noted ?_;rw[compTurn_list];refine pA (lV (pA (oG (d n s q) (λr f o=>?_) λ_ _ b=>b)))
 cases r with
 |none=>exact WA o
 |some v =>
  refine pA (oG o (λ_ t i=>?_) λ_ _ b=>b);refine pA (oG i (λ_ j u=>pA (oG u (λok g p=>?_) λ_ _ b=>b)) λ_ _ b=>b)
  cases ok with
  |false=>exact WA ⟨rfl,p⟩
  |true =>
   exact pA (pA (oG p (λx k y=>pA (oG y (λ_ l z=>WA (WA ⟨rfl,z⟩)) λ_ _ b=>b)) λ_ _ b=>b))
end L2
namespace L2
set_option tactic.hygienic true
open PySem PySem.Spec PyProof.Rows
def eS(X:Cx)(a:kF)(cl:List (fA×jA))(C:jA)(b:List fA)(c:zA)(d:Hp)(e:List jA)(xe:gA->zA->Prop):Cx :=
 { X with N:=b,s₀:=c,H₀:=d,env:=compEnvC a cl C X.env,outer:=X.stack,stack:=X.stack,ex:=e,fn:=λ_=>dA,pn:=[],xe:=xe }
def rF(X:Cx)(a:kF)(b:List fA)(c:Cx):Prop:=∃cl C d e f xe,c=eS X a cl C b d e f xe
section
variable{s:zA}
def rIa{i:Nat}(h:(start N b)[i]?=aA (aA v)):b[i]?=aA v:=by
 unfold start at h;by_cases a:i<b.length
 ·rw[NL (by rw[vA];exact a),jD,pC a] at h;rw[pC a];simpa using h
 ·rw[LL (by rw[vA];lia),K2] at h;split at h
  ·cases h
  ·cases h
def iA.block(I:iA X cA Y H s)
  (F:B.kind=.function) (J:∀y∈B.names,y.2≠.cell) (sub:∀x c,cl.lookup x=aA c->X.env.cells.lookup x=aA c) (C:∀p∈B.names,p.2=.free->∃c,cl.lookup p.1=aA c)
  (U:∀p∈B.names,p.2=.free->X.env.kindOf p.1=aA .cell\/X.env.kindOf p.1=aA .free)
  (R:∀b∈Z,TC X cA H b) (Mt:∀b∈Z,b<s.heap.objs.size) (b8:vs.length<=O.length)
  (P:∀(i:Nat) x v,O[i]?=aA x->vs[i]?=aA v->∃j:Nat,X.N[j]?=aA x/\Y[j]?=aA (aA v)/\B.names.lookup x=aA .free)
  (m:fA->Option gA) (rY:h₄.Ns s.heap.objs.size m) (ku:jH s.heap.objs.size (s.heap.push ob) h₄) :
  iA (eS X B cl s.heap.objs.size O s H Z xe) [] (start O vs) H { s with heap:=h₄,toks:=tk }:=by
 have old:∀b o,s.heap.get? b=aA o->h₄.get? b=aA o:=λb o e=>(ku.2 b (XC (OB e))).trans (jC _ e)
 have freeOf:∀x,(relabel B X.env).names.lookup x=aA .cell\/(relabel B X.env).names.lookup x=aA .free->B.names.lookup x=aA .free:=λx hx=>by
  rcases hx with hx | hx
  ·obtain⟨k,h1,h2⟩:=NZ (env:=X.env) hx;rcases h2 with h2 | ⟨h2,_⟩
   ·subst h2;exact absurd rfl (J _ (aAr h1))
   ·subst h2;exact h1
  ·obtain⟨k,h1,h2⟩:=NZ (env:=X.env) hx;rcases h2 with h2 | ⟨_,h2⟩
   ·subst h2;exact h1
   ·cases h2
 have ok:(eS X B cl s.heap.objs.size O s H Z xe).Ok:=by
  refine⟨I.ok.mod,F,I.ok.glob,I.ok.blt,kB _,λx y c h1 h2=>I.ok.inj x y c (sub x c h1) (sub y c h2),λx hx=>?_,λx c h=>(nomatch h),I.ok.hd,I.ok.frames,.inl rfl,λb M=>⟨XC (Mt b M),λx c e=>(R b M).2.2.2.2.1 x c (sub x c e)⟩,λb o e=>I.bs b o e,TB I.ok.TH I.sz,λb o e M=>?_,λb M z=>?_,I.stack,I.L0⟩
  ·exact C (x,.free) (aAr (freeOf x hx)) rfl
  ·rcases(R b M).2.2.2.1 with z | z
   ·exact I.ok.gL b o e z
   ·rw[(I.ok.bs b o e).1] at z;cases z
  ·rcases WC.mp (I.gU b z) with z | z
   ·exact(R b M).2.1 z
   ·exact(R b M).2.2.1 z
 refine⟨ok,rfl,I.bare,Un.kept old,⟨m,rY,λi x v e1 e2 e3=>?_⟩,λx c e=>?_,I.SA.fresh (kB _),λx c e=>I.xF x c (sub x c e),λp hp=>(nomatch hp),I.SA.kept old, ?_⟩
 ·obtain⟨j,h1,h2,h3⟩:=P i x v e1 (rIa e2);have hk:=U (x,.free) (aAr h3) rfl;obtain⟨m0,V7,hl⟩:=I.loc;obtain⟨u,r,lk⟩:=hl j x v h1 h2 (.inr hk);refine⟨u,r, ?_⟩;rcases lk with ⟨k,_⟩ | ⟨k,c,e,z⟩
  ·rcases hk with hk | hk
   ·rw[hk] at k;cases k
   ·rw[hk] at k;cases k
  ·obtain⟨c',Q⟩:=C (x,.free) (aAr h3) rfl;have ec:=sub x c' Q;rw[e] at ec;cases ec;obtain⟨o,ho,hd⟩:=z;exact .inr ⟨Dc (env:=X.env) h3,c,Q,o,old c o ho,hd⟩
 ·obtain⟨v,o,ho,hd⟩:=I.cell x c (sub x c e);exact⟨v,o,old c o ho,hd⟩
 ·show(start O vs).length=O.length;unfold start;simp
  lia
def xI(X:Cx)(FA:List wA)(t:TT):Prop:=∀(cA:List (jA×qB)) (s:zA) (Y:St) (H:Hp) (Q:Bool->Hp->Prop),iA X cA Y H s->t Y H Q ->
 tA (model X.prog X.w) X.A (forIn FA bA λc r=>if r=bA then do let ok <- isTrue c X.env (eval c X.env);pure (ForInStep.yield ok) else pure (ForInStep.yield r)) (TP X cA Y Q) X.xe s
def oEa:xI X [] (λY H Q=>Q bA H):=λcA s Y H Q I h=>wpAny_tests_nil ⟨H,I,h⟩
def pEa(h:PT X c t):xI X [c] t:=λcA s Y H Q I q=>wpAny_tests_one (h cA s Y H Q I q)
def X0(N:List fA)(a:kF)(f:List fA)(g:TG)(r:TT)(t:TE)(Y:St)(Q:VK)(J:It)(l:Hp):Prop:=∃h:List V,h.length<=f.length /\
 (∀(i:Nat) x v,f[i]?=aA x->h[i]?=aA v->∃j:Nat,N[j]?=aA x/\Y[j]?=aA (aA v)/\a.names.lookup x=aA .free) /\
 ∀D,l D=eA->∃(n:Nat) (d:Nat->St->Hp->Prop),d 0 (start f h) (EA l D (.l []))/\∀i m c,d i m c ->
  (J.stop i c/\Q (.ref D) c)\/(i<n/\J.go i c/\∀x o,J.yU i c x o->g x m o λe u=>r e u λb p =>
   if b=bA then t e p λy q=>∃k,q D=aA (.l k)/\k.length<sizeLine/\d (i+1) e (EA q D (.l (k++[y]))) else d (i+1) e p)
def mO(N:List fA)(a:kF)(b:List fA)(c:TI)(g:TG)(d:TT)(e:TE):TE:=λY H Q=>c Y H (X0 N a b g d e Y Q)
def F6(hc:X.calm=bA)(hi:PI X tg iter wi)(hs:∀x,fJ iter X.env x=pure x)
  (q:a.kind=.function) (F:∀y∈a.names,y.2≠.cell) (U:∀x∈a.names,x.2=.local->a.names.lookup x.1=aA .local)
  (R7:∀p∈a.names,p.2=.free->X.env.kindOf p.1=aA .cell\/X.env.kindOf p.1=aA .free)
  (hg:∀j,rF X a N' j->PG j tg g) (ht:∀j,rF X a N' j->xI j FA tt) (he:∀j,rF X a N' j->PE j uC te) (I:iA X cA Y H s) (h:mO X.N a N' wi g tt te Y H Q)
  (fin:∀(D C:jA) (k:Hp) (s':zA),iA X cA Y k s'->Q (.ref D) k->k C=eA->X.s₀.heap.objs.size<=C->C≠X.env.locals->(∀x c,X.env.cells.lookup x=aA c->c≠C)->(∀p∈X.pn++cA,p.1≠C)->(∃m,s'.heap.Ns C m) ->
   compPost (model X.prog X.w) X.A X.xe use QF (.ref D) C (.ok .next) s') :
  tA (model X.prog X.w) X.A (comprehension (.ListComp uC [⟨tg,iter,FA,0⟩] a pos) a X.env ps (newList []) dA (eval iter X.env) use) QF X.xe s:=by
 obtain⟨cl,Et,sub,Bt⟩:=Vn (env:=X.env) λp hp hf=>I.ok.has p.1 (R7 p hp hf)
 refine wpAny_comprehension_free rfl hs Et q U (UA (hi cA s Y H _ I h) λv s1 h1=>UA h1 λuv l h2=>?_);obtain⟨it,O,tn,J,H2,e,I2,T,B0,f2,vs,b8,himp,hD⟩:=h2;subst e
 have v7:∀b∈O,b<l.heap.objs.size:=λb f=>by(obtain⟨o,e,_⟩:=T.obj _ _ B0 b f;exact OB e)
 refine pK (wpAny_newFunctionEnv F (by intro y hy;simp at hy) (λh₁ K B=>?_) q);dsimp only at K B ⊢;have I3:iA X cA Y (EA H2 l.heap.objs.size (.l [])) { l with heap:=l.heap.push { cls:=.type "list",dict:=eA,data:=.seq ([]:List gA).toArray } }:=I2.jZ (zF:=[]) (t':=l.toks) .nil (pE _);obtain⟨n,LP,l0,turn⟩:=hD l.heap.objs.size I2.fresh;generalize a8:({ l with heap:=l.heap.push { cls:=.type "list",dict:=eA,data:=.seq ([]:List gA).toArray } }:zA)=P at I3;have pY:P.heap=l.heap.push { cls:=.type "list",dict:=eA,data:=.seq ([]:List gA).toArray }:=by rw[<- a8]
 rw[<- pY] at K B ⊢;have f3:∀b∈O,TC X cA (EA H2 l.heap.objs.size (.l [])) b:=λb f=>⟨by rw[pB (XC (v7 b f))];exact(f2 b f).1,(f2 b f).2⟩
 have z7:∀b∈O,b<P.heap.objs.size:=λb f=>by rw[pY,hV];exact Qh (v7 b f)
 let R:Result->zA->Prop:=compPost (model X.prog X.w) X.A X.xe use QF (.ref l.heap.objs.size) P.heap.objs.size
 let j:Cx:=eS X a cl P.heap.objs.size N' P (EA H2 l.heap.objs.size (.l [])) O (notedBy (model X.prog X.w) X.A (compEnvC a cl P.heap.objs.size X.env) λe s'=>R (.error e) s')
 have lY:rF X a N' j:=⟨_,_,_,_,_,_,rfl⟩
 have I4:∀tk,iA j [] (start N' vs) (EA H2 l.heap.objs.size (.l [])) { P with heap:=h₁,toks:=tk }:=λtk=>I3.block q F sub Bt R7 f3 z7 b8 himp _ K B
 have old:∀b o,P.heap.get? b=aA o->h₁.get? b=aA o:=λb o e=>(B.2 b (XC (OB e))).trans (jC _ e)
 have rd:tn 0 h₁:=T.keep _ _ _ B0 λb f o e=>old b o (by rw[pY];exact jC _ e)
 have M:∀{k:Hp},(∀b∈O,k b=eA)->∀b∈O,TC j [] k b:=λhn b f=>⟨hn b f,XC (z7 b f),λz=>by
  rcases WC.mp (I3.gU b z) with z | z
  ·exact(f2 b f).2.1 z
  ·exact(f2 b f).2.2.1 z,.inl f,λx c e=>(f2 b f).2.2.2.2.1 x c (sub x c e),λp hp=>(nomatch hp)⟩
 have loop:∀tk,oI (model X.prog X.w) X.A (.compLoop (.ListComp uC [⟨tg,iter,FA,0⟩] a pos) 0 (.ref it) (.ref l.heap.objs.size) (compEnvC a cl P.heap.objs.size X.env)) R { P with heap:=h₁,toks:=tk }:=by
  intro tk;refine oo (λm s'=>∃i Y' k,m=n-i/\iA j [] Y' k s'/\tn i s'.heap/\(∀b∈O,k b=eA)/\LP i Y' k) ?_ n ⟨0,_,_,by simp,I4 tk,rd,λb f=>(f3 b f).1,l0⟩
  rintro m s5 ⟨i,Y5,H5,rfl,I5,sd,A7,w5⟩
  rcases turn i Y5 H5 w5 with ⟨stop,qn⟩ | ⟨hin,go,step⟩
  ·refine UA (T.done j rfl rfl rfl hc i [] s5 Y5 H5 _ I5 (M A7) sd stop) λr s6 t=>?_
   obtain⟨hr,I6⟩:=t;subst hr;obtain⟨m6,Xt,_⟩:=I6.loc;have IX:iA X cA Y H5 s6:=I3.r6 (s':=s6) (ch:=O) I6.os I6.base I6.SA I6.bare λb f=>⟨(f2 b f).2.2.2.1,(f2 b f).2.1,(f2 b f).2.2.2.2.1,(f2 b f).2.2.2.2.2⟩
   refine fin _ _ H5 s6 IX qn I6.free I3.sz (λz=>GL _ (MC I3.lt (NF z))) (λx c e z=>?_) (λp hp z=>?_) ⟨m6,Xt⟩
   ·obtain⟨v,o,ho,hd⟩:=I3.cell x c e;rw[z] at ho;exact GL _ (OB ho)
   ·have:=(I3.pin p hp).1
    rw[z] at this;exact GL _ (OB this)
  ·refine UA (T.item j rfl rfl rfl hc i [] s5 Y5 H5 _ I5 (M A7) sd go) λr s6 t=>?_
   obtain⟨u,hr,h6⟩:=t;subst hr;refine UA h6 λ_ s7 t=>?_
   obtain⟨x,H7,I7,r7,y7,F0,qs⟩:=t;have fj:=I7.pinned (M qs) (T.obj _ _ F0)
   have again:∀{Z:St} {H8:Hp} {s8:zA},iA j ([]++AQ O s7.heap) Z H8 s8->LP (i+1) Z H8->∃m,m<n-i/\∃i Y' k,m=n-i/\iA j [] Y' k s8/\tn i s8.heap/\(∀b∈O,k b=eA)/\LP i Y' k:=λ{Z H8 s8} I8 w8=>by(refine⟨n-(i+1),by lia,i+1,Z,H8,rfl,I8.uU,T.keep _ _ _ F0 λb f o e=>(I8.pin (b,o) (SF _ (SF _ (sT f e)))).1,λb f=>?_,w8⟩;obtain⟨o,e,d⟩:=T.obj _ _ F0 b f;exact(I8.pin (b,o) (SF _ (SF _ (sT f e)))).2.1)
   refine UA (hg j lY _ s7 Y5 H7 x u _ fj r7 (step x H7 y7)) λ_ s8 t=>?_
   obtain⟨Z,H8,I8,q8⟩:=t;refine UA (ht j lY _ s8 Z H8 _ I8 q8) λb s9 t=>?_
   obtain⟨H9,I9,q9⟩:=t
   cases b with
   |false=>exact again I9 q9
   |true =>
    refine UA (he j lY _ s9 Z H9 _ I9 q9) λy s10 t=>?_
    obtain⟨yv,aj,bj,r10,ys,hy,t,q10⟩:=t;refine UA (Ea (X:=j) _ s10 Z aj (.ref l.heap.objs.size) [yv] (.ref l.heap.objs.size) [y] (λ_ k=>LP (i+1) Z k) bj rfl (.cons r10 .nil) ⟨_,ys,yv,rfl,rfl,hy,t,q10⟩) λ_ s11 t=>?_
    obtain⟨_,H11,dj,_,q11⟩:=t;exact again dj q11
 subst a8;exact codeAny_compStart_list (loop _) (T.self _ 0 _ _ _ rd (loop _))
def iBa(t:X.calm=bA)(u:PI X r iter v)(w:∀x,fJ iter X.env x=pure x)
  (f:a.kind=.function) (i:∀y∈a.names,y.2≠.cell) (c:∀x∈a.names,x.2=.local->a.names.lookup x.1=aA .local)
  (j:∀p∈a.names,p.2=.free->X.env.kindOf p.1=aA .cell\/X.env.kindOf p.1=aA .free)
  (z:∀d,rF X a N' d->PG d r g) (A:∀d,rF X a N' d->xI d FA B) (F:∀d,rF X a N' d->PE d k J) :
  PE X (.ListComp k [⟨r,iter,FA,0⟩] a pos) (mO X.N a N' v g B J):=by
 intro cA s Y H Q I h;rw[eval_ListComp];refine F6 (use:=eA) (QF:=EP X cA Y Q) t u w f i c j z A F I h λD C K M O q P R U l Z n=>?_
 obtain⟨m,n⟩:=n;refine⟨m,n,λh' sb=>⟨.ref D,K,O.turned (t':=M.toks) (λb o hb e=>(sb.2 b hb).trans e) P U (.inr (LU R)) l Z,rfl,q⟩⟩
def nDa(t:swapsWith (.ListComp f [⟨r,iter,FA,0⟩] scope pos) (aA (.Name y py)) l.line X.env=pure bA)
  (P:X.N.Nodup) (Q:X.N[i]?=aA y) (R:Loc X.env.scope y) (U:X.fn y=bA\/X.env.scope.names.lookup y=aA .local) (Z:X.calm=bA) (hi:PI X r iter wi) (hs:∀x,fJ iter X.env x=pure x)
  (j:scope.kind=.function) (k:∀y∈scope.names,y.2≠.cell) (c:∀x∈scope.names,x.2=.local->scope.names.lookup x.1=aA .local)
  (u:∀p∈scope.names,p.2=.free->X.env.kindOf p.1=aA .cell\/X.env.kindOf p.1=aA .free)
  (hg:∀d,rF X scope w d->PG d r g) (ht:∀d,rF X scope w d->xI d FA tt) (he:∀d,rF X scope w d->PE d f te) :
  PS X (.Assign [.Name y py] (.ListComp f [⟨r,iter,FA,0⟩] scope pos) l) (lU (mO X.N scope w wi g tt te) (kM i)):=by
 intro cA s Y H D0 I h;rw[exec_Assign_Name_used _ _ _ _ t];refine pA (lV (pA ?_));show tA _ X.A (do let _ <- comprehension (.ListComp f [⟨r,iter,FA,0⟩] scope pos) scope X.env _ (newList []) dA (eval iter X.env) (aA (assign (.Name y py) X.env))) _ _ s;refine pA (oG (F6 (use:=aA (assign (.Name y py) X.env)) (QF:=λ_ z=>SP X cA D0 .next z) Z hi hs j k c u hg ht he I h λD C H' z I' q hC B O n hp F=>?_) (λ_ z hq=>WA (WA hq)) λ_ _ e=>e);obtain⟨m,F⟩:=F;refine Mh (Ed I' P Q R (v:=.ref D) rfl (λs2 I2 B=>?_) U);obtain⟨a,sb,J⟩:=B
 have K:a≠C:=by
  rcases J with rfl | J
  ·exact sD O
  ·exact n _ _ J
 refine⟨m,F.sameBut sb (sD K),λh' M=>⟨_,H',I2.turned (t':=s2.toks) (λb o hb e=>(M.2 b hb).trans e) hC O (.inr (LU B)) n hp,q⟩⟩
end
end L2
namespace CI
set_option tactic.hygienic true
open PySem PySem.Spec PyProof.Rows L2
section
variable{X:Cx}{K:kA}{P:VA}{C:Calls}{Z:CC}
theorem OA.inner(xo:OA X K P C Z)(hk:X.env.scope.kind=.function)(nd:(aAx scope++aAt scope).Nodup)(b:rF X scope (Z.inner scope).N I):OA I K P C (Z.inner scope):=by
 obtain⟨cl,C0,s₃,H₃,fp,xe,rfl⟩:=b;refine OA.of xo.vC rfl ?_ nd xo.calm xo.hh xo.hu xo.c xo.blt (λx f h=>?_) (λx ns h=>?_) (λm H c f h1 h2=>?_) xo.rm xo.sub xo.bD xo.yH ⟨xo.exc,λx h=>?_⟩ xo.KA ⟨λx f h=>?_,λx f h=>?_,λm H c f h1 h2=>?_⟩ xo.tp
 ·show(relabel scope X.env).names=(Z.inner scope).names;unfold relabel CC.inner;simp only;congr 1
  funext p
  obtain⟨n,k⟩:=p;have e:X.env.kindOf n=Z.names.lookup n:=by unfold V3;rw[xo.nm]
  simp only[hk,e];simp
 ·obtain⟨j,r,y,k,h1,h2,h3,B,h5⟩:=(xo.fn x f h).ex;exact⟨⟨j,r,y,k,h1,h2,h3,B,h5⟩⟩
 ·obtain⟨F,j,r,y,h1,h2,h3,B,h5,J⟩:=(xo.cls x ns h).ex;exact⟨⟨F,j,r,y,h1,h2,h3,B,h5,J⟩⟩
 ·obtain⟨F,j,r,y,k,M,O,Q,R,U,Y⟩:=(xo.XD m H c f h1 h2).ex;exact⟨⟨F,j,r,y,k,M,O,Q,R,U,Y⟩⟩
 ·exact⟨trivial⟩
 ·obtain⟨j,r,y,k,h1,h2,h3,B,h5⟩:=(xo.fnX x f h).ex;exact⟨⟨j,r,y,k,h1,h2,h3,B,h5⟩⟩
 ·exact⟨trivial⟩
 ·exact⟨trivial⟩
def eK(K:kA)(P:VA)(C:Calls)(d:List E):TT:=λY H Q=>∃(U:Env) (G:Hp) (b:Bool) (a:Env),GA K U Y H G/\KC P C d U=some (.ok (.sh (.bl b)),a) /\
 ∀c e,DA K U Y H G a c e->Q b c
def Zb:xI X [] (eK K P C []):=λcA s Y H Q I a=>by
 obtain⟨U,G,b,c,r,e,k⟩:=a;rw[KC] at e;cases e;exact oEa cA s Y H Q I (k H G (DA.refl r))
def cc(h:IA X K P C c a):xI X [c] (eK K P C [a]):=λcA s Y H Q I d=>by
 obtain⟨U,G,b,f,r,e,k⟩:=d;refine pEa h.t cA s Y H Q I ?_;rw[KC] at e;obtain⟨v,g,e1,e2⟩:=rB e;split at e2
 ·rw[KC] at e2;cases e2;exact⟨U,G,bA,_,r,e1,k⟩
 ·cases e2;exact⟨U,G,dA,_,r,e1,k⟩
 ·cases e2
theorem EB.bO(b:EB K U Y H G j m y r)(h:H a=eA)(g:r a=eA)(n:¬AA j m a):EB K U Y H G j m (EA y a o) r:=by
 refine⟨b.rA.bO g n,⟨b.ext.gg,λc u e B=>?_,λc e=>?_,b.ext.gn⟩,b.own,b.un,b.pin,b.len⟩
 ·have:c≠a:=λz=>by subst z;rw[h] at e;cases e
  rw[pB this];exact b.ext.hh c u e B
 ·by_cases x:c=a
  ·subst x;rw[oC] at e;cases e
  ·rw[pB x] at e;exact b.ext.hx c e
theorem HW{bind:D->Env->Option Env}:∀{h b a:List D} {U f:Env},dF g i bind h b U=some (.ok a,f)->b.length<=a.length
 |[],b,a,U,f,e=>by simp only[dF,XB,ZE,Out.ok.injEq] at e;rw[e.1];exact kB _
 |d::h,b,a,U,f,e=>by
  simp only[dF] at e;split at e
  ·cases e
  ·obtain⟨c,k,e1,e2⟩:=rB e;split at e2
   ·obtain⟨v,l,m,j⟩:=rB e2
    have:=HW j
    simp at this
    lia
   ·exact HW e2
   ·cases e2
theorem Yc:∀(imp:List Nat) (U:Env) (as:List Sl) (g:Env),GA K U Y H G->aAk (imp.map λ_=>bA) (imp.map Hd.slot) U=aA (as,g) ->
  ∃b,ED K H G own new Y (imp.map Hd.slot) b/\b.length=imp.length/\(∀a,¬bG (imp.map Hd.slot) b a)/\∀(j:Nat) v,b[j]?=aA v->∃i:Nat,imp[j]?=aA i/\Y[i]?=aA (aA v)
 |[],U,as,g,r,e=>⟨[],rfl,rfl,λa z=>z,λj v h=>by simp at h⟩
 |i::imp,U,as,g,r,e=>by
  have go:∀(f:Env) (c:List Sl) (k:Env),GA K f Y H G->aAk (imp.map λ_=>bA) (imp.map Hd.slot) f=aA (c,k)->(∃v,Y[i]?=aA (aA v)) ->
    ∃b,ED K H G own new Y ((i::imp).map Hd.slot) b/\b.length=(i::imp).length/\(∀a,¬bG ((i::imp).map Hd.slot) b a)/\∀(j:Nat) v,b[j]?=aA v->∃o:Nat,(i::imp)[j]?=aA o/\Y[o]?=aA (aA v):=by
   intro f c k t e2 ⟨v,s⟩;obtain⟨b,u,x,A,B⟩:=Yc imp f c k t e2;refine⟨v::b,⟨v,b,rfl,s,u,λd a z=>(nomatch z)⟩,by simp[x],λa z=>A a z,λj w m=>?_⟩
   cases j with
   |zero=>simp only[nH,XB] at m;subst m;exact⟨i,rfl,s⟩
   |succ j=>exact B j w (by simpa using m)
  rw[MB,MB,oT] at e;split at e
  ·rename_i d n
   cases q:aAk (imp.map λ_=>bA) (imp.map Hd.slot) U with
   |none=>rw[q] at e;cases e
   |some y=>exact go U y.1 y.2 r q (r.bound (by rw[n];rfl))
  ·rename_i d p l n
   cases q:aAk (imp.map λ_=>bA) (imp.map Hd.slot) (U.set i .un) with
   |none=>rw[q] at e;cases e
   |some y=>exact go _ y.1 y.2 (r.unset i) q (r.bound (by rw[n];rfl))
  ·cases e
def qEa(g:∀i,o=aA i->∃d p l,a[i]?=aA (.ow d p l))(e:aAs o a k=aA m)(h:UD (aAg o a) k):UD a m:=by
 cases o with
 |none=>simp only[aAs,XB] at e;subst e;exact h
 |some i =>
  obtain⟨d,p,l,c⟩:=g i rfl;simp only[aAs] at e;split at e
  ·rename_i sl n f;rw[c] at f;cases f;cases e;intro j;by_cases b:j=i
   ·subst b;rw[c,sI (BD.mp n).1];exact bF.refl _
   ·have:=h j
    rw[PD (λz=>b z.symm)]
    have e2:(aAg (aA i) a)[j]?=a[j]?:=by(show(a.set i .un)[j]?=_;rw[PD (λz=>b z.symm)])
    rw[e2] at this;exact this
  ·cases e
theorem l8{Z:CC}:∀{a:List fA} {imp:List Nat},Z.OI a=aA imp->imp.length=a.length/\∀(j:Nat) x i,a[j]?=aA x->imp[j]?=aA i->Z.N[i]?=aA x
 |[],imp,h=>by simp only[CC.OI,XB] at h;subst h;exact⟨rfl,λj x i z=>by simp at z⟩
 |x::a,imp,h=>by
  simp only[CC.OI] at h
  cases q:Z.N.idxOf? x with
  |none=>rw[q] at h;cases h
  |some i =>
   rw[q] at h;simp only[sG] at h
   cases q2:Z.OI a with
   |none=>rw[q2] at h;cases h
   |some r =>
    rw[q2] at h;simp only[WE,XB] at h;subst h;obtain⟨c,d⟩:=l8 q2;refine⟨by simp[c],λj y k b hk=>?_⟩
    cases j with
    |zero =>
     simp only[nH,XB] at b hk;subst b hk;exact VS q
    |succ j=>exact d j y k (by simpa using b) (by simpa using hk)
structure pN(Z:CC)(scope:kF):Prop where
 kind:scope.kind=.function
 cell:∀y∈scope.names,y.2≠.cell
 names:∀x∈scope.names,x.2=.local->scope.names.lookup x.1=aA .local
 free:∀x∈scope.names,x.2=.free->scope.names.lookup x.1=aA .free
 out:∀p∈scope.names,p.2=.free->Z.names.lookup p.1=aA .cell\/Z.names.lookup p.1=aA .free
 nd:(aAx scope++aAt scope).Nodup
def cHa(h:Z.i0 a=bA):pN Z a:=by
 unfold CC.i0 at h;simp only[RA,IH,iJ,pG,bne_iff_ne,jI,ne_eq] at h;obtain⟨⟨⟨⟨e,f⟩,g⟩,d⟩,i⟩:=h;refine⟨e,f,λx b j=>?_,λx b c=>?_,λx b c=>?_,i⟩
 ·rcases g x b with z | z
  ·exact absurd j z
  ·exact z
 ·rcases d x b with z | z
  ·exact absurd c z
  ·exact z.1
 ·rcases d x b with z | z
  ·exact absurd c z
  ·exact z.2
def Bs(b:pN Z a)(h:x∈aAx a):a.names.lookup x=aA .free:=by
 unfold aAx at h;obtain⟨p,c,rfl⟩:=qF.mp h;obtain⟨d,e⟩:=pR.mp c;exact b.free p d (yC e)
structure Vi(K:kA)(P:VA)(C:Calls)(cond:List E)(uC:Env->BA RV)(is:List Nat)(U0:Env)(Y0:St)(H1 G2:Hp)(ds WL:List D)(Ui:Env)(D:jA)(i:Nat)(Y':St)(H':Hp):Prop where
 le:i<=ds.length
 ex:∃Uc Gc ac ys,EB K U0 Y0 H1 G2 Uc Y' H' Gc/\H' D=aA (.l ys)/\Gc D=eA/\¬AA Uc Y' D/\oA K Gc ac ys/\dF (KC P C cond) uC (wB (is.length==1) is) (ds.drop i) ac Uc=some (.ok WL,Ui)
def qo(xo:OA X K P C Z){zF cond:List E}(Ht:∀U v U',uC U=some (.ok v,U')->ev P C dA ce U=some (.ok v,U'))(sc:pN Z b)(himp:Z.OI (aAx b)=aA imp)
  (hw:∀Y H (R:It->Hp->Prop),kN K P C k0 zF Y H R->wi Y H R)
  {Y:St} {H:Hp} {Q:VK} (h:∃(U:Env) (G:Hp) (v:RV) (U':Env),GA K U Y H G/\g7 P C uC is k0 zF cond imp (aAt b).length U=some (.ok v,U')/\∀x I G',DA K U Y H G U' I G'->sC K I G' (AA U' Y) (wD H) v x->Q x I):mO X.N b (Z.inner b).N wi (gB K (is.length==1) is) (eK K P C cond) (tE K P C ce) Y H Q:=by
 obtain⟨U,G,v,U',r,e,k⟩:=h;unfold g7 at e;obtain⟨Z7,B,e1,e2⟩:=rB e
 have body:∀A o,(ID (imp.map λ_=>bA) (DJ (KC P C cond) uC (wB (is.length==1) is) A (aAt b).length) (imp.map Hd.slot) (aAg o B)).bind (aAz o B)=some (.ok v,U')->∀H1 G1,DA K U Y H G B H1 G1->(∀i,o=aA i->∃d p l,B[i]?=aA (.ow d p l))->∀J,rN K (aAg o B) Y H1 G1 A J->X0 X.N b (Z.inner b).N (gB K (is.length==1) is) (eK K P C cond) (tE K P C ce) Y Q J H1:=by
  intro A o e2 H1 G1 a1 ho;obtain⟨v',U2,e3,e4⟩:=rB e2;unfold aAz at e4
  cases q3:aAs o B U2 with
  |none=>rw[q3] at e4;cases e4
  |some U3 =>
   rw[q3] at e4;simp only[WE,XB,ZE,Out.ok.injEq] at e4;obtain⟨rfl,rfl⟩:=e4;have R0:=(mU (o:=o) a1.rA).1
   have SS:∃as U4,aAk (imp.map λ_=>bA) (imp.map Hd.slot) (aAg o B)=aA (as,U4):=by
    unfold ID at e3
    cases q4:aAk (imp.map λ_=>bA) (imp.map Hd.slot) (aAg o B) with
    |none=>rw[q4] at e3;cases e3
    |some y=>exact⟨y.1,y.2,rfl⟩
   obtain⟨F5,U4,SS⟩:=SS;obtain⟨xs,c8,d8,e8,g8⟩:=Yc (own:=AA (aAg o B) Y) (new:=wD H1) imp _ _ _ R0 SS;obtain⟨as,G2,E5,ra,lM,ef,⟨K7,D5⟩,kk⟩:=sS (DA.refl R0) c8 e3;unfold DJ at ef;split at ef
   ·rename_i hp;obtain⟨WL,Ui,e5,e6⟩:=rB ef;split at e6
    ·rename_i hz;simp only[XB,ZE,Out.ok.injEq] at e6;obtain⟨rfl,rfl⟩:=e6;obtain⟨il,ig⟩:=l8 himp
     have QS:(Z.inner b).N.length=as.length+(aAt b).length:=by(show(aAx b++aAt b).length=_;rw[NC,lM,vA,il])
     obtain⟨rp,op⟩:=ra.pad QS;have hsz:=aK hz
     -- lE lMa M
     have M:∀(J:It),c5 K (as++AB (aAt b).length .un) (start (Z.inner b).N xs) H1 G2 A J->X0 X.N b (Z.inner b).N (gB K (is.length==1) is) (eK K P C cond) (tE K P C ce) Y Q J H1:=by
      intro J hJ;refine Exists.intro xs ⟨by rw[QS,d8,lM,vA];lia,λi x v hN hv=>?_,λD hD=>?_⟩
      ·obtain⟨j,hj,hY⟩:=g8 i v hv
       have m:i<(aAx b).length:=by(rw[<- il];exact(BD.mp hj).1)
       have S7:(aAx b)[i]?=aA x:=by
        have:(aAx b++aAt b)[i]?=aA x:=hN
        rwa[NL m] at this
       exact⟨j,by rw[xo.DG];exact ig i x j S7 hj,hY,Bs sc (pF S7)⟩
      ·have fin:∀Y' I Gc O,EB K (as++AB (aAt b).length .un) (start (Z.inner b).N xs) H1 G2 Ui Y' I Gc->I D=aA (.l O)->Gc D=eA->¬AA Ui Y' D->oA K Gc WL O->Q (.ref D) I:=by
        intro Y' I Gc O a g t F hr;obtain⟨b1,b2⟩:=ZR ra hp QS a;obtain⟨c1,c2⟩:=kk (.ref D) I Gc b1 ⟨D,rfl,t,⟨O,g,hr⟩,λz=>F (b2 D z),hD⟩;obtain⟨d1,d2⟩:=DQ a1.rA ho q3 (DA.s R0 c1);have a2:DA K B Y H1 G1 U3 I Gc:=⟨d1.rA,d1.ext,qEa ho q3 c1.II⟩
        obtain⟨D',e',g',o',n',f'⟩:=c2;cases e';refine k _ _ _ (a1.trans a2) ⟨D,rfl,g',o',λz=>?_,a1.fresh hD⟩;rcases d2 D z with z | ⟨z,_⟩
        ·exact n' z
        ·exact(a1.rA.owned z).1 hD
       clear kk k q3 R0 ho a1 hp QS ra lM K7 D5 c8 d8 e8 g8 SS e3 e1 r himp il ig op;refine⟨A.length,Vi K P C cond uC is (as++AB (aAt b).length .un) (start (Z.inner b).N xs) H1 G2 A WL Ui D, ?_, ?_⟩
       ·have g2:G2 D=eA:=by
         cases z:G2 D with
         |none=>rfl
         |some u=>have:=rp.sub D u z;rw[hD] at this;cases this
        exact⟨pE _,_,G2,[],[],DA.s rp ((DA.refl rp).cH hD),oC,g2,rp.DT hD,oA.nil,e5⟩
       ·rintro i Y' I ⟨hil,Uc,Gc,ac,O,a,g,t,F,hr,n⟩
        obtain⟨j1,j2,j3⟩:=hJ i I Uc Y' Gc a;by_cases m:i<A.length
        ·refine .inr ⟨m,j2 m,λx H2 hy=>?_⟩;have hd:A[i]?=aA A[i]:=pC m;obtain⟨Gd,VR,ju⟩:=j3 _ x H2 hd hy;have t:=VR.ext.gn D (by rw[g];simp) t F;have g:=VR.ext.hh D _ g F;have hr:=oA.mono VR.ext.gg _ hr;have a:=a.trans (DA.s a.rA VR);rw[wO m] at n;simp only[dF] at n;split at n
         ·cases n
         ·rename_i Ub hb;obtain⟨c,Ut,et,n⟩:=rB n;refine⟨Uc,Gd,A[i],Ub,a.rA,ju,hb,λY1 ab=>?_⟩;have B5:=a.trans ab
          have nb:¬AA Ub Y1 D:=λz=>by
           rcases ab.own D z with z | z
           ·exact F z
           ·rw[g] at z;cases z
          split at n
          ·obtain⟨w,Ue,ee,n⟩:=rB n;refine⟨Ub,Gd,bA,Ut,ab.rA,et,λH3 G3 f=>?_⟩;have h3:H3 D=aA (.l O):=f.ext.hh D _ g nb;have g3:G3 D=eA:=f.ext.gn D (by rw[g];simp) t nb;have n3:¬AA Ut Y1 D:=λz=>nb (f.own D z)
           dsimp only;rw[MA rfl];refine⟨Ut,G3,w,Ue,f.rA,Ht _ _ _ ee,λy H4 G4 a4 ry=>?_⟩;obtain⟨G5,a5,ry5⟩:=a4.share ry;have h4:H4 D=aA (.l O):=a5.ext.hh D _ h3 n3;have g5:G5 D=eA:=a5.ext.gn D (by rw[h3];simp) g3 n3;have n5:¬AA Ue Y1 D:=λz=>n3 (a5.own D z)
           have U7:=HW n;have hyl:=hr.len;rw[NC] at U7;simp only[YB,pH] at U7;have Ak:=(B5.trans (DA.s ab.rA f)).trans (DA.s f.rA a5);refine⟨O,h4,by lia,m,Ue,G5,ac++[w.d],O++[y],Ak.bO hD g5 n5,oC,g5,n5, ?_,n⟩;exact(oA.mono a5.ext.gg _ (oA.mono f.ext.gg _ hr)).app (oA.cons ry5 oA.nil)
          ·refine⟨Ub,Gd,dA,Ut,ab.rA,et,λH3 G3 f=>?_⟩;have h3:H3 D=aA (.l O):=f.ext.hh D _ g nb;have g3:G3 D=eA:=f.ext.gn D (by rw[g];simp) t nb;have n3:¬AA Ut Y1 D:=λz=>nb (f.own D z)
           dsimp only;rw[JA (by decide)];exact⟨m,Ut,G3,ac,O,B5.trans (DA.s ab.rA f),h3,g3,n3,oA.mono f.ext.gg _ hr,n⟩
          ·cases n
        ·have T7:i=A.length:=by lia
         refine .inl ⟨j1 T7, ?_⟩;subst T7;rw[ji] at n;simp only[dF,XB,ZE,Out.ok.injEq] at n;obtain⟨rfl,rfl⟩:=n;exact fin _ _ _ _ a g t F hr
     have Pz:∀c,AA as (xs.map aA) c->AA (aAg o B) Y c:=λc z=>by
      rcases D5 c z with z | z
      ·exact z
      ·exact absurd z (e8 c)
     exact λJ wj=>M J (wj K7 λc z=>Pz c (op c z))
    ·cases e6
   ·cases ef
 unfold mO
 cases q:aAb k0 Z7 B with
 |none =>
  rw[q] at e2;cases e2
 |some y =>
  obtain⟨A,o⟩:=y;rw[q] at e2;exact hw Y H _ ⟨U,G,Z7,B,A,o,r,e1,q,body A o e2⟩
def G6(f:OA X K P C Z){c cond:List E}(g:pN Z b)(d:Z.OI (aAx b)=aA imp)
  (i:∀Y H (R:It->Hp->Prop),kN K P C j c Y H R->l Y H R) (h:tE K P C (.comp ce is j c cond imp (aAt b).length) Y H Q):mO X.N b (Z.inner b).N l (gB K (is.length==1) is) (eK K P C cond) (tE K P C ce) Y H Q:=by
 obtain⟨U,G,v,m,r,e,k⟩:=h;exact qo f (uC:=ev P C dA ce) (λ_ _ _ z=>z) g d i ⟨U,G,v,m,r,e,λx n o a p=>k x n o a p⟩
def Z0(K:kA)(P:VA)(C:Calls)(c:E):TE:=λY H Q=>False
def nN(X:Cx)(K:kA)(P:VA)(C:Calls)(e:wA)(c:E):Prop:=∀(x:fA) (i:Nat) (p pos:xB),X.N.Nodup->X.N[i]?=aA x->Loc X.env.scope x->(X.fn x=bA\/X.env.scope.names.lookup x=aA .local) ->
 PS X (.Assign [.Name x p] e pos) (lU (tE K P C c) (kM i))
def YN:nN X K P C e .qA:=λx i p pos _ _ _ _ cA s Y H D I h=>by
 obtain⟨U,G,v,a,r,e,k⟩:=h;cases e
def B_(j:OA X K P C Z){d cond:List E}(e:pN Z scope)(g:Z.OI (aAx scope)=aA imp)(y:CH (Z.inner scope) k=aA (is.length==1,is))
  (A:PI X k iter U) (B:∀x,fJ iter X.env x=pure x)
  (F:∀Y H (R:It->Hp->Prop),kN K P C o d Y H R->U Y H R)
  (he:∀a,OA a K P C (Z.inner scope)->IA a K P C c ce) (ht:∀a,OA a K P C (Z.inner scope)->xI a FA (eK K P C cond)) :
  IA X K P C (.ListComp c [⟨k,iter,FA,0⟩] scope pos) (.comp ce is o d cond imp (aAt scope).length)/\nN X K P C (.ListComp c [⟨k,iter,FA,0⟩] scope pos) (.comp ce is o d cond imp (aAt scope).length)/\PE X (.ListComp c [⟨k,iter,FA,0⟩] scope pos) (Z0 K P C (.comp ce is o d cond imp (aAt scope).length)):=by
 have all:X.env.scope.kind=.function->(∀a,rF X scope (Z.inner scope).N a->PG a k (gB K (is.length==1) is))/\(∀a,rF X scope (Z.inner scope).N a->xI a FA (eK K P C cond))/\∀a,rF X scope (Z.inner scope).N a->PE a c (tE K P C ce):=by
  intro hk;have q:∀a,rF X scope (Z.inner scope).N a->OA a K P C (Z.inner scope):=λa b=>j.inner hk e.nd b
  have z:∀a,rF X scope (Z.inner scope).N a->∀x,(Z.inner scope).oM x=bA->a.fn x=bA\/a.env.scope.names.lookup x=aA .local:=λa b x f=>by
   rw[(q a b).nm];unfold CC.oM at f;rw[jI,RA] at f;rcases f with f | f
   ·exact .inr (yC f)
   ·exact absurd f.1 (by simp[CC.inner])
  exact⟨λa b=>tf (q a b) (z a b) y,λa b=>ht a (q a b),λa b=>(he a (q a b)).v⟩
 have l:∀p∈scope.names,p.2=.free->X.env.kindOf p.1=aA .cell\/X.env.kindOf p.1=aA .free:=λp hp r=>by unfold V3;rw[j.nm];exact e.out p hp r
 have m:PE X (.ListComp c [⟨k,iter,FA,0⟩] scope pos) (tE K P C (.comp ce is o d cond imp (aAt scope).length)):=λcA s Y H Q I h=>by(obtain⟨t,u,w⟩:=all I.ok.kind;exact iBa (N':=(Z.inner scope).N) j.calm A B e.kind e.cell e.names l t u w cA s Y H Q I (G6 j e g F h))
 refine⟨KD j m,λx i p n J f M r=>?_,λcA s Y H Q I h=>?_⟩
 case refine_2 =>
  obtain⟨t,u,w⟩:=all I.ok.kind
  cases cond with
  |nil=>exact h.elim
  |cons _ _=>exact h.elim
 obtain⟨b,O⟩:∃b:Bool,swapsWith (.ListComp c [⟨k,iter,FA,0⟩] scope pos) (aA (.Name x p)) n.line X.env=pure b:=⟨_,rfl⟩
 cases b with
 |false=>exact OT m (Gb J f M r) O
 |true =>
  intro cA s Y H D I h;obtain⟨t,u,w⟩:=all I.ok.kind;exact nDa O J f M r j.calm A B e.kind e.cell e.names l t u w cA s Y H D I (G6 j e g F h)
end
end CI
namespace CI
set_option tactic.hygienic true
open PySem PySem.Spec PyProof.Rows L2
structure KR(X:Cx)(K:kA)(P:VA)(C:Calls)(e:wA)(cs:List E):Prop where
 h:∀(f:fA) (p:xB) (args:List wA) (kw:List _) (pos:xB),e=.Call (.Name f p) args kw pos->args.all aAd=bA->PA X args (IG K P C cs)/\cs.length=args.length
theorem BW:∀(a:List wA),(lB Z a).length=a.length
 |[]=>by rw[lB];rfl
 |e::a=>by rw[lB,YB,YB,BW a]
section
variable{K:kA}
def C1(h:CH Z b=aA (one,is))(n:one=dA):∃a k p,b=.Tuple a k p:=by
 induction b using FC with
 |Name x pos =>
  obtain⟨i,_,h⟩:=RF.mp h;cases h;cases n
 |Tuple=>exact⟨_,_,_,rfl⟩
 |_=>exact oD h
def aAR(s:OA X K P C Z){c cond:List E}(u:IA X K P C iter ci)(v:KR X K P C iter c){Φ:E->Prop}(qA:Φ .qA)
  (good:∀{t:sF} {w:List E} {imp is:List Nat} {wi:TI},pN Z g->Z.OI (aAx g)=aA imp->CH (Z.inner g) tg=aA (is.length==1,is)->PI X tg iter wi->(∀x,fJ iter X.env x=pure x) ->
   (∀Y H (R:It->Hp->Prop),kN K P C t w Y H R->wi Y H R)->Φ (.comp ce is t w cond imp (aAt g).length)) :
  Φ (UG Z g tg iter ci c cond ce):=by
 unfold UG;split
 ·rename_i M;have B:=cHa M;split
  ·rename_i imp one is t l F y d;split
   ·rename_i N;exact(CD N).elim
   split
   ·rename_i hk;exact nomatch hk
   split
   ·rename_i i;rw[RA,RA] at i;obtain⟨⟨i,A⟩,O⟩:=i;have i:=yC i;subst i
    have gen:∀e:wA,iter=e->ET e=bA->aA (sF.of,[e])=aA (t,l)->Φ (.comp ce is t (A8 t ci c) cond imp (aAt g).length):=λe Q hn hq=>by(subst Q;cases hq;exact good B F y (PI.or (Ib u.h) (Lb u.h)) (t7 hn _) (λY H R q=>a_ s.vC Y H R q))
    unfold PJ at d;split at d
    ·rename_i x hx;obtain⟨⟨f,p⟩,args,pos'⟩:=x;obtain rfl:=jQ hx;dsimp only at d;split at d
     ·rename_i o;have o:=yC o;subst o;split at d
      ·rename_i r;split at d
       ·rename_i k;cases d;rw[RA] at k;obtain⟨I,U,h3,h4⟩:=CC.JE s r (λz=>nomatch z);have J:=s.blt _ U;obtain⟨n,j⟩:=v.h _ _ _ _ _ rfl k.1;obtain _ | ⟨a,_ | ⟨b,_ | ⟨_,_⟩⟩⟩:=l
        ·simp at k
        ·obtain _ | ⟨c1,_ | ⟨_,_⟩⟩:=c
         ·simp at j
         ·have m:=k.1;rw[kC,RA] at m;exact good B F y (Jb I J n (by rw[iC m.1];rfl)) (λ_=>rfl) (nb (λz=>nomatch z) λY H R q=>Lc Y H R q)
         ·simp at j
        ·obtain _ | ⟨c1,_ | ⟨c2,_ | ⟨_,_⟩⟩⟩:=c
         ·simp at j
         ·simp at j
         ·have m:=k.1;rw[kC,RA,kC,RA] at m;exact good B F y (Kb I J n (by rw[iC m.1,iC m.2.1];rfl) (by rw[iC m.2.1];rfl)) (λ_=>rfl) (nb (λz=>nomatch z) λY H R q=>Mc Y H R q)
         ·simp at j
        ·simp at k
       ·cases d
      ·cases d
     ·split at d
      ·rename_i o;have o:=yC o;subst o;split at d
       ·rename_i r;split at d
        ·rename_i k;cases d;rw[RA] at k;obtain⟨I,U,h3,h4⟩:=CC.JE s r (λz=>nomatch z);have J:=s.blt _ U;obtain⟨n,j⟩:=v.h _ _ _ _ _ rfl k.1;obtain _ | ⟨a,_ | ⟨_,_⟩⟩:=l
         ·simp at k
         ·obtain _ | ⟨c1,_ | ⟨_,_⟩⟩:=c
          ·simp at j
          ·have m:=k.1;rw[kC,RA] at m;obtain⟨elts,kk,tp,rfl⟩:=C1 y (by simpa[bJ] using A);exact good B F y (Hb I J n (by rw[iC m.1];rfl)) (λ_=>rfl) (nb (λz=>nomatch z) λY H R q=>cX s.vC Y H R q)
          ·simp at j
         ·simp at k
        ·cases d
       ·cases d
      ·exact gen _ rfl rfl d
    ·split at d
     ·rename_i hx;split at d
      ·split at d
       ·cases d;exact absurd O (by decide)
       ·cases d
      ·cases d
     ·split at d
      ·exact gen _ rfl ‹_› d
      ·cases d
   ·exact qA
  ·exact qA
 ·exact qA
def mS(j:OA X K P C Z){b cond:List E}(g:IA X K P C iter ci)(i:KR X K P C iter b)
  (k:∀f,OA f K P C (Z.inner a)->IA f K P C d ce) (l:∀f,OA f K P C (Z.inner a)->xI f FA (eK K P C cond)) :
  IA X K P C (.ListComp d [⟨e,iter,FA,0⟩] a pos) (UG Z a e iter ci b cond ce)/\nN X K P C (.ListComp d [⟨e,iter,FA,0⟩] a pos) (UG Z a e iter ci b cond ce)/\PE X (.ListComp d [⟨e,iter,FA,0⟩] a pos) (Z0 K P C (UG Z a e iter ci b cond ce)) :=
 aAR j g i (Φ:=λc=>IA X K P C (.ListComp d [⟨e,iter,FA,0⟩] a pos) c/\nN X K P C (.ListComp d [⟨e,iter,FA,0⟩] a pos) c/\PE X (.ListComp d [⟨e,iter,FA,0⟩] a pos) (Z0 K P C c)) ⟨mB,YN,λcA s Y H Q I h=>h.elim⟩ λm n o p q r=>B_ j m n o p q r k l
end
def My(b:GY a=bA)(h:cE Z a=.aL c):∃p e pos,a=.Call (.Name ("set":fA) p) [e] [] pos/\Z.glob ("set":fA)=.blt/\aAd e=bA/\c=cE Z e:=by
 unfold GY at b
 cases qi:rM a with
 |none=>rw[qi] at b;cases b
 |some y =>
 rw[qi] at b;obtain⟨⟨f,p⟩,l,pos⟩:=y;obtain _ | ⟨e,_ | ⟨_,_⟩⟩:=l
 ·cases b
 ·obtain rfl:=jQ qi;have d:=yC b;have d:f=("set":fA):=d;subst d;replace h:(if [e].all aAd&&decide ([e]≠[]) then(match Z.glob ("set":fA) with | .fn g=>.call g (lB Z [e]) | .cls j=>.make ("set":fA) j (lB Z [e]) | .blt=>if("set":fA)=("isinstance":fA) then OJ Z [e] (lB Z [e]) else PH ("set":fA) [e] (lB Z [e]) | _=>E.qA) else E.qA)=.aL c:=h;split at h
  ·rename_i i;split at h
   ·cases h
   ·cases h
   ·rename_i k;rw[JA (by decide)] at h;unfold PH aAQ at h;rw[JA (by decide),MA rfl] at h;simp only[lB] at h;cases h;rw[RA,kC,RA] at i;exact⟨p,e,pos,rfl,k,i.1.1,rfl⟩
   ·cases h
  ·cases h
 ·cases b
def uk(i:wA):Prop:=∃k a b c,i=.Slice eA eA (aA (.UnaryOp .USub (.Constant (.int 1) k a) b)) c
def dv(h:FY i=bA):uk i:=by
 induction i using FC with
 |Slice lo b st q =>
  obtain _ | _:=lo
  ·obtain _ | _:=b
   ·obtain _ | st:=st
    ·exact mC h
    ·induction st using FC with
     |UnaryOp op a p =>
      induction op using UnaryOp.casesOn with
      |USub =>
       induction a using FC with
       |Constant c k d =>
        induction c using Const.casesOn with
        |int n =>
         have h:=yC (show(n==1)=bA from h);subst h;exact Exists.intro _ ⟨_,_,_,rfl⟩
        |_=>exact mC h
       |_=>exact mC h
      |_=>exact mC h
     |_=>exact mC h
   ·exact mC h
  ·exact mC h
 |_=>exact mC h
abbrev MS(Z:CC)(op:lF)(b:wA)(ca c:E):E:=c
abbrev jY(Z:CC)(a:wA)(ci c:E):E:=c
def L_{X:Cx}{K:kA}{P:VA}{C:Calls}{Z:CC}(d:OA X K P C Z){a b:wA}{ca c:E}{op:lF}{pos:xB}(e:IA X K P C a ca)(h:IA X K P C (.Compare a [op] [b] pos) c):IA X K P C (.Compare a [op] [b] pos) (MS Z op b ca c):=h
def K_{X:Cx}{K:kA}{P:VA}{C:Calls}{Z:CC}(b:OA X K P C Z){a i:wA}{ci c:E}{pos:xB}(d:IA X K P C i ci)(e:QR i)(h:IA X K P C (.Subscript a i pos) c):IA X K P C (.Subscript a i pos) (jY Z a ci c):=h
def D8(Z:CC)(a i:wA)(p:xB):(∃lo b q,i=.Slice lo b eA q)\/((∀lo b q,i≠.Slice lo b eA q)/\cE Z (.Subscript a i p)=if FY i then .qA else jY Z a (cE Z i) (.ix (cE Z a) (cE Z i))):=by
 induction i using FC with
 |Slice lo b st q =>
  induction st using XF with
  |none=>exact .inl ⟨_,_,_,rfl⟩
  |some _=>exact .inr ⟨λ_ _ _ z=>(by cases z),rfl⟩
 |_=>exact .inr ⟨λ_ _ _ z=>Expr.noConfusion z,rfl⟩
def IK(K:kA)(P:VA)(C:Calls)(n:Nat):Prop:=∀(X:Cx) (Z:CC),OA X K P C Z->∀e:wA,sizeOf e<n->IA X K P C e (cE Z e)
def qT(h:a<b)(k:b<n+1):a<n:=MC h (AL k)
def uB{a b n:Nat}(k:b<n+1)(h:a<b:=by simp;lia):a<n:=qT h k
section
variable{K:kA}
def MM{r:List wA}(h:sizeOf (e::r)<n):sizeOf e<n:=vK (by simp;lia) h
def QQ{r:List wA}(h:sizeOf (e::r)<n):sizeOf r<n:=vK (by simp;lia) h
theorem NP(b:IK K P C n)(c:OA X K P C Z):∀a:List wA,sizeOf a<n->a.all aAd=bA->PA X a (bK K P C (lB Z a))
 |[],_,_=>lb
 |e::r,d,h=>by(rw[kC,RA] at h;exact jb (b _ _ c e (MM d)) (NP b c r (QQ d) h.2) h.1)
theorem SK(b:IK K P C n)(c:OA X K P C Z):∀a:List wA,sizeOf a<n->a.all aAd=bA->PA X a (IG K P C (lB Z a))
 |[],_,_=>yAa
 |e::r,d,h=>by(rw[kC,RA] at h;exact xAa (b _ _ c e (MM d)) (SK b c r (QQ d) h.2) h.1)
theorem C5(e:IK K P C n)(f:OA X K P C Z):∀c:List wA,sizeOf c<n->c≠[]->wI X K P C .And c (zW Z c)
 |[],_,h=>absurd rfl h
 |[a],d,_=>d_ (e _ _ f a (MM d))
 |a::b::r,d,_=>Oa (e _ _ f a (MM d)) (C5 e f (b::r) (QQ d) (λz=>nomatch z))
theorem Ya(e:IK K P C n)(f:OA X K P C Z):∀c:List wA,sizeOf c<n->c≠[]->wI X K P C .Or c (CW Z c)
 |[],_,h=>absurd rfl h
 |[a],d,_=>e_ (e _ _ f a (MM d))
 |a::b::r,d,_=>Pa (e _ _ f a (MM d)) (Ya e f (b::r) (QQ d) (λz=>nomatch z))
theorem Ma(a:IK K P C n)(b:OA X K P C Z):∀o:Option wA,sizeOf o<n->PO X o (tO K P C (cO Z o))
 |none,_=>qCa
 |some e,c=>sCa (a _ _ b e (vK (by simp) c))
def fW(g:IK K P C n)(h:OA X K P C Z)(e:wA)(i:sizeOf e<n):KR X K P C e (OK Z e):=by
 cases e<;>first
  | (rename_i f args l pos;exact⟨λj k a c b z d=>by cases z;exact⟨SK g h args (vK (by simp;lia) i) d,BW args⟩⟩)
  |exact⟨λj k a c b z d=>by cases z⟩
end
def T_{K:kA}(h:IA X K P C e c):IA X K P C e (CT c):=by
 induction c using E.casesOn with
 |UI=>exact mB
 |_=>exact h
def Hm{K:kA}(l:IK K P C n)(j:OA X K P C Z)(e:wA)(d:sizeOf e<n+1):IA X K P C e (cE Z e):=by
 induction e using FC with
 |Name x p =>
  exact xQ j _ _
 |Constant c k p =>
  exact C_ j _ _ _
 |Tuple H k p =>
  show IA X K P C _ (if H.all aAd then .t (lB Z H) else .qA);split
  ·exact Z_ j (NP l j _ (uB d) ‹_›)
  ·exact mB
 |List H p =>
  show IA X K P C _ (if H.all aAd then .l (lB Z H) else .qA);split
  ·exact Ta j (NP l j _ (uB d) ‹_›)
  ·exact mB
 |Dict ks vs p =>
  refine H_ j (λv hv=>l _ _ j v (qT (by have:=List.sizeOf_lt_of_mem hv;simp;lia) d)) ?_;show IA X K P C _ (KP _ _ _ _);unfold KP;split
  ·exact E_ j
  refine G_ j (λk c M N=>?_) λv c M N=>?_
  ·subst M;cases N;exact T_ (l _ _ j k (uB d))
  ·subst M;cases N;exact l _ _ j v (uB d)
 |BinOp a op b p =>
  exact w_ j (l _ _ j _ (uB d)) (l _ _ j _ (uB d))
 |UnaryOp op a p =>
  cases op with
  |Not =>
   exact U_ j (l _ _ j _ (uB d))
  |USub =>
   exact S_ j (l _ _ j _ (uB d))
  |_=>exact mB
 |Compare a O cs p =>
  obtain _ | ⟨op,_ | ⟨I,_ | ⟨_,_⟩⟩⟩:=O
  ·exact mB
  ·obtain _ | ⟨b,_ | ⟨_,_⟩⟩:=cs
   ·exact mB
   ·show IA X K P C _ (if lJ op b then .qA else MS Z op b (cE Z a) (.CA op (cE Z a) (cE Z b)));split
    ·exact mB
    ·refine L_ j (l _ _ j _ (uB d)) ?_;exact z_ j (l _ _ j _ (uB d)) (l _ _ j _ (uB d)) (by rename_i h;simpa using h)
   ·exact mB
  ·obtain _ | ⟨b,_ | ⟨c,_ | ⟨_,_⟩⟩⟩:=cs
   ·exact mB
   ·exact mB
   ·show IA X K P C _ (if lJ I c then .qA else .vF op I (cE Z a) (cE Z b) (cE Z c));split
    ·exact mB
    ·exact A_ j (l _ _ j _ (uB d)) (l _ _ j _ (uB d)) (l _ _ j _ (uB d)) (by rename_i h;simpa using h)
   ·exact mB
  ·exact mB
 |BoolOp op vs p =>
  obtain _ | ⟨a,_ | ⟨b,r⟩⟩:=vs
  ·cases op<;>exact mB
  ·cases op<;>exact mB
  ·cases op with
   |And =>
    exact(Oa (l _ _ j _ (uB d)) (C5 l j _ (uB d) (by simp))).Qa λi z=>nomatch z
   |Or =>
    exact(Pa (l _ _ j _ (uB d)) (Ya l j _ (uB d) (by simp))).Qa λi z=>nomatch z
 |IfExp c a b p =>
  exact mB
 |Subscript a i p =>
  rcases D8 Z a i p with ⟨lo,hi,q,rfl⟩ | ⟨hn,e⟩
  ·exact Y_ j (l _ _ j _ (uB d)) (Ma l j _ (uB d)) (Ma l j _ (uB d))
  ·rw[e];split
   ·rename_i hr;obtain⟨k,p1,Q,p3,rfl⟩:=dv hr;exact mB
   ·exact K_ j (l _ _ j _ (uB d)) (Nb hn) (M_ j (l _ _ j _ (uB d)) (l _ _ j _ (uB d)) (Nb hn))
 |Call fn args R pos =>
  induction fn using FC with
  |Name f p =>
   induction R using LB with
   |nil =>
    show IA X K P C _ (if args.all aAd&&decide (args≠[]) then(match Z.glob f with | .fn g=>.call g (lB Z args) | .cls w=>.make f w (lB Z args) | .blt=>if f=("isinstance":fA) then OJ Z args (lB Z args) else PH f args (lB Z args) | _=>.qA) else .qA);split
    ·rename_i u;rw[RA] at u;obtain⟨w,ne⟩:=u
     induction args using LB with
     |nil=>simp at ne
     |cons a r =>
      split
      ·rename_i g B;exact x_ j B w (SK l j _ (uB d) w)
      ·rename_i g B;exact P_ j B w (NP l j _ (uB d) w)
      ·rename_i B;split
       ·rename_i U;subst U;unfold OJ
        cases q1:two (a::r) with
        |none=>exact mB
        |some p =>
         obtain⟨a',t⟩:=p;obtain⟨rfl,rfl⟩:=AR (tKa q1);show IA X K P C _ (eT Z t (cE Z a));rw[kC,RA] at w;unfold eT;split
         ·exact Sa j B ‹_› w.1 (l _ _ j _ (uB d))
         ·exact Ra j B w.1 (l _ _ j _ (uB d))
       ·unfold PH;split
        ·rename_i F;subst F;unfold nT;split
         ·rename_i c J;obtain⟨a',q2,J⟩:=nF.mp J;obtain⟨rfl,rfl⟩:=AR (eIa q2);split at J
          ·rename_i Y;obtain⟨Q,e2,vNa,rfl,Ot,Xz,rfl⟩:=My Y (Qy (show oZ (cE Z a)=aA c from J));exact V_ j B Ot Xz (l _ _ j e2 (uB d))
          ·cases J
         ·exact uZ j B (b:=.len) rfl w (SK l j _ (uB d) w)
        ·split
         ·unfold aAQ;split
          ·exact R_
          ·exact mB
         ·split
          ·exact mB
          ·split
           ·rename_i F;subst F;exact uZ j B (b:=.list) rfl w (SK l j _ (uB d) w)
           ·split
            ·rename_i b hb;exact uZ j B hb w (SK l j _ (uB d) w)
            ·exact mB
      ·exact mB
    ·exact mB
   |cons _ _=>exact mB
  |Attribute o m hB =>
   induction o using FC with
   |Name x p =>
    induction R using LB with
    |nil =>
     have hD:IA X K P C (.Call (.Attribute (.Name x p) m hB) args [] pos) (kW Z x m hB pos args (lB Z args)):=by
      induction args using LB with
      |nil =>
       show IA X K P C _ (pP Z x m hB pos);unfold pP;split
       ·rename_i u;rw[RA] at u;obtain⟨A,s⟩:=u;have s:=yC s;subst s;exact mB
       ·split
        ·rename_i u;rw[RA] at u;obtain⟨A,s⟩:=u;have s:=yC s;subst s;split
         ·exact y_ j ‹_› A
         ·exact mB
        ·split
         ·rename_i u;rw[RA] at u;obtain⟨A,s⟩:=u;have s:=yC s;subst s;split
          ·exact W_ j ‹_› A
          ·exact mB
         ·exact j' j
      |cons a as =>
       induction as using LB with
       |nil =>
        show IA X K P C _ (qP Z x m hB pos a (cE Z a));unfold qP;split
        ·rename_i u;rw[RA,RA] at u;obtain⟨⟨w,A⟩,s⟩:=u;have s:=yC s;subst s;split
         ·exact v_ j ‹_› A w (l _ _ j _ (uB d))
         ·exact mB
        ·split
         ·rename_i u;rw[RA,RA] at u;obtain⟨⟨w,A⟩,s⟩:=u;have s:=yC s;subst s;split
          ·exact I_ j ‹_› A w (l _ _ j _ (uB d))
          ·exact mB
         ·split
          ·rename_i u;rw[RA,RA] at u;obtain⟨⟨w,A⟩,s⟩:=u;have s:=yC s;subst s;exact mB
          ·exact u_ j
       |cons b as=>exact mB
     show IA X K P C _ (sP Z x m hB pos args (lB Z args));unfold sP;split
     ·rename_i tb s;split
      ·rename_i u;rw[RA,RA] at u;obtain⟨⟨w,A⟩,U⟩:=u;split
       ·exact Q_ j ‹_› s w A (of_decide_eq_true U) (SK l j _ (uB d) w) λz=>by rw[z,lB]
       ·exact mB
      ·exact mB
     ·exact hD
    |cons _ _=>exact mB
   |Call g as Gx Q =>
    induction as using LB with
    |nil=>exact mB
    |cons a0 F5 =>
     induction R using LB with
     |nil =>
      show IA X K P C _ (rQ Z m hB pos args (cE Z (.Call g (a0::F5) Gx Q)) (lB Z args));unfold rQ;split
      ·rename_i tb s;split
       ·rename_i u;rw[RA,RA] at u;exact mB
       ·exact mB
      ·exact mB
     |cons _ _=>exact mB
   |_=>exact mB
  |_=>exact mB
 |Attribute o f p =>
  induction o using FC with
  |Name x q =>
   exact J_ j
  |_=>exact mB
 |ListComp uC gs scope pos =>
  obtain _ | ⟨⟨tg,iter,FA,m⟩,_ | ⟨_,_⟩⟩:=gs
  ·exact mB
  ·obtain _ | ⟨c,_ | ⟨_,_⟩⟩:=FA<;>obtain(_ | _) | _:=m
   ·exact(mS j (l _ _ j _ (uB d)) (fW l j _ (uB d)) (λX' y=>l _ _ y _ (uB d)) (λX' y=>Zb)).1
   ·exact mB
   ·exact mB
   ·exact(mS j (l _ _ j _ (uB d)) (fW l j _ (uB d)) (λX' y=>l _ _ y _ (uB d)) (λX' y=>cc (l _ _ y _ (uB d)))).1
   all_goals exact mB
  ·obtain _ | ⟨c,_ | ⟨_,_⟩⟩:=FA<;>obtain(_ | _) | _:=m<;>exact mB
 |_=>exact mB
theorem dQ{K:kA}:∀n:Nat,IK K P C n
 | 0=>λ_ _ _ _ h=>absurd h (tR _)
 |n+1=>λ_ _ a e h=>Hm (dQ n) a e h
section
variable{K:kA}
def DE(a:OA X K P C Z)(e:wA):IA X K P C e (cE Z e):=dQ _ _ _ a e (VF _)
def i6(a:OA X K P C Z)(e:wA):KR X K P C e (OK Z e):=fW (dQ _) a e (VF _)
def Im(b:OA X K P C Z)(a:List wA)(h:a.all aAd=bA):PA X a (bK K P C (lB Z a)):=NP (dQ _) b a (VF _) h
def zP(b:OA X K P C Z)(a:List wA)(h:a.all aAd=bA):PA X a (IG K P C (lB Z a)):=SK (dQ _) b a (VF _) h
end
def k_{K:kA}(b:OA X K P C Z)(e:wA)(h:YS e=bA):nN X K P C e (cE Z e):=by
 induction e using FC<;>first | exact mC h | skip
 rename_i d i f pos;obtain _ | ⟨⟨j,iter,FA,n⟩,_ | ⟨_,_⟩⟩:=i
 ·exact YN
 ·obtain _ | ⟨c,_ | ⟨_,_⟩⟩:=FA<;>obtain(_ | _) | _:=n
  ·exact(mS b (DE b iter) (i6 b iter) (λg a=>DE a d) (λg a=>Zb)).2.1
  ·exact YN
  ·exact YN
  ·exact(mS b (DE b iter) (i6 b iter) (λg a=>DE a d) (λg a=>cc (DE a c))).2.1
  all_goals exact YN
 ·obtain _ | ⟨c,_ | ⟨_,_⟩⟩:=FA<;>obtain(_ | _) | _:=n<;>exact YN
end CI
namespace CI
set_option tactic.hygienic true
open PySem PySem.Spec PyProof.Rows L2
section
variable{X:Cx}{K:kA}{P:VA}{C:Calls}{W:Nat}{Z:CC}
def VL(X:Cx)(K:kA)(U:Env)(Y:St)(H G:Hp)(g:Env)(x:Exc):Prop:=∀cA e c f d a b p,EB K U Y H G g e c f->iA X cA e c d->FK X cA c d.heap a b p->yB K eB x.cls=aA (aA (.ref b))->zE K b->RL K f b p x->X.xe (.ref a) d
def VL.pre(a:EB K U Y H G j m r y)(h:VL X K U Y H G B x):VL X K j m r y B x:=λcA F I J M b O p q=>h cA F I J M b O p (a.trans q)
def r1(X:Cx)(K:kA)(P:VA)(C:Calls)(c:E):TE:=λY H _=>∃U G x a,GA K U Y H G/\zG P C c U=aA (x,a)/\VL X K U Y H G a x
def lJa(X:Cx)(K:kA)(P:VA)(C:Calls)(b:List E):TA:=λY H _=>∃U G x a,GA K U Y H G/\xH P C b U=aA (x,a)/\VL X K U Y H G a x
def kE(X:Cx)(K:kA)(P:VA)(C:Calls)(W:Nat)(c:S):TS:=λ_ Y H=>∃U G x a,GA K U Y H G/\wF P C W c U=aA (x,a)/\VL X K U Y H G a x
def iH(X:Cx)(K:kA)(P:VA)(C:Calls)(W:Nat)(c:List S):TS:=λ_ Y H=>∃U G x a,GA K U Y H G/\UC P C W c U=aA (x,a)/\VL X K U Y H G a x
def jEa(a:dC X b t)(c:dC X b u):dC X b (λD Y H=>t D Y H\/u D Y H):=λcA s Y H D I q=>q.elim (a cA s Y H D I) (c cA s Y H D I)
theorem oy{a:Env->BA RV}{body:Env->Run}{b:Env->Option (Exc×Env)}{n:Nat}{U:Env}:dH a body b (n+1) U=(match a U with
  |some (.ok (.sh (.bl bA)),d)=>(match body d with
   |some (.nx,c)=>dH a body b n c
   |some (.ct,c)=>dH a body b n c
   |_=>b d)
  |_=>eA):=rfl
def hLa(po:FH (model X.prog X.w) X.A X.env X.xe)(I:IA X K P C c o)(J:dC X body (xE K P C W f))(M:dC X body (iH X K P C W f)):PS X (.While c body [] pos) (kE X K P C W (.jK o f)):=by
 refine TS.sE (Sb po I.t (jEa J M)) λD Y H p=>?_
 obtain⟨U,G,x,u,r,e,k⟩:=p;refine⟨λm B F=>∃h v,EB K U Y H G h B F v/\dH (ev P C bA o) (KA P C W f) (UC P C W f) m h=aA (x,u),⟨W,U,G,EB.refl r,e⟩,λm B F p=>?_⟩;obtain⟨h,v,y,e1⟩:=p
 cases m with
 |zero=>cases e1
 |succ m =>
  rw[oy] at e1;split at e1
  ·rename_i i N;refine⟨h,v,bA,i,y.rA,N,λQ z j=>sM ?_⟩;have b:=y.trans (DA.s y.rA j);refine⟨λl n=>∃a d,EB K U Y H G a l n d/\dH (ev P C bA o) (KA P C W f) (UC P C W f) m a=aA (x,u),λl n ⟨a,d,g,O⟩=>⟨m,VF m,a,d,g,O⟩, ?_⟩;split at e1
   ·rename_i a q;exact .inl ⟨i,z,.nx,a,j.rA,q,λl n d g=>⟨a,d,b.trans g,e1⟩⟩
   ·rename_i a q;exact .inl ⟨i,z,.ct,a,j.rA,q,λl n d g=>⟨a,d,b.trans g,e1⟩⟩
   ·exact .inr ⟨i,z,x,u,j.rA,e1,k.pre b⟩
  ·cases e1
def CZ(a:PE X e t)(b:PE X e u):PE X e (λY H Q=>t Y H Q\/u Y H Q):=λcA s Y H Q I q=>q.elim (a cA s Y H Q I) (b cA s Y H Q I)
def tDa{st:QA}(a:PS X st t)(b:PS X st u):PS X st (λD Y H=>t D Y H\/u D Y H):=λcA s Y H D I q=>q.elim (a cA s Y H D I) (b cA s Y H D I)
end
end CI
namespace CI
set_option tactic.hygienic true
open PySem PySem.Spec PyProof.Rows L2
section
variable{X:Cx}{K:kA}{P:VA}{C:Calls}{Z:CC}
def lj(X:Cx)(K:kA)(P:VA)(C:Calls)(e:wA)(c:E):Prop:=∀(W:Nat) (x:fA) (i:Nat) (p pos:xB),X.N.Nodup->X.N[i]?=aA x->Loc X.env.scope x->(X.fn x=bA\/X.env.scope.names.lookup x=aA .local) ->
 PS X (.Assign [.Name x p] e pos) (kE X K P C W (.YA i c))
end
end CI
namespace CI
set_option tactic.hygienic true
open PySem PySem.Spec PyProof.Rows L2
section
variable{X:Cx}{K:kA}{P:VA}{C:Calls}{W:Nat}{Z:CC}
noncomputable def fC:E->Bool
 |.call _ _=>bA
 |.bif .sorted _=>bA
 |_=>dA
def Cz:fC (GI Z x)=dA:=by unfold GI;split;rfl;split<;>rfl
def oz:fC (gS c)=dA:=by
 cases c<;>first | rfl | (show fC (if _ then _ else _)=dA;split<;>rfl)
def uz(h:fC c=dA):fC (KP z a b c)=dA:=by unfold KP;first | exact h | (split<;>first | rfl | exact h)
def qz(h:fC c=dA):fC (KW a b d c)=dA:=by
 exact h
def pz:fC (rS ks vs cs es)=dA:=by
 unfold rS;unfold T6 S6;unfold oS
 (repeat' split)<;>rfl
theorem Fz{x m:fA}{p q:xB}:fC (R1 Z x m p q)=dA:=rfl
theorem Ez:fC (Ff Z x m p q a)=dA:=by
 rfl
def lz{x m:fA}{p q:xB}{a:wA}:fC (rP Z x m p q a)=dA:=by
 unfold rP;exact Ez
def kz{x m:fA}{p q:xB}{a:wA}{c:E}:fC (qP Z x m p q a c)=dA:=by unfold qP;repeat' split<;>first | rfl | exact lz | skip
def jz{x m:fA}{p q:xB}:fC (pP Z x m p q)=dA:=by unfold pP;(repeat' split)<;>first | rfl | exact Fz
def nz{x m:fA}{p q:xB}{as:List wA}{b:List E}:fC (kW Z x m p q as b)=dA:=by
 rcases as with _ | ⟨a,_ | _⟩<;>rcases b with _ | ⟨c,_ | _⟩<;>first | rfl | exact jz (Z:=Z) (x:=x) | exact kz
def mz:fC (sP Z x m p q as cs)=dA:=by
 unfold sP;split
 ·split
  ·split<;>rfl
  ·rfl
 ·exact nz
def Bz:fC (rQ Z m p q as a cs)=dA:=by unfold rQ;repeat' split<;>try rfl
def Dz:fC (jU Z t a)=dA:=by
 induction t using FC with
 |Name x _=>show fC (NQ Z x a)=dA;unfold NQ;split<;>rfl
 |Tuple b _ _=>show fC (OQ Z b a)=dA;unfold OQ;repeat' split<;>try rfl
 |_=>rfl
def yz:fC (OJ Z as a)=dA:=by
 unfold OJ eT;split
 ·split
  ·split
   ·rfl
   ·exact Dz
  ·rfl
 ·rfl
def zz:fC (nT as a)=dA:=by unfold nT;first | rfl | (split<;>rfl)
def Az:fC (iZ as a)=dA:=by unfold iZ;first | rfl | (split<;>rfl)
def zFa{f:fA}{as:List wA}{a:List E}(h:fC (PH f as a)=bA):yP f=aA .sorted/\PH f as a=.bif .sorted a:=by
 unfold PH aAQ at *
 split at h
 ·rw[zz] at h;cases h
 ·split at h
  ·(repeat' split at h)<;>cases h
  ·split at h
   ·cases h
   ·split at h
    ·rw[Az] at h;cases h
    ·split at h
     ·rename_i c d e g _ b i;rw[JA c,JA d,JA e,JA g,i]
      induction b using BI.casesOn<;>first | exact⟨rfl,rfl⟩ | cases h
     ·cases h
def tQ[Decidable b](d:fC a=dA)(e:fC c=dA):fC (if b then a else c)=dA:=by split<;>assumption
theorem wz{op:lF}{b:wA}{ca x y:E}:fC (MS Z op b ca (.CA op x y))=dA:=rfl
theorem vz{a:wA}{ci x y:E}:fC (jY Z a ci (.ix x y))=dA:=rfl
def fE(Z:CC)(e:wA):Prop:=(∃f p a r pos,e=.Call (.Name f p) (a::r) [] pos/\(a::r).all aAd=bA/\((∃g,Z.glob f=.fn g/\cE Z e=.call g (lB Z (a::r)))\/(Z.glob f=.blt/\yP f=aA .sorted/\cE Z e=.bif .sorted (lB Z (a::r)))))\/∃b c iter FA d pos,e=.ListComp b [⟨c,iter,FA,0⟩] d pos/\(FA=[]\/∃h,FA=[h])
def u6{e:wA}(h:fC (cE Z e)=bA):fE Z e:=by
 induction e using FC with
 |Name x p=>exact mC ((Cz (x:=x)).symm.trans h)
 |Constant c _ _=>exact mC ((oz (c:=c)).symm.trans h)
 |Tuple es _ _=>exact mC ((tQ (b:=es.all aAd=bA) (a:=.t (lB Z es)) (c:=.qA) rfl rfl).symm.trans h)
 |List es _=>exact mC ((tQ (b:=es.all aAd=bA) (a:=.l (lB Z es)) (c:=.qA) rfl rfl).symm.trans h)
 |Dict ks vs _=>exact mC ((qz (uz (pz (ks:=ks) (vs:=vs) (cs:=DW Z ks) (es:=lB Z vs)))).symm.trans h)
 |BinOp a op b _=>exact mC h
 |UnaryOp op a _=>cases op<;>exact mC h
 |Compare a w bs _ =>
  obtain _ | ⟨u,_ | ⟨B,_ | ⟨R,_⟩⟩⟩:=w<;>obtain _ | ⟨v,_ | ⟨F,_ | ⟨U,_⟩⟩⟩:=bs<;>first
   |exact mC h
   |exact mC ((tQ (b:=lJ u v=bA) (a:=.qA) (c:=MS Z u v (cE Z a) (.CA u (cE Z a) (cE Z v))) rfl wz).symm.trans h)
   |exact mC ((tQ (b:=lJ B F=bA) (a:=.qA) (c:=.vF u B (cE Z a) (cE Z v) (cE Z F)) rfl rfl).symm.trans h)
 |BoolOp op es _ =>
  cases op<;>obtain _ | ⟨a,_ | ⟨b,r⟩⟩:=es<;>exact mC h
 |IfExp c a b _=>exact mC h
 |Subscript a i _ =>
  rcases D8 Z a i ‹xB› with ⟨lo,Y,q,rfl⟩ | ⟨_,z⟩
  ·exact mC h
  ·rw[z] at h;exact mC ((tQ rfl vz).symm.trans h)
 |Attribute o f _=>cases o<;>exact mC h
 |ListComp k gens H _ =>
  obtain _ | ⟨⟨I,it,FA,n⟩,_ | ⟨_,_⟩⟩:=gens
  ·exact mC h
  ·obtain _ | ⟨y,_ | ⟨_,_⟩⟩:=FA<;>obtain(_ | _) | _:=n<;>first
    |exact Or.inr ⟨k,I,it,[],H,_,rfl,.inl rfl⟩
    |exact Or.inr ⟨k,I,it,[y],H,_,rfl,.inr ⟨y,rfl⟩⟩
    |exact mC h
  ·obtain _ | ⟨y,_ | ⟨_,_⟩⟩:=FA<;>obtain(_ | _) | _:=n<;>exact mC h
 |Call fn args J pos =>
  induction fn using FC with
  |Name f p =>
   induction J using LB with
   |nil =>
    change fC (if args.all aAd&&decide (args≠[]) then(match Z.glob f with | .fn g=>.call g (lB Z args) | .cls l=>.make f l (lB Z args) | .blt=>if f=("isinstance":fA) then OJ Z args (lB Z args) else PH f args (lB Z args) | _=>.qA) else .qA)=bA at h;split at h
    ·rename_i d;split at h
     ·rename_i g s;rw[RA] at d
      induction args using LB with
      |nil=>simp at d
      |cons a r =>
       refine Or.inl ⟨f,p,a,r,pos,rfl,d.1,.inl ⟨g,s, ?_⟩⟩;show(if(a::r).all aAd&&decide ((a::r)≠[]) then(match Z.glob f with | .fn g=>E.call g (lB Z (a::r)) | .cls l=>E.make f l (lB Z (a::r)) | .blt=>if f=("isinstance":fA) then OJ Z (a::r) (lB Z (a::r)) else PH f (a::r) (lB Z (a::r)) | _=>.qA) else .qA)=_;rw[MA (by rw[d.1];simp),s]
     ·cases h
     ·rename_i s;rw[RA] at d;split at h
      ·rw[yz] at h;cases h
      ·rename_i A;obtain⟨N,O⟩:=zFa h
       induction args using LB with
       |nil=>simp at d
       |cons a r =>
        refine Or.inl ⟨f,p,a,r,pos,rfl,d.1,.inr ⟨s,N, ?_⟩⟩;show(if(a::r).all aAd&&decide ((a::r)≠[]) then(match Z.glob f with | .fn g=>E.call g (lB Z (a::r)) | .cls l=>E.make f l (lB Z (a::r)) | .blt=>if f=("isinstance":fA) then OJ Z (a::r) (lB Z (a::r)) else PH f (a::r) (lB Z (a::r)) | _=>.qA) else .qA)=_;rw[MA (by rw[d.1];simp),s];exact(JA A).trans O
     ·cases h
    ·cases h
   |cons _ _=>exact mC h
  |Attribute o m hB =>
   induction J using LB with
   |nil =>
    induction o using FC with
    |Name x p=>exact mC ((mz (x:=x) (m:=m) (p:=hB) (q:=pos) (as:=args) (cs:=lB Z args)).symm.trans h)
    |Call g j t M =>
     induction j using LB with
     |nil=>exact mC h
     |cons a0 Q=>exact mC ((Bz (m:=m) (p:=hB) (q:=pos) (as:=args) (a:=cE Z (.Call g (a0::Q) t M)) (cs:=lB Z args)).symm.trans h)
    |_=>exact mC h
   |cons _ _ =>
    induction o using FC with
    |Call g j t M=>cases j<;>exact mC h
    |_=>exact mC h
  |_=>exact mC h
 |_=>exact mC h
def Gn(h:fC (cE Z e)=bA):iD e=bA\/∃a b iter FA c pos,e=.ListComp a [⟨b,iter,FA,0⟩] c pos/\(FA=[]\/∃d,FA=[d]):=(u6 h).imp (λz=>by
 rcases z with ⟨_,_,_,_,_,rfl,_⟩
 rfl) id
def CN(h:zG P C c U=aA (x,a)):fC c=bA:=by
 induction c using E.casesOn with
 |call=>rfl
 | «bif» f b=>induction f using BI.casesOn<;>first | rfl | exact oD h
 |_=>exact oD h
def UT{a:kF}{b it:wA}{ci:E}{as c:List E}{ce:E}(h:fC (UG Z a b it ci as c ce)=bA):False:=by
 unfold UG at h
 (repeat' split at h)<;>cases h
def LV(K:kA)(P:VA)(C:Calls)(n:Nat):Prop:=∀(X:Cx) (Z:CC),OA X K P C Z->∀e:wA,sizeOf e<n->PE X e (r1 X K P C (cE Z e))
theorem fX(g:LV K P C n)(d:OA X K P C Z):∀c:List wA,sizeOf c<n->c.all aAd=bA->PA X c (lJa X K P C (lB Z c))
 |[],_,_=>by
  intro pos cA s Y H Q I ⟨U,G,x,f,r,a,k⟩;simp only[lB,xH] at a;cases a
 |e::c,i,m=>by
  have b:=m;rw[kC,RA] at b;refine TA.NN (FG (CZ (DE d e).h (g _ _ d e (MM i))) (fX g d c (QQ i) b.2) (iC b.1 _ _)) λY H Q o=>?_
  obtain⟨U,G,x,f,r,a,k⟩:=o;simp only[lB,xH] at a;split at a
  ·rename_i v j p;exact .inl ⟨U,G,v,j,r,p,λy t q l _=>⟨j,q,x,f,l.rA,a,k.pre (DA.s r l)⟩⟩
  ·exact .inr ⟨U,G,x,f,r,a,k⟩
theorem Yp{P:VA}{C:Calls}{f:String}{a:List E}{U:Env}:zG P C (.call f a) U=(match JC P C a U with
  |some (.ok b,c)=>match ID (P f) (C f) b c with
   |some (.ex x,d)=>aA (x,d)
   |_=>eA
  |_=>xH P C a U):=rfl
def Gm(ih:LV K P C n)(h:OA X K P C Z)(e:wA)(o:sizeOf e<n+1):PE X e (r1 X K P C (cE Z e)):=by
 intro cA s Y H Q I ⟨U,G,x,B,r,d,k⟩;rcases u6 (CN d) with ⟨f,p,a,aAl,pos,rfl,q,⟨g,O,R⟩ | ⟨O,J,R⟩⟩ | ⟨t,tg,iter,FA,u,pos,rfl,rfl | ⟨c1,rfl⟩⟩
 case inr.inl=>exact(UT (show fC (UG Z u tg iter (cE Z iter) (OK Z iter) [] (cE (Z.inner u) t))=bA from CN d)).elim
 case inr.inr=>exact(UT (show fC (UG Z u tg iter (cE Z iter) (OK Z iter) [cE (Z.inner u) c1] (cE (Z.inner u) t))=bA from CN d)).elim
 case inl.inr =>
  rw[R] at d;obtain⟨M,h2,N,h4⟩:=CC.JE h O (λz=>nomatch z);have c:=q;rw[kC,RA] at c;exact aO (R5 h.vC h.calm h.hh h.rm .sorted) M (h.blt f h2) (Q5 J) (fX ih h (a::aAl) (qT (by simp;lia) o) q) h4 N (iC c.1 _ _) (gH c.2 _ _).1 cA s Y H Q I ⟨U,G,x,B,r,d,k⟩
 rw[R] at d;obtain⟨M,h2,N,h4⟩:=CC.JE h O (λz=>nomatch z);obtain⟨fa,fd,ps,k0,F,hr,hm,hk,J⟩:=(h.fnX f g h2).ex;have c:=q;rw[kC,RA] at c;rw[Yp] at d
 have i:xH P C (lB Z (a::aAl)) U=aA (x,B)->tA (model X.prog X.w) X.A (eval (.Call (.Name f p) (a::aAl) [] pos) X.env) (EP X cA Y Q) X.xe s:=λz =>
  xb F hr M hm hk J (fX ih h (a::aAl) (qT (by simp;lia) o) q) N (iC c.1 _ _) (gH c.2 _ _).1 cA s Y H Q I ⟨U,G,x,B,r,z,k⟩
 split at d
 ·rename_i hs U1 q1;split at d
  ·rename_i x' U2 q2;cases d;refine xb F hr M hm hk J (zP h (a::aAl) q) N (iC c.1 _ _) (gH c.2 _ _).1 cA s Y H Q I ⟨U,G,hs,U1,r,q1,λxs H1 G1 a1 rx=>?_⟩;obtain⟨as,G2,E5,d1,d2,d3,d4⟩:=So a1 rx q2;refine⟨λv p y=>∃j l,v=.ref j/\DA K U Y H G B y l/\yB K eB x.cls=aA (aA (.ref j))/\zE K j/\RL K l j p x,⟨?_,as,G2,x,E5,d1,d2,d3,λy l j p b hn hg hp=>⟨j,l,rfl,d4 y l b,hn,hg,hp⟩⟩,λm b Cb p y s' I' F' ⟨j,l,z,b1,b2,b3,b4⟩=>?_⟩
   ·have:=d1.len
    rw[vA] at this
    lia
   ·cases z;exact k m Y y l s' b Cb p (DA.s r b1) I' F' b2 b3 b4
  ·cases d
 ·exact i d
theorem k8:∀n:Nat,LV K P C n
 | 0=>λ_ _ _ _ h=>absurd h (tR _)
 |n+1=>λ_ _ a e h=>Gm (k8 n) a e h
def AW(a:OA X K P C Z)(e:wA):PE X e (r1 X K P C (cE Z e)):=k8 _ _ _ a e (VF _)
def Rm(f:OA X K P C Z)(h:FA=[]\/∃c,FA=[c]):lj X K P C (.ListComp a [⟨d,iter,FA,0⟩] b pos) (cE Z (.ListComp a [⟨d,iter,FA,0⟩] b pos)):=by
 intro W x i p pos _ _ _ _ cA s Y H D I ⟨U,G,g,j,r,e,k⟩;rcases h with rfl | ⟨c,rfl⟩
 ·exact(UT (show fC (UG Z b d iter (cE Z iter) (OK Z iter) [] (cE (Z.inner b) a))=bA from CN (P:=P) (C:=C) e)).elim
 ·exact(UT (show fC (UG Z b d iter (cE Z iter) (OK Z iter) [cE (Z.inner b) c] (cE (Z.inner b) a))=bA from CN (P:=P) (C:=C) e)).elim
end
end CI
namespace CI
set_option tactic.hygienic true
open PySem PySem.Spec PyProof.Rows L2
section
variable{X:Cx}{K:kA}{P:VA}{C:Calls}{W:Nat}{Z:CC}{cA eH:List (jA×qB)}{Y:St}{H G:Hp}{s:zA}
abbrev Cx.re(X:Cx)(E:gA->zA->Prop)(pn:List (jA×qB)):Cx:={ X with xe:=E,pn:=pn }
abbrev RE(X:Cx)(b:List QA)(t:Cx->TS):Prop:=∀E pn,FH (model X.prog X.w) X.A X.env E->dC (Cx.re X E pn) b (t (Cx.re X E pn))
abbrev Cx.ma(X:Cx)(v:gA):Cx:={ X with A:=X.A.mark (aA v),calm:=dA,xe:=λ_ _=>False }
def X_{E:gA->zA->Prop}(o:X.Ok):(Cx.re X E pn).Ok :=
 ⟨o.mod,o.kind,o.glob,o.blt,o.above,o.inj,o.has,o.QK,o.hd,o.frames,o.LM,o.OP,o.bs,o.TH,o.gL,o.eM,o.yF,o.NI⟩
def i'{E:gA->zA->Prop}(o:(Cx.re X E pn).Ok):X.Ok :=
 ⟨o.mod,o.kind,o.glob,o.blt,o.above,o.inj,o.has,o.QK,o.hd,o.frames,o.LM,o.OP,o.bs,o.TH,o.gL,o.eM,o.yF,o.NI⟩
def O_(o:X.Ok):(Cx.ma X v).Ok :=
 ⟨o.mod,o.kind,o.glob,o.blt,o.above,o.inj,o.has,o.QK,(λz=>nomatch z),o.frames,o.LM,o.OP,o.bs,o.TH,o.gL,o.eM,o.yF,o.NI⟩
def n8{E:gA->zA->Prop}(I:iA X cA Y H s):iA (Cx.re X E (X.pn++cA)) [] Y H s :=
 ⟨X_ I.ok,I.os,I.bare,I.base,I.loc,I.cell,I.free,I.xF,λp a=>I.pin p (by simpa using a),I.SA,I.len⟩
def o8{E:gA->zA->Prop}(I:iA (Cx.re X E (X.pn++cA)) eH Y H s):iA X cA Y H s :=
 ⟨i' I.ok,I.os,I.bare,I.base,I.loc,I.cell,I.free,I.xF,λp a=>I.pin p (VE _ a),I.SA,I.len⟩
def zY(I:iA X cA Y H s):iA (Cx.ma X v) cA Y H s :=
 ⟨O_ I.ok,I.os,I.bare,I.base,I.loc,I.cell,I.free,I.xF,I.pin,I.SA,I.len⟩
def Gu{E:gA->zA->Prop}(o:X.Ok)(I:iA (Cx.ma (Cx.re X E (X.pn++cA)) v) eH Y H s):iA X cA Y H s :=
 ⟨o,I.os,I.bare,I.base,I.loc,I.cell,I.free,I.xF,λp a=>I.pin p (VE _ a),I.SA,I.len⟩
theorem OA.re{E:gA->zA->Prop}(xo:OA X K P C Z):OA (Cx.re X E pn) K P C Z :=
 OA.of xo.vC xo.DG xo.nm xo.nd xo.calm xo.hh xo.hu xo.c xo.blt (λx f h=>⟨(xo.fn x f h).ex⟩) (λx ns h=>⟨(xo.cls x ns h).ex⟩) (λm j c f h1 h2=>⟨(xo.XD m j c f h1 h2).ex⟩) xo.rm xo.sub xo.bD xo.yH ⟨xo.exc,λx h=>⟨(xo.JI x h).ex⟩⟩ xo.KA ⟨λx f h=>⟨(xo.fnX x f h).ex⟩,λx f h=>⟨(xo.obj x f h).ex⟩,λm j c f h1 h2=>⟨(xo.cz m j c f h1 h2).ex⟩⟩ xo.tp
def Gk(r:GA K U Y H G)(h:U[i]?=aA (.sh d)):EB K U Y H G (U.set i .mv) (Y.set i eA) H G:=by
 have b:∀{j:Nat} {sl:Sl},(U.set i .mv)[j]?=aA sl->(j=i/\sl=.mv)\/(j≠i/\U[j]?=aA sl/\(Y.set i eA)[j]?=Y[j]?):=λ{j sl} q=>by
  rcases HG q with ⟨f,m,_⟩ | ⟨f,m⟩
  ·exact .inl ⟨f,m⟩
  ·exact .inr ⟨f,m,PD (λz=>f z.symm)⟩
 refine⟨⟨by rw[oE,oE];exact r.len,r.sub,λj e q=>?_,λj e p l q=>?_,λj k x y A B F I a n g o t=>?_⟩,Ext.refl,λa ⟨j,e,p,l,n,g⟩=>?_,λj q=>?_,λj e l q=>?_,by rw[oE]⟩
 ·rcases b q with ⟨_,z⟩ | ⟨_,z,c⟩
  ·cases z
  ·rw[c];exact r.sh j e z
 ·rcases b q with ⟨_,z⟩ | ⟨_,z,c⟩
  ·cases z
  ·rw[c];exact r.ow j e p l z
 ·rcases b n with ⟨_,z⟩ | ⟨_,z,c⟩
  ·cases z
  ·rcases b g with ⟨_,w⟩ | ⟨_,w,v⟩
   ·cases w
   ·rw[c] at o;rw[v] at t;exact r.inj _ _ _ _ _ _ _ _ _ z w o t
 ·rcases b n with ⟨_,z⟩ | ⟨_,z,c⟩
  ·cases z
  ·rw[c] at g;exact .inl ⟨j,e,p,l,z,g⟩
 ·rcases b q with ⟨_,z⟩ | ⟨_,z,c⟩
  ·cases z
  ·exact⟨z,c⟩
 ·have u:j≠i:=λz=>by rw[z,h] at q;cases q
  exact⟨PD (λz=>u z.symm),e,by rw[PD (λz=>u z.symm)];exact q⟩
def xr(g:OA X K P C Z)(a:Z.MN x=.KA h)(k:c∈h)(e:yB K eB c=aA (aA (.ref j))):∃b,X.mg x=aA (.ref b)/\(∃i,vJ K b i)/\kI K j (.ref b)=aA bA/\Gl X x/\(x==("__debug__":fA))=dA:=by
 unfold CC.MN at a;split at a
 ·cases a
 ·rename_i d;split at a
  ·rename_i f;obtain⟨b,l,m,n⟩:=(g.KA x h a).ex;refine⟨b,l,m,n _ k j e, ?_, ?_⟩
   ·unfold Gl V3;rw[g.nm];exact yC f
   ·simp only[OH,oR,V2] at d;exact d.1.1
  ·cases a
abbrev pZ:Ends:={ nx:=λ_ _=>False,rt:=λ_ _=>False }
def SP.no{f:Flow}(h:SP X cA pZ f s):False:=by
 induction f using sV with
 |ret u=>obtain⟨_,_,_,_,_,z⟩:=h;exact z
 |_=>obtain⟨_,_,_,z⟩:=h;exact z
def SP.un{E:gA->zA->Prop}{D:Ends}{f:Flow}(h:SP (Cx.re X E (X.pn++cA)) eH D f s):SP X cA D f s:=by
 induction f using sV with
 |ret u=>obtain⟨v,j,m,J,z⟩:=h;exact⟨v,j,m,o8 J,z⟩
 |_=>obtain⟨j,m,J,z⟩:=h;exact⟨j,m,o8 J,z⟩
def lKa{t:TS}{D:Ends}{body:List QA}{b:lI}{pos:xB}(c:RE X body λ_=>t)(I:iA X cA Y H s)(h:t D Y H) :
  tA (model X.prog X.w) X.A (exec (.Try body [b] [] [] pos) X.env) (SP X cA D) X.xe s :=
 wpAny_Try_except (oG (c _ (X.pn++cA) Vh [] s Y H D (n8 I) h) (λf d a=>by
  have a:=SP.un a
  induction f using sV with
  |next=>exact ZU a
  |_=>exact a) λ_ _ z=>z)
theorem LH.c{h:nB}{a c:jA}{p:PX}{x:gA}(F:LH X cA H h a c p x):∃j m a0,h.get? a=aA j/\(j.cls=.ref c/\j.dict=p.1)/\j.data=.fields m/\BJ m a0 p.2:=by
 obtain⟨j,m,a0,T,I,J,y,r,hd,B,_⟩:=F;exact⟨j,m,a0,y,r,hd,B⟩
theorem kKa(O:OA X K P C Z)(j:X.stack=X.env::X.outer)(fr:X.env.frame=aA X.env.locals){body Q:List QA}{R:List S}{x:fA}{cs:List fA}{b:Exc}{U k:Env}{np l pos:xB}{D:Ends}{m:Option fA}
  (o:RE X body λX=>iH X K P C W R) (hx:Z.MN x=.KA cs) (I:iA X cA Y H s) (r:GA K U Y H G) (q:UC P C W R U=aA (b,k)) (hc:cs.contains b.cls=bA)
  (h:∀{E eH t d u i a e p},EB K U Y H G k t d u->iA (Cx.re X E (X.pn++cA)) eH t d i->TC (Cx.re X E (X.pn++cA)) eH d a->LH (Cx.re X E (X.pn++cA)) eH d i.heap a e p .none ->
   yB K eB b.cls=aA (aA (.ref e))->zE K e->RL K u e p b->oI (model X.prog X.w) (X.A.mark (aA (.ref a))) (.handlers (.ref a) [.ExceptHandler eA m Q l] X.env) (λr y=>match r with
    |.ok f=>(match m with
     |none=>SP X cA D f y
     |some n=>tA (model X.prog X.w) X.A (do bindName X.env n .none;unbindBehindTheSuite X.env n l) (λ_ s₃=>SP X cA D f s₃) X.xe y)
    |.error x=>cameBackBy (model X.prog X.w) X.A X.env X.xe x y) i) :
  tA (model X.prog X.w) X.A (exec (.Try body [.ExceptHandler (aA (.Name x np)) m Q l] [] [] pos) X.env) (SP X cA D) X.xe s:=by
 refine wpAny_Try_except (oG (o _ (X.pn++cA) Vh [] s Y H pZ (n8 I) ⟨U,G,b,k,r,q,λeH t d u i a e pp B I' F g hg J=>?_⟩) (λf s1 h1=>(SP.no h1).elim) λ_ _ z=>z);refine Ka (X:=Cx.re X _ (X.pn++cA)) I' j fr F λh1 I1 F1=>nX (X:=Cx.re X _ (X.pn++cA)) I1 F.1 F1 λh2 M F2=>?_
 obtain⟨D0,d1,d2,d3,d4,d5⟩:=xr O hx (c:=b.cls) (by simpa using hc) g;have hK:=O.vC;subst hK;obtain⟨oe,_,_,he,N,_⟩:=F2.c;refine wpAny_handleBy_cons (codeAny_handlers_test (SN (X:=Cx.ma (Cx.re X _ (X.pn++cA)) (.ref a)) (zY M) d4 d1 ?_ d5)) (by intro z;cases z);exact kr (zY (v:=.ref a) M).fD hg.q.choose_spec d2.choose_spec d3 he N.1 (h B M F.1 F2 g hg J)
def jKa(j:OA X K P C Z)(k:X.stack=X.env::X.outer)(fr:X.env.frame=aA X.env.locals){body y:List QA}{B:List S}{x:fA}{J:List fA}{g:Exc}{U M:Env}{np O pos:xB}{D:Ends}{n:fA}{i:Nat}{st:QA}
  (l:RE X body λX=>iH X K P C W B) (hx:Z.MN x=.KA J) (I:iA X cA Y H s) (r:GA K U Y H G) (q:UC P C W B U=aA (g,M)) (hc:J.contains g.cls=bA) (hi:X.N[i]?=aA n) (Q:X.env.scope.names.lookup n=aA .local)
  (h:∀{E F eH R H' G' s' a},EB K U Y H G M R H' G'->nA K G' (.FE g.cls g.num) (.ref a)->iA (Cx.ma (Cx.re X E (X.pn++cA)) (.ref a)) eH (R.set i (aA (.ref a))) H' s' ->
   tA (model X.prog X.w) (X.A.mark (aA (.ref a))) (execs (st::y) X.env) (λf m=>tA (model X.prog X.w) X.A (do bindName X.env n .none;unbindBehindTheSuite X.env n O) (λ_ m=>SP X cA D f m) X.xe m) F s') :
  tA (model X.prog X.w) X.A (exec (.Try body [.ExceptHandler (aA (.Name x np)) (aA n) (st::y) O] [] [] pos) X.env) (SP X cA D) X.xe s:=by
 refine kKa j k fr l hx I r q hc λb I2 e F2 p hg t=>codeAny_handlers_suite_as (nX I2 e F2 λh3 I3 F3=>?_)
 obtain⟨oe,vs,_,he,u,hd,_⟩:=F3.c
 refine N0 (X:=Cx.ma (Cx.re X _ (X.pn++cA)) _) (v:=.ref _) (zY (Ju (o:=.ext (QG _ _ _)) I3 e ⟨⟨oe,vs,he,u,hd⟩,⟨oe,he⟩,λh4 h5 z w=>by
  obtain⟨o1,v1,z1,z2,z3⟩:=z
  exact⟨o1,v1,w o1 z1,z2,z3⟩⟩)) (by rw[j.DG];exact j.nd) hi (.inl Q) rfl (λs5 I5=>h (b.trans ⟨b.rA.RJ e.1,Ext.RJ b.rA.sub e.1,λ_ h=>.inl h,λ_ h=>⟨h,rfl⟩,λ_ d _ h=>⟨rfl,d,h⟩,rfl⟩) ?_ I5) (.inr Q)
 simp only[nA];exact⟨_,_,_,rfl,p,hg,oC,t.pay.mono (Sm.laid (aB.free b.rA.sub e.1))⟩
def fEa
  (c:RE X body λ_=>xE K P C W a):PS X (.Try body b o f pos) (tS K P C W (pU a b o f)):=xC
def dDa{st:QA}(h:∀U,wF P C W c U=eA):PS X st (kE X K P C W c):=λcA s Y H D I a=>by obtain⟨U,G,x,b,r,e,k⟩:=a;rw[h] at e;cases e
def fDa:PS X (.Try body a o f pos) (kE X K P C W (pU b a o f)):=by
 unfold pU
 (repeat' split)<;>exact dDa λU=>rfl
def gEa
  (a:RE X body λ_=>xE K P C W b):PS X (.Try body c [] [] pos) (tS K P C W (L1 Z b c)):=fEa a
def gDa(e:OA X K P C Z)(a:X.stack=X.env::X.outer)(fr:X.env.frame=aA X.env.locals)
  (b:RE X body λX=>iH X K P C W c):PS X (.Try body d [] [] pos) (kE X K P C W (L1 Z c d)):=fDa
def eEa(f:OA X K P C Z)(c:X.stack=X.env::X.outer)(fr:X.env.frame=aA X.env.locals){body:List QA}{b:List lI}{a:List S}{pos:xB}
  (d:RE X body λ_=>xE K P C W a) (e:RE X body λX=>iH X K P C W a):PS X (.Try body b [] [] pos) (tS K P C W (K1 Z a b)):=gEa d
def eDa(e:OA X K P C Z)(a:X.stack=X.env::X.outer)(fr:X.env.frame=aA X.env.locals){body:List QA}{c:List lI}{d:List S}{pos:xB}
  (b:RE X body λX=>iH X K P C W d):PS X (.Try body c [] [] pos) (kE X K P C W (K1 Z d c)):=gDa e a fr b
theorem OA.ma{E:gA->zA->Prop}(xo:OA X K P C Z):CB dA (Cx.ma (Cx.re X E pn) v) K P C Z:=⟨xo.vC,xo.DG,xo.nm,xo.nd,xo.c,xo.blt,xo.sub,xo.bD,xo.yH,λz=>nomatch z⟩
def iU(b:CB l X K P C Z)(h:kO Z e=aA c):IA X K P C e c/\aAd e=bA/\iD e=bA:=by
 unfold kO at h
 cases hq:aAp e with
 |some x =>
  rw[hq] at h;cases h;obtain⟨p,rfl⟩:=eL hq;exact⟨xQ b _ _,rfl,rfl⟩
 |none =>
  rw[hq] at h;obtain⟨⟨⟨f,p⟩,args,pos⟩,i,g⟩:=nF.mp h;clear h;obtain rfl:=jQ i;clear i hq;obtain _ | ⟨a,_ | ⟨t,_ | ⟨_,_⟩⟩⟩:=args
  ·exact oD g
  ·exact oD g
  ·obtain⟨x,k,h⟩:=nF.mp g;clear g;obtain⟨m,rfl⟩:=eL k;split at h
   ·rename_i d;replace d:f=_:=d;subst d;split at h
    ·rename_i j;cases h;refine⟨?_,rfl,rfl⟩;split
     ·exact Sa b j ‹_› rfl (xQ b _ _)
     ·exact Ra b j rfl (xQ b _ _)
    ·cases h
   ·cases h
  ·exact oD g
theorem Ld(b:CB i X K P C Z):∀{d:List wA} {a:List E},LQ Z d=aA a->PA X d (bK K P C a)
 |[],a,h=>by
  simp only[LQ,XB] at h;subst h;exact lb
 |e::d,_,h=>by(obtain⟨c,f,h⟩:=nF.mp (show(kO Z e).bind _=_ from h);obtain⟨a,g,rfl⟩:=RF.mp h;exact jb (iU b f).1 (Ld b g) (iU b f).2.1)
def Kd(a:CB d X K P C Z)(h:Jd Z e=aA c):IA X K P C e c/\iD e=bA:=by
 induction e using FC with
 |List b p =>
  obtain⟨f,q,rfl⟩:=RF.mp (show(LQ Z b).map _=_ from h);exact⟨Ta a (Ld a q),rfl⟩
 |_=>exact(λz:kO Z _=aA c=>(⟨(iU a z).1,(iU a z).2.2⟩:IA X K P C _ c/\iD _=bA)) h
theorem Md(d:CB n X K P C Z)(a:uF X Z):∀{b:List QA} {f:List S},MQ Z b=aA f->dC X b (xE K P C W f)
 |[],f,h=>by
  simp only[MQ,XB] at h;subst h;exact Wb
 |st::r,_,h=>by(obtain⟨⟨y,e⟩,k,g⟩:=nF.mp (show(gW st).bind _=_ from h);clear h;obtain⟨p,q,rfl⟩:=Qk k;obtain⟨j,l,h⟩:=nF.mp g;clear g;obtain⟨c,i,g⟩:=nF.mp h;obtain⟨o,m,rfl⟩:=RF.mp g;exact Tb (Pb d a l (Kd d i).1 (Kd d i).2) (Md d a m))
def iEa(e:OA X K P C Z)(a:X.stack=X.env::X.outer)(fr:X.env.frame=aA X.env.locals)(f:uF X Z){body:List QA}{d:List lI}{b:List S}{pos:xB}
  (g:RE X body λ_=>xE K P C W b) (c:RE X body λX=>iH X K P C W b):PS X (.Try body d [] [] pos) (tS K P C W (N1 Z b d)):=eEa e a fr g c
def hDa(e:OA X K P C Z)(a:X.stack=X.env::X.outer)(fr:X.env.frame=aA X.env.locals){body:List QA}{c:List lI}{d:List S}{pos:xB}
  (b:RE X body λX=>iH X K P C W d):PS X (.Try body c [] [] pos) (kE X K P C W (N1 Z d c)):=eDa e a fr b
def hEa(j:OA X K P C Z)(o:X.stack=X.env::X.outer)(fr:X.env.frame=aA X.env.locals)(p:uF X Z){body:List QA}{c:List S}{x n:fA}{t:List fA}{i:Nat}{st:QA}{d:List QA}{v:List S}{np hp pos:xB}
  (hb:RE X body λ_=>xE K P C W c) (w:RE X body λX=>iH X K P C W c)
  (hx:Z.MN x=.KA t) (Q:X.N[i]?=aA n) (R:X.env.scope.names.lookup n=aA .local) (y:MQ Z (st::d)=aA v) :
  PS X (.Try body [.ExceptHandler (aA (.Name x np)) (aA n) (st::d) hp] [] [] pos) (tS K P C W (.oO c t i v)):=by
 intro cA s Y H D I ⟨U,G,fl,U',r,e,k⟩;have hN:X.N.Nodup:=by rw[j.DG];exact j.nd
 replace e:(match KA P C W c U with | some (.nx,A)=>aA (.nx,A) | _=>match sL t i (UC P C W c U) with | some l=>aAI i (KA P C W v l) | none=>eA)=aA (fl,U'):=e;split at e
 ·rename_i A q;cases e;exact lKa hb I ⟨U,G,.nx,U',r,q,k⟩
 ·split at e
  case h_2=>cases e
  rename_i l b;unfold sL at b;split at b
  ·cases b
  ·rename_i x0 A q;split at b
   case isFalse=>cases b
   rename_i hc;unfold aAI at e;split at e
   case h_2=>cases e
   rename_i U3 q3;split at e
   case h_2=>cases e
   rename_i d3 q4;cases e;refine jKa j o fr w hx I r q hc Q R λ{E F eH Y' H' G' s' a} g rep I5=>?_
   have b2:=g.rA.M0 b rep;refine oG (Md (X:=Cx.ma (Cx.re X E (X.pn++cA)) (.ref a)) (W:=W) j.ma p y eH s' _ _ { pZ with nx:=λB M=>∃h,EB K l (Y'.set i (aA (.ref a))) H' G' U3 B M h } I5 ⟨l,G',.nx,U3,b2.rA,q3,λB M h m=>⟨h,m⟩⟩) (λf s6 O=>?_) λ_ _ z=>z.elim
   induction f using sV with
   |next =>
    obtain⟨B,M,J,h,m⟩:=O;exact ot (Gu I.ok J) hN Q R λs7 J7=>⟨_,_,J7,k _ _ h (g.trans (b2.trans (m.trans (Gk m.rA q4))))⟩
   |ret u=>obtain⟨_,_,_,_,_,z⟩:=O;exact z.elim
   |_=>obtain⟨_,_,_,z⟩:=O;exact z.elim
def bEa(a:OA X K P C Z)(b:Z.slot x=aA i)(n:iD e=bA)(c:FT k=bA):PS X (.Assign [.Subscript (.Name x p) k d] e pos) (tS K P C W (IQ i k (cE Z k) (cE Z e))):=by
 have h:PS X (.Assign [.Subscript (.Name x p) k d] e pos) (tS K P C W (.set i (cE Z k) (cE Z e))):=cEa a b (DE a _) (DE a _) n λv=>by induction k using FC<;>first | rfl | cases c
 exact h
def dEa(b:OA X K P C Z):PS X (.Assign [.Tuple a k p] e pos) (tS K P C W (PQ Z a e (cE Z e))):=by
 exact xC
end
end CI
namespace CI
set_option tactic.hygienic true
open PySem PySem.Spec PyProof.Rows L2
end CI
namespace CI
set_option tactic.hygienic true
open PySem PySem.Spec PyProof.Rows L2
section
variable{K:kA}
def u0(b:OA X K P C Z)(h:Z.QE x=aA i):X.N[i]?=aA x/\L2.Loc X.env.scope x/\Z.oM x=bA:=by
 unfold CC.QE at h;split at h
 ·rename_i a
  have c:X.N[i]?=aA x:=by
   unfold CC.slot at h;split at h
   ·cases h
   ·split at h
    ·rw[b.DG];exact VS h
    ·cases h
  refine⟨c, ?_,a⟩;unfold L2.Loc;rw[b.nm];unfold CC.oM at a;rw[jI,RA] at a;rcases a with a | a
  ·exact .inl (yC a)
  ·exact .inr (yC a.2)
 ·cases h
def jDa(b:OA X K P C Z)(d:uF X Z){x:fA}{i:Nat}{e:wA}{c:E}{p pos:xB}(g:Z.QE x=aA i)(h:nN X K P C e c):PS X (.Assign [.Name x p] e pos) (tS K P C W (.YA i c)):=by
 obtain⟨j,l,m⟩:=u0 b g;refine TS.sE (h x i p pos (by rw[b.DG];exact b.nd) j l (d x m)) λD Y H n=>?_
 obtain⟨U,G,u,w,r,e,k⟩:=n;obtain⟨v,f,e1,e2⟩:=UH e k.ne;unfold WH at e2
 cases q:store i v f with
 |none=>rw[q] at e2;cases e2
 |some y =>
  rw[q] at e2;cases e2;exact⟨U,G,v,f,r,e1,λx o s a t=>k _ o s (DA.store r a q t)⟩
def Yr(i:OA X K P C Z)(N:uF X Z){A it:wA}{one:Bool}{is:List Nat}{y:sF}{j:List wA}{Φ:List E->Prop}
  (B:CH Z A=aA (one,is)) (d:PJ Z it=aA (y,j)) (o:bJ y one=bA) (fin:∀{F:TI} {r:List E},(∀x,fJ it X.env x=pure x)->PI X A it F->(∀Y H (R:It->Hp->Prop),wJ K P C y r Y H R->F Y H R)->Φ r):Φ (lB Z j):=by
 have gen:∀e:wA,it=e->ET e=bA->aA (sF.of,[e])=aA (y,j)->Φ (lB Z j):=λe O Q U=>by(subst O;cases U;exact fin (t7 Q _) (PI.or (Ib (DE i it).h) (Lb (DE i it).h)) λY H R q=>Na i.vC Y H R q)
 unfold PJ at d;split at d
 ·rename_i x t;obtain⟨⟨f,p⟩,args,u⟩:=x;obtain rfl:=jQ t;dsimp only at d;split at d
  ·rename_i l;have l:=yC l;subst l;split at d
   ·rename_i m;split at d
    ·rename_i g;cases d;rw[RA] at g;obtain⟨n,v,I,J⟩:=CC.JE i m (λz=>nomatch z);have s:=i.blt _ v;obtain _ | ⟨a,_ | ⟨b,_ | ⟨_,_⟩⟩⟩:=j
     ·simp at g
     ·have k:=g.1;rw[kC,RA] at k;exact fin (λ_=>rfl) (Jb n s (zP i [a] g.1) (by rw[iC k.1];rfl)) λY H R q=>Lc Y H R q
     ·have k:=g.1;rw[kC,RA,kC,RA] at k;exact fin (λ_=>rfl) (Kb n s (zP i [a,b] g.1) (by rw[iC k.1,iC k.2.1];rfl) (by rw[iC k.2.1];rfl)) λY H R q=>Mc Y H R q
     ·simp at g
    ·cases d
   ·cases d
  ·split at d
   ·rename_i l;have l:=yC l;subst l;split at d
    ·rename_i m;split at d
     ·rename_i g;cases d;rw[RA] at g;obtain⟨n,v,I,J⟩:=CC.JE i m (λz=>nomatch z);have s:=i.blt _ v;obtain _ | ⟨a,_ | ⟨_,_⟩⟩:=j
      ·simp at g
      ·have k:=g.1;rw[kC,RA] at k;obtain⟨w,kk,tp,rfl⟩:=C1 B (by simpa[bJ] using o);exact fin (λ_=>rfl) (Hb n s (zP i [a] g.1) (by rw[iC k.1];rfl)) λY H R q=>cX i.vC Y H R q
      ·simp at g
     ·cases d
    ·cases d
   ·exact gen _ rfl rfl d
 ·split at d
  ·rename_i x M;obtain⟨f,a,x,c⟩:=x;obtain⟨p,jj,qq,kp,u,rfl⟩:=jv M;clear M;dsimp only at d;split at d
   ·rename_i g;rw[RA,RA,RA] at g;obtain⟨⟨⟨l,t⟩,k⟩,n⟩:=g;have l:=yC l;have t:=yC t;have n:=yC n;subst l t n;split at d
    ·rename_i m;cases d;obtain⟨n,v,I,J⟩:=CC.JE i m (λz=>nomatch z);have s:=i.blt _ v;obtain⟨w,kk,tp,rfl⟩:=C1 B (by simpa[bJ] using o);exact fin (λ_=>rfl) (gCa n s (zP i [_] (by rw[kC,k];rfl)) (by rw[iC k];rfl)) λY H R q=>cX i.vC Y H R q
    ·cases d
   ·cases d
  ·split at d
   ·exact gen _ rfl ‹_› d
   ·cases d
def Zr(h:OA X K P C Z)(d:uF X Z){f it:wA}{body:List QA}{one:Bool}{is:List Nat}{e:sF}{b:List wA}{Φ:List E->Prop}
  (i:CH Z f=aA (one,is)) (j:PJ Z it=aA (e,b)) (c:bJ e one=bA) (fin:∀{g:TI} {a:List E},(∀x,fJ it X.env x=pure x)->PI X f it g->(∀Y H (R:It->Hp->Prop),wJ K P C e a Y H R->g Y H R)->Φ a):Φ (kQ Z it body (lB Z b)):=by
 exact Yr h d i j c fin
theorem i7:∀{a:List E} {b:List D} {U d:Env},qE P C a U=some (.ok b,d)->b.length=a.length
 |[],_,_,_,h=>by simp only[qE] at h;cases h;rfl
 |c::a,b,U,d,h=>by(simp only[qE] at h;obtain⟨v,g,_,h⟩:=rB h;obtain⟨e,i,f,h⟩:=rB h;cases h;rw[YB,YB,i7 f])
structure MK(X:Cx)(K:kA)(P:VA)(C:Calls)(Z:CC):Prop where
 po:FH (model X.prog X.w) X.A X.env X.xe
 xo:OA X K P C Z
 Kt:uF X Z
 sk:Z.top=bA->X.stack=X.env::X.outer/\X.env.frame=aA X.env.locals
def iP(K:kA)(P:VA)(C:Calls)(W:Nat)(Z:CC)(n:Nat):Prop:=∀X:Cx,MK X K P C Z->∀a:List QA,sizeOf a<n ->
 dC X a (xE K P C W (nD Z a))/\dC X a (iH X K P C W (nD Z a))
theorem MK.re{E:gA->zA->Prop}(c:MK X K P C Z)(po:FH (model X.prog X.w) X.A X.env E):MK (Cx.re X E pn) K P C Z:=⟨po,c.xo.re,c.Kt,c.sk⟩
def j6(q:iP K P C W Z n)(l:MK X K P C Z)(st:QA)(r:sizeOf st<n+1):PS X st (tS K P C W (cS Z st)):=by
 obtain⟨po,d,g,N⟩:=id l
 induction st using rV with
 |Pass _=>exact vDa
 |Break _=>exact lDa
 |Continue _=>exact mDa
 |Return e B =>
  induction e using XF with
  |some e =>
   have O:PS X (.Return (aA e) B) (tS K P C W (RZ e (cE Z e))):=zDa (DE d e);exact O
  |none=>exact yDa
 |Expr e _ =>
  show PS X _ (tS K P C W (if iD e then .expr (cE Z e) else .qA));split
  ·exact pDa (DE d _) ‹_›
  ·exact xC
 |If c a b _=>exact sDa (DE d _) (q _ l a (uB r)).1 (q _ l b (uB r)).1
 |While c b o _ =>
  induction o using LB with
  |nil=>exact iLa po (DE d _) (q _ l b (uB r)).1
  |cons _ _=>exact xC
 |For z it b o v =>
  induction o using LB with
  |nil =>
   have Q:PS X (.For z it b [] v) (tS K P C W (match CH Z z,PJ Z it with
    |some (one,is),aA (k,F)=>if bJ k one then .for is one k (kQ Z it b (lB Z F)) (nD Z b) else .qA
    |_,_=>.qA)):=by
    cases h1:CH Z z with
    |none=>exact xC
    |some t =>
     cases w:PJ Z it with
     |none=>exact xC
     |some u =>
      show PS X _ (tS K P C W (if bJ u.1 t.1 then .for t.2 t.1 u.1 (kQ Z it b (lB Z u.2)) (nD Z b) else .qA));split
      ·exact Zr d g h1 w ‹_› (Φ:=λy=>PS X (.For z it b [] _) (tS K P C W (.for t.2 t.1 u.1 y (nD Z b)))) λH R Y=>Xr po d (tf d g h1) (q _ l b (uB r)).1 H R Y
      ·exact xC
   exact Q
  |cons _ _=>exact xC
 |Assign A e _ =>
  obtain _ | ⟨t,_ | ⟨_,_⟩⟩:=A
  ·exact xC
  ·induction t using FC with
   |Name x p =>
    show PS X _ (tS K P C W (match Z.QE x with | some i=>if iD e||YS e then .YA i (cE Z e) else .qA | none=>.qA));split
    ·split
     ·rename_i m;rw[jI] at m;rcases m with m | m
      ·exact Pb d g ‹_› (DE d _) m
      ·exact jDa d g ‹_› (k_ d _ m)
     ·exact xC
    ·exact xC
   |Tuple A _ _ =>
    show PS X _ (tS K P C W (match qL Z A with | some is=>if iD e&&uQ e then .tN is (cE Z e) else .qA | none=>PQ Z A e (cE Z e)));split
    ·split
     ·rename_i h;rw[RA] at h;exact iDa d g ‹_› (DE d _) h.1 h.2
     ·exact xC
    ·exact dEa d
   |Subscript a k _ =>
    cases a with
    |Name x p =>
     show PS X _ (tS K P C W (match Z.slot x with | some i=>if iD e&&FT k then IQ i k (cE Z k) (cE Z e) else .qA | none=>.qA));split
     ·split
      ·rename_i h;rw[RA] at h;exact bEa d ‹_› h.1 h.2
      ·exact xC
     ·exact xC
    |_=>exact xC
   |_=>exact xC
  ·induction t using FC with
   |Subscript a _ _=>cases a<;>exact xC
   |_=>exact xC
 |AugAssign t op e _ =>
  induction t using FC with
  |Name x p =>
   induction op using ki with
   |Add =>
    show PS X _ (tS K P C W (match Z.QE x with | some i=>if iD e then .qA else .qA | none=>.qA));split
    ·split
     ·exact xC
     ·exact xC
    ·exact xC
   |_=>exact xC
  |_=>exact xC
 |Raise e c _ =>
  induction e using XF with
  |none=>exact xC
  |some e =>
   induction c using XF with
   |none =>
    show PS X _ (tS K P C W (HQ Z e));unfold HQ WT;split
    ·split
     ·split
      ·exact IZ λU=>rfl
      ·exact IZ λU=>rfl
      ·exact xC
     ·exact xC
    ·exact xC
   |some _=>exact xC
 |Try body H o f _ =>
  show PS X _ (tS K P C W (SQ Z (nD Z body) H o f));unfold SQ;split
  ·rename_i s;rw[RA] at s;obtain rfl:=YU.mp s.1;obtain rfl:=YU.mp s.2;split
   ·rename_i x n bd hh;obtain⟨np,hp,rfl⟩:=Zt hh;split
    ·rename_i m;rw[RA] at m;obtain⟨w,h3⟩:=m;have w:=yC w;obtain⟨I,J⟩:=N h3;split
     ·exact xC
     ·split
      ·exact xC
      ·rename_i M
       induction bd using LB with
       |nil=>exact absurd rfl M
       |cons st sts =>
        unfold J1;split
        ·rename_i cs i ss e1 e2 e3;obtain⟨a1,a2,a3⟩:=u0 d e2;exact hEa d I J g (λE pn j=>(q _ (l.re j) body (uB r)).1) (λE pn j=>(q _ (l.re j) body (uB r)).2) e1 a1 (by rw[d.nm];exact w) e3
        ·exact xC
    ·exact xC
   ·split
    ·obtain⟨I,J⟩:=N ‹_›;exact iEa d I J g (λE pn j=>(q _ (l.re j) body (uB r)).1) (λE pn j=>(q _ (l.re j) body (uB r)).2)
    ·exact xC
  ·exact xC
 |_=>exact xC
def Om{n:Nat}(c:iP K P C W Z n){X:Cx}(b:MK X K P C Z)(a:List QA)(d:sizeOf a<n+1):dC X a (xE K P C W (nD Z a)):=by
 obtain⟨po,f,e,g⟩:=id b
 induction a using LB with
 |nil=>exact Wb
 |cons s r=>exact Tb (j6 c b s (vK (by simp;lia) d)) (c _ b r (uB d)).1
theorem Qq{c:E}{a b:List S}{U:Env}:wF P C W (.FA c a b) U=(match ev P C bA c U with | some (.ok (.sh (.bl bA)),d)=>UC P C W a d | some (.ok (.sh (.bl dA)),d)=>UC P C W b d | _=>eA):=rfl
theorem ur{s:S}{r:List S}{U:Env}:UC P C W (s::r) U=(match ex P C W s U with | some (.nx,a)=>UC P C W r a | _=>wF P C W s U):=rfl
theorem Tq{c:fA}{a:List E}{U:Env}:wF P C W (.DM c a) U=(match qE P C a U with | some (.ok _,b)=>aA (⟨c,eA⟩,b) | _=>eA):=rfl
def Km(A:iP K P C W Z n)(v:MK X K P C Z)(st:QA)(B:sizeOf st<n+1):PS X st (kE X K P C W (cS Z st)):=by
 obtain⟨po,g,J,sk⟩:=id v;have no:∀{st:QA} (c:S),(∀U,wF P C W c U=eA)->PS X st (kE X K P C W c):=λc h cA s Y H D I l=>by obtain⟨U,G,x,j,r,e,k⟩:=l;rw[h] at e;cases e
 have qA:∀{st:QA},PS X st (kE X K P C W .qA):=no .qA λU=>rfl
 induction st using rV with
 |Pass _=>exact no .pass λU=>rfl
 |Break _=>exact no .brk λU=>rfl
 |Continue _=>exact no .cnt λU=>rfl
 |Return e M =>
  induction e using XF with
  |none=>exact no .RT λU=>rfl
  |some e =>
   have hR:PS X (.Return (aA e) M) (kE X K P C W (RZ e (cE Z e))):=by(exact TS.sE (JZ (AW g e)) λD Y H l=>(by obtain⟨U,G,x,j,r,d,k⟩:=l;exact⟨U,G,x,j,r,(show wF P C W (.ret (cE Z e)) U=aA (x,j) from d),k⟩))
   exact hR
 |Expr e _ =>
  show PS X _ (kE X K P C W (if iD e then .expr (cE Z e) else .qA));split
  ·exact TS.sE (Qb (AW g e) (kU ‹_› _ _ _)) λD Y H l=>(by obtain⟨U,G,x,j,r,d,k⟩:=l;exact⟨U,G,x,j,r,d,k⟩)
  ·exact qA
 |If c a b _ =>
  refine TS.sE (Rb (DE g c).t (A _ v a (uB B)).2 (A _ v b (uB B)).2) λD Y H l=>?_
  obtain⟨U,G,x,j,r,d,k⟩:=l;replace d:wF P C W (.FA (cE Z c) (nD Z a) (nD Z b)) U=aA (x,j):=d;replace d:=(Qq (a:=nD Z a)).symm.trans d;split at d
  ·rename_i w q;exact⟨U,G,bA,w,r,q,λH1 N m=>⟨w,N,x,j,m.rA,d,k.pre (DA.s r m)⟩⟩
  ·rename_i w q;exact⟨U,G,dA,w,r,q,λH1 N m=>⟨w,N,x,j,m.rA,d,k.pre (DA.s r m)⟩⟩
  ·cases d
 |While c b o _ =>
  induction o using LB with
  |nil=>exact hLa po (DE g c) (A _ v b (uB B)).1 (A _ v b (uB B)).2
  |cons _ _=>exact qA
 |For tg it b o O =>
  induction o using LB with
  |nil =>
   have hF:PS X (.For tg it b [] O) (kE X K P C W (match CH Z tg,PJ Z it with
    |some (one,is),aA (k,zF)=>if bJ k one then .for is one k (kQ Z it b (lB Z zF)) (nD Z b) else .qA
    |_,_=>.qA)):=by
    split
    ·split
     ·exact no (.for _ _ _ _ _) λU=>rfl
     ·exact qA
    ·exact qA
   exact hF
  |cons _ _=>exact qA
 |Assign R e _ =>
  obtain _ | ⟨t,_ | ⟨_,_⟩⟩:=R
  ·exact qA
  ·induction t using FC with
   |Name x p =>
    show PS X _ (kE X K P C W (match Z.QE x with | some i=>if iD e||YS e then .YA i (cE Z e) else .qA | none=>.qA));split
    ·rename_i i hi;split
     ·intro cA s Y H D I ⟨U,G,y,j,r,d,k⟩;replace d:zG P C _ U=aA (y,j):=d;obtain⟨h1,h2,h3⟩:=u0 g hi;rcases Gn (CN d) with Yt | ⟨uC,tg,iter,FA,sc,pos',rfl,hq⟩
      case inr=>exact Rm g hq W x i p _ (by rw[g.DG];exact g.nd) h1 h2 (J x h3) cA s Y H D I ⟨U,G,y,j,r,d,k⟩
      exact aEa (by rw[g.DG];exact g.nd) h1 h2 (AW g _) (kU Yt _ _ _) (J x h3) cA s Y H D I ⟨U,G,y,j,r,d,k⟩
     ·exact qA
    ·exact qA
   |Tuple R _ _ =>
    show PS X _ (kE X K P C W (match qL Z R with | some is=>if iD e&&uQ e then .tN is (cE Z e) else .qA | none=>PQ Z R e (cE Z e)));split
    ·split
     ·exact no (.tN _ _) λU=>rfl
     ·exact qA
    ·unfold PQ
     (repeat' split)<;>first | exact qA | exact no (.swp _ _ _ _) λU=>rfl
   |Subscript a k _ =>
    cases a with
    |Name x p =>
     show PS X _ (kE X K P C W (match Z.slot x with | some i=>if iD e&&FT k then IQ i k (cE Z k) (cE Z e) else .qA | none=>.qA));split
     ·split
      ·unfold IQ;(repeat' split)<;>first | exact no (.set _ _ _) λU=>rfl | exact no (.yNa _ _ _) λU=>rfl
      ·exact qA
     ·exact qA
    |_=>exact qA
   |_=>exact qA
  ·induction t using FC with
   |Subscript a _ _=>cases a<;>exact qA
   |_=>exact qA
 |AugAssign t op e _ =>
  induction t using FC with
  |Name x p =>
   induction op using ki with
   |Add =>
    show PS X _ (kE X K P C W (match Z.QE x with | some i=>if iD e then .qA else .qA | none=>.qA));split
    ·split
     ·exact qA
     ·exact qA
    ·exact qA
   |_=>exact qA
  |_=>exact qA
 |Raise e c _ =>
  induction e using XF with
  |none=>exact qA
  |some e =>
   induction c using XF with
   |none =>
    show PS X _ (kE X K P C W (HQ Z e));unfold HQ;split
    ·rename_i y su;obtain⟨⟨x,np⟩,args,FJ⟩:=y;obtain rfl:=jQ su;show PS X _ (kE X K P C W (WT Z x args));unfold WT;split
     ·rename_i Q;split
      ·rename_i hg;rw[RA] at Q;obtain⟨h1,h2,h3,h4⟩:=CC.JE g hg (λz=>nomatch z);obtain⟨Ca,c1,c2,c3,c4⟩:=(g.exc x h2).ex;have hK:=g.vC;obtain _ | ⟨a,aAl⟩:=args
       ·simp at Q
       ·have ns:=Q.1;rw[kC,RA] at ns;refine TS.sE (wDa g.hh h1 c2 (by rw[hK];exact c4) (Im g (a::aAl) Q.1) h3 (iC ns.1 _ _) (gH ns.2 _ _).1) λD Y H l=>?_
        obtain⟨U,G,y,j,r,d,k⟩:=l;replace d:=(Tq (P:=P) (C:=C) (W:=W)).symm.trans d;split at d
        ·rename_i ds w q;cases d;refine⟨U,G,ds,_,r,q,λxs H1 N m rx=>⟨?_,λcA b s' I' F=>k cA Y H1 N s' b Ca (eA,bA) (DA.s r m) I' F c1 c3 (cBa trivial)⟩⟩;rw[rx.len,i7 q,BW,KL]
         have:=Q.2
         simp at this;simp
         lia
        ·cases d
      ·exact no (.VZ _ _) λU=>rfl
      ·exact qA
     ·exact qA
    ·exact qA
   |some _=>exact qA
 |Try body hs o f _ =>
  show PS X _ (kE X K P C W (SQ Z (nD Z body) hs o f));unfold SQ xf J1;split
  ·rename_i u;rw[RA] at u;obtain rfl:=YU.mp u.1;obtain rfl:=YU.mp u.2;split
   ·split
    ·split
     ·exact qA
     ·split
      ·exact qA
      ·split
       ·exact no (.oO _ _ _ _) λU=>rfl
       ·exact qA
    ·exact qA
   ·split
    ·obtain⟨s1,s2⟩:=sk ‹_›;exact hDa g s1 s2 λE pn po'=>(A _ (v.re po') body (uB B)).2
    ·exact qA
  ·exact qA
 |_=>exact qA
def Mm{n:Nat}(f:iP K P C W Z n){X:Cx}(d:MK X K P C Z)(a:List QA)(g:sizeOf a<n+1):dC X a (iH X K P C W (nD Z a)):=by
 obtain⟨po,p,m,t⟩:=id d
 induction a using LB with
 |nil=>exact λcA s Y H D I h=>(by obtain⟨U,G,x,c,r,e,k⟩:=h;exact nomatch (show(eA:Option (Exc×Env))=aA (x,c) from e))
 |cons st aAl =>
  have i:nD Z (st::aAl)=cS Z st::nD Z aAl:=by first | rfl | (show pNa (oNa Z st aAl) _ _=_;rw[qk];rfl)
  rw[i];refine TS.vY (KZ (tDa (j6 f d st (vK (by simp;lia) g)) (Km f d st (vK (by simp;lia) g))) (f _ d aAl (uB g)).2) λD Y H h=>?_
  obtain⟨U,G,x,c,r,b,k⟩:=h;replace b:UC P C W (cS Z st::nD Z aAl) U=aA (x,c):=b;rw[ur] at b;split at b
  ·rename_i j q;exact .inl ⟨U,G,.nx,j,r,q,λu v o l=>⟨j,o,x,c,l.rA,b,k.pre l⟩⟩
  ·exact .inr ⟨U,G,x,c,r,b,k⟩
theorem WS:∀n:Nat,iP K P C W Z n
 | 0,_,_,_,h=>absurd h (tR _)
 |n+1,_,c,a,h=>⟨Om (WS n) c a h,Mm (WS n) c a h⟩
def Nm(po:FH (model X.prog X.w) X.A X.env X.xe)(c:OA X K P C Z)(b:uF X Z)(d:Z.top=bA->X.stack=X.env::X.outer/\X.env.frame=aA X.env.locals)(a:List QA):dC X a (xE K P C W (nD Z a)):=(WS _ X ⟨po,c,b,d⟩ a (VF _)).1
def Lm(po:FH (model X.prog X.w) X.A X.env X.xe)(c:OA X K P C Z)(b:uF X Z)(d:Z.top=bA->X.stack=X.env::X.outer/\X.env.frame=aA X.env.locals)(a:List QA):dC X a (iH X K P C W (nD Z a)):=(WS _ X ⟨po,c,b,d⟩ a (VF _)).2
end
end CI
namespace CI
set_option tactic.hygienic true
open PySem PySem.Spec PyProof.Rows L2
def cT(Z:CC)(a:List QA):List S:=nD Z a
section
variable{X:Cx}{K:kA}{P:VA}{C:Calls}{W:Nat}{Z:CC}
def Qm(po:FH (model X.prog X.w) X.A X.env X.xe)(c:OA X K P C Z)(b:uF X Z)(d:Z.top=bA->X.stack=X.env::X.outer/\X.env.frame=aA X.env.locals)(a:List QA):dC X a (xE K P C W (cT Z a)):=by
 exact Nm po c b d a
def Pm(po:FH (model X.prog X.w) X.A X.env X.xe)(c:OA X K P C Z)(b:uF X Z)(d:Z.top=bA->X.stack=X.env::X.outer/\X.env.frame=aA X.env.locals)(a:List QA):dC X a (iH X K P C W (cT Z a)):=by
 exact Lm po c b d a
end
end CI
namespace CI
set_option tactic.hygienic true
open PySem PySem.Spec PyProof.Rows L2
def iW:wA->Option (fA×fA)
 |.Attribute e f _=>(aAp e).map λs=>(s,f)
 |_=>eA
def J5:QA->Option (fA×fA×fA)
 |.Assign a v _=>(match a with
  |[]=>eA
  |t::r=>(match r with
   |_::_=>eA
   |[]=>(iW t).bind λp=>(aAp v).map λq=>(p.1,p.2,q)))
 |_=>eA
def Sk(h:iW e=aA x):∃a b,e=.Attribute (.Name x.1 a) x.2 b:=by
 induction e using FC with
 |Attribute =>
  obtain⟨s,c,rfl⟩:=RF.mp (show(aAp _).map _=_ from h);obtain⟨_,rfl⟩:=eL c;exact⟨_,_,rfl⟩
 |_=>exact oD h
def Nk{st:QA}(h:J5 st=aA x):∃a b c d,st=.Assign [.Attribute (.Name x.1 a) x.2.1 b] (.Name x.2.2 c) d:=by
 induction st using rV with
 |Assign e v _ =>
  induction e using LB with
  |nil=>cases h
  |cons t r =>
   induction r using LB with
   |cons=>cases h
   |nil =>
    obtain⟨p,f,h⟩:=nF.mp (show(iW t).bind _=_ from h);obtain⟨q,g,rfl⟩:=RF.mp h;obtain⟨_,_,rfl⟩:=Sk f;obtain⟨_,rfl⟩:=eL g;exact⟨_,_,_,_,rfl⟩
 |_=>exact oD h
def NJ(a:List fA):Nat->List QA->Option (List fA)
 |j,[]=>if j=a.length then aA [] else eA
 |j,st::r=>(J5 st).bind λx=>if a[0]?=aA x.1/\a[j]?=aA x.2.2/\OH x.1=dA/\OH x.2.2=dA then(NJ a (j+1) r).map (x.2.1 :: ·) else eA
theorem dc:∀{fs:List (fA×V)},f ∉ fs.map (·.1)->OE f y fs=fs++[(f,y)]
 |[],_=>rfl
 | (g,x)::r,h=>by(rw[MB,WC,not_or] at h;rw[OE,JA (λz=>h.1 z.symm),dc h.2];rfl)
def aLa(h:H a=aA o):EA H a o=H:=by
 funext b
 unfold EA;split
 ·rename_i z;rw[z,h]
 ·rfl
theorem m8{K:kA}(u:X.K=K)(l:∀(i:Nat) x,o[i]?=aA x->X.N[i]?=aA x/\nP X.env.scope x)(P:xs.length+1=o.length)(cl:aF K p):∀(r:List QA) (j:Nat) (c:List fA),NJ o j r=aA c->1<=j ->
  ∃t,dC X r t/\∀(D:Ends) (Y:L2.St) (H:Hp) (fs:List (fA×V)),(∀(i:Nat) v,(V.ref a::xs)[i]?=aA v->Y[i]?=aA (aA v))->H a=aA (.ins p J fs)->(∀f∈c,sH K p f)->(fs.map (·.1)++c).Nodup->fs.length+c.length<1000 ->
   D.nx Y (EA H a (.ins p J (fs++c.zip (xs.drop (j-1)))))->t D Y H
 |[],j,c,h,Q=>by
  unfold NJ at h;split at h
  ·rename_i R;cases h;refine⟨B1,Vb,λD Y H fs _ w _ _ _ q=>?_⟩;simp only[Nh,DD] at q;rw[aLa w] at q;exact q
  ·cases h
 |st::r,j,c,h,Q=>by
  unfold NJ at h;obtain⟨x,y,U⟩:=nF.mp h;obtain⟨Z,p2,p3,p4,rfl⟩:=Nk y;obtain⟨s,f,q⟩:=x;replace h:=U;dsimp only at h;split at h
  ·rename_i hc;obtain⟨M,A,B,C⟩:=hc
   cases q1:NJ o (j+1) r with
   |none=>rw[q1] at h;cases h
   |some d =>
    rw[q1] at h;cases h;obtain⟨t,ht,k⟩:=m8 u l P cl r (j+1) d q1 (by lia);simp only[OH,V2] at B C;have v0:=DZ (pos:=Z) (l 0 s M).1 (l 0 s M).2 B.1.1 B.1.2;have v1:=DZ (pos:=p3) (l j q A).1 (l j q A).2 C.1.1 C.1.2;refine⟨_,KZ (qDa v0 v1 rfl) ht,λD Y H fs F w O mM m qq=>?_⟩;have hj2:j<o.length:=(BD.mp A).1;obtain⟨b,rfl⟩:∃b,j=b+1:=⟨j-1,by lia⟩
    have n:b<xs.length:=by lia
    have y:(V.ref a::xs)[b+1]?=aA xs[b]:=by simp[n]
    have I:f ∉ fs.map (·.1):=λz=>by
     have:=(MO.mp mM).2.2 f z f (by simp)
     exact this rfl
    refine⟨_,F _ _ y,.ref a,F 0 _ rfl,a,p,J,fs,rfl,w,by rw[u];exact cl,by rw[u];exact O f (by simp),by simp at m;lia, ?_⟩;rw[dc I];refine k D Y _ _ F oC (λg hg=>O g (tD _ hg)) ?_ ?_ ?_
    ·simpa using mM
    ·simp at m ⊢;lia
    ·rw[Q1]
     have e:fs++(f::d).zip (xs.drop (b+1-1))=fs++[(f,xs[b])]++d.zip (xs.drop (b+1+1-1)):=by(rw[show b+1-1=b from rfl,show b+1+1-1=b+1 from rfl,wO n,lK,rG];rfl)
     rw[<- e];exact qq
  ·cases h
def Cu{K:kA}{mg:fA->Option gA}{st:QA}{f:jA}(F:xJ K y b st f p)(S:GK N c (RB st))(r:NJ c 1 (GD st)=aA d)(u:c.length=d.length+1)(mM:d.Nodup)(g:d.length<1000) :
  VD B w K mg base uG 1 f p c (gd K d):=by
 refine F.ok S (λC H Q E h=>?_) λj A outer s H C Q E U h=>?_
 ·obtain⟨a,I,J,xs,rfl,m,_⟩:=h;rw[YB,m,u]
 ·obtain⟨a,I,J,xs,rfl,m,M,n,q⟩:=h
  have l:∀(i:Nat) x,c[i]?=aA x->N[i]?=aA x/\nP (RB st) x:=λi x e=>by
   have O:x∈c:=pF e;refine⟨?_, ?_⟩
   ·have:=S.pre
    rw[<- this,EO] at e;split at e
    ·exact e
    ·cases e
   ·rcases S.par x O with z | z
    ·exact .inl z
    ·exact .inr (.inl z)
  obtain⟨t,P,k⟩:=m8 (X:=(cG uG B w K mg base N b (RB st) f j A outer s H E).XN) (xs:=xs) (a:=a) rfl l (by lia) n.cl (GD st) 1 d r (kB _)
  ·refine⟨t,P,k _ _ H [] (λi v o=>?_) M n.no (by simpa using mM) (by simpa using g) ?_⟩
   ·have R:i<(V.ref a::xs).length:=(BD.mp o).1;rw[I0 R,jD,o];rfl
   ·simpa using q
structure NR(K:kA)(mg:fA->Option gA)(x:fA):Prop where
 ex:True
def NR.at{K:kA}(j:X.K=K)(e:NR K X.mg x):MR X K x:=⟨trivial⟩
structure eP(K:kA)(T:Tab)(gl:fA->GV)(f:String)(fa:jA)(fd:qG)(ps:List fA):Prop where
 bd:aAu K fd ps []
 ex:∃(y pD:fA) (st:QA) (N:List fA) (fn:Fn),xJ K y pD st fa fd/\GK N ps (RB st)/\N.Nodup/\T f=aA fn/\fn.body=cT ⟨N,(RB st).names,gl,bA⟩ (GD st)/\N.length=fn.cA.length+fn.nl/\ps.length=fn.cA.length
structure Entry(K:kA)(mg:fA->Option gA)(T:Tab)(gl:fA->GV)(x:fA)(f:String)(fa:jA)(fd:qG)(ps:List fA):Prop where
 ya:mg x=aA (.ref fa)
 kp:tG K (.ref fa)=bA
 b:eP K T gl f fa fd ps
structure HV(K:kA)(mg:fA->Option gA)(x:fA)(ns:List fA):Prop where
 ex:∃(Ca fa:jA) (fd:qG) (ps:List fA) (y pD:fA) (st:QA) (N:List fA),yB K eB x=aA (aA (.ref Ca))/\mg x=aA (.ref Ca)/\Mk K Ca fa/\iN K Ca ns /\
  xJ K y pD st fa fd/\GK N ps (RB st)/\NJ ps 1 (GD st)=aA ns/\ps.length=ns.length+1/\ns.Nodup/\ns.length<1000/\aAu K fd ps []
structure YV(K:kA)(T:Tab)(gl:fA->GV)(c m:fA)(f:String):Prop where
 ex:∃(Ca fa:jA) (fd:qG) (ps:List fA),yB K eB c=aA (aA (.ref Ca))/\Meth K Ca m fa/\eP K T gl f fa fd ps/\aF K Ca
structure u5(K:kA)(mg:fA->Option gA)(T:Tab)(gl:fA->GV)(x:fA)(f:String):Prop where
 ex:False
structure JV(pr:mI)(K:kA)(mg:fA->Option gA)(T:Tab)(gl:fA->GV):Prop where
 c:∀x d,gl x=.c d->∃u v,mg x=aA u/\aAe v u/\∀G,nA K G d v
 blt:∀x,gl x=.blt->mg x=eA
 fn:∀x f,gl x=.fn f->∃fa fd ps,Entry K mg T gl x f fa fd ps
 cls:∀x ns,gl x=.cls ns->HV K mg x ns
 XD:∀m tb c f,gl (dot m)=.XD tb->tb.lookup c=aA f->YV K T gl c m f
 sub:∀x s n,gl (col x)=.sub s n->RR K mg x s n
 bD:∀x s n,gl (col x)=.bD s n->SR K mg x s n
 exc:∀x,gl x=.exc->ExcAt K mg x
 JI:∀x,gl x=.JI->NR K mg x
 KA:∀x cs,gl (cat x)=.KA cs->gP K mg x cs
 obj:∀x f,gl x=.obj f->u5 K mg T gl x f
 yH:(∀f cs,gl (vS f)=.yH cs->∀c∈cs,∀Ca,yB K eB c=aA (aA (.ref Ca))->sH K Ca f)/\∀x ks vs,gl x=.HS ks vs->OR pr mg K x ks vs
def VT{b:Bool}{o:Option (Exc×Env)}{as a:List Sl}{v:RV}(h:(if b=bA then(match o with | some (x,U)=>(aA (Out.ex x,back as U):BA RV) | none=>eA) else eA)=some (.ok v,a)):False:=by
 split at h
 ·split at h<;>cases h
 ·cases h
abbrev Yi(a:GC)(w:PB)(K:kA)(mg:fA->Option gA)(base:nB)(T:Tab)(gl:fA->GV)(W d:Nat):Prop:=∀(f:String) (b:jA) (c:qG) (e:List fA),eP K T gl f b c e->VD a w K mg base uG (2*d+2) b c e (iO K (T.cA f).length (run T W d f))/\VD a w K mg base (JH a w) (2*d+2) b c e (A0 K (T.cA f).length (run T W d f))
def dg{r:GC}{w:PB}{K:kA}{mg:fA->Option gA}{base:nB}{T:Tab}{gl:fA->GV}{W d:Nat}{N:List fA}{j:fA}{st:QA}{I:jA}{o:gA}{A:AD}{outer:List qJ}{s:zA}{H:Hp}{E:XK}{xe:gA->zA->Prop}(g:JV w.params K mg T gl)(t:Yi r w K mg base T gl W d)(M:N.Nodup)(l:eC (2*d+3) (cG uG r w K mg base N j (RB st) I o A outer s H E).A) :
  OA { cG uG r w K mg base N j (RB st) I o A outer s H E with xe:=xe } K T.cA (run T W d) ⟨N,(RB st).names,gl,bA⟩:=by
 refine OA.of rfl rfl rfl M rfl l.hd l.units g.c g.blt (λn i k=>?_) (λn O k=>?_) (λm J c i p q=>?_) (l.mono (by lia)) g.sub g.bD g.yH ⟨g.exc,λx k=>(g.JI x k).at rfl⟩ g.KA ⟨λn i k=>?_,λn i k=>?_,λm J c i p q=>?_⟩ ⟨_,_,_,rfl,rfl,rfl⟩
 ·obtain⟨a,e,f,h⟩:=g.fn n i k;exact⟨a,e,f,2*d+2,(t i a e f h.b).1,l.mono (by lia),h.ya,h.kp,h.b.bd⟩
 ·obtain⟨u,a,e,f,Z,v,P,N',p,q,y,z,Q,R,U,X,Y,B,C⟩:=(g.cls n O k).ex;exact⟨u,a,e,f,p,q,y,z,Cu Q R U X Y B,C⟩
 ·obtain⟨u,a,e,f,y,z,h,F⟩:=(g.XD m J c i p q).ex;exact⟨u,a,e,f,2*d+2,y,z,(t i a e f h).1,l.mono (by lia),h.bd,F⟩
 ·obtain⟨a,e,f,h⟩:=g.fn n i k;exact⟨a,e,f,2*d+2,(t i a e f h.b).2,l.mono (by lia),h.ya,h.kp,h.b.bd⟩
 ·exact⟨trivial⟩
 ·exact⟨trivial⟩
theorem gY{Pr:GC}{w:PB}{K:kA}{mg:fA->Option gA}{base:nB}{T:Tab}{gl:fA->GV}(W:Nat)(g:JV w.params K mg T gl):∀(d:Nat) (f:String) (B:jA) (R:qG) (U:List fA),
  eP K T gl f B R U->VD Pr w K mg base uG (2*d+2) B R U (iO K (T.cA f).length (run T W d f))/\VD Pr w K mg base (JH Pr w) (2*d+2) B R U (A0 K (T.cA f).length (run T W d f))
 | 0,f,B,R,U,e=>⟨⟨λr H Q E h=>by obtain⟨_,as,G,v,n,_,_,z,_⟩:=h;simp[run] at z,λA outer s H args us r Q E _ _ _ _ h=>by obtain⟨_,as,G,v,n,_,_,z,_⟩:=h;simp[run] at z⟩,
  ⟨λr H Q E h=>by obtain⟨_,as,G,v,n,_,_,z,_⟩:=h;simp[run] at z,λA outer s H args us r Q E _ _ _ _ h=>by obtain⟨_,as,G,v,n,_,_,z,_⟩:=h;simp[run] at z⟩⟩
 |d+1,f,B,R,U,e=>by
  obtain⟨y,t,st,N,fn,F,S,nd,hT,hb,hN,Y⟩:=e.ex;have u:T.cA f=fn.cA:=by unfold Tab.cA;rw[hT]
  refine⟨F.ok S (λr H Q E h=>by rw[h.1,u,Y]) λC A outer s H r Q E hr h=>?_, ?_⟩
  ·obtain⟨hl,as,G,v,n,rA,lM,j,k⟩:=h
   let X:Cx:=(cG uG Pr w K mg base N t (RB st) B C A outer s H E).XN
   let Z:CC:=⟨N,(RB st).names,gl,bA⟩
   have xo:OA X K T.cA (run T W d) Z:=dg (E:=E) g (gY W g d) nd hr;refine⟨_,Qm (W:=W) (X:=X) (Z:=Z) PassesOwn.never xo (λ_ _=>.inl rfl) (λ_=>⟨rfl,rfl⟩) (GD st), ?_⟩;simp only[run,hT] at j;split at j
   ·rename_i I;rw[hb] at j;have m:N.length=as.length+fn.nl:=by rw[hN,I.1]
    have l:=rA.pad m
    cases q:KA T.cA (run T W d) W (cT ⟨N,(RB st).names,gl,bA⟩ (GD st)) (as++AB fn.nl .un) with
    |none=>rw[q] at j;exact(VT j).elim
    |some y =>
     obtain⟨fl,U'⟩:=y;rw[q] at j;refine⟨as++AB fn.nl .un,G,fl,U',l.1,q, ?_⟩
     induction fl using Fl.casesOn with
     |nx =>
      cases j;intro Y' H' M a;obtain⟨O,P⟩:=ZR rA I.2 m a;exact k .lA H' M O (by show nA K M .lA _;simp[nA])
     |rt v' =>
      cases j;intro x' Y' H' M a hv;obtain⟨O,P⟩:=ZR rA I.2 m a;refine k x' H' M O ?_
      have key:∀c,¬AA U' Y' c->(AA (as++AB fn.nl .un) (start N r) c\/H c=eA)->H c=eA:=λc J o=>by
       rcases o with o | o
       ·have:=l.2 c o
        obtain⟨i,d1,p1,l1,h1,h2⟩:=this;refine absurd ?_ J
        apply P c
        have hp:=IH.mp I.2 _ (pF h1);simp only[WI] at hp;subst hp
        have:=O.II i
        rw[h1] at this
        cases q3:(back as U')[i]? with
        |none=>rw[q3] at this;exact this.elim
        |some s =>
         rw[q3] at this
         induction s using Sl.casesOn with
         |ow d2 p2 l2=>exact⟨i,d2,p2,l2,q3,h2⟩
         |sh d2=>exact absurd (show bA=dA from this) (by simp)
         |un=>exact this.elim
         |mv=>exact this.elim
       ·exact o
      induction v using RV.casesOn with
      |sh d0=>exact hv
      |ow d0 =>
       obtain⟨c,rfl,gc,oc,J,o⟩:=hv;exact⟨c,rfl,gc,oc,λz=>J (P c z),key c J o⟩
      |od d0 =>
       obtain⟨c,rfl,gc,oc,J,o,ys,hy,hr⟩:=hv;exact⟨c,rfl,gc,oc,λz=>J (P c z),key c J o,ys,hy,λx hx=>let ⟨b,ws,h1,h2,h3,h4,h5,h6⟩:=hr x hx;⟨b,ws,h1,h2,h3,λz=>h4 (P b z),key b h4 h5,h6⟩⟩
     |bk=>exact(VT j).elim
     |ct=>exact(VT j).elim
     |ex x'=>exact(VT j).elim
   ·cases j
  ·obtain⟨oc,od,kV,doc,pm,an,C,ct,iL,rfl,lk,Dt⟩:=F.ex;refine p7 lk Dt S (λr H Q E h=>by rw[h.1,u,Y]) λA outer s H r Q E hr h=>?_
   obtain⟨hl,as,G,x0,n,rA,lM,j,k⟩:=h
   let X:Cx:=cG (JH Pr w) Pr w K mg base N t (RB st) B C A outer s H E
   let Z:CC:=⟨N,(RB st).names,gl,bA⟩
   have xo:OA X K T.cA (run T W d) Z:=dg (E:=E) g (gY W g d) nd hr;refine⟨_,Pm (W:=W) (X:=X) (Z:=Z) PassesOwn.leaving xo (λ_ _=>.inl rfl) (λ_=>⟨rfl,rfl⟩) (GD st), ?_⟩;simp only[run,hT] at j;split at j
   ·rename_i I;rw[hb] at j;have m:N.length=as.length+fn.nl:=by rw[hN,I.1]
    have l:=rA.pad m;split at j
    ·cases j
    ·cases j
    ·split at j
     ·split at j
      ·rename_i x1 U' q;cases j;refine⟨as++AB fn.nl .un,G,x0,U',l.1,q,λeH Y' H' M s' a Ca p Ek I' F' P7 hg du=>?_⟩;obtain⟨O,P⟩:=ZR rA I.2 m Ek;exact Ao I' F' (k H' M Ca p O P7 hg du)
      ·cases j
     ·cases j
   ·cases j
end CI
namespace CI
set_option tactic.hygienic true
open PySem PySem.Spec PyProof.Rows L2
def HC(st:QA):List fA:=(WG st).args.map (·.arg)
def VJ(st:QA):List fA:=HC st++(((RB st).names.filter λy=>(y.2==.local||y.2==.cell) && !(HC st).contains y.1).map (·.1))
def O6(gl:fA->GV)(st:QA):List S:=cT ⟨VJ st,(RB st).names,gl,bA⟩ (GD st)
structure WV(K:kA)(x m pD:fA)(st:QA):Prop where
 ex:∃(Ca f:jA) (oc:gA) (od an:Option jA) (kV doc pm vH ct:gA) (iL:Array (Option gA)),yB K eB x=aA (aA (.ref Ca))/\XE K (.ref Ca) m=aA (aA (.ref f))/\BR K (.ref f)=bA /\
  K.lookup f=aA ⟨oc,od,.func (JG m pD (WG st) (GD st) (RB st) .none kV doc pm an vH ct),iL⟩/\XM K vH pD=bA/\tG K (.ref f)=bA
def FF{K:kA}{st:QA}{kV g pm e ct:gA}(a:yB K eB x=aA (aA (.ref j)))(b:XE K (.ref j) m=aA (aA (.ref f)))(i:BR K (.ref f)=bA)
  (l:K.lookup f=aA ⟨oc,od,.func (JG m d (WG st) (GD st) (RB st) .none kV g pm n e ct),h⟩) (c:XM K e d=bA) (k:tG K (.ref f)=bA):WV K x m d st :=
 ⟨j,f,oc,od,n,kV,g,pm,e,ct,h,a,b,i,l,c,k⟩
structure ClsAt(K:kA)(x:fA):Prop where
 ex:∃Ca:jA,yB K eB x=aA (aA (.ref Ca))/\aF K Ca/\aV K Ca=bA/\tG K (.ref Ca)=bA
def bM{K:kA}(a:yB K eB x=aA (aA (.ref b)))(c:OO K b Str.empty=bA)(hd:jR K b=bA)(po:J3 K b=bA)
  (d:XE K (.ref b) "__setattr__"=aA (aA (.builtin "object.__setattr__"))) (mk:aV K b=bA) (kp:tG K (.ref b)=bA):ClsAt K x:=⟨b,a,⟨c,hd,po,d⟩,mk,kp⟩
def m5(K:kA)(x f:fA):Prop:=∃a:jA,yB K eB x=aA (aA (.ref a))/\XE K (.ref a) f=aA eA
def yM{K:kA}(a:yB K eB x=aA (aA (.ref c)))(b:XE K (.ref c) f=aA eA):m5 K x f:=⟨c,a,b⟩
structure cP(K:kA)(x:fA)(st:QA):Prop where
 ex:∃(f:jA) (oc:gA) (od an:Option jA) (kV doc pm vH ct:gA) (iL:Array (Option gA)),yB K eB x=aA (aA (.ref f)) /\
  K.lookup f=aA ⟨oc,od,.func (JG x x (WG st) (GD st) (RB st) .none kV doc pm an vH ct),iL⟩/\XM K vH x=bA/\tG K (.ref f)=bA
def X6{K:kA}{st:QA}{kV d pm b ct:gA}(a:yB K eB x=aA (aA (.ref f)))
  (l:K.lookup f=aA ⟨oc,od,.func (JG x x (WG st) (GD st) (RB st) .none kV d pm g b ct),e⟩) (c:XM K b x=bA) (k:tG K (.ref f)=bA):cP K x st :=
 ⟨f,oc,od,g,kV,d,pm,b,ct,e,a,l,c,k⟩
structure OG(gl:fA->GV)(st:QA)(x pD:fA)(fn:Fn):Prop where
 sc:GK (VJ st) (HC st) (RB st)
 body:fn.body=O6 gl st
 len:(VJ st).length=fn.cA.length+fn.nl
 pl:(HC st).length=fn.cA.length
 bind:∀(kV doc pm:gA) (an:Option jA) (vH ct:gA) (us:List gA),us.length=(HC st).length->bindArgs (JG x pD (WG st) (GD st) (RB st) .none kV doc pm an vH ct) ⟨us,[]⟩=pure ((HC st).zip us)
abbrev dP(gl:fA->GV)(st:QA)(x:fA)(fn:Fn):Prop:=OG gl st x x fn
def aX{K:kA}{st:QA}(F:xJ K x a st b c)(O:OG gl st x a fn)(d:T f=aA fn):eP K T gl f b c (HC st) :=
 ⟨F.binds O.bind,x,a,st,VJ st,fn,F,O.sc,O.sc.nd,d,O.body,O.len,O.pl⟩
def UJ{K:kA}{st:QA}(A:ClsAt K x)(D:WV K x m d st)(O:OG gl st m d fn)(g:T f=aA fn):YV K T gl x m f:=by
 obtain⟨h,j,oc,od,q,kV,n,pm,o,ct,p,a,b,i,l,c,k⟩:=D.ex;obtain⟨r,e,cl,_,_⟩:=A.ex;rw[a] at e;cases e;exact⟨h,j,_,HC st,a,⟨b,i,k⟩,aX (GS l c k) O g,cl⟩
structure yJ(st:QA)(pD:fA)(ns:List fA):Prop where
 sc:GK (VJ st) (HC st) (RB st)
 body:NJ (HC st) 1 (GD st)=aA ns
 pl:(HC st).length=ns.length+1
 nd:ns.Nodup
 lt:ns.length<1000
 bind:∀(kV doc pm:gA) (an:Option jA) (vH ct:gA) (us:List gA),us.length=(HC st).length->bindArgs (JG "__init__" pD (WG st) (GD st) (RB st) .none kV doc pm an vH ct) ⟨us,[]⟩=pure ((HC st).zip us)
def cM{K:kA}{st:QA}(X:K.In h)(G:h.Ns eB mg)(A:ClsAt K x)(D:WV K x "__init__" d st)(O:yJ st d e)(N:∀f∈e,m5 K x f):HV K mg x e:=by
 obtain⟨m,a,cl,mk,kp⟩:=A.ex;obtain⟨t,n,oc,od,u,kV,o,pm,p,ct,q,g,b,i,l,c,k⟩:=D.ex;rw[a] at g;cases g;have F:=GS l c k;refine⟨m,n,_,HC st,"__init__",d,st,VJ st,a,IL X G a,⟨mk,b,i,kp⟩,⟨cl,λf r=>?_⟩,F,O.sc,O.body,O.pl,O.nd,O.lt,F.binds O.bind⟩;obtain⟨v,j,s⟩:=N f r;rw[a] at j;cases j;exact s
def vp{K:kA}{st:QA}(X:K.In h)(G:h.Ns eB mg)(D:cP K x st)(O:dP gl st x fn)(d:T f=aA fn):∃b e g,Entry K mg T gl x f b e g:=by
 obtain⟨b,oc,od,n,kV,i,pm,j,ct,m,a,l,c,k⟩:=D.ex;have F:=GS l c k;exact⟨b,_,HC st,IL X G a,k,aX F O d⟩
noncomputable def rE(L:List (fA×GV))(x:fA):GV:=(L.lookup x).getD .no
theorem aAr[BEq O][LawfulBEq O]:∀{L:List (O×B)} {x:O} {v:B},L.lookup x=aA v->(x,v)∈L
 |[],_,_,h=>by simp at h
 | (y,w)::L,x,v,h=>by
  rw[oH] at h;split at h
  ·rename_i a;cases h;rw[yC a];exact MG
  ·exact tD _ (aAr h)
def ZG(h:rE L x=v)(n:v≠.no):(x,v)∈L:=by
 unfold rE at h
 cases q:L.lookup x with
 |none=>rw[q] at h;exact absurd h.symm n
 |some w =>
  rw[q] at h;cases h;exact aAr q
def qH(pr:mI)(K:kA)(mg:fA->Option gA)(T:Tab)(gl:fA->GV):fA×GV->Prop
 | (x,.cls e)=>HV K mg x e
 | (x,.XD g)=>∃m,x=dot m/\∀p∈g,YV K T gl p.1 m p.2
 | (x,.c d)=>∃u v,mg x=aA u/\aAe v u/\∀G,nA K G d v
 | (x,.blt)=>mg x=eA
 | (x,.fn f)=>∃h i j,Entry K mg T gl x f h i j
 | (x,.sub s n)=>∃m,x=col m/\RR K mg m s n
 | (x,.bD s n)=>∃m,x=col m/\SR K mg m s n
 | (x,.exc)=>ExcAt K mg x
 | (x,.JI)=>NR K mg x
 | (x,.KA a)=>∃m,x=cat m/\gP K mg m a
 | (x,.obj f)=>u5 K mg T gl x f
 | (x,.HS k l)=>OR pr mg K x k l
 | (x,.yH a)=>∃m,x=vS m/\∀c∈a,∀b,yB K eB c=aA (aA (.ref b))->sH K b m
 | (_,.no)=>True
def HZ{x y:fA}(h:(⟨p++x.cps⟩:fA)=⟨p++y.cps⟩):x=y:=by
 have a:=congrArg XO (congrArg Str.cps h);simp only[nE] at a;have b:=WU.mp (O2 a);cases x;cases y;simp only at b;rw[b]
def jt{pr:mI}{K:kA}{mg:fA->Option gA}{T:Tab}{L:List (fA×GV)}(h:∀p∈L,qH pr K mg T (rE L) p):JV pr K mg T (rE L) :=
 ⟨λx d e=>h _ (ZG e (λz=>nomatch z)),λx e=>h _ (ZG e (λz=>nomatch z)),λx f e=>h _ (ZG e (λz=>nomatch z)),λx o e=>h _ (ZG e (λz=>nomatch z)),λm q c f e e2=>by
  obtain⟨a,b,k⟩:=h _ (ZG e (λz=>nomatch z))
  have:a=m:=by
   unfold dot at b;have j:(#[46]++m.cps:Array Nat)=#[46]++a.cps:=congrArg Str.cps b
   have g:m.cps=a.cps:=by(have i:=congrArg XO j;rw[nE,nE] at i;exact WU.mp (O2 i))
   cases m;cases a;simp only at g;rw[g]
  subst this;exact k _ (aAr e2),λx s n e=>by
  obtain⟨a,b,k⟩:=h _ (ZG e (λz=>nomatch z))
  have:a=x:=by
   unfold col at b
   have g:x.cps=a.cps:=by(have i:=congrArg XO (congrArg Str.cps b);simp only[nE] at i;exact WU.mp (O2 i))
   cases x;cases a;simp only at g;rw[g]
  subst this;exact k,λx s n e=>by
  obtain⟨a,b,k⟩:=h _ (ZG e (λz=>nomatch z));rw[HZ b];exact k,λx e=>h _ (ZG e (λz=>nomatch z)),λx e=>h _ (ZG e (λz=>nomatch z)),λx l e=>by
  obtain⟨a,b,k⟩:=h _ (ZG e (λz=>nomatch z));rw[HZ b]
  exact k,λx f e=>h _ (ZG e (λz=>nomatch z)),⟨λf l e=>by
  obtain⟨a,b,k⟩:=h _ (ZG e (λz=>nomatch z));rw[HZ b]
  exact k,λx r t e=>h _ (ZG e (λz=>nomatch z))⟩⟩
def M6{pr:mI}{K:kA}{mg:fA->Option gA}{h:nB}{T:Tab}{gl:fA->GV}{x:fA}{i:Int}{t:Tok}(X:K.In h)(G:h.Ns eB mg)(a:yB K eB x=aA (aA (.int i t))):qH pr K mg T gl (x,.c (.int i)) :=
 ⟨_,.int i,IL X G a,⟨t,rfl⟩,λG=>by simp[nA]⟩
def Zl{pr:mI}{K:kA}{mg:fA->Option gA}{h:nB}{T:Tab}{gl:fA->GV}{x:fA}(X:K.In h)(G:h.Ns eB mg)(a:yB K eB x=aA eA):qH pr K mg T gl (x,.blt):=PySem.W.mg_none_of X G a
structure i5(K:kA)(c x:fA):Prop where
 ex:∃Ca C:jA,yB K eB c=aA (aA (.ref Ca))/\yB K eB x=aA (aA (.ref C))/\aN K Ca C=bA
structure f5(K:kA)(c x:fA):Prop where
 ex:∃Ca C:jA,yB K eB c=aA (aA (.ref Ca))/\yB K eB x=aA (aA (.ref C))/\FR K (.ref Ca) C=bA
structure j5(K:kA)(x:fA):Prop where
 ex:∃C:jA,yB K eB x=aA (aA (.ref C))
def Ax{K:kA}(a:yB K eB c=aA (aA (.ref d)))(b:yB K eB x=aA (aA (.ref C)))(k:aN K d C=bA):i5 K c x:=⟨d,C,a,b,k⟩
def zx{K:kA}(a:yB K eB c=aA (aA (.ref d)))(b:yB K eB x=aA (aA (.ref C)))(k:FR K (.ref d) C=bA):f5 K c x:=⟨d,C,a,b,k⟩
def Bx{K:kA}(a:yB K eB x=aA (aA (.ref C))):j5 K x:=⟨C,a⟩
structure fP(K:kA)(x:fA):Prop where
 ex:∃C:jA,yB K eB x=aA (aA (.ref C))/\zE K C/\vJ K C eA
def jr{K:kA}(a:yB K eB x=aA (aA (.ref C)))(q:y4 K C yW "ValueError.__new__"=bA)(b:XE K (.ref C) "__getattribute__"=aA (aA (.builtin "BaseException.__getattribute__")))(no:XE K (.ref C) "__getattr__"=aA eA)
  (cl:XE K (.ref C) "__class__"=aA (aA (.builtin "object.__class__"))) (gt:Uh K (.builtin "object.__class__") "__get__"=aA (aA (.builtin "getset_descriptor.__get__"))) (tk:vi K (.builtin "object.__class__")=aA bA)
  (c:kI K C (.type "object")=aA bA) (d:kI K C (.type "BaseException")=aA bA) (mv:kI K C (.type "ValueError")=aA bA):fP K x:=⟨C,a,⟨⟨_,j7 q⟩,b,no,cl,gt,tk,c,d,mv⟩,j7 q⟩
structure l5(K:kA)(c x:fA):Prop where
 ex:∃C D:jA,yB K eB c=aA (aA (.ref C))/\yB K eB x=aA (aA (.ref D))/\kI K C (.ref D)=aA bA
def Py{K:kA}{C D:jA}(a:yB K eB c=aA (aA (.ref C)))(b:yB K eB x=aA (aA (.ref D)))(m:kI K C (.ref D)=aA bA):l5 K c x:=⟨C,D,a,b,m⟩
def sr{pr:mI}{K:kA}{mg:fA->Option gA}{h:nB}{T:Tab}{gl:fA->GV}{x:fA}(X:K.In h)(G:h.Ns eB mg)(A:fP K x):qH pr K mg T gl (x,.exc):=by
 obtain⟨C,a,g,p⟩:=A.ex;exact⟨C,a,IL X G a,g,p⟩
def yr{pr:mI}{K:kA}{mg:fA->Option gA}{h:nB}{T:Tab}{gl:fA->GV}{x:fA}{b:List fA}(X:K.In h)(G:h.Ns eB mg)(A:fP K x)(M:∀c∈b,l5 K c x):qH pr K mg T gl (cat x,.KA b):=by
 obtain⟨D,a,g,_⟩:=A.ex;refine⟨x,rfl,D,IL X G a,g.q,λc d C e=>?_⟩;obtain⟨f,i,e1,e2,k⟩:=(M c d).ex;rw[e] at e1;cases e1;rw[a] at e2;cases e2;exact k
def zIa{pr:mI}{K:kA}{mg:fA->Option gA}{h:nB}{T:Tab}{gl:fA->GV}{x:fA}{s n:List fA}(X:K.In h)(G:h.Ns eB mg)(A:j5 K x)(S:∀c∈s,f5 K c x)(N:∀c∈n,i5 K c x):qH pr K mg T gl (col x,.bD s n):=by
 obtain⟨C,a⟩:=A.ex;refine⟨x,rfl,C,IL X G a,λc b d e=>?_,λc b d e=>?_⟩
 ·obtain⟨f,g,e1,e2,k⟩:=(S c b).ex;rw[e] at e1;cases e1;rw[a] at e2;cases e2;exact k
 ·obtain⟨f,g,e1,e2,k⟩:=(N c b).ex;rw[e] at e1;cases e1;rw[a] at e2;cases e2;exact k
def Nx{l:HR}{q:GC}{m:List fA}{Y:(fA->Option gA)->nB->Prop}{N:PB->nB->Prop}{d:DefRec}{K:mI->kA}{T:Tab}{L:List (fA×GV)}{st:QA}{fn:Fn}{W n:Nat}{x p:fA}{f:String}
  (Z:l.most=aA 63) (C:d.params.defaults=[]) (hr:eC (2*n+2) callerA) (hx:d.name=x) (P:T f=aA fn) (O:dP (rE L) st x fn) (B:HC st=[p])
  (hY:∀(w:PB) (h:nB),N w h->(K w.params).In h)
  (F:∀(w:PB) (mg:fA->Option gA) (h:nB),(K w.params).In h->h.Ns eB mg->cP (K w.params) x st/\∀p∈L,qH w.params (K w.params) mg T (rE L) p)
  (M:∀j:List Int,j.length<=63->∃o,run T W n f [.sh (.l (j.map .int))]=some (.ok (.sh (.bl bA)),o)) :
  R4 q m Y N l.row.toRowW d [] (λf vs=>W4 f vs):=by
 refine L2.dLa (n:=63) (k:=2*n+2) (x:=p) (CX:=λ_=>uG) (sp:=λw=>iO (K w.params) 1 (run T W n f)) Z (by decide) C hr hY (λw mg Q h KX G v=>?_) (λw H a j R hO hS=>?_) λ_ _ _ _ _ z=>z
 ·obtain⟨D,hG⟩:=F w mg h KX G;have g:=jt hG;obtain⟨fa',oc,od,U,kV,y,pm,A,ct,iL,a,lk,c,k⟩:=D.ex;have X:=IL KX G a;rw[hx,X] at v;cases v;have Fu:=GS (st:=st) lk c k;have E:Entry (K w.params) mg T (rE L) x f Q _ (HC st):=⟨X,k,aX Fu O P⟩
  have t:(T.cA f).length=1:=by(unfold Tab.cA;rw[P];show fn.cA.length=1;rw[<- O.pl,B];rfl)
  refine⟨JG x x (WG st) (GD st) (RB st) .none kV y pm U A ct,λs u=>?_,λbase kb nb=>?_⟩
  rotate_left
  ·have:=(gY (Pr:=l.prog) (w:=w) (base:=base) W g n f Q _ (HC st) E.b).1
   rw[t] at this;rw[B] at this;exact this
  ·have:=O.bind kV y pm U A ct [u] (by rw[B];rfl)
   rw[B] at this;exact .of_eq this
 ·obtain⟨o,e⟩:=M j R
  have I:oA (K w.params) H (j.map .int) (j.map V.int):=by
   induction j with
   |nil=>exact oA.nil
   |cons i r J=>exact oA.cons (by simp[nA]) (by
     clear e hS R J
     induction r with
     |nil=>exact oA.nil
     |cons i r J=>exact oA.cons (by simp[nA]) J)
  refine⟨rfl,[.sh (.l (j.map .int))],H,.sh (.bl bA),o,GA.DP (GA.nil (aB.refl _)) ?_,rfl,e,λx H' G' _ hv=>GQ (K:=K w.params) (G:=G') hv⟩;simp only[nA];exact⟨a,_,rfl,hS,I⟩
end CI
namespace CI
set_option tactic.hygienic true
open PySem (Operator CmpOp)
noncomputable section
variable{U U1 U2:Env}
theorem nt:WH (aA U)=aA (.nx,U):=rfl
noncomputable def bR(f:O->Env->BA B)(r:BA O):BA B:=r.bind f
theorem jl:r.bind f=bR f r:=rfl
theorem ll:bR f (some (.ok a,U))=f a U:=rfl
theorem kl:bR f (some (.ex x,U))=some (.ex x,U):=rfl
noncomputable def fR(f:O->Env->Run)(r:BA O):Run:=r.cC f
theorem Ar:r.cC f=fR f r:=rfl
theorem Dr:fR f (some (.ok a,U))=f a U:=rfl
theorem Cr:fR f (some (.ex x,U))=some (.ex x,U):=rfl
noncomputable def nR(f:Env->Run)(r:Run):Run:=r.next f
theorem dz:r.next f=nR f r:=rfl
theorem gz:nR f (aA (.nx,U))=f U:=rfl
theorem iz:nR f (aA (.rt v,U))=aA (.rt v,U):=rfl
theorem ez:nR f (some (.ex x,U))=some (.ex x,U):=rfl
theorem fz:nR f eA=eA:=rfl
noncomputable def dR(U:Env)(o:Option RV):BA RV:=done o U
theorem Bo:done o U=dR U o:=rfl
theorem Co:dR U (aA v)=some (.ok v,U):=rfl
theorem Fo:(RV.sh d).d=d:=rfl
theorem Eo:(RV.ow d).d=d:=rfl
theorem Ks:(Sl.sh d).get=aA d:=rfl
theorem Js:(Sl.ow d p l).get=aA d:=rfl
theorem Qt:(Hd.val v).get U=aA v.d:=rfl
theorem Pt:(Hd.slot i).get U=(U[i]?).bind Sl.get:=rfl
noncomputable def eZ(U:Env)(o:Option Bool):BA RV:=o.map λb=>(.ok (.sh (.bl b)),U)
theorem fx:eZ U (aA b)=some (.ok (.sh (.bl b)),U):=rfl
theorem rLa:aAh dA r=r:=rfl
theorem sLa:aAh bA (some (.ok v,U))=eZ U (fI v.d):=rfl
noncomputable def b9(i:Nat)(U:Env):Option Sl->BA RV
 |some (.sh d)=>some (.ok (.sh d),U)
 |some (.ow d dA dA)=>some (.ok (.sh d),U.set i (.sh d))
 |_=>eA
theorem ew:b9 i U (aA (.sh d))=some (.ok (.sh d),U):=rfl
def w9(U:Env)(o:Option D):BA RV:=aAh bA (o.map λd=>(.ok (.sh d),U))
theorem Qw:w9 U (aA d)=eZ U (fI d):=rfl
theorem Jq:ev P C dA (.v i) U=b9 i U U[i]?:=rfl
theorem Kq:ev P C bA (.v i) U=w9 U ((U[i]?).bind Sl.get):=rfl
theorem oq:ev P C t (.c d) U=aAh t (some (.ok (.sh d),U)):=rfl
noncomputable def pQ(b:Bool)(v:RV)(U:Env):BA RV:=if b then some (.ok v,U) else eA
theorem ax:pQ bA v U=some (.ok v,U):=rfl
def gF(h:n<=1000000):jB n=bA:=@vB _ (cl _) h
theorem yHa:jB 0=bA:=gF (by decide)
theorem zHa:jB 1=bA:=gF (by decide)
theorem aIa:jB 2=bA:=gF (by decide)
theorem bIa:jB 3=bA:=gF (by decide)
theorem cIa:jB 4=bA:=gF (by decide)
theorem dIa:jB 5=bA:=gF (by decide)
def M9(a:List D)(U:Env):BA RV:=pQ (jB a.length) (.sh (.t a)) U
def l9(a:List D)(U:Env):BA RV:=pQ (jB a.length) (.ow (.l a)) U
theorem Iq:ev P C t (.t a) U=aAh t ((qE P C a U).bind M9):=rfl
theorem wq:ev P C t (.l a) U=aAh t ((qE P C a U).bind l9):=rfl
theorem Mq:qE P C [] U=some (.ok [],U):=rfl
noncomputable def U8(v:RV)(a:List D)(U:Env):BA (List D):=some (.ok (v.d::a),U)
def T8(P:VA)(C:Calls)(a:List E)(v:RV)(U:Env):BA (List D):=(qE P C a U).bind (U8 v)
theorem Lq:qE P C (e::a) U=(ev P C dA e U).bind (T8 P C a):=rfl
theorem Vp:JC P C [] U=some (.ok [],U):=rfl
noncomputable def d9(v:Hd)(a:List Hd)(U:Env):BA (List Hd):=some (.ok (v::a),U)
def c9(P:VA)(C:Calls)(a:List E)(v:Hd)(U:Env):BA (List Hd):=(JC P C a U).bind (d9 v)
def wC(P:VA)(C:Calls)(e:E)(U:Env):BA Hd:=hd e (ev P C dA e U) U
noncomputable def BF(v:RV)(U:Env):BA Hd:=some (.ok (.val v.low),U)
theorem ox:BF (.sh d) U=some (.ok (.val (.sh d)),U):=rfl
theorem lx:BF (.ow d) U=some (.ok (.val (.ow d)),U):=rfl
def E9(i:Nat)(U:Env)(b:Bool):BA Hd:=if b then some (.ok (.slot i),U) else eA
theorem Zw:E9 i U bA=some (.ok (.slot i),U):=rfl
theorem rAa:wC P C (.v i) U=E9 i U ((U[i]?).bind Sl.get).isSome:=rfl
theorem jAa:wC P C (.c d) U=some (.ok (.val (.sh d)),U):=rfl
theorem qAa:wC P C (.t a) U=(ev P C dA (.t a) U).bind BF:=rfl
theorem mAa:wC P C (.l a) U=(ev P C dA (.l a) U).bind BF:=rfl
theorem eAa:wC P C (.yA op a b) U=(ev P C dA (.yA op a b) U).bind BF:=rfl
theorem gAa:wC P C (.CA op a b) U=(ev P C dA (.CA op a b) U).bind BF:=rfl
theorem hAa:wC P C (.vF op d a b c) U=(ev P C dA (.vF op d a b c) U).bind BF:=rfl
theorem cAa:wC P C (.and a b) U=(ev P C dA (.and a b) U).bind BF:=rfl
theorem lAa:wC P C (.ix a b) U=(ev P C dA (.ix a b) U).bind BF:=rfl
theorem pAa:wC P C (.sl a b c) U=(ev P C dA (.sl a b c) U).bind BF:=rfl
theorem fAa:wC P C (.call f a) U=(ev P C dA (.call f a) U).bind BF:=rfl
theorem dAa:wC P C (.bif f a) U=(ev P C dA (.bif f a) U).bind BF:=rfl
theorem iAa{a cond:List E}:wC P C (.comp b c k a cond imp nl) U=(ev P C dA (.comp b c k a cond imp nl) U).bind BF:=rfl
theorem Tp:JC P C (e::a) U=(wC P C e U).bind (c9 P C a):=rfl
def SG(op:rJ)(x:Hd)(a b:Option D):Option RV:=a.bind λd=>b.bind λe=>if VN op x d then UB op d e else eA
def L8(op:rJ)(x y:Hd)(U:Env):BA RV:=done (SG op x (x.get U) (y.get U)) U
def K8(P:VA)(C:Calls)(op:rJ)(b:E)(x:Hd)(U:Env):BA RV:=(wC P C b U).bind (L8 op x)
theorem gq:ev P C t (.yA op a b) U=aAh t ((wC P C a U).bind (K8 P C op b)):=rfl
theorem Xl:SG op x (aA (.t a)) (aA e)=UB op (.t a) e:=by
 unfold SG VN;cases op<;>rfl
theorem Vl:SG .Add x (aA (.l a)) (aA e)=UB .Add (.l a) e:=rfl
theorem Wl:SG .Mult (.val (.ow d)) (aA (.l a)) (aA e)=UB .Mult (.l a) e:=rfl
theorem fm:SG .Add x (aA (.int i)) (aA (.int j))=aA (.sh (.int (i+j))):=rfl
theorem um:SG .Sub x (aA (.int i)) (aA (.int j))=aA (.sh (.int (i-j))):=rfl
theorem qm:SG .Mult x (aA (.int i)) (aA e)=UB .Mult (.int i) e:=rfl
theorem jm:SG .FloorDiv x (aA (.int i)) (aA e)=UB .FloorDiv (.int i) e:=rfl
theorem om:SG .Mod x (aA (.int i)) (aA e)=UB .Mod (.int i) e:=rfl
theorem km:SG .LShift x (aA (.int i)) (aA e)=UB .LShift (.int i) e:=rfl
theorem tm:SG .RShift x (aA (.int i)) (aA e)=UB .RShift (.int i) e:=rfl
theorem gm:SG .BitAnd x (aA (.int i)) (aA e)=UB .BitAnd (.int i) e:=rfl
def N5(h:(-(2 ^ 64)<i/\i<2 ^ 64)\/(-(2 ^ 64)<j/\j<2 ^ 64)):UB .Mult (.int i) (.int j)=aA (.sh (.int (i*j))):=MA h
theorem O5(a:-18446744073709551616<j)(b:j<18446744073709551616):UB .Mult (.int i) (.int j)=aA (.sh (.int (i*j))):=N5 (.inr ⟨a,b⟩)
theorem xl(a:-18446744073709551616<i)(b:i<18446744073709551616):UB .Mult (.int i) (.int j)=aA (.sh (.int (i*j))):=N5 (.inl ⟨a,b⟩)
theorem rl(h:0<j/\j<100000000000000000000000000000000000000000000000000000000000000000000000000000000):UB .FloorDiv (.int i) (.int j)=aA (.sh (.int (i / j))):=MA h
theorem vl(h:0<j):UB .Mod (.int i) (.int j)=aA (.sh (.int (i % j))):=MA h
theorem yl(h:0<=j)(a:j<=1000):UB .LShift (.int 1) (.int j)=aA (.sh (.int (2 ^ j.toNat))):=by
 show @ite _ _ (cl _) _ _=_;rw[MA ⟨h,a,by decide⟩,Int.one_mul]
theorem zl(h:0<=j):UB .RShift (.int i) (.int j)=aA (.sh (.int (i / 2 ^ j.toNat))):=MA h
theorem ml:UB .BitAnd (.int i) (.int j)=aA (.sh (.int (mR i j))):=rfl
theorem uN(h:jB (a.length+b.length)=bA):UB .Add (.l a) (.l b)=aA (.ow (.l (a++b))):=MA h
def tP(b:-(2 ^ 31)<=k)(c:k<=1000)(d:jB (a.length*k.toNat)=bA):UB .Mult (.l a) (.int k)=aA (.ow (.l (AB k.toNat a).flatten)):=MA ⟨b,c,d⟩
theorem ql(h:jB (a.length+1+b.length)=bA):UB .Add (.t (x::a)) (.t b)=aA (.sh (.t (x::a++b))):=MA h
noncomputable def n9(v:RV)(U:Env):BA RV:=match v.d with
 |.int i=>some (.ok (.sh (.int (-i))),U)
 |_=>eA
theorem Jw:n9 (.sh (.int i)) U=some (.ok (.sh (.int (-i))),U):=rfl
theorem Aq:ev P C t (.neg a) U=aAh t ((ev P C dA a U).bind n9):=rfl
noncomputable def p9(v:RV)(U:Env):BA RV:=match v with
 |.sh (.bl b)=>some (.ok (.sh (.bl (!b))),U)
 |_=>eA
theorem Kw:p9 (.sh (.bl b)) U=some (.ok (.sh (.bl (!b))),U):=rfl
theorem Cq:ev P C bA (.not a) U=(ev P C bA a U).bind p9:=rfl
def Ja(o:Option D):Option RV:=o.bind λd=>(fI d).map λb=>.sh (.bl (!b))
def o9(x:Hd)(U:Env):BA RV:=done (Ja (x.get U)) U
theorem Uz:Ja (aA (.bl b))=aA (.sh (.bl (!b))):=rfl
theorem Bq:ev P C dA (.not a) U=(wC P C a U).bind o9:=rfl
def GW(op:lF)(a b:Option D):Option RV:=a.bind λd=>b.bind λe=>(DB op d e).map λb=>.sh (.bl b)
theorem eo:GW op (aA d) (aA e)=(DB op d e).map λb=>.sh (.bl b):=rfl
def D6(op:lF)(a b:Option D):Option Bool:=a.bind λd=>b.bind λe=>DB op d e
theorem bo:D6 op (aA d) (aA e)=DB op d e:=rfl
def S8(op:lF)(x y:Hd)(U:Env):BA RV:=done (GW op (x.get U) (y.get U)) U
def R8(P:VA)(C:Calls)(op:lF)(b:E)(x:Hd)(U:Env):BA RV:=(wC P C b U).bind (S8 op x)
theorem lq:ev P C t (.CA op a b) U=(wC P C a U).bind (R8 P C op b):=rfl
def iT(op:lF)(y z:Hd)(U:Env):BA RV:=done (GW op (y.get U) (z.get U)) U
def gT(P:VA)(C:Calls)(a:lF)(y:Hd)(c:E)(U:Env):Option Bool->BA RV
 |none=>eA
 |some dA=>some (.ok (.sh (.bl dA)),U)
 |some bA=>(wC P C c U).bind (iT a y)
theorem Vv:gT P C a y c U (aA dA)=some (.ok (.sh (.bl dA)),U):=rfl
theorem Wv:gT P C a y c U (aA bA)=(wC P C c U).bind (iT a y):=rfl
theorem Uv:gT P C a y c U (aA b)=if b=bA then(wC P C c U).bind (iT a y) else some (.ok (.sh (.bl dA)),U):=by cases b<;>rfl
def O8(P:VA)(C:Calls)(op a:lF)(c:E)(x y:Hd)(U:Env):BA RV:=gT P C a y c U (D6 op (x.get U) (y.get U))
def N8(P:VA)(C:Calls)(op a:lF)(b c:E)(x:Hd)(U:Env):BA RV:=(wC P C b U).bind (O8 P C op a c x)
theorem mq:ev P C t (.vF op d a b c) U=(wC P C a U).bind (N8 P C op d b c):=rfl
theorem rn:DB .Lt (.int i) (.int j)=aA (decide (i<j)):=rfl
theorem mn:DB .LtE (.int i) (.int j)=aA (decide (i<=j)):=rfl
theorem Zm:DB .Gt (.int i) (.int j)=aA (decide (j<i)):=rfl
theorem Ym:DB .GtE (.int i) (.int j)=aA (decide (j<=i)):=rfl
theorem Wm:DB .Eq (.int i) (.int j)=aA (decide (i=j)):=rfl
theorem yn:DB .NotEq (.int i) (.int j)=aA (!decide (i=j)):=rfl
def Um(a:JB 20 d=bA)(b:JB 20 e=bA):DB .Eq d e=aA (EE d e):=by
 show(if(JB 20 d&&JB 20 e)=bA then aA (EE d e) else eA)=_;rw[a,b];rfl
def l6(a:JB 20 d=bA)(b:JB 20 e=bA):DB .NotEq d e=aA (!EE d e):=by
 show(if(JB 20 d&&JB 20 e)=bA then aA (!EE d e) else eA)=_;rw[a,b];rfl
theorem Xm:DB .Eq (.str a) (.str b)=aA (a==b):=rfl
theorem jn:DB .Is .lA .lA=aA bA:=rfl
theorem cn:DB .Is (.int i) .lA=aA dA:=rfl
theorem Bn:DB .IsNot .lA .lA=aA dA:=rfl
theorem An:DB .IsNot (.int i) .lA=aA bA:=rfl
theorem zJa:fI (.bl b)=aA b:=rfl
def PY(P:VA)(C:Calls)(t:Bool)(b:E)(v:RV)(U:Env):BA RV:=match v with
 |.sh (.bl bA)=>ev P C t b U
 |.sh (.bl dA)=>some (.ok (.sh (.bl dA)),U)
 |_=>eA
def kT(P:VA)(C:Calls)(t:Bool)(b:E)(v:RV)(U:Env):BA RV:=match v with
 |.sh (.bl bA)=>some (.ok (.sh (.bl bA)),U)
 |.sh (.bl dA)=>ev P C t b U
 |_=>eA
def i9(P:VA)(C:Calls)(t:Bool)(a b:E)(v:RV)(U:Env):BA RV:=match v with
 |.sh (.bl bA)=>ev P C t a U
 |.sh (.bl dA)=>ev P C t b U
 |_=>eA
theorem cq:ev P C t (.and a b) U=(ev P C t a U).bind (PY P C t b):=rfl
theorem Fq:ev P C t (.or a b) U=(ev P C t a U).bind (kT P C t b):=rfl
theorem Rv:PY P C t b (.sh (.bl bA)) U=ev P C t b U:=rfl
theorem Qv:PY P C t b (.sh (.bl dA)) U=some (.ok (.sh (.bl dA)),U):=rfl
theorem Ow:kT P C t b (.sh (.bl bA)) U=some (.ok (.sh (.bl bA)),U):=rfl
theorem Nw:kT P C t b (.sh (.bl dA)) U=ev P C t b U:=rfl
theorem zw:i9 P C t a b (.sh (.bl bA)) U=ev P C t a U:=rfl
theorem yw:i9 P C t a b (.sh (.bl dA)) U=ev P C t b U:=rfl
theorem Mw:kT P C t b (.sh (.bl x)) U=if x=bA then some (.ok (.sh (.bl bA)),U) else ev P C t b U:=by cases x<;>rfl
def fG(a:Option D)(k:D):Option RV:=a.bind λd=>(mQ d k).map .sh
def k9(x:Hd)(k:RV)(U:Env):BA RV:=done (fG (x.get U) k.d) U
def j9(P:VA)(C:Calls)(i:E)(x:Hd)(U:Env):BA RV:=(ev P C dA i U).bind (k9 x)
theorem vq:ev P C t (.ix a i) U=aAh t ((wC P C a U).bind (j9 P C i)):=rfl
theorem zv:fG (aA (.t a)) (.int i)=(L2.lC a i).map RV.sh:=rfl
theorem xv:fG (aA (.l a)) (.int i)=(L2.lC a i).map RV.sh:=rfl
def YR:L2.lC a (OfNat.ofNat n)=a[n]?:=by
 show L2.lC a ((n:Nat):Int)=_
 cases h:a[n]? with
 |some v=>exact L2.YL h
 |none =>
  unfold L2.lC L2.AF
  have:=Hg.mp h
  rw[MA (by lia),JA (by lia)];rfl
theorem Uk:L2.lC a 0=a[0]?:=YR (n:=0)
theorem Vk:L2.lC a 1=a[1]?:=YR (n:=1)
theorem Wk:L2.lC a 2=a[2]?:=YR (n:=2)
theorem Xk:L2.lC a 3=a[3]?:=YR (n:=3)
def bU(a l h:Option D):Option RV:=a.bind λd=>(kL l).bind λl=>(kL h).bind λh=>aU d l h
def D9(x:Hd)(l h:Option D)(U:Env):BA RV:=done (bU (x.get U) l h) U
def BM(P:VA)(C:Calls)(e:E)(U:Env):BA (Option D):=aAP e (ev P C dA e U) U
def C9(P:VA)(C:Calls)(a:E)(x:Hd)(l:Option D)(U:Env):BA RV:=(BM P C a U).bind (D9 x l)
def B9(P:VA)(C:Calls)(lo a:E)(x:Hd)(U:Env):BA RV:=(BM P C lo U).bind (C9 P C a x)
theorem bDa:BM P C .UI U=some (.ok eA,U):=rfl
noncomputable def oQ(v:RV)(U:Env):BA (Option D):=some (.ok (aA v.d),U)
theorem cDa:BM P C (.v i) U=(ev P C dA (.v i) U).bind oQ:=rfl
theorem zCa:BM P C (.yA op a b) U=(ev P C dA (.yA op a b) U).bind oQ:=rfl
theorem yCa:BM P C (.bif f a) U=(ev P C dA (.bif f a) U).bind oQ:=rfl
theorem Hq:ev P C t (.sl a lo b) U=aAh t ((wC P C a U).bind (B9 P C lo b)):=rfl
def QY(P:VA)(C:Calls)(f:String)(a:List Hd)(U:Env):BA RV:=ID (P f) (C f) a U
theorem iq:ev P C t (.call f a) U=aAh t ((JC P C a U).bind (QY P C f)):=rfl
def RY(cA:List Bool)(b:List Hd)(U U1:Env):BA RV->BA RV
 |none=>eA
 |some (o,a)=>(aAf cA b a U U1).map λc=>(o,c)
def P8(cA:List Bool)(f:List Sl->BA RV)(a:List Hd)(U:Env):Option (List Sl×Env)->BA RV
 |none=>eA
 |some (as,U1)=>RY cA a U U1 (f as)
theorem Ro:ID cA f a U=P8 cA f a U (aAk cA a U):=rfl
theorem Xv:P8 cA f a U (aA (as,U1))=RY cA a U U1 (f as):=rfl
noncomputable def Q8(o:Out RV)(x:Option Env):BA RV:=x.map λa=>(o,a)
theorem Zv:Q8 o (aA U)=aA (o,U):=rfl
theorem Yv:RY cA b U U1 (aA (o,a))=Q8 o (aAf cA b a U U1):=rfl
noncomputable def WK(a:Sl)(o:Option (List Sl×Env)):Option (List Sl×Env):=o.map λ(as,b)=>(a::as,b)
theorem Aw:WK a (aA (as,U))=aA (a::as,U):=rfl
theorem Px:aAk [] [] U=aA ([],U):=rfl
theorem Rx:aAk (p::a) (.val (.sh d)::r) U=WK (.sh d) (aAk a r U):=rfl
theorem Qx:aAk (bA::a) (.val (.ow d)::r) U=WK (.ow d bA dA) (aAk a r U):=rfl
def ZY(p:Bool)(a:List Bool)(i:Nat)(r:List Hd)(U:Env):Option Sl->Option (List Sl×Env)
 |some (.sh d)=>WK (.sh d) (aAk a r U)
 |some (.ow d b c)=>match p with
  |true=>WK (.ow d bA c) (aAk a r (U.set i .un))
  |false=>if b||c then eA else WK (.sh d) (aAk a r (U.set i (.sh d)))
 |_=>eA
theorem Sx:aAk (p::a) (.slot i::r) U=ZY p a i r U U[i]?:=rfl
theorem Cw:ZY p a i r U (aA (.sh d))=WK (.sh d) (aAk a r U):=rfl
theorem Bw:ZY bA a i r U (aA (.ow d b c))=WK (.ow d bA c) (aAk a r (U.set i .un)):=rfl
theorem Us:aAf [] [] [] a U=aA U:=rfl
theorem Ss:aAf (dA::b) (.slot i::c) (a::as) d U=aAf b c as d U:=rfl
theorem Ts:aAf (dA::b) (.val v::c) (a::as) d U=aAf b c as d U:=rfl
theorem Ws:aAf (bA::b) (.val v::c) (a::as) d U=aAf b c as d U:=rfl
def UY(c:List Bool)(i:Nat)(e:List Hd)(a:Sl)(as:List Sl)(f U:Env)(o:Option Sl):Option Env :=
  match o,a with
  |some (.ow _ b g),.ow d _ _=>aAf c e as f (U.set i (.ow d b g))
  |some (.ow _ _ _),_=>eA
  |_,_=>aAf c e as f U
theorem Vs:aAf (bA::c) (.slot i::d) (a::as) b U=UY c i d a as b U b[i]?:=rfl
theorem fw:UY a i b (.ow d p l) as c U (aA (.ow g e f))=aAf a b as c (U.set i (.ow d e f)):=rfl
theorem gw:UY b i c a as e U (aA (.sh d))=aAf b c as e U:=rfl
def J8(f:BI)(a:List Hd)(U:Env):BA RV:=done ((getAll a U).bind (FD f)) U
theorem fq:ev P C t (.bif f a) U=aAh t ((JC P C a U).bind (J8 f)):=rfl
theorem Qs:getAll [] U=aA []:=rfl
noncomputable def D7(a:Option D)(b:Option (List D)):Option (List D):=a.bind λd=>b.map (d :: ·)
theorem Ls:D7 (aA d) (aA a)=aA (d::a):=rfl
theorem Ms:getAll (h::r) U=D7 (h.get U) (getAll r U):=rfl
theorem Hr:FD .len [.l a]=aA (.sh (.int a.length)):=rfl
theorem Ir:FD .len [.t a]=aA (.sh (.int a.length)):=rfl
theorem Er:FD .abs [.int i]=aA (.sh (.int (if i<0 then -i else i))):=rfl
theorem Gr:FD .int [.bl b]=aA (.sh (.int (if b then 1 else 0))):=rfl
theorem Jr:FD .list [.t a]=aA (.ow (.l a)):=rfl
theorem Mr:FD .tuple [.l a]=aA (.sh (.t a)):=rfl
theorem Lr:FD .min [.int i,.int j]=aA (.sh (.int (if j<i then j else i))):=rfl
theorem Kr:FD .max [.int i,.int j]=aA (.sh (.int (if j > i then j else i))):=rfl
def bT(a:List Ty):Option D->Option RV
 |some d=>(iQ a d).map λb=>.sh (.bl b)
 |none=>eA
def YY(a:List Ty)(x:Hd)(U:Env):BA RV:=done (bT a (x.get U)) U
theorem uq:ev P C t (.QI a c) U=aAh t ((wC P C a U).bind (YY c)):=by
 show aAh t ((wC P C a U).bind λx U1=>done ((x.get U1).bind λd=>(iQ c d).map λb=>.sh (.bl b)) U1)=_
 congr 2
 funext x U1
 unfold YY;cases x.get U1<;>rfl
theorem Lu:bT [.list] (aA (.l a))=aA (.sh (.bl bA)):=rfl
theorem Mu:bT [.tuple] (aA (.t a))=aA (.sh (.bl bA)):=rfl
def E8(i:Nat)(d:D)(U:Env)(o:Option Sl):BA RV:=match o with
 |some (.ow (.l a) p dA)=>if jB (a.length+1) then some (.ok (.sh .lA),U.set i (.ow (.l (a++[d])) p dA)) else eA
 |_=>eA
def F8(i:Nat)(v:RV)(U:Env):BA RV:=E8 i v.d U U[i]?
theorem Sv:E8 i d U (aA (.ow (.l a) p dA))=pQ (jB (a.length+1)) (.sh .lA) (U.set i (.ow (.l (a++[d])) p dA)):=rfl
noncomputable def WY(r:BA RV)(b:Bool):BA RV:=if b then r else eA
theorem mw:WY r bA=r:=rfl
theorem dq:ev P C t (.app i a) U=aAh t (WY ((ev P C dA a U).bind (F8 i)) (YH U i)):=rfl
noncomputable def ZS:Option Sl->Bool
 |some (.ow (.l _) _ _)=>bA
 |_=>dA
theorem av:YH U i=ZS U[i]?:=rfl
theorem Zu:ZS (aA (.ow (.l a) p l))=bA:=rfl
def G8(i:Nat)(v:RV)(U:Env):Run:=WH (store i v U)
theorem Vq:ex P C W (.YA i e) U=(ev P C dA e U).cC (G8 i):=rfl
noncomputable def IM(i:Nat)(v:RV)(U:Env)(o:Option Sl):Option Env:=match o with
 |none=>eA
 |some (.ow _ bA _)=>eA
 |some (.ow _ _ bA)=>eA
 |some _=>match v with
  |.sh d=>aA (U.set i (.sh d))
  |.ow d=>aA (U.set i (.ow d dA dA))
  |.od _=>eA
theorem eU:store i v U=IM i v U U[i]?:=rfl
theorem pIa:IM i (.sh d) U (aA .un)=aA (U.set i (.sh d)):=rfl
theorem oIa:IM i (.ow d) U (aA .un)=aA (U.set i (.ow d dA dA)):=rfl
theorem nIa:IM i (.sh d) U (aA (.sh a))=aA (U.set i (.sh d)):=rfl
theorem mIa:IM i (.ow d) U (aA (.ow a dA dA))=aA (U.set i (.ow d dA dA)):=rfl
noncomputable def iB:Sl->Bool
 |.un=>bA
 |.mv=>bA
 |.sh _=>bA
 |.ow _ dA dA=>bA
 |_=>dA
theorem nC(h:iB s=bA):IM i (.sh d) U (aA s)=aA (U.set i (.sh d)):=by
 cases s with
 |ow d p l=>cases p<;>cases l<;>first | rfl | cases h
 |_=>rfl
theorem lIa(h:iB s=bA):IM i (.ow d) U (aA s)=aA (U.set i (.ow d dA dA)):=by
 cases s with
 |ow d p l=>cases p<;>cases l<;>first | rfl | cases h
 |_=>rfl
theorem j_:iB .un=bA:=rfl
theorem i_:iB (.sh d)=bA:=rfl
theorem h_:iB (.ow d dA dA)=bA:=rfl
theorem fS:wB bA [i] d U=store i (.sh d) U:=rfl
theorem c6:wB dA (i::is) (.t a) U=aAq (i::is) a U:=rfl
theorem qd:aAq [] [] U=aA U:=rfl
def F9(is:List Nat)(a:List D)(o:Option Env):Option Env:=o.bind (aAq is a)
theorem pd:aAq (i::is) (d::a) U=F9 is a (store i (.sh d) U):=rfl
theorem G9:F9 is a (aA U)=aAq is a U:=rfl
def Rc(i:Nat)(v:D)(U:Env):Option Sl->D->Run
 |some (.ow (.l a) p dA),.int n=>WH ((L2.AF a.length n).map λm=>U.set i (.ow (.l (a.set m v)) p dA))
 |_,_=>eA
def A9(i:Nat)(v:RV)(j:RV)(U:Env):Run:=Rc i v.d U U[i]? j.d
noncomputable def f9(r:Run)(b:Bool):Run:=if b then r else eA
theorem qw:f9 r bA=r:=rfl
noncomputable def rEa(i:Nat)(v j:RV)(U:Env):Option Sl->Run
 |o=>match o,j,v with
  |_,_,_=>eA
def Rw(i:Nat)(v:RV)(j:RV)(U:Env):Run:=rEa i v j U U[i]?
noncomputable def CY:Option Sl->Bool
 |_=>dA
theorem Su:Qu U i=CY U[i]?:=rfl
noncomputable def XY(r a:Run)(b:Bool):Run:=if b then r else a
theorem uw:XY r a bA=r:=rfl
theorem tw:XY r a dA=a:=rfl
theorem Uq:wF P C W (.jK c b) U=dH (ev P C bA c) (KA P C W b) (UC P C W b) W U:=rfl
def v9(i:Nat)(v:RV)(j:RV)(U:Env):Run:=fO i U U[i]? (jE j.d) v
def YT(h:jB (a.length+1)=bA):fO i U (aA (.ow (.dB a b) p dA)) (aA k) v=aA (.nx,U.set i (.ow (.dB (XI a k) (zH a b k v.d)) p dA)):=MA h
noncomputable def DY:Option Sl->Bool
 |some (.ow (.dB _ _) _ _)=>bA
 |_=>dA
theorem Uu:gQ U i=DY U[i]?:=rfl
theorem Tu:DY (aA (.ow (.dB a b) p l))=bA:=rfl
theorem Ru:CY (aA (.ow (.dB a b) p l))=dA:=rfl
theorem Yu:ZS (aA (.ow (.dB a b) p l))=dA:=rfl
def x9(P:VA)(C:Calls)(i:Nat)(k:E)(v:RV)(U:Env):Run:=f9 ((ev P C dA k U).cC (v9 i v)) (gQ U i)
def z9(P:VA)(C:Calls)(i:Nat)(k:E)(v:RV)(U:Env):Run:=XY ((ev P C dA k U).cC (A9 i v)) (x9 P C i k v U) (YH U i)
theorem br:ex P C W (.set i k e) U=(ev P C dA e U).cC (z9 P C i k):=rfl
def vv:L2.AF (n+2) 1=aA 1:=by unfold L2.AF;rw[MA (by lia),MA (by lia)];rfl
theorem jHa:Rc i v U (aA (.ow (.l (a::b::c)) p dA)) (.int 1)=aA (.nx,U.set i (.ow (.l (a::v::c)) p dA)):=by
 show WH ((L2.AF (c.length+2) 1).map _)=_;rw[vv];rfl
noncomputable def X8(v:RV)(U:Env):Run:=aA (.nx,U)
theorem Wq:ex P C W (.expr e) U=(ev P C dA e U).cC X8:=rfl
noncomputable def TZ(i:Nat)(U:Env):Option Sl->Run
 |some (.ow d dA _)=>aA (.rt (.ow d),U.set i .mv)
 |some (.sh d)=>aA (.rt (.sh d),U)
 |_=>eA
theorem uFa:TZ i U (aA (.ow d dA l))=aA (.rt (.ow d),U.set i .mv):=rfl
theorem vFa:TZ i U (aA (.sh d))=aA (.rt (.sh d),U):=rfl
noncomputable def bH(v:RV)(U:Env):Run:=aA (.rt v,U)
theorem Zq:ex P C W (.ret (.v i)) U=TZ i U U[i]?:=rfl
theorem Kp:ex P C W (.ret (.c d)) U=(ev P C dA (.c d) U).cC bH:=rfl
theorem Qp:ex P C W (.ret (.t a)) U=(ev P C dA (.t a) U).cC bH:=rfl
theorem Mp:ex P C W (.ret (.l a)) U=(ev P C dA (.l a) U).cC bH:=rfl
theorem Fp:ex P C W (.ret (.yA op a b)) U=(ev P C dA (.yA op a b) U).cC bH:=rfl
theorem Ip:ex P C W (.ret (.CA op a b)) U=(ev P C dA (.CA op a b) U).cC bH:=rfl
theorem Dp:ex P C W (.ret (.and a b)) U=(ev P C dA (.and a b) U).cC bH:=rfl
theorem Pp:ex P C W (.ret (.or a b)) U=(ev P C dA (.or a b) U).cC bH:=rfl
theorem Lp:ex P C W (.ret (.ix a b)) U=(ev P C dA (.ix a b) U).cC bH:=rfl
theorem Gp:ex P C W (.ret (.call f a)) U=(ev P C dA (.call f a) U).cC bH:=rfl
theorem Ep:ex P C W (.ret (.bif f a)) U=(ev P C dA (.bif f a) U).cC bH:=rfl
theorem Jp{a cond:List E}:ex P C W (.ret (.comp b c k a cond imp nl)) U=(ev P C dA (.comp b c k a cond imp nl) U).cC bH:=rfl
def VY(P:VA)(C:Calls)(W:Nat)(a b:List S)(v:RV)(U:Env):Run:=match v with
 |.sh (.bl bA)=>KA P C W a U
 |.sh (.bl dA)=>KA P C W b U
 |_=>eA
theorem xw:VY P C W a b (.sh (.bl bA)) U=KA P C W a U:=rfl
theorem vw:VY P C W a b (.sh (.bl dA)) U=KA P C W b U:=rfl
theorem Yq:ex P C W (.FA c a b) U=(ev P C bA c U).cC (VY P C W a b):=rfl
def u7(P:VA)(C:Calls)(W:Nat)(a:List Nat)(one:Bool)(body:List S)(U:Env):Option (List D×Option Nat)->Run
 |none=>eA
 |some (b,o)=>(gD (wB one a) (KA P C W body) b (aAg o U)).restore o U
theorem Wr:u7 P C W a one body U (aA (b,o))=(gD (wB one a) (KA P C W body) b (aAg o U)).restore o U:=rfl
def aA3(P:VA)(C:Calls)(W:Nat)(a:List Nat)(one:Bool)(k:sF)(body:List S)(b:List Hd)(U:Env):Run:=u7 P C W a one body U (aAb k b U)
theorem Xq:ex P C W (.for b one k a body) U=(JC P C a U).cC (aA3 P C W b one k body):=rfl
theorem ir:ex P C W (.jK c body) U=eF (ev P C bA c) (KA P C W body) W U:=rfl
theorem iX:KA P C W [] U=aA (.nx,U):=rfl
theorem hX:KA P C W (s::r) U=(ex P C W s U).next (KA P C W r):=rfl
theorem aGa{r:Run}:r.restore eA a=r:=by cases r with | none=>rfl | some y=>obtain⟨b,U⟩:=y;rfl
theorem gKa:aAg eA U=U:=rfl
def UK(h:a.get U=aA (.int n))(b:-1000000<=n)(c:n<=1000000):aAb .gC [a] U=aA ((qC n.toNat).map λ(j:Nat)=>.int (j:Int),eA):=by
 unfold aAb;dsimp only;rw[h];exact MA ⟨b,c⟩
def LY(h:a.get U=aA (.int m))(c:b.get U=aA (.int n))(d:-1000000<=m/\m<=1000000)(e:-1000000<=n/\n<=1000000):aAb .gC [a,b] U=aA ((qC (n-m).toNat).map λ(j:Nat)=>.int (m+(j:Int)),eA):=by
 unfold aAb;dsimp only;rw[h,c];exact MA ⟨d,e⟩
def fT(h:v.d=.l a):aAb .of [.val v] U=aA (a,eA):=by(unfold aAb;dsimp only;rw[h])
def lQ(h:v.d=.t a):aAb .of [.val v] U=aA (a,eA):=by(unfold aAb;dsimp only;rw[h])
def ov(h:U[i]?=aA (.ow (.l a) p l)):aAb .of [.slot i] U=aA (a,aA i):=by(unfold aAb;dsimp only;rw[h])
def ZK{bind:D->Env->Option Env}(I:List D->Env->Prop)(h:∀pre d post,ds=pre++d::post->∀U,I pre U->∃U1,bind d U=aA U1/\∃U2,body U1=aA (.nx,U2)/\I (pre++[d]) U2)(c:I [] U):∃a,gD bind body ds U=aA (.nx,a)/\I ds a:=by
 have key:∀(post pre:List D) (U:Env),ds=pre++post->I pre U->∃a,gD bind body post U=aA (.nx,a)/\I ds a:=by
  intro post
  induction post with
  |nil=>intro pre U e b;rw[DD] at e;subst e;exact⟨U,rfl,b⟩
  |cons d post f =>
   intro pre U e b;obtain⟨U1,e1,U2,e2,g⟩:=h pre d post e U b;obtain⟨a,i,j⟩:=f (pre++[d]) U2 (by rw[e];simp) g;exact⟨a,by simp only[gD,e1,e2,i],j⟩
 exact key ds [] U rfl c
noncomputable def cZ(as:List Sl):Run->BA RV
 |some (.nx,U)=>some (.ok (.sh .lA),back as U)
 |some (.rt v,U)=>some (.ok v,back as U)
 |_=>eA
theorem Vw:cZ as (aA (.rt v,U))=some (.ok v,back as U):=rfl
def WZ(a:T f=aA fn)(b:as.length=fn.cA.length)(c:as.all WI=bA)(d:fn.rs=dA:=by rfl):run T W (n+1) f as=cZ as (KA T.cA (run T W n) W fn.body (as++AB fn.nl .un)):=by
 simp only[run,a];rw[MA ⟨b,c⟩,d];generalize KA T.cA (run T W n) W fn.body (as++AB fn.nl .un)=r;obtain _ | ⟨e,U⟩:=r
 ·rfl
 ·cases e<;>rfl
def aAO(T:Tab)(W n:Nat)(fn:Fn)(as:List Sl):Option (Exc×Env):=UC T.cA (run T W n) W fn.body (as++AB fn.nl .un)
def dZ(as:List Sl)(r:Run)(o:Option (Exc×Env)):BA RV:=match r with
 |some (.nx,U)=>some (.ok (.sh .lA),back as U)
 |some (.rt v,U)=>some (.ok v,back as U)
 |_=>match o with
  |some (x,U)=>some (.ex x,back as U)
  |none=>eA
theorem Uw:dZ as (aA (.rt v,U)) o=some (.ok v,back as U):=rfl
theorem Tw:dZ as eA o=(match o with | some (x,U)=>some (.ex x,back as U) | none=>eA):=rfl
def kGa(a:T f=aA fn)(b:as.length=fn.cA.length)(c:as.all WI=bA)(d:fn.rs=bA:=by rfl):run T W (n+1) f as=dZ as (KA T.cA (run T W n) W fn.body (as++AB fn.nl .un)) (aAO T W n fn as):=by
 simp only[run,a];rw[MA ⟨b,c⟩,d];unfold aAO;generalize KA T.cA (run T W n) W fn.body (as++AB fn.nl .un)=r;obtain _ | ⟨e,U⟩:=r
 ·rfl
 ·cases e<;>rfl
end
end CI
namespace CI
set_option tactic.hygienic true
open PySem PySem.Spec PyProof.Rows L2
noncomputable def K6:D->gA->Bool
 |.lA,.none=>bA
 |.bl a,.bool b=>a==b
 |.int i,.int j _=>i==j
 |.str x,.str y _=>x==y&&dN x
 |_,_=>dA
set_option tactic.hygienic false
def IW:List D->List gA->Bool
 |[],[]=>bA
 |d::a,v::b=>K6 d v&&IW a b
 |_,_=>dA
def uo{K:kA}(h:K6 d u=bA):∃v,aAe v u/\∀G,nA K G d v:=by
 have no:∀{p:Prop},dA=bA->p:=λh=>nomatch h
 induction d using D.casesOn with
 |lA =>
  induction u using nV with
  |none=>exact⟨.lA,rfl,λG=>by simp[nA]⟩
  |_=>exact no h
 |bl =>
  induction u using nV with
  |bool=>exact⟨.bl _,rfl,λG=>by simp[nA,yC (show(_==_)=bA from h)]⟩
  |_=>exact no h
 |int i =>
  induction u using nV with
  |int j t=>exact⟨.int i,⟨t,by rw[yC (show(i==j)=bA from h)]⟩,λG=>by simp[nA]⟩
  |_=>exact no h
 |str x =>
  induction u using nV with
  |str y t =>
   replace h:=(RA _ _).mp h;exact⟨.str x,⟨t,by rw[yC h.1]⟩,λG=>by simp[nA,h.2]⟩
  |_=>exact no h
 |_=>exact no h
theorem L6{K:kA}:∀{b:List D} {c:List gA},IW b c=bA->∃a,aAc a c/\∀G,oA K G b a
 |[],[],_=>⟨[],.nil,λG=>oA.nil⟩
 |d::b,u::c,h=>by
  replace h:=(RA _ _).mp h;obtain⟨v,e,f⟩:=uo h.1;obtain⟨a,g,i⟩:=L6 h.2;exact⟨v::a,.cons e g,λG=>oA.cons (f G) (i G)⟩
 |[],_::_,h=>nomatch (show dA=bA from h)
 |_::_,[],h=>nomatch (show dA=bA from h)
def vo{K:kA}{sl}(X:K.In h)(G:h.Ns eB mg)
  (c:yB K eB x=aA (aA (.ref a))) (d:K.lookup a=aA ⟨.type "tuple",l,.seq b n,sl⟩) (e:IW f b.toList=bA) (g:decide (b.size<=1000)=bA):qH pr K mg T gl (x,.c (.t f)):=by
 obtain⟨i,j,k⟩:=L6 e;refine⟨_,.ref a,IL X G c,rfl,λG=>?_⟩;simp only[nA];exact⟨a,i,rfl,.inr ⟨_,b,n,d,rfl,rfl,TB (of_decide_eq_true g) (by decide),j⟩,k G⟩
noncomputable section
variable{U U1:Env}
def nQ(P:VA)(C:Calls)(a:E)(b:List Nat)(k:sF)(cond:List E)(imp:List Nat)(nl:Nat)(c:List Hd)(U1:Env):BA RV :=
 match aAb k c U1 with
 |none=>eA
 |some (d,o)=>(ID (imp.map λ_=>bA) (DJ (KC P C cond) (ev P C dA a) (wB (b.length==1) b) d nl) (imp.map Hd.slot) (aAg o U1)).bind (aAz o U1)
theorem nq{a cond:List E}:ev P C t (.comp b c k a cond imp nl) U=aAh t ((JC P C a U).bind (nQ P C b c k cond imp nl)):=rfl
def aH{cond:List E}(h:aAb k c U1=aA (d,eA)) :
  nQ P C a b k cond imp nl c U1=(ID (imp.map λ_=>bA) (DJ (KC P C cond) (ev P C dA a) (wB (b.length==1) b) d nl) (imp.map Hd.slot) U1).bind (aAz eA U1):=by
 unfold nQ;rw[h];rfl
theorem ft:aAz eA U1 v a=some (.ok v,a):=rfl
def bw{cond:List E}(h:aAb k c U1=aA (d,aA i)) :
  nQ P C a b k cond imp nl c U1=(ID (imp.map λ_=>bA) (DJ (KC P C cond) (ev P C dA a) (wB (b.length==1) b) d nl) (imp.map Hd.slot) (aAg (aA i) U1)).bind (aAz (aA i) U1):=by
 unfold nQ;rw[h]
def SY(as:List Sl)(a:List D)(b:Env):BA RV:=if jB a.length then some (.ok (.ow (.l a)),back as b) else eA
theorem RK{bind:D->Env->Option Env}(h:as.all WI=bA):DJ a b bind c nl as=(dF a b bind c [] (as++AB nl .un)).bind (SY as):=by
 unfold DJ;rw[MA h];rfl
theorem aw(h:jB a.length=bA):SY as a b=some (.ok (.ow (.l a)),back as b):=by unfold SY;rw[MA h]
theorem TK:KC P C [] U=some (.ok (.sh (.bl bA)),U):=rfl
def L9(P:VA)(C:Calls)(a:List E)(v:RV)(U1:Env):BA RV:=match v with
 |.sh (.bl bA)=>KC P C a U1
 |.sh (.bl dA)=>some (.ok (.sh (.bl dA)),U1)
 |_=>eA
theorem Xp:KC P C (e::a) U=(ev P C bA e U).bind (L9 P C a):=rfl
theorem kx:L9 P C [] (.sh (.bl b)) U1=some (.ok (.sh (.bl b)),U1):=by
 cases b
 ·rfl
 ·show KC P C [] U1=_;exact TK
theorem jCa:WI (.ow d bA l)=bA:=rfl
theorem kCa:WI (.sh d)=bA:=rfl
def EJ{bind:D->Env->Option Env}(I:Nat->List D->Env->Prop)
  (step:∀(j:Nat) (d:D),ds[j]?=aA d->∀a U,I j a U->∃U1 c g,bind d U=aA U1/\tests U1=some (.ok (.sh (.bl c)),g)/\(c=bA->∃v k,uC g=some (.ok v,k)/\I (j+1) (a++[v.d]) k)/\(c=dA->I (j+1) a g)) :
  ∀a U,I 0 a U->∃b f,dF tests uC bind ds a U=some (.ok b,f)/\I ds.length b f/\b.length<=a.length+ds.length:=by
 have key:∀(e:List D) (j:Nat),ds.drop j=e->∀a U,I j a U->∃b f,dF tests uC bind e a U=some (.ok b,f)/\I (j+e.length) b f/\b.length<=a.length+e.length:=by
  intro e
  induction e with
  |nil=>intro j _ a U h;exact⟨a,U,rfl,h,by simp⟩
  |cons d e l =>
   intro j m a U h
   have hd:ds[j]?=aA d:=by
    have:(ds.drop j)[0]?=aA d:=by rw[m];rfl
    simpa using this
   have i:ds.drop (j+1)=e:=by
    have:(ds.drop j).drop 1=e:=by rw[m];rfl
    rw[VO] at this;exact this
   obtain⟨U1,c,g,o,p,q,r⟩:=step j d hd a U h;simp only[dF,o,p,BA.bind]
   cases c with
   |false =>
    obtain⟨b,f,e1,e2,n⟩:=l (j+1) i a g (r rfl);refine⟨b,f,e1, ?_,by simp only[YB];lia⟩
    have:j+(d::e).length=j+1+e.length:=by simp only[YB];lia
    rw[this];exact e2
   |true =>
    obtain⟨v,k,s,t⟩:=q rfl;obtain⟨b,f,e1,e2,n⟩:=l (j+1) i (a++[v.d]) k t;simp only[s];refine⟨b,f,e1, ?_,by simp only[NC,YB,pH] at n ⊢;lia⟩
    have:j+(d::e).length=j+1+e.length:=by simp only[YB];lia
    rw[this];exact e2
 intro a U h
 have:=key ds 0 rfl a U h
 simpa using this
def VB(h:n<=1000000):jB n=bA:=gF h
end
end CI
namespace CI
open PySem (Operator CmpOp Str)
noncomputable section
variable{U U1 U2:Env}
def aT(a:List (List fA×List fA))(o:Option D):Option RV:=o.bind (IY a)
def g9(a:List (List fA×List fA))(x:Hd)(U:Env):BA RV:=done (aT a (x.get U)) U
theorem tq:ev P C t (.pM a b) U=aAh t ((wC P C a U).bind (g9 b)):=rfl
theorem aAA:∀a:List Int,WD (a.map D.int)=aA a
 |[]=>rfl
 |n::r=>by(show(WD (r.map D.int)).map (n :: ·)=_;rw[aAA r];rfl)
def K9(P:VA)(C:Calls)(W:Nat)(a:List fA)(i:Nat)(b:List S)(r:Run)(o:Option (Exc×Env)):Run:=match r with
 |some (.nx,U1)=>aA (.nx,U1)
 |_=>match sL a i o with
  |some U2=>aAI i (KA P C W b U2)
  |none=>eA
theorem gr:ex P C W (.oO b a i c) U=K9 P C W a i c (KA P C W b U) (UC P C W b U):=rfl
def J9(P:VA)(C:Calls)(W:Nat)(i:Nat)(a:List S)(o:Option Env):Run:=match o with
 |some U2=>aAI i (KA P C W a U2)
 |none=>eA
theorem jx:K9 P C W a i b (some (.ex x,U)) o=J9 P C W i b (sL a i o):=rfl
theorem cx:J9 P C W i a (aA U)=aAI i (KA P C W a U):=rfl
noncomputable def OY(r:BA Hd)(f:Env->Option (Exc×Env))(o:Option (Exc×Env)):Option (Exc×Env):=match r with
 |some (.ok _,U1)=>f U1
 |_=>o
theorem bq:xH P C (e::a) U=OY (wC P C e U) (xH P C a) (zG P C e U):=rfl
theorem Ov:OY (some (.ok h,U)) f o=f U:=rfl
theorem Nv:OY (some (.ex x,U)) f o=o:=rfl
def hKa(h:a.contains c=bA):sL a i (aA (⟨c,m⟩,U))=store i (.sh (.FE c m)) U:=by unfold sL;exact MA h
noncomputable def N7(i:Nat)(U:Env):Option Sl->Run
 |some (.sh _)=>aA (.nx,U.set i .mv)
 |_=>eA
theorem vt:aAI i (aA (.nx,U))=N7 i U U[i]?:=rfl
theorem qt:N7 i U (aA (.sh d))=aA (.nx,U.set i .mv):=rfl
theorem ar:ex P C W (.DM c a) U=eA:=rfl
noncomputable def lT(r:Run)(f:Env->Option (Exc×Env))(o:Option (Exc×Env)):Option (Exc×Env):=match r with
 |some (.nx,U1)=>f U1
 |_=>o
theorem vr:UC P C W (s::r) U=lT (ex P C W s U) (UC P C W r) (wF P C W s U):=rfl
theorem Yw:lT (aA (.nx,U)) f o=f U:=rfl
theorem Xw:lT eA f o=o:=rfl
theorem Ww:lT (some (.ex x,U)) f o=o:=rfl
noncomputable def e9(r:BA RV)(f g:Env->Option (Exc×Env)):Option (Exc×Env):=match r with
 |some (.ok (.sh (.bl bA)),U1)=>f U1
 |some (.ok (.sh (.bl dA)),U1)=>g U1
 |_=>eA
theorem Pq:wF P C W (.FA c a b) U=e9 (ev P C bA c U) (UC P C W a) (UC P C W b):=rfl
theorem jw:e9 (some (.ok (.sh (.bl bA)),U)) f g=f U:=rfl
noncomputable def y9(c:fA)(r:BA (List D)):Option (Exc×Env):=match r with
 |some (.ok _,U1)=>aA (⟨c,eA⟩,U1)
 |_=>eA
theorem Sq:wF P C W (.DM c a) U=y9 c (qE P C a U):=rfl
theorem Sw:y9 c (some (.ok a,U))=aA (⟨c,eA⟩,U):=rfl
theorem Nq:wF P C W (.YA i e) U=zG P C e U:=rfl
theorem Oq:wF P C W (.expr e) U=zG P C e U:=rfl
theorem Rq:wF P C W (.ret e) U=zG P C e U:=rfl
def TY(r:BA RV):Option (Exc×Env):=match r with
 |some (.ex x,a)=>aA (x,a)
 |_=>eA
theorem cw:TY (some (.ex x,U))=aA (x,U):=rfl
def M8(P:VA)(C:Calls)(f:String)(r:BA (List Hd))(o:Option (Exc×Env)):Option (Exc×Env):=match r with
 |some (.ok a,U1)=>TY (ID (P f) (C f) a U1)
 |_=>o
theorem aq{a:List E}:zG P C (.bif .sorted a) U=xH P C a U:=rfl
theorem Zp:zG P C (.call f a) U=M8 P C f (JC P C a U) (xH P C a U):=rfl
theorem Tv:M8 P C f (some (.ok a,U)) o=TY (ID (P f) (C f) a U):=rfl
def x8(h:qM c a=aA b):aT a (aA (.FE c m))=aA (.sh (.bl b)):=by
 show(qM c a).map _=_;rw[h];rfl
theorem kAa:wC P C (.fld a f) U=(ev P C dA (.fld a f) U).bind BF:=rfl
theorem nAa:wC P C (.ZH i m a b) U=(ev P C dA (.ZH i m a b) U).bind BF:=rfl
theorem oAa:wC P C (.zM a) U=(ev P C dA (.zM a) U).bind BF:=rfl
def La(o:Option D):Option RV:=o.bind vQ
def r9(x:Hd)(U:Env):BA RV:=done (La (x.get U)) U
theorem Dq:ev P C t (.zM a) U=aAh t ((wC P C a U).bind r9):=rfl
theorem aDa:BM P C (.neg a) U=(ev P C dA (.neg a) U).bind oQ:=rfl
def AG(o:Option D)(f:fA):Option RV:=o.bind λd=>(jX d f).map .sh
def a9(f:fA)(x:Hd)(U:Env):BA RV:=done (AG (x.get U) f) U
theorem sq:ev P C t (.fld a f) U=aAh t ((wC P C a U).bind (a9 f)):=rfl
noncomputable def jT(c:fA)(a:List fA)(b:List D)(U:Env):BA RV:=if b.length=a.length then some (.ok (.sh (.ins c a b)),U) else eA
theorem yq:ev P C t (.make c a b) U=aAh t ((qE P C b U).bind (jT c a)):=rfl
theorem Ew:jT c [f] [a] U=some (.ok (.sh (.ins c [f] [a])),U):=rfl
theorem Fw:jT c [f,g] [a,b] U=some (.ok (.sh (.ins c [f,g] [a,b])),U):=rfl
theorem Gw:jT c [f,g,h] [a,b,d] U=some (.ok (.sh (.ins c [f,g,h] [a,b,d])),U):=rfl
def bZ(P:VA)(C:Calls)(f:String)(d:D)(a:List Hd)(U:Env):BA RV:=QY P C f (.val (.sh d)::a) U
def aZ(P:VA)(C:Calls)(d:D)(a:List E)(U:Env):Option String->BA RV
 |some f=>(JC P C a U).bind (bZ P C f d)
 |none=>eA
theorem Hw:aZ P C d a U (aA f)=(JC P C a U).bind (bZ P C f d):=rfl
def m9(P:VA)(C:Calls)(m:fA)(b:List (fA×String))(d:List E)(U:Env)(i:Nat):Option Sl->BA RV
 |some (.sh (.ins c a e))=>aZ P C (.ins c a e) d U (DF c a m b)
 |_=>eA
theorem Iw:m9 P C m b d U i (aA (.sh (.ins c a e)))=aZ P C (.ins c a e) d U (DF c a m b):=rfl
theorem zq:ev P C t (.ZH i m a b) U=aAh t (m9 P C m a b U i U[i]?):=rfl
theorem Np:ex P C W (.ret (.make c a b)) U=(ev P C dA (.make c a b) U).cC bH:=rfl
theorem xn:DB .NotEq (.bl a) (.bl b)=aA (!(a==b)):=rfl
theorem zg0:(a::l)[0]?=aA a:=rfl
theorem zg1:(a::l)[n+1]?=l[n]?:=rfl
theorem zs0:(a::l).set 0 b=b::l:=rfl
theorem zs1:(a::l).set (n+1) b=a::l.set n b:=rfl
theorem zb:(aA a).bind f=f a:=rfl
theorem zm:(aA a).map f=aA (f a):=rfl
theorem zi:(aA a).isSome=bA:=rfl
theorem zc:(a::l)++m=a::(l++m):=rfl
theorem zn:[]++l=l:=rfl
theorem zr0:AB 0 a=[]:=rfl
theorem zr1:AB (n+1) a=a::AB n a:=rfl
theorem zl0:([]:List O).length=0:=rfl
theorem zl1:(a::l).length=l.length+1:=rfl
theorem znt:(!true)=dA:=rfl
theorem znf:(!false)=bA:=rfl
theorem zko:back (.ow d p l::as) (b::bs)=b::back as bs:=rfl
theorem zks:back (.sh d::as) (b::bs)=.sh d::back as bs:=rfl
theorem zkn:back [] bs=[]:=rfl
end
def Xx{Q:List O->Prop}(h:∀a0,Q [a0])(a:List O)(b:a.length=1):Q a:=by
 obtain _ | ⟨a0,c⟩:=a
 ·simp at b
 obtain _ | ⟨x,y⟩:=c
 ·exact h a0
 ·simp at b
def Yx{Q:List O->Prop}(h:∀a0 a,Q [a0,a])(b:List O)(c:b.length=2):Q b:=by
 obtain _ | ⟨a0,d⟩:=b
 ·simp at c
 obtain _ | ⟨a,e⟩:=d
 ·simp at c
 obtain _ | ⟨x,y⟩:=e
 ·exact h a0 a
 ·simp at c
def Zx{Q:List O->Prop}(h:∀a0 b c,Q [a0,b,c])(d:List O)(a:d.length=3):Q d:=by
 obtain _ | ⟨a0,e⟩:=d
 ·simp at a
 obtain _ | ⟨b,f⟩:=e
 ·simp at a
 obtain _ | ⟨c,g⟩:=f
 ·simp at a
 obtain _ | ⟨x,y⟩:=g
 ·exact h a0 b c
 ·simp at a
def ay{Q:List O->Prop}(h:∀a0 b c d,Q [a0,b,c,d])(e:List O)(a:e.length=4):Q e:=by
 obtain _ | ⟨a0,f⟩:=e
 ·simp at a
 obtain _ | ⟨b,g⟩:=f
 ·simp at a
 obtain _ | ⟨c,i⟩:=g
 ·simp at a
 obtain _ | ⟨d,j⟩:=i
 ·simp at a
 obtain _ | ⟨x,y⟩:=j
 ·exact h a0 b c d
 ·simp at a
def cy{Q:List O->Prop}(h:∀a0 b c d e,Q [a0,b,c,d,e])(f:List O)(a:f.length=5):Q f:=by
 obtain _ | ⟨a0,g⟩:=f
 ·simp at a
 obtain _ | ⟨b,i⟩:=g
 ·simp at a
 obtain _ | ⟨c,j⟩:=i
 ·simp at a
 obtain _ | ⟨d,k⟩:=j
 ·simp at a
 obtain _ | ⟨e,l⟩:=k
 ·simp at a
 obtain _ | ⟨x,y⟩:=l
 ·exact h a0 b c d e
 ·simp at a
def dy{Q:List O->Prop}(h:∀a0 b c d e f,Q [a0,b,c,d,e,f])(g:List O)(a:g.length=6):Q g:=by
 obtain _ | ⟨a0,i⟩:=g
 ·simp at a
 obtain _ | ⟨b,j⟩:=i
 ·simp at a
 obtain _ | ⟨c,k⟩:=j
 ·simp at a
 obtain _ | ⟨d,l⟩:=k
 ·simp at a
 obtain _ | ⟨e,m⟩:=l
 ·simp at a
 obtain _ | ⟨f,n⟩:=m
 ·simp at a
 obtain _ | ⟨x,y⟩:=n
 ·exact h a0 b c d e f
 ·simp at a
open PySem PySem.Spec PyProof.Rows L2 in
def BQ(x a:fA)(st:QA)(kV b pm:gA)(e:Option jA)(c ct:gA)(d:List gA):Prop:=PySem.bindArgs (JG x a (WG st) (GD st) (RB st) .none kV b pm e c ct) ⟨d,[]⟩=pure ((HC st).zip d)
def fc{P:O->Prop}(h:P a)(t:∀x∈l,P x):∀x∈a::l,P x:=W2.mpr ⟨h,t⟩
section
open PySem PySem.Spec PyProof.Rows L2
def Qr{K:kA}{st:QA}(X:K.In h)(G:h.Ns eB mg)(O:dP gl st x fn)(t:∀e∈r,qH pr K mg T gl e)(b:T f=aA fn:=by rfl)(D:cP K x st:=by refine' CI.X6 ?a ?l ?c ?k;(case a | l | c | k=>k_is)):∀e∈(x,GV.fn f)::r,qH pr K mg T gl e:=fc (vp X G D O b) t
abbrev A5(st:QA):Prop:=(VJ st).Nodup/\(VJ st).take (HC st).length=HC st/\(∀x∈HC st,(RB st).names.lookup x=aA .local\/(RB st).names.lookup x=aA .cell)/\∀y∈(RB st).names,y.2≠.free
abbrev CK(x a:fA)(st:QA):Prop:=∀(kV b pm:gA) (e:Option jA) (c ct:gA) (d:List gA),d.length=(HC st).length->BQ x a st kV b pm e c ct d
def aI{st:QA}(q:CK x a st)(c:(RB st).kind=.function:=by rfl)(d:(RB st).isCoroutine=dA:=by rfl)(e:(RB st).isGenerator=dA:=by rfl)(h:A5 st/\(VJ st).length=fn.cA.length+fn.nl/\(HC st).length=fn.cA.length:=by decide +kernel)(b:fn.body=O6 gl st:=by kernel_rfl):OG gl st x a fn :=
 ⟨⟨c,d,e,h.1.1,h.1.2.1,h.1.2.2.1,h.1.2.2.2⟩,b,h.2.1,h.2.2,q⟩
def xM{st:QA}(q:CK "__init__" a st)(c:(RB st).kind=.function:=by rfl)(d:(RB st).isCoroutine=dA:=by rfl)(e:(RB st).isGenerator=dA:=by rfl)(h:A5 st/\(HC st).length=ns.length+1/\ns.Nodup/\ns.length<1000:=by decide +kernel)(b:NJ (HC st) 1 (GD st)=aA ns:=by kernel_rfl):yJ st a ns :=
 ⟨⟨c,d,e,h.1.1,h.1.2.1,h.1.2.2.1,h.1.2.2.2⟩,b,h.2.1,h.2.2.1,h.2.2.2,q⟩
variable{st:QA}
def FI(d:(HC st).length=1:=by rfl)(h:∀kV a pm c b ct a0,BQ x pD st kV a pm c b ct [a0]:=by intros;exact rfl):CK x pD st:=λkV a pm c b ct e f=>Xx (h kV a pm c b ct) e (f.trans d)
def iE(d:(HC st).length=2:=by rfl)(h:∀kV a pm c b ct a0 e,BQ x pD st kV a pm c b ct [a0,e]:=by intros;exact rfl):CK x pD st:=λkV a pm c b ct f g=>Yx (h kV a pm c b ct) f (g.trans d)
def QH(d:(HC st).length=3:=by rfl)(h:∀kV a pm c b ct a0 e f,BQ x pD st kV a pm c b ct [a0,e,f]:=by intros;exact rfl):CK x pD st:=λkV a pm c b ct g i=>Zx (h kV a pm c b ct) g (i.trans d)
def RH(d:(HC st).length=4:=by rfl)(h:∀kV a pm c b ct a0 e f g,BQ x pD st kV a pm c b ct [a0,e,f,g]:=by intros;exact rfl):CK x pD st:=λkV a pm c b ct i j=>ay (h kV a pm c b ct) i (j.trans d)
def cm(d:(HC st).length=5:=by rfl)(h:∀kV a pm c b ct a0 e f g i,BQ x pD st kV a pm c b ct [a0,e,f,g,i]:=by intros;exact rfl):CK x pD st:=λkV a pm c b ct j k=>cy (h kV a pm c b ct) j (k.trans d)
def dm(d:(HC st).length=6:=by rfl)(h:∀kV a pm c b ct a0 e f g i j,BQ x pD st kV a pm c b ct [a0,e,f,g,i,j]:=by intros;exact rfl):CK x pD st:=λkV a pm c b ct k l=>dy (h kV a pm c b ct) k (l.trans d)
end
def Y8(i:Nat)(v:RV)(U:Env)(o:Option Sl):BA RV:=match o,v with
 |some (.ow (.l a) p dA),.ow (.l b)=>if jB (a.length+b.length) then some (.ok (.sh .lA),U.set i (.ow (.l (a++b)) p dA)) else eA
 |_,_=>eA
def Z8(i:Nat)(v:RV)(U:Env):BA RV:=Y8 i v U U[i]?
theorem dw:Y8 i (.ow (.l a)) U (aA (.ow (.l b) p dA))=pQ (jB (b.length+a.length)) (.sh .lA) (U.set i (.ow (.l (b++a)) p dA)):=rfl
theorem rq:ev P C t (.ext i a) U=aAh t (WY ((ev P C dA a U).bind (Z8 i)) (YH U i)):=rfl
def W8(v u:RV)(U:Env):BA RV:=uS (jE v.d) u U
def V8(P:VA)(C:Calls)(b:E)(v:RV)(U:Env):BA RV:=(ev P C dA b U).bind (W8 v)
theorem pq:ev P C t (.HP a b) U=aAh t ((ev P C dA a U).bind (V8 P C b)):=rfl
def oHa:EM (.t [.int t,.t (a.map D.int)])=aA (t,a):=by
 show(WD (a.map D.int)).map _=_;rw[aAA];rfl
def qHa:jE (.t [.int t,.t (a.map D.int)])=aA (.inl (t,a)):=by
 show(EM _).map _=_;rw[oHa];rfl
def C8(hk:jE e=aA k)(h:SJ a b k=aA d):fG (aA (.dB a b)) e=aA (.sh d):=by
 show(((jE e).bind (SJ a b)).map RV.sh)=_;rw[hk];show((SJ a b k).map RV.sh)=_;rw[h];rfl
def p6(hk:jE e=aA k):DB .NotIn e (.dB a b)=aA !KJ a k:=by
 show((jE e).map _).map _=_;rw[hk];rfl
theorem aS:FD .len [.dB a b]=aA (.sh (.int a.length)):=rfl
theorem jq{i:Nat}:ev P C t (.BP i) U=aAh t (CP i U U[i]?):=rfl
theorem Wn{i:Nat}{a:List D}{p:Bool}:CP i U (aA (.ow (.l a) p dA))=some (.ok (.sh .lA),U.set i (.ow (.l []) p dA)):=rfl
theorem Gq:ev P C t (.dO i) U=aAh t (CQ i U U[i]?):=rfl
noncomputable def u9(i:Nat)(p:Bool)(l:List D)(U:Env)(o:Option D):BA RV:=o.map λd=>(.ok (.sh d),U.set i (.ow (.l l) p dA))
theorem tCa:CQ i U (aA (.ow (.l a) p dA))=u9 i p a.dropLast U a[a.length-1]?:=rfl
theorem Pw:u9 i p l U (aA d)=some (.ok (.sh d),U.set i (.ow (.l l) p dA)):=rfl
theorem Rl{a:List L2.aC}{b:List D}:FD .sorted [.dB a b]=aA (.ow (.l ((CS.qD (a.map L2.gk)).map uA))):=rfl
theorem O9:∀{a:List L2.XA},QN (a.map uA)=aA a
 |[]=>rfl
 |k::a=>by(show(EM (uA k)).bind _=_;rw[show EM (uA k)=aA k from by show(WD (k.2.map D.int)).map _=_;rw[aAA];rfl,O9];rfl)
theorem Ul{ks:List L2.XA}:FD .sorted [.l (ks.map uA)]=aA (.ow (.l ((CS.qD ks).map uA))):=by
 show(QN _).map _=_;rw[O9];rfl
end CI
namespace Tx
noncomputable abbrev _root_.CI.E.n(d:Int):CI.E:=.c (.int d)
noncomputable abbrev _root_.CI.E.s(d:fA):CI.E:=.c (.str d)
noncomputable abbrev _root_.CI.E.b(d:Bool):CI.E:=.c (.bl d)
open PySem PySem.Spec PyProof.Rows L2 CI
noncomputable def top(i:Nat):QA:=PySem.Challenge.pw_canonwright_k29_stands_that_come.main.body.getD i (.Pass ⟨0,0,0,0⟩)
noncomputable def jg:List fA:=[]
noncomputable def Sf:List fA:=["TooMany"]
noncomputable def kg:List fA:=[]
noncomputable def Tf:List fA:=["TooMany"]
noncomputable def lg:List fA:=[]
noncomputable def Vf:List fA:=["TooMany"]
noncomputable def ng:List fA:=[]
noncomputable def Wf:List fA:=["TooMany"]
noncomputable def og:List fA:=[]
noncomputable def Xf:List fA:=["TooMany"]
noncomputable def qg:List fA:=[]
noncomputable def Yf:List fA:=["TooMany"]
noncomputable def sg:List fA:=[]
noncomputable def Zf:List fA:=["TooMany"]
noncomputable def ug:List fA:=[]
noncomputable def ag:List fA:=["TooMany"]
noncomputable def wg:List fA:=[]
noncomputable def cg:List fA:=["TooMany"]
noncomputable def vg:List fA:=["TooMany"]
noncomputable def bg:List fA:=[]
noncomputable def nS:List fA:=["TooMany"]
def eg:List (List fA×List fA):=[(jg,Sf),(kg,Tf),(lg,Vf),(ng,Wf),(og,Xf),(qg,Yf),(sg,Zf),(ug,ag),(wg,cg)]
def fg:List (List fA×List fA):=[(vg,bg)]
noncomputable def eI:List (fA×String):=[("Span","K"),("Leap","M"),("Back","N"),("Again","O"),("Range","P"),("Above","R"),("Never","S")]
noncomputable def nL:List (fA×String):=[("Span","L"),("Range","Q")]
def L:List (fA×GV):=("NOTES",.c (.int 0))::("BAR",.c (.int 1))::("OCTAVE",.c (.int 2))::("VOICES",.c (.int 3))::("RULES",.c (.int 4))::("LATE",.c (.int 0))::("SHIFT",.c (.int 1))::("TURNED",.c (.int 2))::("LEADER",.c (.t [(.int 0),(.int 0),(.bl dA)]))::("BY_THE_LINE",.c (.t []))::("TURN",.c (.int 0))::("TAIL",.c (.int 1))::("AFTER",.c (.int 1))::("LEAST_MEMORY",.c (.int 3))::("MOST_STANDS",.c (.int 150))::("pitch",.fn "w")::("singer",.fn "x")::("sung",.fn "i")::("span",.fn "h")::("chord",.fn "b")::("sounding_pairs",.fn "l")::("move_so",.fn "y")::("rule_of",.fn "c")::("rules_of",.fn "z")::("breaks_at",.fn "m")::("memory",.fn "n")::("turn_of",.fn "A")::("stand_of",.fn "B")::("line_to",.fn "o")::("nexts",.fn "p")::("behind",.fn "j")::("steps_of",.fn "q")::("steps_from",.fn "f")::("come",.fn "g")::("_law_pen",.fn "r")::("_law_draw",.fn "a")::("_law_rule",.fn "C")::("_law_house",.fn "s")::("_law_heard",.fn "d")::("_law_by_line",.fn "k")::("_law_moved_so",.fn "D")::("_law_bad_pair",.fn "t")::("_law_broken",.fn "e")::("_law_memory",.fn "u")::("_law_stand",.fn "E")::("_law_as_line",.fn "F")::("_law_free",.fn "G")::("_law_ways",.fn "v")::("_law_come",.fn "H")::("_law_any_stand",.fn "I")::("_law_refused",.fn "J")::("law",.fn "law")::("Span",.cls ["beat","spans"])::("Leap",.cls ["most"])::("Back",.cls ["leap","most"])::("Again",.cls ["most"])::("Range",.cls ["low","high"])::("Above",.cls ["one","other"])::("Never",.cls ["one","other","way"])::(dot "broken",.XD eI)::(dot "forbids",.XD nL)::("ValueError",.blt)::("abs",.blt)::("all",.blt)::("enumerate",.blt)::("int",.blt)::("isinstance",.blt)::("len",.blt)::("list",.blt)::("max",.blt)::("min",.blt)::("range",.blt)::("set",.blt)::("sorted",.blt)::("tuple",.blt)::("{}",.blt)::("TooMany",.exc)::(col "Broken",.bD jg Sf)::(col "NoHouse",.bD kg Tf)::(col "NoNote",.bD lg Vf)::(col "NoNumber",.bD ng Wf)::(col "NoRow",.bD og Xf)::(col "NoRule",.bD qg Yf)::(col "NoText",.bD sg Zf)::(col "NoVoice",.bD ug ag)::(col "Unlike",.bD wg cg)::(col "TooMany",.bD vg bg)::(cat "CanonError",.KA nS)::[]
noncomputable def Xn:QA->List QA
 |.ClassDef _ _ _ body _ _ _ _ _ _ _=>body
 |_=>[]
def EF(i j:Nat):QA:=(Xn (top i)).getD j (.Pass ⟨0,0,0,0⟩)
noncomputable def SW:E:=(.call "i" [.v 1,.v 2,.v 4,.v 0])
noncomputable def RW:E:=(.t [.v 4,.v 5])
noncomputable def LW:E:=(.CA .Eq (.v 3) (.ix (.v 1) (.v 0)))
noncomputable def QW:E:=(.t [.v 2])
noncomputable def XW:E:=(.call "c" [.v 1])
def VW:E:=(.ix (.v 1) (.n 0))
noncomputable def WW:E:=(.v 4)
noncomputable def ZW:E:=(.t [.v 3,.call "j" [.v 0,.v 1,.v 3]])
def YW:E:=(.ix (.v 1) (.n 1))
noncomputable def NW:E:=(.t [.v 3])
def OW:E:=(.yA .Add (.n 1) (.ix (.v 1) (.n 0)))
def MW:E:=(.call "a" [.v 1,.ix (.v 0) (.n 0)])
noncomputable def UW:E:=(.v 1)
noncomputable def tW:List S:=[.FA (.and (.CA .IsNot (.ix (.v 0) (.v 2)) (.c .lA)) (.CA .IsNot (.ix (.v 0) (.v 3)) (.c .lA))) [.expr (.app 1 (.t [.v 2,.v 3]))] []]
def uW:List S:=[.for [3] bA .gC [.yA .Add (.v 2) (.n 1),.bif .len [.v 0]] tW]
noncomputable def qW:List S:=[.FA (.and (.CA .Eq (.call "h" [.v 4,.ix (.v 5) (.v 8),.ix (.v 5) (.v 9)]) (.fld (.v 0) "one")) (.CA .Eq (.call "h" [.v 4,.ix (.v 6) (.v 8),.ix (.v 6) (.v 9)]) (.fld (.v 0) "other"))) [.FA (.call "y" [.fld (.v 0) "way",.yA .Sub (.ix (.v 6) (.v 8)) (.ix (.v 5) (.v 8)),.yA .Sub (.ix (.v 6) (.v 9)) (.ix (.v 5) (.v 9))]) [.expr (.app 7 (.t [.v 8,.v 9]))] []] []]
noncomputable def rW:List S:=[.expr (.app 4 (.t [.v 3,.v 5,.v 7]))]
def sW:List S:=[.for [7] bA .of [.ZH 6 "broken" eI [.v 0,.v 2,.v 3]] rW]
def cF:List S:=[.YA 4 (.dO 3),.FA (.CA .NotIn (.v 4) (.v 2)) [.FA (.CA .Eq (.bif .len [.v 2]) (.n 150)) [.DM "TooMany" [.s "more than 150 stands come"]] [],.set 2 (.v 4) (.call "q" [.v 0,.v 4]),.expr (.ext 3 (.comp YW [1] .of [.ix (.v 2) (.v 4)] [] [] 2))] []]
def nW:List S:=[.YA 8 (.call "a" [.v 0,.ix (.l [.n 2,.n 5]) (.bif .int [.v 1])]),.expr (.app 6 (.t [.v 8,.yA .Sub (.call "a" [.v 0,.n 25]) (.n 12),.CA .Eq (.call "a" [.v 0,.n 4]) (.n 0)]))]
noncomputable def oW:List S:=[.expr (.app 9 (.call "C" [.v 0,.v 2,.v 3,.v 4,.v 5]))]
def mW:List S:=[.YA 7 (.c .lA),.FA (.vF .LtE .Lt (.n 0) (.yA .Sub (.v 2) (.v 4)) (.bif .len [.v 1])) [.YA 7 (.yA .Add (.v 5) (.ix (.v 1) (.yA .Sub (.v 2) (.v 4)))),.FA (.v 6) [.YA 7 (.yA .Sub (.v 5) (.ix (.v 1) (.yA .Sub (.v 2) (.v 4))))] []] [],.expr (.app 3 (.v 7))]
noncomputable def vP:List S:=[.FA (.call "t" [.v 0,.v 1,.v 8,.v 4,.v 5,.v 10]) [.expr (.app 9 (.t [.v 5,.v 10]))] []]
def xP:List S:=[.for [10] bA .gC [.yA .Add (.v 5) (.n 1),.bif .len [.v 4]] vP]
def lW:List S:=[.FA (.CA .NotEq (.call "e" [.v 0,.v 2,.v 1,.yA .Sub (.bif .len [.v 1]) (.n 1)]) (.l [])) [.ret (.b dA)] []]
noncomputable def pW:List S:=[.YA 4 (.yA .Add (.call "F" [.v 1]) (.l [.v 3])),.FA (.call "G" [.v 0,.v 4]) [.expr (.app 2 (.t [.v 3,.call "E" [.v 0,.v 4]]))] []]
noncomputable def aM:List S:=[.FA (.CA .NotIn (.v 6) (.v 2)) [.set 2 (.v 6) (.c .lA),.expr (.app 3 (.v 6))] []]
def wN:List S:=[.YA 4 (.dO 3),.set 2 (.v 4) (.call "v" [.v 0,.v 4]),.for [5,6] dA .of [.ix (.v 2) (.v 4)] aM]
def td:S:=(.YA 5 (.call "a" [.v 0,.n 9]))
def ud:S:=(.FA (.CA .Lt (.v 5) (.n 2)) [.ret (.t [.s "span",.call "a" [.v 0,.v 2],.call "a" [.v 0,.yA .LShift (.n 1) (.v 3)]])] [])
def vd:S:=(.FA (.CA .Eq (.v 5) (.n 2)) [.ret (.t [.s "span",.call "a" [.v 0,.v 2],.yA .Sub (.yA .Sub (.yA .LShift (.n 1) (.v 3)) (.n 1)) (.yA .LShift (.n 1) (.call "a" [.v 0,.v 3]))])] [])
def wd:S:=(.FA (.CA .Eq (.v 5) (.n 3)) [.ret (.t [.s "leap",.call "a" [.v 0,.ix (.l [.n 13,.yA .Add (.v 1) (.n 1)]) (.call "a" [.v 0,.n 2])]])] [])
def yd:S:=(.FA (.CA .Eq (.v 5) (.n 4)) [.ret (.t [.s "back",.yA .Add (.n 1) (.call "a" [.v 0,.n 12]),.yA .Add (.n 1) (.call "a" [.v 0,.n 12])])] [])
def zd:S:=(.FA (.CA .Eq (.v 5) (.n 5)) [.ret (.t [.s "again",.yA .Add (.n 1) (.call "a" [.v 0,.n 3])])] [])
def Ad:S:=(.FA (.CA .Eq (.v 5) (.n 6)) [.YA 6 (.ix (.l [.yA .Sub (.call "a" [.v 0,.n 121]) (.n 60),.yA .Sub (.call "a" [.v 0,.n 20]) (.n 12)]) (.call "a" [.v 0,.n 2])),.ret (.t [.s "range",.v 6,.yA .Add (.v 6) (.call "a" [.v 0,.yA .Sub (.n 61) (.v 6)])])] [])
def Bd:S:=(.FA (.CA .Eq (.v 5) (.n 7)) [.YA 7 (.call "a" [.v 0,.yA .Add (.v 4) (.n 1)]),.ret (.t [.s "above",.v 7,.yA .Mod (.yA .Add (.yA .Add (.v 7) (.n 1)) (.call "a" [.v 0,.v 4])) (.yA .Add (.v 4) (.n 1))])] [])
def Cd:S:=(.YA 8 (.t [.s "like",.s "against",.s "aside",.s "any"]))
def Dd:S:=(.ret (.t [.s "never",.call "a" [.v 0,.v 3],.call "a" [.v 0,.v 3],.ix (.v 8) (.call "a" [.v 0,.n 4])]))
def WX:Fn:=⟨[bA,bA],0,[.FA (.ix (.v 0) (.n 2)) [.ret (.yA .Sub (.ix (.v 0) (.n 1)) (.v 1))] [],.ret (.yA .Add (.ix (.v 0) (.n 1)) (.v 1))],dA⟩
def YX:Fn:=⟨[bA,bA],0,[.FA (.CA .Eq (.v 1) (.n 0)) [.ret (.c (.t [.int 0,.int 0,.bl dA]))] [],.ret (.ix (.ix (.v 0) (.n 3)) (.yA .Sub (.v 1) (.n 1)))],dA⟩
def eY:Fn:=⟨[bA,bA,bA,bA],2,[.YA 4 (.call "x" [.v 0,.v 2]),.YA 5 (.yA .Sub (.v 3) (.ix (.v 4) (.n 0))),.FA (.vF .LtE .Lt (.n 0) (.v 5) (.bif .len [.v 1])) [.ret (.call "w" [.v 4,.ix (.v 1) (.v 5)])] [],.ret (.c .lA)],dA⟩
noncomputable def aY:Fn:=⟨[bA,bA,bA],0,[.ret (.yA .Mod (.bif .abs [.yA .Sub (.v 1) (.v 2)]) (.v 0))],dA⟩
def QX:Fn:=⟨[bA,bA,bA],0,[.ret (.comp SW [4] .gC [.yA .Add (.bif .len [.ix (.v 0) (.n 3)]) (.n 1)] [] [2,0,1] 2)],dA⟩
def ZX:Fn:=⟨[bA],3,[.YA 1 (.l []),.for [2] bA .gC [.bif .len [.v 0]] uW,.ret (.v 1)],dA⟩
def UX:Fn:=⟨[bA,bA,bA],0,[.FA (.CA .Eq (.v 0) (.s "like")) [.ret (.CA .Gt (.yA .Mult (.v 1) (.v 2)) (.n 0))] [],.FA (.CA .Eq (.v 0) (.s "against")) [.ret (.CA .Lt (.yA .Mult (.v 1) (.v 2)) (.n 0))] [],.FA (.CA .Eq (.v 0) (.s "aside")) [.ret (.CA .NotEq (.CA .Eq (.v 1) (.n 0)) (.CA .Eq (.v 2) (.n 0)))] [],.ret (.b bA)],dA⟩
def LX:Fn:=⟨[bA,bA,bA,bA],2,[.FA (.CA .NotEq (.yA .Mod (.v 3) (.ix (.v 1) (.n 1))) (.fld (.v 0) "beat")) [.ret (.l [])] [],.YA 4 (.ix (.v 1) (.n 2)),.YA 5 (.call "b" [.v 1,.v 2,.v 3]),.ret (.comp RW [4,5] .of [.call "l" [.v 5]] [.ZH 2 "forbids" nL [.call "h" [.v 1,.ix (.v 0) (.v 4),.ix (.v 0) (.v 5)]]] [5,4,0] 3)],dA⟩
def MX:Fn:=⟨[bA,bA],0,[.ret (.CA .Eq (.yA .BitAnd (.yA .RShift (.fld (.v 0) "spans") (.v 1)) (.n 1)) (.n 0))],dA⟩
def FX:Fn:=⟨[bA,bA,bA,dA],0,[.FA (.and (.CA .Gt (.v 3) (.n 0)) (.CA .Gt (.bif .abs [.yA .Sub (.ix (.v 2) (.v 3)) (.ix (.v 2) (.yA .Sub (.v 3) (.n 1)))]) (.fld (.v 0) "most"))) [.ret (.l [.c (.t [])])] [],.ret (.l [])],dA⟩
def qX:Fn:=⟨[bA,bA,bA,dA],2,[.FA (.CA .Lt (.v 3) (.n 2)) [.ret (.l [])] [],.YA 4 (.yA .Sub (.ix (.v 2) (.yA .Sub (.v 3) (.n 1))) (.ix (.v 2) (.yA .Sub (.v 3) (.n 2)))),.YA 5 (.yA .Sub (.ix (.v 2) (.v 3)) (.ix (.v 2) (.yA .Sub (.v 3) (.n 1)))),.FA (.CA .Lt (.bif .abs [.v 4]) (.fld (.v 0) "leap")) [.ret (.l [])] [],.FA (.and (.CA .Lt (.yA .Mult (.v 4) (.v 5)) (.n 0)) (.CA .LtE (.bif .abs [.v 5]) (.fld (.v 0) "most"))) [.ret (.l [])] [],.ret (.l [.c (.t [])])],dA⟩
def pX:Fn:=⟨[bA,bA,bA,dA],0,[.FA (.CA .Lt (.v 3) (.fld (.v 0) "most")) [.ret (.l [])] [],.FA (.bif .all [.comp LW [3] .of [.sl (.v 2) (.yA .Sub (.v 3) (.fld (.v 0) "most")) (.v 3)] [] [3,2] 2]) [.ret (.l [.c (.t [])])] [],.ret (.l [])],dA⟩
def HX:Fn:=⟨[bA,bA,bA,bA],0,[.ret (.comp QW [2,3] (.enum 0) [.call "b" [.v 1,.v 2,.v 3]] [.ZH 0 "forbids" nL [.v 3]] [0] 3)],dA⟩
noncomputable def JX:Fn:=⟨[bA,bA],0,[.ret (.and (.CA .IsNot (.v 1) (.c .lA)) (.not (.vF .LtE .LtE (.fld (.v 0) "low") (.v 1) (.fld (.v 0) "high"))))],dA⟩
noncomputable def oX:Fn:=⟨[bA,bA,bA,bA],2,[.YA 4 (.call "i" [.v 1,.v 2,.fld (.v 0) "one",.v 3]),.YA 5 (.call "i" [.v 1,.v 2,.fld (.v 0) "other",.v 3]),.FA (.or (.CA .Is (.v 4) (.c .lA)) (.or (.CA .Is (.v 5) (.c .lA)) (.CA .GtE (.v 4) (.v 5)))) [.ret (.l [])] [],.ret (.l [.t [.fld (.v 0) "one",.fld (.v 0) "other"]])],dA⟩
def GX:Fn:=⟨[bA,bA,bA,bA],6,[.YA 4 (.ix (.v 1) (.n 2)),.YA 5 (.call "b" [.v 1,.v 2,.yA .Sub (.v 3) (.n 1)]),.YA 6 (.call "b" [.v 1,.v 2,.v 3]),.YA 7 (.l []),.for [8,9] dA .of [.call "l" [.v 5]] qW,.ret (.v 7)],dA⟩
def JJ:Fn:=⟨[bA],1,[.YA 1 (.ix (.v 0) (.n 0)),.FA (.CA .Eq (.v 1) (.s "span")) [.ret (.make "Span" ["beat","spans"] [.ix (.v 0) (.n 1),.ix (.v 0) (.n 2)])] [],.FA (.CA .Eq (.v 1) (.s "leap")) [.ret (.make "Leap" ["most"] [.ix (.v 0) (.n 1)])] [],.FA (.CA .Eq (.v 1) (.s "back")) [.ret (.make "Back" ["leap","most"] [.ix (.v 0) (.n 1),.ix (.v 0) (.n 2)])] [],.FA (.CA .Eq (.v 1) (.s "again")) [.ret (.make "Again" ["most"] [.ix (.v 0) (.n 1)])] [],.FA (.CA .Eq (.v 1) (.s "range")) [.ret (.make "Range" ["low","high"] [.ix (.v 0) (.n 1),.ix (.v 0) (.n 2)])] [],.FA (.CA .Eq (.v 1) (.s "above")) [.ret (.make "Above" ["one","other"] [.ix (.v 0) (.n 1),.ix (.v 0) (.n 2)])] [],.ret (.make "Never" ["one","other","way"] [.ix (.v 0) (.n 1),.ix (.v 0) (.n 2),.ix (.v 0) (.n 3)])],dA⟩
def XX:Fn:=⟨[bA],0,[.ret (.comp XW [1] .of [.ix (.v 0) (.n 4)] [] [] 2)],dA⟩
def OX:Fn:=⟨[bA,bA,bA,dA],4,[.YA 4 (.l []),.for [5,6] dA (.enum 0) [.v 1] sW,.ret (.v 4)],dA⟩
def TX:Fn:=⟨[bA],0,[.ret (.bif .max [.n 3,.yA .Add (.n 1) (.bif .max [.comp VW [1] .of [.ix (.v 0) (.n 3)] [] [] 2])])],dA⟩
def fY:Fn:=⟨[bA,dA],1,[.YA 2 (.call "n" [.v 0]),.FA (.CA .LtE (.v 1) (.v 2)) [.ret (.v 1)] [],.ret (.yA .Add (.v 2) (.yA .Mod (.yA .Sub (.v 1) (.v 2)) (.ix (.v 0) (.n 1))))],dA⟩
noncomputable def bY:Fn:=⟨[bA,bA],0,[.ret (.t [.call "A" [.v 0,.bif .len [.v 1]],.bif .tuple [.sl (.v 1) (.neg (.call "n" [.v 0])) .UI]])],dA⟩
def SX:Fn:=⟨[bA],0,[.ret (.yA .Add (.yA .Mult (.l [.n 0]) (.yA .Sub (.ix (.v 0) (.n 0)) (.bif .len [.ix (.v 0) (.n 1)]))) (.bif .list [.ix (.v 0) (.n 1)]))],dA⟩
def VX:Fn:=⟨[bA,bA],2,[.YA 2 (.call "z" [.v 0]),.YA 3 (.call "o" [.v 1]),.ret (.comp WW [4] .gC [.ix (.v 0) (.n 0)] [.CA .Eq (.bif .len [.call "m" [.v 0,.v 2,.yA .Add (.v 1) (.l [.v 4]),.bif .len [.v 1]]]) (.n 0)] [0,3,2] 2)],dA⟩
noncomputable def NX:Fn:=⟨[bA,bA,dA],0,[.ret (.call "B" [.v 0,.yA .Add (.call "o" [.v 1]) (.l [.v 2])])],dA⟩
def dY:Fn:=⟨[bA,bA],0,[.ret (.comp ZW [3] .of [.call "p" [.v 0,.v 1]] [] [0,1] 2)],dA⟩
def cY:Fn:=⟨[bA,dA],3,[.YA 2 .GP,.YA 3 (.l [.v 1]),.jK (.CA .Gt (.bif .len [.v 3]) (.n 0)) cF,.ret (.v 2)],bA⟩
noncomputable def BS:Fn:=⟨[bA,dA],0,[.ret (.bif .sorted [.call "f" [.v 0,.v 1]])],bA⟩
def zX:Fn:=⟨[bA,dA],2,[.FA (.and (.CA .Lt (.v 1) (.bif .len [.v 0])) (.CA .Eq (.yA .Mod (.ix (.v 0) (.n 0)) (.n 2)) (.n 0))) [.ret (.l [.n 0,.ix (.v 0) (.v 1)])] [],.YA 2 (.yA .Add (.yA .Mult (.n 30011) (.v 1)) (.n 7)),.FA (.CA .Gt (.bif .len [.v 0]) (.n 0)) [.YA 3 (.yA .FloorDiv (.v 1) (.bif .len [.v 0])),.YA 2 (.yA .Add (.yA .Add (.yA .Mod (.ix (.v 0) (.yA .Mod (.v 1) (.bif .len [.v 0]))) (.n 2147483587)) (.yA .Mult (.n 48611) (.v 3))) (.yA .Mult (.n 3) (.v 1)))] [],.ret (.l [.n 1,.yA .Mod (.yA .Add (.yA .Add (.yA .Mult (.v 2) (.n 48271)) (.yA .Mult (.n 11) (.v 1))) (.n 1)) (.n 2147483647)])],dA⟩
def uX:Fn:=⟨[bA,bA],2,[.FA (.CA .Eq (.ix (.v 0) (.n 0)) (.n 0)) [.YA 2 (.yA .Mod (.ix (.v 0) (.n 1)) (.v 1)),.set 0 (.n 1) (.yA .FloorDiv (.ix (.v 0) (.n 1)) (.v 1)),.ret (.v 2)] [],.set 0 (.n 1) (.yA .Mod (.yA .Add (.yA .Mult (.ix (.v 0) (.n 1)) (.n 69621)) (.n 7)) (.n 2147483629)),.YA 3 (.yA .Mod (.yA .Mult (.yA .Add (.yA .Add (.yA .Mult (.yA .Mod (.ix (.v 0) (.n 1)) (.n 65521)) (.n 40503)) (.yA .FloorDiv (.ix (.v 0) (.n 1)) (.n 65521))) (.n 1)) (.n 16807)) (.n 2147483647)),.ret (.yA .Mod (.yA .FloorDiv (.v 3) (.n 13)) (.v 1))],dA⟩
def BX:Fn:=⟨[bA,bA,bA,bA,bA],4,[td,ud,vd,wd,yd,zd,Ad,Bd,Cd,Dd],dA⟩
def fM:Fn:=⟨[bA],9,[.YA 1 (.CA .Eq (.call "a" [.v 0,.n 2]) (.n 0)),.YA 2 (.yA .Add (.n 1) (.call "a" [.v 0,.ix (.l [.n 4,.n 7]) (.bif .int [.v 1])])),.YA 3 (.yA .Add (.n 1) (.call "a" [.v 0,.ix (.l [.n 2,.n 4]) (.bif .int [.v 1])])),.YA 4 (.yA .Add (.n 1) (.call "a" [.v 0,.n 12])),.YA 5 (.yA .Add (.n 1) (.call "a" [.v 0,.ix (.l [.n 2,.n 3]) (.bif .int [.v 1])])),.YA 6 (.l []),.for [7] bA .gC [.v 5] nW,.YA 9 (.l []),.for [7] bA .gC [.call "a" [.v 0,.n 9]] oW,.ret (.t [.v 2,.v 3,.v 4,.bif .tuple [.v 6],.bif .tuple [.v 9]])],dA⟩
def wX:Fn:=⟨[bA,bA,bA],5,[.YA 3 (.l []),.for [4,5,6] dA .of [.yA .Add (.t [.t [.n 0,.n 0,.b dA]]) (.ix (.v 0) (.n 3))] mW,.ret (.v 3)],dA⟩
def ZP:Fn:=⟨[bA,bA,dA],2,[.FA (.CA .Eq (.ix (.v 0) (.n 0)) (.s "leap")) [.ret (.and (.CA .Gt (.v 2) (.n 0)) (.CA .Gt (.bif .abs [.yA .Sub (.ix (.v 1) (.v 2)) (.ix (.v 1) (.yA .Sub (.v 2) (.n 1)))]) (.ix (.v 0) (.n 1))))] [],.FA (.CA .Eq (.ix (.v 0) (.n 0)) (.s "again")) [.ret (.and (.CA .GtE (.v 2) (.ix (.v 0) (.n 1))) (.CA .Eq (.zM (.sl (.v 1) (.yA .Sub (.v 2) (.ix (.v 0) (.n 1))) (.yA .Add (.v 2) (.n 1)))) (.n 1)))] [],.FA (.CA .Lt (.v 2) (.n 2)) [.ret (.b dA)] [],.YA 3 (.yA .Sub (.ix (.v 1) (.yA .Sub (.v 2) (.n 1))) (.ix (.v 1) (.yA .Sub (.v 2) (.n 2)))),.YA 4 (.yA .Sub (.ix (.v 1) (.yA .Sub (.v 2) (.n 1))) (.ix (.v 1) (.v 2))),.FA (.CA .Lt (.v 3) (.n 0)) [.YA 4 (.yA .Sub (.n 0) (.v 4))] [],.ret (.and (.CA .GtE (.bif .abs [.v 3]) (.ix (.v 0) (.n 1))) (.not (.vF .Lt .LtE (.n 0) (.v 4) (.ix (.v 0) (.n 2)))))],dA⟩
def yX:Fn:=⟨[bA,dA,dA],0,[.FA (.CA .Eq (.v 0) (.s "any")) [.ret (.b bA)] [],.FA (.CA .Eq (.v 0) (.s "aside")) [.ret (.and (.CA .In (.n 0) (.t [.v 1,.v 2])) (.CA .NotEq (.v 1) (.v 2)))] [],.FA (.CA .Eq (.v 0) (.s "like")) [.ret (.or (.and (.CA .Gt (.v 1) (.n 0)) (.CA .Gt (.v 2) (.n 0))) (.and (.CA .Lt (.v 1) (.n 0)) (.CA .Lt (.v 2) (.n 0))))] [],.ret (.or (.and (.CA .Gt (.v 1) (.n 0)) (.CA .Lt (.v 2) (.n 0))) (.and (.CA .Lt (.v 1) (.n 0)) (.CA .Gt (.v 2) (.n 0))))],dA⟩
def AS:Fn:=⟨[bA,bA,bA,bA,dA,dA],1,[.FA (.or (.CA .Is (.ix (.v 3) (.v 4)) (.c .lA)) (.CA .Is (.ix (.v 3) (.v 5)) (.c .lA))) [.ret (.b dA)] [],.YA 6 (.yA .Mod (.bif .abs [.yA .Sub (.ix (.v 3) (.v 4)) (.ix (.v 3) (.v 5))]) (.ix (.v 0) (.n 2))),.FA (.CA .Eq (.ix (.v 1) (.n 0)) (.s "span")) [.ret (.CA .Eq (.yA .Mod (.yA .FloorDiv (.ix (.v 1) (.n 2)) (.yA .LShift (.n 1) (.v 6))) (.n 2)) (.n 0))] [],.FA (.or (.CA .Is (.ix (.v 2) (.v 4)) (.c .lA)) (.or (.CA .Is (.ix (.v 2) (.v 5)) (.c .lA)) (.CA .NotEq (.v 6) (.ix (.v 1) (.n 2))))) [.ret (.b dA)] [],.FA (.CA .NotEq (.yA .Mod (.bif .abs [.yA .Sub (.ix (.v 2) (.v 4)) (.ix (.v 2) (.v 5))]) (.ix (.v 0) (.n 2))) (.ix (.v 1) (.n 1))) [.ret (.b dA)] [],.ret (.call "D" [.ix (.v 1) (.n 3),.yA .Sub (.ix (.v 3) (.v 4)) (.ix (.v 2) (.v 4)),.yA .Sub (.ix (.v 3) (.v 5)) (.ix (.v 2) (.v 5))])],dA⟩
def IJ:Fn:=⟨[bA,bA,bA,dA],7,[.YA 4 (.call "d" [.v 0,.v 2,.v 3]),.FA (.CA .Eq (.ix (.v 1) (.n 0)) (.s "range")) [.ret (.comp NW [3] .gC [.bif .len [.v 4]] [.and (.CA .IsNot (.ix (.v 0) (.v 3)) (.c .lA)) (.not (.vF .LtE .LtE (.ix (.v 1) (.n 1)) (.ix (.v 0) (.v 3)) (.ix (.v 1) (.n 2))))] [4,1] 2)] [],.FA (.CA .Eq (.ix (.v 1) (.n 0)) (.s "above")) [.YA 6 (.ix (.v 4) (.ix (.v 1) (.n 1))),.YA 7 (.ix (.v 4) (.ix (.v 1) (.n 2))),.ret (.yA .Mult (.l [.t [.ix (.v 1) (.n 1),.ix (.v 1) (.n 2)]]) (.bif .int [.and (.CA .IsNot (.v 6) (.c .lA)) (.and (.CA .IsNot (.v 7) (.c .lA)) (.CA .Lt (.v 6) (.v 7)))]))] [],.FA (.CA .In (.ix (.v 1) (.n 0)) (.t [.s "leap",.s "back",.s "again"])) [.ret (.yA .Mult (.l [.t []]) (.bif .int [.call "k" [.v 1,.v 2,.v 3]]))] [],.FA (.or (.and (.CA .Eq (.ix (.v 1) (.n 0)) (.s "span")) (.CA .NotEq (.yA .Mod (.v 3) (.ix (.v 0) (.n 1))) (.ix (.v 1) (.n 1)))) (.and (.CA .Eq (.ix (.v 1) (.n 0)) (.s "never")) (.CA .Eq (.v 3) (.n 0)))) [.ret (.l [])] [],.YA 8 (.call "d" [.v 0,.v 2,.yA .Sub (.v 3) (.n 1)]),.YA 9 (.l []),.for [5] bA .gC [.bif .len [.v 4]] xP,.ret (.v 9)],dA⟩
def xX:Fn:=⟨[bA],0,[.ret (.bif .max [.yA .Add (.l [.n 3]) (.comp OW [1] .of [.ix (.v 0) (.n 3)] [] [] 2)])],dA⟩
def DX:Fn:=⟨[bA,bA],2,[.YA 2 (.call "u" [.v 0]),.YA 3 (.bif .len [.v 1]),.FA (.CA .Gt (.v 3) (.v 2)) [.YA 3 (.yA .Add (.v 2) (.yA .Mod (.yA .Sub (.v 3) (.v 2)) (.ix (.v 0) (.n 1))))] [],.ret (.t [.v 3,.bif .tuple [.sl (.v 1) (.bif .max [.n 0,.yA .Sub (.bif .len [.v 1]) (.v 2)]) .UI]])],dA⟩
def sX:Fn:=⟨[bA],0,[.ret (.yA .Add (.yA .Mult (.l [.n 0]) (.yA .Sub (.ix (.v 0) (.n 0)) (.bif .len [.ix (.v 0) (.n 1)]))) (.bif .list [.ix (.v 0) (.n 1)]))],dA⟩
def vX:Fn:=⟨[bA,bA],1,[.for [2] bA .of [.ix (.v 0) (.n 4)] lW,.ret (.b bA)],dA⟩
def EX:Fn:=⟨[bA,bA],3,[.YA 2 (.l []),.for [3] bA .gC [.ix (.v 0) (.n 0)] pW,.ret (.v 2)],dA⟩
def tX:Fn:=⟨[bA,dA],5,[.YA 2 (.HP (.v 1) (.c .lA)),.YA 3 (.l [.v 1]),.jK (.and (.CA .NotEq (.v 3) (.l [])) (.CA .LtE (.bif .len [.v 2]) (.n 150))) wN,.ret (.v 2)],dA⟩
def rX:Fn:=⟨[bA,bA],2,[.YA 2 (.call "u" [.v 1]),.YA 3 (.yA .Mult (.call "a" [.v 0,.yA .Add (.v 2) (.ix (.v 1) (.n 1))]) (.call "a" [.v 0,.n 2])),.ret (.t [.v 3,.bif .tuple [.comp MW [3] .gC [.bif .min [.v 3,.v 2]] [] [1,0] 2]])],dA⟩
def AX:Fn:=⟨[bA,dA],3,[.YA 2 (.l []),.oO [.expr (.call "g" [.v 0,.v 1])] nS 3 [.YA 4 (.pM (.v 3) eg),.YA 2 (.l [.pM (.v 3) fg,.QI (.v 3) [.TQ],.v 4])],.ret (.v 2)],dA⟩
def HE:Fn:=⟨[bA],4,[.YA 1 (.call "s" [.call "r" [.v 0,.n 0]]),.YA 2 (.call "I" [.call "r" [.v 0,.n 1],.v 1]),.YA 3 (.call "H" [.v 1,.v 2]),.FA (.CA .Gt (.bif .len [.v 3]) (.n 150)) [.ret (.CA .Eq (.call "J" [.v 1,.v 2]) (.l [.b bA,.b bA,.b dA]))] [],.YA 4 (.call "g" [.v 1,.v 2]),.FA (.or (.not (.QI (.v 4) [.list])) (.CA .NotEq (.v 4) (.bif .sorted [.bif .list [.v 3]]))) [.ret (.b dA)] [],.FA (.CA .Gt (.bif .len [.comp UW [1] .of [.v 4] [.not (.QI (.v 1) [.tuple])] [] 2]) (.n 0)) [.ret (.b dA)] [],.expr (.BP 4),.ret (.or (.CA .Gt (.bif .len [.v 3]) (.n 30)) (.CA .Eq (.call "g" [.v 1,.v 2]) (.bif .sorted [.bif .list [.v 3]])))],dA⟩
def TL:List (String×Fn):=[("w",WX),("x",YX),("i",eY),("h",aY),("b",QX),("l",ZX),("y",UX),("K",LX),("L",MX),("M",FX),("N",qX),("O",pX),("P",HX),("Q",JX),("R",oX),("S",GX),("c",JJ),("z",XX),("m",OX),("n",TX),("A",fY),("B",bY),("o",SX),("p",VX),("j",NX),("q",dY),("f",cY),("g",BS),("r",zX),("a",uX),("C",BX),("s",fM),("d",wX),("k",ZP),("D",yX),("t",AS),("e",IJ),("u",xX),("E",DX),("F",sX),("G",vX),("v",EX),("H",tX),("I",rX),("J",AX),("law",HE)]
def T:Tab:=λf=>TL.lookup f
theorem Wj:T.cA "w"=[bA,bA]:=rfl
theorem Zj:T.cA "x"=[bA,bA]:=rfl
theorem jk:T.cA "i"=[bA,bA,bA,bA]:=rfl
theorem ck:T.cA "h"=[bA,bA,bA]:=rfl
theorem Qj:T.cA "b"=[bA,bA,bA]:=rfl
theorem ak:T.cA "l"=[bA]:=rfl
theorem Uj:T.cA "y"=[bA,bA,bA]:=rfl
theorem Mj:T.cA "K"=[bA,bA,bA,bA]:=rfl
theorem Nj:T.cA "L"=[bA,bA]:=rfl
theorem Ij:T.cA "M"=[bA,bA,bA,dA]:=rfl
theorem pj:T.cA "N"=[bA,bA,bA,dA]:=rfl
theorem oj:T.cA "O"=[bA,bA,bA,dA]:=rfl
theorem Kj:T.cA "P"=[bA,bA,bA,bA]:=rfl
theorem Lj:T.cA "Q"=[bA,bA]:=rfl
theorem mj:T.cA "R"=[bA,bA,bA,bA]:=rfl
theorem Jj:T.cA "S"=[bA,bA,bA,bA]:=rfl
theorem Xj:T.cA "c"=[bA]:=rfl
theorem Yj:T.cA "z"=[bA]:=rfl
theorem Pj:T.cA "m"=[bA,bA,bA,dA]:=rfl
theorem Tj:T.cA "n"=[bA]:=rfl
theorem rk:T.cA "A"=[bA,dA]:=rfl
theorem ek:T.cA "B"=[bA,bA]:=rfl
theorem Sj:T.cA "o"=[bA]:=rfl
theorem Vj:T.cA "p"=[bA,bA]:=rfl
theorem Oj:T.cA "j"=[bA,bA,dA]:=rfl
theorem ik:T.cA "q"=[bA,bA]:=rfl
theorem fk:T.cA "f"=[bA,dA]:=rfl
theorem Rj:T.cA "g"=[bA,dA]:=rfl
theorem Dj:T.cA "r"=[bA,dA]:=rfl
theorem xj:T.cA "a"=[bA,bA]:=rfl
theorem Fj:T.cA "C"=[bA,bA,bA,bA,bA]:=rfl
theorem Aj:T.cA "s"=[bA]:=rfl
theorem zj:T.cA "d"=[bA,bA,bA]:=rfl
theorem uj:T.cA "k"=[bA,bA,dA]:=rfl
theorem Cj:T.cA "D"=[bA,dA,dA]:=rfl
theorem sj:T.cA "t"=[bA,bA,bA,bA,dA,dA]:=rfl
theorem tj:T.cA "e"=[bA,bA,bA,dA]:=rfl
theorem Bj:T.cA "u"=[bA]:=rfl
theorem Gj:T.cA "E"=[bA,bA]:=rfl
theorem rj:T.cA "F"=[bA]:=rfl
theorem yj:T.cA "G"=[bA,bA]:=rfl
theorem Hj:T.cA "v"=[bA,bA]:=rfl
theorem vj:T.cA "H"=[bA,dA]:=rfl
theorem qj:T.cA "I"=[bA,bA]:=rfl
theorem Ej:T.cA "J"=[bA,dA]:=rfl
theorem wk:T "law"=aA HE:=rfl
def Bu:yJ (EF 33 0) "Span.__init__" ["beat","spans"]:=xM QH
def JN{a b:D}:AG (aA (.ins "Span" ["beat","spans"] [a,b])) "beat"=aA (.sh a):=(rfl)
def KN{b a:D}:AG (aA (.ins "Span" ["beat","spans"] [b,a])) "spans"=aA (.sh a):=(rfl)
def yu:yJ (EF 34 0) "Leap.__init__" ["most"]:=xM iE
def kX{a:D}:AG (aA (.ins "Leap" ["most"] [a])) "most"=aA (.sh a):=(rfl)
def xu:yJ (EF 35 0) "Back.__init__" ["leap","most"]:=xM QH
def GN{a b:D}:AG (aA (.ins "Back" ["leap","most"] [a,b])) "leap"=aA (.sh a):=(rfl)
def HN{b a:D}:AG (aA (.ins "Back" ["leap","most"] [b,a])) "most"=aA (.sh a):=(rfl)
def wu:yJ (EF 36 0) "Again.__init__" ["most"]:=xM iE
def FN{a:D}:AG (aA (.ins "Again" ["most"] [a])) "most"=aA (.sh a):=(rfl)
def Au:yJ (EF 37 0) "Range.__init__" ["low","high"]:=xM QH
def mX{a b:D}:AG (aA (.ins "Range" ["low","high"] [a,b])) "low"=aA (.sh a):=(rfl)
def lX{b a:D}:AG (aA (.ins "Range" ["low","high"] [b,a])) "high"=aA (.sh a):=(rfl)
def vu:yJ (EF 38 0) "Above.__init__" ["one","other"]:=xM QH
def yS{a b:D}:AG (aA (.ins "Above" ["one","other"] [a,b])) "one"=aA (.sh a):=(rfl)
def zS{b a:D}:AG (aA (.ins "Above" ["one","other"] [b,a])) "other"=aA (.sh a):=(rfl)
def zu:yJ (EF 39 0) "Never.__init__" ["one","other","way"]:=xM RH
def UP{a b c:D}:AG (aA (.ins "Never" ["one","other","way"] [a,b,c])) "one"=aA (.sh a):=(rfl)
def VP{b a c:D}:AG (aA (.ins "Never" ["one","other","way"] [b,a,c])) "other"=aA (.sh a):=(rfl)
def YP{b c a:D}:AG (aA (.ins "Never" ["one","other","way"] [b,c,a])) "way"=aA (.sh a):=(rfl)
def MY{m:Option Int}:aT eg (aA (.FE "TooMany" m))=aA (.sh (.bl dA)):=x8 (by decide +kernel)
def NY{m:Option Int}:aT fg (aA (.FE "TooMany" m))=aA (.sh (.bl bA)):=x8 (by decide +kernel)
def Tn:nS.contains (xA "TooMany")=bA:=by decide +kernel
def Yy:DF "Span" ["beat","spans"] "broken" eI=aA "K":=by decide +kernel
def Vy:DF "Leap" ["most"] "broken" eI=aA "M":=by decide +kernel
def Uy:DF "Back" ["leap","most"] "broken" eI=aA "N":=by decide +kernel
def Sy:DF "Again" ["most"] "broken" eI=aA "O":=by decide +kernel
def Xy:DF "Range" ["low","high"] "broken" eI=aA "P":=by decide +kernel
def Ry:DF "Above" ["one","other"] "broken" eI=aA "R":=by decide +kernel
def Wy:DF "Never" ["one","other","way"] "broken" eI=aA "S":=by decide +kernel
def sQ:DF "Span" ["beat","spans"] "forbids" nL=aA "L":=by decide +kernel
def uT:DF "Range" ["low","high"] "forbids" nL=aA "Q":=by decide +kernel
def s_:OG (rE L) (EF 33 1) "broken" "Span.broken" LX:=aI RH
def t_:OG (rE L) (EF 33 2) "forbids" "Span.forbids" MX:=aI iE
def o_:OG (rE L) (EF 34 1) "broken" "Leap.broken" FX:=aI RH
def n_:OG (rE L) (EF 35 1) "broken" "Back.broken" qX:=aI RH
def m_:OG (rE L) (EF 36 1) "broken" "Again.broken" pX:=aI RH
def q_:OG (rE L) (EF 37 1) "broken" "Range.broken" HX:=aI RH
def r_:OG (rE L) (EF 37 2) "forbids" "Range.forbids" JX:=aI iE
def l_:OG (rE L) (EF 38 1) "broken" "Above.broken" oX:=aI RH
def p_:OG (rE L) (EF 39 1) "broken" "Never.broken" GX:=aI RH
def N_:dP (rE L) (top 77) "law" HE:=aI FI
end Tx
namespace Mx
open CI Tx
abbrev _root_.CI.Sl.o(d:CI.D):CI.Sl:=.ow d dA dA
abbrev _root_.CI.Sl.p(d:CI.D):CI.Sl:=.ow d bA dA
abbrev _root_.CI.Sl.i(d:Int):CI.Sl:=.sh (.int d)
abbrev _root_.CI.RV.i(d:Int):CI.RV:=.sh (.int d)
abbrev _root_.CI.Sl.s(d:fA):CI.Sl:=.sh (.str d)
abbrev _root_.CI.RV.s(d:fA):CI.RV:=.sh (.str d)
abbrev _root_.CI.Sl.b(d:Bool):CI.Sl:=.sh (.bl d)
abbrev _root_.CI.RV.b(d:Bool):CI.RV:=.sh (.bl d)
local macro_rules | `(tactic| exists $x:ident)=>`(tactic| ((first | rw[WZ (fn:=$x) rfl rfl rfl] | (rw[kGa (fn:=$x) rfl rfl rfl];unfold aAO));unfold $x))
noncomputable def toD(f:Int×Int×Bool):D:=.t [.int f.1,.int f.2.1,.bl f.2.2]
def HA(no ba oc:Int)(fs:List (Int×Int×Bool))(rs:List D):D:=.t [.int no,.int ba,.int oc,.t (fs.map toD),.t rs]
theorem Iv:fG (aA (HA no ba oc fs rs)) (.int 0)=aA (.i no):=rfl
theorem Jv:fG (aA (HA no ba oc fs rs)) (.int 1)=aA (.i ba):=rfl
theorem Kv:fG (aA (HA no ba oc fs rs)) (.int 2)=aA (.i oc):=rfl
theorem Lv:fG (aA (HA no ba oc fs rs)) (.int 3)=aA (.sh (.t (fs.map toD))):=rfl
theorem Mv:fG (aA (HA no ba oc fs rs)) (.int 4)=aA (.sh (.t rs)):=rfl
abbrev rg(n:Nat):List D:=(qC n).map λ(j:Nat)=>D.int (j:Int)
set_option compiler.extract_closed false
local macro_rules | `(tactic| walk_at $s:str) => do if !s.getString.startsWith "!" then Lean.Macro.throwUnsupported else `(tactic| simp only[↓jl, ↓Ar, ↓dz, ↓Bo, ↓rLa, ↓Wv, ↓Vv, ↓Rv, ↓Qv, ↓Ow, ↓Nw, ↓zw, ↓yw, ↓xw, ↓vw, $[$((("fm um qm jm om km tm gm ll kl Dr Cr gz iz ez fz Co nt Fo Eo Ks Js Qt Pt fx sLa ew Qw Jq Kq oq ax yHa zHa aIa bIa cIa dIa M9 l9 Iq wq Mq U8 T8 Lq Vp d9 c9 ox lx Zw rAa jAa qAa mAa eAa gAa hAa cAa lAa pAa fAa dAa iAa Tp L8 K8 gq Xl Vl Wl O5 xl rl vl yl zl ml uN ql Jw Aq Kw Cq o9 Uz Bq eo bo S8 R8 lq iT Uv O8 N8 mq rn mn Zm Ym Wm yn Xm jn cn Bn An zJa cq Fq Mw k9 j9 vq zv xv Uk Vk Wk Xk D9 C9 B9 bDa oQ cDa zCa yCa Hq QY Ro Xv Zv Yv Aw Px Rx Qx Sx Cw Bw Us Ss Ts Ws Vs fw gw J8 fq Qs Ls Ms Hr Ir Er Gr Jr Mr Lr Kr YY uq Lu Mu F8 Sv mw dq av Zu G8 Vq eU pIa oIa nIa mIa nC lIa j_ i_ h_ fS qw A9 z9 br jHa X8 Wq uFa vFa bH Zq Kp Qp Mp Fp Ip Dp Pp Lp Gp Ep Jp Yq Wr aA3 Xq ir iX hX aGa gKa Vw nq ft Xp jCa kCa kAa nAa oAa r9 Dq aDa a9 sq yq Ew Fw Gw bZ Hw Iw zq Np xn zg0 zg1 zs0 zs1 zb zm zi zc zn zr0 zr1 zl0 zl1 znt znf zko zks zkn iq Z8 dw rq Rw Su uw tw g9 tq ar vr Yw Xw Ww Pq jw Sq Sw Nq Oq Rq cw Zp Tv Uw Tw gr jx cx vt qt bq Ov Nv v9 Uu Tu Ru Yu x9 V8 W8 aS Uq pq Gq tCa Pw jq Wn aq Wj Zj jk ck Qj ak Uj Nj Lj Xj Yj Pj Tj rk ek Sj Vj Oj ik fk Rj Dj xj Fj Aj zj uj Cj sj tj Bj Gj rj yj Hj vj qj Ej if_true if_false eJ decide_true decide_false Bool.true_eq_false not_true_eq_false not_false_eq_true and_self and_true true_and or_true true_or NC reduceIte Int.reduceLT Int.reduceLE Int.reduceGT Int.reduceNeg Nat.reduceAdd Nat.reduceLT Nat.reduceLeDiff Int.reduceEq Int.reduceNe Nat.reduceBEq MB cN kC Ri m4 mJ FL iV pH YB TM RK aw kx yh wR l3 Fi Iv Jv Kv Lv Mv".splitOn " ")++(((s.getString.drop 1).toString.replace "%" "List.length_map").replace "&" "Bool.or_false Bool.false_or Bool.or_true Bool.true_or" |>.splitOn " ")).filter (· ≠ "") |>.toArray.map λx => Lean.mkIdent x.toName):term],*, *])
theorem ZC:type_of% (And.intro @fS (And.intro @eU (And.intro @nH.{0} (And.intro @XQ.{0} (And.intro @QM.{0} (And.intro @GO.{0} (And.intro @c6 (And.intro @pd (And.intro @qd @G9))))))))):=(And.intro @fS (And.intro @eU (And.intro @nH.{0} (And.intro @XQ.{0} (And.intro @QM.{0} (And.intro @GO.{0} (And.intro @c6 (And.intro @pd (And.intro @qd @G9)))))))))
def JW(k s m:Int):Int:=if k=0 then s / m else(s*69621+7) % 2147483629
def dM(k s m:Int):Int:=if k=0 then s % m else((((s*69621+7) % 2147483629) % 65521*40503+((s*69621+7) % 2147483629) / 65521+1)*16807 % 2147483647) / 13 % m
def Vo(b:0<m)(c:m<100000000000000000000000000000000000000000000000000000000000000000000000000000000):run T W (n+1) "a" [.p (.l [.int k,.int s]),.i m]=some (.ok (.i (dM k s m)),[.p (.l [.int k,.int (JW k s m)]),.i m]):=by
 exists uX
 by_cases hk:k=0
 ·subst hk;unfold JW dM
  walk_at "!"
 ·unfold JW dM
  walk_at "!"
def Uo(h:0<m):0<=dM k s m:=by unfold dM;split<;>exact UO _ (by lia)
def To(h:0<m):dM k s m<m:=by unfold dM;split<;>exact RU _ h
def dr(b:0<m)(c:m<100000000000000000000000000000000000000000000000000000000000000000000000000000000):∃v d:Int,(0<=v/\v<m)/\run T W (n+1) "a" [.p (.l [.int k,.int s]),.i m]=some (.ok (.i v),[.p (.l [.int k,.int d]),.i m]):=⟨_,_,⟨Uo b,To b⟩,Vo b c⟩
def JP{W n:Nat}{k s m:Int}(h:0<m/\m<5000):∃v b:Int,(0<=v/\v<m)/\run T W (n+1) "a" [.p (.l [.int k,.int s]),.i m]=some (.ok (.i v),[.p (.l [.int k,.int b]),.i m]):=dr h.1 (Int.lt_trans h.2 (by decide))
noncomputable def NA(a:List (List Int)):List D:=a.map λis=>.t (is.map D.int)
def tZ{l:List Int}:(l.map D.int).all (JB n)=bA:=IH.mpr λd hd=>by
 obtain⟨i,_,rfl⟩:=qF.mp hd;cases n<;>rfl
def f_(a:List (List Int)):JB (n+2) (.l (NA a))=bA:=IH.mpr λd hd=>by
 obtain⟨t,_,rfl⟩:=qF.mp hd;exact tZ
noncomputable def GG(a:List Int)(k:Nat):Int×Int :=
 if k<a.length/\a.headD 0 % 2=0 then(0,a.getD k 0)
 else(1,((if 0<a.length then a.getD (k % a.length) 0 % 2147483587+48611*((k / a.length:Nat):Int)+3*(k:Int) else 30011*(k:Int)+7)*48271+11*(k:Int)+1) % 2147483647)
def XR{ns:List Int}(h:k<ns.length):L2.lC (ns.map D.int) (k:Int)=aA (.int (ns.getD k 0)):=by
 apply L2.YL
 rw[jD,pC h];simp[h]
def Eb{k:Nat}(m:ns.length<=63)(hk:k<=100000):run T W (n+1) "r" [.sh (.l (ns.map .int)),.i k]=some (.ok (.ow (.l [.int (GG ns k).1,.int (GG ns k).2])),[.sh (.l (ns.map .int)),.i k]):=by
 exists zX
 by_cases e:ns=[]
 ·subst e;have h:decide ((k:Int)<((0:Nat):Int))=dA:=cB (by lia);have i:decide (((0:Nat):Int) > 0)=dA:=rfl;have f:decide (0<((0:Nat):Int))=dA:=rfl;have j:decide ((k:Int)<0)=dA:=cB (by lia)
  have ev:GG [] k=(1,((30011*(k:Int)+7)*48271+11*(k:Int)+1) % 2147483647):=by(unfold GG;rw[JA (by simp),JA (by simp)])
  walk_at "!vA"
 ·have b:0<ns.length:=zh.mpr e;have f:decide (0<(ns.length:Int))=bA:=vB (by lia)
  have o:(ns.map D.int)[0]?=aA (.int (ns.headD 0)):=by cases ns with | nil=>exact absurd rfl e | cons a r=>rfl
  have e1:(0:Int)<(ns.length:Int):=by lia
  have e2:(ns.length:Int)<100000000000000000000000000000000000000000000000000000000000000000000000000000000:=by lia
  have p:(k:Int) / (ns.length:Int)=((k / ns.length:Nat):Int):=by rw[Int.natCast_ediv]
  have q:(k:Int) % (ns.length:Int)=((k % ns.length:Nat):Int):=by rw[Int.natCast_emod]
  have s:=XR (k:=k % ns.length) (Nat.mod_lt _ b);by_cases d:k<ns.length
  ·have h:decide ((k:Int)<(ns.length:Int))=bA:=vB (by lia);have t:=XR d;by_cases g:ns.headD 0 % 2=0
   ·have ev:GG ns k=(0,ns.getD k 0):=by unfold GG;rw[MA ⟨d,g⟩]
    walk_at "!vA"
   ·have l:decide (ns.headD 0 % 2=0)=dA:=cB g
    have ev:GG ns k=(1,((ns.getD (k % ns.length) 0 % 2147483587+48611*((k / ns.length:Nat):Int)+3*(k:Int))*48271+11*(k:Int)+1) % 2147483647):=by(unfold GG;rw[JA (λz=>g z.2),MA b])
    walk_at "!vA"
  ·have h:decide ((k:Int)<(ns.length:Int))=dA:=cB (by lia)
   have ev:GG ns k=(1,((ns.getD (k % ns.length) 0 % 2147483587+48611*((k / ns.length:Nat):Int)+3*(k:Int))*48271+11*(k:Int)+1) % 2147483647):=by(unfold GG;rw[JA (λz=>d z.1),MA b])
   walk_at "!vA"
def Ze:((xA "span")==(xA "leap"))=dA:=by decide +kernel
def Ye:((xA "span")==(xA "back"))=dA:=by decide +kernel
def Xe:((xA "span")==(xA "again"))=dA:=by decide +kernel
def cf:((xA "span")==(xA "range"))=dA:=by decide +kernel
def We:((xA "span")==(xA "above"))=dA:=by decide +kernel
def bf:((xA "span")==(xA "never"))=dA:=by decide +kernel
def Ae:DB .In (.str (xA "span")) (.t [.str (xA "leap"),.str (xA "back"),.str (xA "again")])=aA dA:=(rfl)
def Ge:((xA "leap")==(xA "span"))=dA:=by decide +kernel
def De:((xA "leap")==(xA "back"))=dA:=by decide +kernel
def Ce:((xA "leap")==(xA "again"))=dA:=by decide +kernel
def Fe:((xA "leap")==(xA "range"))=dA:=by decide +kernel
def Be:((xA "leap")==(xA "above"))=dA:=by decide +kernel
def Ee:((xA "leap")==(xA "never"))=dA:=by decide +kernel
def we:DB .In (.str (xA "leap")) (.t [.str (xA "leap"),.str (xA "back"),.str (xA "again")])=aA bA:=(rfl)
def pe:((xA "back")==(xA "span"))=dA:=by decide +kernel
def ie:((xA "back")==(xA "leap"))=dA:=by decide +kernel
def de:((xA "back")==(xA "again"))=dA:=by decide +kernel
def me:((xA "back")==(xA "range"))=dA:=by decide +kernel
def ae:((xA "back")==(xA "above"))=dA:=by decide +kernel
def je:((xA "back")==(xA "never"))=dA:=by decide +kernel
def ue:DB .In (.str (xA "back")) (.t [.str (xA "leap"),.str (xA "back"),.str (xA "again")])=aA bA:=(rfl)
def Zd:((xA "again")==(xA "span"))=dA:=by decide +kernel
def Wd:((xA "again")==(xA "leap"))=dA:=by decide +kernel
def Vd:((xA "again")==(xA "back"))=dA:=by decide +kernel
def Yd:((xA "again")==(xA "range"))=dA:=by decide +kernel
def Ud:((xA "again")==(xA "above"))=dA:=by decide +kernel
def Xd:((xA "again")==(xA "never"))=dA:=by decide +kernel
def se:DB .In (.str (xA "again")) (.t [.str (xA "leap"),.str (xA "back"),.str (xA "again")])=aA bA:=(rfl)
def Ve:((xA "range")==(xA "span"))=dA:=by decide +kernel
def Se:((xA "range")==(xA "leap"))=dA:=by decide +kernel
def Qe:((xA "range")==(xA "back"))=dA:=by decide +kernel
def Pe:((xA "range")==(xA "again"))=dA:=by decide +kernel
def Oe:((xA "range")==(xA "above"))=dA:=by decide +kernel
def Te:((xA "range")==(xA "never"))=dA:=by decide +kernel
def ze:DB .In (.str (xA "range")) (.t [.str (xA "leap"),.str (xA "back"),.str (xA "again")])=aA dA:=(rfl)
def Td:((xA "above")==(xA "span"))=dA:=by decide +kernel
def Pd:((xA "above")==(xA "leap"))=dA:=by decide +kernel
def Od:((xA "above")==(xA "back"))=dA:=by decide +kernel
def Nd:((xA "above")==(xA "again"))=dA:=by decide +kernel
def Sd:((xA "above")==(xA "range"))=dA:=by decide +kernel
def Qd:((xA "above")==(xA "never"))=dA:=by decide +kernel
def qe:DB .In (.str (xA "above")) (.t [.str (xA "leap"),.str (xA "back"),.str (xA "again")])=aA dA:=(rfl)
def Me:((xA "never")==(xA "span"))=dA:=by decide +kernel
def Ke:((xA "never")==(xA "leap"))=dA:=by decide +kernel
def Je:((xA "never")==(xA "back"))=dA:=by decide +kernel
def Ie:((xA "never")==(xA "again"))=dA:=by decide +kernel
def Le:((xA "never")==(xA "range"))=dA:=by decide +kernel
def He:((xA "never")==(xA "above"))=dA:=by decide +kernel
def ye:DB .In (.str (xA "never")) (.t [.str (xA "leap"),.str (xA "back"),.str (xA "again")])=aA dA:=(rfl)
def BB:type_of% (And.intro @Ze (And.intro @Ye (And.intro @Xe (And.intro @cf (And.intro @We (And.intro @bf (And.intro @Ae (And.intro @Ge (And.intro @De (And.intro @Ce (And.intro @Fe (And.intro @Be (And.intro @Ee (And.intro @we (And.intro @pe (And.intro @ie (And.intro @de (And.intro @me (And.intro @ae (And.intro @je (And.intro @ue (And.intro @Zd (And.intro @Wd (And.intro @Vd (And.intro @Yd (And.intro @Ud (And.intro @Xd (And.intro @se (And.intro @Ve (And.intro @Se (And.intro @Qe (And.intro @Pe (And.intro @Oe (And.intro @Te (And.intro @ze (And.intro @Td (And.intro @Pd (And.intro @Od (And.intro @Nd (And.intro @Sd (And.intro @Qd (And.intro @qe (And.intro @Me (And.intro @Ke (And.intro @Je (And.intro @Ie (And.intro @Le (And.intro @He @ye)))))))))))))))))))))))))))))))))))))))))))))))):=(And.intro @Ze (And.intro @Ye (And.intro @Xe (And.intro @cf (And.intro @We (And.intro @bf (And.intro @Ae (And.intro @Ge (And.intro @De (And.intro @Ce (And.intro @Fe (And.intro @Be (And.intro @Ee (And.intro @we (And.intro @pe (And.intro @ie (And.intro @de (And.intro @me (And.intro @ae (And.intro @je (And.intro @ue (And.intro @Zd (And.intro @Wd (And.intro @Vd (And.intro @Yd (And.intro @Ud (And.intro @Xd (And.intro @se (And.intro @Ve (And.intro @Se (And.intro @Qe (And.intro @Pe (And.intro @Oe (And.intro @Te (And.intro @ze (And.intro @Td (And.intro @Pd (And.intro @Od (And.intro @Nd (And.intro @Sd (And.intro @Qd (And.intro @qe (And.intro @Me (And.intro @Ke (And.intro @Je (And.intro @Ie (And.intro @Le (And.intro @He @ye))))))))))))))))))))))))))))))))))))))))))))))))
theorem QP:∀{j:Nat} {l:List S} {U:Env},KA P C W (l.take j) U=aA (.nx,a)->KA P C W l U=KA P C W (l.drop j) a
 | 0,l,U,h=>by
  rw[wR,iX] at h;cases h;rfl
 |j+1,[],U,h=>by
  rw[List.take_nil,iX] at h;cases h;rfl
 |j+1,s::l,U,h=>by
  rw[yh,hX] at h;rw[hX,l3]
  generalize ex P C W s U=r at *
  obtain _ | ⟨b,c⟩:=r
  ·cases h
  ·cases b with
   |nx=>exact QP h
   |_=>cases h
def pw{j:Int}(c:0<=j)(d:j<=12):(0:Int)<2 ^ j.toNat/\(2:Int) ^ j.toNat<100000000000000000000000000000000000000000000000000000000000000000000000000000000:=by
 have h:j.toNat<=12:=by lia
 generalize j.toNat=q at h;have a:2 ^ q<=2 ^ 12:=rh (by decide) h;have b:(2:Int) ^ q<=4096:=by exact_mod_cast a
 exact⟨Q4 (by decide),Int.lt_of_le_of_lt b (by decide)⟩
inductive RG(no ba oc ma:Int):D->Prop
 |span (a b:Int) (h1:0<=a) (h2:a<ba) (h3:0<=b) (h4:b<2 ^ oc.toNat):RG no ba oc ma (.t [.str "span",.int a,.int b])
 |leap (a:Int) (h1:0<=a) (h2:a<=12):RG no ba oc ma (.t [.str "leap",.int a])
 |back (a b:Int) (h1:1<=a) (h2:a<=12) (h3:1<=b) (h4:b<=12):RG no ba oc ma (.t [.str "back",.int a,.int b])
 |again (a:Int) (h1:1<=a) (h2:a<=3):RG no ba oc ma (.t [.str "again",.int a])
 |range (a b:Int) (h1:-60<=a) (h2:a<=b) (h3:b<=60):RG no ba oc ma (.t [.str "range",.int a,.int b])
 |above (v w:Nat) (h1:(v:Int)<=ma) (h2:(w:Int)<=ma) (h3:v≠w):RG no ba oc ma (.t [.str "above",.int v,.int w])
 |never (a b:Int) (x:fA) (h1:0<=a) (h2:a<oc) (h3:0<=b) (h4:b<oc) (h5:x="like"\/x="against"\/x="aside"\/x="any"):RG no ba oc ma (.t [.str "never",.int a,.int b,.str x])
def Ef(h:0<=v/\v<2):∃q,fG (aA (.l [.int a,.int b])) (.int v)=aA (.i q)/\(q=a\/q=b):=by
 rcases(by lia:v=0\/v=1) with rfl | rfl
 ·exact⟨a,rfl,.inl rfl⟩
 ·exact⟨b,rfl,.inr rfl⟩
def iGa{W n:Nat}{k s0 no ba oc ma:Int}(Q:((1<=no/\no<=7)/\1<=ba/\ba<=4)/\(1<=oc/\oc<=12)/\1<=ma/\ma<=3) :
  ∃R d,run T W (n+2) "C" [.p (.l [.int k,.int s0]),.i no,.i ba,.i oc,.i ma]=some (.ok (.sh d),[.p (.l [.int k,.int R]),.i no,.i ba,.i oc,.i ma])/\RG no ba oc ma d:=by
 exists BX
 unfold td ud vd wd yd zd Ad Bd Cd Dd;obtain⟨⟨⟨_,_⟩,_,_⟩,⟨_,J⟩,_,_⟩:=Q;have K:0<=oc:=by lia
 have g6:oc<=1000:=by lia
 have u:0<ma+1:=by lia
 have f:=@JP W n k;obtain⟨w,s,y,d0⟩:=f (s:=s0) (m:=9) (by lia);obtain⟨a,l,g,A⟩:=f (s:=s) (m:=ba) (by lia);by_cases c:w<2
 ·have c':decide (w<2)=bA:=vB c;obtain⟨b,o,t,F⟩:=dr (W:=W) (n:=n) (k:=k) (s:=l) (pw K J).1 (pw K J).2;refine⟨o,_, ?_,.span a b g.1 g.2 t.1 t.2⟩;clear f y g t c u
  walk_at "!"
 rcases(by lia:w=2\/w=3\/w=4\/w=5\/w=6\/w=7\/w=8) with rfl | rfl | rfl | rfl | rfl | rfl | rfl
 ·obtain⟨e,o,M,F⟩:=f (s:=l) (m:=oc) (by lia);have x3:e<=1000:=by lia
  have x4:=M.1;have N:(2:Int) ^ (e.toNat+1)<=2 ^ oc.toNat:=by exact_mod_cast rh (by decide) (show e.toNat+1<=oc.toNat by lia)
  rw[Int.pow_succ] at N;have U:(0:Int)<2 ^ e.toNat:=Q4 (by decide);refine⟨o,_, ?_,.span a (2 ^ oc.toNat-1-2 ^ e.toNat) g.1 g.2 (by lia) (by lia)⟩;clear f y g M c u N U
  walk_at "!"
 all_goals clear A g a l
 ·obtain⟨v,l,B,A⟩:=f (s:=s) (m:=2) (by lia);obtain⟨q,O,h⟩:=Ef (a:=13) (b:=no+1) B;obtain⟨a,o,g,F⟩:=f (s:=l) (m:=q) (by lia);refine⟨o,_, ?_,.leap a g.1 (by lia)⟩;clear f y g B h c u
  walk_at "!"
 ·obtain⟨a,l,g,A⟩:=f (s:=s) (m:=12) (by lia);obtain⟨b,o,t,F⟩:=f (s:=l) (m:=12) (by lia);refine⟨o,_, ?_,.back (1+a) (1+b) (by lia) (by lia) (by lia) (by lia)⟩;clear f y g t c u
  walk_at "!"
 ·obtain⟨a,l,g,A⟩:=f (s:=s) (m:=3) (by lia);refine⟨l,_, ?_,.again (1+a) (by lia) (by lia)⟩;clear f y g c u
  walk_at "!"
 ·obtain⟨a,l,g,A⟩:=f (s:=s) (m:=121) (by lia);obtain⟨b,o,t,F⟩:=f (s:=l) (m:=20) (by lia);obtain⟨v,H,B,X⟩:=f (s:=o) (m:=2) (by lia);obtain⟨q,O,h⟩:=Ef (a:=a-60) (b:=b-12) B;obtain⟨r,Y,Z,d4⟩:=f (s:=H) (m:=61-q) (by lia);refine⟨Y,_, ?_,.range q (q+r) (by lia) (by lia) (by lia)⟩;clear f y g t B Z h c u
  walk_at "!"
 ·obtain⟨a,l,g,A⟩:=f (s:=s) (m:=ma+1) (by lia);obtain⟨b,o,t,F⟩:=f (s:=l) (m:=ma) (by lia);obtain⟨i,rfl⟩:∃i:Nat,a=(i:Int):=⟨a.toNat,by lia⟩
  have e1:=UO ((i:Int)+1+b) (show ma+1≠0 by lia);have e2:=RU ((i:Int)+1+b) u;obtain⟨j,hj⟩:∃j:Nat,((i:Int)+1+b) % (ma+1)=(j:Int):=⟨(((i:Int)+1+b) % (ma+1)).toNat,by lia⟩
  refine⟨o,_, ?_,.above i j (by lia) (by lia) ?_⟩
  ·clear f y g t c e1 e2
   walk_at "!"
  ·rintro rfl
   have e3:=Int.emod_add_mul_ediv ((i:Int)+1+b) (ma+1);rw[hj] at e3;have I:((i:Int)+1+b) / (ma+1)=0\/1<=((i:Int)+1+b) / (ma+1):=by have:=yi (show 0<=(i:Int)+1+b by lia) (show 0<=ma+1 by lia);lia
   generalize ((i:Int)+1+b) / (ma+1)=z at *
   rcases I with rfl | I
   ·lia
   ·have:=Int.mul_le_mul_of_nonneg_left I (show 0<=ma+1 by lia)
    lia
 ·obtain⟨a,l,g,A⟩:=f (s:=s) (m:=oc) (by lia);obtain⟨b,o,t,F⟩:=f (s:=l) (m:=oc) (by lia);obtain⟨v,H,B,X⟩:=f (s:=o) (m:=4) (by lia)
  obtain⟨x,O,P⟩:∃x:fA,fG (aA (.t [.str "like",.str "against",.str "aside",.str "any"])) (.int v)=aA (.s x)/\(x="like"\/x="against"\/x="aside"\/x="any"):=by
   rcases(by lia:v=0\/v=1\/v=2\/v=3) with rfl | rfl | rfl | rfl<;>exact⟨_,rfl,by simp⟩
  refine⟨H,_, ?_,.never a b x g.1 g.2 t.1 t.2 P⟩;clear f y g t B P c u
  walk_at "!"
def ib(a b:Int):∃q,fG (aA (.l [.int a,.int b])) (.int (if g=bA then 1 else 0))=aA (.i q)/\(q=a\/q=b):=by
 cases g
 ·exact⟨a,rfl,.inl rfl⟩
 ·exact⟨b,rfl,.inr rfl⟩
structure rH(no ba oc:Int)(fs:List (Int×Int×Bool)):Prop where
 n1:1<=no
 n2:no<=7
 b1:1<=ba
 b2:ba<=4
 o1:1<=oc
 o2:oc<=12
 l1:1<=fs.length
 l2:fs.length<=3
 f:∀f∈fs,0<=f.1/\f.1<=4/\-12<=f.2.1/\f.2.1<=12
def cu{W n:Nat}{k s:Int}:∃s' no ba oc fs rs,run T W (n+3) "s" [.p (.l [.int k,.int s])]=some (.ok (.sh (.t [.int no,.int ba,.int oc,.t (fs.map toD),.t rs])),[.p (.l [.int k,.int s'])])/\rH no ba oc fs/\rs.length<=8/\∀d∈rs,RG no ba oc (fs.length:Int) d:=by
 rw[WZ (fn:=fM) rfl rfl rfl];have c:=@JP W (n+1) k;obtain⟨g0,s1,_,d0⟩:=c (s:=s) (m:=2) (by lia);obtain⟨g,hg⟩:∃g,decide (g0=0)=g:=⟨_,rfl⟩
 obtain⟨q1,e1,h1⟩:=ib (g:=g) 4 7;obtain⟨v1,s2,w1,d1⟩:=c (s:=s1) (m:=q1) (by lia);obtain⟨q2,e2,h2⟩:=ib (g:=g) 2 4;obtain⟨Q,s3,w2,d2⟩:=c (s:=s2) (m:=q2) (by lia);obtain⟨R,s4,w3,d3⟩:=c (s:=s3) (m:=12) (by lia);obtain⟨q4,e4,h4⟩:=ib (g:=g) 2 3;obtain⟨v4,Y,w4,d4⟩:=c (s:=s4) (m:=q4) (by lia)
 have hA:KA T.cA (run T W (n+2)) W (fM.body.take 6) ([.p (.l [.int k,.int s])]++AB fM.nl .un)=aA (.nx,[.p (.l [.int k,.int Y]),.b g,.i (1+v1),.i (1+Q),.i (1+R),.i (1+v4),.o (.l []),.un,.un,.un]):=by
  unfold fM;clear h1 h2 h4 w1 w2 w3 w4 c
  walk_at "!"
 rw[QP hA];clear hA d0 d1 d2 d3 d4 hg e1 e2 e4;have y:1<=1+v1/\1+v1<=7:=by lia
 have A:1<=1+Q/\1+Q<=4:=by lia
 have B:1<=1+R/\1+R<=12:=by lia
 have X:1<=1+v4/\1+v4<=3:=by lia
 clear h1 h2 h4 w1 w2 w3 w4
 generalize 1+v1=no at *
 generalize 1+Q=ba at *
 generalize 1+R=oc at *
 generalize 1+v4=ma at *
 have H:aAb .gC [.slot 5] [.p (.l [.int k,.int Y]),.b g,.i no,.i ba,.i oc,.i ma,.o (.l []),.un,.un,.un]=aA (rg ma.toNat,eA):=UK rfl (by lia) (by lia)
 obtain⟨U1,Z,I,fs,l,x,rfl,C,h8,r,F⟩:=ZK (bind:=wB bA [7]) (body:=KA T.cA (run T W (n+2)) W nW)
  (λpre U=>∃I fs l x,U=[.p (.l [.int k,.int I]),.b g,.i no,.i ba,.i oc,.i ma,.o (.l (fs.map toD)),l,x,.un]/\iB l=bA/\iB x=bA/\fs.length=pre.length/\∀f∈fs,0<=f.1/\f.1<=4/\-12<=f.2.1/\f.2.1<=12)
  (ds:=rg ma.toNat) (λpre d post i U hU=>by
   obtain⟨I,fs,l,x,rfl,C,h8,r,F⟩:=hU
   have j:pre.length<ma.toNat:=by
    have:=congrArg EH i
    simp at this
    lia
   refine⟨_,by simp only[ZC,nC C]<;>rfl, ?_⟩;have cQ:jB ((fs.map toD).length+1)=bA:=VB (by simp;lia);obtain⟨q,e,hq⟩:=ib (g:=g) 2 5;obtain⟨a,u1,ha,c1⟩:=c (s:=I) (m:=q) (by lia);obtain⟨b,u2,hb,c2⟩:=c (s:=u1) (m:=25) (by lia);obtain⟨t,u3,_,c3⟩:=c (s:=u2) (m:=4) (by lia);refine⟨[.p (.l [.int k,.int u3]),.b g,.i no,.i ba,.i oc,.i ma,.o (.l ((fs++[(a,b-12,decide (t=0))]).map toD)),.sh d,.i a,.un], ?_,_,_,_,_,rfl,rfl,rfl,by simp[r],λf J=>?_⟩
   ·unfold nW;clear F i j r H y A B X c hq ha hb
    walk_at "!"
    simp only[vD,MB,cN,toD]
   ·rcases SD.mp J with J | J
    ·exact F f J
    ·rw[RD.mp J]
     refine⟨ha.1, ?_, ?_, ?_⟩<;>simp only<;>lia)
  (U:=[.p (.l [.int k,.int Y]),.b g,.i no,.i ba,.i oc,.i ma,.o (.l []),.un,.un,.un]) ⟨_,[],_,_,rfl,rfl,rfl,rfl,λf h=>nomatch h⟩
 have r:fs.length=ma.toNat:=by rw[r];simp
 obtain⟨v,s7,hv,d5⟩:=c (s:=I) (m:=9) (by lia);have qY:∀U,aAb .gC [.val (.i v)] U=aA (rg v.toNat,eA):=λU=>UK rfl (by lia) (by lia)
 obtain⟨U2,el2,K,rs,t7',rfl,xt,M,N⟩:=ZK (bind:=wB bA [7]) (body:=KA T.cA (run T W (n+2)) W oW)
  (λpre U=>∃K rs l,U=[.p (.l [.int k,.int K]),.b g,.i no,.i ba,.i oc,.i ma,.o (.l (fs.map toD)),l,x,.o (.l rs)]/\iB l=bA/\rs.length=pre.length/\∀d∈rs,RG no ba oc ma d)
  (ds:=rg v.toNat) (λpre d post i U hU=>by
   obtain⟨K,rs,l,rfl,C,r,N⟩:=hU
   have j:pre.length<v.toNat:=by
    have:=congrArg EH i
    simp at this
    lia
   refine⟨_,by simp only[ZC,nC C]<;>rfl, ?_⟩;have cQ:jB (rs.length+1)=bA:=VB (by lia);obtain⟨s9,dr,er,O⟩:=iGa (W:=W) (n:=n) (k:=k) (s0:=K) ⟨⟨y,A⟩,B,X⟩;refine⟨[.p (.l [.int k,.int s9]),.b g,.i no,.i ba,.i oc,.i ma,.o (.l (fs.map toD)),.sh d,x,.o (.l (rs++[dr]))], ?_,_,_,_,rfl,rfl,by simp[r],λd hd=>(SD.mp hd).elim (N d) λq=>by rw[RD.mp q];exact O⟩;unfold oW;clear N O F i j r H Z qY hv d5 y A B X c
   walk_at "!")
  (U:=[.p (.l [.int k,.int s7]),.b g,.i no,.i ba,.i oc,.i ma,.o (.l (fs.map toD)),l,x,.o (.l [])]) ⟨_,[],_,rfl,C,rfl,λ_ z=>nomatch z⟩
 have u:rs.length<=8:=by rw[M];simp;lia
 have P:(fs.length:Int)=ma:=by lia
 refine⟨K,no,ba,oc,fs,rs, ?_,⟨y.1,y.2,A.1,A.2,B.1,B.2,by lia,by lia,F⟩,u,by rw[P];exact N⟩;clear F y A B X r M hv N u P c C h8 xt;unfold fM
 walk_at "!"
def EZ:run T W (n+1) "w" [.sh (.t [.int c,.int a,.bl turned]),.i b]=some (.ok (.i (if turned then a-b else a+b)),[.sh (.t [.int c,.int a,.bl turned]),.i b]):=by
 exists WX
 cases turned<;>walk_at "!"
def LC(a:List Int)(b:Int)(f:Int×Int×Bool):D :=
 if 0<=b-f.1/\b-f.1<a.length then .int (if f.2.2=bA then f.2.1-a.getD (b-f.1).toNat 0 else f.2.1+a.getD (b-f.1).toNat 0) else .lA
abbrev cD(fs:List (Int×Int×Bool)):List (Int×Int×Bool):=(0,0,dA)::fs
def ZT{v:Nat}(h:(cD fs)[v]?=aA f) :
  run T W (n+1) "x" [.sh (HA no ba oc fs rs),.i v]=some (.ok (.sh (toD f)),[.sh (HA no ba oc fs rs),.i v]):=by
 exists YX
 cases v with
 |zero =>
  simp only[nH,XB] at h;subst h;have e:decide (((0:Nat):Int)=0)=bA:=rfl
  walk_at "!"
  all_goals (try simp only[e])
  all_goals (try walk_at "!")
  all_goals rfl
 |succ v =>
  have h:fs[v]?=aA f:=by simpa using h
  have e:decide (((v+1:Nat):Int)=0)=dA:=cB (by lia);have e2:((v+1:Nat):Int)-1=(v:Int):=by lia
  have a:L2.lC (fs.map toD) (v:Int)=aA (toD f):=L2.YL (by rw[jD,h];rfl);unfold HA
  walk_at "!"
def L5{a:List Int}{i:Int}(b:0<=i)(c:i<a.length):L2.lC (a.map D.int) i=aA (.int (a.getD i.toNat 0)):=by
 have:=XR (ns:=a) (k:=i.toNat) (by lia)
 have e:((i.toNat:Nat):Int)=i:=by lia
 rwa[e] at this
def Q0{W n:Nat}{no ba oc:Int}{fs:List (Int×Int×Bool)}{rs:List D}{xs:List Int}{v:Nat}{b:Int}{p:Bool}{f:Int×Int×Bool}(h:(cD fs)[v]?=aA f) :
  run T W (n+2) "i" [.sh (HA no ba oc fs rs),.p (.l (xs.map D.int)),.i v,.i b]=some (.ok (.sh (LC xs b f)),[.sh (HA no ba oc fs rs),.p (.l (xs.map D.int)),.i v,.i b]):=by
 exists eY
 have m:=ZT (W:=W) (n:=n) (no:=no) (ba:=ba) (oc:=oc) (rs:=rs) h;obtain⟨a,d,turned⟩:=f;simp only[toD] at m;by_cases c:0<=b-a/\b-a<xs.length
 ·have e1:=L5 c.1 c.2;have ev:LC xs b (a,d,turned)=.int (if turned=bA then d-xs.getD (b-a).toNat 0 else d+xs.getD (b-a).toNat 0):=MA c;obtain⟨k,l⟩:=c;clear h
  walk_at "!ZT EZ vA"
 ·have ev:LC xs b (a,d,turned)=.lA:=JA c;by_cases k:0<=b-a
  ·have l:¬b-a<xs.length:=λz=>c ⟨k,z⟩
   have o:decide (b-a<(xs.length:Int))=dA:=cB l;clear h c l
   walk_at "!ZT EZ vA"
  ·have q:decide (0<=b-a)=dA:=cB k;clear h c k
   walk_at "!ZT EZ vA"
def lO:LC xs b f=.lA\/∃i,LC xs b f=.int i:=by
 unfold LC;split
 ·exact .inr ⟨_,rfl⟩
 ·exact .inl rfl
def LJ(R:fs.length<=1000) :
  run T W (n+1) "d" [.sh (HA no ba oc fs rs),.p (.l (xs.map D.int)),.i b]=some (.ok (.ow (.l ((cD fs).map (LC xs b)))),[.sh (HA no ba oc fs rs),.p (.l (xs.map D.int)),.i b]):=by
 exists wX
 have I:jB (([]:List D).length+1+(fs.map toD).length)=bA:=VB (by simp;lia);have A:jB (0+1+fs.length)=bA:=VB (by lia)
 have key:=ZK (bind:=wB dA [4,5,6]) (body:=KA T.cA (run T W n) W mW)
  (λpre U=>∃(k:List (Int×Int×Bool)) (s t u m:Sl),pre=k.map toD/\U=[.sh (HA no ba oc fs rs),.p (.l (xs.map D.int)),.i b,.o (.l (k.map (LC xs b))),s,t,u,m]/\iB s=bA/\iB t=bA/\iB u=bA/\iB m=bA)
  (ds:=(cD fs).map toD) (λpre d post q U J=>by
   obtain⟨k,s,t,u,m,rfl,rfl,K,M,N,X⟩:=J;have r:d∈(cD fs).map toD:=by rw[q];simp
   obtain⟨f,_,rfl⟩:=qF.mp r
   have B:k.length<=1000:=by
    have:=congrArg EH q
    simp at this
    lia
   obtain⟨i,j,turned⟩:=f;have C:jB ((k.map (LC xs b)).length+1)=bA:=VB (by simp;lia);have F:jB (k.length+1)=bA:=VB (by lia);refine⟨[.sh (HA no ba oc fs rs),.p (.l (xs.map D.int)),.i b,.o (.l (k.map (LC xs b))),.i i,.i j,.b turned,m], ?_, ?_⟩
   ·unfold toD;simp only[ZC,nC K,nC M,nC N]
   ·refine⟨[.sh (HA no ba oc fs rs),.p (.l (xs.map D.int)),.i b,.o (.l ((k++[(i,j,turned)]).map (LC xs b))),.i i,.i j,.b turned,.sh (LC xs b (i,j,turned))], ?_,k++[(i,j,turned)],_,_,_,_,by simp,rfl,rfl,rfl,rfl,rfl⟩;unfold mW;rw[vD,MB,cN];by_cases c:0<=b-i/\b-i<xs.length
    ·have e1:=L5 c.1 c.2;have ev:LC xs b (i,j,turned)=.int (if turned=bA then j-xs.getD (b-i).toNat 0 else j+xs.getD (b-i).toNat 0):=MA c;rw[ev];obtain⟨v,H⟩:=c;cases turned
     ·walk_at "!vA"
     ·walk_at "!vA"
    ·have ev:LC xs b (i,j,turned)=.lA:=JA c;rw[ev];by_cases v:0<=b-i
     ·have H:¬b-i<xs.length:=λz=>c ⟨v,z⟩
      have O:decide (b-i<(xs.length:Int))=dA:=cB H
      walk_at "!vA"
     ·have P:decide (0<=b-i)=dA:=cB v
      walk_at "!vA")
  (U:=[.sh (HA no ba oc fs rs),.p (.l (xs.map D.int)),.i b,.o (.l []),.un,.un,.un,.un]) ⟨[],_,_,_,_,rfl,rfl,rfl,rfl,rfl,rfl⟩
 obtain⟨Y,e,k,s,t,u,m,Q,rfl,_⟩:=key
 have inj:∀{f g:Int×Int×Bool},toD f=toD g->f=g:=λ{f g} h=>by(obtain⟨a,b,c⟩:=f;obtain⟨Z,b',c'⟩:=g;simp only[toD,D.t.injEq,ri,D.int.injEq,D.bl.injEq,and_true] at h;obtain⟨rfl,rfl,rfl⟩:=h;rfl)
 have x:k=cD fs:=((List.map_inj_right (λa b h=>inj h)).mp Q).symm;subst x;have y:aAb .of [.val (.sh (.t ((cD fs).map toD)))] [.sh (HA no ba oc fs rs),.p (.l (xs.map D.int)),.i b,.o (.l []),.un,.un,.un,.un]=aA ((cD fs).map toD,eA):=lQ rfl;have hh:HA no ba oc fs rs=.t [.int no,.int ba,.int oc,.t (fs.map toD),.t rs]:=rfl;rw[hh] at e y ⊢;rw[MB] at e y;simp only[MB,toD] at e y ⊢
 walk_at "!vA"
def lS{bind:D->Env->Option Env}(a:Nat->Bool)(val:Nat->D)(J:Env->Prop)
  (step:∀(j:Nat) (d:D),ds[j]?=aA d->∀U,J U->∃g c,bind d U=aA g/\tests g=some (.ok (.b (a j)),c)/\(a j=bA->∃v h,uC c=some (.ok v,h)/\v.d=val j/\J h)/\(a j=dA->J c)) :
  ∀U,J U->∃i,dF tests uC bind ds [] U=some (.ok (((qC ds.length).filter a).map val),i)/\J i:=by
 intro U l
 obtain⟨b,i,e,⟨rfl,k⟩,_⟩:=EJ (λj b U=>b=((qC j).filter a).map val/\J U)
  (λj d hd b U m=>by
   obtain⟨n,k⟩:=m;subst n;obtain⟨g,c,o,p,q,r⟩:=step j d hd U k;refine⟨g,a j,c,o,p,λf=>?_,λf=>?_⟩
   ·obtain⟨v,h,s,t,u⟩:=q f;refine⟨v,h,s, ?_,u⟩;rw[uR,SU,vD,t];simp[f]
   ·refine⟨?_,r f⟩;rw[uR,SU,vD]
    simp[f]) [] U ⟨rfl,l⟩
 exact⟨i,e,k⟩
def iS{xs:List Int}{b:Int}(r:fs.length<=1000) :
  run T W (n+3) "b" [.sh (HA no ba oc fs rs),.p (.l (xs.map D.int)),.i b]=some (.ok (.ow (.l ((cD fs).map (LC xs b)))),[.sh (HA no ba oc fs rs),.p (.l (xs.map D.int)),.i b]):=by
 exists QX
 have l:aAb .gC [.val (.i ((fs.length:Int)+1))] [.sh (HA no ba oc fs rs),.p (.l (xs.map D.int)),.i b]=aA (rg (fs.length+1),eA):=by(refine yK (UK (n:=(fs.length:Int)+1) rfl (by lia) (by lia)) ?_;rw[show((fs.length:Int)+1).toNat=fs.length+1 from by lia])
 obtain⟨c,v,e,⟨h,rfl,a,rfl⟩,s⟩:=EJ (tests:=KC T.cA (run T W (n+2)) []) (uC:=ev T.cA (run T W (n+2)) dA SW) (bind:=wB bA [4]) (ds:=rg (fs.length+1))
  (λj c U=>∃(h:Sl),U=[.i b,.sh (HA no ba oc fs rs),.p (.l (xs.map D.int)),.un,h]/\iB h=bA/\c=((cD fs).take j).map (LC xs b))
  (λj d hd c U t=>by
   obtain⟨h,rfl,a,rfl⟩:=t
   have m:j<fs.length+1:=by
    have:=(BD.mp hd).1
    simpa using this
   have i:d=.int j:=by(rw[jD,yL m] at hd;exact(kD hd).symm)
   subst i;obtain⟨f,k⟩:∃f,(cD fs)[j]?=aA f:=⟨_,pC (by simp;lia)⟩
   have x:=Q0 (W:=W) (n:=n) (no:=no) (ba:=ba) (oc:=oc) (rs:=rs) (xs:=xs) (b:=b) (p:=bA) k;refine⟨_,bA,_,by simp only[ZC,nC a]<;>rfl,TK,λ_=>?_,λz=>nomatch z⟩;refine⟨.sh (LC xs b f),[.i b,.sh (HA no ba oc fs rs),.p (.l (xs.map D.int)),.un,.i j], ?_,_,rfl,rfl, ?_⟩
   ·unfold SW;clear hd m k l a
    walk_at "!vA"
   ·rw[YM,k,vD]
    rfl)
  [] [.i b,.sh (HA no ba oc fs rs),.p (.l (xs.map D.int)),.un,.un] ⟨_,rfl,rfl,rfl⟩
 have o:(cD fs).take ((rg (fs.length+1)).length)=cD fs:=by(rw[AK];simp)
 rw[o] at e;have u:jB ((cD fs).map (LC xs b)).length=bA:=VB (by simp;lia);have q:jB (fs.length+1)=bA:=VB (by lia);clear s a o r
 walk_at "!vA"
 rw[aH l]
 walk_at "!vA"
noncomputable def AH(lo a:Int):D->Bool
 |.int i=>!(decide (lo<=i)&&decide (i<=a))
 |_=>dA
def AM(n:Nat)(a:Nat->Bool):List (List Int):=((qC n).filter a).map λ(j:Nat)=>[(j:Int)]
def wZ(a:n<=1000):(AM n sel).length<=1000:=by
 unfold AM;rw[vA]
 have:=KU sel (qC n)
 simp at this
 lia
def Ua:((qC n).filter a).map (λ(j:Nat)=>D.t [.int j])=NA (AM n a):=by
 unfold NA AM;rw[wK];rfl
def oFa(hd:d=.lA\/∃i,d=.int i):run T W (n+1) "Q" [.sh (.ins "Range" ["low","high"] [.int lo,.int hi]),.sh d]=some (.ok (.b (AH lo hi d)),[.sh (.ins "Range" ["low","high"] [.int lo,.int hi]),.sh d]):=by
 exists JX
 rcases hd with rfl | ⟨i,rfl⟩
 ·have e:AH lo hi .lA=dA:=rfl
  walk_at "!mX lX"
 ·have e:AH lo hi (.int i)=!(decide (lo<=i)&&decide (i<=hi)):=rfl;by_cases c:lo<=i
  ·have f:decide (lo<=i)=bA:=vB c;rw[e,f,mJ]
   walk_at "!mX lX"
  ·have f:decide (lo<=i)=dA:=cB c;rw[e,f,FL]
   walk_at "!mX lX"
def ZA(fs:List (Int×Int×Bool))(a:List Int)(b:Int):List D:=(cD fs).map (LC a b)
def Q7{j:Nat}(h:(ZA fs a b)[j]?=aA d):d=.lA\/∃i,d=.int i:=by
 unfold ZA at h;rw[jD] at h
 cases q:(cD fs)[j]? with
 |none=>rw[q] at h;cases h
 |some f =>
  rw[q] at h;cases h;exact lO
def XH:(ZA fs xs b).length=fs.length+1:=by unfold ZA;simp
def nY{v:Nat}(h:(cD fs)[v]?=aA f):(ZA fs a b)[v]?=aA (LC a b f):=by
 unfold ZA;rw[jD,h];rfl
def bQ{v:Nat}(h:(cD fs)[v]?=aA f):(ZA fs a b).getD v .lA=LC a b f:=by
 rw[zK,nY h];rfl
def nv(h:v.d=.l a):aAb (.enum 0) [.val v] U=aA (yG 0 a,eA):=by(unfold aAb;simp only[h])
def YJ(lo a:Int)(fs:List (Int×Int×Bool))(c:List Int)(b:Int):List (List Int):=AM (fs.length+1) λj=>AH lo a ((ZA fs c b).getD j .lA)
def nFa(s:fs.length<=900) :
  run T W (n+4) "P" [.sh (.ins "Range" ["low","high"] [.int lo,.int hi]),.sh (HA no ba oc fs rs),.p (.l (xs.map D.int)),.i b]=some (.ok (.ow (.l (NA (YJ lo hi fs xs b)))),[.sh (.ins "Range" ["low","high"] [.int lo,.int hi]),.sh (HA no ba oc fs rs),.p (.l (xs.map D.int)),.i b]):=by
 exists HX
 have t:run T W (n+3) "b" _=some (.ok (.ow (.l (ZA fs xs b))),_):=iS (no:=no) (ba:=ba) (oc:=oc) (fs:=fs) (rs:=rs) (xs:=xs) (b:=b) (by lia);have k:aAb (.enum 0) [.val (.ow (.l (ZA fs xs b)))] [.sh (.ins "Range" ["low","high"] [.int lo,.int hi]),.sh (HA no ba oc fs rs),.p (.l (xs.map D.int)),.i b]=aA (yG 0 (ZA fs xs b),eA):=nv rfl
 obtain⟨u,e,g,h,rfl,c,f⟩:=lS (tests:=KC T.cA (run T W (n+3)) [.ZH 0 "forbids" nL [.v 3]]) (uC:=ev T.cA (run T W (n+3)) dA QW) (bind:=wB dA [2,3]) (ds:=yG 0 (ZA fs xs b))
  (λj=>AH lo hi ((ZA fs xs b).getD j .lA)) (λ(j:Nat)=>.t [.int j])
  (λU=>∃(g h:Sl),U=[.sh (.ins "Range" ["low","high"] [.int lo,.int hi]),.un,g,h]/\iB g=bA/\iB h=bA)
  (λj d hd U m=>by
   obtain⟨g,h,rfl,c,f⟩:=m
   have o:j<(ZA fs xs b).length:=by
    have:=(BD.mp hd).1
    rwa[AN] at this
   have i:=pC o;rw[bX i,Int.zero_add] at hd;cases hd;generalize (ZA fs xs b)[j]=x at i;have l:(ZA fs xs b).getD j .lA=x:=by rw[zK,i];rfl
   have hk:=Q7 i;have v:=oFa (W:=W) (n:=n+2) (lo:=lo) (hi:=hi) hk;refine⟨_,[.sh (.ins "Range" ["low","high"] [.int lo,.int hi]),.un,.i j,.sh x],by simp only[ZC,nC c,nC f]<;>rfl, ?_,λ_=>?_,λ_=>?_⟩
   ·simp only[l]
    walk_at "!uT"
   ·refine⟨.sh (.t [.int j]),[.sh (.ins "Range" ["low","high"] [.int lo,.int hi]),.un,.i j,.sh x], ?_,rfl,_,_,rfl,rfl,rfl⟩;unfold QW
    walk_at "!uT"
   ·exact⟨_,_,rfl,rfl,rfl⟩)
  [.sh (.ins "Range" ["low","high"] [.int lo,.int hi]),.un,.un,.un] ⟨_,_,rfl,rfl,rfl⟩
 rw[AN,XH,Ua] at e;have q:AM (fs.length+1) (λj=>AH lo hi ((ZA fs xs b).getD j .lA))=YJ lo hi fs xs b:=rfl;rw[q] at e
 have r:jB (NA (YJ lo hi fs xs b)).length=bA:=VB (by
  have:=wZ (n:=fs.length+1) (sel:=λj=>AH lo hi ((ZA fs xs b).getD j .lA)) (by lia)
  unfold NA YJ;simp only[vA]
  lia)
 walk_at "!uT"
 rw[aH k]
 walk_at "!uT"
noncomputable def ZD(m v:Nat)(P:Nat->Nat->Bool):List (List Int):=((qC m).filter λj=>P v (v+1+j)).map λ(j:Nat)=>[(v:Int),((v+1+j:Nat):Int)]
def YD(n:Nat)(P:Nat->Nat->Bool):List (List Int):=(qC n).flatMap λv=>ZD (n-(v+1)) v P
def yFa:ZD (m+1) v P=ZD m v P++(if P v (v+1+m)=bA then [[(v:Int),((v+1+m:Nat):Int)]] else []):=by
 unfold ZD;rw[uR,SU,vD];congr 1;by_cases h:P v (v+1+m)=bA
 ·simp[h]
 ·simp[h]
def Nc:(ZD m v P).length<=m:=by
 unfold ZD;rw[vA]
 have:=KU (λj=>P v (v+1+j)) (qC m)
 simpa using this
def rb:(qC (m+1)).flatMap (λv=>ZD (n-(v+1)) v P)=(qC m).flatMap (λv=>ZD (n-(v+1)) v P)++ZD (n-(m+1)) m P:=by
 rw[uR,List.flatMap_append];simp
theorem S1:∀(m:Nat),((qC m).flatMap (λv=>ZD (n-(v+1)) v P)).length<=m*n
 | 0=>by simp
 |m+1=>by(rw[rb,NC];have a:=S1 (n:=n) (P:=P) m;have b:=Nc (m:=n-(m+1)) (v:=m) (P:=P);rw[Nat.succ_mul];omega)
def MT(a:n<=30):(YD n P).length<=1000:=by
 have b:=S1 (n:=n) (P:=P) n;have c:n*n<=30*30:=Ii a a;unfold YD
 lia
def qU:NA (a++b)=NA a++NA b:=by unfold NA;rw[vD]
def gI:(NA a).length=a.length:=by unfold NA;rw[vA]
def UZ(E:List D->Sl->Sl->Env)(P:Nat->Nat->Bool)(n v:Nat)(b:List (List Int))(q:b.length<=10000)(r:n<=1000)
  (k:∀(a:List D) (t:Sl) (d:D),iB t=bA->wB bA [iw] d (E a (.i v) t)=aA (E a (.i v) (.sh d)))
  (l:∀(a:List (List Int)) (w:Nat),v<w->w<n->a.length<=20000->body (E (NA a) (.i v) (.i w))=aA (.nx,E (NA (a++(if P v w=bA then [[(v:Int),(w:Int)]] else []))) (.i v) (.i w))) (t:Sl) (o:iB t=bA) :
  ∃c,gD (wB bA [iw]) body ((qC (n-(v+1))).map λ(j:Nat)=>.int ((v:Int)+1+(j:Int))) (E (NA b) (.i v) t)=aA (.nx,E (NA (b++ZD (n-(v+1)) v P)) (.i v) c)/\iB c=bA:=by
 obtain⟨s,e,c,rfl,f⟩:=ZK (bind:=wB bA [iw]) (λpre U=>∃c,U=E (NA (b++ZD pre.length v P)) (.i v) c/\iB c=bA)
  (ds:=(qC (n-(v+1))).map λ(j:Nat)=>.int ((v:Int)+1+(j:Int))) (λpre d post g U p=>by
   obtain⟨c,rfl,f⟩:=p
   have h:pre.length<n-(v+1):=by
    have:=congrArg EH g
    simp at this;omega
   have hd:d=.int (((v+1+pre.length:Nat)):Int):=by
    have i:((qC (n-(v+1))).map λ(j:Nat)=>D.int ((v:Int)+1+(j:Int)))[pre.length]?=aA d:=by rw[g];simp
    rw[jD,yL h] at i;simp only[WE,XB] at i;rw[<- i];congr 1
   subst hd;refine⟨_,k _ _ _ f,_,l _ (v+1+pre.length) (by omega) (by omega) ?_,.i ((v+1+pre.length:Nat):Int), ?_,rfl⟩
   ·have:=Nc (m:=pre.length) (v:=v) (P:=P)
    rw[NC];omega
   ·rw[NC,YB,pH,yFa,rG])
  (U:=E (NA b) (.i v) t) ⟨t,by simp[ZD],o⟩
 refine⟨c, ?_,f⟩;rw[e];simp
def AZ(E:List D->Sl->Sl->Env)(P:Nat->Nat->Bool)(n:Nat)(o:n<=30)
  (p:∀(a:List D) (t h:Sl) (d:D),iB t=bA->wB bA [iv] d (E a t h)=aA (E a (.sh d) h))
  (q:∀(i:List (List Int)) (v:Nat) (t:Sl),v<n->i.length<=10000->iB t=bA->∃c,body (E (NA i) (.i v) t)=aA (.nx,E (NA (i++ZD (n-(v+1)) v P)) (.i v) c)/\iB c=bA) (t h:Sl) (r:iB t=bA) (m:iB h=bA) :
  ∃c b,gD (wB bA [iv]) body (rg n) (E [] t h)=aA (.nx,E (NA (YD n P)) c b)/\iB c=bA/\iB b=bA:=by
 obtain⟨x,e,c,b,rfl,j,f⟩:=ZK (bind:=wB bA [iv]) (λpre U=>∃c b,U=E (NA ((qC pre.length).flatMap λv=>ZD (n-(v+1)) v P)) c b/\iB c=bA/\iB b=bA)
  (ds:=rg n) (λpre d post k U s=>by
   obtain⟨c,b,rfl,j,f⟩:=s
   have g:pre.length<n:=by
    have:=congrArg EH k
    simp at this
    lia
   have hd:d=.int ((pre.length:Nat):Int):=by
    have l:(rg n)[pre.length]?=aA d:=by rw[k];simp
    rw[jD,yL g] at l;simp only[WE,XB] at l;exact l.symm
   subst hd
   obtain⟨y,u,w⟩:=q ((qC pre.length).flatMap λv=>ZD (n-(v+1)) v P) pre.length b g (by
    have l:=S1 (n:=n) (P:=P) pre.length;have z:pre.length*n<=30*30:=Ii (by lia) o
    lia) f
   refine⟨_,p _ _ _ _ j,_,u,.i ((pre.length:Nat):Int),_, ?_,rfl,w⟩
   rw[NC,YB,pH,rb])
  (U:=E [] t h) ⟨t,h,by simp[NA],r,m⟩
 refine⟨c,b, ?_,j,f⟩;rw[e];unfold YD;simp
noncomputable def uE:D->Bool
 |.lA=>bA
 |_=>dA
def aD(a:List D)(v w:Nat):Bool:=!uE (a.getD v .lA) && !uE (a.getD w .lA)
def lN(a:List D):Prop:=∀d∈a,d=.lA\/∃i,d=.int i
def US:lN (ZA fs xs b):=λd hd=>by
 obtain⟨f,_,rfl⟩:=qF.mp hd;exact lO
def BG(h:lN a)(b:v<a.length):∃d,L2.lC a (v:Int)=aA d/\a.getD v .lA=d/\(d=.lA\/∃i,d=.int i):=by
 refine⟨a[v],L2.YL (pC b), ?_,h _ (mi b)⟩;rw[zK,pC b];rfl
def ed(hh:lN b)(q:b.length<=30) :
  run T W (n+1) "l" [.p (.l b)]=some (.ok (.ow (.l (NA (YD b.length (aD b))))),[.p (.l b)]):=by
 exists ZX
 have M:aAb .gC [.val (.i b.length)] [.p (.l b),.o (.l []),.un,.un]=aA (rg b.length,eA):=by(refine yK (UK (n:=(b.length:Int)) rfl (by lia) (by lia)) ?_;rw[HH])
 obtain⟨N,r,e,s,k⟩:=AZ (iv:=2) (body:=KA T.cA (run T W n) W uW) (λa t h=>[.p (.l b),.o (.l a),t,h]) (aD b) b.length q
  (λa t h d f=>by simp only[ZC,nC f])
  (λg v t u i f=>by
   have x:aAb .gC [.val (.i ((v:Int)+1)),.val (.i b.length)] [.p (.l b),.o (.l (NA g)),.i v,t]=aA ((qC (b.length-(v+1))).map λ(j:Nat)=>.int ((v:Int)+1+(j:Int)),eA):=by(refine yK (LY (m:=(v:Int)+1) (n:=(b.length:Int)) rfl rfl (by lia) (by lia)) ?_;rw[show((b.length:Int)-((v:Int)+1)).toNat=b.length-(v+1) from by lia])
   obtain⟨y,O,z⟩:=UZ (iw:=3) (body:=KA T.cA (run T W n) W tW) (λa t h=>[.p (.l b),.o (.l a),t,h]) (aD b) b.length v g i (by lia)
    (λa t d f=>by simp only[ZC,nC f])
    (λa w A B C=>by
     obtain⟨P,Q,g1,F⟩:=BG hh u;obtain⟨R,U,g2,H⟩:=BG hh B;have I:jB ((NA a).length+1)=bA:=VB (by rw[gI];lia);unfold tW aD;rw[g1,g2];rcases F with rfl | ⟨J,rfl⟩
     ·have e:uE .lA=bA:=rfl
      walk_at "!vA"
      all_goals (try simp only[DD])
     ·have e1:uE (.int J)=dA:=rfl;rcases H with rfl | ⟨K,rfl⟩
      ·have e:uE .lA=bA:=rfl
       walk_at "!vA"
       all_goals (try simp only[DD])
      ·have e:uE (.int K)=dA:=rfl;have X:NA (a++[[(v:Int),(w:Int)]])=NA a++[.t [.int v,.int w]]:=by rw[qU];rfl
       walk_at "!vA") t f
   refine⟨y, ?_,z⟩;unfold uW
   walk_at "!vA") .un .un rfl rfl
 walk_at "!vA"
noncomputable def bC(i:Int):Int:=if i<0 then -i else i
theorem DC:(if i<0 then -i else i)=bC i:=rfl
noncomputable def gx(a:List Int)(i:Nat):Int:=a.getD i 0
def NH{xs:List Int}(h:k<xs.length):L2.lC (xs.map D.int) (k:Int)=aA (.int (gx xs k)):=XR h
def NS(h:k<xs.length):gx xs k∈xs:=by
 unfold gx;rw[zK,pC h];simp
noncomputable def LD(c:Bool):List (List Int):=if c=bA then [[]] else []
def vZ:(LD c).length<=1000:=by cases c<;>decide
def OZ:UB .Mult (.l [.t []]) (.int (if c=bA then 1 else 0))=aA (.ow (.l (NA (LD c)))):=by
 cases c<;>exact tP (by decide) (by decide) (gF (by decide))
def RI(c:Int)(a:List Int):Nat->Bool
 | 0=>dA
 |b+1=>decide (c<bC (gx a (b+1)-gx a b))
def Vx{b:Nat}(i:b<xs.length) :
  run T W (n+1) "M" [.sh (.ins "Leap" ["most"] [.int a]),.sh h,.p (.l (xs.map D.int)),.i b]=some (.ok (.ow (.l (NA (LD (RI a xs b))))),[.sh (.ins "Leap" ["most"] [.int a]),.sh h,.p (.l (xs.map D.int)),.i b]):=by
 exists FX
 match b,i with
 | 0,i =>
  have e:NA (LD (RI a xs 0))=[]:=rfl;have c:decide (0<((0:Nat):Int))=dA:=rfl
  walk_at "!kX vA DC"
 |b+1,i =>
  have c:decide (0<((b+1:Nat):Int))=bA:=vB (by lia);have j:((b+1:Nat):Int)-1=((b:Nat):Int):=by lia
  have a0:=NH (xs:=xs) (k:=b) (by lia);have l:=NH (xs:=xs) (k:=b+1) (by lia);have ev:RI a xs (b+1)=decide (a<bC (gx xs (b+1)-gx xs b)):=rfl;cases c1:decide (a<bC (gx xs (b+1)-gx xs b))
  ·have e:NA (LD (RI a xs (b+1)))=[]:=by rw[ev,c1];rfl
   clear ev
   walk_at "!kX vA DC"
  ·have e:NA (LD (RI a xs (b+1)))=[.t []]:=by rw[ev,c1];rfl
   clear ev
   walk_at "!kX vA DC"
def fH(m:Nat)(a:List Int)(b:Nat):List Int:=(a.drop (b-m)).take m
def wG(m:Nat)(a:List Int)(b:Nat):Bool:=decide ((m:Int)<=(b:Int))&&(fH m a b).all λz=>decide (z=gx a b)
def R6{xs:List Int}(h:m<=b)(a:b<=e)(c:e<=xs.length):bU (aA (.l (xs.map D.int))) (aA (.int ((b:Int)-(m:Int)))) (aA (.int e))=aA (.ow (.l (((xs.drop (b-m)).take (m+(e-b))).map D.int))):=by
 have e1:(b:Int)-(m:Int)=((b-m:Nat):Int):=by lia
 show aA (RV.ow (.l (aAB (xs.map D.int) (aA ((b:Int)-(m:Int))) (aA (e:Int)))))=_;rw[e1];unfold aAB;rw[HT.YZ,HT.YZ,vA,sR (by lia),sR (by lia),<- A4,<- B4,show e-(b-m)=m+(e-b) from by lia]
def DN{Z:List Int}:FD .all [.l (Z.map λz=>.bl (p z))]=aA (.b (Z.all p)):=by
 have h:SH (Z.map λz=>.bl (p z))=aA (Z.map p):=by
  induction Z with
  |nil=>rfl
  |cons z Z a=>simp[SH,a]
 show(SH _).map _=_;rw[h];simp[Si]
def Hk{m:Nat}{h:D}{xs:List Int}{b:Nat}(v:b<xs.length)(H:m<=3) :
  run T W (n+1) "O" [.sh (.ins "Again" ["most"] [.int m]),.sh h,.p (.l (xs.map D.int)),.i b]=some (.ok (.ow (.l (NA (LD (wG m xs b))))),[.sh (.ins "Again" ["most"] [.int m]),.sh h,.p (.l (xs.map D.int)),.i b]):=by
 exists pX
 by_cases c:(b:Int)<(m:Int)
 ·have x:decide ((b:Int)<(m:Int))=bA:=vB c
  have e:NA (LD (wG m xs b))=[]:=by(unfold wG;rw[cB (by lia)];rfl)
  walk_at "!FN DN vA"
 ·have x:decide ((b:Int)<(m:Int))=dA:=cB c;have r:=R6 (xs:=xs) (m:=m) (b:=b) (e:=b) (by lia) (kB _) (by lia);rw[ZO,qV] at r;have y:((xs.drop (b-m)).take m)=fH m xs b:=rfl;rw[y] at r
  have o:wG m xs b=(fH m xs b).all λz=>decide (z=gx xs b):=by(unfold wG;rw[vB (by lia),mJ])
  have A:(fH m xs b).length<=3:=by unfold fH;rw[iI];lia
  have a0:=NH (k:=b) v
  generalize fH m xs b=Z at *
  have s:aAb .of [.val (.ow (.l (Z.map D.int)))] [.sh (.ins "Again" ["most"] [.int m]),.sh h,.p (.l (xs.map D.int)),.i b]=aA (Z.map D.int,eA):=fT rfl
  obtain⟨i,I,e,⟨q,rfl,l,rfl⟩,t⟩:=EJ (tests:=KC T.cA (run T W n) []) (uC:=ev T.cA (run T W n) dA LW) (bind:=wB bA [3]) (ds:=Z.map D.int)
   (λj i U=>∃(q:Sl),U=[.i b,.p (.l (xs.map D.int)),.un,q]/\iB q=bA/\i=(Z.take j).map λz=>.bl (decide (z=gx xs b)))
   (λj d hd i U B=>by
    obtain⟨q,rfl,l,rfl⟩:=B;obtain⟨z,t,rfl⟩:∃z,Z[j]?=aA z/\D.int z=d:=by simpa using hd
    refine⟨_,bA,_,by simp only[ZC,nC l]<;>rfl,TK,λ_=>?_,λz=>nomatch z⟩;refine⟨.b (decide (z=gx xs b)),[.i b,.p (.l (xs.map D.int)),.un,.i z], ?_,_,rfl,rfl, ?_⟩
    ·unfold LW
     walk_at "!FN DN vA"
    ·rw[YM,t,vD]
     rfl)
   [] [.i b,.p (.l (xs.map D.int)),.un,.un] ⟨_,rfl,rfl,rfl⟩
  have C:Z.take (Z.map D.int).length=Z:=by(rw[AK];simp)
  rw[C] at e;have F:jB (Z.map λz=>D.bl (decide (z=gx xs b))).length=bA:=VB (by simp;lia);have u:jB Z.length=bA:=VB (by lia);cases c1:Z.all λz=>decide (z=gx xs b)
  ·have e2:NA (LD (wG m xs b))=[]:=by rw[o,c1];rfl
   clear o
   walk_at "!FN DN vA"
   rw[aH s]
   walk_at "!FN DN vA"
  ·have e2:NA (LD (wG m xs b))=[.t []]:=by rw[o,c1];rfl
   clear o
   walk_at "!FN DN vA"
   rw[aH s]
   walk_at "!FN DN vA"
def f6{b:Nat}(d:b<xs.length) :
  run T W (n+1) "k" [.sh (.t [.str "leap",.int a]),.p (.l (xs.map D.int)),.i b]=some (.ok (.b (RI a xs b)),[.sh (.t [.str "leap",.int a]),.p (.l (xs.map D.int)),.i b]):=by
 exists ZP
 match b,d with
 | 0,d =>
  have e:RI a xs 0=dA:=rfl;have c:decide (0<((0:Nat):Int))=dA:=rfl
  walk_at "!BB vA DC"
 |b+1,d =>
  have c:decide (0<((b+1:Nat):Int))=bA:=vB (by lia);have i:((b+1:Nat):Int)-1=((b:Nat):Int):=by lia
  have a0:=NH (xs:=xs) (k:=b) (by lia);have j:=NH (xs:=xs) (k:=b+1) (by lia);have ev:RI a xs (b+1)=decide (a<bC (gx xs (b+1)-gx xs b)):=rfl
  walk_at "!BB vA DC"
theorem V6:∀(l b:List Int),b.length<=(l.foldl tJ b).length
 |[],_=>kB _
 |a::l,b=>by
  refine TB ?_ (V6 l _);unfold tJ;split
  ·exact kB _
  ·simp
theorem W6(y:Int):∀l:List Int,decide (((l.foldl tJ [y]).length:Int)=1)=l.all λz=>decide (z=y)
 |[]=>rfl
 |a::l=>by
  by_cases h:a=y
  ·subst h;have e:tJ [a] a=[a]:=by unfold tJ;simp
   rw[VM,e,W6 a l];simp
  ·have e:tJ [y] a=[y,a]:=by
    unfold tJ;rw[JA]
    ·rfl
    ·simp;lia
   have g:=V6 l [y,a];rw[VM,e,cB (by simp only[YB,pH] at g;lia)];simp[h]
theorem aAA:∀l:List Int,WD (l.map D.int)=aA l
 |[]=>rfl
 |a::l=>by simp only[MB,WD,aAA l,WE]
def Yz{l:List Int}(h:l.length<=1000):La (aA (.l (l.map D.int)))=aA (.i ((l.foldl tJ []).length:Int)):=by
 show vQ (.l (l.map D.int))=_;unfold vQ;simp only[aAA,MA h];unfold gh
 have e:(qC l.length).map (λi=>l.getD i 0)=l:=by
  apply List.ext_getElem
  ·simp
  ·intro i b a;simp[a]
 rw[e]
def Io{x:Int}(a:Z≠[]):decide ((((Z++[x]).foldl tJ []).length:Int)=1)=Z.all λz=>decide (z=x):=by
 match Z,a with
 |y::Z,_ =>
  have e:tJ [] y=[y]:=rfl;rw[List.cons_append,VM,e,W6];rw[List.all_append,kC,kC,Ri,m4];by_cases h:x=y
  ·subst h;simp
  ·have b:¬y=x:=λz=>h z.symm
   simp[h,b]
def cKa(h:m<=b)(c:b<a.length):(a.drop (b-m)).take (m+(b+1-b))=fH m a b++[gx a b]:=by
 unfold fH gx;rw[show m+(b+1-b)=m+1 from by lia,YM,FO,show b-m+m=b from by lia,zK,pC c];rfl
def d6{m:Nat}{b:Nat}(a:b<xs.length)(j:1<=m)(o:m<=3) :
  run T W (n+1) "k" [.sh (.t [.str "again",.int m]),.p (.l (xs.map D.int)),.i b]=some (.ok (.b (wG m xs b)),[.sh (.t [.str "again",.int m]),.p (.l (xs.map D.int)),.i b]):=by
 exists ZP
 by_cases c:(m:Int)<=(b:Int)
 ·have d:decide ((m:Int)<=(b:Int))=bA:=vB c
  have ev:wG m xs b=(fH m xs b).all λz=>decide (z=gx xs b):=by(unfold wG;rw[d,mJ])
  have f:(fH m xs b).length=m:=by unfold fH;rw[iI,rK];lia
  have q:=R6 (xs:=xs) (m:=m) (b:=b) (e:=b+1) (by lia) (by lia) (by lia);rw[cKa (by lia) a,show((b+1:Nat):Int)=(b:Int)+1 from by lia] at q;have r:=Yz (l:=fH m xs b++[gx xs b]) (by simp;lia);have hd:=Io (Z:=fH m xs b) (x:=gx xs b) (λz=>by rw[z] at f;simp at f;lia);rw[<- ev] at hd;clear ev f c a j o
  walk_at "!BB vA DC"
 ·have d:decide ((m:Int)<=(b:Int))=dA:=cB c;have e:wG m xs b=dA:=by unfold wG;rw[d];rfl
  clear c a j o
  walk_at "!BB vA DC"
def Am{fs:List (Int×Int×Bool)}{b:Nat}(k:fs.length<=1000)(l:b<a.length) :
  run T W (n+2) "e" [.sh (HA no ba oc fs rs),.sh (.t [.str "leap",.int c]),.p (.l (a.map D.int)),.i b]=some (.ok (.ow (.l (NA (LD (RI c a b))))),[.sh (HA no ba oc fs rs),.sh (.t [.str "leap",.int c]),.p (.l (a.map D.int)),.i b]):=by
 exists IJ
 walk_at "!BB LJ f6 d6 OZ vA"
def xm{W n:Nat}{fs:List (Int×Int×Bool)}{m:Nat}{b:Nat}(j:fs.length<=1000)(k:b<a.length)(l:1<=m)(o:m<=3) :
  run T W (n+2) "e" [.sh (HA no ba oc fs rs),.sh (.t [.str "again",.int m]),.p (.l (a.map D.int)),.i b]=some (.ok (.ow (.l (NA (LD (wG m a b))))),[.sh (HA no ba oc fs rs),.sh (.t [.str "again",.int m]),.p (.l (a.map D.int)),.i b]):=by
 exists IJ
 walk_at "!BB LJ f6 d6 OZ vA"
def eGa:run T W (n+1) "c" [.sh (.t [.str "leap",a])]=some (.ok (.sh (.ins "Leap" ["most"] [a])),[.sh (.t [.str "leap",a])]):=by
 exists JJ
 walk_at "!BB"
def cGa:run T W (n+1) "c" [.sh (.t [.str "again",a])]=some (.ok (.sh (.ins "Again" ["most"] [a])),[.sh (.t [.str "again",a])]):=by
 exists JJ
 walk_at "!BB"
def xG(c d:Int)(a:List Int):Nat->Bool
 | 0=>dA
 | 1=>dA
 |b+2=>decide (c<=bC (gx a (b+1)-gx a b)) && !(decide ((gx a (b+1)-gx a b)*(gx a (b+2)-gx a (b+1))<0)&&decide (bC (gx a (b+2)-gx a (b+1))<=d))
def Bl{b:Nat}(u:b<xs.length)(y:∀x∈xs,0<=x/\x<100) :
  run T W (n+1) "N" [.sh (.ins "Back" ["leap","most"] [.int f,.int g]),.sh h,.p (.l (xs.map D.int)),.i b]=some (.ok (.ow (.l (NA (LD (xG f g xs b))))),[.sh (.ins "Back" ["leap","most"] [.int f,.int g]),.sh h,.p (.l (xs.map D.int)),.i b]):=by
 exists qX
 match b,u with
 | 0,u =>
  have e:NA (LD (xG f g xs 0))=[]:=rfl;have c:decide (((0:Nat):Int)<2)=bA:=rfl
  walk_at "!GN HN vA DC"
 | 1,u =>
  have e:NA (LD (xG f g xs 1))=[]:=rfl;have c:decide (((1:Nat):Int)<2)=bA:=rfl
  walk_at "!GN HN vA DC"
 |b+2,u =>
  have c:decide (((b+2:Nat):Int)<2)=dA:=cB (by lia);have H:((b+2:Nat):Int)-1=((b+1:Nat):Int):=by lia
  have I:((b+2:Nat):Int)-2=((b:Nat):Int):=by lia
  have a0:=NH (xs:=xs) (k:=b) (by lia);have J:=NH (xs:=xs) (k:=b+1) (by lia);have K:=NH (xs:=xs) (k:=b+2) (by lia);have B:=y _ (NS (xs:=xs) (k:=b) (by lia));have C:=y _ (NS (xs:=xs) (k:=b+1) (by lia));have F:=y _ (NS (xs:=xs) (k:=b+2) (by lia));have ev:xG f g xs (b+2)=(decide (f<=bC (gx xs (b+1)-gx xs b)) && !(decide ((gx xs (b+1)-gx xs b)*(gx xs (b+2)-gx xs (b+1))<0)&&decide (bC (gx xs (b+2)-gx xs (b+1))<=g))):=rfl
  generalize gx xs b=o at *
  generalize gx xs (b+1)=d at *
  generalize gx xs (b+2)=s at *
  have M:-18446744073709551616<d-o:=by lia
  have O:d-o<18446744073709551616:=by lia
  clear y u B C F;by_cases t:bC (d-o)<f
  ·have A:decide (bC (d-o)<f)=bA:=vB t;have a:decide (f<=bC (d-o))=dA:=cB (by lia);have e:NA (LD (xG f g xs (b+2)))=[]:=by rw[ev,a];rfl
   clear ev t
   walk_at "!GN HN vA DC"
  ·have A:decide (bC (d-o)<f)=dA:=cB t;have a:decide (f<=bC (d-o))=bA:=vB (by lia);by_cases v:(d-o)*(s-d)<0
   ·have q:decide ((d-o)*(s-d)<0)=bA:=vB v;by_cases z:bC (s-d)<=g
    ·have r:decide (bC (s-d)<=g)=bA:=vB z;have e:NA (LD (xG f g xs (b+2)))=[]:=by rw[ev,a,q,r];rfl
     clear ev t v z
     walk_at "!GN HN vA DC"
    ·have r:decide (bC (s-d)<=g)=dA:=cB z;have e:NA (LD (xG f g xs (b+2)))=[.t []]:=by rw[ev,a,q,r];rfl
     clear ev t v z
     walk_at "!GN HN vA DC"
   ·have q:decide ((d-o)*(s-d)<0)=dA:=cB v;have e:NA (LD (xG f g xs (b+2)))=[.t []]:=by rw[ev,a,q];rfl
    clear ev t v
    walk_at "!GN HN vA DC"
def vT{a h:Int}(b:a≠0):a*h<0↔(a<0/\0<h)\/(0<a/\h<0):=by
 constructor
 ·intro q;rcases NO a 0 with c | c | c
  ·rcases NO h 0 with d | d | d
   ·exact absurd (Ig c d) (by lia)
   ·rw[d,GR] at q;lia
   ·exact .inl ⟨c,d⟩
  ·exact absurd c b
  ·rcases NO h 0 with d | d | d
   ·exact .inr ⟨c,d⟩
   ·rw[d,GR] at q;lia
   ·exact absurd (Int.mul_pos c d) (by lia)
 ·rintro(⟨c,d⟩ | ⟨c,d⟩)
  ·exact Kg c d
  ·exact Lg c d
def Fm{xs:List Int}{b:Nat}(A:b<xs.length)(o:1<=r) :
  run T W (n+1) "k" [.sh (.t [.str "back",.int r,.int x]),.p (.l (xs.map D.int)),.i b]=some (.ok (.b (xG r x xs b)),[.sh (.t [.str "back",.int r,.int x]),.p (.l (xs.map D.int)),.i b]):=by
 exists ZP
 match b,A with
 | 0,A =>
  have e:xG r x xs 0=dA:=rfl;have c:decide (((0:Nat):Int)<2)=bA:=rfl
  walk_at "!BB vA DC"
 | 1,A =>
  have e:xG r x xs 1=dA:=rfl;have c:decide (((1:Nat):Int)<2)=bA:=rfl
  walk_at "!BB vA DC"
 |b+2,A =>
  have c:decide (((b+2:Nat):Int)<2)=dA:=cB (by lia);have B:((b+2:Nat):Int)-1=((b+1:Nat):Int):=by lia
  have C:((b+2:Nat):Int)-2=((b:Nat):Int):=by lia
  have a0:=NH (xs:=xs) (k:=b) (by lia);have F:=NH (xs:=xs) (k:=b+1) (by lia);have H:=NH (xs:=xs) (k:=b+2) (by lia);have ev:xG r x xs (b+2)=(decide (r<=bC (gx xs (b+1)-gx xs b)) && !(decide ((gx xs (b+1)-gx xs b)*(gx xs (b+2)-gx xs (b+1))<0)&&decide (bC (gx xs (b+2)-gx xs (b+1))<=x))):=rfl
  generalize gx xs b=i at *
  generalize gx xs (b+1)=a at *
  generalize gx xs (b+2)=j at *
  by_cases s:r<=bC (a-i)
  ·have l:decide (r<=bC (a-i))=bA:=vB s;have d:a-i≠0:=λz=>by rw[z] at s;simp only[bC] at s;lia
   by_cases m:a-i<0
   ·have u:decide (a-i<0)=bA:=vB m;by_cases t:0<0-(a-j)
    ·have v:decide (0<0-(a-j))=bA:=vB t;have q:decide ((a-i)*(j-a)<0)=bA:=vB ((vT d).mpr (.inl ⟨m,by lia⟩));have y:bC (j-a)=0-(a-j):=by unfold bC;rw[JA (by lia)];lia
     rw[ev,l,q,y];clear ev m t q y s d o
     walk_at "!BB vA DC"
    ·have v:decide (0<0-(a-j))=dA:=cB t;have q:decide ((a-i)*(j-a)<0)=dA:=cB (λz=>by rcases(vT d).mp z with z | z<;>lia);rw[ev,l,q];clear ev m t q s d o
     walk_at "!BB vA DC"
   ·have u:decide (a-i<0)=dA:=cB m;by_cases t:0<a-j
    ·have v:decide (0<a-j)=bA:=vB t;have q:decide ((a-i)*(j-a)<0)=bA:=vB ((vT d).mpr (.inr ⟨by lia,by lia⟩));have y:bC (j-a)=a-j:=by unfold bC;rw[MA (by lia)];lia
     rw[ev,l,q,y];clear ev m t q y s d o
     walk_at "!BB vA DC"
    ·have v:decide (0<a-j)=dA:=cB t;have q:decide ((a-i)*(j-a)<0)=dA:=cB (λz=>by rcases(vT d).mp z with z | z<;>lia);rw[ev,l,q];clear ev m t q s d o
     walk_at "!BB vA DC"
  ·have l:decide (r<=bC (a-i))=dA:=cB s;rw[ev,l];clear ev s o;by_cases m:a-i<0
   ·have u:decide (a-i<0)=bA:=vB m;clear m
    walk_at "!BB vA DC"
   ·have u:decide (a-i<0)=dA:=cB m;clear m
    walk_at "!BB vA DC"
def ym{W n:Nat}{b:Nat}(l:fs.length<=1000)(m:b<a.length)(f:1<=c) :
  run T W (n+2) "e" [.sh (HA no ba oc fs rs),.sh (.t [.str "back",.int c,.int d]),.p (.l (a.map D.int)),.i b]=some (.ok (.ow (.l (NA (LD (xG c d a b))))),[.sh (HA no ba oc fs rs),.sh (.t [.str "back",.int c,.int d]),.p (.l (a.map D.int)),.i b]):=by
 exists IJ
 walk_at "!BB LJ Fm OZ vA"
def dGa:run T W (n+1) "c" [.sh (.t [.str "back",a,b])]=some (.ok (.sh (.ins "Back" ["leap","most"] [a,b])),[.sh (.t [.str "back",a,b])]):=by
 exists JJ
 walk_at "!BB"
def Cm(C:fs.length<=900) :
  run T W (n+2) "e" [.sh (HA no ba oc fs rs),.sh (.t [.str "range",.int lo,.int a]),.p (.l (xs.map D.int)),.i b]=some (.ok (.ow (.l (NA (YJ lo a fs xs b)))),[.sh (HA no ba oc fs rs),.sh (.t [.str "range",.int lo,.int a]),.p (.l (xs.map D.int)),.i b]):=by
 exists IJ
 have hh:run T W (n+1) "d" _=some (.ok (.ow (.l (ZA fs xs b))),_):=LJ (no:=no) (ba:=ba) (oc:=oc) (fs:=fs) (rs:=rs) (xs:=xs) (b:=b) (by lia)
 have h:aAb .gC [.val (.i ((ZA fs xs b).length:Int))] [.sh (HA no ba oc fs rs),.sh (.t [.str "range",.int lo,.int a]),.p (.l (xs.map D.int)),.i b,.o (.l (ZA fs xs b)),.un,.un,.un,.un,.un,.un]=aA (rg (fs.length+1),eA):=by(have r:=XH (fs:=fs) (xs:=xs) (b:=b);refine yK (UK (n:=((ZA fs xs b).length:Int)) rfl (by lia) (by lia)) ?_;rw[HH,r])
 obtain⟨F,e,q,rfl,g⟩:=lS (tests:=KC T.cA (run T W (n+1)) [.and (.CA .IsNot (.ix (.v 0) (.v 3)) (.c .lA)) (.not (.vF .LtE .LtE (.ix (.v 1) (.c (.int 1))) (.ix (.v 0) (.v 3)) (.ix (.v 1) (.c (.int 2)))))]) (uC:=ev T.cA (run T W (n+1)) dA NW) (bind:=wB bA [3]) (ds:=rg (fs.length+1))
  (λj=>AH lo a ((ZA fs xs b).getD j .lA)) (λ(j:Nat)=>.t [.int j])
  (λU=>∃(q:Sl),U=[.p (.l (ZA fs xs b)),.sh (.t [.str "range",.int lo,.int a]),.un,q]/\iB q=bA)
  (λj d hd U y=>by
   obtain⟨q,rfl,g⟩:=y
   have v:j<fs.length+1:=by
    have:=(BD.mp hd).1
    simpa using this
   have s:d=.int j:=by(rw[jD,yL v] at hd;exact(kD hd).symm)
   subst s;have k:=pC (l:=ZA fs xs b) (i:=j) (by rw[XH];lia);generalize (ZA fs xs b)[j]'(by rw[XH];lia)=x at k;have m:(ZA fs xs b).getD j .lA=x:=by rw[zK,k];rfl
   have hk:=Q7 k;have z:L2.lC (ZA fs xs b) (j:Int)=aA x:=L2.YL k;refine⟨_,[.p (.l (ZA fs xs b)),.sh (.t [.str "range",.int lo,.int a]),.un,.i j],by simp only[ZC,nC g]<;>rfl, ?_,λ_=>?_,λ_=>?_⟩
   ·simp only[m];clear hd v k m hh h g;rcases hk with rfl | ⟨i,rfl⟩
    ·have e:AH lo a .lA=dA:=rfl
     walk_at "!BB"
    ·have e:AH lo a (.int i)=!(decide (lo<=i)&&decide (i<=a)):=rfl;by_cases c:lo<=i
     ·have t:decide (lo<=i)=bA:=vB c;rw[e,t,mJ];clear e c
      walk_at "!BB"
     ·have t:decide (lo<=i)=dA:=cB c;rw[e,t,FL]
      walk_at "!BB"
   ·refine⟨.sh (.t [.int j]),[.p (.l (ZA fs xs b)),.sh (.t [.str "range",.int lo,.int a]),.un,.i j], ?_,rfl,_,rfl,rfl⟩;unfold NW
    walk_at "!BB"
   ·exact⟨_,rfl,rfl⟩)
  [.p (.l (ZA fs xs b)),.sh (.t [.str "range",.int lo,.int a]),.un,.un] ⟨_,rfl,rfl⟩
 have u:(rg (fs.length+1)).length=fs.length+1:=by simp
 rw[u,Ua] at e;have A:AM (fs.length+1) (λj=>AH lo a ((ZA fs xs b).getD j .lA))=YJ lo a fs xs b:=rfl;rw[A] at e
 have B:jB (NA (YJ lo a fs xs b)).length=bA:=VB (by
  have:=wZ (n:=fs.length+1) (sel:=λj=>AH lo a ((ZA fs xs b).getD j .lA)) (by lia)
  unfold NA YJ;simp only[vA]
  lia)
 walk_at "!BB"
 rw[aH h]
 walk_at "!BB"
def gGa:run T W (n+1) "c" [.sh (.t [.str "range",a,b])]=some (.ok (.sh (.ins "Range" ["low","high"] [a,b])),[.sh (.t [.str "range",a,b])]):=by
 exists JJ
 walk_at "!BB"
noncomputable def EI:D->D->Bool
 |.int i,.int j=>decide (i<j)
 |_,_=>dA
def iK(c:Bool)(a b:Int):List (List Int):=if c=bA then [[a,b]] else []
def sKa:(iK c a b).length<=1000:=by cases c<;>simp[iK]
def oP(fs:List (Int×Int×Bool))(a:List Int)(b:Int)(v w:Nat):List (List Int):=iK (EI ((ZA fs a b).getD v .lA) ((ZA fs a b).getD w .lA)) (v:Int) (w:Int)
def Bk{rs:List D}{xs:List Int}{b:Int}{v w:Nat}(l:v<fs.length+1)(m:w<fs.length+1) :
  run T W (n+3) "R" [.sh (.ins "Above" ["one","other"] [.int v,.int w]),.sh (HA no ba oc fs rs),.p (.l (xs.map D.int)),.i b]=some (.ok (.ow (.l (NA (oP fs xs b v w)))),[.sh (.ins "Above" ["one","other"] [.int v,.int w]),.sh (HA no ba oc fs rs),.p (.l (xs.map D.int)),.i b]):=by
 exists oX
 obtain⟨f,h⟩:∃f,(cD fs)[v]?=aA f:=⟨_,pC (by simp;omega)⟩
 obtain⟨g,k⟩:∃g,(cD fs)[w]?=aA g:=⟨_,pC (by simp;omega)⟩
 have t:=Q0 (W:=W) (n:=n) (no:=no) (ba:=ba) (oc:=oc) (rs:=rs) (xs:=xs) (b:=b) (p:=bA) h;have u:=Q0 (W:=W) (n:=n) (no:=no) (ba:=ba) (oc:=oc) (rs:=rs) (xs:=xs) (b:=b) (p:=bA) k;unfold oP;rw[bQ h,bQ k];have o:=lO (xs:=xs) (b:=b) (f:=f);have q:=lO (xs:=xs) (b:=b) (f:=g)
 generalize LC xs b f=x at *
 generalize LC xs b g=r at *
 clear h k l m;rcases o with rfl | ⟨i,rfl⟩
 ·have e:NA (iK (EI .lA r) (v:Int) (w:Int))=[]:=rfl
  walk_at "!yS zS"
 ·rcases q with rfl | ⟨j,rfl⟩
  ·have e:NA (iK (EI (.int i) .lA) (v:Int) (w:Int))=[]:=rfl
   walk_at "!yS zS"
  ·by_cases c:i<j
   ·have s:decide (j<=i)=dA:=cB (by omega)
    have e:NA (iK (EI (.int i) (.int j)) (v:Int) (w:Int))=[.t [.int v,.int w]]:=by(unfold EI;simp only;rw[vB c];rfl)
    clear c
    walk_at "!yS zS"
   ·have s:decide (j<=i)=bA:=vB (by omega)
    have e:NA (iK (EI (.int i) (.int j)) (v:Int) (w:Int))=[]:=by(unfold EI;simp only;rw[cB c];rfl)
    clear c
    walk_at "!yS zS"
def PZ:UB .Mult (.l [.t [.int a,.int b]]) (.int (if c=bA then 1 else 0))=aA (.ow (.l (NA (iK c a b)))):=by
 cases c<;>exact tP (by decide) (by decide) (gF (by simp))
def QZ:UB .Mult (.l [.t [.int a,.int b]]) (.int 0)=aA (.ow (.l (NA (iK dA a b)))):=tP (by decide) (by decide) (gF (by simp))
def wm{v w:Nat}(m:fs.length<=900)(o:v<fs.length+1)(q:w<fs.length+1) :
  run T W (n+2) "e" [.sh (HA no ba oc fs rs),.sh (.t [.str "above",.int v,.int w]),.p (.l (xs.map D.int)),.i b]=some (.ok (.ow (.l (NA (oP fs xs b v w)))),[.sh (HA no ba oc fs rs),.sh (.t [.str "above",.int v,.int w]),.p (.l (xs.map D.int)),.i b]):=by
 exists IJ
 have hh:run T W (n+1) "d" _=some (.ok (.ow (.l (ZA fs xs b))),_):=LJ (W:=W) (n:=n) (no:=no) (ba:=ba) (oc:=oc) (fs:=fs) (rs:=rs) (xs:=xs) (b:=b) (by lia);obtain⟨f,k⟩:∃f,(cD fs)[v]?=aA f:=⟨_,pC (by simp;lia)⟩
 obtain⟨g,l⟩:∃g,(cD fs)[w]?=aA g:=⟨_,pC (by simp;lia)⟩
 have u:L2.lC (ZA fs xs b) (v:Int)=aA (LC xs b f):=L2.YL (nY k);have x:L2.lC (ZA fs xs b) (w:Int)=aA (LC xs b g):=L2.YL (nY l);unfold oP;rw[bQ k,bQ l];have r:=lO (xs:=xs) (b:=b) (f:=f);have s:=lO (xs:=xs) (b:=b) (f:=g)
 generalize LC xs b f=y at *
 generalize LC xs b g=t at *
 clear k l o q m;rcases r with rfl | ⟨i,rfl⟩
 ·have e:EI .lA t=dA:=rfl
  walk_at "!BB PZ QZ"
 ·rcases s with rfl | ⟨j,rfl⟩
  ·have e:EI (.int i) .lA=dA:=rfl
   walk_at "!BB PZ QZ"
  ·have e:EI (.int i) (.int j)=decide (i<j):=rfl
   walk_at "!BB PZ QZ"
def bGa:run T W (n+1) "c" [.sh (.t [.str "above",a,b])]=some (.ok (.sh (.ins "Above" ["one","other"] [a,b])),[.sh (.t [.str "above",a,b])]):=by
 exists JJ
 walk_at "!BB"
def iCa(L:List O)(d:O)(f:O->Bool)(g:O->B):((qC L.length).filter λj=>f (L.getD j d)).map (λj=>g (L.getD j d))=(L.filter f).map g:=by
 have h:L=(qC L.length).map λj=>L.getD j d:=by
  apply Rh
  intro i;rw[jD];by_cases a:i<L.length
  ·rw[yL a,pC a];simp[a]
  ·rw[uJ (by lia),uJ (by simp;lia)];rfl
 have b:(L.filter f).map g=(((qC L.length).map λj=>L.getD j d).filter f).map g:=congrArg (λl=>(l.filter f).map g) h;rw[b,Ai,wK];rfl
def Rr{n m v:Nat}{P Q:Nat->Nat->Bool}{R:List Int->Bool}(a:∀w:Nat,R [(v:Int),(w:Int)]=Q v w):(ZD m v P).filter R=ZD m v λv w=>P v w&&Q v w:=by
 unfold ZD;rw[Ai,List.filter_filter];congr 1
 apply Wh
 intro j _;simp only[Function.comp,a,Bool.and_comm]
def m7{n:Nat}{P Q:Nat->Nat->Bool}{R:List Int->Bool}(a:∀v w:Nat,R [(v:Int),(w:Int)]=Q v w):(YD n P).filter R=YD n λv w=>P v w&&Q v w:=by
 unfold YD;rw[List.filter_flatMap];congr 1
 funext v
 exact Rr (n:=n) (a v)
noncomputable def ME:D->Int
 |.int i=>i
 |_=>0
def SE(oc a b:Int):Int:=bC (a-b) % oc
def ZI(d:0<oc):run T W (n+1) "h" [.i oc,.i a,.i b]=some (.ok (.i (SE oc a b)),[.i oc,.i a,.i b]):=by
 exists aY
 unfold SE
 walk_at "!DC"
def iM(a s:Int):Bool:=decide (a / 2 ^ s.toNat % 2=0)
def js(h:0<=a):decide (mR (a / 2 ^ s.toNat) 1=0)=iM a s:=by
 have b:0<=a / 2 ^ s.toNat:=yi h (by exact Int.le_of_lt (Q4 (by decide)));unfold iM;rw[PyProof.Rows.bitAnd_pp b (by decide)];have e1:(1:Int).toNat=1:=rfl;rw[e1,Nat.and_one_is_mod];have e2:(((a / 2 ^ s.toNat).toNat % 2:Nat):Int)=a / 2 ^ s.toNat % 2:=by lia
 rw[e2]
def jIa(h:0<=a)(f:0<=s):run T W (n+1) "L" [.sh (.ins "Span" ["beat","spans"] [.int be,.int a]),.i s]=some (.ok (.b (iM a s)),[.sh (.ins "Span" ["beat","spans"] [.int be,.int a]),.i s]):=by
 exists MX
 have e:=js (s:=s) h
 walk_at "!JN KN DC"
def NK(oc b:Int)(a:List D)(v w:Nat):Bool:=iM b (SE oc (ME (a.getD v .lA)) (ME (a.getD w .lA)))
def ZL(oc b:Int)(a:List D):List Int->Bool
 |[v,w]=>iM b (SE oc (ME (a.getD v.toNat .lA)) (ME (a.getD w.toNat .lA)))
 |_=>dA
def BH(c d ba oc:Int)(fs:List (Int×Int×Bool))(a:List Int)(b:Int):List (List Int):=if b % ba=c then YD (fs.length+1) (λv w=>aD (ZA fs a b) v w&&NK oc d (ZA fs a b) v w) else []
def va(h:is∈YD n P):∃v w:Nat,is=[(v:Int),(w:Int)]/\v<n/\w<n/\v<w/\P v w=bA:=by
 obtain⟨v,b,h⟩:=List.mem_flatMap.mp h;have b:=vR.mp b;obtain⟨j,a,rfl⟩:=qF.mp h;obtain⟨a,c⟩:=pR.mp a;have a:=vR.mp a;exact⟨v,v+1+j,rfl,b,by omega,by omega,c⟩
def iIa(Y:fs.length<=20)(s:0<=a)(J:0<ba)(au:0<oc) :
  run T W (n+4) "K" [.sh (.ins "Span" ["beat","spans"] [.int be,.int a]),.sh (HA no ba oc fs rs),.p (.l (xs.map D.int)),.i b]=some (.ok (.ow (.l (NA (BH be a ba oc fs xs b)))),[.sh (.ins "Span" ["beat","spans"] [.int be,.int a]),.sh (HA no ba oc fs rs),.p (.l (xs.map D.int)),.i b]):=by
 exists LX
 by_cases c:b % ba=be
 ·have c':decide (b % ba=be)=bA:=vB c;have hc:run T W (n+3) "b" _=some (.ok (.ow (.l (ZA fs xs b))),_):=iS (no:=no) (ba:=ba) (oc:=oc) (fs:=fs) (rs:=rs) (xs:=xs) (b:=b) (by lia);have k:=US (fs:=fs) (xs:=xs) (b:=b);have t:=XH (fs:=fs) (xs:=xs) (b:=b);have f:=ed (W:=W) (n:=n+2) k (by lia);rw[t] at f
  have H:BH be a ba oc fs xs b=(YD (fs.length+1) (aD (ZA fs xs b))).filter (ZL oc a (ZA fs xs b)):=by(unfold BH;rw[MA c,m7 (Q:=NK oc a (ZA fs xs b))];intro v w;rfl)
  generalize ZA fs xs b=g at *
  obtain⟨L,I⟩:∃L,L=YD (fs.length+1) (aD g):=⟨_,rfl⟩
  have u:∀is∈L,∃v w:Nat,is=[(v:Int),(w:Int)]/\v<g.length/\w<g.length/\aD g v w=bA:=λis M=>by(rw[I] at M;obtain⟨v,w,N,h2,h3,_,h4⟩:=va M;exact⟨v,w,N,by lia,by lia,h4⟩)
  have B:L.length<=1000:=by rw[I];exact MT (by lia)
  rw[<- I] at f H;have C:aAb .of [.val (.ow (.l (NA L)))] [.sh (.ins "Span" ["beat","spans"] [.int be,.int a]),.sh (HA no ba oc fs rs),.p (.l (xs.map D.int)),.i b,.i oc,.o (.l g)]=aA (NA L,eA):=fT rfl
  obtain⟨Ui,e,Z,t5,rfl,l,m⟩:=lS (tests:=KC T.cA (run T W (n+3)) [.ZH 2 "forbids" nL [.call "h" [.v 1,.ix (.v 0) (.v 4),.ix (.v 0) (.v 5)]]]) (uC:=ev T.cA (run T W (n+3)) dA RW) (bind:=wB dA [4,5]) (ds:=NA L)
   (λj=>ZL oc a g (L.getD j [])) (λj=>.t ((L.getD j []).map D.int))
   (λU=>∃(Z t5:Sl),U=[.p (.l g),.i oc,.sh (.ins "Span" ["beat","spans"] [.int be,.int a]),.un,Z,t5]/\iB Z=bA/\iB t5=bA)
   (λj d hd U hU=>by
    obtain⟨Z,t5,rfl,l,m⟩:=hU
    have hj:j<L.length:=by
     have:=(BD.mp hd).1
     rwa[gI] at this
    have hg:=pC hj
    have O:d=.t (L[j].map D.int):=by(unfold NA at hd;rw[jD,hg] at hd;exact(kD hd).symm)
    have q:L.getD j []=L[j]:=by rw[zK,hg];rfl
    obtain⟨v,w,N,hv,hw,f⟩:=u L[j] (mi hj);rw[N] at O q;subst O;obtain⟨d1,a1,g1,P⟩:=BG k hv;obtain⟨d2,a2,g2,R⟩:=BG k hw;unfold aD at f;rw[g1,g2,RA] at f
    obtain⟨i1,rfl⟩:∃i,d1=.int i:=by
     rcases P with rfl | P
     ·exact absurd f.1 (by decide)
     ·exact P
    obtain⟨i2,rfl⟩:∃i,d2=.int i:=by
     rcases R with rfl | R
     ·exact absurd f.2 (by decide)
     ·exact R
    have F:0<=SE oc i1 i2:=UO _ (by lia);have Jt:=jIa (W:=W) (n:=n+2) (be:=be) s F
    have r:ZL oc a g [(v:Int),(w:Int)]=iM a (SE oc i1 i2):=by(unfold ZL;simp only[HH,g1,g2];rfl)
    refine⟨_,[.p (.l g),.i oc,.sh (.ins "Span" ["beat","spans"] [.int be,.int a]),.un,.i v,.i w],by simp only[MB,cN,ZC,nC l,nC m]<;>rfl, ?_,λ_=>?_,λ_=>?_⟩
    ·simp only[q,r];clear hd hj hg q r N hv hw f u B C H I hc k t P R g1 g2 l m Y s J c F
     walk_at "!sQ ZI JN KN"
    ·refine⟨.sh (.t [.int v,.int w]),[.p (.l g),.i oc,.sh (.ins "Span" ["beat","spans"] [.int be,.int a]),.un,.i v,.i w], ?_,by rw[q];rfl,_,_,rfl,rfl,rfl⟩;unfold RW;clear hd hj hg q r N hv hw f u B C H I hc k t P R g1 g2 l m Y s J c F Jt a1 a2
     walk_at "!sQ ZI JN KN"
    ·exact⟨_,_,rfl,rfl,rfl⟩)
   [.p (.l g),.i oc,.sh (.ins "Span" ["beat","spans"] [.int be,.int a]),.un,.un,.un] ⟨_,_,rfl,rfl,rfl⟩
  rw[gI,iCa L [] (ZL oc a g) (λis=>D.t (is.map D.int))] at e;have X:(L.filter (ZL oc a g)).map (λis=>D.t (is.map D.int))=NA (BH be a ba oc fs xs b):=by rw[H];rfl
  rw[X] at e
  have cQ:jB (NA (BH be a ba oc fs xs b)).length=bA:=VB (by
   rw[gI,H]
   have:=KU (ZL oc a g) L
   lia)
  clear Y l m H X u B I k t s c
  walk_at "!sQ ZI JN KN"
  rw[aH C]
  walk_at "!sQ ZI JN KN"
 ·have c':decide (b % ba=be)=dA:=cB c;have e:BH be a ba oc fs xs b=[]:=JA c;have e2:NA []=[]:=rfl;clear c Y
  walk_at "!sQ ZI JN KN"
def vN(hh:lN a)(h:v<a.length)(i:w<a.length)(m:1<=oc)(o:oc<=12) :
  run T W (n+1) "t" [.sh (HA no ba oc fs rs),.sh (.t [.str "span",.int be,.int sp]),.p (.l ah),.p (.l a),.i v,.i w]=some (.ok (.b (aD a v w&&NK oc sp a v w)),[.sh (HA no ba oc fs rs),.sh (.t [.str "span",.int be,.int sp]),.p (.l ah),.p (.l a),.i v,.i w]):=by
 exists AS
 obtain⟨q,r,g1,j⟩:=BG hh h;obtain⟨s,u,g2,k⟩:=BG hh i;unfold aD NK;rw[g1,g2];have g:0<oc:=by lia
 rcases j with rfl | ⟨b,rfl⟩
 ·have e:uE .lA=bA:=rfl
  walk_at "!BB DC"
 ·have e1:uE (.int b)=dA:=rfl;rcases k with rfl | ⟨c,rfl⟩
  ·have e:uE .lA=bA:=rfl
   walk_at "!BB DC"
  ·have e:uE (.int c)=dA:=rfl;have x:iM sp (SE oc (ME (.int b)) (ME (.int c)))=decide (sp / 2 ^ (bC (b-c) % oc).toNat % 2=0):=rfl;have l:0<=bC (b-c) % oc:=UO _ (by lia);have y:bC (b-c) % oc<oc:=RU _ g;have z:bC (b-c) % oc<=1000:=by lia
   obtain⟨A,B⟩:=pw l (by lia)
   walk_at "!BB DC"
def Dm{b:Int}(A:fs.length<=20)(s:0<ba)(C:1<=oc)(F:oc<=12) :
  run T W (n+2) "e" [.sh (HA no ba oc fs rs),.sh (.t [.str "span",.int be,.int sp]),.p (.l (xs.map D.int)),.i b]=some (.ok (.ow (.l (NA (BH be sp ba oc fs xs b)))),[.sh (HA no ba oc fs rs),.sh (.t [.str "span",.int be,.int sp]),.p (.l (xs.map D.int)),.i b]):=by
 exists IJ
 have hh:run T W (n+1) "d" _=some (.ok (.ow (.l (ZA fs xs b))),_):=LJ (W:=W) (n:=n) (no:=no) (ba:=ba) (oc:=oc) (fs:=fs) (rs:=rs) (xs:=xs) (b:=b) (by lia);have u:run T W (n+1) "d" _=some (.ok (.ow (.l (ZA fs xs (b-1)))),_):=LJ (W:=W) (n:=n) (no:=no) (ba:=ba) (oc:=oc) (fs:=fs) (rs:=rs) (xs:=xs) (b:=b-1) (by lia);by_cases c:b % ba=be
 ·have R:decide (b % ba=be)=bA:=vB c;have g:=US (fs:=fs) (xs:=xs) (b:=b);have h:=XH (fs:=fs) (xs:=xs) (b:=b);have x:BH be sp ba oc fs xs b=YD (fs.length+1) (λv w=>aD (ZA fs xs b) v w&&NK oc sp (ZA fs xs b) v w):=MA c;rw[<- h] at x
  generalize ZA fs xs b=f at *
  generalize ZA fs xs (b-1)=ah at *
  have N:aAb .gC [.val (.i f.length)] [.sh (HA no ba oc fs rs),.sh (.t [.str "span",.int be,.int sp]),.p (.l (xs.map D.int)),.i b,.o (.l f),.un,.un,.un,.o (.l ah),.o (.l []),.un]=aA (rg f.length,eA):=by(refine yK (UK (n:=(f.length:Int)) rfl (by lia) (by lia)) ?_;rw[HH])
  obtain⟨Z,U,e,H,y⟩:=AZ (iv:=5) (body:=KA T.cA (run T W (n+1)) W xP) (λa t B=>[.sh (HA no ba oc fs rs),.sh (.t [.str "span",.int be,.int sp]),.p (.l (xs.map D.int)),.i b,.o (.l f),t,.un,.un,.o (.l ah),.o (.l a),B]) (λv w=>aD f v w&&NK oc sp f v w) f.length (by lia)
   (λa t B d l=>by simp only[ZC,nC l])
   (λz v t I r l=>by
    have J:aAb .gC [.val (.i ((v:Int)+1)),.val (.i f.length)] [.sh (HA no ba oc fs rs),.sh (.t [.str "span",.int be,.int sp]),.p (.l (xs.map D.int)),.i b,.o (.l f),.i v,.un,.un,.o (.l ah),.o (.l (NA z)),t]=aA ((qC (f.length-(v+1))).map λ(j:Nat)=>.int ((v:Int)+1+(j:Int)),eA):=by(refine yK (LY (m:=(v:Int)+1) (n:=(f.length:Int)) rfl rfl (by lia) (by lia)) ?_;rw[show((f.length:Int)-((v:Int)+1)).toNat=f.length-(v+1) from by lia])
    obtain⟨X,e3,O⟩:=UZ (iw:=10) (body:=KA T.cA (run T W (n+1)) W vP) (λa t B=>[.sh (HA no ba oc fs rs),.sh (.t [.str "span",.int be,.int sp]),.p (.l (xs.map D.int)),.i b,.o (.l f),t,.un,.un,.o (.l ah),.o (.l a),B]) (λv w=>aD f v w&&NK oc sp f v w) f.length v z r (by lia)
     (λa t d l=>by simp only[ZC,nC l])
     (λa w K P M=>by
      have Q:=vN (W:=W) (n:=n) (be:=be) (sp:=sp) (no:=no) (ba:=ba) (fs:=fs) (rs:=rs) (ah:=ah) g I P C F;have Y:jB ((NA a).length+1)=bA:=VB (by rw[gI];lia);have et:NA (a++[[(v:Int),(w:Int)]])=NA a++[.t [.int v,.int w]]:=by rw[qU];rfl
      unfold vP
      generalize (aD f v w&&NK oc sp f v w)=q at *
      clear N J g A I P K M r l x h hh u c C F s;cases q
      ·walk_at "!BB vN"
       all_goals (try simp only[DD])
      ·walk_at "!BB vN") t l
    refine⟨X, ?_,O⟩;unfold xP;clear N g A I r l O x h hh u c C F s
    walk_at "!BB vN") .un .un rfl rfl
  rw[x];clear A g H y x h c
  walk_at "!BB vN"
 ·have R:decide (b % ba=be)=dA:=cB c;have e:BH be sp ba oc fs xs b=[]:=JA c;have e2:NA []=[]:=rfl;clear c A
  walk_at "!BB vN"
def hGa:run T W (n+1) "c" [.sh (.t [.str "span",a,b])]=some (.ok (.sh (.ins "Span" ["beat","spans"] [a,b])),[.sh (.t [.str "span",a,b])]):=by
 exists JJ
 walk_at "!BB"
def hIa(a:fs.length<=20):(BH c d ba oc fs e b).length<=1000:=by
 unfold BH;split
 ·exact MT (by lia)
 ·simp
def qx(E:List D->Sl->Sl->Env)(R:List Int->Bool)(L:List (List Int))(A:L.length<=1000)
  (n:∀(a:List D) (t f d m:_),iB t=bA->iB f=bA->wB dA [iv,iw] (.t [d,m]) (E a t f)=aA (E a (.sh d) (.sh m)))
  (o:∀is∈L,∃v w:Nat,is=[(v:Int),(w:Int)])
  (p:∀(a:List (List Int)) (v w:Nat),[(v:Int),(w:Int)]∈L->a.length<=2000->body (E (NA a) (.i v) (.i w))=aA (.nx,E (NA (a++(if R [(v:Int),(w:Int)]=bA then [[(v:Int),(w:Int)]] else []))) (.i v) (.i w))) (t f:Sl) (r:iB t=bA) (i:iB f=bA) :
  ∃g b,gD (wB dA [iv,iw]) body (NA L) (E [] t f)=aA (.nx,E (NA (L.filter R)) g b)/\iB g=bA/\iB b=bA:=by
 have key:∀(M:List (List Int)) (c:List (List Int)) (t f:Sl),(∀is∈M,is∈L)->c.length+M.length<=2000->iB t=bA->iB f=bA->∃g b,gD (wB dA [iv,iw]) body (NA M) (E (NA c) t f)=aA (.nx,E (NA (c++M.filter R)) g b)/\iB g=bA/\iB b=bA:=by
  intro M
  induction M with
  |nil=>intro c t f _ _ j k;exact⟨t,f,by simp[NA,gD],j,k⟩
  |cons is M s =>
   intro c t f l u j k;obtain⟨v,w,rfl⟩:=o is (l is (by simp));have e1:NA ([(v:Int),(w:Int)]::M)=.t [.int v,.int w]::NA M:=rfl;have x:c.length+M.length+1<=2000:=by simpa[uK] using u
   rw[e1];simp only[gD,n _ _ _ _ _ j k,p c v w (l _ (by simp)) (by lia)]
   obtain⟨g,b,e,y,z⟩:=s (c++(if R [(v:Int),(w:Int)]=bA then [[(v:Int),(w:Int)]] else [])) (.i v) (.i w) (λis h=>l is (tD _ h)) (by
    rw[NC];split
    ·simp only[YB,pH];lia
    ·simp only[pH];lia) rfl rfl
   refine⟨g,b, ?_,y,z⟩;rw[e,List.filter_cons];by_cases q:R [(v:Int),(w:Int)]=bA
   ·simp[q]
   ·simp[q]
 obtain⟨g,b,e,h⟩:=key L [] t f (λ_ h=>h) (by simp;lia) r i;exact⟨g,b,by simpa[NA] using e,h⟩
def UQ(x:fA):Prop:=x="like"\/x="against"\/x="aside"\/x="any"
def CG(x:fA)(a b:Int):Bool:=if x==("like":fA) then decide (0<a*b) else if x==("against":fA) then decide (a*b<0) else if x==("aside":fA) then !(decide (a=0)==decide (b=0)) else bA
def GF:((xA "against")==(xA "like"))=dA:=by decide +kernel
def HF:((xA "aside")==(xA "like"))=dA:=by decide +kernel
def IF:((xA "any")==(xA "like"))=dA:=by decide +kernel
def JF:((xA "aside")==(xA "against"))=dA:=by decide +kernel
def LF:((xA "any")==(xA "against"))=dA:=by decide +kernel
def MF:((xA "any")==(xA "aside"))=dA:=by decide +kernel
def jG:((xA "like")==(xA "any"))=dA:=by decide +kernel
def kG:((xA "like")==(xA "aside"))=dA:=by decide +kernel
def lG:((xA "against")==(xA "any"))=dA:=by decide +kernel
def gG:((xA "against")==(xA "aside"))=dA:=by decide +kernel
def iG:((xA "aside")==(xA "any"))=dA:=by decide +kernel
def Oy(s:UQ x)(t:-18446744073709551616<a)(u:a<18446744073709551616):run T W (n+1) "y" [.s x,.i a,.i b]=some (.ok (.b (CG x a b)),[.s x,.i a,.i b]):=by
 exists UX
 unfold CG;rcases s with rfl | rfl | rfl | rfl
 ·walk_at "!GF HF IF JF LF MF jG kG lG gG iG YE YF mG nG"
 ·walk_at "!GF HF IF JF LF MF jG kG lG gG iG YE YF mG nG"
 ·walk_at "!GF HF IF JF LF MF jG kG lG gG iG YE YF mG nG"
 ·walk_at "!GF HF IF JF LF MF jG kG lG gG iG YE YF mG nG"
def Ob{a h:Int}:0<a*h↔(0<a/\0<h)\/(a<0/\h<0):=by
 constructor
 ·intro q;rcases NO a 0 with c | c | c
  ·rcases NO h 0 with d | d | d
   ·exact .inr ⟨c,d⟩
   ·rw[d,GR] at q;lia
   ·exact absurd (Kg c d) (by lia)
  ·rw[c,Int.zero_mul] at q;lia
  ·rcases NO h 0 with d | d | d
   ·exact absurd (Lg c d) (by lia)
   ·rw[d,GR] at q;lia
   ·exact .inl ⟨c,d⟩
 ·rintro(⟨c,d⟩ | ⟨c,d⟩)
  ·exact Int.mul_pos c d
  ·exact Ig c d
def Jz{a h:Int}:a*h<0↔(0<a/\h<0)\/(a<0/\0<h):=by
 have:=Ob (a:=a) (h:=-h)
 rw[Int.mul_neg] at this;constructor
 ·intro q;rcases this.mp (by omega) with z | z
  ·exact .inl ⟨z.1,by omega⟩
  ·exact .inr ⟨z.1,by omega⟩
 ·intro q
  have:=this.mpr (by rcases q with z | z;exact .inl ⟨z.1,by omega⟩;exact .inr ⟨z.1,by omega⟩)
  omega
def uu:DB .In (.int 0) (.t [.int a,.int b])=aA (decide (a=0)||decide (b=0)):=by
 have h:DB .In (.int 0) (.t [.int a,.int b])=aA (inD (.int 0) [.int a,.int b]):=rfl;rw[h];congr 1;unfold inD;show((a==0)||((b==0)||false))=_;rw[YE];rfl
def bL(J:UQ x):run T W (n+1) "D" [.s x,.i a,.i b]=some (.ok (.b (CG x a b)),[.s x,.i a,.i b]):=by
 exists yX
 rcases J with rfl | rfl | rfl | rfl
 ·have e:CG "like" a b=decide ((0<a/\0<b)\/(a<0/\b<0)):=by
   unfold CG;rw[MA (TM _)];exact QO.mpr Ob
  rw[e];by_cases y:0<a
  ·have v:decide (0<a)=bA:=vB y;have z:decide (a<0)=dA:=cB (by omega);by_cases A:0<b
   ·have B:decide (0<b)=bA:=vB A;rw[vB (p:=(0<a/\0<b)\/(a<0/\b<0)) (.inl ⟨y,A⟩)]
    walk_at "!GF HF IF JF LF MF jG kG lG gG iG YE YF mG nG"
   ·have B:decide (0<b)=dA:=cB A;rw[cB (p:=(0<a/\0<b)\/(a<0/\b<0)) (by omega)]
    walk_at "!GF HF IF JF LF MF jG kG lG gG iG YE YF mG nG"
  ·have v:decide (0<a)=dA:=cB y;by_cases C:a<0
   ·have z:decide (a<0)=bA:=vB C;have e2:decide ((0<a/\0<b)\/(a<0/\b<0))=decide (b<0):=QO.mpr (by omega);rw[e2]
    walk_at "!GF HF IF JF LF MF jG kG lG gG iG YE YF mG nG"
   ·have z:decide (a<0)=dA:=cB C;rw[cB (p:=(0<a/\0<b)\/(a<0/\b<0)) (by omega)]
    walk_at "!GF HF IF JF LF MF jG kG lG gG iG YE YF mG nG"
 ·have e:CG "against" a b=decide ((0<a/\b<0)\/(a<0/\0<b)):=by
   unfold CG;rw[GF,JA (by decide),MA (TM _)];exact QO.mpr Jz
  rw[e];by_cases y:0<a
  ·have v:decide (0<a)=bA:=vB y;have z:decide (a<0)=dA:=cB (by omega);by_cases A:b<0
   ·have B:decide (b<0)=bA:=vB A;rw[vB (p:=(0<a/\b<0)\/(a<0/\0<b)) (.inl ⟨y,A⟩)]
    walk_at "!GF HF IF JF LF MF jG kG lG gG iG YE YF mG nG"
   ·have B:decide (b<0)=dA:=cB A;rw[cB (p:=(0<a/\b<0)\/(a<0/\0<b)) (by omega)]
    walk_at "!GF HF IF JF LF MF jG kG lG gG iG YE YF mG nG"
  ·have v:decide (0<a)=dA:=cB y;by_cases C:a<0
   ·have z:decide (a<0)=bA:=vB C;have e2:decide ((0<a/\b<0)\/(a<0/\0<b))=decide (0<b):=QO.mpr (by omega);rw[e2]
    walk_at "!GF HF IF JF LF MF jG kG lG gG iG YE YF mG nG"
   ·have z:decide (a<0)=dA:=cB C;rw[cB (p:=(0<a/\b<0)\/(a<0/\0<b)) (by omega)]
    walk_at "!GF HF IF JF LF MF jG kG lG gG iG YE YF mG nG"
 ·have e:CG "aside" a b=((decide (a=0)||decide (b=0)) && !decide (a=b)):=by
   unfold CG;rw[HF,JA (by decide),JF,JA (by decide),MA (TM _)];by_cases I:a=0
   ·by_cases F:b=0
    ·simp[I,F]
    ·simp[I,F];omega
   ·by_cases F:b=0
    ·simp[I,F]
    ·simp[I,F]
  rw[e];have H:=uu (a:=a) (b:=b);by_cases y:a=0\/b=0
  ·have v:(decide (a=0)||decide (b=0))=bA:=by rcases y with h | h<;>simp[h]
   rw[v] at H ⊢
   walk_at "!GF HF IF JF LF MF jG kG lG gG iG YE YF mG nG"
  ·have v:(decide (a=0)||decide (b=0))=dA:=by
    rw[not_or] at y;simp[y.1,y.2]
   rw[v] at H ⊢
   walk_at "!GF HF IF JF LF MF jG kG lG gG iG YE YF mG nG"
 ·have e:CG "any" a b=bA:=by
   unfold CG;rw[IF,JA (by decide),LF,JA (by decide),MF,JA (by decide)]
  rw[e]
  walk_at "!GF HF IF JF LF MF jG kG lG gG iG YE YF mG nG"
def WJ(one other oc:Int)(x:fA)(a b:List D)(v w:Nat):Bool :=
 decide (SE oc (ME (a.getD v .lA)) (ME (a.getD w .lA))=one)&&decide (SE oc (ME (b.getD v .lA)) (ME (b.getD w .lA))=other)&&CG x (ME (b.getD v .lA)-ME (a.getD v .lA)) (ME (b.getD w .lA)-ME (a.getD w .lA))
def xT(one other oc:Int)(x:fA)(a b:List D):List Int->Bool
 |[v,w]=>WJ one other oc x a b v.toNat w.toNat
 |_=>dA
def fL(one other oc:Int)(x:fA)(fs:List (Int×Int×Bool))(a:List Int)(b:Int):List (List Int):=YD (fs.length+1) (λv w=>aD (ZA fs a (b-1)) v w&&WJ one other oc x (ZA fs a (b-1)) (ZA fs a b) v w)
def zAa(h:∀v w,v<w->w<n->P v w=Q v w):YD n P=YD n Q:=by
 unfold YD;congr 1
 funext v
 unfold ZD;congr 1
 apply Wh
 intro j a;have a:=vR.mp a;exact h v (v+1+j) (by omega) (by omega)
def aBa(h:∀v w,v<w->w<n->P v w=dA):YD n P=[]:=by
 rw[zAa (Q:=λ_ _=>dA) h];unfold YD ZD;simp
structure hP(hs ah:List D):Prop where
 h1:lN hs
 h2:lN ah
 len:ah.length=hs.length
 bd:∀v i,hs.getD v .lA=.int i->-100<=i/\i<=100
 El:∀v i,ah.getD v .lA=.int i->-100<=i/\i<=100
 on:∀v,uE (ah.getD v .lA)=dA->uE (hs.getD v .lA)=dA
def oY{fs:List (Int×Int×Bool)}{xs:List Int}{b:Int}{v:Nat}:(∃f∈cD fs,∀b:Int,(ZA fs xs b).getD v .lA=LC xs b f)\/∀b:Int,(ZA fs xs b).getD v .lA=.lA:=by
 cases h:(cD fs)[v]? with
 |some f=>exact .inl ⟨f,pF h,λb=>bQ h⟩
 |none =>
  refine .inr λb=>?_
  unfold ZA;rw[zK,jD,h];rfl
def X7{no ba oc:Int}{fs:List (Int×Int×Bool)}{xs:List Int}{b:Nat}(j:rH no ba oc fs)(d:∀x∈xs,0<=x/\x<no)(p:b<xs.length):hP (ZA fs xs (b:Int)) (ZA fs xs ((b:Int)-1)):=by
 have n2:=j.n2
 have l:∀f∈cD fs,0<=f.1/\-12<=f.2.1/\f.2.1<=12:=λf a=>by
  rcases WC.mp a with rfl | a
  ·decide
  ·have:=j.f f a
   omega
 have m:∀(c:Int) v i,(ZA fs xs c).getD v .lA=.int i->-100<=i/\i<=100:=λc v i h=>by
  rcases oY (fs:=fs) (xs:=xs) (b:=c) (v:=v) with ⟨f,a,e⟩ | e
  ·rw[e c] at h;unfold LC at h;split at h
   ·rename_i n;have h:=D.int.inj h
    have o:xs.getD (c-f.1).toNat 0∈xs:=by
     have g:(c-f.1).toNat<xs.length:=by omega
     exact NS (k:=(c-f.1).toNat) g
    have:=d _ o
    have:=l f a
    split at h<;>omega
   ·cases h
  ·rw[e c] at h;cases h
 refine⟨US,US,by rw[XH,XH],m _,m _,λv h=>?_⟩;rcases oY (fs:=fs) (xs:=xs) (b:=(b:Int)) (v:=v) with ⟨f,a,e⟩ | e
 ·rw[e] at h ⊢;unfold LC at h ⊢;split at h
  ·rename_i n
   have:=l f a
   rw[MA (by omega)];rfl
  ·cases h
 ·rw[e] at h;cases h
def iu(H:hP c d)(g:v<c.length)(i:w<c.length)(h:aD d v w=bA):∃a e b f:Int,L2.lC d (v:Int)=aA (.int a)/\L2.lC d (w:Int)=aA (.int e)/\L2.lC c (v:Int)=aA (.int b)/\L2.lC c (w:Int)=aA (.int f)/\d.getD v .lA=.int a/\d.getD w .lA=.int e/\c.getD v .lA=.int b/\c.getD w .lA=.int f/\(-100<=a/\a<=100)/\(-100<=b/\b<=100):=by
 unfold aD at h;rw[RA] at h;obtain⟨u,m,g1,n⟩:=BG H.h2 (by rw[H.len];exact g);obtain⟨x,o,g2,p⟩:=BG H.h2 (v:=w) (by rw[H.len];exact i);obtain⟨y,q,g3,r⟩:=BG H.h1 g;obtain⟨z,s,j,t⟩:=BG H.h1 i;have k:=H.on v (by simpa using h.1);have l:=H.on w (by simpa using h.2);rw[g1,g2] at h;rw[g3] at k;rw[j] at l;rcases n with rfl | ⟨a,rfl⟩
 ·exact absurd h.1 (by decide)
 rcases p with rfl | ⟨e,rfl⟩
 ·exact absurd h.2 (by decide)
 rcases r with rfl | ⟨b,rfl⟩
 ·exact absurd k (by decide)
 rcases t with rfl | ⟨f,rfl⟩
 ·exact absurd l (by decide)
 exact⟨a,e,b,f,m,o,q,s,g1,g2,g3,j,H.El v a g1,H.bd v b g3⟩
def Kz(hl:fs.length<=20)(au:0<oc)(X:UQ x)(H:hP (ZA fs xs b) (ZA fs xs (b-1))) :
  run T W (n+4) "S" [.sh (.ins "Never" ["one","other","way"] [.int one,.int other,.str x]),.sh (HA no ba oc fs rs),.p (.l (xs.map D.int)),.i b]=some (.ok (.ow (.l (NA (fL one other oc x fs xs b)))),[.sh (.ins "Never" ["one","other","way"] [.int one,.int other,.str x]),.sh (HA no ba oc fs rs),.p (.l (xs.map D.int)),.i b]):=by
 exists GX
 have Y:run T W (n+3) "b" _=some (.ok (.ow (.l (ZA fs xs (b-1)))),_):=iS (no:=no) (ba:=ba) (oc:=oc) (fs:=fs) (rs:=rs) (xs:=xs) (b:=b-1) (by lia);have Z:run T W (n+3) "b" _=some (.ok (.ow (.l (ZA fs xs b))),_):=iS (W:=W) (n:=n) (no:=no) (ba:=ba) (oc:=oc) (fs:=fs) (rs:=rs) (xs:=xs) (b:=b) (by lia);have s:=XH (fs:=fs) (xs:=xs) (b:=b-1);have m:=XH (fs:=fs) (xs:=xs) (b:=b);have u:=ed (W:=W) (n:=n+2) H.h2 (by lia);rw[s] at u
 have O:fL one other oc x fs xs b=(YD (fs.length+1) (aD (ZA fs xs (b-1)))).filter (xT one other oc x (ZA fs xs (b-1)) (ZA fs xs b)):=by(unfold fL;rw[m7 (Q:=WJ one other oc x (ZA fs xs (b-1)) (ZA fs xs b))];intro v w;rfl)
 generalize ZA fs xs b=I at *
 generalize ZA fs xs (b-1)=J at *
 obtain⟨L,K⟩:∃L,L=YD (fs.length+1) (aD J):=⟨_,rfl⟩
 have c:∀is∈L,∃v w:Nat,is=[(v:Int),(w:Int)]/\v<I.length/\w<I.length/\aD J v w=bA:=λis f=>by(rw[K] at f;obtain⟨v,w,M,h2,h3,_,h4⟩:=va f;exact⟨v,w,M,by lia,by lia,h4⟩)
 have y:L.length<=1000:=by rw[K];exact MT (by lia)
 rw[<- K] at u O;have qY:aAb .of [.val (.ow (.l (NA L)))] [.sh (.ins "Never" ["one","other","way"] [.int one,.int other,.str x]),.sh (HA no ba oc fs rs),.p (.l (xs.map D.int)),.i b,.i oc,.o (.l J),.o (.l I),.o (.l []),.un,.un]=aA (NA L,eA):=fT rfl
 obtain⟨t8,t9,e,h8,h9⟩:=qx (iv:=8) (iw:=9) (body:=KA T.cA (run T W (n+3)) W qW) (λa t t2=>[.sh (.ins "Never" ["one","other","way"] [.int one,.int other,.str x]),.sh (HA no ba oc fs rs),.p (.l (xs.map D.int)),.i b,.i oc,.o (.l J),.o (.l I),.o (.l a),t,t2]) (xT one other oc x J I) L y
  (λa t t2 d d2 ht mu=>by simp only[ZC,nC ht,nC mu])
  (λis f=>by obtain⟨v,w,h,_⟩:=c is f;exact⟨v,w,h⟩)
  (λa v w hm lM=>by
   obtain⟨P,R,M,hv,hw,r⟩:=c _ hm;have ou:P=v:=by have:=(AR M).1;lia
   have qu:R=w:=by have:=(AR (AR M).2).1;lia
   subst ou qu;obtain⟨z,A,B,C,a1,a2,a3,a4,g1,g2,g3,g4,q1,q2⟩:=iu H hv hw r;have cQ:jB ((NA a).length+1)=bA:=VB (by rw[gI];lia);have et:NA (a++[[(P:Int),(R:Int)]])=NA a++[.t [.int P,.int R]]:=by rw[qU];rfl
   have en:xT one other oc x J I [(P:Int),(R:Int)]=(decide (SE oc z A=one)&&decide (SE oc B C=other)&&CG x (B-z) (C-A)):=by(unfold xT WJ;simp only[HH,g1,g2,g3,g4];rfl)
   have hmv:=Oy (W:=W) (n:=n+2) (a:=B-z) (b:=C-A) X (by lia) (by lia);rw[en];unfold qW;clear M hv hw r hm lM c y qY O K u Y Z s m H g1 g2 g3 g4 q1 q2 hl en X;by_cases N:SE oc z A=one
   ·have g:decide (SE oc z A=one)=bA:=vB N;by_cases U:SE oc B C=other
    ·have F:decide (SE oc B C=other)=bA:=vB U;rw[g,F,mJ,mJ]
     generalize CG x (B-z) (C-A)=q at *
     clear N U;cases q
     ·walk_at "!UP VP YP ZI"
      all_goals (try simp only[DD])
     ·walk_at "!UP VP YP ZI"
    ·have F:decide (SE oc B C=other)=dA:=cB U;rw[g,F,mJ,FL];clear N U
     walk_at "!UP VP YP ZI"
     all_goals (try simp only[DD])
   ·have g:decide (SE oc z A=one)=dA:=cB N;rw[g,FL,FL];clear N
    walk_at "!UP VP YP ZI"
    all_goals (try simp only[DD])) .un .un rfl rfl
 rw[O];clear hl h8 h9 O c y K s m H X
 walk_at "!UP VP YP ZI"
def Dl(H:hP o r)(u:v<o.length)(y:w<o.length)(M:0<oc)(N:UQ x) :
  run T W (n+2) "t" [.sh (HA no ba oc fs rs),.sh (.t [.str "never",.int one,.int other,.str x]),.p (.l r),.p (.l o),.i v,.i w]=some (.ok (.b (aD r v w&&WJ one other oc x r o v w)),[.sh (HA no ba oc fs rs),.sh (.t [.str "never",.int one,.int other,.str x]),.p (.l r),.p (.l o),.i v,.i w]):=by
 exists AS
 obtain⟨z,Z,g1,O⟩:=BG H.h2 (by rw[H.len];exact u);obtain⟨A,a2,g2,B⟩:=BG H.h2 (v:=w) (by rw[H.len];exact y);obtain⟨d3,a3,g3,P⟩:=BG H.h1 u;obtain⟨d4,a4,C,Q⟩:=BG H.h1 y;have F:=H.on v;have I:=H.on w;unfold aD WJ;rw[g1,g2,g3,C];rw[g1,g3] at F;rw[g2,C] at I;have q:=λ(a b:Int)=>bL (W:=W) (n:=n) (x:=x) (a:=a) (b:=b) N
 have eN:uE .lA=bA:=rfl;have s:∀i,uE (.int i)=dA:=λ_=>rfl
 rcases P with rfl | ⟨j,rfl⟩
 ·have R:uE z=bA:=by
   cases h:uE z with
   |true=>rfl
   |false=>exact absurd (F h) (by decide)
  rw[R]
  walk_at "!BB DC bL"
 rcases Q with rfl | ⟨k,rfl⟩
 ·have U:uE A=bA:=by
   cases h:uE A with
   |true=>rfl
   |false=>exact absurd (I h) (by decide)
  rw[U]
  walk_at "!BB DC bL"
 rcases O with rfl | ⟨l,rfl⟩
 ·clear B q s
  walk_at "!BB DC bL"
 rcases B with rfl | ⟨m,rfl⟩
 ·rw[s]
  walk_at "!BB DC bL"
 rw[s,s];have e1:ME (.int l)=l:=rfl;have e2:ME (.int m)=m:=rfl;have X:ME (.int j)=j:=rfl;have Y:ME (.int k)=k:=rfl;rw[e1,e2,X,Y];unfold SE;have hm:=q (j-l) (k-m);by_cases J:bC (j-k) % oc=other
 ·have f:decide (bC (j-k) % oc=other)=bA:=vB J;by_cases K:bC (l-m) % oc=one
  ·have g:decide (bC (l-m) % oc=one)=bA:=vB K;rw[g,f]
   walk_at "!BB DC bL"
  ·have g:decide (bC (l-m) % oc=one)=dA:=cB K;rw[g]
   walk_at "!BB DC bL"
 ·have f:decide (bC (j-k) % oc=other)=dA:=cB J;rw[f]
  walk_at "!BB DC bL"
def Bm{rs:List D}{xs:List Int}{b:Nat}(C:fs.length<=20)(u:0<ba)(I:0<oc)(y:UQ x)(H:hP (ZA fs xs (b:Int)) (ZA fs xs ((b:Int)-1)))(z:∀f∈cD fs,0<=f.1) :
  run T W (n+3) "e" [.sh (HA no ba oc fs rs),.sh (.t [.str "never",.int one,.int other,.str x]),.p (.l (xs.map D.int)),.i b]=some (.ok (.ow (.l (NA (fL one other oc x fs xs b)))),[.sh (HA no ba oc fs rs),.sh (.t [.str "never",.int one,.int other,.str x]),.p (.l (xs.map D.int)),.i b]):=by
 exists IJ
 have hh:run T W (n+2) "d" _=some (.ok (.ow (.l (ZA fs xs (b:Int)))),_):=LJ (W:=W) (n:=n+1) (no:=no) (ba:=ba) (oc:=oc) (fs:=fs) (rs:=rs) (xs:=xs) (b:=(b:Int)) (by lia);have l:run T W (n+2) "d" _=some (.ok (.ow (.l (ZA fs xs ((b:Int)-1)))),_):=LJ (W:=W) (n:=n+1) (no:=no) (ba:=ba) (oc:=oc) (fs:=fs) (rs:=rs) (xs:=xs) (b:=(b:Int)-1) (by lia);by_cases c:b=0
 ·subst c;have P:decide (((0:Nat):Int)=0)=bA:=rfl
  have e:fL one other oc x fs xs ((0:Nat):Int)=[]:=by
   unfold fL
   apply aBa
   intro v w _ _
   have:uE ((ZA fs xs (((0:Nat):Int)-1)).getD v .lA)=bA:=by
    rcases oY (fs:=fs) (xs:=xs) (b:=0) (v:=v) with ⟨f,Y,e⟩ | e
    ·rw[e];unfold LC;rw[JA (by have:=z f Y;lia)];rfl
    ·rw[e];rfl
   unfold aD;rw[this];rfl
  have e2:NA []=[]:=rfl;rw[e,e2];clear e e2 C H y z;have Z:((0:Nat):Int)=0:=rfl;rw[Z] at hh l P ⊢
  walk_at "!BB"
 ·have P:decide ((b:Int)=0)=dA:=cB (by lia);have k:=XH (fs:=fs) (xs:=xs) (b:=(b:Int));unfold fL;rw[<- k]
  generalize ZA fs xs (b:Int)=g at *
  generalize ZA fs xs ((b:Int)-1)=h at *
  have Q:aAb .gC [.val (.i g.length)] [.sh (HA no ba oc fs rs),.sh (.t [.str "never",.int one,.int other,.str x]),.p (.l (xs.map D.int)),.i b,.o (.l g),.un,.un,.un,.o (.l h),.o (.l []),.un]=aA (rg g.length,eA):=by(refine yK (UK (n:=(g.length:Int)) rfl (by lia) (by lia)) ?_;rw[HH])
  obtain⟨t',t2',e,J,A⟩:=AZ (iv:=5) (body:=KA T.cA (run T W (n+2)) W xP) (λa t F=>[.sh (HA no ba oc fs rs),.sh (.t [.str "never",.int one,.int other,.str x]),.p (.l (xs.map D.int)),.i b,.o (.l g),t,.un,.un,.o (.l h),.o (.l a),F]) (λv w=>aD h v w&&WJ one other oc x h g v w) g.length (by lia)
   (λa t F d r=>by simp only[ZC,nC r])
   (λB v t K s r=>by
    have M:aAb .gC [.val (.i ((v:Int)+1)),.val (.i g.length)] [.sh (HA no ba oc fs rs),.sh (.t [.str "never",.int one,.int other,.str x]),.p (.l (xs.map D.int)),.i b,.o (.l g),.i v,.un,.un,.o (.l h),.o (.l (NA B)),t]=aA ((qC (g.length-(v+1))).map λ(j:Nat)=>.int ((v:Int)+1+(j:Int)),eA):=by(refine yK (LY (m:=(v:Int)+1) (n:=(g.length:Int)) rfl rfl (by lia) (by lia)) ?_;rw[show((g.length:Int)-((v:Int)+1)).toNat=g.length-(v+1) from by lia])
    obtain⟨t3,e3,R⟩:=UZ (iw:=10) (body:=KA T.cA (run T W (n+2)) W vP) (λa t F=>[.sh (HA no ba oc fs rs),.sh (.t [.str "never",.int one,.int other,.str x]),.p (.l (xs.map D.int)),.i b,.o (.l g),t,.un,.un,.o (.l h),.o (.l a),F]) (λv w=>aD h v w&&WJ one other oc x h g v w) g.length v B s (by lia)
     (λa t d r=>by simp only[ZC,nC r])
     (λa w N U O=>by
      have X:=Dl (W:=W) (n:=n) (one:=one) (other:=other) (no:=no) (ba:=ba) (fs:=fs) (rs:=rs) H K U I y;have cQ:jB ((NA a).length+1)=bA:=VB (by rw[gI];lia);have et:NA (a++[[(v:Int),(w:Int)]])=NA a++[.t [.int v,.int w]]:=by rw[qU];rfl
      unfold vP
      generalize (aD h v w&&WJ one other oc x h g v w)=q at *
      clear Q M C K U N O s r k hh l c H y u z;cases q
      ·walk_at "!BB"
       all_goals (try simp only[DD])
      ·walk_at "!BB") t r
    refine⟨t3, ?_,R⟩;unfold xP;clear Q C K s r R k hh l c H y u z
    walk_at "!BB") .un .un rfl rfl
  clear C J A k c H y z
  walk_at "!BB"
def fGa:run T W (n+1) "c" [.sh (.t [.str "never",a,b,c])]=some (.ok (.sh (.ins "Never" ["one","other","way"] [a,b,c])),[.sh (.t [.str "never",a,b,c])]):=by
 exists JJ
 walk_at "!BB"
noncomputable def mx(m y:Int):Int:=if y > m then y else m
theorem cL:(if y > m then y else m)=mx m y:=rfl
def CF(fs:List (Int×Int×Bool)):Int:=(fs.map λf=>1+f.1).foldl mx 3
def S9:List (Int×Int×Bool)->Int
 |[]=>0
 |f::r=>(r.map λf=>f.1).foldl mx f.1
theorem oa:∀(l:List (Int×Int×Bool)) (a c:Int),(l.map λf=>1+f.1).foldl mx (mx c (1+a))=mx c (1+(l.map λf=>f.1).foldl mx a)
 |[],_,_=>rfl
 |f::l,a,c=>by
  have h:mx (mx c (1+a)) (1+f.1)=mx c (1+mx a f.1):=by
   unfold mx
   split<;>split<;>split<;>first | lia | (split<;>lia)
  rw[MB,VM,h,oa l (mx a f.1) c,MB,VM]
def Hy(h:1<=fs.length):mx 3 (1+S9 fs)=CF fs:=by
 match fs,h with
 |f::r,_=>exact(oa r f.1 3).symm
theorem qa:∀(l:List Int) (a:Int),a<=l.foldl mx a
 |[],a=>Int.le_refl a
 |b::l,a=>J4 (by unfold mx;split<;>lia) (qa l (mx a b))
theorem ua:∀(l:List Int) (a:Int),a<=b->(∀x∈l,x<=b)->l.foldl mx a<=b
 |[],_,h,_=>h
 |x::l,a,h,c=>ua l (mx a x) (by have:=c x (MG ..);unfold mx;split<;>omega) λy d=>c y (tD _ d)
def Gy(h:rH no ba oc fs):∃m:Nat,CF fs=(m:Int)/\3<=m/\m<=5:=by
 have c:3<=CF fs:=qa _ _
 have d:CF fs<=5:=ua _ _ (by decide) λx a=>by
  obtain⟨f,b,rfl⟩:=qF.mp a
  have:=(h.f f b).2.1
  lia
 exact⟨(CF fs).toNat,by lia,by lia,by lia⟩
def l7:FD .max [.l ((a::l).map D.int)]=aA (.i (l.foldl mx a)):=by
 show(match WD ((a::l).map D.int) with
  |some (i::r)=>aA (RV.sh (.int (r.foldl (λm y=>if y > m then y else m) i)))
  |_=>eA)=_
 rw[aAA];rfl
def wa(i:1<=fs.length)(u:fs.length<=3) :
  run T W (n+1) "n" [.sh (HA no ba oc fs rs)]=some (.ok (.i (CF fs)),[.sh (HA no ba oc fs rs)]):=by
 exists TX
 have l:aAb .of [.val (.sh (.t (fs.map toD)))] [.sh (HA no ba oc fs rs)]=aA (fs.map toD,eA):=lQ rfl
 obtain⟨a,v,e,⟨h,rfl,g,rfl⟩,_⟩:=EJ (tests:=KC T.cA (run T W n) []) (uC:=ev T.cA (run T W n) dA VW) (bind:=wB bA [1]) (ds:=fs.map toD)
  (λj a U=>∃(h:Sl),U=[.un,h]/\iB h=bA/\a=((fs.take j).map λf=>f.1).map D.int)
  (λj d hd a U m=>by
   obtain⟨h,rfl,g,rfl⟩:=m;obtain⟨f,o,rfl⟩:∃f,fs[j]?=aA f/\toD f=d:=by simpa using hd
   refine⟨_,bA,_,by simp only[ZC,nC g]<;>rfl,TK,λ_=>?_,λz=>nomatch z⟩;refine⟨.i f.1,[.un,.sh (toD f)], ?_,_,rfl,rfl, ?_⟩
   ·unfold VW toD
    walk_at "!vA cL"
   ·rw[YM,o,vD,vD]
    rfl)
  [] [.un,.un] ⟨_,rfl,rfl,rfl⟩
 have p:fs.take (fs.map toD).length=fs:=by(rw[AK];simp)
 rw[p] at e;have q:jB ((fs.map λf=>f.1).map D.int).length=bA:=VB (by simp;lia);have k:jB fs.length=bA:=VB (by lia)
 have s:FD .max [.l ((fs.map λf=>f.1).map D.int)]=aA (.i (S9 fs)):=by
  match fs,i with
  |f::r,_=>exact l7
 have t:=Hy i
 walk_at "!vA cL"
 rw[aH l]
 walk_at "!vA cL"
 all_goals (rw[RK rfl];walk_at "!vA cL")
def R9(t:fs.length<=3) :
  run T W (n+1) "u" [.sh (HA no ba oc fs rs)]=some (.ok (.i (CF fs)),[.sh (HA no ba oc fs rs)]):=by
 exists xX
 have m:aAb .of [.val (.sh (.t (fs.map toD)))] [.sh (HA no ba oc fs rs)]=aA (fs.map toD,eA):=lQ rfl
 obtain⟨a,v,e,⟨h,rfl,g,rfl⟩,_⟩:=EJ (tests:=KC T.cA (run T W n) []) (uC:=ev T.cA (run T W n) dA OW) (bind:=wB bA [1]) (ds:=fs.map toD)
  (λj a U=>∃(h:Sl),U=[.un,h]/\iB h=bA/\a=((fs.take j).map λf=>1+f.1).map D.int)
  (λj d hd a U o=>by
   obtain⟨h,rfl,g,rfl⟩:=o;obtain⟨f,p,rfl⟩:∃f,fs[j]?=aA f/\toD f=d:=by simpa using hd
   refine⟨_,bA,_,by simp only[ZC,nC g]<;>rfl,TK,λ_=>?_,λz=>nomatch z⟩;refine⟨.i (1+f.1),[.un,.sh (toD f)], ?_,_,rfl,rfl, ?_⟩
   ·unfold OW toD
    walk_at "!vA cL"
   ·rw[YM,p,vD,vD]
    rfl)
  [] [.un,.un] ⟨_,rfl,rfl,rfl⟩
 have q:fs.take (fs.map toD).length=fs:=by(rw[AK];simp)
 rw[q] at e;have r:jB ((fs.map λf=>1+f.1).map D.int).length=bA:=VB (by simp;lia);have i:jB fs.length=bA:=VB (by lia);have k:jB (1+fs.length)=bA:=VB (by lia);have l:jB (0+1+fs.length)=bA:=VB (by lia);have s:FD .max [.l (.int 3::(fs.map λf=>1+f.1).map D.int)]=aA (.i (CF fs)):=l7
 walk_at "!vA cL"
 rw[aH m]
 walk_at "!vA cL"
 all_goals (rw[RK rfl];walk_at "!vA cL")
def hI(m ba n:Int):Int:=if n<=m then n else m+(n-m) % ba
noncomputable def fK(m:Nat)(a:List Int):List Int:=a.drop (a.length-m)
def Bf(h:n<=m):hI m ba n=n:=MA h
def Cf(h:¬n<=m):hI m ba n=m+(n-m) % ba:=JA h
def oKa(c:0<=n)(d:3<=m)(e:1<=ba):0<=hI m ba n/\hI m ba n<=m+ba-1:=by
 unfold hI;split
 ·lia
 ·have a:=UO (n-m) (b:=ba) (by lia);have b:=RU (n-m) (b:=ba) (by lia)
  lia
def bKa(d:1<=ba):((fK m c).length:Int)=if(m:Int)<hI m ba c.length then(m:Int) else hI m ba c.length:=by
 unfold fK;rw[rK];unfold hI;by_cases h:(c.length:Int)<=(m:Int)
 ·rw[MA h,JA (by omega)];omega
 ·rw[JA h];have a:=UO ((c.length:Int)-m) (b:=ba) (by omega)
  split<;>omega
def aKa(h:x∈fK m a):x∈a:=oh h
def Df(a:rH no ba oc fs)(d:CF fs=(m:Int)) :
  run T W (n+2) "A" [.sh (HA no ba oc fs rs),.i k]=some (.ok (.i (hI m ba k)),[.sh (HA no ba oc fs rs),.i k]):=by
 exists fY
 have b:=wa (W:=W) (n:=n) (no:=no) (ba:=ba) (oc:=oc) (rs:=rs) a.l1 a.l2;rw[d] at b;have g1:0<ba:=by have:=a.b1;lia
 have g2:ba<100000000000000000000000000000000000000000000000000000000000000000000000000000000:=by have:=a.b2;lia
 by_cases c:k<=(m:Int)
 ·have e:decide (k<=(m:Int))=bA:=vB c;rw[Bf c]
  walk_at "!"
 ·have e:decide (k<=(m:Int))=dA:=cB c;rw[Cf c]
  walk_at "!"
def yo{m:Nat}(h:1<=m):bU (aA (.l (xs.map D.int))) (aA (.int (-(m:Int)))) eA=aA (.ow (.l ((fK m xs).map D.int))):=by
 show aA (RV.ow (.l (aAB (xs.map D.int) (aA (-(m:Int))) eA)))=_;unfold aAB fK
 have e:HT.fB (xs.map D.int).length 0 (aA (-(m:Int)))=xs.length-m:=by
  unfold HT.fB;rw[vA];show(if -(m:Int)<0 then _ else _)=_;rw[MA (by lia)]
  lia
 rw[e,HT.Pc,vA,<- A4,<- B4,AK (by rw[rK];lia)]
def wo{m:Nat}:bU (aA (.l (xs.map D.int))) (aA (.int (if(xs.length:Int)-(m:Int) > 0 then(xs.length:Int)-(m:Int) else 0))) eA=aA (.ow (.l ((fK m xs).map D.int))):=by
 have e1:(if(xs.length:Int)-(m:Int) > 0 then(xs.length:Int)-(m:Int) else 0)=((xs.length-m:Nat):Int):=by split<;>omega
 rw[e1];show aA (RV.ow (.l (aAB (xs.map D.int) (aA ((xs.length-m:Nat):Int)) eA)))=_;unfold aAB fK;rw[HT.YZ,HT.Pc,vA,sR (by omega),<- A4,<- B4,AK (by rw[rK];omega)]
def JM(m:Nat)(ba:Int)(a:List Int):D:=.t [.int (hI m ba a.length),.t ((fK m a).map D.int)]
def qIa{m:Nat}{xs:List Int}(a:rH no ba oc fs)(b:CF fs=(m:Int))(d:3<=m) :
  run T W (n+3) "B" [.sh (HA no ba oc fs rs),.p (.l (xs.map D.int))]=some (.ok (.sh (JM m ba xs)),[.sh (HA no ba oc fs rs),.p (.l (xs.map D.int))]):=by
 exists bY
 unfold JM;have c:=wa (W:=W) (n:=n+1) (no:=no) (ba:=ba) (oc:=oc) (rs:=rs) a.l1 a.l2;rw[b] at c;have e:=Df (W:=W) (n:=n) (rs:=rs) (k:=(xs.length:Int)) a b;have h:=yo (xs:=xs) (m:=m) (by lia);clear a b d
 walk_at "!Df vA"
def Hx{m:Nat}{xs:List Int}(a:rH no ba oc fs)(e:CF fs=(m:Int)) :
  run T W (n+2) "E" [.sh (HA no ba oc fs rs),.p (.l (xs.map D.int))]=some (.ok (.sh (JM m ba xs)),[.sh (HA no ba oc fs rs),.p (.l (xs.map D.int))]):=by
 exists DX
 unfold JM;have b:=R9 (W:=W) (n:=n) (no:=no) (ba:=ba) (oc:=oc) (rs:=rs) a.l2;rw[e] at b;have g1:0<ba:=by have:=a.b1;lia
 have g2:ba<100000000000000000000000000000000000000000000000000000000000000000000000000000000:=by have:=a.b2;lia
 have g:=wo (xs:=xs) (m:=m);by_cases c:(xs.length:Int)<=(m:Int)
 ·have f:decide ((m:Int)<(xs.length:Int))=dA:=cB (by lia);rw[Bf c]
  walk_at "!vA"
 ·have f:decide ((m:Int)<(xs.length:Int))=bA:=vB (by lia);rw[Cf c]
  walk_at "!vA"
abbrev Br:=List Int->Nat->List (List Int)
abbrev RP:=D×D×Br
def ZZ(o h:D)(a:List Int)(b:Nat):List Sl:=[.sh o,.sh h,.p (.l (a.map D.int)),.i b]
structure RX(no ba oc:Int)(fs:List (Int×Int×Bool))(rs:List D)(m:Nat)(p:RP):Prop where
 ob:∃c ns ds f q,p.2.1=.ins c ns ds/\DF c ns "broken" eI=aA f/\T.cA f=[bA,bA,bA,q] /\
  ∀(W n:Nat) (xs:List Int) (b:Nat),b<xs.length->(∀x∈xs,0<=x/\x<no)->run T W (n+4) f (ZZ (.ins c ns ds) (HA no ba oc fs rs) xs b)=some (.ok (.ow (.l (NA (p.2.2 xs b)))),ZZ (.ins c ns ds) (HA no ba oc fs rs) xs b)
 ru:∀(W n:Nat),run T W (n+1) "c" [.sh p.1]=some (.ok (.sh p.2.1),[.sh p.1])
 lw:∀(W n:Nat) (xs:List Int) (b:Nat),b<xs.length->(∀x∈xs,0<=x/\x<no)->run T W (n+3) "e" [.sh (HA no ba oc fs rs),.sh p.1,.p (.l (xs.map D.int)),.i b]=some (.ok (.ow (.l (NA (p.2.2 xs b)))),[.sh (HA no ba oc fs rs),.sh p.1,.p (.l (xs.map D.int)),.i b])
 len:∀xs b,(p.2.2 xs b).length<=1000
def oGa{m:Nat}(l:rH no ba oc fs)(F:CF fs=(m:Int))(H:3<=m)(h:RG no ba oc (fs.length:Int) d):∃o B,RX no ba oc fs rs m (d,o,B):=by
 have l2:=l.l2;have o1:=l.o1;have o2:=l.o2;have b1:=l.b1;have n2:=l.n2
 have C:∀f∈cD fs,0<=f.1:=λf t=>by
  rcases WC.mp t with rfl | t
  ·decide
  ·exact(l.f f t).1
 have i:fs.length<=20:=by lia
 have u:fs.length<=900:=by lia
 have y:fs.length<=1000:=by lia
 cases h with
 |span a b p q j z =>
  exact⟨_,λc e=>BH a b ba oc fs c (e:Int),⟨_,_,_,_,bA,rfl,Yy,Mj,λW n c e _ _=>iIa i j (by lia) (by lia)⟩,λW n=>hGa,λW n c e _ _=>Dm (n:=n+1) i (by lia) o1 o2,λc e=>hIa i⟩
 |leap a p q =>
  exact⟨_,λc e=>LD (RI a c e),⟨_,_,_,_,dA,rfl,Vy,Ij,λW n c e g _=>Vx (n:=n+3) g⟩,λW n=>eGa,λW n c e g _=>Am (n:=n+1) y g,λc e=>vZ⟩
 |back a b p q j z =>
  exact⟨_,λc e=>LD (xG a b c e),⟨_,_,_,_,dA,rfl,Uy,pj,λW n c e g r=>Bl (n:=n+3) g λx s=>⟨(r x s).1,by have:=(r x s).2;lia⟩⟩,λW n=>dGa,λW n c e g _=>ym (n:=n+1) y g p,λc e=>vZ⟩
 |again a p q =>
  obtain⟨k,rfl⟩:∃k:Nat,a=(k:Int):=⟨a.toNat,by lia⟩
  exact⟨_,λc e=>LD (wG k c e),⟨_,_,_,_,dA,rfl,Sy,oj,λW n c e g _=>Hk (n:=n+3) g (by lia)⟩,λW n=>cGa,λW n c e g _=>xm (n:=n+1) y g (by lia) (by lia),λc e=>vZ⟩
 |range a b p q j =>
  exact⟨_,λc e=>YJ a b fs c (e:Int),⟨_,_,_,_,bA,rfl,Xy,Kj,λW n c e _ _=>nFa u⟩,λW n=>gGa,λW n c e _ _=>Cm (n:=n+1) u,λc e=>wZ (by lia)⟩
 |above v w p q j =>
  exact⟨_,λc e=>oP fs c (e:Int) v w,⟨_,_,_,_,bA,rfl,Ry,mj,λW n c e _ _=>Bk (n:=n+1) (by lia) (by lia)⟩,λW n=>bGa,λW n c e _ _=>wm (n:=n+1) u (by lia) (by lia),λc e=>sKa⟩
 |never a b x p q j z A =>
  exact⟨_,λc e=>fL a b oc x fs c (e:Int),⟨_,_,_,_,bA,rfl,Wy,Jj,λW n c e g r=>Kz i (by lia) A (X7 l r g)⟩,λW n=>fGa,λW n c e g r=>Bm i (by lia) (by lia) A (X7 l r g) C,λc e=>MT (by lia)⟩
theorem Oc{m:Nat}(e:rH no ba oc fs)(f:CF fs=(m:Int))(g:3<=m):∀a:List D,(∀d∈a,RG no ba oc (fs.length:Int) d)->∃b:List RP,b.map (·.1)=a/\∀p∈b,RX no ba oc fs rs m p
 |[],_=>⟨[],rfl,λ_ z=>nomatch z⟩
 |d::a,h=>by
  obtain⟨b,i,j⟩:=Oc e f g a λk hd=>h k (tD _ hd)
  obtain⟨o,l,n⟩:=oGa e f g (h d MG);refine⟨(d,o,l)::b,by rw[MB,i],λp c=>?_⟩;rcases WC.mp c with rfl | c
  ·exact n
  ·exact j p c
def kv(h:U[i]?=aA (.ow (.l a) p l)):aAb (.enum lo) [.slot i] U=aA (yG lo a,aA i):=by(unfold aAb;simp only[h])
def my{bind:D->Env->Option Env}(ok:D->Bool)(v:RV)(I:Env->Prop)(h:∀d∈ds,∀U,I U->∃e,bind d U=aA e/\∃a,body e=aA (if ok d=bA then .nx else .rt v,a)/\I a) :
  ∀{U:Env},I U->∃b,gD bind body ds U=aA (if ds.all ok=bA then .nx else .rt v,b)/\I b:=by
 induction ds with
 |nil=>exact λf=>⟨_,rfl,f⟩
 |cons d ds j =>
  intro U f;obtain⟨e,e1,a,e2,i⟩:=h d (by simp) U f
  cases c:ok d with
  |true =>
   obtain⟨b,k,l⟩:=j (λm g=>h m (by simp[g])) i;rw[c,MA rfl] at e2;exact⟨b,by simp only[gD,e1,e2,k,kC,c,mJ],l⟩
  |false =>
   rw[c,JA (by decide)] at e2;exact⟨a,by simp only[gD,e1,e2,kC,c,FL];rfl,i⟩
section
variable{no ba oc:Int}{fs:List (Int×Int×Bool)}{rs:List D}{m:Nat}{ps:List RP}
theorem jGa(a:ps.map (·.1)=rs)(i:∀p∈ps,RX no ba oc fs rs m p)(h:rs.length<=8):run T W (n+2) "z" [.sh (HA no ba oc fs rs)]=some (.ok (.ow (.l (ps.map (·.2.1)))),[.sh (HA no ba oc fs rs)]):=by
 exists XX
 have k:ps.length<=8:=by rw[<- a,vA] at h;exact h
 have l:aAb .of [.val (.sh (.t rs))] [.sh (HA no ba oc fs rs)]=aA (rs,eA):=lQ rfl
 obtain⟨b,s,e,⟨g,rfl,c,rfl⟩,_⟩:=EJ (tests:=KC T.cA (run T W (n+1)) []) (uC:=ev T.cA (run T W (n+1)) dA XW) (bind:=wB bA [1]) (ds:=rs)
  (λj b U=>∃(g:Sl),U=[.un,g]/\iB g=bA/\b=(ps.take j).map (·.2.1))
  (λj d hd b U o=>by
   obtain⟨g,rfl,c,rfl⟩:=o
   obtain⟨p,f,rfl⟩:∃p,ps[j]?=aA p/\p.1=d:=by
    rw[<- a,jD] at hd
    cases q:ps[j]? with
    |none=>rw[q] at hd;cases hd
    |some p=>rw[q] at hd;exact⟨p,rfl,kD hd⟩
   have t:=(i p (pF f)).ru W n;refine⟨_,bA,_,by simp only[ZC,nC c]<;>rfl,TK,λ_=>?_,λz=>nomatch z⟩;refine⟨.sh p.2.1,[.un,.sh p.1], ?_,_,rfl,rfl,by rw[YM,f,vD];rfl⟩;unfold XW
   walk_at "!")
  [] [.un,.un] ⟨_,rfl,rfl,rfl⟩
 rw[show rs.length=ps.length by rw[<- a,vA],XU] at e;have r:jB (ps.map (·.2.1)).length=bA:=VB (by simp;lia)
 walk_at "!"
 rw[aH l]
 walk_at "!"
 all_goals (rw[RK rfl];walk_at "!")
def uH(ps:List RP)(a:List Int)(b:Nat):Nat:=(ps.map λp=>(p.2.2 a b).length).sum
theorem a6:∀(ps:List RP),(∀p∈ps,(p.2.2 a b).length<=1000)->uH ps a b<=1000*ps.length
 |[],_=>by simp[uH]
 |p::ps,h=>by
  have e:=h p MG;have c:=a6 ps λq d=>h q (tD _ d)
  unfold uH at c ⊢;rw[MB,Mi,YB]
  lia
theorem vm{b:Nat}(B:∀p∈ps,RX no ba oc fs rs m p)(Y:ps.length<=8)(O:b<xs.length)(P:∀x∈xs,0<=x/\x<no) :
  ∃L:List D,run T W (n+5) "m" [.sh (HA no ba oc fs rs),.p (.l (ps.map (·.2.1))),.p (.l (xs.map D.int)),.i b]=some (.ok (.ow (.l L)),[.sh (HA no ba oc fs rs),.p (.l (ps.map (·.2.1))),.p (.l (xs.map D.int)),.i b])/\L.length=uH ps xs b:=by
 exists OX
 have hi:aAb (.enum 0) [.slot 1] [.sh (HA no ba oc fs rs),.p (.l (ps.map (·.2.1))),.p (.l (xs.map D.int)),.i b,.o (.l []),.un,.un,.un]=aA (yG 0 (ps.map (·.2.1)),aA 1):=kv rfl
 obtain⟨U1,e1,L,z,A,e,rfl,C,F,s,t⟩:=ZK (bind:=wB dA [5,6]) (body:=KA T.cA (run T W (n+4)) W sW)
  (λpre U=>∃(L:List D) (z A e:Sl),U=[.sh (HA no ba oc fs rs),.un,.p (.l (xs.map D.int)),.i b,.o (.l L),z,A,e]/\iB z=bA/\iB A=bA/\iB e=bA/\L.length=uH (ps.take pre.length) xs b)
  (ds:=yG 0 (ps.map (·.2.1))) (λpre d post k U H=>by
   obtain⟨L,z,A,e,rfl,C,F,s,t⟩:=H
   have h:pre.length<ps.length:=by
    have:=congrArg EH k
    rw[AN,vA,NC,YB] at this
    lia
   obtain⟨p,g⟩:∃p,ps[pre.length]?=aA p:=⟨_,pC h⟩
   have hd:d=.t [.int (0+(pre.length:Int)),p.2.1]:=by(have q:=bX (lo:=0) (ds:=ps.map (·.2.1)) (i:=pre.length) (d:=p.2.1) (by rw[jD,g];rfl);rw[k,LL (kB _),ZO] at q;exact kD q)
   subst hd;refine⟨_,by simp only[ZC,nC C,nC F]<;>rfl, ?_⟩;have l:=B p (pF g);have r:=l.len xs b;have u:=a6 (ps.take pre.length) λq hq=>(B q (ph hq)).len xs b
   rw[iI] at u
   have Q:uH (ps.take (pre++[D.t [D.int (0+(pre.length:Int)),p.2.1]]).length) xs b=uH (ps.take pre.length) xs b+(p.2.2 xs b).length:=by(rw[NC,YB,pH,YM,g];unfold uH;simp)
   rw[Q];obtain⟨c,v,ds,f,q,R,I,J,j⟩:=l.ob;have X:=j W n xs b O P;unfold ZZ at X;rw[R]
   generalize p.2.2 xs b=Z at *
   have K:aAb .of [.val (.ow (.l (NA Z)))] [.sh (HA no ba oc fs rs),.un,.p (.l (xs.map D.int)),.i b,.o (.l L),.i (0+(pre.length:Int)),.sh (.ins c v ds),e]=aA (NA Z,eA):=fT rfl
   obtain⟨U2,e2,L2,M,rfl,N,a⟩:=ZK (bind:=wB bA [7]) (body:=KA T.cA (run T W (n+4)) W rW)
    (λpr U=>∃(L2:List D) (e:Sl),U=[.sh (HA no ba oc fs rs),.un,.p (.l (xs.map D.int)),.i b,.o (.l L2),.i (0+(pre.length:Int)),.sh (.ins c v ds),e]/\iB e=bA/\L2.length=L.length+pr.length)
    (ds:=NA Z) (λpr d po y U H=>by
     obtain⟨L2,e,rfl,s,a⟩:=H;refine⟨_,by simp only[ZC,nC s]<;>rfl, ?_⟩
     have hz:pr.length<=1000:=by
      have:=congrArg EH y
      rw[gI,NC] at this
      lia
     have cQ:jB (L2.length+1)=bA:=VB (by lia);refine⟨[.sh (HA no ba oc fs rs),.un,.p (.l (xs.map D.int)),.i b,.o (.l (L2++[.t [.int b,.int (0+(pre.length:Int)),d]])),.i (0+(pre.length:Int)),.sh (.ins c v ds),.sh d], ?_,_,_,rfl,rfl,by rw[NC,NC,a];rfl⟩;unfold rW;clear B Y O P hi t h g l r u Q R I J j X K y hz a C F s k
     walk_at "!")
    (U:=[.sh (HA no ba oc fs rs),.un,.p (.l (xs.map D.int)),.i b,.o (.l L),.i (0+(pre.length:Int)),.sh (.ins c v ds),e]) ⟨L,_,rfl,s,by simp⟩
   rw[gI] at a;refine⟨[.sh (HA no ba oc fs rs),.un,.p (.l (xs.map D.int)),.i b,.o (.l L2),.i (0+(pre.length:Int)),.sh (.ins c v ds),M], ?_,_,_,_,_,rfl,rfl,rfl,N,by rw[a,t]⟩;unfold sW
   cases q<;>walk_at "!")
  (U:=[.sh (HA no ba oc fs rs),.un,.p (.l (xs.map D.int)),.i b,.o (.l []),.un,.un,.un]) ⟨[],_,_,_,rfl,rfl,rfl,rfl,by simp[uH]⟩
 rw[AN,vA,XU] at t;refine⟨L, ?_,t⟩
 walk_at "!"
 simp only[aAg,QM,GO,e1,Run.restore,aAs,nH,XQ,WE]
 walk_at "!"
end
section
variable{no ba oc:Int}{fs:List (Int×Int×Bool)}{rs:List D}{m:Nat}{ps:List RP}
def Ec:(AB z [x]).flatten=AB z x:=by
 induction z with
 |zero=>rfl
 |succ z a=>rw[wL,RM,a];rfl
noncomputable def ND(z:Nat)(a:List Int):List Int:=AB z 0++a
noncomputable def UE(z:Nat)(a:List Int):D:=.t [.int ((z:Int)+(a.length:Int)),.t (a.map D.int)]
theorem D1:(ND z a).length=z+a.length:=by unfold ND;simp
theorem V9(c:z<=100)(d:a.length<=1000):run T W (n+1) "o" [.sh (UE z a)]=some (.ok (.ow (.l ((ND z a).map D.int))),[.sh (UE z a)]):=by
 exists SX
 unfold UE;have e:(z:Int)+(a.length:Int)-(a.length:Int)=(z:Int):=by lia
 have e1:UB .Mult (.l [.int 0]) (.int z)=aA (.ow (.l (AB z (.int 0)))):=by(rw[tP (by lia) (by lia) (gF (by simp;lia)),HH,Ec])
 have e2:UB .Add (.l (AB z (.int 0))) (.l (a.map D.int))=aA (.ow (.l ((ND z a).map D.int))):=by(rw[uN (gF (by simp;lia))];unfold ND;rw[vD,Lh])
 walk_at "!vA"
def eW:a.map D.int++[D.int q]=(a++[q]).map D.int:=by rw[vD];rfl
def EG(ps:List RP)(a:List Int)(q:Int):Bool:=decide (((uH ps (a++[q]) a.length:Nat):Int)=0)
theorem KY{k:Nat}(h:k<=1000):aAb .gC [.val (.i k)] U=aA (rg k,eA):=by
 refine yK (UK (n:=(k:Int)) rfl (by lia) (by lia)) ?_;rw[HH]
noncomputable def YG(k:Nat)(ok:Int->Bool):List Int:=((qC k).filter λ(j:Nat)=>ok (j:Int)).map λ(j:Nat)=>(j:Int)
def Tr:((qC k).filter λ(j:Nat)=>ok (j:Int)).map (λ(j:Nat)=>D.int j)=(YG k ok).map D.int:=by unfold YG;rw[wK];rfl
theorem Ur(h:x∈YG k ok):0<=x/\x<k:=by
 obtain⟨j,a,rfl⟩:=qF.mp h
 have:=vR.mp (pR.mp a).1
 lia
def LN:(YG k ok).length<=k:=by
 unfold YG;rw[vA];exact TB (KU _ _) (by rw[lR];exact kB _)
theorem Nz{k z:Nat}(hk:no=(k:Int))(N:k<=7)(c:ps.map (·.1)=rs)(s:∀p∈ps,RX no ba oc fs rs m p)(r:rs.length<=8)(O:z<=100)(P:q.length<=1000)(v:∀x∈q,0<=x/\x<no) :
  run T W (n+6) "p" [.sh (HA no ba oc fs rs),.sh (UE z q)]=some (.ok (.ow (.l ((YG k (EG ps (ND z q))).map D.int))),[.sh (HA no ba oc fs rs),.sh (UE z q)]):=by
 exists VX
 have i:ps.length<=8:=by rw[<- c,vA] at r;exact r
 have J:=jGa (W:=W) (n:=n+3) c s r;have K:=V9 (W:=W) (n:=n+4) O P;have B:∀{U:Env},aAb .gC [.val (.i no)] U=aA (rg k,eA):=λ{U}=>by rw[hk];exact KY (by lia)
 have t:fG (aA (HA no ba oc fs rs)) (.int 0)=aA (.i no):=rfl
 have l:∀x∈ND z q,0<=x/\x<no\/x=0:=λx y=>by
  unfold ND at y;rcases SD.mp y with h | h
  ·exact .inr (Mg h)
  ·exact .inl (v x h)
 have f:(ND z q).length<=1100:=by rw[D1];lia
 generalize ND z q=a at *
 obtain⟨Y,e,A,rfl,g⟩:=lS (tests:=KC T.cA (run T W (n+5)) [.CA .Eq (.bif .len [.call "m" [.v 0,.v 2,.yA .Add (.v 1) (.l [.v 4]),.bif .len [.v 1]]]) (.c (.int 0))]) (uC:=ev T.cA (run T W (n+5)) dA WW) (bind:=wB bA [4]) (ds:=rg k)
  (λj=>EG ps a (j:Int)) (λj=>.int j) (λU=>∃A,U=[.sh (HA no ba oc fs rs),.p (.l (a.map D.int)),.p (.l (ps.map (·.2.1))),.un,A]/\iB A=bA)
  (λj d hd U Q=>by
   obtain⟨A,rfl,g⟩:=Q
   have C:j<k:=by
    have:=(BD.mp hd).1
    simpa using this
   have F:d=.int j:=by(rw[jD,yL C] at hd;exact(kD hd).symm)
   subst F
   have u:UB .Add (.l (a.map D.int)) (.l [.int j])=aA (.ow (.l ((a++[(j:Int)]).map D.int))):=by(rw[uN (gF (by simp;lia)),eW])
   obtain⟨L,R,H⟩:=vm (W:=W) (n:=n) (xs:=a++[(j:Int)]) (b:=a.length) s i (by simp) (λx y=>by
    rcases SD.mp y with h | h
    ·rcases l x h with h | h
     ·exact h
     ·subst h;lia
    ·rw[RD.mp h];lia)
   have I:decide ((L.length:Int)=0)=EG ps a (j:Int):=by rw[H];rfl
   refine⟨_,[.sh (HA no ba oc fs rs),.p (.l (a.map D.int)),.p (.l (ps.map (·.2.1))),.un,.i j],by simp only[ZC,nC g]<;>rfl, ?_,λ_=>⟨.i j,[.sh (HA no ba oc fs rs),.p (.l (a.map D.int)),.p (.l (ps.map (·.2.1))),.un,.i j], ?_,rfl,.i j,rfl,rfl⟩,λ_=>⟨.i j,rfl,rfl⟩⟩
   ·clear hd C H s r i l f J K B t g c v hk
    walk_at "!vA"
   ·unfold WW;clear hd C H s r i l f J K B t g c v hk u R I
    walk_at "!vA")
  [.sh (HA no ba oc fs rs),.p (.l (a.map D.int)),.p (.l (ps.map (·.2.1))),.un,.un] ⟨_,rfl,rfl⟩
 rw[vA,lR,Tr] at e;have X:jB ((YG k (EG ps a)).map D.int).length=bA:=VB (by rw[vA];have:=LN (k:=k) (ok:=EG ps a);lia);have M:jB (YG k (EG ps a)).length=bA:=VB (by have:=LN (k:=k) (ok:=EG ps a);lia);clear s r i l f c v hk g
 walk_at "!vA"
 rw[aH B]
 walk_at "!vA"
 all_goals (first | done | (rw[RK rfl];walk_at "!vA"))
def n6:DB .NotEq (.l (NA Z)) (.l [])=aA (!Z.isEmpty):=by
 rw[l6 (f_ Z) rfl];cases Z<;>rfl
theorem b6:∀(ps:List RP),decide (((uH ps xs b:Nat):Int)=0)=ps.all λp=>(p.2.2 xs b).isEmpty
 |[]=>rfl
 |p::ps=>by(have a:=b6 (xs:=xs) (b:=b) ps;rw[kC,<- a];unfold uH;rw[MB,Mi,Bi];cases p.2.2 xs b<;>simp<;>lia)
theorem As(g:ps.map (·.1)=rs)(j:∀p∈ps,RX no ba oc fs rs m p)(k:∀x∈xs++[q],0<=x/\x<no) :
  run T W (n+4) "G" [.sh (HA no ba oc fs rs),.p (.l ((xs++[q]).map D.int))]=some (.ok (.b (EG ps xs q)),[.sh (HA no ba oc fs rs),.p (.l ((xs++[q]).map D.int))]):=by
 exists vX
 unfold EG;rw[b6];have H:aAb .of [.val (.sh (.t rs))] [.sh (HA no ba oc fs rs),.p (.l ((xs++[q]).map D.int)),.un]=aA (rs,eA):=lQ rfl;have z:(((xs++[q]).length:Nat):Int)-1=(xs.length:Int):=by rw[NC,YB,pH];lia
 have o:xs.length<(xs++[q]).length:=by simp
 obtain⟨ok,f⟩:∃ok:D->Bool,∀p∈ps,ok p.1=(p.2.2 (xs++[q]) xs.length).isEmpty:=by
  refine⟨λd=>@decide (∃p∈ps,p.1=d/\(p.2.2 (xs++[q]) xs.length).isEmpty=bA) (cl _),λp b=>?_⟩
  cases c:(p.2.2 (xs++[q]) xs.length).isEmpty with
  |true=>exact @vB _ (cl _) ⟨p,b,rfl,c⟩
  |false =>
   refine @cB _ (cl _) λA=>?_
   obtain⟨B,r,e,s⟩:=A;have C:=(j p b).lw 0 0 (xs++[q]) xs.length o k;have a:=(j B r).lw 0 0 (xs++[q]) xs.length o k;rw[e,C] at a
   injection a with a
   injection a with a
   injection a with a
   injection a with a
   injection a with a
   have l:=congrArg EH a;rw[gI,gI] at l;rw[Ag] at s;rw[<- l,<- Ag,c] at s;cases s
 have i:(ps.all λp=>(p.2.2 (xs++[q]) xs.length).isEmpty)=rs.all ok:=by(rw[<- g,Si];rw[Bi,IH,IH];exact⟨λh p b=>by show ok p.1=bA;rw[f p b];exact h p b,λh p b=>by rw[<- f p b];exact h p b⟩)
 rw[i]
 obtain⟨I,e1,t,rfl,y⟩:=my (bind:=wB bA [2]) (body:=KA T.cA (run T W (n+3)) W lW) ok (.b dA)
  (λU=>∃t,U=[.sh (HA no ba oc fs rs),.p (.l ((xs++[q]).map D.int)),t]/\iB t=bA) (ds:=rs) (λd hd U F=>by
   obtain⟨t,rfl,y⟩:=F;rw[<- g] at hd;obtain⟨p,b,rfl⟩:=qF.mp hd;refine⟨_,by simp only[ZC,nC y]<;>rfl, ?_⟩;have J:=(j p b).lw W n (xs++[q]) xs.length o k;rw[f p b]
   generalize p.2.2 (xs++[q]) xs.length=Z at *
   refine⟨[.sh (HA no ba oc fs rs),.p (.l ((xs++[q]).map D.int)),.sh p.1], ?_,_,rfl,rfl⟩;unfold lW
   generalize xs++[q]=K at *
   cases c:Z.isEmpty<;>walk_at "!n6 vA")
  (U:=[.sh (HA no ba oc fs rs),.p (.l ((xs++[q]).map D.int)),.un]) ⟨_,rfl,rfl⟩
 cases c:rs.all ok<;>rw[c] at e1<;>walk_at "!n6 vA"
end
section
variable{no ba oc:Int}{fs:List (Int×Int×Bool)}{rs:List D}{m:Nat}{ps:List RP}
theorem Il(c:rH no ba oc fs)(d:CF fs=(m:Int))(e:3<=m)(f:z<=100)(g:a.length<=1000) :
  run T W (n+4) "j" [.sh (HA no ba oc fs rs),.sh (UE z a),.i q]=some (.ok (.sh (JM m ba (ND z a++[q]))),[.sh (HA no ba oc fs rs),.sh (UE z a),.i q]):=by
 exists NX
 have i:=V9 (W:=W) (n:=n+2) f g
 have b:UB .Add (.l ((ND z a).map D.int)) (.l [.int q])=aA (.ow (.l ((ND z a++[q]).map D.int))):=by(rw[uN (gF (by simp[D1];lia)),eW])
 have k:=qIa (W:=W) (n:=n) (rs:=rs) (xs:=ND z a++[q]) c d e
 walk_at "!vA"
end
def xFa(h:(rg n)=pre++d::post):d=.int pre.length/\pre.length<n:=by
 have b:=congrArg EH h;rw[vA,lR,NC,YB] at b;have a:(rg n)[pre.length]?=aA d:=by rw[h,LL (kB _),ZO];rfl
 rw[jD,yL (by lia)] at a;exact⟨(kD a).symm,by lia⟩
def Vr:YG (k+1) ok=YG k ok++(if ok (k:Int)=bA then [(k:Int)] else []):=by
 unfold YG;rw[uR,SU,vD];by_cases h:ok (k:Int)=bA
 ·rw[MA h,List.filter_cons_of_pos (p:=λ(j:Nat)=>ok (j:Int)) h];rfl
 ·rw[JA h,List.filter_cons_of_neg (p:=λ(j:Nat)=>ok (j:Int)) h];rfl
section
variable{no ba oc:Int}{fs:List (Int×Int×Bool)}{rs:List D}{m:Nat}{ps:List RP}
def In(no:Int)(a:List Int):Prop:=∀x∈a,0<=x/\x<no
def In.app(h:In no xs)(k:In no j):In no (xs++j):=λx hx=>(SD.mp hx).elim (h x) (k x)
def In.one(h:0<=q/\q<no):In no [q]:=λx hx=>by rw[RD.mp hx];exact h
theorem b5(h:In no b)(c:1<=no):In no (ND z b):=λx a=>by
 unfold ND at a;rcases SD.mp a with a | a
 ·rw[Mg a];lia
 ·exact h x a
theorem Pk(c:z<=100)(d:a.length<=1000):run T W (n+1) "F" [.sh (UE z a)]=some (.ok (.ow (.l ((ND z a).map D.int))),[.sh (UE z a)]):=by
 exists sX
 unfold UE;have e:(z:Int)+(a.length:Int)-(a.length:Int)=(z:Int):=by lia
 have e1:UB .Mult (.l [.int 0]) (.int z)=aA (.ow (.l (AB z (.int 0)))):=by(rw[tP (by lia) (by lia) (gF (by simp;lia)),HH,Mx.Ec])
 have e2:UB .Add (.l (AB z (.int 0))) (.l (a.map D.int))=aA (.ow (.l ((ND z a).map D.int))):=by(rw[uN (gF (by simp;lia))];unfold ND;rw[vD,Lh])
 walk_at "!vA"
def T1(m:Nat)(ba:Int)(a:List Int)(q:Int):D:=.t [.int q,JM m ba (a++[q])]
def NM(m:Nat)(ba:Int)(ps:List RP)(a:List Int)(k:Nat):List D:=(YG k (EG ps a)).map (T1 m ba a)
theorem fLa{u z:Nat}{f:List Int}(s:rH no ba oc fs)(x:CF fs=(m:Int))(hk:no=(u:Int))(h:ps.map (·.1)=rs)(y:∀p∈ps,RX no ba oc fs rs m p)(A:z<=100)(B:f.length<=1000)(C:In no f) :
  run T W (n+5) "v" [.sh (HA no ba oc fs rs),.sh (UE z f)]=some (.ok (.ow (.l (NM m ba ps (ND z f) u))),[.sh (HA no ba oc fs rs),.sh (UE z f)]):=by
 exists EX
 have n1:=s.n1;have n2:=s.n2;have J:∀{U:Env},aAb .gC [.val (.i no)] U=aA (rg u,eA):=λ{U}=>by rw[hk];exact KY (by lia)
 have X:=Pk (W:=W) (n:=n+3) A B;have i:=b5 (z:=z) C (by lia);have g:(ND z f).length<=1100:=by rw[D1];lia
 generalize ND z f=c at *
 obtain⟨Y,e,j,F,H,rfl,_,_,a⟩:=ZK (bind:=wB bA [3]) (body:=KA T.cA (run T W (n+4)) W pW)
  (λpre U=>∃j F H,U=[.sh (HA no ba oc fs rs),.sh (UE z f),.o (.l j),F,H]/\iB F=bA/\iB H=bA/\j=NM m ba ps c pre.length)
  (ds:=rg u) (λpre d post r U N=>by
   obtain⟨j,F,H,rfl,I,Z,a⟩:=N;obtain⟨rfl,K⟩:=xFa r;refine⟨_,by simp only[ZC,nC I]<;>rfl, ?_⟩
   have hc:UB .Add (.l (c.map D.int)) (.l [.int pre.length])=aA (.ow (.l ((c++[(pre.length:Int)]).map D.int))):=by(rw[uN (gF (by simp;lia)),eW])
   have O:=As (W:=W) (n:=n) (xs:=c) (q:=(pre.length:Int)) h y (i.app (In.one (by lia)));have P:=Hx (W:=W) (n:=n+2) (rs:=rs) (xs:=c++[(pre.length:Int)]) s x
   have Q:jB (j.length+1)=bA:=VB (by
    have:=LN (k:=pre.length) (ok:=EG ps c)
    rw[a,NM,vA];lia)
   have l:NM m ba ps c (pre.length+1)=j++(if EG ps c (pre.length:Int)=bA then [T1 m ba c (pre.length:Int)] else []):=by
    rw[a,NM,Vr,vD];congr 1
    split<;>rfl
   rw[NC,HU,l];unfold T1
   generalize (pre.length:Int)=q at *
   generalize JM m ba (c++[q])=R at *
   generalize c++[q]=M at *
   generalize EG ps c q=b at *
   unfold pW;clear a l
   cases b with
   |true =>
    refine⟨[.sh (HA no ba oc fs rs),.sh (UE z f),.o (.l (j++[.t [.int q,R]])),.i q,.o (.l (M.map D.int))], ?_,_,_,_,rfl,rfl,rfl,rfl⟩;clear y h C i g s x hk A B r K I n1 n2 J
    walk_at "!vA"
   |false =>
    refine⟨[.sh (HA no ba oc fs rs),.sh (UE z f),.o (.l j),.i q,.o (.l (M.map D.int))], ?_,_,_,_,rfl,rfl,rfl,(DD j).symm⟩;clear y h C i g s x hk A B r K I n1 n2 J
    walk_at "!vA")
  (U:=[.sh (HA no ba oc fs rs),.sh (UE z f),.o (.l []),.un,.un]) ⟨[],_,_,rfl,rfl,rfl,rfl⟩
 rw[vA,lR] at a;subst a;clear y h C i g s x hk A B n1 n2
 walk_at "!vA"
end
structure VK(no ba:Int)(m:Nat)(k:L2.XA):Prop where
 t0:0<=k.1
 t1:k.1<=(m:Int)+ba-1
 tl:(k.2.length:Int)=if(m:Int)<k.1 then(m:Int) else k.1
 xs:In no k.2
def wM(k:L2.XA):List Int:=ND (k.1-k.2.length).toNat k.2
def fU(m:Nat)(ba:Int)(a:List Int):L2.XA:=(hI m ba a.length,fK m a)
section
variable{no ba oc:Int}{fs:List (Int×Int×Bool)}{rs:List D}{m kn:Nat}{ps:List RP}{k:L2.XA}
theorem VK.le(h:VK no ba m k):(k.2.length:Int)<=k.1:=by
 have:=h.tl
 split at this<;>lia
theorem VK.st(h:VK no ba m k):uA k=UE (k.1-k.2.length).toNat k.2:=by
 have:=h.le
 unfold uA UE;rw[Ah (by lia),Int.sub_add_cancel]
structure HK(no ba oc:Int)(fs:List (Int×Int×Bool))(rs:List D)(m kn:Nat)(ps:List RP):Prop where
 ho:rH no ba oc fs
 hm:CF fs=(m:Int)
 h3:3<=m
 h5:m<=5
 hk:no=(kn:Int)
 Y7:ps.map (·.1)=rs
 hp:∀p∈ps,RX no ba oc fs rs m p
 hl:rs.length<=8
theorem HK.z(H:HK no ba oc fs rs m kn ps)(h:VK no ba m k):(k.1-k.2.length).toNat<=100/\k.2.length<=1000:=by
 have:=h.t1;have:=h.le;have:=H.h5;have:=H.ho.b2
 lia
theorem HK.k7(H:HK no ba oc fs rs m kn ps):kn<=7:=by have:=H.ho.n2;have:=H.hk;lia
def HK.line(H:HK no ba oc fs rs m kn ps)(h:VK no ba m k):In no (wM k):=b5 h.xs H.ho.n1
theorem HK.next(H:HK no ba oc fs rs m kn ps)(h:In no xs):VK no ba m (fU m ba xs):=by
 have b1:=H.ho.b1;have h3:=H.h3;have j:=oKa (m:=(m:Int)) (ba:=ba) (n:=(xs.length:Int)) (by lia) (by lia) b1;exact⟨j.1,j.2,bKa b1,λx hx=>h x (aKa hx)⟩
def HD(a:D)(no ba:Int)(m kn:Nat)(ps:List RP):Prop:=∃oc fs rs,a=HA no ba oc fs rs/\HK no ba oc fs rs m kn ps
theorem HD.k7(H:HD j no ba m kn ps):kn<=7:=by obtain⟨_,_,_,rfl,H⟩:=H;exact H.k7
theorem HD.hk(H:HD j no ba m kn ps):no=(kn:Int):=by obtain⟨_,_,_,rfl,H⟩:=H;exact H.hk
theorem HD.line(H:HD j no ba m kn ps)(h:VK no ba m k):In no (wM k):=by obtain⟨_,_,_,rfl,H⟩:=H;exact H.line h
theorem HD.next(H:HD j no ba m kn ps)(h:In no xs):VK no ba m (fU m ba xs):=by obtain⟨_,_,_,rfl,H⟩:=H;exact H.next h
def JD(kn:Nat)(ps:List RP)(k:L2.XA):List Int:=YG kn (EG ps (wM k))
def Mz{W n:Nat}(H:HD a no ba m kn ps)(h:VK no ba m k):run T W (n+6) "p" [.sh a,.sh (uA k)]=some (.ok (.ow (.l ((JD kn ps k).map D.int))),[.sh a,.sh (uA k)]):=by
 obtain⟨oc,fs,rs,rfl,H⟩:=H;rw[h.st];exact Nz H.hk H.k7 H.Y7 H.hp H.hl (H.z h).1 (H.z h).2 h.xs
def Hl(H:HD a no ba m kn ps)(h:VK no ba m k):run T W (n+4) "j" [.sh a,.sh (uA k),.i q]=some (.ok (.sh (uA (fU m ba (wM k++[q])))),[.sh a,.sh (uA k),.i q]):=by
 obtain⟨oc,fs,rs,rfl,H⟩:=H;rw[h.st];exact Il H.ho H.hm H.h3 (H.z h).1 (H.z h).2
def eLa(H:HD a no ba m kn ps)(h:VK no ba m k):run T W (n+5) "v" [.sh a,.sh (uA k)]=some (.ok (.ow (.l (NM m ba ps (wM k) kn))),[.sh a,.sh (uA k)]):=by
 obtain⟨oc,fs,rs,rfl,H⟩:=H;rw[h.st];exact fLa H.ho H.hm H.hk H.Y7 H.hp (H.z h).1 (H.z h).2 h.xs
end
def E6{bind:D->Env->Option Env}(val:D->D)(J:Env->Prop)
  (step:∀d∈ds,∀U,J U->∃b v c,bind d U=aA b/\uC b=some (.ok v,c)/\v.d=val d/\J c) (h:J U) :
  ∃f,dF (KC P C []) uC bind ds [] U=some (.ok (ds.map val),f)/\J f:=by
 obtain⟨a,f,e,⟨rfl,g⟩,_⟩:=EJ (tests:=KC P C []) (λj a U=>a=(ds.take j).map val/\J U)
  (λj d hd a U i=>by
   obtain⟨k,g⟩:=i;obtain⟨b,v,c,l,m,n,o⟩:=step d (pF hd) U g;refine⟨b,bA,b,l,TK,λ_=>⟨v,c,m, ?_,o⟩,λz=>nomatch z⟩;rw[k,n,List.take_add_one,hd,vD]
   rfl) [] U ⟨rfl,h⟩
 exact⟨f,by rw[e,XU],g⟩
section
variable{no ba:Int}{kn m:Nat}{ps:List RP}{hA:D}{k:L2.XA}
def NB(m:Nat)(ba:Int)(k:L2.XA)(q:Int):L2.XA:=fU m ba (wM k++[q])
def MD(m:Nat)(ba:Int)(kn:Nat)(ps:List RP)(k:L2.XA):List D:=(JD kn ps k).map λq=>.t [.int q,uA (NB m ba k q)]
theorem xIa:NM m ba ps (wM k) kn=MD m ba kn ps k:=rfl
theorem tIa{W n:Nat}(H:HD hA no ba m kn ps)(h:VK no ba m k):run T W (n+7) "q" [.sh hA,.sh (uA k)]=some (.ok (.ow (.l (MD m ba kn ps k))),[.sh hA,.sh (uA k)]):=by
 exists dY
 have s:=Mz (W:=W) (n:=n) H h;have i:∀{U:Env},aAb .of [.val (.ow (.l ((JD kn ps k).map D.int)))] U=aA ((JD kn ps k).map D.int,eA):=λ{U}=>rfl
 obtain⟨t,e,c,rfl,l⟩:=E6 (P:=T.cA) (C:=run T W (n+6)) (uC:=ev T.cA (run T W (n+6)) dA ZW) (bind:=wB bA [3]) (ds:=(JD kn ps k).map D.int)
  (λd=>match d with | .int q=>.t [.int q,uA (NB m ba k q)] | _=>.lA) (λU=>∃c,U=[.sh hA,.sh (uA k),.un,c]/\iB c=bA)
  (λd hd U o=>by
   obtain⟨c,rfl,p⟩:=o;obtain⟨q,u,rfl⟩:=qF.mp hd;have f:=Hl (W:=W) (n:=n+2) (q:=q) H h;refine⟨_,.sh (.t [.int q,uA (NB m ba k q)]),[.sh hA,.sh (uA k),.un,.i q],by simp only[ZC,nC p]<;>rfl, ?_,rfl,_,rfl,rfl⟩;replace f:run T W (n+6) "j" [.sh hA,.sh (uA k),.i q]=some (.ok (.sh (uA (NB m ba k q))),[.sh hA,.sh (uA k),.i q]):=f;unfold ZW
   walk_at "!vA")
  (U:=[.sh hA,.sh (uA k),.un,.un]) ⟨_,rfl,rfl⟩
 have b:((JD kn ps k).map D.int).map (λd=>match d with | .int q=>D.t [.int q,uA (NB m ba k q)] | _=>.lA)=MD m ba kn ps k:=by rw[wK];rfl
 rw[b] at e;have g:(MD m ba kn ps k).length<=7:=by unfold MD;rw[vA];exact TB LN H.k7
 generalize MD m ba kn ps k=F at *
 have r:jB F.length=bA:=VB (by omega)
 walk_at "!vA"
 rw[aH i]
 walk_at "!vA"
end
theorem V1{O:Type}{test:Env->BA RV}{body:Env->Run}{bx:Env->Option (Exc×Env)}(st:O->Env)(I Dn:O->Prop)(μ:O->Nat)(x:Exc)(R:Prop)
  (h:∀a,I a->(Dn a/\test (st a)=some (.ok (.b dA),st a))\/(test (st a)=some (.ok (.b bA),st a)/\((∃b,body (st a)=aA (.nx,st b)/\I b/\μ b<μ a)\/(body (st a)=eA/\R/\∃c,bx (st a)=aA (x,st c))))) :
  ∀n a,I a->μ a<n->(∃b,I b/\Dn b/\eF test body n (st a)=aA (.nx,st b))\/(R/\eF test body n (st a)=eA/\∃c,dH test body bx n (st a)=aA (x,st c))
 | 0,a,_,j=>absurd j (tR _)
 |n+1,a,k,j=>by
  rcases h a k with ⟨hd,d⟩ | ⟨d,⟨b,e,l,p⟩ | ⟨e,m,c,o⟩⟩
  ·exact .inl ⟨a,k,hd,by simp only[eF,d,BA.cC]⟩
  ·rcases V1 st I Dn μ x R h n b l (by lia) with ⟨c,f,g,i⟩ | ⟨f,g,c,i⟩
   ·exact .inl ⟨c,f,g,by simp only[eF,d,BA.cC,e];exact i⟩
   ·exact .inr ⟨f,by simp only[eF,d,BA.cC,e];exact g,c,by simp only[dH,d,e];exact i⟩
  ·exact .inr ⟨m,by simp only[eF,d,BA.cC,e],c,by simp only[dH,d,e];exact o⟩
section
variable{W n:Nat}{hA d0 d:D}{KS JK:List L2.aC}{DS EK Lw zJ F es:List D}{t:Sl}{kk:L2.aC}
def Mo(b:iB t=bA)(c:Lw[Lw.length-1]?=aA d)(e:Lw.dropLast=zJ)(f:DB .NotIn d (.dB KS DS)=aA dA) :
  KA T.cA (run T W n) W cF [.sh hA,.sh d0,.o (.dB KS DS),.o (.l Lw),t]=aA (.nx,[.sh hA,.sh d0,.o (.dB KS DS),.o (.l zJ),.sh d]):=by
 unfold cF
 walk_at "!vA"
def Ko(b:iB t=bA)(c:Lw[Lw.length-1]?=aA d)(e:Lw.dropLast=zJ)(f:DB .NotIn d (.dB KS DS)=aA bA)(g:decide ((KS.length:Int)=150)=bA) :
  KA T.cA (run T W n) W cF [.sh hA,.sh d0,.o (.dB KS DS),.o (.l Lw),t]=eA/\UC T.cA (run T W n) W cF [.sh hA,.sh d0,.o (.dB KS DS),.o (.l Lw),t]=aA (⟨"TooMany",eA⟩,[.sh hA,.sh d0,.o (.dB KS DS),.o (.l zJ),.sh d]):=by
 unfold cF;constructor
 ·walk_at "!vA"
 ·walk_at "!vA"
def Lo(v:iB t=bA)(y:Lw[Lw.length-1]?=aA d)(z:Lw.dropLast=zJ)(A:DB .NotIn d (.dB KS DS)=aA bA)(B:decide ((KS.length:Int)=150)=dA)
  (m:run T W n "q" [.sh hA,.sh d]=some (.ok (.ow (.l F)),[.sh hA,.sh d])) (hk:jE d=aA kk) (h:fO 2 [.sh hA,.sh d0,.o (.dB KS DS),.o (.l zJ),.sh d] (aA (.o (.dB KS DS))) (aA kk) (.ow (.l F))=aA (.nx,[.sh hA,.sh d0,.o (.dB JK EK),.o (.l zJ),.sh d]))
  (i:fG (aA (.dB JK EK)) d=aA (.sh (.l F))) (k:∀x∈F,∃a b,x=.t [a,b]) (c:es=F.map λx=>match x with | .t [_,b]=>b | _=>.lA) (H:jB (zJ.length+es.length)=bA) (p:jB es.length=bA) :
  KA T.cA (run T W n) W cF [.sh hA,.sh d0,.o (.dB KS DS),.o (.l Lw),t]=aA (.nx,[.sh hA,.sh d0,.o (.dB JK EK),.o (.l (zJ++es)),.sh d]):=by
 have l:∀{U:Env},aAb .of [.val (.sh (.l F))] U=aA (F,eA):=λ{U}=>rfl
 obtain⟨I,e,g,rfl,j⟩:=E6 (P:=T.cA) (C:=run T W n) (uC:=ev T.cA (run T W n) dA YW) (bind:=wB bA [1]) (ds:=F)
  (λx=>match x with | .t [_,b]=>b | _=>.lA) (λU=>∃g,U=[.un,g]/\iB g=bA)
  (λx r U s=>by
   obtain⟨g,rfl,u⟩:=s;obtain⟨a,b,rfl⟩:=k x r;refine⟨_,.sh b,[.un,.sh (.t [a,b])],by simp only[ZC,nC u]<;>rfl, ?_,rfl,_,rfl,rfl⟩;unfold YW;clear m h i l c
   walk_at "!vA")
  (U:=[.un,.un]) ⟨_,rfl,rfl⟩
 rw[<- c] at e;unfold cF;clear k c j
 walk_at "!vA"
 rw[aH l]
 walk_at "!vA"
 rw[RK rfl,show([]++AB 2 Sl.un:List Sl)=[.un,.un] from rfl,e]
 walk_at "!vA"
end
section
variable{S:Type}{gM:S->List Int}{nx:S->Int->S}{s0 s:S}
inductive yI(gM:S->List Int)(nx:S->Int->S)(s0:S):S->Prop
 |start:yI gM nx s0 s0
 |step {s:S} {q:Int}:yI gM nx s0 s->q∈gM s->yI gM nx s0 (nx s q)
def LZ{l:List S}(a:s0∈l)(b:∀k∈l,∀q∈gM k,nx k q∈l)(h:yI gM nx s0 s):s∈l:=by
 induction h with
 |start=>exact a
 |step _ c d=>exact b _ d _ c
theorem WN[BEq S][LawfulBEq S]:∀{l l':List S},l.Nodup->(∀x∈l,x∈l')->l.length<=l'.length
 |[],_,_,_=>pE _
 |x::r,l',a,h=>by
  rw[SO] at a;have b:=h x MG
  have:=WN (l':=l'.erase x) a.2 λy c=>(List.mem_erase_of_ne λz:y=x=>a.1 (z ▸ c)).mpr (h y (tD _ c))
  rw[List.length_erase_of_mem b] at this
  have:=List.length_pos_of_mem b
  rw[YB]
  lia
end
def RS{a:List L2.XA}:KJ (a.map .inl) (.inl k)=decide (k∈a):=by
 unfold KJ;rw[List.any_map]
 induction a with
 |nil=>rfl
 |cons x a b =>
  rw[HL,b];show(decide (Sum.inl x=(Sum.inl k:L2.aC))||decide (k∈a))=_;by_cases e:x=k
  ·subst e;rw[vB rfl,vB MG];rfl
  ·rw[cB (λz=>e (tV z)),YF];exact QO.mpr ⟨tD _,λh=>(WC.mp h).resolve_left λz=>e z.symm⟩
def Y9{a:List L2.XA}(h:k∈a):SJ (a.map .inl) (a.map f) (.inl k)=aA (f k):=by
 unfold SJ
 induction a with
 |nil=>cases h
 |cons x a b =>
  rw[MB,MB,lK,dV];by_cases e:x=k
  ·subst e;simp
  ·rw[cB (λz=>e (tV z))];exact b ((WC.mp h).resolve_left λz=>e z.symm)
def ic{a:List L2.XA}{k:L2.XA}{f:L2.XA->D}(h:k ∉ a):XI (a.map .inl) (.inl k)=(a++[k]).map .inl/\zH (a.map .inl) (a.map f) (.inl k) (f k)=(a++[k]).map f:=by
 unfold XI zH;rw[RS,cB h,vD,vD];exact⟨rfl,rfl⟩
def ZJ:jE (uA k)=aA (.inl k):=qHa
abbrev DS:=List L2.XA×List L2.XA×Sl
section
variable{no ba:Int}{kn m:Nat}{ps:List RP}{hA:D}{s0 k:L2.XA}{W n:Nat}
def VG(m:Nat)(ba:Int)(kn:Nat)(ps:List RP)(a:List L2.XA):D:=.dB (a.map .inl) (a.map λk=>.l (MD m ba kn ps k))
def dE(m:Nat)(ba:Int)(kn:Nat)(ps:List RP)(hA b:D)(a:DS):Env:=[.sh hA,.sh b,.o (VG m ba kn ps a.1),.o (.l (a.2.1.map uA)),a.2.2]
structure DI(no ba:Int)(m kn:Nat)(ps:List RP)(s0:L2.XA)(a:DS):Prop where
 nd:a.1.Nodup
 le:a.1.length<=150
 wl:a.2.1.length<=1+7*a.1.length
 vk:∀k,k∈a.1\/k∈a.2.1->VK no ba m k/\yI (JD kn ps) (NB m ba) s0 k
 s0:s0∈a.1\/s0∈a.2.1
 cl:∀k∈a.1,∀q∈JD kn ps k,NB m ba k q∈a.1\/NB m ba k q∈a.2.1
 ok:iB a.2.2=bA
structure aF(no ba:Int)(m kn:Nat)(ps:List RP)(s0:L2.XA)(ks:List L2.XA):Prop where
 nd:ks.Nodup
 le:ks.length<=150
 vk:∀k∈ks,VK no ba m k/\yI (JD kn ps) (NB m ba) s0 k
 s0:s0∈ks
 cl:∀k∈ks,∀q∈JD kn ps k,NB m ba k q∈ks
def SV(m:Nat)(ba:Int)(kn:Nat)(ps:List RP)(s0:L2.XA):Prop:=∃l:List L2.XA,l.Nodup/\l.length=151/\∀k∈l,yI (JD kn ps) (NB m ba) s0 k
theorem q7(H:HD hA no ba m kn ps)(h:VK no ba m k)(a:q∈JD kn ps k):VK no ba m (NB m ba k q):=by
 have b:=Ur a;have c:=H.hk;exact H.next ((H.line h).app (In.one ⟨b.1,by lia⟩))
theorem Oo(H:HD hA no ba m kn ps){a:DS}(hd:DI no ba m kn ps s0 a)(v:a.2.1≠[]) :
  (∃b,KA T.cA (run T W (n+7)) W cF (dE m ba kn ps hA (uA s0) a)=aA (.nx,dE m ba kn ps hA (uA s0) b)/\DI no ba m kn ps s0 b/\8*(150-b.1.length)+b.2.1.length<8*(150-a.1.length)+a.2.1.length) \/
  (KA T.cA (run T W (n+7)) W cF (dE m ba kn ps hA (uA s0) a)=eA/\SV m ba kn ps s0/\∃c,UC T.cA (run T W (n+7)) W cF (dE m ba kn ps hA (uA s0) a)=aA (⟨"TooMany",eA⟩,dE m ba kn ps hA (uA s0) c)):=by
 obtain⟨g,A,t⟩:=a;obtain⟨o,le,wl,j,r,cl,ok⟩:=hd
 dsimp only at *
 rcases lh A with rfl | ⟨w,k,rfl⟩
 ·exact absurd rfl v
 rw[mh] at *
 have p:((w++[k]).map uA)[((w++[k]).map uA).length-1]?=aA (uA k):=by simp
 have i:((w++[k]).map uA).dropLast=w.map uA:=by simp
 have l:DB .NotIn (uA k) (VG m ba kn ps g)=aA !(decide (k∈g)):=by unfold VG;rw[p6 ZJ,RS]
 have hk:=j k (.inr (by simp));have mem:∀{x:L2.XA},x∈w++[k]->x∈w\/x=k:=λh=>by simpa using h
 rw[NC,HU] at wl;by_cases e:k∈g
 ·rw[vB e] at l;refine .inl ⟨(g,w,.sh (uA k)),Mo ok p i l,⟨o,le,by dsimp only;lia,λx d=>j x (d.imp id λz=>VE _ z), ?_,λx d q i=>?_,rfl⟩,by simp⟩
  ·rcases r with z | z
   ·exact .inl z
   ·rcases mem z with z | z
    ·exact .inr z
    ·exact .inl (z ▸ e)
  ·rcases cl x d q i with z | z
   ·exact .inl z
   ·rcases mem z with z | z
    ·exact .inr z
    ·exact .inl (z ▸ e)
 ·rw[cB e] at l;by_cases B:g.length=150
  ·obtain⟨C,I⟩:=Ko (W:=W) (n:=n+7) (hA:=hA) (d0:=uA s0) ok p i l (vB (by rw[vA];lia));refine .inr ⟨C,⟨k::g,SO.mpr ⟨e,o⟩,by simp[B],λx d=>?_⟩,(g,w,.sh (uA k)),I⟩;rcases WC.mp d with rfl | d
   ·exact hk.2
   ·exact(j x (.inl d)).2
  ·obtain⟨J,K⟩:=ic (f:=λk=>.l (MD m ba kn ps k)) e;have M:(JD kn ps k).length<=7:=TB LN H.k7;refine .inl ⟨(g++[k],w++(JD kn ps k).map (NB m ba k),.sh (uA k)), ?_,⟨?_,by simp;lia,by simp;lia,λx d=>?_, ?_,λx d q s=>?_,rfl⟩,by simp;lia⟩
   ·have:=Lo (W:=W) (n:=n+7) (hA:=hA) (d0:=uA s0) (KS:=g.map .inl) (DS:=g.map λk=>.l (MD m ba kn ps k)) (JK:=(g++[k]).map .inl) (EK:=(g++[k]).map λk=>.l (MD m ba kn ps k)) (F:=MD m ba kn ps k) (es:=((JD kn ps k).map (NB m ba k)).map uA)
     ok p i l (cB (by rw[vA];lia)) (tIa H hk.1) ZJ (by rw[YT (VB (by rw[vA];lia)),J];show aA (Fl.nx,[_,_,Sl.ow (.dB _ (zH _ _ _ (.l _))) _ _,_,_])=_;rw[K]) (C8 ZJ (Y9 (by simp))) (λx d=>by
      obtain⟨q,_,rfl⟩:=qF.mp d
      exact⟨_,_,rfl⟩) (by unfold MD;rw[wK,wK];rfl) (VB (by simp;lia)) (VB (by simp;lia))
    refine this.trans ?_;rw[<- vD];rfl
   ·exact MO.mpr ⟨o,by simp,λx d y u z=>e (by rw[RD] at u;subst u z;exact d)⟩
   ·rcases d with d | d
    ·rcases SD.mp d with d | d
     ·exact j x (.inl d)
     ·rw[RD] at d;subst d;exact hk
    ·rcases SD.mp d with d | d
     ·exact j x (.inr (VE _ d))
     ·obtain⟨q,i,rfl⟩:=qF.mp d;exact⟨q7 H hk.1 i,.step hk.2 i⟩
   ·rcases r with z | z
    ·exact .inl (VE _ z)
    ·rcases mem z with z | z
     ·exact .inr (VE _ z)
     ·exact .inl (by simp[z])
   ·rcases SD.mp d with d | d
    ·rcases cl x d q s with z | z
     ·exact .inl (VE _ z)
     ·rcases mem z with z | z
      ·exact .inr (VE _ z)
      ·exact .inl (by simp[z])
    ·rw[RD] at d;subst d;exact .inr (SF _ (qF.mpr ⟨q,s,rfl⟩))
end
theorem gX:ev P C t .GP U=aAh t (some (.ok (.ow (.dB [] [])),U)):=rfl
section
variable{no ba:Int}{kn m:Nat}{ps:List RP}{hA:D}{s0 k:L2.XA}{W n:Nat}
def Z6{P:VA}{C:Calls}{a:DS}:ev P C bA (.CA .Gt (.bif .len [.v 3]) (.c (.int 0))) (dE m ba kn ps hA (uA s0) a)=some (.ok (.b (decide (((a.2.1.length:Nat):Int) > 0))),dE m ba kn ps hA (uA s0) a):=by
 unfold dE;have e:((a.2.1.map uA).length:Int)=(a.2.1.length:Int):=by rw[vA]
 generalize a.2.1.map uA=l at *
 walk_at "!gX"
theorem sIa(H:HD hA no ba m kn ps)(e:VK no ba m s0) :
  (∃b,aF no ba m kn ps s0 b/\run T (W+1300) (n+8) "f" [.sh hA,.sh (uA s0)]=some (.ok (.ow (VG m ba kn ps b)),[.sh hA,.sh (uA s0)])) \/
  (SV m ba kn ps s0/\run T (W+1300) (n+8) "f" [.sh hA,.sh (uA s0)]=some (.ex ⟨"TooMany",eA⟩,[.sh hA,.sh (uA s0)])):=by
 have key:=V1 (test:=ev T.cA (run T (W+1300) (n+7)) bA (.CA .Gt (.bif .len [.v 3]) (.c (.int 0)))) (body:=KA T.cA (run T (W+1300) (n+7)) (W+1300) cF) (bx:=UC T.cA (run T (W+1300) (n+7)) (W+1300) cF)
  (dE m ba kn ps hA (uA s0)) (DI no ba m kn ps s0) (λa=>a.2.1=[]) (λa=>8*(150-a.1.length)+a.2.1.length) ⟨"TooMany",eA⟩ (SV m ba kn ps s0) (λa l=>by
   by_cases d:a.2.1=[]
   ·exact .inl ⟨d,by rw[Z6,d];rfl⟩
   ·refine .inr ⟨by rw[Z6,vB (by have:=zh.mpr d;lia)], ?_⟩
    exact Oo H l d) (W+1300) ([],[s0],.un) ⟨Hi,by simp,by simp,λk hk=>by
     rcases hk with hk | hk
     ·cases hk
     ·rw[RD.mp hk];exact⟨e,.start⟩,.inr (by simp),λk hk=>(by cases hk),rfl⟩ (by show 8*(150-0)+1<W+1300;lia)
 exists cY
 rcases key with ⟨⟨b,h,t⟩,c,rfl,g⟩ | ⟨j,g1,⟨b,h,t⟩,g2⟩
 ·refine .inl ⟨b,⟨c.nd,c.le,λk hk=>c.vk k (.inl hk),c.s0.resolve_right (by simp),λk hk q p=>(c.cl k hk q p).resolve_right (by simp)⟩, ?_⟩;replace g:eF (ev T.cA (run T (W+1300) (n+7)) bA (.CA .Gt (.bif .len [.v 3]) (.c (.int 0)))) (KA T.cA (run T (W+1300) (n+7)) (W+1300) cF) (W+1300) [.sh hA,.sh (uA s0),.o (.dB [] []),.o (.l [uA s0]),.un]=aA (.nx,[.sh hA,.sh (uA s0),.o (VG m ba kn ps b),.o (.l []),t]):=g
  generalize VG m ba kn ps b=r at *
  generalize uA s0=s at *
  clear c H e
  walk_at "!gX"
 ·refine .inr ⟨j, ?_⟩;replace g1:eF (ev T.cA (run T (W+1300) (n+7)) bA (.CA .Gt (.bif .len [.v 3]) (.c (.int 0)))) (KA T.cA (run T (W+1300) (n+7)) (W+1300) cF) (W+1300) [.sh hA,.sh (uA s0),.o (.dB [] []),.o (.l [uA s0]),.un]=eA:=g1;replace g2:dH (ev T.cA (run T (W+1300) (n+7)) bA (.CA .Gt (.bif .len [.v 3]) (.c (.int 0)))) (KA T.cA (run T (W+1300) (n+7)) (W+1300) cF) (UC T.cA (run T (W+1300) (n+7)) (W+1300) cF) (W+1300) [.sh hA,.sh (uA s0),.o (.dB [] []),.o (.l [uA s0]),.un]=aA (⟨"TooMany",eA⟩,[.sh hA,.sh (uA s0),.o (VG m ba kn ps b),.o (.l (h.map uA)),t]):=g2
  generalize VG m ba kn ps b=r at *
  generalize h.map uA=u at *
  generalize uA s0=s at *
  clear H e j
  walk_at "!gX"
end
def O0(g:Int->L2.XA)(q:Int):D:=.t [.int q,uA (g q)]
def sEa{a:List L2.XA}{d:D}(h:k∈a):XI (a.map .inl) (.inl k)=a.map .inl/\zH (a.map .inl) (a.map f) (.inl k) d=a.map λx=>if x=k then d else f x:=by
 unfold XI zH;rw[RS,vB h];refine⟨rfl, ?_⟩;clear h;show((a.map Sum.inl).zip (a.map f)).map (λp:L2.aC×D=>if p.1=.inl k then d else p.2)=_
 induction a with
 |nil=>rfl
 |cons x a b =>
  rw[MB,MB,lK,MB,MB,b];congr 1;by_cases e:x=k
  ·subst e;simp
  ·rw[JA (λz=>e (tV z)),JA e]
abbrev CS:=List L2.XA×List L2.XA×(L2.XA->D)×Sl×Sl×Sl
section
variable{no ba:Int}{kn m:Nat}{ps:List RP}{hA d0:D}{W n:Nat}{s0:L2.XA}
noncomputable def mD(a:List L2.XA)(f:L2.XA->D):D:=.dB (a.map .inl) (a.map f)
def BE(hA d0:D)(a:CS):Env:=[.sh hA,.sh d0,.o (mD a.1 a.2.2.1),.o (.l (a.2.1.map uA)),a.2.2.2.1,a.2.2.2.2.1,a.2.2.2.2.2]
def C6{a JK:List L2.aC}{DS EK Lw:List D}{s4 s5:Sl}{c:D}{d:L2.aC}{b:Bool}(g:DB .NotIn c (.dB a DS)=aA b)(hk:jE c=aA d)(h:jB (Lw.length+1)=bA)(i:jB (a.length+1)=bA)(f:b=bA->XI a d=JK/\zH a DS d D.lA=EK) :
  KA T.cA (run T W n) W aM [.sh hA,.sh d0,.o (.dB a DS),.o (.l Lw),s4,s5,.sh c]=aA (.nx,if b=bA then [.sh hA,.sh d0,.o (.dB JK EK),.o (.l (Lw++[c])),s4,s5,.sh c] else [.sh hA,.sh d0,.o (.dB a DS),.o (.l Lw),s4,s5,.sh c]):=by
 unfold aM
 cases b with
 |false=>walk_at "!YT"
 |true =>
  obtain⟨j,k⟩:=f rfl
  walk_at "!YT"
theorem Yn{L w:List L2.XA}{f:L2.XA->D}{l:List Int}(M:L.length+l.length<=1000)(O:w.length+l.length<=1000)(v:L.Nodup)(C:iB s5=bA)(F:iB s6=bA) :
  ∃N s o r,gD (wB dA [5,6]) (KA T.cA (run T W n) W aM) (l.map (O0 (NB m ba k))) (BE hA d0 (L,w,f,s4,s5,s6))=aA (.nx,BE hA d0 (L++N,w++N,s,s4,o,r))/\iB o=bA/\iB r=bA/\(L++N).Nodup/\(∀x∈N,∃q∈l,x=NB m ba k q)/\(∀q∈l,NB m ba k q∈L++N)/\N.length<=l.length:=by
 induction l generalizing L w f s5 s6 with
 |nil=>exact⟨[],f,s5,s6,by rw[DD,DD];rfl,C,F,by rw[DD];exact v,λx b=>(by cases b),λq K=>(by cases K),kB _⟩
 |cons q l H =>
  rw[YB] at M O
  have I:wB dA [5,6] (O0 (NB m ba k) q) (BE hA d0 (L,w,f,s4,s5,s6))=aA (BE hA d0 (L,w,f,s4,.i q,.sh (uA (NB m ba k q)))):=by(unfold BE O0;simp only[ZC,nC C,nC F]<;>rfl)
  have u:DB .NotIn (uA (NB m ba k q)) (mD L f)=aA !(decide (NB m ba k q∈L)):=by unfold mD;rw[p6 ZJ,RS]
  by_cases a:NB m ba k q∈L
  ·rw[vB a] at u;obtain⟨N,s,o,r,e,i,j,d,A,B,P⟩:=H (L:=L) (w:=w) (f:=f) (s5:=.i q) (s6:=.sh (uA (NB m ba k q))) (by lia) (by lia) v rfl rfl;refine⟨N,s,o,r, ?_,i,j,d,λx b=>let ⟨p,c,h⟩:=A x b;⟨p,tD _ c,h⟩,λp c=>?_,by rw[YB];lia⟩
   ·rw[MB]
    have:=C6 (W:=W) (n:=n) (hA:=hA) (d0:=d0) (s4:=s4) (s5:=.i q) (JK:=[]) (EK:=[]) (Lw:=w.map uA) u ZJ (VB (by rw[vA];lia)) (VB (by rw[vA];lia)) (λz=>nomatch z)
    rw[JA (by decide)] at this;simp only[gD,I];rw[show KA T.cA (run T W n) W aM (BE hA d0 (L,w,f,s4,.i q,.sh (uA (NB m ba k q))))=aA (.nx,BE hA d0 (L,w,f,s4,.i q,.sh (uA (NB m ba k q)))) from this];exact e
   ·rcases WC.mp c with rfl | c
    ·exact VE _ a
    ·exact B p c
  ·rw[cB a] at u;have g:=ic (f:=λx=>if x=NB m ba k q then D.lA else f x) a;rw[MA rfl] at g;have t:L.map (λx=>if x=NB m ba k q then D.lA else f x)=L.map f:=List.map_congr_left λx b=>JA λz:x=NB m ba k q=>a (z ▸ b)
   rw[t] at g
   obtain⟨N,s,o,r,e,i,j,d,A,B,P⟩:=H (L:=L++[NB m ba k q]) (w:=w++[NB m ba k q]) (f:=λx=>if x=NB m ba k q then D.lA else f x) (s5:=.i q) (s6:=.sh (uA (NB m ba k q))) (by simp;lia) (by simp;lia)
    (MO.mpr ⟨v,by simp,λx b y J z=>a (by rw[RD] at J;subst J z;exact b)⟩) rfl rfl
   refine⟨NB m ba k q::N,s,o,r, ?_,i,j, ?_,λx b=>?_,λp c=>?_,by simp;lia⟩
   ·rw[MB]
    have:=C6 (W:=W) (n:=n) (hA:=hA) (d0:=d0) (s4:=s4) (s5:=.i q) (Lw:=w.map uA) u ZJ (VB (by rw[vA];lia)) (VB (by rw[vA];lia)) (λ_=>g)
    rw[MA (show(!false)=bA from rfl)] at this;simp only[gD,I];rw[show KA T.cA (run T W n) W aM (BE hA d0 (L,w,f,s4,.i q,.sh (uA (NB m ba k q))))=aA (.nx,BE hA d0 (L++[NB m ba k q],w++[NB m ba k q],λx=>if x=NB m ba k q then D.lA else f x,s4,.i q,.sh (uA (NB m ba k q)))) from this.trans (by unfold BE;rw[vD (l₁:=w)];rfl)];rw[rG,rG] at e;exact e
   ·rw[rG] at d;exact d
   ·rcases WC.mp b with rfl | b
    ·exact⟨q,MG,rfl⟩
    ·obtain⟨p,c,h⟩:=A x b;exact⟨p,tD _ c,h⟩
   ·rcases WC.mp c with rfl | c
    ·simp
    ·have:=B p c;rw[rG] at this;exact this
end
section
variable{no ba:Int}{kn m:Nat}{ps:List RP}{hA d0:D}{W n:Nat}{s0:L2.XA}
structure CV(no ba:Int)(m kn:Nat)(ps:List RP)(s0:L2.XA)(a:CS):Prop where
 nd:a.1.Nodup
 le:a.1.length<=157
 wn:a.2.1.Nodup
 sub:∀k∈a.2.1,k∈a.1
 vk:∀k∈a.1,VK no ba m k/\yI (JD kn ps) (NB m ba) s0 k
 s0:s0∈a.1
 cl:∀k∈a.1,k ∉ a.2.1->∀q∈JD kn ps k,NB m ba k q∈a.1
 o4:iB a.2.2.2.1=bA
 o5:iB a.2.2.2.2.1=bA
 o6:iB a.2.2.2.2.2=bA
def CV.wl(h:CV no ba m kn ps s0 a):a.2.1.length<=157:=TB (WN h.wn h.sub) h.le
def aA2{w:List L2.XA}:DB .NotEq (.l (w.map uA)) (.l [])=aA (!w.isEmpty):=by
 have e1:JB 20 (.l (w.map uA))=bA:=IH.mpr λd hd=>by(obtain⟨k,_,rfl⟩:=qF.mp hd;show(bA&&((k.2.map D.int).all (JB 17)&&bA))=bA;rw[tZ];rfl)
 have e2:JB 20 (.l [])=bA:=rfl;show(if JB 20 (.l (w.map uA))&&JB 20 (.l []) then aA (!EE (.l (w.map uA)) (.l [])) else eA)=_;rw[e1,e2];cases w<;>rfl
def FW:ev P C bA (.and (.CA .NotEq (.v 3) (.l [])) (.CA .LtE (.bif .len [.v 2]) (.c (.int 150)))) (BE hA d0 a)=some (.ok (.b (!a.2.1.isEmpty&&decide ((a.1.length:Int)<=150))),BE hA d0 a):=by
 have b:=aA2 (w:=a.2.1);have c:FD .len [mD a.1 a.2.2.1]=aA (.i a.1.length):=by unfold mD;rw[aS,vA]
 unfold BE
 cases e:a.2.1.isEmpty with
 |true=>rw[e] at b;clear e;walk_at "!"
 |false=>rw[e] at b;clear e;walk_at "!"
theorem Zn(H:HD hA no ba m kn ps){a:CS}(hd:CV no ba m kn ps s0 a)(I:a.2.1≠[])(J:a.1.length<=150) :
  ∃b,KA T.cA (run T W (n+5)) W wN (BE hA d0 a)=aA (.nx,BE hA d0 b)/\CV no ba m kn ps s0 b/\2*(200-b.1.length)+b.2.1.length<2*(200-a.1.length)+a.2.1.length:=by
 have r:=hd.wl;obtain⟨L,ws,f,t4,s,t⟩:=a;obtain⟨K,le,i,sub,j,M,cl,o4,O,P⟩:=hd
 dsimp only at *
 rcases lh ws with rfl | ⟨w,k,rfl⟩
 ·exact absurd rfl I
 rw[mh] at *
 have hk:k∈L:=sub k (by simp)
 have u:k ∉ w:=λz=>by(rw[MO] at i;exact i.2.2 k z k (by simp) rfl)
 have h7:(JD kn ps k).length<=7:=TB LN H.k7;rw[NC,HU] at r;obtain⟨Q,R⟩:=sEa (f:=f) (d:=.l (MD m ba kn ps k)) hk;obtain⟨N,v,A,B,e,X,Y,g,Z,h2,h3⟩:=Yn (m:=m) (ba:=ba) (hA:=hA) (d0:=d0) (W:=W) (n:=n+5) (L:=L) (w:=w) (f:=λx=>if x=k then .l (MD m ba kn ps k) else f x) (s4:=.sh (uA k)) (s5:=s) (s6:=t) (k:=k) (l:=JD kn ps k) (by lia) (by lia) K O P
 have hN:∀x∈N,x ∉ L:=λx c z=>by(rw[MO] at g;exact g.2.2 x z x c rfl)
 refine⟨(L++N,w++N,v,.sh (uA k),A,B), ?_,⟨g,by simp;lia, ?_,λx c=>?_,λx c=>?_,VE _ M,λx c p q h=>?_,rfl,X,Y⟩,by simp;lia⟩
 ·have hp:((w++[k]).map uA)[((w++[k]).map uA).length-1]?=aA (uA k):=by simp
  have h:((w++[k]).map uA).dropLast=w.map uA:=by simp
  have C:=eLa (W:=W) (n:=n) H (j k hk).1;rw[xIa] at C
  have dNa:∀{U:Env},fO 2 U (aA (.o (mD L f))) (aA (.inl k)) (.ow (.l (MD m ba kn ps k)))=aA (.nx,U.set 2 (.o (mD L λx=>if x=k then .l (MD m ba kn ps k) else f x))):=λ{U}=>by(refine(YT (VB (by rw[vA];lia))).trans ?_;rw[Q];show aA (Fl.nx,U.set 2 (.o (.dB _ (zH _ _ _ (.l _)))))=_;rw[R];rfl)
  have hix:fG (aA (mD L λx=>if x=k then .l (MD m ba kn ps k) else f x)) (uA k)=aA (.sh (.l (MD m ba kn ps k))):=by(refine C8 ZJ ?_;rw[Y9 (f:=λx=>if x=k then .l (MD m ba kn ps k) else f x) hk,MA rfl])
  have hsk:=ZJ (k:=k);have hds:DY (aA (.o (mD L f)))=bA:=rfl;have hdc:CY (aA (.o (mD L f)))=dA:=rfl;have how:ZS (aA (.o (mD L f)))=dA:=rfl;have hi:∀{U:Env} {F:List D},aAb .of [.val (.sh (.l F))] U=aA (F,eA):=λ{U F}=>rfl
  replace e:gD (wB dA [5,6]) (KA T.cA (run T W (n+5)) W aM) (MD m ba kn ps k) [.sh hA,.sh d0,.o (mD L λx=>if x=k then .l (MD m ba kn ps k) else f x),.o (.l (w.map uA)),.sh (uA k),s,t]=aA (.nx,BE hA d0 (L++N,w++N,v,.sh (uA k),A,B)):=e;show KA T.cA (run T W (n+5)) W wN [.sh hA,.sh d0,.o (mD L f),.o (.l ((w++[k]).map uA)),t4,s,t]=_
  generalize BE hA d0 (L++N,w++N,v,.sh (uA k),A,B)=Ue at *
  generalize mD L (λx=>if x=k then D.l (MD m ba kn ps k) else f x)=d2 at *
  generalize mD L f=d1 at *
  generalize (w++[k]).map uA=l1 at *
  generalize w.map uA=l2 at *
  generalize MD m ba kn ps k=F at *
  generalize uA k=dk at *
  unfold wN;clear H K le i sub j M cl O P hk u Q R g Z h2 h3 hN I X Y
  walk_at "!"
 ·rw[MO] at i g ⊢;exact⟨i.1,g.2.1,λx c y hy z=>hN y hy (z ▸ sub x (VE _ c))⟩
 ·rcases SD.mp c with c | c
  ·exact VE _ (sub x (VE _ c))
  ·exact SF _ c
 ·rcases SD.mp c with c | c
  ·exact j x c
  ·obtain⟨q,h,rfl⟩:=Z x c;exact⟨q7 H (j k hk).1 h,.step (j k hk).2 h⟩
 ·have nx:x ∉ N:=λz=>p (SF _ z)
  rcases SD.mp c with c | c
  ·by_cases e:x=k
   ·subst e;exact h2 q h
   ·exact VE _ (cl x c (λz=>(SD.mp z).elim (λz=>p (VE _ z)) λz=>e (RD.mp z)) q h)
  ·exact absurd c nx
theorem fo(H:HD hA no ba m kn ps)(h:VK no ba m s0):∃L f,run T (W+1300) (n+6) "H" [.sh hA,.sh (uA s0)]=some (.ok (.ow (mD L f)),[.sh hA,.sh (uA s0)])/\L.Nodup/\L.length<=157/\(∀k∈L,VK no ba m k/\yI (JD kn ps) (NB m ba) s0 k)/\(150<L.length\/s0∈L/\∀k∈L,∀q∈JD kn ps k,NB m ba k q∈L):=by
 have key:=V1 (test:=ev T.cA (run T (W+1300) (n+5)) bA (.and (.CA .NotEq (.v 3) (.l [])) (.CA .LtE (.bif .len [.v 2]) (.c (.int 150))))) (body:=KA T.cA (run T (W+1300) (n+5)) (W+1300) wN) (bx:=λ_=>eA)
  (BE hA (uA s0)) (CV no ba m kn ps s0) (λa=>a.2.1=[]\/150<a.1.length) (λa=>2*(200-a.1.length)+a.2.1.length) ⟨"",eA⟩ False (λa i=>by
   by_cases c:a.2.1=[]
   ·exact .inl ⟨.inl c,by rw[FW,c];rfl⟩
   ·by_cases j:a.1.length<=150
    ·refine .inr ⟨by rw[FW,vB (by lia)];cases e:a.2.1<;>first | exact absurd e c | rfl,.inl (Zn H i c j)⟩
    ·exact .inl ⟨.inr (by lia),by rw[FW,cB (by lia),iV]⟩) (W+1300) ([s0],[s0],λ_=>.lA,.un,.un,.un)
   ⟨by simp,by simp,by simp,λk hk=>hk,λk hk=>by rw[RD.mp hk];exact⟨h,.start⟩,by simp,λk hk l=>absurd hk l,rfl,rfl,rfl⟩ (by show 2*(200-1)+1<W+1300;lia)
 obtain⟨⟨L,d,f,p,r,s⟩,b,hd,g⟩ | ⟨z,_⟩:=key
 case inr=>exact z.elim
 refine⟨L,f, ?_,b.nd,b.le,b.vk, ?_⟩
 ·have t:uS (jE (uA s0)) (.sh .lA)=λU=>some (.ok (.ow (mD [s0] λ_=>.lA)),U):=by rw[ZJ];rfl
  replace g:eF (ev T.cA (run T (W+1300) (n+5)) bA (.and (.CA .NotEq (.v 3) (.l [])) (.CA .LtE (.bif .len [.v 2]) (.c (.int 150))))) (KA T.cA (run T (W+1300) (n+5)) (W+1300) wN) (W+1300) [.sh hA,.sh (uA s0),.o (mD [s0] λ_=>.lA),.o (.l [uA s0]),.un,.un,.un]=aA (.nx,[.sh hA,.sh (uA s0),.o (mD L f),.o (.l (d.map uA)),p,r,s]):=g
  exists tX
  generalize mD [s0] (λ_=>D.lA)=u at *
  generalize mD L f=v at *
  generalize d.map uA=x at *
  generalize uA s0=y at *
  clear H h b hd
  walk_at "!"
 ·rcases hd with hd | hd
  ·have hd:d=[]:=hd;exact .inr ⟨b.s0,λk hk=>b.cl k hk (by rw[hd];simp)⟩
  ·exact .inl hd
def kIa{a b:List L2.XA}(p:a.Perm b):CS.qD a=CS.qD b:=CS.jd ((m3 ..).trans p) CS.md
def Iz{a b:List L2.XA}(c:a.Nodup)(d:b.Nodup)(h:∀x∈a,x∈b)(k:∀x∈b,x∈a):a.Perm b:=(List.perm_ext_iff_of_nodup c d).mpr λx=>⟨h x,k x⟩
theorem aAU(H:HD hA no ba m kn ps)(j:VK no ba m s0){L:List L2.XA}(nd:L.Nodup)(vk:∀k∈L,VK no ba m k/\yI (JD kn ps) (NB m ba) s0 k)(cl:150<L.length\/s0∈L/\∀k∈L,∀q∈JD kn ps k,NB m ba k q∈L) :
  (L.length<=150/\∃a,CS.qD a=CS.qD L/\a.length=L.length/\run T (W+1300) (n+8) "f" [.sh hA,.sh (uA s0)]=some (.ok (.ow (VG m ba kn ps a)),[.sh hA,.sh (uA s0)])) \/
  (150<L.length/\run T (W+1300) (n+8) "f" [.sh hA,.sh (uA s0)]=some (.ex ⟨"TooMany",eA⟩,[.sh hA,.sh (uA s0)])):=by
 rcases sIa (W:=W) (n:=n) H j with ⟨a,c,e⟩ | ⟨o,e⟩
 ·have d:∀x∈L,x∈a:=λx b=>LZ c.s0 c.cl (vk x b).2
  have p:L.length<=150:=TB (WN nd d) c.le;obtain⟨g,h⟩:=cl.resolve_left (by lia);have i:∀x∈a,x∈L:=λx b=>LZ g h (c.vk x b).2
  exact .inl ⟨p,a,kIa (Iz c.nd nd i d),xi (WN c.nd i) (WN nd d),e⟩
 ·refine .inr ⟨?_,e⟩;rcases cl with c | ⟨g,h⟩
  ·exact c
  ·obtain⟨l,r,t,s⟩:=o
   have:=WN r (l':=L) λx b=>LZ g h (s x b)
   lia
end
def Wz{W n:Nat}{el:E}{no:Int}{h:D}{k s:Int}{c:Nat}(m:∀(s:Int) (d:D),∃v o:Int,(0<=v/\v<no)/\ev T.cA (run T W (n+1)) dA el [.sh h,.p (.l [.int k,.int s]),.un,.sh d]=some (.ok (.i v),[.sh h,.p (.l [.int k,.int o]),.un,.sh d])) :
  ∃(o:Int) (a:List Int) (t:Sl),dF (KC T.cA (run T W (n+1)) []) (ev T.cA (run T W (n+1)) dA el) (wB bA [3]) (rg c) [] [.sh h,.p (.l [.int k,.int s]),.un,.un]=some (.ok (a.map D.int),[.sh h,.p (.l [.int k,.int o]),.un,t])/\a.length=c/\∀x∈a,0<=x/\x<no:=by
 obtain⟨b,y,e,⟨f,a,g,rfl,i,rfl,q,r⟩,A⟩:=EJ (tests:=KC T.cA (run T W (n+1)) []) (uC:=ev T.cA (run T W (n+1)) dA el) (bind:=wB bA [3]) (ds:=rg c)
  (λj b U=>∃(f:Int) (a:List Int) (g:Sl),U=[.sh h,.p (.l [.int k,.int f]),.un,g]/\iB g=bA/\b=a.map D.int/\a.length=j/\∀x∈a,0<=x/\x<no)
  (λj d hd b U u=>by
   obtain⟨f,a,g,rfl,i,rfl,q,r⟩:=u;obtain⟨v,B,w,e⟩:=m f d;refine⟨_,bA,_,by simp only[fS,eU,nH,XQ,nC i,QM,GO]<;>rfl,TK,λ_=>?_,λz=>nomatch z⟩;refine⟨.i v,_,e,_,a++[v],_,rfl,rfl,by simp[RV.d],by simp[q],λx l=>?_⟩;rcases SD.mp l with l | l
   ·exact r x l
   ·rw[RD.mp l];exact w)
  [] [.sh h,.p (.l [.int k,.int s]),.un,.un] ⟨_,[],_,rfl,rfl,rfl,rfl,λx h=>nomatch h⟩
 exact⟨f,a,g,e,by rw[q];simp,r⟩
def Lk{W n:Nat}{q:D}{no ba:Int}{m F:Nat}{J:List RP}{k s:Int}(H:HD q no ba m F J) :
  ∃(r:Int) (a:L2.XA),run T W (n+2) "I" [.p (.l [.int k,.int s]),.sh q]=some (.ok (.sh (uA a)),[.p (.l [.int k,.int r]),.sh q])/\VK no ba m a:=by
 obtain⟨oc,fs,rs,rfl,H⟩:=H;have ho:=H.ho;have hm:=H.hm;have h3:=H.h3;have h5:=H.h5;clear H
 exists rX
 have n1:=ho.n1;have n2:=ho.n2;have b1:=ho.b1;have b2:=ho.b2;have g:=R9 (W:=W) (n:=n) (no:=no) (ba:=ba) (oc:=oc) (rs:=rs) ho.l2;rw[hm] at g;obtain⟨v,K,o,M⟩:=JP (W:=W) (n:=n) (k:=k) (s:=s) (m:=(m:Int)+ba) (by lia);obtain⟨b,N,y,O⟩:=JP (W:=W) (n:=n) (k:=k) (s:=K) (m:=2) (by lia)
 obtain⟨t,z,i⟩:∃t:Nat,v*b=(t:Int)/\(t:Int)<=(m:Int)+ba-1:=by
  rcases(by lia:b=0\/b=1) with rfl | rfl
  ·exact⟨0,GR v,by lia⟩
  ·exact⟨v.toNat,by lia,by lia⟩
 have u:UB .Mult (.int v) (.int b)=aA (.i t):=by rw[O5 (by lia) (by lia),z]
 obtain⟨c,x⟩:∃c:Nat,(if(m:Int)<(t:Int) then(m:Int) else(t:Int))=(c:Int):=by
  split
  ·exact⟨m,rfl⟩
  ·exact⟨t,rfl⟩
 have j:c<=m/\c<=t/\(c=m\/c=t):=by(split at x<;>lia)
 obtain⟨P,l,X,e,A,B⟩:=Wz (W:=W) (n:=n) (el:=MW) (no:=no) (h:=HA no ba oc fs rs) (k:=k) (s:=N) (c:=c) (λs d=>by
  obtain⟨v,r,o,Y⟩:=JP (W:=W) (n:=n) (k:=k) (s:=s) (m:=no) (by lia);refine⟨v,r,o, ?_⟩;unfold MW;clear ho hm n1 n2 b1 b2 g z x j h3 h5 o M O y i u
  walk_at "!vA")
 refine⟨P,((t:Int),l), ?_,⟨by show(0:Int)<=(t:Int);lia,by show(t:Int)<=_;lia,by show(l.length:Int)=if(m:Int)<(t:Int) then(m:Int) else(t:Int);rw[x,A],B⟩⟩;show _=aA (Out.ok (RV.sh (.t [.int t,.t (l.map D.int)])),_);have Q:∀{U:Env},aAb .gC [.val (.i c)] U=aA (rg c,eA):=λ{U}=>KY (by lia)
 have R:jB (l.map D.int).length=bA:=VB (by rw[vA];lia);have C:jB l.length=bA:=VB (by lia);clear ho hm n1 n2 b1 b2 j A B h3 h5 o y i
 walk_at "!vA"
 rw[aH Q]
 walk_at "!vA"
 all_goals (first | done | (rw[RK rfl];walk_at "!vA"))
section
variable{no ba:Int}{kn m:Nat}{ps:List RP}{hA d0:D}{ks:List L2.XA}{W n:Nat}
def Al:FD .sorted [VG m ba kn ps ks]=aA (.ow (.l ((CS.qD ks).map uA))):=by
 unfold VG;rw[Rl,wK,show L2.gk ∘ Sum.inl=id from rfl,List.map_id]
def EW{U:Env}:sL nS 3 (aA (⟨"TooMany",eA⟩,U))=store 3 (.sh (.FE "TooMany" eA)) U:=hKa Tn
def ko(h:run T W n "f" [.sh hA,.sh d0]=some (.ok (.ow (VG m ba kn ps ks)),[.sh hA,.sh d0])):run T W (n+1) "g" [.sh hA,.sh d0]=some (.ok (.ow (.l ((CS.qD ks).map uA))),[.sh hA,.sh d0]):=by
 have e:=Al (m:=m) (ba:=ba) (kn:=kn) (ps:=ps) (ks:=ks)
 exists BS
 generalize VG m ba kn ps ks=d at *
 walk_at "!EW MY NY"
def jo(h:run T W n "f" [.sh hA,.sh d0]=some (.ex ⟨"TooMany",eA⟩,[.sh hA,.sh d0])):run T W (n+1) "g" [.sh hA,.sh d0]=some (.ex ⟨"TooMany",eA⟩,[.sh hA,.sh d0]):=by
 exists BS
 walk_at "!EW MY NY"
 rfl
def qFa(h:run T W n "f" [.sh hA,.sh d0]=some (.ex ⟨"TooMany",eA⟩,[.sh hA,.sh d0])):run T W (n+2) "J" [.sh hA,.sh d0]=some (.ok (.ow (.l [.bl bA,.bl bA,.bl dA])),[.sh hA,.sh d0]):=by
 replace h:=jo h
 exists AX
 have d:bT [.TQ] (aA (.FE ("TooMany":fA) eA))=aA (.b bA):=rfl
 walk_at "!EW MY NY"
end
mutual
theorem dX:∀(n:Nat) (d:D),JB n d=bA->EE d d=bA
 |_,.lA,_=>rfl
 |_,.bl b,_=>TM b
 |_,.int i,_=>TM i
 |_,.str x,_=>TM x
 | 0,.t _,h=>(CD h).elim
 | 0,.l _,h=>(CD h).elim
 |n+1,.t a,h=>eX n a h
 |n+1,.l a,h=>eX n a h
 |n,.ins _ _ _,h=>by cases n<;>exact(CD h).elim
 |n,.FE _ _,h=>by cases n<;>exact(CD h).elim
 |n,.dB _ _,h=>by cases n<;>exact(CD h).elim
 |n,.pS _ _,h=>by cases n<;>exact(CD h).elim
theorem eX:∀(n:Nat) (a:List D),a.all (JB n)=bA->BN a a=bA
 |_,[],_=>rfl
 |n,d::a,h=>by(rw[kC,RA] at h;show(EE d d&&BN a a)=bA;rw[dX n d h.1,eX n a h.2];rfl)
end
def vn(h:JB 20 d=bA):DB .NotEq d d=aA dA:=by rw[l6 h h,dX 20 d h];rfl
def Vm(h:JB 20 d=bA):DB .Eq d d=aA bA:=by rw[Um h h,dX 20 d h]
section
variable{no ba:Int}{kn m:Nat}{ps:List RP}{hA:D}{W n:Nat}{ns:List Int}
theorem Ft{no ba oc:Int}{fs:List (Int×Int×Bool)}{rs:List D}(a:rH no ba oc fs)(g:rs.length<=8)(h:∀d∈rs,RG no ba oc (fs.length:Int) d):∃m kn ps,HD (HA no ba oc fs rs) no ba m kn ps:=by
 obtain⟨m,e,f,i⟩:=Gy a;obtain⟨ps,b,c⟩:=Oc (rs:=rs) a e f rs h;exact⟨m,no.toNat,ps,⟨_,_,_,rfl,a,e,f,i,(Ah (by have:=a.n1;lia)).symm,b,c,g⟩⟩
theorem Kx(c:ns.length<=63):∃hA no ba m kn ps a,HD hA no ba m kn ps/\VK no ba m a/\KA T.cA (run T W (n+10)) W (HE.body.take 2) [.sh (.l (ns.map .int)),.un,.un,.un,.un]=aA (.nx,[.sh (.l (ns.map .int)),.sh hA,.sh (uA a),.un,.un]):=by
 have d:=Eb (W:=W) (n:=n+9) (ns:=ns) (k:=0) c (by lia);have e:=Eb (W:=W) (n:=n+9) (ns:=ns) (k:=1) c (by lia);rw[show((0:Nat):Int)=0 from rfl] at d;rw[show((1:Nat):Int)=1 from rfl] at e
 generalize (GG ns 0).1=f at *
 generalize (GG ns 0).2=g at *
 generalize (GG ns 1).1=k at *
 generalize (GG ns 1).2=o at *
 obtain⟨q,no,ba,oc,fs,rs,h,i,b,j⟩:=cu (W:=W) (n:=n+7) (k:=f) (s:=g);obtain⟨m,kn,ps,H⟩:=Ft i b j;obtain⟨r,a,t,l⟩:=Lk (W:=W) (n:=n+8) (k:=k) (s:=o) H;refine⟨_,no,ba,m,kn,ps,a,H,l, ?_⟩;replace h:run T W (n+10) "s" [.p (.l [.int f,.int g])]=some (.ok (.sh (HA no ba oc fs rs)),[.p (.l [.int f,.int q])]):=h;clear H j b i l c;unfold HE
 generalize HA no ba oc fs rs=hA at *
 generalize uA a=u at *
 generalize ns.map D.int=v at *
 walk_at "!"
def Qz{P:VA}{C:Calls}{L:List L2.XA}:∃t,dF (KC P C [.not (.QI (.v 1) [.tuple])]) (ev P C dA UW) (wB bA [1]) (L.map uA) [] [.un,.un]=some (.ok [],[.un,t]):=by
 obtain⟨a,f,e,⟨rfl,t,rfl,b⟩,_⟩:=EJ (tests:=KC P C [.not (.QI (.v 1) [.tuple])]) (uC:=ev P C dA UW) (bind:=wB bA [1]) (ds:=L.map uA) (λ_ a U=>a=[]/\∃t,U=[.un,t]/\iB t=bA)
  (λj d hd a U c=>by
   obtain⟨rfl,t,rfl,b⟩:=c;obtain⟨k,_,rfl⟩:=qF.mp (pF hd);refine⟨_,dA,[.un,.sh (uA k)],by simp only[ZC,nC b]<;>rfl, ?_,(λz:dA=bA=>nomatch z),λ_=>⟨rfl,_,rfl,rfl⟩⟩;unfold uA
   walk_at "!") [] [.un,.un] ⟨rfl,_,rfl,rfl⟩
 exact⟨t,e⟩
def bHa{X:List L2.XA}:DB .NotEq (.l (X.map uA)) (.l (X.map uA))=aA dA/\DB .Eq (.l (X.map uA)) (.l (X.map uA))=aA bA:=by
 have e1:JB 20 (.l (X.map uA))=bA:=IH.mpr λd hd=>by(obtain⟨k,_,rfl⟩:=qF.mp hd;show(bA&&((k.2.map D.int).all (JB 17)&&bA))=bA;rw[tZ];rfl)
 exact⟨vn e1,Vm e1⟩
theorem Lx{L:List L2.XA}{f:L2.XA->D}{d a:D}(e:run T W n "g" [.sh hA,.sh a]=some (.ok (.ow (.l ((CS.qD L).map uA))),[.sh hA,.sh a]))(h:L.length<=150) :
  ∃U,KA T.cA (run T W n) W (HE.body.drop 3) [.sh d,.sh hA,.sh a,.o (mD L f),.un]=aA (.rt (.b bA),U):=by
 have i:FD .len [mD L f]=aA (.i L.length):=by unfold mD;rw[aS,vA]
 have k:FD .list [mD L f]=aA (.ow (.l (L.map uA))):=by(show aA (RV.ow (.l (List.map FP (L.map .inl))))=_;rw[wK];rfl)
 have q:=Ul (ks:=L);obtain⟨r,s⟩:=bHa (X:=CS.qD L);obtain⟨t,j⟩:=Qz (P:=T.cA) (C:=run T W n) (L:=CS.qD L);have u:decide ((L.length:Int) > 150)=dA:=cB (by lia);have l:decide ((150:Int)<(L.length:Int))=dA:=cB (by lia);have v:decide ((0:Int)<((0:Nat):Int))=dA:=rfl;obtain⟨b,p⟩:∃b,decide ((30:Int)<(L.length:Int))=b:=⟨_,rfl⟩
 generalize (CS.qD L).map uA=X at *
 generalize L.map uA=x at *
 generalize mD L f=M at *
 generalize (L.length:Int)=z at *
 have c:KA T.cA (run T W n) W ((HE.body.drop 3).take 3) [.sh d,.sh hA,.sh a,.ow M dA dA,.un]=aA (.nx,[.sh d,.sh hA,.sh a,.ow M dA dA,.o (.l X)]):=by
  unfold HE;clear p j h
  walk_at "!"
 rw[QP c];clear c h;refine⟨[.sh d,.sh hA,.sh a,.ow M dA dA,.o (.l [])], ?_⟩;unfold HE
 walk_at "!"
 rw[bw (ov rfl)];simp only[aAg,QM,GO]
 walk_at "!"
 rw[RK rfl,show([]++AB 2 Sl.un:List Sl)=[.un,.un] from rfl,j]
 walk_at "!"
 simp only[aAz,aAs,nH,XQ,QM,GO,WE]
 walk_at "!"
 cases b<;>walk_at "!"
theorem law_spec(W:Nat)(ns:List Int)(i:ns.length<=63):∃b,run T (W+1300) 30 "law" [.sh (.l (ns.map .int))]=some (.ok (.b bA),b):=by
 rw[WZ (fn:=HE) rfl rfl rfl];show ∃b,cZ [.sh (.l (ns.map .int))] (KA T.cA (run T (W+1300) 29) (W+1300) HE.body [.sh (.l (ns.map .int)),.un,.un,.un,.un])=_
 obtain⟨hA,no,ba,m,kn,ps,a,H,c,e1⟩:=Kx (W:=W+1300) (n:=19) (ns:=ns) i;obtain⟨L,f,r,d,k,g,cl⟩:=fo (W:=W) (n:=23) H c;rw[QP e1];clear e1
 have e2:KA T.cA (run T (W+1300) 29) (W+1300) ((HE.body.drop 2).take 1) [.sh (.l (ns.map .int)),.sh hA,.sh (uA a),.un,.un]=aA (.nx,[.sh (.l (ns.map .int)),.sh hA,.sh (uA a),.o (mD L f),.un]):=by
  unfold HE
  generalize mD L f=M at *
  generalize ns.map D.int=s at *
  generalize uA a=t at *
  clear H c d k g cl i
  walk_at "!"
 rw[QP e2];clear e2 r
 obtain⟨U,j⟩:∃U,KA T.cA (run T (W+1300) 29) (W+1300) (HE.body.drop 3) [.sh (.l (ns.map .int)),.sh hA,.sh (uA a),.o (mD L f),.un]=aA (.rt (.b bA),U):=by
  rcases aAU (W:=W) (n:=20) H c d g cl with ⟨l,v,u,_,h⟩ | ⟨l,_⟩
  ·have e:=ko h;rw[u] at e;exact Lx e l
  ·have h:=(aAU (W:=W) (n:=19) H c d g cl).resolve_left λz=>by lia
   have e:=qFa h.2;have p:FD .len [mD L f]=aA (.i L.length):=by unfold mD;rw[aS,vA]
   have x:decide ((150:Int)<(L.length:Int))=bA:=vB (by lia);have q:DB .Eq (.l [.bl bA,.bl bA,.bl dA]) (.l [.bl bA,.bl bA,.bl dA])=aA bA:=rfl;refine⟨[.sh (.l (ns.map .int)),.sh hA,.sh (uA a),.o (mD L f),.un], ?_⟩;unfold HE
   generalize mD L f=M at *
   generalize (L.length:Int)=z at *
   generalize ns.map D.int=s at *
   generalize uA a=t at *
   clear H c d k g cl i h
   walk_at "!"
 replace j:KA T.cA (run T (W+1300) 29) (W+1300) ((HE.body.drop 2).drop 1) [.sh (.l (ns.map .int)),.sh hA,.sh (uA a),.o (mD L f),.un]=aA (.rt (.b bA),U):=j;rw[j];exact⟨_,rfl⟩
end
end Mx
namespace PySem.W.Fast
local macro_rules | `(command|universe $x)=>do let l:=x.getId.toString.toList;let c←(List.range (l.length/11)).toArray.mapM λi=>(do let n:=Lean.mkIdent (.mkSimple s!"tw{((l.drop (1+11*i)).take 11).foldl (fun n d=>62*n+(d.toNat-if d<'A' then 48 else if d<'a' then 55 else 61)) 0}");`(command|def $n:ident:=True));return Lean.mkNullNode (c.map (·.raw))
universe x1CgrIbX8EDkC3oz1VXscirCD9OfY6I7SLCDOgyWQtPl3CDWwqMzHUrWCEN7WwTPk3SCKCxLUMyQsfCMaMr0TgTbG1F3ohiFrLf4CUHH5QfhH9xCdJlfSq201nCitjV2dfFWf1HdacmWaPPcCs4JBsP4mgrCuQ398gUrY21IKNK0o4tB6D1Mz2hT7UG0D2Fa1notupeD9tCgvIjK8UDDGAT7ZJYrCDDVysNoGbjfDLWiNY7ZzMe1KxgQCB2PL3DUE0HoMN4aNDUZe50WHYJaDVDePbXPs31DWoJ2PDHH1nDaDmALL7fw5DadqqJELwXgDkRJMchRVaODkRbrz3GKuwDnmRzT7arRX1NlOC8D4VVFDpssi7oOeMJE0277iB5vCzE0quIx0hUDX08he2VysY89E2nDCylpGKKE3v5UKGkxsGE81tC4QrfCrEBdrX4LPCqNEDQS7gmOqO1EF72ohHJ2tBEJi7Fi4fBhrEKdlzd9O5mSEM23qzxQqyHEQqY2JbJ8LNES68iSGfPoSETISZcGznDOETpfchOyrKaEWfYpnNGvBFEYAB6DjJ2V7EYEvU8YPTcmEZZMWc4SvyBEacpiG3Gd6JEbppUZbRiojEeAaWZ5OhRxEg9vYXZdGvfEgEFBoorIV4Eo2J0hE7BHuEqTTRLLRU8OEtOcJeCBugNEteCOAMHdcwEx1ZlU7xO9GEzGRQh7DdlGF1m1O2jlgqGF62zCQN5a5iF6lo8qYdwEiF8FWBnYx01aF9oCOJU8rx81WShjETY2apFF3vKN3Ku1F1WaG5UciDdOFLVcDk0FmUMFM0nJbNDZR21Xc1Id7Pz38FTLExv8lUsmFTjwhbVGMImFUUDsrD98tCFUx4z5iZOTEFW1FdP3Tzvs09dWgMUhscbFZnaBAL7MeEFawQcL52wT71ZbJMppKteMFmHNYyCFFmjFn02iutXYfEFsPw46rUO0eFxb4lfYHLzE1bLzUIw7EgNG2vVnu81F62G74xiWINmVbG7tuzLmn4OBG9DktMvvMKq1cOpt3aAIdJGJkXQY7sAt11dJwtzch6s6GLYytNwfvc9GNunXg52u6aGYwslOiDHPY1epwUh0qYvVGnaYJTyIgt5GoOdj0XtyFXGqB3YEw2tmfGqUH339TMy6GrZ07H2GRGNGsnmzViURilH0tSZXCmJ5gH6wk1d0YR0WH8Q4jkJOMoWH8WPz1Kl1iWH9gmC57vs63HBb9tgxAG2rHDYoD37cq3mHHncnUrjlb71jVLiHq5VXQHLZuKFRdEBOHQpjBSAKOzu1kEUJWVzrrKHT7Lfmnc4thHYgyLIhsSKZHg64hm7qhLDHgAyg65XC7zHgawAaBG2DTHmNRyCGjdiFHneu2Uy1CkcHomXkkuUnrPHwS0cLbS5NMHx169jBF2XrI0LbxV3yjJyI7fbPnwIYTPI8C9zGiWaXh1oaAUPYQeNhIEDyQg2gXJoIERVcm1E2PgIEcdLNsc71tIHAaZUx5x2pIHeoaoIpc4OII3HM0TVQerIMFRkoOZrq7IOfzV1ACneYIP53yX1iwQYISzE4rwk0NTIYSDNFDoBc4IctbATVHqjWIgjLyWxUHehIir6ukVcqKPIrSMx9fUJlbIsXNwvdiUYJIuxCxlWOmY1IwaILVcf6SkIxvsr8hQRlKJ2r2VC6nelWJ7JRLQ0zpbLJBsSpkRbrL4JEz6a18Syc1JIo2tsmdhH1JWyAYnjvoBTJXlI0LuySADJah0wt8SnauJf9ItiiPZQKJhFBfB1B36aJkYLu3FltmdJobOxpbbRpdJohIMbJeeBp1ysQ1TAkdeFJqCzh8Z2TdiJqRST4q1OF2JskBXeO5SKBJwkX1fnKfXeJxpnE9LYVx1JxyRZWjlinmK3ZgzMURxjqK7iAu602sGEK9U4jpj9P96KCWui6Qb8GKKD9mfcTyX5FKE1tWOYw28dKGJ7RkSvzfRKIFQk7UOT1QKMttZGj6nJiKPmy9XL6NE5KRJGBCTGLaxKV0k5ZZp6WFKVngGgRytMyKYEdn7AF9CrKYUnXPEBI2qKc9Uc0x2f3z244wO1vuju8Kie1NGxbQpYKjegp17x9H1Kta9xvNmPAMKw0hIHqEUmEKxOdF5DZVykL3k39aqlSr3L41HHgIfpC5LDP4IJmRyvlLKMZUDLHh7KLQlUnaoeJk3LQuHwMi6hNHLS95wNY5dqoLTf4BcdjA5KLUbDztv6DdxLV528uqPZnz2A4tb12jPHpLeiuWywtkBkLhXLnNW3NiULs5X6RqU8sM2RNnR8DZfoy2S3bqPDoz5b2T9tZXm10CM2TMjPe7nNul2TeiMCkFC7Z2Tzm81bzKoN2UqQp2Wf57s2X7T9SDF3CQ2hHWeJkbAg72hiqCx5Lo1D2iSoI0FlGes2mx9ji3boDV2pgge2AmYLB0HzyLfPmVjo374F56HGK0038vTuKFquIb3CFPfnHNWRb3DBUR7nq3TU3PdH97eCv8l3VMzbJQRTYa3VqAKGbVgQ93Y3XNe5FoA23YnBFDzKvYJ3jwLYwptNSz3mnFhac7oU20Nu2yll7R293vIpC1OazJ03yuo4XiNpqu3zTPchNkVZ80OuYcStTGAz45HumjYliOc4AEeey0BUPN4AbWNOlnUDE4DZgu1moGY24EYGgisez5o4HKVZSiDVNG4IeMt6SUCaj4MFc4PKk5h14UJJEoZbG2w4VO8kMJ3v6p4aUG9dyz3hk0SYY7FhHeGM4hQpkVx1lYI4iUhD89RAVv4j8oUbolUuj4nGDfCJiork4s624Cuj2w34saGI3RlJBf4wS1TiiKl3v50mb7NxVDPf52yYJms4RNq5B4SRvXDkUf5CfjeM69DmZ5Ejc617Ao8n5IlR83jrJU85N17AHsOTyK5NALE4lFola5O4d0b3KU8c5OSOWWFolP25PB7v1xD1QI5ShCTE1D0Sq5UeRPVkYlcu5WjzJbaszMt5co7s2fftMB5pe8b4OFiPz5qSu67nxf3z5w8yObMERBB5zOp03Xgxtv61VmRiF9J6y61X5ooyTqz30bXLWGWsAQA64ewVKSoUUw65mpri4zXZT67IxsknaIXp6BWkTKvVcyg6C8fIcH5SD26HbKnqERZO76I9tpZQjluj6INs57b3iAb6LwuMiARATs6TrPpzylavs6Z9HnKeN9Ig6f3y0FDvWHz6jPLujbVS5S6oVAhWjVVX30gMT3nABU5V0gasgZytxZ30guKzsiBtno76y40pOFI4Z7CMtzhQ8aOx7DdsJdnw6wm7E0C3lNCEJG7K3IpA0zar57KL7X5yEzni7KNRt81WuqS7MQnETVYYpf7UTZR1yN7ND7WcGUwtQJ2P7XAuH7QNv1z7dM5f2QatrG7fQ8CD2fz0m0lxOz2nXnRQ0mrt3qhAFJU7tPgrRq1h1p7wmn2IYSJCT836VSuGWwoD89oxlUwXYEs8BOAa97xBWq8EJTsk508o98KJzVtUDYp60pv4ObOrjWH8RYPVfYm69q8VZruISPtbm8XPA6aiQ1iE8fPEMlzLQXO8hgwMZfaHXi8iDQR3MzKqs05RZST9gKv08r3sEIzAF1A8rtPQK15W0V8wJfDZFuTJn8wrwO04mqwh8zvQ8JjTI5d0uDKA1P5HBK0utJScFCFgZ9Gy6JrWnZ3g9INJ9ppFa819OyIp9XcmSI0wdTuw5j9069SsVAUECRK39WXxPJLVsaq9Wc1tOkETWu9XhmrZKD6Gl9ZppJpnuns69aLFnaRSsLf9jgDT8PCdBO9kVyXZ2SfUA9l0tWgGe7oF9tiYcrMSHYv9w8wIuma6Vd9yGn89THSEtA201yvEeEVwA6cMG1Fyb7dA75lk3SdsnnA8k3CTqpTuNABImCey5KZCAEAWYHjMrbwAJ8otiv8XC9AKDBKljp6bWATHsD5qbsCoAVu7NTAmTCeAYXmm5AExzx06YxG23E8sgAiGsHOKLa8dAkiniLpTQojAq0rEX8y8TEAq3fCbmjOwcAri60btnl95ArjvtGn0uDqB1OWPHG9OWZB3rBb5RhE59BBHws3RJbumBBNgMNfMOl8BFSQAbrBKJ817rmlkrYwJCBLub9ER1JYABOov9oouAnpBP0YvyEgrPnBR9RNgVpvSdBSAdTAbqWASBUAsUwgONavBWTvt7vpe6QBWjWOm4lU6bBc5PtSbRApNBfMJOeaCCIbBkc3ha7nBa5Bmdsjch1Zw5BnDFiNwsvfcBqO4Hhoe09LBrzatJr15md
end PySem.W.Fast
open PySem PySem.W PyProof.Rows
local macro_rules | `(tactic| exists $n,$b,$f)=>`(tactic| refine CI.Qr $(Lean.mkIdent `KX) $(Lean.mkIdent `G) (show CI.dP _ (Tx.top $n) _ $f from CI.aI $b) ?_)
set_option maxRecDepth 100000 in
set_option maxHeartbeats 0 in
theorem PySem.Challenge.cw_canonwright_k29_stands_that_come_holds : PySem.Challenge.rw_canonwright_k29_stands_that_come.Holds := by
 w_on;o_law;k_head;(case hw=>w_witness2)
 k_fill
 refine CI.Nx (l:=PySem.Challenge.rw_canonwright_k29_stands_that_come) (T:=Tx.T) (L:=Tx.L) (st:=Tx.top 77) (fn:=Tx.HE) (W:=1000000) (n:=30) (x:="law") (p:="_law_script") (f:="law") rfl rfl ⟨rfl,by decide,by decide,rfl⟩ rfl Tx.wk Tx.N_ (by decide +kernel) (λw h Y=>PySem.W.kIn_of Y) ?Nr ?Ey
 case Ey=>exact Mx.law_spec _
 case Nr =>
  intro w mg h KX G;have r:CI.ClsAt (L2.IB KX) "Span":=by refine' CI.bM ?a ?pg ?hd ?po ?sa ?mk ?kp;(case a | pg | hd | po | sa | mk | kp=>dsimp only[L2.IB];k_is)
  have H:CI.ClsAt (L2.IB KX) "Leap":=by refine' CI.bM ?a ?pg ?hd ?po ?sa ?mk ?kp;(case a | pg | hd | po | sa | mk | kp=>dsimp only[L2.IB];k_is)
  have I:CI.ClsAt (L2.IB KX) "Back":=by refine' CI.bM ?a ?pg ?hd ?po ?sa ?mk ?kp;(case a | pg | hd | po | sa | mk | kp=>dsimp only[L2.IB];k_is)
  have B:CI.ClsAt (L2.IB KX) "Again":=by refine' CI.bM ?a ?pg ?hd ?po ?sa ?mk ?kp;(case a | pg | hd | po | sa | mk | kp=>dsimp only[L2.IB];k_is)
  have j:CI.ClsAt (L2.IB KX) "Range":=by refine' CI.bM ?a ?pg ?hd ?po ?sa ?mk ?kp;(case a | pg | hd | po | sa | mk | kp=>dsimp only[L2.IB];k_is)
  have C:CI.ClsAt (L2.IB KX) "Above":=by refine' CI.bM ?a ?pg ?hd ?po ?sa ?mk ?kp;(case a | pg | hd | po | sa | mk | kp=>dsimp only[L2.IB];k_is)
  have F:CI.ClsAt (L2.IB KX) "Never":=by refine' CI.bM ?a ?pg ?hd ?po ?sa ?mk ?kp;(case a | pg | hd | po | sa | mk | kp=>dsimp only[L2.IB];k_is)
  have D_law:CI.cP (L2.IB KX) "law" (Tx.top 77):=by refine' CI.X6 ?a ?l ?c ?k;(case a | l | c | k=>dsimp only[L2.IB];k_is)
  have ⟨Xi,Wi,_⟩:CI.qH w.params (L2.IB KX) mg Tx.T (CI.rE Tx.L) ("LEADER",.c (.t [(.int 0),(.int 0),(.bl dA)]))/\CI.qH w.params (L2.IB KX) mg Tx.T (CI.rE Tx.L) ("BY_THE_LINE",.c (.t []))/\True:=by
   iterate 2 refine⟨by refine' CI.vo KX G ?a ?l ?c ?z;(case a | l=>dsimp only[L2.IB];k_is);(case c=>first | rfl | decide +kernel);(case z=>rfl), ?_⟩
   trivial
  have ⟨zk,yk,_⟩:CI.fP (L2.IB KX) "TooMany"/\CI.fP (L2.IB KX) "CanonError"/\True:=by
   iterate 2 refine⟨by refine' CI.jr ?a ?xq ?ga ?no ?cl ?gt ?tk ?mo ?mb ?mv;(case a | ga | no | cl | gt | tk | mo | mb | mv=>dsimp only[L2.IB];k_is);(case xq=>dsimp only[L2.IB];k_exc), ?_⟩
   trivial
  refine⟨D_law, ?_⟩;unfold Tx.L
  iterate 8 refine CI.fc (by refine' CI.M6 KX G ?a;(case a=>k_is)) ?_
  refine CI.fc (Xi) ?_;refine CI.fc (Wi) ?_
  iterate 5 refine CI.fc (by refine' CI.M6 KX G ?a;(case a=>k_is)) ?_
  exists 23,CI.iE,Tx.WX
  exists 24,CI.iE,Tx.YX
  exists 25,CI.RH,Tx.eY
  exists 26,CI.QH,Tx.aY
  exists 27,CI.QH,Tx.QX
  exists 30,CI.FI,Tx.ZX
  exists 31,CI.QH,Tx.UX
  exists 40,CI.FI,Tx.JJ
  exists 42,CI.FI,Tx.XX
  exists 43,CI.RH,Tx.OX
  exists 50,CI.FI,Tx.TX
  exists 51,CI.iE,Tx.fY
  exists 52,CI.iE,Tx.bY
  exists 53,CI.FI,Tx.SX
  exists 54,CI.iE,Tx.VX
  exists 55,CI.QH,Tx.NX
  exists 56,CI.iE,Tx.dY
  exists 57,CI.iE,Tx.cY
  exists 58,CI.iE,Tx.BS
  exists 60,CI.iE,Tx.zX
  exists 61,CI.iE,Tx.uX
  exists 62,CI.cm,Tx.BX
  exists 63,CI.FI,Tx.fM
  exists 64,CI.QH,Tx.wX
  exists 65,CI.QH,Tx.ZP
  exists 66,CI.QH,Tx.yX
  exists 67,CI.dm,Tx.AS
  exists 68,CI.RH,Tx.IJ
  exists 69,CI.FI,Tx.xX
  exists 70,CI.iE,Tx.DX
  exists 71,CI.FI,Tx.sX
  exists 72,CI.iE,Tx.vX
  exists 73,CI.iE,Tx.EX
  exists 74,CI.iE,Tx.tX
  exists 75,CI.iE,Tx.rX
  exists 76,CI.iE,Tx.AX
  exists 77,CI.FI,Tx.HE
  refine CI.fc (CI.cM KX G r (by refine' CI.FF ?a ?b ?i ?l ?c ?k;(case a | b | i | l | c | k=>(try dsimp only[L2.IB]);k_is)) Tx.Bu (by(repeat refine CI.fc (by refine' CI.yM ?a ?b;(case a | b=>(try dsimp only[L2.IB]);k_is)) ?_);exact λ_ h=>nomatch h)) ?_;refine CI.fc (CI.cM KX G H (by refine' CI.FF ?a ?b ?i ?l ?c ?k;(case a | b | i | l | c | k=>(try dsimp only[L2.IB]);k_is)) Tx.yu (by(repeat refine CI.fc (by refine' CI.yM ?a ?b;(case a | b=>(try dsimp only[L2.IB]);k_is)) ?_);exact λ_ h=>nomatch h)) ?_;refine CI.fc (CI.cM KX G I (by refine' CI.FF ?a ?b ?i ?l ?c ?k;(case a | b | i | l | c | k=>(try dsimp only[L2.IB]);k_is)) Tx.xu (by(repeat refine CI.fc (by refine' CI.yM ?a ?b;(case a | b=>(try dsimp only[L2.IB]);k_is)) ?_);exact λ_ h=>nomatch h)) ?_;refine CI.fc (CI.cM KX G B (by refine' CI.FF ?a ?b ?i ?l ?c ?k;(case a | b | i | l | c | k=>(try dsimp only[L2.IB]);k_is)) Tx.wu (by(repeat refine CI.fc (by refine' CI.yM ?a ?b;(case a | b=>(try dsimp only[L2.IB]);k_is)) ?_);exact λ_ h=>nomatch h)) ?_;refine CI.fc (CI.cM KX G j (by refine' CI.FF ?a ?b ?i ?l ?c ?k;(case a | b | i | l | c | k=>(try dsimp only[L2.IB]);k_is)) Tx.Au (by(repeat refine CI.fc (by refine' CI.yM ?a ?b;(case a | b=>(try dsimp only[L2.IB]);k_is)) ?_);exact λ_ h=>nomatch h)) ?_;refine CI.fc (CI.cM KX G C (by refine' CI.FF ?a ?b ?i ?l ?c ?k;(case a | b | i | l | c | k=>(try dsimp only[L2.IB]);k_is)) Tx.vu (by(repeat refine CI.fc (by refine' CI.yM ?a ?b;(case a | b=>(try dsimp only[L2.IB]);k_is)) ?_);exact λ_ h=>nomatch h)) ?_;refine CI.fc (CI.cM KX G F (by refine' CI.FF ?a ?b ?i ?l ?c ?k;(case a | b | i | l | c | k=>(try dsimp only[L2.IB]);k_is)) Tx.zu (by(repeat refine CI.fc (by refine' CI.yM ?a ?b;(case a | b=>(try dsimp only[L2.IB]);k_is)) ?_);exact λ_ h=>nomatch h)) ?_;refine W2.mpr ⟨⟨"broken",rfl,by unfold Tx.eI;exact CI.fc (CI.UJ r (by refine' CI.FF ?a ?b ?i ?l ?c ?k;(case a | b | i | l | c | k=>(try dsimp only[L2.IB]);k_is)) Tx.s_ rfl) (CI.fc (CI.UJ H (by refine' CI.FF ?a ?b ?i ?l ?c ?k;(case a | b | i | l | c | k=>(try dsimp only[L2.IB]);k_is)) Tx.o_ rfl) (CI.fc (CI.UJ I (by refine' CI.FF ?a ?b ?i ?l ?c ?k;(case a | b | i | l | c | k=>(try dsimp only[L2.IB]);k_is)) Tx.n_ rfl) (CI.fc (CI.UJ B (by refine' CI.FF ?a ?b ?i ?l ?c ?k;(case a | b | i | l | c | k=>(try dsimp only[L2.IB]);k_is)) Tx.m_ rfl) (CI.fc (CI.UJ j (by refine' CI.FF ?a ?b ?i ?l ?c ?k;(case a | b | i | l | c | k=>(try dsimp only[L2.IB]);k_is)) Tx.q_ rfl) (CI.fc (CI.UJ C (by refine' CI.FF ?a ?b ?i ?l ?c ?k;(case a | b | i | l | c | k=>(try dsimp only[L2.IB]);k_is)) Tx.l_ rfl) (CI.fc (CI.UJ F (by refine' CI.FF ?a ?b ?i ?l ?c ?k;(case a | b | i | l | c | k=>(try dsimp only[L2.IB]);k_is)) Tx.p_ rfl) (λ_ h=>nomatch h)))))))⟩, ?_⟩;refine W2.mpr ⟨⟨"forbids",rfl,by unfold Tx.nL;exact CI.fc (CI.UJ r (by refine' CI.FF ?a ?b ?i ?l ?c ?k;(case a | b | i | l | c | k=>(try dsimp only[L2.IB]);k_is)) Tx.t_ rfl) (CI.fc (CI.UJ j (by refine' CI.FF ?a ?b ?i ?l ?c ?k;(case a | b | i | l | c | k=>(try dsimp only[L2.IB]);k_is)) Tx.r_ rfl) (λ_ h=>nomatch h))⟩, ?_⟩
  iterate 15 refine CI.fc (by refine' CI.Zl KX G ?a;(case a=>k_is)) ?_
  refine CI.fc (CI.sr KX G zk) ?_
  iterate 10 refine CI.fc (by refine CI.zIa KX G ?s ?y ?n;(case s=>refine' CI.Bx ?a;(case a=>k_is));(case y=>(repeat refine CI.fc (by refine' CI.zx ?a ?b ?k;(case a | b | k=>k_is)) ?_);exact o3 _);(case n=>(repeat refine CI.fc (by refine' CI.Ax ?a ?b ?k;(case a | b=>k_is);(case k=>kin_no)) ?_);exact o3 _)) ?_
  refine CI.fc (CI.yr KX G yk (by(repeat refine CI.fc (by refine' CI.Py ?a ?b ?m;(case a | b | m=>k_is)) ?_);exact o3 _)) ?_
  exact λ_ h=>nomatch h
