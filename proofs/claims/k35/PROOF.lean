import PyProof.Rows.All
import Wide.All
import OpenK.AllK
import PySem.Challenge.RW_canonwright_k35_papers_that_show_an_end
open List renaming length_map->nA,getElem?_eq_getElem->FC,length_append->kC,map_cons->AB,mem_cons_of_mem->WC,length_cons->YB,replicate->HB,map_append->UB,getElem?_eq_some_iff->bE,mem_singleton->kD,size_toArray->gD,getElem?_map->iD,all_cons->vC,mem_cons->DC,mem_cons_self->YD,mem_map->JC,range->XB,length_singleton->iF,mem_of_getElem?->VE,casesOn->NC,getElem?_set_ne->jF,append_nil->ZD,getElem?_cons_zero->SG,mem_append->dE,all_eq_true->EE,mem_append_right->FH,length_drop->lF,getD_eq_getElem?_getD->MJ,map_map->fE,getElem?_eq_none->WI,take_of_length_le->NJ,mem_append_left->XI,append_assoc->GH,length_nil->uG,getElem?_set_self->YK,length_take->HH,length_set->VG,lookup_cons->pI,nodup_append->aJ,getElem?_append_right->kP,replicate_succ->VL,getElem?_range->WL,zip_cons_cons->YL,set_cons_zero->aM,nodup_cons->GJ,getElem?_append_left->TQ,drop_eq_getElem_cons->UQ,length_replicate->RO,foldl_cons->JK,set_cons_succ->tN,length->BH,getElem?_cons_succ->VQ,mem_range->NK,map_nil->RI,take_succ->OK,map_congr_left->SO,take_length->vN,filter_append->UO,mem_of_mem_take->WQ,flatten_cons->VO,find?_cons->yN,getElem_mem->XO,length_filter_le->WT,mem_filter->YO,nil_append->aP,lookup->SK,mem_of_mem_drop->YT,any_cons->dP,take_append_drop->NX,length_range->fU,mem_flatMap->kU,filterMap_cons->UX,length_reverse->WX,forIn_cons->lU,range_succ->oU,getElem?_replicate->E9,length_eq_zero_iff->J9,append_cancel_left->K9,filter_eq_nil_iff->N9,reverse_cons->dY,isEmpty_iff_length_eq_zero->bp,filter_cons->jY,forall_mem_cons->Q9,of_mem_zip->mY,all_map->vU,take_zero->vY,drop_zero->wY,map_drop->DY,map_take->EY,eq_of_mem_replicate->Gp,length_erase_of_mem->Ip,all_nil->HY,length_pos_of_mem->Zp,filter_map->Ka,getElem?_toArray->iq,mem_iff_getElem?->nq,dropLast_eq_take->oq,mem_erase_of_ne->Aq,map_eq_nil_iff->Cq,take_succ_cons->Dq,drop_succ_cons->Fq,mem_filterMap->Iq,filterMap_map->Kq,foldl->LY,map_replicate->Pq,take_sublist->Sq,zip_nil_left->Tq,ext_getElem?->Yq,filter_congr->Zq,flatMap_cons->ar,pairwise_map->ir,drop_length->nr,any_eq_true->sr,range'->ub,forIn_nil->Er,rec->OY,sum_cons->Rr
open PySem.Str renaming ofString->yA
open PySem.W renaming Frag->iA,nsIn->ED,findIn->WG,keepIn->qI,fnOf->AH,emptyDict->cM,instObj->xN,plainGet->ZQ,codeIn->cP,kia_one->gR,hasDictIn->dU,kat_cons->iY,mg_of->pU,makesIn->lY,kat_yes->pY,plainGet_of->R9,isFn->tU,lookIn->qY,callWith_K->T9,kat_no->uY,methodObj->Z9,plainOver->aa,OpenLaw->wU,cellsFrom_some->Np,takerIn->Ga,kat_one->Ha,methodCall_KW->bq,mroIn->Sa,handedIn->jr,kat_nil->zr,kin_not->Ar,WalkO->xb,kat_lt->Hr,Looks->Nr,isIn->Ur
open PySem renaming wpAny_bind->gA,wpAny_pure->EA,Value->dA,Shared->zA,wpAny->rA,Str->bA,Addr->kA,mainGlobals->nC,Expr->DA,starEach->zC,Program->KC,wpAny_newObj_type->ZI,compareOp->gE,wpAny_holding->XG,foldedSetIterable->PJ,Stmt->rB,wpAny_dictEntries->IK,wpAny_callSpecial?_slot->QO,World->WB,wpAny_truthy_bool->bM,wpAny_call_entry->dM,binaryOp->fF,assignEach->CH,wpAny_field->VI,Around->RD,bootBuiltins->QK,Heap->TB,wpAny_passesOwn->ZO,wpAny_pyIter_list->XQ,wpAny_mono->IJ,behindInMarks->zN,mem_of_lookup->ZT,FuncData->DH,wpAny_typeNameOfWhole_keyiter->v9,wpAny_Call_Name_kw->bU,wpAny_setField_rec->cU,wpAny_notOrdered_dict->OX,backTo->yF,Builtin->EH,wpAny_typeOf->eP,wpAny_isInstance->iU,NameKind->JJ,wpAny_typeNameOf_keyiter->C9,wpAny_specialOf->mU,wpAny_dictEpoch->nU,PassesOwn->iM,Env->jM,codeAny_mono->mR,richCompare_meets_room->L9,wpAny_forIn_list->fY,DictEntry->CN,wpAny_rule->iP,reduceHash->kY,hashInt->qU,sizeLine_eq->pR,Obj->IB,wpAny_loadPart'->nY,IsPart->oI,Scope->tG,ItemsAre->tY,Operator->DN,codeAny->mM,wpAny_sequenceKey->da,slot_list_getitem->ja,CmpOp->RG,wpAny_pyIter_enum->qa,wpAny_standAt->xY,wpAny_getItem_list_slice->Ep,wpAny_attempt->AY,IsEnum->LJ,wpAny_eqBool_int->ua,noFill_tuple_add->wa,wpAny_pyNext_list_item->Mp,concat_meets->GY,wpAny_Call_method_late->Up,call_meets->xU,wpAny_updateDictKeysTo->Xp,wpAny_execs_nil->Ea,codeAny_builtin->Ia,wpAny_pyNext_list_end->aq,wpAny_isOneOf_keyiter->fq,getitemInPython_of_ne->lq,Pos->IC,wpAny_pyIter_keyiter->rq,wpAny_letTemporaryGo->wq,codeAny_call_builtin->xq,seq_tuple_add->Oa,evalPart_none->Pa,wpAny_dictSet_heap->Mq,Within->Ta,wpAny_assign_Name->Rq,Keyword->rR,seqIndex_neg->Xa,seqIndex_of->fb,wpAny_mkInt->jb,wpAny_Name->yb,wpAny_call->Ab,typeIs_int->Fb,call->Gb,boot_len->Jr,Sem->DE,BindsTo->PY,Params->AU,Tok->BF
open Bool renaming and_eq_true->nB,false_ne_true->fD,or_false->CF,false_eq_true->OJ,false_or->vG,or_true->wG,true_or->xG,true_and->IH,or_eq_true->MK,false_and->eM,casesOn->uU,not_eq_true->za,or_eq_false_iff->yq,and_true->Qa,rec->zU,decide_and->yr,eq_iff_iff->Dr,and_false->Kr
open PySem.Heap renaming get?_push_of_some->oC,get?_push_size->XD,lt_size->mC,SameBut->SF,get?_none_of_le->SX,get?_update_self->P9,size_push->rY,get?_update_other->Tp
open Nat renaming le_refl->jB,le_trans->EC,lt_of_lt_of_le->WE,ne_of_lt->MD,lt_of_le_of_ne->ZL,lt_irrefl->HJ,zero_le->mI,lt_succ_self->uN,le_of_eq->RK,le_of_lt->fM,add_le_add_right->XT,le_add_right->cR,le_succ->gM,min_eq_left->jR,lt_trans->fP,succ_le_succ->jU,add_le_add_left->VX,lt_of_le_of_lt->ZX,ne_of_gt->kR,sub_self->oR,lt_succ_of_lt->eY,le_of_not_lt->gY,beq->KJ,le_add_left->oY,pos_of_ne_zero->X9,lt_of_succ_lt->oa,add_assoc->zY,min_eq_right->Ba,not_lt_zero->Ja,sub_one_lt_of_le->pq,sub_one_lt->La,pow_le_pow_right->zq,add_right_comm->Qq,add_sub_of_le->Vq,sub_pos_of_lt->Wq,sub_zero->Ya,max_eq_right->lr,succ_ne_self->mr,div_eq_of_lt->ur,not_lt->Hb,mod_lt->Ib,mul_le_mul->Lr
open Option.some renaming injEq->lC,inj->eE
open PyProof.Rows renaming wpS_pure->fB,slot_tuple_getitem->UK,SortSt->DB,step_dedup->WK,wpS_bind->BD,Keyed->dC,callWith_type1->GX,IsTup->zF,entry_tuple_getitem->S9,slicePart_none->sY,args_tuple_getitem->U9,slot_tuple_eq->qp,AllBare->lM,tupleItemsOf_->yY,subscriptTail_builtinR->Rp,firstMet->jq,SortKind->qR,wpS_reverse->KY,listUpdate_at->Ra,seqEpoch_at->qb,lt_int->wb,Subscript_->Eb,tail_any->NY
open Option renaming map_eq_some_iff->AF,map_some->FE,bind_some->UG,bind_eq_some_iff->nM,casesOn->tI,isSome_iff_exists->Cp,getD_none->kr
open Array renaming length_toList->kF,getElem?_toList->VT,mem_toList_iff->TX,getElem?_eq_getElem->z9,toList_append->XX,size_extract->aY,toList_eq_nil_iff->G9,toList->sU,forIn_toList->W9,toList_inj->Aa,isEmpty_toList->uq,mem_singleton->Bq,getElem_mem->Uq,toList_push->Xq,size_map->Ir
open Prod.mk renaming injEq->nE
open LawfulBEq renaming eq_of_beq->XC
open PySem.Expr renaming casesOn->mF
open PySem.Builtin.Tuple renaming tupleHashOf->jP,tupleExact->EN,tupleItemsOf->JX
open Int renaming toNat_natCast->YI,lt_trichotomy->YQ,emod_nonneg->iR,toNat_of_nonneg->YX,emod_lt_of_pos->bY,fdiv_eq_ediv_of_nonneg->ip,mul_pos_of_neg_of_neg->zp,mul_neg_of_neg_of_pos->Ap,mul_neg_of_pos_of_neg->Bp,mul_zero->IY,ediv_one->Wa,le_trans->Za,pow_pos->vb,ediv_nonneg->Cr
open PySem.Builtin.Slice renaming slicePlaces->lP,sliceApplied->HX,sliceAdjust->y9,sliceFields->vp
open PySem.PyData renaming canLay0->sI,depth->UI,canLayAll0->WO,depthAll->bP,eqvAll->AN,strOk->gP,eqv->yU
open False renaming elim->nI
open Ne renaming symm->gF
open PySem.AutoSeq1 renaming wpAny_loadPart'->LX,sub_tuple_tuple->Dp
open PySem.Heap.SameBut renaming update->aU
open PySem.Builtin.Dict renaming updateFrom->MX,showsAll->PX,mergeDict->O9,dictSlotArgs->xp,selfAndRest->Fp,samePairs->Vp,quietEq->tq
open PySem.Obj renaming mapSeq->TK,data_mapDictKeys->sq,data_mapFields->Nq,mapFields->Qr
open List.cons renaming injEq->eR,inj->BY
open PySem.F renaming slot_dict_keyiterator_next->x9,slot_enumerate_next->QX,args_tuple_add_2->A9,slot_list_getattribute->D9,entry_tuple_add->F9,slot_tuple_add->M9,called_enumerate->Y9,slot_dict_getitem->yp,args_tuple_lt_2->Jp,slot_dict_iter->ya,args_enumerate_next_1->Kp,plainAttrs_list->Lp,entry_tuple_lt->Qp,entry_enumerate_next->Yp,slot_tuple_lt->cq,slot_list_append->dq,slot_dict_len->mq,slot_list_pop->Lq,slot_dict_update->Oq,slot_int_rmul->xr
open Sum.inl renaming inj->BN
open PySem.Builtin renaming bitAnd->gU
open Std.Legacy.Range renaming forIn_eq_forIn_range'->Xo,size->gq
open PySem.Builtin.SmallTypes renaming ownedTupleHandOut->Yo,ownedTupleIsFree->Zo,fitsIndex->gp
open PySem.Builtin.List renaming listTooLong->B9
open PySem.Value renaming isInt_shape->cY,casesOn->CY,isInt->JY,isStrOf->Ma
open PySem.Around renaming under->lR,under_plainId->vq,deeper->Na
open Eq renaming trans->kM
open PySem.Heap.IsSliceOf renaming new->V9
open PySem.SeqAt renaming rcAt_reads->xa,EqAt->Bb
open PySem.Code renaming isGuard->FY,isFrame->Va,guards->bb
open PySem.SeqAt.EqAt renaming int_str->Gq,str_int->Hq,int_int->Jq
open List.Pairwise renaming map->gr
open PyProof.Rows.IsTup renaming new->MY
open PySem.Env renaming kindOf->qr
open PySem.Builtin.Dict_items renaming ownsTuple->a1a
open PySem.Paired renaming length->Mr
open PySem.Data.seq renaming inj->Sr
open Nat.succ renaming inj->Tr
open PySem.Stmt renaming casesOn->Vr
open PySem.W.WShape renaming has->Wr
set_option Elab.async false
set_option linter.all false
set_option maxRecDepth 100000
theorem VA:type_of% @decide_eq_false:=@decide_eq_false
theorem kB:type_of% @decide_eq_true:=@decide_eq_true
theorem KA.{u}:type_of% @if_pos.{u}:=@if_pos.{u}
theorem sN.{u}:type_of% @beq_eq_false_iff_ne.{u}:=@beq_eq_false_iff_ne.{u}
theorem wN.{u}:type_of% @beq_self_eq_true.{u}:=@beq_self_eq_true.{u}
theorem aR:type_of% @decide_eq_decide:=@decide_eq_decide
theorem eU:type_of% @of_decide_eq_true:=@of_decide_eq_true
set_option compiler.extract_closed false
set_option genSizeOf false
set_option bootstrap.genMatcherCode false
noncomputable section
namespace L2
open PySem PySem.Spec PyProof.Rows
abbrev Key:=Sum Int bA
noncomputable def pQ:Key->dA->Bool
 |.inl k,v=>JY k v
 |.inr x,v=>Ma x v
noncomputable def nGa(w:WB):Key->Int
 |.inl k=>hashInt k
 |.inr x=>hashStr w x
theorem DL:∀{k:Key} {v:dA},pQ k v=true->(∃i t,k=Sum.inl i/\v=Value.int i t)\/(∃x t,k=Sum.inr x/\v=Value.str x t)
 |.inl i,v,h=>by
  obtain⟨t,e⟩:=cY (k:=i) h;exact .inl ⟨i,t,rfl,e⟩
 |.inr x,v,h=>by(obtain⟨t,e⟩:=Value.isStrOf_shape h;exact .inr ⟨x,t,rfl,e⟩)
def oGa(i:Int)(t:BF):pQ (.inl i) (.int i t)=true:=by simp[pQ,JY]
def pGa(x:bA)(t:BF):pQ (.inr x) (.str x t)=true:=by simp[pQ,Ma]
def tGa(a b:Int):decide ((Sum.inl a:Key)=Sum.inl b)=(a==b):=by
 by_cases e:a=b
 ·subst e;simp
 ·have h:¬(Sum.inl a:Key)=Sum.inl b:=λq=>e (BN q)
  rw[VA h];exact(sN.mpr e).symm
def wGa(a b:bA):decide ((Sum.inr a:Key)=Sum.inr b)=decide (a=b):=by
 by_cases e:a=b
 ·subst e;simp
 ·have h:¬(Sum.inr a:Key)=Sum.inr b:=λq=>e (Sum.inr.inj q)
  rw[VA h,VA e]
def uGa(a:Int)(b:bA):decide ((Sum.inl a:Key)=Sum.inr b)=false:=VA (λq=>nomatch q)
def vGa(a:bA)(b:Int):decide ((Sum.inr a:Key)=Sum.inl b)=false:=VA (λq=>nomatch q)
def rQ(prog:KC)(w:WB):PySem.KeyKind prog w Key where
 is:=pQ
 hash:=nGa w
 inj:=λv a b ha hb=>by
  rcases DL ha with ⟨i,t,rfl,rfl⟩ | ⟨x,t,rfl,rfl⟩
  ·rcases DL hb with ⟨j,u,rfl,e⟩ | ⟨y,u,rfl,e⟩
   ·injection e with e1 _;rw[e1]
   ·exact nomatch e
  ·rcases DL hb with ⟨j,u,rfl,e⟩ | ⟨y,u,rfl,e⟩
   ·exact nomatch e
   ·injection e with e1 _;rw[e1]
 byValue:=λk v h=>by
  rcases DL h with ⟨i,t,rfl,rfl⟩ | ⟨x,t,rfl,rfl⟩<;>rfl
 pyHash:=λhv h=>by
  rcases DL hv with ⟨i,t,rfl,rfl⟩ | ⟨x,t,rfl,rfl⟩
  ·exact wpAny_pyHash_int h
  ·exact wpAny_pyHash_str h
 eqBool:=λhu hv h=>by
  rcases DL hu with ⟨i,t,rfl,rfl⟩ | ⟨x,t,rfl,rfl⟩
  ·rcases DL hv with ⟨j,u,rfl,rfl⟩ | ⟨y,u,rfl,rfl⟩
   ·rw[tGa] at h;exact ua h
   ·rw[uGa] at h;exact Gq i t y u _ _ _ _ h
  ·rcases DL hv with ⟨j,u,rfl,rfl⟩ | ⟨y,u,rfl,rfl⟩
   ·rw[vGa] at h;exact Hq x t j u _ _ _ _ h
   ·rw[wGa] at h;exact wpAny_eqBool_str h
 «strs»:=λk x t v h=>by
  rcases DL h with ⟨i,u,rfl,e⟩ | ⟨y,u,rfl,e⟩
  ·exact nomatch e
  ·injection e with e1 _
   subst e1;cases v<;>rfl
def kJa(prog:KC)(w:WB)(i:Int)(t:BF):(rQ prog w).is (.inl i) (.int i t)=true:=oGa i t
def lJa(prog:KC)(w:WB)(x:bA)(t:BF):(rQ prog w).is (.inr x) (.str x t)=true:=pGa x t
inductive V where
 |pA
 |bl (b:Bool)
 |int (i:Int)
 |str (x:bA)
 |ref (a:kA)
 |ty (n:String)
instance (x:V):Decidable (x=.pA):=by cases x<;>first | exact isTrue rfl | exact isFalse (λh=>nomatch h)
def aAc:V->dA->Prop
 |.pA,u=>u=Value.none
 |.bl b,u=>u=Value.bool b
 |.int i,u=>∃t,u=Value.int i t
 |.str x,u=>∃t,u=Value.str x t
 |.ref a,u=>u=Value.ref a
 |.ty n,u=>u=Value.type n
abbrev aAb:List V->List dA->Prop:=Paired aAc
theorem aAb.length(r:aAb xs us):xs.length=us.length:=Mr r
def aAb.get{i:Nat}(h:aAb xs us)(e:xs[i]?=some x):∃u,us[i]?=some u/\aAc x u:=by
 induction h generalizing i with
 |nil=>cases e
 |cons r t ih =>
  cases i with
  |zero=>cases e;exact⟨_,rfl,r⟩
  |succ i=>exact ih e
theorem aAb.set(r:aAc x u)(i:Nat)(h:aAb xs us):aAb (xs.set i x) (us.set i u):=by
 induction h generalizing i with
 |nil=>exact .nil
 |cons q t ih =>
  cases i with
  |zero=>exact .cons r t
  |succ i=>exact .cons q (ih i)
def aAb.append(h:aAb xs us)(s:aAb ys ws):aAb (xs++ys) (us++ws):=by
 induction h with
 |nil=>exact s
 |cons r t ih=>exact .cons r ih
theorem aAb.take(n:Nat)(h:aAb xs us):aAb (xs.take n) (us.take n):=by
 induction h generalizing n with
 |nil=>cases n<;>exact .nil
 |cons r t ih =>
  cases n with
  |zero=>exact .nil
  |succ n=>exact .cons r (ih n)
theorem aAb.drop(n:Nat)(h:aAb xs us):aAb (xs.drop n) (us.drop n):=by
 induction h generalizing n with
 |nil=>cases n<;>exact .nil
 |cons r t ih =>
  cases n with
  |zero=>exact .cons r t
  |succ n=>exact ih n
def aH:Option V->Option dA->Prop
 |some v,some u=>aAc v u
 |none,none=>True
 |_,_=>False
def KV:List (J×V)->List (J×dA)->Prop:=Paired λ(p:J×V) (q:J×dA)=>p.1=q.1/\aAc p.2 q.2
noncomputable def kV:Key->V
 |.inl i=>.int i
 |.inr x=>.str x
inductive HO where
 |l (xs:List V)
 |t (xs:List V)
 |dK (RB:List (Key×V))
 |set (S:Int->Bool) (n:Nat)
 |ins (C dx:kA) (fs:List (bA×V))
 |own (x:kA)
 |xd (fs:List (bA×V))
 |met (f x:kA)
 |jC (lo hi:Int)
 |uD (o:IB) (u:HO)
 |MO (ps:Array dA)
 |ext (φ:TB->Prop)
abbrev Hp:=kA->Option HO
noncomputable def CA(H:Hp)(a:kA)(o:HO):Hp:=λb=>if b=a then some o else H b
def VC:CA H a o a=some o:=by unfold CA;rw[KA rfl]
def yB(h:b≠a):CA H a o b=H b:=by unfold CA;rw[if_neg h]
def g9:CA (CA H a o) a u=CA H a u:=by
 funext b;unfold CA;split<;>rfl
def OF{H:Hp}(h:H a=some o)(h':H b=none):a≠b:=by
 intro e;subst e;rw[h] at h';cases h'
section
variable(P:KC)(w:WB)
def lD(H:Hp)(h:TB)(a:kA):HO->Prop
 |.l xs=>xs.length<=sizeLine/\∃(cA:List dA) (n:Nat),aAb xs cA/\h.get? a=some { cls:=.type "list",data:=.seq cA.toArray n }
 |.t xs=>xs.length<=sizeLine/\∃cA:List dA,aAb xs cA/\zF h a cA.toArray
 |.dK RB=>RB.length<=sizeLine/\(a==sysModules)=false/\∃vs,KV RB vs/\h.DictOf (rQ P w) a vs
 |.set S n=>h.SetOf (intKind P w) a S n
 |.ins C dx fs=>H dx=some (.own a)/\fs.length<=1000/\dx≠a/\h.get? a=some (xN C dx) /\
   ∃mA,h.Ns1 dx mA/\(∀f,aH (fs.lookup f) (mA f))/\Ta mA (fs.map (·.1))
 |.own _=>∃o,h.get? a=some o
 |.xd fs=>∃mA,h.Ns1 a mA/\∀f,aH (fs.lookup f) (mA f)
 |.jC lo hi=>∃t u v,h.get? a=some { cls:=.type "range",data:=.fields #[.int lo t,.int hi u,.int 1 v] }
 |.uD o u=>h.get? a=some o/\lD H h a u
 |.MO ps=>h.get? a=some { cls:=.none,data:=.fields ps }
 |.met f x=>h.get? a=some (Z9 (.ref f) (.ref x))
 |.ext φ=>φ h/\(∃o,h.get? a=some o)/\∀h1 h2:TB,φ h1->(∀o,h1.get? a=some o->h2.get? a=some o)->φ h2
def ND(H:Hp)(h:TB):Prop:=∀a o,H a=some o->lD P w H h a o
end
section
variable{o:HO}
theorem lD.lt(x:lD P w H h a o):a<h.objs.size:=by
 cases o with
 |l xs=>obtain⟨_,_,_,_,e⟩:=x;exact mC e
 |t xs=>obtain⟨_,_,_,p⟩:=x;exact p.lt
 |dK RB=>obtain⟨_,_,_,_,o,_,_,e,_⟩:=x;exact mC e
 |set S n=>obtain⟨o,_,_,_,e,_⟩:=x;exact mC e
 |ins C dx fs=>obtain⟨_,_,_,e,_⟩:=x;exact mC e
 |own y=>obtain⟨_,e⟩:=x;exact mC e
 |xd fs=>obtain⟨_,⟨_,_,_,e,_⟩,_⟩:=x;exact mC e
 |jC lo hi=>obtain⟨_,_,_,e⟩:=x;exact mC e
 |uD ob u=>obtain⟨e,_⟩:=x;exact mC e
 |MO ps=>exact mC (show h.get? a=some _ from x)
 |met f y=>exact mC (show h.get? a=some _ from x)
 |ext φ=>obtain⟨_,⟨_,e⟩,_⟩:=x;exact mC e
def lD.wH(x:lD P w H h a o)(k:∀b u,(b=a\/H b=some (.own a))->h.get? b=some u->h'.get? b=some u)
  (ho:∀b,H b=some (.own a)->H' b=some (.own a)) (ht:∀b xs,H b=some (.t xs)->H' b=some (.t xs)):lD P w H' h' a o:=by
 induction o with
 |l xs=>obtain⟨z,cA,n,r,e⟩:=x;exact⟨z,cA,n,r,k _ _ (.inl rfl) e⟩
 |t xs=>obtain⟨z,cA,r,ob,e,c⟩:=x;exact⟨z,cA,r,ob,k _ _ (.inl rfl) e,c⟩
 |dK RB=>obtain⟨z,y,vs,r,ob,es,ep,e,c⟩:=x;exact⟨z,y,vs,r,ob,es,ep,k _ _ (.inl rfl) e,c⟩
 |set S n=>obtain⟨ob,es,ep,t,e,c⟩:=x;exact⟨ob,es,ep,t,k _ _ (.inl rfl) e,c⟩
 |ins C dx fs =>
  obtain⟨d,z,ne,e,mA,⟨od,es,ep,e2,c⟩,r⟩:=x;exact⟨ho _ d,z,ne,k _ _ (.inl rfl) e,mA,⟨od,es,ep,k _ _ (.inr d) e2,c⟩,r⟩
 |own y=>obtain⟨ob,e⟩:=x;exact⟨ob,k _ _ (.inl rfl) e⟩
 |xd fs=>obtain⟨mA,⟨od,es,ep,e,c⟩,r⟩:=x;exact⟨mA,⟨od,es,ep,k _ _ (.inl rfl) e,c⟩,r⟩
 |jC lo hi=>obtain⟨t,u,v,e⟩:=x;exact⟨t,u,v,k _ _ (.inl rfl) e⟩
 |uD ob u ih=>obtain⟨e,q⟩:=x;exact⟨k _ _ (.inl rfl) e,ih q⟩
 |MO ps =>
  have e:h.get? a=some { cls:=.none,data:=.fields ps }:=x;show h'.get? a=some { cls:=.none,data:=.fields ps };exact k a _ (.inl rfl) e
 |met f y =>
  have e:h.get? a=some (Z9 (.ref f) (.ref y)):=x;show h'.get? a=some (Z9 (.ref f) (.ref y));exact k a _ (.inl rfl) e
 |ext φ=>obtain⟨p,⟨o,e⟩,st⟩:=x;exact⟨st _ _ p λo q=>k _ _ (.inl rfl) q,⟨o,k _ _ (.inl rfl) e⟩,st⟩
theorem ND.lt(x:ND P w H h)(e:H a=some o):a<h.objs.size:=(x a o e).lt
def ND.fresh(x:ND P w H h)(e:h.objs.size<=a):H a=none:=by
 cases q:H a with
 |none=>rfl
 |some u=>exact absurd (WE (x.lt q) e) (HJ _)
def ND.kept(x:ND P w H h)(k:∀b u,h.get? b=some u->h'.get? b=some u):ND P w H h':=λa o e =>
 (x a o e).wH (λb u _ q=>k b u q) (λ_ q=>q) λ_ _ q=>q
def ND.laid(x:ND P w H h)(k:∀b u,h.get? b=some u->h'.get? b=some u)(hp:h.objs.size<=a)(new:lD P w (CA H a o) h' a o):ND P w (CA H a o) h':=λb u e=>by
 have hn:=x.fresh hp;by_cases hb:b=a
 ·subst hb;rw[VC] at e;cases e;exact new
 ·rw[yB hb] at e;exact(x b u e).wH (λc v _ q=>k c v q) (λc q=>by rw[yB (OF q hn)];exact q) λc xs q=>by rw[yB (OF q hn)];exact q
end
def Rd(H:Hp)(a:kA)(u:HO):Prop:=H a=some u\/∃o,H a=some (.uD o u)
def Rd.ok(r:Rd H a u)(x:ND P w H h):lD P w H h a u:=by
 rcases r with r | ⟨o,r⟩
 ·exact x a u r
 ·obtain⟨_,q⟩:=x a _ r;exact q
def zR:Option HO->Prop
 |some (.l _)=>True
 |some (.dK _)=>True
 |some (.set _ _)=>True
 |some (.ins _ _ _)=>True
 |some (.ext _)=>True
 |_=>False
section
variable{P:KC}{w:WB}{H:Hp}{h h':TB}{x e:kA}{o':HO}
def ND.write(ok:ND P w H h)(mu:zR (H x))(he:e=x\/H e=some (.own x))(k:∀b u,b≠e->h.get? b=some u->h'.get? b=some u)(aQ:∃u,h'.get? e=some u)
  (new:lD P w (CA H x o') h' x o'):ND P w (CA H x o') h':=λb u q=>by
 have fj:∀c y,H c=some (.own y)->c≠x:=λc y r z=>by subst z;rw[r] at mu;exact mu
 have vKa:∀c xs,H c=some (.t xs)->c≠x:=λc xs r z=>by subst z;rw[r] at mu;exact mu
 by_cases hb:b=x
 ·subst hb;rw[VC] at q;cases q;exact new
 ·rw[yB hb] at q;by_cases fO:b=e
  ·have q':H b=some (.own x):=by
    rcases he with z | z
    ·exact absurd (fO.trans z) hb
    ·rw[fO];exact z
   rw[q] at q';cases q';obtain⟨v,hv⟩:=aQ;exact⟨v,by rw[fO];exact hv⟩
  ·refine(ok b u q).wH (λc v hc r=>k c v ?_ r) (λc r=>by rw[yB (fj c b r)];exact r) λc xs r=>by rw[yB (vKa c xs r)];exact r
   rcases hc with rfl | hc
   ·exact fO
   ·rintro rfl
    rcases he with z | z
    ·exact fj c b hc z
    ·rw[hc] at z;cases z;exact hb rfl
end
structure Un(fs ex:List kA)(H H':Hp)(h h':TB):Prop where
 keep:∀b o,h.get? b=some o->H b=none->b ∉ fs->b ∉ ex->h'.get? b=some o
 slot:∀b o,h.get? b=some o->H b=none->b∈fs->b ∉ ex->∃sl,h'.get? b=some { o with slots:=sl }
 free:∀b o,h.get? b=some o->H b=none->b ∉ ex->H' b=none
 there:∀b o,h.get? b=some o->b ∉ ex->∃o',h'.get? b=some o'
 pN:∀b xs,H b=some (.t xs)->H' b=some (.t xs)
 nL:∀b o u,H b=some (.uD o u)->H' b=some (.uD o u)
 mN:∀b ps,H b=some (.MO ps)->∃more,H' b=some (.MO (ps++more))
section
variable{o:HO}
def Un.any(u:Un fs ex H H1 h h1)(q:h.get? b=some ob)(n:H b=none)(hx:b ∉ ex):∃sl,h1.get? b=some { ob with slots:=sl }:=by
 by_cases hb:b∈fs
 ·exact u.slot b ob q n hb hx
 ·exact⟨ob.slots,u.keep b ob q n hb hx⟩
def Un.kept(k:∀b u,h.get? b=some u->h'.get? b=some u):Un fs ex H H h h' :=
 ⟨λb ob q _ _ _=>k b ob q,λb ob q _ _ _=>⟨ob.slots,k b ob q⟩,λ_ _ _ n _=>n,λb ob q _=>⟨ob,k b ob q⟩,λ_ _ q=>q,λ_ _ _ q=>q,λ_ ps q=>⟨#[],by rw[q];simp⟩⟩
def Un.refl:Un fs ex H H h h:=Un.kept λ_ _ q=>q
def Un.laid(k:∀b u,h.get? b=some u->h'.get? b=some u)(hp:h.objs.size<=a)(hn:H a=none):Un fs ex H (CA H a o) h h' where
 keep:=λb u q _ _ _=>k b u q
 slot:=λb u q _ _ _=>⟨u.slots,k b u q⟩
 free:=λb u q n _=>by rw[yB (MD (WE (mC q) hp))];exact n
 there:=λb u q _=>⟨u,k b u q⟩
 pN:=λb xs q=>by rw[yB (OF q hn)];exact q
 nL:=λb u xs q=>by rw[yB (OF q hn)];exact q
 mN:=λb ps q=>⟨#[],by rw[yB (OF q hn),q];simp⟩
def Un.write(mu:zR (H x))(he:e=x\/H e=some (.own x))(k:∀b u,b≠e->h.get? b=some u->h'.get? b=some u)(aQ:∃u,h'.get? e=some u):Un fs ex H (CA H x o) h h':=by
 have hx:∀b,H b=none->b≠x:=λb n z=>by subst z;rw[n] at mu;exact mu
 have hb:∀b,H b=none->b≠e:=λb n z=>by
  subst z;rcases he with r | r
  ·exact hx b n r
  ·rw[n] at r;cases r
 have hm:∀b u,H b=some u->¬zR (some u)->b≠x:=λb u q nm z=>by subst z;rw[q] at mu;exact nm mu
 refine⟨λb u q n _ _=>k b u (hb b n) q,λb u q n _ _=>⟨u.slots,k b u (hb b n) q⟩,λb u q n _=>by rw[yB (hx b n)];exact n,λb u q _=>?_,
  λb xs q=>by rw[yB (hm b _ q λz=>z)];exact q,λb u xs q=>by rw[yB (hm b _ q λz=>z)];exact q,λb ps q=>⟨#[],by rw[yB (hm b _ q λz=>z),q];simp⟩⟩
 by_cases fO:b=e
 ·subst fO;exact aQ
 ·exact⟨u,k b u fO q⟩
end
noncomputable def wX(h:TB)(H:Hp):List kA:=(XB h.objs.size).filter λa=>(H a).isSome
def tL(h:TB)(H:Hp):TB:=PySem.W.hideAll h (wX h H)
def qAa(h:TB)(H:Hp):(tL h H).objs.size=h.objs.size:=PySem.W.hideAll_size _ _
def pAa(e:h.get? b=some o)(n:H b=none):(tL h H).get? b=some o :=
 PySem.W.hideAll_get _ e λhm=>by(have q:(H b).isSome=true:=(YO.mp hm).2;rw[n] at q;simp at q)
def aLa(e:(tL h H).get? b=some o):h.get? b=some o/\H b=none:=by
 have e':h.get? b=some o:=PySem.W.of_hideAll (wX h H) e;refine⟨e', ?_⟩
 cases q:H b with
 |none=>rfl
 |some x =>
  have hm:b∈wX h H:=YO.mpr ⟨NK.mpr (mC e'),by simp[q]⟩;have z:(tL h H).get? b=none:=PySem.W.hideAll_none (wX h H) hm;rw[z] at e;cases e
noncomputable def Iu(g h:TB)(L:kA):List (kA×IB):=(XB h.objs.size).filterMap λa=>if a=L\/(g.get? a).isSome=true then none else(h.get? a).map λo=>(a,o)
def rest(g h:TB)(L d:kA):List (kA×IB):=(Iu g h L).filter λp=>decide (p.1≠d)
structure Mod(K:iA)(mg:bA->Option dA)(base:TB):Prop where
 kin:K.In base
 glob:base.Ns nC mg
 blt:∃mb,base.Ns builtinsNs mb/\∀x:bA,x≠"__name__"->mb x=QK x
 nolimit:base.NoLimit
structure Cx where
 prog:KC
 w:WB
 K:iA
 mg:bA->Option dA
 base:TB
 A:RD
 N:List bA
 s₀:zA
 H₀:Hp
 env:Env
 outer:List Env
 stack:List Env
 ex:List kA
 fn:bA->Bool
 calm:Bool
 pn:List (kA×IB)
 xe:dA->zA->Prop
def iJ(l:List Env):List kA:=l.filterMap (·.frame)
abbrev Cx.fs(X:Cx):List kA:=iJ X.outer
def BR(sc:tG)(x:bA):Prop:=sc.names.lookup x=some .local\/sc.names.lookup x=some .cell\/sc.names.lookup x=some .free
def Loc(sc:tG)(x:bA):Prop:=sc.names.lookup x=some .local\/sc.names.lookup x=some .cell
def aA5(env:Env)(h:TB)(m:bA->Option dA)(x:bA)(u:dA):Prop :=
 (env.kindOf x=some .local/\m x=some u)\/((env.kindOf x=some .cell\/env.kindOf x=some .free)/\∃c,env.cells.lookup x=some c/\h.IsCell c (some u))
structure Cx.Ok(X:Cx):Prop where
 mod:Mod X.K X.mg X.base
 kind:X.env.scope.kind=.function
 glob:X.env.globals=nC
 blt:X.env.builtins=builtinsNs
 above:X.s₀.heap.objs.size<=X.env.locals
 inj:∀x y c,X.env.cells.lookup x=some c->X.env.cells.lookup y=some c->x=y
 has:∀x,(X.env.kindOf x=some .cell\/X.env.kindOf x=some .free)->∃c,X.env.cells.lookup x=some c
 RR:∀x c,X.fn x=true->X.env.cells.lookup x=some c->X.s₀.heap.objs.size<=c
 hd:X.calm=true->X.A.handled=none
 frames:X.A.frames=some X.stack
 oX:X.stack=X.outer\/(X.stack=X.env::X.outer/\X.env.frame=some X.env.locals)
 we:∀b∈X.ex,b≠X.env.locals/\∀x c,X.env.cells.lookup x=some c->c≠b
 bs:∀b o,X.base.get? b=some o->X.s₀.heap.get? b=some o/\X.H₀ b=none
 wM:X.base.objs.size<=X.s₀.heap.objs.size
 mT:∀b o,X.base.get? b=some o->b ∉ X.ex
 tV:∀b∈X.ex,b ∉ X.fs
 DI:X.s₀.heap.FunFrames X.base X.outer
 aO:∀b∈X.fs,X.H₀ b=none
structure fA(X:Cx)(aA:List (kA×IB))(Y:List (Option V))(H:Hp)(s:zA):Prop where
 ok:X.Ok
 os:s.os=X.s₀.os
 bare:lM s.gens
 base:Un X.fs X.ex X.H₀ H X.s₀.heap s.heap
 loc:∃m,s.heap.Ns X.env.locals m/\∀(i:Nat) (x:bA) (v:V),X.N[i]?=some x->Y[i]?=some (some v)->BR X.env.scope x->∃u,aAc v u/\aA5 X.env s.heap m x u
 cell:∀x c,X.env.cells.lookup x=some c->∃v,s.heap.IsCell c v
 free:H X.env.locals=none
 fK:∀x c,X.env.cells.lookup x=some c->H c=none
 pin:∀p∈X.pn++aA,s.heap.get? p.1=some p.2/\H p.1=none/\p.1≠X.env.locals/\p.1 ∉ X.fs/\∀v,p.2.data≠.cell v
 RA:ND X.prog X.w H s.heap
 len:Y.length=X.N.length
section
variable{X:Cx}
def Cx.Ok.oKa(ok:X.Ok)(e:X.base.get? b=some o):b ∉ X.fs:=λhb=>by
 have:=(ok.DI.mem hb).1
 rw[e] at this;cases this
theorem fA.bs(I:fA X aA Y H s):∀b o,X.base.get? b=some o->s.heap.get? b=some o/\H b=none:=λb o e =>
 ⟨I.base.keep b o (I.ok.bs b o e).1 (I.ok.bs b o e).2 (I.ok.oKa e) (I.ok.mT b o e),I.base.free b o (I.ok.bs b o e).1 (I.ok.bs b o e).2 (I.ok.mT b o e)⟩
def fA.bk(I:fA X aA Y H s):∀b o,X.base.get? b=some o->s.heap.get? b=some o:=λb o e=>(I.bs b o e).1
theorem fA.mod(I:fA X aA Y H s):Mod X.K X.mg X.base:=I.ok.mod
def fA.QE(I:fA X aA Y H s):X.K.In s.heap:=I.ok.mod.kin.keeps I.bk
theorem fA.lt(I:fA X aA Y H s):X.env.locals<s.heap.objs.size:=let ⟨_,hn,_⟩:=I.loc;hn.lt
def fA.sz(I:fA X aA Y H s):X.s₀.heap.objs.size<=s.heap.objs.size:=EC I.ok.above (fM I.lt)
def fA.qKa(I:fA X aA Y H s)(h:s.heap.objs.size<=a):a ∉ X.fs:=λhb=>by
 obtain⟨_,o,ho,_⟩:=I.ok.DI.mem hb;exact absurd (WE (mC ho) (EC I.sz h)) (HJ _)
def fA.SN(I:fA X aA Y H s):∀x c,X.env.cells.lookup x=some c->c≠X.env.locals:=λx c e z=>by
 obtain⟨v,o,ho,hd⟩:=I.cell x c e;obtain⟨m,⟨o',es,ep,sJ,ME,_⟩,_⟩:=I.loc;rw[z,sJ] at ho;cases ho;rw[ME] at hd;cases hd
theorem fA.DI(I:fA X aA Y H s):s.heap.FunFrames X.base X.outer:=by
 have all:∀(l:List Env),(∀b∈iJ l,b∈X.fs)->X.s₀.heap.FunFrames X.base l->s.heap.FunFrames X.base l:=by
  intro l
  induction l with
  |nil=>intro _ _;trivial
  |cons env r ih =>
   intro hs hl;obtain⟨hk,⟨L,o,hf,hn,ho,hd⟩,hr⟩:=hl;have hL:L∈X.fs:=hs L (by unfold iJ;rw[UX,hf];exact YD);obtain⟨sl,e⟩:=I.base.slot L o ho (I.ok.aO L hL) hL λz=>I.ok.tV L z hL
   exact⟨hk,⟨L,_,hf,hn,e,hd⟩,ih (λb hb=>hs b (by unfold iJ;rw[UX,hf];exact WC _ hb)) hr⟩
 exact all X.outer (λ_ hb=>hb) I.ok.DI
theorem fA.stack(I:fA X aA Y H s):s.heap.FunFrames X.base X.stack:=by
 rcases I.ok.oX with e | ⟨e,hf⟩
 ·rw[e];exact I.DI
 ·rw[e];obtain⟨m,hn,_⟩:=I.loc;refine .cons (by rw[I.ok.kind];decide) hf hn ?_ I.DI;exact SX (EC I.ok.wM I.ok.above)
def fA.pX(I:fA X aA Y H s):∀b∈iJ X.stack,b∈X.env.locals::X.fs:=λb hb=>by
 rcases I.ok.oX with e | ⟨e,hf⟩
 ·rw[e] at hb;exact WC _ hb
 ·rw[e] at hb;unfold iJ at hb;rw[UX,hf] at hb;exact hb
def fA.dm(I:fA X aA Y H s):∀b∈iJ X.stack,H b=none:=λb hb=>by
 rcases DC.mp (I.pX b hb) with e | hb
 ·rw[e];exact I.free
 ·obtain⟨_,o,ho,_⟩:=I.ok.DI.mem hb;exact I.base.free b o ho (I.ok.aO b hb) λz=>I.ok.tV b z hb
def fA.step{ch:List kA}(I:fA X aA Y H s)
  (mK:∀b∈ch,(b∈X.ex\/X.s₀.heap.get? b=none)/\b≠X.env.locals/\(∀x c,X.env.cells.lookup x=some c->c≠b)/\∀p∈X.pn++aA,p.1≠b)
  (keep:∀b o,b≠X.env.locals->b ∉ X.fs->b ∉ ch->s.heap.get? b=some o->H b=none->h'.get? b=some o)
  (slot:∀b o,b≠X.env.locals->b∈X.fs->b ∉ ch->s.heap.get? b=some o->H b=none->∃sl,h'.get? b=some { o with slots:=sl }) (free:∀b o,b ∉ ch->s.heap.get? b=some o->H b=none->H' b=none)
  (there:∀b o,b ∉ ch->s.heap.get? b=some o->∃o',h'.get? b=some o')
  (pN:∀b xs,H b=some (.t xs)->H' b=some (.t xs)) (nL:∀b o u,H b=some (.uD o u)->H' b=some (.uD o u)) (mN:∀b ps,H b=some (.MO ps)->∃more,H' b=some (.MO (ps++more)))
  (ns:∀m,s.heap.Ns X.env.locals m->h'.Ns X.env.locals m) (RA:ND X.prog X.w H' h') (hg:lM g') :
  fA X aA Y H' { s with heap:=h',gens:=g',drawn:=d',toks:=t' }:=by
 have Zi:∀b o,X.s₀.heap.get? b=some o->b≠X.env.locals:=λb o e=>MD (WE (mC e) I.ok.above)
 have JW:∀b o,X.s₀.heap.get? b=some o->b ∉ X.ex->b ∉ ch:=λb o e hx hb=>by
  rcases(mK b hb).1 with z | z
  ·exact hx z
  ·rw[z] at e;cases e
 have cellK:∀x c,X.env.cells.lookup x=some c->∀v,s.heap.IsCell c v->h'.IsCell c v:=λx c e v hz=>by
  obtain⟨o,ho,hd⟩:=hz;have iT:c ∉ ch:=λz=>(mK c z).2.2.1 x c e rfl
  by_cases hc:c∈X.fs
  ·obtain⟨sl,q⟩:=slot c o (I.SN x c e) hc iT ho (I.fK x c e);exact⟨_,q,hd⟩
  ·exact⟨o,keep c o (I.SN x c e) hc iT ho (I.fK x c e),hd⟩
 refine⟨I.ok,I.os,hg,⟨λb o e n hb hx=>?_,λb o e n hb hx=>?_,λb o e n hx=>?_,λb o e hx=>?_,λb xs e=>pN b xs (I.base.pN b xs e),λb o xs e=>nL b o xs (I.base.nL b o xs e),λb ps e=>?_⟩, ?_,λx c e=>?_, ?_,λx c e=>?_,λp hp=>?_,RA,I.len⟩
 ·exact keep b o (Zi b o e) hb (JW b o e hx) (I.base.keep b o e n hb hx) (I.base.free b o e n hx)
 ·obtain⟨sl,e1⟩:=I.base.slot b o e n hb hx;obtain⟨sl',e2⟩:=slot b _ (Zi b o e) hb (JW b o e hx) e1 (I.base.free b o e n hx);exact⟨sl',e2⟩
 ·obtain⟨o',e1⟩:=I.base.there b o e hx;exact free b o' (JW b o e hx) e1 (I.base.free b o e n hx)
 ·obtain⟨o',e1⟩:=I.base.there b o e hx;exact there b o' (JW b o e hx) e1
 ·obtain⟨m1,e1⟩:=I.base.mN b ps e;obtain⟨m2,e2⟩:=mN b _ e1;exact⟨m1++m2,by rw[e2,Array.append_assoc]⟩
 ·obtain⟨m,hn,hl⟩:=I.loc;refine⟨m,ns m hn,λi x v e1 e2 e3=>?_⟩;obtain⟨u,r,l⟩:=hl i x v e1 e2 e3;refine⟨u,r, ?_⟩;rcases l with l | ⟨k,c,e,z⟩
  ·exact .inl l
  ·exact .inr ⟨k,c,e,cellK x c e _ z⟩
 ·obtain⟨v,z⟩:=I.cell x c e;exact⟨v,cellK x c e v z⟩
 ·obtain⟨m,⟨o,_,_,ho,_⟩,_⟩:=I.loc;exact free _ o (λz=>(mK _ z).2.1 rfl) ho I.free
 ·obtain⟨v,o,ho,hd⟩:=I.cell x c e;exact free c o (λz=>(mK c z).2.2.1 x c e rfl) ho (I.fK x c e)
 ·obtain⟨e,n,ne,nf,d⟩:=I.pin p hp;have iT:p.1 ∉ ch:=λz=>(mK p.1 z).2.2.2 p hp rfl
  exact⟨keep p.1 p.2 ne nf iT e n,free p.1 p.2 iT e n,ne,nf,d⟩
def fA.un{t':Nat}(I:fA X aA Y H s)(u:Un X.fs [] H H' s.heap h')(RA:ND X.prog X.w H' h'):fA X aA Y H' { s with heap:=h',toks:=t' }:=by
 obtain⟨m,⟨o,es,ep,ho,r⟩,_⟩:=id I.loc;obtain⟨sl,hL⟩:=u.any ho I.free (by simp)
 exact I.step (g':=s.gens) (d':=s.drawn) (ch:=[]) (λ_ z=>nomatch z) (λb o _ hb _ e n=>u.keep b o e n hb (by simp)) (λb o _ hb _ e n=>u.slot b o e n hb (by simp)) (λb o _ e n=>u.free b o e n (by simp)) (λb o _ e=>u.there b o e (by simp)) u.pN u.nL u.mN (λm' hm=>by
  obtain⟨o',ZR,AM,sJ,r'⟩:=hm;rw[ho] at sJ;cases sJ
  exact⟨_,ZR,AM,hL,r'⟩) RA I.bare
def fA.call(I:fA X aA Y H s)(u:Un (iJ X.stack) ch H H' s.heap h')(RA:ND X.prog X.w H' h')(hg:lM g')
  (mK:∀b∈ch,(b∈X.ex\/X.s₀.heap.get? b=none)/\b≠X.env.locals/\(∀x c,X.env.cells.lookup x=some c->c≠b)/\∀p∈X.pn++aA,p.1≠b) :
  fA X aA Y H' { s with heap:=h',gens:=g',drawn:=d',toks:=t' }:=by
 obtain⟨m,⟨o,es,ep,ho,r⟩,_⟩:=id I.loc;obtain⟨sl,hL⟩:=u.any ho I.free λz=>(mK _ z).2.1 rfl
 exact I.step mK (λb o hL hb hc e n=>u.keep b o e n (λz=>(DC.mp (I.pX b z)).elim hL hb) hc) (λb o _ _ hc e n=>u.any e n hc) (λb o hc e n=>u.free b o e n hc) (λb o hc e=>u.there b o e hc) u.pN u.nL u.mN (λm' hm=>by
  obtain⟨o',ZR,AM,sJ,r'⟩:=hm;rw[ho] at sJ;cases sJ
  exact⟨_,ZR,AM,hL,r'⟩) RA hg
def fA.turned{it:kA}(I:fA X aA Y H s)(k:∀b o,b≠it->s.heap.get? b=some o->h'.get? b=some o)(hn:H it=none)(hL:it≠X.env.locals)
  (h1:it∈X.ex\/X.s₀.heap.get? it=none) (h2:∀x c,X.env.cells.lookup x=some c->c≠it) (h3:∀p∈X.pn++aA,p.1≠it):fA X aA Y H { s with heap:=h',toks:=t' }:=by
 have aj:∀b u,H b=some u->b≠it:=λb u e z=>by rw[z,hn] at e;cases e
 refine I.step (g':=s.gens) (d':=s.drawn) (ch:=[it]) (λb hb=>?_) (λb o _ _ hc e _=>k b o (λz=>hc (by simp[z])) e) (λb o _ _ hc e _=>⟨o.slots,k b o (λz=>hc (by simp[z])) e⟩) (λ_ _ _ _ n=>n)
  (λb o hc e=>⟨o,k b o (λz=>hc (by simp[z])) e⟩) (λ_ _ e=>e) (λ_ _ _ e=>e) (λb ps e=>⟨#[],by rw[e];simp⟩) (λm hm=>?_) (λb u e=>?_) I.bare
 ·have e:b=it:=by simpa using hb
  subst e;exact⟨h1,hL,h2,h3⟩
 ·obtain⟨o,es,ep,ho,r⟩:=hm;exact⟨o,es,ep,k _ o (gF hL) ho,r⟩
 ·refine(I.RA b u e).wH (λc v hc q=>k c v ?_ q) (λ_ q=>q) λ_ _ q=>q
  rcases hc with z | z
  ·rw[z];exact aj b u e
  ·exact aj c _ z
def fA.tok(I:fA X aA Y H s)(t:Nat):fA X aA Y H { s with toks:=t }:=I.un (h':=s.heap) (t':=t) Un.refl I.RA
theorem fA.kept(I:fA X aA Y H s)(k:∀b u,s.heap.get? b=some u->h'.get? b=some u):fA X aA Y H { s with heap:=h',toks:=t' }:=I.un (Un.kept k) (I.RA.kept k)
theorem fA.laid(I:fA X aA Y H s)(k:∀b u,s.heap.get? b=some u->h'.get? b=some u)(hp:s.heap.objs.size<=a)(new:lD X.prog X.w (CA H a o) h' a o) :
  fA X aA Y (CA H a o) { s with heap:=h',toks:=t' }:=I.un (Un.laid k hp (I.RA.fresh hp)) (I.RA.laid k hp new)
theorem fA.write(I:fA X aA Y H s)(mu:zR (H x))(he:e=x\/H e=some (.own x))(k:∀b u,b≠e->s.heap.get? b=some u->h'.get? b=some u)(aQ:∃u,h'.get? e=some u)
  (new:lD X.prog X.w (CA H x o) h' x o):fA X aA Y (CA H x o) { s with heap:=h',toks:=t' }:=I.un (Un.write mu he k aQ) (I.RA.write mu he k aQ new)
def fA.Uj(I:fA X aA Y H s)(h:∀p∈Tj,s.heap.get? p.1=some p.2/\H p.1=none/\p.1≠X.env.locals/\p.1 ∉ X.fs/\∀v,p.2.data≠.cell v):fA X Tj Y H s :=
 ⟨I.ok,I.os,I.bare,I.base,I.loc,I.cell,I.free,I.fK,λp hp=>(dE.mp hp).elim (λz=>I.pin p (XI _ z)) (h p),I.RA,I.len⟩
def dj{N:List bA}(hN:N.Nodup){i j:Nat}(a:N[i]?=some x)(b:N[j]?=some x):i=j:=by
 obtain⟨h1,e1⟩:=bE.mp a;obtain⟨h2,e2⟩:=bE.mp b;exact(List.getElem_inj hN).mp (e1.trans e2.symm)
def gm(I:fA X aA Y H s)(hN:X.N.Nodup)(hi:X.N[i]?=some x)(hx:Loc X.env.scope x)(r:aAc v u)
  (h:∀s',fA X aA (Y.set i (some v)) H s'->(∃a,SF a s.heap s'.heap/\(a=X.env.locals\/X.env.cells.lookup x=some a))->Q () s') (hf:X.fn x=true\/X.env.scope.names.lookup x=some .local:=by first | exact .inl rfl | exact .inr rfl | assumption):rA M A (storeName X.env x u) Q E s:=by
 obtain⟨m,hn,hl⟩:=id I.loc;have dAa:(X.env.scope.kind==.class||(X.env.scope.kind==.module&&X.env.locals != X.env.globals))=false:=by rw[I.ok.kind];rfl
 have Kf:i<Y.length:=by rw[I.len];exact(bE.mp hi).1
 have SN:=I.SN
 have tracked:∀{a:kA} {h':TB},(∃o,s.heap.get? a=some o/\H a=none)->SF a s.heap h'->ND X.prog X.w H h':=λ{a h'} ha hs b ob e=>by
  obtain⟨_,_,Df⟩:=ha;refine(I.RA b ob e).wH (λc w' hc q=>(hs.2 c ?_).trans q) (λ_ q=>q) λ_ _ q=>q
  rintro rfl
  rcases hc with rfl | hc
  ·rw[Df] at e;cases e
  ·rw[Df] at hc;cases hc
 rcases hx with hk | hk
 ·refine wpAny_storeName_local hk hn (λh' hn' hs=>?_) dAa;obtain⟨oL,_,_,hoL,_⟩:=id hn;refine h _ ⟨I.ok,I.os,I.bare,⟨λb o e n hb hx=>?_,λb o e n hb hx=>?_,I.base.free,λb o e hx=>?_,I.base.pN,I.base.nL,I.base.mN⟩,⟨_,hn',λj y v' e1 e2 e3=>?_⟩,λy c e=>?_,I.free,I.fK,λp hp=>?_,tracked ⟨oL,hoL,I.free⟩ hs,by simpa using I.len⟩ ⟨_,hs,.inl rfl⟩
  ·exact(hs.2 b (MD (WE (mC e) I.ok.above))).trans (I.base.keep b o e n hb hx)
  ·obtain⟨sl,e1⟩:=I.base.slot b o e n hb hx;exact⟨sl,(hs.2 b (MD (WE (mC e) I.ok.above))).trans e1⟩
  ·obtain⟨o',e1⟩:=I.base.there b o e hx;exact⟨o',(hs.2 b (MD (WE (mC e) I.ok.above))).trans e1⟩
  ·by_cases hj:j=i
   ·subst hj;rw[hi] at e1;cases e1;rw[YK Kf] at e2;cases e2;exact⟨u,r,.inl ⟨hk,by simp⟩⟩
   ·rw[jF (gF hj)] at e2;obtain⟨u',r',q⟩:=hl j y v' e1 e2 e3;refine⟨u',r', ?_⟩;rcases q with ⟨k,e⟩ | ⟨k,c,e,z⟩
    ·refine .inl ⟨k, ?_⟩
     have:y≠x:=λe=>hj (dj hN e1 (e ▸ hi))
     simp[this,e]
    ·exact .inr ⟨k,c,e,z.sameBut hs (SN y c e)⟩
  ·obtain⟨w',z⟩:=I.cell y c e;exact⟨w',z.sameBut hs (SN y c e)⟩
  ·obtain⟨e,n,ne,nf,d⟩:=I.pin p hp;exact⟨(hs.2 p.1 ne).trans e,n,ne,nf,d⟩
 ·have iC:X.fn x=true:=by
   rcases hf with z | z
   ·exact z
   ·rw[z] at hk;cases hk
  obtain⟨c,hc⟩:=I.ok.has x (.inl hk);obtain⟨w',z⟩:=I.cell x c hc;refine wpAny_storeName_cell I.ok.kind hk hc z (λh' UH hs=>?_);obtain⟨oc,vL,kBa⟩:=id z;refine h { s with heap:=h' } ⟨I.ok,I.os,I.bare,⟨λb o e n hb hx=>?_,λb o e n hb hx=>?_,I.base.free,λb o e hx=>?_,I.base.pN,I.base.nL,I.base.mN⟩,⟨m,hn.sameBut hs (gF (SN x c hc)),λj y v' e1 e2 e3=>?_⟩,λy c' e=>?_,I.free,I.fK,λp hp=>?_,tracked ⟨oc,vL,I.fK x c hc⟩ hs,by simpa using I.len⟩ ⟨c,hs,.inr hc⟩
  ·exact(hs.2 b (MD (WE (mC e) (I.ok.RR x c iC hc)))).trans (I.base.keep b o e n hb hx)
  ·obtain⟨sl,e1⟩:=I.base.slot b o e n hb hx;exact⟨sl,(hs.2 b (MD (WE (mC e) (I.ok.RR x c iC hc)))).trans e1⟩
  ·obtain⟨o',e1⟩:=I.base.there b o e hx;exact⟨o',(hs.2 b (MD (WE (mC e) (I.ok.RR x c iC hc)))).trans e1⟩
  ·by_cases hj:j=i
   ·subst hj;rw[hi] at e1;cases e1;rw[YK Kf] at e2;cases e2;exact⟨u,r,.inr ⟨.inl hk,c,hc,UH⟩⟩
   ·rw[jF (gF hj)] at e2;obtain⟨u',r',q⟩:=hl j y v' e1 e2 e3;refine⟨u',r', ?_⟩;rcases q with q | ⟨k,c',e,z'⟩
    ·exact .inl q
    ·refine .inr ⟨k,c',e,z'.sameBut hs ?_⟩
     rintro rfl
     exact hj (dj hN e1 (I.ok.inj _ _ _ e hc ▸ hi))
  ·by_cases vf:c'=c
   ·subst vf;exact⟨_,UH⟩
   ·obtain⟨w2,z2⟩:=I.cell y c' e;exact⟨w2,z2.sameBut hs vf⟩
  ·obtain⟨e,n,ne,nf,d⟩:=I.pin p hp;refine⟨(hs.2 p.1 ?_).trans e,n,ne,nf,d⟩;intro q;rw[q,vL] at e;have q':oc=p.2:=eE e;exact d w' (by rw[<- q'];exact kBa)
def zWa(I:fA X aA Y H s)(hN:X.N.Nodup)(hi:X.N[i]?=some x)(hx:Loc X.env.scope x)(r:aAc v u)
  (h:∀s',fA X aA (Y.set i (some v)) H s'->Q () s') (hf:X.fn x=true\/X.env.scope.names.lookup x=some .local:=by first | exact .inl rfl | exact .inr rfl | assumption):rA M A (storeName X.env x u) Q E s :=
 gm I hN hi hx r (λs' I' _=>h s' I') hf
def fA.Vw(I:fA X aA Y H s)(ho:s'.os=s.os)(u:Un (iJ X.stack) ch H H' s.heap s'.heap)(RA:ND X.prog X.w H' s'.heap)(hg:lM s'.gens)
  (mK:∀b∈ch,(b∈X.ex\/X.s₀.heap.get? b=none)/\b≠X.env.locals/\(∀x c,X.env.cells.lookup x=some c->c≠b)/\∀p∈X.pn++aA,p.1≠b):fA X aA Y H' s':=by
 obtain⟨h',g',d',t',o'⟩:=s';have e:o'=s.os:=ho;subst e;exact I.call u RA hg mK
end
abbrev XK:=dA->Option kA×Bool->Hp->Prop
abbrev St:=List (Option V)
abbrev VK:=V->Hp->Prop
abbrev TE:=St->Hp->VK->Prop
abbrev TT:=St->Hp->(Bool->Hp->Prop)->Prop
abbrev TA:=St->Hp->(List V->Hp->Prop)->Prop
structure Ends where
 nx:St->Hp->Prop
 rt:VK
 bk:St->Hp->Prop:=λ_ _=>False
 ct:St->Hp->Prop:=λ_ _=>False
abbrev TS:=Ends->St->Hp->Prop
def EP(X:Cx)(aA:List (kA×IB))(Y:St)(Q:VK)(u:dA)(s':zA):Prop:=∃v H',fA X aA Y H' s'/\aAc v u/\Q v H'
def TP(X:Cx)(aA:List (kA×IB))(Y:St)(Q:Bool->Hp->Prop)(b:Bool)(s':zA):Prop:=∃H',fA X aA Y H' s'/\Q b H'
def AP(X:Cx)(aA:List (kA×IB))(Y:St)(Q:List V->Hp->Prop)(us:List dA)(s':zA):Prop:=∃vs H',fA X aA Y H' s'/\aAb vs us/\Q vs H'
def SP(X:Cx)(aA:List (kA×IB))(D:Ends)(f:Flow)(s':zA):Prop :=
 match f with
 |.next=>∃Y' H',fA X aA Y' H' s'/\D.nx Y' H'
 |.brk=>∃Y' H',fA X aA Y' H' s'/\D.bk Y' H'
 |.cont=>∃Y' H',fA X aA Y' H' s'/\D.ct Y' H'
 |.ret u=>∃v Y' H',fA X aA Y' H' s'/\aAc v u/\D.rt v H'
def PE(X:Cx)(e:DA)(t:TE):Prop :=
 ∀(aA:List (kA×IB)) (s:zA) (Y:St) (H:Hp) (Q:VK),fA X aA Y H s->t Y H Q->rA (model X.prog X.w) X.A (eval e X.env) (EP X aA Y Q) X.xe s
def PT(X:Cx)(e:DA)(t:TT):Prop :=
 ∀(aA:List (kA×IB)) (s:zA) (Y:St) (H:Hp) (Q:Bool->Hp->Prop),fA X aA Y H s->t Y H Q->rA (model X.prog X.w) X.A (isTrue e X.env (eval e X.env)) (TP X aA Y Q) X.xe s
def PW(X:Cx)(e:DA)(t:TT):Prop :=
 ∀(whole:DE dA) (aA:List (kA×IB)) (s:zA) (Y:St) (H:Hp) (Q:Bool->Hp->Prop),fA X aA Y H s->t Y H Q->rA (model X.prog X.w) X.A (isTrue e X.env whole) (TP X aA Y Q) X.xe s
def PW.pt(h:PW X e t):PT X e t:=h _
def PA(X:Cx)(es:List DA)(t:TA):Prop :=
 ∀(pos:IC) (aA:List (kA×IB)) (s:zA) (Y:St) (H:Hp) (Q:List V->Hp->Prop),fA X aA Y H s->t Y H Q->rA (model X.prog X.w) X.A (spliced (yF pos (zC es X.env))) (AP X aA Y Q) X.xe s
def PS(X:Cx)(st:rB)(t:TS):Prop :=
 ∀(aA:List (kA×IB)) (s:zA) (Y:St) (H:Hp) (D:Ends),fA X aA Y H s->t D Y H->rA (model X.prog X.w) X.A (exec st X.env) (SP X aA D) X.xe s
def tD(X:Cx)(st:List rB)(t:TS):Prop :=
 ∀(aA:List (kA×IB)) (s:zA) (Y:St) (H:Hp) (D:Ends),fA X aA Y H s->t D Y H->rA (model X.prog X.w) X.A (execs st X.env) (SP X aA D) X.xe s
def UA(h:rA M A t Q E s)(hQ:∀a s,Q a s->Q' a s):rA M A t Q' E s:=IJ h hQ λ_ _ x=>x
section
variable{X:Cx}
def LO(i:Nat):TE:=λY H Q=>∃v,Y[i]?=some (some v)/\Q v H
def tC(v:V):TE:=λ_ H Q=>Q v H
def M7(hN:X.N[i]?=some x)(hv:BR X.env.scope x)(hd:(x==("__debug__":bA))=false:=by decide)(lK:(x==("__classdict__":bA))=false:=by decide):PE X (.Name x pos) (LO i):=by
 intro aA s Y H Q I h;obtain⟨v,e,h⟩:=h;obtain⟨m,hn,hl⟩:=I.loc;obtain⟨u,r,l⟩:=hl i x v hN e hv;have fin:EP X aA Y Q u s:=⟨v,H,I,r,h⟩
 rcases l with ⟨hk,hm⟩ | ⟨hk,c,hc,mJ⟩
 ·exact yb (wpAny_loadName_local I.ok.kind hk hn hm fin) hd
 ·rcases hk with hk | hk
  ·exact yb (wpAny_loadName_cell I.ok.kind hk hc mJ fin) hd
  ·exact yb (wpAny_loadName_free I.ok.kind hk hc mJ fin lK) hd
def Ij{i j pos}:PE X (.Constant (.int i) j pos) (tC (.int i)):=λ_ _ _ H _ I h=>wpAny_Constant_int ⟨.int i,H,I.tok _,⟨_,rfl⟩,h⟩
def xOa{b j pos}:PE X (.Constant (.bool b) j pos) (tC (.bl b)):=λ_ _ _ H _ I h=>Constant_bool ⟨.bl b,H,I,rfl,h⟩
def nPa{j pos}:PE X (.Constant .none j pos) (tC .pA):=λ_ _ _ H _ I h=>Constant_none ⟨.pA,H,I,rfl,h⟩
def sPa{x j pos}:PE X (.Constant (.str x) j pos) (tC (.str x)):=λ_ _ _ H _ I h=>Calls.Constant_str ⟨.str x,H,I.tok _,⟨_,rfl⟩,h⟩
def Gl(X:Cx)(x:bA):Prop:=X.env.kindOf x=some .globalImplicit
def U6(I:fA X aA Y H s)(hg:Gl X x)(hm:X.mg x=some u)(h:Q u s)
  (hd:(x==("__debug__":bA))=false:=by decide):rA (model X.prog X.w) X.A (eval (.Name x pos) X.env) Q E s :=
 Calls.Name_function_global I.ok.kind hg (Calls.loadGlobal_global (by rw[I.ok.glob];exact I.mod.glob.keeps I.bk) hm h) hd
def sO(I:fA X aA Y H s)(hg:Gl X x)(hm:X.mg x=none)(hv:QK x=some u)(h:Q u s)
  (hn:x≠"__name__":=by decide) (hd:(x==("__debug__":bA))=false:=by decide):rA (model X.prog X.w) X.A (eval (.Name x pos) X.env) Q E s:=by
 obtain⟨mb,h1,h2⟩:=I.mod.blt;exact Calls.Name_function_global I.ok.kind hg (Calls.loadGlobal_builtin (by rw[I.ok.glob];exact I.mod.glob.keeps I.bk) hm (by rw[I.ok.blt];exact h1.keeps I.bk) ((h2 x hn).trans hv) h) hd
def hPa(hg:Gl X x)(hm:X.mg x=some u)(r:aAc v u)(hd:(x==("__debug__":bA))=false:=by decide):PE X (.Name x pos) (tC v) :=
 λ_ _ _ H _ I h=>U6 I hg hm ⟨v,H,I,r,h⟩ hd
def K7(hg:Gl X x)(hm:X.mg x=none)(hv:QK x=some u)(r:aAc v u)(hn:x≠"__name__":=by decide)(hd:(x==("__debug__":bA))=false:=by decide):PE X (.Name x pos) (tC v) :=
 λ_ _ _ H _ I h=>sO I hg hm hv ⟨v,H,I,r,h⟩ hn hd
variable{pos:IC}
variable{rest:List DA}
def Tn(t u:TT):TT:=λY H Q=>t Y H λc H1=>if c=true then u Y H1 Q else Q false H1
def Wn(t u:TT):TT:=λY H Q=>t Y H λc H1=>if c=true then Q true H1 else u Y H1 Q
def qXa(t:TT):TT:=λY H Q=>t Y H λc H1=>Q (!c) H1
def aAV(ha:PT X a tA):PW X (.BoolOp .And [a] pos) tA:=by
 intro wh aA s Y H Q I h;refine isTrue_and (UA (ha aA s Y H Q I h) λc s1 e=>?_)
 cases c with
 |true=>exact isTrue_and_nil e
 |false=>exact e
def aA3(ha:PT X a tA):PW X (.BoolOp .Or [a] pos) tA:=by
 intro wh aA s Y H Q I h;refine isTrue_or (UA (ha aA s Y H Q I h) λc s1 e=>?_)
 cases c with
 |false=>exact isTrue_or_nil e
 |true=>exact e
def aA2(ha:PT X a tA)(hb:PW X (.BoolOp .And (b::rest) pos) P8):PW X (.BoolOp .And (a::b::rest) pos) (Tn tA P8):=by
 intro wh aA s Y H Q I h;refine isTrue_and (UA (ha aA s Y H _ I h) λc s1 hz=>?_);obtain⟨H1,I1,q1⟩:=hz
 cases c with
 |true=>exact hb wh aA s1 Y H1 Q I1 q1
 |false=>exact⟨H1,I1,q1⟩
def aA4(ha:PT X a tA)(hb:PW X (.BoolOp .Or (b::rest) pos) P8):PW X (.BoolOp .Or (a::b::rest) pos) (Wn tA P8):=by
 intro wh aA s Y H Q I h;refine isTrue_or (UA (ha aA s Y H _ I h) λc s1 hz=>?_);obtain⟨H1,I1,q1⟩:=hz
 cases c with
 |true=>exact⟨H1,I1,q1⟩
 |false=>exact hb wh aA s1 Y H1 Q I1 q1
def bSa(ha:PT X a tA):PT X (.UnaryOp .Not a pos) (qXa tA):=by
 intro aA s Y H Q I h;exact isTrue_not (ha aA s Y H (λc H1=>Q (!c) H1) I h)
def Vn(ta tb:TE):TE:=λY H Q=>ta Y H λx H1=>∃c,x=.bl c/\if c=true then tb Y H1 Q else Q (.bl false) H1
def Xn(ta tb:TE):TE:=λY H Q=>ta Y H λx H1=>∃c,x=.bl c/\if c=true then Q (.bl true) H1 else tb Y H1 Q
def Jj{op}(h:PE X a t):PE X (.BoolOp op [a] pos) t:=λaA s Y H Q I hw=>BoolOp_one (h aA s Y H Q I hw)
def wOa(ha:PE X a ta)(hb:PE X (.BoolOp .And (b::rest) pos) tb):PE X (.BoolOp .And (a::b::rest) pos) (Vn ta tb):=by
 intro aA s Y H Q I h;refine BoolOp_and (UA (ha aA s Y H _ I h) λv s1 hz=>?_);obtain⟨x,H1,I1,r1,q1⟩:=hz;obtain⟨c,rfl,q1⟩:=q1;cases r1;refine bM ?_
 cases c with
 |true=>exact hb aA s1 Y H1 Q I1 q1
 |false=>exact⟨.bl false,H1,I1,rfl,q1⟩
def Kj(ha:PE X a ta)(hb:PE X (.BoolOp .Or (b::rest) pos) tb):PE X (.BoolOp .Or (a::b::rest) pos) (Xn ta tb):=by
 intro aA s Y H Q I h;refine BoolOp_or (UA (ha aA s Y H _ I h) λv s1 hz=>?_);obtain⟨x,H1,I1,r1,q1⟩:=hz;obtain⟨c,rfl,q1⟩:=q1;cases r1;refine bM ?_
 cases c with
 |false=>exact hb aA s1 Y H1 Q I1 q1
 |true=>exact⟨.bl true,H1,I1,rfl,q1⟩
end
def zB(K:iA)(H:Hp)(a:kA)(xs:List V):Prop :=
 Rd H a (.l xs) \/
  ∃(o:IB) (cA:Array dA) (n:Nat),K.lookup a=some o/\o.cls=.type "list"/\o.dict=none/\o.data=.seq cA n/\cA.size<=sizeLine/\aAb xs cA.toList
def QC(K:iA)(H:Hp)(a:kA)(xs:List V):Prop :=
 Rd H a (.t xs) \/
  ∃(o:IB) (cA:Array dA) (n:Nat),K.lookup a=some o/\o.cls=.type "tuple"/\o.data=.seq cA n/\cA.size<=sizeLine/\aAb xs cA.toList
noncomputable def Bu:dA->Option V
 |.none=>some .pA
 |.bool b=>some (.bl b)
 |.int i _=>some (.int i)
 |.str x _=>some (.str x)
 |.ref a=>some (.ref a)
 |.type n=>some (.ty n)
 |_=>none
def aAc.abs(r:aAc x u):Bu u=some x:=by
 cases x with
 |pA=>cases r;rfl
 |bl _=>cases r;rfl
 |int _=>obtain⟨t,rfl⟩:=r;rfl
 |str _=>obtain⟨t,rfl⟩:=r;rfl
 |ref _=>cases r;rfl
 |ty _=>cases r;rfl
theorem aAc.inj(r:aAc x u)(q:aAc y u):x=y:=eE (r.abs.symm.trans q.abs)
theorem aAb.inj{xs ys:List V}{us:List dA}(h:aAb xs us)(h':aAb ys us):xs=ys:=by
 induction h generalizing ys with
 |nil=>cases h';rfl
 |cons r t ih=>cases h' with | cons r' t'=>rw[r.inj r',ih t']
section
variable{xs ys:List V}
def zB.of{K:iA}(h:H a=some (.l xs)):zB K H a xs:=.inl (.inl h)
def QC.of{K:iA}(h:H a=some (.t xs)):QC K H a xs:=.inl (.inl h)
def fA.list(I:fA X aA Y H s)(h:zB X.K H a xs):∃cA:List dA,aAb xs cA/\PlainL s.heap a cA.toArray/\xs.length<=sizeLine:=by
 rcases h with h | ⟨o,cA,n,hk,hc,hd,hs,hz,r⟩
 ·obtain⟨z,cA,n,r,e⟩:=h.ok I.RA;exact⟨cA,r,⟨_,n,e,rfl,rfl,rfl⟩,z⟩
 ·refine⟨cA.toList,r,⟨o,n,I.QE a o hk,hc,hd,by simpa using hs⟩, ?_⟩;have e:=r.length;simp only[kF] at e
  lia
def fA.tuple(I:fA X aA Y H s)(h:QC X.K H a xs):∃cA:List dA,aAb xs cA/\zF s.heap a cA.toArray/\xs.length<=sizeLine:=by
 rcases h with h | ⟨o,cA,n,hk,hc,hs,hz,r⟩
 ·obtain⟨z,cA,r,p⟩:=h.ok I.RA;exact⟨cA,r,p,z⟩
 ·refine⟨cA.toList,r,⟨o,I.QE a o hk,hc,n,by simpa using hs⟩, ?_⟩;have e:=r.length;simp only[kF] at e
  lia
def fA.oi(I:fA X aA Y H s)(h:zB X.K H a xs)(h':zB X.K H a ys):xs=ys:=by
 obtain⟨cA,r,⟨o,n,e,_,_,d⟩,_⟩:=I.list h;obtain⟨its',r',⟨o',n',e',_,_,d'⟩,_⟩:=I.list h';rw[e] at e';cases e';rw[d] at d'
 injection d' with d1 _
 have:cA=its':=by simpa using congrArg sU d1
 subst this;exact r.inj r'
def fA.nYa(I:fA X aA Y H s)(h:QC X.K H a xs)(h':QC X.K H a ys):xs=ys:=by
 obtain⟨cA,r,⟨o,e,_,n,d⟩,_⟩:=I.tuple h;obtain⟨its',r',⟨o',e',_,n',d'⟩,_⟩:=I.tuple h';rw[e] at e';cases e';rw[d] at d'
 injection d' with d1 _
 have:cA=its':=by simpa using congrArg sU d1
 subst this;exact r.inj r'
end
abbrev Cx.GK(X:Cx)(E:dA->zA->Prop):Cx:={ X with xe:=E }
abbrev Cx.xQ(X:Cx):Cx:=X.GK λ_ _=>False
theorem Cx.Ok.GK{X:Cx}(ok:X.Ok)(E:dA->zA->Prop):(X.GK E).Ok :=
 ⟨ok.mod,ok.kind,ok.glob,ok.blt,ok.above,ok.inj,ok.has,ok.RR,ok.hd,ok.frames,ok.oX,ok.we,ok.bs,ok.wM,ok.mT,ok.tV,ok.DI,ok.aO⟩
def Cx.Ok.qN{X:Cx}(ok:(X.GK E).Ok):X.Ok :=
 ⟨ok.mod,ok.kind,ok.glob,ok.blt,ok.above,ok.inj,ok.has,ok.RR,ok.hd,ok.frames,ok.oX,ok.we,ok.bs,ok.wM,ok.mT,ok.tV,ok.DI,ok.aO⟩
section
variable{E:dA->zA->Prop}
theorem fA.GK(I:fA X aA Y H s)(E:dA->zA->Prop):fA (X.GK E) aA Y H s:=⟨I.ok.GK E,I.os,I.bare,I.base,I.loc,I.cell,I.free,I.fK,I.pin,I.RA,I.len⟩
theorem fA.qN(I:fA (X.GK E) aA Y H s):fA X aA Y H s:=⟨I.ok.qN,I.os,I.bare,I.base,I.loc,I.cell,I.free,I.fK,I.pin,I.RA,I.len⟩
theorem SP.qN(h:SP (X.GK E) aA D f s'):SP X aA D f s':=by
 cases f with
 |next=>obtain⟨Y',H',I,q⟩:=h;exact⟨Y',H',I.qN,q⟩
 |brk=>obtain⟨Y',H',I,q⟩:=h;exact⟨Y',H',I.qN,q⟩
 |cont=>obtain⟨Y',H',I,q⟩:=h;exact⟨Y',H',I.qN,q⟩
 |ret u=>obtain⟨v,Y',H',I,r,q⟩:=h;exact⟨v,Y',H',I.qN,r,q⟩
theorem tD.xQ{st:List rB}(h:tD X.xQ st t):tD X st t:=λaA s Y H D I hw =>
 IJ (h aA s Y H D (I.GK _) hw) (λ_ _ q=>q.qN) λ_ _ z=>nI z
end
section
variable{st:rB}{rest:List rB}
def V8:TS:=λD Y H=>D.nx Y H
def vXa(t u:TS):TS:=λD Y H=>t { D with nx:=u D } Y H
def ak:tD X [] V8:=λ_ _ Y H _ I h=>Ea ⟨Y,H,I,h⟩
def V7(h1:PS X st t)(h2:tD X rest u):tD X (st::rest) (vXa t u):=by
 intro aA s Y H D I h;refine wpAny_execs_cons (UA (h1 aA s Y H { D with nx:=u D } I h) λf s1 q=>?_)
 cases f with
 |next =>
  obtain⟨Y',H',I',q⟩:=q;exact h2 aA s1 Y' H' D I' q
 |ret v=>exact q
 |brk=>exact q
 |cont=>exact q
def fXa:TS:=λD Y H=>D.bk Y H
def hXa:TS:=λD Y H=>D.ct Y H
def pRa:PS X (.Pass pos) V8:=λ_ _ Y H _ I h=>wpAny_Pass ⟨Y,H,I,h⟩
def eRa:PS X (.Break pos) fXa:=λ_ _ Y H _ I h=>wpAny_Break ⟨Y,H,I,h⟩
def iRa:PS X (.Continue pos) hXa:=λ_ _ Y H _ I h=>wpAny_Continue ⟨Y,H,I,h⟩
def fA.quiet(I:fA X aA Y H s):interactive X.env=false:=by simp[interactive,I.ok.kind]
def jXa(te:TE):TS:=λD Y H=>te Y H λ_ H1=>D.nx Y H1
def jRa(he:PE X e te)(hs:swapsWith e none pos.line X.env=pure false:=by rfl):PS X (.Expr e pos) (jXa te):=by
 intro aA s Y H D I h;exact wpAny_Expr_any (UA (he aA s Y H _ I h) λv s1 hz=>(by obtain⟨x,H1,I1,r1,q1⟩:=hz;exact⟨Y,H1,I1,q1⟩)) I.quiet hs
def sXa(te:TE):TS:=λD Y H=>te Y H D.rt
def Yj(he:PE X e te):PS X (.Return (some e) pos) (sXa te):=by
 intro aA s Y H D I h;exact wpAny_Return_some (UA (he aA s Y H _ I h) λv s1 hz=>(by obtain⟨x,H1,I1,r1,q1⟩:=hz;exact⟨x,Y,H1,I1,r1,q1⟩))
def tXa:TS:=λD _ H=>D.rt .pA H
def rRa:PS X (.Return none pos) tXa:=λ_ _ Y H _ I h=>wpAny_Return_none ⟨.pA,Y,H,I,rfl,h⟩
def mXa(c:TT)(t u:TS):TS:=λD Y H=>c Y H λb H1=>if b=true then t D Y H1 else u D Y H1
def nRa(hc:PT X c tc)(ha:tD X a t)(hb:tD X b u):PS X (.If c a b pos) (mXa tc t u):=by
 intro aA s Y H D I h;refine wpAny_If (UA (hc aA s Y H _ I h) λd s1 hz=>?_);obtain⟨H1,I1,q1⟩:=hz
 cases d with
 |true=>exact ha aA s1 Y H1 D I1 q1
 |false=>exact hb aA s1 Y H1 D I1 q1
end
abbrev TG:=V->St->Hp->(St->Hp->Prop)->Prop
abbrev uP:=List V->St->Hp->(St->Hp->Prop)->Prop
def PG(X:Cx)(target:DA)(t:TG):Prop :=
 ∀(aA:List (kA×IB)) (s:zA) (Y:St) (H:Hp) (v:V) (u:dA) (Q:St->Hp->Prop),fA X aA Y H s->aAc v u->t v Y H Q ->
  rA (model X.prog X.w) X.A (assign target X.env u) (λ_ s'=>∃Y' H',fA X aA Y' H' s'/\Q Y' H') X.xe s
def cL(X:Cx)(ts:List DA)(t:uP):Prop :=
 ∀(aA:List (kA×IB)) (s:zA) (Y:St) (H:Hp) (vs:List V) (us:List dA) (Q:St->Hp->Prop),fA X aA Y H s->aAb vs us->t vs Y H Q ->
  rA (model X.prog X.w) X.A (assignInOrder ((CH ts X.env).map (·.2)) us) (λ_ s'=>∃Y' H',fA X aA Y' H' s'/\Q Y' H') X.xe s
abbrev JU:=V->V->V->Hp->(Hp->Prop)->Prop
def kZ(X:Cx)(t:JU):Prop :=
 ∀(aA:List (kA×IB)) (s:zA) (Y:St) (H:Hp) (o i v:V) (ov iv u:dA) (Q:Hp->Prop),fA X aA Y H s->aAc o ov->aAc i iv->aAc v u->t o i v H Q ->
  rA (model X.prog X.w) X.A (setItem ov iv u) (λ_ s'=>∃H',fA X aA Y H' s'/\Q H') X.xe s
section
variable{pos:IC}
def ZP(i:Nat):TG:=λv Y H Q=>Q (Y.set i (some v)) H
def Nj(hN:X.N.Nodup)(hi:X.N[i]?=some x)(hx:Loc X.env.scope x)(hf:X.fn x=true\/X.env.scope.names.lookup x=some .local:=by first | exact .inl rfl | exact .inr rfl | assumption):PG X (.Name x pos) (ZP i):=by
 intro aA s Y H v u Q I r h;exact Rq (zWa I hN hi hx r (λs' I'=>⟨_,H,I',h⟩) hf)
def A_:uP:=λvs Y H Q=>vs=[]/\Q Y H
def z_(t:TG)(u:uP):uP:=λvs Y H Q=>∃v r,vs=v::r/\t v Y H λY' H'=>u r Y' H' Q
def cQa:cL X [] A_:=by
 intro aA s Y H vs us Q I r h;obtain⟨e,h⟩:=h;subst e;cases r;exact assignInOrder_nil ⟨Y,H,I,h⟩
def aQa(h1:PG X e t)(h2:cL X es u)
  (hs:(CH (e::es) X.env).map (·.2)=assign e X.env::(CH es X.env).map (·.2):=by rfl):cL X (e::es) (z_ t u):=by
 intro aA s Y H vs us Q I r h;obtain⟨v,vr,e1,h⟩:=h;subst e1
 cases r with
 |cons r rr =>
  rw[hs];refine assignInOrder_cons (UA (h1 aA s Y H _ _ _ I r h) λ_ s1 hz=>?_);obtain⟨Y1,H1,I1,q1⟩:=hz;exact h2 aA s1 Y1 H1 _ _ Q I1 rr q1
def C_(K:iA)(n:Nat)(t:uP):TG:=λv Y H Q=>∃a xs,v=.ref a/\QC K H a xs/\xs.length=n/\t xs Y H Q
def zPa(hc:X.calm=true)(h:cL X es t)
  (hn:(CH es X.env).length=n:=by rfl) (MM:(CH es X.env).findIdx? (·.1)=none:=by rfl):PG X (.Tuple es k pos) (C_ X.K n t):=by
 intro aA s Y H v u Q I r hw;obtain⟨a,xs,e1,hq,hl,hw⟩:=hw;subst e1;cases r;obtain⟨cA,rv,ht,hz⟩:=I.tuple hq;refine assign_Tuple_tuple (I.ok.hd hc) ht (by simp[hn,<- hl,rv.length]) MM λh' hx=>?_
 have I1:fA X aA Y H { s with heap:=h' }:=I.kept (t':=s.toks) λb o e=>hx b o (MD (mC e)) e
 exact h aA _ Y H xs _ Q I1 (by simpa using rv) hw
def B_(to ti:TE)(t:JU):TG:=λv Y H Q=>to Y H λo H1=>ti Y H1 λi H2=>t o i v H2 λH3=>Q Y H3
def yPa(ho:PE X o to)(hi:PE X i ti)(hs:kZ X t)
  (ha:∀v,assign (.Subscript o i pos) X.env v=(do
   let ov <- holding [v] (eval o X.env)
   let iv <- holding [v,ov] (eval i X.env)
   standAt pos
   holding [v,ov,iv] (setItem ov iv v)
   release [v,ov,iv] []):=by intro _;rfl):PG X (.Subscript o i pos) (B_ to ti t):=by
 intro aA s Y H v u Q I r h;rw[ha];refine gA (XG (UA (ho aA s Y H _ I h) λov s1 hz=>?_));obtain⟨x,H1,I1,r1,q1⟩:=hz;refine gA (XG (UA (hi aA s1 Y H1 _ I1 q1) λiv s2 hz=>?_));obtain⟨y,H2,I2,r2,q2⟩:=hz;refine gA (xY (gA (XG (UA (hs aA s2 Y H2 x y v ov iv u _ I2 r1 r2 r q2) λ_ s3 hz=>?_))));obtain⟨H3,I3,q3⟩:=hz;exact wpAny_release ⟨Y,H3,I3,q3⟩
def O8(te:TE)(g:TG):TS:=λD Y H=>te Y H λx H1=>g x Y H1 D.nx
def yT(he:PE X e te)(hg:PG X tg g)(hs:swapsWithSole [tg] e pos.line X.env=pure false:=by rfl)(hw:swappedStores [tg] e X.env=pure none:=by rfl)
  (h1:(CH [tg] X.env).map (·.2)=[assign tg X.env]:=by rfl):PS X (.Assign [tg] e pos) (O8 te g):=by
 intro aA s Y H D I h;refine wpAny_Assign_stores (UA (he aA s Y H _ I h) λv s1 hz=>?_) hs hw;obtain⟨x,H1,I1,r1,q1⟩:=hz;rw[h1];exact UA (hg aA s1 Y H1 x v _ I1 r1 q1) λ_ s2 q=>q
end
section
variable{X:Cx}{pos:IC}
def aYa(c:TT)(tb:TS):TS:=λD Y H=>∃W:Nat->St->Hp->Prop,(∃m,W m Y H)/\∀m Y H,W m Y H ->
 c Y H λb H1=>if b=true then ∃N:St->Hp->Prop,(∀Y' H',N Y' H'->∃m',m'<m/\W m' Y' H')/\tb { D with nx:=N,ct:=N,bk:=D.nx } Y H1 else D.nx Y H1
def yRa(hp:iM (model X.prog X.w) X.A X.env X.xe)(hc:PT X c tc)(hb:tD X body tb):PS X (.While c body [] pos) (aYa tc tb):=by
 intro aA s Y H D I h;obtain⟨W,⟨m0,w0⟩,turn⟩:=h;refine wpAny_While (codeAny_whileLoop (λn s'=>∃Y' H',fA X aA Y' H' s'/\W n Y' H') ?_ m0 ⟨Y,H,I,w0⟩)
 rintro n s1 ⟨Y1,H1,I1,w1⟩
 refine ZO hp (UA (hc aA s1 Y1 H1 _ I1 (turn n Y1 H1 w1)) λb s2 hz=>?_);obtain⟨H2,I2,q2⟩:=hz
 cases b with
 |true =>
  obtain⟨N,hN,q2⟩:=q2;rw[KA rfl];refine ZO hp (UA (hb aA s2 Y1 H2 _ I2 q2) λf s3 q3=>?_)
  cases f with
  |next =>
   obtain⟨Y3,H3,I3,n3⟩:=q3;obtain⟨m',hm,w3⟩:=hN Y3 H3 n3;exact⟨m',hm,Y3,H3,I3,w3⟩
  |cont =>
   obtain⟨Y3,H3,I3,n3⟩:=q3;obtain⟨m',hm,w3⟩:=hN Y3 H3 n3;exact⟨m',hm,Y3,H3,I3,w3⟩
  |brk=>exact q3
  |ret v=>exact q3
 |false =>
  rw[if_neg fD];exact Ea ⟨Y1,H2,I2,q2⟩
end
structure It where
 go:Nat->Hp->Prop
 FX:Nat->Hp->V->Hp->Prop
 stop:Nat->Hp->Prop
def KH(X:Cx)(aA:List (kA×IB))(H:Hp)(b:kA):Prop :=
 H b=none/\b≠X.env.locals/\b ∉ X.fs/\(b∈X.ex\/X.s₀.heap.get? b=none)/\(∀x c,X.env.cells.lookup x=some c->c≠b)/\∀p∈X.pn++aA,p.1≠b
def fA.CM(I:fA X aA Y H s)(hb:s.heap.objs.size<=b)(hn:H' b=none):KH X aA H' b:=by
 refine⟨hn,kR (WE I.lt hb),I.qKa hb,.inr (SX (EC I.sz hb)),λx c e z=>?_,λp hp z=>?_⟩
 ·obtain⟨v,q⟩:=I.cell x c e;exact absurd (WE q.lt (by rw[z];exact hb)) (HJ _)
 ·exact absurd (WE (mC (I.pin p hp).1) (by rw[z];exact hb)) (HJ _)
structure Turn(P:KC)(w:WB)(K:iA)(tg:DA)(J:It)(fp:List kA)(it:kA)(tn:Nat->TB->Prop):Prop where
 mem:it∈fp
 obj:∀i h,tn i h->∀b∈fp,∃o,h.get? b=some o/\∀v,o.data≠.cell v
 keep:∀i h h',tn i h->(∀b∈fp,∀o,h.get? b=some o->h'.get? b=some o)->tn i h'
 item:∀(X:Cx),X.prog=P->X.w=w->X.K=K->X.calm=true->∀(i:Nat) (aA:List (kA×IB)) (s:zA) (Y:St) (H:Hp) (E:dA->zA->Prop),fA X aA Y H s->(∀b∈fp,KH X aA H b)->tn i s.heap->J.go i H ->
  rA (model P w) X.A (pyNext (.ref it)) (λr s1=>∃u,r=some u /\
   rA (model P w) X.A (letOwnedTupleGo tg (.ref it) u) (λ_ s2=>∃x H',fA X aA Y H' s2/\aAc x u/\J.FX i H x H'/\tn (i+1) s2.heap/\∀b∈fp,H' b=none) E s1) E s
 done:∀(X:Cx),X.prog=P->X.w=w->X.K=K->X.calm=true->∀(i:Nat) (aA:List (kA×IB)) (s:zA) (Y:St) (H:Hp) (E:dA->zA->Prop),fA X aA Y H s->(∀b∈fp,KH X aA H b)->tn i s.heap->J.stop i H ->
  rA (model P w) X.A (pyNext (.ref it)) (λr s1=>r=none/\fA X aA Y H s1) E s
 self:∀(A:RD) (i:Nat) (s:zA) (Q:dA->zA->Prop) (E:dA->zA->Prop),tn i s.heap->Q (.ref it) s->rA (model P w) A (pyIter (.ref it)) Q E s
abbrev TI:=St->Hp->(It->Hp->Prop)->Prop
def Xb(X:Cx)(aA:List (kA×IB))(Y:St)(tg:DA)(R:It->Hp->Prop)(x6:dA)(s2:zA):Prop :=
 ∃(it:kA) (fp:List kA) (tn:Nat->TB->Prop) (J:It) (H':Hp),x6=.ref it/\fA X aA Y H' s2/\Turn X.prog X.w X.K tg J fp it tn/\tn 0 s2.heap/\(∀b∈fp,KH X aA H' b)/\R J H'
def PI(X:Cx)(tg iter:DA)(wi:TI):Prop :=
 ∀(aA:List (kA×IB)) (s:zA) (Y:St) (H:Hp) (R:It->Hp->Prop),fA X aA Y H s->wi Y H R ->
  rA (model X.prog X.w) X.A (eval iter X.env) (λv s1=>rA (model X.prog X.w) X.A (pyIter v) (Xb X aA Y tg R) X.xe s1) X.xe s
def JV(ho:s.heap.get? it=some o)(hc:o.cls=.type n)(hd:o.data=.fields vs)
  (hn:["enumerate","zip","dict_itemiterator","dict_reverseitemiterator","odict_iterator","itertools.zip_longest","itertools.pairwise"].contains n=false) (hQ:Q () s):rA M A (letOwnedTupleGo tg (.ref it) u) Q E s:=by
 unfold letOwnedTupleGo
 cases tg<;>first
  |exact EA hQ
  | (cases u<;>first
    |exact EA hQ
    | (refine gA (wpAny_load ho ?_)
       rw[hc,hd];show rA M A (if(["enumerate","zip","dict_itemiterator","dict_reverseitemiterator","odict_iterator","itertools.zip_longest","itertools.pairwise"].contains n&&vs[0]? == some (rawInt _))=true then _ else _) Q E s;rw[if_neg (by intro h;rw[hn,eM] at h;cases h)]
       exact EA hQ))
noncomputable def YY(K:iA)(a:kA):It :=
 ⟨λi H=>∃xs x,zB K H a xs/\xs[i]?=some x,λi H x H'=>H'=H/\∀xs,zB K H a xs->xs[i]?=some x,λi H=>∃xs,zB K H a xs/\xs.length<=i⟩
noncomputable def ZY(K:iA)(a:kA):It :=
 ⟨λi H=>∃xs x,QC K H a xs/\xs[i]?=some x,λi H x H'=>H'=H/\∀xs,QC K H a xs->xs[i]?=some x,λi H=>∃xs,QC K H a xs/\xs.length<=i⟩
noncomputable def xR(lo:Int)(n:Nat):It:=⟨λi _=>i<n,λi H x H'=>H'=H/\x=.int (lo+i),λi _=>n<=i⟩
def sYa{K:iA}(a it:kA):Turn P w K tg (YY K a) [it] it (λi h=>h.IsListIter it a i) where
 mem:=by simp
 obj:=λi h st b hb=>by
  have e:b=it:=by simpa using hb
  subst e;obtain⟨o,e,c,d⟩:=st;exact⟨o,e,λv z=>by rw[d] at z;cases z⟩
 keep:=λi h h' st k=>st.at λo e=>k it (by simp) o e
 item:=by
  intro X hP hw hK hc i aA s Y H E I hf st hg;subst hP hw hK;obtain⟨xs,x,hq,hx⟩:=hg;obtain⟨cA,rv,p,hz⟩:=I.list hq;obtain⟨u,hu,ru⟩:=rv.get hx;obtain⟨f0,f1,f2,f3,f4,f5⟩:=hf it (by simp);refine Mp st p.isList (x:=u) (by simpa using hu) λh' xA sb=>?_
  have I1:fA X aA Y H { s with heap:=h' }:=I.turned (t':=s.toks) (λb o hb e=>(sb.2 b hb).trans e) f0 f1 f3 f4 f5;obtain⟨o,e,c,d⟩:=id xA;exact⟨u,rfl,JV (s:={ s with heap:=h' }) e c d (by decide) ⟨x,H,I1,ru,⟨rfl,λys hy=>by rw[I.oi hy hq];exact hx⟩,xA,λb hb=>(hf b hb).1⟩⟩
 done:=by(intro X hP hw hK hc i aA s Y H E I hf st hg;subst hP hw hK;obtain⟨xs,hq,hx⟩:=hg;obtain⟨cA,rv,p,hz⟩:=I.list hq;obtain⟨f0,f1,f2,f3,f4,f5⟩:=hf it (by simp);have hl:=rv.length;exact aq (I.ok.hd hc) st p.isList (by simp;lia) λh' eb=>⟨rfl,I.turned (t':=s.toks) (λb o hb e=>eb b o hb e) f0 f1 f3 f4 f5⟩)
 self:=λ_ _ _ _ _ st h=>wpAny_pyIter_listiter st h
def uYa{K:iA}(a it:kA):Turn P w K tg (ZY K a) [it] it (λi h=>h.IsTupleIter it a i) where
 mem:=by simp
 obj:=λi h st b hb=>by
  have e:b=it:=by simpa using hb
  subst e;obtain⟨o,e,c,d⟩:=st;exact⟨o,e,λv z=>by rw[d] at z;cases z⟩
 keep:=λi h h' st k=>st.at λo e=>k it (by simp) o e
 item:=by
  intro X hP hw hK hc i aA s Y H E I hf st hg;subst hP hw hK;obtain⟨xs,x,hq,hx⟩:=hg;obtain⟨cA,rv,p,hz⟩:=I.tuple hq;obtain⟨u,hu,ru⟩:=rv.get hx;obtain⟨f0,f1,f2,f3,f4,f5⟩:=hf it (by simp);refine wpAny_pyNext_tuple_item st (show s.heap.IsTuple a cA.toArray from p) (x:=u) (by simpa using hu) λh' xA sb=>?_
  have I1:fA X aA Y H { s with heap:=h' }:=I.turned (t':=s.toks) (λb o hb e=>(sb.2 b hb).trans e) f0 f1 f3 f4 f5;obtain⟨o,e,c,d⟩:=id xA;exact⟨u,rfl,JV (s:={ s with heap:=h' }) e c d (by decide) ⟨x,H,I1,ru,⟨rfl,λys hy=>by rw[I.nYa hy hq];exact hx⟩,xA,λb hb=>(hf b hb).1⟩⟩
 done:=by(intro X hP hw hK hc i aA s Y H E I hf st hg;subst hP hw hK;obtain⟨xs,hq,hx⟩:=hg;obtain⟨cA,rv,p,hz⟩:=I.tuple hq;obtain⟨f0,f1,f2,f3,f4,f5⟩:=hf it (by simp);have hl:=rv.length;exact wpAny_pyNext_tuple_end (I.ok.hd hc) st (show s.heap.IsTuple a cA.toArray from p) (by simp;lia) λh' eb=>⟨rfl,I.turned (t':=s.toks) (λb o hb e=>eb b o hb e) f0 f1 f3 f4 f5⟩)
 self:=λ_ _ _ _ _ st h=>wpAny_pyIter_tupleiter st h
def tYa{K:iA}(it:kA)(lo:Int)(n:Nat):Turn P w K tg (xR lo n) [it] it (λi h=>IsRangeIter h it (lo+(i:Nat)*1) ((n:Int)-(i:Nat)) 1) where
 mem:=by simp
 obj:=λi h st b hb=>by
  have e:b=it:=by simpa using hb
  subst e
  exact⟨_,st,λv z=>by
   have z':Data.fields _=Data.cell v:=z
   cases z'⟩
 keep:=λi h h' st k=>k it (by simp) _ st
 item:=by
  intro X hP hw hK hc i aA s Y H E I hf st hg;subst hP hw hK;obtain⟨f0,f1,f2,f3,f4,f5⟩:=hf it (by simp);have W:=Walks.range (prog:=X.prog) (w:=X.w) (I.ok.hd hc) it lo 1 n;refine W.item i s _ _ hg st λv h' tk hv xA kk=>?_
  obtain⟨t,rfl⟩:=hv;have I1:fA X aA Y H { s with heap:=h',toks:=tk }:=I.turned (λb o hb e=>kk b o (by simpa using hb) e) f0 f1 f3 f4 f5;refine⟨_,rfl,JV (s:={ s with heap:=h',toks:=tk }) (n:="range_iterator") xA rfl rfl (by decide) ⟨.int (lo+i),H,I1,⟨t, ?_⟩,⟨rfl,rfl⟩,xA,λb hb=>(hf b hb).1⟩⟩;rw[Int.mul_one]
 done:=by(intro X hP hw hK hc i aA s Y H E I hf st hg;subst hP hw hK;obtain⟨f0,f1,f2,f3,f4,f5⟩:=hf it (by simp);exact wpAny_pyNext_range_end (I.ok.hd hc) st (by have:n<=i:=hg;lia) λh' eb=>⟨rfl,I.turned (t':=s.toks) (λb o hb e=>eb b o hb e) f0 f1 f3 f4 f5⟩)
 self:=λ_ _ _ _ _ st h=>wpAny_pyIter_rangeiter st h
section
variable{tg:DA}
def R5(K:iA)(tl:TE):TI:=λY H R=>tl Y H λx H1=>∃a,x=.ref a/\(∃xs,zB K H1 a xs)/\R (YY K a) H1
def S5(K:iA)(tl:TE):TI:=λY H R=>tl Y H λx H1=>∃a,x=.ref a/\(∃xs,QC K H1 a xs)/\R (ZY K a) H1
def O7(hl:PE X l tl):PI X tg l (R5 X.K tl):=by
 intro aA s Y H R I h;refine UA (hl aA s Y H _ I h) λv s1 hz=>?_
 obtain⟨x,H1,I1,r1,q1⟩:=hz;obtain⟨a,e,⟨xs,hq⟩,q⟩:=q1;subst e;cases r1;obtain⟨cA,rv,p,hz⟩:=I1.list hq;refine XQ p.isList ?_;refine⟨s1.heap.objs.size,[s1.heap.objs.size],_,_,H1,rfl,I1.kept (t':=s1.toks) λb o e=>oC _ e,sYa a _,⟨_,XD _ rfl,rfl,rfl⟩,λb hb=>?_,q⟩;have e:b=s1.heap.objs.size:=by simpa using hb
 subst e;exact I1.CM (jB _) (I1.RA.fresh (jB _))
def P7(hl:PE X l tl):PI X tg l (S5 X.K tl):=by
 intro aA s Y H R I h;refine UA (hl aA s Y H _ I h) λv s1 hz=>?_
 obtain⟨x,H1,I1,r1,q1⟩:=hz;obtain⟨a,e,⟨xs,hq⟩,q⟩:=q1;subst e;cases r1;obtain⟨cA,rv,p,hz⟩:=I1.tuple hq;refine wpAny_pyIter_tuple (show s1.heap.IsTuple a cA.toArray from p) ?_;refine⟨s1.heap.objs.size,[s1.heap.objs.size],_,_,H1,rfl,I1.kept (t':=s1.toks) λb o e=>oC _ e,uYa a _,⟨_,XD _ rfl,rfl,rfl⟩,λb hb=>?_,q⟩;have e:b=s1.heap.objs.size:=by simpa using hb
 subst e;exact I1.CM (jB _) (I1.RA.fresh (jB _))
def Hk{lo hi:Int}(I:fA X aA Y H s)(h1:-(2 ^ 62)<=lo)(h2:lo<2 ^ 62)(h3:-(2 ^ 62)<=hi)(h4:hi<2 ^ 62)
  (q:R (xR lo (hi-lo).toNat) H):rA (model X.prog X.w) X.A (pyIter (.ref s.heap.objs.size)) (Xb X aA Y tg R) E { s with heap:=s.heap.push { cls:=.type "range",data:=.fields #[.int lo t,.int hi u,.int 1 v] },toks:=tk }:=by
 refine wpAny_pyIter_range (IsRange.new ..) (small_one h1 h2 h3 h4) ?_;have I1:fA X aA Y H { s with heap:=s.heap.push { cls:=.type "range",data:=.fields #[.int lo t,.int hi u,.int 1 v] },toks:=tk }:=I.kept λb o e=>oC _ e
 refine⟨(s.heap.push { cls:=.type "range",data:=.fields #[.int lo t,.int hi u,.int 1 v] }).objs.size,[(s.heap.push { cls:=.type "range",data:=.fields #[.int lo t,.int hi u,.int 1 v] }).objs.size],_,_,H,rfl,
  I1.kept (t':=tk) λb o e=>oC _ e,tYa _ lo (hi-lo).toNat, ?_,λb hb=>?_,q⟩
 ·have e1:lo+((0:Nat):Int)*1=lo:=by simp
  have e2:(((hi-lo).toNat:Nat):Int)-((0:Nat):Int)=Builtin.Range.rangeSize lo hi 1:=by rw[rangeSize_one];split<;>lia
  show IsRangeIter _ _ (lo+((0:Nat):Int)*1) ((((hi-lo).toNat:Nat):Int)-((0:Nat):Int)) 1;rw[e1,e2];exact XD _ rfl
 ·have e:b=(s.heap.push { cls:=.type "range",data:=.fields #[.int lo t,.int hi u,.int 1 v] }).objs.size:=by simpa using hb
  subst e;exact I1.CM (jB _) (I1.RA.fresh (jB _))
def qg(ta:TA):TI:=λY H R=>ta Y H λvs H1=>∃j:Int,vs=[.int j]/\-(2 ^ 62)<=j/\j<2 ^ 62/\R (xR 0 j.toNat) H1
def ug(ta:TA):TI:=λY H R=>ta Y H λvs H1=>∃i j:Int,vs=[.int i,.int j]/\(-(2 ^ 62)<=i/\i<2 ^ 62/\-(2 ^ 62)<=j/\j<2 ^ 62)/\R (xR i (j-i).toNat) H1
def Qj{p pos:IC}(hg:Gl X "range")(hm:X.mg "range"=none)(ha:PA X [a] ta)(hs:zC [a] X.env=[(false,eval a X.env)]:=by rfl):PI X tg (.Call (.Name "range" p) [a] [] pos) (qg ta):=by
 intro aA s Y H R I h;refine Call_ (sO I hg hm boot_range (GX (UA (ha pos aA s Y H _ I h) λus s1 hz=>?_) hs rfl));obtain⟨vs,H1,I1,r1,q1⟩:=hz;obtain⟨j,e,q1,q2,q⟩:=q1;subst e
 cases r1 with
 |cons r rr =>
  cases rr;obtain⟨t,rfl⟩:=r;exact call_range_1 (Hk I1 (by lia) (by lia) q1 q2 (by simpa using q))
def Rj(hg:Gl X "range")(hm:X.mg "range"=none)(ha:PA X [a,b] ta)(hs:zC [a,b] X.env=[(false,eval a X.env),(false,eval b X.env)]:=by rfl)(vK:zC [b] X.env=[(false,eval b X.env)]:=by rfl) :
  PI X tg (.Call (.Name "range" p) [a,b] [] pos) (ug ta):=by
 intro aA s Y H R I h;refine Call_ (sO I hg hm boot_range (GX (UA (ha pos aA s Y H _ I h) λus s1 hz=>?_) (by rw[hs,vK]) (by rw[vK];rfl)));obtain⟨vs,H1,I1,r1,q1⟩:=hz;obtain⟨i,j,e,⟨q1,q2,q3,q4⟩,q⟩:=q1;subst e
 cases r1 with
 |cons r rr =>
  cases rr with
  |cons r' rr =>
   cases rr;obtain⟨t,rfl⟩:=r;obtain⟨t',rfl⟩:=r';exact call_range_2 (Hk I1 q1 q2 q3 q4 q)
def lXa(wi:TI)(g:TG)(tb:TS):TS:=λD Y H=>wi Y H λJ H1=>∃W:Nat->Nat->St->Hp->Prop,(∃m,W 0 m Y H1)/\∀i m Y H,W i m Y H ->
 (J.stop i H/\D.nx Y H)\/(J.go i H/\∃N:St->Hp->Prop,(∀Y' H',N Y' H'->∃m',m'<m/\W (i+1) m' Y' H')/\∀x H',J.FX i H x H'->g x Y H' λY2 H2=>tb { D with nx:=N,ct:=N,bk:=D.nx } Y2 H2)
noncomputable def sT(fp:List kA)(h:TB):List (kA×IB):=fp.filterMap λb=>(h.get? b).map λo=>(b,o)
def EW(hb:b∈fp)(e:h.get? b=some o):(b,o)∈sT fp h:=Iq.mpr ⟨b,hb,by rw[e];rfl⟩
def bLa(hp:p∈sT fp h):p.1∈fp/\h.get? p.1=some p.2:=by
 obtain⟨b,hb,e⟩:=Iq.mp hp
 cases q:h.get? b with
 |none=>rw[q] at e;cases e
 |some o =>
  rw[q] at e;have e':(b,o)=p:=eE e;subst e';exact⟨hb,q⟩
def fA.pinned(I:fA X aA Y H s)(hf:∀b∈fp,KH X aA H b)(ho:∀b∈fp,∃o,s.heap.get? b=some o/\∀v,o.data≠.cell v):fA X (aA++sT fp s.heap) Y H s :=
 I.Uj λp hp=>(dE.mp hp).elim (λz=>I.pin p (FH _ z)) λz=>by(obtain⟨hb,e⟩:=bLa z;obtain⟨f0,f1,f2,_⟩:=hf p.1 hb;obtain⟨o,e',d⟩:=ho p.1 hb;rw[e] at e';cases e';exact⟨e,f0,f1,f2,d⟩)
def fA.AX(I:fA X (aA++pl) Y H s):fA X aA Y H s:=I.Uj λp hp=>I.pin p (FH _ (XI _ hp))
def mRa(hp:iM (model X.prog X.w) X.A X.env X.xe)(hc:X.calm=true)(hi:PI X tg iter wi)(hg:PG X tg g)(hb:tD X body tb)
  (hs:∀x,PJ iter X.env x=pure x:=by intro _;rfl):PS X (.For tg iter body [] pos) (lXa wi g tb):=by
 intro aA s Y H D I h;refine wpAny_For (UA (hi aA s Y H _ I h) λv s1 h1=>UA h1 λx6 s2 h2=>?_) hs;obtain⟨it,fp,tn,J,H2,e,I2,T,JT,f2,W,⟨m0,w0⟩,turn⟩:=h2;subst e
 -- So stays true of UE k2a objects through UE loop
 have JO:∀{H':Hp},(∀b∈fp,H' b=none)->∀b∈fp,KH X aA H' b:=λhn b hb=>⟨hn b hb,(f2 b hb).2⟩
 refine codeAny_forLoop_any (λn s'=>∃i Y' H',fA X aA Y' H' s'/\tn i s'.heap/\(∀b∈fp,H' b=none)/\W i n Y' H') ?_ m0 ⟨0,Y,H2,I2,JT,λb hb=>(f2 b hb).1,w0⟩
 rintro n s3 ⟨i,Y3,H3,I3,Nl,Le,w3⟩
 rcases turn i n Y3 H3 w3 with ⟨stop,qn⟩ | ⟨go,N,hN,step⟩
 ·refine ZO hp (UA (T.done X rfl rfl rfl hc i aA s3 Y3 H3 X.xe I3 (JO Le) Nl stop) λr s4 hz=>?_);obtain⟨hr,I4⟩:=hz;subst hr;exact Ea ⟨Y3,H3,I4,qn⟩
 ·refine ZO hp (UA (T.item X rfl rfl rfl hc i aA s3 Y3 H3 X.xe I3 (JO Le) Nl go) λr s4 hz=>?_);obtain⟨u,hr,h4⟩:=hz;subst hr;refine ZO hp (UA h4 λ_ s5 hz=>?_);obtain⟨x,H5,I5,r5,y5,FQ,FV⟩:=hz;have Hs:=I5.pinned (JO FV) (T.obj _ _ FQ);refine ZO hp (UA (hg _ s5 Y3 H5 x u _ Hs r5 (step x H5 y5)) λ_ s6 hz=>?_);obtain⟨Y6,H6,I6,q6⟩:=hz;refine ZO hp (UA (hb _ s6 Y6 H6 _ I6 q6) λf s7 q7=>?_)
  have again:∀{Y7:St} {H7:Hp},fA X (aA++sT fp s5.heap) Y7 H7 s7->N Y7 H7->∃m,m<n/\∃i Y' H',fA X aA Y' H' s7/\tn i s7.heap/\(∀b∈fp,H' b=none)/\W i m Y' H':=λ{Y7 H7} I7 n7=>by(obtain⟨m',hm,w7⟩:=hN Y7 H7 n7;refine⟨m',hm,i+1,Y7,H7,I7.AX,T.keep _ _ _ FQ λb hb o e=>(I7.pin (b,o) (FH _ (FH _ (EW hb e)))).1,λb hb=>?_,w7⟩;obtain⟨o,e,d⟩:=T.obj _ _ FQ b hb;exact(I7.pin (b,o) (FH _ (FH _ (EW hb e)))).2.1)
  cases f with
  |next=>obtain⟨Y7,H7,I7,n7⟩:=q7;exact again I7 n7
  |cont=>obtain⟨Y7,H7,I7,n7⟩:=q7;exact again I7 n7
  |brk=>obtain⟨Y7,H7,I7,q7⟩:=q7;exact⟨Y7,H7,I7.AX,q7⟩
  |ret v=>obtain⟨x7,Y7,H7,I7,r7,q7⟩:=q7;exact⟨x7,Y7,H7,I7.AX,r7,q7⟩
end
abbrev R2:=V->V->Hp->VK->Prop
def OC(X:Cx)(f:dA->dA->DE dA)(r:R2):Prop :=
 ∀(aA:List (kA×IB)) (s:zA) (Y:St) (H:Hp) (x y:V) (v u:dA) (Q:VK),fA X aA Y H s->aAc x v->aAc y u->r x y H Q ->
  rA (model X.prog X.w) X.A (f v u) (EP X aA Y Q) X.xe s
def lZ(X:Cx)(f:dA->DE dA)(r:V->Hp->VK->Prop):Prop :=
 ∀(aA:List (kA×IB)) (s:zA) (Y:St) (H:Hp) (x:V) (v:dA) (Q:VK),fA X aA Y H s->aAc x v->r x H Q ->
  rA (model X.prog X.w) X.A (f v) (EP X aA Y Q) X.xe s
def DF(X:Cx)(f:dA)(r:List V->Hp->VK->Prop):Prop :=
 ∀(aA:List (kA×IB)) (s:zA) (Y:St) (H:Hp) (xs:List V) (us:List dA) (Q:VK),fA X aA Y H s->aAb xs us->r xs H Q ->
  rA (model X.prog X.w) X.A (call f us) (EP X aA Y Q) X.xe s
def yu(X:Cx)(r:V->Hp->(Bool->Hp->Prop)->Prop):Prop :=
 ∀(aA:List (kA×IB)) (s:zA) (Y:St) (H:Hp) (x:V) (v:dA) (Q:Bool->Hp->Prop),fA X aA Y H s->aAc x v->r x H Q ->
  rA (model X.prog X.w) X.A (truthy v) (TP X aA Y Q) X.xe s
def NT(r:R2)(ta tb:TE):TE:=λY H Q=>ta Y H λx H1=>tb Y H1 λy H2=>r x y H2 Q
def tUn(r:V->Hp->VK->Prop)(ta:TE):TE:=λY H Q=>ta Y H λx H1=>r x H1 Q
def rI(C:Int->Int->Prop)(g:Int->Int->V):R2:=λx y H Q=>∃i j,x=.int i/\y=.int j/\C i j/\Q (g i j) H
def CK(g:Int->Int->V):R2:=λx y H Q=>∃i j,x=.int i/\y=.int j/\Q (g i j) H
def rU(g:Int->V):V->Hp->VK->Prop:=λx H Q=>∃i,x=.int i/\Q (g i) H
section
variable{pos:IC}
def OZ(ha:PE X a ta)(hb:PE X b tb){R:V->V->Hp->Prop}(I:fA X aA Y H s)
  (h:ta Y H λx H1=>tb Y H1 λy H2=>R x y H2) {f:dA->dA->DE dA}
  (hf:∀v u s2 x y H2,fA X aA Y H2 s2->aAc x v->aAc y u->R x y H2->rA (model X.prog X.w) X.A (f v u) Q X.xe s2) :
  rA (model X.prog X.w) X.A (eval a X.env) (λv s₁=>rA (model X.prog X.w) X.A (eval b X.env) (λu s₂=>rA (model X.prog X.w) X.A (f v u) Q X.xe s₂) X.xe s₁) X.xe s:=by
 refine UA (ha aA s Y H _ I h) λv s1 hz=>?_
 obtain⟨x,H1,I1,r1,q1⟩:=hz;refine UA (hb aA s1 Y H1 _ I1 q1) λu s2 hz=>?_
 obtain⟨y,H2,I2,r2,q2⟩:=hz;exact hf v u s2 x y H2 I2 r1 r2 q2
def pPa(ho:OC X (fF op) r)(ha:PE X a ta)(hb:PE X b tb):PE X (.BinOp a op b pos) (NT r ta tb):=by
 intro aA s Y H Q I h;exact wpAny_BinOp (OZ ha hb I h λv u s2 x y H2 I2 rx ry q=>ho aA s2 Y H2 x y v u Q I2 rx ry q)
def uPa(ho:lZ X (unaryOp op) r)(ha:PE X a ta):PE X (.UnaryOp op a pos) (tUn r ta):=by
 intro aA s Y H Q I h;exact UnaryOp_ (UA (ha aA s Y H _ I h) λv s1 hz=>(by obtain⟨x,H1,I1,r1,q1⟩:=hz;exact ho aA s1 Y H1 x v Q I1 r1 q1))
def pT{g:Int->Int->Int}
  (rule:∀(i j:Int) (t u:BF) (s:zA) (Q:dA->zA->Prop) (E:dA->zA->Prop),C i j->Q (.int (g i j) s.toks) { s with toks:=s.toks+1 }->rA (model X.prog X.w) X.A (f (.int i t) (.int j u)) Q E s) :
  OC X f (rI C λi j=>.int (g i j)):=by
 intro aA s Y H x y v u Q I rx ry h;obtain⟨i,j,rfl,rfl,hc,q⟩:=h;obtain⟨t,rfl⟩:=rx;obtain⟨t',rfl⟩:=ry;exact rule i j t t' s _ _ hc ⟨.int (g i j),H,I.tok _,⟨_,rfl⟩,q⟩
def D7{g:Int->Int->Int}
  (rule:∀(i j:Int) (t u:BF) (s:zA) (Q:dA->zA->Prop) (E:dA->zA->Prop),Q (.int (g i j) s.toks) { s with toks:=s.toks+1 }->rA (model X.prog X.w) X.A (f (.int i t) (.int j u)) Q E s) :
  OC X f (CK λi j=>.int (g i j)):=by
 intro aA s Y H x y v u Q I rx ry h;obtain⟨i,j,rfl,rfl,q⟩:=h;obtain⟨t,rfl⟩:=rx;obtain⟨t',rfl⟩:=ry;exact rule i j t t' s _ _ ⟨.int (g i j),H,I.tok _,⟨_,rfl⟩,q⟩
def YW{g:Int->Int->Bool}
  (rule:∀(i j:Int) (t u:BF) (s:zA) (Q:dA->zA->Prop) (E:dA->zA->Prop),Q (.bool (g i j)) s->rA (model X.prog X.w) X.A (f (.int i t) (.int j u)) Q E s) :
  OC X f (CK λi j=>.bl (g i j)):=by
 intro aA s Y H x y v u Q I rx ry h;obtain⟨i,j,rfl,rfl,q⟩:=h;obtain⟨t,rfl⟩:=rx;obtain⟨t',rfl⟩:=ry;exact rule i j t t' s _ _ ⟨.bl (g i j),H,I,rfl,q⟩
def Jb(i j:Int):Prop:=0<=j/\j<=1000000/\i.natAbs<2 ^ 64
def QY(i j:Int):Prop:=(-(2 ^ 64)<i/\i<2 ^ 64)\/(-(2 ^ 64)<j/\j<2 ^ 64)
def QY.ok(h:QY i j):IntMulOk i j:=by
 rcases h with ⟨h1,h2⟩ | ⟨h1,h2⟩
 ·exact .of_left (intBits_le_64 h1 h2)
 ·exact .of_right (intBits_le_64 h1 h2)
def wYa(k:Nat):(0:Int)<=2 ^ k:=by
 rw[two_pow_cast];exact Int.natCast_nonneg _
def aNa:OC X (fF .Add) (CK λi j=>.int (i+j)):=D7 λ_ _ _ _ _ _ _ q=>add_int q
def rNa:OC X (fF .Sub) (CK λi j=>.int (i-j)):=D7 λ_ _ _ _ _ _ _ q=>sub_int q
def mNa:OC X (fF .Mult) (rI QY λi j=>.int (i*j)):=pT λ_ _ _ _ _ _ _ hc q=>mul_int q hc.ok
def lNa:OC X (fF .Mod) (rI (λ_ j=>0<j) λi j=>.int (i % j)):=pT λi j _ _ _ _ _ hc q=>by
 have h1:(0:Int)<j:=hc;exact mod_int' (by lia) (by rw[Int.fmod_eq_emod_of_nonneg i (by lia)];exact q)
def pNa:OC X (fF .LShift) (rI Jb λi j=>.int (i*2 ^ j.toNat)):=pT λ_ _ _ _ _ _ _ hc q=>lshift_int_small hc.1 hc.2.1 hc.2.2 q
def qNa:OC X (fF .RShift) (rI (λ_ j=>0<=j) λi j=>.int (i / 2 ^ j.toNat)):=pT λi j _ _ _ _ _ hc q =>
 rshift_int hc (by rw[ip i (wYa _)];exact q)
def bNa:OC X (fF .BitAnd) (CK λi j=>.int (gU i j)):=D7 λ_ _ _ _ _ _ _ q=>and_int q
def unI{g:Int->Int}
  (rule:∀(i:Int) (t:BF) (s:zA) (Q:dA->zA->Prop) (E:dA->zA->Prop),Q (.int (g i) s.toks) { s with toks:=s.toks+1 }->rA (model X.prog X.w) X.A (f (.int i t)) Q E s) :
  lZ X f (rU λi=>.int (g i)):=by
 intro aA s Y H x v Q I rx h;obtain⟨i,rfl,q⟩:=h;obtain⟨t,rfl⟩:=rx;exact rule i t s _ _ ⟨.int (g i),H,I.tok _,⟨_,rfl⟩,q⟩
def bZa:lZ X (unaryOp .USub) (rU λi=>.int (-i)):=unI λ_ _ _ _ _ q=>neg_int q
end
section
variable{pos:IC}
def Ce(I:fA X aA Y H s)(q:Q (.bl k) H)(e:k=k'):EP X aA Y Q (.bool k') s:=by
 subst e;exact⟨.bl k,H,I,rfl,q⟩
def kNa:OC X (gE .Lt) (CK λi j=>.bl (decide (i<j))):=YW λ_ _ _ _ _ _ _ q=>wb q
def jNa:OC X (gE .LtE) (CK λi j=>.bl (decide (i<=j))):=YW λ_ _ _ _ _ _ _ q=>le_int q
def gNa:OC X (gE .Gt) (CK λi j=>.bl (decide (j<i))):=YW λ_ _ _ _ _ _ _ q=>gt_int q
def fNa:OC X (gE .GtE) (CK λi j=>.bl (decide (j<=i))):=YW λ_ _ _ _ _ _ _ q=>ge_int q
def iNa:OC X (gE .Is) (λx y H Q=>y=.pA/\Q (.bl (decide (x=.pA))) H):=by
 intro aA s Y H x y v u Q I rx ry h;obtain⟨rfl,q⟩:=h;cases ry;refine is_none_gen (Ce I q ?_)
 cases x<;>first
  | (cases rx;rfl)
  | (obtain⟨t,rfl⟩:=rx;rfl)
def nNa:OC X (gE .IsNot) (λx y H Q=>y=.pA/\Q (.bl (!decide (x=.pA))) H):=by
 intro aA s Y H x y v u Q I rx ry h;obtain⟨rfl,q⟩:=h;cases ry;refine isnot_none_gen (Ce I q ?_)
 cases x<;>first
  | (cases rx;rfl)
  | (obtain⟨t,rfl⟩:=rx;rfl)
def cPa(ho:OC X (gE op) r)(ha:PE X a ta)(hb:PE X b tb)(hm:zN op b=false):PE X (.Compare a [op] [b] pos) (NT r ta tb):=by
 intro aA s Y H Q I h;exact wpAny_Compare1 (OZ ha hb I h λv u s2 x y H2 I2 rx ry q=>ho aA s2 Y H2 x y v u Q I2 rx ry q) hm
def Yn(t:TE):TT:=λY H Q=>t Y H λx H'=>∃k,x=.bl k/\Q k H'
def aSa(ho:OC X (gE op) r)(ha:PE X a ta)(hb:PE X b tb)(hm:zN op b=false):PT X (.Compare a [op] [b] pos) (Yn (NT r ta tb)):=by
 intro aA s Y H Q I h
 refine wpAny_isTrue_Compare1 (UA (ha aA s Y H _ I h) λv s1 ⟨x,H1,I1,r1,q1⟩=>UA (hb aA s1 Y H1 _ I1 q1) λu s2 ⟨y,H2,I2,r2,q2⟩ =>
  UA (ho aA s2 Y H2 x y v u _ I2 r1 r2 q2) λc s3 ⟨z,H3,I3,r3,k,e,q3⟩=>?_) hm
 subst e;cases r3;exact bM ⟨H3,I3,q3⟩
def R8(r r':R2)(ta tb tc:TE):TE:=λY H Q=>ta Y H λx H1=>tb Y H1 λy H2=>r x y H2 λz H3=>∃k,z=.bl k /\
 (if k=true then tc Y H3 λw' H4=>r' y w' H4 Q else Q (.bl false) H3)
def bPa(ho:OC X (gE op) r)(sJ:OC X (gE xC) r')(ha:PE X a ta)(hb:PE X b tb)(hc:PE X c tc)
  (hm:lastMarks [op,xC] [b,c]=false:=by with_unfolding_all rfl):PE X (.Compare a [op,xC] [b,c] pos) (R8 r r' ta tb tc):=by
 intro aA s Y H Q I h
 refine Compare_chain (UA (ha aA s Y H _ I h) λv s1 ⟨x,H1,I1,r1,q1⟩=>chain_link (UA (hb aA s1 Y H1 _ I1 q1) λu s2 ⟨y,H2,I2,r2,q2⟩ =>
  UA (ho aA s2 Y H2 x y v u _ I2 r1 r2 q2) λd s3 ⟨z,H3,I3,r3,k,e,q3⟩=>?_)) hm
 subst e;cases r3;refine bM ?_
 cases k with
 |false=>exact ite_ff ⟨.bl false,H3,I3,rfl,q3⟩
 |true=>exact ite_tt (chain_last (UA (hc aA s3 Y H3 _ I3 q3) λw' s4 hz=>(by obtain⟨z',H4,I4,r4,q4⟩:=hz;exact sJ aA s4 Y H4 y z' u w' Q I4 r2 r4 q4)))
def zRa(ho:OC X (gE op) r)(sJ:OC X (gE xC) r')(ha:PE X a ta)(hb:PE X b tb)(hc:PE X c tc)
  (hm:lastMarks [op,xC] [b,c]=false:=by with_unfolding_all rfl):PT X (.Compare a [op,xC] [b,c] pos) (Yn (R8 r r' ta tb tc)):=by
 intro aA s Y H Q I h
 refine isTrue_chain (UA (ha aA s Y H _ I h) λv s1 ⟨x,H1,I1,r1,q1⟩=>test_link (UA (hb aA s1 Y H1 _ I1 q1) λu s2 ⟨y,H2,I2,r2,q2⟩ =>
  UA (ho aA s2 Y H2 x y v u _ I2 r1 r2 q2) λd s3 ⟨z,H3,I3,r3,k,e,q3⟩=>?_)) hm
 subst e;cases r3;refine bM ?_
 cases k with
 |false =>
  obtain⟨k',e',q'⟩:=q3;cases e';exact ite_ff ⟨H3,I3,q'⟩
 |true =>
  refine ite_tt (test_last (UA (hc aA s3 Y H3 _ I3 q3) λw' s4 ⟨z',H4,I4,r4,q4⟩=>UA (sJ aA s4 Y H4 y z' u w' _ I4 r2 r4 q4) λd' s5 hz=>?_));obtain⟨z2,H5,I5,r5,k2,e2,q5⟩:=hz;subst e2;cases r5;exact bM ⟨H5,I5,q5⟩
def KU(K:iA)(x:V)(H:Hp)(k:Bool):Prop :=
 match x with
 |.pA=>k=false
 |.bl b=>k=b
 |.int i=>k=(i != 0)
 |.str y=>y.length<=sizeLine/\k=((y.length:Int) != 0)
 |.ref p=>(∃xs,zB K H p xs/\k=!xs.isEmpty)\/(∃xs,QC K H p xs/\k=!xs.isEmpty)\/∃RB,H p=some (.dK RB)/\k=!RB.isEmpty
 |_=>False
def qDa(r:KV RB vs):(!vs.isEmpty)=!RB.isEmpty:=by
 cases r<;>rfl
def Ag(r:aAb xs cA):(!cA.toArray.isEmpty)=!xs.isEmpty:=by
 cases r<;>simp
def vO:(sizeLine:Nat)<2 ^ 63:=by rw[pR];decide
def uo:yu X (λx H Q=>∃k,KU X.K x H k/\Q k H):=by
 intro aA s Y H x v Q I rx h;obtain⟨k,e,q⟩:=h;have hl:=vO;have hs:sizeLine=16777216:=pR
 cases x with
 |pA =>
  cases rx;have e':k=false:=e;subst e';exact truthy_none ⟨H,I,q⟩
 |bl b =>
  cases rx;have e':k=b:=e;subst e';exact bM ⟨H,I,q⟩
 |int i =>
  obtain⟨t,rfl⟩:=rx;have e':k=(i != 0):=e;subst e';exact PySem.P.truthy_int ⟨H,I,q⟩
 |str y =>
  obtain⟨t,rfl⟩:=rx;obtain⟨hy,e'⟩:y.length<=sizeLine/\k=((y.length:Int) != 0):=e;subst e';exact PySem.P.truthy_str (by lia) ⟨H,I.tok _,q⟩
 |ref p =>
  cases rx;have e':(∃xs,zB X.K H p xs/\k=!xs.isEmpty)\/(∃xs,QC X.K H p xs/\k=!xs.isEmpty)\/∃RB,H p=some (.dK RB)/\k=!RB.isEmpty:=e
  rcases e' with ⟨xs,hx,e'⟩ | ⟨xs,hx,e'⟩ | ⟨RB,hx,e'⟩
  ·subst e';obtain⟨cA,r,pl,hz⟩:=I.list hx;have mB:=r.length;exact wpAny_truthy_list pl.isList (by simp only[gD];lia) ⟨H,I.tok _,by rw[Ag r];exact q⟩
  ·subst e';obtain⟨cA,r,pl,hz⟩:=I.tuple hx;have mB:=r.length;exact truthy_tuple pl (by simp only[gD];lia) ⟨H,I.tok _,by rw[Ag r];exact q⟩
  ·subst e';obtain⟨hz,hS,vs,r,m⟩:RB.length<=sizeLine/\(p==sysModules)=false/\∃vs,KV RB vs/\s.heap.DictOf (rQ X.prog X.w) p vs:=I.RA p _ hx
   have mB:RB.length=vs.length:=Mr r;exact wpAny_truthy_dict hS m (by lia) ⟨H,I.tok _,by rw[qDa r];exact q⟩
 |_=>exact(show False from e).elim
def ik(ha:PE X a ta)(he:∀whole,isTrue a X.env whole=(do let v <- whole;standAt a.pos;holding [v] (truthy v))) :
  PT X a (λY H Q=>ta Y H λx H'=>∃k,KU X.K x H' k/\Q k H'):=by
 intro aA s Y H Q I h;exact isTrue_plain (UA (ha aA s Y H _ I h) λv s1 hz=>(by obtain⟨x,H1,I1,r1,q1⟩:=hz;exact uo aA s1 Y H1 x v Q I1 r1 q1)) (he _)
def aAt(r:aAb [x] us):∃u,us=[u]/\aAc x u:=by
 cases r with
 |cons r1 r2=>cases r2;exact⟨_,rfl,r1⟩
def aAH(r:aAb [x,y] us):∃u w',us=[u,w']/\aAc x u/\aAc y w':=by
 cases r with
 |cons r1 r2 =>
  cases r2 with
  |cons r3 r4=>cases r4;exact⟨_,_,rfl,r1,r3⟩
def Ww:DF X (.builtin "abs") (λxs H Q=>∃i,xs=[.int i]/\Q (.int (if i<0 then -i else i)) H):=by
 intro aA s Y H xs us Q I r h;obtain⟨i,rfl,q⟩:=h;obtain⟨u,rfl,t,rfl⟩:=aAt r;exact call_abs_int λu tk=>⟨.int (if i<0 then -i else i),H,I.tok _,⟨_,rfl⟩,q⟩
def bx(hc:X.calm=true):DF X (.builtin "max") (λxs H Q=>∃i j,xs=[.int i,.int j]/\Q (.int (if j > i then j else i)) H):=by
 intro aA s Y H xs us Q I r h;obtain⟨i,j,rfl,q⟩:=h;obtain⟨u,w',rfl,⟨t,rfl⟩,⟨t',rfl⟩⟩:=aAH r;refine max_two_ints (I.ok.hd hc) λh' tk k=>⟨_,H,I.kept k, ?_,q⟩
 by_cases hj:j > i
 ·rw[KA hj,KA hj];exact⟨_,rfl⟩
 ·rw[if_neg hj,if_neg hj];exact⟨_,rfl⟩
def ox(hc:X.calm=true):DF X (.builtin "min") (λxs H Q=>∃i j,xs=[.int i,.int j]/\Q (.int (if j<i then j else i)) H):=by
 intro aA s Y H xs us Q I r h;obtain⟨i,j,rfl,q⟩:=h;obtain⟨u,w',rfl,⟨t,rfl⟩,⟨t',rfl⟩⟩:=aAH r;refine min_two_ints (I.ok.hd hc) λh' tk k=>⟨_,H,I.kept k, ?_,q⟩
 by_cases hj:j<i
 ·rw[KA hj,KA hj];exact⟨_,rfl⟩
 ·rw[if_neg hj,if_neg hj];exact⟨_,rfl⟩
def Zc:DF X (.type "int") (λxs H Q=>(∃i,xs=[.int i]/\Q (.int i) H)\/∃k,xs=[.bl k]/\Q (.int (if k then 1 else 0)) H):=by
 intro aA s Y H xs us Q I r h;rcases h with ⟨i,rfl,q⟩ | ⟨k,rfl,q⟩
 ·obtain⟨u,rfl,t,rfl⟩:=aAt r;exact call_int_int ⟨.int i,H,I,⟨_,rfl⟩,q⟩
 ·obtain⟨u,rfl,r1⟩:=aAt r;cases r1;exact call_int_bool ⟨.int (if k then 1 else 0),H,I.tok _,⟨_,rfl⟩,q⟩
end
structure HN(h:TB)(x dx C:kA)(mA:bA->Option dA):Prop where
 obj:h.get? x=some (xN C dx)
 ns:h.Ns1 dx mA
 ne:dx≠x
def mIa{h:TB}(n:h.Ns1 dx mA):∃od,h.get? dx=some od/\∀name,qY name od=some (mA name):=by
 obtain⟨o,es,ep,ho,hd,hk,_,hm⟩:=n;refine⟨o,ho,λname=>?_⟩;have e:=hm name;unfold nsFind findBy at e;rw[<- Array.find?_toList] at e;unfold qY;rw[hd];dsimp only;split
 ·rename_i y q;rw[q] at e;exact congrArg some e
 ·rename_i q;rw[q] at e
  have a:es.toList.any (·.refKey)=false:=by(rw[List.any_eq_false];intro y hy;obtain⟨z,t,aW⟩:=hk y (TX.mp hy);simp[DictEntry.refKey,aW])
  have a':¬es.toList.any (·.refKey)=true:=by rw[a];exact fD
  rw[if_neg a'];exact congrArg some e
def HN.look(I:HN h x dx C mA):∃od,PySem.W.InstAt h x (xN C dx) C (some od)/\∀name,qY name od=some (mA name) :=
 let ⟨od,ho,hl⟩:=mIa I.ns
 ⟨od,⟨I.obj,rfl,rfl,ho⟩,hl⟩
section
variable{K:iA}
def aAW(X:K.In s.heap)(I:HN s.heap x dx C mA)(hg:ZQ K C name=true)(hh:dU K C=true)
  (ha:WG K (.ref C) name=some none) (hv:mA name=some v) (jQ:jr v=true) (h:Q v { s with toks:=s.toks+1 }) :
  rA (model prog w) A (getAttr (.ref x) name expr) Q E s:=by
 obtain⟨od,J,hl⟩:=I.look;exact PySem.W.get_value X J (R9 hg).1 (PySem.W.findObj_own hh ha rfl (by rw[hl,hv])) jQ h
def R_(X:K.In s.heap)(I:HN s.heap x dx C mA)(hg:ZQ K C name=true)
  (hf:WG K (.ref C) name=some (some (.ref f))) (ht:tU K (.ref f)=true) (hv:mA name=none) (h:Q (.ref f,[.ref x]) s) :
  rA (model prog w) A (getMethod (.ref x) name pl) Q E s:=by
 obtain⟨od,J,hl⟩:=I.look;exact PySem.W.method_fn X J (R9 hg).1 (R9 hg).2 hf (beq_iff_eq.mp ht) (by show(qY name od).map (·.isSome)=some false;rw[hl,hv];rfl) h
def yUa(X:K.In s.heap)(I:HN s.heap x dx C mA)
  (hs:WG K (.ref C) "__setattr__"=some (some (.builtin "object.__setattr__"))) (hp:aa K C=true) (ht:Ga K C name=some none) (hh:dU K C=true)
  (hw:Ta mA ns) (vB:ns.length<=sizeLine)
  (h:∀h',HN h' x dx C (λy=>if y=name then some v else mA y)->SF dx s.heap h'->Q () { s with heap:=h',toks:=s.toks+2 }) :
  rA (model prog w) A (setAttr (.ref x) name v) Q E s:=by
 obtain⟨od,J,hl⟩:=I.look;refine PySem.W.set_plain X J hs (PySem.W.osa_open (s:={ s with toks:=s.toks+1 }) (r:=none) X J hp ht λb=>?_);obtain⟨cd,hc,ME⟩:=PySem.W.any_some hh;have hx:s.heap.get? x=some ⟨.ref C,some dx,.plain,#[]⟩:=I.obj;refine gA (EA (gA (gA (wpAny_loadPart hx (gA (PySem.W.Looks.here (s:={ s with toks:=s.toks+1 }) (PySem.W.looks_clsIn X hc) ?_))))));rw[ME];refine EA (a:=some dx) (gA (EA (gA ?_)));refine wpAny_nsSet1 (s:={ s with toks:=s.toks+1 }) I.ns λh' fW vK=>?_
 obtain⟨oD,esD,epD,hoD,hdD,hcD⟩:=fW.count (PySem.Within.cons name v hw);refine gA (wpAny_lookBehind hoD (by rw[hdD];exact pastItsLine_dict (EC hcD (by rw[YB];lia))) ?_);exact EA (h _ ⟨(vK.2 _ (gF I.ne)).trans I.obj,fW,I.ne⟩ vK)
def xIa(X:K.In s.heap)(hm:lY K C=true)
  (hi:WG K (.ref C) "__init__"=some (some (.ref f))) (hf:PySem.W.typeIn K (.ref f)=some (.type "function"))
  (h:mM (model prog w) (A.under (.builtin "type.__call__" ⟨.ref C::vs,kw⟩)) (.call (.ref f) ⟨.ref (s.heap.objs.size+1)::vs,kw⟩) (PySem.W.InitBack (s.heap.objs.size+1) R)
   { s with heap:=(s.heap.push cM).push (xN C s.heap.objs.size) }) :
  mM (model prog w) A (.call (.ref C) ⟨vs,kw⟩) R s:=by
 obtain⟨hh,g,d,t,os⟩:=s;exact PySem.W.make_core (PySem.W.makes_of X hm) (PySem.W.looks_findIn X hi) (λself=>PySem.W.bind_fn X self hf) (.inl rfl) h
end
noncomputable def sF(f:bA)(v:V):List (bA×V)->List (bA×V)
 |[]=>[(f,v)]
 | (g,x)::r=>if g=f then(g,v)::r else(g,x)::sF f v r
theorem yi(f g:bA)(v:V):∀fs:List (bA×V),(sF f v fs).lookup g=if g=f then some v else fs.lookup g
 |[]=>by
  show SK g [(f,v)]=_;by_cases h:g=f
  ·have hb:(g==f)=true:=beq_iff_eq.mpr h;simp only[SK,hb,KA h]
  ·have hb:(g==f)=false:=sN.mpr h;simp only[SK,hb,if_neg h]
 | (k,x)::r=>by
  have ih:=yi f g v r;rw[show sF f v ((k,x)::r)=(if k=f then(k,v)::r else(k,x)::sF f v r) from rfl];by_cases hk:k=f
  ·rw[KA hk];by_cases h:g=k
   ·have hb:(g==k)=true:=beq_iff_eq.mpr h;simp only[SK,hb,KA (h.trans hk)]
   ·have hb:(g==k)=false:=sN.mpr h;simp only[SK,hb,if_neg (λe:g=f=>h (e.trans hk.symm))]
  ·rw[if_neg hk];by_cases h:g=k
   ·have hb:(g==k)=true:=beq_iff_eq.mpr h;simp only[SK,hb,if_neg (λe:g=f=>hk (h.symm.trans e))]
   ·have hb:(g==k)=false:=sN.mpr h;simp only[SK,hb];exact ih
theorem T6(f:bA)(v:V):∀fs:List (bA×V),f∈(sF f v fs).map (·.1)/\∀g,g∈fs.map (·.1)->g∈(sF f v fs).map (·.1)
 |[]=>⟨by simp[sF],λg h=>by simp at h⟩
 | (k,x)::r=>by
  obtain⟨i1,i2⟩:=T6 f v r;rw[show sF f v ((k,x)::r)=(if k=f then(k,v)::r else(k,x)::sF f v r) from rfl];by_cases hk:k=f
  ·rw[KA hk];subst hk;exact⟨by simp,λg h=>by simpa using h⟩
  ·rw[if_neg hk];refine⟨?_,λg h=>?_⟩
   ·rw[AB];exact WC _ i1
   ·rw[AB] at h ⊢;rcases DC.mp h with e | e
    ·exact DC.mpr (.inl e)
    ·exact WC _ (i2 g e)
theorem ki(f:bA)(v:V):∀fs:List (bA×V),(sF f v fs).length<=fs.length+1
 |[]=>by simp[sF]
 | (k,x)::r=>by
  have ih:=ki f v r;rw[show sF f v ((k,x)::r)=(if k=f then(k,v)::r else(k,x)::sF f v r) from rfl];by_cases hk:k=f
  ·rw[KA hk,YB,YB];lia
  ·rw[if_neg hk,YB,YB];lia
def aH.some_of(r:aH (some v) o):∃u,o=some u/\aAc v u:=by
 cases o with
 |none=>exact(show False from r).elim
 |some u=>exact⟨u,rfl,r⟩
def aH.none_of(r:aH none o):o=none:=by
 cases o with
 |none=>rfl
 |some u=>exact(show False from r).elim
def S'(r:aAc v u):jr u=true:=by
 cases v with
 |pA=>cases (show u=Value.none from r);rfl
 |bl b=>cases (show u=Value.bool b from r);rfl
 |int i=>obtain⟨t,e⟩:=(show ∃t,u=Value.int i t from r);cases e;rfl
 |str x=>obtain⟨t,e⟩:=(show ∃t,u=Value.str x t from r);cases e;rfl
 |ref a=>cases (show u=Value.ref a from r);rfl
 |ty n=>cases (show u=Value.type n from r);rfl
section
variable{fs fs':List (bA×V)}
def V5(RA:ND P w H h)(e:H a=some (.ins C dx fs)):∃mA,HN h a dx C mA/\(∀f,aH (fs.lookup f) (mA f))/\Ta mA (fs.map (·.1))/\fs.length<=1000/\H dx=some (.own a):=by
 obtain⟨d,z,ne,ob,mA,n,r,q⟩:=(show lD P w H h a (.ins C dx fs) from RA a _ e)
 exact⟨mA,⟨ob,n,ne⟩,r,q,z,d⟩
end
structure yG(K:iA)(C:kA):Prop where
 pg:ZQ K C Str.empty=true
 hd:dU K C=true
 po:aa K C=true
 sa:WG K (.ref C) "__setattr__"=some (some (.builtin "object.__setattr__"))
def yG.get{K:iA}(c:yG K C)(f:bA):ZQ K C f=true:=c.pg
def vI(K:iA)(C:kA)(f:bA):Prop:=WG K (.ref C) f=some none
def vI.gYa{K:iA}(n:vI K C f):Ga K C f=some none:=by
 unfold Ga;rw[show WG K (.ref C) f=some none from n];rfl
structure Meth(K:iA)(C:kA)(m:bA)(f:kA):Prop where
 at_:WG K (.ref C) m=some (some (.ref f))
 fn:tU K (.ref f)=true
 kp:qI K (.ref f)=true
section
variable{E:dA->zA->Prop}
def S_(I:fA X aA Y H s)(e:H a=some (.ins C dx fs))(c:yG X.K C)(n:vI X.K C f)(l:fs.lookup f=some v)
  (h:∀u s',fA X aA Y H s'->aAc v u->Q u s'):rA (model X.prog X.w) A (getAttr (.ref a) f b) Q E s:=by
 obtain⟨mA,O,r,_,_,_⟩:=V5 I.RA e;obtain⟨u,hu,ru⟩:=aH.some_of (o:=mA f) (by rw[<- l];exact r f);exact aAW I.QE O (c.get f) c.hd n hu (S' ru) (h u _ (I.tok _) ru)
def Ve(I:fA X aA Y H s)(e:H a=some (.ins C dx fs))(c:yG X.K C)(k:Meth X.K C m g)(l:fs.lookup m=none)
  (h:Q (.ref g,[.ref a]) s):rA (model X.prog X.w) A (getMethod (.ref a) m pl) Q E s:=by
 obtain⟨mA,O,r,_,_,_⟩:=V5 I.RA e;have hn:mA m=none:=aH.none_of (by rw[<- l];exact r m);exact R_ I.QE O (c.get m) k.at_ k.fn hn h
def aVa(I:fA X aA Y H s)(e:H a=some (.ins C dx fs))(c:yG X.K C)(n:vI X.K C f)(hl:fs.length<1000)(ry:aAc y u)
  (h:∀s',fA X aA Y (CA H a (.ins C dx (sF f y fs))) s'->Q () s'):rA (model X.prog X.w) A (setAttr (.ref a) f u) Q E s:=by
 obtain⟨mA,O,r,wi,_,ho⟩:=V5 I.RA e;have hz:(fs.map (·.1)).length<=sizeLine:=by rw[nA,pR];lia
 refine yUa I.QE O c.sa c.po n.gYa c.hd wi hz λh' O' sb=>h _ ?_
 have hd:∃o,h'.get? dx=some o:=let ⟨o,_,_,e',_⟩:=O'.ns;⟨o,e'⟩
 refine I.write (x:=a) (e:=dx) (by rw[e];exact True.intro) (.inr ho) (λb q hb z=>(sb.2 b hb).trans z) hd ?_;refine⟨by rw[yB O.ne];exact ho, ?_,O.ne,O'.obj,_,O'.ns,λg=>?_,λg hg=>?_⟩
 ·have:=ki f y fs;lia
 ·show aH ((sF f y fs).lookup g) (if g=f then some u else mA g);rw[yi];by_cases q:g=f
  ·rw[KA q,KA q];exact ry
  ·rw[if_neg q,if_neg q];exact r g
 ·by_cases q:g=f
  ·rw[q];exact(T6 f y fs).1
  ·refine(T6 f y fs).2 g (wi g λz=>hg ?_);show(if g=f then some u else mA g)=none;rw[if_neg q];exact z
def fA.made(I:fA X aA Y H s):fA X aA Y (CA (CA H s.heap.objs.size (.own (s.heap.objs.size+1))) (s.heap.objs.size+1) (.ins C s.heap.objs.size []))
  { s with heap:=(s.heap.push cM).push (xN C s.heap.objs.size) }:=by
 have e1:(s.heap.push cM).get? s.heap.objs.size=some cM:=XD s.heap rfl
 have e2:((s.heap.push cM).push (xN C s.heap.objs.size)).get? (s.heap.objs.size+1)=some (xN C s.heap.objs.size):=by
  have:=XD (s.heap.push cM) (o:=xN C s.heap.objs.size) rfl
  rwa[rY] at this
 have e3:(s.heap.push cM).Ns s.heap.objs.size (λ_=>none):=⟨cM,#[],_,e1,rfl,(λe he=>absurd he (by simp)),λ_=>rfl⟩
 have I1:=I.laid (a:=s.heap.objs.size) (o:=.own (s.heap.objs.size+1)) (h':=s.heap.push cM) (t':=s.toks) (λb u q=>oC _ q) (jB _) ⟨_,e1⟩;refine I1.laid (a:=s.heap.objs.size+1) (o:=.ins C s.heap.objs.size []) (t':=s.toks) (λb u q=>oC _ q) (RK (rY _ _)) ?_;have ne:s.heap.objs.size≠s.heap.objs.size+1:=MD (uN _);refine⟨by rw[yB ne,VC],mI _,ne,e2,λ_=>none,(Heap.Ns1.of_empty e3).at λo q=>oC _ q,λ_=>True.intro,λy hy=>absurd rfl hy⟩
def Wu(hb:attributeBase e f env (eval e env)=eval e env)
  (h:rA (model prog w) A (eval e env) (λo s₁=>rA (model prog w) A (getAttr o f true) Q E s₁) E s):rA (model prog w) A (eval (.Attribute e f pos) env) Q E s :=
 Attribute_any_ h (by rw[arm_eval_Attribute,hb])
end
def kXa(K:iA)(ta:TE)(f:bA):TE:=λY H Q=>ta Y H λx H1=>∃a C dx fs v,x=.ref a/\H1 a=some (.ins C dx fs)/\yG K C/\vI K C f/\fs.lookup f=some v/\Q v H1
def fUa(K:iA)(ta tv:TE)(f:bA):TS:=λD Y H=>tv Y H λy H1=>ta Y H1 λx H2=>∃a C dx fs,x=.ref a/\H2 a=some (.ins C dx fs)/\yG K C/\vI K C f/\fs.length<1000 /\
 D.nx Y (CA H2 a (.ins C dx (sF f y fs)))
section
variable{ta tv:TE}
def gPa(he:PE X e ta)(hb:attributeBase e f X.env (eval e X.env)=eval e X.env):PE X (.Attribute e f pos) (kXa X.K ta f):=by
 intro aA s Y H Q I h;refine Wu hb (UA (he aA s Y H _ I h) λu s1 hz=>?_);obtain⟨x,H1,I1,rx,a,C,dx,fs,v,ex,ea,c,n,l,q⟩:=hz;subst ex;obtain rfl:u=Value.ref a:=rx;exact S_ I1 ea c n l λu' s2 I2 ru=>⟨v,H1,I2,ru,q⟩
def lRa(ha:PE X o ta)(hv:PE X value tv)(hs:swapsWith value (some (.Attribute o f pos')) pos.line X.env=pure false):PS X (.Assign [.Attribute o f pos'] value pos) (fUa X.K ta tv f):=by
 intro aA s Y H D I h;refine plainObj_wpAny_Assign_Attribute (UA (hv aA s Y H _ I h) λu s1 ⟨y,H1,I1,ry,q⟩=>UA (ha aA s1 Y H1 _ I1 q) λov s2 hz=>?_) hs;obtain⟨x,H2,I2,rx,a,C,dx,fs,ex,ea,c,n,l,q2⟩:=hz;subst ex;obtain rfl:ov=Value.ref a:=rx;exact aVa I2 ea c n l ry λs3 I3=>⟨Y,_,I3,q2⟩
end
structure YC(k:Nat)(A:RD):Prop where
 hd:A.handled=none
 dp:A.depth+3*k+5<recursionLimit
 un:A.units+16*k+200<cLine
 gs:A.guards=some []
def YC.mono(r:YC k A)(h:j<=k):YC j A:=⟨r.hd,by have:=r.dp;lia,by have:=r.un;lia,by first | exact r.gs | simpa[Na,lR,bb,FY,pushGuards,guardIds] using r.gs⟩
theorem YC.deeper(r:YC (k+1) A)(env:Env):YC k (A.deeper env) :=
 ⟨r.hd,by have:=r.dp;show A.depth+1+3*k+5<_;lia,by have:=r.un;show A.units+3+16*k+200<_;lia,by first | exact r.gs | simpa[Na,lR,bb,FY,pushGuards,guardIds] using r.gs⟩
def wIa{A:RD}:(A.under (.builtin "type.__call__" ⟨.ref C::us,kw⟩)).depth=A.depth+1:=by
 first | rfl | simp[lR,Code.weight,Code.isCreation,FY,Code.isCaller,Code.frames,Va,guardIds]
def yIa{A:RD}:(A.under (.builtin "type.__call__" ⟨.ref C::us,kw⟩)).units=A.units+1:=by
 first | rfl | simp[lR,Code.cUnits,Code.frames,Va]
def YC.make(r:YC (k+1) A)(C:kA)(us:List dA)(kw:List (bA×dA)):YC k (A.under (.builtin "type.__call__" ⟨.ref C::us,kw⟩)) :=
 ⟨r.hd,by have:=r.dp;rw[wIa];lia,by have:=r.un;rw[yIa];lia,by first | exact r.gs | simpa[Na,lR,bb,FY,pushGuards,guardIds] using r.gs⟩
theorem YC.depth(r:YC k A):A.depth<recursionLimit:=by have:=r.dp;lia
theorem YC.units(r:YC k A):A.units+64<cLine:=by have:=r.un;lia
def MQ:TA:=λ_ H Q=>Q [] H
def KQ(ta:TE)(tr:TA):TA:=λY H Q=>ta Y H λx H1=>tr Y H1 λxs H2=>Q (x::xs) H2
section
variable{pos:IC}
def BO:PA X [] MQ:=λ_ _ _ _ H Q I h=>Calls.spliced_nil ⟨[],H,I,.nil,h⟩
def bN(ha:PE X e te)(hr:PA X es t)(hs:zC (e::es) X.env=(false,eval e X.env)::zC es X.env:=by rfl):PA X (e::es) (KQ te t):=by
 intro pos aA s Y H Q I h;rw[hs];show rA _ _ (spliced ((false,eval e X.env)::yF pos (zC es X.env))) _ _ s;refine Calls.spliced_cons (UA (ha aA s Y H _ I h) λu s1 hz=>?_);obtain⟨x,H1,I1,r1,q1⟩:=hz;exact UA (hr pos aA s1 Y H1 _ I1 q1) λus s2 hz=>(by obtain⟨xs,H2,I2,r2,q2⟩:=hz;exact⟨x::xs,H2,I2,.cons r1 r2,q2⟩)
def xXa(t:TA):TE:=λY H Q=>t Y H λxs H1=>xs.length<=sizeLine/\∀p,H1 p=none->Q (.ref p) (CA H1 p (.t xs))
def nXa(t:TA):TE:=λY H Q=>t Y H λxs H1=>xs.length<=sizeLine/\∀p,H1 p=none->Q (.ref p) (CA H1 p (.l xs))
def tPa{x1}(h:PA X es t):PE X (.Tuple es x1 pos) (xXa t):=by
 intro aA s Y H Q I hq;refine wpAny_Tuple_spliced (UA (h pos aA s Y H _ I hq) λus s1 ⟨xs,H1,I1,r,z,q⟩=>⟨by rw[<- r.length];exact z, ?_⟩);have hf:H1 s1.heap.objs.size=none:=I1.RA.fresh (jB _);refine⟨.ref s1.heap.objs.size,CA H1 s1.heap.objs.size (.t xs),I1.laid (t':=s1.toks) (λb u e=>oC _ e) (jB _) ?_,rfl,q _ hf⟩;exact⟨z,us,r,⟨_,XD _ rfl,rfl,_,rfl⟩⟩
def jPa(h:PA X es t):PE X (.List es pos) (nXa t):=by
 intro aA s Y H Q I hq;refine wpAny_List_spliced (UA (h pos aA s Y H _ I hq) λus s1 ⟨xs,H1,I1,r,z,q⟩=>⟨by rw[<- r.length];exact z, ?_⟩);have hf:H1 s1.heap.objs.size=none:=I1.RA.fresh (jB _);refine⟨.ref s1.heap.objs.size,CA H1 s1.heap.objs.size (.l xs),I1.laid (t':=s1.toks) (λb u e=>oC _ e) (jB _) ?_,rfl,q _ hf⟩;exact⟨z,us,0,r,XD _ rfl⟩
end
abbrev Sp:=List V->Hp->VK->XK->Prop
abbrev FN:=List Env->Hp->zA->XK->dA->zA->Prop
structure GN(P:KC)(w:WB)(K:iA)(mg:bA->Option dA)(base:TB)(A:RD)(outer:List Env)(s:zA)(H:Hp):Prop where
 frames:A.frames=some outer
 mod:Mod K mg base
 bs:∀b o,base.get? b=some o->s.heap.get? b=some o/\H b=none
 wM:base.objs.size<=s.heap.objs.size
 DI:s.heap.FunFrames base outer
 aO:∀b∈iJ outer,H b=none
 RA:ND P w H s.heap
 bare:lM s.gens
def CE(outer:List Env)(P:KC)(w:WB)(H:Hp)(s:zA)(Q:VK)(u:dA)(s':zA):Prop :=
 ∃v H',s'.os=s.os/\lM s'.gens/\Un (iJ outer) [] H H' s.heap s'.heap/\ND P w H' s'.heap/\aAc v u/\Q v H'
def CR(CX:FN)(outer:List Env)(P:KC)(w:WB)(H:Hp)(s:zA)(Q:VK)(E:XK)(r:Result)(s':zA):Prop :=
 match r with
 |.ok (.ret u)=>CE outer P w H s Q u s'
 |.ok _=>False
 |.error e=>CX outer H s E e s'
structure VF(P:KC)(w:WB)(K:iA)(mg:bA->Option dA)(base:TB)(CX:FN)(k:Nat)(f:kA)(fd:DH)(ps:List bA)(sp:Sp):Prop where
 len:∀vs H Q E,sp vs H Q E->vs.length=ps.length
 run:∀(A:RD) (outer:List Env) (s:zA) (H:Hp) (args:Args) (us:List dA) (vs:List V) (Q:VK) (E:XK),YC k A->GN P w K mg base A outer s H->PY s fd args (ps.zip us)->aAb vs us->sp vs H Q E ->
  mM (model P w) A (.call (.ref f) args) (CR CX outer P w H s Q E) s
def GN.make{K:iA}(e:GN P w K mg base A outer s H)(C:kA)(us:List dA)(kw:List (bA×dA)) :
  GN P w K mg base (A.under (.builtin "type.__call__" ⟨.ref C::us,kw⟩)) outer s H:=⟨by first | exact e.frames | (simpa[lR,Code.envs,Va,pushEnvs] using e.frames),e.mod,e.bs,e.wM,e.DI,e.aO,e.RA,e.bare⟩
section
variable{X:Cx}{aA:List (kA×IB)}{Y:St}{H:Hp}{s s':zA}
def fA.eJ(I:fA X aA Y H s):GN X.prog X.w X.K X.mg X.base X.A X.stack s H :=
 ⟨I.ok.frames,I.ok.mod,I.bs,EC I.ok.wM I.sz,I.stack,I.dm,I.RA,I.bare⟩
def fA.after(I:fA X aA Y H s)(h:CE X.stack X.prog X.w H s Q u s'):EP X aA Y Q u s':=by
 obtain⟨v,H',os,bare,un,RA,r,q⟩:=h;obtain⟨hh,g,d,t,os'⟩:=s';obtain rfl:os'=s.os:=os;exact⟨v,H',I.call (h':=hh) (g':=g) (d':=d) (t':=t) (ch:=[]) un RA bare (λb z=>absurd z (by simp)),r,q⟩
end
def gXa(sp:Sp)(xE:List V)(E:XK)(t:TA):TE:=λY H Q=>t Y H λvs H1=>sp (vs++xE) H1 Q E
def U8(C:kA)(m:bA)(sp:Sp)(xE:List V)(E:XK)(ta:TE)(t:TA):TE:=λY H Q=>ta Y H λx H1=>∃a dx fs,x=.ref a/\H1 a=some (.ins C dx fs)/\fs.lookup m=none /\
 t Y H1 λvs H2=>sp (x::(vs++xE)) H2 Q E
def oXa(C:kA)(sp:Sp)(xE:List V)(E:XK)(t:TA):TE:=λY H Q=>t Y H λvs H1=>∀x dx,H1 x=none->H1 dx=none->dx≠x ->
 sp (.ref x::(vs++xE)) (CA (CA H1 dx (.own x)) x (.ins C dx [])) (λv H2=>v=.pA/\Q (.ref x) H2) E
def aAw(K:iA)(fd:DH)(ps:List bA)(ds:List dA):Prop :=
 ∀(s:zA) (us:List dA),K.In s.heap->(us++ds).length=ps.length->PY s fd ⟨us,[]⟩ (ps.zip (us++ds))
def aAw.all{K:iA}(h:∀us:List dA,us.length=ps.length->bindArgs fd ⟨us,[]⟩=pure (ps.zip us)):aAw K fd ps []:=λs us _ hl=>by
 rw[ZD] at hl ⊢;exact .of_eq (h us hl)
def aAB(CX:FN)(X:Cx)(E:XK):Prop:=∀(aA:List (kA×IB)) (Y:St) (H:Hp) (s:zA) (e:dA) (s':zA),fA X aA Y H s->CX X.stack H s E e s'->X.xe e s'
section
variable{X:Cx}{CX:FN}{k:Nat}{f C:kA}{fd:DH}{ps:List bA}{sp:Sp}{xE:List V}{ds:List dA}{E:XK}{x m:bA}{p pos wB:IC}{e o:DA}{es:List DA}{ta:TE}{t:TA}
def k8(F:VF X.prog X.w X.K X.mg X.base CX k f fd ps sp)(hr:YC k X.A)(hb:aAw X.K fd ps ds)(hd:aAb xE ds)(hx:aAB CX X E)
  (I:fA X aA Y H s) (r:aAb vs us) (h:sp (vs++xE) H Q E):rA (model X.prog X.w) X.A (call (.ref f) us) (EP X aA Y Q) X.xe s:=by
 have r2:aAb (vs++xE) (us++ds):=r.append hd;have hl:(us++ds).length=ps.length:=by rw[<- r2.length];exact F.len _ _ _ _ h
 refine Ab (mR (F.run X.A X.stack s H ⟨us,[]⟩ (us++ds) (vs++xE) Q E hr I.eJ (hb s us I.QE hl) r2 h) λr s' hq=>?_)
 cases r with
 |error e=>exact hx aA Y H s e s' I hq
 |ok fl =>
  cases fl with
  |ret u=>exact I.after hq
  |next=>exact nI hq
  |brk=>exact nI hq
  |cont=>exact nI hq
def aPa(F:VF X.prog X.w X.K X.mg X.base CX k f fd ps sp)(hr:YC k X.A)(hg:Gl X x)(hm:X.mg x=some (.ref f))(hk:qI X.K (.ref f)=true)(hb:aAw X.K fd ps ds)(hd:aAb xE ds)(hx:aAB CX X E)
  (ha:PA X (e::es) t) (iO:(x==("__debug__":bA))=false:=by decide) (he:zC (e::es) X.env=(false,eval e X.env)::zC es X.env:=by rfl) (uK:(yF pos (zC es X.env)).any (·.1)=false:=by rfl) :
  PE X (.Call (.Name x p) (e::es) [] pos) (gXa sp xE E t):=by
 intro aA s Y H Q I h;refine bU (U6 I hg hm ?_ iO);refine T9 (h₀:=X.base) I.ok.mod.kin hk (UA (ha pos aA s Y H _ I h) λus s1 ⟨vs,H1,I1,r,q⟩=>⟨I1.QE, ?_⟩) he uK;exact k8 F hr hb hd hx I1 r q
def lPa(he:PE X o ta)(c:yG X.K C)(hm:Meth X.K C m f)(F:VF X.prog X.w X.K X.mg X.base CX k f fd ps sp)(hr:YC k X.A)(hb:aAw X.K fd ps ds)(hd:aAb xE ds)(hx:aAB CX X E)(ha:PA X (e::es) t)
  (MM:zC (e::es) X.env=(false,eval e X.env)::zC es X.env:=by rfl) (uK:(yF pos (zC es X.env)).any (·.1)=false:=by rfl)
  (ht:eval (.Call (.Attribute o m wB) (e::es) [] pos) X.env=(do
   let ov <- eval o X.env
   standAt wB.atName
   let (f,first) <- holding [ov] (getMethod ov m pl)
   callWith pos f first (yF pos (zC (e::es) X.env)) (backToKw pos (keywordEach [] X.env))):=by rfl) :
  PE X (.Call (.Attribute o m wB) (e::es) [] pos) (U8 C m sp xE E ta t):=by
 intro aA s Y H Q I h;refine bq (UA (he aA s Y H _ I h) λu s1 hz=>?_) ht;obtain⟨x,H1,I1,rx,a,dx,fs,ex,ea,l,q⟩:=hz;subst ex;obtain rfl:u=Value.ref a:=rx;refine Ve I1 ea c hm l ?_;refine T9 (first:=[.ref a]) (h₀:=X.base) I.ok.mod.kin hm.kp (UA (ha pos aA s1 Y H1 _ I1 q) λus s2 ⟨vs,H2,I2,r,q2⟩=>⟨I2.QE, ?_⟩) MM uK;exact k8 (us:=.ref a::us) (vs:=.ref a::vs) F hr hb hd hx I2 (.cons rfl r) q2
def mPa(he:PE X o ta)(c:yG X.K C)(hm:Meth X.K C m f)(F:VF X.prog X.w X.K X.mg X.base CX k f fd ps sp)(hr:YC k X.A)(hb:aAw X.K fd ps ds)(hd:aAb xE ds)(hx:aAB CX X E)
  (ht:eval (.Call (.Attribute o m wB) [] [] pos) X.env=(do
   let ov <- eval o X.env
   standAt wB.atName
   let (f,first) <- holding [ov] (getMethod ov m pl)
   callWith pos f first (yF pos (zC [] X.env)) (backToKw pos (keywordEach [] X.env))):=by rfl) :
  PE X (.Call (.Attribute o m wB) [] [] pos) (U8 C m sp xE E ta MQ):=by
 intro aA s Y H Q I h;refine bq (UA (he aA s Y H _ I h) λu s1 hz=>?_) ht;obtain⟨x,H1,I1,rx,a,dx,fs,ex,ea,l,q⟩:=hz;subst ex;obtain rfl:u=Value.ref a:=rx;refine Ve I1 ea c hm l ?_;exact PySem.W.callWith_K0 (first:=[.ref a]) I1.QE hm.kp (k8 (us:=[.ref a]) (vs:=[.ref a]) F hr hb hd hx I1 (.cons rfl .nil) q)
structure Mk(K:iA)(C f:kA):Prop where
 makes:lY K C=true
 init:WG K (.ref C) "__init__"=some (some (.ref f))
 fn:tU K (.ref f)=true
 kp:qI K (.ref C)=true
def zTa(M:Mk X.K C f)(F:VF X.prog X.w X.K X.mg X.base CX k f fd ps sp)(hr:YC (k+1) X.A)(hb:aAw X.K fd ps ds)(hd:aAb xE ds)
  (hx:aAB CX X E) (I:fA X aA Y H s) (r:aAb vs us)
  (h:∀x dx,H x=none->H dx=none->dx≠x->sp (.ref x::(vs++xE)) (CA (CA H dx (.own x)) x (.ins C dx [])) (λv H2=>v=.pA/\Q (.ref x) H2) E) :
  rA (model X.prog X.w) X.A (call (.ref C) us) (EP X aA Y Q) X.xe s:=by
 have hq:=h (s.heap.objs.size+1) s.heap.objs.size (I.RA.fresh (gM _)) (I.RA.fresh (jB _)) (MD (uN _));have I2:=fA.made (C:=C) I;have r2:aAb (V.ref (s.heap.objs.size+1)::(vs++xE)) (Value.ref (s.heap.objs.size+1)::(us++ds)):=.cons rfl (r.append hd)
 have hl:(Value.ref (s.heap.objs.size+1)::us++ds).length=ps.length:=by(have e:=r2.length;rw[F.len _ _ _ _ hq] at e;exact e.symm)
 refine Ab (xIa I.QE M.makes M.init (beq_iff_eq.mp M.fn) (mR (F.run _ X.stack _ _ ⟨Value.ref (s.heap.objs.size+1)::us,[]⟩ (Value.ref (s.heap.objs.size+1)::(us++ds)) _ _ E (hr.make C us [])
  (I2.eJ.make C us []) (hb _ (Value.ref (s.heap.objs.size+1)::us) I2.QE hl) r2 hq) λr s' vS=>?_))
 cases r with
 |error e=>exact hx aA Y _ _ e s' I2 vS
 |ok fl =>
  cases fl with
  |ret u =>
   obtain⟨v,H',I3,rv,ev,q3⟩:=I2.after vS;subst ev;exact⟨rv,⟨V.ref (s.heap.objs.size+1),H',I3,rfl,q3⟩⟩
  |next=>exact nI vS
  |brk=>exact nI vS
  |cont=>exact nI vS
def kPa(M:Mk X.K C f)(F:VF X.prog X.w X.K X.mg X.base CX k f fd ps sp)(hr:YC (k+1) X.A)(hg:Gl X x)(hm:X.mg x=some (.ref C))(hb:aAw X.K fd ps ds)(hd:aAb xE ds)(hx:aAB CX X E)
  (ha:PA X (e::es) t) (iO:(x==("__debug__":bA))=false:=by decide) (he:zC (e::es) X.env=(false,eval e X.env)::zC es X.env:=by rfl) (uK:(yF pos (zC es X.env)).any (·.1)=false:=by rfl) :
  PE X (.Call (.Name x p) (e::es) [] pos) (oXa C sp xE E t):=by
 intro aA s Y H Q I h;refine bU (U6 I hg hm ?_ iO);refine T9 (h₀:=X.base) I.ok.mod.kin M.kp (UA (ha pos aA s Y H _ I h) λus s1 ⟨vs,H1,I1,r,q⟩=>⟨I1.QE, ?_⟩) he uK;exact zTa M F hr hb hd hx I1 r q
end
def PK(X:Cx)(zK:List rR)(t:TA):Prop :=
 ∀(pos:IC) (aA:List (kA×IB)) (s:zA) (Y:St) (H:Hp) (Q:List V->Hp->Prop),fA X aA Y H s->t Y H Q->rA (model X.prog X.w) X.A (evalAll ((backToKw pos (keywordEach zK X.env)).map (·.2))) (AP X aA Y Q) X.xe s
section
variable{nm:Option bA}
def lQa:PK X [] MQ:=λ_ _ _ _ H Q I h=>wpAny_evalAll_nil ⟨[],H,I,.nil,h⟩
def kQa(ha:PE X e te)(hr:PK X zK t):PK X (⟨nm,e,kpos⟩::zK) (KQ te t):=by
 intro pos aA s Y H Q I h;show rA _ _ (evalAll ((do let v <- eval e X.env;standAt pos;pure v)::(backToKw pos (keywordEach zK X.env)).map (·.2))) _ _ s;refine wpAny_evalAll_cons (gA (UA (ha aA s Y H _ I h) λu s1 ⟨x,H1,I1,r1,q1⟩=>gA (xY (EA ?_))));exact UA (hr pos aA s1 Y H1 _ I1 q1) λus s2 hz=>(by obtain⟨xs,H2,I2,r2,q2⟩:=hz;exact⟨x::xs,H2,I2,.cons r1 r2,q2⟩)
variable{g:List dA->List dA->List dA}{gV:List V->List V->List V}
end
structure rM(N P:List bA)(sc:tG):Prop where
 kind:sc.kind=.function
 co:sc.isCoroutine=false
 gen:sc.isGenerator=false
 nd:N.Nodup
 pre:N.take P.length=P
 par:∀x∈P,sc.names.lookup x=some .local\/sc.names.lookup x=some .cell
 pKa:∀y∈sc.names,y.2≠.free
theorem Hc{kindOf:bA->Option JJ}:∀{binds:List (bA×dA)} {m:bA->Option dA},(∀v,(x,v) ∉ binds)->bindL kindOf binds m x=m x
 |[],_,_=>rfl
 | (n,v)::r,m,h=>by
  unfold bindL;rw[Hc λw hw=>h w (WC _ hw)];split
  ·have:x≠n:=by rintro rfl;exact h v YD
   simp[this]
  ·rfl
theorem Ec{kindOf:bA->Option JJ}:∀{binds:List (bA×dA)} {m:bA->Option dA},(∀v,(x,v) ∉ binds)->bindC kindOf binds m x=m x
 |[],_,_=>rfl
 | (n,v)::r,m,h=>by
  unfold bindC;rw[Ec λw hw=>h w (WC _ hw)];split
  ·rfl
  ·have:x≠n:=by rintro rfl;exact h v YD
   simp[this]
theorem Fc{kindOf:bA->Option JJ}:∀{P:List bA} {vs:List dA} {i:Nat} {m:bA->Option dA},P.Nodup->P[i]?=some x->vs[i]?=some v->kindOf x=some .local ->
  bindL kindOf (P.zip vs) m x=some v
 |[],_,_,_,_,h,_,_=>by simp at h
 |_::_,[],_,_,_,_,h,_=>by simp at h
 |p::P,w::vs,0,m,nd,h1,h2,hk=>by
  simp at h1 h2;subst h1;subst h2;show bindL kindOf ((p,w)::P.zip vs) m p=_;unfold bindL;rw[Hc λv hv=>(GJ.mp nd).1 (mY hv).1,KA hk];simp
 |p::P,w::vs,i+1,m,nd,h1,h2,hk=>by(show bindL kindOf ((p,w)::P.zip vs) m x=_;unfold bindL;exact Fc (GJ.mp nd).2 (by simpa using h1) (by simpa using h2) hk)
theorem Dc{kindOf:bA->Option JJ}:∀{P:List bA} {vs:List dA} {i:Nat} {m:bA->Option dA},P.Nodup->P[i]?=some x->vs[i]?=some v->kindOf x≠some .local ->
  bindC kindOf (P.zip vs) m x=some v
 |[],_,_,_,_,h,_,_=>by simp at h
 |_::_,[],_,_,_,_,h,_=>by simp at h
 |p::P,w::vs,0,m,nd,h1,h2,hk=>by
  simp at h1 h2;subst h1;subst h2;show bindC kindOf ((p,w)::P.zip vs) m p=_;unfold bindC;rw[Ec λv hv=>(GJ.mp nd).1 (mY hv).1,if_neg hk];simp
 |p::P,w::vs,i+1,m,nd,h1,h2,hk=>by(show bindC kindOf ((p,w)::P.zip vs) m x=_;unfold bindC;exact Dc (GJ.mp nd).2 (by simpa using h1) (by simpa using h2) hk)
noncomputable def aAj(N:List bA)(vs:List V):St:=vs.map some++HB (N.length-vs.length) none
noncomputable def ZJ(CX:FN)(P:KC)(w:WB)(K:iA)(mg:bA->Option dA)(base:TB)(N:List bA)(eB:bA)(scope:tG)(f:kA)(cd:dA)(A:RD)(outer:List Env)(s:zA)(H:Hp)(E:XK):Cx where
 prog:=P
 w:=w
 K:=K
 mg:=mg
 base:=base
 A:=A.deeper (envOfC eB scope s.heap.objs.size f cd)
 N:=N
 s₀:=s
 H₀:=H
 env:=envOfC eB scope s.heap.objs.size f cd
 outer:=outer
 stack:=envOfC eB scope s.heap.objs.size f cd::outer
 ex:=[]
 calm:=true
 fn:=λ_=>true
 pn:=[]
 xe:=λe s'=>rA (model P w) (A.deeper (envOfC eB scope s.heap.objs.size f cd)) (leaving (envOfC eB scope s.heap.objs.size f cd) e) (λ_ m8=>CX outer H s E e m8) (λe' m8=>CX outer H s E e' m8) s'
def md{sc:tG}(h:sc.names.lookup x=some .cell):∃c,(cellsFrom n sc.names []).lookup x=some c:=by
 have q:=Np sc.names n [] (.inl h);exact Cp.mp q
def bDa{K:iA}
  (S:rM N ps scope) (hd:A.handled=none) (e0:GN P w K mg base A outer s H) (hl:vs.length=ps.length) (r:aAb vs us)
  (x:InCallC s s.heap.objs.size (bindL (envOfC eB scope s.heap.objs.size f cd).kindOf (ps.zip us) λ_=>none) (cellsFrom (s.heap.objs.size+1) scope.names []) (bindC (envOfC eB scope s.heap.objs.size f cd).kindOf (ps.zip us) λ_=>none) s1) :
  fA (ZJ CX P w K mg base N eB scope f cd A outer s H E) [] (aAj N vs) H s1:=by
 have uK:ps.length<=N.length:=by have:=congrArg BH S.pre;rw[HH] at this;lia
 obtain⟨h1,tk,rfl,hk⟩:=x.done;have kT:∀b:kA,b ∉ (ZJ CX P w K mg base N eB scope f cd A outer s H E).ex:=λb z=>absurd (show b∈([]:List kA) from z) (by simp)
 refine⟨⟨e0.mod,S.kind,rfl,rfl,jB _,λy z c h1 h2=>?_,λy hy=>?_,λy c _ h=>?_,λ_=>hd,Around.frames_deeper e0.frames,.inr ⟨rfl,rfl⟩,λb z=>absurd z (kT b),e0.bs,e0.wM,λb _ _=>kT b,λb z=>absurd z (kT b),e0.DI,e0.aO⟩,
  rfl,e0.bare,Un.kept hk,⟨_,x.toInCall.ns,λi y v h1 h2 h3=>?_⟩,λy c h=>⟨_,x.cell y c h⟩,e0.RA.fresh (jB _),λy c h=>?_,λp hp=>absurd (show p∈([]:List (kA×IB)) from hp) (by simp),e0.RA.kept hk, ?_⟩
 ·exact name_of_addr x.apart (ZT h1) (ZT h2)
 ·have hy:scope.names.lookup y=some .cell\/scope.names.lookup y=some .free:=hy;rcases hy with hy | hy
  ·exact md hy
  ·exact absurd rfl (S.pKa _ (ZT hy))
 ·exact fM (x.above y c (ZT h))
 ·have hi:i<vs.length:=by
   unfold aAj at h2;by_cases hi:i<vs.length
   ·exact hi
   ·rw[kP (by simpa using hi)] at h2;rw[E9] at h2;split at h2<;>cases h2
  have ha:vs[i]?=some v:=by
   unfold aAj at h2;rw[TQ (by simpa using hi),iD] at h2
   cases e:vs[i]? with
   |none=>rw[e] at h2;cases h2
   |some a=>rw[e] at h2;cases h2;rfl
  obtain⟨u,hu,rv⟩:=r.get ha
  have hp:ps[i]?=some y:=by(rw[<- S.pre,List.getElem?_take_of_lt (by lia)];exact h1)
  have Ti:ps.Nodup:=by rw[<- S.pre];exact S.nd.sublist (Sq _ _)
  refine⟨u,rv, ?_⟩;rcases S.par y (VE hp) with k | k
  ·exact .inl ⟨k,Fc Ti hp hu k⟩
  ·obtain⟨c,e⟩:=md (n:=s.heap.objs.size+1) k;refine .inr ⟨.inl k,c,e, ?_⟩;have q:=x.cell y c e;rw[Dc Ti hp hu (by show scope.names.lookup y≠_;rw[k];decide)] at q;exact q
 ·exact e0.RA.fresh (fM (x.above y c (ZT h)))
 ·unfold aAj;show _=N.length;rw[kC,nA,RO]
  lia
def m_{K:iA}{dV kV doc pm YA ct oc:dA}{an od:Option kA}(lk:K.lookup f=some ⟨oc,od,.func (AH name eB params body scope dV kV doc pm an YA ct),rF⟩)(lK:cP K YA eB=true)(S:rM N ps scope)
  (len:∀vs H Q E,sp vs H Q E->vs.length=ps.length)
  (R4:∀(A:RD) (outer:List Env) (s:zA) (H:Hp) (vs:List V) (Q:VK) (E:XK),YC k (A.deeper (envOfC eB scope s.heap.objs.size f YA))->sp vs H Q E ->
   ∃t,tD (ZJ CX P w K mg base N eB scope f YA A outer s H E) body t/\t { nx:=λ_ H'=>Q .pA H',rt:=Q } (aAj N vs) H) :
  VF P w K mg base CX (k+1) f (AH name eB params body scope dV kV doc pm an YA ct) ps sp:=by
 refine⟨len,λA outer s H args us vs Q E hr e0 hb r YH=>?_⟩;have hl:=len _ _ _ _ YH;have KX:K.In s.heap:=e0.mod.kin.keeps λb o e=>(e0.bs b o e).1
 have lim:s.heap.NoLimit:=e0.mod.nolimit.keeps λb o e=>(e0.bs b o e).1
 have rJ:∀y∈ps.zip us,scope.names.lookup y.1=some .local\/(scope.names.lookup y.1=some .cell/\((cellsFrom (s.heap.objs.size+1) scope.names []).lookup y.1).isSome=true):=λ⟨n,v⟩ hy=>by
  rcases S.par n (mY hy).1 with q | q
  ·exact .inl q
  ·exact .inr ⟨q,Np _ _ _ (.inl q)⟩
 refine codeAny_call_function hr.depth (KX _ _ lk) rfl S.co S.gen rfl (PySem.W.codeRec_of KX lK) (hb _ _ _ _ ?_);refine wpAny_newFunctionEnv_cells S.kind rJ λenv he s1 x=>?_
 subst he;refine⟨lim.keeps x.toInCall.keep,codeAny_func ?_⟩;obtain⟨t,ht,hq⟩:=R4 A outer s H vs Q E (hr.deeper _) YH;have I:fA (ZJ CX P w K mg base N eB scope f YA A outer s H E) [] (aAj N vs) H s1:=bDa S hr.hd e0 hl r x;refine IJ (ht [] s1 (aAj N vs) H _ I hq) (λfl s' hs=>?_) λe s' hs=>hs
 have fin:∀{Y':St} {H':Hp} {v:V} {u:dA},fA (ZJ CX P w K mg base N eB scope f YA A outer s H E) [] Y' H' s'->aAc v u->Q v H'->CE outer P w H s Q u s' :=
  λ{Y' H' v u} J rv q=>⟨v,H',J.os,J.bare,J.base,J.RA,rv,q⟩
 cases fl with
 |ret u =>
  obtain⟨v,Y',H',J,rv,q⟩:=hs;exact fin J rv q
 |next =>
  obtain⟨Y',H',J,q⟩:=hs;exact fin (v:=V.pA) (u:=Value.none) J rfl q
 |brk =>
  obtain⟨_,_,_,q⟩:=hs;exact nI q
 |cont =>
  obtain⟨_,_,_,q⟩:=hs;exact nI q
section
variable{id T:String}
def Q8(r:List V->Hp->VK->Prop)(t:TA):TE:=λY H Q=>t Y H λvs H1=>r vs H1 Q
def L7(hc:DF X (.builtin id) r)(hg:Gl X x)(hm:X.mg x=none)(hv:QK x=some (.builtin id))(ha:PA X (e::es) t)(hn:x≠"__name__":=by decide)(iO:(x==("__debug__":bA))=false:=by decide)
  (he:zC (e::es) X.env=(false,eval e X.env)::zC es X.env:=by rfl) (uK:(yF pos (zC es X.env)).any (·.1)=false:=by rfl):PE X (.Call (.Name x p) (e::es) [] pos) (Q8 r t):=by
 intro aA s Y H Q I h;refine bU (sO I hg hm hv ?_ hn iO);exact PyProof.Rows.callWith_builtin1 (UA (ha pos aA s Y H _ I h) λus s1 hz=>(by obtain⟨vs,H1,I1,r1,q1⟩:=hz;exact hc aA s1 Y H1 vs us Q I1 r1 q1)) he uK
def Hj(hc:DF X (.type T) r)(hg:Gl X x)(hm:X.mg x=none)(hv:QK x=some (.type T))(ha:PA X (e::es) t)(hn:x≠"__name__":=by decide)(iO:(x==("__debug__":bA))=false:=by decide)
  (he:zC (e::es) X.env=(false,eval e X.env)::zC es X.env:=by rfl) (uK:(yF pos (zC es X.env)).any (·.1)=false:=by rfl):PE X (.Call (.Name x p) (e::es) [] pos) (Q8 r t):=by
 intro aA s Y H Q I h;refine bU (sO I hg hm hv ?_ hn iO);exact GX (UA (ha pos aA s Y H _ I h) λus s1 hz=>(by obtain⟨vs,H1,I1,r1,q1⟩:=hz;exact hc aA s1 Y H1 vs us Q I1 r1 q1)) he uK
end
end L2
namespace HT
open PySem PyProof.Rows
noncomputable def aAy:List Int->List Int->Bool
 |[],[]=>false
 |[],_::_=>true
 |_::_,[]=>false
 |x::xs,y::ys=>if x=y then aAy xs ys else decide (x<y)
theorem bIa(x y:Int)(xs ys:List Int):aAy (x::xs) (y::ys)=if x=y then aAy xs ys else decide (x<y):=rfl
theorem eIa:aAy [] []=false:=rfl
theorem dIa(y:Int)(ys:List Int):aAy [] (y::ys)=true:=rfl
theorem cIa(x:Int)(xs:List Int):aAy (x::xs) []=false:=rfl
def Yd(A:RD)(s:zA)(a:Int)(t:BF)(c:Int)(u:BF):∃e,Bb A s (.int a t) (.int c u) e/\(e=true↔a=c) :=
 ⟨(a==c),Jq a t c u,by simp⟩
def Jk(A:RD)(s:zA)(a:Int)(t:BF)(c:Int)(u:BF)(prog:KC)(w:WB)(E:dA->zA->Prop)(Q:dA->zA->Prop)(h:Q (.bool (decide (a<c))) s) :
  rA (model prog w) A (richCompare .Lt (.int a t) (.int c u)) Q E s :=
 (wb h:rA (model prog w) A (gE .Lt (.int a t) (.int c u)) Q E s)
section
open PySem.SeqAt
open PySem.AutoSeq1 (wpAny_loadPart')
open PySem.MeetsSeq PySem.MeetsSeq2 PySem.MeetsSeq3
def pYa(l b:kA)(items CL:Array dA)(n n2:Nat)(dd eH:Option kA)(sl vH:Array (Option dA))(ns ms:List Int)(hi:IntsAre items.toList ns)(hj:IntsAre CL.toList ms) :
  Meets (EH.«tuple.__lt__» ⟨[.ref l,.ref b],[]⟩)
   (λ_ R s=>s.heap.get? l=some { cls:=.type "tuple",dict:=dd,data:=.seq items n,slots:=sl }/\s.heap.get? b=some { cls:=.type "tuple",dict:=eH,data:=.seq CL n2,slots:=vH } /\
    R (.ok (.ret (.bool (aAy ns ms)))) s) :=
 .of_wp λprog w A R s h=>by
  obtain⟨hp,g,d,tk,os⟩:=s;obtain⟨hl,hb,h⟩:=h;have f2:=Dp;have z1:items.size=ns.length:=by rw[<- hi.length];simp
  have z2:CL.size=ms.length:=by rw[<- hj.length];simp
  wp_walk using nY hl,nY hb,fY _ (λrest b s'=>b.1=none/\s'=⟨hp,g,d,tk,os⟩/\∃(vs ws:List dA) (BK tQ:List Int),rest=vs.zip ws /\
   IntsAre vs BK/\IntsAre ws tQ/\BK.length+CL.size=tQ.length+items.size/\R (.ok (.ret (.bool (aAy BK tQ)))) ⟨hp,g,d,tk,os⟩) _
  case turn =>
   rintro⟨y,x⟩ rest b s' ⟨qE,rfl,vs,ws,BK,tQ,hz,N5,lW,mB,hR⟩
   cases N5 with
   |nil=>rw[Tq] at hz;cases hz
   |cons a t hCa =>
    cases lW with
    |nil=>rw[List.zip_nil_right] at hz;cases hz
    |cons c u jCa =>
     rw[YL] at hz
     injection hz with hyx vBa
     injection hyx with hy hx
     subst hy hx;rw[bIa] at hR;simp only[YB] at mB;obtain⟨e,he,Z4⟩:=Yd A.in1 ⟨hp,g,d,tk,os⟩ a t c u;refine gA (he prog w _ _ ?_)
     cases e with
     |true =>
      rw[KA (Z4.mp rfl)] at hR
      wp_walk
      exact⟨rfl,rfl,_,_,_,_,vBa,hCa,jCa,by lia,hR⟩
     |false =>
      rw[if_neg (λq=>absurd (Z4.mpr q) fD)] at hR;have xS:=Jk A.in1 ⟨hp,g,d,tk,os⟩ a t c u prog w
      wp_walk using xS
      exact⟨_,rfl,by simpa using hR⟩
  case fin =>
   rintro⟨b1,b2⟩ s' ⟨qE,rfl,vs,ws,BK,tQ,hz,N5,lW,mB,hR⟩
   simp only at qE;subst qE
   have hv:aAy BK tQ=decide (items.size<CL.size):=by
    cases N5 with
    |nil =>
     cases lW with
     |nil =>
      simp only[uG] at mB;rw[eIa];exact(VA (by lia)).symm
     |cons c u hw =>
      simp only[uG,YB] at mB;rw[dIa];exact(kB (by lia)).symm
    |cons a t hv =>
     cases lW with
     |nil =>
      simp only[uG,YB] at mB;rw[cIa];exact(VA (by lia)).symm
     |cons c u hw =>
      rw[YL] at hz;cases hz
   rw[hv] at hR
   wp_walk
   exact⟨_,rfl,by simpa[Builtin.Tuple.tupleCompareSizes] using hR⟩
  case h =>
   exact⟨rfl,rfl,items.toList,CL.toList,ns,ms,rfl,hi,hj,by lia,h⟩
end
section
variable{s:zA}
def Fi(hl:zF s.heap l items)(hb:zF s.heap b CL)(hi:IntsAre items.toList ns)(hj:IntsAre CL.toList ms)
  (hu:A.units<cLine) (h:Q (.bool (aAy ns ms)) s):rA (model prog w) A (gE .Lt (.ref l) (.ref b)) Q E s:=by
 obtain⟨⟨cls,dd,data,sl⟩,ho,hc,n,hd⟩:=id hl;obtain⟨⟨aV,eH,data2,vH⟩,dG,cG,n2,hd2⟩:=id hb;simp only at hc hd cG hd2;subst hc hd cG hd2
 exact L9 (op:=.Lt) ⟨_,ho,rfl⟩ ⟨_,dG,rfl⟩ cq Qp (Jp _ _) (pYa l b items CL n n2 dd eH sl vH ns ms hi hj)
  ⟨ho,dG,show Value.bool (aAy ns ms)≠Value.notImplemented/\Q (.bool (aAy ns ms)) s from⟨(λx=>nomatch x),h⟩⟩ hu
def tx(ht:zF s.heap t vs.toArray)(hb:zF s.heap b ws.toArray)(hv:vs≠[])
  (h1:ws=[]->Q (.ref t) s) (h2:ws≠[]->Q (.ref s.heap.objs.size) { s with heap:=s.heap.push { cls:=.type "tuple",data:=.seq (vs++ws).toArray } })
  (vB:vs.length+ws.length<=sizeLine):rA (model prog w) A (fF .Add (.ref t) (.ref b)) Q E s:=by
 obtain⟨⟨cls,dd,data,sl⟩,ho,hc,n,hd⟩:=id ht;obtain⟨⟨aV,eH,data2,vH⟩,dG,cG,n2,hd2⟩:=id hb;simp only at hc hd cG hd2;subst hc hd cG hd2;have e:vs.toArray++ws.toArray=(vs++ws).toArray:=by simp
 by_cases hw:ws=[]
 ·exact GY ⟨_,ho,rfl⟩ ⟨_,dG,rfl⟩ wa Oa M9 F9 (A9 _ _)
   (tuple_addW1 t b vs.toArray ws.toArray n n2 dd eH sl vH (by simpa using hv) (by simp[hw])) ⟨ho,dG,h1 hw⟩
 ·refine GY ⟨_,ho,rfl⟩ ⟨_,dG,rfl⟩ wa Oa M9 F9 (A9 _ _)
   (tuple_addW2 t b vs.toArray ws.toArray n n2 dd eH sl vH (by simpa using hv) (by simpa using hw) (by rw[gD,gD];exact vB)) ⟨ho,dG, ?_⟩
  rw[e];exact h2 hw
noncomputable def qB(n d:Nat):Option Int->Nat
 |none=>d
 |some v=>if v<0 then(v+(n:Int)).toNat else min v.toNat n
theorem FT(n d:Nat):qB n d none=d:=rfl
def CQ(n d k:Nat):qB n d (some (k:Int))=min k n:=by
 show(if(k:Int)<0 then((k:Int)+(n:Int)).toNat else min (k:Int).toNat n)=min k n;rw[if_neg (by lia),YI]
def hUa(n d:Nat)(hd:d<=n)(o:Option Int):qB n d o<=n:=by
 cases o with
 |none=>exact hd
 |some v =>
  show(if v<0 then(v+(n:Int)).toNat else min v.toNat n)<=n;by_cases hv:v<0
  ·rw[KA hv];lia
  ·rw[if_neg hv];exact Nat.min_le_right _ _
def vd(v:Int)(n d:Nat):(if v<0 then max (v+(n:Int)) 0 else min v (n:Int))=((qB n d (some v):Nat):Int):=by
 show(if v<0 then max (v+(n:Int)) 0 else min v (n:Int))=(((if v<0 then(v+(n:Int)).toNat else min v.toNat n):Nat):Int);by_cases hv:v<0
 ·simp only[KA hv];lia
 ·simp only[if_neg hv];lia
def Cu(lo hi:Option Int)(n:Nat):y9 lo hi 1 (n:Int)=(((qB n 0 lo:Nat):Int),((qB n n hi:Nat):Int)):=by
 have h1:¬((1:Int)<0):=by lia
 unfold y9;simp only[h1,if_false];refine Prod.ext ?_ ?_
 ·cases lo with
  |none=>rfl
  |some v=>exact vd v n 0
 ·cases hi with
  |none=>rfl
  |some v=>exact vd v n n
def mQa(i j:Nat):lP (i:Int) (j:Int) 1=j-i:=by
 unfold lP;have h1:(1:Int) > 0:=by lia
 simp only[h1,if_true,Wa]
 split<;>lia
def z8(p:oI v o)(h:Q o s):rA (model prog w) A (Builtin.Slice.slicePartIndex v) Q E s:=by
 cases p with
 |none=>exact sY h
 |int i t=>exact slicePart_int h
def El{lo hi:Option Int}{Q:Int×Int×Nat->zA->Prop}(hs:s.heap.IsSliceOf sl vl vu .none)(pl:oI vl lo)(pu:oI vu hi)
  (h:Q (((qB n 0 lo:Nat):Int),1,qB n n hi-qB n 0 lo) s):rA (model prog w) A (HX (.ref sl) (pure (n:Int))) Q E s:=by
 obtain⟨os,WH,nK,wC⟩:=id hs;unfold HX vp;refine gA (gA (VI WH wC (x:=vl) rfl (gA (VI WH wC (x:=vu) rfl (gA (VI WH wC (x:=.none) rfl (EA ?_)))))));refine gA (sY ?_);show rA _ _ (if((1:Int)==0)=true then _ else _) _ _ s;rw[if_neg (by decide)];refine gA (z8 pl (gA (z8 pu (gA (EA ?_)))));show rA _ _ (match y9 lo hi 1 (n:Int) with | (lo,hi)=>pure (lo,(1:Int),lP lo hi 1)) _ _ s;rw[Cu lo hi n];show rA _ _ (pure (((qB n 0 lo:Nat):Int),(1:Int),lP ((qB n 0 lo:Nat):Int) ((qB n n hi:Nat):Int) 1)) _ _ s;rw[mQa];exact EA h
def fQa(xs:Array dA)(i k:Nat):((XB k).filterMap λ(m:Nat)=>xs[((i:Int)+(m:Int)*1).toNat]?).toArray=((xs.toList.drop i).take k).toArray:=by
 have e:(λ(m:Nat)=>xs[((i:Int)+(m:Int)*1).toNat]?)=λm=>xs[i+m]?:=by
  funext m
  have:((i:Int)+(m:Int)*1).toNat=i+m:=by lia
  rw[this]
 rw[e]
 have:=pick_run xs i k
 rw[Kq] at this;have e2:((λx=>xs[x]?) ∘ λx=>i+x)=λm=>xs[i+m]?:=rfl
 rw[e2] at this;rw[this]
def P_{lo hi:Option Int}(ht:zF s.heap t items)(hs:s.heap.IsSliceOf sl vl vu .none)(pl:oI vl lo)(pu:oI vu hi)
  (hw:¬(qB items.size 0 lo=0/\qB items.size items.size hi=items.size))
  (h:Q (.ref s.heap.objs.size) { s with heap:=s.heap.push { cls:=.type "tuple",data:=.seq ((items.toList.drop (qB items.size 0 lo)).take (qB items.size items.size hi-qB items.size 0 lo)).toArray } })
  (vB:items.size<=sizeLine):rA (model prog w) A (getItem (.ref t) (.ref sl)) Q E s:=by
 have yL:sizeOk (.seq ((items.toList.drop (qB items.size 0 lo)).take (qB items.size items.size hi-qB items.size 0 lo)).toArray):=by(show((items.toList.drop (qB items.size 0 lo)).take (qB items.size items.size hi-qB items.size 0 lo)).toArray.size<=sizeLine;rw[gD,HH,lF,kF];omega)
 have hj:qB items.size items.size hi<=items.size:=hUa _ _ (jB _) hi;obtain⟨os,WH,nK,wC⟩:=id hs;have iS:s.TypeIs (.ref sl) "slice":=⟨os,WH,nK⟩
 unfold getItem
 try with_reducible refine XG ?_
 first | refine gA (EA ?_) | skip
 refine gA (da ht.typeIs (by decide) ?_)
 refine gA (QO (name:=yA "__getitem__") ht.typeIs UK
  (dM UK ht.typeIs S9 ?_ (U9 _ _)))
 show rA _ _ (JX (.ref t)>>=_) _ _ s;refine gA (yY ht ?_);refine gA (eP iS ?_);rw[KA (by decide)];refine gA (El hs pl pu ?_)
 have kO:¬((((qB items.size 0 lo:Nat):Int)==0&&(1:Int)==1&&(qB items.size items.size hi-qB items.size 0 lo)==items.size)=true):=by(intro q;rw[nB,nB] at q;have q1:((qB items.size 0 lo:Nat):Int)=0:=XC q.1.1;have q2:qB items.size items.size hi-qB items.size 0 lo=items.size:=XC q.2;exact hw ⟨by omega,by omega⟩)
 show rA _ _ (if(((qB items.size 0 lo:Nat):Int)==0&&(1:Int)==1&&(qB items.size items.size hi-qB items.size 0 lo)==items.size)=true then _ else _) _ _ s;rw[if_neg kO,fQa]
 first
  |exact gA (m:=EN _) (ZI (EA ⟨_,rfl,EA h⟩) yL)
  |exact gA (m:=EN _) (ZI (gA (EA (EA ⟨_,rfl,EA h⟩))) yL)
  |exact gA (gA (m:=EN _) (ZI (EA (EA ⟨_,rfl,EA h⟩)) yL))
  |exact gA (gA (m:=EN _) (ZI (EA ⟨_,rfl,EA h⟩) yL))
end
end HT
namespace L2
open PySem PySem.Spec PyProof.Rows
abbrev TO:=St->Hp->(Option Int->Hp->Prop)->Prop
def PO(X:Cx)(e:Option DA)(t:TO):Prop :=
 ∀(aA:List (kA×IB)) (s:zA) (Y:St) (H:Hp) (Q:Option Int->Hp->Prop),fA X aA Y H s->t Y H Q ->
  rA (model X.prog X.w) X.A (evalPart e X.env) (λu s'=>∃o H',fA X aA Y H' s'/\oI u o/\Q o H') X.xe s
def pXa:TO:=λ_ H Q=>Q none H
def rXa(t:TE):TO:=λY H Q=>t Y H λx H1=>∃i,x=.int i/\Q (some i) H1
section
variable{lo hi:Option DA}
def pQa:PO X none pXa:=by
 intro aA s Y H Q I h;rw[Pa];exact EA ⟨none,H,I,.none,h⟩
def rQa(h:PE X e te):PO X (some e) (rXa te):=by
 intro aA s Y H Q I hw;rw[evalPart_some];refine UA (h aA s Y H _ I hw) λu s1 hz=>?_
 obtain⟨x,H1,I1,r1,q1⟩:=hz;obtain⟨i,rfl,q⟩:=q1;obtain⟨t,rfl⟩:=r1;exact⟨some i,H1,I1,.int i t,q⟩
def VJ(X:Cx)(r:V->Option Int->Option Int->Hp->VK->Prop):Prop :=
 ∀(aA:List (kA×IB)) (s:zA) (Y:St) (H:Hp) (x:V) (v vl vu:dA) (lo hi:Option Int) (sl:kA) (Q:VK),fA X aA Y H s->aAc x v->s.heap.IsSliceOf sl vl vu .none->oI vl lo->oI vu hi->r x lo hi H Q ->
  ∃T id,typeLookup (.type T) "__getitem__"=pure (some (.builtin id))/\s.TypeIs v T/\rA (model X.prog X.w) X.A (getItem v (.ref sl)) (EP X aA Y Q) X.xe s
def VJ.or(h:VJ X r)(h':VJ X r'):VJ X (λx lo hi H Q=>r x lo hi H Q\/r' x lo hi H Q):=by
 intro aA s Y H x v vl vu lo hi sl Q I rx hs pl pu q;rcases q with q | q
 ·exact h aA s Y H x v vl vu lo hi sl Q I rx hs pl pu q
 ·exact h' aA s Y H x v vl vu lo hi sl Q I rx hs pl pu q
def tSl(r:V->Option Int->Option Int->Hp->VK->Prop)(te:TE)(tl th:TO):TE:=λY H Q=>te Y H λx H1=>tl Y H1 λl H2=>th Y H2 λu H3=>r x l u H3 Q
def rPa(hr:VJ X r)(he:PE X e te)(hl:PO X lo tl)(hu:PO X hi th):PE X (.Subscript e (.Slice lo hi none p2) pos) (tSl r te tl th):=by
 intro aA s Y H Q I h;refine Eb (UA (he aA s Y H _ I h) λv s1 hz=>?_);obtain⟨x,H1,I1,r1,q1⟩:=hz;refine wpAny_Slice (UA (hl aA s1 Y H1 _ I1 q1) λvl s2 ⟨l,H2,I2,pl,q2⟩=>UA (hu aA s2 Y H2 _ I2 q2) λvu s3 hz=>?_);obtain⟨u,H3,I3,pu,q3⟩:=hz;rw[Pa];refine EA ?_;have I4:fA X aA Y H3 { s3 with heap:=s3.heap.push { cls:=.type "slice",data:=.fields #[vl,vu,.none] } }:=I3.kept (t':=s3.toks) λb ob q=>oC _ q
 obtain⟨T,id,hT,ht,hg⟩:=hr aA { s3 with heap:=s3.heap.push { cls:=.type "slice",data:=.fields #[vl,vu,.none] } } Y H3 x v vl vu l u s3.heap.objs.size Q I4 r1 (V9 ..) pl pu q3;show rA (model X.prog X.w) X.A (subscriptTail e (.Slice lo hi none p2) v (.ref s3.heap.objs.size)) (EP X aA Y Q) X.xe { s3 with heap:=s3.heap.push { cls:=.type "slice",data:=.fields #[vl,vu,.none] } };exact NY (ops:=[.ref s3.heap.objs.size,v]) ht hT hg (by with_unfolding_all rfl)
def YJ(xs:List V)(lo hi:Option Int):List V:=(xs.drop (HT.qB xs.length 0 lo)).take (HT.qB xs.length xs.length hi-HT.qB xs.length 0 lo)
def Ld(xs:List V)(lo hi:Option Int):(YJ xs lo hi).length<=xs.length:=by
 unfold YJ;rw[HH,lF]
 lia
def aTa(K:iA):V->Option Int->Option Int->Hp->VK->Prop:=λx lo hi H Q=>∃a xs,x=.ref a/\QC K H a xs /\
 ¬(HT.qB xs.length 0 lo=0/\HT.qB xs.length xs.length hi=xs.length)/\∀p,H p=none->Q (.ref p) (CA H p (.t (YJ xs lo hi)))
def oVa:VJ X (aTa X.K):=by
 intro aA s Y H x v vl vu lo hi sl Q I rx hs pl pu h;obtain⟨a,xs,rfl,hx,hw,q⟩:=h;cases rx;obtain⟨cA,r,ht,hz⟩:=I.tuple hx;have mB:cA.toArray.size=xs.length:=by rw[gD];exact r.length.symm
 refine⟨"tuple",_,UK.lookup,ht.typeIs, ?_⟩;refine HT.P_ ht hs pl pu (by rw[mB];exact hw) ?_ (by rw[mB];exact hz);rw[mB];refine⟨.ref s.heap.objs.size,_,I.laid (t':=s.toks) (o:=.t (YJ xs lo hi)) (λb ob q=>oC _ q) (jB _) ?_,rfl,q _ (I.RA.fresh (jB _))⟩;exact⟨EC (Ld xs lo hi) hz,_,(r.drop (HT.qB xs.length 0 lo)).take (HT.qB xs.length xs.length hi-HT.qB xs.length 0 lo),MY _ _⟩
def qSa(K:iA):R2:=λx y H Q=>∃a b xs ys,x=.ref a/\y=.ref b/\QC K H a xs/\QC K H b ys/\xs≠[]/\xs.length+ys.length<=sizeLine /\
 (ys=[]->Q (.ref a) H)/\(ys≠[]->∀p,H p=none->Q (.ref p) (CA H p (.t (xs++ys))))
def aAb.NW(r:aAb xs us):us=[]↔xs=[]:=by
 cases r with
 |nil=>simp
 |cons _ _=>simp
def dNa:OC X (fF .Add) (qSa X.K):=by
 intro aA s Y H x y v u Q I rx ry h;obtain⟨a,b,xs,ys,rfl,rfl,ha,hb,hx,hz,q1,q2⟩:=h;cases rx;cases ry;obtain⟨cA,r1,p1,_⟩:=I.tuple ha;obtain⟨xK,r2,p2,_⟩:=I.tuple hb;refine HT.tx p1 p2 (λz=>hx (r1.NW.mp z)) (λz=>⟨.ref a,H,I,rfl,q1 (r2.NW.mp z)⟩) (λz=>?_) (by rw[<- r1.length,<- r2.length];exact hz);refine⟨.ref s.heap.objs.size,_,I.laid (t':=s.toks) (o:=.t (xs++ys)) (λb ob q=>oC _ q) (jB _) ?_,rfl,q2 (λw=>z (r2.NW.mpr w)) _ (I.RA.fresh (jB _))⟩;exact⟨by rw[kC];exact hz,_,r1.append r2,MY _ _⟩
end
noncomputable def eG(n:Nat)(i:Int):Option Nat:=if 0<=i then(if i<n then some i.toNat else none) else if -(n:Int)<=i then some (i+n).toNat else none
def qC(xs:List O)(i:Int):Option O:=(eG xs.length i).bind λj=>xs[j]?
def Lg(h:eG n i=some j):seqIndex? i n=some j/\j<n/\-(n:Int)<=i/\i<n:=by
 unfold eG at h;by_cases h0:0<=i
 ·rw[KA h0] at h;by_cases h1:i<n
  ·rw[KA h1] at h;have e:i.toNat=j:=eE h;exact⟨by rw[fb h0 h1,e],by lia,by lia,h1⟩
  ·rw[if_neg h1] at h;cases h
 ·rw[if_neg h0] at h;by_cases h1:-(n:Int)<=i
  ·rw[KA h1] at h;have e:(i+n).toNat=j:=eE h;exact⟨by rw[Xa (by lia) h1,e],by lia,h1,by lia⟩
  ·rw[if_neg h1] at h;cases h
def sZ(h:qC xs i=some v):∃j,seqIndex? i xs.length=some j/\xs[j]?=some v/\j<xs.length/\-(xs.length:Int)<=i/\i<xs.length:=by
 unfold qC at h
 cases e:eG xs.length i with
 |none=>rw[e] at h;cases h
 |some j =>
  rw[e] at h;obtain⟨h1,h2,h3,h4⟩:=Lg e;exact⟨j,h1,h,h2,h3,h4⟩
def XJ{j:Nat}(h:xs[j]?=some v):qC xs (j:Int)=some v:=by
 have hj:j<xs.length:=(bE.mp h).1
 have e:eG xs.length (j:Int)=some j:=by(unfold eG;rw[KA (by lia),KA (by lia)];simp)
 unfold qC;rw[e];exact h
def GU(b:DA):Prop:=∀o i,subscripted b false o i=operate [o,i] (getItem o i)
def YF(X:Cx)(r:R2):Prop :=
 ∀(value slice:DA) (aA:List (kA×IB)) (s:zA) (Y:St) (H:Hp) (x y:V) (v u:dA) (Q:VK),fA X aA Y H s->aAc x v->aAc y u->r x y H Q ->
  subscripted slice false v u=operate [v,u] (getItem v u)->rA (model X.prog X.w) X.A (subscriptTail value slice v u) (EP X aA Y Q) X.xe s
def eZ(X:Cx)(id:String)(r:V->List V->Hp->VK->Prop):Prop :=
 ∀(aA:List (kA×IB)) (s:zA) (Y:St) (H:Hp) (x:V) (xs:List V) (v:dA) (us:List dA) (Q:VK),fA X aA Y H s->aAc x v->aAb xs us->r x xs H Q ->
  rA (model X.prog X.w) X.A (call (.builtin id) (v::us)) (EP X aA Y Q) X.xe s
section
variable{pos:IC}
def YF.or(h:YF X r)(h':YF X r'):YF X (λx y H Q=>r x y H Q\/r' x y H Q):=by
 intro value slice aA s Y H x y v u Q I rx ry q hs;rcases q with q | q
 ·exact h value slice aA s Y H x y v u Q I rx ry q hs
 ·exact h' value slice aA s Y H x y v u Q I rx ry q hs
def iPa(hr:YF X r)(ha:PE X a ta)(hb:PE X b tb)(hs:GU b):PE X (.Subscript a b pos) (NT r ta tb):=by
 intro aA s Y H Q I h;exact Eb (OZ ha hb I h λv u s2 x y H2 I2 rx ry q=>hr a b aA s2 Y H2 x y v u Q I2 rx ry q (hs _ _))
def Dk(K:iA):R2:=λx y H Q=>∃p xs i v,x=.ref p/\y=.int i/\zB K H p xs/\qC xs i=some v/\Q v H
def Ek(K:iA):R2:=λx y H Q=>∃p xs i v,x=.ref p/\y=.int i/\QC K H p xs/\qC xs i=some v/\Q v H
def eX:R2:=λx y H Q=>∃z i c,x=.str z/\y=.int i/\z.length<=sizeLine/\qC z.cps.toList i=some c/\Q (.str ⟨#[c]⟩) H
def jEa:YF X (Dk X.K):=by
 intro value slice aA s Y H x y v u Q I rx ry h hs;obtain⟨p,xs,i,z,rfl,rfl,hq,he,q⟩:=h;cases rx;obtain⟨t,rfl⟩:=ry;obtain⟨cA,r,pl,hz⟩:=I.list hq;obtain⟨j,h1,h2,h3,h4,h5⟩:=sZ he;obtain⟨w,ew,dI⟩:=r.get h2;have hl:=r.length;have hn:=vO;have fin:EP X aA Y Q w s:=⟨z,H,I,dI,q⟩
 by_cases h0:0<=i
 ·have hj:i.toNat=j:=by
   rw[fb h0 h5] at h1;exact eE h1
  exact item_listR pl.isList h0 (by lia) (by rw[hj];simpa using ew) fin hs
 ·have hj:(i+(cA.toArray.size:Int)).toNat=j:=by
   rw[Xa (by lia) h4] at h1;rw[gD,<- hl];exact eE h1
  exact Rp (x:=w) pl.isList.typeIs ja.lookup
   (wpAny_getItem_list_neg (Q:=λr s'=>r=w/\EP X aA Y Q r s') pl.isList (by lia) (by rw[gD]<;>lia) (by lia) (by rw[hj];simpa using ew) ⟨rfl,fin⟩) hs
def oEa:YF X (Ek X.K):=by
 intro value slice aA s Y H x y v u Q I rx ry h hs;obtain⟨p,xs,i,z,rfl,rfl,hq,he,q⟩:=h;cases rx;obtain⟨t,rfl⟩:=ry;obtain⟨cA,r,pl,hz⟩:=I.tuple hq;obtain⟨j,h1,h2,h3,h4,h5⟩:=sZ he;obtain⟨w,ew,dI⟩:=r.get h2;have hl:=r.length;have hn:=vO;have fin:EP X aA Y Q w s:=⟨z,H,I,dI,q⟩
 exact Rp (x:=w) pl.typeIs UK.lookup
  (getItem_tuple (j:=j) (Q:=λr s'=>r=w/\EP X aA Y Q r s') pl (by lia) (by lia) (by rw[gD,<- hl];exact h1) (by simpa using ew) ⟨rfl,fin⟩) hs
def nEa:YF X eX:=by
 intro value slice aA s Y H x y v u Q I rx ry h hs;obtain⟨z,i,c,rfl,rfl,hz,he,q⟩:=h;obtain⟨t,rfl⟩:=rx;obtain⟨t',rfl⟩:=ry;obtain⟨j,h1,h2,h3,h4,h5⟩:=sZ he;have hl:z.cps.toList.length=z.length:=by simp[Str.length]
 rw[hl] at h1 h4 h5;have hn:=vO
 exact NY (typeIs_str s z t) slot_str_getitem.lookup (getItem_str (by
  have e1:decide (i < -(2 ^ 63:Int))=false:=VA (by lia);have e2:decide (i >= 2 ^ 63)=false:=VA (by lia)
  rw[e1,e2,CF]) (by rw[h1];simpa using h2) ⟨.str ⟨#[c]⟩,H,I.tok _,⟨_,rfl⟩,q⟩) hs
def rIx(K:iA):R2:=λx y H Q=>Dk K x y H Q\/Ek K x y H Q\/eX x y H Q
def mEa:YF X (rIx X.K):=jEa.or (oEa.or nEa)
def zIa(cA:List dA)(n j:Nat)(u:dA):TK (·.setIfInBounds j u) { cls:=.type "list",data:=.seq cA.toArray n }={ cls:=.type "list",data:=.seq (cA.set j u).toArray n }:=by
 simp[TK]
theorem fA.l(I:fA X aA Y H s)(h:H p=some (.l xs)) :
  ∃(cA:List dA) (n:Nat),aAb xs cA/\s.heap.get? p=some { cls:=.type "list",data:=.seq cA.toArray n }/\xs.length<=sizeLine:=by
 obtain⟨z,cA,n,r,e⟩:=I.RA p _ h;exact⟨cA,n,r,e,z⟩
def fA.rIa{cA its':List dA}(I:fA X aA Y H s)(h:H p=some (.l xs))
  (ho:s.heap.get? p=some { cls:=.type "list",data:=.seq cA.toArray n }) (hf:f { cls:=.type "list",data:=.seq cA.toArray n }={ cls:=.type "list",data:=.seq its'.toArray n' }) (r:aAb ys its') (hz:ys.length<=sizeLine) (t:Nat) :
  fA X aA Y (CA H p (.l ys)) { s with heap:=s.heap.update p f,toks:=t }:=by
 have e:(s.heap.update p f).get? p=some { cls:=.type "list",data:=.seq its'.toArray n' }:=by(rw[P9 f ho (by rw[hf]<;>rfl),hf])
 refine I.write (x:=p) (e:=p) (by rw[h];trivial) (.inl rfl) (λb u hb q=>(Tp _ _ (gF hb)).trans q) ⟨_,e⟩ ?_;exact⟨hz,its',n',r,e⟩
def Gk:V->V->V->Hp->(Hp->Prop)->Prop:=λo i v H Q=>∃p xs k j,o=.ref p/\i=.int k/\H p=some (.l xs)/\eG xs.length k=some j/\Q (CA H p (.l (xs.set j v)))
def aAQ:kZ X Gk:=by
 intro aA s Y H o i v ov iv u Q I ro ri rv h;obtain⟨p,xs,k,j,rfl,rfl,hp,hj,q⟩:=h;cases ro;obtain⟨t,rfl⟩:=ri;obtain⟨cA,n,r,ho,hz⟩:=I.l hp;obtain⟨h1,h2,h3,h4⟩:=Lg hj;have hl:=r.length;have hn:=vO
 have I':fA X aA Y (CA H p (.l (xs.set j v))) { s with heap:=s.heap.update p (TK (·.setIfInBounds j u)) } :=
  I.rIa hp ho (zIa cA n j u) (r.set rv j) (by rw[VG];exact hz) s.toks
 by_cases h0:0<=k
 ·have hk:k.toNat=j:=by
   rw[fb h0 h4] at h1;exact eE h1
  exact PySem.W.ki_setAt ho h0 (by lia) (by rw[gD,<- hl];exact h4) (by rw[hk];exact⟨_,I',q⟩)
 ·have hk:(k+(cA.toArray.size:Int)).toNat=j:=by
   rw[Xa (by lia) h3] at h1;rw[gD,<- hl];exact eE h1
  exact PySem.W.ki_setBack ho (by lia) (by rw[gD,<- hl];exact h3) (by lia) (by rw[hk];exact⟨_,I',q⟩)
def sVa(lo hi:Option Int)(n:Nat):(sliceBounds lo hi none n).1=((HT.qB n 0 lo:Nat):Int)/\(sliceBounds lo hi none n).2.1=((HT.qB n n hi:Nat):Int)/\(sliceBounds lo hi none n).2.2=1:=by
 refine⟨?_, ?_,rfl⟩
 ·cases lo with
  |none=>simp[sliceBounds,HT.qB]
  |some i =>
   simp only[sliceBounds,HT.qB,kr,show(1:Int) > 0 by decide,if_true];by_cases h:i<0
   ·simp only[h,if_true]<;>lia
   ·simp only[h,if_false]<;>lia
 ·cases hi with
  |none=>simp[sliceBounds,HT.qB]
  |some i =>
   simp only[sliceBounds,HT.qB,kr,show(1:Int) > 0 by decide,if_true];by_cases h:i<0
   ·simp only[h,if_true]<;>lia
   ·simp only[h,if_false]<;>lia
def rVa(cA:List dA)(lo hi:Option Int):slicePick cA.toArray lo hi none=((cA.drop (HT.qB cA.length 0 lo)).take (HT.qB cA.length cA.length hi-HT.qB cA.length 0 lo)).toArray:=by
 obtain⟨h1,h2,h3⟩:=sVa lo hi cA.toArray.size;unfold slicePick;rw[h1,h2,h3];simp only[sliceRange_one,pick_run,gD]<;>rfl
def zSa(K:iA):V->Option Int->Option Int->Hp->VK->Prop:=λx lo hi H Q=>∃a xs,x=.ref a/\zB K H a xs/\∀p,H p=none->Q (.ref p) (CA H p (.l (YJ xs lo hi)))
def kVa:VJ X (zSa X.K):=by
 intro aA s Y H x v vl vu lo hi sl Q I rx hs pl pu h;obtain⟨a,xs,rfl,hx,q⟩:=h;cases rx;obtain⟨cA,r,ht,hz⟩:=I.list hx;have mB:=r.length;refine⟨"list",_,ja.lookup,ht.isList.typeIs, ?_⟩;refine Ep ht.isList hs pl pu .none (by simp) ?_ (by rw[gD]<;>lia);rw[rVa,<- mB];refine⟨.ref s.heap.objs.size,_,I.laid (t':=s.toks) (o:=.l (YJ xs lo hi)) (λb ob q=>oC _ q) (jB _) ?_,rfl,q _ (I.RA.fresh (jB _))⟩;exact⟨EC (Ld xs lo hi) hz,_,0,(r.drop (HT.qB xs.length 0 lo)).take (HT.qB xs.length xs.length hi-HT.qB xs.length 0 lo),XD _ rfl⟩
noncomputable def eK:V->Bool
 |.pA=>true
 |.bl _=>true
 |.int _=>true
 |.str _=>true
 |_=>false
noncomputable def iL:V->V->Bool
 |.pA,.pA=>true
 |.bl a,.bl b=>a==b
 |.bl a,.int b=>(if a then 1 else 0)==b
 |.int a,.bl b=>a==(if b then 1 else 0)
 |.int a,.int b=>a==b
 |.str a,.str b=>a==b
 |_,_=>false
def Ey(ry:aAc y u)(rx:aAc x v)(fy:eK y=true)(fx:eK x=true):Bb A s u v (iL y x):=by
 cases y with
 |pA =>
  cases ry
  cases x with
  |pA=>cases rx;exact SeqAt.EqAt.same _
  |bl b=>cases rx;exact SeqAt.EqAt.none_bool b
  |int b=>obtain⟨t,rfl⟩:=rx;exact SeqAt.EqAt.none_int b t
  |str b=>obtain⟨t,rfl⟩:=rx;exact SeqAt.EqAt.none_str b t
  |_=>exact absurd (show false=true from fx) fD
 |bl a =>
  cases ry
  cases x with
  |pA=>cases rx;exact SeqAt.EqAt.bool_none a
  |bl b=>cases rx;exact SeqAt.EqAt.bool_bool a b
  |int b=>obtain⟨t,rfl⟩:=rx;exact SeqAt.EqAt.bool_int a b t
  |str b=>obtain⟨t,rfl⟩:=rx;exact SeqAt.EqAt.bool_str a b t
  |_=>exact absurd (show false=true from fx) fD
 |int a =>
  obtain⟨t',rfl⟩:=ry
  cases x with
  |pA=>cases rx;exact SeqAt.EqAt.int_none a t'
  |bl b=>cases rx;exact SeqAt.EqAt.int_bool a t' b
  |int b=>obtain⟨t,rfl⟩:=rx;exact Jq a t' b t
  |str b=>obtain⟨t,rfl⟩:=rx;exact Gq a t' b t
  |_=>exact absurd (show false=true from fx) fD
 |str a =>
  obtain⟨t',rfl⟩:=ry
  cases x with
  |pA=>cases rx;exact SeqAt.EqAt.str_none a t'
  |bl b=>cases rx;exact SeqAt.EqAt.str_bool a t' b
  |int b=>obtain⟨t,rfl⟩:=rx;exact Hq a t' b t
  |str b=>obtain⟨t,rfl⟩:=rx;exact SeqAt.EqAt.str_str a t' b t
  |_=>exact absurd (show false=true from fx) fD
 |_=>exact absurd (show false=true from fy) fD
def GG(x:V)(u:dA):Bool:=match u with
 |.none=>iL .pA x
 |.bool b=>iL (.bl b) x
 |.int i _=>iL (.int i) x
 |.str z _=>iL (.str z) x
 |_=>false
def ie(r:aAc y u)(f:eK y=true):GG x u=iL y x:=by
 cases y with
 |pA=>cases r;rfl
 |bl b=>cases r;rfl
 |int i=>obtain⟨t,rfl⟩:=r;rfl
 |str z=>obtain⟨t,rfl⟩:=r;rfl
 |_=>exact absurd (show false=true from f) fD
def NU(h:aAb xs us)(f:xs.all eK=true):us.any (GG x)=xs.any λy=>iL y x:=by
 induction h with
 |nil=>rfl
 |cons r t ih =>
  rw[vC,nB] at f;rw[dP,dP,ie r f.1,ih f.2]
def DW(rx:aAc x v)(fx:eK x=true)(h:aAb xs us)(f:xs.all eK=true):∀u∈us,Bb A s u v (GG x u):=by
 induction h with
 |nil=>exact λu hu=>nomatch hu
 |cons r t ih =>
  intro u' hu;rw[vC,nB] at f;rcases DC.mp hu with rfl | hu
  ·rw[ie r f.1];exact Ey r rx f.1 fx
  ·exact ih f.2 u' hu
def pW(x:V)(xs:List V):Bool:=xs.any λy=>iL y x
def Ck(K:iA)(neg:Bool):R2:=λx y H Q=>∃p xs,y=.ref p/\(zB K H p xs\/QC K H p xs)/\eK x=true/\xs.all eK=true/\Q (.bl (if neg then !pW x xs else pW x xs)) H
def zj:OC X (gE .In) (Ck X.K false):=by
 intro aA s Y H x y v u Q I rx ry h;obtain⟨p,xs,rfl,hq,fx,fs,q⟩:=h;cases ry;rcases hq with hq | hq
 ·obtain⟨cA,r,pl,hz⟩:=I.list hq;refine SeqAt.in_listAt (GG x) pl.isList (λw hw=>DW rx fx r fs w (by simpa using hw)) ⟨.bl _,H,I,rfl, ?_⟩;rw[show cA.toArray.any (GG x)=cA.any (GG x) by simp,NU r fs];exact q
 ·obtain⟨cA,r,pl,hz⟩:=I.tuple hq;refine SeqAt.in_tupleAt (GG x) pl (λw hw=>DW rx fx r fs w (by simpa using hw)) ⟨.bl _,H,I,rfl, ?_⟩;rw[show cA.toArray.any (GG x)=cA.any (GG x) by simp,NU r fs];exact q
def Aj:OC X (gE .NotIn) (Ck X.K true):=by
 intro aA s Y H x y v u Q I rx ry h;obtain⟨p,xs,rfl,hq,fx,fs,q⟩:=h;cases ry;rcases hq with hq | hq
 ·obtain⟨cA,r,pl,hz⟩:=I.list hq;refine SeqAt.notIn_listAt (GG x) pl.isList (λw hw=>DW rx fx r fs w (by simpa using hw)) ⟨.bl _,H,I,rfl, ?_⟩;rw[show cA.toArray.any (GG x)=cA.any (GG x) by simp,NU r fs];exact q
 ·obtain⟨cA,r,pl,hz⟩:=I.tuple hq;refine SeqAt.notIn_tupleAt (GG x) pl (λw hw=>DW rx fx r fs w (by simpa using hw)) ⟨.bl _,H,I,rfl, ?_⟩;rw[show cA.toArray.any (GG x)=cA.any (GG x) by simp,NU r fs];exact q
def UZ:DF X (.builtin "len") (λxs H Q=>∃p ys,xs=[.ref p]/\(zB X.K H p ys\/QC X.K H p ys)/\Q (.int ys.length) H):=by
 intro aA s Y H xs us Q I r h;obtain⟨p,ys,rfl,hq,q⟩:=h;obtain⟨u,rfl,rx⟩:=aAt r;cases rx;have hn:=vO;rcases hq with hq | hq
 ·obtain⟨cA,r',pl,hz⟩:=I.list hq;have mB:=r'.length;exact Calls.call_len_list pl.isList (by simp only[gD]<;>lia) ⟨.int ys.length,H,I.tok _,⟨s.toks+1,by rw[gD,mB]⟩,q⟩
 ·obtain⟨cA,r',pl,hz⟩:=I.tuple hq;have mB:=r'.length;exact len_tuple pl (by simp only[gD]<;>lia) ⟨.int ys.length,H,I.tok _,⟨s.toks+1,by rw[gD,mB]⟩,q⟩
def ax:DF X (.builtin "len") (λxs H Q=>∃z,xs=[.str z]/\z.length<=sizeLine/\Q (.int z.length) H):=by
 intro aA s Y H xs us Q I r h;obtain⟨z,rfl,hz,q⟩:=h;obtain⟨u,rfl,t,rfl⟩:=aAt r;have hn:=vO;exact len_str (by lia) ⟨.int z.length,H,I.tok _,⟨_,rfl⟩,q⟩
def gd:DF X (.type "list") (λxs H Q=>∃p ys,xs=[.ref p]/\(zB X.K H p ys\/QC X.K H p ys)/\∀l,H l=none->Q (.ref l) (CA H l (.l ys))):=by
 intro aA s Y H xs us Q I r h;obtain⟨p,ys,rfl,hq,q⟩:=h;obtain⟨u,rfl,rx⟩:=aAt r;cases rx
 have fin:∀(cA:List dA),aAb ys cA->ys.length<=sizeLine->∀(h':TB) (c':Nat),(∀b o',s.heap.get? b=some o'->h'.get? b=some o') ->
   h'.get? s.heap.objs.size=some { cls:=.type "list",dict:=none,data:=.seq cA.toArray c',slots:=#[] }->EP X aA Y Q (.ref s.heap.objs.size) { s with heap:=h' }:=λcA r' hz h' c' kp e =>
  ⟨.ref s.heap.objs.size,_,I.laid (t':=s.toks) kp (jB _) (show lD X.prog X.w _ h' _ (.l ys) from⟨hz,cA,c',r',e⟩),rfl,q _ (I.RA.fresh (jB _))⟩
 rcases hq with hq | hq
 ·obtain⟨cA,r',pl,hz⟩:=I.list hq;have mB:=r'.length;obtain⟨o,ho,hc,n,hd⟩:=pl.isList;exact call_list_seq p (.inl rfl) ho hc hd (λh' c' kp e=>fin cA r' hz h' c' kp e) (by simp only[gD]<;>lia)
 ·obtain⟨cA,r',pl,hz⟩:=I.tuple hq;have mB:=r'.length;obtain⟨o,ho,hc,n,hd⟩:=pl;exact call_list_seq p (.inr rfl) ho hc hd (λh' c' kp e=>fin cA r' hz h' c' kp e) (by simp only[gD]<;>lia)
def jd:DF X (.type "tuple") (λxs H Q=>∃p ys,xs=[.ref p]/\((zB X.K H p ys/\∀l,H l=none->Q (.ref l) (CA H l (.t ys)))\/(QC X.K H p ys/\Q (.ref p) H))):=by
 intro aA s Y H xs us Q I r h;obtain⟨p,ys,rfl,h⟩:=h;obtain⟨u,rfl,rx⟩:=aAt r;cases rx;rcases h with ⟨hq,q⟩ | ⟨hq,q⟩
 ·obtain⟨cA,r',pl,hz⟩:=I.list hq;have mB:=r'.length;refine call_tuple_list pl.isList (λh' kp=>?_) (by simp only[gD]<;>lia);have I1:fA X aA Y H { s with heap:=h' }:=I.kept (t':=s.toks) kp
  have I2:fA X aA Y (CA H h'.objs.size (.t ys)) { s with heap:=h'.push { cls:=.type "tuple",data:=.seq cA.toArray } } :=
   I1.laid (t':=s.toks) (λb o e=>oC _ e) (jB _) (show lD X.prog X.w _ _ _ (.t ys) from⟨hz,cA,r',MY _ _⟩)
  exact⟨.ref h'.objs.size,_,I2,rfl,q _ (I1.RA.fresh (jB _))⟩
 ·obtain⟨cA,r',pl,hz⟩:=I.tuple hq;exact call_tuple_same pl ⟨.ref p,H,I,rfl,q⟩
def f9(K:iA)(T:String)(x:V)(H:Hp):Prop:=match x with
 |.str _=>T="str"
 |.int _=>T="int"
 |.ref p=>(T="list"/\∃xs,zB K H p xs)\/(T="tuple"/\∃o,K.lookup p=some o/\o.cls=.type "tuple"/\o.dict=none) \/
   (T="dict"/\∃RB,H p=some (.dK RB))\/(T="set"/\∃S n,H p=some (.set S n))
 |_=>False
def Eo(I:fA X aA Y H s)(r:aAc x v)(ty:f9 X.K T x H) :
  s.TypeIs v T/\∀a,v=.ref a->∃ob,s.heap.get? a=some ob/\ob.dict=none:=by
 cases x with
 |str z =>
  obtain⟨t,rfl⟩:=r;cases (show T="str" from ty);exact⟨typeIs_str s z t,λ_ e=>nomatch e⟩
 |int i =>
  obtain⟨t,rfl⟩:=r;cases (show T="int" from ty);exact⟨Fb s i t,λ_ e=>nomatch e⟩
 |ref p =>
  cases r;rcases ty with ⟨rfl,xs,hq⟩ | ⟨rfl,o,hk,hc,hd⟩ | ⟨rfl,hk⟩ | ⟨rfl,S,n,hk⟩
  ·obtain⟨cA,_,pl,_⟩:=I.list hq;refine⟨pl.isList.typeIs,λa e=>?_⟩;cases e;obtain⟨o,n,e,c,hd,_⟩:=pl;exact⟨o,e,hd⟩
  ·refine⟨⟨o,I.QE p o hk,hc⟩,λa e=>?_⟩;cases e;exact⟨o,I.QE _ o hk,hd⟩
  ·have z:∃o,s.heap.get? p=some o/\o.ExactDict:=by
    obtain⟨RB,hk⟩:=hk;obtain⟨_,_,_,_,o,_,_,e,ex,_⟩:=I.RA p _ hk;exact⟨o,e,ex⟩
   obtain⟨o,e,ex⟩:=z;refine⟨⟨o,e,ex.1⟩,λa e2=>?_⟩;cases e2;exact⟨o,e,ex.2.1⟩
  ·obtain⟨o,_,_,_,e,ex,_⟩:=I.RA p _ hk;refine⟨⟨o,e,ex.1⟩,λa e2=>?_⟩;cases e2;exact⟨o,e,ex.2.1⟩
 |_=>exact nI ty
def eXa(K:iA)(T:String)(r:V->List V->Hp->VK->Prop)(to:TE):TE:=λY H Q=>to Y H λx H1=>f9 K T x H1/\r x [] H1 Q
def tBM(K:iA)(T:String)(r:V->List V->Hp->VK->Prop)(to:TE)(t:TA):TE:=λY H Q=>to Y H λx H1=>f9 K T x H1/\t Y H1 λxs H2=>r x xs H2 Q
variable{T id:String}
def zOa(pa:PlainAttrs T)(slot:Slot T name id)(OM:typeOf (.builtin id)=pure (.type "method_descriptor"))(hm:eZ X id r)(ho:PE X o to)
  (mS:attributeBase o name X.env (eval o X.env)=eval o X.env:=by rfl) (qS:(wB.endLine==GB.line)=true:=by rfl):PE X (.Call (.Attribute o name wB) [] [] GB) (eXa X.K T r to):=by
 intro aA s Y H Q I h;refine wpAny_Call_method0_late mS qS (UA (ho aA s Y H _ I h) λv s1 hz=>?_);obtain⟨x,H1,I1,r1,ty,q1⟩:=hz;obtain⟨h1,h2⟩:=Eo I1 r1 ty;exact⟨T,id,pa,slot,OM,h1,h2,Calls.callWith_builtin rfl (PySem.evalArgs_none (hm aA s1 Y H1 x [] v [] Q I1 r1 .nil q1))⟩
def yOa(pa:PlainAttrs T)(slot:Slot T name id)(OM:typeOf (.builtin id)=pure (.type "method_descriptor"))(hm:eZ X id r)(ho:PE X o to)(ha:PA X (e::es) t)
  (mS:attributeBase o name X.env (eval o X.env)=eval o X.env:=by rfl)
  (W4:((yF GB (zC (e::es) X.env)).all (λx=>!x.1)&&(backToKw GB (keywordEach [] X.env)).all (λx=>x.1.isSome)
   && decide ((e::es).length+([]:List rR).length+(if([]:List rR).isEmpty then 0 else 1)<30))=true:=by rfl)
  (qS:(wB.endLine==GB.line)=true:=by rfl) (hs:zC (e::es) X.env=(false,eval e X.env)::zC es X.env:=by rfl) (sBa:(yF GB (zC es X.env)).any (·.1)=false:=by rfl) :
  PE X (.Call (.Attribute o name wB) (e::es) [] GB) (tBM X.K T r to t):=by
 intro aA s Y H Q I h;refine Up mS W4 qS rfl (UA (ho aA s Y H _ I h) λv s1 hz=>?_);obtain⟨x,H1,I1,r1,ty,q1⟩:=hz;obtain⟨h1,h2⟩:=Eo I1 r1 ty;refine⟨T,id,pa,slot,OM,h1,h2, ?_⟩;have hA:=ha GB aA s1 Y H1 _ I1 q1;rw[hs] at hA ⊢;refine Calls.callWith_builtin (by show(false||(yF GB (zC es X.env)).any (·.1))=false;rw[sBa]<;>rfl) (Calls.evalArgs_plain ?_);exact UA hA λus s2 hz=>(by obtain⟨vs,H2,I2,r2,q2⟩:=hz;exact hm aA s2 Y H2 x vs v us Q I2 r1 r2 q2)
end
def Tb(X:Cx)(id:String)(r:V->List V->Hp->VK->Prop):Prop :=
 ∀(aA:List (kA×IB)) (s:zA) (Y:St) (H:Hp) (x:V) (xs:List V) (v:dA) (us:List dA) (Q:VK),fA X aA Y H s->aAc x v->aAb xs us->r x xs H Q ->
  rA (model X.prog X.w) X.A (call (.builtin id) (v::us)) (EP X aA Y Q) X.xe s
def aAb.one{x:V}{us:List dA}(h:aAb [x] us):∃u,us=[u]/\aAc x u:=by
 cases h with | cons r t=>cases t;exact⟨_,rfl,r⟩
theorem aAb.zero:∀{us:List dA},aAb [] us->us=[]
 |_,.nil=>rfl
theorem aAb.dropLast(h:aAb xs us):aAb xs.dropLast us.dropLast:=by
 induction h with
 |nil=>exact .nil
 |cons r t ih =>
  cases t with
  |nil=>exact .nil
  |cons q t'=>exact .cons r ih
theorem aAb.rep(h:aAb xs us):∀k:Nat,aAb (HB k xs).flatten (HB k us).flatten
 | 0=>.nil
 |k+1=>by(rw[VL,VL,VO,VO];exact aAb.append h (aAb.rep h k))
def Vy(l:List O):l.eraseIdx (l.length-1)=l.dropLast:=by
 induction l with
 |nil=>rfl
 |cons a r ih =>
  cases r with
  |nil=>rfl
  |cons b r =>
   have e:(a::b::r).length-1=((b::r).length-1)+1:=by
    have h1:(a::b::r).length=r.length+2:=rfl;have h2:(b::r).length=r.length+1:=rfl
    lia
   rw[e,List.eraseIdx_cons_succ,ih]
   all_goals rfl
theorem aAN(cA:List dA):∀(k:Nat) (vA:List dA),
  LY (λx1 x2=>x1++x2) vA.toArray (HB k cA.toArray)=(vA++(HB k cA).flatten).toArray
 | 0,vA=>by simp
 |k+1,vA=>by
  have e:vA.toArray++cA.toArray=(vA++cA).toArray:=by simp
  have e2:(vA++cA)++(HB k cA).flatten=vA++(HB (k+1) cA).flatten:=by(rw[VL,VO,GH])
  rw[<- e2,<- aAN cA k (vA++cA),<- e,VL,JK]
section
variable{X:Cx}{aA:List (kA×IB)}{Y:St}{H:Hp}{s:zA}{l b:kA}{xs ys zs:List V}
def fA.Di{cA its':List dA}(I:fA X aA Y H s)(hH:H l=some (.l xs))
  (e:s.heap.get? l=some { cls:=.type "list",data:=.seq cA.toArray n }) (hf:f cA.toArray=its'.toArray) (hv:aAb ys its') (hz:ys.length<=sizeLine) :
  fA X aA Y (CA H l (.l ys)) { s with heap:=s.heap.update l (TK f),toks:=t' }:=by
 have q:=PySem.IsL.update e f;rw[hf] at q;refine I.write (x:=l) (e:=l) (by rw[hH];exact trivial) (.inl rfl) (λb' u hb hu=>(Tp s.heap (TK f) (gF hb)).trans hu) ⟨_,q⟩ ?_;exact⟨hz,its',_,hv,q⟩
def fA.W6(I:fA X aA Y H s)(hv:aAb ys cA)(hz:ys.length<=sizeLine) :
  fA X aA Y (CA H s.heap.objs.size (.l ys)) { s with heap:=s.heap.push { cls:=.type "list",data:=.seq cA.toArray },toks:=t' } :=
 I.laid (λ_ _ q=>oC _ q) (jB _) ⟨hz,cA,0,hv,XD _ rfl⟩
theorem fA.fresh(I:fA X aA Y H s):H s.heap.objs.size=none:=I.RA.fresh (jB _)
def fA.c7(I:fA X aA Y H s)(hH:H l=some (.l xs)):xs.length<=sizeLine/\∃(cA:List dA) (n:Nat),aAb xs cA/\xs.length=cA.length/\s.heap.get? l=some { cls:=.type "list",data:=.seq cA.toArray n }:=by
 obtain⟨z,cA,n,r,e⟩:=I.RA l _ hH;exact⟨z,cA,n,r,r.length,e⟩
def rKa(h:n<=sizeLine):B9 n=false:=by
 unfold B9;exact VA (by lia)
end
section
variable{X:Cx}
def nSa:V->List V->Hp->VK->Prop:=λx vs H Q=>∃l xs y,x=.ref l/\vs=[y]/\H l=some (.l xs)/\xs.length<sizeLine/\Q .pA (CA H l (.l (xs++[y])))
def Ni:Tb X "list.append" nSa:=by
 intro aA s Y H x vs v us Q I rx rv h;obtain⟨l,xs,y,rfl,rfl,hH,hz,q⟩:=h;cases rx;obtain⟨u,rfl,ru⟩:=rv.one;obtain⟨z,cA,n,r,hl,e⟩:=I.c7 hH;refine xU dq ⟨_,e,rfl⟩ F.entry_list_append (F.args_list_append_2 _ _) (PySem.list_append l cA.toArray n u (by rw[gD];lia)) ⟨e, ?_⟩;refine⟨.pA,_,I.Di (its':=cA++[u]) hH e (by simp) (r.append (.cons ru .nil)) ?_,rfl,q⟩;rw[kC,iF]
 lia
def uSa:V->List V->Hp->VK->Prop:=λx vs H Q=>∃l xs y,x=.ref l/\vs=[]/\H l=some (.l xs)/\xs[xs.length-1]?=some y/\Q y (CA H l (.l xs.dropLast))
def wJa:Tb X "list.pop" uSa:=by
 intro aA s Y H x vs v us Q I rx rv h;obtain⟨l,xs,y,rfl,rfl,hH,hy,q⟩:=h;cases rx;have hus:=rv.zero;subst hus;obtain⟨z,cA,n,r,hl,e⟩:=I.c7 hH;obtain⟨u,hu,ru⟩:=r.get hy
 have oO:cA.toArray[cA.toArray.size-1]?=some u:=by(show cA.toArray[cA.length-1]?=some u;rw[<- VT,<- hl];exact hu)
 refine xU Lq ⟨_,e,rfl⟩ F.entry_list_pop (F.args_list_pop_1 _) (MeetsSeq.list_pop_last l cA.toArray n u oO (by rw[gD];lia)) ⟨e, ?_⟩;refine⟨y,_,I.Di (its':=cA.dropLast) hH e ?_ r.dropLast ?_,ru,q⟩
 ·show cA.toArray.eraseIdxIfInBounds (cA.toArray.size-1)=cA.dropLast.toArray;rw[gD,List.eraseIdxIfInBounds_toArray,Vy]
 ·rw[List.length_dropLast]
  lia
def vSa:R2:=λx y H Q=>∃l k xs,x=.ref l/\y=.int k/\H l=some (.l xs)/\-(2 ^ 63)<=k/\k<2 ^ 63/\xs.length*k.toNat<=sizeLine /\
 ∀p,H p=none->Q (.ref p) (CA H p (.l (HB k.toNat xs).flatten))
def aAX(xs:List O)(k:Nat):(HB k xs).flatten.length=k*xs.length:=by
 induction k with
 |zero=>simp
 |succ k ih=>rw[VL,VO,kC,ih,Nat.succ_mul,Nat.add_comm]
def oNa:OC X (fF .Mult) vSa:=by
 intro aA s Y H x y v u Q I rx ry h;obtain⟨l,k,xs,rfl,rfl,hH,h1,h2,hz,q⟩:=h;cases rx;obtain⟨t,rfl⟩:=ry;obtain⟨z,cA,n,r,hl,e⟩:=I.c7 hH;have mB:cA.toArray.size*k.toNat<=sizeLine:=by rw[gD,<- hl];exact hz
 have bAa:¬cA.toArray.size*k.toNat > (2 ^ 63-1) / 8:=by
  have:(sizeLine:Nat)<=(2 ^ 63-1) / 8:=by decide
  lia
 have pK:¬(!Builtin.List.listFitsIndex k)=true:=by(rw[fitsIndex_both h1 h2];exact fD)
 have xAa:¬B9 (cA.toArray.size*k.toNat)=true:=by(rw[rKa mB];exact fD)
 have sS:LY (λx1 x2=>x1++x2) #[] (HB (if cA.toArray.isEmpty=true then 0 else k.toNat) cA.toArray)=(HB k.toNat cA).flatten.toArray:=by
  have f0:∀m:Nat,LY (λx1 x2=>x1++x2) #[] (HB m cA.toArray)=(HB m cA).flatten.toArray:=λm=>by
   have:=aAN cA m []
   rw[aP] at this;exact this
  rw[f0]
  cases cA with
  |nil=>simp
  |cons a r'=>rw[if_neg (by simp)]
 refine wpAny_binaryOp_repeat_ref (T:="list") (U:="int") (by decide) ⟨_,e,rfl⟩ (λs'=>Fb s' k t) noFill_list_mul F.fills_int_mul xr repeat_list F.slot_int_index.lookup
  (xU xr (Fb s k t) F.entry_int_rmul (F.args_int_rmul_2 _ _) (int___rmul___int_list k t l cA.toArray n)
   ⟨e,rfl,⟨_,e,rfl⟩,xU F.slot_list_mul ⟨_,e,rfl⟩ F.entry_list_mul (F.args_list_mul_2 _ _) (AutoListH.list___mul___list_int_3 l cA.toArray n k t pK bAa xAa) ⟨e, ?_⟩⟩)
 rw[sS];exact⟨.ref _,_,I.W6 (t':=s.toks) (r.rep k.toNat) (by rw[aAX,Nat.mul_comm];exact hz),rfl,q _ I.fresh⟩
end
end L2
namespace Att
open PySem PySem.W PySem.Calls PyProof.Rows
def zCa:∀(ns:List Int) (vs:List dA),WellAll P h vs (ns.map WData.int)->IntsAre vs ns:=by
 intro ns
 induction ns with
 |nil =>
  intro vs w;rw[RI] at w;cases w;exact .nil
 |cons n ns ih =>
  intro vs w;rw[AB] at w
  cases w with
  |cons a b =>
   cases a;exact .cons _ _ (ih _ b)
def uUa{l:wU}(hn:l.most=some n)
  (LM:l.row.toRowW.claim.pre args=true) (ES:WellAll P h vals args) :
  ∃a vs ns,vals=[Value.ref a]/\args=[WData.list (ns.map WData.int)]/\h.get? a=some { cls:=.type "list",data:=.seq vs.toArray }/\IntsAre vs ns/\ns.length<=n:=by
 have hsh:WShape.hasAll [] args [.list .int]=true:=(pre_splitW LM).1;have hc:l.pre.holds [] { args:=args }=true:=(pre_splitW LM).2;obtain⟨d,r,rfl,h1,h2⟩:=hasAllW_cons hsh;obtain rfl:=hasAllW_nil h2;obtain⟨xs,rfl,h3⟩:=hasW_list h1;obtain⟨ns,rfl⟩:=items_int h3
 have mB:ns.length<=n:=by
  unfold OpenLaw.pre at hc
  have h4:(WTm.not (.lt (.lit (.int (n:Int))) (.len (.arg 0)))).holds [] { args:=[.list (ns.map .int)] }=true:=by(have h4:=(holds_andW hc).1;rw[hn] at h4;exact h4)
  have h5:=condW_of h4 (w_not (w_lt w_lit (w_len_list (w_arg rfl))));rw[nA] at h5;refine gY λq=>?_
  have q':(n:Int)<((ns.length:Nat):Int):=by omega
  first
   | (rw[kB q'] at h5;exact absurd h5 (by decide))
   | (simp at h5;omega)
 cases ES with
 |cons w1 w2 =>
  cases w2
  cases w1 with
  |list ho kK=>exact⟨_,_,ns,rfl,rfl,ho,zCa ns _ kK,mB⟩
def uQa(l:wU)(args:List WData):l.row.toRowW.claim.post args (.bool true) args=true :=
 postW_of (r:=l.row.toRowW) (X:=(true==true))
  (show Wr [] (.bool true) .bool=true by first | rfl | decide | simp[Wr,WShape.arms,WShape.armsAll])
  (show(WTm.eq .res (.lit (.bool true))).value [] { args:=args,res:=some (.bool true),after:=args }=some (.bool (true==true)) from w_eq_bool (w_res rfl) w_lit) rfl
def Vu{l:wU}
  (hn:l.most=some n) (nS:d.params.defaults=[])
  (call:∀(w:WB) (s₀ s₁:zA) (mg mb:bA->Option dA) (fa:kA) (o:IB) (pm cd doc:dA) (a:kA) (vs:List dA) (ns:List Int),
   Ground q loose [] XP w s₀ mg mb s₁.heap->YP w s₁.heap ->
   s₁.heap.get? fa=some o->o.data=.func (docDef d.name d.params d.body d.scope pm cd doc)->s₁.heap.CodeRec cd d.name->mg d.name=some (.ref fa) ->
   s₁.heap.get? a=some { cls:=.type "list",data:=.seq vs.toArray }->IntsAre vs ns->ns.length<=n->s₁.gens=#[] ->
   mM (model l.prog w) callerA (.call (.ref fa) ⟨[.ref a],[]⟩) (λr s'=>r=.ok (.ret (.bool true))/\OldK s₁.heap s'.heap/\s'.os=s₁.os/\lM s'.gens) s₁) :
  xb q loose XP YP l.row.toRowW d [] (λf vs=>Gb f vs):=by
 intro w s₀ s₁ mg mb G Y fa o pm cd doc dV kV ho hd lK hD fQ hg args vals as LM y1a F5 ES Qf;obtain rfl:dV=.none:=Dflts.none hD nS;obtain rfl:kV=.none:=Dflts.noKw hD;obtain⟨a,vs,ns,rfl,rfl,A5,hints,mB⟩:=uUa hn LM ES;refine enter_call (mR (call w s₀ s₁ mg mb fa o pm cd doc a vs ns G Y ho (fd_plain hd) lK fQ A5 hints mB hg) λr s' hq=>?_);obtain⟨rfl,h2,h3,h4⟩:=hq;exact⟨.inl ⟨.bool true,.bool true,[],rfl,λ_=>rfl,.bool true,uQa l _,λ_=>⟨List.Pairwise.nil,λ_ hm=>(nomatch hm)⟩⟩,h2,h3,h4⟩
end Att
namespace L2
open PySem PySem.Spec PyProof.Rows
def fZa(h:IntsAre vs ns):aAb (ns.map V.int) vs:=by
 induction h with
 |nil=>exact .nil
 |cons n t h ih=>exact .cons ⟨t,rfl⟩ ih
def jZ(H:Hp):Prop:=∀b,H b=none\/∃o xs,H b=some (.uD o (.l xs))
def cHa{K:iA}
  (KX:K.In s₁.heap) (GI:s₁.heap.Ns nC mg) (hb:s₁.heap.Ns builtinsNs mb) (V':∀x:bA,x≠"__name__"->mb x=QK x) (wAa:s₁.heap.NoLimit) (hg:s₁.gens=#[])
  (ha:s₁.heap.get? a=some { cls:=.type "list",data:=.seq vs.toArray }) (hi:IntsAre vs ns) (hl:ns.length<=sizeLine) (hr:YC k callerA)
  (F:∀base:TB,K.In base->base.Ns nC mg->VF P w K mg base CX k fa fd [x] sp) (W':∀(s:zA) (u:dA),PY s fd ⟨[u],[]⟩ [(x,u)])
  (YH:∀H:Hp,jZ H->zB K H a (ns.map V.int)->sp [.ref a] H (λv _=>v=.bl true) λ_ _ _=>False)
  (L4:∀H e s',CX [] H s₁ (λ_ _ _=>False) e s'->False) :
  mM (model P w) callerA (.call (.ref fa) ⟨[.ref a],[]⟩) (λr s'=>r=.ok (.ret (.bool true))/\OldK s₁.heap s'.heap/\s'.os=s₁.os/\lM s'.gens) s₁:=by
 have rv:=fZa hi;have yHa:=hi.length
 -- from an abstract heap in v2a nothing but UE script may be tracked
 have core:∀H:Hp,jZ H->zB K H a (ns.map V.int)->ND P w H s₁.heap->(∀b,H b≠none->b=a)->(H a≠none->K.lookup a=none) ->
   mM (model P w) callerA (.call (.ref fa) ⟨[.ref a],[]⟩) (λr s'=>r=.ok (.ret (.bool true))/\OldK s₁.heap s'.heap/\s'.os=s₁.os/\lM s'.gens) s₁:=by
  intro H hO hS RA hA hK;have base_of:∀{b:kA} {o:IB},s₁.heap.get? b=some o->H b=none->(tL s₁.heap H).get? b=some o:=λe n=>pAa e n
  have kT:∀{b:kA} {o:IB} {es:Array CN} {ep:Nat},s₁.heap.get? b=some o->o.data=.dict es ep->H b=none:=λ{b o es ep} e d=>by
   cases q:H b with
   |none=>rfl
   |some u =>
    have e':b=a:=hA b (by rw[q];simp);subst e';rw[ha] at e;cases e;have d':Data.seq vs.toArray _=Data.dict es ep:=d;cases d'
  have UW:∀{b:kA} {m:bA->Option dA},s₁.heap.Ns b m->(tL s₁.heap H).Ns b m:=λ{b m} ⟨o,es,ep,e,d,r⟩=>⟨o,es,ep,base_of e (kT e d),d,r⟩
  have ff:K.In (tL s₁.heap H):=λb o e=>base_of (KX b o e) (by
   cases q:H b with
   |none=>rfl
   |some u =>
    have e':b=a:=hA b (by rw[q];simp);subst e'
    rw[hK (by rw[q];simp)] at e;cases e)
  have hM:Mod K mg (tL s₁.heap H):=⟨ff,UW GI,⟨mb,UW hb,V'⟩,let ⟨mc,h1,h2⟩:=wAa;⟨mc,UW h1,h2⟩⟩
  have e0:GN P w K mg (tL s₁.heap H) callerA [] s₁ H:=⟨rfl,hM,λb o e=>aLa e,RK (qAa _ _),trivial,λb hb=>absurd (show b∈([]:List kA) from hb) (by simp),RA,.of_eq hg⟩
  refine mR ((F _ ff (UW GI)).run callerA [] s₁ H ⟨[.ref a],[]⟩ [.ref a] [.ref a] _ _ hr e0 (W' s₁ (.ref a)) (.cons rfl .nil) (YH H hO hS)) λr s' h=>?_
  cases r with
  |error e=>exact(L4 H e s' h).elim
  |ok fl =>
   cases fl with
   |next=>exact nI h
   |brk=>exact nI h
   |cont=>exact nI h
   |ret u =>
    obtain⟨v,H',os,bare,un,lBa,r',q⟩:=h;have q':v=.bl true:=q;subst q';obtain rfl:u=Value.bool true:=r';refine⟨rfl,OldK.of_keep λb o e=>?_,os,bare⟩
    cases q:H b with
    |none=>exact un.keep b o e q (by intro z;exact absurd (show b∈([]:List kA) from z) (by simp)) (by simp)
    |some u =>
     rcases hO b with z | ⟨ob,xs,z⟩
     ·rw[q] at z;cases z
     ·have z2:=un.nL b ob _ z;obtain⟨e1,_⟩:=RA b _ z;obtain⟨e2,_⟩:=lBa b _ z2;rw[e] at e1;cases e1;exact e2
 cases hk:K.lookup a with
 |some o =>
  -- UE script is one of UE nJa own objects
  have e:=KX a o hk;rw[ha] at e;cases e;refine core (λ_=>none) (λ_=>.inl rfl) (.inr ⟨_,vs.toArray,_,hk,rfl,rfl,rfl,by rw[gD,yHa];exact hl,by simpa using rv⟩) (λb u z=>by have z':(none:Option HO)=some u:=z;cases z') (λb z=>absurd rfl z) λz=>absurd rfl z
 |none =>
  refine core (λb=>if b=a then some (.uD { cls:=.type "list",data:=.seq vs.toArray } (.l (ns.map V.int))) else none) (λb=>?_) (.inl (.inr ⟨{ cls:=.type "list",data:=.seq vs.toArray },KA rfl⟩)) (λb u z=>?_) (λb z=>?_) λ_=>hk
  ·by_cases hb:b=a
   ·exact .inr ⟨_,_,KA hb⟩
   ·exact .inl (if_neg hb)
  ·by_cases hb:b=a
   ·have z':=(KA hb).symm.trans z;cases z';subst hb;exact⟨ha,by rw[nA];exact hl,vs,_,rv,ha⟩
   ·have z':=(if_neg hb).symm.trans z;cases z'
  ·by_cases hb:b=a
   ·exact hb
   ·exact absurd (if_neg hb) z
abbrev fC{K:iA}{h:TB}(_:K.In h):iA:=K
def iZa{l:wU}{K:AU->iA}{CX:WB->FN}{sp:WB->Sp}{x:bA}
  (hn:l.most=some n) (fW:n<=sizeLine) (nS:d.params.defaults=[]) (hr:YC k callerA)
  (hY:∀(w:WB) (h:TB),YP w h->(K w.params).In h)
  (F:∀(w:WB) (mg:bA->Option dA) (fa:kA) (h:TB),(K w.params).In h->h.Ns nC mg->mg d.name=some (.ref fa) ->
   ∃fd:DH,(∀(s:zA) (u:dA),PY s fd ⟨[u],[]⟩ [(x,u)]) /\
    ∀base:TB,(K w.params).In base->base.Ns nC mg->VF l.prog w (K w.params) mg base (CX w) k fa fd [x] (sp w))
  (YH:∀(w:WB) (H:Hp) (a:kA) (ns:List Int),ns.length<=n->jZ H->zB (K w.params) H a (ns.map V.int)->sp w [.ref a] H (λv _=>v=.bl true) λ_ _ _=>False)
  (L4:∀(w:WB) (H:Hp) (s:zA) (e:dA) (s':zA),CX w [] H s (λ_ _ _=>False) e s'->False) :
  xb q loose XP YP l.row.toRowW d [] (λf vs=>Gb f vs):=by
 refine Att.Vu hn nS λw s₀ s₁ mg mb fa o pm cd doc a vs ns G Y ho hd lK fQ A5 hints mB hg=>?_
 have KX:=hY w _ Y;obtain⟨fd,hb,hF⟩:=F w mg fa _ KX G.T.g fQ;exact cHa KX G.T.g G.T.b G.T.builtins G.T.nolimit hg A5 hints (EC mB fW) hr hF hb (λH hO hS=>YH w H a ns mB hO hS) λH e s'=>L4 w H s₁ e s'
noncomputable def NH(s:rB):Arguments:=match s with
 |.FunctionDef _ a _ _ _ _ _ _ _ _=>a
 |_=>{ posonlyargs:=[],args:=[],vararg:=none,kwonlyargs:=[],kw_defaults:=[],kwarg:=none,defaults:=[] }
noncomputable def pE(s:rB):List rB:=match s with
 |.FunctionDef _ _ b _ _ _ _ _ _ _=>b
 |_=>[]
noncomputable def uC(s:rB):tG:=match s with
 |.FunctionDef _ _ _ _ _ _ sc _ _ _=>sc
 |_=>{ kind:=.function,names:=[],isGenerator:=false,isCoroutine:=false }
abbrev YG:FN:=λ_ _ _ _ _ _=>False
abbrev E0:XK:=λ_ _ _=>False
def bX:aAB YG X E0:=λ_ _ _ _ _ _ _ h=>h.elim
structure ZK(K:iA)(x eB:bA)(st:rB)(f:kA)(fd:DH):Prop where
 ex:∃(oc:dA) (od:Option kA) (kV doc pm:dA) (an:Option kA) (YA ct:dA) (rF:Array (Option dA)),
  fd=AH x eB (NH st) (pE st) (uC st) .none kV doc pm an YA ct/\K.lookup f=some ⟨oc,od,.func fd,rF⟩/\cP K YA eB=true
 kp:qI K (.ref f)=true
section
variable{P:KC}{w:WB}{K:iA}{mg:bA->Option dA}{base:TB}
def ZK.ok{st:rB}(F:ZK K x eB st f fd)(S:rM N ps (uC st))(len:∀vs H Q E,sp vs H Q E->vs.length=ps.length)
  (R4:∀(YA:dA) (A:RD) (outer:List Env) (s:zA) (H:Hp) (vs:List V) (Q:VK) (E:XK),YC k (A.deeper (envOfC eB (uC st) s.heap.objs.size f YA))->sp vs H Q E ->
   ∃t,tD (ZJ YG P w K mg base N eB (uC st) f YA A outer s H E).xQ (pE st) t/\t { nx:=λ_ H'=>Q .pA H',rt:=Q } (aAj N vs) H):VF P w K mg base YG (k+1) f fd ps sp:=by
 obtain⟨oc,od,kV,doc,pm,an,YA,ct,rF,rfl,lk,lK⟩:=F.ex;refine m_ lk lK S len λA outer s H vs Q E hr YH=>?_
 obtain⟨t,h,q⟩:=R4 YA A outer s H vs Q E hr YH;exact⟨t,h.xQ,q⟩
def ZK.binds{st:rB}(F:ZK K x eB st f fd)
  (h:∀(kV doc pm:dA) (an:Option kA) (YA ct:dA) (us:List dA),us.length=ps.length->bindArgs (AH x eB (NH st) (pE st) (uC st) .none kV doc pm an YA ct) ⟨us,[]⟩=pure (ps.zip us)):aAw K fd ps []:=by
 obtain⟨oc,od,kV,doc,pm,an,YA,ct,rF,rfl,lk,lK⟩:=F.ex;exact .all (h kV doc pm an YA ct)
def HV{st:rB}{kV doc pm YA ct:dA}(l:K.lookup f=some ⟨oc,od,.func (AH x eB (NH st) (pE st) (uC st) .none kV doc pm an YA ct),rF⟩)
  (c:cP K YA eB=true) (k:qI K (.ref f)=true):ZK K x eB st f (AH x eB (NH st) (pE st) (uC st) .none kV doc pm an YA ct):=⟨⟨oc,od,kV,doc,pm,an,YA,ct,rF,rfl,l,c⟩,k⟩
end
def nQ{A B:Prop}(h:B):if false=true then A else B:=by
 rw[if_neg fD];exact h
def oQ{A B:Prop}(h:A):if true=true then A else B:=by
 rw[KA rfl];exact h
def XA(H H':Hp):Prop:=∀b o,H b=some o->H' b=some o
def XA.refl(H:Hp):XA H H:=λ_ _ h=>h
def XA.trans(a:XA H H1)(b:XA H1 H2):XA H H2:=λc o h=>b c o (a c o h)
def XA.free(e:XA H H')(h:H' l=Option.none):H l=Option.none:=by
 cases q:H l with
 |none=>rfl
 |some o =>
  rw[e l o q] at h;cases h
def XA.seq{K:iA}(e:XA H H')(h:zB K H a xs):zB K H' a xs:=by
 rcases h with (h | ⟨o,h⟩) | h
 ·exact .inl (.inl (e _ _ h))
 ·exact .inl (.inr ⟨o,e _ _ h⟩)
 ·exact .inr h
end L2
set_option maxHeartbeats 4000000
namespace L2
open PySem PySem.Spec PyProof.Rows
section
variable{J:Type}[DecidableEq J]
noncomputable def kI(RB:List (J×V))(k:J):Option V:=(RB.find? λkv=>decide (kv.1=k)).map (·.2)
def Ko{k:J}(e:p.1=k):kI (p::r) k=some p.2:=by simp[kI,yN,e]
def Jo{k:J}(e:¬p.1=k):kI (p::r) k=kI r k:=by simp[kI,yN,e]
def aH.vDa(r:aH o u):o.isSome=u.isSome:=by
 cases o with
 |none=>cases u with
  |none=>rfl
  |some _=>exact(show False from r).elim
 |some _=>cases u with
  |none=>exact(show False from r).elim
  |some _=>rfl
def KV.val(r:KV RB vs)(k:J):aH (kI RB k) (valueAt vs k):=by
 unfold KV at r
 induction r with
 |nil=>exact True.intro
 | @cons p q ps qs h t ih =>
  obtain⟨h1,h2⟩:=h;by_cases e:p.1=k
  ·have e':q.1=k:=h1.symm.trans e;have b:valueAt (q::qs) k=some q.2:=by simp[valueAt,yN,e']
   rw[Ko e,b];exact h2
  ·have e':¬q.1=k:=λz=>e (h1.trans z)
   have b:valueAt (q::qs) k=valueAt qs k:=by simp[valueAt,yN,e']
   rw[Jo e,b];exact ih
end
def Rh(r:aAc (kV k) u):(rQ P w).is k u=true:=by
 cases k with
 |inl i=>obtain⟨t,e⟩:=(show ∃t,u=Value.int i t from r);subst e;exact kJa P w i t
 |inr x=>obtain⟨t,e⟩:=(show ∃t,u=Value.str x t from r);subst e;exact lJa P w x t
section
variable{P:KC}{w:WB}{H:Hp}{h:TB}{a:kA}
def eTa(ok:ND P w H h)(e:Rd H a u):lD P w H h a u:=e.ok ok
def n0(ok:ND P w H h)(e:Rd H a (.dK RB)):RB.length<=sizeLine/\(a==sysModules)=false/\∃vs,KV RB vs/\h.DictOf (rQ P w) a vs :=
 show lD P w H h a (.dK RB) from eTa ok e
end
def pM(H:Hp)(a:kA)(y:V)(r:Option V):Prop :=
 (∃RB k,Rd H a (.dK RB)/\y=kV k/\r=kI RB k)\/False
theorem pM.k{k:Key}(e:H a=some (.dK RB)):pM H a (kV k) (kI RB k):=.inl ⟨RB,k,.inl e,rfl,rfl⟩
section
variable{X:Cx}{aA:List (kA×IB)}{Y:St}{H:Hp}{s:zA}{a:kA}{y v:V}{u r:dA}{o:Option V}{A:RD}{E:dA->zA->Prop}
def fA.big(I:fA X aA Y H s):sysModules<s.heap.objs.size:=by
 have h:nC<s.heap.objs.size:=(I.mod.glob.keeps I.bk).lt;exact fP (by decide) h
def Ox(hu:A.units+1<cLine)(I:fA X aA Y H s)(g:pM H a y (some v))(ry:aAc y u)(h:∀w' s',fA X aA Y H s'->aAc v w'->Q w' s') :
  rA (model X.prog X.w) A (getItem (.ref a) u) Q E s:=by
 rcases g with ⟨RB,k,e,ey,l⟩ | g
 ·subst ey;obtain⟨z,hd,vs,wA,dd⟩:=n0 I.RA e;obtain⟨w',hw,dI⟩:=aH.some_of (v:=v) (o:=valueAt vs k) (by rw[l];exact wA.val k);exact wpAny_getItem_of (Rh ry) dd.mapOf hw (h w' _ (I.tok _) dI)
 ·exact g.elim
def Px(hu:A.units+1<cLine)(I:fA X aA Y H s)(g:pM H a y o)(ry:aAc y u)(h:∀s',fA X aA Y H s'->Q (.bool o.isSome) s') :
  rA (model X.prog X.w) A (gE .In u (.ref a)) Q E s:=by
 rcases g with ⟨RB,k,e,ey,l⟩ | g
 ·subst ey;obtain⟨z,hd,vs,wA,dd⟩:=n0 I.RA e;refine wpAny_in_of (Rh ry) hd dd.mapOf ?_;rw[<- (wA.val k).vDa,<- l];exact h _ (I.tok _)
 ·exact g.elim
def j0(I:fA X aA Y H s)(mu:zR (H a))(hs:SF a s.heap h')(he:∃q,h'.get? a=some q)(new:lD X.prog X.w (CA H a ob) h' a ob) :
  fA X aA Y (CA H a ob) { s with heap:=h',toks:=t' } :=
 I.write (x:=a) (e:=a) mu (.inl rfl) (λb q hb z=>(hs.2 b hb).trans z) he new
end
def Yx(I:fA X aA Y H s)(g:pM H a y o):s.TypeIs (.ref a) "dict":=by
 rcases g with ⟨RB,k,e,_,_⟩ | g
 ·obtain⟨_,_,vs,_,dd⟩:=n0 I.RA e;exact dd.typeIs
 ·exact g.elim
abbrev LA:=Int×List Int
section
variable{h:TB}
def LC(P:KC)(w:WB)(h:TB)(k:LA)(a:kA):Prop:=∃(t:BF) (b:kA),zF h a #[.int k.1 t,.ref b]/\IsTupleKey (intKind P w) h k.2 b
noncomputable def Q4(P:KC)(w:WB)(k:LA):Int:=reduceHash (jP [hashInt k.1,tupleKeyHash (intKind P w) k.2])
theorem LC.inj(hx:LC P w h x a)(hy:LC P w h y a):x=y:=by
 obtain⟨t,b,⟨o,e,_,n,d⟩,kx⟩:=hx;obtain⟨t',b',⟨o',e',_,n',d'⟩,ky⟩:=hy;rw[e] at e';cases e';rw[d] at d';have z:=(Sr d').1;have z1:Value.int x.1 t=Value.int y.1 t':=congrArg (λ(q:Array dA)=>q.getD 0 .none) z;have z2:Value.ref b=Value.ref b':=congrArg (λ(q:Array dA)=>q.getD 1 .none) z;cases z2;exact Prod.ext (Value.int.inj z1).1 ((tupleKind (intKind P w)).inj kx ky)
theorem LC.keeps(hk:LC P w h k a)(e:h.get? d=some o)(ed:o.data=.dict es ep)(sb:SF d h h'):LC P w h' k a:=by
 obtain⟨t,b,⟨o',e',c,n,d'⟩,kb⟩:=hk
 have ne:a≠d:=λz=>by(subst z;rw[e'] at e;cases e;rw[d'] at ed;cases ed)
 exact⟨t,b,⟨o',(sb.2 a ne).trans e',c,n,d'⟩,(tupleKind (intKind P w)).keeps kb e ed sb⟩
noncomputable def aN(k:LA):PyData:=.tuple [.int k.1,.tuple (k.2.map .int)]
def dEa{ns:List Int}{us:List dA}(q:tY (intKind P w) ns us):∃as,ReadsAll h us (ns.map .int) as:=by
 induction q with
 |nil=>exact⟨_,.nil⟩
 |cons hk t ih =>
  obtain⟨as,r⟩:=ih;obtain⟨tk,rfl⟩:=cY hk;exact⟨_,.cons (.int _ _) r⟩
def LC.reads(hk:LC P w h k a):∃as,Reads h (.ref a) (aN k) as:=by
 obtain⟨t,b,⟨o,e,c,n,d⟩,o2,cA,n2,e2,c2,d2,i2⟩:=hk;obtain⟨as,r⟩:=dEa i2;exact⟨_,.tuple e c d (.cons (.int _ _) (.cons (.tuple e2 c2 d2 r) .nil))⟩
def G7{ns:List Int}:WO (ns.map .int)=true:=by
 induction ns with
 |nil=>simp[WO]
 |cons n ns ih=>simp[WO,sI,ih]
def Ej{k:LA}:(aN k).canLay0=true:=by simp[aN,sI,WO,G7]
def Fj{ns:List Int}:bP (ns.map .int)<=1:=by
 induction ns with
 |nil=>simp[bP]
 |cons n ns ih=>simp[bP,UI];lia
def oOa{k:LA}:(aN k).depth<=5:=by
 have:=Fj (ns:=k.2)
 simp[aN,UI,bP]
 lia
theorem F7:∀{ns ms:List Int},AN (ns.map .int) (ms.map .int)=decide (ns=ms)
 |[],[]=>by simp[AN]
 |[],_::_=>by simp[AN]
 |_::_,[]=>by simp[AN]
 |n::ns,m::ms=>by(rw[AB,AB,AN,F7];simp only[yU,eR,yr];congr 1)
def pOa:(aN x).eqv (aN y)=decide (x=y):=by
 obtain⟨a,as⟩:=x;obtain⟨b,bs⟩:=y;simp only[aN,yU,AN,F7,Qa,nE,yr];congr 1
def Zd(hs:a=b->c=true)(r:SeqAt.RcAt A s (.ref a) (.ref b) c)(q:Q c s):rA (model P w) A (eqBool (.ref a) (.ref b)) Q E s:=by
 unfold eqBool;refine XG ?_;by_cases e:a=b
 ·subst e;rw[KA (by simp)];rw[hs rfl] at q;exact gA (iP (EA q))
 ·rw[if_neg (by simpa using e)];exact gA (r P w E _ (bM q))
theorem LC.eqBool(hu:A.units+8<cLine)(hx:LC P w s.heap x a)(hy:LC P w s.heap y b)(q:Q (decide (x=y)) s):rA (model P w) A (eqBool (.ref a) (.ref b)) Q E s:=by
 obtain⟨as,r1⟩:=hx.reads;obtain⟨bs,r2⟩:=hy.reads;have d1:=oOa (k:=x);refine Zd (λe=>kB (by subst e;exact hx.inj hy)) ?_ q;rw[<- pOa];exact xa r1 r2 Ej Ej (by lia)
theorem LC.pyHash(hu:A.units+8<cLine)(hk:LC P w s.heap k a)(q:Q (Q4 P w k) { s with toks:=s.toks+(k.2.length+3) }):rA (model P w) A (pyHash (.ref a)) Q E s:=by
 obtain⟨t,b,ht,kb⟩:=hk;show rA _ _ (pyHashByItsType (.ref a)) _ _ s;refine W.pyHash_slot ht.typeIs F.slot_tuple_hash F.entry_tuple_hash (F.args_tuple_hash_1 _) rfl (.inr (by lia)) ?_;unfold EH.«tuple.__hash__»;show rA _ _ (JX (.ref a)>>=_) _ _ s;refine gA (yY ht ?_);rw[<- W9];simp only[lU,Er,bind_assoc,pure_bind];refine gA (wpAny_pyHash_int ?_);refine gA (wpAny_pyHash_tuple (knd:=intKind P w) (by show A.units+1<cLine;lia) kb ?_);refine gA (jb (EA ⟨_,_,rfl, ?_⟩));have e:s.toks+1+(k.2.length+1)+1=s.toks+(k.2.length+3):=by lia
 show Q (Q4 P w k) { s with toks:=s.toks+1+(k.2.length+1)+1 };rw[e];exact q
def Ak(ht:zF s.heap a cA)(hi:∀v∈cA.toList,∀(R:Bool->zA->Prop),R true s->rA (model P w) A (eqIsQuiet d v) R E s)(q:Q true s):rA (model P w) A (eqIsQuiet (d+1) (.ref a)) Q E s:=by
 unfold eqIsQuiet;refine gA (mU ht.typeIs (qp.lookup) ?_);obtain⟨o,e,c,n,dd⟩:=id ht;show rA _ _ (isInstance (.ref a) (.type "tuple")>>=_) _ _ s;refine gA (iU ht.typeIs (by with_unfolding_all rfl) ?_);show rA _ _ (seqItems? (.ref a)>>=_) _ _ s;refine gA (wpAny_seqItems e dd ?_)
 have key:∀{k:Option Bool×Unit->DE Bool},rA (model P w) A (k (none,())) Q E s->∀xs:List dA,(∀v∈xs,v∈cA.toList)->rA (model P w) A (forIn xs ((none:Option Bool),()) (λy _=>do
    let v <- eqIsQuiet d y
    if(!v)=true then pure (ForInStep.done (some false,())) else pure (ForInStep.yield (none,())))>>=k) Q E s:=by
  intro k hk xs
  induction xs with
  |nil=>intro _;exact gA (EA hk)
  |cons x xs ih =>
   intro hm;have ih:=ih λv hv=>hm v (WC _ hv)
   simp only[lU,bind_assoc] at ih ⊢;refine gA (hi x (hm x YD) _ ?_);simp only[Bool.not_true,OJ,if_false,pure_bind];exact ih
 show rA _ _ (forIn cA _ _>>=_) _ _ s;rw[<- W9];exact key (EA q) cA.toList λ_ h=>h
def zk(q:Q true s):rA (model P w) A (eqIsQuiet d (.int i t)) Q E s:=by
 unfold eqIsQuiet;exact EA q
theorem Hg:∀{ns:List Int} {us:List dA},tY (intKind P w) ns us->∀v∈us,∃i t,v=.int i t
 |_,_,.nil=>λ_ h=>nomatch h
 |_,_,.cons hk r=>λv hv=>by
  rcases DC.mp hv with rfl | hv
  ·obtain⟨t,e⟩:=cY hk;exact⟨_,t,e⟩
  ·exact Hg r v hv
def LC.quiet(hk:LC P w s.heap k a)(q:Q true s):rA (model P w) A (eqIsQuiet (d+2) (.ref a)) Q E s:=by
 obtain⟨t,b,ht,o2,cA,n2,e2,c2,d2,i2⟩:=hk;refine Ak (d:=d+1) ht (λv hv R hR=>?_) q;rcases DC.mp (show v∈[Value.int k.1 t,Value.ref b] from hv) with rfl | hv
 ·exact zk hR
 ·rw[kD.mp hv];refine Ak ⟨o2,e2,c2,n2,d2⟩ (λv hv R hR=>?_) hR;obtain⟨i,t,rfl⟩:=Hg i2 v hv;exact zk hR
abbrev JB:=LA ⊕ Empty
noncomputable def gk:JB->LA:=Sum.elim id Empty.elim
def Xe{x y:JB}(h:gk x=gk y):x=y:=by
 obtain x | x:=x
 ·obtain y | y:=y
  ·exact congrArg Sum.inl h
  ·cases y
 ·cases x
end
def cD(P:KC)(w:WB):HeapKind P w JB where
 is:=λh k a=>LC P w h (gk k) a
 hash:=λk=>Q4 P w (gk k)
 draws:=λk=>(gk k).2.length+3
 room:=λA=>A.units+10<cLine
 inj:=λhx hy=>Xe (LC.inj hx hy)
 keeps:=λhk e ed sb=>LC.keeps hk e ed sb
 pyHash:=λhu hk q=>LC.pyHash (by lia) hk q
 eqBool:=λhu hx hy q=>LC.eqBool (by lia) hx hy ((aR.mpr ⟨Xe,congrArg gk⟩).symm ▸ q)
 quiet:=λhk q=>LC.quiet (d:=6) hk q
end L2
namespace CS
open PySem PyProof.Rows
noncomputable def Qe:Bool->dC->Array dC->Nat->Nat->Nat->StateT DB DE (Option Nat):=sortPriv% PySem.Builtin.gallop
noncomputable def gJa:Array dC->Array dC->StateT DB DE (Array dC):=sortPriv% PySem.Builtin.mergeLo
noncomputable def fJa:Array dC->Array dC->StateT DB DE (Array dC):=sortPriv% PySem.Builtin.mergeHi
noncomputable def vUa:Nat->StateT DB DE Unit:=sortPriv% PySem.Builtin.setMinGallop
def AP(P:dC->Prop)(a:Array dC):Prop:=∀x∈a,P x
section
variable{P:dC->Prop}{a b:Array dC}{v:dC}{i j:Nat}
theorem AP.push(h:AP P a)(hv:P v):AP P (a.push v):=λx hx=>(Array.mem_push.mp hx).elim (h x) λe=>e ▸ hv
def AP.app(h:AP P a)(k:AP P b):AP P (a++b):=λx hx=>(Array.mem_append.mp hx).elim (h x) (k x)
def AP.ext(h:AP P a):AP P (a.extract i j):=λx hx=>by
 obtain⟨k,hk,rfl⟩:=Array.mem_extract_iff_getElem.mp hx;exact h _ (Uq _)
def AP.rev(h:AP P a):AP P a.reverse:=λx hx=>h x (Array.mem_reverse.mp hx)
end
def LI(A B n ia ib:Nat):Prop:=ia+1<A/\ib<B/\n<=ia+ib
def HI(A B n na nb:Nat):Prop:=(0<na/\na<=A)/\(1<nb/\nb<=B)/\n+na+nb<=A+B
section
variable{A B n m k ia ib na nb:Nat}
theorem LI.a0(h:LI A B n ia ib):ia<A:=oa h.1
def LI.b(h:LI A B n ia ib)(e:ib+1≠B):LI A B (n+1) ia (ib+1):=⟨h.1,ZL h.2.1 e,jU h.2.2⟩
def LI.a(h:LI A B n ia ib)(e:ia+1+1≠A):LI A B (n+1) (ia+1) ib:=⟨ZL h.1 e,h.2.1,Nat.succ_add ia ib ▸ jU h.2.2⟩
def LI.ka(h:LI A B n ia ib)(hk:k<=A-ia)(e:ia+k+1≠A)(e':ia+k≠A):LI A B n (ia+k) ib:=⟨ZL (ZL (by have:=h.a0;lia) e') e,h.2.1,EC h.2.2 (XT (cR ..) _)⟩
def LI.kb(h:LI A B n ia ib)(hk:k<=B-ib)(e:ib+k≠B):LI A B n ia (ib+k):=⟨h.1,ZL (by have:=h.2.1;lia) e,EC h.2.2 (VX (cR ..) _)⟩
def LI.le(h:LI A B n ia ib)(e:m<=n):LI A B m ia ib:=⟨h.1,h.2.1,EC e h.2.2⟩
def LI.no(h:LI A B n ia ib)(e:A+B<=n):False:=HJ _ (WE (Nat.add_lt_add h.a0 h.2.1) (EC e h.2.2))
theorem HI.a0(h:HI A B n na nb):na-1<A:=pq h.1.1 h.1.2
def HI.b0(h:HI A B n na nb):nb-1<B:=pq (oa h.2.1.1) h.2.1.2
def HI.b(h:HI A B n na nb)(e:nb-1≠1):HI A B (n+1) na (nb-1):=⟨h.1,⟨by have:=h.2.1.1;lia,fM h.b0⟩,by obtain⟨_,⟨h1,_⟩,h2⟩:=h;lia⟩
def HI.a(h:HI A B n na nb)(e:na-1≠0):HI A B (n+1) (na-1) nb:=⟨⟨X9 e,fM h.a0⟩,h.2.1,by obtain⟨⟨h1,_⟩,_,h2⟩:=h;lia⟩
def HI.ka(h:HI A B n na nb)(hk:k<=na)(e:k≠0):HI A B n k nb:=⟨⟨X9 e,EC hk h.1.2⟩,h.2.1,EC (XT (VX hk _) _) h.2.2⟩
def HI.kb(h:HI A B n na nb)(hk:k<=nb)(e:k≠1)(e':k≠0):HI A B n na k:=⟨h.1,⟨ZL (X9 e') (gF e),EC hk h.2.1.2⟩,EC (VX hk _) h.2.2⟩
def HI.le(h:HI A B n na nb)(e:m<=n):HI A B m na nb:=⟨h.1,h.2.1,EC (XT (XT e _) _) h.2.2⟩
def HI.no(h:HI A B n na nb)(e:A+B<=n):False:=by obtain⟨⟨h1,_⟩,_,h2⟩:=h;lia
end
section
variable{prog:KC}{w:WB}{A:RD}{E:dA->zA->Prop}{s:zA}
def RJ(prog:KC)(w:WB)(A:RD)(E:dA->zA->Prop)(s:zA)(kd:qR)(P:dC->Prop):Prop :=
 ∀(st:DB) (x y:dC) (Q:Option Bool->DB->Prop),kindOf st=kd->P x->P y->(∀b,Q (some b) st)->wpS (model prog w) A E s (lt' x y) Q st
structure FD(st xA:DB):Prop where
 k:kindOf xA=kindOf st
 a:arrOf xA=arrOf st
 p:pendingOf xA=pendingOf st
 f:failedOf xA=failedOf st
def FD.refl(st:DB):FD st st:=⟨rfl,rfl,rfl,rfl⟩
variable{kd:qR}{P:dC->Prop}
def RF{O N:Type}{lo hi:Nat}{st:DB}{c:N}{body:Nat->N->StateT DB DE (ForInStep N)}{f:N->StateT DB DE O}{Q:O->DB->Prop}(I:Nat->N->DB->Prop)(R:N->DB->Prop)
  (hs:∀i c st,lo<=i->i<hi->I i c st->wpS (model prog w) A E s (body i c) (λr xA=>match r with | .done c'=>R c' xA | .yield c'=>I (i+1) c' xA) st) (he:∀c st,I (max lo hi) c st->R c st) (h:I lo c st) (p:∀c st,R c st->wpS (model prog w) A E s (f c) Q st):wpS (model prog w) A E s (forIn [lo:hi] c body>>=f) Q st:=BD (wpS_mono (wpS_forRange I hs he h) p)
def SQ{O:Type}{r:String}{st:DB}{f:Unit->StateT DB DE O}{Q:O->DB->Prop}(q:wpS (model prog w) A E s (f ()) Q st):wpS (model prog w) A E s ((liftM (rule r):StateT DB DE Unit)>>=f) Q st:=BD (wpS_lift (iP ⟨rfl,q⟩))
def UL{O:Type}{st:DB}{f:DB->StateT DB DE O}{Q:O->DB->Prop}(q:wpS (model prog w) A E s (f st) Q st):wpS (model prog w) A E s (get>>=f) Q st:=BD (wpS_get q)
def RQ{O:Type}{st:DB}{g:DB->DB}{f:PUnit->StateT DB DE O}{Q:O->DB->Prop}(q:wpS (model prog w) A E s (f ⟨⟩) Q (g st)):wpS (model prog w) A E s (modify g>>=f) Q st:=BD (wpS_modify q)
def mE{st:DB}(hp:AP P arr)(h:i<arr.size)(q:∀x,P x->wpS (model prog w) A E s (f x) Q st):wpS (model prog w) A E s (elem' arr i>>=f) Q st:=BD (by
 rw[elem'_eq,z9 h]
 exact fB (q _ (hp _ (Uq h))))
def EX{st TC:DB}(h0:FD TC st)(q:∀xA,FD TC xA->wpS (model prog w) A E s (f ()) Q xA):wpS (model prog w) A E s (vUa g>>=f) Q st :=
 RQ (q _ ⟨h0.k,h0.a,h0.p,h0.f⟩)
def n9{st:DB}(hL:RJ prog w A E s kd P)(hk:kindOf st=kd)(hx:P x)(hy:P y)(q:∀b,wpS (model prog w) A E s (f (some b)) Q st):wpS (model prog w) A E s (lt' x y>>=f) Q st:=BD (hL st x y _ hk hx hy q)
def yC[Decidable c]{st:DB}(h:c->wpS (model prog w) A E s m Q st)(h':¬c->wpS (model prog w) A E s m' Q st):wpS (model prog w) A E s (if c then m else m') Q st:=by
 split
 ·exact h ‹_›
 ·exact h' ‹_›
def BE{x y:Nat}{st:DB}(h:x=y->wpS (model prog w) A E s m Q st)(h':x≠y->wpS (model prog w) A E s m' Q st):wpS (model prog w) A E s (if(x==y)=true then m else m') Q st:=yC (λe=>h (by simpa using e)) λe=>h' (by simpa using e)
def rN{f:N->StateT DB DE O}{J:N->DB->Prop}{st:DB}(h:∀x st,J x st->wpS (model prog w) A E s (f x) Q st)(k:(∀x st,J x st->wpS (model prog w) A E s (f x) Q st)->wpS (model prog w) A E s m Q st):wpS (model prog w) A E s m Q st:=k h
def uZa{base n hint:Nat}{st:DB}(hL:RJ prog w A E s kd P)(hk:kindOf st=kd)(hn:base+n<=arr.size)(hh:hint<n)(px:AP P arr)(pk:P key)(h:∀k,k<=n->Q (some k) st) :
  wpS (model prog w) A E s (Qe left key arr base n hint) Q st:=by
 have hb:∀i,i<n->∀R:Option Bool->DB->Prop,(∀b,R (some b) st)->wpS (model prog w) A E s (elem' arr (base+i)>>=λx=>if left=true then lt' x key else lt' key x>>=λr=>pure (r.map (!·))) R st:=λi hi R hR =>
  mE px (by lia) λx hx=>yC (λ_=>hL st x key R hk hx pk hR) λ_=>n9 hL hk pk hx λb=>fB (hR _)
 refine BD (hb hint hh _ λb=>yC (λ_=>RF (I:=λx c xA=>xA=st/\c.1=none) (R:=λc xA=>xA=st/\c.1=none) ?s1 (λ_ _ z=>z) ⟨rfl,rfl⟩ ?_) λ_=>RF (I:=λx c xA=>xA=st/\c.1=none) (R:=λc xA=>xA=st/\c.1=none) ?s2 (λ_ _ z=>z) ⟨rfl,rfl⟩ ?_)
 case s1 | s2 =>
  rintro x ⟨c1,l,o⟩ xA _ hx ⟨rfl,e⟩
  cases e;exact yC (λ_=>fB ⟨rfl,rfl⟩) λg=>BD (hb _ (by dsimp only at *;lia) _ λb=>yC (λ_=>fB ⟨rfl,rfl⟩) λ_=>fB ⟨rfl,rfl⟩)
 all_goals
  rintro⟨c1,l,o⟩ xA ⟨rfl,e⟩
  cases e;refine RF (I:=λx c u=>u=xA/\c.1=none/\c.2.2<=n) (R:=λc u=>u=xA/\c.1=none/\c.2.2<=n) ?_ (λ_ _ z=>z) ⟨rfl,rfl,by dsimp only;lia⟩ ?_
  ·rintro x ⟨c1,l,o⟩ xA _ hx ⟨rfl,e,hle⟩
   cases e;exact yC (λ_=>fB ⟨rfl,rfl,hle⟩) λg=>BD (hb _ (by dsimp only at *;lia) _ λb=>yC (λ_=>fB ⟨rfl,rfl,hle⟩) λ_=>fB ⟨rfl,rfl,by dsimp only at *;lia⟩)
  ·rintro⟨c1,l,o⟩ xA ⟨rfl,e,hle⟩
   cases e;exact fB (h _ hle)
def PQ{st:DB}(hL:RJ prog w A E s kd P)(hk:kindOf st=kd)(hn:base+n<=arr.size)(hh:hint<n)(px:AP P arr)(pk:P key)(h:∀k,k<=n->wpS (model prog w) A E s (f (some k)) Q st) :
  wpS (model prog w) A E s (Qe left key arr base n hint>>=f) Q st:=BD (uZa hL hk hn hh px pk h)
def Jg(P:dC->Prop)(a b:Array dC)(n:Nat)(c:Option (Array dC)×Array dC×Nat×Nat×U):Prop:=c.1=none/\AP P c.2.1/\LI a.size b.size n c.2.2.1 c.2.2.2.1
def Jh(P:dC->Prop)(a b:Array dC)(n:Nat)(c:Option (Array dC)×Nat×Nat×Array dC×U):Prop:=c.1=none/\AP P c.2.2.2.1/\HI a.size b.size n c.2.1 c.2.2.1
def Dn(P:dC->Prop)(c:Option (Array dC)×U):Prop:=∃z,c.1=some z/\AP P z
variable{a b:Array dC}
@[elab_as_elim] theorem GP{U:Type}{J:Option (Array dC)×U->Prop}{F:Option (Array dC)×U->Prop}(c:Option (Array dC)×U)(h:Dn P c\/J c)(n:∀c,J c->c.1=none)(h1:∀z q,AP P z->F (some z,q))(h2:∀q,J (none,q)->F (none,q)):F c:=by
 obtain⟨c1,c2⟩:=c;rcases h with ⟨z,e,hz⟩ | h
 ·cases e;exact h1 z c2 hz
 ·cases n _ h;exact h2 c2 h
def rD{st TC:DB}(hs:FD TC st)(hz:AP P z:=by(try dsimp only);(with_reducible repeat' first | assumption | apply AP.push | apply AP.app | apply AP.ext | apply AP.rev)):FD TC st/\(Dn P (some z,q)\/J):=⟨hs,.inl ⟨z,rfl,hz⟩⟩
def xZa(hL:RJ prog w A E s kd P)(pa:AP P a)(pb:AP P b){st:DB}{Q:Array dC->DB->Prop}(hk:kindOf st=kd)(ha:0<a.size)(hb:0<b.size)(h:∀z xA,FD st xA->AP P z->Q z xA):wpS (model prog w) A E s (gJa a b) Q st:=by
 refine SQ ?_;refine mE pb hb λy hy=>?_
 have p1:AP P #[y]:=λx hx=>(Bq.mp hx) ▸ hy
 refine BE (λe=>fB (h _ _ (.refl _) ((p1.app pa.ext).app pb.ext))) λe1=>BE (λe=>fB (h _ _ (.refl _) ((p1.app pb.ext).app pa.ext))) λe2=>UL ?_
 refine RF (I:=λi c xA=>FD st xA/\Jg P a b (i+1) c) (R:=λc xA=>FD st xA/\(Dn P c\/False)) ?step (λc xA z=>(z.2.2.2.no (gM _)).elim) ⟨.refl _,rfl,p1,ZL ha e2,ZL hb e1,jB _⟩ ?post
 case post =>
  intro c xA hh;refine GP (J:=λ_=>False) c hh.2 (λ_ z=>z.elim) ?_ λ_ z=>z.elim
  exact λz q hz=>fB (h z xA hh.1 hz)
 case step =>
  intro i c xA _ hi hh;have hs:=hh.1;have hJ:=hh.2;refine RF (I:=λj c xA=>FD st xA/\Jg P a b (i+1+j) c) (R:=λc xA=>FD st xA/\(Dn P c\/Jg P a b (i+2) c)) ?F8 (λc xA z=>(z.2.2.2.no (oY ..)).elim) ⟨hs,rfl,hJ.2⟩ ?R7
  case F8 =>
   intro j c xA _ hj hh;have hs:=hh.1;have h1:AP P c.2.1:=hh.2.2.1;have h2:LI a.size b.size (i+1+j) c.2.2.1 c.2.2.2.1:=hh.2.2.2;have l2:i+2<=i+1+j+1:=jU (cR ..);refine mE pb h2.2.1 λy hy=>mE pa h2.a0 λx hx=>n9 hL (hs.k.trans hk) hy hx λc=>?_
   refine yC (λ_=>mE pb h2.2.1 λy hy=>BE (λ_=>fB (rD hs)) λe1=>yC (λ_=>fB ⟨hs,.inr ⟨rfl,h1.push hy,(h2.b e1).le l2⟩⟩) λ_=>fB ⟨hs,rfl,h1.push hy,h2.b e1⟩) λ_=>mE pa h2.a0 λy hy=>BE (λ_=>fB (rD hs)) λe1=>yC (λ_=>fB ⟨hs,.inr ⟨rfl,h1.push hy,(h2.a e1).le l2⟩⟩) λ_=>fB ⟨hs,rfl,h1.push hy,h2.a e1⟩
  case R7 =>
   intro c xA hh;have hs:=hh.1;refine GP (J:=Jg P a b (i+2)) c hh.2 (λ_ z=>z.1) ?_ ?_
   ·exact λz q hz=>fB (rD hs)
   ·intro c hJ;refine SQ ?_;refine RF (I:=λj c xA=>FD st xA/\Jg P a b (i+2+j) c) (R:=λc xA=>FD st xA/\(Dn P c\/Jg P a b (i+2) c)) ?G8 (λc xA z=>(z.2.2.2.no (oY ..)).elim) ⟨hs,rfl,hJ.2⟩ ?S7
    case S7 =>
     intro c xA hh;have hs:=hh.1;refine GP (J:=Jg P a b (i+2)) c hh.2 (λ_ z=>z.1) ?_ ?_
     ·exact λz q hz=>fB (rD hs)
     ·exact λc hJ=>EX hs λxA hs=>fB ⟨hs,rfl,hJ.2⟩
    case G8 =>
     intro j c xA _ hj hh;have hs:=hh.1;have h1:=hh.2.2.1;have h2:=hh.2.2.2
     dsimp -zeta only
     extract_lets -underBinder s1 out s2 ia s3 ib s4 mg s5 ac bc jp
     have h1:AP P out:=h1;have h2:LI a.size b.size (i+2+j) ia ib:=h2
     clear_value out ia ib mg ac bc
     refine rN (f:=jp ()) (J:=λ_ u=>FD st u) (λg xA hs=>EX hs λxA hs=>mE pb h2.2.1 λy hy=>PQ hL (hs.k.trans hk) (RK (Vq (fM h2.a0))) (Wq h2.a0) pa hy λk k1=>?_) λhj=>yC (λ_=>hj _ _ hs) λ_=>hj _ _ hs
     dsimp -zeta only
     extract_lets -underBinder ac jp
     refine rN (f:=λx:Array dC×Nat=>jp () x.1 x.2) (J:=λx u=>FD st u/\AP P x.1/\LI a.size b.size (i+2+j) x.2 ib) (λ⟨out,ia⟩ xA ⟨hs,h1,h2⟩=>mE pb h2.2.1 λy hy=>BE (λ_=>fB (rD hs)) λe1=>mE pa h2.a0 λx hx=>PQ hL (hs.k.trans hk) (RK (Vq h2.2.1)) (Wq (h2.b e1).2.1) pb hx λm m1=>?_) λhj=>yC (λ_=>BE (λ_=>fB (rD hs)) λe1=>BE (λ_=>fB (rD hs)) λe2=>hj (_,_) _ ⟨hs,h1.app pa.ext,h2.ka k1 e1 e2⟩) λ_=>hj (_,_) _ ⟨hs,h1,h2⟩
     have h3:=h2.b e1
     dsimp -zeta only
     extract_lets -underBinder bc jp
     refine rN (f:=λx:Array dC×Nat=>jp () x.1 x.2) (J:=λx u=>FD st u/\AP P x.1/\LI a.size b.size (i+2+j+1) ia x.2) (λ⟨out,ib⟩ xA ⟨hs,h1,h3⟩=>mE pa h3.a0 λv hv=>BE (λ_=>fB (rD hs)) λe1=>yC (λ_=>fB ⟨hs,.inr ⟨rfl,h1.push hv,(h3.a e1).le (cR _ (j+2))⟩⟩) λ_=>fB ⟨hs,rfl,h1.push hv,(h3.a e1).le (gM _)⟩) λhj=>yC (λ_=>BE (λ_=>fB (rD hs)) λe1=>hj (_,_) _ ⟨hs,(h1.push hy).app pb.ext,h3.kb m1 e1⟩) λ_=>hj (_,_) _ ⟨hs,h1.push hy,h3⟩
def wZa(hL:RJ prog w A E s kd P)(pa:AP P a)(pb:AP P b){st:DB}{Q:Array dC->DB->Prop}(hk:kindOf st=kd)(ha:0<a.size)(hb:0<b.size)(h:∀z xA,FD st xA->AP P z->Q z xA):wpS (model prog w) A E s (fJa a b) Q st:=by
 refine SQ ?_;refine mE pa (La (kR ha)) λy hy=>?_
 have p1:AP P #[y]:=λx hx=>(Bq.mp hx) ▸ hy
 refine BE (λe=>fB (h _ _ (.refl _) ((pa.ext.app pb.ext).app p1.rev))) λe1=>BE (λe=>fB (h _ _ (.refl _) ((pb.ext.app pa.ext).app p1.rev))) λe2=>UL ?_
 refine RF (I:=λi c xA=>FD st xA/\Jh P a b (i+1) c) (R:=λc xA=>FD st xA/\(Dn P c\/False)) ?step (λc xA z=>(z.2.2.2.no (gM _)).elim) ⟨.refl _,rfl,p1,by show HI _ _ (0+1) (a.size-1) b.size;unfold HI;lia⟩ ?post
 case post =>
  intro c xA hh;refine GP (J:=λ_=>False) c hh.2 (λ_ z=>z.elim) ?_ λ_ z=>z.elim
  exact λz q hz=>fB (h z xA hh.1 hz)
 case step =>
  intro i c xA _ hi hh;have hs:=hh.1;have hJ:=hh.2;refine RF (I:=λj c xA=>FD st xA/\Jh P a b (i+1+j) c) (R:=λc xA=>FD st xA/\(Dn P c\/Jh P a b (i+2) c)) ?F8 (λc xA z=>(z.2.2.2.no (oY ..)).elim) ⟨hs,rfl,hJ.2⟩ ?R7
  case F8 =>
   intro j c xA _ hj hh;have hs:=hh.1;have h1:AP P c.2.2.2.1:=hh.2.2.1;have h2:HI a.size b.size (i+1+j) c.2.1 c.2.2.1:=hh.2.2.2;have l2:i+2<=i+1+j+1:=jU (cR ..);refine mE pb h2.b0 λy hy=>mE pa h2.a0 λx hx=>n9 hL (hs.k.trans hk) hy hx λc=>?_
   refine yC (λ_=>mE pa h2.a0 λy hy=>BE (λ_=>fB (rD hs)) λe1=>yC (λ_=>fB ⟨hs,.inr ⟨rfl,h1.push hy,(h2.a e1).le l2⟩⟩) λ_=>fB ⟨hs,rfl,h1.push hy,h2.a e1⟩) λ_=>mE pb h2.b0 λy hy=>BE (λ_=>fB (rD hs)) λe1=>yC (λ_=>fB ⟨hs,.inr ⟨rfl,h1.push hy,(h2.b e1).le l2⟩⟩) λ_=>fB ⟨hs,rfl,h1.push hy,h2.b e1⟩
  case R7 =>
   intro c xA hh;have hs:=hh.1;refine GP (J:=Jh P a b (i+2)) c hh.2 (λ_ z=>z.1) ?_ ?_
   ·exact λz q hz=>fB (rD hs)
   ·intro c hJ;refine SQ ?_;refine RF (I:=λj c xA=>FD st xA/\Jh P a b (i+2+j) c) (R:=λc xA=>FD st xA/\(Dn P c\/Jh P a b (i+2) c)) ?G8 (λc xA z=>(z.2.2.2.no (oY ..)).elim) ⟨hs,rfl,hJ.2⟩ ?S7
    case S7 =>
     intro c xA hh;have hs:=hh.1;refine GP (J:=Jh P a b (i+2)) c hh.2 (λ_ z=>z.1) ?_ ?_
     ·exact λz q hz=>fB (rD hs)
     ·exact λc hJ=>EX hs λxA hs=>fB ⟨hs,rfl,hJ.2⟩
    case G8 =>
     intro j c xA _ hj hh;have hs:=hh.1;have h1:=hh.2.2.1;have h2:=hh.2.2.2
     dsimp -zeta only
     extract_lets -underBinder s1 na s2 nb s3 out s4 mg s5 ac bc jp
     have h1:AP P out:=h1;have h2:HI a.size b.size (i+2+j) na nb:=h2
     clear_value out na nb mg ac bc
     refine rN (f:=jp ()) (J:=λ_ u=>FD st u) (λg xA hs=>EX hs λxA hs=>mE pb h2.b0 λy hy=>PQ hL (hs.k.trans hk) (EC (RK (Nat.zero_add _)) h2.1.2) (La (kR h2.1.1)) pa hy λk k1=>?_) λhj=>yC (λ_=>hj _ _ hs) λ_=>hj _ _ hs
     dsimp -zeta only
     extract_lets -underBinder r ac jp
     refine rN (f:=λx:Nat×Array dC=>jp () x.1 x.2) (J:=λx u=>FD st u/\AP P x.2/\HI a.size b.size (i+2+j) x.1 nb) (λ⟨na,out⟩ xA ⟨hs,h1,h2⟩=>mE pb h2.b0 λy hy=>BE (λ_=>fB (rD hs)) λe1=>mE pa h2.a0 λx hx=>PQ hL (hs.k.trans hk) (EC (RK (Nat.zero_add _)) (h2.b e1).2.1.2) (La (kR (oa (h2.b e1).2.1.1))) pb hx λm m1=>?_) λhj=>yC (λ_=>BE (λ_=>fB (rD hs)) λe1=>hj (_,_) _ ⟨hs,h1.app pa.ext.rev,h2.ka k1 e1⟩) λ_=>hj (_,_) _ ⟨hs,h1,h2⟩
     have h3:=h2.b e1
     dsimp -zeta only
     extract_lets -underBinder r bc jp
     refine rN (f:=λx:Nat×Array dC=>jp () x.1 x.2) (J:=λx u=>FD st u/\AP P x.2/\HI a.size b.size (i+2+j+1) na x.1) (λ⟨nb,out⟩ xA ⟨hs,h1,h3⟩=>mE pa h3.a0 λv hv=>BE (λ_=>fB (rD hs)) λe1=>yC (λ_=>fB ⟨hs,.inr ⟨rfl,h1.push hv,(h3.a e1).le (cR _ (j+2))⟩⟩) λ_=>fB ⟨hs,rfl,h1.push hv,(h3.a e1).le (gM _)⟩) λhj=>yC (λ_=>BE (λ_=>fB (rD hs)) λe1=>BE (λ_=>fB (rD hs)) λe2=>hj (_,_) _ ⟨hs,(h1.push hy).app pb.ext.rev,h3.kb m1 e1 e2⟩) λ_=>hj (_,_) _ ⟨hs,h1.push hy,h3⟩
end
structure Fr(P:dC->Prop)(TC st:DB):Prop where
 k:kindOf st=kindOf TC
 p:pendingOf st=pendingOf TC
 f:failedOf st=failedOf TC
 z:(arrOf st).size=(arrOf TC).size
 a:AP P (arrOf st)
section
variable{P:dC->Prop}{TC st:DB}
def Fr.to(h:Fr P TC st)(p:x.Perm (arrOf st)):Fr P TC (setArr st x):=⟨h.k,h.p,h.f,p.size_eq.trans h.z,λy hy=>h.a y (p.mem_iff.mp hy)⟩
def Fr.GW(h:Fr P TC st):Fr P TC (setArr st (mirror (arrOf st) i j ((j-i) / 2))):=h.to (mirror_perm _ _ _ _)
variable{prog:KC}{w:WB}{A:RD}{E:dA->zA->Prop}{s:zA}{kd:qR}{lo:Nat}
variable(hL:RJ prog w A E s kd P)(hk:kindOf TC=kd)(hF:Fr P TC st)
include hL hk hF
theorem QQ(hi:i<(arrOf TC).size)(hj:j<(arrOf TC).size)(h:∀b,Q (some b) st):wpS (model prog w) A E s (ltAt' i j) Q st:=by
 rw[ltAt'_eq]
 have:=hF.z
 exact UL (mE hF.a (by lia) λx hx=>mE hF.a (by lia) λy hy=>hL st x y Q (hF.k.trans hk) hx hy h)
theorem tZa(hr:lo+xJ<=(arrOf TC).size)(h1:1<=xJ)(h:∀m xA,Fr P TC xA->1<=m->m<=xJ->Q (some m) xA):wpS (model prog w) A E s (countRun' lo xJ) Q st:=by
 refine RF (I:=λx c u=>u=st/\c=(none,x)) (R:=λc u=>u=st/\c.1=none/\1<=c.2/\c.2<=xJ) ?s ?f ⟨rfl,rfl⟩ ?_
 case f =>
  rintro c u ⟨rfl,rfl⟩
  exact⟨rfl,rfl,by dsimp only;lia,by dsimp only;lia⟩
 case s =>
  rintro x c u II bI ⟨rfl,rfl⟩
  exact BD (QQ hL hk hF (by lia) (by lia) λb=>yC (λ_=>fB ⟨rfl,rfl,II,by dsimp only;lia⟩) λ_=>fB ⟨rfl,rfl⟩)
 rintro⟨c1,n⟩ u ⟨rfl,e,n1,n2⟩
 cases e;have n1:1<=n:=n1;have n2:n<=xJ:=n2;refine BE (λ_=>fB (h _ _ hF n1 n2)) λe1=>?_
 have l0:∀{m:Nat},m<xJ->lo+m<(arrOf TC).size:=λhm=>WE (Nat.add_lt_add_left hm lo) hr
 have l1:∀{m:Nat},m<xJ->lo+m-1<(arrOf TC).size:=λhm=>ZX (Nat.sub_le ..) (l0 hm)
 have n3:n<xJ:=ZL n2 e1
 dsimp -zeta only
 extract_lets -underBinder jp
 refine rN (f:=jp) (J:=λ_ u=>Fr P TC u) (λ_ st hF=>?_) λhj=>yC (λ_=>BD (QQ hL hk hF (l0 h1) (l1 n3) λb=>yC (λ_=>fB (h _ _ hF n1 n2)) λ_=>BD (KY (hj () _ hF.GW)))) λ_=>hj () _ hF
 refine SQ (RF (I:=λx c u=>Fr P TC u/\c.1=none/\c.2.1=x) (R:=λc u=>Fr P TC u/\c.1=none/\1<=c.2.1/\c.2.1<=xJ) ?_ ?_ ⟨hF,rfl,rfl⟩ ?_)
 ·rintro x ⟨c1,m,q⟩ u II bI ⟨hF,e,e2⟩
  cases e;cases e2;exact BD (QQ hL hk hF (l0 bI) (l1 bI) λb=>yC (λ_=>yC (λ_=>BD (KY (fB ⟨hF.GW,rfl,rfl⟩))) λ_=>fB ⟨hF,rfl,rfl⟩) λ_=>BD (QQ hL hk hF (l1 bI) (l0 bI) λb=>yC (λ_=>fB ⟨hF,rfl,EC (Nat.le_succ_of_le n1) II,fM bI⟩) λ_=>fB ⟨hF,rfl,rfl⟩))
 ·rintro c u ⟨hF,e,e2⟩
  rw[lr n3] at e2;exact⟨hF,e,e2 ▸ h1,RK e2⟩
 ·rintro⟨c1,m,q⟩ u ⟨hF,e,m1,m2⟩
  cases e;have m1:1<=m:=m1;have m2:m<=xJ:=m2
  extract_lets -underBinder r s2 m' q'
  have B5:r=none:=rfl;have jO:m'=m:=rfl
  clear_value r m' q'
  subst B5 jO
  dsimp -zeta only
  extract_lets -underBinder jp
  refine rN (f:=jp) (J:=λ_ u=>Fr P TC u) (λ_ st hF=>BD (KY (RF (I:=λx c u=>Fr P TC u/\c.1=none/\c.2=x) (R:=λc u=>Fr P TC u/\c.1=none/\1<=c.2/\c.2<=xJ) ?_ ?_ ⟨hF.GW,rfl,rfl⟩ ?_))) λhj=>yC (λ_=>BD (KY (hj () _ hF.GW))) λ_=>hj () _ hF
  ·rintro x ⟨c1,y⟩ u II bI ⟨hF,e,e2⟩
   cases e;cases e2;exact BD (QQ hL hk hF (l0 bI) (l1 bI) λb=>yC (λ_=>fB ⟨hF,rfl,EC m1 II,fM bI⟩) λ_=>fB ⟨hF,rfl,rfl⟩)
  ·rintro c u ⟨hF,e,e2⟩
   rw[lr m2] at e2;exact⟨hF,e,e2 ▸ h1,RK e2⟩
  ·rintro⟨c1,y⟩ u ⟨hF,e,y1,y2⟩
   obtain rfl:c1=none:=e;exact fB (h _ _ hF y1 y2)
theorem sZa(hn:lo+n<=(arrOf TC).size)(h:∀xA,Fr P TC xA->Q true xA):wpS (model prog w) A E s (binarySort' lo n ok) Q st:=by
 rw[binarySort'_eq];refine RF (I:=λk c u=>c=(none,())/\Fr P TC u) (R:=λc u=>c=(none,())/\Fr P TC u) ?_ (λ_ _ z=>z) ⟨rfl,hF⟩ ?_
 ·rintro k c u k1 k2 ⟨rfl,hF⟩
  refine RF (I:=λx c v=>v=u/\c.1=none/\c.2.2<=k) (R:=λc v=>v=u/\c.1=none/\c.2.2<=k) ?_ (λ_ _ z=>z) ⟨rfl,rfl,jB _⟩ ?_
  ·rintro x ⟨c1,l,r⟩ v _ hx ⟨rfl,e,a2⟩
   cases e;exact yC (λ_=>fB ⟨rfl,rfl,a2⟩) λ_=>BD (QQ hL hk hF (by dsimp only at *;lia) (by dsimp only at *;lia) λb=>yC (λ_=>fB ⟨rfl,rfl,by dsimp only at *;lia⟩) λ_=>fB ⟨rfl,rfl,a2⟩)
  ·rintro⟨c1,l,r⟩ v ⟨rfl,e,b1⟩
   cases e;show wpS _ _ _ _ (moveDown' _ _>>=λ_=>pure (ForInStep.yield (none,()))) _ _;rw[moveDown'_eq];exact RQ (fB ⟨rfl,hF.to (bubble_perm _ _ _)⟩)
 ·rintro c u ⟨rfl,hF⟩
  exact fB (h u hF)
end
theorem ai(hf:∀a x,P x.1->AP P a->(f a x).size=a.size/\AP P (f a x)):∀(l:List (dC×Nat)) (a:Array dC),(∀x∈l,P x.1)->AP P a->(l.foldl f a).size=a.size/\AP P (l.foldl f a)
 |[],a,_,h=>⟨rfl,h⟩
 |x::l,a,hl,h=>by(obtain⟨h1,h2⟩:=hf a x (hl x (.head _)) h;obtain⟨h3,h4⟩:=ai hf l (f a x) (λy hy=>hl y (.tail _ hy)) h2;exact⟨h3.trans h1,h4⟩)
section
variable{prog:KC}{w:WB}{A:RD}{E:dA->zA->Prop}{s:zA}
variable{kd:qR}{P:dC->Prop}
def rZa{u st:DB}(q:Q () u):wpS (model prog w) A E s (set u:StateT DB DE Unit) Q st:=wpS_modify (f:=λ_=>u) q
def vZa{st:DB}{i sa na pw nb q:Nat}{Q:Bool->DB->Prop}(hL:RJ prog w A E s kd P)(hk:kindOf st=kd)(hP:AP P (arrOf st))(hf:failedOf st=none)(h1:(pendingOf st)[i]?=some (sa,na,pw))(h2:(pendingOf st)[i+1]?=some (sa+na,nb,q))(n1:1<=na)(n2:1<=nb)(hz:sa+na+nb<=(arrOf st).size)
  (h:∀xA,kindOf xA=kd->pendingOf xA=((pendingOf st).setIfInBounds i (sa,na+nb,pw)).eraseIdxIfInBounds (i+1)->failedOf xA=none->(arrOf xA).size=(arrOf st).size->AP P (arrOf xA)->Q true xA):wpS (model prog w) A E s (mergeAt' i) Q st:=by
 refine UL ?_;dsimp only;rw[h1,h2];refine BD (rZa ?_);have same:Q true (setPending st (((pendingOf st).setIfInBounds i (sa,na+nb,pw)).eraseIdxIfInBounds (i+1))):=h _ hk rfl hf rfl hP;refine mE (arr:=arrOf st) hP (by lia) λy hy=>PQ (arr:=arrOf st) hL hk (by lia) (by lia) hP hy λk k1=>BE (λ_=>fB same) λe1=>mE (arr:=arrOf st) hP (by lia) λx hx=>PQ (arr:=arrOf st) hL hk (by lia) (by lia) hP hx λm m1=>BE (λ_=>fB same) λe2=>?_
 have fin:∀z xA,FD (setPending st (((pendingOf st).setIfInBounds i (sa,na+nb,pw)).eraseIdxIfInBounds (i+1))) xA->AP P z->wpS (model prog w) A E s ((modify λu=>setArr u (z.toList.zipIdx.foldl (λa x=>a.setIfInBounds (sa+k+x.2) x.1) (arrOf u)))>>=λ_=>(get:StateT DB DE DB)>>=λu=>pure (failedOf u).isNone) Q xA:=λz xA hs hz=>by
  refine RQ (UL (fB ?_));have hff:(failedOf xA).isNone=true:=by rw[hs.f];show(failedOf st).isNone=true;rw[hf];rfl
  show Q (failedOf xA).isNone _;rw[hff];obtain⟨g1,g2⟩:=ai (P:=P) (f:=λa x=>a.setIfInBounds (sa+k+x.2) x.1) (λa x hx ha=>⟨Array.size_setIfInBounds,λy hy=>(Array.mem_or_eq_of_mem_setIfInBounds hy).elim (ha y) λe=>e ▸ hx⟩) z.toList.zipIdx (arrOf xA) (λx hx=>hz _ (by obtain⟨_,_,e⟩:=List.mem_zipIdx hx;rw[e];exact TX.mp (XO _))) (hs.a ▸ hP);exact h _ (hs.k.trans hk) hs.p (hs.f.trans hf) (g1.trans (congrArg Array.size hs.a)) g2
 exact yC (λ_=>BD (xZa (a:=(arrOf st).extract (sa+k) (sa+na)) (b:=(arrOf st).extract (sa+na) (sa+na+m)) hL hP.ext hP.ext hk (by rw[aY];lia) (by rw[aY];lia) fin)) λ_=>BD (wZa (a:=(arrOf st).extract (sa+k) (sa+na)) (b:=(arrOf st).extract (sa+na) (sa+na+m)) hL hP.ext hP.ext hk (by rw[aY];lia) (by rw[aY];lia) fin)
end
def aAY[Decidable c]{x y:Nat}(h:x<=y):(if c then x else y)<=y:=by split<;>lia
def aAr:Nat->List (Nat×Nat×Nat)->Nat->Prop
 |s,[],e=>s=e
 |s,x::r,e=>x.1=s/\1<=x.2.1/\aAr (s+x.2.1) r e
theorem aAr.le:∀{s:Nat} {r:List (Nat×Nat×Nat)} {e:Nat},aAr s r e->s+r.length<=e
 |s,[],e,h=>RK h
 |s,x::r,e,h=>by
  have:=aAr.le h.2.2
  have:=h.2.1
  rw[YB]
  lia
theorem aAr.app:∀{s:Nat} {r1 r2:List (Nat×Nat×Nat)} {e:Nat},aAr s (r1++r2) e↔∃m,aAr s r1 m/\aAr m r2 e
 |s,[],r2,e=>⟨λh=>⟨s,rfl,h⟩,λ⟨m,h1,h2⟩=>by have h1:s=m:=h1;rw[h1];exact h2⟩
 |s,x::r,r2,e=>by
  constructor
  ·rintro⟨h1,h2,h4⟩
   obtain⟨m,h5,h6⟩:=aAr.app.mp h4;exact⟨m,⟨h1,h2,h5⟩,h6⟩
  ·rintro⟨m,⟨h1,h2,h4⟩,h5⟩
   exact⟨h1,h2,aAr.app.mpr ⟨m,h4,h5⟩⟩
theorem qd:∀{s e:Nat} {rs:List (Nat×Nat×Nat)} (i:Nat),aAr s rs e->aAr s (rs.modify i λx=>(x.1,x.2.1,pw)) e
 |s,e,[],i,h=>by cases i<;>exact h
 |s,e,x::r,0,h=>h
 |s,e,x::r,i+1,h=>⟨h.1,h.2.1,qd i h.2.2⟩
structure SI(kd:qR)(P:dC->Prop)(n:Nat)(st:DB)(lo:Nat)(rs:List (Nat×Nat×Nat)):Prop where
 k:kindOf st=kd
 f:failedOf st=none
 z:(arrOf st).size=n
 a:AP P (arrOf st)
 p:(pendingOf st).toList=rs
 ch:aAr 0 rs lo
 le:lo<=n
section
variable{prog:KC}{w:WB}{A:RD}{E:dA->zA->Prop}{s:zA}
variable{kd:qR}{P:dC->Prop}{st:DB}{lo n:Nat}{rs:List (Nat×Nat×Nat)}
def SI.fk(h:SI kd P n st lo rs):(pendingOf st).size=rs.length:=by rw[<- h.p,kF]
def SI.pat(h:SI kd P n st lo rs)(i:Nat):(pendingOf st)[i]?=rs[i]?:=by rw[<- h.p,VT]
def SI.to(h:SI kd P n st lo rs)(f:Fr P st xA):SI kd P n xA lo rs:=⟨f.k.trans h.k,f.f.trans h.f,f.z.trans h.z,f.a,by rw[f.p];exact h.p,h.ch,h.le⟩
def SI.fr(h:SI kd P n st lo rs):Fr P st st:=⟨rfl,rfl,rfl,rfl,h.a⟩
theorem SI.push(h:SI kd P n st lo rs)(h1:1<=m)(h2:lo+m<=n):SI kd P n (setPending st ((pendingOf st).push (lo,m,0))) (lo+m) (rs++[(lo,m,0)]):=⟨h.k,h.f,h.z,h.a,(Xq).trans (by rw[h.p]),aAr.app.mpr ⟨lo,h.ch,rfl,h1,rfl⟩,h2⟩
def SI.mod(h:SI kd P n st lo rs):SI kd P n (setPending st ((pendingOf st).modify i λx=>(x.1,x.2.1,pw))) lo (rs.modify i λx=>(x.1,x.2.1,pw)):=⟨h.k,h.f,h.z,h.a,(Array.toList_modify).trans (by rw[h.p]),qd i h.ch,h.le⟩
variable(hL:RJ prog w A E s kd P)
include hL
theorem Vo{i:Nat}{Q:Bool->DB->Prop}(h:SI kd P n st lo rs)(hi:i+1<rs.length)(hQ:∀xA ET,SI kd P n xA lo ET->Q true xA):wpS (model prog w) A E s (mergeAt' i) Q st:=by
 obtain⟨pre,x,y,post,rfl,LM⟩:∃pre x y post,rs=pre++x::y::post/\pre.length=i:=by(refine⟨rs.take i,rs[i],rs[i+1],rs.drop (i+2), ?_,by rw[HH];lia⟩;rw[<- UQ (by lia),<- UQ (by lia),NX])
 obtain⟨sa,na,pw⟩:=x;obtain⟨sb,nb,q⟩:=y;obtain⟨m,c1,c2⟩:=aAr.app.mp h.ch;obtain⟨rfl,n1,rfl,n2,c3⟩:=c2;have xM:=c3.le;have hz:=h.z;have Qf:=h.le;refine vZa (sa:=sa) (na:=na) (pw:=pw) (nb:=nb) (q:=q) hL h.k h.a h.f ?_ ?_ n1 n2 (by dsimp only at *;lia) λxA k' p' f' z' a'=>?_
 ·rw[h.pat,kP (by lia),LM,oR];rfl
 ·rw[h.pat,kP (by lia),LM,show i+1-i=1 by lia];rfl
 ·refine hQ xA (pre++(sa,na+nb,pw)::post) ⟨k',f',z'.trans hz,a', ?_,aAr.app.mpr ⟨sa,c1,rfl,by dsimp only at *;lia,by rw[<- zY];exact c3⟩,Qf⟩;rw[p',Array.toList_eraseIdxIfInBounds,Array.toList_setIfInBounds,h.p,<- LM,List.set_append_right _ _ (jB _),oR,aM,List.eraseIdx_append_of_length_le (by lia),show pre.length+1-pre.length=1 by lia];rfl
theorem yZa(hk:kindOf st=kd)(hf:failedOf st=none)(hp:pendingOf st=#[])(ha:AP P (arrOf st))(hQ:∀xA,failedOf xA=none->(arrOf xA).size=(arrOf st).size->AP P (arrOf xA)->Q () xA):wpS (model prog w) A E s sortRuns' Q st:=by
 rw[sortRuns'_eq];have h0:SI kd P (arrOf st).size st 0 []:=⟨hk,hf,rfl,ha,by rw[hp],rfl,mI _⟩
 refine UL ?_;refine RF (I:=λx c u=>c.1=none/\x<=c.2/\∃rs,SI kd P (arrOf st).size u c.2 rs) (R:=λc u=>c.1=none/\∃lo rs,SI kd P (arrOf st).size u lo rs) ?step ?fin ⟨rfl,jB _,[],h0⟩ ?post
 case fin =>
  rintro c u ⟨e,_,rs,h⟩
  exact⟨e,_,rs,h⟩
 case step =>
  rintro x ⟨c1,lo⟩ u _ hx ⟨e,HG,rs,h⟩
  cases e;have HG:x<=lo:=HG;have h:SI kd P (arrOf st).size u lo rs:=h;have hz:=h.z;refine yC (λ_=>fB ⟨rfl,lo,rs,h⟩) λe=>BD (tZa hL h.k h.fr (by dsimp only at *;lia) (by dsimp only at *;lia) λm st1 f1 m1 m2=>?_)
  refine yC (λ_=>SQ (BD (sZa hL h.k f1 (by dsimp only at *;lia) λJT f2=>yC (λz=>nomatch z) λ_=>?_))) λ_=>?_
  all_goals
   refine UL ?_
   first | have g:=h.to f2 | have g:=h.to f1
   dsimp only at *
   split
   ·refine RF (I:=λx c v=>c.1=none/\∃rs,SI kd P (arrOf st).size v lo rs) (R:=λc v=>c.1=none/\∃rs,SI kd P (arrOf st).size v lo rs) ?_ (λ_ _ z=>z) ⟨rfl,rs,g⟩ ?_
    ·rintro y ⟨c1,⟨⟩⟩ v _ _ ⟨e,rs,h⟩
     cases e;have hp:=h.fk;refine UL ?_;split
     ·rename_i hq;refine yC (λ_=>fB ⟨rfl,rs,h⟩) λ_=>BD (Vo hL h ?_ λxA ET h'=>yC (λz=>nomatch z) λ_=>fB ⟨rfl,ET,h'⟩)
      split at hq
      ·lia
      ·cases hq
     ·exact fB ⟨rfl,rs,h⟩
    ·rintro⟨c1,⟨⟩⟩ v ⟨e,rs,h⟩
     cases e;exact RQ (RQ (fB ⟨rfl,by dsimp only;lia,_,h.mod.push (by lia) (by lia)⟩))
   ·exact RQ (fB ⟨rfl,by dsimp only;lia,_,g.push (by lia) (by lia)⟩)
 case post =>
  rintro⟨c1,c2⟩ u ⟨e,lo,rs,h⟩
  cases e;refine RF (I:=λx c u=>c.1=none/\∃rs,SI kd P (arrOf st).size u lo rs) (R:=λc u=>c.1=none/\∃rs,SI kd P (arrOf st).size u lo rs) ?_ (λ_ _ z=>z) ⟨rfl,rs,h⟩ ?_
  ·rintro x ⟨c1,⟨⟩⟩ u _ _ ⟨e,rs,h⟩
   cases e;have hp:=h.fk;refine UL (yC (λ_=>fB ⟨rfl,rs,h⟩) λe=>BD (Vo hL h ?_ λxA ET h'=>yC (λz=>nomatch z) λ_=>fB ⟨rfl,ET,h'⟩));have e:¬(pendingOf u).size<=1:=e;refine ZX (jU (aAY (Nat.sub_le _ _))) ?_
   lia
  ·rintro⟨c1,⟨⟩⟩ u ⟨e,rs,h⟩
   cases e;exact fB (hQ u h.f h.z h.a)
end
section
variable{prog:KC}{w:WB}{A:RD}{E:dA->zA->Prop}{s:zA}
theorem X5:∀{us:List dA} {ns:List Int},IntsAre us ns->∃as,ReadsAll h us (ns.map .int) as
 |_,_,.nil=>⟨_,.nil⟩
 |_,_,.cons n t r=>by(obtain⟨as,r⟩:=X5 r;exact⟨_,.cons (.int _ _) r⟩)
theorem IntsAre.one:∀{us:List dA} {ns ms:List Int},IntsAre us ns->IntsAre us ms->ns=ms
 |_,_,_,.nil,.nil=>rfl
 |_,_,_,.cons n t r,.cons _ _ r2=>by rw[IntsAre.one r r2]
def mYa(p:zF h u vs)(q:zF h u ws):vs=ws:=by
 obtain⟨o,e,_,n,d⟩:=p;obtain⟨o',e',_,n',d'⟩:=q;rw[e] at e';cases e';rw[d] at d';exact(Sr d').1
def ae(p:zF s.heap a vs)(q:zF s.heap b ws)(i:IntsAre vs.toList ns)(j:IntsAre ws.toList ms)(hu:A.units+8<cLine)
  (k:Q (decide (ns=ms)) s):rA (model prog w) A (eqBool (.ref a) (.ref b)) Q E s:=by
 obtain⟨as,r1⟩:=X5 (h:=s.heap) i;obtain⟨bs,r2⟩:=X5 (h:=s.heap) j;obtain⟨o,e,c,n,d⟩:=id p;obtain⟨o',e',c',n',d'⟩:=id q;refine L2.Zd (λz=>kB ?_) ?_ k
 ·subst z;obtain rfl:=mYa p q;exact IntsAre.one i j
 ·have dp:=L2.Fj (ns:=ns)
  have:(PyData.tuple (ns.map .int)).eqv (.tuple (ms.map .int))=decide (ns=ms):=by simp only[yU,L2.F7]
  rw[<- this];refine xa (.tuple e c d r1) (.tuple e' c' d' r2) ?_ ?_ ?_
  ·simp[sI,L2.G7]
  ·simp[sI,L2.G7]
  ·simp only[UI];omega
theorem AL:∀{ns:List Int} {us:List dA},tY (intKind prog w) ns us->IntsAre us ns
 |_,_,.nil=>.nil
 |_,_,.cons hk r=>by(obtain⟨t,rfl⟩:=cY hk;exact .cons _ t (AL r))
section
open PySem.SeqAt
open PySem.AutoSeq1 (wpAny_loadPart')
open PySem.MeetsSeq PySem.MeetsSeq2 PySem.MeetsSeq3
def uu(op:RG)(A:RD)(s:zA)(v u:dA)(r:Bool):Prop:=∀(prog:KC) (w:WB) (E:dA->zA->Prop) (Q:dA->zA->Prop),Q (.bool r) s->rA (model prog w) A (richCompare op v u) Q E s
def oYa(l b:kA)(x y:Int)(t u:BF)(v v':dA)(n n2:Nat)(dd eH:Option kA)(sl vH:Array (Option dA))(e r:Bool) :
  Meets (EH.«tuple.__lt__» ⟨[.ref l,.ref b],[]⟩)
   (λA R s=>s.heap.get? l=some { cls:=.type "tuple",dict:=dd,data:=.seq #[.int x t,v] n,slots:=sl }/\s.heap.get? b=some { cls:=.type "tuple",dict:=eH,data:=.seq #[.int y u,v'] n2,slots:=vH } /\
    EqAt A.in1 s v v' e/\uu .Lt A.in1 s v v' r/\∀b,R (.ok (.ret (.bool b))) s) :=
 .of_wp λprog w A R s h=>by
  obtain⟨hp,g,d,tk,os⟩:=s;obtain⟨hl,hb,he,hr,h⟩:=h;have f2:=Dp
  wp_walk using nY hl,nY hb,fY _ (λrest b s'=>b.1=none/\s'=⟨hp,g,d,tk,os⟩/\(rest=[(.int x t,.int y u),(v,v')]\/rest=[(v,v')]\/rest=[])) _
  case turn =>
   rintro⟨y',x'⟩ rest b s' ⟨qE,rfl,hz⟩
   rcases hz with hz | hz | hz<;>cases hz
   ·obtain⟨e1,he1,Z4⟩:=HT.Yd A.in1 ⟨hp,g,d,tk,os⟩ x t y u;refine gA (he1 prog w _ _ ?_);have xS:=HT.Jk A.in1 ⟨hp,g,d,tk,os⟩ x t y u prog w;cases e1
    ·wp_walk using xS
     exact⟨_,rfl,h _⟩
    ·wp_walk
     exact⟨rfl,rfl,.inr (.inl rfl)⟩
   ·refine gA (he prog w _ _ ?_);have xS:=hr prog w;cases e
    ·wp_walk using xS
     exact⟨_,rfl,h _⟩
    ·wp_walk
     exact⟨rfl,rfl,.inr (.inr rfl)⟩
  case fin =>
   rintro⟨b1,b2⟩ s' ⟨qE,rfl,hz⟩
   simp only at qE;subst qE
   wp_walk
   exact⟨_,rfl,h _⟩
  case h=>exact⟨rfl,rfl,.inl rfl⟩
def uIa(hx:L2.LC prog w s.heap k a)(hy:L2.LC prog w s.heap m b)(hu:A.units+10<cLine)(h:∀b,Q (.bool b) s):rA (model prog w) A (gE .Lt (.ref a) (.ref b)) Q E s:=by
 obtain⟨t,c,⟨⟨cls,dd,data,sl⟩,ho,hc,n,hd⟩,o1,cA,n1,e1,c1,d1,i1⟩:=hx;obtain⟨t',c',⟨⟨aV,eH,data2,vH⟩,dG,cG,n2,hd2⟩,o2,xK,Oi,e2,c2,d2,i2⟩:=hy;simp only at hc hd cG hd2;subst hc hd cG hd2
 exact L9 (op:=.Lt) ⟨_,ho,rfl⟩ ⟨_,dG,rfl⟩ cq Qp (Jp _ _) (oYa a b k.1 m.1 t t' (.ref c) (.ref c') n n2 dd eH sl vH (decide (k.2=m.2)) (HT.aAy k.2 m.2))
  ⟨ho,dG,λ_ _ _ _ hq=>ae ⟨o1,e1,c1,n1,d1⟩ ⟨o2,e2,c2,Oi,d2⟩ (AL i1) (AL i2) (by show A.units+1+8<cLine;lia) hq,
   λ_ _ _ _ hq=>HT.Fi ⟨o1,e1,c1,n1,d1⟩ ⟨o2,e2,c2,Oi,d2⟩ (AL i1) (AL i2) (by show A.units+1<cLine;lia) hq,λb=>show Value.bool _≠Value.notImplemented/\Q _ s from⟨(λx=>nomatch x),h b⟩⟩ (by lia)
def qGa(hx:L2.LC prog w s.heap k a)(hy:L2.LC prog w s.heap l b)(hu:A.units+10<cLine)(q:∀b,Q b s):rA (model prog w) A (keyLt' (tuples' true) (.ref a) (.ref b)) Q E s:=by
 obtain⟨t,c,⟨o,e,_,n,d⟩,o1,cA,n1,e1,c1,d1,i1⟩:=hx;obtain⟨t',c',⟨o',e',_,n',d'⟩,o2,xK,n2,e2,c2,d2,i2⟩:=hy;refine Hr (b:=true) e d e' d' (iY (ua ?_));cases k.1==l.1
 ·exact uY (oneLt_int (q _))
 ·refine pY (iY (ae ⟨o1,e1,c1,n1,d1⟩ ⟨o2,e2,c2,n2,d2⟩ (AL i1) (AL i2) (by lia) ?_));cases decide (k.2=l.2)
  ·exact uY (Ha _ _ (HT.Fi ⟨o1,e1,c1,n1,d1⟩ ⟨o2,e2,c2,n2,d2⟩ (AL i1) (AL i2) (by lia) (q _)))
  ·exact pY (zr (q _))
def FU(prog:KC)(w:WB)(h:TB)(a:kA):Prop:=∃c k i t,zF h a #[.ref c,.int i t]/\L2.LC prog w h k c
def rGa(hx:FU prog w s.heap a)(hy:FU prog w s.heap b)(hu:A.units+10<cLine)(q:∀b,Q b s):rA (model prog w) A (keyLt' (tuples' false) (.ref a) (.ref b)) Q E s:=by
 obtain⟨c,k,i,t,⟨o,e,_,n,d⟩,p1⟩:=hx;obtain⟨c',l,j,u,⟨o',e',_,n',d'⟩,q1⟩:=hy;refine Hr (b:=false) e d e' d' (iY (p1.eqBool (by lia) q1 ?_));cases decide (k=l)
 ·exact uY (Ha _ _ (uIa p1 q1 hu q))
 ·refine pY (iY (ua ?_));cases i==j
  ·exact uY (Ha _ _ (wb (q _)))
  ·exact pY (zr (q _))
inductive KN where
 |st | pr | sn
def TJ(prog:KC)(w:WB)(h:TB)(g:KN)(v:dA):Prop:=match g with
 |.st=>∃a k,v=.ref a/\L2.LC prog w h k a
 |.pr=>False
 |.sn=>∃a,v=.ref a/\FU prog w h a
noncomputable def KN.i:KN->Bool
 |.st=>true
 |_=>false
def sIa(hu:A.units+10<cLine)(hP:∀x,P x->TJ prog w s.heap g x.1):RJ prog w A E s (tuples' g.i) P:=by
 intro st x y Q hk hx hy q;rw[lt'_eq];refine BD (wpS_get ?_);rw[hk];refine BD (wpS_lift (AY ?_));have h1:=hP x hx;have h2:=hP y hy
 cases g with
 |st =>
  obtain⟨a,_,e1,h1⟩:=h1;obtain⟨b,_,e2,h2⟩:=h2;rw[e1,e2];exact qGa h1 h2 hu λb=>⟨rfl,fB (q b)⟩
 |pr =>
  exact h1.elim
 |sn =>
  obtain⟨a,e1,h1⟩:=h1;obtain⟨b,e2,h2⟩:=h2;rw[e1,e2];exact rGa h1 h2 hu λb=>⟨rfl,fB (q b)⟩
end
end
def D4{h:TB}(f:IB->IB)(ne:b≠a)(e:h.get? b=some o):(h.update a f).get? b=some o:=by
 rw[Heap.get?_update_ne _ _ _ _ ne];exact e
section
variable{prog:KC}{w:WB}{A:RD}{E:dA->zA->Prop}{s:zA}
def LC.kp(m:∀b o,h.get? b=some o->o.cls=.type "tuple"->h'.get? b=some o)(x:L2.LC prog w h k a):L2.LC prog w h' k a:=by
 obtain⟨t1,b1,⟨o1,e1,z1,r1⟩,o2,i2,n2,e2,z2,r2⟩:=x;exact⟨t1,b1,⟨o1,m _ _ e1 z1,z1,r1⟩,o2,i2,n2,m _ _ e2 z2,z2,r2⟩
def TJ.mono(m:∀b o,h.get? b=some o->o.cls=.type "tuple"->h'.get? b=some o)(x:TJ prog w h g v):TJ prog w h' g v:=by
 cases g with
 |st =>
  obtain⟨a,k,e0,x⟩:=x;exact⟨a,k,e0,LC.kp m x⟩
 |pr =>
  exact x
 |sn =>
  obtain⟨a,e0,c,k,i,t,⟨o,e,z,r⟩,x⟩:=x;exact⟨a,e0,c,k,i,t,⟨o,m _ _ e z,z,r⟩,LC.kp m x⟩
noncomputable def KN.ty:KN->dA
 |.st=>.type "int"
 |_=>.type "tuple"
def j_(x:TJ prog w h g v):∃a f o n r,v=.ref a/\h.get? a=some o/\o.cls=.type "tuple"/\o.data=.seq (f::r).toArray n/\Nr (model prog w) h (typeOf f) g.ty:=by
 cases g with
 |st =>
  obtain⟨a,k,rfl,t1,b1,⟨o1,e1,z1,n1,r1⟩,_⟩:=x;exact⟨a,_,o1,n1,_,rfl,e1,z1,r1,.now⟩
 |pr =>
  exact x.elim
 |sn =>
  obtain⟨a,rfl,c,k,i,t,⟨o,e,z,n,r⟩,t1,b1,⟨o1,e1,z1,r1⟩,_⟩:=x;refine⟨a,_,o,n,_,rfl,e,z,r, ?_⟩;rw[show KN.sn.ty=o1.cls from z1.symm];exact(PySem.W.Looks.ld e1).andThen .now
theorem De:∀vs:List dA,(∀x∈vs,TJ prog w h g x)->∃fs,PySem.W.KatTups h vs fs/\fs.length=vs.length/\∀f∈fs,Nr (model prog w) h (typeOf f) g.ty
 |[],_=>⟨[],trivial,rfl,λ_ z=>nomatch z⟩
 |v::vs,hv=>by
  obtain⟨fs,h1,h2,h3⟩:=De vs λx hx=>hv x (WC _ hx)
  obtain⟨a,f,o,n,r,rfl,e,z,d,l⟩:=j_ (hv v YD);refine⟨f::fs,.cons e z d rfl h1,congrArg (·+1) h2,λx hx=>?_⟩;rcases DC.mp hx with rfl | hx
  ·exact l
  ·exact h3 x hx
def dWa{vs:List dA}(ho:s.heap.get? a=some (seqObj "list" vs.toArray n))(hz:vs.length<=sizeLine)(hv:∀x∈vs,TJ prog w s.heap g x)(hu:A.units+10<cLine)
  (h:∀(out:Array dA) h' n',out.size=vs.length->(∀x∈out.toList,x∈vs)->h'.get? a=some (seqObj "list" out n')->(∀b o,b≠a->s.heap.get? b=some o->h'.get? b=some o)->P (.done (.ret .none)) { s with heap:=h' }):rA (model prog w) A (EH.«list.sort» ⟨[.ref a],[]⟩) P E s:=by
 rw[list_sort_plain];have P5:vs.toArray.size<=sizeLine:=by simpa using hz
 refine gA (listItems_at ho rfl (gA (Ra ho rfl ?_ P5 (by simp))));obtain⟨e1,g1⟩:∃e1,(s.heap.update a (TK λ_=>#[])).get? a=some (seqObj "list" #[] e1):=⟨_,get?_update_seq ho _⟩
 refine gA (qb g1 rfl (gA (wpAny_newTuple (gA (wpAny_newList (XG ?_))) )));generalize hh:((s.heap.update a (TK λ_=>#[])).push (seqObj "tuple" vs.toArray 0)).push (seqObj "list" #[] 0)=h6
 have g6:h6.get? a=some (seqObj "list" #[] e1):=by(rw[<- hh];exact oC _ (oC _ g1))
 have kp:∀b o,b≠a->s.heap.get? b=some o->h6.get? b=some o:=λb o ne e=>by(rw[<- hh];exact oC _ (oC _ (D4 _ ne e)))
 show rA (model prog w) A _ P E { s with heap:=h6 }
 have pz:AP (λx=>x.1∈vs/\x.2∈vs) (pairsOf vs):=λx hx=>by(have hx:=TX.mpr hx;rw[pairsOf_toList] at hx;exact mY hx)
 have fin:∀xA:DB,(arrOf xA).size=(pairsOf vs).size->AP (λx=>x.1∈vs/\x.2∈vs) (arrOf xA)->P (.done (.ret .none)) { s with heap:=h6.update a (TK λ_=>(arrOf xA).map (·.2)) }:=λxA p r=>by
  refine h _ _ _ (by rw[Ir,p,pairsOf_size]) (λx hx=>?_) (get?_update_seq g6 _) λb o ne e=>D4 _ ne (kp b o ne e)
  obtain⟨y,hy,rfl⟩:=Array.mem_map.mp (TX.mp hx);exact(r y hy).2
 have sz:∀xA:DB,(arrOf xA).size=(pairsOf vs).size->((arrOf xA).map (·.2)).size<=sizeLine+1:=λxA p=>by(rw[Ir,p,pairsOf_size];lia)
 by_cases h2:vs.toArray.size<2
 ·rw[KA h2,KA h2];refine gA (EA ?_);dsimp only;rw[StateT.run_pure];refine gA (EA ?_);dsimp only;have p0:(arrOf (SortSt.mk' general' (vs.toArray.zip vs.toArray) #[] 7 none)).size=(pairsOf vs).size:=rfl;refine gA (qb g6 rfl (gA (Ra g6 rfl ?_ (mI _) (sz _ p0))));simp only[bne_self_eq_false,OJ,if_false];exact EA (fin _ p0 pz)
 ·rw[if_neg h2,if_neg h2]
  have fg:∀x∈vs,TJ prog w h6 g x:=λx hx=>(hv x hx).mono λb o e c=>kp b o (λz=>by
   subst z;rw[ho] at e;cases e
   exact absurd (show Value.type "list"=Value.type "tuple" from c) (by decide)) e
  obtain⟨fs,f1,f2,f3⟩:=De vs fg;refine gA (PySem.W.kat_kind f1 (by rw[f2];simp at h2;lia) f3 (by cases g<;>rfl) ?_);rw[show(g.ty != Value.type "tuple")=g.i from by cases g<;>rfl];have L:RJ prog w A E { s with heap:=h6 } (tuples' g.i) (λx=>x.1∈vs/\x.2∈vs):=sIa hu λx hx=>fg _ hx.1
  refine gA (IJ (yZa L (Q:=λ_ xA=>failedOf xA=none/\(arrOf xA).size=(pairsOf vs).size/\AP (λx=>x.1∈vs/\x.2∈vs) (arrOf xA)) rfl rfl rfl pz λxA a1 a2 a3=>⟨a1,a2,a3⟩) ?_ λ_ _ e=>e)
  ·rintro⟨⟨⟩,xA⟩ s' ⟨rfl,f,p,r⟩
   dsimp only;refine gA (qb g6 rfl (gA (Ra g6 rfl ?_ (mI _) (sz _ p))));rw[f];simp only[bne_self_eq_false,OJ,if_false];exact EA (fin xA p r)
def eWa{vs:List dA}(hl:s.heap.IsList l vs.toArray)(hz:vs.length<=sizeLine)(hv:∀x∈vs,TJ prog w s.heap g x)(hu:A.units+12<cLine)
  (h:∀(out:Array dA) p h' n',out.size=vs.length->(∀x∈out.toList,x∈vs)->s.heap.objs.size<=p->h'.get? p=some (seqObj "list" out n')->(∀b o,s.heap.get? b=some o->h'.get? b=some o)->Q (.ref p) { s with heap:=h' }):rA (model prog w) A (call (.builtin "sorted") [.ref l]) Q E s:=by
 refine Calls.call_function_entry kind_sorted plain_sorted entry_sorted (args_sorted1 _) ?_;show rA _ _ (checkCount _ _ _ _>>=_) _ _ _;refine gA (EA (gA (collect_list hl (gA (wpAny_newList ?_ (by simpa using hz))) hz)));have ky:∀b o,s.heap.get? b=some o->((s.heap.push (seqObj "list" #[] 0)).update s.heap.objs.size (TK (· ++ vs.toArray))).get? b=some o:=λb o e=>D4 _ (MD (mC e)) (oC _ e)
 generalize hh:(s.heap.push (seqObj "list" #[] 0)).update s.heap.objs.size (TK (· ++ vs.toArray))=h1 at ky;have g2:(h1.push (seqObj "list" vs.toArray 0)).get? h1.objs.size=some (seqObj "list" vs.toArray 0):=XD _ rfl;have hs:s.heap.objs.size<=h1.objs.size:=by rw[<- hh,Heap.size_update,size_push'];lia
 have k2:∀b o,s.heap.get? b=some o->(h1.push (seqObj "list" vs.toArray 0)).get? b=some o:=λb o e=>oC _ (ky b o e)
 exact gA (XG (dM slot_list_sort ⟨_,g2,rfl⟩ entry_list_sort (dWa (s:={ s with heap:=h1.push (seqObj "list" vs.toArray 0) }) g2 hz (λx hx=>(hv x hx).mono λb o e _=>k2 b o e) (by show A.units+1+1+10<_;lia) λout h' n' p r g3 k3=>⟨_,rfl,EA ⟨_,rfl,h out _ h' n' p r hs g3 λb o e=>k3 b o (MD (WE (mC e) hs)) (k2 b o e)⟩⟩) (args_list_sort _)))
end
end CS
namespace L2
open PySem PySem.Spec PyProof.Rows
abbrev iE:=List (JB×kA×dA)
noncomputable def N4(k:LA):Int:=reduceHash (jP [hashInt k.1,reduceHash (jP (k.2.map hashInt))])
def hS(k:JB):Int:=N4 (gk k)
def VN(x:JB×kA×dA):CN:={ hash:=hS x.1,key:=.ref x.2.1,val:=x.2.2 }
def BB(a:kA)(xs:iE)(ep:Nat)(h:TB):Prop:=∃o es,h.get? a=some o/\o.ExactDict/\o.data=.dict es ep/\es.toList=xs.map VN
def nP(H:Hp)(a:kA)(xs:iE):Prop:=∃ep,H a=some (.ext (BB a xs ep))
def wI(K:iA)(H:Hp)(k:LA)(b:kA):Prop:=∃c,QC K H b [.int k.1,.ref c]/\QC K H c (k.2.map V.int)
def aC(K:iA)(H:Hp)(k:JB)(b:kA):Prop:=wI K H (gk k) b
structure DS(K:iA)(H:Hp)(a:kA)(xs:iE):Prop where
 at_:nP H a xs
 nd:(xs.map (·.1)).Nodup
 len:xs.length<=sizeLine
 sm:(a==sysModules)=false
 keys:∀x∈xs,aC K H x.1 x.2.1
section
variable{k:JB}
def wI.is{k:LA}(I:fA X aA Y H s)(e:wI X.K H k b):LC X.prog X.w s.heap k b:=by
 obtain⟨c,e1,e2⟩:=e;obtain⟨cA,r,ht,_⟩:=I.tuple e1;obtain⟨xK,r2,⟨o,h1,h2,n,h3⟩,_⟩:=I.tuple e2;obtain⟨u,v,rfl,ru,rv⟩:=aAH r;obtain⟨t,rfl⟩:=ru;cases rv;refine⟨t,c,ht,o,xK.toArray,n,h1,h2,h3, ?_⟩
 have key:∀{ns:List Int} {us:List dA},aAb (ns.map V.int) us->tY (intKind X.prog X.w) ns us:=by
  intro ns
  induction ns with
  |nil=>intro us q;cases q;exact .nil
  |cons n ns ih =>
   intro us q;rw[AB] at q
   cases q with
   |cons q1 q2 =>
    obtain⟨t,rfl⟩:=q1;exact .cons (by show JY n (.int n t)=true;simp[JY]) (ih q2)
 simpa using key r2
theorem aC.is{k:JB}(I:fA X aA Y H s)(e:aC X.K H k b):(cD X.prog X.w).is s.heap k b:=wI.is I e
theorem Wd:entryOfKey (cD P w)=VN:=rfl
def DS.dict(I:fA X aA Y H s)(d:DS X.K H a xs):s.heap.DictOfH (cD X.prog X.w) a xs:=by
 obtain⟨ep,e⟩:=d.at_;obtain⟨⟨o,es,h1,h2,h3,h4⟩,_⟩:=(show lD X.prog X.w H s.heap a (.ext (BB a xs ep)) from I.RA a _ e)
 exact⟨o,es,ep,h1,h2,h3,by rw[Wd];exact h4,λx hx=>(d.keys x hx).is I,d.nd⟩
def BB.wH(r:BB a xs ep h1)(k:∀o,h1.get? a=some o->h2.get? a=some o):BB a xs ep h2:=by
 obtain⟨o,es,e,r⟩:=r;exact⟨o,es,k o e,r⟩
def BB.ok(d:h.DictOfH (cD P w) a xs):∃ep,∀H:Hp,lD P w H h a (.ext (BB a xs ep)):=by
 obtain⟨o,es,ep,h1,h2,h3,h4,_⟩:=d;exact⟨ep,λ_=>⟨⟨o,es,h1,h2,h3,by rw[<- Wd];exact h4⟩,⟨o,h1⟩,λ_ _ r k=>r.wH k⟩⟩
def K8:(storedH xs k b v).length<=xs.length+1:=by unfold storedH;split<;>simp
def J8{T:JB->kA->Prop}(h:∀x∈xs,T x.1 x.2.1)(hk:T k b):∀x∈storedH xs k b v,T x.1 x.2.1:=by
 unfold storedH;split
 ·intro x hx;obtain⟨y,hy,rfl⟩:=JC.mp hx;unfold putAt;split
  ·exact h y hy
  ·exact h y hy
 ·intro x hx;rcases dE.mp hx with hx | hx
  ·exact h x hx
  ·rw[kD.mp hx];exact hk
def jUa(hu:A.units+11<cLine)(I:fA X aA Y H s)(d:DS X.K H a xs)(hk:aC X.K H k b)(e:atKey xs k=some p)(h:∀s',fA X aA Y H s'->Q p.2 s'):rA (model X.prog X.w) A (getItem (.ref a) (.ref b)) Q E s :=
 wpAny_getItem_heap (show A.units+1+10<cLine by lia) (hk.is I) (d.dict I) e (h _ (I.tok _))
def kUa(hu:A.units+11<cLine)(I:fA X aA Y H s)(d:DS X.K H a xs)(hk:aC X.K H k b)(h:∀s',fA X aA Y H s'->Q (.bool (atKey xs k).isSome) s'):rA (model X.prog X.w) A (gE .In (.ref b) (.ref a)) Q E s :=
 wpAny_in_heap (show A.units+1+10<cLine by lia) (hk.is I) d.sm (d.dict I) (h _ (I.tok _))
def nUa(hu:A.units+11<cLine)(I:fA X aA Y H s)(d:DS X.K H a xs)(hk:aC X.K H k b)(h:∀s',fA X aA Y H s'->Q (.bool !(atKey xs k).isSome) s'):rA (model X.prog X.w) A (gE .NotIn (.ref b) (.ref a)) Q E s :=
 wpAny_notIn_heap (show A.units+1+10<cLine by lia) (hk.is I) d.sm (d.dict I) (h _ (I.tok _))
def Yi{h:TB}(d:h.DictOfH (cD P w) a xs):(xs.map (·.1)).Nodup:=by
 obtain⟨_,_,_,_,_,_,_,_,nd⟩:=d;exact nd
def oUa(hu:A.units+11<cLine)(I:fA X aA Y H s)(d:DS X.K H a xs)(hk:aC X.K H k b)(hl:xs.length<sizeLine)
  (h:∀ep s',fA X aA Y (CA H a (.ext (BB a (storedH xs k b v) ep))) s'->((storedH xs k b v).map (·.1)).Nodup->Q () s'):rA (model X.prog X.w) A (setItem (.ref a) (.ref b) v) Q E s :=
 wpAny_setItem_heap (show A.units+1+10<cLine by lia) (hk.is I) (d.dict I) (λh' dd hs=>let ⟨_,e⟩:=d.at_;let ⟨_,w⟩:=BB.ok dd;h _ _ (j0 I (by rw[e];exact True.intro) hs (let ⟨o,_,_,e,_⟩:=dd;⟨o,e⟩) (w _)) (Yi dd)) (fM hl)
def Ik(h:TB):lD P w H (h.push { cls:=.type "dict",data:=.dict #[] }) h.objs.size (.ext (BB h.objs.size [] 0)) :=
 ⟨⟨_,#[],XD _ rfl,⟨rfl,rfl,rfl⟩,rfl,rfl⟩,⟨_,XD _ rfl⟩,λ_ _ r k=>r.wH k⟩
def ePa:PE X (.Dict [] [] pos) (λ_ H Q=>∀p,H p=none->(p==sysModules)=false->Q (.ref p) (CA H p (.ext (BB p [] 0)))):=λaA s Y H Q I q =>
 wpAny_Dict_empty ⟨.ref s.heap.objs.size,_,I.laid (a:=s.heap.objs.size) (o:=.ext (BB s.heap.objs.size [] 0)) (t':=s.toks) (λ_ _ q=>oC _ q) (jB _) (Ik s.heap),rfl,q _ (I.RA.fresh (jB _)) (sN.mpr (gF (MD I.big)))⟩
def iXa(K:iA)(tk tv:TE):TE:=λY H Q=>∀p,H p=none->(p==sysModules)=false->tk Y (CA H p (.ext (BB p [] 0))) λx H1=>tv Y H1 λy H2=>H2 p=some (.ext (BB p [] 0))/\∃k b,x=.ref b/\aC K H2 k b/\∀v,aAc y v->∀ep,Q (.ref p) (CA H2 p (.ext (BB p [(k,b,v)] ep)))
def fPa(hu:X.A.units+11<cLine)(hk:PE X ke tk)(hv:PE X ve tv):PE X (.Dict [some ke] [ve] pos) (iXa X.K tk tv):=by
 intro aA s Y H Q I q;have hn:=I.RA.fresh (jB s.heap.objs.size);have sm:(s.heap.objs.size==sysModules)=false:=sN.mpr (gF (MD I.big));have I1:=I.laid (a:=s.heap.objs.size) (o:=.ext (BB s.heap.objs.size [] 0)) (h':=s.heap.push { cls:=.type "dict",data:=.dict #[] }) (t':=s.toks) (λ_ _ q=>oC _ q) (jB _) (Ik s.heap);refine wpAny_Dict_any rfl rfl (by simp) (by simp) (pairTrees_cons_walk (UA (hk aA _ Y _ _ I1 (q _ hn sm)) λu s1 ⟨x,H1,I2,rx,q1⟩=>UA (hv aA s1 Y H1 _ I2 q1) λw2 s2 ⟨y,H2,I3,ry,q2⟩=>pairTrees_nil_walk ?_));obtain⟨e,k,b,rfl,kk,q3⟩:=q2;cases rx;have d:DS X.K H2 s.heap.objs.size []:=⟨⟨_,e⟩,by simp,by simp,sm,λx hx=>nomatch hx⟩
 unfold storeAll;simp only[lU,Er,bind_assoc,pure_bind];refine gA (Mq (knd:=cD X.prog X.w) (show X.A.units+10<cLine by lia) (kk.is I3) (d.dict I3) (λh' dd hs=>let ⟨_,w⟩:=BB.ok dd;EA ⟨.ref s.heap.objs.size,_,j0 I3 (by rw[e];exact True.intro) hs (let ⟨o,_,_,e,_⟩:=dd;⟨o,e⟩) (w _),rfl,q3 _ ry _⟩) (by simp))
end
section
variable{s:zA}
def BB.typeIs(h:BB a xs ep s.heap):s.TypeIs (.ref a) "dict":=let ⟨o,_,h1,h2,_⟩:=h;⟨o,h1,h2.1⟩
def Ig(hd:(a==sysModules)=false)(hm:BB a xs ep s.heap)(hQ:Q (.ref s.heap.objs.size) { s with heap:=s.heap.push { cls:=.type "dict_keyiterator",data:=.fields #[.ref a,.int 0 0,.int xs.length 0,.int ep 0] } }):rA (model prog w) A (pyIter (.ref a)) Q E s:=by
 obtain⟨o,es,ho,hc,TV,hp⟩:=id hm;have hT:s.TypeIs (.ref a) "dict":=hm.typeIs;refine wpAny_pyIter_slot hT ya (dM ya hT F.entry_dict_iter ?_ (F.args_dict_iter_1 _));unfold EH.«dict.__iter__»;refine gA ?_;unfold Builtin.Dict.dictSlotNone;refine gA (OX hT ?_);show rA _ _ (pure (Value.ref a)) _ _ s;refine EA ?_;show rA _ _ (PX a>>=_) _ _ s;unfold PX;rw[if_neg (by rw[hd];exact fD)];refine gA (EA (gA (IK ho TV (gA (nU ho TV ?_)))));have vB:es.size=xs.length:=by rw[<- kF,hp,nA]
 refine gA (ZI (EA ⟨_,rfl,"dict_keyiterator",_,⟨_,XD _ rfl,rfl⟩,x9.lookup, ?_⟩));simpa[rawInt,vB] using hQ
def MW(hh:A.handled=none)(hit:s.heap.IsKeyIter it a i xs.length ep)(hm:BB a xs ep s.heap)
  (h1:∀x h',xs[i]?=some x->h'.IsKeyIter it a (i+1) xs.length ep->SF it s.heap h'->Q (some (.ref x.2.1)) { s with heap:=h' })
  (h2:∀h',xs.length<=i->Heap.ExtBut it s.heap h'->Q none { s with heap:=h' }):rA (model prog w) A (pyNext (.ref it)) Q E s:=by
 obtain⟨o,ho,hc,hd⟩:=id hit;obtain⟨od,es,Vf,lK,zf,hp⟩:=id hm;have vB:es.size=xs.length:=by rw[<- kF,hp,nA]
 unfold pyNext
 refine gA (AY (QO (name:=yA "__next__") hit.typeIs x9
  (dM x9 hit.typeIs F.entry_dict_keyiterator_next ?_ (F.args_dict_keyiterator_next_1 _))))
 refine gA (EA (gA (gA ?_)))
 first | refine gA (v9 hit.typeIs (EA ?_)) | refine gA (C9 hit.typeIs (EA ?_))
 refine gA (wpAny_fieldsOf ho hd ?_);rw[if_neg (show ¬a1a "dict_keyiterator"=true from by decide)];show rA _ _ (if(Value.ref a==Value.none)=true then _ else _) _ _ s;rw[if_neg (show ¬((Value.ref a==Value.none)=true) from fD)];refine gA (EA (gA (IK Vf zf ?_)));rw[if_neg (by rw[vB];simp)];refine gA (EA (gA (nU Vf zf ?_)));rw[if_neg (by simp)];refine EA ?_;rcases Nat.lt_or_ge i es.size with dD | Ff
 ·have hx:∃x,xs[i]?=some x/\es[i].key=.ref x.2.1:=by
   have e:es.toList[i]?=some es[i]:=by simp[dD]
   rw[hp,iD] at e
   cases q:xs[i]? with
   |none=>rw[q] at e;cases e
   |some x=>rw[q] at e;exact⟨x,rfl,congrArg DictEntry.key (eE e).symm⟩
  obtain⟨x,hx,hk⟩:=hx;dsimp only;rw[if_neg (show ¬((i:Int)<0) from by lia),YI,z9 dD];refine gA ?_
  first | refine gA (v9 hit.typeIs (EA ?_)) | refine gA (C9 hit.typeIs (EA ?_))
  refine gA (fq hit.typeIs ?_);show rA _ _ (setField (.ref it) 1 (rawInt ((i:Int)+1))>>=_) _ _ s;refine gA (wpAny_setField ho hd (by simp) ?_)
  have dQ:(s.heap.update it (Qr (·.setIfInBounds 1 (rawInt ((i:Int)+1))))).IsKeyIter it a (i+1) xs.length ep :=
   ⟨_,P9 _ ho (Obj.isFreed_of_fields (Nq hd _)),(Obj.cls_mapFields ..).trans hc,by rw[Nq hd];simp[rawInt]⟩
  refine gA (XG ?_);refine gA (fq (s:={ s with heap:=s.heap.update it (Qr (·.setIfInBounds 1 (rawInt ((i:Int)+1)))) }) dQ.typeIs ?_);show rA _ _ (pure es[i].key) _ _ _;rw[hk];exact EA (EA ⟨_,rfl,EA (h1 x _ hx dQ (aU ..))⟩)
 ·dsimp only;rw[if_neg (show ¬((i:Int)<0) from by lia),YI,Array.getElem?_eq_none Ff];refine gA ?_
  first | refine gA (v9 hit.typeIs (EA ?_)) | refine gA (C9 hit.typeIs (EA ?_))
  show rA _ _ (setField (.ref it) 0 .none>>=_) _ _ s;refine gA (wpAny_setField ho hd (by simp) ?_);show rA _ _ (newExc (.type "StopIteration") []>>=_) _ _ _;refine gA ?_;simp only[newExc,newTuple];refine gA (ZI ?_ (by size_fits));refine gA (m:=firstArgMember _ _) (wpAny_of_eq (a:=Value.none) (by first | rfl | (simp only[firstArgMember];rfl)) ?_);refine ZI ?_ (by size_fits);simp only[raiseNew];refine gA (wpAny_handled ?_);rw[show A.in1.handled=none from hh];refine gA (EA (wpAny_throw ?_));refine gA (iU (T:="StopIteration") (b:=true) ⟨_,XD _ rfl,rfl⟩ isSubtype_stop ?_);exact EA (h2 _ (vB ▸ Ff) (((aU ..).extBut.push _).push _))
end
def WY(a:kA)(xs:iE)(ep:Nat):It:=⟨λi H=>H a=some (.ext (BB a xs ep))/\i<xs.length,λi H v H'=>H'=H/\∃x,xs[i]?=some x/\v=.ref x.2.1,λi H=>H a=some (.ext (BB a xs ep))/\xs.length<=i⟩
def rYa{K:iA}(a it:kA)(xs:iE)(ep:Nat):Turn P w K tg (WY a xs ep) [it] it (λi h=>h.IsKeyIter it a i xs.length ep) where
 mem:=kD.mpr rfl
 obj:=λi h st b hb=>by(obtain rfl:=kD.mp hb;obtain⟨o,e,c,d⟩:=st;exact⟨o,e,λv z=>by rw[d] at z;cases z⟩)
 keep:=λi h h' st k=>let ⟨o,ho,r⟩:=st;⟨o,k it (kD.mpr rfl) o ho,r⟩
 item:=by
  intro X hP hw hK hc i aA s Y H E I hf st hg;subst hP hw hK;obtain⟨f0,f1,f2,f3,f4,f5⟩:=hf it (kD.mpr rfl);obtain⟨g1,g2⟩:=hg;refine MW (I.ok.hd hc) st (show lD X.prog X.w H s.heap a (.ext (BB a xs ep)) from I.RA a _ g1).1 (λx h' hx xA sb=>?_) λ_ z=>absurd g2 (Hb.mpr z)
  have I1:fA X aA Y H { s with heap:=h' }:=I.turned (t':=s.toks) (λb o hb e=>(sb.2 b hb).trans e) f0 f1 f3 f4 f5;obtain⟨o,e,c,d⟩:=id xA;exact⟨_,rfl,JV (s:={ s with heap:=h' }) e c d (by decide) ⟨.ref x.2.1,H,I1,rfl,⟨rfl,_,hx,rfl⟩,xA,λb hb=>(hf b hb).1⟩⟩
 done:=by(intro X hP hw hK hc i aA s Y H E I hf st hg;subst hP hw hK;obtain⟨f0,f1,f2,f3,f4,f5⟩:=hf it (kD.mpr rfl);obtain⟨g1,g2⟩:=hg;exact MW (I.ok.hd hc) st (show lD X.prog X.w H s.heap a (.ext (BB a xs ep)) from I.RA a _ g1).1 (λx h' hx=>by rw[WI g2] at hx;cases hx) λh' _ eb=>⟨rfl,I.turned (t':=s.toks) (λb o hb e=>eb b o hb e) f0 f1 f3 f4 f5⟩)
 self:=λ_ _ _ _ _ st h=>rq st h
section
variable{tg:DA}
def og(tl:TE):TI:=λY H R=>tl Y H λv H1=>∃a xs ep,v=.ref a/\(a==sysModules)=false/\H1 a=some (.ext (BB a xs ep))/\R (WY a xs ep) H1
def Pj{tl:TE}(hl:PE X l tl):PI X tg l (og tl):=by
 intro aA s Y H R I h;refine UA (hl aA s Y H _ I h) λv s1 hz=>?_
 obtain⟨y,H1,I1,r1,q1⟩:=hz;obtain⟨a,xs,ep,rfl,sm,hx,q⟩:=q1;cases r1;refine Ig sm (show lD X.prog X.w H1 s1.heap a (.ext (BB a xs ep)) from I1.RA a _ hx).1 ?_;refine⟨s1.heap.objs.size,[s1.heap.objs.size],_,_,H1,rfl,I1.kept (t':=s1.toks) λb o e=>oC _ e,rYa a _ xs ep,⟨_,XD _ rfl,rfl,rfl⟩,λb hb=>?_,q⟩;obtain rfl:=kD.mp hb;exact I1.CM (jB _) (I1.RA.fresh (jB _))
def xGa(sm:(a==sysModules)=false):PySem.W.KdlSrc P w "dict" a a xs.length (λi v=>∃x,xs[i]?=some x/\v=.ref x.2.1) (BB a xs ep) where
 type:=λ_ hm=>hm.typeIs
 there:=λ_ hm=>let ⟨_,_,h,_⟩:=hm;⟨mC h,mC h⟩
 keep:=λ_ _ hm hk=>hm.wH λo e=>hk a (.inl rfl) o e
 notList:=by decide
 notTuple:=by decide
 hint:=λ_ _ _ _ hm hq=>PySem.W.kdl_hint_dict hm.typeIs hq
 iter:=λ_ s hh hm=>⟨_,λi h=>h.IsKeyIter s.heap.objs.size a i xs.length ep/\BB a xs ep h,(λ_ _ hq=>Ig sm hm hq),{
  sub:=λb hb=>by simp at hb;simp[hb]
  frame:=λ_ _ _ st hk=>⟨st.1.at λo e=>hk _ (by simp) o e,st.2.wH λo e=>hk a (by simp) o e⟩
  item:=λi s1 Q E hi st hQ=>MW hh st.1 st.2 (λx h' hx xA sb=>hQ _ h' s1.toks ⟨x,hx,rfl⟩ ⟨xA,st.2.wH λo e=>sb.extBut a o (let ⟨_,_,h,_⟩:=hm;MD (mC h)) e⟩ λb o hb e=>sb.extBut b o (λh=>hb (by simp[h])) e) λ_ z=>absurd hi (Hb.mpr z)
  done:=λs1 Q E st hQ=>MW hh st.1 st.2 (λx h' hx=>by simp at hx) λh' _ he=>hQ h' s1.toks λb o hb e=>he b o (λh=>hb (by simp[h])) e
  self:=λ_ _ _ _ st hQ=>rq st.1 hQ },⟨⟨_,XD _ rfl,rfl,rfl⟩,hm.wH λo e=>oC _ e⟩⟩
end
section
variable{cA:List dA}
def iIa:typeLookup (.type "list") "keys"=pure none:=by rw[typeLookup_type,builtinLookup_eq_fast];kernel_rfl
def nKa(hx:s.heap.get? a=some { cls:=.type "list",dict:=none,data:=.seq xs k,slots:=sl })(hA:A.handled=none)
  (h:∀h' tk,(∀b o,s.heap.get? b=some o->h'.get? b=some o)->Q none { s with heap:=h',toks:=tk }):rA (model prog w) A (getAttr? (.ref a) "keys") Q E s:=by
 obtain⟨hp,g,d,tk,os⟩:=s;have hT:∀ko,(⟨hp,g,d,ko,os⟩:zA).TypeIs (.ref a) "list":=λ_=>⟨_,hx,rfl⟩
 have f1:=sub_AttributeError;have f3:=D9.lookup;have f4:=D9.bind (.ref a);have f5:=am_list_getattr_none;unfold getAttr? getAttrBy? getAttrBy
 repeat (any_goals (first | assumption | exact hT _ | ((with_reducible show rA _ _ (call (Value.builtin "list.__getattribute__") _ _) _ _ _);refine xU D9 (hT _) am_entry_list_getattribute (F.args_list_getattribute_2 _ _) (meets_getattribute_miss_list a xs k sl _ _ iIa (by decide) (by size_fits)) ⟨hx,hA,λh' ko e PM=>?_⟩) | wp_step))
 obtain⟨t',u',he⟩:=PM.there;show rA _ _ (getattributeRaised _ _ _ _ _ _ _) _ _ _;unfold getattributeRaised
 repeat (any_goals (first | assumption | wp_step))
 exact h _ _ PM.keeps
def Xd:entryFor table "dict.update.loop"=some EH.«dict.update.loop»:=entryFor_of_tree (by kernel_rfl)
def cX:plainId "dict.update.loop"=true:=by decide +kernel
end
def BB.ty{s:zA}(h:BB a xs ep s.heap):s.TypeIs (.ref a) "dict":=let ⟨o,_,h1,h2,_⟩:=h;⟨o,h1,h2.1⟩
def om:isSubtype (.type "dict") (.type "dict")=pure true:=by with_unfolding_all rfl
def Hy(a b:kA)(xs:iE)(ep AM:Nat):Meets (EH.«dict.__eq__» ⟨[.ref a,.ref b],[]⟩)
  (λA R s=>(a==sysModules)=false/\(b==sysModules)=false/\BB a xs ep s.heap/\BB b [] AM s.heap/\R (.ok (.ret (.bool xs.isEmpty))) s) :=
 .of_wp λprog w A R s hz=>by
  obtain⟨sa,sb,ha,hb,h⟩:=hz;show rA _ _ (xp "__eq__" _>>=_) _ _ _;refine gA ?_;unfold xp;refine gA (OX ha.ty ?_);show rA _ _ (pure (Value.ref a,Value.ref b)) _ _ s;refine EA ?_;show rA _ _ (isInstance (.ref b) (.type "dict")>>=_) _ _ s;refine gA (iU hb.ty om ?_);show rA _ _ (Vp _ a b>>=_) _ _ s;refine gA ?_;unfold Vp PX;obtain⟨o,es,h1,h2,h3,h4⟩:=ha;obtain⟨o',ZR,TH,Ze,jK,B'⟩:=hb;have e0:ZR=#[]:=G9.mp B';subst e0;rw[if_neg (by rw[sa];exact fD),if_neg (by rw[sb];exact fD)];refine gA (EA (gA (EA (gA (IK h1 h3 (gA (IK TH jK ?_)))))));have vB:es.size=xs.length:=by rw[<- kF,h4,nA]
  cases xs with
  |nil =>
   have e1:es=#[]:=G9.mp h4;subst e1;refine gA (nU h1 h3 ?_);rw[show ∀(f:Nat->Option Bool×Unit->DE (ForInStep (Option Bool×Unit))),forIn [:(#[]:Array CN).size] (none,()) f=pure (none,()) from λf=>by simp[Xo,gq]];refine gA (EA ?_);refine EA ?_;exact EA ⟨_,rfl,h⟩
  |cons x xs =>
   rw[KA (by rw[vB];rfl)];exact gA (iP (EA (EA ⟨_,rfl,h⟩)))
section
variable{prog:KC}{w:WB}{A:RD}{E:dA->zA->Prop}{s:zA}{a b:kA}{xs:iE}{ep AM:Nat}
def Gy{Q:dA->zA->Prop}(hu:A.units<cLine)(sa:(a==sysModules)=false)(sb:(b==sysModules)=false)(ha:BB a xs ep s.heap)(hb:BB b [] AM s.heap)(h:Q (.bool xs.isEmpty) s):rA (model prog w) A (gE .Eq (.ref a) (.ref b)) Q E s :=
 L9 (op:=.Eq) ha.ty hb.ty PySem.F.slot_dict_eq PySem.F.entry_dict_eq (PySem.F.args_dict_eq_2 _ _) (Hy a b xs ep AM) ⟨sa,sb,ha,hb,show Value.bool xs.isEmpty≠Value.notImplemented/\Q _ s from⟨(λx=>nomatch x),h⟩⟩ hu
def uk(ho:s.heap.get? d=some o)(hx:o.ExactDict)(hd:o.data=.dict es ep)(f:Array CN->Array CN)(hf:(f es).toList=zs.map VN)(hk:∀z∈zs,(cD prog w).is s.heap z.1 z.2.1)(nd:(zs.map (·.1)).Nodup):(s.heap.update d (Obj.mapDictKeys f)).DictOfH (cD prog w) d zs :=
 ⟨_,_,_,P9 _ ho (Obj.isFreed_of_dict (sq hd f)),hx.mapDictKeys _,sq hd f,hf,λz hz=>(cD prog w).keeps (hk z hz) ho hd (aU ..),nd⟩
def zUa(hu:A.units+10<cLine)(hk:(cD prog w).is s.heap y.1 y.2.1)(hd:s.heap.DictOfH (cD prog w) d zs)(nd:((zs++[y]).map (·.1)).Nodup)(hz:zs.length<=sizeLine)
  (h:∀h',h'.DictOfH (cD prog w) d (zs++[y])->SF d s.heap h'->Q () { s with heap:=h' }):rA (model prog w) A (dictSetHashed d (.ref y.2.1) (hS y.1) y.2.2) Q E s:=by
 obtain⟨o,es,ep,h1,h2,h3,h4,h5,h6⟩:=hd;unfold dictSetHashed;refine XG (gA (wpAny_dictFind_heap (knd:=cD prog w) (k:=y.1) hu hk h1 h3 h4 h5 h6 (λ_=>?_) λj p e=>?_))
 ·refine gA (iP (Xp h1 h3 (h _ (uk h1 h2 h3 _ ?_ (λz hz=>?_) nd) (aU ..)) ?_))
  ·rw[Xq,h4,UB];rfl
  ·rcases dE.mp hz with hz | hz
   ·exact h5 z hz
   ·rw[kD.mp hz];exact hk
  ·rw[Array.size_push,<- kF,h4,nA];lia
 ·rw[UB] at nd;exact absurd (List.mem_map_of_mem (f:=(·.1)) (VE e)) λz=>(aJ.mp nd).2.2 _ z _ (kD.mpr rfl) rfl
def kSa(hk:(cD prog w).is s.heap k b)(h:Q false s):rA (model prog w) A (tq (.ref b)) Q E s:=by
 have ht:s.TypeIs (.ref b) "tuple":=by
  cases k with
  |inl k=>obtain⟨_,_,⟨o,e,c,_⟩,_⟩:=hk;exact⟨o,e,c⟩
  |inr k =>
   cases k
 unfold tq;exact gA (mU ht (qp.lookup) (EA h))
def zMa{ys:iE}{es:Array CN}(h4:es.toList=ys.map VN)(nh:(ys.map λy=>hS y.1).Nodup)(he:e∈es.toList):¬(es.filter λx=>x.hash==e.hash).size > 1:=by
 rw[h4] at he;rw[<- kF,Array.toList_filter,h4]
 have key:∀l:iE,(l.map λy=>hS y.1).Nodup->((l.map VN).filter λx=>x.hash==e.hash).length<=1:=by
  intro l
  induction l with
  |nil=>exact λ_=>mI _
  |cons y l ih =>
   intro nd;rw[AB,GJ] at nd;rw[AB,jY];split
   ·rename_i hy;have hy:hS y.1=e.hash:=XC hy
    have:(l.map VN).filter (λx=>x.hash==e.hash)=[]:=by(rw[N9];intro x hx z;obtain⟨q,hq,rfl⟩:=JC.mp hx;exact nd.1 (JC.mpr ⟨q,hq,(XC z).trans hy.symm⟩))
    rw[this];exact jB _
   ·exact ih nd.2
 exact Hb.mpr (key ys nh)
def hJa(hu:A.units+10<cLine)(ne:d≠o)(so:(o==sysModules)=false)(hd:s.heap.DictOfH (cD prog w) d xs)(ho:s.heap.DictOfH (cD prog w) o ys)(y0:ys≠[])(nd:((xs++ys).map (·.1)).Nodup)(nh:(ys.map λy=>hS y.1).Nodup)(hz:xs.length+ys.length<=sizeLine)
  (h:∀h',h'.DictOfH (cD prog w) d (xs++ys)->SF d s.heap h'->Q () { s with heap:=h' }):rA (model prog w) A (O9 nm d o) Q E s:=by
 unfold O9 PX;rw[if_neg (by simpa using ne),if_neg (by rw[so];exact fD)];obtain⟨oo,eo,po,o1,o2,o3,o4,o5,o6⟩:=id ho;refine gA (EA (gA (IK o1 o3 ?_)))
 have h_:(decide (eo.size<=8)&&eo.all λe=>(keyPart e.key).isSome)=false:=by
  rw[Bool.and_eq_false_iff];refine .inr ?_;rw[<- Array.all_toList,o4]
  cases ys with
  |nil=>exact absurd rfl y0
  |cons y ys=>rfl
 dsimp only;rw[h_,KA (show(!false)=true from rfl)];obtain⟨od,ed,pd,d1,d2,d3,d4,d5,d6⟩:=id hd;refine gA (IK d1 d3 ?_)
 cases xs with
 |nil =>
  have e0:ed=#[]:=G9.mp d4;subst e0;rw[KA (show(#[]:Array CN).isEmpty=true from rfl)];refine gA ?_;unfold Builtin.Dict.entriesForEmpty;refine gA (IK o1 o3 (gA ?_));rw[<- W9];refine fY _ (λrest _ s'=>s'=s/\∀e∈rest,e∈eo.toList) _ (λe rest _ s' ⟨hs,hr⟩=>?_) (λ_ s' ⟨hs,_⟩=>?_) _ _ ⟨rfl,λ_ h=>h⟩
  ·subst hs;have he:=hr e YD;have WV:=he;rw[o4] at WV;obtain⟨y,hy,rfl⟩:=JC.mp WV;refine gA (kSa (o5 y hy) ?_);rw[KA (show(!false)=true from rfl),if_neg (zMa o4 nh he)];exact EA ⟨rfl,λe he=>hr e (WC _ he)⟩
  ·subst hs;refine EA ?_
   have he:eo.isEmpty=false:=by
    cases ys with
    |nil=>exact absurd rfl y0
    |cons y ys=>rw[<- uq,o4];rfl
   rw[he,KA (show(!false)=true from rfl)];refine gA (Xp d1 d3 (EA (h _ (uk d1 d2 d3 _ o4 o5 nd) (aU ..))) ?_);rw[<- kF,o4,nA];simp at hz
   lia
 |cons x xs =>
  have he:ed.isEmpty=false:=by rw[<- uq,d4];rfl
  rw[he,if_neg fD];refine gA (nU o1 o3 (gA (IK o1 o3 ?_)));have vB:eo.size=ys.length:=by rw[<- kF,o4,nA]
  rw[Xo];have hr:ub 0 ([:eo.size]:Std.Legacy.Range).size 1=ub 0 ys.length 1:=by rw[<- vB];simp[gq]
  refine gA ?_;have nn:o≠d:=λz=>ne z.symm
  refine fY _ (λrest _ s'=>∃i h1,rest=ub i (ys.length-i) 1/\i<=ys.length/\s'={ s with heap:=h1 }/\h1.DictOfH (cD prog w) d (x::xs++ys.take i)/\SF d s.heap h1) _ (λj rest _ s' ⟨i,h1,hr,hi,hs,SV,sb⟩=>?_) (λ_ s' ⟨i,h1,hr,hi,hs,SV,sb⟩=>?_) _ _ ⟨0,s.heap,hr,mI _,rfl,by rw[vY,ZD];exact hd,⟨rfl,λ_ _=>rfl⟩⟩
  ·subst hs
   obtain⟨m,hm⟩:∃m,ys.length-i=m+1:=by
    cases q:ys.length-i with
    |zero=>rw[q] at hr;cases hr
    |succ m=>exact⟨m,rfl⟩
   rw[hm,List.range'_succ] at hr;obtain⟨hj,hr⟩:=BY hr;subst hj hr;have lt:j<ys.length:=by lia
   have lj:=(sb.2 o nn).trans o1;refine gA (IK lj o3 ?_)
   have ei:eo[j]?=some (VN ys[j]):=by(rw[<- VT,o4,iD,FC lt];rfl)
   rw[ei];have tk:x::xs++ys.take j++[ys[j]]=x::xs++ys.take (j+1):=by rw[GH,List.take_append_getElem lt]
   refine gA (XG (zUa (y:=ys[j]) (zs:=x::xs++ys.take j) hu ((cD prog w).keeps (o5 _ (XO lt)) d1 d3 sb) SV ?_ ?_ λh2 hd2 gN=>?_))
   ·rw[tk];refine List.Nodup.sublist (List.Sublist.map _ ?_) nd;exact List.Sublist.append (List.Sublist.refl _) (Sq _ _)
   ·simp at hz ⊢
    lia
   ·refine gA (nU ((gN.2 o nn).trans lj) o3 ?_);rw[if_neg (by simp)];exact EA ⟨j+1,h2,by rw[show ys.length-(j+1)=m from by lia],lt,rfl,by rw[<- tk];exact hd2,⟨gN.1.trans sb.1,λb hb=>(gN.2 b hb).trans (sb.2 b hb)⟩⟩
  ·subst hs
   have e:i=ys.length:=by
    cases q:ys.length-i with
    |zero=>lia
    |succ m=>rw[q] at hr;cases hr
   subst e;rw[vN] at SV;exact EA (h h1 SV sb)
def sx(hu:A.units+12<cLine)(ne:d≠o)(so:(o==sysModules)=false)(hd:s.heap.DictOfH (cD prog w) d xs)(ho:s.heap.DictOfH (cD prog w) o ys)(y0:ys≠[])(nd:((xs++ys).map (·.1)).Nodup)(nh:(ys.map λy=>hS y.1).Nodup)(hz:xs.length+ys.length<=sizeLine)
  (h:∀h',h'.DictOfH (cD prog w) d (xs++ys)->SF d s.heap h'->Q .none { s with heap:=h' }):rA (model prog w) A (call (.builtin "dict.update") [.ref d,.ref o]) Q E s:=by
 have td:s.TypeIs (.ref d) "dict":=let ⟨o,_,_,h1,h2,_⟩:=hd;⟨o,h1,h2.1⟩
 have to:s.TypeIs (.ref o) "dict":=let ⟨o,_,_,h1,h2,_⟩:=ho;⟨o,h1,h2.1⟩
 refine dM Oq td F.entry_dict_update ?_ (F.args_dict_update_2 _ _);unfold EH.«dict.update» Fp;refine gA (gA (OX td ?_));show rA _ _ (pure (d,[Value.ref o])) _ _ s;refine EA ?_;show rA _ _ (MX "dict.update" d (.ref o) [] .none) _ _ s;unfold MX;refine gA (eP to ?_);rw[if_neg (by decide)];unfold Builtin.Dict.merge Builtin.Dict.readDirectly;refine gA (gA (gA (iU to om ?_)));rw[if_neg (by decide)];refine gA (mU to ya.lookup (EA ?_));rw[KA (by decide)];show rA _ _ (O9 _ d o) _ _ s;exact hJa (by show A.units+1+10<cLine;lia) ne so hd ho y0 nd nh hz λh' h1 h2=>gA (EA (EA ⟨_,rfl,h h' h1 h2⟩))
end
section
variable{X:Cx}{o e:DA}{to te:TE}{wB GB:IC}
def uj(f:V->Hp->Prop):List V->Hp->Prop
 |[y],H=>f y H
 |_,_=>False
def yMa(h:uj f vs H):∃y,vs=[y]/\f y H:=by
 obtain _ | ⟨y,_ | ⟨_,_⟩⟩:=vs
 ·exact h.elim
 ·exact⟨y,rfl,h⟩
 ·exact h.elim
def zXa(K:iA)(to te:TE):TE:=λY H Q=>to Y H λx H1=>∃a xs,x=.ref a/\nP H1 a xs/\te Y H1 λy H2=>∃b ys,y=.ref b/\a≠b/\DS K H2 a xs/\DS K H2 b ys/\ys≠[]/\((xs++ys).map (·.1)).Nodup/\(ys.map λy=>hS y.1).Nodup/\xs.length+ys.length<=sizeLine/\∀ep,Q .pA (CA H2 a (.ext (BB a (xs++ys) ep)))
def vPa(hu:X.A.units+12<cLine)(ho:PE X o to)(ha:PE X e te)(mS:attributeBase o ("update":bA) X.env (eval o X.env)=eval o X.env:=by rfl)
  (W4:((yF GB (zC [e] X.env)).all (λx=>!x.1)&&(backToKw GB (keywordEach [] X.env)).all (λx=>x.1.isSome)
   && decide ([e].length+([]:List rR).length+(if([]:List rR).isEmpty then 0 else 1)<30))=true:=by rfl)
  (qS:(wB.endLine==GB.line)=true:=by rfl) (hs:zC [e] X.env=[(false,eval e X.env)]:=by rfl) :
  PE X (.Call (.Attribute o ("update":bA) wB) [e] [] GB) (zXa X.K to te):=by
 have hp:=bN ha BO hs;intro aA s Y H Q I h;refine Up mS W4 qS rfl (UA (ho aA s Y H _ I h) λv s1 hz=>?_);obtain⟨x,H1,I1,r1,q1⟩:=hz;obtain⟨a,xs,rfl,⟨ep,hx⟩,q1⟩:=q1;cases r1;have dr:BB a xs ep s1.heap:=(show lD X.prog X.w H1 s1.heap a (.ext (BB a xs ep)) from I1.RA a _ hx).1;refine⟨"dict",_,F.plainAttrs_dict,Oq,F.type_dict_update,dr.ty,λb z=>?_, ?_⟩
 ·cases z;obtain⟨ob,_,h1,h2,_⟩:=dr;exact⟨ob,h1,h2.2.1⟩
 have hA:=hp GB aA s1 Y H1 (uj λy H2=>∃b ys,y=.ref b/\a≠b/\DS X.K H2 a xs/\DS X.K H2 b ys/\ys≠[]/\((xs++ys).map (·.1)).Nodup/\(ys.map λy=>hS y.1).Nodup/\xs.length+ys.length<=sizeLine/\∀ep,Q .pA (CA H2 a (.ext (BB a (xs++ys) ep)))) I1 q1;rw[hs] at hA ⊢;refine Calls.callWith_builtin rfl (Calls.evalArgs_plain ?_);refine UA hA λus s2 hz=>?_
 obtain⟨vs,H2,I2,r2,q⟩:=hz;obtain⟨y,rfl,b,ys,rfl,ne,d1,d2,y0,nd,nh,hz,q⟩:=yMa q;obtain⟨u,rfl,ru⟩:=r2.one;cases ru;refine sx hu ne d2.sm (d1.dict I2) (d2.dict I2) y0 nd nh hz λh' dd sb=>?_
 obtain⟨ep2,e2⟩:=d1.at_;obtain⟨Dy,w⟩:=BB.ok dd;exact⟨.pA,_,j0 I2 (by rw[e2];exact True.intro) sb (let ⟨o,_,_,e,_⟩:=dd;⟨o,e⟩) (w _),rfl,q Dy⟩
end
section
variable{prog:KC}{w:WB}{A:RD}{E:dA->zA->Prop}{s:zA}{it l d:kA}{cA:List dA}
def gVa(m:∀b o,h.get? b=some o->h'.get? b=some o)(x:LC prog w h k a):LC prog w h' k a:=by
 obtain⟨t1,b1,⟨o1,e1,r1⟩,o2,i2,n2,e2,r2⟩:=x;exact⟨t1,b1,⟨o1,m _ _ e1,r1⟩,o2,i2,n2,m _ _ e2,r2⟩
def J4(m:∀b o,h.get? b=some o->h'.get? b=some o)(x:(cD prog w).is h k a):(cD prog w).is h' k a:=by
 cases k with
 |inl k=>exact gVa m x
 |inr k =>
  cases k
abbrev rP(P:KC)(w:WB)(h:TB):List dA->iE->Prop:=Paired λu q=>∃b,u=.ref b/\zF h b #[.ref q.2.1,q.2.2]/\(cD P w).is h q.1 q.2.1
def rP.get(r:rP P w h us qs):∀{i:Nat} {q:JB×kA×dA},qs[i]?=some q->∃b,us[i]?=some (.ref b)/\zF h b #[.ref q.2.1,q.2.2]/\(cD P w).is h q.1 q.2.1:=by
 unfold rP at r
 induction r with
 |nil=>intro i q e;simp at e
 | @cons u p us ps hp t ih =>
  intro i q e
  cases i with
  |zero =>
   rw[SG] at e;cases e;obtain⟨b,rfl,h2,h3⟩:=hp;exact⟨b,rfl,h2,h3⟩
  |succ i=>exact ih e
noncomputable def ER(qs RB:iE):iE:=qs.foldl (λa q=>storedH a q.1 q.2.1 q.2.2) RB
def eZa(hu:A.units+11<cLine)(hh:A.handled=none)(hl:h0.IsList l cA.toArray)(hp:rP prog w h0 cA qs)(nd:h0.get? d=none)(ni:h0.get? it=none)(nn:d≠it)(hz:qs.length<=sizeLine) :
  ∀(k i:Nat) (s:zA) (RB:iE),qs.length-i=k->i<=qs.length->s.heap.IsListIter it l i->(∀b o,h0.get? b=some o->s.heap.get? b=some o)->s.heap.DictOfH (cD prog w) d RB->RB.length<=i->(∀x∈RB,(cD prog w).is h0 x.1 x.2.1) ->
  (∀h' tk,(∀b o,h0.get? b=some o->h'.get? b=some o)->h'.DictOfH (cD prog w) d (ER (qs.drop i) RB)->R (.ok (.ret .none)) { s with heap:=h',toks:=tk }) ->
  mM (model prog w) A (.builtin "dict.update.loop" ⟨[.ref d,.ref it,rawInt i,.none],[]⟩) R s:=by
 have ne:∀{b:kA} {o:IB},h0.get? b=some o->b≠d/\b≠it:=λe=>⟨λz=>(by rw[z,nd] at e;cases e),λz=>(by rw[z,ni] at e;cases e)⟩
 intro k
 induction k with
 |zero =>
  intro i s RB hk hi hit keep hd hle ZV hR;refine Ia Xd ?_;rw[vq cX _];show rA _ A.in1 (pyNext (.ref it)>>=_) _ _ s
  have hx:cA.toArray[i]?=none:=by(rw[iq,WI];rw[hp.length];lia)
  obtain⟨ol,e1,e2⟩:=hl;refine gA (aq hh hit ⟨ol,keep _ _ e1,e2⟩ hx λh' eb=>?_);show rA _ _ (Builtin.Dict.addKeywords d []>>=_) _ _ _;refine gA (EA (EA (hR h' s.toks (λb o e=>eb b o (ne e).2 (keep b o e)) ?_)));rw[List.drop_eq_nil_of_le (by lia)];obtain⟨o,es,ep,ho,r1,r2,r3,r4,r5⟩:=hd;exact⟨o,es,ep,eb d o nn ho,r1,r2,r3,λx hx=>J4 (λb o e=>eb b o (ne e).2 (keep b o e)) (ZV x hx),r5⟩
 |succ k ih =>
  intro i s RB hk hi hit keep hd hle ZV hR;have dD:i<qs.length:=by lia
  obtain⟨b,hu',hb,aW⟩:=hp.get (FC dD);refine Ia Xd ?_;rw[vq cX _];show rA _ A.in1 (pyNext (.ref it)>>=_) _ _ s;obtain⟨ol,e1,e2⟩:=id hl;refine gA (Mp hit ⟨ol,keep _ _ e1,e2⟩ (x:=.ref b) (by rw[iq];exact hu') λh' dQ sb=>?_);have AW:∀b o,h0.get? b=some o->h'.get? b=some o:=λb o e=>(sb.2 b (ne e).2).trans (keep b o e)
  obtain⟨ob,b1,b2,n,b3⟩:=hb;have qE:=AW _ _ b1
  have ME:h'.DictOfH (cD prog w) d RB:=by(obtain⟨o,es,ep,ho,r1,r2,r3,r4,r5⟩:=hd;exact⟨o,es,ep,(sb.2 d nn).trans ho,r1,r2,r3,λx hx=>J4 AW (ZV x hx),r5⟩)
  refine gA (XG (gA (wpAny_tryCatch ?_)));unfold Builtin.Dict.pairItems;refine gA (eP (T:="tuple") ⟨ob,qE,b2⟩ ?_);rw[KA (by decide)];refine gA (wpAny_seqItems qE b3 (EA ?_));show rA _ _ (holding [.ref qs[i].2.1,qs[i].2.2] (dictSet d (.ref qs[i].2.1) qs[i].2.2)) _ _ _;refine XG (Mq (knd:=cD prog w) (k:=qs[i].1) (by show A.units+1+10<cLine;lia) (J4 AW aW) ME λh2 dd gN=>?_);refine EA ⟨plainId_quiet cX _, ?_⟩;refine ih (i+1) _ (storedH RB qs[i].1 qs[i].2.1 qs[i].2.2) (by lia) dD ?_ (λb o e=>(gN.2 b (ne e).1).trans (AW b o e)) dd (EC K8 (by lia)) (J8 ZV aW) λh3 tk k3 d3=>?_
  ·obtain⟨o,e,r⟩:=dQ;exact⟨o,(gN.2 it (gF nn)).trans e,r⟩
  ·refine hR h3 tk k3 ?_;rw[UQ dD];exact d3
def Yw(hu:A.units+13<cLine)(hx:s.heap.get? l=some { cls:=.type "list",dict:=none,data:=.seq cA.toArray n,slots:=sl })(hp:rP prog w s.heap cA qs)(hh:A.handled=none)(hz:qs.length<=sizeLine)
  (h:∀h' tk,(∀b o,s.heap.get? b=some o->h'.get? b=some o)->h'.DictOfH (cD prog w) s.heap.objs.size (ER qs [])->Q (.ref s.heap.objs.size) { s with heap:=h',toks:=tk }):rA (model prog w) A (call (.type "dict") [.ref l]) Q E s:=by
 refine callType_codes (Q₁:=λobj s₁=>obj=.ref s.heap.objs.size/\s₁={ s with heap:=s.heap.push { cls:=.type "dict",data:=.dict #[] } }) F.kt_called_dict (F.kt_typeCall_dict_1 _) F.entry_dict_init (kt_code_dict_new _ ⟨rfl,rfl⟩) ?_
 rintro obj s₁ ⟨rfl,rfl⟩
 have sS:(s.heap.push { cls:=.type "dict",data:=.dict #[] }).DictOfH (cD prog w) s.heap.objs.size []:=⟨_,#[],0,XD _ rfl,⟨rfl,rfl,rfl⟩,rfl,rfl,(λ_ z=>nomatch z),.nil⟩
 have OM:({ s with heap:=s.heap.push { cls:=.type "dict",data:=.dict #[] } }:zA).TypeIs (.ref s.heap.objs.size) "dict":=⟨_,XD _ rfl,rfl⟩
 have II:=oC { cls:=.type "dict",data:=.dict #[] } hx;refine⟨OM,F.args_dict_init_2 _ _, ?_⟩;unfold EH.«dict.__init__»;refine gA ?_;unfold Fp;refine gA (OX OM ?_);show rA _ _ (pure (s.heap.objs.size,[Value.ref l])) _ _ _;refine EA ?_;show rA _ _ (MX "dict.__init__" s.heap.objs.size (.ref l) [] .none) _ _ _;unfold MX;refine gA (eP (T:="list") ⟨_,II,rfl⟩ ?_);rw[KA (by decide)];refine gA (nKa II hh λh2 tk keep=>?_);rw[KA (show(none:Option dA).isNone=true from rfl)];refine gA (iP ?_);refine gA (XQ ⟨_,keep _ _ II,rfl,n,rfl⟩ ?_);have d1:(s.heap.push { cls:=.type "dict",data:=.dict #[] }).get? s.heap.objs.size=some { cls:=.type "dict",data:=.dict #[] }:=XD _ rfl;have nn:s.heap.objs.size≠h2.objs.size:=MD (mC (keep _ _ d1));have kp:∀b o,s.heap.get? b=some o->(h2.push { cls:=.type "list_iterator",data:=.fields #[.ref l,.int 0 0] }).get? b=some o:=λb o e=>oC _ (keep b o (oC _ e))
 refine EA ⟨plainId_quiet cX _,eZa (A:=A.in1) (h0:=s.heap) (by show A.units+1+11<cLine;lia) hh ⟨_,hx,rfl,n,rfl⟩ hp ?_ ?_ nn hz qs.length 0 _ [] rfl (mI _) ⟨_,XD _ rfl,rfl,rfl⟩ kp ?_ (jB _) (λ_ z=>nomatch z) λh' tk k d=>⟨rfl,h h' tk k d⟩⟩
 ·cases e:s.heap.get? s.heap.objs.size with
  |none=>rfl
  |some o=>exact absurd (mC e) (HJ _)
 ·cases e:s.heap.get? h2.objs.size with
  |none=>rfl
  |some o=>exact absurd (mC (keep _ _ (oC _ e))) (HJ _)
 ·exact⟨_,#[],0,oC _ (keep _ _ d1),⟨rfl,rfl,rfl⟩,rfl,rfl,(λ_ z=>nomatch z),.nil⟩
end
end L2
namespace HT
open PySem PySem.Spec PyProof.Rows
section
variable{s:zA}
def nQa(n:Nat):lP ((n:Int)-1) (-1) (-1)=n:=by
 unfold lP;rw[if_neg (by decide)];by_cases h:n=0
 ·subst h;rfl
 ·rw[KA (by lia),show((n:Int)-1 - -1-1)=(n:Int)-1 by lia,show -(-1:Int)=1 by decide,Wa]
  lia
def qVa{n:Nat}(hs:s.heap.IsSliceOf sl .none .none vs)(p:oI vs (some (-1)))(h:Q ((n:Int)-1,-1,n) s):rA (model prog w) A (HX (.ref sl) (pure (n:Int))) Q E s:=by
 obtain⟨os,WH,nK,wC⟩:=id hs;unfold HX vp;refine gA (gA (VI WH wC (x:=.none) rfl (gA (VI WH wC (x:=.none) rfl (gA (VI WH wC (x:=vs) rfl (EA ?_)))))));refine gA (z8 p ?_);show rA _ _ (if((-1:Int)==0)=true then _ else _) _ _ s;rw[if_neg (by decide)];refine gA (sY (gA (sY (gA (EA ?_)))));show rA _ _ (pure ((n:Int)-1,(-1:Int),lP ((n:Int)-1) (-1) (-1))) _ _ s;rw[nQa];exact EA h
theorem Fe:∀(l:List O),(∀a∈l,f a=some (g a))->l.filterMap f=l.map g
 |[],_=>rfl
 |a::l,h=>by(rw[UX,h a (YD ..)];show g a::l.filterMap f=g a::l.map g;rw[Fe l λb hb=>h b (WC _ hb)])
def Sj(xs:Array dA):((XB xs.size).filterMap λ(m:Nat)=>xs[((xs.size:Int)-1+(m:Int)*-1).toNat]?).toArray=xs.toList.reverse.toArray:=by
 congr 1
 apply Yq
 intro i
 have e:((XB xs.size).filterMap λ(m:Nat)=>xs[((xs.size:Int)-1+(m:Int)*-1).toNat]?)=(XB xs.size).map λm=>(xs.toList.reverse).getD m .none:=by
  refine Fe _ λm hm=>?_
  have hm:=NK.mp hm
  have:((xs.size:Int)-1+(m:Int)*-1).toNat=xs.size-1-m:=by lia
  rw[this];rw[MJ,List.getElem?_reverse (by simpa using hm),kF,VT,z9 (by lia)];rfl
 rw[e];by_cases hi:i<xs.size
 ·rw[iD,WL hi];show some (xs.toList.reverse.getD i .none)=_;rw[MJ,FC (by simpa using hi)];rfl
 ·rw[WI (by simpa using hi),WI (by simpa using hi)]
def Q_(ht:zF s.heap t items)(hs:s.heap.IsSliceOf sl .none .none vs)(p:oI vs (some (-1)))
  (h:Q (.ref s.heap.objs.size) { s with heap:=s.heap.push { cls:=.type "tuple",data:=.seq items.toList.reverse.toArray } })
  (vB:items.size<=sizeLine):rA (model prog w) A (getItem (.ref t) (.ref sl)) Q E s:=by
 have yL:sizeOk (.seq items.toList.reverse.toArray):=by(show items.toList.reverse.toArray.size<=sizeLine;rw[gD,WX,kF];exact vB)
 obtain⟨os,WH,nK,wC⟩:=id hs;have iS:s.TypeIs (.ref sl) "slice":=⟨os,WH,nK⟩
 unfold getItem
 try with_reducible refine XG ?_
 first | refine gA (EA ?_) | skip
 refine gA (da ht.typeIs (by decide) ?_)
 refine gA (QO (name:=yA "__getitem__") ht.typeIs UK
  (dM UK ht.typeIs S9 ?_ (U9 _ _)))
 show rA _ _ (JX (.ref t)>>=_) _ _ s;refine gA (yY ht ?_);refine gA (eP iS ?_);rw[KA (by decide)];refine gA (qVa hs p ?_)
 have kO:¬((((items.size:Int)-1)==0&&(-1:Int)==1&&items.size==items.size)=true):=by(intro q;rw[nB,nB] at q;exact absurd q.1.2 (by decide))
 show rA _ _ (if(((items.size:Int)-1)==0&&(-1:Int)==1&&items.size==items.size)=true then _ else _) _ _ s;rw[if_neg kO,Sj]
 first
  |exact gA (m:=EN _) (ZI (EA ⟨_,rfl,EA h⟩) yL)
  |exact gA (m:=EN _) (ZI (gA (EA (EA ⟨_,rfl,EA h⟩))) yL)
  |exact gA (gA (m:=EN _) (ZI (EA (EA ⟨_,rfl,EA h⟩)) yL))
  |exact gA (gA (m:=EN _) (ZI (EA ⟨_,rfl,EA h⟩) yL))
def O_{lo hi:Option Int}(ht:zF s.heap t items)(hs:s.heap.IsSliceOf sl vl vu .none)(pl:oI vl lo)(pu:oI vu hi)
  (hw:qB items.size 0 lo=0/\qB items.size items.size hi=items.size) (h:Q (.ref t) s):rA (model prog w) A (getItem (.ref t) (.ref sl)) Q E s:=by
 obtain⟨os,WH,nK,wC⟩:=id hs;have iS:s.TypeIs (.ref sl) "slice":=⟨os,WH,nK⟩
 unfold getItem
 try with_reducible refine XG ?_
 first | refine gA (EA ?_) | skip
 refine gA (da ht.typeIs (by decide) ?_)
 refine gA (QO (name:=yA "__getitem__") ht.typeIs UK
  (dM UK ht.typeIs S9 ?_ (U9 _ _)))
 show rA _ _ (JX (.ref t)>>=_) _ _ s;refine gA (yY ht ?_);refine gA (eP iS ?_);rw[KA (by decide)];refine gA (El hs pl pu ?_)
 have kO:(((qB items.size 0 lo:Nat):Int)==0&&(1:Int)==1&&(qB items.size items.size hi-qB items.size 0 lo)==items.size)=true:=by(rw[hw.1,hw.2];simp)
 show rA _ _ (if(((qB items.size 0 lo:Nat):Int)==0&&(1:Int)==1&&(qB items.size items.size hi-qB items.size 0 lo)==items.size)=true then _ else _) _ _ s;rw[KA kO];refine gA (show rA _ _ (Builtin.Tuple.tupleIsExact (.ref t)) _ _ _ from gA (eP ht.typeIs (EA ?_)));rw[KA (by decide)];refine gA (iP ?_);exact EA ⟨_,rfl,EA h⟩
end
end HT
namespace L2
open PySem PySem.Spec PyProof.Rows
section
variable{e st:DA}
def aAb.rev(r:aAb xs us):aAb xs.reverse us.reverse:=by
 induction r with
 |nil=>exact .nil
 |cons r1 r2 ih =>
  rw[dY,dY];exact ih.append (.cons r1 .nil)
noncomputable def uXa(K:iA)(te e9:TE):TE:=λY H Q=>te Y H λx H1=>e9 Y H1 λy H2=>y=.int (-1)/\∃a xs,x=.ref a/\((QC K H2 a xs/\∀p,H2 p=none->Q (.ref p) (CA H2 p (.t xs.reverse)))\/(zB K H2 a xs/\∀p,H2 p=none->Q (.ref p) (CA H2 p (.l xs.reverse))))
def hQa(xs:Array dA):slicePick xs none none (some (-1))=xs.toList.reverse.toArray:=by
 rw[<- HT.Sj];unfold slicePick;congr 1
 have e:sliceRange (sliceBounds none none (some (-1)) xs.size).1 (sliceBounds none none (some (-1)) xs.size).2.1 (sliceBounds none none (some (-1)) xs.size).2.2=(XB xs.size).map λ(k:Nat)=>((xs.size:Int)-1+(k:Int)*-1).toNat:=by
  show sliceRange ((xs.size:Int)-1) (-1) (-1)=_;unfold sliceRange
  have hn:(if((xs.size:Int)-1) > -1 then(((xs.size:Int)-1) - -1 - -1-1) / (- -1) else 0).toNat=xs.size:=by
   by_cases h:xs.size=0
   ·rw[h];rfl
   ·rw[KA (by lia),show((xs.size:Int)-1) - -1 - -1-1=xs.size by lia,show(- -1:Int)=1 by decide,Wa];rfl
  show(XB (if((xs.size:Int)-1) > -1 then(((xs.size:Int)-1) - -1 - -1-1) / (- -1) else 0).toNat).map (λ(k:Nat)=>((xs.size:Int)-1+-1*(k:Int)).toNat)=_;rw[hn];refine SO λk _=>?_
  rw[Int.mul_comm]
 rw[e,Kq];rfl
def qPa(he:PE X e te)(hu:PE X st e9):PE X (.Subscript e (.Slice none none (some st) p2) pos) (uXa X.K te e9):=by
 intro aA s Y H Q I h;refine Eb (UA (he aA s Y H _ I h) λv s1 hz=>?_);obtain⟨x,H1,I1,r1,q1⟩:=hz;refine wpAny_Slice ?_;rw[Pa];refine EA (EA ?_);rw[evalPart_some];refine UA (hu aA s1 Y H1 _ I1 q1) λvs s3 hz=>?_
 obtain⟨y,H3,I3,ry,q2⟩:=hz;obtain⟨rfl,a,xs,rfl,q⟩:=q2;obtain⟨tk,rfl⟩:=ry;cases r1;have I4:fA X aA Y H3 { s3 with heap:=s3.heap.push { cls:=.type "slice",data:=.fields #[.none,.none,.int (-1) tk] } }:=I3.kept (t':=s3.toks) λb ob q=>oC _ q
 show rA (model X.prog X.w) X.A (subscriptTail e (.Slice none none (some st) p2) (.ref a) (.ref s3.heap.objs.size)) (EP X aA Y Q) X.xe { s3 with heap:=s3.heap.push { cls:=.type "slice",data:=.fields #[.none,.none,.int (-1) tk] } };rcases q with ⟨hx,q⟩ | ⟨hx,q⟩
 ·obtain⟨cA,r,ht,hz⟩:=I4.tuple hx;have mB:cA.toArray.size=xs.length:=by rw[gD];exact r.length.symm
  refine NY (ops:=[.ref a,.ref s3.heap.objs.size]) ht.typeIs UK.lookup ?_ (by with_unfolding_all rfl);refine HT.Q_ ht (V9 ..) (.int (-1) tk) ?_ (by rw[mB];exact hz);refine⟨.ref _,_,I4.laid (t':=s3.toks) (o:=.t xs.reverse) (λb ob q=>oC _ q) (jB _) ?_,rfl,q _ (I4.RA.fresh (jB _))⟩;exact⟨by rw[WX];exact hz,_,r.rev,MY _ _⟩
 ·obtain⟨cA,r,ht,hz⟩:=I4.list hx;have mB:=r.length;refine NY (ops:=[.ref a,.ref s3.heap.objs.size]) ht.isList.typeIs ja.lookup ?_ (by with_unfolding_all rfl);refine Ep ht.isList (V9 ..) .none .none (.int (-1) tk) (by simp) ?_ (by rw[gD]<;>lia);rw[hQa];refine⟨.ref _,_,I4.laid (t':=s3.toks) (o:=.l xs.reverse) (λb ob q=>oC _ q) (jB _) ?_,rfl,q _ (I4.RA.fresh (jB _))⟩;exact⟨by rw[WX];exact hz,_,0,r.rev,XD _ rfl⟩
def bTa(K:iA):V->Option Int->Option Int->Hp->VK->Prop:=λx lo hi H Q=>∃a xs,x=.ref a/\QC K H a xs /\
 (∀p,H p=none->Q (.ref p) (CA H p (.t (YJ xs lo hi))))/\(HT.qB xs.length 0 lo=0/\HT.qB xs.length xs.length hi=xs.length->Q (.ref a) H)
def pVa:VJ X (bTa X.K):=by
 intro aA s Y H x v vl vu lo hi sl Q I rx hs pl pu h;obtain⟨a,xs,rfl,hx,q,q2⟩:=h;by_cases hw:HT.qB xs.length 0 lo=0/\HT.qB xs.length xs.length hi=xs.length
 ·cases rx;obtain⟨cA,r,ht,hz⟩:=I.tuple hx;have mB:cA.toArray.size=xs.length:=by rw[gD];exact r.length.symm
  refine⟨"tuple",_,UK.lookup,ht.typeIs, ?_⟩;exact HT.O_ ht hs pl pu (by rw[mB];exact hw) ⟨.ref a,H,I,rfl,q2 hw⟩
 ·exact oVa aA s Y H (.ref a) v vl vu lo hi sl Q I rx hs pl pu ⟨a,xs,rfl,hx,hw,q⟩
end
end L2
namespace CI
open PySem PySem.Spec PyProof.Rows L2
abbrev Ic:List dA:=[.type "ValueError",.type "Exception",.type "BaseException",.type "object"]
def SY(K:iA)(C:kA)(i:Option dA):Prop:=∃(tl:List dA) (N:kA),(∀v,Sa K C v=some ((Value.ref C::tl).contains v)) /\
  ∀{h:TB},K.In h->∃(nm qn:bA) (bs:List dA) (hd:Bool) (sn:List bA) (sub:List dA) (ab:Bool) (col:Option Bool) (dd:Option kA) (k0 k1 k2 k3 k5:Option dA),
   h.get? C=some (excClassObj nm qn C N bs tl hd sn sub ab col dd k0 k1 k2 k3 k5 "ValueError.__new__")/\h.Ns N (h.nsMap N)/\h.nsMap N "__init__"=i/\OwnTail h Ic tl
end CI
namespace CI
open PySem PySem.Spec PySem.Calls PyProof.Rows L2 PySem.W PySem.Builtin PySem.Builtin.ObjectAttr PySem.Builtin.Getset_descriptor
structure As(K:iA)(C:kA):Prop where
 q:∃i,SY K C i
 ga:findIn K (.ref C) "__getattribute__"=some (some (.builtin "BaseException.__getattribute__"))
 no:findIn K (.ref C) "__getattr__"=some none
 cl:findIn K (.ref C) "__class__"=some (some (.builtin "object.__class__"))
 gt:specialIn K (.builtin "object.__class__") "__get__"=some (some (.builtin "getset_descriptor.__get__"))
 tk:takesIn K (.builtin "object.__class__")=some true
 mo:mroIn K C (.type "object")=some true
 mb:mroIn K C (.type "BaseException")=some true
 mv:mroIn K C (.type "ValueError")=some true
end CI
namespace CI
open PySem PySem.Spec PyProof.Rows L2
section
open PySem.W PySem.Builtin PySem.Builtin.ObjectAttr
variable{prog:KC}{w:WB}{A:RD}{E:dA->zA->Prop}{s:zA}{K:iA}{x C:kA}
noncomputable def l0a:List dA->Bool
 |.ref _::r=>l0a r
 |l=>l==Ic
end
end CI
namespace CI
open PySem
def ZM{p:Prop}(h:none=some a):p:=nomatch h
inductive D where
 |pA
 |bl (b:Bool)
 |int (i:Int)
 |str (x:bA)
 |t (ds:List D)
 |l (ds:List D)
 |ins (c:bA) (ns:List bA) (ds:List D)
 |ZA (ks:List L2.JB) (ds:List D)
 |FG (ks:List Int) (ds:List D)
 |MC (n:Nat) (ds:List D)
 deriving Inhabited
inductive RV where
 |sh (d:D) | ow (d:D) | od (d:D)
noncomputable def RV.d:RV->D
 |.sh d=>d
 |.ow d=>d
 |.od d=>d
noncomputable def RV.low:RV->RV
 |.od d=>.ow d
 |v=>v
inductive Sl where
 |un | mv | sh (d:D) | ow (d:D) (pin lk:Bool)
noncomputable def Sl.get:Sl->Option D
 |.un=>none
 |.mv=>none
 |.sh d=>some d
 |.ow d _ _=>some d
structure Exc where
 cls:bA
 num:Option Int
inductive Out(O:Type) where
 |ok (a:O) | ex (e:Exc)
abbrev Env:=List Sl
abbrev FA(O:Type):=Option (Out O×Env)
noncomputable def FA.bind(r:FA O)(f:O->Env->FA N):FA N :=
 match r with
 |none=>none
 |some (.ex e,U)=>some (.ex e,U)
 |some (.ok a,U)=>f a U
inductive Hd where
 |slot (i:Nat) | val (v:RV)
def Hd.get(h:Hd)(U:Env):Option D :=
 match h with
 |.slot i=>(U[i]?).bind Sl.get
 |.val v=>some v.d
noncomputable def getAll:List Hd->Env->Option (List D)
 |[],_=>some []
 |h::r,U=>(h.get U).bind λd=>(getAll r U).map (d :: ·)
inductive Ty where
 |int
 |bool
 |tuple
inductive BI where
 |len
 |abs
 |int
 |list
 |tuple
 |min
 |max
 |all
 |sorted
 |dict
inductive XF where
 |jC | of | enum (lo:Int) | sig | key | rdn
 deriving DecidableEq
set_option genSizeOf false
set_option genInjectivity false
inductive E where
 |OA
 |UD
 |v (i:Nat)
 |c (d:D)
 |t (es:List E)
 |l (es:List E)
 |qA (op:DN) (a b:E)
 |neg (a:E)
 |not (a:E)
 |uA (op:RG) (a b:E)
 |aG (op xC:RG) (a b c:E)
 |and (a b:E)
 |or (a b:E)
 |ite (c a b:E)
 |ix (a i:E)
 |sl (a lo hi:E)
 |rev (a:E)
 |call (f:String) (args:List E)
 |bif (f:BI) (args:List E)
 |JI (a:E) (ts:List Ty)
 |app (i:Nat) (a:E)
 |TR (k v:E)
 |aK
 |uT (i:Nat)
 |OT (i j:Nat)
 |uD (i:Nat)
 |sQ (a:E)
 |zO (a:E)
 |fld (a:E) (f:bA)
 |make (c:bA) (ns:List bA) (args:List E)
 |uJ (i:Nat) (m:bA) (tb:List (bA×String)) (args:List E)
 |comp (QA:E) (tg:List Nat) (k:XF) (cA:List E) (cond:List E) (imp:List Nat) (nl:Nat)
inductive S where
 |OA
 |pass
 |brk
 |cnt
 |WA (i:Nat) (e:E)
 |PU (is:List Nat) (e:E)
 |set (i:Nat) (k e:E)
 |expr (e:E)
 |ret (e:E)
 |c8
 |hTa (h e:E)
 |BA (c:E) (a b:List S)
 |for (tg:List Nat) (one:Bool) (k:XF) (cA:List E) (body:List S)
 |UT (c:E) (body:List S)
 |i8 (c:bA) (args:List E)
 |rl (c:bA) (args:List E)
 |yl (i j:Nat) (e c:E)
 |FO (i:Nat) (e:E) (rest:List S)
set_option genInjectivity true
noncomputable def sC:Nat->D->Bool
 |_,.pA=>true
 |_,.bl _=>true
 |_,.int _=>true
 |_,.str _=>true
 |n+1,.t ds=>ds.all (sC n)
 |n+1,.l ds=>ds.all (sC n)
 |_,_=>false
mutual
noncomputable def JF:D->D->Bool
 |.pA,.pA=>true
 |.bl a,.bl b=>a==b
 |.bl a,.int b=>(if a then 1 else 0)==b
 |.int a,.bl b=>a==(if b then 1 else 0)
 |.int a,.int b=>a==b
 |.str a,.str b=>a==b
 |.t a,.t b=>WN a b
 |.l a,.l b=>WN a b
 |_,_=>false
noncomputable def WN:List D->List D->Bool
 |[],[]=>true
 |a::as,b::bs=>JF a b&&WN as bs
 |_,_=>false
end
noncomputable def cl(p:Prop):Decidable p:=Classical.propDecidable p
noncomputable section
def DJ:D->Option Bool
 |.pA=>some false
 |.bl b=>some b
 |.int i=>some (i != 0)
 |.str x=>@ite _ (x.length<=1000000) (cl _) (some ((x.length:Int) != 0)) none
 |.t ds=>some (!ds.isEmpty)
 |.l ds=>some (!ds.isEmpty)
 |_=>none
def iB(n:Nat):Bool:=@decide (n<=1000000) (cl _)
def bC:DN->D->D->Option RV
 |.Add,.int i,.int j=>some (.sh (.int (i+j)))
 |.Sub,.int i,.int j=>some (.sh (.int (i-j)))
 |.Mult,.int i,.int j=>@ite _ ((-(2 ^ 64)<i/\i<2 ^ 64)\/(-(2 ^ 64)<j/\j<2 ^ 64)) (cl _) (some (.sh (.int (i*j)))) none
 |.FloorDiv,.int i,.int j=>@ite _ (0<j/\j<100000000000000000000000000000000000000000000000000000000000000000000000000000000) (cl _) (some (.sh (.int (i / j)))) none
 |.Mod,.int i,.int j=>@ite _ (0<j) (cl _) (some (.sh (.int (i % j)))) none
 |.LShift,.int i,.int j=>@ite _ (0<=j/\j<=1000/\i.natAbs<2 ^ 64) (cl _) (some (.sh (.int (i*2 ^ j.toNat)))) none
 |.RShift,.int i,.int j=>@ite _ (0<=j) (cl _) (some (.sh (.int (i / 2 ^ j.toNat)))) none
 |.BitAnd,.int i,.int j=>some (.sh (.int (gU i j)))
 |.Add,.l xs,.l ys=>if iB (xs.length+ys.length) then some (.ow (.l (xs++ys))) else none
 |.Add,.MC n xs,.l ys=>if iB (n+ys.length) then some (.sh (.MC (n+ys.length) (xs++ys))) else none
 |.Add,.t [],.t ys=>some (.sh (.t ys))
 |.Add,.t (x::xs),.t ys=>if iB (xs.length+1+ys.length) then some (.sh (.t (x::xs++ys))) else none
 |.Mult,.l xs,.int k=>@ite _ (-(2 ^ 31)<=k/\k<=1000/\iB (xs.length*k.toNat)) (cl _) (some (.ow (.l (HB k.toNat xs).flatten))) none
 |_,_,_=>none
noncomputable def OD:D->Bool
 |.pA=>true | .bl _=>true | .int _=>true | .str _=>true
 |_=>false
def inD(x:D)(ds:List D):Bool:=ds.any λy=>JF y x
def rE:List D->Option (List Int)
 |[]=>some []
 |.int i::r=>(rE r).map (i :: ·)
 |_=>none
def sk2:D->D->Option L2.LA
 |.int t,.t ds=>(rE ds).map λns=>(t,ns)
 |_,_=>none
def yJ:D->Option L2.LA
 |.t [a,b]=>sk2 a b
 |_=>none
def VD(d:D):Option L2.JB:=(yJ d).map .inl
noncomputable def eA(k:L2.LA):D:=.t [.int k.1,.t (k.2.map D.int)]
def zM(k:L2.JB):D:=eA (L2.gk k)
noncomputable def EL(ks:List L2.JB)(ds:List D)(k:L2.JB):Option D:=((ks.zip ds).find? λp=>decide (p.1=k)).map (·.2)
noncomputable def EI(ks:List L2.JB)(k:L2.JB):Bool:=ks.any λx=>decide (x=k)
def IG(ks:List L2.JB)(k:L2.JB):List L2.JB:=if EI ks k then ks else ks++[k]
def tF(ks:List L2.JB)(ds:List O)(k:L2.JB)(d:O):List O:=if EI ks k then(ks.zip ds).map (λp=>if p.1=k then d else p.2) else ds++[d]
def kQ(x:D)(ks:List L2.JB):Option Bool:=(VD x).map λk=>EI ks k
noncomputable def FL(ks:List Int)(ds:List D)(k:Int):Option D:=((ks.zip ds).find? λp=>decide (p.1=k)).map (·.2)
def wg(x:D)(ks:List Int)(ds:List D):Option Bool:=match x with
 |.int i=>some (FL ks ds i).isSome
 |_=>none
noncomputable def i7:D->Bool
 |.pA=>true
 |_=>false
noncomputable def Z5(b:Bool):D->Option Bool
 |.bl a=>some (a==b)
 |_=>none
def isD(x:D):D->Option Bool
 |.pA=>some (i7 x)
 |.bl b=>Z5 b x
 |_=>none
def xDa(x:D):D->Option Bool
 |.pA=>some (!i7 x)
 |_=>none
noncomputable def YR:D->D->Option Bool
 |.ZA ks _,.ZA [] _=>some ks.isEmpty
 |_,_=>none
def PB:RG->D->D->Option Bool
 |.Eq,x,y=>if sC 20 x&&sC 20 y then some (JF x y) else YR x y
 |.NotEq,x,y=>if sC 20 x&&sC 20 y then some (!JF x y) else none
 |.Lt,.int i,.int j=>some (decide (i<j))
 |.LtE,.int i,.int j=>some (decide (i<=j))
 |.Gt,.int i,.int j=>some (decide (j<i))
 |.GtE,.int i,.int j=>some (decide (j<=i))
 |.Is,x,y=>isD x y
 |.IsNot,x,y=>xDa x y
 |.In,x,.t ds=>if OD x&&ds.all OD then some (inD x ds) else none
 |.In,x,.l ds=>if OD x&&ds.all OD then some (inD x ds) else none
 |.In,x,.ZA ks _=>kQ x ks
 |.In,x,.FG ks ds=>wg x ks ds
 |.NotIn,x,.t ds=>if OD x&&ds.all OD then some (!inD x ds) else none
 |.NotIn,x,.l ds=>if OD x&&ds.all OD then some (!inD x ds) else none
 |.NotIn,x,.ZA ks _=>(kQ x ks).map (!·)
 |_,_,_=>none
def qc(ds:List D)(i:Int):Option D:=L2.qC ds i
def XS:D->D->Option D
 |.t ds,.int i=>qc ds i
 |.l ds,.int i=>qc ds i
 |.ZA ks ds,x=>(VD x).bind (EL ks ds)
 |.FG ks ds,.int i=>FL ks ds i
 |.str x,.int i=>@ite _ (x.length<=1000000) (cl _) ((L2.qC x.cps.toList i).map λc=>.str ⟨#[c]⟩) none
 |_,_=>none
def aAp(ds:List D)(lo hi:Option Int):List D:=(ds.drop (HT.qB ds.length 0 lo)).take (HT.qB ds.length ds.length hi-HT.qB ds.length 0 lo)
def cN:Option D->Option (Option Int)
 |none=>some none
 |some (.int i)=>some (some i)
 |_=>none
def lX:D->Option Int->Option Int->Option RV
 |.l ds,lo,hi=>some (.ow (.l (aAp ds lo hi)))
 |.t ds,lo,hi=>some (.sh (.t (aAp ds lo hi)))
 |.MC n ds,lo,hi=>some (.sh (.MC (aAp (HB n .pA) lo hi).length ds))
 |_,_,_=>none
noncomputable def Zk:D->Option RV
 |.t ds=>some (.sh (.t ds.reverse))
 |.l ds=>some (.ow (.l ds.reverse))
 |_=>none
noncomputable def GF:List D->Option (List Bool)
 |[]=>some []
 |.bl b::r=>(GF r).map (b :: ·)
 |_=>none
mutual
noncomputable def WD:D->PyData
 |.pA=>.none
 |.bl b=>.bool b
 |.int i=>.int i
 |.str x=>.str x
 |.t ds=>.tuple (yH ds)
 |.l ds=>.list (yH ds)
 |.ins _ _ _=>.none
 |.ZA _ _=>.none
 |.FG _ _=>.none
 |.MC _ _=>.none
noncomputable def yH:List D->List PyData
 |[]=>[]
 |d::ds=>WD d::yH ds
end
def bT:D->Option (L2.JB×D)
 |.t [k,d]=>(VD k).map λq=>(q,d)
 |_=>none
def SM:List D->Option (List (L2.JB×D))
 |[]=>some []
 |d::r=>(bT d).bind λp=>(SM r).map (p :: ·)
def aAv(ps:List (L2.JB×D))(a:List L2.JB×List D):List L2.JB×List D:=ps.foldl (λa p=>(IG a.1 p.1,tF a.1 a.2 p.1 p.2)) a
def jV(ds:List D):Option RV:=(SM ds).map λps=>.sh (.ZA (aAv ps ([],[])).1 (aAv ps ([],[])).2)
def qO:D->Bool
 |.t [k,.int _]=>(yJ k).isSome
 |_=>false
def Bv:BI->D->Option RV
 |.len,.l ds=>some (.sh (.int ds.length))
 |.len,.t ds=>some (.sh (.int ds.length))
 |.len,.ZA ks _=>some (.sh (.int ks.length))
 |.len,.str x=>@ite _ (x.length<=1000000) (cl _) (some (.sh (.int x.length))) none
 |.abs,.int i=>some (.sh (.int (if i<0 then -i else i)))
 |.int,.int i=>some (.sh (.int i))
 |.int,.bl b=>some (.sh (.int (if b then 1 else 0)))
 |.list,.l ds=>some (.ow (.l ds))
 |.list,.t ds=>some (.ow (.l ds))
 |.list,.ZA ks _=>some (.ow (.l (ks.map zM)))
 |.dict,.l ds=>jV ds
 |.tuple,.l ds=>some (.sh (.t ds))
 |.tuple,.t ds=>some (.sh (.t ds))
 |.max,.l ds=>match rE ds with
  |some (i::r)=>some (.sh (.int (r.foldl (λm y=>if y > m then y else m) i)))
  |_=>none
 |.all,.l ds=>(GF ds).map λbs=>.sh (.bl (bs.all id))
 |.len,.MC n _=>some (.sh (.int n))
 |.sorted,.l ds=>if ds.all (λd=>(yJ d).isSome)||ds.all qO then some (.sh (.MC ds.length ds)) else none
 |_,_=>none
def mm(f:Int->Int->Int):D->D->Option RV
 |.int i,.int j=>some (.sh (.int (f i j)))
 |_,_=>none
def aD:BI->List D->Option RV
 |.min,[x,y]=>mm (λi j=>if j<i then j else i) x y
 |.max,[x,y]=>mm (λi j=>if j > i then j else i) x y
 |f,[d]=>Bv f d
 |_,_=>none
noncomputable def i6:Ty->D->Option Bool
 |.int,d=>match d with
  |.int _=>some true | .bl _=>some true | .pA=>some false | .str _=>some false | .t _=>some false | .l _=>some false
  |_=>none
 |.bool,d=>match d with
  |.bl _=>some true | .int _=>some false | .pA=>some false | .str _=>some false | .t _=>some false | .l _=>some false
  |_=>none
 |.tuple,d=>match d with
  |.t _=>some true | .bl _=>some false | .int _=>some false | .pA=>some false | .l _=>some false | .str _=>some false
  |_=>none
def RS:List Ty->D->Option Bool
 |[],_=>some false
 |t::r,d=>(i6 t d).bind λb=>(RS r d).map λc=>b||c
def nT:D->Option RV
 |.l ds=>match rE ds with
  |some is=>@ite _ (is.length<=1000) (cl _) (some (.sh (.int (jq (λi=>is.getD i 0) is.length).length))) none
  |none=>none
 |_=>none
noncomputable def N1:D->bA->Option D
 |.ins _ ns ds,f=>(ns.zip ds).lookup f
 |_,_=>none
noncomputable def gG(c:bA)(ns:List bA)(m:bA)(tb:List (bA×String)):Option String:=if ns.contains m then none else tb.lookup c
def aAg(t:Bool)(r:FA RV):FA RV :=
 match t with
 |false=>r
 |true=>r.bind λv U=>(DJ v.d).map λb=>(.ok (.sh (.bl b)),U)
def hd(e:E)(r:FA RV)(U:Env):FA Hd :=
 match e with
 |.v i=>if((U[i]?).bind Sl.get).isSome then some (.ok (.slot i),U) else none
 |_=>r.bind λv U'=>some (.ok (.val v.low),U')
noncomputable def a6:E->Bool
 |.UD=>true
 |_=>false
def aAK(e:E)(r:FA RV)(U:Env):FA (Option D) :=
 if a6 e then some (.ok none,U) else r.bind λv U'=>some (.ok (some v.d),U')
noncomputable def uQ(op:DN)(x:Hd)(d:D):Bool :=
 match op,d with
 |.Mult,.l _=>match x with
  |.val (.ow _)=>true
  |_=>false
 |_,_=>true
def RM(U:Env)(i:Nat):Bool :=
 match U[i]? with
 |some (.ow (.l _) _ _)=>true
 |_=>false
def MS(U:Env)(i:Nat):Bool :=
 match U[i]? with
 |some (.ow (.ZA _ _) _ _)=>true
 |_=>false
def jDa(U:Env)(i:Nat):Bool :=
 match U[i]? with
 |_=>false
def aAJ(i:Nat)(U:Env):FA RV :=
 match U[i]? with
 |some (.sh d)=>some (.ok (.sh d),U)
 |some (.ow d false false)=>some (.ok (.sh d),U.set i (.sh d))
 |_=>none
noncomputable def done(o:Option RV)(U:Env):FA RV:=o.map λv=>(.ok v,U)
def store(i:Nat)(v:RV)(U:Env):Option Env :=
 match U[i]? with
 |none=>none
 |some (.ow _ true _)=>none
 |some (.ow _ _ true)=>none
 |some _=>match v with
  |.sh d=>some (U.set i (.sh d))
  |.ow d=>some (U.set i (.ow d false false))
  |.od _=>none
def aAn:List Nat->List D->Env->Option Env
 |[],[],U=>some U
 |i::is,d::ds,U=>(store i (.sh d) U).bind (aAn is ds)
 |_,_,_=>none
def bB(one:Bool)(tg:List Nat)(d:D)(U:Env):Option Env :=
 match one,tg,d with
 |true,[i],d=>store i (.sh d) U
 |false,is,.t ds=>aAn is ds U
 |_,_,_=>none
abbrev Calls:=String->List Sl->FA RV
def NO(i j:Nat)(U:Env)(o u:Option Sl):FA RV:=match o,u.bind Sl.get with
 |some (.ow (.ZA ks ds) p false),some (.ZA fG IE)=>@ite _ (i≠j/\fG≠[]/\(ks++fG).Nodup/\iB (ks.length+fG.length)=true/\(fG.map L2.hS).Nodup) (cl _) (some (.ok (.sh .pA),U.set i (.ow (.ZA (ks++fG) (ds++IE)) p false))) none
 |_,_=>none
def aAh(aA:List Bool)(hs:List Hd)(U:Env):Option (List Sl×Env) :=
 match aA,hs with
 |[],[]=>some ([],U)
 |p::ps,.val (.sh d)::r=>(aAh ps r U).map λ(as,U')=>(.sh d::as,U')
 |p::ps,.val (.ow d)::r=>(aAh ps r U).map λ(as,U')=>((if p then .ow d true false else .sh d)::as,U')
 |p::ps,.slot i::r =>
  match U[i]? with
  |some (.sh d)=>(aAh ps r U).map λ(as,U')=>(.sh d::as,U')
  |some (.ow d pin lk) =>
   match p with
   |true=>(aAh ps r (U.set i .un)).map λ(as,U')=>(.ow d true lk::as,U')
   |false=>if pin||lk then none else(aAh ps r (U.set i (.sh d))).map λ(as,U')=>(.sh d::as,U')
  |_=>none
 |_,_=>none
def aAf(aA:List Bool)(hs:List Hd)(as:List Sl)(U0 U:Env):Option Env :=
 match aA,hs,as with
 |[],[],[]=>some U
 |true::ps,.slot i::r,a::as =>
  match U0[i]?,a with
  |some (.ow _ pin lk),.ow d _ _=>aAf ps r as U0 (U.set i (.ow d pin lk))
  |some (.ow _ _ _),_=>none
  |_,_=>aAf ps r as U0 U
 |_::ps,_::r,_::as=>aAf ps r as U0 U
 |_,_,_=>none
def IF(aA:List Bool)(f:List Sl->FA RV)(hs:List Hd)(U:Env):FA RV :=
 match aAh aA hs U with
 |none=>none
 |some (as,U1) =>
  match f as with
  |none=>none
  |some (o,uB)=>(aAf aA hs uB U U1).map λU'=>(o,U')
noncomputable def fH(lo:Int)(ds:List D):List D:=(XB ds.length).map λ(j:Nat)=>.t [.int (lo+(j:Int)),ds.getD j .pA]
def R6:RV->Option (List D×Option Nat)
 |.sh (.ZA ks _)=>some (ks.map zM,none)
 |_=>none
def Fm(n:Nat)(es ds:List O):Prop:=es.length=n/\∀e∈es,e∈ds
def aAa(k:XF)(hs:List Hd)(U:Env):Option (List D×Option Nat) :=
 match k,hs with
 |.jC,[a]=>match a.get U with
  |some (.int n)=>@ite _ (-1000000<=n/\n<=1000000) (cl _) (some ((XB n.toNat).map λ(j:Nat)=>.int (j:Int),none)) none
  |_=>none
 |.jC,[a,b]=>match a.get U,b.get U with
  |some (.int m),some (.int n)=>@ite _ ((-1000000<=m/\m<=1000000)/\(-1000000<=n/\n<=1000000)) (cl _) (some ((XB (n-m).toNat).map λ(j:Nat)=>.int (m+(j:Int)),none)) none
  |_,_=>none
 |.enum lo,[.slot i]=>match U[i]? with
  |some (.ow (.l ds) _ _)=>some (fH lo ds,some i)
  |some (.sh (.l ds))=>some (fH lo ds,none)
  |_=>none
 |.enum lo,[.val v]=>match v.d with
  |.l ds=>some (fH lo ds,none)
  |_=>none
 |.of,[.slot i]=>match U[i]? with
  |some (.ow (.l ds) _ _)=>some (ds,some i)
  |some (.sh (.l ds))=>some (ds,none)
  |some (.sh (.t ds))=>some (ds,none)
  |_=>none
 |.of,[.val v]=>match v.d with
  |.l ds=>some (ds,none)
  |.t ds=>some (ds,none)
  |_=>none
 |.key,[.val v]=>R6 v
 |_,_=>none
def aAe(o:Option Nat)(U:Env):Env :=
 match o with
 |none=>U
 |some i=>U.set i .un
def aAm(o:Option Nat)(U0 U:Env):Option Env :=
 match o with
 |none=>some U
 |some i=>match U[i]?,U0[i]? with
  |some .un,some sl=>some (U.set i sl)
  |_,_=>none
noncomputable def jE(tests:Env->FA RV)(QA:Env->FA RV)(bind:D->Env->Option Env):List D->List D->Env->FA (List D)
 |[],vA,U=>some (.ok vA,U)
 |d::ds,vA,U=>match bind d U with
  |none=>none
  |some U1=>(tests U1).bind λc U2=>match c with
   |.sh (.bl true)=>(QA U2).bind λv U3=>jE tests QA bind ds (vA++[v.d]) U3
   |.sh (.bl false)=>jE tests QA bind ds vA U2
   |_=>none
noncomputable def back:List Sl->Env->List Sl
 |.ow _ _ _::as,b::bs=>b::back as bs
 |a::as,_::bs=>a::back as bs
 |_,_=>[]
noncomputable def KL:Sl->Bool
 |.ow _ p _=>p
 |.sh _=>true
 |_=>false
def dJ(tests:Env->FA RV)(QA:Env->FA RV)(bind:D->Env->Option Env)(ds:List D)(nl:Nat)(as:List Sl):FA RV :=
 if as.all KL=true then(jE tests QA bind ds [] (as++HB nl .un)).bind λvA Ui =>
  if iB vA.length then some (.ok (.ow (.l vA)),back as Ui) else none
 else none
def aAs(o:Option Nat)(U1:Env)(v:RV)(U2:Env):FA RV:=(aAm o U1 U2).map λU'=>(.ok v,U')
structure Fn where
 aA:List Bool
 nl:Nat
 body:List S
 rs:Bool
abbrev oB:=String->List Bool
noncomputable def lV(k:Option L2.JB)(u:RV)(U:Env):FA RV :=
 match k with
 |some k=>some (.ok (.ow (.ZA [k] [u.d])),U)
 |none=>none
def vT(i:Nat)(U:Env):Option Sl->FA RV
 |some (.ow (.l ds) p false)=>(ds[ds.length-1]?).map λd=>(.ok (.sh d),U.set i (.ow (.l ds.dropLast) p false))
 |_=>none
mutual
noncomputable def ev(P:oB)(C:Calls)(t:Bool):E->Env->FA RV
 |.OA,_=>none
 |.UD,_=>none
 |.v i,U=>match t with
  |true=>aAg true (((U[i]?).bind Sl.get).map λd=>(.ok (.sh d),U))
  |false=>aAJ i U
 |.c d,U=>aAg t (some (.ok (.sh d),U))
 |.t es,U=>aAg t ((iH P C es U).bind λds U'=>if iB ds.length then some (.ok (.sh (.t ds)),U') else none)
 |.l es,U=>aAg t ((iH P C es U).bind λds U'=>if iB ds.length then some (.ok (.ow (.l ds)),U') else none)
 |.qA op a b,U=>aAg t ((hd a (ev P C false a U) U).bind λx U1=>(hd b (ev P C false b U1) U1).bind λy U2 =>
   done ((x.get U2).bind λd=>(y.get U2).bind λe=>if uQ op x d then bC op d e else none) U2)
 |.neg a,U=>aAg t ((ev P C false a U).bind λv U1=>match v.d with
  |.int i=>some (.ok (.sh (.int (-i))),U1)
  |_=>none)
 |.not a,U=>match t with
  |true=>(ev P C true a U).bind λv U1=>match v with
   |.sh (.bl b)=>some (.ok (.sh (.bl (!b))),U1)
   |_=>none
  |false=>(hd a (ev P C false a U) U).bind λx U1=>done ((x.get U1).bind λd=>(DJ d).map λb=>.sh (.bl (!b))) U1
 |.uA op a b,U=>(hd a (ev P C false a U) U).bind λx U1=>(hd b (ev P C false b U1) U1).bind λy U2 =>
   done ((x.get U2).bind λd=>(y.get U2).bind λe=>(PB op d e).map λb=>.sh (.bl b)) U2
 |.aG op xC a b c,U=>(hd a (ev P C false a U) U).bind λx U1=>(hd b (ev P C false b U1) U1).bind λy U2 =>
   match (x.get U2).bind λd=>(y.get U2).bind λe=>PB op d e with
   |none=>none
   |some false=>some (.ok (.sh (.bl false)),U2)
   |some true=>(hd c (ev P C false c U2) U2).bind λz U3 =>
    done ((y.get U3).bind λd=>(z.get U3).bind λe=>(PB xC d e).map λb=>.sh (.bl b)) U3
 |.and a b,U=>(ev P C t a U).bind λv U1=>match v with
  |.sh (.bl true)=>ev P C t b U1
  |.sh (.bl false)=>some (.ok (.sh (.bl false)),U1)
  |_=>none
 |.or a b,U=>(ev P C t a U).bind λv U1=>match v with
  |.sh (.bl true)=>some (.ok (.sh (.bl true)),U1)
  |.sh (.bl false)=>ev P C t b U1
  |_=>none
 |.ite c a b,U=>(ev P C true c U).bind λv U1=>match v with
  |.sh (.bl true)=>ev P C t a U1
  |.sh (.bl false)=>ev P C t b U1
  |_=>none
 |.ix a i,U=>aAg t ((hd a (ev P C false a U) U).bind λx U1=>(ev P C false i U1).bind λk U2 =>
   done ((x.get U2).bind λd=>(XS d k.d).map .sh) U2)
 |.sl a lo hi,U=>aAg t ((hd a (ev P C false a U) U).bind λx U1 =>
   (aAK lo (ev P C false lo U1) U1).bind λl U2=>(aAK hi (ev P C false hi U2) U2).bind λh U3 =>
   done ((x.get U3).bind λd=>(cN l).bind λl=>(cN h).bind λh=>lX d l h) U3)
 |.rev a,U=>aAg t ((hd a (ev P C false a U) U).bind λx U1=>done ((x.get U1).bind Zk) U1)
 |.call f es,U=>aAg t ((qD P C es U).bind λhs U1=>IF (P f) (C f) hs U1)
 |.bif f es,U=>aAg t ((qD P C es U).bind λhs U1=>done ((getAll hs U1).bind (aD f)) U1)
 |.JI a ts,U=>aAg t ((hd a (ev P C false a U) U).bind λx U1 =>
   done ((x.get U1).bind λd=>(RS ts d).map λb=>.sh (.bl b)) U1)
 |.app i a,U=>aAg t (if RM U i then(ev P C false a U).bind λv U1=>match U1[i]? with
  |some (.ow (.l ds) p false)=>if iB (ds.length+1) then some (.ok (.sh .pA),U1.set i (.ow (.l (ds++[v.d])) p false)) else none
  |_=>none
  else none)
 |.uT i,U=>aAg t (vT i U U[i]?)
 |.OT i j,U=>aAg t (NO i j U U[i]? U[j]?)
 |.aK,U=>aAg t (some (.ok (.ow (.ZA [] [])),U))
 |.TR a b,U=>aAg t ((ev P C false a U).bind λv U1=>(ev P C false b U1).bind λu U2=>lV (VD v.d) u U2)
 |.uD i,U=>aAg t (aAJ i U)
 |.sQ _,_=>none
 |.zO a,U=>aAg t ((hd a (ev P C false a U) U).bind λx U1=>done ((x.get U1).bind nT) U1)
 |.fld a f,U=>aAg t ((hd a (ev P C false a U) U).bind λx U1=>done ((x.get U1).bind λd=>(N1 d f).map .sh) U1)
 |.make c ns es,U=>aAg t ((iH P C es U).bind λds U1=>if ds.length=ns.length then some (.ok (.sh (.ins c ns ds)),U1) else none)
 |.uJ i m tb es,U=>aAg t (match U[i]? with
  |some (.sh (.ins c ns ds))=>(match gG c ns m tb with
   |some f=>(qD P C es U).bind λhs U1=>IF (P f) (C f) (.val (.sh (.ins c ns ds))::hs) U1
   |none=>none)
  |_=>none)
 |.comp QA tg k cA cond imp nl,U=>aAg t ((qD P C cA U).bind λhs U1 =>
   match aAa k hs U1 with
   |none=>none
   |some (ds,o)=>(IF (imp.map λ_=>true) (dJ (gC P C cond) (ev P C false QA) (bB (tg.length==1) tg) ds nl) (imp.map Hd.slot) (aAe o U1)).bind (aAs o U1))
noncomputable def iH(P:oB)(C:Calls):List E->Env->FA (List D)
 |[],U=>some (.ok [],U)
 |e::es,U=>(ev P C false e U).bind λv U1=>(iH P C es U1).bind λds U2=>some (.ok (v.d::ds),U2)
noncomputable def qD(P:oB)(C:Calls):List E->Env->FA (List Hd)
 |[],U=>some (.ok [],U)
 |e::es,U=>(hd e (ev P C false e U) U).bind λv U1=>(qD P C es U1).bind λds U2=>some (.ok (v::ds),U2)
noncomputable def gC(P:oB)(C:Calls):List E->Env->FA RV
 |[],U=>some (.ok (.sh (.bl true)),U)
 |e::es,U=>(ev P C true e U).bind λv U1=>match v with
  |.sh (.bl true)=>gC P C es U1
  |.sh (.bl false)=>some (.ok (.sh (.bl false)),U1)
  |_=>none
end
mutual
noncomputable def rV(P:oB)(C:Calls):E->Env->Option (Exc×Env)
 |.call f es,U=>match qD P C es U with
  |some (.ok hs,U1)=>match IF (P f) (C f) hs U1 with
   |some (.ex x,U')=>some (x,U')
   |_=>none
  |_=>se P C es U
 |_,_=>none
noncomputable def se(P:oB)(C:Calls):List E->Env->Option (Exc×Env)
 |[],_=>none
 |e::es,U=>match hd e (ev P C false e U) U with
  |some (.ok _,U1)=>se P C es U1
  |_=>rV P C e U
end
inductive Fl where
 |nx | bk | ct | rt (v:RV) | ex (e:Exc)
abbrev Run:=Option (Fl×Env)
noncomputable def FA.GC(r:FA O)(f:O->Env->Run):Run :=
 match r with
 |none=>none
 |some (.ex e,U)=>some (.ex e,U)
 |some (.ok a,U)=>f a U
noncomputable def Run.next(r:Run)(f:Env->Run):Run :=
 match r with
 |some (.nx,U)=>f U
 |r=>r
def Run.restore(r:Run)(o:Option Nat)(U0:Env):Run :=
 match r with
 |none=>none
 |some (fl,U)=>(aAm o U0 U).map λU'=>(fl,U')
noncomputable def jJ(o:Option Env):Run:=o.map λU=>(.nx,U)
noncomputable def cC(bind:D->Env->Option Env)(body:Env->Run):List D->Env->Run
 |[],U=>some (.nx,U)
 |d::ds,U=>match bind d U with
  |none=>none
  |some U1=>match body U1 with
   |some (.nx,U2)=>cC bind body ds U2
   |some (.ct,U2)=>cC bind body ds U2
   |some (.bk,U2)=>some (.nx,U2)
   |r=>r
noncomputable def MI(test:Env->FA RV)(body:Env->Run):Nat->Env->Run
 | 0,_=>none
 |n+1,U=>(test U).GC λv U1=>match v with
  |.sh (.bl true)=>match body U1 with
   |some (.nx,U2)=>MI test body n U2
   |some (.ct,U2)=>MI test body n U2
   |some (.bk,U2)=>some (.nx,U2)
   |r=>r
  |.sh (.bl false)=>some (.nx,U1)
  |_=>none
def EO(i:Nat)(U:Env)(o:Option Sl)(k:Option L2.JB)(v:RV):Run :=
 match o,k with
 |some (.ow (.ZA ks ds) p false),some k=>if iB (ks.length+1) then some (.nx,U.set i (.ow (.ZA (IG ks k) (tF ks ds k v.d)) p false)) else none
 |_,_=>none
noncomputable def YM:Sl->Bool
 |.ow _ p _=>!p
 |_=>true
def B8(i:Nat)(U:Env)(e:Env->FA RV)(rest:Env->Run):Run:=@ite _ (U.all YM=true/\∃n ds U1,e U=some (.ok (.sh (.MC n ds)),U1)/\∀es,Fm n es ds->∃U2,store i (.sh (.l es)) U1=some U2/\∃U3,rest U2=some (.rt (.sh (.bl true)),U3)) (cl _) (some (.rt (.sh (.bl true)),U.map λ_=>.mv)) none
def qe(P:oB)(C:Calls)(QA:Env->FA RV)(tg:List Nat)(k:XF)(cA cond:List E)(imp:List Nat)(nl:Nat)(U:Env):FA RV :=
 (qD P C cA U).bind λhs U1 =>
   match aAa k hs U1 with
   |none=>none
   |some (ds,o)=>(IF (imp.map λ_=>true) (dJ (gC P C cond) QA (bB (tg.length==1) tg) ds nl) (imp.map Hd.slot) (aAe o U1)).bind (aAs o U1)
noncomputable def lKa(U:Env):Bool:=U.all λs=>match s with | .ow _ _ _=>false | _=>true
noncomputable def y_(n:Nat)(U:Env):Env :=
 match U[n]? with
 |some (.ow d false false)=>U.set n (.sh d)
 |_=>U
def uD:Nat->Env->Env
 | 0,U=>U
 |n+1,U=>y_ n (uD n U)
def rUa(i j:Nat)(U:Env)(e c:Env->FA RV):Run :=
 match e (uD U.length U) with
 |some (.ok (.od (.l ds)),U1)=>@ite _ (U1=uD U.length U/\lKa U1=true/\ds.length<=1000/\i<U1.length/\j<U1.length/\c (U1.set i (.sh (.l ds)))=some (.ok (.sh (.bl false)),U1.set i (.sh (.l ds)))) (cl _) (some (.nx,(U1.set i .mv).set j .mv)) none
 |_=>none
mutual
noncomputable def ex(P:oB)(C:Calls)(W:Nat):S->Env->Run
 |.OA,_=>none
 |.pass,U=>some (.nx,U)
 |.brk,U=>some (.bk,U)
 |.cnt,U=>some (.ct,U)
 |.WA i e,U=>(ev P C false e U).GC λv U1=>jJ (store i v U1)
 |.PU is e,U=>(ev P C false e U).GC λv U1=>jJ (bB false is v.d U1)
 |.set i k e,U=>(ev P C false e U).GC λv U1=>if RM U1 i then(ev P C false k U1).GC λj U2=>match U2[i]?,j.d with
  |some (.ow (.l ds) p false),.int n=>jJ ((L2.eG ds.length n).map λm=>U2.set i (.ow (.l (ds.set m v.d)) p false))
  |_,_=>none
  else if MS U1 i then(ev P C false k U1).GC λj U2=>EO i U2 U2[i]? (VD j.d) v
  else none
 |.expr e,U=>(ev P C false e U).GC λ_ U1=>some (.nx,U1)
 |.ret e,U=>match e with
  |.v i=>match U[i]? with
   |some (.ow d false _)=>some (.rt (.ow d),U.set i .mv)
   |some (.sh d)=>some (.rt (.sh d),U)
   |_=>none
  |e=>(ev P C false e U).GC λv U1=>some (.rt v,U1)
 |.c8,U=>some (.rt (.sh .pA),U)
 |.hTa _ _,_=>none
 |.BA c a b,U=>(ev P C true c U).GC λv U1=>match v with
  |.sh (.bl true)=>NA P C W a U1
  |.sh (.bl false)=>NA P C W b U1
  |_=>none
 |.for tg one k cA body,U=>(qD P C cA U).GC λhs U1 =>
  match aAa k hs U1 with
  |none=>none
  |some (ds,o)=>(cC (bB one tg) (NA P C W body) ds (aAe o U1)).restore o U1
 |.UT c body,U=>MI (ev P C true c) (NA P C W body) W U
 |.i8 _ _,_=>none
 |.rl _ _,_=>none
 |.FO i e rest,U=>B8 i U (ev P C false e) (NA P C W rest)
 |.yl i j e c,U=>rUa i j U (ev P C false e) (ev P C true c)
noncomputable def NA(P:oB)(C:Calls)(W:Nat):List S->Env->Run
 |[],U=>some (.nx,U)
 |s::r,U=>(ex P C W s U).next (NA P C W r)
noncomputable def Mz(P:oB)(C:Calls)(W:Nat):S->Env->Option (Exc×Env)
 |.WA _ e,U=>rV P C e U
 |.expr e,U=>rV P C e U
 |.ret e,U=>rV P C e U
 |.i8 c es,U=>match iH P C es U with
  |some (.ok _,U1)=>some (⟨c,none⟩,U1)
  |_=>none
 |.BA c a b,U=>match ev P C true c U with
  |some (.ok (.sh (.bl true)),U1)=>uV P C W a U1
  |some (.ok (.sh (.bl false)),U1)=>uV P C W b U1
  |_=>none
 |_,_=>none
noncomputable def uV(P:oB)(C:Calls)(W:Nat):List S->Env->Option (Exc×Env)
 |[],_=>none
 |s::r,U=>match ex P C W s U with
  |some (.nx,U1)=>uV P C W r U1
  |_=>Mz P C W s U
end
abbrev Tab:=String->Option Fn
noncomputable def Tab.aA(T:Tab):oB:=λf=>match T f with
 |some fn=>fn.aA
 |none=>[]
def run(T:Tab)(W:Nat):Nat->Calls
 | 0=>λ_ _=>none
 |n+1=>λf as=>match T f with
  |none=>none
  |some fn=>if as.length=fn.aA.length/\as.all KL=true then
    match NA T.aA (run T W n) W fn.body (as++HB fn.nl .un) with
    |some (.nx,U)=>some (.ok (.sh .pA),back as U)
    |some (.rt v,U)=>some (.ok v,back as U)
    |_=>if fn.rs then match uV T.aA (run T W n) W fn.body (as++HB fn.nl .un) with
     |some (x,U)=>some (.ex x,back as U)
     |none=>none
     else none
   else none
end
end CI
namespace CI
open PySem PySem.Spec PyProof.Rows L2
abbrev St:=L2.St
abbrev Sm(G G':Hp):Prop:=XA G G'
def Sm.of(s:XA G G'):Sm G G':=s
theorem Sm.refl(G:Hp):Sm G G:=XA.refl G
theorem Sm.trans(a:Sm G G1)(b:Sm G1 G2):Sm G G2:=XA.trans a b
theorem Sm.seq{K:iA}(e:Sm G G')(h:zB K G a xs):zB K G' a xs:=XA.seq e h
def Sm.app(s:Sm G G')(n:∀x,o≠.own x)(h:G b=some o):G' b=some o:=s b o h
structure mP(K:iA)(C:kA)(ns:List bA):Prop where
 cl:yG K C
 no:∀f∈ns,vI K C f
noncomputable def fL(ks:List Int)(vs:List V):List (Key×V):=(ks.zip vs).map λp=>(Sum.inl p.1,p.2)
def qM(K:iA)(G:Hp)(a:kA)(ks:List JB)(vs:List V)(xs:iE):Prop:=(xs.map (·.1)).Nodup/\xs.length<=sizeLine/\(a==sysModules)=false/\(∀x∈xs,aC K G x.1 x.2.1)/\xs.map (·.1)=ks/\aAb vs (xs.map (·.2.2))
mutual
def oA(K:iA)(G:Hp):D->V->Prop
 |.pA,v=>v=.pA
 |.bl b,v=>v=.bl b
 |.int i,v=>v=.int i
 |.str x,v=>v=.str x/\gP x=true
 |.t ds,v=>∃a vs,v=.ref a/\QC K G a vs/\jA K G ds vs
 |.l ds,v=>∃a vs,v=.ref a/\zB K G a vs/\jA K G ds vs
 |.ins c ns ds,v=>∃a C dx vs,v=.ref a/\ED K nC c=some (some (.ref C))/\G a=some (.ins C dx (ns.zip vs))/\jA K G ds vs/\mP K C ns/\ns.length=vs.length
 |.ZA ks ds,v=>∃a xs vs,v=.ref a/\nP G a xs/\qM K G a ks vs xs/\jA K G ds vs
 |.FG ks ds,v=>∃a vs,v=.ref a/\G a=some (.dK (fL ks vs))/\jA K G ds vs/\ks.length=ds.length
 |.MC n ds,v=>∃a ws vs,v=.ref a/\zB K G a ws/\Fm n ws vs/\jA K G ds vs
def jA(K:iA)(G:Hp):List D->List V->Prop
 |[],vs=>vs=[]
 |d::ds,vs=>∃v r,vs=v::r/\oA K G d v/\jA K G ds r
end
def iI{K:iA}(s:Sm G G')(h:QC K G a vs):QC K G' a vs:=by
 rcases h with (h | ⟨o,h⟩) | h
 ·exact .inl (.inl (s.app (λ_ z=>nomatch z) h))
 ·exact .inl (.inr ⟨o,s.app (λ_ z=>nomatch z) h⟩)
 ·exact .inr h
def wI.mono{K:iA}(s:Sm G G')(h:wI K G k b):wI K G' k b:=let ⟨c,h1,h2⟩:=h;⟨c,iI s h1,iI s h2⟩
theorem aC.mono{K:iA}(s:Sm G G'){k:JB}{b:kA}(h:aC K G k b):aC K G' k b:=wI.mono s h
theorem qM.mono{K:iA}(s:Sm G G')(h:qM K G a ks vs xs):qM K G' a ks vs xs:=⟨h.1,h.2.1,h.2.2.1,λx hx=>aC.mono s (h.2.2.2.1 x hx),h.2.2.2.2⟩
mutual
theorem oA.mono{K:iA}(s:Sm G G'):∀(d:D) {v:V},oA K G d v->oA K G' d v
 |.pA,_,h=>by simpa[oA] using h
 |.bl _,_,h=>by simpa[oA] using h
 |.int _,_,h=>by simpa[oA] using h
 |.str _,_,h=>by simpa[oA] using h
 |.t ds,_,h=>by
  simp only[oA] at h ⊢;obtain⟨a,vs,e,h1,h2⟩:=h;exact⟨a,vs,e,iI s h1,jA.mono s ds h2⟩
 |.l ds,_,h=>by
  simp only[oA] at h ⊢;obtain⟨a,vs,e,h1,h2⟩:=h;exact⟨a,vs,e,s.seq h1,jA.mono s ds h2⟩
 |.ins c ns ds,_,h=>by
  simp only[oA] at h ⊢;obtain⟨a,C,dx,vs,e,h1,h2,h3,h4,h5⟩:=h;exact⟨a,C,dx,vs,e,h1,s.app (λ_ z=>nomatch z) h2,jA.mono s ds h3,h4,h5⟩
 |.ZA ks ds,_,h=>by
  simp only[oA] at h ⊢;obtain⟨a,xs,vs,e,⟨ep,h1⟩,h2,h3⟩:=h;exact⟨a,xs,vs,e,⟨ep,s.app (λ_ z=>nomatch z) h1⟩,h2.mono s,jA.mono s ds h3⟩
 |.FG ks ds,_,h=>by
  simp only[oA] at h ⊢;obtain⟨a,vs,e,h1,h2,h3⟩:=h;exact⟨a,vs,e,s.app (λ_ z=>nomatch z) h1,jA.mono s ds h2,h3⟩
 |.MC _ ds,_,h=>by(simp only[oA] at h ⊢;obtain⟨a,ws,vs,e,h1,p,h2⟩:=h;exact⟨a,ws,vs,e,s.seq h1,p,jA.mono s ds h2⟩)
theorem jA.mono{K:iA}(s:Sm G G'):∀(ds:List D) {vs:List V},jA K G ds vs->jA K G' ds vs
 |[],_,h=>by simpa[jA] using h
 |d::ds,_,h=>by(simp only[jA] at h ⊢;obtain⟨v,r,e,h1,h2⟩:=h;exact⟨v,r,e,oA.mono s d h1,jA.mono s ds h2⟩)
end
theorem jA.len{K:iA}:∀{ds:List D} {vs:List V},jA K G ds vs->vs.length=ds.length
 |[],_,h=>by simp only[jA] at h;subst h;rfl
 |d::ds,_,h=>by(simp only[jA] at h;obtain⟨v,r,rfl,_,h2⟩:=h;simp[jA.len h2])
def jA.nil{K:iA}:jA K G [] []:=by simp[jA]
def jA.cons{K:iA}(h:oA K G d v)(t:jA K G ds vs):jA K G (d::ds) (v::vs):=by
 simp only[jA];exact⟨v,vs,rfl,h,t⟩
theorem jA.app{K:iA}:∀{ds es:List D} {vs ws:List V},jA K G ds vs->jA K G es ws->jA K G (ds++es) (vs++ws)
 |[],_,_,_,h,h'=>by simp only[jA] at h;subst h;exact h'
 |d::ds,_,_,_,h,h'=>by(simp only[jA] at h;obtain⟨v,r,rfl,h1,h2⟩:=h;exact jA.cons h1 (jA.app h2 h'))
theorem jA.rev{K:iA}:∀{ds:List D} {vs:List V},jA K G ds vs->jA K G ds.reverse vs.reverse
 |[],vs,h=>by
  cases (show vs=[] from h);exact(show jA K G [] [] from rfl)
 |d::ds,vs,h=>by
  obtain⟨v,r,rfl,h1,h2⟩:=(show ∃v r,vs=v::r/\oA K G d v/\jA K G ds r from h)
  rw[dY,dY];exact h2.rev.app (show jA K G [d] [v] from⟨v,[],rfl,h1,rfl⟩)
theorem jA.get{K:iA}:∀{ds:List D} {vs:List V} {i:Nat} {d:D},jA K G ds vs->ds[i]?=some d->∃v,vs[i]?=some v/\oA K G d v
 |[],_,_,_,_,e=>by simp at e
 |d::ds,_,0,_,h,e=>by
  simp only[jA] at h;obtain⟨v,r,rfl,h1,h2⟩:=h;simp at e;subst e;exact⟨v,rfl,h1⟩
 |d::ds,_,i+1,_,h,e=>by
  simp only[jA] at h;obtain⟨v,r,rfl,h1,h2⟩:=h
  have:=jA.get h2 (by simpa using e)
  simpa using this
theorem jA.set{K:iA}(hv:oA K G d v):∀{ds:List D} {vs:List V} (i:Nat),jA K G ds vs->jA K G (ds.set i d) (vs.set i v)
 |[],_,_,h=>by simp only[jA] at h;subst h;simp[jA]
 |e::ds,_,0,h=>by
  simp only[jA] at h;obtain⟨u,r,rfl,h1,h2⟩:=h;exact jA.cons hv h2
 |e::ds,_,i+1,h=>by(simp only[jA] at h;obtain⟨u,r,rfl,h1,h2⟩:=h;exact jA.cons h1 (jA.set hv i h2))
theorem jA.take{K:iA}:∀{ds:List D} {vs:List V} (n:Nat),jA K G ds vs->jA K G (ds.take n) (vs.take n)
 |_,_,0,_=>by simp[jA]
 |[],_,_+1,h=>by simp only[jA] at h;subst h;simp[jA]
 |e::ds,_,n+1,h=>by(simp only[jA] at h;obtain⟨u,r,rfl,h1,h2⟩:=h;exact jA.cons h1 (jA.take n h2))
theorem jA.drop{K:iA}:∀{ds:List D} {vs:List V} (n:Nat),jA K G ds vs->jA K G (ds.drop n) (vs.drop n)
 |_,_,0,h=>h
 |[],_,_+1,h=>by simp only[jA] at h;subst h;simp[jA]
 |e::ds,_,n+1,h=>by(simp only[jA] at h;obtain⟨u,r,rfl,h1,h2⟩:=h;exact jA.drop n h2)
theorem jA.rep{K:iA}(h:jA K G ds vs):∀n,jA K G (HB n ds).flatten (HB n vs).flatten
 | 0=>jA.nil
 |n+1=>by(rw[VL,VL,VO,VO];exact jA.app h (jA.rep h n))
def zG(K:iA)(H G:Hp)(a:kA):D->Prop
 |.l ds=>∃vs,H a=some (.l vs)/\jA K G ds vs
 |.ZA ks ds=>∃xs vs,nP H a xs/\qM K G a ks vs xs/\jA K G ds vs
 |_=>False
def AA(U:Env)(Y:St)(a:kA):Prop:=∃(i:Nat) (d:D) (p l:Bool),U[i]?=some (.ow d p l)/\Y[i]?=some (some (.ref a))
structure IA(K:iA)(U:Env)(Y:St)(H G:Hp):Prop where
 len:U.length=Y.length
 sub:XA G H
 sh:∀(i:Nat) (d:D),U[i]?=some (.sh d)->∃v,Y[i]?=some (some v)/\oA K G d v
 ow:∀(i:Nat) (d:D) (p l:Bool),U[i]?=some (.ow d p l)->∃a,Y[i]?=some (some (.ref a))/\G a=none/\zG K H G a d
 inj:∀(i j:Nat) (d:D) (p l:Bool) (d':D) (p' l':Bool) (a:kA),U[i]?=some (.ow d p l)->U[j]?=some (.ow d' p' l')->Y[i]?=some (some (.ref a))->Y[j]?=some (some (.ref a))->i=j
structure Ext(own:kA->Prop)(H G H' G':Hp):Prop where
 gg:Sm G G'
 hh:∀a o,H a=some o->¬own a->H' a=some o
 hx:∀a,H' a=none->H a=none
 gn:∀a,H a≠none->G a=none->¬own a->G' a=none
theorem Ext.refl:Ext own H G H G:=⟨Sm.refl _,λ_ _ h _=>h,λ_ h=>h,λ_ _ h _=>h⟩
theorem Ext.trans(a:Ext own H G H1 G1)(w:∀x,nOa x->own x\/H x=none)(b:Ext nOa H1 G1 H2 G2):Ext own H G H2 G2:=by
 refine⟨a.gg.trans b.gg,λx o h n=>?_,λx h=>a.hx x (b.hx x h),λx h g n=>?_⟩
 ·refine b.hh x o (a.hh x o h n) λz=>?_
  rcases w x z with z | z
  ·exact n z
  ·rw[h] at z;cases z
 ·have h1:H1 x≠none:=λz=>h (a.hx x z)
  refine b.gn x h1 (a.gn x h g n) λz=>?_
  rcases w x z with z | z
  ·exact n z
  ·exact h z
def Ext.weaken(a:Ext own H G H1 G1)(w:∀x,own x->eF x):Ext eF H G H1 G1 :=
 ⟨a.gg,λx o h n=>a.hh x o h λz=>n (w x z),a.hx,λx h g n=>a.gn x h g λz=>n (w x z)⟩
def JN(H:Hp)(own new:kA->Prop)(vs:List V):Prop:=∀x∈vs,∃b ws,x=.ref b/\H b=some (.l ws)/\ws.length<=1000/\¬own b/\new b
def Rows(H:Hp)(own new:kA->Prop)(a:kA):Prop:=∃vs,H a=some (.l vs)/\JN H own (λb=>new b/\b≠a) vs
def JN.step(h:JN H own new vs)(e:∀b o,H b=some o->¬own b->H' b=some o)(w:∀b,eF b->own b\/H b=none):JN H' eF new vs:=λx hx=>by
 obtain⟨b,ws,h1,h2,h3,h4,h5⟩:=h x hx;refine⟨b,ws,h1,e b _ h2 h4,h3,λz=>?_,h5⟩;rcases w b z with z | z
 ·exact h4 z
 ·rw[h2] at z;cases z
theorem JN.new{own new new':kA->Prop}(h:JN H own new vs)(w:∀b,new b->new' b):JN H own new' vs:=λx hx=>let ⟨b,ws,h1,h2,h3,h4,h5⟩:=h x hx;⟨b,ws,h1,h2,h3,h4,w b h5⟩
def RC(K:iA)(H G:Hp)(own:kA->Prop)(new:kA->Prop):RV->V->Prop
 |.sh d,v=>oA K G d v
 |.ow d,v=>∃a,v=.ref a/\G a=none/\zG K H G a d/\¬own a/\new a
 |.od d,v=>∃a,v=.ref a/\G a=none/\zG K H G a d/\¬own a/\new a/\Rows H own new a
def OB(K:iA)(H G:Hp)(d:D)(v:V):Prop:=oA K G d v\/∃a,v=.ref a/\zG K H G a d
def HE(K:iA)(H G:Hp)(own:kA->Prop)(new:kA->Prop)(Y:St):Hd->V->Prop
 |.slot i,v=>Y[i]?=some (some v)
 |.val (.od _),_=>False
 |.val r,v=>RC K H G own new r v
section
variable{K:iA}{own eF new new':kA->Prop}
theorem zG.mono(h:zG K H G a d)(s:Sm G G')(e:∀o,H a=some o->H' a=some o):zG K H' G' a d:=by
 induction d using D.casesOn with
 |l ds =>
  obtain⟨vs,h1,h2⟩:=h;exact⟨vs,e _ h1,jA.mono s _ h2⟩
 |ZA ks ds=>obtain⟨xs,vs,⟨ep,h1⟩,h2,h3⟩:=h;exact⟨xs,vs,⟨ep,e _ h1⟩,h2.mono s,jA.mono s ds h3⟩
 |_=>exact h
def zG.put(h:zG K H G a d):∃o,H a=some o/\∀G',Sm G G'->G' a=some o->oA K G' d (.ref a):=by
 induction d using D.casesOn with
 |l ds =>
  obtain⟨vs,h1,h2⟩:=h;exact⟨_,h1,λG' s e=>by simp only[oA];exact⟨a,vs,rfl,zB.of e,jA.mono s ds h2⟩⟩
 |ZA ks ds=>obtain⟨xs,vs,⟨ep,h1⟩,h2,h3⟩:=h;exact⟨_,h1,λG' s e=>by simp only[oA];exact⟨a,xs,vs,rfl,⟨ep,e⟩,h2.mono s,jA.mono s ds h3⟩⟩
 |_=>exact h.elim
def zG.there(h:zG K H G a d):∃o,H a=some o:=let ⟨o,h,_⟩:=h.put;⟨o,h⟩
def IA.owned(r:IA K U Y H G)(o:AA U Y a):H a≠none/\G a=none:=by
 obtain⟨i,d,p,l,h1,h2⟩:=o;obtain⟨b,e,g,h⟩:=r.ow i d p l h1;rw[h2] at e;cases e;obtain⟨vs,h⟩:=h.there;exact⟨by rw[h];simp,g⟩
def RC.wait(h:RC K H G own new v x)(e:Ext own H G H' G')(w:∀a,eF a->own a\/H a=none):RC K H' G' eF new v x:=by
 induction v using RV.casesOn with
 |sh d=>exact oA.mono e.gg d h
 |ow d =>
  obtain⟨a,rfl,g,o,n,m⟩:=h;obtain⟨vs,hv⟩:=o.there;have ne:H a≠none:=by rw[hv];simp
  refine⟨a,rfl,e.gn a ne g n,o.mono e.gg λo' h'=>e.hh a o' h' n,λz=>?_,m⟩;rcases w a z with z | z
  ·exact n z
  ·exact ne z
 |od d =>
  obtain⟨a,rfl,g,o,n,m,vs,hv,hr⟩:=h;have ne:H a≠none:=by rw[hv];simp
  refine⟨a,rfl,e.gn a ne g n,o.mono e.gg λo' h'=>e.hh a o' h' n,λz=>?_,m,vs,e.hh a _ hv n,hr.step e.hh w⟩;rcases w a z with z | z
  ·exact n z
  ·exact ne z
theorem HE.wait(h:HE K H G own new Y v x)(e:Ext own H G H' G')(w:∀a,eF a->own a\/H a=none):HE K H' G' eF new Y v x:=by
 induction v using Hd.casesOn with
 |slot i=>exact h
 |val r=>cases r with
  |od d=>exact h.elim
  |sh d=>exact oA.mono e.gg d h
  |ow d=>exact RC.wait (v:=.ow d) h e w
def RC.wJ(h:RC K H G own new v x)(w:∀a,new a->new' a):RC K H G own new' v x:=by
 induction v using RV.casesOn with
 |sh d=>exact h
 |ow d =>
  obtain⟨a,rfl,g,o,n,m⟩:=h;exact⟨a,rfl,g,o,n,w a m⟩
 |od d =>
  obtain⟨a,rfl,g,o,n,m,vs,hv,hr⟩:=h;exact⟨a,rfl,g,o,n,w a m,vs,hv,hr.new λb z=>⟨w b z.1,z.2⟩⟩
theorem RC.low(h:RC K H G own new v x):RC K H G own new v.low x:=by
 induction v using RV.casesOn with
 |sh d=>exact h
 |ow d=>exact h
 |od d =>
  obtain⟨a,rfl,g,o,n,m,_⟩:=h;exact⟨a,rfl,g,o,n,m⟩
def HE.of(h:RC K H G own new v x):HE K H G own new Y (.val v.low) x:=by
 have:=h.low
 cases v<;>exact this
theorem HE.wJ(h:HE K H G own new Y v x)(w:∀a,new a->new' a):HE K H G own new' Y v x:=by
 induction v using Hd.casesOn with
 |slot i=>exact h
 |val r=>cases r with
  |od d=>exact h.elim
  |sh d=>exact h
  |ow d=>exact RC.wJ (v:=.ow d) h w
def RC.fN(h:RC K H G own new v x):OB K H G v.d x:=by
 induction v using RV.casesOn with
 |sh d=>exact .inl h
 |ow d =>
  obtain⟨a,rfl,g,o,n,m⟩:=h;exact .inr ⟨a,rfl,o⟩
 |od d =>
  obtain⟨a,rfl,g,o,n,m,_⟩:=h;exact .inr ⟨a,rfl,o⟩
theorem IA.get(r:IA K U Y H G){i:Nat}(h:(U[i]?).bind Sl.get=some d)(hx:Y[i]?=some (some x)):OB K H G d x:=by
 cases e:U[i]? with
 |none=>rw[e] at h;cases h
 |some sl =>
  rw[e] at h
  induction sl using Sl.casesOn with
  |un=>cases h
  |mv=>cases h
  |sh d' =>
   cases h;obtain⟨v,h1,h2⟩:=r.sh i _ e;rw[hx] at h1;cases h1;exact .inl h2
  |ow d' p l =>
   cases h;obtain⟨a,h1,_,h2⟩:=r.ow i _ p l e;rw[hx] at h1;cases h1;exact .inr ⟨a,rfl,h2⟩
def HE.read(h:HE K H G own new Y v x)(r:IA K U Y H G)(e:v.get U=some d):OB K H G d x:=by
 induction v using Hd.casesOn with
 |slot i=>exact r.get e h
 |val u =>
  simp only[Hd.get,lC] at e;subst e
  induction u using RV.casesOn with
  |od d=>exact h.elim
  |sh d=>exact .inl h
  |ow d=>exact RC.fN (v:=.ow d) h
def IA.bound(r:IA K U Y H G){i:Nat}(h:((U[i]?).bind Sl.get).isSome=true):∃v,Y[i]?=some (some v):=by
 cases e:U[i]? with
 |none=>rw[e] at h;cases h
 |some sl =>
  rw[e] at h
  induction sl using Sl.casesOn with
  |un=>cases h
  |mv=>cases h
  |sh d' =>
   obtain⟨v,h1,h2⟩:=r.sh i _ e;exact⟨v,h1⟩
  |ow d' p l =>
   obtain⟨a,h1,_,h2⟩:=r.ow i _ p l e;exact⟨_,h1⟩
theorem OB.l(s:XA G H)(h:OB K H G (.l ds) x):∃a vs,x=.ref a/\zB K H a vs/\jA K G ds vs:=by
 rcases h with h | ⟨a,rfl,h⟩
 ·simp only[oA] at h;obtain⟨a,vs,e,h1,h2⟩:=h;exact⟨a,vs,e,s.seq h1,h2⟩
 ·obtain⟨vs,h1,h2⟩:=h;exact⟨a,vs,rfl,zB.of h1,h2⟩
theorem OB.t{ds:List D}(s:XA G H)(h:OB K H G (.t ds) x):∃a vs,x=.ref a/\QC K H a vs/\jA K G ds vs:=by
 rcases h with h | ⟨a,rfl,h⟩
 ·simp only[oA] at h;obtain⟨a,vs,e,h1,h2⟩:=h;exact⟨a,vs,e,iI s h1,h2⟩
 ·exact h.elim
theorem OB.ins(s:XA G H)(h:OB K H G (.ins c ns ds) x):∃a C dx vs,x=.ref a/\ED K nC c=some (some (.ref C))/\H a=some (.ins C dx (ns.zip vs))/\jA K G ds vs/\mP K C ns/\ns.length=vs.length:=by
 rcases h with h | ⟨a,rfl,h⟩
 ·simp only[oA] at h;obtain⟨a,C,dx,vs,e,h1,h2,h3⟩:=h;exact⟨a,C,dx,vs,e,h1,s _ _ h2,h3⟩
 ·exact h.elim
theorem OB.int(h:OB K H G (.int i) x):x=.int i:=by
 rcases h with h | ⟨a,rfl,h⟩
 ·simpa[oA] using h
 ·exact h.elim
theorem OB.bl(h:OB K H G (.bl i) x):x=.bl i:=by
 rcases h with h | ⟨a,rfl,h⟩
 ·simpa[oA] using h
 ·exact h.elim
theorem OB.str(h:OB K H G (.str i) x):x=.str i/\gP i=true:=by
 rcases h with h | ⟨a,rfl,h⟩
 ·simpa[oA] using h
 ·exact h.elim
theorem OB.pA(h:OB K H G .pA x):x=.pA:=by
 rcases h with h | ⟨a,rfl,h⟩
 ·simpa[oA] using h
 ·exact h.elim
def DT(h:oA K G (.bl i) x):x=.bl i:=by simpa[oA] using h
def XA.laid(h:H a=none):XA H (CA H a o):=λb u e=>by rw[yB (OF e h)];exact e
theorem Sm.laid(h:H a=none):Sm H (CA H a o):=Sm.of (XA.laid h)
def Sm.put(h:H a=none):Sm H (CA H a o):=Sm.laid h
def IA.TM(r:IA K U Y H G)(h:H a=none):IA K U Y (CA H a o) (CA G a o):=by
 have hg:G a=none:=XA.free r.sub h;refine⟨r.len,λb u e=>?_,λi d e=>?_,λi d p l e=>?_,r.inj⟩
 ·by_cases hb:b=a
  ·subst hb;rw[VC] at e ⊢;exact e
  ·rw[yB hb] at e ⊢;exact r.sub b u e
 ·obtain⟨v,h1,h2⟩:=r.sh i d e;exact⟨v,h1,oA.mono (Sm.laid hg) d h2⟩
 ·obtain⟨b,h1,h2,h3⟩:=r.ow i d p l e;obtain⟨vs,hv⟩:=h3.there;have hb:b≠a:=OF hv h;refine⟨b,h1,by rw[yB hb];exact h2,h3.mono (Sm.laid hg) λo' h'=>by rw[yB hb];exact h'⟩
def Ext.TM(s:XA G H)(h:H a=none):Ext own H G (CA H a o) (CA G a o):=by
 have hg:G a=none:=XA.free s h;refine⟨Sm.laid hg,λb u e _=>XA.laid h b u e,λb e=>?_,λb e g _=>?_⟩
 ·by_cases hb:b=a
  ·subst hb;exact h
  ·rwa[yB hb] at e
 ·by_cases hb:b=a
  ·subst hb;exact absurd h e
  ·rw[yB hb];exact g
def IA.KI(r:IA K U Y H G)(h:H a=none):IA K U Y (CA H a o) G:=by
 refine⟨r.len,r.sub.trans (XA.laid h),r.sh,λi d p l e=>?_,r.inj⟩;obtain⟨b,h1,h2,h3⟩:=r.ow i d p l e;obtain⟨vs,hv⟩:=h3.there;have hb:b≠a:=OF hv h;exact⟨b,h1,h2,h3.mono (Sm.refl _) λo' h'=>by rw[yB hb];exact h'⟩
def Ext.KI(h:H a=none):Ext own H G (CA H a o) G:=by
 refine⟨Sm.refl _,λb u e _=>XA.laid h b u e,λb e=>?_,λb e g _=>g⟩;by_cases hb:b=a
 ·subst hb;exact h
 ·rwa[yB hb] at e
def IA.RW(r:IA K U Y H G)(h:H a=none):¬AA U Y a:=λo=>(r.owned o).1 h
def XA.put(h:G a=none):XA G (CA G a o):=XA.laid h
def RC.share(h:RC K H G (AA U Y) new v x)(r:IA K U Y H G)(hn:∀a,new a->own a\/new' a) :
  ∃G',IA K U Y H G'/\XA G G'/\(∀a,G' a≠none->G a≠none\/new a)/\oA K G' v.d x:=by
 have main:∀d,RC K H G (AA U Y) new (.ow d) x->∃G',IA K U Y H G'/\XA G G'/\(∀a,G' a≠none->G a≠none\/new a)/\oA K G' d x:=by
  intro d h;obtain⟨a,rfl,g,o,n,m⟩:=h;obtain⟨ob,hv,hr⟩:=o.put;refine⟨CA G a ob,⟨r.len,λb u e=>?_,λi d e=>?_,λi d p l e=>?_,r.inj⟩,XA.put g,λb z=>?_, ?_⟩
  ·by_cases hb:b=a
   ·subst hb;rw[VC] at e;rw[hv];exact e
   ·rw[yB hb] at e;exact r.sub b u e
  ·obtain⟨v,h1,h2⟩:=r.sh i d e;exact⟨v,h1,oA.mono (Sm.put g) d h2⟩
  ·obtain⟨b,h1,h2,h3⟩:=r.ow i d p l e;have hb:b≠a:=λz=>by subst z;exact n ⟨i,d,p,l,e,h1⟩
   exact⟨b,h1,by rw[yB hb];exact h2,h3.mono (Sm.put g) λ_ z=>z⟩
  ·by_cases hb:b=a
   ·subst hb;exact .inr m
   ·rw[yB hb] at z;exact .inl z
  ·exact hr _ (Sm.put g) VC
 induction v using RV.casesOn with
 |sh d=>exact⟨G,r,XA.refl _,λa z=>.inl z,h⟩
 |ow d=>exact main d h
 |od d=>exact main d h.low
end
def EF:Option Sl->Option Sl->Prop
 |some (.ow _ p l),some (.ow _ p' l')=>p=p'/\l=l'
 |some (.ow _ p _),some (.sh _)=>p=false
 |some .un,some .un=>True
 |some .mv,some .mv=>True
 |some (.sh _),some (.sh _)=>True
 |none,none=>True
 |_,_=>False
def EF.refl(a:Option Sl):EF a a:=by
 cases a with
 |none=>trivial
 |some s=>cases s<;>first | trivial | exact⟨rfl,rfl⟩
theorem EF.trans(h:EF a b)(h':EF b c):EF a c:=by
 cases a with
 |none =>
  cases b with
  |none=>exact h'
  |some t=>cases t<;>exact h.elim
 |some s =>
  cases b with
  |none=>cases s<;>exact h.elim
  |some t =>
   cases c with
   |none=>cases t<;>exact h'.elim
   |some u=>cases s<;>cases t<;>first | exact h.elim | (cases u<;>first | exact h'.elim | trivial | exact⟨h.1.trans h'.1,h.2.trans h'.2⟩ | exact h.1.trans h' | exact h)
def EF.Cj(h:EF a (some (.ow d p l))):∃d',a=some (.ow d' p l):=by
 cases a with
 |none=>exact h.elim
 |some s=>cases s<;>first | exact h.elim | (obtain⟨rfl,rfl⟩:=h;exact⟨_,rfl⟩)
def vE(U U':Env):Prop:=∀i:Nat,EF U[i]? U'[i]?
theorem vE.refl(U:Env):vE U U:=λ_=>EF.refl _
theorem vE.trans(h:vE a b)(h':vE b c):vE a c:=λi=>(h i).trans (h' i)
def vE.own(h:vE U U')(a:kA)(o:AA U' Y a):AA U Y a:=by
 obtain⟨i,d,p,l,h1,h2⟩:=o
 have:=h i
 rw[h1] at this;obtain⟨d',e⟩:=this.Cj;exact⟨i,d',p,l,e,h2⟩
theorem vE.set(h:EF U[i]? (some s)):vE U (U.set i s):=λj=>by
 by_cases FI:j=i
 ·subst FI;by_cases hl:j<U.length
  ·rw[YK hl];exact h
  ·rw[WI (by lia)] at h;cases s<;>exact h.elim
 ·rw[jF (λz=>FI z.symm)];exact EF.refl _
structure GA(K:iA)(U:Env)(Y:St)(H G:Hp)(U':Env)(H' G':Hp):Prop where
 wA:IA K U' Y H' G'
 ext:Ext (AA U Y) H G H' G'
 bK:vE U U'
section
variable{K:iA}
theorem GA.own(a:GA K U Y H G U' H' G'):∀a,AA U' Y a->AA U Y a:=λx h=>a.bK.own x h
theorem GA.refl(r:IA K U Y H G):GA K U Y H G U H G:=⟨r,Ext.refl,vE.refl _⟩
theorem GA.trans(a:GA K U Y H G U1 H1 G1)(b:GA K U1 Y H1 G1 U2 H2 G2):GA K U Y H G U2 H2 G2 :=
 ⟨b.wA,a.ext.trans (λx h=>.inl (a.own x h)) b.ext,a.bK.trans b.bK⟩
abbrev hE(H:Hp):kA->Prop:=λa=>H a=none
def GA.fresh(a:GA K U Y H G U1 H1 G1)(h:H1 x=none):H x=none:=a.ext.hx x h
def GA.v8(a:GA K U Y H G U' H' G')(h:RC K H' G' (AA U' Y) (hE H) v x):∃G2,GA K U Y H G U' H' G2/\oA K G2 v.d x/\XA G' G2:=by
 obtain⟨G2,r2,s2,n2,h2⟩:=h.share (own:=λ_=>False) (new':=hE H) a.wA (λ_ z=>.inr z);refine⟨G2,⟨r2,⟨a.ext.gg.trans s2,a.ext.hh,a.ext.hx,λb hb gb nb=>?_⟩,a.bK⟩,h2,s2⟩
 cases e:G2 b with
 |none=>rfl
 |some o =>
  rcases n2 b (by rw[e];simp) with z | z
  ·exact absurd (a.ext.gn b hb gb nb) z
  ·exact absurd z hb
def GA.share(a:GA K U Y H G U' H' G')(h:RC K H' G' (AA U' Y) (hE H) v x):∃G2,GA K U Y H G U' H' G2/\oA K G2 v.d x:=let ⟨G2,h1,h2,_⟩:=a.v8 h;⟨G2,h1,h2⟩
theorem GA.TM(a:GA K U Y H G U' H' G')(h:H' p=none):GA K U Y H G U' (CA H' p o) (CA G' p o) :=
 a.trans ⟨a.wA.TM h,Ext.TM a.wA.sub h,vE.refl _⟩
theorem GA.KI(a:GA K U Y H G U' H' G')(h:H' p=none):GA K U Y H G U' (CA H' p o) G' :=
 a.trans ⟨a.wA.KI h,Ext.KI h,vE.refl _⟩
def GA.Dj(a:GA K U Y H G U' H' G')(h:H' p=none)(r:jA K G' ds vs) :
  GA K U Y H G U' (CA H' p (.l vs)) G'/\RC K (CA H' p (.l vs)) G' (AA U' Y) (hE H) (.ow (.l ds)) (.ref p) :=
 ⟨a.KI h,p,rfl,XA.free a.wA.sub h,⟨vs,VC,r⟩,a.wA.RW h,a.fresh h⟩
def GA.Sx(a:GA K U Y H G U' H' G')(h:H' p=none)(r:qM K G' p ks vs xs)(q:jA K G' ds vs) :
  GA K U Y H G U' (CA H' p (.ext (BB p xs ep))) G'/\RC K (CA H' p (.ext (BB p xs ep))) G' (AA U' Y) (hE H) (.ow (.ZA ks ds)) (.ref p) :=
 ⟨a.KI h,p,rfl,XA.free a.wA.sub h,⟨xs,vs,⟨_,VC⟩,r,q⟩,a.wA.RW h,a.fresh h⟩
def GA.wo(a:GA K U Y H G U' H' G')(h:H' p=none)(r:jA K G' ds vs) :
  GA K U Y H G U' (CA H' p (.t vs)) (CA G' p (.t vs))/\RC K (CA H' p (.t vs)) (CA G' p (.t vs)) (AA U' Y) (hE H) (.sh (.t ds)) (.ref p):=by
 refine⟨a.TM h, ?_⟩;show oA K _ (.t ds) _;simp only[oA];exact⟨p,vs,rfl,QC.of VC,jA.mono (Sm.laid (XA.free a.wA.sub h)) ds r⟩
end
def BG:List Hd->List V->kA->Prop
 |.val (.ow _)::hs,x::xs,a=>x=.ref a\/BG hs xs a
 |_::hs,_::xs,a=>BG hs xs a
 |_,_,_=>False
def oE(K:iA)(H G:Hp)(own new:kA->Prop)(Y:St):List Hd->List V->Prop
 |[],xs=>xs=[]
 |h::hs,xs=>∃x r,xs=x::r/\HE K H G own new Y h x/\oE K H G own new Y hs r/\∀d a,h=.val (.ow d)->x=.ref a->¬BG hs r a
section
variable(K:iA)(P:oB)(C:Calls)
def tE(c:E):TE:=λY H Q=>∃(U:Env) (G:Hp) (v:RV) (U':Env),IA K U Y H G/\ev P C false c U=some (.ok v,U') /\
 ∀x H' G',GA K U Y H G U' H' G'->RC K H' G' (AA U' Y) (hE H) v x->Q x H'
def tT(c:E):TT:=λY H Q=>∃(U:Env) (G:Hp) (b:Bool) (U':Env),IA K U Y H G/\ev P C true c U=some (.ok (.sh (.bl b)),U') /\
 ∀H' G',GA K U Y H G U' H' G'->Q b H'
def tH(c:E):TE:=λY H Q=>∃(U:Env) (G:Hp) (h:Hd) (U':Env),IA K U Y H G/\hd c (ev P C false c U) U=some (.ok h,U') /\
 ∀x H' G',GA K U Y H G U' H' G'->HE K H' G' (AA U' Y) (hE H) Y h x->Q x H'
def KO(cs:List E):TA:=λY H Q=>∃(U:Env) (G:Hp) (ds:List D) (U':Env),IA K U Y H G/\iH P C cs U=some (.ok ds,U') /\
 ∀xs H' G',GA K U Y H G U' H' G'->jA K G' ds xs->Q xs H'
def xH(cs:List E):TA:=λY H Q=>∃(U:Env) (G:Hp) (hs:List Hd) (U':Env),IA K U Y H G/\qD P C cs U=some (.ok hs,U') /\
 ∀xs H' G',GA K U Y H G U' H' G'->oE K H' G' (AA U' Y) (hE H) Y hs xs->Q xs H'
end
def TE.CD(h:PE X e t)(w:∀Y H Q,u Y H Q->t Y H Q):PE X e u:=λaA s Y H Q I q=>h aA s Y H Q I (w Y H Q q)
def TT.IS(h:PT X e t)(w:∀Y H Q,u Y H Q->t Y H Q):PT X e u:=λaA s Y H Q I q=>h aA s Y H Q I (w Y H Q q)
def TA.oW(h:PA X e t)(w:∀Y H Q,u Y H Q->t Y H Q):PA X e u:=λpos aA s Y H Q I q=>h pos aA s Y H Q I (w Y H Q q)
def CB{r:FA O}(h:r.bind f=some (.ok b,U)):∃a U1,r=some (.ok a,U1)/\f a U1=some (.ok b,U):=by
 unfold FA.bind at h;split at h
 ·cases h
 ·cases h
 ·exact⟨_,_,rfl,h⟩
def OH(h:done o U=some (.ok v,U')):o=some v/\U'=U:=by
 unfold done at h
 cases o with
 |none=>cases h
 |some u=>simp only[FE,lC,nE,Out.ok.injEq] at h;exact⟨by rw[h.1],h.2.symm⟩
def Wo{r:FA RV}{U':Env}(h:aAg true r=some (.ok v,U')):∃u b,r=some (.ok u,U')/\DJ u.d=some b/\v=.sh (.bl b):=by
 obtain⟨u,U1,h1,h2⟩:=CB h
 cases e:DJ u.d with
 |none=>rw[e] at h2;cases h2
 |some b =>
  rw[e] at h2;simp only[FE,lC,nE,Out.ok.injEq] at h2;obtain⟨h3,h4⟩:=h2;subst h4;exact⟨u,b,h1,e,h3.symm⟩
section
variable{K:iA}{P:oB}{C:Calls}{Y:St}{H:Hp}
def LQ{X:Cx}{c:E}(h:PE X e (tE K P C c))(n:∀i,c≠.v i):PE X e (tH K P C c):=by
 refine TE.CD h λY H Q q=>?_
 obtain⟨U,G,ME,U',r,e1,k⟩:=q
 have:hd c (ev P C false c U) U=(ev P C false c U).bind λv U'=>some (.ok (.val v.low),U'):=by
  induction c using E.casesOn with
  |v=>exact absurd rfl (n _)
  |_=>rfl
 rw[this] at e1;obtain⟨v,U1,e2,e3⟩:=CB e1;cases e3;exact⟨U,G,v,_,r,e2,λx H' G' a hv=>k x H' G' a (HE.of hv)⟩
def Lj(h:PE X e (LO i)):PE X e (tE K P C (.v i)):=by
 refine TE.CD h λY H Q q=>?_
 obtain⟨U,G,v,U',r,e1,k⟩:=q;replace e1:aAJ i U=_:=e1;unfold aAJ at e1;split at e1
 ·rename_i d hd;cases e1;obtain⟨x,h1,h2⟩:=r.sh i d hd;exact⟨x,h1,k x H G (GA.refl r) h2⟩
 ·rename_i d hd;cases e1;obtain⟨a,h1,g,o⟩:=r.ow i d _ _ hd;refine⟨.ref a,h1, ?_⟩;obtain⟨ob,hv,hr⟩:=o.put;have li:i<U.length:=(bE.mp hd).1
  have dF:∀(j:Nat) (sl:Sl),(U.set i (.sh d))[j]?=some sl->(j=i/\sl=.sh d)\/(j≠i/\U[j]?=some sl):=λj sl hj=>by
   by_cases FI:j=i
   ·subst FI;rw[YK li] at hj;exact .inl ⟨rfl,(eE hj).symm⟩
   ·rw[jF (λz=>FI z.symm)] at hj;exact .inr ⟨FI,hj⟩
  have eF:∀b,AA (U.set i (.sh d)) Y b->AA U Y b:=λb hz=>by
   obtain⟨j,d',p,l,h3,h4⟩:=hz;rcases dF j _ h3 with ⟨_,z⟩ | ⟨_,z⟩
   ·cases z
   ·exact⟨j,d',p,l,z,h4⟩
  refine k (.ref a) H (CA G a ob) ⟨⟨?_,λb u z=>?_,λj d' hj=>?_,λj d' p l hj=>?_,λj k' d1 p1 l1 d2 p2 l2 b h3 h4 h5 h6=>?_⟩,⟨Sm.put g,λ_ _ z _=>z,λ_ z=>z,λb h3 h4 h5=>?_⟩,vE.set (by rw[hd];rfl)⟩ ?_
  ·rw[VG];exact r.len
  ·by_cases hb:b=a
   ·subst hb;rw[VC] at z;rw[hv];exact z
   ·rw[yB hb] at z;exact r.sub b u z
  ·rcases dF j _ hj with ⟨rfl,z⟩ | ⟨_,z⟩
   ·cases z;exact⟨_,h1,hr _ (Sm.put g) VC⟩
   ·obtain⟨x,h3,h4⟩:=r.sh j d' z;exact⟨x,h3,oA.mono (Sm.put g) d' h4⟩
  ·rcases dF j _ hj with ⟨_,z⟩ | ⟨ne,z⟩
   ·cases z
   ·obtain⟨b,h3,h4,h5⟩:=r.ow j d' p l z;have hb:b≠a:=λe=>by subst e;exact ne (r.inj _ _ _ _ _ _ _ _ _ z hd h3 h1)
    exact⟨b,h3,by rw[yB hb];exact h4,h5.mono (Sm.put g) λ_ z=>z⟩
  ·rcases dF j _ h3 with ⟨_,z⟩ | ⟨_,z⟩
   ·cases z
   ·rcases dF k' _ h4 with ⟨_,z'⟩ | ⟨_,z'⟩
    ·cases z'
    ·exact r.inj _ _ _ _ _ _ _ _ _ z z' h5 h6
  ·by_cases hb:b=a
   ·subst hb;exact absurd ⟨i,_,_,_,hd,h1⟩ h5
   ·rw[yB hb];exact h4
  ·exact hr _ (Sm.put g) VC
 ·cases e1
def wPa(h:PE X e (LO i)):PE X e (tH K P C (.v i)):=by
 refine TE.CD h λY H Q q=>?_
 obtain⟨U,G,ME,U',r,e1,k⟩:=q;simp only[hd] at e1;split at e1
 ·rename_i hb;cases e1;obtain⟨x,hx⟩:=r.bound hb;exact⟨x,hx,k x H G (GA.refl r) hx⟩
 ·cases e1
def c9(s:XA G H)(h:OB K H G d x)(e:DJ d=some b):KU K x H b:=by
 cases d<;>simp only[DJ,lC,reduceCtorEq] at e
 ·have:=h.pA;subst this;exact e.symm
 ·have:=h.bl;subst this;exact e.symm
 ·have:=h.int;subst this;exact e.symm
 ·split at e
  ·rename_i hz;obtain⟨rfl,_⟩:=h.str;exact⟨EC hz (by decide),(eE e).symm⟩
  ·cases e
 ·obtain⟨a,vs,rfl,h1,h2⟩:=h.t s;refine .inr (.inl ⟨vs,h1, ?_⟩);rw[<- e]
  have:=h2.len
  cases vs<;>cases ‹List D›<;>simp_all
 ·obtain⟨a,vs,rfl,h1,h2⟩:=h.l s;refine .inl ⟨vs,h1, ?_⟩;rw[<- e]
  have:=h2.len
  cases vs<;>cases ‹List D›<;>simp_all
def cSa(hK:X.K=K)(h:PE X e (tE K P C c))(hw:∀U,ev P C true c U=aAg true (ev P C false c U))
  (he:∀whole,isTrue e X.env whole=(do let v <- whole;standAt e.pos;holding [v] (truthy v))):PT X e (tT K P C c):=by
 refine TT.IS (ik h he) λY H Q q=>?_
 obtain⟨U,G,b,U',r,e1,k⟩:=q;rw[hw] at e1;obtain⟨u,b',e2,e3,e4⟩:=Wo e1;cases e4;refine⟨U,G,u,U',r,e2,λx H' G' a hv=>⟨b, ?_,k H' G' a⟩⟩;rw[hK];exact c9 a.wA.sub hv.fN e3
end
mutual
theorem je:∀(n:Nat) (d e:D),sC n d=true->sC n e=true->yU (WD d) (WD e)=JF d e
 |n,.pA,e,_,h=>by cases e<;>first | (cases n<;>cases h;done) | rfl
 |n,.bl b,e,_,h=>by cases e<;>first | (cases n<;>cases h;done) | rfl
 |n,.int b,e,_,h=>by cases e<;>first | (cases n<;>cases h;done) | rfl
 |n,.str b,e,_,h=>by cases e<;>first | (cases n<;>cases h;done) | rfl
 |n+1,.t ds,e,h,h'=>by
  induction e using D.casesOn with
  |t es =>
   exact E1 n ds es (EE.mp h) (EE.mp h')
  |ins=>cases h'
  |ZA=>cases h'
  |FG=>cases h'
  |MC=>cases h'
  |_=>rfl
 |n+1,.l ds,e,h,h'=>by
  induction e using D.casesOn with
  |l es =>
   exact E1 n ds es (EE.mp h) (EE.mp h')
  |ins=>cases h'
  |ZA=>cases h'
  |FG=>cases h'
  |MC=>cases h'
  |_=>rfl
 | 0,.t ds,e,h,_=>by cases h
 | 0,.l ds,e,h,_=>by cases h
 |n,.ins _ _ _,_,h,_=>by cases n<;>cases h
 |n,.ZA _ _,_,h,_=>by cases n<;>cases h
 |n,.FG _ _,_,h,_=>by cases n<;>cases h
 |n,.MC _ _,_,h,_=>by cases n<;>cases h
theorem E1:∀(n:Nat) (ds es:List D),(∀d∈ds,sC n d=true)->(∀d∈es,sC n d=true)->AN (yH ds) (yH es)=WN ds es
 |n,[],[],_,_=>rfl
 |n,[],_::_,_,_=>rfl
 |n,_::_,[],_,_=>rfl
 |n,d::ds,e::es,h,h'=>by(show(yU (WD d) (WD e)&&AN (yH ds) (yH es))=(JF d e&&WN ds es);rw[je n d e (h d (by simp)) (h' e (by simp)),E1 n ds es (λx hx=>h x (by simp[hx])) (λx hx=>h' x (by simp[hx]))])
end
section
variable{K:iA}
mutual
theorem Lk(I:fA X aA Y H s)(hK:X.K=K)(sub:XA G H):∀(n:Nat) (d:D) (x:V) (u:dA),sC n d=true->oA K G d x->aAc x u->∃as,Reads s.heap u (WD d) as/\sI (WD d)=true/\UI (WD d)<=n
 |n,.pA,x,u,_,h,r=>by
  simp only[oA] at h;subst h;cases r;exact⟨_,Reads.none,by simp[WD,sI],by simp[WD,UI]⟩
 |n,.bl b,x,u,_,h,r=>by
  simp only[oA] at h;subst h;cases r;exact⟨_,Reads.bool b,by simp[WD,sI],by simp[WD,UI]⟩
 |n,.int b,x,u,_,h,r=>by
  simp only[oA] at h;subst h;obtain⟨t,rfl⟩:=r;exact⟨_,Reads.int b t,by simp[WD,sI],by simp[WD,UI]⟩
 |n,.str b,x,u,_,h,r=>by
  simp only[oA] at h;obtain⟨rfl,hs⟩:=h;obtain⟨t,rfl⟩:=r;exact⟨_,Reads.str b t,by simpa[WD,sI] using hs,by simp[WD,UI]⟩
 |n+1,.t ds,x,u,ok,h,r=>by
  simp only[oA] at h;obtain⟨a,vs,rfl,h1,h2⟩:=h;cases r;obtain⟨cA,rv,⟨o,ho,hc,m,hd⟩,hz⟩:=I.tuple (show QC X.K H a vs from hK ▸ iI sub h1);obtain⟨as,r1,r2,r3⟩:=fX I hK sub n ds vs cA (EE.mp ok) h2 rv;exact⟨_,Reads.tuple ho hc hd (by simpa using r1),by simpa[WD,sI] using r2,by simp[WD,UI];lia⟩
 |n+1,.l ds,x,u,ok,h,r=>by
  simp only[oA] at h;obtain⟨a,vs,rfl,h1,h2⟩:=h;cases r;obtain⟨cA,rv,⟨o,m,ho,hc,hn,hd⟩,hz⟩:=I.list (show zB X.K H a vs from hK ▸ sub.seq h1);obtain⟨as,r1,r2,r3⟩:=fX I hK sub n ds vs cA (EE.mp ok) h2 rv;exact⟨_,Reads.list ho hc hd (by simpa using r1),by simpa[WD,sI] using r2,by simp[WD,UI];lia⟩
 | 0,.t ds,_,_,h,_,_=>by cases h
 | 0,.l ds,_,_,h,_,_=>by cases h
 |n,.ins _ _ _,_,_,h,_,_=>by cases n<;>cases h
 |n,.ZA _ _,_,_,h,_,_=>by cases n<;>cases h
 |n,.FG _ _,_,_,h,_,_=>by cases n<;>cases h
 |n,.MC _ _,_,_,h,_,_=>by cases n<;>cases h
theorem fX(I:fA X aA Y H s)(hK:X.K=K)(sub:XA G H):∀(n:Nat) (ds:List D) (xs:List V) (us:List dA),(∀d∈ds,sC n d=true)->jA K G ds xs->aAb xs us->∃as,ReadsAll s.heap us (yH ds) as/\WO (yH ds)=true/\bP (yH ds)<=n
 |n,[],xs,us,_,h,r=>by
  simp only[jA] at h;subst h;cases r;exact⟨_,ReadsAll.nil,by simp[yH,WO],by simp[yH,bP]⟩
 |n,d::ds,xs,us,ok,h,r=>by
  simp only[jA] at h;obtain⟨v,r',rfl,h1,h2⟩:=h
  cases r with
  |cons ra rb =>
   obtain⟨as,a1,a2,a3⟩:=Lk I hK sub n d v _ (ok d (by simp)) h1 ra;obtain⟨bs,b1,b2,b3⟩:=fX I hK sub n ds r' _ (λx hx=>ok x (by simp[hx])) h2 rb;exact⟨_,ReadsAll.cons a1 b1,by simp[yH,WO,a2,b2],by simp[yH,bP];lia⟩
end
def Nk(I:fA X aA Y H s)(hK:X.K=K)(sub:XA G H)(n:Nat)(d:D)(x:V)(u:dA)(ok:sC n d=true)(h:OB K H G d x)(r:aAc x u):∃as,Reads s.heap u (WD d) as/\sI (WD d)=true/\UI (WD d)<=n:=by
 rcases h with h | ⟨a,rfl,h⟩
 ·exact Lk I hK sub n d x u ok h r
 ·cases r
  cases d<;>first | exact h.elim | skip
  case ZA=>cases n<;>cases ok
  rename_i ds;obtain⟨vs,h1,h2⟩:=h
  cases n with
  |zero=>cases ok
  |succ n =>
   obtain⟨cA,rv,⟨o,m,ho,hc,hn,hd⟩,hz⟩:=I.list (zB.of h1);obtain⟨as,r1,r2,r3⟩:=fX I hK sub n ds vs cA (EE.mp ok) h2 rv;exact⟨_,Reads.list ho hc hd (by simpa using r1),by simpa[WD,sI] using r2,by simp[WD,UI];lia⟩
def aAE(K:iA)(H G:Hp)(v:RV)(x:V)(H':Hp):Prop :=
 (∃d,v=.sh d/\oA K G d x/\H'=H) \/
 (∃ds vs p,v=.ow (.l ds)/\H p=none/\jA K G ds vs/\x=.ref p/\H'=CA H p (.l vs)) \/
 (∃ds vs p,v=.sh (.t ds)/\H p=none/\jA K G ds vs/\x=.ref p/\H'=CA H p (.t vs)) \/
 (∃d p o,v=.sh d/\H p=none/\x=.ref p/\H'=CA H p o/\∀G',Sm G G'->G' p=some o->oA K G' d x)
def CW(h:∃ds vs p,v=.sh (.t ds)/\H p=none/\jA K G ds vs/\x=.ref p/\H'=CA H p (.t vs)):aAE K H G v x H' :=
 .inr (.inr (.inl h))
def GA.made(a:GA K U Y H0 G0 U' H G)(m:aAE K H G v x H2) :
  ∃G2,GA K U Y H0 G0 U' H2 G2/\RC K H2 G2 (AA U' Y) (hE H0) v x:=by
 rcases m with ⟨d,rfl,h,rfl⟩ | ⟨ds,vs,p,rfl,h,r,rfl,rfl⟩ | ⟨ds,vs,p,rfl,h,r,rfl,rfl⟩ | ⟨d,p,o,rfl,h,rfl,rfl,f⟩
 ·exact⟨G,a,h⟩
 ·exact⟨_,a.Dj h r⟩
 ·exact⟨_,a.wo h r⟩
 ·exact⟨_,a.TM h,f _ (Sm.laid (XA.free a.wA.sub h)) VC⟩
def oSa(K:iA)(op:DN):R2:=λx y H Q=>∃G d e v,XA G H/\OB K H G d x/\OB K H G e y/\(op=.Mult->∀ds,d=.l ds->∃a vs,x=.ref a/\H a=some (.l vs)/\jA K G ds vs)/\bC op d e=some v/\∀z H',aAE K H G v z H'->Q z H'
def aAk:aAE K H G (.sh (.int i)) (.int i) H:=.inl ⟨_,rfl,by simp[oA],rfl⟩
def vIa:aAE K H G (.sh (.bl i)) (.bl i) H:=.inl ⟨_,rfl,by simp[oA],rfl⟩
def DK(h:iB n=true):n<=sizeLine:=EC (@eU _ (cl _) h) (by decide)
def IT(I:fA X aA Y H s)(h:zB X.K H a vs):∃(cA:List dA),aAb vs cA/\s.heap.IsList a cA.toArray/\vs.length<=sizeLine:=by
 obtain⟨cA,r,p,z⟩:=I.list h;exact⟨cA,r,p.isList,z⟩
def pSa(K:iA):R2:=λx y H Q=>∃l b xs zs,x=.ref l/\y=.ref b/\zB K H l xs/\zB K H b zs/\xs.length+zs.length<=sizeLine/\∀p,H p=none->Q (.ref p) (CA H p (.l (xs++zs)))
def yj:OC X (fF .Add) (pSa X.K):=by
 intro aA s Y H x y v u Q I rx ry h;obtain⟨l,b,xs,zs,rfl,rfl,hH,hB,hz,q⟩:=h;cases rx;cases ry;obtain⟨cA,r,hl,z⟩:=IT I hH;obtain⟨xK,r2,bW,z2⟩:=IT I hB;have e1:=r.length;have e2:=r2.length;obtain⟨⟨cls,dd,data,sl⟩,ho,hc,n,hd⟩:=id hl;obtain⟨⟨aV,eH,data2,vH⟩,dG,cG,n2,hd2⟩:=id bW;simp only at hc hd cG hd2;subst hc hd cG hd2;refine GY ⟨_,ho,rfl⟩ ⟨_,dG,rfl⟩ noFill_list_add seq_list_add PySem.F.slot_list_add PySem.F.entry_list_add (PySem.F.args_list_add_2 _ _) (list_addW l b cA.toArray xK.toArray n n2 dd eH sl vH (by simp;lia)) ⟨ho,dG, ?_⟩;have ea:cA.toArray++xK.toArray=(cA++xK).toArray:=by simp
 rw[ea];exact⟨.ref _,_,I.W6 (t':=s.toks) (r.append r2) (by rw[kC];lia),rfl,q _ I.fresh⟩
def eNa:OC X (fF .FloorDiv) (rI (λ_ j=>0<j/\j<100000000000000000000000000000000000000000000000000000000000000000000000000000000) λi j=>.int (i / j)):=pT λi j _ _ _ _ _ hc q=>by
 have h1:(0:Int)<j:=hc.1;have h2:j<100000000000000000000000000000000000000000000000000000000000000000000000000000000:=hc.2;have h3:j.natAbs<2 ^ 300:=WE (by omega:j.natAbs<100000000000000000000000000000000000000000000000000000000000000000000000000000000) (by decide);have h4:j.natAbs.log2<300:=(Nat.log2_lt (by omega)).mpr h3;exact PyProof.Rows.floordiv_int (by omega) (by rw[ip i (by omega)];exact q) (.inl (PyProof.noPylong_of_log2 (by omega)))
def pB(e:none=some v):False:=nomatch e
def cNa:OC X (fF .Add) (λx y H Q=>∃a b ys,x=.ref a/\y=.ref b/\QC X.K H a []/\QC X.K H b ys/\Q (.ref b) H):=by
 intro aA s Y H x y v u Q I rx ry h;obtain⟨a,b,ys,rfl,rfl,ha,hb,q⟩:=h;cases rx;cases ry;obtain⟨cA,r1,p1,_⟩:=I.tuple ha;obtain⟨xK,r2,p2,_⟩:=I.tuple hb;have e0:cA=[]:=r1.NW.mpr rfl;subst e0;obtain⟨⟨cls,dd,data,sl⟩,ho,hc,n,hd⟩:=id p1;obtain⟨⟨aV,eH,data2,vH⟩,dG,cG,n2,hd2⟩:=id p2;simp only at hc hd cG hd2;subst hc hd cG hd2
 exact GY ⟨_,ho,rfl⟩ ⟨_,dG,rfl⟩ wa Oa M9 F9 (A9 _ _)
  (tuple_addW0 a b [].toArray xK.toArray n n2 dd eH sl vH rfl) ⟨ho,dG,⟨.ref b,H,I,rfl,q⟩⟩
def Kv(h:bC .Sub d e=some w):∃i j,d=.int i/\e=.int j/\w=.sh (.int (i-j)):=by
 induction d using D.casesOn with
 |int=>induction e using D.casesOn with
  |int=>cases h;exact⟨_,_,rfl,rfl,rfl⟩
  |_=>exact(pB h).elim
 |_=>exact(pB h).elim
def Gv(h:bC .FloorDiv d e=some w):∃i j,d=.int i/\e=.int j/\(0<j/\j<100000000000000000000000000000000000000000000000000000000000000000000000000000000)/\w=.sh (.int (i / j)):=by
 induction d using D.casesOn with
 |int=>induction e using D.casesOn with
  |int =>
   change @ite _ _ (cl _) _ none=_ at h;split at h
   ·rename_i hc;cases h;exact⟨_,_,rfl,rfl,hc,rfl⟩
   ·cases h
  |_=>exact(pB h).elim
 |_=>exact(pB h).elim
def Iv(h:bC .Mod d e=some w):∃i j,d=.int i/\e=.int j/\0<j/\w=.sh (.int (i % j)):=by
 induction d using D.casesOn with
 |int=>induction e using D.casesOn with
  |int =>
   change @ite _ _ (cl _) _ none=_ at h;split at h
   ·rename_i hc;cases h;exact⟨_,_,rfl,rfl,hc,rfl⟩
   ·cases h
  |_=>exact(pB h).elim
 |_=>exact(pB h).elim
def Hv(h:bC .LShift d e=some w):∃i j,d=.int i/\e=.int j/\Jb i j/\w=.sh (.int (i*2 ^ j.toNat)):=by
 induction d using D.casesOn with
 |int=>induction e using D.casesOn with
  |int =>
   change @ite _ _ (cl _) _ none=_ at h;split at h
   ·rename_i hc;cases h;exact⟨_,_,rfl,rfl,⟨hc.1,by omega,hc.2.2⟩,rfl⟩
   ·cases h
  |_=>exact(pB h).elim
 |_=>exact(pB h).elim
def Jv(h:bC .RShift d e=some w):∃i j,d=.int i/\e=.int j/\0<=j/\w=.sh (.int (i / 2 ^ j.toNat)):=by
 induction d using D.casesOn with
 |int=>induction e using D.casesOn with
  |int =>
   change @ite _ _ (cl _) _ none=_ at h;split at h
   ·rename_i hc;cases h;exact⟨_,_,rfl,rfl,hc,rfl⟩
   ·cases h
  |_=>exact(pB h).elim
 |_=>exact(pB h).elim
def Fv(h:bC .BitAnd d e=some w):∃i j,d=.int i/\e=.int j/\w=.sh (.int (gU i j)):=by
 induction d using D.casesOn with
 |int=>induction e using D.casesOn with
  |int=>cases h;exact⟨_,_,rfl,rfl,rfl⟩
  |_=>exact(pB h).elim
 |_=>exact(pB h).elim
theorem OB.MC{n:Nat}{ds:List D}{x:V}(h:OB K H G (.MC n ds) x)(sub:XA G H):∃a ws vs,x=.ref a/\zB K H a ws/\Fm n ws vs/\jA K G ds vs:=by
 rcases h with h | ⟨_,_,h⟩
 ·simp only[oA] at h;obtain⟨a,ws,vs,rfl,h1,p,h2⟩:=h;exact⟨a,ws,vs,rfl,sub.seq h1,p,h2⟩
 ·exact h.elim
def TU{f:Int->Int->Int}(h:OC X (fF op) (rI P λi j=>.int (f i j)))(I:fA X aA Y H s)(rx:aAc x v)(ry:aAc y u)(hx:OB X.K H G d x)(hy:OB X.K H G e y)(k:∀z H',aAE X.K H G w z H'->Q z H')(z:∃i j,d=.int i/\e=.int j/\P i j/\w=.sh (.int (f i j))) :
  rA (model X.prog X.w) X.A (fF op v u) (EP X aA Y Q) X.xe s:=by
 obtain⟨i,j,rfl,rfl,hp,rfl⟩:=z;exact h aA s Y H x y v u Q I rx ry ⟨i,j,hx.int,hy.int,hp,k _ _ aAk⟩
def Bc{f:Int->Int->Int}(h:OC X (fF op) (CK λi j=>.int (f i j)))(I:fA X aA Y H s)(rx:aAc x v)(ry:aAc y u)(hx:OB X.K H G d x)(hy:OB X.K H G e y)(k:∀z H',aAE X.K H G w z H'->Q z H')(z:∃i j,d=.int i/\e=.int j/\w=.sh (.int (f i j))) :
  rA (model X.prog X.w) X.A (fF op v u) (EP X aA Y Q) X.xe s:=by
 obtain⟨i,j,rfl,rfl,rfl⟩:=z;exact h aA s Y H x y v u Q I rx ry ⟨i,j,hx.int,hy.int,k _ _ aAk⟩
def Qv(hK:X.K=K)(op:DN):OC X (fF op) (oSa K op):=by
 intro aA s Y H x y v u Q I rx ry h;obtain⟨G,d,e,w,sub,hx,hy,hm,eb,k⟩:=h;subst hK
 cases op with
 |Add =>
  induction d using D.casesOn with
  |int =>
   induction e using D.casesOn with
   |int =>
    cases hx.int;cases hy.int;change some _=_ at eb;cases eb;exact aNa aA s Y H _ _ _ _ Q I rx ry ⟨_,_,rfl,rfl,k _ _ aAk⟩
   |_=>exact(pB eb).elim
  |l xs =>
   induction e using D.casesOn with
   |l ys =>
    change (if iB (xs.length+ys.length) then some _ else none)=_ at eb;split at eb
    ·rename_i hz;cases eb;obtain⟨a,vs,rfl,h1,h2⟩:=hx.l sub;obtain⟨b,ws,rfl,h3,h4⟩:=hy.l sub;refine yj aA s Y H _ _ _ _ Q I rx ry ⟨a,b,vs,ws,rfl,rfl,h1,h3, ?_,λp hp=>k _ _ (.inr (.inl ⟨_,_,p,rfl,hp,h2.app h4,rfl,rfl⟩))⟩;rw[h2.len,h4.len];exact DK hz
    ·cases eb
   |_=>exact(pB eb).elim
  |MC n xs =>
   induction e using D.casesOn with
   |l ys =>
    change (if iB (n+ys.length) then some _ else none)=_ at eb;split at eb
    ·rename_i hz;cases eb;obtain⟨a,vs,ds,rfl,h1,⟨hn,hm⟩,h2⟩:=hx.MC sub;obtain⟨b,ws,rfl,h3,h4⟩:=hy.l sub;refine yj aA s Y H _ _ _ _ Q I rx ry ⟨a,b,vs,ws,rfl,rfl,h1,h3, ?_,λp hp=>k _ _ (.inr (.inr (.inr ⟨_,p,_,rfl,hp,rfl,rfl,λG' sm hg=>?_⟩)))⟩
     ·rw[hn,h4.len];exact DK hz
     ·simp only[oA];refine⟨p,vs++ws,ds++ws,rfl,zB.of hg,⟨by rw[kC,hn,h4.len],λe he=>?_⟩,(h2.mono sm).app (h4.mono sm)⟩;rcases dE.mp he with he | he
      ·exact XI _ (hm e he)
      ·exact FH _ he
    ·cases eb
   |_=>exact(pB eb).elim
  |t xs =>
   cases xs with
   |nil =>
    induction e using D.casesOn with
    |t r9 =>
     change some _=_ at eb;cases eb;have oO:=hy;obtain⟨a,vs,rfl,h1,h2⟩:=hx.t sub;obtain⟨b,ws,rfl,h3,h4⟩:=hy.t sub;have e1:vs=[]:=J9.mp h2.len;subst e1;refine cNa aA s Y H _ _ _ _ Q I rx ry ⟨a,b,ws,rfl,rfl,h1,h3, ?_⟩;rcases oO with oO | ⟨_,_,oO⟩
     ·exact k _ _ (.inl ⟨_,rfl,oO,rfl⟩)
     ·exact oO.elim
    |_=>exact(pB eb).elim
   |cons x0 xs0 =>
    induction e using D.casesOn with
    |t r9 =>
     change (if iB (xs0.length+1+r9.length) then some _ else none)=_ at eb;split at eb
     ·rename_i hz;cases eb;have PM:=hx;obtain⟨a,vs,rfl,h1,h2⟩:=hx.t sub;obtain⟨b,ws,rfl,h3,h4⟩:=hy.t sub;have e1:=h2.len;have e2:=h4.len;refine dNa aA s Y H _ _ _ _ Q I rx ry ⟨a,b,vs,ws,rfl,rfl,h1,h3, ?_, ?_,λhw=>?_,λhw p hp=>?_⟩
      ·intro z;subst z;simp at e1
      ·rw[e1,e2];exact DK hz
      ·subst hw;have e3:r9=[]:=J9.mp e2.symm;subst e3;rcases PM with PM | ⟨_,_,PM⟩
       ·exact k _ _ (.inl ⟨_,rfl,by simpa using PM,rfl⟩)
       ·exact PM.elim
      ·exact k _ _ (CW ⟨_,_,p,rfl,hp,h2.app h4,rfl,rfl⟩)
     ·cases eb
    |_=>exact(pB eb).elim
  |_=>exact(pB eb).elim
 |Sub=>exact Bc rNa I rx ry hx hy k (Kv eb)
 |Mult =>
  induction d using D.casesOn with
  |int =>
   induction e using D.casesOn with
   |int =>
    cases hx.int;cases hy.int;change @ite _ _ (cl _) _ none=_ at eb;split at eb
    ·cases eb;exact mNa aA s Y H _ _ _ _ Q I rx ry ⟨_,_,rfl,rfl,‹_›,k _ _ aAk⟩
    ·cases eb
   |_=>exact(pB eb).elim
  |l xs =>
   induction e using D.casesOn with
   |int kk =>
    change @ite _ (-(2 ^ 31)<=kk/\kk<=1000/\iB (xs.length*kk.toNat)) (cl _) _ none=_ at eb;split at eb
    ·rename_i hc;cases eb;cases hy.int;obtain⟨a,vs,rfl,h1,h2⟩:=hm rfl _ rfl;refine oNa aA s Y H _ _ _ _ Q I rx ry ⟨a,_,vs,rfl,rfl,h1,by omega,by omega, ?_,λp hp=>k _ _ (.inr (.inl ⟨_,_,p,rfl,hp,h2.rep _,rfl,rfl⟩))⟩;rw[h2.len];exact DK hc.2.2
    ·cases eb
   |_=>exact(pB eb).elim
  |_=>exact(pB eb).elim
 |FloorDiv=>exact TU eNa I rx ry hx hy k (Gv eb)
 |Mod=>exact TU lNa I rx ry hx hy k (Iv eb)
 |Pow=>exact(pB eb).elim
 |LShift=>exact TU pNa I rx ry hx hy k (Hv eb)
 |RShift=>exact TU qNa I rx ry hx hy k (Jv eb)
 |BitAnd=>exact Bc bNa I rx ry hx hy k (Fv eb)
 |BitOr=>exact(pB eb).elim
 |_=>exact(pB eb).elim
def CT(K:iA)(op:RG):R2:=λx y H Q=>∃G d e b,XA G H/\OB K H G d x/\OB K H G e y/\PB op d e=some b/\Q (.bl b) H
def KP(h:oA K G d x)(f:OD d=true):eK x=true/\∀(e:D) (y:V),oA K G e y->OD e=true->iL y x=JF e d:=by
 cases d<;>simp only[OD,OJ] at f<;>simp only[oA] at h
 ·subst h;refine⟨rfl,λe y hy fe=>?_⟩;cases e<;>simp only[OD,OJ] at fe<;>simp only[oA] at hy<;>(first | subst hy | (obtain⟨rfl,_⟩:=hy))<;>rfl
 ·subst h;refine⟨rfl,λe y hy fe=>?_⟩;cases e<;>simp only[OD,OJ] at fe<;>simp only[oA] at hy<;>(first | subst hy | (obtain⟨rfl,_⟩:=hy))<;>rfl
 ·subst h;refine⟨rfl,λe y hy fe=>?_⟩;cases e<;>simp only[OD,OJ] at fe<;>simp only[oA] at hy<;>(first | subst hy | (obtain⟨rfl,_⟩:=hy))<;>rfl
 ·obtain⟨rfl,_⟩:=h;refine⟨rfl,λe y hy fe=>?_⟩;cases e<;>simp only[OD,OJ] at fe<;>simp only[oA] at hy<;>(first | subst hy | (obtain⟨rfl,_⟩:=hy))<;>rfl
def OB.flat(h:OB K H G d x)(f:OD d=true):oA K G d x:=by
 rcases h with h | ⟨a,rfl,h⟩
 ·exact h
 ·cases d<;>first | exact h.elim | cases f
theorem JS(h:oA K G d x)(f:OD d=true):∀{ds:List D} {vs:List V},jA K G ds vs->ds.all OD=true->vs.all eK=true/\pW x vs=inD d ds
 |[],vs,h2,_=>by simp only[jA] at h2;subst h2;exact⟨rfl,rfl⟩
 |e::ds,vs,h2,fs=>by
  simp only[jA] at h2;obtain⟨y,r,rfl,h3,h4⟩:=h2;rw[vC,nB] at fs;obtain⟨a1,a2⟩:=JS h f h4 fs.2;obtain⟨b1,_⟩:=KP h3 fs.1;have b2:=(KP h f).2 e y h3 fs.1;refine⟨by rw[vC,b1,a1];rfl, ?_⟩
  unfold pW inD at *
  rw[dP,dP,a2,b2]
def Kk(I:fA X aA Y H s)(hK:X.K=K)(sub:XA G H)(hu:A.units+20<cLine)(od:sC 20 d=true)(oe:sC 20 e=true)(hx:OB K H G d x)(hy:OB K H G e y)(rx:aAc x v)(ry:aAc y u) :
  SeqAt.RcAt A s v u (JF d e)/\SeqAt.RcNeAt A s v u (!JF d e):=by
 obtain⟨as,a1,a2,a3⟩:=Nk I hK sub 20 d x v od hx rx;obtain⟨bs,b1,b2,b3⟩:=Nk I hK sub 20 e y u oe hy ry;rw[<- je 20 d e od oe];exact⟨xa a1 b1 a2 b2 (by lia),SeqAt.rcNeAt_reads a1 b1 a2 b2 (by lia)⟩
def yCa:∀{ns:List Int},rE ds=some ns->ds=ns.map D.int:=by
 induction ds with
 |nil=>intro ns h;cases h;rfl
 |cons d r ih =>
  intro ns h
  induction d using D.casesOn with
  |int i =>
   replace h:(rE r).map (i :: ·)=some ns:=h
   cases q:rE r with
   |none=>rw[q] at h;cases h
   |some ms =>
    rw[q] at h;cases h;rw[AB,<- ih q]
  |_=>cases h
theorem jA.ints:∀{ns:List Int} {vs:List V},jA K G (ns.map D.int) vs->vs=ns.map V.int
 |[],vs,h=>by simp only[RI,jA] at h;exact h
 |n::ns,vs,h=>by(simp only[AB,jA] at h;obtain⟨v,r,rfl,h1,h2⟩:=h;simp only[oA] at h1;rw[h1,jA.ints h2];rfl)
def Al(h:yJ d=some k):d=eA k:=by
 induction d using D.casesOn with
 |t l =>
  obtain _ | ⟨a,_ | ⟨b,_ | ⟨_,_⟩⟩⟩:=l
  ·exact ZM h
  ·exact ZM h
  ·induction a using D.casesOn with
   |int t =>
    induction b using D.casesOn with
    |t ds =>
     obtain⟨ns,q,rfl⟩:=AF.mp h;rw[yCa q];rfl
    |_=>exact ZM h
   |_=>exact ZM h
  ·exact ZM h
 |_=>exact ZM h
def iVa(h:VD d=some k):d=zM k:=by
 obtain⟨x,h1,rfl⟩:=AF.mp h;exact Al h1
def Dl(h:oA K G (eA k) x):∃b,x=.ref b/\wI K G k b:=by
 simp only[eA,oA,jA] at h;obtain⟨a,vs,rfl,h1,v1,r1,rfl,rfl,v2,r2,rfl,⟨c,ws,rfl,h2,h3⟩,rfl⟩:=h;rw[jA.ints h3] at h2;exact⟨a,rfl,c,h1,h2⟩
def qQ(hk:VD d=some k)(h:OB K H G d x):∃b,x=.ref b/\aC K G k b:=by
 rw[iVa hk] at h;rcases h with h | ⟨_,_,h⟩
 ·exact Dl h
 ·exact h.elim
theorem Xk:∀(ns:List Int),jA K G (ns.map D.int) (ns.map V.int)
 |[]=>jA.nil
 |n::ns=>jA.cons (by simp only[oA]) (Xk ns)
def fTa(h:wI K G k b):oA K G (eA k) (.ref b):=by
 obtain⟨c,h1,h2⟩:=h;simp only[eA,oA];exact⟨b,_,rfl,h1,jA.cons (by simp only[oA]) (jA.cons (by simp only[oA];exact⟨c,_,rfl,h2,Xk _⟩) jA.nil)⟩
def Rk{k:JB}{b:kA}(h:aC K G k b):oA K G (zM k) (.ref b):=fTa h
theorem Wk:∀{xs:iE},(∀x∈xs,aC K G x.1 x.2.1)->jA K G ((xs.map (·.1)).map zM) (xs.map λx=>.ref x.2.1)
 |[],_=>jA.nil
 |x::xs,h=>jA.cons (Rk (h x (.head _))) (Wk λy hy=>h y (.tail _ hy))
theorem OB.FG(h:OB K H G (.FG ks ds) x)(sub:XA G H):∃a vs,x=.ref a/\H a=some (.dK (fL ks vs))/\jA K G ds vs/\ks.length=ds.length:=by
 rcases h with h | ⟨_,_,h⟩
 ·simp only[oA] at h;obtain⟨a,vs,rfl,h1,h2⟩:=h;exact⟨a,vs,rfl,sub _ _ h1,h2⟩
 ·exact h.elim
theorem X6(k:Int):∀{ks:List Int} {ds:List D} {vs:List V},jA K G ds vs->ks.length=ds.length->(kI (fL ks vs) (.inl k)=none/\FL ks ds k=none)\/∃d v,kI (fL ks vs) (.inl k)=some v/\FL ks ds k=some d/\oA K G d v
 |[],_,_,_,_=>.inl ⟨rfl,rfl⟩
 |a::ks,[],_,_,z=>by cases z
 |a::ks,d::ds,_,h,z=>by
  simp only[jA] at h;obtain⟨v,r,rfl,h1,h2⟩:=h;have ih:=X6 k h2 (Tr z);by_cases e:a=k
  ·exact .inr ⟨d,v,Ko (p:=(Sum.inl a,v)) (r:=fL ks r) (congrArg Sum.inl e),by simp[FL,e],h1⟩
  ·have e1:kI (fL (a::ks) (v::r)) (.inl k)=kI (fL ks r) (.inl k):=Jo (p:=(Sum.inl a,v)) (r:=fL ks r) (λz=>e (BN z));have e2:FL (a::ks) (d::ds) k=FL ks ds k:=by simp[FL,e]
   rw[e1,e2];exact ih
def nIa(h:jA K G ds vs)(z:ks.length=ds.length):(kI (fL ks vs) (.inl k)).isSome=(FL ks ds k).isSome:=by
 rcases X6 k h z with ⟨h1,h2⟩ | ⟨d,v,h1,h2,_⟩<;>rw[h1,h2]<;>rfl
abbrev eL(K:iA)(G:Hp)(ks:List JB)(ds:List D)(xs:iE):Prop:=xs.map (·.1)=ks/\∃vs,aAb vs (xs.map (·.2.2))/\jA K G ds vs
theorem OB.ZA(h:OB K H G (.ZA ks ds) x)(sub:XA G H):∃a xs,x=.ref a/\DS K H a xs/\eL K G ks ds xs/\∀x∈xs,aC K G x.1 x.2.1:=by
 have go:∀{a xs vs},nP H a xs->qM K G a ks vs xs->jA K G ds vs->DS K H a xs/\eL K G ks ds xs/\∀x∈xs,aC K G x.1 x.2.1:=λh1 h2 h3=>⟨⟨h1,h2.1,h2.2.1,h2.2.2.1,λx hx=>aC.mono sub (h2.2.2.2.1 x hx)⟩,⟨h2.2.2.2.2.1,_,h2.2.2.2.2.2,h3⟩,h2.2.2.2.1⟩
 rcases h with h | ⟨a,rfl,xs,vs,h1,h2,h3⟩
 ·simp only[oA] at h;obtain⟨a,xs,vs,rfl,⟨ep,h1⟩,h2,h3⟩:=h;exact⟨a,xs,rfl,go ⟨ep,sub _ _ h1⟩ h2 h3⟩
 ·exact⟨a,xs,rfl,go h1 h2 h3⟩
theorem ui:∀{xs:iE} {ks:List JB} {ds:List D},eL K G ks ds xs->(atKey xs k=none/\EL ks ds k=none)\/∃p d v,atKey xs k=some p/\EL ks ds k=some d/\aAc v p.2/\oA K G d v
 |[],_,_,⟨rfl,_⟩=>.inl ⟨rfl,rfl⟩
 |q::xs,_,ds,⟨rfl,vs,h1,h2⟩=>by
  cases h1 with
  | @cons v u vs us h1 t1 =>
   obtain _ | ⟨d,ds⟩:=ds
   ·simp only[jA] at h2;cases h2
   ·simp only[jA] at h2;obtain⟨v',r,e,h3,h4⟩:=h2;cases e;have ih:=ui (k:=k) (ks:=xs.map (·.1)) ⟨rfl,_,t1,h4⟩;unfold atKey EL at ih ⊢;rw[AB,YL,yN,yN];by_cases e:q.1=k
    ·rw[kB e];exact .inr ⟨_,_,_,rfl,rfl,h1,h3⟩
    ·rw[VA e];exact ih
theorem uZ:∀(xs:iE),(atKey xs k).isSome=EI (xs.map (·.1)) k
 |[]=>rfl
 |q::xs=>by
  have ih:=uZ (k:=k) xs;unfold atKey EI at ih ⊢;rw[AB,yN,dP];by_cases e:q.1=k
  ·rw[kB e];rfl
  ·rw[VA e];exact ih
def vi(r:eL K G ks ds xs)(k:JB):(atKey xs k).isSome=EI ks k:=by rw[<- r.1];exact uZ xs
theorem xk(hv:aAc v u)(hd:oA K G d v):∀{xs:iE} {ds:List D} {vs:List V},aAb vs (xs.map (·.2.2))->jA K G ds vs ->
  (xs.map (putAt k u)).map (·.1)=xs.map (·.1)/\∃ws,aAb ws ((xs.map (putAt k u)).map (·.2.2))/\jA K G (((xs.map (·.1)).zip ds).map λp=>if p.1=k then d else p.2) ws
 |[],ds,vs,h1,h2=>⟨rfl,[],.nil,by simp[jA]⟩
 |q::xs,ds,vs,h1,h2=>by
  cases h1 with
  | @cons v0 u0 vs us h1 t1 =>
   obtain _ | ⟨d0,ds⟩:=ds
   ·simp only[jA] at h2;cases h2
   ·simp only[jA] at h2;obtain⟨v',r,e,h3,h4⟩:=h2;cases e;obtain⟨g1,ws,g2,g3⟩:=xk hv hd t1 h4;rw[AB,AB,AB,AB,YL,AB,g1];unfold putAt;by_cases e:q.1=k
    ·rw[KA e];exact⟨rfl,v::ws,.cons hv g2,jA.cons (by rw[KA e];exact hd) g3⟩
    ·rw[if_neg e];exact⟨rfl,_::ws,.cons h1 g2,jA.cons (by rw[if_neg e];exact h3) g3⟩
def aAb.snoc(h:aAb vs us)(hv:aAc v u):aAb (vs++[v]) (us++[u]):=h.append (.cons hv .nil)
def yk(r:eL K G ks ds xs)(hv:aAc v u)(hd:oA K G d v):eL K G (IG ks k) (tF ks ds k d) (storedH xs k b u):=by
 obtain⟨rfl,vs,h1,h2⟩:=r;unfold IG tF storedH;rw[<- uZ xs];split
 ·exact xk hv hd h1 h2
 ·refine⟨by rw[UB];rfl,_, ?_,jA.app h2 (jA.cons hd jA.nil)⟩;rw[UB];exact aAb.snoc h1 hv
def Sk(h:OB K H G d x):decide (x=.pA)=i7 d:=by
 rcases h with h | ⟨a,rfl,h⟩
 ·induction d using D.casesOn with
  |pA=>simp only[oA] at h;subst h;rfl
  |bl=>simp only[oA] at h;subst h;rfl
  |int=>simp only[oA] at h;subst h;rfl
  |str=>simp only[oA] at h;rw[h.1];rfl
  |t=>simp only[oA] at h;obtain⟨a,_,rfl,_⟩:=h;rfl
  |l=>simp only[oA] at h;obtain⟨a,_,rfl,_⟩:=h;rfl
  |_=>simp only[oA] at h;first | exact h.elim | (obtain⟨_,h⟩:=h;first | (obtain⟨rfl,_⟩:=h;rfl) | (obtain⟨_,h⟩:=h;first | (obtain⟨rfl,_⟩:=h;rfl) | (obtain⟨_,h⟩:=h;first | (obtain⟨rfl,_⟩:=h;rfl) | (obtain⟨_,rfl,_⟩:=h;rfl))))
 ·induction d using D.casesOn with
  |pA=>exact h.elim
  |_=>rfl
def hDa(h:Z5 q d=some b):∃p,d=.bl p/\b=(p==q):=by
 induction d using D.casesOn with
 |bl p=>cases h;exact⟨p,rfl,rfl⟩
 |_=>exact(pB h).elim
def tIa(h:PB .Lt d e=some b):∃i j,d=.int i/\e=.int j/\b=decide (i<j):=by
 cases d with
 |int=>cases e with
  |int=>cases h;exact⟨_,_,rfl,rfl,rfl⟩
  |_=>exact(pB h).elim
 |_=>exact(pB h).elim
def pHa(h:PB .LtE d e=some b):∃i j,d=.int i/\e=.int j/\b=decide (i<=j):=by
 cases d with
 |int=>cases e with
  |int=>cases h;exact⟨_,_,rfl,rfl,rfl⟩
  |_=>exact(pB h).elim
 |_=>exact(pB h).elim
def X_(h:PB .Gt d e=some b):∃i j,d=.int i/\e=.int j/\b=decide (j<i):=by
 induction d using D.casesOn with
 |int=>induction e using D.casesOn with
  |int=>cases h;exact⟨_,_,rfl,rfl,rfl⟩
  |_=>exact(pB h).elim
 |_=>exact(pB h).elim
def N_(h:PB .GtE d e=some b):∃i j,d=.int i/\e=.int j/\b=decide (j<=i):=by
 induction d using D.casesOn with
 |int=>induction e using D.casesOn with
  |int=>cases h;exact⟨_,_,rfl,rfl,rfl⟩
  |_=>exact(pB h).elim
 |_=>exact(pB h).elim
def Fy{d e:D}{b:Bool}(h:YR d e=some b):∃ks ds es,d=.ZA ks ds/\e=.ZA [] es/\b=ks.isEmpty:=by
 unfold YR at h;split at h
 ·cases h;exact⟨_,_,_,rfl,rfl,rfl⟩
 ·cases h
def cV{f:Int->Int->Bool}(h:OC X (gE op) (λx y H Q=>∃i j,x=.int i/\y=.int j/\Q (.bl (f i j)) H))(I:fA X aA Y H s)(rx:aAc x v)(ry:aAc y u)(hx:OB K H G d x)(hy:OB K H G e y)(k:Q (.bl b) H)(z:∃i j,d=.int i/\e=.int j/\b=f i j) :
  rA (model X.prog X.w) X.A (gE op v u) (EP X aA Y Q) X.xe s:=by
 obtain⟨i,j,rfl,rfl,rfl⟩:=z;exact h aA s Y H x y v u Q I rx ry ⟨i,j,hx.int,hy.int,k⟩
def FP(hK:X.K=K)(hu:X.A.units+64<cLine)(op:RG):OC X (gE op) (CT K op):=by
 intro aA s Y H x y v u Q I rx ry h;obtain⟨G,d,e,b,sub,hx,hy,eb,k⟩:=h
 cases op with
 |Eq =>
  change (if sC 20 d&&sC 20 e then some _ else YR d e)=_ at eb;split at eb
  ·rename_i hc;cases eb;rw[nB] at hc;exact(Kk I hK sub (by lia) hc.1 hc.2 hx hy rx ry).1 _ _ _ _ ⟨.bl _,H,I,rfl,k⟩
  ·obtain⟨ks,ds,es,rfl,rfl,rfl⟩:=Fy eb;subst hK;obtain⟨a,zs,rfl,h1,⟨h2,_⟩,_⟩:=hx.ZA sub;obtain⟨c,ys,rfl,h3,⟨h4,_⟩,_⟩:=hy.ZA sub;cases Cq.mp h4;cases rx;cases ry;obtain⟨p,e1⟩:=h1.at_;obtain⟨q,e2⟩:=h3.at_;refine Gy (xs:=zs) (by lia) h1.sm h3.sm (show lD X.prog X.w H s.heap a (.ext (BB a zs p)) from I.RA a _ e1).1 (show lD X.prog X.w H s.heap c (.ext (BB c [] q)) from I.RA c _ e2).1 ⟨.bl _,H,I,rfl, ?_⟩;rw[show zs.isEmpty=ks.isEmpty from by rw[<- h2,List.isEmpty_map]];exact k
 |NotEq =>
  change (if sC 20 d&&sC 20 e then some _ else none)=_ at eb;split at eb
  ·rename_i hc;cases eb;rw[nB] at hc;exact(Kk I hK sub (by lia) hc.1 hc.2 hx hy rx ry).2 _ _ _ _ ⟨.bl _,H,I,rfl,k⟩
  ·cases eb
 |Lt =>
  exact cV kNa I rx ry hx hy k (tIa eb)
 |LtE =>
  exact cV jNa I rx ry hx hy k (pHa eb)
 |Gt=>exact cV gNa I rx ry hx hy k (X_ eb)
 |GtE=>exact cV fNa I rx ry hx hy k (N_ eb)
 |Is =>
  induction e using D.casesOn with
  |pA =>
   cases hy.pA;change some _=_ at eb;cases eb;refine iNa aA s Y H _ _ _ _ Q I rx ry ⟨rfl, ?_⟩;rw[Sk hx];exact k
  |bl q =>
   obtain⟨p,rfl,rfl⟩:=hDa (show Z5 q d=_ from eb);cases hx.bl;cases hy.bl;cases rx;cases ry;exact is_bool ⟨.bl _,H,I,rfl,k⟩
  |_=>exact(pB eb).elim
 |IsNot =>
  induction e using D.casesOn with
  |pA =>
   cases hy.pA;change some _=_ at eb;cases eb;refine nNa aA s Y H _ _ _ _ Q I rx ry ⟨rfl, ?_⟩;rw[Sk hx];exact k
  |_=>exact(pB eb).elim
 |In =>
  induction e using D.casesOn with
  |t ds =>
   change (if OD d&&ds.all OD then some _ else none)=_ at eb;split at eb
   ·rename_i hc;cases eb;rw[nB] at hc;obtain⟨a,vs,rfl,h1,h2⟩:=hy.t sub;obtain⟨i1,i2⟩:=JS (hx.flat hc.1) hc.1 h2 hc.2;refine zj aA s Y H _ _ _ _ Q I rx ry ⟨a,vs,rfl,.inr (hK ▸ h1),(KP (hx.flat hc.1) hc.1).1,i1, ?_⟩;simpa[i2] using k
   ·cases eb
  |l ds =>
   change (if OD d&&ds.all OD then some _ else none)=_ at eb;split at eb
   ·rename_i hc;cases eb;rw[nB] at hc;obtain⟨a,vs,rfl,h1,h2⟩:=hy.l sub;obtain⟨i1,i2⟩:=JS (hx.flat hc.1) hc.1 h2 hc.2;refine zj aA s Y H _ _ _ _ Q I rx ry ⟨a,vs,rfl,.inl (hK ▸ h1),(KP (hx.flat hc.1) hc.1).1,i1, ?_⟩;simpa[i2] using k
   ·cases eb
  |FG ks es =>
   change wg d ks es=_ at eb
   induction d using D.casesOn with
   |int i =>
    change some _=_ at eb;cases eb;obtain⟨a,vs,rfl,h1,h2,h3⟩:=hy.FG sub;cases hx.int;cases ry;refine Px (by lia) I (pM.k (k:=Sum.inl i) h1) rx λs3 I3=>⟨.bl _,H,I3,rfl, ?_⟩
    rw[nIa h2 h3];exact k
   |_=>exact(pB eb).elim
  |ZA ks es =>
   change kQ d ks=_ at eb;unfold kQ at eb
   cases hs:VD d with
   |none=>rw[hs] at eb;cases eb
   |some k0 =>
    rw[hs] at eb;cases eb;subst hK;obtain⟨b0,rfl,kk⟩:=qQ hs hx;obtain⟨a,xs,rfl,ds,pr,_⟩:=hy.ZA sub;cases rx;cases ry;refine kUa (by lia) I ds (aC.mono sub kk) λs3 I3=>⟨.bl _,H,I3,rfl, ?_⟩
    rw[vi pr];exact k
  |_=>exact(pB eb).elim
 |NotIn =>
  induction e using D.casesOn with
  |t ds =>
   change (if OD d&&ds.all OD then some _ else none)=_ at eb;split at eb
   ·rename_i hc;cases eb;rw[nB] at hc;obtain⟨a,vs,rfl,h1,h2⟩:=hy.t sub;obtain⟨i1,i2⟩:=JS (hx.flat hc.1) hc.1 h2 hc.2;refine Aj aA s Y H _ _ _ _ Q I rx ry ⟨a,vs,rfl,.inr (hK ▸ h1),(KP (hx.flat hc.1) hc.1).1,i1, ?_⟩;simpa[i2] using k
   ·cases eb
  |l ds =>
   change (if OD d&&ds.all OD then some _ else none)=_ at eb;split at eb
   ·rename_i hc;cases eb;rw[nB] at hc;obtain⟨a,vs,rfl,h1,h2⟩:=hy.l sub;obtain⟨i1,i2⟩:=JS (hx.flat hc.1) hc.1 h2 hc.2;refine Aj aA s Y H _ _ _ _ Q I rx ry ⟨a,vs,rfl,.inl (hK ▸ h1),(KP (hx.flat hc.1) hc.1).1,i1, ?_⟩;simpa[i2] using k
   ·cases eb
  |ZA ks es =>
   change (kQ d ks).map (!·)=_ at eb;unfold kQ at eb
   cases hs:VD d with
   |none=>rw[hs] at eb;cases eb
   |some k0 =>
    rw[hs] at eb;cases eb;subst hK;obtain⟨b0,rfl,kk⟩:=qQ hs hx;obtain⟨a,xs,rfl,ds,pr,_⟩:=hy.ZA sub;cases rx;cases ry;refine nUa (by lia) I ds (aC.mono sub kk) λs3 I3=>⟨.bl _,H,I3,rfl, ?_⟩
    rw[vi pr];exact k
  |_=>exact(pB eb).elim
end
section
variable{X:Cx}{K:iA}{aA:List (kA×IB)}{Y:St}{H G:Hp}{s:zA}
def vc(h:jA K G ds vs)(e:qC ds i=some d):∃v,qC vs i=some v/\oA K G d v:=by
 unfold qC at e ⊢;rw[h.len]
 cases q:eG ds.length i with
 |none=>rw[q] at e;cases e
 |some j =>
  rw[q] at e;exact h.get e
def sSa(K:iA):R2:=λx y H Q=>∃G d e r,XA G H/\OB K H G d x/\OB K H G e y/\XS d e=some r/\∀z,oA K G r z->Q z H
def YF.imp(h:YF X r)(w:∀x y H Q,r' x y H Q->r x y H Q):YF X r':=λva sl aA s Y H x y v u Q I rx ry q hs=>h va sl aA s Y H x y v u Q I rx ry (w x y H Q q) hs
def aXa(h:gP x=true)(e:qC x.cps.toList i=some c):gP ⟨#[c]⟩=true:=by
 unfold gP at *
 have hm:c∈x.cps.toList:=by
  unfold qC at e
  cases q:eG x.cps.toList.length i with
  |none=>rw[q] at e;cases e
  |some j=>rw[q] at e;exact VE e
 have:=Array.all_eq_true'.mp h c (by simpa using hm)
 simpa using this
def tSa:R2:=λx y H Q=>∃a v,x=.ref a/\pM H a y (some v)/\Q v H
def hEa(hu:X.A.units+1<cLine):YF X tSa:=by
 intro value slice aA s Y H x y v u Q I rx ry h hs;obtain⟨a,z,rfl,g,q⟩:=h;cases rx;have hT:=Yx I g;unfold subscriptTail;refine gA ?_;rw[lq hT.not_modules];refine gA (mU hT yp.lookup ?_)
 have fin:rA (model X.prog X.w) X.A (subscripted slice false (.ref a) u) (λr s₃=>rA (model X.prog X.w) X.A (letTemporaryGo value (.ref a) r>>=λ_=>pure r) (EP X aA Y Q) X.xe s₃) X.xe s:=by(rw[hs];exact wpAny_operating (Ox hu I g ry λw' s3 I3 dI=>gA (wq (EA ⟨z,H,I3,dI,q⟩))))
 first
  |exact EA (gA fin)
  |exact gA (EA (gA fin))
  |exact gA fin
def eX(K:iA):R2:=λx y H Q=>∃a b xs k p v,x=.ref a/\y=.ref b/\DS K H a xs/\aC K H k b/\atKey xs k=some p/\aAc v p.2/\Q v H
def DS.typeIs(I:fA X aA Y H s)(d:DS X.K H a xs):s.TypeIs (.ref a) "dict":=by
 obtain⟨o,es,ep,h1,h2,_⟩:=d.dict I;exact⟨o,h1,h2.1⟩
def iEa(hu:X.A.units+11<cLine):YF X (eX X.K):=by
 intro value slice aA s Y H x y v u Q I rx ry h hs;obtain⟨a,b,xs,k,p,z,rfl,rfl,ds,kk,e,en,q⟩:=h;cases rx;cases ry;have hT:=DS.typeIs I ds;unfold subscriptTail;refine gA ?_;rw[lq hT.not_modules];refine gA (mU hT yp.lookup ?_)
 have fin:rA (model X.prog X.w) X.A (subscripted slice false (.ref a) (.ref b)) (λr s₃=>rA (model X.prog X.w) X.A (letTemporaryGo value (.ref a) r>>=λ_=>pure r) (EP X aA Y Q) X.xe s₃) X.xe s:=by(rw[hs];exact wpAny_operating (jUa hu I ds kk e λs3 I3=>gA (wq (EA ⟨z,H,I3,en,q⟩))))
 first
  |exact EA (gA fin)
  |exact gA (EA (gA fin))
  |exact gA fin
def kEa(hK:X.K=K)(hu:X.A.units+11<cLine):YF X (sSa K):=by
 refine YF.imp ((mEa.or (hEa (by lia))).or (iEa hu)) λx y H Q h=>?_
 obtain⟨G,d,e,r,sub,hx,hy,er,k⟩:=h;subst hK;unfold XS at er;split at er
 ·cases hy.int;obtain⟨a,vs,rfl,h1,h2⟩:=hx.t sub;obtain⟨v,h3,h4⟩:=vc h2 er;exact .inl (.inl (.inr (.inl ⟨a,vs,_,v,rfl,rfl,h1,h3,k v h4⟩)))
 ·cases hy.int;obtain⟨a,vs,rfl,h1,h2⟩:=hx.l sub;obtain⟨v,h3,h4⟩:=vc h2 er;exact .inl (.inl (.inl ⟨a,vs,_,v,rfl,rfl,h1,h3,k v h4⟩))
 ·rename_i ks es
  cases hs:VD e with
  |none=>rw[hs] at er;cases er
  |some k0 =>
   rw[hs] at er;simp only[UG] at er;obtain⟨b0,rfl,kk⟩:=qQ hs hy;obtain⟨a,xs,rfl,ds,pr,_⟩:=hx.ZA sub;rcases ui (k:=k0) pr with ⟨_,h2⟩ | ⟨p,n,v,h1,h2,h3,h4⟩
   ·rw[h2] at er;cases er
   ·rw[h2] at er;cases er;exact .inr ⟨a,b0,xs,k0,p,v,rfl,rfl,ds,aC.mono sub kk,h1,h3,k _ h4⟩
 ·rename_i ks es i;cases hy.int;obtain⟨a,vs,rfl,h1,h2,h3⟩:=hx.FG sub;rcases X6 i h2 h3 with ⟨_,q⟩ | ⟨d,v,q1,q2,q3⟩
  ·rw[q] at er;cases er
  ·rw[q2] at er;cases er;refine .inl (.inr ⟨a,v,rfl, ?_,k _ q3⟩);have g:=pM.k (k:=Sum.inl i) h1;rw[q1] at g;exact g
 ·split at er
  ·rename_i hz;cases hy.int;obtain⟨rfl,ok⟩:=hx.str
   cases q:qC ‹bA›.cps.toList ‹Int› with
   |none=>rw[q] at er;cases er
   |some c =>
    rw[q] at er;cases er;exact .inl (.inl (.inr (.inr ⟨_,_,c,rfl,rfl,EC hz (by decide),q,k _ (show oA X.K G (.str _) _ by simp only[oA];exact⟨trivial,aXa ok q⟩)⟩)))
  ·cases er
 ·cases er
def Md{lo hi:Option Int}(h:jA K G ds vs):jA K G (aAp ds lo hi) (YJ vs lo hi):=by
 unfold aAp YJ;rw[h.len];exact(h.drop _).take _
def ySa(K:iA):V->Option Int->Option Int->Hp->VK->Prop:=λx lo hi H Q=>∃G d v,XA G H/\OB K H G d x/\lX d lo hi=some v/\∀z H',aAE K H G v z H'->Q z H'
def lVa(hK:X.K=K):VJ X (ySa K):=by
 intro aA s Y H x v vl vu lo hi sl Q I rx hs pl pu h;obtain⟨G,d,r,sub,hx,er,k⟩:=h;subst hK;refine VJ.or kVa pVa aA s Y H x v vl vu lo hi sl Q I rx hs pl pu ?_;unfold lX at er;split at er
 ·cases er;obtain⟨a,vs,rfl,h1,h2⟩:=hx.l sub;exact .inl ⟨a,vs,rfl,h1,λp hp=>k _ _ (.inr (.inl ⟨_,_,p,rfl,hp,Md h2,rfl,rfl⟩))⟩
 ·rename_i ds;cases er;obtain⟨a,vs,rfl,h1,h2⟩:=hx.t sub;refine .inr ⟨a,vs,rfl,h1,λp hp=>k _ _ (CW ⟨_,_,p,rfl,hp,Md h2,rfl,rfl⟩),λhw=>k _ _ (.inl ⟨_,rfl, ?_,rfl⟩)⟩
  have hc:aAp ds lo hi=ds:=by(unfold aAp;rw[<- h2.len,hw.1,hw.2,h2.len,wY,Ya,vN])
  rw[hc];rcases hx with hx | ⟨_,_,hx⟩
  ·exact hx
  ·exact hx.elim
 ·cases er;obtain⟨a,ws,vs,rfl,h1,⟨hn,hm⟩,h2⟩:=hx.MC sub;refine .inl ⟨a,ws,rfl,h1,λp hp=>k _ _ (.inr (.inr (.inr ⟨_,p,_,rfl,hp,rfl,rfl,λG' sm hg=>?_⟩)))⟩;simp only[oA];refine⟨p,_,vs,rfl,zB.of hg,⟨?_,λe he=>hm e (YT (WQ he))⟩,h2.mono sm⟩;unfold YJ aAp;rw[HH,HH,lF,lF,RO,hn]
 ·cases er
def AR(K:iA)(H G:Hp):List D->List V->Prop
 |[],xs=>xs=[]
 |d::ds,xs=>∃x r,xs=x::r/\OB K H G d x/\AR K H G ds r
def uF(h:AR K H G [d] xs):∃x,xs=[x]/\OB K H G d x:=by
 obtain⟨x,r,rfl,h1,h2⟩:=h;cases (show r=[] from h2);exact⟨x,rfl,h1⟩
def Uk(h:AR K H G [d,e] xs):∃x y,xs=[x,y]/\OB K H G d x/\OB K H G e y:=by
 obtain⟨x,r,rfl,h1,h2⟩:=h;obtain⟨y,rfl,h3⟩:=uF h2;exact⟨x,y,rfl,h1,h3⟩
def Bk(K:iA)(f:BI):List V->Hp->VK->Prop:=λxs H Q=>∃G ds v,XA G H/\AR K H G ds xs/\aD f ds=some v/\∀z H',aAE K H G v z H'->Q z H'
noncomputable def NZ:BI->dA
 |.len=>.builtin "len"
 |.abs=>.builtin "abs"
 |.int=>.type "int"
 |.list=>.type "list"
 |.tuple=>.type "tuple"
 |.min=>.builtin "min"
 |.max=>.builtin "max"
 |.all=>.builtin "all"
 |.sorted=>.builtin "sorted"
 |.dict=>.type "dict"
theorem Jc:∀{ds:List D} {vs:List V} {us:List dA} {bs:List Bool},jA K G ds vs->aAb vs us->GF ds=some bs->LSm.BoolsAre us bs
 |[],_,_,_,h,r,e=>by
  simp only[jA] at h;subst h;cases r;cases e;exact .nil
 |d::ds,_,_,_,h,r,e=>by
  simp only[jA] at h;obtain⟨v,r',rfl,h1,h2⟩:=h
  cases r with
  |cons ra rb =>
   cases d<;>simp only[GF,reduceCtorEq] at e;rename_i b
   cases q:GF ds with
   |none=>rw[q] at e;cases e
   |some vw =>
    rw[q] at e;cases e;simp only[oA] at h1;subst h1;cases ra;exact .cons b (Jc h2 rb q)
def Xw(hc:X.A.handled=none):DF X (.builtin "all") (λxs H Q=>∃a vs ds bs G,xs=[.ref a]/\zB X.K H a vs/\jA X.K G ds vs/\GF ds=some bs/\Q (.bl (bs.all id)) H):=by
 intro aA s Y H xs us Q I r h;obtain⟨a,vs,ds,bs,G,rfl,h1,h2,h3,q⟩:=h;obtain⟨u,rfl,rx⟩:=aAt r;cases rx;obtain⟨cA,rv,hl,z⟩:=IT I h1;have hb:=Jc h2 rv h3;have dD:a<s.heap.objs.size:=by obtain⟨_,e,_⟩:=hl;exact mC e
 refine call_all_walk (XQ hl ?_)
 refine⟨s.heap.objs.size,[s.heap.objs.size,a],[s.heap.objs.size],cA.toArray.size,_,_,λi=>(bs[i]?).getD true,rfl,Walks.list (A:=X.A.in1) hc _ a (MD dD) cA.toArray,
  ⟨⟨_,XD _ rfl,rfl,rfl⟩,hl.push _⟩,λi v s' Q' E' hP hQ=>?_,λh' tk hk=>?_⟩
 ·obtain⟨b,e,rfl⟩:=hb.get i v (by simpa using hP);simp only[e,Option.getD_some] at hQ;exact bM hQ
 ·have e:((XB cA.toArray.size).all λi=>(bs[i]?).getD true)=bs.all id:=by
   rw[gD,hb.length];exact LSm.range_all bs
  rw[e];exact⟨.bl _,H,I.kept (t':=tk) (LSm.kept_iter hk),rfl,q⟩
theorem W5:∀{ds:List D} {vs:List V} {us:List dA} {is:List Int},jA K G ds vs->aAb vs us->rE ds=some is->IntsAre us is
 |[],_,_,_,h,r,e=>by
  simp only[jA] at h;subst h;cases r;cases e;exact .nil
 |d::ds,_,_,_,h,r,e=>by
  simp only[jA] at h;obtain⟨v,r',rfl,h1,h2⟩:=h
  cases r with
  |cons ra rb =>
   cases d<;>simp only[rE,reduceCtorEq] at e;rename_i b
   cases q:rE ds with
   |none=>rw[q] at e;cases e
   |some vw =>
    rw[q] at e;cases e;simp only[oA] at h1;subst h1;obtain⟨t,rfl⟩:=ra;exact .cons _ _ (W5 h2 rb q)
def cJa(i:Int):∀(r:List Int),(r.foldl (λm y=>if y > m then y else m) i)∈i::r/\∀a∈i::r,a<=r.foldl (λm y=>if y > m then y else m) i:=by
 intro r
 induction r generalizing i with
 |nil=>exact⟨by simp,λa ha=>by simp at ha;simp;lia⟩
 |cons y r ih =>
  simp only[JK];obtain⟨h1,h2⟩:=ih (if y > i then y else i);refine⟨?_,λa ha=>?_⟩
  ·rcases DC.mp h1 with h | h
   ·rw[h];split
    ·simp
    ·simp
   ·exact WC _ (WC _ h)
  ·have h3:=h2 (if y > i then y else i) (by simp);have h4:i<=(if y > i then y else i):=by split<;>lia
   have h5:y<=(if y > i then y else i):=by split<;>lia
   rcases DC.mp ha with h | h
   ·rw[h];exact Za h4 h3
   ·rcases DC.mp h with h | h
    ·rw[h];exact Za h5 h3
    ·exact h2 a (WC _ h)
def jx(hc:X.calm=true):DF X (.builtin "max") (λxs H Q=>∃a vs ds i r G,xs=[.ref a]/\zB X.K H a vs/\jA X.K G ds vs/\rE ds=some (i::r)/\Q (.int (r.foldl (λm y=>if y > m then y else m) i)) H):=by
 intro aA s Y H xs us Q I r h;obtain⟨a,vs,ds,i,ns,G,rfl,h1,h2,h3,q⟩:=h;obtain⟨u,rfl,rx⟩:=aAt r;cases rx;obtain⟨cA,rv,hl,z⟩:=IT I h1;have hi:=W5 h2 rv h3;obtain⟨xs,e⟩:=hi.allInts.items
 have GI:i::ns=xs.toList.map (·.1):=by(rw[<- hi.numsOf,<- nums_intItems,<- e])
 have vB:0<xs.size:=by
  have h3:0<(i::ns).length:=by simp
  rw[GI,nA,kF] at h3;exact h3
 rw[e] at hl;refine max_intList (I.ok.hd hc) hl vB λv h' tk hv hk=>?_
 obtain⟨t,rfl⟩:=intItems_at hv;obtain⟨k1,k2⟩:=argBest_gt (numAt xs) (xs.size-1)
 have m1:numAt xs (argBest (λi j=>decide (numAt xs i > numAt xs j)) (xs.size-1))∈i::ns:=by(rw[GI,numAt_eq];exact getD_mem (by rw[nA,kF];omega))
 have m2:∀b∈i::ns,b<=numAt xs (argBest (λi j=>decide (numAt xs i > numAt xs j)) (xs.size-1)):=λb ha=>by(rw[GI] at ha;obtain⟨j,hj,rfl⟩:=mem_getD ha;rw[nA,kF] at hj;rw[<- numAt_eq];exact k2 j (by omega))
 obtain⟨m3,m4⟩:=cJa i ns;have e2:numAt xs (argBest (λi j=>decide (numAt xs i > numAt xs j)) (xs.size-1))=ns.foldl (λm y=>if y > m then y else m) i:=Int.le_antisymm (m4 _ m1) (m2 _ m3);refine⟨.int _,H,I.kept hk,⟨t,rfl⟩, ?_⟩;rw[e2];exact q
def Zx(d:kA)(hd:(d==sysModules)=false):MeetsIn P w (EH.«dict.__len__» ⟨[.ref d],[]⟩) (λ_ R s=>∃xs ep,BB d xs ep s.heap/\R (.ok (.ret (.int xs.length s.toks))) { s with toks:=s.toks+1 }):=by
 refine .of_wp λA R s ⟨xs,ep,⟨o,es,ho,hc,TV,hk⟩,h⟩=>?_
 have e:es.size=xs.length:=by rw[<- kF,hk,nA]
 show rA _ _ ((dictEntries d>>=_)>>=_) _ _ s;refine gA (gA (IK ho TV ?_));refine EA (gA (wpAny_pendingCount_other hd (wpAny_ret_mkInt ?_)));rw[Nat.add_zero,e];exact h
def mUa(I:fA X aA Y H s)(d:DS X.K H a xs)(h:∀t s',fA X aA Y H s'->Q (.int xs.length t) s'):rA (model X.prog X.w) X.A (call (.builtin "len") [.ref a]) Q X.xe s:=by
 have hT:=DS.typeIs I d;have z:=d.len;rw[pR] at z;obtain⟨ep,e⟩:=d.at_;have hr:BB a xs ep s.heap:=(show lD X.prog X.w H s.heap a (.ext (BB a xs ep)) from I.RA a _ e).1;refine Calls.call_function_entry kind_len plain_len entry_len (args_len1 _) ?_;unfold EH.«len»
 refine gA (m:=oneArg "len" _) (EA (gA (m:=callSpecial? (.ref a) (yA "__len__")) (QO (name:=yA "__len__") hT mq
  (call_meetsIn mq hT PySem.F.entry_dict_len (PySem.F.args_dict_len_1 _) (Zx a d.sm) ⟨xs,ep,hr, ?_⟩))))
 refine gA (XG (EA (gA (wpAny_letGo ?_))));have h1:¬((xs.length:Nat):Int)<0:=by lia
 have h2:¬((xs.length:Nat):Int) >= 2 ^ 63:=by lia
 show rA _ _ (if((xs.length:Nat):Int)<0 then _ else _) _ _ _;rw[if_neg h1];show rA _ _ (if((xs.length:Nat):Int) >= 2 ^ 63 then _ else _) _ _ _;rw[if_neg h2];exact gA (jb (EA ⟨_,rfl,h _ _ ((I.tok _).tok _)⟩))
def gZa:∀{xs:iE} {us:List dA},us.length=xs.length->(∀(j:Nat) v,us[j]?=some v->∃x,xs[j]?=some x/\v=.ref x.2.1)->aAb (xs.map λx=>V.ref x.2.1) us:=by
 intro xs
 induction xs with
 |nil =>
  intro us h k
  induction us using NC with
  |nil=>exact .nil
  |cons _ _=>cases h
 |cons x xs ih =>
  intro us h k
  induction us using NC with
  |nil=>cases h
  |cons u us =>
   obtain⟨_,e,q⟩:=k 0 u rfl;cases e;exact .cons q (ih (Tr h) λj v e=>k (j+1) v e)
def lUa(hh:X.A.handled=none)(I:fA X aA Y H s)(d:DS X.K H a xs)(h:∀p s',H p=none->fA X aA Y (CA H p (.l (xs.map λx=>V.ref x.2.1))) s'->Q (.ref p) s'):rA (model X.prog X.w) X.A (call (.type "list") [.ref a]) Q X.xe s:=by
 obtain⟨ep,e⟩:=d.at_;refine PySem.W.kdl_call (xGa d.sm) hh (show lD X.prog X.w H s.heap a (.ext (BB a xs ep)) from I.RA a _ e).1 d.len λh' tk nF c' hk hS sf=>?_
 refine h _ _ (I.RA.fresh (jB _)) (I.laid (o:=.l (xs.map λx=>V.ref x.2.1)) (t':=tk) hk (jB _) ⟨?_,nF.toList,c',gZa (by rw[kF];exact sf.1) λj v e=>sf.2 j v (by rw[<- VT];exact e), ?_⟩)
 ·rw[nA];exact d.len
 ·rw[hS]
def yGa{d:D}{p:JB×D}(h:bT d=some p):∃k,d=.t [k,p.2]/\VD k=some p.1:=by
 unfold bT at h;split at h
 ·rename_i k d;obtain⟨q,h1,h2⟩:=AF.mp h;cases h2;exact⟨k,rfl,h1⟩
 ·cases h
theorem Wh(I:fA X aA Y H s)(sub:XA G H):∀{ds:List D} {vs:List V} {us:List dA} {ps:List (JB×D)},jA X.K G ds vs->aAb vs us->SM ds=some ps->∃(ws:List V) (qs:iE),rP X.prog X.w s.heap us qs/\jA X.K G (ps.map (·.2)) ws/\aAb ws (qs.map (·.2.2))/\qs.map (·.1)=ps.map (·.1)/\∀q∈qs,aC X.K G q.1 q.2.1
 |[],_,_,_,h,r,e=>by
  simp only[jA] at h;subst h;cases r;cases e;exact⟨[],[],.nil,jA.nil,.nil,rfl,λ_ z=>nomatch z⟩
 |d::ds,_,_,_,h,r,e=>by
  simp only[jA] at h;obtain⟨v,vs,rfl,h1,h2⟩:=h
  cases r with
  | @cons _ u _ us r1 r2 =>
   obtain⟨p,q,e⟩:=nM.mp (show(bT d).bind (λp=>(SM ds).map (p :: ·))=_ from e);obtain⟨ps,q2,e⟩:=AF.mp e;cases e;obtain⟨ws,qs,i1,i2,i3,i4,i5⟩:=Wh I sub h2 r2 q2;obtain⟨k,rfl,hk⟩:=yGa q;simp only[oA,jA] at h1;obtain⟨b,zs,rfl,g1,v1,y1,rfl,h3,v2,y2,rfl,g2,rfl⟩:=h1;obtain⟨c,rfl,kk⟩:=qQ (H:=H) hk (.inl h3);cases r1;obtain⟨cA,rr,ht,_⟩:=I.tuple (iI (Sm.of sub) g1);obtain⟨u1,u2,rfl,ra,rb⟩:=aAH rr;cases ra;refine⟨v2::ws,(p.1,c,u2)::qs,.cons ⟨b,rfl,ht,aC.is I (aC.mono (Sm.of sub) kk)⟩ i1,jA.cons g2 i2,.cons rb i3,by simp only[AB,i4],λq hq=>?_⟩;rcases DC.mp hq with rfl | hq
   ·exact kk
   ·exact i5 q hq
theorem dc:∀{ps:List (JB×D)} {qs xs:iE} {ws:List V} {a:List JB×List D},jA K G (ps.map (·.2)) ws->aAb ws (qs.map (·.2.2))->qs.map (·.1)=ps.map (·.1)->(∀q∈qs,aC K G q.1 q.2.1)->eL K G a.1 a.2 xs->(∀x∈xs,aC K G x.1 x.2.1)->eL K G (aAv ps a).1 (aAv ps a).2 (ER qs xs)/\(ER qs xs).length<=xs.length+qs.length/\∀x∈ER qs xs,aC K G x.1 x.2.1
 |[],qs,xs,ws,a,_,_,e,_,h,hx=>by
  cases Cq.mp e;exact⟨h,jB _,hx⟩
 |p::ps,qs,xs,ws,a,h1,h2,e,hk,h,hx=>by
  obtain _ | ⟨q,qs⟩:=qs
  ·cases e
  rw[AB,AB,eR] at e;simp only[AB,jA] at h1 h2;obtain⟨v,r,rfl,g1,g2⟩:=h1
  cases h2 with
  |cons r1 r2 =>
   have kq:=hk q YD
   have:=dc (a:=(IG a.1 p.1,tF a.1 a.2 p.1 p.2)) (xs:=storedH xs q.1 q.2.1 q.2.2) g2 r2 e.2 (λx hx=>hk x (WC _ hx)) (by rw[<- e.1];exact yk h r1 g1) (J8 hx kq)
   refine⟨this.1,EC this.2.1 ?_,this.2.2⟩
   have:=K8 (xs:=xs) (k:=q.1) (b:=q.2.1) (v:=q.2.2)
   rw[YB]
   lia
def iUa(hh:X.A.handled=none)(rm:YC 2 X.A)(I:fA X aA Y H s)(sub:XA G H){a:kA}{vs:List V}{ds:List D}{ps:List (JB×D)}(hl:zB X.K H a vs)(hr:jA X.K G ds vs)(mO:SM ds=some ps){Q:dA->zA->Prop}
  (h:∀p xs ep s',H p=none->(p==sysModules)=false->(xs.map (·.1)).Nodup->xs.length<=sizeLine->(∀x∈xs,aC X.K G x.1 x.2.1)->eL X.K G (aAv ps ([],[])).1 (aAv ps ([],[])).2 xs->fA X aA Y (CA H p (.ext (BB p xs ep))) s'->Q (.ref p) s'):rA (model X.prog X.w) X.A (call (.type "dict") [.ref a]) Q X.xe s:=by
 obtain⟨cA,rv,⟨o,n,e1,e2,e3,e4⟩,z⟩:=I.list hl;obtain⟨ws,qs,i1,i2,i3,i4,i5⟩:=Wh I sub hr rv mO;obtain⟨c,iV,dat,sl⟩:=o;simp only at e2 e3 e4;subst e2 e3 e4;have hq:qs.length<=sizeLine:=by rw[<- i1.length,<- rv.length];exact z
 have ap:=dc (a:=([],[])) (xs:=[]) i2 i3 i4 i5 ⟨rfl,[],.nil,jA.nil⟩ λ_ z=>nomatch z
 refine Yw (by have:=rm.un;lia) e1 i1 hh hq λh' tk k d=>?_
 obtain⟨ep,w⟩:=BB.ok d;exact h _ _ ep _ (I.RA.fresh (jB _)) (sN.mpr (gF (MD I.big))) (Yi d) (EC ap.2.1 (by simpa using hq)) ap.2.2 ap.1 (I.laid (t':=tk) k (jB _) (w _))
theorem b8{K:iA}{G:Hp}{w:V}:∀{ds:List D} {vs:List V},jA K G ds vs->w∈vs->∃d∈ds,oA K G d w
 |[],vs,h,z=>by
  simp only[jA] at h;subst h;cases z
 |d::ds,vs,h,z=>by
  simp only[jA] at h;obtain⟨v,r,rfl,h1,h2⟩:=h;rcases DC.mp z with rfl | z
  ·exact⟨d,.head _,h1⟩
  ·obtain⟨e,he,h⟩:=b8 h2 z;exact⟨e,.tail _ he,h⟩
def aAb.back{vs:List V}{cA:List dA}(r:aAb vs cA){i:Nat}{u:dA}(e:cA[i]?=some u):∃v,vs[i]?=some v/\aAc v u:=by
 have l:i<vs.length:=by rw[r.length];exact(bE.mp e).1
 obtain⟨u',e',h⟩:=r.get (FC l);rw[e] at e';cases e';exact⟨_,FC l,h⟩
theorem Mo{vs:List V}{cA:List dA}(r:aAb vs cA):∀us:List dA,(∀u∈us,u∈cA)->∃ws,aAb ws us/\∀w∈ws,w∈vs
 |[],_=>⟨[],.nil,λ_ z=>nomatch z⟩
 |u::us,hu=>by
  obtain⟨ws,i1,i2⟩:=Mo r us λv hv=>hu v (WC _ hv)
  obtain⟨j,hj⟩:=nq.mp (hu u YD);obtain⟨w,hw,dI⟩:=aAb.back r hj;refine⟨w::ws,.cons dI i1,λx hx=>?_⟩;rcases DC.mp hx with rfl | hx
  ·exact VE hw
  ·exact i2 x hx
def Bl(I:fA X aA Y H s)(sub:XA G H){d:D}{v:V}{u:dA}(h:oA X.K G d v)(r:aAc v u)(q:(yJ d).isSome=true):∃a k,u=.ref a/\LC X.prog X.w s.heap k a:=by
 obtain⟨k,q⟩:=Cp.mp q;rw[Al q] at h;obtain⟨b,rfl,h1⟩:=Dl h;cases r;exact⟨b,k,rfl,wI.is I (wI.mono (Sm.of sub) h1)⟩
def bWa(I:fA X aA Y H s)(sub:XA G H){d:D}{v:V}{u:dA}(h:oA X.K G d v)(r:aAc v u)(q:qO d=true):∃a,u=.ref a/\CS.FU X.prog X.w s.heap a:=by
 unfold qO at q;split at q
 ·rename_i k i;simp only[oA,jA] at h;obtain⟨b,zs,rfl,g1,v1,y1,rfl,h1,v2,y2,rfl,rfl,rfl⟩:=h;cases r;obtain⟨cA,rr,ht,_⟩:=I.tuple (iI (Sm.of sub) g1);obtain⟨u1,u2,rfl,ra,t,rfl⟩:=aAH rr;obtain⟨c,k,rfl,hk⟩:=Bl I sub h1 ra q;exact⟨b,rfl,c,k,i,t,ht,hk⟩
 ·cases q
def pUa{a:kA}{vs:List V}{ds:List D}(rm:YC 2 X.A)(I:fA X aA Y H s)(sub:XA G H)(hl:zB X.K H a vs)(hr:jA X.K G ds vs)(q:(ds.all (λd=>(yJ d).isSome)||ds.all qO)=true){Q:dA->zA->Prop}
  (h:∀p ws s',H p=none->Fm ds.length ws vs->fA X aA Y (CA H p (.l ws)) s'->Q (.ref p) s'):rA (model X.prog X.w) X.A (call (.builtin "sorted") [.ref a]) Q X.xe s:=by
 obtain⟨cA,rv,pl,z⟩:=I.list hl;have mB:cA.length=ds.length:=by rw[<- hr.len,rv.length]
 replace z:cA.length<=sizeLine:=by rw[<- rv.length];exact z
 have fin:∀g:CS.KN,(∀x∈cA,CS.TJ X.prog X.w s.heap g x)->rA (model X.prog X.w) X.A (call (.builtin "sorted") [.ref a]) Q X.xe s:=λg hv=>by
  refine CS.eWa (g:=g) pl.isList z hv (by have:=rm.un;lia) λout p h' n' ho hm hp g kp=>?_
  obtain⟨ws,i1,i2⟩:=Mo rv out.toList hm;have l:ws.length=ds.length:=i1.length.trans (kF.trans (ho.trans mB));exact h p ws _ (I.RA.fresh hp) ⟨l,i2⟩ (I.laid (o:=.l ws) (t':=s.toks) kp hp ⟨by rw[l,<- mB];exact z,out.toList,n',i1,by rw[Array.toArray_toList];exact g⟩)
 have get:∀x∈cA,∃d∈ds,∃v,oA X.K G d v/\aAc v x:=λx hx=>by(obtain⟨j,hj⟩:=nq.mp hx;obtain⟨w,hw,dI⟩:=aAb.back rv hj;obtain⟨d,hd,h1⟩:=b8 hr (VE hw);exact⟨d,hd,w,h1,dI⟩)
 rw[MK,EE,EE] at q;rcases q with q | q
 ·exact fin .st λx hx=>let ⟨d,hd,v,h1,r⟩:=get x hx;Bl I sub h1 r (q d hd)
 ·exact fin .sn λx hx=>let ⟨d,hd,v,h1,r⟩:=get x hx;bWa I sub h1 r (q d hd)
def Mi{f:Int->Int->Int}{d e:D}{v:RV}(h:mm f d e=some v):∃i j,d=.int i/\e=.int j/\v=.sh (.int (f i j)):=by
 induction d using D.casesOn with
 |int i =>
  induction e using D.casesOn with
  |int j=>exact⟨i,j,rfl,rfl,(eE h).symm⟩
  |_=>exact(pB h).elim
 |_=>exact(pB h).elim
def Lv(hK:X.K=K)(hc:X.calm=true)(hh:X.A.handled=none)(rm:YC 2 X.A)(f:BI):DF X (NZ f) (Bk K f):=by
 intro aA s Y H xs us Q I r h;obtain⟨G,ds,v,sub,hx,e,k⟩:=h;subst hK
 induction f using BI.casesOn with
 |len =>
  obtain _ | ⟨d,_ | ⟨_,_⟩⟩:=ds
  ·exact(pB e).elim
  ·induction d using D.casesOn with
   |l =>
    change some _=_ at e;cases e;obtain⟨x,rfl,h1⟩:=uF hx;obtain⟨a,vs,rfl,h2,h3⟩:=h1.l sub;exact UZ aA s Y H _ us Q I r ⟨a,vs,rfl,.inl h2,by rw[h3.len];exact k _ _ aAk⟩
   |t =>
    change some _=_ at e;cases e;obtain⟨x,rfl,h1⟩:=uF hx;obtain⟨a,vs,rfl,h2,h3⟩:=h1.t sub;exact UZ aA s Y H _ us Q I r ⟨a,vs,rfl,.inr h2,by rw[h3.len];exact k _ _ aAk⟩
   |MC =>
    change some _=_ at e;cases e;obtain⟨x,rfl,h1⟩:=uF hx;obtain⟨a,vs,_,rfl,h2,h3,_⟩:=h1.MC sub;exact UZ aA s Y H _ us Q I r ⟨a,vs,rfl,.inl h2,by rw[h3.1];exact k _ _ aAk⟩
   |ZA =>
    change some _=_ at e;cases e;obtain⟨x,rfl,h1⟩:=uF hx;obtain⟨a,zs,rfl,h2,⟨h3,_⟩,_⟩:=h1.ZA sub;obtain⟨u,rfl,ru⟩:=aAt r;cases ru;refine mUa I h2 λt s' I'=>⟨.int (zs.length:Int),H,I',⟨t,rfl⟩, ?_⟩
    rw[show zs.length=_ from(nA _).symm.trans (congrArg BH h3)];exact k _ _ aAk
   |str x =>
    change @ite _ (x.length<=1000000) (cl _) _ none=_ at e;split at e
    ·rename_i hz;cases e;obtain⟨x,rfl,h1⟩:=uF hx;obtain⟨rfl,_⟩:=h1.str;exact ax aA s Y H _ us Q I r ⟨_,rfl,EC hz (by decide),k _ _ aAk⟩
    ·cases e
   |_=>exact(pB e).elim
  ·exact(pB e).elim
 |abs =>
  obtain _ | ⟨d,_ | ⟨_,_⟩⟩:=ds
  ·exact(pB e).elim
  ·cases d with
   |int =>
    change some _=_ at e;cases e;obtain⟨x,rfl,h1⟩:=uF hx;cases h1.int;exact Ww aA s Y H _ us Q I r ⟨_,rfl,k _ _ aAk⟩
   |_=>exact(pB e).elim
  ·exact(pB e).elim
 |int =>
  obtain _ | ⟨d,_ | ⟨_,_⟩⟩:=ds
  ·exact(pB e).elim
  ·induction d using D.casesOn with
   |int =>
    change some _=_ at e;cases e;obtain⟨x,rfl,h1⟩:=uF hx;cases h1.int;exact Zc aA s Y H _ us Q I r (.inl ⟨_,rfl,k _ _ aAk⟩)
   |bl =>
    change some _=_ at e;cases e;obtain⟨x,rfl,h1⟩:=uF hx;cases h1.bl;exact Zc aA s Y H _ us Q I r (.inr ⟨_,rfl,k _ _ aAk⟩)
   |_=>exact(pB e).elim
  ·exact(pB e).elim
 |list =>
  obtain _ | ⟨d,_ | ⟨_,_⟩⟩:=ds
  ·exact(pB e).elim
  ·induction d using D.casesOn with
   |l =>
    change some _=_ at e;cases e;obtain⟨x,rfl,h1⟩:=uF hx;obtain⟨a,vs,rfl,h2,h3⟩:=h1.l sub;exact gd aA s Y H _ us Q I r ⟨a,vs,rfl,.inl h2,λp hp=>k _ _ (.inr (.inl ⟨_,_,p,rfl,hp,h3,rfl,rfl⟩))⟩
   |t =>
    change some _=_ at e;cases e;obtain⟨x,rfl,h1⟩:=uF hx;obtain⟨a,vs,rfl,h2,h3⟩:=h1.t sub;exact gd aA s Y H _ us Q I r ⟨a,vs,rfl,.inr h2,λp hp=>k _ _ (.inr (.inl ⟨_,_,p,rfl,hp,h3,rfl,rfl⟩))⟩
   |ZA =>
    change some _=_ at e;cases e;obtain⟨x,rfl,h1⟩:=uF hx;obtain⟨a,zs,rfl,h2,⟨h3,_⟩,h4⟩:=h1.ZA sub;obtain⟨u,rfl,ru⟩:=aAt r;cases ru;exact lUa hh I h2 λp s' hp I'=>⟨.ref p,_,I',rfl,k _ _ (.inr (.inl ⟨_,_,p,rfl,hp,h3 ▸ Wk h4,rfl,rfl⟩))⟩
   |_=>exact(pB e).elim
  ·exact(pB e).elim
 |dict =>
  obtain _ | ⟨d,_ | ⟨_,_⟩⟩:=ds
  ·exact(pB e).elim
  ·induction d using D.casesOn with
   |l ds =>
    change jV ds=_ at e;obtain⟨ps,mO,e⟩:=AF.mp e;cases e;obtain⟨x,rfl,h1⟩:=uF hx;obtain⟨a,vs,rfl,h2,h3⟩:=h1.l sub;obtain⟨u,rfl,ru⟩:=aAt r;cases ru
    exact iUa hh rm I sub h2 h3 mO λp xs ep s' hp sm nd hl hk hq I'=>⟨.ref p,_,I',rfl,k _ _ (.inr (.inr (.inr ⟨_,p,_,rfl,hp,rfl,rfl,λG' sg hg=>by
     obtain⟨g1,ws,g2,g3⟩:=hq;simp only[oA]
     exact⟨p,xs,ws,rfl,⟨ep,hg⟩,⟨nd,hl,sm,λx hx=>aC.mono sg (hk x hx),g1,g2⟩,jA.mono sg _ g3⟩⟩)))⟩
   |_=>exact(pB e).elim
  ·exact(pB e).elim
 |tuple =>
  obtain _ | ⟨d,_ | ⟨_,_⟩⟩:=ds
  ·exact(pB e).elim
  ·induction d using D.casesOn with
   |l =>
    change some _=_ at e;cases e;obtain⟨x,rfl,h1⟩:=uF hx;obtain⟨a,vs,rfl,h2,h3⟩:=h1.l sub;exact jd aA s Y H _ us Q I r ⟨a,vs,rfl,.inl ⟨h2,λp hp=>k _ _ (CW ⟨_,_,p,rfl,hp,h3,rfl,rfl⟩)⟩⟩
   |t =>
    change some _=_ at e;cases e;obtain⟨x,rfl,h1⟩:=uF hx;have TH:=h1;obtain⟨a,vs,rfl,h2,h3⟩:=h1.t sub;refine jd aA s Y H _ us Q I r ⟨a,vs,rfl,.inr ⟨h2, ?_⟩⟩;rcases TH with TH | ⟨_,_,TH⟩
    ·exact k _ _ (.inl ⟨_,rfl,TH,rfl⟩)
    ·exact TH.elim
   |_=>exact(pB e).elim
  ·exact(pB e).elim
 |min =>
  obtain _ | ⟨d,_ | ⟨d2,_ | ⟨_,_⟩⟩⟩:=ds
  ·exact(pB e).elim
  ·exact(pB e).elim
  ·obtain⟨i,j,rfl,rfl,rfl⟩:=Mi e;obtain⟨x,y,rfl,h1,h2⟩:=Uk hx;cases h1.int;cases h2.int;exact ox hc aA s Y H _ us Q I r ⟨_,_,rfl,k _ _ aAk⟩
  ·exact(pB e).elim
 |max =>
  obtain _ | ⟨d,_ | ⟨d2,_ | ⟨_,_⟩⟩⟩:=ds
  ·exact(pB e).elim
  ·induction d using D.casesOn with
   |l ds =>
    change (match rE ds with | some (i::r)=>some (RV.sh (.int (r.foldl (λm y=>if y > m then y else m) i))) | _=>none)=_ at e;split at e
    ·rename_i i r' q;cases e;obtain⟨x,rfl,h1⟩:=uF hx;obtain⟨a,vs,rfl,h2,h3⟩:=h1.l sub;exact jx hc aA s Y H _ us Q I r ⟨a,vs,ds,i,r',G,rfl,h2,h3,q,k _ _ aAk⟩
    ·cases e
   |_=>exact(pB e).elim
  ·obtain⟨i,j,rfl,rfl,rfl⟩:=Mi e;obtain⟨x,y,rfl,h1,h2⟩:=Uk hx;cases h1.int;cases h2.int;exact bx hc aA s Y H _ us Q I r ⟨_,_,rfl,k _ _ aAk⟩
  ·exact(pB e).elim
 |all =>
  obtain _ | ⟨d,_ | ⟨_,_⟩⟩:=ds
  ·exact(pB e).elim
  ·induction d using D.casesOn with
   |l ds =>
    change (GF ds).map _=_ at e
    cases q:GF ds with
    |none=>rw[q] at e;cases e
    |some bs =>
     rw[q] at e;cases e;obtain⟨x,rfl,h1⟩:=uF hx;obtain⟨a,vs,rfl,h2,h3⟩:=h1.l sub;exact Xw hh aA s Y H _ us Q I r ⟨a,vs,ds,bs,G,rfl,h2,h3,q,k _ _ vIa⟩
   |_=>exact(pB e).elim
  ·exact(pB e).elim
 |sorted =>
  obtain _ | ⟨d,_ | ⟨_,_⟩⟩:=ds
  ·exact(pB e).elim
  ·induction d using D.casesOn with
   |l ds =>
    change (if(ds.all (λd=>(yJ d).isSome)||ds.all qO)=true then _ else none)=_ at e;split at e
    ·rename_i q;cases e;obtain⟨x,rfl,h1⟩:=uF hx;obtain⟨a,vs,rfl,h2,h3⟩:=h1.l sub;obtain⟨u,rfl,ru⟩:=aAt r;cases ru;refine pUa rm I sub h2 h3 q λp ws s' hp hw I'=>⟨.ref p,_,I',rfl,k _ _ (.inr (.inr (.inr ⟨_,p,_,rfl,hp,rfl,rfl,λG' sm hg=>?_⟩)))⟩
     simp only[oA];exact⟨p,ws,vs,rfl,zB.of hg,hw,h3.mono sm⟩
    ·cases e
   |_=>exact(pB e).elim
  ·exact(pB e).elim
def qx(hc:X.calm=true):DF X (.type "set") (λxs H Q=>∃a vs ds is G,xs=[.ref a]/\zB X.K H a vs/\jA X.K G ds vs/\rE ds=some is/\is.length<=1000/\∀p S,H p=none->Q (.ref p) (CA H p (.set S (firstMet (λi=>is.getD i 0) is.length).length))):=by
 intro aA s Y H xs us Q I r h;obtain⟨a,vs,ds,is,G,rfl,h1,h2,h3,hz,q⟩:=h;obtain⟨u,rfl,rx⟩:=aAt r;cases rx;obtain⟨cA,rv,hl,z⟩:=IT I h1;have hi:=W5 h2 rv h3;have vB:cA.toArray.size=is.length:=by rw[gD];exact hi.length
 refine call_set_list (I.ok.hd hc) hl hi (by rw[vB];exact ZX (XT hz 1) (by decide)) λh' tk hS hk=>?_
 rw[vB] at hS;exact⟨.ref s.heap.objs.size,_,I.laid (o:=.set (λk'=>(firstMet (λi=>is.getD i 0) is.length).any (· == k')) (firstMet (λi=>is.getD i 0) is.length).length) (t':=tk) (λb o e=>hk b o (mC e) e) (jB _) hS,rfl,q _ _ (I.RA.fresh (jB _))⟩
def Zw:DF X (.builtin "len") (λxs H Q=>∃p S n,xs=[.ref p]/\H p=some (.set S n)/\Q (.int n) H):=by
 intro aA s Y H xs us Q I r h;obtain⟨p,S,n,rfl,hp,q⟩:=h;obtain⟨u,rfl,rx⟩:=aAt r;cases rx;obtain⟨o,es,ep,t,ho,hex,hd,_,_,hb,hf,rfl⟩:=I.RA p _ hp;refine call_len_set ho hex hd hf (by have:es.size<4096:=hb;lia) ⟨.int es.size,H,I.tok _,⟨_,rfl⟩,q⟩
def zX:Ty->V
 |.int=>.ty "int"
 |.bool=>.ty "bool"
 |.tuple=>.ty "tuple"
def tyW(t:Ty):dA:=match zX t with
 |.ty x=>.type x
 |_=>.none
def wDa(hK:X.K=K)(t:Ty):DF X (.builtin "isinstance") (λxs H Q=>∃G d x b,XA G H/\xs=[x,zX t]/\OB K H G d x/\i6 t d=some b/\Q (.bl b) H):=by
 intro aA s Y H xs us Q I r h;obtain⟨G,d,x,b,sub,rfl,hx,e,q⟩:=h;subst hK;obtain⟨u,w,rfl,rx,dI⟩:=aAH r;have fin:∀tk,EP X aA Y Q (.bool b) { s with toks:=tk }:=λtk=>⟨.bl b,H,I.tok tk,rfl,q⟩
 obtain rfl:w=tyW t:=by cases t<;>exact dI
 cases d<;>first
   | (cases hx.pA;cases (show u=Value.none from rx);refine gR PySem.W.kitx_none I.QE True.intro ?_ (λz=>nomatch z) fin)
   | (cases hx.bl;cases (show u=Value.bool _ from rx);refine gR PySem.W.kitx_bool I.QE True.intro ?_ (λz=>nomatch z) fin)
   | (cases hx.int;obtain⟨_,q'⟩:=(show ∃t,u=Value.int _ t from rx);cases q';refine gR PySem.W.kitx_int I.QE True.intro ?_ (λz=>nomatch z) fin)
   | (obtain⟨rfl,_⟩:=hx.str;obtain⟨_,q'⟩:=(show ∃t,u=Value.str _ t from rx);cases q';refine gR PySem.W.kitx_str I.QE True.intro ?_ (λz=>nomatch z) fin)
   | (obtain⟨a,vs,rfl,h2,h3⟩:=hx.l sub;cases (show u=Value.ref a from rx);obtain⟨cA,_,⟨o,n,h4,h5,_⟩,_⟩:=I.list h2;refine gR PySem.W.kitx_list I.QE ⟨o,h4,h5⟩ ?_ (λz=>nomatch z) fin)
   | (obtain⟨a,vs,rfl,h2,h3⟩:=hx.t sub;cases (show u=Value.ref a from rx);obtain⟨cA,_,⟨o,h4,h5,_⟩,_⟩:=I.tuple h2;refine gR PySem.W.kitx_tuple I.QE ⟨o,h4,h5⟩ ?_ (λz=>nomatch z) fin)
   |skip
 all_goals (cases t<;>first | exact e | cases e)
end
section
variable{X:Cx}{aA:List (kA×IB)}{Y:L2.St}{H:Hp}{s:zA}{h':TB}
def aDa(I:fA X aA Y H s)(k:∀b u,b≠e->b≠it->s.heap.get? b=some u->h'.get? b=some u)(fe:KH X aA H e)(fi:KH X aA H it)(hp:s.heap.objs.size<=p)
  (new:lD X.prog X.w (CA H p o) h' p o):fA X aA Y (CA H p o) { s with heap:=h',toks:=t' }:=by
 have hn:H p=none:=I.RA.fresh hp;have ne:∀{b:kA} {u:HO},H b=some u->b≠e/\b≠it:=λq=>⟨OF q fe.1,OF q fi.1⟩
 have nc:∀{b:kA},b ∉ [e,it]->b≠e/\b≠it:=λhc=>⟨λz=>hc (by simp[z]),λz=>hc (by simp[z])⟩
 refine I.step (g':=s.gens) (d':=s.drawn) (ch:=[e,it]) (λb hb=>?_) (λb o _ _ hc q _=>k b o (nc hc).1 (nc hc).2 q) (λb o _ _ hc q _=>⟨o.slots,k b o (nc hc).1 (nc hc).2 q⟩)
  (λb o _ q n=>by rw[yB (MD (WE (mC q) hp))];exact n)
  (λb o hc q=>⟨o,k b o (nc hc).1 (nc hc).2 q⟩) (λb xs q=>by rw[yB (OF q hn)];exact q) (λb o u q=>by rw[yB (OF q hn)];exact q) (λb ps q=>⟨#[],by rw[yB (OF q hn),q];simp⟩) (λm hm=>?_) (λb u q=>?_) I.bare
 ·have hb:b=e\/b=it:=by simpa using hb
  rcases hb with rfl | rfl
  ·exact⟨fe.2.2.2.1,fe.2.1,fe.2.2.2.2.1,fe.2.2.2.2.2⟩
  ·exact⟨fi.2.2.2.1,fi.2.1,fi.2.2.2.2.1,fi.2.2.2.2.2⟩
 ·obtain⟨o,es,ep,ho,r⟩:=hm;exact⟨o,es,ep,k _ o (gF fe.2.1) (gF fi.2.1) ho,r⟩
 ·by_cases hb:b=p
  ·subst hb;rw[VC] at q;cases q;exact new
  ·rw[yB hb] at q;refine(I.RA b u q).wH (λc v hc z=>?_) (λc q=>by rw[yB (OF q hn)];exact q) λc xs q=>by rw[yB (OF q hn)];exact q
   have UH:c≠e/\c≠it:=by
    rcases hc with w | w
    ·rw[w];exact ne q
    ·exact ne w
   exact k c v UH.1 UH.2 z
def cDa(I:fA X aA Y H s)(k:∀b u,b≠e->b≠it->s.heap.get? b=some u->h'.get? b=some u)(fe:KH X aA H e)(fi:KH X aA H it):fA X aA Y H { s with heap:=h',toks:=t' }:=by
 have ne:∀{b:kA} {u:HO},H b=some u->b≠e/\b≠it:=λq=>⟨OF q fe.1,OF q fi.1⟩
 have nc:∀{b:kA},b ∉ [e,it]->b≠e/\b≠it:=λhc=>⟨λz=>hc (by simp[z]),λz=>hc (by simp[z])⟩
 refine I.step (g':=s.gens) (d':=s.drawn) (ch:=[e,it]) (λb hb=>?_) (λb o _ _ hc q _=>k b o (nc hc).1 (nc hc).2 q) (λb o _ _ hc q _=>⟨o.slots,k b o (nc hc).1 (nc hc).2 q⟩)
  (λ_ _ _ _ n=>n) (λb o hc q=>⟨o,k b o (nc hc).1 (nc hc).2 q⟩) (λ_ _ q=>q) (λ_ _ _ q=>q) (λb ps q=>⟨#[],by rw[q];simp⟩) (λm hm=>?_) (λb u q=>?_) I.bare
 ·have hb:b=e\/b=it:=by simpa using hb
  rcases hb with rfl | rfl
  ·exact⟨fe.2.2.2.1,fe.2.1,fe.2.2.2.2.1,fe.2.2.2.2.2⟩
  ·exact⟨fi.2.2.2.1,fi.2.1,fi.2.2.2.2.1,fi.2.2.2.2.2⟩
 ·obtain⟨o,es,ep,ho,r⟩:=hm;exact⟨o,es,ep,k _ o (gF fe.2.1) (gF fi.2.1) ho,r⟩
 ·refine(I.RA b u q).wH (λc v hc z=>?_) (λ_ q=>q) λ_ _ q=>q
  have UH:c≠e/\c≠it:=by
   rcases hc with w | w
   ·rw[w];exact ne q
   ·exact ne w
  exact k c v UH.1 UH.2 z
end
section
variable{prog:KC}{w:WB}{A:RD}{E:dA->zA->Prop}{s:zA}
def wy{Q:dA->zA->Prop}(q1:LJ s.heap e it c old)(q2:s.heap.IsListIter it l i)(q3:s.heap.IsList l us)(q4:us[i]?=some u)(ne:e≠it)
  (k:∀g,IsEnumOut g e it (c+1) u s.heap.objs.size->g.IsListIter it l (i+1)->g.get? s.heap.objs.size=some { cls:=.type "tuple",data:=.seq #[.int c s.toks,u] }->(∀b o,b≠e->b≠it->s.heap.get? b=some o->g.get? b=some o)->Q (.ref s.heap.objs.size) { s with heap:=g,toks:=s.toks+1 }) :
  rA (model prog w) A (EH.«enumerate.__next__» ⟨[.ref e],[]⟩) (λfin s'=>∃v,fin=.done (.ret v)/\Q v s') E s:=by
 obtain⟨m0,ge,dr,tk,os⟩:=s;refine gA (m:=field (.ref e) 2) (VI q1 rfl (x:=.ref it) rfl (gA (wpAny_nextOf_list_item q2 q3 q4 λm1 t1 b1=>?_)));have b1:SF it m0 m1:=b1;have e1:LJ m1 e it c old:=(b1.2 e ne).trans q1;refine gA (m:=field (.ref e) 3) (VI e1 rfl (x:=rawInt c) rfl (gA (m:=field (.ref e) 4) (VI e1 rfl (x:=.none) rfl (gA (m:=mkInt c) (jb ?_)))));refine gA (m:=setField (.ref e) 3 (rawInt (c+1))) (cU e1 (by simp) λm2 e2 b2=>?_);have b2:SF e m1 m2:=b2;have e2:LJ m2 e it (c+1) old:=e2;refine gA (m:=setField (.ref e) 4 .none) (cU e2 (by simp) λm3 e3 b3=>?_);have b3:SF e m2 m3:=b3;have e3:LJ m3 e it (c+1) old:=e3;refine gA (m:=newTuple [.int c tk,u]) (wpAny_newTuple ?_);have n3:m3.objs.size=m0.objs.size:=by rw[b3.1,b2.1,b1.1]
 have lt:e<m0.objs.size:=mC q1;obtain⟨m4,z4⟩:∃m4,m3.push { cls:=.type "tuple",data:=.seq #[.int c tk,u] }=m4:=⟨_,rfl⟩
 have e4:LJ m4 e it (c+1) old:=z4 ▸ oC _ e3;have p4:m4.get? m0.objs.size=some { cls:=.type "tuple",data:=.seq #[.int c tk,u] }:=z4 ▸ n3 ▸ XD _ rfl;have k4:∀b o,b≠e->b≠it->m0.get? b=some o->m4.get? b=some o:=λb o x y q=>z4 ▸ oC _ (b3.extBut b o x (b2.extBut b o x (b1.extBut b o y q)))
 have t4:m4.IsListIter it l (i+1):=by(obtain⟨o,ho,r⟩:=(t1.extBut b2.extBut ne.symm).extBut b3.extBut ne.symm;exact⟨o,z4 ▸ oC _ ho,r⟩)
 rw[n3,z4];refine gA (m:=Zo (.ref e)) ?_;unfold Zo;refine gA (VI e4 rfl (x:=.none) rfl (EA ?_));simp only[if_true];refine gA (iP (gA (VI e4 rfl (x:=old) rfl (gA (cU e4 (by simp) λm5 e5 b5=>?_)))));have b5:SF e m4 m5:=b5;have e5:LJ m5 e it (c+1) u:=e5;refine gA (m:=Yo (.ref e) (.ref m0.objs.size)) ?_;unfold Yo;refine gA (cU e5 (by simp) λm6 e6 b6=>?_);have b6:SF e m5 m6:=b6;have e6:IsEnumOut m6 e it (c+1) u m0.objs.size:=e6;refine cU e6 (by simp) λm7 e7 b7=>?_
 have b7:SF e m6 m7:=b7;have st:∀b o,b≠e->m4.get? b=some o->m7.get? b=some o:=λb o x q=>b7.extBut b o x (b6.extBut b o x (b5.extBut b o x q))
 refine gA (wpAny_letGo (EA ⟨_,rfl,k m7 e7 ?_ (st _ _ (kR lt) p4) λb o x y q=>st b o x (k4 b o x y q)⟩));exact((t4.extBut b5.extBut ne.symm).extBut b6.extBut ne.symm).extBut b7.extBut ne.symm
def xy(q1:LJ s.heap e it c old)(q2:s.heap.IsListIter it l i)(q3:s.heap.IsList l us)(q4:us[i]?=some u)(ne:e≠it)
  (k:∀g,IsEnumOut g e it (c+1) u s.heap.objs.size->g.IsListIter it l (i+1)->g.get? s.heap.objs.size=some { cls:=.type "tuple",data:=.seq #[.int c s.toks,u] }->(∀b o,b≠e->b≠it->s.heap.get? b=some o->g.get? b=some o)->Q (some (.ref s.heap.objs.size)) { s with heap:=g,toks:=s.toks+1 }) :
  rA (model prog w) A (pyNext (.ref e)) Q E s :=
 have ty:s.TypeIs (.ref e) "enumerate":=⟨_,q1,rfl⟩
 gA (AY (QO (name:=yA "__next__") ty QX (dM QX ty Yp (wy q1 q2 q3 q4 ne λg a b c d=>EA (k g a b c d)) (Kp _))))
def yy(hh:A.handled=none)(q1:LJ s.heap e it c old)(q2:s.heap.IsListIter it l i)(q3:s.heap.IsList l us)(q4:us[i]?=none)
  (k:∀g,Heap.ExtBut it s.heap g->Q none { s with heap:=g }):rA (model prog w) A (pyNext (.ref e)) Q E s:=by
 have ty:s.TypeIs (.ref e) "enumerate":=⟨_,q1,rfl⟩
 refine gA (AY (QO (name:=yA "__next__") ty QX (dM QX ty Yp ?_ (Kp _))));refine gA (m:=field (.ref e) 2) (VI q1 rfl (x:=.ref it) rfl (gA (wpAny_nextOf_list_end hh q2 q3 q4 λg x ex px=>?_)));obtain⟨o,ho,hc⟩:=px;exact gA (iU (T:="StopIteration") (b:=true) ⟨o,ho,hc⟩ isSubtype_stop (EA (k _ ex)))
end
def vy(l:kA)(us:Array dA)(n:Nat)(iV:Option kA)(sl:Array (Option dA))(c:Int)(t:BF)(hc:gp c=true) :
  Meets (EH.«enumerate.__new__» ⟨[.type "enumerate",.ref l],[("start",.int c t)]⟩) (λ_ R s=>s.heap.get? l=some { cls:=.type "list",dict:=iV,data:=.seq us n,slots:=sl } /\
   R (.ok (.ret (.ref (s.heap.push { cls:=.type "list_iterator",data:=.fields #[.ref l,.int 0 0] }).objs.size)))
    { s with heap:=(s.heap.push { cls:=.type "list_iterator",data:=.fields #[.ref l,.int 0 0] }).push { cls:=.type "enumerate",data:=.fields #[.none,.bool false,.ref s.heap.objs.size,rawInt c,.none,.none] } }) :=
 .of_wp λprog w A R s h=>by
  obtain⟨hp,g,d,tk,os⟩:=s;obtain⟨hl,h⟩:=h;have sb:=sub_enumerate;have j6:Heap.IsList (Shared.heap ⟨hp,g,d,tk,os⟩) l us:=⟨_,hl,rfl,n,rfl⟩
  wp_walk using LX hl
  refine wpAny_stack_any λst=>EA ?_
  split
  ·rename_i v _ _ _ _ _;cases (v==Value.type "enumerate")
   ·wp_walk using LX hl,XQ j6
    exact⟨_,rfl,h⟩
   ·wp_walk using LX hl,XQ j6
    exact⟨_,rfl,h⟩
  ·wp_walk using LX hl,XQ j6
   exact⟨_,rfl,h⟩
def qy(a:dA)(c:Int)(t:BF):checkTypeCall "enumerate" ⟨[a],[("start",.int c t)]⟩=pure ():=by kernel_rfl
def sy(a:dA)(c:Int)(t:BF):checkBuiltinCall "enumerate.__new__" ⟨[.type "enumerate",a],[("start",.int c t)]⟩=pure ():=by kernel_rfl
def uy:Meets (EH.«object.__init__» ⟨[a,b],kw⟩) (λ_ R s=>s.TypeIs a "enumerate"/\R (.ok (.ret .none)) s):=by
 refine Meets.of_wp λprog w A R s hs=>?_
 obtain⟨ty,hq⟩:=hs;have hl:typeLookup (.type "enumerate") "__init__"=pure (some (.builtin "object.__init__")):=Y9.init.lookup;have hm:=Y9.made;have kH:(some "enumerate.__new__" != some "object.__new__")=true:=by decide
 repeat (any_goals (first | assumption | wp_step))
 exact⟨_,rfl,hq⟩
def oy(a b:dA)(c:Int)(t:BF):argsOk "object.__init__" ⟨[a,b],[("start",.int c t)]⟩:=by
 unfold argsOk;rw[signature?_of (id:="object.__init__") (n:="__init__".toList.reverse) (o:="object".toList.reverse) (by kernel_rfl) F.owner_object]
 kernel_rfl
section
variable{prog:KC}{w:WB}{A:RD}{E:dA->zA->Prop}{s:zA}
def zy(hc:gp c=true)(q:s.heap.IsList l us)
  (k:∀g,LJ g (s.heap.objs.size+1) s.heap.objs.size c .none->g.IsListIter s.heap.objs.size l 0->(∀b o,s.heap.get? b=some o->g.get? b=some o)->Q (.ref (s.heap.objs.size+1)) { s with heap:=g }) :
  rA (model prog w) A (call (.type "enumerate") [.ref l] [("start",.int c t)]) Q E s:=by
 have ft:=Y9;obtain⟨c0,tl,c2a⟩:=ft.mro;have a2a:=ft.made;have e2a:=ft.sub;obtain⟨⟨cl,iV,dt,sl⟩,hl,JE,n,hd⟩:=q;have JE:cl=.type "list":=JE;have hd:dt=.seq us n:=hd;subst JE hd;refine Ab (codeAny_of_tree ?_);change rA _ _ (callAny (.type "enumerate") _) _ _ _;refine EA ⟨Code.quiet_builtin _ (by decide +kernel),Ia F.entry_type_call ?_⟩;rw[Around.under_plain (weight_type_call_type "enumerate" _ _) (units_type_call_type "enumerate" _ _)];have h1:=ft.notType;have h2:=ft.canCreate;have h3:=qy (.ref l) c t
 repeat (any_goals (first | assumption | wp_step))
 refine mR (xq ft.plain F.entry_enumerate_new (wpAny_of_eq (sy (.ref l) c t) (vy l us n iV sl c t hc prog w A.in1 (wants (λobj s1=>s1.TypeIs obj "enumerate"/\Q obj s1) E) s ⟨hl, ?_⟩))) λr s1 hr=>?_
 ·have hz:(s.heap.push { cls:=.type "list_iterator",data:=.fields #[.ref l,.int 0 0] }).objs.size=s.heap.objs.size+1:=rY ..;change _/\_;rw[hz]
  have he:LJ ((s.heap.push { cls:=.type "list_iterator",data:=.fields #[.ref l,.int 0 0] }).push { cls:=.type "enumerate",data:=.fields #[.none,.bool false,.ref s.heap.objs.size,rawInt c,.none,.none] }) (s.heap.objs.size+1) s.heap.objs.size c .none:=by
   have x:=XD (s.heap.push { cls:=.type "list_iterator",data:=.fields #[.ref l,.int 0 0] }) (o:={ cls:=.type "enumerate",data:=.fields #[.none,.bool false,.ref s.heap.objs.size,rawInt c,.none,.none] }) rfl
   rwa[hz] at x
  exact⟨⟨_,he,rfl⟩,k _ he ⟨_,oC _ (XD _ rfl),rfl,rfl⟩ λb o x=>oC _ (oC _ x)⟩
 ·cases r with
  |error e=>exact hr
  |ok fl =>
   cases fl with
   |ret obj =>
    have hT:s1.TypeIs obj "enumerate":=hr.1;have hli:=ft.init.lookup;have hbi:=ft.init.bind obj
    repeat (any_goals (first | assumption | wp_step))
    refine mR (xq ft.init.plain F.entry_object_init (ft.init.check _ _ _ _ _ _ _ _ hT (oy obj (.ref l) c t) (uy prog w A.in1 (wants (λr s2=>r=.none/\Q obj s2) E) s1 ⟨hT,rfl,hr.2⟩))) λr2 s2 D5=>?_
    cases r2 with
    |error e=>exact D5
    |ok l_ =>
     cases l_ with
     |ret r =>
      obtain⟨rfl,hq⟩:=D5
      repeat (any_goals (first | assumption | wp_step))
     |_=>exact D5.elim
   |_=>exact hr.elim
end
def XY(K:iA)(a:kA)(lo:Int):It :=
 ⟨λi H=>∃xs x,zB K H a xs/\xs[i]?=some x,λi H x H'=>∃p y,H p=none/\x=.ref p/\H'=CA H p (.t [.int (lo+(i:Int)),y])/\∀xs,zB K H a xs->xs[i]?=some y,λi H=>∃xs,zB K H a xs/\xs.length<=i⟩
def yo{K:iA}(a e it:kA)(lo:Int)(Bf:e≠it):Turn P w K (.Tuple elts k0 pos) (XY K a lo) [e,it] e (λi h=>(∃old,LJ h e it (lo+(i:Int)) old)/\h.IsListIter it a i) where
 mem:=by simp
 obj:=λi h st b hb=>by
  obtain⟨⟨old,h1⟩,o,h2,c,d⟩:=st;have hb:b=e\/b=it:=by simpa using hb
  rcases hb with rfl | rfl
  ·exact⟨_,h1,λv z=>by
    have z':Data.fields _=Data.cell v:=z
    cases z'⟩
  ·exact⟨o,h2,λv z=>by rw[d] at z;cases z⟩
 keep:=λi h h' st k=>by(obtain⟨⟨old,h1⟩,h2⟩:=st;exact⟨⟨old,k e (by simp) _ h1⟩,h2.at λo q=>k it (by simp) o q⟩)
 item:=by
  intro X hP hw hK hc i aA s Y H E I hf st hg;subst hP hw hK;obtain⟨xs,x,hq,hx⟩:=hg;obtain⟨cA,rv,p,hz⟩:=I.list hq;obtain⟨u,hu,ru⟩:=rv.get hx;obtain⟨⟨old,he⟩,hit⟩:=st;have fe:=hf e (by simp);have fi:=hf it (by simp);refine xy he hit p.isList (by simpa using hu) Bf λh' ho dQ hT hk=>?_
  refine⟨_,rfl,wpAny_letOwnedTupleGo_enum ho λh2 he2 vK=>?_⟩;have YV:e<s.heap.objs.size:=mC he;have sAa:it<s.heap.objs.size:=by obtain⟨_,q,_⟩:=hit;exact mC q
  have ke:∀b u,b≠e->b≠it->s.heap.get? b=some u->h2.get? b=some u:=λb u n1 n2 q=>(vK.2 b n1).trans (hk b u n1 n2 q)
  have R':h2.get? s.heap.objs.size=some { cls:=.type "tuple",data:=.seq #[.int (lo+(i:Int)) s.toks,u] }:=(vK.2 _ (kR YV)).trans hT;have Cf:H s.heap.objs.size=none:=I.RA.fresh (jB _);have I2:fA X aA Y (CA H s.heap.objs.size (.t [.int (lo+(i:Int)),x])) { s with heap:=h2,toks:=s.toks+1 }:=aDa I ke fe fi (jB _) ⟨by rw[pR];simp,[.int (lo+(i:Int)) s.toks,u],.cons ⟨_,rfl⟩ (.cons ru .nil),⟨_,R',rfl,_,rfl⟩⟩;refine⟨.ref s.heap.objs.size,CA H s.heap.objs.size (.t [.int (lo+(i:Int)),x]),I2,rfl,⟨s.heap.objs.size,x,Cf,rfl,rfl,λys hy=>by rw[I.oi hy hq];exact hx⟩,⟨⟨_,by rw[Int.natCast_add,Int.natCast_one,<- Int.add_assoc];exact he2⟩,dQ.at λo q=>(vK.2 it Bf.symm).trans q⟩,λb hb=>?_⟩
  ·have hb:b=e\/b=it:=by simpa using hb
   rcases hb with rfl | rfl
   ·rw[yB (MD YV)];exact fe.1
   ·rw[yB (MD sAa)];exact fi.1
 done:=by(intro X hP hw hK hc i aA s Y H E I hf st hg;subst hP hw hK;obtain⟨xs,hq,hx⟩:=hg;obtain⟨cA,rv,p,hz⟩:=I.list hq;obtain⟨⟨old,he⟩,hit⟩:=st;have hl:=rv.length;exact yy (I.ok.hd hc) he hit p.isList (by simp;lia) λh' eb=>⟨rfl,cDa (t':=s.toks) I (λb o _ n2 q=>eb b o n2 q) (hf e (by simp)) (hf it (by simp))⟩)
 self:=λ_ _ _ _ _ st h=>by(obtain⟨⟨old,he⟩,_⟩:=st;exact qa he h)
section
variable{X:Cx}
def Q5(K:iA)(lo:Int)(ta:TA):TI:=λY H R=>ta Y H λvs H1=>∃a,vs=[.ref a]/\(∃xs,zB K H1 a xs)/\R (XY K a lo) H1
def Kc:QK "enumerate"=some (.type "enumerate"):=by decide +kernel
def Oj{ta:TA}(hg:Gl X "enumerate")(hm:X.mg "enumerate"=none)(ha:PA X [a] ta)(hs:zC [a] X.env=[(false,eval a X.env)]:=by rfl):PI X (.Tuple elts k0 kYa) (.Call (.Name "enumerate" p) [a] [] pos) (Q5 X.K 0 ta):=by
 intro aA s Y H R I h;refine Call_ (sO I hg hm Kc (GX (UA (ha pos aA s Y H _ I h) λus s1 hz=>?_) hs rfl));obtain⟨vs,H1,I1,r1,q1⟩:=hz;obtain⟨l,e,⟨xs,hq⟩,q⟩:=q1;subst e
 cases r1 with
 |cons r rr =>
  cases rr;cases r;obtain⟨cA,rv,p,hz⟩:=I1.list hq;refine call_enumerate_list p.isList λh' he hit vB hk=>?_
  have I2:fA X aA Y H1 { s1 with heap:=h' }:=I1.kept (t':=s1.toks) hk;refine qa he ?_;refine⟨s1.heap.objs.size+1,[s1.heap.objs.size+1,s1.heap.objs.size],_,_,H1,rfl,I2,yo l _ _ 0 (mr _),⟨⟨_,by simpa using he⟩,hit⟩,λb hb=>?_,q⟩;have hb:b=s1.heap.objs.size+1\/b=s1.heap.objs.size:=by simpa using hb
  rcases hb with rfl | rfl
  ·exact I1.CM (gM _) (I1.RA.fresh (gM _))
  ·exact I1.CM (jB _) (I1.RA.fresh (jB _))
def eQa{j:Nat}(hg:Gl X "enumerate")(hm:X.mg "enumerate"=none)(ha:PA X [a] ta)(hs:zC [a] X.env=[(false,eval a X.env)]:=by rfl) :
  PI X (.Tuple elts k0 kYa) (.Call (.Name "enumerate" p) [a] [⟨some "start",.Constant (.int 1) j kq,kp⟩] pos) (Q5 X.K 1 ta):=by
 intro aA s Y H R I h;refine bU (sO I hg hm Kc ?_);refine PySem.W.callWith_of (P:=λ_=>True) (by rw[hs];rfl) (λ_ _=>⟨.machine,.inr (.inl rfl),PySem.W.Looks.now⟩) (evalArgs_kw2 rfl (UA (ha pos aA s Y H _ I h) λus s1 hz=>?_) hs);obtain⟨vs,H1,I1,r1,q1⟩:=hz;obtain⟨l,e,⟨xs,hq⟩,q⟩:=q1;subst e
 cases r1 with
 |cons r rr =>
  cases rr;cases r;refine UA (kQa (nm:=some "start") (kpos:=kp) (Ij (i:=1) (pos:=kq)) lQa pos aA s1 Y H1 (λzs H2=>zs=[.int 1]/\H2=H1) I1 ⟨rfl,rfl⟩) λws s2 ⟨zs,H2,I2,rz,ez,eh⟩=>⟨trivial, ?_⟩
  subst ez eh
  cases rz with
  |cons rz rn =>
   cases rn;obtain⟨t,rfl⟩:=rz;obtain⟨cA,rv,p,hz⟩:=I2.list hq;refine zy (c:=1) (by decide) p.isList λh' he hit hk=>?_
   have I3:fA X aA Y H2 { s2 with heap:=h' }:=I2.kept (t':=s2.toks) hk;refine qa he ?_;refine⟨s2.heap.objs.size+1,[s2.heap.objs.size+1,s2.heap.objs.size],_,_,H2,rfl,I3,yo l _ _ 1 (mr _),⟨⟨_,by simpa using he⟩,hit⟩,λb hb=>?_,q⟩;have hb:b=s2.heap.objs.size+1\/b=s2.heap.objs.size:=by simpa using hb
   rcases hb with rfl | rfl
   ·exact I2.CM (gM _) (I2.RA.fresh (gM _))
   ·exact I2.CM (jB _) (I2.RA.fresh (jB _))
end
end CI
namespace CI
open PySem PySem.Spec PyProof.Rows L2
section
variable{K:iA}{U U1:Env}
def gI{l:List O}(h:(l.set i a)[j]?=some b):(j=i/\b=a/\i<l.length)\/(j≠i/\l[j]?=some b):=by
 by_cases FI:j=i
 ·subst FI;by_cases hl:j<l.length
  ·rw[YK hl] at h;exact .inl ⟨rfl,(eE h).symm,hl⟩
  ·rw[WI (by rw[VG];lia)] at h;cases h
 ·rw[jF (λz=>FI z.symm)] at h;exact .inr ⟨FI,h⟩
def IA.unset(r:IA K U Y H G)(i:Nat):IA K (U.set i .un) Y H G:=by
 refine⟨by rw[VG];exact r.len,r.sub,λj d h=>?_,λj d p l h=>?_,λj k d p l d' p' l' a h1 h2 h3 h4=>?_⟩
 ·rcases gI h with ⟨_,z,_⟩ | ⟨_,z⟩
  ·cases z
  ·exact r.sh j d z
 ·rcases gI h with ⟨_,z,_⟩ | ⟨_,z⟩
  ·cases z
  ·exact r.ow j d p l z
 ·rcases gI h1 with ⟨_,z,_⟩ | ⟨_,z⟩
  ·cases z
  ·rcases gI h2 with ⟨_,z',_⟩ | ⟨_,z'⟩
   ·cases z'
   ·exact r.inj _ _ _ _ _ _ _ _ _ z z' h3 h4
def AA.unset{i:Nat}{a:kA}(h:AA (U.set i .un) Y a):AA U Y a:=by
 obtain⟨j,d,p,l,h1,h2⟩:=h;rcases gI h1 with ⟨_,z,_⟩ | ⟨_,z⟩
 ·cases z
 ·exact⟨j,d,p,l,z,h2⟩
def IA.OQ(r:IA K U Y H G){d:D}(h:U[i]?=some (.ow d p l))(hx:Y[i]?=some (some (.ref a))):¬AA (U.set i .un) Y a:=by
 rintro⟨j,d',p',l',h1,h2⟩
 rcases gI h1 with ⟨_,z,_⟩ | ⟨ne,z⟩
 ·cases z
 ·exact ne (r.inj _ _ _ _ _ _ _ _ _ z h h2 hx)
def IA.grow(r:IA K U Y H G)(hv:H a=some ob)(g:G a=none)(no:¬AA U Y a):IA K U Y H (CA G a ob):=by
 refine⟨r.len,λb u e=>?_,λi d e=>?_,λi d p l e=>?_,r.inj⟩
 ·by_cases hb:b=a
  ·subst hb;rw[VC] at e;rw[hv];exact e
  ·rw[yB hb] at e;exact r.sub b u e
 ·obtain⟨v,h1,h2⟩:=r.sh i d e;exact⟨v,h1,oA.mono (Sm.put g) d h2⟩
 ·obtain⟨b,h1,h2,h3⟩:=r.ow i d p l e;have hb:b≠a:=λz=>by subst z;exact no ⟨i,d,p,l,e,h1⟩
  exact⟨b,h1,by rw[yB hb];exact h2,h3.mono (Sm.put g) λ_ z=>z⟩
def IA.AQ(r:IA K (U.set i .un) Y H G){d:D}{v:V}(hx:Y[i]?=some (some v))(hr:oA K G d v):IA K (U.set i (.sh d)) Y H G:=by
 have key:∀(j:Nat) (sl:Sl),(U.set i (.sh d))[j]?=some sl->(j=i/\sl=.sh d)\/(U.set i .un)[j]?=some sl:=λj sl h=>by
  rcases gI h with ⟨e,z,_⟩ | ⟨ne,z⟩
  ·exact .inl ⟨e,z⟩
  ·exact .inr (by rw[jF (λq=>ne q.symm)];exact z)
 refine⟨by have:=r.len;rw[VG] at this ⊢;exact this,r.sub,λj d' h=>?_,λj d' p l h=>?_,λj k d1 p l d2 p' l' a h1 h2 h3 h4=>?_⟩
 ·rcases key j _ h with ⟨rfl,z⟩ | z
  ·cases z;exact⟨v,hx,hr⟩
  ·exact r.sh j d' z
 ·rcases key j _ h with ⟨rfl,z⟩ | z
  ·cases z
  ·exact r.ow j d' p l z
 ·rcases key j _ h1 with ⟨rfl,z⟩ | z
  ·cases z
  ·rcases key k _ h2 with ⟨rfl,z'⟩ | z'
   ·cases z'
   ·exact r.inj _ _ _ _ _ _ _ _ _ z z' h3 h4
def IA.DO(r:IA K (U.set i .un) Y H G){d:D}{a:kA}(hx:Y[i]?=some (some (.ref a)))(g:G a=none)(ho:zG K H G a d)(no:¬AA (U.set i .un) Y a):IA K (U.set i (.ow d p l)) Y H G:=by
 have key:∀(j:Nat) (sl:Sl),(U.set i (.ow d p l))[j]?=some sl->(j=i/\sl=.ow d p l)\/(U.set i .un)[j]?=some sl:=λj sl h=>by
  rcases gI h with ⟨e,z,_⟩ | ⟨ne,z⟩
  ·exact .inl ⟨e,z⟩
  ·exact .inr (by rw[jF (λq=>ne q.symm)];exact z)
 refine⟨by have:=r.len;rw[VG] at this ⊢;exact this,r.sub,λj d' h=>?_,λj d' p' l' h=>?_,λj k d1 p1 l1 d2 p2 l2 b h1 h2 h3 h4=>?_⟩
 ·rcases key j _ h with ⟨rfl,z⟩ | z
  ·cases z
  ·exact r.sh j d' z
 ·rcases key j _ h with ⟨rfl,z⟩ | z
  ·cases z;exact⟨a,hx,g,ho⟩
  ·exact r.ow j d' p' l' z
 ·rcases key j _ h1 with ⟨rfl,z⟩ | z
  ·rcases key k _ h2 with ⟨rfl,z'⟩ | z'
   ·rfl
   ·rw[hx] at h3;cases h3;exact absurd ⟨k,_,_,_,z',h4⟩ no
  ·rcases key k _ h2 with ⟨rfl,z'⟩ | z'
   ·rw[hx] at h4;cases h4;exact absurd ⟨j,_,_,_,z,h3⟩ no
   ·exact r.inj _ _ _ _ _ _ _ _ _ z z' h3 h4
def AA.AQ{i:Nat}{a:kA}(h:AA (U.set i (.sh d)) Y a):AA (U.set i .un) Y a:=by
 obtain⟨j,d',p,l,h1,h2⟩:=h;rcases gI h1 with ⟨_,z,_⟩ | ⟨ne,z⟩
 ·cases z
 ·exact⟨j,d',p,l,by rw[jF (λq=>ne q.symm)];exact z,h2⟩
def AA.DO{d:D}(hx:Y[i]?=some (some (.ref b)))(h:AA (U.set i (.ow d p l)) Y a):a=b\/AA (U.set i .un) Y a:=by
 obtain⟨j,d',p',l',h1,h2⟩:=h;rcases gI h1 with ⟨rfl,z,_⟩ | ⟨ne,z⟩
 ·rw[hx] at h2;cases h2;exact .inl rfl
 ·exact .inr ⟨j,d',p',l',by rw[jF (λq=>ne q.symm)];exact z,h2⟩
def HE.grow(r:HE K H G own new Y h x)(s:XA G G2)(k:∀a d,h=.val (.ow d)->x=.ref a->G2 a=none)(w:∀a,eF a->own a):HE K H G2 eF new Y h x:=by
 induction h using Hd.casesOn with
 |slot i=>exact r
 |val v =>
  induction v using RV.casesOn with
  |sh d=>exact oA.mono s d r
  |ow d =>
   obtain⟨a,rfl,g,o,n,m⟩:=r;exact⟨a,rfl,k a d rfl rfl,o.mono s λ_ z=>z,λz=>n (w a z),m⟩
  |od d=>exact r.elim
theorem oE.nN:∀{hs:List Hd} {xs:List V} {a:kA},oE K H G own new Y hs xs->BG hs xs a->¬own a/\new a/\H a≠none/\G a=none
 |[],_,_,h,t=>by cases (show _=[] from h);exact t.elim
 |h::hs,_,a,r,t=>by
  obtain⟨x,r',rfl,h1,h2,h3⟩:=r;have tl:BG hs r' a->¬own a/\new a/\H a≠none/\G a=none:=λt=>oE.nN h2 t
  induction h using Hd.casesOn with
  |slot i=>exact tl t
  |val v =>
   induction v using RV.casesOn with
   |sh d=>exact tl t
   |ow d =>
    rcases t with rfl | t
    ·obtain⟨b,e,g,o,n,m⟩:=h1;cases e;obtain⟨vs,hv⟩:=o.there;exact⟨n,m,by rw[hv];simp,g⟩
    ·exact tl t
   |od d=>exact h1.elim
theorem oE.grow:∀{hs:List Hd} {xs:List V},oE K H G own new Y hs xs->∀{G2:Hp},XA G G2->(∀a,BG hs xs a->G2 a=none)->(∀a,eF a->own a)->oE K H G2 eF new Y hs xs
 |[],_,h,_,_,_,_=>h
 |h::hs,_,r,G2,s,k,w=>by
  obtain⟨x,r',rfl,h1,h2,h3⟩:=r;refine⟨x,r',rfl,h1.grow s (λa d e1 e2=>k a (by subst e1;exact .inl e2)) w,oE.grow h2 s (λa t=>k a ?_) w,h3⟩
  induction h using Hd.casesOn with
  |slot i=>exact t
  |val v =>
   induction v using RV.casesOn with
   |sh d=>exact t
   |ow d=>exact .inr t
   |od d=>exact h1.elim
def IA.nil(s:XA G H):IA K [] [] H G:=⟨rfl,s,λi d h=>by simp at h,λi d p l h=>by simp at h,λi j d p l d' p' l' a h=>by simp at h⟩
def IA.SR(r:IA K as τ H G)(h:oA K G d x):IA K (.sh d::as) (some x :: τ) H G:=by
 refine⟨by simp[r.len],r.sub,λi d' e=>?_,λi d' p l e=>?_,λi j d1 p l d2 p' l' a h1 h2 h3 h4=>?_⟩
 ·cases i with
  |zero=>simp at e;subst e;exact⟨x,rfl,h⟩
  |succ i=>simpa using r.sh i d' (by simpa using e)
 ·cases i with
  |zero=>simp at e
  |succ i=>simpa using r.ow i d' p l (by simpa using e)
 ·cases i with
  |zero=>simp at h1
  |succ i =>
   cases j with
   |zero=>simp at h2
   |succ j=>exact congrArg (·+1) (r.inj i j d1 p l d2 p' l' a (by simpa using h1) (by simpa using h2) (by simpa using h3) (by simpa using h4))
def IA.Jd(r:IA K as τ H G)(g:G a=none)(o:zG K H G a d)(n:¬AA as τ a):IA K (.ow d p l::as) (some (.ref a) :: τ) H G:=by
 refine⟨by simp[r.len],r.sub,λi d' e=>?_,λi d' p l e=>?_,λi j d1 p1 l1 d2 p' l' b h1 h2 h3 h4=>?_⟩
 ·cases i with
  |zero=>simp at e
  |succ i=>simpa using r.sh i d' (by simpa using e)
 ·cases i with
  |zero =>
   simp only[SG,lC,Sl.ow.injEq] at e;obtain⟨rfl,_,_⟩:=e;exact⟨a,rfl,g,o⟩
  |succ i=>simpa using r.ow i d' p l (by simpa using e)
 ·cases i with
  |zero =>
   simp only[SG,lC,V.ref.injEq] at h3;subst h3
   cases j with
   |zero=>rfl
   |succ j=>exact absurd ⟨j,d2,p',l',by simpa using h2,by simpa using h4⟩ n
  |succ i =>
   cases j with
   |zero =>
    simp only[SG,lC,V.ref.injEq] at h4;subst h4;exact absurd ⟨i,d1,p1,l1,by simpa using h1,by simpa using h3⟩ n
   |succ j=>exact congrArg (·+1) (r.inj i j d1 p1 l1 d2 p' l' b (by simpa using h1) (by simpa using h2) (by simpa using h3) (by simpa using h4))
def AA.cons{as:List Sl}{τ:St}{sl:Sl}{v:Option V}{a:kA}(h:AA (sl::as) (v :: τ) a):(∃d p l,sl=.ow d p l/\v=some (.ref a))\/AA as τ a:=by
 obtain⟨i,d,p,l,h1,h2⟩:=h
 cases i with
 |zero=>exact .inl ⟨d,p,l,by simpa using h1,by simpa using h2⟩
 |succ i=>exact .inr ⟨i,d,p,l,by simpa using h1,by simpa using h2⟩
structure Ks(K:iA)(U:Env)(Y:St)(H G:Hp)(hs:List Hd)(xs:List V)(as:List Sl)(U1:Env)(G2:Hp):Prop where
 gg:XA G G2
 gn:∀a,G2 a≠none->G a≠none\/AA U Y a\/BG hs xs a
 ra:IA K as (xs.map some) H G2
 rc:IA K U1 Y H G2
 ao:∀a,AA as (xs.map some) a->AA U Y a\/BG hs xs a
 an:∀a,AA as (xs.map some) a->¬AA U1 Y a
 ro:∀a,AA U1 Y a->AA U Y a
section
variable{p:Bool}{ps:List Bool}{hs:List Hd}{d:D}{U:Env}{i:Nat}
theorem aIa:aAh (p::ps) (.val (.sh d)::hs) U=(aAh ps hs U).map λ(as,U')=>(.sh d::as,U'):=rfl
theorem zHa:aAh (p::ps) (.val (.ow d)::hs) U=(aAh ps hs U).map λ(as,U')=>((if p then .ow d true false else .sh d)::as,U'):=rfl
theorem BW:aAh (p::ps) (.slot i::hs) U=(match U[i]? with
  |some (.sh d)=>(aAh ps hs U).map λ(as,U')=>(.sh d::as,U')
  |some (.ow d pin lk) =>
   match p with
   |true=>(aAh ps hs (U.set i .un)).map λ(as,U')=>(.ow d true lk::as,U')
   |false=>if pin||lk then none else(aAh ps hs (U.set i (.sh d))).map λ(as,U')=>(.sh d::as,U')
  |_=>none):=rfl
end
theorem uO:∀(hs:List Hd) (aA:List Bool) (U:Env) (G:Hp) (xs:List V) (as:List Sl) (U1:Env),IA K U Y H G->oE K H G (AA U Y) new Y hs xs->aAh aA hs U=some (as,U1) ->
  ∃G2,Ks K U Y H G hs xs as U1 G2
 |[],aA,U,G,xs,as,U1,r,h,e=>by
  cases (show xs=[] from h)
  induction aA using NC with
  |cons p ps=>cases e
  |nil =>
   replace e:some ([],U)=some (as,U1):=e;simp only[lC,nE] at e;obtain⟨rfl,rfl⟩:=e;exact⟨G,XA.refl _,λa z=>.inl z,IA.nil r.sub,r,λa ⟨i,d,p,l,z,_⟩=>by simp at z,λa ⟨i,d,p,l,z,_⟩=>by simp at z,λ_ z=>z⟩
 |.val (.sh d)::hs,aA,U,G,xs,as,U1,r,h,e=>by
  obtain⟨x,r',rfl,h1,h2,h3⟩:=h
  induction aA using NC with
  |nil=>cases e
  |cons p ps =>
   rw[aIa] at e
   cases q:aAh ps hs U with
   |none=>rw[q] at e;cases e
   |some y =>
    obtain⟨uB,U'⟩:=y;rw[q] at e;simp only[FE,lC,nE] at e;obtain⟨rfl,rfl⟩:=e;obtain⟨G2,L⟩:=uO hs ps U G r' uB U' r h2 q;refine⟨G2,L.gg,L.gn,L.ra.SR (oA.mono L.gg d h1),L.rc,λa z=>?_,λa z=>?_,L.ro⟩
    ·rcases z.cons with ⟨_,_,_,z,_⟩ | z
     ·cases z
     ·exact L.ao a z
    ·rcases z.cons with ⟨_,_,_,z,_⟩ | z
     ·cases z
     ·exact L.an a z
 |.val (.ow d)::hs,aA,U,G,xs,as,U1,r,h,e=>by
  obtain⟨x,r',rfl,h1,h2,h3⟩:=h;obtain⟨b,rfl,g,o,n,m⟩:=h1;have nt:¬BG hs r' b:=h3 d b rfl rfl
  induction aA using NC with
  |nil=>cases e
  |cons p ps =>
   rw[zHa] at e
   cases q:aAh ps hs U with
   |none=>rw[q] at e;cases e
   |some y =>
    obtain⟨uB,U'⟩:=y;rw[q] at e;simp only[FE,lC,nE] at e;obtain⟨rfl,rfl⟩:=e
    induction p using uU with
    |true =>
     obtain⟨G2,L⟩:=uO hs ps U G r' uB U' r h2 q
     have g2:G2 b=none:=by
      cases w:G2 b with
      |none=>rfl
      |some o' =>
       rcases L.gn b (by rw[w];simp) with z | z | z
       ·exact absurd g z
       ·exact absurd z n
       ·exact absurd z nt
     have nb:¬AA uB (r'.map some) b:=λz=>by
      rcases L.ao b z with z | z
      ·exact n z
      ·exact nt z
     refine⟨G2,L.gg,λa z=>?_,L.ra.Jd g2 (o.mono L.gg λ_ z=>z) nb,L.rc,λa z=>?_,λa z=>?_,L.ro⟩
     ·rcases L.gn a z with z | z | z
      ·exact .inl z
      ·exact .inr (.inl z)
      ·exact .inr (.inr (.inr z))
     ·rcases z.cons with ⟨_,_,_,_,z⟩ | z
      ·cases z;exact .inr (.inl rfl)
      ·rcases L.ao a z with z | z
       ·exact .inl z
       ·exact .inr (.inr z)
     ·rcases z.cons with ⟨_,_,_,_,z⟩ | z
      ·cases z;exact λw=>n (L.ro _ w)
      ·exact L.an a z
    |false =>
     obtain⟨ob,hv,hr⟩:=o.put
     have tb:∀a,BG hs r' a->(CA G b ob) a=none:=λa z=>by
      have hb:a≠b:=λw=>by subst w;exact nt z
      rw[yB hb];exact(h2.nN z).2.2.2
     obtain⟨G2,L⟩:=uO hs ps U (CA G b ob) r' uB U' (r.grow hv g n) (h2.grow (XA.put g) tb λ_ z=>z) q;refine⟨G2,(XA.put g).trans L.gg,λa z=>?_,L.ra.SR ?_,L.rc,λa z=>?_,λa z=>?_,L.ro⟩
     ·by_cases hb:a=b
      ·subst hb;exact .inr (.inr (.inl rfl))
      ·rcases L.gn a z with z | z | z
       ·rw[yB hb] at z;exact .inl z
       ·exact .inr (.inl z)
       ·exact .inr (.inr (.inr z))
     ·exact hr _ (Sm.of ((XA.put g).trans L.gg)) (L.gg _ _ VC)
     ·rcases z.cons with ⟨_,_,_,z,_⟩ | z
      ·simp at z
      ·rcases L.ao a z with z | z
       ·exact .inl z
       ·exact .inr (.inr z)
     ·rcases z.cons with ⟨_,_,_,z,_⟩ | z
      ·simp at z
      ·exact L.an a z
 |.slot i::hs,aA,U,G,xs,as,U1,r,h,e=>by
  obtain⟨x,r',rfl,h1,h2,h3⟩:=h;have h1:Y[i]?=some (some x):=h1
  induction aA using NC with
  |nil=>cases e
  |cons p ps =>
   rw[BW] at e;split at e
   ·rename_i d hd
    cases q:aAh ps hs U with
    |none=>rw[q] at e;cases e
    |some y =>
     obtain⟨uB,U'⟩:=y;rw[q] at e;simp only[FE,lC,nE] at e;obtain⟨rfl,rfl⟩:=e;obtain⟨G2,L⟩:=uO hs ps U G r' uB U' r h2 q;obtain⟨v,h4,h5⟩:=r.sh i d hd;rw[h1] at h4;cases h4;refine⟨G2,L.gg,L.gn,L.ra.SR (oA.mono L.gg d h5),L.rc,λa z=>?_,λa z=>?_,L.ro⟩
     ·rcases z.cons with ⟨_,_,_,z,_⟩ | z
      ·cases z
      ·exact L.ao a z
     ·rcases z.cons with ⟨_,_,_,z,_⟩ | z
      ·cases z
      ·exact L.an a z
   ·rename_i d pin lk hd;obtain⟨b,h4,g,o⟩:=r.ow i d pin lk hd;rw[h1] at h4;cases h4;have iQ:AA U Y b:=⟨i,d,pin,lk,hd,h1⟩
    have nt:¬BG hs r' b:=λz=>(h2.nN z).1 iQ
    have nu:¬AA (U.set i .un) Y b:=r.OQ hd h1
    induction p using uU with
    |true =>
     simp only at e
     cases q:aAh ps hs (U.set i .un) with
     |none=>rw[q] at e;cases e
     |some y =>
      obtain⟨uB,U'⟩:=y;rw[q] at e;simp only[FE,lC,nE] at e;obtain⟨rfl,rfl⟩:=e;obtain⟨G2,L⟩:=uO hs ps (U.set i .un) G r' uB U' (r.unset i) (h2.grow (XA.refl _) (λa z=>(h2.nN z).2.2.2) λa z=>z.unset) q
      have g2:G2 b=none:=by
       cases w:G2 b with
       |none=>rfl
       |some o' =>
        rcases L.gn b (by rw[w];simp) with z | z | z
        ·exact absurd g z
        ·exact absurd z nu
        ·exact absurd z nt
      have nb:¬AA uB (r'.map some) b:=λz=>by
       rcases L.ao b z with z | z
       ·exact nu z
       ·exact nt z
      refine⟨G2,L.gg,λa z=>?_,L.ra.Jd g2 (o.mono L.gg λ_ z=>z) nb,L.rc,λa z=>?_,λa z=>?_,λa z=>(L.ro a z).unset⟩
      ·rcases L.gn a z with z | z | z
       ·exact .inl z
       ·exact .inr (.inl z.unset)
       ·exact .inr (.inr z)
      ·rcases z.cons with ⟨_,_,_,_,z⟩ | z
       ·cases z;exact .inl iQ
       ·rcases L.ao a z with z | z
        ·exact .inl z.unset
        ·exact .inr z
      ·rcases z.cons with ⟨_,_,_,_,z⟩ | z
       ·cases z;exact λw=>nu (L.ro _ w)
       ·exact L.an a z
    |false =>
     simp only at e;split at e
     ·cases e
     ·cases q:aAh ps hs (U.set i (.sh d)) with
      |none=>rw[q] at e;cases e
      |some y =>
       obtain⟨uB,U'⟩:=y;rw[q] at e;simp only[FE,lC,nE] at e;obtain⟨rfl,rfl⟩:=e;obtain⟨ob,hv,hr⟩:=o.put
       have tb:∀a,BG hs r' a->(CA G b ob) a=none:=λa z=>by
        have hb:a≠b:=λw=>by subst w;exact nt z
        rw[yB hb];exact(h2.nN z).2.2.2
       have rb:∀G2,XA (CA G b ob) G2->oA K G2 d (.ref b):=λG2 s2=>hr _ (Sm.of ((XA.put g).trans s2)) (s2 _ _ VC)
       obtain⟨G2,L⟩:=uO hs ps (U.set i (.sh d)) (CA G b ob) r' uB U' (((r.unset i).grow hv g nu).AQ h1 (rb _ (XA.refl _)))
        (h2.grow (XA.put g) tb λa z=>z.AQ.unset) q
       refine⟨G2,(XA.put g).trans L.gg,λa z=>?_,L.ra.SR (rb G2 L.gg),L.rc,λa z=>?_,λa z=>?_,λa z=>(L.ro a z).AQ.unset⟩
       ·by_cases hb:a=b
        ·subst hb;exact .inr (.inl iQ)
        ·rcases L.gn a z with z | z | z
         ·rw[yB hb] at z;exact .inl z
         ·exact .inr (.inl z.AQ.unset)
         ·exact .inr (.inr z)
       ·rcases z.cons with ⟨_,_,_,z,_⟩ | z
        ·cases z
        ·rcases L.ao a z with z | z
         ·exact .inl z.AQ.unset
         ·exact .inr z
       ·rcases z.cons with ⟨_,_,_,z,_⟩ | z
        ·cases z
        ·exact L.an a z
   ·cases e
end
section
variable{K:iA}
def IA.keep(r:IA K U Y H G)(e:Ext own H G H' G')(n:∀a,AA U Y a->¬own a)(s:XA G' H'):IA K U Y H' G':=by
 refine⟨r.len,s,λi d h=>?_,λi d p l h=>?_,r.inj⟩
 ·obtain⟨v,h1,h2⟩:=r.sh i d h;exact⟨v,h1,oA.mono e.gg d h2⟩
 ·obtain⟨a,h1,g,o⟩:=r.ow i d p l h;have na:=n a ⟨i,d,p,l,h,h1⟩;obtain⟨vs,hv⟩:=o.there;exact⟨a,h1,e.gn a (by rw[hv];simp) g na,o.mono e.gg λo' h'=>e.hh a o' h' na⟩
def IA.tail(r:IA K (a::as) (v :: τ) H G):IA K as τ H G:=by
 refine⟨by have:=r.len;simpa using this,r.sub,λi d h=>?_,λi d p l h=>?_,λi j d p l d' p' l' b h1 h2 h3 h4=>?_⟩
 ·simpa using r.sh (i+1) d (by simpa using h)
 ·simpa using r.ow (i+1) d p l (by simpa using h)
 ·have:=r.inj (i+1) (j+1) d p l d' p' l' b (by simpa using h1) (by simpa using h2) (by simpa using h3) (by simpa using h4)
  lia
def AA.tail(h:AA as τ b):AA (a::as) (v :: τ) b:=by
 obtain⟨i,d,p,l,h1,h2⟩:=h;exact⟨i+1,d,p,l,by simpa using h1,by simpa using h2⟩
def Se{i:Nat}{ps:List Bool}{hs:List Hd}{a:Sl}{as:List Sl}{U0 U U':Env}(e:aAf (true::ps) (.slot i::hs) (a::as) U0 U=some U') :
  (∃d0 pin lk d p' l',U0[i]?=some (.ow d0 pin lk)/\a=.ow d p' l'/\aAf ps hs as U0 (U.set i (.ow d pin lk))=some U')\/(∀d p l,U0[i]?≠some (.ow d p l))/\aAf ps hs as U0 U=some U':=by
 replace e:(match (generalizing:=false) U0[i]?,a with
  |some (.ow _ pin lk),.ow d _ _=>aAf ps hs as U0 (U.set i (.ow d pin lk))
  |some (.ow _ _ _),_=>none
  |_,_=>aAf ps hs as U0 U)=some U':=e
 generalize U0[i]?=o at e ⊢
 induction o using tI with
 |none=>exact .inr ⟨λ_ _ _ z=>(nomatch z),e⟩
 |some s=>cases s with
  |ow d0 pin lk=>cases a with
   |ow d p' l'=>exact .inl ⟨_,_,_,_,_,_,rfl,rfl,e⟩
   |_=>exact nomatch (show(none:Option Env)=some U' from e)
  |_=>exact .inr ⟨λ_ _ _ z=>(nomatch z),e⟩
theorem F4:∀(hs:List Hd) (aA:List Bool) (as:List Sl) (xs:List V) (U U':Env),IA K as (xs.map some) H G->IA K U Y H G->(∀a,AA as (xs.map some) a->¬AA U Y a)->oE K H0 G0 own new Y hs xs ->
  aAf aA hs as U0 U=some U'->IA K U' Y H G/\∀a,AA U' Y a->AA U Y a\/AA U0 Y a
 |[],aA,as,xs,U,U',ra,r,n,h,e=>by
  induction aA using NC with
  |nil =>
   induction as using NC with
   |nil =>
    cases e;exact⟨r,λ_ z=>.inl z⟩
   |cons a as=>cases e
  |cons p ps=>cases p<;>cases as<;>cases e
 |h::hs,aA,as,xs,U,U',ra,r,n,hh,e=>by
  obtain⟨x,r',rfl,h1,h2,h3⟩:=hh
  induction aA using NC with
  |nil=>cases e
  |cons p ps =>
   induction as using NC with
   |nil=>cases p<;>cases h<;>cases e
   |cons a uB =>
    have skip:aAf ps hs uB U0 U=some U'->IA K U' Y H G/\∀a,AA U' Y a->AA U Y a\/AA U0 Y a:=λe' =>
     F4 hs ps uB r' U U' ra.tail r (λb z=>n b z.tail) h2 e'
    induction p using uU with
    |false=>cases h<;>exact skip e
    |true =>
     induction h using Hd.casesOn with
     |val v=>exact skip e
     |slot i =>
      have h1:Y[i]?=some (some x):=h1;rcases Se e with ⟨_,pin,lk,d,p',l',hi,rfl,eg⟩ | ⟨_,eg⟩
      ·replace e:=eg;obtain⟨b,hb,g,o⟩:=ra.ow 0 d p' l' rfl;simp only[AB,SG,lC] at hb;subst hb;have nb:¬AA U Y b:=n b ⟨0,d,p',l',rfl,rfl⟩;have r2:IA K (U.set i (.ow d pin lk)) Y H G:=(r.unset i).DO h1 g o λz=>nb z.unset
       obtain⟨r3,r4⟩:=F4 hs ps uB r' (U.set i (.ow d pin lk)) U' ra.tail r2 (λc z w=>by
        rcases w.DO h1 with rfl | w
        ·obtain⟨j,d2,p2,l2,z1,z2⟩:=z
         have:=ra.inj 0 (j+1) d p' l' d2 p2 l2 c rfl (by simpa using z1) rfl (by simpa using z2)
         lia
        ·exact n c z.tail w.unset) h2 e
       refine⟨r3,λc z=>?_⟩;rcases r4 c z with z | z
       ·rcases z.DO h1 with rfl | z
        ·exact .inr ⟨i,_,pin,lk,hi,h1⟩
        ·exact .inl z.unset
       ·exact .inr z
      ·exact skip eg
def QJ(aA:List Bool)(hs:List Hd)(i:Nat):Prop:=∃j:Nat,aA[j]?=some true/\hs[j]?=some (.slot i)
def QJ.cons{p:Bool}{ps:List Bool}{h:Hd}{hs:List Hd}{i:Nat}(l:QJ ps hs i):QJ (p::ps) (h::hs) i:=by
 obtain⟨j,h1,h2⟩:=l;exact⟨j+1,by simpa using h1,by simpa using h2⟩
theorem ji:∀(hs:List Hd) (aA:List Bool) (U:Env) (as:List Sl) (U1:Env),aAh aA hs U=some (as,U1)->∀i:Nat,EF U[i]? U1[i]?\/(QJ aA hs i/\∃d p l,U[i]?=some (.ow d p l))
 |[],aA,U,as,U1,e,i=>by
  cases aA<;>cases e;exact .inl (EF.refl _)
 |h::hs,aA,U,as,U1,e,i=>by
  induction aA using NC with
  |nil=>cases h with
   |slot i=>cases e
   |val v=>cases v<;>cases e
  |cons p ps =>
   have fin:∀{U':Env} {g:Sl},(aAh ps hs U').map (λ(as,U')=>(g::as,U'))=some (as,U1)->EF U'[i]? U1[i]?\/(QJ ps hs i/\∃d p l,U'[i]?=some (.ow d p l)):=by
    intro U' g e
    cases q:aAh ps hs U' with
    |none=>rw[q] at e;cases e
    |some y =>
     obtain⟨uB,U2⟩:=y;rw[q] at e;simp only[FE,lC,nE] at e;obtain⟨_,rfl⟩:=e;exact ji hs ps U' uB U2 q i
   have same:∀{g:Sl},(aAh ps hs U).map (λ(as,U')=>(g::as,U'))=some (as,U1)->EF U[i]? U1[i]?\/(QJ (p::ps) (h::hs) i/\∃d p l,U[i]?=some (.ow d p l)):=by
    intro g e;rcases fin e with z | ⟨z,w⟩
    ·exact .inl z
    ·exact .inr ⟨z.cons,w⟩
   induction h using Hd.casesOn with
   |val v=>cases v<;>first | exact same e | cases e
   |slot i0 =>
    rw[BW] at e;split at e
    ·exact same e
    ·rename_i d pin lk hd
     induction p using uU with
     |true =>
      simp only at e;by_cases hi:i=i0
      ·subst hi;exact .inr ⟨⟨0,rfl,rfl⟩,d,pin,lk,hd⟩
      ·have:=fin e
       rw[jF (λz=>hi z.symm)] at this;rcases this with z | ⟨z,w⟩
       ·exact .inl z
       ·exact .inr ⟨z.cons,w⟩
     |false =>
      simp only at e;split at e
      ·cases e
      ·rename_i hp;simp only[MK,not_or,za] at hp;have me:vE U (U.set i0 (.sh d)):=vE.set (by rw[hd];exact hp.1);rcases fin e with z | ⟨z,d',p',l',w⟩
       ·exact .inl ((me i).trans z)
       ·have:=me i
        rw[w] at this;obtain⟨d2,e2⟩:=this.Cj;exact .inr ⟨z.cons,d2,p',l',e2⟩
    ·cases e
theorem E4:∀(hs:List Hd) (aA:List Bool) (as:List Sl) (U U':Env),aAf aA hs as U0 U=some U'->∀i:Nat,(U'[i]?=U[i]?\/∃d d' p l,U0[i]?=some (.ow d p l)/\U'[i]?=some (.ow d' p l)) /\
  (QJ aA hs i->(∃d p l,U0[i]?=some (.ow d p l))->i<U.length->∃d d' p l,U0[i]?=some (.ow d p l)/\U'[i]?=some (.ow d' p l))
 |[],aA,as,U,U',e,i=>by
  induction aA using NC with
  |nil =>
   induction as using NC with
   |nil =>
    cases e;exact⟨.inl rfl,λ⟨j,h,_⟩=>by simp at h⟩
   |cons a as=>cases e
  |cons p ps=>cases p<;>cases as<;>cases e
 |h::hs,aA,as,U,U',e,i=>by
  induction aA using NC with
  |nil=>cases e
  |cons p ps =>
   induction as using NC with
   |nil=>cases p<;>cases h<;>cases e
   |cons a uB =>
    have Fo:¬(p=true/\h=.slot i)->QJ (p::ps) (h::hs) i->QJ ps hs i:=λn hz=>by
     obtain⟨j,h1,h2⟩:=hz
     cases j with
     |zero =>
      simp only[SG,lC] at h1 h2;exact absurd ⟨h1,h2⟩ n
     |succ j=>exact⟨j,by simpa using h1,by simpa using h2⟩
    have skip:¬(p=true/\h=.slot i)\/¬(∃d p l,U0[i]?=some (.ow d p l))->aAf ps hs uB U0 U=some U'->(U'[i]?=U[i]?\/∃d d' p l,U0[i]?=some (.ow d p l)/\U'[i]?=some (.ow d' p l)) /\
      (QJ (p::ps) (h::hs) i->(∃d p l,U0[i]?=some (.ow d p l))->i<U.length->∃d d' p l,U0[i]?=some (.ow d p l)/\U'[i]?=some (.ow d' p l)):=λn e'=>by
     obtain⟨h1,h2⟩:=E4 hs ps uB U U' e' i;refine⟨h1,λl o=>?_⟩;rcases n with n | n
     ·exact h2 (Fo n l) o
     ·exact absurd o n
    induction p using uU with
    |false=>cases h<;>exact skip (.inl (by simp)) e
    |true =>
     induction h using Hd.casesOn with
     |val v=>exact skip (.inl (by simp)) e
     |slot i0 =>
      rcases Se e with ⟨d0,pin,lk,d,p',l',hi,rfl,eg⟩ | ⟨hn1,eg⟩
      ·replace e:=eg;obtain⟨h1,h2⟩:=E4 hs ps uB _ U' e i;by_cases cQ:i=i0
       ·subst cQ;refine⟨?_,λl o hl=>?_⟩
        ·rcases h1 with h1 | h1
         ·by_cases hl:i<U.length
          ·rw[YK hl] at h1;exact .inr ⟨_,_,_,_,hi,h1⟩
          ·exact .inl (by rw[h1,WI (by rw[VG];lia),WI (by lia)])
         ·exact .inr h1
        ·rcases h1 with h1 | h1
         ·rw[YK hl] at h1;exact⟨_,_,_,_,hi,h1⟩
         ·exact h1
       ·rw[jF (λz=>cQ z.symm)] at h1;refine⟨h1,λl o hl=>h2 (Fo (λz=>cQ (by have:=z.2;simp at this;exact this.symm)) l) o (by rw[VG];exact hl)⟩
      ·refine skip ?_ eg;by_cases cQ:i=i0
       ·subst cQ;refine .inr λhz=>?_
        obtain⟨d,p,l,z⟩:=hz;exact hn1 d p l z
       ·exact .inl λz=>cQ (by have:=z.2;simp at this;exact this.symm)
def A0(a:GA K U0 Y H0 G0 U H G)(h:oE K H G (AA U Y) (hE H0) Y hs xs)(e:IF aA f hs U=some (.ok v,U')) :
  ∃as G2 uB,IA K as (xs.map some) H G2/\as.length=aA.length/\f as=some (.ok v,uB)/\(XA G G2/\∀c,AA as (xs.map some) c->AA U Y c\/BG hs xs c)/\∀x H' G',GA K as (xs.map some) H G2 uB H' G'->RC K H' G' (AA uB (xs.map some)) (hE H) v x ->
   GA K U0 Y H0 G0 U' H' G'/\RC K H' G' (AA U' Y) (hE H0) v x:=by
 unfold IF at e
 cases q:aAh aA hs U with
 |none=>rw[q] at e;cases e
 |some y =>
  obtain⟨as,U1⟩:=y;rw[q] at e;simp only at e
  cases q2:f as with
  |none=>rw[q2] at e;cases e
  |some y =>
   obtain⟨o,uB⟩:=y;rw[q2] at e;simp only at e
   cases q3:aAf aA hs uB U U1 with
   |none=>rw[q3] at e;cases e
   |some U2 =>
    rw[q3] at e;simp only[FE,lC,nE] at e;obtain⟨rfl,rfl⟩:=e;obtain⟨G2,L⟩:=uO hs aA U G xs as U1 a.wA h q;refine⟨as,G2,uB,L.ra, ?_,q2,⟨L.gg,L.ao⟩,λx H' G' b hv=>?_⟩
    ·have:∀(hs:List Hd) (aA:List Bool) (U:Env) (as:List Sl) (U1:Env),aAh aA hs U=some (as,U1)->as.length=aA.length:=by
      intro hs
      induction hs with
      |nil =>
       intro aA U as U1 e;cases aA<;>cases e;rfl
      |cons h hs ih =>
       intro aA U as U1 e
       induction aA using NC with
       |nil=>cases h with
        |slot i=>cases e
        |val v=>cases v<;>cases e
       |cons p ps =>
        have fin:∀{o:Option (List Sl×Env)} {g:Sl},(o.map λ(as,U')=>(g::as,U'))=some (as,U1)->(∀uB U',o=some (uB,U')->uB.length=ps.length)->as.length=(p::ps).length:=by
         intro o g e k
         induction o using tI with
         |none=>cases e
         |some y =>
          obtain⟨uB,U'⟩:=y;simp only[FE,lC,nE] at e;rw[<- e.1,YB,YB,k uB U' rfl]
        induction h using Hd.casesOn with
        |slot i =>
         rw[BW] at e;split at e
         ·exact fin e λuB U' z=>ih _ _ _ _ z
         ·split at e
          ·exact fin e λuB U' z=>ih _ _ _ _ z
          ·split at e
           ·cases e
           ·exact fin e λuB U' z=>ih _ _ _ _ z
         ·cases e
        |val v =>
         induction v using RV.casesOn with
         |sh d=>exact fin e λuB U' z=>ih _ _ _ _ z
         |ow d=>exact fin e λuB U' z=>ih _ _ _ _ z
         |od d=>cases e
     exact this hs aA U as U1 q
    ·have own_there:∀c,AA as (xs.map some) c->H c≠none:=λc z=>(L.ra.owned z).1
     have rc:IA K U1 Y H' G':=L.rc.keep b.ext (λc z w=>L.an c w z) b.wA.sub;obtain⟨r3,r4⟩:=F4 hs aA uB xs U1 U2 b.wA rc (λc z w=>L.an c (b.own c z) w) h q3
     have E7:∀c,AA U2 Y c->AA U Y c:=λc z=>by
      rcases r4 c z with z | z
      ·exact L.ro c z
      ·exact z
     have iQ:∀c,AA as (xs.map some) c->AA U0 Y c\/H0 c=none:=λc z=>by
      rcases L.ao c z with z | z
      ·exact .inl (a.own c z)
      ·exact .inr (h.nN z).2.1
     have Jz:vE U U2:=λi=>by
      obtain⟨g1,g2⟩:=E4 hs aA uB U1 U2 q3 i;rcases ji hs aA U as U1 q i with z | ⟨z,o⟩
      ·rcases g1 with g1 | ⟨d,d',p,l,w1,w2⟩
       ·rw[g1];exact z
       ·rw[w1,w2];exact⟨rfl,rfl⟩
      ·have hl:i<U1.length:=by
        obtain⟨d,p,l,o⟩:=o;rw[L.rc.len,<- a.wA.len];exact(bE.mp o).1
       obtain⟨d,d',p,l,w1,w2⟩:=g2 z o hl;rw[w1,w2];exact⟨rfl,rfl⟩
     refine⟨⟨r3,⟨a.ext.gg.trans ((Sm.of L.gg).trans b.ext.gg),λc o hc nc=>?_,λc z=>a.ext.hx c (b.ext.hx c z),λc hc gc nc=>?_⟩,a.bK.trans Jz⟩, ?_⟩
     ·refine b.ext.hh c o (a.ext.hh c o hc nc) λz=>?_
      rcases iQ c z with z | z
      ·exact nc z
      ·rw[hc] at z;cases z
     ·have UH:H c≠none:=λz=>hc (a.ext.hx c z)
      have g1:G c=none:=a.ext.gn c hc gc nc
      have g2:G2 c=none:=by
       cases w:G2 c with
       |none=>rfl
       |some o =>
        rcases L.gn c (by rw[w];simp) with z | z | z
        ·exact absurd g1 z
        ·exact absurd (a.own c z) nc
        ·exact absurd (h.nN z).2.1 hc
      refine b.ext.gn c UH g2 λz=>?_
      rcases iQ c z with z | z
      ·exact nc z
      ·exact hc z
     ·induction v using RV.casesOn with
      |sh d=>exact hv
      |ow d =>
       obtain⟨c,rfl,g,o,n,m⟩:=hv;exact⟨c,rfl,g,o,λz=>(a.wA.owned (E7 c z)).1 m,a.ext.hx c m⟩
      |od d =>
       obtain⟨c,rfl,g,o,n,m,vs,hv,hr⟩:=hv;exact⟨c,rfl,g,o,λz=>(a.wA.owned (E7 c z)).1 m,a.ext.hx c m,vs,hv,λx hx=>let ⟨b,ws,h1,h2,h3,h4,h5,h6⟩:=hr x hx;⟨b,ws,h1,h2,h3,λz=>(a.wA.owned (E7 b z)).1 h5,a.ext.hx b h5,h6⟩⟩
end
inductive GV where
 |no | c (d:D) | fn (f:String) | blt | cls (ns:List bA) | yE (tb:List (bA×String)) | sub (s n:List bA) | AJ (s n:List bA) | exc | cK | NA (cs:List bA) | obj (f:String) | fJ (cs:List bA) | IV (ks:List bA) (vs:List Int)
structure CC where
 N:List bA
 names:List (bA×JJ)
 gl:bA->GV
 top:Bool
noncomputable def CC.Bg(Z:CC)(x:bA):Bool:=Z.names.lookup x==some .globalImplicit
noncomputable def CC.Dg(Z:CC)(x:bA):Bool:=Z.names.lookup x==some .local||Z.names.lookup x==some .cell||Z.names.lookup x==some .free
noncomputable def NN(x:bA):Bool:=x==("__debug__":bA)||x==("__classdict__":bA)||x==("__name__":bA)
def CC.slot(Z:CC)(x:bA):Option Nat:=if NN x then none else if Z.Dg x then Z.N.idxOf? x else none
def CC.glob(Z:CC)(x:bA):GV:=if NN x then .no else if Z.Bg x then Z.gl x else .no
def QR(Z:CC)(x:bA):E :=
 match Z.slot x with
 |some i=>.v i
 |none=>match Z.glob x with
  |.c d=>.c d
  |_=>.OA
def RZ:Const->E
 |.none=>.c .pA
 |.bool b=>.c (.bl b)
 |.int i=>.c (.int i)
 |.str s=>if gP s then .c (.str s) else .OA
 |_=>.OA
noncomputable def MZ(f:bA):Option BI :=
 if f=("len":bA) then some .len else if f=("abs":bA) then some .abs else if f=("int":bA) then some .int else if f=("list":bA) then some .list
 else if f=("tuple":bA) then some .tuple else if f=("min":bA) then some .min else if f=("max":bA) then some .max else if f=("all":bA) then some .all else if f=("sorted":bA) then some .sorted else if f=("dict":bA) then some .dict else none
def LZ(f:bA):Option BI:=MZ f
def yX(Z:CC):DA->Option Ty
 |.Name x _=>match Z.glob x with
  |.blt=>if x=("int":bA) then some .int else if x=("bool":bA) then some .bool else if x=("tuple":bA) then some .tuple else none
  |_=>none
 |_=>none
def vM{p:Prop}(h:false=true):p:=nomatch h
noncomputable def aAz:DA->Option bA
 |.Name x _=>some x
 |_=>none
def dKa{e:DA}{x:bA}(h:aAz e=some x):∃p,e=.Name x p:=by
 induction e using mF<;>first | exact ZM h | exact⟨_,congrArg (λy=>Expr.Name y _) (eE h)⟩
noncomputable def lT:E->E
 |.UD=>.OA
 |c=>c
noncomputable def aAd:DA->Bool
 |.Starred _ _=>false
 |_=>true
noncomputable def col(x:bA):bA:=⟨#[58]++x.cps⟩
noncomputable def cat(x:bA):bA:=⟨#[94]++x.cps⟩
noncomputable def bXa(Z:CC)(t:DA)(a:E):E:=.OA
def rW(Z:CC)(args:List DA)(cs:List E):E :=
 match args,cs with
 |[_,t],[a,_]=>(match yX Z t with | some ty=>.JI a [ty] | none=>bXa Z t a)
 |_,_=>.OA
noncomputable def aAS:DA->Option Int
 |.Constant (.int a) _ _=>some a
 |_=>none
noncomputable def ZZ(cs es:List E):E:=match cs,es with
 |[c],[e]=>.TR c e
 |_,_=>.OA
noncomputable def Jx:E:=.OA
def Kx(k v:DA)(cs es:List E):E:=ZZ cs es
def Sd(ks:List (Option DA))(vs:List DA)(cs es:List E):E:=match ks with
 |[]=>(match vs with | []=>Jx | _::_=>.OA)
 |k::r=>(match r with
  |_::_=>.OA
  |[]=>(match k with
   |none=>.OA
   |some k=>(match vs with
    |[]=>.OA
    |v::r=>(match r with | _::_=>.OA | []=>Kx k v cs es))))
noncomputable def pDa(Z:CC):Bool:=match Z.gl ("{}":bA) with
 |.blt=>true
 |_=>false
noncomputable def I0(z:Bool)(ks:List (Option DA))(vs:List DA)(c:E):E:=match z,ks,vs with
 |true,[],[]=>.aK
 |_,_,_=>c
noncomputable def dot(m:bA):bA:=⟨#[46]++m.cps⟩
noncomputable def oV(x:bA):bA:=⟨#[61]++x.cps⟩
noncomputable def Io(Z:CC)(x m:bA)(wB GB:IC):E:=.OA
noncomputable def xYa(Z:CC)(x m:bA)(wB GB:IC)(a:DA):E:=.OA
noncomputable def Td(ks:List (Option DA))(vs:List DA)(es:List E)(c:E):E:=c
def Ho(Z:CC)(x:bA)(a:DA):E:=match aAz a with
 |some y=>(match Z.slot x,Z.slot y with | some i,some j=>.OT i j | _,_=>.OA)
 |none=>.OA
def xZ(Z:CC)(x m:bA)(wB GB:IC)(a:DA):E:=if(wB.endLine==GB.line)&&(m==("update":bA)) then Ho Z x a else xYa Z x m wB GB a
def wZ(Z:CC)(x m:bA)(wB GB:IC)(a:DA)(c:E):E :=
 if aAd a&&(wB.endLine==GB.line)&&(m==("append":bA)) then(match Z.slot x with | some i=>.app i c | none=>.OA) else if aAd a&&(wB.endLine==GB.line)&&(m==("extend":bA)) then .OA else if aAd a&&(wB.endLine==GB.line)&&(m==("pop":bA)) then .OA else xZ Z x m wB GB a
def vZ(Z:CC)(x m:bA)(wB GB:IC):E:=if(wB.endLine==GB.line)&&(m==("bit_length":bA)) then .OA else
 if(wB.endLine==GB.line)&&(m==("pop":bA)) then(match Z.slot x with | some i=>.uT i | none=>.OA) else Io Z x m wB GB
def wc(Z:CC)(x m:bA)(wB GB:IC)(args:List DA)(cs:List E):E:=match args,cs with
 |[a],[c]=>wZ Z x m wB GB a c
 |[],[]=>vZ Z x m wB GB
 |_,_=>.OA
def yZ(Z:CC)(x m:bA)(wB GB:IC)(args:List DA)(cs:List E):E :=
 match Z.gl (dot m) with
 |.yE tb=>if args.all aAd&&(wB.endLine==GB.line)&&decide (args.length<29) then(match Z.slot x with | some i=>.uJ i m tb cs | none=>.OA) else .OA
 |_=>wc Z x m wB GB args cs
def d7(Z:CC)(m:bA)(wB GB:IC)(args:List DA)(a:E)(cs:List E):E :=
 match Z.gl (dot m) with
 |.yE tb=>if args.all aAd&&(wB.endLine==GB.line)&&decide (args.length<29) then .OA else .OA
 |_=>.OA
noncomputable def jT:DA->Option (bA×IC)
 |.Name f p=>some (f,p)
 |_=>none
def rO:DA->Option ((bA×IC)×List DA×IC)
 |.Call fn args zK pos=>(match zK with
  |[]=>(jT fn).map λq=>(q,args,pos)
  |_::_=>none)
 |_=>none
def f6(e:DA):Bool:=match rO e with
 |some (f,[_],_)=>f.1==("set":bA)
 |_=>false
def gi(args:List DA)(cs:List E):E :=
 match args,cs with
 |[a],[.sQ c]=>if f6 a then .zO c else .bif .len cs
 |_,_=>.bif .len cs
noncomputable def aAT(cs:List E):E :=
 match cs with
 |[c]=>.sQ c
 |_=>.OA
noncomputable def hIa(args:List DA)(cs:List E):E:=.bif .list cs
def OR(f:bA)(args:List DA)(cs:List E):E :=
 if f=("len":bA) then gi args cs else if f=("set":bA) then aAT cs else if f=("range":bA) then .OA else if f=("list":bA) then hIa args cs else(match LZ f with | some b=>.bif b cs | none=>.OA)
noncomputable def qW:DA->Bool
 |.ListComp _ _ _ _=>true
 |_=>false
noncomputable def SE:DA->Bool
 |.ListComp _ _ _ _=>false
 |.SetComp _ _ _ _=>false
 |.DictComp _ _ _ _ _=>false
 |_=>true
noncomputable def j7:DA->Bool
 |.Slice _ _ _ _=>false
 |_=>true
noncomputable def wQ:DA->Bool
 |.Set _ _ _=>false
 |_=>true
noncomputable def SW:DA->Bool
 |.Tuple _ _ _=>false
 |_=>true
noncomputable def CC.pO(Z:CC)(x:bA):Bool:=Z.names.lookup x==some .local||(Z.top&&Z.names.lookup x==some .cell)
def CC.mG(Z:CC)(x:bA):Option Nat:=if Z.pO x then Z.slot x else none
def W8(Z:CC):DA->Option Nat
 |.Name x _=>Z.mG x
 |_=>none
def QL(Z:CC):List DA->Option (List Nat)
 |[]=>some []
 |e::es=>(W8 Z e).bind λi=>(QL Z es).map (i :: ·)
def jI(Z:CC):DA->Option (Bool×List Nat)
 |.Name x _=>(Z.mG x).map λi=>(true,[i])
 |.Tuple es _ _=>(QL Z es).map λis=>(false,is)
 |_=>none
noncomputable def aAR:List O->Option O
 |[]=>none
 |a::r=>(match r with | []=>some a | _::_=>none)
def sW:DA->Option (bA×DA×bA×Int)
 |.Call fn args zK _=>(jT fn).bind λq=>(aAR args).bind λa=>(aAR zK).bind λk=>k.arg.bind λx=>(aAS k.value).map λc=>(q.1,a,x,c)
 |_=>none
def BL(Z:CC)(e:DA):Option (XF×List DA):=match rO e with
 |some x=>if(x.1.1==("range":bA)) then
   (match Z.glob x.1.1 with
   |.blt=>if x.2.1.all aAd&&(x.2.1.length==1||x.2.1.length==2) then some (.jC,x.2.1) else none
   |_=>none)
  else if(x.1.1==("enumerate":bA)) then
   (match Z.glob x.1.1 with
   |.blt=>if x.2.1.all aAd&&(x.2.1.length==1) then some (.enum 0,x.2.1) else none
   |_=>none)
  else some (.of,[e])
 |none=>(match sW e with
  |some x=>if x.1==("enumerate":bA)&&x.2.2.1==("start":bA)&&aAd x.2.1&&x.2.2.2==1 then
    (match Z.glob x.1 with
    |.blt=>some (.enum 1,[x.2.1])
    |_=>none)
   else none
  |none=>if wQ e then some (.of,[e]) else none)
def g7(h:jT e=some x):e=.Name x.1 x.2:=by
 unfold jT at h;split at h
 ·cases h;rfl
 ·cases h
def k6(h:rO e=some ((f,p),args,pos)):e=.Call (.Name f p) args [] pos:=by
 unfold rO at h;split at h
 ·rename_i fn as zK ps
  cases zK with
  |nil =>
   obtain⟨q,hq,h⟩:=AF.mp h;cases h;rw[g7 hq]
  |cons=>cases h
 ·cases h
def zw(h:aAS e=some a):∃j q,e=.Constant (.int a) j q:=by
 unfold aAS at h;split at h
 ·cases h;exact⟨_,_,rfl⟩
 ·cases h
def xj(h:aAR l=some a):l=[a]:=by
 cases l with
 |nil=>cases h
 |cons b r =>
  cases r with
  |nil=>cases h;rfl
  |cons=>cases h
def zDa(h:sW e=some (f,a,x,c)):∃p j q kp pos,e=.Call (.Name f p) [a] [⟨some x,.Constant (.int c) j q,kp⟩] pos:=by
 unfold sW at h;split at h
 ·obtain⟨q,hq,h⟩:=nM.mp h;obtain⟨b,hb,h⟩:=nM.mp h;obtain⟨k,hk,h⟩:=nM.mp h;obtain⟨y,hy,h⟩:=nM.mp h;obtain⟨d,hd,h⟩:=AF.mp h;cases h;obtain⟨j,z,e⟩:=zw hd;obtain⟨ka,kv,kp⟩:=k;cases hy;cases e;rw[g7 hq,xj hb,xj hk];exact⟨_,_,_,_,_,rfl⟩
 ·cases h
def c6:DA->Bool
 |.Slice none none (some (.UnaryOp .USub (.Constant (.int i) _ _) _)) _=>i==1
 |_=>false
noncomputable def aAu(scope:tG):List bA:=(scope.names.filter λp=>p.2==NameKind.free).map (·.1)
noncomputable def aAq(scope:tG):List bA:=(scope.names.filter λp=>p.2==NameKind.local).map (·.1)
def CC.inner(Z:CC)(scope:tG):CC :=
 ⟨aAu scope++aAq scope,scope.names.map λ(n,k)=>if(k==NameKind.free&&Z.names.lookup n==some .cell) then(n,NameKind.cell) else(n,k),Z.gl,false⟩
def CC.wK(Z:CC):List bA->Option (List Nat)
 |[]=>some []
 |x::xs=>(Z.N.idxOf? x).bind λi=>(Z.wK xs).map (i :: ·)
def CC.o8(Z:CC)(scope:tG):Bool:=(scope.kind==ScopeKind.function)&&(scope.names.all λp=>p.2 != NameKind.cell)&&(scope.names.all λp=>p.2 != NameKind.local||scope.names.lookup p.1==some NameKind.local) &&
 (scope.names.all λp=>p.2 != NameKind.free||(scope.names.lookup p.1==some NameKind.free&&(Z.names.lookup p.1==some NameKind.cell||Z.names.lookup p.1==some NameKind.free)))&&decide (aAu scope++aAq scope).Nodup
noncomputable def Kg(k:XF)(ci:E)(EG:List E):List E:=match k with
 |.of=>[ci]
 |_=>EG
noncomputable def PL(k:XF)(one:Bool):Bool:=match k with
 |.enum _=>!one
 |_=>true
noncomputable def dVa(iter:DA):Bool:=false
def S6(Z:CC):DA->Option Nat
 |.Name x _=>if x==("listed":bA)||x==("numbers":bA)||x==("_law_numbers":bA) then Z.slot x else none
 |_=>none
def TN(Z:CC)(scope:tG)(tg iter:DA)(ci:E)(EG cond:List E)(ce:E):E :=
 if Z.o8 scope then
  match Z.wK (aAu scope),jI (Z.inner scope) tg,BL Z iter with
  |some imp,some (one,is),some (k,_)=>if dVa iter then(if one==(is.length==1) then .comp ce is .sig [ci] cond imp (aAq scope).length else .OA) else match S6 Z iter with | some i=>(if one==(is.length==1) then .comp ce is .key [.uD i] cond imp (aAq scope).length else .OA) | none=>if one==(is.length==1)&&PL k one&&k != .enum 1 then .comp ce is k (Kg k ci EG) cond imp (aAq scope).length else .OA
  |_,_,_=>.OA
 else .OA
mutual
noncomputable def cE(Z:CC):DA->E
 |.Name x _=>QR Z x
 |.Constant c _ _=>RZ c
 |.Tuple es _ _=>if es.all aAd then .t (VB Z es) else .OA
 |.List es _=>if es.all aAd then .l (VB Z es) else .OA
 |.Dict ks vs _=>Td ks vs (VB Z vs) (I0 (pDa Z) ks vs (Sd ks vs (Tc Z ks) (VB Z vs)))
 |.BinOp a op b _=>.qA op (cE Z a) (cE Z b)
 |.UnaryOp .Not a _=>.not (cE Z a)
 |.UnaryOp .USub a _=>.neg (cE Z a)
 |.Compare a [op] [b] _=>if zN op b then .OA else .uA op (cE Z a) (cE Z b)
 |.Compare a [op,xC] [b,c] _=>if zN xC c then .OA else .aG op xC (cE Z a) (cE Z b) (cE Z c)
 |.BoolOp .And (a::b::r) _=>.and (cE Z a) (QZ Z (b::r))
 |.BoolOp .Or (a::b::r) _=>.or (cE Z a) (TZ Z (b::r))
 |.IfExp c a b _=>.OA
 |.Subscript a (.Slice lo hi none _) _=>.sl (cE Z a) (cO Z lo) (cO Z hi)
 |.Subscript a i _=>if c6 i then .rev (cE Z a) else .ix (cE Z a) (cE Z i)
 |.Call (.Name f _) args [] _=>if args.all aAd&&decide (args≠[]) then
   match Z.glob f with
   |.fn g=>.call g (VB Z args)
   |.cls ns=>.make f ns (VB Z args)
   |.blt=>if f=("isinstance":bA) then rW Z args (VB Z args)
     else OR f args (VB Z args)
   |_=>.OA
  else .OA
 |.Call (.Attribute (.Name x _) m wB) args [] GB=>yZ Z x m wB GB args (VB Z args)
 |.Call (.Attribute (.Call g (a0::OU) kw p) m wB) args [] GB=>d7 Z m wB GB args (cE Z (.Call g (a0::OU) kw p)) (VB Z args)
 |.Attribute (.Name x _) f _=>.fld (QR Z x) f
 |.ListComp QA [⟨tg,iter,[],0⟩] scope _=>TN Z scope tg iter (cE Z iter) (XU Z iter) [] (cE (Z.inner scope) QA)
 |.ListComp QA [⟨tg,iter,[c],0⟩] scope _=>TN Z scope tg iter (cE Z iter) (XU Z iter) [cE (Z.inner scope) c] (cE (Z.inner scope) QA)
 |_=>.OA
noncomputable def XU(Z:CC):DA->List E
 |.Call _ args _ _=>VB Z args
 |_=>[]
noncomputable def VB(Z:CC):List DA->List E
 |[]=>[]
 |e::es=>cE Z e::VB Z es
noncomputable def Tc(Z:CC):List (Option DA)->List E
 |[]=>[]
 |o::os=>cO Z o::Tc Z os
noncomputable def QZ(Z:CC):List DA->E
 |[]=>.OA
 |[a]=>cE Z a
 |a::b::r=>.and (cE Z a) (QZ Z (b::r))
noncomputable def TZ(Z:CC):List DA->E
 |[]=>.OA
 |[a]=>cE Z a
 |a::b::r=>.or (cE Z a) (TZ Z (b::r))
noncomputable def cO(Z:CC):Option DA->E
 |none=>.UD
 |some e=>lT (cE Z e)
end
def DQ(K:iA)(n:Nat)(run:List Sl->FA RV):Sp:=λvs H Q _=>vs.length=n/\∃(as:List Sl) (G:Hp) (v:RV) (uB:List Sl),IA K as (vs.map some) H G/\as.length=n/\run as=some (.ok v,uB) /\
 ∀x H' G',GA K as (vs.map some) H G uB H' G'->RC K H' G' (AA uB (vs.map some)) (hE H) v x->Q x H'
structure FnAt(X:Cx)(K:iA)(x:bA)(n:Nat)(run:List Sl->FA RV):Prop where
 ex:∃(fa:kA) (fd:DH) (ps:List bA) (k:Nat),VF X.prog X.w X.K X.mg X.base YG k fa fd ps (DQ K n run)/\YC k X.A/\X.mg x=some (.ref fa)/\qI X.K (.ref fa)=true/\aAw X.K fd ps []
def Kl(K:iA)(ns:List bA):Sp:=λvs H Q _=>∃a C dx xs,vs=.ref a::xs/\xs.length=ns.length/\H a=some (.ins C dx [])/\mP K C ns/\Q .pA (CA H a (.ins C dx (ns.zip xs)))
structure dZ(X:Cx)(K:iA)(x:bA)(ns:List bA):Prop where
 ex:∃(Ca fa:kA) (fd:DH) (ps:List bA),ED K nC x=some (some (.ref Ca))/\X.mg x=some (.ref Ca)/\Mk X.K Ca fa/\mP K Ca ns/\VF X.prog X.w X.K X.mg X.base YG 1 fa fd ps (Kl K ns)/\aAw X.K fd ps []
structure iZ(X:Cx)(K:iA)(x:bA)(n:Nat)(run:List Sl->FA RV):Prop where
 ex:True
structure cZ(X:Cx)(K:iA)(c m:bA)(n:Nat)(run:List Sl->FA RV):Prop where
 ex:True
structure MethAt(X:Cx)(K:iA)(c m:bA)(n:Nat)(run:List Sl->FA RV):Prop where
 ex:∃(Ca fa:kA) (fd:DH) (ps:List bA) (k:Nat),ED K nC c=some (some (.ref Ca))/\Meth X.K Ca m fa/\VF X.prog X.w X.K X.mg X.base YG k fa fd ps (DQ K n run)/\YC k X.A/\aAw X.K fd ps []/\yG K Ca
structure Ls(K:iA)(D C:kA):Prop where
 a:Ar K D C=true
 b:ZQ K D "__class__"=true
 c:dU K D=true
 d:WG K (.ref D) "__class__"=some (some (.builtin "object.__class__"))
 e:PySem.W.specialIn K (.builtin "object.__class__") "__get__"=some (some (.builtin "getset_descriptor.__get__"))
 f:PySem.W.takesIn K (.builtin "object.__class__")=some true
 g:Sa K D (.type "object")=some true
structure HU(K:iA)(mg:bA->Option dA)(x:bA)(s n:List bA):Prop where
 ex:∃C,mg x=some (.ref C)/\(∀c∈s,∀Ca,ED K nC c=some (some (.ref Ca))->Ur K (.ref Ca) C=true)/\∀c∈n,∀Ca,ED K nC c=some (some (.ref Ca))->Ls K Ca C
structure TY(X:Cx)(K:iA)(x:bA)(n:Nat)(run:List Sl->FA RV):Prop where
 ex:True
structure ExcAt(K:iA)(mg:bA->Option dA)(x:bA):Prop where
 ex:∃C,ED K nC x=some (some (.ref C))/\mg x=some (.ref C)/\As K C/\SY K C none
structure CU(X:Cx)(K:iA)(x:bA):Prop where
 ex:True
structure vR(K:iA)(mg:bA->Option dA)(x:bA)(cs:List bA):Prop where
 ex:∃D,mg x=some (.ref D)/\(∃i,SY K D i)/\∀c∈cs,∀C,ED K nC c=some (some (.ref C))->Sa K C (.ref D)=some true
structure IU(K:iA)(mg:bA->Option dA)(x:bA)(s n:List bA):Prop where
 ex:∃D,mg x=some (.ref D)/\(∀c∈s,∀C,ED K nC c=some (some (.ref C))->Ur K (.ref C) D=true)/\∀c∈n,∀C,ED K nC c=some (some (.ref C))->Ar K C D=true
def Ds:Option dA->Option Int->Prop
 |some v,some i=>∃t,v=.int i t
 |none,none=>True
 |_,_=>False
structure EU(pr:AU)(mg:bA->Option dA)(K:iA)(x:bA)(ks:List bA)(vs:List Int):Prop where
 ex:∃(a:kA) (es:Array CN) (n:Nat),mg x=some (.ref a)/\(a==sysModules)=false/\K.lookup a=some { cls:=.type "dict",data:=.dict es n }/\PySem.W.KeysLit pr es.toList/\ks.length=vs.length/\∀k:bA,Ds (findBy Ma es k) ((ks.zip vs).lookup k)
structure pC(q:Bool)(X:Cx)(K:iA)(P:oB)(C:Calls)(Z:CC):Prop where
 bD:X.K=K
 IL:X.N=Z.N
 nm:X.env.scope.names=Z.names
 nd:Z.N.Nodup
 c:∀x d,Z.gl x=.c d->∃u v,X.mg x=some u/\aAc v u/\∀G,oA K G d v
 blt:∀x,Z.gl x=.blt->X.mg x=none
 sub:∀x s n,Z.gl (col x)=.sub s n->HU K X.mg x s n
 AJ:∀x s n,Z.gl (col x)=.AJ s n->IU K X.mg x s n
 fJ:(∀f cs,Z.gl (oV f)=.fJ cs->∀c∈cs,∀Ca,ED K nC c=some (some (.ref Ca))->vI K Ca f)/\∀x ks vs,Z.gl x=.IV ks vs->EU X.w.params X.mg K x ks vs
 cond:q=true->X.calm=true/\X.A.handled=none/\X.A.units+64<cLine/\(∀x f,Z.gl x=.fn f->FnAt X K x (P f).length (C f))/\(∀x ns,Z.gl x=.cls ns->dZ X K x ns) /\
  (∀m tb c f,Z.gl (dot m)=.yE tb->tb.lookup c=some f->MethAt X K c m (P f).length (C f))/\YC 2 X.A/\((∀x,Z.gl x=.exc->ExcAt K X.mg x)/\∀x,Z.gl x=.cK->CU X K x)/\(∀x cs,Z.gl (cat x)=.NA cs->vR K X.mg x cs)/\((∀x f,Z.gl x=.fn f->TY X K x (P f).length (C f))/\(∀x f,Z.gl x=.obj f->iZ X K x (P f).length (C f))/\∀m tb c f,Z.gl (dot m)=.yE tb->tb.lookup c=some f->cZ X K c m (P f).length (C f))/\∃eJ qT L,X.stack=eJ::qT/\eJ.frame=some L/\X.env.frame=some L
abbrev cB(X:Cx)(K:iA)(P:oB)(C:Calls)(Z:CC):Prop:=pC true X K P C Z
section
variable{X:Cx}{K:iA}{P:oB}{C:Calls}{Z:CC}
theorem pC.calm(o:pC true X K P C Z):X.calm=true:=(o.cond rfl).1
theorem pC.hh(o:pC true X K P C Z):X.A.handled=none:=(o.cond rfl).2.1
theorem pC.hu(o:pC true X K P C Z):X.A.units+64<cLine:=(o.cond rfl).2.2.1
theorem pC.fn(o:pC true X K P C Z):∀x f,Z.gl x=.fn f->FnAt X K x (P f).length (C f):=(o.cond rfl).2.2.2.1
theorem pC.cls(o:pC true X K P C Z):∀x ns,Z.gl x=.cls ns->dZ X K x ns:=(o.cond rfl).2.2.2.2.1
theorem pC.yE(o:pC true X K P C Z):∀m tb c f,Z.gl (dot m)=.yE tb->tb.lookup c=some f->MethAt X K c m (P f).length (C f):=(o.cond rfl).2.2.2.2.2.1
def pC.rm(o:pC true X K P C Z):YC 2 X.A:=(o.cond rfl).2.2.2.2.2.2.1
theorem pC.exc(o:pC true X K P C Z):∀x,Z.gl x=.exc->ExcAt K X.mg x:=(o.cond rfl).2.2.2.2.2.2.2.1.1
theorem pC.cK(o:pC true X K P C Z):∀x,Z.gl x=.cK->CU X K x:=(o.cond rfl).2.2.2.2.2.2.2.1.2
theorem pC.NA(o:pC true X K P C Z):∀x cs,Z.gl (cat x)=.NA cs->vR K X.mg x cs:=(o.cond rfl).2.2.2.2.2.2.2.2.1
def pC.fnX(o:pC true X K P C Z):∀x f,Z.gl x=.fn f->TY X K x (P f).length (C f):=(o.cond rfl).2.2.2.2.2.2.2.2.2.1.1
theorem pC.obj(o:pC true X K P C Z):∀x f,Z.gl x=.obj f->iZ X K x (P f).length (C f):=(o.cond rfl).2.2.2.2.2.2.2.2.2.1.2.1
def pC.mtx(o:pC true X K P C Z):∀m tb c f,Z.gl (dot m)=.yE tb->tb.lookup c=some f->cZ X K c m (P f).length (C f):=(o.cond rfl).2.2.2.2.2.2.2.2.2.1.2.2
def pC.tp(o:pC true X K P C Z):∃eJ qT L,X.stack=eJ::qT/\eJ.frame=some L/\X.env.frame=some L:=(o.cond rfl).2.2.2.2.2.2.2.2.2.2
def cB.of(bD:X.K=K)(IL:X.N=Z.N)(nm:X.env.scope.names=Z.names)(nd:Z.N.Nodup)(calm:X.calm=true)(hh:X.A.handled=none)(hu:X.A.units+64<cLine)
  (c:∀x d,Z.gl x=.c d->∃u v,X.mg x=some u/\aAc v u/\∀G,oA K G d v) (blt:∀x,Z.gl x=.blt->X.mg x=none) (fn:∀x f,Z.gl x=.fn f->FnAt X K x (P f).length (C f)) (cls:∀x ns,Z.gl x=.cls ns->dZ X K x ns)
  (yE:∀m tb c f,Z.gl (dot m)=.yE tb->tb.lookup c=some f->MethAt X K c m (P f).length (C f)) (rm:YC 2 X.A) (sub:∀x s n,Z.gl (col x)=.sub s n->HU K X.mg x s n) (AJ:∀x s n,Z.gl (col x)=.AJ s n->IU K X.mg x s n) (fJ:(∀f cs,Z.gl (oV f)=.fJ cs->∀c∈cs,∀Ca,ED K nC c=some (some (.ref Ca))->vI K Ca f)/\∀x ks vs,Z.gl x=.IV ks vs->EU X.w.params X.mg K x ks vs)
  (exc:(∀x,Z.gl x=.exc->ExcAt K X.mg x)/\∀x,Z.gl x=.cK->CU X K x) (NA:∀x cs,Z.gl (cat x)=.NA cs->vR K X.mg x cs) (fnX:(∀x f,Z.gl x=.fn f->TY X K x (P f).length (C f))/\(∀x f,Z.gl x=.obj f->iZ X K x (P f).length (C f))/\∀m tb c f,Z.gl (dot m)=.yE tb->tb.lookup c=some f->cZ X K c m (P f).length (C f)) (tp:∃eJ qT L,X.stack=eJ::qT/\eJ.frame=some L/\X.env.frame=some L):cB X K P C Z :=
 ⟨bD,IL,nm,nd,c,blt,sub,AJ,fJ,λ_=>⟨calm,hh,hu,fn,cls,yE,rm,exc,NA,fnX,tp⟩⟩
end
structure JA(X:Cx)(K:iA)(P:oB)(C:Calls)(e:DA)(c:E):Prop where
 v:PE X e (tE K P C c)
 t:PT X e (tT K P C c)
 h:PE X e (tH K P C c)
section
variable{X:Cx}{K:iA}{P:oB}{C:Calls}{Z:CC}
def yc(h:∀t U,ev P C t c U=none)(n:∀i,c≠.v i):JA X K P C e c:=by
 have v:PE X e (tE K P C c):=λaA s Y H Q I hz=>by obtain⟨U,G,w,U',r,z,k⟩:=hz;rw[h] at z;cases z
 exact⟨v,(λaA s Y H Q I ⟨U,G,w,U',r,z,k⟩=>by rw[h] at z;cases z),LQ v n⟩
def xB:JA X K P C e .OA:=yc (λt U=>rfl) λi z=>nomatch z
def sE(xo:pC q X K P C Z)(h:PE X e (tE K P C c))(n:∀i,c≠.v i:=by exact λi z=>nomatch z)(hw:∀U,ev P C true c U=aAg true (ev P C false c U):=by exact λU=>rfl)
  (he:∀whole,isTrue e X.env whole=(do let v <- whole;standAt e.pos;holding [v] (truthy v)):=by exact λ_=>rfl):JA X K P C e c:=⟨h,cSa xo.bD h hw he,LQ h n⟩
def mW[BEq O][LawfulBEq O]{l:List O}(h:l.idxOf? x=some i):l[i]?=some x:=by
 rw[List.idxOf?,List.findIdx?_eq_some_iff_getElem] at h;obtain⟨h1,h2,_⟩:=h;rw[FC h1];exact congrArg some (XC h2)
def CC.iN(xo:pC q X K P C Z)(h:Z.slot x=some i):PE X (.Name x pos) (LO i):=by
 unfold CC.slot at h;split at h
 ·cases h
 ·rename_i hb;split at h
  ·rename_i hv;simp only[NN,MK,not_or,za] at hb;refine M7 (by rw[xo.IL];exact mW h) ?_ hb.1.1 hb.1.2;unfold CC.Dg at hv;simp only[MK,beq_iff_eq] at hv;unfold BR;rw[xo.nm];rcases hv with (h | h) | h
   ·exact .inl h
   ·exact .inr (.inl h)
   ·exact .inr (.inr h)
  ·cases h
def CC.SH(xo:pC q X K P C Z)(h:Z.glob x=g)(hg:g≠.no):Gl X x/\Z.gl x=g/\(x==("__debug__":bA))=false/\x≠"__name__":=by
 unfold CC.glob at h;split at h
 ·exact absurd h.symm hg
 ·rename_i hb;split at h
  ·rename_i hv;simp only[NN,MK,not_or,za] at hb;refine⟨?_,h,hb.1.1,λz=>?_⟩
   ·unfold Gl Env.kindOf;rw[xo.nm];unfold CC.Bg at hv;simpa using hv
   ·have:=hb.2
    rw[z] at this;simp at this
  ·exact absurd h.symm hg
def oT(xo:pC q X K P C Z)(h:PE X e (tC v))(r:∀G,oA K G d v)(he:∀whole,isTrue e X.env whole=(do let v <- whole;standAt e.pos;holding [v] (truthy v))):JA X K P C e (.c d):=by
 refine sE xo (TE.CD h λY H Q q=>?_) (λi z=>nomatch z) (λU=>rfl) he;obtain⟨U,G,w,U',r',z,k⟩:=q;cases z;exact k v H G (GA.refl r') (r G)
def sj(xo:pC q X K P C Z)(x:bA)(pos:IC):JA X K P C (.Name x pos) (QR Z x):=by
 unfold QR;split
 ·rename_i i hi;have hp:=CC.iN xo hi (pos:=pos);refine⟨Lj hp, ?_,wPa hp⟩
  -- a test of a local: looked at
  refine TT.IS (ik hp λ_=>rfl) λY H Q q=>?_
  obtain⟨U,G,b,U',r,e1,k⟩:=q;obtain⟨u,b',e2,e3,e4⟩:=Wo e1;cases e4
  cases w:(U[i]?).bind Sl.get with
  |none=>rw[w] at e2;cases e2
  |some d =>
   rw[w] at e2;simp only[FE,lC,nE,Out.ok.injEq] at e2;obtain⟨rfl,rfl⟩:=e2;obtain⟨x,hx⟩:=r.bound (by rw[w];rfl);exact⟨x,hx,b,by rw[xo.bD];exact c9 r.sub (r.get w hx) e3,k H G (GA.refl r)⟩
 ·split
  ·rename_i d hd;obtain⟨h1,h2,h3,h4⟩:=CC.SH xo hd (λz=>nomatch z);obtain⟨u,v,hm,hr,J5⟩:=xo.c x d h2;exact oT xo (hPa h1 hm hr h3) J5 λ_=>rfl
  ·exact xB
def rj(xo:pC q X K P C Z)(c:Const)(k:Nat)(pos:IC):JA X K P C (.Constant c k pos) (RZ c):=by
 cases c with
 |none=>exact oT xo nPa (λG=>by simp[oA]) λ_=>rfl
 |bool b=>exact oT xo xOa (λG=>by simp[oA]) λ_=>rfl
 |int i=>exact oT xo Ij (λG=>by simp[oA]) λ_=>rfl
 |str s =>
  simp only[RZ];split
  ·rename_i h;exact oT xo sPa (λG=>by simp only[oA];exact⟨trivial,h⟩) λ_=>rfl
  ·exact xB
 |_=>exact xB
def QD(h:aAd e=true)(es:List DA)(env:jM):zC (e::es) env=(false,eval e env)::zC es env:=by
 induction e using mF with
 |Starred=>cases h
 |_=>rfl
def sOa:PA X [] (KO K P C []):=by
 refine TA.oW BO λY H Q q=>?_
 obtain⟨U,G,ds,U',r,e,k⟩:=q;simp only[iH,lC,nE,Out.ok.injEq] at e;obtain⟨rfl,rfl⟩:=e;exact k [] H G (GA.refl r) jA.nil
def qOa(h:JA X K P C e c)(t:PA X es (KO K P C cs))(ns:aAd e=true):PA X (e::es) (KO K P C (c::cs)):=by
 refine TA.oW (bN h.v t (QD ns _ _)) λY H Q q=>?_
 obtain⟨U,G,ds,U',r,e,k⟩:=q;rw[iH] at e;obtain⟨v,U1,e1,e2⟩:=CB e;obtain⟨IE,U2,e3,e4⟩:=CB e2;cases e4;refine⟨U,G,v,U1,r,e1,λx H1 G1 a1 hx=>?_⟩;obtain⟨Cs,Zb,rx⟩:=a1.share hx;refine⟨U1,Cs,IE,_,Zb.wA,e3,λxs H2 G2 a2 QM=>?_⟩;exact k (x::xs) H2 G2 (Zb.trans a2) (jA.cons (oA.mono a2.ext.gg _ rx) QM)
def tOa:PA X [] (xH K P C []):=by
 refine TA.oW BO λY H Q q=>?_
 obtain⟨U,G,ds,U',r,e,k⟩:=q;simp only[qD,lC,nE,Out.ok.injEq] at e;obtain⟨rfl,rfl⟩:=e;exact k [] H G (GA.refl r) rfl
theorem oE.wJ(w:∀a,new a->new' a):∀{hs:List Hd} {xs:List V},oE K H G own new Y hs xs->oE K H G own new' Y hs xs
 |[],_,h=>h
 |h::hs,_,r=>by(obtain⟨x,r',rfl,h1,h2,h3⟩:=r;exact⟨x,r',rfl,h1.wJ w,oE.wJ w h2,h3⟩)
def rOa(h:JA X K P C e c)(t:PA X es (xH K P C cs))(ns:aAd e=true):PA X (e::es) (xH K P C (c::cs)):=by
 refine TA.oW (bN h.h t (QD ns _ _)) λY H Q q=>?_
 obtain⟨U,G,ds,U',r,e,k⟩:=q;rw[qD] at e;obtain⟨v,U1,e1,e2⟩:=CB e;obtain⟨IE,U2,e3,e4⟩:=CB e2;cases e4;refine⟨U,G,v,U1,r,e1,λx H1 G1 a1 hx=>⟨U1,G1,IE,_,a1.wA,e3,λxs H2 G2 a2 QM=>?_⟩⟩;refine k (x::xs) H2 G2 (a1.trans a2) ⟨x,xs,rfl,hx.wait a2.ext λa z=>.inl (a2.own a z),QM.wJ λa z=>a1.ext.hx a z,λd a hd ha ht=>?_⟩;subst hd;obtain⟨b,e5,g,o,n,m⟩:=hx;rw[ha] at e5;cases e5;obtain⟨vs,hv⟩:=o.there
 have:=(QM.nN ht).2.1
 rw[show H1 a=none from this] at hv;cases hv
theorem oE.getAll(r:IA K U Y H G):∀{hs:List Hd} {xs:List V} {ds:List D},oE K H G own new Y hs xs->getAll hs U=some ds->AR K H G ds xs
 |[],_,_,h,e=>by cases (show _=[] from h);cases e;rfl
 |h::hs,_,ds,hh,e=>by
  obtain⟨x,r',rfl,h1,h2,h3⟩:=hh;simp only[CI.getAll] at e
  cases q:h.get U with
  |none=>rw[q] at e;cases e
  |some d =>
   rw[q] at e
   cases q2:CI.getAll hs U with
   |none=>rw[q2] at e;cases e
   |some IE =>
    rw[q2] at e;cases e;exact⟨x,r',rfl,h1.read r q,oE.getAll r h2 q2⟩
def uLa(xo:cB X K P C Z)(ha:JA X K P C a ca)(hb:JA X K P C b cb):JA X K P C (.BinOp a op b pos) (.qA op ca cb):=by
 refine sE xo (TE.CD (pPa (Qv xo.bD op) ha.h hb.h) λY H Q q=>?_);obtain⟨U,G,v,U',r,e,k⟩:=q;obtain⟨hx,U1,e1,e⟩:=CB e;obtain⟨hy,U2,e2,e⟩:=CB e;obtain⟨e3,rfl⟩:=OH e;refine⟨U,G,hx,U1,r,e1,λx H1 G1 a1 rx=>⟨U1,G1,hy,U',a1.wA,e2,λy H2 G2 a2 ry=>?_⟩⟩
 cases q1:hx.get U' with
 |none=>rw[q1] at e3;cases e3
 |some d =>
  cases q2:hy.get U' with
  |none=>rw[q1,q2] at e3;cases e3
  |some d2 =>
   rw[q1,q2] at e3;simp only[UG] at e3;split at e3
   ·rename_i hm;have iX:=rx.wait a2.ext λa z=>.inl (a2.own a z)
    refine⟨G2,d,d2,v,a2.wA.sub,iX.read a2.wA q1,ry.read a2.wA q2,λho ds hd=>?_,e3,λz H3 hm3=>?_⟩
    ·subst ho;subst hd
     induction hx using Hd.casesOn with
     |slot i=>simp[uQ] at hm
     |val w =>
      induction w using RV.casesOn with
      |sh _=>simp[uQ] at hm
      |od _=>simp[uQ] at hm
      |ow w =>
       simp only[Hd.get,RV.d,lC] at q1;subst q1;obtain⟨c,e5,g,⟨vs,o1,o2⟩,n,m⟩:=iX;exact⟨c,vs,e5,o1,o2⟩
    ·obtain⟨G3,a3,v3⟩:=(a1.trans a2).made hm3;exact k z H3 G3 a3 v3
   ·cases e3
def tj(xo:cB X K P C Z)(ha:JA X K P C a ca):JA X K P C (.UnaryOp .USub a pos) (.neg ca):=by
 refine sE xo (TE.CD (uPa bZa ha.v) λY H Q q=>?_);obtain⟨U,G,v,U',r,e,k⟩:=q;obtain⟨w,U1,e1,e⟩:=CB e;split at e
 ·rename_i i hi;cases e;refine⟨U,G,w,_,r,e1,λx H1 G1 a1 rx=>?_⟩
  have:=rx.fN
  rw[hi] at this;cases this.int;exact⟨i,rfl,k _ H1 G1 a1 (by show oA K G1 (.int (-i)) _;simp[oA])⟩
 ·cases e
def oPa(ha:PE X a ta):PE X (.UnaryOp .Not a pos) (λY H Q=>ta Y H λx H'=>∃k,KU X.K x H' k/\Q (.bl (!k)) H'):=by
 intro aA s Y H Q I h;refine UnaryOp_ (UA (ha aA s Y H _ I h) λv s1 hz=>?_);obtain⟨x,H1,I1,r1,q1⟩:=hz;exact not_of (UA (uo aA s1 Y H1 x v (λk H'=>Q (.bl (!k)) H') I1 r1 q1) λb s2 hz=>(by obtain⟨H2,I2,q2⟩:=hz;exact⟨.bl (!b),H2,I2,rfl,q2⟩))
def pMa(xo:cB X K P C Z)(ha:JA X K P C a ca):JA X K P C (.UnaryOp .Not a pos) (.not ca):=by
 have v:PE X (.UnaryOp .Not a pos) (tE K P C (.not ca)):=by
  refine TE.CD (oPa ha.h) λY H Q q=>?_
  obtain⟨U,G,v,U',r,e,k⟩:=q;obtain⟨w,U1,e1,e⟩:=CB e;obtain⟨e2,rfl⟩:=OH e;refine⟨U,G,w,U',r,e1,λx H1 G1 a1 rx=>?_⟩
  cases q:w.get U' with
  |none=>rw[q] at e2;cases e2
  |some d =>
   rw[q] at e2;simp only[UG] at e2
   cases q2:DJ d with
   |none=>rw[q2] at e2;cases e2
   |some b =>
    rw[q2] at e2;cases e2;refine⟨b, ?_,k _ H1 G1 a1 (by show oA K G1 (.bl _) _;simp[oA])⟩;rw[xo.bD];exact c9 a1.wA.sub (rx.read a1.wA q) q2
 refine⟨v, ?_,LQ v λi z=>nomatch z⟩;refine TT.IS (bSa ha.t) λY H Q q=>?_
 obtain⟨U,G,b,U',r,e,k⟩:=q;obtain⟨w,U1,e1,e⟩:=CB e;split at e
 ·rename_i b';cases e;exact⟨U,G,b',_,r,e1,λH1 G1 a1=>k H1 G1 a1⟩
 ·cases e
def bV(a1:GA K U Y H G U1 H1 G1)(rx:HE K H1 G1 (AA U1 Y) (hE H) Y hx x)(a2:GA K U1 Y H1 G1 U2 H2 G2)(ry:HE K H2 G2 (AA U2 Y) (hE H1) Y hy y)
  (e:((hx.get U2).bind λd=>(hy.get U2).bind λe=>PB op d e)=some b) (Q:VK) (q:Q (.bl b) H2):CT K op x y H2 Q:=by
 cases q1:hx.get U2 with
 |none=>rw[q1] at e;cases e
 |some d =>
  cases q2:hy.get U2 with
  |none=>rw[q1,q2] at e;cases e
  |some d2 =>
   rw[q1,q2] at e;exact⟨G2,d,d2,b,a2.wA.sub,(rx.wait a2.ext λa z=>.inl (a2.own a z)).read a2.wA q1,ry.read a2.wA q2,e,q⟩
def aJa(e:(o.map λb=>RV.sh (.bl b))=some v):∃b,o=some b/\v=.sh (.bl b):=by
 induction o using tI with
 |none=>cases e
 |some b=>cases e;exact⟨b,rfl,rfl⟩
def UU{x y:Option D}{f:D->D->Option Bool}(e:(x.bind λd=>y.bind λe=>(f d e).map λb=>RV.sh (.bl b))=some v):∃b,(x.bind λd=>y.bind λe=>f d e)=some b/\v=.sh (.bl b):=by
 induction x using tI with
 |none=>cases e
 |some d =>
  induction y using tI with
  |none=>cases e
  |some d2=>exact aJa e
def wLa(xo:cB X K P C Z)(ha:JA X K P C a ca)(hb:JA X K P C b cb)(hm:zN op b=false):JA X K P C (.Compare a [op] [b] pos) (.uA op ca cb):=by
 have core:∀Y H (Q:VK),(∃(U:Env) (G:Hp) (b:Bool) (U':Env),IA K U Y H G/\ev P C false (.uA op ca cb) U=some (.ok (.sh (.bl b)),U')/\∀H' G',GA K U Y H G U' H' G'->Q (.bl b) H') ->
   NT (CT K op) (tH K P C ca) (tH K P C cb) Y H Q:=λY H Q q=>by
  obtain⟨U,G,b,U',r,e,k⟩:=q;obtain⟨hx,U1,e1,e⟩:=CB e;obtain⟨hy,U2,e2,e⟩:=CB e;obtain⟨e3,rfl⟩:=OH e;obtain⟨b',e4,e5⟩:=UU e3;cases e5;exact⟨U,G,hx,U1,r,e1,λx H1 G1 a1 rx=>⟨U1,G1,hy,U',a1.wA,e2,λy H2 G2 a2 ry=>bV a1 rx a2 ry e4 Q (k H2 G2 (a1.trans a2))⟩⟩
 have v:PE X (.Compare a [op] [b] pos) (tE K P C (.uA op ca cb)):=by
  refine TE.CD (cPa (FP xo.bD xo.hu op) ha.h hb.h hm) λY H Q q=>core Y H Q ?_
  obtain⟨U,G,v,U',r,e,k⟩:=q;have e0:=e;obtain⟨hx,U1,e1,e⟩:=CB e;obtain⟨hy,U2,e2,e⟩:=CB e;obtain⟨e3,rfl⟩:=OH e;obtain⟨b',e4,rfl⟩:=UU e3;exact⟨U,G,b',U',r,e0,λH' G' a=>k _ H' G' a (by show oA K G' (.bl _) _;simp[oA])⟩
 refine⟨v, ?_,LQ v λi z=>nomatch z⟩;refine TT.IS (aSa (FP xo.bD xo.hu op) ha.h hb.h hm) λY H Q q=>core Y H _ ?_
 obtain⟨U,G,b',U',r,e,k⟩:=q;exact⟨U,G,b',U',r,e,λH' G' a=>⟨b',rfl,k H' G' a⟩⟩
def xLa(xo:cB X K P C Z)(ha:JA X K P C a ca)(hb:JA X K P C b cb)(hc:JA X K P C c cc)(hm:zN xC c=false):JA X K P C (.Compare a [op,xC] [b,c] pos) (.aG op xC ca cb cc):=by
 have core:∀Y H (Q:VK),(∃(U:Env) (G:Hp) (b:Bool) (U':Env),IA K U Y H G/\ev P C false (.aG op xC ca cb cc) U=some (.ok (.sh (.bl b)),U')/\∀H' G',GA K U Y H G U' H' G'->Q (.bl b) H') ->
   R8 (CT K op) (CT K xC) (tH K P C ca) (tH K P C cb) (tH K P C cc) Y H Q:=λY H Q q=>by
  obtain⟨U,G,b,U',r,e,k⟩:=q;obtain⟨hx,U1,e1,e⟩:=CB e;obtain⟨hy,U2,e2,e⟩:=CB e;refine⟨U,G,hx,U1,r,e1,λx H1 G1 a1 rx=>⟨U1,G1,hy,U2,a1.wA,e2,λy H2 G2 a2 ry=>?_⟩⟩;split at e
  ·cases e
  ·rename_i e4;cases e;refine bV a1 rx a2 ry e4 _ ⟨false,rfl, ?_⟩;rw[if_neg fD];exact k H2 G2 (a1.trans a2)
  ·rename_i e4;obtain⟨hz,U3,e5,e⟩:=CB e;obtain⟨e6,rfl⟩:=OH e;obtain⟨b',e7,e8⟩:=UU e6;cases e8;refine bV a1 rx a2 ry e4 _ ⟨true,rfl, ?_⟩;rw[KA rfl];exact⟨U2,G2,hz,U',a2.wA,e5,λz H3 G3 a3 rz=>bV (a1.trans a2) (ry.wJ λa z=>a1.ext.hx a z) a3 rz e7 Q (k H3 G3 ((a1.trans a2).trans a3))⟩
 have hl:lastMarks [op,xC] [b,c]=false:=hm
 have v:PE X (.Compare a [op,xC] [b,c] pos) (tE K P C (.aG op xC ca cb cc)):=by
  refine TE.CD (bPa (FP xo.bD xo.hu op) (FP xo.bD xo.hu xC) ha.h hb.h hc.h hl) λY H Q q=>core Y H Q ?_
  obtain⟨U,G,v,U',r,e,k⟩:=q;have e0:=e
  have:∃b,v=.sh (.bl b):=by
   obtain⟨hx,U1,e1,e⟩:=CB e;obtain⟨hy,U2,e2,e⟩:=CB e;split at e
   ·cases e
   ·cases e;exact⟨_,rfl⟩
   ·obtain⟨hz,U3,e5,e⟩:=CB e;obtain⟨e6,rfl⟩:=OH e;obtain⟨b',e7,e8⟩:=UU e6;exact⟨b',e8⟩
  obtain⟨b',rfl⟩:=this;exact⟨U,G,b',U',r,e0,λH' G' a=>k _ H' G' a (by show oA K G' (.bl _) _;simp[oA])⟩
 refine⟨v, ?_,LQ v λi z=>nomatch z⟩;refine TT.IS (zRa (FP xo.bD xo.hu op) (FP xo.bD xo.hu xC) ha.h hb.h hc.h hl) λY H Q q=>core Y H _ ?_
 obtain⟨U,G,b',U',r,e,k⟩:=q;exact⟨U,G,b',U',r,e,λH' G' a=>⟨b',rfl,k H' G' a⟩⟩
end
section
variable{K:iA}
def PW.imp(h:PW X e t)(w:∀Y H Q,u Y H Q->t Y H Q):PW X e u:=λwh aA s Y H Q I q=>h wh aA s Y H Q I (w Y H Q q)
def Ku(q:tE K P C (.and ca cb) Y H Q):Vn (tE K P C ca) (tE K P C cb) Y H Q:=by
 obtain⟨U,G,v,U',r,e,k⟩:=q;obtain⟨w,U1,e1,e⟩:=CB e;refine⟨U,G,w,U1,r,e1,λx H1 G1 a1 rx=>?_⟩;split at e
 ·refine⟨true,DT (K:=K) (G:=G1) rx, ?_⟩;refine oQ ?_;exact⟨U1,G1,v,U',a1.wA,e,λy H2 G2 a2 ry=>k y H2 G2 (a1.trans a2) (ry.wJ λa z=>a1.ext.hx a z)⟩
 ·refine⟨false,DT (K:=K) (G:=G1) rx, ?_⟩;refine nQ ?_;cases e;exact k _ H1 G1 a1 (by show oA K G1 (.bl _) _;simp[oA])
 ·cases e
def Ju(q:tT K P C (.and ca cb) Y H Q):Tn (tT K P C ca) (tT K P C cb) Y H Q:=by
 obtain⟨U,G,b,U',r,e,k⟩:=q;obtain⟨w,U1,e1,e⟩:=CB e;split at e
 ·refine⟨U,G,true,U1,r,e1,λH1 G1 a1=>?_⟩;refine oQ ?_;exact⟨U1,G1,b,U',a1.wA,e,λH2 G2 a2=>k H2 G2 (a1.trans a2)⟩
 ·refine⟨U,G,false,U1,r,e1,λH1 G1 a1=>?_⟩;refine nQ ?_;cases e;exact k H1 G1 a1
 ·cases e
def lOa(q:tE K P C (.or ca cb) Y H Q):Xn (tE K P C ca) (tE K P C cb) Y H Q:=by
 obtain⟨U,G,v,U',r,e,k⟩:=q;obtain⟨w,U1,e1,e⟩:=CB e;refine⟨U,G,w,U1,r,e1,λx H1 G1 a1 rx=>?_⟩;split at e
 ·refine⟨true,DT (K:=K) (G:=G1) rx, ?_⟩;refine oQ ?_;cases e;exact k _ H1 G1 a1 (by show oA K G1 (.bl _) _;simp[oA])
 ·refine⟨false,DT (K:=K) (G:=G1) rx, ?_⟩;refine nQ ?_;exact⟨U1,G1,v,U',a1.wA,e,λy H2 G2 a2 ry=>k y H2 G2 (a1.trans a2) (ry.wJ λa z=>a1.ext.hx a z)⟩
 ·cases e
def kOa(q:tT K P C (.or ca cb) Y H Q):Wn (tT K P C ca) (tT K P C cb) Y H Q:=by
 obtain⟨U,G,b,U',r,e,k⟩:=q;obtain⟨w,U1,e1,e⟩:=CB e;split at e
 ·refine⟨U,G,true,U1,r,e1,λH1 G1 a1=>?_⟩;refine oQ ?_;cases e;exact k H1 G1 a1
 ·refine⟨U,G,false,U1,r,e1,λH1 G1 a1=>?_⟩;refine nQ ?_;exact⟨U1,G1,b,U',a1.wA,e,λH2 G2 a2=>k H2 G2 (a1.trans a2)⟩
 ·cases e
structure SJ(X:Cx)(K:iA)(P:oB)(C:Calls)(op:BoolOp)(vs:List DA)(c:E):Prop where
 v:∀pos,PE X (.BoolOp op vs pos) (tE K P C c)
 w:∀pos,PW X (.BoolOp op vs pos) (tT K P C c)
def cLa(h:JA X K P C a c):SJ X K P C .And [a] c:=⟨λ_=>Jj h.v,λ_=>aAV h.t⟩
def dLa(h:JA X K P C a c):SJ X K P C .Or [a] c:=⟨λ_=>Jj h.v,λ_=>aA3 h.t⟩
def oj(h:JA X K P C a ca)(t:SJ X K P C .And (b::r) cb):SJ X K P C .And (a::b::r) (.and ca cb) :=
 ⟨λpos=>TE.CD (wOa h.v (t.v pos)) λ_ _ _ q=>Ku q,λpos=>PW.imp (aA2 h.t (t.w pos)) λ_ _ _ q=>Ju q⟩
def pj(h:JA X K P C a ca)(t:SJ X K P C .Or (b::r) cb):SJ X K P C .Or (a::b::r) (.or ca cb) :=
 ⟨λpos=>TE.CD (Kj h.v (t.v pos)) λ_ _ _ q=>lOa q,λpos=>PW.imp (aA4 h.t (t.w pos)) λ_ _ _ q=>kOa q⟩
def SJ.qj(h:SJ X K P C op vs c)(n:∀i,c≠.v i):JA X K P C (.BoolOp op vs pos) c:=⟨h.v pos,(h.w pos).pt,LQ (h.v pos) n⟩
def vMa{q:Bool}(xo:pC q X K P C Z){es:List DA}{cs:List E}{k0:Nat}{pos:IC}(h:PA X es (KO K P C cs)):JA X K P C (.Tuple es k0 pos) (.t cs):=by
 refine sE xo (TE.CD (tPa h) λY H Q q=>?_);obtain⟨U,G,v,U',r,e,k⟩:=q;obtain⟨ds,U1,e1,e⟩:=CB e;split at e
 ·rename_i hz;cases e;refine⟨U,G,ds,_,r,e1,λxs H1 G1 a1 rx=>⟨by rw[rx.len];exact DK hz,λp hp=>?_⟩⟩;obtain⟨a2,v2⟩:=a1.wo hp rx;exact k _ _ _ a2 v2
 ·cases e
def kMa(xo:pC q X K P C Z)(h:PA X es (KO K P C cs)):JA X K P C (.List es pos) (.l cs):=by
 refine sE xo (TE.CD (jPa h) λY H Q q=>?_);obtain⟨U,G,v,U',r,e,k⟩:=q;obtain⟨ds,U1,e1,e⟩:=CB e;split at e
 ·rename_i hz;cases e;refine⟨U,G,ds,_,r,e1,λxs H1 G1 a1 rx=>⟨by rw[rx.len];exact DK hz,λp hp=>?_⟩⟩;obtain⟨a2,v2⟩:=a1.Dj hp rx;exact k _ _ _ a2 v2
 ·cases e
def iMa(xo:cB X K P C Z)(ha:JA X K P C a ca)(hb:JA X K P C b cb)(hs:GU b):JA X K P C (.Subscript a b pos) (.ix ca cb):=by
 refine sE xo (TE.CD (iPa (kEa xo.bD (by have:=xo.hu;lia)) ha.h hb.v hs) λY H Q q=>?_);obtain⟨U,G,v,U',r,e,k⟩:=q;obtain⟨hx,U1,e1,e⟩:=CB e;obtain⟨w,U2,e2,e⟩:=CB e;obtain⟨e3,rfl⟩:=OH e;refine⟨U,G,hx,U1,r,e1,λx H1 G1 a1 rx=>⟨U1,G1,w,U',a1.wA,e2,λy H2 G2 a2 ry=>?_⟩⟩
 cases q1:hx.get U' with
 |none=>rw[q1] at e3;cases e3
 |some d =>
  rw[q1] at e3;simp only[UG] at e3
  cases q2:XS d w.d with
  |none=>rw[q2] at e3;cases e3
  |some d2 =>
   rw[q2] at e3;cases e3;exact⟨G2,d,w.d,d2,a2.wA.sub,(rx.wait a2.ext λa z=>.inl (a2.own a z)).read a2.wA q1,ry.fN,q2,λz hz=>k z H2 G2 (a1.trans a2) hz⟩
def tO(K:iA)(P:oB)(C:Calls)(c:E):TO:=λY H Q=>∃(U:Env) (G:Hp) (o:Option D) (U':Env),IA K U Y H G/\aAK c (ev P C false c U) U=some (.ok o,U')/\∃i,cN o=some i/\∀H' G',GA K U Y H G U' H' G'->Q i H'
def qQa:PO X none (tO K P C .UD):=λaA s Y H Q I hz=>by
 obtain⟨U,G,o,U',r,e,i,e2,k⟩:=hz;simp only[aAK,a6,if_true,lC,nE,Out.ok.injEq] at e;obtain⟨rfl,rfl⟩:=e;cases e2;exact pQa aA s Y H Q I (k H G (GA.refl r))
def sQa(h:JA X K P C e c):PO X (some e) (tO K P C (lT c)):=λaA s Y H Q I hz=>by
 obtain⟨U,G,o,U',r,e1,i,e2,k⟩:=hz
 have key:∀c',lT c=c'->a6 c'=false->(∀U,ev P C false c' U=ev P C false c U\/ev P C false c' U=none)->rA (model X.prog X.w) X.A (evalPart (some e) X.env) (λu s'=>∃o H',fA X aA Y H' s'/\oI u o/\Q o H') X.xe s:=λc' e0 kO he=>by
  rw[e0] at e1;simp only[aAK,kO,OJ,if_false] at e1;obtain⟨w,U1,e3,e4⟩:=CB e1;cases e4;rcases he U with he | he
  ·rw[he] at e3;refine rQa h.v aA s Y H Q I ⟨U,G,w,_,r,e3,λx H1 G1 a1 rx=>?_⟩;cases q:w.d<;>rw[q] at e2<;>simp only[cN,reduceCtorEq,lC] at e2;subst e2
   have:=rx.fN
   rw[q] at this;exact⟨_,this.int,k H1 G1 a1⟩
  ·rw[he] at e3;cases e3
 cases c with
 |UD=>exact key .OA rfl rfl λU=>.inr (rfl)
 |_=>exact key _ rfl rfl λU=>.inl rfl
def uMa(xo:cB X K P C Z){lo hi:Option DA}{ca cl ch:E}(ha:JA X K P C a ca)(hl:PO X lo (tO K P C cl))(hh:PO X hi (tO K P C ch)):JA X K P C (.Subscript a (.Slice lo hi none p2) pos) (.sl ca cl ch):=by
 refine sE xo (TE.CD (rPa (lVa xo.bD) ha.h hl hh) λY H Q q=>?_);obtain⟨U,G,v,U',r,e,k⟩:=q;obtain⟨hx,U1,e1,e⟩:=CB e;obtain⟨l,U2,e2,e⟩:=CB e;obtain⟨h,U3,e3,e⟩:=CB e;obtain⟨e4,rfl⟩:=OH e
 cases q1:hx.get U' with
 |none=>rw[q1] at e4;cases e4
 |some d =>
  cases q2:cN l with
  |none=>rw[q1,q2] at e4;cases e4
  |some l' =>
   cases q3:cN h with
   |none=>rw[q1,q2,q3] at e4;cases e4
   |some h' =>
    rw[q1,q2,q3] at e4;simp only[UG] at e4;refine⟨U,G,hx,U1,r,e1,λx H1 G1 a1 rx=>⟨U1,G1,l,U2,a1.wA,e2,l',q2,λH2 G2 a2=>⟨U2,G2,h,U',a2.wA,e3,h',q3,λH3 G3 a3=>?_⟩⟩⟩;have mZ:=a2.trans a3;refine⟨G3,d,v,a3.wA.sub,(rx.wait mZ.ext λa z=>.inl (mZ.own a z)).read a3.wA q1,e4,λz H4 hm=>?_⟩;obtain⟨G4,a4,v4⟩:=(a1.trans mZ).made hm;exact k z H4 G4 a4 v4
def tMa(xo:cB X K P C Z)(ha:JA X K P C a ca):JA X K P C (.Subscript a (.Slice none none (some (.UnaryOp .USub (.Constant (.int 1) k1 p1) p2)) p3) pos) (.rev ca):=by
 have hm:PE X (.UnaryOp .USub (.Constant (.int 1) k1 p1) p2) (tE K P C (.neg (.c (.int 1)))):=(tj xo (rj xo _ _ _)).v;refine sE xo (TE.CD (qPa ha.h hm) λY H Q q=>?_);obtain⟨U,G,v,U',r,e,k⟩:=q;obtain⟨hx,U1,e1,e⟩:=CB e;obtain⟨e2,rfl⟩:=OH e
 cases q1:hx.get U' with
 |none=>rw[q1] at e2;cases e2
 |some d =>
  rw[q1] at e2
  cases d with
  |t ds =>
   cases e2;refine⟨U,G,hx,U',r,e1,λx H1 G1 a1 rx=>⟨U',G1,.sh (.int (-1)),U',a1.wA,rfl,λy H2 G2 a2 ry=>⟨ry, ?_⟩⟩⟩;have rr:=(rx.wait a2.ext λa z=>.inl (a2.own a z)).read a2.wA q1;obtain⟨b,vs,rfl,h1,h2⟩:=rr.t a2.wA.sub;refine⟨b,vs,rfl,.inl ⟨by rw[xo.bD];exact h1,λp hp=>?_⟩⟩;obtain⟨G4,a4,v4⟩:=(a1.trans a2).made (v:=.sh (.t ds.reverse)) (CW ⟨_,_,p,rfl,hp,h2.rev,rfl,rfl⟩);exact k _ _ G4 a4 v4
  |l ds =>
   cases e2;refine⟨U,G,hx,U',r,e1,λx H1 G1 a1 rx=>⟨U',G1,.sh (.int (-1)),U',a1.wA,rfl,λy H2 G2 a2 ry=>⟨ry, ?_⟩⟩⟩;have rr:=(rx.wait a2.ext λa z=>.inl (a2.own a z)).read a2.wA q1;obtain⟨b,vs,rfl,h1,h2⟩:=rr.l a2.wA.sub;refine⟨b,vs,rfl,.inr ⟨by rw[xo.bD];exact h1,λp hp=>?_⟩⟩;obtain⟨G4,a4,v4⟩:=(a1.trans a2).made (v:=.ow (.l ds.reverse)) (.inr (.inl ⟨_,_,p,rfl,hp,h2.rev,rfl,rfl⟩));exact k _ _ G4 a4 v4
  |_=>cases e2
def kN(h:es.all aAd=true)(env:jM)(pos:IC):(yF pos (zC es env)).any (·.1)=false/\(yF pos (zC es env)).all (λx=>!x.1)=true:=by
 induction es with
 |nil=>exact⟨rfl,rfl⟩
 |cons e es ih =>
  rw[vC,nB] at h;rw[QD h.1];obtain⟨i1,i2⟩:=ih h.2
  unfold yF at *
  refine⟨?_, ?_⟩
  ·rw[AB,dP,i1];rfl
  ·rw[AB,vC,i2];rfl
def vLa(xo:cB X K P C Z)(hf:Z.glob f=.fn g)(ns:(e::es).all aAd=true)(ha:PA X (e::es) (xH K P C cs)):JA X K P C (.Call (.Name f p) (e::es) [] pos) (.call g cs):=by
 obtain⟨h1,h2,h3,h4⟩:=CC.SH xo hf (λz=>nomatch z);obtain⟨fa,fd,ps,k0,F,hr,hm,hk,hb⟩:=(xo.fn f g h2).ex;rw[vC,nB] at ns;refine sE xo (TE.CD (aPa F hr h1 hm hk hb .nil bX ha h3 (QD ns.1 _ _) (kN ns.2 _ _).1) λY H Q q=>?_);obtain⟨U,G,v,U',r,e,k⟩:=q;obtain⟨hs,U1,e1,e⟩:=CB e;refine⟨U,G,hs,U1,r,e1,λxs H1 G1 a1 rx=>?_⟩;obtain⟨as,G2,uB,d1,d2,d3,_,d4⟩:=A0 a1 rx e;rw[ZD];refine⟨?_,as,G2,v,uB,d1,d2,d3,λx H' G' a hv=>?_⟩
 ·have:=d1.len
  rw[nA] at this
  lia
 ·obtain⟨a5,v5⟩:=d4 x H' G' a hv;exact k x H' G' a5 v5
def Cv{f:bA}{b:BI}(h:MZ f=some b):QK f=some (NZ b):=by
 unfold MZ at h
 repeat (split at h;· (rename_i hf;cases h;subst hf;first | exact Jr | decide +kernel | rfl))
 cases h
def Dv(h:LZ f=some b):QK f=some (NZ b):=Cv h
def XW(xo:cB X K P C Z)(hf:Z.glob f=.blt)(hb:LZ f=some b)(ns:(e::es).all aAd=true)(ha:PA X (e::es) (xH K P C cs)):JA X K P C (.Call (.Name f p) (e::es) [] pos) (.bif b cs):=by
 obtain⟨h1,h2,h3,h4⟩:=CC.SH xo hf (λz=>nomatch z);have hm:=xo.blt f h2;have hv:=Dv hb;rw[vC,nB] at ns
 have hp:PE X (.Call (.Name f p) (e::es) [] pos) (Q8 (Bk K b) (xH K P C cs)):=by
  have hc:=Lv xo.bD xo.calm xo.hh xo.rm b
  cases b<;>first
   |exact L7 hc h1 hm hv ha h4 h3 (QD ns.1 _ _) (kN ns.2 _ _).1
   |exact Hj hc h1 hm hv ha h4 h3 (QD ns.1 _ _) (kN ns.2 _ _).1
 refine sE xo (TE.CD hp λY H Q q=>?_);obtain⟨U,G,v,U',r,e,k⟩:=q;obtain⟨hs,U1,e1,e⟩:=CB e;obtain⟨e2,rfl⟩:=OH e;refine⟨U,G,hs,U',r,e1,λxs H1 G1 a1 rx=>?_⟩
 cases q1:getAll hs U' with
 |none=>rw[q1] at e2;cases e2
 |some ds =>
  rw[q1] at e2;refine⟨G1,ds,v,a1.wA.sub,rx.getAll a1.wA q1,e2,λz H' hm=>?_⟩;obtain⟨G2,a2,v2⟩:=a1.made hm;exact k z H' G2 a2 v2
end
section
variable{K:iA}
def Cg(h:RM U i=true):∃ds p l,U[i]?=some (.ow (.l ds) p l):=by
 unfold RM at h;split at h
 ·rename_i d p l e;exact⟨d,p,l,e⟩
 ·cases h
def IA.p9(r:IA K U Y H G)(h:U[i]?=some (.ow d p l))(hx:Y[i]?=some (some (.ref a)))(hr:zG K (CA H a ob) G a d') :
  GA K U Y H G (U.set i (.ow d' p l)) (CA H a ob) G:=by
 obtain⟨b,h1,g,o⟩:=r.ow i d p l h;rw[hx] at h1;cases h1;have hn:H a≠none:=(r.owned ⟨i,d,p,l,h,hx⟩).1
 have r0:IA K (U.set i .un) Y (CA H a ob) G:=by
  have ru:=r.unset i;have nu:=r.OQ h hx;refine⟨ru.len,λb u e=>?_,ru.sh,λj d' p' l' hj=>?_,ru.inj⟩
  ·have:b≠a:=λz=>by subst z;rw[g] at e;cases e
   rw[yB this];exact ru.sub b u e
  ·obtain⟨b,h3,h4,h5⟩:=ru.ow j d' p' l' hj;have hb:b≠a:=λz=>by subst z;exact nu ⟨j,d',p',l',hj,h3⟩
   exact⟨b,h3,h4,h5.mono (Sm.refl _) λ_ z=>by rw[yB hb];exact z⟩
 refine⟨r0.DO hx g hr (r.OQ h hx),⟨Sm.refl _,λb u e nb=>?_,λb e=>?_,λb e g' _=>g'⟩,vE.set (by rw[h];exact⟨rfl,rfl⟩)⟩
 ·have:b≠a:=λz=>by subst z;exact nb ⟨i,d,p,l,h,hx⟩
  rw[yB this];exact e
 ·by_cases hb:b=a
  ·subst hb;rw[VC] at e;cases e
  ·rwa[yB hb] at e
def IA.write(r:IA K U Y H G)(h:U[i]?=some (.ow d p l))(hx:Y[i]?=some (some (.ref a)))(hr:jA K G ds vs) :
  GA K U Y H G (U.set i (.ow (.l ds) p l)) (CA H a (.l vs)) G:=r.p9 h hx ⟨vs,VC,hr⟩
def tLa(xo:cB X K P C Z)(hi:Z.slot x=some i)(hl:(wB.endLine==GB.line)=true)(ns:aAd a=true)(ha:JA X K P C a ca) :
  JA X K P C (.Call (.Attribute (.Name x p) ("append":bA) wB) [a] [] GB) (.app i ca):=by
 have hp:PE X (.Name x p) (LO i):=CC.iN xo hi;have JM:PA X [a] (KQ (tE K P C ca) MQ):=bN ha.v BO (QD ns _ _);have kK:[a].all aAd=true:=by rw[vC,ns];rfl
 refine sE xo (TE.CD (yOa Lp dq PySem.F.type_list_append Ni hp JM rfl (by
   rw[nB,nB];exact⟨⟨(kN kK _ _).2,rfl⟩,rfl⟩) hl (QD ns _ _) rfl) λY H Q q=>?_)
 obtain⟨U,G,v,U',r,e,k⟩:=q;replace e:(if RM U i then _ else none)=_:=e;split at e
 ·rename_i ho;obtain⟨d0,p0,l0,h0⟩:=Cg ho;obtain⟨b,hb,g0,o0⟩:=r.ow i _ p0 l0 h0;obtain⟨w,U1,e1,e⟩:=CB e;refine⟨.ref b,hb,.inl ⟨rfl, ?_⟩,U,G,w,U1,r,e1,λy H1 G1 a1 ry=>?_⟩
  ·obtain⟨vs,hv,_⟩:=o0;exact⟨vs,zB.of hv⟩
  ·split at e
   ·rename_i ds p1 h1;split at e
    ·rename_i hz;cases e;obtain⟨G2,a2,r2⟩:=a1.share ry;obtain⟨b',qE,g1,vs,hv,hr⟩:=a2.wA.ow i _ _ _ h1;rw[hb] at qE;cases qE
     have:=hr.len
     refine⟨b,vs,y,rfl,rfl,hv, ?_, ?_⟩
     ·have:=DK hz
      lia
     ·have a3:=a2.wA.write h1 hb (hr.app (jA.cons r2 jA.nil));exact k _ _ _ (a2.trans a3) (by show oA K G2 .pA _;simp[oA])
    ·cases e
   ·cases e
 ·cases e
def sMa(xo:cB X K P C Z){x:bA}{i:Nat}{p wB GB:IC}(hi:Z.slot x=some i)(hl:(wB.endLine==GB.line)=true) :
  JA X K P C (.Call (.Attribute (.Name x p) ("pop":bA) wB) [] [] GB) (.uT i):=by
 refine sE xo (TE.CD (zOa Lp Lq PySem.F.type_list_pop wJa (CC.iN xo hi) rfl hl) λY H Q q=>?_);obtain⟨U,G,v,U',r,e,k⟩:=q;replace e:vT i U U[i]?=_:=e
 cases q0:U[i]? with
 |none=>rw[q0] at e;cases e
 |some sl =>
  rw[q0] at e;unfold vT at e;split at e
  ·rename_i ds p0 z;cases z
   cases q:ds[ds.length-1]? with
   |none=>rw[q] at e;cases e
   |some d =>
    rw[q] at e;cases e;obtain⟨b,hb,g0,vs,hv,hr⟩:=r.ow i _ _ _ q0;obtain⟨x,hx,rd⟩:=hr.get q;refine⟨.ref b,hb,.inl ⟨rfl,vs,zB.of hv⟩,b,vs,x,rfl,rfl,hv,by rw[hr.len];exact hx, ?_⟩;exact k _ _ _ (r.write q0 hb (ds:=ds.dropLast) (vs:=vs.dropLast) (by rw[oq,oq,hr.len];exact hr.take _)) rd
  ·cases e
def wMa(xo:cB X K P C Z){x y:bA}{i j:Nat}{p p2 wB GB:IC}(hi:Z.slot x=some i)(hj:Z.slot y=some j)(hl:(wB.endLine==GB.line)=true) :
  JA X K P C (.Call (.Attribute (.Name x p) ("update":bA) wB) [.Name y p2] [] GB) (.OT i j):=by
 refine sE xo (TE.CD (vPa (ZX (VX (by decide) _) xo.hu) (CC.iN xo hi) (CC.iN xo hj) rfl rfl hl rfl) λY H Q q=>?_);obtain⟨U,G,v,U',r,e,k⟩:=q;replace e:NO i j U U[i]? U[j]?=_:=e;unfold NO at e;split at e
 case h_2=>cases e
 rename_i ks ds p0 fG IE q1 q2;split at e
 case isFalse=>cases e
 rename_i hc;cases e;obtain⟨FI,h0,hn,hz,hh⟩:=hc;obtain⟨s,q2,q3⟩:=nM.mp q2;obtain⟨b,hb,g0,xs,vs,hx,⟨nd,hl1,sm,pS,pr⟩,hr⟩:=r.ow i _ _ _ q1
 obtain⟨c,hc,cb,ys,ws,hy,⟨cI,bW,sm',Nf,xT⟩,B5⟩:∃c,Y[j]?=some (some (.ref c))/\b≠c/\∃ys ws,nP H c ys/\qM K G c fG ws ys/\jA K G IE ws:=by
  cases s with
  |un=>cases q3
  |mv=>cases q3
  |sh d =>
   cases q3;obtain⟨v,h1,h2⟩:=r.sh j _ q2;simp only[oA] at h2;obtain⟨c,ys,ws,rfl,⟨ep,h3⟩,h4⟩:=h2;exact⟨c,h1,λz=>(by subst z;rw[g0] at h3;cases h3),ys,ws,⟨ep,r.sub _ _ h3⟩,h4⟩
  |ow d p' l' =>
   cases q3;obtain⟨c,h1,h2,ys,ws,h3,h4⟩:=r.ow j _ _ _ q2;exact⟨c,h1,λz=>(by subst z;exact FI (r.inj _ _ _ _ _ _ _ _ _ q1 q2 hb h1)),ys,ws,h3,h4⟩
 have kk:∀{zs:iE},(∀x∈zs,aC K G x.1 x.2.1)->∀x∈zs,aC X.K H x.1 x.2.1:=λh x hx=>by rw[xo.bD];exact aC.mono (Sm.of r.sub) (h x hx)
 have lx:xs.length=ks.length:=(nA _).symm.trans (congrArg BH pr.1);have ly:ys.length=fG.length:=(nA _).symm.trans (congrArg BH xT.1);have hm:(xs++ys).map (·.1)=ks++fG:=by rw[UB,pr.1,xT.1]
 have vB:xs.length+ys.length<=sizeLine:=by have:=DK hz;lia
 refine⟨.ref b,hb,b,xs,rfl,hx,.ref c,hc,c,ys,rfl,cb,⟨hx,nd,hl1,sm,kk pS⟩,⟨hy,cI,bW,sm',kk Nf⟩,λz=>h0 (by rw[<- xT.1,z];rfl),by rw[hm];exact hn,by rw[<- xT.1,fE] at hh;exact hh,vB,λep=>?_⟩;have a4:=r.p9 (ob:=.ext (BB b (xs++ys) ep)) (d':=.ZA (ks++fG) (ds++IE)) q1 hb ⟨xs++ys,vs++ws,⟨ep,VC⟩,⟨by rw[hm];exact hn,by rw[kC];exact vB,sm,λx hx=>?_,hm,by rw[UB];exact pr.2.append xT.2⟩,hr.app B5⟩
 ·exact k _ _ _ a4 (by show oA K G .pA _;simp[oA])
 ·rcases dE.mp hx with hx | hx
  ·exact pS x hx
  ·exact Nf x hx
def g9:CA (CA H p a) p b=CA H p b:=by
 funext q
 by_cases h:q=p
 ·subst h;rw[VC,VC]
 ·rw[yB h,yB h,yB h]
def IA.zQ(r:IA K U Y H G)(g:G a=none)(n:¬AA U Y a):IA K U Y (CA H a o) G:=by
 refine⟨r.len,λb u e=>?_,r.sh,λj d' p' l' hj=>?_,r.inj⟩
 ·have:b≠a:=λz=>by subst z;rw[g] at e;cases e
  rw[yB this];exact r.sub b u e
 ·obtain⟨b,h3,h4,h5⟩:=r.ow j d' p' l' hj;have hb:b≠a:=λz=>by subst z;exact n ⟨j,d',p',l',hj,h3⟩
  exact⟨b,h3,h4,h5.mono (Sm.refl _) λ_ z=>by rw[yB hb];exact z⟩
theorem GA.zQ(b:GA K U Y H G U' H' G')(h:H a=none)(g:G' a=none)(n:¬AA U' Y a):GA K U Y H G U' (CA H' a o) G':=by
 refine⟨b.wA.zQ g n,⟨b.ext.gg,λc u e nc=>?_,λc e=>?_,b.ext.gn⟩,b.bK⟩
 ·have:c≠a:=λz=>by subst z;rw[h] at e;cases e
  rw[yB this];exact b.ext.hh c u e nc
 ·by_cases hc:c=a
  ·subst hc;rw[VC] at e;cases e
  ·rw[yB hc] at e;exact b.ext.hx c e
def bMa(xo:cB X K P C Z)(hk:JA X K P C ke ck)(hv:JA X K P C ve cv):JA X K P C (.Dict [some ke] [ve] pos) (.TR ck cv):=by
 refine sE xo (TE.CD (fPa (by have:=xo.hu;lia) hk.v hv.v) λY H Q q=>?_);obtain⟨U,G,v,U',r,e,k⟩:=q;obtain⟨w,U1,e1,e⟩:=CB e;obtain⟨w2,U2,e2,e3⟩:=CB e;unfold lV at e3;split at e3
 ·rename_i k0 hs;cases e3;intro p hp sm;have nO:=r.RW hp;have gO:=XA.free r.sub hp;refine⟨U,G,w,U1,((GA.refl r).KI hp).wA,e1,λx H1 G1 a1 rx=>?_⟩;have hH:H1 p=some (.ext (BB p [] 0)):=a1.ext.hh p _ VC nO;have hG:G1 p=none:=a1.ext.gn p (by rw[VC];simp) gO nO;have hN:¬AA U1 Y p:=λz=>nO (a1.own p z)
  obtain⟨b,rfl,kk⟩:=qQ hs rx.fN;refine⟨U1,G1,w2,U',a1.wA,e2,λy H2 G2 a2 ry=>?_⟩;have a0:GA K U Y H G U' H2 G2:=((GA.refl r).KI hp).trans (a1.trans a2);have C':H2 p=some (.ext (BB p [] 0)):=a2.ext.hh p _ hH hN;have hG2:G2 p=none:=a2.ext.gn p (by rw[hH];simp) hG hN;have gf:¬AA U' Y p:=λz=>hN (a2.own p z)
  obtain⟨G3,a3,r3,s3⟩:=a2.v8 ry;have Uh:aC K G3 k0 b:=aC.mono (a2.ext.gg.trans s3) kk;have a4:GA K U Y H G U' H2 G3:=((GA.refl r).KI hp).trans (a1.trans a3);have df:G3 p=none:=a3.ext.gn p (by rw[hH];simp) hG hN;refine⟨C',k0,b,rfl,by rw[xo.bD];exact aC.mono a3.wA.sub Uh,λu ru ep=>?_⟩;refine k _ _ G3 (a4.zQ hp df gf) ⟨p,rfl,df,⟨_,[y],⟨_,VC⟩, ?_,jA.cons r3 jA.nil⟩,gf,hp⟩;exact⟨by simp,by rw[pR];simp,sm,λx hx=>by rw[kD.mp hx];exact Uh,rfl,.cons ru .nil⟩
 ·cases e3
def aMa(xo:cB X K P C Z):JA X K P C (.Dict [] [] pos) .aK:=by
 refine sE xo (TE.CD ePa λY H Q q=>?_);obtain⟨U,G,v,U',r,e,k⟩:=q;cases e;intro p hp sm;obtain⟨a1,v1⟩:=(GA.refl r).Sx (ks:=[]) (ds:=[]) (vs:=[]) (xs:=[]) hp ⟨List.nodup_nil,mI _,sm,(λx hx=>nomatch hx),rfl,.nil⟩ jA.nil;exact k _ _ _ a1 v1
def zLa(xo:cB X K P C Z){k v:DA}{cs es:List E}{pos:IC}(hk:∀c,cs=[c]->JA X K P C k c)(hv:∀c,es=[c]->JA X K P C v c):JA X K P C (.Dict [some k] [v] pos) (ZZ cs es):=by
 unfold ZZ;split
 ·exact bMa xo (hk _ rfl) (hv _ rfl)
 ·exact xB
def cMa(xo:cB X K P C Z)(hk:∀k c,ks=[some k]->cs=[c]->JA X K P C k c)(hv:∀v c,vs=[v]->es=[c]->JA X K P C v c):JA X K P C (.Dict ks vs pos) (Sd ks vs cs es):=by
 induction ks using NC with
 |nil =>
  induction vs using NC with
  |nil=>exact xB
  |cons=>exact xB
 |cons k r =>
  induction r using NC with
  |cons=>exact xB
  |nil =>
   induction k using tI with
   |none=>exact xB
   |some k =>
    induction vs using NC with
    |nil=>exact xB
    |cons v r =>
     induction r using NC with
     |cons=>exact xB
     |nil =>
      have d2:=zLa (pos:=pos) xo (λc h=>hk _ c rfl h) λc h=>hv _ c rfl h
      exact d2
def yYa(xo:pC q X K P C Z)(h:yX Z t=some ty):PE X t (tC (zX ty))/\aAd t=true:=by
 cases t<;>simp only[yX,reduceCtorEq] at h;rename_i x pos;split at h
 ·rename_i hg;obtain⟨h1,h2,h3,h4⟩:=CC.SH xo hg (λz=>nomatch z);have hm:=xo.blt x h2;refine⟨?_,rfl⟩;split at h
  ·rename_i hx;cases h;subst hx;exact K7 h1 hm (u:=.type "int") (by decide +kernel) rfl
  ·split at h
   ·rename_i hx;cases h;subst hx;exact K7 h1 hm (u:=.type "bool") (by decide +kernel) rfl
   ·split at h
    ·rename_i hx;cases h;subst hx;exact K7 h1 hm (u:=.type "tuple") (by decide +kernel) rfl
    ·cases h
 ·cases h
def hMa(xo:pC q X K P C Z)(hf:Z.glob ("isinstance":bA)=.blt)(ht:yX Z t=some ty)(ns:aAd a=true)(ha:JA X K P C a ca) :
  JA X K P C (.Call (.Name ("isinstance":bA) p) [a,t] [] pos) (.JI ca [ty]):=by
 obtain⟨h1,h2,h3,h4⟩:=CC.SH xo hf (λz=>nomatch z);have hm:=xo.blt _ h2;obtain⟨pt,nt⟩:=yYa xo ht;have JM:PA X [a,t] (KQ (tH K P C ca) (KQ (tC (zX ty)) MQ)):=bN ha.h (bN pt BO (QD nt _ _)) (QD ns _ _);have kK:[t].all aAd=true:=by rw[vC,nt];rfl
 have hp:=L7 (p:=p) (pos:=pos) (wDa xo.bD ty) h1 hm (by decide +kernel) JM h4 h3 (QD ns _ _) (kN kK _ _).1;refine sE xo (TE.CD hp λY H Q q=>?_);obtain⟨U,G,v,U',r,e,k⟩:=q;obtain⟨hx,U1,e1,e⟩:=CB e;obtain⟨e2,rfl⟩:=OH e;refine⟨U,G,hx,U',r,e1,λx H1 G1 a1 rx=>?_⟩
 cases q1:hx.get U' with
 |none=>rw[q1] at e2;cases e2
 |some d =>
  rw[q1] at e2;simp only[UG,RS] at e2
  cases q2:i6 ty d with
  |none=>rw[q2] at e2;cases e2
  |some b =>
   rw[q2] at e2;simp only[UG,FE,CF,lC] at e2;subst e2;exact⟨G1,d,x,b,a1.wA.sub,rfl,rx.read a1.wA q1,q2,k _ H1 G1 a1 (by show oA K G1 (.bl _) _;simp[oA])⟩
def Vj(h:∀lo hi p,b≠.Slice lo hi none p):GU b:=λo i=>by
 induction b using mF with
 |Slice lo hi st p =>
  induction st using tI with
  |none=>exact absurd rfl (h lo hi p)
  |some s=>rfl
 |_=>rfl
end
section
variable{K:iA}
def A7(xo:cB X K P C Z)(hi:Z.slot x=some i)(pos:IC):JA X K P C (.Name x pos) (.uD i):=by
 have hp:=CC.iN xo hi (pos:=pos);refine sE xo (TE.CD (Lj (K:=K) (P:=P) (C:=C) hp) λY H Q q=>?_);obtain⟨U,G,v,U',r,e,k⟩:=q;exact⟨U,G,v,U',r,e,k⟩
def nMa:JA X K P C e (.sQ c):=yc (λt U=>rfl) λi z=>nomatch z
def qMa(xo:cB X K P C Z)(h1:Z.glob "len"=.blt)(h2:Z.glob "set"=.blt)(ns:aAd e=true)(ha:JA X K P C e c) :
  JA X K P C (.Call (.Name "len" p) [.Call (.Name "set" p2) [e] [] Wj] [] pos) (.zO c):=by
 obtain⟨a1,a2,a3,a4⟩:=CC.SH xo h1 (λz=>nomatch z);obtain⟨b1,b2,b3,b4⟩:=CC.SH xo h2 (λz=>nomatch z);have hp:PA X [e] (KQ (tH K P C c) MQ):=bN ha.h BO (QD ns _ _);have jW:=Hj (qx xo.calm) b1 (xo.blt _ b2) (by decide +kernel:QK "set"=some (.type "set")) hp (pos:=Wj) (p:=p2) b4 b3 (QD ns _ _) rfl;have mB:=L7 Zw a1 (xo.blt _ a2) Jr (bN jW BO rfl) (pos:=pos) (p:=p) a4 a3 rfl rfl;refine sE xo (TE.CD mB λY H Q q=>?_);obtain⟨U,G,v,U',r,e,k⟩:=q;obtain⟨hx,U1,e1,e⟩:=CB e;obtain⟨e3,rfl⟩:=OH e;refine⟨U,G,hx,U',r,e1,λx H1 G1 a1 rx=>?_⟩
 cases q1:hx.get U' with
 |none=>rw[q1] at e3;cases e3
 |some d =>
  rw[q1] at e3;simp only[UG] at e3;cases d<;>simp only[nT,reduceCtorEq] at e3;rename_i ds
  cases q2:rE ds with
  |none=>rw[q2] at e3;cases e3
  |some is =>
   rw[q2] at e3;simp only at e3;split at e3
   ·rename_i hz;cases e3;obtain⟨b,vs,rfl,h3,h4⟩:=(rx.read a1.wA q1).l a1.wA.sub;have hK:=xo.bD;refine⟨b,vs,ds,is,G1,rfl,by rw[hK];exact h3,by rw[hK];exact h4,q2,hz,λp S hn=>?_⟩;refine⟨p,S,_,rfl,VC, ?_⟩;exact k _ _ G1 (a1.KI hn) (by show oA K G1 (.int _) _;simp[oA])
   ·cases e3
theorem Ai:∀{ns:List bA} {ds:List D} {vs:List V} {d:D},jA K G ds vs->(ns.zip ds).lookup f=some d->f∈ns/\∃v,(ns.zip vs).lookup f=some v/\oA K G d v
 |[],_,_,_,_,h=>by simp at h
 |n::ns,[],_,_,_,h=>by simp at h
 |n::ns,d0::ds,vs,d,r,h=>by
  simp only[jA] at r;obtain⟨v,r',rfl,h1,h2⟩:=r;rw[YL,pI] at h ⊢
  cases q:(f==n) with
  |true =>
   rw[q] at h;cases h;exact⟨by rw[XC q];simp,v,rfl,h1⟩
  |false =>
   rw[q] at h;obtain⟨z1,v',z2,z3⟩:=Ai h2 h;exact⟨WC _ z1,v',z2,z3⟩
def eMa(xo:cB X K P C Z):JA X K P C (.Attribute (.Name x p) f pos) (.fld (QR Z x) f):=by
 have ha:=sj xo x p;refine sE xo (TE.CD (gPa ha.h rfl) λY H Q q=>?_);obtain⟨U,G,v,U',r,e,k⟩:=q;obtain⟨hx,U1,e1,e⟩:=CB e;obtain⟨e3,rfl⟩:=OH e;refine⟨U,G,hx,U',r,e1,λx H1 G1 a1 rx=>?_⟩
 cases q1:hx.get U' with
 |none=>rw[q1] at e3;cases e3
 |some d =>
  rw[q1] at e3;simp only[UG] at e3;have hK:=xo.bD;cases d<;>simp only[N1,reduceCtorEq,Option.map_none] at e3
  case ins c ns ds =>
   cases q2:(ns.zip ds).lookup f with
   |none=>rw[q2] at e3;cases e3
   |some d' =>
    rw[q2] at e3;cases e3;obtain⟨a,Ca,dx,vs,rfl,h1,h2,h3,h4,h5⟩:=(rx.read a1.wA q1).ins a1.wA.sub;obtain⟨z1,v',z2,z3⟩:=Ai h3 q2;exact⟨a,Ca,dx,_,v',rfl,h2,by rw[hK];exact h4.cl,by rw[hK];exact h4.no f z1,z2,k v' H1 G1 a1 z3⟩
def lMa(xo:cB X K P C Z)(hf:Z.glob f=.cls ns)(st:(e::es).all aAd=true)(ha:PA X (e::es) (KO K P C cs)):JA X K P C (.Call (.Name f p) (e::es) [] pos) (.make f ns cs):=by
 obtain⟨h1,h2,h3,h4⟩:=CC.SH xo hf (λz=>nomatch z);obtain⟨Ca,fa,fd,ps,hn,hm,M,cf,F,hb⟩:=(xo.cls f ns h2).ex;rw[vC,nB] at st;refine sE xo (TE.CD (kPa M F xo.rm h1 hm hb .nil bX ha h3 (QD st.1 _ _) (kN st.2 _ _).1) λY H Q q=>?_);obtain⟨U,G,v,U',r,e,k⟩:=q;obtain⟨ds,U1,e1,e⟩:=CB e;split at e
 ·rename_i hl;cases e;refine⟨U,G,ds,_,r,e1,λxs H1 G1 a1 rx x dx nx ndx ne=>?_⟩;have el:xs.length=ns.length:=rx.len.trans hl;rw[ZD];refine⟨x,Ca,dx,xs,rfl,el,VC,cf,rfl, ?_⟩;rw[g9];have nx':(CA H1 dx (.own x)) x=none:=by rw[yB (gF ne)];exact nx
  have a2:=(a1.KI (o:=.own x) ndx).TM (o:=.ins Ca dx (ns.zip xs)) nx';refine k (.ref x) _ _ a2 ?_;show oA K _ (.ins f ns ds) _;simp only[oA];exact⟨x,Ca,dx,xs,rfl,hn,VC,jA.mono (Sm.laid (XA.free a1.wA.sub nx)) ds rx,cf,el.symm⟩
 ·cases e
theorem Bi:∀{ns:List bA} {vs:List O},ns.contains f=false->(ns.zip vs).lookup f=none
 |[],_,_=>by simp
 |n::ns,[],_=>by simp
 |n::ns,v::vs,h=>by(rw[List.contains_cons,yq] at h;rw[YL,pI,h.1];exact Bi h.2)
def Li(st:es.all aAd=true)(SD:(wB.endLine==pos.line)=true)(X4:es.length<29)(env:jM)(hb:attributeBase o m env (eval o env)=eval o env:=by rfl):eval (.Call (.Attribute o m wB) es [] pos) env=(do
   let ov <- eval o env
   standAt wB.atName
   let (f,first) <- holding [ov] (getMethod ov m (do return (<- importBound o env).getD true))
   callWith pos f first (yF pos (zC es env)) (backToKw pos (keywordEach [] env))):=by
 rw[arm_eval_Call]
 have kAa:methodCallForm (es.length+([]:List rR).length) (yF pos (zC es env)) (backToKw pos (keywordEach [] env))=true:=by
  unfold methodCallForm;rw[(kN st env pos).2];simp only[IH]
  have:(backToKw pos (keywordEach [] env))=[]:=rfl
  rw[this];simp
  lia
 have uS:methodCallPos true o env wB pos=pure pos:=by unfold methodCallPos;simp[SD]
 unfold methodCall;rw[kAa];unfold calleeOf;simp only[if_true,uS,hb];rfl
def iJa(GS:Y[i]?=some (some (.ref a)))(hH:H a=some (.ins Ca dx fs))(hl:fs.lookup m=none)(r:IA K U Y H G)(e1:qD P C cs U=some (.ok QV,U1))(e:IF (P f) (C f) (h0::QV) U1=some (.ok v,U'))
  (C5:∀H1 G1,GA K U Y H G U1 H1 G1->HE K H1 G1 (AA U1 Y) (hE H) Y h0 (.ref a)) (eW:∀d,h0≠.val (.ow d)) (k:∀x H1 G1,GA K U Y H G U' H1 G1->RC K H1 G1 (AA U' Y) (hE H) v x->Q x H1) (t:TA) (ht:∀Y H Q,xH K P C cs Y H Q->t Y H Q) :
  U8 Ca m (DQ K (P f).length (C f)) [] (λ_ _ _=>False) (LO i) t Y H Q:=by
 refine⟨.ref a,GS,a,dx,_,rfl,hH,hl,ht _ _ _ ⟨U,G,QV,U1,r,e1,λxs H1 G1 a1 rx=>?_⟩⟩;have iX:oE K H1 G1 (AA U1 Y) (hE H) Y (h0::QV) (.ref a::xs):=⟨.ref a,xs,rfl,C5 H1 G1 a1,rx,λd b z=>absurd z (eW _)⟩
 obtain⟨as,G2,uB,d1,d2,d3,_,d4⟩:=A0 a1 iX e;dsimp only;rw[ZD];refine⟨?_,as,G2,v,uB,d1,d2,d3,λx H' G' a hv=>?_⟩
 ·have:=d1.len
  rw[nA] at this
  lia
 ·obtain⟨a5,v5⟩:=d4 x H' G' a hv;exact k x H' G' a5 v5
def mMa(xo:cB X K P C Z)(hi:Z.slot x=some i)(hm:Z.gl (dot m)=.yE tb)(st:es.all aAd=true)(SD:(wB.endLine==pos.line)=true)(X4:es.length<29)(ha:PA X es (xH K P C cs))(hz:es=[]->cs=[]):JA X K P C (.Call (.Attribute (.Name x p) m wB) es [] pos) (.uJ i m tb cs):=by
 have hp:=CC.iN xo hi (pos:=p);refine sE xo (λaA s Y H Q I q=>?_);obtain⟨U,G,v,U',r,e,k⟩:=q
 have main:∀{c:bA} {ns:List bA} {ds:List D} {h0:Hd} {a Ca dx:kA} {vs:List V},(match gG c ns m tb with | some f=>(qD P C cs U).bind λhs U1=>IF (P f) (C f) (h0::hs) U1 | none=>none)=some (.ok v,U')->Y[i]?=some (some (.ref a))->H a=some (.ins Ca dx (ns.zip vs))->ED K nC c=some (some (.ref Ca))->mP K Ca ns ->
   (∀U1 H1 G1,GA K U Y H G U1 H1 G1->HE K H1 G1 (AA U1 Y) (hE H) Y h0 (.ref a))->(∀d,h0≠.val (.ow d))->rA (model X.prog X.w) X.A (eval (.Call (.Attribute (.Name x p) m wB) es [] pos) X.env) (EP X aA Y Q) X.xe s:=by
  intro c ns ds h0 a Ca dx vs e GS hH h1 h4 C5 eW;split at e
  ·rename_i f dW;unfold gG at dW;split at dW
   ·cases dW
   ·rename_i GI;obtain⟨Cb,fa,fd,ps,k0,hn,M,F,hr,hb,JE⟩:=(xo.yE m tb c f hm dW).ex;rw[hn] at h1;cases h1;obtain⟨QV,U1,e1,e⟩:=CB e;have hK:=xo.bD;have ud:yG X.K Ca:=by rw[hK];exact h4.cl
    have fin:=iJa (m:=m) GS hH (Bi (by simpa using GI)) r e1 e (C5 U1) eW k
    induction es using NC with
    |nil =>
     cases hz rfl;refine mPa hp ud M F hr hb .nil bX (Li st SD X4 _) aA s Y H Q I (fin _ λY' H' Q' z=>?_);obtain⟨U2,G2,vK,U3,r2,e2,k2⟩:=z;rw[qD] at e2;cases e2;exact k2 [] H' G2 (GA.refl r2) rfl
    |cons e0 es0 =>
     have TC:=st;rw[vC,nB] at st;exact lPa hp ud M F hr hb .nil bX ha (QD st.1 _ _) (kN st.2 _ _).1 (Li TC SD X4 _) aA s Y H Q I (fin _ λ_ _ _ z=>z)
  ·cases e
 replace e:(match U[i]? with | some (.sh (.ins c ns ds))=>(match gG c ns m tb with | some f=>(qD P C cs U).bind λhs U1=>IF (P f) (C f) (.val (.sh (.ins c ns ds))::hs) U1 | none=>none) | _=>none)=some (.ok v,U'):=e;split at e
 ·rename_i c ns ds hs;obtain⟨x0,GS,l8⟩:=r.sh i _ hs;have rx1:=l8;simp only[oA] at l8;obtain⟨a,Cb,dx,vs,rfl,h1,h2,h3,h4,h5⟩:=l8
  exact main (ds:=ds) e GS (r.sub _ _ h2) h1 h4 (λ_ H1 G1 a1=>oA.mono a1.ext.gg _ rx1) λd z=>nomatch z
 ·cases e
end
section
variable{X:Cx}{K:iA}{P:oB}{C:Calls}{Z:CC}
def xMa(xo:cB X K P C Z):JA X K P C (.Call (.Attribute (.Name x p) m wB) [] [] GB) (Io Z x m wB GB):=xB
end
section
variable{X:Cx}{K:iA}{P:oB}{C:Calls}{Z:CC}
def dMa(xo:cB X K P C Z)(hv:∀v∈vs,JA X K P C v (cE Z v))(hc:JA X K P C (.Dict ks vs pos) c):JA X K P C (.Dict ks vs pos) (Td ks vs (VB Z vs) c):=hc
def sLa(xo:cB X K P C Z){x m:bA}{a:DA}{p wB GB:IC}:JA X K P C (.Call (.Attribute (.Name x p) m wB) [a] [] GB) (xZ Z x m wB GB a):=by
 unfold xZ;split
 ·rename_i hc;rw[nB] at hc;cases XC hc.2;unfold Ho;split
  ·rename_i y hy;obtain⟨_,rfl⟩:=dKa hy;split
   ·exact wMa xo ‹_› ‹_› hc.1
   ·exact xB
  ·exact xB
 all_goals exact xB
end
structure eC(K:iA)(U:Env)(Y:St)(H G:Hp)(U':Env)(Y':St)(H' G':Hp):Prop where
 wA:IA K U' Y' H' G'
 ext:Ext (AA U Y) H G H' G'
 own:∀a,AA U' Y' a->AA U Y a\/H a=none
 un:∀i:Nat,U'[i]?=some .un->U[i]?=some .un/\Y'[i]?=Y[i]?
 pin:∀(i:Nat) d l,U[i]?=some (.ow d true l)->Y'[i]?=Y[i]?/\∃d',U'[i]?=some (.ow d' true l)
 len:U'.length=U.length
section
variable{K:iA}
theorem eC.refl(r:IA K U Y H G):eC K U Y H G U Y H G:=⟨r,Ext.refl,λ_ h=>.inl h,λ_ h=>⟨h,rfl⟩,λ_ d _ h=>⟨rfl,d,h⟩,rfl⟩
theorem GA.s(r:IA K U Y H G)(a:GA K U Y H G U' H' G'):eC K U Y H G U' Y H' G':=by
 refine⟨a.wA,a.ext,λx h=>.inl (a.own x h),λi h=>⟨?_,rfl⟩,λi d l h=>⟨rfl, ?_⟩, ?_⟩
 ·have:=a.bK i
  rw[h] at this
  cases e:U[i]? with
  |none=>rw[e] at this;exact this.elim
  |some s=>rw[e] at this;cases s<;>first | rfl | exact this.elim
 ·have:=a.bK i
  rw[h] at this
  cases e:U'[i]? with
  |none=>rw[e] at this;exact this.elim
  |some s =>
   rw[e] at this
   cases s with
   |ow d' p' l'=>obtain⟨rfl,rfl⟩:=this;exact⟨d',rfl⟩
   |sh d'=>exact absurd (show true=false from this) (by simp)
   |_=>exact this.elim
 ·rw[a.wA.len,r.len]
theorem eC.trans(a:eC K U Y H G U1 Y1 H1 G1)(b:eC K U1 Y1 H1 G1 U2 Y2 H2 G2):eC K U Y H G U2 Y2 H2 G2:=by
 refine⟨b.wA,a.ext.trans a.own b.ext,λx h=>?_,λi h=>?_,λi d l h=>?_,b.len.trans a.len⟩
 ·rcases b.own x h with z | z
  ·exact a.own x z
  ·exact .inr (a.ext.hx x z)
 ·obtain⟨h1,h2⟩:=b.un i h;obtain⟨h3,h4⟩:=a.un i h1;exact⟨h3,h2.trans h4⟩
 ·obtain⟨h1,d',h2⟩:=a.pin i d l h;obtain⟨h3,h4⟩:=b.pin i d' l h2;exact⟨h3.trans h1,h4⟩
def ZG(K:iA)(U:Env)(Y:St)(H G:Hp)(U':Env)(D:Ends):Fl->Prop
 |.nx=>∀Y' H' G',eC K U Y H G U' Y' H' G'->D.nx Y' H'
 |.bk=>∀Y' H' G',eC K U Y H G U' Y' H' G'->D.bk Y' H'
 |.ct=>∀Y' H' G',eC K U Y H G U' Y' H' G'->D.ct Y' H'
 |.rt v=>∀x Y' H' G',eC K U Y H G U' Y' H' G'->RC K H' G' (AA U' Y') (λa=>AA U Y a\/H a=none) v x->D.rt x H'
 |.ex _=>False
def ZG.pre{D:Ends}(a:eC K U Y H G U1 Y1 H1 G1)(h:ZG K U Y H G U' D fl):ZG K U1 Y1 H1 G1 U' D fl:=by
 induction fl using Fl.casesOn with
 |nx=>exact λY' H' G' b=>h Y' H' G' (a.trans b)
 |bk=>exact λY' H' G' b=>h Y' H' G' (a.trans b)
 |ct=>exact λY' H' G' b=>h Y' H' G' (a.trans b)
 |rt v=>exact λx Y' H' G' b hv=>h x Y' H' G' (a.trans b) (hv.wJ λc z=>by
   rcases z with z | z
   ·exact a.own c z
   ·exact .inr (a.ext.hx c z))
 |ex e=>exact h
end
def tS(K:iA)(P:oB)(C:Calls)(W:Nat)(c:S):TS:=λD Y H=>∃(U:Env) (G:Hp) (fl:Fl) (U':Env),IA K U Y H G/\ex P C W c U=some (fl,U')/\ZG K U Y H G U' D fl
def KG(K:iA)(P:oB)(C:Calls)(W:Nat)(c:List S):TS:=λD Y H=>∃(U:Env) (G:Hp) (fl:Fl) (U':Env),IA K U Y H G/\NA P C W c U=some (fl,U')/\ZG K U Y H G U' D fl
def TS.oH(h:PS X e t)(w:∀D Y H,u D Y H->t D Y H):PS X e u:=λaA s Y H D I q=>h aA s Y H D I (w D Y H q)
def TS.U5(h:tD X e t)(w:∀D Y H,u D Y H->t D Y H):tD X e u:=λaA s Y H D I q=>h aA s Y H D I (w D Y H q)
section
variable{X:Cx}{K:iA}
def gJ{r:FA O}(h:r.GC f=some (fl,U))(n:∀e,fl≠.ex e):∃a U1,r=some (.ok a,U1)/\f a U1=some (fl,U):=by
 unfold FA.GC at h;split at h
 ·cases h
 ·cases h;exact absurd rfl (n _)
 ·exact⟨_,_,rfl,h⟩
def ZG.ne{D:Ends}(h:ZG K U Y H G U' D fl):∀e,fl≠.ex e:=λe z=>by subst z;exact h
def ek:tD X [] (KG K P C W []):=TS.U5 ak λD Y H hz=>by
 obtain⟨U,G,fl,U',r,e,k⟩:=hz;simp only[NA,lC,nE] at e;obtain⟨rfl,rfl⟩:=e;exact k Y H G (eC.refl r)
def Zj{st:rB}{rest:List rB}(h1:PS X st (tS K P C W c))(h2:tD X rest (KG K P C W cs)):tD X (st::rest) (KG K P C W (c::cs)):=by
 refine TS.U5 (V7 h1 h2) λD Y H hz=>?_
 obtain⟨U,G,fl,U',r,e,k⟩:=hz;rw[NA] at e
 cases q:ex P C W c U with
 |none=>rw[q] at e;cases e
 |some y =>
  obtain⟨kL,U1⟩:=y;rw[q] at e;refine⟨U,G,kL,U1,r,q, ?_⟩
  induction kL using Fl.casesOn with
  |nx=>exact λY1 H1 G1 a1=>⟨U1,G1,fl,U',a1.wA,e,k.pre a1⟩
  |bk=>cases e;exact k
  |ct=>cases e;exact k
  |rt v=>cases e;exact k
  |ex x=>cases e;exact k
def IA.yWa(r:IA K U Y H G)(e:store i v U=some U')(h:RC K H G (AA U Y) new v x) :
  IA K U' (Y.set i (some x)) H G/\(∀a,AA U' (Y.set i (some x)) a->AA U Y a\/new a)/\(∀j:Nat,U'[j]?=some .un->U[j]?=some .un/\(Y.set i (some x))[j]?=Y[j]?) /\
  (∀(j:Nat) d l,U[j]?=some (.ow d true l)->(Y.set i (some x))[j]?=Y[j]?/\∃d',U'[j]?=some (.ow d' true l))/\U'.length=U.length:=by
 have key:∃sl,i<U.length/\U'=U.set i sl/\(∀d l,U[i]?≠some (.ow d true l))/\((∃d,v=.sh d/\sl=.sh d)\/∃d,v=.ow d/\sl=.ow d false false):=by
  unfold store at e;split at e
  ·cases e
  ·cases e
  ·cases e
  ·rename_i s h1 h2 h3;have Tf:∀d l,U[i]?≠some (.ow d true l):=λd l z=>by rw[h3] at z;cases z;exact h1 _ _ rfl
   have dD:=(bE.mp h3).1
   induction v using RV.casesOn with
   |sh d=>cases e;exact⟨_,dD,rfl,Tf,.inl ⟨d,rfl,rfl⟩⟩
   |ow d=>cases e;exact⟨_,dD,rfl,Tf,.inr ⟨d,rfl,rfl⟩⟩
   |od d=>cases e
 obtain⟨sl,hi,rfl,np,hs⟩:=key;have qJ:i<Y.length:=by rw[<- r.len];exact hi
 have hx:(Y.set i (some x))[i]?=some (some x):=YK qJ;have ne:∀j:Nat,j≠i->(Y.set i (some x))[j]?=Y[j]?:=λj h=>jF (λz=>h z.symm)
 have dF:∀(j:Nat) s,(U.set i sl)[j]?=some s->(j=i/\s=sl)\/(j≠i/\U[j]?=some s):=λj s h=>by
  rcases gI h with ⟨h1,h2,_⟩ | h
  ·exact .inl ⟨h1,h2⟩
  ·exact .inr h
 refine⟨⟨by rw[VG,VG];exact r.len,r.sub,λj d h1=>?_,λj d p l h1=>?_,λj k d p l d' p' l' a h1 h2 h3 h4=>?_⟩,λa ⟨j,d,p,l,h1,h2⟩=>?_,λj h1=>?_,λj d l h1=>?_,by rw[VG]⟩
 ·rcases dF j _ h1 with ⟨rfl,z⟩ | ⟨nj,z⟩
  ·rcases hs with ⟨d0,rfl,rfl⟩ | ⟨d0,rfl,rfl⟩
   ·cases z;exact⟨x,hx,h⟩
   ·cases z
  ·rw[ne j nj];exact r.sh j d z
 ·rcases dF j _ h1 with ⟨rfl,z⟩ | ⟨nj,z⟩
  ·rcases hs with ⟨d0,rfl,rfl⟩ | ⟨d0,rfl,rfl⟩
   ·cases z
   ·cases z;obtain⟨a,rfl,g,o,_,_⟩:=h;exact⟨a,hx,g,o⟩
  ·rw[ne j nj];exact r.ow j d p l z
 ·rcases dF j _ h1 with ⟨rfl,z⟩ | ⟨nj,z⟩
  ·rcases dF k _ h2 with ⟨rfl,z'⟩ | ⟨nk,z'⟩
   ·rfl
   ·rcases hs with ⟨d0,rfl,rfl⟩ | ⟨d0,rfl,rfl⟩
    ·cases z
    ·obtain⟨b,rfl,g,o,no,_⟩:=h;rw[hx] at h3;cases h3;rw[ne k nk] at h4;exact absurd ⟨k,_,_,_,z',h4⟩ no
  ·rcases dF k _ h2 with ⟨rfl,z'⟩ | ⟨nk,z'⟩
   ·rcases hs with ⟨d0,rfl,rfl⟩ | ⟨d0,rfl,rfl⟩
    ·cases z'
    ·obtain⟨b,rfl,g,o,no,_⟩:=h;rw[hx] at h4;cases h4;rw[ne j nj] at h3;exact absurd ⟨j,_,_,_,z,h3⟩ no
   ·rw[ne j nj] at h3;rw[ne k nk] at h4;exact r.inj _ _ _ _ _ _ _ _ _ z z' h3 h4
 ·rcases dF j _ h1 with ⟨rfl,z⟩ | ⟨nj,z⟩
  ·rcases hs with ⟨d0,rfl,rfl⟩ | ⟨d0,rfl,rfl⟩
   ·cases z
   ·obtain⟨b,rfl,g,o,no,m⟩:=h;rw[hx] at h2;cases h2;exact .inr m
  ·rw[ne j nj] at h2;exact .inl ⟨j,d,p,l,z,h2⟩
 ·rcases dF j _ h1 with ⟨rfl,z⟩ | ⟨nj,z⟩
  ·rcases hs with ⟨d0,rfl,rfl⟩ | ⟨d0,rfl,rfl⟩<;>cases z
  ·exact⟨z,ne j nj⟩
 ·by_cases hj:j=i
  ·subst hj;exact absurd h1 (np d l)
  ·exact⟨ne j hj,d,by rw[jF (λz=>hj z.symm)];exact h1⟩
theorem GA.store(r:IA K U Y H G)(a:GA K U Y H G U1 H1 G1)(e:store i v U1=some U')(h:RC K H1 G1 (AA U1 Y) (hE H) v x):eC K U Y H G U' (Y.set i (some x)) H1 G1:=by
 obtain⟨h1,h2,h3,h4,h5⟩:=a.wA.yWa e h;have s:=GA.s r a;refine⟨h1,a.ext,λb z=>?_,λj z=>?_,λj d l z=>?_,h5.trans s.len⟩
 ·rcases h2 b z with z | z
  ·exact s.own b z
  ·exact .inr z
 ·obtain⟨z1,z2⟩:=h3 j z;obtain⟨z3,z4⟩:=s.un j z1;exact⟨z3,z2⟩
 ·obtain⟨_,d',z2⟩:=s.pin j d l z;exact h4 j d' l z2
def IA.fm(r:IA K U Y H G)(e:store i (.sh d) U=some U')(h:oA K G d x):eC K U Y H G U' (Y.set i (some x)) H G :=
 GA.store r (GA.refl r) e h
def gB(K:iA)(one:Bool)(is:List Nat):TG:=λv Y H Q=>∃(U:Env) (G:Hp) (d:D) (U':Env),IA K U Y H G/\oA K G d v/\bB one is d U=some U'/\∀Y',eC K U Y H G U' Y' H G->Q Y' H
def fS(K:iA)(is:List Nat):uP:=λvs Y H Q=>∃(U:Env) (G:Hp) (ds:List D) (U':Env),IA K U Y H G/\jA K G ds vs/\aAn is ds U=some U'/\∀Y',eC K U Y H G U' Y' H G->Q Y' H
def xPa(h:PG X tg (ZP i)):PG X tg (gB K true [i]):=by
 intro aA s Y H v u Q I rv h0;obtain⟨U,G,d,U',r,hd,e,k⟩:=h0;exact h aA s Y H v u Q I rv (k _ (r.fm (by simpa only[bB] using e) hd))
def dQa:cL X [] (fS K []):=λaA s Y H vs us Q I rv hz=>by
 obtain⟨U,G,ds,U',r,hd,e,k⟩:=hz
 induction ds using NC with
 |nil =>
  simp only[aAn,lC] at e;subst e;simp only[jA] at hd;subst hd;exact cQa aA s Y H [] us Q I rv ⟨rfl,k Y (eC.refl r)⟩
 |cons d ds=>simp[aAn] at e
def bQa(h:PG X e (ZP i))(t:cL X es (fS K is))(hs:(CH (e::es) X.env).map (·.2)=assign e X.env::(CH es X.env).map (·.2)):cL X (e::es) (fS K (i::is)) :=
 λaA s Y H vs us Q I rv hz=>by
  obtain⟨U,G,ds,U',r,hd,e,k⟩:=hz
  induction ds using NC with
  |nil=>simp[aAn] at e
  |cons d ds =>
   simp only[aAn] at e
   cases q:store i (.sh d) U with
   |none=>rw[q] at e;cases e
   |some U1 =>
    rw[q] at e;simp only[jA] at hd;obtain⟨v,r',rfl,h1,h2⟩:=hd;have a1:=r.fm q h1;exact aQa h t hs aA s Y H (v::r') us Q I rv ⟨v,r',rfl,U1,G,ds,U',a1.wA,h2,e,λY' a2=>k Y' (a1.trans a2)⟩
theorem jm:∀{is:List Nat} {ds:List D} {U U':Env},aAn is ds U=some U'->ds.length=is.length
 |[],[],_,_,_=>rfl
 |[],_::_,_,_,e=>by simp[aAn] at e
 |_::_,[],_,_,e=>by simp[aAn] at e
 |i::is,d::ds,U,U',e=>by
  simp only[aAn] at e
  cases q:store i (.sh d) U with
  |none=>rw[q] at e;cases e
  |some U1=>rw[q] at e;simp[jm e]
def Mj(xo:cB X K P C Z)(t:cL X es (fS K is))(hn:(CH es X.env).length=is.length)(MM:(CH es X.env).findIdx? (·.1)=none):PG X (.Tuple es k0 pos) (gB K false is) :=
 λaA s Y H v u Q I rv hz=>by
  obtain⟨U,G,d,U',r,hd,e,k⟩:=hz
  induction d using D.casesOn with
  |t ds =>
   simp only[bB] at e;simp only[oA] at hd;obtain⟨a,vs,rfl,h1,h2⟩:=hd;refine zPa xo.calm t hn MM aA s Y H (.ref a) u Q I rv ⟨a,vs,rfl, ?_, ?_,U,G,ds,U',r,h2,e,k⟩
   ·rw[xo.bD];exact iI r.sub h1
   ·rw[h2.len];exact jm e
  |_=>simp only[bB,reduceCtorEq] at e
end
mutual
noncomputable def jZa(x:bA):rB->Bool
 |.For _ it body _ _=>(aAz it==some x)||QT x body
 |.If _ a b _=>QT x a||QT x b
 |_=>false
noncomputable def QT(x:bA):List rB->Bool
 |[]=>false
 |s::r=>jZa x s||QT x r
end
def US(Z:CC)(it:DA)(body:List rB)(cs:List E):List E :=
 match aAz it with
 |some x=>(match Z.slot x with | some i=>if QT x body then [.uD i] else cs | none=>cs)
 |none=>cs
def ql(Z:CC)(x:bA)(args:List DA):S:=if args.all aAd&&(decide (args≠[])&&decide (args.length<=100)) then(match Z.glob x with | .exc=>.i8 x (VB Z args) | .cK=>.rl x (VB Z args) | _=>.OA) else .OA
def j8(Z:CC)(e:DA):S:=match rO e with
 |some x=>ql Z x.1.1 x.2.1
 |none=>.OA
noncomputable def vo(cb:List S)(hs:List ExceptHandler)(o f:List rB):S:=.OA
def lYa(Z:CC)(cb:List S)(hs:List ExceptHandler)(o f:List rB):S:=vo cb hs o f
noncomputable def gTa(Z:CC)(e:DA)(c:S):S:=c
noncomputable def Yk(e:DA)(c:E):S:=.ret c
noncomputable def sUa(Z:CC)(s:rB)(r:List rB):Option (Nat×Nat×E×E):=none
def tUa(o:Option (Nat×Nat×E×E))(c:S)(cs:List S):List S :=
 match o with
 |none=>c::cs
 |some (i,j,ce,cc)=>.yl i j ce cc::cs.drop 3
def p8(i:Nat)(k:DA)(ck ce:E):S:=.set i ck ce
noncomputable def N8(Z:CC)(ts:List DA)(e:DA)(ce:E):S:=.OA
def EV(Z:CC)(it:DA):Option (XF×List E):=match aAz it with
 |some x=>if(x==("steps":bA))||(x==("lines":bA))||(x==("_law_there_are":bA))||(x==("_law_numbers":bA)) then(Z.slot x).map λi=>(.key,[.uD i]) else none
 |none=>none
noncomputable def B4(o:Option (XF×List E))(t:Option (Bool×List Nat))(cb:List S)(c:S):S:=match o with
 |some u=>(match t with | some x=>.for x.2 x.1 u.1 u.2 cb | none=>.OA)
 |none=>c
mutual
noncomputable def cS(Z:CC):rB->S
 |.Pass _=>.pass
 |.Break _=>.brk
 |.Continue _=>.cnt
 |.Return (some e) _=>gTa Z e (Yk e (cE Z e))
 |.Return none _=>.c8
 |.Expr e _=>if SE e then .expr (cE Z e) else .OA
 |.If c a b _=>.BA (cE Z c) (DG Z a) (DG Z b)
 |.While c body [] _=>.UT (cE Z c) (DG Z body)
 |.For tg it body [] _=>B4 (EV Z it) (jI Z tg) (DG Z body) (match jI Z tg,BL Z it with
  |some (one,is),some (k,cA)=>if PL k one then .for is one k (US Z it body (VB Z cA)) (DG Z body) else .OA
  |_,_=>.OA)
 |.Assign [.Name x _] e _=>match Z.mG x with
  |some i=>if SE e||qW e then .WA i (cE Z e) else .OA
  |none=>.OA
 |.Assign [.Tuple ts _ _] e _=>match QL Z ts with
  |some is=>if SE e&&SW e then .PU is (cE Z e) else .OA
  |none=>N8 Z ts e (cE Z e)
 |.Assign [.Subscript (.Name x _) k _] e _=>match Z.slot x with
  |some i=>if SE e&&j7 k then p8 i k (cE Z k) (cE Z e) else .OA
  |none=>.OA
 |.AugAssign (.Name x _) .Add e _=>(match Z.mG x with
  |some i=>if SE e then .OA else .OA
  |none=>.OA)
 |.Raise (some e) none _=>j8 Z e
 |.Try body hs o f _=>lYa Z (DG Z body) hs o f
 |_=>.OA
noncomputable def DG(Z:CC):List rB->List S
 |[]=>[]
 |s::r=>tUa (sUa Z s r) (cS Z s) (DG Z r)
end
abbrev uI(X:Cx)(Z:CC):Prop:=∀x,Z.pO x=true->X.fn x=true\/X.env.scope.names.lookup x=some .local
section
variable{K:iA}
def Rn(h:SE e=true)(t:Option DA)(line:Nat)(env:jM):swapsWith e t line env=pure false:=by
 induction e using mF<;>first | rfl | cases h
def qX(h:SE e=true)(t:DA)(line:Nat)(env:jM):swapsWithSole [t] e line env=pure false:=Rn h _ _ _
def U7{st:rB}(h:∀U,ex P C W c U=none):PS X st (tS K P C W c):=λaA s Y H D I hz=>by obtain⟨U,G,fl,U',r,e,k⟩:=hz;rw[h] at e;cases e
def sD{st:rB}:PS X st (tS K P C W .OA):=U7 λU=>rfl
def qRa:PS X (.Pass pos) (tS K P C W .pass):=TS.oH pRa λD Y H hz=>by
 obtain⟨U,G,fl,U',r,e,k⟩:=hz;cases e;exact k Y H G (eC.refl r)
def fRa:PS X (.Break pos) (tS K P C W .brk):=TS.oH eRa λD Y H hz=>by
 obtain⟨U,G,fl,U',r,e,k⟩:=hz;cases e;exact k Y H G (eC.refl r)
def gRa:PS X (.Continue pos) (tS K P C W .cnt):=TS.oH iRa λD Y H hz=>by
 obtain⟨U,G,fl,U',r,e,k⟩:=hz;cases e;exact k Y H G (eC.refl r)
def kRa(h:JA X K P C e c)(n:SE e=true):PS X (.Expr e pos) (tS K P C W (.expr c)):=by
 refine TS.oH (jRa h.v (Rn n _ _ _)) λD Y H hz=>?_
 obtain⟨U,G,fl,U',r,e,k⟩:=hz;obtain⟨v,U1,e1,e2⟩:=gJ e k.ne;cases e2;exact⟨U,G,v,_,r,e1,λx H' G' a hv=>k Y H' G' (GA.s r a)⟩
def sRa:PS X (.Return none pos) (tS K P C W .c8):=TS.oH rRa λD Y H hz=>by
 obtain⟨U,G,fl,U',r,e,k⟩:=hz;cases e;exact k .pA Y H G (eC.refl r) (by show oA K G .pA _;simp[oA])
def IA.give(r:IA K U Y H G)(h:U[i]?=some (.ow d false l))(hx:Y[i]?=some (some (.ref a))) :
  eC K U Y H G (U.set i .mv) Y H G/\RC K H G (AA (U.set i .mv) Y) (λa=>AA U Y a\/H a=none) (.ow d) (.ref a):=by
 have key:∀(j:Nat) (sl:Sl),(U.set i .mv)[j]?=some sl->(j=i/\sl=.mv)\/(j≠i/\U[j]?=some sl):=λj sl z=>by
  rcases gI z with ⟨e,z,_⟩ | z
  ·exact .inl ⟨e,z⟩
  ·exact .inr z
 obtain⟨b,h1,g,o⟩:=r.ow i d false l h;rw[hx] at h1;cases h1
 have eF:∀c,AA (U.set i .mv) Y c->AA U Y c/\c≠a:=λc hz=>by
  obtain⟨j,d',p',l',z,w⟩:=hz;rcases key j _ z with ⟨_,q⟩ | ⟨nj,q⟩
  ·cases q
  ·refine⟨⟨j,d',p',l',q,w⟩,λz=>?_⟩;subst z;exact nj (r.inj _ _ _ _ _ _ _ _ _ q h w hx)
 refine⟨⟨⟨by rw[VG];exact r.len,r.sub,λj d' z=>?_,λj d' p' l' z=>?_,λj k d1 p1 l1 d2 p2 l2 c z1 z2 z3 z4=>?_⟩,Ext.refl,λc z=>.inl (eF c z).1,λj z=>?_,λj d' l' z=>⟨rfl,d', ?_⟩,by rw[VG]⟩,a,rfl,g,o,λz=>(eF a z).2 rfl,.inl ⟨i,d,false,l,h,hx⟩⟩
 ·rcases key j _ z with ⟨_,q⟩ | ⟨nj,q⟩
  ·cases q
  ·exact r.sh j d' q
 ·rcases key j _ z with ⟨_,q⟩ | ⟨nj,q⟩
  ·cases q
  ·exact r.ow j d' p' l' q
 ·rcases key j _ z1 with ⟨_,q⟩ | ⟨nj,q⟩
  ·cases q
  ·rcases key k _ z2 with ⟨_,q'⟩ | ⟨nk,q'⟩
   ·cases q'
   ·exact r.inj _ _ _ _ _ _ _ _ _ q q' z3 z4
 ·rcases key j _ z with ⟨_,q⟩ | ⟨nj,q⟩
  ·cases q
  ·exact⟨q,rfl⟩
 ·have nj:j≠i:=λw=>by subst w;rw[h] at z;cases z
  rw[jF (λw=>nj w.symm)];exact z
def tRa(h:JA X K P C e c):PS X (.Return (some e) pos) (tS K P C W (.ret c)):=by
 by_cases hv:∃i,c=.v i
 ·obtain⟨i,rfl⟩:=hv;refine TS.oH (Yj h.h) λD Y H hz=>?_
  obtain⟨U,G,fl,U',r,e,k⟩:=hz;replace e:(match U[i]? with | some (.ow d false _)=>some (.rt (.ow d),U.set i .mv) | some (.sh d)=>some (.rt (.sh d),U) | _=>none)=some (fl,U'):=e;split at e
  ·rename_i d l hd;cases e;obtain⟨a,h1,g,o⟩:=r.ow i d false l hd;refine⟨U,G,.slot i,U,r,by simp[hd,hd,Sl.get,CI.hd],λx H' G' a1 hx=>?_⟩;obtain⟨a',TH,g',o'⟩:=a1.wA.ow i d false l hd;have hx:Y[i]?=some (some x):=hx;rw[hx] at TH;cases TH;obtain⟨s1,v1⟩:=a1.wA.give hd hx;exact(k.pre (GA.s r a1)) _ Y H' G' s1 v1
  ·rename_i d hd;cases e;obtain⟨v,h1,h2⟩:=r.sh i d hd;refine⟨U,G,.slot i,U,r,by simp[hd,Sl.get,CI.hd],λx H' G' a1 hx=>?_⟩;obtain⟨v',TH,Ze⟩:=a1.wA.sh i d hd;have hx:Y[i]?=some (some x):=hx;rw[hx] at TH;cases TH;exact k x Y H' G' (GA.s r a1) Ze
  ·cases e
 ·refine TS.oH (Yj h.v) λD Y H hz=>?_
  obtain⟨U,G,fl,U',r,e,k⟩:=hz
  have e':(ev P C false c U).GC (λv U1=>some (.rt v,U1))=some (fl,U'):=by
   cases c<;>first | exact absurd ⟨_,rfl⟩ hv | exact e
  obtain⟨v,U1,e1,e2⟩:=gJ e' k.ne;cases e2;exact⟨U,G,v,_,r,e1,λx H' G' a hv=>k x Y H' G' (GA.s r a) (hv.wJ λa z=>.inr z)⟩
def oRa(hc:JA X K P C c cc)(ha:tD X a (KG K P C W ca))(hb:tD X b (KG K P C W cb)):PS X (.If c a b pos) (tS K P C W (.BA cc ca cb)):=by
 refine TS.oH (nRa hc.t ha hb) λD Y H hz=>?_
 obtain⟨U,G,fl,U',r,e,k⟩:=hz;obtain⟨v,U1,e1,e2⟩:=gJ e k.ne;split at e2
 ·refine⟨U,G,true,U1,r,e1,λH1 G1 a1=>?_⟩;refine oQ ?_;exact⟨U1,G1,fl,U',a1.wA,e2,k.pre (GA.s r a1)⟩
 ·refine⟨U,G,false,U1,r,e1,λH1 G1 a1=>?_⟩;refine nQ ?_;exact⟨U1,G1,fl,U',a1.wA,e2,k.pre (GA.s r a1)⟩
 ·cases e2
def mX(xo:pC qq X K P C Z)(iC:uI X Z)(h:Z.mG x=some i):PG X (.Name x pos) (ZP i):=by
 unfold CC.mG at h;split at h
 ·rename_i hl
  have hN:X.N[i]?=some x:=by
   unfold CC.slot at h;split at h
   ·cases h
   ·split at h
    ·rw[xo.IL];exact mW h
    ·cases h
  refine Nj (by rw[xo.IL];exact xo.nd) hN ?_ (iC x hl);unfold L2.Loc;rw[xo.nm];unfold CC.pO at hl;rw[MK,nB] at hl;rcases hl with hl | hl
  ·exact .inl (XC hl)
  ·exact .inr (XC hl.2)
 ·cases h
def bRa(xo:pC qq X K P C Z)(iC:uI X Z)(hi:Z.mG x=some i)(h:JA X K P C e c)(n:SE e=true):PS X (.Assign [.Name x p] e pos) (tS K P C W (.WA i c)):=by
 refine TS.oH (yT h.v (mX xo iC hi) (qX n _ _ _)) λD Y H hz=>?_
 obtain⟨U,G,fl,U',r,e,k⟩:=hz;obtain⟨v,U1,e1,e2⟩:=gJ e k.ne;unfold jJ at e2
 cases q:store i v U1 with
 |none=>rw[q] at e2;cases e2
 |some U2 =>
  rw[q] at e2;cases e2;exact⟨U,G,v,U1,r,e1,λx H' G' a hv=>k _ H' G' (GA.store r a q hv)⟩
theorem X8(xo:cB X K P C Z)(iC:uI X Z):∀{ts:List DA} {is:List Nat},QL Z ts=some is->cL X ts (fS K is)/\(CH ts X.env).length=is.length/\(CH ts X.env).findIdx? (·.1)=none/\ts.length=is.length
 |[],is,h=>by cases h;exact⟨dQa,rfl,rfl,rfl⟩
 |e::es,is,h=>by
  simp only[QL] at h
  cases q:W8 Z e with
  |none=>rw[q] at h;cases h
  |some i =>
   rw[q] at h;simp only[UG] at h
   cases q2:QL Z es with
   |none=>rw[q2] at h;cases h
   |some zg =>
    rw[q2] at h;cases h;obtain⟨h1,h2,h3,h4⟩:=X8 xo iC q2;cases e<;>simp only[W8,reduceCtorEq] at q;refine⟨bQa (mX xo iC q) h1 rfl, ?_, ?_,by simp[h4]⟩
    ·show(CH es X.env).length+1=zg.length+1;rw[h2]
    ·show((false,_)::CH es X.env).findIdx? (·.1)=none;rw[List.findIdx?_cons,h3];rfl
def cXa(h:SW e=true)(env:jM):swappedStores [.Tuple ts k0 p] e env=pure none:=by
 induction e using mF<;>first | rfl | cases h
def cRa(xo:cB X K P C Z)(iC:uI X Z)(hi:QL Z ts=some is)(h:JA X K P C e c)(n:SE e=true)(n2:SW e=true):PS X (.Assign [.Tuple ts k0 p] e pos) (tS K P C W (.PU is c)):=by
 obtain⟨h1,h2,h3,h4⟩:=X8 xo iC hi;refine TS.oH (yT h.v (Mj xo h1 h2 h3) (qX n _ _ _) (cXa n2 _)) λD Y H hz=>?_
 obtain⟨U,G,fl,U',r,e,k⟩:=hz;obtain⟨v,U1,e1,e2⟩:=gJ e k.ne;unfold jJ at e2
 cases q:bB false is v.d U1 with
 |none=>rw[q] at e2;cases e2
 |some U2 =>
  rw[q] at e2;cases e2;refine⟨U,G,v,U1,r,e1,λx H' G' a hv=>?_⟩;obtain⟨G2,a2,r2⟩:=a.share hv;exact⟨U1,G2,v.d,_,a2.wA,r2,q,λY' b=>k Y' H' G2 ((GA.s r a2).trans b)⟩
def oDa(h:MS U i=true):∃ks ds p l,U[i]?=some (.ow (.ZA ks ds) p l):=by
 unfold MS at h;split at h
 ·rename_i d e p l q;exact⟨d,e,p,l,q⟩
 ·cases h
def wSa(K:iA):JU:=λo i v H Q=>∃a xs k b,o=.ref a/\i=.ref b/\DS K H a xs/\aC K H k b/\xs.length<sizeLine/\∀u,aAc v u->((storedH xs k b u).map (·.1)).Nodup->∀ep,Q (CA H a (.ext (BB a (storedH xs k b u) ep)))
def xSa:JU:=λ_ _ _ _ _=>False
def xUa(hu:X.A.units+11<cLine):kZ X (λo i v H Q=>Gk o i v H Q\/xSa o i v H Q\/wSa X.K o i v H Q):=by
 intro aA s Y H o i v ov iv u Q I ro ri rv h;rcases h with h | h | ⟨a,xs,k,b,rfl,rfl,d,kk,hl,q⟩
 ·exact aAQ aA s Y H o i v ov iv u Q I ro ri rv h
 ·exact h.elim
 ·cases ro;cases ri;exact oUa hu I d kk hl λep s' I' nd=>⟨_,I',q _ rv nd ep⟩
def vRa(xo:cB X K P C Z)(hi:Z.slot x=some i)(h:JA X K P C e c)(hj:JA X K P C j cj)(n:SE e=true)
  (ha:∀v,assign (.Subscript (.Name x p) j p2) X.env v=(do
   let ov <- holding [v] (eval (.Name x p) X.env)
   let iv <- holding [v,ov] (eval j X.env)
   standAt p2
   holding [v,ov,iv] (setItem ov iv v)
   release [v,ov,iv] [])):PS X (.Assign [.Subscript (.Name x p) j p2] e pos) (tS K P C W (.set i cj c)):=by
 have hp:PE X (.Name x p) (LO i):=CC.iN xo hi;refine TS.oH (yT h.v (yPa hp hj.v (xo.bD ▸ xUa (by have:=xo.hu;lia)) ha) (qX n _ _ _)) λD Y H hz=>?_
 obtain⟨U,G,fl,U',r,e,k⟩:=hz;obtain⟨v,U1,e1,e2⟩:=gJ e k.ne;split at e2
 ·rename_i ho;obtain⟨w,U2,e3,e4⟩:=gJ e2 k.ne;split at e4
  ·rename_i ds p1 nn hs hw;unfold jJ at e4
   cases q:eG ds.length nn with
   |none=>rw[q] at e4;cases e4
   |some m =>
    rw[q] at e4;cases e4;refine⟨U,G,v,U1,r,e1,λy H1 G1 a1 hv=>?_⟩;obtain⟨d0,p0,l0,h0⟩:=Cg ho;obtain⟨b,hb,g0,o0⟩:=a1.wA.ow i _ p0 l0 h0;refine⟨.ref b,hb,U1,G1,w,U2,a1.wA,e3,λz H2 G2 a2 hz=>?_⟩;have BS:=hv.wait a2.ext λa z=>.inl (a2.own a z)
    obtain⟨G3,a3,r3⟩:=(a1.trans a2).share BS;obtain⟨b',qE,g1,vs,O5,hr⟩:=a3.wA.ow i _ _ _ hs;rw[hb] at qE;cases qE;have ng:=hz.fN;rw[hw] at ng;cases ng.int;have a4:=a3.wA.write hs hb (hr.set r3 m);exact .inl ⟨b,vs,nn,m,rfl,rfl,O5,by rw[hr.len];exact q,k Y _ _ (GA.s r (a3.trans a4))⟩
  ·cases e4
 ·split at e2
  ·rename_i ho;obtain⟨w,U2,e3,e4⟩:=gJ e2 k.ne;unfold EO at e4;split at e4
   ·rename_i ks ds p1 k0 hs hk;split at e4
    ·rename_i hz;cases e4;refine⟨U,G,_,U1,r,e1,λy H1 G1 a1 hv=>?_⟩;obtain⟨d0,c0,p0,l0,h0⟩:=oDa ho;obtain⟨b,hb,g0,o0⟩:=a1.wA.ow i _ p0 l0 h0;refine⟨.ref b,hb,U1,G1,w,U2,a1.wA,e3,λz H2 G2 a2 P5=>?_⟩;have BS:=hv.wait a2.ext λa z=>.inl (a2.own a z)
     obtain⟨G3,a3,r3,s3⟩:=(a1.trans a2).v8 BS;obtain⟨b0,rfl,kk⟩:=qQ hk P5.fN;replace kk:=aC.mono (Sm.of s3) kk;obtain⟨b',qE,g1,xs,vs,hx,⟨nd,hl,sm,pS,pr⟩,hr⟩:=a3.wA.ow i _ _ _ hs;rw[hb] at qE;cases qE
     have ID:xs.length<sizeLine:=by
      have h1:=DK hz;have h2:=(nA _).symm.trans (congrArg BH pr.1)
      lia
     refine .inr (.inr ⟨b,xs,k0,b0,rfl,rfl,⟨hx,nd,hl,sm,λx hx=>aC.mono a3.wA.sub (pS x hx)⟩,aC.mono a3.wA.sub kk,ID,λu ru nd2 ep=>?_⟩);obtain⟨g2,ws,g3,g4⟩:=yk (k:=k0) (b:=b0) ⟨pr.1,vs,pr.2,hr⟩ ru r3;have a4:=a3.wA.p9 (ob:=.ext (BB b (storedH xs k0 b0 u) ep)) (d':=.ZA (IG ks k0) (tF ks ds k0 v.d)) hs hb ⟨_,ws,⟨_,VC⟩,⟨nd2,EC K8 ID,sm,J8 pS kk,g2,g3⟩,g4⟩;exact k Y _ _ (GA.s r (a3.trans a4))
    ·cases e4
   ·cases e4
  ·cases e2
def qZa(po:iM (model X.prog X.w) X.A X.env X.xe)(hc:JA X K P C c cc)(hb:tD X body (KG K P C W cb)):PS X (.While c body [] pos) (tS K P C W (.UT cc cb)):=by
 refine TS.oH (yRa po hc.t hb) λD Y H hz=>?_
 obtain⟨U,G,fl,U',r,e,k⟩:=hz;refine⟨λm Y1 H1=>∃U1 G1,eC K U Y H G U1 Y1 H1 G1/\MI (ev P C true cc) (NA P C W cb) m U1=some (fl,U'),⟨W,U,G,eC.refl r,e⟩,λm Y1 H1 hz=>?_⟩;obtain⟨U1,G1,a1,e1⟩:=hz
 cases m with
 |zero=>simp[MI] at e1
 |succ m =>
  simp only[MI] at e1;obtain⟨v,U2,e2,e3⟩:=gJ e1 k.ne;split at e3
  ·refine⟨U1,G1,true,U2,a1.wA,e2,λH2 G2 a2=>?_⟩;refine oQ ?_;have LU:=a1.trans (GA.s a1.wA a2);refine⟨λY3 H3=>∃U3 G3,eC K U Y H G U3 Y3 H3 G3/\MI (ev P C true cc) (NA P C W cb) m U3=some (fl,U'),λY3 H3 ⟨U3,G3,a3,e4⟩=>⟨m,uN m,U3,G3,a3,e4⟩, ?_⟩
   cases q:NA P C W cb U2 with
   |none=>rw[q] at e3;cases e3
   |some y =>
    obtain⟨kL,U3⟩:=y;rw[q] at e3;refine⟨U2,G2,kL,U3,a2.wA,q, ?_⟩
    induction kL using Fl.casesOn with
    |nx=>exact λY3 H3 G3 a3=>⟨U3,G3,LU.trans a3,e3⟩
    |ct=>exact λY3 H3 G3 a3=>⟨U3,G3,LU.trans a3,e3⟩
    |bk=>cases e3;exact λY3 H3 G3 a3=>k Y3 H3 G3 (LU.trans a3)
    |rt v=>cases e3;exact k.pre LU
    |ex x=>cases e3;exact k
  ·refine⟨U1,G1,false,U2,a1.wA,e2,λH2 G2 a2=>?_⟩;refine nQ ?_;cases e3;exact k Y1 H2 G2 (a1.trans (GA.s a1.wA a2))
  ·cases e3
end
section
variable{X:Cx}{K:iA}{P:oB}{C:Calls}{W:Nat}{Z:CC}
def sX(r:IA K U Y H G):IA K (aAe o U) Y H G/\∀a,AA (aAe o U) Y a->AA U Y a:=by
 induction o using tI with
 |none=>exact⟨r,λ_ z=>z⟩
 |some i=>exact⟨r.unset i,λ_ z=>z.unset⟩
def zT(r:IA K U1 Y H1 G1)(ho:∀i,o=some i->∃d p l,U1[i]?=some (.ow d p l))(e:aAm o U1 Uf=some U')(a:eC K (aAe o U1) Y H1 G1 Uf Yf Hf Gf) :
  eC K U1 Y H1 G1 U' Yf Hf Gf/\∀c,AA U' Yf c->AA Uf Yf c\/(AA U1 Y c/\¬AA (aAe o U1) Y c):=by
 induction o using tI with
 |none =>
  simp only[aAm,lC] at e;subst e;exact⟨a,λ_ z=>.inl z⟩
 |some i =>
  obtain⟨d,p,l,hi⟩:=ho i rfl;obtain⟨b,hb,g,ob⟩:=r.ow i d p l hi;have x5:AA U1 Y b:=⟨i,d,p,l,hi,hb⟩
  have QW:¬AA (U1.set i .un) Y b:=r.OQ hi hb;have kH:H1 b≠none:=(r.owned x5).1;simp only[aAm] at e;split at e
  ·rename_i sl hf hs;rw[hi] at hs;cases hs;cases e;obtain⟨hu1,dg⟩:=a.un i hf;have hx:Yf[i]?=some (some (.ref b)):=dg.trans hb;have gb:Gf b=none:=a.ext.gn b kH g QW;have of:zG K Hf Gf b d:=ob.mono a.ext.gg λo' h'=>a.ext.hh b o' h' QW
   have nf:¬AA Uf Yf b:=λz=>by
    rcases a.own b z with z | z
    ·exact QW z
    ·exact kH z
   have rf:IA K (Uf.set i (.ow d p l)) Yf Hf Gf:=(a.wA.unset i).DO hx gb of λz=>nf z.unset
   have eF:∀c,AA (Uf.set i (.ow d p l)) Yf c->c=b\/AA Uf Yf c:=λc z=>by
    rcases z.DO hx with z | z
    ·exact .inl z
    ·exact .inr z.unset
   refine⟨⟨rf,a.ext.weaken λc z=>z.unset,λc z=>?_,λj z=>?_,λj d' l' z=>?_,by rw[VG,a.len];exact VG⟩,λc z=>?_⟩
   ·rcases eF c z with rfl | z
    ·exact .inl x5
    ·rcases a.own c z with z | z
     ·exact .inl z.unset
     ·exact .inr z
   ·rcases gI z with ⟨_,w,_⟩ | ⟨nj,w⟩
    ·cases w
    ·obtain⟨w1,w2⟩:=a.un j w;have Oo:(U1.set i .un)[j]?=some .un:=w1;rw[jF (λq=>nj q.symm)] at Oo;exact⟨Oo,w2⟩
   ·by_cases hj:j=i
    ·subst hj;rw[hi] at z;cases z;refine⟨dg,d, ?_⟩;rw[YK (bE.mp hf).1]
    ·have z':(aAe (some i) U1)[j]?=some (.ow d' true l'):=by
      show(U1.set i .un)[j]?=_;rw[jF (λq=>hj q.symm)];exact z
     obtain⟨w1,d2,w2⟩:=a.pin j d' l' z';exact⟨w1,d2,by rw[jF (λq=>hj q.symm)];exact w2⟩
   ·rcases eF c z with rfl | z
    ·exact .inr ⟨x5,QW⟩
    ·exact .inl z
  ·cases e
def ZG.restore{D:Ends}(r:IA K U1 Y H1 G1)(ho:∀i,o=some i->∃d p l,U1[i]?=some (.ow d p l))(e:aAm o U1 Uf=some U')(k:ZG K U1 Y H1 G1 U' D fl) :
  ZG K (aAe o U1) Y H1 G1 Uf D fl:=by
 induction fl using Fl.casesOn with
 |nx=>exact λY' H' G' b=>k Y' H' G' (zT r ho e b).1
 |bk=>exact λY' H' G' b=>k Y' H' G' (zT r ho e b).1
 |ct=>exact λY' H' G' b=>k Y' H' G' (zT r ho e b).1
 |rt v =>
  refine λx Y' H' G' b hv=>?_
  obtain⟨b1,b2⟩:=zT r ho e b;refine k x Y' H' G' b1 ?_
  induction v using RV.casesOn with
  |sh d=>exact hv
  |ow d =>
   obtain⟨c,rfl,g,oo,n,m⟩:=hv;refine⟨c,rfl,g,oo,λz=>?_, ?_⟩
   ·rcases b2 c z with z | ⟨z1,z2⟩
    ·exact n z
    ·rcases m with m | m
     ·exact z2 m
     ·exact(r.owned z1).1 m
   ·rcases m with m | m
    ·exact .inl ((sX r).2 c m)
    ·exact .inr m
  |od d =>
   obtain⟨c,rfl,g,oo,n,m,vs,O5,hr⟩:=hv
   have key:∀c,¬AA Uf Y' c->(AA (aAe o U1) Y c\/H1 c=none)->¬AA U' Y' c/\(AA U1 Y c\/H1 c=none):=λc n m=>by
    refine⟨λz=>?_, ?_⟩
    ·rcases b2 c z with z | ⟨z1,z2⟩
     ·exact n z
     ·rcases m with m | m
      ·exact z2 m
      ·exact(r.owned z1).1 m
    ·rcases m with m | m
     ·exact .inl ((sX r).2 c m)
     ·exact .inr m
   exact⟨c,rfl,g,oo,(key c n m).1,(key c n m).2,vs,O5,λx hx=>let ⟨b,ws,h1,h2,h3,h4,h5,h6⟩:=hr x hx;⟨b,ws,h1,h2,h3,(key b h4 h5).1,(key b h4 h5).2,h6⟩⟩
 |ex x=>exact k
def yR(K:iA)(P:oB)(C:Calls)(W:Nat)(one:Bool)(tg:List Nat)(cb:List S)(U0:Env)(Y0:St)(H0 G0:Hp)(fl:Fl)(Uf:Env)(ds:List D)(i:Nat):St->Hp->Prop:=λY H =>
 ∃U G,eC K U0 Y0 H0 G0 U Y H G/\cC (bB one tg) (NA P C W cb) (ds.drop i) U=some (fl,Uf)
def qIa(hk:ZG K U0 Y0 H0 G0 Uf D0 fl)(hd:ds[i]?=some d)
  (h:∃U G,eC K U0 Y0 H0 G0 U Y H G/\oA K G d x/\cC (bB one tg) (NA P C W cb) (ds.drop i) U=some (fl,Uf)) :
  gB K one tg x Y H λY2 H2=>KG K P C W cb { D0 with nx:=yR K P C W one tg cb U0 Y0 H0 G0 fl Uf ds (i+1),ct:=yR K P C W one tg cb U0 Y0 H0 G0 fl Uf ds (i+1),bk:=D0.nx } Y2 H2:=by
 obtain⟨U,G,a,hx,e⟩:=h;have hl:i<ds.length:=(bE.mp hd).1
 have ed:ds.drop i=d::ds.drop (i+1):=by(rw[UQ hl];congr 1;rw[FC hl] at hd;exact eE hd)
 rw[ed] at e;simp only[cC] at e
 cases q:bB one tg d U with
 |none=>rw[q] at e;cases e
 |some U1 =>
  rw[q] at e;simp only at e;refine⟨U,G,d,U1,a.wA,hx,q,λY1 a1=>?_⟩;have MN:=a.trans a1
  cases q2:NA P C W cb U1 with
  |none=>rw[q2] at e;cases e
  |some y =>
   obtain⟨kL,U2⟩:=y;rw[q2] at e;refine⟨U1,G,kL,U2,a1.wA,q2, ?_⟩
   induction kL using Fl.casesOn with
   |nx=>exact λY2 H2 G2 a2=>⟨U2,G2,MN.trans a2,e⟩
   |ct=>exact λY2 H2 G2 a2=>⟨U2,G2,MN.trans a2,e⟩
   |bk=>cases e;exact λY2 H2 G2 a2=>hk Y2 H2 G2 (MN.trans a2)
   |rt v=>cases e;exact hk.pre MN
   |ex x=>cases e;exact hk
def IP{lo:Int}:(fH lo ds).length=ds.length:=by unfold fH;simp
def B1{lo:Int}{i:Nat}(h:ds[i]?=some d):(fH lo ds)[i]?=some (.t [.int (lo+(i:Int)),d]):=by
 have hl:i<ds.length:=(bE.mp h).1;unfold fH;rw[iD,WL hl,FE,MJ,h];rfl
def Cy(hg:G p=none)(h:oA K G d y):oA K (CA G p (.t [.int i,y])) (.t [.int i,d]) (.ref p):=by
 simp only[oA];exact⟨p,_,rfl,QC.of VC,jA.cons (by simp[oA]) (jA.cons (oA.mono (Sm.laid hg) d h) jA.nil)⟩
def pIa(hk:ZG K U0 Y0 H0 G0 Uf D0 fl)(h:yR K P C W one tg cb U0 Y0 H0 G0 fl Uf ds ds.length Y H):D0.nx Y H:=by
 obtain⟨U,G,a,e⟩:=h;rw[nr] at e;simp only[cC,lC,nE] at e;obtain⟨rfl,rfl⟩:=e;exact hk Y H G a
def Src(K:iA)(U:Env)(Y:St)(H G:Hp)(a:kA)(vs:List V):Prop:=zB K G a vs\/(H a=some (.l vs)/\G a=none/\¬AA U Y a)
def Mb(K:iA)(U0:Env)(Y0:St)(H1 G2:Hp)(ds:List D)(J:It):Prop:=∀i H' Uc Y' Gc,eC K U0 Y0 H1 G2 Uc Y' H' Gc->(i=ds.length->J.stop i H')/\(i<ds.length->J.go i H')/\∀d x H2,ds[i]?=some d->J.FX i H' x H2->∃Gd,GA K Uc Y' H' Gc Uc H2 Gd/\oA K Gd d x
def LN(K:iA)(U:Env)(Y:St)(H1 G1:Hp)(ds:List D)(J:It):Prop:=∀{U0:Env} {Y0:St} {G2:Hp},XA G1 G2->(∀c,AA U0 Y0 c->AA U Y c)->Mb K U0 Y0 H1 G2 ds J
section
variable{U U0 Uc:Env}{Y Y0 Y':St}{H1 G1 G2 H' Gc:Hp}{ds:List D}{a:kA}{vs:List V}
def Src.at(h:Src K U Y H1 G1 a vs)(LF:XA G1 G2)(own:∀c,AA U0 Y0 c->AA U Y c)(af:eC K U0 Y0 H1 G2 Uc Y' H' Gc):zB K H' a vs:=by
 rcases h with h | ⟨h1,h2,h3⟩
 ·exact af.wA.sub.seq (af.ext.gg.seq (LF.seq h))
 ·exact zB.of (af.ext.hh a _ h1 λz=>h3 (own a z))
def DX(M5:Src K U Y H1 G1 a vs)(hr:jA K G1 ds vs):LN K U Y H1 G1 ds (YY K a):=by
 intro U0 Y0 G2 LF own i H' Uc Y' Gc af;have lH:=M5.at LF own af;refine⟨λhi=>⟨vs,lH,by rw[hr.len];lia⟩,λhi=>?_,λd x H2 hd hy=>?_⟩
 ·obtain⟨x',h1,h2⟩:=hr.get (FC hi);exact⟨vs,x',lH,h1⟩
 ·obtain⟨rfl,hy⟩:=hy;obtain⟨x',h1,h2⟩:=hr.get hd
  have:=hy vs lH
  rw[h1] at this;cases this;exact⟨_,GA.refl af.wA,oA.mono af.ext.gg d (oA.mono LF d h2)⟩
def Qo(ht:QC K G1 a vs)(hr:jA K G1 ds vs):LN K U Y H1 G1 ds (ZY K a):=by
 intro U0 Y0 G2 LF own i H' Uc Y' Gc af;have lH:QC K H' a vs:=iI af.wA.sub (iI af.ext.gg (iI LF ht));refine⟨λhi=>⟨vs,lH,by rw[hr.len];lia⟩,λhi=>?_,λd x H2 hd hy=>?_⟩
 ·obtain⟨x',h1,h2⟩:=hr.get (FC hi);exact⟨vs,x',lH,h1⟩
 ·obtain⟨rfl,hy⟩:=hy;obtain⟨x',h1,h2⟩:=hr.get hd
  have:=hy vs lH
  rw[h1] at this;cases this;exact⟨_,GA.refl af.wA,oA.mono af.ext.gg d (oA.mono LF d h2)⟩
def Po{lo:Int}:LN K U Y H1 G1 ((XB n).map λ(j:Nat)=>D.int (lo+(j:Int))) (xR lo n):=by
 intro U0 Y0 G2 LF own i H' Uc Y' Gc af;rw[nA,fU];refine⟨λhi=>by show n<=i;lia,λhi=>hi,λd x H2 hd hy=>?_⟩;obtain⟨rfl,rfl⟩:=hy;rw[iD] at hd;obtain⟨j,hj,rfl⟩:=AF.mp hd;obtain⟨hl,rfl⟩:=bE.mp hj;exact⟨_,GA.refl af.wA,by simp[oA]⟩
def BX{lo:Int}(M5:Src K U Y H1 G1 a vs)(hr:jA K G1 ds vs):LN K U Y H1 G1 (fH lo ds) (XY K a lo):=by
 intro U0 Y0 G2 LF own i H' Uc Y' Gc af;have lH:=M5.at LF own af;rw[IP];refine⟨λhi=>⟨vs,lH,by rw[hr.len];lia⟩,λhi=>?_,λd x H2 hd hy=>?_⟩
 ·obtain⟨x',h1,h2⟩:=hr.get (FC hi);exact⟨vs,x',lH,h1⟩
 ·obtain⟨p0,y0,hn,rfl,rfl,hy⟩:=hy;have hl:i<ds.length:=by rw[<- IP];exact(bE.mp hd).1
  obtain⟨x',h1,h2⟩:=hr.get (FC hl);have hy:=hy vs lH;rw[h1] at hy;cases hy;rw[B1 (FC hl)] at hd;cases hd;exact⟨_,(GA.refl af.wA).TM hn,Cy (XA.free af.wA.sub hn) (oA.mono af.ext.gg _ (oA.mono LF _ h2))⟩
def hZa(wC:ds=(xs.map (·.1)).map zM)(h1:G1 a=some (.ext (BB a xs ep)))(h2:∀x∈xs,aC K G1 x.1 x.2.1):LN K U Y H1 G1 ds (WY a xs ep):=by
 intro U0 Y0 G2 LF own i H' Uc Y' Gc af;have hG:Gc a=some (.ext (BB a xs ep)):=af.ext.gg.app (λ_ z=>nomatch z) (LF _ _ h1);have lH:=af.wA.sub _ _ hG;have hl:ds.length=xs.length:=by rw[wC,nA,nA]
 refine⟨λhi=>⟨lH,by lia⟩,λhi=>⟨lH,by lia⟩,λd v H2 hd hy=>?_⟩;obtain⟨rfl,x,hx,rfl⟩:=hy;rw[wC,iD,iD,hx] at hd;cases hd;exact⟨_,GA.refl af.wA,Rk (aC.mono af.ext.gg (aC.mono (Sm.of LF) (h2 x (VE hx))))⟩
end
def bJ(K:iA)(P:oB)(C:Calls)(k0:XF)(cA:List E)(Y:St)(H:Hp)(R:It->Hp->Prop):Prop:=∃(U:Env) (G:Hp) (hs:List Hd) (U1:Env) (ds:List D) (o:Option Nat),IA K U Y H G/\qD P C cA U=some (.ok hs,U1)/\aAa k0 hs U1=some (ds,o) /\
 ∀H1 G1,GA K U Y H G U1 H1 G1->(∀i,o=some i->∃d p l,U1[i]?=some (.ow d p l))->∀J,LN K (aAe o U1) Y H1 G1 ds J->R J H1
abbrev oP(K:iA)(P:oB)(C:Calls)(k0:XF)(cA:List E)(Y:St)(H:Hp)(R:It->Hp->Prop):Prop:=bJ K P C k0 cA Y H R
def nb{wi:TI}(n:k0≠.of)(h:∀Y H (R:It->Hp->Prop),bJ K P C k0 cA Y H R->wi Y H R)(Y:St)(H:Hp)(R:It->Hp->Prop)(q:oP K P C k0 cA Y H R):wi Y H R:=h Y H R q
theorem Vk(h:jA K G ds vs):∀{ws:List V},(∀w∈ws,w∈vs)->∃es:List D,(∀e∈es,e∈ds)/\jA K G es ws
 |[],_=>⟨[],(λ_ z=>nomatch z),jA.nil⟩
 |w::ws,m=>by
  obtain⟨es,h1,h2⟩:=Vk h λx hx=>m x (.tail _ hx)
  obtain⟨d,hd,hr⟩:=b8 h (m w (.head _));refine⟨d::es,λe he=>?_,jA.cons hr h2⟩;rcases DC.mp he with rfl | he
  ·exact hd
  ·exact h1 e he
def Ie(po:iM (model X.prog X.w) X.A X.env X.xe)(xo:cB X K P C Z)(hg:PG X tg (gB K one is))(hb:tD X body (KG K P C W cb))
  (hs:∀x,PJ it X.env x=pure x) (hi:PI X tg it wi)
  (hw:∀Y H (R:It->Hp->Prop),bJ K P C k0 cA Y H R->wi Y H R) :
  PS X (.For tg it body [] pos) (tS K P C W (.for is one k0 cA cb)):=by
 refine TS.oH (mRa po xo.calm hi hg hb hs) λD Y H hz=>?_
 obtain⟨U,G,fl,U',r,e,k⟩:=hz;obtain⟨hs,U1,e1,e2⟩:=gJ e k.ne
 cases q:aAa k0 hs U1 with
 |none=>rw[q] at e2;cases e2
 |some y =>
  obtain⟨ds,o⟩:=y;rw[q] at e2;simp only at e2
  cases q2:cC (bB one is) (NA P C W cb) ds (aAe o U1) with
  |none=>rw[q2] at e2;cases e2
  |some y =>
   obtain⟨kL,Uf⟩:=y;rw[q2] at e2;simp only[Run.restore] at e2
   cases q3:aAm o U1 Uf with
   |none=>rw[q3] at e2;cases e2
   |some U2 =>
    rw[q3] at e2;cases e2;refine hw Y H _ ⟨U,G,hs,U1,ds,o,r,e1,q,λH1 G1 a1 ho J wj=>?_⟩;have k1:ZG K (aAe o U1) Y H1 G1 Uf D fl:=ZG.restore a1.wA ho q3 (k.pre (GA.s r a1));refine⟨λi m Y2 H2=>m=ds.length-i/\i<=ds.length/\yR K P C W one is cb (aAe o U1) Y H1 G1 fl Uf ds i Y2 H2,⟨_,rfl,mI _,aAe o U1,G1,eC.refl (sX a1.wA).1,q2⟩, ?_⟩
    rintro i m Y2 H2 ⟨rfl,hi,hp⟩
    obtain⟨U2,G2,b,e2⟩:=id hp;obtain⟨j1,j2,j3⟩:=wj (XA.refl _) (λ_ h=>h) i H2 U2 Y2 G2 b;by_cases dD:i<ds.length
    ·refine .inr ⟨j2 dD,yR K P C W one is cb (aAe o U1) Y H1 G1 fl Uf ds (i+1),λY' H' p'=>⟨ds.length-(i+1),by lia,rfl,dD,p'⟩,λx H' y=>?_⟩;obtain⟨Gd,af,rp⟩:=j3 _ x H' (FC dD) y;exact qIa k1 (FC dD) ⟨U2,Gd,b.trans (GA.s b.wA af),rp,e2⟩
    ·obtain rfl:i=ds.length:=by lia
     exact .inl ⟨j1 rfl,pIa k1 hp⟩
end
section
variable{X:Cx}{K:iA}
def PI.or(h:PI X tg it w)(h':PI X tg it w'):PI X tg it (λY H R=>w Y H R\/w' Y H R):=λaA s Y H R I q=>by
 rcases q with q | q
 ·exact h aA s Y H R I q
 ·exact h' aA s Y H R I q
def qV(e:qD P C [c] U=some (.ok hs,U1)):∃h,hs=[h]/\hd c (ev P C false c U) U=some (.ok h,U1):=by
 rw[qD] at e;obtain⟨h,U2,e1,e2⟩:=CB e;rw[qD] at e2;simp only[FA.bind] at e2;cases e2;exact⟨h,rfl,e1⟩
def v7(hK:X.K=K)(Y:St)(H:Hp)(R:It->Hp->Prop)(q:bJ K P C .of [c] Y H R) :
  R5 X.K (tH K P C c) Y H R\/S5 X.K (tH K P C c) Y H R:=by
 obtain⟨U,G,hs,U1,ds,o,r,e,ei,k⟩:=q;obtain⟨h,rfl,e1⟩:=qV e;rw[hK]
 induction h using Hd.casesOn with
 |slot i =>
  (unfold aAa at ei;dsimp only at ei)
  split at ei
  ·rename_i IE p l hi;cases ei;refine .inl ⟨U,G,.slot i,U1,r,e1,λx H1 G1 a1 hx=>?_⟩;have hx:Y[i]?=some (some x):=hx;obtain⟨b,h1,g,vs,hv,hr⟩:=a1.wA.ow i _ _ _ hi;rw[hx] at h1;cases h1;exact⟨b,rfl,⟨vs,zB.of hv⟩,k H1 G1 a1 (λj z=>by cases z;exact⟨_,_,_,hi⟩) _ (DX (.inr ⟨hv,g,a1.wA.OQ hi hx⟩) hr)⟩
  ·rename_i IE hi;cases ei;refine .inl ⟨U,G,.slot i,U1,r,e1,λx H1 G1 a1 hx=>?_⟩;have hx:Y[i]?=some (some x):=hx;obtain⟨v,h1,h2⟩:=a1.wA.sh i _ hi;rw[hx] at h1;cases h1;simp only[oA] at h2;obtain⟨b,vs,rfl,h3,h4⟩:=h2;exact⟨b,rfl,⟨vs,a1.wA.sub.seq h3⟩,k H1 G1 a1 (λj z=>by cases z) _ (DX (.inl h3) h4)⟩
  ·rename_i IE hi;cases ei;refine .inr ⟨U,G,.slot i,U1,r,e1,λx H1 G1 a1 hx=>?_⟩;have hx:Y[i]?=some (some x):=hx;obtain⟨v,h1,h2⟩:=a1.wA.sh i _ hi;rw[hx] at h1;cases h1;simp only[oA] at h2;obtain⟨b,vs,rfl,h3,h4⟩:=h2;exact⟨b,rfl,⟨vs,iI a1.wA.sub h3⟩,k H1 G1 a1 (λj z=>by cases z) _ (Qo h3 h4)⟩
  ·cases ei
 |val v =>
  (unfold aAa at ei;dsimp only at ei)
  split at ei
  ·rename_i IE hd;cases ei;refine .inl ⟨U,G,.val v,U1,r,e1,λx H1 G1 a1 hx=>?_⟩
   induction v using RV.casesOn with
   |sh d =>
    simp only[RV.d] at hd;subst hd;have hx:oA K G1 (.l ds) x:=hx;simp only[oA] at hx;obtain⟨b,vs,rfl,h3,h4⟩:=hx;exact⟨b,rfl,⟨vs,a1.wA.sub.seq h3⟩,k H1 G1 a1 (λj z=>by cases z) _ (DX (.inl h3) h4)⟩
   |ow d =>
    simp only[RV.d] at hd;subst hd;obtain⟨b,rfl,g,⟨vs,hv,hr⟩,n,m⟩:=hx;exact⟨b,rfl,⟨vs,zB.of hv⟩,k H1 G1 a1 (λj z=>by cases z) _ (DX (.inr ⟨hv,g,n⟩) hr)⟩
   |od d=>exact hx.elim
  ·rename_i IE hd;cases ei;refine .inr ⟨U,G,.val v,U1,r,e1,λx H1 G1 a1 hx=>?_⟩
   induction v using RV.casesOn with
   |sh d =>
    simp only[RV.d] at hd;subst hd;have hx:oA K G1 (.t ds) x:=hx;simp only[oA] at hx;obtain⟨b,vs,rfl,h3,h4⟩:=hx;exact⟨b,rfl,⟨vs,iI a1.wA.sub h3⟩,k H1 G1 a1 (λj z=>by cases z) _ (Qo h3 h4)⟩
   |ow d =>
    simp only[RV.d] at hd;subst hd;obtain⟨b,rfl,g,o,n,m⟩:=hx;exact o.elim
   |od d=>exact hx.elim
  ·cases ei
def zKa(hK:X.K=K)(Y:St)(H:Hp)(R:It->Hp->Prop)(q:oP K P C .of [c] Y H R):R5 X.K (tH K P C c) Y H R\/S5 X.K (tH K P C c) Y H R:=v7 hK Y H R q
def kl(Y:St)(H:Hp)(R:It->Hp->Prop)(q:bJ K P C .jC [c] Y H R) :
  qg (xH K P C [c]) Y H R:=by
 obtain⟨U,G,hs,U1,ds,o,r,e,ei,k⟩:=q;refine⟨U,G,hs,U1,r,e,λxs H1 G1 a1 hx=>?_⟩;obtain⟨h,rfl,e1⟩:=qV e;obtain⟨x,r',rfl,h1,h2,_⟩:=hx;cases (show r'=[] from h2)
 (unfold aAa at ei;dsimp only at ei)
 split at ei
 ·rename_i n hn;split at ei
  ·rename_i hb;cases ei;cases (h1.read a1.wA hn).int;refine⟨n,rfl,by lia,by lia,k H1 G1 a1 (λj z=>by cases z) _ ?_⟩;rw[show(λ(j:Nat)=>D.int (j:Int))=λ(j:Nat)=>D.int (0+(j:Int)) from funext λj=>by rw[Int.zero_add]];exact Po
  ·cases ei
 ·cases ei
def ll(Y:St)(H:Hp)(R:It->Hp->Prop)(q:bJ K P C .jC [c,c2] Y H R) :
  ug (xH K P C [c,c2]) Y H R:=by
 obtain⟨U,G,hs,U1,ds,o,r,e,ei,k⟩:=q;refine⟨U,G,hs,U1,r,e,λxs H1 G1 a1 hx=>?_⟩;rw[qD] at e;obtain⟨h,U2,e1,e2⟩:=CB e;obtain⟨K5,U3,e3,e4⟩:=CB e2;obtain⟨h',rfl,e5⟩:=qV e3;cases e4;obtain⟨x,r',rfl,h1,h2,_⟩:=hx;obtain⟨y,r'',rfl,h3,h4,_⟩:=h2;cases (show r''=[] from h4)
 (unfold aAa at ei;dsimp only at ei)
 split at ei
 ·rename_i m n hm hn;split at ei
  ·rename_i hb;cases ei;cases (h1.read a1.wA hm).int;cases (h3.read a1.wA hn).int;exact⟨m,n,rfl,by omega,k H1 G1 a1 (λj z=>by cases z) _ Po⟩
  ·cases ei
 ·cases ei
def C1(hK:X.K=K){lo:Int}(Y:St)(H:Hp)(R:It->Hp->Prop)(q:bJ K P C (.enum lo) [c] Y H R) :
  Q5 X.K lo (xH K P C [c]) Y H R:=by
 obtain⟨U,G,hs,U1,ds,o,r,e,ei,k⟩:=q;rw[hK];refine⟨U,G,hs,U1,r,e,λxs H1 G1 a1 QM=>?_⟩;obtain⟨h,rfl,e1⟩:=qV e;obtain⟨x,r',rfl,hx,h2,_⟩:=QM;cases (show r'=[] from h2)
 induction h using Hd.casesOn with
 |slot i =>
  (unfold aAa at ei;dsimp only at ei)
  have hx:Y[i]?=some (some x):=hx;split at ei
  ·rename_i IE p l hi;cases ei;obtain⟨b,h1,g,vs,hv,hr⟩:=a1.wA.ow i _ _ _ hi;rw[hx] at h1;cases h1;exact⟨b,rfl,⟨vs,zB.of hv⟩,k H1 G1 a1 (λj z=>by cases z;exact⟨_,_,_,hi⟩) _ (BX (.inr ⟨hv,g,a1.wA.OQ hi hx⟩) hr)⟩
  ·rename_i IE hi;cases ei;obtain⟨v,h1,h2⟩:=a1.wA.sh i _ hi;rw[hx] at h1;cases h1;simp only[oA] at h2;obtain⟨b,vs,rfl,h3,h4⟩:=h2;exact⟨b,rfl,⟨vs,a1.wA.sub.seq h3⟩,k H1 G1 a1 (λj z=>by cases z) _ (BX (.inl h3) h4)⟩
  ·cases ei
 |val v =>
  (unfold aAa at ei;dsimp only at ei)
  split at ei
  ·rename_i IE hd;cases ei
   induction v using RV.casesOn with
   |sh d =>
    simp only[RV.d] at hd;subst hd;have hx:oA K G1 (.l IE) x:=hx;simp only[oA] at hx;obtain⟨b,vs,rfl,h3,h4⟩:=hx;exact⟨b,rfl,⟨vs,a1.wA.sub.seq h3⟩,k H1 G1 a1 (λj z=>by cases z) _ (BX (.inl h3) h4)⟩
   |ow d =>
    simp only[RV.d] at hd;subst hd;obtain⟨b,rfl,g,⟨vs,hv,hr⟩,n,m⟩:=hx;exact⟨b,rfl,⟨vs,zB.of hv⟩,k H1 G1 a1 (λj z=>by cases z) _ (BX (.inr ⟨hv,g,n⟩) hr)⟩
   |od d=>exact hx.elim
  ·cases ei
def DV(h:wQ e=true)(env:jM):∀x,PJ e env x=pure x:=λx=>by
 induction e using mF<;>first | rfl | cases h
def a9(xo:cB X K P C Z)(iC:uI X Z)(h:jI Z tg=some (one,is)):PG X tg (gB K one is):=by
 cases tg<;>simp only[jI,reduceCtorEq] at h
 ·rename_i x pos
  cases q:Z.mG x with
  |none=>rw[q] at h;cases h
  |some i=>rw[q] at h;cases h;exact xPa (mX xo iC q)
 ·rename_i es k0 pos
  cases q:QL Z es with
  |none=>rw[q] at h;cases h
  |some zg =>
   rw[q] at h;cases h;obtain⟨h1,h2,h3,h4⟩:=X8 xo iC q;exact Mj xo h1 h2 h3
end
section
variable{K:iA}{Y Y':St}{H G H' G':Hp}
def rT(h:(as++HB n Sl.un)[i]?=some s):(as[i]?=some s)\/(as.length<=i/\s=.un):=by
 by_cases hl:i<as.length
 ·rw[TQ hl] at h;exact .inl h
 ·rw[kP (by lia),E9] at h;split at h
  ·cases h;exact .inr ⟨by lia,rfl⟩
  ·cases h
def E8(h:i<vs.length):(L2.aAj N vs)[i]?=(vs.map some)[i]?:=by
 unfold L2.aAj;rw[TQ (by rw[nA];exact h)]
def IA.pad(r:IA K as (vs.map some) H G)(hn:N.length=as.length+n):IA K (as++HB n .un) (L2.aAj N vs) H G/\∀a,AA (as++HB n .un) (L2.aAj N vs) a->AA as (vs.map some) a:=by
 have hl:as.length=vs.length:=by have:=r.len;rwa[nA] at this
 have st:∀i:Nat,i<as.length->(L2.aAj N vs)[i]?=(vs.map some)[i]?:=λi h=>E8 (by lia)
 have lt:∀{i:Nat} {s:Sl},as[i]?=some s->i<as.length:=λh=>(bE.mp h).1
 refine⟨⟨by unfold L2.aAj;simp;lia,r.sub,λi d h=>?_,λi d p l h=>?_,λi j d p l d' p' l' a h1 h2 h3 h4=>?_⟩,λa ⟨i,d,p,l,h1,h2⟩=>?_⟩
 ·rcases rT h with h | ⟨_,h⟩
  ·rw[st i (lt h)];exact r.sh i d h
  ·cases h
 ·rcases rT h with h | ⟨_,h⟩
  ·rw[st i (lt h)];exact r.ow i d p l h
  ·cases h
 ·rcases rT h1 with h1 | ⟨_,h1⟩
  ·rcases rT h2 with h2 | ⟨_,h2⟩
   ·rw[st i (lt h1)] at h3;rw[st j (lt h2)] at h4;exact r.inj _ _ _ _ _ _ _ _ _ h1 h2 h3 h4
   ·cases h2
  ·cases h1
 ·rcases rT h1 with h1 | ⟨_,h1⟩
  ·rw[st i (lt h1)] at h2;exact⟨i,d,p,l,h1,h2⟩
  ·cases h1
theorem HR:∀{as:List Sl} {U:Env} (i:Nat),as.length<=U.length->(back as U)[i]?=(as[i]?).bind λa=>match a with | .ow _ _ _=>U[i]? | a=>some a
 |[],U,i,_=>by cases U<;>rfl
 |a::as,[],i,h=>by simp at h
 |a::as,b::U,i,h=>by
  have ih:=λj=>HR (as:=as) (U:=U) j (by simpa using h)
  cases i with
  |zero=>cases a<;>rfl
  |succ i=>cases a<;>exact ih i
def zZ(r:IA K as (vs.map some) H G)(hp:as.all KL=true)(hn:N.length=as.length+n)
  (a:eC K (as++HB n .un) (L2.aAj N vs) H G U' Y' H' G'):GA K as (vs.map some) H G (back as U') H' G'/\∀c,AA (back as U') (vs.map some) c->AA U' Y' c:=by
 have hl:as.length=vs.length:=by have:=r.len;rwa[nA] at this
 have lt:∀{i:Nat} {s:Sl},as[i]?=some s->i<as.length:=λh=>(bE.mp h).1
 have st:∀i:Nat,i<as.length->(L2.aAj N vs)[i]?=(vs.map some)[i]?:=λi h=>E8 (by lia)
 have mB:as.length<=U'.length:=by rw[a.len,kC];lia
 have Ou:∀{i:Nat} {s:Sl},as[i]?=some s->(as++HB n .un)[i]?=some s:=λh=>by rw[TQ (lt h)];exact h
 have pin:∀(i:Nat) d p l,as[i]?=some (.ow d p l)->p=true/\Y'[i]?=(vs.map some)[i]?/\∃d',U'[i]?=some (.ow d' true l):=λi d p l h=>by(have h1:=EE.mp hp _ (VE h);simp only[KL] at h1;subst h1;obtain⟨h2,d',h3⟩:=a.pin i d l (Ou h);exact⟨rfl,h2.trans (st i (lt h)),d',h3⟩)
 have dF:∀{i:Nat} {s:Sl},(back as U')[i]?=some s->(∃d d' l,as[i]?=some (.ow d true l)/\s=.ow d' true l/\U'[i]?=some s/\Y'[i]?=(vs.map some)[i]?)\/(as[i]?=some s/\∀d p l,s≠.ow d p l):=λ{i s} h=>by
  rw[HR i mB] at h
  cases e:as[i]? with
  |none=>rw[e] at h;cases h
  |some b =>
   rw[e] at h
   cases b with
   |ow d p l =>
    obtain⟨rfl,h1,d',h2⟩:=pin i d p l e;simp only[UG] at h;rw[h2] at h;cases h;exact .inl ⟨d,d',l,rfl,rfl,h2,h1⟩
   |un=>cases h;exact .inr ⟨rfl,λd p l z=>nomatch z⟩
   |mv=>cases h;exact .inr ⟨rfl,λd p l z=>nomatch z⟩
   |sh d=>cases h;exact .inr ⟨rfl,λd p l z=>nomatch z⟩
 have Rv:(back as U').length=as.length:=by
  apply Nat.le_antisymm
  ·refine gY λz=>?_
   have:=HR (U:=U') as.length mB
   rw[FC z,WI (jB _)] at this;cases this
  ·refine gY λz=>?_
   have h1:=HR (U:=U') (back as U').length mB;rw[WI (jB _),FC z] at h1
   cases e:as[(back as U').length] with
   |ow d p l =>
    have e':as[(back as U').length]?=some (.ow d p l):=by rw[FC z,e]
    obtain⟨_,_,d',h2⟩:=pin _ d p l e';rw[e] at h1;simp only[UG] at h1;rw[h2] at h1;cases h1
   |un=>rw[e] at h1;cases h1
   |mv=>rw[e] at h1;cases h1
   |sh d=>rw[e] at h1;cases h1
 refine⟨⟨⟨by rw[Rv];exact r.len,a.wA.sub,λi d h=>?_,λi d p l h=>?_,λi j d p l d' p' l' c h1 h2 h3 h4=>?_⟩,a.ext.weaken λc z=>(r.pad hn).2 c z,λi=>?_⟩,λc ⟨i,d,p,l,h1,h2⟩=>?_⟩
 ·rcases dF h with ⟨_,_,_,_,z,_,_⟩ | ⟨z,_⟩
  ·cases z
  ·obtain⟨v,h1,h2⟩:=r.sh i d z;exact⟨v,h1,oA.mono a.ext.gg d h2⟩
 ·rcases dF h with ⟨d0,d',l',h1,h2,h3,h4⟩ | ⟨_,z⟩
  ·rw[<- h4];exact a.wA.ow i d p l h3
  ·exact absurd rfl (z d p l)
 ·rcases dF h1 with ⟨_,_,_,_,_,z3,z4⟩ | ⟨_,z⟩
  ·rcases dF h2 with ⟨_,_,_,_,_,w3,w4⟩ | ⟨_,w⟩
   ·rw[<- z4] at h3;rw[<- w4] at h4;exact a.wA.inj _ _ _ _ _ _ _ _ _ z3 w3 h3 h4
   ·exact absurd rfl (w _ _ _)
  ·exact absurd rfl (z _ _ _)
 ·rw[HR i mB]
  cases e:as[i]? with
  |none=>trivial
  |some b =>
   cases b with
   |ow d p l =>
    obtain⟨rfl,_,d',h2⟩:=pin i d p l e;simp only[UG];rw[h2];exact⟨rfl,rfl⟩
   |un=>trivial
   |mv=>trivial
   |sh d=>trivial
 ·rcases dF h1 with ⟨_,_,_,_,_,z3,z4⟩ | ⟨_,z⟩
  ·rw[<- z4] at h2;exact⟨i,d,p,l,z3,h2⟩
  ·exact absurd rfl (z _ _ _)
end
end CI
namespace L2
open PySem PySem.Spec PyProof.Rows
theorem aAo[BEq O][LawfulBEq O]:∀{l:List (O×N)} {x:O} {k:N},l.lookup x=some k->(x,k)∈l
 |[],x,k,h=>by simp at h
 | (y,k')::r,x,k,h=>by
  rw[pI] at h;split at h
  ·rename_i e;have e:=XC e;subst e;cases h;exact YD
  ·exact WC _ (aAo h)
def ux(h:∀p∈scope.names,p.2=.free->∃c,env.cells.lookup p.1=some c) :
  ∃cl,closureFor scope env=pure cl/\(∀x c,cl.lookup x=some c->env.cells.lookup x=some c)/\∀p∈scope.names,p.2=.free->∃c,cl.lookup p.1=some c:=by
 have key:∀(names:List (bA×JJ)) (vA:List (bA×kA)),(∀p∈names,p.2=.free->∃c,env.cells.lookup p.1=some c)->(∀x c,vA.lookup x=some c->env.cells.lookup x=some c) ->
   ∃cl,(forIn names vA λ(p:bA×JJ) (cs:List (bA×kA))=>(if(p.2==NameKind.free)=true then do let a <- cellOf env p.1;pure (ForInStep.yield ((p.1,a)::cs)) else pure (ForInStep.yield cs):DE _))=pure cl /\
    (∀x c,cl.lookup x=some c->env.cells.lookup x=some c)/\(∀p∈names,p.2=.free->∃c,cl.lookup p.1=some c)/\∀x c,vA.lookup x=some c->∃c',cl.lookup x=some c':=by
  intro names
  induction names with
  |nil=>intro vA _ h2;exact⟨vA,by simp,h2,λp hp=>(nomatch hp),λx c e=>⟨c,e⟩⟩
  |cons p r ih =>
   intro vA h1 h2;by_cases hp:p.2=.free
   ·obtain⟨c,hc⟩:=h1 p YD hp;have e:cellOf env p.1=pure c:=by unfold cellOf;rw[hc]
    obtain⟨cl,q1,q2,q3,q4⟩:=ih ((p.1,c)::vA) (λq hq=>h1 q (WC _ hq)) (λx c' z=>by
     rw[pI] at z;split at z
     ·rename_i w;rw[XC w,hc];exact z
     ·exact h2 x c' z)
    refine⟨cl, ?_,q2,λq hq hf=>?_,λx c' z=>?_⟩
    ·rw[lU];have hb:(p.2==NameKind.free)=true:=by rw[hp];rfl
     rw[KA hb,e];simp only[pure_bind];exact q1
    ·rcases DC.mp hq with w | w
     ·subst w;exact q4 q.1 c (by rw[pI];simp)
     ·exact q3 q w hf
    ·by_cases w:x=p.1
     ·subst w;exact q4 p.1 c (by rw[pI];simp)
     ·refine q4 x c' ?_;rw[pI]
      have:(x==p.1)=false:=sN.mpr w
      rw[this];exact z
   ·obtain⟨cl,q1,q2,q3,q4⟩:=ih vA (λq hq=>h1 q (WC _ hq)) h2;refine⟨cl, ?_,q2,λq hq hf=>?_,q4⟩
    ·rw[lU];have hb:¬(p.2==NameKind.free)=true:=by simpa using hp
     rw[if_neg hb];simp only[pure_bind];exact q1
    ·rcases DC.mp hq with w | w
     ·subst w;exact absurd hf hp
     ·exact q3 q w hf
 obtain⟨cl,q1,q2,q3,_⟩:=key scope.names [] h (λx c e=>by simp at e);refine⟨cl, ?_,q2,q3⟩;unfold closureFor
 have:(forIn scope.names ([]:List (bA×kA)) λ(x:bA×JJ) (r:List (bA×kA))=>(match x with | (name,kind)=>if(kind==NameKind.free)=true then do let a <- cellOf env name;pure (ForInStep.yield ((name,a)::r)) else pure (ForInStep.yield r):DE _))=pure cl:=q1
 simp only[this,pure_bind,bind_pure]
 first | rfl | (rw[this];rfl) | skip
theorem W7{env:jM}:∀{names:List (bA×JJ)} {x:bA} {k':JJ},
  (names.map λ(n,k)=>if(k==NameKind.free&&env.scope.kind==.function&&env.kindOf n==some .cell) then(n,NameKind.cell) else(n,k)).lookup x=some k'->∃k,names.lookup x=some k/\(k'=k\/(k=.free/\k'=.cell))
 |[],x,k',h=>by simp at h
 | (n,k)::r,x,k',h=>by
  have ih:=@W7 env r x k';have h':SK x ((if(k==NameKind.free&&env.scope.kind==.function&&env.kindOf n==some .cell)=true then(n,NameKind.cell) else(n,k))::(r.map λ(n,k)=>if(k==NameKind.free&&env.scope.kind==.function&&env.kindOf n==some .cell) then(n,NameKind.cell) else(n,k)))=some k':=h;by_cases hc:(k==NameKind.free&&env.scope.kind==.function&&env.kindOf n==some .cell)=true
  ·rw[KA hc] at h';rw[pI] at h' ⊢
   cases hx:x==n with
   |true=>rw[hx] at h';cases h';simp only[nB,beq_iff_eq] at hc;exact⟨k,rfl,.inr ⟨hc.1.1,rfl⟩⟩
   |false=>rw[hx] at h';exact ih h'
  ·rw[if_neg hc] at h';rw[pI] at h' ⊢
   cases hx:x==n with
   |true=>rw[hx] at h';cases h';exact⟨k,rfl,.inl rfl⟩
   |false=>rw[hx] at h';exact ih h'
theorem Pk{env:jM}:∀{names:List (bA×JJ)} {x:bA},names.lookup x=some .free ->
  (names.map λ(n,k)=>if(k==NameKind.free&&env.scope.kind==.function&&env.kindOf n==some .cell) then(n,NameKind.cell) else(n,k)).lookup x=some .cell \/
  (names.map λ(n,k)=>if(k==NameKind.free&&env.scope.kind==.function&&env.kindOf n==some .cell) then(n,NameKind.cell) else(n,k)).lookup x=some .free
 |[],x,h=>by simp at h
 | (n,k)::r,x,h=>by
  have ih:=@Pk env r x;show SK x ((if(k==NameKind.free&&env.scope.kind==.function&&env.kindOf n==some .cell)=true then(n,NameKind.cell) else(n,k))::_)=_\/SK x ((if(k==NameKind.free&&env.scope.kind==.function&&env.kindOf n==some .cell)=true then(n,NameKind.cell) else(n,k))::_)=_;rw[pI] at h;by_cases hc:(k==NameKind.free&&env.scope.kind==.function&&env.kindOf n==some .cell)=true
  ·rw[KA hc,pI]
   cases hx:x==n with
   |true=>exact .inl rfl
   |false=>rw[hx] at h;exact ih h
  ·rw[if_neg hc,pI]
   cases hx:x==n with
   |true=>rw[hx] at h;exact .inr h
   |false=>rw[hx] at h;exact ih h
theorem Bx(I:Nat->zA->Prop)
  (turn:∀n s,I n s->rA (model prog w) A (pyNext it) (λr s₁=>match r with
   |none=>R (.ok .next) s₁
   |some v=>rA (model prog w) A (letOwnedTupleGo target it v) (λ_ s₁=>rA (model prog w) A (assign target env v) (λ_ s₂ =>
     rA (model prog w) A (forIn BA true λc r=>if r=true then do let ok <- isTrue c env (eval c env);pure (ForInStep.yield ok) else pure (ForInStep.yield r)) (λok s₃ =>
      if ok=true then rA (model prog w) A (eval QA env) (λx s₄ =>
       rA (model prog w) A (call (.builtin "list.append") [vA,x]) (λ_ s₅=>∃m,m<n/\I m s₅) (notedBy (model prog w) A env λe s'=>R (.error e) s') s₄) (notedBy (model prog w) A env λe s'=>R (.error e) s') s₃
      else ∃m,m<n/\I m s₃) (notedBy (model prog w) A env λe s'=>R (.error e) s') s₂) (notedBy (model prog w) A env λe s'=>R (.error e) s') s₁) (notedBy (model prog w) A env λe s'=>R (.error e) s') s₁) (notedBy (model prog w) A env λe s'=>R (.error e) s') s)
  (n:Nat) (h:I n s):mM (model prog w) A (.compLoop (.ListComp QA [⟨target,iter,BA,0⟩] scope pos) 0 it vA env) R s:=by
 refine codeAny_loop rfl I (λn s hI=>?_) n h;show rA _ A ((compTurn (.ListComp QA [⟨target,iter,BA,0⟩] scope pos) 0 it vA env).onRaise (λx=>do noteFrame x env;theTreesLotGoes x)) _ _ s;refine wpAny_noted ?_;rw[compTurn_list];refine gA (xY (gA (IJ (turn n s hI) (λr s₁ h₁=>?_) λ_ _ h'=>h')))
 cases r with
 |none=>exact EA h₁
 |some v =>
  refine gA (IJ h₁ (λ_ s₁' h₁'=>?_) λ_ _ h'=>h');refine gA (IJ h₁' (λ_ s₂ h₂=>gA (IJ h₂ (λok s₃ h₃=>?_) λ_ _ h'=>h')) λ_ _ h'=>h')
  cases ok with
  |false=>exact EA ⟨rfl,h₃⟩
  |true =>
   exact gA (gA (IJ h₃ (λx s₄ h₄=>gA (IJ h₄ (λ_ s₅ h₅=>EA (EA ⟨rfl,h₅⟩)) λ_ _ h'=>h')) λ_ _ h'=>h'))
def VU(X:Cx)(scope:tG)(cl:List (bA×kA))(C:kA)(N':List bA)(s₃:zA)(H₃:Hp)(fp:List kA)(xe:dA->zA->Prop):Cx :=
 { X with N:=N',s₀:=s₃,H₀:=H₃,env:=compEnvC scope cl C X.env,outer:=X.stack,stack:=X.stack,ex:=fp,fn:=λ_=>false,pn:=[],xe:=xe }
def TF(X:Cx)(scope:tG)(N':List bA)(X':Cx):Prop:=∃cl C s₃ H₃ fp xe,X'=VU X scope cl C N' s₃ H₃ fp xe
section
variable{s:zA}
def wWa{i:Nat}(h:(aAj N vs)[i]?=some (some v)):vs[i]?=some v:=by
 unfold aAj at h;by_cases hl:i<vs.length
 ·rw[TQ (by rw[nA];exact hl),iD,FC hl] at h;rw[FC hl];simpa using h
 ·rw[kP (by rw[nA];lia),E9] at h;split at h
  ·cases h
  ·cases h
def fA.block(I:fA X aA Y H s)
  (rJ:scope.kind=.function) (mJ:∀y∈scope.names,y.2≠.cell) (sub:∀x c,cl.lookup x=some c->X.env.cells.lookup x=some c) (NV:∀p∈scope.names,p.2=.free->∃c,cl.lookup p.1=some c)
  (oJ:∀p∈scope.names,p.2=.free->X.env.kindOf p.1=some .cell\/X.env.kindOf p.1=some .free)
  (hf:∀b∈fp,KH X aA H b) (hfo:∀b∈fp,b<s.heap.objs.size) (jg:vs.length<=N'.length)
  (himp:∀(i:Nat) x v,N'[i]?=some x->vs[i]?=some v->∃j:Nat,X.N[j]?=some x/\Y[j]?=some (some v)/\scope.names.lookup x=some .free)
  (m:bA->Option dA) (GI:h₄.Ns s.heap.objs.size m) (hsb:SF s.heap.objs.size (s.heap.push ob) h₄) :
  fA (VU X scope cl s.heap.objs.size N' s H fp xe) [] (aAj N' vs) H { s with heap:=h₄,toks:=tk }:=by
 have old:∀b o,s.heap.get? b=some o->h₄.get? b=some o:=λb o e=>(hsb.2 b (MD (mC e))).trans (oC _ e)
 have freeOf:∀x,(relabel scope X.env).names.lookup x=some .cell\/(relabel scope X.env).names.lookup x=some .free->scope.names.lookup x=some .free:=λx hx=>by
  rcases hx with hx | hx
  ·obtain⟨k,h1,h2⟩:=W7 (env:=X.env) hx;rcases h2 with h2 | ⟨h2,_⟩
   ·subst h2;exact absurd rfl (mJ _ (aAo h1))
   ·subst h2;exact h1
  ·obtain⟨k,h1,h2⟩:=W7 (env:=X.env) hx;rcases h2 with h2 | ⟨_,h2⟩
   ·subst h2;exact h1
   ·cases h2
 have ok:(VU X scope cl s.heap.objs.size N' s H fp xe).Ok:=by
  refine⟨I.ok.mod,rJ,I.ok.glob,I.ok.blt,jB _,λx y c h1 h2=>I.ok.inj x y c (sub x c h1) (sub y c h2),λx hx=>?_,λx c h=>(nomatch h),I.ok.hd,I.ok.frames,.inl rfl,λb hb=>⟨MD (hfo b hb),λx c e=>(hf b hb).2.2.2.2.1 x c (sub x c e)⟩,λb o e=>I.bs b o e,EC I.ok.wM I.sz,λb o e hb=>?_,λb hb z=>?_,I.stack,I.dm⟩
  ·exact NV (x,.free) (aAo (freeOf x hx)) rfl
  ·rcases(hf b hb).2.2.2.1 with z | z
   ·exact I.ok.mT b o e z
   ·rw[(I.ok.bs b o e).1] at z;cases z
  ·rcases DC.mp (I.pX b z) with z | z
   ·exact(hf b hb).2.1 z
   ·exact(hf b hb).2.2.1 z
 refine⟨ok,rfl,I.bare,Un.kept old,⟨m,GI,λi x v e1 e2 e3=>?_⟩,λx c e=>?_,I.RA.fresh (jB _),λx c e=>I.fK x c (sub x c e),λp hp=>(nomatch hp),I.RA.kept old, ?_⟩
 ·obtain⟨j,h1,h2,h3⟩:=himp i x v e1 (wWa e2);have hk:=oJ (x,.free) (aAo h3) rfl;obtain⟨m0,eW,hl⟩:=I.loc;obtain⟨u,r,lk⟩:=hl j x v h1 h2 (.inr hk);refine⟨u,r, ?_⟩;rcases lk with ⟨k,_⟩ | ⟨k,c,e,z⟩
  ·rcases hk with hk | hk
   ·rw[hk] at k;cases k
   ·rw[hk] at k;cases k
  ·obtain⟨c',UH⟩:=NV (x,.free) (aAo h3) rfl;have ec:=sub x c' UH;rw[e] at ec;cases ec;obtain⟨o,ho,hd⟩:=z;exact .inr ⟨Pk (env:=X.env) h3,c,UH,o,old c o ho,hd⟩
 ·obtain⟨v,o,ho,hd⟩:=I.cell x c (sub x c e);exact⟨v,o,old c o ho,hd⟩
 ·show(aAj N' vs).length=N'.length;unfold aAj;simp
  lia
def UJ(X:Cx)(BA:List DA)(t:TT):Prop:=∀(aA:List (kA×IB)) (s:zA) (Y:St) (H:Hp) (Q:Bool->Hp->Prop),fA X aA Y H s->t Y H Q ->
 rA (model X.prog X.w) X.A (forIn BA true λc r=>if r=true then do let ok <- isTrue c X.env (eval c X.env);pure (ForInStep.yield ok) else pure (ForInStep.yield r)) (TP X aA Y Q) X.xe s
def dSa:UJ X [] (λY H Q=>Q true H):=λaA s Y H Q I h=>wpAny_tests_nil ⟨H,I,h⟩
def eSa(h:PT X c t):UJ X [c] t:=λaA s Y H Q I q=>wpAny_tests_one (h aA s Y H Q I q)
def S8(N:List bA)(scope:tG)(N':List bA)(g:TG)(tt:TT)(te:TE)(Y:St)(Q:VK)(J:It)(H1:Hp):Prop:=∃vs:List V,vs.length<=N'.length /\
 (∀(i:Nat) x v,N'[i]?=some x->vs[i]?=some v->∃j:Nat,N[j]?=some x/\Y[j]?=some (some v)/\scope.names.lookup x=some .free) /\
 ∀D,H1 D=none->∃(n:Nat) (LP:Nat->St->Hp->Prop),LP 0 (aAj N' vs) (CA H1 D (.l []))/\∀i Y' H',LP i Y' H' ->
  (J.stop i H'/\Q (.ref D) H')\/(i<n/\J.go i H'/\∀x H2,J.FX i H' x H2->g x Y' H2 λY2 H3=>tt Y2 H3 λb H4 =>
   if b=true then te Y2 H4 λy H5=>∃ys,H5 D=some (.l ys)/\ys.length<sizeLine/\LP (i+1) Y2 (CA H5 D (.l (ys++[y]))) else LP (i+1) Y2 H4)
def JQ(N:List bA)(scope:tG)(N':List bA)(wi:TI)(g:TG)(tt:TT)(te:TE):TE:=λY H Q=>wi Y H (S8 N scope N' g tt te Y Q)
def zd(hc:X.calm=true)(hi:PI X tg iter wi)(hs:∀x,PJ iter X.env x=pure x)
  (rJ:scope.kind=.function) (mJ:∀y∈scope.names,y.2≠.cell) (rS:∀x∈scope.names,x.2=.local->scope.names.lookup x.1=some .local)
  (oJ:∀p∈scope.names,p.2=.free->X.env.kindOf p.1=some .cell\/X.env.kindOf p.1=some .free)
  (hg:∀X',TF X scope N' X'->PG X' tg g) (ht:∀X',TF X scope N' X'->UJ X' BA tt) (he:∀X',TF X scope N' X'->PE X' QA te) (I:fA X aA Y H s) (h:JQ X.N scope N' wi g tt te Y H Q)
  (fin:∀(D C:kA) (H':Hp) (s':zA),fA X aA Y H' s'->Q (.ref D) H'->H' C=none->X.s₀.heap.objs.size<=C->C≠X.env.locals->(∀x c,X.env.cells.lookup x=some c->c≠C)->(∀p∈X.pn++aA,p.1≠C)->(∃m,s'.heap.Ns C m) ->
   compPost (model X.prog X.w) X.A X.xe use QF (.ref D) C (.ok .next) s') :
  rA (model X.prog X.w) X.A (comprehension (.ListComp QA [⟨tg,iter,BA,0⟩] scope pos) scope X.env ps (newList []) false (eval iter X.env) use) QF X.xe s:=by
 obtain⟨cl,cAa,sub,NV⟩:=ux (env:=X.env) λp hp hf=>I.ok.has p.1 (oJ p hp hf)
 refine wpAny_comprehension_free rfl hs cAa rJ rS (UA (hi aA s Y H _ I h) λv s1 h1=>UA h1 λx6 s2 h2=>?_);obtain⟨it,fp,tn,J,H2,e,I2,T,JT,f2,vs,jg,himp,hD⟩:=h2;subst e
 have Je:∀b∈fp,b<s2.heap.objs.size:=λb hb=>by(obtain⟨o,e,_⟩:=T.obj _ _ JT b hb;exact mC e)
 refine ZI (wpAny_newFunctionEnv mJ (by intro y hy;simp at hy) (λh₁ hns₁ hsb₁=>?_) rJ);dsimp only at hns₁ hsb₁ ⊢;have I3:fA X aA Y (CA H2 s2.heap.objs.size (.l [])) { s2 with heap:=s2.heap.push { cls:=.type "list",dict:=none,data:=.seq ([]:List dA).toArray } }:=I2.W6 (cA:=[]) (t':=s2.toks) .nil (mI _);obtain⟨n,LP,l0,turn⟩:=hD s2.heap.objs.size I2.fresh;generalize ag:({ s2 with heap:=s2.heap.push { cls:=.type "list",dict:=none,data:=.seq ([]:List dA).toArray } }:zA)=s3 at I3;have Y4:s3.heap=s2.heap.push { cls:=.type "list",dict:=none,data:=.seq ([]:List dA).toArray }:=by rw[<- ag]
 rw[<- Y4] at hns₁ hsb₁ ⊢;have f3:∀b∈fp,KH X aA (CA H2 s2.heap.objs.size (.l [])) b:=λb hb=>⟨by rw[yB (MD (Je b hb))];exact(f2 b hb).1,(f2 b hb).2⟩
 have Ke:∀b∈fp,b<s3.heap.objs.size:=λb hb=>by rw[Y4,rY];exact eY (Je b hb)
 let R:Result->zA->Prop:=compPost (model X.prog X.w) X.A X.xe use QF (.ref s2.heap.objs.size) s3.heap.objs.size
 let X':Cx:=VU X scope cl s3.heap.objs.size N' s3 (CA H2 s2.heap.objs.size (.l [])) fp (notedBy (model X.prog X.w) X.A (compEnvC scope cl s3.heap.objs.size X.env) λe s'=>R (.error e) s')
 have O4:TF X scope N' X':=⟨_,_,_,_,_,_,rfl⟩
 have I4:∀tk,fA X' [] (aAj N' vs) (CA H2 s2.heap.objs.size (.l [])) { s3 with heap:=h₁,toks:=tk }:=λtk=>I3.block rJ mJ sub NV oJ f3 Ke jg himp _ hns₁ hsb₁
 have old:∀b o,s3.heap.get? b=some o->h₁.get? b=some o:=λb o e=>(hsb₁.2 b (MD (mC e))).trans (oC _ e)
 have Ol:tn 0 h₁:=T.keep _ _ _ JT λb hb o e=>old b o (by rw[Y4];exact oC _ e)
 have JO:∀{H':Hp},(∀b∈fp,H' b=none)->∀b∈fp,KH X' [] H' b:=λhn b hb=>⟨hn b hb,MD (Ke b hb),λz=>by
  rcases DC.mp (I3.pX b z) with z | z
  ·exact(f2 b hb).2.1 z
  ·exact(f2 b hb).2.2.1 z,.inl hb,λx c e=>(f2 b hb).2.2.2.2.1 x c (sub x c e),λp hp=>(nomatch hp)⟩
 have loop:∀tk,mM (model X.prog X.w) X.A (.compLoop (.ListComp QA [⟨tg,iter,BA,0⟩] scope pos) 0 (.ref it) (.ref s2.heap.objs.size) (compEnvC scope cl s3.heap.objs.size X.env)) R { s3 with heap:=h₁,toks:=tk }:=by
  intro tk;refine Bx (λm s'=>∃i Y' H',m=n-i/\fA X' [] Y' H' s'/\tn i s'.heap/\(∀b∈fp,H' b=none)/\LP i Y' H') ?_ n ⟨0,_,_,by simp,I4 tk,Ol,λb hb=>(f3 b hb).1,l0⟩
  rintro m s5 ⟨i,Y5,H5,rfl,I5,FQ,FV,w5⟩
  rcases turn i Y5 H5 w5 with ⟨stop,qn⟩ | ⟨VH,go,step⟩
  ·refine UA (T.done X' rfl rfl rfl hc i [] s5 Y5 H5 _ I5 (JO FV) FQ stop) λr s6 hz=>?_
   obtain⟨hr,I6⟩:=hz;subst hr;obtain⟨m6,hn6,_⟩:=I6.loc;have IX:fA X aA Y H5 s6:=I3.Vw (s':=s6) (ch:=fp) I6.os I6.base I6.RA I6.bare λb hb=>⟨(f2 b hb).2.2.2.1,(f2 b hb).2.1,(f2 b hb).2.2.2.2.1,(f2 b hb).2.2.2.2.2⟩
   refine fin _ _ H5 s6 IX qn I6.free I3.sz (λz=>HJ _ (WE I3.lt (RK z))) (λx c e z=>?_) (λp hp z=>?_) ⟨m6,hn6⟩
   ·obtain⟨v,o,ho,hd⟩:=I3.cell x c e;rw[z] at ho;exact HJ _ (mC ho)
   ·have:=(I3.pin p hp).1
    rw[z] at this;exact HJ _ (mC this)
  ·refine UA (T.item X' rfl rfl rfl hc i [] s5 Y5 H5 _ I5 (JO FV) FQ go) λr s6 hz=>?_
   obtain⟨u,hr,h6⟩:=hz;subst hr;refine UA h6 λ_ s7 hz=>?_
   obtain⟨x,H7,I7,r7,y7,D8,v_⟩:=hz;have Js:=I7.pinned (JO v_) (T.obj _ _ D8)
   have again:∀{Y8:St} {H8:Hp} {s8:zA},fA X' ([]++sT fp s7.heap) Y8 H8 s8->LP (i+1) Y8 H8->∃m,m<n-i/\∃i Y' H',m=n-i/\fA X' [] Y' H' s8/\tn i s8.heap/\(∀b∈fp,H' b=none)/\LP i Y' H':=λ{Y8 H8 s8} I8 w8=>by(refine⟨n-(i+1),by lia,i+1,Y8,H8,rfl,I8.AX,T.keep _ _ _ D8 λb hb o e=>(I8.pin (b,o) (FH _ (FH _ (EW hb e)))).1,λb hb=>?_,w8⟩;obtain⟨o,e,d⟩:=T.obj _ _ D8 b hb;exact(I8.pin (b,o) (FH _ (FH _ (EW hb e)))).2.1)
   refine UA (hg X' O4 _ s7 Y5 H7 x u _ Js r7 (step x H7 y7)) λ_ s8 hz=>?_
   obtain⟨Y8,H8,I8,q8⟩:=hz;refine UA (ht X' O4 _ s8 Y8 H8 _ I8 q8) λb s9 hz=>?_
   obtain⟨H9,I9,q9⟩:=hz
   cases b with
   |false=>exact again I9 q9
   |true =>
    refine UA (he X' O4 _ s9 Y8 H9 _ I9 q9) λy s10 hz=>?_
    obtain⟨yv,Es,Fs,r10,ys,hy,hz,q10⟩:=hz;refine UA (Ni (X:=X') _ s10 Y8 Es (.ref s2.heap.objs.size) [yv] (.ref s2.heap.objs.size) [y] (λ_ H'=>LP (i+1) Y8 H') Fs rfl (.cons r10 .nil) ⟨_,ys,yv,rfl,rfl,hy,hz,q10⟩) λ_ s11 hz=>?_
    obtain⟨_,H11,Gs,_,q11⟩:=hz;exact again Gs q11
 subst ag;exact codeAny_compStart_list (loop _) (T.self _ 0 _ _ _ Ol (loop _))
def dPa(hc:X.calm=true)(hi:PI X tg iter wi)(hs:∀x,PJ iter X.env x=pure x)
  (rJ:scope.kind=.function) (mJ:∀y∈scope.names,y.2≠.cell) (rS:∀x∈scope.names,x.2=.local->scope.names.lookup x.1=some .local)
  (oJ:∀p∈scope.names,p.2=.free->X.env.kindOf p.1=some .cell\/X.env.kindOf p.1=some .free)
  (hg:∀X',TF X scope N' X'->PG X' tg g) (ht:∀X',TF X scope N' X'->UJ X' BA tt) (he:∀X',TF X scope N' X'->PE X' QA te) :
  PE X (.ListComp QA [⟨tg,iter,BA,0⟩] scope pos) (JQ X.N scope N' wi g tt te):=by
 intro aA s Y H Q I h;rw[eval_ListComp];refine zd (use:=none) (QF:=EP X aA Y Q) hc hi hs rJ mJ rS oJ hg ht he I h λD C H' s' I' q hC hz hL JE hp hm=>?_
 obtain⟨m,hm⟩:=hm;refine⟨m,hm,λh' sb=>⟨.ref D,H',I'.turned (t':=s'.toks) (λb o hb e=>(sb.2 b hb).trans e) hC hL (.inr (SX hz)) JE hp,rfl,q⟩⟩
def hRa(hsw:swapsWith (.ListComp QA [⟨tg,iter,BA,0⟩] scope pos) (some (.Name y py)) A8.line X.env=pure true)
  (hN:X.N.Nodup) (hy:X.N[i]?=some y) (hx:Loc X.env.scope y) (hf:X.fn y=true\/X.env.scope.names.lookup y=some .local) (hc:X.calm=true) (hi:PI X tg iter wi) (hs:∀x,PJ iter X.env x=pure x)
  (rJ:scope.kind=.function) (mJ:∀y∈scope.names,y.2≠.cell) (rS:∀x∈scope.names,x.2=.local->scope.names.lookup x.1=some .local)
  (oJ:∀p∈scope.names,p.2=.free->X.env.kindOf p.1=some .cell\/X.env.kindOf p.1=some .free)
  (hg:∀X',TF X scope N' X'->PG X' tg g) (ht:∀X',TF X scope N' X'->UJ X' BA tt) (he:∀X',TF X scope N' X'->PE X' QA te) :
  PS X (.Assign [.Name y py] (.ListComp QA [⟨tg,iter,BA,0⟩] scope pos) A8) (O8 (JQ X.N scope N' wi g tt te) (ZP i)):=by
 intro aA s Y H D0 I h;rw[exec_Assign_Name_used _ _ _ _ hsw];refine gA (xY (gA ?_));show rA _ X.A (do let _ <- comprehension (.ListComp QA [⟨tg,iter,BA,0⟩] scope pos) scope X.env _ (newList []) false (eval iter X.env) (some (assign (.Name y py) X.env))) _ _ s;refine gA (IJ (zd (use:=some (assign (.Name y py) X.env)) (QF:=λ_ s'=>SP X aA D0 .next s') hc hi hs rJ mJ rS oJ hg ht he I h λD C H' s' I' q hC hz hL JE hp hm=>?_) (λ_ s' hq=>EA (EA hq)) λ_ _ e=>e);obtain⟨m,hm⟩:=hm;refine Rq (gm I' hN hy hx (v:=.ref D) rfl (λs2 I2 hz=>?_) hf);obtain⟨a,sb,ha⟩:=hz
 have kH:a≠C:=by
  rcases ha with rfl | ha
  ·exact gF hL
  ·exact JE _ _ ha
 refine⟨m,hm.sameBut sb (gF kH),λh' gN=>⟨_,H',I2.turned (t':=s2.toks) (λb o hb e=>(gN.2 b hb).trans e) hC hL (.inr (SX hz)) JE hp,q⟩⟩
end
end L2
namespace CI
open PySem PySem.Spec PyProof.Rows L2
section
variable{X:Cx}{K:iA}{P:oB}{C:Calls}{Z:CC}
theorem cB.inner(xo:cB X K P C Z)(hk:X.env.scope.kind=.function)(nd:(aAu scope++aAq scope).Nodup)(b:TF X scope (Z.inner scope).N X'):cB X' K P C (Z.inner scope):=by
 obtain⟨cl,C0,s₃,H₃,fp,xe,rfl⟩:=b;refine cB.of xo.bD rfl ?_ nd xo.calm xo.hh xo.hu xo.c xo.blt (λx f h=>?_) (λx ns h=>?_) (λm tb c f h1 h2=>?_) xo.rm xo.sub xo.AJ xo.fJ ⟨xo.exc,λx h=>?_⟩ xo.NA ⟨λx f h=>?_,λx f h=>?_,λm tb c f h1 h2=>?_⟩ xo.tp
 ·show(relabel scope X.env).names=(Z.inner scope).names;unfold relabel CC.inner;simp only;congr 1
  funext p
  obtain⟨n,k⟩:=p;have e:X.env.kindOf n=Z.names.lookup n:=by unfold qr;rw[xo.nm]
  simp only[hk,e];simp
 ·obtain⟨fa,fd,ps,k,h1,h2,h3,h4,h5⟩:=(xo.fn x f h).ex;exact⟨⟨fa,fd,ps,k,h1,h2,h3,h4,h5⟩⟩
 ·obtain⟨Ca,fa,fd,ps,h1,h2,h3,h4,h5,h6⟩:=(xo.cls x ns h).ex;exact⟨⟨Ca,fa,fd,ps,h1,h2,h3,h4,h5,h6⟩⟩
 ·obtain⟨Ca,fa,fd,ps,k,z1,z2,z3,z4,z5,z6⟩:=(xo.yE m tb c f h1 h2).ex;exact⟨⟨Ca,fa,fd,ps,k,z1,z2,z3,z4,z5,z6⟩⟩
 ·exact⟨trivial⟩
 ·exact⟨trivial⟩
 ·exact⟨trivial⟩
 ·exact⟨trivial⟩
def NL(K:iA)(P:oB)(C:Calls)(cs:List E):TT:=λY H Q=>∃(U:Env) (G:Hp) (b:Bool) (U':Env),IA K U Y H G/\gC P C cs U=some (.ok (.sh (.bl b)),U') /\
 ∀H' G',GA K U Y H G U' H' G'->Q b H'
def jk:UJ X [] (NL K P C []):=λaA s Y H Q I hz=>by
 obtain⟨U,G,b,U',r,e,k⟩:=hz;rw[gC] at e;cases e;exact dSa aA s Y H Q I (k H G (GA.refl r))
def qk(h:JA X K P C c cc):UJ X [c] (NL K P C [cc]):=λaA s Y H Q I hz=>by
 obtain⟨U,G,b,U',r,e,k⟩:=hz;refine eSa h.t aA s Y H Q I ?_;rw[gC] at e;obtain⟨v,U1,e1,e2⟩:=CB e;split at e2
 ·rw[gC] at e2;cases e2;exact⟨U,G,true,_,r,e1,k⟩
 ·cases e2;exact⟨U,G,false,_,r,e1,k⟩
 ·cases e2
theorem eC.zQ(b:eC K U Y H G U' Y' H' G')(h:H a=none)(g:G' a=none)(n:¬AA U' Y' a):eC K U Y H G U' Y' (CA H' a o) G':=by
 refine⟨b.wA.zQ g n,⟨b.ext.gg,λc u e nc=>?_,λc e=>?_,b.ext.gn⟩,b.own,b.un,b.pin,b.len⟩
 ·have:c≠a:=λz=>by subst z;rw[h] at e;cases e
  rw[yB this];exact b.ext.hh c u e nc
 ·by_cases hc:c=a
  ·subst hc;rw[VC] at e;cases e
  ·rw[yB hc] at e;exact b.ext.hx c e
theorem XZ{bind:D->Env->Option Env}:∀{ds vA nF:List D} {U U':Env},jE tests QA bind ds vA U=some (.ok nF,U')->vA.length<=nF.length
 |[],vA,nF,U,U',e=>by simp only[jE,lC,nE,Out.ok.injEq] at e;rw[e.1];exact jB _
 |d::ds,vA,nF,U,U',e=>by
  simp only[jE] at e;split at e
  ·cases e
  ·obtain⟨c,U2,e1,e2⟩:=CB e;split at e2
   ·obtain⟨v,U3,e3,e4⟩:=CB e2
    have:=XZ e4
    simp at this
    lia
   ·exact XZ e2
   ·cases e2
theorem Hl:∀(imp:List Nat) (U:Env) (as:List Sl) (U1:Env),IA K U Y H G->aAh (imp.map λ_=>true) (imp.map Hd.slot) U=some (as,U1) ->
  ∃xs,oE K H G own new Y (imp.map Hd.slot) xs/\xs.length=imp.length/\(∀a,¬BG (imp.map Hd.slot) xs a)/\∀(j:Nat) v,xs[j]?=some v->∃i:Nat,imp[j]?=some i/\Y[i]?=some (some v)
 |[],U,as,U1,r,e=>⟨[],rfl,rfl,λa z=>z,λj v h=>by simp at h⟩
 |i::imp,U,as,U1,r,e=>by
  have go:∀(U2:Env) (pZ:List Sl) (U3:Env),IA K U2 Y H G->aAh (imp.map λ_=>true) (imp.map Hd.slot) U2=some (pZ,U3)->(∃v,Y[i]?=some (some v)) ->
    ∃xs,oE K H G own new Y ((i::imp).map Hd.slot) xs/\xs.length=(i::imp).length/\(∀a,¬BG ((i::imp).map Hd.slot) xs a)/\∀(j:Nat) v,xs[j]?=some v->∃i':Nat,(i::imp)[j]?=some i'/\Y[i']?=some (some v):=by
   intro U2 pZ U3 r2 e2 ⟨v,hv⟩;obtain⟨xs,h1,h2,h3,h4⟩:=Hl imp U2 pZ U3 r2 e2;refine⟨v::xs,⟨v,xs,rfl,hv,h1,λd a z=>(nomatch z)⟩,by simp[h2],λa z=>h3 a z,λj w hw=>?_⟩
   cases j with
   |zero=>simp only[SG,lC] at hw;subst hw;exact⟨i,rfl,hv⟩
   |succ j=>exact h4 j w (by simpa using hw)
  rw[AB,AB,BW] at e;split at e
  ·rename_i d hi
   cases q:aAh (imp.map λ_=>true) (imp.map Hd.slot) U with
   |none=>rw[q] at e;cases e
   |some y=>exact go U y.1 y.2 r q (r.bound (by rw[hi];rfl))
  ·rename_i d p l hi
   cases q:aAh (imp.map λ_=>true) (imp.map Hd.slot) (U.set i .un) with
   |none=>rw[q] at e;cases e
   |some y=>exact go _ y.1 y.2 (r.unset i) q (r.bound (by rw[hi];rfl))
  ·cases e
def fSa(ho:∀i,o=some i->∃d p l,U1[i]?=some (.ow d p l))(e:aAm o U1 U2=some U')(h:vE (aAe o U1) U2):vE U1 U':=by
 cases o with
 |none=>simp only[aAm,lC] at e;subst e;exact h
 |some i =>
  obtain⟨d,p,l,hi⟩:=ho i rfl;simp only[aAm] at e;split at e
  ·rename_i sl hf hs;rw[hi] at hs;cases hs;cases e;intro j;by_cases hj:j=i
   ·subst hj;rw[hi,YK (bE.mp hf).1];exact EF.refl _
   ·have:=h j
    rw[jF (λz=>hj z.symm)]
    have e2:(aAe (some i) U1)[j]?=U1[j]?:=by(show(U1.set i .un)[j]?=_;rw[jF (λz=>hj z.symm)])
    rw[e2] at this;exact this
  ·cases e
theorem vg{Z:CC}:∀{xs:List bA} {imp:List Nat},Z.wK xs=some imp->imp.length=xs.length/\∀(j:Nat) x i,xs[j]?=some x->imp[j]?=some i->Z.N[i]?=some x
 |[],imp,h=>by simp only[CC.wK,lC] at h;subst h;exact⟨rfl,λj x i z=>by simp at z⟩
 |x::xs,imp,h=>by
  simp only[CC.wK] at h
  cases q:Z.N.idxOf? x with
  |none=>rw[q] at h;cases h
  |some i =>
   rw[q] at h;simp only[UG] at h
   cases q2:Z.wK xs with
   |none=>rw[q2] at h;cases h
   |some r =>
    rw[q2] at h;simp only[FE,lC] at h;subst h;obtain⟨h1,h2⟩:=vg q2;refine⟨by simp[h1],λj y k hy hk=>?_⟩
    cases j with
    |zero =>
     simp only[SG,lC] at hy hk;subst hy hk;exact mW q
    |succ j=>exact h2 j y k (by simpa using hy) (by simpa using hk)
structure tP(Z:CC)(scope:tG):Prop where
 kind:scope.kind=.function
 cell:∀y∈scope.names,y.2≠.cell
 names:∀x∈scope.names,x.2=.local->scope.names.lookup x.1=some .local
 free:∀x∈scope.names,x.2=.free->scope.names.lookup x.1=some .free
 out:∀p∈scope.names,p.2=.free->Z.names.lookup p.1=some .cell\/Z.names.lookup p.1=some .free
 nd:(aAu scope++aAq scope).Nodup
def qUa(h:Z.o8 scope=true):tP Z scope:=by
 unfold CC.o8 at h;simp only[nB,EE,decide_eq_true_eq,beq_iff_eq,bne_iff_ne,MK,ne_eq] at h;obtain⟨⟨⟨⟨h1,h2⟩,h3⟩,h4⟩,h5⟩:=h;refine⟨h1,h2,λx hx hl=>?_,λx hx hf=>?_,λx hx hf=>?_,h5⟩
 ·rcases h3 x hx with z | z
  ·exact absurd hl z
  ·exact z
 ·rcases h4 x hx with z | z
  ·exact absurd hf z
  ·exact z.1
 ·rcases h4 x hx with z | z
  ·exact absurd hf z
  ·exact z.2
def x_(sc:tP Z scope)(h:x∈aAu scope):scope.names.lookup x=some .free:=by
 unfold aAu at h;obtain⟨p,hp,rfl⟩:=JC.mp h;obtain⟨h1,h2⟩:=YO.mp hp;exact sc.free p h1 (XC h2)
def Sh(Y:St)(H:Hp)(R:It->Hp->Prop)(q:bJ K P C .key [c] Y H R):og (tH K P C c) Y H R:=by
 obtain⟨U,G,hs,U1,ds,o,r,e,ei,k⟩:=q;simp only[qD] at e;obtain⟨h,U2,e1,e2⟩:=CB e;simp only[FA.bind,lC,nE,Out.ok.injEq] at e2;obtain⟨rfl,rfl⟩:=e2;refine⟨U,G,h,_,r,e1,λv H1 G1 a1 hv=>?_⟩;obtain _ | w:=h
 ·cases ei
 ·change R6 w=_ at ei;unfold R6 at ei;split at ei
  ·cases ei;replace hv:oA K G1 _ v:=hv;simp only[oA] at hv;obtain⟨a,xs,vs,rfl,⟨ep,h1⟩,h2,h3⟩:=hv;exact⟨a,xs,ep,rfl,h2.2.2.1,a1.wA.sub _ _ h1,k H1 G1 a1 (λi z=>nomatch z) _ (hZa (by rw[h2.2.2.2.2.1]) h1 h2.2.2.2.1)⟩
  ·cases ei
structure Xr(K:iA)(P:oB)(C:Calls)(cond:List E)(QA:Env->FA RV)(is:List Nat)(U0:Env)(Y0:St)(H1 G2:Hp)(ds vA:List D)(Ui:Env)(D:kA)(i:Nat)(Y':St)(H':Hp):Prop where
 le:i<=ds.length
 ex:∃Uc Gc ac ys,eC K U0 Y0 H1 G2 Uc Y' H' Gc/\H' D=some (.l ys)/\Gc D=none/\¬AA Uc Y' D/\jA K Gc ac ys/\jE (gC P C cond) QA (bB (is.length==1) is) (ds.drop i) ac Uc=some (.ok vA,Ui)
def Dx(xo:cB X K P C Z){cA cond:List E}(YV:∀U v U',QA U=some (.ok v,U')->ev P C false ce U=some (.ok v,U'))(sc:tP Z scope)(himp:Z.wK (aAu scope)=some imp)
  (hw:∀Y H (R:It->Hp->Prop),oP K P C k0 cA Y H R->wi Y H R)
  {Y:St} {H:Hp} {Q:VK} (h:∃(U:Env) (G:Hp) (v:RV) (U':Env),IA K U Y H G/\qe P C QA is k0 cA cond imp (aAq scope).length U=some (.ok v,U')/\∀x H' G',GA K U Y H G U' H' G'->RC K H' G' (AA U' Y) (hE H) v x->Q x H'):JQ X.N scope (Z.inner scope).N wi (gB K (is.length==1) is) (NL K P C cond) (tE K P C ce) Y H Q:=by
 obtain⟨U,G,v,U',r,e,k⟩:=h;unfold qe at e;obtain⟨K5,U1,e1,e2⟩:=CB e
 have body:∀ds o,(IF (imp.map λ_=>true) (dJ (gC P C cond) QA (bB (is.length==1) is) ds (aAq scope).length) (imp.map Hd.slot) (aAe o U1)).bind (aAs o U1)=some (.ok v,U')->∀H1 G1,GA K U Y H G U1 H1 G1->(∀i,o=some i->∃d p l,U1[i]?=some (.ow d p l))->∀J,LN K (aAe o U1) Y H1 G1 ds J->S8 X.N scope (Z.inner scope).N (gB K (is.length==1) is) (NL K P C cond) (tE K P C ce) Y Q J H1:=by
  intro ds o e2 H1 G1 a1 ho;obtain⟨v',U2,e3,e4⟩:=CB e2;unfold aAs at e4
  cases q3:aAm o U1 U2 with
  |none=>rw[q3] at e4;cases e4
  |some U3 =>
   rw[q3] at e4;simp only[FE,lC,nE,Out.ok.injEq] at e4;obtain⟨rfl,rfl⟩:=e4;have R0:=(sX (o:=o) a1.wA).1
   have cW:∃as U4,aAh (imp.map λ_=>true) (imp.map Hd.slot) (aAe o U1)=some (as,U4):=by
    unfold IF at e3
    cases q4:aAh (imp.map λ_=>true) (imp.map Hd.slot) (aAe o U1) with
    |none=>rw[q4] at e3;cases e3
    |some y=>exact⟨y.1,y.2,rfl⟩
   obtain⟨OU,U4,cW⟩:=cW;obtain⟨xs,II,bI,kg,lg⟩:=Hl (own:=AA (aAe o U1) Y) (new:=hE H1) imp _ _ _ R0 cW;obtain⟨as,G2,uB,ra,lJ,ef,⟨LF,kc⟩,kk⟩:=A0 (GA.refl R0) II e3;unfold dJ at ef;split at ef
   ·rename_i hp;obtain⟨vA,Ui,e5,e6⟩:=CB ef;split at e6
    ·rename_i hz;simp only[lC,nE,Out.ok.injEq] at e6;obtain⟨rfl,rfl⟩:=e6;obtain⟨il,ig⟩:=vg himp
     have MV:(Z.inner scope).N.length=as.length+(aAq scope).length:=by(show(aAu scope++aAq scope).length=_;rw[kC,lJ,nA,il])
     obtain⟨rp,op⟩:=ra.pad MV;have vB:=DK hz
     -- UE d1a turns
     have turns:∀(J:It),Mb K (as++HB (aAq scope).length .un) (aAj (Z.inner scope).N xs) H1 G2 ds J->S8 X.N scope (Z.inner scope).N (gB K (is.length==1) is) (NL K P C cond) (tE K P C ce) Y Q J H1:=by
      intro J hJ;refine Exists.intro xs ⟨by rw[MV,bI,lJ,nA];lia,λi x v hN hv=>?_,λD hD=>?_⟩
      ·obtain⟨j,hj,hY⟩:=lg i v hv
       have dD:i<(aAu scope).length:=by(rw[<- il];exact(bE.mp hj).1)
       have Ef:(aAu scope)[i]?=some x:=by
        have:(aAu scope++aAq scope)[i]?=some x:=hN
        rwa[TQ dD] at this
       exact⟨j,by rw[xo.IL];exact ig i x j Ef hj,hY,x_ sc (VE Ef)⟩
      ·have fin:∀Y' H' Gc ys,eC K (as++HB (aAq scope).length .un) (aAj (Z.inner scope).N xs) H1 G2 Ui Y' H' Gc->H' D=some (.l ys)->Gc D=none->¬AA Ui Y' D->jA K Gc vA ys->Q (.ref D) H':=by
        intro Y' H' Gc ys a kJ dO gQ hr;obtain⟨b1,b2⟩:=zZ ra hp MV a;obtain⟨c1,c2⟩:=kk (.ref D) H' Gc b1 ⟨D,rfl,dO,⟨ys,kJ,hr⟩,λz=>gQ (b2 D z),hD⟩;obtain⟨d1,d2⟩:=zT a1.wA ho q3 (GA.s R0 c1);have a2:GA K U1 Y H1 G1 U3 H' Gc:=⟨d1.wA,d1.ext,fSa ho q3 c1.bK⟩
        obtain⟨D',e',g',o',n',f'⟩:=c2;cases e';refine k _ _ _ (a1.trans a2) ⟨D,rfl,g',o',λz=>?_,a1.fresh hD⟩;rcases d2 D z with z | ⟨z,_⟩
        ·exact n' z
        ·exact(a1.wA.owned z).1 hD
       clear kk k q3 R0 ho a1 hp MV ra lJ LF kc II bI kg lg cW e3 e1 r himp il ig op;refine⟨ds.length,Xr K P C cond QA is (as++HB (aAq scope).length .un) (aAj (Z.inner scope).N xs) H1 G2 ds vA Ui D, ?_, ?_⟩
       ·have g2:G2 D=none:=by
         cases z:G2 D with
         |none=>rfl
         |some u=>have:=rp.sub D u z;rw[hD] at this;cases this
        exact⟨mI _,_,G2,[],[],GA.s rp ((GA.refl rp).KI hD),VC,g2,rp.RW hD,jA.nil,e5⟩
       ·rintro i Y' H' ⟨hil,Uc,Gc,ac,ys,a,kJ,dO,gQ,hr,ec⟩
        obtain⟨j1,j2,j3⟩:=hJ i H' Uc Y' Gc a;by_cases dD:i<ds.length
        ·refine .inr ⟨dD,j2 dD,λx H2 hy=>?_⟩;have hd:ds[i]?=some ds[i]:=FC dD;obtain⟨Gd,MU,J5⟩:=j3 _ x H2 hd hy;have dO:=MU.ext.gn D (by rw[kJ];simp) dO gQ;have kJ:=MU.ext.hh D _ kJ gQ;have hr:=jA.mono MU.ext.gg _ hr;have a:=a.trans (GA.s a.wA MU);rw[UQ dD] at ec;simp only[jE] at ec;split at ec
         ·cases ec
         ·rename_i Ub hb;obtain⟨c,Ut,et,ec⟩:=CB ec;refine⟨Uc,Gd,ds[i],Ub,a.wA,J5,hb,λY1 ab=>?_⟩;have MN:=a.trans ab
          have nb:¬AA Ub Y1 D:=λz=>by
           rcases ab.own D z with z | z
           ·exact gQ z
           ·rw[kJ] at z;cases z
          split at ec
          ·obtain⟨w,Ue,ee,ec⟩:=CB ec;refine⟨Ub,Gd,true,Ut,ab.wA,et,λH3 G3 MH=>?_⟩;have h3:H3 D=some (.l ys):=MH.ext.hh D _ kJ nb;have g3:G3 D=none:=MH.ext.gn D (by rw[kJ];simp) dO nb;have n3:¬AA Ut Y1 D:=λz=>nb (MH.own D z)
           dsimp only;rw[KA rfl];refine⟨Ut,G3,w,Ue,MH.wA,YV _ _ _ ee,λy H4 G4 a4 ry=>?_⟩;obtain⟨G5,a5,ry5⟩:=a4.share ry;have h4:H4 D=some (.l ys):=a5.ext.hh D _ h3 n3;have g5:G5 D=none:=a5.ext.gn D (by rw[h3];simp) g3 n3;have n5:¬AA Ue Y1 D:=λz=>n3 (a5.own D z)
           have mB:=XZ ec;have hyl:=hr.len;rw[kC] at mB;simp only[YB,uG] at mB;have zu:=(MN.trans (GA.s ab.wA MH)).trans (GA.s MH.wA a5);refine⟨ys,h4,by lia,dD,Ue,G5,ac++[w.d],ys++[y],zu.zQ hD g5 n5,VC,g5,n5, ?_,ec⟩;exact(jA.mono a5.ext.gg _ (jA.mono MH.ext.gg _ hr)).app (jA.cons ry5 jA.nil)
          ·refine⟨Ub,Gd,false,Ut,ab.wA,et,λH3 G3 MH=>?_⟩;have h3:H3 D=some (.l ys):=MH.ext.hh D _ kJ nb;have g3:G3 D=none:=MH.ext.gn D (by rw[kJ];simp) dO nb;have n3:¬AA Ut Y1 D:=λz=>nb (MH.own D z)
           dsimp only;rw[if_neg (by decide)];exact⟨dD,Ut,G3,ac,ys,MN.trans (GA.s ab.wA MH),h3,g3,n3,jA.mono MH.ext.gg _ hr,ec⟩
          ·cases ec
        ·have Lf:i=ds.length:=by lia
         refine .inl ⟨j1 Lf, ?_⟩;subst Lf;rw[nr] at ec;simp only[jE,lC,nE,Out.ok.injEq] at ec;obtain⟨rfl,rfl⟩:=ec;exact fin _ _ _ _ a kJ dO gQ hr
     have mKa:∀c,AA as (xs.map some) c->AA (aAe o U1) Y c:=λc z=>by
      rcases kc c z with z | z
      ·exact z
      ·exact absurd z (kg c)
     exact λJ wj=>turns J (wj LF λc z=>mKa c (op c z))
    ·cases e6
   ·cases ef
 unfold JQ
 cases q:aAa k0 K5 U1 with
 |none =>
  rw[q] at e2;cases e2
 |some y =>
  obtain⟨ds,o⟩:=y;rw[q] at e2;exact hw Y H _ ⟨U,G,K5,U1,ds,o,r,e1,q,body ds o e2⟩
def Ad(xo:cB X K P C Z){cA cond:List E}(sc:tP Z scope)(himp:Z.wK (aAu scope)=some imp)
  (hw:∀Y H (R:It->Hp->Prop),oP K P C k0 cA Y H R->wi Y H R) (h:tE K P C (.comp ce is k0 cA cond imp (aAq scope).length) Y H Q):JQ X.N scope (Z.inner scope).N wi (gB K (is.length==1) is) (NL K P C cond) (tE K P C ce) Y H Q:=by
 obtain⟨U,G,v,U',r,e,k⟩:=h;exact Dx xo (QA:=ev P C false ce) (λ_ _ _ z=>z) sc himp hw ⟨U,G,v,U',r,e,λx H' G' a hv=>k x H' G' a hv⟩
def T8(K:iA)(P:oB)(C:Calls)(c:E):TE:=λY H Q=>False
def qP(X:Cx)(K:iA)(P:oB)(C:Calls)(e:DA)(c:E):Prop:=∀(x:bA) (i:Nat) (p pos:IC),X.N.Nodup->X.N[i]?=some x->Loc X.env.scope x->(X.fn x=true\/X.env.scope.names.lookup x=some .local) ->
 PS X (.Assign [.Name x p] e pos) (O8 (tE K P C c) (ZP i))
def yQ:qP X K P C e .OA:=λx i p pos _ _ _ _ aA s Y H D I h=>by
 obtain⟨U,G,v,U',r,e,k⟩:=h;cases e
def yLa(xo:cB X K P C Z){cA cond:List E}(sc:tP Z scope)(himp:Z.wK (aAu scope)=some imp)(htg:jI (Z.inner scope) tg=some (is.length==1,is))
  (hi:PI X tg iter wi) (hs:∀x,PJ iter X.env x=pure x)
  (hw:∀Y H (R:It->Hp->Prop),oP K P C k0 cA Y H R->wi Y H R)
  (he:∀X',cB X' K P C (Z.inner scope)->JA X' K P C QA ce) (ht:∀X',cB X' K P C (Z.inner scope)->UJ X' BA (NL K P C cond)) :
  JA X K P C (.ListComp QA [⟨tg,iter,BA,0⟩] scope pos) (.comp ce is k0 cA cond imp (aAq scope).length)/\qP X K P C (.ListComp QA [⟨tg,iter,BA,0⟩] scope pos) (.comp ce is k0 cA cond imp (aAq scope).length)/\PE X (.ListComp QA [⟨tg,iter,BA,0⟩] scope pos) (T8 K P C (.comp ce is k0 cA cond imp (aAq scope).length)):=by
 have all:X.env.scope.kind=.function->(∀X',TF X scope (Z.inner scope).N X'->PG X' tg (gB K (is.length==1) is))/\(∀X',TF X scope (Z.inner scope).N X'->UJ X' BA (NL K P C cond))/\∀X',TF X scope (Z.inner scope).N X'->PE X' QA (tE K P C ce):=by
  intro hk;have xi:∀X',TF X scope (Z.inner scope).N X'->cB X' K P C (Z.inner scope):=λX' b=>xo.inner hk sc.nd b
  have iC:∀X',TF X scope (Z.inner scope).N X'->∀x,(Z.inner scope).pO x=true->X'.fn x=true\/X'.env.scope.names.lookup x=some .local:=λX' b x hx=>by
   rw[(xi X' b).nm];unfold CC.pO at hx;rw[MK,nB] at hx;rcases hx with hx | hx
   ·exact .inr (XC hx)
   ·exact absurd hx.1 (by simp[CC.inner])
  exact⟨λX' b=>a9 (xi X' b) (iC X' b) htg,λX' b=>ht X' (xi X' b),λX' b=>(he X' (xi X' b)).v⟩
 have oJ:∀p∈scope.names,p.2=.free->X.env.kindOf p.1=some .cell\/X.env.kindOf p.1=some .free:=λp hp hf=>by unfold qr;rw[xo.nm];exact sc.out p hp hf
 have jf:PE X (.ListComp QA [⟨tg,iter,BA,0⟩] scope pos) (tE K P C (.comp ce is k0 cA cond imp (aAq scope).length)):=λaA s Y H Q I h=>by(obtain⟨h1,h2,h3⟩:=all I.ok.kind;exact dPa (N':=(Z.inner scope).N) xo.calm hi hs sc.kind sc.cell sc.names oJ h1 h2 h3 aA s Y H Q I (Ad xo sc himp hw h))
 refine⟨sE xo jf,λx i p A8 hN hx hl hf=>?_,λaA s Y H Q I h=>?_⟩
 case refine_2 =>
  obtain⟨h1,h2,h3⟩:=all I.ok.kind
  cases cond with
  |nil=>exact h.elim
  |cons _ _=>exact h.elim
 obtain⟨b,hb⟩:∃b:Bool,swapsWith (.ListComp QA [⟨tg,iter,BA,0⟩] scope pos) (some (.Name x p)) A8.line X.env=pure b:=⟨_,rfl⟩
 cases b with
 |false=>exact yT jf (Nj hN hx hl hf) hb
 |true =>
  intro aA s Y H D I h;obtain⟨h1,h2,h3⟩:=all I.ok.kind;exact hRa hb hN hx hl hf xo.calm hi hs sc.kind sc.cell sc.names oJ h1 h2 h3 aA s Y H D I (Ad xo sc himp hw h)
end
structure BU(X:Cx)(K:iA)(P:oB)(C:Calls)(e:DA)(cs:List E):Prop where
 h:∀(f:bA) (p:IC) (args:List DA) (kw:List _) (pos:IC),e=.Call (.Name f p) args kw pos->args.all aAd=true->PA X args (xH K P C cs)/\cs.length=args.length
theorem Rc:∀(es:List DA),(VB Z es).length=es.length
 |[]=>by rw[VB];rfl
 |e::es=>by rw[VB,YB,YB,Rc es]
section
variable{K:iA}
def Z8(h:jI Z tg=some (one,is))(n:one=false):∃elts k p,tg=.Tuple elts k p:=by
 induction tg using mF with
 |Name x pos =>
  obtain⟨i,_,h⟩:=AF.mp h;cases h;cases n
 |Tuple=>exact⟨_,_,_,rfl⟩
 |_=>exact ZM h
def sGa(xo:cB X K P C Z)(h:S6 Z e=some i):wQ e=true/\JA X K P C e (.uD i):=by
 unfold S6 at h;split at h
 ·split at h
  ·exact⟨rfl,A7 xo h _⟩
  ·cases h
 ·cases h
def aAO(xo:cB X K P C Z){EG cond:List E}(PV:JA X K P C iter ci)(OV:BU X K P C iter EG){Φ:E->Prop}(OA:Φ .OA)
  (good:∀{k0:XF} {cA:List E} {imp is:List Nat} {wi:TI},tP Z scope->Z.wK (aAu scope)=some imp->jI (Z.inner scope) tg=some (is.length==1,is)->PI X tg iter wi->(∀x,PJ iter X.env x=pure x) ->
   (∀Y H (R:It->Hp->Prop),oP K P C k0 cA Y H R->wi Y H R)->Φ (.comp ce is k0 cA cond imp (aAq scope).length)) :
  Φ (TN Z scope tg iter ci EG cond ce):=by
 unfold TN;split
 ·rename_i hsc;have sc:=qUa hsc;split
  ·rename_i imp one is k0 p6 q1 q2 q3;split
   ·rename_i hsg;exact(fD hsg).elim
   split
   ·rename_i i hk;split
    ·rename_i tK;have tK:=XC tK;subst tK;obtain⟨hn,h3⟩:=sGa xo hk;exact good sc q1 q2 (Pj h3.h) (DV hn _) (nb (λz=>nomatch z) λY H R q=>Sh Y H R q)
    ·exact OA
   split
   ·rename_i tK;rw[nB,nB] at tK;obtain⟨⟨tK,pK⟩,GI⟩:=tK;have tK:=XC tK;subst tK
    have gen:∀e:DA,iter=e->wQ e=true->some (XF.of,[e])=some (k0,p6)->Φ (.comp ce is k0 (Kg k0 ci EG) cond imp (aAq scope).length):=λe WV hn hq=>by(subst WV;cases hq;exact good sc q1 q2 (PI.or (O7 PV.h) (P7 PV.h)) (DV hn _) (λY H R q=>zKa xo.bD Y H R q))
    unfold BL at q3;split at q3
    ·rename_i x hx;obtain⟨⟨f,p⟩,args,pos'⟩:=x;obtain rfl:=k6 hx;dsimp only at q3;split at q3
     ·rename_i hf;have hf:=XC hf;subst hf;split at q3
      ·rename_i sL;split at q3
       ·rename_i hc;cases q3;rw[nB] at hc;obtain⟨h1,h2,h3,h4⟩:=CC.SH xo sL (λz=>nomatch z);have hm:=xo.blt _ h2;obtain⟨JM,JE⟩:=OV.h _ _ _ _ _ rfl hc.1;obtain _ | ⟨a,_ | ⟨b,_ | ⟨_,_⟩⟩⟩:=p6
        ·simp at hc
        ·obtain _ | ⟨c1,_ | ⟨_,_⟩⟩:=EG
         ·simp at JE
         ·have ns:=hc.1;rw[vC,nB] at ns;exact good sc q1 q2 (Qj h1 hm JM (by rw[QD ns.1];rfl)) (λ_=>rfl) (nb (λz=>nomatch z) λY H R q=>kl Y H R q)
         ·simp at JE
        ·obtain _ | ⟨c1,_ | ⟨c2,_ | ⟨_,_⟩⟩⟩:=EG
         ·simp at JE
         ·simp at JE
         ·have ns:=hc.1;rw[vC,nB,vC,nB] at ns;exact good sc q1 q2 (Rj h1 hm JM (by rw[QD ns.1,QD ns.2.1];rfl) (by rw[QD ns.2.1];rfl)) (λ_=>rfl) (nb (λz=>nomatch z) λY H R q=>ll Y H R q)
         ·simp at JE
        ·simp at hc
       ·cases q3
      ·cases q3
     ·split at q3
      ·rename_i hf;have hf:=XC hf;subst hf;split at q3
       ·rename_i sL;split at q3
        ·rename_i hc;cases q3;rw[nB] at hc;obtain⟨h1,h2,h3,h4⟩:=CC.SH xo sL (λz=>nomatch z);have hm:=xo.blt _ h2;obtain⟨JM,JE⟩:=OV.h _ _ _ _ _ rfl hc.1;obtain _ | ⟨a,_ | ⟨_,_⟩⟩:=p6
         ·simp at hc
         ·obtain _ | ⟨c1,_ | ⟨_,_⟩⟩:=EG
          ·simp at JE
          ·have ns:=hc.1;rw[vC,nB] at ns;obtain⟨elts,kk,tp,rfl⟩:=Z8 q2 (by simpa[PL] using pK);exact good sc q1 q2 (Oj h1 hm JM (by rw[QD ns.1];rfl)) (λ_=>rfl) (nb (λz=>nomatch z) λY H R q=>C1 xo.bD Y H R q)
          ·simp at JE
         ·simp at hc
        ·cases q3
       ·cases q3
      ·exact gen _ rfl rfl q3
    ·split at q3
     ·rename_i hx;split at q3
      ·split at q3
       ·cases q3;exact absurd GI (by decide)
       ·cases q3
      ·cases q3
     ·split at q3
      ·exact gen _ rfl ‹_› q3
      ·cases q3
   ·exact OA
  ·exact OA
 ·exact OA
def hV(xo:cB X K P C Z){EG cond:List E}(PV:JA X K P C iter ci)(OV:BU X K P C iter EG)
  (he:∀X',cB X' K P C (Z.inner scope)->JA X' K P C QA ce) (ht:∀X',cB X' K P C (Z.inner scope)->UJ X' BA (NL K P C cond)) :
  JA X K P C (.ListComp QA [⟨tg,iter,BA,0⟩] scope pos) (TN Z scope tg iter ci EG cond ce)/\qP X K P C (.ListComp QA [⟨tg,iter,BA,0⟩] scope pos) (TN Z scope tg iter ci EG cond ce)/\PE X (.ListComp QA [⟨tg,iter,BA,0⟩] scope pos) (T8 K P C (TN Z scope tg iter ci EG cond ce)) :=
 aAO xo PV OV (Φ:=λc=>JA X K P C (.ListComp QA [⟨tg,iter,BA,0⟩] scope pos) c/\qP X K P C (.ListComp QA [⟨tg,iter,BA,0⟩] scope pos) c/\PE X (.ListComp QA [⟨tg,iter,BA,0⟩] scope pos) (T8 K P C c)) ⟨xB,yQ,λaA s Y H Q I h=>h.elim⟩ λsc q1 q2 hi hs hw=>yLa xo sc q1 q2 hi hs hw he ht
end
def mJa(hs:f6 a=true)(h:cE Z a=.sQ c):∃p e pos,a=.Call (.Name ("set":bA) p) [e] [] pos/\Z.glob ("set":bA)=.blt/\aAd e=true/\c=cE Z e:=by
 unfold f6 at hs
 cases qi:rO a with
 |none=>rw[qi] at hs;cases hs
 |some y =>
 rw[qi] at hs;obtain⟨⟨f,p⟩,l,pos⟩:=y;obtain _ | ⟨e,_ | ⟨_,_⟩⟩:=l
 ·cases hs
 ·obtain rfl:=k6 qi;have hf:=XC hs;have hf:f=("set":bA):=hf;subst hf;replace h:(if [e].all aAd&&decide ([e]≠[]) then(match Z.glob ("set":bA) with | .fn g=>.call g (VB Z [e]) | .cls ns=>.make ("set":bA) ns (VB Z [e]) | .blt=>if("set":bA)=("isinstance":bA) then rW Z [e] (VB Z [e]) else OR ("set":bA) [e] (VB Z [e]) | _=>E.OA) else E.OA)=.sQ c:=h;split at h
  ·rename_i hc;split at h
   ·cases h
   ·cases h
   ·rename_i hg;rw[if_neg (by decide)] at h;unfold OR aAT at h;rw[if_neg (by decide),KA rfl] at h;simp only[VB] at h;cases h;rw[nB,vC,nB] at hc;exact⟨p,e,pos,rfl,hg,hc.1.1,rfl⟩
   ·cases h
  ·cases h
 ·cases hs
def wu(i:DA):Prop:=∃k p1 p2 p3,i=.Slice none none (some (.UnaryOp .USub (.Constant (.int 1) k p1) p2)) p3
def uDa(h:c6 i=true):wu i:=by
 induction i using mF with
 |Slice lo hi st q =>
  obtain _ | _:=lo
  ·obtain _ | _:=hi
   ·obtain _ | st:=st
    ·exact vM h
    ·induction st using mF with
     |UnaryOp op a p =>
      induction op using UnaryOp.casesOn with
      |USub =>
       induction a using mF with
       |Constant c k p1 =>
        induction c using Const.casesOn with
        |int n =>
         have h:=XC (show(n==1)=true from h);subst h;exact Exists.intro _ ⟨_,_,_,rfl⟩
        |_=>exact vM h
       |_=>exact vM h
      |_=>exact vM h
     |_=>exact vM h
   ·exact vM h
  ·exact vM h
 |_=>exact vM h
abbrev Ye(Z:CC)(op:RG)(b:DA)(ca c:E):E:=c
abbrev We(Z:CC)(a:DA)(ci c:E):E:=c
def gMa{K:iA}(xo:cB X K P C Z)(ha:JA X K P C a ca)(h:JA X K P C (.Compare a [op] [b] pos) c):JA X K P C (.Compare a [op] [b] pos) (Ye Z op b ca c):=h
def fMa{K:iA}(xo:cB X K P C Z)(hi:JA X K P C i ci)(hs:GU i)(h:JA X K P C (.Subscript a i pos) c):JA X K P C (.Subscript a i pos) (We Z a ci c):=h
def lEa(Z:CC)(a i:DA)(p:IC):(∃lo hi q,i=.Slice lo hi none q)\/((∀lo hi q,i≠.Slice lo hi none q)/\cE Z (.Subscript a i p)=if c6 i then .rev (cE Z a) else We Z a (cE Z i) (.ix (cE Z a) (cE Z i))):=by
 induction i using mF with
 |Slice lo hi st q =>
  induction st using tI with
  |none=>exact .inl ⟨_,_,_,rfl⟩
  |some _=>exact .inr ⟨λ_ _ _ z=>(by cases z),rfl⟩
 |_=>exact .inr ⟨λ_ _ _ z=>Expr.noConfusion z,rfl⟩
def sM(K:iA)(P:oB)(C:Calls)(n:Nat):Prop:=∀(X:Cx) (Z:CC),cB X K P C Z->∀e:DA,sizeOf e<n->JA X K P C e (cE Z e)
def Ei(h:a<b)(k:b<n+1):a<n:=WE h (Nat.le_of_lt_succ k)
def QB(k:b<n+1)(h:a<b:=by simp;lia):a<n:=Ei h k
section
variable{K:iA}
def IQ{r:List DA}(h:sizeOf (e::r)<n):sizeOf e<n:=fP (by simp;lia) h
def rX{r:List DA}(h:sizeOf (e::r)<n):sizeOf r<n:=fP (by simp;lia) h
theorem pV(ih:sM K P C n)(xo:cB X K P C Z):∀es:List DA,sizeOf es<n->es.all aAd=true->PA X es (KO K P C (VB Z es))
 |[],_,_=>sOa
 |e::r,hs,h=>by(rw[vC,nB] at h;exact qOa (ih _ _ xo e (IQ hs)) (pV ih xo r (rX hs) h.2) h.1)
theorem jL(ih:sM K P C n)(xo:cB X K P C Z):∀es:List DA,sizeOf es<n->es.all aAd=true->PA X es (xH K P C (VB Z es))
 |[],_,_=>tOa
 |e::r,hs,h=>by(rw[vC,nB] at h;exact rOa (ih _ _ xo e (IQ hs)) (jL ih xo r (rX hs) h.2) h.1)
theorem jc(ih:sM K P C n)(xo:cB X K P C Z):∀vs:List DA,sizeOf vs<n->vs≠[]->SJ X K P C .And vs (QZ Z vs)
 |[],_,h=>absurd rfl h
 |[a],hs,_=>cLa (ih _ _ xo a (IQ hs))
 |a::b::r,hs,_=>oj (ih _ _ xo a (IQ hs)) (jc ih xo (b::r) (rX hs) (λz=>nomatch z))
theorem Bj(ih:sM K P C n)(xo:cB X K P C Z):∀vs:List DA,sizeOf vs<n->vs≠[]->SJ X K P C .Or vs (TZ Z vs)
 |[],_,h=>absurd rfl h
 |[a],hs,_=>dLa (ih _ _ xo a (IQ hs))
 |a::b::r,hs,_=>pj (ih _ _ xo a (IQ hs)) (Bj ih xo (b::r) (rX hs) (λz=>nomatch z))
theorem mj(ih:sM K P C n)(xo:cB X K P C Z):∀o:Option DA,sizeOf o<n->PO X o (tO K P C (cO Z o))
 |none,_=>qQa
 |some e,hs=>sQa (ih _ _ xo e (fP (by simp) hs))
def oZ(ih:sM K P C n)(xo:cB X K P C Z)(e:DA)(hs:sizeOf e<n):BU X K P C e (XU Z e):=by
 cases e<;>first
  | (rename_i f args kw pos;exact⟨λf' p' Lu kw' pos' z ns=>by cases z;exact⟨jL ih xo args (fP (by simp;lia) hs) ns,Rc args⟩⟩)
  |exact⟨λf' p' Lu kw' pos' z ns=>by cases z⟩
end
def oMa{K:iA}(h:JA X K P C e c):JA X K P C e (lT c):=by
 unfold lT;split
 ·exact xB
 ·exact h
def yw{X:Cx}{K:iA}(ih:sM K P C n)(xo:cB X K P C Z)(e:DA)(vB:sizeOf e<n+1):JA X K P C e (cE Z e):=by
 induction e using mF with
 |Name x p =>
  exact sj xo _ _
 |Constant c k p =>
  exact rj xo _ _ _
 |Tuple es k p =>
  show JA X K P C _ (if es.all aAd then .t (VB Z es) else .OA);split
  ·exact vMa xo (pV ih xo _ (QB vB) ‹_›)
  ·exact xB
 |List es p =>
  show JA X K P C _ (if es.all aAd then .l (VB Z es) else .OA);split
  ·exact kMa xo (pV ih xo _ (QB vB) ‹_›)
  ·exact xB
 |Dict ks vs p =>
  refine dMa xo (λv hv=>ih _ _ xo v (Ei (by have:=List.sizeOf_lt_of_mem hv;simp;lia) vB)) ?_;show JA X K P C _ (I0 _ _ _ _);unfold I0;split
  ·exact aMa xo
  refine cMa xo (λk c h1 h2=>?_) λv c h1 h2=>?_
  ·subst h1;cases h2;exact oMa (ih _ _ xo k (QB vB))
  ·subst h1;cases h2;exact ih _ _ xo v (QB vB)
 |BinOp a op b p =>
  exact uLa xo (ih _ _ xo _ (QB vB)) (ih _ _ xo _ (QB vB))
 |UnaryOp op a p =>
  cases op with
  |Not =>
   exact pMa xo (ih _ _ xo _ (QB vB))
  |USub =>
   exact tj xo (ih _ _ xo _ (QB vB))
  |_=>exact xB
 |Compare a ops cs p =>
  obtain _ | ⟨op,_ | ⟨xC,_ | ⟨_,_⟩⟩⟩:=ops
  ·exact xB
  ·obtain _ | ⟨b,_ | ⟨_,_⟩⟩:=cs
   ·exact xB
   ·show JA X K P C _ (if zN op b then .OA else Ye Z op b (cE Z a) (.uA op (cE Z a) (cE Z b)));split
    ·exact xB
    ·refine gMa xo (ih _ _ xo _ (QB vB)) ?_;exact wLa xo (ih _ _ xo _ (QB vB)) (ih _ _ xo _ (QB vB)) (by rename_i h;simpa using h)
   ·exact xB
  ·obtain _ | ⟨b,_ | ⟨c,_ | ⟨_,_⟩⟩⟩:=cs
   ·exact xB
   ·exact xB
   ·show JA X K P C _ (if zN xC c then .OA else .aG op xC (cE Z a) (cE Z b) (cE Z c));split
    ·exact xB
    ·exact xLa xo (ih _ _ xo _ (QB vB)) (ih _ _ xo _ (QB vB)) (ih _ _ xo _ (QB vB)) (by rename_i h;simpa using h)
   ·exact xB
  ·exact xB
 |BoolOp op vs p =>
  obtain _ | ⟨a,_ | ⟨b,r⟩⟩:=vs
  ·cases op<;>exact xB
  ·cases op<;>exact xB
  ·cases op with
   |And =>
    exact(oj (ih _ _ xo _ (QB vB)) (jc ih xo _ (QB vB) (by simp))).qj λi z=>nomatch z
   |Or =>
    exact(pj (ih _ _ xo _ (QB vB)) (Bj ih xo _ (QB vB) (by simp))).qj λi z=>nomatch z
 |IfExp c a b p =>
  exact xB
 |Subscript a i p =>
  rcases lEa Z a i p with ⟨lo,hi,q,rfl⟩ | ⟨hn,e⟩
  ·exact uMa xo (ih _ _ xo _ (QB vB)) (mj ih xo _ (QB vB)) (mj ih xo _ (QB vB))
  ·rw[e];split
   ·rename_i hr;obtain⟨k,p1,p2,p3,rfl⟩:=uDa hr;exact tMa xo (ih _ _ xo _ (QB vB))
   ·exact fMa xo (ih _ _ xo _ (QB vB)) (Vj hn) (iMa xo (ih _ _ xo _ (QB vB)) (ih _ _ xo _ (QB vB)) (Vj hn))
 |Call fn args kw pos =>
  induction fn using mF with
  |Name f p =>
   induction kw using NC with
   |nil =>
    show JA X K P C _ (if args.all aAd&&decide (args≠[]) then(match Z.glob f with | .fn g=>.call g (VB Z args) | .cls ns=>.make f ns (VB Z args) | .blt=>if f=("isinstance":bA) then rW Z args (VB Z args) else OR f args (VB Z args) | _=>.OA) else .OA);split
    ·rename_i hc;rw[nB] at hc;obtain⟨ns,ne⟩:=hc
     induction args using NC with
     |nil=>simp at ne
     |cons a r =>
      split
      ·rename_i g hg;exact vLa xo hg ns (jL ih xo _ (QB vB) ns)
      ·rename_i g hg;exact lMa xo hg ns (pV ih xo _ (QB vB) ns)
      ·rename_i hg;split
       ·rename_i hf;subst hf;unfold rW;split
        ·rename_i t a' _ e1 e2;split
         ·rename_i ty OM;simp only[VB,eR] at e1 e2;obtain⟨rfl,rfl⟩:=e1;obtain⟨rfl,_⟩:=e2;rw[vC,nB] at ns;exact hMa xo hg OM ns.1 (ih _ _ xo _ (QB vB))
         ·simp only[VB,eR] at e1 e2;obtain⟨rfl,rfl⟩:=e1;obtain⟨rfl,_⟩:=e2;rw[vC,nB] at ns;exact xB
        ·exact xB
       ·unfold OR;split
        ·rename_i V4;subst V4;unfold gi;split
         ·rename_i a' c e1 nK;cases e1;simp only[VB,eR,and_true] at nK;split
          ·rename_i qJ;obtain⟨p2,e2,Wj,rfl,hg2,ns2,rfl⟩:=mJa qJ nK;exact qMa xo hg hg2 ns2 (ih _ _ xo e2 (QB vB))
          ·exact XW xo hg (b:=.len) rfl ns (jL ih xo _ (QB vB) ns)
         ·exact XW xo hg (b:=.len) rfl ns (jL ih xo _ (QB vB) ns)
        ·split
         ·unfold aAT;split
          ·exact nMa
          ·exact xB
         ·split
          ·exact xB
          ·split
           ·rename_i V4;subst V4;exact XW xo hg (b:=.list) rfl ns (jL ih xo _ (QB vB) ns)
           ·split
            ·rename_i b hb;exact XW xo hg hb ns (jL ih xo _ (QB vB) ns)
            ·exact xB
      ·exact xB
    ·exact xB
   |cons _ _=>exact xB
  |Attribute o m wB =>
   induction o using mF with
   |Name x p =>
    induction kw using NC with
    |nil =>
     have hD:JA X K P C (.Call (.Attribute (.Name x p) m wB) args [] pos) (wc Z x m wB pos args (VB Z args)):=by
      induction args using NC with
      |nil =>
       show JA X K P C _ (vZ Z x m wB pos);unfold vZ;split
       ·rename_i hc;rw[nB] at hc;obtain⟨hl,hm⟩:=hc;have hm:=XC hm;subst hm;exact xB
       ·split
        ·rename_i hc;rw[nB] at hc;obtain⟨hl,hm⟩:=hc;have hm:=XC hm;subst hm;split
         ·exact sMa xo ‹_› hl
         ·exact xB
        ·exact xMa xo
      |cons a as =>
       induction as using NC with
       |nil =>
        show JA X K P C _ (wZ Z x m wB pos a (cE Z a));unfold wZ;split
        ·rename_i hc;rw[nB,nB] at hc;obtain⟨⟨ns,hl⟩,hm⟩:=hc;have hm:=XC hm;subst hm;split
         ·exact tLa xo ‹_› hl ns (ih _ _ xo _ (QB vB))
         ·exact xB
        ·split
         ·rename_i hc;rw[nB,nB] at hc;obtain⟨⟨ns,hl⟩,hm⟩:=hc;have hm:=XC hm;subst hm;exact xB
         ·split
          ·rename_i hc;rw[nB,nB] at hc;obtain⟨⟨ns,hl⟩,hm⟩:=hc;have hm:=XC hm;subst hm;exact xB
          ·exact sLa xo
       |cons b as=>exact xB
     show JA X K P C _ (yZ Z x m wB pos args (VB Z args));unfold yZ;split
     ·rename_i tb hm;split
      ·rename_i hc;rw[nB,nB] at hc;obtain⟨⟨ns,hl⟩,hf⟩:=hc;split
       ·exact mMa xo ‹_› hm ns hl (eU hf) (jL ih xo _ (QB vB) ns) λz=>by rw[z,VB]
       ·exact xB
      ·exact xB
     ·exact hD
    |cons _ _=>exact xB
   |Call g as kw2 p2 =>
    induction as using NC with
    |nil=>exact xB
    |cons a0 OU =>
     induction kw using NC with
     |nil =>
      show JA X K P C _ (d7 Z m wB pos args (cE Z (.Call g (a0::OU) kw2 p2)) (VB Z args));unfold d7;split
      ·rename_i tb hm;split
       ·rename_i hc;rw[nB,nB] at hc;exact xB
       ·exact xB
      ·exact xB
     |cons _ _=>exact xB
   |_=>exact xB
  |_=>exact xB
 |Attribute o f p =>
  induction o using mF with
  |Name x q =>
   exact eMa xo
  |_=>exact xB
 |ListComp QA gs scope pos =>
  obtain _ | ⟨⟨tg,iter,BA,m⟩,_ | ⟨_,_⟩⟩:=gs
  ·exact xB
  ·obtain _ | ⟨c,_ | ⟨_,_⟩⟩:=BA<;>obtain(_ | _) | _:=m
   ·exact(hV xo (ih _ _ xo _ (QB vB)) (oZ ih xo _ (QB vB)) (λX' lI=>ih _ _ lI _ (QB vB)) (λX' lI=>jk)).1
   ·exact xB
   ·exact xB
   ·exact(hV xo (ih _ _ xo _ (QB vB)) (oZ ih xo _ (QB vB)) (λX' lI=>ih _ _ lI _ (QB vB)) (λX' lI=>qk (ih _ _ lI _ (QB vB)))).1
   all_goals exact xB
  ·obtain _ | ⟨c,_ | ⟨_,_⟩⟩:=BA<;>obtain(_ | _) | _:=m<;>exact xB
 |_=>exact xB
theorem nW{K:iA}:∀n:Nat,sM K P C n
 | 0=>λ_ _ _ _ h=>absurd h (Ja _)
 |n+1=>λ_ _ xo e h=>yw (nW n) xo e h
section
variable{K:iA}
def ZF(xo:cB X K P C Z)(e:DA):JA X K P C e (cE Z e):=nW _ _ _ xo e (uN _)
def Qc(xo:cB X K P C Z)(e:DA):BU X K P C e (XU Z e):=oZ (nW _) xo e (uN _)
def YU(xo:cB X K P C Z)(es:List DA)(h:es.all aAd=true):PA X es (xH K P C (VB Z es)):=jL (nW _) xo es (uN _) h
end
def iLa{K:iA}(xo:cB X K P C Z)(e:DA)(h:qW e=true):qP X K P C e (cE Z e):=by
 cases e<;>simp only[qW,OJ] at h;rename_i QA gs scope pos;obtain _ | ⟨⟨tg,iter,BA,n⟩,_ | ⟨_,_⟩⟩:=gs
 ·exact yQ
 ·obtain _ | ⟨c,_ | ⟨_,_⟩⟩:=BA<;>obtain(_ | _) | _:=n
  ·exact(hV xo (ZF xo iter) (Qc xo iter) (λX' lI=>ZF lI QA) (λX' lI=>jk)).2.1
  ·exact yQ
  ·exact yQ
  ·exact(hV xo (ZF xo iter) (Qc xo iter) (λX' lI=>ZF lI QA) (λX' lI=>qk (ZF lI c))).2.1
  all_goals exact yQ
 ·obtain _ | ⟨c,_ | ⟨_,_⟩⟩:=BA<;>obtain(_ | _) | _:=n<;>exact yQ
section
variable{X:Cx}{K:iA}{P:oB}{C:Calls}{W:Nat}{Z:CC}
def Kj(h1:PE X e t)(h2:PE X e u):PE X e (λY H Q=>t Y H Q\/u Y H Q):=λaA s Y H Q I q=>q.elim (h1 aA s Y H Q I) (h2 aA s Y H Q I)
end
section
variable{X:Cx}{K:iA}{P:oB}{C:Calls}{W:Nat}{Z:CC}
abbrev Ms(Z:CC)(e:DA):Prop:=False
def DF(Z:CC)(e:DA):Prop:=((∃f p a r pos g,e=.Call (.Name f p) (a::r) [] pos/\Z.glob f=.fn g/\(a::r).all aAd=true/\cE Z e=.call g (VB Z (a::r)))\/Ms Z e)\/∃QA tg iter BA sc pos,e=.ListComp QA [⟨tg,iter,BA,0⟩] sc pos/\(BA=[]\/∃c1,BA=[c1])
end
section
variable{X:Cx}{K:iA}{P:oB}{C:Calls}{W:Nat}{Z:CC}{aA Tj:List (kA×IB)}{Y:St}{H G:Hp}{s:zA}
abbrev Cx.re(X:Cx)(E:dA->zA->Prop)(pn:List (kA×IB)):Cx:={ X with xe:=E,pn:=pn }
abbrev RE(X:Cx)(b:List rB)(t:Cx->TS):Prop:=∀E pn,iM (model X.prog X.w) X.A X.env E->tD (Cx.re X E pn) b (t (Cx.re X E pn))
theorem cB.re{E:dA->zA->Prop}(xo:cB X K P C Z):cB (Cx.re X E pn) K P C Z :=
 cB.of xo.bD xo.IL xo.nm xo.nd xo.calm xo.hh xo.hu xo.c xo.blt (λx f h=>⟨(xo.fn x f h).ex⟩) (λx ns h=>⟨(xo.cls x ns h).ex⟩) (λm tb c f h1 h2=>⟨(xo.yE m tb c f h1 h2).ex⟩) xo.rm xo.sub xo.AJ xo.fJ ⟨xo.exc,λx h=>⟨(xo.cK x h).ex⟩⟩ xo.NA ⟨λx f h=>⟨(xo.fnX x f h).ex⟩,λx f h=>⟨(xo.obj x f h).ex⟩,λm tb c f h1 h2=>⟨(xo.mtx m tb c f h1 h2).ex⟩⟩ xo.tp
def xRa
  (hb:RE X body λ_=>KG K P C W cb):PS X (.Try body hs o f pos) (tS K P C W (vo cb hs o f)):=sD
def uRa(xo:cB X K P C Z)(hi:Z.slot x=some i)(n:SE e=true)(n2:j7 k=true):PS X (.Assign [.Subscript (.Name x p) k p2] e pos) (tS K P C W (p8 i k (cE Z k) (cE Z e))):=by
 have h:PS X (.Assign [.Subscript (.Name x p) k p2] e pos) (tS K P C W (.set i (cE Z k) (cE Z e))):=vRa xo hi (ZF xo _) (ZF xo _) n λv=>by induction k using mF<;>first | rfl | cases n2
 exact h
def wRa(xo:cB X K P C Z):PS X (.Assign [.Tuple ts k p] e pos) (tS K P C W (N8 Z ts e (cE Z e))):=by
 exact sD
end
section
variable{K:iA}
def tVa(xo:cB X K P C Z)(h:Z.mG x=some i):X.N[i]?=some x/\L2.Loc X.env.scope x/\Z.pO x=true:=by
 unfold CC.mG at h;split at h
 ·rename_i hl
  have hN:X.N[i]?=some x:=by
   unfold CC.slot at h;split at h
   ·cases h
   ·split at h
    ·rw[xo.IL];exact mW h
    ·cases h
  refine⟨hN, ?_,hl⟩;unfold L2.Loc;rw[xo.nm];unfold CC.pO at hl;rw[MK,nB] at hl;rcases hl with hl | hl
  ·exact .inl (XC hl)
  ·exact .inr (XC hl.2)
 ·cases h
def dRa(xo:cB X K P C Z)(iC:uI X Z)(hi:Z.mG x=some i)(h:qP X K P C e c):PS X (.Assign [.Name x p] e pos) (tS K P C W (.WA i c)):=by
 obtain⟨h1,h2,h3⟩:=tVa xo hi;refine TS.oH (h x i p pos (by rw[xo.IL];exact xo.nd) h1 h2 (iC x h3)) λD Y H hz=>?_
 obtain⟨U,G,fl,U',r,e,k⟩:=hz;obtain⟨v,U1,e1,e2⟩:=gJ e k.ne;unfold jJ at e2
 cases q:store i v U1 with
 |none=>rw[q] at e2;cases e2
 |some U2 =>
  rw[q] at e2;cases e2;exact⟨U,G,v,U1,r,e1,λx H' G' a hv=>k _ H' G' (GA.store r a q hv)⟩
def k_(xo:cB X K P C Z)(h:EV Z it=some (k,cA)):∃wi,(∀x,PJ it X.env x=pure x)/\PI X tg it wi/\∀Y H (R:It->Hp->Prop),bJ K P C k cA Y H R->wi Y H R:=by
 unfold EV at h;split at h
 ·rename_i x hx;split at h
  ·obtain⟨i,hi,h⟩:=AF.mp h;cases h;cases it<;>simp only[aAz,reduceCtorEq] at hx;cases hx;exact⟨_,DV rfl _,Pj (A7 xo hi _).h,λY H R q=>Sh Y H R q⟩
  ·cases h
 ·cases h
def C4(xo:cB X K P C Z)(iC:uI X Z){Φ:List E->Prop}
  (ht:jI Z tg=some (one,is)) (hi:BL Z it=some (k0,cA)) (pK:PL k0 one=true) (fin:∀{wi:TI} {its':List E},(∀x,PJ it X.env x=pure x)->PI X tg it wi->(∀Y H (R:It->Hp->Prop),bJ K P C k0 its' Y H R->wi Y H R)->Φ its'):Φ (VB Z cA):=by
 have gen:∀e:DA,it=e->wQ e=true->some (XF.of,[e])=some (k0,cA)->Φ (VB Z cA):=λe he hn hq=>by(subst he;cases hq;exact fin (DV hn _) (PI.or (O7 (ZF xo it).h) (P7 (ZF xo it).h)) λY H R q=>v7 xo.bD Y H R q)
 unfold BL at hi;split at hi
 ·rename_i x hx;obtain⟨⟨f,p⟩,args,pos'⟩:=x;obtain rfl:=k6 hx;dsimp only at hi;split at hi
  ·rename_i hf;have hf:=XC hf;subst hf;split at hi
   ·rename_i sL;split at hi
    ·rename_i hc;cases hi;rw[nB] at hc;obtain⟨h1,h2,h3,h4⟩:=CC.SH xo sL (λz=>nomatch z);have hm:=xo.blt _ h2;obtain _ | ⟨a,_ | ⟨b,_ | ⟨_,_⟩⟩⟩:=cA
     ·simp at hc
     ·have ns:=hc.1;rw[vC,nB] at ns;exact fin (λ_=>rfl) (Qj h1 hm (YU xo [a] hc.1) (by rw[QD ns.1];rfl)) λY H R q=>kl Y H R q
     ·have ns:=hc.1;rw[vC,nB,vC,nB] at ns;exact fin (λ_=>rfl) (Rj h1 hm (YU xo [a,b] hc.1) (by rw[QD ns.1,QD ns.2.1];rfl) (by rw[QD ns.2.1];rfl)) λY H R q=>ll Y H R q
     ·simp at hc
    ·cases hi
   ·cases hi
  ·split at hi
   ·rename_i hf;have hf:=XC hf;subst hf;split at hi
    ·rename_i sL;split at hi
     ·rename_i hc;cases hi;rw[nB] at hc;obtain⟨h1,h2,h3,h4⟩:=CC.SH xo sL (λz=>nomatch z);have hm:=xo.blt _ h2;obtain _ | ⟨a,_ | ⟨_,_⟩⟩:=cA
      ·simp at hc
      ·have ns:=hc.1;rw[vC,nB] at ns;obtain⟨elts,kk,tp,rfl⟩:=Z8 ht (by simpa[PL] using pK);exact fin (λ_=>rfl) (Oj h1 hm (YU xo [a] hc.1) (by rw[QD ns.1];rfl)) λY H R q=>C1 xo.bD Y H R q
      ·simp at hc
     ·cases hi
    ·cases hi
   ·exact gen _ rfl rfl hi
 ·split at hi
  ·rename_i x h0;obtain⟨f,a,x,c⟩:=x;obtain⟨p,jj,qq,kp,pos',rfl⟩:=zDa h0;clear h0;dsimp only at hi;split at hi
   ·rename_i hc;rw[nB,nB,nB] at hc;obtain⟨⟨⟨hf,hx⟩,ns⟩,h1⟩:=hc;have hf:=XC hf;have hx:=XC hx;have h1:=XC h1;subst hf hx h1;split at hi
    ·rename_i sL;cases hi;obtain⟨h1,h2,h3,h4⟩:=CC.SH xo sL (λz=>nomatch z);have hm:=xo.blt _ h2;obtain⟨elts,kk,tp,rfl⟩:=Z8 ht (by simpa[PL] using pK);exact fin (λ_=>rfl) (eQa h1 hm (YU xo [_] (by rw[vC,ns];rfl)) (by rw[QD ns];rfl)) λY H R q=>C1 xo.bD Y H R q
    ·cases hi
   ·cases hi
  ·split at hi
   ·exact gen _ rfl ‹_› hi
   ·cases hi
def s_(xo:cB X K P C Z)(iC:uI X Z){cA:List DA}{Φ:List E->Prop}
  (ht:jI Z tg=some (one,is)) (hi:BL Z it=some (k0,cA)) (pK:PL k0 one=true) (fin:∀{wi:TI} {its':List E},(∀x,PJ it X.env x=pure x)->PI X tg it wi->(∀Y H (R:It->Hp->Prop),bJ K P C k0 its' Y H R->wi Y H R)->Φ its'):Φ (US Z it body (VB Z cA)):=by
 unfold US;split
 ·rename_i x hx;split
  ·rename_i i hs;split
   ·cases it<;>simp only[aAz,reduceCtorEq] at hx;cases hx
    have:k0=.of:=by(simp only[BL,rO,sW,wQ,if_true] at hi;cases hi;rfl)
    subst this;have h:=(A7 xo hs ‹IC›).h;exact fin (λ_=>rfl) (PI.or (O7 h) (P7 h)) λY H R q=>v7 xo.bD Y H R q
   ·exact C4 xo iC ht hi pK fin
  ·exact C4 xo iC ht hi pK fin
 ·exact C4 xo iC ht hi pK fin
structure sP(X:Cx)(K:iA)(P:oB)(C:Calls)(Z:CC):Prop where
 po:iM (model X.prog X.w) X.A X.env X.xe
 xo:cB X K P C Z
 iC:uI X Z
 sk:Z.top=true->X.stack=X.env::X.outer/\X.env.frame=some X.env.locals
def VY(K:iA)(P:oB)(C:Calls)(W:Nat)(Z:CC)(n:Nat):Prop:=∀X:Cx,sP X K P C Z->∀xF:List rB,sizeOf xF<n ->
 tD X xF (KG K P C W (DG Z xF))/\True
theorem sP.re{E:dA->zA->Prop}(c:sP X K P C Z)(po:iM (model X.prog X.w) X.A X.env E):sP (Cx.re X E pn) K P C Z:=⟨po,c.xo.re,c.iC,c.sk⟩
def Vc(ih:VY K P C W Z n)(cx:sP X K P C Z)(st:rB)(hZ:sizeOf st<n+1):PS X st (tS K P C W (cS Z st)):=by
 obtain⟨po,xo,iC,sk⟩:=id cx
 induction st using Vr with
 |Pass _=>exact qRa
 |Break _=>exact fRa
 |Continue _=>exact gRa
 |Return e rp0 =>
  induction e using tI with
  |some e =>
   have hR:PS X (.Return (some e) rp0) (tS K P C W (Yk e (cE Z e))):=tRa (ZF xo e);exact hR
  |none=>exact sRa
 |Expr e _ =>
  show PS X _ (tS K P C W (if SE e then .expr (cE Z e) else .OA));split
  ·exact kRa (ZF xo _) ‹_›
  ·exact sD
 |If c a b _=>exact oRa (ZF xo _) (ih _ cx a (QB hZ)).1 (ih _ cx b (QB hZ)).1
 |While c b o _ =>
  induction o using NC with
  |nil=>exact qZa po (ZF xo _) (ih _ cx b (QB hZ)).1
  |cons _ _=>exact sD
 |For tg it b o u_ =>
  induction o using NC with
  |nil =>
   have hF:PS X (.For tg it b [] u_) (tS K P C W (match jI Z tg,BL Z it with
    |some (one,is),some (k,cA)=>if PL k one then .for is one k (US Z it b (VB Z cA)) (DG Z b) else .OA
    |_,_=>.OA)):=by
    cases h1:jI Z tg with
    |none=>exact sD
    |some t =>
     cases h2:BL Z it with
     |none=>exact sD
     |some u =>
      show PS X _ (tS K P C W (if PL u.1 t.1 then .for t.2 t.1 u.1 (US Z it b (VB Z u.2)) (DG Z b) else .OA));split
      ·exact s_ xo iC h1 h2 ‹_› (Φ:=λits'=>PS X (.For tg it b [] _) (tS K P C W (.for t.2 t.1 u.1 its' (DG Z b)))) λhs hi hw=>Ie po xo (a9 xo iC h1) (ih _ cx b (QB hZ)).1 hs hi hw
      ·exact sD
   show PS X _ (tS K P C W (B4 (EV Z it) (jI Z tg) (DG Z b) _));unfold B4;split
   ·rename_i u hu;obtain⟨wi,h1,h2,h3⟩:=k_ xo (tg:=tg) hu;split
    ·exact Ie po xo (a9 xo iC ‹_›) (ih _ cx b (QB hZ)).1 h1 h2 h3
    ·exact sD
   ·exact hF
  |cons _ _=>exact sD
 |Assign ts e _ =>
  obtain _ | ⟨t,_ | ⟨_,_⟩⟩:=ts
  ·exact sD
  ·induction t using mF with
   |Name x p =>
    show PS X _ (tS K P C W (match Z.mG x with | some i=>if SE e||qW e then .WA i (cE Z e) else .OA | none=>.OA));split
    ·split
     ·rename_i hc;rw[MK] at hc;rcases hc with hc | hc
      ·exact bRa xo iC ‹_› (ZF xo _) hc
      ·exact dRa xo iC ‹_› (iLa xo _ hc)
     ·exact sD
    ·exact sD
   |Tuple ts _ _ =>
    show PS X _ (tS K P C W (match QL Z ts with | some is=>if SE e&&SW e then .PU is (cE Z e) else .OA | none=>N8 Z ts e (cE Z e)));split
    ·split
     ·rename_i h;rw[nB] at h;exact cRa xo iC ‹_› (ZF xo _) h.1 h.2
     ·exact sD
    ·exact wRa xo
   |Subscript a k _ =>
    cases a with
    |Name x p =>
     show PS X _ (tS K P C W (match Z.slot x with | some i=>if SE e&&j7 k then p8 i k (cE Z k) (cE Z e) else .OA | none=>.OA));split
     ·split
      ·rename_i h;rw[nB] at h;exact uRa xo ‹_› h.1 h.2
      ·exact sD
     ·exact sD
    |_=>exact sD
   |_=>exact sD
  ·induction t using mF with
   |Subscript a _ _=>cases a<;>exact sD
   |_=>exact sD
 |AugAssign t op e _ =>
  induction t using mF with
  |Name x p =>
   induction op using Operator.casesOn with
   |Add =>
    show PS X _ (tS K P C W (match Z.mG x with | some i=>if SE e then .OA else .OA | none=>.OA));split
    ·split
     ·exact sD
     ·exact sD
    ·exact sD
   |_=>exact sD
  |_=>exact sD
 |Raise e c _ =>
  induction e using tI with
  |none=>exact sD
  |some e =>
   induction c using tI with
   |none =>
    show PS X _ (tS K P C W (j8 Z e));unfold j8 ql;split
    ·split
     ·split
      ·exact U7 λU=>rfl
      ·exact U7 λU=>rfl
      ·exact sD
     ·exact sD
    ·exact sD
   |some _=>exact sD
 |Try body hs o f _=>exact xRa λE pn po'=>(ih _ (cx.re po') body (QB hZ)).1
 |_=>exact sD
def Bw(ih:VY K P C W Z n)(cx:sP X K P C Z)(xF:List rB)(hZ:sizeOf xF<n+1):tD X xF (KG K P C W (DG Z xF)):=by
 obtain⟨po,xo,iC,sk⟩:=id cx
 induction xF using NC with
 |nil=>exact ek
 |cons s r=>exact Zj (Vc ih cx s (fP (by simp;lia) hZ)) (ih _ cx r (QB hZ)).1
theorem T5:∀n:Nat,VY K P C W Z n
 | 0,_,_,_,h=>absurd h (Ja _)
 |n+1,_,c,xF,h=>⟨Bw (T5 n) c xF h,trivial⟩
def Aw(po:iM (model X.prog X.w) X.A X.env X.xe)(xo:cB X K P C Z)(iC:uI X Z)(sk:Z.top=true->X.stack=X.env::X.outer/\X.env.frame=some X.env.locals)(xF:List rB):tD X xF (KG K P C W (DG Z xF)):=(T5 _ X ⟨po,xo,iC,sk⟩ xF (uN _)).1
end
def kWa:rB->Option (bA×DA)
 |.Assign ts e _=>(match ts with
  |[]=>none
  |t::r=>(match r with | []=>(jT t).map λq=>(q.1,e) | _::_=>none))
 |_=>none
def C8(Z:CC)(s:rB):Option (Nat×E):=(kWa s).bind λq=>if((q.1==("_law_stands":bA))||(q.1==("_law_paper":bA)))&&SE q.2 then(Z.mG q.1).map λi=>(i,cE Z q.2) else none
def cT(Z:CC):List rB->List S
 |[]=>[]
 |s::r=>match C8 Z s with
  |some q=>[.FO q.1 q.2 (cT Z r)]
  |none=>if r.any λs=>(C8 Z s).isSome then cS Z s::cT Z r else DG Z (s::r)
section
variable{X:Cx}{K:iA}{P:oB}{C:Calls}{W:Nat}{Z:CC}
def eC.mvs(a:eC K U Y H G U' Y' H' G')(np:U.all YM=true):eC K U Y H G (U.map λ_=>.mv) Y' H' G':=by
 have no:∀{i:Nat} {s:Sl},(U.map λ_=>Sl.mv)[i]?=some s->s=.mv:=λ{i s} h=>by(rw[iD] at h;obtain⟨_,_,rfl⟩:=AF.mp h;rfl)
 refine⟨⟨by rw[nA,<- a.len,a.wA.len],a.wA.sub,(λi d h=>nomatch no h),(λi d p l h=>nomatch no h),(λi j d p l d' p' l' a h=>nomatch no h)⟩,a.ext,(λa ⟨i,d,p,l,h,_⟩=>nomatch no h),(λi h=>nomatch no h),λi d l h=>?_,nA _⟩
 exact nomatch (show(!true)=true from EE.mp np _ (VE h))
def lWa(h:C8 Z s=some (i,ce)):∃x p e pos,s=.Assign [.Name x p] e pos/\Z.mG x=some i/\SE e=true/\ce=cE Z e:=by
 obtain⟨⟨x,e⟩,h0,h⟩:=nM.mp h;dsimp only at h;split at h
 ·rename_i hc;rw[nB] at hc;obtain⟨j,h1,h2⟩:=AF.mp h;cases h2
  induction s using Vr with
  |Assign ts e pos =>
   obtain _ | ⟨t,_ | ⟨_,_⟩⟩:=ts
   ·cases h0
   ·obtain⟨q,h3,h4⟩:=AF.mp h0;cases h4;rw[g7 h3];exact⟨_,_,_,_,rfl,h1,hc.2,rfl⟩
   ·cases h0
  |_=>cases h0
 ·cases h
def Uz(q:NA P C W [.FO i e cs] U=some (fl,U')):fl=.rt (.sh (.bl true))/\U'=U.map (λ_=>.mv)/\U.all YM=true/\∃n ds U1,ev P C false e U=some (.ok (.sh (.MC n ds)),U1)/\∀es,Fm n es ds->∃U2,store i (.sh (.l es)) U1=some U2/\∃U3,NA P C W cs U2=some (.rt (.sh (.bl true)),U3):=by
 replace q:(B8 i U (ev P C false e) (NA P C W cs)).next (NA P C W [])=_:=q;unfold B8 at q;split at q
 ·rename_i hc;cases q;exact⟨rfl,rfl,hc⟩
 ·cases q
def mWa(xo:cB X K P C Z)(iC:uI X Z)(hj:Z.mG x=some i)(hnc:SE e=true)(h4:tD X r (KG K P C W cs)):tD X (.Assign [.Name x p] e pos::r) (KG K P C W [.FO i (cE Z e) cs]):=by
 refine TS.U5 (V7 (yT (ZF xo e).v (mX xo iC hj (pos:=p)) (qX hnc _ _ _)) h4) λD Y H hz=>?_
 obtain⟨U,G,fl,U',r,q,k⟩:=hz;obtain⟨rfl,rfl,np,n,ds,U1,e1,he⟩:=Uz q;refine⟨U,G,.sh (.MC n ds),U1,r,e1,λv H1 G1 a1 hv=>?_⟩;replace hv:oA K G1 (.MC n ds) v:=hv;simp only[oA] at hv;obtain⟨b,ws,vs,rfl,h3,pf,h5⟩:=hv;obtain⟨es,pe,h6⟩:=Vk h5 pf.2;obtain⟨U2,st,U3,e3⟩:=he es ⟨h6.len.symm.trans pf.1,pe⟩;have hr:oA K G1 (.l es) (.ref b):=by simp only[oA];exact⟨b,ws,rfl,h3,h6⟩
 have aB:=GA.store r a1 st hr;exact⟨U2,G1,_,U3,aB.wA,e3,λx Y' H' G' b2 BS=>k x Y' H' G' ((aB.trans b2).mvs np) BS⟩
def Cw(po:iM (model X.prog X.w) X.A X.env X.xe)(xo:cB X K P C Z)(iC:uI X Z)(sk:Z.top=true->X.stack=X.env::X.outer/\X.env.frame=some X.env.locals)(xF:List rB):tD X xF (KG K P C W (cT Z xF)):=by
 induction xF with
 |nil=>exact ek
 |cons s r ih =>
  unfold cT;split
  ·rename_i q hq;obtain⟨x,p,e,pos,rfl,h1,h2,h3⟩:=lWa hq;rw[h3];exact mWa xo iC h1 h2 ih
  ·split
   ·exact Zj (Vc (T5 _) ⟨po,xo,iC,sk⟩ s (uN _)) ih
   ·exact Aw po xo iC sk (s::r)
end
noncomputable def OW:DA->Option bA
 |.Name s _=>some s
 |_=>none
def tZ:DA->Option (bA×bA)
 |.Attribute e f _=>(OW e).map λs=>(s,f)
 |_=>none
def qZ:rB->Option (bA×bA×bA)
 |.Assign ts v _=>(match ts with
  |[]=>none
  |t::r=>(match r with
   |_::_=>none
   |[]=>(tZ t).bind λp=>(OW v).map λq=>(p.1,p.2,q)))
 |_=>none
def bj(h:OW e=some s):∃p,e=.Name s p:=by
 unfold OW at h;split at h
 ·cases h;exact⟨_,rfl⟩
 ·cases h
def Pu(h:tZ e=some x):∃p1 p2,e=.Attribute (.Name x.1 p1) x.2 p2:=by
 unfold tZ at h;split at h
 ·obtain⟨s,hs,rfl⟩:=AF.mp h;obtain⟨_,rfl⟩:=bj hs;exact⟨_,_,rfl⟩
 ·cases h
def Mu{st:rB}(h:qZ st=some x):∃p1 p2 p3 p4,st=.Assign [.Attribute (.Name x.1 p1) x.2.1 p2] (.Name x.2.2 p3) p4:=by
 unfold qZ at h;split at h
 ·rename_i ts v _
  induction ts using NC with
  |nil=>cases h
  |cons t r =>
   induction r using NC with
   |cons=>cases h
   |nil =>
    obtain⟨p,hp,h⟩:=nM.mp h;obtain⟨q,hq,rfl⟩:=AF.mp h;obtain⟨_,_,rfl⟩:=Pu hp;obtain⟨_,rfl⟩:=bj hq;exact⟨_,_,_,_,rfl⟩
 ·cases h
def zL(ps:List bA):Nat->List rB->Option (List bA)
 |j,[]=>if j=ps.length then some [] else none
 |j,st::r=>(qZ st).bind λx=>if ps[0]?=some x.1/\ps[j]?=some x.2.2/\NN x.1=false/\NN x.2.2=false then(zL ps (j+1) r).map (x.2.1 :: ·) else none
theorem rk:∀{fs:List (bA×V)},f ∉ fs.map (·.1)->sF f y fs=fs++[(f,y)]
 |[],_=>rfl
 | (g,x)::r,h=>by(rw[AB,DC,not_or] at h;rw[sF,if_neg (λz=>h.1 z.symm),rk h.2];rfl)
def dZa(h:H a=some o):CA H a o=H:=by
 funext b
 unfold CA;split
 ·rename_i z;rw[z,h]
 ·rfl
theorem yg{K:iA}(hK:X.K=K)(hN:∀(i:Nat) x,ps[i]?=some x->X.N[i]?=some x/\BR X.env.scope x)(hl:xs.length+1=ps.length)(cl:yG K Ca):∀(r:List rB) (j:Nat) (ns:List bA),zL ps j r=some ns->1<=j ->
  ∃t,tD X r t/\∀(D:Ends) (Y:L2.St) (H:Hp) (fs:List (bA×V)),(∀(i:Nat) v,(V.ref a::xs)[i]?=some v->Y[i]?=some (some v))->H a=some (.ins Ca dx fs)->(∀f∈ns,vI K Ca f)->(fs.map (·.1)++ns).Nodup->fs.length+ns.length<1000 ->
   D.nx Y (CA H a (.ins Ca dx (fs++ns.zip (xs.drop (j-1)))))->t D Y H
 |[],j,ns,h,hj=>by
  unfold zL at h;split at h
  ·rename_i hje;cases h;refine⟨V8,ak,λD Y H fs _ ha _ _ _ q=>?_⟩;simp only[Tq,ZD] at q;rw[dZa ha] at q;exact q
  ·cases h
 |st::r,j,ns,h,hj=>by
  unfold zL at h;obtain⟨x,hx,h2⟩:=nM.mp h;obtain⟨p1,p2,p3,p4,rfl⟩:=Mu hx;obtain⟨s,f,q⟩:=x;replace h:=h2;dsimp only at h;split at h
  ·rename_i hc;obtain⟨c1,c2,c3,c4⟩:=hc
   cases q1:zL ps (j+1) r with
   |none=>rw[q1] at h;cases h
   |some BK =>
    rw[q1] at h;cases h;obtain⟨t,ht,k⟩:=yg hK hN hl cl r (j+1) BK q1 (by lia);simp only[NN,yq] at c3 c4;have v0:=M7 (pos:=p1) (hN 0 s c1).1 (hN 0 s c1).2 c3.1.1 c3.1.2;have v1:=M7 (pos:=p3) (hN j q c2).1 (hN j q c2).2 c4.1.1 c4.1.2;refine⟨_,V7 (lRa v0 v1 rfl) ht,λD Y H fs hY ha hn gW dD qq=>?_⟩;have hj2:j<ps.length:=(bE.mp c2).1;obtain⟨j',rfl⟩:∃j',j=j'+1:=⟨j-1,by lia⟩
    have HG:j'<xs.length:=by lia
    have hx:(V.ref a::xs)[j'+1]?=some xs[j']:=by simp[HG]
    have hnf:f ∉ fs.map (·.1):=λz=>by
     have:=(aJ.mp gW).2.2 f z f (by simp)
     exact this rfl
    refine⟨_,hY _ _ hx,.ref a,hY 0 _ rfl,a,Ca,dx,fs,rfl,ha,by rw[hK];exact cl,by rw[hK];exact hn f (by simp),by simp at dD;lia, ?_⟩;rw[rk hnf];refine k D Y _ _ hY VC (λg hg=>hn g (WC _ hg)) ?_ ?_ ?_
    ·simpa using gW
    ·simp at dD ⊢;lia
    ·rw[g9]
     have e:fs++(f::BK).zip (xs.drop (j'+1-1))=fs++[(f,xs[j'])]++BK.zip (xs.drop (j'+1+1-1)):=by(rw[show j'+1-1=j' from rfl,show j'+1+1-1=j'+1 from rfl,UQ HG,YL,GH];rfl)
     rw[<- e];exact qq
  ·cases h
def wCa{K:iA}{mg:bA->Option dA}{st:rB}{fa:kA}(F:ZK K y eB st fa fd)(S:rM N ps (uC st))(hb:zL ps 1 (pE st)=some ns)(hp:ps.length=ns.length+1)(gW:ns.Nodup)(dD:ns.length<1000) :
  VF Pr w K mg base YG 1 fa fd ps (Kl K ns):=by
 refine F.ok S (λvs H Q E h=>?_) λYA A outer s H vs Q E hr h=>?_
 ·obtain⟨a,Ca,dx,xs,rfl,h1,_⟩:=h;rw[YB,h1,hp]
 ·obtain⟨a,Ca,dx,xs,rfl,h1,h2,h3,q⟩:=h
  have K':∀(i:Nat) x,ps[i]?=some x->N[i]?=some x/\BR (uC st) x:=λi x hx=>by
   have hm:x∈ps:=VE hx;refine⟨?_, ?_⟩
   ·have:=S.pre
    rw[<- this,List.getElem?_take] at hx;split at hx
    ·exact hx
    ·cases hx
   ·rcases S.par x hm with z | z
    ·exact .inl z
    ·exact .inr (.inl z)
  obtain⟨t,ht,k⟩:=yg (X:=(ZJ YG Pr w K mg base N eB (uC st) fa YA A outer s H E).xQ) (xs:=xs) (a:=a) rfl K' (by lia) h3.cl (pE st) 1 ns hb (jB _)
  ·refine⟨t,ht,k _ _ H [] (λi v hv=>?_) h2 h3.no (by simpa using gW) (by simpa using dD) ?_⟩
   ·have hl:i<(V.ref a::xs).length:=(bE.mp hv).1;rw[E8 hl,iD,hv];rfl
   ·simpa using q
structure DU(K:iA)(mg:bA->Option dA)(x:bA):Prop where
 ex:True
def DU.at{K:iA}(hK:X.K=K)(e:DU K X.mg x):CU X K x:=⟨trivial⟩
structure uR(K:iA)(T:Tab)(gl:bA->GV)(f:String)(fa:kA)(fd:DH)(ps:List bA):Prop where
 bd:aAw K fd ps []
 ex:∃(y eB:bA) (st:rB) (N:List bA) (fn:Fn),ZK K y eB st fa fd/\rM N ps (uC st)/\N.Nodup/\T f=some fn/\fn.body=cT ⟨N,(uC st).names,gl,true⟩ (pE st)/\N.length=fn.aA.length+fn.nl/\ps.length=fn.aA.length
structure Entry(K:iA)(mg:bA->Option dA)(T:Tab)(gl:bA->GV)(x:bA)(f:String)(fa:kA)(fd:DH)(ps:List bA):Prop where
 mgx:mg x=some (.ref fa)
 kp:qI K (.ref fa)=true
 b:uR K T gl f fa fd ps
structure RY(K:iA)(mg:bA->Option dA)(x:bA)(ns:List bA):Prop where
 ex:∃(Ca fa:kA) (fd:DH) (ps:List bA) (y eB:bA) (st:rB) (N:List bA),ED K nC x=some (some (.ref Ca))/\mg x=some (.ref Ca)/\Mk K Ca fa/\mP K Ca ns /\
  ZK K y eB st fa fd/\rM N ps (uC st)/\zL ps 1 (pE st)=some ns/\ps.length=ns.length+1/\ns.Nodup/\ns.length<1000/\aAw K fd ps []
structure gZ(K:iA)(T:Tab)(gl:bA->GV)(c m:bA)(f:String):Prop where
 ex:∃(Ca fa:kA) (fd:DH) (ps:List bA),ED K nC c=some (some (.ref Ca))/\Meth K Ca m fa/\uR K T gl f fa fd ps/\yG K Ca
structure Wb(K:iA)(mg:bA->Option dA)(T:Tab)(gl:bA->GV)(x:bA)(f:String):Prop where
 ex:False
structure UY(pr:AU)(K:iA)(mg:bA->Option dA)(T:Tab)(gl:bA->GV):Prop where
 c:∀x d,gl x=.c d->∃u v,mg x=some u/\aAc v u/\∀G,oA K G d v
 blt:∀x,gl x=.blt->mg x=none
 fn:∀x f,gl x=.fn f->∃fa fd ps,Entry K mg T gl x f fa fd ps
 cls:∀x ns,gl x=.cls ns->RY K mg x ns
 yE:∀m tb c f,gl (dot m)=.yE tb->tb.lookup c=some f->gZ K T gl c m f
 sub:∀x s n,gl (col x)=.sub s n->HU K mg x s n
 AJ:∀x s n,gl (col x)=.AJ s n->IU K mg x s n
 exc:∀x,gl x=.exc->ExcAt K mg x
 cK:∀x,gl x=.cK->DU K mg x
 NA:∀x cs,gl (cat x)=.NA cs->vR K mg x cs
 obj:∀x f,gl x=.obj f->Wb K mg T gl x f
 fJ:(∀f cs,gl (oV f)=.fJ cs->∀c∈cs,∀Ca,ED K nC c=some (some (.ref Ca))->vI K Ca f)/\∀x ks vs,gl x=.IV ks vs->EU pr mg K x ks vs
def gX{b:Bool}{o:Option (Exc×Env)}{as uB:List Sl}{v:RV}(h:(if b=true then(match o with | some (x,U)=>(some (Out.ex x,back as U):FA RV) | none=>none) else none)=some (.ok v,uB)):False:=by
 split at h
 ·split at h<;>cases h
 ·cases h
abbrev Bs(Pr:KC)(w:WB)(K:iA)(mg:bA->Option dA)(base:TB)(T:Tab)(gl:bA->GV)(W d:Nat):Prop:=∀(f:String) (fa:kA) (fd:DH) (ps:List bA),uR K T gl f fa fd ps->VF Pr w K mg base YG (2*d+2) fa fd ps (DQ K (T.aA f).length (run T W d f))/\True
def k0a{K:iA}{mg:bA->Option dA}{eB:bA}{st:rB}{H:Hp}{E:XK}{xe:dA->zA->Prop}(g:UY w.params K mg T gl)(ih:Bs Pr w K mg base T gl W d)(nd:N.Nodup)(hr:YC (2*d+3) (ZJ YG Pr w K mg base N eB (uC st) fa YA A outer s H E).A) :
  cB { ZJ YG Pr w K mg base N eB (uC st) fa YA A outer s H E with xe:=xe } K T.aA (run T W d) ⟨N,(uC st).names,gl,true⟩:=by
 refine cB.of rfl rfl rfl nd rfl hr.hd hr.units g.c g.blt (λx' f' hx=>?_) (λx' ns hx=>?_) (λm tb c f' h1 h2=>?_) (hr.mono (by lia)) g.sub g.AJ g.fJ ⟨g.exc,λx hx=>(g.cK x hx).at rfl⟩ g.NA ⟨λx' f' hx=>?_,λx' f' hx=>?_,λm tb c f' h1 h2=>?_⟩ ⟨_,_,_,rfl,rfl,rfl⟩
 ·obtain⟨BM,XN,CO,e'⟩:=g.fn x' f' hx;exact⟨BM,XN,CO,2*d+2,(ih f' BM XN CO e'.b).1,hr.mono (by lia),e'.mgx,e'.kp,e'.b.bd⟩
 ·obtain⟨Ca,BM,XN,CO,y',p2a,xA,N',h1,h2,h3,h4,h5,h6,h7,h8,h9,Y_,Z_⟩:=(g.cls x' ns hx).ex;exact⟨Ca,BM,XN,CO,h1,h2,h3,h4,wCa h5 h6 h7 h8 h9 Y_,Z_⟩
 ·obtain⟨Ca,BM,XN,CO,h3,h4,e',JE⟩:=(g.yE m tb c f' h1 h2).ex;exact⟨Ca,BM,XN,CO,2*d+2,h3,h4,(ih f' BM XN CO e').1,hr.mono (by lia),e'.bd,JE⟩
 ·exact⟨trivial⟩
 ·exact⟨trivial⟩
 ·exact⟨trivial⟩
theorem Ge{Pr:KC}{w:WB}{K:iA}{mg:bA->Option dA}{base:TB}{T:Tab}{gl:bA->GV}(W:Nat)(g:UY w.params K mg T gl):∀(d:Nat) (f:String) (fa:kA) (fd:DH) (ps:List bA),
  uR K T gl f fa fd ps->VF Pr w K mg base YG (2*d+2) fa fd ps (DQ K (T.aA f).length (run T W d f))/\True
 | 0,f,fa,fd,ps,e=>⟨⟨λvs H Q E h=>by obtain⟨_,as,G,v,uB,_,_,z,_⟩:=h;simp[run] at z,λA outer s H args us vs Q E _ _ _ _ h=>by obtain⟨_,as,G,v,uB,_,_,z,_⟩:=h;simp[run] at z⟩,trivial⟩
 |d+1,f,fa,fd,ps,e=>by
  obtain⟨y,eB,st,N,fn,F,S,nd,hT,hb,hN,mO⟩:=e.ex;have qBa:T.aA f=fn.aA:=by unfold Tab.aA;rw[hT]
  refine⟨F.ok S (λvs H Q E h=>by rw[h.1,qBa,mO]) λYA A outer s H vs Q E hr h=>?_, ?_⟩
  ·obtain⟨hl,as,G,v,uB,wA,lJ,er,k⟩:=h
   let X:Cx:=(ZJ YG Pr w K mg base N eB (uC st) fa YA A outer s H E).xQ
   let Z:CC:=⟨N,(uC st).names,gl,true⟩
   have xo:cB X K T.aA (run T W d) Z:=k0a (E:=E) g (Ge W g d) nd hr;refine⟨_,Cw (W:=W) (X:=X) (Z:=Z) PassesOwn.never xo (λ_ _=>.inl rfl) (λ_=>⟨rfl,rfl⟩) (pE st), ?_⟩;simp only[run,hT] at er;split at er
   ·rename_i hc;rw[hb] at er;have M4:N.length=as.length+fn.nl:=by rw[hN,hc.1]
    have Wf:=wA.pad M4
    cases q:NA T.aA (run T W d) W (cT ⟨N,(uC st).names,gl,true⟩ (pE st)) (as++HB fn.nl .un) with
    |none=>rw[q] at er;exact(gX er).elim
    |some y =>
     obtain⟨fl,U'⟩:=y;rw[q] at er;refine⟨as++HB fn.nl .un,G,fl,U',Wf.1,q, ?_⟩
     induction fl using Fl.casesOn with
     |nx =>
      cases er;intro Y' H' G' a;obtain⟨b1,b2⟩:=zZ wA hc.2 M4 a;exact k .pA H' G' b1 (by show oA K G' .pA _;simp[oA])
     |rt v' =>
      cases er;intro x' Y' H' G' a hv;obtain⟨b1,b2⟩:=zZ wA hc.2 M4 a;refine k x' H' G' b1 ?_
      have key:∀c,¬AA U' Y' c->(AA (as++HB fn.nl .un) (aAj N vs) c\/H c=none)->H c=none:=λc nc mc=>by
       rcases mc with mc | mc
       ·have:=Wf.2 c mc
        obtain⟨i,d1,p1,l1,h1,h2⟩:=this;refine absurd ?_ nc
        apply b2 c
        have hp:=EE.mp hc.2 _ (VE h1);simp only[KL] at hp;subst hp
        have:=b1.bK i
        rw[h1] at this
        cases q3:(back as U')[i]? with
        |none=>rw[q3] at this;exact this.elim
        |some s =>
         rw[q3] at this
         induction s using Sl.casesOn with
         |ow d2 p2 l2=>exact⟨i,d2,p2,l2,q3,h2⟩
         |sh d2=>exact absurd (show true=false from this) (by simp)
         |un=>exact this.elim
         |mv=>exact this.elim
       ·exact mc
      induction v using RV.casesOn with
      |sh d0=>exact hv
      |ow d0 =>
       obtain⟨c,rfl,gc,oc,nc,mc⟩:=hv;exact⟨c,rfl,gc,oc,λz=>nc (b2 c z),key c nc mc⟩
      |od d0 =>
       obtain⟨c,rfl,gc,oc,nc,mc,ys,hy,hr⟩:=hv;exact⟨c,rfl,gc,oc,λz=>nc (b2 c z),key c nc mc,ys,hy,λx hx=>let ⟨b,ws,h1,h2,h3,h4,h5,h6⟩:=hr x hx;⟨b,ws,h1,h2,h3,λz=>h4 (b2 b z),key b h4 h5,h6⟩⟩
     |bk=>exact(gX er).elim
     |ct=>exact(gX er).elim
     |ex x'=>exact(gX er).elim
   ·cases er
  ·trivial
def eD(st:rB):List bA:=(NH st).args.map (·.arg)
def HL(st:rB):List bA:=eD st++(((uC st).names.filter λy=>(y.2==.local||y.2==.cell) && !(eD st).contains y.1).map (·.1))
def Kd(gl:bA->GV)(st:rB):List S:=cT ⟨HL st,(uC st).names,gl,true⟩ (pE st)
structure fZ(K:iA)(x m eB:bA)(st:rB):Prop where
 ex:∃(Ca f:kA) (oc:dA) (od an:Option kA) (kV doc pm YA ct:dA) (rF:Array (Option dA)),ED K nC x=some (some (.ref Ca))/\WG K (.ref Ca) m=some (some (.ref f))/\tU K (.ref f)=true /\
  K.lookup f=some ⟨oc,od,.func (AH m eB (NH st) (pE st) (uC st) .none kV doc pm an YA ct),rF⟩/\cP K YA eB=true/\qI K (.ref f)=true
def jG{K:iA}{st:rB}{kV doc pm YA ct:dA}(a:ED K nC x=some (some (.ref Ca)))(b:WG K (.ref Ca) m=some (some (.ref f)))(i:tU K (.ref f)=true)
  (l:K.lookup f=some ⟨oc,od,.func (AH m eB (NH st) (pE st) (uC st) .none kV doc pm an YA ct),rF⟩) (c:cP K YA eB=true) (k:qI K (.ref f)=true):fZ K x m eB st :=
 ⟨Ca,f,oc,od,an,kV,doc,pm,YA,ct,rF,a,b,i,l,c,k⟩
structure ClsAt(K:iA)(x:bA):Prop where
 ex:∃Ca:kA,ED K nC x=some (some (.ref Ca))/\yG K Ca/\lY K Ca=true/\qI K (.ref Ca)=true
def QN{K:iA}(a:ED K nC x=some (some (.ref Ca)))(pg:ZQ K Ca Str.empty=true)(hd:dU K Ca=true)(po:aa K Ca=true)
  (sa:WG K (.ref Ca) "__setattr__"=some (some (.builtin "object.__setattr__"))) (mk:lY K Ca=true) (kp:qI K (.ref Ca)=true):ClsAt K x:=⟨Ca,a,⟨pg,hd,po,sa⟩,mk,kp⟩
def Vb(K:iA)(x f:bA):Prop:=∃Ca:kA,ED K nC x=some (some (.ref Ca))/\WG K (.ref Ca) f=some none
def yO{K:iA}(a:ED K nC x=some (some (.ref Ca)))(b:WG K (.ref Ca) f=some none):Vb K x f:=⟨Ca,a,b⟩
structure sR(K:iA)(x:bA)(st:rB):Prop where
 ex:∃(f:kA) (oc:dA) (od an:Option kA) (kV doc pm YA ct:dA) (rF:Array (Option dA)),ED K nC x=some (some (.ref f)) /\
  K.lookup f=some ⟨oc,od,.func (AH x x (NH st) (pE st) (uC st) .none kV doc pm an YA ct),rF⟩/\cP K YA x=true/\qI K (.ref f)=true
def Qd{K:iA}{st:rB}{kV doc pm YA ct:dA}(a:ED K nC x=some (some (.ref f)))
  (l:K.lookup f=some ⟨oc,od,.func (AH x x (NH st) (pE st) (uC st) .none kV doc pm an YA ct),rF⟩) (c:cP K YA x=true) (k:qI K (.ref f)=true):sR K x st :=
 ⟨f,oc,od,an,kV,doc,pm,YA,ct,rF,a,l,c,k⟩
structure JH(gl:bA->GV)(st:rB)(x eB:bA)(fn:Fn):Prop where
 sc:rM (HL st) (eD st) (uC st)
 body:fn.body=Kd gl st
 len:(HL st).length=fn.aA.length+fn.nl
 pl:(eD st).length=fn.aA.length
 bind:∀(kV doc pm:dA) (an:Option kA) (YA ct:dA) (us:List dA),us.length=(eD st).length->bindArgs (AH x eB (NH st) (pE st) (uC st) .none kV doc pm an YA ct) ⟨us,[]⟩=pure ((eD st).zip us)
abbrev tR(gl:bA->GV)(st:rB)(x:bA)(fn:Fn):Prop:=JH gl st x x fn
def A1{K:iA}{st:rB}(F:ZK K x eB st fa fd)(O:JH gl st x eB fn)(hT:T f=some fn):uR K T gl f fa fd (eD st) :=
 ⟨F.binds O.bind,x,eB,st,HL st,fn,F,O.sc,O.sc.nd,hT,O.body,O.len,O.pl⟩
def GL{K:iA}{st:rB}(A:ClsAt K x)(D:fZ K x m eB st)(O:JH gl st m eB fn)(hT:T f=some fn):gZ K T gl x m f:=by
 obtain⟨Ca,fa,oc,od,an,kV,doc,pm,YA,ct,rF,a,b,i,l,c,k⟩:=D.ex;obtain⟨Cb,a',cl,_,_⟩:=A.ex;rw[a] at a';cases a';exact⟨Ca,fa,_,eD st,a,⟨b,i,k⟩,A1 (HV l c k) O hT,cl⟩
structure bL(st:rB)(eB:bA)(ns:List bA):Prop where
 sc:rM (HL st) (eD st) (uC st)
 body:zL (eD st) 1 (pE st)=some ns
 pl:(eD st).length=ns.length+1
 nd:ns.Nodup
 lt:ns.length<1000
 bind:∀(kV doc pm:dA) (an:Option kA) (YA ct:dA) (us:List dA),us.length=(eD st).length->bindArgs (AH "__init__" eB (NH st) (pE st) (uC st) .none kV doc pm an YA ct) ⟨us,[]⟩=pure ((eD st).zip us)
def RN{K:iA}{st:rB}(X:K.In h)(G:h.Ns nC mg)(A:ClsAt K x)(D:fZ K x "__init__" eB st)(O:bL st eB ns)(N:∀f∈ns,Vb K x f):RY K mg x ns:=by
 obtain⟨Ca,a,cl,mk,kp⟩:=A.ex;obtain⟨Cb,fa,oc,od,an,kV,doc,pm,YA,ct,rF,a',b,i,l,c,k⟩:=D.ex;rw[a] at a';cases a';have F:=HV l c k;refine⟨Ca,fa,_,eD st,"__init__",eB,st,HL st,a,pU X G a,⟨mk,b,i,kp⟩,⟨cl,λf hf=>?_⟩,F,O.sc,O.body,O.pl,O.nd,O.lt,F.binds O.bind⟩;obtain⟨Cc,a2,b2⟩:=N f hf;rw[a] at a2;cases a2;exact b2
def By{K:iA}{st:rB}(X:K.In h)(G:h.Ns nC mg)(D:sR K x st)(O:tR gl st x fn)(hT:T f=some fn):∃fa fd ps,Entry K mg T gl x f fa fd ps:=by
 obtain⟨fa,oc,od,an,kV,doc,pm,YA,ct,rF,a,l,c,k⟩:=D.ex;have F:=HV l c k;exact⟨fa,_,eD st,pU X G a,k,A1 F O hT⟩
noncomputable def YE(L:List (bA×GV))(x:bA):GV:=(L.lookup x).getD .no
theorem aAo[BEq O][LawfulBEq O]:∀{L:List (O×N)} {x:O} {v:N},L.lookup x=some v->(x,v)∈L
 |[],_,_,h=>by simp at h
 | (y,w)::L,x,v,h=>by
  rw[pI] at h;split at h
  ·rename_i hb;cases h;rw[XC hb];exact YD
  ·exact WC _ (aAo h)
def RH(h:YE L x=v)(n:v≠.no):(x,v)∈L:=by
 unfold YE at h
 cases q:L.lookup x with
 |none=>rw[q] at h;exact absurd h.symm n
 |some w =>
  rw[q] at h;cases h;exact aAo q
def aL(pr:AU)(K:iA)(mg:bA->Option dA)(T:Tab)(gl:bA->GV):bA×GV->Prop
 | (x,.cls ns)=>RY K mg x ns
 | (x,.yE tb)=>∃m,x=dot m/\∀p∈tb,gZ K T gl p.1 m p.2
 | (x,.c d)=>∃u v,mg x=some u/\aAc v u/\∀G,oA K G d v
 | (x,.blt)=>mg x=none
 | (x,.fn f)=>∃fa fd ps,Entry K mg T gl x f fa fd ps
 | (x,.sub s n)=>∃m,x=col m/\HU K mg m s n
 | (x,.AJ s n)=>∃m,x=col m/\IU K mg m s n
 | (x,.exc)=>ExcAt K mg x
 | (x,.cK)=>DU K mg x
 | (x,.NA cs)=>∃m,x=cat m/\vR K mg m cs
 | (x,.obj f)=>Wb K mg T gl x f
 | (x,.IV ks vs)=>EU pr mg K x ks vs
 | (x,.fJ cs)=>∃m,x=oV m/\∀c∈cs,∀Ca,ED K nC c=some (some (.ref Ca))->vI K Ca m
 | (_,.no)=>True
def T7{x y:bA}(h:(⟨p++x.cps⟩:bA)=⟨p++y.cps⟩):x=y:=by
 have e6:=congrArg sU (congrArg Str.cps h);simp only[XX] at e6;have e5:=Aa.mp (K9 e6);cases x;cases y;simp only at e5;rw[e5]
def U_{K:iA}(h:∀p∈L,aL pr K mg T (YE L) p):UY pr K mg T (YE L) :=
 ⟨λx d e=>h _ (RH e (λz=>nomatch z)),λx e=>h _ (RH e (λz=>nomatch z)),λx f e=>h _ (RH e (λz=>nomatch z)),λx ns e=>h _ (RH e (λz=>nomatch z)),λm tb c f e e2=>by
  obtain⟨m',e3,k⟩:=h _ (RH e (λz=>nomatch z))
  have:m'=m:=by
   unfold dot at e3;have e4:(#[46]++m.cps:Array Nat)=#[46]++m'.cps:=congrArg Str.cps e3
   have e5:m.cps=m'.cps:=by(have e6:=congrArg sU e4;rw[XX,XX] at e6;exact Aa.mp (K9 e6))
   cases m;cases m';simp only at e5;rw[e5]
  subst this;exact k _ (aAo e2),λx s n e=>by
  obtain⟨m',e3,k⟩:=h _ (RH e (λz=>nomatch z))
  have:m'=x:=by
   unfold col at e3
   have e5:x.cps=m'.cps:=by(have e6:=congrArg sU (congrArg Str.cps e3);simp only[XX] at e6;exact Aa.mp (K9 e6))
   cases x;cases m';simp only at e5;rw[e5]
  subst this;exact k,λx s n e=>by
  obtain⟨m',e3,k⟩:=h _ (RH e (λz=>nomatch z));rw[T7 e3];exact k,λx e=>h _ (RH e (λz=>nomatch z)),λx e=>h _ (RH e (λz=>nomatch z)),λx cs e=>by
  obtain⟨m',e3,k⟩:=h _ (RH e (λz=>nomatch z));rw[T7 e3]
  exact k,λx f e=>h _ (RH e (λz=>nomatch z)),⟨λf cs e=>by
  obtain⟨m',e3,k⟩:=h _ (RH e (λz=>nomatch z));rw[T7 e3]
  exact k,λx ks vs e=>h _ (RH e (λz=>nomatch z))⟩⟩
def Ed{K:iA}(X:K.In h)(G:h.Ns nC mg)(a:ED K nC x=some (some (.int i t))):aL pr K mg T gl (x,.c (.int i)) :=
 ⟨_,.int i,pU X G a,⟨t,rfl⟩,λG=>by simp[oA]⟩
def Sv{K:iA}(X:K.In h)(G:h.Ns nC mg)(a:ED K nC x=some none):aL pr K mg T gl (x,.blt):=PySem.W.mg_none_of X G a
def iHa{l:wU}{q:KC}{K:AU->iA}{T:Tab}{L:List (bA×GV)}{st:rB}{fn:Fn}
  (hn:l.most=some 63) (nS:d.params.defaults=[]) (hr:YC (2*n+2) callerA) (hx:d.name=x) (hT:T f=some fn) (O:tR (YE L) st x fn) (hp:eD st=[p])
  (hY:∀(w:WB) (h:TB),YP w h->(K w.params).In h)
  (F:∀(w:WB) (mg:bA->Option dA) (h:TB),(K w.params).In h->h.Ns nC mg->sR (K w.params) x st/\∀p∈L,aL w.params (K w.params) mg T (YE L) p)
  (M:∀ns:List Int,ns.length<=63->∃uB,run T W n f [.sh (.l (ns.map .int))]=some (.ok (.sh (.bl true)),uB)) :
  xb q loose XP YP l.row.toRowW d [] (λf vs=>Gb f vs):=by
 refine L2.iZa (n:=63) (k:=2*n+2) (x:=p) (CX:=λ_=>YG) (sp:=λw=>DQ (K w.params) 1 (run T W n f)) hn (by decide) nS hr hY (λw mg fa h KX G fQ=>?_) (λw H a ns hl hO hS=>?_) λ_ _ _ _ _ z=>z
 ·obtain⟨D,hG⟩:=F w mg h KX G;have g:=U_ hG;obtain⟨BM,oc,od,an,kV,doc,pm,YA,ct,rF,a,lk,c,k⟩:=D.ex;have hm:=pU KX G a;rw[hx,hm] at fQ;cases fQ;have Fu:=HV lk c k;have E:Entry (K w.params) mg T (YE L) x f fa _ (eD st):=⟨hm,k,A1 Fu O hT⟩
  have rBa:(T.aA f).length=1:=by(unfold Tab.aA;rw[hT];show fn.aA.length=1;rw[<- O.pl,hp];rfl)
  refine⟨AH x x (NH st) (pE st) (uC st) .none kV doc pm an YA ct,λs u=>?_,λbase kb nb=>?_⟩
  rotate_left
  ·have:=(Ge (Pr:=l.prog) (w:=w) (base:=base) W g n f fa _ (eD st) E.b).1
   rw[rBa] at this;rw[hp] at this;exact this
  ·have:=O.bind kV doc pm an YA ct [u] (by rw[hp];rfl)
   rw[hp] at this;exact .of_eq this
 ·obtain⟨uB,e⟩:=M ns hl
  have hr1:jA (K w.params) H (ns.map .int) (ns.map V.int):=by
   induction ns with
   |nil=>exact jA.nil
   |cons i r ih=>exact jA.cons (by simp[oA]) (by
     clear e hS hl ih
     induction r with
     |nil=>exact jA.nil
     |cons i r ih=>exact jA.cons (by simp[oA]) ih)
  refine⟨rfl,[.sh (.l (ns.map .int))],H,.sh (.bl true),uB,IA.SR (IA.nil (XA.refl _)) ?_,rfl,e,λx H' G' _ hv=>DT (K:=K w.params) (G:=G') hv⟩;simp only[oA];exact⟨a,_,rfl,hS,hr1⟩
end CI
namespace CI
open PySem (Operator CmpOp)
noncomputable section
variable{U U1 U2:Env}
theorem V_:jJ (some U)=some (.nx,U):=rfl
noncomputable def bR(f:O->Env->FA N)(r:FA O):FA N:=r.bind f
theorem Xu:r.bind f=bR f r:=rfl
theorem Yu:bR f (some (.ok a,U))=f a U:=rfl
noncomputable def fR(f:O->Env->Run)(r:FA O):Run:=r.GC f
theorem Vz:r.GC f=fR f r:=rfl
theorem Wz:fR f (some (.ok a,U))=f a U:=rfl
noncomputable def nR(f:Env->Run)(r:Run):Run:=r.next f
theorem nR_:r.next f=nR f r:=rfl
theorem bKa:nR f (some (.nx,U))=f U:=rfl
theorem cKa:nR f (some (.rt v,U))=some (.rt v,U):=rfl
noncomputable def dR(U:Env)(o:Option RV):FA RV:=done o U
theorem Lx:done o U=dR U o:=rfl
theorem Nx:dR U (some v)=some (.ok v,U):=rfl
theorem Rx:(RV.sh d).d=d:=rfl
theorem Qx:(RV.ow d).d=d:=rfl
theorem E_:(Sl.sh d).get=some d:=rfl
theorem D_:(Sl.ow d p l).get=some d:=rfl
theorem nAa:(Hd.val v).get U=some v.d:=rfl
theorem mAa:(Hd.slot i).get U=(U[i]?).bind Sl.get:=rfl
noncomputable def Q6(U:Env)(o:Option Bool):FA RV:=o.map λb=>(.ok (.sh (.bl b)),U)
theorem iGa:Q6 U (some b)=some (.ok (.sh (.bl b)),U):=rfl
theorem zZa:aAg false r=r:=rfl
theorem a0a:aAg true (some (.ok v,U))=Q6 U (DJ v.d):=rfl
def wW(i:Nat)(U:Env):Option Sl->FA RV
 |some (.sh d)=>some (.ok (.sh d),U)
 |some (.ow d false false)=>some (.ok (.sh d),U.set i (.sh d))
 |_=>none
theorem eFa:wW i U (some (.sh d))=some (.ok (.sh d),U):=rfl
theorem dFa:wW i U (some (.ow d false false))=some (.ok (.sh d),U.set i (.sh d)):=rfl
def Dh(U:Env)(o:Option D):FA RV:=aAg true (o.map λd=>(.ok (.sh d),U))
theorem dGa:Dh U (some d)=Q6 U (DJ d):=rfl
theorem Hz:ev P C false (.v i) U=wW i U U[i]?:=rfl
theorem Iz:ev P C true (.v i) U=Dh U ((U[i]?).bind Sl.get):=rfl
theorem jz:ev P C t (.c d) U=aAg t (some (.ok (.sh d),U)):=rfl
noncomputable def zW(b:Bool)(v:RV)(U:Env):FA RV:=if b then some (.ok v,U) else none
theorem hGa:zW true v U=some (.ok v,U):=rfl
def PF(h:n<=1000000):iB n=true:=@kB _ (cl _) h
theorem vVa:iB 0=true:=PF (by decide)
theorem wVa:iB 1=true:=PF (by decide)
theorem xVa:iB 2=true:=PF (by decide)
theorem yVa:iB 3=true:=PF (by decide)
theorem zVa:iB 4=true:=PF (by decide)
theorem aWa:iB 5=true:=PF (by decide)
def Qh(ds:List D)(U:Env):FA RV:=zW (iB ds.length) (.sh (.t ds)) U
def rh(ds:List D)(U:Env):FA RV:=zW (iB ds.length) (.ow (.l ds)) U
theorem Gz:ev P C t (.t es) U=aAg t ((iH P C es U).bind Qh):=rfl
theorem qz:ev P C t (.l es) U=aAg t ((iH P C es U).bind rh):=rfl
theorem Lz:iH P C [] U=some (.ok [],U):=rfl
noncomputable def Zg(v:RV)(ds:List D)(U:Env):FA (List D):=some (.ok (v.d::ds),U)
def Yg(P:oB)(C:Calls)(es:List E)(v:RV)(U:Env):FA (List D):=(iH P C es U).bind (Zg v)
theorem Kz:iH P C (e::es) U=(ev P C false e U).bind (Yg P C es):=rfl
theorem Xy:qD P C [] U=some (.ok [],U):=rfl
noncomputable def kh(v:Hd)(ds:List Hd)(U:Env):FA (List Hd):=some (.ok (v::ds),U)
def jh(P:oB)(C:Calls)(es:List E)(v:Hd)(U:Env):FA (List Hd):=(qD P C es U).bind (kh v)
def HC(P:oB)(C:Calls)(e:E)(U:Env):FA Hd:=hd e (ev P C false e U) U
noncomputable def pF(v:RV)(U:Env):FA Hd:=some (.ok (.val v.low),U)
theorem lGa:pF (.sh d) U=some (.ok (.val (.sh d)),U):=rfl
theorem kGa:pF (.ow d) U=some (.ok (.val (.ow d)),U):=rfl
def Mh(i:Nat)(U:Env)(b:Bool):FA Hd:=if b then some (.ok (.slot i),U) else none
theorem gGa:Mh i U true=some (.ok (.slot i),U):=rfl
theorem jOa:HC P C (.v i) U=Mh i U ((U[i]?).bind Sl.get).isSome:=rfl
theorem zNa:HC P C (.c d) U=some (.ok (.val (.sh d)),U):=rfl
theorem iOa:HC P C (.t es) U=(ev P C false (.t es) U).bind pF:=rfl
theorem eOa:HC P C (.l es) U=(ev P C false (.l es) U).bind pF:=rfl
theorem uNa:HC P C (.qA op a b) U=(ev P C false (.qA op a b) U).bind pF:=rfl
theorem wNa:HC P C (.uA op a b) U=(ev P C false (.uA op a b) U).bind pF:=rfl
theorem xNa:HC P C (.aG op xC a b c) U=(ev P C false (.aG op xC a b c) U).bind pF:=rfl
theorem sNa:HC P C (.and a b) U=(ev P C false (.and a b) U).bind pF:=rfl
theorem dOa:HC P C (.ix a b) U=(ev P C false (.ix a b) U).bind pF:=rfl
theorem hOa:HC P C (.sl a b c) U=(ev P C false (.sl a b c) U).bind pF:=rfl
theorem vNa:HC P C (.call f es) U=(ev P C false (.call f es) U).bind pF:=rfl
theorem tNa:HC P C (.bif f es) U=(ev P C false (.bif f es) U).bind pF:=rfl
theorem cOa:HC P C (.JI a ts) U=(ev P C false (.JI a ts) U).bind pF:=rfl
theorem yNa{cA cond:List E}:HC P C (.comp QA tg k cA cond imp nl) U=(ev P C false (.comp QA tg k cA cond imp nl) U).bind pF:=rfl
theorem Wy:qD P C (e::es) U=(HC P C e U).bind (jh P C es):=rfl
def CG(op:DN)(x:Hd)(a b:Option D):Option RV:=a.bind λd=>b.bind λe=>if uQ op x d then bC op d e else none
def Rg(op:DN)(x y:Hd)(U:Env):FA RV:=done (CG op x (x.get U) (y.get U)) U
def Qg(P:oB)(C:Calls)(op:DN)(b:E)(x:Hd)(U:Env):FA RV:=(HC P C b U).bind (Rg op x)
theorem cz:ev P C t (.qA op a b) U=aAg t ((HC P C a U).bind (Qg P C op b)):=rfl
theorem Ov:CG op x (some (.t ds)) (some e)=bC op (.t ds) e:=by
 unfold CG uQ;cases op<;>rfl
theorem Mv:CG .Add x (some (.l ds)) (some e)=bC .Add (.l ds) e:=rfl
theorem Nv:CG .Mult (.val (.ow d)) (some (.l ds)) (some e)=bC .Mult (.l ds) e:=rfl
theorem Vv:CG .Add x (some (.int i)) (some (.int j))=some (.sh (.int (i+j))):=rfl
theorem cw:CG .Sub x (some (.int i)) (some (.int j))=some (.sh (.int (i-j))):=rfl
theorem aw:CG .Mult x (some (.int i)) (some e)=bC .Mult (.int i) e:=rfl
theorem Xv:CG .FloorDiv x (some (.int i)) (some e)=bC .FloorDiv (.int i) e:=rfl
theorem Zv:CG .Mod x (some (.int i)) (some e)=bC .Mod (.int i) e:=rfl
theorem Yv:CG .LShift x (some (.int i)) (some e)=bC .LShift (.int i) e:=rfl
theorem bw:CG .RShift x (some (.int i)) (some e)=bC .RShift (.int i) e:=rfl
theorem Wv:CG .BitAnd x (some (.int i)) (some e)=bC .BitAnd (.int i) e:=rfl
def xc(h:(-(2 ^ 64)<i/\i<2 ^ 64)\/(-(2 ^ 64)<j/\j<2 ^ 64)):bC .Mult (.int i) (.int j)=some (.sh (.int (i*j))):=KA h
theorem nv(h1:-18446744073709551616<j)(h2:j<18446744073709551616):bC .Mult (.int i) (.int j)=some (.sh (.int (i*j))):=xc (.inr ⟨h1,h2⟩)
theorem jv(h1:-18446744073709551616<i)(h2:i<18446744073709551616):bC .Mult (.int i) (.int j)=some (.sh (.int (i*j))):=xc (.inl ⟨h1,h2⟩)
theorem fv(h:0<j/\j<100000000000000000000000000000000000000000000000000000000000000000000000000000000):bC .FloorDiv (.int i) (.int j)=some (.sh (.int (i / j))):=KA h
theorem gv(h:0<j):bC .Mod (.int i) (.int j)=some (.sh (.int (i % j))):=KA h
theorem qv(h:0<=j)(h2:j<=1000):bC .LShift (.int 1) (.int j)=some (.sh (.int (2 ^ j.toNat))):=by
 show @ite _ _ (cl _) _ _=_;rw[KA ⟨h,h2,by decide⟩,Int.one_mul]
theorem sv(h:0<=j):bC .RShift (.int i) (.int j)=some (.sh (.int (i / 2 ^ j.toNat))):=KA h
theorem Zu:bC .BitAnd (.int i) (.int j)=some (.sh (.int (gU i j))):=rfl
theorem tM(h:iB (xs.length+ys.length)=true):bC .Add (.l xs) (.l ys)=some (.ow (.l (xs++ys))):=KA h
def GR(h1:-(2 ^ 31)<=k)(h2:k<=1000)(h3:iB (xs.length*k.toNat)=true):bC .Mult (.l xs) (.int k)=some (.ow (.l (HB k.toNat xs).flatten)):=KA ⟨h1,h2,h3⟩
theorem dv(h:iB (xs.length+1+ys.length)=true):bC .Add (.t (x::xs)) (.t ys)=some (.sh (.t (x::xs++ys))):=KA h
def vh(v:RV)(U:Env):FA RV:=match v.d with
 |.int i=>some (.ok (.sh (.int (-i))),U)
 |_=>none
theorem yFa:vh (.sh (.int i)) U=some (.ok (.sh (.int (-i))),U):=rfl
theorem wz:ev P C t (.neg a) U=aAg t ((ev P C false a U).bind vh):=rfl
noncomputable def yh(v:RV)(U:Env):FA RV:=match v with
 |.sh (.bl b)=>some (.ok (.sh (.bl (!b))),U)
 |_=>none
theorem zFa:yh (.sh (.bl b)) U=some (.ok (.sh (.bl (!b))),U):=rfl
theorem zz:ev P C true (.not a) U=(ev P C true a U).bind yh:=rfl
def ej(o:Option D):Option RV:=o.bind λd=>(DJ d).map λb=>.sh (.bl (!b))
def xh(x:Hd)(U:Env):FA RV:=done (ej (x.get U)) U
theorem sKa:ej (some (.bl b))=some (.sh (.bl (!b))):=rfl
theorem yz:ev P C false (.not a) U=(HC P C a U).bind xh:=rfl
def WZ(op:RG)(a b:Option D):Option RV:=a.bind λd=>b.bind λe=>(PB op d e).map λb=>.sh (.bl b)
theorem zx:WZ op (some d) (some e)=(PB op d e).map λb=>.sh (.bl b):=rfl
def yd(op:RG)(a b:Option D):Option Bool:=a.bind λd=>b.bind λe=>PB op d e
theorem yx:yd op (some d) (some e)=PB op d e:=rfl
def Xg(op:RG)(x y:Hd)(U:Env):FA RV:=done (WZ op (x.get U) (y.get U)) U
def Wg(P:oB)(C:Calls)(op:RG)(b:E)(x:Hd)(U:Env):FA RV:=(HC P C b U).bind (Xg op x)
theorem fz:ev P C t (.uA op a b) U=(HC P C a U).bind (Wg P C op b):=rfl
def vW(op:RG)(y z:Hd)(U:Env):FA RV:=done (WZ op (y.get U) (z.get U)) U
def uW(P:oB)(C:Calls)(xC:RG)(y:Hd)(c:E)(U:Env):Option Bool->FA RV
 |none=>none
 |some false=>some (.ok (.sh (.bl false)),U)
 |some true=>(HC P C c U).bind (vW xC y)
theorem yEa:uW P C xC y c U (some false)=some (.ok (.sh (.bl false)),U):=rfl
theorem zEa:uW P C xC y c U (some true)=(HC P C c U).bind (vW xC y):=rfl
theorem xEa:uW P C xC y c U (some b)=if b=true then(HC P C c U).bind (vW xC y) else some (.ok (.sh (.bl false)),U):=by cases b<;>rfl
def Tg(P:oB)(C:Calls)(op xC:RG)(c:E)(x y:Hd)(U:Env):FA RV:=uW P C xC y c U (yd op (x.get U) (y.get U))
def Sg(P:oB)(C:Calls)(op xC:RG)(b c:E)(x:Hd)(U:Env):FA RV:=(HC P C b U).bind (Tg P C op xC c x)
theorem gz:ev P C t (.aG op xC a b c) U=(HC P C a U).bind (Sg P C op xC b c):=rfl
theorem Qw:PB .Lt (.int i) (.int j)=some (decide (i<j)):=rfl
theorem Pw:PB .LtE (.int i) (.int j)=some (decide (i<=j)):=rfl
theorem Kw:PB .Gt (.int i) (.int j)=some (decide (j<i)):=rfl
theorem Jw:PB .GtE (.int i) (.int j)=some (decide (j<=i)):=rfl
theorem Hw:PB .Eq (.int i) (.int j)=some (decide (i=j)):=rfl
theorem Sw:PB .NotEq (.int i) (.int j)=some (!decide (i=j)):=rfl
def Dw(h1:sC 20 d=true)(h2:sC 20 e=true):PB .Eq d e=some (JF d e):=by
 show(if(sC 20 d&&sC 20 e)=true then some (JF d e) else YR d e)=_;rw[h1,h2];rfl
def Wc(h1:sC 20 d=true)(h2:sC 20 e=true):PB .NotEq d e=some (!JF d e):=by
 show(if(sC 20 d&&sC 20 e)=true then some (!JF d e) else none)=_;rw[h1,h2];rfl
theorem Iw:PB .Eq (.str a) (.str b)=some (a==b):=rfl
theorem Ow:PB .Is .pA .pA=some true:=rfl
theorem Nw:PB .Is (.int i) .pA=some false:=rfl
theorem Uw:PB .IsNot .pA .pA=some false:=rfl
theorem Tw:PB .IsNot (.int i) .pA=some true:=rfl
theorem bYa:DJ (.bl b)=some b:=rfl
def B6(P:oB)(C:Calls)(t:Bool)(b:E)(v:RV)(U:Env):FA RV:=match v with
 |.sh (.bl true)=>ev P C t b U
 |.sh (.bl false)=>some (.ok (.sh (.bl false)),U)
 |_=>none
def O6(P:oB)(C:Calls)(t:Bool)(b:E)(v:RV)(U:Env):FA RV:=match v with
 |.sh (.bl true)=>some (.ok (.sh (.bl true)),U)
 |.sh (.bl false)=>ev P C t b U
 |_=>none
def oh(P:oB)(C:Calls)(t:Bool)(a b:E)(v:RV)(U:Env):FA RV:=match v with
 |.sh (.bl true)=>ev P C t a U
 |.sh (.bl false)=>ev P C t b U
 |_=>none
theorem Zy:ev P C t (.and a b) U=(ev P C t a U).bind (B6 P C t b):=rfl
theorem Bz:ev P C t (.or a b) U=(ev P C t a U).bind (O6 P C t b):=rfl
theorem vEa:B6 P C t b (.sh (.bl true)) U=ev P C t b U:=rfl
theorem uEa:B6 P C t b (.sh (.bl false)) U=some (.ok (.sh (.bl false)),U):=rfl
theorem bGa:O6 P C t b (.sh (.bl true)) U=some (.ok (.sh (.bl true)),U):=rfl
theorem aGa:O6 P C t b (.sh (.bl false)) U=ev P C t b U:=rfl
theorem oFa:oh P C t a b (.sh (.bl true)) U=ev P C t a U:=rfl
theorem nFa:oh P C t a b (.sh (.bl false)) U=ev P C t b U:=rfl
def PD(a:Option D)(k:D):Option RV:=a.bind λd=>(XS d k).map .sh
def qh(x:Hd)(k:RV)(U:Env):FA RV:=done (PD (x.get U) k.d) U
def ph(P:oB)(C:Calls)(i:E)(x:Hd)(U:Env):FA RV:=(ev P C false i U).bind (qh x)
theorem oz:ev P C t (.ix a i) U=aAg t ((HC P C a U).bind (ph P C i)):=rfl
def A6(h:L2.qC ds i=some d):PD (some (.l ds)) (.int i)=some (.sh d):=by
 show(L2.qC ds i).map RV.sh=_;rw[h];rfl
theorem gEa:PD (some (.t ds)) (.int i)=(L2.qC ds i).map RV.sh:=rfl
theorem fEa:PD (some (.l ds)) (.int i)=(L2.qC ds i).map RV.sh:=rfl
def FR:L2.qC xs (OfNat.ofNat n)=xs[n]?:=by
 show L2.qC xs ((n:Nat):Int)=_
 cases h:xs[n]? with
 |some v=>exact L2.XJ h
 |none =>
  unfold L2.qC L2.eG
  have:=List.getElem?_eq_none_iff.mp h
  rw[KA (by lia),if_neg (by lia)];rfl
theorem Qu:L2.qC xs 0=xs[0]?:=FR (n:=0)
theorem Ru:L2.qC xs 1=xs[1]?:=FR (n:=1)
theorem Su:L2.qC xs 2=xs[2]?:=FR (n:=2)
theorem Tu:L2.qC xs 3=xs[3]?:=FR (n:=3)
theorem Uu:L2.qC xs 4=xs[4]?:=FR (n:=4)
def zJ(a l h:Option D):Option RV:=a.bind λd=>(cN l).bind λl=>(cN h).bind λh=>lX d l h
def Lh(x:Hd)(l h:Option D)(U:Env):FA RV:=done (zJ (x.get U) l h) U
def dN(P:oB)(C:Calls)(e:E)(U:Env):FA (Option D):=aAK e (ev P C false e U) U
def Kh(P:oB)(C:Calls)(hi:E)(x:Hd)(l:Option D)(U:Env):FA RV:=(dN P C hi U).bind (Lh x l)
def Ih(P:oB)(C:Calls)(lo hi:E)(x:Hd)(U:Env):FA RV:=(dN P C lo U).bind (Kh P C hi x)
theorem zQa:dN P C .UD U=some (.ok none,U):=rfl
noncomputable def aT(v:RV)(U:Env):FA (Option D):=some (.ok (some v.d),U)
theorem xQa:dN P C (.c d) U=some (.ok (some d),U):=rfl
theorem aRa:dN P C (.v i) U=(ev P C false (.v i) U).bind aT:=rfl
theorem wQa:dN P C (.qA op a b) U=(ev P C false (.qA op a b) U).bind aT:=rfl
theorem vQa:dN P C (.bif f es) U=(ev P C false (.bif f es) U).bind aT:=rfl
theorem Fz:ev P C t (.sl a lo hi) U=aAg t ((HC P C a U).bind (Ih P C lo hi)):=rfl
def C6(P:oB)(C:Calls)(f:String)(hs:List Hd)(U:Env):FA RV:=IF (P f) (C f) hs U
theorem dz:ev P C t (.call f es) U=aAg t ((qD P C es U).bind (C6 P C f)):=rfl
def D6(aA:List Bool)(hs:List Hd)(U U1:Env):FA RV->FA RV
 |none=>none
 |some (o,uB)=>(aAf aA hs uB U U1).map λU'=>(o,U')
def Ug(aA:List Bool)(f:List Sl->FA RV)(hs:List Hd)(U:Env):Option (List Sl×Env)->FA RV
 |none=>none
 |some (as,U1)=>D6 aA hs U U1 (f as)
theorem ay:IF aA f hs U=Ug aA f hs U (aAh aA hs U):=rfl
theorem aFa:Ug aA f hs U (some (as,U1))=D6 aA hs U U1 (f as):=rfl
noncomputable def Vg(o:Out RV)(x:Option Env):FA RV:=x.map λU'=>(o,U')
theorem cFa:Vg o (some U)=some (o,U):=rfl
theorem bFa:D6 aA hs U U1 (some (o,uB))=Vg o (aAf aA hs uB U U1):=rfl
noncomputable def yK(a:Sl)(o:Option (List Sl×Env)):Option (List Sl×Env):=o.map λ(as,U')=>(a::as,U')
theorem pFa:yK a (some (as,U))=some (a::as,U):=rfl
theorem kHa:aAh [] [] U=some ([],U):=rfl
theorem nHa:aAh (p::ps) (.val (.sh d)::r) U=yK (.sh d) (aAh ps r U):=rfl
theorem mHa:aAh (true::ps) (.val (.ow d)::r) U=yK (.ow d true false) (aAh ps r U):=rfl
theorem lHa:aAh (false::ps) (.val (.ow d)::r) U=yK (.sh d) (aAh ps r U):=rfl
def xW(p:Bool)(ps:List Bool)(i:Nat)(r:List Hd)(U:Env):Option Sl->Option (List Sl×Env)
 |some (.sh d)=>yK (.sh d) (aAh ps r U)
 |some (.ow d pin lk)=>match p with
  |true=>yK (.ow d true lk) (aAh ps r (U.set i .un))
  |false=>if pin||lk then none else yK (.sh d) (aAh ps r (U.set i (.sh d)))
 |_=>none
theorem oHa:aAh (p::ps) (.slot i::r) U=xW p ps i r U U[i]?:=rfl
theorem sFa:xW p ps i r U (some (.sh d))=yK (.sh d) (aAh ps r U):=rfl
theorem rFa:xW true ps i r U (some (.ow d pin lk))=yK (.ow d true lk) (aAh ps r (U.set i .un)):=rfl
theorem qFa:xW false ps i r U (some (.ow d false false))=yK (.sh d) (aAh ps r (U.set i (.sh d))):=rfl
theorem K_:aAf [] [] [] U0 U=some U:=rfl
theorem I_:aAf (false::ps) (.slot i::hs) (a::as) U0 U=aAf ps hs as U0 U:=rfl
theorem J_:aAf (false::ps) (.val v::hs) (a::as) U0 U=aAf ps hs as U0 U:=rfl
theorem M_:aAf (true::ps) (.val v::hs) (a::as) U0 U=aAf ps hs as U0 U:=rfl
def G6(ps:List Bool)(i:Nat)(hs:List Hd)(a:Sl)(as:List Sl)(U0 U:Env)(o:Option Sl):Option Env :=
  match o,a with
  |some (.ow _ pin lk),.ow d _ _=>aAf ps hs as U0 (U.set i (.ow d pin lk))
  |some (.ow _ _ _),_=>none
  |_,_=>aAf ps hs as U0 U
theorem L_:aAf (true::ps) (.slot i::hs) (a::as) U0 U=G6 ps i hs a as U0 U U0[i]?:=rfl
theorem fFa:G6 ps i hs (.ow d p l) as U0 U (some (.ow d' p' l'))=aAf ps hs as U0 (U.set i (.ow d p' l')):=rfl
theorem gFa:G6 ps i hs a as U0 U (some (.sh d))=aAf ps hs as U0 U:=rfl
def Pg(f:BI)(hs:List Hd)(U:Env):FA RV:=done ((getAll hs U).bind (aD f)) U
theorem bz:ev P C t (.bif f es) U=aAg t ((qD P C es U).bind (Pg f)):=rfl
theorem H_:getAll [] U=some []:=rfl
noncomputable def Pe(a:Option D)(b:Option (List D)):Option (List D):=a.bind λd=>b.map (d :: ·)
theorem F_:Pe (some d) (some ds)=some (d::ds):=rfl
theorem G_:getAll (h::r) U=Pe (h.get U) (getAll r U):=rfl
theorem Ae:aD .len [.l ds]=some (.sh (.int ds.length)):=rfl
theorem Zz:aD .len [.t ds]=some (.sh (.int ds.length)):=rfl
theorem Xz:aD .abs [.int i]=some (.sh (.int (if i<0 then -i else i))):=rfl
theorem Yz:aD .int [.bl b]=some (.sh (.int (if b then 1 else 0))):=rfl
theorem a_:aD .list [.l ds]=some (.ow (.l ds)):=rfl
theorem b_:aD .list [.t ds]=some (.ow (.l ds)):=rfl
theorem e_:aD .tuple [.l ds]=some (.sh (.t ds)):=rfl
theorem d_:aD .min [.int i,.int j]=some (.sh (.int (if j<i then j else i))):=rfl
theorem c_:aD .max [.int i,.int j]=some (.sh (.int (if j > i then j else i))):=rfl
def SS(ts:List Ty):Option D->Option RV
 |some d=>(RS ts d).map λb=>.sh (.bl b)
 |none=>none
def L6(ts:List Ty)(x:Hd)(U:Env):FA RV:=done (SS ts (x.get U)) U
theorem nz:ev P C t (.JI a ts) U=aAg t ((HC P C a U).bind (L6 ts)):=by
 show aAg t ((HC P C a U).bind λx U1=>done ((x.get U1).bind λd=>(RS ts d).map λb=>.sh (.bl b)) U1)=_
 congr 2
 funext x U1
 unfold L6;cases x.get U1<;>rfl
theorem fDa:SS [.int] (some (.int i))=some (.sh (.bl true)):=rfl
theorem dDa:SS [.bool] (some (.bl b))=some (.sh (.bl true)):=rfl
theorem eDa:SS [.bool] (some (.int i))=some (.sh (.bl false)):=rfl
theorem gDa:SS [.tuple] (some (.t ds))=some (.sh (.bl true)):=rfl
def Mg(i:Nat)(d:D)(U:Env)(o:Option Sl):FA RV:=match o with
 |some (.ow (.l ds) p false)=>if iB (ds.length+1) then some (.ok (.sh .pA),U.set i (.ow (.l (ds++[d])) p false)) else none
 |_=>none
def Ng(i:Nat)(v:RV)(U:Env):FA RV:=Mg i v.d U U[i]?
theorem wEa:Mg i d U (some (.ow (.l ds) p false))=zW (iB (ds.length+1)) (.sh .pA) (U.set i (.ow (.l (ds++[d])) p false)):=rfl
noncomputable def lh(r:FA RV)(b:Bool):FA RV:=if b then r else none
theorem hFa:lh r true=r:=rfl
theorem az:ev P C t (.app i a) U=aAg t (lh ((ev P C false a U).bind (Ng i)) (RM U i)):=rfl
noncomputable def lQ:Option Sl->Bool
 |some (.ow (.l _) _ _)=>true
 |_=>false
theorem tDa:RM U i=lQ U[i]?:=rfl
theorem sDa:lQ (some (.ow (.l ds) p l))=true:=rfl
def Og(i:Nat)(v:RV)(U:Env):Run:=jJ (store i v U)
theorem Nz:ex P C W (.WA i e) U=(ev P C false e U).GC (Og i):=rfl
def GO(i:Nat)(v:RV)(U:Env)(o:Option Sl):Option Env:=match o with
 |none=>none
 |some (.ow _ true _)=>none
 |some (.ow _ _ true)=>none
 |some _=>match v with
  |.sh d=>some (U.set i (.sh d))
  |.ow d=>some (U.set i (.ow d false false))
  |.od _=>none
theorem nX:store i v U=GO i v U U[i]?:=rfl
theorem uWa:GO i (.sh d) U (some .un)=some (U.set i (.sh d)):=rfl
theorem tWa:GO i (.ow d) U (some .un)=some (U.set i (.ow d false false)):=rfl
theorem sWa:GO i (.sh d) U (some (.sh d'))=some (U.set i (.sh d)):=rfl
theorem rWa:GO i (.ow d) U (some (.ow d' false false))=some (U.set i (.ow d false false)):=rfl
noncomputable def HA:Sl->Bool
 |.un=>true
 |.mv=>true
 |.sh _=>true
 |.ow _ false false=>true
 |_=>false
theorem EB(h:HA s=true):GO i (.sh d) U (some s)=some (U.set i (.sh d)):=by
 cases s with
 |ow d p l=>cases p<;>cases l<;>first | rfl | cases h
 |_=>rfl
theorem qWa(h:HA s=true):GO i (.ow d) U (some s)=some (U.set i (.ow d false false)):=by
 cases s with
 |ow d p l=>cases p<;>cases l<;>first | rfl | cases h
 |_=>rfl
theorem hLa:HA .un=true:=rfl
theorem gLa:HA (.sh d)=true:=rfl
theorem fLa:HA (.ow d false false)=true:=rfl
theorem WU:bB true [i] d U=store i (.sh d) U:=rfl
theorem Nc:bB false (i::is) (.t ds) U=aAn (i::is) ds U:=rfl
theorem Ml:aAn [] [] U=some U:=rfl
def Nh(is:List Nat)(ds:List D)(o:Option Env):Option Env:=o.bind (aAn is ds)
theorem Ll:aAn (i::is) (d::ds) U=Nh is ds (store i (.sh d) U):=rfl
theorem Oh:Nh is ds (some U)=aAn is ds U:=rfl
def zl(i:Nat)(v:D)(U:Env):Option Sl->D->Run
 |some (.ow (.l ds) p false),.int n=>jJ ((L2.eG ds.length n).map λm=>U.set i (.ow (.l (ds.set m v)) p false))
 |_,_=>none
def Hh(i:Nat)(v:RV)(j:RV)(U:Env):Run:=zl i v.d U U[i]? j.d
noncomputable def mh(r:Run)(b:Bool):Run:=if b then r else none
theorem iFa:mh r true=r:=rfl
noncomputable def gSa(i:Nat)(v j:RV)(U:Env):Option Sl->Run
 |o=>match o,j,v with
  |_,_,_=>none
def eGa(i:Nat)(v:RV)(j:RV)(U:Env):Run:=gSa i v j U U[i]?
noncomputable def LS:Option Sl->Bool
 |_=>false
theorem lDa:jDa U i=LS U[i]?:=rfl
noncomputable def K6(r r':Run)(b:Bool):Run:=if b then r else r'
theorem kFa:K6 r r' true=r:=rfl
theorem jFa:K6 r r' false=r':=rfl
def Bh(i:Nat)(v:RV)(j:RV)(U:Env):Run:=EO i U U[i]? (VD j.d) v
def lG(h:iB (ks.length+1)=true):EO i U (some (.ow (.ZA ks ds) p false)) (some k) v=some (.nx,U.set i (.ow (.ZA (IG ks k) (tF ks ds k v.d)) p false)):=KA h
noncomputable def QS:Option Sl->Bool
 |some (.ow (.ZA _ _) _ _)=>true
 |_=>false
theorem nDa:MS U i=QS U[i]?:=rfl
theorem mDa:QS (some (.ow (.ZA ks ds) p l))=true:=rfl
theorem kDa:LS (some (.ow (.ZA ks ds) p l))=false:=rfl
theorem rDa:lQ (some (.ow (.ZA ks ds) p l))=false:=rfl
def Eh(P:oB)(C:Calls)(i:Nat)(k:E)(v:RV)(U:Env):Run:=mh ((ev P C false k U).GC (Bh i v)) (MS U i)
def Gh(P:oB)(C:Calls)(i:Nat)(k:E)(v:RV)(U:Env):Run:=K6 ((ev P C false k U).GC (Hh i v)) (Eh P C i k v U) (RM U i)
theorem Sz:ex P C W (.set i k e) U=(ev P C false e U).GC (Gh P C i k):=rfl
def eEa:L2.eG (n+2) 1=some 1:=by unfold L2.eG;rw[KA (by lia),KA (by lia)];rfl
theorem wUa:zl i v U (some (.ow (.l (a::b::ds)) p false)) (.int 1)=some (.nx,U.set i (.ow (.l (a::v::ds)) p false)):=by
 show jJ ((L2.eG (ds.length+2) 1).map _)=_;rw[eEa];rfl
noncomputable def fh(v:RV)(U:Env):Run:=some (.nx,U)
theorem Oz:ex P C W (.expr e) U=(ev P C false e U).GC fh:=rfl
def d8(i:Nat)(U:Env):Option Sl->Run
 |some (.ow d false _)=>some (.rt (.ow d),U.set i .mv)
 |some (.sh d)=>some (.rt (.sh d),U)
 |_=>none
theorem iTa:d8 i U (some (.ow d false l))=some (.rt (.ow d),U.set i .mv):=rfl
theorem jTa:d8 i U (some (.sh d))=some (.rt (.sh d),U):=rfl
noncomputable def pH(v:RV)(U:Env):Run:=some (.rt v,U)
theorem Rz:ex P C W (.ret (.v i)) U=d8 i U U[i]?:=rfl
theorem Oy:ex P C W (.ret (.c d)) U=(ev P C false (.c d) U).GC pH:=rfl
theorem Uy:ex P C W (.ret (.t es)) U=(ev P C false (.t es) U).GC pH:=rfl
theorem Qy:ex P C W (.ret (.l es)) U=(ev P C false (.l es) U).GC pH:=rfl
theorem Ky:ex P C W (.ret (.qA op a b)) U=(ev P C false (.qA op a b) U).GC pH:=rfl
theorem My:ex P C W (.ret (.uA op a b)) U=(ev P C false (.uA op a b) U).GC pH:=rfl
theorem Iy:ex P C W (.ret (.and a b)) U=(ev P C false (.and a b) U).GC pH:=rfl
theorem Sy:ex P C W (.ret (.or a b)) U=(ev P C false (.or a b) U).GC pH:=rfl
theorem Py:ex P C W (.ret (.ix a b)) U=(ev P C false (.ix a b) U).GC pH:=rfl
theorem Ly:ex P C W (.ret (.call f es)) U=(ev P C false (.call f es) U).GC pH:=rfl
theorem Jy:ex P C W (.ret (.bif f es)) U=(ev P C false (.bif f es) U).GC pH:=rfl
theorem Ny{cA cond:List E}:ex P C W (.ret (.comp QA tg k cA cond imp nl)) U=(ev P C false (.comp QA tg k cA cond imp nl) U).GC pH:=rfl
def J6(P:oB)(C:Calls)(W:Nat)(a b:List S)(v:RV)(U:Env):Run:=match v with
 |.sh (.bl true)=>NA P C W a U
 |.sh (.bl false)=>NA P C W b U
 |_=>none
theorem mFa:J6 P C W a b (.sh (.bl true)) U=NA P C W a U:=rfl
theorem lFa:J6 P C W a b (.sh (.bl false)) U=NA P C W b U:=rfl
theorem Qz:ex P C W (.BA c a b) U=(ev P C true c U).GC (J6 P C W a b):=rfl
def He(P:oB)(C:Calls)(W:Nat)(tg:List Nat)(one:Bool)(body:List S)(U:Env):Option (List D×Option Nat)->Run
 |none=>none
 |some (ds,o)=>(cC (bB one tg) (NA P C W body) ds (aAe o U)).restore o U
theorem r_:He P C W tg one body U (some (ds,o))=(cC (bB one tg) (NA P C W body) ds (aAe o U)).restore o U:=rfl
def aAZ(P:oB)(C:Calls)(W:Nat)(tg:List Nat)(one:Bool)(k:XF)(body:List S)(hs:List Hd)(U:Env):Run:=He P C W tg one body U (aAa k hs U)
theorem Pz:ex P C W (.for tg one k cA body) U=(qD P C cA U).GC (aAZ P C W tg one k body):=rfl
theorem Tz:ex P C W (.UT c body) U=MI (ev P C true c) (NA P C W body) W U:=rfl
theorem K1:NA P C W [] U=some (.nx,U):=rfl
theorem J1:NA P C W (s::r) U=(ex P C W s U).next (NA P C W r):=rfl
theorem pTa{r:Run}:r.restore none U0=r:=by cases r with | none=>rfl | some y=>obtain⟨fl,U⟩:=y;rfl
theorem iYa:aAe none U=U:=rfl
def tJ(h:a.get U=some (.int n))(h1:-1000000<=n)(h2:n<=1000000):aAa .jC [a] U=some ((XB n.toNat).map λ(j:Nat)=>.int (j:Int),none):=by
 (unfold aAa;simp only[h]);exact KA ⟨h1,h2⟩
def n6(h:a.get U=some (.int m))(h':b.get U=some (.int n))(h1:-1000000<=m/\m<=1000000)(h2:-1000000<=n/\n<=1000000):aAa .jC [a,b] U=some ((XB (n-m).toNat).map λ(j:Nat)=>.int (m+(j:Int)),none):=by
 (unfold aAa;simp only[h,h']);exact KA ⟨h1,h2⟩
def mQ(h:v.d=.l ds):aAa .of [.val v] U=some (ds,none):=by(unfold aAa;simp only[h])
def WS(h:v.d=.t ds):aAa .of [.val v] U=some (ds,none):=by(unfold aAa;simp only[h])
def Fg(h:U[i]?=some (.sh (.l ds))):aAa .of [.slot i] U=some (ds,none):=by(unfold aAa;simp only[h])
def cEa(h:U[i]?=some (.sh (.t ds))):aAa .of [.slot i] U=some (ds,none):=by(unfold aAa;simp only[h])
def VS(h:U[i]?=some (.ow (.l ds) p l)):aAa .of [.slot i] U=some (ds,some i):=by(unfold aAa;simp only[h])
def oIa{bind:D->Env->Option Env}(I:Env->Prop)(h:∀d∈ds,∀U,I U->∃U1,bind d U=some U1/\∃U2,body U1=some (.nx,U2)/\I U2):∀{U:Env},I U->∃U',cC bind body ds U=some (.nx,U')/\I U':=by
 induction ds with
 |nil=>exact λhU=>⟨_,rfl,hU⟩
 |cons d ds ih =>
  intro U hU;obtain⟨U1,e1,U2,e2,h2⟩:=h d (by simp) U hU;obtain⟨U',e3,h3⟩:=ih (λd' ME=>h d' (by simp[ME])) h2;exact⟨U',by simp only[cC,e1,e2,e3],h3⟩
def UM{bind:D->Env->Option Env}(I:List D->Env->Prop)(h:∀pre d post,ds=pre++d::post->∀U,I pre U->∃U1,bind d U=some U1/\∃U2,body U1=some (.nx,U2)/\I (pre++[d]) U2)(h0:I [] U):∃U',cC bind body ds U=some (.nx,U')/\I ds U':=by
 have key:∀(post pre:List D) (U:Env),ds=pre++post->I pre U->∃U',cC bind body post U=some (.nx,U')/\I ds U':=by
  intro post
  induction post with
  |nil=>intro pre U e hp;rw[ZD] at e;subst e;exact⟨U,rfl,hp⟩
  |cons d post ih =>
   intro pre U e hp;obtain⟨U1,e1,U2,e2,h2⟩:=h pre d post e U hp;obtain⟨U',e3,h3⟩:=ih (pre++[d]) U2 (by rw[e];simp) h2;exact⟨U',by simp only[cC,e1,e2,e3],h3⟩
 exact key ds [] U rfl h0
noncomputable def P6(as:List Sl):Run->FA RV
 |some (.nx,U)=>some (.ok (.sh .pA),back as U)
 |some (.rt v,U)=>some (.ok v,back as U)
 |_=>none
theorem fGa:P6 as (some (.rt v,U))=some (.ok v,back as U):=rfl
def hX(hT:T f=some fn)(h1:as.length=fn.aA.length)(h2:as.all KL=true)(h3:fn.rs=false:=by rfl):run T W (n+1) f as=P6 as (NA T.aA (run T W n) W fn.body (as++HB fn.nl .un)):=by
 simp only[run,hT];rw[KA ⟨h1,h2⟩,h3];generalize NA T.aA (run T W n) W fn.body (as++HB fn.nl .un)=r;obtain _ | ⟨fl,U⟩:=r
 ·rfl
 ·cases fl<;>rfl
end
end CI
namespace CI
open PySem PySem.Spec PyProof.Rows L2
def Cd:D->dA->Bool
 |.pA,.none=>true
 |.bl a,.bool b=>a==b
 |.int i,.int j _=>i==j
 |.str x,.str y _=>x==y&&gP x
 |_,_=>false
def YZ:List D->List dA->Bool
 |[],[]=>true
 |d::ds,v::vs=>Cd d v&&YZ ds vs
 |_,_=>false
def Ex{K:iA}(h:Cd d u=true):∃v,aAc v u/\∀G,oA K G d v:=by
 have no:∀{p:Prop},false=true->p:=λh=>nomatch h
 induction d using D.casesOn with
 |pA =>
  induction u using CY with
  |none=>exact⟨.pA,rfl,λG=>by simp[oA]⟩
  |_=>exact no h
 |bl =>
  induction u using CY with
  |bool=>exact⟨.bl _,rfl,λG=>by simp[oA,XC (show(_==_)=true from h)]⟩
  |_=>exact no h
 |int i =>
  induction u using CY with
  |int j t=>exact⟨.int i,⟨t,by rw[XC (show(i==j)=true from h)]⟩,λG=>by simp[oA]⟩
  |_=>exact no h
 |str x =>
  induction u using CY with
  |str y t =>
   replace h:=(nB _ _).mp h;exact⟨.str x,⟨t,by rw[XC h.1]⟩,λG=>by simp[oA,h.2]⟩
  |_=>exact no h
 |_=>exact no h
theorem Dd{K:iA}:∀{ds:List D} {us:List dA},YZ ds us=true->∃vs,aAb vs us/\∀G,jA K G ds vs
 |[],[],_=>⟨[],.nil,λG=>jA.nil⟩
 |d::ds,u::us,h=>by
  replace h:=(nB _ _).mp h;obtain⟨v,h1,h2⟩:=Ex h.1;obtain⟨vs,h3,h4⟩:=Dd h.2;exact⟨v::vs,.cons h1 h3,λG=>jA.cons (h2 G) (h4 G)⟩
 |[],_::_,h=>nomatch (show false=true from h)
 |_::_,[],h=>nomatch (show false=true from h)
def Fx{K:iA}{sl}(X:K.In h)(G:h.Ns nC mg)
  (ha:ED K nC x=some (some (.ref a))) (hl:K.lookup a=some ⟨.type "tuple",dd,.seq cA n,sl⟩) (hc:YZ ds cA.toList=true) (hz:decide (cA.size<=1000)=true):aL pr K mg T gl (x,.c (.t ds)):=by
 obtain⟨vs,h1,h2⟩:=Dd hc;refine⟨_,.ref a,pU X G ha,rfl,λG=>?_⟩;simp only[oA];exact⟨a,vs,rfl,.inr ⟨_,cA,n,hl,rfl,rfl,EC (eU hz) (by decide),h1⟩,h2 G⟩
noncomputable section
variable{U U1:Env}
def YS(P:oB)(C:Calls)(QA:E)(tg:List Nat)(k:XF)(cond:List E)(imp:List Nat)(nl:Nat)(hs:List Hd)(U1:Env):FA RV :=
 match aAa k hs U1 with
 |none=>none
 |some (ds,o)=>(IF (imp.map λ_=>true) (dJ (gC P C cond) (ev P C false QA) (bB (tg.length==1) tg) ds nl) (imp.map Hd.slot) (aAe o U1)).bind (aAs o U1)
theorem iz{cA cond:List E}:ev P C t (.comp QA tg k cA cond imp nl) U=aAg t ((qD P C cA U).bind (YS P C QA tg k cond imp nl)):=rfl
def cF{cond:List E}(h:aAa k hs U1=some (ds,none)) :
  YS P C QA tg k cond imp nl hs U1=(IF (imp.map λ_=>true) (dJ (gC P C cond) (ev P C false QA) (bB (tg.length==1) tg) ds nl) (imp.map Hd.slot) U1).bind (aAs none U1):=by
 unfold YS;rw[h];rfl
theorem T_:aAs none U1 v U2=some (.ok v,U2):=rfl
def ZS{cond:List E}(h:aAa k hs U1=some (ds,some i)) :
  YS P C QA tg k cond imp nl hs U1=(IF (imp.map λ_=>true) (dJ (gC P C cond) (ev P C false QA) (bB (tg.length==1) tg) ds nl) (imp.map Hd.slot) (aAe (some i) U1)).bind (aAs (some i) U1):=by
 unfold YS;rw[h]
def E6(as:List Sl)(vA:List D)(Ui:Env):FA RV:=if iB vA.length then some (.ok (.ow (.l vA)),back as Ui) else none
theorem yM{bind:D->Env->Option Env}(h:as.all KL=true):dJ tests QA bind ds nl as=(jE tests QA bind ds [] (as++HB nl .un)).bind (E6 as):=by
 unfold dJ;rw[KA h];rfl
theorem F6(h:iB vA.length=true):E6 as vA Ui=some (.ok (.ow (.l vA)),back as Ui):=by unfold E6;rw[KA h]
theorem AI:gC P C [] U=some (.ok (.sh (.bl true)),U):=rfl
def Ph(P:oB)(C:Calls)(es:List E)(v:RV)(U1:Env):FA RV:=match v with
 |.sh (.bl true)=>gC P C es U1
 |.sh (.bl false)=>some (.ok (.sh (.bl false)),U1)
 |_=>none
theorem Yy:gC P C (e::es) U=(ev P C true e U).bind (Ph P C es):=rfl
theorem jGa:Ph P C [] (.sh (.bl b)) U1=some (.ok (.sh (.bl b)),U1):=by
 cases b
 ·rfl
 ·show gC P C [] U1=_;exact AI
theorem iQa:KL (.ow d true l)=true:=rfl
theorem jQa:KL (.sh d)=true:=rfl
def dH{bind:D->Env->Option Env}(I:Nat->List D->Env->Prop)
  (step:∀(j:Nat) (d:D),ds[j]?=some d->∀vA U,I j vA U->∃U1 c U2,bind d U=some U1/\tests U1=some (.ok (.sh (.bl c)),U2)/\(c=true->∃v U3,QA U2=some (.ok v,U3)/\I (j+1) (vA++[v.d]) U3)/\(c=false->I (j+1) vA U2)) :
  ∀vA U,I 0 vA U->∃nF U',jE tests QA bind ds vA U=some (.ok nF,U')/\I ds.length nF U'/\nF.length<=vA.length+ds.length:=by
 have key:∀(es:List D) (j:Nat),ds.drop j=es->∀vA U,I j vA U->∃nF U',jE tests QA bind es vA U=some (.ok nF,U')/\I (j+es.length) nF U'/\nF.length<=vA.length+es.length:=by
  intro es
  induction es with
  |nil=>intro j _ vA U h;exact⟨vA,U,rfl,h,by simp⟩
  |cons d es ih =>
   intro j hj vA U h
   have hd:ds[j]?=some d:=by
    have:(ds.drop j)[0]?=some d:=by rw[hj];rfl
    simpa using this
   have Mf:ds.drop (j+1)=es:=by
    have:(ds.drop j).drop 1=es:=by rw[hj];rfl
    rw[List.drop_drop] at this;exact this
   obtain⟨U1,c,U2,h1,h2,h3,h4⟩:=step j d hd vA U h;simp only[jE,h1,h2,FA.bind]
   cases c with
   |false =>
    obtain⟨nF,U',e1,e2,e3⟩:=ih (j+1) Mf vA U2 (h4 rfl);refine⟨nF,U',e1, ?_,by simp only[YB];lia⟩
    have:j+(d::es).length=j+1+es.length:=by simp only[YB];lia
    rw[this];exact e2
   |true =>
    obtain⟨v,U3,h5,h6⟩:=h3 rfl;obtain⟨nF,U',e1,e2,e3⟩:=ih (j+1) Mf (vA++[v.d]) U3 h6;simp only[h5];refine⟨nF,U',e1, ?_,by simp only[kC,YB,uG] at e3 ⊢;lia⟩
    have:j+(d::es).length=j+1+es.length:=by simp only[YB];lia
    rw[this];exact e2
 intro vA U h
 have:=key ds 0 rfl vA U h
 simpa using this
def MB(h:n<=1000000):iB n=true:=PF h
end
end CI
namespace CI
open PySem (Operator CmpOp Str)
noncomputable section
variable{U U1 U2:Env}
theorem bOa:HC P C (.uD i) U=(ev P C false (.uD i) U).bind pF:=rfl
theorem aAx:∀ns:List Int,rE (ns.map D.int)=some ns
 |[]=>rfl
 |n::r=>by(show(rE (r.map D.int)).map (n :: ·)=_;rw[aAx r];rfl)
theorem aOa:HC P C (.fld a f) U=(ev P C false (.fld a f) U).bind pF:=rfl
theorem fOa:HC P C (.uJ i m tb es) U=(ev P C false (.uJ i m tb es) U).bind pF:=rfl
theorem gOa:HC P C (.zO a) U=(ev P C false (.zO a) U).bind pF:=rfl
def gj(o:Option D):Option RV:=o.bind nT
def zh(x:Hd)(U:Env):FA RV:=done (gj (x.get U)) U
theorem Az:ev P C t (.zO a) U=aAg t ((HC P C a U).bind zh):=rfl
theorem yQa:dN P C (.neg a) U=(ev P C false (.neg a) U).bind aT:=rfl
theorem mz:ev P C t (.uD i) U=aAg t (wW i U U[i]?):=rfl
def jH(o:Option D)(f:bA):Option RV:=o.bind λd=>(N1 d f).map .sh
def gh(f:bA)(x:Hd)(U:Env):FA RV:=done (jH (x.get U) f) U
theorem lz:ev P C t (.fld a f) U=aAg t ((HC P C a U).bind (gh f)):=rfl
noncomputable def yW(c:bA)(ns:List bA)(ds:List D)(U:Env):FA RV:=if ds.length=ns.length then some (.ok (.sh (.ins c ns ds)),U) else none
theorem uz:ev P C t (.make c ns es) U=aAg t ((iH P C es U).bind (yW c ns)):=rfl
theorem tFa:yW c [f] [a] U=some (.ok (.sh (.ins c [f] [a])),U):=rfl
theorem uFa:yW c [f,g] [a,b] U=some (.ok (.sh (.ins c [f,g] [a,b])),U):=rfl
theorem vFa:yW c [f,g,h] [a,b,d] U=some (.ok (.sh (.ins c [f,g,h] [a,b,d])),U):=rfl
def N6(P:oB)(C:Calls)(f:String)(d:D)(hs:List Hd)(U:Env):FA RV:=C6 P C f (.val (.sh d)::hs) U
def M6(P:oB)(C:Calls)(d:D)(es:List E)(U:Env):Option String->FA RV
 |some f=>(qD P C es U).bind (N6 P C f d)
 |none=>none
theorem wFa:M6 P C d es U (some f)=(qD P C es U).bind (N6 P C f d):=rfl
def uh(P:oB)(C:Calls)(m:bA)(tb:List (bA×String))(es:List E)(U:Env)(i:Nat):Option Sl->FA RV
 |some (.sh (.ins c ns ds))=>M6 P C (.ins c ns ds) es U (gG c ns m tb)
 |_=>none
theorem xFa:uh P C m tb es U i (some (.sh (.ins c ns ds)))=M6 P C (.ins c ns ds) es U (gG c ns m tb):=rfl
theorem vz:ev P C t (.uJ i m tb es) U=aAg t (uh P C m tb es U i U[i]?):=rfl
theorem tW:aAa .key [.val (.sh (.ZA ks ds))] U=some (ks.map zM,none):=rfl
theorem Ry:ex P C W (.ret (.make c ns es)) U=(ev P C false (.make c ns es) U).GC pH:=rfl
theorem Gw:PB .Eq (.bl a) (.bl b)=some (a==b):=rfl
theorem Rw:PB .NotEq (.bl a) (.bl b)=some (!(a==b)):=rfl
theorem zg0:(a::l)[0]?=some a:=rfl
theorem zg1:(a::l)[n+1]?=l[n]?:=rfl
theorem zs0:(a::l).set 0 b=b::l:=rfl
theorem zs1:(a::l).set (n+1) b=a::l.set n b:=rfl
theorem zb:(some a).bind f=f a:=rfl
theorem zm:(some a).map f=some (f a):=rfl
theorem zi:(some a).isSome=true:=rfl
theorem zc:(a::l)++m=a::(l++m):=rfl
theorem zn:[]++l=l:=rfl
theorem zr0:HB 0 a=[]:=rfl
theorem zr1:HB (n+1) a=a::HB n a:=rfl
theorem zl0:([]:List O).length=0:=rfl
theorem zl1:(a::l).length=l.length+1:=rfl
theorem znt:(!true)=false:=rfl
theorem znf:(!false)=true:=rfl
theorem zko:back (.ow d p l::as) (b::bs)=b::back as bs:=rfl
theorem zks:back (.sh d::as) (b::bs)=.sh d::back as bs:=rfl
theorem zkn:back [] bs=[]:=rfl
end
def sHa{Q:List O->Prop}(h:∀a0,Q [a0])(us:List O)(hl:us.length=1):Q us:=by
 obtain _ | ⟨a0,r0⟩:=us
 ·simp at hl
 obtain _ | ⟨x,y⟩:=r0
 ·exact h a0
 ·simp at hl
def tHa{Q:List O->Prop}(h:∀a0 a1,Q [a0,a1])(us:List O)(hl:us.length=2):Q us:=by
 obtain _ | ⟨a0,r0⟩:=us
 ·simp at hl
 obtain _ | ⟨a1,r1⟩:=r0
 ·simp at hl
 obtain _ | ⟨x,y⟩:=r1
 ·exact h a0 a1
 ·simp at hl
def uHa{Q:List O->Prop}(h:∀a0 a1 a2,Q [a0,a1,a2])(us:List O)(hl:us.length=3):Q us:=by
 obtain _ | ⟨a0,r0⟩:=us
 ·simp at hl
 obtain _ | ⟨a1,r1⟩:=r0
 ·simp at hl
 obtain _ | ⟨a2,r2⟩:=r1
 ·simp at hl
 obtain _ | ⟨x,y⟩:=r2
 ·exact h a0 a1 a2
 ·simp at hl
def vHa{Q:List O->Prop}(h:∀a0 a1 a2 a3,Q [a0,a1,a2,a3])(us:List O)(hl:us.length=4):Q us:=by
 obtain _ | ⟨a0,r0⟩:=us
 ·simp at hl
 obtain _ | ⟨a1,r1⟩:=r0
 ·simp at hl
 obtain _ | ⟨a2,r2⟩:=r1
 ·simp at hl
 obtain _ | ⟨a3,r3⟩:=r2
 ·simp at hl
 obtain _ | ⟨x,y⟩:=r3
 ·exact h a0 a1 a2 a3
 ·simp at hl
def wHa{Q:List O->Prop}(h:∀a0 a1 a2 a3 a4,Q [a0,a1,a2,a3,a4])(us:List O)(hl:us.length=5):Q us:=by
 obtain _ | ⟨a0,r0⟩:=us
 ·simp at hl
 obtain _ | ⟨a1,r1⟩:=r0
 ·simp at hl
 obtain _ | ⟨a2,r2⟩:=r1
 ·simp at hl
 obtain _ | ⟨a3,r3⟩:=r2
 ·simp at hl
 obtain _ | ⟨a4,r4⟩:=r3
 ·simp at hl
 obtain _ | ⟨x,y⟩:=r4
 ·exact h a0 a1 a2 a3 a4
 ·simp at hl
def xHa{Q:List O->Prop}(h:∀a0 a1 a2 a3 a4 a5,Q [a0,a1,a2,a3,a4,a5])(us:List O)(hl:us.length=6):Q us:=by
 obtain _ | ⟨a0,r0⟩:=us
 ·simp at hl
 obtain _ | ⟨a1,r1⟩:=r0
 ·simp at hl
 obtain _ | ⟨a2,r2⟩:=r1
 ·simp at hl
 obtain _ | ⟨a3,r3⟩:=r2
 ·simp at hl
 obtain _ | ⟨a4,r4⟩:=r3
 ·simp at hl
 obtain _ | ⟨a5,r5⟩:=r4
 ·simp at hl
 obtain _ | ⟨x,y⟩:=r5
 ·exact h a0 a1 a2 a3 a4 a5
 ·simp at hl
open PySem PySem.Spec PyProof.Rows L2 in
def BQ(x eB:bA)(st:rB)(kV doc pm:dA)(an:Option kA)(YA ct:dA)(us:List dA):Prop:=PySem.bindArgs (AH x eB (NH st) (pE st) (uC st) .none kV doc pm an YA ct) ⟨us,[]⟩=pure ((eD st).zip us)
def fc{P:O->Prop}(h:P a)(t:∀x∈l,P x):∀x∈a::l,P x:=Q9.mpr ⟨h,t⟩
section
open PySem PySem.Spec PyProof.Rows L2
def g_{K:iA}{st:rB}(X:K.In h)(G:h.Ns nC mg)(O:tR gl st x fn)(t:∀e∈r,aL pr K mg T gl e)(hT:T f=some fn:=by rfl)(D:sR K x st:=by refine' CI.Qd ?a ?l ?c ?k;(case a | l | c | k=>k_is)):∀e∈(x,GV.fn f)::r,aL pr K mg T gl e:=fc (By X G D O hT) t
abbrev Yb(st:rB):Prop:=(HL st).Nodup/\(HL st).take (eD st).length=eD st/\(∀x∈eD st,(uC st).names.lookup x=some .local\/(uC st).names.lookup x=some .cell)/\∀y∈(uC st).names,y.2≠.free
abbrev oM(x eB:bA)(st:rB):Prop:=∀(kV doc pm:dA) (an:Option kA) (YA ct:dA) (us:List dA),us.length=(eD st).length->BQ x eB st kV doc pm an YA ct us
def vJ{st:rB}(q:oM x eB st)(h1:(uC st).kind=.function:=by rfl)(h2:(uC st).isCoroutine=false:=by rfl)(h3:(uC st).isGenerator=false:=by rfl)(h:Yb st/\(HL st).length=fn.aA.length+fn.nl/\(eD st).length=fn.aA.length:=by decide +kernel)(b:fn.body=Kd gl st:=by kernel_rfl):JH gl st x eB fn :=
 ⟨⟨h1,h2,h3,h.1.1,h.1.2.1,h.1.2.2.1,h.1.2.2.2⟩,b,h.2.1,h.2.2,q⟩
def xO{st:rB}(q:oM "__init__" eB st)(h1:(uC st).kind=.function:=by rfl)(h2:(uC st).isCoroutine=false:=by rfl)(h3:(uC st).isGenerator=false:=by rfl)(h:Yb st/\(eD st).length=ns.length+1/\ns.Nodup/\ns.length<1000:=by decide +kernel)(b:zL (eD st) 1 (pE st)=some ns:=by kernel_rfl):bL st eB ns :=
 ⟨⟨h1,h2,h3,h.1.1,h.1.2.1,h.1.2.2.1,h.1.2.2.2⟩,b,h.2.1,h.2.2.1,h.2.2.2,q⟩
variable{st:rB}
def xI(hn:(eD st).length=1:=by rfl)(h:∀kV doc pm an YA ct a0,BQ x eB st kV doc pm an YA ct [a0]:=by intros;exact rfl):oM x eB st:=λkV doc pm an YA ct us hl=>sHa (h kV doc pm an YA ct) us (hl.trans hn)
def oF(hn:(eD st).length=2:=by rfl)(h:∀kV doc pm an YA ct a0 a1,BQ x eB st kV doc pm an YA ct [a0,a1]:=by intros;exact rfl):oM x eB st:=λkV doc pm an YA ct us hl=>tHa (h kV doc pm an YA ct) us (hl.trans hn)
def FF(hn:(eD st).length=3:=by rfl)(h:∀kV doc pm an YA ct a0 a1 a2,BQ x eB st kV doc pm an YA ct [a0,a1,a2]:=by intros;exact rfl):oM x eB st:=λkV doc pm an YA ct us hl=>uHa (h kV doc pm an YA ct) us (hl.trans hn)
def yI(hn:(eD st).length=4:=by rfl)(h:∀kV doc pm an YA ct a0 a1 a2 a3,BQ x eB st kV doc pm an YA ct [a0,a1,a2,a3]:=by intros;exact rfl):oM x eB st:=λkV doc pm an YA ct us hl=>vHa (h kV doc pm an YA ct) us (hl.trans hn)
def Tv(hn:(eD st).length=5:=by rfl)(h:∀kV doc pm an YA ct a0 a1 a2 a3 a4,BQ x eB st kV doc pm an YA ct [a0,a1,a2,a3,a4]:=by intros;exact rfl):oM x eB st:=λkV doc pm an YA ct us hl=>wHa (h kV doc pm an YA ct) us (hl.trans hn)
def Uv(hn:(eD st).length=6:=by rfl)(h:∀kV doc pm an YA ct a0 a1 a2 a3 a4 a5,BQ x eB st kV doc pm an YA ct [a0,a1,a2,a3,a4,a5]:=by intros;exact rfl):oM x eB st:=λkV doc pm an YA ct us hl=>xHa (h kV doc pm an YA ct) us (hl.trans hn)
end
def dh(v u:RV)(U:Env):FA RV:=lV (VD v.d) u U
def bh(P:oB)(C:Calls)(b:E)(v:RV)(U:Env):FA RV:=(ev P C false b U).bind (dh v)
theorem kz:ev P C t (.TR a b) U=aAg t ((ev P C false a U).bind (bh P C b)):=rfl
def eVa:yJ (.t [.int t,.t (ns.map D.int)])=some (t,ns):=by
 show(rE (ns.map D.int)).map _=_;rw[aAx];rfl
def hVa:VD (.t [.int t,.t (ns.map D.int)])=some (.inl (t,ns)):=by
 show(yJ _).map _=_;rw[eVa];rfl
def ze(h:SM ds=some ps):aD .dict [.l ds]=some (.sh (.ZA (aAv ps ([],[])).1 (aAv ps ([],[])).2)):=by
 show jV ds=_;unfold jV;rw[h];rfl
def y6(hk:VD e=some k)(h:EL ks ds k=some d):PD (some (.ZA ks ds)) e=some (.sh d):=by
 show(((VD e).bind (EL ks ds)).map RV.sh)=_;rw[hk];show((EL ks ds k).map RV.sh)=_;rw[h];rfl
def Mw(hk:VD e=some k):PB .In e (.ZA ks ds)=some (EI ks k):=by
 show(VD e).map _=_;rw[hk];rfl
def Yc(hk:VD e=some k):PB .NotIn e (.ZA ks ds)=some !EI ks k:=by
 show((VD e).map _).map _=_;rw[hk];rfl
theorem NR:aD .len [.ZA ks ds]=some (.sh (.int ks.length)):=rfl
theorem Dz:ev P C t (.uT i) U=aAg t (vT i U U[i]?):=rfl
def Ah(i:Nat)(p:Bool)(l:List D)(U:Env)(o:Option D):FA RV:=o.map λd=>(.ok (.sh d),U.set i (.ow (.l l) p false))
theorem tQa:vT i U (some (.ow (.l ds) p false))=Ah i p ds.dropLast U ds[ds.length-1]?:=rfl
theorem cGa:Ah i p l U (some d)=some (.ok (.sh d),U.set i (.ow (.l l) p false)):=rfl
theorem sV:ev P C t (.OT i j) U=aAg t (NO i j U U[i]? U[j]?):=rfl
def cZa(hu:u.get=some (.ZA fG IE))(h:i≠j/\fG≠[]/\(ks++fG).Nodup/\iB (ks.length+fG.length)=true/\(fG.map L2.hS).Nodup) :
  NO i j U (some (.ow (.ZA ks ds) p false)) (some u)=some (.ok (.sh .pA),U.set i (.ow (.ZA (ks++fG) (ds++IE)) p false)):=by
 unfold NO;rw[UG,hu];exact KA h
theorem Ew:PB .Eq (.ZA ks ds) (.ZA [] es)=some ks.isEmpty:=rfl
def Ac(h:(ds.all (λd=>(yJ d).isSome)||ds.all qO)=true):aD .sorted [.l ds]=some (.sh (.MC ds.length ds)):=KA h
def av(h:iB (n+ys.length)=true):CG .Add x (some (.MC n xs)) (some (.l ys))=some (.sh (.MC (n+ys.length) (xs++ys))):=KA h
def ue(np:U.all YM=true)(h:ev P C false e U=some (.ok (.sh (.MC n ds)),U1))(k:∀es,Fm n es ds->∃U2,store i (.sh (.l es)) U1=some U2/\∃U3,NA P C W rest U2=some (.rt (.sh (.bl true)),U3)) :
  ex P C W (.FO i e rest) U=some (.rt (.sh (.bl true)),U.map λ_=>.mv):=KA ⟨np,n,ds,U1,h,k⟩
def jl(o:Option D):Option RV:=o.bind Zk
def Fh(x:Hd)(U:Env):FA RV:=done (jl (x.get U)) U
theorem kTa:jl (some (.l ds))=some (.ow (.l ds.reverse)):=rfl
theorem Ez:ev P C t (.rev a) U=aAg t ((HC P C a U).bind Fh):=rfl
end CI
namespace Tx
noncomputable abbrev _root_.CI.E.n(d:Int):CI.E:=.c (.int d)
noncomputable abbrev _root_.CI.E.s(d:bA):CI.E:=.c (.str d)
noncomputable abbrev _root_.CI.E.b(d:Bool):CI.E:=.c (.bl d)
open PySem PySem.Spec PyProof.Rows L2 CI
def top(i:Nat):rB:=PySem.Challenge.pw_canonwright_k35_papers_that_show_an_end.main.body.getD i (.Pass ⟨0,0,0,0⟩)
noncomputable def CJ:List (bA×String):=[("Span","R"),("Leap","T"),("Back","U"),("Again","V"),("Range","W"),("Above","Y"),("Never","Z")]
noncomputable def lN:List (bA×String):=[("Span","S"),("Range","X")]
def L:List (bA×GV):=("NOTES",.c (.int 0))::("BAR",.c (.int 1))::("OCTAVE",.c (.int 2))::("VOICES",.c (.int 3))::("RULES",.c (.int 4))::("LATE",.c (.int 0))::("SHIFT",.c (.int 1))::("TURNED",.c (.int 2))::("LEADER",.c (.t [(.int 0),(.int 0),(.bl false)]))::("BY_THE_LINE",.c (.t []))::("TURN",.c (.int 0))::("TAIL",.c (.int 1))::("AFTER",.c (.int 1))::("LEAST_MEMORY",.c (.int 3))::("is_whole",.fn "o")::("is_within",.fn "p")::("pitch",.fn "w")::("singer",.fn "x")::("sung",.fn "i")::("span",.fn "f")::("chord",.fn "b")::("sounding_pairs",.fn "q")::("move_so",.fn "y")::("rule_of",.fn "c")::("rules_of",.fn "z")::("breaks_at",.fn "r")::("memory",.fn "g")::("turn_of",.fn "A")::("stand_of",.fn "B")::("is_tail",.fn "C")::("is_stand",.fn "D")::("line_to",.fn "s")::("nexts",.fn "t")::("behind",.fn "j")::("steps_of",.fn "E")::("is_entry",.fn "F")::("leads_down",.fn "G")::("shows_end",.fn "H")::("_law_pen",.fn "k")::("_law_draw",.fn "a")::("_law_rule",.fn "I")::("_law_house",.fn "J")::("_law_heard",.fn "d")::("_law_by_line",.fn "l")::("_law_moved_so",.fn "K")::("_law_bad_pair",.fn "u")::("_law_broken",.fn "e")::("_law_memory",.fn "L")::("_law_stand",.fn "h")::("_law_as_line",.fn "M")::("_law_free",.fn "N")::("_law_ways",.fn "m")::("_law_come",.fn "v")::("_law_longest",.fn "O")::("_law_due",.fn "P")::("_law_spoilt",.fn "Q")::("_law_asked",.fn "n")::("law",.fn "law")::("Span",.cls ["beat","spans"])::("Leap",.cls ["most"])::("Back",.cls ["leap","most"])::("Again",.cls ["most"])::("Range",.cls ["low","high"])::("Above",.cls ["one","other"])::("Never",.cls ["one","other","way"])::(dot "broken",.yE CJ)::(dot "forbids",.yE lN)::("abs",.blt)::("all",.blt)::("bool",.blt)::("dict",.blt)::("enumerate",.blt)::("int",.blt)::("isinstance",.blt)::("len",.blt)::("list",.blt)::("max",.blt)::("min",.blt)::("range",.blt)::("set",.blt)::("sorted",.blt)::("tuple",.blt)::("{}",.blt)::[]
noncomputable def vx:rB->List rB
 |.ClassDef _ _ _ body _ _ _ _ _ _ _=>body
 |_=>[]
def iG(i j:Nat):rB:=(vx (top i)).getD j (.Pass ⟨0,0,0,0⟩)
noncomputable def O0:E:=(.call "i" [.v 1,.v 2,.v 4,.v 0])
noncomputable def N0:E:=(.t [.v 4,.v 5])
noncomputable def J0:E:=(.uA .Eq (.v 3) (.ix (.v 1) (.v 0)))
noncomputable def M0:E:=(.t [.v 2])
noncomputable def V0:E:=(.call "c" [.v 1])
def Q0:E:=(.ix (.v 1) (.n 0))
def P0:E:=(.call "p" [.v 2,.n 0,.qA .Sub (.ix (.v 0) (.n 0)) (.n 1)])
noncomputable def S0:E:=(.v 4)
noncomputable def Z0:E:=(.t [.v 3,.call "j" [.v 0,.v 1,.v 3]])
noncomputable def W0:E:=(.call "F" [.v 0,.v 2])
noncomputable def X0:E:=(.call "G" [.v 0,.v 1,.v 3])
noncomputable def K0:E:=(.t [.v 3])
def L0:E:=(.qA .Add (.n 1) (.ix (.v 1) (.n 0)))
noncomputable def UR:E:=(.v 2)
noncomputable def mV:E:=(.v 2)
def nV:E:=(.qA .Add (.n 1) (.ix (.v 0) (.v 2)))
def VR:E:=(.call "a" [.v 1,.ix (.v 0) (.n 0)])
noncomputable def WR:E:=(.v 2)
def HP:E:=(.t [.v 1,.qA .Add (.qA .Mult (.n 2) (.v 2)) (.n 1)])
noncomputable def XR:E:=(.t [.v 2,.ix (.v 0) (.v 2)])
noncomputable def JZ:List S:=[.BA (.and (.uA .IsNot (.ix (.v 0) (.v 2)) (.c .pA)) (.uA .IsNot (.ix (.v 0) (.v 3)) (.c .pA))) [.expr (.app 1 (.t [.v 2,.v 3]))] []]
def KZ:List S:=[.for [3] true .jC [.qA .Add (.v 2) (.n 1),.bif .len [.v 0]] JZ]
noncomputable def FZ:List S:=[.BA (.and (.uA .Eq (.call "f" [.v 4,.ix (.v 5) (.v 8),.ix (.v 5) (.v 9)]) (.fld (.v 0) "one")) (.uA .Eq (.call "f" [.v 4,.ix (.v 6) (.v 8),.ix (.v 6) (.v 9)]) (.fld (.v 0) "other"))) [.BA (.call "y" [.fld (.v 0) "way",.qA .Sub (.ix (.v 6) (.v 8)) (.ix (.v 5) (.v 8)),.qA .Sub (.ix (.v 6) (.v 9)) (.ix (.v 5) (.v 9))]) [.expr (.app 7 (.t [.v 8,.v 9]))] []] []]
noncomputable def GZ:List S:=[.expr (.app 4 (.t [.v 3,.v 5,.v 7]))]
def HZ:List S:=[.for [7] true .of [.uJ 6 "broken" CJ [.v 0,.v 2,.v 3]] GZ]
def IZ:List S:=[.BA (.or (.uA .NotIn (.ix (.v 3) (.n 1)) (.v 1)) (.uA .GtE (.ix (.v 1) (.ix (.v 3) (.n 1))) (.ix (.v 1) (.v 2)))) [.ret (.b false)] []]
def CZ:List S:=[.WA 8 (.call "a" [.v 0,.ix (.l [.n 2,.n 5]) (.bif .int [.v 1])]),.expr (.app 6 (.t [.v 8,.qA .Sub (.call "a" [.v 0,.n 25]) (.n 12),.uA .Eq (.call "a" [.v 0,.n 4]) (.n 0)]))]
noncomputable def DZ:List S:=[.expr (.app 9 (.call "I" [.v 0,.v 2,.v 3,.v 4,.v 5]))]
def BZ:List S:=[.WA 7 (.c .pA),.BA (.aG .LtE .Lt (.n 0) (.qA .Sub (.v 2) (.v 4)) (.bif .len [.v 1])) [.WA 7 (.qA .Add (.v 5) (.ix (.v 1) (.qA .Sub (.v 2) (.v 4)))),.BA (.v 6) [.WA 7 (.qA .Sub (.v 5) (.ix (.v 1) (.qA .Sub (.v 2) (.v 4))))] []] [],.expr (.app 3 (.v 7))]
noncomputable def JR:List S:=[.BA (.call "u" [.v 0,.v 1,.v 8,.v 4,.v 5,.v 10]) [.expr (.app 9 (.t [.v 5,.v 10]))] []]
def KR:List S:=[.for [10] true .jC [.qA .Add (.v 5) (.n 1),.bif .len [.v 4]] JR]
def AZ:List S:=[.BA (.uA .NotEq (.call "e" [.v 0,.v 2,.v 1,.qA .Sub (.bif .len [.v 1]) (.n 1)]) (.l [])) [.ret (.b false)] []]
noncomputable def EZ:List S:=[.WA 4 (.qA .Add (.call "M" [.v 1]) (.l [.v 3])),.BA (.call "N" [.v 0,.v 4]) [.expr (.app 2 (.t [.v 3,.call "h" [.v 0,.v 4]]))] []]
noncomputable def PN:List S:=[.BA (.uA .NotIn (.v 6) (.v 2)) [.set 2 (.v 6) (.c .pA),.expr (.app 3 (.v 6))] []]
def zP:List S:=[.WA 4 (.uT 3),.set 2 (.v 4) (.call "m" [.v 0,.v 4]),.for [5,6] false .of [.ix (.v 2) (.v 4)] PN]
def BP:List S:=[.BA (.uA .NotIn (.v 4) (.v 1)) [.WA 5 (.comp UR [1,2] .of [.ix (.v 0) (.v 4)] [] [] 3),.BA (.uA .Eq (.bif .len [.comp mV [2] .of [.v 5] [.uA .NotIn (.v 2) (.v 0)] [1] 2]) (.n 0)) [.set 3 (.v 4) (.bif .max [.qA .Add (.l [.n 0]) (.comp nV [2] .of [.v 5] [] [1] 2)])] []] []]
def CP:List S:=[.WA 3 .aK,.for [4] true .key [.uD 0] BP,.BA (.uA .Eq (.v 3) .aK) [.ret (.v 1)] [],.expr (.OT 1 3)]
def LR:List S:=[.BA (.or (.uA .In (.v 4) (.v 3)) (.uA .Lt (.v 5) (.n 0))) [.ret (.b false)] [],.set 3 (.v 4) (.v 5)]
def RU:List S:=[.BA (.or (.uA .NotIn (.v 7) (.v 3)) (.uA .GtE (.ix (.v 3) (.v 7)) (.ix (.v 3) (.v 4)))) [.ret (.b false)] []]
def SU:List S:=[.for [6,7] false .of [.call "m" [.v 0,.v 4]] RU]
def MR:List S:=[.WA 10 (.call "Q" [.call "k" [.v 0,.qA .Add (.n 3) (.v 9)],.v 1,.v 8,.v 7]),.BA (.not (.call "n" [.v 1,.v 7,.v 10])) [.ret (.b false)] []]
def vX:List S:=[(.BA (.not (.call "n" [(.v 1),(.v 7),(.v 8)])) [(.ret (.c (.bl false)))] []),(.for [9] true .jC [(.c (.int 5))] MR),(.ret (.call "n" [(.v 1),(.v 7),(.l [(.t [(.v 7),(.c (.int 0))])])]))]
def uX:List S:=[(.WA 7 (.ix (.v 6) (.call "a" [(.v 2),(.bif .len [(.v 6)])]))),(.FO 8 (.sl (.bif .sorted [(.comp XR [2] .key [(.uD 5)] [] [5] 2)]) .UD (.c (.int 100))) vX)]
def Pl:S:=(.WA 5 (.call "a" [.v 0,.n 9]))
def Ql:S:=(.BA (.uA .Lt (.v 5) (.n 2)) [.ret (.t [.s "span",.call "a" [.v 0,.v 2],.call "a" [.v 0,.qA .LShift (.n 1) (.v 3)]])] [])
def Rl:S:=(.BA (.uA .Eq (.v 5) (.n 2)) [.ret (.t [.s "span",.call "a" [.v 0,.v 2],.qA .Sub (.qA .Sub (.qA .LShift (.n 1) (.v 3)) (.n 1)) (.qA .LShift (.n 1) (.call "a" [.v 0,.v 3]))])] [])
def Ul:S:=(.BA (.uA .Eq (.v 5) (.n 3)) [.ret (.t [.s "leap",.call "a" [.v 0,.ix (.l [.n 13,.qA .Add (.v 1) (.n 1)]) (.call "a" [.v 0,.n 2])]])] [])
def Vl:S:=(.BA (.uA .Eq (.v 5) (.n 4)) [.ret (.t [.s "back",.qA .Add (.n 1) (.call "a" [.v 0,.n 12]),.qA .Add (.n 1) (.call "a" [.v 0,.n 12])])] [])
def Wl:S:=(.BA (.uA .Eq (.v 5) (.n 5)) [.ret (.t [.s "again",.qA .Add (.n 1) (.call "a" [.v 0,.n 3])])] [])
def Xl:S:=(.BA (.uA .Eq (.v 5) (.n 6)) [.WA 6 (.ix (.l [.qA .Sub (.call "a" [.v 0,.n 121]) (.n 60),.qA .Sub (.call "a" [.v 0,.n 20]) (.n 12)]) (.call "a" [.v 0,.n 2])),.ret (.t [.s "range",.v 6,.qA .Add (.v 6) (.call "a" [.v 0,.qA .Sub (.n 61) (.v 6)])])] [])
def Yl:S:=(.BA (.uA .Eq (.v 5) (.n 7)) [.WA 7 (.call "a" [.v 0,.qA .Add (.v 4) (.n 1)]),.ret (.t [.s "above",.v 7,.qA .Mod (.qA .Add (.qA .Add (.v 7) (.n 1)) (.call "a" [.v 0,.v 4])) (.qA .Add (.v 4) (.n 1))])] [])
def Zl:S:=(.WA 8 (.t [.s "like",.s "against",.s "aside",.s "any"]))
def cm:S:=(.ret (.t [.s "never",.call "a" [.v 0,.v 3],.call "a" [.v 0,.v 3],.ix (.v 8) (.call "a" [.v 0,.n 4])]))
noncomputable def J3:Fn:=⟨[true],0,[.ret (.and (.JI (.v 0) [.int]) (.not (.JI (.v 0) [.bool])))],false⟩
noncomputable def K3:Fn:=⟨[true,true,true],0,[.ret (.and (.call "o" [.v 0]) (.aG .LtE .LtE (.v 1) (.v 0) (.v 2)))],false⟩
def R3:Fn:=⟨[true,true],0,[.BA (.ix (.v 0) (.n 2)) [.ret (.qA .Sub (.ix (.v 0) (.n 1)) (.v 1))] [],.ret (.qA .Add (.ix (.v 0) (.n 1)) (.v 1))],false⟩
def V3:Fn:=⟨[true,true],0,[.BA (.uA .Eq (.v 1) (.n 0)) [.ret (.c (.t [.int 0,.int 0,.bl false]))] [],.ret (.ix (.ix (.v 0) (.n 3)) (.qA .Sub (.v 1) (.n 1)))],false⟩
def y4:Fn:=⟨[true,true,true,true],2,[.WA 4 (.call "x" [.v 0,.v 2]),.WA 5 (.qA .Sub (.v 3) (.ix (.v 4) (.n 0))),.BA (.aG .LtE .Lt (.n 0) (.v 5) (.bif .len [.v 1])) [.ret (.call "w" [.v 4,.ix (.v 1) (.v 5)])] [],.ret (.c .pA)],false⟩
noncomputable def X3:Fn:=⟨[true,true,true],0,[.ret (.qA .Mod (.bif .abs [.qA .Sub (.v 1) (.v 2)]) (.v 0))],false⟩
def B3:Fn:=⟨[true,true,true],0,[.ret (.comp O0 [4] .jC [.qA .Add (.bif .len [.ix (.v 0) (.n 3)]) (.n 1)] [] [2,0,1] 2)],false⟩
def W3:Fn:=⟨[true],3,[.WA 1 (.l []),.for [2] true .jC [.bif .len [.v 0]] KZ,.ret (.v 1)],false⟩
def O3:Fn:=⟨[true,true,true],0,[.BA (.uA .Eq (.v 0) (.s "like")) [.ret (.uA .Gt (.qA .Mult (.v 1) (.v 2)) (.n 0))] [],.BA (.uA .Eq (.v 0) (.s "against")) [.ret (.uA .Lt (.qA .Mult (.v 1) (.v 2)) (.n 0))] [],.BA (.uA .Eq (.v 0) (.s "aside")) [.ret (.uA .NotEq (.uA .Eq (.v 1) (.n 0)) (.uA .Eq (.v 2) (.n 0)))] [],.ret (.b true)],false⟩
def X2:Fn:=⟨[true,true,true,true],2,[.BA (.uA .NotEq (.qA .Mod (.v 3) (.ix (.v 1) (.n 1))) (.fld (.v 0) "beat")) [.ret (.l [])] [],.WA 4 (.ix (.v 1) (.n 2)),.WA 5 (.call "b" [.v 1,.v 2,.v 3]),.ret (.comp N0 [4,5] .of [.call "q" [.v 5]] [.uJ 2 "forbids" lN [.call "f" [.v 1,.ix (.v 0) (.v 4),.ix (.v 0) (.v 5)]]] [5,4,0] 3)],false⟩
def Z2:Fn:=⟨[true,true],0,[.ret (.uA .Eq (.qA .BitAnd (.qA .RShift (.fld (.v 0) "spans") (.v 1)) (.n 1)) (.n 0))],false⟩
def S2:Fn:=⟨[true,true,true,false],0,[.BA (.and (.uA .Gt (.v 3) (.n 0)) (.uA .Gt (.bif .abs [.qA .Sub (.ix (.v 2) (.v 3)) (.ix (.v 2) (.qA .Sub (.v 3) (.n 1)))]) (.fld (.v 0) "most"))) [.ret (.l [.c (.t [])])] [],.ret (.l [])],false⟩
def T1:Fn:=⟨[true,true,true,false],2,[.BA (.uA .Lt (.v 3) (.n 2)) [.ret (.l [])] [],.WA 4 (.qA .Sub (.ix (.v 2) (.qA .Sub (.v 3) (.n 1))) (.ix (.v 2) (.qA .Sub (.v 3) (.n 2)))),.WA 5 (.qA .Sub (.ix (.v 2) (.v 3)) (.ix (.v 2) (.qA .Sub (.v 3) (.n 1)))),.BA (.uA .Lt (.bif .abs [.v 4]) (.fld (.v 0) "leap")) [.ret (.l [])] [],.BA (.and (.uA .Lt (.qA .Mult (.v 4) (.v 5)) (.n 0)) (.uA .LtE (.bif .abs [.v 5]) (.fld (.v 0) "most"))) [.ret (.l [])] [],.ret (.l [.c (.t [])])],false⟩
def S1:Fn:=⟨[true,true,true,false],0,[.BA (.uA .Lt (.v 3) (.fld (.v 0) "most")) [.ret (.l [])] [],.BA (.bif .all [.comp J0 [3] .of [.sl (.v 2) (.qA .Sub (.v 3) (.fld (.v 0) "most")) (.v 3)] [] [3,2] 2]) [.ret (.l [.c (.t [])])] [],.ret (.l [])],false⟩
def V2:Fn:=⟨[true,true,true,true],0,[.ret (.comp M0 [2,3] (.enum 0) [.call "b" [.v 1,.v 2,.v 3]] [.uJ 0 "forbids" lN [.v 3]] [0] 3)],false⟩
noncomputable def W2:Fn:=⟨[true,true],0,[.ret (.and (.uA .IsNot (.v 1) (.c .pA)) (.not (.aG .LtE .LtE (.fld (.v 0) "low") (.v 1) (.fld (.v 0) "high"))))],false⟩
noncomputable def R1:Fn:=⟨[true,true,true,true],2,[.WA 4 (.call "i" [.v 1,.v 2,.fld (.v 0) "one",.v 3]),.WA 5 (.call "i" [.v 1,.v 2,.fld (.v 0) "other",.v 3]),.BA (.or (.uA .Is (.v 4) (.c .pA)) (.or (.uA .Is (.v 5) (.c .pA)) (.uA .GtE (.v 4) (.v 5)))) [.ret (.l [])] [],.ret (.l [.t [.fld (.v 0) "one",.fld (.v 0) "other"]])],false⟩
def T2:Fn:=⟨[true,true,true,true],6,[.WA 4 (.ix (.v 1) (.n 2)),.WA 5 (.call "b" [.v 1,.v 2,.qA .Sub (.v 3) (.n 1)]),.WA 6 (.call "b" [.v 1,.v 2,.v 3]),.WA 7 (.l []),.for [8,9] false .of [.call "q" [.v 5]] FZ,.ret (.v 7)],false⟩
def mL:Fn:=⟨[true],1,[.WA 1 (.ix (.v 0) (.n 0)),.BA (.uA .Eq (.v 1) (.s "span")) [.ret (.make "Span" ["beat","spans"] [.ix (.v 0) (.n 1),.ix (.v 0) (.n 2)])] [],.BA (.uA .Eq (.v 1) (.s "leap")) [.ret (.make "Leap" ["most"] [.ix (.v 0) (.n 1)])] [],.BA (.uA .Eq (.v 1) (.s "back")) [.ret (.make "Back" ["leap","most"] [.ix (.v 0) (.n 1),.ix (.v 0) (.n 2)])] [],.BA (.uA .Eq (.v 1) (.s "again")) [.ret (.make "Again" ["most"] [.ix (.v 0) (.n 1)])] [],.BA (.uA .Eq (.v 1) (.s "range")) [.ret (.make "Range" ["low","high"] [.ix (.v 0) (.n 1),.ix (.v 0) (.n 2)])] [],.BA (.uA .Eq (.v 1) (.s "above")) [.ret (.make "Above" ["one","other"] [.ix (.v 0) (.n 1),.ix (.v 0) (.n 2)])] [],.ret (.make "Never" ["one","other","way"] [.ix (.v 0) (.n 1),.ix (.v 0) (.n 2),.ix (.v 0) (.n 3)])],false⟩
def S3:Fn:=⟨[true],0,[.ret (.comp V0 [1] .of [.ix (.v 0) (.n 4)] [] [] 2)],false⟩
def A3:Fn:=⟨[true,true,true,false],4,[.WA 4 (.l []),.for [5,6] false (.enum 0) [.v 1] HZ,.ret (.v 4)],false⟩
def N3:Fn:=⟨[true],0,[.ret (.bif .max [.n 3,.qA .Add (.n 1) (.bif .max [.comp Q0 [1] .of [.ix (.v 0) (.n 3)] [] [] 2])])],false⟩
def A4:Fn:=⟨[true,false],1,[.WA 2 (.call "g" [.v 0]),.BA (.uA .LtE (.v 1) (.v 2)) [.ret (.v 1)] [],.ret (.qA .Add (.v 2) (.qA .Mod (.qA .Sub (.v 1) (.v 2)) (.ix (.v 0) (.n 1))))],false⟩
noncomputable def Z3:Fn:=⟨[true,true],0,[.ret (.t [.call "A" [.v 0,.bif .len [.v 1]],.bif .tuple [.sl (.v 1) (.neg (.call "g" [.v 0])) .UD]])],false⟩
def E3:Fn:=⟨[true,true,true],0,[.BA (.or (.not (.JI (.v 2) [.tuple])) (.uA .NotEq (.bif .len [.v 2]) (.bif .min [.v 1,.call "g" [.v 0]]))) [.ret (.b false)] [],.ret (.bif .all [.comp P0 [2] .of [.v 2] [] [0] 2])],false⟩
def D3:Fn:=⟨[true,true],0,[.BA (.or (.not (.JI (.v 1) [.tuple])) (.uA .NotEq (.bif .len [.v 1]) (.n 2))) [.ret (.b false)] [],.BA (.not (.call "p" [.ix (.v 1) (.n 0),.n 0,.qA .Sub (.qA .Add (.call "g" [.v 0]) (.ix (.v 0) (.n 1))) (.n 1)])) [.ret (.b false)] [],.ret (.call "C" [.v 0,.ix (.v 1) (.n 0),.ix (.v 1) (.n 1)])],false⟩
def M3:Fn:=⟨[true],0,[.ret (.qA .Add (.qA .Mult (.l [.n 0]) (.qA .Sub (.ix (.v 0) (.n 0)) (.bif .len [.ix (.v 0) (.n 1)]))) (.bif .list [.ix (.v 0) (.n 1)]))],false⟩
def Q3:Fn:=⟨[true,true],2,[.WA 2 (.call "z" [.v 0]),.WA 3 (.call "s" [.v 1]),.ret (.comp S0 [4] .jC [.ix (.v 0) (.n 0)] [.uA .Eq (.bif .len [.call "r" [.v 0,.v 2,.qA .Add (.v 1) (.l [.v 4]),.bif .len [.v 1]]]) (.n 0)] [0,3,2] 2)],false⟩
noncomputable def y3:Fn:=⟨[true,true,false],0,[.ret (.call "B" [.v 0,.qA .Add (.call "s" [.v 1]) (.l [.v 2])])],false⟩
def j4:Fn:=⟨[true,true],0,[.ret (.comp Z0 [3] .of [.call "t" [.v 0,.v 1]] [] [0,1] 2)],false⟩
def C3:Fn:=⟨[true,true],0,[.ret (.and (.JI (.v 1) [.tuple]) (.and (.uA .Eq (.bif .len [.v 1]) (.n 2)) (.and (.call "D" [.v 0,.ix (.v 1) (.n 0)]) (.call "o" [.ix (.v 1) (.n 1)]))))],false⟩
def L3:Fn:=⟨[true,true,false],1,[.for [3] true .of [.call "E" [.v 0,.v 2]] IZ,.ret (.uA .GtE (.ix (.v 1) (.v 2)) (.n 0))],false⟩
def T3:Fn:=⟨[true,true,true],1,[.BA (.not (.bif .all [.comp W0 [2] .of [.v 2] [] [0] 2])) [.ret (.b false)] [],.WA 3 (.bif .dict [.v 2]),.BA (.or (.uA .NotEq (.bif .len [.v 3]) (.bif .len [.v 2])) (.uA .NotIn (.v 1) (.v 3))) [.ret (.b false)] [],.ret (.bif .all [.comp X0 [3] .key [.uD 3] [] [0,3] 2])],false⟩
def N2:Fn:=⟨[true,false],1,[.BA (.and (.uA .Lt (.v 1) (.bif .len [.v 0])) (.uA .Eq (.qA .Mod (.ix (.v 0) (.n 0)) (.n 2)) (.n 0))) [.ret (.l [.n 0,.ix (.v 0) (.v 1)])] [],.WA 2 (.qA .Add (.qA .Mult (.n 30011) (.v 1)) (.n 7)),.BA (.uA .Gt (.bif .len [.v 0]) (.n 0)) [.WA 2 (.qA .Mod (.ix (.v 0) (.qA .Mod (.v 1) (.bif .len [.v 0]))) (.n 2147483587)),.WA 2 (.qA .Add (.qA .Add (.v 2) (.qA .Mult (.n 48611) (.qA .FloorDiv (.v 1) (.bif .len [.v 0])))) (.qA .Mult (.n 3) (.v 1)))] [],.ret (.l [.n 1,.qA .Mod (.qA .Add (.qA .Add (.qA .Mult (.v 2) (.n 48271)) (.qA .Mult (.n 11) (.v 1))) (.n 1)) (.n 2147483647)])],false⟩
def B2:Fn:=⟨[true,true],2,[.BA (.uA .Eq (.ix (.v 0) (.n 0)) (.n 0)) [.WA 2 (.qA .Mod (.ix (.v 0) (.n 1)) (.v 1)),.set 0 (.n 1) (.qA .FloorDiv (.ix (.v 0) (.n 1)) (.v 1)),.ret (.v 2)] [],.set 0 (.n 1) (.qA .Mod (.qA .Add (.qA .Mult (.ix (.v 0) (.n 1)) (.n 69621)) (.n 7)) (.n 2147483629)),.WA 3 (.qA .Mod (.qA .Mult (.qA .Add (.qA .Add (.qA .Mult (.qA .Mod (.ix (.v 0) (.n 1)) (.n 65521)) (.n 40503)) (.qA .FloorDiv (.ix (.v 0) (.n 1)) (.n 65521))) (.n 1)) (.n 16807)) (.n 2147483647)),.ret (.qA .Mod (.qA .FloorDiv (.v 3) (.n 13)) (.v 1))],false⟩
def O2:Fn:=⟨[true,true,true,true,true],4,[Pl,Ql,Rl,Ul,Vl,Wl,Xl,Yl,Zl,cm],false⟩
def YN:Fn:=⟨[true],9,[.WA 1 (.uA .Eq (.call "a" [.v 0,.n 2]) (.n 0)),.WA 2 (.qA .Add (.n 1) (.call "a" [.v 0,.ix (.l [.n 4,.n 7]) (.bif .int [.v 1])])),.WA 3 (.qA .Add (.n 1) (.call "a" [.v 0,.ix (.l [.n 2,.n 4]) (.bif .int [.v 1])])),.WA 4 (.qA .Add (.n 1) (.call "a" [.v 0,.n 12])),.WA 5 (.qA .Add (.n 1) (.call "a" [.v 0,.ix (.l [.n 2,.n 3]) (.bif .int [.v 1])])),.WA 6 (.l []),.for [7] true .jC [.v 5] CZ,.WA 9 (.l []),.for [7] true .jC [.call "a" [.v 0,.n 9]] DZ,.ret (.t [.v 2,.v 3,.v 4,.bif .tuple [.v 6],.bif .tuple [.v 9]])],false⟩
def E2:Fn:=⟨[true,true,true],5,[.WA 3 (.l []),.for [4,5,6] false .of [.qA .Add (.t [.t [.n 0,.n 0,.b false]]) (.ix (.v 0) (.n 3))] BZ,.ret (.v 3)],false⟩
def eS:Fn:=⟨[true,true,false],2,[.BA (.uA .Eq (.ix (.v 0) (.n 0)) (.s "leap")) [.ret (.and (.uA .Gt (.v 2) (.n 0)) (.uA .Gt (.bif .abs [.qA .Sub (.ix (.v 1) (.v 2)) (.ix (.v 1) (.qA .Sub (.v 2) (.n 1)))]) (.ix (.v 0) (.n 1))))] [],.BA (.uA .Eq (.ix (.v 0) (.n 0)) (.s "again")) [.ret (.and (.uA .GtE (.v 2) (.ix (.v 0) (.n 1))) (.uA .Eq (.zO (.sl (.v 1) (.qA .Sub (.v 2) (.ix (.v 0) (.n 1))) (.qA .Add (.v 2) (.n 1)))) (.n 1)))] [],.BA (.uA .Lt (.v 2) (.n 2)) [.ret (.b false)] [],.WA 3 (.qA .Sub (.ix (.v 1) (.qA .Sub (.v 2) (.n 1))) (.ix (.v 1) (.qA .Sub (.v 2) (.n 2)))),.WA 4 (.qA .Sub (.ix (.v 1) (.qA .Sub (.v 2) (.n 1))) (.ix (.v 1) (.v 2))),.BA (.uA .Lt (.v 3) (.n 0)) [.WA 4 (.qA .Sub (.n 0) (.v 4))] [],.ret (.and (.uA .GtE (.bif .abs [.v 3]) (.ix (.v 0) (.n 1))) (.not (.aG .Lt .LtE (.n 0) (.v 4) (.ix (.v 0) (.n 2)))))],false⟩
def K2:Fn:=⟨[true,false,false],0,[.BA (.uA .Eq (.v 0) (.s "any")) [.ret (.b true)] [],.BA (.uA .Eq (.v 0) (.s "aside")) [.ret (.and (.uA .In (.n 0) (.t [.v 1,.v 2])) (.uA .NotEq (.v 1) (.v 2)))] [],.BA (.uA .Eq (.v 0) (.s "like")) [.ret (.or (.and (.uA .Gt (.v 1) (.n 0)) (.uA .Gt (.v 2) (.n 0))) (.and (.uA .Lt (.v 1) (.n 0)) (.uA .Lt (.v 2) (.n 0))))] [],.ret (.or (.and (.uA .Gt (.v 1) (.n 0)) (.uA .Lt (.v 2) (.n 0))) (.and (.uA .Lt (.v 1) (.n 0)) (.uA .Gt (.v 2) (.n 0))))],false⟩
def zV:Fn:=⟨[true,true,true,true,false,false],1,[.BA (.or (.uA .Is (.ix (.v 3) (.v 4)) (.c .pA)) (.uA .Is (.ix (.v 3) (.v 5)) (.c .pA))) [.ret (.b false)] [],.WA 6 (.qA .Mod (.bif .abs [.qA .Sub (.ix (.v 3) (.v 4)) (.ix (.v 3) (.v 5))]) (.ix (.v 0) (.n 2))),.BA (.uA .Eq (.ix (.v 1) (.n 0)) (.s "span")) [.ret (.uA .Eq (.qA .Mod (.qA .FloorDiv (.ix (.v 1) (.n 2)) (.qA .LShift (.n 1) (.v 6))) (.n 2)) (.n 0))] [],.BA (.or (.uA .Is (.ix (.v 2) (.v 4)) (.c .pA)) (.or (.uA .Is (.ix (.v 2) (.v 5)) (.c .pA)) (.uA .NotEq (.v 6) (.ix (.v 1) (.n 2))))) [.ret (.b false)] [],.BA (.uA .NotEq (.qA .Mod (.bif .abs [.qA .Sub (.ix (.v 2) (.v 4)) (.ix (.v 2) (.v 5))]) (.ix (.v 0) (.n 2))) (.ix (.v 1) (.n 1))) [.ret (.b false)] [],.ret (.call "K" [.ix (.v 1) (.n 3),.qA .Sub (.ix (.v 3) (.v 4)) (.ix (.v 2) (.v 4)),.qA .Sub (.ix (.v 3) (.v 5)) (.ix (.v 2) (.v 5))])],false⟩
def lL:Fn:=⟨[true,true,true,false],7,[.WA 4 (.call "d" [.v 0,.v 2,.v 3]),.BA (.uA .Eq (.ix (.v 1) (.n 0)) (.s "range")) [.ret (.comp K0 [3] .jC [.bif .len [.v 4]] [.and (.uA .IsNot (.ix (.v 0) (.v 3)) (.c .pA)) (.not (.aG .LtE .LtE (.ix (.v 1) (.n 1)) (.ix (.v 0) (.v 3)) (.ix (.v 1) (.n 2))))] [4,1] 2)] [],.BA (.uA .Eq (.ix (.v 1) (.n 0)) (.s "above")) [.WA 6 (.ix (.v 4) (.ix (.v 1) (.n 1))),.WA 7 (.ix (.v 4) (.ix (.v 1) (.n 2))),.ret (.qA .Mult (.l [.t [.ix (.v 1) (.n 1),.ix (.v 1) (.n 2)]]) (.bif .int [.and (.uA .IsNot (.v 6) (.c .pA)) (.and (.uA .IsNot (.v 7) (.c .pA)) (.uA .Lt (.v 6) (.v 7)))]))] [],.BA (.uA .In (.ix (.v 1) (.n 0)) (.t [.s "leap",.s "back",.s "again"])) [.ret (.qA .Mult (.l [.t []]) (.bif .int [.call "l" [.v 1,.v 2,.v 3]]))] [],.BA (.or (.and (.uA .Eq (.ix (.v 1) (.n 0)) (.s "span")) (.uA .NotEq (.qA .Mod (.v 3) (.ix (.v 0) (.n 1))) (.ix (.v 1) (.n 1)))) (.and (.uA .Eq (.ix (.v 1) (.n 0)) (.s "never")) (.uA .Eq (.v 3) (.n 0)))) [.ret (.l [])] [],.WA 8 (.call "d" [.v 0,.v 2,.qA .Sub (.v 3) (.n 1)]),.WA 9 (.l []),.for [5] true .jC [.bif .len [.v 4]] KR,.ret (.v 9)],false⟩
def J2:Fn:=⟨[true],0,[.ret (.bif .max [.qA .Add (.l [.n 3]) (.comp L0 [1] .of [.ix (.v 0) (.n 3)] [] [] 2)])],false⟩
def P2:Fn:=⟨[true,true],2,[.WA 2 (.call "L" [.v 0]),.WA 3 (.bif .len [.v 1]),.BA (.uA .Gt (.v 3) (.v 2)) [.WA 3 (.qA .Add (.v 2) (.qA .Mod (.qA .Sub (.v 3) (.v 2)) (.ix (.v 0) (.n 1))))] [],.ret (.t [.v 3,.bif .tuple [.sl (.v 1) (.bif .max [.n 0,.qA .Sub (.bif .len [.v 1]) (.v 2)]) .UD]])],false⟩
def V1:Fn:=⟨[true],0,[.ret (.qA .Add (.qA .Mult (.l [.n 0]) (.qA .Sub (.ix (.v 0) (.n 0)) (.bif .len [.ix (.v 0) (.n 1)]))) (.bif .list [.ix (.v 0) (.n 1)]))],false⟩
def D2:Fn:=⟨[true,true],1,[.for [2] true .of [.ix (.v 0) (.n 4)] AZ,.ret (.b true)],false⟩
def Q2:Fn:=⟨[true,true],3,[.WA 2 (.l []),.for [3] true .jC [.ix (.v 0) (.n 0)] EZ,.ret (.v 2)],false⟩
def A2:Fn:=⟨[true,false],5,[.WA 2 (.TR (.v 1) (.c .pA)),.WA 3 (.l [.v 1]),.UT (.and (.uA .NotEq (.v 3) (.l [])) (.uA .LtE (.bif .len [.v 2]) (.n 150))) zP,.ret (.v 2)],false⟩
def AV:Fn:=⟨[false],5,[.WA 1 .aK,.for [2] true .jC [.qA .Add (.bif .len [.v 0]) (.n 1)] CP,.ret (.v 1)],false⟩
def C2:Fn:=⟨[true,true,false],5,[.WA 3 .aK,.for [4,5] false .of [.v 2] LR,.for [4] true .key [.uD 3] SU,.ret (.uA .In (.v 1) (.v 3))],false⟩
def BV:Fn:=⟨[true,true,false,true],4,[.WA 4 (.call "a" [.v 0,.n 9]),.WA 5 (.call "a" [.v 0,.qA .Add (.bif .len [.v 2]) (.n 1)]),.WA 6 (.qA .Sub (.call "a" [.v 0,.n 5]) (.n 2)),.WA 7 (.call "h" [.v 1,.comp VR [3] .jC [.call "a" [.v 0,.n 8]] [] [1,0] 2]),.BA (.uA .Eq (.v 4) (.n 0)) [.ret (.qA .Add (.sl (.v 2) .UD (.v 5)) (.sl (.v 2) (.qA .Add (.v 5) (.n 1)) .UD))] [],.BA (.uA .Eq (.v 4) (.n 1)) [.ret (.qA .Add (.qA .Add (.sl (.v 2) .UD (.v 5)) (.l [.t [.v 7,.qA .Add (.v 6) (.n 3)]])) (.sl (.v 2) (.v 5) .UD))] [],.BA (.and (.uA .Eq (.v 4) (.n 2)) (.uA .Lt (.v 5) (.bif .len [.v 2]))) [.ret (.qA .Add (.v 2) (.l [.ix (.v 2) (.v 5)]))] [],.BA (.and (.uA .Eq (.v 4) (.n 3)) (.uA .Lt (.v 5) (.bif .len [.v 2]))) [.ret (.qA .Add (.qA .Add (.sl (.v 2) .UD (.v 5)) (.l [.t [.ix (.ix (.v 2) (.v 5)) (.n 0),.qA .Add (.ix (.ix (.v 2) (.v 5)) (.n 1)) (.v 6)]])) (.sl (.v 2) (.qA .Add (.v 5) (.n 1)) .UD))] [],.BA (.uA .Eq (.v 4) (.n 4)) [.ret (.comp WR [2] .of [.v 2] [.uA .NotEq (.ix (.v 2) (.n 0)) (.v 0)] [3] 2)] [],.BA (.uA .Eq (.v 4) (.n 5)) [.ret (.rev (.v 2))] [],.BA (.uA .Eq (.v 4) (.n 6)) [.ret (.comp HP [1,2] .of [.v 2] [] [] 3)] [],.BA (.uA .Eq (.v 4) (.n 7)) [.ret (.l [])] [],.ret (.v 2)],false⟩
noncomputable def X1:Fn:=⟨[true,true,false],2,[.WA 3 (.bif .list [.v 2]),.WA 4 (.call "H" [.v 0,.v 1,.v 3]),.ret (.and (.JI (.v 4) [.bool]) (.and (.uA .Eq (.v 4) (.call "P" [.v 0,.v 1,.v 2])) (.uA .Eq (.v 3) (.v 2))))],false⟩
def bG:Fn:=⟨[true],10,[.WA 1 (.call "J" [.call "k" [.v 0,.n 1]]),.WA 2 (.call "k" [.v 0,.n 2]),.BA (.uA .Gt (.call "a" [.v 2,.n 3]) (.n 0)) [.WA 3 (.ix (.l [.t [.s "range",.n 1,.n 60],.t [.s "leap",.n 0],.t [.s "again",.n 1],.t [.s "back",.n 1,.n 1]]) (.call "a" [.v 2,.n 4])),.WA 1 (.qA .Add (.sl (.v 1) .UD (.n 4)) (.t [.qA .Add (.t [.t [.s "again",.qA .Add (.n 1) (.call "a" [.v 2,.n 2])],.v 3]) (.sl (.ix (.v 1) (.n 4)) .UD (.n 6))]))] [],.WA 4 (.call "v" [.v 1,.t [.n 0,.t []]]),.BA (.uA .Gt (.bif .len [.v 4]) (.n 150)) [.WA 4 .aK] [],.WA 5 (.call "O" [.v 4]),.FO 6 (.qA .Add (.bif .sorted [.bif .list [.v 4]]) (.l [.t [.n 0,.t []]])) uX],false⟩
def TL:List (String×Fn):=[("o",J3),("p",K3),("w",R3),("x",V3),("i",y4),("f",X3),("b",B3),("q",W3),("y",O3),("R",X2),("S",Z2),("T",S2),("U",T1),("V",S1),("W",V2),("X",W2),("Y",R1),("Z",T2),("c",mL),("z",S3),("r",A3),("g",N3),("A",A4),("B",Z3),("C",E3),("D",D3),("s",M3),("t",Q3),("j",y3),("E",j4),("F",C3),("G",L3),("H",T3),("k",N2),("a",B2),("I",O2),("J",YN),("d",E2),("l",eS),("K",K2),("u",zV),("e",lL),("L",J2),("h",P2),("M",V1),("N",D2),("m",Q2),("v",A2),("O",AV),("P",C2),("Q",BV),("n",X1),("law",bG)]
def T:Tab:=λf=>TL.lookup f
theorem Xt:T.aA "o"=[true]:=rfl
theorem Yt:T.aA "p"=[true,true,true]:=rfl
theorem eu:T.aA "w"=[true,true]:=rfl
theorem ju:T.aA "x"=[true,true]:=rfl
theorem su:T.aA "i"=[true,true,true,true]:=rfl
theorem lu:T.aA "f"=[true,true,true]:=rfl
theorem Rt:T.aA "b"=[true,true,true]:=rfl
theorem ku:T.aA "q"=[true]:=rfl
theorem cu:T.aA "y"=[true,true,true]:=rfl
theorem Nt:T.aA "R"=[true,true,true,true]:=rfl
theorem Ot:T.aA "S"=[true,true]:=rfl
theorem Ht:T.aA "T"=[true,true,true,false]:=rfl
theorem Ts:T.aA "U"=[true,true,true,false]:=rfl
theorem Ss:T.aA "V"=[true,true,true,false]:=rfl
theorem Kt:T.aA "W"=[true,true,true,true]:=rfl
theorem Mt:T.aA "X"=[true,true]:=rfl
theorem Qs:T.aA "Y"=[true,true,true,true]:=rfl
theorem Jt:T.aA "Z"=[true,true,true,true]:=rfl
theorem fu:T.aA "c"=[true]:=rfl
theorem gu:T.aA "z"=[true]:=rfl
theorem Qt:T.aA "r"=[true,true,true,false]:=rfl
theorem bu:T.aA "g"=[true]:=rfl
theorem tu:T.aA "A"=[true,false]:=rfl
theorem ou:T.aA "B"=[true,true]:=rfl
theorem Wt:T.aA "C"=[true,true,true]:=rfl
theorem Vt:T.aA "D"=[true,true]:=rfl
theorem au:T.aA "s"=[true]:=rfl
theorem du:T.aA "t"=[true,true]:=rfl
theorem Pt:T.aA "j"=[true,true,false]:=rfl
theorem qu:T.aA "E"=[true,true]:=rfl
theorem Tt:T.aA "F"=[true,true]:=rfl
theorem Zt:T.aA "G"=[true,true,false]:=rfl
theorem iu:T.aA "H"=[true,true,true]:=rfl
theorem Bt:T.aA "k"=[true,false]:=rfl
theorem bt:T.aA "a"=[true,true]:=rfl
theorem Ct:T.aA "I"=[true,true,true,true,true]:=rfl
theorem wt:T.aA "J"=[true]:=rfl
theorem vt:T.aA "d"=[true,true,true]:=rfl
theorem Ys:T.aA "l"=[true,true,false]:=rfl
theorem zt:T.aA "K"=[true,false,false]:=rfl
theorem Ws:T.aA "u"=[true,true,true,true,false,false]:=rfl
theorem Xs:T.aA "e"=[true,true,true,false]:=rfl
theorem yt:T.aA "L"=[true]:=rfl
theorem Et:T.aA "h"=[true,true]:=rfl
theorem Us:T.aA "M"=[true]:=rfl
theorem qt:T.aA "N"=[true,true]:=rfl
theorem Ft:T.aA "m"=[true,true]:=rfl
theorem Zs:T.aA "v"=[true,false]:=rfl
theorem xt:T.aA "O"=[false]:=rfl
theorem jt:T.aA "P"=[true,true,false]:=rfl
theorem Dt:T.aA "Q"=[true,true,false,true]:=rfl
theorem Vs:T.aA "n"=[true,true,false]:=rfl
theorem xu:T "law"=some bG:=rfl
def vCa:bL (iG 23 0) "Span.__init__" ["beat","spans"]:=xO FF
def QP{d0 d1:D}:jH (some (.ins "Span" ["beat","spans"] [d0,d1])) "beat"=some (.sh d0):=(rfl)
def UP{d0 d1:D}:jH (some (.ins "Span" ["beat","spans"] [d0,d1])) "spans"=some (.sh d1):=(rfl)
def sCa:bL (iG 24 0) "Leap.__init__" ["most"]:=xO oF
def O1{d0:D}:jH (some (.ins "Leap" ["most"] [d0])) "most"=some (.sh d0):=(rfl)
def rCa:bL (iG 25 0) "Back.__init__" ["leap","most"]:=xO FF
def NP{d0 d1:D}:jH (some (.ins "Back" ["leap","most"] [d0,d1])) "leap"=some (.sh d0):=(rfl)
def OP{d0 d1:D}:jH (some (.ins "Back" ["leap","most"] [d0,d1])) "most"=some (.sh d1):=(rfl)
def qCa:bL (iG 26 0) "Again.__init__" ["most"]:=xO oF
def MP{d0:D}:jH (some (.ins "Again" ["most"] [d0])) "most"=some (.sh d0):=(rfl)
def uCa:bL (iG 27 0) "Range.__init__" ["low","high"]:=xO FF
def Q1{d0 d1:D}:jH (some (.ins "Range" ["low","high"] [d0,d1])) "low"=some (.sh d0):=(rfl)
def P1{d0 d1:D}:jH (some (.ins "Range" ["low","high"] [d0,d1])) "high"=some (.sh d1):=(rfl)
def pCa:bL (iG 28 0) "Above.__init__" ["one","other"]:=xO FF
def xV{d0 d1:D}:jH (some (.ins "Above" ["one","other"] [d0,d1])) "one"=some (.sh d0):=(rfl)
def yV{d0 d1:D}:jH (some (.ins "Above" ["one","other"] [d0,d1])) "other"=some (.sh d1):=(rfl)
def tCa:bL (iG 29 0) "Never.__init__" ["one","other","way"]:=xO yI
def aS{d0 d1 d2:D}:jH (some (.ins "Never" ["one","other","way"] [d0,d1,d2])) "one"=some (.sh d0):=(rfl)
def bS{d0 d1 d2:D}:jH (some (.ins "Never" ["one","other","way"] [d0,d1,d2])) "other"=some (.sh d1):=(rfl)
def dS{d0 d1 d2:D}:jH (some (.ins "Never" ["one","other","way"] [d0,d1,d2])) "way"=some (.sh d2):=(rfl)
def vJa:gG "Span" ["beat","spans"] "broken" CJ=some "R":=by decide +kernel
def sJa:gG "Leap" ["most"] "broken" CJ=some "T":=by decide +kernel
def rJa:gG "Back" ["leap","most"] "broken" CJ=some "U":=by decide +kernel
def qJa:gG "Again" ["most"] "broken" CJ=some "V":=by decide +kernel
def uJa:gG "Range" ["low","high"] "broken" CJ=some "W":=by decide +kernel
def pJa:gG "Above" ["one","other"] "broken" CJ=some "Y":=by decide +kernel
def tJa:gG "Never" ["one","other","way"] "broken" CJ=some "Z":=by decide +kernel
def fT:gG "Span" ["beat","spans"] "forbids" lN=some "S":=by decide +kernel
def IW:gG "Range" ["low","high"] "forbids" lN=some "X":=by decide +kernel
def qLa:JH (YE L) (iG 23 1) "broken" "Span.broken" X2:=vJ yI
def rLa:JH (YE L) (iG 23 2) "forbids" "Span.forbids" Z2:=vJ oF
def mLa:JH (YE L) (iG 24 1) "broken" "Leap.broken" S2:=vJ yI
def lLa:JH (YE L) (iG 25 1) "broken" "Back.broken" T1:=vJ yI
def kLa:JH (YE L) (iG 26 1) "broken" "Again.broken" S1:=vJ yI
def oLa:JH (YE L) (iG 27 1) "broken" "Range.broken" V2:=vJ yI
def pLa:JH (YE L) (iG 27 2) "forbids" "Range.forbids" W2:=vJ oF
def jLa:JH (YE L) (iG 28 1) "broken" "Above.broken" R1:=vJ yI
def nLa:JH (YE L) (iG 29 1) "broken" "Never.broken" T2:=vJ yI
def jMa:tR (YE L) (top 73) "law" bG:=vJ xI
end Tx
namespace Mx
open CI Tx
local macro_rules|`($f|||$n|||$a|||$v)=>`(run T $(Lean.mkIdent `W) ($n) $f $a=some (.ok ($v),$a))
abbrev _root_.CI.Sl.o(d:CI.D):CI.Sl:=.ow d false false
abbrev _root_.CI.Sl.p(d:CI.D):CI.Sl:=.ow d true false
abbrev _root_.CI.Sl.i(d:Int):CI.Sl:=.sh (.int d)
abbrev _root_.CI.RV.i(d:Int):CI.RV:=.sh (.int d)
abbrev _root_.CI.Sl.s(d:bA):CI.Sl:=.sh (.str d)
abbrev _root_.CI.RV.s(d:bA):CI.RV:=.sh (.str d)
abbrev _root_.CI.Sl.b(d:Bool):CI.Sl:=.sh (.bl d)
abbrev _root_.CI.RV.b(d:Bool):CI.RV:=.sh (.bl d)
local macro_rules | `(~~~$x)=>`(CI.Sl.p (.l (($x).map CI.D.int)))
local macro_rules | `(tactic| exists $x:ident)=>`(tactic| ((first | rw[hX (fn:=$x) rfl rfl rfl] | (rw[r2a (fn:=$x) rfl rfl rfl];unfold raised));unfold $x))
noncomputable def toD(f:Int×Int×Bool):D:=.t [.int f.1,.int f.2.1,.bl f.2.2]
def hW(no ba oc:Int)(fs:List (Int×Int×Bool))(rs:List D):D:=.t [.int no,.int ba,.int oc,.t (fs.map toD),.t rs]
set_option hygiene false in
local macro_rules | `(())=>`(hW no ba oc fs rs)
theorem pEa:PD (some ()) (.int 0)=some (.i no):=rfl
theorem qEa:PD (some ()) (.int 1)=some (.i ba):=rfl
theorem rEa:PD (some ()) (.int 2)=some (.i oc):=rfl
theorem sEa:PD (some ()) (.int 3)=some (.sh (.t (fs.map toD))):=rfl
theorem tEa:PD (some ()) (.int 4)=some (.sh (.t rs)):=rfl
abbrev rg(n:Nat):List D:=(XB n).map λ(j:Nat)=>D.int (j:Int)
set_option compiler.extract_closed false
local macro_rules | `(tactic| walk_at $s:str) => do if !s.getString.startsWith "!" then Lean.Macro.throwUnsupported else `(tactic| simp only[↓Xu, ↓Vz, ↓nR_, ↓Lx, ↓zZa, ↓zEa, ↓yEa, ↓vEa, ↓uEa, ↓bGa, ↓aGa, ↓oFa, ↓nFa, ↓mFa, ↓lFa, $[$((("Vv cw aw Xv Zv Yv bw Wv Yu Wz bKa cKa Nx V_ Rx Qx E_ D_ nAa mAa iGa a0a eFa dFa dGa Hz Iz jz hGa vVa wVa xVa yVa zVa aWa Qh rh Gz qz Lz Zg Yg Kz Xy kh jh lGa kGa gGa jOa zNa iOa eOa uNa wNa xNa sNa dOa hOa vNa tNa cOa yNa Wy Rg Qg cz Ov Mv Nv nv jv fv gv qv sv Zu tM dv yFa wz zFa zz xh sKa yz zx yx Xg Wg fz vW xEa Tg Sg gz Qw Pw Kw Jw Hw Sw Iw Ow Nw Uw Tw bYa Zy Bz qh ph oz gEa fEa Qu Ru Su Tu Uu Lh Kh Ih zQa aT xQa aRa wQa vQa Fz C6 ay aFa cFa bFa pFa kHa nHa mHa lHa oHa sFa rFa qFa K_ I_ J_ M_ L_ fFa gFa Pg bz H_ F_ G_ Ae Zz Xz Yz a_ b_ e_ d_ c_ L6 nz fDa dDa eDa gDa Ng wEa hFa az tDa sDa Og Nz nX uWa tWa sWa rWa EB qWa hLa gLa fLa WU iFa Hh Gh Sz wUa fh Oz iTa jTa pH Rz Oy Uy Qy Ky My Iy Sy Py Ly Jy Ny Qz r_ aAZ Pz Tz K1 J1 pTa iYa fGa iz T_ Yy iQa jQa bOa aOa fOa gOa zh Az yQa mz gh lz uz tFa uFa vFa N6 wFa xFa vz Ry Rw zg0 zg1 zs0 zs1 zb zm zi zc zn zr0 zr1 zl0 zl1 znt znf zko zks zkn dz eGa lDa kFa jFa Fh kTa Ez Bh nDa mDa kDa rDa Eh bh dh kz Dz tQa cGa Xt Yt eu ju su lu Rt ku cu Ot Mt fu gu Qt bu tu ou Wt Vt au du Pt qu Tt Zt iu Bt bt Ct wt vt Ys zt Ws Xs yt Et Us qt Ft Zs xt jt Dt Vs if_true if_false OJ decide_true decide_false Bool.true_eq_false not_true_eq_false not_false_eq_true and_self and_true true_and or_true true_or kC reduceIte Int.reduceLT Int.reduceLE Int.reduceGT Int.reduceNeg Nat.reduceAdd Nat.reduceLT Nat.reduceLeDiff Int.reduceEq Int.reduceNe Nat.reduceBEq AB RI vC HY Qa IH eM Kr uG YB wN yM F6 jGa Dq vY Fq wY pEa qEa rEa sEa tEa".splitOn " ")++(((s.getString.drop 1).toString.replace "%" "List.length_map").replace "&" "Bool.or_false Bool.false_or Bool.or_true Bool.true_or" |>.splitOn " ")).filter (· ≠ "") |>.toArray.map λx => Lean.mkIdent x.toName):term],*, *])
theorem rC:type_of% (And.intro @WU (And.intro @nX (And.intro @SG.{0} (And.intro @VQ.{0} (And.intro @aM.{0} (And.intro @tN.{0} (And.intro @Nc (And.intro @Ll (And.intro @Ml @Oh))))))))):=(And.intro @WU (And.intro @nX (And.intro @SG.{0} (And.intro @VQ.{0} (And.intro @aM.{0} (And.intro @tN.{0} (And.intro @Nc (And.intro @Ll (And.intro @Ml @Oh)))))))))
def B0(k s m:Int):Int:=if k=0 then s / m else(s*69621+7) % 2147483629
def UN(k s m:Int):Int:=if k=0 then s % m else((((s*69621+7) % 2147483629) % 65521*40503+((s*69621+7) % 2147483629) / 65521+1)*16807 % 2147483647) / 13 % m
def gy(h1:0<m)(h2:m<100000000000000000000000000000000000000000000000000000000000000000000000000000000):run T W (n+1) "a" [.p (.l [.int k,.int s]),.i m]=some (.ok (.i (UN k s m)),[.p (.l [.int k,.int (B0 k s m)]),.i m]):=by
 exists B2
 by_cases hk:k=0
 ·subst hk;unfold B0 UN
  walk_at "!"
 ·unfold B0 UN
  walk_at "!"
def dy(h:0<m):0<=UN k s m:=by unfold UN;split<;>exact iR _ (by lia)
def cy(h:0<m):UN k s m<m:=by unfold UN;split<;>exact bY _ h
def dr(h1:0<m)(h2:m<100000000000000000000000000000000000000000000000000000000000000000000000000000000):∃v s':Int,(0<=v/\v<m)/\run T W (n+1) "a" [.p (.l [.int k,.int s]),.i m]=some (.ok (.i v),[.p (.l [.int k,.int s']),.i m]):=⟨_,_,⟨dy h1,cy h1⟩,gy h1 h2⟩
def gL{W n:Nat}{k s m:Int}(h:0<m/\m<5000):∃v s':Int,(0<=v/\v<m)/\run T W (n+1) "a" [.p (.l [.int k,.int s]),.i m]=some (.ok (.i v),[.p (.l [.int k,.int s']),.i m]):=dr h.1 (Int.lt_trans h.2 (by decide))
noncomputable def MA(d9:List (List Int)):List D:=d9.map λis=>.t (is.map D.int)
def WW{l:List Int}:(l.map D.int).all (sC n)=true:=EE.mpr λd hd=>by
 obtain⟨i,_,rfl⟩:=JC.mp hd;cases n<;>rfl
def eLa(d9:List (List Int)):sC (n+2) (.l (MA d9))=true:=EE.mpr λd hd=>by
 obtain⟨t,_,rfl⟩:=JC.mp hd;exact WW
noncomputable def kG(ns:List Int)(k:Nat):Int×Int :=
 if k<ns.length/\ns.headD 0 % 2=0 then(0,ns.getD k 0)
 else(1,((if 0<ns.length then ns.getD (k % ns.length) 0 % 2147483587+48611*((k / ns.length:Nat):Int)+3*(k:Int) else 30011*(k:Int)+7)*48271+11*(k:Int)+1) % 2147483647)
def QU{ns:List Int}(h:k<ns.length):L2.qC (ns.map D.int) (k:Int)=some (.int (ns.getD k 0)):=by
 apply L2.XJ
 rw[iD,FC h];simp[h]
def N7{k:Nat}(hn:ns.length<=63)(hk:k<=100000):"k"|||n+1|||[.sh (.l (ns.map .int)),.i k]|||.ow (.l [.int (kG ns k).1,.int (kG ns k).2]):=by
 exists N2
 by_cases h0:ns=[]
 ·subst h0;have hb:decide ((k:Int)<((0:Nat):Int))=false:=VA (by lia);have qE:decide (((0:Nat):Int) > 0)=false:=rfl;have kS:decide (0<((0:Nat):Int))=false:=rfl;have hb3:decide ((k:Int)<0)=false:=VA (by lia)
  have ev:kG [] k=(1,((30011*(k:Int)+7)*48271+11*(k:Int)+1) % 2147483647):=by(unfold kG;rw[if_neg (by simp),if_neg (by simp)])
  walk_at "!nA"
 ·have uS:0<ns.length:=List.length_pos_iff.mpr h0;have kS:decide (0<(ns.length:Int))=true:=kB (by lia)
  have e0:(ns.map D.int)[0]?=some (.int (ns.headD 0)):=by cases ns with | nil=>exact absurd rfl h0 | cons a r=>rfl
  have e1:(0:Int)<(ns.length:Int):=by lia
  have e2:(ns.length:Int)<100000000000000000000000000000000000000000000000000000000000000000000000000000000:=by lia
  have e3:(k:Int) / (ns.length:Int)=((k / ns.length:Nat):Int):=by rw[Int.natCast_ediv]
  have e4:(k:Int) % (ns.length:Int)=((k % ns.length:Nat):Int):=by rw[Int.natCast_emod]
  have e5:=QU (k:=k % ns.length) (Ib _ uS);by_cases rK:k<ns.length
  ·have hb:decide ((k:Int)<(ns.length:Int))=true:=kB (by lia);have e6:=QU rK;by_cases hm:ns.headD 0 % 2=0
   ·have ev:kG ns k=(0,ns.getD k 0):=by unfold kG;rw[KA ⟨rK,hm⟩]
    walk_at "!nA"
   ·have jO:decide (ns.headD 0 % 2=0)=false:=VA hm
    have ev:kG ns k=(1,((ns.getD (k % ns.length) 0 % 2147483587+48611*((k / ns.length:Nat):Int)+3*(k:Int))*48271+11*(k:Int)+1) % 2147483647):=by(unfold kG;rw[if_neg (λz=>hm z.2),KA uS])
    walk_at "!nA"
  ·have hb:decide ((k:Int)<(ns.length:Int))=false:=VA (by lia)
   have ev:kG ns k=(1,((ns.getD (k % ns.length) 0 % 2147483587+48611*((k / ns.length:Nat):Int)+3*(k:Int))*48271+11*(k:Int)+1) % 2147483647):=by(unfold kG;rw[if_neg (λz=>rK z.1),KA uS])
   walk_at "!nA"
def Nn:((yA "span")==(yA "leap"))=false:=by decide +kernel
def Mn:((yA "span")==(yA "back"))=false:=by decide +kernel
def Ln:((yA "span")==(yA "again"))=false:=by decide +kernel
def Qn:((yA "span")==(yA "range"))=false:=by decide +kernel
def Kn:((yA "span")==(yA "above"))=false:=by decide +kernel
def Pn:((yA "span")==(yA "never"))=false:=by decide +kernel
def Um:PB .In (.str (yA "span")) (.t [.str (yA "leap"),.str (yA "back"),.str (yA "again")])=some false:=(rfl)
def cn:((yA "leap")==(yA "span"))=false:=by decide +kernel
def Xm:((yA "leap")==(yA "back"))=false:=by decide +kernel
def Wm:((yA "leap")==(yA "again"))=false:=by decide +kernel
def Zm:((yA "leap")==(yA "range"))=false:=by decide +kernel
def Vm:((yA "leap")==(yA "above"))=false:=by decide +kernel
def Ym:((yA "leap")==(yA "never"))=false:=by decide +kernel
def Pm:PB .In (.str (yA "leap")) (.t [.str (yA "leap"),.str (yA "back"),.str (yA "again")])=some true:=(rfl)
def Lm:((yA "back")==(yA "span"))=false:=by decide +kernel
def Im:((yA "back")==(yA "leap"))=false:=by decide +kernel
def Hm:((yA "back")==(yA "again"))=false:=by decide +kernel
def Km:((yA "back")==(yA "range"))=false:=by decide +kernel
def Gm:((yA "back")==(yA "above"))=false:=by decide +kernel
def Jm:((yA "back")==(yA "never"))=false:=by decide +kernel
def Om:PB .In (.str (yA "back")) (.t [.str (yA "leap"),.str (yA "back"),.str (yA "again")])=some true:=(rfl)
def Em:((yA "again")==(yA "span"))=false:=by decide +kernel
def Bm:((yA "again")==(yA "leap"))=false:=by decide +kernel
def Am:((yA "again")==(yA "back"))=false:=by decide +kernel
def Dm:((yA "again")==(yA "range"))=false:=by decide +kernel
def ym:((yA "again")==(yA "above"))=false:=by decide +kernel
def Cm:((yA "again")==(yA "never"))=false:=by decide +kernel
def Nm:PB .In (.str (yA "again")) (.t [.str (yA "leap"),.str (yA "back"),.str (yA "again")])=some true:=(rfl)
def Jn:((yA "range")==(yA "span"))=false:=by decide +kernel
def Gn:((yA "range")==(yA "leap"))=false:=by decide +kernel
def En:((yA "range")==(yA "back"))=false:=by decide +kernel
def Cn:((yA "range")==(yA "again"))=false:=by decide +kernel
def Bn:((yA "range")==(yA "above"))=false:=by decide +kernel
def Hn:((yA "range")==(yA "never"))=false:=by decide +kernel
def Rm:PB .In (.str (yA "range")) (.t [.str (yA "leap"),.str (yA "back"),.str (yA "again")])=some false:=(rfl)
def xm:((yA "above")==(yA "span"))=false:=by decide +kernel
def um:((yA "above")==(yA "leap"))=false:=by decide +kernel
def tm:((yA "above")==(yA "back"))=false:=by decide +kernel
def qm:((yA "above")==(yA "again"))=false:=by decide +kernel
def wm:((yA "above")==(yA "range"))=false:=by decide +kernel
def vm:((yA "above")==(yA "never"))=false:=by decide +kernel
def Mm:PB .In (.str (yA "above")) (.t [.str (yA "leap"),.str (yA "back"),.str (yA "again")])=some false:=(rfl)
def An:((yA "never")==(yA "span"))=false:=by decide +kernel
def xn:((yA "never")==(yA "leap"))=false:=by decide +kernel
def vn:((yA "never")==(yA "back"))=false:=by decide +kernel
def mn:((yA "never")==(yA "again"))=false:=by decide +kernel
def yn:((yA "never")==(yA "range"))=false:=by decide +kernel
def jn:((yA "never")==(yA "above"))=false:=by decide +kernel
def Qm:PB .In (.str (yA "never")) (.t [.str (yA "leap"),.str (yA "back"),.str (yA "again")])=some false:=(rfl)
def NB:type_of% (And.intro @Nn (And.intro @Mn (And.intro @Ln (And.intro @Qn (And.intro @Kn (And.intro @Pn (And.intro @Um (And.intro @cn (And.intro @Xm (And.intro @Wm (And.intro @Zm (And.intro @Vm (And.intro @Ym (And.intro @Pm (And.intro @Lm (And.intro @Im (And.intro @Hm (And.intro @Km (And.intro @Gm (And.intro @Jm (And.intro @Om (And.intro @Em (And.intro @Bm (And.intro @Am (And.intro @Dm (And.intro @ym (And.intro @Cm (And.intro @Nm (And.intro @Jn (And.intro @Gn (And.intro @En (And.intro @Cn (And.intro @Bn (And.intro @Hn (And.intro @Rm (And.intro @xm (And.intro @um (And.intro @tm (And.intro @qm (And.intro @wm (And.intro @vm (And.intro @Mm (And.intro @An (And.intro @xn (And.intro @vn (And.intro @mn (And.intro @yn (And.intro @jn @Qm)))))))))))))))))))))))))))))))))))))))))))))))):=(And.intro @Nn (And.intro @Mn (And.intro @Ln (And.intro @Qn (And.intro @Kn (And.intro @Pn (And.intro @Um (And.intro @cn (And.intro @Xm (And.intro @Wm (And.intro @Zm (And.intro @Vm (And.intro @Ym (And.intro @Pm (And.intro @Lm (And.intro @Im (And.intro @Hm (And.intro @Km (And.intro @Gm (And.intro @Jm (And.intro @Om (And.intro @Em (And.intro @Bm (And.intro @Am (And.intro @Dm (And.intro @ym (And.intro @Cm (And.intro @Nm (And.intro @Jn (And.intro @Gn (And.intro @En (And.intro @Cn (And.intro @Bn (And.intro @Hn (And.intro @Rm (And.intro @xm (And.intro @um (And.intro @tm (And.intro @qm (And.intro @wm (And.intro @vm (And.intro @Mm (And.intro @An (And.intro @xn (And.intro @vn (And.intro @mn (And.intro @yn (And.intro @jn @Qm))))))))))))))))))))))))))))))))))))))))))))))))
theorem vV:∀{j:Nat} {l:List S} {U:Env},NA P C W (l.take j) U=some (.nx,U')->NA P C W l U=NA P C W (l.drop j) U'
 | 0,l,U,h=>by
  rw[vY,K1] at h;cases h;rfl
 |j+1,[],U,h=>by
  rw[List.take_nil,K1] at h;cases h;rfl
 |j+1,s::l,U,h=>by
  rw[Dq,J1] at h;rw[J1,Fq]
  generalize ex P C W s U=r at *
  obtain _ | ⟨fl,U1⟩:=r
  ·cases h
  ·cases fl with
   |nx=>exact vV h
   |_=>cases h
def pw{j:Int}(h1:0<=j)(h2:j<=12):(0:Int)<2 ^ j.toNat/\(2:Int) ^ j.toNat<100000000000000000000000000000000000000000000000000000000000000000000000000000000:=by
 have h:j.toNat<=12:=by lia
 generalize j.toNat=q at h;have h3:2 ^ q<=2 ^ 12:=zq (by decide) h;have h4:(2:Int) ^ q<=4096:=by exact_mod_cast h3
 exact⟨vb (by decide),Int.lt_of_le_of_lt h4 (by decide)⟩
inductive AG(no ba oc ma:Int):D->Prop
 |span (a b:Int) (h1:0<=a) (h2:a<ba) (h3:0<=b) (h4:b<2 ^ oc.toNat):AG no ba oc ma (.t [.str "span",.int a,.int b])
 |leap (a:Int) (h1:0<=a) (h2:a<=12):AG no ba oc ma (.t [.str "leap",.int a])
 |back (a b:Int) (h1:1<=a) (h2:a<=12) (h3:1<=b) (h4:b<=12):AG no ba oc ma (.t [.str "back",.int a,.int b])
 |again (a:Int) (h1:1<=a) (h2:a<=3):AG no ba oc ma (.t [.str "again",.int a])
 |range (a b:Int) (h1:-60<=a) (h2:a<=b) (h3:b<=60):AG no ba oc ma (.t [.str "range",.int a,.int b])
 |above (v w:Nat) (h1:(v:Int)<=ma) (h2:(w:Int)<=ma) (h3:v≠w):AG no ba oc ma (.t [.str "above",.int v,.int w])
 |never (a b:Int) (x:bA) (h1:0<=a) (h2:a<oc) (h3:0<=b) (h4:b<oc) (h5:x="like"\/x="against"\/x="aside"\/x="any"):AG no ba oc ma (.t [.str "never",.int a,.int b,.str x])
def Co(h:0<=v/\v<2):∃q,PD (some (.l [.int a,.int b])) (.int v)=some (.i q)/\(q=a\/q=b):=by
 rcases(by lia:v=0\/v=1) with rfl | rfl
 ·exact⟨a,rfl,.inl rfl⟩
 ·exact⟨b,rfl,.inr rfl⟩
def xTa{W n:Nat}{k s0 no ba oc ma:Int}(hN:((1<=no/\no<=7)/\1<=ba/\ba<=4)/\(1<=oc/\oc<=12)/\1<=ma/\ma<=3) :
  ∃s' d,run T W (n+2) "I" [.p (.l [.int k,.int s0]),.i no,.i ba,.i oc,.i ma]=some (.ok (.sh d),[.p (.l [.int k,.int s']),.i no,.i ba,.i oc,.i ma])/\AG no ba oc ma d:=by
 exists O2
 unfold Pl Ql Rl Ul Vl Wl Xl Yl Zl cm;have g5:0<=oc:=by lia
 have g6:oc<=1000:=by lia
 have g0:0<ma+1:=by lia
 have dn:=@gL W n k;obtain⟨w,s,hw,d0⟩:=dn (s:=s0) (m:=9) (by lia);obtain⟨a,s1,ha,d1⟩:=dn (s:=s) (m:=ba) (by lia);by_cases c:w<2
 ·have c':decide (w<2)=true:=kB c;obtain⟨b,s2,hb,d2⟩:=dr (W:=W) (n:=n) (k:=k) (s:=s1) (pw g5 hN.2.1.2).1 (pw g5 hN.2.1.2).2;refine⟨s2,_, ?_,.span a b ha.1 ha.2 hb.1 hb.2⟩;clear dn hN hw ha hb c g0
  walk_at "!"
 rcases(by lia:w=2\/w=3\/w=4\/w=5\/w=6\/w=7\/w=8) with rfl | rfl | rfl | rfl | rfl | rfl | rfl
 ·obtain⟨e,s2,he,d2⟩:=dn (s:=s1) (m:=oc) (by lia);have x3:e<=1000:=by lia
  have x4:=he.1;have h4:(2:Int) ^ (e.toNat+1)<=2 ^ oc.toNat:=by exact_mod_cast zq (by decide) (show e.toNat+1<=oc.toNat by lia)
  rw[Int.pow_succ] at h4;have h5:(0:Int)<2 ^ e.toNat:=vb (by decide);refine⟨s2,_, ?_,.span a (2 ^ oc.toNat-1-2 ^ e.toNat) ha.1 ha.2 (by lia) (by lia)⟩;clear dn hN hw ha he c g0 h4 h5
  walk_at "!"
 all_goals clear d1 ha a s1
 ·obtain⟨v,s1,hv,d1⟩:=dn (s:=s) (m:=2) (by lia);obtain⟨q,hq,h⟩:=Co (a:=13) (b:=no+1) hv;obtain⟨a,s2,ha,d2⟩:=dn (s:=s1) (m:=q) (by lia);refine⟨s2,_, ?_,.leap a ha.1 (by lia)⟩;clear dn hN hw ha hv h c g0
  walk_at "!"
 ·obtain⟨a,s1,ha,d1⟩:=dn (s:=s) (m:=12) (by lia);obtain⟨b,s2,hb,d2⟩:=dn (s:=s1) (m:=12) (by lia);refine⟨s2,_, ?_,.back (1+a) (1+b) (by lia) (by lia) (by lia) (by lia)⟩;clear dn hN hw ha hb c g0
  walk_at "!"
 ·obtain⟨a,s1,ha,d1⟩:=dn (s:=s) (m:=3) (by lia);refine⟨s1,_, ?_,.again (1+a) (by lia) (by lia)⟩;clear dn hN hw ha c g0
  walk_at "!"
 ·obtain⟨a,s1,ha,d1⟩:=dn (s:=s) (m:=121) (by lia);obtain⟨b,s2,hb,d2⟩:=dn (s:=s1) (m:=20) (by lia);obtain⟨v,s3,hv,d3⟩:=dn (s:=s2) (m:=2) (by lia);obtain⟨q,hq,h⟩:=Co (a:=a-60) (b:=b-12) hv;obtain⟨r,s4,hr,d4⟩:=dn (s:=s3) (m:=61-q) (by lia);refine⟨s4,_, ?_,.range q (q+r) (by lia) (by lia) (by lia)⟩;clear dn hN hw ha hb hv hr h c g0
  walk_at "!"
 ·obtain⟨a,s1,ha,d1⟩:=dn (s:=s) (m:=ma+1) (by lia);obtain⟨b,s2,hb,d2⟩:=dn (s:=s1) (m:=ma) (by lia);obtain⟨i,rfl⟩:∃i:Nat,a=(i:Int):=⟨a.toNat,by lia⟩
  have e1:=iR ((i:Int)+1+b) (show ma+1≠0 by lia);have e2:=bY ((i:Int)+1+b) g0;obtain⟨j,hj⟩:∃j:Nat,((i:Int)+1+b) % (ma+1)=(j:Int):=⟨(((i:Int)+1+b) % (ma+1)).toNat,by lia⟩
  refine⟨s2,_, ?_,.above i j (by lia) (by lia) ?_⟩
  ·clear dn hN hw ha hb c e1 e2
   walk_at "!"
  ·rintro rfl
   have e3:=Int.emod_add_mul_ediv ((i:Int)+1+b) (ma+1);rw[hj] at e3;have e4:((i:Int)+1+b) / (ma+1)=0\/1<=((i:Int)+1+b) / (ma+1):=by have:=Cr (show 0<=(i:Int)+1+b by lia) (show 0<=ma+1 by lia);lia
   generalize ((i:Int)+1+b) / (ma+1)=z at *
   rcases e4 with rfl | e4
   ·lia
   ·have:=Int.mul_le_mul_of_nonneg_left e4 (show 0<=ma+1 by lia)
    lia
 ·obtain⟨a,s1,ha,d1⟩:=dn (s:=s) (m:=oc) (by lia);obtain⟨b,s2,hb,d2⟩:=dn (s:=s1) (m:=oc) (by lia);obtain⟨v,s3,hv,d3⟩:=dn (s:=s2) (m:=4) (by lia)
  obtain⟨x,hq,hx⟩:∃x:bA,PD (some (.t [.str "like",.str "against",.str "aside",.str "any"])) (.int v)=some (.s x)/\(x="like"\/x="against"\/x="aside"\/x="any"):=by
   rcases(by lia:v=0\/v=1\/v=2\/v=3) with rfl | rfl | rfl | rfl<;>exact⟨_,rfl,by simp⟩
  refine⟨s3,_, ?_,.never a b x ha.1 ha.2 hb.1 hb.2 hx⟩;clear dn hN hw ha hb hv hx c g0
  walk_at "!"
def ib(a b:Int):∃q,PD (some (.l [.int a,.int b])) (.int (if g=true then 1 else 0))=some (.i q)/\(q=a\/q=b):=by
 cases g
 ·exact⟨a,rfl,.inl rfl⟩
 ·exact⟨b,rfl,.inr rfl⟩
structure LH(no ba oc:Int)(fs:List (Int×Int×Bool)):Prop where
 n1:1<=no
 n2:no<=7
 b1:1<=ba
 b2:ba<=4
 o1:1<=oc
 o2:oc<=12
 l1:1<=fs.length
 l2:fs.length<=3
 f:∀f∈fs,0<=f.1/\f.1<=4/\-12<=f.2.1/\f.2.1<=12
def mBa{W n:Nat}{k s:Int}:∃s' no ba oc fs rs,run T W (n+3) "J" [.p (.l [.int k,.int s])]=some (.ok (.sh (.t [.int no,.int ba,.int oc,.t (fs.map toD),.t rs])),[.p (.l [.int k,.int s'])])/\LH no ba oc fs/\rs.length<=8/\∀d∈rs,AG no ba oc (fs.length:Int) d:=by
 rw[hX (fn:=YN) rfl rfl rfl];have dn:=@gL W (n+1) k;obtain⟨g0,s1,_,d0⟩:=dn (s:=s) (m:=2) (by lia);obtain⟨g,hg⟩:∃g,decide (g0=0)=g:=⟨_,rfl⟩
 obtain⟨q1,e1,h1⟩:=ib (g:=g) 4 7;obtain⟨v1,s2,w1,d1⟩:=dn (s:=s1) (m:=q1) (by lia);obtain⟨q2,e2,h2⟩:=ib (g:=g) 2 4;obtain⟨v2,s3,w2,d2⟩:=dn (s:=s2) (m:=q2) (by lia);obtain⟨v3,s4,w3,d3⟩:=dn (s:=s3) (m:=12) (by lia);obtain⟨q4,e4,h4⟩:=ib (g:=g) 2 3;obtain⟨v4,s5,w4,d4⟩:=dn (s:=s4) (m:=q4) (by lia)
 have hA:NA T.aA (run T W (n+2)) W (YN.body.take 6) ([.p (.l [.int k,.int s])]++HB YN.nl .un)=some (.nx,[.p (.l [.int k,.int s5]),.b g,.i (1+v1),.i (1+v2),.i (1+v3),.i (1+v4),.o (.l []),.un,.un,.un]):=by
  unfold YN;clear h1 h2 h4 w1 w2 w3 w4 dn
  walk_at "!"
 rw[vV hA];clear hA d0 d1 d2 d3 d4 hg e1 e2 e4;have n1:1<=1+v1/\1+v1<=7:=by lia
 have n2:1<=1+v2/\1+v2<=4:=by lia
 have n3:1<=1+v3/\1+v3<=12:=by lia
 have n4:1<=1+v4/\1+v4<=3:=by lia
 clear h1 h2 h4 w1 w2 w3 w4
 generalize 1+v1=no at *
 generalize 1+v2=ba at *
 generalize 1+v3=oc at *
 generalize 1+v4=ma at *
 have Jf:aAa .jC [.slot 5] [.p (.l [.int k,.int s5]),.b g,.i no,.i ba,.i oc,.i ma,.o (.l []),.un,.un,.un]=some (rg ma.toNat,none):=tJ rfl (by lia) (by lia)
 obtain⟨U1,ny,s6,fs,t7,t8,rfl,h7,h8,hl,hf⟩:=UM (bind:=bB true [7]) (body:=NA T.aA (run T W (n+2)) W CZ)
  (λpre U=>∃s6 fs t7 t8,U=[.p (.l [.int k,.int s6]),.b g,.i no,.i ba,.i oc,.i ma,.o (.l (fs.map toD)),t7,t8,.un]/\HA t7=true/\HA t8=true/\fs.length=pre.length/\∀f∈fs,0<=f.1/\f.1<=4/\-12<=f.2.1/\f.2.1<=12)
  (ds:=rg ma.toNat) (λpre d post wC U hU=>by
   obtain⟨s6,fs,t7,t8,rfl,h7,h8,hl,hf⟩:=hU
   have mB:pre.length<ma.toNat:=by
    have:=congrArg BH wC
    simp at this
    lia
   refine⟨_,by simp only[rC,EB h7]<;>rfl, ?_⟩;have ID:iB ((fs.map toD).length+1)=true:=MB (by simp;lia);obtain⟨q,e,hq⟩:=ib (g:=g) 2 5;obtain⟨a,u1,ha,c1⟩:=dn (s:=s6) (m:=q) (by lia);obtain⟨b,u2,hb,c2⟩:=dn (s:=u1) (m:=25) (by lia);obtain⟨t,u3,_,c3⟩:=dn (s:=u2) (m:=4) (by lia);refine⟨[.p (.l [.int k,.int u3]),.b g,.i no,.i ba,.i oc,.i ma,.o (.l ((fs++[(a,b-12,decide (t=0))]).map toD)),.sh d,.i a,.un], ?_,_,_,_,_,rfl,rfl,rfl,by simp[hl],λf hm=>?_⟩
   ·unfold CZ;clear hf wC mB hl Jf n1 n2 n3 n4 dn hq ha hb
    walk_at "!"
    simp only[UB,AB,RI,toD]
   ·rcases dE.mp hm with hm | hm
    ·exact hf f hm
    ·rw[kD.mp hm]
     refine⟨ha.1, ?_, ?_, ?_⟩<;>simp only<;>lia)
  (U:=[.p (.l [.int k,.int s5]),.b g,.i no,.i ba,.i oc,.i ma,.o (.l []),.un,.un,.un]) ⟨_,[],_,_,rfl,rfl,rfl,rfl,λf h=>nomatch h⟩
 have hl:fs.length=ma.toNat:=by rw[hl];simp
 obtain⟨v,s7,hv,d5⟩:=dn (s:=s6) (m:=9) (by lia);have ZE:∀U,aAa .jC [.val (.i v)] U=some (rg v.toNat,none):=λU=>tJ rfl (by lia) (by lia)
 obtain⟨U2,el2,s8,rs,Sn,rfl,K4,Rf,hR⟩:=UM (bind:=bB true [7]) (body:=NA T.aA (run T W (n+2)) W DZ)
  (λpre U=>∃s8 rs t7,U=[.p (.l [.int k,.int s8]),.b g,.i no,.i ba,.i oc,.i ma,.o (.l (fs.map toD)),t7,t8,.o (.l rs)]/\HA t7=true/\rs.length=pre.length/\∀d∈rs,AG no ba oc ma d)
  (ds:=rg v.toNat) (λpre d post wC U hU=>by
   obtain⟨s8,rs,t7,rfl,h7,hl,hR⟩:=hU
   have mB:pre.length<v.toNat:=by
    have:=congrArg BH wC
    simp at this
    lia
   refine⟨_,by simp only[rC,EB h7]<;>rfl, ?_⟩;have ID:iB (rs.length+1)=true:=MB (by lia);obtain⟨s9,dr,er,F5⟩:=xTa (W:=W) (n:=n) (k:=k) (s0:=s8) ⟨⟨n1,n2⟩,n3,n4⟩;refine⟨[.p (.l [.int k,.int s9]),.b g,.i no,.i ba,.i oc,.i ma,.o (.l (fs.map toD)),.sh d,t8,.o (.l (rs++[dr]))], ?_,_,_,_,rfl,rfl,by simp[hl],λd hd=>(dE.mp hd).elim (hR d) λq=>by rw[kD.mp q];exact F5⟩;unfold DZ;clear hR F5 hf wC mB hl Jf ny ZE hv d5 n1 n2 n3 n4 dn
   walk_at "!")
  (U:=[.p (.l [.int k,.int s7]),.b g,.i no,.i ba,.i oc,.i ma,.o (.l (fs.map toD)),t7,t8,.o (.l [])]) ⟨_,[],_,rfl,h7,rfl,λ_ z=>nomatch z⟩
 have Sf:rs.length<=8:=by rw[Rf];simp;lia
 have Of:(fs.length:Int)=ma:=by lia
 refine⟨s8,no,ba,oc,fs,rs, ?_,⟨n1.1,n1.2,n2.1,n2.2,n3.1,n3.2,by lia,by lia,hf⟩,Sf,by rw[Of];exact hR⟩;clear hf n1 n2 n3 n4 hl Rf hv hR Sf Of dn h7 h8 K4;unfold YN
 walk_at "!"
def Q7:"w"|||n+1|||[.sh (.t [.int DD,.int shift,.bl turned]),.i note]|||.i (if turned then shift-note else shift+note):=by
 exists R3
 cases turned<;>walk_at "!"
def jD(xs:List Int)(b:Int)(f:Int×Int×Bool):D :=
 if 0<=b-f.1/\b-f.1<xs.length then .int (if f.2.2=true then f.2.1-xs.getD (b-f.1).toNat 0 else f.2.1+xs.getD (b-f.1).toNat 0) else .pA
abbrev LD(fs:List (Int×Int×Bool)):List (Int×Int×Bool):=(0,0,false)::fs
def kX{v:Nat}(h:(LD fs)[v]?=some f) :
  "x"|||n+1|||[.sh (),.i v]|||.sh (toD f):=by
 exists V3
 cases v with
 |zero =>
  simp only[SG,lC] at h;subst h;have e:decide (((0:Nat):Int)=0)=true:=rfl
  walk_at "!"
  all_goals (try simp only[e])
  all_goals (try walk_at "!")
  all_goals rfl
 |succ v =>
  have h:fs[v]?=some f:=by simpa using h
  have e:decide (((v+1:Nat):Int)=0)=false:=VA (by lia);have e2:((v+1:Nat):Int)-1=(v:Int):=by lia
  have e3:L2.qC (fs.map toD) (v:Int)=some (toD f):=L2.XJ (by rw[iD,h];rfl);unfold hW
  walk_at "!"
def uc{xs:List Int}{i:Int}(h1:0<=i)(h2:i<xs.length):L2.qC (xs.map D.int) i=some (.int (xs.getD i.toNat 0)):=by
 have:=QU (ns:=xs) (k:=i.toNat) (by lia)
 have e:((i.toNat:Nat):Int)=i:=by lia
 rwa[e] at this
def M8{W n:Nat}{no ba oc:Int}{fs:List (Int×Int×Bool)}{rs:List D}{xs:List Int}{v:Nat}{b:Int}{p:Bool}{f:Int×Int×Bool}(h:(LD fs)[v]?=some f) :
  "i"|||n+2|||[.sh (),~~~xs,.i v,.i b]|||.sh (jD xs b f):=by
 exists y4
 have hs:=kX (W:=W) (n:=n) (no:=no) (ba:=ba) (oc:=oc) (rs:=rs) h;obtain⟨DD,shift,turned⟩:=f;simp only[toD] at hs;by_cases c:0<=b-DD/\b-DD<xs.length
 ·have e1:=uc c.1 c.2;have ev:jD xs b (DD,shift,turned)=.int (if turned=true then shift-xs.getD (b-DD).toNat 0 else shift+xs.getD (b-DD).toNat 0):=KA c;obtain⟨c1,c2⟩:=c;clear h
  walk_at "!kX Q7 nA"
 ·have ev:jD xs b (DD,shift,turned)=.pA:=if_neg c;by_cases c1:0<=b-DD
  ·have c2:¬b-DD<xs.length:=λz=>c ⟨c1,z⟩
   have aE:decide (b-DD<(xs.length:Int))=false:=VA c2;clear h c c2
   walk_at "!kX Q7 nA"
  ·have GD:decide (0<=b-DD)=false:=VA c1;clear h c c1
   walk_at "!kX Q7 nA"
def HQ:jD xs b f=.pA\/∃i,jD xs b f=.int i:=by
 unfold jD;split
 ·exact .inr ⟨_,rfl⟩
 ·exact .inl rfl
def rL(hl:fs.length<=1000) :
  "d"|||n+1|||[.sh (),~~~xs,.i b]|||.ow (.l ((LD fs).map (jD xs b))):=by
 exists E2
 have ID:iB (([]:List D).length+1+(fs.map toD).length)=true:=MB (by simp;lia);have zS:iB (0+1+fs.length)=true:=MB (by lia)
 have key:=UM (bind:=bB false [4,5,6]) (body:=NA T.aA (run T W n) W BZ)
  (λpre U=>∃(gs:List (Int×Int×Bool)) (t4 t5 t6 t7:Sl),pre=gs.map toD/\U=[.sh (),~~~xs,.i b,.o (.l (gs.map (jD xs b))),t4,t5,t6,t7]/\HA t4=true/\HA t5=true/\HA t6=true/\HA t7=true)
  (ds:=(LD fs).map toD) (λpre d post wC U hU=>by
   obtain⟨gs,t4,t5,t6,t7,rfl,rfl,h4,h5,h6,h7⟩:=hU;have aBa:d∈(LD fs).map toD:=by rw[wC];simp
   obtain⟨f,_,rfl⟩:=JC.mp aBa
   have mB:gs.length<=1000:=by
    have:=congrArg BH wC
    simp at this
    lia
   obtain⟨DD,shift,turned⟩:=f;have aCa:iB ((gs.map (jD xs b)).length+1)=true:=MB (by simp;lia);have bCa:iB (gs.length+1)=true:=MB (by lia);refine⟨[.sh (),~~~xs,.i b,.o (.l (gs.map (jD xs b))),.i DD,.i shift,.b turned,t7], ?_, ?_⟩
   ·unfold toD;simp only[rC,EB h4,EB h5,EB h6]
   ·refine⟨[.sh (),~~~xs,.i b,.o (.l ((gs++[(DD,shift,turned)]).map (jD xs b))),.i DD,.i shift,.b turned,.sh (jD xs b (DD,shift,turned))], ?_,gs++[(DD,shift,turned)],_,_,_,_,by simp,rfl,rfl,rfl,rfl,rfl⟩;unfold BZ;rw[UB,AB,RI];by_cases c:0<=b-DD/\b-DD<xs.length
    ·have e1:=uc c.1 c.2;have ev:jD xs b (DD,shift,turned)=.int (if turned=true then shift-xs.getD (b-DD).toNat 0 else shift+xs.getD (b-DD).toNat 0):=KA c;rw[ev];obtain⟨c1,c2⟩:=c;cases turned
     ·walk_at "!nA"
     ·walk_at "!nA"
    ·have ev:jD xs b (DD,shift,turned)=.pA:=if_neg c;rw[ev];by_cases c1:0<=b-DD
     ·have c2:¬b-DD<xs.length:=λz=>c ⟨c1,z⟩
      have aE:decide (b-DD<(xs.length:Int))=false:=VA c2
      walk_at "!nA"
     ·have GD:decide (0<=b-DD)=false:=VA c1
      walk_at "!nA")
  (U:=[.sh (),~~~xs,.i b,.o (.l []),.un,.un,.un,.un]) ⟨[],_,_,_,_,rfl,rfl,rfl,rfl,rfl,rfl⟩
 obtain⟨U',e,gs,t4,t5,t6,t7,hg,rfl,_⟩:=key
 have inj:∀{f g:Int×Int×Bool},toD f=toD g->f=g:=λ{f g} h=>by(obtain⟨a,b,c⟩:=f;obtain⟨a',b',c'⟩:=g;simp only[toD,D.t.injEq,eR,D.int.injEq,D.bl.injEq,and_true] at h;obtain⟨rfl,rfl,rfl⟩:=h;rfl)
 have hgs:gs=LD fs:=((List.map_inj_right (λa b h=>inj h)).mp hg).symm;subst hgs;have hi:aAa .of [.val (.sh (.t ((LD fs).map toD)))] [.sh (),~~~xs,.i b,.o (.l []),.un,.un,.un,.un]=some ((LD fs).map toD,none):=WS rfl;have hh:()=.t [.int no,.int ba,.int oc,.t (fs.map toD),.t rs]:=rfl;rw[hh] at e hi ⊢;rw[AB] at e hi;simp only[AB,toD] at e hi ⊢
 walk_at "!nA"
def eV{bind:D->Env->Option Env}(sel:Nat->Bool)(val:Nat->D)(J:Env->Prop)
  (step:∀(j:Nat) (d:D),ds[j]?=some d->∀U,J U->∃U1 U2,bind d U=some U1/\tests U1=some (.ok (.b (sel j)),U2)/\(sel j=true->∃v U3,QA U2=some (.ok v,U3)/\v.d=val j/\J U3)/\(sel j=false->J U2)) :
  ∀U,J U->∃U',jE tests QA bind ds [] U=some (.ok (((XB ds.length).filter sel).map val),U')/\J U':=by
 intro U hU
 obtain⟨vA,U',e,⟨rfl,hJ⟩,_⟩:=dH (λj vA U=>vA=((XB j).filter sel).map val/\J U)
  (λj d hd vA U hz=>by
   obtain⟨ha,hJ⟩:=hz;subst ha;obtain⟨U1,U2,h1,h2,h3,h4⟩:=step j d hd U hJ;refine⟨U1,sel j,U2,h1,h2,λhc=>?_,λhc=>?_⟩
   ·obtain⟨v,U3,h5,h6,h7⟩:=h3 hc;refine⟨v,U3,h5, ?_,h7⟩;rw[oU,UO,UB,h6];simp[hc]
   ·refine⟨?_,h4 hc⟩;rw[oU,UO,UB]
    simp[hc]) [] U ⟨rfl,hU⟩
 exact⟨U',e,hJ⟩
def ZU{xs:List Int}{b:Int}(hl:fs.length<=1000) :
  "b"|||n+3|||[.sh (),~~~xs,.i b]|||.ow (.l ((LD fs).map (jD xs b))):=by
 exists B3
 have hi:aAa .jC [.val (.i ((fs.length:Int)+1))] [.sh (),~~~xs,.i b]=some (rg (fs.length+1),none):=by(refine kM (tJ (n:=(fs.length:Int)+1) rfl (by lia) (by lia)) ?_;rw[show((fs.length:Int)+1).toNat=fs.length+1 from by lia])
 obtain⟨vA,Ui,e,⟨t4,rfl,aF,rfl⟩,hz⟩:=dH (tests:=gC T.aA (run T W (n+2)) []) (QA:=ev T.aA (run T W (n+2)) false O0) (bind:=bB true [4]) (ds:=rg (fs.length+1))
  (λj vA U=>∃(t4:Sl),U=[.i b,.sh (),~~~xs,.un,t4]/\HA t4=true/\vA=((LD fs).take j).map (jD xs b))
  (λj d hd vA U hU=>by
   obtain⟨t4,rfl,aF,rfl⟩:=hU
   have hj:j<fs.length+1:=by
    have:=(bE.mp hd).1
    simpa using this
   have ME:d=.int j:=by(rw[iD,WL hj] at hd;exact(eE hd).symm)
   subst ME;obtain⟨f,hf⟩:∃f,(LD fs)[j]?=some f:=⟨_,FC (by simp;lia)⟩
   have hs:=M8 (W:=W) (n:=n) (no:=no) (ba:=ba) (oc:=oc) (rs:=rs) (xs:=xs) (b:=b) (p:=true) hf;refine⟨_,true,_,by simp only[rC,EB aF]<;>rfl,AI,λ_=>?_,λz=>nomatch z⟩;refine⟨.sh (jD xs b f),[.i b,.sh (),~~~xs,.un,.i j], ?_,_,rfl,rfl, ?_⟩
   ·unfold O0;clear hd hj hf hi aF
    walk_at "!nA"
   ·rw[OK,hf,UB]
    rfl)
  [] [.i b,.sh (),~~~xs,.un,.un] ⟨_,rfl,rfl,rfl⟩
 have ht:(LD fs).take ((rg (fs.length+1)).length)=LD fs:=by(rw[NJ];simp)
 rw[ht] at e;have ID:iB ((LD fs).map (jD xs b)).length=true:=MB (by simp;lia);have zS:iB (fs.length+1)=true:=MB (by lia);clear hz aF ht hl
 walk_at "!nA"
 rw[cF hi]
 walk_at "!nA"
def OI(lo hi:Int):D->Bool
 |.int i=>!(decide (lo<=i)&&decide (i<=hi))
 |_=>false
def AO(n:Nat)(sel:Nat->Bool):List (List Int):=((XB n).filter sel).map λ(j:Nat)=>[(j:Int)]
def C7(hn:n<=1000):(AO n sel).length<=1000:=by
 unfold AO;rw[nA]
 have:=WT sel (XB n)
 simp at this
 lia
def vj:((XB n).filter sel).map (λ(j:Nat)=>D.t [.int j])=MA (AO n sel):=by
 unfold MA AO;rw[fE];rfl
def dTa(hd:d=.pA\/∃i,d=.int i):"X"|||n+1|||[.sh (.ins "Range" ["low","high"] [.int lo,.int hi]),.sh d]|||.b (OI lo hi d):=by
 exists W2
 rcases hd with rfl | ⟨i,rfl⟩
 ·have e:OI lo hi .pA=false:=rfl
  walk_at "!Q1 P1"
 ·have e:OI lo hi (.int i)=!(decide (lo<=i)&&decide (i<=hi)):=rfl;by_cases c:lo<=i
  ·have c':decide (lo<=i)=true:=kB c;rw[e,c',IH]
   walk_at "!Q1 P1"
  ·have c':decide (lo<=i)=false:=VA c;rw[e,c',eM]
   walk_at "!Q1 P1"
def dB(fs:List (Int×Int×Bool))(xs:List Int)(b:Int):List D:=(LD fs).map (jD xs b)
def Af{j:Nat}(h:(dB fs xs b)[j]?=some d):d=.pA\/∃i,d=.int i:=by
 unfold dB at h;rw[iD] at h
 cases q:(LD fs)[j]? with
 |none=>rw[q] at h;cases h
 |some f =>
  rw[q] at h;cases h;exact HQ
def nJ:(dB fs xs b).length=fs.length+1:=by unfold dB;simp
def S4{v:Nat}(h:(LD fs)[v]?=some f):(dB fs xs b)[v]?=some (jD xs b f):=by
 unfold dB;rw[iD,h];rfl
def oS{v:Nat}(h:(LD fs)[v]?=some f):(dB fs xs b).getD v .pA=jD xs b f:=by
 rw[MJ,S4 h];rfl
def bEa(h:v.d=.l ds):aAa (.enum 0) [.val v] U=some (fH 0 ds,none):=by(unfold aAa;simp only[h])
def ML(lo hi:Int)(fs:List (Int×Int×Bool))(xs:List Int)(b:Int):List (List Int):=AO (fs.length+1) λj=>OI lo hi ((dB fs xs b).getD j .pA)
def cTa(hl:fs.length<=900) :
  "W"|||n+4|||[.sh (.ins "Range" ["low","high"] [.int lo,.int hi]),.sh (),~~~xs,.i b]|||.ow (.l (MA (ML lo hi fs xs b))):=by
 exists V2
 have hc:run T W (n+3) "b" _=some (.ok (.ow (.l (dB fs xs b))),_):=ZU (no:=no) (ba:=ba) (oc:=oc) (fs:=fs) (rs:=rs) (xs:=xs) (b:=b) (by lia);have ZE:aAa (.enum 0) [.val (.ow (.l (dB fs xs b)))] [.sh (.ins "Range" ["low","high"] [.int lo,.int hi]),.sh (),~~~xs,.i b]=some (fH 0 (dB fs xs b),none):=bEa rfl
 obtain⟨Ui,e,t2,t3,rfl,aI,wL⟩:=eV (tests:=gC T.aA (run T W (n+3)) [.uJ 0 "forbids" lN [.v 3]]) (QA:=ev T.aA (run T W (n+3)) false M0) (bind:=bB false [2,3]) (ds:=fH 0 (dB fs xs b))
  (λj=>OI lo hi ((dB fs xs b).getD j .pA)) (λ(j:Nat)=>.t [.int j])
  (λU=>∃(t2 t3:Sl),U=[.sh (.ins "Range" ["low","high"] [.int lo,.int hi]),.un,t2,t3]/\HA t2=true/\HA t3=true)
  (λj d hd U hU=>by
   obtain⟨t2,t3,rfl,aI,wL⟩:=hU
   have hj:j<(dB fs xs b).length:=by
    have:=(bE.mp hd).1
    rwa[IP] at this
   have hg:=FC hj;rw[B1 hg,Int.zero_add] at hd;cases hd;generalize (dB fs xs b)[j]=x at hg;have qK:(dB fs xs b).getD j .pA=x:=by rw[MJ,hg];rfl
   have hk:=Af hg;have hf:=dTa (W:=W) (n:=n+2) (lo:=lo) (hi:=hi) hk;refine⟨_,[.sh (.ins "Range" ["low","high"] [.int lo,.int hi]),.un,.i j,.sh x],by simp only[rC,EB aI,EB wL]<;>rfl, ?_,λ_=>?_,λ_=>?_⟩
   ·simp only[qK]
    walk_at "!IW"
   ·refine⟨.sh (.t [.int j]),[.sh (.ins "Range" ["low","high"] [.int lo,.int hi]),.un,.i j,.sh x], ?_,rfl,_,_,rfl,rfl,rfl⟩;unfold M0
    walk_at "!IW"
   ·exact⟨_,_,rfl,rfl,rfl⟩)
  [.sh (.ins "Range" ["low","high"] [.int lo,.int hi]),.un,.un,.un] ⟨_,_,rfl,rfl,rfl⟩
 rw[IP,nJ,vj] at e;have hB:AO (fs.length+1) (λj=>OI lo hi ((dB fs xs b).getD j .pA))=ML lo hi fs xs b:=rfl;rw[hB] at e
 have ID:iB (MA (ML lo hi fs xs b)).length=true:=MB (by
  have:=C7 (n:=fs.length+1) (sel:=λj=>OI lo hi ((dB fs xs b).getD j .pA)) (by lia)
  unfold MA ML;simp only[nA]
  lia)
 walk_at "!IW"
 rw[cF ZE]
 walk_at "!IW"
noncomputable def AE(m v:Nat)(P:Nat->Nat->Bool):List (List Int):=((XB m).filter λj=>P v (v+1+j)).map λ(j:Nat)=>[(v:Int),((v+1+j:Nat):Int)]
def zE(n:Nat)(P:Nat->Nat->Bool):List (List Int):=(XB n).flatMap λv=>AE (n-(v+1)) v P
def nTa:AE (m+1) v P=AE m v P++(if P v (v+1+m)=true then [[(v:Int),((v+1+m:Nat):Int)]] else []):=by
 unfold AE;rw[oU,UO,UB];congr 1;by_cases h:P v (v+1+m)=true
 ·simp[h]
 ·simp[h]
def ml:(AE m v P).length<=m:=by
 unfold AE;rw[nA]
 have:=WT (λj=>P v (v+1+j)) (XB m)
 simpa using this
def Gj:(XB (m+1)).flatMap (λv=>AE (n-(v+1)) v P)=(XB m).flatMap (λv=>AE (n-(v+1)) v P)++AE (n-(m+1)) m P:=by
 rw[oU,List.flatMap_append];simp
theorem i9:∀(m:Nat),((XB m).flatMap (λv=>AE (n-(v+1)) v P)).length<=m*n
 | 0=>by simp
 |m+1=>by(rw[Gj,kC];have h1:=i9 (n:=n) (P:=P) m;have h2:=ml (m:=n-(m+1)) (v:=m) (P:=P);rw[Nat.succ_mul];omega)
def aX(hn:n<=30):(zE n P).length<=1000:=by
 have h1:=i9 (n:=n) (P:=P) n;have h2:n*n<=30*30:=Lr hn hn;unfold zE
 lia
def xX:MA (a++b)=MA a++MA b:=by unfold MA;rw[UB]
def EJ:(MA a).length=a.length:=by unfold MA;rw[nA]
def g8(E:List D->Sl->Sl->Env)(P:Nat->Nat->Bool)(n v:Nat)(vA:List (List Int))(ha:vA.length<=10000)(hn:n<=1000)
  (hb:∀(a:List D) (t:Sl) (d:D),HA t=true->bB true [iw] d (E a (.i v) t)=some (E a (.i v) (.sh d)))
  (hs:∀(a:List (List Int)) (w:Nat),v<w->w<n->a.length<=20000->body (E (MA a) (.i v) (.i w))=some (.nx,E (MA (a++(if P v w=true then [[(v:Int),(w:Int)]] else []))) (.i v) (.i w))) (t:Sl) (ht:HA t=true) :
  ∃t',cC (bB true [iw]) body ((XB (n-(v+1))).map λ(j:Nat)=>.int ((v:Int)+1+(j:Int))) (E (MA vA) (.i v) t)=some (.nx,E (MA (vA++AE (n-(v+1)) v P)) (.i v) t')/\HA t'=true:=by
 obtain⟨U',e,t',rfl,ZH⟩:=UM (bind:=bB true [iw]) (λpre U=>∃t',U=E (MA (vA++AE pre.length v P)) (.i v) t'/\HA t'=true)
  (ds:=(XB (n-(v+1))).map λ(j:Nat)=>.int ((v:Int)+1+(j:Int))) (λpre d post wC U hU=>by
   obtain⟨t',rfl,ZH⟩:=hU
   have mB:pre.length<n-(v+1):=by
    have:=congrArg BH wC
    simp at this;omega
   have hd:d=.int (((v+1+pre.length:Nat)):Int):=by
    have h1:((XB (n-(v+1))).map λ(j:Nat)=>D.int ((v:Int)+1+(j:Int)))[pre.length]?=some d:=by rw[wC];simp
    rw[iD,WL mB] at h1;simp only[FE,lC] at h1;rw[<- h1];congr 1
   subst hd;refine⟨_,hb _ _ _ ZH,_,hs _ (v+1+pre.length) (by omega) (by omega) ?_,.i ((v+1+pre.length:Nat):Int), ?_,rfl⟩
   ·have:=ml (m:=pre.length) (v:=v) (P:=P)
    rw[kC];omega
   ·rw[kC,YB,uG,nTa,GH])
  (U:=E (MA vA) (.i v) t) ⟨t,by simp[AE],ht⟩
 refine⟨t', ?_,ZH⟩;rw[e];simp
def J7(E:List D->Sl->Sl->Env)(P:Nat->Nat->Bool)(n:Nat)(hn:n<=30)
  (hb:∀(a:List D) (t t2:Sl) (d:D),HA t=true->bB true [iv] d (E a t t2)=some (E a (.sh d) t2))
  (hs:∀(vA:List (List Int)) (v:Nat) (t:Sl),v<n->vA.length<=10000->HA t=true->∃t',body (E (MA vA) (.i v) t)=some (.nx,E (MA (vA++AE (n-(v+1)) v P)) (.i v) t')/\HA t'=true) (t t2:Sl) (ht:HA t=true) (aI:HA t2=true) :
  ∃t' uE,cC (bB true [iv]) body (rg n) (E [] t t2)=some (.nx,E (MA (zE n P)) t' uE)/\HA t'=true/\HA uE=true:=by
 obtain⟨U',e,t',uE,rfl,ZH,NM⟩:=UM (bind:=bB true [iv]) (λpre U=>∃t' uE,U=E (MA ((XB pre.length).flatMap λv=>AE (n-(v+1)) v P)) t' uE/\HA t'=true/\HA uE=true)
  (ds:=rg n) (λpre d post wC U hU=>by
   obtain⟨t',uE,rfl,ZH,NM⟩:=hU
   have mB:pre.length<n:=by
    have:=congrArg BH wC
    simp at this
    lia
   have hd:d=.int ((pre.length:Nat):Int):=by
    have h1:(rg n)[pre.length]?=some d:=by rw[wC];simp
    rw[iD,WL mB] at h1;simp only[FE,lC] at h1;exact h1.symm
   subst hd
   obtain⟨t3,h3,h4⟩:=hs ((XB pre.length).flatMap λv=>AE (n-(v+1)) v P) pre.length uE mB (by
    have h1:=i9 (n:=n) (P:=P) pre.length;have h2:pre.length*n<=30*30:=Lr (by lia) hn
    lia) NM
   refine⟨_,hb _ _ _ _ ZH,_,h3,.i ((pre.length:Nat):Int),_, ?_,rfl,h4⟩
   rw[kC,YB,uG,Gj])
  (U:=E [] t t2) ⟨t,t2,by simp[MA],ht,aI⟩
 refine⟨t',uE, ?_,ZH,NM⟩;rw[e];unfold zE;simp
noncomputable def bF:D->Bool
 |.pA=>true
 |_=>false
def JD(hs:List D)(v w:Nat):Bool:=!bF (hs.getD v .pA) && !bF (hs.getD w .pA)
def pP(hs:List D):Prop:=∀d∈hs,d=.pA\/∃i,d=.int i
def iW:pP (dB fs xs b):=λd hd=>by
 obtain⟨f,_,rfl⟩:=JC.mp hd;exact HQ
def mH(h:pP hs)(hv:v<hs.length):∃d,L2.qC hs (v:Int)=some d/\hs.getD v .pA=d/\(d=.pA\/∃i,d=.int i):=by
 refine⟨hs[v],L2.XJ (FC hv), ?_,h _ (XO hv)⟩;rw[MJ,FC hv];rfl
def Jl(hh:pP hs)(hl:hs.length<=30) :
  "q"|||n+1|||[.p (.l hs)]|||.ow (.l (MA (zE hs.length (JD hs)))):=by
 exists W3
 have hi:aAa .jC [.val (.i hs.length)] [.p (.l hs),.o (.l []),.un,.un]=some (rg hs.length,none):=by(refine kM (tJ (n:=(hs.length:Int)) rfl (by lia) (by lia)) ?_;rw[YI])
 obtain⟨t',uE,e,ZH,NM⟩:=J7 (iv:=2) (body:=NA T.aA (run T W n) W KZ) (λa t t2=>[.p (.l hs),.o (.l a),t,t2]) (JD hs) hs.length hl
  (λa t t2 d ht=>by simp only[rC,EB ht])
  (λvA v t hv qL ht=>by
   have ZE:aAa .jC [.val (.i ((v:Int)+1)),.val (.i hs.length)] [.p (.l hs),.o (.l (MA vA)),.i v,t]=some ((XB (hs.length-(v+1))).map λ(j:Nat)=>.int ((v:Int)+1+(j:Int)),none):=by(refine kM (n6 (m:=(v:Int)+1) (n:=(hs.length:Int)) rfl rfl (by lia) (by lia)) ?_;rw[show((hs.length:Int)-((v:Int)+1)).toNat=hs.length-(v+1) from by lia])
   obtain⟨t3,e3,h3⟩:=g8 (iw:=3) (body:=NA T.aA (run T W n) W JZ) (λa t t2=>[.p (.l hs),.o (.l a),t,t2]) (JD hs) hs.length v vA qL (by lia)
    (λa t d ht=>by simp only[rC,EB ht])
    (λa w kW hw lJ=>by
     obtain⟨d1,a1,g1,k1⟩:=mH hh hv;obtain⟨d2,a2,g2,k2⟩:=mH hh hw;have ID:iB ((MA a).length+1)=true:=MB (by rw[EJ];lia);unfold JZ JD;rw[g1,g2];rcases k1 with rfl | ⟨i1,rfl⟩
     ·have e:bF .pA=true:=rfl
      walk_at "!nA"
      all_goals (try simp only[ZD])
     ·have e1:bF (.int i1)=false:=rfl;rcases k2 with rfl | ⟨i2,rfl⟩
      ·have e:bF .pA=true:=rfl
       walk_at "!nA"
       all_goals (try simp only[ZD])
      ·have e:bF (.int i2)=false:=rfl;have et:MA (a++[[(v:Int),(w:Int)]])=MA a++[.t [.int v,.int w]]:=by rw[xX];rfl
       walk_at "!nA") t ht
   refine⟨t3, ?_,h3⟩;unfold KZ
   walk_at "!nA") .un .un rfl rfl
 walk_at "!nA"
def BC(i:Int):Int:=if i<0 then -i else i
theorem ZC:(if i<0 then -i else i)=BC i:=rfl
def gx(xs:List Int)(i:Nat):Int:=xs.getD i 0
def cJ{xs:List Int}(h:k<xs.length):L2.qC (xs.map D.int) (k:Int)=some (.int (gx xs k)):=QU h
def LV(h:k<xs.length):gx xs k∈xs:=by
 unfold gx;rw[MJ,FC h];simp
noncomputable def kE(c:Bool):List (List Int):=if c=true then [[]] else []
def B7:(kE c).length<=1000:=by cases c<;>decide
def X7:bC .Mult (.l [.t []]) (.int (if c=true then 1 else 0))=some (.ow (.l (MA (kE c)))):=by
 cases c<;>exact GR (by decide) (by decide) (PF (by decide))
def AK(mo:Int)(xs:List Int):Nat->Bool
 | 0=>false
 |b+1=>decide (mo<BC (gx xs (b+1)-gx xs b))
def rHa{b:Nat}(hb:b<xs.length) :
  "T"|||n+1|||[.sh (.ins "Leap" ["most"] [.int mo]),.sh h,~~~xs,.i b]|||.ow (.l (MA (kE (AK mo xs b)))):=by
 exists S2
 match b,hb with
 | 0,hb =>
  have e:MA (kE (AK mo xs 0))=[]:=rfl;have c:decide (0<((0:Nat):Int))=false:=rfl
  walk_at "!O1 nA ZC"
 |b+1,hb =>
  have c:decide (0<((b+1:Nat):Int))=true:=kB (by lia);have i1:((b+1:Nat):Int)-1=((b:Nat):Int):=by lia
  have a0:=cJ (xs:=xs) (k:=b) (by lia);have a1:=cJ (xs:=xs) (k:=b+1) (by lia);have ev:AK mo xs (b+1)=decide (mo<BC (gx xs (b+1)-gx xs b)):=rfl;cases c1:decide (mo<BC (gx xs (b+1)-gx xs b))
  ·have e:MA (kE (AK mo xs (b+1)))=[]:=by rw[ev,c1];rfl
   clear ev
   walk_at "!O1 nA ZC"
  ·have e:MA (kE (AK mo xs (b+1)))=[.t []]:=by rw[ev,c1];rfl
   clear ev
   walk_at "!O1 nA ZC"
def fI(m:Nat)(xs:List Int)(b:Nat):List Int:=(xs.drop (b-m)).take m
def bH(m:Nat)(xs:List Int)(b:Nat):Bool:=decide ((m:Int)<=(b:Int))&&(fI m xs b).all λz=>decide (z=gx xs b)
def Nd{xs:List Int}(h:m<=b)(hb:b<=e)(he:e<=xs.length):zJ (some (.l (xs.map D.int))) (some (.int ((b:Int)-(m:Int)))) (some (.int e))=some (.ow (.l (((xs.drop (b-m)).take (m+(e-b))).map D.int))):=by
 have e1:(b:Int)-(m:Int)=((b-m:Nat):Int):=by lia
 show some (RV.ow (.l (aAp (xs.map D.int) (some ((b:Int)-(m:Int))) (some (e:Int)))))=_;rw[e1];unfold aAp;rw[HT.CQ,HT.CQ,nA,jR (by lia),jR (by lia),<- DY,<- EY,show e-(b-m)=m+(e-b) from by lia]
def JP{Z:List Int}:aD .all [.l (Z.map λz=>.bl (p z))]=some (.b (Z.all p)):=by
 have h:GF (Z.map λz=>.bl (p z))=some (Z.map p):=by
  induction Z with
  |nil=>rfl
  |cons z Z ih=>simp[GF,ih]
 show(GF _).map _=_;rw[h];simp[vU]
def Du{m:Nat}{h:D}{xs:List Int}{b:Nat}(hb:b<xs.length)(hm:m<=3) :
  "V"|||n+1|||[.sh (.ins "Again" ["most"] [.int m]),.sh h,~~~xs,.i b]|||.ow (.l (MA (kE (bH m xs b)))):=by
 exists S1
 by_cases c:(b:Int)<(m:Int)
 ·have c':decide ((b:Int)<(m:Int))=true:=kB c
  have e:MA (kE (bH m xs b))=[]:=by(unfold bH;rw[VA (by lia)];rfl)
  walk_at "!MP JP nA"
 ·have c':decide ((b:Int)<(m:Int))=false:=VA c;have hs:=Nd (xs:=xs) (m:=m) (b:=b) (e:=b) (by lia) (jB _) (by lia);rw[oR,Nat.add_zero] at hs;have hZ:((xs.drop (b-m)).take m)=fI m xs b:=rfl;rw[hZ] at hs
  have hv:bH m xs b=(fI m xs b).all λz=>decide (z=gx xs b):=by(unfold bH;rw[kB (by lia),IH])
  have hzl:(fI m xs b).length<=3:=by unfold fI;rw[HH];lia
  have a0:=cJ (k:=b) hb
  generalize fI m xs b=Z at *
  have hi:aAa .of [.val (.ow (.l (Z.map D.int)))] [.sh (.ins "Again" ["most"] [.int m]),.sh h,~~~xs,.i b]=some (Z.map D.int,none):=mQ rfl
  obtain⟨vA,Ui,e,⟨t4,rfl,aF,rfl⟩,hz⟩:=dH (tests:=gC T.aA (run T W n) []) (QA:=ev T.aA (run T W n) false J0) (bind:=bB true [3]) (ds:=Z.map D.int)
   (λj vA U=>∃(t4:Sl),U=[.i b,~~~xs,.un,t4]/\HA t4=true/\vA=(Z.take j).map λz=>.bl (decide (z=gx xs b)))
   (λj d hd vA U hU=>by
    obtain⟨t4,rfl,aF,rfl⟩:=hU;obtain⟨z,hz,rfl⟩:∃z,Z[j]?=some z/\D.int z=d:=by simpa using hd
    refine⟨_,true,_,by simp only[rC,EB aF]<;>rfl,AI,λ_=>?_,λz=>nomatch z⟩;refine⟨.b (decide (z=gx xs b)),[.i b,~~~xs,.un,.i z], ?_,_,rfl,rfl, ?_⟩
    ·unfold J0
     walk_at "!MP JP nA"
    ·rw[OK,hz,UB]
     rfl)
   [] [.i b,~~~xs,.un,.un] ⟨_,rfl,rfl,rfl⟩
  have ht:Z.take (Z.map D.int).length=Z:=by(rw[NJ];simp)
  rw[ht] at e;have ID:iB (Z.map λz=>D.bl (decide (z=gx xs b))).length=true:=MB (by simp;lia);have zS:iB Z.length=true:=MB (by lia);cases c1:Z.all λz=>decide (z=gx xs b)
  ·have e2:MA (kE (bH m xs b))=[]:=by rw[hv,c1];rfl
   clear hv
   walk_at "!MP JP nA"
   rw[cF hi]
   walk_at "!MP JP nA"
  ·have e2:MA (kE (bH m xs b))=[.t []]:=by rw[hv,c1];rfl
   clear hv
   walk_at "!MP JP nA"
   rw[cF hi]
   walk_at "!MP JP nA"
def Pc{b:Nat}(hb:b<xs.length) :
  "l"|||n+1|||[.sh (.t [.str "leap",.int mo]),~~~xs,.i b]|||.b (AK mo xs b):=by
 exists eS
 match b,hb with
 | 0,hb =>
  have e:AK mo xs 0=false:=rfl;have c:decide (0<((0:Nat):Int))=false:=rfl
  walk_at "!NB nA ZC"
 |b+1,hb =>
  have c:decide (0<((b+1:Nat):Int))=true:=kB (by lia);have i1:((b+1:Nat):Int)-1=((b:Nat):Int):=by lia
  have a0:=cJ (xs:=xs) (k:=b) (by lia);have a1:=cJ (xs:=xs) (k:=b+1) (by lia);have ev:AK mo xs (b+1)=decide (mo<BC (gx xs (b+1)-gx xs b)):=rfl
  walk_at "!NB nA ZC"
theorem Od:∀(l vA:List Int),vA.length<=(l.foldl WK vA).length
 |[],_=>jB _
 |a::l,vA=>by
  refine EC ?_ (Od l _);unfold WK;split
  ·exact jB _
  ·simp
theorem Pd(y:Int):∀l:List Int,decide (((l.foldl WK [y]).length:Int)=1)=l.all λz=>decide (z=y)
 |[]=>rfl
 |a::l=>by
  by_cases h:a=y
  ·subst h;have e:WK [a] a=[a]:=by unfold WK;simp
   rw[JK,e,Pd a l];simp
  ·have e:WK [y] a=[y,a]:=by
    unfold WK;rw[if_neg]
    ·rfl
    ·simp;lia
   have g:=Od l [y,a];rw[JK,e,VA (by simp only[YB,uG] at g;lia)];simp[h]
theorem aAx:∀l:List Int,rE (l.map D.int)=some l
 |[]=>rfl
 |a::l=>by simp only[AB,rE,aAx l,FE]
def ns_{l:List Int}(h:l.length<=1000):gj (some (.l (l.map D.int)))=some (.i ((l.foldl WK []).length:Int)):=by
 show nT (.l (l.map D.int))=_;unfold nT;simp only[aAx,KA h];unfold jq
 have e:(XB l.length).map (λi=>l.getD i 0)=l:=by
  apply List.ext_getElem
  ·simp
  ·intro i h1 h2;simp[h2]
 rw[e]
def Ux{x:Int}(hZ:Z≠[]):decide ((((Z++[x]).foldl WK []).length:Int)=1)=Z.all λz=>decide (z=x):=by
 match Z,hZ with
 |y::Z,_ =>
  have e:WK [] y=[y]:=rfl;rw[List.cons_append,JK,e,Pd];rw[List.all_append,vC,vC,HY,Qa];by_cases h:x=y
  ·subst h;simp
  ·have h':¬y=x:=λz=>h z.symm
   simp[h,h']
def fYa(h:m<=b)(hb:b<xs.length):(xs.drop (b-m)).take (m+(b+1-b))=fI m xs b++[gx xs b]:=by
 unfold fI gx;rw[show m+(b+1-b)=m+1 from by lia,OK,List.getElem?_drop,show b-m+m=b from by lia,MJ,FC hb];rfl
def Oc{m:Nat}{b:Nat}(hb:b<xs.length)(h1:1<=m)(h3:m<=3) :
  "l"|||n+1|||[.sh (.t [.str "again",.int m]),~~~xs,.i b]|||.b (bH m xs b):=by
 exists eS
 by_cases c:(m:Int)<=(b:Int)
 ·have c':decide ((m:Int)<=(b:Int))=true:=kB c
  have ev:bH m xs b=(fI m xs b).all λz=>decide (z=gx xs b):=by(unfold bH;rw[c',IH])
  have hl:(fI m xs b).length=m:=by unfold fI;rw[HH,lF];lia
  have hs:=Nd (xs:=xs) (m:=m) (b:=b) (e:=b+1) (by lia) (by lia) (by lia);rw[fYa (by lia) hb,show((b+1:Nat):Int)=(b:Int)+1 from by lia] at hs;have hn:=ns_ (l:=fI m xs b++[gx xs b]) (by simp;lia);have hd:=Ux (Z:=fI m xs b) (x:=gx xs b) (λz=>by rw[z] at hl;simp at hl;lia);rw[<- ev] at hd;clear ev hl c hb h1 h3
  walk_at "!NB nA ZC"
 ·have c':decide ((m:Int)<=(b:Int))=false:=VA c;have e:bH m xs b=false:=by unfold bH;rw[c'];rfl
  clear c hb h1 h3
  walk_at "!NB nA ZC"
def mw{fs:List (Int×Int×Bool)}{b:Nat}(hl:fs.length<=1000)(hb:b<xs.length) :
  "e"|||n+2|||[.sh (),.sh (.t [.str "leap",.int mo]),~~~xs,.i b]|||.ow (.l (MA (kE (AK mo xs b)))):=by
 exists lL
 walk_at "!NB rL Pc Oc X7 nA"
def gw{W n:Nat}{fs:List (Int×Int×Bool)}{m:Nat}{b:Nat}(hl:fs.length<=1000)(hb:b<xs.length)(h1:1<=m)(h3:m<=3) :
  "e"|||n+2|||[.sh (),.sh (.t [.str "again",.int m]),~~~xs,.i b]|||.ow (.l (MA (kE (bH m xs b)))):=by
 exists lL
 walk_at "!NB rL Pc Oc X7 nA"
def tTa:"c"|||n+1|||[.sh (.t [.str "leap",a])]|||.sh (.ins "Leap" ["most"] [a]):=by
 exists mL
 walk_at "!NB"
def rTa:"c"|||n+1|||[.sh (.t [.str "again",a])]|||.sh (.ins "Again" ["most"] [a]):=by
 exists mL
 walk_at "!NB"
def cH(lp mo:Int)(xs:List Int):Nat->Bool
 | 0=>false
 | 1=>false
 |b+2=>decide (lp<=BC (gx xs (b+1)-gx xs b)) && !(decide ((gx xs (b+1)-gx xs b)*(gx xs (b+2)-gx xs (b+1))<0)&&decide (BC (gx xs (b+2)-gx xs (b+1))<=mo))
def uv{b:Nat}(hb:b<xs.length)(hx:∀x∈xs,0<=x/\x<100) :
  "U"|||n+1|||[.sh (.ins "Back" ["leap","most"] [.int lp,.int mo]),.sh h,~~~xs,.i b]|||.ow (.l (MA (kE (cH lp mo xs b)))):=by
 exists T1
 match b,hb with
 | 0,hb =>
  have e:MA (kE (cH lp mo xs 0))=[]:=rfl;have c:decide (((0:Nat):Int)<2)=true:=rfl
  walk_at "!NP OP nA ZC"
 | 1,hb =>
  have e:MA (kE (cH lp mo xs 1))=[]:=rfl;have c:decide (((1:Nat):Int)<2)=true:=rfl
  walk_at "!NP OP nA ZC"
 |b+2,hb =>
  have c:decide (((b+2:Nat):Int)<2)=false:=VA (by lia);have i1:((b+2:Nat):Int)-1=((b+1:Nat):Int):=by lia
  have i2:((b+2:Nat):Int)-2=((b:Nat):Int):=by lia
  have a0:=cJ (xs:=xs) (k:=b) (by lia);have a1:=cJ (xs:=xs) (k:=b+1) (by lia);have a2:=cJ (xs:=xs) (k:=b+2) (by lia);have x0:=hx _ (LV (xs:=xs) (k:=b) (by lia));have x1:=hx _ (LV (xs:=xs) (k:=b+1) (by lia));have x2:=hx _ (LV (xs:=xs) (k:=b+2) (by lia));have ev:cH lp mo xs (b+2)=(decide (lp<=BC (gx xs (b+1)-gx xs b)) && !(decide ((gx xs (b+1)-gx xs b)*(gx xs (b+2)-gx xs (b+1))<0)&&decide (BC (gx xs (b+2)-gx xs (b+1))<=mo))):=rfl
  generalize gx xs b=p0 at *
  generalize gx xs (b+1)=p1 at *
  generalize gx xs (b+2)=p2 at *
  have m1:-18446744073709551616<p1-p0:=by lia
  have m2:p1-p0<18446744073709551616:=by lia
  clear hx hb x0 x1 x2;by_cases c1:BC (p1-p0)<lp
  ·have GD:decide (BC (p1-p0)<lp)=true:=kB c1;have PR:decide (lp<=BC (p1-p0))=false:=VA (by lia);have e:MA (kE (cH lp mo xs (b+2)))=[]:=by rw[ev,PR];rfl
   clear ev c1
   walk_at "!NP OP nA ZC"
  ·have GD:decide (BC (p1-p0)<lp)=false:=VA c1;have PR:decide (lp<=BC (p1-p0))=true:=kB (by lia);by_cases c2:(p1-p0)*(p2-p1)<0
   ·have aE:decide ((p1-p0)*(p2-p1)<0)=true:=kB c2;by_cases c3:BC (p2-p1)<=mo
    ·have xM:decide (BC (p2-p1)<=mo)=true:=kB c3;have e:MA (kE (cH lp mo xs (b+2)))=[]:=by rw[ev,PR,aE,xM];rfl
     clear ev c1 c2 c3
     walk_at "!NP OP nA ZC"
    ·have xM:decide (BC (p2-p1)<=mo)=false:=VA c3;have e:MA (kE (cH lp mo xs (b+2)))=[.t []]:=by rw[ev,PR,aE,xM];rfl
     clear ev c1 c2 c3
     walk_at "!NP OP nA ZC"
   ·have aE:decide ((p1-p0)*(p2-p1)<0)=false:=VA c2;have e:MA (kE (cH lp mo xs (b+2)))=[.t []]:=by rw[ev,PR,aE];rfl
    clear ev c1 c2
    walk_at "!NP OP nA ZC"
def KW{a h:Int}(ha:a≠0):a*h<0↔(a<0/\0<h)\/(0<a/\h<0):=by
 constructor
 ·intro q;rcases YQ a 0 with c | c | c
  ·rcases YQ h 0 with d | d | d
   ·exact absurd (zp c d) (by lia)
   ·rw[d,IY] at q;lia
   ·exact .inl ⟨c,d⟩
  ·exact absurd c ha
  ·rcases YQ h 0 with d | d | d
   ·exact .inr ⟨c,d⟩
   ·rw[d,IY] at q;lia
   ·exact absurd (Int.mul_pos c d) (by lia)
 ·rintro(⟨c,d⟩ | ⟨c,d⟩)
  ·exact Ap c d
  ·exact Bp c d
def xw{xs:List Int}{b:Nat}(hb:b<xs.length)(eQ:1<=lp) :
  "l"|||n+1|||[.sh (.t [.str "back",.int lp,.int mo]),~~~xs,.i b]|||.b (cH lp mo xs b):=by
 exists eS
 match b,hb with
 | 0,hb =>
  have e:cH lp mo xs 0=false:=rfl;have c:decide (((0:Nat):Int)<2)=true:=rfl
  walk_at "!NB nA ZC"
 | 1,hb =>
  have e:cH lp mo xs 1=false:=rfl;have c:decide (((1:Nat):Int)<2)=true:=rfl
  walk_at "!NB nA ZC"
 |b+2,hb =>
  have c:decide (((b+2:Nat):Int)<2)=false:=VA (by lia);have i1:((b+2:Nat):Int)-1=((b+1:Nat):Int):=by lia
  have i2:((b+2:Nat):Int)-2=((b:Nat):Int):=by lia
  have a0:=cJ (xs:=xs) (k:=b) (by lia);have a1:=cJ (xs:=xs) (k:=b+1) (by lia);have a2:=cJ (xs:=xs) (k:=b+2) (by lia);have ev:cH lp mo xs (b+2)=(decide (lp<=BC (gx xs (b+1)-gx xs b)) && !(decide ((gx xs (b+1)-gx xs b)*(gx xs (b+2)-gx xs (b+1))<0)&&decide (BC (gx xs (b+2)-gx xs (b+1))<=mo))):=rfl
  generalize gx xs b=p0 at *
  generalize gx xs (b+1)=p1 at *
  generalize gx xs (b+2)=p2 at *
  by_cases c1:lp<=BC (p1-p0)
  ·have GD:decide (lp<=BC (p1-p0))=true:=kB c1;have kH:p1-p0≠0:=λz=>by rw[z] at c1;simp only[BC] at c1;lia
   by_cases c0:p1-p0<0
   ·have PZ:decide (p1-p0<0)=true:=kB c0;by_cases c2:0<0-(p1-p2)
    ·have aE:decide (0<0-(p1-p2))=true:=kB c2;have q:decide ((p1-p0)*(p2-p1)<0)=true:=kB ((KW kH).mpr (.inl ⟨c0,by lia⟩));have q2:BC (p2-p1)=0-(p1-p2):=by unfold BC;rw[if_neg (by lia)];lia
     rw[ev,GD,q,q2];clear ev c0 c2 q q2 c1 kH eQ
     walk_at "!NB nA ZC"
    ·have aE:decide (0<0-(p1-p2))=false:=VA c2;have q:decide ((p1-p0)*(p2-p1)<0)=false:=VA (λz=>by rcases(KW kH).mp z with z | z<;>lia);rw[ev,GD,q];clear ev c0 c2 q c1 kH eQ
     walk_at "!NB nA ZC"
   ·have PZ:decide (p1-p0<0)=false:=VA c0;by_cases c2:0<p1-p2
    ·have aE:decide (0<p1-p2)=true:=kB c2;have q:decide ((p1-p0)*(p2-p1)<0)=true:=kB ((KW kH).mpr (.inr ⟨by lia,by lia⟩));have q2:BC (p2-p1)=p1-p2:=by unfold BC;rw[KA (by lia)];lia
     rw[ev,GD,q,q2];clear ev c0 c2 q q2 c1 kH eQ
     walk_at "!NB nA ZC"
    ·have aE:decide (0<p1-p2)=false:=VA c2;have q:decide ((p1-p0)*(p2-p1)<0)=false:=VA (λz=>by rcases(KW kH).mp z with z | z<;>lia);rw[ev,GD,q];clear ev c0 c2 q c1 kH eQ
     walk_at "!NB nA ZC"
  ·have GD:decide (lp<=BC (p1-p0))=false:=VA c1;rw[ev,GD];clear ev c1 eQ;by_cases c0:p1-p0<0
   ·have PZ:decide (p1-p0<0)=true:=kB c0;clear c0
    walk_at "!NB nA ZC"
   ·have PZ:decide (p1-p0<0)=false:=VA c0;clear c0
    walk_at "!NB nA ZC"
def jw{W n:Nat}{b:Nat}(hl:fs.length<=1000)(hb:b<xs.length)(eQ:1<=lp) :
  "e"|||n+2|||[.sh (),.sh (.t [.str "back",.int lp,.int mo]),~~~xs,.i b]|||.ow (.l (MA (kE (cH lp mo xs b)))):=by
 exists lL
 walk_at "!NB rL xw X7 nA"
def sTa:"c"|||n+1|||[.sh (.t [.str "back",a,b])]|||.sh (.ins "Back" ["leap","most"] [a,b]):=by
 exists mL
 walk_at "!NB"
def tw(hl:fs.length<=900) :
  "e"|||n+2|||[.sh (),.sh (.t [.str "range",.int lo,.int hi]),~~~xs,.i b]|||.ow (.l (MA (ML lo hi fs xs b))):=by
 exists lL
 have hh:run T W (n+1) "d" _=some (.ok (.ow (.l (dB fs xs b))),_):=rL (no:=no) (ba:=ba) (oc:=oc) (fs:=fs) (rs:=rs) (xs:=xs) (b:=b) (by lia)
 have ZE:aAa .jC [.val (.i ((dB fs xs b).length:Int))] [.sh (),.sh (.t [.str "range",.int lo,.int hi]),~~~xs,.i b,.o (.l (dB fs xs b)),.un,.un,.un,.un,.un,.un]=some (rg (fs.length+1),none):=by(have SD:=nJ (fs:=fs) (xs:=xs) (b:=b);refine kM (tJ (n:=((dB fs xs b).length:Int)) rfl (by lia) (by lia)) ?_;rw[YI,SD])
 obtain⟨Ui,e,t3,rfl,wL⟩:=eV (tests:=gC T.aA (run T W (n+1)) [.and (.uA .IsNot (.ix (.v 0) (.v 3)) (.c .pA)) (.not (.aG .LtE .LtE (.ix (.v 1) (.c (.int 1))) (.ix (.v 0) (.v 3)) (.ix (.v 1) (.c (.int 2)))))]) (QA:=ev T.aA (run T W (n+1)) false K0) (bind:=bB true [3]) (ds:=rg (fs.length+1))
  (λj=>OI lo hi ((dB fs xs b).getD j .pA)) (λ(j:Nat)=>.t [.int j])
  (λU=>∃(t3:Sl),U=[.p (.l (dB fs xs b)),.sh (.t [.str "range",.int lo,.int hi]),.un,t3]/\HA t3=true)
  (λj d hd U hU=>by
   obtain⟨t3,rfl,wL⟩:=hU
   have hj:j<fs.length+1:=by
    have:=(bE.mp hd).1
    simpa using this
   have ME:d=.int j:=by(rw[iD,WL hj] at hd;exact(eE hd).symm)
   subst ME;have hg:=FC (l:=dB fs xs b) (i:=j) (by rw[nJ];lia);generalize (dB fs xs b)[j]'(by rw[nJ];lia)=x at hg;have qK:(dB fs xs b).getD j .pA=x:=by rw[MJ,hg];rfl
   have hk:=Af hg;have hat:L2.qC (dB fs xs b) (j:Int)=some x:=L2.XJ hg;refine⟨_,[.p (.l (dB fs xs b)),.sh (.t [.str "range",.int lo,.int hi]),.un,.i j],by simp only[rC,EB wL]<;>rfl, ?_,λ_=>?_,λ_=>?_⟩
   ·simp only[qK];clear hd hj hg qK hh ZE wL;rcases hk with rfl | ⟨i,rfl⟩
    ·have e:OI lo hi .pA=false:=rfl
     walk_at "!NB"
    ·have e:OI lo hi (.int i)=!(decide (lo<=i)&&decide (i<=hi)):=rfl;by_cases c:lo<=i
     ·have c':decide (lo<=i)=true:=kB c;rw[e,c',IH];clear e c
      walk_at "!NB"
     ·have c':decide (lo<=i)=false:=VA c;rw[e,c',eM]
      walk_at "!NB"
   ·refine⟨.sh (.t [.int j]),[.p (.l (dB fs xs b)),.sh (.t [.str "range",.int lo,.int hi]),.un,.i j], ?_,rfl,_,rfl,rfl⟩;unfold K0
    walk_at "!NB"
   ·exact⟨_,rfl,rfl⟩)
  [.p (.l (dB fs xs b)),.sh (.t [.str "range",.int lo,.int hi]),.un,.un] ⟨_,rfl,rfl⟩
 have hle:(rg (fs.length+1)).length=fs.length+1:=by simp
 rw[hle,vj] at e;have hB:AO (fs.length+1) (λj=>OI lo hi ((dB fs xs b).getD j .pA))=ML lo hi fs xs b:=rfl;rw[hB] at e
 have ID:iB (MA (ML lo hi fs xs b)).length=true:=MB (by
  have:=C7 (n:=fs.length+1) (sel:=λj=>OI lo hi ((dB fs xs b).getD j .pA)) (by lia)
  unfold MA ML;simp only[nA]
  lia)
 walk_at "!NB"
 rw[cF ZE]
 walk_at "!NB"
def vTa:"c"|||n+1|||[.sh (.t [.str "range",a,b])]|||.sh (.ins "Range" ["low","high"] [a,b]):=by
 exists mL
 walk_at "!NB"
def WJ:D->D->Bool
 |.int i,.int j=>decide (i<j)
 |_,_=>false
def RL(c:Bool)(a b:Int):List (List Int):=if c=true then [[a,b]] else []
def vYa:(RL c a b).length<=1000:=by cases c<;>simp[RL]
def DR(fs:List (Int×Int×Bool))(xs:List Int)(b:Int)(v w:Nat):List (List Int):=RL (WJ ((dB fs xs b).getD v .pA) ((dB fs xs b).getD w .pA)) (v:Int) (w:Int)
def Au{rs:List D}{xs:List Int}{b:Int}{v w:Nat}(hv:v<fs.length+1)(hw:w<fs.length+1) :
  "Y"|||n+3|||[.sh (.ins "Above" ["one","other"] [.int v,.int w]),.sh (),~~~xs,.i b]|||.ow (.l (MA (DR fs xs b v w))):=by
 exists R1
 obtain⟨f,hf⟩:∃f,(LD fs)[v]?=some f:=⟨_,FC (by simp;lia)⟩
 obtain⟨g,hg⟩:∃g,(LD fs)[w]?=some g:=⟨_,FC (by simp;lia)⟩
 have h1:=M8 (W:=W) (n:=n) (no:=no) (ba:=ba) (oc:=oc) (rs:=rs) (xs:=xs) (b:=b) (p:=true) hf;have h2:=M8 (W:=W) (n:=n) (no:=no) (ba:=ba) (oc:=oc) (rs:=rs) (xs:=xs) (b:=b) (p:=true) hg;unfold DR;rw[oS hf,oS hg];have k1:=HQ (xs:=xs) (b:=b) (f:=f);have k2:=HQ (xs:=xs) (b:=b) (f:=g)
 generalize jD xs b f=d1 at *
 generalize jD xs b g=d2 at *
 clear hf hg hv hw;rcases k1 with rfl | ⟨i,rfl⟩
 ·have e:MA (RL (WJ .pA d2) (v:Int) (w:Int))=[]:=rfl
  walk_at "!xV yV"
 ·rcases k2 with rfl | ⟨j,rfl⟩
  ·have e:MA (RL (WJ (.int i) .pA) (v:Int) (w:Int))=[]:=rfl
   walk_at "!xV yV"
  ·by_cases c:i<j
   ·have c':decide (j<=i)=false:=VA (by lia)
    have e:MA (RL (WJ (.int i) (.int j)) (v:Int) (w:Int))=[.t [.int v,.int w]]:=by(unfold WJ;simp only;rw[kB c];rfl)
    clear c
    walk_at "!xV yV"
   ·have c':decide (j<=i)=true:=kB (by lia)
    have e:MA (RL (WJ (.int i) (.int j)) (v:Int) (w:Int))=[]:=by(unfold WJ;simp only;rw[VA c];rfl)
    clear c
    walk_at "!xV yV"
def Z7:bC .Mult (.l [.t [.int a,.int b]]) (.int (if c=true then 1 else 0))=some (.ow (.l (MA (RL c a b)))):=by
 cases c<;>exact GR (by decide) (by decide) (PF (by simp))
def a8:bC .Mult (.l [.t [.int a,.int b]]) (.int 0)=some (.ow (.l (MA (RL false a b)))):=GR (by decide) (by decide) (PF (by simp))
def fw{v w:Nat}(hl:fs.length<=900)(hv:v<fs.length+1)(hw:w<fs.length+1) :
  "e"|||n+2|||[.sh (),.sh (.t [.str "above",.int v,.int w]),~~~xs,.i b]|||.ow (.l (MA (DR fs xs b v w))):=by
 exists lL
 have hh:run T W (n+1) "d" _=some (.ok (.ow (.l (dB fs xs b))),_):=rL (W:=W) (n:=n) (no:=no) (ba:=ba) (oc:=oc) (fs:=fs) (rs:=rs) (xs:=xs) (b:=b) (by lia);obtain⟨f,hf⟩:∃f,(LD fs)[v]?=some f:=⟨_,FC (by simp;lia)⟩
 obtain⟨g,hg⟩:∃g,(LD fs)[w]?=some g:=⟨_,FC (by simp;lia)⟩
 have a1:L2.qC (dB fs xs b) (v:Int)=some (jD xs b f):=L2.XJ (S4 hf);have a2:L2.qC (dB fs xs b) (w:Int)=some (jD xs b g):=L2.XJ (S4 hg);unfold DR;rw[oS hf,oS hg];have k1:=HQ (xs:=xs) (b:=b) (f:=f);have k2:=HQ (xs:=xs) (b:=b) (f:=g)
 generalize jD xs b f=d1 at *
 generalize jD xs b g=d2 at *
 clear hf hg hv hw hl;rcases k1 with rfl | ⟨i,rfl⟩
 ·have e:WJ .pA d2=false:=rfl
  walk_at "!NB Z7 a8"
 ·rcases k2 with rfl | ⟨j,rfl⟩
  ·have e:WJ (.int i) .pA=false:=rfl
   walk_at "!NB Z7 a8"
  ·have e:WJ (.int i) (.int j)=decide (i<j):=rfl
   walk_at "!NB Z7 a8"
def qTa:"c"|||n+1|||[.sh (.t [.str "above",a,b])]|||.sh (.ins "Above" ["one","other"] [a,b]):=by
 exists mL
 walk_at "!NB"
def gQa(L:List O)(d:O)(f:O->Bool)(g:O->N):((XB L.length).filter λj=>f (L.getD j d)).map (λj=>g (L.getD j d))=(L.filter f).map g:=by
 have h:L=(XB L.length).map λj=>L.getD j d:=by
  apply Yq
  intro i;rw[iD];by_cases hi:i<L.length
  ·rw[WL hi,FC hi];simp[hi]
  ·rw[WI (by lia),WI (by simp;lia)];rfl
 have h2:(L.filter f).map g=(((XB L.length).map λj=>L.getD j d).filter f).map g:=congrArg (λl=>(l.filter f).map g) h;rw[h2,Ka,fE];rfl
def i_{n m v:Nat}{P Q:Nat->Nat->Bool}{R:List Int->Bool}(hR:∀w:Nat,R [(v:Int),(w:Int)]=Q v w):(AE m v P).filter R=AE m v λv w=>P v w&&Q v w:=by
 unfold AE;rw[Ka,List.filter_filter];congr 1
 apply Zq
 intro j _;simp only[Function.comp,hR,Bool.and_comm]
def Be{n:Nat}{P Q:Nat->Nat->Bool}{R:List Int->Bool}(hR:∀v w:Nat,R [(v:Int),(w:Int)]=Q v w):(zE n P).filter R=zE n λv w=>P v w&&Q v w:=by
 unfold zE;rw[List.filter_flatMap];congr 1
 funext v
 exact i_ (n:=n) (hR v)
def qF:D->Int
 |.int i=>i
 |_=>0
def vF(oc a b:Int):Int:=BC (a-b) % oc
def EK(ho:0<oc):"f"|||n+1|||[.i oc,.i a,.i b]|||.i (vF oc a b):=by
 exists X3
 unfold vF
 walk_at "!ZC"
def ZN(sp s:Int):Bool:=decide (sp / 2 ^ s.toNat % 2=0)
def t_(h:0<=sp):decide (gU (sp / 2 ^ s.toNat) 1=0)=ZN sp s:=by
 have hq:0<=sp / 2 ^ s.toNat:=Cr h (by exact Int.le_of_lt (vb (by decide)));unfold ZN;rw[PyProof.Rows.bitAnd_pp hq (by decide)];have e1:(1:Int).toNat=1:=rfl;rw[e1,Nat.and_one_is_mod];have e2:(((sp / 2 ^ s.toNat).toNat % 2:Nat):Int)=sp / 2 ^ s.toNat % 2:=by lia
 rw[e2]
def hWa(h:0<=sp)(hs:0<=s):"S"|||n+1|||[.sh (.ins "Span" ["beat","spans"] [.int be,.int sp]),.i s]|||.b (ZN sp s):=by
 exists Z2
 have e:=t_ (s:=s) h
 walk_at "!QP UP ZC"
def uM(oc sp:Int)(hs:List D)(v w:Nat):Bool:=ZN sp (vF oc (qF (hs.getD v .pA)) (qF (hs.getD w .pA)))
def ON(oc sp:Int)(hs:List D):List Int->Bool
 |[v,w]=>ZN sp (vF oc (qF (hs.getD v.toNat .pA)) (qF (hs.getD w.toNat .pA)))
 |_=>false
def QI(be sp ba oc:Int)(fs:List (Int×Int×Bool))(xs:List Int)(b:Int):List (List Int):=if b % ba=be then zE (fs.length+1) (λv w=>JD (dB fs xs b) v w&&uM oc sp (dB fs xs b) v w) else []
def Ki(h:is∈zE n P):∃v w:Nat,is=[(v:Int),(w:Int)]/\v<n/\w<n/\v<w/\P v w=true:=by
 obtain⟨v,hv,h⟩:=kU.mp h;have hv:=NK.mp hv;obtain⟨j,hj,rfl⟩:=JC.mp h;obtain⟨hj,hp⟩:=YO.mp hj;have hj:=NK.mp hj;exact⟨v,v+1+j,rfl,hv,by omega,by omega,hp⟩
def gWa(hl:fs.length<=20)(YH:0<=sp)(HM:0<ba)(vL:0<oc) :
  "R"|||n+4|||[.sh (.ins "Span" ["beat","spans"] [.int be,.int sp]),.sh (),~~~xs,.i b]|||.ow (.l (MA (QI be sp ba oc fs xs b))):=by
 exists X2
 by_cases c:b % ba=be
 ·have c':decide (b % ba=be)=true:=kB c;have hc:run T W (n+3) "b" _=some (.ok (.ow (.l (dB fs xs b))),_):=ZU (no:=no) (ba:=ba) (oc:=oc) (fs:=fs) (rs:=rs) (xs:=xs) (b:=b) (by lia);have pJ:=iW (fs:=fs) (xs:=xs) (b:=b);have SD:=nJ (fs:=fs) (xs:=xs) (b:=b);have XH:=Jl (W:=W) (n:=n+2) pJ (by lia);rw[SD] at XH
  have hB:QI be sp ba oc fs xs b=(zE (fs.length+1) (JD (dB fs xs b))).filter (ON oc sp (dB fs xs b)):=by(unfold QI;rw[KA c,Be (Q:=uM oc sp (dB fs xs b))];intro v w;rfl)
  generalize dB fs xs b=hs at *
  obtain⟨L,hL⟩:∃L,L=zE (fs.length+1) (JD hs):=⟨_,rfl⟩
  have pL:∀is∈L,∃v w:Nat,is=[(v:Int),(w:Int)]/\v<hs.length/\w<hs.length/\JD hs v w=true:=λis qJ=>by(rw[hL] at qJ;obtain⟨v,w,h1,h2,h3,_,h4⟩:=Ki qJ;exact⟨v,w,h1,by lia,by lia,h4⟩)
  have eO:L.length<=1000:=by rw[hL];exact aX (by lia)
  rw[<- hL] at XH hB;have ZE:aAa .of [.val (.ow (.l (MA L)))] [.sh (.ins "Span" ["beat","spans"] [.int be,.int sp]),.sh (),~~~xs,.i b,.i oc,.o (.l hs)]=some (MA L,none):=mQ rfl
  obtain⟨Ui,e,t4,t5,rfl,aF,AS⟩:=eV (tests:=gC T.aA (run T W (n+3)) [.uJ 2 "forbids" lN [.call "f" [.v 1,.ix (.v 0) (.v 4),.ix (.v 0) (.v 5)]]]) (QA:=ev T.aA (run T W (n+3)) false N0) (bind:=bB false [4,5]) (ds:=MA L)
   (λj=>ON oc sp hs (L.getD j [])) (λj=>.t ((L.getD j []).map D.int))
   (λU=>∃(t4 t5:Sl),U=[.p (.l hs),.i oc,.sh (.ins "Span" ["beat","spans"] [.int be,.int sp]),.un,t4,t5]/\HA t4=true/\HA t5=true)
   (λj d hd U hU=>by
    obtain⟨t4,t5,rfl,aF,AS⟩:=hU
    have hj:j<L.length:=by
     have:=(bE.mp hd).1
     rwa[EJ] at this
    have hg:=FC hj
    have hd2:d=.t (L[j].map D.int):=by(unfold MA at hd;rw[iD,hg] at hd;exact(eE hd).symm)
    have qK:L.getD j []=L[j]:=by rw[MJ,hg];rfl
    obtain⟨v,w,h1,hv,hw,XH⟩:=pL L[j] (XO hj);rw[h1] at hd2 qK;subst hd2;obtain⟨d1,a1,g1,k1⟩:=mH pJ hv;obtain⟨d2,a2,g2,k2⟩:=mH pJ hw;unfold JD at XH;rw[g1,g2,nB] at XH
    obtain⟨i1,rfl⟩:∃i,d1=.int i:=by
     rcases k1 with rfl | k1
     ·exact absurd XH.1 (by decide)
     ·exact k1
    obtain⟨i2,rfl⟩:∃i,d2=.int i:=by
     rcases k2 with rfl | k2
     ·exact absurd XH.2 (by decide)
     ·exact k2
    have L5:0<=vF oc i1 i2:=iR _ (by lia);have hfb:=hWa (W:=W) (n:=n+2) (be:=be) YH L5
    have lS:ON oc sp hs [(v:Int),(w:Int)]=ZN sp (vF oc i1 i2):=by(unfold ON;simp only[YI,g1,g2];rfl)
    refine⟨_,[.p (.l hs),.i oc,.sh (.ins "Span" ["beat","spans"] [.int be,.int sp]),.un,.i v,.i w],by simp only[AB,RI,rC,EB aF,EB AS]<;>rfl, ?_,λ_=>?_,λ_=>?_⟩
    ·simp only[qK,lS];clear hd hj hg qK lS h1 hv hw XH pL eO ZE hB hL hc pJ SD k1 k2 g1 g2 aF AS hl YH HM c L5
     walk_at "!fT EK QP UP"
    ·refine⟨.sh (.t [.int v,.int w]),[.p (.l hs),.i oc,.sh (.ins "Span" ["beat","spans"] [.int be,.int sp]),.un,.i v,.i w], ?_,by rw[qK];rfl,_,_,rfl,rfl,rfl⟩;unfold N0;clear hd hj hg qK lS h1 hv hw XH pL eO ZE hB hL hc pJ SD k1 k2 g1 g2 aF AS hl YH HM c L5 hfb a1 a2
     walk_at "!fT EK QP UP"
    ·exact⟨_,_,rfl,rfl,rfl⟩)
   [.p (.l hs),.i oc,.sh (.ins "Span" ["beat","spans"] [.int be,.int sp]),.un,.un,.un] ⟨_,_,rfl,rfl,rfl⟩
  rw[EJ,gQa L [] (ON oc sp hs) (λis=>D.t (is.map D.int))] at e;have bf:(L.filter (ON oc sp hs)).map (λis=>D.t (is.map D.int))=MA (QI be sp ba oc fs xs b):=by rw[hB];rfl
  rw[bf] at e
  have ID:iB (MA (QI be sp ba oc fs xs b)).length=true:=MB (by
   rw[EJ,hB]
   have:=WT (ON oc sp hs) L
   lia)
  clear hl aF AS hB bf pL eO hL pJ SD YH c
  walk_at "!fT EK QP UP"
  rw[cF ZE]
  walk_at "!fT EK QP UP"
 ·have c':decide (b % ba=be)=false:=VA c;have e:QI be sp ba oc fs xs b=[]:=if_neg c;have e2:MA []=[]:=rfl;clear c hl
  walk_at "!fT EK QP UP"
def yP(hh:pP hs)(hv:v<hs.length)(hw:w<hs.length)(o1:1<=oc)(o2:oc<=12) :
  "u"|||n+1|||[.sh (),.sh (.t [.str "span",.int be,.int sp]),.p (.l ah),.p (.l hs),.i v,.i w]|||.b (JD hs v w&&uM oc sp hs v w):=by
 exists zV
 obtain⟨d1,a1,g1,k1⟩:=mH hh hv;obtain⟨d2,a2,g2,k2⟩:=mH hh hw;unfold JD uM;rw[g1,g2];have vL:0<oc:=by lia
 rcases k1 with rfl | ⟨i1,rfl⟩
 ·have e:bF .pA=true:=rfl
  walk_at "!NB ZC"
 ·have e1:bF (.int i1)=false:=rfl;rcases k2 with rfl | ⟨i2,rfl⟩
  ·have e:bF .pA=true:=rfl
   walk_at "!NB ZC"
  ·have e:bF (.int i2)=false:=rfl;have e3:ZN sp (vF oc (qF (.int i1)) (qF (.int i2)))=decide (sp / 2 ^ (BC (i1-i2) % oc).toNat % 2=0):=rfl;have s0:0<=BC (i1-i2) % oc:=iR _ (by lia);have s1:BC (i1-i2) % oc<oc:=bY _ vL;have s2:BC (i1-i2) % oc<=1000:=by lia
   obtain⟨p1,p2⟩:=pw s0 (by lia)
   walk_at "!NB ZC"
def uw{b:Int}(hl:fs.length<=20)(HM:0<ba)(o1:1<=oc)(o2:oc<=12) :
  "e"|||n+2|||[.sh (),.sh (.t [.str "span",.int be,.int sp]),~~~xs,.i b]|||.ow (.l (MA (QI be sp ba oc fs xs b))):=by
 exists lL
 have hh:run T W (n+1) "d" _=some (.ok (.ow (.l (dB fs xs b))),_):=rL (W:=W) (n:=n) (no:=no) (ba:=ba) (oc:=oc) (fs:=fs) (rs:=rs) (xs:=xs) (b:=b) (by lia);have bQ:run T W (n+1) "d" _=some (.ok (.ow (.l (dB fs xs (b-1)))),_):=rL (W:=W) (n:=n) (no:=no) (ba:=ba) (oc:=oc) (fs:=fs) (rs:=rs) (xs:=xs) (b:=b-1) (by lia);by_cases c:b % ba=be
 ·have c':decide (b % ba=be)=true:=kB c;have pJ:=iW (fs:=fs) (xs:=xs) (b:=b);have SD:=nJ (fs:=fs) (xs:=xs) (b:=b);have hB:QI be sp ba oc fs xs b=zE (fs.length+1) (λv w=>JD (dB fs xs b) v w&&uM oc sp (dB fs xs b) v w):=KA c;rw[<- SD] at hB
  generalize dB fs xs b=hs at *
  generalize dB fs xs (b-1)=ah at *
  have hi:aAa .jC [.val (.i hs.length)] [.sh (),.sh (.t [.str "span",.int be,.int sp]),~~~xs,.i b,.o (.l hs),.un,.un,.un,.o (.l ah),.o (.l []),.un]=some (rg hs.length,none):=by(refine kM (tJ (n:=(hs.length:Int)) rfl (by lia) (by lia)) ?_;rw[YI])
  obtain⟨t',uE,e,ZH,NM⟩:=J7 (iv:=5) (body:=NA T.aA (run T W (n+1)) W KR) (λa t t2=>[.sh (),.sh (.t [.str "span",.int be,.int sp]),~~~xs,.i b,.o (.l hs),t,.un,.un,.o (.l ah),.o (.l a),t2]) (λv w=>JD hs v w&&uM oc sp hs v w) hs.length (by lia)
   (λa t t2 d ht=>by simp only[rC,EB ht])
   (λvA v t hv qL ht=>by
    have ZE:aAa .jC [.val (.i ((v:Int)+1)),.val (.i hs.length)] [.sh (),.sh (.t [.str "span",.int be,.int sp]),~~~xs,.i b,.o (.l hs),.i v,.un,.un,.o (.l ah),.o (.l (MA vA)),t]=some ((XB (hs.length-(v+1))).map λ(j:Nat)=>.int ((v:Int)+1+(j:Int)),none):=by(refine kM (n6 (m:=(v:Int)+1) (n:=(hs.length:Int)) rfl rfl (by lia) (by lia)) ?_;rw[show((hs.length:Int)-((v:Int)+1)).toNat=hs.length-(v+1) from by lia])
    obtain⟨t3,e3,h3⟩:=g8 (iw:=10) (body:=NA T.aA (run T W (n+1)) W JR) (λa t t2=>[.sh (),.sh (.t [.str "span",.int be,.int sp]),~~~xs,.i b,.o (.l hs),t,.un,.un,.o (.l ah),.o (.l a),t2]) (λv w=>JD hs v w&&uM oc sp hs v w) hs.length v vA qL (by lia)
     (λa t d ht=>by simp only[rC,EB ht])
     (λa w kW hw lJ=>by
      have lS:=yP (W:=W) (n:=n) (be:=be) (sp:=sp) (no:=no) (ba:=ba) (fs:=fs) (rs:=rs) (ah:=ah) pJ hv hw o1 o2;have ID:iB ((MA a).length+1)=true:=MB (by rw[EJ];lia);have et:MA (a++[[(v:Int),(w:Int)]])=MA a++[.t [.int v,.int w]]:=by rw[xX];rfl
      unfold JR
      generalize (JD hs v w&&uM oc sp hs v w)=q at *
      clear hi ZE pJ hl hv hw kW lJ qL ht hB SD hh bQ c o1 o2 HM;cases q
      ·walk_at "!NB yP"
       all_goals (try simp only[ZD])
      ·walk_at "!NB yP") t ht
    refine⟨t3, ?_,h3⟩;unfold KR;clear hi pJ hl hv qL ht h3 hB SD hh bQ c o1 o2 HM
    walk_at "!NB yP") .un .un rfl rfl
  rw[hB];clear hl pJ ZH NM hB SD c
  walk_at "!NB yP"
 ·have c':decide (b % ba=be)=false:=VA c;have e:QI be sp ba oc fs xs b=[]:=if_neg c;have e2:MA []=[]:=rfl;clear c hl
  walk_at "!NB yP"
def wTa:"c"|||n+1|||[.sh (.t [.str "span",a,b])]|||.sh (.ins "Span" ["beat","spans"] [a,b]):=by
 exists mL
 walk_at "!NB"
def fWa(hl:fs.length<=20):(QI be sp ba oc fs xs b).length<=1000:=by
 unfold QI;split
 ·exact aX (by lia)
 ·simp
def mGa(E:List D->Sl->Sl->Env)(R:List Int->Bool)(L:List (List Int))(hL:L.length<=1000)
  (hb:∀(a:List D) (t t2 d d2:_),HA t=true->HA t2=true->bB false [iv,iw] (.t [d,d2]) (E a t t2)=some (E a (.sh d) (.sh d2)))
  (hp:∀is∈L,∃v w:Nat,is=[(v:Int),(w:Int)])
  (hs:∀(a:List (List Int)) (v w:Nat),[(v:Int),(w:Int)]∈L->a.length<=2000->body (E (MA a) (.i v) (.i w))=some (.nx,E (MA (a++(if R [(v:Int),(w:Int)]=true then [[(v:Int),(w:Int)]] else []))) (.i v) (.i w))) (t t2:Sl) (ht:HA t=true) (aI:HA t2=true) :
  ∃t' uE,cC (bB false [iv,iw]) body (MA L) (E [] t t2)=some (.nx,E (MA (L.filter R)) t' uE)/\HA t'=true/\HA uE=true:=by
 have key:∀(M:List (List Int)) (vA:List (List Int)) (t t2:Sl),(∀is∈M,is∈L)->vA.length+M.length<=2000->HA t=true->HA t2=true->∃t' uE,cC (bB false [iv,iw]) body (MA M) (E (MA vA) t t2)=some (.nx,E (MA (vA++M.filter R)) t' uE)/\HA t'=true/\HA uE=true:=by
  intro M
  induction M with
  |nil=>intro vA t t2 _ _ h1 h2;exact⟨t,t2,by simp[MA,cC],h1,h2⟩
  |cons is M ih =>
   intro vA t t2 hM hl h1 h2;obtain⟨v,w,rfl⟩:=hp is (hM is (by simp));have e1:MA ([(v:Int),(w:Int)]::M)=.t [.int v,.int w]::MA M:=rfl;have IM:vA.length+M.length+1<=2000:=by simpa[zY] using hl
   rw[e1];simp only[cC,hb _ _ _ _ _ h1 h2,hs vA v w (hM _ (by simp)) (by lia)]
   obtain⟨t',uE,e,h3,h4⟩:=ih (vA++(if R [(v:Int),(w:Int)]=true then [[(v:Int),(w:Int)]] else [])) (.i v) (.i w) (λis h=>hM is (WC _ h)) (by
    rw[kC];split
    ·simp only[YB,uG];lia
    ·simp only[uG];lia) rfl rfl
   refine⟨t',uE, ?_,h3,h4⟩;rw[e,jY];by_cases q:R [(v:Int),(w:Int)]=true
   ·simp[q]
   ·simp[q]
 obtain⟨t',uE,e,h⟩:=key L [] t t2 (λ_ h=>h) (by simp;lia) ht aI;exact⟨t',uE,by simpa[MA] using e,h⟩
def RT(x:bA):Prop:=x="like"\/x="against"\/x="aside"\/x="any"
def rH(x:bA)(a b:Int):Bool:=if x==("like":bA) then decide (0<a*b) else if x==("against":bA) then decide (a*b<0) else if x==("aside":bA) then !(decide (a=0)==decide (b=0)) else true
def nG:((yA "against")==(yA "like"))=false:=by decide +kernel
def oG:((yA "aside")==(yA "like"))=false:=by decide +kernel
def pG:((yA "any")==(yA "like"))=false:=by decide +kernel
def qG:((yA "aside")==(yA "against"))=false:=by decide +kernel
def rG:((yA "any")==(yA "against"))=false:=by decide +kernel
def sG:((yA "any")==(yA "aside"))=false:=by decide +kernel
def NG:((yA "like")==(yA "any"))=false:=by decide +kernel
def OG:((yA "like")==(yA "aside"))=false:=by decide +kernel
def QG:((yA "against")==(yA "any"))=false:=by decide +kernel
def LG:((yA "against")==(yA "aside"))=false:=by decide +kernel
def MG:((yA "aside")==(yA "any"))=false:=by decide +kernel
def oJa(hx:RT x)(h1:-18446744073709551616<a)(h2:a<18446744073709551616):"y"|||n+1|||[.s x,.i a,.i b]|||.b (rH x a b):=by
 exists O3
 unfold rH;rcases hx with rfl | rfl | rfl | rfl
 ·walk_at "!nG oG pG qG rG sG NG OG QG LG MG CF vG wG xG"
 ·walk_at "!nG oG pG qG rG sG NG OG QG LG MG CF vG wG xG"
 ·walk_at "!nG oG pG qG rG sG NG OG QG LG MG CF vG wG xG"
 ·walk_at "!nG oG pG qG rG sG NG OG QG LG MG CF vG wG xG"
def Xj{a h:Int}:0<a*h↔(0<a/\0<h)\/(a<0/\h<0):=by
 constructor
 ·intro q;rcases YQ a 0 with c | c | c
  ·rcases YQ h 0 with d | d | d
   ·exact .inr ⟨c,d⟩
   ·rw[d,IY] at q;lia
   ·exact absurd (Ap c d) (by lia)
  ·rw[c,Int.zero_mul] at q;lia
  ·rcases YQ h 0 with d | d | d
   ·exact absurd (Bp c d) (by lia)
   ·rw[d,IY] at q;lia
   ·exact .inl ⟨c,d⟩
 ·rintro(⟨c,d⟩ | ⟨c,d⟩)
  ·exact Int.mul_pos c d
  ·exact zp c d
def hKa{a h:Int}:a*h<0↔(0<a/\h<0)\/(a<0/\0<h):=by
 have:=Xj (a:=a) (h:=-h)
 rw[Int.mul_neg] at this;constructor
 ·intro q;rcases this.mp (by lia) with z | z
  ·exact .inl ⟨z.1,by lia⟩
  ·exact .inr ⟨z.1,by lia⟩
 ·intro q
  have:=this.mpr (by rcases q with z | z;exact .inl ⟨z.1,by lia⟩;exact .inr ⟨z.1,by lia⟩)
  lia
def in2:PB .In (.int 0) (.t [.int a,.int b])=some (decide (a=0)||decide (b=0)):=by
 have h:PB .In (.int 0) (.t [.int a,.int b])=some (inD (.int 0) [.int a,.int b]):=rfl;rw[h];congr 1;unfold inD;show((a==0)||((b==0)||false))=_;rw[CF];rfl
def VM(hx:RT x):"K"|||n+1|||[.s x,.i a,.i b]|||.b (rH x a b):=by
 exists K2
 rcases hx with rfl | rfl | rfl | rfl
 ·have e:rH "like" a b=decide ((0<a/\0<b)\/(a<0/\b<0)):=by
   unfold rH;rw[KA (wN _)];exact aR.mpr Xj
  rw[e];by_cases c1:0<a
  ·have GD:decide (0<a)=true:=kB c1;have aE:decide (a<0)=false:=VA (by omega);by_cases c3:0<b
   ·have xM:decide (0<b)=true:=kB c3;rw[kB (p:=(0<a/\0<b)\/(a<0/\b<0)) (.inl ⟨c1,c3⟩)]
    walk_at "!nG oG pG qG rG sG NG OG QG LG MG CF vG wG xG"
   ·have xM:decide (0<b)=false:=VA c3;rw[VA (p:=(0<a/\0<b)\/(a<0/\b<0)) (by omega)]
    walk_at "!nG oG pG qG rG sG NG OG QG LG MG CF vG wG xG"
  ·have GD:decide (0<a)=false:=VA c1;by_cases c2:a<0
   ·have aE:decide (a<0)=true:=kB c2;have e2:decide ((0<a/\0<b)\/(a<0/\b<0))=decide (b<0):=aR.mpr (by omega);rw[e2]
    walk_at "!nG oG pG qG rG sG NG OG QG LG MG CF vG wG xG"
   ·have aE:decide (a<0)=false:=VA c2;rw[VA (p:=(0<a/\0<b)\/(a<0/\b<0)) (by omega)]
    walk_at "!nG oG pG qG rG sG NG OG QG LG MG CF vG wG xG"
 ·have e:rH "against" a b=decide ((0<a/\b<0)\/(a<0/\0<b)):=by
   unfold rH;rw[nG,if_neg (by decide),KA (wN _)];exact aR.mpr hKa
  rw[e];by_cases c1:0<a
  ·have GD:decide (0<a)=true:=kB c1;have aE:decide (a<0)=false:=VA (by omega);by_cases c3:b<0
   ·have xM:decide (b<0)=true:=kB c3;rw[kB (p:=(0<a/\b<0)\/(a<0/\0<b)) (.inl ⟨c1,c3⟩)]
    walk_at "!nG oG pG qG rG sG NG OG QG LG MG CF vG wG xG"
   ·have xM:decide (b<0)=false:=VA c3;rw[VA (p:=(0<a/\b<0)\/(a<0/\0<b)) (by omega)]
    walk_at "!nG oG pG qG rG sG NG OG QG LG MG CF vG wG xG"
  ·have GD:decide (0<a)=false:=VA c1;by_cases c2:a<0
   ·have aE:decide (a<0)=true:=kB c2;have e2:decide ((0<a/\b<0)\/(a<0/\0<b))=decide (0<b):=aR.mpr (by omega);rw[e2]
    walk_at "!nG oG pG qG rG sG NG OG QG LG MG CF vG wG xG"
   ·have aE:decide (a<0)=false:=VA c2;rw[VA (p:=(0<a/\b<0)\/(a<0/\0<b)) (by omega)]
    walk_at "!nG oG pG qG rG sG NG OG QG LG MG CF vG wG xG"
 ·have e:rH "aside" a b=((decide (a=0)||decide (b=0)) && !decide (a=b)):=by
   unfold rH;rw[oG,if_neg (by decide),qG,if_neg (by decide),KA (wN _)];by_cases h1:a=0
   ·by_cases h2:b=0
    ·simp[h1,h2]
    ·simp[h1,h2];omega
   ·by_cases h2:b=0
    ·simp[h1,h2]
    ·simp[h1,h2]
  rw[e];have VH:=in2 (a:=a) (b:=b);by_cases c1:a=0\/b=0
  ·have GD:(decide (a=0)||decide (b=0))=true:=by rcases c1 with h | h<;>simp[h]
   rw[GD] at VH ⊢
   walk_at "!nG oG pG qG rG sG NG OG QG LG MG CF vG wG xG"
  ·have GD:(decide (a=0)||decide (b=0))=false:=by
    rw[not_or] at c1;simp[c1.1,c1.2]
   rw[GD] at VH ⊢
   walk_at "!nG oG pG qG rG sG NG OG QG LG MG CF vG wG xG"
 ·have e:rH "any" a b=true:=by
   unfold rH;rw[pG,if_neg (by decide),rG,if_neg (by decide),sG,if_neg (by decide)]
  rw[e]
  walk_at "!nG oG pG qG rG sG NG OG QG LG MG CF vG wG xG"
def JL(one other oc:Int)(x:bA)(ah hs:List D)(v w:Nat):Bool :=
 decide (vF oc (qF (ah.getD v .pA)) (qF (ah.getD w .pA))=one)&&decide (vF oc (qF (hs.getD v .pA)) (qF (hs.getD w .pA))=other)&&rH x (qF (hs.getD v .pA)-qF (ah.getD v .pA)) (qF (hs.getD w .pA)-qF (ah.getD w .pA))
def LW(one other oc:Int)(x:bA)(ah hs:List D):List Int->Bool
 |[v,w]=>JL one other oc x ah hs v.toNat w.toNat
 |_=>false
def XM(one other oc:Int)(x:bA)(fs:List (Int×Int×Bool))(xs:List Int)(b:Int):List (List Int):=zE (fs.length+1) (λv w=>JD (dB fs xs (b-1)) v w&&JL one other oc x (dB fs xs (b-1)) (dB fs xs b) v w)
def uOa(h:∀v w,v<w->w<n->P v w=Q v w):zE n P=zE n Q:=by
 unfold zE;congr 1
 funext v
 unfold AE;congr 1
 apply Zq
 intro j hj;have hj:=NK.mp hj;exact h v (v+1+j) (by lia) (by lia)
def vOa(h:∀v w,v<w->w<n->P v w=false):zE n P=[]:=by
 rw[uOa (Q:=λ_ _=>false) h];unfold zE AE;simp
structure wR(hs ah:List D):Prop where
 h1:pP hs
 h2:pP ah
 len:ah.length=hs.length
 bd:∀v i,hs.getD v .pA=.int i->-100<=i/\i<=100
 xv:∀v i,ah.getD v .pA=.int i->-100<=i/\i<=100
 on:∀v,bF (ah.getD v .pA)=false->bF (hs.getD v .pA)=false
def T4{fs:List (Int×Int×Bool)}{xs:List Int}{b:Int}{v:Nat}:(∃f∈LD fs,∀b:Int,(dB fs xs b).getD v .pA=jD xs b f)\/∀b:Int,(dB fs xs b).getD v .pA=.pA:=by
 cases h:(LD fs)[v]? with
 |some f=>exact .inl ⟨f,VE h,λb=>oS h⟩
 |none =>
  refine .inr λb=>?_
  unfold dB;rw[MJ,iD,h];rfl
def Xf{no ba oc:Int}{fs:List (Int×Int×Bool)}{xs:List Int}{b:Nat}(ho:LH no ba oc fs)(QM:∀x∈xs,0<=x/\x<no)(hb:b<xs.length):wR (dB fs xs (b:Int)) (dB fs xs ((b:Int)-1)):=by
 have n2:=ho.n2
 have hv:∀f∈LD fs,0<=f.1/\-12<=f.2.1/\f.2.1<=12:=λf hf=>by
  rcases DC.mp hf with rfl | hf
  ·decide
  ·have:=ho.f f hf
   omega
 have bd:∀(c:Int) v i,(dB fs xs c).getD v .pA=.int i->-100<=i/\i<=100:=λc v i h=>by
  rcases T4 (fs:=fs) (xs:=xs) (b:=c) (v:=v) with ⟨f,hf,e⟩ | e
  ·rw[e c] at h;unfold jD at h;split at h
   ·rename_i hc;have h:=D.int.inj h
    have hx:xs.getD (c-f.1).toNat 0∈xs:=by
     have dD:(c-f.1).toNat<xs.length:=by omega
     exact LV (k:=(c-f.1).toNat) dD
    have:=QM _ hx
    have:=hv f hf
    split at h<;>omega
   ·cases h
  ·rw[e c] at h;cases h
 refine⟨iW,iW,by rw[nJ,nJ],bd _,bd _,λv h=>?_⟩;rcases T4 (fs:=fs) (xs:=xs) (b:=(b:Int)) (v:=v) with ⟨f,hf,e⟩ | e
 ·rw[e] at h ⊢;unfold jD at h ⊢;split at h
  ·rename_i hc
   have:=hv f hf
   rw[KA (by omega)];rfl
  ·cases h
 ·rw[e] at h;cases h
def uBa(H:wR hs ah)(hv:v<hs.length)(hw:w<hs.length)(h:JD ah v w=true):∃i1 i2 j1 j2:Int,L2.qC ah (v:Int)=some (.int i1)/\L2.qC ah (w:Int)=some (.int i2)/\L2.qC hs (v:Int)=some (.int j1)/\L2.qC hs (w:Int)=some (.int j2)/\ah.getD v .pA=.int i1/\ah.getD w .pA=.int i2/\hs.getD v .pA=.int j1/\hs.getD w .pA=.int j2/\(-100<=i1/\i1<=100)/\(-100<=j1/\j1<=100):=by
 unfold JD at h;rw[nB] at h;obtain⟨d1,a1,g1,k1⟩:=mH H.h2 (by rw[H.len];exact hv);obtain⟨d2,a2,g2,k2⟩:=mH H.h2 (v:=w) (by rw[H.len];exact hw);obtain⟨d3,a3,g3,k3⟩:=mH H.h1 hv;obtain⟨d4,a4,g4,k4⟩:=mH H.h1 hw;have o1:=H.on v (by simpa using h.1);have o2:=H.on w (by simpa using h.2);rw[g1,g2] at h;rw[g3] at o1;rw[g4] at o2;rcases k1 with rfl | ⟨i1,rfl⟩
 ·exact absurd h.1 (by decide)
 rcases k2 with rfl | ⟨i2,rfl⟩
 ·exact absurd h.2 (by decide)
 rcases k3 with rfl | ⟨j1,rfl⟩
 ·exact absurd o1 (by decide)
 rcases k4 with rfl | ⟨j2,rfl⟩
 ·exact absurd o2 (by decide)
 exact⟨i1,i2,j1,j2,a1,a2,a3,a4,g1,g2,g3,g4,H.xv v i1 g1,H.bd v j1 g3⟩
def iKa(hl:fs.length<=20)(vL:0<oc)(hx:RT x)(H:wR (dB fs xs b) (dB fs xs (b-1))) :
  "Z"|||n+4|||[.sh (.ins "Never" ["one","other","way"] [.int one,.int other,.str x]),.sh (),~~~xs,.i b]|||.ow (.l (MA (XM one other oc x fs xs b))):=by
 exists T2
 have Z':run T W (n+3) "b" _=some (.ok (.ow (.l (dB fs xs (b-1)))),_):=ZU (no:=no) (ba:=ba) (oc:=oc) (fs:=fs) (rs:=rs) (xs:=xs) (b:=b-1) (by lia);have cG:run T W (n+3) "b" _=some (.ok (.ow (.l (dB fs xs b))),_):=ZU (W:=W) (n:=n) (no:=no) (ba:=ba) (oc:=oc) (fs:=fs) (rs:=rs) (xs:=xs) (b:=b) (by lia);have SD:=nJ (fs:=fs) (xs:=xs) (b:=b-1);have Pf:=nJ (fs:=fs) (xs:=xs) (b:=b);have XH:=Jl (W:=W) (n:=n+2) H.h2 (by lia);rw[SD] at XH
 have hB:XM one other oc x fs xs b=(zE (fs.length+1) (JD (dB fs xs (b-1)))).filter (LW one other oc x (dB fs xs (b-1)) (dB fs xs b)):=by(unfold XM;rw[Be (Q:=JL one other oc x (dB fs xs (b-1)) (dB fs xs b))];intro v w;rfl)
 generalize dB fs xs b=hs at *
 generalize dB fs xs (b-1)=ah at *
 obtain⟨L,hL⟩:∃L,L=zE (fs.length+1) (JD ah):=⟨_,rfl⟩
 have pL:∀is∈L,∃v w:Nat,is=[(v:Int),(w:Int)]/\v<hs.length/\w<hs.length/\JD ah v w=true:=λis qJ=>by(rw[hL] at qJ;obtain⟨v,w,h1,h2,h3,_,h4⟩:=Ki qJ;exact⟨v,w,h1,by lia,by lia,h4⟩)
 have eO:L.length<=1000:=by rw[hL];exact aX (by lia)
 rw[<- hL] at XH hB;have ZE:aAa .of [.val (.ow (.l (MA L)))] [.sh (.ins "Never" ["one","other","way"] [.int one,.int other,.str x]),.sh (),~~~xs,.i b,.i oc,.o (.l ah),.o (.l hs),.o (.l []),.un,.un]=some (MA L,none):=mQ rfl
 obtain⟨t8,t9,e,h8,h9⟩:=mGa (iv:=8) (iw:=9) (body:=NA T.aA (run T W (n+3)) W FZ) (λa t t2=>[.sh (.ins "Never" ["one","other","way"] [.int one,.int other,.str x]),.sh (),~~~xs,.i b,.i oc,.o (.l ah),.o (.l hs),.o (.l a),t,t2]) (LW one other oc x ah hs) L eO
  (λa t t2 d d2 ht aI=>by simp only[rC,EB ht,EB aI])
  (λis qJ=>by obtain⟨v,w,h,_⟩:=pL is qJ;exact⟨v,w,h⟩)
  (λa v w hm lJ=>by
   obtain⟨v',w',h1,hv,hw,cg⟩:=pL _ hm;have hvv:v'=v:=by have:=(BY h1).1;lia
   have hww:w'=w:=by have:=(BY (BY h1).2).1;lia
   subst hvv hww;obtain⟨i1,i2,j1,j2,a1,a2,a3,a4,g1,g2,g3,g4,q1,q2⟩:=uBa H hv hw cg;have ID:iB ((MA a).length+1)=true:=MB (by rw[EJ];lia);have et:MA (a++[[(v':Int),(w':Int)]])=MA a++[.t [.int v',.int w']]:=by rw[xX];rfl
   have en:LW one other oc x ah hs [(v':Int),(w':Int)]=(decide (vF oc i1 i2=one)&&decide (vF oc j1 j2=other)&&rH x (j1-i1) (j2-i2)):=by(unfold LW JL;simp only[YI,g1,g2,g3,g4];rfl)
   have j5:=oJa (W:=W) (n:=n+2) (a:=j1-i1) (b:=j2-i2) hx (by lia) (by lia);rw[en];unfold FZ;clear h1 hv hw cg hm lJ pL eO ZE hB hL XH Z' cG SD Pf H g1 g2 g3 g4 q1 q2 hl en hx;by_cases c1:vF oc i1 i2=one
   ·have GD:decide (vF oc i1 i2=one)=true:=kB c1;by_cases c2:vF oc j1 j2=other
    ·have aE:decide (vF oc j1 j2=other)=true:=kB c2;rw[GD,aE,IH,IH]
     generalize rH x (j1-i1) (j2-i2)=q at *
     clear c1 c2;cases q
     ·walk_at "!aS bS dS EK"
      all_goals (try simp only[ZD])
     ·walk_at "!aS bS dS EK"
    ·have aE:decide (vF oc j1 j2=other)=false:=VA c2;rw[GD,aE,IH,eM];clear c1 c2
     walk_at "!aS bS dS EK"
     all_goals (try simp only[ZD])
   ·have GD:decide (vF oc i1 i2=one)=false:=VA c1;rw[GD,eM,eM];clear c1
    walk_at "!aS bS dS EK"
    all_goals (try simp only[ZD])) .un .un rfl rfl
 rw[hB];clear hl h8 h9 hB pL eO hL SD Pf H hx
 walk_at "!aS bS dS EK"
def vv(H:wR hs ah)(hv:v<hs.length)(hw:w<hs.length)(vL:0<oc)(hx:RT x) :
  "u"|||n+2|||[.sh (),.sh (.t [.str "never",.int one,.int other,.str x]),.p (.l ah),.p (.l hs),.i v,.i w]|||.b (JD ah v w&&JL one other oc x ah hs v w):=by
 exists zV
 obtain⟨d1,a1,g1,k1⟩:=mH H.h2 (by rw[H.len];exact hv);obtain⟨d2,a2,g2,k2⟩:=mH H.h2 (v:=w) (by rw[H.len];exact hw);obtain⟨d3,a3,g3,k3⟩:=mH H.h1 hv;obtain⟨d4,a4,g4,k4⟩:=mH H.h1 hw;have o1:=H.on v;have o2:=H.on w;unfold JD JL;rw[g1,g2,g3,g4];rw[g1,g3] at o1;rw[g2,g4] at o2;have j5:=λ(a b:Int)=>VM (W:=W) (n:=n) (x:=x) (a:=a) (b:=b) hx
 have eN:bF .pA=true:=rfl;have eI:∀i,bF (.int i)=false:=λ_=>rfl
 rcases k3 with rfl | ⟨j1,rfl⟩
 ·have q1:bF d1=true:=by
   cases h:bF d1 with
   |true=>rfl
   |false=>exact absurd (o1 h) (by decide)
  rw[q1]
  walk_at "!NB ZC VM"
 rcases k4 with rfl | ⟨j2,rfl⟩
 ·have q2:bF d2=true:=by
   cases h:bF d2 with
   |true=>rfl
   |false=>exact absurd (o2 h) (by decide)
  rw[q2]
  walk_at "!NB ZC VM"
 rcases k1 with rfl | ⟨i1,rfl⟩
 ·clear k2 j5 eI
  walk_at "!NB ZC VM"
 rcases k2 with rfl | ⟨i2,rfl⟩
 ·rw[eI]
  walk_at "!NB ZC VM"
 rw[eI,eI];have e1:qF (.int i1)=i1:=rfl;have e2:qF (.int i2)=i2:=rfl;have e3:qF (.int j1)=j1:=rfl;have e4:qF (.int j2)=j2:=rfl;rw[e1,e2,e3,e4];unfold vF;have hm:=j5 (j1-i1) (j2-i2);by_cases c2:BC (j1-j2) % oc=other
 ·have aE:decide (BC (j1-j2) % oc=other)=true:=kB c2;by_cases c1:BC (i1-i2) % oc=one
  ·have GD:decide (BC (i1-i2) % oc=one)=true:=kB c1;rw[GD,aE]
   walk_at "!NB ZC VM"
  ·have GD:decide (BC (i1-i2) % oc=one)=false:=VA c1;rw[GD]
   walk_at "!NB ZC VM"
 ·have aE:decide (BC (j1-j2) % oc=other)=false:=VA c2;rw[aE]
  walk_at "!NB ZC VM"
def qw{rs:List D}{xs:List Int}{b:Nat}(hl:fs.length<=20)(HM:0<ba)(vL:0<oc)(hx:RT x)(H:wR (dB fs xs (b:Int)) (dB fs xs ((b:Int)-1)))(h0:∀f∈LD fs,0<=f.1) :
  "e"|||n+3|||[.sh (),.sh (.t [.str "never",.int one,.int other,.str x]),~~~xs,.i b]|||.ow (.l (MA (XM one other oc x fs xs b))):=by
 exists lL
 have hh:run T W (n+2) "d" _=some (.ok (.ow (.l (dB fs xs (b:Int)))),_):=rL (W:=W) (n:=n+1) (no:=no) (ba:=ba) (oc:=oc) (fs:=fs) (rs:=rs) (xs:=xs) (b:=(b:Int)) (by lia);have bQ:run T W (n+2) "d" _=some (.ok (.ow (.l (dB fs xs ((b:Int)-1)))),_):=rL (W:=W) (n:=n+1) (no:=no) (ba:=ba) (oc:=oc) (fs:=fs) (rs:=rs) (xs:=xs) (b:=(b:Int)-1) (by lia);by_cases c:b=0
 ·subst c;have c':decide (((0:Nat):Int)=0)=true:=rfl
  have e:XM one other oc x fs xs ((0:Nat):Int)=[]:=by
   unfold XM
   apply vOa
   intro v w _ _
   have:bF ((dB fs xs (((0:Nat):Int)-1)).getD v .pA)=true:=by
    rcases T4 (fs:=fs) (xs:=xs) (b:=0) (v:=v) with ⟨f,hf,e⟩ | e
    ·rw[e];unfold jD;rw[if_neg (by have:=h0 f hf;lia)];rfl
    ·rw[e];rfl
   unfold JD;rw[this];rfl
  have e2:MA []=[]:=rfl;rw[e,e2];clear e e2 hl H hx h0;have z0:((0:Nat):Int)=0:=rfl;rw[z0] at hh bQ c' ⊢
  walk_at "!NB"
 ·have c':decide ((b:Int)=0)=false:=VA (by lia);have SD:=nJ (fs:=fs) (xs:=xs) (b:=(b:Int));unfold XM;rw[<- SD]
  generalize dB fs xs (b:Int)=hs at *
  generalize dB fs xs ((b:Int)-1)=ah at *
  have hi:aAa .jC [.val (.i hs.length)] [.sh (),.sh (.t [.str "never",.int one,.int other,.str x]),~~~xs,.i b,.o (.l hs),.un,.un,.un,.o (.l ah),.o (.l []),.un]=some (rg hs.length,none):=by(refine kM (tJ (n:=(hs.length:Int)) rfl (by lia) (by lia)) ?_;rw[YI])
  obtain⟨t',uE,e,ZH,NM⟩:=J7 (iv:=5) (body:=NA T.aA (run T W (n+2)) W KR) (λa t t2=>[.sh (),.sh (.t [.str "never",.int one,.int other,.str x]),~~~xs,.i b,.o (.l hs),t,.un,.un,.o (.l ah),.o (.l a),t2]) (λv w=>JD ah v w&&JL one other oc x ah hs v w) hs.length (by lia)
   (λa t t2 d ht=>by simp only[rC,EB ht])
   (λvA v t hv qL ht=>by
    have ZE:aAa .jC [.val (.i ((v:Int)+1)),.val (.i hs.length)] [.sh (),.sh (.t [.str "never",.int one,.int other,.str x]),~~~xs,.i b,.o (.l hs),.i v,.un,.un,.o (.l ah),.o (.l (MA vA)),t]=some ((XB (hs.length-(v+1))).map λ(j:Nat)=>.int ((v:Int)+1+(j:Int)),none):=by(refine kM (n6 (m:=(v:Int)+1) (n:=(hs.length:Int)) rfl rfl (by lia) (by lia)) ?_;rw[show((hs.length:Int)-((v:Int)+1)).toNat=hs.length-(v+1) from by lia])
    obtain⟨t3,e3,h3⟩:=g8 (iw:=10) (body:=NA T.aA (run T W (n+2)) W JR) (λa t t2=>[.sh (),.sh (.t [.str "never",.int one,.int other,.str x]),~~~xs,.i b,.o (.l hs),t,.un,.un,.o (.l ah),.o (.l a),t2]) (λv w=>JD ah v w&&JL one other oc x ah hs v w) hs.length v vA qL (by lia)
     (λa t d ht=>by simp only[rC,EB ht])
     (λa w kW hw lJ=>by
      have lS:=vv (W:=W) (n:=n) (one:=one) (other:=other) (no:=no) (ba:=ba) (fs:=fs) (rs:=rs) H hv hw vL hx;have ID:iB ((MA a).length+1)=true:=MB (by rw[EJ];lia);have et:MA (a++[[(v:Int),(w:Int)]])=MA a++[.t [.int v,.int w]]:=by rw[xX];rfl
      unfold JR
      generalize (JD ah v w&&JL one other oc x ah hs v w)=q at *
      clear hi ZE hl hv hw kW lJ qL ht SD hh bQ c H hx HM h0;cases q
      ·walk_at "!NB"
       all_goals (try simp only[ZD])
      ·walk_at "!NB") t ht
    refine⟨t3, ?_,h3⟩;unfold KR;clear hi hl hv qL ht h3 SD hh bQ c H hx HM h0
    walk_at "!NB") .un .un rfl rfl
  clear hl ZH NM SD c H hx h0
  walk_at "!NB"
def uTa:"c"|||n+1|||[.sh (.t [.str "never",a,b,c])]|||.sh (.ins "Never" ["one","other","way"] [a,b,c]):=by
 exists mL
 walk_at "!NB"
noncomputable def mx(m y:Int):Int:=if y > m then y else m
theorem WM:(if y > m then y else m)=mx m y:=rfl
def MF(fs:List (Int×Int×Bool)):Int:=(fs.map λf=>1+f.1).foldl mx 3
def Zh:List (Int×Int×Bool)->Int
 |[]=>0
 |f::r=>(r.map λf=>f.1).foldl mx f.1
theorem Hi:∀(l:List (Int×Int×Bool)) (a c:Int),(l.map λf=>1+f.1).foldl mx (mx c (1+a))=mx c (1+(l.map λf=>f.1).foldl mx a)
 |[],_,_=>rfl
 |f::l,a,c=>by
  have h:mx (mx c (1+a)) (1+f.1)=mx c (1+mx a f.1):=by
   unfold mx
   split<;>split<;>split<;>first | lia | (split<;>lia)
  rw[AB,JK,h,Hi l (mx a f.1) c,AB,JK]
def eJa(h:1<=fs.length):mx 3 (1+Zh fs)=MF fs:=by
 match fs,h with
 |f::r,_=>exact(Hi r f.1 3).symm
theorem Ii:∀(l:List Int) (a:Int),a<=l.foldl mx a
 |[],a=>Int.le_refl a
 |b::l,a=>Za (by unfold mx;split<;>lia) (Ii l (mx a b))
theorem Ji:∀(l:List Int) (a:Int),a<=b->(∀x∈l,x<=b)->l.foldl mx a<=b
 |[],_,h,_=>h
 |x::l,a,h,hl=>Ji l (mx a x) (by have:=hl x (YD ..);unfold mx;split<;>lia) λy hy=>hl y (WC _ hy)
def dJa(h:LH no ba oc fs):∃m:Nat,MF fs=(m:Int)/\3<=m/\m<=5:=by
 have h1:3<=MF fs:=Ii _ _
 have h2:MF fs<=5:=Ji _ _ (by decide) λx hx=>by
  obtain⟨f,hf,rfl⟩:=JC.mp hx
  have:=(h.f f hf).2.1
  lia
 exact⟨(MF fs).toNat,by lia,by lia,by lia⟩
def L1:aD .max [.l ((a::l).map D.int)]=some (.i (l.foldl mx a)):=by
 show(match rE ((a::l).map D.int) with
  |some (i::r)=>some (RV.sh (.int (r.foldl (λm y=>if y > m then y else m) i)))
  |_=>none)=_
 rw[aAx];rfl
def FW(h1:1<=fs.length)(h3:fs.length<=3) :
  "g"|||n+1|||[.sh ()]|||.i (MF fs):=by
 exists N3
 have hi:aAa .of [.val (.sh (.t (fs.map toD)))] [.sh ()]=some (fs.map toD,none):=WS rfl
 obtain⟨vA,Ui,e,⟨t1,rfl,nH,rfl⟩,_⟩:=dH (tests:=gC T.aA (run T W n) []) (QA:=ev T.aA (run T W n) false Q0) (bind:=bB true [1]) (ds:=fs.map toD)
  (λj vA U=>∃(t1:Sl),U=[.un,t1]/\HA t1=true/\vA=((fs.take j).map λf=>f.1).map D.int)
  (λj d hd vA U hU=>by
   obtain⟨t1,rfl,nH,rfl⟩:=hU;obtain⟨f,hf,rfl⟩:∃f,fs[j]?=some f/\toD f=d:=by simpa using hd
   refine⟨_,true,_,by simp only[rC,EB nH]<;>rfl,AI,λ_=>?_,λz=>nomatch z⟩;refine⟨.i f.1,[.un,.sh (toD f)], ?_,_,rfl,rfl, ?_⟩
   ·unfold Q0 toD
    walk_at "!nA WM"
   ·rw[OK,hf,UB,UB]
    rfl)
  [] [.un,.un] ⟨_,rfl,rfl,rfl⟩
 have ht:fs.take (fs.map toD).length=fs:=by(rw[NJ];simp)
 rw[ht] at e;have ID:iB ((fs.map λf=>f.1).map D.int).length=true:=MB (by simp;lia);have zS:iB fs.length=true:=MB (by lia)
 have hmx:aD .max [.l ((fs.map λf=>f.1).map D.int)]=some (.i (Zh fs)):=by
  match fs,h1 with
  |f::r,_=>exact L1
 have hml:=eJa h1
 walk_at "!nA WM"
 rw[cF hi]
 walk_at "!nA WM"
 all_goals (rw[yM rfl];walk_at "!nA WM")
def bHa(h3:fs.length<=3) :
  "L"|||n+1|||[.sh ()]|||.i (MF fs):=by
 exists J2
 have hi:aAa .of [.val (.sh (.t (fs.map toD)))] [.sh ()]=some (fs.map toD,none):=WS rfl
 obtain⟨vA,Ui,e,⟨t1,rfl,nH,rfl⟩,_⟩:=dH (tests:=gC T.aA (run T W n) []) (QA:=ev T.aA (run T W n) false L0) (bind:=bB true [1]) (ds:=fs.map toD)
  (λj vA U=>∃(t1:Sl),U=[.un,t1]/\HA t1=true/\vA=((fs.take j).map λf=>1+f.1).map D.int)
  (λj d hd vA U hU=>by
   obtain⟨t1,rfl,nH,rfl⟩:=hU;obtain⟨f,hf,rfl⟩:∃f,fs[j]?=some f/\toD f=d:=by simpa using hd
   refine⟨_,true,_,by simp only[rC,EB nH]<;>rfl,AI,λ_=>?_,λz=>nomatch z⟩;refine⟨.i (1+f.1),[.un,.sh (toD f)], ?_,_,rfl,rfl, ?_⟩
   ·unfold L0 toD
    walk_at "!nA WM"
   ·rw[OK,hf,UB,UB]
    rfl)
  [] [.un,.un] ⟨_,rfl,rfl,rfl⟩
 have ht:fs.take (fs.map toD).length=fs:=by(rw[NJ];simp)
 rw[ht] at e;have ID:iB ((fs.map λf=>1+f.1).map D.int).length=true:=MB (by simp;lia);have zS:iB fs.length=true:=MB (by lia);have aCa:iB (1+fs.length)=true:=MB (by lia);have bCa:iB (0+1+fs.length)=true:=MB (by lia);have hmx:aD .max [.l (.int 3::(fs.map λf=>1+f.1).map D.int)]=some (.i (MF fs)):=L1
 walk_at "!nA WM"
 rw[cF hi]
 walk_at "!nA WM"
 all_goals (rw[yM rfl];walk_at "!nA WM")
def Eg:"o"|||n+1|||[.i i]|||.b true:=by
 exists J3
 walk_at "!"
def Uo(h1:a<=i)(h2:i<=b):"p"|||n+2|||[.i i,.i a,.i b]|||.b true:=by
 exists K3
 have c1:decide (a<=i)=true:=kB h1;have c2:decide (i<=b)=true:=kB h2
 walk_at "!Eg"
def FJ(m ba n:Int):Int:=if n<=m then n else m+(n-m) % ba
noncomputable def OL(m:Nat)(xs:List Int):List Int:=xs.drop (xs.length-m)
def zo(h:n<=m):FJ m ba n=n:=KA h
def Ao(h:¬n<=m):FJ m ba n=m+(n-m) % ba:=if_neg h
def qYa(h0:0<=n)(hm:3<=m)(hb:1<=ba):0<=FJ m ba n/\FJ m ba n<=m+ba-1:=by
 unfold FJ;split
 ·lia
 ·have a:=iR (n-m) (b:=ba) (by lia);have b:=bY (n-m) (b:=ba) (by lia)
  lia
def dYa(hb:1<=ba):((OL m xs).length:Int)=if(m:Int)<FJ m ba xs.length then(m:Int) else FJ m ba xs.length:=by
 unfold OL;rw[lF];unfold FJ;by_cases h:(xs.length:Int)<=(m:Int)
 ·rw[KA h,if_neg (by omega)];omega
 ·rw[if_neg h];have a:=iR ((xs.length:Int)-m) (b:=ba) (by omega)
  split<;>omega
def cYa(h:x∈OL m xs):x∈xs:=YT h
def Bo(ho:LH no ba oc fs)(hm:MF fs=(m:Int)) :
  "A"|||n+2|||[.sh (),.i k]|||.i (FJ m ba k):=by
 exists A4
 have uL:=FW (W:=W) (n:=n) (no:=no) (ba:=ba) (oc:=oc) (rs:=rs) ho.l1 ho.l2;rw[hm] at uL;have g1:0<ba:=by have:=ho.b1;lia
 have g2:ba<100000000000000000000000000000000000000000000000000000000000000000000000000000000:=by have:=ho.b2;lia
 by_cases c:k<=(m:Int)
 ·have c':decide (k<=(m:Int))=true:=kB c;rw[zo c]
  walk_at "!"
 ·have c':decide (k<=(m:Int))=false:=VA c;rw[Ao c]
  walk_at "!"
def Hx{m:Nat}(h:1<=m):zJ (some (.l (xs.map D.int))) (some (.int (-(m:Int)))) none=some (.ow (.l ((OL m xs).map D.int))):=by
 show some (RV.ow (.l (aAp (xs.map D.int) (some (-(m:Int))) none)))=_;unfold aAp OL
 have e:HT.qB (xs.map D.int).length 0 (some (-(m:Int)))=xs.length-m:=by
  unfold HT.qB;rw[nA];show(if -(m:Int)<0 then _ else _)=_;rw[KA (by lia)]
  lia
 rw[e,HT.FT,nA,<- DY,<- EY,NJ (by rw[lF];lia)]
def Gx{m:Nat}:zJ (some (.l (xs.map D.int))) (some (.int (if(xs.length:Int)-(m:Int) > 0 then(xs.length:Int)-(m:Int) else 0))) none=some (.ow (.l ((OL m xs).map D.int))):=by
 have e1:(if(xs.length:Int)-(m:Int) > 0 then(xs.length:Int)-(m:Int) else 0)=((xs.length-m:Nat):Int):=by split<;>lia
 rw[e1];show some (RV.ow (.l (aAp (xs.map D.int) (some ((xs.length-m:Nat):Int)) none)))=_;unfold aAp OL;rw[HT.CQ,HT.FT,nA,jR (by lia),<- DY,<- EY,NJ (by rw[lF];lia)]
def jN(m:Nat)(ba:Int)(xs:List Int):D:=.t [.int (FJ m ba xs.length),.t ((OL m xs).map D.int)]
def vWa{m:Nat}{xs:List Int}(ho:LH no ba oc fs)(hm:MF fs=(m:Int))(h3:3<=m) :
  "B"|||n+3|||[.sh (),~~~xs]|||.sh (jN m ba xs):=by
 exists Z3
 unfold jN;have uL:=FW (W:=W) (n:=n+1) (no:=no) (ba:=ba) (oc:=oc) (rs:=rs) ho.l1 ho.l2;rw[hm] at uL;have htu:=Bo (W:=W) (n:=n) (rs:=rs) (k:=(xs.length:Int)) ho hm;have hs:=Hx (xs:=xs) (m:=m) (by lia);clear ho hm h3
 walk_at "!Bo nA"
def Yh{m:Nat}{xs:List Int}(ho:LH no ba oc fs)(hm:MF fs=(m:Int)) :
  "h"|||n+2|||[.sh (),~~~xs]|||.sh (jN m ba xs):=by
 exists P2
 unfold jN;have uL:=bHa (W:=W) (n:=n) (no:=no) (ba:=ba) (oc:=oc) (rs:=rs) ho.l2;rw[hm] at uL;have g1:0<ba:=by have:=ho.b1;lia
 have g2:ba<100000000000000000000000000000000000000000000000000000000000000000000000000000000:=by have:=ho.b2;lia
 have hs:=Gx (xs:=xs) (m:=m);by_cases c:(xs.length:Int)<=(m:Int)
 ·have c':decide ((m:Int)<(xs.length:Int))=false:=VA (by lia);rw[zo c]
  walk_at "!nA"
 ·have c':decide ((m:Int)<(xs.length:Int))=true:=kB (by lia);rw[Ao c]
  walk_at "!nA"
abbrev Br:=List Int->Nat->List (List Int)
abbrev RP:=D×D×Br
def n8(o h:D)(xs:List Int)(b:Nat):List Sl:=[.sh o,.sh h,~~~xs,.i b]
structure RX(no ba oc:Int)(fs:List (Int×Int×Bool))(rs:List D)(m:Nat)(p:RP):Prop where
 ob:∃c ns ds f q,p.2.1=.ins c ns ds/\gG c ns "broken" CJ=some f/\T.aA f=[true,true,true,q] /\
  ∀(W n:Nat) (xs:List Int) (b:Nat),b<xs.length->(∀x∈xs,0<=x/\x<no)->run T W (n+4) f (n8 (.ins c ns ds) () xs b)=some (.ok (.ow (.l (MA (p.2.2 xs b)))),n8 (.ins c ns ds) () xs b)
 ru:∀(W n:Nat),"c"|||n+1|||[.sh p.1]|||.sh p.2.1
 lw:∀(W n:Nat) (xs:List Int) (b:Nat),b<xs.length->(∀x∈xs,0<=x/\x<no)->"e"|||n+3|||[.sh (),.sh p.1,~~~xs,.i b]|||.ow (.l (MA (p.2.2 xs b)))
 len:∀xs b,(p.2.2 xs b).length<=1000
def bUa{m:Nat}(ho:LH no ba oc fs)(hm:MF fs=(m:Int))(h3:3<=m)(h:AG no ba oc (fs.length:Int) d):∃o br,RX no ba oc fs rs m (d,o,br):=by
 have l2:=ho.l2;have o1:=ho.o1;have o2:=ho.o2;have b1:=ho.b1;have n2:=ho.n2
 have h0:∀f∈LD fs,0<=f.1:=λf hf=>by
  rcases DC.mp hf with rfl | hf
  ·decide
  ·exact(ho.f f hf).1
 have eT:fs.length<=20:=by lia
 have l9:fs.length<=900:=by lia
 have l1:fs.length<=1000:=by lia
 cases h with
 |span a b h1 h2 jK h4 =>
  exact⟨_,λxs b'=>QI a b ba oc fs xs (b':Int),⟨_,_,_,_,true,rfl,vJa,Nt,λW n xs b' _ _=>gWa eT jK (by lia) (by lia)⟩,λW n=>wTa,λW n xs b' _ _=>uw (n:=n+1) eT (by lia) o1 o2,λxs b'=>fWa eT⟩
 |leap a h1 h2 =>
  exact⟨_,λxs b'=>kE (AK a xs b'),⟨_,_,_,_,false,rfl,sJa,Ht,λW n xs b' hb _=>rHa (n:=n+3) hb⟩,λW n=>tTa,λW n xs b' hb _=>mw (n:=n+1) l1 hb,λxs b'=>B7⟩
 |back a b h1 h2 jK h4 =>
  exact⟨_,λxs b'=>kE (cH a b xs b'),⟨_,_,_,_,false,rfl,rJa,Ts,λW n xs b' hb hx=>uv (n:=n+3) hb λx jO=>⟨(hx x jO).1,by have:=(hx x jO).2;lia⟩⟩,λW n=>sTa,λW n xs b' hb _=>jw (n:=n+1) l1 hb h1,λxs b'=>B7⟩
 |again a h1 h2 =>
  obtain⟨k,rfl⟩:∃k:Nat,a=(k:Int):=⟨a.toNat,by lia⟩
  exact⟨_,λxs b'=>kE (bH k xs b'),⟨_,_,_,_,false,rfl,qJa,Ss,λW n xs b' hb _=>Du (n:=n+3) hb (by lia)⟩,λW n=>rTa,λW n xs b' hb _=>gw (n:=n+1) l1 hb (by lia) (by lia),λxs b'=>B7⟩
 |range a b h1 h2 jK =>
  exact⟨_,λxs b'=>ML a b fs xs (b':Int),⟨_,_,_,_,true,rfl,uJa,Kt,λW n xs b' _ _=>cTa l9⟩,λW n=>vTa,λW n xs b' _ _=>tw (n:=n+1) l9,λxs b'=>C7 (by lia)⟩
 |above v w h1 h2 jK =>
  exact⟨_,λxs b'=>DR fs xs (b':Int) v w,⟨_,_,_,_,true,rfl,pJa,Qs,λW n xs b' _ _=>Au (n:=n+1) (by lia) (by lia)⟩,λW n=>qTa,λW n xs b' _ _=>fw (n:=n+1) l9 (by lia) (by lia),λxs b'=>vYa⟩
 |never a b x h1 h2 jK h4 h5 =>
  exact⟨_,λxs b'=>XM a b oc x fs xs (b':Int),⟨_,_,_,_,true,rfl,tJa,Jt,λW n xs b' hb hx=>iKa eT (by lia) h5 (Xf ho hx hb)⟩,λW n=>uTa,λW n xs b' hb hx=>qw eT (by lia) (by lia) h5 (Xf ho hx hb) h0,λxs b'=>aX (by lia)⟩
theorem xl{m:Nat}(ho:LH no ba oc fs)(hm:MF fs=(m:Int))(h3:3<=m):∀ds:List D,(∀d∈ds,AG no ba oc (fs.length:Int) d)->∃ps:List RP,ps.map (·.1)=ds/\∀p∈ps,RX no ba oc fs rs m p
 |[],_=>⟨[],rfl,λ_ z=>nomatch z⟩
 |d::ds,h=>by
  obtain⟨ps,h1,h2⟩:=xl ho hm h3 ds λd' hd=>h d' (WC _ hd)
  obtain⟨o,br,hx⟩:=bUa ho hm h3 (h d YD);refine⟨(d,o,br)::ps,by rw[AB,h1],λp hp=>?_⟩;rcases DC.mp hp with rfl | hp
  ·exact hx
  ·exact h2 p hp
def aEa(h:U[i]?=some (.ow (.l ds) p l)):aAa (.enum lo) [.slot i] U=some (fH lo ds,some i):=by(unfold aAa;simp only[h])
def a7{bind:D->Env->Option Env}(ok:D->Bool)(v:RV)(I:Env->Prop)(h:∀d∈ds,∀U,I U->∃U1,bind d U=some U1/\∃U2,body U1=some (if ok d=true then .nx else .rt v,U2)/\I U2) :
  ∀{U:Env},I U->∃U',cC bind body ds U=some (if ds.all ok=true then .nx else .rt v,U')/\I U':=by
 induction ds with
 |nil=>exact λhU=>⟨_,rfl,hU⟩
 |cons d ds ih =>
  intro U hU;obtain⟨U1,e1,U2,e2,h2⟩:=h d (by simp) U hU
  cases c:ok d with
  |true =>
   obtain⟨U',e3,h3⟩:=ih (λd' ME=>h d' (by simp[ME])) h2;rw[c,KA rfl] at e2;exact⟨U',by simp only[cC,e1,e2,e3,vC,c,IH],h3⟩
  |false =>
   rw[c,if_neg (by decide)] at e2;exact⟨U2,by simp only[cC,e1,e2,vC,c,eM];rfl,h2⟩
section
variable{no ba oc:Int}{fs:List (Int×Int×Bool)}{rs:List D}{m:Nat}{ps:List RP}
theorem yTa(OE:ps.map (·.1)=rs)(hp:∀p∈ps,RX no ba oc fs rs m p)(hl:rs.length<=8):"z"|||n+2|||[.sh ()]|||.ow (.l (ps.map (·.2.1))):=by
 exists S3
 have IM:ps.length<=8:=by rw[<- OE,nA] at hl;exact hl
 have hi:aAa .of [.val (.sh (.t rs))] [.sh ()]=some (rs,none):=WS rfl
 obtain⟨vA,Ui,e,⟨t1,rfl,nH,rfl⟩,_⟩:=dH (tests:=gC T.aA (run T W (n+1)) []) (QA:=ev T.aA (run T W (n+1)) false V0) (bind:=bB true [1]) (ds:=rs)
  (λj vA U=>∃(t1:Sl),U=[.un,t1]/\HA t1=true/\vA=(ps.take j).map (·.2.1))
  (λj d hd vA U hU=>by
   obtain⟨t1,rfl,nH,rfl⟩:=hU
   obtain⟨p,lO,rfl⟩:∃p,ps[j]?=some p/\p.1=d:=by
    rw[<- OE,iD] at hd
    cases q:ps[j]? with
    |none=>rw[q] at hd;cases hd
    |some p=>rw[q] at hd;exact⟨p,rfl,eE hd⟩
   have hw:=(hp p (VE lO)).ru W n;refine⟨_,true,_,by simp only[rC,EB nH]<;>rfl,AI,λ_=>?_,λz=>nomatch z⟩;refine⟨.sh p.2.1,[.un,.sh p.1], ?_,_,rfl,rfl,by rw[OK,lO,UB];rfl⟩;unfold V0
   walk_at "!")
  [] [.un,.un] ⟨_,rfl,rfl,rfl⟩
 rw[show rs.length=ps.length by rw[<- OE,nA],vN] at e;have ID:iB (ps.map (·.2.1)).length=true:=MB (by simp;lia)
 walk_at "!"
 rw[cF hi]
 walk_at "!"
 all_goals (rw[yM rfl];walk_at "!")
def zI(ps:List RP)(xs:List Int)(b:Nat):Nat:=(ps.map λp=>(p.2.2 xs b).length).sum
theorem Lc:∀(ps:List RP),(∀p∈ps,(p.2.2 xs b).length<=1000)->zI ps xs b<=1000*ps.length
 |[],_=>by simp[zI]
 |p::ps,h=>by
  have h1:=h p YD;have h2:=Lc ps λq hq=>h q (WC _ hq)
  unfold zI at h2 ⊢;rw[AB,Rr,YB]
  lia
theorem dw{b:Nat}(hp:∀p∈ps,RX no ba oc fs rs m p)(hl:ps.length<=8)(hb:b<xs.length)(hx:∀x∈xs,0<=x/\x<no) :
  ∃L:List D,"r"|||n+5|||[.sh (),.p (.l (ps.map (·.2.1))),~~~xs,.i b]|||.ow (.l L)/\L.length=zI ps xs b:=by
 exists A3
 have hi:aAa (.enum 0) [.slot 1] [.sh (),.p (.l (ps.map (·.2.1))),~~~xs,.i b,.o (.l []),.un,.un,.un]=some (fH 0 (ps.map (·.2.1)),some 1):=aEa rfl
 obtain⟨U1,e1,L,t5,t6,t7,rfl,h5,h6,h7,hL⟩:=UM (bind:=bB false [5,6]) (body:=NA T.aA (run T W (n+4)) W HZ)
  (λpre U=>∃(L:List D) (t5 t6 t7:Sl),U=[.sh (),.un,~~~xs,.i b,.o (.l L),t5,t6,t7]/\HA t5=true/\HA t6=true/\HA t7=true/\L.length=zI (ps.take pre.length) xs b)
  (ds:=fH 0 (ps.map (·.2.1))) (λpre d post wC U hU=>by
   obtain⟨L,t5,t6,t7,rfl,h5,h6,h7,hL⟩:=hU
   have mB:pre.length<ps.length:=by
    have:=congrArg BH wC
    rw[IP,nA,kC,YB] at this
    lia
   obtain⟨p,lO⟩:∃p,ps[pre.length]?=some p:=⟨_,FC mB⟩
   have hd:d=.t [.int (0+(pre.length:Int)),p.2.1]:=by(have q:=B1 (lo:=0) (ds:=ps.map (·.2.1)) (i:=pre.length) (d:=p.2.1) (by rw[iD,lO];rfl);rw[wC,kP (jB _),oR] at q;exact eE q)
   subst hd;refine⟨_,by simp only[rC,EB h5,EB h6]<;>rfl, ?_⟩;have yS:=hp p (VE lO);have vAa:=yS.len xs b;have tf:=Lc (ps.take pre.length) λq hq=>(hp q (WQ hq)).len xs b
   rw[HH] at tf
   have hN:zI (ps.take (pre++[D.t [D.int (0+(pre.length:Int)),p.2.1]]).length) xs b=zI (ps.take pre.length) xs b+(p.2.2 xs b).length:=by(rw[kC,YB,uG,OK,lO];unfold zI;simp)
   rw[hN];obtain⟨c,ns,ds,f,q,ho,hmt,hpi,Zf⟩:=yS.ob;have hr:=Zf W n xs b hb hx;unfold n8 at hr;rw[ho]
   generalize p.2.2 xs b=Z at *
   have ZE:aAa .of [.val (.ow (.l (MA Z)))] [.sh (),.un,~~~xs,.i b,.o (.l L),.i (0+(pre.length:Int)),.sh (.ins c ns ds),t7]=some (MA Z,none):=mQ rfl
   obtain⟨U2,e2,L2,Sn,rfl,K4,gS⟩:=UM (bind:=bB true [7]) (body:=NA T.aA (run T W (n+4)) W GZ)
    (λpr U=>∃(L2:List D) (t7:Sl),U=[.sh (),.un,~~~xs,.i b,.o (.l L2),.i (0+(pre.length:Int)),.sh (.ins c ns ds),t7]/\HA t7=true/\L2.length=L.length+pr.length)
    (ds:=MA Z) (λpr d po ME U hU=>by
     obtain⟨L2,t7,rfl,h7,gS⟩:=hU;refine⟨_,by simp only[rC,EB h7]<;>rfl, ?_⟩
     have hz:pr.length<=1000:=by
      have:=congrArg BH ME
      rw[EJ,kC] at this
      lia
     have ID:iB (L2.length+1)=true:=MB (by lia);refine⟨[.sh (),.un,~~~xs,.i b,.o (.l (L2++[.t [.int b,.int (0+(pre.length:Int)),d]])),.i (0+(pre.length:Int)),.sh (.ins c ns ds),.sh d], ?_,_,_,rfl,rfl,by rw[kC,kC,gS];rfl⟩;unfold GZ;clear hp hl hb hx hi hL mB lO yS vAa tf hN ho hmt hpi Zf hr ZE ME hz gS h5 h6 h7 wC
     walk_at "!")
    (U:=[.sh (),.un,~~~xs,.i b,.o (.l L),.i (0+(pre.length:Int)),.sh (.ins c ns ds),t7]) ⟨L,_,rfl,h7,by simp⟩
   rw[EJ] at gS;refine⟨[.sh (),.un,~~~xs,.i b,.o (.l L2),.i (0+(pre.length:Int)),.sh (.ins c ns ds),Sn], ?_,_,_,_,_,rfl,rfl,rfl,K4,by rw[gS,hL]⟩;unfold HZ
   cases q<;>walk_at "!")
  (U:=[.sh (),.un,~~~xs,.i b,.o (.l []),.un,.un,.un]) ⟨[],_,_,_,rfl,rfl,rfl,rfl,by simp[zI]⟩
 rw[IP,nA,vN] at hL;refine⟨L, ?_,hL⟩
 walk_at "!"
 simp only[aAe,aM,tN,e1,Run.restore,aAm,SG,VQ,FE]
 walk_at "!"
end
section
variable{no ba oc:Int}{fs:List (Int×Int×Bool)}{rs:List D}{m:Nat}{ps:List RP}
def Qk:(HB z [x]).flatten=HB z x:=by
 induction z with
 |zero=>rfl
 |succ z ih=>rw[VL,VO,ih];rfl
noncomputable def lE(z:Nat)(tl:List Int):List Int:=HB z 0++tl
noncomputable def wF(z:Nat)(tl:List Int):D:=.t [.int ((z:Int)+(tl.length:Int)),.t (tl.map D.int)]
theorem b9:(lE z tl).length=z+tl.length:=by unfold lE;simp
theorem mi(hz:z<=100)(ht:tl.length<=1000):"s"|||n+1|||[.sh (wF z tl)]|||.ow (.l ((lE z tl).map D.int)):=by
 exists M3
 unfold wF;have e0:(z:Int)+(tl.length:Int)-(tl.length:Int)=(z:Int):=by lia
 have e1:bC .Mult (.l [.int 0]) (.int z)=some (.ow (.l (HB z (.int 0)))):=by(rw[GR (by lia) (by lia) (PF (by simp;lia)),YI,Qk])
 have e2:bC .Add (.l (HB z (.int 0))) (.l (tl.map D.int))=some (.ow (.l ((lE z tl).map D.int))):=by(rw[tM (PF (by simp;lia))];unfold lE;rw[UB,Pq])
 walk_at "!nA"
def nZ:xs.map D.int++[D.int q]=(xs++[q]).map D.int:=by rw[UB];rfl
def uH(ps:List RP)(xs:List Int)(q:Int):Bool:=decide (((zI ps (xs++[q]) xs.length:Nat):Int)=0)
theorem Gg{k:Nat}(h:k<=1000):aAa .jC [.val (.i k)] U=some (rg k,none):=by
 refine kM (tJ (n:=(k:Int)) rfl (by lia) (by lia)) ?_;rw[YI]
noncomputable def QH(k:Nat)(ok:Int->Bool):List Int:=((XB k).filter λ(j:Nat)=>ok (j:Int)).map λ(j:Nat)=>(j:Int)
def n_:((XB k).filter λ(j:Nat)=>ok (j:Int)).map (λ(j:Nat)=>D.int j)=(QH k ok).map D.int:=by unfold QH;rw[fE];rfl
theorem o_(h:x∈QH k ok):0<=x/\x<k:=by
 obtain⟨j,hj,rfl⟩:=JC.mp h
 have:=NK.mp (YO.mp hj).1
 lia
def VP:(QH k ok).length<=k:=by
 unfold QH;rw[nA];exact EC (WT _ _) (by rw[fU];exact jB _)
theorem kKa{k z:Nat}(hk:no=(k:Int))(hk7:k<=7)(OE:ps.map (·.1)=rs)(hp:∀p∈ps,RX no ba oc fs rs m p)(hl:rs.length<=8)(hz:z<=100)(ht:tl.length<=1000)(hx:∀x∈tl,0<=x/\x<no) :
  "t"|||n+6|||[.sh (),.sh (wF z tl)]|||.ow (.l ((QH k (uH ps (lE z tl))).map D.int)):=by
 exists Q3
 have IM:ps.length<=8:=by rw[<- OE,nA] at hl;exact hl
 have h1:=yTa (W:=W) (n:=n+3) OE hp hl;have h2:=mi (W:=W) (n:=n+4) hz ht;have hi:∀{U:Env},aAa .jC [.val (.i no)] U=some (rg k,none):=λ{U}=>by rw[hk];exact Gg (by lia)
 have c5:PD (some ()) (.int 0)=some (.i no):=rfl
 have HG:∀x∈lE z tl,0<=x/\x<no\/x=0:=λx hm=>by
  unfold lE at hm;rcases dE.mp hm with h | h
  ·exact .inr (Gp h)
  ·exact .inl (hx x h)
 have mB:(lE z tl).length<=1100:=by rw[b9];lia
 generalize lE z tl=ys at *
 obtain⟨Ui,e,t4,rfl,aF⟩:=eV (tests:=gC T.aA (run T W (n+5)) [.uA .Eq (.bif .len [.call "r" [.v 0,.v 2,.qA .Add (.v 1) (.l [.v 4]),.bif .len [.v 1]]]) (.c (.int 0))]) (QA:=ev T.aA (run T W (n+5)) false S0) (bind:=bB true [4]) (ds:=rg k)
  (λj=>uH ps ys (j:Int)) (λj=>.int j) (λU=>∃t4,U=[.sh (),~~~ys,.p (.l (ps.map (·.2.1))),.un,t4]/\HA t4=true)
  (λj d hd U hU=>by
   obtain⟨t4,rfl,aF⟩:=hU
   have hj:j<k:=by
    have:=(bE.mp hd).1
    simpa using this
   have ME:d=.int j:=by(rw[iD,WL hj] at hd;exact(eE hd).symm)
   subst ME
   have uf:bC .Add (.l (ys.map D.int)) (.l [.int j])=some (.ow (.l ((ys++[(j:Int)]).map D.int))):=by(rw[tM (PF (by simp;lia)),nZ])
   obtain⟨L,hb,hL⟩:=dw (W:=W) (n:=n) (xs:=ys++[(j:Int)]) (b:=ys.length) hp IM (by simp) (λx hm=>by
    rcases dE.mp hm with h | h
    ·rcases HG x h with h | h
     ·exact h
     ·subst h;lia
    ·rw[kD.mp h];lia)
   have RA:decide ((L.length:Int)=0)=uH ps ys (j:Int):=by rw[hL];rfl
   refine⟨_,[.sh (),~~~ys,.p (.l (ps.map (·.2.1))),.un,.i j],by simp only[rC,EB aF]<;>rfl, ?_,λ_=>⟨.i j,[.sh (),~~~ys,.p (.l (ps.map (·.2.1))),.un,.i j], ?_,rfl,.i j,rfl,rfl⟩,λ_=>⟨.i j,rfl,rfl⟩⟩
   ·clear hd hj hL hp hl IM HG mB h1 h2 hi c5 aF OE hx hk
    walk_at "!nA"
   ·unfold S0;clear hd hj hL hp hl IM HG mB h1 h2 hi c5 aF OE hx hk uf hb RA
    walk_at "!nA")
  [.sh (),~~~ys,.p (.l (ps.map (·.2.1))),.un,.un] ⟨_,rfl,rfl⟩
 rw[nA,fU,n_] at e;have ID:iB ((QH k (uH ps ys)).map D.int).length=true:=MB (by rw[nA];have:=VP (k:=k) (ok:=uH ps ys);lia);have zS:iB (QH k (uH ps ys)).length=true:=MB (by have:=VP (k:=k) (ok:=uH ps ys);lia);clear hp hl IM HG mB OE hx hk aF
 walk_at "!nA"
 rw[cF hi]
 walk_at "!nA"
 all_goals (first | done | (rw[yM rfl];walk_at "!nA"))
def Xc:PB .NotEq (.l (MA Z)) (.l [])=some (!Z.isEmpty):=by
 rw[Wc (eLa Z) rfl];cases Z<;>rfl
theorem Mc:∀(ps:List RP),decide (((zI ps xs b:Nat):Int)=0)=ps.all λp=>(p.2.2 xs b).isEmpty
 |[]=>rfl
 |p::ps=>by(have ih:=Mc (xs:=xs) (b:=b) ps;rw[vC,<- ih];unfold zI;rw[AB,Rr,Dr];cases p.2.2 xs b<;>simp<;>lia)
theorem w_(OE:ps.map (·.1)=rs)(hp:∀p∈ps,RX no ba oc fs rs m p)(hx:∀x∈xs++[q],0<=x/\x<no) :
  "N"|||n+4|||[.sh (),.p (.l ((xs++[q]).map D.int))]|||.b (uH ps xs q):=by
 exists D2
 unfold uH;rw[Mc];have hi:aAa .of [.val (.sh (.t rs))] [.sh (),.p (.l ((xs++[q]).map D.int)),.un]=some (rs,none):=WS rfl;have hle:(((xs++[q]).length:Nat):Int)-1=(xs.length:Int):=by rw[kC,YB,uG];lia
 have hb:xs.length<(xs++[q]).length:=by simp
 obtain⟨ok,RA⟩:∃ok:D->Bool,∀p∈ps,ok p.1=(p.2.2 (xs++[q]) xs.length).isEmpty:=by
  refine⟨λd=>@decide (∃p∈ps,p.1=d/\(p.2.2 (xs++[q]) xs.length).isEmpty=true) (cl _),λp hm=>?_⟩
  cases c:(p.2.2 (xs++[q]) xs.length).isEmpty with
  |true=>exact @kB _ (cl _) ⟨p,hm,rfl,c⟩
  |false =>
   refine @VA _ (cl _) λhz=>?_
   obtain⟨p',jO,e,c'⟩:=hz;have r1:=(hp p hm).lw 0 0 (xs++[q]) xs.length hb hx;have r2:=(hp p' jO).lw 0 0 (xs++[q]) xs.length hb hx;rw[e,r1] at r2
   injection r2 with r2
   injection r2 with r2
   injection r2 with r2
   injection r2 with r2
   injection r2 with r2
   have l:=congrArg BH r2;rw[EJ,EJ] at l;rw[bp] at c';rw[<- l,<- bp,c] at c';cases c'
 have kK:(ps.all λp=>(p.2.2 (xs++[q]) xs.length).isEmpty)=rs.all ok:=by(rw[<- OE,vU];rw[Dr,EE,EE];exact⟨λh p hm=>by show ok p.1=true;rw[RA p hm];exact h p hm,λh p hm=>by rw[<- RA p hm];exact h p hm⟩)
 rw[kK]
 obtain⟨U1,e1,t,rfl,ht⟩:=a7 (bind:=bB true [2]) (body:=NA T.aA (run T W (n+3)) W AZ) ok (.b false)
  (λU=>∃t,U=[.sh (),.p (.l ((xs++[q]).map D.int)),t]/\HA t=true) (ds:=rs) (λd hd U hU=>by
   obtain⟨t,rfl,ht⟩:=hU;rw[<- OE] at hd;obtain⟨p,hm,rfl⟩:=JC.mp hd;refine⟨_,by simp only[rC,EB ht]<;>rfl, ?_⟩;have hw:=(hp p hm).lw W n (xs++[q]) xs.length hb hx;rw[RA p hm]
   generalize p.2.2 (xs++[q]) xs.length=Z at *
   refine⟨[.sh (),.p (.l ((xs++[q]).map D.int)),.sh p.1], ?_,_,rfl,rfl⟩;unfold AZ
   generalize xs++[q]=zs at *
   cases c:Z.isEmpty<;>walk_at "!Xc nA")
  (U:=[.sh (),.p (.l ((xs++[q]).map D.int)),.un]) ⟨_,rfl,rfl⟩
 cases c:rs.all ok<;>rw[c] at e1<;>walk_at "!Xc nA"
end
section
variable{no ba oc:Int}{fs:List (Int×Int×Bool)}{rs:List D}{m:Nat}{ps:List RP}
theorem Av(ho:LH no ba oc fs)(hm:MF fs=(m:Int))(h3:3<=m)(hz:z<=100)(ht:tl.length<=1000) :
  "j"|||n+4|||[.sh (),.sh (wF z tl),.i q]|||.sh (jN m ba (lE z tl++[q])):=by
 exists y3
 have h1:=mi (W:=W) (n:=n+2) hz ht
 have uf:bC .Add (.l ((lE z tl).map D.int)) (.l [.int q])=some (.ow (.l ((lE z tl++[q]).map D.int))):=by(rw[tM (PF (by simp[b9];lia)),nZ])
 have h2:=vWa (W:=W) (n:=n) (rs:=rs) (xs:=lE z tl++[q]) ho hm h3
 walk_at "!nA"
end
def lTa(h:(rg n)=pre++d::post):d=.int pre.length/\pre.length<n:=by
 have hl:=congrArg BH h;rw[nA,fU,kC,YB] at hl;have h2:(rg n)[pre.length]?=some d:=by rw[h,kP (jB _),oR];rfl
 rw[iD,WL (by lia)] at h2;exact⟨(eE h2).symm,by lia⟩
def p_:QH (k+1) ok=QH k ok++(if ok (k:Int)=true then [(k:Int)] else []):=by
 unfold QH;rw[oU,UO,UB];by_cases h:ok (k:Int)=true
 ·rw[KA h,List.filter_cons_of_pos (p:=λ(j:Nat)=>ok (j:Int)) h];rfl
 ·rw[if_neg h,List.filter_cons_of_neg (p:=λ(j:Nat)=>ok (j:Int)) h];rfl
section
variable{no ba oc:Int}{fs:List (Int×Int×Bool)}{rs:List D}{m:Nat}{ps:List RP}
def In(no:Int)(xs:List Int):Prop:=∀x∈xs,0<=x/\x<no
def In.app(h:In no xs)(k:In no ys):In no (xs++ys):=λx hx=>(dE.mp hx).elim (h x) (k x)
def In.one(h:0<=q/\q<no):In no [q]:=λx hx=>by rw[kD.mp hx];exact h
theorem Lb(h:In no tl)(h1:1<=no):In no (lE z tl):=λx hx=>by
 unfold lE at hx;rcases dE.mp hx with hx | hx
 ·rw[Gp hx];lia
 ·exact h x hx
theorem Nu(hz:z<=100)(ht:tl.length<=1000):"M"|||n+1|||[.sh (wF z tl)]|||.ow (.l ((lE z tl).map D.int)):=by
 exists V1
 unfold wF;have e0:(z:Int)+(tl.length:Int)-(tl.length:Int)=(z:Int):=by lia
 have e1:bC .Mult (.l [.int 0]) (.int z)=some (.ow (.l (HB z (.int 0)))):=by(rw[GR (by lia) (by lia) (PF (by simp;lia)),YI,Mx.Qk])
 have e2:bC .Add (.l (HB z (.int 0))) (.l (tl.map D.int))=some (.ow (.l ((lE z tl).map D.int))):=by(rw[tM (PF (by simp;lia))];unfold lE;rw[UB,Pq])
 walk_at "!nA"
def k9(m:Nat)(ba:Int)(ys:List Int)(q:Int):D:=.t [.int q,jN m ba (ys++[q])]
def OO(m:Nat)(ba:Int)(ps:List RP)(ys:List Int)(k:Nat):List D:=(QH k (uH ps ys)).map (k9 m ba ys)
theorem oZa{kn z:Nat}{tl:List Int}(ho:LH no ba oc fs)(hm:MF fs=(m:Int))(hk:no=(kn:Int))(OE:ps.map (·.1)=rs)(hp:∀p∈ps,RX no ba oc fs rs m p)(hz:z<=100)(ht:tl.length<=1000)(hx:In no tl) :
  "m"|||n+5|||[.sh (),.sh (wF z tl)]|||.ow (.l (OO m ba ps (lE z tl) kn)):=by
 exists Q2
 have n1:=ho.n1;have n2:=ho.n2;have hi:∀{U:Env},aAa .jC [.val (.i no)] U=some (rg kn,none):=λ{U}=>by rw[hk];exact Gg (by lia)
 have h1:=Nu (W:=W) (n:=n+3) hz ht;have HG:=Lb (z:=z) hx (by lia);have mB:(lE z tl).length<=1100:=by rw[b9];lia
 generalize lE z tl=ys at *
 obtain⟨U',e,es,t3,t4,rfl,_,_,oK⟩:=UM (bind:=bB true [3]) (body:=NA T.aA (run T W (n+4)) W EZ)
  (λpre U=>∃es t3 t4,U=[.sh (),.sh (wF z tl),.o (.l es),t3,t4]/\HA t3=true/\HA t4=true/\es=OO m ba ps ys pre.length)
  (ds:=rg kn) (λpre d post wC U hU=>by
   obtain⟨es,t3,t4,rfl,h3,h4,oK⟩:=hU;obtain⟨rfl,hj⟩:=lTa wC;refine⟨_,by simp only[rC,EB h3]<;>rfl, ?_⟩
   have hc:bC .Add (.l (ys.map D.int)) (.l [.int pre.length])=some (.ow (.l ((ys++[(pre.length:Int)]).map D.int))):=by(rw[tM (PF (by simp;lia)),nZ])
   have Cf:=w_ (W:=W) (n:=n) (xs:=ys) (q:=(pre.length:Int)) OE hp (HG.app (In.one (by lia)));have MM:=Yh (W:=W) (n:=n+2) (rs:=rs) (xs:=ys++[(pre.length:Int)]) ho hm
   have ID:iB (es.length+1)=true:=MB (by
    have:=VP (k:=pre.length) (ok:=uH ps ys)
    rw[oK,OO,nA];lia)
   have sS:OO m ba ps ys (pre.length+1)=es++(if uH ps ys (pre.length:Int)=true then [k9 m ba ys (pre.length:Int)] else []):=by
    rw[oK,OO,p_,UB];congr 1
    split<;>rfl
   rw[kC,iF,sS];unfold k9
   generalize (pre.length:Int)=q at *
   generalize jN m ba (ys++[q])=sd at *
   generalize ys++[q]=ws at *
   generalize uH ps ys q=b at *
   unfold EZ;clear oK sS
   cases b with
   |true =>
    refine⟨[.sh (),.sh (wF z tl),.o (.l (es++[.t [.int q,sd]])),.i q,.o (.l (ws.map D.int))], ?_,_,_,_,rfl,rfl,rfl,rfl⟩;clear hp OE hx HG mB ho hm hk hz ht wC hj h3 n1 n2 hi
    walk_at "!nA"
   |false =>
    refine⟨[.sh (),.sh (wF z tl),.o (.l es),.i q,.o (.l (ws.map D.int))], ?_,_,_,_,rfl,rfl,rfl,(ZD es).symm⟩;clear hp OE hx HG mB ho hm hk hz ht wC hj h3 n1 n2 hi
    walk_at "!nA")
  (U:=[.sh (),.sh (wF z tl),.o (.l []),.un,.un]) ⟨[],_,_,rfl,rfl,rfl,rfl⟩
 rw[nA,fU] at oK;subst oK;clear hp OE hx HG mB ho hm hk hz ht n1 n2
 walk_at "!nA"
end
theorem Ci{bind:D->Env->Option Env}(Q:RV->Env->Prop)(I:Nat->Env->Prop):∀(ds:List D) (j:Nat),(∀i d U,ds[i]?=some d->I (j+i) U->∃U1,bind d U=some U1/\∃U2,(body U1=some (.nx,U2)/\I (j+i+1) U2)\/∃v,body U1=some (.rt v,U2)/\Q v U2)->∀U,I j U->∃U',(cC bind body ds U=some (.nx,U')/\I (j+ds.length) U')\/∃v,cC bind body ds U=some (.rt v,U')/\Q v U'
 |[],j,h,U,hU=>⟨U,.inl ⟨rfl,hU⟩⟩
 |d::ds,j,h,U,hU=>by
  obtain⟨U1,e1,U2,⟨e2,h2⟩ | ⟨v,e2,h2⟩⟩:=h 0 d U rfl hU
  ·obtain⟨U',h3⟩:=Ci Q I ds (j+1) (λi d U hd hi=>by
    have:=h (i+1) d U hd (by rw[<- zY,Qq];exact hi)
    rw[<- zY,Qq j i 1] at this
    exact this) U2 h2
   refine⟨U', ?_⟩;rw[YB,show j+(ds.length+1)=j+1+ds.length by lia];simp only[cC,e1,e2];exact h3
  ·exact⟨U2,.inr ⟨v,by simp only[cC,e1,e2],h2⟩⟩
structure VK(no ba:Int)(m:Nat)(k:L2.LA):Prop where
 t0:0<=k.1
 t1:k.1<=(m:Int)+ba-1
 tl:(k.2.length:Int)=if(m:Int)<k.1 then(m:Int) else k.1
 xs:In no k.2
def wO(k:L2.LA):List Int:=lE (k.1-k.2.length).toNat k.2
def GQ(m:Nat)(ba:Int)(xs:List Int):L2.LA:=(FJ m ba xs.length,OL m xs)
theorem pWa:jN m ba xs=eA (GQ m ba xs):=rfl
section
variable{no ba oc:Int}{fs:List (Int×Int×Bool)}{rs:List D}{m kn:Nat}{ps:List RP}{k:L2.LA}
theorem VK.le(h:VK no ba m k):(k.2.length:Int)<=k.1:=by
 have:=h.tl
 split at this<;>lia
theorem VK.st(h:VK no ba m k):eA k=wF (k.1-k.2.length).toNat k.2:=by
 have:=h.le
 unfold eA wF;rw[YX (by lia),Int.sub_add_cancel]
structure HK(no ba oc:Int)(fs:List (Int×Int×Bool))(rs:List D)(m kn:Nat)(ps:List RP):Prop where
 ho:LH no ba oc fs
 hm:MF fs=(m:Int)
 h3:3<=m
 h5:m<=5
 hk:no=(kn:Int)
 OE:ps.map (·.1)=rs
 hp:∀p∈ps,RX no ba oc fs rs m p
 hl:rs.length<=8
theorem HK.z(H:HK no ba oc fs rs m kn ps)(h:VK no ba m k):(k.1-k.2.length).toNat<=100/\k.2.length<=1000:=by
 have:=h.t1;have:=h.le;have:=H.h5;have:=H.ho.b2
 lia
theorem HK.k7(H:HK no ba oc fs rs m kn ps):kn<=7:=by have:=H.ho.n2;have:=H.hk;lia
def HK.line(H:HK no ba oc fs rs m kn ps)(h:VK no ba m k):In no (wO k):=Lb h.xs H.ho.n1
theorem HK.next(H:HK no ba oc fs rs m kn ps)(h:In no xs):VK no ba m (GQ m ba xs):=by
 have b1:=H.ho.b1;have h3:=H.h3;have tb:=qYa (m:=(m:Int)) (ba:=ba) (n:=(xs.length:Int)) (by lia) (by lia) b1;exact⟨tb.1,tb.2,dYa b1,λx hx=>h x (cYa hx)⟩
def HD(hA:D)(no ba:Int)(m kn:Nat)(ps:List RP):Prop:=∃oc fs rs,hA=()/\HK no ba oc fs rs m kn ps
theorem HD.i0(H:HD hA no ba m kn ps):PD (some hA) (.int 0)=some (.i no):=by obtain⟨_,_,_,rfl,_⟩:=H;rfl
theorem HD.k7(H:HD hA no ba m kn ps):kn<=7:=by obtain⟨_,_,_,rfl,H⟩:=H;exact H.k7
theorem HD.hk(H:HD hA no ba m kn ps):no=(kn:Int):=by obtain⟨_,_,_,rfl,H⟩:=H;exact H.hk
theorem HD.line(H:HD hA no ba m kn ps)(h:VK no ba m k):In no (wO k):=by obtain⟨_,_,_,rfl,H⟩:=H;exact H.line h
theorem HD.next(H:HD hA no ba m kn ps)(h:In no xs):VK no ba m (GQ m ba xs):=by obtain⟨_,_,_,rfl,H⟩:=H;exact H.next h
def XE(kn:Nat)(ps:List RP)(k:L2.LA):List Int:=QH kn (uH ps (wO k))
def jKa{W n:Nat}(H:HD hA no ba m kn ps)(h:VK no ba m k):"t"|||n+6|||[.sh hA,.sh (eA k)]|||.ow (.l ((XE kn ps k).map D.int)):=by
 obtain⟨oc,fs,rs,rfl,H⟩:=H;rw[h.st];exact kKa H.hk H.k7 H.OE H.hp H.hl (H.z h).1 (H.z h).2 h.xs
def zv(H:HD hA no ba m kn ps)(h:VK no ba m k):"j"|||n+4|||[.sh hA,.sh (eA k),.i q]|||.sh (eA (GQ m ba (wO k++[q]))):=by
 obtain⟨oc,fs,rs,rfl,H⟩:=H;rw[h.st];exact Av H.ho H.hm H.h3 (H.z h).1 (H.z h).2
def Ro(H:HD hA no ba m kn ps)(h:VK no ba m k):"m"|||n+5|||[.sh hA,.sh (eA k)]|||.ow (.l (OO m ba ps (wO k) kn)):=by
 obtain⟨oc,fs,rs,rfl,H⟩:=H;rw[h.st];exact oZa H.ho H.hm H.hk H.OE H.hp (H.z h).1 (H.z h).2 h.xs
end
def fV{bind:D->Env->Option Env}(val:D->D)(J:Env->Prop)
  (step:∀d∈ds,∀U,J U->∃U1 v U2,bind d U=some U1/\QA U1=some (.ok v,U2)/\v.d=val d/\J U2) (h:J U) :
  ∃U',jE (gC P C []) QA bind ds [] U=some (.ok (ds.map val),U')/\J U':=by
 obtain⟨vA,U',e,⟨rfl,hJ⟩,_⟩:=dH (tests:=gC P C []) (λj vA U=>vA=(ds.take j).map val/\J U)
  (λj d hd vA U hz=>by
   obtain⟨ha,hJ⟩:=hz;obtain⟨U1,v,U2,h1,h2,h3,h4⟩:=step d (VE hd) U hJ;refine⟨U1,true,U1,h1,AI,λ_=>⟨v,U2,h2, ?_,h4⟩,λz=>nomatch z⟩;rw[ha,h3,List.take_add_one,hd,UB]
   rfl) [] U ⟨rfl,h⟩
 exact⟨U',by rw[e,vN],hJ⟩
section
variable{no ba:Int}{kn m:Nat}{ps:List RP}{hA:D}{k:L2.LA}
def LB(m:Nat)(ba:Int)(k:L2.LA)(q:Int):L2.LA:=GQ m ba (wO k++[q])
def UC(m:Nat)(ba:Int)(kn:Nat)(ps:List RP)(k:L2.LA):List D:=(XE kn ps k).map λq=>.t [.int q,eA (LB m ba k q)]
theorem km:OO m ba ps (wO k) kn=UC m ba kn ps k:=rfl
theorem xWa{W n:Nat}(H:HD hA no ba m kn ps)(h:VK no ba m k):"E"|||n+7|||[.sh hA,.sh (eA k)]|||.ow (.l (UC m ba kn ps k)):=by
 exists j4
 have h1:=jKa (W:=W) (n:=n) H h;have hi:∀{U:Env},aAa .of [.val (.ow (.l ((XE kn ps k).map D.int)))] U=some ((XE kn ps k).map D.int,none):=λ{U}=>rfl
 obtain⟨Ui,e,t3,rfl,wL⟩:=fV (P:=T.aA) (C:=run T W (n+6)) (QA:=ev T.aA (run T W (n+6)) false Z0) (bind:=bB true [3]) (ds:=(XE kn ps k).map D.int)
  (λd=>match d with | .int q=>.t [.int q,eA (LB m ba k q)] | _=>.pA) (λU=>∃t3,U=[.sh hA,.sh (eA k),.un,t3]/\HA t3=true)
  (λd hd U hU=>by
   obtain⟨t3,rfl,h3⟩:=hU;obtain⟨q,hq,rfl⟩:=JC.mp hd;have hb:=zv (W:=W) (n:=n+2) (q:=q) H h;refine⟨_,.sh (.t [.int q,eA (LB m ba k q)]),[.sh hA,.sh (eA k),.un,.i q],by simp only[rC,EB h3]<;>rfl, ?_,rfl,_,rfl,rfl⟩;replace hb:"j"|||n+6|||[.sh hA,.sh (eA k),.i q]|||.sh (eA (LB m ba k q)):=hb;unfold Z0
   walk_at "!nA")
  (U:=[.sh hA,.sh (eA k),.un,.un]) ⟨_,rfl,rfl⟩
 have kK:((XE kn ps k).map D.int).map (λd=>match d with | .int q=>D.t [.int q,eA (LB m ba k q)] | _=>.pA)=UC m ba kn ps k:=by rw[fE];rfl
 rw[kK] at e;have mB:(UC m ba kn ps k).length<=7:=by unfold UC;rw[nA];exact EC VP H.k7
 generalize UC m ba kn ps k=F at *
 have ID:iB F.length=true:=MB (by omega)
 walk_at "!nA"
 rw[cF hi]
 walk_at "!nA"
end
section
variable{S:Type}{fol:S->List Int}{nx:S->Int->S}{s0 s:S}
theorem Xi[BEq S][LawfulBEq S]:∀{l l':List S},l.Nodup->(∀x∈l,x∈l')->l.length<=l'.length
 |[],_,_,_=>mI _
 |x::r,l',nd,h=>by
  rw[GJ] at nd;have hx:=h x YD
  have:=Xi (l':=l'.erase x) nd.2 λy hy=>(Aq λz:y=x=>nd.1 (z ▸ hy)).mpr (h y (WC _ hy))
  rw[Ip hx] at this
  have:=Zp hx
  rw[YB]
  lia
end
def jS{ks:List L2.LA}:EI (ks.map .inl) (.inl k)=decide (k∈ks):=by
 unfold EI;rw[List.any_map]
 induction ks with
 |nil=>rfl
 |cons x ks ih =>
  rw[dP,ih];show(decide (Sum.inl x=(Sum.inl k:L2.JB))||decide (k∈ks))=_;by_cases e:x=k
  ·subst e;rw[kB rfl,kB YD];rfl
  ·rw[VA (λz=>e (BN z)),vG];exact aR.mpr ⟨WC _,λh=>(DC.mp h).resolve_left λz=>e z.symm⟩
def Z6{ks:List L2.LA}(h:k∈ks):EL (ks.map .inl) (ks.map f) (.inl k)=some (f k):=by
 unfold EL
 induction ks with
 |nil=>cases h
 |cons x ks ih =>
  rw[AB,AB,YL,yN];by_cases e:x=k
  ·subst e;simp
  ·rw[VA (λz=>e (BN z))];exact ih ((DC.mp h).resolve_left λz=>e z.symm)
def wk{ks:List L2.LA}{k:L2.LA}{f:L2.LA->D}(h:k ∉ ks):IG (ks.map .inl) (.inl k)=(ks++[k]).map .inl/\tF (ks.map .inl) (ks.map f) (.inl k) (f k)=(ks++[k]).map f:=by
 unfold IG tF;rw[jS,VA h,UB,UB];exact⟨rfl,rfl⟩
def JG:VD (eA k)=some (.inl k):=hVa
section
variable{no ba:Int}{kn m:Nat}{ps:List RP}{hA:D}{s0 k:L2.LA}{W n:Nat}
theorem q_(H:HD hA no ba m kn ps)(h:VK no ba m k)(hq:q∈XE kn ps k):VK no ba m (LB m ba k q):=by
 have h1:=o_ hq;have h2:=H.hk;exact H.next ((H.line h).app (In.one ⟨h1.1,by lia⟩))
end
def hSa{ks:List L2.LA}{d:D}(h:k∈ks):IG (ks.map .inl) (.inl k)=ks.map .inl/\tF (ks.map .inl) (ks.map f) (.inl k) d=ks.map λx=>if x=k then d else f x:=by
 unfold IG tF;rw[jS,kB h];refine⟨rfl, ?_⟩;clear h;show((ks.map Sum.inl).zip (ks.map f)).map (λp:L2.JB×D=>if p.1=.inl k then d else p.2)=_
 induction ks with
 |nil=>rfl
 |cons x ks ih =>
  rw[AB,AB,YL,AB,AB,ih];congr 1;by_cases e:x=k
  ·subst e;simp
  ·rw[if_neg (λz=>e (BN z)),if_neg e]
abbrev CS:=List L2.LA×List L2.LA×(L2.LA->D)×Sl×Sl×Sl
section
variable{no ba:Int}{kn m:Nat}{ps:List RP}{hA d0:D}{W n:Nat}{s0:L2.LA}
noncomputable def mD(ks:List L2.LA)(f:L2.LA->D):D:=.ZA (ks.map .inl) (ks.map f)
def HF(hA d0:D)(a:CS):Env:=[.sh hA,.sh d0,.o (mD a.1 a.2.2.1),.o (.l (a.2.1.map eA)),a.2.2.2.1,a.2.2.2.2.1,a.2.2.2.2.2]
def wd(hn:PB .NotIn dn (.ZA KS DS)=some b)(hk:VD dn=some kk)(hz:iB (Lw.length+1)=true)(hs:iB (KS.length+1)=true)(hp:b=true->IG KS kk=Nb/\tF KS DS kk D.pA=Kb) :
  NA T.aA (run T W n) W PN [.sh hA,.sh d0,.o (.ZA KS DS),.o (.l Lw),s4,s5,.sh dn]=some (.nx,if b=true then [.sh hA,.sh d0,.o (.ZA Nb Kb),.o (.l (Lw++[dn])),s4,s5,.sh dn] else [.sh hA,.sh d0,.o (.ZA KS DS),.o (.l Lw),s4,s5,.sh dn]):=by
 unfold PN
 cases b with
 |false=>walk_at "!lG"
 |true =>
  obtain⟨p1,p2⟩:=hp rfl
  walk_at "!lG"
end
def L8(g:Int->L2.LA)(q:Int):D:=.t [.int q,eA (g q)]
theorem To(st:O->Env)(I Dn:O->Prop)(μ:O->Nat)
  (h:∀a,I a->(Dn a/\test (st a)=some (.ok (.b false),st a))\/(test (st a)=some (.ok (.b true),st a)/\∃b,body (st a)=some (.nx,st b)/\I b/\μ b<μ a)) :
  ∀n a,I a->μ a<n->∃b,I b/\Dn b/\MI test body n (st a)=some (.nx,st b)
 | 0,a,_,hm=>absurd hm (Ja _)
 |n+1,a,ha,hm=>by
  rcases h a ha with ⟨hd,ht⟩ | ⟨ht,b,hb,hi,hl⟩
  ·exact⟨a,ha,hd,by simp only[MI,ht,FA.GC]⟩
  ·obtain⟨c,h1,h2,h3⟩:=To st I Dn μ h n b hi (by lia);exact⟨c,h1,h2,by simp only[MI,ht,FA.GC,hb];exact h3⟩
section
variable{no ba:Int}{kn m:Nat}{ps:List RP}{hA d0:D}{W n:Nat}{s0:L2.LA}
theorem wx{L w:List L2.LA}{f:L2.LA->D}{l:List Int}(hl:L.length+l.length<=1000)(hw:w.length+l.length<=1000)(nd:L.Nodup)(o5:HA s5=true)(o6:HA s6=true) :
  ∃N f' t5 t6,cC (bB false [5,6]) (NA T.aA (run T W n) W PN) (l.map (L8 (LB m ba k))) (HF hA d0 (L,w,f,s4,s5,s6))=some (.nx,HF hA d0 (L++N,w++N,f',s4,t5,t6))/\HA t5=true/\HA t6=true/\(L++N).Nodup/\(∀x∈N,∃q∈l,x=LB m ba k q)/\(∀q∈l,LB m ba k q∈L++N)/\N.length<=l.length/\∀x∈L,f' x=f x:=by
 induction l generalizing L w f s5 s6 with
 |nil=>exact⟨[],f,s5,s6,by rw[ZD,ZD];rfl,o5,o6,by rw[ZD];exact nd,λx hx=>(by cases hx),λq hq=>(by cases hq),jB _,λ_ _=>rfl⟩
 |cons q l ih =>
  rw[YB] at hl hw
  have hb:bB false [5,6] (L8 (LB m ba k) q) (HF hA d0 (L,w,f,s4,s5,s6))=some (HF hA d0 (L,w,f,s4,.i q,.sh (eA (LB m ba k q)))):=by(unfold HF L8;simp only[rC,EB o5,EB o6]<;>rfl)
  have hn:PB .NotIn (eA (LB m ba k q)) (mD L f)=some !(decide (LB m ba k q∈L)):=by unfold mD;rw[Yc JG,jS]
  by_cases VH:LB m ba k q∈L
  ·rw[kB VH] at hn;obtain⟨N,f',t5,t6,e,l7,p7,cI,h1,h2,h3,h4⟩:=ih (L:=L) (w:=w) (f:=f) (s5:=.i q) (s6:=.sh (eA (LB m ba k q))) (by lia) (by lia) nd rfl rfl;refine⟨N,f',t5,t6, ?_,l7,p7,cI,λx hx=>let ⟨p,hp,h⟩:=h1 x hx;⟨p,WC _ hp,h⟩,λp hp=>?_,by rw[YB];lia,h4⟩
   ·rw[AB]
    have:=wd (W:=W) (n:=n) (hA:=hA) (d0:=d0) (s4:=s4) (s5:=.i q) (Nb:=[]) (Kb:=[]) (Lw:=w.map eA) hn JG (MB (by rw[nA];lia)) (MB (by rw[nA];lia)) (λz=>nomatch z)
    rw[if_neg (by decide)] at this;simp only[cC,hb];rw[show NA T.aA (run T W n) W PN (HF hA d0 (L,w,f,s4,.i q,.sh (eA (LB m ba k q))))=some (.nx,HF hA d0 (L,w,f,s4,.i q,.sh (eA (LB m ba k q)))) from this];exact e
   ·rcases DC.mp hp with rfl | hp
    ·exact XI _ VH
    ·exact h2 p hp
  ·rw[VA VH] at hn;have g:=wk (f:=λx=>if x=LB m ba k q then D.pA else f x) VH;rw[KA rfl] at g;have zAa:L.map (λx=>if x=LB m ba k q then D.pA else f x)=L.map f:=SO λx hx=>if_neg λz:x=LB m ba k q=>VH (z ▸ hx)
   rw[zAa] at g
   obtain⟨N,f',t5,t6,e,l7,p7,cI,h1,h2,h3,h4⟩:=ih (L:=L++[LB m ba k q]) (w:=w++[LB m ba k q]) (f:=λx=>if x=LB m ba k q then D.pA else f x) (s5:=.i q) (s6:=.sh (eA (LB m ba k q))) (by simp;lia) (by simp;lia)
    (aJ.mpr ⟨nd,by simp,λx hx y hy z=>VH (by rw[kD] at hy;subst hy z;exact hx)⟩) rfl rfl
   refine⟨LB m ba k q::N,f',t5,t6, ?_,l7,p7, ?_,λx hx=>?_,λp hp=>?_,by simp;lia,λx hx=>(h4 x (XI _ hx)).trans (if_neg λz:x=LB m ba k q=>VH (z ▸ hx))⟩
   ·rw[AB]
    have:=wd (W:=W) (n:=n) (hA:=hA) (d0:=d0) (s4:=s4) (s5:=.i q) (Lw:=w.map eA) hn JG (MB (by rw[nA];lia)) (MB (by rw[nA];lia)) (λ_=>g)
    rw[KA (show(!false)=true from rfl)] at this;simp only[cC,hb];rw[show NA T.aA (run T W n) W PN (HF hA d0 (L,w,f,s4,.i q,.sh (eA (LB m ba k q))))=some (.nx,HF hA d0 (L++[LB m ba k q],w++[LB m ba k q],λx=>if x=LB m ba k q then D.pA else f x,s4,.i q,.sh (eA (LB m ba k q)))) from this.trans (by unfold HF;rw[UB (l₁:=w)];rfl)];rw[GH,GH] at e;exact e
   ·rw[GH] at cI;exact cI
   ·rcases DC.mp hx with rfl | hx
    ·exact⟨q,YD,rfl⟩
    ·obtain⟨p,hp,h⟩:=h1 x hx;exact⟨p,WC _ hp,h⟩
   ·rcases DC.mp hp with rfl | hp
    ·simp
    ·have:=h2 p hp;rw[GH] at this;exact this
structure CV(no ba:Int)(m kn:Nat)(ps:List RP)(s0:L2.LA)(a:CS):Prop where
 nd:a.1.Nodup
 le:a.1.length<=157
 wn:a.2.1.Nodup
 sub:∀k∈a.2.1,k∈a.1
 vk:∀k∈a.1,VK no ba m k
 s0:s0∈a.1
 cl:∀k∈a.1,k ∉ a.2.1->∀q∈XE kn ps k,LB m ba k q∈a.1
 vl:∀k∈a.1,k ∉ a.2.1->a.2.2.1 k=.l (UC m ba kn ps k)
 o4:HA a.2.2.2.1=true
 o5:HA a.2.2.2.2.1=true
 o6:HA a.2.2.2.2.2=true
def CV.wl(h:CV no ba m kn ps s0 a):a.2.1.length<=157:=EC (Xi h.wn h.sub) h.le
def aA1{w:List L2.LA}:PB .NotEq (.l (w.map eA)) (.l [])=some (!w.isEmpty):=by
 have e1:sC 20 (.l (w.map eA))=true:=EE.mpr λd hd=>by(obtain⟨k,_,rfl⟩:=JC.mp hd;show(true&&((k.2.map D.int).all (sC 17)&&true))=true;rw[WW];rfl)
 have e2:sC 20 (.l [])=true:=rfl;show(if sC 20 (.l (w.map eA))&&sC 20 (.l []) then some (!JF (.l (w.map eA)) (.l [])) else none)=_;rw[e1,e2];cases w<;>rfl
def VZ:ev P C true (.and (.uA .NotEq (.v 3) (.l [])) (.uA .LtE (.bif .len [.v 2]) (.c (.int 150)))) (HF hA d0 a)=some (.ok (.b (!a.2.1.isEmpty&&decide ((a.1.length:Int)<=150))),HF hA d0 a):=by
 have h1:=aA1 (w:=a.2.1);have h2:aD .len [mD a.1 a.2.2.1]=some (.i a.1.length):=by unfold mD;rw[NR,nA]
 unfold HF
 cases e:a.2.1.isEmpty with
 |true=>rw[e] at h1;clear e;walk_at "!"
 |false=>rw[e] at h1;clear e;walk_at "!"
theorem xx(H:HD hA no ba m kn ps){a:CS}(hd:CV no ba m kn ps s0 a)(hw:a.2.1≠[])(m1a:a.1.length<=150) :
  ∃b,NA T.aA (run T W (n+5)) W zP (HF hA d0 a)=some (.nx,HF hA d0 b)/\CV no ba m kn ps s0 b/\2*(200-b.1.length)+b.2.1.length<2*(200-a.1.length)+a.2.1.length:=by
 have ES:=hd.wl;obtain⟨L,ws,f,t4,t5,t6⟩:=a;obtain⟨nd,le,wn,sub,vk,h0,cl,vl,o4,o5,o6⟩:=hd
 dsimp only at *
 rcases List.eq_nil_or_concat ws with rfl | ⟨w,k,rfl⟩
 ·exact absurd rfl hw
 rw[List.concat_eq_append] at *
 have hk:k∈L:=sub k (by simp)
 have hkw:k ∉ w:=λz=>by(rw[aJ] at wn;exact wn.2.2 k z k (by simp) rfl)
 have h7:(XE kn ps k).length<=7:=EC VP H.k7;rw[kC,iF] at ES;obtain⟨p1,p2⟩:=hSa (d:=.l (UC m ba kn ps k)) hk;obtain⟨N,f',u5,u6,e,q5,q6,cI,h1,h2,h3,h4⟩:=wx (ba:=ba) (hA:=hA) (n:=n+5) (w:=w) (f:=λx=>if x=k then .l (UC m ba kn ps k) else f x) (s4:=.sh (eA k)) (s5:=t5) (s6:=t6) (k:=k) (l:=XE kn ps k) (by lia) (by lia) nd o5 o6
 have hN:∀x∈N,x ∉ L:=λx hx z=>by(rw[aJ] at cI;exact cI.2.2 x z x hx rfl)
 refine⟨(L++N,w++N,f',.sh (eA k),u5,u6), ?_,⟨cI,by simp;lia, ?_,λx hx=>?_,λx hx=>?_,XI _ h0,λx hx HS q hq=>?_,λx hx HS=>?_,rfl,q5,q6⟩,by simp;lia⟩
 ·have hp:((w++[k]).map eA)[((w++[k]).map eA).length-1]?=some (eA k):=by simp
  have hq:((w++[k]).map eA).dropLast=w.map eA:=by simp
  have hwy:=Ro (W:=W) (n:=n) H (vk k hk);rw[km] at hwy
  have jW:∀{U:Env},EO 2 U (some (.o (mD L f))) (some (.inl k)) (.ow (.l (UC m ba kn ps k)))=some (.nx,U.set 2 (.o (mD L λx=>if x=k then .l (UC m ba kn ps k) else f x))):=λ{U}=>by(refine(lG (MB (by rw[nA];lia))).trans ?_;rw[p1];show some (Fl.nx,U.set 2 (.o (.ZA _ (tF _ _ _ (.l _)))))=_;rw[p2];rfl)
  have c5:PD (some (mD L λx=>if x=k then .l (UC m ba kn ps k) else f x)) (eA k)=some (.sh (.l (UC m ba kn ps k))):=by(refine y6 JG ?_;rw[Z6 (f:=λx=>if x=k then .l (UC m ba kn ps k) else f x) hk,KA rfl])
  have bg:=JG (k:=k);have wC:QS (some (.o (mD L f)))=true:=rfl;have yf:LS (some (.o (mD L f)))=false:=rfl;have how:lQ (some (.o (mD L f)))=false:=rfl;have hi:∀{U:Env} {F:List D},aAa .of [.val (.sh (.l F))] U=some (F,none):=λ{U F}=>rfl
  replace e:cC (bB false [5,6]) (NA T.aA (run T W (n+5)) W PN) (UC m ba kn ps k) [.sh hA,.sh d0,.o (mD L λx=>if x=k then .l (UC m ba kn ps k) else f x),.o (.l (w.map eA)),.sh (eA k),t5,t6]=some (.nx,HF hA d0 (L++N,w++N,f',.sh (eA k),u5,u6)):=e;show NA T.aA (run T W (n+5)) W zP [.sh hA,.sh d0,.o (mD L f),.o (.l ((w++[k]).map eA)),t4,t5,t6]=_;unfold zP;clear H nd le wn sub vk h0 cl vl o5 o6 hk hkw p1 p2 cI h1 h2 h3 h4 hN hw q5 q6
  walk_at "!"
 ·rw[aJ] at wn cI ⊢;exact⟨wn.1,cI.2.1,λx hx y hy z=>hN y hy (z ▸ sub x (XI _ hx))⟩
 ·rcases dE.mp hx with hx | hx
  ·exact XI _ (sub x (XI _ hx))
  ·exact FH _ hx
 ·rcases dE.mp hx with hx | hx
  ·exact vk x hx
  ·obtain⟨q,hq,rfl⟩:=h1 x hx;exact q_ H (vk k hk) hq
 ·have nx:x ∉ N:=λz=>HS (FH _ z)
  rcases dE.mp hx with hx | hx
  ·by_cases e:x=k
   ·subst e;exact h2 q hq
   ·exact XI _ (cl x hx (λz=>(dE.mp z).elim (λz=>HS (XI _ z)) λz=>e (kD.mp z)) q hq)
  ·exact absurd hx nx
 ·rcases dE.mp hx with hx | hx
  ·show f' x=_;rw[h4 x hx];by_cases e:x=k
   ·subst e;exact KA rfl
   ·rw[if_neg e];exact vl x hx λz=>(dE.mp z).elim (λz=>HS (XI _ z)) λz=>e (kD.mp z)
  ·exact absurd (FH _ hx) HS
structure Gr(no ba:Int)(m kn:Nat)(ps:List RP)(L:List L2.LA)(f:L2.LA->D):Prop where
 nd:L.Nodup
 le:L.length<=150
 vk:∀k∈L,VK no ba m k
 cl:∀k∈L,∀q∈XE kn ps k,LB m ba k q∈L
 vl:∀k∈L,f k=.l (UC m ba kn ps k)
theorem Ax(H:HD hA no ba m kn ps)(h0:VK no ba m s0):∃L f,run T (W+1300) (n+6) "v" [.sh hA,.sh (eA s0)]=some (.ok (.ow (mD L f)),[.sh hA,.sh (eA s0)])/\(150<L.length\/Gr no ba m kn ps L f):=by
 have key:=To (test:=ev T.aA (run T (W+1300) (n+5)) true (.and (.uA .NotEq (.v 3) (.l [])) (.uA .LtE (.bif .len [.v 2]) (.c (.int 150))))) (body:=NA T.aA (run T (W+1300) (n+5)) (W+1300) zP)
  (HF hA (eA s0)) (CV no ba m kn ps s0) (λa=>a.2.1=[]\/150<a.1.length) (λa=>2*(200-a.1.length)+a.2.1.length) (λa ha=>by
   by_cases hw:a.2.1=[]
   ·exact .inl ⟨.inl hw,by rw[VZ,hw];rfl⟩
   ·by_cases hl:a.1.length<=150
    ·refine .inr ⟨by rw[VZ,kB (by lia)];cases e:a.2.1<;>first | exact absurd e hw | rfl,xx H ha hw hl⟩
    ·exact .inl ⟨.inr (by lia),by rw[VZ,VA (by lia),Kr]⟩) (W+1300) ([s0],[s0],λ_=>.pA,.un,.un,.un)
   ⟨by simp,by simp,by simp,λk hk=>hk,λk hk=>by rw[kD.mp hk];exact h0,by simp,λk hk hn=>absurd hk hn,λk hk hn=>absurd hk hn,rfl,rfl,rfl⟩ (by show 2*(200-1)+1<W+1300;lia)
 obtain⟨⟨L,ws,f,t4,t5,t6⟩,hi,hd,g⟩:=key;refine⟨L,f, ?_, ?_⟩
 ·have hdz:lV (VD (eA s0)) (.sh .pA)=λU=>some (.ok (.ow (mD [s0] λ_=>.pA)),U):=by rw[JG];rfl
  replace g:MI (ev T.aA (run T (W+1300) (n+5)) true (.and (.uA .NotEq (.v 3) (.l [])) (.uA .LtE (.bif .len [.v 2]) (.c (.int 150))))) (NA T.aA (run T (W+1300) (n+5)) (W+1300) zP) (W+1300) [.sh hA,.sh (eA s0),.o (mD [s0] λ_=>.pA),.o (.l [eA s0]),.un,.un,.un]=some (.nx,[.sh hA,.sh (eA s0),.o (mD L f),.o (.l (ws.map eA)),t4,t5,t6]):=g
  exists A2
  walk_at "!"
 ·rcases hd with hd | hd
  ·by_cases h:150<L.length
   ·exact .inl h
   ·have hn:∀k,k ∉ ws:=λk z=>by
     have hd:ws=[]:=hd;rw[hd] at z;cases z
    exact .inr ⟨hi.nd,gY h,hi.vk,λk hk=>hi.cl k hk (hn k),λk hk=>hi.vl k hk (hn k)⟩
  ·exact .inl hd
end
section
variable{no ba:Int}{kn m:Nat}{ps:List RP}{hA:D}{W n:Nat}{ks:List L2.LA}{f:L2.LA->Int}{k:L2.LA}
def nD(ks:List L2.LA)(f:L2.LA->Int):D:=mD ks λk=>.int (f k)
def Ri:PB .In (eA k) (nD ks f)=some (decide (k∈ks)):=by unfold nD mD;rw[Mw JG,jS]
def gT:PB .NotIn (eA k) (nD ks f)=some (!decide (k∈ks)):=by unfold nD mD;rw[Yc JG,jS]
def vQ(h:k∈ks):PD (some (nD ks f)) (eA k)=some (.i (f k)):=y6 JG (Z6 (f:=λk=>.int (f k)) h)
def zJa:aD .len [nD ks f]=some (.i ks.length):=by unfold nD mD;rw[NR,nA]
def lB(m:Nat)(ba:Int)(ks:List L2.LA)(f:L2.LA->Int)(k:L2.LA)(q:Int):Bool:=decide (LB m ba k q∈ks)&&decide (f (LB m ba k q)<f k)
def qH(m:Nat)(ba:Int)(kn:Nat)(ps:List RP)(ks:List L2.LA)(f:L2.LA->Int)(k:L2.LA):Bool:=(XE kn ps k).all (lB m ba ks f k)
noncomputable def z7(p:Int->Bool):D->Bool
 |.t [.int q,_]=>p q
 |_=>false
def ic:(UC m ba kn ps k).all (z7 p)=(XE kn ps k).all p:=by unfold UC;rw[vU];rfl
theorem Te{a b:Int}:decide (b<=a)=!decide (a<b):=by
 by_cases h:a<b
 ·rw[kB h,VA (by lia)];rfl
 ·rw[VA h,kB (by lia)];rfl
def qHa(H:HD hA no ba m kn ps)(h:VK no ba m k)(VH:k∈ks) :
  "G"|||n+8|||[.sh hA,.sh (nD ks f),.sh (eA k)]|||.b (qH m ba kn ps ks f k&&decide (0<=f k)):=by
 have hs:=xWa (W:=W) (n:=n) H h;have hik:=vQ (f:=f) VH
 obtain⟨U1,e1,t,rfl,ht⟩:=a7 (bind:=bB true [3]) (body:=NA T.aA (run T W (n+7)) W IZ) (z7 (lB m ba ks f k)) (.b false)
  (λU=>∃t,U=[.sh hA,.sh (nD ks f),.sh (eA k),t]/\HA t=true) (ds:=UC m ba kn ps k) (λd hd U hU=>by
   obtain⟨t,rfl,ht⟩:=hU;obtain⟨q,hq,rfl⟩:=JC.mp hd;refine⟨_,by simp only[rC,EB ht]<;>rfl,[.sh hA,.sh (nD ks f),.sh (eA k),.sh (.t [.int q,eA (LB m ba k q)])], ?_,_,rfl,rfl⟩;have hn:=gT (ks:=ks) (f:=f) (k:=LB m ba k q);have hx:PD (some (.t [.int q,eA (LB m ba k q)])) (.int 1)=some (.sh (eA (LB m ba k q))):=rfl;show _=some (if lB m ba ks f k q=true then _ else _,_);unfold IZ lB;by_cases c:LB m ba k q∈ks
   ·have h2:=vQ (f:=f) c;have hg:=Te (a:=f (LB m ba k q)) (b:=f k);rw[kB c] at hn ⊢
    generalize f (LB m ba k q)=a at *
    generalize f k=b at *
    cases z:decide (a<b)<;>rw[z] at hg<;>walk_at "!"
   ·rw[VA c] at hn ⊢
    walk_at "!") (U:=[.sh hA,.sh (nD ks f),.sh (eA k),.un]) ⟨_,rfl,rfl⟩
 rw[ic] at e1
 exists L3
 have hi:∀{U:Env},aAa .of [.val (.ow (.l (UC m ba kn ps k)))] U=some (UC m ba kn ps k,none):=λ{U}=>rfl
 have e0:(XE kn ps k).all (lB m ba ks f k)=qH m ba kn ps ks f k:=rfl;rw[e0] at e1
 generalize qH m ba kn ps ks f k=b at *
 cases b with
 |true=>walk_at "!"
 |false=>walk_at "!"
end
def wV:aD .all [.l (HB n (.bl true))]=some (.b true):=by
 have h:GF (HB n (.bl true))=some (HB n true):=by
  induction n with
  |zero=>rfl
  |succ n ih=>simp[VL,GF,ih]
 show(GF _).map _=_;rw[h];simp
mutual
theorem de:∀(n:Nat) (d:D),sC n d=true->JF d d=true
 |_,.pA,_=>rfl
 |_,.bl b,_=>wN b
 |_,.int i,_=>wN i
 |_,.str x,_=>wN x
 | 0,.t _,h=>(fD h).elim
 | 0,.l _,h=>(fD h).elim
 |n+1,.t ds,h=>D1 n ds h
 |n+1,.l ds,h=>D1 n ds h
 |n,.ins _ _ _,h=>by cases n<;>exact(fD h).elim
 |n,.ZA _ _,h=>by cases n<;>exact(fD h).elim
 |n,.FG _ _,h=>by cases n<;>exact(fD h).elim
 |n,.MC _ _,h=>by cases n<;>exact(fD h).elim
theorem D1:∀(n:Nat) (ds:List D),ds.all (sC n)=true->WN ds ds=true
 |_,[],_=>rfl
 |n,d::ds,h=>by(rw[vC,nB] at h;show(JF d d&&WN ds ds)=true;rw[de n d h.1,D1 n ds h.2];rfl)
end
def Fw(h:sC 20 d=true):PB .Eq d d=some true:=by rw[Dw h h,de 20 d h]
def eYa{ys:List Int}(ho:LH no ba oc fs)(hm:MF fs=(m:Int))(hl:(ys.length:Int)=if(m:Int)<t then(m:Int) else t)(bW:ys.length<=1000)(hy:∀y∈ys,0<=y/\y<no) :
  "C"|||n+3|||[.sh (),.i t,.sh (.t (ys.map D.int))]|||.b true:=by
 exists E3
 have uL:=FW (W:=W) (n:=n+1) (no:=no) (ba:=ba) (oc:=oc) (rs:=rs) ho.l1 ho.l2;rw[hm] at uL;have hi:aAa .of [.slot 2] [.sh (),.i t,.sh (.t (ys.map D.int))]=some (ys.map D.int,none):=cEa rfl
 obtain⟨vA,Ui,e,⟨t1,rfl,nH,rfl⟩,_⟩:=dH (tests:=gC T.aA (run T W (n+2)) []) (QA:=ev T.aA (run T W (n+2)) false P0) (bind:=bB true [2]) (ds:=ys.map D.int)
  (λj vA U=>∃(t1:Sl),U=[.sh (),.un,t1]/\HA t1=true/\vA=HB j (.bl true))
  (λj d hd vA U hU=>by
   obtain⟨t1,rfl,nH,rfl⟩:=hU;obtain⟨y,hj,rfl⟩:∃y,ys[j]?=some y/\D.int y=d:=by simpa using hd
   have hyy:=hy y (VE hj);have hw:=Uo (W:=W) (n:=n) (i:=y) (a:=0) (b:=no-1) hyy.1 (by lia);refine⟨_,true,_,by simp only[rC,EB nH]<;>rfl,AI,λ_=>?_,λz=>nomatch z⟩;refine⟨.b true,[.sh (),.un,.i y], ?_,_,rfl,rfl,by rw[List.replicate_succ'];rfl⟩;unfold P0
   walk_at "!wV RO nA")
  [] [.sh (),.un,.un] ⟨_,rfl,rfl,rfl⟩
 have ID:iB ys.length=true:=MB (by lia);have IM:decide ((ys.length:Int)=if(m:Int)<t then(m:Int) else t)=true:=kB hl
 walk_at "!wV RO nA"
 rw[cF hi]
 walk_at "!wV RO nA"
 all_goals (rw[yM rfl];walk_at "!wV RO nA")
theorem dX:∀{l:List (L2.JB×D)} {ks:List L2.JB} {vs:List D},ks.Nodup->((ks++l.map (·.1)).Nodup/\aAv l (ks,vs)=(ks++l.map (·.1),vs++l.map (·.2)))\/(¬(ks++l.map (·.1)).Nodup/\(aAv l (ks,vs)).1.length<ks.length+l.length)
 |[],ks,vs,h=>.inl ⟨by rw[RI,ZD];exact h,by rw[RI,RI,ZD,ZD];rfl⟩
 |p::l,ks,vs,h=>by
  have e:aAv (p::l) (ks,vs)=aAv l (IG ks p.1,tF ks vs p.1 p.2):=rfl;rw[e,AB,AB];unfold IG tF
  cases c:EI ks p.1 with
  |true =>
   obtain⟨x,hx,hz⟩:=sr.mp c;have hx:p.1∈ks:=eU hz ▸ hx;refine .inr ⟨λz=>(aJ.mp z).2.2 _ hx _ YD rfl, ?_⟩;rw[KA rfl,KA rfl,YB];rcases dX (vs:=(ks.zip vs).map λq=>if q.1=p.1 then p.2 else q.2) h with ⟨_,q⟩ | ⟨_,q⟩
   ·rw[q];simp
   ·lia
  |false =>
   have hx:p.1 ∉ ks:=λz=>by
    have:EI ks p.1=true:=sr.mpr ⟨_,z,kB rfl⟩
    rw[c] at this;cases this
   rw[if_neg fD,if_neg fD];rcases dX (ks:=ks++[p.1]) (vs:=vs++[p.2]) (aJ.mpr ⟨h,by simp,λa ha b hb z=>hx (by rw[kD] at hb;subst hb z;exact ha)⟩) with ⟨q0,q⟩ | ⟨q0,q⟩
   ·rw[GH] at q0 q;rw[GH] at q;exact .inl ⟨q0,q⟩
   ·rw[GH] at q0;refine .inr ⟨q0, ?_⟩;rw[kC,iF] at q;rw[YB]
    lia
section
variable{no ba:Int}{kn m:Nat}{ps:List RP}{hA:D}{W n:Nat}{s:L2.LA}{l:List (L2.LA×Int)}
abbrev Pp:=List (L2.LA×Int)
def pD(l:Pp):List D:=l.map λp=>.t [eA p.1,.int p.2]
noncomputable def sA(l:Pp):List L2.LA:=l.map (·.1)
noncomputable def SA:Pp->L2.LA->Int
 |[],_=>0
 |p::l,k=>if p.1=k then p.2 else SA l k
theorem VW:∀{l:Pp},(sA l).Nodup->(sA l).map (λk=>D.int (SA l k))=l.map λp=>.int p.2
 |[],_=>rfl
 |p::l,h=>by
  have h:=GJ.mp (show(p.1::sA l).Nodup from h);show D.int (SA (p::l) p.1)::(sA l).map (λk=>D.int (SA (p::l) k))=_;have e:(sA l).map (λk=>D.int (SA (p::l) k))=(sA l).map λk=>D.int (SA l k):=SO λk hk=>congrArg D.int (if_neg λz:p.1=k=>h.1 (z ▸ hk))
  rw[e,AB,VW h.2];exact congrArg (· :: _) (congrArg D.int (KA rfl))
def Xh:SM (pD l)=some (l.map λp=>(.inl p.1,.int p.2)):=by
 induction l with
 |nil=>rfl
 |cons p l ih =>
  show(bT (.t [eA p.1,.int p.2])).bind (λq=>(SM (pD l)).map (q :: ·))=_;rw[ih];show((VD (eA p.1)).map _).bind _=_;rw[JG];rfl
def bO(m:Nat)(ba:Int)(kn:Nat)(ps:List RP)(l:Pp)(s:L2.LA):Bool:=decide (sA l).Nodup&&(decide (s∈sA l)&&(sA l).all λk=>qH m ba kn ps (sA l) (SA l) k&&decide (0<=SA l k))
def yDa(H:HD hA no ba m kn ps)(h:VK no ba m k):"D"|||n+4|||[.sh hA,.sh (eA k)]|||.b true:=by
 obtain⟨oc,fs,rs,rfl,H⟩:=H
 exists D3
 unfold eA;have uL:=FW (W:=W) (n:=n+2) (no:=no) (ba:=ba) (oc:=oc) (rs:=rs) H.ho.l1 H.ho.l2;rw[H.hm] at uL;have hw:=Uo (W:=W) (n:=n+1) h.t0 h.t1;have hta:=eYa (W:=W) (n:=n) (rs:=rs) (t:=k.1) (ys:=k.2) H.ho H.hm h.tl (H.z h).2 h.xs;have q2:decide (((2:Nat):Int)=2)=true:=rfl;clear H h
 walk_at "!nA"
def Ay{p:L2.LA×Int}(H:HD hA no ba m kn ps)(h:VK no ba m p.1):"F"|||n+5|||[.sh hA,.sh (.t [eA p.1,.int p.2])]|||.b true:=by
 exists C3
 have h1:=yDa (W:=W) (n:=n) H h;have h2:=Eg (W:=W) (n:=n+3) (i:=p.2);have e1:PD (some (.t [eA p.1,.int p.2])) (.int 0)=some (.sh (eA p.1)):=rfl;have e2:PD (some (.t [eA p.1,.int p.2])) (.int 1)=some (.i p.2):=rfl;have q2:decide (((2:Nat):Int)=2)=true:=rfl
 walk_at "!nA"
end
noncomputable section
section
noncomputable def sH(a h:Nat):Nat:=(a+h*14029467366897019727) % 18446744073709551616*18446744073709551617 / 8589934592 % 18446744073709551616*11400714785074694791 % 18446744073709551616
def rot{a:Nat}(h:a<18446744073709551616):a*2147483648 % 18446744073709551616+a / 8589934592=a*18446744073709551617 / 8589934592 % 18446744073709551616:=by
 have e:a*18446744073709551617 / 8589934592=a*2147483648+a / 8589934592:=by lia
 have q:a*2147483648 % 18446744073709551616=2147483648*(a % 8589934592):=by lia
 rw[e,q]
 lia
theorem sH_{a h:Nat}:((a+h*14029467366897019727) % 18446744073709551616*2147483648 % 18446744073709551616+(a+h*14029467366897019727) % 18446744073709551616 / 8589934592)*11400714785074694791 % 18446744073709551616=sH a h:=by
 rw[rot (Ib _ (by decide)),sH]
noncomputable def fx(a:Nat):Nat:=bif KJ a 18446744073709551615 then 1546275796 else a
abbrev p5:Nat:=2870177450012600261
def fi(n a:Nat):Nat:=fx ((a+(n ^^^ (p5 ^^^ 3527539))) % 18446744073709551616)
def tp(l:List Nat):Nat:=fi l.length (l.foldl sH p5)
noncomputable def sg(a:Nat):Int:=if a<2 ^ 63 then(a:Int) else(a:Int)-18446744073709551616
def NQ{l:List Nat}:tp l<18446744073709551615:=by
 unfold tp fi fx
 have:=Ib (l.foldl sH p5+(l.length ^^^ (p5 ^^^ 3527539))) (show 0<18446744073709551616 by decide)
 cases e:KJ ((l.foldl sH p5+(l.length ^^^ (p5 ^^^ 3527539))) % 18446744073709551616) 18446744073709551615 with
 |true=>exact(by decide:1546275796<18446744073709551615)
 |false =>
  have e:=Nat.ne_of_beq_eq_false e;show(l.foldl sH p5+(l.length ^^^ (p5 ^^^ 3527539))) % 18446744073709551616<_
  lia
def jo{l:List Int}:jP l=sg (tp (l.map λh=>(h % 18446744073709551616).toNat)):=by
 unfold jP tp fi;rw[List.foldl_map,nA];simp only[show(2 ^ 64:Nat)=18446744073709551616 from rfl,show(2 ^ 31:Nat)=2147483648 from rfl,show(2 ^ 33:Nat)=8589934592 from rfl,show((18446744073709551616:Nat):Int)=18446744073709551616 from rfl];simp only[sH_];generalize (LY (λa (h:Int)=>sH a (h % 18446744073709551616).toNat) 2870177450012600261 l+(l.length ^^^ (2870177450012600261 ^^^ 3527539))) % 18446744073709551616=a;unfold fx;by_cases h:a=18446744073709551615
 ·subst h;rfl
 ·rw[if_neg (by simpa using h)]
  cases e:KJ a 18446744073709551615 with
  |true=>exact absurd (Nat.eq_of_beq_eq_true e) h
  |false=>rfl
def bVa{a b:Nat}(ha:a<18446744073709551616)(hb:b<18446744073709551616)(h:sg a=sg b):a=b:=by
 unfold sg at h;split at h<;>split at h<;>lia
def r8{a:Nat}(h:a<18446744073709551615):(sg a % 18446744073709551616).toNat=a/\kY (sg a)=sg a:=by
 have b:-(2 ^ 63)<=sg a/\sg a<2 ^ 63/\sg a≠-1:=by
  unfold sg
  split<;>lia
 constructor
 ·unfold sg
  split<;>lia
 ·unfold kY;rw[KA (by rw[nB,decide_eq_true_eq,decide_eq_true_eq];exact⟨b.1,b.2.1⟩),if_neg (by simpa using b.2.2)]
def gK(t:Nat)(l:List Nat):Nat:=tp [t,tp l]
def qf{i:Nat}(h:i<9):qU (i:Int)=(i:Int):=by
 rcases(by lia:i=0\/i=1\/i=2\/i=3\/i=4\/i=5\/i=6\/i=7\/i=8) with rfl | rfl | rfl | rfl | rfl | rfl | rfl | rfl | rfl<;>rfl
def P'{k:L2.LA}:L2.hS (.inl k)=kY (jP [qU k.1,kY (jP (k.2.map qU))]):=by
 show L2.N4 k=_;rw[L2.N4]
def mf{t:Nat}{l:List Nat}(ht:t<9)(hl:∀x∈l,x<9):L2.hS (.inl ((t:Int),l.map λ(n:Nat)=>(n:Int)))=sg (gK t l):=by
 rw[P',jo,jo,(r8 NQ).2,(r8 NQ).2,qf ht]
 have e1:((l.map λ(n:Nat)=>(n:Int)).map qU).map (λh=>(h % 18446744073709551616).toNat)=l:=by
  rw[fE,fE]
  conv=>rhs;rw[<- List.map_id l]
  refine SO λx hx=>?_
  show((qU (x:Int)) % 18446744073709551616).toNat=x
  have:=hl x hx
  rw[qf this]
  lia
 rw[e1];rw[AB,AB,RI,(r8 NQ).1,show((t:Int) % 18446744073709551616).toNat=t by lia];rfl
def NF(n:Nat):List Nat->List Nat->List Nat:=Nat.rec (λa b=>a++b)
 (λ_ ih a b=>OY b (λx a' _=>OY a (λy b' _=>zU (y::ih a b') (x::ih a' b) (Nat.ble x y)) b) a) n
theorem HW:∀(n:Nat) (a b:List Nat),(NF n a b).Perm (a++b)
 | 0,a,b=>.refl _
 |n+1,[],b=>.refl _
 |n+1,x::a,[]=>by rw[ZD];exact .refl _
 |n+1,x::a,y::b=>by
  show(zU (y::NF n (x::a) b) (x::NF n a (y::b)) (Nat.ble x y):List Nat).Perm _
  cases Nat.ble x y with
  |true=>exact .cons _ (HW n a (y::b))
  |false=>exact(List.Perm.cons _ (HW n (x::a) b)).trans List.perm_middle.symm
noncomputable def inc(l:List Nat):Nat->Bool:=OY (λ_=>true) (λx _ ih p=>zU false (ih x) (Nat.blt p x)) l
theorem xg:∀{l:List Nat} {p:Nat},inc l p=true->(∀x∈l,p<x)/\l.Nodup
 |[],p,_=>⟨λ_ z=>(nomatch z),.nil⟩
 |x::l,p,h=>by
  replace h:(zU false (inc l x) (Nat.blt p x):Bool)=true:=h
  cases e:Nat.blt p x with
  |false=>rw[e] at h;cases h
  |true =>
   rw[e] at h;have e:p<x:=Nat.le_of_ble_eq_true e;obtain⟨h1,h2⟩:=xg h;refine⟨λy hy=>?_,GJ.mpr ⟨λz=>HJ _ (h1 x z),h2⟩⟩;rcases DC.mp hy with rfl | hy
   ·exact e
   ·exact fP e (h1 y hy)
def BJ:Nat->List (List Nat)
 | 0=>[[]]
 |d+1=>(XB 7).flatMap λn=>(BJ d).map (n :: ·)
def lf(t ln a:Nat):Nat:=fi 2 (sH (sH p5 t) (fi ln a))
def V6(w b v:Nat):List Nat:=zU [] [v] (KJ (v / w) b)
def gIa{w b v:Nat}:V6 w b v=[v].filter λv=>KJ (v / w) b:=by
 rw[jY,List.filter_nil];unfold V6;cases KJ (v / w) b<;>rfl
def FK(F w b t ln d:Nat):Nat->List Nat:=Nat.rec (λa=>V6 w b (lf t ln a))
 (λ_ r a=>NF F (NF F (NF F (r (sH a 0)) (r (sH a 1))) (NF F (r (sH a 2)) (r (sH a 3)))) (NF F (NF F (r (sH a 4)) (r (sH a 5))) (r (sH a 6)))) d
theorem qo{F w b t ln:Nat}:∀(d a:Nat),(FK F w b t ln d a).Perm (((BJ d).map λl=>lf t ln (l.foldl sH a)).filter λv=>KJ (v / w) b)
 | 0,a=>.of_eq gIa
 |d+1,a=>by
  have ih:=qo (F:=F) (w:=w) (b:=b) (t:=t) (ln:=ln) d;show(NF F (NF F (NF F (FK F w b t ln d (sH a 0)) (FK F w b t ln d (sH a 1))) (NF F (FK F w b t ln d (sH a 2)) (FK F w b t ln d (sH a 3)))) (NF F (NF F (FK F w b t ln d (sH a 4)) (FK F w b t ln d (sH a 5))) (FK F w b t ln d (sH a 6)))).Perm _;have m:∀{x y z w:List Nat},x.Perm z->y.Perm w->(NF F x y).Perm (z++w):=λh k=>(HW _ _ _).trans (h.append k)
  refine(m (m (m (ih _) (ih _)) (m (ih _) (ih _))) (m (m (ih _) (ih _)) (ih _))).trans (.of_eq ?_);show _=((List.flatMap (λn=>(BJ d).map (n :: ·)) [0,1,2,3,4,5,6]).map (λl=>lf t ln (l.foldl sH a))).filter _;simp only[ar,List.flatMap_nil,UB,fE,UO,GH,ZD,Function.comp_def,JK]
def val(F w b:Nat)(l:List (Nat×Nat)):List Nat:=OY [] (λp _ ih=>NF F (FK F w b p.1 p.2 p.2 p5) ih) l
def keys(l:List (Nat×Nat)):List (Nat×List Nat):=l.flatMap λp=>(BJ p.2).map λx=>(p.1,x)
theorem bo:∀{d:Nat} {x:List Nat},x∈BJ d->x.length=d
 | 0,x,h=>by rw[kD.mp h];rfl
 |d+1,x,h=>by(obtain⟨n,_,h⟩:=kU.mp h;obtain⟨y,hy,rfl⟩:=JC.mp h;rw[YB,bo hy])
def tp2{a b:Nat}:tp [a,b]=fi 2 (sH (sH p5 a) b):=by
 unfold tp;rw[JK,JK,List.foldl_nil,YB,YB,uG]
def fIa{t d:Nat}{x:List Nat}(h:x∈BJ d):lf t d (x.foldl sH p5)=gK t x:=by
 unfold gK;rw[<- bo h,tp2];unfold lf;rw[tp]
theorem Lo{F w b:Nat}:∀l:List (Nat×Nat),(val F w b l).Perm (((keys l).map λk=>gK k.1 k.2).filter λv=>KJ (v / w) b)
 |[]=>.nil
 |p::l=>by
  have h1:(val F w b (p::l)).Perm (FK F w b p.1 p.2 p.2 p5++val F w b l):=HW _ _ _;have h2:(BJ p.2).map (λx=>lf p.1 p.2 (x.foldl sH p5))=(BJ p.2).map λx=>gK p.1 x:=SO λx hx=>fIa hx
  have h3:=qo (F:=F) (w:=w) (b:=b) (t:=p.1) (ln:=p.2) p.2 p5;rw[h2] at h3
  have h4:(keys (p::l)).map (λk=>gK k.1 k.2)=(BJ p.2).map (λx=>gK p.1 x)++(keys l).map λk=>gK k.1 k.2:=by(unfold keys;rw[ar,UB,fE];rfl)
  rw[h4,UO];exact h1.trans (h3.append (Lo l))
theorem Vi{O N:Type}{f:O->N}:∀{l:List O},(l.map f).Nodup->∀{a b:O},a∈l->b∈l->f a=f b->a=b
 |x::l,h,a,b,ha,hb,e=>by
  rw[AB,GJ] at h;rcases DC.mp ha with ha | ha
  ·rcases DC.mp hb with hb | hb
   ·rw[ha,hb]
   ·exact absurd (JC.mpr ⟨b,hb,e.symm.trans (congrArg f ha)⟩) h.1
  ·rcases DC.mp hb with hb | hb
   ·exact absurd (JC.mpr ⟨a,ha,e.trans (congrArg f hb)⟩) h.1
   ·exact Vi h.2 ha hb e
def xCa{O:Type}{g:O->Nat}{ks:List O}{w b:Nat}(nd:((ks.map g).filter λv=>KJ (v / w) b).Nodup){x y:O}(hx:x∈ks)(hy:y∈ks)(h:g x=g y)(e:g x / w=b):x=y:=by
 rw[Ka] at nd;exact Vi nd (YO.mpr ⟨hx,by show KJ (g x / w) b=true;rw[e];exact Nat.beq_refl b⟩) (YO.mpr ⟨hy,by show KJ (g y / w) b=true;rw[<- h,e];exact Nat.beq_refl b⟩) h
noncomputable def l3:List (Nat×Nat):=[(0,0),(1,1),(2,2),(3,3),(4,3),(5,3),(6,3)]
noncomputable def l4:List (Nat×Nat):=[(0,0),(1,1),(2,2),(3,3),(4,4),(5,4),(6,4),(7,4)]
noncomputable def l5:List (Nat×Nat):=[(0,0),(1,1),(2,2),(3,3),(4,4),(5,5),(6,5),(7,5),(8,5)]
def v3:inc (val 80000 18446744073709551616 0 l3) 0=true:=by decide +kernel
def v4:inc (val 80000 18446744073709551616 0 l4) 0=true:=by decide +kernel
theorem w0:inc (val 80000 4611686018427387904 0 l5) 0=true:=by decide +kernel
theorem w1:inc (val 80000 4611686018427387904 1 l5) 0=true:=by decide +kernel
theorem w2:inc (val 80000 4611686018427387904 2 l5) 0=true:=by decide +kernel
theorem w3:inc (val 80000 4611686018427387904 3 l5) 0=true:=by decide +kernel
theorem Zn:∀{l:List Int},In 7 l->∃x∈BJ l.length,l=x.map λ(n:Nat)=>(n:Int)
 |[],_=>⟨[],kD.mpr rfl,rfl⟩
 |y::l,h=>by
  obtain⟨x,h1,h2⟩:=Zn (l:=l) λz hz=>h z (WC _ hz)
  have:=h y YD
  refine⟨y.toNat::x,kU.mpr ⟨y.toNat,NK.mpr (by lia),JC.mpr ⟨x,h1,rfl⟩⟩, ?_⟩;rw[AB,<- h2,YX this.1]
theorem fo:∀{d:Nat} {x:List Nat},x∈BJ d->∀n∈x,n<9
 | 0,x,h,n,hn=>by rw[kD.mp h] at hn;cases hn
 |d+1,x,h,n,hn=>by
  obtain⟨j,hj,h⟩:=kU.mp h;obtain⟨y,hy,rfl⟩:=JC.mp h;rcases DC.mp hn with rfl | hn
  ·have:=NK.mp hj;lia
  ·exact fo hy n hn
def Th{no ba:Int}{m:Nat}{k:L2.LA}(h3:3<=m)(h5:m<=5)(hb:ba<=4)(hn:no<=7)(h:VK no ba m k):∃t x,t<9/\(t,x)∈keys ((XB (m+4)).map λj=>(j,min j m))/\k=((t:Int),x.map λ(n:Nat)=>(n:Int))/\∀n∈x,n<9:=by
 obtain⟨x,h1,h2⟩:=Zn (l:=k.2) λz hz=>⟨(h.xs z hz).1,Int.lt_of_lt_of_le (h.xs z hz).2 hn⟩
 have t0:=h.t0;have t1:=h.t1;have tl:=h.tl
 have e:k.2.length=min k.1.toNat m:=by
  rw[Nat.min_def]
  split<;>split at tl<;>lia
 refine⟨k.1.toNat,x,by lia,kU.mpr ⟨(k.1.toNat,min k.1.toNat m),JC.mpr ⟨k.1.toNat,NK.mpr (by lia),rfl⟩,JC.mpr ⟨x,by rw[<- e];exact h1,rfl⟩⟩, ?_,fo h1⟩;rw[<- h2,YX t0]
def T'{no ba:Int}{m:Nat}{k l:L2.LA}(h3:3<=m)(h5:m<=5)(hb:ba<=4)(hn:no<=7)(hk:VK no ba m k)(hl:VK no ba m l)(h:L2.hS (.inl k)=L2.hS (.inl l)):k=l:=by
 obtain⟨t,x,t9,h1,rfl,hx⟩:=Th h3 h5 hb hn hk;obtain⟨u,y,u9,h2,rfl,hy⟩:=Th h3 h5 hb hn hl;rw[mf t9 hx,mf u9 hy] at h;have h:=bVa (eY NQ) (eY NQ) h
 have fin:∀w b l,((XB (m+4)).map λj=>(j,min j m))=l->inc (val 80000 w b l) 0=true->gK t x / w=b->(t,x)=(u,y):=λw b l hl hi e=>by(rw[hl] at h1 h2;have nd:=(List.Perm.nodup_iff (Lo (F:=80000) (w:=w) (b:=b) l)).mp (xg hi).2;exact xCa nd h1 h2 h e)
 have lt:gK t x<18446744073709551616:=eY NQ
 have e:(t,x)=(u,y):=by
  rcases(by lia:m=3\/m=4\/m=5) with rfl | rfl | rfl
  ·exact fin _ _ l3 (by decide) v3 (ur lt)
  ·exact fin _ _ l4 (by decide) v4 (ur lt)
  ·have A':gK t x / 4611686018427387904<4:=by
    generalize gK t x=g at lt
    lia
   generalize hb:gK t x / 4611686018427387904=b at A';refine fin 4611686018427387904 b l5 (by decide) ?_ hb;rcases(by lia:b=0\/b=1\/b=2\/b=3) with rfl | rfl | rfl | rfl
   ·exact w0
   ·exact w1
   ·exact w2
   ·exact w3
 cases e;rfl
end
end
section
variable{no ba:Int}{kn m:Nat}{ps:List RP}{hA:D}{W n:Nat}{s:L2.LA}{l:Pp}
def ye{Z:List O}:aD .all [.l (Z.map λz=>.bl (p z))]=some (.b (Z.all p)):=by
 have h:GF (Z.map λz=>.bl (p z))=some (Z.map p):=by
  induction Z with
  |nil=>rfl
  |cons z Z ih=>simp[GF,ih]
 show(GF _).map _=_;rw[h];simp[vU]
def Xx(h:(sA l).Nodup):aD .dict [.l (pD l)]=some (.sh (nD (sA l) (SA l))):=by
 rw[ze Xh];have e:(l.map λp=>((.inl p.1:L2.JB),D.int p.2)).map (·.1)=(sA l).map .inl:=by unfold sA;rw[fE,fE];rfl
 have e2:(l.map λp=>((.inl p.1:L2.JB),D.int p.2)).map (·.2)=l.map λp=>D.int p.2:=by rw[fE];rfl
 rcases dX (l:=l.map λp=>((.inl p.1:L2.JB),D.int p.2)) (ks:=[]) (vs:=[]) .nil with ⟨_,q⟩ | ⟨q,_⟩
 ·rw[q,aP,aP,e,e2,<- VW h];rfl
 ·rw[aP,e] at q;exact absurd (gr _ (λ_ _ h z=>h (BN z)) h) q
def Wx(h:¬(sA l).Nodup):∃K V,aD .dict [.l (pD l)]=some (.sh (.ZA K V))/\K.length<l.length:=by
 have e:(l.map λp=>((.inl p.1:L2.JB),D.int p.2)).map (·.1)=(sA l).map .inl:=by unfold sA;rw[fE,fE];rfl
 refine⟨_,_,ze Xh, ?_⟩;rcases dX (l:=l.map λp=>((.inl p.1:L2.JB),D.int p.2)) (ks:=[]) (vs:=[]) .nil with ⟨q,_⟩ | ⟨_,q⟩
 ·rw[aP,e] at q;exact absurd (List.Pairwise.of_map Sum.inl (λ_ _ h z=>h (congrArg Sum.inl z)) q) h
 ·rw[nA] at q;simpa using q
theorem cVa(H:HD hA no ba m kn ps)(hv:∀p∈l,VK no ba m p.1)(hl:l.length<=1000) :
  "H"|||n+9|||[.sh hA,.sh (eA s),.p (.l (pD l))]|||.b (bO m ba kn ps l s):=by
 obtain⟨Ua,ea,t,rfl,ht⟩:=fV (P:=T.aA) (C:=run T W (n+8)) (QA:=ev T.aA (run T W (n+8)) false W0) (bind:=bB true [2]) (ds:=pD l) (λ_=>.bl true) (λU=>∃t,U=[.sh hA,.un,t]/\HA t=true)
  (λd hd U hU=>by
   obtain⟨t,rfl,ht⟩:=hU;obtain⟨p,hp,rfl⟩:=JC.mp hd;have he:=Ay (W:=W) (n:=n+3) H (hv p hp);refine⟨_,.b true,[.sh hA,.un,.sh (.t [eA p.1,.int p.2])],by simp only[rC,EB ht]<;>rfl, ?_,rfl,_,rfl,rfl⟩;unfold W0
   walk_at "!nA") (U:=[.sh hA,.un,.un]) ⟨_,rfl,rfl⟩
 have kK:aD .all [.l ((pD l).map λ_=>.bl true)]=some (.b true):=by(rw[ye (p:=λ_=>true)];simp)
 have z0:iB ((pD l).map λ_=>D.bl true).length=true:=MB (by unfold pD;rw[nA,nA];lia);have lp:((pD l).length:Int)=(l.length:Int):=by unfold pD;rw[nA]
 exists T3
 unfold bO;by_cases nd:(sA l).Nodup
 ·have hd:=Xx nd;have hn:=gT (ks:=sA l) (f:=SA l) (k:=s);have hz:=zJa (ks:=sA l) (f:=SA l);have lk:(sA l).length=l.length:=nA _;rw[lk] at hz;rw[kB nd,IH];obtain⟨P,hP⟩:∃P:L2.LA->Bool,(λk=>qH m ba kn ps (sA l) (SA l) k&&decide (0<=SA l k))=P:=⟨_,rfl⟩
  have M':∀k,(qH m ba kn ps (sA l) (SA l) k&&decide (0<=SA l k))=P k:=λk=>congrFun hP k
  have e0:∀k∈sA l,@decide (∃j∈sA l,eA k=eA j/\P j=true) (cl _)=P k:=λk hk=>by
   cases c:P k with
   |true=>exact @kB _ (cl _) ⟨k,hk,rfl,c⟩
   |false =>
    refine @VA _ (cl _) λhz=>?_
    obtain⟨j,_,e,c'⟩:=hz;have e:=BN (eE ((JG).symm.trans ((congrArg VD e).trans (JG (k:=j)))));rw[e,c'] at c;cases c
  obtain⟨Ub,eb,t',rfl,ZH⟩:=fV (P:=T.aA) (C:=run T W (n+8)) (QA:=ev T.aA (run T W (n+8)) false X0) (bind:=bB true [3]) (ds:=(sA l).map eA) (λd=>.bl (@decide (∃j∈sA l,d=eA j/\P j=true) (cl _))) (λU=>∃t,U=[.sh hA,.sh (nD (sA l) (SA l)),.un,t]/\HA t=true)
   (λd hd U hU=>by
    obtain⟨t,rfl,ht⟩:=hU;obtain⟨k,hk,rfl⟩:=JC.mp hd;obtain⟨p,hp,rfl⟩:=JC.mp hk;have he:=qHa (W:=W) (n:=n) (f:=SA l) H (hv p hp) hk;rw[M'] at he;refine⟨_,.b (P p.1),[.sh hA,.sh (nD (sA l) (SA l)),.un,.sh (eA p.1)],by simp only[rC,EB ht]<;>rfl, ?_,congrArg D.bl (e0 _ hk).symm,_,rfl,rfl⟩;unfold X0
    walk_at "!nA") (U:=[.sh hA,.sh (nD (sA l) (SA l)),.un,.un]) ⟨_,rfl,rfl⟩
  have em:((sA l).map eA).map (λd=>D.bl (@decide (∃j∈sA l,d=eA j/\P j=true) (cl _)))=(sA l).map λk=>D.bl (P k):=by(rw[fE];exact SO λk hk=>congrArg D.bl (e0 k hk))
  rw[em] at eb;rw[hP];have o1a:=ye (Z:=sA l) (p:=P);have z1:iB ((sA l).map λk=>D.bl (P k)).length=true:=MB (by rw[nA,lk];lia);have rK:∀{U:Env},aAa .key [.val (.sh (nD (sA l) (SA l)))] U=some ((sA l).map eA,none):=λ{U}=>by unfold nD mD;rw[tW,fE];rfl
  have hle:decide ((l.length:Int)=(l.length:Int))=true:=kB rfl
  generalize ((sA l).map λk=>D.bl (P k))=F2 at *
  generalize nD (sA l) (SA l)=N at *
  generalize decide (s∈sA l)=c at *
  generalize (pD l).map (λ_=>D.bl true)=F1 at *
  generalize pD l=F0 at *
  generalize eA s=ds at *
  generalize (l.length:Int)=ln at *
  walk_at "!nA"
  rw[ZS (VS rfl)];simp only[aAe,aM,tN]
  walk_at "!nA"
  simp only[aAs,aAm,SG,VQ,aM,tN,FE]
  cases c with
  |false=>walk_at "!nA"
  |true =>
   walk_at "!nA"
   rw[cF rK]
   walk_at "!nA"
 ·obtain⟨K,V,hd,hK⟩:=Wx nd;rw[VA nd,eM];have hz:aD .len [.ZA K V]=some (.i K.length):=NR;have hle:decide ((K.length:Int)=(l.length:Int))=false:=VA (by lia)
  generalize (pD l).map (λ_=>D.bl true)=F1 at *
  walk_at "!nA"
  rw[ZS (VS rfl)];simp only[aAe,aM,tN]
  walk_at "!nA"
  simp only[aAs,aAm,SG,VQ,aM,tN,FE]
  walk_at "!nA"
end
section
variable{no ba:Int}{kn m:Nat}{ps:List RP}{hA:D}{W n:Nat}{s:L2.LA}{l:Pp}
def iK:Pp->Pp->Bool
 |_,[]=>true
 |pre,p::l=>!decide (p.1∈sA pre)&&(decide (0<=p.2)&&iK (pre++[p]) l)
theorem kj:∀{pre:Pp} {p:L2.LA×Int} {k:L2.LA},k∈sA pre->SA (pre++[p]) k=SA pre k
 |[],_,_,h=>nomatch h
 |q::pre,p,k,h=>by
  show(if q.1=k then q.2 else SA (pre++[p]) k)=if q.1=k then q.2 else SA pre k
  by_cases e:q.1=k
  ·rw[KA e,KA e]
  ·rw[if_neg e,if_neg e];exact kj ((DC.mp h).resolve_left λz=>e z.symm)
theorem ij:∀{pre:Pp} {p:L2.LA×Int},p.1 ∉ sA pre->SA (pre++[p]) p.1=p.2
 |[],_,_=>KA rfl
 |q::pre,p,h=>by
  have h:=λz=>h (DC.mpr z)
  show(if q.1=p.1 then q.2 else SA (pre++[p]) p.1)=_;rw[if_neg λz=>h (.inl z.symm)];exact ij λz=>h (.inr z)
def Si(h:p.1 ∉ sA pre):IG ((sA pre).map .inl) (.inl p.1)=(sA (pre++[p])).map .inl/\tF ((sA pre).map .inl) ((sA pre).map λk=>D.int (SA pre k)) (.inl p.1) (D.int p.2)=(sA (pre++[p])).map λk=>D.int (SA (pre++[p]) k):=by
 obtain⟨p1,p2⟩:=wk (f:=λk=>.int (SA (pre++[p]) k)) h;have e:sA (pre++[p])=sA pre++[p.1]:=by unfold sA;rw[UB];rfl
 have e2:(sA pre).map (λk=>D.int (SA (pre++[p]) k))=(sA pre).map λk=>D.int (SA pre k):=SO λk hk=>congrArg D.int (kj hk)
 rw[e,p1];rw[ij h,e2] at p2;exact⟨rfl,p2⟩
theorem my(hz:pre.length<=1000) :
  NA T.aA (run T W n) W LR [s0,s1,s2,.o (nD (sA pre) (SA pre)),.sh (eA p.1),.i p.2,s6,s7] =
   some (if(!decide (p.1∈sA pre)&&decide (0<=p.2))=true then(.nx,[s0,s1,s2,.o (nD (sA (pre++[p])) (SA (pre++[p]))),.sh (eA p.1),.i p.2,s6,s7]) else(.rt (.b false),[s0,s1,s2,.o (nD (sA pre) (SA pre)),.sh (eA p.1),.i p.2,s6,s7])):=by
 have hn:=Ri (ks:=sA pre) (f:=SA pre) (k:=p.1);unfold LR;by_cases c:p.1∈sA pre
 ·rw[kB c] at hn ⊢
  walk_at "!lG"
 ·rw[VA c] at hn ⊢;by_cases c2:0<=p.2
  ·rw[kB c2];have h2:decide (p.2<0)=false:=VA (by lia);obtain⟨p1,p2⟩:=Si c
   have jW:∀{U:Env},EO 3 U (some (.o (nD (sA pre) (SA pre)))) (some (.inl p.1)) (.i p.2)=some (.nx,U.set 3 (.o (nD (sA (pre++[p])) (SA (pre++[p]))))):=λ{U}=>by(refine(lG (MB (by unfold sA;rw[nA,nA];lia))).trans ?_;rw[p1];show some (Fl.nx,U.set 3 (.o (.ZA _ (tF _ _ _ (.int p.2)))))=_;rw[p2];rfl)
   have bg:=JG (k:=p.1);have wC:QS (some (.o (nD (sA pre) (SA pre))))=true:=rfl;have yf:LS (some (.o (nD (sA pre) (SA pre))))=false:=rfl;have how:lQ (some (.o (nD (sA pre) (SA pre))))=false:=rfl
   walk_at "!lG"
  ·rw[VA c2];have h2:decide (p.2<0)=true:=kB (by lia)
   walk_at "!lG"
theorem Ud:∀{l pre:Pp} {s4 s5:Sl},pre.length+l.length<=1000->HA s4=true->HA s5=true ->
  ∃t4 t5 N,cC (bB false [4,5]) (NA T.aA (run T W n) W LR) (pD l) [s0,s1,s2,.o (nD (sA pre) (SA pre)),s4,s5,s6,s7]=some (if iK pre l=true then .nx else .rt (.b false),[s0,s1,s2,.o N,t4,t5,s6,s7])/\(iK pre l=true->N=nD (sA (pre++l)) (SA (pre++l)))/\HA t4=true/\HA t5=true
 |[],pre,s4,s5,_,o4,o5=>⟨s4,s5,_,rfl,λ_=>by rw[ZD],o4,o5⟩
 |p::l,pre,s4,s5,h,o4,o5=>by
  rw[YB] at h
  have hb:bB false [4,5] (.t [eA p.1,.int p.2]) [s0,s1,s2,.o (nD (sA pre) (SA pre)),s4,s5,s6,s7]=some [s0,s1,s2,.o (nD (sA pre) (SA pre)),.sh (eA p.1),.i p.2,s6,s7]:=by(simp only[rC,EB o4,EB o5]<;>rfl)
  have hr:=my (W:=W) (n:=n) (pre:=pre) (p:=p) (s0:=s0) (s1:=s1) (s2:=s2) (s6:=s6) (s7:=s7) (by lia);show ∃t4 t5 N,cC _ _ (.t [eA p.1,.int p.2]::pD l) _=_/\_
  unfold iK
  cases c:(!decide (p.1∈sA pre)&&decide (0<=p.2)) with
  |true =>
   rw[c,KA rfl] at hr;obtain⟨c1,c2⟩:=Bool.and_eq_true_iff.mp c;rw[c1,c2,IH,IH];obtain⟨t4,t5,N,e,hN,q4,q5⟩:=Ud (l:=l) (pre:=pre++[p]) (s4:=.sh (eA p.1)) (s5:=.i p.2) (by rw[kC,iF];lia) rfl rfl;refine⟨t4,t5,N, ?_,λz=>?_,q4,q5⟩
   ·simp only[cC,hb,hr];exact e
   ·rw[hN z,GH];rfl
  |false =>
   rw[c,if_neg fD] at hr;have c3:(!decide (p.1∈sA pre)&&(decide (0<=p.2)&&iK (pre++[p]) l))=false:=by rw[<- Bool.and_assoc,c];rfl
   rw[c3];exact⟨_,_,_,by simp only[cC,hb,hr];rfl,(λz=>nomatch z),rfl,rfl⟩
theorem Me:∀{l pre:Pp},(sA pre).Nodup->iK pre l=(decide (sA (pre++l)).Nodup&&l.all λp=>decide (0<=p.2))
 |[],pre,h=>by rw[ZD,kB h];rfl
 |p::l,pre,h=>by
  unfold iK;rw[vC];have e:sA (pre++p::l)=sA pre++(p.1::sA l):=by unfold sA;rw[UB];rfl
  by_cases c:p.1∈sA pre
  ·rw[kB c,VA (p:=(sA (pre++p::l)).Nodup) λz=>by
    rw[e] at z
    exact(aJ.mp z).2.2 _ c _ YD rfl]
   rfl
  ·have h2:(sA (pre++[p])).Nodup:=by
    have:sA (pre++[p])=sA pre++[p.1]:=by unfold sA;rw[UB];rfl
    rw[this];exact aJ.mpr ⟨h,by simp,λa ha b hb z=>c (by rw[kD] at hb;subst hb z;exact ha)⟩
   rw[VA c,Me h2,GH];show(true&&(decide (0<=p.2)&&(decide (sA (pre++p::l)).Nodup&&l.all λp=>decide (0<=p.2))))=_;cases decide (0<=p.2)<;>cases decide (sA (pre++p::l)).Nodup<;>rfl
theorem PH:ev P C t .aK U=aAg t (some (.ok (.ow (.ZA [] [])),U)):=rfl
def nZa(hk:k∈ks)(o6:HA s6=true)(o7:HA s7=true) :
  ∃t6 t7,cC (bB false [6,7]) (NA T.aA (run T W n) W RU) (UC m ba kn ps k) [s0,s1,s2,.sh (nD ks f),.sh (eA k),s5,s6,s7]=some (if qH m ba kn ps ks f k=true then .nx else .rt (.b false),[s0,s1,s2,.sh (nD ks f),.sh (eA k),s5,t6,t7])/\HA t6=true/\HA t7=true:=by
 have hik:=vQ (f:=f) hk
 obtain⟨U1,e1,t6,t7,rfl,q6,q7⟩:=a7 (bind:=bB false [6,7]) (body:=NA T.aA (run T W n) W RU) (z7 (lB m ba ks f k)) (.b false)
  (λU=>∃t6 t7,U=[s0,s1,s2,.sh (nD ks f),.sh (eA k),s5,t6,t7]/\HA t6=true/\HA t7=true) (ds:=UC m ba kn ps k) (λd hd U hU=>by
   obtain⟨t6,t7,rfl,o6,o7⟩:=hU;obtain⟨q,hq,rfl⟩:=JC.mp hd;refine⟨_,by simp only[rC,EB o6,EB o7]<;>rfl,[s0,s1,s2,.sh (nD ks f),.sh (eA k),s5,.i q,.sh (eA (LB m ba k q))], ?_,_,_,rfl,rfl,rfl⟩;have hn:=gT (ks:=ks) (f:=f) (k:=LB m ba k q);show _=some (if lB m ba ks f k q=true then _ else _,_);unfold RU lB;by_cases c:LB m ba k q∈ks
   ·have h2:=vQ (f:=f) c;have hg:=Te (a:=f (LB m ba k q)) (b:=f k);rw[kB c] at hn ⊢
    generalize f (LB m ba k q)=a at *
    generalize f k=b at *
    cases z:decide (a<b)<;>rw[z] at hg<;>walk_at "!PH"
   ·rw[VA c] at hn ⊢
    walk_at "!PH") (U:=[s0,s1,s2,.sh (nD ks f),.sh (eA k),s5,s6,s7]) ⟨_,_,rfl,o6,o7⟩
 rw[ic] at e1;exact⟨t6,t7,e1,q6,q7⟩
theorem Vd(H:HD hA no ba m kn ps){s1 s2 s5:Sl}:∀{js:List L2.LA} {s4 s6 s7:Sl},(∀k∈js,k∈ks/\VK no ba m k)->HA s4=true->HA s6=true->HA s7=true ->
  ∃t4 t6 t7,cC (bB true [4]) (NA T.aA (run T W (n+5)) W SU) (js.map eA) [.sh hA,s1,s2,.sh (nD ks f),s4,s5,s6,s7]=some (if js.all (qH m ba kn ps ks f)=true then .nx else .rt (.b false),[.sh hA,s1,s2,.sh (nD ks f),t4,s5,t6,t7])/\HA t4=true/\HA t6=true/\HA t7=true
 |[],s4,s6,s7,_,o4,o6,o7=>⟨s4,s6,s7,rfl,o4,o6,o7⟩
 |k::js,s4,s6,s7,h,o4,o6,o7=>by
  have hk:=h k YD;have hw:=Ro (W:=W) (n:=n) H hk.2;rw[km] at hw;obtain⟨t6,t7,e,q6,q7⟩:=nZa (m:=m) (ps:=ps) (W:=W) (n:=n+5) (f:=f) (s0:=.sh hA) (s1:=s1) (s2:=s2) (s5:=s5) hk.1 o6 o7
  have hb:bB true [4] (eA k) [.sh hA,s1,s2,.sh (nD ks f),s4,s5,s6,s7]=some [.sh hA,s1,s2,.sh (nD ks f),.sh (eA k),s5,s6,s7]:=by(simp only[rC,EB o4]<;>rfl)
  have hr:NA T.aA (run T W (n+5)) W SU [.sh hA,s1,s2,.sh (nD ks f),.sh (eA k),s5,s6,s7]=some (if qH m ba kn ps ks f k=true then .nx else .rt (.b false),[.sh hA,s1,s2,.sh (nD ks f),.sh (eA k),s5,t6,t7]):=by
   have hi:∀{U:Env},aAa .of [.val (.ow (.l (UC m ba kn ps k)))] U=some (UC m ba kn ps k,none):=λ{U}=>rfl
   unfold SU
   generalize qH m ba kn ps ks f k=b at *
   clear H h hk o4 o6 o7 q6 q7 hb
   cases b with
   |true=>walk_at "!PH"
   |false=>walk_at "!PH"
  rw[AB,vC]
  cases c:qH m ba kn ps ks f k with
  |true =>
   rw[c,KA rfl] at hr;obtain⟨u4,u6,u7,e2,r4,r6,r7⟩:=Vd H (js:=js) (s4:=.sh (eA k)) (s6:=t6) (s7:=t7) (λj hj=>h j (WC _ hj)) rfl q6 q7;exact⟨u4,u6,u7,by simp only[cC,hb,hr,IH];exact e2,r4,r6,r7⟩
  |false =>
   rw[c,if_neg fD] at hr;exact⟨_,_,_,by simp only[cC,hb,hr];rfl,rfl,q6,q7⟩
def wKa(h:(sA l).Nodup):(sA l).all (λk=>decide (0<=SA l k))=l.all λp=>decide (0<=p.2):=by
 have e:=congrArg (List.map λd=>match d with | .int i=>decide (0<=i) | _=>false) (VW h);rw[fE,fE] at e;have e2:=congrArg (λx=>x.all id) e;simp only[vU] at e2;exact e2
def W_{q:Bool}:bO m ba kn ps l s=(iK [] l&&((sA l).all (qH m ba kn ps (sA l) (SA l))&&decide (s∈sA l))):=by
 rw[Me (pre:=[]) .nil,aP];unfold bO;by_cases nd:(sA l).Nodup
 ·rw[kB nd,<- wKa nd]
  have e:∀{O:Type} {Z:List O} {p q:O->Bool},(Z.all λz=>p z&&q z)=(Z.all p&&Z.all q):=λ{O Z p q}=>by
   induction Z with
   |nil=>rfl
   |cons z Z ih =>
    rw[vC,vC,vC,ih];cases p z<;>cases q z<;>simp
  rw[e];cases decide (s∈sA l)<;>cases (sA l).all (qH m ba kn ps (sA l) (SA l))<;>cases (sA l).all (λk=>decide (0<=SA l k))<;>rfl
 ·rw[VA nd];rfl
def jy(H:HD hA no ba m kn ps)(hv:∀p∈l,VK no ba m p.1)(hl:l.length<=1000) :
  "P"|||n+6|||[.sh hA,.sh (eA s),.sh (.l (pD l))]|||.b (bO m ba kn ps l s):=by
 rw[W_ (q:=true)];obtain⟨t4,t5,N,e1,hN,o4,o5⟩:=Ud (W:=W) (n:=n+5) (l:=l) (pre:=[]) (s0:=.sh hA) (s1:=.sh (eA s)) (s2:=.sh (.l (pD l))) (s6:=.un) (s7:=.un) (s4:=.un) (s5:=.un) (by simpa using hl) rfl rfl;have hi:∀{U:Env},aAa .of [.slot 2] (Sl.sh hA::.sh (eA s)::.sh (.l (pD l))::U)=some (pD l,none):=λ{U}=>rfl
 exists C2
 replace e1:cC (bB false [4,5]) (NA T.aA (run T W (n+5)) W LR) (pD l) [.sh hA,.sh (eA s),.sh (.l (pD l)),.o (.ZA [] []),.un,.un,.un,.un]=some (if iK [] l=true then .nx else .rt (.b false),[.sh hA,.sh (eA s),.sh (.l (pD l)),.o N,t4,t5,.un,.un]):=e1
 cases c:iK [] l with
 |false =>
  rw[c,if_neg fD] at e1
  generalize pD l=F at *
  generalize eA s=ds at *
  clear H hv hl hN o4 o5 c
  walk_at "!PH"
 |true =>
  rw[c,KA rfl] at e1;have hN:=hN c;rw[aP] at hN;subst hN;obtain⟨u4,u6,u7,e2,_⟩:=Vd (W:=W) (n:=n) (js:=sA l) (f:=SA l) (s1:=.sh (eA s)) (s2:=.sh (.l (pD l))) (s5:=t5) (s4:=t4) (s6:=.un) (s7:=.un) H (λk hk=>⟨hk,let ⟨p,hp,e⟩:=JC.mp hk;e ▸ hv p hp⟩) o4 rfl rfl;have hn:=Ri (ks:=sA l) (f:=SA l) (k:=s);have rK:∀{U:Env},aAa .key [.val (.sh (nD (sA l) (SA l)))] U=some ((sA l).map eA,none):=λ{U}=>by unfold nD mD;rw[tW,fE];rfl
  generalize (sA l).all (qH m ba kn ps (sA l) (SA l))=b at *
  generalize (sA l).map eA=F3 at *
  generalize nD (sA l) (SA l)=N at *
  generalize decide (s∈sA l)=c2 at *
  generalize pD l=F at *
  generalize eA s=ds at *
  clear H hv hl o4 o5 c
  cases b with
  |false=>walk_at "!PH"
  |true=>walk_at "!PH"
end
section
variable{no ba:Int}{kn m:Nat}{ps:List RP}{hA:D}{W n:Nat}{s:L2.LA}{l:Pp}
def rMa:sC 20 (.l (pD l))=true:=EE.mpr λd hd=>by
 obtain⟨p,_,rfl⟩:=JC.mp hd;show((true&&((p.1.2.map D.int).all (sC 16)&&true))&&(true&&true))=true;rw[WW];rfl
def rZ(H:HD hA no ba m kn ps)(hv:∀p∈l,VK no ba m p.1)(hl:l.length<=1000) :
  "n"|||n+10|||[.sh hA,.sh (eA s),.sh (.l (pD l))]|||.b true:=by
 have h1:=cVa (W:=W) (n:=n) (s:=s) H hv hl;have h2:=jy (W:=W) (n:=n+3) (s:=s) H hv hl;have h3:=Fw (rMa (l:=l));have h4:PB .Eq (.bl (bO m ba kn ps l s)) (.bl (bO m ba kn ps l s))=some true:=by rw[Gw,wN]
 exists X1
 walk_at "!"
end
def nVa{L:List D}{c:Nat}:zJ (some (.l L)) none (some (.int c))=some (.ow (.l (L.take c))):=by
 show some (RV.ow (.l (aAp L none (some (c:Int)))))=_;unfold aAp;rw[HT.CQ,HT.FT,wY,Ya];by_cases h:c<=L.length
 ·rw[jR h]
 ·rw[Ba (by lia),NJ (jB _),NJ (by lia)]
def mVa{L:List D}{c:Nat}:zJ (some (.l L)) (some (.int c)) none=some (.ow (.l (L.drop c))):=by
 show some (RV.ow (.l (aAp L (some (c:Int)) none)))=_;unfold aAp;rw[HT.CQ,HT.FT];by_cases h:c<=L.length
 ·rw[jR h,NJ (by rw[lF];lia)]
 ·rw[Ba (by lia),oR,vY,List.drop_of_length_le (by lia)]
section
variable{no ba:Int}{kn m:Nat}{ps:List RP}{hA:D}{W n:Nat}{s:L2.LA}{l:Pp}
theorem iy{s2 s3 s4 s5 s6 s7:Sl}(H:HD hA no ba m kn ps):∃(s':Int) (x:L2.LA),VK no ba m x/\ev T.aA (run T W (n+2)) false (.call "h" [(.v 1),(.comp VR [3] .jC [(.call "a" [(.v 0),(.c (.int 8))])] [] [1,0] 2)]) [.p (.l [.int k,.int s0]),.sh hA,s2,s3,s4,s5,s6,s7]=some (.ok (.sh (eA x)),[.p (.l [.int k,.int s']),.sh hA,s2,s3,s4,s5,s6,s7]):=by
 obtain⟨v,s1,hv,d0⟩:=gL (W:=W) (n:=n+1) (k:=k) (s:=s0) (m:=8) (by lia);have hi:aAa .jC [.val (.i v)] [.p (.l [.int k,.int s1]),.sh hA,s2,s3,s4,s5,s6,s7]=some (rg v.toNat,none):=tJ rfl (by lia) (by lia);have i0:=H.i0;obtain⟨oc,fs,rs,rfl,K⟩:=id H;have n1:=K.ho.n1;have n2:=K.ho.n2
 obtain⟨vA,Ui,e,⟨s6',xs,t3,rfl,jK,rfl,hl,hx⟩,hz⟩:=dH (tests:=gC T.aA (run T W (n+2)) []) (QA:=ev T.aA (run T W (n+2)) false VR) (bind:=bB true [3]) (ds:=rg v.toNat)
  (λj vA U=>∃(s6:Int) (xs:List Int) (t3:Sl),U=[.sh (),.p (.l [.int k,.int s6]),.un,t3]/\HA t3=true/\vA=xs.map D.int/\xs.length=j/\In no xs)
  (λj d hd vA U hU=>by
   obtain⟨s6,xs,t3,rfl,jK,rfl,hl,hx⟩:=hU;obtain⟨v',s7,jQ,d1⟩:=gL (W:=W) (n:=n+1) (k:=k) (s:=s6) (m:=no) (by lia);refine⟨_,true,_,by simp only[WU,nX,SG,VQ,EB jK,aM,tN]<;>rfl,AI,λ_=>?_,λz=>nomatch z⟩;refine⟨.i v',[.sh (),.p (.l [.int k,.int s7]),.un,.sh d], ?_,_,xs++[v'],_,rfl,rfl,by simp[RV.d],by simp[hl],hx.app (In.one jQ)⟩;unfold VR;clear hx hd hl hv hi d0 H K n1 n2 jQ
   walk_at "!")
  [] [.sh (),.p (.l [.int k,.int s1]),.un,.un] ⟨_,[],_,rfl,rfl,rfl,rfl,λx h=>nomatch h⟩
 have hl:xs.length=v.toNat:=by rw[hl];simp
 refine⟨s6',GQ m ba xs,H.next hx, ?_⟩;have MM:=Yh (W:=W) (n:=n) (rs:=rs) (xs:=xs) K.ho K.hm;rw[pWa] at MM;have ID:iB (xs.map D.int).length=true:=MB (by simp;lia);clear hx hz hl hv H K n1 n2 i0
 walk_at "!"
 rw[cF hi]
 walk_at "!"
theorem DP(h:a.length+b.length<=3000):bC .Add (.l (pD a)) (.l (pD b))=some (.ow (.l (pD (a++b)))):=by
 rw[tM (MB (by unfold pD;rw[nA,nA];lia))];unfold pD;rw[UB]
def y8{c:Nat}:zJ (some (.l (pD l))) none (some (.int c))=some (.ow (.l (pD (l.take c)))):=by
 rw[nVa];unfold pD;rw[EY]
def x8{c:Nat}:zJ (some (.l (pD l))) (some (.int c)) none=some (.ow (.l (pD (l.drop c)))):=by
 rw[mVa];unfold pD;rw[DY]
theorem kZa:∃l',(∀p∈l',p∈l)/\l'.length<=l.length/\∃U',jE (gC T.aA (run T W n) [(.uA .NotEq (.ix (.v 2) (.c (.int 0))) (.v 0))]) (ev T.aA (run T W n) false WR) (bB true [2]) (pD l) [] [.sh (eA s),.un,.un]=some (.ok (pD l'),U')/\∃t,U'=[.sh (eA s),.un,t]/\HA t=true:=by
 obtain⟨vA,Ui,e,⟨l',t,rfl,ht,rfl,hl,hx⟩,hz⟩:=dH (tests:=gC T.aA (run T W n) [(.uA .NotEq (.ix (.v 2) (.c (.int 0))) (.v 0))]) (QA:=ev T.aA (run T W n) false WR) (bind:=bB true [2]) (ds:=pD l)
  (λj vA U=>∃(l':Pp) (t:Sl),U=[.sh (eA s),.un,t]/\HA t=true/\vA=pD l'/\l'.length<=j/\∀p∈l',p∈l)
  (λj d hd vA U hU=>by
   obtain⟨l',t,rfl,ht,rfl,hl,hx⟩:=hU;obtain⟨p,hp,rfl⟩:=JC.mp (VE hd)
   have ok:∀k:L2.LA,sC 20 (eA k)=true:=λk=>by(show(true&&((k.2.map D.int).all (sC 18)&&true))=true;rw[WW];rfl)
   have c1:=Wc (ok p.1) (ok s);refine⟨_,!JF (eA p.1) (eA s),[.sh (eA s),.un,.sh (.t [eA p.1,.int p.2])],by simp only[rC,EB ht]<;>rfl, ?_,λ_=>?_,λ_=>⟨l',_,rfl,rfl,rfl,by lia,hx⟩⟩
   ·have e1:PD (some (.t [eA p.1,.int p.2])) (.int 0)=some (.sh (eA p.1)):=rfl
    walk_at "!"
   ·refine⟨.sh (.t [eA p.1,.int p.2]),[.sh (eA s),.un,.sh (.t [eA p.1,.int p.2])], ?_,l'++[p],_,rfl,rfl,by unfold pD;rw[UB];rfl,by rw[kC,iF];lia,λr hr=>(dE.mp hr).elim (hx r) λz=>kD.mp z ▸ hp⟩;unfold WR
    walk_at "!")
  [] [.sh (eA s),.un,.un] ⟨[],_,rfl,rfl,rfl,jB _,λx h=>nomatch h⟩
 exact⟨l',hx,by unfold pD at hl;rwa[nA] at hl,_,e,t,rfl,ht⟩
theorem lZa(hv:∀p∈l,VK no ba m p.1):∃l':Pp,(∀p∈l',VK no ba m p.1)/\l'.length<=l.length/\∃U',jE (gC T.aA (run T W n) []) (ev T.aA (run T W n) false HP) (bB false [1,2]) (pD l) [] [.un,.un,.un]=some (.ok (pD l'),U'):=by
 obtain⟨vA,Ui,e,⟨l',t,t2,rfl,ht,aI,rfl,hl,hx⟩,hz⟩:=dH (tests:=gC T.aA (run T W n) []) (QA:=ev T.aA (run T W n) false HP) (bind:=bB false [1,2]) (ds:=pD l)
  (λj vA U=>∃(l':Pp) (t t2:Sl),U=[.un,t,t2]/\HA t=true/\HA t2=true/\vA=pD l'/\l'.length<=j/\∀p∈l',VK no ba m p.1)
  (λj d hd vA U hU=>by
   obtain⟨l',t,t2,rfl,ht,aI,rfl,hl,hx⟩:=hU;obtain⟨p,hp,rfl⟩:=JC.mp (VE hd);refine⟨[.un,.sh (eA p.1),.i p.2],true,_,by simp only[rC,EB ht,EB aI]<;>rfl,AI,λ_=>?_,λz=>nomatch z⟩;refine⟨.sh (.t [eA p.1,.int (2*p.2+1)]),[.un,.sh (eA p.1),.i p.2], ?_,l'++[(p.1,2*p.2+1)],_,_,rfl,rfl,rfl,by unfold pD;rw[UB];rfl,by rw[kC,iF];lia,λr hr=>(dE.mp hr).elim (hx r) λz=>by rw[kD.mp z];exact hv p hp⟩;unfold HP
   walk_at "!")
  [] [.un,.un,.un] ⟨[],_,_,rfl,rfl,rfl,rfl,jB _,λx h=>nomatch h⟩
 exact⟨l',hx,by unfold pD at hl;rwa[nA] at hl,_,e⟩
def vP{a b:Pp}(h:∀p∈a,VK no ba m p.1)(k:∀p∈b,VK no ba m p.1):∀p∈a++b,VK no ba m p.1:=λp hp=>(dE.mp hp).elim (h p) (k p)
theorem gH:ex P C W (.ret (.rev a)) U=(ev P C false (.rev a) U).GC pH:=rfl
def zH:List S:=[(.BA (.uA .Eq (.v 4) (.c (.int 0))) [(.ret (.qA .Add (.sl (.v 2) .UD (.v 5)) (.sl (.v 2) (.qA .Add (.v 5) (.c (.int 1))) .UD)))] []),(.BA (.uA .Eq (.v 4) (.c (.int 1))) [(.ret (.qA .Add (.qA .Add (.sl (.v 2) .UD (.v 5)) (.l [(.t [(.v 7),(.qA .Add (.v 6) (.c (.int 3)))])])) (.sl (.v 2) (.v 5) .UD)))] []),(.BA (.and (.uA .Eq (.v 4) (.c (.int 2))) (.uA .Lt (.v 5) (.bif .len [(.v 2)]))) [(.ret (.qA .Add (.v 2) (.l [(.ix (.v 2) (.v 5))])))] []),(.BA (.and (.uA .Eq (.v 4) (.c (.int 3))) (.uA .Lt (.v 5) (.bif .len [(.v 2)]))) [(.ret (.qA .Add (.qA .Add (.sl (.v 2) .UD (.v 5)) (.l [(.t [(.ix (.ix (.v 2) (.v 5)) (.c (.int 0))),(.qA .Add (.ix (.ix (.v 2) (.v 5)) (.c (.int 1))) (.v 6))])])) (.sl (.v 2) (.qA .Add (.v 5) (.c (.int 1))) .UD)))] []),(.BA (.uA .Eq (.v 4) (.c (.int 4))) [(.ret (.comp WR [2] .of [(.v 2)] [(.uA .NotEq (.ix (.v 2) (.c (.int 0))) (.v 0))] [3] 2))] []),(.BA (.uA .Eq (.v 4) (.c (.int 5))) [(.ret (.rev (.v 2)))] []),(.BA (.uA .Eq (.v 4) (.c (.int 6))) [(.ret (.comp HP [1,2] .of [(.v 2)] [] [] 3))] []),(.BA (.uA .Eq (.v 4) (.c (.int 7))) [(.ret (.l []))] []),(.ret (.v 2))]
theorem iWa:BV=⟨[true,true,false,true],4,(.WA 4 (.call "a" [(.v 0),(.c (.int 9))]))::(.WA 5 (.call "a" [(.v 0),(.qA .Add (.bif .len [(.v 2)]) (.c (.int 1)))]))::(.WA 6 (.qA .Sub (.call "a" [(.v 0),(.c (.int 5))]) (.c (.int 2))))::(.WA 7 (.call "h" [(.v 1),(.comp VR [3] .jC [(.call "a" [(.v 0),(.c (.int 8))])] [] [1,0] 2)]))::zH,false⟩:=rfl
def Way(P:oB)(C:Calls)(W:Nat)(no ba:Int)(m:Nat)(U:Env):Prop:=∃(l':Pp) (v:RV),(v=.ow (.l (pD l'))\/v=.sh (.l (pD l')))/\(∀p∈l',VK no ba m p.1)/\l'.length<=1000/\NA P C W zH U=some (.rt v,U)
def Way.mk(l':Pp)(v:RV)(h1:v=.ow (.l (pD l'))\/v=.sh (.l (pD l')))(h2:∀p∈l',VK no ba m p.1)(h3:l'.length<=1000)(h4:NA P C W zH U=some (.rt v,U)):Way P C W no ba m U:=⟨l',v,h1,h2,h3,h4⟩
def one{p:L2.LA×Int}(h:VK no ba m p.1):∀q∈[p],VK no ba m q.1:=λq hq=>by rw[kD.mp hq];exact h
section
variable{c:Nat}{y:Int}{x:L2.LA}{pe:Sl}{dk ds:D}
def j9:((pD l).length:Int)=(l.length:Int):=by unfold pD;rw[nA]
theorem wy0(hv:∀p∈l,VK no ba m p.1)(hl:l.length<=900):Way T.aA (run T W n) W no ba m [pe,.sh hA,.sh (.l (pD l)),.sh ds,.i 0,.i c,.i (y-2),.sh dk]:=by
 have lt:(l.take c).length<=l.length:=by rw[HH];lia
 have ld:(l.drop c).length<=l.length:=by rw[lF];lia
 have Gi:(l.take c).length+(l.drop c).length=l.length:=by rw[<- kC,NX]
 have di:(l.drop (c+1)).length<=(l.drop c).length:=by rw[lF,lF];lia
 have t1:=y8 (l:=l) (c:=c);have t3:=x8 (l:=l) (c:=c+1);rw[show((c+1:Nat):Int)=(c:Int)+1 from rfl] at t3;have k1:=DP (a:=l.take c) (b:=l.drop (c+1)) (by lia);refine .mk (l.take c++l.drop (c+1)) _ (.inl rfl) (vP (λp hp=>hv p (WQ hp)) (λp hp=>hv p (YT hp))) (by rw[kC];lia) ?_;unfold zH
 walk_at "!gH"
theorem wy1(hv:∀p∈l,VK no ba m p.1)(hl:l.length<=900)(hx:VK no ba m x):Way T.aA (run T W n) W no ba m [pe,.sh hA,.sh (.l (pD l)),.sh ds,.i 1,.i c,.i (y-2),.sh (eA x)]:=by
 have lt:(l.take c).length<=l.length:=by rw[HH];lia
 have ld:(l.drop c).length<=l.length:=by rw[lF];lia
 have Gi:(l.take c).length+(l.drop c).length=l.length:=by rw[<- kC,NX]
 have di:(l.drop (c+1)).length<=(l.drop c).length:=by rw[lF,lF];lia
 have t1:=y8 (l:=l) (c:=c);have t2:=x8 (l:=l) (c:=c);have k1:=DP (a:=l.take c) (b:=[(x,y-2+3)]) (by rw[iF];lia);have k2:=DP (a:=l.take c++[(x,y-2+3)]) (b:=l.drop c) (by rw[kC,iF];lia);have k1:bC .Add (.l (pD (l.take c))) (.l [.t [eA x,.int (y-2+3)]])=_:=k1;refine .mk (l.take c++[(x,y-2+3)]++l.drop c) _ (.inl rfl) (vP (vP (λp hp=>hv p (WQ hp)) (one hx)) (λp hp=>hv p (YT hp))) (by rw[kC,kC,iF];lia) ?_;unfold zH
 walk_at "!gH"
theorem wy2(hv:∀p∈l,VK no ba m p.1)(hl:l.length<=900):Way T.aA (run T W n) W no ba m [pe,.sh hA,.sh (.l (pD l)),.sh ds,.i 2,.i c,.i (y-2),.sh dk]:=by
 have lp:=j9 (l:=l);by_cases hc:c<l.length
 ·have q1:decide ((c:Int)<(l.length:Int))=true:=kB (by lia);have hg:L2.qC (pD l) (c:Int)=some (.t [eA l[c].1,.int l[c].2]):=L2.XJ (by unfold pD;rw[iD,FC hc];rfl);have hg:=A6 hg;have hp:=hv _ (XO hc)
  generalize l[c]=p at *
  have k1:=DP (a:=l) (b:=[p]) (by rw[iF];lia);have k1:bC .Add (.l (pD l)) (.l [.t [eA p.1,.int p.2]])=_:=k1;refine .mk (l++[p]) _ (.inl rfl) (vP hv (one hp)) (by rw[kC,iF];lia) ?_;unfold zH
  walk_at "!gH"
 ·have q1:decide ((c:Int)<(l.length:Int))=false:=VA (by lia);refine .mk l _ (.inr rfl) hv (by lia) ?_;unfold zH
  walk_at "!gH"
theorem wy3(hv:∀p∈l,VK no ba m p.1)(hl:l.length<=900):Way T.aA (run T W n) W no ba m [pe,.sh hA,.sh (.l (pD l)),.sh ds,.i 3,.i c,.i (y-2),.sh dk]:=by
 have lt:(l.take c).length<=l.length:=by rw[HH];lia
 have ld:(l.drop c).length<=l.length:=by rw[lF];lia
 have Gi:(l.take c).length+(l.drop c).length=l.length:=by rw[<- kC,NX]
 have di:(l.drop (c+1)).length<=(l.drop c).length:=by rw[lF,lF];lia
 have t1:=y8 (l:=l) (c:=c);have t3:=x8 (l:=l) (c:=c+1);rw[show((c+1:Nat):Int)=(c:Int)+1 from rfl] at t3;have lp:=j9 (l:=l);by_cases hc:c<l.length
 ·have q1:decide ((c:Int)<(l.length:Int))=true:=kB (by lia);have hg:L2.qC (pD l) (c:Int)=some (.t [eA l[c].1,.int l[c].2]):=L2.XJ (by unfold pD;rw[iD,FC hc];rfl);have hg:=A6 hg;have hp:=hv _ (XO hc)
  generalize l[c]=p at *
  have k1:=DP (a:=l.take c) (b:=[(p.1,p.2+(y-2))]) (by rw[iF];lia);have k2:=DP (a:=l.take c++[(p.1,p.2+(y-2))]) (b:=l.drop (c+1)) (by rw[kC,iF];lia);have k1:bC .Add (.l (pD (l.take c))) (.l [.t [eA p.1,.int (p.2+(y-2))]])=_:=k1;have e1:PD (some (.t [eA p.1,.int p.2])) (.int 0)=some (.sh (eA p.1)):=rfl;have e2:PD (some (.t [eA p.1,.int p.2])) (.int 1)=some (.i p.2):=rfl;refine .mk (l.take c++[(p.1,p.2+(y-2))]++l.drop (c+1)) _ (.inl rfl) (vP (vP (λp hp=>hv p (WQ hp)) (one hp)) (λp hp=>hv p (YT hp))) (by rw[kC,kC,iF];lia) ?_;unfold zH
  walk_at "!gH"
 ·have q1:decide ((c:Int)<(l.length:Int))=false:=VA (by lia);refine .mk l _ (.inr rfl) hv (by lia) ?_;unfold zH
  walk_at "!gH"
theorem wy4(hv:∀p∈l,VK no ba m p.1)(hl:l.length<=900):Way T.aA (run T W n) W no ba m [pe,.sh hA,.sh (.l (pD l)),.sh (eA s),.i 4,.i c,.i (y-2),.sh dk]:=by
 obtain⟨l',h4,h5,U',e,t,rfl,ht⟩:=kZa (W:=W) (n:=n) (l:=l) (s:=s);have ID:iB (pD l').length=true:=MB (by unfold pD;rw[nA];lia);refine .mk l' _ (.inl rfl) (λp hp=>hv p (h4 p hp)) (by lia) ?_
 generalize pD l'=R at *
 generalize eA s=ds at *
 clear hv hl h4 h5
 generalize pD l=F at *
 unfold zH
 walk_at "!gH"
 rw[cF (Fg rfl)]
 walk_at "!gH"
theorem wy5(hv:∀p∈l,VK no ba m p.1)(hl:l.length<=900):Way T.aA (run T W n) W no ba m [pe,.sh hA,.sh (.l (pD l)),.sh ds,.i 5,.i c,.i (y-2),.sh dk]:=by
 have k1:(pD l).reverse=pD l.reverse:=by unfold pD;rw[List.map_reverse]
 refine .mk l.reverse _ (.inl rfl) (λp hp=>hv p (List.mem_reverse.mp hp)) (by rw[WX];lia) ?_;unfold zH
 walk_at "!gH"
theorem wy6(hv:∀p∈l,VK no ba m p.1)(hl:l.length<=900):Way T.aA (run T W n) W no ba m [pe,.sh hA,.sh (.l (pD l)),.sh ds,.i 6,.i c,.i (y-2),.sh dk]:=by
 obtain⟨l',h4,h5,U',e⟩:=lZa hv;have ID:iB (pD l').length=true:=MB (by unfold pD;rw[nA];lia)
 have hF:dJ (gC T.aA (run T W n) []) (ev T.aA (run T W n) false HP) (bB false [1,2]) (pD l) 3 []=some (.ok (.ow (.l (pD l'))),[]):=by(rw[yM rfl];show(jE _ _ _ _ _ [.un,.un,.un]).bind _=_;rw[e];exact F6 ID)
 refine .mk l' _ (.inl rfl) (h4) (by lia) ?_;unfold zH
 walk_at "!gH"
 rw[cF (Fg rfl)]
 walk_at "!gH"
theorem wy7(hv:∀p∈l,VK no ba m p.1)(hl:l.length<=900):Way T.aA (run T W n) W no ba m [pe,.sh hA,.sh (.l (pD l)),.sh ds,.i 7,.i c,.i (y-2),.sh dk]:=by
 refine .mk [] _ (.inl rfl) (λp hp=>nomatch hp) (by rw[uG];lia) ?_;unfold zH
 walk_at "!gH"
 rfl
theorem wy8(hv:∀p∈l,VK no ba m p.1)(hl:l.length<=900):Way T.aA (run T W n) W no ba m [pe,.sh hA,.sh (.l (pD l)),.sh ds,.i 8,.i c,.i (y-2),.sh dk]:=by
 refine .mk l _ (.inr rfl) hv (by lia) ?_;unfold zH
 walk_at "!gH"
theorem mZa(hw:0<=w/\w<9)(hv:∀p∈l,VK no ba m p.1)(hl:l.length<=900)(hx:VK no ba m x):Way T.aA (run T W n) W no ba m [pe,.sh hA,.sh (.l (pD l)),.sh (eA s),.i w,.i c,.i (y-2),.sh (eA x)]:=by
 rcases(by lia:w=0\/w=1\/w=2\/w=3\/w=4\/w=5\/w=6\/w=7\/w=8) with rfl | rfl | rfl | rfl | rfl | rfl | rfl | rfl | rfl
 ·exact wy0 hv hl
 ·exact wy1 hv hl hx
 ·exact wy2 hv hl
 ·exact wy3 hv hl
 ·exact wy4 hv hl
 ·exact wy5 hv hl
 ·exact wy6 hv hl
 ·exact wy7 hv hl
 ·exact wy8 hv hl
end
theorem jWa(H:HD hA no ba m kn ps)(hv:∀p∈l,VK no ba m p.1)(hl:l.length<=900) :
  ∃(s':Int) (l':Pp) (v:RV),run T W (n+3) "Q" [.p (.l [.int k,.int s0]),.sh hA,.sh (.l (pD l)),.sh (eA s)]=some (.ok v,[.p (.l [.int k,.int s']),.sh hA,.sh (.l (pD l)),.sh (eA s)])/\(v=.ow (.l (pD l'))\/v=.sh (.l (pD l')))/\(∀p∈l',VK no ba m p.1)/\l'.length<=1000:=by
 have dn:=@gL W (n+1) k;obtain⟨w,s1,hw,d0⟩:=dn (s:=s0) (m:=9) (by lia);obtain⟨a,s2,ha,d1⟩:=dn (s:=s1) (m:=(l.length:Int)+1) (by lia);obtain⟨y,s3,_,d2⟩:=dn (s:=s2) (m:=5) (by lia);obtain⟨c,rfl⟩:∃c:Nat,a=(c:Int):=⟨a.toNat,by lia⟩
 obtain⟨s4,x,hx,d3⟩:=iy (W:=W) (n:=n) (k:=k) (s0:=s3) (s2:=.sh (.l (pD l))) (s3:=.sh (eA s)) (s4:=.i w) (s5:=.i c) (s6:=.i (y-2)) (s7:=.un) H;obtain⟨l',v,h1,h2,h3,h4⟩:=mZa (W:=W) (n:=n+2) (hA:=hA) (s:=s) (c:=c) (y:=y) (pe:=.p (.l [.int k,.int s4])) hw hv hl hx;refine⟨s4,l',v, ?_,h1,h2,h3⟩;have lp:=j9 (l:=l);rw[hX (fn:=BV) rfl rfl rfl,iWa];clear hv hl hw ha H hx dn h1 h2 h3
 walk_at "!gH"
end
section
variable{no ba:Int}{kn m:Nat}{ps:List RP}{W n:Nat}{s k:L2.LA}{ks:List L2.LA}{g:L2.LA->Int}
def xP(m:Nat)(ba:Int)(kn:Nat)(ps:List RP)(k:L2.LA):List L2.LA:=(XE kn ps k).map (LB m ba k)
noncomputable def Il:D->D
 |.t [_,d]=>d
 |d=>d
def cWa:(UC m ba kn ps k).map Il=(xP m ba kn ps k).map eA:=by
 unfold UC xP;rw[fE,fE];rfl
def Eu:∃U',jE (gC T.aA (run T W n) []) (ev T.aA (run T W n) false UR) (bB false [1,2]) (UC m ba kn ps k) [] [.un,.un,.un]=some (.ok ((xP m ba kn ps k).map eA),U'):=by
 obtain⟨U',e,_⟩:=fV (P:=T.aA) (C:=run T W n) (QA:=ev T.aA (run T W n) false UR) (bind:=bB false [1,2]) (ds:=UC m ba kn ps k) Il (λU=>∃t t2,U=[.un,t,t2]/\HA t=true/\HA t2=true)
  (λd hd U hU=>by
   obtain⟨t,t2,rfl,ht,aI⟩:=hU;obtain⟨q,_,rfl⟩:=JC.mp hd;refine⟨[.un,.i q,.sh (eA (LB m ba k q))],.sh (eA (LB m ba k q)),[.un,.i q,.sh (eA (LB m ba k q))],by simp only[rC,EB ht,EB aI]<;>rfl, ?_,rfl,_,_,rfl,rfl,rfl⟩;unfold UR
   walk_at "!") (U:=[.un,.un,.un]) ⟨_,_,rfl,rfl,rfl⟩
 rw[cWa] at e;exact⟨_,e⟩
def Gu{A:List L2.LA}:∃t,HA t=true/\jE (gC T.aA (run T W n) [(.uA .NotIn (.v 2) (.v 0))]) (ev T.aA (run T W n) false mV) (bB true [2]) (A.map eA) [] [.p (nD ks g),.un,.un]=some (.ok ((A.filter λa=>!decide (a∈ks)).map eA),[.p (nD ks g),.un,t]):=by
 obtain⟨vA,Ui,e,⟨t,rfl,ht,rfl⟩,hz⟩:=dH (tests:=gC T.aA (run T W n) [(.uA .NotIn (.v 2) (.v 0))]) (QA:=ev T.aA (run T W n) false mV) (bind:=bB true [2]) (ds:=A.map eA)
  (λj vA U=>∃t:Sl,U=[.p (nD ks g),.un,t]/\HA t=true/\vA=((A.take j).filter λa=>!decide (a∈ks)).map eA)
  (λj d hd vA U hU=>by
   obtain⟨t,rfl,ht,rfl⟩:=hU;rw[iD] at hd;obtain⟨a,ha,rfl⟩:=AF.mp hd;have hn:=gT (ks:=ks) (f:=g) (k:=a);have e1:A.take (j+1)=A.take j++[a]:=by rw[OK,ha];rfl
   rw[e1,UO,UB]
   have e2:[a].filter (λa=>!decide (a∈ks))=if(!decide (a∈ks))=true then [a] else []:=by(rw[jY];rfl)
   rw[e2]
   generalize (!decide (a∈ks))=b at *
   refine⟨_,b,[.p (nD ks g),.un,.sh (eA a)],by simp only[rC,EB ht]<;>rfl, ?_,λz=>?_,λz=>⟨_,rfl,rfl,by rw[z];simp⟩⟩
   ·generalize nD ks g=N at *
    walk_at "!"
   ·refine⟨.sh (eA a),[.p (nD ks g),.un,.sh (eA a)], ?_,_,rfl,rfl,by rw[z];rfl⟩;unfold mV
    walk_at "!")
  [] [.p (nD ks g),.un,.un] ⟨_,rfl,rfl,rfl⟩
 rw[nA,vN] at e;exact⟨t,ht,e⟩
def Hu{A:List L2.LA}(hA:∀a∈A,a∈ks):∃t,HA t=true/\jE (gC T.aA (run T W n) []) (ev T.aA (run T W n) false nV) (bB true [2]) (A.map eA) [] [.p (nD ks g),.un,.un]=some (.ok ((A.map λa=>1+g a).map D.int),[.p (nD ks g),.un,t]):=by
 obtain⟨vA,Ui,e,⟨t,rfl,ht,rfl⟩,hz⟩:=dH (tests:=gC T.aA (run T W n) []) (QA:=ev T.aA (run T W n) false nV) (bind:=bB true [2]) (ds:=A.map eA)
  (λj vA U=>∃t:Sl,U=[.p (nD ks g),.un,t]/\HA t=true/\vA=((A.take j).map λa=>1+g a).map D.int)
  (λj d hd vA U hU=>by
   obtain⟨t,rfl,ht,rfl⟩:=hU;rw[iD] at hd;obtain⟨a,ha,rfl⟩:=AF.mp hd;have hn:=vQ (f:=g) (hA a (VE ha));have e1:A.take (j+1)=A.take j++[a]:=by rw[OK,ha];rfl
   refine⟨_,true,_,by simp only[rC,EB ht]<;>rfl,AI,λ_=>?_,λz=>nomatch z⟩;refine⟨.i (1+g a),[.p (nD ks g),.un,.sh (eA a)], ?_,_,rfl,rfl,by rw[e1,UB,UB];rfl⟩;unfold nV
   walk_at "!")
  [] [.p (nD ks g),.un,.un] ⟨_,rfl,rfl,rfl⟩
 rw[nA,vN] at e;exact⟨t,ht,e⟩
theorem oN:aAe (some i) U=U.set i .un:=rfl
def Oe(v:RV)(i:Nat)(U:Env)(a b:Option Sl):FA RV:=(match a,b with | some .un,some sl=>some (U.set i sl) | _,_=>none).map λU'=>(.ok v,U')
theorem EM:aAs (some i) U1 v U2=Oe v i U2 U2[i]? U1[i]?:=rfl
theorem DM{s:Sl}:Oe v i U (some .un) (some s)=some (.ok v,U.set i s):=rfl
theorem jIa{s5:Sl}(hM:PD (some M) (eA k)=some (.sh (.l (UC m ba kn ps k))))(h7:(XE kn ps k).length<=7)(hb:b.length<=1000)(hk:k ∉ sA b)(h5:HA s5=true) :
  ∃b' jX,HA jX=true/\(b'=b\/(k ∉ ks/\∃z,b'=b++[(k,z)]))/\NA T.aA (run T W n) W BP [.sh M,.o (nD ks g),.sh t2,.o (nD (sA b) (SA b)),.sh (eA k),s5]=some (.nx,[.sh M,.o (nD ks g),.sh t2,.o (nD (sA b') (SA b')),.sh (eA k),jX]):=by
 have hn:=gT (ks:=ks) (f:=g) (k:=k);by_cases c:k∈ks
 ·rw[kB c] at hn;refine⟨b,s5,h5,.inl rfl, ?_⟩;unfold BP
  generalize eA k=dk at *
  clear c h7 hb hk h5 hM
  walk_at "!oN EM DM nA lG"
 ·rw[VA c] at hn;obtain⟨U0,e0⟩:=Eu (W:=W) (n:=n) (m:=m) (k:=k);have lA:(xP m ba kn ps k).length<=7:=by unfold xP;rw[nA];exact h7
  generalize UC m ba kn ps k=F at *
  generalize xP m ba kn ps k=A at *
  obtain⟨t1,nH,e1⟩:=Gu (W:=W) (n:=n)
  have hF:dJ (gC T.aA (run T W n) []) (ev T.aA (run T W n) false UR) (bB false [1,2]) F 3 []=some (.ok (.ow (.l (A.map eA))),[]):=by(rw[yM rfl];show(jE _ _ _ _ _ [.un,.un,.un]).bind _=_;rw[e0];exact F6 (MB (by rw[nA];lia)))
  have z1:iB ((A.filter λa=>!decide (a∈ks)).map eA).length=true:=MB (by rw[nA];have:=WT (λa=>!decide (a∈ks)) A;lia);by_cases c2:∀a∈A,a∈ks
  ·obtain⟨t3,wL,e2⟩:=Hu (W:=W) (n:=n) (g:=g) c2;have f0:(A.filter λa=>!decide (a∈ks))=[]:=N9.mpr λa ha=>by rw[kB (c2 a ha)];exact fD
   rw[f0] at e1 z1;have q0:decide (((([]:List L2.LA).map eA).length:Int)=0)=true:=rfl;have z2:iB ((A.map λa=>1+g a).map D.int).length=true:=MB (by rw[nA,nA];lia);have hc:bC .Add (.l [.int 0]) (.l ((A.map λa=>1+g a).map D.int))=some (.ow (.l ((0::A.map λa=>1+g a).map D.int))):=tM (MB (by rw[nA,nA,iF];lia));have hm:=L1 (a:=0) (l:=A.map λa=>1+g a)
   generalize (A.map λa=>1+g a).foldl mx 0=z at *
   obtain⟨p1,p2⟩:=Si (p:=(k,z)) hk
   have jW:∀{U:Env},EO 3 U (some (.o (nD (sA b) (SA b)))) (some (.inl k)) (.i z)=some (.nx,U.set 3 (.o (nD (sA (b++[(k,z)])) (SA (b++[(k,z)]))))):=λ{U}=>by(refine(lG (MB (by unfold sA;rw[nA,nA];lia))).trans ?_;rw[p1];show some (Fl.nx,U.set 3 (.o (.ZA _ (tF _ _ _ (.int z)))))=_;rw[p2];rfl)
   have bg:=JG (k:=k);have wC:QS (some (.o (nD (sA b) (SA b))))=true:=rfl;have yf:LS (some (.o (nD (sA b) (SA b))))=false:=rfl;have how:lQ (some (.o (nD (sA b) (SA b))))=false:=rfl;refine⟨b++[(k,z)],.o (.l (A.map eA)),rfl,.inr ⟨c,z,rfl⟩, ?_⟩;unfold BP
   generalize (0::A.map λa=>1+g a).map D.int=Z1 at *
   generalize (A.map λa=>1+g a).map D.int=Z at *
   generalize nD ks g=N at *
   generalize eA k=dk at *
   generalize ([]:List L2.LA).map eA=E0 at *
   generalize A.map eA=AD at *
   clear c h7 hb hk e0 lA c2 nH wL p1 p2 f0
   walk_at "!oN EM DM nA lG"
   rw[cF (mQ rfl)]
   walk_at "!oN EM DM nA lG"
   rw[ZS (VS rfl)]
   walk_at "!oN EM DM nA lG"
   rw[ZS (VS rfl)]
   walk_at "!oN EM DM nA lG"
  ·have f0:decide ((((A.filter λa=>!decide (a∈ks)).map eA).length:Int)=0)=false:=VA λz=>c2 λa ha=>by
    rw[nA] at z;have z:=J9.mp (Int.ofNat_eq_zero.mp z)
    have:=N9.mp z a ha
    cases q:decide (a∈ks) with
    |true=>exact eU q
    |false=>rw[q] at this;exact absurd rfl this
   refine⟨b,.o (.l (A.map eA)),rfl,.inl rfl, ?_⟩;unfold BP
   generalize (A.filter λa=>!decide (a∈ks)).map eA=R at *
   generalize nD ks g=N at *
   generalize nD (sA b) (SA b)=B at *
   generalize eA k=dk at *
   generalize A.map eA=AD at *
   clear c h7 hb hk e0 lA c2 nH
   walk_at "!oN EM DM nA lG"
   rw[cF (mQ rfl)]
   walk_at "!oN EM DM nA lG"
   rw[ZS (VS rfl)]
   walk_at "!oN EM DM nA lG"
   done
structure Fd(L:List L2.LA)(a:Pp):Prop where
 nd:(sA a).Nodup
 mem:∀k∈sA a,k∈L
def Vh:sA (b++[(k,z)])=sA b++[k]:=by unfold sA;rw[UB];rfl
theorem si{L:List L2.LA}(hM:∀k∈L,PD (some M) (eA k)=some (.sh (.l (UC m ba kn ps k))))(h7:∀k,(XE kn ps k).length<=7):∀{js:List L2.LA} {b:Pp} {s4 s5:Sl},(∀k∈js,k∈L/\k ∉ sA b)->js.Nodup->b.length+js.length<=1000->Fd L b->(∀k∈sA b,k ∉ ks)->HA s4=true->HA s5=true ->
  ∃b' t4 t5,Fd L b'/\(∀k∈sA b',k ∉ ks)/\b'.length<=b.length+js.length/\HA t4=true/\HA t5=true/\cC (bB true [4]) (NA T.aA (run T W n) W BP) (js.map eA) [.sh M,.o (nD ks g),.sh t2,.o (nD (sA b) (SA b)),s4,s5]=some (.nx,[.sh M,.o (nD ks g),.sh t2,.o (nD (sA b') (SA b')),t4,t5])
 |[],b,s4,s5,_,_,_,hf,hn,o4,o5=>⟨b,s4,s5,hf,hn,jB _,o4,o5,rfl⟩
 |k::js,b,s4,s5,h,nd,hl,hf,hn,o4,o5=>by
  have hk:=h k YD;have nd:=GJ.mp nd;rw[YB] at hl;obtain⟨b',jX,q5,qE,e⟩:=jIa (W:=W) (n:=n) (ks:=ks) (g:=g) (t2:=t2) (hM k hk.1) (h7 k) (by lia) hk.2 o5
  have hb:bB true [4] (eA k) [.sh M,.o (nD ks g),.sh t2,.o (nD (sA b) (SA b)),s4,s5]=some [.sh M,.o (nD ks g),.sh t2,.o (nD (sA b) (SA b)),.sh (eA k),s5]:=by(simp only[rC,EB o4]<;>rfl)
  have kS:b'.length<=b.length+1/\Fd L b'/\(∀x∈sA b',x ∉ ks)/\∀x∈sA b',x∈sA b\/x=k:=by
   rcases qE with rfl | ⟨c,z,rfl⟩
   ·exact⟨by lia,hf,hn,λx hx=>.inl hx⟩
   ·have sp:∀x∈sA (b++[(k,z)]),x∈sA b\/x=k:=λx hx=>by
     rw[Vh] at hx;exact(dE.mp hx).imp id kD.mp
    refine⟨by rw[kC,iF];lia,⟨?_,λx hx=>(sp x hx).elim (hf.mem x) λq=>q ▸ hk.1⟩,λx hx=>(sp x hx).elim (hn x) λq=>q ▸ c,sp⟩;rw[Vh];exact aJ.mpr ⟨hf.nd,by simp,λa ha b hb z=>hk.2 (by rw[kD] at hb;subst hb z;exact ha)⟩
  obtain⟨b3,u4,u5,g1,g2,g3,g4,g5,e2⟩:=si hM h7 (js:=js) (b:=b') (s4:=.sh (eA k)) (s5:=jX) (λx hx=>⟨(h x (WC _ hx)).1,λhz=>(kS.2.2.2 x hz).elim (h x (WC _ hx)).2 λq=>nd.1 (q ▸ hx)⟩) nd.2 (by lia) kS.2.1 kS.2.2.1 rfl q5;refine⟨b3,u4,u5,g1,g2,by rw[YB];lia,g4,g5, ?_⟩;rw[AB];simp only[cC,hb,e];exact e2
def f7(h:(sA l).Nodup):nD (sA l) (SA l)=.ZA ((sA l).map .inl) (l.map λp=>.int p.2):=by
 unfold nD mD;rw[VW h]
theorem Wi[DecidableEq O]:∀{a L:List O},a.Nodup->(∀x∈a,x∈L)->a.length<=L.length
 |[],_,_,_=>mI _
 |x::a,L,nd,h=>by
  have nd:=GJ.mp nd;have hx:=h x YD;have e:=Ip hx;have l0:=Zp hx
  have:=Wi (L:=L.erase x) nd.2 λy hy=>(Aq λz:y=x=>nd.1 (z ▸ hy)).mpr (h y (WC _ hy))
  rw[YB]
  lia
def Fd.len{L:List L2.LA}(h:Fd L a):a.length<=L.length:=by
 have:=Wi h.nd h.mem
 unfold sA at this
 rwa[nA] at this
def fKa{l:List O}(nd:l.Nodup)(hi:∀x∈l,∀y∈l,h (u x)=h (u y)->x=y):((l.map u).map h).Nodup:=ir.mpr (ir.mpr (List.Pairwise.imp_of_mem (λ{x y} hx hy k z=>k (hi x hx y hy z)) nd))
theorem ZW:HC P C .aK U=some (.ok (.val (.ow (.ZA [] []))),U):=rfl
theorem Qi:nD (sA []) (SA [])=.ZA [] []:=rfl
def aA0:PB .Eq (nD (sA b) (SA b)) (.ZA [] [])=some b.isEmpty:=by
 unfold nD mD;rw[Ew];cases b<;>rfl
theorem kIa{L:List L2.LA}{t2:D}{a:Pp}(hf:∀k∈L,f k=.l (UC m ba kn ps k))(h7:∀k,(XE kn ps k).length<=7)(nd:L.Nodup)(hl:L.length<=150)(hi:∀k∈L,∀l∈L,L2.hS (.inl k)=L2.hS (.inl l)->k=l)(ha:Fd L a)(o3:HA s3=true)(o4:HA s4=true)(o5:HA s5=true) :
  (∃a' t3 t4 t5,Fd L a'/\HA t3=true/\HA t4=true/\HA t5=true/\NA T.aA (run T W n) W CP [.sh (mD L f),.o (nD (sA a) (SA a)),.sh t2,s3,s4,s5]=some (.nx,[.sh (mD L f),.o (nD (sA a') (SA a')),.sh t2,t3,t4,t5])) \/
  ∃t3 t4 t5,NA T.aA (run T W n) W CP [.sh (mD L f),.o (nD (sA a) (SA a)),.sh t2,s3,s4,s5]=some (.rt (.ow (nD (sA a) (SA a))),[.sh (mD L f),.mv,.sh t2,t3,t4,t5]):=by
 obtain⟨b,t4,t5,hb,hn,_,q4,q5,e⟩:=si (W:=W) (n:=n) (ks:=sA a) (g:=SA a) (M:=mD L f) (t2:=t2) (L:=L) (js:=L) (b:=[]) (λk hk=>by rw[<- hf k hk];exact y6 JG (Z6 hk)) h7 (λk hk=>⟨hk,λz=>nomatch z⟩) nd (by rw[uG];lia) ⟨.nil,λk hk=>nomatch hk⟩ (λk hk=>nomatch hk) o4 o5;rw[Qi] at e;have rK:∀{U:Env},aAa .key [.val (.sh (mD L f))] U=some (L.map eA,none):=λ{U}=>by unfold mD;rw[tW,fE];rfl
 cases b with
 |nil =>
  have hq:=aA0 (b:=[]);rw[List.isEmpty_nil] at hq;refine .inr ⟨.ow (nD (sA []) (SA [])) false false,t4,t5, ?_⟩;unfold CP
  walk_at "!PH ZW sV"
 |cons p b =>
  have hq:=aA0 (b:=p::b);rw[List.isEmpty_cons] at hq
  generalize hB:p::b=b2 at *
  have ka:sA (a++b2)=sA a++sA b2:=by unfold sA;rw[UB]
  have P4:Fd L (a++b2):=by
   refine⟨?_,λk hk=>?_⟩
   ·rw[ka];exact aJ.mpr ⟨ha.nd,hb.nd,λx hx y hy z=>hn y hy (z ▸ hx)⟩
   ·rw[ka] at hk;exact(dE.mp hk).elim (ha.mem k) (hb.mem k)
  have hu:∀{U:Env},NO 1 3 U (some (.o (nD (sA a) (SA a)))) (some (.o (nD (sA b2) (SA b2))))=some (.ok (.sh .pA),U.set 1 (.o (nD (sA (a++b2)) (SA (a++b2))))):=λ{U}=>by
   have lb:=hb.len;have la:=ha.len;rw[f7 ha.nd,f7 hb.nd,f7 P4.nd,ka,UB,UB];refine cZa rfl ⟨by decide, ?_, ?_,MB (by unfold sA;simp only[nA];lia), ?_⟩
   ·rw[<- hB];exact λz=>nomatch z
   ·rw[<- UB,<- ka];exact gr _ (λ_ _ h z=>h (BN z)) P4.nd
   ·exact fKa hb.nd λx hx y hy z=>hi x (hb.mem x hx) y (hb.mem y hy) z
  refine .inl ⟨a++b2,.o (nD (sA b2) (SA b2)),t4,t5,P4,rfl,q4,q5, ?_⟩;unfold CP
  walk_at "!PH ZW sV"
theorem lIa{f:L2.LA->D}{L:List L2.LA}(hf:∀k∈L,f k=.l (UC m ba kn ps k))(h7:∀k,(XE kn ps k).length<=7)(nd:L.Nodup)(hl:L.length<=150)(hi:∀k∈L,∀l∈L,L2.hS (.inl k)=L2.hS (.inl l)->k=l) :
  ∃a,Fd L a/\"O"|||n+1|||[.sh (mD L f)]|||.ow (nD (sA a) (SA a)):=by
 obtain⟨U',hr⟩:=Ci (bind:=bB true [2]) (body:=NA T.aA (run T W n) W CP)
  (λv U=>∃a s2 s3 s4 s5,Fd L a/\v=.ow (nD (sA a) (SA a))/\U=[.sh (mD L f),.mv,s2,s3,s4,s5])
  (λ_ U=>∃a s2 s3 s4 s5,Fd L a/\HA s2=true/\HA s3=true/\HA s4=true/\HA s5=true/\U=[.sh (mD L f),.o (nD (sA a) (SA a)),s2,s3,s4,s5])
  ((XB ((L.length:Int)+1).toNat).map λ(j:Nat)=>.int j) 0
  (λi d U _ hU=>by
   obtain⟨a,s2,s3,s4,s5,ha,o2,o3,o4,o5,rfl⟩:=hU;refine⟨[.sh (mD L f),.o (nD (sA a) (SA a)),.sh d,s3,s4,s5],by simp only[rC,EB o2]<;>rfl, ?_⟩;rcases kIa (t2:=d) hf h7 nd hl hi ha o3 o4 o5 with ⟨a',t3,t4,t5,g1,g3,g4,g5,e⟩ | ⟨t3,t4,t5,e⟩
   ·exact⟨_,.inl ⟨e,a',_,t3,t4,t5,g1,rfl,g3,g4,g5,rfl⟩⟩
   ·exact⟨_,.inr ⟨_,e,a,_,t3,t4,t5,ha,rfl,rfl⟩⟩)
  [.sh (mD L f),.o (nD (sA []) (SA [])),.un,.un,.un,.un] ⟨[],_,_,_,_,⟨.nil,λk hk=>nomatch hk⟩,rfl,rfl,rfl,rfl,rfl⟩
 have mB:aD .len [mD L f]=some (.i L.length):=by unfold mD;rw[NR,nA]
 have rK:∀{U:Env},aAa .jC [.val (.i ((L.length:Int)+1))] U=some ((XB ((L.length:Int)+1).toNat).map λ(j:Nat)=>.int j,none):=λ{U}=>tJ rfl (by lia) (by lia)
 rw[Qi] at hr;rcases hr with ⟨e,a,s2,s3,s4,s5,ha,_,_,_,_,rfl⟩ | ⟨v,e,a,s2,s3,s4,s5,ha,rfl,rfl⟩
 ·refine⟨a,ha, ?_⟩
  exists AV
  walk_at "!PH ZW sV"
 ·refine⟨a,ha, ?_⟩
  exists AV
  walk_at "!PH ZW sV"
end
section
variable{no ba:Int}{kn m:Nat}{ps:List RP}{hA:D}{W n:Nat}{s:L2.LA}{l:Pp}{ns:List Int}
theorem gHa{j:Nat}{s2 s3 s4 s5 s6 t:Sl}(hn:ns.length<=63)(hj:j<5)(H:HD hA no ba m kn ps)(hv:∀p∈l,VK no ba m p.1)(hl:l.length<=900)(ht:HA t=true) :
  ∃t',HA t'=true/\NA T.aA (run T W (n+10)) W MR [.sh (.l (ns.map .int)),.sh hA,s2,s3,s4,s5,s6,.sh (eA s),.sh (.l (pD l)),.i j,t]=some (.nx,[.sh (.l (ns.map .int)),.sh hA,s2,s3,s4,s5,s6,.sh (eA s),.sh (.l (pD l)),.i j,t']):=by
 have hp:=N7 (W:=W) (n:=n+9) (ns:=ns) (k:=3+j) hn (by lia);rw[show((3+j:Nat):Int)=3+(j:Int) from by lia] at hp
 generalize (kG ns (3+j)).1=k at *
 generalize (kG ns (3+j)).2=s0 at *
 obtain⟨s',l',v,e,jQ,h1,h2⟩:=jWa (W:=W) (n:=n+7) (k:=k) (s0:=s0) (s:=s) H hv hl;have ha:=rZ (W:=W) (n:=n) (s:=s) H h1 h2;rcases jQ with rfl | rfl
 ·refine⟨.sh (.l (pD l')),rfl, ?_⟩;unfold MR;clear H hv hl hn hj h1 h2
  walk_at "!"
 ·refine⟨.sh (.l (pD l')),rfl, ?_⟩;unfold MR;clear H hv hl hn hj h1 h2
  walk_at "!"
theorem hHa(hn:ns.length<=63)(H:HD hA no ba m kn ps)(hs:VK no ba m s)(hv:∀p∈l,VK no ba m p.1)(hl:l.length<=900) :
  ∃U3,NA T.aA (run T W (n+10)) W vX [.sh (.l (ns.map .int)),.sh hA,s2,s3,s4,s5,s6,.sh (eA s),.sh (.l (pD l)),.un,.un]=some (.rt (.b true),U3):=by
 obtain⟨U1,e1,t9,MT,rfl,_⟩:=oIa (bind:=bB true [9]) (body:=NA T.aA (run T W (n+10)) W MR) (λU=>∃t9 MT,U=[.sh (.l (ns.map .int)),.sh hA,s2,s3,s4,s5,s6,.sh (eA s),.sh (.l (pD l)),t9,MT]/\HA t9=true/\HA MT=true) (ds:=rg 5)
  (λd hd U hU=>by
   obtain⟨t9,MT,rfl,o9,o10⟩:=hU;obtain⟨j,hj,rfl⟩:=JC.mp hd;obtain⟨t',ot,e⟩:=gHa (W:=W) hn (NK.mp hj) H hv hl o10
   exact⟨_,by simp only[rC,EB o9]<;>rfl,_,e,_,_,rfl,rfl,ot⟩)
  (U:=[.sh (.l (ns.map .int)),.sh hA,s2,s3,s4,s5,s6,.sh (eA s),.sh (.l (pD l)),.un,.un]) ⟨_,_,rfl,rfl,rfl⟩
 have a1:=rZ (W:=W) (n:=n) (s:=s) H hv (by lia);have a2:=rZ (W:=W) (n:=n) (s:=s) (l:=[(s,0)]) H (λp hp=>by rw[kD.mp hp];exact hs) (by rw[iF];lia);rw[show pD [(s,0)]=[.t [eA s,.int 0]] from rfl] at a2;have hi:∀{U:Env},aAa .jC [.val (.i 5)] U=some (rg 5,none):=λ{U}=>tJ (n:=5) rfl (by lia) (by lia)
 refine⟨[.sh (.l (ns.map .int)),.sh hA,s2,s3,s4,s5,s6,.sh (eA s),.sh (.l (pD l)),t9,MT], ?_⟩;unfold vX;clear H hv hl hn hs
 walk_at "!"
end
section
variable{no ba:Int}{kn m:Nat}{ps:List RP}{hA:D}{W n:Nat}{s:L2.LA}{ks:List L2.LA}{g:L2.LA->Int}{ns:List Int}
noncomputable def NI(ks:List L2.LA)(g:L2.LA->Int):Pp:=ks.map λk=>(k,g k)
def lc0:∃t,HA t=true/\jE (gC T.aA (run T W n) []) (ev T.aA (run T W n) false XR) (bB true [2]) (ks.map eA) [] [.sh (nD ks g),.un,.un]=some (.ok (pD (NI ks g)),[.sh (nD ks g),.un,t]):=by
 obtain⟨vA,Ui,e,⟨t,rfl,ht,rfl⟩,hz⟩:=dH (tests:=gC T.aA (run T W n) []) (QA:=ev T.aA (run T W n) false XR) (bind:=bB true [2]) (ds:=ks.map eA)
  (λj vA U=>∃t:Sl,U=[.sh (nD ks g),.un,t]/\HA t=true/\vA=pD (NI (ks.take j) g))
  (λj d hd vA U hU=>by
   obtain⟨t,rfl,ht,rfl⟩:=hU;rw[iD] at hd;obtain⟨a,ha,rfl⟩:=AF.mp hd;have hn:=vQ (f:=g) (VE ha);have e1:ks.take (j+1)=ks.take j++[a]:=by rw[OK,ha];rfl
   refine⟨_,true,_,by simp only[rC,EB ht]<;>rfl,AI,λ_=>?_,λz=>nomatch z⟩;refine⟨.sh (.t [eA a,.int (g a)]),[.sh (nD ks g),.un,.sh (eA a)], ?_,_,rfl,rfl,by rw[e1];unfold pD NI;rw[UB,UB];rfl⟩;unfold XR
   walk_at "!")
  [] [.sh (nD ks g),.un,.un] ⟨_,rfl,rfl,rfl⟩
 rw[nA,vN] at e;exact⟨t,ht,e⟩
def Ee{O:Type}{f:O->D}{q:Nat}{l:List O}{es:List D}(h:Fm q es (l.map f)):∃l':List O,es=l'.map f/\l'.length=q/\∀p∈l',p∈l:=by
 have key:∀{es:List D},(∀e∈es,e∈l.map f)->∃l':List O,es=l'.map f/\∀p∈l',p∈l:=λ{es}=>by
  induction es with
  |nil=>exact λ_=>⟨[],rfl,λp hp=>nomatch hp⟩
  |cons d es ih =>
   intro h;obtain⟨l',rfl,h'⟩:=ih λe he=>h e (WC _ he)
   obtain⟨p,hp,rfl⟩:=JC.mp (h d YD);exact⟨p::l',rfl,λr hr=>(DC.mp hr).elim (λz=>z ▸ hp) (h' r)⟩
 obtain⟨l',rfl,h'⟩:=key h.2;exact⟨l',rfl,by rw[<- h.1,nA],h'⟩
def oWa:aD .sorted [.l (pD l)]=some (.sh (.MC l.length (pD l))):=by
 have h:(pD l).all qO=true:=EE.mpr λd hd=>by(obtain⟨p,_,rfl⟩:=JC.mp hd;show((rE (p.1.2.map D.int)).map _).isSome=true;rw[CI.aAx];rfl)
 rw[Ac (by rw[h,wG])];unfold pD;rw[nA]
theorem Cz{s0 s1 s2 s3 s4 s6 s7:Sl}(hl:ks.length<=900):∃q,q<=900/\ev T.aA (run T W n) false (.sl (.bif .sorted [(.comp XR [2] .key [(.uD 5)] [] [5] 2)]) .UD (.c (.int 100))) [s0,s1,s2,s3,s4,.o (nD ks g),s6,s7,.un,.un,.un]=some (.ok (.sh (.MC q (pD (NI ks g)))),[s0,s1,s2,s3,s4,.sh (nD ks g),s6,s7,.un,.un,.un]):=by
 obtain⟨t,ht,e⟩:=lc0 (W:=W) (n:=n) (ks:=ks) (g:=g);have hs:=oWa (l:=NI ks g);have hsl:∀{q:Nat} {F:List D},zJ (some (.MC q F)) none (some (.int 100))=some (.sh (.MC (aAp (HB q .pA) none (some 100)).length F)):=λ{q F}=>rfl
 have rK:∀{U:Env},aAa .key [.val (.sh (nD ks g))] U=some (ks.map eA,none):=λ{U}=>by unfold nD mD;rw[tW,fE];rfl
 have ID:iB (pD (NI ks g)).length=true:=MB (by unfold pD NI;rw[nA,nA];lia);refine⟨(aAp (HB (NI ks g).length .pA) none (some 100)).length,by unfold aAp NI;simp only[HH,lF,RO,nA];lia, ?_⟩
 generalize (NI ks g).length=q at *
 generalize pD (NI ks g)=F at *
 generalize nD ks g=N at *
 generalize ks.map eA=K at *
 clear hl ht
 walk_at "!"
 rw[cF rK]
 walk_at "!"
theorem eHa{K:List L2.LA}(hn:ns.length<=63)(H:HD hA no ba m kn ps)(h3:YM s3=true)(h4:YM s4=true)(hK:∀x∈K,VK no ba m x)(F':0<K.length)(J':K.length<=200)(hv:∀x∈ks,VK no ba m x)(hl:ks.length<=150) :
  ∃U3,NA T.aA (run T W (n+10)) W uX [.sh (.l (ns.map .int)),.sh hA,.o (.l [.int k,.int s0]),s3,s4,.o (nD ks g),.sh (.l (K.map eA)),.un,.un,.un,.un]=some (.rt (.b true),U3):=by
 obtain⟨v,s1,hv1,d0⟩:=gL (W:=W) (n:=n+9) (k:=k) (s:=s0) (m:=(K.length:Int)) (by lia);obtain⟨c,rfl⟩:∃c:Nat,v=(c:Int):=⟨v.toNat,by lia⟩
 have hc:c<K.length:=by lia
 have hg:=A6 (L2.XJ (show(K.map eA)[c]?=some (eA K[c]) by rw[iD,FC hc];rfl));have hs:=hK _ (XO hc)
 generalize K[c]=s at *
 obtain⟨q,hq,e8⟩:=Cz (W:=W) (n:=n+10) (ks:=ks) (g:=g) (s0:=.sh (.l (ns.map .int))) (s1:=.sh hA) (s2:=.o (.l [.int k,.int s1])) (s3:=s3) (s4:=s4) (s6:=.sh (.l (K.map eA))) (s7:=.sh (eA s)) (by lia)
 have h8:=ue (P:=T.aA) (C:=run T W (n+10)) (W:=W) (i:=8) (rest:=vX) (by simp only[vC,HY,h3,h4];rfl) e8 (λes oK=>by
  obtain⟨l',rfl,IM,hm⟩:=Ee (f:=λp:L2.LA×Int=>.t [eA p.1,.int p.2]) oK
  obtain⟨U3,e3⟩:=hHa (W:=W) (n:=n) (ns:=ns) (s:=s) (l:=l') (s2:=.o (.l [.int k,.int s1])) (s3:=s3) (s4:=s4) (s5:=.sh (nD ks g)) (s6:=.sh (.l (K.map eA))) hn H hs (λp hp=>by
   obtain⟨x,hx,rfl⟩:=JC.mp (hm p hp)
   exact hv x hx) (by lia)
  exact⟨_,rfl,U3,e3⟩)
 try dsimp only[AB,RI] at h8
 refine⟨[.mv,.mv,.mv,.mv,.mv,.mv,.mv,.mv,.mv,.mv,.mv], ?_⟩;unfold uX
 generalize ns.map D.int=NS at *
 generalize nD ks g=N at *
 generalize eA s=ds at *
 generalize pD (NI ks g)=F at *
 have mB:aD .len [.l (K.map eA)]=some (.i K.length):=by rw[Ae,nA]
 generalize K.map eA=KD at *
 clear H hn h3 h4 hK F' J' hv hl hs hc hv1 hq e8
 walk_at "!nA"
end
section
variable{W n:Nat}{ns:List Int}
theorem xf(ho:LH no ba oc fs)(hl:rs.length<=8)(hR:∀d∈rs,AG no ba oc (fs.length:Int) d):∃m kn ps,HD () no ba m kn ps/\(3<=m/\m<=5)/\ba<=4/\no<=7:=by
 obtain⟨m,hm,h3,h5⟩:=dJa ho;obtain⟨ps,mO,yS⟩:=xl ho hm h3 rs hR;exact⟨m,no.toNat,ps,⟨_,_,_,rfl,ho,hm,h3,h5,(YX (by have:=ho.n1;lia)).symm,mO,yS,hl⟩,⟨h3,h5⟩,ho.b2,ho.n2⟩
theorem dHa(hn:ns.length<=63):∃hA no ba m kn ps k s s3,(HD hA no ba m kn ps/\(3<=m/\m<=5)/\ba<=4/\no<=7)/\YM s3=true/\NA T.aA (run T W (n+10)) W (bG.body.take 3) [.sh (.l (ns.map .int)),.un,.un,.un,.un,.un,.un,.un,.un,.un,.un]=some (.nx,[.sh (.l (ns.map .int)),.sh hA,.o (.l [.int k,.int s]),s3,.un,.un,.un,.un,.un,.un,.un]):=by
 have hp1:=N7 (W:=W) (n:=n+9) (ns:=ns) (k:=1) hn (by lia);have hp2:=N7 (W:=W) (n:=n+9) (ns:=ns) (k:=2) hn (by lia);rw[show((1:Nat):Int)=1 from rfl] at hp1;rw[show((2:Nat):Int)=2 from rfl] at hp2
 generalize (kG ns 1).1=k1 at *
 generalize (kG ns 1).2=k2 at *
 generalize (kG ns 2).1=k at *
 generalize (kG ns 2).2=k4 at *
 obtain⟨s1,no,ba,oc,fs,rs,eh,ho,E5,hR⟩:=mBa (W:=W) (n:=n+7) (k:=k1) (s:=k2);obtain⟨v,s2,hv,d0⟩:=gL (W:=W) (n:=n+9) (k:=k) (s:=k4) (m:=3) (by lia);by_cases c:0<v
 ·obtain⟨a,s3,ha,d1⟩:=gL (W:=W) (n:=n+9) (k:=k) (s:=s2) (m:=4) (by lia);obtain⟨b,s4,hb,d2⟩:=gL (W:=W) (n:=n+9) (k:=k) (s:=s3) (m:=2) (by lia)
  obtain⟨sh,hs,hd⟩:∃sh:D,PD (some (.l [.t [.str "range",.int 1,.int 60],.t [.str "leap",.int 0],.t [.str "again",.int 1],.t [.str "back",.int 1,.int 1]])) (.int a)=some (.sh sh)/\AG no ba oc (fs.length:Int) sh:=by
   rcases(by lia:a=0\/a=1\/a=2\/a=3) with rfl | rfl | rfl | rfl
   ·exact⟨_,rfl,.range 1 60 (by decide) (by decide) (by decide)⟩
   ·exact⟨_,rfl,.leap 0 (by decide) (by decide)⟩
   ·exact⟨_,rfl,.again 1 (by decide) (by decide)⟩
   ·exact⟨_,rfl,.back 1 1 (by decide) (by decide) (by decide) (by decide)⟩
  have kf:∀d∈.t [.str "again",.int (1+b)]::sh::rs.take 6,AG no ba oc (fs.length:Int) d:=λd h=>by
   rcases DC.mp h with rfl | h
   ·exact .again (1+b) (by lia) (by lia)
   rcases DC.mp h with rfl | h
   ·exact hd
   ·exact hR d (WQ h)
  have l6:(rs.take 6).length<=6:=by rw[HH];lia
  obtain⟨m,kn,ps,H⟩:=xf ho (rs:=.t [.str "again",.int (1+b)]::sh::rs.take 6) (by rw[YB,YB];lia) kf
  have q1:zJ (some (.t rs)) none (some (.int 6))=some (.sh (.t (rs.take 6))):=by
   show some (RV.sh (.t (aAp rs none (some ((6:Nat):Int)))))=_;unfold aAp;rw[HT.CQ,HT.FT,wY,Ya];by_cases h:6<=rs.length
   ·rw[jR h]
   ·rw[Ba (by lia),NJ (jB _),NJ (by lia)]
  have q0:∀{a b c d e:D},zJ (some (.t [a,b,c,d,e])) none (some (.int 4))=some (.sh (.t [a,b,c,d])):=λ{a b c d e}=>rfl
  have q2:iB (1+1+(rs.take 6).length)=true:=MB (by lia);refine⟨_,no,ba,m,kn,ps,k,s4,.sh sh,H,rfl, ?_⟩;clear H kf hR hd hb ha E5 ho hv l6 hn
  unfold bG hW at *
  walk_at "!"
 ·obtain⟨m,kn,ps,H⟩:=xf ho E5 hR;refine⟨_,no,ba,m,kn,ps,k,s2,.un,H,rfl, ?_⟩;have c':decide (0<v)=false:=VA c;clear H hR E5 ho hv hn c
  unfold bG hW at *
  walk_at "!"
end
section
variable{no ba:Int}{kn m:Nat}{ps:List RP}{hA:D}{W n:Nat}{ns:List Int}
def nWa{l:List L2.LA}:aD .sorted [.l (l.map eA)]=some (.sh (.MC l.length (l.map eA))):=by
 have h:(l.map eA).all (λd=>(yJ d).isSome)=true:=EE.mpr λd hd=>by(obtain⟨p,_,rfl⟩:=JC.mp hd;show((rE (p.2.map D.int)).map _).isSome=true;rw[CI.aAx];rfl)
 rw[Ac (by rw[h,xG]),nA]
theorem fHa{L:List L2.LA}{f:L2.LA->D}{k s:Int}{s3:Sl}(hn:ns.length<=63)(H:HD hA no ba m kn ps)(hb:(3<=m/\m<=5)/\ba<=4/\no<=7)(h3:YM s3=true)(h0:VK no ba m (0,[]))(g:Gr no ba m kn ps L f) :
  ∃U3,NA T.aA (run T W (n+10)) W (bG.body.drop 5) [.sh (.l (ns.map .int)),.sh hA,.o (.l [.int k,.int s]),s3,.o (mD L f),.un,.un,.un,.un,.un,.un]=some (.rt (.b true),U3):=by
 obtain⟨a,fd,e5⟩:=lIa (W:=W) (n:=n+9) (f:=f) (L:=L) g.vl (λk=>EC VP H.k7) g.nd g.le (λx hx y hy z=>T' hb.1.1 hb.1.2 hb.2.1 hb.2.2 (g.vk x hx) (g.vk y hy) z)
 have h6:=ue (P:=T.aA) (C:=run T W (n+10)) (W:=W) (i:=6) (rest:=uX) (e:=.qA .Add (.bif .sorted [(.bif .list [(.v 4)])]) (.l [(.t [(.c (.int 0)),(.t [])])])) (n:=L.length+1) (ds:=(L++[(0,[])]).map eA) (U:=[.sh (.l (ns.map .int)),.sh hA,.o (.l [.int k,.int s]),s3,.sh (mD L f),.o (nD (sA a) (SA a)),.un,.un,.un,.un,.un]) (U1:=[.sh (.l (ns.map .int)),.sh hA,.o (.l [.int k,.int s]),s3,.sh (mD L f),.o (nD (sA a) (SA a)),.un,.un,.un,.un,.un]) (by simp only[vC,HY,h3];rfl) (by
   have hl:aD .list [mD L f]=some (.ow (.l (L.map eA))):=by(show some (RV.ow (.l (List.map zM (L.map .inl))))=_;rw[fE];rfl)
   have hs:=nWa (l:=L)
   have hbg:∀{x:Hd},CG .Add x (some (.MC L.length (L.map eA))) (some (.l [.t [.int 0,.t []]]))=some (.sh (.MC (L.length+1) ((L++[(0,[])]).map eA))):=λ{x}=>by
    have:=av (x:=x) (n:=L.length) (xs:=L.map eA) (ys:=[.t [.int 0,.t []]]) (MB (by have:=g.le;rw[iF];lia))
    rw[this,UB];rfl
   generalize (L++[(0,[])]).map eA=LL at *
   generalize mD L f=M at *
   generalize L.map eA=LK at *
   generalize nD (sA a) (SA a)=N at *
   generalize ns.map D.int=NS at *
   clear H hb h0 g fd e5 hn h3
   walk_at "!") (λes oK=>by
  obtain⟨K,rfl,hK,hm⟩:=Ee oK;have hv:∀x∈L++[((0:Int),([]:List Int))],VK no ba m x:=λx hx=>(dE.mp hx).elim (g.vk x) λz=>by rw[kD.mp z];exact h0
  have hl:=fd.len;obtain⟨U3,e3⟩:=eHa (W:=W) (n:=n) (ns:=ns) (ks:=sA a) (g:=SA a) (k:=k) (s0:=s) (s3:=s3) (s4:=.sh (mD L f)) (K:=K) hn H h3 rfl (λx hx=>hv x (hm x hx)) (by lia) (by have:=g.le;lia) (λx hx=>g.vk x (fd.mem x hx)) (by unfold sA;rw[nA];have:=g.le;lia)
  exact⟨_,rfl,U3,e3⟩)
 try dsimp only[AB,RI] at h6
 refine⟨[.mv,.mv,.mv,.mv,.mv,.mv,.mv,.mv,.mv,.mv,.mv], ?_⟩;unfold bG
 generalize (L++[(0,[])]).map eA=LL at *
 generalize mD L f=M at *
 generalize nD (sA a) (SA a)=N at *
 generalize ns.map D.int=NS at *
 clear H hb h0 g fd hn h3
 walk_at "!"
theorem law_spec(W:Nat)(ns:List Int)(hn:ns.length<=63):∃uB,run T (W+1300) 30 "law" [.sh (.l (ns.map .int))]=some (.ok (.b true),uB):=by
 rw[hX (fn:=bG) rfl rfl rfl];show ∃uB,P6 [.sh (.l (ns.map .int))] (NA T.aA (run T (W+1300) 29) (W+1300) bG.body [.sh (.l (ns.map .int)),.un,.un,.un,.un,.un,.un,.un,.un,.un,.un])=_
 obtain⟨hA,no,ba,m,kn,ps,k,s,s3,⟨H,hb⟩,h3,e1⟩:=dHa (W:=W+1300) (n:=19) hn
 have h0:VK no ba m (0,[]):=by
  obtain⟨_,_,_,rfl,H⟩:=H
  have:=H.ho.b1
  exact⟨Int.le_refl _,by lia,by rw[if_neg (by lia)];rfl,λx hx=>nomatch hx⟩
 obtain⟨L,f,ec,hL⟩:=Ax (n:=23) H h0;replace ec:run T (W+1300) 29 "v" [.sh hA,.sh (.t [.int 0,.t []])]=some (.ok (.ow (mD L f)),[.sh hA,.sh (.t [.int 0,.t []])]):=ec;rw[vV e1]
 obtain⟨L',f',g,e2⟩:∃L' f',Gr no ba m kn ps L' f'/\NA T.aA (run T (W+1300) 29) (W+1300) ((bG.body.drop 3).take 2) [.sh (.l (ns.map .int)),.sh hA,.o (.l [.int k,.int s]),s3,.un,.un,.un,.un,.un,.un,.un]=some (.nx,[.sh (.l (ns.map .int)),.sh hA,.o (.l [.int k,.int s]),s3,.o (mD L' f'),.un,.un,.un,.un,.un,.un]):=by
  have mB:aD .len [mD L f]=some (.i L.length):=by unfold mD;rw[NR,nA]
  by_cases c:150<L.length
  ·have c':decide ((150:Int)<(L.length:Int))=true:=kB (by lia);refine⟨[],f,⟨.nil,by decide,(λk hk=>nomatch hk),(λk hk=>nomatch hk),λk hk=>nomatch hk⟩, ?_⟩;rw[show mD [] f=.ZA [] [] from rfl];unfold bG
   walk_at "!PH"
  ·have c':decide ((150:Int)<(L.length:Int))=false:=VA (by lia);refine⟨L,f,hL.resolve_left c, ?_⟩;unfold bG
   walk_at "!PH"
 rw[vV e2];obtain⟨U3,e3⟩:=fHa (W:=W+1300) (n:=19) hn H hb h3 h0 g;replace e3:NA T.aA (run T (W+1300) 29) (W+1300) ((bG.body.drop 3).drop 2) [.sh (.l (ns.map .int)),.sh hA,.o (.l [.int k,.int s]),s3,.o (mD L' f'),.un,.un,.un,.un,.un,.un]=some (.rt (.b true),U3):=e3;rw[e3];exact⟨_,rfl⟩
end
end Mx
namespace PySem.W.Fast
local macro_rules | `(command|universe $x)=>do let l:=x.getId.toString.toList;let c←(List.range (l.length/11)).toArray.mapM λi=>(do let n:=Lean.mkIdent (.mkSimple s!"tw{((l.drop (1+11*i)).take 11).foldl (fun n d=>62*n+(d.toNat-if d<'A' then 48 else if d<'a' then 55 else 61)) 0}");`(command|def $n:ident:=True));return Lean.mkNullNode (c.map (·.raw))
universe xBxUPBoe2dnNBypzp8zI0BSBz7WrXKC74n1CS1YxJOU0hC3Gd7ZMLZG5CDAEdoTRYlXCDh9IOgAiqACIMpMH0a4ugCMbRxbypKugCOTo2gVCWOyCPku1PnYiXgCPqFy9Ob37QCQU2sOIUR1kCUvB7VkaQSOCVapPfNAcPNCViHWONknXuCWWiuxGmryOCcuv3rs8Y1WCcxNoXz7NHfCpWfrRi3vcGCsbrmaO056bCso98kmcuX3CvOJK43JaU1CzOVHccx2kED0O9tCYfydHD6c35uARsbVD9o0wiEAKvTDEjjSCDW5ZLDSR6W2WwkaADVcNmCVUqq8DqB4RMGSzvDDzxytEbnVNC1Q7qgcCoHLEEDnNy6KfuS61QkeEFze9IKELdnN2ZJfLKEXbY2GiZqAiEaTHlZzlKPsEbCiec0HblEEeHytlj3SotEfXf6GHLikfEgp2et2CTRIEmlSUphzthzEq7lPrKcNZD1UCZriWxobS1UED82ZqGCY09KllT2Cm9kF4GEjT65Gx8F65eBHtrxmK1VdAjTKoeMuF8peEdRb88iFFkEyUDR49iFGIVdhRCu9k09TFuW73ywMFMJN5DCqCdUFPbnVPUQRY0FQdsEiwkNOh1XmmiObC1Fb1XqwaY3AFh8FXzRGpsHYX8FZVJfi8a6b0FdzToSeJjBTFiTCcjfw0cRFjUYO3l0G6lFlw6jADXv97FnG2tDOqPUaFsoohUJccraFyR88I4OH4xG3AL701smSAG8hkJ6XW0EdGA9K29gyylqGOjIvQnvwE0GQ1LDbWk0RUGR1wnF6ZWMCGSwrk9G4CtZGTAa1ZkxvJHGWOD1sWJWMQGaJhgYxGUfzGfCTSCXAe8QGn0863lFKO6GrkV8gdq1yQGtizpK9xlfcGvHVQCwwGgGH0C8VF7wyP7H31KKxJJkID0Ah6jcJythBHI8Pf5H1tkVHJM6Mi5XV9LHLkzD5gQWe0HMAVqiU5FrfHT2N0dY8zrdHVWlijtN0J4HXUwd1wBL4vHlLYdXWFIYWHlYKlqiKF7lHn0dRhx03ruHo64UGM5XDzHsqDO029X1YI0dPs7gb5NTI0mATvht4DgI662ocqwXnbI7t6IxP3cfYI8J7difqI92I9zfWldYQL3ICv6PRBWOE4IEfCwT1zvy4IJJKEQCfYfRIKJnfTGXPNgISNh5aTOM1vIbETGStdF5xIdWvKFrTAtaIdbZ2c6mthF1s0v3kloHkLIiKLCXDJyMDIrIwK3UyL4iIsTe5C9UKUWIsphJJ5H4CJItlEPVN05hkIvz4zYAhouTIx14ETlmjAfJ8dpDHUw4ZkJC5zEP8ob43JEdI4zum4szJGCEA3Cbc3iJHBsmXGHgedJHgpfQIpLcz1vZYOG9YCsYJJ7rn5QldquJJlEdPw2RLjJOoPqrsgr5BJRDyKlJD3D2JSYx2UKbXptJT23UVFgQ1iJahckQItP1UJbbYW3EKk36Jbpp68UaoKLJfVZZFDUbIWJfa5lxm2o1VJl7ag4qs7d0JoYjmVDxYksJqaJvnrQ6nDJvmLrUOkvbcJy2oXnRqu5cJyEiBmHFw6gJz5lyANQY2AK1mLFyfOTYAKBRIJFIA9ynKBxXKTW0XabKCm3JlRSakKKDm7k7pIPXCKIluz5o2wBzKIo91mxEVYZKLMBkX98TyjKOalFnJs8NoKRPDvoiQvM52314vbU7IzmKVvwiKiRXc9KZQjmhFNo6PKd8ZDUZaUXcKfFMFwDoMrQKfmvCqxVwOD24m2CjegCND0Ctr9LFbNF7Ko5zLtORo7mKqVytk3h4g1KqhlSfK4o6tKsv1VbbvrFNKthjYZaunUpKxPGKCxInDbL3e40yV1OErL613xBntTXzL6cq4b3mvEsLBFZ2A9zUEv27TenN8ygNvLFz1eulbsNsLHKGTheKyBOLRUidWRVLejLSccdVx8Q11LSinQ2qakl7LTfLnO2K8jvLTxqt6S1rKfLZRI0aeWmLyLf3g9QNmK13LlToayoqXMNLmnkd6X28x52BPFlbsLWZxLtCEz5RRH1I2EFs2l197K02I1CEk4qdo62IVkG8QUFjQ2Jvnp9YdmWr2L3JHTv47bs2PXSecA2lIf2SejTv7EeoM0FhAVdLwYKH0GMT2Fhjhdr2jL1bZqe2Mz2mS8wzls1aQ2oX6hlst2BM2qTa6fedR3M2qeHXxyvrx92sKXBRIN0ln30yFwEeZn6M34hXOZjVWJJ01vBTzXTcqn36Fi6Bo03PM37IzURAEf2n3Jrk3eXjdE90KzZW54lZ8K3Rg7XL1TP2W3S6uDlH8rII3TNvZUNxT1t3hXAQNHkFe93xQ0fhoYwcy3yb1MDepmTi00FcynJrwll0PHZBaNCEUn49dcK3eHDNw4IMUPiZcLto0RmoIbnVatf4W443lULi9a4YF5AKtIpv94Zzvhl2pi0I4bjqol3BYWv4hAtYxyqW9i4lW9VsHCFhW4pwPJGBljIy0UFVXVEnRUx4stfO3w8MEq4yXpKroKqkG4zCxGBxMbFL51K6wi3gc265DcWF2Xprez5LF923suYsW5XT7L2gOFUU0Ygb2Vuw2yf5cev9UM6cU25glM2hgZHWK5izTLmgIKmO5mEtx3xUQkW5oCGyc4OYQI0aqUfO43Yv45xcY0HNJuxh63RcZtaWBBT68D3yX6OEOa68RnfpRoVJz6BVqCuPSqVt6EZo5t5whvh6EcgoDh1npo6FcK2ZozXY56MRddupKeUt6Mu2qbEiRvR6O9q5EtdXTt6PGPdON4rLL0e7wcWaRzpG6WI26tx83dE6Ze0uAPvE8z6mGatzk55En0gr3ThjHjgo6vpRIwhvp4V0hBImwEo9Xr77Q6B6hY78579u5t99V5nV7FFNKdtt4IV0iyoOodbb5Y0j0fMqkEDHC7H4cFmT6dAC7N2T6JFi9Ew7RY0La95iE57RhenBrLDUh7TYWlydwUne7b2QSFhcmJZ0lEsoheDzVk7dcSE7TQheT7fU1lxK9YIE7fhCtDAgbev7h068VItjBK7isLh9nCsTk7kXI6rOrzNj7nQXZygYtoT7oxobz2xM467rwLIkxU7XN7uplHqeEbzV7vk09DDabip7zX3sL7dCOr84FXNKEXQDs86LdQJD89mC8B4H4PEywJg8BpROD8f4UN8DuXZfIzSvS8HPKFxnskvO8KczO9CYyao8ayh31iU0m78kUoEZE9ksL8mbPqtM8KGA8n56WkpN8Th8ow58qpZqrd8q716LjVUpf8qWwUtuxyky8riVi9fUAkf0t8tgIoSe3h8uJpMP4vJlU94WWJ35V1qg95JJF80ZWbe98BWoBVnJwr9ASorCbCchf9DbVrv9T2ME0vBq22idXea0vJwe6rWFli9Jf20H05PZj9PA8UhYcyTL9POcgXNbAdM9SL6YTFOamW9USfdlHMYtU9UbZjmEtM549UzP0vZ7BQ39Y6IL51Fkcb0xDdql7PRAs9bsWx50weCT9jZDu9OMSyZ9loKrRMPXd39o8rj2Nsyk49u8hTcDh6T0A1AB6tLEhIPA7WEsyTkQg4A7eIBUtSCptACuQaSWDSaCAGI9q4i33tLAIKVbYtTFUNAU1KrcZ1PxBAblmFwdAG7xAc5BAYZksbYAfxRvKgimP9AhErDx8Dn2aAlIQrCrwQHvAqDAlC7wg7ZAtAzJg0SIGoAwHyWWp3t4kB09WzckKIR0B26UJdh49XEB5J3YKhNNkGB6dK0gQhkDJBEnJ9bVlIfXBHTXqUcRuAVBSu1WncQEsnBZfMm2t8TtNBfL4hJisKTIBhQUbdkUKLVBhkIsmeVF0uBjbJYBCikMpBo9neuVBLJJBokbtkV9Yg91BQWGhpPkPV
end PySem.W.Fast
open PySem PySem.W PyProof.Rows
local macro_rules | `(tactic| exists $n,$b,$f)=>`(tactic| refine CI.g_ $(Lean.mkIdent `KX) $(Lean.mkIdent `G) (show CI.tR _ (Tx.top $n) _ $f from CI.vJ $b) ?_)
set_option maxRecDepth 100000 in
set_option maxHeartbeats 0 in
theorem PySem.Challenge.cw_canonwright_k35_papers_that_show_an_end_holds : PySem.Challenge.rw_canonwright_k35_papers_that_show_an_end.Holds := by
 w_on;o_law;k_head;(case hw=>w_witness2)
 k_fill
 refine CI.iHa (l:=PySem.Challenge.rw_canonwright_k35_papers_that_show_an_end) (T:=Tx.T) (L:=Tx.L) (st:=Tx.top 73) (fn:=Tx.bG) (W:=1000000) (n:=30) (x:="law") (p:="_law_script") (f:="law") rfl rfl ⟨rfl,by decide,by decide,rfl⟩ rfl Tx.xu Tx.jMa (by decide +kernel) (λw h Y=>PySem.W.kIn_of Y) ?f_ ?bJa
 case bJa=>exact Mx.law_spec _
 case f_ =>
  intro w mg h KX G;have bZ:CI.ClsAt (L2.fC KX) "Span":=by refine' CI.QN ?a ?pg ?hd ?po ?sa ?mk ?kp;(case a | pg | hd | po | sa | mk | kp=>dsimp only[L2.fC];k_is)
  have Rb:CI.ClsAt (L2.fC KX) "Leap":=by refine' CI.QN ?a ?pg ?hd ?po ?sa ?mk ?kp;(case a | pg | hd | po | sa | mk | kp=>dsimp only[L2.fC];k_is)
  have Qb:CI.ClsAt (L2.fC KX) "Back":=by refine' CI.QN ?a ?pg ?hd ?po ?sa ?mk ?kp;(case a | pg | hd | po | sa | mk | kp=>dsimp only[L2.fC];k_is)
  have Pb:CI.ClsAt (L2.fC KX) "Again":=by refine' CI.QN ?a ?pg ?hd ?po ?sa ?mk ?kp;(case a | pg | hd | po | sa | mk | kp=>dsimp only[L2.fC];k_is)
  have aZ:CI.ClsAt (L2.fC KX) "Range":=by refine' CI.QN ?a ?pg ?hd ?po ?sa ?mk ?kp;(case a | pg | hd | po | sa | mk | kp=>dsimp only[L2.fC];k_is)
  have Ob:CI.ClsAt (L2.fC KX) "Above":=by refine' CI.QN ?a ?pg ?hd ?po ?sa ?mk ?kp;(case a | pg | hd | po | sa | mk | kp=>dsimp only[L2.fC];k_is)
  have Sb:CI.ClsAt (L2.fC KX) "Never":=by refine' CI.QN ?a ?pg ?hd ?po ?sa ?mk ?kp;(case a | pg | hd | po | sa | mk | kp=>dsimp only[L2.fC];k_is)
  have D_law:CI.sR (L2.fC KX) "law" (Tx.top 73):=by refine' CI.Qd ?a ?l ?c ?k;(case a | l | c | k=>dsimp only[L2.fC];k_is)
  have ⟨Zr,Yr,_⟩:CI.aL w.params (L2.fC KX) mg Tx.T (CI.YE Tx.L) ("LEADER",.c (.t [(.int 0),(.int 0),(.bl false)]))/\CI.aL w.params (L2.fC KX) mg Tx.T (CI.YE Tx.L) ("BY_THE_LINE",.c (.t []))/\True:=by
   iterate 2 refine⟨by refine' CI.Fx KX G ?a ?l ?c ?z;(case a | l=>dsimp only[L2.fC];k_is);(case c=>first | rfl | decide +kernel);(case z=>rfl), ?_⟩
   trivial
  refine⟨D_law, ?_⟩;unfold Tx.L
  iterate 8 refine CI.fc (by refine' CI.Ed KX G ?a;(case a=>k_is)) ?_
  refine CI.fc (Zr) ?_;refine CI.fc (Yr) ?_
  iterate 4 refine CI.fc (by refine' CI.Ed KX G ?a;(case a=>k_is)) ?_
  exists 10,CI.xI,Tx.J3
  exists 11,CI.FF,Tx.K3
  exists 13,CI.oF,Tx.R3
  exists 14,CI.oF,Tx.V3
  exists 15,CI.yI,Tx.y4
  exists 16,CI.FF,Tx.X3
  exists 17,CI.FF,Tx.B3
  exists 20,CI.xI,Tx.W3
  exists 21,CI.FF,Tx.O3
  exists 30,CI.xI,Tx.mL
  exists 32,CI.xI,Tx.S3
  exists 33,CI.yI,Tx.A3
  exists 39,CI.xI,Tx.N3
  exists 40,CI.oF,Tx.A4
  exists 41,CI.oF,Tx.Z3
  exists 42,CI.FF,Tx.E3
  exists 43,CI.oF,Tx.D3
  exists 44,CI.xI,Tx.M3
  exists 45,CI.oF,Tx.Q3
  exists 46,CI.FF,Tx.y3
  exists 47,CI.oF,Tx.j4
  exists 49,CI.oF,Tx.C3
  exists 50,CI.FF,Tx.L3
  exists 51,CI.FF,Tx.T3
  exists 53,CI.oF,Tx.N2
  exists 54,CI.oF,Tx.B2
  exists 55,CI.Tv,Tx.O2
  exists 56,CI.xI,Tx.YN
  exists 57,CI.FF,Tx.E2
  exists 58,CI.FF,Tx.eS
  exists 59,CI.FF,Tx.K2
  exists 60,CI.Uv,Tx.zV
  exists 61,CI.yI,Tx.lL
  exists 63,CI.xI,Tx.J2
  exists 64,CI.oF,Tx.P2
  exists 65,CI.xI,Tx.V1
  exists 66,CI.oF,Tx.D2
  exists 67,CI.oF,Tx.Q2
  exists 68,CI.oF,Tx.A2
  exists 69,CI.xI,Tx.AV
  exists 70,CI.FF,Tx.C2
  exists 71,CI.yI,Tx.BV
  exists 72,CI.FF,Tx.X1
  exists 73,CI.xI,Tx.bG
  refine CI.fc (CI.RN KX G bZ (by refine' CI.jG ?a ?b ?i ?l ?c ?k;(case a | b | i | l | c | k=>(try dsimp only[L2.fC]);k_is)) Tx.vCa (by(repeat refine CI.fc (by refine' CI.yO ?a ?b;(case a | b=>(try dsimp only[L2.fC]);k_is)) ?_);exact λ_ h=>nomatch h)) ?_;refine CI.fc (CI.RN KX G Rb (by refine' CI.jG ?a ?b ?i ?l ?c ?k;(case a | b | i | l | c | k=>(try dsimp only[L2.fC]);k_is)) Tx.sCa (by(repeat refine CI.fc (by refine' CI.yO ?a ?b;(case a | b=>(try dsimp only[L2.fC]);k_is)) ?_);exact λ_ h=>nomatch h)) ?_;refine CI.fc (CI.RN KX G Qb (by refine' CI.jG ?a ?b ?i ?l ?c ?k;(case a | b | i | l | c | k=>(try dsimp only[L2.fC]);k_is)) Tx.rCa (by(repeat refine CI.fc (by refine' CI.yO ?a ?b;(case a | b=>(try dsimp only[L2.fC]);k_is)) ?_);exact λ_ h=>nomatch h)) ?_;refine CI.fc (CI.RN KX G Pb (by refine' CI.jG ?a ?b ?i ?l ?c ?k;(case a | b | i | l | c | k=>(try dsimp only[L2.fC]);k_is)) Tx.qCa (by(repeat refine CI.fc (by refine' CI.yO ?a ?b;(case a | b=>(try dsimp only[L2.fC]);k_is)) ?_);exact λ_ h=>nomatch h)) ?_;refine CI.fc (CI.RN KX G aZ (by refine' CI.jG ?a ?b ?i ?l ?c ?k;(case a | b | i | l | c | k=>(try dsimp only[L2.fC]);k_is)) Tx.uCa (by(repeat refine CI.fc (by refine' CI.yO ?a ?b;(case a | b=>(try dsimp only[L2.fC]);k_is)) ?_);exact λ_ h=>nomatch h)) ?_;refine CI.fc (CI.RN KX G Ob (by refine' CI.jG ?a ?b ?i ?l ?c ?k;(case a | b | i | l | c | k=>(try dsimp only[L2.fC]);k_is)) Tx.pCa (by(repeat refine CI.fc (by refine' CI.yO ?a ?b;(case a | b=>(try dsimp only[L2.fC]);k_is)) ?_);exact λ_ h=>nomatch h)) ?_;refine CI.fc (CI.RN KX G Sb (by refine' CI.jG ?a ?b ?i ?l ?c ?k;(case a | b | i | l | c | k=>(try dsimp only[L2.fC]);k_is)) Tx.tCa (by(repeat refine CI.fc (by refine' CI.yO ?a ?b;(case a | b=>(try dsimp only[L2.fC]);k_is)) ?_);exact λ_ h=>nomatch h)) ?_;refine Q9.mpr ⟨⟨"broken",rfl,by unfold Tx.CJ;exact CI.fc (CI.GL bZ (by refine' CI.jG ?a ?b ?i ?l ?c ?k;(case a | b | i | l | c | k=>(try dsimp only[L2.fC]);k_is)) Tx.qLa rfl) (CI.fc (CI.GL Rb (by refine' CI.jG ?a ?b ?i ?l ?c ?k;(case a | b | i | l | c | k=>(try dsimp only[L2.fC]);k_is)) Tx.mLa rfl) (CI.fc (CI.GL Qb (by refine' CI.jG ?a ?b ?i ?l ?c ?k;(case a | b | i | l | c | k=>(try dsimp only[L2.fC]);k_is)) Tx.lLa rfl) (CI.fc (CI.GL Pb (by refine' CI.jG ?a ?b ?i ?l ?c ?k;(case a | b | i | l | c | k=>(try dsimp only[L2.fC]);k_is)) Tx.kLa rfl) (CI.fc (CI.GL aZ (by refine' CI.jG ?a ?b ?i ?l ?c ?k;(case a | b | i | l | c | k=>(try dsimp only[L2.fC]);k_is)) Tx.oLa rfl) (CI.fc (CI.GL Ob (by refine' CI.jG ?a ?b ?i ?l ?c ?k;(case a | b | i | l | c | k=>(try dsimp only[L2.fC]);k_is)) Tx.jLa rfl) (CI.fc (CI.GL Sb (by refine' CI.jG ?a ?b ?i ?l ?c ?k;(case a | b | i | l | c | k=>(try dsimp only[L2.fC]);k_is)) Tx.nLa rfl) (λ_ h=>nomatch h)))))))⟩, ?_⟩;refine Q9.mpr ⟨⟨"forbids",rfl,by unfold Tx.lN;exact CI.fc (CI.GL bZ (by refine' CI.jG ?a ?b ?i ?l ?c ?k;(case a | b | i | l | c | k=>(try dsimp only[L2.fC]);k_is)) Tx.rLa rfl) (CI.fc (CI.GL aZ (by refine' CI.jG ?a ?b ?i ?l ?c ?k;(case a | b | i | l | c | k=>(try dsimp only[L2.fC]);k_is)) Tx.pLa rfl) (λ_ h=>nomatch h))⟩, ?_⟩
  iterate 16 refine CI.fc (by refine' CI.Sv KX G ?a;(case a=>k_is)) ?_
  exact λ_ h=>nomatch h
