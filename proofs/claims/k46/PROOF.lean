import PyProof.Rows.All
import Wide.All
import OpenK.AllK
import Wide.FinOn
import Lean
import PyProof.EqAt
import PyProof.EqKinds
import PyProof.TupleCall
import KE.KDictList
import KE.KDictOf
import PyProof.AttrMissHeap
import OpenK.KOwn
import PyProof.NsDelKeeps
import KE.KIsAll
import PyProof.ExcArgsOwn
import PyProof.ExcAttrAll.ValueError
import PyProof.ExcClass3
import PyProof.ExcInit
import PyProof.Rows.MatchSeqLen
import KE.KIntText
import PyProof.NeData
import KE.KStateDown
import PySem.Challenge.RW_canonwright_k46_whole_far_lists
open List renaming length_map->nA,getElem?_eq_getElem->XC,length_append->gC,replicate->NB,map_cons->CB,getElem?_eq_some_iff->eE,mem_singleton->dD,size_toArray->UC,mem_cons_of_mem->RD,length_cons->kD,map_append->VC,getElem?_map->MD,all_cons->xC,range->UB,getD_eq_getElem?_getD->sH,getElem?_set_ne->EF,mem_cons->pD,append_nil->kE,mem_append_left->tG,all_eq_true->iF,mem_cons_self->wG,mem_map->SD,mem_append_right->TH,take_of_length_le->eJ,mem_append->eG,getElem?_cons_zero->ZJ,mem_of_getElem?->fJ,append_assoc->UH,getElem?_set_self->iL,length_set->vH,lookup_cons->AI,length_singleton->AM,getElem?_eq_none->BM,getElem?_append_left->KP,mem_range->EI,length_take->bK,length_drop->cK,getElem?_range->CM,length_range->lL,getElem?_append_right->QR,replicate_succ->PN,sum_cons->jJ,length_nil->mL,filter_append->EN,length->PH,mem_filter->qM,drop_eq_getElem_cons->KU,zip_cons_cons->lP,flatten_cons->mP,nodup_append->oP,find?_cons->GN,length_filter_le->LU,foldl_cons->qP,range_succ->vP,lookup->cL,map_nil->sM,any_cons->KN,map_congr_left->OU,length_eq_zero_iff->mY,take_length->KR,take_succ->zP,getElem_mem->LR,map_map->NN,nodup_cons->NR,take_add_one->VU,take_succ_cons->sY,forIn_cons->XU,getElem?_replicate->qa,append_cancel_left->xa,getElem?_cons_succ->ya,drop_zero->bV,filter_eq_nil_iff->Aa,isEmpty_iff_length_eq_zero->gp,isEmpty_iff->yY,filter_cons->zY,forall_mem_cons->Ea,mem_of_mem_take->Ha,filter_map->BY,filterMap_cons->Ja,mem_filterMap->La,take_zero->FY,set_cons_zero->Na,set_cons_succ->Oa,pairwise_cons->Pa,filter_congr->Va,map_take->IY,eq_of_mem_replicate->Cp,drop_length->Za,of_mem_zip->pb,length_replicate->Mp,dropLast_eq_take->Yp,take_append_drop->Zp,eq_nil_or_concat->aq,concat_eq_append->bq,drop_drop->xb,drop_succ_cons->pq,length_pos_iff->rq,map_drop->Gb,contains_cons->Aq,map_inj_right->Cq,map_replicate->Dq,all_nil->Qb,all_map->Rb,all_append->Yq,sum_append->Zq,foldl->dc,forIn_nil->ar,nodup_nil->jr,drop_left->lr
open PySem.W renaming Frag->fA,nsIn->WC,findIn->fG,keepIn->wH,fnOf->VH,emptyDict->EM,mroIn->SJ,hideAll_none->BR,instObj->FN,kia_one->tP,plainGet->GR,codeIn->yP,hideAll->MR,mg_of->FP,hasDictIn->TU,of_hideAll->tY,callWith_K->uY,makesIn->AY,hideAll_get->Ia,plainGet_of->Ka,isFn->fV,lookIn->DY,methodObj->Ra,plainOver->Sa,OpenLaw->lV,cellsFrom_some->Ip,takerIn->jb,methodCall_KW->Lp,excIn->Fb,specialIn->Kq,handedIn->Nq,kin_not->Vq,takesIn->Wq,WalkO->Wb,isIn->xr
open PySem.Str renaming ofString->wA
open PySem renaming wpAny_bind->rA,Value->eA,wpAny_pure->kB,Str->bA,Shared->EA,Addr->gA,mainGlobals->TB,wpAny->sA,Expr->xA,starEach->bC,Stmt->XA,foldedSetIterable->aK,compareOp->nF,wpAny_truthy_bool->DM,wpAny_newObj_type->HM,wpAny_callSpecial?_slot->zR,Program->bE,wpAny_field->xI,wpAny_mono->QH,assignEach->RH,behindInMarks->aL,Heap->JB,World->IC,wpAny_loadPart'->HN,bootBuiltins->bL,wpAny_Call_Name_kw->DR,wpAny_passesOwn->pP,binaryOp->rH,wpAny_holding->JN,mem_of_lookup->MU,backTo->fF,FuncData->SH,wpAny_call_entry->HR,wpAny_typeNameOfWhole_keyiter->Y9,wpAny_setField_rec->QU,ExceptHandler->DP,wpAny_pyIter_list->SU,PassesOwn->eL,codeAny_mono->GP,Around->sG,NameKind->WJ,wpAny_typeNameOf_keyiter->oa,wpAny_execs_nil->WU,sizeLine_eq->IP,Env->uM,wpAny_setField->aV,Obj->DB,Scope->cG,Operator->vM,Pos->XB,codeAny->xM,Builtin->yM,wpAny_dictEntries->Ta,wpAny_pyIter_enum->Ua,wpAny_standAt->GY,IsPart->XJ,IsEnum->YJ,noFill_tuple_add->Wa,wpAny_isInstance->Ya,wpAny_pyNext_range_end->Fp,wpAny_pyIter_rangeiter->Gp,concat_meets->MY,call_meets->nV,wpAny_specialOf->qb,CmpOp->yI,codeAny_builtin->ub,wpAny_isOneOf_keyiter->Tp,getitemInPython_of_ne->Vp,wpAny_loadName_local->cq,IsRangeIter->SY,ItemsAre->wb,wpAny_pyIter_keyiter->dq,wpAny_letTemporaryGo->gq,codeAny_call_builtin->iq,wpAny_loadName_cell->jq,wpAny_isSubtype_exc->oq,seq_tuple_add->Ab,wpAny_attempt->Eb,wpAny_pyIter_range->uq,wpAny_call->UY,Within->Ib,wpAny_assign_Name->Fq,wpAny_sequenceKey->Gq,wpAny_typeOf->Lb,seqIndex_neg->Mb,slot_list_getitem->Hq,wpAny_loadPart_at->Jq,seqIndex_of->Tb,wpAny_mkInt->Vb,wpAny_Name->Xb,typeIs_int->bc,call->ic,wpAny_rule->jc,boot_len->ir,BindsTo->WY,Keyword->XY,Tok->uG
open Bool renaming and_eq_true->aB,false_ne_true->dG,or_false->gG,false_or->WG,false_eq_true->kL,or_true->xH,true_or->yH,true_and->iJ,false_and->ZK,or_eq_true->rM,not_true->MN,not_false->BP,not_eq_true->xY,or_eq_false_iff->Ba,eq_iff_iff->CY,and_true->HY,and_false->vb,decide_and->Uq
open Option.some renaming injEq->eC,inj->rE
open PySem.Heap renaming get?_push_of_some->jD,lt_size->yC,get?_push_size->gF,SameBut->FI,get?_update_other->AR,get?_update_self->nY,get?_none_of_le->qY,size_push->EY
open Nat renaming le_refl->zB,le_trans->vD,lt_of_lt_of_le->vG,ne_of_lt->sE,lt_succ_self->zI,zero_le->UJ,min_eq_left->xP,lt_trans->tM,lt_irrefl->CP,not_lt_zero->ZU,add_assoc->cV,pow_le_pow_right->Ga,sub_self->hV,le_succ->jV,le_of_not_lt->Xa,min_eq_right->ib,le_of_lt->JY,ne_of_gt->KY,le_of_eq->Jb,succ_mul->Nb,sub_zero->Ob,add_zero->Pb,succ_ne_self->Sq,mul_le_mul->kr
open Option renaming map_some->jF,bind_some->uH,map_eq_some_iff->zM,bind_eq_some_iff->MP,getD_none->Oq,getD_some->Rq
open Prod.mk renaming injEq->lE
open LawfulBEq renaming eq_of_beq->GC
open PyProof.Rows renaming step_dedup->gL,slot_tuple_getitem->JP,callWith_type1->JU,IntsAre->dJ,AllBare->fL,subscriptTail_builtinR->Jp,firstMet->Up,entry_tuple_getitem->lq,tupleItemsOf_->Bb,args_tuple_getitem->wq,IsTup->ON,boot_range->Yb,lt_int->sr
open Int renaming toNat_natCast->gJ,lt_of_le_of_lt->ER,emod_nonneg->uP,lt_trichotomy->FR,toNat_of_nonneg->NU,emod_lt_of_pos->RU,natCast_add->YU,fdiv_eq_ediv_of_nonneg->qp,mul_pos_of_neg_of_neg->zp,mul_neg_of_neg_of_pos->Ap,mul_neg_of_pos_of_neg->Bp,le_trans->NY,mul_zero->OY,add_emod->PY,ofNat_lt->QY,pow_pos->TY,sub_eq_add_neg->Bq,emod_eq_of_lt->Mq
open Array renaming length_toList->jL,getElem?_eq_some_iff->gY,toList_append->rY,getElem?_setIfInBounds_ne->bp,toList_inj->wY,toList->eV,getElem?_toList->Qp,forIn_toList->zq
open PySem.PyData renaming canLay0->eK,depth->TJ,canLayAll0->nP,depthAll->rP,eqvAll->LN,strOk->HP,eqv->VY
open False renaming elim->XG
open Ne renaming symm->HE
open PySem.Builtin.Slice renaming slicePlaces->iY,sliceAdjust->da,sliceApplied->vp
open List.cons renaming injEq->sP,inj->Hb
open PySem.Builtin.Tuple renaming tupleExact->jY,tupleItemsOf->aa,tupleHashOf->ia
open PySem.Builtin.List renaming listTooLong->kY
open PySem.AutoSeq1 renaming wpAny_loadPart'->lY
open PySem.Obj renaming data_mapFields->PU,isFreed_of_fields->oY,mapFields->OR,mapSeq->mV,cls_mapFields->Iq
open PySem.F renaming slot_dict_keyiterator_next->Z9,slot_enumerate_next->pY,args_tuple_add_2->ja,entry_tuple_add->ua,plainAttrs_list->wa,slot_tuple_add->za,excBase_ValueError->xp,called_enumerate->Ma,slot_dict_getitem->yp,args_enumerate_next_1->Ep,entry_enumerate_next->Kp,slot_list_append->Np,slot_list_extend->Pp,slot_dict_len->Xp,slot_list_pop->yq,slot_dict_iter->Qq,slot_int_rmul->Tq
open PySem.Builtin.SmallTypes renaming ownedTupleHandOut->Yo,ownedTupleIsFree->Zo,fitsIndex->ip
open PySem.Builtin renaming bitAnd->vY
open PySem.Around renaming under->PR,under_plainId->fq,deeper->yb
open Eq renaming trans->wM
open PySem.Value renaming isInt_shape->Qa,isInt->RY,isStrOf->mr
open Sum.inl renaming inj->iV
open PySem.Builtin.Range renaming rangeSize->Dp
open PySem.Env renaming kindOf->bb
open PySem.Code renaming isGuard->LY,isFrame->Kb,guards->Sb
open PySem.Builtin.Dict renaming showsAll->Rp
open PySem.Heap.SameBut renaming update->mq
open PySem.EntryCells renaming newEntry->nq
open PySem.SeqAt.EqAt renaming int_str->sq,str_int->tq,int_int->vq
open PySem.PassesOwn renaming looking->Lq
open PySem.SeqAt renaming rcAt_reads->Pq,EqAt->Zb
open PySem.Builtin.Dict_items renaming ownsTuple->d1a
open PySem.Paired renaming length->qr
open PyProof.Rows.IsTup renaming new->kc
open Nat.succ renaming inj->ur
open PySem.Walks renaming range->yr
open PySem.IsRange renaming new->zr
open Prod renaming ext->qc
open PySem.Heap.IsSliceOf renaming new->e1a
open PySem.W.WShape renaming has->Ar
set_option Elab.async false
set_option linter.all false
set_option maxRecDepth 100000
theorem eB:type_of% @decide_eq_false:=@decide_eq_false
theorem rB:type_of% @decide_eq_true:=@decide_eq_true
theorem QA.{u}:type_of% @if_pos.{u}:=@if_pos.{u}
theorem UA.{u}:type_of% @if_neg.{u}:=@if_neg.{u}
theorem kP.{u}:type_of% @beq_eq_false_iff_ne.{u}:=@beq_eq_false_iff_ne.{u}
theorem VJ.{u}:type_of% @beq_iff_eq.{u}:=@beq_iff_eq.{u}
theorem JR:type_of% @decide_eq_decide:=@decide_eq_decide
theorem UU:type_of% @of_decide_eq_true:=@of_decide_eq_true
set_option compiler.extract_closed false
set_option genSizeOf false
set_option bootstrap.genMatcherCode false
noncomputable section
namespace L2
open PySem PySem.Spec PyProof.Rows
abbrev Key:=Sum Int bA
noncomputable def UQ:Key->eA->Bool
 |.inl k,v=>RY k v
 |.inr x,v=>mr x v
noncomputable def iHa(w:IC):Key->Int
 |.inl k=>hashInt k
 |.inr x=>hashStr w x
theorem bM:∀{k:Key} {v:eA},UQ k v=true->(∃i t,k=Sum.inl i/\v=Value.int i t)\/(∃x t,k=Sum.inr x/\v=Value.str x t)
 |.inl i,v,h=>by
  obtain⟨t,e⟩:=Qa (k:=i) h;exact .inl ⟨i,t,rfl,e⟩
 |.inr x,v,h=>by(obtain⟨t,e⟩:=Value.isStrOf_shape h;exact .inr ⟨x,t,rfl,e⟩)
def jHa(i:Int)(t:uG):UQ (.inl i) (.int i t)=true:=by simp[UQ,RY]
def kHa(x:bA)(t:uG):UQ (.inr x) (.str x t)=true:=by simp[UQ,mr]
def mHa(a b:Int):decide ((Sum.inl a:Key)=Sum.inl b)=(a==b):=by
 by_cases e:a=b
 ·subst e;simp
 ·have h:¬(Sum.inl a:Key)=Sum.inl b:=λq=>e (iV q)
  rw[eB h];exact(kP.mpr e).symm
def pHa(a b:bA):decide ((Sum.inr a:Key)=Sum.inr b)=decide (a=b):=by
 by_cases e:a=b
 ·subst e;simp
 ·have h:¬(Sum.inr a:Key)=Sum.inr b:=λq=>e (Sum.inr.inj q)
  rw[eB h,eB e]
def nHa(a:Int)(b:bA):decide ((Sum.inl a:Key)=Sum.inr b)=false:=eB (λq=>nomatch q)
def oHa(a:bA)(b:Int):decide ((Sum.inr a:Key)=Sum.inl b)=false:=eB (λq=>nomatch q)
def XQ(prog:bE)(w:IC):PySem.KeyKind prog w Key where
 is:=UQ
 hash:=iHa w
 inj:=λv a b ha hb=>by
  rcases bM ha with ⟨i,t,rfl,rfl⟩ | ⟨x,t,rfl,rfl⟩
  ·rcases bM hb with ⟨j,u,rfl,e⟩ | ⟨y,u,rfl,e⟩
   ·injection e with e1 _;rw[e1]
   ·exact nomatch e
  ·rcases bM hb with ⟨j,u,rfl,e⟩ | ⟨y,u,rfl,e⟩
   ·exact nomatch e
   ·injection e with e1 _;rw[e1]
 byValue:=λk v h=>by
  rcases bM h with ⟨i,t,rfl,rfl⟩ | ⟨x,t,rfl,rfl⟩<;>rfl
 pyHash:=λhv h=>by
  rcases bM hv with ⟨i,t,rfl,rfl⟩ | ⟨x,t,rfl,rfl⟩
  ·exact wpAny_pyHash_int h
  ·exact wpAny_pyHash_str h
 eqBool:=λhu hv h=>by
  rcases bM hu with ⟨i,t,rfl,rfl⟩ | ⟨x,t,rfl,rfl⟩
  ·rcases bM hv with ⟨j,u,rfl,rfl⟩ | ⟨y,u,rfl,rfl⟩
   ·rw[mHa] at h;exact wpAny_eqBool_int h
   ·rw[nHa] at h;exact sq i t y u _ _ _ _ h
  ·rcases bM hv with ⟨j,u,rfl,rfl⟩ | ⟨y,u,rfl,rfl⟩
   ·rw[oHa] at h;exact tq x t j u _ _ _ _ h
   ·rw[pHa] at h;exact wpAny_eqBool_str h
 «strs»:=λk x t v h=>by
  rcases bM h with ⟨i,u,rfl,e⟩ | ⟨y,u,rfl,e⟩
  ·exact nomatch e
  ·injection e with e1 _
   subst e1;cases v<;>rfl
def kJa(prog:bE)(w:IC)(i:Int)(t:uG):(XQ prog w).is (.inl i) (.int i t)=true:=jHa i t
def lJa(prog:bE)(w:IC)(x:bA)(t:uG):(XQ prog w).is (.inr x) (.str x t)=true:=kHa x t
inductive V where
 |iA
 |bl (b:Bool)
 |int (i:Int)
 |str (x:bA)
 |ref (a:gA)
 |ty (n:String)
instance (x:V):Decidable (x=.iA):=by cases x<;>first | exact isTrue rfl | exact isFalse (λh=>nomatch h)
def aAf:V->eA->Prop
 |.iA,u=>u=Value.none
 |.bl b,u=>u=Value.bool b
 |.int i,u=>∃t,u=Value.int i t
 |.str x,u=>∃t,u=Value.str x t
 |.ref a,u=>u=Value.ref a
 |.ty n,u=>u=Value.type n
abbrev aAd:List V->List eA->Prop:=Paired aAf
theorem aAd.length(r:aAd xs us):xs.length=us.length:=qr r
def aAd.get{xs:List V}{us:List eA}{i:Nat}{x:V}(h:aAd xs us)(e:xs[i]?=some x):∃u,us[i]?=some u/\aAf x u:=by
 induction h generalizing i with
 |nil=>cases e
 |cons r t ih =>
  cases i with
  |zero=>cases e;exact⟨_,rfl,r⟩
  |succ i=>exact ih e
theorem aAd.set(r:aAf x u){xs:List V}{us:List eA}(i:Nat)(h:aAd xs us):aAd (xs.set i x) (us.set i u):=by
 induction h generalizing i with
 |nil=>exact .nil
 |cons q t ih =>
  cases i with
  |zero=>exact .cons r t
  |succ i=>exact .cons q (ih i)
def aAd.append{xs ys:List V}{us ws:List eA}(h:aAd xs us)(s:aAd ys ws):aAd (xs++ys) (us++ws):=by
 induction h with
 |nil=>exact s
 |cons r t ih=>exact .cons r ih
theorem aAd.take{xs:List V}{us:List eA}(n:Nat)(h:aAd xs us):aAd (xs.take n) (us.take n):=by
 induction h generalizing n with
 |nil=>cases n<;>exact .nil
 |cons r t ih =>
  cases n with
  |zero=>exact .nil
  |succ n=>exact .cons r (ih n)
theorem aAd.drop{xs:List V}{us:List eA}(n:Nat)(h:aAd xs us):aAd (xs.drop n) (us.drop n):=by
 induction h generalizing n with
 |nil=>cases n<;>exact .nil
 |cons r t ih =>
  cases n with
  |zero=>exact .cons r t
  |succ n=>exact ih n
def BH:Option V->Option eA->Prop
 |some v,some u=>aAf v u
 |none,none=>True
 |_,_=>False
def KV:List (J×V)->List (J×eA)->Prop:=Paired λ(p:J×V) (q:J×eA)=>p.1=q.1/\aAf p.2 q.2
noncomputable def kV:Key->V
 |.inl i=>.int i
 |.inr x=>.str x
inductive HO where
 |l (xs:List V)
 |t (xs:List V)
 |dK (kC:List (Key×V))
 |set (S:Int->Bool) (n:Nat)
 |ins (C dx:gA) (fs:List (bA×V))
 |own (x:gA)
 |xd (fs:List (bA×V))
 |met (f x:gA)
 |MB (lo hi:Int)
 |OD (o:DB) (u:HO)
 |yN (ps:Array eA)
 |ext (φ:JB->Prop)
abbrev Hp:=gA->Option HO
noncomputable def GA(H:Hp)(a:gA)(o:HO):Hp:=λb=>if b=a then some o else H b
def TC:GA H a o a=some o:=by unfold GA;rw[QA rfl]
def BB(h:b≠a):GA H a o b=H b:=by unfold GA;rw[UA h]
def T9:GA (GA H a o) a u=GA H a u:=by
 funext b;unfold GA;split<;>rfl
def pG{H:Hp}(h:H a=some o)(h':H b=none):a≠b:=by
 intro e;subst e;rw[h] at h';cases h'
section
variable(P:bE)(w:IC)
def ID(H:Hp)(h:JB)(a:gA):HO->Prop
 |.l xs=>xs.length<=sizeLine/\∃(cA:List eA) (n:Nat),aAd xs cA/\h.get? a=some { cls:=.type "list",data:=.seq cA.toArray n }
 |.t xs=>xs.length<=sizeLine/\∃cA:List eA,aAd xs cA/\ON h a cA.toArray
 |.dK kC=>kC.length<=sizeLine/\(a==sysModules)=false/\∃vs,KV kC vs/\h.DictOf (XQ P w) a vs
 |.set S n=>h.SetOf (intKind P w) a S n
 |.ins C dx fs=>H dx=some (.own a)/\fs.length<=1000/\dx≠a/\h.get? a=some (FN C dx) /\
   ∃mA,h.Ns1 dx mA/\(∀f,BH (fs.lookup f) (mA f))/\Ib mA (fs.map (·.1))
 |.own _=>∃o,h.get? a=some o
 |.xd fs=>∃mA,h.Ns1 a mA/\∀f,BH (fs.lookup f) (mA f)
 |.MB lo hi=>∃t u v,h.get? a=some { cls:=.type "range",data:=.fields #[.int lo t,.int hi u,.int 1 v] }
 |.OD o u=>h.get? a=some o/\ID H h a u
 |.yN ps=>h.get? a=some { cls:=.none,data:=.fields ps }
 |.met f x=>h.get? a=some (Ra (.ref f) (.ref x))
 |.ext φ=>φ h/\(∃o,h.get? a=some o)/\∀h1 h2:JB,φ h1->(∀o,h1.get? a=some o->h2.get? a=some o)->φ h2
def GD(H:Hp)(h:JB):Prop:=∀a o,H a=some o->ID P w H h a o
end
section
variable{o:HO}
theorem ID.lt(x:ID P w H h a o):a<h.objs.size:=by
 cases o with
 |l xs=>obtain⟨_,_,_,_,e⟩:=x;exact yC e
 |t xs=>obtain⟨_,_,_,p⟩:=x;exact p.lt
 |dK kC=>obtain⟨_,_,_,_,o,_,_,e,_⟩:=x;exact yC e
 |set S n=>obtain⟨o,_,_,_,e,_⟩:=x;exact yC e
 |ins C dx fs=>obtain⟨_,_,_,e,_⟩:=x;exact yC e
 |own y=>obtain⟨_,e⟩:=x;exact yC e
 |xd fs=>obtain⟨_,⟨_,_,_,e,_⟩,_⟩:=x;exact yC e
 |MB lo hi=>obtain⟨_,_,_,e⟩:=x;exact yC e
 |OD ob u=>obtain⟨e,_⟩:=x;exact yC e
 |yN ps=>exact yC (show h.get? a=some _ from x)
 |met f y=>exact yC (show h.get? a=some _ from x)
 |ext φ=>obtain⟨_,⟨_,e⟩,_⟩:=x;exact yC e
def ID.jH(x:ID P w H h a o)(k:∀b u,(b=a\/H b=some (.own a))->h.get? b=some u->h'.get? b=some u)
  (ho:∀b,H b=some (.own a)->H' b=some (.own a)) (ht:∀b xs,H b=some (.t xs)->H' b=some (.t xs)):ID P w H' h' a o:=by
 induction o with
 |l xs=>obtain⟨z,cA,n,r,e⟩:=x;exact⟨z,cA,n,r,k _ _ (.inl rfl) e⟩
 |t xs=>obtain⟨z,cA,r,ob,e,c⟩:=x;exact⟨z,cA,r,ob,k _ _ (.inl rfl) e,c⟩
 |dK kC=>obtain⟨z,y,vs,r,ob,es,ep,e,c⟩:=x;exact⟨z,y,vs,r,ob,es,ep,k _ _ (.inl rfl) e,c⟩
 |set S n=>obtain⟨ob,es,ep,t,e,c⟩:=x;exact⟨ob,es,ep,t,k _ _ (.inl rfl) e,c⟩
 |ins C dx fs =>
  obtain⟨d,z,ne,e,mA,⟨od,es,ep,e2,c⟩,r⟩:=x;exact⟨ho _ d,z,ne,k _ _ (.inl rfl) e,mA,⟨od,es,ep,k _ _ (.inr d) e2,c⟩,r⟩
 |own y=>obtain⟨ob,e⟩:=x;exact⟨ob,k _ _ (.inl rfl) e⟩
 |xd fs=>obtain⟨mA,⟨od,es,ep,e,c⟩,r⟩:=x;exact⟨mA,⟨od,es,ep,k _ _ (.inl rfl) e,c⟩,r⟩
 |MB lo hi=>obtain⟨t,u,v,e⟩:=x;exact⟨t,u,v,k _ _ (.inl rfl) e⟩
 |OD ob u ih=>obtain⟨e,q⟩:=x;exact⟨k _ _ (.inl rfl) e,ih q⟩
 |yN ps =>
  have e:h.get? a=some { cls:=.none,data:=.fields ps }:=x;show h'.get? a=some { cls:=.none,data:=.fields ps };exact k a _ (.inl rfl) e
 |met f y =>
  have e:h.get? a=some (Ra (.ref f) (.ref y)):=x;show h'.get? a=some (Ra (.ref f) (.ref y));exact k a _ (.inl rfl) e
 |ext φ=>obtain⟨p,⟨o,e⟩,st⟩:=x;exact⟨st _ _ p λo q=>k _ _ (.inl rfl) q,⟨o,k _ _ (.inl rfl) e⟩,st⟩
theorem GD.lt(x:GD P w H h)(e:H a=some o):a<h.objs.size:=(x a o e).lt
def GD.fresh(x:GD P w H h)(e:h.objs.size<=a):H a=none:=by
 cases q:H a with
 |none=>rfl
 |some u=>exact absurd (vG (x.lt q) e) (CP _)
def GD.kept(x:GD P w H h)(k:∀b u,h.get? b=some u->h'.get? b=some u):GD P w H h':=λa o e =>
 (x a o e).jH (λb u _ q=>k b u q) (λ_ q=>q) λ_ _ q=>q
def GD.laid(x:GD P w H h)(k:∀b u,h.get? b=some u->h'.get? b=some u)(hp:h.objs.size<=a)(new:ID P w (GA H a o) h' a o):GD P w (GA H a o) h':=λb u e=>by
 have hn:=x.fresh hp;by_cases hb:b=a
 ·subst hb;rw[TC] at e;cases e;exact new
 ·rw[BB hb] at e;exact(x b u e).jH (λc v _ q=>k c v q) (λc q=>by rw[BB (pG q hn)];exact q) λc xs q=>by rw[BB (pG q hn)];exact q
end
def Rd(H:Hp)(a:gA)(u:HO):Prop:=H a=some u\/∃o,H a=some (.OD o u)
def Rd.ok(r:Rd H a u)(x:GD P w H h):ID P w H h a u:=by
 rcases r with r | ⟨o,r⟩
 ·exact x a u r
 ·obtain⟨_,q⟩:=x a _ r;exact q
def ZR:Option HO->Prop
 |some (.l _)=>True
 |some (.dK _)=>True
 |some (.set _ _)=>True
 |some (.ins _ _ _)=>True
 |some (.ext _)=>True
 |_=>False
section
variable{P:bE}{w:IC}{H:Hp}{h h':JB}{x e:gA}{o':HO}
def GD.write(ok:GD P w H h)(mu:ZR (H x))(he:e=x\/H e=some (.own x))(k:∀b u,b≠e->h.get? b=some u->h'.get? b=some u)(AQ:∃u,h'.get? e=some u)
  (new:ID P w (GA H x o') h' x o'):GD P w (GA H x o') h':=λb u q=>by
 have a8:∀c y,H c=some (.own y)->c≠x:=λc y r z=>by subst z;rw[r] at mu;exact mu
 have mLa:∀c xs,H c=some (.t xs)->c≠x:=λc xs r z=>by subst z;rw[r] at mu;exact mu
 by_cases hb:b=x
 ·subst hb;rw[TC] at q;cases q;exact new
 ·rw[BB hb] at q;by_cases ML:b=e
  ·have q':H b=some (.own x):=by
    rcases he with z | z
    ·exact absurd (ML.trans z) hb
    ·rw[ML];exact z
   rw[q] at q';cases q';obtain⟨v,hv⟩:=AQ;exact⟨v,by rw[ML];exact hv⟩
  ·refine(ok b u q).jH (λc v hc r=>k c v ?_ r) (λc r=>by rw[BB (a8 c b r)];exact r) λc xs r=>by rw[BB (mLa c xs r)];exact r
   rcases hc with rfl | hc
   ·exact ML
   ·rintro rfl
    rcases he with z | z
    ·exact a8 c b hc z
    ·rw[hc] at z;cases z;exact hb rfl
end
structure Un(fs ex:List gA)(H H':Hp)(h h':JB):Prop where
 keep:∀b o,h.get? b=some o->H b=none->b ∉ fs->b ∉ ex->h'.get? b=some o
 slot:∀b o,h.get? b=some o->H b=none->b∈fs->b ∉ ex->∃sl,h'.get? b=some { o with slots:=sl }
 free:∀b o,h.get? b=some o->H b=none->b ∉ ex->H' b=none
 there:∀b o,h.get? b=some o->b ∉ ex->∃o',h'.get? b=some o'
 BN:∀b xs,H b=some (.t xs)->H' b=some (.t xs)
 HL:∀b o u,H b=some (.OD o u)->H' b=some (.OD o u)
 zN:∀b ps,H b=some (.yN ps)->∃more,H' b=some (.yN (ps++more))
section
variable{o:HO}
def Un.any(u:Un fs ex H H1 h h1)(q:h.get? b=some ob)(n:H b=none)(hx:b ∉ ex):∃sl,h1.get? b=some { ob with slots:=sl }:=by
 by_cases hb:b∈fs
 ·exact u.slot b ob q n hb hx
 ·exact⟨ob.slots,u.keep b ob q n hb hx⟩
def Un.kept(k:∀b u,h.get? b=some u->h'.get? b=some u):Un fs ex H H h h' :=
 ⟨λb ob q _ _ _=>k b ob q,λb ob q _ _ _=>⟨ob.slots,k b ob q⟩,λ_ _ _ n _=>n,λb ob q _=>⟨ob,k b ob q⟩,λ_ _ q=>q,λ_ _ _ q=>q,λ_ ps q=>⟨#[],by rw[q];simp⟩⟩
def Un.refl:Un fs ex H H h h:=Un.kept λ_ _ q=>q
def Un.laid(k:∀b u,h.get? b=some u->h'.get? b=some u)(hp:h.objs.size<=a)(hn:H a=none):Un fs ex H (GA H a o) h h' where
 keep:=λb u q _ _ _=>k b u q
 slot:=λb u q _ _ _=>⟨u.slots,k b u q⟩
 free:=λb u q n _=>by rw[BB (sE (vG (yC q) hp))];exact n
 there:=λb u q _=>⟨u,k b u q⟩
 BN:=λb xs q=>by rw[BB (pG q hn)];exact q
 HL:=λb u xs q=>by rw[BB (pG q hn)];exact q
 zN:=λb ps q=>⟨#[],by rw[BB (pG q hn),q];simp⟩
def Un.write(mu:ZR (H x))(he:e=x\/H e=some (.own x))(k:∀b u,b≠e->h.get? b=some u->h'.get? b=some u)(AQ:∃u,h'.get? e=some u):Un fs ex H (GA H x o) h h':=by
 have hx:∀b,H b=none->b≠x:=λb n z=>by subst z;rw[n] at mu;exact mu
 have hb:∀b,H b=none->b≠e:=λb n z=>by
  subst z;rcases he with r | r
  ·exact hx b n r
  ·rw[n] at r;cases r
 have hm:∀b u,H b=some u->¬ZR (some u)->b≠x:=λb u q nm z=>by subst z;rw[q] at mu;exact nm mu
 refine⟨λb u q n _ _=>k b u (hb b n) q,λb u q n _ _=>⟨u.slots,k b u (hb b n) q⟩,λb u q n _=>by rw[BB (hx b n)];exact n,λb u q _=>?_,
  λb xs q=>by rw[BB (hm b _ q λz=>z)];exact q,λb u xs q=>by rw[BB (hm b _ q λz=>z)];exact q,λb ps q=>⟨#[],by rw[BB (hm b _ q λz=>z),q];simp⟩⟩
 by_cases ML:b=e
 ·subst ML;exact AQ
 ·exact⟨u,k b u ML q⟩
end
noncomputable def WX(h:JB)(H:Hp):List gA:=(UB h.objs.size).filter λa=>(H a).isSome
def QL(h:JB)(H:Hp):JB:=MR h (WX h H)
def yAa(h:JB)(H:Hp):(QL h H).objs.size=h.objs.size:=PySem.W.hideAll_size _ _
def xAa(e:h.get? b=some o)(n:H b=none):(QL h H).get? b=some o :=
 Ia _ e λhm=>by(have q:(H b).isSome=true:=(qM.mp hm).2;rw[n] at q;simp at q)
def rLa(e:(QL h H).get? b=some o):h.get? b=some o/\H b=none:=by
 have e':h.get? b=some o:=tY (WX h H) e;refine⟨e', ?_⟩
 cases q:H b with
 |none=>rfl
 |some x =>
  have hm:b∈WX h H:=qM.mpr ⟨EI.mpr (yC e'),by simp[q]⟩;have z:(QL h H).get? b=none:=BR (WX h H) hm;rw[z] at e;cases e
noncomputable def lu(g h:JB)(L:gA):List (gA×DB):=(UB h.objs.size).filterMap λa=>if a=L\/(g.get? a).isSome=true then none else(h.get? a).map λo=>(a,o)
def aAn(g h:JB)(L d:gA):List (gA×DB):=(lu g h L).filter λp=>decide (p.1≠d)
structure Mod(K:fA)(mg:bA->Option eA)(base:JB):Prop where
 kin:K.In base
 glob:base.Ns TB mg
 vB:∃mb,base.Ns builtinsNs mb/\∀x:bA,x≠"__name__"->mb x=bL x
 nolimit:base.NoLimit
structure Cx where
 prog:bE
 w:IC
 K:fA
 mg:bA->Option eA
 base:JB
 A:sG
 N:List bA
 s₀:EA
 H₀:Hp
 env:Env
 outer:List Env
 stack:List Env
 ex:List gA
 fn:bA->Bool
 calm:Bool
 pn:List (gA×DB)
 xe:eA->EA->Prop
def iE(l:List Env):List gA:=l.filterMap (·.frame)
abbrev Cx.fs(X:Cx):List gA:=iE X.outer
def cQ(sc:cG)(x:bA):Prop:=sc.names.lookup x=some .local\/sc.names.lookup x=some .cell\/sc.names.lookup x=some .free
def Loc(sc:cG)(x:bA):Prop:=sc.names.lookup x=some .local\/sc.names.lookup x=some .cell
def aA6(env:Env)(h:JB)(m:bA->Option eA)(x:bA)(u:eA):Prop :=
 (env.kindOf x=some .local/\m x=some u)\/((env.kindOf x=some .cell\/env.kindOf x=some .free)/\∃c,env.cells.lookup x=some c/\h.IsCell c (some u))
structure Cx.Ok(X:Cx):Prop where
 mod:Mod X.K X.mg X.base
 kind:X.env.scope.kind=.function
 glob:X.env.globals=TB
 vB:X.env.builtins=builtinsNs
 above:X.s₀.heap.objs.size<=X.env.locals
 inj:∀x y c,X.env.cells.lookup x=some c->X.env.cells.lookup y=some c->x=y
 has:∀x,(X.env.kindOf x=some .cell\/X.env.kindOf x=some .free)->∃c,X.env.cells.lookup x=some c
 WM:∀x c,X.fn x=true->X.env.cells.lookup x=some c->X.s₀.heap.objs.size<=c
 hd:X.calm=true->X.A.handled=none
 frames:X.A.frames=some X.stack
 NH:X.stack=X.outer\/(X.stack=X.env::X.outer/\X.env.frame=some X.env.locals)
 BS:∀b∈X.ex,b≠X.env.locals/\∀x c,X.env.cells.lookup x=some c->c≠b
 bs:∀b o,X.base.get? b=some o->X.s₀.heap.get? b=some o/\X.H₀ b=none
 qJ:X.base.objs.size<=X.s₀.heap.objs.size
 lN:∀b o,X.base.get? b=some o->b ∉ X.ex
 rO:∀b∈X.ex,b ∉ X.fs
 BG:X.s₀.heap.FunFrames X.base X.outer
 tK:∀b∈X.fs,X.H₀ b=none
structure dA(X:Cx)(aA:List (gA×DB))(Y:List (Option V))(H:Hp)(s:EA):Prop where
 ok:X.Ok
 os:s.os=X.s₀.os
 bare:fL s.gens
 base:Un X.fs X.ex X.H₀ H X.s₀.heap s.heap
 loc:∃m,s.heap.Ns X.env.locals m/\∀(i:Nat) (x:bA) (v:V),X.N[i]?=some x->Y[i]?=some (some v)->cQ X.env.scope x->∃u,aAf v u/\aA6 X.env s.heap m x u
 cell:∀x c,X.env.cells.lookup x=some c->∃v,s.heap.IsCell c v
 free:H X.env.locals=none
 FH:∀x c,X.env.cells.lookup x=some c->H c=none
 pin:∀p∈X.pn++aA,s.heap.get? p.1=some p.2/\H p.1=none/\p.1≠X.env.locals/\p.1 ∉ X.fs/\∀v,p.2.data≠.cell v
 KA:GD X.prog X.w H s.heap
 len:Y.length=X.N.length
section
variable{X:Cx}
def Cx.Ok.eLa(ok:X.Ok)(e:X.base.get? b=some o):b ∉ X.fs:=λhb=>by
 have:=(ok.BG.mem hb).1
 rw[e] at this;cases this
theorem dA.bs(I:dA X aA Y H s):∀b o,X.base.get? b=some o->s.heap.get? b=some o/\H b=none:=λb o e =>
 ⟨I.base.keep b o (I.ok.bs b o e).1 (I.ok.bs b o e).2 (I.ok.eLa e) (I.ok.lN b o e),I.base.free b o (I.ok.bs b o e).1 (I.ok.bs b o e).2 (I.ok.lN b o e)⟩
def dA.bk(I:dA X aA Y H s):∀b o,X.base.get? b=some o->s.heap.get? b=some o:=λb o e=>(I.bs b o e).1
theorem dA.mod(I:dA X aA Y H s):Mod X.K X.mg X.base:=I.ok.mod
def dA.jE(I:dA X aA Y H s):X.K.In s.heap:=I.ok.mod.kin.keeps I.bk
theorem dA.lt(I:dA X aA Y H s):X.env.locals<s.heap.objs.size:=let ⟨_,hn,_⟩:=I.loc;hn.lt
def dA.sz(I:dA X aA Y H s):X.s₀.heap.objs.size<=s.heap.objs.size:=vD I.ok.above (JY I.lt)
def dA.gLa(I:dA X aA Y H s)(h:s.heap.objs.size<=a):a ∉ X.fs:=λhb=>by
 obtain⟨_,o,ho,_⟩:=I.ok.BG.mem hb;exact absurd (vG (yC ho) (vD I.sz h)) (CP _)
def dA.kO(I:dA X aA Y H s):∀x c,X.env.cells.lookup x=some c->c≠X.env.locals:=λx c e z=>by
 obtain⟨v,o,ho,hd⟩:=I.cell x c e;obtain⟨m,⟨o',es,ep,HJ,sF,_⟩,_⟩:=I.loc;rw[z,HJ] at ho;cases ho;rw[sF] at hd;cases hd
theorem dA.BG(I:dA X aA Y H s):s.heap.FunFrames X.base X.outer:=by
 have all:∀(l:List Env),(∀b∈iE l,b∈X.fs)->X.s₀.heap.FunFrames X.base l->s.heap.FunFrames X.base l:=by
  intro l
  induction l with
  |nil=>intro _ _;trivial
  |cons env r ih =>
   intro hs hl;obtain⟨hk,⟨L,o,hf,hn,ho,hd⟩,hr⟩:=hl;have hL:L∈X.fs:=hs L (by unfold iE;rw[Ja,hf];exact wG);obtain⟨sl,e⟩:=I.base.slot L o ho (I.ok.tK L hL) hL λz=>I.ok.rO L z hL
   exact⟨hk,⟨L,_,hf,hn,e,hd⟩,ih (λb hb=>hs b (by unfold iE;rw[Ja,hf];exact RD _ hb)) hr⟩
 exact all X.outer (λ_ hb=>hb) I.ok.BG
theorem dA.stack(I:dA X aA Y H s):s.heap.FunFrames X.base X.stack:=by
 rcases I.ok.NH with e | ⟨e,hf⟩
 ·rw[e];exact I.BG
 ·rw[e];obtain⟨m,hn,_⟩:=I.loc;refine .cons (by rw[I.ok.kind];decide) hf hn ?_ I.BG;exact qY (vD I.ok.qJ I.ok.above)
def dA.QX(I:dA X aA Y H s):∀b∈iE X.stack,b∈X.env.locals::X.fs:=λb hb=>by
 rcases I.ok.NH with e | ⟨e,hf⟩
 ·rw[e] at hb;exact RD _ hb
 ·rw[e] at hb;unfold iE at hb;rw[Ja,hf] at hb;exact hb
def dA.p9(I:dA X aA Y H s):∀b∈iE X.stack,H b=none:=λb hb=>by
 rcases pD.mp (I.QX b hb) with e | hb
 ·rw[e];exact I.free
 ·obtain⟨_,o,ho,_⟩:=I.ok.BG.mem hb;exact I.base.free b o ho (I.ok.tK b hb) λz=>I.ok.rO b z hb
def dA.step{ch:List gA}(I:dA X aA Y H s)
  (wK:∀b∈ch,(b∈X.ex\/X.s₀.heap.get? b=none)/\b≠X.env.locals/\(∀x c,X.env.cells.lookup x=some c->c≠b)/\∀p∈X.pn++aA,p.1≠b)
  (keep:∀b o,b≠X.env.locals->b ∉ X.fs->b ∉ ch->s.heap.get? b=some o->H b=none->h'.get? b=some o)
  (slot:∀b o,b≠X.env.locals->b∈X.fs->b ∉ ch->s.heap.get? b=some o->H b=none->∃sl,h'.get? b=some { o with slots:=sl }) (free:∀b o,b ∉ ch->s.heap.get? b=some o->H b=none->H' b=none)
  (there:∀b o,b ∉ ch->s.heap.get? b=some o->∃o',h'.get? b=some o')
  (BN:∀b xs,H b=some (.t xs)->H' b=some (.t xs)) (HL:∀b o u,H b=some (.OD o u)->H' b=some (.OD o u)) (zN:∀b ps,H b=some (.yN ps)->∃more,H' b=some (.yN (ps++more)))
  (ns:∀m,s.heap.Ns X.env.locals m->h'.Ns X.env.locals m) (KA:GD X.prog X.w H' h') (hg:fL g') :
  dA X aA Y H' { s with heap:=h',gens:=g',drawn:=d',toks:=t' }:=by
 have ij:∀b o,X.s₀.heap.get? b=some o->b≠X.env.locals:=λb o e=>sE (vG (yC e) I.ok.above)
 have kX:∀b o,X.s₀.heap.get? b=some o->b ∉ X.ex->b ∉ ch:=λb o e hx hb=>by
  rcases(wK b hb).1 with z | z
  ·exact hx z
  ·rw[z] at e;cases e
 have cellK:∀x c,X.env.cells.lookup x=some c->∀v,s.heap.IsCell c v->h'.IsCell c v:=λx c e v hz=>by
  obtain⟨o,ho,hd⟩:=hz;have YT:c ∉ ch:=λz=>(wK c z).2.2.1 x c e rfl
  by_cases hc:c∈X.fs
  ·obtain⟨sl,q⟩:=slot c o (I.kO x c e) hc YT ho (I.FH x c e);exact⟨_,q,hd⟩
  ·exact⟨o,keep c o (I.kO x c e) hc YT ho (I.FH x c e),hd⟩
 refine⟨I.ok,I.os,hg,⟨λb o e n hb hx=>?_,λb o e n hb hx=>?_,λb o e n hx=>?_,λb o e hx=>?_,λb xs e=>BN b xs (I.base.BN b xs e),λb o xs e=>HL b o xs (I.base.HL b o xs e),λb ps e=>?_⟩, ?_,λx c e=>?_, ?_,λx c e=>?_,λp hp=>?_,KA,I.len⟩
 ·exact keep b o (ij b o e) hb (kX b o e hx) (I.base.keep b o e n hb hx) (I.base.free b o e n hx)
 ·obtain⟨sl,e1⟩:=I.base.slot b o e n hb hx;obtain⟨Kl,e2⟩:=slot b _ (ij b o e) hb (kX b o e hx) e1 (I.base.free b o e n hx);exact⟨Kl,e2⟩
 ·obtain⟨o',e1⟩:=I.base.there b o e hx;exact free b o' (kX b o e hx) e1 (I.base.free b o e n hx)
 ·obtain⟨o',e1⟩:=I.base.there b o e hx;exact there b o' (kX b o e hx) e1
 ·obtain⟨m1,e1⟩:=I.base.zN b ps e;obtain⟨m2,e2⟩:=zN b _ e1;exact⟨m1++m2,by rw[e2,Array.append_assoc]⟩
 ·obtain⟨m,hn,hl⟩:=I.loc;refine⟨m,ns m hn,λi x v e1 e2 e3=>?_⟩;obtain⟨u,r,l⟩:=hl i x v e1 e2 e3;refine⟨u,r, ?_⟩;rcases l with l | ⟨k,c,e,z⟩
  ·exact .inl l
  ·exact .inr ⟨k,c,e,cellK x c e _ z⟩
 ·obtain⟨v,z⟩:=I.cell x c e;exact⟨v,cellK x c e v z⟩
 ·obtain⟨m,⟨o,_,_,ho,_⟩,_⟩:=I.loc;exact free _ o (λz=>(wK _ z).2.1 rfl) ho I.free
 ·obtain⟨v,o,ho,hd⟩:=I.cell x c e;exact free c o (λz=>(wK c z).2.2.1 x c e rfl) ho (I.FH x c e)
 ·obtain⟨e,n,ne,nf,d⟩:=I.pin p hp;have YT:p.1 ∉ ch:=λz=>(wK p.1 z).2.2.2 p hp rfl
  exact⟨keep p.1 p.2 ne nf YT e n,free p.1 p.2 YT e n,ne,nf,d⟩
def dA.un{t':Nat}(I:dA X aA Y H s)(u:Un X.fs [] H H' s.heap h')(KA:GD X.prog X.w H' h'):dA X aA Y H' { s with heap:=h',toks:=t' }:=by
 obtain⟨m,⟨o,es,ep,ho,r⟩,_⟩:=id I.loc;obtain⟨sl,hL⟩:=u.any ho I.free (by simp)
 exact I.step (g':=s.gens) (d':=s.drawn) (ch:=[]) (λ_ z=>nomatch z) (λb o _ hb _ e n=>u.keep b o e n hb (by simp)) (λb o _ hb _ e n=>u.slot b o e n hb (by simp)) (λb o _ e n=>u.free b o e n (by simp)) (λb o _ e=>u.there b o e (by simp)) u.BN u.HL u.zN (λm' hm=>by
  obtain⟨o',E2,C2,HJ,r'⟩:=hm;rw[ho] at HJ;cases HJ
  exact⟨_,E2,C2,hL,r'⟩) KA I.bare
def dA.call(I:dA X aA Y H s)(u:Un (iE X.stack) ch H H' s.heap h')(KA:GD X.prog X.w H' h')(hg:fL g')
  (wK:∀b∈ch,(b∈X.ex\/X.s₀.heap.get? b=none)/\b≠X.env.locals/\(∀x c,X.env.cells.lookup x=some c->c≠b)/\∀p∈X.pn++aA,p.1≠b) :
  dA X aA Y H' { s with heap:=h',gens:=g',drawn:=d',toks:=t' }:=by
 obtain⟨m,⟨o,es,ep,ho,r⟩,_⟩:=id I.loc;obtain⟨sl,hL⟩:=u.any ho I.free λz=>(wK _ z).2.1 rfl
 exact I.step wK (λb o hL hb hc e n=>u.keep b o e n (λz=>(pD.mp (I.QX b z)).elim hL hb) hc) (λb o _ _ hc e n=>u.any e n hc) (λb o hc e n=>u.free b o e n hc) (λb o hc e=>u.there b o e hc) u.BN u.HL u.zN (λm' hm=>by
  obtain⟨o',E2,C2,HJ,r'⟩:=hm;rw[ho] at HJ;cases HJ
  exact⟨_,E2,C2,hL,r'⟩) KA hg
def dA.turned{it:gA}(I:dA X aA Y H s)(k:∀b o,b≠it->s.heap.get? b=some o->h'.get? b=some o)(hn:H it=none)(hL:it≠X.env.locals)
  (h1:it∈X.ex\/X.s₀.heap.get? it=none) (h2:∀x c,X.env.cells.lookup x=some c->c≠it) (h3:∀p∈X.pn++aA,p.1≠it):dA X aA Y H { s with heap:=h',toks:=t' }:=by
 have kj:∀b u,H b=some u->b≠it:=λb u e z=>by rw[z,hn] at e;cases e
 refine I.step (g':=s.gens) (d':=s.drawn) (ch:=[it]) (λb hb=>?_) (λb o _ _ hc e _=>k b o (λz=>hc (by simp[z])) e) (λb o _ _ hc e _=>⟨o.slots,k b o (λz=>hc (by simp[z])) e⟩) (λ_ _ _ _ n=>n)
  (λb o hc e=>⟨o,k b o (λz=>hc (by simp[z])) e⟩) (λ_ _ e=>e) (λ_ _ _ e=>e) (λb ps e=>⟨#[],by rw[e];simp⟩) (λm hm=>?_) (λb u e=>?_) I.bare
 ·have e:b=it:=by simpa using hb
  subst e;exact⟨h1,hL,h2,h3⟩
 ·obtain⟨o,es,ep,ho,r⟩:=hm;exact⟨o,es,ep,k _ o (HE hL) ho,r⟩
 ·refine(I.KA b u e).jH (λc v hc q=>k c v ?_ q) (λ_ q=>q) λ_ _ q=>q
  rcases hc with z | z
  ·rw[z];exact kj b u e
  ·exact kj c _ z
def dA.tok(I:dA X aA Y H s)(t:Nat):dA X aA Y H { s with toks:=t }:=I.un (h':=s.heap) (t':=t) Un.refl I.KA
theorem dA.kept(I:dA X aA Y H s)(k:∀b u,s.heap.get? b=some u->h'.get? b=some u):dA X aA Y H { s with heap:=h',toks:=t' }:=I.un (Un.kept k) (I.KA.kept k)
theorem dA.laid(I:dA X aA Y H s)(k:∀b u,s.heap.get? b=some u->h'.get? b=some u)(hp:s.heap.objs.size<=a)(new:ID X.prog X.w (GA H a o) h' a o) :
  dA X aA Y (GA H a o) { s with heap:=h',toks:=t' }:=I.un (Un.laid k hp (I.KA.fresh hp)) (I.KA.laid k hp new)
theorem dA.write(I:dA X aA Y H s)(mu:ZR (H x))(he:e=x\/H e=some (.own x))(k:∀b u,b≠e->s.heap.get? b=some u->h'.get? b=some u)(AQ:∃u,h'.get? e=some u)
  (new:ID X.prog X.w (GA H x o) h' x o):dA X aA Y (GA H x o) { s with heap:=h',toks:=t' }:=I.un (Un.write mu he k AQ) (I.KA.write mu he k AQ new)
def dA.pk(I:dA X aA Y H s)(h:∀p∈DF,s.heap.get? p.1=some p.2/\H p.1=none/\p.1≠X.env.locals/\p.1 ∉ X.fs/\∀v,p.2.data≠.cell v):dA X DF Y H s :=
 ⟨I.ok,I.os,I.bare,I.base,I.loc,I.cell,I.free,I.FH,λp hp=>(eG.mp hp).elim (λz=>I.pin p (tG _ z)) (h p),I.KA,I.len⟩
def pj{N:List bA}(hN:N.Nodup){i j:Nat}(a:N[i]?=some x)(b:N[j]?=some x):i=j:=by
 obtain⟨h1,e1⟩:=eE.mp a;obtain⟨h2,e2⟩:=eE.mp b;exact(List.getElem_inj hN).mp (e1.trans e2.symm)
def qm(I:dA X aA Y H s)(hN:X.N.Nodup)(hi:X.N[i]?=some x)(hx:Loc X.env.scope x)(r:aAf v u)
  (h:∀s',dA X aA (Y.set i (some v)) H s'->(∃a,FI a s.heap s'.heap/\(a=X.env.locals\/X.env.cells.lookup x=some a))->Q () s') (hf:X.fn x=true\/X.env.scope.names.lookup x=some .local:=by first | exact .inl rfl | exact .inr rfl | assumption):sA M A (storeName X.env x u) Q E s:=by
 obtain⟨m,hn,hl⟩:=id I.loc;have gAa:(X.env.scope.kind==.class||(X.env.scope.kind==.module&&X.env.locals != X.env.globals))=false:=by rw[I.ok.kind];rfl
 have cg:i<Y.length:=by rw[I.len];exact(eE.mp hi).1
 have kO:=I.kO
 have tracked:∀{a:gA} {h':JB},(∃o,s.heap.get? a=some o/\H a=none)->FI a s.heap h'->GD X.prog X.w H h':=λ{a h'} ha hs b ob e=>by
  obtain⟨_,_,ag⟩:=ha;refine(I.KA b ob e).jH (λc w' hc q=>(hs.2 c ?_).trans q) (λ_ q=>q) λ_ _ q=>q
  rintro rfl
  rcases hc with rfl | hc
  ·rw[ag] at e;cases e
  ·rw[ag] at hc;cases hc
 rcases hx with hk | hk
 ·refine wpAny_storeName_local hk hn (λh' hn' hs=>?_) gAa;obtain⟨oL,_,_,hoL,_⟩:=id hn;refine h _ ⟨I.ok,I.os,I.bare,⟨λb o e n hb hx=>?_,λb o e n hb hx=>?_,I.base.free,λb o e hx=>?_,I.base.BN,I.base.HL,I.base.zN⟩,⟨_,hn',λj y v' e1 e2 e3=>?_⟩,λy c e=>?_,I.free,I.FH,λp hp=>?_,tracked ⟨oL,hoL,I.free⟩ hs,by simpa using I.len⟩ ⟨_,hs,.inl rfl⟩
  ·exact(hs.2 b (sE (vG (yC e) I.ok.above))).trans (I.base.keep b o e n hb hx)
  ·obtain⟨sl,e1⟩:=I.base.slot b o e n hb hx;exact⟨sl,(hs.2 b (sE (vG (yC e) I.ok.above))).trans e1⟩
  ·obtain⟨o',e1⟩:=I.base.there b o e hx;exact⟨o',(hs.2 b (sE (vG (yC e) I.ok.above))).trans e1⟩
  ·by_cases hj:j=i
   ·subst hj;rw[hi] at e1;cases e1;rw[iL cg] at e2;cases e2;exact⟨u,r,.inl ⟨hk,by simp⟩⟩
   ·rw[EF (HE hj)] at e2;obtain⟨u',r',q⟩:=hl j y v' e1 e2 e3;refine⟨u',r', ?_⟩;rcases q with ⟨k,e⟩ | ⟨k,c,e,z⟩
    ·refine .inl ⟨k, ?_⟩
     have:y≠x:=λe=>hj (pj hN e1 (e ▸ hi))
     simp[this,e]
    ·exact .inr ⟨k,c,e,z.sameBut hs (kO y c e)⟩
  ·obtain⟨w',z⟩:=I.cell y c e;exact⟨w',z.sameBut hs (kO y c e)⟩
  ·obtain⟨e,n,ne,nf,d⟩:=I.pin p hp;exact⟨(hs.2 p.1 ne).trans e,n,ne,nf,d⟩
 ·have WB:X.fn x=true:=by
   rcases hf with z | z
   ·exact z
   ·rw[z] at hk;cases hk
  obtain⟨c,hc⟩:=I.ok.has x (.inl hk);obtain⟨w',z⟩:=I.cell x c hc;refine wpAny_storeName_cell I.ok.kind hk hc z (λh' iI hs=>?_);obtain⟨oc,uF,tBa⟩:=id z;refine h { s with heap:=h' } ⟨I.ok,I.os,I.bare,⟨λb o e n hb hx=>?_,λb o e n hb hx=>?_,I.base.free,λb o e hx=>?_,I.base.BN,I.base.HL,I.base.zN⟩,⟨m,hn.sameBut hs (HE (kO x c hc)),λj y v' e1 e2 e3=>?_⟩,λy c' e=>?_,I.free,I.FH,λp hp=>?_,tracked ⟨oc,uF,I.FH x c hc⟩ hs,by simpa using I.len⟩ ⟨c,hs,.inr hc⟩
  ·exact(hs.2 b (sE (vG (yC e) (I.ok.WM x c WB hc)))).trans (I.base.keep b o e n hb hx)
  ·obtain⟨sl,e1⟩:=I.base.slot b o e n hb hx;exact⟨sl,(hs.2 b (sE (vG (yC e) (I.ok.WM x c WB hc)))).trans e1⟩
  ·obtain⟨o',e1⟩:=I.base.there b o e hx;exact⟨o',(hs.2 b (sE (vG (yC e) (I.ok.WM x c WB hc)))).trans e1⟩
  ·by_cases hj:j=i
   ·subst hj;rw[hi] at e1;cases e1;rw[iL cg] at e2;cases e2;exact⟨u,r,.inr ⟨.inl hk,c,hc,iI⟩⟩
   ·rw[EF (HE hj)] at e2;obtain⟨u',r',q⟩:=hl j y v' e1 e2 e3;refine⟨u',r', ?_⟩;rcases q with q | ⟨k,c',e,z'⟩
    ·exact .inl q
    ·refine .inr ⟨k,c',e,z'.sameBut hs ?_⟩
     rintro rfl
     exact hj (pj hN e1 (I.ok.inj _ _ _ e hc ▸ hi))
  ·by_cases zQ:c'=c
   ·subst zQ;exact⟨_,iI⟩
   ·obtain⟨w2,z2⟩:=I.cell y c' e;exact⟨w2,z2.sameBut hs zQ⟩
  ·obtain⟨e,n,ne,nf,d⟩:=I.pin p hp;refine⟨(hs.2 p.1 ?_).trans e,n,ne,nf,d⟩;intro q;rw[q,uF] at e;have q':oc=p.2:=rE e;exact d w' (by rw[<- q'];exact tBa)
def r9(I:dA X aA Y H s)(hN:X.N.Nodup)(hi:X.N[i]?=some x)(hx:Loc X.env.scope x)(r:aAf v u)
  (h:∀s',dA X aA (Y.set i (some v)) H s'->Q () s') (hf:X.fn x=true\/X.env.scope.names.lookup x=some .local:=by first | exact .inl rfl | exact .inr rfl | assumption):sA M A (storeName X.env x u) Q E s :=
 qm I hN hi hx r (λs' I' _=>h s' I') hf
def dA.Fd(I:dA X aA Y H s)(ho:s'.os=s.os)(u:Un (iE X.stack) ch H H' s.heap s'.heap)(KA:GD X.prog X.w H' s'.heap)(hg:fL s'.gens)
  (wK:∀b∈ch,(b∈X.ex\/X.s₀.heap.get? b=none)/\b≠X.env.locals/\(∀x c,X.env.cells.lookup x=some c->c≠b)/\∀p∈X.pn++aA,p.1≠b):dA X aA Y H' s':=by
 obtain⟨h',g',d',t',o'⟩:=s';have e:o'=s.os:=ho;subst e;exact I.call u KA hg wK
end
abbrev XK:=eA->Option gA×Bool->Hp->Prop
abbrev St:=List (Option V)
abbrev VK:=V->Hp->Prop
abbrev TE:=St->Hp->VK->Prop
abbrev TT:=St->Hp->(Bool->Hp->Prop)->Prop
abbrev TA:=St->Hp->(List V->Hp->Prop)->Prop
structure Ends where
 nx:St->Hp->Prop
 rt:VK
 bk:St->Hp->Prop:=λ_ _=>False
 ct:St->Hp->Prop:=λ_ _=>False
abbrev TS:=Ends->St->Hp->Prop
def EP(X:Cx)(aA:List (gA×DB))(Y:St)(Q:VK)(u:eA)(s':EA):Prop:=∃v H',dA X aA Y H' s'/\aAf v u/\Q v H'
def TP(X:Cx)(aA:List (gA×DB))(Y:St)(Q:Bool->Hp->Prop)(b:Bool)(s':EA):Prop:=∃H',dA X aA Y H' s'/\Q b H'
def AP(X:Cx)(aA:List (gA×DB))(Y:St)(Q:List V->Hp->Prop)(us:List eA)(s':EA):Prop:=∃vs H',dA X aA Y H' s'/\aAd vs us/\Q vs H'
def SP(X:Cx)(aA:List (gA×DB))(D:Ends)(f:Flow)(s':EA):Prop :=
 match f with
 |.next=>∃Y' H',dA X aA Y' H' s'/\D.nx Y' H'
 |.brk=>∃Y' H',dA X aA Y' H' s'/\D.bk Y' H'
 |.cont=>∃Y' H',dA X aA Y' H' s'/\D.ct Y' H'
 |.ret u=>∃v Y' H',dA X aA Y' H' s'/\aAf v u/\D.rt v H'
def PE(X:Cx)(e:xA)(t:TE):Prop :=
 ∀(aA:List (gA×DB)) (s:EA) (Y:St) (H:Hp) (Q:VK),dA X aA Y H s->t Y H Q->sA (model X.prog X.w) X.A (eval e X.env) (EP X aA Y Q) X.xe s
def PT(X:Cx)(e:xA)(t:TT):Prop :=
 ∀(aA:List (gA×DB)) (s:EA) (Y:St) (H:Hp) (Q:Bool->Hp->Prop),dA X aA Y H s->t Y H Q->sA (model X.prog X.w) X.A (isTrue e X.env (eval e X.env)) (TP X aA Y Q) X.xe s
def PW(X:Cx)(e:xA)(t:TT):Prop :=
 ∀(whole:Sem eA) (aA:List (gA×DB)) (s:EA) (Y:St) (H:Hp) (Q:Bool->Hp->Prop),dA X aA Y H s->t Y H Q->sA (model X.prog X.w) X.A (isTrue e X.env whole) (TP X aA Y Q) X.xe s
def PW.pt(h:PW X e t):PT X e t:=h _
def PA(X:Cx)(es:List xA)(t:TA):Prop :=
 ∀(pos:XB) (aA:List (gA×DB)) (s:EA) (Y:St) (H:Hp) (Q:List V->Hp->Prop),dA X aA Y H s->t Y H Q->sA (model X.prog X.w) X.A (spliced (fF pos (bC es X.env))) (AP X aA Y Q) X.xe s
def PS(X:Cx)(st:XA)(t:TS):Prop :=
 ∀(aA:List (gA×DB)) (s:EA) (Y:St) (H:Hp) (D:Ends),dA X aA Y H s->t D Y H->sA (model X.prog X.w) X.A (exec st X.env) (SP X aA D) X.xe s
def HC(X:Cx)(st:List XA)(t:TS):Prop :=
 ∀(aA:List (gA×DB)) (s:EA) (Y:St) (H:Hp) (D:Ends),dA X aA Y H s->t D Y H->sA (model X.prog X.w) X.A (execs st X.env) (SP X aA D) X.xe s
def RA(h:sA M A t Q E s)(hQ:∀a s,Q a s->Q' a s):sA M A t Q' E s:=QH h hQ λ_ _ x=>x
section
variable{X:Cx}
def wN(i:Nat):TE:=λY H Q=>∃v,Y[i]?=some (some v)/\Q v H
def tC(v:V):TE:=λ_ H Q=>Q v H
def B8(hN:X.N[i]?=some x)(hv:cQ X.env.scope x)(hd:(x==("__debug__":bA))=false:=by decide)(OI:(x==("__classdict__":bA))=false:=by decide):PE X (.Name x pos) (wN i):=by
 intro aA s Y H Q I h;obtain⟨v,e,h⟩:=h;obtain⟨m,hn,hl⟩:=I.loc;obtain⟨u,r,l⟩:=hl i x v hN e hv;have iB:EP X aA Y Q u s:=⟨v,H,I,r,h⟩
 rcases l with ⟨hk,hm⟩ | ⟨hk,c,hc,jI⟩
 ·exact Xb (cq I.ok.kind hk hn hm iB) hd
 ·rcases hk with hk | hk
  ·exact Xb (jq I.ok.kind hk hc jI iB) hd
  ·exact Xb (wpAny_loadName_free I.ok.kind hk hc jI iB OI) hd
def Tj{i j pos}:PE X (.Constant (.int i) j pos) (tC (.int i)):=λ_ _ _ H _ I h=>wpAny_Constant_int ⟨.int i,H,I.tok _,⟨_,rfl⟩,h⟩
def sPa{b j pos}:PE X (.Constant (.bool b) j pos) (tC (.bl b)):=λ_ _ _ H _ I h=>Constant_bool ⟨.bl b,H,I,rfl,h⟩
def Vj{j pos}:PE X (.Constant .none j pos) (tC .iA):=λ_ _ _ H _ I h=>Constant_none ⟨.iA,H,I,rfl,h⟩
def jQa{x j pos}:PE X (.Constant (.str x) j pos) (tC (.str x)):=λ_ _ _ H _ I h=>Calls.Constant_str ⟨.str x,H,I.tok _,⟨_,rfl⟩,h⟩
def Gl(X:Cx)(x:bA):Prop:=X.env.kindOf x=some .globalImplicit
def VQ(I:dA X aA Y H s)(hg:Gl X x)(hm:X.mg x=some u)(h:Q u s)
  (hd:(x==("__debug__":bA))=false:=by decide):sA (model X.prog X.w) X.A (eval (.Name x pos) X.env) Q E s :=
 Calls.Name_function_global I.ok.kind hg (Calls.loadGlobal_global (by rw[I.ok.glob];exact I.mod.glob.keeps I.bk) hm h) hd
def iN(I:dA X aA Y H s)(hg:Gl X x)(hm:X.mg x=none)(hv:bL x=some u)(h:Q u s)
  (hn:x≠"__name__":=by decide) (hd:(x==("__debug__":bA))=false:=by decide):sA (model X.prog X.w) X.A (eval (.Name x pos) X.env) Q E s:=by
 obtain⟨mb,h1,h2⟩:=I.mod.vB;exact Calls.Name_function_global I.ok.kind hg (Calls.loadGlobal_builtin (by rw[I.ok.glob];exact I.mod.glob.keeps I.bk) hm (by rw[I.ok.vB];exact h1.keeps I.bk) ((h2 x hn).trans hv) h) hd
def bQa(hg:Gl X x)(hm:X.mg x=some u)(r:aAf v u)(hd:(x==("__debug__":bA))=false:=by decide):PE X (.Name x pos) (tC v) :=
 λ_ _ _ H _ I h=>VQ I hg hm ⟨v,H,I,r,h⟩ hd
def y8(hg:Gl X x)(hm:X.mg x=none)(hv:bL x=some u)(r:aAf v u)(hn:x≠"__name__":=by decide)(hd:(x==("__debug__":bA))=false:=by decide):PE X (.Name x pos) (tC v) :=
 λ_ _ _ H _ I h=>iN I hg hm hv ⟨v,H,I,r,h⟩ hn hd
variable{pos:XB}
variable{aAn:List xA}
def Yn(t u:TT):TT:=λY H Q=>t Y H λc H1=>if c=true then u Y H1 Q else Q false H1
def fo(t u:TT):TT:=λY H Q=>t Y H λc H1=>if c=true then Q true H1 else u Y H1 Q
def lYa(t:TT):TT:=λY H Q=>t Y H λc H1=>Q (!c) H1
def aAW(ha:PT X a tA):PW X (.BoolOp .And [a] pos) tA:=by
 intro wh aA s Y H Q I h;refine isTrue_and (RA (ha aA s Y H Q I h) λc s1 e=>?_)
 cases c with
 |true=>exact isTrue_and_nil e
 |false=>exact e
def aA0(ha:PT X a tA):PW X (.BoolOp .Or [a] pos) tA:=by
 intro wh aA s Y H Q I h;refine isTrue_or (RA (ha aA s Y H Q I h) λc s1 e=>?_)
 cases c with
 |false=>exact isTrue_or_nil e
 |true=>exact e
def aA2(ha:PT X a tA)(hb:PW X (.BoolOp .And (b::aAn) pos) y9):PW X (.BoolOp .And (a::b::aAn) pos) (Yn tA y9):=by
 intro wh aA s Y H Q I h;refine isTrue_and (RA (ha aA s Y H _ I h) λc s1 hz=>?_);obtain⟨H1,I1,q1⟩:=hz
 cases c with
 |true=>exact hb wh aA s1 Y H1 Q I1 q1
 |false=>exact⟨H1,I1,q1⟩
def aA4(ha:PT X a tA)(hb:PW X (.BoolOp .Or (b::aAn) pos) y9):PW X (.BoolOp .Or (a::b::aAn) pos) (fo tA y9):=by
 intro wh aA s Y H Q I h;refine isTrue_or (RA (ha aA s Y H _ I h) λc s1 hz=>?_);obtain⟨H1,I1,q1⟩:=hz
 cases c with
 |true=>exact⟨H1,I1,q1⟩
 |false=>exact hb wh aA s1 Y H1 Q I1 q1
def iTa(ha:PT X a tA):PT X (.UnaryOp .Not a pos) (lYa tA):=by
 intro aA s Y H Q I h;exact isTrue_not (ha aA s Y H (λc H1=>Q (!c) H1) I h)
def Zn(ta tb:TE):TE:=λY H Q=>ta Y H λx H1=>∃c,x=.bl c/\if c=true then tb Y H1 Q else Q (.bl false) H1
def jo(ta tb:TE):TE:=λY H Q=>ta Y H λx H1=>∃c,x=.bl c/\if c=true then Q (.bl true) H1 else tb Y H1 Q
def Wj{op}(h:PE X a t):PE X (.BoolOp op [a] pos) t:=λaA s Y H Q I hw=>BoolOp_one (h aA s Y H Q I hw)
def rPa(ha:PE X a ta)(hb:PE X (.BoolOp .And (b::aAn) pos) tb):PE X (.BoolOp .And (a::b::aAn) pos) (Zn ta tb):=by
 intro aA s Y H Q I h;refine BoolOp_and (RA (ha aA s Y H _ I h) λv s1 hz=>?_);obtain⟨x,H1,I1,r1,q1⟩:=hz;obtain⟨c,rfl,q1⟩:=q1;cases r1;refine DM ?_
 cases c with
 |true=>exact hb aA s1 Y H1 Q I1 q1
 |false=>exact⟨.bl false,H1,I1,rfl,q1⟩
def A8(ha:PE X a ta)(hb:PE X (.BoolOp .Or (b::aAn) pos) tb):PE X (.BoolOp .Or (a::b::aAn) pos) (jo ta tb):=by
 intro aA s Y H Q I h;refine BoolOp_or (RA (ha aA s Y H _ I h) λv s1 hz=>?_);obtain⟨x,H1,I1,r1,q1⟩:=hz;obtain⟨c,rfl,q1⟩:=q1;cases r1;refine DM ?_
 cases c with
 |false=>exact hb aA s1 Y H1 Q I1 q1
 |true=>exact⟨.bl true,H1,I1,rfl,q1⟩
end
def GB(K:fA)(H:Hp)(a:gA)(xs:List V):Prop :=
 Rd H a (.l xs) \/
  ∃(o:DB) (cA:Array eA) (n:Nat),K.lookup a=some o/\o.cls=.type "list"/\o.dict=none/\o.data=.seq cA n/\cA.size<=sizeLine/\aAd xs cA.toList
def LC(K:fA)(H:Hp)(a:gA)(xs:List V):Prop :=
 Rd H a (.t xs) \/
  ∃(o:DB) (cA:Array eA) (n:Nat),K.lookup a=some o/\o.cls=.type "tuple"/\o.data=.seq cA n/\cA.size<=sizeLine/\aAd xs cA.toList
noncomputable def iu:eA->Option V
 |.none=>some .iA
 |.bool b=>some (.bl b)
 |.int i _=>some (.int i)
 |.str x _=>some (.str x)
 |.ref a=>some (.ref a)
 |.type n=>some (.ty n)
 |_=>none
def aAf.abs(r:aAf x u):iu u=some x:=by
 cases x with
 |iA=>cases r;rfl
 |bl _=>cases r;rfl
 |int _=>obtain⟨t,rfl⟩:=r;rfl
 |str _=>obtain⟨t,rfl⟩:=r;rfl
 |ref _=>cases r;rfl
 |ty _=>cases r;rfl
theorem aAf.inj(r:aAf x u)(q:aAf y u):x=y:=rE (r.abs.symm.trans q.abs)
theorem aAd.inj{xs ys:List V}{us:List eA}(h:aAd xs us)(h':aAd ys us):xs=ys:=by
 induction h generalizing ys with
 |nil=>cases h';rfl
 |cons r t ih=>cases h' with | cons r' t'=>rw[r.inj r',ih t']
section
variable{xs ys:List V}
def GB.of{K:fA}(h:H a=some (.l xs)):GB K H a xs:=.inl (.inl h)
def LC.of{K:fA}(h:H a=some (.t xs)):LC K H a xs:=.inl (.inl h)
def dA.list(I:dA X aA Y H s)(h:GB X.K H a xs):∃cA:List eA,aAd xs cA/\PlainL s.heap a cA.toArray/\xs.length<=sizeLine:=by
 rcases h with h | ⟨o,cA,n,hk,hc,hd,hs,hz,r⟩
 ·obtain⟨z,cA,n,r,e⟩:=h.ok I.KA;exact⟨cA,r,⟨_,n,e,rfl,rfl,rfl⟩,z⟩
 ·refine⟨cA.toList,r,⟨o,n,I.jE a o hk,hc,hd,by simpa using hs⟩, ?_⟩;have e:=r.length;simp only[jL] at e
  lia
def dA.tuple(I:dA X aA Y H s)(h:LC X.K H a xs):∃cA:List eA,aAd xs cA/\ON s.heap a cA.toArray/\xs.length<=sizeLine:=by
 rcases h with h | ⟨o,cA,n,hk,hc,hs,hz,r⟩
 ·obtain⟨z,cA,r,p⟩:=h.ok I.KA;exact⟨cA,r,p,z⟩
 ·refine⟨cA.toList,r,⟨o,I.jE a o hk,hc,n,by simpa using hs⟩, ?_⟩;have e:=r.length;simp only[jL] at e
  lia
def dA.Ni(I:dA X aA Y H s)(h:GB X.K H a xs)(h':GB X.K H a ys):xs=ys:=by
 obtain⟨cA,r,⟨o,n,e,_,_,d⟩,_⟩:=I.list h;obtain⟨its',r',⟨o',n',e',_,_,d'⟩,_⟩:=I.list h';rw[e] at e';cases e';rw[d] at d'
 injection d' with d1 _
 have:cA=its':=by simpa using congrArg eV d1
 subst this;exact r.inj r'
def dA.hZa(I:dA X aA Y H s)(h:LC X.K H a xs)(h':LC X.K H a ys):xs=ys:=by
 obtain⟨cA,r,⟨o,e,_,n,d⟩,_⟩:=I.tuple h;obtain⟨its',r',⟨o',e',_,n',d'⟩,_⟩:=I.tuple h';rw[e] at e';cases e';rw[d] at d'
 injection d' with d1 _
 have:cA=its':=by simpa using congrArg eV d1
 subst this;exact r.inj r'
end
abbrev Cx.YK(X:Cx)(E:eA->EA->Prop):Cx:={ X with xe:=E }
abbrev Cx.gR(X:Cx):Cx:=X.YK λ_ _=>False
theorem Cx.Ok.YK{X:Cx}(ok:X.Ok)(E:eA->EA->Prop):(X.YK E).Ok :=
 ⟨ok.mod,ok.kind,ok.glob,ok.vB,ok.above,ok.inj,ok.has,ok.WM,ok.hd,ok.frames,ok.NH,ok.BS,ok.bs,ok.qJ,ok.lN,ok.rO,ok.BG,ok.tK⟩
def Cx.Ok.CN{X:Cx}(ok:(X.YK E).Ok):X.Ok :=
 ⟨ok.mod,ok.kind,ok.glob,ok.vB,ok.above,ok.inj,ok.has,ok.WM,ok.hd,ok.frames,ok.NH,ok.BS,ok.bs,ok.qJ,ok.lN,ok.rO,ok.BG,ok.tK⟩
section
variable{E:eA->EA->Prop}
theorem dA.YK(I:dA X aA Y H s)(E:eA->EA->Prop):dA (X.YK E) aA Y H s:=⟨I.ok.YK E,I.os,I.bare,I.base,I.loc,I.cell,I.free,I.FH,I.pin,I.KA,I.len⟩
theorem dA.CN(I:dA (X.YK E) aA Y H s):dA X aA Y H s:=⟨I.ok.CN,I.os,I.bare,I.base,I.loc,I.cell,I.free,I.FH,I.pin,I.KA,I.len⟩
theorem SP.CN(h:SP (X.YK E) aA D f s'):SP X aA D f s':=by
 cases f with
 |next=>obtain⟨Y',H',I,q⟩:=h;exact⟨Y',H',I.CN,q⟩
 |brk=>obtain⟨Y',H',I,q⟩:=h;exact⟨Y',H',I.CN,q⟩
 |cont=>obtain⟨Y',H',I,q⟩:=h;exact⟨Y',H',I.CN,q⟩
 |ret u=>obtain⟨v,Y',H',I,r,q⟩:=h;exact⟨v,Y',H',I.CN,r,q⟩
theorem HC.gR{st:List XA}(h:HC X.gR st t):HC X st t:=λaA s Y H D I hw =>
 QH (h aA s Y H D (I.YK _) hw) (λ_ _ q=>q.CN) λ_ _ z=>XG z
end
section
variable{st:XA}{aAn:List XA}
def D9:TS:=λD Y H=>D.nx Y H
def qYa(t u:TS):TS:=λD Y H=>t { D with nx:=u D } Y H
def Ck:HC X [] D9:=λ_ _ Y H _ I h=>WU ⟨Y,H,I,h⟩
def G8(h1:PS X st t)(h2:HC X aAn u):HC X (st::aAn) (qYa t u):=by
 intro aA s Y H D I h;refine wpAny_execs_cons (RA (h1 aA s Y H { D with nx:=u D } I h) λf s1 q=>?_)
 cases f with
 |next =>
  obtain⟨Y',H',I',q⟩:=q;exact h2 aA s1 Y' H' D I' q
 |ret v=>exact q
 |brk=>exact q
 |cont=>exact q
def eTa(h1:PS X st t):HC X [st] t:=by
 intro aA s Y H D I h;refine wpAny_execs_cons (RA (h1 aA s Y H D I h) λf s1 q=>?_)
 cases f with
 |next=>exact WU q
 |ret v=>exact q
 |brk=>exact q
 |cont=>exact q
def yXa:TS:=λD Y H=>D.bk Y H
def bYa:TS:=λD Y H=>D.ct Y H
def pSa:PS X (.Pass pos) D9:=λ_ _ Y H _ I h=>wpAny_Pass ⟨Y,H,I,h⟩
def fSa:PS X (.Break pos) yXa:=λ_ _ Y H _ I h=>wpAny_Break ⟨Y,H,I,h⟩
def jSa:PS X (.Continue pos) bYa:=λ_ _ Y H _ I h=>wpAny_Continue ⟨Y,H,I,h⟩
def dA.quiet(I:dA X aA Y H s):interactive X.env=false:=by simp[interactive,I.ok.kind]
def dYa(te:TE):TS:=λD Y H=>te Y H λ_ H1=>D.nx Y H1
def zk(he:PE X e te)(hs:swapsWith e none pos.line X.env=pure false:=by rfl):PS X (.Expr e pos) (dYa te):=by
 intro aA s Y H D I h;exact wpAny_Expr_any (RA (he aA s Y H _ I h) λv s1 hz=>(by obtain⟨x,H1,I1,r1,q1⟩:=hz;exact⟨Y,H1,I1,q1⟩)) I.quiet hs
def oYa(te:TE):TS:=λD Y H=>te Y H D.rt
def lR(he:PE X e te):PS X (.Return (some e) pos) (oYa te):=by
 intro aA s Y H D I h;exact wpAny_Return_some (RA (he aA s Y H _ I h) λv s1 hz=>(by obtain⟨x,H1,I1,r1,q1⟩:=hz;exact⟨x,Y,H1,I1,r1,q1⟩))
def pYa:TS:=λD _ H=>D.rt .iA H
def sSa:PS X (.Return none pos) pYa:=λ_ _ Y H _ I h=>wpAny_Return_none ⟨.iA,Y,H,I,rfl,h⟩
def hYa(c:TT)(t u:TS):TS:=λD Y H=>c Y H λb H1=>if b=true then t D Y H1 else u D Y H1
def Ak(hc:PT X c tc)(ha:HC X a t)(hb:HC X b u):PS X (.If c a b pos) (hYa tc t u):=by
 intro aA s Y H D I h;refine wpAny_If (RA (hc aA s Y H _ I h) λd s1 hz=>?_);obtain⟨H1,I1,q1⟩:=hz
 cases d with
 |true=>exact ha aA s1 Y H1 D I1 q1
 |false=>exact hb aA s1 Y H1 D I1 q1
end
abbrev TG:=V->St->Hp->(St->Hp->Prop)->Prop
abbrev bQ:=List V->St->Hp->(St->Hp->Prop)->Prop
def PG(X:Cx)(target:xA)(t:TG):Prop :=
 ∀(aA:List (gA×DB)) (s:EA) (Y:St) (H:Hp) (v:V) (u:eA) (Q:St->Hp->Prop),dA X aA Y H s->aAf v u->t v Y H Q ->
  sA (model X.prog X.w) X.A (assign target X.env u) (λ_ s'=>∃Y' H',dA X aA Y' H' s'/\Q Y' H') X.xe s
def tL(X:Cx)(ts:List xA)(t:bQ):Prop :=
 ∀(aA:List (gA×DB)) (s:EA) (Y:St) (H:Hp) (vs:List V) (us:List eA) (Q:St->Hp->Prop),dA X aA Y H s->aAd vs us->t vs Y H Q ->
  sA (model X.prog X.w) X.A (assignInOrder ((RH ts X.env).map (·.2)) us) (λ_ s'=>∃Y' H',dA X aA Y' H' s'/\Q Y' H') X.xe s
abbrev xV:=V->V->V->Hp->(Hp->Prop)->Prop
def rZ(X:Cx)(t:xV):Prop :=
 ∀(aA:List (gA×DB)) (s:EA) (Y:St) (H:Hp) (o i v:V) (ov iv u:eA) (Q:Hp->Prop),dA X aA Y H s->aAf o ov->aAf i iv->aAf v u->t o i v H Q ->
  sA (model X.prog X.w) X.A (setItem ov iv u) (λ_ s'=>∃H',dA X aA Y H' s'/\Q H') X.xe s
abbrev tZ:=V->V->Hp->VK->Prop
def qZ(X:Cx)(op:vM)(t:tZ):Prop :=
 ∀(aA:List (gA×DB)) (s:EA) (Y:St) (H:Hp) (x y:V) (v u:eA) (Q:VK),dA X aA Y H s->aAf x v->aAf y u->t x y H Q ->
  sA (model X.prog X.w) X.A (inplaceOp op v u) (EP X aA Y Q) X.xe s
section
variable{pos:XB}
def vO(i:Nat):TG:=λv Y H Q=>Q (Y.set i (some v)) H
def ak(hN:X.N.Nodup)(hi:X.N[i]?=some x)(hx:Loc X.env.scope x)(hf:X.fn x=true\/X.env.scope.names.lookup x=some .local:=by first | exact .inl rfl | exact .inr rfl | assumption):PG X (.Name x pos) (vO i):=by
 intro aA s Y H v u Q I r h;exact Fq (r9 I hN hi hx r (λs' I'=>⟨_,H,I',h⟩) hf)
def J_:bQ:=λvs Y H Q=>vs=[]/\Q Y H
def I_(t:TG)(u:bQ):bQ:=λvs Y H Q=>∃v r,vs=v::r/\t v Y H λY' H'=>u r Y' H' Q
def sQa:tL X [] J_:=by
 intro aA s Y H vs us Q I r h;obtain⟨e,h⟩:=h;subst e;cases r;exact assignInOrder_nil ⟨Y,H,I,h⟩
def qQa(h1:PG X e t)(h2:tL X es u)
  (hs:(RH (e::es) X.env).map (·.2)=assign e X.env::(RH es X.env).map (·.2):=by rfl):tL X (e::es) (I_ t u):=by
 intro aA s Y H vs us Q I r h;obtain⟨v,vr,e1,h⟩:=h;subst e1
 cases r with
 |cons r rr =>
  rw[hs];refine assignInOrder_cons (RA (h1 aA s Y H _ _ _ I r h) λ_ s1 hz=>?_);obtain⟨Y1,H1,I1,q1⟩:=hz;exact h2 aA s1 Y1 H1 _ _ Q I1 rr q1
def L_(K:fA)(n:Nat)(t:bQ):TG:=λv Y H Q=>∃a xs,v=.ref a/\LC K H a xs/\xs.length=n/\t xs Y H Q
def pQa(hc:X.calm=true)(h:tL X es t)
  (hn:(RH es X.env).length=n:=by rfl) (DG:(RH es X.env).findIdx? (·.1)=none:=by rfl):PG X (.Tuple es k pos) (L_ X.K n t):=by
 intro aA s Y H v u Q I r hw;obtain⟨a,xs,e1,hq,hl,hw⟩:=hw;subst e1;cases r;obtain⟨cA,rv,ht,hz⟩:=I.tuple hq;refine assign_Tuple_tuple (I.ok.hd hc) ht (by simp[hn,<- hl,rv.length]) DG λh' hx=>?_
 have I1:dA X aA Y H { s with heap:=h' }:=I.kept (t':=s.toks) λb o e=>hx b o (sE (yC e)) e
 exact h aA _ Y H xs _ Q I1 (by simpa using rv) hw
def K_(to ti:TE)(t:xV):TG:=λv Y H Q=>to Y H λo H1=>ti Y H1 λi H2=>t o i v H2 λH3=>Q Y H3
def oQa(ho:PE X o to)(hi:PE X i ti)(hs:rZ X t)
  (ha:∀v,assign (.Subscript o i pos) X.env v=(do
   let ov <- holding [v] (eval o X.env)
   let iv <- holding [v,ov] (eval i X.env)
   standAt pos
   holding [v,ov,iv] (setItem ov iv v)
   release [v,ov,iv] []):=by intro _;rfl):PG X (.Subscript o i pos) (K_ to ti t):=by
 intro aA s Y H v u Q I r h;rw[ha];refine rA (JN (RA (ho aA s Y H _ I h) λov s1 hz=>?_));obtain⟨x,H1,I1,r1,q1⟩:=hz;refine rA (JN (RA (hi aA s1 Y H1 _ I1 q1) λiv s2 hz=>?_));obtain⟨y,H2,I2,r2,q2⟩:=hz;refine rA (GY (rA (JN (RA (hs aA s2 Y H2 x y v ov iv u _ I2 r1 r2 r q2) λ_ s3 hz=>?_))));obtain⟨H3,I3,q3⟩:=hz;exact wpAny_release ⟨Y,H3,I3,q3⟩
def TX(te:TE)(g:TG):TS:=λD Y H=>te Y H λx H1=>g x Y H1 D.nx
def zX(he:PE X e te)(hg:PG X tg g)(hs:swapsWithSole [tg] e pos.line X.env=pure false:=by rfl)(hw:swappedStores [tg] e X.env=pure none:=by rfl)
  (h1:(RH [tg] X.env).map (·.2)=[assign tg X.env]:=by rfl):PS X (.Assign [tg] e pos) (TX te g):=by
 intro aA s Y H D I h;refine wpAny_Assign_stores (RA (he aA s Y H _ I h) λv s1 hz=>?_) hs hw;obtain⟨x,H1,I1,r1,q1⟩:=hz;rw[h1];exact RA (hg aA s1 Y H1 x v _ I1 r1 q1) λ_ s2 q=>q
def vSa(hN:X.N.Nodup)(hi:X.N[i]?=some x)(hx:Loc X.env.scope x)(he:PE X e te)(hs:swapsWith e (some (.Name x pos')) pos.line X.env=pure false:=by rfl)(hf:X.fn x=true\/X.env.scope.names.lookup x=some .local:=by first | exact .inl rfl | exact .inr rfl | assumption) :
  PS X (.Assign [.Name x pos'] e pos) (TX te (vO i)):=by
 intro aA s Y H D I h;refine wpAny_Assign_Name (RA (he aA s Y H _ I h) λv s1 hz=>?_) hs;obtain⟨y,H1,I1,r1,q1⟩:=hz;exact r9 I1 hN hi hx r1 (λs2 I2=>⟨_,H1,I2,q1⟩) hf
def vXa(i:Nat)(te:TE)(ti:tZ):TS:=λD Y H=>∃x,Y[i]?=some (some x)/\te Y H λy H1=>ti x y H1 λz H2=>D.nx (Y.set i (some z)) H2
def yk(hN:X.N.Nodup)(hi:X.N[i]?=some x)(hx:Loc X.env.scope x)(he:PE X e te)(ho:qZ X op ti)(hf:X.fn x=true\/X.env.scope.names.lookup x=some .local:=by first | exact .inl rfl | exact .inr rfl | assumption) :
  PS X (.AugAssign (.Name x pos') op e pos) (vXa i te ti):=by
 intro aA s Y H D I h;obtain⟨v,e1,h⟩:=h;obtain⟨m,hn,hl⟩:=I.loc
 have vis:cQ X.env.scope x:=by rcases hx with k | k;exact .inl k;exact .inr (.inl k)
 obtain⟨u,r,l⟩:=hl i x v hi e1 vis;refine wpAny_AugAssign_Name ?_
 have go:sA (model X.prog X.w) X.A (eval e X.env) (λw s₂=>sA (model X.prog X.w) X.A (inplaceOp op u w) (λr s₃=>sA (model X.prog X.w) X.A (storeName X.env x r) (λ_=>SP X aA D .next) X.xe s₃) X.xe s₂) X.xe s:=by
  refine RA (he aA s Y H _ I h) λw s1 hz=>?_
  obtain⟨y,H1,I1,r1,q1⟩:=hz;refine RA (ho aA s1 Y H1 v y u w _ I1 r r1 q1) λz s2 hz=>?_
  obtain⟨zv,H2,I2,r2,q2⟩:=hz;exact r9 I2 hN hi hx r2 (λs3 I3=>⟨_,H2,I3,q2⟩) hf
 rcases l with ⟨hk,hm⟩ | ⟨hk,c,hc,jI⟩
 ·exact cq I.ok.kind hk hn hm go
 ·rcases hk with hk | hk
  ·exact jq I.ok.kind hk hc jI go
  ·rcases hx with k | k
   ·have:X.env.scope.names.lookup x=some .free:=hk
    rw[k] at this;cases this
   ·have:X.env.scope.names.lookup x=some .free:=hk
    rw[k] at this;cases this
def Yg(f:Int->Int->Int):tZ:=λx y H Q=>∃i j,x=.int i/\y=.int j/\Q (.int (f i j)) H
def fDa:qZ X .Add (Yg λi j=>i+j):=by
 intro aA s Y H x y v u Q I r1 r2 h;obtain⟨i,j,e1,e2,q⟩:=h;subst e1;subst e2;obtain⟨t,rfl⟩:=r1;obtain⟨t',rfl⟩:=r2;exact iadd_int ⟨.int _,H,I.tok _,⟨_,rfl⟩,q⟩
def gDa:qZ X .Sub (Yg λi j=>i-j):=by
 intro aA s Y H x y v u Q I r1 r2 h;obtain⟨i,j,e1,e2,q⟩:=h;subst e1;subst e2;obtain⟨t,rfl⟩:=r1;obtain⟨t',rfl⟩:=r2;exact isub_int ⟨.int _,H,I.tok _,⟨_,rfl⟩,q⟩
end
section
variable{X:Cx}{pos:XB}
def uYa(c:TT)(tb:TS):TS:=λD Y H=>∃W:Nat->St->Hp->Prop,(∃m,W m Y H)/\∀m Y H,W m Y H ->
 c Y H λb H1=>if b=true then ∃N:St->Hp->Prop,(∀Y' H',N Y' H'->∃m',m'<m/\W m' Y' H')/\tb { D with nx:=N,ct:=N,bk:=D.nx } Y H1 else D.nx Y H1
def Bk(hp:eL (model X.prog X.w) X.A X.env X.xe)(hc:PT X c tc)(hb:HC X body tb):PS X (.While c body [] pos) (uYa tc tb):=by
 intro aA s Y H D I h;obtain⟨W,⟨m0,w0⟩,turn⟩:=h;refine wpAny_While (codeAny_whileLoop (λn s'=>∃Y' H',dA X aA Y' H' s'/\W n Y' H') ?_ m0 ⟨Y,H,I,w0⟩)
 rintro n s1 ⟨Y1,H1,I1,w1⟩
 refine pP hp (RA (hc aA s1 Y1 H1 _ I1 (turn n Y1 H1 w1)) λb s2 hz=>?_);obtain⟨H2,I2,q2⟩:=hz
 cases b with
 |true =>
  obtain⟨N,hN,q2⟩:=q2;rw[QA rfl];refine pP hp (RA (hb aA s2 Y1 H2 _ I2 q2) λf s3 q3=>?_)
  cases f with
  |next =>
   obtain⟨Y3,H3,I3,n3⟩:=q3;obtain⟨m',hm,w3⟩:=hN Y3 H3 n3;exact⟨m',hm,Y3,H3,I3,w3⟩
  |cont =>
   obtain⟨Y3,H3,I3,n3⟩:=q3;obtain⟨m',hm,w3⟩:=hN Y3 H3 n3;exact⟨m',hm,Y3,H3,I3,w3⟩
  |brk=>exact q3
  |ret v=>exact q3
 |false =>
  rw[UA dG];exact WU ⟨Y1,H2,I2,q2⟩
end
structure It where
 go:Nat->Hp->Prop
 fY:Nat->Hp->V->Hp->Prop
 stop:Nat->Hp->Prop
def FD(X:Cx)(aA:List (gA×DB))(H:Hp)(b:gA):Prop :=
 H b=none/\b≠X.env.locals/\b ∉ X.fs/\(b∈X.ex\/X.s₀.heap.get? b=none)/\(∀x c,X.env.cells.lookup x=some c->c≠b)/\∀p∈X.pn++aA,p.1≠b
def dA.GL(I:dA X aA Y H s)(hb:s.heap.objs.size<=b)(hn:H' b=none):FD X aA H' b:=by
 refine⟨hn,KY (vG I.lt hb),I.gLa hb,.inr (qY (vD I.sz hb)),λx c e z=>?_,λp hp z=>?_⟩
 ·obtain⟨v,q⟩:=I.cell x c e;exact absurd (vG q.lt (by rw[z];exact hb)) (CP _)
 ·exact absurd (vG (yC (I.pin p hp).1) (by rw[z];exact hb)) (CP _)
structure Turn(P:bE)(w:IC)(K:fA)(tg:xA)(J:It)(fp:List gA)(it:gA)(tn:Nat->JB->Prop):Prop where
 mem:it∈fp
 obj:∀i h,tn i h->∀b∈fp,∃o,h.get? b=some o/\∀v,o.data≠.cell v
 keep:∀i h h',tn i h->(∀b∈fp,∀o,h.get? b=some o->h'.get? b=some o)->tn i h'
 item:∀(X:Cx),X.prog=P->X.w=w->X.K=K->X.calm=true->∀(i:Nat) (aA:List (gA×DB)) (s:EA) (Y:St) (H:Hp) (E:eA->EA->Prop),dA X aA Y H s->(∀b∈fp,FD X aA H b)->tn i s.heap->J.go i H ->
  sA (model P w) X.A (pyNext (.ref it)) (λr s1=>∃u,r=some u /\
   sA (model P w) X.A (letOwnedTupleGo tg (.ref it) u) (λ_ s2=>∃x H',dA X aA Y H' s2/\aAf x u/\J.fY i H x H'/\tn (i+1) s2.heap/\∀b∈fp,H' b=none) E s1) E s
 done:∀(X:Cx),X.prog=P->X.w=w->X.K=K->X.calm=true->∀(i:Nat) (aA:List (gA×DB)) (s:EA) (Y:St) (H:Hp) (E:eA->EA->Prop),dA X aA Y H s->(∀b∈fp,FD X aA H b)->tn i s.heap->J.stop i H ->
  sA (model P w) X.A (pyNext (.ref it)) (λr s1=>r=none/\dA X aA Y H s1) E s
 self:∀(A:sG) (i:Nat) (s:EA) (Q:eA->EA->Prop) (E:eA->EA->Prop),tn i s.heap->Q (.ref it) s->sA (model P w) A (pyIter (.ref it)) Q E s
abbrev TI:=St->Hp->(It->Hp->Prop)->Prop
def Ic(X:Cx)(aA:List (gA×DB))(Y:St)(tg:xA)(R:It->Hp->Prop)(V6:eA)(s2:EA):Prop :=
 ∃(it:gA) (fp:List gA) (tn:Nat->JB->Prop) (J:It) (H':Hp),V6=.ref it/\dA X aA Y H' s2/\Turn X.prog X.w X.K tg J fp it tn/\tn 0 s2.heap/\(∀b∈fp,FD X aA H' b)/\R J H'
def PI(X:Cx)(tg iter:xA)(wi:TI):Prop :=
 ∀(aA:List (gA×DB)) (s:EA) (Y:St) (H:Hp) (R:It->Hp->Prop),dA X aA Y H s->wi Y H R ->
  sA (model X.prog X.w) X.A (eval iter X.env) (λv s1=>sA (model X.prog X.w) X.A (pyIter v) (Ic X aA Y tg R) X.xe s1) X.xe s
def QS(ho:s.heap.get? it=some o)(hc:o.cls=.type n)(hd:o.data=.fields vs)
  (hn:["enumerate","zip","dict_itemiterator","dict_reverseitemiterator","odict_iterator","itertools.zip_longest","itertools.pairwise"].contains n=false) (hQ:Q () s):sA M A (letOwnedTupleGo tg (.ref it) u) Q E s:=by
 unfold letOwnedTupleGo
 cases tg<;>first
  |exact kB hQ
  | (cases u<;>first
    |exact kB hQ
    | (refine rA (wpAny_load ho ?_)
       rw[hc,hd];show sA M A (if(["enumerate","zip","dict_itemiterator","dict_reverseitemiterator","odict_iterator","itertools.zip_longest","itertools.pairwise"].contains n&&vs[0]? == some (rawInt _))=true then _ else _) Q E s;rw[UA (by intro h;rw[hn,ZK] at h;cases h)]
       exact kB hQ))
noncomputable def eZ(K:fA)(a:gA):It :=
 ⟨λi H=>∃xs x,GB K H a xs/\xs[i]?=some x,λi H x H'=>H'=H/\∀xs,GB K H a xs->xs[i]?=some x,λi H=>∃xs,GB K H a xs/\xs.length<=i⟩
noncomputable def fZ(K:fA)(a:gA):It :=
 ⟨λi H=>∃xs x,LC K H a xs/\xs[i]?=some x,λi H x H'=>H'=H/\∀xs,LC K H a xs->xs[i]?=some x,λi H=>∃xs,LC K H a xs/\xs.length<=i⟩
noncomputable def XR(lo:Int)(n:Nat):It:=⟨λi _=>i<n,λi H x H'=>H'=H/\x=.int (lo+i),λi _=>n<=i⟩
def kZa{K:fA}(a it:gA):Turn P w K tg (eZ K a) [it] it (λi h=>h.IsListIter it a i) where
 mem:=by simp
 obj:=λi h st b hb=>by
  have e:b=it:=by simpa using hb
  subst e;obtain⟨o,e,c,d⟩:=st;exact⟨o,e,λv z=>by rw[d] at z;cases z⟩
 keep:=λi h h' st k=>st.at λo e=>k it (by simp) o e
 item:=by
  intro X hP hw hK hc i aA s Y H E I hf st hg;subst hP hw hK;obtain⟨xs,x,hq,hx⟩:=hg;obtain⟨cA,rv,p,hz⟩:=I.list hq;obtain⟨u,hu,ru⟩:=rv.get hx;obtain⟨f0,f1,f2,f3,f4,f5⟩:=hf it (by simp);refine wpAny_pyNext_list_item st p.isList (x:=u) (by simpa using hu) λh' bG sb=>?_
  have I1:dA X aA Y H { s with heap:=h' }:=I.turned (t':=s.toks) (λb o hb e=>(sb.2 b hb).trans e) f0 f1 f3 f4 f5;obtain⟨o,e,c,d⟩:=id bG;exact⟨u,rfl,QS (s:={ s with heap:=h' }) e c d (by decide) ⟨x,H,I1,ru,⟨rfl,λys hy=>by rw[I.Ni hy hq];exact hx⟩,bG,λb hb=>(hf b hb).1⟩⟩
 done:=by(intro X hP hw hK hc i aA s Y H E I hf st hg;subst hP hw hK;obtain⟨xs,hq,hx⟩:=hg;obtain⟨cA,rv,p,hz⟩:=I.list hq;obtain⟨f0,f1,f2,f3,f4,f5⟩:=hf it (by simp);have hl:=rv.length;exact wpAny_pyNext_list_end (I.ok.hd hc) st p.isList (by simp;lia) λh' eb=>⟨rfl,I.turned (t':=s.toks) (λb o hb e=>eb b o hb e) f0 f1 f3 f4 f5⟩)
 self:=λ_ _ _ _ _ st h=>wpAny_pyIter_listiter st h
def nZa{K:fA}(a it:gA):Turn P w K tg (fZ K a) [it] it (λi h=>h.IsTupleIter it a i) where
 mem:=by simp
 obj:=λi h st b hb=>by
  have e:b=it:=by simpa using hb
  subst e;obtain⟨o,e,c,d⟩:=st;exact⟨o,e,λv z=>by rw[d] at z;cases z⟩
 keep:=λi h h' st k=>st.at λo e=>k it (by simp) o e
 item:=by
  intro X hP hw hK hc i aA s Y H E I hf st hg;subst hP hw hK;obtain⟨xs,x,hq,hx⟩:=hg;obtain⟨cA,rv,p,hz⟩:=I.tuple hq;obtain⟨u,hu,ru⟩:=rv.get hx;obtain⟨f0,f1,f2,f3,f4,f5⟩:=hf it (by simp);refine wpAny_pyNext_tuple_item st (show s.heap.IsTuple a cA.toArray from p) (x:=u) (by simpa using hu) λh' bG sb=>?_
  have I1:dA X aA Y H { s with heap:=h' }:=I.turned (t':=s.toks) (λb o hb e=>(sb.2 b hb).trans e) f0 f1 f3 f4 f5;obtain⟨o,e,c,d⟩:=id bG;exact⟨u,rfl,QS (s:={ s with heap:=h' }) e c d (by decide) ⟨x,H,I1,ru,⟨rfl,λys hy=>by rw[I.hZa hy hq];exact hx⟩,bG,λb hb=>(hf b hb).1⟩⟩
 done:=by(intro X hP hw hK hc i aA s Y H E I hf st hg;subst hP hw hK;obtain⟨xs,hq,hx⟩:=hg;obtain⟨cA,rv,p,hz⟩:=I.tuple hq;obtain⟨f0,f1,f2,f3,f4,f5⟩:=hf it (by simp);have hl:=rv.length;exact wpAny_pyNext_tuple_end (I.ok.hd hc) st (show s.heap.IsTuple a cA.toArray from p) (by simp;lia) λh' eb=>⟨rfl,I.turned (t':=s.toks) (λb o hb e=>eb b o hb e) f0 f1 f3 f4 f5⟩)
 self:=λ_ _ _ _ _ st h=>wpAny_pyIter_tupleiter st h
def lZa{K:fA}(it:gA)(lo:Int)(n:Nat):Turn P w K tg (XR lo n) [it] it (λi h=>SY h it (lo+(i:Nat)*1) ((n:Int)-(i:Nat)) 1) where
 mem:=by simp
 obj:=λi h st b hb=>by
  have e:b=it:=by simpa using hb
  subst e
  exact⟨_,st,λv z=>by
   have z':Data.fields _=Data.cell v:=z
   cases z'⟩
 keep:=λi h h' st k=>k it (by simp) _ st
 item:=by
  intro X hP hw hK hc i aA s Y H E I hf st hg;subst hP hw hK;obtain⟨f0,f1,f2,f3,f4,f5⟩:=hf it (by simp);have W:=yr (prog:=X.prog) (w:=X.w) (I.ok.hd hc) it lo 1 n;refine W.item i s _ _ hg st λv h' tk hv bG kk=>?_
  obtain⟨t,rfl⟩:=hv;have I1:dA X aA Y H { s with heap:=h',toks:=tk }:=I.turned (λb o hb e=>kk b o (by simpa using hb) e) f0 f1 f3 f4 f5;refine⟨_,rfl,QS (s:={ s with heap:=h',toks:=tk }) (n:="range_iterator") bG rfl rfl (by decide) ⟨.int (lo+i),H,I1,⟨t, ?_⟩,⟨rfl,rfl⟩,bG,λb hb=>(hf b hb).1⟩⟩;rw[Int.mul_one]
 done:=by(intro X hP hw hK hc i aA s Y H E I hf st hg;subst hP hw hK;obtain⟨f0,f1,f2,f3,f4,f5⟩:=hf it (by simp);exact Fp (I.ok.hd hc) st (by have:n<=i:=hg;lia) λh' eb=>⟨rfl,I.turned (t':=s.toks) (λb o hb e=>eb b o hb e) f0 f1 f3 f4 f5⟩)
 self:=λ_ _ _ _ _ st h=>Gp st h
section
variable{tg:xA}
def Mg(K:fA)(tl:TE):TI:=λY H R=>tl Y H λx H1=>∃a,x=.ref a/\(∃xs,GB K H1 a xs)/\R (eZ K a) H1
def Qg(K:fA)(tl:TE):TI:=λY H R=>tl Y H λx H1=>∃a,x=.ref a/\(∃xs,LC K H1 a xs)/\R (fZ K a) H1
def C8(hl:PE X l tl):PI X tg l (Mg X.K tl):=by
 intro aA s Y H R I h;refine RA (hl aA s Y H _ I h) λv s1 hz=>?_
 obtain⟨x,H1,I1,r1,q1⟩:=hz;obtain⟨a,e,⟨xs,hq⟩,q⟩:=q1;subst e;cases r1;obtain⟨cA,rv,p,hz⟩:=I1.list hq;refine SU p.isList ?_;refine⟨s1.heap.objs.size,[s1.heap.objs.size],_,_,H1,rfl,I1.kept (t':=s1.toks) λb o e=>jD _ e,kZa a _,⟨_,gF _ rfl,rfl,rfl⟩,λb hb=>?_,q⟩;have e:b=s1.heap.objs.size:=by simpa using hb
 subst e;exact I1.GL (zB _) (I1.KA.fresh (zB _))
def D8(hl:PE X l tl):PI X tg l (Qg X.K tl):=by
 intro aA s Y H R I h;refine RA (hl aA s Y H _ I h) λv s1 hz=>?_
 obtain⟨x,H1,I1,r1,q1⟩:=hz;obtain⟨a,e,⟨xs,hq⟩,q⟩:=q1;subst e;cases r1;obtain⟨cA,rv,p,hz⟩:=I1.tuple hq;refine wpAny_pyIter_tuple (show s1.heap.IsTuple a cA.toArray from p) ?_;refine⟨s1.heap.objs.size,[s1.heap.objs.size],_,_,H1,rfl,I1.kept (t':=s1.toks) λb o e=>jD _ e,nZa a _,⟨_,gF _ rfl,rfl,rfl⟩,λb hb=>?_,q⟩;have e:b=s1.heap.objs.size:=by simpa using hb
 subst e;exact I1.GL (zB _) (I1.KA.fresh (zB _))
def Uk{lo hi:Int}(I:dA X aA Y H s)(h1:-(2 ^ 62)<=lo)(h2:lo<2 ^ 62)(h3:-(2 ^ 62)<=hi)(h4:hi<2 ^ 62)
  (q:R (XR lo (hi-lo).toNat) H):sA (model X.prog X.w) X.A (pyIter (.ref s.heap.objs.size)) (Ic X aA Y tg R) E { s with heap:=s.heap.push { cls:=.type "range",data:=.fields #[.int lo t,.int hi u,.int 1 v] },toks:=tk }:=by
 refine uq (zr ..) (small_one h1 h2 h3 h4) ?_;have I1:dA X aA Y H { s with heap:=s.heap.push { cls:=.type "range",data:=.fields #[.int lo t,.int hi u,.int 1 v] },toks:=tk }:=I.kept λb o e=>jD _ e
 refine⟨(s.heap.push { cls:=.type "range",data:=.fields #[.int lo t,.int hi u,.int 1 v] }).objs.size,[(s.heap.push { cls:=.type "range",data:=.fields #[.int lo t,.int hi u,.int 1 v] }).objs.size],_,_,H,rfl,
  I1.kept (t':=tk) λb o e=>jD _ e,lZa _ lo (hi-lo).toNat, ?_,λb hb=>?_,q⟩
 ·have e1:lo+((0:Nat):Int)*1=lo:=by simp
  have e2:(((hi-lo).toNat:Nat):Int)-((0:Nat):Int)=Dp lo hi 1:=by rw[rangeSize_one];split<;>lia
  show SY _ _ (lo+((0:Nat):Int)*1) ((((hi-lo).toNat:Nat):Int)-((0:Nat):Int)) 1;rw[e1,e2];exact gF _ rfl
 ·have e:b=(s.heap.push { cls:=.type "range",data:=.fields #[.int lo t,.int hi u,.int 1 v] }).objs.size:=by simpa using hb
  subst e;exact I1.GL (zB _) (I1.KA.fresh (zB _))
def Og(ta:TA):TI:=λY H R=>ta Y H λvs H1=>∃j:Int,vs=[.int j]/\-(2 ^ 62)<=j/\j<2 ^ 62/\R (XR 0 j.toNat) H1
def Pg(ta:TA):TI:=λY H R=>ta Y H λvs H1=>∃i j:Int,vs=[.int i,.int j]/\(-(2 ^ 62)<=i/\i<2 ^ 62/\-(2 ^ 62)<=j/\j<2 ^ 62)/\R (XR i (j-i).toNat) H1
def ik{p pos:XB}(hg:Gl X "range")(hm:X.mg "range"=none)(ha:PA X [a] ta)(hs:bC [a] X.env=[(false,eval a X.env)]:=by rfl):PI X tg (.Call (.Name "range" p) [a] [] pos) (Og ta):=by
 intro aA s Y H R I h;refine Call_ (iN I hg hm Yb (JU (RA (ha pos aA s Y H _ I h) λus s1 hz=>?_) hs rfl));obtain⟨vs,H1,I1,r1,q1⟩:=hz;obtain⟨j,e,q1,q2,q⟩:=q1;subst e
 cases r1 with
 |cons r rr =>
  cases rr;obtain⟨t,rfl⟩:=r;exact call_range_1 (Uk I1 (by lia) (by lia) q1 q2 (by simpa using q))
def jk(hg:Gl X "range")(hm:X.mg "range"=none)(ha:PA X [a,b] ta)(hs:bC [a,b] X.env=[(false,eval a X.env),(false,eval b X.env)]:=by rfl)(oE:bC [b] X.env=[(false,eval b X.env)]:=by rfl) :
  PI X tg (.Call (.Name "range" p) [a,b] [] pos) (Pg ta):=by
 intro aA s Y H R I h;refine Call_ (iN I hg hm Yb (JU (RA (ha pos aA s Y H _ I h) λus s1 hz=>?_) (by rw[hs,oE]) (by rw[oE];rfl)));obtain⟨vs,H1,I1,r1,q1⟩:=hz;obtain⟨i,j,e,⟨q1,q2,q3,q4⟩,q⟩:=q1;subst e
 cases r1 with
 |cons r rr =>
  cases rr with
  |cons r' rr =>
   cases rr;obtain⟨t,rfl⟩:=r;obtain⟨t',rfl⟩:=r';exact call_range_2 (Uk I1 q1 q2 q3 q4 q)
def fYa(wi:TI)(g:TG)(tb:TS):TS:=λD Y H=>wi Y H λJ H1=>∃W:Nat->Nat->St->Hp->Prop,(∃m,W 0 m Y H1)/\∀i m Y H,W i m Y H ->
 (J.stop i H/\D.nx Y H)\/(J.go i H/\∃N:St->Hp->Prop,(∀Y' H',N Y' H'->∃m',m'<m/\W (i+1) m' Y' H')/\∀x H',J.fY i H x H'->g x Y H' λY2 H2=>tb { D with nx:=N,ct:=N,bk:=D.nx } Y2 H2)
noncomputable def jU(fp:List gA)(h:JB):List (gA×DB):=fp.filterMap λb=>(h.get? b).map λo=>(b,o)
def gX(hb:b∈fp)(e:h.get? b=some o):(b,o)∈jU fp h:=La.mpr ⟨b,hb,by rw[e];rfl⟩
def sLa(hp:p∈jU fp h):p.1∈fp/\h.get? p.1=some p.2:=by
 obtain⟨b,hb,e⟩:=La.mp hp
 cases q:h.get? b with
 |none=>rw[q] at e;cases e
 |some o =>
  rw[q] at e;have e':(b,o)=p:=rE e;subst e';exact⟨hb,q⟩
def dA.pinned(I:dA X aA Y H s)(hf:∀b∈fp,FD X aA H b)(ho:∀b∈fp,∃o,s.heap.get? b=some o/\∀v,o.data≠.cell v):dA X (aA++jU fp s.heap) Y H s :=
 I.pk λp hp=>(eG.mp hp).elim (λz=>I.pin p (TH _ z)) λz=>by(obtain⟨hb,e⟩:=sLa z;obtain⟨f0,f1,f2,_⟩:=hf p.1 hb;obtain⟨o,e',d⟩:=ho p.1 hb;rw[e] at e';cases e';exact⟨e,f0,f1,f2,d⟩)
def dA.bY(I:dA X (aA++pl) Y H s):dA X aA Y H s:=I.pk λp hp=>I.pin p (TH _ (tG _ hp))
def mSa(hp:eL (model X.prog X.w) X.A X.env X.xe)(hc:X.calm=true)(hi:PI X tg iter wi)(hg:PG X tg g)(hb:HC X body tb)
  (hs:∀x,aK iter X.env x=pure x:=by intro _;rfl):PS X (.For tg iter body [] pos) (fYa wi g tb):=by
 intro aA s Y H D I h;refine wpAny_For (RA (hi aA s Y H _ I h) λv s1 h1=>RA h1 λV6 s2 h2=>?_) hs;obtain⟨it,fp,tn,J,H2,e,I2,T,OX,f2,W,⟨m0,w0⟩,turn⟩:=h2;subst e
 -- Lo stays true of FE y2a objects through FE loop
 have fP:∀{H':Hp},(∀b∈fp,H' b=none)->∀b∈fp,FD X aA H' b:=λhn b hb=>⟨hn b hb,(f2 b hb).2⟩
 refine codeAny_forLoop_any (λn s'=>∃i Y' H',dA X aA Y' H' s'/\tn i s'.heap/\(∀b∈fp,H' b=none)/\W i n Y' H') ?_ m0 ⟨0,Y,H2,I2,OX,λb hb=>(f2 b hb).1,w0⟩
 rintro n s3 ⟨i,Y3,H3,I3,Wl,mf,w3⟩
 rcases turn i n Y3 H3 w3 with ⟨stop,qn⟩ | ⟨go,N,hN,step⟩
 ·refine pP hp (RA (T.done X rfl rfl rfl hc i aA s3 Y3 H3 X.xe I3 (fP mf) Wl stop) λr s4 hz=>?_);obtain⟨hr,I4⟩:=hz;subst hr;exact WU ⟨Y3,H3,I4,qn⟩
 ·refine pP hp (RA (T.item X rfl rfl rfl hc i aA s3 Y3 H3 X.xe I3 (fP mf) Wl go) λr s4 hz=>?_);obtain⟨u,hr,h4⟩:=hz;subst hr;refine pP hp (RA h4 λ_ s5 hz=>?_);obtain⟨x,H5,I5,r5,y5,sR,kW⟩:=hz;have Mr:=I5.pinned (fP kW) (T.obj _ _ sR);refine pP hp (RA (hg _ s5 Y3 H5 x u _ Mr r5 (step x H5 y5)) λ_ s6 hz=>?_);obtain⟨Y6,H6,I6,q6⟩:=hz;refine pP hp (RA (hb _ s6 Y6 H6 _ I6 q6) λf s7 q7=>?_)
  have again:∀{Y7:St} {H7:Hp},dA X (aA++jU fp s5.heap) Y7 H7 s7->N Y7 H7->∃m,m<n/\∃i Y' H',dA X aA Y' H' s7/\tn i s7.heap/\(∀b∈fp,H' b=none)/\W i m Y' H':=λ{Y7 H7} I7 n7=>by(obtain⟨m',hm,w7⟩:=hN Y7 H7 n7;refine⟨m',hm,i+1,Y7,H7,I7.bY,T.keep _ _ _ sR λb hb o e=>(I7.pin (b,o) (TH _ (TH _ (gX hb e)))).1,λb hb=>?_,w7⟩;obtain⟨o,e,d⟩:=T.obj _ _ sR b hb;exact(I7.pin (b,o) (TH _ (TH _ (gX hb e)))).2.1)
  cases f with
  |next=>obtain⟨Y7,H7,I7,n7⟩:=q7;exact again I7 n7
  |cont=>obtain⟨Y7,H7,I7,n7⟩:=q7;exact again I7 n7
  |brk=>obtain⟨Y7,H7,I7,q7⟩:=q7;exact⟨Y7,H7,I7.bY,q7⟩
  |ret v=>obtain⟨x7,Y7,H7,I7,r7,q7⟩:=q7;exact⟨x7,Y7,H7,I7.bY,r7,q7⟩
end
abbrev R2:=V->V->Hp->VK->Prop
def YC(X:Cx)(f:eA->eA->Sem eA)(r:R2):Prop :=
 ∀(aA:List (gA×DB)) (s:EA) (Y:St) (H:Hp) (x y:V) (v u:eA) (Q:VK),dA X aA Y H s->aAf x v->aAf y u->r x y H Q ->
  sA (model X.prog X.w) X.A (f v u) (EP X aA Y Q) X.xe s
def vZ(X:Cx)(f:eA->Sem eA)(r:V->Hp->VK->Prop):Prop :=
 ∀(aA:List (gA×DB)) (s:EA) (Y:St) (H:Hp) (x:V) (v:eA) (Q:VK),dA X aA Y H s->aAf x v->r x H Q ->
  sA (model X.prog X.w) X.A (f v) (EP X aA Y Q) X.xe s
def FF(X:Cx)(f:eA)(r:List V->Hp->VK->Prop):Prop :=
 ∀(aA:List (gA×DB)) (s:EA) (Y:St) (H:Hp) (xs:List V) (us:List eA) (Q:VK),dA X aA Y H s->aAd xs us->r xs H Q ->
  sA (model X.prog X.w) X.A (call f us) (EP X aA Y Q) X.xe s
def du(X:Cx)(r:V->Hp->(Bool->Hp->Prop)->Prop):Prop :=
 ∀(aA:List (gA×DB)) (s:EA) (Y:St) (H:Hp) (x:V) (v:eA) (Q:Bool->Hp->Prop),dA X aA Y H s->aAf x v->r x H Q ->
  sA (model X.prog X.w) X.A (truthy v) (TP X aA Y Q) X.xe s
def FU(r:R2)(ta tb:TE):TE:=λY H Q=>ta Y H λx H1=>tb Y H1 λy H2=>r x y H2 Q
def tUn(r:V->Hp->VK->Prop)(ta:TE):TE:=λY H Q=>ta Y H λx H1=>r x H1 Q
def rI(C:Int->Int->Prop)(g:Int->Int->V):R2:=λx y H Q=>∃i j,x=.int i/\y=.int j/\C i j/\Q (g i j) H
def mM(g:Int->Int->V):R2:=λx y H Q=>∃i j,x=.int i/\y=.int j/\Q (g i j) H
def rU(g:Int->V):V->Hp->VK->Prop:=λx H Q=>∃i,x=.int i/\Q (g i) H
section
variable{pos:XB}
def n0(ha:PE X a ta)(hb:PE X b tb){R:V->V->Hp->Prop}(I:dA X aA Y H s)
  (h:ta Y H λx H1=>tb Y H1 λy H2=>R x y H2) {f:eA->eA->Sem eA}
  (hf:∀v u s2 x y H2,dA X aA Y H2 s2->aAf x v->aAf y u->R x y H2->sA (model X.prog X.w) X.A (f v u) Q X.xe s2) :
  sA (model X.prog X.w) X.A (eval a X.env) (λv s₁=>sA (model X.prog X.w) X.A (eval b X.env) (λu s₂=>sA (model X.prog X.w) X.A (f v u) Q X.xe s₂) X.xe s₁) X.xe s:=by
 refine RA (ha aA s Y H _ I h) λv s1 hz=>?_
 obtain⟨x,H1,I1,r1,q1⟩:=hz;refine RA (hb aA s1 Y H1 _ I1 q1) λu s2 hz=>?_
 obtain⟨y,H2,I2,r2,q2⟩:=hz;exact hf v u s2 x y H2 I2 r1 r2 q2
def hQa(ho:YC X (rH op) r)(ha:PE X a ta)(hb:PE X b tb):PE X (.BinOp a op b pos) (FU r ta tb):=by
 intro aA s Y H Q I h;exact wpAny_BinOp (n0 ha hb I h λv u s2 x y H2 I2 rx ry q=>ho aA s2 Y H2 x y v u Q I2 rx ry q)
def lQa(ho:vZ X (unaryOp op) r)(ha:PE X a ta):PE X (.UnaryOp op a pos) (tUn r ta):=by
 intro aA s Y H Q I h;exact UnaryOp_ (RA (ha aA s Y H _ I h) λv s1 hz=>(by obtain⟨x,H1,I1,r1,q1⟩:=hz;exact ho aA s1 Y H1 x v Q I1 r1 q1))
def fU{g:Int->Int->Int}
  (rule:∀(i j:Int) (t u:uG) (s:EA) (Q:eA->EA->Prop) (E:eA->EA->Prop),C i j->Q (.int (g i j) s.toks) { s with toks:=s.toks+1 }->sA (model X.prog X.w) X.A (f (.int i t) (.int j u)) Q E s) :
  YC X f (rI C λi j=>.int (g i j)):=by
 intro aA s Y H x y v u Q I rx ry h;obtain⟨i,j,rfl,rfl,hc,q⟩:=h;obtain⟨t,rfl⟩:=rx;obtain⟨t',rfl⟩:=ry;exact rule i j t t' s _ _ hc ⟨.int (g i j),H,I.tok _,⟨_,rfl⟩,q⟩
def r8{g:Int->Int->Int}
  (rule:∀(i j:Int) (t u:uG) (s:EA) (Q:eA->EA->Prop) (E:eA->EA->Prop),Q (.int (g i j) s.toks) { s with toks:=s.toks+1 }->sA (model X.prog X.w) X.A (f (.int i t) (.int j u)) Q E s) :
  YC X f (mM λi j=>.int (g i j)):=by
 intro aA s Y H x y v u Q I rx ry h;obtain⟨i,j,rfl,rfl,q⟩:=h;obtain⟨t,rfl⟩:=rx;obtain⟨t',rfl⟩:=ry;exact rule i j t t' s _ _ ⟨.int (g i j),H,I.tok _,⟨_,rfl⟩,q⟩
def wX{g:Int->Int->Bool}
  (rule:∀(i j:Int) (t u:uG) (s:EA) (Q:eA->EA->Prop) (E:eA->EA->Prop),Q (.bool (g i j)) s->sA (model X.prog X.w) X.A (f (.int i t) (.int j u)) Q E s) :
  YC X f (mM λi j=>.bl (g i j)):=by
 intro aA s Y H x y v u Q I rx ry h;obtain⟨i,j,rfl,rfl,q⟩:=h;obtain⟨t,rfl⟩:=rx;obtain⟨t',rfl⟩:=ry;exact rule i j t t' s _ _ ⟨.bl (g i j),H,I,rfl,q⟩
def Dr(i j:Int):Prop:=0<=j/\j<=1000000/\i.natAbs<2 ^ 64
def YY(i j:Int):Prop:=(-(2 ^ 64)<i/\i<2 ^ 64)\/(-(2 ^ 64)<j/\j<2 ^ 64)
def YY.ok(h:YY i j):IntMulOk i j:=by
 rcases h with ⟨h1,h2⟩ | ⟨h1,h2⟩
 ·exact .of_left (intBits_le_64 h1 h2)
 ·exact .of_right (intBits_le_64 h1 h2)
def pZa(k:Nat):(0:Int)<=2 ^ k:=by
 rw[two_pow_cast];exact Int.natCast_nonneg _
def qNa:YC X (rH .Add) (mM λi j=>.int (i+j)):=r8 λ_ _ _ _ _ _ _ q=>add_int q
def iOa:YC X (rH .Sub) (mM λi j=>.int (i-j)):=r8 λ_ _ _ _ _ _ _ q=>sub_int q
def dOa:YC X (rH .Mult) (rI YY λi j=>.int (i*j)):=fU λ_ _ _ _ _ _ _ hc q=>mul_int q hc.ok
def cOa:YC X (rH .Mod) (rI (λ_ j=>0<j) λi j=>.int (i % j)):=fU λi j _ _ _ _ _ hc q=>by
 have h1:(0:Int)<j:=hc;exact mod_int' (by lia) (by rw[Int.fmod_eq_emod_of_nonneg i (by lia)];exact q)
def gOa:YC X (rH .LShift) (rI Dr λi j=>.int (i*2 ^ j.toNat)):=fU λ_ _ _ _ _ _ _ hc q=>lshift_int_small hc.1 hc.2.1 hc.2.2 q
def hOa:YC X (rH .RShift) (rI (λ_ j=>0<=j) λi j=>.int (i / 2 ^ j.toNat)):=fU λi j _ _ _ _ _ hc q =>
 rshift_int hc (by rw[qp i (pZa _)];exact q)
def rNa:YC X (rH .BitAnd) (mM λi j=>.int (vY i j)):=r8 λ_ _ _ _ _ _ _ q=>and_int q
def unI{g:Int->Int}
  (rule:∀(i:Int) (t:uG) (s:EA) (Q:eA->EA->Prop) (E:eA->EA->Prop),Q (.int (g i) s.toks) { s with toks:=s.toks+1 }->sA (model X.prog X.w) X.A (f (.int i t)) Q E s) :
  vZ X f (rU λi=>.int (g i)):=by
 intro aA s Y H x v Q I rx h;obtain⟨i,rfl,q⟩:=h;obtain⟨t,rfl⟩:=rx;exact rule i t s _ _ ⟨.int (g i),H,I.tok _,⟨_,rfl⟩,q⟩
def tZa:vZ X (unaryOp .USub) (rU λi=>.int (-i)):=unI λ_ _ _ _ _ q=>neg_int q
end
section
variable{pos:XB}
def Te(I:dA X aA Y H s)(q:Q (.bl k) H)(e:k=k'):EP X aA Y Q (.bool k') s:=by
 subst e;exact⟨.bl k,H,I,rfl,q⟩
def aOa:YC X (nF .Lt) (mM λi j=>.bl (decide (i<j))):=wX λ_ _ _ _ _ _ _ q=>sr q
def zNa:YC X (nF .LtE) (mM λi j=>.bl (decide (i<=j))):=wX λ_ _ _ _ _ _ _ q=>le_int q
def xNa:YC X (nF .Gt) (mM λi j=>.bl (decide (j<i))):=wX λ_ _ _ _ _ _ _ q=>gt_int q
def wNa:YC X (nF .GtE) (mM λi j=>.bl (decide (j<=i))):=wX λ_ _ _ _ _ _ _ q=>ge_int q
def yNa:YC X (nF .Is) (λx y H Q=>y=.iA/\Q (.bl (decide (x=.iA))) H):=by
 intro aA s Y H x y v u Q I rx ry h;obtain⟨rfl,q⟩:=h;cases ry;refine is_none_gen (Te I q ?_)
 cases x<;>first
  | (cases rx;rfl)
  | (obtain⟨t,rfl⟩:=rx;rfl)
def eOa:YC X (nF .IsNot) (λx y H Q=>y=.iA/\Q (.bl (!decide (x=.iA))) H):=by
 intro aA s Y H x y v u Q I rx ry h;obtain⟨rfl,q⟩:=h;cases ry;refine isnot_none_gen (Te I q ?_)
 cases x<;>first
  | (cases rx;rfl)
  | (obtain⟨t,rfl⟩:=rx;rfl)
def wPa(ho:YC X (nF op) r)(ha:PE X a ta)(hb:PE X b tb)(hm:aL op b=false):PE X (.Compare a [op] [b] pos) (FU r ta tb):=by
 intro aA s Y H Q I h;exact wpAny_Compare1 (n0 ha hb I h λv u s2 x y H2 I2 rx ry q=>ho aA s2 Y H2 x y v u Q I2 rx ry q) hm
def ko(t:TE):TT:=λY H Q=>t Y H λx H'=>∃k,x=.bl k/\Q k H'
def hTa(ho:YC X (nF op) r)(ha:PE X a ta)(hb:PE X b tb)(hm:aL op b=false):PT X (.Compare a [op] [b] pos) (ko (FU r ta tb)):=by
 intro aA s Y H Q I h
 refine wpAny_isTrue_Compare1 (RA (ha aA s Y H _ I h) λv s1 ⟨x,H1,I1,r1,q1⟩=>RA (hb aA s1 Y H1 _ I1 q1) λu s2 ⟨y,H2,I2,r2,q2⟩ =>
  RA (ho aA s2 Y H2 x y v u _ I2 r1 r2 q2) λc s3 ⟨z,H3,I3,r3,k,e,q3⟩=>?_) hm
 subst e;cases r3;exact DM ⟨H3,I3,q3⟩
def A9(r r':R2)(ta tb tc:TE):TE:=λY H Q=>ta Y H λx H1=>tb Y H1 λy H2=>r x y H2 λz H3=>∃k,z=.bl k /\
 (if k=true then tc Y H3 λw' H4=>r' y w' H4 Q else Q (.bl false) H3)
def vPa(ho:YC X (nF op) r)(HJ:YC X (nF rC) r')(ha:PE X a ta)(hb:PE X b tb)(hc:PE X c tc)
  (hm:lastMarks [op,rC] [b,c]=false:=by with_unfolding_all rfl):PE X (.Compare a [op,rC] [b,c] pos) (A9 r r' ta tb tc):=by
 intro aA s Y H Q I h
 refine Compare_chain (RA (ha aA s Y H _ I h) λv s1 ⟨x,H1,I1,r1,q1⟩=>chain_link (RA (hb aA s1 Y H1 _ I1 q1) λu s2 ⟨y,H2,I2,r2,q2⟩ =>
  RA (ho aA s2 Y H2 x y v u _ I2 r1 r2 q2) λd s3 ⟨z,H3,I3,r3,k,e,q3⟩=>?_)) hm
 subst e;cases r3;refine DM ?_
 cases k with
 |false=>exact ite_ff ⟨.bl false,H3,I3,rfl,q3⟩
 |true=>exact ite_tt (chain_last (RA (hc aA s3 Y H3 _ I3 q3) λw' s4 hz=>(by obtain⟨z',H4,I4,r4,q4⟩:=hz;exact HJ aA s4 Y H4 y z' u w' Q I4 r2 r4 q4)))
def gTa(ho:YC X (nF op) r)(HJ:YC X (nF rC) r')(ha:PE X a ta)(hb:PE X b tb)(hc:PE X c tc)
  (hm:lastMarks [op,rC] [b,c]=false:=by with_unfolding_all rfl):PT X (.Compare a [op,rC] [b,c] pos) (ko (A9 r r' ta tb tc)):=by
 intro aA s Y H Q I h
 refine isTrue_chain (RA (ha aA s Y H _ I h) λv s1 ⟨x,H1,I1,r1,q1⟩=>test_link (RA (hb aA s1 Y H1 _ I1 q1) λu s2 ⟨y,H2,I2,r2,q2⟩ =>
  RA (ho aA s2 Y H2 x y v u _ I2 r1 r2 q2) λd s3 ⟨z,H3,I3,r3,k,e,q3⟩=>?_)) hm
 subst e;cases r3;refine DM ?_
 cases k with
 |false =>
  obtain⟨k',e',q'⟩:=q3;cases e';exact ite_ff ⟨H3,I3,q'⟩
 |true =>
  refine ite_tt (test_last (RA (hc aA s3 Y H3 _ I3 q3) λw' s4 ⟨z',H4,I4,r4,q4⟩=>RA (HJ aA s4 Y H4 y z' u w' _ I4 r2 r4 q4) λd' s5 hz=>?_));obtain⟨z2,H5,I5,r5,k2,e2,q5⟩:=hz;subst e2;cases r5;exact DM ⟨H5,I5,q5⟩
def yV(K:fA)(x:V)(H:Hp)(k:Bool):Prop :=
 match x with
 |.iA=>k=false
 |.bl b=>k=b
 |.int i=>k=(i != 0)
 |.str y=>y.length<=sizeLine/\k=((y.length:Int) != 0)
 |.ref p=>(∃xs,GB K H p xs/\k=!xs.isEmpty)\/(∃xs,LC K H p xs/\k=!xs.isEmpty)\/∃kC,H p=some (.dK kC)/\k=!kC.isEmpty
 |_=>False
def qDa(r:KV kC vs):(!vs.isEmpty)=!kC.isEmpty:=by
 cases r<;>rfl
def bh(r:aAd xs cA):(!cA.toArray.isEmpty)=!xs.isEmpty:=by
 cases r<;>simp
def UO:(sizeLine:Nat)<2 ^ 63:=by rw[IP];decide
def uo:du X (λx H Q=>∃k,yV X.K x H k/\Q k H):=by
 intro aA s Y H x v Q I rx h;obtain⟨k,e,q⟩:=h;have hl:=UO;have hs:sizeLine=16777216:=IP
 cases x with
 |iA =>
  cases rx;have e':k=false:=e;subst e';exact truthy_none ⟨H,I,q⟩
 |bl b =>
  cases rx;have e':k=b:=e;subst e';exact DM ⟨H,I,q⟩
 |int i =>
  obtain⟨t,rfl⟩:=rx;have e':k=(i != 0):=e;subst e';exact PySem.P.truthy_int ⟨H,I,q⟩
 |str y =>
  obtain⟨t,rfl⟩:=rx;obtain⟨hy,e'⟩:y.length<=sizeLine/\k=((y.length:Int) != 0):=e;subst e';exact PySem.P.truthy_str (by lia) ⟨H,I.tok _,q⟩
 |ref p =>
  cases rx;have e':(∃xs,GB X.K H p xs/\k=!xs.isEmpty)\/(∃xs,LC X.K H p xs/\k=!xs.isEmpty)\/∃kC,H p=some (.dK kC)/\k=!kC.isEmpty:=e
  rcases e' with ⟨xs,hx,e'⟩ | ⟨xs,hx,e'⟩ | ⟨kC,hx,e'⟩
  ·subst e';obtain⟨cA,r,pl,hz⟩:=I.list hx;have qB:=r.length;exact wpAny_truthy_list pl.isList (by simp only[UC];lia) ⟨H,I.tok _,by rw[bh r];exact q⟩
  ·subst e';obtain⟨cA,r,pl,hz⟩:=I.tuple hx;have qB:=r.length;exact truthy_tuple pl (by simp only[UC];lia) ⟨H,I.tok _,by rw[bh r];exact q⟩
  ·subst e';obtain⟨hz,hS,vs,r,m⟩:kC.length<=sizeLine/\(p==sysModules)=false/\∃vs,KV kC vs/\s.heap.DictOf (XQ X.prog X.w) p vs:=I.KA p _ hx
   have qB:kC.length=vs.length:=qr r;exact wpAny_truthy_dict hS m (by lia) ⟨H,I.tok _,by rw[qDa r];exact q⟩
 |_=>exact(show False from e).elim
def Dk(ha:PE X a ta)(he:∀whole,isTrue a X.env whole=(do let v <- whole;standAt a.pos;holding [v] (truthy v))) :
  PT X a (λY H Q=>ta Y H λx H'=>∃k,yV X.K x H' k/\Q k H'):=by
 intro aA s Y H Q I h;exact isTrue_plain (RA (ha aA s Y H _ I h) λv s1 hz=>(by obtain⟨x,H1,I1,r1,q1⟩:=hz;exact uo aA s1 Y H1 x v Q I1 r1 q1)) (he _)
def aAw(r:aAd [x] us):∃u,us=[u]/\aAf x u:=by
 cases r with
 |cons r1 r2=>cases r2;exact⟨_,rfl,r1⟩
def aAQ(r:aAd [x,y] us):∃u w',us=[u,w']/\aAf x u/\aAf y w':=by
 cases r with
 |cons r1 r2 =>
  cases r2 with
  |cons r3 r4=>cases r4;exact⟨_,_,rfl,r1,r3⟩
def Ew:FF X (.builtin "abs") (λxs H Q=>∃i,xs=[.int i]/\Q (.int (if i<0 then -i else i)) H):=by
 intro aA s Y H xs us Q I r h;obtain⟨i,rfl,q⟩:=h;obtain⟨u,rfl,t,rfl⟩:=aAw r;exact call_abs_int λu tk=>⟨.int (if i<0 then -i else i),H,I.tok _,⟨_,rfl⟩,q⟩
def Jw(hc:X.calm=true):FF X (.builtin "max") (λxs H Q=>∃i j,xs=[.int i,.int j]/\Q (.int (if j > i then j else i)) H):=by
 intro aA s Y H xs us Q I r h;obtain⟨i,j,rfl,q⟩:=h;obtain⟨u,w',rfl,⟨t,rfl⟩,⟨t',rfl⟩⟩:=aAQ r;refine max_two_ints (I.ok.hd hc) λh' tk k=>⟨_,H,I.kept k, ?_,q⟩
 by_cases hj:j > i
 ·rw[QA hj,QA hj];exact⟨_,rfl⟩
 ·rw[UA hj,UA hj];exact⟨_,rfl⟩
def Jd:FF X (.type "int") (λxs H Q=>(∃i,xs=[.int i]/\Q (.int i) H)\/∃k,xs=[.bl k]/\Q (.int (if k then 1 else 0)) H):=by
 intro aA s Y H xs us Q I r h;rcases h with ⟨i,rfl,q⟩ | ⟨k,rfl,q⟩
 ·obtain⟨u,rfl,t,rfl⟩:=aAw r;exact call_int_int ⟨.int i,H,I,⟨_,rfl⟩,q⟩
 ·obtain⟨u,rfl,r1⟩:=aAw r;cases r1;exact call_int_bool ⟨.int (if k then 1 else 0),H,I.tok _,⟨_,rfl⟩,q⟩
end
structure UN(h:JB)(x dx C:gA)(mA:bA->Option eA):Prop where
 obj:h.get? x=some (FN C dx)
 ns:h.Ns1 dx mA
 ne:dx≠x
def sIa{h:JB}(n:h.Ns1 dx mA):∃od,h.get? dx=some od/\∀name,DY name od=some (mA name):=by
 obtain⟨o,es,ep,ho,hd,hk,_,hm⟩:=n;refine⟨o,ho,λname=>?_⟩;have e:=hm name;unfold nsFind findBy at e;rw[<- Array.find?_toList] at e;unfold DY;rw[hd];dsimp only;split
 ·rename_i y q;rw[q] at e;exact congrArg some e
 ·rename_i q;rw[q] at e
  have a:es.toList.any (·.refKey)=false:=by(rw[List.any_eq_false];intro y hy;obtain⟨z,t,bBa⟩:=hk y (Array.mem_toList_iff.mp hy);simp[DictEntry.refKey,bBa])
  have a':¬es.toList.any (·.refKey)=true:=by rw[a];exact dG
  rw[UA a'];exact congrArg some e
def UN.look(I:UN h x dx C mA):∃od,PySem.W.InstAt h x (FN C dx) C (some od)/\∀name,DY name od=some (mA name) :=
 let ⟨od,ho,hl⟩:=sIa I.ns
 ⟨od,⟨I.obj,rfl,rfl,ho⟩,hl⟩
section
variable{K:fA}
def aAX(X:K.In s.heap)(I:UN s.heap x dx C mA)(hg:GR K C name=true)(hh:TU K C=true)
  (ha:fG K (.ref C) name=some none) (hv:mA name=some v) (hv':Nq v=true) (h:Q v { s with toks:=s.toks+1 }) :
  sA (model prog w) A (getAttr (.ref x) name expr) Q E s:=by
 obtain⟨od,J,hl⟩:=I.look;exact PySem.W.get_value X J (Ka hg).1 (PySem.W.findObj_own hh ha rfl (by rw[hl,hv])) hv' h
def Y_(X:K.In s.heap)(I:UN s.heap x dx C mA)(hg:GR K C name=true)
  (hf:fG K (.ref C) name=some (some (.ref f))) (ht:fV K (.ref f)=true) (hv:mA name=none) (h:Q (.ref f,[.ref x]) s) :
  sA (model prog w) A (getMethod (.ref x) name pl) Q E s:=by
 obtain⟨od,J,hl⟩:=I.look;exact PySem.W.method_fn X J (Ka hg).1 (Ka hg).2 hf (VJ.mp ht) (by show(DY name od).map (·.isSome)=some false;rw[hl,hv];rfl) h
def gWa(X:K.In s.heap)(I:UN s.heap x dx C mA)
  (hs:fG K (.ref C) "__setattr__"=some (some (.builtin "object.__setattr__"))) (hp:Sa K C=true) (ht:jb K C name=some none) (hh:TU K C=true)
  (hw:Ib mA ns) (wB:ns.length<=sizeLine)
  (h:∀h',UN h' x dx C (λy=>if y=name then some v else mA y)->FI dx s.heap h'->Q () { s with heap:=h',toks:=s.toks+2 }) :
  sA (model prog w) A (setAttr (.ref x) name v) Q E s:=by
 obtain⟨od,J,hl⟩:=I.look;refine PySem.W.set_plain X J hs (PySem.W.osa_open (s:={ s with toks:=s.toks+1 }) (r:=none) X J hp ht λb=>?_);obtain⟨cd,hc,sF⟩:=PySem.W.any_some hh;have hx:s.heap.get? x=some ⟨.ref C,some dx,.plain,#[]⟩:=I.obj;refine rA (kB (rA (rA (wpAny_loadPart hx (rA (PySem.W.Looks.here (s:={ s with toks:=s.toks+1 }) (PySem.W.looks_clsIn X hc) ?_))))));rw[sF];refine kB (a:=some dx) (rA (kB (rA ?_)));refine wpAny_nsSet1 (s:={ s with toks:=s.toks+1 }) I.ns λh' AW oE=>?_
 obtain⟨oD,esD,epD,hoD,hdD,hcD⟩:=AW.count (PySem.Within.cons name v hw);refine rA (wpAny_lookBehind hoD (by rw[hdD];exact pastItsLine_dict (vD hcD (by rw[kD];lia))) ?_);exact kB (h _ ⟨(oE.2 _ (HE I.ne)).trans I.obj,AW,I.ne⟩ oE)
def bJa(X:K.In s.heap)(hm:AY K C=true)
  (hi:fG K (.ref C) "__init__"=some (some (.ref f))) (hf:PySem.W.typeIn K (.ref f)=some (.type "function"))
  (h:xM (model prog w) (A.under (.builtin "type.__call__" ⟨.ref C::vs,kw⟩)) (.call (.ref f) ⟨.ref (s.heap.objs.size+1)::vs,kw⟩) (PySem.W.InitBack (s.heap.objs.size+1) R)
   { s with heap:=(s.heap.push EM).push (FN C s.heap.objs.size) }) :
  xM (model prog w) A (.call (.ref C) ⟨vs,kw⟩) R s:=by
 obtain⟨hh,g,d,t,os⟩:=s;exact PySem.W.make_core (PySem.W.makes_of X hm) (PySem.W.looks_findIn X hi) (λself=>PySem.W.bind_fn X self hf) (.inl rfl) h
end
noncomputable def VF(f:bA)(v:V):List (bA×V)->List (bA×V)
 |[]=>[(f,v)]
 | (g,x)::r=>if g=f then(g,v)::r else(g,x)::VF f v r
theorem Si(f g:bA)(v:V):∀fs:List (bA×V),(VF f v fs).lookup g=if g=f then some v else fs.lookup g
 |[]=>by
  show cL g [(f,v)]=_;by_cases h:g=f
  ·have hb:(g==f)=true:=VJ.mpr h;simp only[cL,hb,QA h]
  ·have hb:(g==f)=false:=kP.mpr h;simp only[cL,hb,UA h]
 | (k,x)::r=>by
  have ih:=Si f g v r;rw[show VF f v ((k,x)::r)=(if k=f then(k,v)::r else(k,x)::VF f v r) from rfl];by_cases hk:k=f
  ·rw[QA hk];by_cases h:g=k
   ·have hb:(g==k)=true:=VJ.mpr h;simp only[cL,hb,QA (h.trans hk)]
   ·have hb:(g==k)=false:=kP.mpr h;simp only[cL,hb,UA (λe:g=f=>h (e.trans hk.symm))]
  ·rw[UA hk];by_cases h:g=k
   ·have hb:(g==k)=true:=VJ.mpr h;simp only[cL,hb,UA (λe:g=f=>hk (h.symm.trans e))]
   ·have hb:(g==k)=false:=kP.mpr h;simp only[cL,hb];exact ih
theorem O7(f:bA)(v:V):∀fs:List (bA×V),f∈(VF f v fs).map (·.1)/\∀g,g∈fs.map (·.1)->g∈(VF f v fs).map (·.1)
 |[]=>⟨by simp[VF],λg h=>by simp at h⟩
 | (k,x)::r=>by
  obtain⟨i1,i2⟩:=O7 f v r;rw[show VF f v ((k,x)::r)=(if k=f then(k,v)::r else(k,x)::VF f v r) from rfl];by_cases hk:k=f
  ·rw[QA hk];subst hk;exact⟨by simp,λg h=>by simpa using h⟩
  ·rw[UA hk];refine⟨?_,λg h=>?_⟩
   ·rw[CB];exact RD _ i1
   ·rw[CB] at h ⊢;rcases pD.mp h with e | e
    ·exact pD.mpr (.inl e)
    ·exact RD _ (i2 g e)
theorem Hi(f:bA)(v:V):∀fs:List (bA×V),(VF f v fs).length<=fs.length+1
 |[]=>by simp[VF]
 | (k,x)::r=>by
  have ih:=Hi f v r;rw[show VF f v ((k,x)::r)=(if k=f then(k,v)::r else(k,x)::VF f v r) from rfl];by_cases hk:k=f
  ·rw[QA hk,kD,kD];lia
  ·rw[UA hk,kD,kD];lia
def BH.some_of(r:BH (some v) o):∃u,o=some u/\aAf v u:=by
 cases o with
 |none=>exact(show False from r).elim
 |some u=>exact⟨u,rfl,r⟩
def BH.none_of(r:BH none o):o=none:=by
 cases o with
 |none=>rfl
 |some u=>exact(show False from r).elim
def W'(r:aAf v u):Nq u=true:=by
 cases v with
 |iA=>cases (show u=Value.none from r);rfl
 |bl b=>cases (show u=Value.bool b from r);rfl
 |int i=>obtain⟨t,e⟩:=(show ∃t,u=Value.int i t from r);cases e;rfl
 |str x=>obtain⟨t,e⟩:=(show ∃t,u=Value.str x t from r);cases e;rfl
 |ref a=>cases (show u=Value.ref a from r);rfl
 |ty n=>cases (show u=Value.type n from r);rfl
section
variable{fs fs':List (bA×V)}
def F6(KA:GD P w H h)(e:H a=some (.ins C dx fs)):∃mA,UN h a dx C mA/\(∀f,BH (fs.lookup f) (mA f))/\Ib mA (fs.map (·.1))/\fs.length<=1000/\H dx=some (.own a):=by
 obtain⟨d,z,ne,ob,mA,n,r,q⟩:=(show ID P w H h a (.ins C dx fs) from KA a _ e)
 exact⟨mA,⟨ob,n,ne⟩,r,q,z,d⟩
end
structure fE(K:fA)(C:gA):Prop where
 pg:GR K C Str.empty=true
 hd:TU K C=true
 po:Sa K C=true
 sa:fG K (.ref C) "__setattr__"=some (some (.builtin "object.__setattr__"))
def fE.get{K:fA}(c:fE K C)(f:bA):GR K C f=true:=c.pg
def QM(K:fA)(C:gA)(f:bA):Prop:=fG K (.ref C) f=some none
def QM.zYa{K:fA}(n:QM K C f):jb K C f=some none:=by
 unfold jb;rw[show fG K (.ref C) f=some none from n];rfl
structure Meth(K:fA)(C:gA)(m:bA)(f:gA):Prop where
 at_:fG K (.ref C) m=some (some (.ref f))
 fn:fV K (.ref f)=true
 kp:wH K (.ref f)=true
section
variable{E:eA->EA->Prop}
def Z_(I:dA X aA Y H s)(e:H a=some (.ins C dx fs))(c:fE X.K C)(n:QM X.K C f)(l:fs.lookup f=some v)
  (h:∀u s',dA X aA Y H s'->aAf v u->Q u s'):sA (model X.prog X.w) A (getAttr (.ref a) f b) Q E s:=by
 obtain⟨mA,O,r,_,_,_⟩:=F6 I.KA e;obtain⟨u,hu,ru⟩:=BH.some_of (o:=mA f) (by rw[<- l];exact r f);exact aAX I.jE O (c.get f) c.hd n hu (W' ru) (h u _ (I.tok _) ru)
def yf(I:dA X aA Y H s)(e:H a=some (.ins C dx fs))(c:fE X.K C)(k:Meth X.K C m g)(l:fs.lookup m=none)
  (h:Q (.ref g,[.ref a]) s):sA (model X.prog X.w) A (getMethod (.ref a) m pl) Q E s:=by
 obtain⟨mA,O,r,_,_,_⟩:=F6 I.KA e;have hn:mA m=none:=BH.none_of (by rw[<- l];exact r m);exact Y_ I.jE O (c.get m) k.at_ k.fn hn h
def hWa(I:dA X aA Y H s)(e:H a=some (.ins C dx fs))(c:fE X.K C)(n:QM X.K C f)(hl:fs.length<1000)(ry:aAf y u)
  (h:∀s',dA X aA Y (GA H a (.ins C dx (VF f y fs))) s'->Q () s'):sA (model X.prog X.w) A (setAttr (.ref a) f u) Q E s:=by
 obtain⟨mA,O,r,wi,_,ho⟩:=F6 I.KA e;have hz:(fs.map (·.1)).length<=sizeLine:=by rw[nA,IP];lia
 refine gWa I.jE O c.sa c.po n.zYa c.hd wi hz λh' O' sb=>h _ ?_
 have hd:∃o,h'.get? dx=some o:=let ⟨o,_,_,e',_⟩:=O'.ns;⟨o,e'⟩
 refine I.write (x:=a) (e:=dx) (by rw[e];exact True.intro) (.inr ho) (λb q hb z=>(sb.2 b hb).trans z) hd ?_;refine⟨by rw[BB O.ne];exact ho, ?_,O.ne,O'.obj,_,O'.ns,λg=>?_,λg hg=>?_⟩
 ·have:=Hi f y fs;lia
 ·show BH ((VF f y fs).lookup g) (if g=f then some u else mA g);rw[Si];by_cases q:g=f
  ·rw[QA q,QA q];exact ry
  ·rw[UA q,UA q];exact r g
 ·by_cases q:g=f
  ·rw[q];exact(O7 f y fs).1
  ·refine(O7 f y fs).2 g (wi g λz=>hg ?_);show(if g=f then some u else mA g)=none;rw[UA q];exact z
def dA.made(I:dA X aA Y H s):dA X aA Y (GA (GA H s.heap.objs.size (.own (s.heap.objs.size+1))) (s.heap.objs.size+1) (.ins C s.heap.objs.size []))
  { s with heap:=(s.heap.push EM).push (FN C s.heap.objs.size) }:=by
 have e1:(s.heap.push EM).get? s.heap.objs.size=some EM:=gF s.heap rfl
 have e2:((s.heap.push EM).push (FN C s.heap.objs.size)).get? (s.heap.objs.size+1)=some (FN C s.heap.objs.size):=by
  have:=gF (s.heap.push EM) (o:=FN C s.heap.objs.size) rfl
  rwa[EY] at this
 have e3:(s.heap.push EM).Ns s.heap.objs.size (λ_=>none):=⟨EM,#[],_,e1,rfl,(λe he=>absurd he (by simp)),λ_=>rfl⟩
 have I1:=I.laid (a:=s.heap.objs.size) (o:=.own (s.heap.objs.size+1)) (h':=s.heap.push EM) (t':=s.toks) (λb u q=>jD _ q) (zB _) ⟨_,e1⟩;refine I1.laid (a:=s.heap.objs.size+1) (o:=.ins C s.heap.objs.size []) (t':=s.toks) (λb u q=>jD _ q) (Jb (EY _ _)) ?_;have ne:s.heap.objs.size≠s.heap.objs.size+1:=sE (zI _);refine⟨by rw[BB ne,TC],UJ _,ne,e2,λ_=>none,(Heap.Ns1.of_empty e3).at λo q=>jD _ q,λ_=>True.intro,λy hy=>absurd rfl hy⟩
def Iu(hb:attributeBase e f env (eval e env)=eval e env)
  (h:sA (model prog w) A (eval e env) (λo s₁=>sA (model prog w) A (getAttr o f true) Q E s₁) E s):sA (model prog w) A (eval (.Attribute e f pos) env) Q E s :=
 Attribute_any_ h (by rw[arm_eval_Attribute,hb])
end
def eYa(K:fA)(ta:TE)(f:bA):TE:=λY H Q=>ta Y H λx H1=>∃a C dx fs v,x=.ref a/\H1 a=some (.ins C dx fs)/\fE K C/\QM K C f/\fs.lookup f=some v/\Q v H1
def pVa(K:fA)(ta tv:TE)(f:bA):TS:=λD Y H=>tv Y H λy H1=>ta Y H1 λx H2=>∃a C dx fs,x=.ref a/\H2 a=some (.ins C dx fs)/\fE K C/\QM K C f/\fs.length<1000 /\
 D.nx Y (GA H2 a (.ins C dx (VF f y fs)))
section
variable{ta tv:TE}
def aQa(he:PE X e ta)(hb:attributeBase e f X.env (eval e X.env)=eval e X.env):PE X (.Attribute e f pos) (eYa X.K ta f):=by
 intro aA s Y H Q I h;refine Iu hb (RA (he aA s Y H _ I h) λu s1 hz=>?_);obtain⟨x,H1,I1,rx,a,C,dx,fs,v,ex,ea,c,n,l,q⟩:=hz;subst ex;obtain rfl:u=Value.ref a:=rx;exact Z_ I1 ea c n l λu' s2 I2 ru=>⟨v,H1,I2,ru,q⟩
def lSa(ha:PE X o ta)(hv:PE X value tv)(hs:swapsWith value (some (.Attribute o f pos')) pos.line X.env=pure false):PS X (.Assign [.Attribute o f pos'] value pos) (pVa X.K ta tv f):=by
 intro aA s Y H D I h;refine plainObj_wpAny_Assign_Attribute (RA (hv aA s Y H _ I h) λu s1 ⟨y,H1,I1,ry,q⟩=>RA (ha aA s1 Y H1 _ I1 q) λov s2 hz=>?_) hs;obtain⟨x,H2,I2,rx,a,C,dx,fs,ex,ea,c,n,l,q2⟩:=hz;subst ex;obtain rfl:ov=Value.ref a:=rx;exact hWa I2 ea c n l ry λs3 I3=>⟨Y,_,I3,q2⟩
end
structure KC(k:Nat)(A:sG):Prop where
 hd:A.handled=none
 dp:A.depth+3*k+5<recursionLimit
 un:A.units+16*k+200<cLine
 gs:A.guards=some []
def KC.mono(r:KC k A)(h:j<=k):KC j A:=⟨r.hd,by have:=r.dp;lia,by have:=r.un;lia,by first | exact r.gs | simpa[yb,PR,Sb,LY,pushGuards,guardIds] using r.gs⟩
theorem KC.deeper(r:KC (k+1) A)(env:Env):KC k (A.deeper env) :=
 ⟨r.hd,by have:=r.dp;show A.depth+1+3*k+5<_;lia,by have:=r.un;show A.units+3+16*k+200<_;lia,by first | exact r.gs | simpa[yb,PR,Sb,LY,pushGuards,guardIds] using r.gs⟩
def aJa{A:sG}:(A.under (.builtin "type.__call__" ⟨.ref C::us,kw⟩)).depth=A.depth+1:=by
 first | rfl | simp[PR,Code.weight,Code.isCreation,LY,Code.isCaller,Code.frames,Kb,guardIds]
def cJa{A:sG}:(A.under (.builtin "type.__call__" ⟨.ref C::us,kw⟩)).units=A.units+1:=by
 first | rfl | simp[PR,Code.cUnits,Code.frames,Kb]
def KC.make(r:KC (k+1) A)(C:gA)(us:List eA)(kw:List (bA×eA)):KC k (A.under (.builtin "type.__call__" ⟨.ref C::us,kw⟩)) :=
 ⟨r.hd,by have:=r.dp;rw[aJa];lia,by have:=r.un;rw[cJa];lia,by first | exact r.gs | simpa[yb,PR,Sb,LY,pushGuards,guardIds] using r.gs⟩
theorem KC.depth(r:KC k A):A.depth<recursionLimit:=by have:=r.dp;lia
theorem KC.units(r:KC k A):A.units+64<cLine:=by have:=r.un;lia
def jP:TA:=λ_ H Q=>Q [] H
def iP(ta:TE)(tr:TA):TA:=λY H Q=>ta Y H λx H1=>tr Y H1 λxs H2=>Q (x::xs) H2
section
variable{pos:XB}
def ZO:PA X [] jP:=λ_ _ _ _ H Q I h=>Calls.spliced_nil ⟨[],H,I,.nil,h⟩
def lM(ha:PE X e te)(hr:PA X es t)(hs:bC (e::es) X.env=(false,eval e X.env)::bC es X.env:=by rfl):PA X (e::es) (iP te t):=by
 intro pos aA s Y H Q I h;rw[hs];show sA _ _ (spliced ((false,eval e X.env)::fF pos (bC es X.env))) _ _ s;refine Calls.spliced_cons (RA (ha aA s Y H _ I h) λu s1 hz=>?_);obtain⟨x,H1,I1,r1,q1⟩:=hz;exact RA (hr pos aA s1 Y H1 _ I1 q1) λus s2 hz=>(by obtain⟨xs,H2,I2,r2,q2⟩:=hz;exact⟨x::xs,H2,I2,.cons r1 r2,q2⟩)
def sYa(t:TA):TE:=λY H Q=>t Y H λxs H1=>xs.length<=sizeLine/\∀p,H1 p=none->Q (.ref p) (GA H1 p (.t xs))
def iYa(t:TA):TE:=λY H Q=>t Y H λxs H1=>xs.length<=sizeLine/\∀p,H1 p=none->Q (.ref p) (GA H1 p (.l xs))
def kQa{x1}(h:PA X es t):PE X (.Tuple es x1 pos) (sYa t):=by
 intro aA s Y H Q I hq;refine wpAny_Tuple_spliced (RA (h pos aA s Y H _ I hq) λus s1 ⟨xs,H1,I1,r,z,q⟩=>⟨by rw[<- r.length];exact z, ?_⟩);have hf:H1 s1.heap.objs.size=none:=I1.KA.fresh (zB _);refine⟨.ref s1.heap.objs.size,GA H1 s1.heap.objs.size (.t xs),I1.laid (t':=s1.toks) (λb u e=>jD _ e) (zB _) ?_,rfl,q _ hf⟩;exact⟨z,us,r,⟨_,gF _ rfl,rfl,_,rfl⟩⟩
def cQa(h:PA X es t):PE X (.List es pos) (iYa t):=by
 intro aA s Y H Q I hq;refine wpAny_List_spliced (RA (h pos aA s Y H _ I hq) λus s1 ⟨xs,H1,I1,r,z,q⟩=>⟨by rw[<- r.length];exact z, ?_⟩);have hf:H1 s1.heap.objs.size=none:=I1.KA.fresh (zB _);refine⟨.ref s1.heap.objs.size,GA H1 s1.heap.objs.size (.l xs),I1.laid (t':=s1.toks) (λb u e=>jD _ e) (zB _) ?_,rfl,q _ hf⟩;exact⟨z,us,0,r,gF _ rfl⟩
end
abbrev Sp:=List V->Hp->VK->XK->Prop
abbrev JM:=List Env->Hp->EA->XK->eA->EA->Prop
structure RN(P:bE)(w:IC)(K:fA)(mg:bA->Option eA)(base:JB)(A:sG)(outer:List Env)(s:EA)(H:Hp):Prop where
 frames:A.frames=some outer
 mod:Mod K mg base
 bs:∀b o,base.get? b=some o->s.heap.get? b=some o/\H b=none
 qJ:base.objs.size<=s.heap.objs.size
 BG:s.heap.FunFrames base outer
 tK:∀b∈iE outer,H b=none
 KA:GD P w H s.heap
 bare:fL s.gens
def CE(outer:List Env)(P:bE)(w:IC)(H:Hp)(s:EA)(Q:VK)(u:eA)(s':EA):Prop :=
 ∃v H',s'.os=s.os/\fL s'.gens/\Un (iE outer) [] H H' s.heap s'.heap/\GD P w H' s'.heap/\aAf v u/\Q v H'
def CR(CX:JM)(outer:List Env)(P:bE)(w:IC)(H:Hp)(s:EA)(Q:VK)(E:XK)(r:Result)(s':EA):Prop :=
 match r with
 |.ok (.ret u)=>CE outer P w H s Q u s'
 |.ok _=>False
 |.error e=>CX outer H s E e s'
structure oF(P:bE)(w:IC)(K:fA)(mg:bA->Option eA)(base:JB)(CX:JM)(k:Nat)(f:gA)(fd:SH)(ps:List bA)(sp:Sp):Prop where
 len:∀vs H Q E,sp vs H Q E->vs.length=ps.length
 run:∀(A:sG) (outer:List Env) (s:EA) (H:Hp) (args:Args) (us:List eA) (vs:List V) (Q:VK) (E:XK),KC k A->RN P w K mg base A outer s H->WY s fd args (ps.zip us)->aAd vs us->sp vs H Q E ->
  xM (model P w) A (.call (.ref f) args) (CR CX outer P w H s Q E) s
def RN.make{K:fA}(e:RN P w K mg base A outer s H)(C:gA)(us:List eA)(kw:List (bA×eA)) :
  RN P w K mg base (A.under (.builtin "type.__call__" ⟨.ref C::us,kw⟩)) outer s H:=⟨by first | exact e.frames | (simpa[PR,Code.envs,Kb,pushEnvs] using e.frames),e.mod,e.bs,e.qJ,e.BG,e.tK,e.KA,e.bare⟩
section
variable{X:Cx}{aA:List (gA×DB)}{Y:St}{H:Hp}{s s':EA}
def dA.KI(I:dA X aA Y H s):RN X.prog X.w X.K X.mg X.base X.A X.stack s H :=
 ⟨I.ok.frames,I.ok.mod,I.bs,vD I.ok.qJ I.sz,I.stack,I.p9,I.KA,I.bare⟩
def dA.after(I:dA X aA Y H s)(h:CE X.stack X.prog X.w H s Q u s'):EP X aA Y Q u s':=by
 obtain⟨v,H',os,bare,un,KA,r,q⟩:=h;obtain⟨hh,g,d,t,os'⟩:=s';obtain rfl:os'=s.os:=os;exact⟨v,H',I.call (h':=hh) (g':=g) (d':=d) (t':=t) (ch:=[]) un KA bare (λb z=>absurd z (by simp)),r,q⟩
end
def zXa(sp:Sp)(QE:List V)(E:XK)(t:TA):TE:=λY H Q=>t Y H λvs H1=>sp (vs++QE) H1 Q E
def C9(C:gA)(m:bA)(sp:Sp)(QE:List V)(E:XK)(ta:TE)(t:TA):TE:=λY H Q=>ta Y H λx H1=>∃a dx fs,x=.ref a/\H1 a=some (.ins C dx fs)/\fs.lookup m=none /\
 t Y H1 λvs H2=>sp (x::(vs++QE)) H2 Q E
def jYa(C:gA)(sp:Sp)(QE:List V)(E:XK)(t:TA):TE:=λY H Q=>t Y H λvs H1=>∀x dx,H1 x=none->H1 dx=none->dx≠x ->
 sp (.ref x::(vs++QE)) (GA (GA H1 dx (.own x)) x (.ins C dx [])) (λv H2=>v=.iA/\Q (.ref x) H2) E
def aAs(K:fA)(fd:SH)(ps:List bA)(ds:List eA):Prop :=
 ∀(s:EA) (us:List eA),K.In s.heap->(us++ds).length=ps.length->WY s fd ⟨us,[]⟩ (ps.zip (us++ds))
def aAs.all{K:fA}(h:∀us:List eA,us.length=ps.length->bindArgs fd ⟨us,[]⟩=pure (ps.zip us)):aAs K fd ps []:=λs us _ hl=>by
 rw[kE] at hl ⊢;exact .of_eq (h us hl)
def aAB(CX:JM)(X:Cx)(E:XK):Prop:=∀(aA:List (gA×DB)) (Y:St) (H:Hp) (s:EA) (e:eA) (s':EA),dA X aA Y H s->CX X.stack H s E e s'->X.xe e s'
section
variable{X:Cx}{CX:JM}{k:Nat}{f C:gA}{fd:SH}{ps:List bA}{sp:Sp}{QE:List V}{ds:List eA}{E:XK}{x m:bA}{p pos HB:XB}{e o:xA}{es:List xA}{ta:TE}{t:TA}
def T8(F:oF X.prog X.w X.K X.mg X.base CX k f fd ps sp)(hr:KC k X.A)(hb:aAs X.K fd ps ds)(hd:aAd QE ds)(hx:aAB CX X E)
  (I:dA X aA Y H s) (r:aAd vs us) (h:sp (vs++QE) H Q E):sA (model X.prog X.w) X.A (call (.ref f) us) (EP X aA Y Q) X.xe s:=by
 have r2:aAd (vs++QE) (us++ds):=r.append hd;have hl:(us++ds).length=ps.length:=by rw[<- r2.length];exact F.len _ _ _ _ h
 refine UY (GP (F.run X.A X.stack s H ⟨us,[]⟩ (us++ds) (vs++QE) Q E hr I.KI (hb s us I.jE hl) r2 h) λr s' hq=>?_)
 cases r with
 |error e=>exact hx aA Y H s e s' I hq
 |ok fl =>
  cases fl with
  |ret u=>exact I.after hq
  |next=>exact XG hq
  |brk=>exact XG hq
  |cont=>exact XG hq
def uPa(F:oF X.prog X.w X.K X.mg X.base CX k f fd ps sp)(hr:KC k X.A)(hg:Gl X x)(hm:X.mg x=some (.ref f))(hk:wH X.K (.ref f)=true)(hb:aAs X.K fd ps ds)(hd:aAd QE ds)(hx:aAB CX X E)
  (ha:PA X (e::es) t) (zJ:(x==("__debug__":bA))=false:=by decide) (he:bC (e::es) X.env=(false,eval e X.env)::bC es X.env:=by rfl) (PF:(fF pos (bC es X.env)).any (·.1)=false:=by rfl) :
  PE X (.Call (.Name x p) (e::es) [] pos) (zXa sp QE E t):=by
 intro aA s Y H Q I h;refine DR (VQ I hg hm ?_ zJ);refine uY (h₀:=X.base) I.ok.mod.kin hk (RA (ha pos aA s Y H _ I h) λus s1 ⟨vs,H1,I1,r,q⟩=>⟨I1.jE, ?_⟩) he PF;exact T8 F hr hb hd hx I1 r q
def eQa(he:PE X o ta)(c:fE X.K C)(hm:Meth X.K C m f)(F:oF X.prog X.w X.K X.mg X.base CX k f fd ps sp)(hr:KC k X.A)(hb:aAs X.K fd ps ds)(hd:aAd QE ds)(hx:aAB CX X E)(ha:PA X (e::es) t)
  (DG:bC (e::es) X.env=(false,eval e X.env)::bC es X.env:=by rfl) (PF:(fF pos (bC es X.env)).any (·.1)=false:=by rfl)
  (ht:eval (.Call (.Attribute o m HB) (e::es) [] pos) X.env=(do
   let ov <- eval o X.env
   standAt HB.atName
   let (f,first) <- holding [ov] (getMethod ov m pl)
   callWith pos f first (fF pos (bC (e::es) X.env)) (backToKw pos (keywordEach [] X.env))):=by rfl) :
  PE X (.Call (.Attribute o m HB) (e::es) [] pos) (C9 C m sp QE E ta t):=by
 intro aA s Y H Q I h;refine Lp (RA (he aA s Y H _ I h) λu s1 hz=>?_) ht;obtain⟨x,H1,I1,rx,a,dx,fs,ex,ea,l,q⟩:=hz;subst ex;obtain rfl:u=Value.ref a:=rx;refine yf I1 ea c hm l ?_;refine uY (first:=[.ref a]) (h₀:=X.base) I.ok.mod.kin hm.kp (RA (ha pos aA s1 Y H1 _ I1 q) λus s2 ⟨vs,H2,I2,r,q2⟩=>⟨I2.jE, ?_⟩) DG PF;exact T8 (us:=.ref a::us) (vs:=.ref a::vs) F hr hb hd hx I2 (.cons rfl r) q2
def fQa(he:PE X o ta)(c:fE X.K C)(hm:Meth X.K C m f)(F:oF X.prog X.w X.K X.mg X.base CX k f fd ps sp)(hr:KC k X.A)(hb:aAs X.K fd ps ds)(hd:aAd QE ds)(hx:aAB CX X E)
  (ht:eval (.Call (.Attribute o m HB) [] [] pos) X.env=(do
   let ov <- eval o X.env
   standAt HB.atName
   let (f,first) <- holding [ov] (getMethod ov m pl)
   callWith pos f first (fF pos (bC [] X.env)) (backToKw pos (keywordEach [] X.env))):=by rfl) :
  PE X (.Call (.Attribute o m HB) [] [] pos) (C9 C m sp QE E ta jP):=by
 intro aA s Y H Q I h;refine Lp (RA (he aA s Y H _ I h) λu s1 hz=>?_) ht;obtain⟨x,H1,I1,rx,a,dx,fs,ex,ea,l,q⟩:=hz;subst ex;obtain rfl:u=Value.ref a:=rx;refine yf I1 ea c hm l ?_;exact PySem.W.callWith_K0 (first:=[.ref a]) I1.jE hm.kp (T8 (us:=[.ref a]) (vs:=[.ref a]) F hr hb hd hx I1 (.cons rfl .nil) q)
structure Mk(K:fA)(C f:gA):Prop where
 makes:AY K C=true
 init:fG K (.ref C) "__init__"=some (some (.ref f))
 fn:fV K (.ref f)=true
 kp:wH K (.ref C)=true
def kVa(M:Mk X.K C f)(F:oF X.prog X.w X.K X.mg X.base CX k f fd ps sp)(hr:KC (k+1) X.A)(hb:aAs X.K fd ps ds)(hd:aAd QE ds)
  (hx:aAB CX X E) (I:dA X aA Y H s) (r:aAd vs us)
  (h:∀x dx,H x=none->H dx=none->dx≠x->sp (.ref x::(vs++QE)) (GA (GA H dx (.own x)) x (.ins C dx [])) (λv H2=>v=.iA/\Q (.ref x) H2) E) :
  sA (model X.prog X.w) X.A (call (.ref C) us) (EP X aA Y Q) X.xe s:=by
 have hq:=h (s.heap.objs.size+1) s.heap.objs.size (I.KA.fresh (jV _)) (I.KA.fresh (zB _)) (sE (zI _));have I2:=dA.made (C:=C) I;have r2:aAd (V.ref (s.heap.objs.size+1)::(vs++QE)) (Value.ref (s.heap.objs.size+1)::(us++ds)):=.cons rfl (r.append hd)
 have hl:(Value.ref (s.heap.objs.size+1)::us++ds).length=ps.length:=by(have e:=r2.length;rw[F.len _ _ _ _ hq] at e;exact e.symm)
 refine UY (bJa I.jE M.makes M.init (VJ.mp M.fn) (GP (F.run _ X.stack _ _ ⟨Value.ref (s.heap.objs.size+1)::us,[]⟩ (Value.ref (s.heap.objs.size+1)::(us++ds)) _ _ E (hr.make C us [])
  (I2.KI.make C us []) (hb _ (Value.ref (s.heap.objs.size+1)::us) I2.jE hl) r2 hq) λr s' kT=>?_))
 cases r with
 |error e=>exact hx aA Y _ _ e s' I2 kT
 |ok fl =>
  cases fl with
  |ret u =>
   obtain⟨v,H',I3,rv,ev,q3⟩:=I2.after kT;subst ev;exact⟨rv,⟨V.ref (s.heap.objs.size+1),H',I3,rfl,q3⟩⟩
  |next=>exact XG kT
  |brk=>exact XG kT
  |cont=>exact XG kT
def dQa(M:Mk X.K C f)(F:oF X.prog X.w X.K X.mg X.base CX k f fd ps sp)(hr:KC (k+1) X.A)(hg:Gl X x)(hm:X.mg x=some (.ref C))(hb:aAs X.K fd ps ds)(hd:aAd QE ds)(hx:aAB CX X E)
  (ha:PA X (e::es) t) (zJ:(x==("__debug__":bA))=false:=by decide) (he:bC (e::es) X.env=(false,eval e X.env)::bC es X.env:=by rfl) (PF:(fF pos (bC es X.env)).any (·.1)=false:=by rfl) :
  PE X (.Call (.Name x p) (e::es) [] pos) (jYa C sp QE E t):=by
 intro aA s Y H Q I h;refine DR (VQ I hg hm ?_ zJ);refine uY (h₀:=X.base) I.ok.mod.kin M.kp (RA (ha pos aA s Y H _ I h) λus s1 ⟨vs,H1,I1,r,q⟩=>⟨I1.jE, ?_⟩) he PF;exact kVa M F hr hb hd hx I1 r q
end
def PK(X:Cx)(NK:List XY)(t:TA):Prop :=
 ∀(pos:XB) (aA:List (gA×DB)) (s:EA) (Y:St) (H:Hp) (Q:List V->Hp->Prop),dA X aA Y H s->t Y H Q->sA (model X.prog X.w) X.A (evalAll ((backToKw pos (keywordEach NK X.env)).map (·.2))) (AP X aA Y Q) X.xe s
section
variable{nm:Option bA}
def bRa:PK X [] jP:=λ_ _ _ _ H Q I h=>wpAny_evalAll_nil ⟨[],H,I,.nil,h⟩
def aRa(ha:PE X e te)(hr:PK X NK t):PK X (⟨nm,e,kpos⟩::NK) (iP te t):=by
 intro pos aA s Y H Q I h;show sA _ _ (evalAll ((do let v <- eval e X.env;standAt pos;pure v)::(backToKw pos (keywordEach NK X.env)).map (·.2))) _ _ s;refine wpAny_evalAll_cons (rA (RA (ha aA s Y H _ I h) λu s1 ⟨x,H1,I1,r1,q1⟩=>rA (GY (kB ?_))));exact RA (hr pos aA s1 Y H1 _ I1 q1) λus s2 hz=>(by obtain⟨xs,H2,I2,r2,q2⟩:=hz;exact⟨x::xs,H2,I2,.cons r1 r2,q2⟩)
variable{g:List eA->List eA->List eA}{gV:List V->List V->List V}
end
structure OM(N P:List bA)(sc:cG):Prop where
 kind:sc.kind=.function
 co:sc.isCoroutine=false
 gen:sc.isGenerator=false
 nd:N.Nodup
 pre:N.take P.length=P
 par:∀x∈P,sc.names.lookup x=some .local\/sc.names.lookup x=some .cell
 fLa:∀y∈sc.names,y.2≠.free
theorem gd{kindOf:bA->Option WJ}:∀{binds:List (bA×eA)} {m:bA->Option eA},(∀v,(x,v) ∉ binds)->bindL kindOf binds m x=m x
 |[],_,_=>rfl
 | (n,v)::r,m,h=>by
  unfold bindL;rw[gd λw hw=>h w (RD _ hw)];split
  ·have:x≠n:=by rintro rfl;exact h v wG
   simp[this]
  ·rfl
theorem Yc{kindOf:bA->Option WJ}:∀{binds:List (bA×eA)} {m:bA->Option eA},(∀v,(x,v) ∉ binds)->bindC kindOf binds m x=m x
 |[],_,_=>rfl
 | (n,v)::r,m,h=>by
  unfold bindC;rw[Yc λw hw=>h w (RD _ hw)];split
  ·rfl
  ·have:x≠n:=by rintro rfl;exact h v wG
   simp[this]
theorem Zc{kindOf:bA->Option WJ}:∀{P:List bA} {vs:List eA} {i:Nat} {m:bA->Option eA},P.Nodup->P[i]?=some x->vs[i]?=some v->kindOf x=some .local ->
  bindL kindOf (P.zip vs) m x=some v
 |[],_,_,_,_,h,_,_=>by simp at h
 |_::_,[],_,_,_,_,h,_=>by simp at h
 |p::P,w::vs,0,m,nd,h1,h2,hk=>by
  simp at h1 h2;subst h1;subst h2;show bindL kindOf ((p,w)::P.zip vs) m p=_;unfold bindL;rw[gd λv hv=>(NR.mp nd).1 (pb hv).1,QA hk];simp
 |p::P,w::vs,i+1,m,nd,h1,h2,hk=>by(show bindL kindOf ((p,w)::P.zip vs) m x=_;unfold bindL;exact Zc (NR.mp nd).2 (by simpa using h1) (by simpa using h2) hk)
theorem Xc{kindOf:bA->Option WJ}:∀{P:List bA} {vs:List eA} {i:Nat} {m:bA->Option eA},P.Nodup->P[i]?=some x->vs[i]?=some v->kindOf x≠some .local ->
  bindC kindOf (P.zip vs) m x=some v
 |[],_,_,_,_,h,_,_=>by simp at h
 |_::_,[],_,_,_,_,h,_=>by simp at h
 |p::P,w::vs,0,m,nd,h1,h2,hk=>by
  simp at h1 h2;subst h1;subst h2;show bindC kindOf ((p,w)::P.zip vs) m p=_;unfold bindC;rw[Yc λv hv=>(NR.mp nd).1 (pb hv).1,UA hk];simp
 |p::P,w::vs,i+1,m,nd,h1,h2,hk=>by(show bindC kindOf ((p,w)::P.zip vs) m x=_;unfold bindC;exact Xc (NR.mp nd).2 (by simpa using h1) (by simpa using h2) hk)
noncomputable def start(N:List bA)(vs:List V):St:=vs.map some++NB (N.length-vs.length) none
noncomputable def cI(CX:JM)(P:bE)(w:IC)(K:fA)(mg:bA->Option eA)(base:JB)(N:List bA)(dB:bA)(scope:cG)(f:gA)(cd:eA)(A:sG)(outer:List Env)(s:EA)(H:Hp)(E:XK):Cx where
 prog:=P
 w:=w
 K:=K
 mg:=mg
 base:=base
 A:=A.deeper (envOfC dB scope s.heap.objs.size f cd)
 N:=N
 s₀:=s
 H₀:=H
 env:=envOfC dB scope s.heap.objs.size f cd
 outer:=outer
 stack:=envOfC dB scope s.heap.objs.size f cd::outer
 ex:=[]
 calm:=true
 fn:=λ_=>true
 pn:=[]
 xe:=λe s'=>sA (model P w) (A.deeper (envOfC dB scope s.heap.objs.size f cd)) (leaving (envOfC dB scope s.heap.objs.size f cd) e) (λ_ vU=>CX outer H s E e vU) (λe' vU=>CX outer H s E e' vU) s'
def Od{sc:cG}(h:sc.names.lookup x=some .cell):∃c,(cellsFrom n sc.names []).lookup x=some c:=by
 have q:=Ip sc.names n [] (.inl h);exact Option.isSome_iff_exists.mp q
def bDa{K:fA}
  (S:OM N ps scope) (hd:A.handled=none) (e0:RN P w K mg base A outer s H) (hl:vs.length=ps.length) (r:aAd vs us)
  (x:InCallC s s.heap.objs.size (bindL (envOfC dB scope s.heap.objs.size f cd).kindOf (ps.zip us) λ_=>none) (cellsFrom (s.heap.objs.size+1) scope.names []) (bindC (envOfC dB scope s.heap.objs.size f cd).kindOf (ps.zip us) λ_=>none) s1) :
  dA (cI CX P w K mg base N dB scope f cd A outer s H E) [] (start N vs) H s1:=by
 have PF:ps.length<=N.length:=by have:=congrArg PH S.pre;rw[bK] at this;lia
 obtain⟨h1,tk,rfl,hk⟩:=x.done;have ZT:∀b:gA,b ∉ (cI CX P w K mg base N dB scope f cd A outer s H E).ex:=λb z=>absurd (show b∈([]:List gA) from z) (by simp)
 refine⟨⟨e0.mod,S.kind,rfl,rfl,zB _,λy z c h1 h2=>?_,λy hy=>?_,λy c _ h=>?_,λ_=>hd,Around.frames_deeper e0.frames,.inr ⟨rfl,rfl⟩,λb z=>absurd z (ZT b),e0.bs,e0.qJ,λb _ _=>ZT b,λb z=>absurd z (ZT b),e0.BG,e0.tK⟩,
  rfl,e0.bare,Un.kept hk,⟨_,x.toInCall.ns,λi y v h1 h2 h3=>?_⟩,λy c h=>⟨_,x.cell y c h⟩,e0.KA.fresh (zB _),λy c h=>?_,λp hp=>absurd (show p∈([]:List (gA×DB)) from hp) (by simp),e0.KA.kept hk, ?_⟩
 ·exact name_of_addr x.apart (MU h1) (MU h2)
 ·have hy:scope.names.lookup y=some .cell\/scope.names.lookup y=some .free:=hy;rcases hy with hy | hy
  ·exact Od hy
  ·exact absurd rfl (S.fLa _ (MU hy))
 ·exact JY (x.above y c (MU h))
 ·have hi:i<vs.length:=by
   unfold start at h2;by_cases hi:i<vs.length
   ·exact hi
   ·rw[QR (by simpa using hi)] at h2;rw[qa] at h2;split at h2<;>cases h2
  have ha:vs[i]?=some v:=by
   unfold start at h2;rw[KP (by simpa using hi),MD] at h2
   cases e:vs[i]? with
   |none=>rw[e] at h2;cases h2
   |some a=>rw[e] at h2;cases h2;rfl
  obtain⟨u,hu,rv⟩:=r.get ha
  have hp:ps[i]?=some y:=by(rw[<- S.pre,List.getElem?_take_of_lt (by lia)];exact h1)
  have gj:ps.Nodup:=by rw[<- S.pre];exact S.nd.sublist (List.take_sublist _ _)
  refine⟨u,rv, ?_⟩;rcases S.par y (fJ hp) with k | k
  ·exact .inl ⟨k,Zc gj hp hu k⟩
  ·obtain⟨c,e⟩:=Od (n:=s.heap.objs.size+1) k;refine .inr ⟨.inl k,c,e, ?_⟩;have q:=x.cell y c e;rw[Xc gj hp hu (by show scope.names.lookup y≠_;rw[k];decide)] at q;exact q
 ·exact e0.KA.fresh (JY (x.above y c (MU h)))
 ·unfold start;show _=N.length;rw[gC,nA,Mp]
  lia
def We{K:fA}{dV kV doc pm bB ct oc:eA}{an od:Option gA}(lk:K.lookup f=some ⟨oc,od,.func (VH name dB params body scope dV kV doc pm an bB ct),zF⟩)(OI:yP K bB dB=true)(S:OM N ps scope)
  (len:∀vs H Q E,sp vs H Q E->vs.length=ps.length)
  (N5:∀(A:sG) (outer:List Env) (s:EA) (H:Hp) (vs:List V) (Q:VK) (E:XK),KC k (A.deeper (envOfC dB scope s.heap.objs.size f bB))->sp vs H Q E ->
   ∃t,HC (cI CX P w K mg base N dB scope f bB A outer s H E) body t/\t { nx:=λ_ H'=>Q .iA H',rt:=Q } (start N vs) H) :
  oF P w K mg base CX (k+1) f (VH name dB params body scope dV kV doc pm an bB ct) ps sp:=by
 refine⟨len,λA outer s H args us vs Q E hr e0 hb r lI=>?_⟩;have hl:=len _ _ _ _ lI;have KX:K.In s.heap:=e0.mod.kin.keeps λb o e=>(e0.bs b o e).1
 have lim:s.heap.NoLimit:=e0.mod.nolimit.keeps λb o e=>(e0.bs b o e).1
 have GJ:∀y∈ps.zip us,scope.names.lookup y.1=some .local\/(scope.names.lookup y.1=some .cell/\((cellsFrom (s.heap.objs.size+1) scope.names []).lookup y.1).isSome=true):=λ⟨n,v⟩ hy=>by
  rcases S.par n (pb hy).1 with q | q
  ·exact .inl q
  ·exact .inr ⟨q,Ip _ _ _ (.inl q)⟩
 refine codeAny_call_function hr.depth (KX _ _ lk) rfl S.co S.gen rfl (PySem.W.codeRec_of KX OI) (hb _ _ _ _ ?_);refine wpAny_newFunctionEnv_cells S.kind GJ λenv he s1 x=>?_
 subst he;refine⟨lim.keeps x.toInCall.keep,codeAny_func ?_⟩;obtain⟨t,ht,hq⟩:=N5 A outer s H vs Q E (hr.deeper _) lI;have I:dA (cI CX P w K mg base N dB scope f bB A outer s H E) [] (start N vs) H s1:=bDa S hr.hd e0 hl r x;refine QH (ht [] s1 (start N vs) H _ I hq) (λfl s' hs=>?_) λe s' hs=>hs
 have iB:∀{Y':St} {H':Hp} {v:V} {u:eA},dA (cI CX P w K mg base N dB scope f bB A outer s H E) [] Y' H' s'->aAf v u->Q v H'->CE outer P w H s Q u s' :=
  λ{Y' H' v u} J rv q=>⟨v,H',J.os,J.bare,J.base,J.KA,rv,q⟩
 cases fl with
 |ret u =>
  obtain⟨v,Y',H',J,rv,q⟩:=hs;exact iB J rv q
 |next =>
  obtain⟨Y',H',J,q⟩:=hs;exact iB (v:=V.iA) (u:=Value.none) J rfl q
 |brk =>
  obtain⟨_,_,_,q⟩:=hs;exact XG q
 |cont =>
  obtain⟨_,_,_,q⟩:=hs;exact XG q
section
variable{id T:String}
def z9(r:List V->Hp->VK->Prop)(t:TA):TE:=λY H Q=>t Y H λvs H1=>r vs H1 Q
def z8(hc:FF X (.builtin id) r)(hg:Gl X x)(hm:X.mg x=none)(hv:bL x=some (.builtin id))(ha:PA X (e::es) t)(hn:x≠"__name__":=by decide)(zJ:(x==("__debug__":bA))=false:=by decide)
  (he:bC (e::es) X.env=(false,eval e X.env)::bC es X.env:=by rfl) (PF:(fF pos (bC es X.env)).any (·.1)=false:=by rfl):PE X (.Call (.Name x p) (e::es) [] pos) (z9 r t):=by
 intro aA s Y H Q I h;refine DR (iN I hg hm hv ?_ hn zJ);exact PyProof.Rows.callWith_builtin1 (RA (ha pos aA s Y H _ I h) λus s1 hz=>(by obtain⟨vs,H1,I1,r1,q1⟩:=hz;exact hc aA s1 Y H1 vs us Q I1 r1 q1)) he PF
def Rj(hc:FF X (.type T) r)(hg:Gl X x)(hm:X.mg x=none)(hv:bL x=some (.type T))(ha:PA X (e::es) t)(hn:x≠"__name__":=by decide)(zJ:(x==("__debug__":bA))=false:=by decide)
  (he:bC (e::es) X.env=(false,eval e X.env)::bC es X.env:=by rfl) (PF:(fF pos (bC es X.env)).any (·.1)=false:=by rfl):PE X (.Call (.Name x p) (e::es) [] pos) (z9 r t):=by
 intro aA s Y H Q I h;refine DR (iN I hg hm hv ?_ hn zJ);exact JU (RA (ha pos aA s Y H _ I h) λus s1 hz=>(by obtain⟨vs,H1,I1,r1,q1⟩:=hz;exact hc aA s1 Y H1 vs us Q I1 r1 q1)) he PF
end
end L2
namespace HT
open PySem PyProof.Rows
noncomputable def aAy:List Int->List Int->Bool
 |[],[]=>false
 |[],_::_=>true
 |_::_,[]=>false
 |x::xs,y::ys=>if x=y then aAy xs ys else decide (x<y)
theorem Ji(x y:Int)(xs ys:List Int):aAy (x::xs) (y::ys)=if x=y then aAy xs ys else decide (x<y):=rfl
def qy(A:sG)(s:EA)(a:Int)(t:uG)(c:Int)(u:uG):∃e,Zb A s (.int a t) (.int c u) e/\(e=true↔a=c) :=
 ⟨(a==c),vq a t c u,by simp⟩
def nUa(A:sG)(s:EA)(a:Int)(t:uG)(c:Int)(u:uG)(prog:bE)(w:IC)(E:eA->EA->Prop)(Q:eA->EA->Prop)(h:Q (.bool (decide (a<c))) s) :
  sA (model prog w) A (richCompare .Lt (.int a t) (.int c u)) Q E s :=
 (sr h:sA (model prog w) A (nF .Lt (.int a t) (.int c u)) Q E s)
section
variable{s:EA}
def Pw(ht:ON s.heap t vs.toArray)(hb:ON s.heap b ws.toArray)(hv:vs≠[])
  (h1:ws=[]->Q (.ref t) s) (h2:ws≠[]->Q (.ref s.heap.objs.size) { s with heap:=s.heap.push { cls:=.type "tuple",data:=.seq (vs++ws).toArray } })
  (wB:vs.length+ws.length<=sizeLine):sA (model prog w) A (rH .Add (.ref t) (.ref b)) Q E s:=by
 obtain⟨⟨cls,dd,data,sl⟩,ho,hc,n,hd⟩:=id ht;obtain⟨⟨L0,rJ,data2,aJ⟩,CK,vK,n2,hd2⟩:=id hb;simp only at hc hd vK hd2;subst hc hd vK hd2;have e:vs.toArray++ws.toArray=(vs++ws).toArray:=by simp
 by_cases hw:ws=[]
 ·exact MY ⟨_,ho,rfl⟩ ⟨_,CK,rfl⟩ Wa Ab za ua (ja _ _)
   (tuple_addW1 t b vs.toArray ws.toArray n n2 dd rJ sl aJ (by simpa using hv) (by simp[hw])) ⟨ho,CK,h1 hw⟩
 ·refine MY ⟨_,ho,rfl⟩ ⟨_,CK,rfl⟩ Wa Ab za ua (ja _ _)
   (tuple_addW2 t b vs.toArray ws.toArray n n2 dd rJ sl aJ (by simpa using hv) (by simpa using hw) (by rw[UC,UC];exact wB)) ⟨ho,CK, ?_⟩
  rw[e];exact h2 hw
noncomputable def nB(n d:Nat):Option Int->Nat
 |none=>d
 |some v=>if v<0 then(v+(n:Int)).toNat else min v.toNat n
theorem wU(n d:Nat):nB n d none=d:=rfl
def oR(n d k:Nat):nB n d (some (k:Int))=min k n:=by
 show(if(k:Int)<0 then((k:Int)+(n:Int)).toNat else min (k:Int).toNat n)=min k n;rw[UA (by lia),gJ]
def qVa(n d:Nat)(hd:d<=n)(o:Option Int):nB n d o<=n:=by
 cases o with
 |none=>exact hd
 |some v =>
  show(if v<0 then(v+(n:Int)).toNat else min v.toNat n)<=n;by_cases hv:v<0
  ·rw[QA hv];lia
  ·rw[UA hv];exact Nat.min_le_right _ _
def Qd(v:Int)(n d:Nat):(if v<0 then max (v+(n:Int)) 0 else min v (n:Int))=((nB n d (some v):Nat):Int):=by
 show(if v<0 then max (v+(n:Int)) 0 else min v (n:Int))=(((if v<0 then(v+(n:Int)).toNat else min v.toNat n):Nat):Int);by_cases hv:v<0
 ·simp only[QA hv];lia
 ·simp only[UA hv];lia
def ju(lo hi:Option Int)(n:Nat):da lo hi 1 (n:Int)=(((nB n 0 lo:Nat):Int),((nB n n hi:Nat):Int)):=by
 have h1:¬((1:Int)<0):=by lia
 unfold da;simp only[h1,if_false];refine qc ?_ ?_
 ·cases lo with
  |none=>rfl
  |some v=>exact Qd v n 0
 ·cases hi with
  |none=>rfl
  |some v=>exact Qd v n n
def cRa(i j:Nat):iY (i:Int) (j:Int) 1=j-i:=by
 unfold iY;have h1:(1:Int) > 0:=by lia
 simp only[h1,if_true,Int.ediv_one]
 split<;>lia
def Ml(p:XJ v o)(h:Q o s):sA (model prog w) A (Builtin.Slice.slicePartIndex v) Q E s:=by
 cases p with
 |none=>exact slicePart_none h
 |int i t=>exact slicePart_int h
def Ll{lo hi:Option Int}{Q:Int×Int×Nat->EA->Prop}(hs:s.heap.IsSliceOf sl vl vu .none)(pl:XJ vl lo)(pu:XJ vu hi)
  (h:Q (((nB n 0 lo:Nat):Int),1,nB n n hi-nB n 0 lo) s):sA (model prog w) A (vp (.ref sl) (pure (n:Int))) Q E s:=by
 obtain⟨os,FO,OL,LB⟩:=id hs;unfold vp Builtin.Slice.sliceFields;refine rA (rA (xI FO LB (x:=vl) rfl (rA (xI FO LB (x:=vu) rfl (rA (xI FO LB (x:=.none) rfl (kB ?_)))))));refine rA (slicePart_none ?_);show sA _ _ (if((1:Int)==0)=true then _ else _) _ _ s;rw[UA (by decide)];refine rA (Ml pl (rA (Ml pu (rA (kB ?_)))));show sA _ _ (match da lo hi 1 (n:Int) with | (lo,hi)=>pure (lo,(1:Int),iY lo hi 1)) _ _ s;rw[ju lo hi n];show sA _ _ (pure (((nB n 0 lo:Nat):Int),(1:Int),iY ((nB n 0 lo:Nat):Int) ((nB n n hi:Nat):Int) 1)) _ _ s;rw[cRa];exact kB h
def wQa(xs:Array eA)(i k:Nat):((UB k).filterMap λ(m:Nat)=>xs[((i:Int)+(m:Int)*1).toNat]?).toArray=((xs.toList.drop i).take k).toArray:=by
 have e:(λ(m:Nat)=>xs[((i:Int)+(m:Int)*1).toNat]?)=λm=>xs[i+m]?:=by
  funext m
  have:((i:Int)+(m:Int)*1).toNat=i+m:=by lia
  rw[this]
 rw[e]
 have:=pick_run xs i k
 rw[List.filterMap_map] at this;have e2:((λx=>xs[x]?) ∘ λx=>i+x)=λm=>xs[i+m]?:=rfl
 rw[e2] at this;rw[this]
def X_{lo hi:Option Int}(ht:ON s.heap t items)(hs:s.heap.IsSliceOf sl vl vu .none)(pl:XJ vl lo)(pu:XJ vu hi)
  (hw:¬(nB items.size 0 lo=0/\nB items.size items.size hi=items.size))
  (h:Q (.ref s.heap.objs.size) { s with heap:=s.heap.push { cls:=.type "tuple",data:=.seq ((items.toList.drop (nB items.size 0 lo)).take (nB items.size items.size hi-nB items.size 0 lo)).toArray } })
  (wB:items.size<=sizeLine):sA (model prog w) A (getItem (.ref t) (.ref sl)) Q E s:=by
 have KW:sizeOk (.seq ((items.toList.drop (nB items.size 0 lo)).take (nB items.size items.size hi-nB items.size 0 lo)).toArray):=by(show((items.toList.drop (nB items.size 0 lo)).take (nB items.size items.size hi-nB items.size 0 lo)).toArray.size<=sizeLine;rw[UC,bK,cK,jL];omega)
 have hj:nB items.size items.size hi<=items.size:=qVa _ _ (zB _) hi;obtain⟨os,FO,OL,LB⟩:=id hs;have J5:s.TypeIs (.ref sl) "slice":=⟨os,FO,OL⟩
 unfold getItem
 try with_reducible refine JN ?_
 first | refine rA (kB ?_) | skip
 refine rA (Gq ht.typeIs (by decide) ?_)
 refine rA (zR (name:=wA "__getitem__") ht.typeIs JP
  (HR JP ht.typeIs lq ?_ (wq _ _)))
 show sA _ _ (aa (.ref t)>>=_) _ _ s;refine rA (Bb ht ?_);refine rA (Lb J5 ?_);rw[QA (by decide)];refine rA (Ll hs pl pu ?_)
 have eH:¬((((nB items.size 0 lo:Nat):Int)==0&&(1:Int)==1&&(nB items.size items.size hi-nB items.size 0 lo)==items.size)=true):=by(intro q;rw[aB,aB] at q;have q1:((nB items.size 0 lo:Nat):Int)=0:=GC q.1.1;have q2:nB items.size items.size hi-nB items.size 0 lo=items.size:=GC q.2;exact hw ⟨by omega,by omega⟩)
 show sA _ _ (if(((nB items.size 0 lo:Nat):Int)==0&&(1:Int)==1&&(nB items.size items.size hi-nB items.size 0 lo)==items.size)=true then _ else _) _ _ s;rw[UA eH,wQa]
 first
  |exact rA (m:=jY _) (HM (kB ⟨_,rfl,kB h⟩) KW)
  |exact rA (m:=jY _) (HM (rA (kB (kB ⟨_,rfl,kB h⟩))) KW)
  |exact rA (rA (m:=jY _) (HM (kB (kB ⟨_,rfl,kB h⟩)) KW))
  |exact rA (rA (m:=jY _) (HM (kB ⟨_,rfl,kB h⟩) KW))
end
end HT
namespace L2
open PySem PySem.Spec PyProof.Rows
abbrev TO:=St->Hp->(Option Int->Hp->Prop)->Prop
def PO(X:Cx)(e:Option xA)(t:TO):Prop :=
 ∀(aA:List (gA×DB)) (s:EA) (Y:St) (H:Hp) (Q:Option Int->Hp->Prop),dA X aA Y H s->t Y H Q ->
  sA (model X.prog X.w) X.A (evalPart e X.env) (λu s'=>∃o H',dA X aA Y H' s'/\XJ u o/\Q o H') X.xe s
def kYa:TO:=λ_ H Q=>Q none H
def mYa(t:TE):TO:=λY H Q=>t Y H λx H1=>∃i,x=.int i/\Q (some i) H1
def aAI:∀{us:List eA},aAd (ns.map V.int) us->dJ us ns:=by
 induction ns with
 |nil=>intro us r;rw[sM] at r;cases r;exact .nil
 |cons n ns ih =>
  intro us r;rw[CB] at r
  cases r with
  |cons r1 r2 =>
   obtain⟨t,e⟩:=r1;subst e;exact .cons n t (ih r2)
section
variable{lo hi:Option xA}
def dRa:PO X none kYa:=by
 intro aA s Y H Q I h;rw[evalPart_none];exact kB ⟨none,H,I,.none,h⟩
def fRa(h:PE X e te):PO X (some e) (mYa te):=by
 intro aA s Y H Q I hw;rw[evalPart_some];refine RA (h aA s Y H _ I hw) λu s1 hz=>?_
 obtain⟨x,H1,I1,r1,q1⟩:=hz;obtain⟨i,rfl,q⟩:=q1;obtain⟨t,rfl⟩:=r1;exact⟨some i,H1,I1,.int i t,q⟩
def lK(X:Cx)(r:V->Option Int->Option Int->Hp->VK->Prop):Prop :=
 ∀(aA:List (gA×DB)) (s:EA) (Y:St) (H:Hp) (x:V) (v vl vu:eA) (lo hi:Option Int) (sl:gA) (Q:VK),dA X aA Y H s->aAf x v->s.heap.IsSliceOf sl vl vu .none->XJ vl lo->XJ vu hi->r x lo hi H Q ->
  ∃T id,typeLookup (.type T) "__getitem__"=pure (some (.builtin id))/\s.TypeIs v T/\sA (model X.prog X.w) X.A (getItem v (.ref sl)) (EP X aA Y Q) X.xe s
def lK.or(h:lK X r)(h':lK X r'):lK X (λx lo hi H Q=>r x lo hi H Q\/r' x lo hi H Q):=by
 intro aA s Y H x v vl vu lo hi sl Q I rx hs pl pu q;rcases q with q | q
 ·exact h aA s Y H x v vl vu lo hi sl Q I rx hs pl pu q
 ·exact h' aA s Y H x v vl vu lo hi sl Q I rx hs pl pu q
def tSl(r:V->Option Int->Option Int->Hp->VK->Prop)(te:TE)(tl th:TO):TE:=λY H Q=>te Y H λx H1=>tl Y H1 λl H2=>th Y H2 λu H3=>r x l u H3 Q
def iQa(hr:lK X r)(he:PE X e te)(hl:PO X lo tl)(hu:PO X hi th):PE X (.Subscript e (.Slice lo hi none p2) pos) (tSl r te tl th):=by
 intro aA s Y H Q I h;refine Subscript_ (RA (he aA s Y H _ I h) λv s1 hz=>?_);obtain⟨x,H1,I1,r1,q1⟩:=hz;refine wpAny_Slice (RA (hl aA s1 Y H1 _ I1 q1) λvl s2 ⟨l,H2,I2,pl,q2⟩=>RA (hu aA s2 Y H2 _ I2 q2) λvu s3 hz=>?_);obtain⟨u,H3,I3,pu,q3⟩:=hz;rw[evalPart_none];refine kB ?_;have I4:dA X aA Y H3 { s3 with heap:=s3.heap.push { cls:=.type "slice",data:=.fields #[vl,vu,.none] } }:=I3.kept (t':=s3.toks) λb ob q=>jD _ q
 obtain⟨T,id,hT,ht,hg⟩:=hr aA { s3 with heap:=s3.heap.push { cls:=.type "slice",data:=.fields #[vl,vu,.none] } } Y H3 x v vl vu l u s3.heap.objs.size Q I4 r1 (e1a ..) pl pu q3;show sA (model X.prog X.w) X.A (subscriptTail e (.Slice lo hi none p2) v (.ref s3.heap.objs.size)) (EP X aA Y Q) X.xe { s3 with heap:=s3.heap.push { cls:=.type "slice",data:=.fields #[vl,vu,.none] } };exact tail_any (ops:=[.ref s3.heap.objs.size,v]) ht hT hg (by with_unfolding_all rfl)
def AL(xs:List V)(lo hi:Option Int):List V:=(xs.drop (HT.nB xs.length 0 lo)).take (HT.nB xs.length xs.length hi-HT.nB xs.length 0 lo)
def pe(xs:List V)(lo hi:Option Int):(AL xs lo hi).length<=xs.length:=by
 unfold AL;rw[bK,cK]
 lia
def jUa(K:fA):V->Option Int->Option Int->Hp->VK->Prop:=λx lo hi H Q=>∃a xs,x=.ref a/\LC K H a xs /\
 ¬(HT.nB xs.length 0 lo=0/\HT.nB xs.length xs.length hi=xs.length)/\∀p,H p=none->Q (.ref p) (GA H p (.t (AL xs lo hi)))
def sWa:lK X (jUa X.K):=by
 intro aA s Y H x v vl vu lo hi sl Q I rx hs pl pu h;obtain⟨a,xs,rfl,hx,hw,q⟩:=h;cases rx;obtain⟨cA,r,ht,hz⟩:=I.tuple hx;have qB:cA.toArray.size=xs.length:=by rw[UC];exact r.length.symm
 refine⟨"tuple",_,JP.lookup,ht.typeIs, ?_⟩;refine HT.X_ ht hs pl pu (by rw[qB];exact hw) ?_ (by rw[qB];exact hz);rw[qB];refine⟨.ref s.heap.objs.size,_,I.laid (t':=s.toks) (o:=.t (AL xs lo hi)) (λb ob q=>jD _ q) (zB _) ?_,rfl,q _ (I.KA.fresh (zB _))⟩;exact⟨vD (pe xs lo hi) hz,_,(r.drop (HT.nB xs.length 0 lo)).take (HT.nB xs.length xs.length hi-HT.nB xs.length 0 lo),kc _ _⟩
def xTa(K:fA):R2:=λx y H Q=>∃a b xs ys,x=.ref a/\y=.ref b/\LC K H a xs/\LC K H b ys/\xs≠[]/\xs.length+ys.length<=sizeLine /\
 (ys=[]->Q (.ref a) H)/\(ys≠[]->∀p,H p=none->Q (.ref p) (GA H p (.t (xs++ys))))
def aAd.oX(r:aAd xs us):us=[]↔xs=[]:=by
 cases r with
 |nil=>simp
 |cons _ _=>simp
def uNa:YC X (rH .Add) (xTa X.K):=by
 intro aA s Y H x y v u Q I rx ry h;obtain⟨a,b,xs,ys,rfl,rfl,ha,hb,hx,hz,q1,q2⟩:=h;cases rx;cases ry;obtain⟨cA,r1,p1,_⟩:=I.tuple ha;obtain⟨mI,r2,p2,_⟩:=I.tuple hb;refine HT.Pw p1 p2 (λz=>hx (r1.oX.mp z)) (λz=>⟨.ref a,H,I,rfl,q1 (r2.oX.mp z)⟩) (λz=>?_) (by rw[<- r1.length,<- r2.length];exact hz);refine⟨.ref s.heap.objs.size,_,I.laid (t':=s.toks) (o:=.t (xs++ys)) (λb ob q=>jD _ q) (zB _) ?_,rfl,q2 (λw=>z (r2.oX.mpr w)) _ (I.KA.fresh (zB _))⟩;exact⟨by rw[gC];exact hz,_,r1.append r2,kc _ _⟩
end
noncomputable def EG(n:Nat)(i:Int):Option Nat:=if 0<=i then(if i<n then some i.toNat else none) else if -(n:Int)<=i then some (i+n).toNat else none
def fC(xs:List O)(i:Int):Option O:=(EG xs.length i).bind λj=>xs[j]?
def kh(h:EG n i=some j):seqIndex? i n=some j/\j<n/\-(n:Int)<=i/\i<n:=by
 unfold EG at h;by_cases h0:0<=i
 ·rw[QA h0] at h;by_cases h1:i<n
  ·rw[QA h1] at h;have e:i.toNat=j:=rE h;exact⟨by rw[Tb h0 h1,e],by lia,by lia,h1⟩
  ·rw[UA h1] at h;cases h
 ·rw[UA h0] at h;by_cases h1:-(n:Int)<=i
  ·rw[QA h1] at h;have e:(i+n).toNat=j:=rE h;exact⟨by rw[Mb (by lia) h1,e],by lia,h1,by lia⟩
  ·rw[UA h1] at h;cases h
def AZ(h:fC xs i=some v):∃j,seqIndex? i xs.length=some j/\xs[j]?=some v/\j<xs.length/\-(xs.length:Int)<=i/\i<xs.length:=by
 unfold fC at h
 cases e:EG xs.length i with
 |none=>rw[e] at h;cases h
 |some j =>
  rw[e] at h;obtain⟨h1,h2,h3,h4⟩:=kh e;exact⟨j,h1,h,h2,h3,h4⟩
def wL{j:Nat}(h:xs[j]?=some v):fC xs (j:Int)=some v:=by
 have hj:j<xs.length:=(eE.mp h).1
 have e:EG xs.length (j:Int)=some j:=by(unfold EG;rw[QA (by lia),QA (by lia)];simp)
 unfold fC;rw[e];exact h
def sZ(b:xA):Prop:=∀o i,subscripted b false o i=operate [o,i] (getItem o i)
def iG(X:Cx)(r:R2):Prop :=
 ∀(value slice:xA) (aA:List (gA×DB)) (s:EA) (Y:St) (H:Hp) (x y:V) (v u:eA) (Q:VK),dA X aA Y H s->aAf x v->aAf y u->r x y H Q ->
  subscripted slice false v u=operate [v,u] (getItem v u)->sA (model X.prog X.w) X.A (subscriptTail value slice v u) (EP X aA Y Q) X.xe s
def mZ(X:Cx)(id:String)(r:V->List V->Hp->VK->Prop):Prop :=
 ∀(aA:List (gA×DB)) (s:EA) (Y:St) (H:Hp) (x:V) (xs:List V) (v:eA) (us:List eA) (Q:VK),dA X aA Y H s->aAf x v->aAd xs us->r x xs H Q ->
  sA (model X.prog X.w) X.A (call (.builtin id) (v::us)) (EP X aA Y Q) X.xe s
section
variable{pos:XB}
def iG.or(h:iG X r)(h':iG X r'):iG X (λx y H Q=>r x y H Q\/r' x y H Q):=by
 intro value slice aA s Y H x y v u Q I rx ry q hs;rcases q with q | q
 ·exact h value slice aA s Y H x y v u Q I rx ry q hs
 ·exact h' value slice aA s Y H x y v u Q I rx ry q hs
def Uj(hr:iG X r)(ha:PE X a ta)(hb:PE X b tb)(hs:sZ b):PE X (.Subscript a b pos) (FU r ta tb):=by
 intro aA s Y H Q I h;exact Subscript_ (n0 ha hb I h λv u s2 x y H2 I2 rx ry q=>hr a b aA s2 Y H2 x y v u Q I2 rx ry q (hs _ _))
def Qk(K:fA):R2:=λx y H Q=>∃p xs i v,x=.ref p/\y=.int i/\GB K H p xs/\fC xs i=some v/\Q v H
def Rk(K:fA):R2:=λx y H Q=>∃p xs i v,x=.ref p/\y=.int i/\LC K H p xs/\fC xs i=some v/\Q v H
def AX:R2:=λx y H Q=>∃z i c,x=.str z/\y=.int i/\z.length<=sizeLine/\fC z.cps.toList i=some c/\Q (.str ⟨#[c]⟩) H
def kEa:iG X (Qk X.K):=by
 intro value slice aA s Y H x y v u Q I rx ry h hs;obtain⟨p,xs,i,z,rfl,rfl,hq,he,q⟩:=h;cases rx;obtain⟨t,rfl⟩:=ry;obtain⟨cA,r,pl,hz⟩:=I.list hq;obtain⟨j,h1,h2,h3,h4,h5⟩:=AZ he;obtain⟨w,ew,nM⟩:=r.get h2;have hl:=r.length;have hn:=UO;have iB:EP X aA Y Q w s:=⟨z,H,I,nM,q⟩
 by_cases h0:0<=i
 ·have hj:i.toNat=j:=by
   rw[Tb h0 h5] at h1;exact rE h1
  exact item_listR pl.isList h0 (by lia) (by rw[hj];simpa using ew) iB hs
 ·have hj:(i+(cA.toArray.size:Int)).toNat=j:=by
   rw[Mb (by lia) h4] at h1;rw[UC,<- hl];exact rE h1
  exact Jp (x:=w) pl.isList.typeIs Hq.lookup
   (wpAny_getItem_list_neg (Q:=λr s'=>r=w/\EP X aA Y Q r s') pl.isList (by lia) (by rw[UC]<;>lia) (by lia) (by rw[hj];simpa using ew) ⟨rfl,iB⟩) hs
def pEa:iG X (Rk X.K):=by
 intro value slice aA s Y H x y v u Q I rx ry h hs;obtain⟨p,xs,i,z,rfl,rfl,hq,he,q⟩:=h;cases rx;obtain⟨t,rfl⟩:=ry;obtain⟨cA,r,pl,hz⟩:=I.tuple hq;obtain⟨j,h1,h2,h3,h4,h5⟩:=AZ he;obtain⟨w,ew,nM⟩:=r.get h2;have hl:=r.length;have hn:=UO;have iB:EP X aA Y Q w s:=⟨z,H,I,nM,q⟩
 exact Jp (x:=w) pl.typeIs JP.lookup
  (getItem_tuple (Q:=λr s'=>r=w/\EP X aA Y Q r s') pl (by lia) (by lia) (by rw[UC,<- hl];exact h1) (by simpa using ew) ⟨rfl,iB⟩) hs
def oEa:iG X AX:=by
 intro value slice aA s Y H x y v u Q I rx ry h hs;obtain⟨z,i,c,rfl,rfl,hz,he,q⟩:=h;obtain⟨t,rfl⟩:=rx;obtain⟨t',rfl⟩:=ry;obtain⟨j,h1,h2,h3,h4,h5⟩:=AZ he;have hl:z.cps.toList.length=z.length:=by simp[Str.length]
 rw[hl] at h1 h4 h5;have hn:=UO
 exact tail_any (typeIs_str s z t) slot_str_getitem.lookup (getItem_str (by
  have e1:decide (i < -(2 ^ 63:Int))=false:=eB (by lia);have e2:decide (i >= 2 ^ 63)=false:=eB (by lia)
  rw[e1,e2,gG]) (by rw[h1];simpa using h2) ⟨.str ⟨#[c]⟩,H,I.tok _,⟨_,rfl⟩,q⟩) hs
def rIx(K:fA):R2:=λx y H Q=>Qk K x y H Q\/Rk K x y H Q\/AX x y H Q
def nEa:iG X (rIx X.K):=kEa.or (pEa.or oEa)
def dJa(cA:List eA)(n j:Nat)(u:eA):mV (·.setIfInBounds j u) { cls:=.type "list",data:=.seq cA.toArray n }={ cls:=.type "list",data:=.seq (cA.set j u).toArray n }:=by
 simp[mV]
theorem dA.l(I:dA X aA Y H s)(h:H p=some (.l xs)) :
  ∃(cA:List eA) (n:Nat),aAd xs cA/\s.heap.get? p=some { cls:=.type "list",data:=.seq cA.toArray n }/\xs.length<=sizeLine:=by
 obtain⟨z,cA,n,r,e⟩:=I.KA p _ h;exact⟨cA,n,r,e,z⟩
def dA.yIa{cA its':List eA}(I:dA X aA Y H s)(h:H p=some (.l xs))
  (ho:s.heap.get? p=some { cls:=.type "list",data:=.seq cA.toArray n }) (hf:f { cls:=.type "list",data:=.seq cA.toArray n }={ cls:=.type "list",data:=.seq its'.toArray n' }) (r:aAd ys its') (hz:ys.length<=sizeLine) (t:Nat) :
  dA X aA Y (GA H p (.l ys)) { s with heap:=s.heap.update p f,toks:=t }:=by
 have e:(s.heap.update p f).get? p=some { cls:=.type "list",data:=.seq its'.toArray n' }:=by(rw[nY f ho (by rw[hf]<;>rfl),hf])
 refine I.write (x:=p) (e:=p) (by rw[h];trivial) (.inl rfl) (λb u hb q=>(AR _ _ (HE hb)).trans q) ⟨_,e⟩ ?_;exact⟨hz,its',n',r,e⟩
def Sk:V->V->V->Hp->(Hp->Prop)->Prop:=λo i v H Q=>∃p xs k j,o=.ref p/\i=.int k/\H p=some (.l xs)/\EG xs.length k=some j/\Q (GA H p (.l (xs.set j v)))
def aAT:rZ X Sk:=by
 intro aA s Y H o i v ov iv u Q I ro ri rv h;obtain⟨p,xs,k,j,rfl,rfl,hp,hj,q⟩:=h;cases ro;obtain⟨t,rfl⟩:=ri;obtain⟨cA,n,r,ho,hz⟩:=I.l hp;obtain⟨h1,h2,h3,h4⟩:=kh hj;have hl:=r.length;have hn:=UO
 have I':dA X aA Y (GA H p (.l (xs.set j v))) { s with heap:=s.heap.update p (mV (·.setIfInBounds j u)) } :=
  I.yIa hp ho (dJa cA n j u) (r.set rv j) (by rw[vH];exact hz) s.toks
 by_cases h0:0<=k
 ·have hk:k.toNat=j:=by
   rw[Tb h0 h4] at h1;exact rE h1
  exact PySem.W.ki_setAt ho h0 (by lia) (by rw[UC,<- hl];exact h4) (by rw[hk];exact⟨_,I',q⟩)
 ·have hk:(k+(cA.toArray.size:Int)).toNat=j:=by
   rw[Mb (by lia) h3] at h1;rw[UC,<- hl];exact rE h1
  exact PySem.W.ki_setBack ho (by lia) (by rw[UC,<- hl];exact h3) (by lia) (by rw[hk];exact⟨_,I',q⟩)
def vWa(lo hi:Option Int)(n:Nat):(sliceBounds lo hi none n).1=((HT.nB n 0 lo:Nat):Int)/\(sliceBounds lo hi none n).2.1=((HT.nB n n hi:Nat):Int)/\(sliceBounds lo hi none n).2.2=1:=by
 refine⟨?_, ?_,rfl⟩
 ·cases lo with
  |none=>simp[sliceBounds,HT.nB]
  |some i =>
   simp only[sliceBounds,HT.nB,Oq,show(1:Int) > 0 by decide,if_true];by_cases h:i<0
   ·simp only[h,if_true]<;>lia
   ·simp only[h,if_false]<;>lia
 ·cases hi with
  |none=>simp[sliceBounds,HT.nB]
  |some i =>
   simp only[sliceBounds,HT.nB,Oq,show(1:Int) > 0 by decide,if_true];by_cases h:i<0
   ·simp only[h,if_true]<;>lia
   ·simp only[h,if_false]<;>lia
def uWa(cA:List eA)(lo hi:Option Int):slicePick cA.toArray lo hi none=((cA.drop (HT.nB cA.length 0 lo)).take (HT.nB cA.length cA.length hi-HT.nB cA.length 0 lo)).toArray:=by
 obtain⟨h1,h2,h3⟩:=vWa lo hi cA.toArray.size;unfold slicePick;rw[h1,h2,h3];simp only[sliceRange_one,pick_run,UC]<;>rfl
def iUa(K:fA):V->Option Int->Option Int->Hp->VK->Prop:=λx lo hi H Q=>∃a xs,x=.ref a/\GB K H a xs/\∀p,H p=none->Q (.ref p) (GA H p (.l (AL xs lo hi)))
def oWa:lK X (iUa X.K):=by
 intro aA s Y H x v vl vu lo hi sl Q I rx hs pl pu h;obtain⟨a,xs,rfl,hx,q⟩:=h;cases rx;obtain⟨cA,r,ht,hz⟩:=I.list hx;have qB:=r.length;refine⟨"list",_,Hq.lookup,ht.isList.typeIs, ?_⟩;refine wpAny_getItem_list_slice ht.isList hs pl pu .none (by simp) ?_ (by rw[UC]<;>lia);rw[uWa,<- qB];refine⟨.ref s.heap.objs.size,_,I.laid (t':=s.toks) (o:=.l (AL xs lo hi)) (λb ob q=>jD _ q) (zB _) ?_,rfl,q _ (I.KA.fresh (zB _))⟩;exact⟨vD (pe xs lo hi) hz,_,0,(r.drop (HT.nB xs.length 0 lo)).take (HT.nB xs.length xs.length hi-HT.nB xs.length 0 lo),gF _ rfl⟩
noncomputable def rK:V->Bool
 |.iA=>true
 |.bl _=>true
 |.int _=>true
 |.str _=>true
 |_=>false
noncomputable def BL:V->V->Bool
 |.iA,.iA=>true
 |.bl a,.bl b=>a==b
 |.bl a,.int b=>(if a then 1 else 0)==b
 |.int a,.bl b=>a==(if b then 1 else 0)
 |.int a,.int b=>a==b
 |.str a,.str b=>a==b
 |_,_=>false
def oy(ry:aAf y u)(rx:aAf x v)(fy:rK y=true)(fx:rK x=true):Zb A s u v (BL y x):=by
 cases y with
 |iA =>
  cases ry
  cases x with
  |iA=>cases rx;exact SeqAt.EqAt.same _
  |bl b=>cases rx;exact SeqAt.EqAt.none_bool b
  |int b=>obtain⟨t,rfl⟩:=rx;exact SeqAt.EqAt.none_int b t
  |str b=>obtain⟨t,rfl⟩:=rx;exact SeqAt.EqAt.none_str b t
  |_=>exact absurd (show false=true from fx) dG
 |bl a =>
  cases ry
  cases x with
  |iA=>cases rx;exact SeqAt.EqAt.bool_none a
  |bl b=>cases rx;exact SeqAt.EqAt.bool_bool a b
  |int b=>obtain⟨t,rfl⟩:=rx;exact SeqAt.EqAt.bool_int a b t
  |str b=>obtain⟨t,rfl⟩:=rx;exact SeqAt.EqAt.bool_str a b t
  |_=>exact absurd (show false=true from fx) dG
 |int a =>
  obtain⟨t',rfl⟩:=ry
  cases x with
  |iA=>cases rx;exact SeqAt.EqAt.int_none a t'
  |bl b=>cases rx;exact SeqAt.EqAt.int_bool a t' b
  |int b=>obtain⟨t,rfl⟩:=rx;exact vq a t' b t
  |str b=>obtain⟨t,rfl⟩:=rx;exact sq a t' b t
  |_=>exact absurd (show false=true from fx) dG
 |str a =>
  obtain⟨t',rfl⟩:=ry
  cases x with
  |iA=>cases rx;exact SeqAt.EqAt.str_none a t'
  |bl b=>cases rx;exact SeqAt.EqAt.str_bool a t' b
  |int b=>obtain⟨t,rfl⟩:=rx;exact tq a t' b t
  |str b=>obtain⟨t,rfl⟩:=rx;exact SeqAt.EqAt.str_str a t' b t
  |_=>exact absurd (show false=true from fx) dG
 |_=>exact absurd (show false=true from fy) dG
def bH(x:V)(u:eA):Bool:=match u with
 |.none=>BL .iA x
 |.bool b=>BL (.bl b) x
 |.int i _=>BL (.int i) x
 |.str z _=>BL (.str z) x
 |_=>false
def Ge(r:aAf y u)(f:rK y=true):bH x u=BL y x:=by
 cases y with
 |iA=>cases r;rfl
 |bl b=>cases r;rfl
 |int i=>obtain⟨t,rfl⟩:=r;rfl
 |str z=>obtain⟨t,rfl⟩:=r;rfl
 |_=>exact absurd (show false=true from f) dG
def AV{xs:List V}{us:List eA}(h:aAd xs us)(f:xs.all rK=true):us.any (bH x)=xs.any λy=>BL y x:=by
 induction h with
 |nil=>rfl
 |cons r t ih =>
  rw[xC,aB] at f;rw[KN,KN,Ge r f.1,ih f.2]
def fX(rx:aAf x v)(fx:rK x=true){xs:List V}{us:List eA}(h:aAd xs us)(f:xs.all rK=true):∀u∈us,Zb A s u v (bH x u):=by
 induction h with
 |nil=>exact λu hu=>nomatch hu
 |cons r t ih =>
  intro u' hu;rw[xC,aB] at f;rcases pD.mp hu with rfl | hu
  ·rw[Ge r f.1];exact oy r rx f.1 fx
  ·exact ih f.2 u' hu
def RW(x:V)(xs:List V):Bool:=xs.any λy=>BL y x
def Pk(K:fA)(neg:Bool):R2:=λx y H Q=>∃p xs,y=.ref p/\(GB K H p xs\/LC K H p xs)/\rK x=true/\xs.all rK=true/\Q (.bl (if neg then !RW x xs else RW x xs)) H
def Hj:YC X (nF .In) (Pk X.K false):=by
 intro aA s Y H x y v u Q I rx ry h;obtain⟨p,xs,rfl,hq,fx,fs,q⟩:=h;cases ry;rcases hq with hq | hq
 ·obtain⟨cA,r,pl,hz⟩:=I.list hq;refine SeqAt.in_listAt (bH x) pl.isList (λw hw=>fX rx fx r fs w (by simpa using hw)) ⟨.bl _,H,I,rfl, ?_⟩;rw[show cA.toArray.any (bH x)=cA.any (bH x) by simp,AV r fs];exact q
 ·obtain⟨cA,r,pl,hz⟩:=I.tuple hq;refine SeqAt.in_tupleAt (bH x) pl (λw hw=>fX rx fx r fs w (by simpa using hw)) ⟨.bl _,H,I,rfl, ?_⟩;rw[show cA.toArray.any (bH x)=cA.any (bH x) by simp,AV r fs];exact q
def Ij:YC X (nF .NotIn) (Pk X.K true):=by
 intro aA s Y H x y v u Q I rx ry h;obtain⟨p,xs,rfl,hq,fx,fs,q⟩:=h;cases ry;rcases hq with hq | hq
 ·obtain⟨cA,r,pl,hz⟩:=I.list hq;refine SeqAt.notIn_listAt (bH x) pl.isList (λw hw=>fX rx fx r fs w (by simpa using hw)) ⟨.bl _,H,I,rfl, ?_⟩;rw[show cA.toArray.any (bH x)=cA.any (bH x) by simp,AV r fs];exact q
 ·obtain⟨cA,r,pl,hz⟩:=I.tuple hq;refine SeqAt.notIn_tupleAt (bH x) pl (λw hw=>fX rx fx r fs w (by simpa using hw)) ⟨.bl _,H,I,rfl, ?_⟩;rw[show cA.toArray.any (bH x)=cA.any (bH x) by simp,AV r fs];exact q
def Ld:FF X (.builtin "len") (λxs H Q=>∃p ys,xs=[.ref p]/\(GB X.K H p ys\/LC X.K H p ys)/\Q (.int ys.length) H):=by
 intro aA s Y H xs us Q I r h;obtain⟨p,ys,rfl,hq,q⟩:=h;obtain⟨u,rfl,rx⟩:=aAw r;cases rx;have hn:=UO;rcases hq with hq | hq
 ·obtain⟨cA,r',pl,hz⟩:=I.list hq;have qB:=r'.length;exact Calls.call_len_list pl.isList (by simp only[UC]<;>lia) ⟨.int ys.length,H,I.tok _,⟨s.toks+1,by rw[UC,qB]⟩,q⟩
 ·obtain⟨cA,r',pl,hz⟩:=I.tuple hq;have qB:=r'.length;exact len_tuple pl (by simp only[UC]<;>lia) ⟨.int ys.length,H,I.tok _,⟨s.toks+1,by rw[UC,qB]⟩,q⟩
def Iw:FF X (.builtin "len") (λxs H Q=>∃z,xs=[.str z]/\z.length<=sizeLine/\Q (.int z.length) H):=by
 intro aA s Y H xs us Q I r h;obtain⟨z,rfl,hz,q⟩:=h;obtain⟨u,rfl,t,rfl⟩:=aAw r;have hn:=UO;exact len_str (by lia) ⟨.int z.length,H,I.tok _,⟨_,rfl⟩,q⟩
def Md:FF X (.type "list") (λxs H Q=>∃p ys,xs=[.ref p]/\(GB X.K H p ys\/LC X.K H p ys)/\∀l,H l=none->Q (.ref l) (GA H l (.l ys))):=by
 intro aA s Y H xs us Q I r h;obtain⟨p,ys,rfl,hq,q⟩:=h;obtain⟨u,rfl,rx⟩:=aAw r;cases rx
 have iB:∀(cA:List eA),aAd ys cA->ys.length<=sizeLine->∀(h':JB) (c':Nat),(∀b o',s.heap.get? b=some o'->h'.get? b=some o') ->
   h'.get? s.heap.objs.size=some { cls:=.type "list",dict:=none,data:=.seq cA.toArray c',slots:=#[] }->EP X aA Y Q (.ref s.heap.objs.size) { s with heap:=h' }:=λcA r' hz h' c' kp e =>
  ⟨.ref s.heap.objs.size,_,I.laid (t':=s.toks) kp (zB _) (show ID X.prog X.w _ h' _ (.l ys) from⟨hz,cA,c',r',e⟩),rfl,q _ (I.KA.fresh (zB _))⟩
 rcases hq with hq | hq
 ·obtain⟨cA,r',pl,hz⟩:=I.list hq;have qB:=r'.length;obtain⟨o,ho,hc,n,hd⟩:=pl.isList;exact call_list_seq p (.inl rfl) ho hc hd (λh' c' kp e=>iB cA r' hz h' c' kp e) (by simp only[UC]<;>lia)
 ·obtain⟨cA,r',pl,hz⟩:=I.tuple hq;have qB:=r'.length;obtain⟨o,ho,hc,n,hd⟩:=pl;exact call_list_seq p (.inr rfl) ho hc hd (λh' c' kp e=>iB cA r' hz h' c' kp e) (by simp only[UC]<;>lia)
def Nd:FF X (.type "tuple") (λxs H Q=>∃p ys,xs=[.ref p]/\((GB X.K H p ys/\∀l,H l=none->Q (.ref l) (GA H l (.t ys)))\/(LC X.K H p ys/\Q (.ref p) H))):=by
 intro aA s Y H xs us Q I r h;obtain⟨p,ys,rfl,h⟩:=h;obtain⟨u,rfl,rx⟩:=aAw r;cases rx;rcases h with ⟨hq,q⟩ | ⟨hq,q⟩
 ·obtain⟨cA,r',pl,hz⟩:=I.list hq;have qB:=r'.length;refine call_tuple_list pl.isList (λh' kp=>?_) (by simp only[UC]<;>lia);have I1:dA X aA Y H { s with heap:=h' }:=I.kept (t':=s.toks) kp
  have I2:dA X aA Y (GA H h'.objs.size (.t ys)) { s with heap:=h'.push { cls:=.type "tuple",data:=.seq cA.toArray } } :=
   I1.laid (t':=s.toks) (λb o e=>jD _ e) (zB _) (show ID X.prog X.w _ _ _ (.t ys) from⟨hz,cA,r',kc _ _⟩)
  exact⟨.ref h'.objs.size,_,I2,rfl,q _ (I1.KA.fresh (zB _))⟩
 ·obtain⟨cA,r',pl,hz⟩:=I.tuple hq;exact call_tuple_same pl ⟨.ref p,H,I,rfl,q⟩
def R9(K:fA)(T:String)(x:V)(H:Hp):Prop:=match x with
 |.str _=>T="str"
 |.int _=>T="int"
 |.ref p=>(T="list"/\∃xs,GB K H p xs)\/(T="tuple"/\∃o,K.lookup p=some o/\o.cls=.type "tuple"/\o.dict=none) \/
   (T="dict"/\∃kC,H p=some (.dK kC))\/(T="set"/\∃S n,H p=some (.set S n))
 |_=>False
def Co(I:dA X aA Y H s)(r:aAf x v)(ty:R9 X.K T x H) :
  s.TypeIs v T/\∀a,v=.ref a->∃ob,s.heap.get? a=some ob/\ob.dict=none:=by
 cases x with
 |str z =>
  obtain⟨t,rfl⟩:=r;cases (show T="str" from ty);exact⟨typeIs_str s z t,λ_ e=>nomatch e⟩
 |int i =>
  obtain⟨t,rfl⟩:=r;cases (show T="int" from ty);exact⟨bc s i t,λ_ e=>nomatch e⟩
 |ref p =>
  cases r;rcases ty with ⟨rfl,xs,hq⟩ | ⟨rfl,o,hk,hc,hd⟩ | ⟨rfl,hk⟩ | ⟨rfl,S,n,hk⟩
  ·obtain⟨cA,_,pl,_⟩:=I.list hq;refine⟨pl.isList.typeIs,λa e=>?_⟩;cases e;obtain⟨o,n,e,c,hd,_⟩:=pl;exact⟨o,e,hd⟩
  ·refine⟨⟨o,I.jE p o hk,hc⟩,λa e=>?_⟩;cases e;exact⟨o,I.jE _ o hk,hd⟩
  ·have z:∃o,s.heap.get? p=some o/\o.ExactDict:=by
    obtain⟨kC,hk⟩:=hk;obtain⟨_,_,_,_,o,_,_,e,ex,_⟩:=I.KA p _ hk;exact⟨o,e,ex⟩
   obtain⟨o,e,ex⟩:=z;refine⟨⟨o,e,ex.1⟩,λa e2=>?_⟩;cases e2;exact⟨o,e,ex.2.1⟩
  ·obtain⟨o,_,_,_,e,ex,_⟩:=I.KA p _ hk;refine⟨⟨o,e,ex.1⟩,λa e2=>?_⟩;cases e2;exact⟨o,e,ex.2.1⟩
 |_=>exact XG ty
def xXa(K:fA)(T:String)(r:V->List V->Hp->VK->Prop)(to:TE):TE:=λY H Q=>to Y H λx H1=>R9 K T x H1/\r x [] H1 Q
def tBM(K:fA)(T:String)(r:V->List V->Hp->VK->Prop)(to:TE)(t:TA):TE:=λY H Q=>to Y H λx H1=>R9 K T x H1/\t Y H1 λxs H2=>r x xs H2 Q
variable{T id:String}
def tPa(pa:PlainAttrs T)(slot:Slot T name id)(pT:typeOf (.builtin id)=pure (.type "method_descriptor"))(hm:mZ X id r)(ho:PE X o to)
  (M5:attributeBase o name X.env (eval o X.env)=eval o X.env:=by rfl) (d6:(HB.endLine==mC.line)=true:=by rfl):PE X (.Call (.Attribute o name HB) [] [] mC) (xXa X.K T r to):=by
 intro aA s Y H Q I h;refine wpAny_Call_method0_late M5 d6 (RA (ho aA s Y H _ I h) λv s1 hz=>?_);obtain⟨x,H1,I1,r1,ty,q1⟩:=hz;obtain⟨h1,h2⟩:=Co I1 r1 ty;exact⟨T,id,pa,slot,pT,h1,h2,Calls.callWith_builtin rfl (PySem.evalArgs_none (hm aA s1 Y H1 x [] v [] Q I1 r1 .nil q1))⟩
def Qj(pa:PlainAttrs T)(slot:Slot T name id)(pT:typeOf (.builtin id)=pure (.type "method_descriptor"))(hm:mZ X id r)(ho:PE X o to)(ha:PA X (e::es) t)
  (M5:attributeBase o name X.env (eval o X.env)=eval o X.env:=by rfl)
  (pAa:((fF mC (bC (e::es) X.env)).all (λx=>!x.1)&&(backToKw mC (keywordEach [] X.env)).all (λx=>x.1.isSome)
   && decide ((e::es).length+([]:List XY).length+(if([]:List XY).isEmpty then 0 else 1)<30))=true:=by rfl)
  (d6:(HB.endLine==mC.line)=true:=by rfl) (hs:bC (e::es) X.env=(false,eval e X.env)::bC es X.env:=by rfl) (yBa:(fF mC (bC es X.env)).any (·.1)=false:=by rfl) :
  PE X (.Call (.Attribute o name HB) (e::es) [] mC) (tBM X.K T r to t):=by
 intro aA s Y H Q I h;refine wpAny_Call_method_late M5 pAa d6 rfl (RA (ho aA s Y H _ I h) λv s1 hz=>?_);obtain⟨x,H1,I1,r1,ty,q1⟩:=hz;obtain⟨h1,h2⟩:=Co I1 r1 ty;refine⟨T,id,pa,slot,pT,h1,h2, ?_⟩;have hA:=ha mC aA s1 Y H1 _ I1 q1;rw[hs] at hA ⊢;refine Calls.callWith_builtin (by show(false||(fF mC (bC es X.env)).any (·.1))=false;rw[yBa]<;>rfl) (Calls.evalArgs_plain ?_);exact RA hA λus s2 hz=>(by obtain⟨vs,H2,I2,r2,q2⟩:=hz;exact hm aA s2 Y H2 x vs v us Q I2 r1 r2 q2)
end
def lZ(X:Cx)(id:String)(r:V->List V->Hp->VK->Prop):Prop :=
 ∀(aA:List (gA×DB)) (s:EA) (Y:St) (H:Hp) (x:V) (xs:List V) (v:eA) (us:List eA) (Q:VK),dA X aA Y H s->aAf x v->aAd xs us->r x xs H Q ->
  sA (model X.prog X.w) X.A (call (.builtin id) (v::us)) (EP X aA Y Q) X.xe s
def aAd.one{x:V}{us:List eA}(h:aAd [x] us):∃u,us=[u]/\aAf x u:=by
 cases h with | cons r t=>cases t;exact⟨_,rfl,r⟩
theorem aAd.zero:∀{us:List eA},aAd [] us->us=[]
 |_,.nil=>rfl
theorem aAd.dropLast(h:aAd xs us):aAd xs.dropLast us.dropLast:=by
 induction h with
 |nil=>exact .nil
 |cons r t ih =>
  cases t with
  |nil=>exact .nil
  |cons q t'=>exact .cons r ih
theorem aAd.rep(h:aAd xs us):∀k:Nat,aAd (NB k xs).flatten (NB k us).flatten
 | 0=>.nil
 |k+1=>by(rw[PN,PN,mP,mP];exact aAd.append h (aAd.rep h k))
def Gy(l:List O):l.eraseIdx (l.length-1)=l.dropLast:=by
 induction l with
 |nil=>rfl
 |cons a r ih =>
  cases r with
  |nil=>rfl
  |cons b r =>
   have e:(a::b::r).length-1=((b::r).length-1)+1:=by
    have h1:(a::b::r).length=r.length+2:=rfl;have h2:(b::r).length=r.length+1:=rfl
    lia
   rw[e,List.eraseIdx_cons_succ,ih]
   all_goals rfl
theorem aAL(cA:List eA):∀(k:Nat) (BA:List eA),
  dc (λx1 x2=>x1++x2) BA.toArray (NB k cA.toArray)=(BA++(NB k cA).flatten).toArray
 | 0,BA=>by simp
 |k+1,BA=>by
  have e:BA.toArray++cA.toArray=(BA++cA).toArray:=by simp
  have e2:(BA++cA)++(NB k cA).flatten=BA++(NB (k+1) cA).flatten:=by(rw[PN,mP,UH])
  rw[<- e2,<- aAL cA k (BA++cA),<- e,PN,qP]
section
variable{X:Cx}{aA:List (gA×DB)}{Y:St}{H:Hp}{s:EA}{l b:gA}{xs ys zs:List V}
def dA.U7{cA its':List eA}(I:dA X aA Y H s)(hH:H l=some (.l xs))
  (e:s.heap.get? l=some { cls:=.type "list",data:=.seq cA.toArray n }) (hf:f cA.toArray=its'.toArray) (hv:aAd ys its') (hz:ys.length<=sizeLine) :
  dA X aA Y (GA H l (.l ys)) { s with heap:=s.heap.update l (mV f),toks:=t' }:=by
 have q:=PySem.IsL.update e f;rw[hf] at q;refine I.write (x:=l) (e:=l) (by rw[hH];exact trivial) (.inl rfl) (λb' u hb hu=>(AR s.heap (mV f) (HE hb)).trans hu) ⟨_,q⟩ ?_;exact⟨hz,its',_,hv,q⟩
def dA.R7(I:dA X aA Y H s)(hv:aAd ys cA)(hz:ys.length<=sizeLine) :
  dA X aA Y (GA H s.heap.objs.size (.l ys)) { s with heap:=s.heap.push { cls:=.type "list",data:=.seq cA.toArray },toks:=t' } :=
 I.laid (λ_ _ q=>jD _ q) (zB _) ⟨hz,cA,0,hv,gF _ rfl⟩
theorem dA.fresh(I:dA X aA Y H s):H s.heap.objs.size=none:=I.KA.fresh (zB _)
def dA.VT(I:dA X aA Y H s)(hH:H l=some (.l xs)):xs.length<=sizeLine/\∃(cA:List eA) (n:Nat),aAd xs cA/\xs.length=cA.length/\s.heap.get? l=some { cls:=.type "list",data:=.seq cA.toArray n }:=by
 obtain⟨z,cA,n,r,e⟩:=I.KA l _ hH;exact⟨z,cA,n,r,r.length,e⟩
def rj(h:n<=sizeLine):kY n=false:=by
 unfold kY;exact eB (by lia)
end
section
variable{X:Cx}
def uTa:V->List V->Hp->VK->Prop:=λx vs H Q=>∃l xs y,x=.ref l/\vs=[y]/\H l=some (.l xs)/\xs.length<sizeLine/\Q .iA (GA H l (.l (xs++[y])))
def ej:lZ X "list.append" uTa:=by
 intro aA s Y H x vs v us Q I rx rv h;obtain⟨l,xs,y,rfl,rfl,hH,hz,q⟩:=h;cases rx;obtain⟨u,rfl,ru⟩:=rv.one;obtain⟨z,cA,n,r,hl,e⟩:=I.VT hH;refine nV Np ⟨_,e,rfl⟩ F.entry_list_append (F.args_list_append_2 _ _) (PySem.list_append l cA.toArray n u (by rw[UC];lia)) ⟨e, ?_⟩;refine⟨.iA,_,I.U7 (its':=cA++[u]) hH e (by simp) (r.append (.cons ru .nil)) ?_,rfl,q⟩;rw[gC,AM]
 lia
def yTa:V->List V->Hp->VK->Prop:=λx vs H Q=>∃l b xs zs,x=.ref l/\vs=[.ref b]/\H l=some (.l xs)/\H b=some (.l zs)/\xs.length+zs.length<=sizeLine/\Q .iA (GA H l (.l (xs++zs)))
def xJa:lZ X "list.extend" yTa:=by
 intro aA s Y H x vs v us Q I rx rv h;obtain⟨l,b,xs,zs,rfl,rfl,hH,hB,hz,q⟩:=h;cases rx;obtain⟨u,rfl,ru⟩:=rv.one;cases ru;obtain⟨z,cA,n,r,hl,e⟩:=I.VT hH;obtain⟨z2,mI,n2,r2,lg,e2⟩:=I.VT hB;have wB:cA.toArray.size+mI.toArray.size<=sizeLine:=by rw[UC,UC];lia
 have f6:¬(!cA.toArray.isEmpty&&kY (cA.toArray.size+mI.toArray.size))=true:=by(rw[rj wB,vb];exact dG)
 refine nV Pp ⟨_,e,rfl⟩ F.entry_list_extend (F.args_list_extend_2 _ _)
  (AutoSeq1.list_extend_list_list_0 l cA.toArray n b mI.toArray n2 f6 (by rw[UC];lia) (by lia)) ⟨e,e2, ?_⟩
 refine⟨.iA,_,I.U7 (its':=cA++mI) hH e (by simp) (r.append r2) ?_,rfl,q⟩;rw[gC]
 lia
def dUa:V->List V->Hp->VK->Prop:=λx vs H Q=>∃l xs y,x=.ref l/\vs=[]/\H l=some (.l xs)/\xs[xs.length-1]?=some y/\Q y (GA H l (.l xs.dropLast))
def yJa:lZ X "list.pop" dUa:=by
 intro aA s Y H x vs v us Q I rx rv h;obtain⟨l,xs,y,rfl,rfl,hH,hy,q⟩:=h;cases rx;have hus:=rv.zero;subst hus;obtain⟨z,cA,n,r,hl,e⟩:=I.VT hH;obtain⟨u,hu,ru⟩:=r.get hy
 have NO:cA.toArray[cA.toArray.size-1]?=some u:=by(show cA.toArray[cA.length-1]?=some u;rw[<- Qp,<- hl];exact hu)
 refine nV yq ⟨_,e,rfl⟩ F.entry_list_pop (F.args_list_pop_1 _) (MeetsSeq.list_pop_last l cA.toArray n u NO (by rw[UC];lia)) ⟨e, ?_⟩;refine⟨y,_,I.U7 (its':=cA.dropLast) hH e ?_ r.dropLast ?_,ru,q⟩
 ·show cA.toArray.eraseIdxIfInBounds (cA.toArray.size-1)=cA.dropLast.toArray;rw[UC,List.eraseIdxIfInBounds_toArray,Gy]
 ·rw[List.length_dropLast]
  lia
def eUa:R2:=λx y H Q=>∃l k xs,x=.ref l/\y=.int k/\H l=some (.l xs)/\-(2 ^ 63)<=k/\k<2 ^ 63/\xs.length*k.toNat<=sizeLine /\
 ∀p,H p=none->Q (.ref p) (GA H p (.l (NB k.toNat xs).flatten))
def aAY(xs:List O)(k:Nat):(NB k xs).flatten.length=k*xs.length:=by
 induction k with
 |zero=>simp
 |succ k ih=>rw[PN,mP,gC,ih,Nb,Nat.add_comm]
def fOa:YC X (rH .Mult) eUa:=by
 intro aA s Y H x y v u Q I rx ry h;obtain⟨l,k,xs,rfl,rfl,hH,h1,h2,hz,q⟩:=h;cases rx;obtain⟨t,rfl⟩:=ry;obtain⟨z,cA,n,r,hl,e⟩:=I.VT hH;have qB:cA.toArray.size*k.toNat<=sizeLine:=by rw[UC,<- hl];exact hz
 have eAa:¬cA.toArray.size*k.toNat > (2 ^ 63-1) / 8:=by
  have:(sizeLine:Nat)<=(2 ^ 63-1) / 8:=by decide
  lia
 have yK:¬(!Builtin.List.listFitsIndex k)=true:=by(rw[fitsIndex_both h1 h2];exact dG)
 have f6:¬kY (cA.toArray.size*k.toNat)=true:=by(rw[rj qB];exact dG)
 have BW:dc (λx1 x2=>x1++x2) #[] (NB (if cA.toArray.isEmpty=true then 0 else k.toNat) cA.toArray)=(NB k.toNat cA).flatten.toArray:=by
  have f0:∀m:Nat,dc (λx1 x2=>x1++x2) #[] (NB m cA.toArray)=(NB m cA).flatten.toArray:=λm=>by
   have:=aAL cA m []
   rw[List.nil_append] at this;exact this
  rw[f0]
  cases cA with
  |nil=>simp
  |cons a r'=>rw[UA (by simp)]
 refine wpAny_binaryOp_repeat_ref (T:="list") (U:="int") (by decide) ⟨_,e,rfl⟩ (λs'=>bc s' k t) noFill_list_mul F.fills_int_mul Tq repeat_list F.slot_int_index.lookup
  (nV Tq (bc s k t) F.entry_int_rmul (F.args_int_rmul_2 _ _) (int___rmul___int_list k t l cA.toArray n)
   ⟨e,rfl,⟨_,e,rfl⟩,nV F.slot_list_mul ⟨_,e,rfl⟩ F.entry_list_mul (F.args_list_mul_2 _ _) (AutoListH.list___mul___list_int_3 l cA.toArray n k t yK eAa f6) ⟨e, ?_⟩⟩)
 rw[BW];exact⟨.ref _,_,I.R7 (t':=s.toks) (r.rep k.toNat) (by rw[aAY,Nat.mul_comm];exact hz),rfl,q _ I.fresh⟩
end
end L2
namespace Att
open PySem PySem.W PySem.Calls PyProof.Rows
def yCa:∀(ns:List Int) (vs:List eA),WellAll P h vs (ns.map WData.int)->dJ vs ns:=by
 intro ns
 induction ns with
 |nil =>
  intro vs w;rw[sM] at w;cases w;exact .nil
 |cons n ns ih =>
  intro vs w;rw[CB] at w
  cases w with
  |cons a b =>
   cases a;exact .cons _ _ (ih _ b)
def cWa{l:lV}(hn:l.most=some n)
  (FW:l.row.toRowW.claim.pre args=true) (qT:WellAll P h vals args) :
  ∃a vs ns,vals=[Value.ref a]/\args=[WData.list (ns.map WData.int)]/\h.get? a=some { cls:=.type "list",data:=.seq vs.toArray }/\dJ vs ns/\ns.length<=n:=by
 have hsh:WShape.hasAll [] args [.list .int]=true:=(pre_splitW FW).1;have hc:l.pre.holds [] { args:=args }=true:=(pre_splitW FW).2;obtain⟨d,r,rfl,h1,h2⟩:=hasAllW_cons hsh;obtain rfl:=hasAllW_nil h2;obtain⟨xs,rfl,h3⟩:=hasW_list h1;obtain⟨ns,rfl⟩:=items_int h3
 have qB:ns.length<=n:=by
  unfold OpenLaw.pre at hc
  have h4:(WTm.not (.lt (.lit (.int (n:Int))) (.len (.arg 0)))).holds [] { args:=[.list (ns.map .int)] }=true:=by(have h4:=(holds_andW hc).1;rw[hn] at h4;exact h4)
  have h5:=condW_of h4 (w_not (w_lt w_lit (w_len_list (w_arg rfl))));rw[nA] at h5;refine Xa λq=>?_
  have q':(n:Int)<((ns.length:Nat):Int):=by omega
  first
   | (rw[rB q'] at h5;exact absurd h5 (by decide))
   | (simp at h5;omega)
 cases qT with
 |cons w1 w2 =>
  cases w2
  cases w1 with
  |list ho gI=>exact⟨_,_,ns,rfl,rfl,ho,yCa ns _ gI,qB⟩
def iRa(l:lV)(args:List WData):l.row.toRowW.claim.post args (.bool true) args=true :=
 postW_of (r:=l.row.toRowW) (X:=(true==true))
  (show Ar [] (.bool true) .bool=true by first | rfl | decide | simp[Ar,WShape.arms,WShape.armsAll])
  (show(WTm.eq .res (.lit (.bool true))).value [] { args:=args,res:=some (.bool true),after:=args }=some (.bool (true==true)) from w_eq_bool (w_res rfl) w_lit) rfl
def Hu{l:lV}
  (hn:l.most=some n) (WS:d.params.defaults=[])
  (call:∀(w:IC) (s₀ s₁:EA) (mg mb:bA->Option eA) (fa:gA) (o:DB) (pm cd doc:eA) (a:gA) (vs:List eA) (ns:List Int),
   Ground q loose [] XP w s₀ mg mb s₁.heap->YP w s₁.heap ->
   s₁.heap.get? fa=some o->o.data=.func (docDef d.name d.params d.body d.scope pm cd doc)->s₁.heap.CodeRec cd d.name->mg d.name=some (.ref fa) ->
   s₁.heap.get? a=some { cls:=.type "list",data:=.seq vs.toArray }->dJ vs ns->ns.length<=n->s₁.gens=#[] ->
   xM (model l.prog w) callerA (.call (.ref fa) ⟨[.ref a],[]⟩) (λr s'=>r=.ok (.ret (.bool true))/\OldK s₁.heap s'.heap/\s'.os=s₁.os/\fL s'.gens) s₁) :
  Wb q loose XP YP l.row.toRowW d [] (λf vs=>ic f vs):=by
 intro w s₀ s₁ mg mb G Y fa o pm cd doc dV kV ho hd OI hD HQ hg args vals as FW g2a KQ qT cT;obtain rfl:dV=.none:=Dflts.none hD WS;obtain rfl:kV=.none:=Dflts.noKw hD;obtain⟨a,vs,ns,rfl,rfl,n6,hints,qB⟩:=cWa hn FW qT;refine enter_call (GP (call w s₀ s₁ mg mb fa o pm cd doc a vs ns G Y ho (fd_plain hd) OI HQ n6 hints qB hg) λr s' hq=>?_);obtain⟨rfl,h2,h3,h4⟩:=hq;exact⟨.inl ⟨.bool true,.bool true,[],rfl,λ_=>rfl,.bool true,iRa l _,λ_=>⟨List.Pairwise.nil,λ_ hm=>(nomatch hm)⟩⟩,h2,h3,h4⟩
end Att
namespace L2
open PySem PySem.Spec PyProof.Rows
def vZa{vs:List eA}{ns:List Int}(h:dJ vs ns):aAd (ns.map V.int) vs:=by
 induction h with
 |nil=>exact .nil
 |cons n t h ih=>exact .cons ⟨t,rfl⟩ ih
def pZ(H:Hp):Prop:=∀b,H b=none\/∃o xs,H b=some (.OD o (.l xs))
def vHa{K:fA}
  (KX:K.In s₁.heap) (HH:s₁.heap.Ns TB mg) (hb:s₁.heap.Ns builtinsNs mb) (Z':∀x:bA,x≠"__name__"->mb x=bL x) (eBa:s₁.heap.NoLimit) (hg:s₁.gens=#[])
  (ha:s₁.heap.get? a=some { cls:=.type "list",data:=.seq vs.toArray }) (hi:dJ vs ns) (hl:ns.length<=sizeLine) (hr:KC k callerA)
  (F:∀base:JB,K.In base->base.Ns TB mg->oF P w K mg base CX k fa fd [x] sp) (aAa:∀(s:EA) (u:eA),WY s fd ⟨[u],[]⟩ [(x,u)])
  (lI:∀H:Hp,pZ H->GB K H a (ns.map V.int)->sp [.ref a] H (λv _=>v=.bl true) λ_ _ _=>False)
  (F5:∀H e s',CX [] H s₁ (λ_ _ _=>False) e s'->False) :
  xM (model P w) callerA (.call (.ref fa) ⟨[.ref a],[]⟩) (λr s'=>r=.ok (.ret (.bool true))/\OldK s₁.heap s'.heap/\s'.os=s₁.os/\fL s'.gens) s₁:=by
 have rv:=vZa hi;have lIa:=hi.length
 -- from an abstract heap in y3a nothing but FE script may be tracked
 have core:∀H:Hp,pZ H->GB K H a (ns.map V.int)->GD P w H s₁.heap->(∀b,H b≠none->b=a)->(H a≠none->K.lookup a=none) ->
   xM (model P w) callerA (.call (.ref fa) ⟨[.ref a],[]⟩) (λr s'=>r=.ok (.ret (.bool true))/\OldK s₁.heap s'.heap/\s'.os=s₁.os/\fL s'.gens) s₁:=by
  intro H hO hS KA hA hK;have base_of:∀{b:gA} {o:DB},s₁.heap.get? b=some o->H b=none->(QL s₁.heap H).get? b=some o:=λe n=>xAa e n
  have ZT:∀{b:gA} {o:DB} {es:Array DictEntry} {ep:Nat},s₁.heap.get? b=some o->o.data=.dict es ep->H b=none:=λ{b o es ep} e d=>by
   cases q:H b with
   |none=>rfl
   |some u =>
    have e':b=a:=hA b (by rw[q];simp);subst e';rw[ha] at e;cases e;have d':Data.seq vs.toArray _=Data.dict es ep:=d;cases d'
  have tX:∀{b:gA} {m:bA->Option eA},s₁.heap.Ns b m->(QL s₁.heap H).Ns b m:=λ{b m} ⟨o,es,ep,e,d,r⟩=>⟨o,es,ep,base_of e (ZT e d),d,r⟩
  have Jf:K.In (QL s₁.heap H):=λb o e=>base_of (KX b o e) (by
   cases q:H b with
   |none=>rfl
   |some u =>
    have e':b=a:=hA b (by rw[q];simp);subst e'
    rw[hK (by rw[q];simp)] at e;cases e)
  have hM:Mod K mg (QL s₁.heap H):=⟨Jf,tX HH,⟨mb,tX hb,Z'⟩,let ⟨mc,h1,h2⟩:=eBa;⟨mc,tX h1,h2⟩⟩
  have e0:RN P w K mg (QL s₁.heap H) callerA [] s₁ H:=⟨rfl,hM,λb o e=>rLa e,Jb (yAa _ _),trivial,λb hb=>absurd (show b∈([]:List gA) from hb) (by simp),KA,.of_eq hg⟩
  refine GP ((F _ Jf (tX HH)).run callerA [] s₁ H ⟨[.ref a],[]⟩ [.ref a] [.ref a] _ _ hr e0 (aAa s₁ (.ref a)) (.cons rfl .nil) (lI H hO hS)) λr s' h=>?_
  cases r with
  |error e=>exact(F5 H e s' h).elim
  |ok fl =>
   cases fl with
   |next=>exact XG h
   |brk=>exact XG h
   |cont=>exact XG h
   |ret u =>
    obtain⟨v,H',os,bare,un,uBa,r',q⟩:=h;have q':v=.bl true:=q;subst q';obtain rfl:u=Value.bool true:=r';refine⟨rfl,OldK.of_keep λb o e=>?_,os,bare⟩
    cases q:H b with
    |none=>exact un.keep b o e q (by intro z;exact absurd (show b∈([]:List gA) from z) (by simp)) (by simp)
    |some u =>
     rcases hO b with z | ⟨ob,xs,z⟩
     ·rw[q] at z;cases z
     ·have z2:=un.HL b ob _ z;obtain⟨e1,_⟩:=KA b _ z;obtain⟨e2,_⟩:=uBa b _ z2;rw[e] at e1;cases e1;exact e2
 cases hk:K.lookup a with
 |some o =>
  -- FE script is one of FE nJa own objects
  have e:=KX a o hk;rw[ha] at e;cases e;refine core (λ_=>none) (λ_=>.inl rfl) (.inr ⟨_,vs.toArray,_,hk,rfl,rfl,rfl,by rw[UC,lIa];exact hl,by simpa using rv⟩) (λb u z=>by have z':(none:Option HO)=some u:=z;cases z') (λb z=>absurd rfl z) λz=>absurd rfl z
 |none =>
  refine core (λb=>if b=a then some (.OD { cls:=.type "list",data:=.seq vs.toArray } (.l (ns.map V.int))) else none) (λb=>?_) (.inl (.inr ⟨{ cls:=.type "list",data:=.seq vs.toArray },QA rfl⟩)) (λb u z=>?_) (λb z=>?_) λ_=>hk
  ·by_cases hb:b=a
   ·exact .inr ⟨_,_,QA hb⟩
   ·exact .inl (UA hb)
  ·by_cases hb:b=a
   ·have z':=(QA hb).symm.trans z;cases z';subst hb;exact⟨ha,by rw[nA];exact hl,vs,_,rv,ha⟩
   ·have z':=(UA hb).symm.trans z;cases z'
  ·by_cases hb:b=a
   ·exact hb
   ·exact absurd (UA hb) z
abbrev VB{K:fA}{h:JB}(_:K.In h):fA:=K
def a0a{l:lV}{K:Params->fA}{CX:IC->JM}{sp:IC->Sp}{x:bA}
  (hn:l.most=some n) (AW:n<=sizeLine) (WS:d.params.defaults=[]) (hr:KC k callerA)
  (hY:∀(w:IC) (h:JB),YP w h->(K w.params).In h)
  (F:∀(w:IC) (mg:bA->Option eA) (fa:gA) (h:JB),(K w.params).In h->h.Ns TB mg->mg d.name=some (.ref fa) ->
   ∃fd:SH,(∀(s:EA) (u:eA),WY s fd ⟨[u],[]⟩ [(x,u)]) /\
    ∀base:JB,(K w.params).In base->base.Ns TB mg->oF l.prog w (K w.params) mg base (CX w) k fa fd [x] (sp w))
  (lI:∀(w:IC) (H:Hp) (a:gA) (ns:List Int),ns.length<=n->pZ H->GB (K w.params) H a (ns.map V.int)->sp w [.ref a] H (λv _=>v=.bl true) λ_ _ _=>False)
  (F5:∀(w:IC) (H:Hp) (s:EA) (e:eA) (s':EA),CX w [] H s (λ_ _ _=>False) e s'->False) :
  Wb q loose XP YP l.row.toRowW d [] (λf vs=>ic f vs):=by
 refine Att.Hu hn WS λw s₀ s₁ mg mb fa o pm cd doc a vs ns G Y ho hd OI HQ n6 hints qB hg=>?_
 have KX:=hY w _ Y;obtain⟨fd,hb,hF⟩:=F w mg fa _ KX G.T.g HQ;exact vHa KX G.T.g G.T.b G.T.builtins G.T.nolimit hg n6 hints (vD qB AW) hr hF hb (λH hO hS=>lI w H a ns qB hO hS) λH e s'=>F5 w H s₁ e s'
noncomputable def dI(s:XA):Arguments:=match s with
 |.FunctionDef _ a _ _ _ _ _ _ _ _=>a
 |_=>{ posonlyargs:=[],args:=[],vararg:=none,kwonlyargs:=[],kw_defaults:=[],kwarg:=none,defaults:=[] }
noncomputable def nE(s:XA):List XA:=match s with
 |.FunctionDef _ _ b _ _ _ _ _ _ _=>b
 |_=>[]
noncomputable def pC(s:XA):cG:=match s with
 |.FunctionDef _ _ _ _ _ _ sc _ _ _=>sc
 |_=>{ kind:=.function,names:=[],isGenerator:=false,isCoroutine:=false }
abbrev kJ:JM:=λ_ _ _ _ _ _=>False
abbrev E0:XK:=λ_ _ _=>False
def yX:aAB kJ X E0:=λ_ _ _ _ _ _ _ h=>h.elim
structure qL(K:fA)(x dB:bA)(st:XA)(f:gA)(fd:SH):Prop where
 ex:∃(oc:eA) (od:Option gA) (kV doc pm:eA) (an:Option gA) (bB ct:eA) (zF:Array (Option eA)),
  fd=VH x dB (dI st) (nE st) (pC st) .none kV doc pm an bB ct/\K.lookup f=some ⟨oc,od,.func fd,zF⟩/\yP K bB dB=true
 kp:wH K (.ref f)=true
section
variable{P:bE}{w:IC}{K:fA}{mg:bA->Option eA}{base:JB}
def qL.ok{st:XA}(F:qL K x dB st f fd)(S:OM N ps (pC st))(len:∀vs H Q E,sp vs H Q E->vs.length=ps.length)
  (N5:∀(bB:eA) (A:sG) (outer:List Env) (s:EA) (H:Hp) (vs:List V) (Q:VK) (E:XK),KC k (A.deeper (envOfC dB (pC st) s.heap.objs.size f bB))->sp vs H Q E ->
   ∃t,HC (cI kJ P w K mg base N dB (pC st) f bB A outer s H E).gR (nE st) t/\t { nx:=λ_ H'=>Q .iA H',rt:=Q } (start N vs) H):oF P w K mg base kJ (k+1) f fd ps sp:=by
 obtain⟨oc,od,kV,doc,pm,an,bB,ct,zF,rfl,lk,OI⟩:=F.ex;refine We lk OI S len λA outer s H vs Q E hr lI=>?_
 obtain⟨t,h,q⟩:=N5 bB A outer s H vs Q E hr lI;exact⟨t,h.gR,q⟩
def qL.binds{st:XA}(F:qL K x dB st f fd)
  (h:∀(kV doc pm:eA) (an:Option gA) (bB ct:eA) (us:List eA),us.length=ps.length->bindArgs (VH x dB (dI st) (nE st) (pC st) .none kV doc pm an bB ct) ⟨us,[]⟩=pure (ps.zip us)):aAs K fd ps []:=by
 obtain⟨oc,od,kV,doc,pm,an,bB,ct,zF,rfl,lk,OI⟩:=F.ex;exact .all (h kV doc pm an bB ct)
def lW{st:XA}{kV doc pm bB ct:eA}(l:K.lookup f=some ⟨oc,od,.func (VH x dB (dI st) (nE st) (pC st) .none kV doc pm an bB ct),zF⟩)
  (c:yP K bB dB=true) (k:wH K (.ref f)=true):qL K x dB st f (VH x dB (dI st) (nE st) (pC st) .none kV doc pm an bB ct):=⟨⟨oc,od,kV,doc,pm,an,bB,ct,zF,rfl,l,c⟩,k⟩
end
def SQ{A B:Prop}(h:B):if false=true then A else B:=by
 rw[UA dG];exact h
def QO{A B:Prop}(h:A):if true=true then A else B:=by
 rw[QA rfl];exact h
def fB(H H':Hp):Prop:=∀b o,H b=some o->H' b=some o
def fB.refl(H:Hp):fB H H:=λ_ _ h=>h
def fB.trans(a:fB H H1)(b:fB H1 H2):fB H H2:=λc o h=>b c o (a c o h)
def fB.free(e:fB H H')(h:H' l=Option.none):H l=Option.none:=by
 cases q:H l with
 |none=>rfl
 |some o =>
  rw[e l o q] at h;cases h
def fB.seq{K:fA}(e:fB H H')(h:GB K H a xs):GB K H' a xs:=by
 rcases h with (h | ⟨o,h⟩) | h
 ·exact .inl (.inl (e _ _ h))
 ·exact .inl (.inr ⟨o,e _ _ h⟩)
 ·exact .inr h
end L2
set_option maxHeartbeats 4000000
namespace L2
open PySem PySem.Spec PyProof.Rows
section
variable{J:Type}[DecidableEq J]
noncomputable def vI(kC:List (J×V))(k:J):Option V:=(kC.find? λkv=>decide (kv.1=k)).map (·.2)
def Ho{p:J×V}{r:List (J×V)}{k:J}(e:p.1=k):vI (p::r) k=some p.2:=by simp[vI,GN,e]
def Fo{p:J×V}{r:List (J×V)}{k:J}(e:¬p.1=k):vI (p::r) k=vI r k:=by simp[vI,GN,e]
def BH.wDa{o:Option V}{u:Option eA}(r:BH o u):o.isSome=u.isSome:=by
 cases o with
 |none=>cases u with
  |none=>rfl
  |some _=>exact(show False from r).elim
 |some _=>cases u with
  |none=>exact(show False from r).elim
  |some _=>rfl
def KV.val{kC:List (J×V)}{vs:List (J×eA)}(r:KV kC vs)(k:J):BH (vI kC k) (valueAt vs k):=by
 unfold KV at r
 induction r with
 |nil=>exact True.intro
 | @cons p q ps qs h t ih =>
  obtain⟨h1,h2⟩:=h;by_cases e:p.1=k
  ·have e':q.1=k:=h1.symm.trans e;have b:valueAt (q::qs) k=some q.2:=by simp[valueAt,GN,e']
   rw[Ho e,b];exact h2
  ·have e':¬q.1=k:=λz=>e (h1.trans z)
   have b:valueAt (q::qs) k=valueAt qs k:=by simp[valueAt,GN,e']
   rw[Fo e,b];exact ih
end
def Ai{P:bE}{w:IC}{k:Key}{u:eA}(r:aAf (kV k) u):(XQ P w).is k u=true:=by
 cases k with
 |inl i=>obtain⟨t,e⟩:=(show ∃t,u=Value.int i t from r);subst e;exact kJa P w i t
 |inr x=>obtain⟨t,e⟩:=(show ∃t,u=Value.str x t from r);subst e;exact lJa P w x t
section
variable{P:bE}{w:IC}{H:Hp}{h:JB}{a:gA}
def pUa{u:HO}(ok:GD P w H h)(e:Rd H a u):ID P w H h a u:=e.ok ok
def W0{kC:List (Key×V)}(ok:GD P w H h)(e:Rd H a (.dK kC)):kC.length<=sizeLine/\(a==sysModules)=false/\∃vs,KV kC vs/\h.DictOf (XQ P w) a vs :=
 show ID P w H h a (.dK kC) from pUa ok e
end
def LM(H:Hp)(a:gA)(y:V)(r:Option V):Prop :=
 (∃kC k,Rd H a (.dK kC)/\y=kV k/\r=vI kC k)\/False
theorem LM.k{H:Hp}{a:gA}{kC:List (Key×V)}{k:Key}(e:H a=some (.dK kC)):LM H a (kV k) (vI kC k):=.inl ⟨kC,k,.inl e,rfl,rfl⟩
section
variable{X:Cx}{aA:List (gA×DB)}{Y:St}{H:Hp}{s:EA}{a:gA}{y v:V}{u r:eA}{o:Option V}{A:sG}{E:eA->EA->Prop}
def dA.big(I:dA X aA Y H s):sysModules<s.heap.objs.size:=by
 have h:TB<s.heap.objs.size:=(I.mod.glob.keeps I.bk).lt;exact tM (by decide) h
def vx{Q:eA->EA->Prop}(hu:A.units+1<cLine)(I:dA X aA Y H s)(g:LM H a y (some v))(ry:aAf y u)(h:∀w' s',dA X aA Y H s'->aAf v w'->Q w' s') :
  sA (model X.prog X.w) A (getItem (.ref a) u) Q E s:=by
 rcases g with ⟨kC,k,e,ey,l⟩ | g
 ·subst ey;obtain⟨z,hd,vs,pA,dd⟩:=W0 I.KA e;obtain⟨w',hw,nM⟩:=BH.some_of (v:=v) (o:=valueAt vs k) (by rw[l];exact pA.val k);exact wpAny_getItem_of (Ai ry) dd.mapOf hw (h w' _ (I.tok _) nM)
 ·exact g.elim
def wx{Q:eA->EA->Prop}(hu:A.units+1<cLine)(I:dA X aA Y H s)(g:LM H a y o)(ry:aAf y u)(h:∀s',dA X aA Y H s'->Q (.bool o.isSome) s') :
  sA (model X.prog X.w) A (nF .In u (.ref a)) Q E s:=by
 rcases g with ⟨kC,k,e,ey,l⟩ | g
 ·subst ey;obtain⟨z,hd,vs,pA,dd⟩:=W0 I.KA e;refine wpAny_in_of (Ai ry) hd dd.mapOf ?_;rw[<- (pA.val k).wDa,<- l];exact h _ (I.tok _)
 ·exact g.elim
def ye{h':JB}{t':Nat}{ob:HO}(I:dA X aA Y H s)(mu:ZR (H a))(hs:FI a s.heap h')(he:∃q,h'.get? a=some q)(new:ID X.prog X.w (GA H a ob) h' a ob) :
  dA X aA Y (GA H a ob) { s with heap:=h',toks:=t' } :=
 I.write (x:=a) (e:=a) mu (.inl rfl) (λb q hb z=>(hs.2 b hb).trans z) he new
end
def Rx{X:Cx}{aA:List (gA×DB)}{Y:St}{H:Hp}{s:EA}{a:gA}{y:V}{o:Option V}(I:dA X aA Y H s)(g:LM H a y o):s.TypeIs (.ref a) "dict":=by
 rcases g with ⟨kC,k,e,_,_⟩ | g
 ·obtain⟨_,_,vs,_,dd⟩:=W0 I.KA e;exact dd.typeIs
 ·exact g.elim
abbrev pB:=Int×List Int
section
variable{h:JB}
def uE(P:bE)(w:IC)(h:JB)(k:pB)(a:gA):Prop:=∃(t:uG) (b:gA),ON h a #[.int k.1 t,.ref b]/\IsTupleKey (intKind P w) h k.2 b
noncomputable def L5(P:bE)(w:IC)(k:pB):Int:=reduceHash (ia [hashInt k.1,tupleKeyHash (intKind P w) k.2])
theorem uE.inj(hx:uE P w h x a)(hy:uE P w h y a):x=y:=by
 obtain⟨t,b,⟨o,e,_,n,d⟩,kx⟩:=hx;obtain⟨t',b',⟨o',e',_,n',d'⟩,ky⟩:=hy;rw[e] at e';cases e';rw[d] at d';have z:=(Data.seq.inj d').1;have z1:Value.int x.1 t=Value.int y.1 t':=congrArg (λ(q:Array eA)=>q.getD 0 .none) z;have z2:Value.ref b=Value.ref b':=congrArg (λ(q:Array eA)=>q.getD 1 .none) z;cases z2;exact qc (Value.int.inj z1).1 ((tupleKind (intKind P w)).inj kx ky)
theorem uE.keeps(hk:uE P w h k a)(e:h.get? d=some o)(ed:o.data=.dict es ep)(sb:FI d h h'):uE P w h' k a:=by
 obtain⟨t,b,⟨o',e',c,n,d'⟩,kb⟩:=hk
 have ne:a≠d:=λz=>by(subst z;rw[e'] at e;cases e;rw[d'] at ed;cases ed)
 exact⟨t,b,⟨o',(sb.2 a ne).trans e',c,n,d'⟩,(tupleKind (intKind P w)).keeps kb e ed sb⟩
noncomputable def oN(k:pB):PyData:=.tuple [.int k.1,.tuple (k.2.map .int)]
def eEa{ns:List Int}{us:List eA}(q:wb (intKind P w) ns us):∃as,ReadsAll h us (ns.map .int) as:=by
 induction q with
 |nil=>exact⟨_,.nil⟩
 |cons hk t ih =>
  obtain⟨as,r⟩:=ih;obtain⟨tk,rfl⟩:=Qa hk;exact⟨_,.cons (.int _ _) r⟩
def uE.reads(hk:uE P w h k a):∃as,Reads h (.ref a) (oN k) as:=by
 obtain⟨t,b,⟨o,e,c,n,d⟩,o2,cA,n2,e2,c2,d2,i2⟩:=hk;obtain⟨as,r⟩:=eEa i2;exact⟨_,.tuple e c d (.cons (.int _ _) (.cons (.tuple e2 c2 d2 r) .nil))⟩
def jPa{ns:List Int}:nP (ns.map .int)=true:=by
 induction ns with
 |nil=>simp[nP]
 |cons n ns ih=>simp[nP,eK,ih]
def Mj{k:pB}:(oN k).canLay0=true:=by simp[oN,eK,nP,jPa]
def iPa{ns:List Int}:rP (ns.map .int)<=1:=by
 induction ns with
 |nil=>simp[rP]
 |cons n ns ih=>simp[rP,TJ];lia
def gPa{k:pB}:(oN k).depth<=5:=by
 have:=iPa (ns:=k.2)
 simp[oN,TJ,rP]
 lia
theorem Nj:∀{ns ms:List Int},LN (ns.map .int) (ms.map .int)=decide (ns=ms)
 |[],[]=>by simp[LN]
 |[],_::_=>by simp[LN]
 |_::_,[]=>by simp[LN]
 |n::ns,m::ms=>by(rw[CB,CB,LN,Nj];simp only[VY,sP,Uq];congr 1)
def hPa:(oN x).eqv (oN y)=decide (x=y):=by
 obtain⟨a,as⟩:=x;obtain⟨b,bs⟩:=y;simp only[oN,VY,LN,Nj,HY,lE,Uq];congr 1
def sy(hs:a=b->c=true)(r:SeqAt.RcAt A s (.ref a) (.ref b) c)(q:Q c s):sA (model P w) A (eqBool (.ref a) (.ref b)) Q E s:=by
 unfold eqBool;refine JN ?_;by_cases e:a=b
 ·subst e;rw[QA (by simp)];rw[hs rfl] at q;exact rA (jc (kB q))
 ·rw[UA (by simpa using e)];exact rA (r P w E _ (DM q))
theorem uE.eqBool(hu:A.units+8<cLine)(hx:uE P w s.heap x a)(hy:uE P w s.heap y b)(q:Q (decide (x=y)) s):sA (model P w) A (eqBool (.ref a) (.ref b)) Q E s:=by
 obtain⟨as,r1⟩:=hx.reads;obtain⟨bs,r2⟩:=hy.reads;have d1:=gPa (k:=x);refine sy (λe=>rB (by subst e;exact hx.inj hy)) ?_ q;rw[<- hPa];exact Pq r1 r2 Mj Mj (by lia)
theorem uE.pyHash(hu:A.units+8<cLine)(hk:uE P w s.heap k a)(q:Q (L5 P w k) { s with toks:=s.toks+(k.2.length+3) }):sA (model P w) A (pyHash (.ref a)) Q E s:=by
 obtain⟨t,b,ht,kb⟩:=hk;show sA _ _ (pyHashByItsType (.ref a)) _ _ s;refine W.pyHash_slot ht.typeIs F.slot_tuple_hash F.entry_tuple_hash (F.args_tuple_hash_1 _) rfl (.inr (by lia)) ?_;unfold yM.«tuple.__hash__»;show sA _ _ (aa (.ref a)>>=_) _ _ s;refine rA (Bb ht ?_);rw[<- zq];simp only[XU,ar,bind_assoc,pure_bind];refine rA (wpAny_pyHash_int ?_);refine rA (wpAny_pyHash_tuple (knd:=intKind P w) (by show A.units+1<cLine;lia) kb ?_);refine rA (Vb (kB ⟨_,_,rfl, ?_⟩));have e:s.toks+1+(k.2.length+1)+1=s.toks+(k.2.length+3):=by lia
 show Q (L5 P w k) { s with toks:=s.toks+1+(k.2.length+1)+1 };rw[e];exact q
def Kk(ht:ON s.heap a cA)(hi:∀v∈cA.toList,∀(R:Bool->EA->Prop),R true s->sA (model P w) A (eqIsQuiet d v) R E s)(q:Q true s):sA (model P w) A (eqIsQuiet (d+1) (.ref a)) Q E s:=by
 unfold eqIsQuiet;refine rA (qb ht.typeIs (PyProof.Rows.slot_tuple_eq.lookup) ?_);obtain⟨o,e,c,n,dd⟩:=id ht;show sA _ _ (isInstance (.ref a) (.type "tuple")>>=_) _ _ s;refine rA (Ya ht.typeIs (by with_unfolding_all rfl) ?_);show sA _ _ (seqItems? (.ref a)>>=_) _ _ s;refine rA (wpAny_seqItems e dd ?_)
 have key:∀{k:Option Bool×Unit->Sem Bool},sA (model P w) A (k (none,())) Q E s->∀xs:List eA,(∀v∈xs,v∈cA.toList)->sA (model P w) A (forIn xs ((none:Option Bool),()) (λy _=>do
    let v <- eqIsQuiet d y
    if(!v)=true then pure (ForInStep.done (some false,())) else pure (ForInStep.yield (none,())))>>=k) Q E s:=by
  intro k hk xs
  induction xs with
  |nil=>intro _;exact rA (kB hk)
  |cons x xs ih =>
   intro hm;have ih:=ih λv hv=>hm v (RD _ hv)
   simp only[XU,bind_assoc] at ih ⊢;refine rA (hi x (hm x wG) _ ?_);simp only[MN,kL,if_false,pure_bind];exact ih
 show sA _ _ (forIn cA _ _>>=_) _ _ s;rw[<- zq];exact key (kB q) cA.toList λ_ h=>h
def Jk(q:Q true s):sA (model P w) A (eqIsQuiet d (.int i t)) Q E s:=by
 unfold eqIsQuiet;exact kB q
theorem fh:∀{ns:List Int} {us:List eA},wb (intKind P w) ns us->∀v∈us,∃i t,v=.int i t
 |_,_,.nil=>λ_ h=>nomatch h
 |_,_,.cons hk r=>λv hv=>by
  rcases pD.mp hv with rfl | hv
  ·obtain⟨t,e⟩:=Qa hk;exact⟨_,t,e⟩
  ·exact fh r v hv
def uE.quiet(hk:uE P w s.heap k a)(q:Q true s):sA (model P w) A (eqIsQuiet (d+2) (.ref a)) Q E s:=by
 obtain⟨t,b,ht,o2,cA,n2,e2,c2,d2,i2⟩:=hk;refine Kk (d:=d+1) ht (λv hv R hR=>?_) q;rcases pD.mp (show v∈[Value.int k.1 t,Value.ref b] from hv) with rfl | hv
 ·exact Jk hR
 ·rw[dD.mp hv];refine Kk ⟨o2,e2,c2,n2,d2⟩ (λv hv R hR=>?_) hR;obtain⟨i,t,rfl⟩:=fh i2 v hv;exact Jk hR
abbrev JC:=pB ⊕ Empty
noncomputable def gk:JC->pB:=Sum.elim id Empty.elim
def zf{x y:JC}(h:gk x=gk y):x=y:=by
 obtain x | x:=x
 ·obtain y | y:=y
  ·exact congrArg Sum.inl h
  ·cases y
 ·cases x
end
def tR(P:bE)(w:IC):HeapKind P w JC where
 is:=λh k a=>uE P w h (gk k) a
 hash:=λk=>L5 P w (gk k)
 draws:=λk=>(gk k).2.length+3
 room:=λA=>A.units+10<cLine
 inj:=λhx hy=>zf (uE.inj hx hy)
 keeps:=λhk e ed sb=>uE.keeps hk e ed sb
 pyHash:=λhu hk q=>uE.pyHash (by lia) hk q
 eqBool:=λhu hx hy q=>uE.eqBool (by lia) hx hy ((JR.mpr ⟨zf,congrArg gk⟩).symm ▸ q)
 quiet:=λhk q=>uE.quiet (d:=6) hk q
abbrev YH:=List (JC×gA×eA)
noncomputable def R'(k:pB):Int:=reduceHash (ia [hashInt k.1,reduceHash (ia (k.2.map hashInt))])
def hS(k:JC):Int:=R' (gk k)
def De(x:JC×gA×eA):DictEntry:={ hash:=hS x.1,key:=.ref x.2.1,val:=x.2.2 }
def iC(a:gA)(xs:YH)(ep:Nat)(h:JB):Prop:=∃o es,h.get? a=some o/\o.ExactDict/\o.data=.dict es ep/\es.toList=xs.map De
def qV(H:Hp)(a:gA)(xs:YH):Prop:=∃ep,H a=some (.ext (iC a xs ep))
def kK(K:fA)(H:Hp)(k:pB)(b:gA):Prop:=∃c,LC K H b [.int k.1,.ref c]/\LC K H c (k.2.map V.int)
def DC(K:fA)(H:Hp)(k:JC)(b:gA):Prop:=kK K H (gk k) b
structure DS(K:fA)(H:Hp)(a:gA)(xs:YH):Prop where
 at_:qV H a xs
 nd:(xs.map (·.1)).Nodup
 len:xs.length<=sizeLine
 sm:(a==sysModules)=false
 keys:∀x∈xs,DC K H x.1 x.2.1
section
variable{k:JC}
def kK.is{k:pB}(I:dA X aA Y H s)(e:kK X.K H k b):uE X.prog X.w s.heap k b:=by
 obtain⟨c,e1,e2⟩:=e;obtain⟨cA,r,ht,_⟩:=I.tuple e1;obtain⟨mI,r2,⟨o,h1,h2,n,h3⟩,_⟩:=I.tuple e2;obtain⟨u,v,rfl,ru,rv⟩:=aAQ r;obtain⟨t,rfl⟩:=ru;cases rv;refine⟨t,c,ht,o,mI.toArray,n,h1,h2,h3, ?_⟩
 have key:∀{ns:List Int} {us:List eA},aAd (ns.map V.int) us->wb (intKind X.prog X.w) ns us:=by
  intro ns
  induction ns with
  |nil=>intro us q;cases q;exact .nil
  |cons n ns ih =>
   intro us q;rw[CB] at q
   cases q with
   |cons q1 q2 =>
    obtain⟨t,rfl⟩:=q1;exact .cons (by show RY n (.int n t)=true;simp[RY]) (ih q2)
 simpa using key r2
theorem DC.is{k:JC}(I:dA X aA Y H s)(e:DC X.K H k b):(tR X.prog X.w).is s.heap k b:=kK.is I e
theorem Ee:entryOfKey (tR P w)=De:=rfl
def DS.dict(I:dA X aA Y H s)(d:DS X.K H a xs):s.heap.DictOfH (tR X.prog X.w) a xs:=by
 obtain⟨ep,e⟩:=d.at_;obtain⟨⟨o,es,h1,h2,h3,h4⟩,_⟩:=(show ID X.prog X.w H s.heap a (.ext (iC a xs ep)) from I.KA a _ e)
 exact⟨o,es,ep,h1,h2,h3,by rw[Ee];exact h4,λx hx=>(d.keys x hx).is I,d.nd⟩
def iC.jH(r:iC a xs ep h1)(k:∀o,h1.get? a=some o->h2.get? a=some o):iC a xs ep h2:=by
 obtain⟨o,es,e,r⟩:=r;exact⟨o,es,k o e,r⟩
def iC.ok(d:h.DictOfH (tR P w) a xs):∃ep,∀H:Hp,ID P w H h a (.ext (iC a xs ep)):=by
 obtain⟨o,es,ep,h1,h2,h3,h4,_⟩:=d;exact⟨ep,λ_=>⟨⟨o,es,h1,h2,h3,by rw[<- Ee];exact h4⟩,⟨o,h1⟩,λ_ _ r k=>r.jH k⟩⟩
def qXa:(storedH xs k b v).length<=xs.length+1:=by unfold storedH;split<;>simp
def pXa{K:fA}(h:∀x∈xs,DC K H x.1 x.2.1)(hk:DC K H k b):∀x∈storedH xs k b v,DC K H x.1 x.2.1:=by
 unfold storedH;split
 ·intro x hx;obtain⟨y,hy,rfl⟩:=SD.mp hx;unfold putAt;split
  ·exact h y hy
  ·exact h y hy
 ·intro x hx;rcases eG.mp hx with hx | hx
  ·exact h x hx
  ·rw[dD.mp hx];exact hk
def rVa(hu:A.units+11<cLine)(I:dA X aA Y H s)(d:DS X.K H a xs)(hk:DC X.K H k b)(e:atKey xs k=some p)(h:∀s',dA X aA Y H s'->Q p.2 s'):sA (model X.prog X.w) A (getItem (.ref a) (.ref b)) Q E s :=
 wpAny_getItem_heap (show A.units+1+10<cLine by lia) (hk.is I) (d.dict I) e (h _ (I.tok _))
def sVa(hu:A.units+11<cLine)(I:dA X aA Y H s)(d:DS X.K H a xs)(hk:DC X.K H k b)(h:∀s',dA X aA Y H s'->Q (.bool (atKey xs k).isSome) s'):sA (model X.prog X.w) A (nF .In (.ref b) (.ref a)) Q E s :=
 wpAny_in_heap (show A.units+1+10<cLine by lia) (hk.is I) d.sm (d.dict I) (h _ (I.tok _))
def vVa(hu:A.units+11<cLine)(I:dA X aA Y H s)(d:DS X.K H a xs)(hk:DC X.K H k b)(h:∀s',dA X aA Y H s'->Q (.bool !(atKey xs k).isSome) s'):sA (model X.prog X.w) A (nF .NotIn (.ref b) (.ref a)) Q E s :=
 wpAny_notIn_heap (show A.units+1+10<cLine by lia) (hk.is I) d.sm (d.dict I) (h _ (I.tok _))
def uKa{h:JB}(d:h.DictOfH (tR P w) a xs):(xs.map (·.1)).Nodup:=by
 obtain⟨_,_,_,_,_,_,_,_,nd⟩:=d;exact nd
def wVa(hu:A.units+11<cLine)(I:dA X aA Y H s)(d:DS X.K H a xs)(hk:DC X.K H k b)(hl:xs.length<sizeLine)
  (h:∀ep s',dA X aA Y (GA H a (.ext (iC a (storedH xs k b v) ep))) s'->((storedH xs k b v).map (·.1)).Nodup->Q () s'):sA (model X.prog X.w) A (setItem (.ref a) (.ref b) v) Q E s :=
 wpAny_setItem_heap (show A.units+1+10<cLine by lia) (hk.is I) (d.dict I) (λh' dd hs=>let ⟨_,e⟩:=d.at_;let ⟨_,w⟩:=iC.ok dd;h _ _ (ye I (by rw[e];exact True.intro) hs (let ⟨o,_,_,e,_⟩:=dd;⟨o,e⟩) (w _)) (uKa dd)) (JY hl)
def Vk(h:JB):ID P w H (h.push { cls:=.type "dict",data:=.dict #[] }) h.objs.size (.ext (iC h.objs.size [] 0)) :=
 ⟨⟨_,#[],gF _ rfl,⟨rfl,rfl,rfl⟩,rfl,rfl⟩,⟨_,gF _ rfl⟩,λ_ _ r k=>r.jH k⟩
def yPa:PE X (.Dict [] [] pos) (λ_ H Q=>∀p,H p=none->(p==sysModules)=false->Q (.ref p) (GA H p (.ext (iC p [] 0)))):=λaA s Y H Q I q =>
 wpAny_Dict_empty ⟨.ref s.heap.objs.size,_,I.laid (a:=s.heap.objs.size) (o:=.ext (iC s.heap.objs.size [] 0)) (t':=s.toks) (λ_ _ q=>jD _ q) (zB _) (Vk s.heap),rfl,q _ (I.KA.fresh (zB _)) (kP.mpr (HE (sE I.big)))⟩
def cYa(K:fA)(tk tv:TE):TE:=λY H Q=>∀p,H p=none->(p==sysModules)=false->tk Y (GA H p (.ext (iC p [] 0))) λx H1=>tv Y H1 λy H2=>H2 p=some (.ext (iC p [] 0))/\∃k b,x=.ref b/\DC K H2 k b/\∀v,aAf y v->∀ep,Q (.ref p) (GA H2 p (.ext (iC p [(k,b,v)] ep)))
def zPa(hu:X.A.units+11<cLine)(hk:PE X ke tk)(hv:PE X ve tv):PE X (.Dict [some ke] [ve] pos) (cYa X.K tk tv):=by
 intro aA s Y H Q I q;have hn:=I.KA.fresh (zB s.heap.objs.size);have sm:(s.heap.objs.size==sysModules)=false:=kP.mpr (HE (sE I.big));have I1:=I.laid (a:=s.heap.objs.size) (o:=.ext (iC s.heap.objs.size [] 0)) (h':=s.heap.push { cls:=.type "dict",data:=.dict #[] }) (t':=s.toks) (λ_ _ q=>jD _ q) (zB _) (Vk s.heap);refine wpAny_Dict_any rfl rfl (by simp) (by simp) (pairTrees_cons_walk (RA (hk aA _ Y _ _ I1 (q _ hn sm)) λu s1 ⟨x,H1,I2,rx,q1⟩=>RA (hv aA s1 Y H1 _ I2 q1) λw2 s2 ⟨y,H2,I3,ry,q2⟩=>pairTrees_nil_walk ?_));obtain⟨e,k,b,rfl,kk,q3⟩:=q2;cases rx;have d:DS X.K H2 s.heap.objs.size []:=⟨⟨_,e⟩,by simp,by simp,sm,λx hx=>nomatch hx⟩
 unfold storeAll;simp only[XU,ar,bind_assoc,pure_bind];refine rA (wpAny_dictSet_heap (knd:=tR X.prog X.w) (show X.A.units+10<cLine by lia) (kk.is I3) (d.dict I3) (λh' dd hs=>let ⟨_,w⟩:=iC.ok dd;kB ⟨.ref s.heap.objs.size,_,ye I3 (by rw[e];exact True.intro) hs (let ⟨o,_,_,e,_⟩:=dd;⟨o,e⟩) (w _),rfl,q3 _ ry _⟩) (by simp))
end
section
variable{s:EA}
def iC.typeIs(h:iC a xs ep s.heap):s.TypeIs (.ref a) "dict":=let ⟨o,_,h1,h2,_⟩:=h;⟨o,h1,h2.1⟩
def gh(hd:(a==sysModules)=false)(hm:iC a xs ep s.heap)(hQ:Q (.ref s.heap.objs.size) { s with heap:=s.heap.push { cls:=.type "dict_keyiterator",data:=.fields #[.ref a,.int 0 0,.int xs.length 0,.int ep 0] } }):sA (model prog w) A (pyIter (.ref a)) Q E s:=by
 obtain⟨o,es,ho,hc,tW,hp⟩:=id hm;have hT:s.TypeIs (.ref a) "dict":=hm.typeIs;refine wpAny_pyIter_slot hT Qq (HR Qq hT F.entry_dict_iter ?_ (F.args_dict_iter_1 _));unfold yM.«dict.__iter__»;refine rA ?_;unfold Builtin.Dict.dictSlotNone;refine rA (wpAny_notOrdered_dict hT ?_);show sA _ _ (pure (Value.ref a)) _ _ s;refine kB ?_;show sA _ _ (Rp a>>=_) _ _ s;unfold Rp;rw[UA (by rw[hd];exact dG)];refine rA (kB (rA (Ta ho tW (rA (wpAny_dictEpoch ho tW ?_)))));have wB:es.size=xs.length:=by rw[<- jL,hp,nA]
 refine rA (HM (kB ⟨_,rfl,"dict_keyiterator",_,⟨_,gF _ rfl,rfl⟩,Z9.lookup, ?_⟩));simpa[rawInt,wB] using hQ
def nX(hh:A.handled=none)(hit:s.heap.IsKeyIter it a i xs.length ep)(hm:iC a xs ep s.heap)
  (h1:∀x h',xs[i]?=some x->h'.IsKeyIter it a (i+1) xs.length ep->FI it s.heap h'->Q (some (.ref x.2.1)) { s with heap:=h' })
  (h2:∀h',xs.length<=i->Heap.ExtBut it s.heap h'->Q none { s with heap:=h' }):sA (model prog w) A (pyNext (.ref it)) Q E s:=by
 obtain⟨o,ho,hc,hd⟩:=id hit;obtain⟨od,es,sg,OI,Wf,hp⟩:=id hm;have wB:es.size=xs.length:=by rw[<- jL,hp,nA]
 unfold pyNext
 refine rA (Eb (zR (name:=wA "__next__") hit.typeIs Z9
  (HR Z9 hit.typeIs F.entry_dict_keyiterator_next ?_ (F.args_dict_keyiterator_next_1 _))))
 refine rA (kB (rA (rA ?_)))
 first | refine rA (Y9 hit.typeIs (kB ?_)) | refine rA (oa hit.typeIs (kB ?_))
 refine rA (wpAny_fieldsOf ho hd ?_);have aN:d1a "dict_keyiterator"=false:=by decide
 simp only[aN,kL,if_false];show sA _ _ (if(Value.ref a==Value.none)=true then _ else _) _ _ s;rw[UA (show ¬((Value.ref a==Value.none)=true) from dG)];refine rA (kB (rA (Ta sg Wf ?_)));rw[UA (by rw[wB];simp)];refine rA (kB (rA (wpAny_dictEpoch sg Wf ?_)));rw[UA (by simp)];refine kB ?_;rcases Nat.lt_or_ge i es.size with sD | wW
 ·have hx:∃x,xs[i]?=some x/\es[i].key=.ref x.2.1:=by
   have e:es.toList[i]?=some es[i]:=by simp[sD]
   rw[hp,MD] at e
   cases q:xs[i]? with
   |none=>rw[q] at e;cases e
   |some x=>rw[q] at e;exact⟨x,rfl,congrArg DictEntry.key (rE e).symm⟩
  obtain⟨x,hx,hk⟩:=hx;simp only[show ¬((i:Int)<0) from by lia,if_false,gJ,Array.getElem?_eq_getElem sD];refine rA ?_
  first | refine rA (Y9 hit.typeIs (kB ?_)) | refine rA (oa hit.typeIs (kB ?_))
  refine rA (Tp hit.typeIs ?_);show sA _ _ (setField (.ref it) 1 (rawInt ((i:Int)+1))>>=_) _ _ s;refine rA (aV ho hd (by simp) ?_)
  have xW:(s.heap.update it (OR (·.setIfInBounds 1 (rawInt ((i:Int)+1))))).IsKeyIter it a (i+1) xs.length ep :=
   ⟨_,nY _ ho (oY (PU hd _)),(Iq ..).trans hc,by rw[PU hd];simp[rawInt]⟩
  refine rA (JN ?_);refine rA (Tp (s:={ s with heap:=s.heap.update it (OR (·.setIfInBounds 1 (rawInt ((i:Int)+1)))) }) xW.typeIs ?_);show sA _ _ (pure es[i].key) _ _ _;rw[hk];exact kB (kB ⟨_,rfl,kB (h1 x _ hx xW (mq ..))⟩)
 ·simp only[show ¬((i:Int)<0) from by lia,if_false,gJ,Array.getElem?_eq_none wW];refine rA ?_
  first | refine rA (Y9 hit.typeIs (kB ?_)) | refine rA (oa hit.typeIs (kB ?_))
  show sA _ _ (setField (.ref it) 0 .none>>=_) _ _ s;refine rA (aV ho hd (by simp) ?_);show sA _ _ (newExc (.type "StopIteration") []>>=_) _ _ _;refine rA ?_;simp only[newExc,newTuple];refine rA (HM ?_ (by size_fits));refine rA (m:=firstArgMember _ _) (wpAny_of_eq (a:=Value.none) (by first | rfl | (simp only[firstArgMember];rfl)) ?_);refine HM ?_ (by size_fits);simp only[raiseNew];refine rA (wpAny_handled ?_);rw[show A.in1.handled=none from hh];refine rA (kB (wpAny_throw ?_));refine rA (Ya (T:="StopIteration") (b:=true) ⟨_,gF _ rfl,rfl⟩ isSubtype_stop ?_);exact kB (h2 _ (wB ▸ wW) (((mq ..).extBut.push _).push _))
end
noncomputable def cZ(a:gA)(xs:YH)(ep:Nat):It:=⟨λi H=>H a=some (.ext (iC a xs ep))/\i<xs.length,λi H v H'=>H'=H/\∃x,xs[i]?=some x/\v=.ref x.2.1,λi H=>H a=some (.ext (iC a xs ep))/\xs.length<=i⟩
def jZa{K:fA}(a it:gA)(xs:YH)(ep:Nat):Turn P w K tg (cZ a xs ep) [it] it (λi h=>h.IsKeyIter it a i xs.length ep) where
 mem:=dD.mpr rfl
 obj:=λi h st b hb=>by(obtain rfl:=dD.mp hb;obtain⟨o,e,c,d⟩:=st;exact⟨o,e,λv z=>by rw[d] at z;cases z⟩)
 keep:=λi h h' st k=>let ⟨o,ho,r⟩:=st;⟨o,k it (dD.mpr rfl) o ho,r⟩
 item:=by
  intro X hP hw hK hc i aA s Y H E I hf st hg;subst hP hw hK;obtain⟨f0,f1,f2,f3,f4,f5⟩:=hf it (dD.mpr rfl);obtain⟨g1,g2⟩:=hg;refine nX (I.ok.hd hc) st (show ID X.prog X.w H s.heap a (.ext (iC a xs ep)) from I.KA a _ g1).1 (λx h' hx bG sb=>?_) λ_ z=>absurd g2 (Nat.not_lt.mpr z)
  have I1:dA X aA Y H { s with heap:=h' }:=I.turned (t':=s.toks) (λb o hb e=>(sb.2 b hb).trans e) f0 f1 f3 f4 f5;obtain⟨o,e,c,d⟩:=id bG;exact⟨_,rfl,QS (s:={ s with heap:=h' }) e c d (by decide) ⟨.ref x.2.1,H,I1,rfl,⟨rfl,_,hx,rfl⟩,bG,λb hb=>(hf b hb).1⟩⟩
 done:=by(intro X hP hw hK hc i aA s Y H E I hf st hg;subst hP hw hK;obtain⟨f0,f1,f2,f3,f4,f5⟩:=hf it (dD.mpr rfl);obtain⟨g1,g2⟩:=hg;exact nX (I.ok.hd hc) st (show ID X.prog X.w H s.heap a (.ext (iC a xs ep)) from I.KA a _ g1).1 (λx h' hx=>by rw[BM g2] at hx;cases hx) λh' _ eb=>⟨rfl,I.turned (t':=s.toks) (λb o hb e=>eb b o hb e) f0 f1 f3 f4 f5⟩)
 self:=λ_ _ _ _ _ st h=>dq st h
section
variable{tg:xA}
def Lg(tl:TE):TI:=λY H R=>tl Y H λv H1=>∃a xs ep,v=.ref a/\(a==sysModules)=false/\H1 a=some (.ext (iC a xs ep))/\R (cZ a xs ep) H1
def fk{tl:TE}(hl:PE X l tl):PI X tg l (Lg tl):=by
 intro aA s Y H R I h;refine RA (hl aA s Y H _ I h) λv s1 hz=>?_
 obtain⟨y,H1,I1,r1,q1⟩:=hz;obtain⟨a,xs,ep,rfl,sm,hx,q⟩:=q1;cases r1;refine gh sm (show ID X.prog X.w H1 s1.heap a (.ext (iC a xs ep)) from I1.KA a _ hx).1 ?_;refine⟨s1.heap.objs.size,[s1.heap.objs.size],_,_,H1,rfl,I1.kept (t':=s1.toks) λb o e=>jD _ e,jZa a _ xs ep,⟨_,gF _ rfl,rfl,rfl⟩,λb hb=>?_,q⟩;obtain rfl:=dD.mp hb;exact I1.GL (zB _) (I1.KA.fresh (zB _))
def qHa(sm:(a==sysModules)=false):PySem.W.KdlSrc P w "dict" a a xs.length (λi v=>∃x,xs[i]?=some x/\v=.ref x.2.1) (iC a xs ep) where
 type:=λ_ hm=>hm.typeIs
 there:=λ_ hm=>let ⟨_,_,h,_⟩:=hm;⟨yC h,yC h⟩
 keep:=λ_ _ hm hk=>hm.jH λo e=>hk a (.inl rfl) o e
 notList:=by decide
 notTuple:=by decide
 hint:=λ_ _ _ _ hm hq=>PySem.W.kdl_hint_dict hm.typeIs hq
 iter:=λ_ s hh hm=>⟨_,λi h=>h.IsKeyIter s.heap.objs.size a i xs.length ep/\iC a xs ep h,(λ_ _ hq=>gh sm hm hq),{
  sub:=λb hb=>by simp at hb;simp[hb]
  frame:=λ_ _ _ st hk=>⟨st.1.at λo e=>hk _ (by simp) o e,st.2.jH λo e=>hk a (by simp) o e⟩
  item:=λi s1 Q E hi st hQ=>nX hh st.1 st.2 (λx h' hx bG sb=>hQ _ h' s1.toks ⟨x,hx,rfl⟩ ⟨bG,st.2.jH λo e=>sb.extBut a o (let ⟨_,_,h,_⟩:=hm;sE (yC h)) e⟩ λb o hb e=>sb.extBut b o (λh=>hb (by simp[h])) e) λ_ z=>absurd hi (Nat.not_lt.mpr z)
  done:=λs1 Q E st hQ=>nX hh st.1 st.2 (λx h' hx=>by simp at hx) λh' _ he=>hQ h' s1.toks λb o hb e=>he b o (λh=>hb (by simp[h])) e
  self:=λ_ _ _ _ st hQ=>dq st.1 hQ },⟨⟨_,gF _ rfl,rfl,rfl⟩,hm.jH λo e=>jD _ e⟩⟩
end
end L2
namespace HT
open PySem PySem.Spec PyProof.Rows
section
variable{s:EA}
def W_{lo hi:Option Int}(ht:ON s.heap t items)(hs:s.heap.IsSliceOf sl vl vu .none)(pl:XJ vl lo)(pu:XJ vu hi)
  (hw:nB items.size 0 lo=0/\nB items.size items.size hi=items.size) (h:Q (.ref t) s):sA (model prog w) A (getItem (.ref t) (.ref sl)) Q E s:=by
 obtain⟨os,FO,OL,LB⟩:=id hs;have J5:s.TypeIs (.ref sl) "slice":=⟨os,FO,OL⟩
 unfold getItem
 try with_reducible refine JN ?_
 first | refine rA (kB ?_) | skip
 refine rA (Gq ht.typeIs (by decide) ?_)
 refine rA (zR (name:=wA "__getitem__") ht.typeIs JP
  (HR JP ht.typeIs lq ?_ (wq _ _)))
 show sA _ _ (aa (.ref t)>>=_) _ _ s;refine rA (Bb ht ?_);refine rA (Lb J5 ?_);rw[QA (by decide)];refine rA (Ll hs pl pu ?_)
 have eH:(((nB items.size 0 lo:Nat):Int)==0&&(1:Int)==1&&(nB items.size items.size hi-nB items.size 0 lo)==items.size)=true:=by(rw[hw.1,hw.2];simp)
 show sA _ _ (if(((nB items.size 0 lo:Nat):Int)==0&&(1:Int)==1&&(nB items.size items.size hi-nB items.size 0 lo)==items.size)=true then _ else _) _ _ s;rw[QA eH];refine rA (show sA _ _ (Builtin.Tuple.tupleIsExact (.ref t)) _ _ _ from rA (Lb ht.typeIs (kB ?_)));rw[QA (by decide)];refine rA (jc ?_);exact kB ⟨_,rfl,kB h⟩
end
end HT
namespace L2
open PySem PySem.Spec PyProof.Rows
section
variable{e st:xA}
def kUa(K:fA):V->Option Int->Option Int->Hp->VK->Prop:=λx lo hi H Q=>∃a xs,x=.ref a/\LC K H a xs /\
 (∀p,H p=none->Q (.ref p) (GA H p (.t (AL xs lo hi))))/\(HT.nB xs.length 0 lo=0/\HT.nB xs.length xs.length hi=xs.length->Q (.ref a) H)
def tWa:lK X (kUa X.K):=by
 intro aA s Y H x v vl vu lo hi sl Q I rx hs pl pu h;obtain⟨a,xs,rfl,hx,q,q2⟩:=h;by_cases hw:HT.nB xs.length 0 lo=0/\HT.nB xs.length xs.length hi=xs.length
 ·cases rx;obtain⟨cA,r,ht,hz⟩:=I.tuple hx;have qB:cA.toArray.size=xs.length:=by rw[UC];exact r.length.symm
  refine⟨"tuple",_,JP.lookup,ht.typeIs, ?_⟩;exact HT.W_ ht hs pl pu (by rw[qB];exact hw) ⟨.ref a,H,I,rfl,q2 hw⟩
 ·exact sWa aA s Y H (.ref a) v vl vu lo hi sl Q I rx hs pl pu ⟨a,xs,rfl,hx,hw,q⟩
end
end L2
namespace CI
open PySem PySem.Spec PyProof.Rows L2
section
variable{h':JB}
def qLa(x:ID P w H h b o):∃ob,h.get? b=some ob:=by
 cases o with
 |l xs=>obtain⟨_,_,_,_,e⟩:=x;exact⟨_,e⟩
 |t xs=>obtain⟨_,_,_,ob,e,_⟩:=x;exact⟨_,e⟩
 |dK kC=>obtain⟨_,_,_,_,o,_,_,e,_⟩:=x;exact⟨_,e⟩
 |set S n=>obtain⟨o,_,_,_,e,_⟩:=x;exact⟨_,e⟩
 |ins C dx fs=>obtain⟨_,_,_,e,_⟩:=x;exact⟨_,e⟩
 |own y=>obtain⟨_,e⟩:=x;exact⟨_,e⟩
 |xd fs=>obtain⟨_,⟨_,_,_,e,_⟩,_⟩:=x;exact⟨_,e⟩
 |MB lo hi=>obtain⟨_,_,_,e⟩:=x;exact⟨_,e⟩
 |OD ob u=>obtain⟨e,_⟩:=x;exact⟨_,e⟩
 |yN ps=>exact⟨_,show h.get? b=some _ from x⟩
 |met f y=>exact⟨_,show h.get? b=some _ from x⟩
 |ext φ=>obtain⟨_,⟨_,e⟩,_⟩:=x;exact⟨_,e⟩
def jW(I:dA X aA Y H s)(hb:s.heap.get? b=none)(hn:H' b=none):FD X aA H' b:=by
 refine⟨hn,λz=>?_,λz=>?_, ?_,λx c e z=>?_,λp hp z=>?_⟩
 ·obtain⟨m,⟨o,_,_,ho,_⟩,_⟩:=I.loc;rw[<- z,hb] at ho;cases ho
 ·obtain⟨_,o,ho,_⟩:=I.BG.mem z;rw[hb] at ho;cases ho
 ·by_cases hx:b∈X.ex
  ·exact .inl hx
  ·refine .inr ?_
   cases q:X.s₀.heap.get? b with
   |none=>rfl
   |some o =>
    obtain⟨o',e⟩:=I.base.there b o q hx;rw[hb] at e;cases e
 ·obtain⟨v,o,ho,_⟩:=I.cell x c e;rw[z,hb] at ho;cases ho
 ·have:=(I.pin p hp).1
  rw[z,hb] at this;cases this
def sf(I:dA X aA Y H s)(hb:s.heap.get? b=none):H b=none:=by
 cases q:H b with
 |none=>rfl
 |some u =>
  obtain⟨ob,e⟩:=qLa (I.KA b u q);rw[hb] at e;cases e
def K6(I:dA X aA Y H s)(fp:∀b∈as,FD X aA H b)(k:(MR s.heap (as++iE X.stack)).StaysIn h')
  (sl:∀b o,s.heap.get? b=some o->(∀vs,o.data≠.fields vs)->∃sl,h'.get? b=some { o with slots:=sl }):dA X aA Y H { s with heap:=h' }:=by
 have kp:∀b o,b ∉ as->b ∉ iE X.stack->s.heap.get? b=some o->h'.get? b=some o:=λb o h1 h2 e=>k b o (Ia _ e (by simp[h1,h2]))
 have tr:∀b u,H b=some u->b ∉ as/\b ∉ iE X.stack:=λb u e=>⟨(λz=>by rw[(fp b z).1] at e;cases e),(λz=>by rw[I.p9 b z] at e;cases e)⟩
 have fr:∀b∈iE X.stack,∀o,s.heap.get? b=some o->∃sl,h'.get? b=some { o with slots:=sl }:=λb hb o e=>by(obtain⟨_,o',e',nf⟩:=I.stack.mem hb;rw[e] at e';cases e';exact sl b o e nf)
 have KA:GD X.prog X.w H h':=λb u e=>(I.KA b u e).jH (λc v hc q=>by
  have z:c ∉ as/\c ∉ iE X.stack:=by
   rcases hc with rfl | hc
   ·exact tr _ u e
   ·exact tr c _ hc
  exact kp c v z.1 z.2 q) (λ_ q=>q) λ_ _ q=>q
 have u:Un (iE X.stack) as H H s.heap h':=⟨λb o e n hf hx=>kp b o hx hf e,λb o e n hf hx=>fr b hf o e,λb o e n hx=>n,λb o e hx=>by
  by_cases hf:b∈iE X.stack
  ·obtain⟨_,z⟩:=fr b hf o e;exact⟨_,z⟩
  ·exact⟨o,kp b o hx hf e⟩,λ_ _ e=>e,λ_ _ _ e=>e,λb ps e=>⟨#[],by rw[e];simp⟩⟩
 exact I.call (g':=s.gens) (t':=s.toks) (d':=s.drawn) (ch:=as) u KA I.bare λb hb=>⟨(fp b hb).2.2.2.1,(fp b hb).2.1,(fp b hb).2.2.2.2.1,(fp b hb).2.2.2.2.2⟩
abbrev PX:=Option gA×Bool
def uL(vs:Array eA)(a0:eA)(b:Bool):Prop:=vs[0]?=some a0/\(b=true->vs[2]?=some .none)
def uL.dWa(h:uL vs a0 b):uL (vs.setIfInBounds 1 v) a0 b :=
 ⟨by rw[bp (by decide)];exact h.1,λz=>by rw[bp (by decide)];exact h.2 z⟩
def HI(X:Cx)(aA:List (gA×DB))(H:Hp)(h:JB)(a C:gA)(p:PX)(fl:eA):Prop :=
 ∃oe vs a0 T oT ts,h.get? a=some oe/\(oe.cls=.ref C/\oe.dict=p.1)/\oe.data=.fields vs/\uL vs a0 p.2/\FD X aA H T/\vs[1]?=some (.ref T)/\T≠a/\h.get? T=some oT/\oT.data=.fields ts/\ts[3]?=some fl
def Rr(h:JB)(a C:gA)(p:PX):Prop:=∃oe vs a0,h.get? a=some oe/\(oe.cls=.ref C/\oe.dict=p.1)/\oe.data=.fields vs/\uL vs a0 p.2/\vs[1]?=some .none
def NM(X:Cx)(aA:List (gA×DB))(H:Hp)(h:JB)(a C:gA)(p:PX):Prop:=FD X aA H a/\(Rr h a C p\/∃fl,HI X aA H h a C p fl)
def zKa(I:dA X aA Y H s)(fp:∀b∈as,FD X aA H b)(hB:(MR s.heap (as++iE X.stack)).get? T=none)(hT:h'.get? T=some oT)(hd:oT.data=.fields ts)
  (sl:∀b o,s.heap.get? b=some o->(∀vs,o.data≠.fields vs)->∃sl,h'.get? b=some { o with slots:=sl }):FD X aA H T:=by
 by_cases h1:T∈as
 ·exact fp T h1
 ·by_cases h2:T∈iE X.stack
  ·obtain⟨_,o,e,nf⟩:=I.stack.mem h2;obtain⟨Kl,e'⟩:=sl T o e nf;rw[hT] at e';cases e';exact absurd hd (nf ts)
  ·have hn:s.heap.get? T=none:=by
    cases q:s.heap.get? T with
    |none=>rfl
    |some o=>rw[Ia _ q (by simp[h1,h2])] at hB;cases hB
   exact jW I hn (sf I hn)
def pf(I:dA X aA Y H s)(as:List gA):s.heap.FunFrames (MR s.heap (as++iE X.stack)) X.stack :=
 PySem.W.funFrames_hide I.stack λenv he b hb=>TH _ (La.mpr ⟨env,he,hb⟩)
def uZ(h base:JB)(e:gA)(cls:eA)(p:PX)(a0 fl:eA):Prop :=
 ∃oe vs T oT ts,h.get? e=some oe/\((oe.cls=cls/\oe.dict=p.1)/\uL vs a0 p.2)/\oe.data=.fields vs/\vs[1]?=some (.ref T)/\base.get? T=none/\T≠e/\h.get? T=some oT/\oT.data=.fields ts/\ts[3]?=some fl
def Hc(base:JB)(e:gA)(cls:eA)(p:PX)(a0 fl:eA)(h h':JB):Prop:=base.StaysIn h'/\uZ h' base e cls p a0 fl/\∀b o,h.get? b=some o->(∀vs,o.data≠.fields vs)->∃sl,h'.get? b=some { o with slots:=sl }
def Qx(f:Array eA->Array eA)(o:DB):(OR f o).dict=o.dict:=by obtain⟨_,_,dt,_⟩:=o;cases dt<;>rfl
def qo(I:dA X aA Y H s)(fp:∀b∈as,FD X aA H b)(t:uZ h' (MR s.heap (as++iE X.stack)) a (.ref C) p a0 fl)
  (sl:∀b o,s.heap.get? b=some o->(∀vs,o.data≠.fields vs)->∃sl,h'.get? b=some { o with slots:=sl }):HI X aA H h' a C p fl:=by
 obtain⟨oe,vs,T,oT,ts,he,⟨hc,h0⟩,hd,h1,hB,bD,hT,tF,h3⟩:=t;exact⟨oe,vs,a0,T,oT,ts,he,hc,hd,h0,zKa I fp hB hT tF sl,h1,bD,hT,tF,h3⟩
variable{M:Model}{A:sG}{E:eA->EA->Prop}{Q:Unit->EA->Prop}
def Fe(CJ:A.frames=some (env::outer))(hl:s.heap.FunFrames base (env::outer))(hf:env.frame=some L)
  (he:s.heap.get? e=some oe) (a6:base.StaysIn s.heap) (R5:base.get? e=none) (hd:oe.data=.fields vs) (wB:1<vs.size) (h0:uL vs a0 b0)
  (h:∀h',Hc base e oe.cls (oe.dict,b0) a0 (rawInt L) s.heap h'->Q () { s with heap:=h' }) :
  sA M A (do let a <- frameOf env;let pl <- entryPlaceOf L nx;let b <- nq head a .none (rawInt L) .none pl;setField (.ref e) 1 b) Q E s:=by
 have qj:∀b o,s.heap.get? b=some o->(∀vs,o.data≠.fields vs)->b≠e:=λb o hb nf z=>by rw[z,he] at hb;cases hb;exact nf vs hd
 have nAa:e ∉ (env::outer).filterMap (·.frame):=λhm=>by obtain⟨_,o,ho,nf⟩:=hl.mem hm;exact qj e o ho nf rfl
 refine rA (wpAny_frameOf_fun CJ hl hf λh₁ hs₁=>rA (wpAny_entryPlaceOf λpl PF=>?_));have he₁:h₁.get? e=some oe:=(hs₁.2.1 e nAa).trans he;have kb₁:base.StaysIn h₁:=λb o yJ=>(hs₁.2.1 b λhm=>by rw[(hl.mem hm).1] at yJ;cases yJ).trans (a6 b o yJ)
 unfold nq newFields;refine rA (HM ?_ (PF.sizeOk5 _ _ _ _ _));generalize hoT:({ cls:=.type "traceback",dict:=none,data:=.fields ([head,.ref L,.none,rawInt L,.none]++(if pl.isEmpty then NB 6 Value.none else pl)).toArray }:DB)=oT;have Mf:oT.data=.fields ([head,.ref L,.none,rawInt L,.none]++(if pl.isEmpty then NB 6 Value.none else pl)).toArray:=by rw[<- hoT]
 have he₂:=jD (h:=h₁) oT he₁;refine aV he₂ hd wB (h _ ?_);have oW:h₁.objs.size≠e:=KY (yC he₁);have hd₃:=PU hd (·.setIfInBounds 1 (Value.ref h₁.objs.size));have keep:∀b o,b≠e->h₁.get? b=some o->((h₁.push oT).update e (OR (·.setIfInBounds 1 (Value.ref h₁.objs.size)))).get? b=some o:=λb o ML hb=>(AR _ _ (HE ML)).trans (jD _ hb)
 refine⟨λb o yJ=>keep b o (λq=>by rw[q,R5] at yJ;cases yJ) (kb₁ b o yJ), ?_,λb o hb BK=>?_⟩
 ·exact⟨_,_,h₁.objs.size,_,_,nY _ he₂ (oY hd₃),⟨⟨Iq _ _,Qx _ _⟩,h0.dWa⟩,hd₃,by simp[wB],kb₁.fresh,oW,(AR _ _ (HE oW)).trans (gF h₁ (oY Mf)),Mf,by first | (simp;done) | (rcases PF with rfl | ⟨_,_,_,_,_,_,_,rfl⟩<;>simp)⟩
 ·obtain⟨sl,hs⟩:=hs₁.2.2 b o hb;exact⟨sl,keep b _ (qj b o hb BK) hs⟩
def iLa(CJ:A.frames=some (env::outer))(hl:s.heap.FunFrames base (env::outer))(hf:env.frame=some L)(ht:uZ s.heap base e cls p a0 fl)(hn:¬(fl==rawInt L)=true)(a6:base.StaysIn s.heap)(R5:base.get? e=none)
  (h:∀h',Hc base e cls p a0 (rawInt L) s.heap h'->Q () { s with heap:=h' }):sA M A (noteFrame (.ref e) env) Q E s:=by
 obtain⟨p1,p2⟩:=p;obtain⟨oe,vs,T,oT,ts,he,⟨⟨rfl,rfl⟩,h0⟩,hd,h1,hnT,oW,hT,tF,h3⟩:=ht;unfold noteFrame;simp only[hf];refine rA (xI he hd h1 ?_);rw[QA (show(Value.ref T != Value.none)=true from by simp)];refine rA (xI hT tF h3 ?_);rw[UA hn];refine rA (aV hT tF (gY.mp h3).1 ?_);have other:∀b,b≠T->(s.heap.update T (OR (·.setIfInBounds 3 Value.none))).get? b=s.heap.get? b:=λb hb=>AR _ _ (HE hb)
 have oj:∀b o,s.heap.get? b=some o->(∀vs,o.data≠.fields vs)->b≠T:=λb o hb BK q=>by
  rw[q,hT] at hb;injection hb with hb;subst hb;exact BK ts tF
 refine Fe CJ (hl.of_keeps λb o hb BK=>⟨o,(other b (oj b o hb BK)).trans hb,rfl⟩) hf ((other e (HE oW)).trans he)
  (λb o yJ=>(other b λq=>by rw[q,hnT] at yJ;cases yJ).trans (a6 b o yJ)) R5 hd (gY.mp h1).1 h0
  λh' hz=>(by obtain⟨x1,x3,x4⟩:=hz;exact h h' ⟨x1,x3,λb o hb BK=>x4 b o ((other b (oj b o hb BK)).trans hb) BK⟩)
def tj(I:dA X aA Y H s)(hs:X.stack=env::outer)(hf:env.frame=some L)(F:NM X aA H s.heap a C p)
  (h:∀h',dA X aA Y H { s with heap:=h' }->HI X aA H h' a C p (rawInt L)->Q () { s with heap:=h' }):sA M X.A (noteFrame (.ref a) env) Q E s:=by
 have CJ:X.A.frames=some (env::outer):=by rw[<- hs];exact I.ok.frames
 obtain⟨fa,F⟩:=F;rcases F with ⟨oe,vs,a0,he,hc,hd,h0,h1⟩ | ⟨fl,oe,vs,a0,T,oT,ts,he,hc,hd,h0,fT,h1,bD,hT,tF,h3⟩
 ·have fp:∀b∈[a],FD X aA H b:=λb hb=>by rw[dD.mp hb];exact fa
  have hl:=pf I [a];rw[hs] at hl;unfold noteFrame;simp only[hf];refine rA (xI he hd h1 ?_);rw[UA (by decide)];refine Fe CJ hl hf he (λb o e=>tY _ e) (BR _ (by simp)) hd (gY.mp h1).1 h0 λh' N=>?_
  obtain⟨k1,k3,k4⟩:=N;rw[<- hs] at k1 k3;rw[hc.1,show(oe.dict,p.2)=p by rw[hc.2]] at k3;exact h h' (K6 I fp k1 k4) (qo I fp k3 k4)
 ·have fp:∀b∈[a,T],FD X aA H b:=λb hb=>by
   rcases pD.mp hb with rfl | hb
   ·exact fa
   ·rw[dD.mp hb];exact fT
  have hl:=pf I [a,T];rw[hs] at hl;by_cases vW:(fl==rawInt L)=true
  ·have vW:=GC vW;subst vW;exact wpAny_noteFrame_againW (base:=MR s.heap ([a,T]++iE (env::outer))) hf ⟨oe,vs,T,oT,ts,he,⟨hc.1,h0.1⟩,hd,h1,BR _ (by simp),bD,hT,tF,h3⟩ (h s.heap I ⟨oe,vs,a0,T,oT,ts,he,hc,hd,h0,fT,h1,bD,hT,tF,h3⟩)
  refine iLa CJ hl hf ⟨oe,vs,T,oT,ts,he,⟨hc,h0⟩,hd,h1,BR _ (by simp),bD,hT,tF,h3⟩ vW (λb o e=>tY _ e) (BR _ (by simp)) λh' N=>?_
  obtain⟨k1,k3,k4⟩:=N;rw[<- hs] at k1 k3;exact h h' (K6 I fp k1 k4) (qo I fp k3 k4)
def u_(I:dA X aA Y H s)(fa:FD X aA H a)(F:HI X aA H s.heap a C p fl)
  (h:∀h',dA X aA Y H { s with heap:=h' }->HI X aA H h' a C p (f.elim Value.none λf=>rawInt f)->Q () { s with heap:=h' }):sA M A (setFlight (.ref a) f) Q E s:=by
 obtain⟨oe,vs,a0,T,oT,ts,he,hc,hd,h0,fT,h1,bD,hT,tF,h3⟩:=F
 have fp:∀b∈[a,T],FD X aA H b:=λb hb=>by
  rcases pD.mp hb with rfl | hb
  ·exact fa
  ·rw[dD.mp hb];exact fT
 have Dg:3<ts.size:=(gY.mp h3).1;unfold setFlight;refine rA (xI he hd h1 ?_);rw[QA (show(Value.ref T != Value.none)=true from by simp)];refine aV hT tF Dg ?_;have other:∀b,b≠T->(s.heap.update T (OR (·.setIfInBounds 3 (f.elim Value.none λf=>rawInt f)))).get? b=s.heap.get? b:=λb hb=>AR _ _ (HE hb)
 refine h _ (K6 I fp (λb o e=>?_) λb o e nf=>⟨o.slots, ?_⟩) ⟨oe,vs,a0,T,_,_,(other a (HE bD)).trans he,hc,hd,h0,fT,h1,bD,nY _ hT (oY (PU tF _)),PU tF _,by simp[Dg]⟩
 ·have hb:b≠T:=λz=>by rw[z,BR _ (by simp)] at e;cases e
  exact(other b hb).trans (tY _ e)
 ·have hb:b≠T:=λz=>by rw[z,hT] at e;cases e;exact nf ts tF
  exact(other b hb).trans e
def T2(I:dA X aA Y H s)(fa:FD X aA H a)(F:HI X aA H s.heap a C p fl)
  (h:∀h',dA X aA Y H { s with heap:=h' }->HI X aA H h' a C p .none->Q () { s with heap:=h' }):sA M A (setFlight (.ref a) none) Q E s:=u_ I fa F h
def eIa(I:dA X aA Y H s)(hs:X.stack=X.env::X.outer)(hf:X.env.frame=some X.env.locals)(F:NM X aA H s.heap a C p)
  (h:∀h',dA X aA Y H { s with heap:=h' }->HI X aA H h' a C p .none->Q () { s with heap:=h' }):sA M X.A (leaving X.env (.ref a)) Q E s:=by
 unfold leaving;exact rA (tj I hs hf F λh1 I1 F1=>T2 I1 F.1 F1 λh2 I2 F2=>h h2 I2 F2)
end
def fK(P:bE)(w:IC):JM:=λouter H s E v s'=>∃a C p H',v=.ref a/\s'.os=s.os/\fL s'.gens/\Un (iE outer) [] H H' s.heap s'.heap/\GD P w H' s'.heap/\s.heap.get? a=none/\H' a=none /\
 (∃oe vs a0 T oT ts,s'.heap.get? a=some oe/\(oe.cls=.ref C/\oe.dict=p.1)/\oe.data=.fields vs/\uL vs a0 p.2/\s.heap.get? T=none/\H' T=none/\vs[1]?=some (.ref T)/\T≠a/\s'.heap.get? T=some oT/\oT.data=.fields ts/\ts[3]?=some .none)/\E (.ref C) p H'
def sx{K:fA}(I:dA (cI (fK P w) P w K mg base N dB scope f cd A outer s₀ H₀ E) aA Y H s)(F:NM (cI (fK P w) P w K mg base N dB scope f cd A outer s₀ H₀ E) aA H s.heap a C p)(h:E (.ref C) p H) :
  (cI (fK P w) P w K mg base N dB scope f cd A outer s₀ H₀ E).xe (.ref a) s:=by
 refine eIa I rfl rfl F λh' I2 F2=>?_
 obtain⟨oe,vs,a0,T,oT,ts,he,hc,hd,h0,fT,h1,bD,hT,tF,h3⟩:=F2
 have nn:∀b,FD (cI (fK P w) P w K mg base N dB scope f cd A outer s₀ H₀ E) aA H b->s₀.heap.get? b=none:=λb fb=>by
  rcases fb.2.2.2.1 with z | z
  ·exact absurd (show b∈([]:List gA) from z) (by simp)
  ·exact z
 exact⟨a,C,p,H,rfl,I2.os,I2.bare,I2.base,I2.KA,nn a F.1,F.1.1,⟨oe,vs,a0,T,oT,ts,he,hc,hd,h0,nn T fT,fT.1,h1,bD,hT,tF,h3⟩,h⟩
section
variable{X:Cx}{aA:List (gA×DB)}{Y:L2.St}{H:Hp}{s s':EA}
def qx(I:dA X aA Y H s)(h:fK X.prog X.w X.stack H s E v s'):∃a C p H',v=.ref a/\dA X aA Y H' s'/\NM X aA H' s'.heap a C p/\E (.ref C) p H':=by
 obtain⟨a,C,p,H',rfl,os,bare,un,KA,na,ha,⟨oe,vs,a0,T,oT,ts,he,hc,hd,h0,nT,S',h1,bD,hT,tF,h3⟩,e⟩:=h;refine⟨a,C,p,H',rfl,I.Fd (ch:=[]) os un KA bare (λb z=>absurd z (by simp)),⟨jW I na ha,.inr ⟨_,oe,vs,a0,T,oT,ts,he,hc,hd,h0,jW I nT S',h1,bD,hT,tF,h3⟩⟩,e⟩
def jVa(F:oF X.prog X.w X.K X.mg X.base (fK X.prog X.w) k f fd ps sp)(hr:KC k X.A)(hb:aAs X.K fd ps [])
  (I:dA X aA Y H s) (r:aAd vs us) (h:sp vs H Q E) (hx:∀aA a C p H' s',dA X aA Y H' s'->NM X aA H' s'.heap a C p->E (.ref C) p H'->X.xe (.ref a) s'):sA (model X.prog X.w) X.A (call (.ref f) us) (EP X aA Y Q) X.xe s:=by
 have hl:us.length=ps.length:=by rw[<- r.length];exact F.len _ _ _ _ h
 have WE:=hb s us I.jE (by rw[kE];exact hl);rw[kE] at WE;refine UY (GP (F.run X.A X.stack s H ⟨us,[]⟩ us vs Q E hr I.KI WE r h) λr s' hq=>?_)
 cases r with
 |error e =>
  obtain⟨a,C,p,H',rfl,I',F',e'⟩:=qx I hq;exact hx aA a C p H' s' I' F' e'
 |ok fl =>
  cases fl with
  |ret u=>exact I.after hq
  |next=>exact XG hq
  |brk=>exact XG hq
  |cont=>exact XG hq
def aYa(X:Cx)(sp:Sp)(t:TA):TE:=λY H Q=>t Y H λvs H1=>∃E:XK,sp vs H1 Q E/\∀aA a C p H' s',dA X aA Y H' s'->NM X aA H' s'.heap a C p->E (.ref C) p H'->X.xe (.ref a) s'
def Sj(F:oF X.prog X.w X.K X.mg X.base (fK X.prog X.w) k f fd ps sp)(hr:KC k X.A)(hg:Gl X x)(hm:X.mg x=some (.ref f))(hk:wH X.K (.ref f)=true)(hb:aAs X.K fd ps [])
  (ha:PA X (e::es) t) (zJ:(x==("__debug__":bA))=false) (he:bC (e::es) X.env=(false,eval e X.env)::bC es X.env) (PF:(fF pos (bC es X.env)).any (·.1)=false) :
  PE X (.Call (.Name x p) (e::es) [] pos) (aYa X sp t):=by
 intro aA s Y H Q I h;refine DR (VQ I hg hm ?_ zJ);refine uY (h₀:=X.base) I.ok.mod.kin hk (RA (ha pos aA s Y H _ I h) λus s1 ⟨vs,H1,I1,r,E,q,hx⟩=>⟨I1.jE, ?_⟩) he PF;exact jVa F hr hb I1 r q hx
end
abbrev NV:List eA:=[.type "ValueError",.type "Exception",.type "BaseException",.type "object"]
def pL(K:fA)(C:gA)(i:Option eA):Prop:=∃(tl:List eA) (N:gA),(∀v,SJ K C v=some ((Value.ref C::tl).contains v)) /\
  ∀{h:JB},K.In h->∃(nm qn:bA) (bs:List eA) (hd:Bool) (sn:List bA) (sub:List eA) (ab:Bool) (col:Option Bool) (dd:Option gA) (k0 k1 k2 k3 k5:Option eA),
   h.get? C=some (excClassObj nm qn C N bs tl hd sn sub ab col dd k0 k1 k2 k3 k5 "ValueError.__new__")/\h.Ns N (h.nsMap N)/\h.nsMap N "__init__"=i/\OwnTail h NV tl
def Oe{K:fA}(q:Fb K C NV "ValueError.__new__"=true):pL K C none:=by
 unfold Fb at q;split at q
 ·rename_i dd cd sl lk;rcases e1:cd.mro with _ | ⟨m0,tl⟩<;>rw[e1] at q
  ·cases q
  cases m0<;>try (cases q;done)
  rename_i C'
  rcases e2:sl.toList with _ | ⟨k0,_ | ⟨k1,_ | ⟨k2,_ | ⟨k3,_ | ⟨_ | n',_ | ⟨k5,_ | ⟨k6,r⟩⟩⟩⟩⟩⟩⟩<;>rw[e2] at q<;>try (cases q;done)
  all_goals (cases n'<;>try (cases q;done))
  rename_i n'
  try dsimp only at q
  rw[aB,aB,aB,aB,aB] at q;obtain⟨⟨⟨⟨⟨q1,q2⟩,q3⟩,q4⟩,q5⟩,q6⟩:=q;have q1:=VJ.mp q1;have q2:=VJ.mp q2;have q6:=VJ.mp q6;subst q1 q2;refine⟨tl,cd.ns,λv=>?_,λ{h} X=>?_⟩
  ·unfold SJ PySem.W.clsIn;rw[lk];simp only[uH];rw[e1,UA (by simp)]
  ·refine⟨cd.name,cd.qualname,cd.bases,cd.hasDict,cd.slotNames,cd.subclasses,cd.abstract,cd.collection,dd,k0,k1,k2,k3,k5, ?_,.of_isNs (PySem.W.isNs_of_in X q5),PySem.W.nsMap_none_of_in X q5 q6,PySem.W.tail_of_in X q4⟩;rw[X _ _ lk];have e3:sl=#[k0,k1,k2,k3,some (.builtin "ValueError.__new__"),k5]:=wY.mp e2;rw[e3];obtain⟨c1,c2,c3,c4,c5,c6,c7,c8,c9,Wv,c11⟩:=cd;simp only[Bool.not_eq_true'] at q3;simp only at e1;subst e1 q3;rfl
 ·cases q
section
variable{X:Cx}{aA:List (gA×DB)}{Y:L2.St}{H:Hp}{s:EA}{h':JB}{a C:gA}
def nYa(X:Cx)(C:gA)(t:TA):TS:=λ_ Y H=>t Y H λvs H1=>vs.length<=sizeLine/\∀aA a s',dA X aA Y H1 s'->NM X aA H1 s'.heap a C (none,true)->X.xe (.ref a) s'
def rSa(hh:X.A.handled=none)(hg:Gl X x)(hm:X.mg x=some (.ref C))(q:pL X.K C none)(ha:PA X (e::es) t)
  (zJ:(x==("__debug__":bA))=false) (he:bC (e::es) X.env=(false,eval e X.env)::bC es X.env) (PF:(fF mC (bC es X.env)).any (·.1)=false) :
  PS X (.Raise (some (.Call (.Name x np) (e::es) [] mC)) none pos) (nYa X C t):=by
 intro aA s Y H D I h;obtain⟨tl,N,_,k⟩:=q;obtain⟨nm,qn,bs,hd,sn,sub,ab,col,dd,k0,k1,k2,k3,k5,hC,hN,CW,T⟩:=k I.ok.mod.kin
 refine wpAny_Raise_call_subT (nm:=nm) (q:=qn) (N:=N) (bs:=bs) (bm:=tl) (hdct:=hd) (sn:=sn) (sub:=sub) (ab:=ab) (col:=col) (dd:=dd) (k0:=k0) (k1:=k1) (k2:=k2) (k3:=k3) (k5:=k5)
  xp (mN:=X.base.nsMap N) (T.hasType xp.hasBase) hh (by rw[he];unfold fF at *;rw[CB,KN,PF];rfl) CW (VQ I hg hm ⟨rfl, ?_⟩ zJ)
 have h2:=ha mC aA s Y H _ I h;rw[he] at h2 ⊢;refine Calls.evalArgs_plain (QH h2 (λus s2 h3=>?_) λ_ _ y=>y);obtain⟨vs,H1,I1,r,hl,hx⟩:=h3;refine⟨rfl,by rw[<- r.length];exact hl,I1.bk _ _ hC,hN.keeps I1.bk,T.keeps I1.bk,λh' e hM=>?_⟩;obtain⟨t0,he0,_,_⟩:=hM.there;have I2:dA X aA Y H1 { s2 with heap:=h' }:=I1.kept (t':=s2.toks) hM.keeps;exact hx aA e _ I2 ⟨jW I1 hM.new (sf I1 hM.new),.inl ⟨_,_,_,he0,⟨rfl,rfl⟩,rfl,⟨rfl,λ_=>rfl⟩,rfl⟩⟩
def Yz{K:fA}(X:K.In s.heap)(qC:pL K C i)(qD:pL K D j)
  (hm:SJ K C (.ref D)=some true) (he:s.heap.get? a=some oe) (hc:oe.cls=.ref C) (h:Q true s):sA M A (excMatches (.ref a) (.ref D)) Q E s:=by
 obtain⟨tl,N,m1,k⟩:=qC;obtain⟨nm,qn,bs,hd,sn,sub,ab,col,dd,k0,k1,k2,k3,k5,hC,hN,CW,T⟩:=k X;obtain⟨tl',N',m1',k'⟩:=qD;obtain⟨nm',qn',td,sF,sn',v3a,ab',l1a,dd',k0',k1',k2',k3',k5',hD,hN',n2a,T'⟩:=k' X;have b1:(Value.ref C::tl).contains (.ref D)=true:=rE ((m1 _).symm.trans hm);have b2:(Value.ref D::tl').contains (.type "BaseException")=true:=by rw[Aq,T'.hasType (X:="BaseException") (b:=true) (by decide)];rfl
 obtain⟨hp,g,d,tk,os⟩:=s;have f:=tc_notTuple;unfold excMatches
 repeat (first | (with_reducible refine Jq he ?_;rw[hc]) | with_reducible refine Jq hD ?_ | (with_reducible refine oq hC ?_;rw[b1]) | (with_reducible refine oq hD ?_;rw[b2]) | wp_step)
 exact h
end
end CI
namespace CI
open PySem PySem.Spec PySem.Calls PyProof.Rows L2 PySem.W PySem.Builtin PySem.Builtin.ObjectAttr PySem.Builtin.Getset_descriptor
def Hr(a C:gA)(p:Option gA)(h:JB):Prop:=∃oe vs,h.get? a=some oe/\(oe.cls=.ref C/\oe.dict=p)/\oe.data=.fields vs
structure SN(K:fA)(C:gA):Prop where
 q:∃i,pL K C i
 ga:findIn K (.ref C) "__getattribute__"=some (some (.builtin "BaseException.__getattribute__"))
 no:findIn K (.ref C) "__getattr__"=some none
 cl:findIn K (.ref C) "__class__"=some (some (.builtin "object.__class__"))
 gt:specialIn K (.builtin "object.__class__") "__get__"=some (some (.builtin "getset_descriptor.__get__"))
 tk:takesIn K (.builtin "object.__class__")=some true
 mo:mroIn K C (.type "object")=some true
 mb:mroIn K C (.type "BaseException")=some true
 mv:mroIn K C (.type "ValueError")=some true
end CI
namespace CI
open PySem PySem.Spec PyProof.Rows L2
section
open PySem.W PySem.Builtin PySem.Builtin.ObjectAttr
variable{prog:bE}{w:IC}{A:sG}{E:eA->EA->Prop}{s:EA}{K:fA}{x C:gA}
noncomputable def o0a:List eA->Bool
 |.ref _::r=>o0a r
 |l=>l==NV
end
end CI
namespace L2
open PySem PySem.Spec PyProof.Rows
end L2
namespace CI
open PySem PySem.Spec PyProof.Rows L2
end CI
namespace L2
open PySem PySem.Spec PyProof.Rows
end L2
namespace CI
open PySem
inductive D where
 |iA
 |bl (b:Bool)
 |int (i:Int)
 |str (x:bA)
 |t (ds:List D)
 |l (ds:List D)
 |ins (c:bA) (ns:List bA) (ds:List D)
 |ZM (c:bA) (n:Option Int)
 |cB (ks:List L2.JC) (ds:List D)
 |AG (ks:List Int) (ds:List D)
inductive RV where
 |sh (d:D) | ow (d:D) | od (d:D)
noncomputable def RV.d:RV->D
 |.sh d=>d
 |.ow d=>d
 |.od d=>d
noncomputable def RV.low:RV->RV
 |.od d=>.ow d
 |v=>v
inductive Sl where
 |un | mv | sh (d:D) | ow (d:D) (pin lk:Bool)
noncomputable def Sl.get:Sl->Option D
 |.un=>none
 |.mv=>none
 |.sh d=>some d
 |.ow d _ _=>some d
structure Exc where
 cls:bA
 num:Option Int
inductive Out(O:Type) where
 |ok (a:O) | ex (e:Exc)
abbrev Env:=List Sl
abbrev zA(O:Type):=Option (Out O×Env)
noncomputable def zA.bind(r:zA O)(f:O->Env->zA N):zA N :=
 match r with
 |none=>none
 |some (.ex e,U)=>some (.ex e,U)
 |some (.ok a,U)=>f a U
inductive Hd where
 |slot (i:Nat) | val (v:RV)
noncomputable def Hd.get(h:Hd)(U:Env):Option D :=
 match h with
 |.slot i=>(U[i]?).bind Sl.get
 |.val v=>some v.d
noncomputable def getAll:List Hd->Env->Option (List D)
 |[],_=>some []
 |h::r,U=>(h.get U).bind λd=>(getAll r U).map (d :: ·)
inductive Ty where
 |int
 |bool
 |tuple
inductive BI where
 |len
 |abs
 |int
 |list
 |tuple
 |max
 |all
 |sum
 deriving DecidableEq
inductive kF where
 |MB | of | enum (lo:Int) | sig | key | nU
 deriving DecidableEq
set_option genSizeOf false
set_option genInjectivity false
inductive E where
 |oA
 |TF
 |v (i:Nat)
 |c (d:D)
 |t (es:List E)
 |l (es:List E)
 |lA (op:vM) (a b:E)
 |neg (a:E)
 |not (a:E)
 |qA (op:yI) (a b:E)
 |lG (op rC:yI) (a b c:E)
 |and (a b:E)
 |or (a b:E)
 |ite (c a b:E)
 |ix (a i:E)
 |sl (a lo hi:E)
 |rev (a:E)
 |call (f:String) (args:List E)
 |bif (f:BI) (args:List E)
 |dN (a:E) (ts:List Ty)
 |app (i:Nat) (a:E)
 |ext (i:Nat) (a:E)
 |sS (k v:E)
 |oO
 |kR (i:Nat)
 |OD (i:Nat)
 |YQ (a:E)
 |XO (a:E)
 |fld (a:E) (f:bA)
 |make (c:bA) (ns:List bA) (args:List E)
 |JJ (i:Nat) (m:bA) (tb:List (bA×String)) (args:List E)
 |comp (JA:E) (tg:List Nat) (k:kF) (cA:List E) (cond:List E) (imp:List Nat) (nl:Nat)
inductive S where
 |oA
 |pass
 |brk
 |cnt
 |HA (i:Nat) (e:E)
 |dQ (is:List Nat) (e:E)
 |set (i:Nat) (k e:E)
 |expr (e:E)
 |ret (e:E)
 |DX
 |cP (h e:E)
 |yA (c:E) (a b:List S)
 |for (tg:List Nat) (one:Bool) (k:kF) (cA:List E) (body:List S)
 |WK (c:E) (body:List S)
 |RK (c:bA) (args:List E)
 |S8 (c:bA) (args:List E)
 |xR (body:List S) (cs:List bA)
 |aug (i:Nat) (e:E)
 |El (i j:Nat) (e c:E)
set_option genInjectivity true
noncomputable def QC:Nat->D->Bool
 |_,.iA=>true
 |_,.bl _=>true
 |_,.int _=>true
 |_,.str _=>true
 |n+1,.t ds=>ds.all (QC n)
 |n+1,.l ds=>ds.all (QC n)
 |_,_=>false
mutual
noncomputable def fI:D->D->Bool
 |.iA,.iA=>true
 |.bl a,.bl b=>a==b
 |.bl a,.int b=>(if a then 1 else 0)==b
 |.int a,.bl b=>a==(if b then 1 else 0)
 |.int a,.int b=>a==b
 |.str a,.str b=>a==b
 |.t a,.t b=>yS a b
 |.l a,.l b=>yS a b
 |_,_=>false
noncomputable def yS:List D->List D->Bool
 |[],[]=>true
 |a::as,b::bs=>fI a b&&yS as bs
 |_,_=>false
end
noncomputable def cl(p:Prop):Decidable p:=Classical.propDecidable p
noncomputable section
def QJ:D->Option Bool
 |.iA=>some false
 |.bl b=>some b
 |.int i=>some (i != 0)
 |.str x=>@ite _ (x.length<=1000000) (cl _) (some ((x.length:Int) != 0)) none
 |.t ds=>some (!ds.isEmpty)
 |.l ds=>some (!ds.isEmpty)
 |_=>none
def jB(n:Nat):Bool:=@decide (n<=1000000) (cl _)
def NC:vM->D->D->Option RV
 |.Add,.int i,.int j=>some (.sh (.int (i+j)))
 |.Sub,.int i,.int j=>some (.sh (.int (i-j)))
 |.Mult,.int i,.int j=>@ite _ ((-(2 ^ 64)<i/\i<2 ^ 64)\/(-(2 ^ 64)<j/\j<2 ^ 64)) (cl _) (some (.sh (.int (i*j)))) none
 |.FloorDiv,.int i,.int j=>@ite _ (0<j/\j<100000000000000000000000000000000000000000000000000000000000000000000000000000000) (cl _) (some (.sh (.int (i / j)))) none
 |.Mod,.int i,.int j=>@ite _ (0<j) (cl _) (some (.sh (.int (i % j)))) none
 |.LShift,.int i,.int j=>@ite _ (0<=j/\j<=1000/\i.natAbs<2 ^ 64) (cl _) (some (.sh (.int (i*2 ^ j.toNat)))) none
 |.RShift,.int i,.int j=>@ite _ (0<=j) (cl _) (some (.sh (.int (i / 2 ^ j.toNat)))) none
 |.BitAnd,.int i,.int j=>some (.sh (.int (vY i j)))
 |.Add,.l xs,.l ys=>if jB (xs.length+ys.length) then some (.ow (.l (xs++ys))) else none
 |.Add,.t [],.t ys=>some (.sh (.t ys))
 |.Add,.t (x::xs),.t ys=>if jB (xs.length+1+ys.length) then some (.sh (.t (x::xs++ys))) else none
 |.Mult,.l xs,.int k=>@ite _ (-(2 ^ 31)<=k/\k<=1000/\jB (xs.length*k.toNat)) (cl _) (some (.ow (.l (NB k.toNat xs).flatten))) none
 |_,_,_=>none
noncomputable def UD:D->Bool
 |.iA=>true | .bl _=>true | .int _=>true | .str _=>true
 |_=>false
def inD(x:D)(ds:List D):Bool:=ds.any λy=>fI y x
noncomputable def OC:List D->Option (List Int)
 |[]=>some []
 |.int i::r=>(OC r).map (i :: ·)
 |_=>none
def zU:D->Option L2.pB
 |.t [.int t,.t ds]=>(OC ds).map λns=>(t,ns)
 |_=>none
def mF(d:D):Option L2.JC:=(zU d).map .inl
noncomputable def uA(k:L2.pB):D:=.t [.int k.1,.t (k.2.map D.int)]
def mO(k:L2.JC):D:=uA (L2.gk k)
noncomputable def fM(ks:List L2.JC)(ds:List D)(k:L2.JC):Option D:=((ks.zip ds).find? λp=>decide (p.1=k)).map (·.2)
noncomputable def KL(ks:List L2.JC)(k:L2.JC):Bool:=ks.any λx=>decide (x=k)
def gH(ks:List L2.JC)(k:L2.JC):List L2.JC:=if KL ks k then ks else ks++[k]
def YF(ks:List L2.JC)(ds:List O)(k:L2.JC)(d:O):List O:=if KL ks k then(ks.zip ds).map (λp=>if p.1=k then d else p.2) else ds++[d]
def OQ(x:D)(ks:List L2.JC):Option Bool:=(mF x).map λk=>KL ks k
noncomputable def gM(ks:List Int)(ds:List D)(k:Int):Option D:=((ks.zip ds).find? λp=>decide (p.1=k)).map (·.2)
def Tg(x:D)(ks:List Int)(ds:List D):Option Bool:=match x with
 |.int i=>some (gM ks ds i).isSome
 |_=>none
def aC:yI->D->D->Option Bool
 |.Eq,x,y=>if QC 20 x&&QC 20 y then some (fI x y) else none
 |.NotEq,x,y=>if QC 20 x&&QC 20 y then some (!fI x y) else none
 |.Lt,.int i,.int j=>some (decide (i<j))
 |.Lt,.l x,.l y=>(OC x).bind λa=>(OC y).map λb=>HT.aAy a b
 |.LtE,.int i,.int j=>some (decide (i<=j))
 |.Gt,.int i,.int j=>some (decide (j<i))
 |.GtE,.int i,.int j=>some (decide (j<=i))
 |.Is,.bl a,.bl b=>some (a==b)
 |.Is,.iA,.iA=>some true
 |.Is,_,.iA=>some false
 |.IsNot,.iA,.iA=>some false
 |.IsNot,_,.iA=>some true
 |.In,x,.t ds=>if UD x&&ds.all UD then some (inD x ds) else none
 |.In,x,.l ds=>if UD x&&ds.all UD then some (inD x ds) else none
 |.In,x,.cB ks _=>OQ x ks
 |.In,x,.AG ks ds=>Tg x ks ds
 |.NotIn,x,.t ds=>if UD x&&ds.all UD then some (!inD x ds) else none
 |.NotIn,x,.l ds=>if UD x&&ds.all UD then some (!inD x ds) else none
 |.NotIn,x,.cB ks _=>(OQ x ks).map (!·)
 |_,_,_=>none
def Oc(ds:List D)(i:Int):Option D:=L2.fC ds i
def IT:D->D->Option D
 |.t ds,.int i=>Oc ds i
 |.l ds,.int i=>Oc ds i
 |.cB ks ds,x=>(mF x).bind (fM ks ds)
 |.AG ks ds,.int i=>gM ks ds i
 |.str x,.int i=>@ite _ (x.length<=1000000) (cl _) ((L2.fC x.cps.toList i).map λc=>.str ⟨#[c]⟩) none
 |_,_=>none
def aAv(ds:List D)(lo hi:Option Int):List D:=(ds.drop (HT.nB ds.length 0 lo)).take (HT.nB ds.length ds.length hi-HT.nB ds.length 0 lo)
noncomputable def pN:Option D->Option (Option Int)
 |none=>some none
 |some (.int i)=>some (some i)
 |_=>none
def MX:D->Option Int->Option Int->Option RV
 |.l ds,lo,hi=>some (.ow (.l (aAv ds lo hi)))
 |.t ds,lo,hi=>some (.sh (.t (aAv ds lo hi)))
 |_,_,_=>none
noncomputable def wUa:D->Option RV
 |.t ds=>some (.sh (.t ds.reverse))
 |.l ds=>some (.ow (.l ds.reverse))
 |_=>none
noncomputable def pJ:List D->Option (List Bool)
 |[]=>some []
 |.bl b::r=>(pJ r).map (b :: ·)
 |_=>none
mutual
noncomputable def aE:D->PyData
 |.iA=>.none
 |.bl b=>.bool b
 |.int i=>.int i
 |.str x=>.str x
 |.t ds=>.tuple (OH ds)
 |.l ds=>.list (OH ds)
 |.ins _ _ _=>.none
 |.ZM _ _=>.none
 |.cB _ _=>.none
 |.AG _ _=>.none
noncomputable def OH:List D->List PyData
 |[]=>[]
 |d::ds=>aE d::OH ds
end
def JF:BI->List D->Option RV
 |.len,[.l ds]=>some (.sh (.int ds.length))
 |.len,[.t ds]=>some (.sh (.int ds.length))
 |.len,[.cB ks _]=>some (.sh (.int ks.length))
 |.len,[.str x]=>@ite _ (x.length<=1000000) (cl _) (some (.sh (.int x.length))) none
 |.abs,[.int i]=>some (.sh (.int (if i<0 then -i else i)))
 |.int,[.int i]=>some (.sh (.int i))
 |.int,[.bl b]=>some (.sh (.int (if b then 1 else 0)))
 |.list,[.l ds]=>some (.ow (.l ds))
 |.list,[.t ds]=>some (.ow (.l ds))
 |.list,[.cB ks _]=>some (.ow (.l (ks.map mO)))
 |.tuple,[.l ds]=>some (.sh (.t ds))
 |.tuple,[.t ds]=>some (.sh (.t ds))
 |.max,[.int i,.int j]=>some (.sh (.int (if j > i then j else i)))
 |.max,[.l ds]=>match OC ds with
  |some (i::r)=>some (.sh (.int (r.foldl (λm y=>if y > m then y else m) i)))
  |_=>none
 |.all,[.l ds]=>(pJ ds).map λbs=>.sh (.bl (bs.all id))
 |.sum,[.l ds]=>(OC ds).map λns=>.sh (.int ns.sum)
 |_,_=>none
noncomputable def Q6:Ty->D->Option Bool
 |.int,d=>match d with
  |.int _=>some true | .bl _=>some true | .iA=>some false | .str _=>some false | .t _=>some false | .l _=>some false
  |_=>none
 |.bool,d=>match d with
  |.bl _=>some true | .int _=>some false | .iA=>some false | .str _=>some false | .t _=>some false | .l _=>some false
  |_=>none
 |.tuple,d=>match d with
  |.t _=>some true | .bl _=>some false | .int _=>some false | .iA=>some false | .l _=>some false | .str _=>some false
  |_=>none
def ET:List Ty->D->Option Bool
 |[],_=>some false
 |t::r,d=>(Q6 t d).bind λb=>(ET r d).map λc=>b||c
def cU:D->Option RV
 |.l ds=>match OC ds with
  |some is=>@ite _ (is.length<=1000) (cl _) (some (.sh (.int (Up (λi=>is.getD i 0) is.length).length))) none
  |none=>none
 |_=>none
noncomputable def O2:D->bA->Option D
 |.ins _ ns ds,f=>(ns.zip ds).lookup f
 |_,_=>none
noncomputable def fH(c:bA)(ns:List bA)(m:bA)(tb:List (bA×String)):Option String:=if ns.contains m then none else tb.lookup c
def aAh(t:Bool)(r:zA RV):zA RV :=
 match t with
 |false=>r
 |true=>r.bind λv U=>(QJ v.d).map λb=>(.ok (.sh (.bl b)),U)
noncomputable def hd(e:E)(r:zA RV)(U:Env):zA Hd :=
 match e with
 |.v i=>if((U[i]?).bind Sl.get).isSome then some (.ok (.slot i),U) else none
 |_=>r.bind λv U'=>some (.ok (.val v.low),U')
noncomputable def M6:E->Bool
 |.TF=>true
 |_=>false
def aAJ(e:E)(r:zA RV)(U:Env):zA (Option D) :=
 if M6 e then some (.ok none,U) else r.bind λv U'=>some (.ok (some v.d),U')
noncomputable def ZQ(op:vM)(x:Hd)(d:D):Bool :=
 match op,d with
 |.Mult,.l _=>match x with
  |.val (.ow _)=>true
  |_=>false
 |_,_=>true
noncomputable def IJ(U:Env)(i:Nat):Bool :=
 match U[i]? with
 |some (.ow (.l _) _ _)=>true
 |_=>false
noncomputable def zT(U:Env)(i:Nat):Bool :=
 match U[i]? with
 |some (.ow (.cB _ _) _ _)=>true
 |_=>false
noncomputable def jDa(U:Env)(i:Nat):Bool :=
 match U[i]? with
 |_=>false
noncomputable def aAG(i:Nat)(U:Env):zA RV :=
 match U[i]? with
 |some (.sh d)=>some (.ok (.sh d),U)
 |some (.ow d false false)=>some (.ok (.sh d),U.set i (.sh d))
 |_=>none
noncomputable def done(o:Option RV)(U:Env):zA RV:=o.map λv=>(.ok v,U)
noncomputable def store(i:Nat)(v:RV)(U:Env):Option Env :=
 match U[i]? with
 |none=>none
 |some (.ow _ true _)=>none
 |some (.ow _ _ true)=>none
 |some _=>match v with
  |.sh d=>some (U.set i (.sh d))
  |.ow d=>some (U.set i (.ow d false false))
  |.od _=>none
def aAo:List Nat->List D->Env->Option Env
 |[],[],U=>some U
 |i::is,d::ds,U=>(store i (.sh d) U).bind (aAo is ds)
 |_,_,_=>none
def lB(one:Bool)(tg:List Nat)(d:D)(U:Env):Option Env :=
 match one,tg,d with
 |true,[i],d=>store i (.sh d) U
 |false,is,.t ds=>aAo is ds U
 |_,_,_=>none
abbrev Calls:=String->List Sl->zA RV
noncomputable def aAj(aA:List Bool)(hs:List Hd)(U:Env):Option (List Sl×Env) :=
 match aA,hs with
 |[],[]=>some ([],U)
 |p::ps,.val (.sh d)::r=>(aAj ps r U).map λ(as,U')=>(.sh d::as,U')
 |p::ps,.val (.ow d)::r=>(aAj ps r U).map λ(as,U')=>((if p then .ow d true false else .sh d)::as,U')
 |p::ps,.slot i::r =>
  match U[i]? with
  |some (.sh d)=>(aAj ps r U).map λ(as,U')=>(.sh d::as,U')
  |some (.ow d pin lk) =>
   match p with
   |true=>(aAj ps r (U.set i .un)).map λ(as,U')=>(.ow d true lk::as,U')
   |false=>if pin||lk then none else(aAj ps r (U.set i (.sh d))).map λ(as,U')=>(.sh d::as,U')
  |_=>none
 |_,_=>none
noncomputable def aAg(aA:List Bool)(hs:List Hd)(as:List Sl)(U0 U:Env):Option Env :=
 match aA,hs,as with
 |[],[],[]=>some U
 |true::ps,.slot i::r,a::as =>
  match U0[i]?,a with
  |some (.ow _ pin lk),.ow d _ _=>aAg ps r as U0 (U.set i (.ow d pin lk))
  |some (.ow _ _ _),_=>none
  |_,_=>aAg ps r as U0 U
 |_::ps,_::r,_::as=>aAg ps r as U0 U
 |_,_,_=>none
def pF(aA:List Bool)(f:List Sl->zA RV)(hs:List Hd)(U:Env):zA RV :=
 match aAj aA hs U with
 |none=>none
 |some (as,U1) =>
  match f as with
  |none=>none
  |some (o,VA)=>(aAg aA hs VA U U1).map λU'=>(o,U')
noncomputable def SE(lo:Int)(ds:List D):List D:=(UB ds.length).map λ(j:Nat)=>.t [.int (lo+(j:Int)),ds.getD j .iA]
def M7:RV->Option (List D×Option Nat)
 |.sh (.cB ks _)=>some (ks.map mO,none)
 |_=>none
def aAb(k:kF)(hs:List Hd)(U:Env):Option (List D×Option Nat) :=
 match k,hs with
 |.MB,[a]=>match a.get U with
  |some (.int n)=>@ite _ (-1000000<=n/\n<=1000000) (cl _) (some ((UB n.toNat).map λ(j:Nat)=>.int (j:Int),none)) none
  |_=>none
 |.MB,[a,b]=>match a.get U,b.get U with
  |some (.int m),some (.int n)=>@ite _ ((-1000000<=m/\m<=1000000)/\(-1000000<=n/\n<=1000000)) (cl _) (some ((UB (n-m).toNat).map λ(j:Nat)=>.int (m+(j:Int)),none)) none
  |_,_=>none
 |.enum lo,[.slot i]=>match U[i]? with
  |some (.ow (.l ds) _ _)=>some (SE lo ds,some i)
  |some (.sh (.l ds))=>some (SE lo ds,none)
  |_=>none
 |.enum lo,[.val v]=>match v.d with
  |.l ds=>some (SE lo ds,none)
  |_=>none
 |.of,[.slot i]=>match U[i]? with
  |some (.ow (.l ds) _ _)=>some (ds,some i)
  |some (.sh (.l ds))=>some (ds,none)
  |some (.sh (.t ds))=>some (ds,none)
  |_=>none
 |.of,[.val v]=>match v.d with
  |.l ds=>some (ds,none)
  |.t ds=>some (ds,none)
  |_=>none
 |.key,[.val v]=>M7 v
 |.nU,[a,b,c]=>match a.get U,b.get U,c.get U with
  |some (.int m),some (.int n),some (.int k)=>@ite _ ((-1000000<=m/\m<=1000000)/\(-1000000<=n/\n<=1000000)/\k=-1) (cl _) (some ((UB (m-n).toNat).map λ(j:Nat)=>.int (m-(j:Int)),none)) none
  |_,_,_=>none
 |_,_=>none
noncomputable def aAi(o:Option Nat)(U:Env):Env :=
 match o with
 |none=>U
 |some i=>U.set i .un
noncomputable def aAq(o:Option Nat)(U0 U:Env):Option Env :=
 match o with
 |none=>some U
 |some i=>match U[i]?,U0[i]? with
  |some .un,some sl=>some (U.set i sl)
  |_,_=>none
noncomputable def OE(tests:Env->zA RV)(JA:Env->zA RV)(bind:D->Env->Option Env):List D->List D->Env->zA (List D)
 |[],BA,U=>some (.ok BA,U)
 |d::ds,BA,U=>match bind d U with
  |none=>none
  |some U1=>(tests U1).bind λc U2=>match c with
   |.sh (.bl true)=>(JA U2).bind λv U3=>OE tests JA bind ds (BA++[v.d]) U3
   |.sh (.bl false)=>OE tests JA bind ds BA U2
   |_=>none
noncomputable def back:List Sl->Env->List Sl
 |.ow _ _ _::as,b::bs=>b::back as bs
 |a::as,_::bs=>a::back as bs
 |_,_=>[]
noncomputable def QK:Sl->Bool
 |.ow _ p _=>p
 |.sh _=>true
 |_=>false
def lO(tests:Env->zA RV)(JA:Env->zA RV)(bind:D->Env->Option Env)(ds:List D)(nl:Nat)(as:List Sl):zA RV :=
 if as.all QK=true then(OE tests JA bind ds [] (as++NB nl .un)).bind λBA Ui =>
  if jB BA.length then some (.ok (.ow (.l BA)),back as Ui) else none
 else none
def aAA(o:Option Nat)(U1:Env)(v:RV)(U2:Env):zA RV:=(aAq o U1 U2).map λU'=>(.ok v,U')
structure Fn where
 aA:List Bool
 nl:Nat
 body:List S
 rs:Bool
abbrev ZA:=String->List Bool
noncomputable def bW(k:Option L2.JC)(u:RV)(U:Env):zA RV :=
 match k with
 |some k=>some (.ok (.ow (.cB [k] [u.d])),U)
 |none=>none
noncomputable def kU(i:Nat)(U:Env):Option Sl->zA RV
 |some (.ow (.l ds) p false)=>(ds[ds.length-1]?).map λd=>(.ok (.sh d),U.set i (.ow (.l ds.dropLast) p false))
 |_=>none
mutual
noncomputable def ev(P:ZA)(C:Calls)(t:Bool):E->Env->zA RV
 |.oA,_=>none
 |.TF,_=>none
 |.v i,U=>match t with
  |true=>aAh true (((U[i]?).bind Sl.get).map λd=>(.ok (.sh d),U))
  |false=>aAG i U
 |.c d,U=>aAh t (some (.ok (.sh d),U))
 |.t es,U=>aAh t ((qF P C es U).bind λds U'=>if jB ds.length then some (.ok (.sh (.t ds)),U') else none)
 |.l es,U=>aAh t ((qF P C es U).bind λds U'=>if jB ds.length then some (.ok (.ow (.l ds)),U') else none)
 |.lA op a b,U=>aAh t ((hd a (ev P C false a U) U).bind λx U1=>(hd b (ev P C false b U1) U1).bind λy U2 =>
   done ((x.get U2).bind λd=>(y.get U2).bind λe=>if ZQ op x d then NC op d e else none) U2)
 |.neg a,U=>aAh t ((ev P C false a U).bind λv U1=>match v.d with
  |.int i=>some (.ok (.sh (.int (-i))),U1)
  |_=>none)
 |.not a,U=>match t with
  |true=>(ev P C true a U).bind λv U1=>match v with
   |.sh (.bl b)=>some (.ok (.sh (.bl (!b))),U1)
   |_=>none
  |false=>(hd a (ev P C false a U) U).bind λx U1=>done ((x.get U1).bind λd=>(QJ d).map λb=>.sh (.bl (!b))) U1
 |.qA op a b,U=>(hd a (ev P C false a U) U).bind λx U1=>(hd b (ev P C false b U1) U1).bind λy U2 =>
   done ((x.get U2).bind λd=>(y.get U2).bind λe=>(aC op d e).map λb=>.sh (.bl b)) U2
 |.lG op rC a b c,U=>(hd a (ev P C false a U) U).bind λx U1=>(hd b (ev P C false b U1) U1).bind λy U2 =>
   match (x.get U2).bind λd=>(y.get U2).bind λe=>aC op d e with
   |none=>none
   |some false=>some (.ok (.sh (.bl false)),U2)
   |some true=>(hd c (ev P C false c U2) U2).bind λz U3 =>
    done ((y.get U3).bind λd=>(z.get U3).bind λe=>(aC rC d e).map λb=>.sh (.bl b)) U3
 |.and a b,U=>(ev P C t a U).bind λv U1=>match v with
  |.sh (.bl true)=>ev P C t b U1
  |.sh (.bl false)=>some (.ok (.sh (.bl false)),U1)
  |_=>none
 |.or a b,U=>(ev P C t a U).bind λv U1=>match v with
  |.sh (.bl true)=>some (.ok (.sh (.bl true)),U1)
  |.sh (.bl false)=>ev P C t b U1
  |_=>none
 |.ite c a b,U=>(ev P C true c U).bind λv U1=>match v with
  |.sh (.bl true)=>ev P C t a U1
  |.sh (.bl false)=>ev P C t b U1
  |_=>none
 |.ix a i,U=>aAh t ((hd a (ev P C false a U) U).bind λx U1=>(ev P C false i U1).bind λk U2 =>
   done ((x.get U2).bind λd=>(IT d k.d).map .sh) U2)
 |.sl a lo hi,U=>aAh t ((hd a (ev P C false a U) U).bind λx U1 =>
   (aAJ lo (ev P C false lo U1) U1).bind λl U2=>(aAJ hi (ev P C false hi U2) U2).bind λh U3 =>
   done ((x.get U3).bind λd=>(pN l).bind λl=>(pN h).bind λh=>MX d l h) U3)
 |.rev a,U=>aAh t ((hd a (ev P C false a U) U).bind λx U1=>done ((x.get U1).bind wUa) U1)
 |.call f es,U=>aAh t ((eD P C es U).bind λhs U1=>pF (P f) (C f) hs U1)
 |.bif f es,U=>aAh t ((eD P C es U).bind λhs U1=>done ((getAll hs U1).bind (JF f)) U1)
 |.dN a ts,U=>aAh t ((hd a (ev P C false a U) U).bind λx U1 =>
   done ((x.get U1).bind λd=>(ET ts d).map λb=>.sh (.bl b)) U1)
 |.app i a,U=>aAh t (if IJ U i then(ev P C false a U).bind λv U1=>match U1[i]? with
  |some (.ow (.l ds) p false)=>if jB (ds.length+1) then some (.ok (.sh .iA),U1.set i (.ow (.l (ds++[v.d])) p false)) else none
  |_=>none
  else none)
 |.kR i,U=>aAh t (kU i U U[i]?)
 |.oO,U=>aAh t (some (.ok (.ow (.cB [] [])),U))
 |.sS a b,U=>aAh t ((ev P C false a U).bind λv U1=>(ev P C false b U1).bind λu U2=>bW (mF v.d) u U2)
 |.ext i a,U=>aAh t (if IJ U i then(ev P C false a U).bind λv U1=>match U1[i]?,v with
  |some (.ow (.l ds) p false),.ow (.l es)=>if jB (ds.length+es.length) then some (.ok (.sh .iA),U1.set i (.ow (.l (ds++es)) p false)) else none
  |_,_=>none
  else none)
 |.OD i,U=>aAh t (aAG i U)
 |.YQ _,_=>none
 |.XO a,U=>aAh t ((hd a (ev P C false a U) U).bind λx U1=>done ((x.get U1).bind cU) U1)
 |.fld a f,U=>aAh t ((hd a (ev P C false a U) U).bind λx U1=>done ((x.get U1).bind λd=>(O2 d f).map .sh) U1)
 |.make c ns es,U=>aAh t ((qF P C es U).bind λds U1=>if ds.length=ns.length then some (.ok (.sh (.ins c ns ds)),U1) else none)
 |.JJ i m tb es,U=>aAh t (match U[i]? with
  |some (.sh (.ins c ns ds))=>(match fH c ns m tb with
   |some f=>(eD P C es U).bind λhs U1=>pF (P f) (C f) (.val (.sh (.ins c ns ds))::hs) U1
   |none=>none)
  |_=>none)
 |.comp JA tg k cA cond imp nl,U=>aAh t ((eD P C cA U).bind λhs U1 =>
   match aAb k hs U1 with
   |none=>none
   |some (ds,o)=>(pF (imp.map λ_=>true) (lO (aD P C cond) (ev P C false JA) (lB (tg.length==1) tg) ds nl) (imp.map Hd.slot) (aAi o U1)).bind (aAA o U1))
noncomputable def qF(P:ZA)(C:Calls):List E->Env->zA (List D)
 |[],U=>some (.ok [],U)
 |e::es,U=>(ev P C false e U).bind λv U1=>(qF P C es U1).bind λds U2=>some (.ok (v.d::ds),U2)
noncomputable def eD(P:ZA)(C:Calls):List E->Env->zA (List Hd)
 |[],U=>some (.ok [],U)
 |e::es,U=>(hd e (ev P C false e U) U).bind λv U1=>(eD P C es U1).bind λds U2=>some (.ok (v::ds),U2)
noncomputable def aD(P:ZA)(C:Calls):List E->Env->zA RV
 |[],U=>some (.ok (.sh (.bl true)),U)
 |e::es,U=>(ev P C true e U).bind λv U1=>match v with
  |.sh (.bl true)=>aD P C es U1
  |.sh (.bl false)=>some (.ok (.sh (.bl false)),U1)
  |_=>none
end
mutual
noncomputable def cH(P:ZA)(C:Calls):E->Env->Option (Exc×Env)
 |.call f es,U=>match eD P C es U with
  |some (.ok hs,U1)=>match pF (P f) (C f) hs U1 with
   |some (.ex x,U')=>some (x,U')
   |_=>none
  |_=>pK P C es U
 |_,_=>none
noncomputable def pK(P:ZA)(C:Calls):List E->Env->Option (Exc×Env)
 |[],_=>none
 |e::es,U=>match hd e (ev P C false e U) U with
  |some (.ok _,U1)=>pK P C es U1
  |_=>cH P C e U
end
inductive Fl where
 |nx | bk | ct | rt (v:RV) | ex (e:Exc)
abbrev Run:=Option (Fl×Env)
noncomputable def zA.nC(r:zA O)(f:O->Env->Run):Run :=
 match r with
 |none=>none
 |some (.ex e,U)=>some (.ex e,U)
 |some (.ok a,U)=>f a U
noncomputable def Run.next(r:Run)(f:Env->Run):Run :=
 match r with
 |some (.nx,U)=>f U
 |r=>r
def Run.restore(r:Run)(o:Option Nat)(U0:Env):Run :=
 match r with
 |none=>none
 |some (fl,U)=>(aAq o U0 U).map λU'=>(fl,U')
noncomputable def dH(o:Option Env):Run:=o.map λU=>(.nx,U)
noncomputable def uD(bind:D->Env->Option Env)(body:Env->Run):List D->Env->Run
 |[],U=>some (.nx,U)
 |d::ds,U=>match bind d U with
  |none=>none
  |some U1=>match body U1 with
   |some (.nx,U2)=>uD bind body ds U2
   |some (.ct,U2)=>uD bind body ds U2
   |some (.bk,U2)=>some (.nx,U2)
   |r=>r
noncomputable def RF(test:Env->zA RV)(body:Env->Run):Nat->Env->Run
 | 0,_=>none
 |n+1,U=>(test U).nC λv U1=>match v with
  |.sh (.bl true)=>match body U1 with
   |some (.nx,U2)=>RF test body n U2
   |some (.ct,U2)=>RF test body n U2
   |some (.bk,U2)=>some (.nx,U2)
   |r=>r
  |.sh (.bl false)=>some (.nx,U1)
  |_=>none
noncomputable def nI(test:Env->zA RV)(body:Env->Run)(bx:Env->Option (Exc×Env)):Nat->Env->Option (Exc×Env)
 | 0,_=>none
 |n+1,U=>match test U with
  |some (.ok (.sh (.bl true)),U1)=>(match body U1 with
   |some (.nx,U2)=>nI test body bx n U2
   |some (.ct,U2)=>nI test body bx n U2
   |_=>bx U1)
  |_=>none
def aO(i:Nat)(o:Option Sl)(r:zA RV):Run :=
 match o,r with
 |some (.sh (.int a)),some (.ok (.sh (.int b)),U1)=>dH (store i (.sh (.int (a+b))) U1)
 |_,_=>none
def sN(i:Nat)(U:Env)(o:Option Sl)(k:Option L2.JC)(v:RV):Run :=
 match o,k with
 |some (.ow (.cB ks ds) p false),some k=>if jB (ks.length+1) then some (.nx,U.set i (.ow (.cB (gH ks k) (YF ks ds k v.d)) p false)) else none
 |_,_=>none
def Ke(P:ZA)(C:Calls)(JA:Env->zA RV)(tg:List Nat)(k:kF)(cA cond:List E)(imp:List Nat)(nl:Nat)(U:Env):zA RV :=
 (eD P C cA U).bind λhs U1 =>
   match aAb k hs U1 with
   |none=>none
   |some (ds,o)=>(pF (imp.map λ_=>true) (lO (aD P C cond) JA (lB (tg.length==1) tg) ds nl) (imp.map Hd.slot) (aAi o U1)).bind (aAA o U1)
noncomputable def cLa(U:Env):Bool:=U.all λs=>match s with | .ow _ _ _=>false | _=>true
noncomputable def F_(n:Nat)(U:Env):Env :=
 match U[n]? with
 |some (.ow d false false)=>U.set n (.sh d)
 |_=>U
def OD:Nat->Env->Env
 | 0,U=>U
 |n+1,U=>F_ n (OD n U)
def zVa(i j:Nat)(U:Env)(e c:Env->zA RV):Run :=
 match e (OD U.length U) with
 |some (.ok (.od (.l ds)),U1)=>@ite _ (U1=OD U.length U/\cLa U1=true/\ds.length<=1000/\i<U1.length/\j<U1.length/\c (U1.set i (.sh (.l ds)))=some (.ok (.sh (.bl false)),U1.set i (.sh (.l ds)))) (cl _) (some (.nx,(U1.set i .mv).set j .mv)) none
 |_=>none
noncomputable def XM(cs:List bA)(o:Option (Exc×Env)):Run :=
 match o with
 |none=>none
 |some (x,U1)=>if cs.contains x.cls then some (.rt (.sh .iA),U1) else none
mutual
noncomputable def ex(P:ZA)(C:Calls)(W:Nat):S->Env->Run
 |.oA,_=>none
 |.pass,U=>some (.nx,U)
 |.brk,U=>some (.bk,U)
 |.cnt,U=>some (.ct,U)
 |.HA i e,U=>(ev P C false e U).nC λv U1=>dH (store i v U1)
 |.dQ is e,U=>(ev P C false e U).nC λv U1=>dH (lB false is v.d U1)
 |.set i k e,U=>(ev P C false e U).nC λv U1=>if IJ U1 i then(ev P C false k U1).nC λj U2=>match U2[i]?,j.d with
  |some (.ow (.l ds) p false),.int n=>dH ((L2.EG ds.length n).map λm=>U2.set i (.ow (.l (ds.set m v.d)) p false))
  |_,_=>none
  else if zT U1 i then(ev P C false k U1).nC λj U2=>sN i U2 U2[i]? (mF j.d) v
  else none
 |.expr e,U=>(ev P C false e U).nC λ_ U1=>some (.nx,U1)
 |.ret e,U=>match e with
  |.v i=>match U[i]? with
   |some (.ow d false _)=>some (.rt (.ow d),U.set i .mv)
   |some (.sh d)=>some (.rt (.sh d),U)
   |_=>none
  |e=>(ev P C false e U).nC λv U1=>some (.rt v,U1)
 |.DX,U=>some (.rt (.sh .iA),U)
 |.cP _ e,U=>(ev P C false e U).nC λv U1=>some (.rt v,U1)
 |.yA c a b,U=>(ev P C true c U).nC λv U1=>match v with
  |.sh (.bl true)=>DA P C W a U1
  |.sh (.bl false)=>DA P C W b U1
  |_=>none
 |.for tg one k cA body,U=>(eD P C cA U).nC λhs U1 =>
  match aAb k hs U1 with
  |none=>none
  |some (ds,o)=>(uD (lB one tg) (DA P C W body) ds (aAi o U1)).restore o U1
 |.WK c body,U=>RF (ev P C true c) (DA P C W body) W U
 |.RK _ _,_=>none
 |.S8 _ _,_=>none
 |.aug i e,U=>aO i U[i]? (ev P C false e U)
 |.El i j e c,U=>zVa i j U (ev P C false e) (ev P C true c)
 |.xR body cs,U=>match DA P C W body U with
  |some (.nx,U1)=>some (.nx,U1)
  |some (.rt v,U1)=>some (.rt v,U1)
  |_=>XM cs (wD P C W body U)
noncomputable def DA(P:ZA)(C:Calls)(W:Nat):List S->Env->Run
 |[],U=>some (.nx,U)
 |s::r,U=>(ex P C W s U).next (DA P C W r)
noncomputable def UE(P:ZA)(C:Calls)(W:Nat):S->Env->Option (Exc×Env)
 |.HA _ e,U=>cH P C e U
 |.expr e,U=>cH P C e U
 |.ret e,U=>cH P C e U
 |.cP h _,U=>cH P C h U
 |.RK c es,U=>match qF P C es U with
  |some (.ok _,U1)=>some (⟨c,none⟩,U1)
  |_=>none
 |.yA c a b,U=>match ev P C true c U with
  |some (.ok (.sh (.bl true)),U1)=>wD P C W a U1
  |some (.ok (.sh (.bl false)),U1)=>wD P C W b U1
  |_=>none
 |.WK c body,U=>nI (ev P C true c) (DA P C W body) (wD P C W body) W U
 |_,_=>none
noncomputable def wD(P:ZA)(C:Calls)(W:Nat):List S->Env->Option (Exc×Env)
 |[],_=>none
 |s::r,U=>match ex P C W s U with
  |some (.nx,U1)=>wD P C W r U1
  |_=>UE P C W s U
end
abbrev Tab:=String->Option Fn
noncomputable def Tab.aA(T:Tab):ZA:=λf=>match T f with
 |some fn=>fn.aA
 |none=>[]
def run(T:Tab)(W:Nat):Nat->Calls
 | 0=>λ_ _=>none
 |n+1=>λf as=>match T f with
  |none=>none
  |some fn=>if as.length=fn.aA.length/\as.all QK=true then
    match DA T.aA (run T W n) W fn.body (as++NB fn.nl .un) with
    |some (.nx,U)=>some (.ok (.sh .iA),back as U)
    |some (.rt v,U)=>some (.ok v,back as U)
    |_=>if fn.rs then match wD T.aA (run T W n) W fn.body (as++NB fn.nl .un) with
     |some (x,U)=>some (.ex x,back as U)
     |none=>none
     else none
   else none
end
end CI
namespace CI
open PySem PySem.Spec PyProof.Rows L2
abbrev St:=L2.St
abbrev Sm(G G':Hp):Prop:=fB G G'
def Sm.of(s:fB G G'):Sm G G':=s
theorem Sm.refl(G:Hp):Sm G G:=fB.refl G
theorem Sm.trans(a:Sm G G1)(b:Sm G1 G2):Sm G G2:=fB.trans a b
theorem Sm.seq{K:fA}(e:Sm G G')(h:GB K G a xs):GB K G' a xs:=fB.seq e h
def Sm.app(s:Sm G G')(n:∀x,o≠.own x)(h:G b=some o):G' b=some o:=s b o h
structure pV(K:fA)(C:gA)(ns:List bA):Prop where
 cl:fE K C
 no:∀f∈ns,QM K C f
noncomputable def oK(ks:List Int)(vs:List V):List (Key×V):=(ks.zip vs).map λp=>(Sum.inl p.1,p.2)
def QN(K:fA)(G:Hp)(a:gA)(ks:List JC)(vs:List V)(xs:YH):Prop:=(xs.map (·.1)).Nodup/\xs.length<=sizeLine/\(a==sysModules)=false/\(∀x∈xs,DC K G x.1 x.2.1)/\xs.map (·.1)=ks/\aAd vs (xs.map (·.2.2))
def VP(K:fA)(G:Hp)(C:gA)(p:Option gA)(n:Option Int):Prop:=True
def VP.mono{K:fA}(s:Sm G G'){n:Option Int}(h:VP K G C p n):VP K G' C p n:=trivial
abbrev ZP(K:fA)(G:Hp)(C:gA)(p:PX)(x:Exc):Prop:=VP K G C p.1 x.num
def qPa{K:fA}(h:VP K G C q x.num):ZP K G C (q,true) x:=h
mutual
def jA(K:fA)(G:Hp):D->V->Prop
 |.iA,v=>v=.iA
 |.bl b,v=>v=.bl b
 |.int i,v=>v=.int i
 |.str x,v=>v=.str x/\HP x=true
 |.t ds,v=>∃a vs,v=.ref a/\LC K G a vs/\kA K G ds vs
 |.l ds,v=>∃a vs,v=.ref a/\GB K G a vs/\kA K G ds vs
 |.ins c ns ds,v=>∃a C dx vs,v=.ref a/\WC K TB c=some (some (.ref C))/\G a=some (.ins C dx (ns.zip vs))/\kA K G ds vs/\pV K C ns/\ns.length=vs.length
 |.ZM c n,v=>∃a C p,v=.ref a/\WC K TB c=some (some (.ref C))/\SN K C/\G a=some (.ext (Hr a C p))/\VP K G C p n
 |.cB ks ds,v=>∃a xs vs,v=.ref a/\qV G a xs/\QN K G a ks vs xs/\kA K G ds vs
 |.AG ks ds,v=>∃a vs,v=.ref a/\G a=some (.dK (oK ks vs))/\kA K G ds vs/\ks.length=ds.length
def kA(K:fA)(G:Hp):List D->List V->Prop
 |[],vs=>vs=[]
 |d::ds,vs=>∃v r,vs=v::r/\jA K G d v/\kA K G ds r
end
def OJ{K:fA}(s:Sm G G')(h:LC K G a vs):LC K G' a vs:=by
 rcases h with (h | ⟨o,h⟩) | h
 ·exact .inl (.inl (s.app (λ_ z=>nomatch z) h))
 ·exact .inl (.inr ⟨o,s.app (λ_ z=>nomatch z) h⟩)
 ·exact .inr h
def kK.mono{K:fA}(s:Sm G G')(h:kK K G k b):kK K G' k b:=let ⟨c,h1,h2⟩:=h;⟨c,OJ s h1,OJ s h2⟩
theorem DC.mono{K:fA}(s:Sm G G'){k:JC}{b:gA}(h:DC K G k b):DC K G' k b:=kK.mono s h
theorem QN.mono{K:fA}(s:Sm G G')(h:QN K G a ks vs xs):QN K G' a ks vs xs:=⟨h.1,h.2.1,h.2.2.1,λx hx=>DC.mono s (h.2.2.2.1 x hx),h.2.2.2.2⟩
mutual
theorem jA.mono{K:fA}(s:Sm G G'):∀(d:D) {v:V},jA K G d v->jA K G' d v
 |.iA,_,h=>by simpa[jA] using h
 |.bl _,_,h=>by simpa[jA] using h
 |.int _,_,h=>by simpa[jA] using h
 |.str _,_,h=>by simpa[jA] using h
 |.t ds,_,h=>by
  simp only[jA] at h ⊢;obtain⟨a,vs,e,h1,h2⟩:=h;exact⟨a,vs,e,OJ s h1,kA.mono s ds h2⟩
 |.l ds,_,h=>by
  simp only[jA] at h ⊢;obtain⟨a,vs,e,h1,h2⟩:=h;exact⟨a,vs,e,s.seq h1,kA.mono s ds h2⟩
 |.ins c ns ds,_,h=>by
  simp only[jA] at h ⊢;obtain⟨a,C,dx,vs,e,h1,h2,h3,h4,h5⟩:=h;exact⟨a,C,dx,vs,e,h1,s.app (λ_ z=>nomatch z) h2,kA.mono s ds h3,h4,h5⟩
 |.ZM c n,_,h=>by
  simp only[jA] at h ⊢;obtain⟨a,C,p,e,h1,h2,h3,h4⟩:=h;exact⟨a,C,p,e,h1,h2,s.app (λ_ z=>nomatch z) h3,h4.mono s⟩
 |.cB ks ds,_,h=>by
  simp only[jA] at h ⊢;obtain⟨a,xs,vs,e,⟨ep,h1⟩,h2,h3⟩:=h;exact⟨a,xs,vs,e,⟨ep,s.app (λ_ z=>nomatch z) h1⟩,h2.mono s,kA.mono s ds h3⟩
 |.AG ks ds,_,h=>by(simp only[jA] at h ⊢;obtain⟨a,vs,e,h1,h2,h3⟩:=h;exact⟨a,vs,e,s.app (λ_ z=>nomatch z) h1,kA.mono s ds h2,h3⟩)
theorem kA.mono{K:fA}(s:Sm G G'):∀(ds:List D) {vs:List V},kA K G ds vs->kA K G' ds vs
 |[],_,h=>by simpa[kA] using h
 |d::ds,_,h=>by(simp only[kA] at h ⊢;obtain⟨v,r,e,h1,h2⟩:=h;exact⟨v,r,e,jA.mono s d h1,kA.mono s ds h2⟩)
end
theorem kA.len{K:fA}:∀{ds:List D} {vs:List V},kA K G ds vs->vs.length=ds.length
 |[],_,h=>by simp only[kA] at h;subst h;rfl
 |d::ds,_,h=>by(simp only[kA] at h;obtain⟨v,r,rfl,_,h2⟩:=h;simp[kA.len h2])
def kA.nil{K:fA}:kA K G [] []:=by simp[kA]
def kA.cons{K:fA}(h:jA K G d v)(t:kA K G ds vs):kA K G (d::ds) (v::vs):=by
 simp only[kA];exact⟨v,vs,rfl,h,t⟩
theorem kA.app{K:fA}:∀{ds es:List D} {vs ws:List V},kA K G ds vs->kA K G es ws->kA K G (ds++es) (vs++ws)
 |[],_,_,_,h,h'=>by simp only[kA] at h;subst h;exact h'
 |d::ds,_,_,_,h,h'=>by(simp only[kA] at h;obtain⟨v,r,rfl,h1,h2⟩:=h;exact kA.cons h1 (kA.app h2 h'))
theorem kA.get{K:fA}:∀{ds:List D} {vs:List V} {i:Nat} {d:D},kA K G ds vs->ds[i]?=some d->∃v,vs[i]?=some v/\jA K G d v
 |[],_,_,_,_,e=>by simp at e
 |d::ds,_,0,_,h,e=>by
  simp only[kA] at h;obtain⟨v,r,rfl,h1,h2⟩:=h;simp at e;subst e;exact⟨v,rfl,h1⟩
 |d::ds,_,i+1,_,h,e=>by
  simp only[kA] at h;obtain⟨v,r,rfl,h1,h2⟩:=h
  have:=kA.get h2 (by simpa using e)
  simpa using this
theorem kA.set{K:fA}(hv:jA K G d v):∀{ds:List D} {vs:List V} (i:Nat),kA K G ds vs->kA K G (ds.set i d) (vs.set i v)
 |[],_,_,h=>by simp only[kA] at h;subst h;simp[kA]
 |e::ds,_,0,h=>by
  simp only[kA] at h;obtain⟨u,r,rfl,h1,h2⟩:=h;exact kA.cons hv h2
 |e::ds,_,i+1,h=>by(simp only[kA] at h;obtain⟨u,r,rfl,h1,h2⟩:=h;exact kA.cons h1 (kA.set hv i h2))
theorem kA.take{K:fA}:∀{ds:List D} {vs:List V} (n:Nat),kA K G ds vs->kA K G (ds.take n) (vs.take n)
 |_,_,0,_=>by simp[kA]
 |[],_,_+1,h=>by simp only[kA] at h;subst h;simp[kA]
 |e::ds,_,n+1,h=>by(simp only[kA] at h;obtain⟨u,r,rfl,h1,h2⟩:=h;exact kA.cons h1 (kA.take n h2))
theorem kA.drop{K:fA}:∀{ds:List D} {vs:List V} (n:Nat),kA K G ds vs->kA K G (ds.drop n) (vs.drop n)
 |_,_,0,h=>h
 |[],_,_+1,h=>by simp only[kA] at h;subst h;simp[kA]
 |e::ds,_,n+1,h=>by(simp only[kA] at h;obtain⟨u,r,rfl,h1,h2⟩:=h;exact kA.drop n h2)
theorem kA.rep{K:fA}(h:kA K G ds vs):∀n,kA K G (NB n ds).flatten (NB n vs).flatten
 | 0=>kA.nil
 |n+1=>by(rw[PN,PN,mP,mP];exact kA.app h (kA.rep h n))
def YG(K:fA)(H G:Hp)(a:gA):D->Prop
 |.l ds=>∃vs,H a=some (.l vs)/\kA K G ds vs
 |.cB ks ds=>∃xs vs,qV H a xs/\QN K G a ks vs xs/\kA K G ds vs
 |_=>False
def AA(U:Env)(Y:St)(a:gA):Prop:=∃(i:Nat) (d:D) (p l:Bool),U[i]?=some (.ow d p l)/\Y[i]?=some (some (.ref a))
structure FA(K:fA)(U:Env)(Y:St)(H G:Hp):Prop where
 len:U.length=Y.length
 sub:fB G H
 sh:∀(i:Nat) (d:D),U[i]?=some (.sh d)->∃v,Y[i]?=some (some v)/\jA K G d v
 ow:∀(i:Nat) (d:D) (p l:Bool),U[i]?=some (.ow d p l)->∃a,Y[i]?=some (some (.ref a))/\G a=none/\YG K H G a d
 inj:∀(i j:Nat) (d:D) (p l:Bool) (d':D) (p' l':Bool) (a:gA),U[i]?=some (.ow d p l)->U[j]?=some (.ow d' p' l')->Y[i]?=some (some (.ref a))->Y[j]?=some (some (.ref a))->i=j
structure Ext(own:gA->Prop)(H G H' G':Hp):Prop where
 gg:Sm G G'
 hh:∀a o,H a=some o->¬own a->H' a=some o
 hx:∀a,H' a=none->H a=none
 gn:∀a,H a≠none->G a=none->¬own a->G' a=none
theorem Ext.refl:Ext own H G H G:=⟨Sm.refl _,λ_ _ h _=>h,λ_ h=>h,λ_ _ h _=>h⟩
theorem Ext.trans(a:Ext own H G H1 G1)(w:∀x,fPa x->own x\/H x=none)(b:Ext fPa H1 G1 H2 G2):Ext own H G H2 G2:=by
 refine⟨a.gg.trans b.gg,λx o h n=>?_,λx h=>a.hx x (b.hx x h),λx h g n=>?_⟩
 ·refine b.hh x o (a.hh x o h n) λz=>?_
  rcases w x z with z | z
  ·exact n z
  ·rw[h] at z;cases z
 ·have h1:H1 x≠none:=λz=>h (a.hx x z)
  refine b.gn x h1 (a.gn x h g n) λz=>?_
  rcases w x z with z | z
  ·exact n z
  ·exact h z
def Ext.weaken(a:Ext own H G H1 G1)(w:∀x,own x->BF x):Ext BF H G H1 G1 :=
 ⟨a.gg,λx o h n=>a.hh x o h λz=>n (w x z),a.hx,λx h g n=>a.gn x h g λz=>n (w x z)⟩
def VN(H:Hp)(own new:gA->Prop)(vs:List V):Prop:=∀x∈vs,∃b ws,x=.ref b/\H b=some (.l ws)/\ws.length<=1000/\¬own b/\new b
def Rows(H:Hp)(own new:gA->Prop)(a:gA):Prop:=∃vs,H a=some (.l vs)/\VN H own (λb=>new b/\b≠a) vs
def VN.step(h:VN H own new vs)(e:∀b o,H b=some o->¬own b->H' b=some o)(w:∀b,BF b->own b\/H b=none):VN H' BF new vs:=λx hx=>by
 obtain⟨b,ws,h1,h2,h3,h4,h5⟩:=h x hx;refine⟨b,ws,h1,e b _ h2 h4,h3,λz=>?_,h5⟩;rcases w b z with z | z
 ·exact h4 z
 ·rw[h2] at z;cases z
theorem VN.new{own new new':gA->Prop}(h:VN H own new vs)(w:∀b,new b->new' b):VN H own new' vs:=λx hx=>let ⟨b,ws,h1,h2,h3,h4,h5⟩:=h x hx;⟨b,ws,h1,h2,h3,h4,w b h5⟩
def MC(K:fA)(H G:Hp)(own:gA->Prop)(new:gA->Prop):RV->V->Prop
 |.sh d,v=>jA K G d v
 |.ow d,v=>∃a,v=.ref a/\G a=none/\YG K H G a d/\¬own a/\new a
 |.od d,v=>∃a,v=.ref a/\G a=none/\YG K H G a d/\¬own a/\new a/\Rows H own new a
def lC(K:fA)(H G:Hp)(d:D)(v:V):Prop:=jA K G d v\/∃a,v=.ref a/\YG K H G a d
def GF(K:fA)(H G:Hp)(own:gA->Prop)(new:gA->Prop)(Y:St):Hd->V->Prop
 |.slot i,v=>Y[i]?=some (some v)
 |.val (.od _),_=>False
 |.val r,v=>MC K H G own new r v
section
variable{K:fA}{own BF new new':gA->Prop}
theorem YG.mono(h:YG K H G a d)(s:Sm G G')(e:∀o,H a=some o->H' a=some o):YG K H' G' a d:=by
 cases d with
 |l ds =>
  obtain⟨vs,h1,h2⟩:=h;exact⟨vs,e _ h1,kA.mono s _ h2⟩
 |cB ks ds=>obtain⟨xs,vs,⟨ep,h1⟩,h2,h3⟩:=h;exact⟨xs,vs,⟨ep,e _ h1⟩,h2.mono s,kA.mono s ds h3⟩
 |_=>exact h
def YG.put(h:YG K H G a d):∃o,H a=some o/\∀G',Sm G G'->G' a=some o->jA K G' d (.ref a):=by
 cases d with
 |l ds =>
  obtain⟨vs,h1,h2⟩:=h;exact⟨_,h1,λG' s e=>by simp only[jA];exact⟨a,vs,rfl,GB.of e,kA.mono s ds h2⟩⟩
 |cB ks ds=>obtain⟨xs,vs,⟨ep,h1⟩,h2,h3⟩:=h;exact⟨_,h1,λG' s e=>by simp only[jA];exact⟨a,xs,vs,rfl,⟨ep,e⟩,h2.mono s,kA.mono s ds h3⟩⟩
 |_=>exact h.elim
def YG.there(h:YG K H G a d):∃o,H a=some o:=let ⟨o,h,_⟩:=h.put;⟨o,h⟩
def FA.owned(r:FA K U Y H G)(o:AA U Y a):H a≠none/\G a=none:=by
 obtain⟨i,d,p,l,h1,h2⟩:=o;obtain⟨b,e,g,h⟩:=r.ow i d p l h1;rw[h2] at e;cases e;obtain⟨vs,h⟩:=h.there;exact⟨by rw[h];simp,g⟩
def MC.wait(h:MC K H G own new v x)(e:Ext own H G H' G')(w:∀a,BF a->own a\/H a=none):MC K H' G' BF new v x:=by
 cases v with
 |sh d=>exact jA.mono e.gg d h
 |ow d =>
  obtain⟨a,rfl,g,o,n,m⟩:=h;obtain⟨vs,hv⟩:=o.there;have ne:H a≠none:=by rw[hv];simp
  refine⟨a,rfl,e.gn a ne g n,o.mono e.gg λo' h'=>e.hh a o' h' n,λz=>?_,m⟩;rcases w a z with z | z
  ·exact n z
  ·exact ne z
 |od d =>
  obtain⟨a,rfl,g,o,n,m,vs,hv,hr⟩:=h;have ne:H a≠none:=by rw[hv];simp
  refine⟨a,rfl,e.gn a ne g n,o.mono e.gg λo' h'=>e.hh a o' h' n,λz=>?_,m,vs,e.hh a _ hv n,hr.step e.hh w⟩;rcases w a z with z | z
  ·exact n z
  ·exact ne z
theorem GF.wait(h:GF K H G own new Y v x)(e:Ext own H G H' G')(w:∀a,BF a->own a\/H a=none):GF K H' G' BF new Y v x:=by
 cases v with
 |slot i=>exact h
 |val r=>cases r with
  |od d=>exact h.elim
  |sh d=>exact jA.mono e.gg d h
  |ow d=>exact MC.wait (v:=.ow d) h e w
def MC.YI(h:MC K H G own new v x)(w:∀a,new a->new' a):MC K H G own new' v x:=by
 cases v with
 |sh d=>exact h
 |ow d =>
  obtain⟨a,rfl,g,o,n,m⟩:=h;exact⟨a,rfl,g,o,n,w a m⟩
 |od d =>
  obtain⟨a,rfl,g,o,n,m,vs,hv,hr⟩:=h;exact⟨a,rfl,g,o,n,w a m,vs,hv,hr.new λb z=>⟨w b z.1,z.2⟩⟩
theorem MC.low(h:MC K H G own new v x):MC K H G own new v.low x:=by
 cases v with
 |sh d=>exact h
 |ow d=>exact h
 |od d =>
  obtain⟨a,rfl,g,o,n,m,_⟩:=h;exact⟨a,rfl,g,o,n,m⟩
def GF.of(h:MC K H G own new v x):GF K H G own new Y (.val v.low) x:=by
 have:=h.low
 cases v<;>exact this
theorem GF.YI(h:GF K H G own new Y v x)(w:∀a,new a->new' a):GF K H G own new' Y v x:=by
 cases v with
 |slot i=>exact h
 |val r=>cases r with
  |od d=>exact h.elim
  |sh d=>exact h
  |ow d=>exact MC.YI (v:=.ow d) h w
def MC.rN(h:MC K H G own new v x):lC K H G v.d x:=by
 cases v with
 |sh d=>exact .inl h
 |ow d =>
  obtain⟨a,rfl,g,o,n,m⟩:=h;exact .inr ⟨a,rfl,o⟩
 |od d =>
  obtain⟨a,rfl,g,o,n,m,_⟩:=h;exact .inr ⟨a,rfl,o⟩
theorem FA.get(r:FA K U Y H G){i:Nat}(h:(U[i]?).bind Sl.get=some d)(hx:Y[i]?=some (some x)):lC K H G d x:=by
 cases e:U[i]? with
 |none=>rw[e] at h;cases h
 |some sl =>
  rw[e] at h
  cases sl with
  |un=>cases h
  |mv=>cases h
  |sh d' =>
   cases h;obtain⟨v,h1,h2⟩:=r.sh i _ e;rw[hx] at h1;cases h1;exact .inl h2
  |ow d' p l =>
   cases h;obtain⟨a,h1,_,h2⟩:=r.ow i _ p l e;rw[hx] at h1;cases h1;exact .inr ⟨a,rfl,h2⟩
def GF.read(h:GF K H G own new Y v x)(r:FA K U Y H G)(e:v.get U=some d):lC K H G d x:=by
 cases v with
 |slot i=>exact r.get e h
 |val u =>
  simp only[Hd.get,eC] at e;subst e
  cases u with
  |od d=>exact h.elim
  |sh d=>exact .inl h
  |ow d=>exact MC.rN (v:=.ow d) h
def FA.bound(r:FA K U Y H G){i:Nat}(h:((U[i]?).bind Sl.get).isSome=true):∃v,Y[i]?=some (some v):=by
 cases e:U[i]? with
 |none=>rw[e] at h;cases h
 |some sl =>
  rw[e] at h
  cases sl with
  |un=>cases h
  |mv=>cases h
  |sh d' =>
   obtain⟨v,h1,h2⟩:=r.sh i _ e;exact⟨v,h1⟩
  |ow d' p l =>
   obtain⟨a,h1,_,h2⟩:=r.ow i _ p l e;exact⟨_,h1⟩
theorem lC.l(s:fB G H)(h:lC K H G (.l ds) x):∃a vs,x=.ref a/\GB K H a vs/\kA K G ds vs:=by
 rcases h with h | ⟨a,rfl,h⟩
 ·simp only[jA] at h;obtain⟨a,vs,e,h1,h2⟩:=h;exact⟨a,vs,e,s.seq h1,h2⟩
 ·obtain⟨vs,h1,h2⟩:=h;exact⟨a,vs,rfl,GB.of h1,h2⟩
theorem lC.t{ds:List D}(s:fB G H)(h:lC K H G (.t ds) x):∃a vs,x=.ref a/\LC K H a vs/\kA K G ds vs:=by
 rcases h with h | ⟨a,rfl,h⟩
 ·simp only[jA] at h;obtain⟨a,vs,e,h1,h2⟩:=h;exact⟨a,vs,e,OJ s h1,h2⟩
 ·exact h.elim
theorem lC.int(h:lC K H G (.int i) x):x=.int i:=by
 rcases h with h | ⟨a,rfl,h⟩
 ·simpa[jA] using h
 ·exact h.elim
theorem lC.bl(h:lC K H G (.bl i) x):x=.bl i:=by
 rcases h with h | ⟨a,rfl,h⟩
 ·simpa[jA] using h
 ·exact h.elim
theorem lC.str(h:lC K H G (.str i) x):x=.str i/\HP i=true:=by
 rcases h with h | ⟨a,rfl,h⟩
 ·simpa[jA] using h
 ·exact h.elim
theorem lC.iA(h:lC K H G .iA x):x=.iA:=by
 rcases h with h | ⟨a,rfl,h⟩
 ·simpa[jA] using h
 ·exact h.elim
def oU(h:jA K G (.bl i) x):x=.bl i:=by simpa[jA] using h
def fB.laid(h:H a=none):fB H (GA H a o):=λb u e=>by rw[BB (pG e h)];exact e
theorem Sm.laid(h:H a=none):Sm H (GA H a o):=Sm.of (fB.laid h)
def Sm.put(h:H a=none):Sm H (GA H a o):=Sm.laid h
def FA.gN(r:FA K U Y H G)(h:H a=none):FA K U Y (GA H a o) (GA G a o):=by
 have hg:G a=none:=fB.free r.sub h;refine⟨r.len,λb u e=>?_,λi d e=>?_,λi d p l e=>?_,r.inj⟩
 ·by_cases hb:b=a
  ·subst hb;rw[TC] at e ⊢;exact e
  ·rw[BB hb] at e ⊢;exact r.sub b u e
 ·obtain⟨v,h1,h2⟩:=r.sh i d e;exact⟨v,h1,jA.mono (Sm.laid hg) d h2⟩
 ·obtain⟨b,h1,h2,h3⟩:=r.ow i d p l e;obtain⟨vs,hv⟩:=h3.there;have hb:b≠a:=pG hv h;refine⟨b,h1,by rw[BB hb];exact h2,h3.mono (Sm.laid hg) λo' h'=>by rw[BB hb];exact h'⟩
def Ext.gN(s:fB G H)(h:H a=none):Ext own H G (GA H a o) (GA G a o):=by
 have hg:G a=none:=fB.free s h;refine⟨Sm.laid hg,λb u e _=>fB.laid h b u e,λb e=>?_,λb e g _=>?_⟩
 ·by_cases hb:b=a
  ·subst hb;exact h
  ·rwa[BB hb] at e
 ·by_cases hb:b=a
  ·subst hb;exact absurd h e
  ·rw[BB hb];exact g
def FA.WI(r:FA K U Y H G)(h:H a=none):FA K U Y (GA H a o) G:=by
 refine⟨r.len,r.sub.trans (fB.laid h),r.sh,λi d p l e=>?_,r.inj⟩;obtain⟨b,h1,h2,h3⟩:=r.ow i d p l e;obtain⟨vs,hv⟩:=h3.there;have hb:b≠a:=pG hv h;exact⟨b,h1,h2,h3.mono (Sm.refl _) λo' h'=>by rw[BB hb];exact h'⟩
def Ext.WI(h:H a=none):Ext own H G (GA H a o) G:=by
 refine⟨Sm.refl _,λb u e _=>fB.laid h b u e,λb e=>?_,λb e g _=>g⟩;by_cases hb:b=a
 ·subst hb;exact h
 ·rwa[BB hb] at e
def FA.sX(r:FA K U Y H G)(h:H a=none):¬AA U Y a:=λo=>(r.owned o).1 h
def fB.put(h:G a=none):fB G (GA G a o):=fB.laid h
def MC.share(h:MC K H G (AA U Y) new v x)(r:FA K U Y H G)(hn:∀a,new a->own a\/new' a) :
  ∃G',FA K U Y H G'/\fB G G'/\(∀a,G' a≠none->G a≠none\/new a)/\jA K G' v.d x:=by
 have main:∀d,MC K H G (AA U Y) new (.ow d) x->∃G',FA K U Y H G'/\fB G G'/\(∀a,G' a≠none->G a≠none\/new a)/\jA K G' d x:=by
  intro d h;obtain⟨a,rfl,g,o,n,m⟩:=h;obtain⟨ob,hv,hr⟩:=o.put;refine⟨GA G a ob,⟨r.len,λb u e=>?_,λi d e=>?_,λi d p l e=>?_,r.inj⟩,fB.put g,λb z=>?_, ?_⟩
  ·by_cases hb:b=a
   ·subst hb;rw[TC] at e;rw[hv];exact e
   ·rw[BB hb] at e;exact r.sub b u e
  ·obtain⟨v,h1,h2⟩:=r.sh i d e;exact⟨v,h1,jA.mono (Sm.put g) d h2⟩
  ·obtain⟨b,h1,h2,h3⟩:=r.ow i d p l e;have hb:b≠a:=λz=>by subst z;exact n ⟨i,d,p,l,e,h1⟩
   exact⟨b,h1,by rw[BB hb];exact h2,h3.mono (Sm.put g) λ_ z=>z⟩
  ·by_cases hb:b=a
   ·subst hb;exact .inr m
   ·rw[BB hb] at z;exact .inl z
  ·exact hr _ (Sm.put g) TC
 cases v with
 |sh d=>exact⟨G,r,fB.refl _,λa z=>.inl z,h⟩
 |ow d=>exact main d h
 |od d=>exact main d h.low
end
def jG:Option Sl->Option Sl->Prop
 |some (.ow _ p l),some (.ow _ p' l')=>p=p'/\l=l'
 |some (.ow _ p _),some (.sh _)=>p=false
 |some .un,some .un=>True
 |some .mv,some .mv=>True
 |some (.sh _),some (.sh _)=>True
 |none,none=>True
 |_,_=>False
def jG.refl(a:Option Sl):jG a a:=by
 cases a with
 |none=>trivial
 |some s=>cases s<;>first | trivial | exact⟨rfl,rfl⟩
theorem jG.trans(h:jG a b)(h':jG b c):jG a c:=by
 cases a with
 |none =>
  cases b with
  |none=>exact h'
  |some t=>cases t<;>exact h.elim
 |some s =>
  cases b with
  |none=>cases s<;>exact h.elim
  |some t =>
   cases c with
   |none=>cases t<;>exact h'.elim
   |some u=>cases s<;>cases t<;>first | exact h.elim | (cases u<;>first | exact h'.elim | trivial | exact⟨h.1.trans h'.1,h.2.trans h'.2⟩ | exact h.1.trans h' | exact h)
def jG.Kj(h:jG a (some (.ow d p l))):∃d',a=some (.ow d' p l):=by
 cases a with
 |none=>exact h.elim
 |some s=>cases s<;>first | exact h.elim | (obtain⟨rfl,rfl⟩:=h;exact⟨_,rfl⟩)
def IE(U U':Env):Prop:=∀i:Nat,jG U[i]? U'[i]?
theorem IE.refl(U:Env):IE U U:=λ_=>jG.refl _
theorem IE.trans(h:IE a b)(h':IE b c):IE a c:=λi=>(h i).trans (h' i)
def IE.own(h:IE U U')(a:gA)(o:AA U' Y a):AA U Y a:=by
 obtain⟨i,d,p,l,h1,h2⟩:=o
 have:=h i
 rw[h1] at this;obtain⟨d',e⟩:=this.Kj;exact⟨i,d',p,l,e,h2⟩
theorem IE.set(h:jG U[i]? (some s)):IE U (U.set i s):=λj=>by
 by_cases AK:j=i
 ·subst AK;by_cases hl:j<U.length
  ·rw[iL hl];exact h
  ·rw[BM (by lia)] at h;cases s<;>exact h.elim
 ·rw[EF (λz=>AK z.symm)];exact jG.refl _
structure CA(K:fA)(U:Env)(Y:St)(H G:Hp)(U':Env)(H' G':Hp):Prop where
 pA:FA K U' Y H' G'
 ext:Ext (AA U Y) H G H' G'
 qK:IE U U'
section
variable{K:fA}
theorem CA.own(a:CA K U Y H G U' H' G'):∀a,AA U' Y a->AA U Y a:=λx h=>a.qK.own x h
theorem CA.refl(r:FA K U Y H G):CA K U Y H G U H G:=⟨r,Ext.refl,IE.refl _⟩
theorem CA.trans(a:CA K U Y H G U1 H1 G1)(b:CA K U1 Y H1 G1 U2 H2 G2):CA K U Y H G U2 H2 G2 :=
 ⟨b.pA,a.ext.trans (λx h=>.inl (a.own x h)) b.ext,a.qK.trans b.qK⟩
abbrev JE(H:Hp):gA->Prop:=λa=>H a=none
def CA.fresh(a:CA K U Y H G U1 H1 G1)(h:H1 x=none):H x=none:=a.ext.hx x h
def CA.X8(a:CA K U Y H G U' H' G')(h:MC K H' G' (AA U' Y) (JE H) v x):∃G2,CA K U Y H G U' H' G2/\jA K G2 v.d x/\fB G' G2:=by
 obtain⟨G2,r2,s2,n2,h2⟩:=h.share (own:=λ_=>False) (new':=JE H) a.pA (λ_ z=>.inr z);refine⟨G2,⟨r2,⟨a.ext.gg.trans s2,a.ext.hh,a.ext.hx,λb hb gb nb=>?_⟩,a.qK⟩,h2,s2⟩
 cases e:G2 b with
 |none=>rfl
 |some o =>
  rcases n2 b (by rw[e];simp) with z | z
  ·exact absurd (a.ext.gn b hb gb nb) z
  ·exact absurd z hb
def CA.share(a:CA K U Y H G U' H' G')(h:MC K H' G' (AA U' Y) (JE H) v x):∃G2,CA K U Y H G U' H' G2/\jA K G2 v.d x:=let ⟨G2,h1,h2,_⟩:=a.X8 h;⟨G2,h1,h2⟩
theorem CA.gN(a:CA K U Y H G U' H' G')(h:H' p=none):CA K U Y H G U' (GA H' p o) (GA G' p o) :=
 a.trans ⟨a.pA.gN h,Ext.gN a.pA.sub h,IE.refl _⟩
theorem CA.WI(a:CA K U Y H G U' H' G')(h:H' p=none):CA K U Y H G U' (GA H' p o) G' :=
 a.trans ⟨a.pA.WI h,Ext.WI h,IE.refl _⟩
def CA.Lj(a:CA K U Y H G U' H' G')(h:H' p=none)(r:kA K G' ds vs) :
  CA K U Y H G U' (GA H' p (.l vs)) G'/\MC K (GA H' p (.l vs)) G' (AA U' Y) (JE H) (.ow (.l ds)) (.ref p) :=
 ⟨a.WI h,p,rfl,fB.free a.pA.sub h,⟨vs,TC,r⟩,a.pA.sX h,a.fresh h⟩
def CA.zx(a:CA K U Y H G U' H' G')(h:H' p=none)(r:QN K G' p ks vs xs)(q:kA K G' ds vs) :
  CA K U Y H G U' (GA H' p (.ext (iC p xs ep))) G'/\MC K (GA H' p (.ext (iC p xs ep))) G' (AA U' Y) (JE H) (.ow (.cB ks ds)) (.ref p) :=
 ⟨a.WI h,p,rfl,fB.free a.pA.sub h,⟨xs,vs,⟨_,TC⟩,r,q⟩,a.pA.sX h,a.fresh h⟩
def CA.zo(a:CA K U Y H G U' H' G')(h:H' p=none)(r:kA K G' ds vs) :
  CA K U Y H G U' (GA H' p (.t vs)) (GA G' p (.t vs))/\MC K (GA H' p (.t vs)) (GA G' p (.t vs)) (AA U' Y) (JE H) (.sh (.t ds)) (.ref p):=by
 refine⟨a.gN h, ?_⟩;show jA K _ (.t ds) _;simp only[jA];exact⟨p,vs,rfl,LC.of TC,kA.mono (Sm.laid (fB.free a.pA.sub h)) ds r⟩
end
def ZG:List Hd->List V->gA->Prop
 |.val (.ow _)::hs,x::xs,a=>x=.ref a\/ZG hs xs a
 |_::hs,_::xs,a=>ZG hs xs a
 |_,_,_=>False
def mE(K:fA)(H G:Hp)(own new:gA->Prop)(Y:St):List Hd->List V->Prop
 |[],xs=>xs=[]
 |h::hs,xs=>∃x r,xs=x::r/\GF K H G own new Y h x/\mE K H G own new Y hs r/\∀d a,h=.val (.ow d)->x=.ref a->¬ZG hs r a
section
variable(K:fA)(P:ZA)(C:Calls)
def tE(c:E):TE:=λY H Q=>∃(U:Env) (G:Hp) (v:RV) (U':Env),FA K U Y H G/\ev P C false c U=some (.ok v,U') /\
 ∀x H' G',CA K U Y H G U' H' G'->MC K H' G' (AA U' Y) (JE H) v x->Q x H'
def tT(c:E):TT:=λY H Q=>∃(U:Env) (G:Hp) (b:Bool) (U':Env),FA K U Y H G/\ev P C true c U=some (.ok (.sh (.bl b)),U') /\
 ∀H' G',CA K U Y H G U' H' G'->Q b H'
def tH(c:E):TE:=λY H Q=>∃(U:Env) (G:Hp) (h:Hd) (U':Env),FA K U Y H G/\hd c (ev P C false c U) U=some (.ok h,U') /\
 ∀x H' G',CA K U Y H G U' H' G'->GF K H' G' (AA U' Y) (JE H) Y h x->Q x H'
def tN(cs:List E):TA:=λY H Q=>∃(U:Env) (G:Hp) (ds:List D) (U':Env),FA K U Y H G/\qF P C cs U=some (.ok ds,U') /\
 ∀xs H' G',CA K U Y H G U' H' G'->kA K G' ds xs->Q xs H'
def kH(cs:List E):TA:=λY H Q=>∃(U:Env) (G:Hp) (hs:List Hd) (U':Env),FA K U Y H G/\eD P C cs U=some (.ok hs,U') /\
 ∀xs H' G',CA K U Y H G U' H' G'->mE K H' G' (AA U' Y) (JE H) Y hs xs->Q xs H'
end
def TE.KD(h:PE X e t)(w:∀Y H Q,u Y H Q->t Y H Q):PE X e u:=λaA s Y H Q I q=>h aA s Y H Q I (w Y H Q q)
def TT.vT(h:PT X e t)(w:∀Y H Q,u Y H Q->t Y H Q):PT X e u:=λaA s Y H Q I q=>h aA s Y H Q I (w Y H Q q)
def TA.uT(h:PA X e t)(w:∀Y H Q,u Y H Q->t Y H Q):PA X e u:=λpos aA s Y H Q I q=>h pos aA s Y H Q I (w Y H Q q)
def xB{r:zA O}(h:r.bind f=some (.ok b,U)):∃a U1,r=some (.ok a,U1)/\f a U1=some (.ok b,U):=by
 unfold zA.bind at h;split at h
 ·cases h
 ·cases h
 ·exact⟨_,_,rfl,h⟩
def JI(h:done o U=some (.ok v,U')):o=some v/\U'=U:=by
 unfold done at h
 cases o with
 |none=>cases h
 |some u=>simp only[jF,eC,lE,Out.ok.injEq] at h;exact⟨by rw[h.1],h.2.symm⟩
def Oo{r:zA RV}{U':Env}(h:aAh true r=some (.ok v,U')):∃u b,r=some (.ok u,U')/\QJ u.d=some b/\v=.sh (.bl b):=by
 obtain⟨u,U1,h1,h2⟩:=xB h
 cases e:QJ u.d with
 |none=>rw[e] at h2;cases h2
 |some b =>
  rw[e] at h2;simp only[jF,eC,lE,Out.ok.injEq] at h2;obtain⟨h3,h4⟩:=h2;subst h4;exact⟨u,b,h1,e,h3.symm⟩
section
variable{K:fA}{P:ZA}{C:Calls}{Y:St}{H:Hp}
def wR{X:Cx}{c:E}(h:PE X e (tE K P C c))(n:∀i,c≠.v i):PE X e (tH K P C c):=by
 refine TE.KD h λY H Q q=>?_
 obtain⟨U,G,sF,U',r,e1,k⟩:=q
 have:hd c (ev P C false c U) U=(ev P C false c U).bind λv U'=>some (.ok (.val v.low),U'):=by
  cases c<;>first | rfl | exact absurd rfl (n _)
 rw[this] at e1;obtain⟨v,U1,e2,e3⟩:=xB e1;cases e3;exact⟨U,G,v,_,r,e2,λx H' G' a hv=>k x H' G' a (GF.of hv)⟩
def Xj(h:PE X e (wN i)):PE X e (tE K P C (.v i)):=by
 refine TE.KD h λY H Q q=>?_
 obtain⟨U,G,v,U',r,e1,k⟩:=q;replace e1:aAG i U=_:=e1;unfold aAG at e1;split at e1
 ·rename_i d hd;cases e1;obtain⟨x,h1,h2⟩:=r.sh i d hd;exact⟨x,h1,k x H G (CA.refl r) h2⟩
 ·rename_i d hd;cases e1;obtain⟨a,h1,g,o⟩:=r.ow i d _ _ hd;refine⟨.ref a,h1, ?_⟩;obtain⟨ob,hv,hr⟩:=o.put;have li:i<U.length:=(eE.mp hd).1
  have AF:∀(j:Nat) (sl:Sl),(U.set i (.sh d))[j]?=some sl->(j=i/\sl=.sh d)\/(j≠i/\U[j]?=some sl):=λj sl hj=>by
   by_cases AK:j=i
   ·subst AK;rw[iL li] at hj;exact .inl ⟨rfl,(rE hj).symm⟩
   ·rw[EF (λz=>AK z.symm)] at hj;exact .inr ⟨AK,hj⟩
  have BF:∀b,AA (U.set i (.sh d)) Y b->AA U Y b:=λb hz=>by
   obtain⟨j,d',p,l,h3,h4⟩:=hz;rcases AF j _ h3 with ⟨_,z⟩ | ⟨_,z⟩
   ·cases z
   ·exact⟨j,d',p,l,z,h4⟩
  refine k (.ref a) H (GA G a ob) ⟨⟨?_,λb u z=>?_,λj d' hj=>?_,λj d' p l hj=>?_,λj k' d1 p1 l1 d2 p2 l2 b h3 h4 h5 h6=>?_⟩,⟨Sm.put g,λ_ _ z _=>z,λ_ z=>z,λb h3 h4 h5=>?_⟩,IE.set (by rw[hd];rfl)⟩ ?_
  ·rw[vH];exact r.len
  ·by_cases hb:b=a
   ·subst hb;rw[TC] at z;rw[hv];exact z
   ·rw[BB hb] at z;exact r.sub b u z
  ·rcases AF j _ hj with ⟨rfl,z⟩ | ⟨_,z⟩
   ·cases z;exact⟨_,h1,hr _ (Sm.put g) TC⟩
   ·obtain⟨x,h3,h4⟩:=r.sh j d' z;exact⟨x,h3,jA.mono (Sm.put g) d' h4⟩
  ·rcases AF j _ hj with ⟨_,z⟩ | ⟨ne,z⟩
   ·cases z
   ·obtain⟨b,h3,h4,h5⟩:=r.ow j d' p l z;have hb:b≠a:=λe=>by subst e;exact ne (r.inj _ _ _ _ _ _ _ _ _ z hd h3 h1)
    exact⟨b,h3,by rw[BB hb];exact h4,h5.mono (Sm.put g) λ_ z=>z⟩
  ·rcases AF j _ h3 with ⟨_,z⟩ | ⟨_,z⟩
   ·cases z
   ·rcases AF k' _ h4 with ⟨_,z'⟩ | ⟨_,z'⟩
    ·cases z'
    ·exact r.inj _ _ _ _ _ _ _ _ _ z z' h5 h6
  ·by_cases hb:b=a
   ·subst hb;exact absurd ⟨i,_,_,_,hd,h1⟩ h5
   ·rw[BB hb];exact h4
  ·exact hr _ (Sm.put g) TC
 ·cases e1
def mQa(h:PE X e (wN i)):PE X e (tH K P C (.v i)):=by
 refine TE.KD h λY H Q q=>?_
 obtain⟨U,G,sF,U',r,e1,k⟩:=q;simp only[hd] at e1;split at e1
 ·rename_i hb;cases e1;obtain⟨x,hx⟩:=r.bound hb;exact⟨x,hx,k x H G (CA.refl r) hx⟩
 ·cases e1
def M9(s:fB G H)(h:lC K H G d x)(e:QJ d=some b):yV K x H b:=by
 cases d<;>simp only[QJ,eC,reduceCtorEq] at e
 ·have:=h.iA;subst this;exact e.symm
 ·have:=h.bl;subst this;exact e.symm
 ·have:=h.int;subst this;exact e.symm
 ·split at e
  ·rename_i hz;obtain⟨rfl,_⟩:=h.str;exact⟨vD hz (by decide),(rE e).symm⟩
  ·cases e
 ·obtain⟨a,vs,rfl,h1,h2⟩:=h.t s;refine .inr (.inl ⟨vs,h1, ?_⟩);rw[<- e]
  have:=h2.len
  cases vs<;>cases ‹List D›<;>simp_all
 ·obtain⟨a,vs,rfl,h1,h2⟩:=h.l s;refine .inl ⟨vs,h1, ?_⟩;rw[<- e]
  have:=h2.len
  cases vs<;>cases ‹List D›<;>simp_all
def jTa(hK:X.K=K)(h:PE X e (tE K P C c))(hw:∀U,ev P C true c U=aAh true (ev P C false c U))
  (he:∀whole,isTrue e X.env whole=(do let v <- whole;standAt e.pos;holding [v] (truthy v))):PT X e (tT K P C c):=by
 refine TT.vT (Dk h he) λY H Q q=>?_
 obtain⟨U,G,b,U',r,e1,k⟩:=q;rw[hw] at e1;obtain⟨u,b',e2,e3,e4⟩:=Oo e1;cases e4;refine⟨U,G,u,U',r,e2,λx H' G' a hv=>⟨b, ?_,k H' G' a⟩⟩;rw[hK];exact M9 a.pA.sub hv.rN e3
end
mutual
theorem He:∀(n:Nat) (d e:D),QC n d=true->QC n e=true->VY (aE d) (aE e)=fI d e
 |n,.iA,e,_,h=>by cases e<;>first | (cases n<;>cases h;done) | rfl
 |n,.bl b,e,_,h=>by cases e<;>first | (cases n<;>cases h;done) | rfl
 |n,.int b,e,_,h=>by cases e<;>first | (cases n<;>cases h;done) | rfl
 |n,.str b,e,_,h=>by cases e<;>first | (cases n<;>cases h;done) | rfl
 |n+1,.t ds,e,h,h'=>by
  cases e with
  |t es =>
   exact D2 n ds es (iF.mp h) (iF.mp h')
  |ins=>cases h'
  |cB=>cases h'
  |AG=>cases h'
  |ZM=>cases h'
  |_=>rfl
 |n+1,.l ds,e,h,h'=>by
  cases e with
  |l es =>
   exact D2 n ds es (iF.mp h) (iF.mp h')
  |ins=>cases h'
  |cB=>cases h'
  |AG=>cases h'
  |ZM=>cases h'
  |_=>rfl
 | 0,.t ds,e,h,_=>by cases h
 | 0,.l ds,e,h,_=>by cases h
 |n,.ins _ _ _,_,h,_=>by cases n<;>cases h
 |n,.cB _ _,_,h,_=>by cases n<;>cases h
 |n,.AG _ _,_,h,_=>by cases n<;>cases h
 |n,.ZM _ _,_,h,_=>by cases n<;>cases h
theorem D2:∀(n:Nat) (ds es:List D),(∀d∈ds,QC n d=true)->(∀d∈es,QC n d=true)->LN (OH ds) (OH es)=yS ds es
 |n,[],[],_,_=>rfl
 |n,[],_::_,_,_=>rfl
 |n,_::_,[],_,_=>rfl
 |n,d::ds,e::es,h,h'=>by(show(VY (aE d) (aE e)&&LN (OH ds) (OH es))=(fI d e&&yS ds es);rw[He n d e (h d (by simp)) (h' e (by simp)),D2 n ds es (λx hx=>h x (by simp[hx])) (λx hx=>h' x (by simp[hx]))])
end
section
variable{K:fA}
mutual
theorem Yk(I:dA X aA Y H s)(hK:X.K=K)(sub:fB G H):∀(n:Nat) (d:D) (x:V) (u:eA),QC n d=true->jA K G d x->aAf x u->∃as,Reads s.heap u (aE d) as/\eK (aE d)=true/\TJ (aE d)<=n
 |n,.iA,x,u,_,h,r=>by
  simp only[jA] at h;subst h;cases r;exact⟨_,Reads.none,by simp[aE,eK],by simp[aE,TJ]⟩
 |n,.bl b,x,u,_,h,r=>by
  simp only[jA] at h;subst h;cases r;exact⟨_,Reads.bool b,by simp[aE,eK],by simp[aE,TJ]⟩
 |n,.int b,x,u,_,h,r=>by
  simp only[jA] at h;subst h;obtain⟨t,rfl⟩:=r;exact⟨_,Reads.int b t,by simp[aE,eK],by simp[aE,TJ]⟩
 |n,.str b,x,u,_,h,r=>by
  simp only[jA] at h;obtain⟨rfl,hs⟩:=h;obtain⟨t,rfl⟩:=r;exact⟨_,Reads.str b t,by simpa[aE,eK] using hs,by simp[aE,TJ]⟩
 |n+1,.t ds,x,u,ok,h,r=>by
  simp only[jA] at h;obtain⟨a,vs,rfl,h1,h2⟩:=h;cases r;obtain⟨cA,rv,⟨o,ho,hc,m,hd⟩,hz⟩:=I.tuple (show LC X.K H a vs from hK ▸ OJ sub h1);obtain⟨as,r1,r2,r3⟩:=BX I hK sub n ds vs cA (iF.mp ok) h2 rv;exact⟨_,Reads.tuple ho hc hd (by simpa using r1),by simpa[aE,eK] using r2,by simp[aE,TJ];lia⟩
 |n+1,.l ds,x,u,ok,h,r=>by
  simp only[jA] at h;obtain⟨a,vs,rfl,h1,h2⟩:=h;cases r;obtain⟨cA,rv,⟨o,m,ho,hc,hn,hd⟩,hz⟩:=I.list (show GB X.K H a vs from hK ▸ sub.seq h1);obtain⟨as,r1,r2,r3⟩:=BX I hK sub n ds vs cA (iF.mp ok) h2 rv;exact⟨_,Reads.list ho hc hd (by simpa using r1),by simpa[aE,eK] using r2,by simp[aE,TJ];lia⟩
 | 0,.t ds,_,_,h,_,_=>by cases h
 | 0,.l ds,_,_,h,_,_=>by cases h
 |n,.ins _ _ _,_,_,h,_,_=>by cases n<;>cases h
 |n,.cB _ _,_,_,h,_,_=>by cases n<;>cases h
 |n,.AG _ _,_,_,h,_,_=>by cases n<;>cases h
 |n,.ZM _ _,_,_,h,_,_=>by cases n<;>cases h
theorem BX(I:dA X aA Y H s)(hK:X.K=K)(sub:fB G H):∀(n:Nat) (ds:List D) (xs:List V) (us:List eA),(∀d∈ds,QC n d=true)->kA K G ds xs->aAd xs us->∃as,ReadsAll s.heap us (OH ds) as/\nP (OH ds)=true/\rP (OH ds)<=n
 |n,[],xs,us,_,h,r=>by
  simp only[kA] at h;subst h;cases r;exact⟨_,ReadsAll.nil,by simp[OH,nP],by simp[OH,rP]⟩
 |n,d::ds,xs,us,ok,h,r=>by
  simp only[kA] at h;obtain⟨v,r',rfl,h1,h2⟩:=h
  cases r with
  |cons ra rb =>
   obtain⟨as,a1,a2,a3⟩:=Yk I hK sub n d v _ (ok d (by simp)) h1 ra;obtain⟨bs,b1,b2,b3⟩:=BX I hK sub n ds r' _ (λx hx=>ok x (by simp[hx])) h2 rb;exact⟨_,ReadsAll.cons a1 b1,by simp[OH,nP,a2,b2],by simp[OH,rP];lia⟩
end
def Zk(I:dA X aA Y H s)(hK:X.K=K)(sub:fB G H)(n:Nat)(d:D)(x:V)(u:eA)(ok:QC n d=true)(h:lC K H G d x)(r:aAf x u):∃as,Reads s.heap u (aE d) as/\eK (aE d)=true/\TJ (aE d)<=n:=by
 rcases h with h | ⟨a,rfl,h⟩
 ·exact Yk I hK sub n d x u ok h r
 ·cases r
  cases d<;>first | exact h.elim | skip
  case cB=>cases n<;>cases ok
  rename_i ds;obtain⟨vs,h1,h2⟩:=h
  cases n with
  |zero=>cases ok
  |succ n =>
   obtain⟨cA,rv,⟨o,m,ho,hc,hn,hd⟩,hz⟩:=I.list (GB.of h1);obtain⟨as,r1,r2,r3⟩:=BX I hK sub n ds vs cA (iF.mp ok) h2 rv;exact⟨_,Reads.list ho hc hd (by simpa using r1),by simpa[aE,eK] using r2,by simp[aE,TJ];lia⟩
def aAF(K:fA)(H G:Hp)(v:RV)(x:V)(H':Hp):Prop :=
 (∃d,v=.sh d/\jA K G d x/\H'=H) \/
 (∃ds vs p,v=.ow (.l ds)/\H p=none/\kA K G ds vs/\x=.ref p/\H'=GA H p (.l vs)) \/
 (∃ds vs p,v=.sh (.t ds)/\H p=none/\kA K G ds vs/\x=.ref p/\H'=GA H p (.t vs)) \/
 (∃ks ds vs p,v=.sh (.AG ks ds)/\H p=none/\kA K G ds vs/\ks.length=ds.length/\x=.ref p/\H'=GA H p (.dK (oK ks vs)))
def W7(h:∃ds vs p,v=.sh (.t ds)/\H p=none/\kA K G ds vs/\x=.ref p/\H'=GA H p (.t vs)):aAF K H G v x H' :=
 .inr (.inr (.inl h))
def CA.made(a:CA K U Y H0 G0 U' H G)(m:aAF K H G v x H2) :
  ∃G2,CA K U Y H0 G0 U' H2 G2/\MC K H2 G2 (AA U' Y) (JE H0) v x:=by
 rcases m with ⟨d,rfl,h,rfl⟩ | ⟨ds,vs,p,rfl,h,r,rfl,rfl⟩ | ⟨ds,vs,p,rfl,h,r,rfl,rfl⟩ | ⟨ks,ds,vs,p,rfl,h,r,hl,rfl,rfl⟩
 ·exact⟨G,a,h⟩
 ·exact⟨_,a.Lj h r⟩
 ·exact⟨_,a.zo h r⟩
 ·refine⟨_,a.gN h, ?_⟩;show jA K _ (.AG ks ds) _;simp only[jA];exact⟨p,vs,rfl,TC,kA.mono (Sm.laid (fB.free a.pA.sub h)) ds r,hl⟩
def vTa(K:fA)(op:vM):R2:=λx y H Q=>∃G d e v,fB G H/\lC K H G d x/\lC K H G e y/\(op=.Mult->∀ds,d=.l ds->∃a vs,x=.ref a/\H a=some (.l vs)/\kA K G ds vs)/\NC op d e=some v/\∀z H',aAF K H G v z H'->Q z H'
def aAm:aAF K H G (.sh (.int i)) (.int i) H:=.inl ⟨_,rfl,by simp[jA],rfl⟩
def zIa:aAF K H G (.sh (.bl i)) (.bl i) H:=.inl ⟨_,rfl,by simp[jA],rfl⟩
def oM(h:jB n=true):n<=sizeLine:=vD (@UU _ (cl _) h) (by decide)
def rR(I:dA X aA Y H s)(h:GB X.K H a vs):∃(cA:List eA),aAd vs cA/\s.heap.IsList a cA.toArray/\vs.length<=sizeLine:=by
 obtain⟨cA,r,p,z⟩:=I.list h;exact⟨cA,r,p.isList,z⟩
def wTa(K:fA):R2:=λx y H Q=>∃l b xs zs,x=.ref l/\y=.ref b/\GB K H l xs/\GB K H b zs/\xs.length+zs.length<=sizeLine/\∀p,H p=none->Q (.ref p) (GA H p (.l (xs++zs)))
def tNa:YC X (rH .Add) (wTa X.K):=by
 intro aA s Y H x y v u Q I rx ry h;obtain⟨l,b,xs,zs,rfl,rfl,hH,hB,hz,q⟩:=h;cases rx;cases ry;obtain⟨cA,r,hl,z⟩:=rR I hH;obtain⟨mI,r2,lg,z2⟩:=rR I hB;have e1:=r.length;have e2:=r2.length;obtain⟨⟨cls,dd,data,sl⟩,ho,hc,n,hd⟩:=id hl;obtain⟨⟨L0,rJ,data2,aJ⟩,CK,vK,n2,hd2⟩:=id lg;simp only at hc hd vK hd2;subst hc hd vK hd2;refine MY ⟨_,ho,rfl⟩ ⟨_,CK,rfl⟩ noFill_list_add seq_list_add PySem.F.slot_list_add PySem.F.entry_list_add (PySem.F.args_list_add_2 _ _) (list_addW l b cA.toArray mI.toArray n n2 dd rJ sl aJ (by simp;lia)) ⟨ho,CK, ?_⟩;have ea:cA.toArray++mI.toArray=(cA++mI).toArray:=by simp
 rw[ea];exact⟨.ref _,_,I.R7 (t':=s.toks) (r.append r2) (by rw[gC];lia),rfl,q _ I.fresh⟩
def vNa:YC X (rH .FloorDiv) (rI (λ_ j=>0<j/\j<100000000000000000000000000000000000000000000000000000000000000000000000000000000) λi j=>.int (i / j)):=fU λi j _ _ _ _ _ hc q=>by
 have h1:(0:Int)<j:=hc.1;have h2:j<100000000000000000000000000000000000000000000000000000000000000000000000000000000:=hc.2;have h3:j.natAbs<2 ^ 300:=vG (by omega:j.natAbs<100000000000000000000000000000000000000000000000000000000000000000000000000000000) (by decide);have h4:j.natAbs.log2<300:=(Nat.log2_lt (by omega)).mpr h3;exact PyProof.Rows.floordiv_int (by omega) (by rw[qp i (by omega)];exact q) (.inl (PyProof.noPylong_of_log2 (by omega)))
def uB(e:none=some v):False:=nomatch e
def sNa:YC X (rH .Add) (λx y H Q=>∃a b ys,x=.ref a/\y=.ref b/\LC X.K H a []/\LC X.K H b ys/\Q (.ref b) H):=by
 intro aA s Y H x y v u Q I rx ry h;obtain⟨a,b,ys,rfl,rfl,ha,hb,q⟩:=h;cases rx;cases ry;obtain⟨cA,r1,p1,_⟩:=I.tuple ha;obtain⟨mI,r2,p2,_⟩:=I.tuple hb;have e0:cA=[]:=r1.oX.mpr rfl;subst e0;obtain⟨⟨cls,dd,data,sl⟩,ho,hc,n,hd⟩:=id p1;obtain⟨⟨L0,rJ,data2,aJ⟩,CK,vK,n2,hd2⟩:=id p2;simp only at hc hd vK hd2;subst hc hd vK hd2
 exact MY ⟨_,ho,rfl⟩ ⟨_,CK,rfl⟩ Wa Ab za ua (ja _ _)
  (tuple_addW0 a b [].toArray mI.toArray n n2 dd rJ sl aJ rfl) ⟨ho,CK,⟨.ref b,H,I,rfl,q⟩⟩
def uv(hK:X.K=K)(op:vM):YC X (rH op) (vTa K op):=by
 intro aA s Y H x y v u Q I rx ry h;obtain⟨G,d,e,w,sub,hx,hy,hm,eb,k⟩:=h;subst hK
 cases op with
 |Add =>
  cases d with
  |int =>
   cases e with
   |int =>
    cases hx.int;cases hy.int;change some _=_ at eb;cases eb;exact qNa aA s Y H _ _ _ _ Q I rx ry ⟨_,_,rfl,rfl,k _ _ aAm⟩
   |_=>exact(uB eb).elim
  |l xs =>
   cases e with
   |l ys =>
    change (if jB (xs.length+ys.length) then some _ else none)=_ at eb;split at eb
    ·rename_i hz;cases eb;obtain⟨a,vs,rfl,h1,h2⟩:=hx.l sub;obtain⟨b,ws,rfl,h3,h4⟩:=hy.l sub;refine tNa aA s Y H _ _ _ _ Q I rx ry ⟨a,b,vs,ws,rfl,rfl,h1,h3, ?_,λp hp=>k _ _ (.inr (.inl ⟨_,_,p,rfl,hp,h2.app h4,rfl,rfl⟩))⟩;rw[h2.len,h4.len];exact oM hz
    ·cases eb
   |_=>exact(uB eb).elim
  |t xs =>
   cases xs with
   |nil =>
    cases e with
    |t X9 =>
     change some _=_ at eb;cases eb;have NO:=hy;obtain⟨a,vs,rfl,h1,h2⟩:=hx.t sub;obtain⟨b,ws,rfl,h3,h4⟩:=hy.t sub;have e1:vs=[]:=mY.mp h2.len;subst e1;refine sNa aA s Y H _ _ _ _ Q I rx ry ⟨a,b,ws,rfl,rfl,h1,h3, ?_⟩;rcases NO with NO | ⟨_,_,NO⟩
     ·exact k _ _ (.inl ⟨_,rfl,NO,rfl⟩)
     ·exact NO.elim
    |_=>exact(uB eb).elim
   |cons x0 xs0 =>
    cases e with
    |t X9 =>
     change (if jB (xs0.length+1+X9.length) then some _ else none)=_ at eb;split at eb
     ·rename_i hz;cases eb;have rT:=hx;obtain⟨a,vs,rfl,h1,h2⟩:=hx.t sub;obtain⟨b,ws,rfl,h3,h4⟩:=hy.t sub;have e1:=h2.len;have e2:=h4.len;refine uNa aA s Y H _ _ _ _ Q I rx ry ⟨a,b,vs,ws,rfl,rfl,h1,h3, ?_, ?_,λhw=>?_,λhw p hp=>?_⟩
      ·intro z;subst z;simp at e1
      ·rw[e1,e2];exact oM hz
      ·subst hw;have e3:X9=[]:=mY.mp e2.symm;subst e3;rcases rT with rT | ⟨_,_,rT⟩
       ·exact k _ _ (.inl ⟨_,rfl,by simpa using rT,rfl⟩)
       ·exact rT.elim
      ·exact k _ _ (W7 ⟨_,_,p,rfl,hp,h2.app h4,rfl,rfl⟩)
     ·cases eb
    |_=>exact(uB eb).elim
  |_=>exact(uB eb).elim
 |Sub =>
  cases d with
  |int =>
   cases e with
   |int =>
    cases hx.int;cases hy.int;change some _=_ at eb;cases eb;exact iOa aA s Y H _ _ _ _ Q I rx ry ⟨_,_,rfl,rfl,k _ _ aAm⟩
   |_=>exact(uB eb).elim
  |_=>exact(uB eb).elim
 |Mult =>
  cases d with
  |int =>
   cases e with
   |int =>
    cases hx.int;cases hy.int;change @ite _ _ (cl _) _ none=_ at eb;split at eb
    ·cases eb;exact dOa aA s Y H _ _ _ _ Q I rx ry ⟨_,_,rfl,rfl,‹_›,k _ _ aAm⟩
    ·cases eb
   |_=>exact(uB eb).elim
  |l xs =>
   cases e with
   |int kk =>
    change @ite _ (-(2 ^ 31)<=kk/\kk<=1000/\jB (xs.length*kk.toNat)) (cl _) _ none=_ at eb;split at eb
    ·rename_i hc;cases eb;cases hy.int;obtain⟨a,vs,rfl,h1,h2⟩:=hm rfl _ rfl;refine fOa aA s Y H _ _ _ _ Q I rx ry ⟨a,_,vs,rfl,rfl,h1,by omega,by omega, ?_,λp hp=>k _ _ (.inr (.inl ⟨_,_,p,rfl,hp,h2.rep _,rfl,rfl⟩))⟩;rw[h2.len];exact oM hc.2.2
    ·cases eb
   |_=>exact(uB eb).elim
  |_=>exact(uB eb).elim
 |FloorDiv =>
  cases d with
  |int =>
   cases e with
   |int =>
    cases hx.int;cases hy.int;change @ite _ _ (cl _) _ none=_ at eb;split at eb
    ·cases eb;exact vNa aA s Y H _ _ _ _ Q I rx ry ⟨_,_,rfl,rfl,‹_›,k _ _ aAm⟩
    ·cases eb
   |_=>exact(uB eb).elim
  |_=>exact(uB eb).elim
 |Mod =>
  cases d with
  |int =>
   cases e with
   |int =>
    cases hx.int;cases hy.int;change @ite _ _ (cl _) _ none=_ at eb;split at eb
    ·cases eb;exact cOa aA s Y H _ _ _ _ Q I rx ry ⟨_,_,rfl,rfl,‹_›,k _ _ aAm⟩
    ·cases eb
   |_=>exact(uB eb).elim
  |_=>exact(uB eb).elim
 |Pow=>exact(uB eb).elim
 |LShift =>
  cases d with
  |int =>
   cases e with
   |int =>
    cases hx.int;cases hy.int;change @ite _ _ (cl _) _ none=_ at eb;split at eb
    ·rename_i hc;cases eb;exact gOa aA s Y H _ _ _ _ Q I rx ry ⟨_,_,rfl,rfl,⟨hc.1,by omega,hc.2.2⟩,k _ _ aAm⟩
    ·cases eb
   |_=>exact(uB eb).elim
  |_=>exact(uB eb).elim
 |RShift =>
  cases d with
  |int =>
   cases e with
   |int =>
    cases hx.int;cases hy.int;change @ite _ _ (cl _) _ none=_ at eb;split at eb
    ·cases eb;exact hOa aA s Y H _ _ _ _ Q I rx ry ⟨_,_,rfl,rfl,‹_›,k _ _ aAm⟩
    ·cases eb
   |_=>exact(uB eb).elim
  |_=>exact(uB eb).elim
 |BitAnd =>
  cases d with
  |int =>
   cases e with
   |int =>
    cases hx.int;cases hy.int;change some _=_ at eb;cases eb;exact rNa aA s Y H _ _ _ _ Q I rx ry ⟨_,_,rfl,rfl,k _ _ aAm⟩
   |_=>exact(uB eb).elim
  |_=>exact(uB eb).elim
 |BitOr=>exact(uB eb).elim
 |_=>exact(uB eb).elim
def mU(K:fA)(op:yI):R2:=λx y H Q=>∃G d e b,fB G H/\lC K H G d x/\lC K H G e y/\aC op d e=some b/\Q (.bl b) H
def oQ(h:jA K G d x)(f:UD d=true):rK x=true/\∀(e:D) (y:V),jA K G e y->UD e=true->BL y x=fI e d:=by
 cases d<;>simp only[UD,kL] at f<;>simp only[jA] at h
 ·subst h;refine⟨rfl,λe y hy fe=>?_⟩;cases e<;>simp only[UD,kL] at fe<;>simp only[jA] at hy<;>(first | subst hy | (obtain⟨rfl,_⟩:=hy))<;>rfl
 ·subst h;refine⟨rfl,λe y hy fe=>?_⟩;cases e<;>simp only[UD,kL] at fe<;>simp only[jA] at hy<;>(first | subst hy | (obtain⟨rfl,_⟩:=hy))<;>rfl
 ·subst h;refine⟨rfl,λe y hy fe=>?_⟩;cases e<;>simp only[UD,kL] at fe<;>simp only[jA] at hy<;>(first | subst hy | (obtain⟨rfl,_⟩:=hy))<;>rfl
 ·obtain⟨rfl,_⟩:=h;refine⟨rfl,λe y hy fe=>?_⟩;cases e<;>simp only[UD,kL] at fe<;>simp only[jA] at hy<;>(first | subst hy | (obtain⟨rfl,_⟩:=hy))<;>rfl
def lC.flat(h:lC K H G d x)(f:UD d=true):jA K G d x:=by
 rcases h with h | ⟨a,rfl,h⟩
 ·exact h
 ·cases d<;>first | exact h.elim | cases f
theorem xT(h:jA K G d x)(f:UD d=true):∀{ds:List D} {vs:List V},kA K G ds vs->ds.all UD=true->vs.all rK=true/\RW x vs=inD d ds
 |[],vs,h2,_=>by simp only[kA] at h2;subst h2;exact⟨rfl,rfl⟩
 |e::ds,vs,h2,fs=>by
  simp only[kA] at h2;obtain⟨y,r,rfl,h3,h4⟩:=h2;rw[xC,aB] at fs;obtain⟨a1,a2⟩:=xT h f h4 fs.2;obtain⟨b1,_⟩:=oQ h3 fs.1;have b2:=(oQ h f).2 e y h3 fs.1;refine⟨by rw[xC,b1,a1];rfl, ?_⟩
  unfold RW inD at *
  rw[KN,KN,a2,b2]
def Wk(I:dA X aA Y H s)(hK:X.K=K)(sub:fB G H)(hu:A.units+20<cLine)(od:QC 20 d=true)(oe:QC 20 e=true)(hx:lC K H G d x)(hy:lC K H G e y)(rx:aAf x v)(ry:aAf y u) :
  SeqAt.RcAt A s v u (fI d e)/\SeqAt.RcNeAt A s v u (!fI d e):=by
 obtain⟨as,a1,a2,a3⟩:=Zk I hK sub 20 d x v od hx rx;obtain⟨bs,b1,b2,b3⟩:=Zk I hK sub 20 e y u oe hy ry;rw[<- He 20 d e od oe];exact⟨Pq a1 b1 a2 b2 (by lia),SeqAt.rcNeAt_reads a1 b1 a2 b2 (by lia)⟩
def G6{ds:List D}:∀{ns:List Int},OC ds=some ns->ds=ns.map D.int:=by
 induction ds with
 |nil=>intro ns h;cases h;rfl
 |cons d r ih =>
  intro ns h
  cases d with
  |int i =>
   replace h:(OC r).map (i :: ·)=some ns:=h
   cases q:OC r with
   |none=>rw[q] at h;cases h
   |some ms =>
    rw[q] at h;cases h;rw[CB,<- ih q]
  |_=>cases h
theorem kA.ints:∀{ns:List Int} {vs:List V},kA K G (ns.map D.int) vs->vs=ns.map V.int
 |[],vs,h=>by simp only[sM,kA] at h;exact h
 |n::ns,vs,h=>by(simp only[CB,kA] at h;obtain⟨v,r,rfl,h1,h2⟩:=h;simp only[jA] at h1;rw[h1,kA.ints h2];rfl)
def kWa(h:zU d=some k):d=uA k:=by
 unfold zU at h;split at h
 ·rename_i t ds
  cases q:OC ds with
  |none=>rw[q] at h;cases h
  |some ns =>
   rw[q] at h;cases h;rw[G6 q];rfl
 ·cases h
def nWa(h:mF d=some k):d=mO k:=by
 obtain⟨x,h1,rfl⟩:=zM.mp h;exact kWa h1
def lWa(h:jA K G (uA k) x):∃b,x=.ref b/\kK K G k b:=by
 simp only[uA,jA,kA] at h;obtain⟨a,vs,rfl,h1,v1,r1,rfl,rfl,v2,r2,rfl,⟨c,ws,rfl,h2,h3⟩,rfl⟩:=h;rw[kA.ints h3] at h2;exact⟨a,rfl,c,h1,h2⟩
def RT(hk:mF d=some k)(h:lC K H G d x):∃b,x=.ref b/\DC K G k b:=by
 rw[nWa hk] at h;rcases h with h | ⟨_,_,h⟩
 ·exact lWa h
 ·exact h.elim
theorem ql:∀(ns:List Int),kA K G (ns.map D.int) (ns.map V.int)
 |[]=>kA.nil
 |n::ns=>kA.cons (by simp only[jA]) (ql ns)
def rUa(h:kK K G k b):jA K G (uA k) (.ref b):=by
 obtain⟨c,h1,h2⟩:=h;simp only[uA,jA];exact⟨b,_,rfl,h1,kA.cons (by simp only[jA]) (kA.cons (by simp only[jA];exact⟨c,_,rfl,h2,ql _⟩) kA.nil)⟩
def ll{k:JC}{b:gA}(h:DC K G k b):jA K G (mO k) (.ref b):=rUa h
theorem ml:∀{xs:YH},(∀x∈xs,DC K G x.1 x.2.1)->kA K G ((xs.map (·.1)).map mO) (xs.map λx=>.ref x.2.1)
 |[],_=>kA.nil
 |x::xs,h=>kA.cons (ll (h x (.head _))) (ml λy hy=>h y (.tail _ hy))
theorem lC.AG(h:lC K H G (.AG ks ds) x)(sub:fB G H):∃a vs,x=.ref a/\H a=some (.dK (oK ks vs))/\kA K G ds vs/\ks.length=ds.length:=by
 rcases h with h | ⟨_,_,h⟩
 ·simp only[jA] at h;obtain⟨a,vs,rfl,h1,h2⟩:=h;exact⟨a,vs,rfl,sub _ _ h1,h2⟩
 ·exact h.elim
theorem S7(k:Int):∀{ks:List Int} {ds:List D} {vs:List V},kA K G ds vs->ks.length=ds.length->(vI (oK ks vs) (.inl k)=none/\gM ks ds k=none)\/∃d v,vI (oK ks vs) (.inl k)=some v/\gM ks ds k=some d/\jA K G d v
 |[],_,_,_,_=>.inl ⟨rfl,rfl⟩
 |a::ks,[],_,_,z=>by cases z
 |a::ks,d::ds,_,h,z=>by
  simp only[kA] at h;obtain⟨v,r,rfl,h1,h2⟩:=h;have ih:=S7 k h2 (ur z);by_cases e:a=k
  ·exact .inr ⟨d,v,Ho (p:=(Sum.inl a,v)) (r:=oK ks r) (congrArg Sum.inl e),by simp[gM,e],h1⟩
  ·have e1:vI (oK (a::ks) (v::r)) (.inl k)=vI (oK ks r) (.inl k):=Fo (p:=(Sum.inl a,v)) (r:=oK ks r) (λz=>e (iV z));have e2:gM (a::ks) (d::ds) k=gM ks ds k:=by simp[gM,e]
   rw[e1,e2];exact ih
def tIa(h:kA K G ds vs)(z:ks.length=ds.length):(vI (oK ks vs) (.inl k)).isSome=(gM ks ds k).isSome:=by
 rcases S7 k h z with ⟨h1,h2⟩ | ⟨d,v,h1,h2,_⟩<;>rw[h1,h2]<;>rfl
abbrev UP(K:fA)(G:Hp)(ks:List JC)(ds:List D)(xs:YH):Prop:=xs.map (·.1)=ks/\∃vs,aAd vs (xs.map (·.2.2))/\kA K G ds vs
theorem lC.cB(h:lC K H G (.cB ks ds) x)(sub:fB G H):∃a xs,x=.ref a/\DS K H a xs/\UP K G ks ds xs/\∀x∈xs,DC K G x.1 x.2.1:=by
 have go:∀{a xs vs},qV H a xs->QN K G a ks vs xs->kA K G ds vs->DS K H a xs/\UP K G ks ds xs/\∀x∈xs,DC K G x.1 x.2.1:=λh1 h2 h3=>⟨⟨h1,h2.1,h2.2.1,h2.2.2.1,λx hx=>DC.mono sub (h2.2.2.2.1 x hx)⟩,⟨h2.2.2.2.2.1,_,h2.2.2.2.2.2,h3⟩,h2.2.2.2.1⟩
 rcases h with h | ⟨a,rfl,xs,vs,h1,h2,h3⟩
 ·simp only[jA] at h;obtain⟨a,xs,vs,rfl,⟨ep,h1⟩,h2,h3⟩:=h;exact⟨a,xs,rfl,go ⟨ep,sub _ _ h1⟩ h2 h3⟩
 ·exact⟨a,xs,rfl,go h1 h2 h3⟩
theorem Qi:∀{xs:YH} {ks:List JC} {ds:List D},UP K G ks ds xs->(atKey xs k=none/\fM ks ds k=none)\/∃p d v,atKey xs k=some p/\fM ks ds k=some d/\aAf v p.2/\jA K G d v
 |[],_,_,⟨rfl,_⟩=>.inl ⟨rfl,rfl⟩
 |q::xs,_,ds,⟨rfl,vs,h1,h2⟩=>by
  cases h1 with
  | @cons v u vs us h1 t1 =>
   obtain _ | ⟨d,ds⟩:=ds
   ·simp only[kA] at h2;cases h2
   ·simp only[kA] at h2;obtain⟨v',r,e,h3,h4⟩:=h2;cases e;have ih:=Qi (k:=k) (ks:=xs.map (·.1)) ⟨rfl,_,t1,h4⟩;unfold atKey fM at ih ⊢;rw[CB,lP,GN,GN];by_cases e:q.1=k
    ·rw[rB e];exact .inr ⟨_,_,_,rfl,rfl,h1,h3⟩
    ·rw[eB e];exact ih
theorem CZ:∀(xs:YH),(atKey xs k).isSome=KL (xs.map (·.1)) k
 |[]=>rfl
 |q::xs=>by
  have ih:=CZ (k:=k) xs;unfold atKey KL at ih ⊢;rw[CB,GN,KN];by_cases e:q.1=k
  ·rw[rB e];rfl
  ·rw[eB e];exact ih
def Ri(r:UP K G ks ds xs)(k:JC):(atKey xs k).isSome=KL ks k:=by rw[<- r.1];exact CZ xs
theorem Ik(hv:aAf v u)(hd:jA K G d v):∀{xs:YH} {ds:List D} {vs:List V},aAd vs (xs.map (·.2.2))->kA K G ds vs ->
  (xs.map (putAt k u)).map (·.1)=xs.map (·.1)/\∃ws,aAd ws ((xs.map (putAt k u)).map (·.2.2))/\kA K G (((xs.map (·.1)).zip ds).map λp=>if p.1=k then d else p.2) ws
 |[],ds,vs,h1,h2=>⟨rfl,[],.nil,by simp[kA]⟩
 |q::xs,ds,vs,h1,h2=>by
  cases h1 with
  | @cons v0 u0 vs us h1 t1 =>
   obtain _ | ⟨d0,ds⟩:=ds
   ·simp only[kA] at h2;cases h2
   ·simp only[kA] at h2;obtain⟨v',r,e,h3,h4⟩:=h2;cases e;obtain⟨g1,ws,g2,g3⟩:=Ik hv hd t1 h4;rw[CB,CB,CB,CB,lP,CB,g1];unfold putAt;by_cases e:q.1=k
    ·rw[QA e];exact⟨rfl,v::ws,.cons hv g2,kA.cons (by rw[QA e];exact hd) g3⟩
    ·rw[UA e];exact⟨rfl,_::ws,.cons h1 g2,kA.cons (by rw[UA e];exact h3) g3⟩
def aAd.snoc(h:aAd vs us)(hv:aAf v u):aAd (vs++[v]) (us++[u]):=h.append (.cons hv .nil)
def pTa(r:UP K G ks ds xs)(hv:aAf v u)(hd:jA K G d v):UP K G (gH ks k) (YF ks ds k d) (storedH xs k b u):=by
 obtain⟨rfl,vs,h1,h2⟩:=r;unfold gH YF storedH;rw[<- CZ xs];split
 ·exact Ik hv hd h1 h2
 ·refine⟨by rw[VC];rfl,_, ?_,kA.app h2 (kA.cons hd kA.nil)⟩;rw[VC];exact aAd.snoc h1 hv
open PySem.AutoSeq1 (wpAny_loadPart') in
def Ki{us:List eA}{ns:List Int}(h:dJ us ns):∀i:Nat,(us[i]?=none/\us.length<=i/\ns.drop i=[])\/∃n t,us[i]?=some (.int n t)/\i<us.length/\ns.drop i=n::ns.drop (i+1):=by
 induction h with
 |nil=>exact λi=>.inl ⟨by simp,UJ _,by simp⟩
 |cons a t h ih =>
  intro i
  cases i with
  |zero=>exact .inr ⟨a,t,rfl,Nat.succ_pos _,rfl⟩
  |succ i =>
   rcases ih i with ⟨h1,h2,h3⟩ | ⟨n,u,h1,h2,h3⟩
   ·exact .inl ⟨by simpa using h1,Nat.succ_le_succ h2,h3⟩
   ·exact .inr ⟨n,u,by simpa using h1,Nat.succ_lt_succ h2,h3⟩
open PySem.AutoSeq1 (wpAny_loadPart') in
open PySem.MeetsSeq3 in
theorem Li{l b:gA}{us ws:List eA}{n n2:Nat}{dd rJ:Option gA}{sl aJ:Array (Option eA)}{ns ms:List Int}(hi:dJ us ns)(hj:dJ ws ms) :
  ∀(k i:Nat),us.length<i+k->i<=us.length->i<=ws.length->Meets (yM.«list.__eq__.loop» ⟨[.ref l,.ref b,rawInt i,rawInt 0],[]⟩)
   (λ_ R s=>s.heap.get? l=some { cls:=.type "list",dict:=dd,data:=.seq us.toArray n,slots:=sl }/\s.heap.get? b=some { cls:=.type "list",dict:=rJ,data:=.seq ws.toArray n2,slots:=aJ } /\
    R (.ok (.ret (.bool (HT.aAy (ns.drop i) (ms.drop i))))) s)
 | 0,i,hk,h1,_=>by lia
 |k+1,i,hk,z1,z2=>by
  intro prog w A R s h;obtain⟨hp,g,d,tk,os⟩:=s;obtain⟨hl,hb,h⟩:=h
  wp_walk using HN hl,HN hb
  have e1:us.toArray[((i:Nat):Int).toNat]?=us[i]?:=by simp
  have e2:ws.toArray[((i:Nat):Int).toNat]?=ws[i]?:=by simp
  rw[e1,e2];rcases Ki hi i with ⟨a1,a2,a3⟩ | ⟨x,t,a1,a2,a3⟩<;>rcases Ki hj i with ⟨b1,b2,b3⟩ | ⟨y,u,b1,b2,b3⟩<;>rw[a3,b3] at h<;>rw[a1,b1]
  iterate 3
   ·wp_walk using HN hl,HN hb
    refine cast (congrArg (λc=>R (.ok (.ret (.bool c))) _) ?_) h;show HT.aAy _ _=decide (us.toArray.size<ws.toArray.size);rw[UC,UC]
    symm
    first
     |exact eB (by lia)
     |exact rB (by lia)
  ·obtain⟨e,he,fg⟩:=HT.qy A.in1 ⟨hp,g,d,tk,os⟩ x t y u;refine rA (he prog w _ _ ?_);rw[HT.Ji] at h
   cases e with
   |true =>
    rw[QA (fg.mp rfl)] at h
    wp_walk
    exact⟨plainId_quiet plain_eq_loop _,ub entry_eq_loop (by
     rw[fq plain_eq_loop _]
     exact Li hi hj k (i+1) (by lia) a2 b2 prog w A R _ ⟨hl,hb,h⟩)⟩
   |false =>
    rw[UA (λq=>absurd (fg.mpr q) dG)] at h
    wp_walk using HN hl,HN hb
    rw[e1,e2,a1,b1];have hri:=HT.nUa A.in1 ⟨hp,g,d,tk,os⟩ x t y u prog w
    wp_walk using hri
    exact h
open PySem.AutoSeq1 (wpAny_loadPart') in
open PySem.MeetsSeq3 in
def pIa{l b:gA}{us ws:List eA}{n n2:Nat}{dd rJ:Option gA}{sl aJ:Array (Option eA)}{ns ms:List Int}(hi:dJ us ns)(hj:dJ ws ms) :
  Meets (yM.«list.__lt__» ⟨[.ref l,.ref b],[]⟩)
   (λ_ R s=>s.heap.get? l=some { cls:=.type "list",dict:=dd,data:=.seq us.toArray n,slots:=sl }/\s.heap.get? b=some { cls:=.type "list",dict:=rJ,data:=.seq ws.toArray n2,slots:=aJ } /\
    R (.ok (.ret (.bool (HT.aAy ns ms)))) s):=by
 intro prog w A R s h;obtain⟨hp,g,d,tk,os⟩:=s;obtain⟨hl,hb,h⟩:=h;have f3:=AutoSeq1.sub_list_list
 wp_walk using HN hl,HN hb
 exact⟨plainId_quiet plain_eq_loop _,ub entry_eq_loop (by
  rw[fq plain_eq_loop _]
  exact Li hi hj (us.length+1) 0 (by lia) (UJ _) (UJ _) prog w A R _ ⟨hl,hb,h⟩)⟩
def cUa(K:fA):R2:=λx y H Q=>∃a b ns ms,x=.ref a/\y=.ref b/\GB K H a (ns.map V.int)/\GB K H b (ms.map V.int)/\Q (.bl (HT.aAy ns ms)) H
def bOa(hu:X.A.units<cLine):YC X (nF .Lt) (cUa X.K):=by
 intro aA s Y H x y v u Q I rx ry h;obtain⟨a,b,ns,ms,rfl,rfl,ha,hb,q⟩:=h;cases rx;cases ry;obtain⟨us,r1,⟨o,n,h1,c1,_,d1⟩,_⟩:=I.list ha;obtain⟨ws,r2,⟨o2,n2,h2,c2,_,d2⟩,_⟩:=I.list hb;obtain⟨cls,dd,data,sl⟩:=o;obtain⟨L0,rJ,data2,aJ⟩:=o2;cases c1;cases c2;cases d1;cases d2
 exact richCompare_meets_room (op:=.Lt) ⟨_,h1,rfl⟩ ⟨_,h2,rfl⟩ PySem.F.slot_list_lt PySem.F.entry_list_lt (PySem.F.args_list_lt_2 _ _) (pIa (aAI r1) (aAI r2))
  ⟨h1,h2,show Value.bool _≠Value.notImplemented/\_ from⟨(λx=>nomatch x),.bl (HT.aAy ns ms),H,I,rfl,q⟩⟩ hu
def jQ(hK:X.K=K)(hu:X.A.units+64<cLine)(op:yI):YC X (nF op) (mU K op):=by
 intro aA s Y H x y v u Q I rx ry h;obtain⟨G,d,e,b,sub,hx,hy,eb,k⟩:=h
 cases op with
 |Eq =>
  change (if QC 20 d&&QC 20 e then some _ else none)=_ at eb;split at eb
  ·rename_i hc;cases eb;rw[aB] at hc;exact(Wk I hK sub (by lia) hc.1 hc.2 hx hy rx ry).1 _ _ _ _ ⟨.bl _,H,I,rfl,k⟩
  ·cases eb
 |NotEq =>
  change (if QC 20 d&&QC 20 e then some _ else none)=_ at eb;split at eb
  ·rename_i hc;cases eb;rw[aB] at hc;exact(Wk I hK sub (by lia) hc.1 hc.2 hx hy rx ry).2 _ _ _ _ ⟨.bl _,H,I,rfl,k⟩
  ·cases eb
 |Lt =>
  cases d with
  |int =>
   cases e with
   |int =>
    cases hx.int;cases hy.int;change some _=_ at eb;cases eb;exact aOa aA s Y H _ _ _ _ Q I rx ry ⟨_,_,rfl,rfl,k⟩
   |_=>exact(uB eb).elim
  |l =>
   cases e with
   |l =>
    obtain⟨ns,p,eb⟩:=MP.mp eb;obtain⟨ms,q,rfl⟩:=zM.mp eb;cases G6 p;cases G6 q;obtain⟨a,vs,rfl,h1,h2⟩:=hx.l sub;obtain⟨c,ws,rfl,h3,h4⟩:=hy.l sub;cases h2.ints;cases h4.ints;exact bOa (by lia) aA s Y H _ _ _ _ Q I rx ry ⟨_,_,_,_,rfl,rfl,hK ▸ h1,hK ▸ h3,k⟩
   |_=>exact(uB eb).elim
  |_=>exact(uB eb).elim
 |LtE =>
  cases d with
  |int =>
   cases e with
   |int =>
    cases hx.int;cases hy.int;change some _=_ at eb;cases eb;exact zNa aA s Y H _ _ _ _ Q I rx ry ⟨_,_,rfl,rfl,k⟩
   |_=>exact(uB eb).elim
  |_=>exact(uB eb).elim
 |Gt =>
  cases d with
  |int =>
   cases e with
   |int =>
    cases hx.int;cases hy.int;change some _=_ at eb;cases eb;exact xNa aA s Y H _ _ _ _ Q I rx ry ⟨_,_,rfl,rfl,k⟩
   |_=>exact(uB eb).elim
  |_=>exact(uB eb).elim
 |GtE =>
  cases d with
  |int =>
   cases e with
   |int =>
    cases hx.int;cases hy.int;change some _=_ at eb;cases eb;exact wNa aA s Y H _ _ _ _ Q I rx ry ⟨_,_,rfl,rfl,k⟩
   |_=>exact(uB eb).elim
  |_=>exact(uB eb).elim
 |Is =>
  cases e with
  |iA =>
   cases hy.iA;refine yNa aA s Y H _ _ _ _ Q I rx ry ⟨rfl, ?_⟩;by_cases hd:d=.iA
   ·subst hd;cases hx.iA;change some _=_ at eb;cases eb;simpa using k
   ·have:¬x=.iA:=λz=>by
     subst z;rcases hx with hx | ⟨_,z,_⟩
     ·cases d<;>first | exact hd rfl | simp[jA] at hx
     ·cases z
    cases d with
    |iA=>exact absurd rfl hd
    |_ =>
     change some _=_ at eb;cases eb;simpa[this] using k
  |bl =>
   cases d with
   |bl =>
    cases hx.bl;cases hy.bl;change some _=_ at eb;cases eb;cases rx;cases ry;exact is_bool ⟨.bl _,H,I,rfl,k⟩
   |_=>exact(uB eb).elim
  |_=>cases d<;>exact(uB eb).elim
 |IsNot =>
  cases e with
  |iA =>
   cases hy.iA;refine eOa aA s Y H _ _ _ _ Q I rx ry ⟨rfl, ?_⟩;by_cases hd:d=.iA
   ·subst hd;cases hx.iA;change some _=_ at eb;cases eb;simpa using k
   ·have:¬x=.iA:=λz=>by
     subst z;rcases hx with hx | ⟨_,z,_⟩
     ·cases d<;>first | exact hd rfl | simp[jA] at hx
     ·cases z
    cases d with
    |iA=>exact absurd rfl hd
    |_ =>
     change some _=_ at eb;cases eb;simpa[this] using k
  |_=>cases d<;>exact(uB eb).elim
 |In =>
  cases e with
  |t ds =>
   change (if UD d&&ds.all UD then some _ else none)=_ at eb;split at eb
   ·rename_i hc;cases eb;rw[aB] at hc;obtain⟨a,vs,rfl,h1,h2⟩:=hy.t sub;obtain⟨i1,i2⟩:=xT (hx.flat hc.1) hc.1 h2 hc.2;refine Hj aA s Y H _ _ _ _ Q I rx ry ⟨a,vs,rfl,.inr (hK ▸ h1),(oQ (hx.flat hc.1) hc.1).1,i1, ?_⟩;simpa[i2] using k
   ·cases eb
  |l ds =>
   change (if UD d&&ds.all UD then some _ else none)=_ at eb;split at eb
   ·rename_i hc;cases eb;rw[aB] at hc;obtain⟨a,vs,rfl,h1,h2⟩:=hy.l sub;obtain⟨i1,i2⟩:=xT (hx.flat hc.1) hc.1 h2 hc.2;refine Hj aA s Y H _ _ _ _ Q I rx ry ⟨a,vs,rfl,.inl (hK ▸ h1),(oQ (hx.flat hc.1) hc.1).1,i1, ?_⟩;simpa[i2] using k
   ·cases eb
  |AG ks es =>
   change Tg d ks es=_ at eb
   cases d with
   |int i =>
    change some _=_ at eb;cases eb;obtain⟨a,vs,rfl,h1,h2,h3⟩:=hy.AG sub;cases hx.int;cases ry;refine wx (by lia) I (LM.k (k:=Sum.inl i) h1) rx λs3 I3=>⟨.bl _,H,I3,rfl, ?_⟩
    rw[tIa h2 h3];exact k
   |_=>exact(uB eb).elim
  |cB ks es =>
   change OQ d ks=_ at eb;unfold OQ at eb
   cases hs:mF d with
   |none=>rw[hs] at eb;cases eb
   |some k0 =>
    rw[hs] at eb;cases eb;subst hK;obtain⟨b0,rfl,kk⟩:=RT hs hx;obtain⟨a,xs,rfl,ds,pr,_⟩:=hy.cB sub;cases rx;cases ry;refine sVa (by lia) I ds (DC.mono sub kk) λs3 I3=>⟨.bl _,H,I3,rfl, ?_⟩
    rw[Ri pr];exact k
  |_=>exact(uB eb).elim
 |NotIn =>
  cases e with
  |t ds =>
   change (if UD d&&ds.all UD then some _ else none)=_ at eb;split at eb
   ·rename_i hc;cases eb;rw[aB] at hc;obtain⟨a,vs,rfl,h1,h2⟩:=hy.t sub;obtain⟨i1,i2⟩:=xT (hx.flat hc.1) hc.1 h2 hc.2;refine Ij aA s Y H _ _ _ _ Q I rx ry ⟨a,vs,rfl,.inr (hK ▸ h1),(oQ (hx.flat hc.1) hc.1).1,i1, ?_⟩;simpa[i2] using k
   ·cases eb
  |l ds =>
   change (if UD d&&ds.all UD then some _ else none)=_ at eb;split at eb
   ·rename_i hc;cases eb;rw[aB] at hc;obtain⟨a,vs,rfl,h1,h2⟩:=hy.l sub;obtain⟨i1,i2⟩:=xT (hx.flat hc.1) hc.1 h2 hc.2;refine Ij aA s Y H _ _ _ _ Q I rx ry ⟨a,vs,rfl,.inl (hK ▸ h1),(oQ (hx.flat hc.1) hc.1).1,i1, ?_⟩;simpa[i2] using k
   ·cases eb
  |cB ks es =>
   change (OQ d ks).map (!·)=_ at eb;unfold OQ at eb
   cases hs:mF d with
   |none=>rw[hs] at eb;cases eb
   |some k0 =>
    rw[hs] at eb;cases eb;subst hK;obtain⟨b0,rfl,kk⟩:=RT hs hx;obtain⟨a,xs,rfl,ds,pr,_⟩:=hy.cB sub;cases rx;cases ry;refine vVa (by lia) I ds (DC.mono sub kk) λs3 I3=>⟨.bl _,H,I3,rfl, ?_⟩
    rw[Ri pr];exact k
  |_=>exact(uB eb).elim
end
section
variable{X:Cx}{K:fA}{aA:List (gA×DB)}{Y:St}{H G:Hp}{s:EA}
def Rc(h:kA K G ds vs)(e:fC ds i=some d):∃v,fC vs i=some v/\jA K G d v:=by
 unfold fC at e ⊢;rw[h.len]
 cases q:EG ds.length i with
 |none=>rw[q] at e;cases e
 |some j =>
  rw[q] at e;exact h.get e
def aUa(K:fA):R2:=λx y H Q=>∃G d e r,fB G H/\lC K H G d x/\lC K H G e y/\IT d e=some r/\∀z,jA K G r z->Q z H
def iG.imp(h:iG X r)(w:∀x y H Q,r' x y H Q->r x y H Q):iG X r':=λva sl aA s Y H x y v u Q I rx ry q hs=>h va sl aA s Y H x y v u Q I rx ry (w x y H Q q) hs
def sXa(h:HP x=true)(e:fC x.cps.toList i=some c):HP ⟨#[c]⟩=true:=by
 unfold HP at *
 have hm:c∈x.cps.toList:=by
  unfold fC at e
  cases q:EG x.cps.toList.length i with
  |none=>rw[q] at e;cases e
  |some j=>rw[q] at e;exact fJ e
 have:=Array.all_eq_true'.mp h c (by simpa using hm)
 simpa using this
def bUa:R2:=λx y H Q=>∃a v,x=.ref a/\LM H a y (some v)/\Q v H
def iEa(hu:X.A.units+1<cLine):iG X bUa:=by
 intro value slice aA s Y H x y v u Q I rx ry h hs;obtain⟨a,z,rfl,g,q⟩:=h;cases rx;have hT:=Rx I g;unfold subscriptTail;refine rA ?_;rw[Vp hT.not_modules];refine rA (qb hT yp.lookup ?_)
 have iB:sA (model X.prog X.w) X.A (subscripted slice false (.ref a) u) (λr s₃=>sA (model X.prog X.w) X.A (letTemporaryGo value (.ref a) r>>=λ_=>pure r) (EP X aA Y Q) X.xe s₃) X.xe s:=by(rw[hs];exact wpAny_operating (vx hu I g ry λw' s3 I3 nM=>rA (gq (kB ⟨z,H,I3,nM,q⟩))))
 first
  |exact kB (rA iB)
  |exact rA (kB (rA iB))
  |exact rA iB
def lEa:iG X (λ_ _ _ _=>False):=λ_ _ _ _ _ _ _ _ _ _ _ _ _ _ h _=>h.elim
def AX(K:fA):R2:=λx y H Q=>∃a b xs k p v,x=.ref a/\y=.ref b/\DS K H a xs/\DC K H k b/\atKey xs k=some p/\aAf v p.2/\Q v H
def DS.typeIs(I:dA X aA Y H s)(d:DS X.K H a xs):s.TypeIs (.ref a) "dict":=by
 obtain⟨o,es,ep,h1,h2,_⟩:=d.dict I;exact⟨o,h1,h2.1⟩
def jEa(hu:X.A.units+11<cLine):iG X (AX X.K):=by
 intro value slice aA s Y H x y v u Q I rx ry h hs;obtain⟨a,b,xs,k,p,z,rfl,rfl,ds,kk,e,en,q⟩:=h;cases rx;cases ry;have hT:=DS.typeIs I ds;unfold subscriptTail;refine rA ?_;rw[Vp hT.not_modules];refine rA (qb hT yp.lookup ?_)
 have iB:sA (model X.prog X.w) X.A (subscripted slice false (.ref a) (.ref b)) (λr s₃=>sA (model X.prog X.w) X.A (letTemporaryGo value (.ref a) r>>=λ_=>pure r) (EP X aA Y Q) X.xe s₃) X.xe s:=by(rw[hs];exact wpAny_operating (rVa hu I ds kk e λs3 I3=>rA (gq (kB ⟨z,H,I3,en,q⟩))))
 first
  |exact kB (rA iB)
  |exact rA (kB (rA iB))
  |exact rA iB
def mEa(hK:X.K=K)(hu:X.A.units+11<cLine):iG X (aUa K):=by
 refine iG.imp ((nEa.or (iEa (by lia))).or (jEa hu)) λx y H Q h=>?_
 obtain⟨G,d,e,r,sub,hx,hy,er,k⟩:=h;subst hK;unfold IT at er;split at er
 ·cases hy.int;obtain⟨a,vs,rfl,h1,h2⟩:=hx.t sub;obtain⟨v,h3,h4⟩:=Rc h2 er;exact .inl (.inl (.inr (.inl ⟨a,vs,_,v,rfl,rfl,h1,h3,k v h4⟩)))
 ·cases hy.int;obtain⟨a,vs,rfl,h1,h2⟩:=hx.l sub;obtain⟨v,h3,h4⟩:=Rc h2 er;exact .inl (.inl (.inl ⟨a,vs,_,v,rfl,rfl,h1,h3,k v h4⟩))
 ·rename_i ks es
  cases hs:mF e with
  |none=>rw[hs] at er;cases er
  |some k0 =>
   rw[hs] at er;simp only[uH] at er;obtain⟨b0,rfl,kk⟩:=RT hs hy;obtain⟨a,xs,rfl,ds,pr,_⟩:=hx.cB sub;rcases Qi (k:=k0) pr with ⟨_,h2⟩ | ⟨p,n,v,h1,h2,h3,h4⟩
   ·rw[h2] at er;cases er
   ·rw[h2] at er;cases er;exact .inr ⟨a,b0,xs,k0,p,v,rfl,rfl,ds,DC.mono sub kk,h1,h3,k _ h4⟩
 ·rename_i ks es i;cases hy.int;obtain⟨a,vs,rfl,h1,h2,h3⟩:=hx.AG sub;rcases S7 i h2 h3 with ⟨_,q⟩ | ⟨d,v,q1,q2,q3⟩
  ·rw[q] at er;cases er
  ·rw[q2] at er;cases er;refine .inl (.inr ⟨a,v,rfl, ?_,k _ q3⟩);have g:=LM.k (k:=Sum.inl i) h1;rw[q1] at g;exact g
 ·split at er
  ·rename_i hz;cases hy.int;obtain⟨rfl,ok⟩:=hx.str
   cases q:fC ‹bA›.cps.toList ‹Int› with
   |none=>rw[q] at er;cases er
   |some c =>
    rw[q] at er;cases er;exact .inl (.inl (.inr (.inr ⟨_,_,c,rfl,rfl,vD hz (by decide),q,k _ (show jA X.K G (.str _) _ by simp only[jA];exact⟨trivial,sXa ok q⟩)⟩)))
  ·cases er
 ·cases er
def qe{lo hi:Option Int}(h:kA K G ds vs):kA K G (aAv ds lo hi) (AL vs lo hi):=by
 unfold aAv AL;rw[h.len];exact(h.drop _).take _
def hUa(K:fA):V->Option Int->Option Int->Hp->VK->Prop:=λx lo hi H Q=>∃G d v,fB G H/\lC K H G d x/\MX d lo hi=some v/\∀z H',aAF K H G v z H'->Q z H'
def pWa(hK:X.K=K):lK X (hUa K):=by
 intro aA s Y H x v vl vu lo hi sl Q I rx hs pl pu h;obtain⟨G,d,r,sub,hx,er,k⟩:=h;subst hK;refine lK.or oWa tWa aA s Y H x v vl vu lo hi sl Q I rx hs pl pu ?_;unfold MX at er;split at er
 ·cases er;obtain⟨a,vs,rfl,h1,h2⟩:=hx.l sub;exact .inl ⟨a,vs,rfl,h1,λp hp=>k _ _ (.inr (.inl ⟨_,_,p,rfl,hp,qe h2,rfl,rfl⟩))⟩
 ·rename_i ds;cases er;obtain⟨a,vs,rfl,h1,h2⟩:=hx.t sub;refine .inr ⟨a,vs,rfl,h1,λp hp=>k _ _ (W7 ⟨_,_,p,rfl,hp,qe h2,rfl,rfl⟩),λhw=>k _ _ (.inl ⟨_,rfl, ?_,rfl⟩)⟩
  have hc:aAv ds lo hi=ds:=by(unfold aAv;rw[<- h2.len,hw.1,hw.2,h2.len,bV,Ob,KR])
  rw[hc];rcases hx with hx | ⟨_,_,hx⟩
  ·exact hx
  ·exact hx.elim
 ·cases er
def aS(K:fA)(H G:Hp):List D->List V->Prop
 |[],xs=>xs=[]
 |d::ds,xs=>∃x r,xs=x::r/\lC K H G d x/\aS K H G ds r
def KG(h:aS K H G [d] xs):∃x,xs=[x]/\lC K H G d x:=by
 obtain⟨x,r,rfl,h1,h2⟩:=h;cases (show r=[] from h2);exact⟨x,rfl,h1⟩
def sUa(h:aS K H G [d,e] xs):∃x y,xs=[x,y]/\lC K H G d x/\lC K H G e y:=by
 obtain⟨x,r,rfl,h1,h2⟩:=h;obtain⟨y,rfl,h3⟩:=KG h2;exact⟨x,y,rfl,h1,h3⟩
def Nk(K:fA)(f:BI):List V->Hp->VK->Prop:=λxs H Q=>∃G ds v,fB G H/\aS K H G ds xs/\JF f ds=some v/\∀z H',aAF K H G v z H'->Q z H'
noncomputable def ZZ:BI->eA
 |.len=>.builtin "len"
 |.abs=>.builtin "abs"
 |.int=>.type "int"
 |.list=>.type "list"
 |.tuple=>.type "tuple"
 |.max=>.builtin "max"
 |.all=>.builtin "all"
 |.sum=>.builtin "sum"
theorem jd:∀{ds:List D} {vs:List V} {us:List eA} {bs:List Bool},kA K G ds vs->aAd vs us->pJ ds=some bs->LSm.BoolsAre us bs
 |[],_,_,_,h,r,e=>by
  simp only[kA] at h;subst h;cases r;cases e;exact .nil
 |d::ds,_,_,_,h,r,e=>by
  simp only[kA] at h;obtain⟨v,r',rfl,h1,h2⟩:=h
  cases r with
  |cons ra rb =>
   cases d<;>simp only[pJ,reduceCtorEq] at e;rename_i b
   cases q:pJ ds with
   |none=>rw[q] at e;cases e
   |some td =>
    rw[q] at e;cases e;simp only[jA] at h1;subst h1;cases ra;exact .cons b (jd h2 rb q)
def Fw(hc:X.A.handled=none):FF X (.builtin "all") (λxs H Q=>∃a vs ds bs G,xs=[.ref a]/\GB X.K H a vs/\kA X.K G ds vs/\pJ ds=some bs/\Q (.bl (bs.all id)) H):=by
 intro aA s Y H xs us Q I r h;obtain⟨a,vs,ds,bs,G,rfl,h1,h2,h3,q⟩:=h;obtain⟨u,rfl,rx⟩:=aAw r;cases rx;obtain⟨cA,rv,hl,z⟩:=rR I h1;have hb:=jd h2 rv h3;have sD:a<s.heap.objs.size:=by obtain⟨_,e,_⟩:=hl;exact yC e
 refine call_all_walk (SU hl ?_)
 refine⟨s.heap.objs.size,[s.heap.objs.size,a],[s.heap.objs.size],cA.toArray.size,_,_,λi=>(bs[i]?).getD true,rfl,Walks.list (A:=X.A.in1) hc _ a (sE sD) cA.toArray,
  ⟨⟨_,gF _ rfl,rfl,rfl⟩,hl.push _⟩,λi v s' Q' E' hP hQ=>?_,λh' tk hk=>?_⟩
 ·obtain⟨b,e,rfl⟩:=hb.get i v (by simpa using hP);simp only[e,Rq] at hQ;exact DM hQ
 ·have e:((UB cA.toArray.size).all λi=>(bs[i]?).getD true)=bs.all id:=by
   rw[UC,hb.length];exact LSm.range_all bs
  rw[e];exact⟨.bl _,H,I.kept (t':=tk) (LSm.kept_iter hk),rfl,q⟩
theorem SW:∀{ds:List D} {vs:List V} {us:List eA} {is:List Int},kA K G ds vs->aAd vs us->OC ds=some is->dJ us is
 |[],_,_,_,h,r,e=>by
  simp only[kA] at h;subst h;cases r;cases e;exact .nil
 |d::ds,_,_,_,h,r,e=>by
  simp only[kA] at h;obtain⟨v,r',rfl,h1,h2⟩:=h
  cases r with
  |cons ra rb =>
   cases d<;>simp only[OC,reduceCtorEq] at e;rename_i b
   cases q:OC ds with
   |none=>rw[q] at e;cases e
   |some td =>
    rw[q] at e;cases e;simp only[jA] at h1;subst h1;obtain⟨t,rfl⟩:=ra;exact .cons _ _ (SW h2 rb q)
def gJa(i:Int):∀(r:List Int),(r.foldl (λm y=>if y > m then y else m) i)∈i::r/\∀a∈i::r,a<=r.foldl (λm y=>if y > m then y else m) i:=by
 intro r
 induction r generalizing i with
 |nil=>exact⟨by simp,λa ha=>by simp at ha;simp;lia⟩
 |cons y r ih =>
  simp only[qP];obtain⟨h1,h2⟩:=ih (if y > i then y else i);refine⟨?_,λa ha=>?_⟩
  ·rcases pD.mp h1 with h | h
   ·rw[h];split
    ·simp
    ·simp
   ·exact RD _ (RD _ h)
  ·have h3:=h2 (if y > i then y else i) (by simp);have h4:i<=(if y > i then y else i):=by split<;>lia
   have h5:y<=(if y > i then y else i):=by split<;>lia
   rcases pD.mp ha with h | h
   ·rw[h];exact NY h4 h3
   ·rcases pD.mp h with h | h
    ·rw[h];exact NY h5 h3
    ·exact h2 a (RD _ h)
def Kw(hc:X.calm=true):FF X (.builtin "max") (λxs H Q=>∃a vs ds i r G,xs=[.ref a]/\GB X.K H a vs/\kA X.K G ds vs/\OC ds=some (i::r)/\Q (.int (r.foldl (λm y=>if y > m then y else m) i)) H):=by
 intro aA s Y H xs us Q I r h;obtain⟨a,vs,ds,i,ns,G,rfl,h1,h2,h3,q⟩:=h;obtain⟨u,rfl,rx⟩:=aAw r;cases rx;obtain⟨cA,rv,hl,z⟩:=rR I h1;have hi:=SW h2 rv h3;obtain⟨xs,e⟩:=hi.allInts.items
 have HH:i::ns=xs.toList.map (·.1):=by(rw[<- hi.numsOf,<- nums_intItems,<- e])
 have wB:0<xs.size:=by
  have h3:0<(i::ns).length:=by simp
  rw[HH,nA,jL] at h3;exact h3
 rw[e] at hl;refine max_intList (I.ok.hd hc) hl wB λv h' tk hv hk=>?_
 obtain⟨t,rfl⟩:=intItems_at hv;obtain⟨k1,k2⟩:=argBest_gt (numAt xs) (xs.size-1)
 have m1:numAt xs (argBest (λi j=>decide (numAt xs i > numAt xs j)) (xs.size-1))∈i::ns:=by(rw[HH,numAt_eq];exact getD_mem (by rw[nA,jL];omega))
 have m2:∀b∈i::ns,b<=numAt xs (argBest (λi j=>decide (numAt xs i > numAt xs j)) (xs.size-1)):=λb ha=>by(rw[HH] at ha;obtain⟨j,hj,rfl⟩:=mem_getD ha;rw[nA,jL] at hj;rw[<- numAt_eq];exact k2 j (by omega))
 obtain⟨m3,m4⟩:=gJa i ns;have e2:numAt xs (argBest (λi j=>decide (numAt xs i > numAt xs j)) (xs.size-1))=ns.foldl (λm y=>if y > m then y else m) i:=Int.le_antisymm (m4 _ m1) (m2 _ m3);refine⟨.int _,H,I.kept hk,⟨t,rfl⟩, ?_⟩;rw[e2];exact q
def Nw(hc:X.calm=true):FF X (.builtin "sum") (λxs H Q=>∃a vs ds ns G,xs=[.ref a]/\GB X.K H a vs/\kA X.K G ds vs/\OC ds=some ns/\Q (.int ns.sum) H):=by
 intro aA s Y H xs us Q I r h;obtain⟨a,vs,ds,ns,G,rfl,h1,h2,h3,q⟩:=h;obtain⟨u,rfl,rx⟩:=aAw r;cases rx;obtain⟨cA,rv,hl,z⟩:=rR I h1;have hi:=SW h2 rv h3;obtain⟨xs,e⟩:=hi.allInts.items
 have HH:ns=xs.toList.map (·.1):=by(rw[<- hi.numsOf,<- nums_intItems,<- e])
 rw[e] at hl;refine sum_intListG (I.ok.hd hc) hl λh' tk t' hk=>⟨.int _,H,I.kept hk,⟨t',rfl⟩, ?_⟩
 rw[preSum_eq,eJ (by simp),<- HH];exact q
def Sx(d:gA)(hd:(d==sysModules)=false):MeetsIn P w (yM.«dict.__len__» ⟨[.ref d],[]⟩) (λ_ R s=>∃xs ep,iC d xs ep s.heap/\R (.ok (.ret (.int xs.length s.toks))) { s with toks:=s.toks+1 }):=by
 refine .of_wp λA R s ⟨xs,ep,⟨o,es,ho,hc,tW,hk⟩,h⟩=>?_
 have e:es.size=xs.length:=by rw[<- jL,hk,nA]
 show sA _ _ ((dictEntries d>>=_)>>=_) _ _ s;refine rA (rA (Ta ho tW ?_));refine kB (rA (wpAny_pendingCount_other hd (wpAny_ret_mkInt ?_)));rw[Pb,e];exact h
def uVa(I:dA X aA Y H s)(d:DS X.K H a xs)(h:∀t s',dA X aA Y H s'->Q (.int xs.length t) s'):sA (model X.prog X.w) X.A (call (.builtin "len") [.ref a]) Q X.xe s:=by
 have hT:=DS.typeIs I d;have z:=d.len;rw[IP] at z;obtain⟨ep,e⟩:=d.at_;have hr:iC a xs ep s.heap:=(show ID X.prog X.w H s.heap a (.ext (iC a xs ep)) from I.KA a _ e).1;refine Calls.call_function_entry kind_len plain_len entry_len (args_len1 _) ?_;unfold yM.«len»
 refine rA (m:=oneArg "len" _) (kB (rA (m:=callSpecial? (.ref a) (wA "__len__")) (zR (name:=wA "__len__") hT Xp
  (call_meetsIn Xp hT PySem.F.entry_dict_len (PySem.F.args_dict_len_1 _) (Sx a d.sm) ⟨xs,ep,hr, ?_⟩))))
 refine rA (JN (kB (rA (wpAny_letGo ?_))));have h1:¬((xs.length:Nat):Int)<0:=by lia
 have h2:¬((xs.length:Nat):Int) >= 2 ^ 63:=by lia
 show sA _ _ (if((xs.length:Nat):Int)<0 then _ else _) _ _ _;rw[UA h1];show sA _ _ (if((xs.length:Nat):Int) >= 2 ^ 63 then _ else _) _ _ _;rw[UA h2];exact rA (Vb (kB ⟨_,rfl,h _ _ ((I.tok _).tok _)⟩))
def wZa:∀{xs:YH} {us:List eA},us.length=xs.length->(∀(j:Nat) v,us[j]?=some v->∃x,xs[j]?=some x/\v=.ref x.2.1)->aAd (xs.map λx=>V.ref x.2.1) us:=by
 intro xs
 induction xs with
 |nil =>
  intro us h k
  cases us with
  |nil=>exact .nil
  |cons _ _=>cases h
 |cons x xs ih =>
  intro us h k
  cases us with
  |nil=>cases h
  |cons u us =>
   obtain⟨_,e,q⟩:=k 0 u rfl;cases e;exact .cons q (ih (ur h) λj v e=>k (j+1) v e)
def tVa(hh:X.A.handled=none)(I:dA X aA Y H s)(d:DS X.K H a xs)(h:∀p s',H p=none->dA X aA Y (GA H p (.l (xs.map λx=>V.ref x.2.1))) s'->Q (.ref p) s'):sA (model X.prog X.w) X.A (call (.type "list") [.ref a]) Q X.xe s:=by
 obtain⟨ep,e⟩:=d.at_;refine PySem.W.kdl_call (qHa d.sm) hh (show ID X.prog X.w H s.heap a (.ext (iC a xs ep)) from I.KA a _ e).1 d.len λh' tk HF c' hk hS Nf=>?_
 refine h _ _ (I.KA.fresh (zB _)) (I.laid (o:=.l (xs.map λx=>V.ref x.2.1)) (t':=tk) hk (zB _) ⟨?_,HF.toList,c',wZa (by rw[jL];exact Nf.1) λj v e=>Nf.2 j v (by rw[<- Qp];exact e), ?_⟩)
 ·rw[nA];exact d.len
 ·rw[hS]
def gv(hK:X.K=K)(hc:X.calm=true)(hh:X.A.handled=none)(rm:KC 2 X.A)(f:BI):FF X (ZZ f) (Nk K f):=by
 intro aA s Y H xs us Q I r h;obtain⟨G,ds,v,sub,hx,e,k⟩:=h;subst hK
 cases f with
 |len =>
  obtain _ | ⟨d,_ | ⟨_,_⟩⟩:=ds
  ·exact(uB e).elim
  ·cases d with
   |l =>
    change some _=_ at e;cases e;obtain⟨x,rfl,h1⟩:=KG hx;obtain⟨a,vs,rfl,h2,h3⟩:=h1.l sub;exact Ld aA s Y H _ us Q I r ⟨a,vs,rfl,.inl h2,by rw[h3.len];exact k _ _ aAm⟩
   |t =>
    change some _=_ at e;cases e;obtain⟨x,rfl,h1⟩:=KG hx;obtain⟨a,vs,rfl,h2,h3⟩:=h1.t sub;exact Ld aA s Y H _ us Q I r ⟨a,vs,rfl,.inr h2,by rw[h3.len];exact k _ _ aAm⟩
   |cB =>
    change some _=_ at e;cases e;obtain⟨x,rfl,h1⟩:=KG hx;obtain⟨a,zs,rfl,h2,⟨h3,_⟩,_⟩:=h1.cB sub;obtain⟨u,rfl,ru⟩:=aAw r;cases ru;refine uVa I h2 λt s' I'=>⟨.int (zs.length:Int),H,I',⟨t,rfl⟩, ?_⟩
    rw[show zs.length=_ from(nA _).symm.trans (congrArg PH h3)];exact k _ _ aAm
   |str x =>
    change @ite _ (x.length<=1000000) (cl _) _ none=_ at e;split at e
    ·rename_i hz;cases e;obtain⟨x,rfl,h1⟩:=KG hx;obtain⟨rfl,_⟩:=h1.str;exact Iw aA s Y H _ us Q I r ⟨_,rfl,vD hz (by decide),k _ _ aAm⟩
    ·cases e
   |_=>exact(uB e).elim
  ·cases d<;>exact(uB e).elim
 |abs =>
  obtain _ | ⟨d,_ | ⟨_,_⟩⟩:=ds
  ·exact(uB e).elim
  ·cases d with
   |int =>
    change some _=_ at e;cases e;obtain⟨x,rfl,h1⟩:=KG hx;cases h1.int;exact Ew aA s Y H _ us Q I r ⟨_,rfl,k _ _ aAm⟩
   |_=>exact(uB e).elim
  ·cases d<;>exact(uB e).elim
 |int =>
  obtain _ | ⟨d,_ | ⟨_,_⟩⟩:=ds
  ·exact(uB e).elim
  ·cases d with
   |int =>
    change some _=_ at e;cases e;obtain⟨x,rfl,h1⟩:=KG hx;cases h1.int;exact Jd aA s Y H _ us Q I r (.inl ⟨_,rfl,k _ _ aAm⟩)
   |bl =>
    change some _=_ at e;cases e;obtain⟨x,rfl,h1⟩:=KG hx;cases h1.bl;exact Jd aA s Y H _ us Q I r (.inr ⟨_,rfl,k _ _ aAm⟩)
   |_=>exact(uB e).elim
  ·cases d<;>exact(uB e).elim
 |list =>
  obtain _ | ⟨d,_ | ⟨_,_⟩⟩:=ds
  ·exact(uB e).elim
  ·cases d with
   |l =>
    change some _=_ at e;cases e;obtain⟨x,rfl,h1⟩:=KG hx;obtain⟨a,vs,rfl,h2,h3⟩:=h1.l sub;exact Md aA s Y H _ us Q I r ⟨a,vs,rfl,.inl h2,λp hp=>k _ _ (.inr (.inl ⟨_,_,p,rfl,hp,h3,rfl,rfl⟩))⟩
   |t =>
    change some _=_ at e;cases e;obtain⟨x,rfl,h1⟩:=KG hx;obtain⟨a,vs,rfl,h2,h3⟩:=h1.t sub;exact Md aA s Y H _ us Q I r ⟨a,vs,rfl,.inr h2,λp hp=>k _ _ (.inr (.inl ⟨_,_,p,rfl,hp,h3,rfl,rfl⟩))⟩
   |cB =>
    change some _=_ at e;cases e;obtain⟨x,rfl,h1⟩:=KG hx;obtain⟨a,zs,rfl,h2,⟨h3,_⟩,h4⟩:=h1.cB sub;obtain⟨u,rfl,ru⟩:=aAw r;cases ru;exact tVa hh I h2 λp s' hp I'=>⟨.ref p,_,I',rfl,k _ _ (.inr (.inl ⟨_,_,p,rfl,hp,h3 ▸ ml h4,rfl,rfl⟩))⟩
   |_=>exact(uB e).elim
  ·cases d<;>exact(uB e).elim
 |tuple =>
  obtain _ | ⟨d,_ | ⟨_,_⟩⟩:=ds
  ·exact(uB e).elim
  ·cases d with
   |l =>
    change some _=_ at e;cases e;obtain⟨x,rfl,h1⟩:=KG hx;obtain⟨a,vs,rfl,h2,h3⟩:=h1.l sub;exact Nd aA s Y H _ us Q I r ⟨a,vs,rfl,.inl ⟨h2,λp hp=>k _ _ (W7 ⟨_,_,p,rfl,hp,h3,rfl,rfl⟩)⟩⟩
   |t =>
    change some _=_ at e;cases e;obtain⟨x,rfl,h1⟩:=KG hx;have uJ:=h1;obtain⟨a,vs,rfl,h2,h3⟩:=h1.t sub;refine Nd aA s Y H _ us Q I r ⟨a,vs,rfl,.inr ⟨h2, ?_⟩⟩;rcases uJ with uJ | ⟨_,_,uJ⟩
    ·exact k _ _ (.inl ⟨_,rfl,uJ,rfl⟩)
    ·exact uJ.elim
   |_=>exact(uB e).elim
  ·cases d<;>exact(uB e).elim
 |max =>
  obtain _ | ⟨d,_ | ⟨d2,_ | ⟨_,_⟩⟩⟩:=ds
  ·exact(uB e).elim
  ·cases d with
   |l ds =>
    change (match OC ds with | some (i::r)=>some (RV.sh (.int (r.foldl (λm y=>if y > m then y else m) i))) | _=>none)=_ at e;split at e
    ·rename_i i r' q;cases e;obtain⟨x,rfl,h1⟩:=KG hx;obtain⟨a,vs,rfl,h2,h3⟩:=h1.l sub;exact Kw hc aA s Y H _ us Q I r ⟨a,vs,ds,i,r',G,rfl,h2,h3,q,k _ _ aAm⟩
    ·cases e
   |_=>exact(uB e).elim
  ·cases d with
   |int =>
    cases d2 with
    |int =>
     change some _=_ at e;cases e;obtain⟨x,y,rfl,h1,h2⟩:=sUa hx;cases h1.int;cases h2.int;exact Jw hc aA s Y H _ us Q I r ⟨_,_,rfl,k _ _ aAm⟩
    |_=>exact(uB e).elim
   |_=>exact(uB e).elim
  ·cases d with
   |int=>cases d2<;>exact(uB e).elim
   |_=>exact(uB e).elim
 |sum =>
  obtain _ | ⟨d,_ | ⟨_,_⟩⟩:=ds
  ·exact(uB e).elim
  ·cases d with
   |l ds =>
    change (OC ds).map _=_ at e
    cases q:OC ds with
    |none=>rw[q] at e;cases e
    |some ns =>
     rw[q] at e;cases e;obtain⟨x,rfl,h1⟩:=KG hx;obtain⟨a,vs,rfl,h2,h3⟩:=h1.l sub;exact Nw hc aA s Y H _ us Q I r ⟨a,vs,ds,ns,G,rfl,h2,h3,q,k _ _ aAm⟩
   |_=>exact(uB e).elim
  ·cases d<;>exact(uB e).elim
 |all =>
  obtain _ | ⟨d,_ | ⟨_,_⟩⟩:=ds
  ·exact(uB e).elim
  ·cases d with
   |l ds =>
    change (pJ ds).map _=_ at e
    cases q:pJ ds with
    |none=>rw[q] at e;cases e
    |some bs =>
     rw[q] at e;cases e;obtain⟨x,rfl,h1⟩:=KG hx;obtain⟨a,vs,rfl,h2,h3⟩:=h1.l sub;exact Fw hh aA s Y H _ us Q I r ⟨a,vs,ds,bs,G,rfl,h2,h3,q,k _ _ zIa⟩
   |_=>exact(uB e).elim
  ·cases d<;>exact(uB e).elim
def Mw(hc:X.calm=true):FF X (.type "set") (λxs H Q=>∃a vs ds is G,xs=[.ref a]/\GB X.K H a vs/\kA X.K G ds vs/\OC ds=some is/\is.length<=1000/\∀p S,H p=none->Q (.ref p) (GA H p (.set S (firstMet (λi=>is.getD i 0) is.length).length))):=by
 intro aA s Y H xs us Q I r h;obtain⟨a,vs,ds,is,G,rfl,h1,h2,h3,hz,q⟩:=h;obtain⟨u,rfl,rx⟩:=aAw r;cases rx;obtain⟨cA,rv,hl,z⟩:=rR I h1;have hi:=SW h2 rv h3;have wB:cA.toArray.size=is.length:=by rw[UC];exact hi.length
 refine call_set_list (I.ok.hd hc) hl hi (by rw[wB];exact Nat.lt_of_le_of_lt (Nat.add_le_add_right hz 1) (by decide)) λh' tk hS hk=>?_
 rw[wB] at hS;exact⟨.ref s.heap.objs.size,_,I.laid (o:=.set (λk'=>(firstMet (λi=>is.getD i 0) is.length).any (· == k')) (firstMet (λi=>is.getD i 0) is.length).length) (t':=tk) (λb o e=>hk b o (yC e) e) (zB _) hS,rfl,q _ _ (I.KA.fresh (zB _))⟩
def Hw:FF X (.builtin "len") (λxs H Q=>∃p S n,xs=[.ref p]/\H p=some (.set S n)/\Q (.int n) H):=by
 intro aA s Y H xs us Q I r h;obtain⟨p,S,n,rfl,hp,q⟩:=h;obtain⟨u,rfl,rx⟩:=aAw r;cases rx;obtain⟨o,es,ep,t,ho,hex,hd,_,_,hb,hf,rfl⟩:=I.KA p _ hp;refine call_len_set ho hex hd hf (by have:es.size<4096:=hb;lia) ⟨.int es.size,H,I.tok _,⟨_,rfl⟩,q⟩
noncomputable def S9:Ty->V
 |.int=>.ty "int"
 |.bool=>.ty "bool"
 |.tuple=>.ty "tuple"
def yDa(hK:X.K=K)(t:Ty):FF X (.builtin "isinstance") (λxs H Q=>∃G d x b,fB G H/\xs=[x,S9 t]/\lC K H G d x/\Q6 t d=some b/\Q (.bl b) H):=by
 intro aA s Y H xs us Q I r h;obtain⟨G,d,x,b,sub,rfl,hx,e,q⟩:=h;subst hK;obtain⟨u,w,rfl,rx,nM⟩:=aAQ r;have iB:∀tk,EP X aA Y Q (.bool b) { s with toks:=tk }:=λtk=>⟨.bl b,H,I.tok tk,rfl,q⟩
 cases t<;>cases d<;>cases e<;>(try (cases (show w=_ from nM)))
 all_goals
  first
   | (cases hx.iA;cases (show u=Value.none from rx);exact tP PySem.W.kitx_none I.jE True.intro (by rfl) (λz=>nomatch z) iB)
   | (cases hx.bl;cases (show u=Value.bool _ from rx);exact tP PySem.W.kitx_bool I.jE True.intro (by rfl) (λz=>nomatch z) iB)
   | (cases hx.int;obtain⟨t,q'⟩:=(show ∃t,u=Value.int _ t from rx);cases q';exact tP PySem.W.kitx_int I.jE True.intro (by rfl) (λz=>nomatch z) iB)
   | (obtain⟨rfl,_⟩:=hx.str;obtain⟨t,q'⟩:=(show ∃t,u=Value.str _ t from rx);cases q';exact tP PySem.W.kitx_str I.jE True.intro (by rfl) (λz=>nomatch z) iB)
   | (obtain⟨a,vs,rfl,h2,h3⟩:=hx.l sub;cases (show u=Value.ref a from rx);obtain⟨cA,_,⟨o,n,h4,h5,_⟩,_⟩:=I.list h2;exact tP PySem.W.kitx_list I.jE ⟨o,h4,h5⟩ (by rfl) (λz=>nomatch z) iB)
   | (obtain⟨a,C,p,rfl,h2,h3,h4,_⟩:=hx.ZM sub;cases (show u=Value.ref a from rx);exact tP (i3a h3) I.jE (I.KA a _ h4).1 (h3a h3) (λz=>nomatch z) iB)
   | (obtain⟨a,vs,rfl,h2,h3⟩:=hx.t sub;cases (show u=Value.ref a from rx);obtain⟨cA,_,⟨o,h4,h5,_⟩,_⟩:=I.tuple h2;exact tP PySem.W.kitx_tuple I.jE ⟨o,h4,h5⟩ (by rfl) (λz=>nomatch z) iB)
end
section
variable{X:Cx}{aA:List (gA×DB)}{Y:L2.St}{H:Hp}{s:EA}{h':JB}
def aDa(I:dA X aA Y H s)(k:∀b u,b≠e->b≠it->s.heap.get? b=some u->h'.get? b=some u)(fe:FD X aA H e)(fi:FD X aA H it)(hp:s.heap.objs.size<=p)
  (new:ID X.prog X.w (GA H p o) h' p o):dA X aA Y (GA H p o) { s with heap:=h',toks:=t' }:=by
 have hn:H p=none:=I.KA.fresh hp;have ne:∀{b:gA} {u:HO},H b=some u->b≠e/\b≠it:=λq=>⟨pG q fe.1,pG q fi.1⟩
 have nc:∀{b:gA},b ∉ [e,it]->b≠e/\b≠it:=λhc=>⟨λz=>hc (by simp[z]),λz=>hc (by simp[z])⟩
 refine I.step (g':=s.gens) (d':=s.drawn) (ch:=[e,it]) (λb hb=>?_) (λb o _ _ hc q _=>k b o (nc hc).1 (nc hc).2 q) (λb o _ _ hc q _=>⟨o.slots,k b o (nc hc).1 (nc hc).2 q⟩)
  (λb o _ q n=>by rw[BB (sE (vG (yC q) hp))];exact n)
  (λb o hc q=>⟨o,k b o (nc hc).1 (nc hc).2 q⟩) (λb xs q=>by rw[BB (pG q hn)];exact q) (λb o u q=>by rw[BB (pG q hn)];exact q) (λb ps q=>⟨#[],by rw[BB (pG q hn),q];simp⟩) (λm hm=>?_) (λb u q=>?_) I.bare
 ·have hb:b=e\/b=it:=by simpa using hb
  rcases hb with rfl | rfl
  ·exact⟨fe.2.2.2.1,fe.2.1,fe.2.2.2.2.1,fe.2.2.2.2.2⟩
  ·exact⟨fi.2.2.2.1,fi.2.1,fi.2.2.2.2.1,fi.2.2.2.2.2⟩
 ·obtain⟨o,es,ep,ho,r⟩:=hm;exact⟨o,es,ep,k _ o (HE fe.2.1) (HE fi.2.1) ho,r⟩
 ·by_cases hb:b=p
  ·subst hb;rw[TC] at q;cases q;exact new
  ·rw[BB hb] at q;refine(I.KA b u q).jH (λc v hc z=>?_) (λc q=>by rw[BB (pG q hn)];exact q) λc xs q=>by rw[BB (pG q hn)];exact q
   have iI:c≠e/\c≠it:=by
    rcases hc with w | w
    ·rw[w];exact ne q
    ·exact ne w
   exact k c v iI.1 iI.2 z
def cDa(I:dA X aA Y H s)(k:∀b u,b≠e->b≠it->s.heap.get? b=some u->h'.get? b=some u)(fe:FD X aA H e)(fi:FD X aA H it):dA X aA Y H { s with heap:=h',toks:=t' }:=by
 have ne:∀{b:gA} {u:HO},H b=some u->b≠e/\b≠it:=λq=>⟨pG q fe.1,pG q fi.1⟩
 have nc:∀{b:gA},b ∉ [e,it]->b≠e/\b≠it:=λhc=>⟨λz=>hc (by simp[z]),λz=>hc (by simp[z])⟩
 refine I.step (g':=s.gens) (d':=s.drawn) (ch:=[e,it]) (λb hb=>?_) (λb o _ _ hc q _=>k b o (nc hc).1 (nc hc).2 q) (λb o _ _ hc q _=>⟨o.slots,k b o (nc hc).1 (nc hc).2 q⟩)
  (λ_ _ _ _ n=>n) (λb o hc q=>⟨o,k b o (nc hc).1 (nc hc).2 q⟩) (λ_ _ q=>q) (λ_ _ _ q=>q) (λb ps q=>⟨#[],by rw[q];simp⟩) (λm hm=>?_) (λb u q=>?_) I.bare
 ·have hb:b=e\/b=it:=by simpa using hb
  rcases hb with rfl | rfl
  ·exact⟨fe.2.2.2.1,fe.2.1,fe.2.2.2.2.1,fe.2.2.2.2.2⟩
  ·exact⟨fi.2.2.2.1,fi.2.1,fi.2.2.2.2.1,fi.2.2.2.2.2⟩
 ·obtain⟨o,es,ep,ho,r⟩:=hm;exact⟨o,es,ep,k _ o (HE fe.2.1) (HE fi.2.1) ho,r⟩
 ·refine(I.KA b u q).jH (λc v hc z=>?_) (λ_ q=>q) λ_ _ q=>q
  have iI:c≠e/\c≠it:=by
   rcases hc with w | w
   ·rw[w];exact ne q
   ·exact ne w
  exact k c v iI.1 iI.2 z
end
section
variable{prog:bE}{w:IC}{A:sG}{E:eA->EA->Prop}{s:EA}
def dy{Q:eA->EA->Prop}(q1:YJ s.heap e it c old)(q2:s.heap.IsListIter it l i)(q3:s.heap.IsList l us)(q4:us[i]?=some u)(ne:e≠it)
  (k:∀g,IsEnumOut g e it (c+1) u s.heap.objs.size->g.IsListIter it l (i+1)->g.get? s.heap.objs.size=some { cls:=.type "tuple",data:=.seq #[.int c s.toks,u] }->(∀b o,b≠e->b≠it->s.heap.get? b=some o->g.get? b=some o)->Q (.ref s.heap.objs.size) { s with heap:=g,toks:=s.toks+1 }) :
  sA (model prog w) A (yM.«enumerate.__next__» ⟨[.ref e],[]⟩) (λiB s'=>∃v,iB=.done (.ret v)/\Q v s') E s:=by
 obtain⟨m0,ge,dr,tk,os⟩:=s;refine rA (m:=field (.ref e) 2) (xI q1 rfl (x:=.ref it) rfl (rA (wpAny_nextOf_list_item q2 q3 q4 λm1 t1 b1=>?_)));have b1:FI it m0 m1:=b1;have e1:YJ m1 e it c old:=(b1.2 e ne).trans q1;refine rA (m:=field (.ref e) 3) (xI e1 rfl (x:=rawInt c) rfl (rA (m:=field (.ref e) 4) (xI e1 rfl (x:=.none) rfl (rA (m:=mkInt c) (Vb ?_)))));refine rA (m:=setField (.ref e) 3 (rawInt (c+1))) (QU e1 (by simp) λm2 e2 b2=>?_);have b2:FI e m1 m2:=b2;have e2:YJ m2 e it (c+1) old:=e2;refine rA (m:=setField (.ref e) 4 .none) (QU e2 (by simp) λm3 e3 b3=>?_);have b3:FI e m2 m3:=b3;have e3:YJ m3 e it (c+1) old:=e3;refine rA (m:=newTuple [.int c tk,u]) (wpAny_newTuple ?_);have n3:m3.objs.size=m0.objs.size:=by rw[b3.1,b2.1,b1.1]
 have lt:e<m0.objs.size:=yC q1;obtain⟨m4,z4⟩:∃m4,m3.push { cls:=.type "tuple",data:=.seq #[.int c tk,u] }=m4:=⟨_,rfl⟩
 have e4:YJ m4 e it (c+1) old:=z4 ▸ jD _ e3;have p4:m4.get? m0.objs.size=some { cls:=.type "tuple",data:=.seq #[.int c tk,u] }:=z4 ▸ n3 ▸ gF _ rfl;have k4:∀b o,b≠e->b≠it->m0.get? b=some o->m4.get? b=some o:=λb o x y q=>z4 ▸ jD _ (b3.extBut b o x (b2.extBut b o x (b1.extBut b o y q)))
 have t4:m4.IsListIter it l (i+1):=by(obtain⟨o,ho,r⟩:=(t1.extBut b2.extBut ne.symm).extBut b3.extBut ne.symm;exact⟨o,z4 ▸ jD _ ho,r⟩)
 rw[n3,z4];refine rA (m:=Zo (.ref e)) ?_;unfold Zo;refine rA (xI e4 rfl (x:=.none) rfl (kB ?_));simp only[if_true];refine rA (jc (rA (xI e4 rfl (x:=old) rfl (rA (QU e4 (by simp) λm5 e5 b5=>?_)))));have b5:FI e m4 m5:=b5;have e5:YJ m5 e it (c+1) u:=e5;refine rA (m:=Yo (.ref e) (.ref m0.objs.size)) ?_;unfold Yo;refine rA (QU e5 (by simp) λm6 e6 b6=>?_);have b6:FI e m5 m6:=b6;have e6:IsEnumOut m6 e it (c+1) u m0.objs.size:=e6;refine QU e6 (by simp) λm7 e7 b7=>?_
 have b7:FI e m6 m7:=b7;have st:∀b o,b≠e->m4.get? b=some o->m7.get? b=some o:=λb o x q=>b7.extBut b o x (b6.extBut b o x (b5.extBut b o x q))
 refine rA (wpAny_letGo (kB ⟨_,rfl,k m7 e7 ?_ (st _ _ (KY lt) p4) λb o x y q=>st b o x (k4 b o x y q)⟩));exact((t4.extBut b5.extBut ne.symm).extBut b6.extBut ne.symm).extBut b7.extBut ne.symm
def gy(q1:YJ s.heap e it c old)(q2:s.heap.IsListIter it l i)(q3:s.heap.IsList l us)(q4:us[i]?=some u)(ne:e≠it)
  (k:∀g,IsEnumOut g e it (c+1) u s.heap.objs.size->g.IsListIter it l (i+1)->g.get? s.heap.objs.size=some { cls:=.type "tuple",data:=.seq #[.int c s.toks,u] }->(∀b o,b≠e->b≠it->s.heap.get? b=some o->g.get? b=some o)->Q (some (.ref s.heap.objs.size)) { s with heap:=g,toks:=s.toks+1 }) :
  sA (model prog w) A (pyNext (.ref e)) Q E s :=
 have ty:s.TypeIs (.ref e) "enumerate":=⟨_,q1,rfl⟩
 rA (Eb (zR (name:=wA "__next__") ty pY (HR pY ty Kp (dy q1 q2 q3 q4 ne λg a b c d=>kB (k g a b c d)) (Ep _))))
def iy(hh:A.handled=none)(q1:YJ s.heap e it c old)(q2:s.heap.IsListIter it l i)(q3:s.heap.IsList l us)(q4:us[i]?=none)
  (k:∀g,Heap.ExtBut it s.heap g->Q none { s with heap:=g }):sA (model prog w) A (pyNext (.ref e)) Q E s:=by
 have ty:s.TypeIs (.ref e) "enumerate":=⟨_,q1,rfl⟩
 refine rA (Eb (zR (name:=wA "__next__") ty pY (HR pY ty Kp ?_ (Ep _))));refine rA (m:=field (.ref e) 2) (xI q1 rfl (x:=.ref it) rfl (rA (wpAny_nextOf_list_end hh q2 q3 q4 λg x ex px=>?_)));obtain⟨o,ho,hc⟩:=px;exact rA (Ya (T:="StopIteration") (b:=true) ⟨o,ho,hc⟩ isSubtype_stop (kB (k _ ex)))
end
def cy(l:gA)(us:Array eA)(n:Nat)(V0:Option gA)(sl:Array (Option eA))(c:Int)(t:uG)(hc:ip c=true) :
  Meets (yM.«enumerate.__new__» ⟨[.type "enumerate",.ref l],[("start",.int c t)]⟩) (λ_ R s=>s.heap.get? l=some { cls:=.type "list",dict:=V0,data:=.seq us n,slots:=sl } /\
   R (.ok (.ret (.ref (s.heap.push { cls:=.type "list_iterator",data:=.fields #[.ref l,.int 0 0] }).objs.size)))
    { s with heap:=(s.heap.push { cls:=.type "list_iterator",data:=.fields #[.ref l,.int 0 0] }).push { cls:=.type "enumerate",data:=.fields #[.none,.bool false,.ref s.heap.objs.size,rawInt c,.none,.none] } }) :=
 .of_wp λprog w A R s h=>by
  obtain⟨hp,g,d,tk,os⟩:=s;obtain⟨hl,h⟩:=h;have sb:=sub_enumerate;have S6:Heap.IsList (Shared.heap ⟨hp,g,d,tk,os⟩) l us:=⟨_,hl,rfl,n,rfl⟩
  wp_walk using lY hl
  refine wpAny_stack_any λst=>kB ?_
  split
  ·rename_i v _ _ _ _ _;cases (v==Value.type "enumerate")
   ·wp_walk using lY hl,SU S6
    exact⟨_,rfl,h⟩
   ·wp_walk using lY hl,SU S6
    exact⟨_,rfl,h⟩
  ·wp_walk using lY hl,SU S6
   exact⟨_,rfl,h⟩
def Yx(a:eA)(c:Int)(t:uG):checkTypeCall "enumerate" ⟨[a],[("start",.int c t)]⟩=pure ():=by kernel_rfl
def Zx(a:eA)(c:Int)(t:uG):checkBuiltinCall "enumerate.__new__" ⟨[.type "enumerate",a],[("start",.int c t)]⟩=pure ():=by kernel_rfl
def ay:Meets (yM.«object.__init__» ⟨[a,b],kw⟩) (λ_ R s=>s.TypeIs a "enumerate"/\R (.ok (.ret .none)) s):=by
 refine Meets.of_wp λprog w A R s hs=>?_
 obtain⟨ty,hq⟩:=hs;have hl:typeLookup (.type "enumerate") "__init__"=pure (some (.builtin "object.__init__")):=Ma.init.lookup;have hm:=Ma.made;have bD:(some "enumerate.__new__" != some "object.__new__")=true:=by decide
 repeat (any_goals (first | assumption | wp_step))
 exact⟨_,rfl,hq⟩
def Xx(a b:eA)(c:Int)(t:uG):argsOk "object.__init__" ⟨[a,b],[("start",.int c t)]⟩:=by
 unfold argsOk;rw[signature?_of (id:="object.__init__") (n:="__init__".toList.reverse) (o:="object".toList.reverse) (by kernel_rfl) F.owner_object]
 kernel_rfl
section
variable{prog:bE}{w:IC}{A:sG}{E:eA->EA->Prop}{s:EA}
def jy(hc:ip c=true)(q:s.heap.IsList l us)
  (k:∀g,YJ g (s.heap.objs.size+1) s.heap.objs.size c .none->g.IsListIter s.heap.objs.size l 0->(∀b o,s.heap.get? b=some o->g.get? b=some o)->Q (.ref (s.heap.objs.size+1)) { s with heap:=g }) :
  sA (model prog w) A (call (.type "enumerate") [.ref l] [("start",.int c t)]) Q E s:=by
 have ft:=Ma;obtain⟨c0,tl,l2a⟩:=ft.mro;have j2a:=ft.made;have s2a:=ft.sub;obtain⟨⟨cl,V0,dt,sl⟩,hl,fD,n,hd⟩:=q;have fD:cl=.type "list":=fD;have hd:dt=.seq us n:=hd;subst fD hd;refine UY (codeAny_of_tree ?_);change sA _ _ (callAny (.type "enumerate") _) _ _ _;refine kB ⟨Code.quiet_builtin _ (by decide +kernel),ub F.entry_type_call ?_⟩;rw[Around.under_plain (weight_type_call_type "enumerate" _ _) (units_type_call_type "enumerate" _ _)];have h1:=ft.notType;have h2:=ft.canCreate;have h3:=Yx (.ref l) c t
 repeat (any_goals (first | assumption | wp_step))
 refine GP (iq ft.plain F.entry_enumerate_new (wpAny_of_eq (Zx (.ref l) c t) (cy l us n V0 sl c t hc prog w A.in1 (wants (λobj s1=>s1.TypeIs obj "enumerate"/\Q obj s1) E) s ⟨hl, ?_⟩))) λr s1 hr=>?_
 ·have hz:(s.heap.push { cls:=.type "list_iterator",data:=.fields #[.ref l,.int 0 0] }).objs.size=s.heap.objs.size+1:=EY ..;change _/\_;rw[hz]
  have he:YJ ((s.heap.push { cls:=.type "list_iterator",data:=.fields #[.ref l,.int 0 0] }).push { cls:=.type "enumerate",data:=.fields #[.none,.bool false,.ref s.heap.objs.size,rawInt c,.none,.none] }) (s.heap.objs.size+1) s.heap.objs.size c .none:=by
   have x:=gF (s.heap.push { cls:=.type "list_iterator",data:=.fields #[.ref l,.int 0 0] }) (o:={ cls:=.type "enumerate",data:=.fields #[.none,.bool false,.ref s.heap.objs.size,rawInt c,.none,.none] }) rfl
   rwa[hz] at x
  exact⟨⟨_,he,rfl⟩,k _ he ⟨_,jD _ (gF _ rfl),rfl,rfl⟩ λb o x=>jD _ (jD _ x)⟩
 ·cases r with
  |error e=>exact hr
  |ok fl =>
   cases fl with
   |ret obj =>
    have hT:s1.TypeIs obj "enumerate":=hr.1;have hli:=ft.init.lookup;have hbi:=ft.init.bind obj
    repeat (any_goals (first | assumption | wp_step))
    refine GP (iq ft.init.plain F.entry_object_init (ft.init.check _ _ _ _ _ _ _ _ hT (Xx obj (.ref l) c t) (ay prog w A.in1 (wants (λr s2=>r=.none/\Q obj s2) E) s1 ⟨hT,rfl,hr.2⟩))) λr2 s2 UL=>?_
    cases r2 with
    |error e=>exact UL
    |ok t_ =>
     cases t_ with
     |ret r =>
      obtain⟨rfl,hq⟩:=UL
      repeat (any_goals (first | assumption | wp_step))
     |_=>exact UL.elim
   |_=>exact hr.elim
end
noncomputable def dZ(K:fA)(a:gA)(lo:Int):It :=
 ⟨λi H=>∃xs x,GB K H a xs/\xs[i]?=some x,λi H x H'=>∃p y,H p=none/\x=.ref p/\H'=GA H p (.t [.int (lo+(i:Int)),y])/\∀xs,GB K H a xs->xs[i]?=some y,λi H=>∃xs,GB K H a xs/\xs.length<=i⟩
def Ao{K:fA}(a e it:gA)(lo:Int)(Zf:e≠it):Turn P w K (.Tuple elts k0 pos) (dZ K a lo) [e,it] e (λi h=>(∃old,YJ h e it (lo+(i:Int)) old)/\h.IsListIter it a i) where
 mem:=by simp
 obj:=λi h st b hb=>by
  obtain⟨⟨old,h1⟩,o,h2,c,d⟩:=st;have hb:b=e\/b=it:=by simpa using hb
  rcases hb with rfl | rfl
  ·exact⟨_,h1,λv z=>by
    have z':Data.fields _=Data.cell v:=z
    cases z'⟩
  ·exact⟨o,h2,λv z=>by rw[d] at z;cases z⟩
 keep:=λi h h' st k=>by(obtain⟨⟨old,h1⟩,h2⟩:=st;exact⟨⟨old,k e (by simp) _ h1⟩,h2.at λo q=>k it (by simp) o q⟩)
 item:=by
  intro X hP hw hK hc i aA s Y H E I hf st hg;subst hP hw hK;obtain⟨xs,x,hq,hx⟩:=hg;obtain⟨cA,rv,p,hz⟩:=I.list hq;obtain⟨u,hu,ru⟩:=rv.get hx;obtain⟨⟨old,he⟩,hit⟩:=st;have fe:=hf e (by simp);have fi:=hf it (by simp);refine gy he hit p.isList (by simpa using hu) Zf λh' ho xW hT hk=>?_
  refine⟨_,rfl,wpAny_letOwnedTupleGo_enum ho λh2 he2 oE=>?_⟩;have uW:e<s.heap.objs.size:=yC he;have aBa:it<s.heap.objs.size:=by obtain⟨_,q,_⟩:=hit;exact yC q
  have ke:∀b u,b≠e->b≠it->s.heap.get? b=some u->h2.get? b=some u:=λb u n1 n2 q=>(oE.2 b n1).trans (hk b u n1 n2 q)
  have V':h2.get? s.heap.objs.size=some { cls:=.type "tuple",data:=.seq #[.int (lo+(i:Int)) s.toks,u] }:=(oE.2 _ (KY uW)).trans hT;have CJ:H s.heap.objs.size=none:=I.KA.fresh (zB _);have I2:dA X aA Y (GA H s.heap.objs.size (.t [.int (lo+(i:Int)),x])) { s with heap:=h2,toks:=s.toks+1 }:=aDa I ke fe fi (zB _) ⟨by rw[IP];simp,[.int (lo+(i:Int)) s.toks,u],.cons ⟨_,rfl⟩ (.cons ru .nil),⟨_,V',rfl,_,rfl⟩⟩;refine⟨.ref s.heap.objs.size,GA H s.heap.objs.size (.t [.int (lo+(i:Int)),x]),I2,rfl,⟨s.heap.objs.size,x,CJ,rfl,rfl,λys hy=>by rw[I.Ni hy hq];exact hx⟩,⟨⟨_,by rw[YU,Int.natCast_one,<- Int.add_assoc];exact he2⟩,xW.at λo q=>(oE.2 it Zf.symm).trans q⟩,λb hb=>?_⟩
  ·have hb:b=e\/b=it:=by simpa using hb
   rcases hb with rfl | rfl
   ·rw[BB (sE uW)];exact fe.1
   ·rw[BB (sE aBa)];exact fi.1
 done:=by(intro X hP hw hK hc i aA s Y H E I hf st hg;subst hP hw hK;obtain⟨xs,hq,hx⟩:=hg;obtain⟨cA,rv,p,hz⟩:=I.list hq;obtain⟨⟨old,he⟩,hit⟩:=st;have hl:=rv.length;exact iy (I.ok.hd hc) he hit p.isList (by simp;lia) λh' eb=>⟨rfl,cDa (t':=s.toks) I (λb o _ n2 q=>eb b o n2 q) (hf e (by simp)) (hf it (by simp))⟩)
 self:=λ_ _ _ _ _ st h=>by(obtain⟨⟨old,he⟩,_⟩:=st;exact Ua he h)
section
variable{X:Cx}
def D6(K:fA)(lo:Int)(ta:TA):TI:=λY H R=>ta Y H λvs H1=>∃a,vs=[.ref a]/\(∃xs,GB K H1 a xs)/\R (dZ K a lo) H1
def kd:bL "enumerate"=some (.type "enumerate"):=by decide +kernel
def ek{ta:TA}(hg:Gl X "enumerate")(hm:X.mg "enumerate"=none)(ha:PA X [a] ta)(hs:bC [a] X.env=[(false,eval a X.env)]:=by rfl):PI X (.Tuple elts k0 dZa) (.Call (.Name "enumerate" p) [a] [] pos) (D6 X.K 0 ta):=by
 intro aA s Y H R I h;refine Call_ (iN I hg hm kd (JU (RA (ha pos aA s Y H _ I h) λus s1 hz=>?_) hs rfl));obtain⟨vs,H1,I1,r1,q1⟩:=hz;obtain⟨l,e,⟨xs,hq⟩,q⟩:=q1;subst e
 cases r1 with
 |cons r rr =>
  cases rr;cases r;obtain⟨cA,rv,p,hz⟩:=I1.list hq;refine call_enumerate_list p.isList λh' he hit wB hk=>?_
  have I2:dA X aA Y H1 { s1 with heap:=h' }:=I1.kept (t':=s1.toks) hk;refine Ua he ?_;refine⟨s1.heap.objs.size+1,[s1.heap.objs.size+1,s1.heap.objs.size],_,_,H1,rfl,I2,Ao l _ _ 0 (Sq _),⟨⟨_,by simpa using he⟩,hit⟩,λb hb=>?_,q⟩;have hb:b=s1.heap.objs.size+1\/b=s1.heap.objs.size:=by simpa using hb
  rcases hb with rfl | rfl
  ·exact I1.GL (jV _) (I1.KA.fresh (jV _))
  ·exact I1.GL (zB _) (I1.KA.fresh (zB _))
def uQa{j:Nat}(hg:Gl X "enumerate")(hm:X.mg "enumerate"=none)(ha:PA X [a] ta)(hs:bC [a] X.env=[(false,eval a X.env)]:=by rfl) :
  PI X (.Tuple elts k0 dZa) (.Call (.Name "enumerate" p) [a] [⟨some "start",.Constant (.int 1) j kq,kp⟩] pos) (D6 X.K 1 ta):=by
 intro aA s Y H R I h;refine DR (iN I hg hm kd ?_);refine PySem.W.callWith_of (P:=λ_=>True) (by rw[hs];rfl) (λ_ _=>⟨.machine,.inr (.inl rfl),PySem.W.Looks.now⟩) (evalArgs_kw2 rfl (RA (ha pos aA s Y H _ I h) λus s1 hz=>?_) hs);obtain⟨vs,H1,I1,r1,q1⟩:=hz;obtain⟨l,e,⟨xs,hq⟩,q⟩:=q1;subst e
 cases r1 with
 |cons r rr =>
  cases rr;cases r;refine RA (aRa (nm:=some "start") (kpos:=kp) (Tj (i:=1) (pos:=kq)) bRa pos aA s1 Y H1 (λzs H2=>zs=[.int 1]/\H2=H1) I1 ⟨rfl,rfl⟩) λws s2 ⟨zs,H2,I2,rz,ez,eh⟩=>⟨trivial, ?_⟩
  subst ez eh
  cases rz with
  |cons rz rn =>
   cases rn;obtain⟨t,rfl⟩:=rz;obtain⟨cA,rv,p,hz⟩:=I2.list hq;refine jy (c:=1) (by decide) p.isList λh' he hit hk=>?_
   have I3:dA X aA Y H2 { s2 with heap:=h' }:=I2.kept (t':=s2.toks) hk;refine Ua he ?_;refine⟨s2.heap.objs.size+1,[s2.heap.objs.size+1,s2.heap.objs.size],_,_,H2,rfl,I3,Ao l _ _ 1 (Sq _),⟨⟨_,by simpa using he⟩,hit⟩,λb hb=>?_,q⟩;have hb:b=s2.heap.objs.size+1\/b=s2.heap.objs.size:=by simpa using hb
   rcases hb with rfl | rfl
   ·exact I2.GL (jV _) (I2.KA.fresh (jV _))
   ·exact I2.GL (zB _) (I2.KA.fresh (zB _))
end
end CI
namespace L2
open PySem PySem.Spec PyProof.Rows
noncomputable def gZ(lo:Int)(n:Nat):It:=⟨λi _=>i<n,λi H x H'=>H'=H/\x=.int (lo-i),λi _=>n<=i⟩
def mZa{P:bE}{w:IC}{K:fA}{tg:xA}(it:gA)(lo:Int)(n:Nat):Turn P w K tg (gZ lo n) [it] it (λi h=>SY h it (lo+(i:Nat)*(-1)) ((n:Int)-(i:Nat)) (-1)) where
 mem:=dD.mpr rfl
 obj:=λi h st b hb=>by(obtain rfl:=dD.mp hb;exact⟨_,st,λv z=>by cases (show Data.fields _=Data.cell v from z)⟩)
 keep:=λi h h' st k=>k it (dD.mpr rfl) _ st
 item:=by
  intro X hP hw hK hc i aA s Y H E I hf st hg;subst hP hw hK;obtain⟨f0,f1,_,f3,f4,f5⟩:=hf it (dD.mpr rfl);refine(yr (prog:=X.prog) (w:=X.w) (I.ok.hd hc) it lo (-1) n).item i s _ _ hg st λv h' tk hv bG kk=>?_
  obtain⟨t,rfl⟩:=hv
  exact⟨_,rfl,QS (s:={ s with heap:=h',toks:=tk }) (n:="range_iterator") bG rfl rfl (by decide)
   ⟨.int (lo-i),H,I.turned (λb o hb e=>kk b o (λz=>hb (dD.mp z)) e) f0 f1 f3 f4 f5,⟨t,by rw[Int.mul_neg,Int.mul_one,Bq]⟩,⟨rfl,rfl⟩,bG,λb hb=>(hf b hb).1⟩⟩
 done:=by(intro X hP hw hK hc i aA s Y H E I hf st hg;subst hP hw hK;obtain⟨f0,f1,_,f3,f4,f5⟩:=hf it (dD.mpr rfl);replace hg:n<=i:=hg;exact Fp (I.ok.hd hc) st (by lia) λh' eb=>⟨rfl,I.turned (t':=s.toks) (λb o hb e=>eb b o hb e) f0 f1 f3 f4 f5⟩)
 self:=λ_ _ _ _ _ st h=>Gp st h
section
variable{X:Cx}{tg:xA}
def Ng(ta:TA):TI:=λY H R=>ta Y H λvs H1=>∃i j:Int,vs=[.int i,.int j,.int (-1)]/\(-1000000<=i/\i<=1000000/\-1000000<=j/\j<=1000000)/\R (gZ i (i-j).toNat) H1
def vQa{a b c:xA}{ta:TA}{p pos:XB}(hg:Gl X "range")(hm:X.mg "range"=none)(ha:PA X [a,b,c] ta)(hs:bC [a,b,c] X.env=(false,eval a X.env)::bC [b,c] X.env)(oE:(fF pos (bC [b,c] X.env)).any (·.1)=false) :
  PI X tg (.Call (.Name "range" p) [a,b,c] [] pos) (Ng ta):=by
 intro aA s Y H R I h;refine Call_ (iN I hg hm Yb (JU (RA (ha pos aA s Y H _ I h) λus s1 hz=>?_) hs oE));obtain⟨vs,H1,I1,r1,q1⟩:=hz;obtain⟨i,j,rfl,⟨q1,q2,q3,q4⟩,q⟩:=q1;obtain _ | ⟨⟨t,rfl⟩,_ | ⟨⟨u,rfl⟩,_ | ⟨⟨v,rfl⟩,_ | _⟩⟩⟩:=r1
 refine call_range_3 (by decide) ?_ (.inl (PyProof.noPylong_small (by lia)));refine uq (zr ..) (PySem.W.small_down (by lia) (by lia) (by lia) (by lia)) ?_;have I2:dA X aA Y H1 { s1 with heap:=s1.heap.push { cls:=.type "range",data:=.fields #[.int i t,.int j u,.int (-1) v] } }:=I1.kept (t':=s1.toks) λb o e=>jD _ e
 refine⟨_,[_],_,_,H1,rfl,I2.kept (t':=s1.toks) λb o e=>jD _ e,mZa _ i (i-j).toNat, ?_,λb hb=>?_,q⟩
 ·show SY _ _ (i+((0:Nat):Int)*(-1)) ((((i-j).toNat:Nat):Int)-((0:Nat):Int)) (-1);rw[show i+((0:Nat):Int)*(-1)=i by simp,show(((i-j).toNat:Nat):Int)-((0:Nat):Int)=Dp i j (-1) by rw[PySem.W.rangeSize_downNat];simp];exact gF _ rfl
 ·obtain rfl:=dD.mp hb;exact I2.GL (zB _) (I2.KA.fresh (zB _))
end
end L2
namespace CI
open PySem PySem.Spec PyProof.Rows L2
section
variable{K:fA}{U U1:Env}
def sI{l:List O}(h:(l.set i a)[j]?=some b):(j=i/\b=a/\i<l.length)\/(j≠i/\l[j]?=some b):=by
 by_cases AK:j=i
 ·subst AK;by_cases hl:j<l.length
  ·rw[iL hl] at h;exact .inl ⟨rfl,(rE h).symm,hl⟩
  ·rw[BM (by rw[vH];lia)] at h;cases h
 ·rw[EF (λz=>AK z.symm)] at h;exact .inr ⟨AK,h⟩
def FA.unset(r:FA K U Y H G)(i:Nat):FA K (U.set i .un) Y H G:=by
 refine⟨by rw[vH];exact r.len,r.sub,λj d h=>?_,λj d p l h=>?_,λj k d p l d' p' l' a h1 h2 h3 h4=>?_⟩
 ·rcases sI h with ⟨_,z,_⟩ | ⟨_,z⟩
  ·cases z
  ·exact r.sh j d z
 ·rcases sI h with ⟨_,z,_⟩ | ⟨_,z⟩
  ·cases z
  ·exact r.ow j d p l z
 ·rcases sI h1 with ⟨_,z,_⟩ | ⟨_,z⟩
  ·cases z
  ·rcases sI h2 with ⟨_,z',_⟩ | ⟨_,z'⟩
   ·cases z'
   ·exact r.inj _ _ _ _ _ _ _ _ _ z z' h3 h4
def AA.unset{i:Nat}{a:gA}(h:AA (U.set i .un) Y a):AA U Y a:=by
 obtain⟨j,d,p,l,h1,h2⟩:=h;rcases sI h1 with ⟨_,z,_⟩ | ⟨_,z⟩
 ·cases z
 ·exact⟨j,d,p,l,z,h2⟩
def FA.yR(r:FA K U Y H G){d:D}(h:U[i]?=some (.ow d p l))(hx:Y[i]?=some (some (.ref a))):¬AA (U.set i .un) Y a:=by
 rintro⟨j,d',p',l',h1,h2⟩
 rcases sI h1 with ⟨_,z,_⟩ | ⟨ne,z⟩
 ·cases z
 ·exact ne (r.inj _ _ _ _ _ _ _ _ _ z h h2 hx)
def FA.grow(r:FA K U Y H G)(hv:H a=some ob)(g:G a=none)(no:¬AA U Y a):FA K U Y H (GA G a ob):=by
 refine⟨r.len,λb u e=>?_,λi d e=>?_,λi d p l e=>?_,r.inj⟩
 ·by_cases hb:b=a
  ·subst hb;rw[TC] at e;rw[hv];exact e
  ·rw[BB hb] at e;exact r.sub b u e
 ·obtain⟨v,h1,h2⟩:=r.sh i d e;exact⟨v,h1,jA.mono (Sm.put g) d h2⟩
 ·obtain⟨b,h1,h2,h3⟩:=r.ow i d p l e;have hb:b≠a:=λz=>by subst z;exact no ⟨i,d,p,l,e,h1⟩
  exact⟨b,h1,by rw[BB hb];exact h2,h3.mono (Sm.put g) λ_ z=>z⟩
def FA.mR(r:FA K (U.set i .un) Y H G){d:D}{v:V}(hx:Y[i]?=some (some v))(hr:jA K G d v):FA K (U.set i (.sh d)) Y H G:=by
 have key:∀(j:Nat) (sl:Sl),(U.set i (.sh d))[j]?=some sl->(j=i/\sl=.sh d)\/(U.set i .un)[j]?=some sl:=λj sl h=>by
  rcases sI h with ⟨e,z,_⟩ | ⟨ne,z⟩
  ·exact .inl ⟨e,z⟩
  ·exact .inr (by rw[EF (λq=>ne q.symm)];exact z)
 refine⟨by have:=r.len;rw[vH] at this ⊢;exact this,r.sub,λj d' h=>?_,λj d' p l h=>?_,λj k d1 p l d2 p' l' a h1 h2 h3 h4=>?_⟩
 ·rcases key j _ h with ⟨rfl,z⟩ | z
  ·cases z;exact⟨v,hx,hr⟩
  ·exact r.sh j d' z
 ·rcases key j _ h with ⟨rfl,z⟩ | z
  ·cases z
  ·exact r.ow j d' p l z
 ·rcases key j _ h1 with ⟨rfl,z⟩ | z
  ·cases z
  ·rcases key k _ h2 with ⟨rfl,z'⟩ | z'
   ·cases z'
   ·exact r.inj _ _ _ _ _ _ _ _ _ z z' h3 h4
def FA.bP(r:FA K (U.set i .un) Y H G){d:D}{a:gA}(hx:Y[i]?=some (some (.ref a)))(g:G a=none)(ho:YG K H G a d)(no:¬AA (U.set i .un) Y a):FA K (U.set i (.ow d p l)) Y H G:=by
 have key:∀(j:Nat) (sl:Sl),(U.set i (.ow d p l))[j]?=some sl->(j=i/\sl=.ow d p l)\/(U.set i .un)[j]?=some sl:=λj sl h=>by
  rcases sI h with ⟨e,z,_⟩ | ⟨ne,z⟩
  ·exact .inl ⟨e,z⟩
  ·exact .inr (by rw[EF (λq=>ne q.symm)];exact z)
 refine⟨by have:=r.len;rw[vH] at this ⊢;exact this,r.sub,λj d' h=>?_,λj d' p' l' h=>?_,λj k d1 p1 l1 d2 p2 l2 b h1 h2 h3 h4=>?_⟩
 ·rcases key j _ h with ⟨rfl,z⟩ | z
  ·cases z
  ·exact r.sh j d' z
 ·rcases key j _ h with ⟨rfl,z⟩ | z
  ·cases z;exact⟨a,hx,g,ho⟩
  ·exact r.ow j d' p' l' z
 ·rcases key j _ h1 with ⟨rfl,z⟩ | z
  ·rcases key k _ h2 with ⟨rfl,z'⟩ | z'
   ·rfl
   ·rw[hx] at h3;cases h3;exact absurd ⟨k,_,_,_,z',h4⟩ no
  ·rcases key k _ h2 with ⟨rfl,z'⟩ | z'
   ·rw[hx] at h4;cases h4;exact absurd ⟨j,_,_,_,z,h3⟩ no
   ·exact r.inj _ _ _ _ _ _ _ _ _ z z' h3 h4
def AA.mR{i:Nat}{a:gA}(h:AA (U.set i (.sh d)) Y a):AA (U.set i .un) Y a:=by
 obtain⟨j,d',p,l,h1,h2⟩:=h;rcases sI h1 with ⟨_,z,_⟩ | ⟨ne,z⟩
 ·cases z
 ·exact⟨j,d',p,l,by rw[EF (λq=>ne q.symm)];exact z,h2⟩
def AA.bP{d:D}(hx:Y[i]?=some (some (.ref b)))(h:AA (U.set i (.ow d p l)) Y a):a=b\/AA (U.set i .un) Y a:=by
 obtain⟨j,d',p',l',h1,h2⟩:=h;rcases sI h1 with ⟨rfl,z,_⟩ | ⟨ne,z⟩
 ·rw[hx] at h2;cases h2;exact .inl rfl
 ·exact .inr ⟨j,d',p',l',by rw[EF (λq=>ne q.symm)];exact z,h2⟩
def GF.grow(r:GF K H G own new Y h x)(s:fB G G2)(k:∀a d,h=.val (.ow d)->x=.ref a->G2 a=none)(w:∀a,BF a->own a):GF K H G2 BF new Y h x:=by
 cases h with
 |slot i=>exact r
 |val v =>
  cases v with
  |sh d=>exact jA.mono s d r
  |ow d =>
   obtain⟨a,rfl,g,o,n,m⟩:=r;exact⟨a,rfl,k a d rfl rfl,o.mono s λ_ z=>z,λz=>n (w a z),m⟩
  |od d=>exact r.elim
theorem mE.AN:∀{hs:List Hd} {xs:List V} {a:gA},mE K H G own new Y hs xs->ZG hs xs a->¬own a/\new a/\H a≠none/\G a=none
 |[],_,_,h,t=>by cases (show _=[] from h);exact t.elim
 |h::hs,_,a,r,t=>by
  obtain⟨x,r',rfl,h1,h2,h3⟩:=r;have tl:ZG hs r' a->¬own a/\new a/\H a≠none/\G a=none:=λt=>mE.AN h2 t
  cases h with
  |slot i=>exact tl t
  |val v =>
   cases v with
   |sh d=>exact tl t
   |ow d =>
    rcases t with rfl | t
    ·obtain⟨b,e,g,o,n,m⟩:=h1;cases e;obtain⟨vs,hv⟩:=o.there;exact⟨n,m,by rw[hv];simp,g⟩
    ·exact tl t
   |od d=>exact h1.elim
theorem mE.grow:∀{hs:List Hd} {xs:List V},mE K H G own new Y hs xs->∀{G2:Hp},fB G G2->(∀a,ZG hs xs a->G2 a=none)->(∀a,BF a->own a)->mE K H G2 BF new Y hs xs
 |[],_,h,_,_,_,_=>h
 |h::hs,_,r,G2,s,k,w=>by
  obtain⟨x,r',rfl,h1,h2,h3⟩:=r;refine⟨x,r',rfl,h1.grow s (λa d e1 e2=>k a (by subst e1;exact .inl e2)) w,mE.grow h2 s (λa t=>k a ?_) w,h3⟩
  cases h with
  |slot i=>exact t
  |val v =>
   cases v with
   |sh d=>exact t
   |ow d=>exact .inr t
   |od d=>exact h1.elim
def FA.nil(s:fB G H):FA K [] [] H G:=⟨rfl,s,λi d h=>by simp at h,λi d p l h=>by simp at h,λi j d p l d' p' l' a h=>by simp at h⟩
def FA.rS(r:FA K as τ H G)(h:jA K G d x):FA K (.sh d::as) (some x :: τ) H G:=by
 refine⟨by simp[r.len],r.sub,λi d' e=>?_,λi d' p l e=>?_,λi j d1 p l d2 p' l' a h1 h2 h3 h4=>?_⟩
 ·cases i with
  |zero=>simp at e;subst e;exact⟨x,rfl,h⟩
  |succ i=>simpa using r.sh i d' (by simpa using e)
 ·cases i with
  |zero=>simp at e
  |succ i=>simpa using r.ow i d' p l (by simpa using e)
 ·cases i with
  |zero=>simp at h1
  |succ i =>
   cases j with
   |zero=>simp at h2
   |succ j=>exact congrArg (·+1) (r.inj i j d1 p l d2 p' l' a (by simpa using h1) (by simpa using h2) (by simpa using h3) (by simpa using h4))
def FA.ie(r:FA K as τ H G)(g:G a=none)(o:YG K H G a d)(n:¬AA as τ a):FA K (.ow d p l::as) (some (.ref a) :: τ) H G:=by
 refine⟨by simp[r.len],r.sub,λi d' e=>?_,λi d' p l e=>?_,λi j d1 p1 l1 d2 p' l' b h1 h2 h3 h4=>?_⟩
 ·cases i with
  |zero=>simp at e
  |succ i=>simpa using r.sh i d' (by simpa using e)
 ·cases i with
  |zero =>
   simp only[ZJ,eC,Sl.ow.injEq] at e;obtain⟨rfl,_,_⟩:=e;exact⟨a,rfl,g,o⟩
  |succ i=>simpa using r.ow i d' p l (by simpa using e)
 ·cases i with
  |zero =>
   simp only[ZJ,eC,V.ref.injEq] at h3;subst h3
   cases j with
   |zero=>rfl
   |succ j=>exact absurd ⟨j,d2,p',l',by simpa using h2,by simpa using h4⟩ n
  |succ i =>
   cases j with
   |zero =>
    simp only[ZJ,eC,V.ref.injEq] at h4;subst h4;exact absurd ⟨i,d1,p1,l1,by simpa using h1,by simpa using h3⟩ n
   |succ j=>exact congrArg (·+1) (r.inj i j d1 p1 l1 d2 p' l' b (by simpa using h1) (by simpa using h2) (by simpa using h3) (by simpa using h4))
def AA.cons{as:List Sl}{τ:St}{sl:Sl}{v:Option V}{a:gA}(h:AA (sl::as) (v :: τ) a):(∃d p l,sl=.ow d p l/\v=some (.ref a))\/AA as τ a:=by
 obtain⟨i,d,p,l,h1,h2⟩:=h
 cases i with
 |zero=>exact .inl ⟨d,p,l,by simpa using h1,by simpa using h2⟩
 |succ i=>exact .inr ⟨i,d,p,l,by simpa using h1,by simpa using h2⟩
structure Qr(K:fA)(U:Env)(Y:St)(H G:Hp)(hs:List Hd)(xs:List V)(as:List Sl)(U1:Env)(G2:Hp):Prop where
 gg:fB G G2
 gn:∀a,G2 a≠none->G a≠none\/AA U Y a\/ZG hs xs a
 ra:FA K as (xs.map some) H G2
 rc:FA K U1 Y H G2
 ao:∀a,AA as (xs.map some) a->AA U Y a\/ZG hs xs a
 an:∀a,AA as (xs.map some) a->¬AA U1 Y a
 ro:∀a,AA U1 Y a->AA U Y a
section
variable{p:Bool}{ps:List Bool}{hs:List Hd}{d:D}{U:Env}{i:Nat}
theorem nIa:aAj (p::ps) (.val (.sh d)::hs) U=(aAj ps hs U).map λ(as,U')=>(.sh d::as,U'):=rfl
theorem mIa:aAj (p::ps) (.val (.ow d)::hs) U=(aAj ps hs U).map λ(as,U')=>((if p then .ow d true false else .sh d)::as,U'):=rfl
theorem eX:aAj (p::ps) (.slot i::hs) U=(match U[i]? with
  |some (.sh d)=>(aAj ps hs U).map λ(as,U')=>(.sh d::as,U')
  |some (.ow d pin lk) =>
   match p with
   |true=>(aAj ps hs (U.set i .un)).map λ(as,U')=>(.ow d true lk::as,U')
   |false=>if pin||lk then none else(aAj ps hs (U.set i (.sh d))).map λ(as,U')=>(.sh d::as,U')
  |_=>none):=rfl
end
theorem SO:∀(hs:List Hd) (aA:List Bool) (U:Env) (G:Hp) (xs:List V) (as:List Sl) (U1:Env),FA K U Y H G->mE K H G (AA U Y) new Y hs xs->aAj aA hs U=some (as,U1) ->
  ∃G2,Qr K U Y H G hs xs as U1 G2
 |[],aA,U,G,xs,as,U1,r,h,e=>by
  cases (show xs=[] from h)
  cases aA with
  |cons p ps=>cases e
  |nil =>
   replace e:some ([],U)=some (as,U1):=e;simp only[eC,lE] at e;obtain⟨rfl,rfl⟩:=e;exact⟨G,fB.refl _,λa z=>.inl z,FA.nil r.sub,r,λa ⟨i,d,p,l,z,_⟩=>by simp at z,λa ⟨i,d,p,l,z,_⟩=>by simp at z,λ_ z=>z⟩
 |.val (.sh d)::hs,aA,U,G,xs,as,U1,r,h,e=>by
  obtain⟨x,r',rfl,h1,h2,h3⟩:=h
  cases aA with
  |nil=>cases e
  |cons p ps =>
   rw[nIa] at e
   cases q:aAj ps hs U with
   |none=>rw[q] at e;cases e
   |some y =>
    obtain⟨VA,U'⟩:=y;rw[q] at e;simp only[jF,eC,lE] at e;obtain⟨rfl,rfl⟩:=e;obtain⟨G2,L⟩:=SO hs ps U G r' VA U' r h2 q;refine⟨G2,L.gg,L.gn,L.ra.rS (jA.mono L.gg d h1),L.rc,λa z=>?_,λa z=>?_,L.ro⟩
    ·rcases z.cons with ⟨_,_,_,z,_⟩ | z
     ·cases z
     ·exact L.ao a z
    ·rcases z.cons with ⟨_,_,_,z,_⟩ | z
     ·cases z
     ·exact L.an a z
 |.val (.ow d)::hs,aA,U,G,xs,as,U1,r,h,e=>by
  obtain⟨x,r',rfl,h1,h2,h3⟩:=h;obtain⟨b,rfl,g,o,n,m⟩:=h1;have nt:¬ZG hs r' b:=h3 d b rfl rfl
  cases aA with
  |nil=>cases e
  |cons p ps =>
   rw[mIa] at e
   cases q:aAj ps hs U with
   |none=>rw[q] at e;cases e
   |some y =>
    obtain⟨VA,U'⟩:=y;rw[q] at e;simp only[jF,eC,lE] at e;obtain⟨rfl,rfl⟩:=e
    cases p with
    |true =>
     obtain⟨G2,L⟩:=SO hs ps U G r' VA U' r h2 q
     have g2:G2 b=none:=by
      cases w:G2 b with
      |none=>rfl
      |some o' =>
       rcases L.gn b (by rw[w];simp) with z | z | z
       ·exact absurd g z
       ·exact absurd z n
       ·exact absurd z nt
     have nb:¬AA VA (r'.map some) b:=λz=>by
      rcases L.ao b z with z | z
      ·exact n z
      ·exact nt z
     refine⟨G2,L.gg,λa z=>?_,L.ra.ie g2 (o.mono L.gg λ_ z=>z) nb,L.rc,λa z=>?_,λa z=>?_,L.ro⟩
     ·rcases L.gn a z with z | z | z
      ·exact .inl z
      ·exact .inr (.inl z)
      ·exact .inr (.inr (.inr z))
     ·rcases z.cons with ⟨_,_,_,_,z⟩ | z
      ·cases z;exact .inr (.inl rfl)
      ·rcases L.ao a z with z | z
       ·exact .inl z
       ·exact .inr (.inr z)
     ·rcases z.cons with ⟨_,_,_,_,z⟩ | z
      ·cases z;exact λw=>n (L.ro _ w)
      ·exact L.an a z
    |false =>
     obtain⟨ob,hv,hr⟩:=o.put
     have tb:∀a,ZG hs r' a->(GA G b ob) a=none:=λa z=>by
      have hb:a≠b:=λw=>by subst w;exact nt z
      rw[BB hb];exact(h2.AN z).2.2.2
     obtain⟨G2,L⟩:=SO hs ps U (GA G b ob) r' VA U' (r.grow hv g n) (h2.grow (fB.put g) tb λ_ z=>z) q;refine⟨G2,(fB.put g).trans L.gg,λa z=>?_,L.ra.rS ?_,L.rc,λa z=>?_,λa z=>?_,L.ro⟩
     ·by_cases hb:a=b
      ·subst hb;exact .inr (.inr (.inl rfl))
      ·rcases L.gn a z with z | z | z
       ·rw[BB hb] at z;exact .inl z
       ·exact .inr (.inl z)
       ·exact .inr (.inr (.inr z))
     ·exact hr _ (Sm.of ((fB.put g).trans L.gg)) (L.gg _ _ TC)
     ·rcases z.cons with ⟨_,_,_,z,_⟩ | z
      ·simp at z
      ·rcases L.ao a z with z | z
       ·exact .inl z
       ·exact .inr (.inr z)
     ·rcases z.cons with ⟨_,_,_,z,_⟩ | z
      ·simp at z
      ·exact L.an a z
 |.slot i::hs,aA,U,G,xs,as,U1,r,h,e=>by
  obtain⟨x,r',rfl,h1,h2,h3⟩:=h;have h1:Y[i]?=some (some x):=h1
  cases aA with
  |nil=>cases e
  |cons p ps =>
   rw[eX] at e;split at e
   ·rename_i d hd
    cases q:aAj ps hs U with
    |none=>rw[q] at e;cases e
    |some y =>
     obtain⟨VA,U'⟩:=y;rw[q] at e;simp only[jF,eC,lE] at e;obtain⟨rfl,rfl⟩:=e;obtain⟨G2,L⟩:=SO hs ps U G r' VA U' r h2 q;obtain⟨v,h4,h5⟩:=r.sh i d hd;rw[h1] at h4;cases h4;refine⟨G2,L.gg,L.gn,L.ra.rS (jA.mono L.gg d h5),L.rc,λa z=>?_,λa z=>?_,L.ro⟩
     ·rcases z.cons with ⟨_,_,_,z,_⟩ | z
      ·cases z
      ·exact L.ao a z
     ·rcases z.cons with ⟨_,_,_,z,_⟩ | z
      ·cases z
      ·exact L.an a z
   ·rename_i d pin lk hd;obtain⟨b,h4,g,o⟩:=r.ow i d pin lk hd;rw[h1] at h4;cases h4;have aN:AA U Y b:=⟨i,d,pin,lk,hd,h1⟩
    have nt:¬ZG hs r' b:=λz=>(h2.AN z).1 aN
    have nu:¬AA (U.set i .un) Y b:=r.yR hd h1
    cases p with
    |true =>
     simp only at e
     cases q:aAj ps hs (U.set i .un) with
     |none=>rw[q] at e;cases e
     |some y =>
      obtain⟨VA,U'⟩:=y;rw[q] at e;simp only[jF,eC,lE] at e;obtain⟨rfl,rfl⟩:=e;obtain⟨G2,L⟩:=SO hs ps (U.set i .un) G r' VA U' (r.unset i) (h2.grow (fB.refl _) (λa z=>(h2.AN z).2.2.2) λa z=>z.unset) q
      have g2:G2 b=none:=by
       cases w:G2 b with
       |none=>rfl
       |some o' =>
        rcases L.gn b (by rw[w];simp) with z | z | z
        ·exact absurd g z
        ·exact absurd z nu
        ·exact absurd z nt
      have nb:¬AA VA (r'.map some) b:=λz=>by
       rcases L.ao b z with z | z
       ·exact nu z
       ·exact nt z
      refine⟨G2,L.gg,λa z=>?_,L.ra.ie g2 (o.mono L.gg λ_ z=>z) nb,L.rc,λa z=>?_,λa z=>?_,λa z=>(L.ro a z).unset⟩
      ·rcases L.gn a z with z | z | z
       ·exact .inl z
       ·exact .inr (.inl z.unset)
       ·exact .inr (.inr z)
      ·rcases z.cons with ⟨_,_,_,_,z⟩ | z
       ·cases z;exact .inl aN
       ·rcases L.ao a z with z | z
        ·exact .inl z.unset
        ·exact .inr z
      ·rcases z.cons with ⟨_,_,_,_,z⟩ | z
       ·cases z;exact λw=>nu (L.ro _ w)
       ·exact L.an a z
    |false =>
     simp only at e;split at e
     ·cases e
     ·cases q:aAj ps hs (U.set i (.sh d)) with
      |none=>rw[q] at e;cases e
      |some y =>
       obtain⟨VA,U'⟩:=y;rw[q] at e;simp only[jF,eC,lE] at e;obtain⟨rfl,rfl⟩:=e;obtain⟨ob,hv,hr⟩:=o.put
       have tb:∀a,ZG hs r' a->(GA G b ob) a=none:=λa z=>by
        have hb:a≠b:=λw=>by subst w;exact nt z
        rw[BB hb];exact(h2.AN z).2.2.2
       have rb:∀G2,fB (GA G b ob) G2->jA K G2 d (.ref b):=λG2 s2=>hr _ (Sm.of ((fB.put g).trans s2)) (s2 _ _ TC)
       obtain⟨G2,L⟩:=SO hs ps (U.set i (.sh d)) (GA G b ob) r' VA U' (((r.unset i).grow hv g nu).mR h1 (rb _ (fB.refl _)))
        (h2.grow (fB.put g) tb λa z=>z.mR.unset) q
       refine⟨G2,(fB.put g).trans L.gg,λa z=>?_,L.ra.rS (rb G2 L.gg),L.rc,λa z=>?_,λa z=>?_,λa z=>(L.ro a z).mR.unset⟩
       ·by_cases hb:a=b
        ·subst hb;exact .inr (.inl aN)
        ·rcases L.gn a z with z | z | z
         ·rw[BB hb] at z;exact .inl z
         ·exact .inr (.inl z.mR.unset)
         ·exact .inr (.inr z)
       ·rcases z.cons with ⟨_,_,_,z,_⟩ | z
        ·cases z
        ·rcases L.ao a z with z | z
         ·exact .inl z.mR.unset
         ·exact .inr z
       ·rcases z.cons with ⟨_,_,_,z,_⟩ | z
        ·cases z
        ·exact L.an a z
   ·cases e
end
section
variable{K:fA}
def FA.keep(r:FA K U Y H G)(e:Ext own H G H' G')(n:∀a,AA U Y a->¬own a)(s:fB G' H'):FA K U Y H' G':=by
 refine⟨r.len,s,λi d h=>?_,λi d p l h=>?_,r.inj⟩
 ·obtain⟨v,h1,h2⟩:=r.sh i d h;exact⟨v,h1,jA.mono e.gg d h2⟩
 ·obtain⟨a,h1,g,o⟩:=r.ow i d p l h;have na:=n a ⟨i,d,p,l,h,h1⟩;obtain⟨vs,hv⟩:=o.there;exact⟨a,h1,e.gn a (by rw[hv];simp) g na,o.mono e.gg λo' h'=>e.hh a o' h' na⟩
def FA.tail(r:FA K (a::as) (v :: τ) H G):FA K as τ H G:=by
 refine⟨by have:=r.len;simpa using this,r.sub,λi d h=>?_,λi d p l h=>?_,λi j d p l d' p' l' b h1 h2 h3 h4=>?_⟩
 ·simpa using r.sh (i+1) d (by simpa using h)
 ·simpa using r.ow (i+1) d p l (by simpa using h)
 ·have:=r.inj (i+1) (j+1) d p l d' p' l' b (by simpa using h1) (by simpa using h2) (by simpa using h3) (by simpa using h4)
  lia
def AA.tail(h:AA as τ b):AA (a::as) (v :: τ) b:=by
 obtain⟨i,d,p,l,h1,h2⟩:=h;exact⟨i+1,d,p,l,by simpa using h1,by simpa using h2⟩
def vf{i:Nat}{ps:List Bool}{hs:List Hd}{a:Sl}{as:List Sl}{U0 U U':Env}(e:aAg (true::ps) (.slot i::hs) (a::as) U0 U=some U') :
  (∃d0 pin lk d p' l',U0[i]?=some (.ow d0 pin lk)/\a=.ow d p' l'/\aAg ps hs as U0 (U.set i (.ow d pin lk))=some U')\/(∀d p l,U0[i]?≠some (.ow d p l))/\aAg ps hs as U0 U=some U':=by
 replace e:(match (generalizing:=false) U0[i]?,a with
  |some (.ow _ pin lk),.ow d _ _=>aAg ps hs as U0 (U.set i (.ow d pin lk))
  |some (.ow _ _ _),_=>none
  |_,_=>aAg ps hs as U0 U)=some U':=e
 generalize U0[i]?=o at e ⊢
 cases o with
 |none=>exact .inr ⟨λ_ _ _ z=>(nomatch z),e⟩
 |some s=>cases s with
  |ow d0 pin lk=>cases a with
   |ow d p' l'=>exact .inl ⟨_,_,_,_,_,_,rfl,rfl,e⟩
   |_=>exact nomatch (show(none:Option Env)=some U' from e)
  |_=>exact .inr ⟨λ_ _ _ z=>(nomatch z),e⟩
theorem B5:∀(hs:List Hd) (aA:List Bool) (as:List Sl) (xs:List V) (U U':Env),FA K as (xs.map some) H G->FA K U Y H G->(∀a,AA as (xs.map some) a->¬AA U Y a)->mE K H0 G0 own new Y hs xs ->
  aAg aA hs as U0 U=some U'->FA K U' Y H G/\∀a,AA U' Y a->AA U Y a\/AA U0 Y a
 |[],aA,as,xs,U,U',ra,r,n,h,e=>by
  cases aA with
  |nil =>
   cases as with
   |nil =>
    cases e;exact⟨r,λ_ z=>.inl z⟩
   |cons a as=>cases e
  |cons p ps=>cases p<;>cases as<;>cases e
 |h::hs,aA,as,xs,U,U',ra,r,n,hh,e=>by
  obtain⟨x,r',rfl,h1,h2,h3⟩:=hh
  cases aA with
  |nil=>cases e
  |cons p ps =>
   cases as with
   |nil=>cases p<;>cases h<;>cases e
   |cons a VA =>
    have skip:aAg ps hs VA U0 U=some U'->FA K U' Y H G/\∀a,AA U' Y a->AA U Y a\/AA U0 Y a:=λe' =>
     B5 hs ps VA r' U U' ra.tail r (λb z=>n b z.tail) h2 e'
    cases p with
    |false=>cases h<;>exact skip e
    |true =>
     cases h with
     |val v=>exact skip e
     |slot i =>
      have h1:Y[i]?=some (some x):=h1;rcases vf e with ⟨_,pin,lk,d,p',l',hi,rfl,eg⟩ | ⟨_,eg⟩
      ·replace e:=eg;obtain⟨b,hb,g,o⟩:=ra.ow 0 d p' l' rfl;simp only[CB,ZJ,eC] at hb;subst hb;have nb:¬AA U Y b:=n b ⟨0,d,p',l',rfl,rfl⟩;have r2:FA K (U.set i (.ow d pin lk)) Y H G:=(r.unset i).bP h1 g o λz=>nb z.unset
       obtain⟨r3,r4⟩:=B5 hs ps VA r' (U.set i (.ow d pin lk)) U' ra.tail r2 (λc z w=>by
        rcases w.bP h1 with rfl | w
        ·obtain⟨j,d2,p2,l2,z1,z2⟩:=z
         have:=ra.inj 0 (j+1) d p' l' d2 p2 l2 c rfl (by simpa using z1) rfl (by simpa using z2)
         lia
        ·exact n c z.tail w.unset) h2 e
       refine⟨r3,λc z=>?_⟩;rcases r4 c z with z | z
       ·rcases z.bP h1 with rfl | z
        ·exact .inr ⟨i,_,pin,lk,hi,h1⟩
        ·exact .inl z.unset
       ·exact .inr z
      ·exact skip eg
def gK(aA:List Bool)(hs:List Hd)(i:Nat):Prop:=∃j:Nat,aA[j]?=some true/\hs[j]?=some (.slot i)
def gK.cons{p:Bool}{ps:List Bool}{h:Hd}{hs:List Hd}{i:Nat}(l:gK ps hs i):gK (p::ps) (h::hs) i:=by
 obtain⟨j,h1,h2⟩:=l;exact⟨j+1,by simpa using h1,by simpa using h2⟩
theorem Gi:∀(hs:List Hd) (aA:List Bool) (U:Env) (as:List Sl) (U1:Env),aAj aA hs U=some (as,U1)->∀i:Nat,jG U[i]? U1[i]?\/(gK aA hs i/\∃d p l,U[i]?=some (.ow d p l))
 |[],aA,U,as,U1,e,i=>by
  cases aA<;>cases e;exact .inl (jG.refl _)
 |h::hs,aA,U,as,U1,e,i=>by
  cases aA with
  |nil=>cases h with
   |slot i=>cases e
   |val v=>cases v<;>cases e
  |cons p ps =>
   have iB:∀{U':Env} {g:Sl},(aAj ps hs U').map (λ(as,U')=>(g::as,U'))=some (as,U1)->jG U'[i]? U1[i]?\/(gK ps hs i/\∃d p l,U'[i]?=some (.ow d p l)):=by
    intro U' g e
    cases q:aAj ps hs U' with
    |none=>rw[q] at e;cases e
    |some y =>
     obtain⟨VA,U2⟩:=y;rw[q] at e;simp only[jF,eC,lE] at e;obtain⟨_,rfl⟩:=e;exact Gi hs ps U' VA U2 q i
   have same:∀{g:Sl},(aAj ps hs U).map (λ(as,U')=>(g::as,U'))=some (as,U1)->jG U[i]? U1[i]?\/(gK (p::ps) (h::hs) i/\∃d p l,U[i]?=some (.ow d p l)):=by
    intro g e;rcases iB e with z | ⟨z,w⟩
    ·exact .inl z
    ·exact .inr ⟨z.cons,w⟩
   cases h with
   |val v=>cases v<;>first | exact same e | cases e
   |slot i0 =>
    rw[eX] at e;split at e
    ·exact same e
    ·rename_i d pin lk hd
     cases p with
     |true =>
      simp only at e;by_cases hi:i=i0
      ·subst hi;exact .inr ⟨⟨0,rfl,rfl⟩,d,pin,lk,hd⟩
      ·have:=iB e
       rw[EF (λz=>hi z.symm)] at this;rcases this with z | ⟨z,w⟩
       ·exact .inl z
       ·exact .inr ⟨z.cons,w⟩
     |false =>
      simp only at e;split at e
      ·cases e
      ·rename_i hp;simp only[rM,not_or,xY] at hp;have Je:IE U (U.set i0 (.sh d)):=IE.set (by rw[hd];exact hp.1);rcases iB e with z | ⟨z,d',p',l',w⟩
       ·exact .inl ((Je i).trans z)
       ·have:=Je i
        rw[w] at this;obtain⟨d2,e2⟩:=this.Kj;exact .inr ⟨z.cons,d2,p',l',e2⟩
    ·cases e
theorem A5:∀(hs:List Hd) (aA:List Bool) (as:List Sl) (U U':Env),aAg aA hs as U0 U=some U'->∀i:Nat,(U'[i]?=U[i]?\/∃d d' p l,U0[i]?=some (.ow d p l)/\U'[i]?=some (.ow d' p l)) /\
  (gK aA hs i->(∃d p l,U0[i]?=some (.ow d p l))->i<U.length->∃d d' p l,U0[i]?=some (.ow d p l)/\U'[i]?=some (.ow d' p l))
 |[],aA,as,U,U',e,i=>by
  cases aA with
  |nil =>
   cases as with
   |nil =>
    cases e;exact⟨.inl rfl,λ⟨j,h,_⟩=>by simp at h⟩
   |cons a as=>cases e
  |cons p ps=>cases p<;>cases as<;>cases e
 |h::hs,aA,as,U,U',e,i=>by
  cases aA with
  |nil=>cases e
  |cons p ps =>
   cases as with
   |nil=>cases p<;>cases h<;>cases e
   |cons a VA =>
    have Eo:¬(p=true/\h=.slot i)->gK (p::ps) (h::hs) i->gK ps hs i:=λn hz=>by
     obtain⟨j,h1,h2⟩:=hz
     cases j with
     |zero =>
      simp only[ZJ,eC] at h1 h2;exact absurd ⟨h1,h2⟩ n
     |succ j=>exact⟨j,by simpa using h1,by simpa using h2⟩
    have skip:¬(p=true/\h=.slot i)\/¬(∃d p l,U0[i]?=some (.ow d p l))->aAg ps hs VA U0 U=some U'->(U'[i]?=U[i]?\/∃d d' p l,U0[i]?=some (.ow d p l)/\U'[i]?=some (.ow d' p l)) /\
      (gK (p::ps) (h::hs) i->(∃d p l,U0[i]?=some (.ow d p l))->i<U.length->∃d d' p l,U0[i]?=some (.ow d p l)/\U'[i]?=some (.ow d' p l)):=λn e'=>by
     obtain⟨h1,h2⟩:=A5 hs ps VA U U' e' i;refine⟨h1,λl o=>?_⟩;rcases n with n | n
     ·exact h2 (Eo n l) o
     ·exact absurd o n
    cases p with
    |false=>cases h<;>exact skip (.inl (by simp)) e
    |true =>
     cases h with
     |val v=>exact skip (.inl (by simp)) e
     |slot i0 =>
      rcases vf e with ⟨d0,pin,lk,d,p',l',hi,rfl,eg⟩ | ⟨hn1,eg⟩
      ·replace e:=eg;obtain⟨h1,h2⟩:=A5 hs ps VA _ U' e i;by_cases DQ:i=i0
       ·subst DQ;refine⟨?_,λl o hl=>?_⟩
        ·rcases h1 with h1 | h1
         ·by_cases hl:i<U.length
          ·rw[iL hl] at h1;exact .inr ⟨_,_,_,_,hi,h1⟩
          ·exact .inl (by rw[h1,BM (by rw[vH];lia),BM (by lia)])
         ·exact .inr h1
        ·rcases h1 with h1 | h1
         ·rw[iL hl] at h1;exact⟨_,_,_,_,hi,h1⟩
         ·exact h1
       ·rw[EF (λz=>DQ z.symm)] at h1;refine⟨h1,λl o hl=>h2 (Eo (λz=>DQ (by have:=z.2;simp at this;exact this.symm)) l) o (by rw[vH];exact hl)⟩
      ·refine skip ?_ eg;by_cases DQ:i=i0
       ·subst DQ;refine .inr λhz=>?_
        obtain⟨d,p,l,z⟩:=hz;exact hn1 d p l z
       ·exact .inl λz=>DQ (by have:=z.2;simp at this;exact this.symm)
def aW(a:CA K U0 Y H0 G0 U H G)(h:mE K H G (AA U Y) (JE H0) Y hs xs)(e:pF aA f hs U=some (.ok v,U')) :
  ∃as G2 VA,FA K as (xs.map some) H G2/\as.length=aA.length/\f as=some (.ok v,VA)/\(fB G G2/\∀c,AA as (xs.map some) c->AA U Y c\/ZG hs xs c)/\∀x H' G',CA K as (xs.map some) H G2 VA H' G'->MC K H' G' (AA VA (xs.map some)) (JE H) v x ->
   CA K U0 Y H0 G0 U' H' G'/\MC K H' G' (AA U' Y) (JE H0) v x:=by
 unfold pF at e
 cases q:aAj aA hs U with
 |none=>rw[q] at e;cases e
 |some y =>
  obtain⟨as,U1⟩:=y;rw[q] at e;simp only at e
  cases q2:f as with
  |none=>rw[q2] at e;cases e
  |some y =>
   obtain⟨o,VA⟩:=y;rw[q2] at e;simp only at e
   cases q3:aAg aA hs VA U U1 with
   |none=>rw[q3] at e;cases e
   |some U2 =>
    rw[q3] at e;simp only[jF,eC,lE] at e;obtain⟨rfl,rfl⟩:=e;obtain⟨G2,L⟩:=SO hs aA U G xs as U1 a.pA h q;refine⟨as,G2,VA,L.ra, ?_,q2,⟨L.gg,L.ao⟩,λx H' G' b hv=>?_⟩
    ·have:∀(hs:List Hd) (aA:List Bool) (U:Env) (as:List Sl) (U1:Env),aAj aA hs U=some (as,U1)->as.length=aA.length:=by
      intro hs
      induction hs with
      |nil =>
       intro aA U as U1 e;cases aA<;>cases e;rfl
      |cons h hs ih =>
       intro aA U as U1 e
       cases aA with
       |nil=>cases h with
        |slot i=>cases e
        |val v=>cases v<;>cases e
       |cons p ps =>
        have iB:∀{o:Option (List Sl×Env)} {g:Sl},(o.map λ(as,U')=>(g::as,U'))=some (as,U1)->(∀VA U',o=some (VA,U')->VA.length=ps.length)->as.length=(p::ps).length:=by
         intro o g e k
         cases o with
         |none=>cases e
         |some y =>
          obtain⟨VA,U'⟩:=y;simp only[jF,eC,lE] at e;rw[<- e.1,kD,kD,k VA U' rfl]
        cases h with
        |slot i =>
         rw[eX] at e;split at e
         ·exact iB e λVA U' z=>ih _ _ _ _ z
         ·split at e
          ·exact iB e λVA U' z=>ih _ _ _ _ z
          ·split at e
           ·cases e
           ·exact iB e λVA U' z=>ih _ _ _ _ z
         ·cases e
        |val v =>
         cases v with
         |sh d=>exact iB e λVA U' z=>ih _ _ _ _ z
         |ow d=>exact iB e λVA U' z=>ih _ _ _ _ z
         |od d=>cases e
     exact this hs aA U as U1 q
    ·have own_there:∀c,AA as (xs.map some) c->H c≠none:=λc z=>(L.ra.owned z).1
     have rc:FA K U1 Y H' G':=L.rc.keep b.ext (λc z w=>L.an c w z) b.pA.sub;obtain⟨r3,r4⟩:=B5 hs aA VA xs U1 U2 b.pA rc (λc z w=>L.an c (b.own c z) w) h q3
     have v8:∀c,AA U2 Y c->AA U Y c:=λc z=>by
      rcases r4 c z with z | z
      ·exact L.ro c z
      ·exact z
     have aN:∀c,AA as (xs.map some) c->AA U0 Y c\/H0 c=none:=λc z=>by
      rcases L.ao c z with z | z
      ·exact .inl (a.own c z)
      ·exact .inr (h.AN z).2.1
     have Az:IE U U2:=λi=>by
      obtain⟨g1,g2⟩:=A5 hs aA VA U1 U2 q3 i;rcases Gi hs aA U as U1 q i with z | ⟨z,o⟩
      ·rcases g1 with g1 | ⟨d,d',p,l,w1,w2⟩
       ·rw[g1];exact z
       ·rw[w1,w2];exact⟨rfl,rfl⟩
      ·have hl:i<U1.length:=by
        obtain⟨d,p,l,o⟩:=o;rw[L.rc.len,<- a.pA.len];exact(eE.mp o).1
       obtain⟨d,d',p,l,w1,w2⟩:=g2 z o hl;rw[w1,w2];exact⟨rfl,rfl⟩
     refine⟨⟨r3,⟨a.ext.gg.trans ((Sm.of L.gg).trans b.ext.gg),λc o hc nc=>?_,λc z=>a.ext.hx c (b.ext.hx c z),λc hc gc nc=>?_⟩,a.qK.trans Az⟩, ?_⟩
     ·refine b.ext.hh c o (a.ext.hh c o hc nc) λz=>?_
      rcases aN c z with z | z
      ·exact nc z
      ·rw[hc] at z;cases z
     ·have iI:H c≠none:=λz=>hc (a.ext.hx c z)
      have g1:G c=none:=a.ext.gn c hc gc nc
      have g2:G2 c=none:=by
       cases w:G2 c with
       |none=>rfl
       |some o =>
        rcases L.gn c (by rw[w];simp) with z | z | z
        ·exact absurd g1 z
        ·exact absurd (a.own c z) nc
        ·exact absurd (h.AN z).2.1 hc
      refine b.ext.gn c iI g2 λz=>?_
      rcases aN c z with z | z
      ·exact nc z
      ·exact hc z
     ·cases v with
      |sh d=>exact hv
      |ow d =>
       obtain⟨c,rfl,g,o,n,m⟩:=hv;exact⟨c,rfl,g,o,λz=>(a.pA.owned (v8 c z)).1 m,a.ext.hx c m⟩
      |od d =>
       obtain⟨c,rfl,g,o,n,m,vs,hv,hr⟩:=hv;exact⟨c,rfl,g,o,λz=>(a.pA.owned (v8 c z)).1 m,a.ext.hx c m,vs,hv,λx hx=>let ⟨b,ws,h1,h2,h3,h4,h5,h6⟩:=hr x hx;⟨b,ws,h1,h2,h3,λz=>(a.pA.owned (v8 b z)).1 h5,a.ext.hx b h5,h6⟩⟩
def uX(x:Exc)(o:zA RV):zA RV :=
 match o with
 |some (Out.ex y,VA)=>@ite _ (y=x) (cl _) (some (Out.ok (.sh .iA),VA)) none
 |_=>none
def wLa(h:uX x o=some (.ok v,VA)):o=some (.ex x,VA):=by
 unfold uX at h;split at h
 ·split at h
  ·rename_i hy;cases h;rw[hy]
  ·cases h
 ·cases h
def Vx(a:CA K U0 Y H0 G0 U H G)(h:mE K H G (AA U Y) (JE H0) Y hs xs)(e:pF aA f hs U=some (.ex x,U')) :
  ∃as G2 VA,FA K as (xs.map some) H G2/\as.length=aA.length/\f as=some (.ex x,VA)/\∀H' G',CA K as (xs.map some) H G2 VA H' G'->CA K U0 Y H0 G0 U' H' G':=by
 have e':pF aA (λas=>uX x (f as)) hs U=some (.ok (.sh .iA),U'):=by
  unfold pF at e ⊢
  cases q:aAj aA hs U with
  |none=>rw[q] at e;cases e
  |some y =>
   obtain⟨as,U1⟩:=y;rw[q] at e;simp only at e ⊢
   cases q2:f as with
   |none=>rw[q2] at e;cases e
   |some y =>
    obtain⟨o,VA⟩:=y;rw[q2] at e;simp only at e
    cases q3:aAg aA hs VA U U1 with
    |none=>rw[q3] at e;cases e
    |some U2 =>
     rw[q3] at e;simp only[jF,eC,lE] at e;obtain⟨rfl,rfl⟩:=e;have z:uX x (some (.ex x,VA))=some (.ok (.sh .iA),VA):=QA rfl;rw[z];simp only[q3,jF]
 obtain⟨as,G2,VA,h1,h2,h3,_,h4⟩:=aW a h e';exact⟨as,G2,VA,h1,h2,wLa h3,λH' G' b=>(h4 .iA H' G' b (by show jA K G' .iA _;simp[jA])).1⟩
end
inductive GV where
 |no | c (d:D) | fn (f:String) | vB | cls (ns:List bA) | yF (tb:List (bA×String)) | sub (s n:List bA) | bJ (s n:List bA) | exc | sJ | DA (cs:List bA)
structure CC where
 N:List bA
 names:List (bA×WJ)
 gl:bA->GV
 top:Bool
noncomputable def CC.L6(Z:CC)(x:bA):Bool:=Z.names.lookup x==some .globalImplicit
noncomputable def CC.dh(Z:CC)(x:bA):Bool:=Z.names.lookup x==some .local||Z.names.lookup x==some .cell||Z.names.lookup x==some .free
noncomputable def yL(x:bA):Bool:=x==("__debug__":bA)||x==("__classdict__":bA)||x==("__name__":bA)
def CC.slot(Z:CC)(x:bA):Option Nat:=if yL x then none else if Z.dh x then Z.N.idxOf? x else none
def CC.glob(Z:CC)(x:bA):GV:=if yL x then .no else if Z.L6 x then Z.gl x else .no
def fO(Z:CC)(x:bA):E :=
 match Z.slot x with
 |some i=>.v i
 |none=>match Z.glob x with
  |.c d=>.c d
  |_=>.oA
noncomputable def OV:Const->E
 |.none=>.c .iA
 |.bool b=>.c (.bl b)
 |.int i=>.c (.int i)
 |.str s=>if HP s then .c (.str s) else .oA
 |_=>.oA
noncomputable def YZ(f:bA):Option BI :=
 if f=("len":bA) then some .len else if f=("abs":bA) then some .abs else if f=("int":bA) then some .int else if f=("list":bA) then some .list
 else if f=("tuple":bA) then some .tuple else if f=("max":bA) then some .max else if f=("all":bA) then some .all else none
def JV(f:bA):Option BI:=if f=("sum":bA) then some .sum else YZ f
def aY(Z:CC):xA->Option Ty
 |.Name x _=>match Z.glob x with
  |.vB=>if x=("int":bA) then some .int else if x=("bool":bA) then some .bool else if x=("tuple":bA) then some .tuple else none
  |_=>none
 |_=>none
def oC{p:Prop}(h:false=true):p:=nomatch h
def IG{p:Prop}(h:none=some a):p:=nomatch h
noncomputable def aAr:xA->Option bA
 |.Name x _=>some x
 |_=>none
noncomputable def aU:E->E
 |.TF=>.oA
 |c=>c
noncomputable def aAe:xA->Bool
 |.Starred _ _=>false
 |_=>true
noncomputable def col(x:bA):bA:=⟨#[58]++x.cps⟩
noncomputable def cat(x:bA):bA:=⟨#[94]++x.cps⟩
def CC.vQ(Z:CC)(x:bA):GV:=if yL x then .no else if Z.L6 x then Z.gl (cat x) else .no
noncomputable def um(Z:CC)(t:xA)(a:E):E:=.oA
def fN(Z:CC)(args:List xA)(cs:List E):E :=
 match args,cs with
 |[_,t],[a,_]=>(match aY Z t with | some ty=>.dN a [ty] | none=>um Z t a)
 |_,_=>.oA
noncomputable def aAU:xA->Option Int
 |.Constant (.int a) _ _=>some a
 |_=>none
noncomputable def YV(cs es:List E):E:=match cs,es with
 |[c],[e]=>.sS c e
 |_,_=>.oA
noncomputable def ue:E:=.oA
def we(k v:xA)(cs es:List E):E:=YV cs es
def ZV(ks:List (Option xA))(vs:List xA)(cs es:List E):E:=match ks with
 |[]=>(match vs with | []=>ue | _::_=>.oA)
 |k::r=>(match r with
  |_::_=>.oA
  |[]=>(match k with
   |none=>.oA
   |some k=>(match vs with
    |[]=>.oA
    |v::r=>(match r with | _::_=>.oA | []=>we k v cs es))))
noncomputable def pDa(Z:CC):Bool:=match Z.gl ("{}":bA) with
 |.vB=>true
 |_=>false
noncomputable def uS(z:Bool)(ks:List (Option xA))(vs:List xA)(c:E):E:=match z,ks,vs with
 |true,[],[]=>.oO
 |_,_,_=>c
noncomputable def dot(m:bA):bA:=⟨#[46]++m.cps⟩
noncomputable def qZa(Z:CC)(x m:bA)(HB mC:XB)(a:xA):E:=.oA
noncomputable def X0(ks:List (Option xA))(vs:List xA)(es:List E)(c:E):E:=c
def fS(Z:CC)(x m:bA)(HB mC:XB)(a:xA)(c:E):E :=
 if aAe a&&(HB.endLine==mC.line)&&(m==("append":bA)) then(match Z.slot x with | some i=>.app i c | none=>.oA) else if aAe a&&(HB.endLine==mC.line)&&(m==("extend":bA)) then(match Z.slot x with | some i=>.ext i c | none=>.oA) else if aAe a&&(HB.endLine==mC.line)&&(m==("pop":bA)) then .oA else qZa Z x m HB mC a
def eS(Z:CC)(x m:bA)(HB mC:XB):E:=if(HB.endLine==mC.line)&&(m==("bit_length":bA)) then .oA else
 if(HB.endLine==mC.line)&&(m==("pop":bA)) then(match Z.slot x with | some i=>.kR i | none=>.oA) else .oA
def EZ(Z:CC)(x m:bA)(HB mC:XB)(args:List xA)(cs:List E):E:=match args,cs with
 |[a],[c]=>fS Z x m HB mC a c
 |[],[]=>eS Z x m HB mC
 |_,_=>.oA
def gS(Z:CC)(x m:bA)(HB mC:XB)(args:List xA)(cs:List E):E :=
 match Z.gl (dot m) with
 |.yF tb=>if args.all aAe&&(HB.endLine==mC.line)&&decide (args.length<29) then(match Z.slot x with | some i=>.JJ i m tb cs | none=>.oA) else .oA
 |_=>EZ Z x m HB mC args cs
def WT(Z:CC)(m:bA)(HB mC:XB)(args:List xA)(a:E)(cs:List E):E :=
 match Z.gl (dot m) with
 |.yF tb=>if args.all aAe&&(HB.endLine==mC.line)&&decide (args.length<29) then .oA else .oA
 |_=>.oA
noncomputable def P6:xA->Bool
 |.Call (.Name f _) [_] [] _=>f==("set":bA)
 |_=>false
def dX(args:List xA)(cs:List E):E :=
 match args,cs with
 |[a],[.YQ c]=>if P6 a then .XO c else .bif .len cs
 |_,_=>.bif .len cs
noncomputable def aAP(cs:List E):E :=
 match cs with
 |[c]=>.YQ c
 |_=>.oA
noncomputable def P7(args:List xA)(cs:List E):E:=.bif .list cs
def zL(f:bA)(args:List xA)(cs:List E):E :=
 if f=("len":bA) then dX args cs else if f=("set":bA) then aAP cs else if f=("range":bA) then .oA else if f=("list":bA) then P7 args cs else(match JV f with | some b=>.bif b cs | none=>.oA)
noncomputable def DT:xA->Bool
 |.ListComp _ _ _ _=>true
 |_=>false
noncomputable def YD:xA->Bool
 |.ListComp _ _ _ _=>false
 |.SetComp _ _ _ _=>false
 |.DictComp _ _ _ _ _=>false
 |_=>true
noncomputable def eR:xA->Bool
 |.Slice _ _ _ _=>false
 |_=>true
noncomputable def cR:xA->Bool
 |.Set _ _ _=>false
 |_=>true
noncomputable def bU:xA->Bool
 |.Tuple _ _ _=>false
 |_=>true
noncomputable def CC.OO(Z:CC)(x:bA):Bool:=Z.names.lookup x==some .local||(Z.top&&Z.names.lookup x==some .cell)
def CC.bF(Z:CC)(x:bA):Option Nat:=if Z.OO x then Z.slot x else none
def E9(Z:CC):xA->Option Nat
 |.Name x _=>Z.bF x
 |_=>none
def UK(Z:CC):List xA->Option (List Nat)
 |[]=>some []
 |e::es=>(E9 Z e).bind λi=>(UK Z es).map (i :: ·)
def NG(Z:CC):xA->Option (Bool×List Nat)
 |.Name x _=>(Z.bF x).map λi=>(true,[i])
 |.Tuple es _ _=>(UK Z es).map λis=>(false,is)
 |_=>none
noncomputable def pX:xA->Option (bA×XB)
 |.Name f p=>some (f,p)
 |_=>none
def QQ:xA->Option ((bA×XB)×List xA×XB)
 |.Call fn args NK pos=>(match NK with
  |[]=>(pX fn).map λq=>(q,args,pos)
  |_::_=>none)
 |_=>none
noncomputable def aAS:List O->Option O
 |[]=>none
 |a::r=>(match r with | []=>some a | _::_=>none)
def VW:xA->Option (bA×xA×bA×Int)
 |.Call fn args NK _=>(pX fn).bind λq=>(aAS args).bind λa=>(aAS NK).bind λk=>k.arg.bind λx=>(aAU k.value).map λc=>(q.1,a,x,c)
 |_=>none
def JK(Z:CC)(e:xA):Option (kF×List xA):=match QQ e with
 |some x=>if(x.1.1==("range":bA)) then
   (match Z.glob x.1.1 with
   |.vB=>if x.2.1.all aAe&&(x.2.1.length==1||x.2.1.length==2) then some (.MB,x.2.1) else none
   |_=>none)
  else if(x.1.1==("enumerate":bA)) then
   (match Z.glob x.1.1 with
   |.vB=>if x.2.1.all aAe&&(x.2.1.length==1) then some (.enum 0,x.2.1) else none
   |_=>none)
  else some (.of,[e])
 |none=>(match VW e with
  |some x=>if x.1==("enumerate":bA)&&x.2.2.1==("start":bA)&&aAe x.2.1&&x.2.2.2==1 then
    (match Z.glob x.1 with
    |.vB=>some (.enum 1,[x.2.1])
    |_=>none)
   else none
  |none=>if cR e then some (.of,[e]) else none)
def lj(h:pX e=some x):e=.Name x.1 x.2:=by
 unfold pX at h;split at h
 ·cases h;rfl
 ·cases h
def UW(h:QQ e=some ((f,p),args,pos)):e=.Call (.Name f p) args [] pos:=by
 unfold QQ at h;split at h
 ·rename_i fn as NK ps
  cases NK with
  |nil =>
   obtain⟨q,hq,h⟩:=zM.mp h;cases h;rw[lj hq]
  |cons=>cases h
 ·cases h
def aw(h:aAU e=some a):∃j q,e=.Constant (.int a) j q:=by
 unfold aAU at h;split at h
 ·cases h;exact⟨_,_,rfl⟩
 ·cases h
def Gj(h:aAS l=some a):l=[a]:=by
 cases l with
 |nil=>cases h
 |cons b r =>
  cases r with
  |nil=>cases h;rfl
  |cons=>cases h
def zDa(h:VW e=some (f,a,x,c)):∃p j q kp pos,e=.Call (.Name f p) [a] [⟨some x,.Constant (.int c) j q,kp⟩] pos:=by
 unfold VW at h;split at h
 ·obtain⟨q,hq,h⟩:=MP.mp h;obtain⟨b,hb,h⟩:=MP.mp h;obtain⟨k,hk,h⟩:=MP.mp h;obtain⟨y,hy,h⟩:=MP.mp h;obtain⟨d,hd,h⟩:=zM.mp h;cases h;obtain⟨j,z,e⟩:=aw hd;obtain⟨ka,kv,kp⟩:=k;cases hy;cases e;rw[lj hq,Gj hb,Gj hk];exact⟨_,_,_,_,_,rfl⟩
 ·cases h
noncomputable def O6:xA->Bool
 |.Slice none none (some (.UnaryOp .USub (.Constant (.int i) _ _) _)) _=>i==1
 |_=>false
noncomputable def aAu(scope:cG):List bA:=(scope.names.filter λp=>p.2==NameKind.free).map (·.1)
noncomputable def aAt(scope:cG):List bA:=(scope.names.filter λp=>p.2==NameKind.local).map (·.1)
def CC.inner(Z:CC)(scope:cG):CC :=
 ⟨aAu scope++aAt scope,scope.names.map λ(n,k)=>if(k==NameKind.free&&Z.names.lookup n==some .cell) then(n,NameKind.cell) else(n,k),Z.gl,false⟩
noncomputable def CC.IK(Z:CC):List bA->Option (List Nat)
 |[]=>some []
 |x::xs=>(Z.N.idxOf? x).bind λi=>(Z.IK xs).map (i :: ·)
def CC.W8(Z:CC)(scope:cG):Bool:=(scope.kind==ScopeKind.function)&&(scope.names.all λp=>p.2 != NameKind.cell)&&(scope.names.all λp=>p.2 != NameKind.local||scope.names.lookup p.1==some NameKind.local) &&
 (scope.names.all λp=>p.2 != NameKind.free||(scope.names.lookup p.1==some NameKind.free&&(Z.names.lookup p.1==some NameKind.cell||Z.names.lookup p.1==some NameKind.free)))&&decide (aAu scope++aAt scope).Nodup
noncomputable def jh(k:kF)(ci:E)(aH:List E):List E:=match k with
 |.of=>[ci]
 |_=>aH
noncomputable def TK(k:kF)(one:Bool):Bool:=match k with
 |.enum _=>!one
 |_=>true
noncomputable def iWa(iter:xA):Bool:=false
def N7(Z:CC):xA->Option Nat
 |.Name x _=>if x==("listed":bA) then Z.slot x else none
 |_=>none
def bI(Z:CC)(scope:cG)(tg iter:xA)(ci:E)(aH cond:List E)(ce:E):E :=
 if Z.W8 scope then
  match Z.IK (aAu scope),NG (Z.inner scope) tg,JK Z iter with
  |some imp,some (one,is),some (k,_)=>if iWa iter then(if one==(is.length==1) then .comp ce is .sig [ci] cond imp (aAt scope).length else .oA) else match N7 Z iter with | some i=>(if one==(is.length==1) then .comp ce is .key [.OD i] cond imp (aAt scope).length else .oA) | none=>if one==(is.length==1)&&TK k one&&k != .enum 1 then .comp ce is k (jh k ci aH) cond imp (aAt scope).length else .oA
  |_,_,_=>.oA
 else .oA
mutual
noncomputable def cE(Z:CC):xA->E
 |.Name x _=>fO Z x
 |.Constant c _ _=>OV c
 |.Tuple es _ _=>if es.all aAe then .t (oB Z es) else .oA
 |.List es _=>if es.all aAe then .l (oB Z es) else .oA
 |.Dict ks vs _=>X0 ks vs (oB Z vs) (uS (pDa Z) ks vs (ZV ks vs (J0 Z ks) (oB Z vs)))
 |.BinOp a op b _=>.lA op (cE Z a) (cE Z b)
 |.UnaryOp .Not a _=>.not (cE Z a)
 |.UnaryOp .USub a _=>.neg (cE Z a)
 |.Compare a [op] [b] _=>if aL op b then .oA else .qA op (cE Z a) (cE Z b)
 |.Compare a [op,rC] [b,c] _=>if aL rC c then .oA else .lG op rC (cE Z a) (cE Z b) (cE Z c)
 |.BoolOp .And (a::b::r) _=>.and (cE Z a) (A0 Z (b::r))
 |.BoolOp .Or (a::b::r) _=>.or (cE Z a) (I0 Z (b::r))
 |.IfExp c a b _=>.oA
 |.Subscript a (.Slice lo hi none _) _=>.sl (cE Z a) (cO Z lo) (cO Z hi)
 |.Subscript a i _=>if O6 i then .oA else .ix (cE Z a) (cE Z i)
 |.Call (.Name f _) args [] _=>if args.all aAe&&decide (args≠[]) then
   match Z.glob f with
   |.fn g=>.call g (oB Z args)
   |.cls ns=>.make f ns (oB Z args)
   |.vB=>if f=("isinstance":bA) then fN Z args (oB Z args)
     else zL f args (oB Z args)
   |_=>.oA
  else .oA
 |.Call (.Attribute (.Name x _) m HB) args [] mC=>gS Z x m HB mC args (oB Z args)
 |.Call (.Attribute (.Call g (a0::TM) kw p) m HB) args [] mC=>WT Z m HB mC args (cE Z (.Call g (a0::TM) kw p)) (oB Z args)
 |.Attribute (.Name x _) f _=>.fld (fO Z x) f
 |.ListComp JA [⟨tg,iter,[],0⟩] scope _=>bI Z scope tg iter (cE Z iter) (VM Z iter) [] (cE (Z.inner scope) JA)
 |.ListComp JA [⟨tg,iter,[c],0⟩] scope _=>bI Z scope tg iter (cE Z iter) (VM Z iter) [cE (Z.inner scope) c] (cE (Z.inner scope) JA)
 |_=>.oA
noncomputable def VM(Z:CC):xA->List E
 |.Call _ args _ _=>oB Z args
 |_=>[]
noncomputable def oB(Z:CC):List xA->List E
 |[]=>[]
 |e::es=>cE Z e::oB Z es
noncomputable def J0(Z:CC):List (Option xA)->List E
 |[]=>[]
 |o::os=>cO Z o::J0 Z os
noncomputable def A0(Z:CC):List xA->E
 |[]=>.oA
 |[a]=>cE Z a
 |a::b::r=>.and (cE Z a) (A0 Z (b::r))
noncomputable def I0(Z:CC):List xA->E
 |[]=>.oA
 |[a]=>cE Z a
 |a::b::r=>.or (cE Z a) (I0 Z (b::r))
noncomputable def cO(Z:CC):Option xA->E
 |none=>.TF
 |some e=>aU (cE Z e)
end
def AU(K:fA)(n:Nat)(run:List Sl->zA RV):Sp:=λvs H Q _=>vs.length=n/\∃(as:List Sl) (G:Hp) (v:RV) (VA:List Sl),FA K as (vs.map some) H G/\as.length=n/\run as=some (.ok v,VA) /\
 ∀x H' G',CA K as (vs.map some) H G VA H' G'->MC K H' G' (AA VA (vs.map some)) (JE H) v x->Q x H'
structure FnAt(X:Cx)(K:fA)(x:bA)(n:Nat)(run:List Sl->zA RV):Prop where
 ex:∃(fa:gA) (fd:SH) (ps:List bA) (k:Nat),oF X.prog X.w X.K X.mg X.base kJ k fa fd ps (AU K n run)/\KC k X.A/\X.mg x=some (.ref fa)/\wH X.K (.ref fa)=true/\aAs X.K fd ps []
def Pl(K:fA)(ns:List bA):Sp:=λvs H Q _=>∃a C dx xs,vs=.ref a::xs/\xs.length=ns.length/\H a=some (.ins C dx [])/\pV K C ns/\Q .iA (GA H a (.ins C dx (ns.zip xs)))
structure kZ(X:Cx)(K:fA)(x:bA)(ns:List bA):Prop where
 ex:∃(Ca fa:gA) (fd:SH) (ps:List bA),WC K TB x=some (some (.ref Ca))/\X.mg x=some (.ref Ca)/\Mk X.K Ca fa/\pV K Ca ns/\oF X.prog X.w X.K X.mg X.base kJ 1 fa fd ps (Pl K ns)/\aAs X.K fd ps []
structure MethAt(X:Cx)(K:fA)(c m:bA)(n:Nat)(run:List Sl->zA RV):Prop where
 ex:∃(Ca fa:gA) (fd:SH) (ps:List bA) (k:Nat),WC K TB c=some (some (.ref Ca))/\Meth X.K Ca m fa/\oF X.prog X.w X.K X.mg X.base kJ k fa fd ps (AU K n run)/\KC k X.A/\aAs X.K fd ps []/\fE K Ca
structure Sr(K:fA)(D C:gA):Prop where
 a:Vq K D C=true
 b:GR K D "__class__"=true
 c:TU K D=true
 d:fG K (.ref D) "__class__"=some (some (.builtin "object.__class__"))
 e:Kq K (.builtin "object.__class__") "__get__"=some (some (.builtin "getset_descriptor.__get__"))
 f:Wq K (.builtin "object.__class__")=some true
 g:SJ K D (.type "object")=some true
structure vV(K:fA)(mg:bA->Option eA)(x:bA)(s n:List bA):Prop where
 ex:∃C,mg x=some (.ref C)/\(∀c∈s,∀Ca,WC K TB c=some (some (.ref Ca))->xr K (.ref Ca) C=true)/\∀c∈n,∀Ca,WC K TB c=some (some (.ref Ca))->Sr K Ca C
def Ql(K:fA)(n:Nat)(run:List Sl->zA RV):Sp:=λvs H _ E=>vs.length=n/\∃(as:List Sl) (G:Hp) (x:Exc) (VA:List Sl),FA K as (vs.map some) H G/\as.length=n/\run as=some (.ex x,VA) /\
 ∀H' G' C p,CA K as (vs.map some) H G VA H' G'->WC K TB x.cls=some (some (.ref C))->SN K C->ZP K G' C p x->E (.ref C) p H'
structure aZ(X:Cx)(K:fA)(x:bA)(n:Nat)(run:List Sl->zA RV):Prop where
 ex:∃(fa:gA) (fd:SH) (ps:List bA) (k:Nat),oF X.prog X.w X.K X.mg X.base (fK X.prog X.w) k fa fd ps (Ql K n run)/\KC k X.A/\X.mg x=some (.ref fa)/\wH X.K (.ref fa)=true/\aAs X.K fd ps []
structure ExcAt(K:fA)(mg:bA->Option eA)(x:bA):Prop where
 ex:∃C,WC K TB x=some (some (.ref C))/\mg x=some (.ref C)/\SN K C/\pL K C none
structure sV(X:Cx)(K:fA)(x:bA):Prop where
 ex:True
structure UR(K:fA)(mg:bA->Option eA)(x:bA)(cs:List bA):Prop where
 ex:∃D,mg x=some (.ref D)/\(∃i,pL K D i)/\∀c∈cs,∀C,WC K TB c=some (some (.ref C))->SJ K C (.ref D)=some true
structure wV(K:fA)(mg:bA->Option eA)(x:bA)(s n:List bA):Prop where
 ex:∃D,mg x=some (.ref D)/\(∀c∈s,∀C,WC K TB c=some (some (.ref C))->xr K (.ref C) D=true)/\∀c∈n,∀C,WC K TB c=some (some (.ref C))->Vq K C D=true
structure EC(q:Bool)(X:Cx)(K:fA)(P:ZA)(C:Calls)(Z:CC):Prop where
 gD:X.K=K
 oI:X.N=Z.N
 nm:X.env.scope.names=Z.names
 nd:Z.N.Nodup
 c:∀x d,Z.gl x=.c d->∃u v,X.mg x=some u/\aAf v u/\∀G,jA K G d v
 vB:∀x,Z.gl x=.vB->X.mg x=none
 sub:∀x s n,Z.gl (col x)=.sub s n->vV K X.mg x s n
 bJ:∀x s n,Z.gl (col x)=.bJ s n->wV K X.mg x s n
 cond:q=true->X.calm=true/\X.A.handled=none/\X.A.units+64<cLine/\(∀x f,Z.gl x=.fn f->FnAt X K x (P f).length (C f))/\(∀x ns,Z.gl x=.cls ns->kZ X K x ns) /\
  (∀m tb c f,Z.gl (dot m)=.yF tb->tb.lookup c=some f->MethAt X K c m (P f).length (C f))/\KC 2 X.A/\((∀x,Z.gl x=.exc->ExcAt K X.mg x)/\∀x,Z.gl x=.sJ->sV X K x)/\(∀x cs,Z.gl (cat x)=.DA cs->UR K X.mg x cs)/\(∀x f,Z.gl x=.fn f->aZ X K x (P f).length (C f))/\∃KI gU L,X.stack=KI::gU/\KI.frame=some L/\X.env.frame=some L
abbrev SA(X:Cx)(K:fA)(P:ZA)(C:Calls)(Z:CC):Prop:=EC true X K P C Z
section
variable{X:Cx}{K:fA}{P:ZA}{C:Calls}{Z:CC}
theorem EC.calm(o:EC true X K P C Z):X.calm=true:=(o.cond rfl).1
theorem EC.hh(o:EC true X K P C Z):X.A.handled=none:=(o.cond rfl).2.1
def EC.hu(o:EC true X K P C Z):X.A.units+64<cLine:=(o.cond rfl).2.2.1
theorem EC.fn(o:EC true X K P C Z):∀x f,Z.gl x=.fn f->FnAt X K x (P f).length (C f):=(o.cond rfl).2.2.2.1
theorem EC.cls(o:EC true X K P C Z):∀x ns,Z.gl x=.cls ns->kZ X K x ns:=(o.cond rfl).2.2.2.2.1
theorem EC.yF(o:EC true X K P C Z):∀m tb c f,Z.gl (dot m)=.yF tb->tb.lookup c=some f->MethAt X K c m (P f).length (C f):=(o.cond rfl).2.2.2.2.2.1
def EC.rm(o:EC true X K P C Z):KC 2 X.A:=(o.cond rfl).2.2.2.2.2.2.1
theorem EC.exc(o:EC true X K P C Z):∀x,Z.gl x=.exc->ExcAt K X.mg x:=(o.cond rfl).2.2.2.2.2.2.2.1.1
theorem EC.sJ(o:EC true X K P C Z):∀x,Z.gl x=.sJ->sV X K x:=(o.cond rfl).2.2.2.2.2.2.2.1.2
theorem EC.DA(o:EC true X K P C Z):∀x cs,Z.gl (cat x)=.DA cs->UR K X.mg x cs:=(o.cond rfl).2.2.2.2.2.2.2.2.1
def EC.fnX(o:EC true X K P C Z):∀x f,Z.gl x=.fn f->aZ X K x (P f).length (C f):=(o.cond rfl).2.2.2.2.2.2.2.2.2.1
def EC.tp(o:EC true X K P C Z):∃KI gU L,X.stack=KI::gU/\KI.frame=some L/\X.env.frame=some L:=(o.cond rfl).2.2.2.2.2.2.2.2.2.2
def SA.of(gD:X.K=K)(oI:X.N=Z.N)(nm:X.env.scope.names=Z.names)(nd:Z.N.Nodup)(calm:X.calm=true)(hh:X.A.handled=none)(hu:X.A.units+64<cLine)
  (c:∀x d,Z.gl x=.c d->∃u v,X.mg x=some u/\aAf v u/\∀G,jA K G d v) (vB:∀x,Z.gl x=.vB->X.mg x=none) (fn:∀x f,Z.gl x=.fn f->FnAt X K x (P f).length (C f)) (cls:∀x ns,Z.gl x=.cls ns->kZ X K x ns)
  (yF:∀m tb c f,Z.gl (dot m)=.yF tb->tb.lookup c=some f->MethAt X K c m (P f).length (C f)) (rm:KC 2 X.A) (sub:∀x s n,Z.gl (col x)=.sub s n->vV K X.mg x s n) (bJ:∀x s n,Z.gl (col x)=.bJ s n->wV K X.mg x s n)
  (exc:(∀x,Z.gl x=.exc->ExcAt K X.mg x)/\∀x,Z.gl x=.sJ->sV X K x) (DA:∀x cs,Z.gl (cat x)=.DA cs->UR K X.mg x cs) (fnX:∀x f,Z.gl x=.fn f->aZ X K x (P f).length (C f)) (tp:∃KI gU L,X.stack=KI::gU/\KI.frame=some L/\X.env.frame=some L):SA X K P C Z :=
 ⟨gD,oI,nm,nd,c,vB,sub,bJ,λ_=>⟨calm,hh,hu,fn,cls,yF,rm,exc,DA,fnX,tp⟩⟩
end
structure NA(X:Cx)(K:fA)(P:ZA)(C:Calls)(e:xA)(c:E):Prop where
 v:PE X e (tE K P C c)
 t:PT X e (tT K P C c)
 h:PE X e (tH K P C c)
section
variable{K:fA}
def Wc(h:∀t U,ev P C t c U=none)(n:∀i,c≠.v i):NA X K P C e c:=by
 have v:PE X e (tE K P C c):=λaA s Y H Q I hz=>by obtain⟨U,G,w,U',r,z,k⟩:=hz;rw[h] at z;cases z
 exact⟨v,(λaA s Y H Q I ⟨U,G,w,U',r,z,k⟩=>by rw[h] at z;cases z),wR v n⟩
def yB:NA X K P C e .oA:=Wc (λt U=>rfl) λi z=>nomatch z
def XE(xo:EC q X K P C Z)(h:PE X e (tE K P C c))(n:∀i,c≠.v i:=by exact λi z=>nomatch z)(hw:∀U,ev P C true c U=aAh true (ev P C false c U):=by exact λU=>rfl)
  (he:∀whole,isTrue e X.env whole=(do let v <- whole;standAt e.pos;holding [v] (truthy v)):=by exact λ_=>rfl):NA X K P C e c:=⟨h,jTa xo.gD h hw he,wR h n⟩
def MW[BEq O][LawfulBEq O]{l:List O}(h:l.idxOf? x=some i):l[i]?=some x:=by
 rw[List.idxOf?,List.findIdx?_eq_some_iff_getElem] at h;obtain⟨h1,h2,_⟩:=h;rw[XC h1];exact congrArg some (GC h2)
def CC.dP(xo:EC q X K P C Z)(h:Z.slot x=some i):PE X (.Name x pos) (wN i):=by
 unfold CC.slot at h;split at h
 ·cases h
 ·rename_i hb;split at h
  ·rename_i hv;simp only[yL,rM,not_or,xY] at hb;refine B8 (by rw[xo.oI];exact MW h) ?_ hb.1.1 hb.1.2;unfold CC.dh at hv;simp only[rM,VJ] at hv;unfold cQ;rw[xo.nm];rcases hv with (h | h) | h
   ·exact .inl h
   ·exact .inr (.inl h)
   ·exact .inr (.inr h)
  ·cases h
def CC.CG(xo:EC q X K P C Z)(h:Z.glob x=g)(hg:g≠.no):Gl X x/\Z.gl x=g/\(x==("__debug__":bA))=false/\x≠"__name__":=by
 unfold CC.glob at h;split at h
 ·exact absurd h.symm hg
 ·rename_i hb;split at h
  ·rename_i hv;simp only[yL,rM,not_or,xY] at hb;refine⟨?_,h,hb.1.1,λz=>?_⟩
   ·unfold Gl Env.kindOf;rw[xo.nm];unfold CC.L6 at hv;simpa using hv
   ·have:=hb.2
    rw[z] at this;simp at this
  ·exact absurd h.symm hg
def eU(xo:EC q X K P C Z)(h:PE X e (tC v))(r:∀G,jA K G d v)(he:∀whole,isTrue e X.env whole=(do let v <- whole;standAt e.pos;holding [v] (truthy v))):NA X K P C e (.c d):=by
 refine XE xo (TE.KD h λY H Q q=>?_) (λi z=>nomatch z) (λU=>rfl) he;obtain⟨U,G,w,U',r',z,k⟩:=q;cases z;exact k v H G (CA.refl r') (r G)
def Ej(xo:EC q X K P C Z)(x:bA)(pos:XB):NA X K P C (.Name x pos) (fO Z x):=by
 unfold fO;split
 ·rename_i i hi;have hp:=CC.dP xo hi (pos:=pos);refine⟨Xj hp, ?_,mQa hp⟩
  -- a test of a local: looked at
  refine TT.vT (Dk hp λ_=>rfl) λY H Q q=>?_
  obtain⟨U,G,b,U',r,e1,k⟩:=q;obtain⟨u,b',e2,e3,e4⟩:=Oo e1;cases e4
  cases w:(U[i]?).bind Sl.get with
  |none=>rw[w] at e2;cases e2
  |some d =>
   rw[w] at e2;simp only[jF,eC,lE,Out.ok.injEq] at e2;obtain⟨rfl,rfl⟩:=e2;obtain⟨x,hx⟩:=r.bound (by rw[w];rfl);exact⟨x,hx,b,by rw[xo.gD];exact M9 r.sub (r.get w hx) e3,k H G (CA.refl r)⟩
 ·split
  ·rename_i d hd;obtain⟨h1,h2,h3,h4⟩:=CC.CG xo hd (λz=>nomatch z);obtain⟨u,v,hm,hr,r6⟩:=xo.c x d h2;exact eU xo (bQa h1 hm hr h3) r6 λ_=>rfl
  ·exact yB
def pMa(xo:EC q X K P C Z)(c:Const)(k:Nat)(pos:XB):NA X K P C (.Constant c k pos) (OV c):=by
 cases c with
 |none=>exact eU xo Vj (λG=>by simp[jA]) λ_=>rfl
 |bool b=>exact eU xo sPa (λG=>by simp[jA]) λ_=>rfl
 |int i=>exact eU xo Tj (λG=>by simp[jA]) λ_=>rfl
 |str s =>
  simp only[OV];split
  ·rename_i h;exact eU xo jQa (λG=>by simp only[jA];exact⟨trivial,h⟩) λ_=>rfl
  ·exact yB
 |_=>exact yB
def cD(h:aAe e=true)(es:List xA)(env:uM):bC (e::es) env=(false,eval e env)::bC es env:=by
 cases e<;>first | rfl | cases h
def mPa:PA X [] (tN K P C []):=by
 refine TA.uT ZO λY H Q q=>?_
 obtain⟨U,G,ds,U',r,e,k⟩:=q;simp only[qF,eC,lE,Out.ok.injEq] at e;obtain⟨rfl,rfl⟩:=e;exact k [] H G (CA.refl r) kA.nil
def kPa(h:NA X K P C e c)(t:PA X es (tN K P C cs))(ns:aAe e=true):PA X (e::es) (tN K P C (c::cs)):=by
 refine TA.uT (lM h.v t (cD ns _ _)) λY H Q q=>?_
 obtain⟨U,G,ds,U',r,e,k⟩:=q;rw[qF] at e;obtain⟨v,U1,e1,e2⟩:=xB e;obtain⟨DH,U2,e3,e4⟩:=xB e2;cases e4;refine⟨U,G,v,U1,r,e1,λx H1 G1 a1 hx=>?_⟩;obtain⟨Ir,Lc,rx⟩:=a1.share hx;refine⟨U1,Ir,DH,_,Lc.pA,e3,λxs H2 G2 a2 cN=>?_⟩;exact k (x::xs) H2 G2 (Lc.trans a2) (kA.cons (jA.mono a2.ext.gg _ rx) cN)
def nPa:PA X [] (kH K P C []):=by
 refine TA.uT ZO λY H Q q=>?_
 obtain⟨U,G,ds,U',r,e,k⟩:=q;simp only[eD,eC,lE,Out.ok.injEq] at e;obtain⟨rfl,rfl⟩:=e;exact k [] H G (CA.refl r) rfl
theorem mE.YI(w:∀a,new a->new' a):∀{hs:List Hd} {xs:List V},mE K H G own new Y hs xs->mE K H G own new' Y hs xs
 |[],_,h=>h
 |h::hs,_,r=>by(obtain⟨x,r',rfl,h1,h2,h3⟩:=r;exact⟨x,r',rfl,h1.YI w,mE.YI w h2,h3⟩)
def lPa(h:NA X K P C e c)(t:PA X es (kH K P C cs))(ns:aAe e=true):PA X (e::es) (kH K P C (c::cs)):=by
 refine TA.uT (lM h.h t (cD ns _ _)) λY H Q q=>?_
 obtain⟨U,G,ds,U',r,e,k⟩:=q;rw[eD] at e;obtain⟨v,U1,e1,e2⟩:=xB e;obtain⟨DH,U2,e3,e4⟩:=xB e2;cases e4;refine⟨U,G,v,U1,r,e1,λx H1 G1 a1 hx=>⟨U1,G1,DH,_,a1.pA,e3,λxs H2 G2 a2 cN=>?_⟩⟩;refine k (x::xs) H2 G2 (a1.trans a2) ⟨x,xs,rfl,hx.wait a2.ext λa z=>.inl (a2.own a z),cN.YI λa z=>a1.ext.hx a z,λd a hd ha ht=>?_⟩;subst hd;obtain⟨b,e5,g,o,n,m⟩:=hx;rw[ha] at e5;cases e5;obtain⟨vs,hv⟩:=o.there
 have:=(cN.AN ht).2.1
 rw[show H1 a=none from this] at hv;cases hv
theorem mE.getAll(r:FA K U Y H G):∀{hs:List Hd} {xs:List V} {ds:List D},mE K H G own new Y hs xs->getAll hs U=some ds->aS K H G ds xs
 |[],_,_,h,e=>by cases (show _=[] from h);cases e;rfl
 |h::hs,_,ds,hh,e=>by
  obtain⟨x,r',rfl,h1,h2,h3⟩:=hh;simp only[CI.getAll] at e
  cases q:h.get U with
  |none=>rw[q] at e;cases e
  |some d =>
   rw[q] at e
   cases q2:CI.getAll hs U with
   |none=>rw[q2] at e;cases e
   |some DH =>
    rw[q2] at e;cases e;exact⟨x,r',rfl,h1.read r q,mE.getAll r h2 q2⟩
def kMa(xo:SA X K P C Z)(ha:NA X K P C a ca)(hb:NA X K P C b cb):NA X K P C (.BinOp a op b pos) (.lA op ca cb):=by
 refine XE xo (TE.KD (hQa (uv xo.gD op) ha.h hb.h) λY H Q q=>?_);obtain⟨U,G,v,U',r,e,k⟩:=q;obtain⟨hx,U1,e1,e⟩:=xB e;obtain⟨hy,U2,e2,e⟩:=xB e;obtain⟨e3,rfl⟩:=JI e;refine⟨U,G,hx,U1,r,e1,λx H1 G1 a1 rx=>⟨U1,G1,hy,U',a1.pA,e2,λy H2 G2 a2 ry=>?_⟩⟩
 cases q1:hx.get U' with
 |none=>rw[q1] at e3;cases e3
 |some d =>
  cases q2:hy.get U' with
  |none=>rw[q1,q2] at e3;cases e3
  |some d2 =>
   rw[q1,q2] at e3;simp only[uH] at e3;split at e3
   ·rename_i hm;have JX:=rx.wait a2.ext λa z=>.inl (a2.own a z)
    refine⟨G2,d,d2,v,a2.pA.sub,JX.read a2.pA q1,ry.read a2.pA q2,λho ds hd=>?_,e3,λz H3 hm3=>?_⟩
    ·subst ho;subst hd
     cases hx with
     |slot i=>simp[ZQ] at hm
     |val w =>
      cases w with
      |sh _=>simp[ZQ] at hm
      |od _=>simp[ZQ] at hm
      |ow w =>
       simp only[Hd.get,RV.d,eC] at q1;subst q1;obtain⟨c,e5,g,⟨vs,o1,o2⟩,n,m⟩:=JX;exact⟨c,vs,e5,o1,o2⟩
    ·obtain⟨G3,a3,v3⟩:=(a1.trans a2).made hm3;exact k z H3 G3 a3 v3
   ·cases e3
def gNa(xo:SA X K P C Z)(ha:NA X K P C a ca):NA X K P C (.UnaryOp .USub a pos) (.neg ca):=by
 refine XE xo (TE.KD (lQa tZa ha.v) λY H Q q=>?_);obtain⟨U,G,v,U',r,e,k⟩:=q;obtain⟨w,U1,e1,e⟩:=xB e;split at e
 ·rename_i i hi;cases e;refine⟨U,G,w,_,r,e1,λx H1 G1 a1 rx=>?_⟩
  have:=rx.rN
  rw[hi] at this;cases this.int;exact⟨i,rfl,k _ H1 G1 a1 (by show jA K G1 (.int (-i)) _;simp[jA])⟩
 ·cases e
def gQa(ha:PE X a ta):PE X (.UnaryOp .Not a pos) (λY H Q=>ta Y H λx H'=>∃k,yV X.K x H' k/\Q (.bl (!k)) H'):=by
 intro aA s Y H Q I h;refine UnaryOp_ (RA (ha aA s Y H _ I h) λv s1 hz=>?_);obtain⟨x,H1,I1,r1,q1⟩:=hz;exact not_of (RA (uo aA s1 Y H1 x v (λk H'=>Q (.bl (!k)) H') I1 r1 q1) λb s2 hz=>(by obtain⟨H2,I2,q2⟩:=hz;exact⟨.bl (!b),H2,I2,rfl,q2⟩))
def jNa(xo:SA X K P C Z)(ha:NA X K P C a ca):NA X K P C (.UnaryOp .Not a pos) (.not ca):=by
 have v:PE X (.UnaryOp .Not a pos) (tE K P C (.not ca)):=by
  refine TE.KD (gQa ha.h) λY H Q q=>?_
  obtain⟨U,G,v,U',r,e,k⟩:=q;obtain⟨w,U1,e1,e⟩:=xB e;obtain⟨e2,rfl⟩:=JI e;refine⟨U,G,w,U',r,e1,λx H1 G1 a1 rx=>?_⟩
  cases q:w.get U' with
  |none=>rw[q] at e2;cases e2
  |some d =>
   rw[q] at e2;simp only[uH] at e2
   cases q2:QJ d with
   |none=>rw[q2] at e2;cases e2
   |some b =>
    rw[q2] at e2;cases e2;refine⟨b, ?_,k _ H1 G1 a1 (by show jA K G1 (.bl _) _;simp[jA])⟩;rw[xo.gD];exact M9 a1.pA.sub (rx.read a1.pA q) q2
 refine⟨v, ?_,wR v λi z=>nomatch z⟩;refine TT.vT (iTa ha.t) λY H Q q=>?_
 obtain⟨U,G,b,U',r,e,k⟩:=q;obtain⟨w,U1,e1,e⟩:=xB e;split at e
 ·rename_i b';cases e;exact⟨U,G,b',_,r,e1,λH1 G1 a1=>k H1 G1 a1⟩
 ·cases e
def QV(a1:CA K U Y H G U1 H1 G1)(rx:GF K H1 G1 (AA U1 Y) (JE H) Y hx x)(a2:CA K U1 Y H1 G1 U2 H2 G2)(ry:GF K H2 G2 (AA U2 Y) (JE H1) Y hy y)
  (e:((hx.get U2).bind λd=>(hy.get U2).bind λe=>aC op d e)=some b) (Q:VK) (q:Q (.bl b) H2):mU K op x y H2 Q:=by
 cases q1:hx.get U2 with
 |none=>rw[q1] at e;cases e
 |some d =>
  cases q2:hy.get U2 with
  |none=>rw[q1,q2] at e;cases e
  |some d2 =>
   rw[q1,q2] at e;exact⟨G2,d,d2,b,a2.pA.sub,(rx.wait a2.ext λa z=>.inl (a2.own a z)).read a2.pA q1,ry.read a2.pA q2,e,q⟩
def eJa(e:(o.map λb=>RV.sh (.bl b))=some v):∃b,o=some b/\v=.sh (.bl b):=by
 cases o with
 |none=>cases e
 |some b=>cases e;exact⟨b,rfl,rfl⟩
def LV{x y:Option D}{f:D->D->Option Bool}(e:(x.bind λd=>y.bind λe=>(f d e).map λb=>RV.sh (.bl b))=some v):∃b,(x.bind λd=>y.bind λe=>f d e)=some b/\v=.sh (.bl b):=by
 cases x with
 |none=>cases e
 |some d =>
  cases y with
  |none=>cases e
  |some d2=>exact eJa e
def mMa(xo:SA X K P C Z)(ha:NA X K P C a ca)(hb:NA X K P C b cb)(hm:aL op b=false):NA X K P C (.Compare a [op] [b] pos) (.qA op ca cb):=by
 have core:∀Y H (Q:VK),(∃(U:Env) (G:Hp) (b:Bool) (U':Env),FA K U Y H G/\ev P C false (.qA op ca cb) U=some (.ok (.sh (.bl b)),U')/\∀H' G',CA K U Y H G U' H' G'->Q (.bl b) H') ->
   FU (mU K op) (tH K P C ca) (tH K P C cb) Y H Q:=λY H Q q=>by
  obtain⟨U,G,b,U',r,e,k⟩:=q;obtain⟨hx,U1,e1,e⟩:=xB e;obtain⟨hy,U2,e2,e⟩:=xB e;obtain⟨e3,rfl⟩:=JI e;obtain⟨b',e4,e5⟩:=LV e3;cases e5;exact⟨U,G,hx,U1,r,e1,λx H1 G1 a1 rx=>⟨U1,G1,hy,U',a1.pA,e2,λy H2 G2 a2 ry=>QV a1 rx a2 ry e4 Q (k H2 G2 (a1.trans a2))⟩⟩
 have v:PE X (.Compare a [op] [b] pos) (tE K P C (.qA op ca cb)):=by
  refine TE.KD (wPa (jQ xo.gD xo.hu op) ha.h hb.h hm) λY H Q q=>core Y H Q ?_
  obtain⟨U,G,v,U',r,e,k⟩:=q;have e0:=e;obtain⟨hx,U1,e1,e⟩:=xB e;obtain⟨hy,U2,e2,e⟩:=xB e;obtain⟨e3,rfl⟩:=JI e;obtain⟨b',e4,rfl⟩:=LV e3;exact⟨U,G,b',U',r,e0,λH' G' a=>k _ H' G' a (by show jA K G' (.bl _) _;simp[jA])⟩
 refine⟨v, ?_,wR v λi z=>nomatch z⟩;refine TT.vT (hTa (jQ xo.gD xo.hu op) ha.h hb.h hm) λY H Q q=>core Y H _ ?_
 obtain⟨U,G,b',U',r,e,k⟩:=q;exact⟨U,G,b',U',r,e,λH' G' a=>⟨b',rfl,k H' G' a⟩⟩
def nMa(xo:SA X K P C Z)(ha:NA X K P C a ca)(hb:NA X K P C b cb)(hc:NA X K P C c cc)(hm:aL rC c=false):NA X K P C (.Compare a [op,rC] [b,c] pos) (.lG op rC ca cb cc):=by
 have core:∀Y H (Q:VK),(∃(U:Env) (G:Hp) (b:Bool) (U':Env),FA K U Y H G/\ev P C false (.lG op rC ca cb cc) U=some (.ok (.sh (.bl b)),U')/\∀H' G',CA K U Y H G U' H' G'->Q (.bl b) H') ->
   A9 (mU K op) (mU K rC) (tH K P C ca) (tH K P C cb) (tH K P C cc) Y H Q:=λY H Q q=>by
  obtain⟨U,G,b,U',r,e,k⟩:=q;obtain⟨hx,U1,e1,e⟩:=xB e;obtain⟨hy,U2,e2,e⟩:=xB e;refine⟨U,G,hx,U1,r,e1,λx H1 G1 a1 rx=>⟨U1,G1,hy,U2,a1.pA,e2,λy H2 G2 a2 ry=>?_⟩⟩;split at e
  ·cases e
  ·rename_i e4;cases e;refine QV a1 rx a2 ry e4 _ ⟨false,rfl, ?_⟩;rw[UA dG];exact k H2 G2 (a1.trans a2)
  ·rename_i e4;obtain⟨hz,U3,e5,e⟩:=xB e;obtain⟨e6,rfl⟩:=JI e;obtain⟨b',e7,e8⟩:=LV e6;cases e8;refine QV a1 rx a2 ry e4 _ ⟨true,rfl, ?_⟩;rw[QA rfl];exact⟨U2,G2,hz,U',a2.pA,e5,λz H3 G3 a3 rz=>QV (a1.trans a2) (ry.YI λa z=>a1.ext.hx a z) a3 rz e7 Q (k H3 G3 ((a1.trans a2).trans a3))⟩
 have hl:lastMarks [op,rC] [b,c]=false:=hm
 have v:PE X (.Compare a [op,rC] [b,c] pos) (tE K P C (.lG op rC ca cb cc)):=by
  refine TE.KD (vPa (jQ xo.gD xo.hu op) (jQ xo.gD xo.hu rC) ha.h hb.h hc.h hl) λY H Q q=>core Y H Q ?_
  obtain⟨U,G,v,U',r,e,k⟩:=q;have e0:=e
  have:∃b,v=.sh (.bl b):=by
   obtain⟨hx,U1,e1,e⟩:=xB e;obtain⟨hy,U2,e2,e⟩:=xB e;split at e
   ·cases e
   ·cases e;exact⟨_,rfl⟩
   ·obtain⟨hz,U3,e5,e⟩:=xB e;obtain⟨e6,rfl⟩:=JI e;obtain⟨b',e7,e8⟩:=LV e6;exact⟨b',e8⟩
  obtain⟨b',rfl⟩:=this;exact⟨U,G,b',U',r,e0,λH' G' a=>k _ H' G' a (by show jA K G' (.bl _) _;simp[jA])⟩
 refine⟨v, ?_,wR v λi z=>nomatch z⟩;refine TT.vT (gTa (jQ xo.gD xo.hu op) (jQ xo.gD xo.hu rC) ha.h hb.h hc.h hl) λY H Q q=>core Y H _ ?_
 obtain⟨U,G,b',U',r,e,k⟩:=q;exact⟨U,G,b',U',r,e,λH' G' a=>⟨b',rfl,k H' G' a⟩⟩
end
section
variable{K:fA}
def PW.imp(h:PW X e t)(w:∀Y H Q,u Y H Q->t Y H Q):PW X e u:=λwh aA s Y H Q I q=>h wh aA s Y H Q I (w Y H Q q)
def qu(q:tE K P C (.and ca cb) Y H Q):Zn (tE K P C ca) (tE K P C cb) Y H Q:=by
 obtain⟨U,G,v,U',r,e,k⟩:=q;obtain⟨w,U1,e1,e⟩:=xB e;refine⟨U,G,w,U1,r,e1,λx H1 G1 a1 rx=>?_⟩;split at e
 ·refine⟨true,oU (K:=K) (G:=G1) rx, ?_⟩;refine QO ?_;exact⟨U1,G1,v,U',a1.pA,e,λy H2 G2 a2 ry=>k y H2 G2 (a1.trans a2) (ry.YI λa z=>a1.ext.hx a z)⟩
 ·refine⟨false,oU (K:=K) (G:=G1) rx, ?_⟩;refine SQ ?_;cases e;exact k _ H1 G1 a1 (by show jA K G1 (.bl _) _;simp[jA])
 ·cases e
def ou(q:tT K P C (.and ca cb) Y H Q):Yn (tT K P C ca) (tT K P C cb) Y H Q:=by
 obtain⟨U,G,b,U',r,e,k⟩:=q;obtain⟨w,U1,e1,e⟩:=xB e;split at e
 ·refine⟨U,G,true,U1,r,e1,λH1 G1 a1=>?_⟩;refine QO ?_;exact⟨U1,G1,b,U',a1.pA,e,λH2 G2 a2=>k H2 G2 (a1.trans a2)⟩
 ·refine⟨U,G,false,U1,r,e1,λH1 G1 a1=>?_⟩;refine SQ ?_;cases e;exact k H1 G1 a1
 ·cases e
def dPa(q:tE K P C (.or ca cb) Y H Q):jo (tE K P C ca) (tE K P C cb) Y H Q:=by
 obtain⟨U,G,v,U',r,e,k⟩:=q;obtain⟨w,U1,e1,e⟩:=xB e;refine⟨U,G,w,U1,r,e1,λx H1 G1 a1 rx=>?_⟩;split at e
 ·refine⟨true,oU (K:=K) (G:=G1) rx, ?_⟩;refine QO ?_;cases e;exact k _ H1 G1 a1 (by show jA K G1 (.bl _) _;simp[jA])
 ·refine⟨false,oU (K:=K) (G:=G1) rx, ?_⟩;refine SQ ?_;exact⟨U1,G1,v,U',a1.pA,e,λy H2 G2 a2 ry=>k y H2 G2 (a1.trans a2) (ry.YI λa z=>a1.ext.hx a z)⟩
 ·cases e
def cPa(q:tT K P C (.or ca cb) Y H Q):fo (tT K P C ca) (tT K P C cb) Y H Q:=by
 obtain⟨U,G,b,U',r,e,k⟩:=q;obtain⟨w,U1,e1,e⟩:=xB e;split at e
 ·refine⟨U,G,true,U1,r,e1,λH1 G1 a1=>?_⟩;refine QO ?_;cases e;exact k H1 G1 a1
 ·refine⟨U,G,false,U1,r,e1,λH1 G1 a1=>?_⟩;refine SQ ?_;exact⟨U1,G1,b,U',a1.pA,e,λH2 G2 a2=>k H2 G2 (a1.trans a2)⟩
 ·cases e
structure iK(X:Cx)(K:fA)(P:ZA)(C:Calls)(op:BoolOp)(vs:List xA)(c:E):Prop where
 v:∀pos,PE X (.BoolOp op vs pos) (tE K P C c)
 w:∀pos,PW X (.BoolOp op vs pos) (tT K P C c)
def tLa(h:NA X K P C a c):iK X K P C .And [a] c:=⟨λ_=>Wj h.v,λ_=>aAW h.t⟩
def uLa(h:NA X K P C a c):iK X K P C .Or [a] c:=⟨λ_=>Wj h.v,λ_=>aA0 h.t⟩
def Bj(h:NA X K P C a ca)(t:iK X K P C .And (b::r) cb):iK X K P C .And (a::b::r) (.and ca cb) :=
 ⟨λpos=>TE.KD (rPa h.v (t.v pos)) λ_ _ _ q=>qu q,λpos=>PW.imp (aA2 h.t (t.w pos)) λ_ _ _ q=>ou q⟩
def Cj(h:NA X K P C a ca)(t:iK X K P C .Or (b::r) cb):iK X K P C .Or (a::b::r) (.or ca cb) :=
 ⟨λpos=>TE.KD (A8 h.v (t.v pos)) λ_ _ _ q=>dPa q,λpos=>PW.imp (aA4 h.t (t.w pos)) λ_ _ _ q=>cPa q⟩
def iK.Dj(h:iK X K P C op vs c)(n:∀i,c≠.v i):NA X K P C (.BoolOp op vs pos) c:=⟨h.v pos,(h.w pos).pt,wR (h.v pos) n⟩
def oNa(xo:SA X K P C Z)(h:PA X es (tN K P C cs)):NA X K P C (.Tuple es k0 pos) (.t cs):=by
 refine XE xo (TE.KD (kQa h) λY H Q q=>?_);obtain⟨U,G,v,U',r,e,k⟩:=q;obtain⟨ds,U1,e1,e⟩:=xB e;split at e
 ·rename_i hz;cases e;refine⟨U,G,ds,_,r,e1,λxs H1 G1 a1 rx=>⟨by rw[rx.len];exact oM hz,λp hp=>?_⟩⟩;obtain⟨a2,v2⟩:=a1.zo hp rx;exact k _ _ _ a2 v2
 ·cases e
def bNa(xo:EC q X K P C Z)(h:PA X es (tN K P C cs)):NA X K P C (.List es pos) (.l cs):=by
 refine XE xo (TE.KD (cQa h) λY H Q q=>?_);obtain⟨U,G,v,U',r,e,k⟩:=q;obtain⟨ds,U1,e1,e⟩:=xB e;split at e
 ·rename_i hz;cases e;refine⟨U,G,ds,_,r,e1,λxs H1 G1 a1 rx=>⟨by rw[rx.len];exact oM hz,λp hp=>?_⟩⟩;obtain⟨a2,v2⟩:=a1.Lj hp rx;exact k _ _ _ a2 v2
 ·cases e
def yMa(xo:SA X K P C Z)(ha:NA X K P C a ca)(hb:NA X K P C b cb)(hs:sZ b):NA X K P C (.Subscript a b pos) (.ix ca cb):=by
 refine XE xo (TE.KD (Uj (mEa xo.gD (by have:=xo.hu;lia)) ha.h hb.v hs) λY H Q q=>?_);obtain⟨U,G,v,U',r,e,k⟩:=q;obtain⟨hx,U1,e1,e⟩:=xB e;obtain⟨w,U2,e2,e⟩:=xB e;obtain⟨e3,rfl⟩:=JI e;refine⟨U,G,hx,U1,r,e1,λx H1 G1 a1 rx=>⟨U1,G1,w,U',a1.pA,e2,λy H2 G2 a2 ry=>?_⟩⟩
 cases q1:hx.get U' with
 |none=>rw[q1] at e3;cases e3
 |some d =>
  rw[q1] at e3;simp only[uH] at e3
  cases q2:IT d w.d with
  |none=>rw[q2] at e3;cases e3
  |some d2 =>
   rw[q2] at e3;cases e3;exact⟨G2,d,w.d,d2,a2.pA.sub,(rx.wait a2.ext λa z=>.inl (a2.own a z)).read a2.pA q1,ry.rN,q2,λz hz=>k z H2 G2 (a1.trans a2) hz⟩
def tO(K:fA)(P:ZA)(C:Calls)(c:E):TO:=λY H Q=>∃(U:Env) (G:Hp) (o:Option D) (U':Env),FA K U Y H G/\aAJ c (ev P C false c U) U=some (.ok o,U')/\∃i,pN o=some i/\∀H' G',CA K U Y H G U' H' G'->Q i H'
def eRa:PO X none (tO K P C .TF):=λaA s Y H Q I hz=>by
 obtain⟨U,G,o,U',r,e,i,e2,k⟩:=hz;simp only[aAJ,M6,if_true,eC,lE,Out.ok.injEq] at e;obtain⟨rfl,rfl⟩:=e;cases e2;exact dRa aA s Y H Q I (k H G (CA.refl r))
def gRa(h:NA X K P C e c):PO X (some e) (tO K P C (aU c)):=λaA s Y H Q I hz=>by
 obtain⟨U,G,o,U',r,e1,i,e2,k⟩:=hz
 have key:∀c',aU c=c'->M6 c'=false->(∀U,ev P C false c' U=ev P C false c U\/ev P C false c' U=none)->sA (model X.prog X.w) X.A (evalPart (some e) X.env) (λu s'=>∃o H',dA X aA Y H' s'/\XJ u o/\Q o H') X.xe s:=λc' e0 eH he=>by
  rw[e0] at e1;simp only[aAJ,eH,kL,if_false] at e1;obtain⟨w,U1,e3,e4⟩:=xB e1;cases e4;rcases he U with he | he
  ·rw[he] at e3;refine fRa h.v aA s Y H Q I ⟨U,G,w,_,r,e3,λx H1 G1 a1 rx=>?_⟩;cases q:w.d<;>rw[q] at e2<;>simp only[pN,reduceCtorEq,eC] at e2;subst e2
   have:=rx.rN
   rw[q] at this;exact⟨_,this.int,k H1 G1 a1⟩
  ·rw[he] at e3;cases e3
 cases c with
 |TF=>exact key .oA rfl rfl λU=>.inr (rfl)
 |_=>exact key _ rfl rfl λU=>.inl rfl
def nNa(xo:SA X K P C Z){lo hi:Option xA}{ca cl ch:E}(ha:NA X K P C a ca)(hl:PO X lo (tO K P C cl))(hh:PO X hi (tO K P C ch)):NA X K P C (.Subscript a (.Slice lo hi none p2) pos) (.sl ca cl ch):=by
 refine XE xo (TE.KD (iQa (pWa xo.gD) ha.h hl hh) λY H Q q=>?_);obtain⟨U,G,v,U',r,e,k⟩:=q;obtain⟨hx,U1,e1,e⟩:=xB e;obtain⟨l,U2,e2,e⟩:=xB e;obtain⟨h,U3,e3,e⟩:=xB e;obtain⟨e4,rfl⟩:=JI e
 cases q1:hx.get U' with
 |none=>rw[q1] at e4;cases e4
 |some d =>
  cases q2:pN l with
  |none=>rw[q1,q2] at e4;cases e4
  |some l' =>
   cases q3:pN h with
   |none=>rw[q1,q2,q3] at e4;cases e4
   |some h' =>
    rw[q1,q2,q3] at e4;simp only[uH] at e4;refine⟨U,G,hx,U1,r,e1,λx H1 G1 a1 rx=>⟨U1,G1,l,U2,a1.pA,e2,l',q2,λH2 G2 a2=>⟨U2,G2,h,U',a2.pA,e3,h',q3,λH3 G3 a3=>?_⟩⟩⟩;have wZ:=a2.trans a3;refine⟨G3,d,v,a3.pA.sub,(rx.wait wZ.ext λa z=>.inl (wZ.own a z)).read a3.pA q1,e4,λz H4 hm=>?_⟩;obtain⟨G4,a4,v4⟩:=(a1.trans wZ).made hm;exact k z H4 G4 a4 v4
def uI(h:es.all aAe=true)(env:uM)(pos:XB):(fF pos (bC es env)).any (·.1)=false/\(fF pos (bC es env)).all (λx=>!x.1)=true:=by
 induction es with
 |nil=>exact⟨rfl,rfl⟩
 |cons e es ih =>
  rw[xC,aB] at h;rw[cD h.1];obtain⟨i1,i2⟩:=ih h.2
  unfold fF at *
  refine⟨?_, ?_⟩
  ·rw[CB,KN,i1];rfl
  ·rw[CB,xC,i2];rfl
def lMa(xo:SA X K P C Z)(hf:Z.glob f=.fn g)(ns:(e::es).all aAe=true)(ha:PA X (e::es) (kH K P C cs)):NA X K P C (.Call (.Name f p) (e::es) [] pos) (.call g cs):=by
 obtain⟨h1,h2,h3,h4⟩:=CC.CG xo hf (λz=>nomatch z);obtain⟨fa,fd,ps,k0,F,hr,hm,hk,hb⟩:=(xo.fn f g h2).ex;rw[xC,aB] at ns;refine XE xo (TE.KD (uPa F hr h1 hm hk hb .nil yX ha h3 (cD ns.1 _ _) (uI ns.2 _ _).1) λY H Q q=>?_);obtain⟨U,G,v,U',r,e,k⟩:=q;obtain⟨hs,U1,e1,e⟩:=xB e;refine⟨U,G,hs,U1,r,e1,λxs H1 G1 a1 rx=>?_⟩;obtain⟨as,G2,VA,d1,d2,d3,_,d4⟩:=aW a1 rx e;rw[kE];refine⟨?_,as,G2,v,VA,d1,d2,d3,λx H' G' a hv=>?_⟩
 ·have:=d1.len
  rw[nA] at this
  lia
 ·obtain⟨a5,v5⟩:=d4 x H' G' a hv;exact k x H' G' a5 v5
def av{f:bA}{b:BI}(h:YZ f=some b):bL f=some (ZZ b):=by
 unfold YZ at h
 repeat (split at h;· (rename_i hf;cases h;subst hf;first | exact ir | decide +kernel | rfl))
 cases h
def fv(h:JV f=some b):bL f=some (ZZ b):=by
 unfold JV at h;split at h
 ·rename_i hf;cases h;subst hf;decide +kernel
 ·exact av h
def vX(xo:SA X K P C Z)(hf:Z.glob f=.vB)(hb:JV f=some b)(ns:(e::es).all aAe=true)(ha:PA X (e::es) (kH K P C cs)):NA X K P C (.Call (.Name f p) (e::es) [] pos) (.bif b cs):=by
 obtain⟨h1,h2,h3,h4⟩:=CC.CG xo hf (λz=>nomatch z);have hm:=xo.vB f h2;have hv:=fv hb;rw[xC,aB] at ns
 have hp:PE X (.Call (.Name f p) (e::es) [] pos) (z9 (Nk K b) (kH K P C cs)):=by
  have hc:=gv xo.gD xo.calm xo.hh xo.rm b
  cases b<;>first
   |exact z8 hc h1 hm hv ha h4 h3 (cD ns.1 _ _) (uI ns.2 _ _).1
   |exact Rj hc h1 hm hv ha h4 h3 (cD ns.1 _ _) (uI ns.2 _ _).1
 refine XE xo (TE.KD hp λY H Q q=>?_);obtain⟨U,G,v,U',r,e,k⟩:=q;obtain⟨hs,U1,e1,e⟩:=xB e;obtain⟨e2,rfl⟩:=JI e;refine⟨U,G,hs,U',r,e1,λxs H1 G1 a1 rx=>?_⟩
 cases q1:getAll hs U' with
 |none=>rw[q1] at e2;cases e2
 |some ds =>
  rw[q1] at e2;refine⟨G1,ds,v,a1.pA.sub,rx.getAll a1.pA q1,e2,λz H' hm=>?_⟩;obtain⟨G2,a2,v2⟩:=a1.made hm;exact k z H' G2 a2 v2
end
section
variable{K:fA}
def N6(h:IJ U i=true):∃ds p l,U[i]?=some (.ow (.l ds) p l):=by
 unfold IJ at h;split at h
 ·rename_i d p l e;exact⟨d,p,l,e⟩
 ·cases h
def FA.Po(r:FA K U Y H G)(h:U[i]?=some (.ow d p l))(hx:Y[i]?=some (some (.ref a)))(hr:YG K (GA H a ob) G a d') :
  CA K U Y H G (U.set i (.ow d' p l)) (GA H a ob) G:=by
 obtain⟨b,h1,g,o⟩:=r.ow i d p l h;rw[hx] at h1;cases h1;have hn:H a≠none:=(r.owned ⟨i,d,p,l,h,hx⟩).1
 have r0:FA K (U.set i .un) Y (GA H a ob) G:=by
  have ru:=r.unset i;have nu:=r.yR h hx;refine⟨ru.len,λb u e=>?_,ru.sh,λj d' p' l' hj=>?_,ru.inj⟩
  ·have:b≠a:=λz=>by subst z;rw[g] at e;cases e
   rw[BB this];exact ru.sub b u e
  ·obtain⟨b,h3,h4,h5⟩:=ru.ow j d' p' l' hj;have hb:b≠a:=λz=>by subst z;exact nu ⟨j,d',p',l',hj,h3⟩
   exact⟨b,h3,h4,h5.mono (Sm.refl _) λ_ z=>by rw[BB hb];exact z⟩
 refine⟨r0.bP hx g hr (r.yR h hx),⟨Sm.refl _,λb u e nb=>?_,λb e=>?_,λb e g' _=>g'⟩,IE.set (by rw[h];exact⟨rfl,rfl⟩)⟩
 ·have:b≠a:=λz=>by subst z;exact nb ⟨i,d,p,l,h,hx⟩
  rw[BB this];exact e
 ·by_cases hb:b=a
  ·subst hb;rw[TC] at e;cases e
  ·rwa[BB hb] at e
def FA.write(r:FA K U Y H G)(h:U[i]?=some (.ow d p l))(hx:Y[i]?=some (some (.ref a)))(hr:kA K G ds vs) :
  CA K U Y H G (U.set i (.ow (.l ds) p l)) (GA H a (.l vs)) G:=r.Po h hx ⟨vs,TC,hr⟩
def jMa(xo:SA X K P C Z)(hi:Z.slot x=some i)(hl:(HB.endLine==mC.line)=true)(ns:aAe a=true)(ha:NA X K P C a ca) :
  NA X K P C (.Call (.Attribute (.Name x p) ("append":bA) HB) [a] [] mC) (.app i ca):=by
 have hp:PE X (.Name x p) (wN i):=CC.dP xo hi;have EK:PA X [a] (iP (tE K P C ca) jP):=lM ha.v ZO (cD ns _ _);have gI:[a].all aAe=true:=by rw[xC,ns];rfl
 refine XE xo (TE.KD (Qj wa Np PySem.F.type_list_append ej hp EK rfl (by
   rw[aB,aB];exact⟨⟨(uI gI _ _).2,rfl⟩,rfl⟩) hl (cD ns _ _) rfl) λY H Q q=>?_)
 obtain⟨U,G,v,U',r,e,k⟩:=q;replace e:(if IJ U i then _ else none)=_:=e;split at e
 ·rename_i ho;obtain⟨d0,p0,l0,h0⟩:=N6 ho;obtain⟨b,hb,g0,o0⟩:=r.ow i _ p0 l0 h0;obtain⟨w,U1,e1,e⟩:=xB e;refine⟨.ref b,hb,.inl ⟨rfl, ?_⟩,U,G,w,U1,r,e1,λy H1 G1 a1 ry=>?_⟩
  ·obtain⟨vs,hv,_⟩:=o0;exact⟨vs,GB.of hv⟩
  ·split at e
   ·rename_i ds p1 h1;split at e
    ·rename_i hz;cases e;obtain⟨G2,a2,r2⟩:=a1.share ry;obtain⟨b',WE,g1,vs,hv,hr⟩:=a2.pA.ow i _ _ _ h1;rw[hb] at WE;cases WE
     have:=hr.len
     refine⟨b,vs,y,rfl,rfl,hv, ?_, ?_⟩
     ·have:=oM hz
      lia
     ·have a3:=a2.pA.write h1 hb (hr.app (kA.cons r2 kA.nil));exact k _ _ _ (a2.trans a3) (by show jA K G2 .iA _;simp[jA])
    ·cases e
   ·cases e
 ·cases e
def vMa(xo:SA X K P C Z)(hi:Z.slot x=some i)(hl:(HB.endLine==mC.line)=true)(ns:aAe a=true)(ha:NA X K P C a ca) :
  NA X K P C (.Call (.Attribute (.Name x p) ("extend":bA) HB) [a] [] mC) (.ext i ca):=by
 have hp:PE X (.Name x p) (wN i):=CC.dP xo hi;have EK:PA X [a] (iP (tE K P C ca) jP):=lM ha.v ZO (cD ns _ _);have gI:[a].all aAe=true:=by rw[xC,ns];rfl
 refine XE xo (TE.KD (Qj wa Pp PySem.F.type_list_extend xJa hp EK rfl (by
   rw[aB,aB];exact⟨⟨(uI gI _ _).2,rfl⟩,rfl⟩) hl (cD ns _ _) rfl) λY H Q q=>?_)
 obtain⟨U,G,v,U',r,e,k⟩:=q;replace e:(if IJ U i then _ else none)=_:=e;split at e
 ·rename_i ho;obtain⟨d0,p0,l0,h0⟩:=N6 ho;obtain⟨b,hb,g0,o0⟩:=r.ow i _ p0 l0 h0;obtain⟨w,U1,e1,e⟩:=xB e;refine⟨.ref b,hb,.inl ⟨rfl, ?_⟩,U,G,w,U1,r,e1,λy H1 G1 a1 ry=>?_⟩
  ·obtain⟨vs,hv,_⟩:=o0;exact⟨vs,GB.of hv⟩
  ·split at e
   ·rename_i ds p1 es h1;split at e
    ·rename_i hz;cases e;obtain⟨c,rfl,gc,⟨zs,hc,Kg⟩,a8,new⟩:=ry;obtain⟨b',WE,g1,vs,hv,hr⟩:=a1.pA.ow i _ _ _ h1;rw[hb] at WE;cases WE;have l1:=hr.len;have l2:=Kg.len;refine⟨b,c,vs,zs,rfl,rfl,hv,hc, ?_, ?_⟩
     ·have:=oM hz
      lia
     ·exact k _ _ _ (a1.trans (a1.pA.write h1 hb (hr.app Kg))) (by show jA K G1 .iA _;simp[jA])
    ·cases e
   ·cases e
 ·cases e
def lNa(xo:SA X K P C Z){x:bA}{i:Nat}{p HB mC:XB}(hi:Z.slot x=some i)(hl:(HB.endLine==mC.line)=true) :
  NA X K P C (.Call (.Attribute (.Name x p) ("pop":bA) HB) [] [] mC) (.kR i):=by
 refine XE xo (TE.KD (tPa wa yq PySem.F.type_list_pop yJa (CC.dP xo hi) rfl hl) λY H Q q=>?_);obtain⟨U,G,v,U',r,e,k⟩:=q;replace e:kU i U U[i]?=_:=e
 cases q0:U[i]? with
 |none=>rw[q0] at e;cases e
 |some sl =>
  rw[q0] at e;unfold kU at e;split at e
  ·rename_i ds p0 z;cases z
   cases q:ds[ds.length-1]? with
   |none=>rw[q] at e;cases e
   |some d =>
    rw[q] at e;cases e;obtain⟨b,hb,g0,vs,hv,hr⟩:=r.ow i _ _ _ q0;obtain⟨x,hx,rd⟩:=hr.get q;refine⟨.ref b,hb,.inl ⟨rfl,vs,GB.of hv⟩,b,vs,x,rfl,rfl,hv,by rw[hr.len];exact hx, ?_⟩;exact k _ _ _ (r.write q0 hb (ds:=ds.dropLast) (vs:=vs.dropLast) (by rw[Yp,Yp,hr.len];exact hr.take _)) rd
  ·cases e
def T9:GA (GA H p a) p b=GA H p b:=by
 funext q
 by_cases h:q=p
 ·subst h;rw[TC,TC]
 ·rw[BB h,BB h,BB h]
def FA.jR(r:FA K U Y H G)(g:G a=none)(n:¬AA U Y a):FA K U Y (GA H a o) G:=by
 refine⟨r.len,λb u e=>?_,r.sh,λj d' p' l' hj=>?_,r.inj⟩
 ·have:b≠a:=λz=>by subst z;rw[g] at e;cases e
  rw[BB this];exact r.sub b u e
 ·obtain⟨b,h3,h4,h5⟩:=r.ow j d' p' l' hj;have hb:b≠a:=λz=>by subst z;exact n ⟨j,d',p',l',hj,h3⟩
  exact⟨b,h3,h4,h5.mono (Sm.refl _) λ_ z=>by rw[BB hb];exact z⟩
theorem CA.jR(b:CA K U Y H G U' H' G')(h:H a=none)(g:G' a=none)(n:¬AA U' Y a):CA K U Y H G U' (GA H' a o) G':=by
 refine⟨b.pA.jR g n,⟨b.ext.gg,λc u e nc=>?_,λc e=>?_,b.ext.gn⟩,b.qK⟩
 ·have:c≠a:=λz=>by subst z;rw[h] at e;cases e
  rw[BB this];exact b.ext.hh c u e nc
 ·by_cases hc:c=a
  ·subst hc;rw[TC] at e;cases e
  ·rw[BB hc] at e;exact b.ext.hx c e
def sMa(xo:SA X K P C Z)(hk:NA X K P C ke ck)(hv:NA X K P C ve cv):NA X K P C (.Dict [some ke] [ve] pos) (.sS ck cv):=by
 refine XE xo (TE.KD (zPa (by have:=xo.hu;lia) hk.v hv.v) λY H Q q=>?_);obtain⟨U,G,v,U',r,e,k⟩:=q;obtain⟨w,U1,e1,e⟩:=xB e;obtain⟨w2,U2,e2,e3⟩:=xB e;unfold bW at e3;split at e3
 ·rename_i k0 hs;cases e3;intro p hp sm;have nO:=r.sX hp;have gO:=fB.free r.sub hp;refine⟨U,G,w,U1,((CA.refl r).WI hp).pA,e1,λx H1 G1 a1 rx=>?_⟩;have hH:H1 p=some (.ext (iC p [] 0)):=a1.ext.hh p _ TC nO;have hG:G1 p=none:=a1.ext.gn p (by rw[TC];simp) gO nO;have hN:¬AA U1 Y p:=λz=>nO (a1.own p z)
  obtain⟨b,rfl,kk⟩:=RT hs rx.rN;refine⟨U1,G1,w2,U',a1.pA,e2,λy H2 G2 a2 ry=>?_⟩;have a0:CA K U Y H G U' H2 G2:=((CA.refl r).WI hp).trans (a1.trans a2);have M':H2 p=some (.ext (iC p [] 0)):=a2.ext.hh p _ hH hN;have hG2:G2 p=none:=a2.ext.gn p (by rw[hH];simp) hG hN;have Kf:¬AA U' Y p:=λz=>hN (a2.own p z)
  obtain⟨G3,a3,r3,s3⟩:=a2.X8 ry;have Ci:DC K G3 k0 b:=DC.mono (a2.ext.gg.trans s3) kk;have a4:CA K U Y H G U' H2 G3:=((CA.refl r).WI hp).trans (a1.trans a3);have Ff:G3 p=none:=a3.ext.gn p (by rw[hH];simp) hG hN;refine⟨M',k0,b,rfl,by rw[xo.gD];exact DC.mono a3.pA.sub Ci,λu ru ep=>?_⟩;refine k _ _ G3 (a4.jR hp Ff Kf) ⟨p,rfl,Ff,⟨_,[y],⟨_,TC⟩, ?_,kA.cons r3 kA.nil⟩,Kf,hp⟩;exact⟨by simp,by rw[IP];simp,sm,λx hx=>by rw[dD.mp hx];exact Ci,rfl,.cons ru .nil⟩
 ·cases e3
def rMa(xo:SA X K P C Z):NA X K P C (.Dict [] [] pos) .oO:=by
 refine XE xo (TE.KD yPa λY H Q q=>?_);obtain⟨U,G,v,U',r,e,k⟩:=q;cases e;intro p hp sm;obtain⟨a1,v1⟩:=(CA.refl r).zx (ks:=[]) (ds:=[]) (vs:=[]) (xs:=[]) hp ⟨jr,UJ _,sm,(λx hx=>nomatch hx),rfl,.nil⟩ kA.nil;exact k _ _ _ a1 v1
def qMa(xo:SA X K P C Z){k v:xA}{cs es:List E}{pos:XB}(hk:∀c,cs=[c]->NA X K P C k c)(hv:∀c,es=[c]->NA X K P C v c):NA X K P C (.Dict [some k] [v] pos) (YV cs es):=by
 unfold YV;split
 ·exact sMa xo (hk _ rfl) (hv _ rfl)
 ·exact yB
def tMa(xo:SA X K P C Z)(hk:∀k c,ks=[some k]->cs=[c]->NA X K P C k c)(hv:∀v c,vs=[v]->es=[c]->NA X K P C v c):NA X K P C (.Dict ks vs pos) (ZV ks vs cs es):=by
 cases ks with
 |nil =>
  cases vs with
  |nil=>exact yB
  |cons=>exact yB
 |cons k r =>
  cases r with
  |cons=>exact yB
  |nil =>
   cases k with
   |none=>exact yB
   |some k =>
    cases vs with
    |nil=>exact yB
    |cons v r =>
     cases r with
     |cons=>exact yB
     |nil =>
      have d2:=qMa (pos:=pos) xo (λc h=>hk _ c rfl h) λc h=>hv _ c rfl h
      exact d2
def rZa(xo:EC q X K P C Z)(h:aY Z t=some ty):PE X t (tC (S9 ty))/\aAe t=true:=by
 cases t<;>simp only[aY,reduceCtorEq] at h;rename_i x pos;split at h
 ·rename_i hg;obtain⟨h1,h2,h3,h4⟩:=CC.CG xo hg (λz=>nomatch z);have hm:=xo.vB x h2;refine⟨?_,rfl⟩;split at h
  ·rename_i hx;cases h;subst hx;exact y8 h1 hm (u:=.type "int") (by decide +kernel) rfl
  ·split at h
   ·rename_i hx;cases h;subst hx;exact y8 h1 hm (u:=.type "bool") (by decide +kernel) rfl
   ·split at h
    ·rename_i hx;cases h;subst hx;exact y8 h1 hm (u:=.type "tuple") (by decide +kernel) rfl
    ·cases h
 ·cases h
def xMa(xo:EC q X K P C Z)(hf:Z.glob ("isinstance":bA)=.vB)(ht:aY Z t=some ty)(ns:aAe a=true)(ha:NA X K P C a ca) :
  NA X K P C (.Call (.Name ("isinstance":bA) p) [a,t] [] pos) (.dN ca [ty]):=by
 obtain⟨h1,h2,h3,h4⟩:=CC.CG xo hf (λz=>nomatch z);have hm:=xo.vB _ h2;obtain⟨pt,nt⟩:=rZa xo ht;have EK:PA X [a,t] (iP (tH K P C ca) (iP (tC (S9 ty)) jP)):=lM ha.h (lM pt ZO (cD nt _ _)) (cD ns _ _);have gI:[t].all aAe=true:=by rw[xC,nt];rfl
 have hp:=z8 (p:=p) (pos:=pos) (yDa xo.gD ty) h1 hm (by decide +kernel) EK h4 h3 (cD ns _ _) (uI gI _ _).1;refine XE xo (TE.KD hp λY H Q q=>?_);obtain⟨U,G,v,U',r,e,k⟩:=q;obtain⟨hx,U1,e1,e⟩:=xB e;obtain⟨e2,rfl⟩:=JI e;refine⟨U,G,hx,U',r,e1,λx H1 G1 a1 rx=>?_⟩
 cases q1:hx.get U' with
 |none=>rw[q1] at e2;cases e2
 |some d =>
  rw[q1] at e2;simp only[uH,ET] at e2
  cases q2:Q6 ty d with
  |none=>rw[q2] at e2;cases e2
  |some b =>
   rw[q2] at e2;simp only[uH,jF,gG,eC] at e2;subst e2;exact⟨G1,d,x,b,a1.pA.sub,rfl,rx.read a1.pA q1,q2,k _ H1 G1 a1 (by show jA K G1 (.bl _) _;simp[jA])⟩
def rk(h:∀lo hi p,b≠.Slice lo hi none p):sZ b:=λo i=>by
 cases b<;>first
  |rfl
  | (rename_i lo hi st p;cases st with
    |none=>exact absurd rfl (h lo hi p)
    |some s=>rfl)
end
section
variable{K:fA}
def l8(xo:SA X K P C Z)(hi:Z.slot x=some i)(pos:XB):NA X K P C (.Name x pos) (.OD i):=by
 have hp:=CC.dP xo hi (pos:=pos);refine XE xo (TE.KD (Xj (K:=K) (P:=P) (C:=C) hp) λY H Q q=>?_);obtain⟨U,G,v,U',r,e,k⟩:=q;exact⟨U,G,v,U',r,e,k⟩
def fNa:NA X K P C e (.YQ c):=Wc (λt U=>rfl) λi z=>nomatch z
def kNa(xo:SA X K P C Z)(h1:Z.glob "len"=.vB)(h2:Z.glob "set"=.vB)(ns:aAe e=true)(ha:NA X K P C e c) :
  NA X K P C (.Call (.Name "len" p) [.Call (.Name "set" p2) [e] [] uk] [] pos) (.XO c):=by
 obtain⟨a1,a2,a3,a4⟩:=CC.CG xo h1 (λz=>nomatch z);obtain⟨b1,b2,b3,b4⟩:=CC.CG xo h2 (λz=>nomatch z);have hp:PA X [e] (iP (tH K P C c) jP):=lM ha.h ZO (cD ns _ _);have JW:=Rj (Mw xo.calm) b1 (xo.vB _ b2) (by decide +kernel:bL "set"=some (.type "set")) hp (pos:=uk) (p:=p2) b4 b3 (cD ns _ _) rfl;have qB:=z8 Hw a1 (xo.vB _ a2) ir (lM JW ZO rfl) (pos:=pos) (p:=p) a4 a3 rfl rfl;refine XE xo (TE.KD qB λY H Q q=>?_);obtain⟨U,G,v,U',r,e,k⟩:=q;obtain⟨hx,U1,e1,e⟩:=xB e;obtain⟨e3,rfl⟩:=JI e;refine⟨U,G,hx,U',r,e1,λx H1 G1 a1 rx=>?_⟩
 cases q1:hx.get U' with
 |none=>rw[q1] at e3;cases e3
 |some d =>
  rw[q1] at e3;simp only[uH] at e3;cases d<;>simp only[cU,reduceCtorEq] at e3;rename_i ds
  cases q2:OC ds with
  |none=>rw[q2] at e3;cases e3
  |some is =>
   rw[q2] at e3;simp only at e3;split at e3
   ·rename_i hz;cases e3;obtain⟨b,vs,rfl,h3,h4⟩:=(rx.read a1.pA q1).l a1.pA.sub;have hK:=xo.gD;refine⟨b,vs,ds,is,G1,rfl,by rw[hK];exact h3,by rw[hK];exact h4,q2,hz,λp S hn=>?_⟩;refine⟨p,S,_,rfl,TC, ?_⟩;exact k _ _ G1 (a1.WI hn) (by show jA K G1 (.int _) _;simp[jA])
   ·cases e3
theorem Ti:∀{ns:List bA} {ds:List D} {vs:List V} {d:D},kA K G ds vs->(ns.zip ds).lookup f=some d->f∈ns/\∃v,(ns.zip vs).lookup f=some v/\jA K G d v
 |[],_,_,_,_,h=>by simp at h
 |n::ns,[],_,_,_,h=>by simp at h
 |n::ns,d0::ds,vs,d,r,h=>by
  simp only[kA] at r;obtain⟨v,r',rfl,h1,h2⟩:=r;rw[lP,AI] at h ⊢
  cases q:(f==n) with
  |true =>
   rw[q] at h;cases h;exact⟨by rw[GC q];simp,v,rfl,h1⟩
  |false =>
   rw[q] at h;obtain⟨z1,v',z2,z3⟩:=Ti h2 h;exact⟨RD _ z1,v',z2,z3⟩
theorem lC.ins(h:lC K H G (.ins c ns ds) x):jA K G (.ins c ns ds) x:=by
 rcases h with h | ⟨a,rfl,h⟩
 ·exact h
 ·exact h.elim
def wMa(xo:SA X K P C Z):NA X K P C (.Attribute (.Name x p) f pos) (.fld (fO Z x) f):=by
 have ha:=Ej xo x p;refine XE xo (TE.KD (aQa ha.h rfl) λY H Q q=>?_);obtain⟨U,G,v,U',r,e,k⟩:=q;obtain⟨hx,U1,e1,e⟩:=xB e;obtain⟨e3,rfl⟩:=JI e;refine⟨U,G,hx,U',r,e1,λx H1 G1 a1 rx=>?_⟩
 cases q1:hx.get U' with
 |none=>rw[q1] at e3;cases e3
 |some d =>
  rw[q1] at e3;simp only[uH] at e3;have hK:=xo.gD;cases d<;>simp only[O2,reduceCtorEq,Option.map_none] at e3
  case ins c ns ds =>
   cases q2:(ns.zip ds).lookup f with
   |none=>rw[q2] at e3;cases e3
   |some d' =>
    rw[q2] at e3;cases e3;have rr:=(rx.read a1.pA q1).ins;simp only[jA] at rr;obtain⟨a,Ca,dx,vs,rfl,h1,h2,h3,h4,h5⟩:=rr;obtain⟨z1,v',z2,z3⟩:=Ti h3 q2;exact⟨a,Ca,dx,_,v',rfl,a1.pA.sub _ _ h2,by rw[hK];exact h4.cl,by rw[hK];exact h4.no f z1,z2,k v' H1 G1 a1 z3⟩
def dNa(xo:SA X K P C Z)(hf:Z.glob f=.cls ns)(st:(e::es).all aAe=true)(ha:PA X (e::es) (tN K P C cs)):NA X K P C (.Call (.Name f p) (e::es) [] pos) (.make f ns cs):=by
 obtain⟨h1,h2,h3,h4⟩:=CC.CG xo hf (λz=>nomatch z);obtain⟨Ca,fa,fd,ps,hn,hm,M,cf,F,hb⟩:=(xo.cls f ns h2).ex;rw[xC,aB] at st;refine XE xo (TE.KD (dQa M F xo.rm h1 hm hb .nil yX ha h3 (cD st.1 _ _) (uI st.2 _ _).1) λY H Q q=>?_);obtain⟨U,G,v,U',r,e,k⟩:=q;obtain⟨ds,U1,e1,e⟩:=xB e;split at e
 ·rename_i hl;cases e;refine⟨U,G,ds,_,r,e1,λxs H1 G1 a1 rx x dx nx ndx ne=>?_⟩;have el:xs.length=ns.length:=rx.len.trans hl;rw[kE];refine⟨x,Ca,dx,xs,rfl,el,TC,cf,rfl, ?_⟩;rw[T9];have nx':(GA H1 dx (.own x)) x=none:=by rw[BB (HE ne)];exact nx
  have a2:=(a1.WI (o:=.own x) ndx).gN (o:=.ins Ca dx (ns.zip xs)) nx';refine k (.ref x) _ _ a2 ?_;show jA K _ (.ins f ns ds) _;simp only[jA];exact⟨x,Ca,dx,xs,rfl,hn,TC,kA.mono (Sm.laid (fB.free a1.pA.sub nx)) ds rx,cf,el.symm⟩
 ·cases e
theorem Vi:∀{ns:List bA} {vs:List O},ns.contains f=false->(ns.zip vs).lookup f=none
 |[],_,_=>by simp
 |n::ns,[],_=>by simp
 |n::ns,v::vs,h=>by(rw[Aq,Ba] at h;rw[lP,AI,h.1];exact Vi h.2)
def dj(st:es.all aAe=true)(XD:(HB.endLine==pos.line)=true)(T5:es.length<29)(env:uM)(hb:attributeBase o m env (eval o env)=eval o env:=by rfl):eval (.Call (.Attribute o m HB) es [] pos) env=(do
   let ov <- eval o env
   standAt HB.atName
   let (f,first) <- holding [ov] (getMethod ov m (do return (<- importBound o env).getD true))
   callWith pos f first (fF pos (bC es env)) (backToKw pos (keywordEach [] env))):=by
 rw[arm_eval_Call]
 have rAa:methodCallForm (es.length+([]:List XY).length) (fF pos (bC es env)) (backToKw pos (keywordEach [] env))=true:=by
  unfold methodCallForm;rw[(uI st env pos).2];simp only[iJ]
  have:(backToKw pos (keywordEach [] env))=[]:=rfl
  rw[this];simp
  lia
 have JO:methodCallPos true o env HB pos=pure pos:=by unfold methodCallPos;simp[XD]
 unfold methodCall;rw[rAa];unfold calleeOf;simp only[if_true,JO,hb];rfl
def eNa(xo:SA X K P C Z)(hi:Z.slot x=some i)(hm:Z.gl (dot m)=.yF tb)(st:es.all aAe=true)(XD:(HB.endLine==pos.line)=true)(T5:es.length<29)(ha:PA X es (kH K P C cs))(hz:es=[]->cs=[]):NA X K P C (.Call (.Attribute (.Name x p) m HB) es [] pos) (.JJ i m tb cs):=by
 have hp:=CC.dP xo hi (pos:=p);refine XE xo (λaA s Y H Q I q=>?_);obtain⟨U,G,v,U',r,e,k⟩:=q;replace e:(match U[i]? with | some (.sh (.ins c ns ds))=>(match fH c ns m tb with | some f=>(eD P C cs U).bind λhs U1=>pF (P f) (C f) (.val (.sh (.ins c ns ds))::hs) U1 | none=>none) | _=>none)=some (.ok v,U'):=e;split at e
 ·rename_i c ns ds hs;split at e
  ·rename_i f zW;unfold fH at zW;split at zW
   ·cases zW
   ·rename_i HH;obtain⟨Ca,fa,fd,ps,k0,hn,M,F,hr,hb,fD⟩:=(xo.yF m tb c f hm zW).ex;obtain⟨x0,C6,U8⟩:=r.sh i _ hs;have rx1:=U8;simp only[jA] at U8;obtain⟨a,Cb,dx,vs,rfl,h1,h2,h3,h4,h5⟩:=U8;rw[hn] at h1;cases h1;obtain⟨Tf,U1,e1,e⟩:=xB e;have hK:=xo.gD;have Pd:fE X.K Ca:=by rw[hK];exact h4.cl
    have main:∀t:TA,(∀Y H Q,kH K P C cs Y H Q->t Y H Q)->C9 Ca m (AU K (P f).length (C f)) [] (λ_ _ _=>False) (wN i) t Y H Q:=λt ht=>by
     refine⟨.ref a,C6,a,dx,_,rfl,r.sub _ _ h2,Vi (by simpa using HH),ht _ _ _ ⟨U,G,Tf,U1,r,e1,λxs H1 G1 a1 rx=>?_⟩⟩;have JX:mE K H1 G1 (AA U1 Y) (JE H) Y (.val (.sh (.ins c ns ds))::Tf) (.ref a::xs):=⟨.ref a,xs,rfl,jA.mono a1.ext.gg _ rx1,rx,λd b z=>by cases z⟩
     obtain⟨as,G2,VA,d1,d2,d3,_,d4⟩:=aW a1 JX e;dsimp only;rw[kE];refine⟨?_,as,G2,v,VA,d1,d2,d3,λx H' G' a hv=>?_⟩
     ·have:=d1.len
      rw[nA] at this
      lia
     ·obtain⟨a5,v5⟩:=d4 x H' G' a hv;exact k x H' G' a5 v5
    cases es with
    |nil =>
     cases hz rfl;refine fQa hp Pd M F hr hb .nil yX (dj st XD T5 _) aA s Y H Q I (main _ λY' H' Q' z=>?_);obtain⟨U2,G2,oE,U3,r2,e2,k2⟩:=z;rw[eD] at e2;cases e2;exact k2 [] H' G2 (CA.refl r2) rfl
    |cons e0 es0 =>
     have Vl:=st;rw[xC,aB] at st;exact eQa hp Pd M F hr hb .nil yX ha (cD st.1 _ _) (uI st.2 _ _).1 (dj Vl XD T5 _) aA s Y H Q I (main _ λ_ _ _ z=>z)
  ·cases e
 ·cases e
end
section
variable{X:Cx}{K:fA}{P:ZA}{C:Calls}{Z:CC}
def uMa(xo:SA X K P C Z)(hv:∀v∈vs,NA X K P C v (cE Z v))(hc:NA X K P C (.Dict ks vs pos) c):NA X K P C (.Dict ks vs pos) (X0 ks vs (oB Z vs) c):=hc
end
structure YB(K:fA)(U:Env)(Y:St)(H G:Hp)(U':Env)(Y':St)(H' G':Hp):Prop where
 pA:FA K U' Y' H' G'
 ext:Ext (AA U Y) H G H' G'
 own:∀a,AA U' Y' a->AA U Y a\/H a=none
 un:∀i:Nat,U'[i]?=some .un->U[i]?=some .un/\Y'[i]?=Y[i]?
 pin:∀(i:Nat) d l,U[i]?=some (.ow d true l)->Y'[i]?=Y[i]?/\∃d',U'[i]?=some (.ow d' true l)
 len:U'.length=U.length
section
variable{K:fA}
theorem YB.refl(r:FA K U Y H G):YB K U Y H G U Y H G:=⟨r,Ext.refl,λ_ h=>.inl h,λ_ h=>⟨h,rfl⟩,λ_ d _ h=>⟨rfl,d,h⟩,rfl⟩
theorem CA.s(r:FA K U Y H G)(a:CA K U Y H G U' H' G'):YB K U Y H G U' Y H' G':=by
 refine⟨a.pA,a.ext,λx h=>.inl (a.own x h),λi h=>⟨?_,rfl⟩,λi d l h=>⟨rfl, ?_⟩, ?_⟩
 ·have:=a.qK i
  rw[h] at this
  cases e:U[i]? with
  |none=>rw[e] at this;exact this.elim
  |some s=>rw[e] at this;cases s<;>first | rfl | exact this.elim
 ·have:=a.qK i
  rw[h] at this
  cases e:U'[i]? with
  |none=>rw[e] at this;exact this.elim
  |some s =>
   rw[e] at this
   cases s with
   |ow d' p' l'=>obtain⟨rfl,rfl⟩:=this;exact⟨d',rfl⟩
   |sh d'=>exact absurd (show true=false from this) (by simp)
   |_=>exact this.elim
 ·rw[a.pA.len,r.len]
theorem YB.trans(a:YB K U Y H G U1 Y1 H1 G1)(b:YB K U1 Y1 H1 G1 U2 Y2 H2 G2):YB K U Y H G U2 Y2 H2 G2:=by
 refine⟨b.pA,a.ext.trans a.own b.ext,λx h=>?_,λi h=>?_,λi d l h=>?_,b.len.trans a.len⟩
 ·rcases b.own x h with z | z
  ·exact a.own x z
  ·exact .inr (a.ext.hx x z)
 ·obtain⟨h1,h2⟩:=b.un i h;obtain⟨h3,h4⟩:=a.un i h1;exact⟨h3,h2.trans h4⟩
 ·obtain⟨h1,d',h2⟩:=a.pin i d l h;obtain⟨h3,h4⟩:=b.pin i d' l h2;exact⟨h3.trans h1,h4⟩
def AH(K:fA)(U:Env)(Y:St)(H G:Hp)(U':Env)(D:Ends):Fl->Prop
 |.nx=>∀Y' H' G',YB K U Y H G U' Y' H' G'->D.nx Y' H'
 |.bk=>∀Y' H' G',YB K U Y H G U' Y' H' G'->D.bk Y' H'
 |.ct=>∀Y' H' G',YB K U Y H G U' Y' H' G'->D.ct Y' H'
 |.rt v=>∀x Y' H' G',YB K U Y H G U' Y' H' G'->MC K H' G' (AA U' Y') (λa=>AA U Y a\/H a=none) v x->D.rt x H'
 |.ex _=>False
def AH.pre{D:Ends}(a:YB K U Y H G U1 Y1 H1 G1)(h:AH K U Y H G U' D fl):AH K U1 Y1 H1 G1 U' D fl:=by
 cases fl with
 |nx=>exact λY' H' G' b=>h Y' H' G' (a.trans b)
 |bk=>exact λY' H' G' b=>h Y' H' G' (a.trans b)
 |ct=>exact λY' H' G' b=>h Y' H' G' (a.trans b)
 |rt v=>exact λx Y' H' G' b hv=>h x Y' H' G' (a.trans b) (hv.YI λc z=>by
   rcases z with z | z
   ·exact a.own c z
   ·exact .inr (a.ext.hx c z))
 |ex e=>exact h
end
def tS(K:fA)(P:ZA)(C:Calls)(W:Nat)(c:S):TS:=λD Y H=>∃(U:Env) (G:Hp) (fl:Fl) (U':Env),FA K U Y H G/\ex P C W c U=some (fl,U')/\AH K U Y H G U' D fl
def lH(K:fA)(P:ZA)(C:Calls)(W:Nat)(c:List S):TS:=λD Y H=>∃(U:Env) (G:Hp) (fl:Fl) (U':Env),FA K U Y H G/\DA P C W c U=some (fl,U')/\AH K U Y H G U' D fl
def TS.pE(h:PS X e t)(w:∀D Y H,u D Y H->t D Y H):PS X e u:=λaA s Y H D I q=>h aA s Y H D I (w D Y H q)
def TS.E6(h:HC X e t)(w:∀D Y H,u D Y H->t D Y H):HC X e u:=λaA s Y H D I q=>h aA s Y H D I (w D Y H q)
section
variable{X:Cx}{K:fA}
def MI{r:zA O}(h:r.nC f=some (fl,U))(n:∀e,fl≠.ex e):∃a U1,r=some (.ok a,U1)/\f a U1=some (fl,U):=by
 unfold zA.nC at h;split at h
 ·cases h
 ·cases h;exact absurd rfl (n _)
 ·exact⟨_,_,rfl,h⟩
def AH.ne{D:Ends}(h:AH K U Y H G U' D fl):∀e,fl≠.ex e:=λe z=>by subst z;exact h
def dTa:HC X [] (lH K P C W []):=TS.E6 Ck λD Y H hz=>by
 obtain⟨U,G,fl,U',r,e,k⟩:=hz;simp only[DA,eC,lE] at e;obtain⟨rfl,rfl⟩:=e;exact k Y H G (YB.refl r)
def cTa{st:XA}{aAn:List XA}(h1:PS X st (tS K P C W c))(h2:HC X aAn (lH K P C W cs)):HC X (st::aAn) (lH K P C W (c::cs)):=by
 refine TS.E6 (G8 h1 h2) λD Y H hz=>?_
 obtain⟨U,G,fl,U',r,e,k⟩:=hz;rw[DA] at e
 cases q:ex P C W c U with
 |none=>rw[q] at e;cases e
 |some y =>
  obtain⟨DL,U1⟩:=y;rw[q] at e;refine⟨U,G,DL,U1,r,q, ?_⟩
  cases DL with
  |nx=>exact λY1 H1 G1 a1=>⟨U1,G1,fl,U',a1.pA,e,k.pre a1⟩
  |bk=>cases e;exact k
  |ct=>cases e;exact k
  |rt v=>cases e;exact k
  |ex x=>cases e;exact k
def FA.oXa(r:FA K U Y H G)(e:store i v U=some U')(h:MC K H G (AA U Y) new v x) :
  FA K U' (Y.set i (some x)) H G/\(∀a,AA U' (Y.set i (some x)) a->AA U Y a\/new a)/\(∀j:Nat,U'[j]?=some .un->U[j]?=some .un/\(Y.set i (some x))[j]?=Y[j]?) /\
  (∀(j:Nat) d l,U[j]?=some (.ow d true l)->(Y.set i (some x))[j]?=Y[j]?/\∃d',U'[j]?=some (.ow d' true l))/\U'.length=U.length:=by
 have key:∃sl,i<U.length/\U'=U.set i sl/\(∀d l,U[i]?≠some (.ow d true l))/\((∃d,v=.sh d/\sl=.sh d)\/∃d,v=.ow d/\sl=.ow d false false):=by
  unfold store at e;split at e
  ·cases e
  ·cases e
  ·cases e
  ·rename_i s h1 h2 h3;have qg:∀d l,U[i]?≠some (.ow d true l):=λd l z=>by rw[h3] at z;cases z;exact h1 _ _ rfl
   have sD:=(eE.mp h3).1
   cases v with
   |sh d=>cases e;exact⟨_,sD,rfl,qg,.inl ⟨d,rfl,rfl⟩⟩
   |ow d=>cases e;exact⟨_,sD,rfl,qg,.inr ⟨d,rfl,rfl⟩⟩
   |od d=>cases e
 obtain⟨sl,hi,rfl,np,hs⟩:=key;have FJ:i<Y.length:=by rw[<- r.len];exact hi
 have hx:(Y.set i (some x))[i]?=some (some x):=iL FJ;have ne:∀j:Nat,j≠i->(Y.set i (some x))[j]?=Y[j]?:=λj h=>EF (λz=>h z.symm)
 have AF:∀(j:Nat) s,(U.set i sl)[j]?=some s->(j=i/\s=sl)\/(j≠i/\U[j]?=some s):=λj s h=>by
  rcases sI h with ⟨h1,h2,_⟩ | h
  ·exact .inl ⟨h1,h2⟩
  ·exact .inr h
 refine⟨⟨by rw[vH,vH];exact r.len,r.sub,λj d h1=>?_,λj d p l h1=>?_,λj k d p l d' p' l' a h1 h2 h3 h4=>?_⟩,λa ⟨j,d,p,l,h1,h2⟩=>?_,λj h1=>?_,λj d l h1=>?_,by rw[vH]⟩
 ·rcases AF j _ h1 with ⟨rfl,z⟩ | ⟨nj,z⟩
  ·rcases hs with ⟨d0,rfl,rfl⟩ | ⟨d0,rfl,rfl⟩
   ·cases z;exact⟨x,hx,h⟩
   ·cases z
  ·rw[ne j nj];exact r.sh j d z
 ·rcases AF j _ h1 with ⟨rfl,z⟩ | ⟨nj,z⟩
  ·rcases hs with ⟨d0,rfl,rfl⟩ | ⟨d0,rfl,rfl⟩
   ·cases z
   ·cases z;obtain⟨a,rfl,g,o,_,_⟩:=h;exact⟨a,hx,g,o⟩
  ·rw[ne j nj];exact r.ow j d p l z
 ·rcases AF j _ h1 with ⟨rfl,z⟩ | ⟨nj,z⟩
  ·rcases AF k _ h2 with ⟨rfl,z'⟩ | ⟨nk,z'⟩
   ·rfl
   ·rcases hs with ⟨d0,rfl,rfl⟩ | ⟨d0,rfl,rfl⟩
    ·cases z
    ·obtain⟨b,rfl,g,o,no,_⟩:=h;rw[hx] at h3;cases h3;rw[ne k nk] at h4;exact absurd ⟨k,_,_,_,z',h4⟩ no
  ·rcases AF k _ h2 with ⟨rfl,z'⟩ | ⟨nk,z'⟩
   ·rcases hs with ⟨d0,rfl,rfl⟩ | ⟨d0,rfl,rfl⟩
    ·cases z'
    ·obtain⟨b,rfl,g,o,no,_⟩:=h;rw[hx] at h4;cases h4;rw[ne j nj] at h3;exact absurd ⟨j,_,_,_,z,h3⟩ no
   ·rw[ne j nj] at h3;rw[ne k nk] at h4;exact r.inj _ _ _ _ _ _ _ _ _ z z' h3 h4
 ·rcases AF j _ h1 with ⟨rfl,z⟩ | ⟨nj,z⟩
  ·rcases hs with ⟨d0,rfl,rfl⟩ | ⟨d0,rfl,rfl⟩
   ·cases z
   ·obtain⟨b,rfl,g,o,no,m⟩:=h;rw[hx] at h2;cases h2;exact .inr m
  ·rw[ne j nj] at h2;exact .inl ⟨j,d,p,l,z,h2⟩
 ·rcases AF j _ h1 with ⟨rfl,z⟩ | ⟨nj,z⟩
  ·rcases hs with ⟨d0,rfl,rfl⟩ | ⟨d0,rfl,rfl⟩<;>cases z
  ·exact⟨z,ne j nj⟩
 ·by_cases hj:j=i
  ·subst hj;exact absurd h1 (np d l)
  ·exact⟨ne j hj,d,by rw[EF (λz=>hj z.symm)];exact h1⟩
theorem CA.store(r:FA K U Y H G)(a:CA K U Y H G U1 H1 G1)(e:store i v U1=some U')(h:MC K H1 G1 (AA U1 Y) (JE H) v x):YB K U Y H G U' (Y.set i (some x)) H1 G1:=by
 obtain⟨h1,h2,h3,h4,h5⟩:=a.pA.oXa e h;have s:=CA.s r a;refine⟨h1,a.ext,λb z=>?_,λj z=>?_,λj d l z=>?_,h5.trans s.len⟩
 ·rcases h2 b z with z | z
  ·exact s.own b z
  ·exact .inr z
 ·obtain⟨z1,z2⟩:=h3 j z;obtain⟨z3,z4⟩:=s.un j z1;exact⟨z3,z2⟩
 ·obtain⟨_,d',z2⟩:=s.pin j d l z;exact h4 j d' l z2
def FA.om(r:FA K U Y H G)(e:store i (.sh d) U=some U')(h:jA K G d x):YB K U Y H G U' (Y.set i (some x)) H G :=
 CA.store r (CA.refl r) e h
def gB(K:fA)(one:Bool)(is:List Nat):TG:=λv Y H Q=>∃(U:Env) (G:Hp) (d:D) (U':Env),FA K U Y H G/\jA K G d v/\lB one is d U=some U'/\∀Y',YB K U Y H G U' Y' H G->Q Y' H
def MS(K:fA)(is:List Nat):bQ:=λvs Y H Q=>∃(U:Env) (G:Hp) (ds:List D) (U':Env),FA K U Y H G/\kA K G ds vs/\aAo is ds U=some U'/\∀Y',YB K U Y H G U' Y' H G->Q Y' H
def nQa(h:PG X tg (vO i)):PG X tg (gB K true [i]):=by
 intro aA s Y H v u Q I rv h0;obtain⟨U,G,d,U',r,hd,e,k⟩:=h0;exact h aA s Y H v u Q I rv (k _ (r.om (by simpa only[lB] using e) hd))
def tQa:tL X [] (MS K []):=λaA s Y H vs us Q I rv hz=>by
 obtain⟨U,G,ds,U',r,hd,e,k⟩:=hz
 cases ds with
 |nil =>
  simp only[aAo,eC] at e;subst e;simp only[kA] at hd;subst hd;exact sQa aA s Y H [] us Q I rv ⟨rfl,k Y (YB.refl r)⟩
 |cons d ds=>simp[aAo] at e
def rQa(h:PG X e (vO i))(t:tL X es (MS K is))(hs:(RH (e::es) X.env).map (·.2)=assign e X.env::(RH es X.env).map (·.2)):tL X (e::es) (MS K (i::is)) :=
 λaA s Y H vs us Q I rv hz=>by
  obtain⟨U,G,ds,U',r,hd,e,k⟩:=hz
  cases ds with
  |nil=>simp[aAo] at e
  |cons d ds =>
   simp only[aAo] at e
   cases q:store i (.sh d) U with
   |none=>rw[q] at e;cases e
   |some U1 =>
    rw[q] at e;simp only[kA] at hd;obtain⟨v,r',rfl,h1,h2⟩:=hd;have a1:=r.om q h1;exact qQa h t hs aA s Y H (v::r') us Q I rv ⟨v,r',rfl,U1,G,ds,U',a1.pA,h2,e,λY' a2=>k Y' (a1.trans a2)⟩
theorem tm:∀{is:List Nat} {ds:List D} {U U':Env},aAo is ds U=some U'->ds.length=is.length
 |[],[],_,_,_=>rfl
 |[],_::_,_,_,e=>by simp[aAo] at e
 |_::_,[],_,_,e=>by simp[aAo] at e
 |i::is,d::ds,U,U',e=>by
  simp only[aAo] at e
  cases q:store i (.sh d) U with
  |none=>rw[q] at e;cases e
  |some U1=>rw[q] at e;simp[tm e]
def Zj(xo:SA X K P C Z)(t:tL X es (MS K is))(hn:(RH es X.env).length=is.length)(DG:(RH es X.env).findIdx? (·.1)=none):PG X (.Tuple es k0 pos) (gB K false is) :=
 λaA s Y H v u Q I rv hz=>by
  obtain⟨U,G,d,U',r,hd,e,k⟩:=hz
  cases d with
  |t ds =>
   simp only[lB] at e;simp only[jA] at hd;obtain⟨a,vs,rfl,h1,h2⟩:=hd;refine pQa xo.calm t hn DG aA s Y H (.ref a) u Q I rv ⟨a,vs,rfl, ?_, ?_,U,G,ds,U',r,h2,e,k⟩
   ·rw[xo.gD];exact OJ r.sub h1
   ·rw[h2.len];exact tm e
  |_=>simp only[lB,reduceCtorEq] at e
end
mutual
noncomputable def d0a(x:bA):XA->Bool
 |.For _ it body _ _=>(aAr it==some x)||HU x body
 |.If _ a b _=>HU x a||HU x b
 |_=>false
noncomputable def HU(x:bA):List XA->Bool
 |[]=>false
 |s::r=>d0a x s||HU x r
end
def RQ(Z:CC)(it:xA)(body:List XA)(cs:List E):List E :=
 match aAr it with
 |some x=>(match Z.slot x with | some i=>if HU x body then [.OD i] else cs | none=>cs)
 |none=>cs
def HX(Z:CC)(x:bA)(args:List xA):S:=if args.all aAe&&(decide (args≠[])&&decide (args.length<=100)) then(match Z.glob x with | .exc=>.RK x (oB Z args) | .sJ=>.S8 x (oB Z args) | _=>.oA) else .oA
def uU(Z:CC)(e:xA):S:=match QQ e with
 |some x=>HX Z x.1.1 x.2.1
 |none=>.oA
def DO:List DP->Option (bA×bA×List XA)
 |[.ExceptHandler (some c) (some n) body _]=>(aAr c).map λx=>(x,n,body)
 |_=>none
def fj(h:aAr e=some x):∃p,e=.Name x p:=by
 cases e<;>first | exact IG h | exact⟨_,congrArg (λy=>Expr.Name y _) (rE h)⟩
def pBa(h:DO hs=some (x,n,body)):∃p q,hs=[.ExceptHandler (some (.Name x p)) (some n) body q]:=by
 obtain _ | ⟨⟨ty,nm,bd,p2⟩,_ | ⟨_,_⟩⟩:=hs
 ·exact IG h
 ·obtain _ | c:=ty
  ·exact IG h
  ·obtain _ | n':=nm
   ·exact IG h
   ·replace h:(aAr c).map (λx=>(x,n',bd))=some (x,n,body):=h
    cases hc:aAr c with
    |none=>rw[hc] at h;exact IG h
    |some y =>
     rw[hc] at h;cases h;obtain⟨p,rfl⟩:=fj hc;exact⟨_,_,rfl⟩
 ·obtain _ | c:=ty<;>obtain _ | n':=nm<;>exact IG h
def zu:List XA->Option (bA×bA)
 |[.Assign [t] v _]=>(aAr t).bind λy=>(aAr v).map λn=>(y,n)
 |_=>none
noncomputable def vo(Z:CC)(cb:List S)(x n:bA)(body:List XA):S:=.oA
noncomputable def wo(Z:CC)(cb:List S)(x n:bA)(body:List XA):S:=.oA
def hDa(n:bA)(body:List XA):Bool:=match zu body with
 |some (_,n')=>n'==n
 |none=>false
noncomputable def O8:XA->Bool
 |.Return (some (.Constant .none _ _)) _=>true
 |_=>false
def au(st:XA):Prop:=∃k p q,st=.Return (some (.Constant .none k p)) q
def tUa{st:XA}(h:O8 st=true):au st:=by
 cases st with
 |Return e q =>
  cases e with
  |none=>exact oC h
  |some e =>
   cases e with
   |Constant v k p =>
    cases v with
    |none=>exact Exists.intro _ ⟨_,_,rfl⟩
    |_=>exact oC h
   |_=>exact oC h
 |_=>exact oC h
def og:List DP->Option (bA×XA)
 |[.ExceptHandler (some c) none [st] _]=>if O8 st then(aAr c).map λx=>(x,st) else none
 |_=>none
def oBa{st:XA}(h:og hs=some (x,st)):∃p k p1 p2 q,hs=[.ExceptHandler (some (.Name x p)) none [.Return (some (.Constant .none k p1)) p2] q]:=by
 obtain _ | ⟨⟨ty,nm,bd,q⟩,_ | ⟨_,_⟩⟩:=hs
 ·exact IG h
 ·obtain _ | c:=ty
  ·exact IG h
  ·obtain _ | n:=nm
   ·obtain _ | ⟨s1,_ | ⟨_,_⟩⟩:=bd
    ·exact IG h
    ·replace h:(if O8 s1 then(aAr c).map (λx=>(x,s1)) else none)=some (x,st):=h;split at h
     ·rename_i hr;obtain⟨k,p1,p2,rfl⟩:=tUa hr
      cases hc:aAr c with
      |none=>rw[hc] at h;exact IG h
      |some y =>
       rw[hc] at h;cases h;obtain⟨p,rfl⟩:=fj hc;exact⟨_,_,_,_,_,rfl⟩
     ·exact IG h
    ·exact IG h
   ·exact IG h
 ·obtain _ | c:=ty
  ·exact IG h
  ·obtain _ | n:=nm
   ·obtain _ | ⟨s1,_ | ⟨_,_⟩⟩:=bd<;>exact IG h
   ·exact IG h
noncomputable def XX(cb:List S)(hs:List DP)(o f:List XA):S:=.oA
def O9(Z:CC)(cb:List S)(hs:List DP):S:=XX cb hs [] []
def N9(Z:CC)(cb:List S)(hs:List DP):S:=match og hs with
 |some (x,_)=>(match Z.vQ x with
  |.DA cs=>.xR cb cs
  |_=>.oA)
 |none=>O9 Z cb hs
def GU(Z:CC)(cb:List S)(hs:List DP)(o f:List XA):S :=
 if o.isEmpty&&f.isEmpty then(match DO hs with
  |some (x,n,body)=>if(Z.names.lookup n==some .local)&&Z.top then(if hDa n body then vo Z cb x n body else if body.isEmpty then .oA else wo Z cb x n body) else .oA
  |none=>if Z.top then N9 Z cb hs else .oA) else .oA
def fQ:xA->xA
 |.Subscript a i p=>if eR i then fQ a else .Subscript a i p
 |e=>e
noncomputable def iDa:xA->Bool
 |.Call _ _ _ _=>true
 |_=>false
noncomputable def vDa:xA->Bool
 |.Subscript _ _ _=>true
 |_=>false
def pU(Z:CC)(e:xA)(c:S):S:=if vDa e&&iDa (fQ e) then .cP (cE Z (fQ e)) (cE Z e) else c
noncomputable def qU(e:xA)(c:E):S:=.ret c
noncomputable def aWa(Z:CC)(s:XA)(r:List XA):Option (Nat×Nat×E×E):=none
noncomputable def bWa(o:Option (Nat×Nat×E×E))(c:S)(cs:List S):List S :=
 match o with
 |none=>c::cs
 |some (i,j,ce,cc)=>.El i j ce cc::cs.drop 3
noncomputable def yU(i:Nat)(k:xA)(ck ce:E):S:=.set i ck ce
noncomputable def BU(Z:CC)(ts:List xA)(e:xA)(ce:E):S:=.oA
def JS(Z:CC)(it:xA):Option (kF×List E):=match aAr it with
 |some x=>if x==("steps":bA) then(Z.slot x).map λi=>(.key,[.OD i]) else none
 |none=>(match QQ it with
  |some x=>if(x.1.1==("range":bA))&&(x.2.1.length==3)&&x.2.1.all aAe then(match Z.glob x.1.1 with
   |.vB=>some (.nU,oB Z x.2.1)
   |_=>none) else none
  |none=>none)
noncomputable def LS(o:Option (kF×List E))(t:Option (Bool×List Nat))(cb:List S)(c:S):S:=match o with
 |some u=>(match t with | some x=>.for x.2 x.1 u.1 u.2 cb | none=>.oA)
 |none=>c
mutual
noncomputable def cS(Z:CC):XA->S
 |.Pass _=>.pass
 |.Break _=>.brk
 |.Continue _=>.cnt
 |.Return (some e) _=>pU Z e (qU e (cE Z e))
 |.Return none _=>.DX
 |.Expr e _=>if YD e then .expr (cE Z e) else .oA
 |.If c a b _=>.yA (cE Z c) (rD Z a) (rD Z b)
 |.While c body [] _=>.WK (cE Z c) (rD Z body)
 |.For tg it body [] _=>LS (JS Z it) (NG Z tg) (rD Z body) (match NG Z tg,JK Z it with
  |some (one,is),some (k,cA)=>if TK k one then .for is one k (RQ Z it body (oB Z cA)) (rD Z body) else .oA
  |_,_=>.oA)
 |.Assign [.Name x _] e _=>match Z.bF x with
  |some i=>if YD e||DT e then .HA i (cE Z e) else .oA
  |none=>.oA
 |.Assign [.Tuple ts _ _] e _=>match UK Z ts with
  |some is=>if YD e&&bU e then .dQ is (cE Z e) else .oA
  |none=>BU Z ts e (cE Z e)
 |.Assign [.Subscript (.Name x _) k _] e _=>match Z.slot x with
  |some i=>if YD e&&eR k then yU i k (cE Z k) (cE Z e) else .oA
  |none=>.oA
 |.AugAssign (.Name x _) .Add e _=>(match Z.bF x with
  |some i=>if YD e then .aug i (cE Z e) else .oA
  |none=>.oA)
 |.AugAssign (.Name x _) .Sub e _=>(match Z.bF x with
  |some i=>if YD e then .aug i (.neg (cE Z e)) else .oA
  |none=>.oA)
 |.Raise (some e) none _=>uU Z e
 |.Try body hs o f _=>GU Z (rD Z body) hs o f
 |_=>.oA
noncomputable def rD(Z:CC):List XA->List S
 |[]=>[]
 |s::r=>bWa (aWa Z s r) (cS Z s) (rD Z r)
end
abbrev XH(X:Cx)(Z:CC):Prop:=∀x,Z.OO x=true->X.fn x=true\/X.env.scope.names.lookup x=some .local
section
variable{K:fA}
def SX(h:YD e=true)(t:Option xA)(line:Nat)(env:uM):swapsWith e t line env=pure false:=by
 cases e<;>first | rfl | cases h
def v9(h:YD e=true)(t:xA)(line:Nat)(env:uM):swapsWithSole [t] e line env=pure false:=SX h _ _ _
def F8{st:XA}(h:∀U,ex P C W c U=none):PS X st (tS K P C W c):=λaA s Y H D I hz=>by obtain⟨U,G,fl,U',r,e,k⟩:=hz;rw[h] at e;cases e
def wC{st:XA}:PS X st (tS K P C W .oA):=F8 λU=>rfl
def qSa:PS X (.Pass pos) (tS K P C W .pass):=TS.pE pSa λD Y H hz=>by
 obtain⟨U,G,fl,U',r,e,k⟩:=hz;cases e;exact k Y H G (YB.refl r)
def gSa:PS X (.Break pos) (tS K P C W .brk):=TS.pE fSa λD Y H hz=>by
 obtain⟨U,G,fl,U',r,e,k⟩:=hz;cases e;exact k Y H G (YB.refl r)
def hSa:PS X (.Continue pos) (tS K P C W .cnt):=TS.pE jSa λD Y H hz=>by
 obtain⟨U,G,fl,U',r,e,k⟩:=hz;cases e;exact k Y H G (YB.refl r)
def kSa(h:NA X K P C e c)(n:YD e=true):PS X (.Expr e pos) (tS K P C W (.expr c)):=by
 refine TS.pE (zk h.v (SX n _ _ _)) λD Y H hz=>?_
 obtain⟨U,G,fl,U',r,e,k⟩:=hz;obtain⟨v,U1,e1,e2⟩:=MI e k.ne;cases e2;exact⟨U,G,v,_,r,e1,λx H' G' a hv=>k Y H' G' (CA.s r a)⟩
def tSa:PS X (.Return none pos) (tS K P C W .DX):=TS.pE sSa λD Y H hz=>by
 obtain⟨U,G,fl,U',r,e,k⟩:=hz;cases e;exact k .iA Y H G (YB.refl r) (by show jA K G .iA _;simp[jA])
def FA.give(r:FA K U Y H G)(h:U[i]?=some (.ow d false l))(hx:Y[i]?=some (some (.ref a))) :
  YB K U Y H G (U.set i .mv) Y H G/\MC K H G (AA (U.set i .mv) Y) (λa=>AA U Y a\/H a=none) (.ow d) (.ref a):=by
 have key:∀(j:Nat) (sl:Sl),(U.set i .mv)[j]?=some sl->(j=i/\sl=.mv)\/(j≠i/\U[j]?=some sl):=λj sl z=>by
  rcases sI z with ⟨e,z,_⟩ | z
  ·exact .inl ⟨e,z⟩
  ·exact .inr z
 obtain⟨b,h1,g,o⟩:=r.ow i d false l h;rw[hx] at h1;cases h1
 have BF:∀c,AA (U.set i .mv) Y c->AA U Y c/\c≠a:=λc hz=>by
  obtain⟨j,d',p',l',z,w⟩:=hz;rcases key j _ z with ⟨_,q⟩ | ⟨nj,q⟩
  ·cases q
  ·refine⟨⟨j,d',p',l',q,w⟩,λz=>?_⟩;subst z;exact nj (r.inj _ _ _ _ _ _ _ _ _ q h w hx)
 refine⟨⟨⟨by rw[vH];exact r.len,r.sub,λj d' z=>?_,λj d' p' l' z=>?_,λj k d1 p1 l1 d2 p2 l2 c z1 z2 z3 z4=>?_⟩,Ext.refl,λc z=>.inl (BF c z).1,λj z=>?_,λj d' l' z=>⟨rfl,d', ?_⟩,by rw[vH]⟩,a,rfl,g,o,λz=>(BF a z).2 rfl,.inl ⟨i,d,false,l,h,hx⟩⟩
 ·rcases key j _ z with ⟨_,q⟩ | ⟨nj,q⟩
  ·cases q
  ·exact r.sh j d' q
 ·rcases key j _ z with ⟨_,q⟩ | ⟨nj,q⟩
  ·cases q
  ·exact r.ow j d' p' l' q
 ·rcases key j _ z1 with ⟨_,q⟩ | ⟨nj,q⟩
  ·cases q
  ·rcases key k _ z2 with ⟨_,q'⟩ | ⟨nk,q'⟩
   ·cases q'
   ·exact r.inj _ _ _ _ _ _ _ _ _ q q' z3 z4
 ·rcases key j _ z with ⟨_,q⟩ | ⟨nj,q⟩
  ·cases q
  ·exact⟨q,rfl⟩
 ·have nj:j≠i:=λw=>by subst w;rw[h] at z;cases z
  rw[EF (λw=>nj w.symm)];exact z
def uSa(h:NA X K P C e c):PS X (.Return (some e) pos) (tS K P C W (.ret c)):=by
 by_cases hv:∃i,c=.v i
 ·obtain⟨i,rfl⟩:=hv;refine TS.pE (lR h.h) λD Y H hz=>?_
  obtain⟨U,G,fl,U',r,e,k⟩:=hz;replace e:(match U[i]? with | some (.ow d false _)=>some (.rt (.ow d),U.set i .mv) | some (.sh d)=>some (.rt (.sh d),U) | _=>none)=some (fl,U'):=e;split at e
  ·rename_i d l hd;cases e;obtain⟨a,h1,g,o⟩:=r.ow i d false l hd;refine⟨U,G,.slot i,U,r,by simp[hd,hd,Sl.get,CI.hd],λx H' G' a1 hx=>?_⟩;obtain⟨a',uJ,g',o'⟩:=a1.pA.ow i d false l hd;have hx:Y[i]?=some (some x):=hx;rw[hx] at uJ;cases uJ;obtain⟨s1,v1⟩:=a1.pA.give hd hx;exact(k.pre (CA.s r a1)) _ Y H' G' s1 v1
  ·rename_i d hd;cases e;obtain⟨v,h1,h2⟩:=r.sh i d hd;refine⟨U,G,.slot i,U,r,by simp[hd,Sl.get,CI.hd],λx H' G' a1 hx=>?_⟩;obtain⟨v',uJ,L'⟩:=a1.pA.sh i d hd;have hx:Y[i]?=some (some x):=hx;rw[hx] at uJ;cases uJ;exact k x Y H' G' (CA.s r a1) L'
  ·cases e
 ·refine TS.pE (lR h.v) λD Y H hz=>?_
  obtain⟨U,G,fl,U',r,e,k⟩:=hz
  have e':(ev P C false c U).nC (λv U1=>some (.rt v,U1))=some (fl,U'):=by
   cases c<;>first | exact absurd ⟨_,rfl⟩ hv | exact e
  obtain⟨v,U1,e1,e2⟩:=MI e' k.ne;cases e2;exact⟨U,G,v,_,r,e1,λx H' G' a hv=>k x Y H' G' (CA.s r a) (hv.YI λa z=>.inr z)⟩
def nSa(hc:NA X K P C c cc)(ha:HC X a (lH K P C W ca))(hb:HC X b (lH K P C W cb)):PS X (.If c a b pos) (tS K P C W (.yA cc ca cb)):=by
 refine TS.pE (Ak hc.t ha hb) λD Y H hz=>?_
 obtain⟨U,G,fl,U',r,e,k⟩:=hz;obtain⟨v,U1,e1,e2⟩:=MI e k.ne;split at e2
 ·refine⟨U,G,true,U1,r,e1,λH1 G1 a1=>?_⟩;refine QO ?_;exact⟨U1,G1,fl,U',a1.pA,e2,k.pre (CA.s r a1)⟩
 ·refine⟨U,G,false,U1,r,e1,λH1 G1 a1=>?_⟩;refine SQ ?_;exact⟨U1,G1,fl,U',a1.pA,e2,k.pre (CA.s r a1)⟩
 ·cases e2
def Z8{qq:Bool}(xo:EC qq X K P C Z)(WB:XH X Z){x:bA}{i:Nat}(h:Z.bF x=some i){pos:XB}:PG X (.Name x pos) (vO i):=by
 unfold CC.bF at h;split at h
 ·rename_i hl
  have hN:X.N[i]?=some x:=by
   unfold CC.slot at h;split at h
   ·cases h
   ·split at h
    ·rw[xo.oI];exact MW h
    ·cases h
  refine ak (by rw[xo.oI];exact xo.nd) hN ?_ (WB x hl);unfold L2.Loc;rw[xo.nm];unfold CC.OO at hl;rw[rM,aB] at hl;rcases hl with hl | hl
  ·exact .inl (GC hl)
  ·exact .inr (GC hl.2)
 ·cases h
def aSa{qq:Bool}(xo:EC qq X K P C Z)(WB:XH X Z){x:bA}{i:Nat}{e:xA}{c:E}{p pos:XB}(hi:Z.bF x=some i)(h:NA X K P C e c)(n:YD e=true):PS X (.Assign [.Name x p] e pos) (tS K P C W (.HA i c)):=by
 refine TS.pE (zX h.v (Z8 xo WB hi) (v9 n _ _ _)) λD Y H hz=>?_
 obtain⟨U,G,fl,U',r,e,k⟩:=hz;obtain⟨v,U1,e1,e2⟩:=MI e k.ne;unfold dH at e2
 cases q:store i v U1 with
 |none=>rw[q] at e2;cases e2
 |some U2 =>
  rw[q] at e2;cases e2;exact⟨U,G,v,U1,r,e1,λx H' G' a hv=>k _ H' G' (CA.store r a q hv)⟩
theorem F9(xo:SA X K P C Z)(WB:XH X Z):∀{ts:List xA} {is:List Nat},UK Z ts=some is->tL X ts (MS K is)/\(RH ts X.env).length=is.length/\(RH ts X.env).findIdx? (·.1)=none/\ts.length=is.length
 |[],is,h=>by cases h;exact⟨tQa,rfl,rfl,rfl⟩
 |e::es,is,h=>by
  simp only[UK] at h
  cases q:E9 Z e with
  |none=>rw[q] at h;cases h
  |some i =>
   rw[q] at h;simp only[uH] at h
   cases q2:UK Z es with
   |none=>rw[q2] at h;cases h
   |some Zg =>
    rw[q2] at h;cases h;obtain⟨h1,h2,h3,h4⟩:=F9 xo WB q2;cases e<;>simp only[E9,reduceCtorEq] at q;refine⟨rQa (Z8 xo WB q) h1 rfl, ?_, ?_,by simp[h4]⟩
    ·show(RH es X.env).length+1=Zg.length+1;rw[h2]
    ·show((false,_)::RH es X.env).findIdx? (·.1)=none;rw[List.findIdx?_cons,h3];rfl
def uXa(h:bU e=true)(env:uM):swappedStores [.Tuple ts k0 p] e env=pure none:=by
 cases e<;>first | rfl | cases h
def bSa(xo:SA X K P C Z)(WB:XH X Z){ts:List xA}{is:List Nat}{e:xA}{c:E}{k0:Nat}{p pos:XB}(hi:UK Z ts=some is)(h:NA X K P C e c)(n:YD e=true)(n2:bU e=true):PS X (.Assign [.Tuple ts k0 p] e pos) (tS K P C W (.dQ is c)):=by
 obtain⟨h1,h2,h3,h4⟩:=F9 xo WB hi;refine TS.pE (zX h.v (Zj xo h1 h2 h3) (v9 n _ _ _) (uXa n2 _)) λD Y H hz=>?_
 obtain⟨U,G,fl,U',r,e,k⟩:=hz;obtain⟨v,U1,e1,e2⟩:=MI e k.ne;unfold dH at e2
 cases q:lB false is v.d U1 with
 |none=>rw[q] at e2;cases e2
 |some U2 =>
  rw[q] at e2;cases e2;refine⟨U,G,v,U1,r,e1,λx H' G' a hv=>?_⟩;obtain⟨G2,a2,r2⟩:=a.share hv;exact⟨U1,G2,v.d,_,a2.pA,r2,q,λY' b=>k Y' H' G2 ((CA.s r a2).trans b)⟩
def oDa(h:zT U i=true):∃ks ds p l,U[i]?=some (.ow (.cB ks ds) p l):=by
 unfold zT at h;split at h
 ·rename_i d e p l q;exact⟨d,e,p,l,q⟩
 ·cases h
def fUa(K:fA):xV:=λo i v H Q=>∃a xs k b,o=.ref a/\i=.ref b/\DS K H a xs/\DC K H k b/\xs.length<sizeLine/\∀u,aAf v u->((storedH xs k b u).map (·.1)).Nodup->∀ep,Q (GA H a (.ext (iC a (storedH xs k b u) ep)))
def gUa:xV:=λ_ _ _ _ _=>False
def fWa(hu:X.A.units+11<cLine):rZ X (λo i v H Q=>Sk o i v H Q\/gUa o i v H Q\/fUa X.K o i v H Q):=by
 intro aA s Y H o i v ov iv u Q I ro ri rv h;rcases h with h | h | ⟨a,xs,k,b,rfl,rfl,d,kk,hl,q⟩
 ·exact aAT aA s Y H o i v ov iv u Q I ro ri rv h
 ·exact h.elim
 ·cases ro;cases ri;exact wVa hu I d kk hl λep s' I' nd=>⟨_,I',q _ rv nd ep⟩
def xSa(xo:SA X K P C Z)(hi:Z.slot x=some i)(h:NA X K P C e c)(hj:NA X K P C j cj)(n:YD e=true)
  (ha:∀v,assign (.Subscript (.Name x p) j p2) X.env v=(do
   let ov <- holding [v] (eval (.Name x p) X.env)
   let iv <- holding [v,ov] (eval j X.env)
   standAt p2
   holding [v,ov,iv] (setItem ov iv v)
   release [v,ov,iv] [])):PS X (.Assign [.Subscript (.Name x p) j p2] e pos) (tS K P C W (.set i cj c)):=by
 have hp:PE X (.Name x p) (wN i):=CC.dP xo hi;refine TS.pE (zX h.v (oQa hp hj.v (xo.gD ▸ fWa (by have:=xo.hu;lia)) ha) (v9 n _ _ _)) λD Y H hz=>?_
 obtain⟨U,G,fl,U',r,e,k⟩:=hz;obtain⟨v,U1,e1,e2⟩:=MI e k.ne;split at e2
 ·rename_i ho;obtain⟨w,U2,e3,e4⟩:=MI e2 k.ne;split at e4
  ·rename_i ds p1 nn hs hw;unfold dH at e4
   cases q:EG ds.length nn with
   |none=>rw[q] at e4;cases e4
   |some m =>
    rw[q] at e4;cases e4;refine⟨U,G,v,U1,r,e1,λy H1 G1 a1 hv=>?_⟩;obtain⟨d0,p0,l0,h0⟩:=N6 ho;obtain⟨b,hb,g0,o0⟩:=a1.pA.ow i _ p0 l0 h0;refine⟨.ref b,hb,U1,G1,w,U2,a1.pA,e3,λz H2 G2 a2 hz=>?_⟩;have A6:=hv.wait a2.ext λa z=>.inl (a2.own a z)
    obtain⟨G3,a3,r3⟩:=(a1.trans a2).share A6;obtain⟨b',WE,g1,vs,B6,hr⟩:=a3.pA.ow i _ _ _ hs;rw[hb] at WE;cases WE;have Jg:=hz.rN;rw[hw] at Jg;cases Jg.int;have a4:=a3.pA.write hs hb (hr.set r3 m);exact .inl ⟨b,vs,nn,m,rfl,rfl,B6,by rw[hr.len];exact q,k Y _ _ (CA.s r (a3.trans a4))⟩
  ·cases e4
 ·split at e2
  ·rename_i ho;obtain⟨w,U2,e3,e4⟩:=MI e2 k.ne;unfold sN at e4;split at e4
   ·rename_i ks ds p1 k0 hs hk;split at e4
    ·rename_i hz;cases e4;refine⟨U,G,_,U1,r,e1,λy H1 G1 a1 hv=>?_⟩;obtain⟨d0,c0,p0,l0,h0⟩:=oDa ho;obtain⟨b,hb,g0,o0⟩:=a1.pA.ow i _ p0 l0 h0;refine⟨.ref b,hb,U1,G1,w,U2,a1.pA,e3,λz H2 G2 a2 GK=>?_⟩;have A6:=hv.wait a2.ext λa z=>.inl (a2.own a z)
     obtain⟨G3,a3,r3,s3⟩:=(a1.trans a2).X8 A6;obtain⟨b0,rfl,kk⟩:=RT hk GK.rN;replace kk:=DC.mono (Sm.of s3) kk;obtain⟨b',WE,g1,xs,vs,hx,⟨nd,hl,sm,kg,pr⟩,hr⟩:=a3.pA.ow i _ _ _ hs;rw[hb] at WE;cases WE
     have PD:xs.length<sizeLine:=by
      have h1:=oM hz;have h2:=(nA _).symm.trans (congrArg PH pr.1)
      lia
     refine .inr (.inr ⟨b,xs,k0,b0,rfl,rfl,⟨hx,nd,hl,sm,λx hx=>DC.mono a3.pA.sub (kg x hx)⟩,DC.mono a3.pA.sub kk,PD,λu ru nd2 ep=>?_⟩);obtain⟨g2,ws,g3,g4⟩:=pTa (k:=k0) (b:=b0) ⟨pr.1,vs,pr.2,hr⟩ ru r3;have a4:=a3.pA.Po (ob:=.ext (iC b (storedH xs k0 b0 u) ep)) (d':=.cB (gH ks k0) (YF ks ds k0 v.d)) hs hb ⟨_,ws,⟨_,TC⟩,⟨nd2,vD qXa PD,sm,pXa kg kk,g2,g3⟩,g4⟩;exact k Y _ _ (CA.s r (a3.trans a4))
    ·cases e4
   ·cases e4
  ·cases e2
def i0a(po:eL (model X.prog X.w) X.A X.env X.xe)(hc:NA X K P C c cc)(hb:HC X body (lH K P C W cb)):PS X (.While c body [] pos) (tS K P C W (.WK cc cb)):=by
 refine TS.pE (Bk po hc.t hb) λD Y H hz=>?_
 obtain⟨U,G,fl,U',r,e,k⟩:=hz;refine⟨λm Y1 H1=>∃U1 G1,YB K U Y H G U1 Y1 H1 G1/\RF (ev P C true cc) (DA P C W cb) m U1=some (fl,U'),⟨W,U,G,YB.refl r,e⟩,λm Y1 H1 hz=>?_⟩;obtain⟨U1,G1,a1,e1⟩:=hz
 cases m with
 |zero=>simp[RF] at e1
 |succ m =>
  simp only[RF] at e1;obtain⟨v,U2,e2,e3⟩:=MI e1 k.ne;split at e3
  ·refine⟨U1,G1,true,U2,a1.pA,e2,λH2 G2 a2=>?_⟩;refine QO ?_;have SM:=a1.trans (CA.s a1.pA a2);refine⟨λY3 H3=>∃U3 G3,YB K U Y H G U3 Y3 H3 G3/\RF (ev P C true cc) (DA P C W cb) m U3=some (fl,U'),λY3 H3 ⟨U3,G3,a3,e4⟩=>⟨m,zI m,U3,G3,a3,e4⟩, ?_⟩
   cases q:DA P C W cb U2 with
   |none=>rw[q] at e3;cases e3
   |some y =>
    obtain⟨DL,U3⟩:=y;rw[q] at e3;refine⟨U2,G2,DL,U3,a2.pA,q, ?_⟩
    cases DL with
    |nx=>exact λY3 H3 G3 a3=>⟨U3,G3,SM.trans a3,e3⟩
    |ct=>exact λY3 H3 G3 a3=>⟨U3,G3,SM.trans a3,e3⟩
    |bk=>cases e3;exact λY3 H3 G3 a3=>k Y3 H3 G3 (SM.trans a3)
    |rt v=>cases e3;exact k.pre SM
    |ex x=>cases e3;exact k
  ·refine⟨U1,G1,false,U2,a1.pA,e2,λH2 G2 a2=>?_⟩;refine SQ ?_;cases e3;exact k Y1 H2 G2 (a1.trans (CA.s a1.pA a2))
  ·cases e3
end
section
variable{X:Cx}{K:fA}{P:ZA}{C:Calls}{W:Nat}{Z:CC}
def UX(r:FA K U Y H G):FA K (aAi o U) Y H G/\∀a,AA (aAi o U) Y a->AA U Y a:=by
 cases o with
 |none=>exact⟨r,λ_ z=>z⟩
 |some i=>exact⟨r.unset i,λ_ z=>z.unset⟩
def lU(r:FA K U1 Y H1 G1)(ho:∀i,o=some i->∃d p l,U1[i]?=some (.ow d p l))(e:aAq o U1 Uf=some U')(a:YB K (aAi o U1) Y H1 G1 Uf Yf Hf Gf) :
  YB K U1 Y H1 G1 U' Yf Hf Gf/\∀c,AA U' Yf c->AA Uf Yf c\/(AA U1 Y c/\¬AA (aAi o U1) Y c):=by
 cases o with
 |none =>
  simp only[aAq,eC] at e;subst e;exact⟨a,λ_ z=>.inl z⟩
 |some i =>
  obtain⟨d,p,l,hi⟩:=ho i rfl;obtain⟨b,hb,g,ob⟩:=r.ow i d p l hi;have l6:AA U1 Y b:=⟨i,d,p,l,hi,hb⟩
  have rX:¬AA (U1.set i .un) Y b:=r.yR hi hb;have bD:H1 b≠none:=(r.owned l6).1;simp only[aAq] at e;split at e
  ·rename_i sl hf hs;rw[hi] at hs;cases hs;cases e;obtain⟨hu1,Eg⟩:=a.un i hf;have hx:Yf[i]?=some (some (.ref b)):=Eg.trans hb;have gb:Gf b=none:=a.ext.gn b bD g rX;have of:YG K Hf Gf b d:=ob.mono a.ext.gg λo' h'=>a.ext.hh b o' h' rX
   have nf:¬AA Uf Yf b:=λz=>by
    rcases a.own b z with z | z
    ·exact rX z
    ·exact bD z
   have rf:FA K (Uf.set i (.ow d p l)) Yf Hf Gf:=(a.pA.unset i).bP hx gb of λz=>nf z.unset
   have BF:∀c,AA (Uf.set i (.ow d p l)) Yf c->c=b\/AA Uf Yf c:=λc z=>by
    rcases z.bP hx with z | z
    ·exact .inl z
    ·exact .inr z.unset
   refine⟨⟨rf,a.ext.weaken λc z=>z.unset,λc z=>?_,λj z=>?_,λj d' l' z=>?_,by rw[vH,a.len];exact vH⟩,λc z=>?_⟩
   ·rcases BF c z with rfl | z
    ·exact .inl l6
    ·rcases a.own c z with z | z
     ·exact .inl z.unset
     ·exact .inr z
   ·rcases sI z with ⟨_,w,_⟩ | ⟨nj,w⟩
    ·cases w
    ·obtain⟨w1,w2⟩:=a.un j w;have Io:(U1.set i .un)[j]?=some .un:=w1;rw[EF (λq=>nj q.symm)] at Io;exact⟨Io,w2⟩
   ·by_cases hj:j=i
    ·subst hj;rw[hi] at z;cases z;refine⟨Eg,d, ?_⟩;rw[iL (eE.mp hf).1]
    ·have z':(aAi (some i) U1)[j]?=some (.ow d' true l'):=by
      show(U1.set i .un)[j]?=_;rw[EF (λq=>hj q.symm)];exact z
     obtain⟨w1,d2,w2⟩:=a.pin j d' l' z';exact⟨w1,d2,by rw[EF (λq=>hj q.symm)];exact w2⟩
   ·rcases BF c z with rfl | z
    ·exact .inr ⟨l6,rX⟩
    ·exact .inl z
  ·cases e
def AH.restore{D:Ends}(r:FA K U1 Y H1 G1)(ho:∀i,o=some i->∃d p l,U1[i]?=some (.ow d p l))(e:aAq o U1 Uf=some U')(k:AH K U1 Y H1 G1 U' D fl) :
  AH K (aAi o U1) Y H1 G1 Uf D fl:=by
 cases fl with
 |nx=>exact λY' H' G' b=>k Y' H' G' (lU r ho e b).1
 |bk=>exact λY' H' G' b=>k Y' H' G' (lU r ho e b).1
 |ct=>exact λY' H' G' b=>k Y' H' G' (lU r ho e b).1
 |rt v =>
  refine λx Y' H' G' b hv=>?_
  obtain⟨b1,b2⟩:=lU r ho e b;refine k x Y' H' G' b1 ?_
  cases v with
  |sh d=>exact hv
  |ow d =>
   obtain⟨c,rfl,g,oo,n,m⟩:=hv;refine⟨c,rfl,g,oo,λz=>?_, ?_⟩
   ·rcases b2 c z with z | ⟨z1,z2⟩
    ·exact n z
    ·rcases m with m | m
     ·exact z2 m
     ·exact(r.owned z1).1 m
   ·rcases m with m | m
    ·exact .inl ((UX r).2 c m)
    ·exact .inr m
  |od d =>
   obtain⟨c,rfl,g,oo,n,m,vs,B6,hr⟩:=hv
   have key:∀c,¬AA Uf Y' c->(AA (aAi o U1) Y c\/H1 c=none)->¬AA U' Y' c/\(AA U1 Y c\/H1 c=none):=λc n m=>by
    refine⟨λz=>?_, ?_⟩
    ·rcases b2 c z with z | ⟨z1,z2⟩
     ·exact n z
     ·rcases m with m | m
      ·exact z2 m
      ·exact(r.owned z1).1 m
    ·rcases m with m | m
     ·exact .inl ((UX r).2 c m)
     ·exact .inr m
   exact⟨c,rfl,g,oo,(key c n m).1,(key c n m).2,vs,B6,λx hx=>let ⟨b,ws,h1,h2,h3,h4,h5,h6⟩:=hr x hx;⟨b,ws,h1,h2,h3,(key b h4 h5).1,(key b h4 h5).2,h6⟩⟩
 |ex x=>exact k
def YR(K:fA)(P:ZA)(C:Calls)(W:Nat)(one:Bool)(tg:List Nat)(cb:List S)(U0:Env)(Y0:St)(H0 G0:Hp)(fl:Fl)(Uf:Env)(ds:List D)(i:Nat):St->Hp->Prop:=λY H =>
 ∃U G,YB K U0 Y0 H0 G0 U Y H G/\uD (lB one tg) (DA P C W cb) (ds.drop i) U=some (fl,Uf)
def xIa(hk:AH K U0 Y0 H0 G0 Uf D0 fl)(hd:ds[i]?=some d)
  (h:∃U G,YB K U0 Y0 H0 G0 U Y H G/\jA K G d x/\uD (lB one tg) (DA P C W cb) (ds.drop i) U=some (fl,Uf)) :
  gB K one tg x Y H λY2 H2=>lH K P C W cb { D0 with nx:=YR K P C W one tg cb U0 Y0 H0 G0 fl Uf ds (i+1),ct:=YR K P C W one tg cb U0 Y0 H0 G0 fl Uf ds (i+1),bk:=D0.nx } Y2 H2:=by
 obtain⟨U,G,a,hx,e⟩:=h;have hl:i<ds.length:=(eE.mp hd).1
 have ed:ds.drop i=d::ds.drop (i+1):=by(rw[KU hl];congr 1;rw[XC hl] at hd;exact rE hd)
 rw[ed] at e;simp only[uD] at e
 cases q:lB one tg d U with
 |none=>rw[q] at e;cases e
 |some U1 =>
  rw[q] at e;simp only at e;refine⟨U,G,d,U1,a.pA,hx,q,λY1 a1=>?_⟩;have YN:=a.trans a1
  cases q2:DA P C W cb U1 with
  |none=>rw[q2] at e;cases e
  |some y =>
   obtain⟨DL,U2⟩:=y;rw[q2] at e;refine⟨U1,G,DL,U2,a1.pA,q2, ?_⟩
   cases DL with
   |nx=>exact λY2 H2 G2 a2=>⟨U2,G2,YN.trans a2,e⟩
   |ct=>exact λY2 H2 G2 a2=>⟨U2,G2,YN.trans a2,e⟩
   |bk=>cases e;exact λY2 H2 G2 a2=>hk Y2 H2 G2 (YN.trans a2)
   |rt v=>cases e;exact hk.pre YN
   |ex x=>cases e;exact hk
def lQ{lo:Int}:(SE lo ds).length=ds.length:=by unfold SE;simp
def A2{lo:Int}{i:Nat}(h:ds[i]?=some d):(SE lo ds)[i]?=some (.t [.int (lo+(i:Int)),d]):=by
 have hl:i<ds.length:=(eE.mp h).1;unfold SE;rw[MD,CM hl,jF,sH,h];rfl
def ny(hg:G p=none)(h:jA K G d y):jA K (GA G p (.t [.int i,y])) (.t [.int i,d]) (.ref p):=by
 simp only[jA];exact⟨p,_,rfl,LC.of TC,kA.cons (by simp[jA]) (kA.cons (jA.mono (Sm.laid hg) d h) kA.nil)⟩
def wIa(hk:AH K U0 Y0 H0 G0 Uf D0 fl)(h:YR K P C W one tg cb U0 Y0 H0 G0 fl Uf ds ds.length Y H):D0.nx Y H:=by
 obtain⟨U,G,a,e⟩:=h;rw[Za] at e;simp only[uD,eC,lE] at e;obtain⟨rfl,rfl⟩:=e;exact hk Y H G a
def Src(K:fA)(U:Env)(Y:St)(H G:Hp)(a:gA)(vs:List V):Prop:=GB K G a vs\/(H a=some (.l vs)/\G a=none/\¬AA U Y a)
def wc(K:fA)(U0:Env)(Y0:St)(H1 G2:Hp)(ds:List D)(J:It):Prop:=∀i H' Uc Y' Gc,YB K U0 Y0 H1 G2 Uc Y' H' Gc->(i=ds.length->J.stop i H')/\(i<ds.length->J.go i H')/\∀d x H2,ds[i]?=some d->J.fY i H' x H2->∃Gd,CA K Uc Y' H' Gc Uc H2 Gd/\jA K Gd d x
def WN(K:fA)(U:Env)(Y:St)(H1 G1:Hp)(ds:List D)(J:It):Prop:=∀{U0:Env} {Y0:St} {G2:Hp},fB G1 G2->(∀c,AA U0 Y0 c->AA U Y c)->wc K U0 Y0 H1 G2 ds J
section
variable{U U0 Uc:Env}{Y Y0 Y':St}{H1 G1 G2 H' Gc:Hp}{ds:List D}{a:gA}{vs:List V}
def Src.at(h:Src K U Y H1 G1 a vs)(MF:fB G1 G2)(own:∀c,AA U0 Y0 c->AA U Y c)(af:YB K U0 Y0 H1 G2 Uc Y' H' Gc):GB K H' a vs:=by
 rcases h with h | ⟨h1,h2,h3⟩
 ·exact af.pA.sub.seq (af.ext.gg.seq (MF.seq h))
 ·exact GB.of (af.ext.hh a _ h1 λz=>h3 (own a z))
def dY(y6:Src K U Y H1 G1 a vs)(hr:kA K G1 ds vs):WN K U Y H1 G1 ds (eZ K a):=by
 intro U0 Y0 G2 MF own i H' Uc Y' Gc af;have GH:=y6.at MF own af;refine⟨λhi=>⟨vs,GH,by rw[hr.len];lia⟩,λhi=>?_,λd x H2 hd hy=>?_⟩
 ·obtain⟨x',h1,h2⟩:=hr.get (XC hi);exact⟨vs,x',GH,h1⟩
 ·obtain⟨rfl,hy⟩:=hy;obtain⟨x',h1,h2⟩:=hr.get hd
  have:=hy vs GH
  rw[h1] at this;cases this;exact⟨_,CA.refl af.pA,jA.mono af.ext.gg d (jA.mono MF d h2)⟩
def Ko(ht:LC K G1 a vs)(hr:kA K G1 ds vs):WN K U Y H1 G1 ds (fZ K a):=by
 intro U0 Y0 G2 MF own i H' Uc Y' Gc af;have GH:LC K H' a vs:=OJ af.pA.sub (OJ af.ext.gg (OJ MF ht));refine⟨λhi=>⟨vs,GH,by rw[hr.len];lia⟩,λhi=>?_,λd x H2 hd hy=>?_⟩
 ·obtain⟨x',h1,h2⟩:=hr.get (XC hi);exact⟨vs,x',GH,h1⟩
 ·obtain⟨rfl,hy⟩:=hy;obtain⟨x',h1,h2⟩:=hr.get hd
  have:=hy vs GH
  rw[h1] at this;cases this;exact⟨_,CA.refl af.pA,jA.mono af.ext.gg d (jA.mono MF d h2)⟩
def Jo{lo:Int}{n:Nat}:WN K U Y H1 G1 ((UB n).map λ(j:Nat)=>D.int (lo+(j:Int))) (XR lo n):=by
 intro U0 Y0 G2 MF own i H' Uc Y' Gc af;rw[nA,lL];refine⟨λhi=>by show n<=i;lia,λhi=>hi,λd x H2 hd hy=>?_⟩;obtain⟨rfl,rfl⟩:=hy;rw[MD] at hd;obtain⟨j,hj,rfl⟩:=zM.mp hd;obtain⟨hl,rfl⟩:=eE.mp hj;exact⟨_,CA.refl af.pA,by simp[jA]⟩
def zZa{lo:Int}{n:Nat}:WN K U Y H1 G1 ((UB n).map λ(j:Nat)=>D.int (lo-(j:Int))) (gZ lo n):=by
 intro U0 Y0 G2 MF own i H' Uc Y' Gc af;rw[nA,lL];refine⟨λhi=>by show n<=i;lia,λhi=>hi,λd x H2 hd hy=>?_⟩;obtain⟨rfl,rfl⟩:=hy;rw[MD] at hd;obtain⟨j,hj,rfl⟩:=zM.mp hd;obtain⟨hl,rfl⟩:=eE.mp hj;exact⟨_,CA.refl af.pA,by simp[jA]⟩
def cY{lo:Int}(y6:Src K U Y H1 G1 a vs)(hr:kA K G1 ds vs):WN K U Y H1 G1 (SE lo ds) (dZ K a lo):=by
 intro U0 Y0 G2 MF own i H' Uc Y' Gc af;have GH:=y6.at MF own af;rw[lQ];refine⟨λhi=>⟨vs,GH,by rw[hr.len];lia⟩,λhi=>?_,λd x H2 hd hy=>?_⟩
 ·obtain⟨x',h1,h2⟩:=hr.get (XC hi);exact⟨vs,x',GH,h1⟩
 ·obtain⟨p0,y0,hn,rfl,rfl,hy⟩:=hy;have hl:i<ds.length:=by rw[<- lQ (lo:=lo)];exact(eE.mp hd).1
  obtain⟨x',h1,h2⟩:=hr.get (XC hl);have hy:=hy vs GH;rw[h1] at hy;cases hy;rw[A2 (XC hl)] at hd;cases hd;exact⟨_,(CA.refl af.pA).gN hn,ny (fB.free af.pA.sub hn) (jA.mono af.ext.gg _ (jA.mono MF _ h2))⟩
def yZa{xs:YH}{ep:Nat}(LB:ds=(xs.map (·.1)).map mO)(h1:G1 a=some (.ext (iC a xs ep)))(h2:∀x∈xs,DC K G1 x.1 x.2.1):WN K U Y H1 G1 ds (cZ a xs ep):=by
 intro U0 Y0 G2 MF own i H' Uc Y' Gc af;have hG:Gc a=some (.ext (iC a xs ep)):=af.ext.gg.app (λ_ z=>nomatch z) (MF _ _ h1);have GH:=af.pA.sub _ _ hG;have hl:ds.length=xs.length:=by rw[LB,nA,nA]
 refine⟨λhi=>⟨GH,by lia⟩,λhi=>⟨GH,by lia⟩,λd v H2 hd hy=>?_⟩;obtain⟨rfl,x,hx,rfl⟩:=hy;rw[LB,MD,MD,hx] at hd;cases hd;exact⟨_,CA.refl af.pA,ll (DC.mono af.ext.gg (DC.mono (Sm.of MF) (h2 x (fJ hx))))⟩
end
def zH(K:fA)(P:ZA)(C:Calls)(k0:kF)(cA:List E)(Y:St)(H:Hp)(R:It->Hp->Prop):Prop:=∃(U:Env) (G:Hp) (hs:List Hd) (U1:Env) (ds:List D) (o:Option Nat),FA K U Y H G/\eD P C cA U=some (.ok hs,U1)/\aAb k0 hs U1=some (ds,o) /\
 ∀H1 G1,CA K U Y H G U1 H1 G1->(∀i,o=some i->∃d p l,U1[i]?=some (.ow d p l))->∀J,WN K (aAi o U1) Y H1 G1 ds J->R J H1
def ff(po:eL (model X.prog X.w) X.A X.env X.xe)(xo:SA X K P C Z){tg it:xA}{body:List XA}{pos:XB}{one:Bool}{is:List Nat}{k0:kF}{cA:List E}{cb:List S}{wi:TI}(hg:PG X tg (gB K one is))(hb:HC X body (lH K P C W cb))
  (hs:∀x,aK it X.env x=pure x) (hi:PI X tg it wi)
  (hw:∀Y H (R:It->Hp->Prop),zH K P C k0 cA Y H R->wi Y H R) :
  PS X (.For tg it body [] pos) (tS K P C W (.for is one k0 cA cb)):=by
 refine TS.pE (mSa po xo.calm hi hg hb hs) λD Y H hz=>?_
 obtain⟨U,G,fl,U',r,e,k⟩:=hz;obtain⟨hs,U1,e1,e2⟩:=MI e k.ne
 cases q:aAb k0 hs U1 with
 |none=>rw[q] at e2;cases e2
 |some y =>
  obtain⟨ds,o⟩:=y;rw[q] at e2;simp only at e2
  cases q2:uD (lB one is) (DA P C W cb) ds (aAi o U1) with
  |none=>rw[q2] at e2;cases e2
  |some y =>
   obtain⟨DL,Uf⟩:=y;rw[q2] at e2;simp only[Run.restore] at e2
   cases q3:aAq o U1 Uf with
   |none=>rw[q3] at e2;cases e2
   |some U2 =>
    rw[q3] at e2;cases e2;refine hw Y H _ ⟨U,G,hs,U1,ds,o,r,e1,q,λH1 G1 a1 ho J wj=>?_⟩;have k1:AH K (aAi o U1) Y H1 G1 Uf D fl:=AH.restore a1.pA ho q3 (k.pre (CA.s r a1));refine⟨λi m Y2 H2=>m=ds.length-i/\i<=ds.length/\YR K P C W one is cb (aAi o U1) Y H1 G1 fl Uf ds i Y2 H2,⟨_,rfl,UJ _,aAi o U1,G1,YB.refl (UX a1.pA).1,q2⟩, ?_⟩
    rintro i m Y2 H2 ⟨rfl,hi,hp⟩
    obtain⟨U2,G2,b,e2⟩:=id hp;obtain⟨j1,j2,j3⟩:=wj (fB.refl _) (λ_ h=>h) i H2 U2 Y2 G2 b;by_cases sD:i<ds.length
    ·refine .inr ⟨j2 sD,YR K P C W one is cb (aAi o U1) Y H1 G1 fl Uf ds (i+1),λY' H' p'=>⟨ds.length-(i+1),by lia,rfl,sD,p'⟩,λx H' y=>?_⟩;obtain⟨Gd,af,rp⟩:=j3 _ x H' (XC sD) y;exact xIa k1 (XC sD) ⟨U2,Gd,b.trans (CA.s b.pA af),rp,e2⟩
    ·obtain rfl:i=ds.length:=by lia
     exact .inl ⟨j1 rfl,wIa k1 hp⟩
end
section
variable{X:Cx}{K:fA}
def PI.or(h:PI X tg it w)(h':PI X tg it w'):PI X tg it (λY H R=>w Y H R\/w' Y H R):=λaA s Y H R I q=>by
 rcases q with q | q
 ·exact h aA s Y H R I q
 ·exact h' aA s Y H R I q
def AS(e:eD P C [c] U=some (.ok hs,U1)):∃h,hs=[h]/\hd c (ev P C false c U) U=some (.ok h,U1):=by
 rw[eD] at e;obtain⟨h,U2,e1,e2⟩:=xB e;rw[eD] at e2;simp only[zA.bind] at e2;cases e2;exact⟨h,rfl,e1⟩
def j8(hK:X.K=K)(Y:St)(H:Hp)(R:It->Hp->Prop)(q:zH K P C .of [c] Y H R) :
  Mg X.K (tH K P C c) Y H R\/Qg X.K (tH K P C c) Y H R:=by
 obtain⟨U,G,hs,U1,ds,o,r,e,ei,k⟩:=q;obtain⟨h,rfl,e1⟩:=AS e;rw[hK]
 cases h with
 |slot i =>
  (unfold aAb at ei;dsimp only at ei)
  split at ei
  ·rename_i DH p l hi;cases ei;refine .inl ⟨U,G,.slot i,U1,r,e1,λx H1 G1 a1 hx=>?_⟩;have hx:Y[i]?=some (some x):=hx;obtain⟨b,h1,g,vs,hv,hr⟩:=a1.pA.ow i _ _ _ hi;rw[hx] at h1;cases h1;exact⟨b,rfl,⟨vs,GB.of hv⟩,k H1 G1 a1 (λj z=>by cases z;exact⟨_,_,_,hi⟩) _ (dY (.inr ⟨hv,g,a1.pA.yR hi hx⟩) hr)⟩
  ·rename_i DH hi;cases ei;refine .inl ⟨U,G,.slot i,U1,r,e1,λx H1 G1 a1 hx=>?_⟩;have hx:Y[i]?=some (some x):=hx;obtain⟨v,h1,h2⟩:=a1.pA.sh i _ hi;rw[hx] at h1;cases h1;simp only[jA] at h2;obtain⟨b,vs,rfl,h3,h4⟩:=h2;exact⟨b,rfl,⟨vs,a1.pA.sub.seq h3⟩,k H1 G1 a1 (λj z=>by cases z) _ (dY (.inl h3) h4)⟩
  ·rename_i DH hi;cases ei;refine .inr ⟨U,G,.slot i,U1,r,e1,λx H1 G1 a1 hx=>?_⟩;have hx:Y[i]?=some (some x):=hx;obtain⟨v,h1,h2⟩:=a1.pA.sh i _ hi;rw[hx] at h1;cases h1;simp only[jA] at h2;obtain⟨b,vs,rfl,h3,h4⟩:=h2;exact⟨b,rfl,⟨vs,OJ a1.pA.sub h3⟩,k H1 G1 a1 (λj z=>by cases z) _ (Ko h3 h4)⟩
  ·cases ei
 |val v =>
  (unfold aAb at ei;dsimp only at ei)
  split at ei
  ·rename_i DH hd;cases ei;refine .inl ⟨U,G,.val v,U1,r,e1,λx H1 G1 a1 hx=>?_⟩
   cases v with
   |sh d =>
    simp only[RV.d] at hd;subst hd;have hx:jA K G1 (.l ds) x:=hx;simp only[jA] at hx;obtain⟨b,vs,rfl,h3,h4⟩:=hx;exact⟨b,rfl,⟨vs,a1.pA.sub.seq h3⟩,k H1 G1 a1 (λj z=>by cases z) _ (dY (.inl h3) h4)⟩
   |ow d =>
    simp only[RV.d] at hd;subst hd;obtain⟨b,rfl,g,⟨vs,hv,hr⟩,n,m⟩:=hx;exact⟨b,rfl,⟨vs,GB.of hv⟩,k H1 G1 a1 (λj z=>by cases z) _ (dY (.inr ⟨hv,g,n⟩) hr)⟩
   |od d=>exact hx.elim
  ·rename_i DH hd;cases ei;refine .inr ⟨U,G,.val v,U1,r,e1,λx H1 G1 a1 hx=>?_⟩
   cases v with
   |sh d =>
    simp only[RV.d] at hd;subst hd;have hx:jA K G1 (.t ds) x:=hx;simp only[jA] at hx;obtain⟨b,vs,rfl,h3,h4⟩:=hx;exact⟨b,rfl,⟨vs,OJ a1.pA.sub h3⟩,k H1 G1 a1 (λj z=>by cases z) _ (Ko h3 h4)⟩
   |ow d =>
    simp only[RV.d] at hd;subst hd;obtain⟨b,rfl,g,o,n,m⟩:=hx;exact o.elim
   |od d=>exact hx.elim
  ·cases ei
def rl(Y:St)(H:Hp)(R:It->Hp->Prop)(q:zH K P C .MB [c] Y H R) :
  Og (kH K P C [c]) Y H R:=by
 obtain⟨U,G,hs,U1,ds,o,r,e,ei,k⟩:=q;refine⟨U,G,hs,U1,r,e,λxs H1 G1 a1 hx=>?_⟩;obtain⟨h,rfl,e1⟩:=AS e;obtain⟨x,r',rfl,h1,h2,_⟩:=hx;cases (show r'=[] from h2)
 (unfold aAb at ei;dsimp only at ei)
 split at ei
 ·rename_i n hn;split at ei
  ·rename_i hb;cases ei;cases (h1.read a1.pA hn).int;refine⟨n,rfl,by lia,by lia,k H1 G1 a1 (λj z=>by cases z) _ ?_⟩;rw[show(λ(j:Nat)=>D.int (j:Int))=λ(j:Nat)=>D.int (0+(j:Int)) from funext λj=>by rw[Int.zero_add]];exact Jo
  ·cases ei
 ·cases ei
def xl(Y:St)(H:Hp)(R:It->Hp->Prop)(q:zH K P C .MB [c,c2] Y H R) :
  Pg (kH K P C [c,c2]) Y H R:=by
 obtain⟨U,G,hs,U1,ds,o,r,e,ei,k⟩:=q;refine⟨U,G,hs,U1,r,e,λxs H1 G1 a1 hx=>?_⟩;rw[eD] at e;obtain⟨h,U2,e1,e2⟩:=xB e;obtain⟨IW,U3,e3,e4⟩:=xB e2;obtain⟨h',rfl,e5⟩:=AS e3;cases e4;obtain⟨x,r',rfl,h1,h2,_⟩:=hx;obtain⟨y,Lk,rfl,h3,h4,_⟩:=h2;cases (show Lk=[] from h4)
 (unfold aAb at ei;dsimp only at ei)
 split at ei
 ·rename_i m n hm hn;split at ei
  ·rename_i hb;cases ei;cases (h1.read a1.pA hm).int;cases (h3.read a1.pA hn).int;exact⟨m,n,rfl,by lia,k H1 G1 a1 (λj z=>by cases z) _ Jo⟩
  ·cases ei
 ·cases ei
def qUa{c c2 c3:E}(Y:St)(H:Hp)(R:It->Hp->Prop)(q:zH K P C .nU [c,c2,c3] Y H R):Ng (kH K P C [c,c2,c3]) Y H R:=by
 obtain⟨U,G,hs,U1,ds,o,r,e,ei,k⟩:=q;refine⟨U,G,hs,U1,r,e,λxs H1 G1 a1 hx=>?_⟩;rw[eD] at e;obtain⟨h,U2,e1,e2⟩:=xB e;obtain⟨IW,U3,e3,e4⟩:=xB e2;cases e4;rw[eD] at e3;obtain⟨h',U4,e5,e6⟩:=xB e3;obtain⟨p2a,U5,e7,e8⟩:=xB e6;obtain⟨h'',rfl,e9⟩:=AS e7;cases e8;obtain⟨x,r',rfl,h1,h2,_⟩:=hx;obtain⟨y,Lk,rfl,h3,h4,_⟩:=h2;obtain⟨z,r3,rfl,h5,h6,_⟩:=h4;cases (show r3=[] from h6)
 (unfold aAb at ei;dsimp only at ei)
 split at ei
 ·rename_i m n l hm hn hl;split at ei
  ·rename_i hb;cases ei;cases (h1.read a1.pA hm).int;cases (h3.read a1.pA hn).int;cases (h5.read a1.pA hl).int;obtain⟨hb1,Of,rfl⟩:=hb;exact⟨m,n,rfl,by lia,k H1 G1 a1 (λj z=>by cases z) _ zZa⟩
  ·cases ei
 ·cases ei
def B2(hK:X.K=K){lo:Int}(Y:St)(H:Hp)(R:It->Hp->Prop)(q:zH K P C (.enum lo) [c] Y H R) :
  D6 X.K lo (kH K P C [c]) Y H R:=by
 obtain⟨U,G,hs,U1,ds,o,r,e,ei,k⟩:=q;rw[hK];refine⟨U,G,hs,U1,r,e,λxs H1 G1 a1 cN=>?_⟩;obtain⟨h,rfl,e1⟩:=AS e;obtain⟨x,r',rfl,hx,h2,_⟩:=cN;cases (show r'=[] from h2)
 cases h with
 |slot i =>
  (unfold aAb at ei;dsimp only at ei)
  have hx:Y[i]?=some (some x):=hx;split at ei
  ·rename_i DH p l hi;cases ei;obtain⟨b,h1,g,vs,hv,hr⟩:=a1.pA.ow i _ _ _ hi;rw[hx] at h1;cases h1;exact⟨b,rfl,⟨vs,GB.of hv⟩,k H1 G1 a1 (λj z=>by cases z;exact⟨_,_,_,hi⟩) _ (cY (.inr ⟨hv,g,a1.pA.yR hi hx⟩) hr)⟩
  ·rename_i DH hi;cases ei;obtain⟨v,h1,h2⟩:=a1.pA.sh i _ hi;rw[hx] at h1;cases h1;simp only[jA] at h2;obtain⟨b,vs,rfl,h3,h4⟩:=h2;exact⟨b,rfl,⟨vs,a1.pA.sub.seq h3⟩,k H1 G1 a1 (λj z=>by cases z) _ (cY (.inl h3) h4)⟩
  ·cases ei
 |val v =>
  (unfold aAb at ei;dsimp only at ei)
  split at ei
  ·rename_i DH hd;cases ei
   cases v with
   |sh d =>
    simp only[RV.d] at hd;subst hd;have hx:jA K G1 (.l DH) x:=hx;simp only[jA] at hx;obtain⟨b,vs,rfl,h3,h4⟩:=hx;exact⟨b,rfl,⟨vs,a1.pA.sub.seq h3⟩,k H1 G1 a1 (λj z=>by cases z) _ (cY (.inl h3) h4)⟩
   |ow d =>
    simp only[RV.d] at hd;subst hd;obtain⟨b,rfl,g,⟨vs,hv,hr⟩,n,m⟩:=hx;exact⟨b,rfl,⟨vs,GB.of hv⟩,k H1 G1 a1 (λj z=>by cases z) _ (cY (.inr ⟨hv,g,n⟩) hr)⟩
   |od d=>exact hx.elim
  ·cases ei
def iW(h:cR e=true)(env:uM):∀x,aK e env x=pure x:=λx=>by
 cases e<;>first | rfl | cases h
def J9(xo:SA X K P C Z)(WB:XH X Z){tg:xA}{one:Bool}{is:List Nat}(h:NG Z tg=some (one,is)):PG X tg (gB K one is):=by
 cases tg<;>simp only[NG,reduceCtorEq] at h
 ·rename_i x pos
  cases q:Z.bF x with
  |none=>rw[q] at h;cases h
  |some i=>rw[q] at h;cases h;exact nQa (Z8 xo WB q)
 ·rename_i es k0 pos
  cases q:UK Z es with
  |none=>rw[q] at h;cases h
  |some Zg =>
   rw[q] at h;cases h;obtain⟨h1,h2,h3,h4⟩:=F9 xo WB q;exact Zj xo h1 h2 h3
end
section
variable{K:fA}{Y Y':St}{H G H' G':Hp}
def iU(h:(as++NB n Sl.un)[i]?=some s):(as[i]?=some s)\/(as.length<=i/\s=.un):=by
 by_cases hl:i<as.length
 ·rw[KP hl] at h;exact .inl h
 ·rw[QR (by lia),qa] at h;split at h
  ·cases h;exact .inr ⟨by lia,rfl⟩
  ·cases h
def m9(h:i<vs.length):(L2.start N vs)[i]?=(vs.map some)[i]?:=by
 unfold L2.start;rw[KP (by rw[nA];exact h)]
def FA.pad(r:FA K as (vs.map some) H G)(hn:N.length=as.length+n):FA K (as++NB n .un) (L2.start N vs) H G/\∀a,AA (as++NB n .un) (L2.start N vs) a->AA as (vs.map some) a:=by
 have hl:as.length=vs.length:=by have:=r.len;rwa[nA] at this
 have st:∀i:Nat,i<as.length->(L2.start N vs)[i]?=(vs.map some)[i]?:=λi h=>m9 (by lia)
 have lt:∀{i:Nat} {s:Sl},as[i]?=some s->i<as.length:=λh=>(eE.mp h).1
 refine⟨⟨by unfold L2.start;simp;lia,r.sub,λi d h=>?_,λi d p l h=>?_,λi j d p l d' p' l' a h1 h2 h3 h4=>?_⟩,λa ⟨i,d,p,l,h1,h2⟩=>?_⟩
 ·rcases iU h with h | ⟨_,h⟩
  ·rw[st i (lt h)];exact r.sh i d h
  ·cases h
 ·rcases iU h with h | ⟨_,h⟩
  ·rw[st i (lt h)];exact r.ow i d p l h
  ·cases h
 ·rcases iU h1 with h1 | ⟨_,h1⟩
  ·rcases iU h2 with h2 | ⟨_,h2⟩
   ·rw[st i (lt h1)] at h3;rw[st j (lt h2)] at h4;exact r.inj _ _ _ _ _ _ _ _ _ h1 h2 h3 h4
   ·cases h2
  ·cases h1
 ·rcases iU h1 with h1 | ⟨_,h1⟩
  ·rw[st i (lt h1)] at h2;exact⟨i,d,p,l,h1,h2⟩
  ·cases h1
theorem jS:∀{as:List Sl} {U:Env} (i:Nat),as.length<=U.length->(back as U)[i]?=(as[i]?).bind λa=>match a with | .ow _ _ _=>U[i]? | a=>some a
 |[],U,i,_=>by cases U<;>rfl
 |a::as,[],i,h=>by simp at h
 |a::as,b::U,i,h=>by
  have ih:=λj=>jS (as:=as) (U:=U) j (by simpa using h)
  cases i with
  |zero=>cases a<;>rfl
  |succ i=>cases a<;>exact ih i
def EV(r:FA K as (vs.map some) H G)(hp:as.all QK=true)(hn:N.length=as.length+n)
  (a:YB K (as++NB n .un) (L2.start N vs) H G U' Y' H' G'):CA K as (vs.map some) H G (back as U') H' G'/\∀c,AA (back as U') (vs.map some) c->AA U' Y' c:=by
 have hl:as.length=vs.length:=by have:=r.len;rwa[nA] at this
 have lt:∀{i:Nat} {s:Sl},as[i]?=some s->i<as.length:=λh=>(eE.mp h).1
 have st:∀i:Nat,i<as.length->(L2.start N vs)[i]?=(vs.map some)[i]?:=λi h=>m9 (by lia)
 have qB:as.length<=U'.length:=by rw[a.len,gC];lia
 have Au:∀{i:Nat} {s:Sl},as[i]?=some s->(as++NB n .un)[i]?=some s:=λh=>by rw[KP (lt h)];exact h
 have pin:∀(i:Nat) d p l,as[i]?=some (.ow d p l)->p=true/\Y'[i]?=(vs.map some)[i]?/\∃d',U'[i]?=some (.ow d' true l):=λi d p l h=>by(have h1:=iF.mp hp _ (fJ h);simp only[QK] at h1;subst h1;obtain⟨h2,d',h3⟩:=a.pin i d l (Au h);exact⟨rfl,h2.trans (st i (lt h)),d',h3⟩)
 have AF:∀{i:Nat} {s:Sl},(back as U')[i]?=some s->(∃d d' l,as[i]?=some (.ow d true l)/\s=.ow d' true l/\U'[i]?=some s/\Y'[i]?=(vs.map some)[i]?)\/(as[i]?=some s/\∀d p l,s≠.ow d p l):=λ{i s} h=>by
  rw[jS i qB] at h
  cases e:as[i]? with
  |none=>rw[e] at h;cases h
  |some b =>
   rw[e] at h
   cases b with
   |ow d p l =>
    obtain⟨rfl,h1,d',h2⟩:=pin i d p l e;simp only[uH] at h;rw[h2] at h;cases h;exact .inl ⟨d,d',l,rfl,rfl,h2,h1⟩
   |un=>cases h;exact .inr ⟨rfl,λd p l z=>nomatch z⟩
   |mv=>cases h;exact .inr ⟨rfl,λd p l z=>nomatch z⟩
   |sh d=>cases h;exact .inr ⟨rfl,λd p l z=>nomatch z⟩
 have vv:(back as U').length=as.length:=by
  apply Nat.le_antisymm
  ·refine Xa λz=>?_
   have:=jS (U:=U') as.length qB
   rw[XC z,BM (zB _)] at this;cases this
  ·refine Xa λz=>?_
   have h1:=jS (U:=U') (back as U').length qB;rw[BM (zB _),XC z] at h1
   cases e:as[(back as U').length] with
   |ow d p l =>
    have e':as[(back as U').length]?=some (.ow d p l):=by rw[XC z,e]
    obtain⟨_,_,d',h2⟩:=pin _ d p l e';rw[e] at h1;simp only[uH] at h1;rw[h2] at h1;cases h1
   |un=>rw[e] at h1;cases h1
   |mv=>rw[e] at h1;cases h1
   |sh d=>rw[e] at h1;cases h1
 refine⟨⟨⟨by rw[vv];exact r.len,a.pA.sub,λi d h=>?_,λi d p l h=>?_,λi j d p l d' p' l' c h1 h2 h3 h4=>?_⟩,a.ext.weaken λc z=>(r.pad hn).2 c z,λi=>?_⟩,λc ⟨i,d,p,l,h1,h2⟩=>?_⟩
 ·rcases AF h with ⟨_,_,_,_,z,_,_⟩ | ⟨z,_⟩
  ·cases z
  ·obtain⟨v,h1,h2⟩:=r.sh i d z;exact⟨v,h1,jA.mono a.ext.gg d h2⟩
 ·rcases AF h with ⟨d0,d',l',h1,h2,h3,h4⟩ | ⟨_,z⟩
  ·rw[<- h4];exact a.pA.ow i d p l h3
  ·exact absurd rfl (z d p l)
 ·rcases AF h1 with ⟨_,_,_,_,_,z3,z4⟩ | ⟨_,z⟩
  ·rcases AF h2 with ⟨_,_,_,_,_,w3,w4⟩ | ⟨_,w⟩
   ·rw[<- z4] at h3;rw[<- w4] at h4;exact a.pA.inj _ _ _ _ _ _ _ _ _ z3 w3 h3 h4
   ·exact absurd rfl (w _ _ _)
  ·exact absurd rfl (z _ _ _)
 ·rw[jS i qB]
  cases e:as[i]? with
  |none=>trivial
  |some b =>
   cases b with
   |ow d p l =>
    obtain⟨rfl,_,d',h2⟩:=pin i d p l e;simp only[uH];rw[h2];exact⟨rfl,rfl⟩
   |un=>trivial
   |mv=>trivial
   |sh d=>trivial
 ·rcases AF h1 with ⟨_,_,_,_,_,z3,z4⟩ | ⟨_,z⟩
  ·rw[<- z4] at h2;exact⟨i,d,p,l,z3,h2⟩
  ·exact absurd rfl (z _ _ _)
end
end CI
namespace L2
open PySem PySem.Spec PyProof.Rows
theorem aAp[BEq O][LawfulBEq O]:∀{l:List (O×N)} {x:O} {k:N},l.lookup x=some k->(x,k)∈l
 |[],x,k,h=>by simp at h
 | (y,k')::r,x,k,h=>by
  rw[AI] at h;split at h
  ·rename_i e;have e:=GC e;subst e;cases h;exact wG
  ·exact RD _ (aAp h)
def Rw(h:∀p∈scope.names,p.2=.free->∃c,env.cells.lookup p.1=some c) :
  ∃cl,closureFor scope env=pure cl/\(∀x c,cl.lookup x=some c->env.cells.lookup x=some c)/\∀p∈scope.names,p.2=.free->∃c,cl.lookup p.1=some c:=by
 have key:∀(names:List (bA×WJ)) (BA:List (bA×gA)),(∀p∈names,p.2=.free->∃c,env.cells.lookup p.1=some c)->(∀x c,BA.lookup x=some c->env.cells.lookup x=some c) ->
   ∃cl,(forIn names BA λ(p:bA×WJ) (cs:List (bA×gA))=>(if(p.2==NameKind.free)=true then do let a <- cellOf env p.1;pure (ForInStep.yield ((p.1,a)::cs)) else pure (ForInStep.yield cs):Sem _))=pure cl /\
    (∀x c,cl.lookup x=some c->env.cells.lookup x=some c)/\(∀p∈names,p.2=.free->∃c,cl.lookup p.1=some c)/\∀x c,BA.lookup x=some c->∃c',cl.lookup x=some c':=by
  intro names
  induction names with
  |nil=>intro BA _ h2;exact⟨BA,by simp,h2,λp hp=>(nomatch hp),λx c e=>⟨c,e⟩⟩
  |cons p r ih =>
   intro BA h1 h2;by_cases hp:p.2=.free
   ·obtain⟨c,hc⟩:=h1 p wG hp;have e:cellOf env p.1=pure c:=by unfold cellOf;rw[hc]
    obtain⟨cl,q1,q2,q3,q4⟩:=ih ((p.1,c)::BA) (λq hq=>h1 q (RD _ hq)) (λx c' z=>by
     rw[AI] at z;split at z
     ·rename_i w;rw[GC w,hc];exact z
     ·exact h2 x c' z)
    refine⟨cl, ?_,q2,λq hq hf=>?_,λx c' z=>?_⟩
    ·rw[XU];have hb:(p.2==NameKind.free)=true:=by rw[hp];rfl
     rw[QA hb,e];simp only[pure_bind];exact q1
    ·rcases pD.mp hq with w | w
     ·subst w;exact q4 q.1 c (by rw[AI];simp)
     ·exact q3 q w hf
    ·by_cases w:x=p.1
     ·subst w;exact q4 p.1 c (by rw[AI];simp)
     ·refine q4 x c' ?_;rw[AI]
      have:(x==p.1)=false:=kP.mpr w
      rw[this];exact z
   ·obtain⟨cl,q1,q2,q3,q4⟩:=ih BA (λq hq=>h1 q (RD _ hq)) h2;refine⟨cl, ?_,q2,λq hq hf=>?_,q4⟩
    ·rw[XU];have hb:¬(p.2==NameKind.free)=true:=by simpa using hp
     rw[UA hb];simp only[pure_bind];exact q1
    ·rcases pD.mp hq with w | w
     ·subst w;exact absurd hf hp
     ·exact q3 q w hf
 obtain⟨cl,q1,q2,q3,_⟩:=key scope.names [] h (λx c e=>by simp at e);refine⟨cl, ?_,q2,q3⟩;unfold closureFor
 have:(forIn scope.names ([]:List (bA×gA)) λ(x:bA×WJ) (r:List (bA×gA))=>(match x with | (name,kind)=>if(kind==NameKind.free)=true then do let a <- cellOf env name;pure (ForInStep.yield ((name,a)::r)) else pure (ForInStep.yield r):Sem _))=pure cl:=q1
 simp only[this,pure_bind,bind_pure]
 first | rfl | (rw[this];rfl) | skip
theorem K8{env:uM}:∀{names:List (bA×WJ)} {x:bA} {k':WJ},
  (names.map λ(n,k)=>if(k==NameKind.free&&env.scope.kind==.function&&env.kindOf n==some .cell) then(n,NameKind.cell) else(n,k)).lookup x=some k'->∃k,names.lookup x=some k/\(k'=k\/(k=.free/\k'=.cell))
 |[],x,k',h=>by simp at h
 | (n,k)::r,x,k',h=>by
  have ih:=@K8 env r x k';have h':cL x ((if(k==NameKind.free&&env.scope.kind==.function&&env.kindOf n==some .cell)=true then(n,NameKind.cell) else(n,k))::(r.map λ(n,k)=>if(k==NameKind.free&&env.scope.kind==.function&&env.kindOf n==some .cell) then(n,NameKind.cell) else(n,k)))=some k':=h;by_cases hc:(k==NameKind.free&&env.scope.kind==.function&&env.kindOf n==some .cell)=true
  ·rw[QA hc] at h';rw[AI] at h' ⊢
   cases hx:x==n with
   |true=>rw[hx] at h';cases h';simp only[aB,VJ] at hc;exact⟨k,rfl,.inr ⟨hc.1.1,rfl⟩⟩
   |false=>rw[hx] at h';exact ih h'
  ·rw[UA hc] at h';rw[AI] at h' ⊢
   cases hx:x==n with
   |true=>rw[hx] at h';cases h';exact⟨k,rfl,.inl rfl⟩
   |false=>rw[hx] at h';exact ih h'
theorem jl{env:uM}:∀{names:List (bA×WJ)} {x:bA},names.lookup x=some .free ->
  (names.map λ(n,k)=>if(k==NameKind.free&&env.scope.kind==.function&&env.kindOf n==some .cell) then(n,NameKind.cell) else(n,k)).lookup x=some .cell \/
  (names.map λ(n,k)=>if(k==NameKind.free&&env.scope.kind==.function&&env.kindOf n==some .cell) then(n,NameKind.cell) else(n,k)).lookup x=some .free
 |[],x,h=>by simp at h
 | (n,k)::r,x,h=>by
  have ih:=@jl env r x;show cL x ((if(k==NameKind.free&&env.scope.kind==.function&&env.kindOf n==some .cell)=true then(n,NameKind.cell) else(n,k))::_)=_\/cL x ((if(k==NameKind.free&&env.scope.kind==.function&&env.kindOf n==some .cell)=true then(n,NameKind.cell) else(n,k))::_)=_;rw[AI] at h;by_cases hc:(k==NameKind.free&&env.scope.kind==.function&&env.kindOf n==some .cell)=true
  ·rw[QA hc,AI]
   cases hx:x==n with
   |true=>exact .inl rfl
   |false=>rw[hx] at h;exact ih h
  ·rw[UA hc,AI]
   cases hx:x==n with
   |true=>rw[hx] at h;exact .inr h
   |false=>rw[hx] at h;exact ih h
theorem Yw(I:Nat->EA->Prop)
  (turn:∀n s,I n s->sA (model prog w) A (pyNext it) (λr s₁=>match r with
   |none=>R (.ok .next) s₁
   |some v=>sA (model prog w) A (letOwnedTupleGo target it v) (λ_ s₁=>sA (model prog w) A (assign target env v) (λ_ s₂ =>
     sA (model prog w) A (forIn yA true λc r=>if r=true then do let ok <- isTrue c env (eval c env);pure (ForInStep.yield ok) else pure (ForInStep.yield r)) (λok s₃ =>
      if ok=true then sA (model prog w) A (eval JA env) (λx s₄ =>
       sA (model prog w) A (call (.builtin "list.append") [BA,x]) (λ_ s₅=>∃m,m<n/\I m s₅) (notedBy (model prog w) A env λe s'=>R (.error e) s') s₄) (notedBy (model prog w) A env λe s'=>R (.error e) s') s₃
      else ∃m,m<n/\I m s₃) (notedBy (model prog w) A env λe s'=>R (.error e) s') s₂) (notedBy (model prog w) A env λe s'=>R (.error e) s') s₁) (notedBy (model prog w) A env λe s'=>R (.error e) s') s₁) (notedBy (model prog w) A env λe s'=>R (.error e) s') s)
  (n:Nat) (h:I n s):xM (model prog w) A (.compLoop (.ListComp JA [⟨target,iter,yA,0⟩] scope pos) 0 it BA env) R s:=by
 refine codeAny_loop rfl I (λn s hI=>?_) n h;show sA _ A ((compTurn (.ListComp JA [⟨target,iter,yA,0⟩] scope pos) 0 it BA env).onRaise (λx=>do noteFrame x env;theTreesLotGoes x)) _ _ s;refine wpAny_noted ?_;rw[compTurn_list];refine rA (GY (rA (QH (turn n s hI) (λr s₁ h₁=>?_) λ_ _ h'=>h')))
 cases r with
 |none=>exact kB h₁
 |some v =>
  refine rA (QH h₁ (λ_ s₁' h₁'=>?_) λ_ _ h'=>h');refine rA (QH h₁' (λ_ s₂ h₂=>rA (QH h₂ (λok s₃ h₃=>?_) λ_ _ h'=>h')) λ_ _ h'=>h')
  cases ok with
  |false=>exact kB ⟨rfl,h₃⟩
  |true =>
   exact rA (rA (QH h₃ (λx s₄ h₄=>rA (QH h₄ (λ_ s₅ h₅=>kB (kB ⟨rfl,h₅⟩)) λ_ _ h'=>h')) λ_ _ h'=>h'))
def MV(X:Cx)(scope:cG)(cl:List (bA×gA))(C:gA)(N':List bA)(s₃:EA)(H₃:Hp)(fp:List gA)(xe:eA->EA->Prop):Cx :=
 { X with N:=N',s₀:=s₃,H₀:=H₃,env:=compEnvC scope cl C X.env,outer:=X.stack,stack:=X.stack,ex:=fp,fn:=λ_=>false,pn:=[],xe:=xe }
def xG(X:Cx)(scope:cG)(N':List bA)(X':Cx):Prop:=∃cl C s₃ H₃ fp xe,X'=MV X scope cl C N' s₃ H₃ fp xe
section
variable{s:EA}
def mXa{i:Nat}(h:(start N vs)[i]?=some (some v)):vs[i]?=some v:=by
 unfold start at h;by_cases hl:i<vs.length
 ·rw[KP (by rw[nA];exact hl),MD,XC hl] at h;rw[XC hl];simpa using h
 ·rw[QR (by rw[nA];lia),qa] at h;split at h
  ·cases h
  ·cases h
def dA.block(I:dA X aA Y H s)
  (GJ:scope.kind=.function) (jI:∀y∈scope.names,y.2≠.cell) (sub:∀x c,cl.lookup x=some c->X.env.cells.lookup x=some c) (pW:∀p∈scope.names,p.2=.free->∃c,cl.lookup p.1=some c)
  (BJ:∀p∈scope.names,p.2=.free->X.env.kindOf p.1=some .cell\/X.env.kindOf p.1=some .free)
  (hf:∀b∈fp,FD X aA H b) (hfo:∀b∈fp,b<s.heap.objs.size) (Fg:vs.length<=N'.length)
  (himp:∀(i:Nat) x v,N'[i]?=some x->vs[i]?=some v->∃j:Nat,X.N[j]?=some x/\Y[j]?=some (some v)/\scope.names.lookup x=some .free)
  (m:bA->Option eA) (HH:h₄.Ns s.heap.objs.size m) (hsb:FI s.heap.objs.size (s.heap.push ob) h₄) :
  dA (MV X scope cl s.heap.objs.size N' s H fp xe) [] (start N' vs) H { s with heap:=h₄,toks:=tk }:=by
 have old:∀b o,s.heap.get? b=some o->h₄.get? b=some o:=λb o e=>(hsb.2 b (sE (yC e))).trans (jD _ e)
 have freeOf:∀x,(relabel scope X.env).names.lookup x=some .cell\/(relabel scope X.env).names.lookup x=some .free->scope.names.lookup x=some .free:=λx hx=>by
  rcases hx with hx | hx
  ·obtain⟨k,h1,h2⟩:=K8 (env:=X.env) hx;rcases h2 with h2 | ⟨h2,_⟩
   ·subst h2;exact absurd rfl (jI _ (aAp h1))
   ·subst h2;exact h1
  ·obtain⟨k,h1,h2⟩:=K8 (env:=X.env) hx;rcases h2 with h2 | ⟨_,h2⟩
   ·subst h2;exact h1
   ·cases h2
 have ok:(MV X scope cl s.heap.objs.size N' s H fp xe).Ok:=by
  refine⟨I.ok.mod,GJ,I.ok.glob,I.ok.vB,zB _,λx y c h1 h2=>I.ok.inj x y c (sub x c h1) (sub y c h2),λx hx=>?_,λx c h=>(nomatch h),I.ok.hd,I.ok.frames,.inl rfl,λb hb=>⟨sE (hfo b hb),λx c e=>(hf b hb).2.2.2.2.1 x c (sub x c e)⟩,λb o e=>I.bs b o e,vD I.ok.qJ I.sz,λb o e hb=>?_,λb hb z=>?_,I.stack,I.p9⟩
  ·exact pW (x,.free) (aAp (freeOf x hx)) rfl
  ·rcases(hf b hb).2.2.2.1 with z | z
   ·exact I.ok.lN b o e z
   ·rw[(I.ok.bs b o e).1] at z;cases z
  ·rcases pD.mp (I.QX b z) with z | z
   ·exact(hf b hb).2.1 z
   ·exact(hf b hb).2.2.1 z
 refine⟨ok,rfl,I.bare,Un.kept old,⟨m,HH,λi x v e1 e2 e3=>?_⟩,λx c e=>?_,I.KA.fresh (zB _),λx c e=>I.FH x c (sub x c e),λp hp=>(nomatch hp),I.KA.kept old, ?_⟩
 ·obtain⟨j,h1,h2,h3⟩:=himp i x v e1 (mXa e2);have hk:=BJ (x,.free) (aAp h3) rfl;obtain⟨m0,hn0,hl⟩:=I.loc;obtain⟨u,r,lk⟩:=hl j x v h1 h2 (.inr hk);refine⟨u,r, ?_⟩;rcases lk with ⟨k,_⟩ | ⟨k,c,e,z⟩
  ·rcases hk with hk | hk
   ·rw[hk] at k;cases k
   ·rw[hk] at k;cases k
  ·obtain⟨c',iI⟩:=pW (x,.free) (aAp h3) rfl;have ec:=sub x c' iI;rw[e] at ec;cases ec;obtain⟨o,ho,hd⟩:=z;exact .inr ⟨jl (env:=X.env) h3,c,iI,o,old c o ho,hd⟩
 ·obtain⟨v,o,ho,hd⟩:=I.cell x c (sub x c e);exact⟨v,o,old c o ho,hd⟩
 ·show(start N' vs).length=N'.length;unfold start;simp
  lia
def jK(X:Cx)(yA:List xA)(t:TT):Prop:=∀(aA:List (gA×DB)) (s:EA) (Y:St) (H:Hp) (Q:Bool->Hp->Prop),dA X aA Y H s->t Y H Q ->
 sA (model X.prog X.w) X.A (forIn yA true λc r=>if r=true then do let ok <- isTrue c X.env (eval c X.env);pure (ForInStep.yield ok) else pure (ForInStep.yield r)) (TP X aA Y Q) X.xe s
def kTa:jK X [] (λY H Q=>Q true H):=λaA s Y H Q I h=>wpAny_tests_nil ⟨H,I,h⟩
def lTa(h:PT X c t):jK X [c] t:=λaA s Y H Q I q=>wpAny_tests_one (h aA s Y H Q I q)
def bo(N:List bA)(scope:cG)(N':List bA)(g:TG)(tt:TT)(te:TE)(Y:St)(Q:VK)(J:It)(H1:Hp):Prop:=∃vs:List V,vs.length<=N'.length /\
 (∀(i:Nat) x v,N'[i]?=some x->vs[i]?=some v->∃j:Nat,N[j]?=some x/\Y[j]?=some (some v)/\scope.names.lookup x=some .free) /\
 ∀D,H1 D=none->∃(n:Nat) (LP:Nat->St->Hp->Prop),LP 0 (start N' vs) (GA H1 D (.l []))/\∀i Y' H',LP i Y' H' ->
  (J.stop i H'/\Q (.ref D) H')\/(i<n/\J.go i H'/\∀x H2,J.fY i H' x H2->g x Y' H2 λY2 H3=>tt Y2 H3 λb H4 =>
   if b=true then te Y2 H4 λy H5=>∃ys,H5 D=some (.l ys)/\ys.length<sizeLine/\LP (i+1) Y2 (GA H5 D (.l (ys++[y]))) else LP (i+1) Y2 H4)
def vR(N:List bA)(scope:cG)(N':List bA)(wi:TI)(g:TG)(tt:TT)(te:TE):TE:=λY H Q=>wi Y H (bo N scope N' g tt te Y Q)
def Vd(hc:X.calm=true)(hi:PI X tg iter wi)(hs:∀x,aK iter X.env x=pure x)
  (GJ:scope.kind=.function) (jI:∀y∈scope.names,y.2≠.cell) (iT:∀x∈scope.names,x.2=.local->scope.names.lookup x.1=some .local)
  (BJ:∀p∈scope.names,p.2=.free->X.env.kindOf p.1=some .cell\/X.env.kindOf p.1=some .free)
  (hg:∀X',xG X scope N' X'->PG X' tg g) (ht:∀X',xG X scope N' X'->jK X' yA tt) (he:∀X',xG X scope N' X'->PE X' JA te) (I:dA X aA Y H s) (h:vR X.N scope N' wi g tt te Y H Q)
  (iB:∀(D C:gA) (H':Hp) (s':EA),dA X aA Y H' s'->Q (.ref D) H'->H' C=none->X.s₀.heap.objs.size<=C->C≠X.env.locals->(∀x c,X.env.cells.lookup x=some c->c≠C)->(∀p∈X.pn++aA,p.1≠C)->(∃m,s'.heap.Ns C m) ->
   compPost (model X.prog X.w) X.A X.xe use QF (.ref D) C (.ok .next) s') :
  sA (model X.prog X.w) X.A (comprehension (.ListComp JA [⟨tg,iter,yA,0⟩] scope pos) scope X.env ps (newList []) false (eval iter X.env) use) QF X.xe s:=by
 obtain⟨cl,fAa,sub,pW⟩:=Rw (env:=X.env) λp hp hf=>I.ok.has p.1 (BJ p hp hf)
 refine wpAny_comprehension_free rfl hs fAa GJ iT (RA (hi aA s Y H _ I h) λv s1 h1=>RA h1 λV6 s2 h2=>?_);obtain⟨it,fp,tn,J,H2,e,I2,T,OX,f2,vs,Fg,himp,hD⟩:=h2;subst e
 have jf:∀b∈fp,b<s2.heap.objs.size:=λb hb=>by(obtain⟨o,e,_⟩:=T.obj _ _ OX b hb;exact yC e)
 refine HM (wpAny_newFunctionEnv jI (by intro y hy;simp at hy) (λh₁ hns₁ hsb₁=>?_) GJ);dsimp only at hns₁ hsb₁ ⊢;have I3:dA X aA Y (GA H2 s2.heap.objs.size (.l [])) { s2 with heap:=s2.heap.push { cls:=.type "list",dict:=none,data:=.seq ([]:List eA).toArray } }:=I2.R7 (cA:=[]) (t':=s2.toks) .nil (UJ _);obtain⟨n,LP,l0,turn⟩:=hD s2.heap.objs.size I2.fresh;generalize RI:({ s2 with heap:=s2.heap.push { cls:=.type "list",dict:=none,data:=.seq ([]:List eA).toArray } }:EA)=s3 at I3;have V5:s3.heap=s2.heap.push { cls:=.type "list",dict:=none,data:=.seq ([]:List eA).toArray }:=by rw[<- RI]
 rw[<- V5] at hns₁ hsb₁ ⊢;have f3:∀b∈fp,FD X aA (GA H2 s2.heap.objs.size (.l [])) b:=λb hb=>⟨by rw[BB (sE (jf b hb))];exact(f2 b hb).1,(f2 b hb).2⟩
 have kf:∀b∈fp,b<s3.heap.objs.size:=λb hb=>by rw[V5,EY];exact Nat.lt_succ_of_lt (jf b hb)
 let R:Result->EA->Prop:=compPost (model X.prog X.w) X.A X.xe use QF (.ref s2.heap.objs.size) s3.heap.objs.size
 let X':Cx:=MV X scope cl s3.heap.objs.size N' s3 (GA H2 s2.heap.objs.size (.l [])) fp (notedBy (model X.prog X.w) X.A (compEnvC scope cl s3.heap.objs.size X.env) λe s'=>R (.error e) s')
 have K5:xG X scope N' X':=⟨_,_,_,_,_,_,rfl⟩
 have I4:∀tk,dA X' [] (start N' vs) (GA H2 s2.heap.objs.size (.l [])) { s3 with heap:=h₁,toks:=tk }:=λtk=>I3.block GJ jI sub pW BJ f3 kf Fg himp _ hns₁ hsb₁
 have old:∀b o,s3.heap.get? b=some o->h₁.get? b=some o:=λb o e=>(hsb₁.2 b (sE (yC e))).trans (jD _ e)
 have Xl:tn 0 h₁:=T.keep _ _ _ OX λb hb o e=>old b o (by rw[V5];exact jD _ e)
 have fP:∀{H':Hp},(∀b∈fp,H' b=none)->∀b∈fp,FD X' [] H' b:=λhn b hb=>⟨hn b hb,sE (kf b hb),λz=>by
  rcases pD.mp (I3.QX b z) with z | z
  ·exact(f2 b hb).2.1 z
  ·exact(f2 b hb).2.2.1 z,.inl hb,λx c e=>(f2 b hb).2.2.2.2.1 x c (sub x c e),λp hp=>(nomatch hp)⟩
 have loop:∀tk,xM (model X.prog X.w) X.A (.compLoop (.ListComp JA [⟨tg,iter,yA,0⟩] scope pos) 0 (.ref it) (.ref s2.heap.objs.size) (compEnvC scope cl s3.heap.objs.size X.env)) R { s3 with heap:=h₁,toks:=tk }:=by
  intro tk;refine Yw (λm s'=>∃i Y' H',m=n-i/\dA X' [] Y' H' s'/\tn i s'.heap/\(∀b∈fp,H' b=none)/\LP i Y' H') ?_ n ⟨0,_,_,by simp,I4 tk,Xl,λb hb=>(f3 b hb).1,l0⟩
  rintro m s5 ⟨i,Y5,H5,rfl,I5,sR,kW,w5⟩
  rcases turn i Y5 H5 w5 with ⟨stop,qn⟩ | ⟨OF,go,step⟩
  ·refine RA (T.done X' rfl rfl rfl hc i [] s5 Y5 H5 _ I5 (fP kW) sR stop) λr s6 hz=>?_
   obtain⟨hr,I6⟩:=hz;subst hr;obtain⟨m6,hn6,_⟩:=I6.loc;have IX:dA X aA Y H5 s6:=I3.Fd (s':=s6) (ch:=fp) I6.os I6.base I6.KA I6.bare λb hb=>⟨(f2 b hb).2.2.2.1,(f2 b hb).2.1,(f2 b hb).2.2.2.2.1,(f2 b hb).2.2.2.2.2⟩
   refine iB _ _ H5 s6 IX qn I6.free I3.sz (λz=>CP _ (vG I3.lt (Jb z))) (λx c e z=>?_) (λp hp z=>?_) ⟨m6,hn6⟩
   ·obtain⟨v,o,ho,hd⟩:=I3.cell x c e;rw[z] at ho;exact CP _ (yC ho)
   ·have:=(I3.pin p hp).1
    rw[z] at this;exact CP _ (yC this)
  ·refine RA (T.item X' rfl rfl rfl hc i [] s5 Y5 H5 _ I5 (fP kW) sR go) λr s6 hz=>?_
   obtain⟨u,hr,h6⟩:=hz;subst hr;refine RA h6 λ_ s7 hz=>?_
   obtain⟨x,H7,I7,r7,y7,b9,D_⟩:=hz;have Nr:=I7.pinned (fP D_) (T.obj _ _ b9)
   have again:∀{Y8:St} {H8:Hp} {s8:EA},dA X' ([]++jU fp s7.heap) Y8 H8 s8->LP (i+1) Y8 H8->∃m,m<n-i/\∃i Y' H',m=n-i/\dA X' [] Y' H' s8/\tn i s8.heap/\(∀b∈fp,H' b=none)/\LP i Y' H':=λ{Y8 H8 s8} I8 w8=>by(refine⟨n-(i+1),by lia,i+1,Y8,H8,rfl,I8.bY,T.keep _ _ _ b9 λb hb o e=>(I8.pin (b,o) (TH _ (TH _ (gX hb e)))).1,λb hb=>?_,w8⟩;obtain⟨o,e,d⟩:=T.obj _ _ b9 b hb;exact(I8.pin (b,o) (TH _ (TH _ (gX hb e)))).2.1)
   refine RA (hg X' K5 _ s7 Y5 H7 x u _ Nr r7 (step x H7 y7)) λ_ s8 hz=>?_
   obtain⟨Y8,H8,I8,q8⟩:=hz;refine RA (ht X' K5 _ s8 Y8 H8 _ I8 q8) λb s9 hz=>?_
   obtain⟨H9,I9,q9⟩:=hz
   cases b with
   |false=>exact again I9 q9
   |true =>
    refine RA (he X' K5 _ s9 Y8 H9 _ I9 q9) λy s10 hz=>?_
    obtain⟨yv,Jr,Kr,r10,ys,hy,hz,q10⟩:=hz;refine RA (ej (X:=X') _ s10 Y8 Jr (.ref s2.heap.objs.size) [yv] (.ref s2.heap.objs.size) [y] (λ_ H'=>LP (i+1) Y8 H') Kr rfl (.cons r10 .nil) ⟨_,ys,yv,rfl,rfl,hy,hz,q10⟩) λ_ s11 hz=>?_
    obtain⟨_,H11,Lr,_,q11⟩:=hz;exact again Lr q11
 subst RI;exact codeAny_compStart_list (loop _) (T.self _ 0 _ _ _ Xl (loop _))
def xPa(hc:X.calm=true)(hi:PI X tg iter wi)(hs:∀x,aK iter X.env x=pure x)
  (GJ:scope.kind=.function) (jI:∀y∈scope.names,y.2≠.cell) (iT:∀x∈scope.names,x.2=.local->scope.names.lookup x.1=some .local)
  (BJ:∀p∈scope.names,p.2=.free->X.env.kindOf p.1=some .cell\/X.env.kindOf p.1=some .free)
  (hg:∀X',xG X scope N' X'->PG X' tg g) (ht:∀X',xG X scope N' X'->jK X' yA tt) (he:∀X',xG X scope N' X'->PE X' JA te) :
  PE X (.ListComp JA [⟨tg,iter,yA,0⟩] scope pos) (vR X.N scope N' wi g tt te):=by
 intro aA s Y H Q I h;rw[eval_ListComp];refine Vd (use:=none) (QF:=EP X aA Y Q) hc hi hs GJ jI iT BJ hg ht he I h λD C H' s' I' q hC hz hL fD hp hm=>?_
 obtain⟨m,hm⟩:=hm;refine⟨m,hm,λh' sb=>⟨.ref D,H',I'.turned (t':=s'.toks) (λb o hb e=>(sb.2 b hb).trans e) hC hL (.inr (qY hz)) fD hp,rfl,q⟩⟩
def iSa(hsw:swapsWith (.ListComp JA [⟨tg,iter,yA,0⟩] scope pos) (some (.Name y py)) a9.line X.env=pure true)
  (hN:X.N.Nodup) (hy:X.N[i]?=some y) (hx:Loc X.env.scope y) (hf:X.fn y=true\/X.env.scope.names.lookup y=some .local) (hc:X.calm=true) (hi:PI X tg iter wi) (hs:∀x,aK iter X.env x=pure x)
  (GJ:scope.kind=.function) (jI:∀y∈scope.names,y.2≠.cell) (iT:∀x∈scope.names,x.2=.local->scope.names.lookup x.1=some .local)
  (BJ:∀p∈scope.names,p.2=.free->X.env.kindOf p.1=some .cell\/X.env.kindOf p.1=some .free)
  (hg:∀X',xG X scope N' X'->PG X' tg g) (ht:∀X',xG X scope N' X'->jK X' yA tt) (he:∀X',xG X scope N' X'->PE X' JA te) :
  PS X (.Assign [.Name y py] (.ListComp JA [⟨tg,iter,yA,0⟩] scope pos) a9) (TX (vR X.N scope N' wi g tt te) (vO i)):=by
 intro aA s Y H D0 I h;rw[exec_Assign_Name_used _ _ _ _ hsw];refine rA (GY (rA ?_));show sA _ X.A (do let _ <- comprehension (.ListComp JA [⟨tg,iter,yA,0⟩] scope pos) scope X.env _ (newList []) false (eval iter X.env) (some (assign (.Name y py) X.env))) _ _ s;refine rA (QH (Vd (use:=some (assign (.Name y py) X.env)) (QF:=λ_ s'=>SP X aA D0 .next s') hc hi hs GJ jI iT BJ hg ht he I h λD C H' s' I' q hC hz hL fD hp hm=>?_) (λ_ s' hq=>kB (kB hq)) λ_ _ e=>e);obtain⟨m,hm⟩:=hm;refine Fq (qm I' hN hy hx (v:=.ref D) rfl (λs2 I2 hz=>?_) hf);obtain⟨a,sb,ha⟩:=hz
 have bD:a≠C:=by
  rcases ha with rfl | ha
  ·exact HE hL
  ·exact fD _ _ ha
 refine⟨m,hm.sameBut sb (HE bD),λh' sb2=>⟨_,H',I2.turned (t':=s2.toks) (λb o hb e=>(sb2.2 b hb).trans e) hC hL (.inr (qY hz)) fD hp,q⟩⟩
end
end L2
namespace CI
open PySem PySem.Spec PyProof.Rows L2
section
variable{X:Cx}{K:fA}{P:ZA}{C:Calls}{Z:CC}
theorem SA.inner(xo:SA X K P C Z)(hk:X.env.scope.kind=.function)(nd:(aAu scope++aAt scope).Nodup)(b:xG X scope (Z.inner scope).N X'):SA X' K P C (Z.inner scope):=by
 obtain⟨cl,C0,s₃,H₃,fp,xe,rfl⟩:=b;refine SA.of xo.gD rfl ?_ nd xo.calm xo.hh xo.hu xo.c xo.vB (λx f h=>?_) (λx ns h=>?_) (λm tb c f h1 h2=>?_) xo.rm xo.sub xo.bJ ⟨xo.exc,λx h=>?_⟩ xo.DA (λx f h=>?_) xo.tp
 ·show(relabel scope X.env).names=(Z.inner scope).names;unfold relabel CC.inner;simp only;congr 1
  funext p
  obtain⟨n,k⟩:=p;have e:X.env.kindOf n=Z.names.lookup n:=by unfold bb;rw[xo.nm]
  simp only[hk,e];simp
 ·obtain⟨fa,fd,ps,k,h1,h2,h3,h4,h5⟩:=(xo.fn x f h).ex;exact⟨⟨fa,fd,ps,k,h1,h2,h3,h4,h5⟩⟩
 ·obtain⟨Ca,fa,fd,ps,h1,h2,h3,h4,h5,h6⟩:=(xo.cls x ns h).ex;exact⟨⟨Ca,fa,fd,ps,h1,h2,h3,h4,h5,h6⟩⟩
 ·obtain⟨Ca,fa,fd,ps,k,z1,z2,z3,z4,z5,z6⟩:=(xo.yF m tb c f h1 h2).ex;exact⟨⟨Ca,fa,fd,ps,k,z1,z2,z3,z4,z5,z6⟩⟩
 ·exact⟨trivial⟩
 ·obtain⟨fa,fd,ps,k,h1,h2,h3,h4,h5⟩:=(xo.fnX x f h).ex;exact⟨⟨fa,fd,ps,k,h1,h2,h3,h4,h5⟩⟩
def vN(K:fA)(P:ZA)(C:Calls)(cs:List E):TT:=λY H Q=>∃(U:Env) (G:Hp) (b:Bool) (U':Env),FA K U Y H G/\aD P C cs U=some (.ok (.sh (.bl b)),U') /\
 ∀H' G',CA K U Y H G U' H' G'->Q b H'
def Ek:jK X [] (vN K P C []):=λaA s Y H Q I hz=>by
 obtain⟨U,G,b,U',r,e,k⟩:=hz;rw[aD] at e;cases e;exact kTa aA s Y H Q I (k H G (CA.refl r))
def Gk(h:NA X K P C c cc):jK X [c] (vN K P C [cc]):=λaA s Y H Q I hz=>by
 obtain⟨U,G,b,U',r,e,k⟩:=hz;refine lTa h.t aA s Y H Q I ?_;rw[aD] at e;obtain⟨v,U1,e1,e2⟩:=xB e;split at e2
 ·rw[aD] at e2;cases e2;exact⟨U,G,true,_,r,e1,k⟩
 ·cases e2;exact⟨U,G,false,_,r,e1,k⟩
 ·cases e2
theorem YB.jR(b:YB K U Y H G U' Y' H' G')(h:H a=none)(g:G' a=none)(n:¬AA U' Y' a):YB K U Y H G U' Y' (GA H' a o) G':=by
 refine⟨b.pA.jR g n,⟨b.ext.gg,λc u e nc=>?_,λc e=>?_,b.ext.gn⟩,b.own,b.un,b.pin,b.len⟩
 ·have:c≠a:=λz=>by subst z;rw[h] at e;cases e
  rw[BB this];exact b.ext.hh c u e nc
 ·by_cases hc:c=a
  ·subst hc;rw[TC] at e;cases e
  ·rw[BB hc] at e;exact b.ext.hx c e
theorem P0{bind:D->Env->Option Env}:∀{ds BA HF:List D} {U U':Env},OE tests JA bind ds BA U=some (.ok HF,U')->BA.length<=HF.length
 |[],BA,HF,U,U',e=>by simp only[OE,eC,lE,Out.ok.injEq] at e;rw[e.1];exact zB _
 |d::ds,BA,HF,U,U',e=>by
  simp only[OE] at e;split at e
  ·cases e
  ·obtain⟨c,U2,e1,e2⟩:=xB e;split at e2
   ·obtain⟨v,U3,e3,e4⟩:=xB e2
    have:=P0 e4
    simp at this
    lia
   ·exact P0 e2
   ·cases e2
theorem Nl:∀(imp:List Nat) (U:Env) (as:List Sl) (U1:Env),FA K U Y H G->aAj (imp.map λ_=>true) (imp.map Hd.slot) U=some (as,U1) ->
  ∃xs,mE K H G own new Y (imp.map Hd.slot) xs/\xs.length=imp.length/\(∀a,¬ZG (imp.map Hd.slot) xs a)/\∀(j:Nat) v,xs[j]?=some v->∃i:Nat,imp[j]?=some i/\Y[i]?=some (some v)
 |[],U,as,U1,r,e=>⟨[],rfl,rfl,λa z=>z,λj v h=>by simp at h⟩
 |i::imp,U,as,U1,r,e=>by
  have go:∀(U2:Env) (yZ:List Sl) (U3:Env),FA K U2 Y H G->aAj (imp.map λ_=>true) (imp.map Hd.slot) U2=some (yZ,U3)->(∃v,Y[i]?=some (some v)) ->
    ∃xs,mE K H G own new Y ((i::imp).map Hd.slot) xs/\xs.length=(i::imp).length/\(∀a,¬ZG ((i::imp).map Hd.slot) xs a)/\∀(j:Nat) v,xs[j]?=some v->∃i':Nat,(i::imp)[j]?=some i'/\Y[i']?=some (some v):=by
   intro U2 yZ U3 r2 e2 ⟨v,hv⟩;obtain⟨xs,h1,h2,h3,h4⟩:=Nl imp U2 yZ U3 r2 e2;refine⟨v::xs,⟨v,xs,rfl,hv,h1,λd a z=>(nomatch z)⟩,by simp[h2],λa z=>h3 a z,λj w hw=>?_⟩
   cases j with
   |zero=>simp only[ZJ,eC] at hw;subst hw;exact⟨i,rfl,hv⟩
   |succ j=>exact h4 j w (by simpa using hw)
  rw[CB,CB,eX] at e;split at e
  ·rename_i d hi
   cases q:aAj (imp.map λ_=>true) (imp.map Hd.slot) U with
   |none=>rw[q] at e;cases e
   |some y=>exact go U y.1 y.2 r q (r.bound (by rw[hi];rfl))
  ·rename_i d p l hi
   cases q:aAj (imp.map λ_=>true) (imp.map Hd.slot) (U.set i .un) with
   |none=>rw[q] at e;cases e
   |some y=>exact go _ y.1 y.2 (r.unset i) q (r.bound (by rw[hi];rfl))
  ·cases e
def mTa(ho:∀i,o=some i->∃d p l,U1[i]?=some (.ow d p l))(e:aAq o U1 U2=some U')(h:IE (aAi o U1) U2):IE U1 U':=by
 cases o with
 |none=>simp only[aAq,eC] at e;subst e;exact h
 |some i =>
  obtain⟨d,p,l,hi⟩:=ho i rfl;simp only[aAq] at e;split at e
  ·rename_i sl hf hs;rw[hi] at hs;cases hs;cases e;intro j;by_cases hj:j=i
   ·subst hj;rw[hi,iL (eE.mp hf).1];exact jG.refl _
   ·have:=h j
    rw[EF (λz=>hj z.symm)]
    have e2:(aAi (some i) U1)[j]?=U1[j]?:=by(show(U1.set i .un)[j]?=_;rw[EF (λz=>hj z.symm)])
    rw[e2] at this;exact this
  ·cases e
theorem Sg{Z:CC}:∀{xs:List bA} {imp:List Nat},Z.IK xs=some imp->imp.length=xs.length/\∀(j:Nat) x i,xs[j]?=some x->imp[j]?=some i->Z.N[i]?=some x
 |[],imp,h=>by simp only[CC.IK,eC] at h;subst h;exact⟨rfl,λj x i z=>by simp at z⟩
 |x::xs,imp,h=>by
  simp only[CC.IK] at h
  cases q:Z.N.idxOf? x with
  |none=>rw[q] at h;cases h
  |some i =>
   rw[q] at h;simp only[uH] at h
   cases q2:Z.IK xs with
   |none=>rw[q2] at h;cases h
   |some r =>
    rw[q2] at h;simp only[jF,eC] at h;subst h;obtain⟨h1,h2⟩:=Sg q2;refine⟨by simp[h1],λj y k hy hk=>?_⟩
    cases j with
    |zero =>
     simp only[ZJ,eC] at hy hk;subst hy hk;exact MW q
    |succ j=>exact h2 j y k (by simpa using hy) (by simpa using hk)
structure aQ(Z:CC)(scope:cG):Prop where
 kind:scope.kind=.function
 cell:∀y∈scope.names,y.2≠.cell
 names:∀x∈scope.names,x.2=.local->scope.names.lookup x.1=some .local
 free:∀x∈scope.names,x.2=.free->scope.names.lookup x.1=some .free
 out:∀p∈scope.names,p.2=.free->Z.names.lookup p.1=some .cell\/Z.names.lookup p.1=some .free
 nd:(aAu scope++aAt scope).Nodup
def yVa(h:Z.W8 scope=true):aQ Z scope:=by
 unfold CC.W8 at h;simp only[aB,iF,decide_eq_true_eq,VJ,bne_iff_ne,rM,ne_eq] at h;obtain⟨⟨⟨⟨h1,h2⟩,h3⟩,h4⟩,h5⟩:=h;refine⟨h1,h2,λx hx hl=>?_,λx hx hf=>?_,λx hx hf=>?_,h5⟩
 ·rcases h3 x hx with z | z
  ·exact absurd hl z
  ·exact z
 ·rcases h4 x hx with z | z
  ·exact absurd hf z
  ·exact z.1
 ·rcases h4 x hx with z | z
  ·exact absurd hf z
  ·exact z.2
def E_(sc:aQ Z scope)(h:x∈aAu scope):scope.names.lookup x=some .free:=by
 unfold aAu at h;obtain⟨p,hp,rfl⟩:=SD.mp h;obtain⟨h1,h2⟩:=qM.mp hp;exact sc.free p h1 (GC h2)
def Bi(Y:St)(H:Hp)(R:It->Hp->Prop)(q:zH K P C .key [c] Y H R):Lg (tH K P C c) Y H R:=by
 obtain⟨U,G,hs,U1,ds,o,r,e,ei,k⟩:=q;simp only[eD] at e;obtain⟨h,U2,e1,e2⟩:=xB e;simp only[zA.bind,eC,lE,Out.ok.injEq] at e2;obtain⟨rfl,rfl⟩:=e2;refine⟨U,G,h,_,r,e1,λv H1 G1 a1 hv=>?_⟩;obtain _ | w:=h
 ·cases ei
 ·change M7 w=_ at ei;unfold M7 at ei;split at ei
  ·cases ei;replace hv:jA K G1 _ v:=hv;simp only[jA] at hv;obtain⟨a,xs,vs,rfl,⟨ep,h1⟩,h2,h3⟩:=hv;exact⟨a,xs,ep,rfl,h2.2.2.1,a1.pA.sub _ _ h1,k H1 G1 a1 (λi z=>nomatch z) _ (yZa (by rw[h2.2.2.2.2.1]) h1 h2.2.2.2.1)⟩
  ·cases ei
structure Cr(K:fA)(P:ZA)(C:Calls)(cond:List E)(JA:Env->zA RV)(is:List Nat)(U0:Env)(Y0:St)(H1 G2:Hp)(ds BA:List D)(Ui:Env)(D:gA)(i:Nat)(Y':St)(H':Hp):Prop where
 le:i<=ds.length
 ex:∃Uc Gc ac ys,YB K U0 Y0 H1 G2 Uc Y' H' Gc/\H' D=some (.l ys)/\Gc D=none/\¬AA Uc Y' D/\kA K Gc ac ys/\OE (aD P C cond) JA (lB (is.length==1) is) (ds.drop i) ac Uc=some (.ok BA,Ui)
def Zw(xo:SA X K P C Z){scope:cG}{ce:E}{k0:kF}{cA cond:List E}{imp is:List Nat}{wi:TI}{JA:Env->zA RV}(uW:∀U v U',JA U=some (.ok v,U')->ev P C false ce U=some (.ok v,U'))(sc:aQ Z scope)(himp:Z.IK (aAu scope)=some imp)
  (hw:∀Y H (R:It->Hp->Prop),zH K P C k0 cA Y H R->wi Y H R)
  {Y:St} {H:Hp} {Q:VK} (h:∃(U:Env) (G:Hp) (v:RV) (U':Env),FA K U Y H G/\Ke P C JA is k0 cA cond imp (aAt scope).length U=some (.ok v,U')/\∀x H' G',CA K U Y H G U' H' G'->MC K H' G' (AA U' Y) (JE H) v x->Q x H'):vR X.N scope (Z.inner scope).N wi (gB K (is.length==1) is) (vN K P C cond) (tE K P C ce) Y H Q:=by
 obtain⟨U,G,v,U',r,e,k⟩:=h;unfold Ke at e;obtain⟨IW,U1,e1,e2⟩:=xB e
 cases q:aAb k0 IW U1 with
 |none=>rw[q] at e2;cases e2
 |some y =>
  obtain⟨ds,o⟩:=y;rw[q] at e2;obtain⟨v',U2,e3,e4⟩:=xB e2;unfold aAA at e4
  cases q3:aAq o U1 U2 with
  |none=>rw[q3] at e4;cases e4
  |some U3 =>
   rw[q3] at e4;simp only[jF,eC,lE,Out.ok.injEq] at e4;obtain⟨rfl,rfl⟩:=e4;unfold vR;refine hw Y H _ ⟨U,G,IW,U1,ds,o,r,e1,q,λH1 G1 a1 ho=>?_⟩;have R0:=(UX (o:=o) a1.pA).1
   have yW:∃as U4,aAj (imp.map λ_=>true) (imp.map Hd.slot) (aAi o U1)=some (as,U4):=by
    unfold pF at e3
    cases q4:aAj (imp.map λ_=>true) (imp.map Hd.slot) (aAi o U1) with
    |none=>rw[q4] at e3;cases e3
    |some y=>exact⟨y.1,y.2,rfl⟩
   obtain⟨TM,U4,yW⟩:=yW;obtain⟨xs,MO,NQ,Gg,Hg⟩:=Nl (own:=AA (aAi o U1) Y) (new:=JE H1) imp _ _ _ R0 yW;obtain⟨as,G2,VA,ra,NI,ef,⟨MF,Nc⟩,kk⟩:=aW (CA.refl R0) MO e3;unfold lO at ef;split at ef
   ·rename_i hp;obtain⟨BA,Ui,e5,e6⟩:=xB ef;split at e6
    ·rename_i hz;simp only[eC,lE,Out.ok.injEq] at e6;obtain⟨rfl,rfl⟩:=e6;obtain⟨il,ig⟩:=Sg himp
     have nW:(Z.inner scope).N.length=as.length+(aAt scope).length:=by(show(aAu scope++aAt scope).length=_;rw[gC,NI,nA,il])
     obtain⟨rp,op⟩:=ra.pad nW;have wB:=oM hz
     -- FE i1a turns
     have turns:∀(J:It),wc K (as++NB (aAt scope).length .un) (start (Z.inner scope).N xs) H1 G2 ds J->bo X.N scope (Z.inner scope).N (gB K (is.length==1) is) (vN K P C cond) (tE K P C ce) Y Q J H1:=by
      intro J hJ;refine Exists.intro xs ⟨by rw[nW,NQ,NI,nA];lia,λi x v hN hv=>?_,λD hD=>?_⟩
      ·obtain⟨j,hj,hY⟩:=Hg i v hv
       have sD:i<(aAu scope).length:=by(rw[<- il];exact(eE.mp hj).1)
       have bg:(aAu scope)[i]?=some x:=by
        have:(aAu scope++aAt scope)[i]?=some x:=hN
        rwa[KP sD] at this
       exact⟨j,by rw[xo.oI];exact ig i x j bg hj,hY,E_ sc (fJ bg)⟩
      ·have iB:∀Y' H' Gc ys,YB K (as++NB (aAt scope).length .un) (start (Z.inner scope).N xs) H1 G2 Ui Y' H' Gc->H' D=some (.l ys)->Gc D=none->¬AA Ui Y' D->kA K Gc BA ys->Q (.ref D) H':=by
        intro Y' H' Gc ys a vJ xO IQ hr;obtain⟨b1,b2⟩:=EV ra hp nW a;obtain⟨c1,c2⟩:=kk (.ref D) H' Gc b1 ⟨D,rfl,xO,⟨ys,vJ,hr⟩,λz=>IQ (b2 D z),hD⟩;obtain⟨d1,d2⟩:=lU a1.pA ho q3 (CA.s R0 c1);have a2:CA K U1 Y H1 G1 U3 H' Gc:=⟨d1.pA,d1.ext,mTa ho q3 c1.qK⟩
        obtain⟨D',e',g',o',n',f'⟩:=c2;cases e';refine k _ _ _ (a1.trans a2) ⟨D,rfl,g',o',λz=>?_,a1.fresh hD⟩;rcases d2 D z with z | ⟨z,_⟩
        ·exact n' z
        ·exact(a1.pA.owned z).1 hD
       clear kk k q3 R0 ho a1 hp nW ra NI MF Nc MO NQ Gg Hg yW e3 q e1 r himp il ig op;refine⟨ds.length,Cr K P C cond JA is (as++NB (aAt scope).length .un) (start (Z.inner scope).N xs) H1 G2 ds BA Ui D, ?_, ?_⟩
       ·have g2:G2 D=none:=by
         cases z:G2 D with
         |none=>rfl
         |some u=>have:=rp.sub D u z;rw[hD] at this;cases this
        exact⟨UJ _,_,G2,[],[],CA.s rp ((CA.refl rp).WI hD),TC,g2,rp.sX hD,kA.nil,e5⟩
       ·rintro i Y' H' ⟨W5,Uc,Gc,ac,ys,a,vJ,xO,IQ,hr,ec⟩
        obtain⟨j1,j2,j3⟩:=hJ i H' Uc Y' Gc a;by_cases sD:i<ds.length
        ·refine .inr ⟨sD,j2 sD,λx H2 hy=>?_⟩;have hd:ds[i]?=some ds[i]:=XC sD;obtain⟨Gd,zV,r6⟩:=j3 _ x H2 hd hy;have xO:=zV.ext.gn D (by rw[vJ];simp) xO IQ;have vJ:=zV.ext.hh D _ vJ IQ;have hr:=kA.mono zV.ext.gg _ hr;have a:=a.trans (CA.s a.pA zV);rw[KU sD] at ec;simp only[OE] at ec;split at ec
         ·cases ec
         ·rename_i Ub hb;obtain⟨c,Ut,et,ec⟩:=xB ec;refine⟨Uc,Gd,ds[i],Ub,a.pA,r6,hb,λY1 ab=>?_⟩;have YN:=a.trans ab
          have nb:¬AA Ub Y1 D:=λz=>by
           rcases ab.own D z with z | z
           ·exact IQ z
           ·rw[vJ] at z;cases z
          split at ec
          ·obtain⟨w,Ue,ee,ec⟩:=xB ec;refine⟨Ub,Gd,true,Ut,ab.pA,et,λH3 G3 ZH=>?_⟩;have h3:H3 D=some (.l ys):=ZH.ext.hh D _ vJ nb;have g3:G3 D=none:=ZH.ext.gn D (by rw[vJ];simp) xO nb;have n3:¬AA Ut Y1 D:=λz=>nb (ZH.own D z)
           dsimp only;rw[QA rfl];refine⟨Ut,G3,w,Ue,ZH.pA,uW _ _ _ ee,λy H4 G4 a4 ry=>?_⟩;obtain⟨G5,a5,ry5⟩:=a4.share ry;have h4:H4 D=some (.l ys):=a5.ext.hh D _ h3 n3;have g5:G5 D=none:=a5.ext.gn D (by rw[h3];simp) g3 n3;have n5:¬AA Ue Y1 D:=λz=>n3 (a5.own D z)
           have qB:=P0 ec;have hyl:=hr.len;rw[gC] at qB;simp only[kD,mL] at qB;have fu:=(YN.trans (CA.s ab.pA ZH)).trans (CA.s ZH.pA a5);refine⟨ys,h4,by lia,sD,Ue,G5,ac++[w.d],ys++[y],fu.jR hD g5 n5,TC,g5,n5, ?_,ec⟩;exact(kA.mono a5.ext.gg _ (kA.mono ZH.ext.gg _ hr)).app (kA.cons ry5 kA.nil)
          ·refine⟨Ub,Gd,false,Ut,ab.pA,et,λH3 G3 ZH=>?_⟩;have h3:H3 D=some (.l ys):=ZH.ext.hh D _ vJ nb;have g3:G3 D=none:=ZH.ext.gn D (by rw[vJ];simp) xO nb;have n3:¬AA Ut Y1 D:=λz=>nb (ZH.own D z)
           dsimp only;rw[UA (by decide)];exact⟨sD,Ut,G3,ac,ys,YN.trans (CA.s ab.pA ZH),h3,g3,n3,kA.mono ZH.ext.gg _ hr,ec⟩
          ·cases ec
        ·have dg:i=ds.length:=by lia
         refine .inl ⟨j1 dg, ?_⟩;subst dg;rw[Za] at ec;simp only[OE,eC,lE,Out.ok.injEq] at ec;obtain⟨rfl,rfl⟩:=ec;exact iB _ _ _ _ a vJ xO IQ hr
     have dLa:∀c,AA as (xs.map some) c->AA (aAi o U1) Y c:=λc z=>by
      rcases Nc c z with z | z
      ·exact z
      ·exact absurd z (Gg c)
     exact λJ wj=>turns J (wj MF λc z=>dLa c (op c z))
    ·cases e6
   ·cases ef
def Wd(xo:SA X K P C Z){cA cond:List E}(sc:aQ Z scope)(himp:Z.IK (aAu scope)=some imp)
  (hw:∀Y H (R:It->Hp->Prop),zH K P C k0 cA Y H R->wi Y H R) (h:tE K P C (.comp ce is k0 cA cond imp (aAt scope).length) Y H Q):vR X.N scope (Z.inner scope).N wi (gB K (is.length==1) is) (vN K P C cond) (tE K P C ce) Y H Q:=by
 obtain⟨U,G,v,U',r,e,k⟩:=h;exact Zw xo (JA:=ev P C false ce) (λ_ _ _ z=>z) sc himp hw ⟨U,G,v,U',r,e,λx H' G' a hv=>k x H' G' a hv⟩
def B9(K:fA)(P:ZA)(C:Calls)(c:E):TE:=λY H Q=>False
def QP(X:Cx)(K:fA)(P:ZA)(C:Calls)(e:xA)(c:E):Prop:=∀(x:bA) (i:Nat) (p pos:XB),X.N.Nodup->X.N[i]?=some x->Loc X.env.scope x->(X.fn x=true\/X.env.scope.names.lookup x=some .local) ->
 PS X (.Assign [.Name x p] e pos) (TX (tE K P C c) (vO i))
def iR:QP X K P C e .oA:=λx i p pos _ _ _ _ aA s Y H D I h=>by
 obtain⟨U,G,v,U',r,e,k⟩:=h;cases e
def oMa(xo:SA X K P C Z){cA cond:List E}(sc:aQ Z scope)(himp:Z.IK (aAu scope)=some imp)(htg:NG (Z.inner scope) tg=some (is.length==1,is))
  (hi:PI X tg iter wi) (hs:∀x,aK iter X.env x=pure x)
  (hw:∀Y H (R:It->Hp->Prop),zH K P C k0 cA Y H R->wi Y H R)
  (he:∀X',SA X' K P C (Z.inner scope)->NA X' K P C JA ce) (ht:∀X',SA X' K P C (Z.inner scope)->jK X' yA (vN K P C cond)) :
  NA X K P C (.ListComp JA [⟨tg,iter,yA,0⟩] scope pos) (.comp ce is k0 cA cond imp (aAt scope).length)/\QP X K P C (.ListComp JA [⟨tg,iter,yA,0⟩] scope pos) (.comp ce is k0 cA cond imp (aAt scope).length)/\PE X (.ListComp JA [⟨tg,iter,yA,0⟩] scope pos) (B9 K P C (.comp ce is k0 cA cond imp (aAt scope).length)):=by
 have all:X.env.scope.kind=.function->(∀X',xG X scope (Z.inner scope).N X'->PG X' tg (gB K (is.length==1) is))/\(∀X',xG X scope (Z.inner scope).N X'->jK X' yA (vN K P C cond))/\∀X',xG X scope (Z.inner scope).N X'->PE X' JA (tE K P C ce):=by
  intro hk;have xi:∀X',xG X scope (Z.inner scope).N X'->SA X' K P C (Z.inner scope):=λX' b=>xo.inner hk sc.nd b
  have WB:∀X',xG X scope (Z.inner scope).N X'->∀x,(Z.inner scope).OO x=true->X'.fn x=true\/X'.env.scope.names.lookup x=some .local:=λX' b x hx=>by
   rw[(xi X' b).nm];unfold CC.OO at hx;rw[rM,aB] at hx;rcases hx with hx | hx
   ·exact .inr (GC hx)
   ·exact absurd hx.1 (by simp[CC.inner])
  exact⟨λX' b=>J9 (xi X' b) (WB X' b) htg,λX' b=>ht X' (xi X' b),λX' b=>(he X' (xi X' b)).v⟩
 have BJ:∀p∈scope.names,p.2=.free->X.env.kindOf p.1=some .cell\/X.env.kindOf p.1=some .free:=λp hp hf=>by unfold bb;rw[xo.nm];exact sc.out p hp hf
 have Lf:PE X (.ListComp JA [⟨tg,iter,yA,0⟩] scope pos) (tE K P C (.comp ce is k0 cA cond imp (aAt scope).length)):=λaA s Y H Q I h=>by(obtain⟨h1,h2,h3⟩:=all I.ok.kind;exact xPa (N':=(Z.inner scope).N) xo.calm hi hs sc.kind sc.cell sc.names BJ h1 h2 h3 aA s Y H Q I (Wd xo sc himp hw h))
 refine⟨XE xo Lf,λx i p a9 hN hx hl hf=>?_,λaA s Y H Q I h=>?_⟩
 case refine_2 =>
  obtain⟨h1,h2,h3⟩:=all I.ok.kind
  cases cond with
  |nil=>exact h.elim
  |cons _ _=>exact h.elim
 obtain⟨b,hb⟩:∃b:Bool,swapsWith (.ListComp JA [⟨tg,iter,yA,0⟩] scope pos) (some (.Name x p)) a9.line X.env=pure b:=⟨_,rfl⟩
 cases b with
 |false=>exact zX Lf (ak hN hx hl hf) hb
 |true =>
  intro aA s Y H D I h;obtain⟨h1,h2,h3⟩:=all I.ok.kind;exact iSa hb hN hx hl hf xo.calm hi hs sc.kind sc.cell sc.names BJ h1 h2 h3 aA s Y H D I (Wd xo sc himp hw h)
end
structure oV(X:Cx)(K:fA)(P:ZA)(C:Calls)(e:xA)(cs:List E):Prop where
 h:∀(f:bA) (p:XB) (args:List xA) (kw:List _) (pos:XB),e=.Call (.Name f p) args kw pos->args.all aAe=true->PA X args (kH K P C cs)/\cs.length=args.length
theorem B0:∀(es:List xA),(oB Z es).length=es.length
 |[]=>by rw[oB];rfl
 |e::es=>by rw[oB,kD,kD,B0 es]
section
variable{K:fA}
def G9(h:NG Z tg=some (one,is))(n:one=false):∃elts k p,tg=.Tuple elts k p:=by
 cases tg<;>simp only[NG,reduceCtorEq] at h
 ·rename_i x pos
  cases q:Z.bF x with
  |none=>rw[q] at h;cases h
  |some i=>rw[q] at h;cases h;cases n
 ·exact⟨_,_,_,rfl⟩
def lHa(xo:SA X K P C Z)(h:N7 Z e=some i):cR e=true/\NA X K P C e (.OD i):=by
 unfold N7 at h;split at h
 ·split at h
  ·exact⟨rfl,l8 xo h _⟩
  ·cases h
 ·cases h
def aAR(xo:SA X K P C Z){aH cond:List E}(sW:NA X K P C iter ci)(rW:oV X K P C iter aH){Φ:E->Prop}(oA:Φ .oA)
  (good:∀{k0:kF} {cA:List E} {imp is:List Nat} {wi:TI},aQ Z scope->Z.IK (aAu scope)=some imp->NG (Z.inner scope) tg=some (is.length==1,is)->PI X tg iter wi->(∀x,aK iter X.env x=pure x) ->
   (∀Y H (R:It->Hp->Prop),zH K P C k0 cA Y H R->wi Y H R)->Φ (.comp ce is k0 cA cond imp (aAt scope).length)) :
  Φ (bI Z scope tg iter ci aH cond ce):=by
 unfold bI;split
 ·rename_i hsc;have sc:=yVa hsc;split
  ·rename_i imp one is k0 U6 q1 q2 q3;split
   ·rename_i hsg;exact(dG hsg).elim
   split
   ·rename_i i hk;split
    ·rename_i DK;have DK:=GC DK;subst DK;obtain⟨hn,h3⟩:=lHa xo hk;exact good sc q1 q2 (fk h3.h) (iW hn _) (λY H R q=>Bi Y H R q)
    ·exact oA
   split
   ·rename_i DK;rw[aB,aB] at DK;obtain⟨⟨DK,yK⟩,HH⟩:=DK;have DK:=GC DK;subst DK
    have gen:∀e:xA,iter=e->cR e=true->some (kF.of,[e])=some (k0,U6)->Φ (.comp ce is k0 (jh k0 ci aH) cond imp (aAt scope).length):=λe he' hn hq=>by(subst he';cases hq;exact good sc q1 q2 (PI.or (C8 sW.h) (D8 sW.h)) (iW hn _) (λY H R q=>j8 xo.gD Y H R q))
    unfold JK at q3;split at q3
    ·rename_i x hx;obtain⟨⟨f,p⟩,args,pos'⟩:=x;obtain rfl:=UW hx;dsimp only at q3;split at q3
     ·rename_i hf;have hf:=GC hf;subst hf;split at q3
      ·rename_i DJ;split at q3
       ·rename_i hc;cases q3;rw[aB] at hc;obtain⟨h1,h2,h3,h4⟩:=CC.CG xo DJ (λz=>nomatch z);have hm:=xo.vB _ h2;obtain⟨EK,fD⟩:=rW.h _ _ _ _ _ rfl hc.1;obtain _ | ⟨a,_ | ⟨b,_ | ⟨_,_⟩⟩⟩:=U6
        ·simp at hc
        ·obtain _ | ⟨c1,_ | ⟨_,_⟩⟩:=aH
         ·simp at fD
         ·have ns:=hc.1;rw[xC,aB] at ns;exact good sc q1 q2 (ik h1 hm EK (by rw[cD ns.1];rfl)) (λ_=>rfl) (λY H R q=>rl Y H R q)
         ·simp at fD
        ·obtain _ | ⟨c1,_ | ⟨c2,_ | ⟨_,_⟩⟩⟩:=aH
         ·simp at fD
         ·simp at fD
         ·have ns:=hc.1;rw[xC,aB,xC,aB] at ns;exact good sc q1 q2 (jk h1 hm EK (by rw[cD ns.1,cD ns.2.1];rfl) (by rw[cD ns.2.1];rfl)) (λ_=>rfl) (λY H R q=>xl Y H R q)
         ·simp at fD
        ·simp at hc
       ·cases q3
      ·cases q3
     ·split at q3
      ·rename_i hf;have hf:=GC hf;subst hf;split at q3
       ·rename_i DJ;split at q3
        ·rename_i hc;cases q3;rw[aB] at hc;obtain⟨h1,h2,h3,h4⟩:=CC.CG xo DJ (λz=>nomatch z);have hm:=xo.vB _ h2;obtain⟨EK,fD⟩:=rW.h _ _ _ _ _ rfl hc.1;obtain _ | ⟨a,_ | ⟨_,_⟩⟩:=U6
         ·simp at hc
         ·obtain _ | ⟨c1,_ | ⟨_,_⟩⟩:=aH
          ·simp at fD
          ·have ns:=hc.1;rw[xC,aB] at ns;obtain⟨elts,kk,tp,rfl⟩:=G9 q2 (by simpa[TK] using yK);exact good sc q1 q2 (ek h1 hm EK (by rw[cD ns.1];rfl)) (λ_=>rfl) (λY H R q=>B2 xo.gD Y H R q)
          ·simp at fD
         ·simp at hc
        ·cases q3
       ·cases q3
      ·exact gen _ rfl rfl q3
    ·split at q3
     ·rename_i hx;split at q3
      ·split at q3
       ·cases q3;exact absurd HH (by decide)
       ·cases q3
      ·cases q3
     ·split at q3
      ·exact gen _ rfl ‹_› q3
      ·cases q3
   ·exact oA
  ·exact oA
 ·exact oA
def TV(xo:SA X K P C Z){aH cond:List E}(sW:NA X K P C iter ci)(rW:oV X K P C iter aH)
  (he:∀X',SA X' K P C (Z.inner scope)->NA X' K P C JA ce) (ht:∀X',SA X' K P C (Z.inner scope)->jK X' yA (vN K P C cond)) :
  NA X K P C (.ListComp JA [⟨tg,iter,yA,0⟩] scope pos) (bI Z scope tg iter ci aH cond ce)/\QP X K P C (.ListComp JA [⟨tg,iter,yA,0⟩] scope pos) (bI Z scope tg iter ci aH cond ce)/\PE X (.ListComp JA [⟨tg,iter,yA,0⟩] scope pos) (B9 K P C (bI Z scope tg iter ci aH cond ce)) :=
 aAR xo sW rW (Φ:=λc=>NA X K P C (.ListComp JA [⟨tg,iter,yA,0⟩] scope pos) c/\QP X K P C (.ListComp JA [⟨tg,iter,yA,0⟩] scope pos) c/\PE X (.ListComp JA [⟨tg,iter,yA,0⟩] scope pos) (B9 K P C c)) ⟨yB,iR,λaA s Y H Q I h=>h.elim⟩ λsc q1 q2 hi hs hw=>oMa xo sc q1 q2 hi hs hw he ht
end
def mJa(hs:P6 a=true)(h:cE Z a=.YQ c):∃p e pos,a=.Call (.Name ("set":bA) p) [e] [] pos/\Z.glob ("set":bA)=.vB/\aAe e=true/\c=cE Z e:=by
 unfold P6 at hs;split at hs
 ·rename_i f p e pos;have hf:=GC hs;subst hf;replace h:(if [e].all aAe&&decide ([e]≠[]) then(match Z.glob ("set":bA) with | .fn g=>.call g (oB Z [e]) | .cls ns=>.make ("set":bA) ns (oB Z [e]) | .vB=>if("set":bA)=("isinstance":bA) then fN Z [e] (oB Z [e]) else zL ("set":bA) [e] (oB Z [e]) | _=>E.oA) else E.oA)=.YQ c:=h;split at h
  ·rename_i hc;split at h
   ·cases h
   ·cases h
   ·rename_i hg;rw[UA (by decide)] at h;unfold zL aAP at h;rw[UA (by decide),QA rfl] at h;simp only[oB] at h;cases h;rw[aB,xC,aB] at hc;exact⟨p,e,pos,rfl,hg,hc.1.1,rfl⟩
   ·cases h
  ·cases h
 ·cases hs
def bu(i:xA):Prop:=∃k p1 p2 p3,i=.Slice none none (some (.UnaryOp .USub (.Constant (.int 1) k p1) p2)) p3
def uDa(h:O6 i=true):bu i:=by
 cases i with
 |Slice lo hi st q =>
  obtain _ | _:=lo
  ·obtain _ | _:=hi
   ·obtain _ | st:=st
    ·exact oC h
    ·cases st with
     |UnaryOp op a p =>
      cases op with
      |USub =>
       cases a with
       |Constant c k p1 =>
        cases c with
        |int n =>
         have h:=GC (show(n==1)=true from h);subst h;exact Exists.intro _ ⟨_,_,_,rfl⟩
        |_=>exact oC h
       |_=>exact oC h
      |_=>exact oC h
     |_=>exact oC h
   ·exact oC h
  ·exact oC h
 |_=>exact oC h
def mh(Z:CC)(a i:xA)(p:XB):(∃lo hi q,i=.Slice lo hi none q)\/((∀lo hi q,i≠.Slice lo hi none q)/\cE Z (.Subscript a i p)=if O6 i then .oA else .ix (cE Z a) (cE Z i)):=by
 cases i with
 |Slice lo hi st q =>
  cases st with
  |none=>exact .inl ⟨_,_,_,rfl⟩
  |some _=>exact .inr ⟨λ_ _ _ z=>(by cases z),rfl⟩
 |_=>exact .inr ⟨λ_ _ _ z=>Expr.noConfusion z,rfl⟩
def PM(K:fA)(P:ZA)(C:Calls)(n:Nat):Prop:=∀(X:Cx) (Z:CC),SA X K P C Z->∀e:xA,sizeOf e<n->NA X K P C e (cE Z e)
def V7(h:a<b)(k:b<n+1):a<n:=vG h (Nat.le_of_lt_succ k)
def EB{a b n:Nat}(k:b<n+1)(h:a<b:=by simp;lia):a<n:=V7 h k
section
variable{K:fA}
def gP{r:List xA}(h:sizeOf (e::r)<n):sizeOf e<n:=tM (by simp;lia) h
def CU{r:List xA}(h:sizeOf (e::r)<n):sizeOf r<n:=tM (by simp;lia) h
theorem zS(ih:PM K P C n)(xo:SA X K P C Z):∀es:List xA,sizeOf es<n->es.all aAe=true->PA X es (tN K P C (oB Z es))
 |[],_,_=>mPa
 |e::r,hs,h=>by(rw[xC,aB] at h;exact kPa (ih _ _ xo e (gP hs)) (zS ih xo r (CU hs) h.2) h.1)
theorem CL(ih:PM K P C n)(xo:SA X K P C Z):∀es:List xA,sizeOf es<n->es.all aAe=true->PA X es (kH K P C (oB Z es))
 |[],_,_=>nPa
 |e::r,hs,h=>by(rw[xC,aB] at h;exact lPa (ih _ _ xo e (gP hs)) (CL ih xo r (CU hs) h.2) h.1)
theorem Mc(ih:PM K P C n)(xo:SA X K P C Z):∀vs:List xA,sizeOf vs<n->vs≠[]->iK X K P C .And vs (A0 Z vs)
 |[],_,h=>absurd rfl h
 |[a],hs,_=>tLa (ih _ _ xo a (gP hs))
 |a::b::r,hs,_=>Bj (ih _ _ xo a (gP hs)) (Mc ih xo (b::r) (CU hs) (λz=>nomatch z))
theorem Jj(ih:PM K P C n)(xo:SA X K P C Z):∀vs:List xA,sizeOf vs<n->vs≠[]->iK X K P C .Or vs (I0 Z vs)
 |[],_,h=>absurd rfl h
 |[a],hs,_=>uLa (ih _ _ xo a (gP hs))
 |a::b::r,hs,_=>Cj (ih _ _ xo a (gP hs)) (Jj ih xo (b::r) (CU hs) (λz=>nomatch z))
theorem Aj(ih:PM K P C n)(xo:SA X K P C Z):∀o:Option xA,sizeOf o<n->PO X o (tO K P C (cO Z o))
 |none,_=>eRa
 |some e,hs=>gRa (ih _ _ xo e (tM (by simp) hs))
def xZ(ih:PM K P C n)(xo:SA X K P C Z)(e:xA)(hs:sizeOf e<n):oV X K P C e (VM Z e):=by
 cases e<;>first
  | (rename_i f args kw pos;exact⟨λf' p' uu kw' pos' z ns=>by cases z;exact⟨CL ih xo args (tM (by simp;lia) hs) ns,B0 args⟩⟩)
  |exact⟨λf' p' uu kw' pos' z ns=>by cases z⟩
end
def iNa{K:fA}(h:NA X K P C e c):NA X K P C e (aU c):=by
 unfold aU;split
 ·exact yB
 ·exact h
def Yv{K:fA}(ih:PM K P C n)(xo:SA X K P C Z)(e:xA)(wB:sizeOf e<n+1):NA X K P C e (cE Z e):=by
 cases e with
 |Name x p =>
  exact Ej xo _ _
 |Constant c k p =>
  exact pMa xo _ _ _
 |Tuple es k p =>
  show NA X K P C _ (if es.all aAe then .t (oB Z es) else .oA);split
  ·exact oNa xo (zS ih xo _ (EB wB) ‹_›)
  ·exact yB
 |List es p =>
  show NA X K P C _ (if es.all aAe then .l (oB Z es) else .oA);split
  ·exact bNa xo (zS ih xo _ (EB wB) ‹_›)
  ·exact yB
 |Dict ks vs p =>
  refine uMa xo (λv hv=>ih _ _ xo v (V7 (by have:=List.sizeOf_lt_of_mem hv;simp;lia) wB)) ?_;show NA X K P C _ (uS _ _ _ _);unfold uS;split
  ·exact rMa xo
  refine tMa xo (λk c h1 h2=>?_) λv c h1 h2=>?_
  ·subst h1;cases h2;exact iNa (ih _ _ xo k (EB wB))
  ·subst h1;cases h2;exact ih _ _ xo v (EB wB)
 |BinOp a op b p =>
  exact kMa xo (ih _ _ xo _ (EB wB)) (ih _ _ xo _ (EB wB))
 |UnaryOp op a p =>
  cases op with
  |Not =>
   exact jNa xo (ih _ _ xo _ (EB wB))
  |USub =>
   exact gNa xo (ih _ _ xo _ (EB wB))
  |_=>exact yB
 |Compare a ops cs p =>
  obtain _ | ⟨op,_ | ⟨rC,_ | ⟨_,_⟩⟩⟩:=ops
  ·exact yB
  ·obtain _ | ⟨b,_ | ⟨_,_⟩⟩:=cs
   ·exact yB
   ·show NA X K P C _ (if aL op b then .oA else .qA op (cE Z a) (cE Z b));split
    ·exact yB
    ·exact mMa xo (ih _ _ xo _ (EB wB)) (ih _ _ xo _ (EB wB)) (by rename_i h;simpa using h)
   ·exact yB
  ·obtain _ | ⟨b,_ | ⟨c,_ | ⟨_,_⟩⟩⟩:=cs
   ·exact yB
   ·exact yB
   ·show NA X K P C _ (if aL rC c then .oA else .lG op rC (cE Z a) (cE Z b) (cE Z c));split
    ·exact yB
    ·exact nMa xo (ih _ _ xo _ (EB wB)) (ih _ _ xo _ (EB wB)) (ih _ _ xo _ (EB wB)) (by rename_i h;simpa using h)
   ·exact yB
  ·exact yB
 |BoolOp op vs p =>
  obtain _ | ⟨a,_ | ⟨b,r⟩⟩:=vs
  ·cases op<;>exact yB
  ·cases op<;>exact yB
  ·cases op with
   |And =>
    exact(Bj (ih _ _ xo _ (EB wB)) (Mc ih xo _ (EB wB) (by simp))).Dj λi z=>nomatch z
   |Or =>
    exact(Cj (ih _ _ xo _ (EB wB)) (Jj ih xo _ (EB wB) (by simp))).Dj λi z=>nomatch z
 |IfExp c a b p =>
  exact yB
 |Subscript a i p =>
  rcases mh Z a i p with ⟨lo,hi,q,rfl⟩ | ⟨hn,e⟩
  ·exact nNa xo (ih _ _ xo _ (EB wB)) (Aj ih xo _ (EB wB)) (Aj ih xo _ (EB wB))
  ·rw[e];split
   ·rename_i hr;obtain⟨k,p1,p2,p3,rfl⟩:=uDa hr;exact yB
   ·exact yMa xo (ih _ _ xo _ (EB wB)) (ih _ _ xo _ (EB wB)) (rk hn)
 |Call fn args kw pos =>
  cases fn with
  |Name f p =>
   cases kw with
   |nil =>
    show NA X K P C _ (if args.all aAe&&decide (args≠[]) then(match Z.glob f with | .fn g=>.call g (oB Z args) | .cls ns=>.make f ns (oB Z args) | .vB=>if f=("isinstance":bA) then fN Z args (oB Z args) else zL f args (oB Z args) | _=>.oA) else .oA);split
    ·rename_i hc;rw[aB] at hc;obtain⟨ns,ne⟩:=hc
     cases args with
     |nil=>simp at ne
     |cons a r =>
      split
      ·rename_i g hg;exact lMa xo hg ns (CL ih xo _ (EB wB) ns)
      ·rename_i g hg;exact dNa xo hg ns (zS ih xo _ (EB wB) ns)
      ·rename_i hg;split
       ·rename_i hf;subst hf;unfold fN;split
        ·rename_i t a' _ e1 e2;split
         ·rename_i ty pT;simp only[oB,sP] at e1 e2;obtain⟨rfl,rfl⟩:=e1;obtain⟨rfl,_⟩:=e2;rw[xC,aB] at ns;exact xMa xo hg pT ns.1 (ih _ _ xo _ (EB wB))
         ·simp only[oB,sP] at e1 e2;obtain⟨rfl,rfl⟩:=e1;obtain⟨rfl,_⟩:=e2;rw[xC,aB] at ns;exact yB
        ·exact yB
       ·unfold zL;split
        ·rename_i S5;subst S5;unfold dX;split
         ·rename_i a' c e1 OL;cases e1;simp only[oB,sP,and_true] at OL;split
          ·rename_i FJ;obtain⟨p2,e2,uk,rfl,hg2,ns2,rfl⟩:=mJa FJ OL;exact kNa xo hg hg2 ns2 (ih _ _ xo e2 (EB wB))
          ·exact vX xo hg (b:=.len) rfl ns (CL ih xo _ (EB wB) ns)
         ·exact vX xo hg (b:=.len) rfl ns (CL ih xo _ (EB wB) ns)
        ·split
         ·unfold aAP;split
          ·exact fNa
          ·exact yB
         ·split
          ·exact yB
          ·split
           ·rename_i S5;subst S5;exact vX xo hg (b:=.list) rfl ns (CL ih xo _ (EB wB) ns)
           ·split
            ·rename_i b hb;exact vX xo hg hb ns (CL ih xo _ (EB wB) ns)
            ·exact yB
      ·exact yB
    ·exact yB
   |cons _ _=>exact yB
  |Attribute o m HB =>
   cases o with
   |Name x p =>
    cases kw with
    |nil =>
     have hD:NA X K P C (.Call (.Attribute (.Name x p) m HB) args [] pos) (EZ Z x m HB pos args (oB Z args)):=by
      cases args with
      |nil =>
       show NA X K P C _ (eS Z x m HB pos);unfold eS;split
       ·rename_i hc;rw[aB] at hc;obtain⟨hl,hm⟩:=hc;have hm:=GC hm;subst hm;exact yB
       ·split
        ·rename_i hc;rw[aB] at hc;obtain⟨hl,hm⟩:=hc;have hm:=GC hm;subst hm;split
         ·exact lNa xo ‹_› hl
         ·exact yB
        ·exact yB
      |cons a as =>
       cases as with
       |nil =>
        show NA X K P C _ (fS Z x m HB pos a (cE Z a));unfold fS;split
        ·rename_i hc;rw[aB,aB] at hc;obtain⟨⟨ns,hl⟩,hm⟩:=hc;have hm:=GC hm;subst hm;split
         ·exact jMa xo ‹_› hl ns (ih _ _ xo _ (EB wB))
         ·exact yB
        ·split
         ·rename_i hc;rw[aB,aB] at hc;obtain⟨⟨ns,hl⟩,hm⟩:=hc;have hm:=GC hm;subst hm;split
          ·exact vMa xo ‹_› hl ns (ih _ _ xo _ (EB wB))
          ·exact yB
         ·split
          ·rename_i hc;rw[aB,aB] at hc;obtain⟨⟨ns,hl⟩,hm⟩:=hc;have hm:=GC hm;subst hm;exact yB
          ·exact yB
       |cons b as=>exact yB
     show NA X K P C _ (gS Z x m HB pos args (oB Z args));unfold gS;split
     ·rename_i tb hm;split
      ·rename_i hc;rw[aB,aB] at hc;obtain⟨⟨ns,hl⟩,hf⟩:=hc;split
       ·exact eNa xo ‹_› hm ns hl (UU hf) (CL ih xo _ (EB wB) ns) λz=>by rw[z,oB]
       ·exact yB
      ·exact yB
     ·exact hD
    |cons _ _=>exact yB
   |Call g as kw2 p2 =>
    cases as with
    |nil=>exact yB
    |cons a0 TM =>
     cases kw with
     |nil =>
      show NA X K P C _ (WT Z m HB pos args (cE Z (.Call g (a0::TM) kw2 p2)) (oB Z args));unfold WT;split
      ·rename_i tb hm;split
       ·rename_i hc;rw[aB,aB] at hc;exact yB
       ·exact yB
      ·exact yB
     |cons _ _=>exact yB
   |_=>exact yB
  |_=>exact yB
 |Attribute o f p =>
  cases o with
  |Name x q =>
   exact wMa xo
  |_=>exact yB
 |ListComp JA gs scope pos =>
  obtain _ | ⟨⟨tg,iter,yA,m⟩,_ | ⟨_,_⟩⟩:=gs
  ·exact yB
  ·obtain _ | ⟨c,_ | ⟨_,_⟩⟩:=yA<;>obtain(_ | _) | _:=m
   ·exact(TV xo (ih _ _ xo _ (EB wB)) (xZ ih xo _ (EB wB)) (λX' wI=>ih _ _ wI _ (EB wB)) (λX' wI=>Ek)).1
   ·exact yB
   ·exact yB
   ·exact(TV xo (ih _ _ xo _ (EB wB)) (xZ ih xo _ (EB wB)) (λX' wI=>ih _ _ wI _ (EB wB)) (λX' wI=>Gk (ih _ _ wI _ (EB wB)))).1
   all_goals exact yB
  ·obtain _ | ⟨c,_ | ⟨_,_⟩⟩:=yA<;>obtain(_ | _) | _:=m<;>exact yB
 |_=>exact yB
theorem sT{K:fA}:∀n:Nat,PM K P C n
 | 0=>λ_ _ _ _ h=>absurd h (ZU _)
 |n+1=>λ_ _ xo e h=>Yv (sT n) xo e h
section
variable{K:fA}
def yE(xo:SA X K P C Z)(e:xA):NA X K P C e (cE Z e):=sT _ _ _ xo e (zI _)
def zd(xo:SA X K P C Z)(e:xA):oV X K P C e (VM Z e):=xZ (sT _) xo e (zI _)
def Zv(xo:SA X K P C Z)(es:List xA)(h:es.all aAe=true):PA X es (tN K P C (oB Z es)):=zS (sT _) xo es (zI _) h
def iQ(xo:SA X K P C Z)(es:List xA)(h:es.all aAe=true):PA X es (kH K P C (oB Z es)):=CL (sT _) xo es (zI _) h
end
def zLa{K:fA}(xo:SA X K P C Z)(e:xA)(h:DT e=true):QP X K P C e (cE Z e):=by
 cases e<;>simp only[DT,kL] at h;rename_i JA gs scope pos;obtain _ | ⟨⟨tg,iter,yA,n⟩,_ | ⟨_,_⟩⟩:=gs
 ·exact iR
 ·obtain _ | ⟨c,_ | ⟨_,_⟩⟩:=yA<;>obtain(_ | _) | _:=n
  ·exact(TV xo (yE xo iter) (zd xo iter) (λX' wI=>yE wI JA) (λX' wI=>Ek)).2.1
  ·exact iR
  ·exact iR
  ·exact(TV xo (yE xo iter) (zd xo iter) (λX' wI=>yE wI JA) (λX' wI=>Gk (yE wI c))).2.1
  all_goals exact iR
 ·obtain _ | ⟨c,_ | ⟨_,_⟩⟩:=yA<;>obtain(_ | _) | _:=n<;>exact iR
section
variable{X:Cx}{K:fA}{P:ZA}{C:Calls}{W:Nat}{Z:CC}
def XN(X:Cx)(K:fA)(U:Env)(Y:St)(H G:Hp)(U':Env)(x:Exc):Prop:=∀aA Y' H' G' s' a Ca p,YB K U Y H G U' Y' H' G'->dA X aA Y' H' s'->NM X aA H' s'.heap a Ca p->WC K TB x.cls=some (some (.ref Ca))->SN K Ca->ZP K G' Ca p x->X.xe (.ref a) s'
def XN.pre(a:YB K U Y H G U1 Y1 H1 G1)(h:XN X K U Y H G U' x):XN X K U1 Y1 H1 G1 U' x:=λaA Y' H' G' s' b Ca p q=>h aA Y' H' G' s' b Ca p (a.trans q)
def EU(X:Cx)(K:fA)(P:ZA)(C:Calls)(c:E):TE:=λY H _=>∃U G x U',FA K U Y H G/\cH P C c U=some (x,U')/\XN X K U Y H G U' x
def gYa(X:Cx)(K:fA)(P:ZA)(C:Calls)(cs:List E):TA:=λY H _=>∃U G x U',FA K U Y H G/\pK P C cs U=some (x,U')/\XN X K U Y H G U' x
def cF(X:Cx)(K:fA)(P:ZA)(C:Calls)(W:Nat)(c:S):TS:=λ_ Y H=>∃U G x U',FA K U Y H G/\UE P C W c U=some (x,U')/\XN X K U Y H G U' x
def uN(X:Cx)(K:fA)(P:ZA)(C:Calls)(W:Nat)(c:List S):TS:=λ_ Y H=>∃U G x U',FA K U Y H G/\wD P C W c U=some (x,U')/\XN X K U Y H G U' x
def fTa(h1:HC X b t)(h2:HC X b u):HC X b (λD Y H=>t D Y H\/u D Y H):=λaA s Y H D I q=>q.elim (h1 aA s Y H D I) (h2 aA s Y H D I)
theorem vIa{test:Env->zA RV}{body:Env->Run}{bx:Env->Option (Exc×Env)}{n:Nat}{U:Env}:nI test body bx (n+1) U=(match test U with
  |some (.ok (.sh (.bl true)),U1)=>(match body U1 with
   |some (.nx,U2)=>nI test body bx n U2
   |some (.ct,U2)=>nI test body bx n U2
   |_=>bx U1)
  |_=>none):=rfl
def h0a(po:eL (model X.prog X.w) X.A X.env X.xe)(hc:NA X K P C c cc)(hb:HC X body (lH K P C W cb))(hx:HC X body (uN X K P C W cb)):PS X (.While c body [] pos) (cF X K P C W (.WK cc cb)):=by
 refine TS.pE (Bk po hc.t (fTa hb hx)) λD Y H hz=>?_
 obtain⟨U,G,x,U',r,e,k⟩:=hz;refine⟨λm Y1 H1=>∃U1 G1,YB K U Y H G U1 Y1 H1 G1/\nI (ev P C true cc) (DA P C W cb) (wD P C W cb) m U1=some (x,U'),⟨W,U,G,YB.refl r,e⟩,λm Y1 H1 hz=>?_⟩;obtain⟨U1,G1,a1,e1⟩:=hz
 cases m with
 |zero=>cases e1
 |succ m =>
  rw[vIa] at e1;split at e1
  ·rename_i U2 q1;refine⟨U1,G1,true,U2,a1.pA,q1,λH2 G2 a2=>QO ?_⟩;have SM:=a1.trans (CA.s a1.pA a2);refine⟨λY3 H3=>∃U3 G3,YB K U Y H G U3 Y3 H3 G3/\nI (ev P C true cc) (DA P C W cb) (wD P C W cb) m U3=some (x,U'),λY3 H3 ⟨U3,G3,a3,e4⟩=>⟨m,zI m,U3,G3,a3,e4⟩, ?_⟩;split at e1
   ·rename_i U3 q;exact .inl ⟨U2,G2,.nx,U3,a2.pA,q,λY3 H3 G3 a3=>⟨U3,G3,SM.trans a3,e1⟩⟩
   ·rename_i U3 q;exact .inl ⟨U2,G2,.ct,U3,a2.pA,q,λY3 H3 G3 a3=>⟨U3,G3,SM.trans a3,e1⟩⟩
   ·exact .inr ⟨U2,G2,x,U',a2.pA,e1,k.pre SM⟩
  ·cases e1
def A8(h1:PE X e t)(h2:PE X e u):PE X e (λY H Q=>t Y H Q\/u Y H Q):=λaA s Y H Q I q=>q.elim (h1 aA s Y H Q I) (h2 aA s Y H Q I)
def oSa{st:XA}(h1:PS X st t)(h2:PS X st u):PS X st (λD Y H=>t D Y H\/u D Y H):=λaA s Y H D I q=>q.elim (h1 aA s Y H D I) (h2 aA s Y H D I)
end
section
variable{X:Cx}{K:fA}{P:ZA}{C:Calls}{Z:CC}
def Tr(X:Cx)(K:fA)(P:ZA)(C:Calls)(e:xA)(c:E):Prop:=∀(W:Nat) (x:bA) (i:Nat) (p pos:XB),X.N.Nodup->X.N[i]?=some x->Loc X.env.scope x->(X.fn x=true\/X.env.scope.names.lookup x=some .local) ->
 PS X (.Assign [.Name x p] e pos) (cF X K P C W (.HA i c))
end
section
variable{X:Cx}{K:fA}{P:ZA}{C:Calls}{W:Nat}{Z:CC}
noncomputable def tD:E->Bool
 |.call _ _=>true
 |_=>false
def rKa:tD (fO Z x)=false:=by unfold fO;split;rfl;split<;>rfl
def jKa:tD (OV c)=false:=by
 cases c<;>first | rfl | (show tD (if _ then _ else _)=false;split<;>rfl)
def mKa(h:tD c=false):tD (uS z ks vs c)=false:=by unfold uS;first | exact h | (split<;>first | rfl | exact h)
def lKa(h:tD c=false):tD (X0 ks vs es c)=false:=by
 exact h
def kKa:tD (ZV ks vs cs es)=false:=by
 unfold ZV;unfold we ue;unfold YV
 (repeat' split)<;>rfl
def fKa{x m:bA}{p q:XB}{a:xA}{c:E}:tD (fS Z x m p q a c)=false:=by unfold fS;repeat' split<;>first | rfl | exact l3a | skip
def eKa{x m:bA}{p q:XB}:tD (eS Z x m p q)=false:=by unfold eS;(repeat' split)<;>rfl
def hKa{x m:bA}{p q:XB}{as:List xA}{cs:List E}:tD (EZ Z x m p q as cs)=false:=by
 rcases as with _ | ⟨a,_ | _⟩<;>rcases cs with _ | ⟨c,_ | _⟩<;>first | rfl | exact eKa | exact fKa
def gKa:tD (gS Z x m p q as cs)=false:=by
 unfold gS;split
 ·split
  ·split<;>rfl
  ·rfl
 ·exact hKa
def qKa:tD (WT Z m p q as a cs)=false:=by unfold WT;repeat' split<;>try rfl
theorem sKa:tD (um Z t a)=false:=rfl
def nKa:tD (fN Z as cs)=false:=by
 unfold fN;split
 ·split
  ·rfl
  ·exact sKa
 ·rfl
def oKa:tD (dX as cs)=false:=by unfold dX;first | rfl | (repeat' split<;>try rfl)
def pKa:tD (P7 as cs)=false:=by unfold P7;first | rfl | (repeat' split<;>try rfl)
def iKa:tD (zL f as cs)=false:=by
 unfold zL aAP;split
 ·exact oKa
 ·split
  ·(repeat' split)<;>rfl
  ·split
   ·rfl
   ·split
    ·exact pKa
    ·split<;>rfl
def aR[Decidable b](h1:tD a=false)(h2:tD c=false):tD (if b then a else c)=false:=by split<;>assumption
def FF(Z:CC)(e:xA):Prop:=(∃f p a r pos g,e=.Call (.Name f p) (a::r) [] pos/\Z.glob f=.fn g/\(a::r).all aAe=true/\cE Z e=.call g (oB Z (a::r)))\/∃JA tg iter yA sc pos,e=.ListComp JA [⟨tg,iter,yA,0⟩] sc pos/\(yA=[]\/∃c1,yA=[c1])
def Gw(h:tD (cE Z e)=true):FF Z e:=by
 cases e with
 |Name x p=>exact oC ((rKa (x:=x)).symm.trans h)
 |Constant c _ _=>exact oC ((jKa (c:=c)).symm.trans h)
 |Tuple es _ _=>exact oC ((aR (b:=es.all aAe=true) (a:=.t (oB Z es)) (c:=.oA) rfl rfl).symm.trans h)
 |List es _=>exact oC ((aR (b:=es.all aAe=true) (a:=.l (oB Z es)) (c:=.oA) rfl rfl).symm.trans h)
 |Dict ks vs _=>exact oC ((lKa (mKa (kKa (ks:=ks) (vs:=vs) (cs:=J0 Z ks) (es:=oB Z vs)))).symm.trans h)
 |BinOp a op b _=>exact oC h
 |UnaryOp op a _=>cases op<;>exact oC h
 |Compare a ops bs _ =>
  obtain _ | ⟨o1,_ | ⟨o2,_ | ⟨o3,_⟩⟩⟩:=ops<;>obtain _ | ⟨b1,_ | ⟨b2,_ | ⟨b3,_⟩⟩⟩:=bs<;>first
   |exact oC h
   |exact oC ((aR (b:=aL o1 b1=true) (a:=.oA) (c:=.qA o1 (cE Z a) (cE Z b1)) rfl rfl).symm.trans h)
   |exact oC ((aR (b:=aL o2 b2=true) (a:=.oA) (c:=.lG o1 o2 (cE Z a) (cE Z b1) (cE Z b2)) rfl rfl).symm.trans h)
 |BoolOp op es _ =>
  cases op<;>obtain _ | ⟨a,_ | ⟨b,r⟩⟩:=es<;>exact oC h
 |IfExp c a b _=>exact oC h
 |Subscript a i _ =>
  rcases mh Z a i ‹XB› with ⟨lo,hi,q,rfl⟩ | ⟨_,z⟩
  ·exact oC h
  ·rw[z] at h;exact oC ((aR rfl rfl).symm.trans h)
 |Attribute o f _=>cases o<;>exact oC h
 |ListComp JA gens sc _ =>
  obtain _ | ⟨⟨tg,it,yA,n⟩,_ | ⟨_,_⟩⟩:=gens
  ·exact oC h
  ·obtain _ | ⟨c1,_ | ⟨_,_⟩⟩:=yA<;>obtain(_ | _) | _:=n<;>first
    |exact Or.inr ⟨JA,tg,it,[],sc,_,rfl,.inl rfl⟩
    |exact Or.inr ⟨JA,tg,it,[c1],sc,_,rfl,.inr ⟨c1,rfl⟩⟩
    |exact oC h
  ·obtain _ | ⟨c1,_ | ⟨_,_⟩⟩:=yA<;>obtain(_ | _) | _:=n<;>exact oC h
 |Call fn args kw pos =>
  cases fn with
  |Name f p =>
   cases kw with
   |nil =>
    change tD (if args.all aAe&&decide (args≠[]) then(match Z.glob f with | .fn g=>.call g (oB Z args) | .cls ns=>.make f ns (oB Z args) | .vB=>if f=("isinstance":bA) then fN Z args (oB Z args) else zL f args (oB Z args) | _=>.oA) else .oA)=true at h;split at h
    ·rename_i hc;split at h
     ·rename_i g hg;rw[aB] at hc
      cases args with
      |nil=>simp at hc
      |cons a r =>
       refine Or.inl ⟨f,p,a,r,pos,g,rfl,hg,hc.1, ?_⟩;show(if(a::r).all aAe&&decide ((a::r)≠[]) then(match Z.glob f with | .fn g=>E.call g (oB Z (a::r)) | .cls ns=>E.make f ns (oB Z (a::r)) | .vB=>if f=("isinstance":bA) then fN Z (a::r) (oB Z (a::r)) else zL f (a::r) (oB Z (a::r)) | _=>.oA) else .oA)=_;rw[QA (by rw[hc.1];simp),hg]
     ·cases h
     ·rw[aR nKa iKa] at h;cases h
     ·cases h
    ·cases h
   |cons _ _=>exact oC h
  |Attribute o m HB =>
   cases kw with
   |nil =>
    cases o with
    |Name x p=>exact oC ((gKa (x:=x) (m:=m) (p:=HB) (q:=pos) (as:=args) (cs:=oB Z args)).symm.trans h)
    |Call g TM Di p0 =>
     cases TM with
     |nil=>exact oC h
     |cons a0 r0=>exact oC ((qKa (m:=m) (p:=HB) (q:=pos) (as:=args) (a:=cE Z (.Call g (a0::r0) Di p0)) (cs:=oB Z args)).symm.trans h)
    |_=>exact oC h
   |cons _ _ =>
    cases o with
    |Call g TM Di p0=>cases TM<;>exact oC h
    |_=>exact oC h
  |_=>exact oC h
 |_=>exact oC h
def Kd(h:tD (cE Z e)=true):(∃f p a r pos g,e=.Call (.Name f p) (a::r) [] pos/\Z.glob f=.fn g/\(a::r).all aAe=true/\cE Z e=.call g (oB Z (a::r)))\/∃JA tg iter yA sc pos,e=.ListComp JA [⟨tg,iter,yA,0⟩] sc pos/\(yA=[]\/∃c1,yA=[c1]):=Gw h
def mQ(h:cH P C c U=some (x,U')):tD c=true:=by
 cases c<;>first | rfl | (simp[cH] at h)
def FX{sc:cG}{tg it:xA}{ci:E}{as cs:List E}{ce:E}(h:tD (bI Z sc tg it ci as cs ce)=true):False:=by
 unfold bI at h
 (repeat' split at h)<;>cases h
def bZ(K:fA)(P:ZA)(C:Calls)(n:Nat):Prop:=∀(X:Cx) (Z:CC),SA X K P C Z->∀e:xA,sizeOf e<n->PE X e (EU X K P C (cE Z e))
theorem Ie(ih:bZ K P C n)(xo:SA X K P C Z):∀es:List xA,sizeOf es<n->es.all aAe=true->PA X es (gYa X K P C (oB Z es))
 |[],_,_=>by
  intro pos aA s Y H Q I ⟨U,G,x,U',r,e0,k⟩;simp only[oB,pK] at e0;cases e0
 |e::es,hs,ns=>by
  have qG:=ns;rw[xC,aB] at qG;refine TA.uT (lM (A8 (yE xo e).h (ih _ _ xo e (gP hs))) (Ie ih xo es (CU hs) qG.2) (cD qG.1 _ _)) λY H Q hz=>?_
  obtain⟨U,G,x,U',r,e0,k⟩:=hz;simp only[oB,pK] at e0;split at e0
  ·rename_i v U1 q1;exact .inl ⟨U,G,v,U1,r,q1,λy H1 G1 a1 _=>⟨U1,G1,x,U',a1.pA,e0,k.pre (CA.s r a1)⟩⟩
  ·exact .inr ⟨U,G,x,U',r,e0,k⟩
theorem Ky{P:ZA}{C:Calls}{f:String}{es:List E}{U:Env}:cH P C (.call f es) U=(match eD P C es U with
  |some (.ok hs,U1)=>match pF (P f) (C f) hs U1 with
   |some (.ex x,U')=>some (x,U')
   |_=>none
  |_=>pK P C es U):=rfl
def Xv(ih:bZ K P C n)(xo:SA X K P C Z)(e:xA)(wB:sizeOf e<n+1):PE X e (EU X K P C (cE Z e)):=by
 intro aA s Y H Q I ⟨U,G,x,U',r,e0,k⟩;rcases Kd (mQ e0) with ⟨f,p,a,aAn,pos,g,rfl,hf,ns,hc⟩ | ⟨JA,tg,iter,yA,sc,pos,rfl,rfl | ⟨c1,rfl⟩⟩
 case inr.inl=>exact(FX (show tD (bI Z sc tg iter (cE Z iter) (VM Z iter) [] (cE (Z.inner sc) JA))=true from mQ e0)).elim
 case inr.inr=>exact(FX (show tD (bI Z sc tg iter (cE Z iter) (VM Z iter) [cE (Z.inner sc) c1] (cE (Z.inner sc) JA))=true from mQ e0)).elim
 rw[hc] at e0;obtain⟨h1,h2,h3,h4⟩:=CC.CG xo hf (λz=>nomatch z);obtain⟨fa,fd,ps,k0,F,hr,hm,hk,hb⟩:=(xo.fnX f g h2).ex;have qG:=ns;rw[xC,aB] at qG;rw[Ky] at e0
 have wu:pK P C (oB Z (a::aAn)) U=some (x,U')->sA (model X.prog X.w) X.A (eval (.Call (.Name f p) (a::aAn) [] pos) X.env) (EP X aA Y Q) X.xe s:=λz =>
  Sj F hr h1 hm hk hb (Ie ih xo (a::aAn) (V7 (by simp;lia) wB) ns) h3 (cD qG.1 _ _) (uI qG.2 _ _).1 aA s Y H Q I ⟨U,G,x,U',r,z,k⟩
 split at e0
 ·rename_i hs U1 q1;split at e0
  ·rename_i x' U2 q2;cases e0;refine Sj F hr h1 hm hk hb (iQ xo (a::aAn) ns) h3 (cD qG.1 _ _) (uI qG.2 _ _).1 aA s Y H Q I ⟨U,G,hs,U1,r,q1,λxs H1 G1 a1 rx=>?_⟩;obtain⟨as,G2,VA,d1,d2,d3,d4⟩:=Vx a1 rx q2;refine⟨λv p H'=>∃Ca G',v=.ref Ca/\CA K U Y H G U' H' G'/\WC K TB x.cls=some (some (.ref Ca))/\SN K Ca/\ZP K G' Ca p x,⟨?_,as,G2,x,VA,d1,d2,d3,λH' G' Ca p b hn hg hp=>⟨Ca,G',rfl,d4 H' G' b,hn,hg,hp⟩⟩,λDF b Cb p H' s' I' F' ⟨Ca,G',z,b1,b2,b3,b4⟩=>?_⟩
   ·have:=d1.len
    rw[nA] at this
    lia
   ·cases z;exact k DF Y H' G' s' b Cb p (CA.s r b1) I' F' b2 b3 b4
  ·cases e0
 ·exact wu e0
theorem Rg:∀n:Nat,bZ K P C n
 | 0=>λ_ _ _ _ h=>absurd h (ZU _)
 |n+1=>λ_ _ xo e h=>Xv (Rg n) xo e h
def qS(xo:SA X K P C Z)(e:xA):PE X e (EU X K P C (cE Z e)):=Rg _ _ _ xo e (zI _)
def jw(xo:SA X K P C Z)(h:yA=[]\/∃c1,yA=[c1]):Tr X K P C (.ListComp JA [⟨tg,iter,yA,0⟩] sc pos) (cE Z (.ListComp JA [⟨tg,iter,yA,0⟩] sc pos)):=by
 intro W x i p pos _ _ _ _ aA s Y H D I ⟨U,G,x0,U',r,e0,k⟩;rcases h with rfl | ⟨c1,rfl⟩
 ·exact(FX (show tD (bI Z sc tg iter (cE Z iter) (VM Z iter) [] (cE (Z.inner sc) JA))=true from mQ (P:=P) (C:=C) e0)).elim
 ·exact(FX (show tD (bI Z sc tg iter (cE Z iter) (VM Z iter) [cE (Z.inner sc) c1] (cE (Z.inner sc) JA))=true from mQ (P:=P) (C:=C) e0)).elim
end
section
variable{X:Cx}{K:fA}{P:ZA}{C:Calls}{W:Nat}{Z:CC}{aA DF:List (gA×DB)}{Y:St}{H G:Hp}{s:EA}
abbrev Cx.re(X:Cx)(E:eA->EA->Prop)(pn:List (gA×DB)):Cx:={ X with xe:=E,pn:=pn }
abbrev RE(X:Cx)(b:List XA)(t:Cx->TS):Prop:=∀E pn,eL (model X.prog X.w) X.A X.env E->HC (Cx.re X E pn) b (t (Cx.re X E pn))
abbrev Cx.ma(X:Cx)(v:eA):Cx:={ X with A:=X.A.mark (some v),calm:=false,xe:=λ_ _=>False }
def mNa{E:eA->EA->Prop}(o:X.Ok):(Cx.re X E pn).Ok :=
 ⟨o.mod,o.kind,o.glob,o.vB,o.above,o.inj,o.has,o.WM,o.hd,o.frames,o.NH,o.BS,o.bs,o.qJ,o.lN,o.rO,o.BG,o.tK⟩
def pNa{E:eA->EA->Prop}(o:(Cx.re X E pn).Ok):X.Ok :=
 ⟨o.mod,o.kind,o.glob,o.vB,o.above,o.inj,o.has,o.WM,o.hd,o.frames,o.NH,o.BS,o.bs,o.qJ,o.lN,o.rO,o.BG,o.tK⟩
def cNa(o:X.Ok):(Cx.ma X v).Ok :=
 ⟨o.mod,o.kind,o.glob,o.vB,o.above,o.inj,o.has,o.WM,(λz=>nomatch z),o.frames,o.NH,o.BS,o.bs,o.qJ,o.lN,o.rO,o.BG,o.tK⟩
def Wg{E:eA->EA->Prop}(I:dA X aA Y H s):dA (Cx.re X E (X.pn++aA)) [] Y H s :=
 ⟨mNa I.ok,I.os,I.bare,I.base,I.loc,I.cell,I.free,I.FH,λp hp=>I.pin p (by simpa using hp),I.KA,I.len⟩
def Xg{E:eA->EA->Prop}(I:dA (Cx.re X E (X.pn++aA)) DF Y H s):dA X aA Y H s :=
 ⟨pNa I.ok,I.os,I.bare,I.base,I.loc,I.cell,I.free,I.FH,λp hp=>I.pin p (tG _ hp),I.KA,I.len⟩
def J6(I:dA X aA Y H s):dA (Cx.ma X v) aA Y H s :=
 ⟨cNa I.ok,I.os,I.bare,I.base,I.loc,I.cell,I.free,I.FH,I.pin,I.KA,I.len⟩
def zCa{E:eA->EA->Prop}(o:X.Ok)(I:dA (Cx.ma (Cx.re X E (X.pn++aA)) v) DF Y H s):dA X aA Y H s :=
 ⟨o,I.os,I.bare,I.base,I.loc,I.cell,I.free,I.FH,λp hp=>I.pin p (tG _ hp),I.KA,I.len⟩
theorem SA.re{E:eA->EA->Prop}(xo:SA X K P C Z):SA (Cx.re X E pn) K P C Z :=
 SA.of xo.gD xo.oI xo.nm xo.nd xo.calm xo.hh xo.hu xo.c xo.vB (λx f h=>⟨(xo.fn x f h).ex⟩) (λx ns h=>⟨(xo.cls x ns h).ex⟩) (λm tb c f h1 h2=>⟨(xo.yF m tb c f h1 h2).ex⟩) xo.rm xo.sub xo.bJ ⟨xo.exc,λx h=>⟨(xo.sJ x h).ex⟩⟩ xo.DA (λx f h=>⟨(xo.fnX x f h).ex⟩) xo.tp
def b_(xo:SA X K P C Z)(hx:Z.vQ x=.DA cs)(hc:c∈cs)(fD:WC K TB c=some (some (.ref Ca))):∃D0,X.mg x=some (.ref D0)/\(∃i,pL K D0 i)/\SJ K Ca (.ref D0)=some true/\Gl X x/\(x==("__debug__":bA))=false:=by
 unfold CC.vQ at hx;split at hx
 ·cases hx
 ·rename_i Pf;split at hx
  ·rename_i hig;obtain⟨D0,d1,d2,d3⟩:=(xo.DA x cs hx).ex;refine⟨D0,d1,d2,d3 _ hc Ca fD, ?_, ?_⟩
   ·unfold Gl bb;rw[xo.nm];exact GC hig
   ·simp only[yL,xY,Ba] at Pf;exact Pf.1.1
  ·cases hx
abbrev Z7:Ends:={ nx:=λ_ _=>False,rt:=λ_ _=>False }
def SP.no{f:Flow}(h:SP X aA Z7 f s):False:=by
 cases f with
 |ret u=>obtain⟨_,_,_,_,_,z⟩:=h;exact z
 |_=>obtain⟨_,_,_,z⟩:=h;exact z
def SP.un{E:eA->EA->Prop}{D:Ends}{f:Flow}(h:SP (Cx.re X E (X.pn++aA)) DF D f s):SP X aA D f s:=by
 cases f with
 |ret u=>obtain⟨v,Y',H',J,z⟩:=h;exact⟨v,Y',H',Xg J,z⟩
 |_=>obtain⟨Y',H',J,z⟩:=h;exact⟨Y',H',Xg J,z⟩
def gZa{t:TS}{D:Ends}{body:List XA}{h0:DP}{pos:XB}(hb:RE X body λ_=>t)(I:dA X aA Y H s)(h:t D Y H) :
  sA (model X.prog X.w) X.A (exec (.Try body [h0] [] [] pos) X.env) (SP X aA D) X.xe s :=
 wpAny_Try_except (QH (hb _ (X.pn++aA) Lq [] s Y H D (Wg I) h) (λf s1 h1=>by
  have h1:=SP.un h1
  cases f with
  |next=>exact WU h1
  |_=>exact h1) λ_ _ z=>z)
theorem HI.c{h:JB}{a c:gA}{p:PX}{fl:eA}(F:HI X aA H h a c p fl):∃oe vs a0,h.get? a=some oe/\(oe.cls=.ref c/\oe.dict=p.1)/\oe.data=.fields vs/\uL vs a0 p.2:=by
 obtain⟨oe,vs,a0,T,oT,ts,he,zQ,hd,h0,_⟩:=F;exact⟨oe,vs,a0,he,zQ,hd,h0⟩
theorem eZa(xo:SA X K P C Z)(NH:X.stack=X.env::X.outer)(fr:X.env.frame=some X.env.locals){body su:List XA}{cb:List S}{x:bA}{cs:List bA}{x0:Exc}{U U1:Env}{np hp pos:XB}{D:Ends}{nm:Option bA}
  (yQ:RE X body λX=>uN X K P C W cb) (hx:Z.vQ x=.DA cs) (I:dA X aA Y H s) (r:FA K U Y H G) (q:wD P C W cb U=some (x0,U1)) (hc:cs.contains x0.cls=true)
  (h:∀{E DF Y' H' G' s' a Ca p},YB K U Y H G U1 Y' H' G'->dA (Cx.re X E (X.pn++aA)) DF Y' H' s'->FD (Cx.re X E (X.pn++aA)) DF H' a->HI (Cx.re X E (X.pn++aA)) DF H' s'.heap a Ca p .none ->
   WC K TB x0.cls=some (some (.ref Ca))->SN K Ca->ZP K G' Ca p x0->xM (model X.prog X.w) (X.A.mark (some (.ref a))) (.handlers (.ref a) [.ExceptHandler none nm su hp] X.env) (λr s₂=>match r with
    |.ok f=>(match nm with
     |none=>SP X aA D f s₂
     |some n=>sA (model X.prog X.w) X.A (do bindName X.env n .none;unbindBehindTheSuite X.env n hp) (λ_ s₃=>SP X aA D f s₃) X.xe s₂)
    |.error x=>cameBackBy (model X.prog X.w) X.A X.env X.xe x s₂) s') :
  sA (model X.prog X.w) X.A (exec (.Try body [.ExceptHandler (some (.Name x np)) nm su hp] [] [] pos) X.env) (SP X aA D) X.xe s:=by
 refine wpAny_Try_except (QH (yQ _ (X.pn++aA) Lq [] s Y H Z7 (Wg I) ⟨U,G,x0,U1,r,q,λDF Y' H' G' s' a Ca pp ZN I' F fD hg JQ=>?_⟩) (λf s1 h1=>(SP.no h1).elim) λ_ _ z=>z);refine tj (X:=Cx.re X _ (X.pn++aA)) I' NH fr F λh1 I1 F1=>T2 (X:=Cx.re X _ (X.pn++aA)) I1 F.1 F1 λh2 I2 F2=>?_
 obtain⟨D0,d1,d2,d3,d4,d5⟩:=b_ xo hx (c:=x0.cls) (by simpa using hc) fD;have hK:=xo.gD;subst hK;obtain⟨oe,_,_,he,zQ,_⟩:=F2.c;refine wpAny_handleBy_cons (codeAny_handlers_test (VQ (X:=Cx.ma (Cx.re X _ (X.pn++aA)) (.ref a)) (J6 I2) d4 d1 ?_ d5)) (by intro z;cases z);exact Yz (J6 (v:=.ref a) I2).jE hg.q.choose_spec d2.choose_spec d3 he zQ.1 (h ZN I2 F.1 F2 fD hg JQ)
def fZa(xo:SA X K P C Z)(NH:X.stack=X.env::X.outer)(fr:X.env.frame=some X.env.locals){body su:List XA}{cb:List S}{x:bA}{cs:List bA}{x0:Exc}{U U1:Env}{np hp pos:XB}{D:Ends}{st:XA}
  (yQ:RE X body λX=>uN X K P C W cb) (hx:Z.vQ x=.DA cs) (I:dA X aA Y H s) (r:FA K U Y H G) (q:wD P C W cb U=some (x0,U1)) (hc:cs.contains x0.cls=true)
  (h:∀{E DF Y' H' G' s' a Ca p},YB K U Y H G U1 Y' H' G'->dA (Cx.re X E (X.pn++aA)) DF Y' H' s'->FD (Cx.re X E (X.pn++aA)) DF H' a->HI (Cx.re X E (X.pn++aA)) DF H' s'.heap a Ca p .none->ZP K G' Ca p x0 ->
   sA (model X.prog X.w) (X.A.mark (some (.ref a))) (execs (st::su) X.env) (SP X aA D) (notedBy (model X.prog X.w) (X.A.mark (some (.ref a))) X.env (cameBackBy (model X.prog X.w) X.A X.env X.xe)) s') :
  sA (model X.prog X.w) X.A (exec (.Try body [.ExceptHandler (some (.Name x np)) none (st::su) hp] [] [] pos) X.env) (SP X aA D) X.xe s :=
 eZa xo NH fr yQ hx I r q hc λZN I2 fa F2 _ _ JQ=>codeAny_handlers_suite (T2 I2 fa F2 λh3 I3 F3=>h ZN I3 fa F3 JQ)
def aTa
  (hb:RE X body λ_=>lH K P C W cb):PS X (.Try body hs o f pos) (tS K P C W (XX cb hs o f)):=wC
def xRa{st:XA}(h:∀U,UE P C W c U=none):PS X st (cF X K P C W c):=λaA s Y H D I hz=>by obtain⟨U,G,x,U',r,e,k⟩:=hz;rw[h] at e;cases e
def yRa:PS X (.Try body hs o f pos) (cF X K P C W (XX cb hs o f)):=by
 unfold XX
 (repeat' split)<;>exact xRa λU=>rfl
def bTa
  (hb:RE X body λ_=>lH K P C W cb):PS X (.Try body hs [] [] pos) (tS K P C W (O9 Z cb hs)):=aTa hb
def zRa(xo:SA X K P C Z)(NH:X.stack=X.env::X.outer)(fr:X.env.frame=some X.env.locals)
  (yQ:RE X body λX=>uN X K P C W cb):PS X (.Try body hs [] [] pos) (cF X K P C W (O9 Z cb hs)):=yRa
def zSa(xo:SA X K P C Z)(NH:X.stack=X.env::X.outer)(fr:X.env.frame=some X.env.locals)
  (hb:RE X body λ_=>lH K P C W cb) (yQ:RE X body λX=>uN X K P C W cb)
  (hx:Z.vQ x=.DA cs) :
  PS X (.Try body [.ExceptHandler (some (.Name x np)) none [.Return (some (.Constant .none k1 p1)) p2] hp] [] [] pos) (tS K P C W (.xR cb cs)):=by
 intro aA s Y H D I ⟨U,G,fl,U',r,e,k⟩
 have h0:DA P C W cb U=some (fl,U')\/XM cs (wD P C W cb U)=some (fl,U'):=by
  replace e:(match DA P C W cb U with | some (.nx,U1)=>some (.nx,U1) | some (.rt v,U1)=>some (.rt v,U1) | _=>XM cs (wD P C W cb U))=some (fl,U'):=e;split at e
  ·rename_i q;cases e;exact .inl q
  ·rename_i q;cases e;exact .inl q
  ·exact .inr e
 rcases h0 with q | e
 ·exact gZa hb I ⟨U,G,fl,U',r,q,k⟩
 ·unfold XM at e;split at e
  ·cases e
  ·rename_i x0 U1 q;split at e
   ·rename_i hc;cases e;refine fZa xo NH fr yQ hx I r q hc λ{E DF Y' H' G' s' a Ca p} ZN I3 fa F3 JQ=>?_
    refine QH (eTa (lR (X:=Cx.ma (Cx.re X _ (X.pn++aA)) (.ref a)) (pos:=p2) (Vj (j:=k1) (pos:=p1))) DF _ _ _ { Z7 with rt:=λv H6=>v=.iA/\H6=H' } (J6 (v:=.ref a) I3) ⟨rfl,rfl⟩) (λf s6 h6=>?_) λ_ _ z=>z.elim
    cases f with
    |ret u =>
     obtain⟨v,Y6,H6,J,w,z⟩:=h6;obtain⟨rfl,rfl⟩:=z;exact⟨_,_,_,zCa I.ok J,w,k _ _ _ _ ZN (by show jA K G' .iA _;simp[jA])⟩
    |_=>obtain⟨_,_,_,z⟩:=h6;exact z.elim
   ·cases e
def wSa(xo:SA X K P C Z)(hi:Z.slot x=some i)(n:YD e=true)(n2:eR k=true):PS X (.Assign [.Subscript (.Name x p) k p2] e pos) (tS K P C W (yU i k (cE Z k) (cE Z e))):=by
 have h:PS X (.Assign [.Subscript (.Name x p) k p2] e pos) (tS K P C W (.set i (cE Z k) (cE Z e))):=xSa xo hi (yE xo _) (yE xo _) n λv=>by cases k<;>first | rfl | cases n2
 exact h
def ySa(xo:SA X K P C Z):PS X (.Assign [.Tuple ts k p] e pos) (tS K P C W (BU Z ts e (cE Z e))):=by
 exact wC
end
section
variable{K:fA}
def NX(xo:SA X K P C Z)(h:Z.bF x=some i):X.N[i]?=some x/\L2.Loc X.env.scope x/\Z.OO x=true:=by
 unfold CC.bF at h;split at h
 ·rename_i hl
  have hN:X.N[i]?=some x:=by
   unfold CC.slot at h;split at h
   ·cases h
   ·split at h
    ·rw[xo.oI];exact MW h
    ·cases h
  refine⟨hN, ?_,hl⟩;unfold L2.Loc;rw[xo.nm];unfold CC.OO at hl;rw[rM,aB] at hl;rcases hl with hl | hl
  ·exact .inl (GC hl)
  ·exact .inr (GC hl.2)
 ·cases h
def cSa(xo:SA X K P C Z)(WB:XH X Z){x:bA}{i:Nat}{e:xA}{c:E}{p pos:XB}(hi:Z.bF x=some i)(h:QP X K P C e c):PS X (.Assign [.Name x p] e pos) (tS K P C W (.HA i c)):=by
 obtain⟨h1,h2,h3⟩:=NX xo hi;refine TS.pE (h x i p pos (by rw[xo.oI];exact xo.nd) h1 h2 (WB x h3)) λD Y H hz=>?_
 obtain⟨U,G,fl,U',r,e,k⟩:=hz;obtain⟨v,U1,e1,e2⟩:=MI e k.ne;unfold dH at e2
 cases q:store i v U1 with
 |none=>rw[q] at e2;cases e2
 |some U2 =>
  rw[q] at e2;cases e2;exact⟨U,G,v,U1,r,e1,λx H' G' a hv=>k _ H' G' (CA.store r a q hv)⟩
def s_(xo:SA X K P C Z){tg it:xA}{k:kF}{cA:List E}(h:JS Z it=some (k,cA)):∃wi,(∀x,aK it X.env x=pure x)/\PI X tg it wi/\∀Y H (R:It->Hp->Prop),zH K P C k cA Y H R->wi Y H R:=by
 unfold JS at h;split at h
 ·rename_i x hx;split at h
  ·obtain⟨i,hi,h⟩:=zM.mp h;cases h;cases it<;>simp only[aAr,reduceCtorEq] at hx;cases hx;exact⟨_,iW rfl _,fk (l8 xo hi _).h,λY H R q=>Bi Y H R q⟩
  ·cases h
 ·split at h
  ·rename_i x hx;obtain⟨⟨f,p⟩,args,pos'⟩:=x;obtain rfl:=UW hx;dsimp only at h;split at h
   ·rename_i hc;rw[aB,aB] at hc;obtain⟨⟨hf,hl⟩,ns⟩:=hc;have hf:=GC hf;subst hf;split at h
    ·rename_i DJ;cases h;obtain⟨h1,h2,h3,h4⟩:=CC.CG xo DJ (λz=>nomatch z);obtain _ | ⟨a,_ | ⟨b,_ | ⟨c,_ | ⟨_,_⟩⟩⟩⟩:=args<;>simp at hl
     have qG:=ns;rw[xC,aB] at qG;exact⟨_,λ_=>rfl,vQa h1 (xo.vB _ h2) (iQ xo _ ns) (cD qG.1 _ _) (uI qG.2 _ _).1,λY H R q=>qUa Y H R q⟩
    ·cases h
   ·cases h
  ·cases h
def j5(xo:SA X K P C Z)(WB:XH X Z){tg it:xA}{one:Bool}{is:List Nat}{k0:kF}{cA:List xA}{Φ:List E->Prop}
  (ht:NG Z tg=some (one,is)) (hi:JK Z it=some (k0,cA)) (yK:TK k0 one=true) (iB:∀{wi:TI} {its':List E},(∀x,aK it X.env x=pure x)->PI X tg it wi->(∀Y H (R:It->Hp->Prop),zH K P C k0 its' Y H R->wi Y H R)->Φ its'):Φ (oB Z cA):=by
 have gen:∀e:xA,it=e->cR e=true->some (kF.of,[e])=some (k0,cA)->Φ (oB Z cA):=λe he hn hq=>by(subst he;cases hq;exact iB (iW hn _) (PI.or (C8 (yE xo it).h) (D8 (yE xo it).h)) λY H R q=>j8 xo.gD Y H R q)
 unfold JK at hi;split at hi
 ·rename_i x hx;obtain⟨⟨f,p⟩,args,pos'⟩:=x;obtain rfl:=UW hx;dsimp only at hi;split at hi
  ·rename_i hf;have hf:=GC hf;subst hf;split at hi
   ·rename_i DJ;split at hi
    ·rename_i hc;cases hi;rw[aB] at hc;obtain⟨h1,h2,h3,h4⟩:=CC.CG xo DJ (λz=>nomatch z);have hm:=xo.vB _ h2;obtain _ | ⟨a,_ | ⟨b,_ | ⟨_,_⟩⟩⟩:=cA
     ·simp at hc
     ·have ns:=hc.1;rw[xC,aB] at ns;exact iB (λ_=>rfl) (ik h1 hm (iQ xo [a] hc.1) (by rw[cD ns.1];rfl)) λY H R q=>rl Y H R q
     ·have ns:=hc.1;rw[xC,aB,xC,aB] at ns;exact iB (λ_=>rfl) (jk h1 hm (iQ xo [a,b] hc.1) (by rw[cD ns.1,cD ns.2.1];rfl) (by rw[cD ns.2.1];rfl)) λY H R q=>xl Y H R q
     ·simp at hc
    ·cases hi
   ·cases hi
  ·split at hi
   ·rename_i hf;have hf:=GC hf;subst hf;split at hi
    ·rename_i DJ;split at hi
     ·rename_i hc;cases hi;rw[aB] at hc;obtain⟨h1,h2,h3,h4⟩:=CC.CG xo DJ (λz=>nomatch z);have hm:=xo.vB _ h2;obtain _ | ⟨a,_ | ⟨_,_⟩⟩:=cA
      ·simp at hc
      ·have ns:=hc.1;rw[xC,aB] at ns;obtain⟨elts,kk,tp,rfl⟩:=G9 ht (by simpa[TK] using yK);exact iB (λ_=>rfl) (ek h1 hm (iQ xo [a] hc.1) (by rw[cD ns.1];rfl)) λY H R q=>B2 xo.gD Y H R q
      ·simp at hc
     ·cases hi
    ·cases hi
   ·exact gen _ rfl rfl hi
 ·split at hi
  ·rename_i x h0;obtain⟨f,a,x,c⟩:=x;obtain⟨p,jj,qq,kp,pos',rfl⟩:=zDa h0;clear h0;dsimp only at hi;split at hi
   ·rename_i hc;rw[aB,aB,aB] at hc;obtain⟨⟨⟨hf,hx⟩,ns⟩,h1⟩:=hc;have hf:=GC hf;have hx:=GC hx;have h1:=GC h1;subst hf hx h1;split at hi
    ·rename_i DJ;cases hi;obtain⟨h1,h2,h3,h4⟩:=CC.CG xo DJ (λz=>nomatch z);have hm:=xo.vB _ h2;obtain⟨elts,kk,tp,rfl⟩:=G9 ht (by simpa[TK] using yK);exact iB (λ_=>rfl) (uQa h1 hm (iQ xo [_] (by rw[xC,ns];rfl)) (by rw[cD ns];rfl)) λY H R q=>B2 xo.gD Y H R q
    ·cases hi
   ·cases hi
  ·split at hi
   ·exact gen _ rfl ‹_› hi
   ·cases hi
def B_(xo:SA X K P C Z)(WB:XH X Z){tg it:xA}{body:List XA}{one:Bool}{is:List Nat}{k0:kF}{cA:List xA}{Φ:List E->Prop}
  (ht:NG Z tg=some (one,is)) (hi:JK Z it=some (k0,cA)) (yK:TK k0 one=true) (iB:∀{wi:TI} {its':List E},(∀x,aK it X.env x=pure x)->PI X tg it wi->(∀Y H (R:It->Hp->Prop),zH K P C k0 its' Y H R->wi Y H R)->Φ its'):Φ (RQ Z it body (oB Z cA)):=by
 unfold RQ;split
 ·rename_i x hx;split
  ·rename_i i hs;split
   ·cases it<;>simp only[aAr,reduceCtorEq] at hx;cases hx
    have:k0=.of:=by(simp only[JK,QQ,VW,cR,if_true] at hi;cases hi;rfl)
    subst this;have h:=(l8 xo hs ‹XB›).h;exact iB (λ_=>rfl) (PI.or (C8 h) (D8 h)) λY H R q=>j8 xo.gD Y H R q
   ·exact j5 xo WB ht hi yK iB
  ·exact j5 xo WB ht hi yK iB
 ·exact j5 xo WB ht hi yK iB
theorem Le:∀{cs:List E} {ds:List D} {U U':Env},qF P C cs U=some (.ok ds,U')->ds.length=cs.length
 |[],_,_,_,h=>by simp only[qF] at h;cases h;rfl
 |c::cs,ds,U,U',h=>by(simp only[qF] at h;obtain⟨v,U1,_,h⟩:=xB h;obtain⟨DH,U2,h2,h⟩:=xB h;cases h;rw[kD,kD,Le h2])
theorem Pj(xo:SA X K P C Z):∀(n:Nat) (e:xA),sizeOf e<n->PE X e (EU X K P C (cE Z (fQ e)))
 | 0,_,h=>absurd h (ZU _)
 |n+1,e,h=>by
  cases e with
  |Subscript a i p =>
   show PE X _ (EU X K P C (cE Z (if eR i then fQ a else .Subscript a i p)));split
   ·exact TE.KD (Uj lEa (Pj xo n a (EB h)) (yE xo i).v (rk λlo hi q z=>by subst z;rename_i hn;cases hn)) λY H Q hz=>(by obtain⟨U,G,x,U',r,e0,k⟩:=hz;exact⟨U,G,x,U',r,e0,k⟩)
   ·exact qS xo _
  |_=>exact qS xo _
def dSa(xo:SA X K P C Z)(WB:XH X Z){x:bA}{i:Nat}{e:xA}{c:E}{p pos:XB}(hi:Z.bF x=some i)(h:NA X K P C e c):PS X (.AugAssign (.Name x p) .Add e pos) (tS K P C W (.aug i c)):=by
 obtain⟨h1,h2,h3⟩:=NX xo hi;refine TS.pE (yk (by rw[xo.oI];exact xo.nd) h1 h2 h.v fDa (WB x h3)) λD Y H hz=>?_
 obtain⟨U,G,fl,U',r,e0,k⟩:=hz;replace e0:aO i U[i]? (ev P C false c U)=_:=e0;unfold aO at e0;split at e0
 case h_2=>cases e0
 rename_i a b U1 q1 q2;unfold dH at e0
 cases q3:store i (.sh (.int (a+b))) U1 with
 |none=>rw[q3] at e0;cases e0
 |some U2 =>
  rw[q3] at e0;cases e0;obtain⟨v,hv,rv⟩:=r.sh i _ q1;subst rv;refine⟨.int a,hv,U,G,.sh (.int b),U1,r,q2,λy H1 G1 a1 hy=>?_⟩;have hy:y=.int b:=hy;subst hy;exact⟨a,b,rfl,rfl,k _ _ _ (CA.store r a1 q3 (by show jA K G1 (.int _) _;simp[jA]))⟩
def eSa(xo:SA X K P C Z)(WB:XH X Z){x:bA}{i:Nat}{e:xA}{c:E}{p pos:XB}(hi:Z.bF x=some i)(h:NA X K P C e c):PS X (.AugAssign (.Name x p) .Sub e pos) (tS K P C W (.aug i (.neg c))):=by
 obtain⟨h1,h2,h3⟩:=NX xo hi;refine TS.pE (yk (by rw[xo.oI];exact xo.nd) h1 h2 h.v gDa (WB x h3)) λD Y H hz=>?_
 obtain⟨U,G,fl,U',r,e0,k⟩:=hz;replace e0:aO i U[i]? (ev P C false (.neg c) U)=_:=e0;unfold aO at e0;split at e0
 case h_2=>cases e0
 rename_i a b U1 q1 q2;unfold dH at e0
 cases q3:store i (.sh (.int (a+b))) U1 with
 |none=>rw[q3] at e0;cases e0
 |some U2 =>
  rw[q3] at e0;cases e0;obtain⟨v,hv,rv⟩:=r.sh i _ q1;subst rv;replace q2:(ev P C false c U).bind _=_:=q2;obtain⟨w,U3,e3,e4⟩:=xB q2;split at e4
  case h_2=>cases e4
  rename_i j hj;cases e4;refine⟨.int a,hv,U,G,w,U1,r,e3,λy H1 G1 a1 hy=>?_⟩
  obtain rfl:y=.int j:=by
   cases w with
   |sh d=>cases hj;exact hy
   |ow d=>cases hj;obtain⟨_,_,_,o,_⟩:=hy;exact o.elim
   |od d=>cases hj;obtain⟨_,_,_,o,_⟩:=hy;exact o.elim
  exact⟨a,j,rfl,rfl,by show D.nx (Y.set i (some (.int (a-j)))) H1;rw[Bq];exact k _ _ _ (CA.store r a1 q3 (by show jA K G1 (.int _) _;simp[jA]))⟩
structure RM(X:Cx)(K:fA)(P:ZA)(C:Calls)(Z:CC):Prop where
 po:eL (model X.prog X.w) X.A X.env X.xe
 xo:SA X K P C Z
 WB:XH X Z
 sk:Z.top=true->X.stack=X.env::X.outer/\X.env.frame=some X.env.locals
def WR(K:fA)(P:ZA)(C:Calls)(W:Nat)(Z:CC)(n:Nat):Prop:=∀X:Cx,RM X K P C Z->∀WD:List XA,sizeOf WD<n ->
 HC X WD (lH K P C W (rD Z WD))/\HC X WD (uN X K P C W (rD Z WD))
theorem RM.re{E:eA->EA->Prop}(c:RM X K P C Z)(po:eL (model X.prog X.w) X.A X.env E):RM (Cx.re X E pn) K P C Z:=⟨po,c.xo.re,c.WB,c.sk⟩
def Ad(ih:WR K P C W Z n)(cx:RM X K P C Z)(st:XA)(hZ:sizeOf st<n+1):PS X st (tS K P C W (cS Z st)):=by
 obtain⟨po,xo,WB,sk⟩:=id cx
 cases st with
 |Pass _=>exact qSa
 |Break _=>exact gSa
 |Continue _=>exact hSa
 |Return e rp0 =>
  cases e with
  |some e =>
   have hR:PS X (.Return (some e) rp0) (tS K P C W (qU e (cE Z e))):=uSa (yE xo e);show PS X _ (tS K P C W (pU Z e (qU e (cE Z e))));unfold pU;split
   ·refine TS.pE (lR (yE xo e).v) λD Y H hz=>?_
    obtain⟨U,G,fl,U',r,e0,k⟩:=hz;obtain⟨v,U1,e1,e2⟩:=MI e0 k.ne;cases e2;exact⟨U,G,v,U',r,e1,λx H' G' a hv=>k x Y H' G' (CA.s r a) (hv.YI λa z=>.inr z)⟩
   ·exact hR
  |none=>exact tSa
 |Expr e _ =>
  show PS X _ (tS K P C W (if YD e then .expr (cE Z e) else .oA));split
  ·exact kSa (yE xo _) ‹_›
  ·exact wC
 |If c a b _=>exact nSa (yE xo _) (ih _ cx a (EB hZ)).1 (ih _ cx b (EB hZ)).1
 |While c b o _ =>
  cases o with
  |nil=>exact i0a po (yE xo _) (ih _ cx b (EB hZ)).1
  |cons _ _=>exact wC
 |For tg it b o l5 =>
  cases o with
  |nil =>
   have hF:PS X (.For tg it b [] l5) (tS K P C W (match NG Z tg,JK Z it with
    |some (one,is),some (k,cA)=>if TK k one then .for is one k (RQ Z it b (oB Z cA)) (rD Z b) else .oA
    |_,_=>.oA)):=by
    cases h1:NG Z tg with
    |none=>exact wC
    |some t =>
     cases h2:JK Z it with
     |none=>exact wC
     |some u =>
      show PS X _ (tS K P C W (if TK u.1 t.1 then .for t.2 t.1 u.1 (RQ Z it b (oB Z u.2)) (rD Z b) else .oA));split
      ·exact B_ xo WB h1 h2 ‹_› (Φ:=λits'=>PS X (.For tg it b [] _) (tS K P C W (.for t.2 t.1 u.1 its' (rD Z b)))) λhs hi hw=>ff po xo (J9 xo WB h1) (ih _ cx b (EB hZ)).1 hs hi hw
      ·exact wC
   show PS X _ (tS K P C W (LS (JS Z it) (NG Z tg) (rD Z b) _));unfold LS;split
   ·rename_i u hu;obtain⟨wi,h1,h2,h3⟩:=s_ xo (tg:=tg) hu;split
    ·exact ff po xo (J9 xo WB ‹_›) (ih _ cx b (EB hZ)).1 h1 h2 h3
    ·exact wC
   ·exact hF
  |cons _ _=>exact wC
 |Assign ts e _ =>
  obtain _ | ⟨t,_ | ⟨_,_⟩⟩:=ts
  ·exact wC
  ·cases t with
   |Name x p =>
    show PS X _ (tS K P C W (match Z.bF x with | some i=>if YD e||DT e then .HA i (cE Z e) else .oA | none=>.oA));split
    ·split
     ·rename_i hc;rw[rM] at hc;rcases hc with hc | hc
      ·exact aSa xo WB ‹_› (yE xo _) hc
      ·exact cSa xo WB ‹_› (zLa xo _ hc)
     ·exact wC
    ·exact wC
   |Tuple ts _ _ =>
    show PS X _ (tS K P C W (match UK Z ts with | some is=>if YD e&&bU e then .dQ is (cE Z e) else .oA | none=>BU Z ts e (cE Z e)));split
    ·split
     ·rename_i h;rw[aB] at h;exact bSa xo WB ‹_› (yE xo _) h.1 h.2
     ·exact wC
    ·exact ySa xo
   |Subscript a k _ =>
    cases a with
    |Name x p =>
     show PS X _ (tS K P C W (match Z.slot x with | some i=>if YD e&&eR k then yU i k (cE Z k) (cE Z e) else .oA | none=>.oA));split
     ·split
      ·rename_i h;rw[aB] at h;exact wSa xo ‹_› h.1 h.2
      ·exact wC
     ·exact wC
    |_=>exact wC
   |_=>exact wC
  ·cases t with
   |Subscript a _ _=>cases a<;>exact wC
   |_=>exact wC
 |AugAssign t op e _ =>
  cases t with
  |Name x p =>
   cases op with
   |Add =>
    show PS X _ (tS K P C W (match Z.bF x with | some i=>if YD e then .aug i (cE Z e) else .oA | none=>.oA));split
    ·split
     ·exact dSa xo WB ‹_› (yE xo _)
     ·exact wC
    ·exact wC
   |Sub =>
    show PS X _ (tS K P C W (match Z.bF x with | some i=>if YD e then .aug i (.neg (cE Z e)) else .oA | none=>.oA));split
    ·split
     ·exact eSa xo WB ‹_› (yE xo _)
     ·exact wC
    ·exact wC
   |_=>exact wC
  |_=>exact wC
 |Raise e c _ =>
  cases e with
  |none=>exact wC
  |some e =>
   cases c with
   |none =>
    show PS X _ (tS K P C W (uU Z e));unfold uU HX;split
    ·split
     ·split
      ·exact F8 λU=>rfl
      ·exact F8 λU=>rfl
      ·exact wC
     ·exact wC
    ·exact wC
   |some _=>exact wC
 |Try body hs o f _ =>
  show PS X _ (tS K P C W (GU Z (rD Z body) hs o f));unfold GU;split
  ·rename_i EO;rw[aB] at EO;obtain rfl:=yY.mp EO.1;obtain rfl:=yY.mp EO.2;split
   ·rename_i x n bd hh;obtain⟨np,hp,rfl⟩:=pBa hh;split
    ·rename_i hc;rw[aB] at hc;obtain⟨h2,h3⟩:=hc;have h2:=GC h2;obtain⟨s1,s2⟩:=sk h3;split
     ·exact wC
     ·split
      ·exact wC
      ·exact wC
    ·exact wC
   ·split
    ·rename_i h3;obtain⟨s1,s2⟩:=sk h3;unfold N9;split
     ·rename_i x Vl hh;obtain⟨np,k,p1,p2,hp,rfl⟩:=oBa hh;split
      ·rename_i cs e1;exact zSa xo s1 s2 (λE pn aP=>(ih _ (cx.re aP) body (EB hZ)).1) (λE pn aP=>(ih _ (cx.re aP) body (EB hZ)).2) e1
      ·exact wC
     ·exact bTa λE pn aP=>(ih _ (cx.re aP) body (EB hZ)).1
    ·exact wC
  ·exact wC
 |_=>exact wC
def gw{n:Nat}(ih:WR K P C W Z n){X:Cx}(cx:RM X K P C Z)(WD:List XA)(hZ:sizeOf WD<n+1):HC X WD (lH K P C W (rD Z WD)):=by
 obtain⟨po,xo,WB,sk⟩:=id cx
 cases WD with
 |nil=>exact dTa
 |cons s r=>exact cTa (Ad ih cx s (tM (by simp;lia) hZ)) (ih _ cx r (EB hZ)).1
theorem Hz{c:E}{a b:List S}{U:Env}:UE P C W (.yA c a b) U=(match ev P C true c U with | some (.ok (.sh (.bl true)),U1)=>wD P C W a U1 | some (.ok (.sh (.bl false)),U1)=>wD P C W b U1 | _=>none):=rfl
theorem Zz{s:S}{r:List S}{U:Env}:wD P C W (s::r) U=(match ex P C W s U with | some (.nx,U1)=>wD P C W r U1 | _=>UE P C W s U):=rfl
theorem Lz{c:bA}{es:List E}{U:Env}:UE P C W (.RK c es) U=(match qF P C es U with | some (.ok _,U1)=>some (⟨c,none⟩,U1) | _=>none):=rfl
def bw(ih:WR K P C W Z n)(cx:RM X K P C Z)(st:XA)(hZ:sizeOf st<n+1):PS X st (cF X K P C W (cS Z st)):=by
 obtain⟨po,xo,WB,sk⟩:=id cx;have no:∀{st:XA} (c:S),(∀U,UE P C W c U=none)->PS X st (cF X K P C W c):=λc h aA s Y H D I hz=>by obtain⟨U,G,x,U',r,e,k⟩:=hz;rw[h] at e;cases e
 have oA:∀{st:XA},PS X st (cF X K P C W .oA):=no .oA λU=>rfl
 cases st with
 |Pass _=>exact no .pass λU=>rfl
 |Break _=>exact no .brk λU=>rfl
 |Continue _=>exact no .cnt λU=>rfl
 |Return e zUa =>
  cases e with
  |none=>exact no .DX λU=>rfl
  |some e =>
   have hR:PS X (.Return (some e) zUa) (cF X K P C W (qU e (cE Z e))):=by(exact TS.pE (lR (qS xo e)) λD Y H hz=>(by obtain⟨U,G,x,U',r,e0,k⟩:=hz;exact⟨U,G,x,U',r,(show UE P C W (.ret (cE Z e)) U=some (x,U') from e0),k⟩))
   show PS X _ (cF X K P C W (pU Z e (qU e (cE Z e))));unfold pU;split
   ·exact TS.pE (lR (Pj xo _ e (zI _))) λD Y H hz=>(by obtain⟨U,G,x,U',r,e0,k⟩:=hz;exact⟨U,G,x,U',r,(show UE P C W (.cP (cE Z (fQ e)) (cE Z e)) U=some (x,U') from e0),k⟩)
   ·exact hR
 |Expr e _ =>
  show PS X _ (cF X K P C W (if YD e then .expr (cE Z e) else .oA));split
  ·exact TS.pE (zk (qS xo e) (SX ‹_› _ _ _)) λD Y H hz=>(by obtain⟨U,G,x,U',r,e0,k⟩:=hz;exact⟨U,G,x,U',r,by simpa only[UE] using e0,k⟩)
  ·exact oA
 |If c a b _ =>
  refine TS.pE (Ak (yE xo c).t (ih _ cx a (EB hZ)).2 (ih _ cx b (EB hZ)).2) λD Y H hz=>?_
  obtain⟨U,G,x,U',r,e0,k⟩:=hz;replace e0:UE P C W (.yA (cE Z c) (rD Z a) (rD Z b)) U=some (x,U'):=e0;replace e0:=(Hz (a:=rD Z a)).symm.trans e0;split at e0
  ·rename_i U1 q;exact⟨U,G,true,U1,r,q,λH1 G1 a1=>⟨U1,G1,x,U',a1.pA,e0,k.pre (CA.s r a1)⟩⟩
  ·rename_i U1 q;exact⟨U,G,false,U1,r,q,λH1 G1 a1=>⟨U1,G1,x,U',a1.pA,e0,k.pre (CA.s r a1)⟩⟩
  ·cases e0
 |While c b o _ =>
  cases o with
  |nil=>exact h0a po (yE xo c) (ih _ cx b (EB hZ)).1 (ih _ cx b (EB hZ)).2
  |cons _ _=>exact oA
 |For tg it b o l5 =>
  cases o with
  |nil =>
   have hF:PS X (.For tg it b [] l5) (cF X K P C W (match NG Z tg,JK Z it with
    |some (one,is),some (k,cA)=>if TK k one then .for is one k (RQ Z it b (oB Z cA)) (rD Z b) else .oA
    |_,_=>.oA)):=by
    split
    ·split
     ·exact no (.for _ _ _ _ _) λU=>rfl
     ·exact oA
    ·exact oA
   show PS X _ (cF X K P C W (LS (JS Z it) (NG Z tg) (rD Z b) _));unfold LS;split
   ·rename_i u hu;split
    ·exact no (.for _ _ _ _ _) λU=>rfl
    ·exact oA
   ·exact hF
  |cons _ _=>exact oA
 |Assign ts e _ =>
  obtain _ | ⟨t,_ | ⟨_,_⟩⟩:=ts
  ·exact oA
  ·cases t with
   |Name x p =>
    show PS X _ (cF X K P C W (match Z.bF x with | some i=>if YD e||DT e then .HA i (cE Z e) else .oA | none=>.oA));split
    ·rename_i i hi;split
     ·intro aA s Y H D I ⟨U,G,x0,U',r,e0,k⟩;simp only[UE] at e0;obtain⟨h1,h2,h3⟩:=NX xo hi;rcases Kd (mQ e0) with ⟨f,p',a,r',pos',g,rfl,_⟩ | ⟨JA,tg,iter,yA,sc,pos',rfl,hq⟩
      case inr=>exact jw xo hq W x i p _ (by rw[xo.oI];exact xo.nd) h1 h2 (WB x h3) aA s Y H D I ⟨U,G,x0,U',r,e0,k⟩
      exact vSa (by rw[xo.oI];exact xo.nd) h1 h2 (qS xo _) (SX rfl _ _ _) (WB x h3) aA s Y H D I ⟨U,G,x0,U',r,e0,k⟩
     ·exact oA
    ·exact oA
   |Tuple ts _ _ =>
    show PS X _ (cF X K P C W (match UK Z ts with | some is=>if YD e&&bU e then .dQ is (cE Z e) else .oA | none=>BU Z ts e (cE Z e)));split
    ·split
     ·exact no (.dQ _ _) λU=>rfl
     ·exact oA
    ·unfold BU
     (repeat' split)<;>first | exact oA | exact no (.swp _ _ _ _) λU=>rfl
   |Subscript a k _ =>
    cases a with
    |Name x p =>
     show PS X _ (cF X K P C W (match Z.slot x with | some i=>if YD e&&eR k then yU i k (cE Z k) (cE Z e) else .oA | none=>.oA));split
     ·split
      ·unfold yU;(repeat' split)<;>first | exact no (.set _ _ _) λU=>rfl | exact no (.r3a _ _ _) λU=>rfl
      ·exact oA
     ·exact oA
    |_=>exact oA
   |_=>exact oA
  ·cases t with
   |Subscript a _ _=>cases a<;>exact oA
   |_=>exact oA
 |AugAssign t op e _ =>
  cases t with
  |Name x p =>
   cases op with
   |Add =>
    show PS X _ (cF X K P C W (match Z.bF x with | some i=>if YD e then .aug i (cE Z e) else .oA | none=>.oA));split
    ·split
     ·exact no (.aug _ _) λU=>rfl
     ·exact oA
    ·exact oA
   |Sub =>
    show PS X _ (cF X K P C W (match Z.bF x with | some i=>if YD e then .aug i (.neg (cE Z e)) else .oA | none=>.oA));split
    ·split
     ·exact no (.aug _ _) λU=>rfl
     ·exact oA
    ·exact oA
   |_=>exact oA
  |_=>exact oA
 |Raise e c _ =>
  cases e with
  |none=>exact oA
  |some e =>
   cases c with
   |none =>
    show PS X _ (cF X K P C W (uU Z e));unfold uU;split
    ·rename_i x0 C6;obtain⟨⟨x,np⟩,args,mC⟩:=x0;obtain rfl:=UW C6;show PS X _ (cF X K P C W (HX Z x args));unfold HX;split
     ·rename_i hc;split
      ·rename_i hg;rw[aB] at hc;obtain⟨h1,h2,h3,h4⟩:=CC.CG xo hg (λz=>nomatch z);obtain⟨Ca,c1,c2,c3,c4⟩:=(xo.exc x h2).ex;have hK:=xo.gD;obtain _ | ⟨a,aAn⟩:=args
       ·simp at hc
       ·have ns:=hc.1;rw[xC,aB] at ns;refine TS.pE (rSa xo.hh h1 c2 (by rw[hK];exact c4) (Zv xo (a::aAn) hc.1) h3 (cD ns.1 _ _) (uI ns.2 _ _).1) λD Y H hz=>?_
        obtain⟨U,G,x0,U',r,e0,k⟩:=hz;replace e0:=(Lz (P:=P) (C:=C) (W:=W)).symm.trans e0;split at e0
        ·rename_i ds U1 q;cases e0;refine⟨U,G,ds,_,r,q,λxs H1 G1 a1 rx=>⟨?_,λaA b s' I' F=>k aA Y H1 G1 s' b Ca (none,true) (CA.s r a1) I' F c1 c3 (qPa trivial)⟩⟩;rw[rx.len,Le q,B0,IP]
         have:=hc.2
         simp at this;simp
         lia
        ·cases e0
      ·exact no (.S8 _ _) λU=>rfl
      ·exact oA
     ·exact oA
    ·exact oA
   |some _=>exact oA
 |Try body hs o f _ =>
  show PS X _ (cF X K P C W (GU Z (rD Z body) hs o f));unfold GU vo wo;split
  ·rename_i EO;rw[aB] at EO;obtain rfl:=yY.mp EO.1;obtain rfl:=yY.mp EO.2;split
   ·split
    ·split
     ·exact oA
     ·split
      ·exact oA
      ·exact oA
    ·exact oA
   ·split
    ·obtain⟨s1,s2⟩:=sk ‹_›;unfold N9;split
     ·split
      ·exact no (.xR _ _) λU=>rfl
      ·exact oA
     ·exact zRa xo s1 s2 λE pn aP=>(ih _ (cx.re aP) body (EB hZ)).2
    ·exact oA
  ·exact oA
 |_=>exact oA
def dw{n:Nat}(ih:WR K P C W Z n){X:Cx}(cx:RM X K P C Z)(WD:List XA)(hZ:sizeOf WD<n+1):HC X WD (uN X K P C W (rD Z WD)):=by
 obtain⟨po,xo,WB,sk⟩:=id cx
 cases WD with
 |nil=>exact λaA s Y H D I hz=>(by obtain⟨U,G,x,U',r,e,k⟩:=hz;exact nomatch (show(none:Option (Exc×Env))=some (x,U') from e))
 |cons st aAn =>
  have OL:rD Z (st::aAn)=cS Z st::rD Z aAn:=by first | rfl | (show g3a (f3a Z st aAn) _ _=_;rw[qk];rfl)
  rw[OL];refine TS.E6 (G8 (oSa (Ad ih cx st (tM (by simp;lia) hZ)) (bw ih cx st (tM (by simp;lia) hZ))) (ih _ cx aAn (EB hZ)).2) λD Y H hz=>?_
  obtain⟨U,G,x,U',r,e0,k⟩:=hz;replace e0:wD P C W (cS Z st::rD Z aAn) U=some (x,U'):=e0;rw[Zz] at e0;split at e0
  ·rename_i U1 q;exact .inl ⟨U,G,.nx,U1,r,q,λY1 H1 G1 a1=>⟨U1,G1,x,U',a1.pA,e0,k.pre a1⟩⟩
  ·exact .inr ⟨U,G,x,U',r,e0,k⟩
theorem QW:∀n:Nat,WR K P C W Z n
 | 0,_,_,_,h=>absurd h (ZU _)
 |n+1,_,c,WD,h=>⟨gw (QW n) c WD h,dw (QW n) c WD h⟩
def fw(po:eL (model X.prog X.w) X.A X.env X.xe)(xo:SA X K P C Z)(WB:XH X Z)(sk:Z.top=true->X.stack=X.env::X.outer/\X.env.frame=some X.env.locals)(WD:List XA):HC X WD (lH K P C W (rD Z WD)):=(QW _ X ⟨po,xo,WB,sk⟩ WD (zI _)).1
def cw(po:eL (model X.prog X.w) X.A X.env X.xe)(xo:SA X K P C Z)(WB:XH X Z)(sk:Z.top=true->X.stack=X.env::X.outer/\X.env.frame=some X.env.locals)(WD:List XA):HC X WD (uN X K P C W (rD Z WD)):=(QW _ X ⟨po,xo,WB,sk⟩ WD (zI _)).2
end
noncomputable def qX:xA->Option bA
 |.Name s _=>some s
 |_=>none
def BZ:xA->Option (bA×bA)
 |.Attribute e f _=>(qX e).map λs=>(s,f)
 |_=>none
def zZ:XA->Option (bA×bA×bA)
 |.Assign ts v _=>(match ts with
  |[]=>none
  |t::r=>(match r with
   |_::_=>none
   |[]=>(BZ t).bind λp=>(qX v).map λq=>(p.1,p.2,q)))
 |_=>none
def mj(h:qX e=some s):∃p,e=.Name s p:=by
 unfold qX at h;split at h
 ·cases h;exact⟨_,rfl⟩
 ·cases h
def Cu(h:BZ e=some x):∃p1 p2,e=.Attribute (.Name x.1 p1) x.2 p2:=by
 unfold BZ at h;split at h
 ·obtain⟨s,hs,rfl⟩:=zM.mp h;obtain⟨_,rfl⟩:=mj hs;exact⟨_,_,rfl⟩
 ·cases h
def xu{st:XA}(h:zZ st=some x):∃p1 p2 p3 p4,st=.Assign [.Attribute (.Name x.1 p1) x.2.1 p2] (.Name x.2.2 p3) p4:=by
 unfold zZ at h;split at h
 ·rename_i ts v _
  cases ts with
  |nil=>cases h
  |cons t r =>
   cases r with
   |cons=>cases h
   |nil =>
    obtain⟨p,hp,h⟩:=MP.mp h;obtain⟨q,hq,rfl⟩:=zM.mp h;obtain⟨_,_,rfl⟩:=Cu hp;obtain⟨_,rfl⟩:=mj hq;exact⟨_,_,_,_,rfl⟩
 ·cases h
def ZL(ps:List bA):Nat->List XA->Option (List bA)
 |j,[]=>if j=ps.length then some [] else none
 |j,st::r=>(zZ st).bind λx=>if ps[0]?=some x.1/\ps[j]?=some x.2.2/\yL x.1=false/\yL x.2.2=false then(ZL ps (j+1) r).map (x.2.1 :: ·) else none
theorem Hk:∀{fs:List (bA×V)},f ∉ fs.map (·.1)->VF f y fs=fs++[(f,y)]
 |[],_=>rfl
 | (g,x)::r,h=>by(rw[CB,pD,not_or] at h;rw[VF,UA (λz=>h.1 z.symm),Hk h.2];rfl)
def uZa(h:H a=some o):GA H a o=H:=by
 funext b
 unfold GA;split
 ·rename_i z;rw[z,h]
 ·rfl
theorem Ug{K:fA}(hK:X.K=K)(hN:∀(i:Nat) x,ps[i]?=some x->X.N[i]?=some x/\cQ X.env.scope x)(hl:xs.length+1=ps.length)(cl:fE K Ca):∀(r:List XA) (j:Nat) (ns:List bA),ZL ps j r=some ns->1<=j ->
  ∃t,HC X r t/\∀(D:Ends) (Y:L2.St) (H:Hp) (fs:List (bA×V)),(∀(i:Nat) v,(V.ref a::xs)[i]?=some v->Y[i]?=some (some v))->H a=some (.ins Ca dx fs)->(∀f∈ns,QM K Ca f)->(fs.map (·.1)++ns).Nodup->fs.length+ns.length<1000 ->
   D.nx Y (GA H a (.ins Ca dx (fs++ns.zip (xs.drop (j-1)))))->t D Y H
 |[],j,ns,h,hj=>by
  unfold ZL at h;split at h
  ·rename_i hje;cases h;refine⟨D9,Ck,λD Y H fs _ ha _ _ _ q=>?_⟩;simp only[List.zip_nil_left,kE] at q;rw[uZa ha] at q;exact q
  ·cases h
 |st::r,j,ns,h,hj=>by
  unfold ZL at h;obtain⟨x,hx,h2⟩:=MP.mp h;obtain⟨p1,p2,p3,p4,rfl⟩:=xu hx;obtain⟨s,f,q⟩:=x;replace h:=h2;dsimp only at h;split at h
  ·rename_i hc;obtain⟨c1,c2,c3,c4⟩:=hc
   cases q1:ZL ps (j+1) r with
   |none=>rw[q1] at h;cases h
   |some qG =>
    rw[q1] at h;cases h;obtain⟨t,ht,k⟩:=Ug hK hN hl cl r (j+1) qG q1 (by lia);simp only[yL,Ba] at c3 c4;have v0:=B8 (pos:=p1) (hN 0 s c1).1 (hN 0 s c1).2 c3.1.1 c3.1.2;have v1:=B8 (pos:=p3) (hN j q c2).1 (hN j q c2).2 c4.1.1 c4.1.2;refine⟨_,G8 (lSa v0 v1 rfl) ht,λD Y H fs hY ha hn DO sD qq=>?_⟩;have hj2:j<ps.length:=(eE.mp c2).1;obtain⟨j',rfl⟩:∃j',j=j'+1:=⟨j-1,by lia⟩
    have UI:j'<xs.length:=by lia
    have hx:(V.ref a::xs)[j'+1]?=some xs[j']:=by simp[UI]
    have BK:f ∉ fs.map (·.1):=λz=>by
     have:=(oP.mp DO).2.2 f z f (by simp)
     exact this rfl
    refine⟨_,hY _ _ hx,.ref a,hY 0 _ rfl,a,Ca,dx,fs,rfl,ha,by rw[hK];exact cl,by rw[hK];exact hn f (by simp),by simp at sD;lia, ?_⟩;rw[Hk BK];refine k D Y _ _ hY TC (λg hg=>hn g (RD _ hg)) ?_ ?_ ?_
    ·simpa using DO
    ·simp at sD ⊢;lia
    ·rw[T9]
     have e:fs++(f::qG).zip (xs.drop (j'+1-1))=fs++[(f,xs[j'])]++qG.zip (xs.drop (j'+1+1-1)):=by(rw[show j'+1-1=j' from rfl,show j'+1+1-1=j'+1 from rfl,KU UI,lP,UH];rfl)
     rw[<- e];exact qq
  ·cases h
def Vg{K:fA}{mg:bA->Option eA}{st:XA}{fa:gA}(F:qL K y dB st fa fd)(S:OM N ps (pC st))(hb:ZL ps 1 (nE st)=some ns)(hp:ps.length=ns.length+1)(DO:ns.Nodup)(sD:ns.length<1000) :
  oF Pr w K mg base kJ 1 fa fd ps (Pl K ns):=by
 refine F.ok S (λvs H Q E h=>?_) λbB A outer s H vs Q E hr h=>?_
 ·obtain⟨a,Ca,dx,xs,rfl,h1,_⟩:=h;rw[kD,h1,hp]
 ·obtain⟨a,Ca,dx,xs,rfl,h1,h2,h3,q⟩:=h
  have P':∀(i:Nat) x,ps[i]?=some x->N[i]?=some x/\cQ (pC st) x:=λi x hx=>by
   have hm:x∈ps:=fJ hx;refine⟨?_, ?_⟩
   ·have:=S.pre
    rw[<- this,List.getElem?_take] at hx;split at hx
    ·exact hx
    ·cases hx
   ·rcases S.par x hm with z | z
    ·exact .inl z
    ·exact .inr (.inl z)
  obtain⟨t,ht,k⟩:=Ug (X:=(cI kJ Pr w K mg base N dB (pC st) fa bB A outer s H E).gR) (xs:=xs) (a:=a) rfl P' (by lia) h3.cl (nE st) 1 ns hb (zB _)
  ·refine⟨t,ht,k _ _ H [] (λi v hv=>?_) h2 h3.no (by simpa using DO) (by simpa using sD) ?_⟩
   ·have hl:i<(V.ref a::xs).length:=(eE.mp hv).1;rw[m9 hl,MD,hv];rfl
   ·simpa using q
structure tV(K:fA)(mg:bA->Option eA)(x:bA):Prop where
 ex:True
def tV.at{K:fA}(hK:X.K=K)(e:tV K X.mg x):sV X K x:=⟨trivial⟩
structure rV(K:fA)(T:Tab)(gl:bA->GV)(f:String)(fa:gA)(fd:SH)(ps:List bA):Prop where
 bd:aAs K fd ps []
 ex:∃(y dB:bA) (st:XA) (N:List bA) (fn:Fn),qL K y dB st fa fd/\OM N ps (pC st)/\N.Nodup/\T f=some fn/\fn.body=rD ⟨N,(pC st).names,gl,true⟩ (nE st)/\N.length=fn.aA.length+fn.nl/\ps.length=fn.aA.length
structure Entry(K:fA)(mg:bA->Option eA)(T:Tab)(gl:bA->GV)(x:bA)(f:String)(fa:gA)(fd:SH)(ps:List bA):Prop where
 hX:mg x=some (.ref fa)
 kp:wH K (.ref fa)=true
 b:rV K T gl f fa fd ps
structure ZY(K:fA)(mg:bA->Option eA)(x:bA)(ns:List bA):Prop where
 ex:∃(Ca fa:gA) (fd:SH) (ps:List bA) (y dB:bA) (st:XA) (N:List bA),WC K TB x=some (some (.ref Ca))/\mg x=some (.ref Ca)/\Mk K Ca fa/\pV K Ca ns /\
  qL K y dB st fa fd/\OM N ps (pC st)/\ZL ps 1 (nE st)=some ns/\ps.length=ns.length+1/\ns.Nodup/\ns.length<1000/\aAs K fd ps []
structure oZ(K:fA)(T:Tab)(gl:bA->GV)(c m:bA)(f:String):Prop where
 ex:∃(Ca fa:gA) (fd:SH) (ps:List bA),WC K TB c=some (some (.ref Ca))/\Meth K Ca m fa/\rV K T gl f fa fd ps/\fE K Ca
structure uc(K:fA)(mg:bA->Option eA)(T:Tab)(gl:bA->GV):Prop where
 c:∀x d,gl x=.c d->∃u v,mg x=some u/\aAf v u/\∀G,jA K G d v
 vB:∀x,gl x=.vB->mg x=none
 fn:∀x f,gl x=.fn f->∃fa fd ps,Entry K mg T gl x f fa fd ps
 cls:∀x ns,gl x=.cls ns->ZY K mg x ns
 yF:∀m tb c f,gl (dot m)=.yF tb->tb.lookup c=some f->oZ K T gl c m f
 sub:∀x s n,gl (col x)=.sub s n->vV K mg x s n
 bJ:∀x s n,gl (col x)=.bJ s n->wV K mg x s n
 exc:∀x,gl x=.exc->ExcAt K mg x
 sJ:∀x,gl x=.sJ->tV K mg x
 DA:∀x cs,gl (cat x)=.DA cs->UR K mg x cs
def GX{b:Bool}{o:Option (Exc×Env)}{as VA:List Sl}{v:RV}(h:(if b=true then(match o with | some (x,U)=>(some (Out.ex x,back as U):zA RV) | none=>none) else none)=some (.ok v,VA)):False:=by
 split at h
 ·split at h<;>cases h
 ·cases h
theorem sO{Pr:bE}{w:IC}{K:fA}{mg:bA->Option eA}{base:JB}{T:Tab}{gl:bA->GV}(W:Nat)(g:uc K mg T gl):∀(d:Nat) (f:String) (fa:gA) (fd:SH) (ps:List bA),
  rV K T gl f fa fd ps->oF Pr w K mg base kJ (d+2) fa fd ps (AU K (T.aA f).length (run T W d f))/\oF Pr w K mg base (fK Pr w) (d+2) fa fd ps (Ql K (T.aA f).length (run T W d f))
 | 0,f,fa,fd,ps,e=>⟨⟨λvs H Q E h=>by obtain⟨_,as,G,v,VA,_,_,z,_⟩:=h;simp[run] at z,λA outer s H args us vs Q E _ _ _ _ h=>by obtain⟨_,as,G,v,VA,_,_,z,_⟩:=h;simp[run] at z⟩,
  ⟨λvs H Q E h=>by obtain⟨_,as,G,v,VA,_,_,z,_⟩:=h;simp[run] at z,λA outer s H args us vs Q E _ _ _ _ h=>by obtain⟨_,as,G,v,VA,_,_,z,_⟩:=h;simp[run] at z⟩⟩
 |d+1,f,fa,fd,ps,e=>by
  obtain⟨y,dB,st,N,fn,F,S,nd,hT,hb,hN,jT⟩:=e.ex;have vg:T.aA f=fn.aA:=by unfold Tab.aA;rw[hT]
  refine⟨F.ok S (λvs H Q E h=>by rw[h.1,vg,jT]) λbB A outer s H vs Q E hr h=>?_, ?_⟩
  ·obtain⟨hl,as,G,v,VA,pA,NI,er,k⟩:=h
   let X:Cx:=(cI kJ Pr w K mg base N dB (pC st) fa bB A outer s H E).gR
   let Z:CC:=⟨N,(pC st).names,gl,true⟩
   have xo:SA X K T.aA (run T W d) Z:=by
    refine SA.of rfl rfl rfl nd rfl hr.hd hr.units g.c g.vB (λx' f' hx=>?_) (λx' ns hx=>?_) (λm tb c f' h1 h2=>?_) (hr.mono (by lia)) g.sub g.bJ ⟨g.exc,λx hx=>(g.sJ x hx).at rfl⟩ g.DA (λx' f' hx=>?_) ⟨_,_,_,rfl,rfl,rfl⟩
    ·obtain⟨zE,VE,ZE,e'⟩:=g.fn x' f' hx;exact⟨zE,VE,ZE,d+2,(sO W g d f' zE VE ZE e'.b).1,hr,e'.hX,e'.kp,e'.b.bd⟩
    ·obtain⟨Ca,zE,VE,ZE,y',sTa,bG,N',h1,h2,h3,h4,h5,h6,h7,h8,h9,C5,D5⟩:=(g.cls x' ns hx).ex;exact⟨Ca,zE,VE,ZE,h1,h2,h3,h4,Vg h5 h6 h7 h8 h9 C5,D5⟩
    ·obtain⟨Ca,zE,VE,ZE,h3,h4,e',fD⟩:=(g.yF m tb c f' h1 h2).ex;exact⟨Ca,zE,VE,ZE,d+2,h3,h4,(sO W g d f' zE VE ZE e').1,hr,e'.bd,fD⟩
    ·obtain⟨zE,VE,ZE,e'⟩:=g.fn x' f' hx;exact⟨zE,VE,ZE,d+2,(sO W g d f' zE VE ZE e'.b).2,hr,e'.hX,e'.kp,e'.b.bd⟩
   refine⟨_,fw (W:=W) (X:=X) (Z:=Z) PassesOwn.never xo (λ_ _=>.inl rfl) (λ_=>⟨rfl,rfl⟩) (nE st), ?_⟩;simp only[run,hT] at er;split at er
   ·rename_i hc;rw[hb] at er;have xQ:N.length=as.length+fn.nl:=by rw[hN,hc.1]
    have EW:=pA.pad xQ
    cases q:DA T.aA (run T W d) W (rD ⟨N,(pC st).names,gl,true⟩ (nE st)) (as++NB fn.nl .un) with
    |none=>rw[q] at er;exact(GX er).elim
    |some y =>
     obtain⟨fl,U'⟩:=y;rw[q] at er;refine⟨as++NB fn.nl .un,G,fl,U',EW.1,q, ?_⟩
     cases fl with
     |nx =>
      cases er;intro Y' H' G' a;obtain⟨b1,b2⟩:=EV pA hc.2 xQ a;exact k .iA H' G' b1 (by show jA K G' .iA _;simp[jA])
     |rt v' =>
      cases er;intro x' Y' H' G' a hv;obtain⟨b1,b2⟩:=EV pA hc.2 xQ a;refine k x' H' G' b1 ?_
      have key:∀c,¬AA U' Y' c->(AA (as++NB fn.nl .un) (start N vs) c\/H c=none)->H c=none:=λc nc mc=>by
       rcases mc with mc | mc
       ·have:=EW.2 c mc
        obtain⟨i,d1,p1,l1,h1,h2⟩:=this;refine absurd ?_ nc
        apply b2 c
        have hp:=iF.mp hc.2 _ (fJ h1);simp only[QK] at hp;subst hp
        have:=b1.qK i
        rw[h1] at this
        cases q3:(back as U')[i]? with
        |none=>rw[q3] at this;exact this.elim
        |some s =>
         rw[q3] at this
         cases s with
         |ow d2 p2 l2=>exact⟨i,d2,p2,l2,q3,h2⟩
         |sh d2=>exact absurd (show true=false from this) (by simp)
         |un=>exact this.elim
         |mv=>exact this.elim
       ·exact mc
      cases v with
      |sh d0=>exact hv
      |ow d0 =>
       obtain⟨c,rfl,gc,oc,nc,mc⟩:=hv;exact⟨c,rfl,gc,oc,λz=>nc (b2 c z),key c nc mc⟩
      |od d0 =>
       obtain⟨c,rfl,gc,oc,nc,mc,ys,hy,hr⟩:=hv;exact⟨c,rfl,gc,oc,λz=>nc (b2 c z),key c nc mc,ys,hy,λx hx=>let ⟨b,ws,h1,h2,h3,h4,h5,h6⟩:=hr x hx;⟨b,ws,h1,h2,h3,λz=>h4 (b2 b z),key b h4 h5,h6⟩⟩
     |bk=>exact(GX er).elim
     |ct=>exact(GX er).elim
     |ex x'=>exact(GX er).elim
   ·cases er
  ·obtain⟨oc,od,kV,doc,pm,an,bB,ct,zF,rfl,lk,OI⟩:=F.ex;refine We lk OI S (λvs H Q E h=>by rw[h.1,vg,jT]) λA outer s H vs Q E hr h=>?_
   obtain⟨hl,as,G,x0,VA,pA,NI,er,k⟩:=h
   let X:Cx:=cI (fK Pr w) Pr w K mg base N dB (pC st) fa bB A outer s H E
   let Z:CC:=⟨N,(pC st).names,gl,true⟩
   have xo:SA X K T.aA (run T W d) Z:=by
    refine SA.of rfl rfl rfl nd rfl hr.hd hr.units g.c g.vB (λx' f' hx=>?_) (λx' ns hx=>?_) (λm tb c f' h1 h2=>?_) (hr.mono (by lia)) g.sub g.bJ ⟨g.exc,λx hx=>(g.sJ x hx).at rfl⟩ g.DA (λx' f' hx=>?_) ⟨_,_,_,rfl,rfl,rfl⟩
    ·obtain⟨zE,VE,ZE,e'⟩:=g.fn x' f' hx;exact⟨zE,VE,ZE,d+2,(sO W g d f' zE VE ZE e'.b).1,hr,e'.hX,e'.kp,e'.b.bd⟩
    ·obtain⟨Ca,zE,VE,ZE,y',sTa,bG,N',h1,h2,h3,h4,h5,h6,h7,h8,h9,C5,D5⟩:=(g.cls x' ns hx).ex;exact⟨Ca,zE,VE,ZE,h1,h2,h3,h4,Vg h5 h6 h7 h8 h9 C5,D5⟩
    ·obtain⟨Ca,zE,VE,ZE,h3,h4,e',fD⟩:=(g.yF m tb c f' h1 h2).ex;exact⟨Ca,zE,VE,ZE,d+2,h3,h4,(sO W g d f' zE VE ZE e').1,hr,e'.bd,fD⟩
    ·obtain⟨zE,VE,ZE,e'⟩:=g.fn x' f' hx;exact⟨zE,VE,ZE,d+2,(sO W g d f' zE VE ZE e'.b).2,hr,e'.hX,e'.kp,e'.b.bd⟩
   refine⟨_,cw (W:=W) (X:=X) (Z:=Z) PassesOwn.leaving xo (λ_ _=>.inl rfl) (λ_=>⟨rfl,rfl⟩) (nE st), ?_⟩;simp only[run,hT] at er;split at er
   ·rename_i hc;rw[hb] at er;have xQ:N.length=as.length+fn.nl:=by rw[hN,hc.1]
    have EW:=pA.pad xQ;split at er
    ·cases er
    ·cases er
    ·split at er
     ·split at er
      ·rename_i x1 U' q;cases er;refine⟨as++NB fn.nl .un,G,x0,U',EW.1,q,λDF Y' H' G' s' a Ca p ZN I' F' fD hg JQ=>?_⟩;obtain⟨b1,b2⟩:=EV pA hc.2 xQ ZN;exact sx I' F' (k H' G' Ca p b1 fD hg JQ)
      ·cases er
     ·cases er
   ·cases er
def iD(st:XA):List bA:=(dI st).args.map (·.arg)
def jM(st:XA):List bA:=iD st++(((pC st).names.filter λy=>(y.2==.local||y.2==.cell) && !(iD st).contains y.1).map (·.1))
def je(gl:bA->GV)(st:XA):List S:=rD ⟨jM st,(pC st).names,gl,true⟩ (nE st)
structure nZ(K:fA)(x m dB:bA)(st:XA):Prop where
 ex:∃(Ca f:gA) (oc:eA) (od an:Option gA) (kV doc pm bB ct:eA) (zF:Array (Option eA)),WC K TB x=some (some (.ref Ca))/\fG K (.ref Ca) m=some (some (.ref f))/\fV K (.ref f)=true /\
  K.lookup f=some ⟨oc,od,.func (VH m dB (dI st) (nE st) (pC st) .none kV doc pm an bB ct),zF⟩/\yP K bB dB=true/\wH K (.ref f)=true
def HG{K:fA}{st:XA}{kV doc pm bB ct:eA}(a:WC K TB x=some (some (.ref Ca)))(b:fG K (.ref Ca) m=some (some (.ref f)))(i:fV K (.ref f)=true)
  (l:K.lookup f=some ⟨oc,od,.func (VH m dB (dI st) (nE st) (pC st) .none kV doc pm an bB ct),zF⟩) (c:yP K bB dB=true) (k:wH K (.ref f)=true):nZ K x m dB st :=
 ⟨Ca,f,oc,od,an,kV,doc,pm,bB,ct,zF,a,b,i,l,c,k⟩
structure ClsAt(K:fA)(x:bA):Prop where
 ex:∃Ca:gA,WC K TB x=some (some (.ref Ca))/\fE K Ca/\AY K Ca=true/\wH K (.ref Ca)=true
def iO{K:fA}(a:WC K TB x=some (some (.ref Ca)))(pg:GR K Ca Str.empty=true)(hd:TU K Ca=true)(po:Sa K Ca=true)
  (sa:fG K (.ref Ca) "__setattr__"=some (some (.builtin "object.__setattr__"))) (mk:AY K Ca=true) (kp:wH K (.ref Ca)=true):ClsAt K x:=⟨Ca,a,⟨pg,hd,po,sa⟩,mk,kp⟩
def Fc(K:fA)(x f:bA):Prop:=∃Ca:gA,WC K TB x=some (some (.ref Ca))/\fG K (.ref Ca) f=some none
def WO{K:fA}(a:WC K TB x=some (some (.ref Ca)))(b:fG K (.ref Ca) f=some none):Fc K x f:=⟨Ca,a,b⟩
structure RR(K:fA)(x:bA)(st:XA):Prop where
 ex:∃(f:gA) (oc:eA) (od an:Option gA) (kV doc pm bB ct:eA) (zF:Array (Option eA)),WC K TB x=some (some (.ref f)) /\
  K.lookup f=some ⟨oc,od,.func (VH x x (dI st) (nE st) (pC st) .none kV doc pm an bB ct),zF⟩/\yP K bB x=true/\wH K (.ref f)=true
def Be{K:fA}{st:XA}{kV doc pm bB ct:eA}(a:WC K TB x=some (some (.ref f)))
  (l:K.lookup f=some ⟨oc,od,.func (VH x x (dI st) (nE st) (pC st) .none kV doc pm an bB ct),zF⟩) (c:yP K bB x=true) (k:wH K (.ref f)=true):RR K x st :=
 ⟨f,oc,od,an,kV,doc,pm,bB,ct,zF,a,l,c,k⟩
structure WH(gl:bA->GV)(st:XA)(x dB:bA)(fn:Fn):Prop where
 sc:OM (jM st) (iD st) (pC st)
 body:fn.body=je gl st
 len:(jM st).length=fn.aA.length+fn.nl
 pl:(iD st).length=fn.aA.length
 bind:∀(kV doc pm:eA) (an:Option gA) (bB ct:eA) (us:List eA),us.length=(iD st).length->bindArgs (VH x dB (dI st) (nE st) (pC st) .none kV doc pm an bB ct) ⟨us,[]⟩=pure ((iD st).zip us)
abbrev SR(gl:bA->GV)(st:XA)(x:bA)(fn:Fn):Prop:=WH gl st x x fn
def V1{K:fA}{st:XA}(F:qL K x dB st fa fd)(O:WH gl st x dB fn)(hT:T f=some fn):rV K T gl f fa fd (iD st) :=
 ⟨F.binds O.bind,x,dB,st,jM st,fn,F,O.sc,O.sc.nd,hT,O.body,O.len,O.pl⟩
def iM{K:fA}{st:XA}(A:ClsAt K x)(D:nZ K x m dB st)(O:WH gl st m dB fn)(hT:T f=some fn):oZ K T gl x m f:=by
 obtain⟨Ca,fa,oc,od,an,kV,doc,pm,bB,ct,zF,a,b,i,l,c,k⟩:=D.ex;obtain⟨Cb,a',cl,_,_⟩:=A.ex;rw[a] at a';cases a';exact⟨Ca,fa,_,iD st,a,⟨b,i,k⟩,V1 (lW l c k) O hT,cl⟩
structure rL(st:XA)(dB:bA)(ns:List bA):Prop where
 sc:OM (jM st) (iD st) (pC st)
 body:ZL (iD st) 1 (nE st)=some ns
 pl:(iD st).length=ns.length+1
 nd:ns.Nodup
 lt:ns.length<1000
 bind:∀(kV doc pm:eA) (an:Option gA) (bB ct:eA) (us:List eA),us.length=(iD st).length->bindArgs (VH "__init__" dB (dI st) (nE st) (pC st) .none kV doc pm an bB ct) ⟨us,[]⟩=pure ((iD st).zip us)
def jO{K:fA}{st:XA}(X:K.In h)(G:h.Ns TB mg)(A:ClsAt K x)(D:nZ K x "__init__" dB st)(O:rL st dB ns)(N:∀f∈ns,Fc K x f):ZY K mg x ns:=by
 obtain⟨Ca,a,cl,mk,kp⟩:=A.ex;obtain⟨Cb,fa,oc,od,an,kV,doc,pm,bB,ct,zF,a',b,i,l,c,k⟩:=D.ex;rw[a] at a';cases a';have F:=lW l c k;refine⟨Ca,fa,_,iD st,"__init__",dB,st,jM st,a,FP X G a,⟨mk,b,i,kp⟩,⟨cl,λf hf=>?_⟩,F,O.sc,O.body,O.pl,O.nd,O.lt,F.binds O.bind⟩;obtain⟨Cc,a2,b2⟩:=N f hf;rw[a] at a2;cases a2;exact b2
def ly{K:fA}{st:XA}(X:K.In h)(G:h.Ns TB mg)(D:RR K x st)(O:SR gl st x fn)(hT:T f=some fn):∃fa fd ps,Entry K mg T gl x f fa fd ps:=by
 obtain⟨fa,oc,od,an,kV,doc,pm,bB,ct,zF,a,l,c,k⟩:=D.ex;have F:=lW l c k;exact⟨fa,_,iD st,FP X G a,k,V1 F O hT⟩
noncomputable def rF(L:List (bA×GV))(x:bA):GV:=(L.lookup x).getD .no
theorem aAp[BEq O][LawfulBEq O]:∀{L:List (O×N)} {x:O} {v:N},L.lookup x=some v->(x,v)∈L
 |[],_,_,h=>by simp at h
 | (y,w)::L,x,v,h=>by
  rw[AI] at h;split at h
  ·rename_i hb;cases h;rw[GC hb];exact wG
  ·exact RD _ (aAp h)
def uK(h:rF L x=v)(n:v≠.no):(x,v)∈L:=by
 unfold rF at h
 cases q:L.lookup x with
 |none=>rw[q] at h;exact absurd h.symm n
 |some w =>
  rw[q] at h;cases h;exact aAp q
def lJ(K:fA)(mg:bA->Option eA)(T:Tab)(gl:bA->GV):bA×GV->Prop
 | (x,.cls ns)=>ZY K mg x ns
 | (x,.yF tb)=>∃m,x=dot m/\∀p∈tb,oZ K T gl p.1 m p.2
 | (x,.c d)=>∃u v,mg x=some u/\aAf v u/\∀G,jA K G d v
 | (x,.vB)=>mg x=none
 | (x,.fn f)=>∃fa fd ps,Entry K mg T gl x f fa fd ps
 | (x,.sub s n)=>∃m,x=col m/\vV K mg m s n
 | (x,.bJ s n)=>∃m,x=col m/\wV K mg m s n
 | (x,.exc)=>ExcAt K mg x
 | (x,.sJ)=>tV K mg x
 | (x,.DA cs)=>∃m,x=cat m/\UR K mg m cs
 | (_,.no)=>True
def xk{x y:bA}(h:(⟨p++x.cps⟩:bA)=⟨p++y.cps⟩):x=y:=by
 have e6:=congrArg eV (congrArg Str.cps h);simp only[rY] at e6;have e5:=wY.mp (xa e6);cases x;cases y;simp only at e5;rw[e5]
def B'{K:fA}(h:∀p∈L,lJ K mg T (rF L) p):uc K mg T (rF L) :=
 ⟨λx d e=>h _ (uK e (λz=>nomatch z)),λx e=>h _ (uK e (λz=>nomatch z)),λx f e=>h _ (uK e (λz=>nomatch z)),λx ns e=>h _ (uK e (λz=>nomatch z)),λm tb c f e e2=>by
  obtain⟨m',e3,k⟩:=h _ (uK e (λz=>nomatch z))
  have:m'=m:=by
   unfold dot at e3;have e4:(#[46]++m.cps:Array Nat)=#[46]++m'.cps:=congrArg Str.cps e3
   have e5:m.cps=m'.cps:=by(have e6:=congrArg eV e4;rw[rY,rY] at e6;exact wY.mp (xa e6))
   cases m;cases m';simp only at e5;rw[e5]
  subst this;exact k _ (aAp e2),λx s n e=>by
  obtain⟨m',e3,k⟩:=h _ (uK e (λz=>nomatch z))
  have:m'=x:=by
   unfold col at e3
   have e5:x.cps=m'.cps:=by(have e6:=congrArg eV (congrArg Str.cps e3);simp only[rY] at e6;exact wY.mp (xa e6))
   cases x;cases m';simp only at e5;rw[e5]
  subst this;exact k,λx s n e=>by
  obtain⟨m',e3,k⟩:=h _ (uK e (λz=>nomatch z));rw[xk e3];exact k,λx e=>h _ (uK e (λz=>nomatch z)),λx e=>h _ (uK e (λz=>nomatch z)),λx cs e=>by
  obtain⟨m',e3,k⟩:=h _ (uK e (λz=>nomatch z));rw[xk e3]
  exact k⟩
def ae{K:fA}(X:K.In h)(G:h.Ns TB mg)(a:WC K TB x=some (some (.int i t))):lJ K mg T gl (x,.c (.int i)) :=
 ⟨_,.int i,FP X G a,⟨t,rfl⟩,λG=>by simp[jA]⟩
def xv{K:fA}(X:K.In h)(G:h.Ns TB mg)(a:WC K TB x=some none):lJ K mg T gl (x,.vB):=PySem.W.mg_none_of X G a
structure TR(K:fA)(x:bA):Prop where
 ex:∃C:gA,WC K TB x=some (some (.ref C))/\SN K C/\pL K C none
def Me{K:fA}(a:WC K TB x=some (some (.ref C)))(q:Fb K C NV "ValueError.__new__"=true)(ga:fG K (.ref C) "__getattribute__"=some (some (.builtin "BaseException.__getattribute__")))(no:fG K (.ref C) "__getattr__"=some none)
  (cl:fG K (.ref C) "__class__"=some (some (.builtin "object.__class__"))) (gt:Kq K (.builtin "object.__class__") "__get__"=some (some (.builtin "getset_descriptor.__get__"))) (tk:Wq K (.builtin "object.__class__")=some true)
  (mo:SJ K C (.type "object")=some true) (mb:SJ K C (.type "BaseException")=some true) (mv:SJ K C (.type "ValueError")=some true):TR K x:=⟨C,a,⟨⟨_,Oe q⟩,ga,no,cl,gt,tk,mo,mb,mv⟩,Oe q⟩
structure Ec(K:fA)(c x:bA):Prop where
 ex:∃C D:gA,WC K TB c=some (some (.ref C))/\WC K TB x=some (some (.ref D))/\SJ K C (.ref D)=some true
def pJa{K:fA}{C D:gA}(a:WC K TB c=some (some (.ref C)))(b:WC K TB x=some (some (.ref D)))(m:SJ K C (.ref D)=some true):Ec K c x:=⟨C,D,a,b,m⟩
def Pe{K:fA}(X:K.In h)(G:h.Ns TB mg)(A:TR K x):lJ K mg T gl (x,.exc):=by
 obtain⟨C,a,g,p⟩:=A.ex;exact⟨C,a,FP X G a,g,p⟩
def c_{K:fA}(X:K.In h)(G:h.Ns TB mg)(A:TR K x)(M:∀c∈cs,Ec K c x):lJ K mg T gl (cat x,.DA cs):=by
 obtain⟨D,a,g,_⟩:=A.ex;refine⟨x,rfl,D,FP X G a,g.q,λc hc C e=>?_⟩;obtain⟨C',D',e1,e2,k⟩:=(M c hc).ex;rw[e] at e1;cases e1;rw[a] at e2;cases e2;exact k
def xHa{l:lV}{K:Params->fA}{st:XA}
  (hn:l.most=some 63) (WS:d.params.defaults=[]) (hr:KC (n+2) callerA) (hx:d.name=x) (hT:T f=some fn) (O:SR (rF L) st x fn) (hp:iD st=[p])
  (hY:∀(w:IC) (h:JB),YP w h->(K w.params).In h)
  (F:∀(w:IC) (mg:bA->Option eA) (h:JB),(K w.params).In h->h.Ns TB mg->RR (K w.params) x st/\∀p∈L,lJ (K w.params) mg T (rF L) p)
  (M:∀ns:List Int,ns.length<=63->∃VA,run T W n f [.sh (.l (ns.map .int))]=some (.ok (.sh (.bl true)),VA)) :
  Wb q loose XP YP l.row.toRowW d [] (λf vs=>ic f vs):=by
 refine L2.a0a (n:=63) (k:=n+2) (x:=p) (CX:=λ_=>kJ) (sp:=λw=>AU (K w.params) 1 (run T W n f)) hn (by decide) WS hr hY (λw mg fa h KX G HQ=>?_) (λw H a ns hl hO hS=>?_) λ_ _ _ _ _ z=>z
 ·obtain⟨D,hG⟩:=F w mg h KX G;have g:=B' hG;obtain⟨zE,oc,od,an,kV,doc,pm,bB,ct,zF,a,lk,c,k⟩:=D.ex;have hm:=FP KX G a;rw[hx,hm] at HQ;cases HQ;have Fu:=lW lk c k;have E:Entry (K w.params) mg T (rF L) x f fa _ (iD st):=⟨hm,k,V1 Fu O hT⟩
  have xBa:(T.aA f).length=1:=by(unfold Tab.aA;rw[hT];show fn.aA.length=1;rw[<- O.pl,hp];rfl)
  refine⟨VH x x (dI st) (nE st) (pC st) .none kV doc pm an bB ct,λs u=>?_,λbase kb nb=>?_⟩
  rotate_left
  ·have:=(sO (Pr:=l.prog) (w:=w) (base:=base) W g n f fa _ (iD st) E.b).1
   rw[xBa] at this;rw[hp] at this;exact this
  ·have:=O.bind kV doc pm an bB ct [u] (by rw[hp];rfl)
   rw[hp] at this;exact .of_eq this
 ·obtain⟨VA,e⟩:=M ns hl
  have KO:kA (K w.params) H (ns.map .int) (ns.map V.int):=by
   induction ns with
   |nil=>exact kA.nil
   |cons i r ih=>exact kA.cons (by simp[jA]) (by
     clear e hS hl ih
     induction r with
     |nil=>exact kA.nil
     |cons i r ih=>exact kA.cons (by simp[jA]) ih)
  refine⟨rfl,[.sh (.l (ns.map .int))],H,.sh (.bl true),VA,FA.rS (FA.nil (fB.refl _)) ?_,rfl,e,λx H' G' _ hv=>oU (K:=K w.params) (G:=G') hv⟩;simp only[jA];exact⟨a,_,rfl,hS,KO⟩
end CI
namespace CI
open PySem (Operator CmpOp)
noncomputable section
variable{U U1 U2:Env}
theorem nN:Run.next (some (.nx,U)) f=f U:=rfl
theorem pLa:Run.next (some (.rt v,U)) f=some (.rt v,U):=rfl
theorem J':dH (some U)=some (.nx,U):=rfl
noncomputable def bR(f:O->Env->zA N)(r:zA O):zA N:=r.bind f
theorem Ku:r.bind f=bR f r:=rfl
theorem Mu:bR f (some (.ok a,U))=f a U:=rfl
theorem Lu:bR f (some (.ex x,U))=some (.ex x,U):=rfl
noncomputable def fR(f:O->Env->Run)(r:zA O):Run:=r.nC f
theorem d_:r.nC f=fR f r:=rfl
theorem f_:fR f (some (.ok a,U))=f a U:=rfl
theorem e_:fR f (some (.ex x,U))=some (.ex x,U):=rfl
noncomputable def nR(f:Env->Run)(r:Run):Run:=r.next f
theorem nR_:r.next f=nR f r:=rfl
theorem cKa:nR f (some (.nx,U))=f U:=rfl
theorem dKa:nR f (some (.rt v,U))=some (.rt v,U):=rfl
theorem aKa:nR f (some (.ex x,U))=some (.ex x,U):=rfl
theorem bKa:nR f none=none:=rfl
noncomputable def dR(U:Env)(o:Option RV):zA RV:=done o U
theorem tx:done o U=dR U o:=rfl
theorem ux:dR U (some v)=some (.ok v,U):=rfl
theorem yx:(RV.sh d).d=d:=rfl
theorem xx:(RV.ow d).d=d:=rfl
theorem N_:(Sl.sh d).get=some d:=rfl
theorem M_:(Sl.ow d p l).get=some d:=rfl
theorem uAa:(Hd.val v).get U=some v.d:=rfl
theorem tAa:(Hd.slot i).get U=(U[i]?).bind Sl.get:=rfl
noncomputable def K7(U:Env)(o:Option Bool):zA RV:=o.map λb=>(.ok (.sh (.bl b)),U)
theorem zGa:K7 U (some b)=some (.ok (.sh (.bl b)),U):=rfl
theorem j0a:aAh false r=r:=rfl
theorem k0a:aAh true (some (.ok v,U))=K7 U (QJ v.d):=rfl
noncomputable def ZW(i:Nat)(U:Env):Option Sl->zA RV
 |some (.sh d)=>some (.ok (.sh d),U)
 |some (.ow d false false)=>some (.ok (.sh d),U.set i (.sh d))
 |_=>none
theorem mFa:ZW i U (some (.sh d))=some (.ok (.sh d),U):=rfl
theorem lFa:ZW i U (some (.ow d false false))=some (.ok (.sh d),U.set i (.sh d)):=rfl
def Zh(U:Env)(o:Option D):zA RV:=aAh true (o.map λd=>(.ok (.sh d),U))
theorem nGa:Zh U (some d)=K7 U (QJ d):=rfl
theorem yz:ev P C false (.v i) U=ZW i U U[i]?:=rfl
theorem zz:ev P C true (.v i) U=Zh U ((U[i]?).bind Sl.get):=rfl
theorem Wy:ev P C t (.c d) U=aAh t (some (.ok (.sh d),U)):=rfl
noncomputable def QT(b:Bool)(v:RV)(U:Env):zA RV:=if b then some (.ok v,U) else none
theorem yGa:QT true v U=some (.ok v,U):=rfl
def ZF(h:n<=1000000):jB n=true:=@rB _ (cl _) h
theorem wWa:jB 0=true:=ZF (by decide)
theorem xWa:jB 1=true:=ZF (by decide)
theorem yWa:jB 2=true:=ZF (by decide)
theorem zWa:jB 3=true:=ZF (by decide)
theorem aXa:jB 4=true:=ZF (by decide)
theorem bXa:jB 5=true:=ZF (by decide)
def yi(ds:List D)(U:Env):zA RV:=QT (jB ds.length) (.sh (.t ds)) U
def Rh(ds:List D)(U:Env):zA RV:=QT (jB ds.length) (.ow (.l ds)) U
theorem wz:ev P C t (.t es) U=aAh t ((qF P C es U).bind yi):=rfl
theorem dz:ev P C t (.l es) U=aAh t ((qF P C es U).bind Rh):=rfl
theorem Cz:qF P C [] U=some (.ok [],U):=rfl
noncomputable def Eh(v:RV)(ds:List D)(U:Env):zA (List D):=some (.ok (v.d::ds),U)
def Dh(P:ZA)(C:Calls)(es:List E)(v:RV)(U:Env):zA (List D):=(qF P C es U).bind (Eh v)
theorem Bz:qF P C (e::es) U=(ev P C false e U).bind (Dh P C es):=rfl
theorem Iy:eD P C [] U=some (.ok [],U):=rfl
noncomputable def Mh(v:Hd)(ds:List Hd)(U:Env):zA (List Hd):=some (.ok (v::ds),U)
def Lh(P:ZA)(C:Calls)(es:List E)(v:Hd)(U:Env):zA (List Hd):=(eD P C es U).bind (Mh v)
def BC(P:ZA)(C:Calls)(e:E)(U:Env):zA Hd:=hd e (ev P C false e U) U
noncomputable def xF(v:RV)(U:Env):zA Hd:=some (.ok (.val v.low),U)
theorem eHa:xF (.sh d) U=some (.ok (.val (.sh d)),U):=rfl
theorem dHa:xF (.ow d) U=some (.ok (.val (.ow d)),U):=rfl
def qi(i:Nat)(U:Env)(b:Bool):zA Hd:=if b then some (.ok (.slot i),U) else none
theorem xGa:qi i U true=some (.ok (.slot i),U):=rfl
theorem bPa:BC P C (.v i) U=qi i U ((U[i]?).bind Sl.get).isSome:=rfl
theorem qOa:BC P C (.c d) U=some (.ok (.val (.sh d)),U):=rfl
theorem aPa:BC P C (.t es) U=(ev P C false (.t es) U).bind xF:=rfl
theorem vOa:BC P C (.l es) U=(ev P C false (.l es) U).bind xF:=rfl
theorem lOa:BC P C (.lA op a b) U=(ev P C false (.lA op a b) U).bind xF:=rfl
theorem xOa:BC P C (.neg a) U=(ev P C false (.neg a) U).bind xF:=rfl
theorem nOa:BC P C (.qA op a b) U=(ev P C false (.qA op a b) U).bind xF:=rfl
theorem oOa:BC P C (.lG op rC a b c) U=(ev P C false (.lG op rC a b c) U).bind xF:=rfl
theorem jOa:BC P C (.and a b) U=(ev P C false (.and a b) U).bind xF:=rfl
theorem uOa:BC P C (.ix a b) U=(ev P C false (.ix a b) U).bind xF:=rfl
theorem zOa:BC P C (.sl a b c) U=(ev P C false (.sl a b c) U).bind xF:=rfl
theorem mOa:BC P C (.call f es) U=(ev P C false (.call f es) U).bind xF:=rfl
theorem kOa:BC P C (.bif f es) U=(ev P C false (.bif f es) U).bind xF:=rfl
theorem tOa:BC P C (.dN a ts) U=(ev P C false (.dN a ts) U).bind xF:=rfl
theorem pOa{cA cond:List E}:BC P C (.comp JA tg k cA cond imp nl) U=(ev P C false (.comp JA tg k cA cond imp nl) U).bind xF:=rfl
theorem Hy:eD P C (e::es) U=(BC P C e U).bind (Lh P C es):=rfl
def CH(op:vM)(x:Hd)(a b:Option D):Option RV:=a.bind λd=>b.bind λe=>if ZQ op x d then NC op d e else none
def uh(op:vM)(x y:Hd)(U:Env):zA RV:=done (CH op x (x.get U) (y.get U)) U
def rh(P:ZA)(C:Calls)(op:vM)(b:E)(x:Hd)(U:Env):zA RV:=(BC P C b U).bind (uh op x)
theorem Qy:ev P C t (.lA op a b) U=aAh t ((BC P C a U).bind (rh P C op b)):=rfl
theorem qv:CH op x (some (.t ds)) (some e)=NC op (.t ds) e:=by
 unfold CH ZQ;cases op<;>rfl
theorem jv:CH .Add x (some (.l ds)) (some e)=NC .Add (.l ds) e:=rfl
theorem nv:CH .Mult (.val (.ow d)) (some (.l ds)) (some e)=NC .Mult (.l ds) e:=rfl
theorem Cv{x:Hd}{i j:Int}:CH .Add x (some (.int i)) (some (.int j))=some (.sh (.int (i+j))):=rfl
theorem Kv{x:Hd}{i j:Int}:CH .Sub x (some (.int i)) (some (.int j))=some (.sh (.int (i-j))):=rfl
theorem Iv{x:Hd}{i:Int}{e:D}:CH .Mult x (some (.int i)) (some e)=NC .Mult (.int i) e:=rfl
theorem Fv{x:Hd}{i:Int}{e:D}:CH .FloorDiv x (some (.int i)) (some e)=NC .FloorDiv (.int i) e:=rfl
theorem Hv{x:Hd}{i:Int}{e:D}:CH .Mod x (some (.int i)) (some e)=NC .Mod (.int i) e:=rfl
theorem Gv{x:Hd}{i:Int}{e:D}:CH .LShift x (some (.int i)) (some e)=NC .LShift (.int i) e:=rfl
theorem Jv{x:Hd}{i:Int}{e:D}:CH .RShift x (some (.int i)) (some e)=NC .RShift (.int i) e:=rfl
theorem Dv{x:Hd}{i:Int}{e:D}:CH .BitAnd x (some (.int i)) (some e)=NC .BitAnd (.int i) e:=rfl
def Vc(h:(-(2 ^ 64)<i/\i<2 ^ 64)\/(-(2 ^ 64)<j/\j<2 ^ 64)):NC .Mult (.int i) (.int j)=some (.sh (.int (i*j))):=QA h
theorem Ru(h1:-18446744073709551616<j)(h2:j<18446744073709551616):NC .Mult (.int i) (.int j)=some (.sh (.int (i*j))):=Vc (.inr ⟨h1,h2⟩)
theorem Qu(h1:-18446744073709551616<i)(h2:i<18446744073709551616):NC .Mult (.int i) (.int j)=some (.sh (.int (i*j))):=Vc (.inl ⟨h1,h2⟩)
theorem Ou(h:0<j/\j<100000000000000000000000000000000000000000000000000000000000000000000000000000000):NC .FloorDiv (.int i) (.int j)=some (.sh (.int (i / j))):=QA h
theorem Pu(h:0<j):NC .Mod (.int i) (.int j)=some (.sh (.int (i % j))):=QA h
theorem Su(h:0<=j)(h2:j<=1000):NC .LShift (.int 1) (.int j)=some (.sh (.int (2 ^ j.toNat))):=by
 show @ite _ _ (cl _) _ _=_;rw[QA ⟨h,h2,by decide⟩,Int.one_mul]
theorem Tu(h:0<=j):NC .RShift (.int i) (.int j)=some (.sh (.int (i / 2 ^ j.toNat))):=QA h
theorem Nu:NC .BitAnd (.int i) (.int j)=some (.sh (.int (vY i j))):=rfl
theorem nK(h:jB (xs.length+ys.length)=true):NC .Add (.l xs) (.l ys)=some (.ow (.l (xs++ys))):=QA h
def iS(h1:-(2 ^ 31)<=k)(h2:k<=1000)(h3:jB (xs.length*k.toNat)=true):NC .Mult (.l xs) (.int k)=some (.ow (.l (NB k.toNat xs).flatten)):=QA ⟨h1,h2,h3⟩
theorem Tc(h:jB (xs.length+1+ys.length)=true):NC .Add (.t (x::xs)) (.t ys)=some (.sh (.t (x::xs++ys))):=QA h
noncomputable def Th(v:RV)(U:Env):zA RV:=match v.d with
 |.int i=>some (.ok (.sh (.int (-i))),U)
 |_=>none
theorem iGa:Th (.sh (.int i)) U=some (.ok (.sh (.int (-i))),U):=rfl
theorem kz:ev P C t (.neg a) U=aAh t ((ev P C false a U).bind Th):=rfl
noncomputable def Vh(v:RV)(U:Env):zA RV:=match v with
 |.sh (.bl b)=>some (.ok (.sh (.bl (!b))),U)
 |_=>none
theorem jGa:Vh (.sh (.bl b)) U=some (.ok (.sh (.bl (!b))),U):=rfl
theorem mz:ev P C true (.not a) U=(ev P C true a U).bind Vh:=rfl
def sj(o:Option D):Option RV:=o.bind λd=>(QJ d).map λb=>.sh (.bl (!b))
def Uh(x:Hd)(U:Env):zA RV:=done (sj (x.get U)) U
theorem hLa:sj (some (.bl b))=some (.sh (.bl (!b))):=rfl
theorem lz:ev P C false (.not a) U=(BC P C a U).bind Uh:=rfl
def N0(op:yI)(a b:Option D):Option RV:=a.bind λd=>b.bind λe=>(aC op d e).map λb=>.sh (.bl b)
theorem Ww:N0 op (some d) (some e)=(aC op d e).map λb=>.sh (.bl b):=rfl
def Td(op:yI)(a b:Option D):Option Bool:=a.bind λd=>b.bind λe=>aC op d e
theorem Vw:Td op (some d) (some e)=aC op d e:=rfl
def Bh(op:yI)(x y:Hd)(U:Env):zA RV:=done (N0 op (x.get U) (y.get U)) U
def Ah(P:ZA)(C:Calls)(op:yI)(b:E)(x:Hd)(U:Env):zA RV:=(BC P C b U).bind (Bh op x)
theorem Sy:ev P C t (.qA op a b) U=(BC P C a U).bind (Ah P C op b):=rfl
def YW(op:yI)(y z:Hd)(U:Env):zA RV:=done (N0 op (y.get U) (z.get U)) U
def XW(P:ZA)(C:Calls)(rC:yI)(y:Hd)(c:E)(U:Env):Option Bool->zA RV
 |none=>none
 |some false=>some (.ok (.sh (.bl false)),U)
 |some true=>(BC P C c U).bind (YW rC y)
theorem dFa:XW P C rC y c U (some false)=some (.ok (.sh (.bl false)),U):=rfl
theorem eFa:XW P C rC y c U (some true)=(BC P C c U).bind (YW rC y):=rfl
theorem cFa:XW P C rC y c U (some b)=if b=true then(BC P C c U).bind (YW rC y) else some (.ok (.sh (.bl false)),U):=by cases b<;>rfl
def xh(P:ZA)(C:Calls)(op rC:yI)(c:E)(x y:Hd)(U:Env):zA RV:=XW P C rC y c U (Td op (x.get U) (y.get U))
def vh(P:ZA)(C:Calls)(op rC:yI)(b c:E)(x:Hd)(U:Env):zA RV:=(BC P C b U).bind (xh P C op rC c x)
theorem Uy:ev P C t (.lG op rC a b c) U=(BC P C a U).bind (vh P C op rC b c):=rfl
theorem yw:aC .Lt (.int i) (.int j)=some (decide (i<j)):=rfl
theorem xw:aC .LtE (.int i) (.int j)=some (decide (i<=j)):=rfl
theorem tw:aC .Gt (.int i) (.int j)=some (decide (j<i)):=rfl
theorem qw:aC .GtE (.int i) (.int j)=some (decide (j<=i)):=rfl
theorem Bd:aC .Eq (.int i) (.int j)=some (decide (i=j)):=rfl
theorem Dd:aC .NotEq (.int i) (.int j)=some (!decide (i=j)):=rfl
def Aw(h1:QC 20 d=true)(h2:QC 20 e=true):aC .NotEq d e=some (!fI d e):=by
 show(if(QC 20 d&&QC 20 e)=true then some (!fI d e) else none)=_;rw[h1,h2];rfl
theorem mw:aC .Eq (.str a) (.str b)=some (a==b):=rfl
theorem vw:aC .Is .iA .iA=some true:=rfl
theorem uw:aC .Is (.int i) .iA=some false:=rfl
theorem Dw:aC .IsNot .iA .iA=some false:=rfl
theorem Cw:aC .IsNot (.int i) .iA=some true:=rfl
theorem vYa:QJ (.bl b)=some b:=rfl
def a7(P:ZA)(C:Calls)(t:Bool)(b:E)(v:RV)(U:Env):zA RV:=match v with
 |.sh (.bl true)=>ev P C t b U
 |.sh (.bl false)=>some (.ok (.sh (.bl false)),U)
 |_=>none
def J7(P:ZA)(C:Calls)(t:Bool)(b:E)(v:RV)(U:Env):zA RV:=match v with
 |.sh (.bl true)=>some (.ok (.sh (.bl true)),U)
 |.sh (.bl false)=>ev P C t b U
 |_=>none
def Oh(P:ZA)(C:Calls)(t:Bool)(a b:E)(v:RV)(U:Env):zA RV:=match v with
 |.sh (.bl true)=>ev P C t a U
 |.sh (.bl false)=>ev P C t b U
 |_=>none
theorem Ny:ev P C t (.and a b) U=(ev P C t a U).bind (a7 P C t b):=rfl
theorem oz:ev P C t (.or a b) U=(ev P C t a U).bind (J7 P C t b):=rfl
theorem yEa:a7 P C t b (.sh (.bl true)) U=ev P C t b U:=rfl
theorem xEa:a7 P C t b (.sh (.bl false)) U=some (.ok (.sh (.bl false)),U):=rfl
theorem lGa:J7 P C t b (.sh (.bl true)) U=some (.ok (.sh (.bl true)),U):=rfl
theorem kGa:J7 P C t b (.sh (.bl false)) U=ev P C t b U:=rfl
theorem yFa:Oh P C t a b (.sh (.bl true)) U=ev P C t a U:=rfl
theorem xFa:Oh P C t a b (.sh (.bl false)) U=ev P C t b U:=rfl
def xD(a:Option D)(k:D):Option RV:=a.bind λd=>(IT d k).map .sh
def Qh(x:Hd)(k:RV)(U:Env):zA RV:=done (xD (x.get U) k.d) U
def Ph(P:ZA)(C:Calls)(i:E)(x:Hd)(U:Env):zA RV:=(ev P C false i U).bind (Qh x)
theorem cz:ev P C t (.ix a i) U=aAh t ((BC P C a U).bind (Ph P C i)):=rfl
def gEa(h:L2.fC ds i=some d):xD (some (.l ds)) (.int i)=some (.sh d):=by
 show(L2.fC ds i).map RV.sh=_;rw[h];rfl
theorem hEa:xD (some (.t ds)) (.int i)=(L2.fC ds i).map RV.sh:=rfl
theorem lh:xD (some (.l ds)) (.int i)=(L2.fC ds i).map RV.sh:=rfl
def DV:L2.fC xs (OfNat.ofNat n)=xs[n]?:=by
 show L2.fC xs ((n:Nat):Int)=_
 cases h:xs[n]? with
 |some v=>exact L2.wL h
 |none =>
  unfold L2.fC L2.EG
  have:=List.getElem?_eq_none_iff.mp h
  rw[QA (by lia),UA (by lia)];rfl
theorem Pc:L2.fC xs 0=xs[0]?:=DV (n:=0)
theorem Du:L2.fC xs 1=xs[1]?:=DV (n:=1)
theorem Eu:L2.fC xs 2=xs[2]?:=DV (n:=2)
theorem Gu:L2.fC xs 3=xs[3]?:=DV (n:=3)
def uEa:xD (some (.l (a::l))) (.int 0)=some (.sh a):=gEa (by rw[Pc];rfl)
def tI(a l h:Option D):Option RV:=a.bind λd=>(pN l).bind λl=>(pN h).bind λh=>MX d l h
def oi(x:Hd)(l h:Option D)(U:Env):zA RV:=done (tI (x.get U) l h) U
def qN(P:ZA)(C:Calls)(e:E)(U:Env):zA (Option D):=aAJ e (ev P C false e U) U
def ni(P:ZA)(C:Calls)(hi:E)(x:Hd)(l:Option D)(U:Env):zA RV:=(qN P C hi U).bind (oi x l)
def mi(P:ZA)(C:Calls)(lo hi:E)(x:Hd)(U:Env):zA RV:=(qN P C lo U).bind (ni P C hi x)
theorem vRa:qN P C .TF U=some (.ok none,U):=rfl
noncomputable def JT(v:RV)(U:Env):zA (Option D):=some (.ok (some v.d),U)
theorem tRa:qN P C (.c d) U=some (.ok (some d),U):=rfl
theorem wRa:qN P C (.v i) U=(ev P C false (.v i) U).bind JT:=rfl
theorem sRa:qN P C (.lA op a b) U=(ev P C false (.lA op a b) U).bind JT:=rfl
theorem rRa:qN P C (.bif f es) U=(ev P C false (.bif f es) U).bind JT:=rfl
theorem vz:ev P C t (.sl a lo hi) U=aAh t ((BC P C a U).bind (mi P C lo hi)):=rfl
def f7(P:ZA)(C:Calls)(f:String)(hs:List Hd)(U:Env):zA RV:=pF (P f) (C f) hs U
theorem Ry:ev P C t (.call f es) U=aAh t ((eD P C es U).bind (f7 P C f)):=rfl
def i7(aA:List Bool)(hs:List Hd)(U U1:Env):zA RV->zA RV
 |none=>none
 |some (o,VA)=>(aAg aA hs VA U U1).map λU'=>(o,U')
def yh(aA:List Bool)(f:List Sl->zA RV)(hs:List Hd)(U:Env):Option (List Sl×Env)->zA RV
 |none=>none
 |some (as,U1)=>i7 aA hs U U1 (f as)
theorem Ux:pF aA f hs U=yh aA f hs U (aAj aA hs U):=rfl
theorem fFa:yh aA f hs U (some (as,U1))=i7 aA hs U U1 (f as):=rfl
noncomputable def zh(o:Out RV)(x:Option Env):zA RV:=x.map λU'=>(o,U')
theorem hFa:zh o (some U)=some (o,U):=rfl
theorem gFa:i7 aA hs U U1 (some (o,VA))=zh o (aAg aA hs VA U U1):=rfl
noncomputable def MK(a:Sl)(o:Option (List Sl×Env)):Option (List Sl×Env):=o.map λ(as,U')=>(a::as,U')
theorem zFa:MK a (some (as,U))=some (a::as,U):=rfl
theorem yHa:aAj [] [] U=some ([],U):=rfl
theorem bIa:aAj (p::ps) (.val (.sh d)::r) U=MK (.sh d) (aAj ps r U):=rfl
theorem aIa:aAj (true::ps) (.val (.ow d)::r) U=MK (.ow d true false) (aAj ps r U):=rfl
theorem zHa:aAj (false::ps) (.val (.ow d)::r) U=MK (.sh d) (aAj ps r U):=rfl
def aX(p:Bool)(ps:List Bool)(i:Nat)(r:List Hd)(U:Env):Option Sl->Option (List Sl×Env)
 |some (.sh d)=>MK (.sh d) (aAj ps r U)
 |some (.ow d pin lk)=>match p with
  |true=>MK (.ow d true lk) (aAj ps r (U.set i .un))
  |false=>if pin||lk then none else MK (.sh d) (aAj ps r (U.set i (.sh d)))
 |_=>none
theorem cIa:aAj (p::ps) (.slot i::r) U=aX p ps i r U U[i]?:=rfl
theorem cGa:aX p ps i r U (some (.sh d))=MK (.sh d) (aAj ps r U):=rfl
theorem bGa:aX true ps i r U (some (.ow d pin lk))=MK (.ow d true lk) (aAj ps r (U.set i .un)):=rfl
theorem aGa:aX false ps i r U (some (.ow d false false))=MK (.sh d) (aAj ps r (U.set i (.sh d))):=rfl
theorem T_:aAg [] [] [] U0 U=some U:=rfl
theorem R_:aAg (false::ps) (.slot i::hs) (a::as) U0 U=aAg ps hs as U0 U:=rfl
theorem S_:aAg (false::ps) (.val v::hs) (a::as) U0 U=aAg ps hs as U0 U:=rfl
theorem V_:aAg (true::ps) (.val v::hs) (a::as) U0 U=aAg ps hs as U0 U:=rfl
def z7(ps:List Bool)(i:Nat)(hs:List Hd)(a:Sl)(as:List Sl)(U0 U:Env)(o:Option Sl):Option Env :=
  match o,a with
  |some (.ow _ pin lk),.ow d _ _=>aAg ps hs as U0 (U.set i (.ow d pin lk))
  |some (.ow _ _ _),_=>none
  |_,_=>aAg ps hs as U0 U
theorem U_:aAg (true::ps) (.slot i::hs) (a::as) U0 U=z7 ps i hs a as U0 U U0[i]?:=rfl
theorem nFa:z7 ps i hs (.ow d p l) as U0 U (some (.ow d' p' l'))=aAg ps hs as U0 (U.set i (.ow d p' l')):=rfl
theorem oFa:z7 ps i hs a as U0 U (some (.sh d))=aAg ps hs as U0 U:=rfl
def qh(f:BI)(hs:List Hd)(U:Env):zA RV:=done ((getAll hs U).bind (JF f)) U
theorem Py:ev P C t (.bif f es) U=aAh t ((eD P C es U).bind (qh f)):=rfl
theorem Q_:getAll [] U=some []:=rfl
noncomputable def uf(a:Option D)(b:Option (List D)):Option (List D):=a.bind λd=>b.map (d :: ·)
theorem O_:uf (some d) (some ds)=some (d::ds):=rfl
theorem P_:getAll (h::r) U=uf (h.get U) (getAll r U):=rfl
theorem i_:JF .len [.l ds]=some (.sh (.int ds.length)):=rfl
theorem j_:JF .len [.t ds]=some (.sh (.int ds.length)):=rfl
theorem g_:JF .abs [.int i]=some (.sh (.int (if i<0 then -i else i))):=rfl
theorem h_:JF .int [.bl b]=some (.sh (.int (if b then 1 else 0))):=rfl
theorem k_:JF .list [.t ds]=some (.ow (.l ds)):=rfl
theorem n_:JF .tuple [.l ds]=some (.sh (.t ds)):=rfl
theorem l_:JF .max [.int i,.int j]=some (.sh (.int (if j > i then j else i))):=rfl
def R6(ts:List Ty):Option D->Option RV
 |some d=>(ET ts d).map λb=>.sh (.bl b)
 |none=>none
def E7(ts:List Ty)(x:Hd)(U:Env):zA RV:=done (R6 ts (x.get U)) U
theorem bz:ev P C t (.dN a ts) U=aAh t ((BC P C a U).bind (E7 ts)):=by
 show aAh t ((BC P C a U).bind λx U1=>done ((x.get U1).bind λd=>(ET ts d).map λb=>.sh (.bl b)) U1)=_
 congr 2
 funext x U1
 unfold E7;cases x.get U1<;>rfl
theorem eDa:R6 [.int] (some (.int i))=some (.sh (.bl true)):=rfl
theorem dDa:R6 [.bool] (some (.int i))=some (.sh (.bl false)):=rfl
def nh(i:Nat)(d:D)(U:Env)(o:Option Sl):zA RV:=match o with
 |some (.ow (.l ds) p false)=>if jB (ds.length+1) then some (.ok (.sh .iA),U.set i (.ow (.l (ds++[d])) p false)) else none
 |_=>none
def oh(i:Nat)(v:RV)(U:Env):zA RV:=nh i v.d U U[i]?
theorem zEa:nh i d U (some (.ow (.l ds) p false))=QT (jB (ds.length+1)) (.sh .iA) (U.set i (.ow (.l (ds++[d])) p false)):=rfl
noncomputable def C7(r:zA RV)(b:Bool):zA RV:=if b then r else none
theorem rFa:C7 r true=r:=rfl
theorem Oy:ev P C t (.app i a) U=aAh t (C7 ((ev P C false a U).bind (oh i)) (IJ U i)):=rfl
noncomputable def PQ:Option Sl->Bool
 |some (.ow (.l _) _ _)=>true
 |_=>false
theorem tDa:IJ U i=PQ U[i]?:=rfl
theorem sDa:PQ (some (.ow (.l ds) p l))=true:=rfl
def ph(i:Nat)(v:RV)(U:Env):Run:=dH (store i v U)
theorem Nz:ex P C W (.HA i e) U=(ev P C false e U).nC (ph i):=rfl
noncomputable def eP(i:Nat)(v:RV)(U:Env)(o:Option Sl):Option Env:=match o with
 |none=>none
 |some (.ow _ true _)=>none
 |some (.ow _ _ true)=>none
 |some _=>match v with
  |.sh d=>some (U.set i (.sh d))
  |.ow d=>some (U.set i (.ow d false false))
  |.od _=>none
theorem f9:store i v U=eP i v U U[i]?:=rfl
theorem kXa:eP i (.sh d) U (some .un)=some (U.set i (.sh d)):=rfl
theorem jXa:eP i (.ow d) U (some .un)=some (U.set i (.ow d false false)):=rfl
theorem iXa:eP i (.sh d) U (some (.sh d'))=some (U.set i (.sh d)):=rfl
theorem hXa:eP i (.ow d) U (some (.sh d'))=some (U.set i (.ow d false false)):=rfl
noncomputable def LA:Sl->Bool
 |.un=>true
 |.mv=>true
 |.sh _=>true
 |.ow _ false false=>true
 |_=>false
theorem RB(h:LA s=true):eP i (.sh d) U (some s)=some (U.set i (.sh d)):=by
 cases s with
 |ow d p l=>cases p<;>cases l<;>first | rfl | cases h
 |_=>rfl
theorem gXa(h:LA s=true):eP i (.ow d) U (some s)=some (U.set i (.ow d false false)):=by
 cases s with
 |ow d p l=>cases p<;>cases l<;>first | rfl | cases h
 |_=>rfl
theorem yLa:LA .un=true:=rfl
theorem xLa:LA (.sh d)=true:=rfl
theorem vd:lB true [i] d U=store i (.sh d) U:=rfl
theorem ud:lB false (i::is) (.t ds) U=aAo (i::is) ds U:=rfl
theorem Ul:aAo [] [] U=some U:=rfl
def si(is:List Nat)(ds:List D)(o:Option Env):Option Env:=o.bind (aAo is ds)
theorem Rl:aAo (i::is) (d::ds) U=si is ds (store i (.sh d) U):=rfl
theorem ui:si is ds (some U)=aAo is ds U:=rfl
def Jl(i:Nat)(v:D)(U:Env):Option Sl->D->Run
 |some (.ow (.l ds) p false),.int n=>dH ((L2.EG ds.length n).map λm=>U.set i (.ow (.l (ds.set m v)) p false))
 |_,_=>none
def ki(i:Nat)(v:RV)(j:RV)(U:Env):Run:=Jl i v.d U U[i]? j.d
noncomputable def Nh(r:Run)(b:Bool):Run:=if b then r else none
theorem sFa:Nh r true=r:=rfl
noncomputable def nTa(i:Nat)(v j:RV)(U:Env):Option Sl->Run
 |o=>match o,j,v with
  |_,_,_=>none
def oGa(i:Nat)(v:RV)(j:RV)(U:Env):Run:=nTa i v j U U[i]?
noncomputable def yT:Option Sl->Bool
 |_=>false
theorem lDa:jDa U i=yT U[i]?:=rfl
noncomputable def D7(r r':Run)(b:Bool):Run:=if b then r else r'
theorem uFa:D7 r r' true=r:=rfl
theorem tFa:D7 r r' false=r':=rfl
theorem Mz:UE P C W (.WK c b) U=nI (ev P C true c) (DA P C W b) (wD P C W b) W U:=rfl
def Yh(i:Nat)(v:RV)(j:RV)(U:Env):Run:=sN i U U[i]? (mF j.d) v
def pR(h:jB (ks.length+1)=true):sN i U (some (.ow (.cB ks ds) p false)) (some k) v=some (.nx,U.set i (.ow (.cB (gH ks k) (YF ks ds k v.d)) p false)):=QA h
noncomputable def CT:Option Sl->Bool
 |some (.ow (.cB _ _) _ _)=>true
 |_=>false
theorem nDa:zT U i=CT U[i]?:=rfl
theorem mDa:CT (some (.ow (.cB ks ds) p l))=true:=rfl
theorem kDa:yT (some (.ow (.cB ks ds) p l))=false:=rfl
theorem rDa:PQ (some (.ow (.cB ks ds) p l))=false:=rfl
def ai(P:ZA)(C:Calls)(i:Nat)(k:E)(v:RV)(U:Env):Run:=Nh ((ev P C false k U).nC (Yh i v)) (zT U i)
def ji(P:ZA)(C:Calls)(i:Nat)(k:E)(v:RV)(U:Env):Run:=D7 ((ev P C false k U).nC (ki i v)) (ai P C i k v U) (IJ U i)
theorem Vz:ex P C W (.set i k e) U=(ev P C false e U).nC (ji P C i k):=rfl
def fEa:L2.EG (n+2) 1=some 1:=by unfold L2.EG;rw[QA (by lia),QA (by lia)];rfl
theorem eWa:Jl i v U (some (.ow (.l (a::b::ds)) p false)) (.int 1)=some (.nx,U.set i (.ow (.l (a::v::ds)) p false)):=by
 show dH ((L2.EG (ds.length+2) 1).map _)=_;rw[fEa];rfl
noncomputable def Hh(v:RV)(U:Env):Run:=some (.nx,U)
theorem Pz:ex P C W (.expr e) U=(ev P C false e U).nC Hh:=rfl
noncomputable def P8(i:Nat)(U:Env):Option Sl->Run
 |some (.ow d false _)=>some (.rt (.ow d),U.set i .mv)
 |some (.sh d)=>some (.rt (.sh d),U)
 |_=>none
theorem uUa:P8 i U (some (.ow d false l))=some (.rt (.ow d),U.set i .mv):=rfl
theorem vUa:P8 i U (some (.sh d))=some (.rt (.sh d),U):=rfl
noncomputable def KH(v:RV)(U:Env):Run:=some (.rt v,U)
theorem Tz:ex P C W (.ret (.v i)) U=P8 i U U[i]?:=rfl
theorem Ay:ex P C W (.ret (.c d)) U=(ev P C false (.c d) U).nC KH:=rfl
theorem Fy:ex P C W (.ret (.t es)) U=(ev P C false (.t es) U).nC KH:=rfl
theorem Cy:ex P C W (.ret (.l es)) U=(ev P C false (.l es) U).nC KH:=rfl
theorem wy:ex P C W (.ret (.lA op a b)) U=(ev P C false (.lA op a b) U).nC KH:=rfl
theorem yy:ex P C W (.ret (.qA op a b)) U=(ev P C false (.qA op a b) U).nC KH:=rfl
theorem uy:ex P C W (.ret (.and a b)) U=(ev P C false (.and a b) U).nC KH:=rfl
theorem Ey:ex P C W (.ret (.or a b)) U=(ev P C false (.or a b) U).nC KH:=rfl
theorem By:ex P C W (.ret (.ix a b)) U=(ev P C false (.ix a b) U).nC KH:=rfl
theorem xy:ex P C W (.ret (.call f es)) U=(ev P C false (.call f es) U).nC KH:=rfl
theorem vy:ex P C W (.ret (.bif f es)) U=(ev P C false (.bif f es) U).nC KH:=rfl
theorem zy{cA cond:List E}:ex P C W (.ret (.comp JA tg k cA cond imp nl)) U=(ev P C false (.comp JA tg k cA cond imp nl) U).nC KH:=rfl
def B7(P:ZA)(C:Calls)(W:Nat)(a b:List S)(v:RV)(U:Env):Run:=match v with
 |.sh (.bl true)=>DA P C W a U
 |.sh (.bl false)=>DA P C W b U
 |_=>none
theorem wFa:B7 P C W a b (.sh (.bl true)) U=DA P C W a U:=rfl
theorem vFa:B7 P C W a b (.sh (.bl false)) U=DA P C W b U:=rfl
theorem Rz:ex P C W (.yA c a b) U=(ev P C true c U).nC (B7 P C W a b):=rfl
def df(P:ZA)(C:Calls)(W:Nat)(tg:List Nat)(one:Bool)(body:List S)(U:Env):Option (List D×Option Nat)->Run
 |none=>none
 |some (ds,o)=>(uD (lB one tg) (DA P C W body) ds (aAi o U)).restore o U
theorem A_:df P C W tg one body U (some (ds,o))=(uD (lB one tg) (DA P C W body) ds (aAi o U)).restore o U:=rfl
def aA1(P:ZA)(C:Calls)(W:Nat)(tg:List Nat)(one:Bool)(k:kF)(body:List S)(hs:List Hd)(U:Env):Run:=df P C W tg one body U (aAb k hs U)
theorem Qz:ex P C W (.for tg one k cA body) U=(eD P C cA U).nC (aA1 P C W tg one k body):=rfl
theorem Xz:ex P C W (.WK c body) U=RF (ev P C true c) (DA P C W body) W U:=rfl
theorem J2:DA P C W [] U=some (.nx,U):=rfl
theorem LI:DA P C W (s::r) U=(ex P C W s U).next (DA P C W r):=rfl
theorem aVa{r:Run}:r.restore none U0=r:=by cases r with | none=>rfl | some y=>obtain⟨fl,U⟩:=y;rfl
theorem cZa:aAi none U=U:=rfl
def LK(h:a.get U=some (.int n))(h1:-1000000<=n)(h2:n<=1000000):aAb .MB [a] U=some ((UB n.toNat).map λ(j:Nat)=>.int (j:Int),none):=by
 (unfold aAb;simp only[h]);exact QA ⟨h1,h2⟩
def T6(h:a.get U=some (.int m))(h':b.get U=some (.int n))(h1:-1000000<=m/\m<=1000000)(h2:-1000000<=n/\n<=1000000):aAb .MB [a,b] U=some ((UB (n-m).toNat).map λ(j:Nat)=>.int (m+(j:Int)),none):=by
 (unfold aAb;simp only[h,h']);exact QA ⟨h1,h2⟩
def WW(h:v.d=.l ds):aAb .of [.val v] U=some (ds,none):=by(unfold aAb;simp only[h])
def FT(h:v.d=.t ds):aAb .of [.val v] U=some (ds,none):=by(unfold aAb;simp only[h])
def T7{bind:D->Env->Option Env}(I:Env->Prop)(h:∀d∈ds,∀U,I U->∃U1,bind d U=some U1/\∃U2,body U1=some (.nx,U2)/\I U2):∀{U:Env},I U->∃U',uD bind body ds U=some (.nx,U')/\I U':=by
 induction ds with
 |nil=>exact λhU=>⟨_,rfl,hU⟩
 |cons d ds ih =>
  intro U hU;obtain⟨U1,e1,U2,e2,h2⟩:=h d (by simp) U hU;obtain⟨U',e3,h3⟩:=ih (λd' sF=>h d' (by simp[sF])) h2;exact⟨U',by simp only[uD,e1,e2,e3],h3⟩
def FG{bind:D->Env->Option Env}(I:List D->Env->Prop)(h:∀pre d post,ds=pre++d::post->∀U,I pre U->∃U1,bind d U=some U1/\∃U2,body U1=some (.nx,U2)/\I (pre++[d]) U2)(h0:I [] U):∃U',uD bind body ds U=some (.nx,U')/\I ds U':=by
 have key:∀(post pre:List D) (U:Env),ds=pre++post->I pre U->∃U',uD bind body post U=some (.nx,U')/\I ds U':=by
  intro post
  induction post with
  |nil=>intro pre U e hp;rw[kE] at e;subst e;exact⟨U,rfl,hp⟩
  |cons d post ih =>
   intro pre U e hp;obtain⟨U1,e1,U2,e2,h2⟩:=h pre d post e U hp;obtain⟨U',e3,h3⟩:=ih (pre++[d]) U2 (by rw[e];simp) h2;exact⟨U',by simp only[uD,e1,e2,e3],h3⟩
 exact key ds [] U rfl h0
noncomputable def MT(as:List Sl):Run->zA RV
 |some (.nx,U)=>some (.ok (.sh .iA),back as U)
 |some (.rt v,U)=>some (.ok v,back as U)
 |_=>none
theorem tGa:MT as (some (.nx,U))=some (.ok (.sh .iA),back as U):=rfl
theorem gi:MT as (some (.rt v,U))=some (.ok v,back as U):=rfl
def Bl(hT:T f=some fn)(h1:as.length=fn.aA.length)(h2:as.all QK=true)(h3:fn.rs=false:=by rfl):run T W (n+1) f as=MT as (DA T.aA (run T W n) W fn.body (as++NB fn.nl .un)):=by
 simp only[run,hT];rw[QA ⟨h1,h2⟩,h3];generalize DA T.aA (run T W n) W fn.body (as++NB fn.nl .un)=r;obtain _ | ⟨fl,U⟩:=r
 ·rfl
 ·cases fl<;>rfl
def aAO(T:Tab)(W n:Nat)(fn:Fn)(as:List Sl):Option (Exc×Env):=wD T.aA (run T W n) W fn.body (as++NB fn.nl .un)
def NT(as:List Sl)(r:Run)(o:Option (Exc×Env)):zA RV:=match r with
 |some (.nx,U)=>some (.ok (.sh .iA),back as U)
 |some (.rt v,U)=>some (.ok v,back as U)
 |_=>match o with
  |some (x,U)=>some (.ex x,back as U)
  |none=>none
theorem rGa:NT as (some (.nx,U)) o=some (.ok (.sh .iA),back as U):=rfl
theorem sGa:NT as (some (.rt v,U)) o=some (.ok v,back as U):=rfl
theorem qGa:NT as none o=(match o with | some (x,U)=>some (.ex x,back as U) | none=>none):=rfl
def iVa(hT:T f=some fn)(h1:as.length=fn.aA.length)(h2:as.all QK=true)(h3:fn.rs=true:=by rfl):run T W (n+1) f as=NT as (DA T.aA (run T W n) W fn.body (as++NB fn.nl .un)) (aAO T W n fn as):=by
 simp only[run,hT];rw[QA ⟨h1,h2⟩,h3];unfold aAO;generalize DA T.aA (run T W n) W fn.body (as++NB fn.nl .un)=r;obtain _ | ⟨fl,U⟩:=r
 ·rfl
 ·cases fl<;>rfl
end
end CI
namespace CI
open PySem PySem.Spec PyProof.Rows L2
noncomputable def Yd:D->eA->Bool
 |.iA,.none=>true
 |.bl a,.bool b=>a==b
 |.int i,.int j _=>i==j
 |.str x,.str y _=>x==y&&HP x
 |_,_=>false
def S0:List D->List eA->Bool
 |[],[]=>true
 |d::ds,v::vs=>Yd d v&&S0 ds vs
 |_,_=>false
def ax{K:fA}(h:Yd d u=true):∃v,aAf v u/\∀G,jA K G d v:=by
 cases d<;>cases u<;>try exact nomatch (show false=true from h)
 ·exact⟨.iA,rfl,λG=>by simp[jA]⟩
 ·exact⟨.bl _,rfl,λG=>by simp[jA,GC (show(_==_)=true from h)]⟩
 ·rename_i i j t;exact⟨.int i,⟨t,by rw[GC (show(i==j)=true from h)]⟩,λG=>by simp[jA]⟩
 ·rename_i x y t;replace h:=(aB _ _).mp h;exact⟨.str x,⟨t,by rw[GC h.1]⟩,λG=>by simp[jA,h.2]⟩
theorem Zd{K:fA}:∀{ds:List D} {us:List eA},S0 ds us=true->∃vs,aAd vs us/\∀G,kA K G ds vs
 |[],[],_=>⟨[],.nil,λG=>kA.nil⟩
 |d::ds,u::us,h=>by
  replace h:=(aB _ _).mp h;obtain⟨v,h1,h2⟩:=ax (K:=K) h.1;obtain⟨vs,h3,h4⟩:=Zd (K:=K) h.2;exact⟨v::vs,.cons h1 h3,λG=>kA.cons (h2 G) (h4 G)⟩
 |[],_::_,h=>nomatch (show false=true from h)
 |_::_,[],h=>nomatch (show false=true from h)
def de{K:fA}{sl}(X:K.In h)(G:h.Ns TB mg)
  (ha:WC K TB x=some (some (.ref a))) (hl:K.lookup a=some ⟨.type "tuple",dd,.seq cA n,sl⟩) (hc:S0 ds cA.toList=true) (hz:decide (cA.size<=1000)=true):lJ K mg T gl (x,.c (.t ds)):=by
 obtain⟨vs,h1,h2⟩:=Zd hc;refine⟨_,.ref a,FP X G ha,rfl,λG=>?_⟩;simp only[jA];exact⟨a,vs,rfl,.inr ⟨_,cA,n,hl,rfl,rfl,vD (UU hz) (by decide),h1⟩,h2 G⟩
noncomputable section
variable{U U1:Env}
def l7(P:ZA)(C:Calls)(JA:E)(tg:List Nat)(k:kF)(cond:List E)(imp:List Nat)(nl:Nat)(hs:List Hd)(U1:Env):zA RV :=
 match aAb k hs U1 with
 |none=>none
 |some (ds,o)=>(pF (imp.map λ_=>true) (lO (aD P C cond) (ev P C false JA) (lB (tg.length==1) tg) ds nl) (imp.map Hd.slot) (aAi o U1)).bind (aAA o U1)
theorem Vy{cA cond:List E}:ev P C t (.comp JA tg k cA cond imp nl) U=aAh t ((eD P C cA U).bind (l7 P C JA tg k cond imp nl)):=rfl
def nG{cond:List E}(h:aAb k hs U1=some (ds,none)) :
  l7 P C JA tg k cond imp nl hs U1=(pF (imp.map λ_=>true) (lO (aD P C cond) (ev P C false JA) (lB (tg.length==1) tg) ds nl) (imp.map Hd.slot) U1).bind (aAA none U1):=by
 unfold l7;rw[h];rfl
theorem A':aAA none U1 v U2=some (.ok v,U2):=rfl
def j7(as:List Sl)(BA:List D)(Ui:Env):zA RV:=if jB BA.length then some (.ok (.ow (.l BA)),back as Ui) else none
theorem kQ{bind:D->Env->Option Env}(h:as.all QK=true):lO tests JA bind ds nl as=(OE tests JA bind ds [] (as++NB nl .un)).bind (j7 as):=by
 unfold lO;rw[QA h];rfl
theorem iFa(h:jB BA.length=true):j7 as BA Ui=some (.ok (.ow (.l BA)),back as Ui):=by unfold j7;rw[QA h]
theorem pO:aD P C [] U=some (.ok (.sh (.bl true)),U):=rfl
def vi(P:ZA)(C:Calls)(es:List E)(v:RV)(U1:Env):zA RV:=match v with
 |.sh (.bl true)=>aD P C es U1
 |.sh (.bl false)=>some (.ok (.sh (.bl false)),U1)
 |_=>none
theorem Jy:aD P C (e::es) U=(ev P C true e U).bind (vi P C es):=rfl
theorem cHa:vi P C [] (.sh (.bl b)) U1=some (.ok (.sh (.bl b)),U1):=by
 cases b
 ·rfl
 ·show aD P C [] U1=_;exact pO
theorem yQa:QK (.ow d true l)=true:=rfl
theorem zQa:QK (.sh d)=true:=rfl
def YM{bind:D->Env->Option Env}(I:Nat->List D->Env->Prop)
  (step:∀(j:Nat) (d:D),ds[j]?=some d->∀BA U,I j BA U->∃U1 c U2,bind d U=some U1/\tests U1=some (.ok (.sh (.bl c)),U2)/\(c=true->∃v U3,JA U2=some (.ok v,U3)/\I (j+1) (BA++[v.d]) U3)/\(c=false->I (j+1) BA U2)) :
  ∀BA U,I 0 BA U->∃HF U',OE tests JA bind ds BA U=some (.ok HF,U')/\I ds.length HF U'/\HF.length<=BA.length+ds.length:=by
 have key:∀(es:List D) (j:Nat),ds.drop j=es->∀BA U,I j BA U->∃HF U',OE tests JA bind es BA U=some (.ok HF,U')/\I (j+es.length) HF U'/\HF.length<=BA.length+es.length:=by
  intro es
  induction es with
  |nil=>intro j _ BA U h;exact⟨BA,U,rfl,h,by simp⟩
  |cons d es ih =>
   intro j hj BA U h
   have hd:ds[j]?=some d:=by
    have:(ds.drop j)[0]?=some d:=by rw[hj];rfl
    simpa using this
   have jg:ds.drop (j+1)=es:=by
    have:(ds.drop j).drop 1=es:=by rw[hj];rfl
    rw[xb] at this;exact this
   obtain⟨U1,c,U2,h1,h2,h3,h4⟩:=step j d hd BA U h;simp only[OE,h1,h2,zA.bind]
   cases c with
   |false =>
    obtain⟨HF,U',e1,e2,e3⟩:=ih (j+1) jg BA U2 (h4 rfl);refine⟨HF,U',e1, ?_,by simp only[kD];lia⟩
    have:j+(d::es).length=j+1+es.length:=by simp only[kD];lia
    rw[this];exact e2
   |true =>
    obtain⟨v,U3,h5,h6⟩:=h3 rfl;obtain⟨HF,U',e1,e2,e3⟩:=ih (j+1) jg (BA++[v.d]) U3 h6;simp only[h5];refine⟨HF,U',e1, ?_,by simp only[gC,kD,mL] at e3 ⊢;lia⟩
    have:j+(d::es).length=j+1+es.length:=by simp only[kD];lia
    rw[this];exact e2
 intro BA U h
 have:=key ds 0 rfl BA U h
 simpa using this
def PB(h:n<=1000000):jB n=true:=ZF h
end
end CI
namespace CI
open PySem (Operator CmpOp Str)
noncomputable section
variable{U U1 U2:Env}
theorem sOa:BC P C (.OD i) U=(ev P C false (.OD i) U).bind xF:=rfl
theorem aAx:∀ns:List Int,OC (ns.map D.int)=some ns
 |[]=>rfl
 |n::r=>by(show(OC (r.map D.int)).map (n :: ·)=_;rw[aAx r];rfl)
noncomputable def Z6(r:zA Hd)(f:Env->Option (Exc×Env))(o:Option (Exc×Env)):Option (Exc×Env):=match r with
 |some (.ok _,U1)=>f U1
 |_=>o
theorem My:pK P C (e::es) U=Z6 (BC P C e U) (pK P C es) (cH P C e U):=rfl
theorem wEa:Z6 (some (.ok h,U)) f o=f U:=rfl
theorem vEa:Z6 (some (.ex x,U)) f o=o:=rfl
theorem Uz:ex P C W (.RK c es) U=none:=rfl
noncomputable def cX(r:Run)(f:Env->Option (Exc×Env))(o:Option (Exc×Env)):Option (Exc×Env):=match r with
 |some (.nx,U1)=>f U1
 |_=>o
theorem a_:wD P C W (s::r) U=cX (ex P C W s U) (wD P C W r) (UE P C W s U):=rfl
theorem wGa:cX (some (.nx,U)) f o=f U:=rfl
theorem vGa:cX none f o=o:=rfl
theorem uGa:cX (some (.ex x,U)) f o=o:=rfl
noncomputable def A7(r:zA RV)(f g:Env->Option (Exc×Env)):Option (Exc×Env):=match r with
 |some (.ok (.sh (.bl true)),U1)=>f U1
 |some (.ok (.sh (.bl false)),U1)=>g U1
 |_=>none
theorem Gz:UE P C W (.yA c a b) U=A7 (ev P C true c U) (wD P C W a) (wD P C W b):=rfl
theorem qFa:A7 (some (.ok (.sh (.bl true)),U)) f g=f U:=rfl
theorem pFa:A7 (some (.ok (.sh (.bl false)),U)) f g=g U:=rfl
noncomputable def di(c:bA)(r:zA (List D)):Option (Exc×Env):=match r with
 |some (.ok _,U1)=>some (⟨c,none⟩,U1)
 |_=>none
theorem Kz:UE P C W (.RK c es) U=di c (qF P C es U):=rfl
theorem pGa:di c (some (.ok ds,U))=some (⟨c,none⟩,U):=rfl
theorem Fz:UE P C W (.for tg one k cA body) U=none:=rfl
theorem Dz:UE P C W (.HA i e) U=cH P C e U:=rfl
theorem Ez:UE P C W (.expr e) U=cH P C e U:=rfl
theorem Sz{h e:E}:ex P C W (.cP h e) U=(ev P C false e U).nC KH:=rfl
theorem Jz{h e:E}:UE P C W (.cP h e) U=cH P C h U:=rfl
theorem Iz:UE P C W (.ret e) U=cH P C e U:=rfl
def v7(r:zA RV):Option (Exc×Env):=match r with
 |some (.ex x,U')=>some (x,U')
 |_=>none
theorem jFa:v7 (some (.ex x,U))=some (x,U):=rfl
def d7(P:ZA)(C:Calls)(f:String)(r:zA (List Hd))(o:Option (Exc×Env)):Option (Exc×Env):=match r with
 |some (.ok hs,U1)=>v7 (pF (P f) (C f) hs U1)
 |_=>o
theorem Ly:cH P C (.call f es) U=d7 P C f (eD P C es U) (pK P C es U):=rfl
theorem aFa:d7 P C f (some (.ok hs,U)) o=v7 (pF (P f) (C f) hs U):=rfl
theorem bFa:d7 P C f (some (.ex x,U)) o=o:=rfl
theorem rOa:BC P C (.fld a f) U=(ev P C false (.fld a f) U).bind xF:=rfl
theorem wOa:BC P C (.JJ i m tb es) U=(ev P C false (.JJ i m tb es) U).bind xF:=rfl
theorem yOa:BC P C (.XO a) U=(ev P C false (.XO a) U).bind xF:=rfl
def uj(o:Option D):Option RV:=o.bind cU
def Wh(x:Hd)(U:Env):zA RV:=done (uj (x.get U)) U
theorem nz:ev P C t (.XO a) U=aAh t ((BC P C a U).bind Wh):=rfl
theorem uRa:qN P C (.neg a) U=(ev P C false (.neg a) U).bind JT:=rfl
theorem az:ev P C t (.OD i) U=aAh t (ZW i U U[i]?):=rfl
def EH(o:Option D)(f:bA):Option RV:=o.bind λd=>(O2 d f).map .sh
def Kh(f:bA)(x:Hd)(U:Env):zA RV:=done (EH (x.get U) f) U
theorem Zy:ev P C t (.fld a f) U=aAh t ((BC P C a U).bind (Kh f)):=rfl
noncomputable def bX(c:bA)(ns:List bA)(ds:List D)(U:Env):zA RV:=if ds.length=ns.length then some (.ok (.sh (.ins c ns ds)),U) else none
theorem fz:ev P C t (.make c ns es) U=aAh t ((qF P C es U).bind (bX c ns)):=rfl
theorem dGa:bX c [f] [a] U=some (.ok (.sh (.ins c [f] [a])),U):=rfl
theorem eGa:bX c [f,g] [a,b] U=some (.ok (.sh (.ins c [f,g] [a,b])),U):=rfl
theorem fGa:bX c [f,g,h] [a,b,d] U=some (.ok (.sh (.ins c [f,g,h] [a,b,d])),U):=rfl
def G7(P:ZA)(C:Calls)(f:String)(d:D)(hs:List Hd)(U:Env):zA RV:=f7 P C f (.val (.sh d)::hs) U
def F7(P:ZA)(C:Calls)(d:D)(es:List E)(U:Env):Option String->zA RV
 |some f=>(eD P C es U).bind (G7 P C f d)
 |none=>none
theorem gGa:F7 P C d es U (some f)=(eD P C es U).bind (G7 P C f d):=rfl
def Sh(P:ZA)(C:Calls)(m:bA)(tb:List (bA×String))(es:List E)(U:Env):Option Sl->zA RV
 |some (.sh (.ins c ns ds))=>F7 P C (.ins c ns ds) es U (fH c ns m tb)
 |_=>none
theorem hGa:Sh P C m tb es U (some (.sh (.ins c ns ds)))=F7 P C (.ins c ns ds) es U (fH c ns m tb):=rfl
theorem gz:ev P C t (.JJ i m tb es) U=aAh t (Sh P C m tb es U U[i]?):=rfl
theorem dEa:aAb .key [.val (.sh (.cB ks ds))] U=some (ks.map mO,none):=rfl
theorem Dy:ex P C W (.ret (.make c ns es)) U=(ev P C false (.make c ns es) U).nC KH:=rfl
theorem Bw:aC .NotEq (.bl a) (.bl b)=some (!(a==b)):=rfl
theorem zg0:(a::l)[0]?=some a:=rfl
theorem zg1:(a::l)[n+1]?=l[n]?:=rfl
theorem zs0:(a::l).set 0 b=b::l:=rfl
theorem zs1:(a::l).set (n+1) b=a::l.set n b:=rfl
theorem zb:(some a).bind f=f a:=rfl
theorem zm:(some a).map f=some (f a):=rfl
theorem zi:(some a).isSome=true:=rfl
theorem zc:(a::l)++m=a::(l++m):=rfl
theorem zn:[]++l=l:=rfl
theorem zr0:NB 0 a=[]:=rfl
theorem zr1:NB (n+1) a=a::NB n a:=rfl
theorem zl0:([]:List O).length=0:=rfl
theorem zl1:(a::l).length=l.length+1:=rfl
theorem znt:(!true)=false:=rfl
theorem znf:(!false)=true:=rfl
theorem zko:back (.ow d p l::as) (b::bs)=b::back as bs:=rfl
theorem zks:back (.sh d::as) (b::bs)=.sh d::back as bs:=rfl
theorem zkn:back [] bs=[]:=rfl
end
def fIa{Q:List O->Prop}(h:∀a0,Q [a0])(us:List O)(hl:us.length=1):Q us:=by
 obtain _ | ⟨a0,r0⟩:=us
 ·simp at hl
 obtain _ | ⟨x,y⟩:=r0
 ·exact h a0
 ·simp at hl
def gIa{Q:List O->Prop}(h:∀a0 a1,Q [a0,a1])(us:List O)(hl:us.length=2):Q us:=by
 obtain _ | ⟨a0,r0⟩:=us
 ·simp at hl
 obtain _ | ⟨a1,r1⟩:=r0
 ·simp at hl
 obtain _ | ⟨x,y⟩:=r1
 ·exact h a0 a1
 ·simp at hl
def hIa{Q:List O->Prop}(h:∀a0 a1 a2,Q [a0,a1,a2])(us:List O)(hl:us.length=3):Q us:=by
 obtain _ | ⟨a0,r0⟩:=us
 ·simp at hl
 obtain _ | ⟨a1,r1⟩:=r0
 ·simp at hl
 obtain _ | ⟨a2,r2⟩:=r1
 ·simp at hl
 obtain _ | ⟨x,y⟩:=r2
 ·exact h a0 a1 a2
 ·simp at hl
def iIa{Q:List O->Prop}(h:∀a0 a1 a2 a3,Q [a0,a1,a2,a3])(us:List O)(hl:us.length=4):Q us:=by
 obtain _ | ⟨a0,r0⟩:=us
 ·simp at hl
 obtain _ | ⟨a1,r1⟩:=r0
 ·simp at hl
 obtain _ | ⟨a2,r2⟩:=r1
 ·simp at hl
 obtain _ | ⟨a3,r3⟩:=r2
 ·simp at hl
 obtain _ | ⟨x,y⟩:=r3
 ·exact h a0 a1 a2 a3
 ·simp at hl
def jIa{Q:List O->Prop}(h:∀a0 a1 a2 a3 a4,Q [a0,a1,a2,a3,a4])(us:List O)(hl:us.length=5):Q us:=by
 obtain _ | ⟨a0,r0⟩:=us
 ·simp at hl
 obtain _ | ⟨a1,r1⟩:=r0
 ·simp at hl
 obtain _ | ⟨a2,r2⟩:=r1
 ·simp at hl
 obtain _ | ⟨a3,r3⟩:=r2
 ·simp at hl
 obtain _ | ⟨a4,r4⟩:=r3
 ·simp at hl
 obtain _ | ⟨x,y⟩:=r4
 ·exact h a0 a1 a2 a3 a4
 ·simp at hl
def kIa{Q:List O->Prop}(h:∀a0 a1 a2 a3 a4 a5,Q [a0,a1,a2,a3,a4,a5])(us:List O)(hl:us.length=6):Q us:=by
 obtain _ | ⟨a0,r0⟩:=us
 ·simp at hl
 obtain _ | ⟨a1,r1⟩:=r0
 ·simp at hl
 obtain _ | ⟨a2,r2⟩:=r1
 ·simp at hl
 obtain _ | ⟨a3,r3⟩:=r2
 ·simp at hl
 obtain _ | ⟨a4,r4⟩:=r3
 ·simp at hl
 obtain _ | ⟨a5,r5⟩:=r4
 ·simp at hl
 obtain _ | ⟨x,y⟩:=r5
 ·exact h a0 a1 a2 a3 a4 a5
 ·simp at hl
open PySem PySem.Spec PyProof.Rows L2 in
def BQ(x dB:bA)(st:XA)(kV doc pm:eA)(an:Option gA)(bB ct:eA)(us:List eA):Prop:=PySem.bindArgs (VH x dB (dI st) (nE st) (pC st) .none kV doc pm an bB ct) ⟨us,[]⟩=pure ((iD st).zip us)
def fc{P:O->Prop}(h:P a)(t:∀x∈l,P x):∀x∈a::l,P x:=Ea.mpr ⟨h,t⟩
section
open PySem PySem.Spec PyProof.Rows L2
def p_{K:fA}{mg:bA->Option eA}{h:JB}{T:Tab}{gl:bA->GV}{x:bA}{f:String}{st:XA}{fn:Fn}{r:List (bA×GV)}(X:K.In h)(G:h.Ns TB mg)(O:SR gl st x fn)(t:∀e∈r,lJ K mg T gl e)(hT:T f=some fn:=by rfl)(D:RR K x st:=by refine' CI.Be ?a ?l ?c ?k;(case a | l | c | k=>k_is)):∀e∈(x,GV.fn f)::r,lJ K mg T gl e:=fc (ly X G D O hT) t
abbrev Jc(st:XA):Prop:=(jM st).Nodup/\(jM st).take (iD st).length=iD st/\(∀x∈iD st,(pC st).names.lookup x=some .local\/(pC st).names.lookup x=some .cell)/\∀y∈(pC st).names,y.2≠.free
abbrev IM(x dB:bA)(st:XA):Prop:=∀(kV doc pm:eA) (an:Option gA) (bB ct:eA) (us:List eA),us.length=(iD st).length->BQ x dB st kV doc pm an bB ct us
def KJ{st:XA}(q:IM x dB st)(h1:(pC st).kind=.function:=by rfl)(h2:(pC st).isCoroutine=false:=by rfl)(h3:(pC st).isGenerator=false:=by rfl)(h:Jc st/\(jM st).length=fn.aA.length+fn.nl/\(iD st).length=fn.aA.length:=by decide +kernel)(b:fn.body=je gl st:=by kernel_rfl):WH gl st x dB fn :=
 ⟨⟨h1,h2,h3,h.1.1,h.1.2.1,h.1.2.2.1,h.1.2.2.2⟩,b,h.2.1,h.2.2,q⟩
def VO{st:XA}(q:IM "__init__" dB st)(h1:(pC st).kind=.function:=by rfl)(h2:(pC st).isCoroutine=false:=by rfl)(h3:(pC st).isGenerator=false:=by rfl)(h:Jc st/\(iD st).length=ns.length+1/\ns.Nodup/\ns.length<1000:=by decide +kernel)(b:ZL (iD st) 1 (nE st)=some ns:=by kernel_rfl):rL st dB ns :=
 ⟨⟨h1,h2,h3,h.1.1,h.1.2.1,h.1.2.2.1,h.1.2.2.2⟩,b,h.2.1,h.2.2.1,h.2.2.2,q⟩
variable{st:XA}
def aI(hn:(iD st).length=1:=by rfl)(h:∀kV doc pm an bB ct a0,BQ x dB st kV doc pm an bB ct [a0]:=by intros;exact rfl):IM x dB st:=λkV doc pm an bB ct us hl=>fIa (h kV doc pm an bB ct) us (hl.trans hn)
def vE(hn:(iD st).length=2:=by rfl)(h:∀kV doc pm an bB ct a0 a1,BQ x dB st kV doc pm an bB ct [a0,a1]:=by intros;exact rfl):IM x dB st:=λkV doc pm an bB ct us hl=>gIa (h kV doc pm an bB ct) us (hl.trans hn)
def zG(hn:(iD st).length=3:=by rfl)(h:∀kV doc pm an bB ct a0 a1 a2,BQ x dB st kV doc pm an bB ct [a0,a1,a2]:=by intros;exact rfl):IM x dB st:=λkV doc pm an bB ct us hl=>hIa (h kV doc pm an bB ct) us (hl.trans hn)
def II(hn:(iD st).length=4:=by rfl)(h:∀kV doc pm an bB ct a0 a1 a2 a3,BQ x dB st kV doc pm an bB ct [a0,a1,a2,a3]:=by intros;exact rfl):IM x dB st:=λkV doc pm an bB ct us hl=>iIa (h kV doc pm an bB ct) us (hl.trans hn)
def Av(hn:(iD st).length=5:=by rfl)(h:∀kV doc pm an bB ct a0 a1 a2 a3 a4,BQ x dB st kV doc pm an bB ct [a0,a1,a2,a3,a4]:=by intros;exact rfl):IM x dB st:=λkV doc pm an bB ct us hl=>jIa (h kV doc pm an bB ct) us (hl.trans hn)
def Bv(hn:(iD st).length=6:=by rfl)(h:∀kV doc pm an bB ct a0 a1 a2 a3 a4 a5,BQ x dB st kV doc pm an bB ct [a0,a1,a2,a3,a4,a5]:=by intros;exact rfl):IM x dB st:=λkV doc pm an bB ct us hl=>kIa (h kV doc pm an bB ct) us (hl.trans hn)
end
def Ih(i:Nat)(v:RV)(U:Env)(o:Option Sl):zA RV:=match o,v with
 |some (.ow (.l ds) p false),.ow (.l es)=>if jB (ds.length+es.length) then some (.ok (.sh .iA),U.set i (.ow (.l (ds++es)) p false)) else none
 |_,_=>none
def Jh(i:Nat)(v:RV)(U:Env):zA RV:=Ih i v U U[i]?
theorem kFa:Ih i (.ow (.l es)) U (some (.ow (.l ds) p false))=QT (jB (ds.length+es.length)) (.sh .iA) (U.set i (.ow (.l (ds++es)) p false)):=rfl
theorem Yy:ev P C t (.ext i a) U=aAh t (C7 ((ev P C false a U).bind (Jh i)) (IJ U i)):=rfl
def Gh(v u:RV)(U:Env):zA RV:=bW (mF v.d) u U
def Fh(P:ZA)(C:Calls)(b:E)(v:RV)(U:Env):zA RV:=(ev P C false b U).bind (Gh v)
theorem Xy:ev P C t (.sS a b) U=aAh t ((ev P C false a U).bind (Fh P C b)):=rfl
def jWa:zU (.t [.int t,.t (ns.map D.int)])=some (t,ns):=by
 show(OC (ns.map D.int)).map _=_;rw[aAx];rfl
def mWa:mF (.t [.int t,.t (ns.map D.int)])=some (.inl (t,ns)):=by
 show(zU _).map _=_;rw[jWa];rfl
def zw{ns ms:List Int}:aC .Lt (.l (ns.map .int)) (.l (ms.map .int))=some (HT.aAy ns ms):=by
 show(OC (ns.map D.int)).bind _=_;rw[aAx];show(OC (ms.map D.int)).map _=_;rw[aAx];rfl
def TQ(hk:mF e=some k)(h:fM ks ds k=some d):xD (some (.cB ks ds)) e=some (.sh d):=by
 show(((mF e).bind (fM ks ds)).map RV.sh)=_;rw[hk];show((fM ks ds k).map RV.sh)=_;rw[h];rfl
def Ed(hk:mF e=some k):aC .NotIn e (.cB ks ds)=some !KL ks k:=by
 show((mF e).map _).map _=_;rw[hk];rfl
theorem j0:JF .len [.cB ks ds]=some (.sh (.int ks.length)):=rfl
theorem uz{i:Nat}:ev P C t (.kR i) U=aAh t (kU i U U[i]?):=rfl
noncomputable def Xh(i:Nat)(p:Bool)(l:List D)(U:Env)(o:Option D):zA RV:=o.map λd=>(.ok (.sh d),U.set i (.ow (.l l) p false))
theorem hRa{i:Nat}{ds:List D}{p:Bool}:kU i U (some (.ow (.l ds) p false))=Xh i p ds.dropLast U ds[ds.length-1]?:=rfl
theorem mGa{i:Nat}{p:Bool}{l:List D}{d:D}:Xh i p l U (some d)=some (.ok (.sh d),U.set i (.ow (.l l) p false)):=rfl
theorem Oz:ex P C W (.aug i e) U=aO i U[i]? (ev P C false e U):=rfl
theorem Ju:aO i (some (.sh (.int a))) (some (.ok (.sh (.int b)),U))=dH (store i (.sh (.int (a+b))) U):=rfl
def L7(cs:List bA)(r:Run)(o:Option (Exc×Env)):Run:=match r with
 |some (.nx,U1)=>some (.nx,U1)
 |some (.rt v,U1)=>some (.rt v,U1)
 |_=>XM cs o
theorem Wz:ex P C W (.xR b cs) U=L7 cs (DA P C W b U) (wD P C W b U):=rfl
theorem bHa:L7 cs (some (.rt v,U)) o=some (.rt v,U):=rfl
theorem aHa:L7 cs (some (.ex x,U)) o=XM cs o:=rfl
def Qw(h:cs.contains x.cls=true):XM cs (some (x,U))=some (.rt (.sh .iA),U):=by
 show(if cs.contains x.cls=true then _ else none)=_;rw[QA h]
end CI
namespace Tx
noncomputable abbrev _root_.CI.E.n(d:Int):CI.E:=.c (.int d)
noncomputable abbrev _root_.CI.E.s(d:bA):CI.E:=.c (.str d)
noncomputable abbrev _root_.CI.E.b(d:Bool):CI.E:=.c (.bl d)
open PySem PySem.Spec PyProof.Rows L2 CI
noncomputable def top(i:Nat):XA:=PySem.Challenge.pw_canonwright_k46_whole_far_lists.main.body.getD i (.Pass ⟨0,0,0,0⟩)
noncomputable def WV:List bA:=["TooMany"]
noncomputable def PJ:List (bA×String):=[("Span","V"),("Leap","X"),("Back","Y"),("Again","Z"),("Range","0"),("Above","2"),("Never","3")]
noncomputable def xN:List (bA×String):=[("Span","W"),("Range","1")]
def L:List (bA×GV):=("NOTES",.c (.int 0))::("BAR",.c (.int 1))::("OCTAVE",.c (.int 2))::("VOICES",.c (.int 3))::("RULES",.c (.int 4))::("LATE",.c (.int 0))::("SHIFT",.c (.int 1))::("TURNED",.c (.int 2))::("LEADER",.c (.t [(.int 0),(.int 0),(.bl false)]))::("BY_THE_LINE",.c (.t []))::("TURN",.c (.int 0))::("TAIL",.c (.int 1))::("NOTE",.c (.int 0))::("AFTER",.c (.int 1))::("LEAST_MEMORY",.c (.int 3))::("MOST_STANDS",.c (.int 150))::("MOST_NOTES",.c (.int 40))::("is_whole",.fn "I")::("is_within",.fn "s")::("pitch",.fn "J")::("singer",.fn "K")::("sung",.fn "l")::("span",.fn "j")::("chord",.fn "d")::("sounding_pairs",.fn "t")::("move_so",.fn "L")::("rule_of",.fn "e")::("rules_of",.fn "u")::("breaks_at",.fn "m")::("first_break",.fn "M")::("check_let_by",.fn "n")::("memory",.fn "v")::("turn_of",.fn "N")::("stand_of",.fn "h")::("line_to",.fn "w")::("nexts",.fn "x")::("behind",.fn "o")::("steps_of",.fn "y")::("steps_from",.fn "i")::("check_many",.fn "z")::("through",.fn "b")::("rows_of",.fn "k")::("count",.fn "p")::("nth",.fn "A")::("number_of",.fn "B")::("_law_pen",.fn "C")::("_law_draw",.fn "a")::("_law_rule",.fn "D")::("_law_house",.fn "E")::("_law_small",.fn "O")::("_law_heard",.fn "f")::("_law_by_line",.fn "q")::("_law_moved_so",.fn "P")::("_law_bad_pair",.fn "F")::("_law_broken",.fn "c")::("_law_memory",.fn "Q")::("_law_stand",.fn "G")::("_law_as_line",.fn "R")::("_law_free",.fn "g")::("_law_ways",.fn "H")::("_law_come",.fn "S")::("_law_walked",.fn "T")::("_law_breaks",.fn "U")::("_law_count",.fn "r")::("law",.fn "law")::("Span",.cls ["beat","spans"])::("Leap",.cls ["most"])::("Back",.cls ["leap","most"])::("Again",.cls ["most"])::("Range",.cls ["low","high"])::("Above",.cls ["one","other"])::("Never",.cls ["one","other","way"])::(dot "broken",.yF PJ)::(dot "forbids",.yF xN)::("abs",.vB)::("all",.vB)::("bool",.vB)::("enumerate",.vB)::("int",.vB)::("isinstance",.vB)::("len",.vB)::("list",.vB)::("max",.vB)::("range",.vB)::("set",.vB)::("sum",.vB)::("tuple",.vB)::("{}",.vB)::("TooMany",.exc)::("NoNumber",.exc)::(cat "TooMany",.DA WV)::[]
noncomputable def Sw:XA->List XA
 |.ClassDef _ _ _ body _ _ _ _ _ _ _=>body
 |_=>[]
def GG(i j:Nat):XA:=(Sw (top i)).getD j (.Pass ⟨0,0,0,0⟩)
noncomputable def J1:E:=(.call "l" [.v 1,.v 2,.v 4,.v 0])
noncomputable def E1:E:=(.t [.v 4,.v 5])
noncomputable def A1:E:=(.qA .Eq (.v 3) (.ix (.v 1) (.v 0)))
noncomputable def D1:E:=(.t [.v 2])
noncomputable def P1:E:=(.call "e" [.v 1])
def N1:E:=(.ix (.v 1) (.n 0))
noncomputable def O1:E:=(.v 4)
noncomputable def S1:E:=(.t [.v 3,.call "o" [.v 0,.v 1,.v 3]])
def Q1:E:=(.ix (.v 1) (.n 1))
def T1:E:=(.ix (.v 0) (.ix (.v 2) (.n 1)))
noncomputable def vS:E:=(.v 2)
noncomputable def xS:E:=(.v 2)
noncomputable def B1:E:=(.t [.v 3])
def C1:E:=(.lA .Add (.n 1) (.ix (.v 1) (.n 0)))
noncomputable def cW:E:=(.v 3)
noncomputable def WZ:List S:=[.yA (.and (.qA .IsNot (.ix (.v 0) (.v 2)) (.c .iA)) (.qA .IsNot (.ix (.v 0) (.v 3)) (.c .iA))) [.expr (.app 1 (.t [.v 2,.v 3]))] []]
def XZ:List S:=[.for [3] true .MB [.lA .Add (.v 2) (.n 1),.bif .len [.v 0]] WZ]
noncomputable def OZ:List S:=[.yA (.and (.qA .Eq (.call "j" [.v 4,.ix (.v 5) (.v 8),.ix (.v 5) (.v 9)]) (.fld (.v 0) "one")) (.qA .Eq (.call "j" [.v 4,.ix (.v 6) (.v 8),.ix (.v 6) (.v 9)]) (.fld (.v 0) "other"))) [.yA (.call "L" [.fld (.v 0) "way",.lA .Sub (.ix (.v 6) (.v 8)) (.ix (.v 5) (.v 8)),.lA .Sub (.ix (.v 6) (.v 9)) (.ix (.v 5) (.v 9))]) [.expr (.app 7 (.t [.v 8,.v 9]))] []] []]
noncomputable def PZ:List S:=[.expr (.app 4 (.t [.v 3,.v 5,.v 7]))]
def QZ:List S:=[.for [7] true .of [.JJ 6 "broken" PJ [.v 0,.v 2,.v 3]] PZ]
def RZ:List S:=[.HA 4 (.call "m" [.v 0,.v 2,.v 1,.v 3]),.yA (.qA .Gt (.bif .len [.v 4]) (.n 0)) [.ret (.ix (.v 4) (.n 0))] []]
def kG:List S:=[.HA 4 (.kR 3),.yA (.qA .NotIn (.v 4) (.v 2)) [.yA (.qA .Eq (.bif .len [.v 2]) (.n 150)) [.RK "TooMany" [.s "more than 150 stands come"]] [],.set 2 (.v 4) (.call "y" [.v 0,.v 4]),.expr (.ext 3 (.comp Q1 [1] .of [.ix (.v 2) (.v 4)] [] [] 2))] []]
def TZ:List S:=[.set 2 (.v 3) (.n 1)]
noncomputable def UZ:List S:=[.set 2 (.v 3) (.call "b" [.ix (.v 0) (.v 3),.ix (.v 4) (.v 5)])]
def VZ:List S:=[.HA 2 .oO,.for [3] true .key [.OD 0] UZ,.expr (.app 4 (.v 2))]
def FV:List S:=[.aug 10 (.n 1)]
def HV:List S:=[.HA 10 (.n 0),.WK (.qA .LtE (.call "b" [.sl (.ix (.v 5) (.v 4)) .TF (.lA .Add (.v 10) (.n 1)),.ix (.v 6) (.v 9)]) (.v 8)) FV,.aug 8 (.neg (.call "b" [.sl (.ix (.v 5) (.v 4)) .TF (.v 10),.ix (.v 6) (.v 9)])),.expr (.app 7 (.ix (.ix (.ix (.v 5) (.v 4)) (.v 10)) (.n 0))),.HA 4 (.ix (.ix (.ix (.v 5) (.v 4)) (.v 10)) (.n 1))]
def IV:List S:=[.HA 9 (.comp vS [2] .of [.ix (.v 4) (.v 3)] [.qA .Eq (.ix (.v 2) (.n 0)) (.v 0)] [8] 2),.yA (.qA .Eq (.bif .len [.v 9]) (.n 0)) [.RK "NoNumber" [.s "behind the line the list makes none that is let by"]] [],.aug 6 (.call "b" [.comp xS [2] .of [.ix (.v 4) (.v 3)] [.qA .Lt (.ix (.v 2) (.n 0)) (.v 0)] [8] 2,.ix (.v 5) (.lA .Sub (.bif .len [.v 2]) (.v 7))]),.HA 3 (.ix (.ix (.v 9) (.n 0)) (.n 1))]
def JZ:List S:=[.HA 8 (.call "a" [.v 0,.ix (.l [.n 2,.n 5]) (.bif .int [.v 1])]),.expr (.app 6 (.t [.v 8,.lA .Sub (.call "a" [.v 0,.n 25]) (.n 12),.qA .Eq (.call "a" [.v 0,.n 4]) (.n 0)]))]
noncomputable def KZ:List S:=[.expr (.app 9 (.call "D" [.v 0,.v 2,.v 3,.v 4,.v 5]))]
def LZ:List S:=[.expr (.app 6 (.t [.call "a" [.v 0,.n 3],.lA .Sub (.call "a" [.v 0,.n 25]) (.n 12),.qA .Eq (.call "a" [.v 0,.n 4]) (.n 0)]))]
noncomputable def MZ:List S:=[.expr (.app 8 (.call "D" [.v 0,.v 2,.v 3,.v 4,.v 5]))]
def IZ:List S:=[.HA 7 (.c .iA),.yA (.lG .LtE .Lt (.n 0) (.lA .Sub (.v 2) (.v 4)) (.bif .len [.v 1])) [.HA 7 (.lA .Add (.v 5) (.ix (.v 1) (.lA .Sub (.v 2) (.v 4)))),.yA (.v 6) [.HA 7 (.lA .Sub (.v 5) (.ix (.v 1) (.lA .Sub (.v 2) (.v 4))))] []] [],.expr (.app 3 (.v 7))]
noncomputable def kS:List S:=[.yA (.call "F" [.v 0,.v 1,.v 8,.v 4,.v 5,.v 10]) [.expr (.app 9 (.t [.v 5,.v 10]))] []]
def lS:List S:=[.for [10] true .MB [.lA .Add (.v 5) (.n 1),.bif .len [.v 4]] kS]
def HZ:List S:=[.yA (.qA .NotEq (.call "c" [.v 0,.v 2,.v 1,.lA .Sub (.bif .len [.v 1]) (.n 1)]) (.l [])) [.ret (.b false)] []]
noncomputable def NZ:List S:=[.HA 4 (.lA .Add (.call "R" [.v 1]) (.l [.v 3])),.yA (.call "g" [.v 0,.v 4]) [.expr (.app 2 (.t [.v 3,.call "G" [.v 0,.v 4]]))] []]
noncomputable def dO:List S:=[.yA (.qA .NotIn (.v 6) (.v 2)) [.set 2 (.v 6) (.c .iA),.expr (.app 3 (.v 6))] []]
def gQ:List S:=[.HA 4 (.kR 3),.set 2 (.v 4) (.call "H" [.v 0,.v 4]),.for [5,6] false .of [.ix (.v 2) (.v 4)] dO]
def mS:List S:=[.HA 5 (.comp cW [3] .MB [.ix (.v 0) (.n 0)] [.call "g" [.v 0,.lA .Add (.v 1) (.l [.v 3])]] [0,3] 2),.yA (.qA .NotEq (.v 5) (.l [])) [.expr (.app 3 (.ix (.v 5) (.call "a" [.v 1,.bif .len [.v 5]])))] []]
noncomputable def Xu:List S:=[.expr (.app 2 (.t [.v 3,.v 4,.v 5]))]
def FZ:List S:=[.for [5] true .of [.call "c" [.v 0,.ix (.ix (.v 0) (.n 4)) (.v 4),.v 1,.v 3]] Xu]
def GZ:List S:=[.for [4] true .MB [.bif .len [.ix (.v 0) (.n 4)]] FZ]
def nS:List S:=[.yA (.call "g" [.v 1,.lA .Add (.v 3) (.l [.v 9])]) [.HA 8 (.lA .Add (.v 8) (.call "p" [.v 1,.lA .Add (.v 3) (.l [.v 9]),.lA .Sub (.v 4) (.n 1)]))] []]
def i9:S:=(.HA 5 (.call "a" [.v 0,.n 9]))
def l0a{P:ZA}{C:Calls}{W:Nat}{U:CI.Env}:ex P C W i9 U=ex P C W (.HA 5 (.call "a" [(.v 0),(.c (.int 9))])) U:=(rfl)
def j9:S:=(.yA (.qA .Lt (.v 5) (.n 2)) [.ret (.t [.s "span",.call "a" [.v 0,.v 2],.call "a" [.v 0,.lA .LShift (.n 1) (.v 3)]])] [])
def Qo{P:ZA}{C:Calls}{W:Nat}{U:CI.Env}:ex P C W j9 U=ex P C W (.yA (.qA .Lt (.v 5) (.c (.int 2))) [(.ret (.t [(.c (.str ("span":bA))),(.call "a" [(.v 0),(.v 2)]),(.call "a" [(.v 0),(.lA .LShift (.c (.int 1)) (.v 3))])]))] []) U:=(rfl)
def Yl:S:=(.yA (.qA .Eq (.v 5) (.n 2)) [.ret (.t [.s "span",.call "a" [.v 0,.v 2],.lA .Sub (.lA .Sub (.lA .LShift (.n 1) (.v 3)) (.n 1)) (.lA .LShift (.n 1) (.call "a" [.v 0,.v 3]))])] [])
def Ro{P:ZA}{C:Calls}{W:Nat}{U:CI.Env}:ex P C W Yl U=ex P C W (.yA (.qA .Eq (.v 5) (.c (.int 2))) [(.ret (.t [(.c (.str ("span":bA))),(.call "a" [(.v 0),(.v 2)]),(.lA .Sub (.lA .Sub (.lA .LShift (.c (.int 1)) (.v 3)) (.c (.int 1))) (.lA .LShift (.c (.int 1)) (.call "a" [(.v 0),(.v 3)])))]))] []) U:=(rfl)
def Zl:S:=(.yA (.qA .Eq (.v 5) (.n 3)) [.ret (.t [.s "leap",.call "a" [.v 0,.ix (.l [.n 13,.lA .Add (.v 1) (.n 1)]) (.call "a" [.v 0,.n 2])]])] [])
def So{P:ZA}{C:Calls}{W:Nat}{U:CI.Env}:ex P C W Zl U=ex P C W (.yA (.qA .Eq (.v 5) (.c (.int 3))) [(.ret (.t [(.c (.str ("leap":bA))),(.call "a" [(.v 0),(.ix (.l [(.c (.int 13)),(.lA .Add (.v 1) (.c (.int 1)))]) (.call "a" [(.v 0),(.c (.int 2))]))])]))] []) U:=(rfl)
def cm:S:=(.yA (.qA .Eq (.v 5) (.n 4)) [.ret (.t [.s "back",.lA .Add (.n 1) (.call "a" [.v 0,.n 12]),.lA .Add (.n 1) (.call "a" [.v 0,.n 12])])] [])
def To{P:ZA}{C:Calls}{W:Nat}{U:CI.Env}:ex P C W cm U=ex P C W (.yA (.qA .Eq (.v 5) (.c (.int 4))) [(.ret (.t [(.c (.str ("back":bA))),(.lA .Add (.c (.int 1)) (.call "a" [(.v 0),(.c (.int 12))])),(.lA .Add (.c (.int 1)) (.call "a" [(.v 0),(.c (.int 12))]))]))] []) U:=(rfl)
def dm:S:=(.yA (.qA .Eq (.v 5) (.n 5)) [.ret (.t [.s "again",.lA .Add (.n 1) (.call "a" [.v 0,.n 3])])] [])
def Uo{P:ZA}{C:Calls}{W:Nat}{U:CI.Env}:ex P C W dm U=ex P C W (.yA (.qA .Eq (.v 5) (.c (.int 5))) [(.ret (.t [(.c (.str ("again":bA))),(.lA .Add (.c (.int 1)) (.call "a" [(.v 0),(.c (.int 3))]))]))] []) U:=(rfl)
def fm:S:=(.yA (.qA .Eq (.v 5) (.n 6)) [.HA 6 (.ix (.l [.lA .Sub (.call "a" [.v 0,.n 121]) (.n 60),.lA .Sub (.call "a" [.v 0,.n 20]) (.n 12)]) (.call "a" [.v 0,.n 2])),.ret (.t [.s "range",.v 6,.lA .Add (.v 6) (.call "a" [.v 0,.lA .Sub (.n 61) (.v 6)])])] [])
def Vo{P:ZA}{C:Calls}{W:Nat}{U:CI.Env}:ex P C W fm U=ex P C W (.yA (.qA .Eq (.v 5) (.c (.int 6))) [(.HA 6 (.ix (.l [(.lA .Sub (.call "a" [(.v 0),(.c (.int 121))]) (.c (.int 60))),(.lA .Sub (.call "a" [(.v 0),(.c (.int 20))]) (.c (.int 12)))]) (.call "a" [(.v 0),(.c (.int 2))]))),(.ret (.t [(.c (.str ("range":bA))),(.v 6),(.lA .Add (.v 6) (.call "a" [(.v 0),(.lA .Sub (.c (.int 61)) (.v 6))]))]))] []) U:=(rfl)
def gm:S:=(.yA (.qA .Eq (.v 5) (.n 7)) [.HA 7 (.call "a" [.v 0,.lA .Add (.v 4) (.n 1)]),.ret (.t [.s "above",.v 7,.lA .Mod (.lA .Add (.lA .Add (.v 7) (.n 1)) (.call "a" [.v 0,.v 4])) (.lA .Add (.v 4) (.n 1))])] [])
def Wo{P:ZA}{C:Calls}{W:Nat}{U:CI.Env}:ex P C W gm U=ex P C W (.yA (.qA .Eq (.v 5) (.c (.int 7))) [(.HA 7 (.call "a" [(.v 0),(.lA .Add (.v 4) (.c (.int 1)))])),(.ret (.t [(.c (.str ("above":bA))),(.v 7),(.lA .Mod (.lA .Add (.lA .Add (.v 7) (.c (.int 1))) (.call "a" [(.v 0),(.v 4)])) (.lA .Add (.v 4) (.c (.int 1))))]))] []) U:=(rfl)
def jm:S:=(.HA 8 (.t [.s "like",.s "against",.s "aside",.s "any"]))
def m0a{P:ZA}{C:Calls}{W:Nat}{U:CI.Env}:ex P C W jm U=ex P C W (.HA 8 (.t [(.c (.str ("like":bA))),(.c (.str ("against":bA))),(.c (.str ("aside":bA))),(.c (.str ("any":bA)))])) U:=(rfl)
def km:S:=(.ret (.t [.s "never",.call "a" [.v 0,.v 3],.call "a" [.v 0,.v 3],.ix (.v 8) (.call "a" [.v 0,.n 4])]))
def n0a{P:ZA}{C:Calls}{W:Nat}{U:CI.Env}:ex P C W km U=ex P C W (.ret (.t [(.c (.str ("never":bA))),(.call "a" [(.v 0),(.v 3)]),(.call "a" [(.v 0),(.v 3)]),(.ix (.v 8) (.call "a" [(.v 0),(.c (.int 4))]))])) U:=(rfl)
noncomputable def C4:Fn:=⟨[true],0,[.ret (.and (.dN (.v 0) [.int]) (.not (.dN (.v 0) [.bool])))],false⟩
noncomputable def D4:Fn:=⟨[true,true,true],0,[.ret (.and (.call "I" [.v 0]) (.lG .LtE .LtE (.v 1) (.v 0) (.v 2)))],false⟩
def N4:Fn:=⟨[true,true],0,[.yA (.ix (.v 0) (.n 2)) [.ret (.lA .Sub (.ix (.v 0) (.n 1)) (.v 1))] [],.ret (.lA .Add (.ix (.v 0) (.n 1)) (.v 1))],false⟩
def Q4:Fn:=⟨[true,true],0,[.yA (.qA .Eq (.v 1) (.n 0)) [.ret (.c (.t [.int 0,.int 0,.bl false]))] [],.ret (.ix (.ix (.v 0) (.n 3)) (.lA .Sub (.v 1) (.n 1)))],false⟩
def X4:Fn:=⟨[true,true,true,true],2,[.HA 4 (.call "K" [.v 0,.v 2]),.HA 5 (.lA .Sub (.v 3) (.ix (.v 4) (.n 0))),.yA (.lG .LtE .Lt (.n 0) (.v 5) (.bif .len [.v 1])) [.ret (.call "J" [.v 4,.ix (.v 1) (.v 5)])] [],.ret (.c .iA)],false⟩
noncomputable def S4:Fn:=⟨[true,true,true],0,[.ret (.lA .Mod (.bif .abs [.lA .Sub (.v 1) (.v 2)]) (.v 0))],false⟩
def y4:Fn:=⟨[true,true,true],0,[.ret (.comp J1 [4] .MB [.lA .Add (.bif .len [.ix (.v 0) (.n 3)]) (.n 1)] [] [2,0,1] 2)],false⟩
def R4:Fn:=⟨[true],3,[.HA 1 (.l []),.for [2] true .MB [.bif .len [.v 0]] XZ,.ret (.v 1)],false⟩
def J4:Fn:=⟨[true,true,true],0,[.yA (.qA .Eq (.v 0) (.s "like")) [.ret (.qA .Gt (.lA .Mult (.v 1) (.v 2)) (.n 0))] [],.yA (.qA .Eq (.v 0) (.s "against")) [.ret (.qA .Lt (.lA .Mult (.v 1) (.v 2)) (.n 0))] [],.yA (.qA .Eq (.v 0) (.s "aside")) [.ret (.qA .NotEq (.qA .Eq (.v 1) (.n 0)) (.qA .Eq (.v 2) (.n 0)))] [],.ret (.b true)],false⟩
def W3:Fn:=⟨[true,true,true,true],2,[.yA (.qA .NotEq (.lA .Mod (.v 3) (.ix (.v 1) (.n 1))) (.fld (.v 0) "beat")) [.ret (.l [])] [],.HA 4 (.ix (.v 1) (.n 2)),.HA 5 (.call "d" [.v 1,.v 2,.v 3]),.ret (.comp E1 [4,5] .of [.call "t" [.v 5]] [.JJ 2 "forbids" xN [.call "j" [.v 1,.ix (.v 0) (.v 4),.ix (.v 0) (.v 5)]]] [5,4,0] 3)],false⟩
def X3:Fn:=⟨[true,true],0,[.ret (.qA .Eq (.lA .BitAnd (.lA .RShift (.fld (.v 0) "spans") (.v 1)) (.n 1)) (.n 0))],false⟩
def R3:Fn:=⟨[true,true,true,false],0,[.yA (.and (.qA .Gt (.v 3) (.n 0)) (.qA .Gt (.bif .abs [.lA .Sub (.ix (.v 2) (.v 3)) (.ix (.v 2) (.lA .Sub (.v 3) (.n 1)))]) (.fld (.v 0) "most"))) [.ret (.l [.c (.t [])])] [],.ret (.l [])],false⟩
def X2:Fn:=⟨[true,true,true,false],2,[.yA (.qA .Lt (.v 3) (.n 2)) [.ret (.l [])] [],.HA 4 (.lA .Sub (.ix (.v 2) (.lA .Sub (.v 3) (.n 1))) (.ix (.v 2) (.lA .Sub (.v 3) (.n 2)))),.HA 5 (.lA .Sub (.ix (.v 2) (.v 3)) (.ix (.v 2) (.lA .Sub (.v 3) (.n 1)))),.yA (.qA .Lt (.bif .abs [.v 4]) (.fld (.v 0) "leap")) [.ret (.l [])] [],.yA (.and (.qA .Lt (.lA .Mult (.v 4) (.v 5)) (.n 0)) (.qA .LtE (.bif .abs [.v 5]) (.fld (.v 0) "most"))) [.ret (.l [])] [],.ret (.l [.c (.t [])])],false⟩
def W2:Fn:=⟨[true,true,true,false],0,[.yA (.qA .Lt (.v 3) (.fld (.v 0) "most")) [.ret (.l [])] [],.yA (.bif .all [.comp A1 [3] .of [.sl (.v 2) (.lA .Sub (.v 3) (.fld (.v 0) "most")) (.v 3)] [] [3,2] 2]) [.ret (.l [.c (.t [])])] [],.ret (.l [])],false⟩
def T3:Fn:=⟨[true,true,true,true],0,[.ret (.comp D1 [2,3] (.enum 0) [.call "d" [.v 1,.v 2,.v 3]] [.JJ 0 "forbids" xN [.v 3]] [0] 3)],false⟩
noncomputable def V3:Fn:=⟨[true,true],0,[.ret (.and (.qA .IsNot (.v 1) (.c .iA)) (.not (.lG .LtE .LtE (.fld (.v 0) "low") (.v 1) (.fld (.v 0) "high"))))],false⟩
noncomputable def V2:Fn:=⟨[true,true,true,true],2,[.HA 4 (.call "l" [.v 1,.v 2,.fld (.v 0) "one",.v 3]),.HA 5 (.call "l" [.v 1,.v 2,.fld (.v 0) "other",.v 3]),.yA (.or (.qA .Is (.v 4) (.c .iA)) (.or (.qA .Is (.v 5) (.c .iA)) (.qA .GtE (.v 4) (.v 5)))) [.ret (.l [])] [],.ret (.l [.t [.fld (.v 0) "one",.fld (.v 0) "other"]])],false⟩
def S3:Fn:=⟨[true,true,true,true],6,[.HA 4 (.ix (.v 1) (.n 2)),.HA 5 (.call "d" [.v 1,.v 2,.lA .Sub (.v 3) (.n 1)]),.HA 6 (.call "d" [.v 1,.v 2,.v 3]),.HA 7 (.l []),.for [8,9] false .of [.call "t" [.v 5]] OZ,.ret (.v 7)],false⟩
def FL:Fn:=⟨[true],1,[.HA 1 (.ix (.v 0) (.n 0)),.yA (.qA .Eq (.v 1) (.s "span")) [.ret (.make "Span" ["beat","spans"] [.ix (.v 0) (.n 1),.ix (.v 0) (.n 2)])] [],.yA (.qA .Eq (.v 1) (.s "leap")) [.ret (.make "Leap" ["most"] [.ix (.v 0) (.n 1)])] [],.yA (.qA .Eq (.v 1) (.s "back")) [.ret (.make "Back" ["leap","most"] [.ix (.v 0) (.n 1),.ix (.v 0) (.n 2)])] [],.yA (.qA .Eq (.v 1) (.s "again")) [.ret (.make "Again" ["most"] [.ix (.v 0) (.n 1)])] [],.yA (.qA .Eq (.v 1) (.s "range")) [.ret (.make "Range" ["low","high"] [.ix (.v 0) (.n 1),.ix (.v 0) (.n 2)])] [],.yA (.qA .Eq (.v 1) (.s "above")) [.ret (.make "Above" ["one","other"] [.ix (.v 0) (.n 1),.ix (.v 0) (.n 2)])] [],.ret (.make "Never" ["one","other","way"] [.ix (.v 0) (.n 1),.ix (.v 0) (.n 2),.ix (.v 0) (.n 3)])],false⟩
def P4:Fn:=⟨[true],0,[.ret (.comp P1 [1] .of [.ix (.v 0) (.n 4)] [] [] 2)],false⟩
def i4:Fn:=⟨[true,true,true,false],4,[.HA 4 (.l []),.for [5,6] false (.enum 0) [.v 1] QZ,.ret (.v 4)],false⟩
def B4:Fn:=⟨[true,true],3,[.HA 2 (.call "u" [.v 0]),.for [3] true .MB [.bif .len [.v 1]] RZ,.ret (.c .iA)],false⟩
noncomputable def l4:Fn:=⟨[true,true],1,[.HA 2 (.call "M" [.v 0,.v 1]),.yA (.qA .IsNot (.v 2) (.c .iA)) [.oA] []],false⟩
def F4:Fn:=⟨[true],0,[.ret (.bif .max [.n 3,.lA .Add (.n 1) (.bif .max [.comp N1 [1] .of [.ix (.v 0) (.n 3)] [] [] 2])])],false⟩
def Z4:Fn:=⟨[true,false],1,[.HA 2 (.call "v" [.v 0]),.yA (.qA .LtE (.v 1) (.v 2)) [.ret (.v 1)] [],.ret (.lA .Add (.v 2) (.lA .Mod (.lA .Sub (.v 1) (.v 2)) (.ix (.v 0) (.n 1))))],false⟩
noncomputable def T4:Fn:=⟨[true,true],0,[.ret (.t [.call "N" [.v 0,.bif .len [.v 1]],.bif .tuple [.sl (.v 1) (.neg (.call "v" [.v 0])) .TF]])],false⟩
def E4:Fn:=⟨[true],0,[.ret (.lA .Add (.lA .Mult (.l [.n 0]) (.lA .Sub (.ix (.v 0) (.n 0)) (.bif .len [.ix (.v 0) (.n 1)]))) (.bif .list [.ix (.v 0) (.n 1)]))],false⟩
def K4:Fn:=⟨[true,true],2,[.HA 2 (.call "u" [.v 0]),.HA 3 (.call "w" [.v 1]),.ret (.comp O1 [4] .MB [.ix (.v 0) (.n 0)] [.qA .Eq (.bif .len [.call "m" [.v 0,.v 2,.lA .Add (.v 1) (.l [.v 4]),.bif .len [.v 1]]]) (.n 0)] [0,3,2] 2)],false⟩
noncomputable def Z3:Fn:=⟨[true,true,false],0,[.ret (.call "h" [.v 0,.lA .Add (.call "w" [.v 1]) (.l [.v 2])])],false⟩
def W4:Fn:=⟨[true,true],0,[.ret (.comp S1 [3] .of [.call "x" [.v 0,.v 1]] [] [0,1] 2)],false⟩
def V4:Fn:=⟨[true,false],3,[.HA 2 .oO,.HA 3 (.l [.v 1]),.WK (.qA .Gt (.bif .len [.v 3]) (.n 0)) kG,.ret (.v 2)],true⟩
def n4:Fn:=⟨[true],0,[.yA (.not (.call "s" [.v 0,.n 0,.n 40])) [.RK "NoNumber" [.s "a number of notes is from 0 to 40"]] []],true⟩
def Y4:Fn:=⟨[false,true],0,[.ret (.bif .sum [.comp T1 [2] .of [.v 0] [] [1] 2])],false⟩
def O4:Fn:=⟨[false,true],4,[.HA 2 .oO,.for [3] true .key [.OD 0] TZ,.HA 4 (.l [.v 2]),.for [5] true .MB [.v 1] VZ,.ret (.v 4)],false⟩
noncomputable def A4:Fn:=⟨[true,true,false],1,[.expr (.call "n" [.v 0,.v 1]),.expr (.call "z" [.v 2]),.HA 3 (.call "h" [.v 0,.v 1]),.cP (.call "k" [.call "i" [.v 0,.v 3],.v 2]) (.ix (.ix (.call "k" [.call "i" [.v 0,.v 3],.v 2]) (.v 2)) (.v 3))],true⟩
def L4:Fn:=⟨[true,true,false,false],7,[.expr (.call "n" [.v 0,.v 1]),.expr (.call "z" [.v 2]),.HA 4 (.call "h" [.v 0,.v 1]),.HA 5 (.call "i" [.v 0,.v 4]),.HA 6 (.call "k" [.v 5,.v 2]),.yA (.not (.call "s" [.v 3,.n 0,.lA .Sub (.ix (.ix (.v 6) (.v 2)) (.v 4)) (.n 1)])) [.RK "NoNumber" [.s "no list has this number"]] [],.HA 7 (.l []),.HA 8 (.v 3),.for [9] true .nU [.lA .Sub (.v 2) (.n 1),.neg (.n 1),.neg (.n 1)] HV,.ret (.v 7)],true⟩
def M4:Fn:=⟨[true,true,false],7,[.expr (.call "n" [.v 0,.v 1]),.HA 3 (.call "h" [.v 0,.v 1]),.HA 4 (.call "i" [.v 0,.v 3]),.HA 5 (.call "k" [.v 4,.bif .len [.v 2]]),.HA 6 (.n 0),.for [7,8] false (.enum 1) [.v 2] IV,.ret (.v 6)],true⟩
def K3:Fn:=⟨[true,false],1,[.yA (.and (.qA .Lt (.v 1) (.bif .len [.v 0])) (.qA .Eq (.lA .Mod (.ix (.v 0) (.n 0)) (.n 2)) (.n 0))) [.ret (.l [.n 0,.ix (.v 0) (.v 1)])] [],.HA 2 (.lA .Add (.lA .Mult (.n 30011) (.v 1)) (.n 7)),.yA (.qA .Gt (.bif .len [.v 0]) (.n 0)) [.HA 2 (.lA .Mod (.ix (.v 0) (.lA .Mod (.v 1) (.bif .len [.v 0]))) (.n 2147483587)),.HA 2 (.lA .Add (.lA .Add (.v 2) (.lA .Mult (.n 48611) (.lA .FloorDiv (.v 1) (.bif .len [.v 0])))) (.lA .Mult (.n 3) (.v 1)))] [],.ret (.l [.n 1,.lA .Mod (.lA .Add (.lA .Add (.lA .Mult (.v 2) (.n 48271)) (.lA .Mult (.n 11) (.v 1))) (.n 1)) (.n 2147483647)])],false⟩
def A3:Fn:=⟨[true,true],3,[.yA (.qA .Eq (.ix (.v 0) (.n 0)) (.n 0)) [.HA 2 (.lA .Mod (.ix (.v 0) (.n 1)) (.v 1)),.set 0 (.n 1) (.lA .FloorDiv (.ix (.v 0) (.n 1)) (.v 1)),.ret (.v 2)] [],.set 0 (.n 1) (.lA .Mod (.lA .Add (.lA .Mult (.ix (.v 0) (.n 1)) (.n 69621)) (.n 7)) (.n 2147483629)),.HA 3 (.lA .Mod (.ix (.v 0) (.n 1)) (.n 65521)),.HA 4 (.lA .FloorDiv (.ix (.v 0) (.n 1)) (.n 65521)),.ret (.lA .Mod (.lA .FloorDiv (.lA .Mod (.lA .Mult (.lA .Add (.lA .Add (.lA .Mult (.v 3) (.n 40503)) (.v 4)) (.n 1)) (.n 16807)) (.n 2147483647)) (.n 13)) (.v 1))],false⟩
def L3:Fn:=⟨[true,true,true,true,true],4,[i9,j9,Yl,Zl,cm,dm,fm,gm,jm,km],false⟩
def D3:Fn:=⟨[true],9,[.HA 1 (.qA .Eq (.call "a" [.v 0,.n 2]) (.n 0)),.HA 2 (.lA .Add (.n 1) (.call "a" [.v 0,.ix (.l [.n 4,.n 7]) (.bif .int [.v 1])])),.HA 3 (.lA .Add (.n 1) (.call "a" [.v 0,.ix (.l [.n 2,.n 4]) (.bif .int [.v 1])])),.HA 4 (.lA .Add (.n 1) (.call "a" [.v 0,.n 12])),.HA 5 (.lA .Add (.n 1) (.call "a" [.v 0,.ix (.l [.n 2,.n 3]) (.bif .int [.v 1])])),.HA 6 (.l []),.for [7] true .MB [.v 5] JZ,.HA 9 (.l []),.for [7] true .MB [.call "a" [.v 0,.n 9]] KZ,.ret (.t [.v 2,.v 3,.v 4,.bif .tuple [.v 6],.bif .tuple [.v 9]])],false⟩
def M3:Fn:=⟨[true],8,[.yA (.qA .Eq (.call "a" [.v 0,.n 9]) (.n 0)) [.HA 1 (.call "E" [.v 0]),.ret (.lA .Add (.sl (.v 1) .TF (.n 4)) (.t [.sl (.ix (.v 1) (.n 4)) .TF (.n 2)]))] [],.HA 2 (.lA .Add (.n 1) (.call "a" [.v 0,.n 3])),.HA 3 (.lA .Add (.n 1) (.call "a" [.v 0,.n 3])),.HA 4 (.lA .Add (.n 1) (.call "a" [.v 0,.n 12])),.HA 5 (.lA .Add (.n 1) (.call "a" [.v 0,.n 3])),.HA 6 (.l []),.for [7] true .MB [.v 5] LZ,.HA 8 (.l []),.for [7] true .MB [.call "a" [.v 0,.n 5]] MZ,.ret (.t [.v 2,.v 3,.v 4,.bif .tuple [.v 6],.bif .tuple [.v 8]])],false⟩
def C3:Fn:=⟨[true,true,true],5,[.HA 3 (.l []),.for [4,5,6] false .of [.lA .Add (.t [.t [.n 0,.n 0,.b false]]) (.ix (.v 0) (.n 3))] IZ,.ret (.v 3)],false⟩
def IS:Fn:=⟨[true,true,false],2,[.yA (.qA .Eq (.ix (.v 0) (.n 0)) (.s "leap")) [.ret (.and (.qA .Gt (.v 2) (.n 0)) (.qA .Gt (.bif .abs [.lA .Sub (.ix (.v 1) (.v 2)) (.ix (.v 1) (.lA .Sub (.v 2) (.n 1)))]) (.ix (.v 0) (.n 1))))] [],.yA (.qA .Eq (.ix (.v 0) (.n 0)) (.s "again")) [.ret (.and (.qA .GtE (.v 2) (.ix (.v 0) (.n 1))) (.qA .Eq (.XO (.sl (.v 1) (.lA .Sub (.v 2) (.ix (.v 0) (.n 1))) (.lA .Add (.v 2) (.n 1)))) (.n 1)))] [],.yA (.qA .Lt (.v 2) (.n 2)) [.ret (.b false)] [],.HA 3 (.lA .Sub (.ix (.v 1) (.lA .Sub (.v 2) (.n 1))) (.ix (.v 1) (.lA .Sub (.v 2) (.n 2)))),.HA 4 (.lA .Sub (.ix (.v 1) (.lA .Sub (.v 2) (.n 1))) (.ix (.v 1) (.v 2))),.yA (.qA .Lt (.v 3) (.n 0)) [.HA 4 (.lA .Sub (.n 0) (.v 4))] [],.ret (.and (.qA .GtE (.bif .abs [.v 3]) (.ix (.v 0) (.n 1))) (.not (.lG .Lt .LtE (.n 0) (.v 4) (.ix (.v 0) (.n 2)))))],false⟩
def J3:Fn:=⟨[true,false,false],0,[.yA (.qA .Eq (.v 0) (.s "any")) [.ret (.b true)] [],.yA (.qA .Eq (.v 0) (.s "aside")) [.ret (.and (.qA .In (.n 0) (.t [.v 1,.v 2])) (.qA .NotEq (.v 1) (.v 2)))] [],.yA (.qA .Eq (.v 0) (.s "like")) [.ret (.or (.and (.qA .Gt (.v 1) (.n 0)) (.qA .Gt (.v 2) (.n 0))) (.and (.qA .Lt (.v 1) (.n 0)) (.qA .Lt (.v 2) (.n 0))))] [],.ret (.or (.and (.qA .Gt (.v 1) (.n 0)) (.qA .Lt (.v 2) (.n 0))) (.and (.qA .Lt (.v 1) (.n 0)) (.qA .Gt (.v 2) (.n 0))))],false⟩
def gW:Fn:=⟨[true,true,true,true,false,false],1,[.yA (.or (.qA .Is (.ix (.v 3) (.v 4)) (.c .iA)) (.qA .Is (.ix (.v 3) (.v 5)) (.c .iA))) [.ret (.b false)] [],.HA 6 (.lA .Mod (.bif .abs [.lA .Sub (.ix (.v 3) (.v 4)) (.ix (.v 3) (.v 5))]) (.ix (.v 0) (.n 2))),.yA (.qA .Eq (.ix (.v 1) (.n 0)) (.s "span")) [.ret (.qA .Eq (.lA .Mod (.lA .FloorDiv (.ix (.v 1) (.n 2)) (.lA .LShift (.n 1) (.v 6))) (.n 2)) (.n 0))] [],.yA (.or (.qA .Is (.ix (.v 2) (.v 4)) (.c .iA)) (.or (.qA .Is (.ix (.v 2) (.v 5)) (.c .iA)) (.qA .NotEq (.v 6) (.ix (.v 1) (.n 2))))) [.ret (.b false)] [],.yA (.qA .NotEq (.lA .Mod (.bif .abs [.lA .Sub (.ix (.v 2) (.v 4)) (.ix (.v 2) (.v 5))]) (.ix (.v 0) (.n 2))) (.ix (.v 1) (.n 1))) [.ret (.b false)] [],.ret (.call "P" [.ix (.v 1) (.n 3),.lA .Sub (.ix (.v 3) (.v 4)) (.ix (.v 2) (.v 4)),.lA .Sub (.ix (.v 3) (.v 5)) (.ix (.v 2) (.v 5))])],false⟩
def EL:Fn:=⟨[true,true,true,false],7,[.HA 4 (.call "f" [.v 0,.v 2,.v 3]),.yA (.qA .Eq (.ix (.v 1) (.n 0)) (.s "range")) [.ret (.comp B1 [3] .MB [.bif .len [.v 4]] [.and (.qA .IsNot (.ix (.v 0) (.v 3)) (.c .iA)) (.not (.lG .LtE .LtE (.ix (.v 1) (.n 1)) (.ix (.v 0) (.v 3)) (.ix (.v 1) (.n 2))))] [4,1] 2)] [],.yA (.qA .Eq (.ix (.v 1) (.n 0)) (.s "above")) [.HA 6 (.ix (.v 4) (.ix (.v 1) (.n 1))),.HA 7 (.ix (.v 4) (.ix (.v 1) (.n 2))),.ret (.lA .Mult (.l [.t [.ix (.v 1) (.n 1),.ix (.v 1) (.n 2)]]) (.bif .int [.and (.qA .IsNot (.v 6) (.c .iA)) (.and (.qA .IsNot (.v 7) (.c .iA)) (.qA .Lt (.v 6) (.v 7)))]))] [],.yA (.qA .In (.ix (.v 1) (.n 0)) (.t [.s "leap",.s "back",.s "again"])) [.ret (.lA .Mult (.l [.t []]) (.bif .int [.call "q" [.v 1,.v 2,.v 3]]))] [],.yA (.or (.and (.qA .Eq (.ix (.v 1) (.n 0)) (.s "span")) (.qA .NotEq (.lA .Mod (.v 3) (.ix (.v 0) (.n 1))) (.ix (.v 1) (.n 1)))) (.and (.qA .Eq (.ix (.v 1) (.n 0)) (.s "never")) (.qA .Eq (.v 3) (.n 0)))) [.ret (.l [])] [],.HA 8 (.call "f" [.v 0,.v 2,.lA .Sub (.v 3) (.n 1)]),.HA 9 (.l []),.for [5] true .MB [.bif .len [.v 4]] lS,.ret (.v 9)],false⟩
def E3:Fn:=⟨[true],0,[.ret (.bif .max [.lA .Add (.l [.n 3]) (.comp C1 [1] .of [.ix (.v 0) (.n 3)] [] [] 2)])],false⟩
def N3:Fn:=⟨[true,true],2,[.HA 2 (.call "Q" [.v 0]),.HA 3 (.bif .len [.v 1]),.yA (.qA .Gt (.v 3) (.v 2)) [.HA 3 (.lA .Add (.v 2) (.lA .Mod (.lA .Sub (.v 3) (.v 2)) (.ix (.v 0) (.n 1))))] [],.ret (.t [.v 3,.bif .tuple [.sl (.v 1) (.bif .max [.n 0,.lA .Sub (.bif .len [.v 1]) (.v 2)]) .TF]])],false⟩
def Z2:Fn:=⟨[true],0,[.ret (.lA .Add (.lA .Mult (.l [.n 0]) (.lA .Sub (.ix (.v 0) (.n 0)) (.bif .len [.ix (.v 0) (.n 1)]))) (.bif .list [.ix (.v 0) (.n 1)]))],false⟩
def B3:Fn:=⟨[true,true],1,[.for [2] true .of [.ix (.v 0) (.n 4)] HZ,.ret (.b true)],false⟩
def Q3:Fn:=⟨[true,true],3,[.HA 2 (.l []),.for [3] true .MB [.ix (.v 0) (.n 0)] NZ,.ret (.v 2)],false⟩
def l3:Fn:=⟨[true,false],5,[.HA 2 (.sS (.v 1) (.c .iA)),.HA 3 (.l [.v 1]),.WK (.and (.qA .NotEq (.v 3) (.l [])) (.qA .LtE (.bif .len [.v 2]) (.n 150))) gQ,.ret (.v 2)],false⟩
def O3:Fn:=⟨[true,true,true],3,[.HA 3 (.l []),.for [4] true .MB [.call "a" [.v 1,.lA .Add (.v 2) (.n 1)]] mS,.ret (.v 3)],false⟩
def i3:Fn:=⟨[true,true],4,[.HA 2 (.l []),.for [3] true .MB [.bif .len [.v 1]] GZ,.ret (.v 2)],false⟩
def y3:Fn:=⟨[true,true,false],0,[.xR [.ret (.call "p" [.v 0,.v 1,.v 2])] WV],false⟩
def mG:Fn:=⟨[true],9,[.HA 1 (.call "O" [.call "C" [.v 0,.n 1]]),.HA 2 (.call "C" [.v 0,.n 2]),.HA 3 (.call "T" [.v 1,.v 2,.n 8]),.HA 4 (.lA .Add (.n 1) (.call "a" [.v 2,.ix (.l [.n 40,.n 5]) (.call "a" [.v 2,.n 2])])),.HA 5 (.call "r" [.v 1,.v 3,.v 4]),.yA (.or (.qA .Is (.v 5) (.c .iA)) (.qA .Eq (.v 5) (.n 0))) [.ret (.or (.qA .Eq (.v 5) (.n 0)) (.qA .Gt (.bif .len [.call "S" [.v 1,.call "G" [.v 1,.v 3]]]) (.n 150)))] [],.HA 6 (.ix (.l [.lA .Sub (.v 5) (.n 1),.call "a" [.v 2,.v 5]]) (.call "a" [.v 2,.n 2])),.HA 7 (.call "A" [.v 1,.v 3,.v 4,.v 6]),.yA (.or (.qA .NotEq (.bif .len [.v 7]) (.v 4)) (.qA .NotEq (.call "U" [.v 1,.lA .Add (.v 3) (.v 7)]) (.l []))) [.ret (.b false)] [],.yA (.and (.qA .Lt (.lA .Add (.v 6) (.n 1)) (.v 5)) (.not (.qA .Lt (.v 7) (.call "A" [.v 1,.v 3,.v 4,.lA .Add (.v 6) (.n 1)])))) [.ret (.b false)] [],.HA 8 (.call "B" [.v 1,.lA .Add (.v 3) (.sl (.v 7) .TF (.n 1)),.sl (.v 7) (.n 1) .TF]),.for [9] true .MB [.ix (.v 7) (.n 0)] nS,.ret (.and (.qA .Eq (.v 8) (.v 6)) (.qA .Eq (.call "B" [.v 1,.v 3,.v 7]) (.v 6)))],false⟩
def TL:List (String×Fn):=[("I",C4),("s",D4),("J",N4),("K",Q4),("l",X4),("j",S4),("d",y4),("t",R4),("L",J4),("V",W3),("W",X3),("X",R3),("Y",X2),("Z",W2),("0",T3),("1",V3),("2",V2),("3",S3),("e",FL),("u",P4),("m",i4),("M",B4),("n",l4),("v",F4),("N",Z4),("h",T4),("w",E4),("x",K4),("o",Z3),("y",W4),("i",V4),("z",n4),("b",Y4),("k",O4),("p",A4),("A",L4),("B",M4),("C",K3),("a",A3),("D",L3),("E",D3),("O",M3),("f",C3),("q",IS),("P",J3),("F",gW),("c",EL),("Q",E3),("G",N3),("R",Z2),("g",B3),("H",Q3),("S",l3),("T",O3),("U",i3),("r",y3),("law",mG)]
def T:Tab:=λf=>TL.lookup f
theorem zt:T.aA "I"=[true]:=rfl
theorem Bt:T.aA "s"=[true,true,true]:=rfl
theorem Kt:T.aA "J"=[true,true]:=rfl
theorem Pt:T.aA "K"=[true,true]:=rfl
theorem Xt:T.aA "l"=[true,true,true,true]:=rfl
theorem Rt:T.aA "j"=[true,true,true]:=rfl
theorem wt:T.aA "d"=[true,true,true]:=rfl
theorem Qt:T.aA "t"=[true]:=rfl
theorem Et:T.aA "L"=[true,true,true]:=rfl
theorem Ys:T.aA "V"=[true,true,true,true]:=rfl
theorem Zs:T.aA "W"=[true,true]:=rfl
theorem Us:T.aA "X"=[true,true,true,false]:=rfl
theorem Wr:T.aA "Y"=[true,true,true,false]:=rfl
theorem Vr:T.aA "Z"=[true,true,true,false]:=rfl
theorem Ws:T.aA "0"=[true,true,true,true]:=rfl
theorem Xs:T.aA "1"=[true,true]:=rfl
theorem Ur:T.aA "2"=[true,true,true,true]:=rfl
theorem Vs:T.aA "3"=[true,true,true,true]:=rfl
theorem Nt:T.aA "e"=[true]:=rfl
theorem Ot:T.aA "u"=[true]:=rfl
theorem jt:T.aA "m"=[true,true,true,false]:=rfl
theorem yt:T.aA "M"=[true,true]:=rfl
theorem qt:T.aA "n"=[true,true]:=rfl
theorem Dt:T.aA "v"=[true]:=rfl
theorem Zt:T.aA "N"=[true,false]:=rfl
theorem Tt:T.aA "h"=[true,true]:=rfl
theorem Ct:T.aA "w"=[true]:=rfl
theorem Ft:T.aA "x"=[true,true]:=rfl
theorem bt:T.aA "o"=[true,true,false]:=rfl
theorem Wt:T.aA "y"=[true,true]:=rfl
theorem Vt:T.aA "i"=[true,false]:=rfl
theorem vt:T.aA "z"=[true]:=rfl
theorem Yt:T.aA "b"=[false,true]:=rfl
theorem Mt:T.aA "k"=[false,true]:=rfl
theorem xt:T.aA "p"=[true,true,false]:=rfl
theorem Ht:T.aA "A"=[true,true,false,false]:=rfl
theorem Jt:T.aA "B"=[true,true,false]:=rfl
theorem Ks:T.aA "C"=[true,false]:=rfl
theorem Ds:T.aA "a"=[true,true]:=rfl
theorem Ls:T.aA "D"=[true,true,true,true,true]:=rfl
theorem Gs:T.aA "E"=[true]:=rfl
theorem Ms:T.aA "O"=[true]:=rfl
theorem Fs:T.aA "f"=[true,true,true]:=rfl
theorem As:T.aA "q"=[true,true,false]:=rfl
theorem Js:T.aA "P"=[true,false,false]:=rfl
theorem Yr:T.aA "F"=[true,true,true,true,false,false]:=rfl
theorem js:T.aA "c"=[true,true,true,false]:=rfl
theorem Hs:T.aA "Q"=[true]:=rfl
theorem Qs:T.aA "G"=[true,true]:=rfl
theorem Xr:T.aA "R"=[true]:=rfl
theorem Es:T.aA "g"=[true,true]:=rfl
theorem Ts:T.aA "H"=[true,true]:=rfl
theorem Bs:T.aA "S"=[true,false]:=rfl
theorem Ss:T.aA "T"=[true,true,true]:=rfl
theorem Zr:T.aA "U"=[true,true]:=rfl
theorem Cs:T.aA "r"=[true,true,false]:=rfl
theorem cu:T "law"=some mG:=rfl
def xCa:rL (GG 29 0) "Span.__init__" ["beat","spans"]:=VO zG
def sQ{d0 d1:D}:EH (some (.ins "Span" ["beat","spans"] [d0,d1])) "beat"=some (.sh d0):=(rfl)
def tQ{d0 d1:D}:EH (some (.ins "Span" ["beat","spans"] [d0,d1])) "spans"=some (.sh d1):=(rfl)
def uCa:rL (GG 30 0) "Leap.__init__" ["most"]:=VO vE
def P2{d0:D}:EH (some (.ins "Leap" ["most"] [d0])) "most"=some (.sh d0):=(rfl)
def tCa:rL (GG 31 0) "Back.__init__" ["leap","most"]:=VO zG
def qQ{d0 d1:D}:EH (some (.ins "Back" ["leap","most"] [d0,d1])) "leap"=some (.sh d0):=(rfl)
def rQ{d0 d1:D}:EH (some (.ins "Back" ["leap","most"] [d0,d1])) "most"=some (.sh d1):=(rfl)
def sCa:rL (GG 32 0) "Again.__init__" ["most"]:=VO vE
def pQ{d0:D}:EH (some (.ins "Again" ["most"] [d0])) "most"=some (.sh d0):=(rfl)
def wCa:rL (GG 33 0) "Range.__init__" ["low","high"]:=VO zG
def S2{d0 d1:D}:EH (some (.ins "Range" ["low","high"] [d0,d1])) "low"=some (.sh d0):=(rfl)
def Q2{d0 d1:D}:EH (some (.ins "Range" ["low","high"] [d0,d1])) "high"=some (.sh d1):=(rfl)
def rCa:rL (GG 34 0) "Above.__init__" ["one","other"]:=VO zG
def eW{d0 d1:D}:EH (some (.ins "Above" ["one","other"] [d0,d1])) "one"=some (.sh d0):=(rfl)
def fW{d0 d1:D}:EH (some (.ins "Above" ["one","other"] [d0,d1])) "other"=some (.sh d1):=(rfl)
def vCa:rL (GG 35 0) "Never.__init__" ["one","other","way"]:=VO II
def ES{d0 d1 d2:D}:EH (some (.ins "Never" ["one","other","way"] [d0,d1,d2])) "one"=some (.sh d0):=(rfl)
def GS{d0 d1 d2:D}:EH (some (.ins "Never" ["one","other","way"] [d0,d1,d2])) "other"=some (.sh d1):=(rfl)
def HS{d0 d1 d2:D}:EH (some (.ins "Never" ["one","other","way"] [d0,d1,d2])) "way"=some (.sh d2):=(rfl)
def wJa:fH "Span" ["beat","spans"] "broken" PJ=some "V":=by decide +kernel
def tJa:fH "Leap" ["most"] "broken" PJ=some "X":=by decide +kernel
def sJa:fH "Back" ["leap","most"] "broken" PJ=some "Y":=by decide +kernel
def rJa:fH "Again" ["most"] "broken" PJ=some "Z":=by decide +kernel
def vJa:fH "Range" ["low","high"] "broken" PJ=some "0":=by decide +kernel
def qJa:fH "Above" ["one","other"] "broken" PJ=some "2":=by decide +kernel
def uJa:fH "Never" ["one","other","way"] "broken" PJ=some "3":=by decide +kernel
def XT:fH "Span" ["beat","spans"] "forbids" xN=some "W":=by decide +kernel
def iX:fH "Range" ["low","high"] "forbids" xN=some "1":=by decide +kernel
def hMa:WH (rF L) (GG 29 1) "broken" "Span.broken" W3:=KJ II
def iMa:WH (rF L) (GG 29 2) "forbids" "Span.forbids" X3:=KJ vE
def dMa:WH (rF L) (GG 30 1) "broken" "Leap.broken" R3:=KJ II
def cMa:WH (rF L) (GG 31 1) "broken" "Back.broken" X2:=KJ II
def bMa:WH (rF L) (GG 32 1) "broken" "Again.broken" W2:=KJ II
def fMa:WH (rF L) (GG 33 1) "broken" "Range.broken" T3:=KJ II
def gMa:WH (rF L) (GG 33 2) "forbids" "Range.forbids" V3:=KJ vE
def aMa:WH (rF L) (GG 34 1) "broken" "Above.broken" V2:=KJ II
def eMa:WH (rF L) (GG 35 1) "broken" "Never.broken" S3:=KJ II
def zMa:SR (rF L) (top 85) "law" mG:=KJ aI
end Tx
namespace Mx
open CI Tx
local macro_rules|`($f|||$n|||$a|||$v)=>`(run T $(Lean.mkIdent `W) ($n) $f $a=some (.ok ($v),$a))
abbrev _root_.CI.Sl.o(d:CI.D):CI.Sl:=.ow d false false
abbrev _root_.CI.Sl.p(d:CI.D):CI.Sl:=.ow d true false
abbrev _root_.CI.Sl.i(d:Int):CI.Sl:=.sh (.int d)
abbrev _root_.CI.RV.i(d:Int):CI.RV:=.sh (.int d)
abbrev _root_.CI.Sl.s(d:bA):CI.Sl:=.sh (.str d)
abbrev _root_.CI.RV.s(d:bA):CI.RV:=.sh (.str d)
abbrev _root_.CI.Sl.b(d:Bool):CI.Sl:=.sh (.bl d)
abbrev _root_.CI.RV.b(d:Bool):CI.RV:=.sh (.bl d)
local macro_rules | `(tactic| exists $x:ident)=>`(tactic| ((first | rw[Bl (fn:=$x) rfl rfl rfl] | (rw[iVa (fn:=$x) rfl rfl rfl];unfold aAO));unfold $x))
noncomputable def toD(f:Int×Int×Bool):D:=.t [.int f.1,.int f.2.1,.bl f.2.2]
def vA(no ba oc:Int)(fs:List (Int×Int×Bool))(rs:List D):D:=.t [.int no,.int ba,.int oc,.t (fs.map toD),.t rs]
theorem qEa:xD (some (vA no ba oc fs rs)) (.int 0)=some (.i no):=rfl
theorem rEa:xD (some (vA no ba oc fs rs)) (.int 1)=some (.i ba):=rfl
theorem sEa:xD (some (vA no ba oc fs rs)) (.int 2)=some (.i oc):=rfl
theorem tEa:xD (some (vA no ba oc fs rs)) (.int 3)=some (.sh (.t (fs.map toD))):=rfl
theorem X6:xD (some (vA no ba oc fs rs)) (.int 4)=some (.sh (.t rs)):=rfl
abbrev rg(n:Nat):List D:=(UB n).map λ(j:Nat)=>D.int (j:Int)
set_option compiler.extract_closed false
local macro_rules | `(tactic| walk_at $s:str) => do if !s.getString.startsWith "!" then Lean.Macro.throwUnsupported else `(tactic| simp only[↓Ku, ↓d_, ↓nR_, ↓tx, ↓j0a, ↓eFa, ↓dFa, ↓yEa, ↓xEa, ↓lGa, ↓kGa, ↓yFa, ↓xFa, ↓wFa, ↓vFa, $[$((("Cv Kv Iv Fv Hv Gv Jv Dv Mu Lu f_ e_ cKa dKa aKa bKa ux J' yx xx N_ M_ uAa tAa zGa k0a mFa lFa nGa yz zz Wy yGa wWa xWa yWa zWa aXa bXa yi Rh wz dz Cz Eh Dh Bz Iy Mh Lh eHa dHa xGa bPa qOa aPa vOa lOa xOa nOa oOa jOa uOa zOa mOa kOa tOa pOa Hy uh rh Qy qv jv nv Ru Qu Ou Pu Su Tu Nu nK Tc iGa kz jGa mz Uh hLa lz Ww Vw Bh Ah Sy YW cFa xh vh Uy yw xw tw qw Bd Dd mw vw uw Dw Cw vYa Ny oz Qh Ph cz hEa lh Pc Du Eu Gu oi ni mi vRa JT tRa wRa sRa rRa vz f7 Ux fFa hFa gFa zFa yHa bIa aIa zHa cIa cGa bGa aGa T_ R_ S_ V_ U_ nFa oFa qh Py Q_ O_ P_ i_ j_ g_ h_ k_ n_ l_ E7 bz eDa dDa oh zEa rFa Oy tDa sDa ph Nz f9 kXa jXa iXa hXa RB gXa yLa xLa sFa ki ji Vz eWa Hh Pz uUa vUa KH Tz Ay Fy Cy wy yy uy Ey By xy vy zy Rz A_ aA1 Qz Xz J2 LI aVa cZa tGa gi Vy A' Jy yQa zQa sOa rOa wOa yOa Wh nz uRa az Kh Zy fz dGa eGa fGa G7 gGa hGa gz Dy Bw zg0 zg1 zs0 zs1 zb zm zi zc zn zr0 zr1 zl0 zl1 znt znf zko zks zkn Ry Jh kFa Yy oGa lDa uFa tFa Uz a_ wGa vGa uGa Gz qFa pFa Kz pGa Dz Ez Iz jFa Ly aFa rGa sGa qGa My wEa vEa bFa Oz Ju Wz bHa aHa Yh nDa mDa kDa rDa ai Fh Gh j0 Mz Xy Fz Sz Jz uz hRa mGa zt Bt Kt Pt Xt Rt wt Qt Et Zs Xs Nt Ot jt yt qt Dt Zt Tt Ct Ft bt Wt Vt vt Yt Mt xt Ht Jt Ks Ds Ls Gs Ms Fs As Js Yr js Hs Qs Xr Es Ts Bs Ss Zr Cs if_true if_false kL decide_true decide_false Bool.true_eq_false not_true_eq_false not_false_eq_true and_self and_true true_and or_true true_or gC reduceIte Int.reduceLT Int.reduceLE Int.reduceGT Int.reduceNeg Nat.reduceAdd Nat.reduceLT Nat.reduceLeDiff Int.reduceEq Int.reduceNe Nat.reduceBEq CB sM xC Qb HY iJ ZK vb mL kD beq_self_eq_true kQ iFa cHa sY FY pq bV qEa rEa sEa tEa X6".splitOn " ")++(((s.getString.drop 1).toString.replace "%" "List.length_map").replace "&" "Bool.or_false Bool.false_or Bool.or_true Bool.true_or" |>.splitOn " ")).filter (· ≠ "") |>.toArray.map λx => Lean.mkIdent x.toName):term],*, *])
theorem jC:type_of% (And.intro @vd (And.intro @f9 (And.intro @ZJ.{0} (And.intro @ya.{0} (And.intro @Na.{0} (And.intro @Oa.{0} (And.intro @ud (And.intro @Rl (And.intro @Ul @ui))))))))):=(And.intro @vd (And.intro @f9 (And.intro @ZJ.{0} (And.intro @ya.{0} (And.intro @Na.{0} (And.intro @Oa.{0} (And.intro @ud (And.intro @Rl (And.intro @Ul @ui)))))))))
def IA(k s m:Int):Int:=if k=0 then s / m else(s*69621+7) % 2147483629
def WA(k s m:Int):Int:=if k=0 then s % m else((((s*69621+7) % 2147483629) % 65521*40503+((s*69621+7) % 2147483629) / 65521+1)*16807 % 2147483647) / 13 % m
def hE(h1:0<m)(h2:m<100000000000000000000000000000000000000000000000000000000000000000000000000000000):run T W (n+1) "a" [.p (.l [.int k,.int s]),.i m]=some (.ok (.i (WA k s m)),[.p (.l [.int k,.int (IA k s m)]),.i m]):=by
 exists A3
 by_cases hk:k=0
 ·subst hk;unfold IA WA
  walk_at "!"
 ·unfold IA WA
  walk_at "!"
def vC(h:0<m):0<=WA k s m:=by unfold WA;split<;>exact uP _ (by lia)
def uC(h:0<m):WA k s m<m:=by unfold WA;split<;>exact RU _ h
noncomputable def MA(P9:List (List Int)):List D:=P9.map λis=>.t (is.map D.int)
def k8{n:Nat}{l:List Int}:(l.map D.int).all (QC n)=true:=iF.mpr λd hd=>by
 obtain⟨i,_,rfl⟩:=SD.mp hd;cases n<;>rfl
def vLa(P9:List (List Int)):QC (n+2) (.l (MA P9))=true:=iF.mpr λd hd=>by
 obtain⟨t,_,rfl⟩:=SD.mp hd;exact k8
noncomputable def JG(ns:List Int)(k:Nat):Int×Int :=
 if k<ns.length/\ns.headD 0 % 2=0 then(0,ns.getD k 0)
 else(1,((if 0<ns.length then ns.getD (k % ns.length) 0 % 2147483587+48611*((k / ns.length:Nat):Int)+3*(k:Int) else 30011*(k:Int)+7)*48271+11*(k:Int)+1) % 2147483647)
def BV{ns:List Int}(h:k<ns.length):L2.fC (ns.map D.int) (k:Int)=some (.int (ns.getD k 0)):=by
 apply L2.wL
 rw[MD,XC h];simp[h]
def Yj{k:Nat}(hn:ns.length<=63)(hk:k<=100000):"C"|||n+1|||[.sh (.l (ns.map .int)),.i k]|||.ow (.l [.int (JG ns k).1,.int (JG ns k).2]):=by
 exists K3
 by_cases h0:ns=[]
 ·subst h0;have hb:decide ((k:Int)<((0:Nat):Int))=false:=eB (by lia);have WE:decide (((0:Nat):Int) > 0)=false:=rfl;have Of:decide (0<((0:Nat):Int))=false:=rfl;have hb3:decide ((k:Int)<0)=false:=eB (by lia)
  have ev:JG [] k=(1,((30011*(k:Int)+7)*48271+11*(k:Int)+1) % 2147483647):=by(unfold JG;rw[UA (by simp),UA (by simp)])
  walk_at "!nA"
 ·have JO:0<ns.length:=rq.mpr h0;have Of:decide (0<(ns.length:Int))=true:=rB (by lia)
  have e0:(ns.map D.int)[0]?=some (.int (ns.headD 0)):=by cases ns with | nil=>exact absurd rfl h0 | cons a r=>rfl
  have e1:(0:Int)<(ns.length:Int):=by lia
  have e2:(ns.length:Int)<100000000000000000000000000000000000000000000000000000000000000000000000000000000:=by lia
  have e3:(k:Int) / (ns.length:Int)=((k / ns.length:Nat):Int):=by rw[Int.natCast_ediv]
  have e4:(k:Int) % (ns.length:Int)=((k % ns.length:Nat):Int):=by rw[Int.natCast_emod]
  have e5:=BV (k:=k % ns.length) (Nat.mod_lt _ JO);by_cases Z5:k<ns.length
  ·have hb:decide ((k:Int)<(ns.length:Int))=true:=rB (by lia);have e6:=BV Z5;by_cases hm:ns.headD 0 % 2=0
   ·have ev:JG ns k=(0,ns.getD k 0):=by unfold JG;rw[QA ⟨Z5,hm⟩]
    walk_at "!nA"
   ·have BO:decide (ns.headD 0 % 2=0)=false:=eB hm
    have ev:JG ns k=(1,((ns.getD (k % ns.length) 0 % 2147483587+48611*((k / ns.length:Nat):Int)+3*(k:Int))*48271+11*(k:Int)+1) % 2147483647):=by(unfold JG;rw[UA (λz=>hm z.2),QA JO])
    walk_at "!nA"
  ·have hb:decide ((k:Int)<(ns.length:Int))=false:=eB (by lia)
   have ev:JG ns k=(1,((ns.getD (k % ns.length) 0 % 2147483587+48611*((k / ns.length:Nat):Int)+3*(k:Int))*48271+11*(k:Int)+1) % 2147483647):=by(unfold JG;rw[UA (λz=>Z5 z.1),QA JO])
   walk_at "!nA"
def Vn:((wA "span")==(wA "leap"))=false:=by decide +kernel
def Tn:((wA "span")==(wA "back"))=false:=by decide +kernel
def Sn:((wA "span")==(wA "again"))=false:=by decide +kernel
def Xn:((wA "span")==(wA "range"))=false:=by decide +kernel
def Rn:((wA "span")==(wA "above"))=false:=by decide +kernel
def Wn:((wA "span")==(wA "never"))=false:=by decide +kernel
def Zm:aC .In (.str (wA "span")) (.t [.str (wA "leap"),.str (wA "back"),.str (wA "again")])=some false:=(rfl)
def yn:((wA "leap")==(wA "span"))=false:=by decide +kernel
def mn:((wA "leap")==(wA "back"))=false:=by decide +kernel
def jn:((wA "leap")==(wA "again"))=false:=by decide +kernel
def xn:((wA "leap")==(wA "range"))=false:=by decide +kernel
def cn:((wA "leap")==(wA "above"))=false:=by decide +kernel
def vn:((wA "leap")==(wA "never"))=false:=by decide +kernel
def Wm:aC .In (.str (wA "leap")) (.t [.str (wA "leap"),.str (wA "back"),.str (wA "again")])=some true:=(rfl)
def Qm:((wA "back")==(wA "span"))=false:=by decide +kernel
def Nm:((wA "back")==(wA "leap"))=false:=by decide +kernel
def Mm:((wA "back")==(wA "again"))=false:=by decide +kernel
def Pm:((wA "back")==(wA "range"))=false:=by decide +kernel
def Lm:((wA "back")==(wA "above"))=false:=by decide +kernel
def Om:((wA "back")==(wA "never"))=false:=by decide +kernel
def Vm:aC .In (.str (wA "back")) (.t [.str (wA "leap"),.str (wA "back"),.str (wA "again")])=some true:=(rfl)
def Km:((wA "again")==(wA "span"))=false:=by decide +kernel
def Hm:((wA "again")==(wA "leap"))=false:=by decide +kernel
def Gm:((wA "again")==(wA "back"))=false:=by decide +kernel
def Jm:((wA "again")==(wA "range"))=false:=by decide +kernel
def Fm:((wA "again")==(wA "above"))=false:=by decide +kernel
def Im:((wA "again")==(wA "never"))=false:=by decide +kernel
def Um:aC .In (.str (wA "again")) (.t [.str (wA "leap"),.str (wA "back"),.str (wA "again")])=some true:=(rfl)
def Qn:((wA "range")==(wA "span"))=false:=by decide +kernel
def Nn:((wA "range")==(wA "leap"))=false:=by decide +kernel
def Mn:((wA "range")==(wA "back"))=false:=by decide +kernel
def Kn:((wA "range")==(wA "again"))=false:=by decide +kernel
def Jn:((wA "range")==(wA "above"))=false:=by decide +kernel
def Pn:((wA "range")==(wA "never"))=false:=by decide +kernel
def Ym:aC .In (.str (wA "range")) (.t [.str (wA "leap"),.str (wA "back"),.str (wA "again")])=some false:=(rfl)
def Em:((wA "above")==(wA "span"))=false:=by decide +kernel
def Bm:((wA "above")==(wA "leap"))=false:=by decide +kernel
def Am:((wA "above")==(wA "back"))=false:=by decide +kernel
def ym:((wA "above")==(wA "again"))=false:=by decide +kernel
def Dm:((wA "above")==(wA "range"))=false:=by decide +kernel
def Cm:((wA "above")==(wA "never"))=false:=by decide +kernel
def Rm:aC .In (.str (wA "above")) (.t [.str (wA "leap"),.str (wA "back"),.str (wA "again")])=some false:=(rfl)
def Hn:((wA "never")==(wA "span"))=false:=by decide +kernel
def En:((wA "never")==(wA "leap"))=false:=by decide +kernel
def Cn:((wA "never")==(wA "back"))=false:=by decide +kernel
def Bn:((wA "never")==(wA "again"))=false:=by decide +kernel
def Gn:((wA "never")==(wA "range"))=false:=by decide +kernel
def An:((wA "never")==(wA "above"))=false:=by decide +kernel
def Xm:aC .In (.str (wA "never")) (.t [.str (wA "leap"),.str (wA "back"),.str (wA "again")])=some false:=(rfl)
def QB:type_of% (And.intro @Vn (And.intro @Tn (And.intro @Sn (And.intro @Xn (And.intro @Rn (And.intro @Wn (And.intro @Zm (And.intro @yn (And.intro @mn (And.intro @jn (And.intro @xn (And.intro @cn (And.intro @vn (And.intro @Wm (And.intro @Qm (And.intro @Nm (And.intro @Mm (And.intro @Pm (And.intro @Lm (And.intro @Om (And.intro @Vm (And.intro @Km (And.intro @Hm (And.intro @Gm (And.intro @Jm (And.intro @Fm (And.intro @Im (And.intro @Um (And.intro @Qn (And.intro @Nn (And.intro @Mn (And.intro @Kn (And.intro @Jn (And.intro @Pn (And.intro @Ym (And.intro @Em (And.intro @Bm (And.intro @Am (And.intro @ym (And.intro @Dm (And.intro @Cm (And.intro @Rm (And.intro @Hn (And.intro @En (And.intro @Cn (And.intro @Bn (And.intro @Gn (And.intro @An @Xm)))))))))))))))))))))))))))))))))))))))))))))))):=(And.intro @Vn (And.intro @Tn (And.intro @Sn (And.intro @Xn (And.intro @Rn (And.intro @Wn (And.intro @Zm (And.intro @yn (And.intro @mn (And.intro @jn (And.intro @xn (And.intro @cn (And.intro @vn (And.intro @Wm (And.intro @Qm (And.intro @Nm (And.intro @Mm (And.intro @Pm (And.intro @Lm (And.intro @Om (And.intro @Vm (And.intro @Km (And.intro @Hm (And.intro @Gm (And.intro @Jm (And.intro @Fm (And.intro @Im (And.intro @Um (And.intro @Qn (And.intro @Nn (And.intro @Mn (And.intro @Kn (And.intro @Jn (And.intro @Pn (And.intro @Ym (And.intro @Em (And.intro @Bm (And.intro @Am (And.intro @ym (And.intro @Dm (And.intro @Cm (And.intro @Rm (And.intro @Hn (And.intro @En (And.intro @Cn (And.intro @Bn (And.intro @Gn (And.intro @An @Xm))))))))))))))))))))))))))))))))))))))))))))))))
def pw{j:Int}(h1:0<=j)(h2:j<=12):(0:Int)<2 ^ j.toNat/\(2:Int) ^ j.toNat<100000000000000000000000000000000000000000000000000000000000000000000000000000000:=by
 have h:j.toNat<=12:=by lia
 generalize j.toNat=q at h;have h3:2 ^ q<=2 ^ 12:=Ga (by decide) h;have h4:(2:Int) ^ q<=4096:=by exact_mod_cast h3
 exact⟨TY (by decide),ER h4 (by decide)⟩
inductive yG(no ba oc ma:Int):D->Prop
 |span (a b:Int) (h1:0<=a) (h2:a<ba) (h3:0<=b) (h4:b<2 ^ oc.toNat):yG no ba oc ma (.t [.str "span",.int a,.int b])
 |leap (a:Int) (h1:0<=a) (h2:a<=12):yG no ba oc ma (.t [.str "leap",.int a])
 |back (a b:Int) (h1:1<=a) (h2:a<=12) (h3:1<=b) (h4:b<=12):yG no ba oc ma (.t [.str "back",.int a,.int b])
 |again (a:Int) (h1:1<=a) (h2:a<=3):yG no ba oc ma (.t [.str "again",.int a])
 |range (a b:Int) (h1:-60<=a) (h2:a<=b) (h3:b<=60):yG no ba oc ma (.t [.str "range",.int a,.int b])
 |above (v w:Nat) (h1:(v:Int)<=ma) (h2:(w:Int)<=ma) (h3:v≠w):yG no ba oc ma (.t [.str "above",.int v,.int w])
 |never (a b:Int) (x:bA) (h1:0<=a) (h2:a<oc) (h3:0<=b) (h4:b<oc) (h5:x="like"\/x="against"\/x="aside"\/x="any"):yG no ba oc ma (.t [.str "never",.int a,.int b,.str x])
section
variable{P:ZA}{C:Calls}{W:Nat}{k s no ba oc ma w:Int}{u6 u7 u8:Sl}
def lF(k s no ba oc ma w:Int)(u6 u7 u8:Sl):Env:=[.p (.l [.int k,.int s]),.i no,.i ba,.i oc,.i ma,.i w,u6,u7,u8]
def VI:ex P C W (.yA (.qA .Eq (.v 5) (.c (.int i))) a []) (lF k s no ba oc ma w u6 u7 u8)=if w=i then DA P C W a (lF k s no ba oc ma w u6 u7 u8) else some (.nx,lF k s no ba oc ma w u6 u7 u8):=by
 unfold lF;by_cases h:w=i
 ·have h':decide (w=i)=true:=rB h;rw[QA h]
  walk_at "!"
 ·have h':decide (w=i)=false:=eB h;rw[UA h]
  walk_at "!"
end
def at2(h1:0<=c)(h2:c<2):L2.fC [D.int a,D.int b] c=some (.int (if c=0 then a else b)):=by
 have:c=0\/c=1:=by lia
 rcases this with rfl | rfl<;>rfl
def Bu(h1:0<=c)(h2:c<4):∃x:bA,L2.fC [D.str "like",D.str "against",D.str "aside",D.str "any"] c=some (.str x)/\(x="like"\/x="against"\/x="aside"\/x="any"):=by
 have:c=0\/c=1\/c=2\/c=3:=by lia
 rcases this with rfl | rfl | rfl | rfl
 ·exact⟨_,rfl,.inl rfl⟩
 ·exact⟨_,rfl,.inr (.inl rfl)⟩
 ·exact⟨_,rfl,.inr (.inr (.inl rfl))⟩
 ·exact⟨_,rfl,.inr (.inr (.inr rfl))⟩
def zl{W n:Nat}{k s0 no ba oc ma:Int}(n1:1<=no)(n2:no<=7)(b1:1<=ba)(b2:ba<=4)(o1:1<=oc)(o2:oc<=12)(m1:1<=ma)(m2:ma<=3) :
  ∃s' d,run T W (n+2) "D" [.p (.l [.int k,.int s0]),.i no,.i ba,.i oc,.i ma]=some (.ok (.sh d),[.p (.l [.int k,.int s']),.i no,.i ba,.i oc,.i ma])/\yG no ba oc ma d:=by
 exists L3
 have g1:0<ba:=b1;have g2:ba<100000000000000000000000000000000000000000000000000000000000000000000000000000000:=ER b2 (by decide);have g3:0<oc:=o1;have g4:oc<100000000000000000000000000000000000000000000000000000000000000000000000000000000:=ER o2 (by decide);have g5:0<=oc:=by lia
 have g6:oc<=1000:=by lia
 obtain⟨g7,g8⟩:=pw g5 o2;have g9:0<ma:=m1;have G_:ma<100000000000000000000000000000000000000000000000000000000000000000000000000000000:=ER m2 (by decide);have x5:0<ma+1:=by lia
 have H_:ma+1<100000000000000000000000000000000000000000000000000000000000000000000000000000000:=ER (Int.add_le_add_right m2 1) (by decide);have v1:=vC (k:=k) (s:=s0) (m:=9) (by decide);have v2:=uC (k:=k) (s:=s0) (m:=9) (by decide)
 have e0:ex T.aA (run T W (n+1)) W i9 ([.p (.l [.int k,.int s0]),.i no,.i ba,.i oc,.i ma]++NB 4 .un)=some (.nx,lF k (IA k s0 9) no ba oc ma (WA k s0 9) .un .un .un):=by
  unfold lF;rw[l0a];clear g1 g2 g3 g4 g5 g6 g7 g8 g9 G_ x5 H_ v1 v2 n1 n2 b1 b2 o1 o2 m1 m2
  walk_at "!hE"
 generalize WA k s0 9=w at *
 generalize IA k s0 9=s at *
 rw[LI,e0,nN,LI];clear e0
 -- a return of a u3a ends FE def
 have iB:∀{st:S} {r:List S} {s':Int} {d:D} {u6 u7 u8:Sl},ex T.aA (run T W (n+1)) W st (lF k s no ba oc ma w .un .un .un)=some (.rt (.sh d),lF k s' no ba oc ma w u6 u7 u8)->yG no ba oc ma d ->
   ∃vU d,MT [.p (.l [.int k,.int s0]),.i no,.i ba,.i oc,.i ma] ((ex T.aA (run T W (n+1)) W st (lF k s no ba oc ma w .un .un .un)).next (DA T.aA (run T W (n+1)) W r))=some (.ok (.sh d),[.p (.l [.int k,.int vU]),.i no,.i ba,.i oc,.i ma])/\yG no ba oc ma d:=λh hd=>by
  rw[h,pLa,gi];exact⟨_,_,rfl,hd⟩
 by_cases c0:w<2
 ·refine iB (s':=IA k (IA k s ba) (2 ^ oc.toNat)) (d:=.t [.str "span",.int (WA k s ba),.int (WA k (IA k s ba) (2 ^ oc.toNat))]) (u6:=.un) (u7:=.un) (u8:=.un) ?_ (.span _ _ (vC g1) (uC g1) (vC g7) (uC g7));have oS:decide (w<2)=true:=rB c0;rw[Qo];unfold lF;clear n1 n2 b1 b2 o1 o2 m1 m2 v1 v2 c0 iB
  walk_at "!hE"
 have e1:ex T.aA (run T W (n+1)) W j9 (lF k s no ba oc ma w .un .un .un)=some (.nx,lF k s no ba oc ma w .un .un .un):=by
  have oS:decide (w<2)=false:=eB c0;rw[Qo];unfold lF;clear n1 n2 b1 b2 o1 o2 m1 m2 v1 v2 c0 iB
  walk_at "!hE"
 rw[e1,nN,LI];clear e1;by_cases c2:w=2
 ·have x1:=vC (k:=k) (s:=IA k s ba) (m:=oc) g3;have x2:=uC (k:=k) (s:=IA k s ba) (m:=oc) g3;have x3:WA k (IA k s ba) oc<=1000:=by lia
  have h4:(2:Int) ^ (WA k (IA k s ba) oc).toNat<=2 ^ oc.toNat-1:=by
   have h1:(WA k (IA k s ba) oc).toNat+1<=oc.toNat:=by lia
   have h2:(2:Int) ^ ((WA k (IA k s ba) oc).toNat+1)<=2 ^ oc.toNat:=by
    have h3:2 ^ ((WA k (IA k s ba) oc).toNat+1)<=2 ^ oc.toNat:=Ga (by decide) h1
    exact_mod_cast h3
   have h4:(2:Int) ^ ((WA k (IA k s ba) oc).toNat+1)=2 ^ (WA k (IA k s ba) oc).toNat*2:=Int.pow_succ _ _;have h5:(0:Int)<2 ^ (WA k (IA k s ba) oc).toNat:=TY (by decide)
   lia
  have h5:(0:Int)<2 ^ (WA k (IA k s ba) oc).toNat:=TY (by decide);refine iB (s':=IA k (IA k s ba) oc) (d:=.t [.str "span",.int (WA k s ba),.int (2 ^ oc.toNat-1-2 ^ (WA k (IA k s ba) oc).toNat)]) (u6:=.un) (u7:=.un) (u8:=.un) ?_ (.span _ _ (vC g1) (uC g1) (by lia) (by lia));rw[Ro,VI,QA c2];unfold lF;clear n1 n2 b1 b2 o1 o2 m1 m2 v1 v2 c0 iB h4 h5 x2
  walk_at "!hE"
 rw[Ro,VI,UA c2,nN,LI];by_cases c3:w=3
 ·have x1:=vC (k:=k) (s:=s) (m:=2) (by decide);have x2:=uC (k:=k) (s:=s) (m:=2) (by decide);have zO:=at2 (a:=13) (b:=no+1) x1 x2;obtain⟨q,hq⟩:∃q,q=(if WA k s 2=0 then 13 else no+1):=⟨_,rfl⟩
  rw[<- hq] at zO;have q1:0<q:=by rw[hq];split<;>lia
  have q2:q<=13:=by rw[hq];split<;>lia
  have q3:q<100000000000000000000000000000000000000000000000000000000000000000000000000000000:=ER q2 (by decide);refine iB (s':=IA k (IA k s 2) q) (d:=.t [.str "leap",.int (WA k (IA k s 2) q)]) (u6:=.un) (u7:=.un) (u8:=.un) ?_ (.leap _ (vC q1) (by have:=uC (k:=k) (s:=IA k s 2) q1;lia));rw[So,VI,QA c3];unfold lF;clear n1 n2 b1 b2 o1 o2 m1 m2 v1 v2 c0 iB q2 hq x1 x2
  walk_at "!hE"
 rw[So,VI,UA c3,nN,LI];by_cases c4:w=4
 ·have x1:=vC (k:=k) (s:=s) (m:=12) (by decide);have x2:=uC (k:=k) (s:=s) (m:=12) (by decide);have x3:=vC (k:=k) (s:=IA k s 12) (m:=12) (by decide);have x4:=uC (k:=k) (s:=IA k s 12) (m:=12) (by decide);refine iB (s':=IA k (IA k s 12) 12) (d:=.t [.str "back",.int (1+WA k s 12),.int (1+WA k (IA k s 12) 12)]) (u6:=.un) (u7:=.un) (u8:=.un) ?_ (.back _ _ (by lia) (by lia) (by lia) (by lia));rw[To,VI,QA c4];unfold lF;clear n1 n2 b1 b2 o1 o2 m1 m2 v1 v2 c0 iB x1 x2 x3 x4
  walk_at "!hE"
 rw[To,VI,UA c4,nN,LI];by_cases c5:w=5
 ·have x1:=vC (k:=k) (s:=s) (m:=3) (by decide);have x2:=uC (k:=k) (s:=s) (m:=3) (by decide);refine iB (s':=IA k s 3) (d:=.t [.str "again",.int (1+WA k s 3)]) (u6:=.un) (u7:=.un) (u8:=.un) ?_ (.again _ (by lia) (by lia));rw[Uo,VI,QA c5];unfold lF;clear n1 n2 b1 b2 o1 o2 m1 m2 v1 v2 c0 iB x1 x2
  walk_at "!hE"
 rw[Uo,VI,UA c5,nN,LI];by_cases c6:w=6
 ·have u1:=vC (k:=k) (s:=s) (m:=121) (by decide);have u2:=uC (k:=k) (s:=s) (m:=121) (by decide);have u3:=vC (k:=k) (s:=IA k s 121) (m:=20) (by decide);have u4:=uC (k:=k) (s:=IA k s 121) (m:=20) (by decide);have u5:=vC (k:=k) (s:=IA k (IA k s 121) 20) (m:=2) (by decide);have u6:=uC (k:=k) (s:=IA k (IA k s 121) 20) (m:=2) (by decide);have zO:=at2 (a:=WA k s 121-60) (b:=WA k (IA k s 121) 20-12) u5 u6;obtain⟨lo,cT⟩:∃lo,lo=(if WA k (IA k (IA k s 121) 20) 2=0 then WA k s 121-60 else WA k (IA k s 121) 20-12):=⟨_,rfl⟩
  rw[<- cT] at zO;have q1:lo<=60:=by rw[cT];split<;>lia
  have q2:-60<=lo:=by rw[cT];split<;>lia
  have y1:0<61-lo:=by lia
  have y2:61-lo<100000000000000000000000000000000000000000000000000000000000000000000000000000000:=by lia
  obtain⟨s1,JH⟩:∃s1,s1=IA k (IA k (IA k s 121) 20) 2:=⟨_,rfl⟩
  have z1:=vC (k:=k) (s:=s1) y1;have z2:=uC (k:=k) (s:=s1) y1;refine iB (s':=IA k s1 (61-lo)) (d:=.t [.str "range",.int lo,.int (lo+WA k s1 (61-lo))]) (u6:=.i lo) (u7:=.un) (u8:=.un) ?_ (.range _ _ q2 (by lia) (by lia));rw[Vo,VI,QA c6];have q2a:=JH.symm;unfold lF;clear n1 n2 b1 b2 o1 o2 m1 m2 v1 v2 c0 iB u1 u2 u3 u4 u5 u6 q1 q2 z1 z2 cT JH
  walk_at "!hE"
 rw[Vo,VI,UA c6,nN,LI];by_cases c7:w=7
 ·have x1:=vC (k:=k) (s:=s) x5;have x2:=uC (k:=k) (s:=s) x5;have x3:=vC (k:=k) (s:=IA k s (ma+1)) g9;have x4:=uC (k:=k) (s:=IA k s (ma+1)) g9;obtain⟨a,ha⟩:∃a:Nat,WA k s (ma+1)=(a:Int):=⟨_,(NU x1).symm⟩
  have y1:=uP ((a:Int)+1+WA k (IA k s (ma+1)) ma) (b:=ma+1) (by lia);have y2:=RU ((a:Int)+1+WA k (IA k s (ma+1)) ma) (b:=ma+1) (by lia);obtain⟨b,hb⟩:∃b:Nat,((a:Int)+1+WA k (IA k s (ma+1)) ma) % (ma+1)=(b:Int):=⟨_,(NU y1).symm⟩
  have bD:a≠b:=λz=>by
   subst z;rcases Int.lt_or_le ((a:Int)+1+WA k (IA k s (ma+1)) ma) (ma+1) with h | h
   ·rw[Mq (by lia) h] at hb
    lia
   ·have h2:((a:Int)+1+WA k (IA k s (ma+1)) ma) % (ma+1)=((a:Int)+1+WA k (IA k s (ma+1)) ma-(ma+1)):=by
     rw[<- Int.sub_emod_right,Mq (by lia) (by lia)]
    lia
  refine iB (s':=IA k (IA k s (ma+1)) ma) (d:=.t [.str "above",.int a,.int b]) (u6:=.un) (u7:=.i a) (u8:=.un) ?_ (.above _ _ (by lia) (by lia) bD);rw[Wo,VI,QA c7];unfold lF;clear n1 n2 b1 b2 o1 o2 m1 m2 v1 v2 c0 iB x1 x2 x3 x4 y1 y2 bD
  walk_at "!hE"
 rw[Wo,VI,UA c7,nN,LI,m0a];have x1:=vC (k:=k) (s:=IA k (IA k s oc) oc) (m:=4) (by decide);have x2:=uC (k:=k) (s:=IA k (IA k s oc) oc) (m:=4) (by decide);obtain⟨x,zO,hx⟩:=Bu x1 x2;refine⟨IA k (IA k (IA k s oc) oc) 4,.t [.str "never",.int (WA k s oc),.int (WA k (IA k s oc) oc),.str x], ?_,.never _ _ _ (vC g3) (uC g3) (vC g3) (uC g3) hx⟩;unfold lF;clear n1 n2 b1 b2 o1 o2 m1 m2 v1 v2 c0 iB x1 x2 hx
 walk_at "!n0a hE"
def DZ:L2.fC [D.int a,D.int b] (if g=true then 1 else 0)=some (.int (if g=true then b else a)):=by cases g<;>rfl
def OW{g:Bool}{a b:Int}(ha:0<a)(hb:0<b):0<(if g=true then b else a):=by cases g<;>simpa
def NW{g:Bool}{a b c:Int}(ha:a<c)(hb:b<c):(if g=true then b else a)<c:=by cases g<;>simpa
structure GI(no ba oc:Int)(fs:List (Int×Int×Bool)):Prop where
 n1:1<=no
 n2:no<=7
 b1:1<=ba
 b2:ba<=4
 o1:1<=oc
 o2:oc<=12
 l1:1<=fs.length
 l2:fs.length<=3
 f:∀f∈fs,0<=f.1/\f.1<=4/\-12<=f.2.1/\f.2.1<=12
def vBa{W n:Nat}{k s:Int}:∃s' no ba oc fs rs,run T W (n+3) "E" [.p (.l [.int k,.int s])]=some (.ok (.sh (.t [.int no,.int ba,.int oc,.t (fs.map toD),.t rs])),[.p (.l [.int k,.int s'])])/\GI no ba oc fs/\rs.length<=8/\∀d∈rs,yG no ba oc (fs.length:Int) d:=by
 exists D3
 generalize hg:decide (WA k s 2=0)=g;have p1:=OW (g:=g) (a:=4) (b:=7) (by decide) (by decide);have p2:=NW (g:=g) (a:=4) (b:=7) (c:=100000000000000000000000000000000000000000000000000000000000000000000000000000000) (by decide) (by decide);have p3:=OW (g:=g) (a:=2) (b:=4) (by decide) (by decide);have p4:=NW (g:=g) (a:=2) (b:=4) (c:=100000000000000000000000000000000000000000000000000000000000000000000000000000000) (by decide) (by decide);have p5:=OW (g:=g) (a:=2) (b:=3) (by decide) (by decide);have p6:=NW (g:=g) (a:=2) (b:=3) (c:=100000000000000000000000000000000000000000000000000000000000000000000000000000000) (by decide) (by decide);have p7:=OW (g:=g) (a:=2) (b:=5) (by decide) (by decide);have p8:=NW (g:=g) (a:=2) (b:=5) (c:=100000000000000000000000000000000000000000000000000000000000000000000000000000000) (by decide) (by decide);obtain⟨s1,JH⟩:∃s1,s1=IA k s 2:=⟨_,rfl⟩
 obtain⟨no,eH⟩:∃no,no=1+WA k s1 (if g=true then 7 else 4):=⟨_,rfl⟩
 obtain⟨s2,oE⟩:∃s2,s2=IA k s1 (if g=true then 7 else 4):=⟨_,rfl⟩
 obtain⟨ba,NF⟩:∃ba,ba=1+WA k s2 (if g=true then 4 else 2):=⟨_,rfl⟩
 obtain⟨s3,RI⟩:∃s3,s3=IA k s2 (if g=true then 4 else 2):=⟨_,rfl⟩
 obtain⟨oc,uF⟩:∃oc,oc=1+WA k s3 12:=⟨_,rfl⟩
 obtain⟨s4,VL⟩:∃s4,s4=IA k s3 12:=⟨_,rfl⟩
 obtain⟨ma,RL⟩:∃ma,ma=1+WA k s4 (if g=true then 3 else 2):=⟨_,rfl⟩
 obtain⟨s5,WL⟩:∃s5,s5=IA k s4 (if g=true then 3 else 2):=⟨_,rfl⟩
 have n1:1<=no:=by have:=vC (k:=k) (s:=s1) p1;lia
 have n2:no<=7:=by
  have:=uC (k:=k) (s:=s1) p1
  have:(if g=true then(7:Int) else 4)<=7:=by cases g<;>decide
  lia
 have b1:1<=ba:=by have:=vC (k:=k) (s:=s2) p3;lia
 have b2:ba<=4:=by
  have:=uC (k:=k) (s:=s2) p3
  have:(if g=true then(4:Int) else 2)<=4:=by cases g<;>decide
  lia
 have o1:1<=oc:=by have:=vC (k:=k) (s:=s3) (m:=12) (by decide);lia
 have o2:oc<=12:=by have:=uC (k:=k) (s:=s3) (m:=12) (by decide);lia
 have m1:1<=ma:=by have:=vC (k:=k) (s:=s4) p5;lia
 have m2:ma<=3:=by
  have:=uC (k:=k) (s:=s4) p5
  have:(if g=true then(3:Int) else 2)<=3:=by cases g<;>decide
  lia
 have aT:aAb .MB [.slot 5] [.p (.l [.int k,.int s5]),.b g,.i no,.i ba,.i oc,.i ma,.o (.l []),.un,.un,.un]=some (rg ma.toNat,none):=LK rfl (by lia) (by lia)
 have gHa:=FG (bind:=lB true [7]) (body:=DA T.aA (run T W (n+2)) W JZ)
  (λpre U=>∃s6 fs t7 t8,U=[.p (.l [.int k,.int s6]),.b g,.i no,.i ba,.i oc,.i ma,.o (.l (fs.map toD)),t7,t8,.un]/\LA t7=true/\LA t8=true/\fs.length=pre.length/\∀f∈fs,0<=f.1/\f.1<=4/\-12<=f.2.1/\f.2.1<=12)
  (ds:=rg ma.toNat) (λpre d post LB U hU=>by
   obtain⟨s6,fs,t7,t8,rfl,h7,h8,hl,hf⟩:=hU
   have qB:pre.length<ma.toNat:=by
    have:=congrArg PH LB
    simp at this
    lia
   refine⟨_,by simp only[jC,RB h7]<;>rfl, ?_⟩;have PD:jB ((fs.map toD).length+1)=true:=PB (by simp;lia);have la:=vC (k:=k) (s:=s6) p7;have lb:=uC (k:=k) (s:=s6) p7;have lc:(if g=true then(5:Int) else 2)<=5:=by cases g<;>decide
   have sa:=vC (k:=k) (s:=IA k s6 (if g=true then 5 else 2)) (m:=25) (by decide);have sb:=uC (k:=k) (s:=IA k s6 (if g=true then 5 else 2)) (m:=25) (by decide);refine⟨[.p (.l [.int k,.int (IA k (IA k (IA k s6 (if g=true then 5 else 2)) 25) 4)]),.b g,.i no,.i ba,.i oc,.i ma,.o (.l ((fs++[(WA k s6 (if g=true then 5 else 2),WA k (IA k s6 (if g=true then 5 else 2)) 25-12,decide (WA k (IA k (IA k s6 (if g=true then 5 else 2)) 25) 4=0))]).map toD)),.sh d,.i (WA k s6 (if g=true then 5 else 2)),.un], ?_,_,_,_,_,rfl,rfl,rfl,by simp[hl],λf hm=>?_⟩
   ·unfold JZ;clear hf LB la lb lc sa sb hg eH oE NF RI uF VL RL WL n1 n2 b1 b2 o1 o2 m1 m2 qB hl aT JH
    walk_at "!DZ hE"
    simp only[VC,CB,sM,toD]
   ·rcases eG.mp hm with hm | hm
    ·exact hf f hm
    ·rw[dD.mp hm]
     refine⟨la, ?_, ?_, ?_⟩<;>simp only<;>lia)
  (U:=[.p (.l [.int k,.int s5]),.b g,.i no,.i ba,.i oc,.i ma,.o (.l []),.un,.un,.un]) ⟨_,[],_,_,rfl,rfl,rfl,rfl,λf h=>nomatch h⟩
 obtain⟨U1,Z0,s6,fs,t7,t8,rfl,h7,h8,hl,hf⟩:=gHa;have hl:fs.length=ma.toNat:=by rw[hl];simp
 have KO:=vC (k:=k) (s:=s6) (m:=9) (by decide);have UL:=uC (k:=k) (s:=s6) (m:=9) (by decide);have AE:aAb .MB [.val (.i (WA k s6 9))] [.p (.l [.int k,.int (IA k s6 9)]),.b g,.i no,.i ba,.i oc,.i ma,.o (.l (fs.map toD)),t7,t8,.o (.l [])]=some ((UB (WA k s6 9).toNat).map λ(j:Nat)=>.int j,none):=LK rfl (by lia) (by lia)
 have hHa:=FG (bind:=lB true [7]) (body:=DA T.aA (run T W (n+2)) W KZ)
  (λpre U=>∃s7 rs t7,U=[.p (.l [.int k,.int s7]),.b g,.i no,.i ba,.i oc,.i ma,.o (.l (fs.map toD)),t7,t8,.o (.l rs)]/\LA t7=true/\rs.length=pre.length/\∀d∈rs,yG no ba oc ma d)
  (ds:=(UB (WA k s6 9).toNat).map λ(j:Nat)=>.int j) (λpre d post LB U hU=>by
   obtain⟨s7,rs,t7,rfl,h7,hl,hR⟩:=hU
   have qB:pre.length<(WA k s6 9).toNat:=by
    have:=congrArg PH LB
    simp at this
    lia
   refine⟨_,by simp only[jC,RB h7]<;>rfl, ?_⟩;have PD:jB (rs.length+1)=true:=PB (by lia);obtain⟨s8,dr,er,KQ⟩:=zl (W:=W) (n:=n) (k:=k) (s0:=s7) n1 n2 b1 b2 o1 o2 m1 m2;refine⟨[.p (.l [.int k,.int s8]),.b g,.i no,.i ba,.i oc,.i ma,.o (.l (fs.map toD)),.sh d,t8,.o (.l (rs++[dr]))], ?_,_,_,_,rfl,rfl,by simp[hl],λd hd=>(eG.mp hd).elim (hR d) λq=>by rw[dD.mp q];exact KQ⟩;unfold KZ;clear hR KQ hf LB hg eH oE NF RI uF VL RL WL n1 n2 b1 b2 o1 o2 m1 m2 qB hl aT JH Z0 AE KO UL
   walk_at "!hE DZ")
  (U:=[.p (.l [.int k,.int (IA k s6 9)]),.b g,.i no,.i ba,.i oc,.i ma,.o (.l (fs.map toD)),t7,t8,.o (.l [])]) ⟨_,[],_,rfl,h7,rfl,λ_ z=>nomatch z⟩
 obtain⟨U2,Wx,s7,rs,x9,rfl,E5,GQ,hR⟩:=hHa;have eT:rs.length<=8:=by rw[GQ];simp;lia
 have bT:(fs.length:Int)=ma:=by lia
 refine⟨s7,no,ba,oc,fs,rs, ?_,⟨n1,n2,b1,b2,o1,o2,by lia,by lia,hf⟩,eT,by rw[bT];exact hR⟩;clear hf n1 n2 b1 b2 o1 o2 m1 m2 hl GQ KO UL hR eT bT;have e1:=eH.symm;have e2:=oE.symm;have e3:=NF.symm;have e4:=RI.symm;have e5:=uF.symm;have e6:=VL.symm;have e7:=RL.symm;have e8:=WL.symm;have e9:=JH.symm;clear eH oE NF RI uF VL RL WL JH
 walk_at "!DZ hE"
def E8:"J"|||n+1|||[.sh (.t [.int LD,.int shift,.bl turned]),.i note]|||.i (if turned then shift-note else shift+note):=by
 exists N4
 cases turned<;>walk_at "!"
def FC(xs:List Int)(b:Int)(f:Int×Int×Bool):D :=
 if 0<=b-f.1/\b-f.1<xs.length then .int (if f.2.2=true then f.2.1-xs.getD (b-f.1).toNat 0 else f.2.1+xs.getD (b-f.1).toNat 0) else .iA
abbrev zD(fs:List (Int×Int×Bool)):List (Int×Int×Bool):=(0,0,false)::fs
def LX{v:Nat}(h:(zD fs)[v]?=some f) :
  "K"|||n+1|||[.sh (vA no ba oc fs rs),.i v]|||.sh (toD f):=by
 exists Q4
 cases v with
 |zero =>
  simp only[ZJ,eC] at h;subst h;have e:decide (((0:Nat):Int)=0)=true:=rfl
  walk_at "!"
  all_goals (try simp only[e])
  all_goals (try walk_at "!")
  all_goals rfl
 |succ v =>
  have h:fs[v]?=some f:=by simpa using h
  have e:decide (((v+1:Nat):Int)=0)=false:=eB (by lia);have e2:((v+1:Nat):Int)-1=(v:Int):=by lia
  have e3:L2.fC (fs.map toD) (v:Int)=some (toD f):=L2.wL (by rw[MD,h];rfl);unfold vA
  walk_at "!"
def Qc{xs:List Int}{i:Int}(h1:0<=i)(h2:i<xs.length):L2.fC (xs.map D.int) i=some (.int (xs.getD i.toNat 0)):=by
 have:=BV (ns:=xs) (k:=i.toNat) (by lia)
 have e:((i.toNat:Nat):Int)=i:=by lia
 rwa[e] at this
def u9{W n:Nat}{no ba oc:Int}{fs:List (Int×Int×Bool)}{rs:List D}{xs:List Int}{v:Nat}{b:Int}{p:Bool}{f:Int×Int×Bool}(h:(zD fs)[v]?=some f) :
  "l"|||n+2|||[.sh (vA no ba oc fs rs),.p (.l (xs.map D.int)),.i v,.i b]|||.sh (FC xs b f):=by
 exists X4
 have hs:=LX (W:=W) (n:=n) (no:=no) (ba:=ba) (oc:=oc) (rs:=rs) h;obtain⟨LD,shift,turned⟩:=f;simp only[toD] at hs;by_cases c:0<=b-LD/\b-LD<xs.length
 ·have e1:=Qc c.1 c.2;have ev:FC xs b (LD,shift,turned)=.int (if turned=true then shift-xs.getD (b-LD).toNat 0 else shift+xs.getD (b-LD).toNat 0):=QA c;obtain⟨c1,c2⟩:=c;clear h
  walk_at "!LX E8 nA"
 ·have ev:FC xs b (LD,shift,turned)=.iA:=UA c;by_cases c1:0<=b-LD
  ·have c2:¬b-LD<xs.length:=λz=>c ⟨c1,z⟩
   have gE:decide (b-LD<(xs.length:Int))=false:=eB c2;clear h c c2
   walk_at "!LX E8 nA"
  ·have ND:decide (0<=b-LD)=false:=eB c1;clear h c c1
   walk_at "!LX E8 nA"
def uR:FC xs b f=.iA\/∃i,FC xs b f=.int i:=by
 unfold FC;split
 ·exact .inr ⟨_,rfl⟩
 ·exact .inl rfl
def PL(hl:fs.length<=1000) :
  "f"|||n+1|||[.sh (vA no ba oc fs rs),.p (.l (xs.map D.int)),.i b]|||.ow (.l ((zD fs).map (FC xs b))):=by
 exists C3
 have PD:jB (([]:List D).length+1+(fs.map toD).length)=true:=PB (by simp;lia);have lT:jB (0+1+fs.length)=true:=PB (by lia)
 have key:=FG (bind:=lB false [4,5,6]) (body:=DA T.aA (run T W n) W IZ)
  (λpre U=>∃(gs:List (Int×Int×Bool)) (t4 t5 t6 t7:Sl),pre=gs.map toD/\U=[.sh (vA no ba oc fs rs),.p (.l (xs.map D.int)),.i b,.o (.l (gs.map (FC xs b))),t4,t5,t6,t7]/\LA t4=true/\LA t5=true/\LA t6=true/\LA t7=true)
  (ds:=(zD fs).map toD) (λpre d post LB U hU=>by
   obtain⟨gs,t4,t5,t6,t7,rfl,rfl,h4,h5,h6,h7⟩:=hU;have hBa:d∈(zD fs).map toD:=by rw[LB];simp
   obtain⟨f,_,rfl⟩:=SD.mp hBa
   have qB:gs.length<=1000:=by
    have:=congrArg PH LB
    simp at this
    lia
   obtain⟨LD,shift,turned⟩:=f;have gCa:jB ((gs.map (FC xs b)).length+1)=true:=PB (by simp;lia);have hCa:jB (gs.length+1)=true:=PB (by lia);refine⟨[.sh (vA no ba oc fs rs),.p (.l (xs.map D.int)),.i b,.o (.l (gs.map (FC xs b))),.i LD,.i shift,.b turned,t7], ?_, ?_⟩
   ·unfold toD;simp only[jC,RB h4,RB h5,RB h6]
   ·refine⟨[.sh (vA no ba oc fs rs),.p (.l (xs.map D.int)),.i b,.o (.l ((gs++[(LD,shift,turned)]).map (FC xs b))),.i LD,.i shift,.b turned,.sh (FC xs b (LD,shift,turned))], ?_,gs++[(LD,shift,turned)],_,_,_,_,by simp,rfl,rfl,rfl,rfl,rfl⟩;unfold IZ;rw[VC,CB,sM];by_cases c:0<=b-LD/\b-LD<xs.length
    ·have e1:=Qc c.1 c.2;have ev:FC xs b (LD,shift,turned)=.int (if turned=true then shift-xs.getD (b-LD).toNat 0 else shift+xs.getD (b-LD).toNat 0):=QA c;rw[ev];obtain⟨c1,c2⟩:=c;cases turned
     ·walk_at "!nA"
     ·walk_at "!nA"
    ·have ev:FC xs b (LD,shift,turned)=.iA:=UA c;rw[ev];by_cases c1:0<=b-LD
     ·have c2:¬b-LD<xs.length:=λz=>c ⟨c1,z⟩
      have gE:decide (b-LD<(xs.length:Int))=false:=eB c2
      walk_at "!nA"
     ·have ND:decide (0<=b-LD)=false:=eB c1
      walk_at "!nA")
  (U:=[.sh (vA no ba oc fs rs),.p (.l (xs.map D.int)),.i b,.o (.l []),.un,.un,.un,.un]) ⟨[],_,_,_,_,rfl,rfl,rfl,rfl,rfl,rfl⟩
 obtain⟨U',e,gs,t4,t5,t6,t7,hg,rfl,_⟩:=key
 have inj:∀{f g:Int×Int×Bool},toD f=toD g->f=g:=λ{f g} h=>by(obtain⟨a,b,c⟩:=f;obtain⟨a',b',c'⟩:=g;simp only[toD,D.t.injEq,sP,D.int.injEq,D.bl.injEq,and_true] at h;obtain⟨rfl,rfl,rfl⟩:=h;rfl)
 have hgs:gs=zD fs:=((Cq (λa b h=>inj h)).mp hg).symm;subst hgs;have hi:aAb .of [.val (.sh (.t ((zD fs).map toD)))] [.sh (vA no ba oc fs rs),.p (.l (xs.map D.int)),.i b,.o (.l []),.un,.un,.un,.un]=some ((zD fs).map toD,none):=FT rfl;have hh:vA no ba oc fs rs=.t [.int no,.int ba,.int oc,.t (fs.map toD),.t rs]:=rfl;rw[hh] at e hi ⊢;rw[CB] at e hi;simp only[CB,toD] at e hi ⊢
 walk_at "!nA"
def SV{bind:D->Env->Option Env}(sel:Nat->Bool)(val:Nat->D)(J:Env->Prop)
  (step:∀(j:Nat) (d:D),ds[j]?=some d->∀U,J U->∃U1 U2,bind d U=some U1/\tests U1=some (.ok (.b (sel j)),U2)/\(sel j=true->∃v U3,JA U2=some (.ok v,U3)/\v.d=val j/\J U3)/\(sel j=false->J U2)) :
  ∀U,J U->∃U',OE tests JA bind ds [] U=some (.ok (((UB ds.length).filter sel).map val),U')/\J U':=by
 intro U hU
 obtain⟨BA,U',e,⟨rfl,hJ⟩,_⟩:=YM (λj BA U=>BA=((UB j).filter sel).map val/\J U)
  (λj d hd BA U hz=>by
   obtain⟨ha,hJ⟩:=hz;subst ha;obtain⟨U1,U2,h1,h2,h3,h4⟩:=step j d hd U hJ;refine⟨U1,sel j,U2,h1,h2,λhc=>?_,λhc=>?_⟩
   ·obtain⟨v,U3,h5,h6,h7⟩:=h3 hc;refine⟨v,U3,h5, ?_,h7⟩;rw[vP,EN,VC,h6];simp[hc]
   ·refine⟨?_,h4 hc⟩;rw[vP,EN,VC]
    simp[hc]) [] U ⟨rfl,hU⟩
 exact⟨U',e,hJ⟩
def PV{xs:List Int}{b:Int}(hl:fs.length<=1000) :
  "d"|||n+3|||[.sh (vA no ba oc fs rs),.p (.l (xs.map D.int)),.i b]|||.ow (.l ((zD fs).map (FC xs b))):=by
 exists y4
 have hi:aAb .MB [.val (.i ((fs.length:Int)+1))] [.sh (vA no ba oc fs rs),.p (.l (xs.map D.int)),.i b]=some (rg (fs.length+1),none):=by(refine wM (LK (n:=(fs.length:Int)+1) rfl (by lia) (by lia)) ?_;rw[show((fs.length:Int)+1).toNat=fs.length+1 from by lia])
 obtain⟨BA,Ui,e,⟨t4,rfl,vF,rfl⟩,hz⟩:=YM (tests:=aD T.aA (run T W (n+2)) []) (JA:=ev T.aA (run T W (n+2)) false J1) (bind:=lB true [4]) (ds:=rg (fs.length+1))
  (λj BA U=>∃(t4:Sl),U=[.i b,.sh (vA no ba oc fs rs),.p (.l (xs.map D.int)),.un,t4]/\LA t4=true/\BA=((zD fs).take j).map (FC xs b))
  (λj d hd BA U hU=>by
   obtain⟨t4,rfl,vF,rfl⟩:=hU
   have hj:j<fs.length+1:=by
    have:=(eE.mp hd).1
    simpa using this
   have sF:d=.int j:=by(rw[MD,CM hj] at hd;exact(rE hd).symm)
   subst sF;obtain⟨f,hf⟩:∃f,(zD fs)[j]?=some f:=⟨_,XC (by simp;lia)⟩
   have hs:=u9 (W:=W) (n:=n) (no:=no) (ba:=ba) (oc:=oc) (rs:=rs) (xs:=xs) (b:=b) (p:=true) hf;refine⟨_,true,_,by simp only[jC,RB vF]<;>rfl,pO,λ_=>?_,λz=>nomatch z⟩;refine⟨.sh (FC xs b f),[.i b,.sh (vA no ba oc fs rs),.p (.l (xs.map D.int)),.un,.i j], ?_,_,rfl,rfl, ?_⟩
   ·unfold J1;clear hd hj hf hi vF
    walk_at "!nA"
   ·rw[zP,hf,VC]
    rfl)
  [] [.i b,.sh (vA no ba oc fs rs),.p (.l (xs.map D.int)),.un,.un] ⟨_,rfl,rfl,rfl⟩
 have ht:(zD fs).take ((rg (fs.length+1)).length)=zD fs:=by(rw[eJ];simp)
 rw[ht] at e;have PD:jB ((zD fs).map (FC xs b)).length=true:=PB (by simp;lia);have lT:jB (fs.length+1)=true:=PB (by lia);clear hz vF ht hl
 walk_at "!nA"
 rw[nG hi]
 walk_at "!nA"
noncomputable def ZI(lo hi:Int):D->Bool
 |.int i=>!(decide (lo<=i)&&decide (i<=hi))
 |_=>false
def YO(n:Nat)(sel:Nat->Bool):List (List Int):=((UB n).filter sel).map λ(j:Nat)=>[(j:Int)]
def n8(hn:n<=1000):(YO n sel).length<=1000:=by
 unfold YO;rw[nA]
 have:=LU sel (UB n)
 simp at this
 lia
def Fj:((UB n).filter sel).map (λ(j:Nat)=>D.t [.int j])=MA (YO n sel):=by
 unfold MA YO;rw[NN];rfl
def mUa(hd:d=.iA\/∃i,d=.int i):"1"|||n+1|||[.sh (.ins "Range" ["low","high"] [.int lo,.int hi]),.sh d]|||.b (ZI lo hi d):=by
 exists V3
 rcases hd with rfl | ⟨i,rfl⟩
 ·have e:ZI lo hi .iA=false:=rfl
  walk_at "!S2 Q2"
 ·have e:ZI lo hi (.int i)=!(decide (lo<=i)&&decide (i<=hi)):=rfl;by_cases c:lo<=i
  ·have c':decide (lo<=i)=true:=rB c;rw[e,c',iJ]
   walk_at "!S2 Q2"
  ·have c':decide (lo<=i)=false:=eB c;rw[e,c',ZK]
   walk_at "!S2 Q2"
def YA(fs:List (Int×Int×Bool))(xs:List Int)(b:Int):List D:=(zD fs).map (FC xs b)
def Xf{j:Nat}(h:(YA fs xs b)[j]?=some d):d=.iA\/∃i,d=.int i:=by
 unfold YA at h;rw[MD] at h
 cases q:(zD fs)[j]? with
 |none=>rw[q] at h;cases h
 |some f =>
  rw[q] at h;cases h;exact uR
def AJ:(YA fs xs b).length=fs.length+1:=by unfold YA;simp
def P5{v:Nat}(h:(zD fs)[v]?=some f):(YA fs xs b)[v]?=some (FC xs b f):=by
 unfold YA;rw[MD,h];rfl
def XS{v:Nat}(h:(zD fs)[v]?=some f):(YA fs xs b).getD v .iA=FC xs b f:=by
 rw[sH,P5 h];rfl
def cEa(h:v.d=.l ds):aAb (.enum 0) [.val v] U=some (SE 0 ds,none):=by(unfold aAb;simp only[h])
def qI(lo hi:Int)(fs:List (Int×Int×Bool))(xs:List Int)(b:Int):List (List Int):=YO (fs.length+1) λj=>ZI lo hi ((YA fs xs b).getD j .iA)
def lUa(hl:fs.length<=900) :
  "0"|||n+4|||[.sh (.ins "Range" ["low","high"] [.int lo,.int hi]),.sh (vA no ba oc fs rs),.p (.l (xs.map D.int)),.i b]|||.ow (.l (MA (qI lo hi fs xs b))):=by
 exists T3
 have hc:run T W (n+3) "d" _=some (.ok (.ow (.l (YA fs xs b))),_):=PV (no:=no) (ba:=ba) (oc:=oc) (fs:=fs) (rs:=rs) (xs:=xs) (b:=b) (by lia);have AE:aAb (.enum 0) [.val (.ow (.l (YA fs xs b)))] [.sh (.ins "Range" ["low","high"] [.int lo,.int hi]),.sh (vA no ba oc fs rs),.p (.l (xs.map D.int)),.i b]=some (SE 0 (YA fs xs b),none):=cEa rfl
 obtain⟨Ui,e,t2,t3,rfl,YL,LO⟩:=SV (tests:=aD T.aA (run T W (n+3)) [.JJ 0 "forbids" xN [.v 3]]) (JA:=ev T.aA (run T W (n+3)) false D1) (bind:=lB false [2,3]) (ds:=SE 0 (YA fs xs b))
  (λj=>ZI lo hi ((YA fs xs b).getD j .iA)) (λ(j:Nat)=>.t [.int j])
  (λU=>∃(t2 t3:Sl),U=[.sh (.ins "Range" ["low","high"] [.int lo,.int hi]),.un,t2,t3]/\LA t2=true/\LA t3=true)
  (λj d hd U hU=>by
   obtain⟨t2,t3,rfl,YL,LO⟩:=hU
   have hj:j<(YA fs xs b).length:=by
    have:=(eE.mp hd).1
    rwa[lQ] at this
   have hg:=XC hj;rw[A2 hg,Int.zero_add] at hd;cases hd;generalize (YA fs xs b)[j]=x at hg;have zK:(YA fs xs b).getD j .iA=x:=by rw[sH,hg];rfl
   have hk:=Xf hg;have hf:=mUa (W:=W) (n:=n+2) (lo:=lo) (hi:=hi) hk;refine⟨_,[.sh (.ins "Range" ["low","high"] [.int lo,.int hi]),.un,.i j,.sh x],by simp only[jC,RB YL,RB LO]<;>rfl, ?_,λ_=>?_,λ_=>?_⟩
   ·simp only[zK]
    walk_at "!iX"
   ·refine⟨.sh (.t [.int j]),[.sh (.ins "Range" ["low","high"] [.int lo,.int hi]),.un,.i j,.sh x], ?_,rfl,_,_,rfl,rfl,rfl⟩;unfold D1
    walk_at "!iX"
   ·exact⟨_,_,rfl,rfl,rfl⟩)
  [.sh (.ins "Range" ["low","high"] [.int lo,.int hi]),.un,.un,.un] ⟨_,_,rfl,rfl,rfl⟩
 rw[lQ,AJ,Fj] at e;have hB:YO (fs.length+1) (λj=>ZI lo hi ((YA fs xs b).getD j .iA))=qI lo hi fs xs b:=rfl;rw[hB] at e
 have PD:jB (MA (qI lo hi fs xs b)).length=true:=PB (by
  have:=n8 (n:=fs.length+1) (sel:=λj=>ZI lo hi ((YA fs xs b).getD j .iA)) (by lia)
  unfold MA qI;simp only[nA]
  lia)
 walk_at "!iX"
 rw[nG AE]
 walk_at "!iX"
noncomputable def aF(m v:Nat)(P:Nat->Nat->Bool):List (List Int):=((UB m).filter λj=>P v (v+1+j)).map λ(j:Nat)=>[(v:Int),((v+1+j:Nat):Int)]
def YE(n:Nat)(P:Nat->Nat->Bool):List (List Int):=(UB n).flatMap λv=>aF (n-(v+1)) v P
def xUa:aF (m+1) v P=aF m v P++(if P v (v+1+m)=true then [[(v:Int),((v+1+m:Nat):Int)]] else []):=by
 unfold aF;rw[vP,EN,VC];congr 1;by_cases h:P v (v+1+m)=true
 ·simp[h]
 ·simp[h]
def yl:(aF m v P).length<=m:=by
 unfold aF;rw[nA]
 have:=LU (λj=>P v (v+1+j)) (UB m)
 simpa using this
def Oj:(UB (m+1)).flatMap (λv=>aF (n-(v+1)) v P)=(UB m).flatMap (λv=>aF (n-(v+1)) v P)++aF (n-(m+1)) m P:=by
 rw[vP,List.flatMap_append];simp
theorem U9:∀(m:Nat),((UB m).flatMap (λv=>aF (n-(v+1)) v P)).length<=m*n
 | 0=>by simp
 |m+1=>by(rw[Oj,gC];have h1:=U9 (n:=n) (P:=P) m;have h2:=yl (m:=n-(m+1)) (v:=m) (P:=P);rw[Nb];omega)
def xX(hn:n<=30):(YE n P).length<=1000:=by
 have h1:=U9 (n:=n) (P:=P) n;have h2:n*n<=30*30:=kr hn hn;unfold YE
 lia
def YX:MA (a++b)=MA a++MA b:=by unfold MA;rw[VC]
def RJ:(MA a).length=a.length:=by unfold MA;rw[nA]
def Q8(E:List D->Sl->Sl->Env)(P:Nat->Nat->Bool)(n v:Nat)(BA:List (List Int))(ha:BA.length<=10000)(hn:n<=1000)
  (hb:∀(a:List D) (t:Sl) (d:D),LA t=true->lB true [iw] d (E a (.i v) t)=some (E a (.i v) (.sh d)))
  (hs:∀(a:List (List Int)) (w:Nat),v<w->w<n->a.length<=20000->body (E (MA a) (.i v) (.i w))=some (.nx,E (MA (a++(if P v w=true then [[(v:Int),(w:Int)]] else []))) (.i v) (.i w))) (t:Sl) (ht:LA t=true) :
  ∃t',uD (lB true [iw]) body ((UB (n-(v+1))).map λ(j:Nat)=>.int ((v:Int)+1+(j:Int))) (E (MA BA) (.i v) t)=some (.nx,E (MA (BA++aF (n-(v+1)) v P)) (.i v) t')/\LA t'=true:=by
 obtain⟨U',e,t',rfl,SI⟩:=FG (bind:=lB true [iw]) (λpre U=>∃t',U=E (MA (BA++aF pre.length v P)) (.i v) t'/\LA t'=true)
  (ds:=(UB (n-(v+1))).map λ(j:Nat)=>.int ((v:Int)+1+(j:Int))) (λpre d post LB U hU=>by
   obtain⟨t',rfl,SI⟩:=hU
   have qB:pre.length<n-(v+1):=by
    have:=congrArg PH LB
    simp at this;omega
   have hd:d=.int (((v+1+pre.length:Nat)):Int):=by
    have h1:((UB (n-(v+1))).map λ(j:Nat)=>D.int ((v:Int)+1+(j:Int)))[pre.length]?=some d:=by rw[LB];simp
    rw[MD,CM qB] at h1;simp only[jF,eC] at h1;rw[<- h1];congr 1
   subst hd;refine⟨_,hb _ _ _ SI,_,hs _ (v+1+pre.length) (by omega) (by omega) ?_,.i ((v+1+pre.length:Nat):Int), ?_,rfl⟩
   ·have:=yl (m:=pre.length) (v:=v) (P:=P)
    rw[gC];omega
   ·rw[gC,kD,mL,xUa,UH])
  (U:=E (MA BA) (.i v) t) ⟨t,by simp[aF],ht⟩
 refine⟨t', ?_,SI⟩;rw[e];simp
def x8(E:List D->Sl->Sl->Env)(P:Nat->Nat->Bool)(n:Nat)(hn:n<=30)
  (hb:∀(a:List D) (t t2:Sl) (d:D),LA t=true->lB true [iv] d (E a t t2)=some (E a (.sh d) t2))
  (hs:∀(BA:List (List Int)) (v:Nat) (t:Sl),v<n->BA.length<=10000->LA t=true->∃t',body (E (MA BA) (.i v) t)=some (.nx,E (MA (BA++aF (n-(v+1)) v P)) (.i v) t')/\LA t'=true) (t t2:Sl) (ht:LA t=true) (YL:LA t2=true) :
  ∃t' DE,uD (lB true [iv]) body (rg n) (E [] t t2)=some (.nx,E (MA (YE n P)) t' DE)/\LA t'=true/\LA DE=true:=by
 obtain⟨U',e,t',DE,rfl,SI,bN⟩:=FG (bind:=lB true [iv]) (λpre U=>∃t' DE,U=E (MA ((UB pre.length).flatMap λv=>aF (n-(v+1)) v P)) t' DE/\LA t'=true/\LA DE=true)
  (ds:=rg n) (λpre d post LB U hU=>by
   obtain⟨t',DE,rfl,SI,bN⟩:=hU
   have qB:pre.length<n:=by
    have:=congrArg PH LB
    simp at this
    lia
   have hd:d=.int ((pre.length:Nat):Int):=by
    have h1:(rg n)[pre.length]?=some d:=by rw[LB];simp
    rw[MD,CM qB] at h1;simp only[jF,eC] at h1;exact h1.symm
   subst hd
   obtain⟨t3,h3,h4⟩:=hs ((UB pre.length).flatMap λv=>aF (n-(v+1)) v P) pre.length DE qB (by
    have h1:=U9 (n:=n) (P:=P) pre.length;have h2:pre.length*n<=30*30:=kr (by lia) hn
    lia) bN
   refine⟨_,hb _ _ _ _ SI,_,h3,.i ((pre.length:Nat):Int),_, ?_,rfl,h4⟩
   rw[gC,kD,mL,Oj])
  (U:=E [] t t2) ⟨t,t2,by simp[MA],ht,YL⟩
 refine⟨t',DE, ?_,SI,bN⟩;rw[e];unfold YE;simp
noncomputable def wF:D->Bool
 |.iA=>true
 |_=>false
def QD(hs:List D)(v w:Nat):Bool:=!wF (hs.getD v .iA) && !wF (hs.getD w .iA)
def OP(hs:List D):Prop:=∀d∈hs,d=.iA\/∃i,d=.int i
def HW:OP (YA fs xs b):=λd hd=>by
 obtain⟨f,_,rfl⟩:=SD.mp hd;exact uR
def IH(h:OP hs)(hv:v<hs.length):∃d,L2.fC hs (v:Int)=some d/\hs.getD v .iA=d/\(d=.iA\/∃i,d=.int i):=by
 refine⟨hs[v],L2.wL (XC hv), ?_,h _ (LR hv)⟩;rw[sH,XC hv];rfl
def Ol(hh:OP hs)(hl:hs.length<=30) :
  "t"|||n+1|||[.p (.l hs)]|||.ow (.l (MA (YE hs.length (QD hs)))):=by
 exists R4
 have hi:aAb .MB [.val (.i hs.length)] [.p (.l hs),.o (.l []),.un,.un]=some (rg hs.length,none):=by(refine wM (LK (n:=(hs.length:Int)) rfl (by lia) (by lia)) ?_;rw[gJ])
 obtain⟨t',DE,e,SI,bN⟩:=x8 (iv:=2) (body:=DA T.aA (run T W n) W XZ) (λa t t2=>[.p (.l hs),.o (.l a),t,t2]) (QD hs) hs.length hl
  (λa t t2 d ht=>by simp only[jC,RB ht])
  (λBA v t hv JL ht=>by
   have AE:aAb .MB [.val (.i ((v:Int)+1)),.val (.i hs.length)] [.p (.l hs),.o (.l (MA BA)),.i v,t]=some ((UB (hs.length-(v+1))).map λ(j:Nat)=>.int ((v:Int)+1+(j:Int)),none):=by(refine wM (T6 (m:=(v:Int)+1) (n:=(hs.length:Int)) rfl rfl (by lia) (by lia)) ?_;rw[show((hs.length:Int)-((v:Int)+1)).toNat=hs.length-(v+1) from by lia])
   obtain⟨t3,e3,h3⟩:=Q8 (iw:=3) (body:=DA T.aA (run T W n) W WZ) (λa t t2=>[.p (.l hs),.o (.l a),t,t2]) (QD hs) hs.length v BA JL (by lia)
    (λa t d ht=>by simp only[jC,RB ht])
    (λa w LW hw NI=>by
     obtain⟨d1,a1,g1,k1⟩:=IH hh hv;obtain⟨d2,a2,g2,k2⟩:=IH hh hw;have PD:jB ((MA a).length+1)=true:=PB (by rw[RJ];lia);unfold WZ QD;rw[g1,g2];rcases k1 with rfl | ⟨i1,rfl⟩
     ·have e:wF .iA=true:=rfl
      walk_at "!nA"
      all_goals (try simp only[kE])
     ·have e1:wF (.int i1)=false:=rfl;rcases k2 with rfl | ⟨i2,rfl⟩
      ·have e:wF .iA=true:=rfl
       walk_at "!nA"
       all_goals (try simp only[kE])
      ·have e:wF (.int i2)=false:=rfl;have et:MA (a++[[(v:Int),(w:Int)]])=MA a++[.t [.int v,.int w]]:=by rw[YX];rfl
       walk_at "!nA") t ht
   refine⟨t3, ?_,h3⟩;unfold XZ
   walk_at "!nA") .un .un rfl rfl
 walk_at "!nA"
noncomputable def cC(i:Int):Int:=if i<0 then -i else i
theorem ZC:(if i<0 then -i else i)=cC i:=rfl
noncomputable def gx(xs:List Int)(i:Nat):Int:=xs.getD i 0
def oJ{xs:List Int}(h:k<xs.length):L2.fC (xs.map D.int) (k:Int)=some (.int (gx xs k)):=BV h
def mW(h:k<xs.length):gx xs k∈xs:=by
 unfold gx;rw[sH,XC h];simp
noncomputable def nD(c:Bool):List (List Int):=if c=true then [[]] else []
def m8:(nD c).length<=1000:=by cases c<;>decide
def L8:NC .Mult (.l [.t []]) (.int (if c=true then 1 else 0))=some (.ow (.l (MA (nD c)))):=by
 cases c<;>exact iS (by decide) (by decide) (ZF (by decide))
def LH(mo:Int)(xs:List Int):Nat->Bool
 | 0=>false
 |b+1=>decide (mo<cC (gx xs (b+1)-gx xs b))
def dIa{b:Nat}(hb:b<xs.length) :
  "X"|||n+1|||[.sh (.ins "Leap" ["most"] [.int mo]),.sh h,.p (.l (xs.map D.int)),.i b]|||.ow (.l (MA (nD (LH mo xs b)))):=by
 exists R3
 match b,hb with
 | 0,hb =>
  have e:MA (nD (LH mo xs 0))=[]:=rfl;have c:decide (0<((0:Nat):Int))=false:=rfl
  walk_at "!P2 nA ZC"
 |b+1,hb =>
  have c:decide (0<((b+1:Nat):Int))=true:=rB (by lia);have i1:((b+1:Nat):Int)-1=((b:Nat):Int):=by lia
  have a0:=oJ (xs:=xs) (k:=b) (by lia);have a1:=oJ (xs:=xs) (k:=b+1) (by lia);have ev:LH mo xs (b+1)=decide (mo<cC (gx xs (b+1)-gx xs b)):=rfl;cases c1:decide (mo<cC (gx xs (b+1)-gx xs b))
  ·have e:MA (nD (LH mo xs (b+1)))=[]:=by rw[ev,c1];rfl
   clear ev
   walk_at "!P2 nA ZC"
  ·have e:MA (nD (LH mo xs (b+1)))=[.t []]:=by rw[ev,c1];rfl
   clear ev
   walk_at "!P2 nA ZC"
def rG(m:Nat)(xs:List Int)(b:Nat):List Int:=(xs.drop (b-m)).take m
def ME(m:Nat)(xs:List Int)(b:Nat):Bool:=decide ((m:Int)<=(b:Int))&&(rG m xs b).all λz=>decide (z=gx xs b)
def se{xs:List Int}(h:m<=b)(hb:b<=e)(he:e<=xs.length):tI (some (.l (xs.map D.int))) (some (.int ((b:Int)-(m:Int)))) (some (.int e))=some (.ow (.l (((xs.drop (b-m)).take (m+(e-b))).map D.int))):=by
 have e1:(b:Int)-(m:Int)=((b-m:Nat):Int):=by lia
 show some (RV.ow (.l (aAv (xs.map D.int) (some ((b:Int)-(m:Int))) (some (e:Int)))))=_;rw[e1];unfold aAv;rw[HT.oR,HT.oR,nA,xP (by lia),xP (by lia),<- Gb,<- IY,show e-(b-m)=m+(e-b) from by lia]
def nQ{Z:List Int}:JF .all [.l (Z.map λz=>.bl (p z))]=some (.b (Z.all p)):=by
 have h:pJ (Z.map λz=>.bl (p z))=some (Z.map p):=by
  induction Z with
  |nil=>rfl
  |cons z Z ih=>simp[pJ,ih]
 show(pJ _).map _=_;rw[h];simp[Rb]
def ku{m:Nat}{h:D}{xs:List Int}{b:Nat}(hb:b<xs.length)(hm:m<=3) :
  "Z"|||n+1|||[.sh (.ins "Again" ["most"] [.int m]),.sh h,.p (.l (xs.map D.int)),.i b]|||.ow (.l (MA (nD (ME m xs b)))):=by
 exists W2
 by_cases c:(b:Int)<(m:Int)
 ·have c':decide ((b:Int)<(m:Int))=true:=rB c
  have e:MA (nD (ME m xs b))=[]:=by(unfold ME;rw[eB (by lia)];rfl)
  walk_at "!pQ nQ nA"
 ·have c':decide ((b:Int)<(m:Int))=false:=eB c;have hs:=se (xs:=xs) (m:=m) (b:=b) (e:=b) (by lia) (zB _) (by lia);rw[hV,Pb] at hs;have hZ:((xs.drop (b-m)).take m)=rG m xs b:=rfl;rw[hZ] at hs
  have hv:ME m xs b=(rG m xs b).all λz=>decide (z=gx xs b):=by(unfold ME;rw[rB (by lia),iJ])
  have hzl:(rG m xs b).length<=3:=by unfold rG;rw[bK];lia
  have a0:=oJ (k:=b) hb
  generalize rG m xs b=Z at *
  have hi:aAb .of [.val (.ow (.l (Z.map D.int)))] [.sh (.ins "Again" ["most"] [.int m]),.sh h,.p (.l (xs.map D.int)),.i b]=some (Z.map D.int,none):=WW rfl
  obtain⟨BA,Ui,e,⟨t4,rfl,vF,rfl⟩,hz⟩:=YM (tests:=aD T.aA (run T W n) []) (JA:=ev T.aA (run T W n) false A1) (bind:=lB true [3]) (ds:=Z.map D.int)
   (λj BA U=>∃(t4:Sl),U=[.i b,.p (.l (xs.map D.int)),.un,t4]/\LA t4=true/\BA=(Z.take j).map λz=>.bl (decide (z=gx xs b)))
   (λj d hd BA U hU=>by
    obtain⟨t4,rfl,vF,rfl⟩:=hU;obtain⟨z,hz,rfl⟩:∃z,Z[j]?=some z/\D.int z=d:=by simpa using hd
    refine⟨_,true,_,by simp only[jC,RB vF]<;>rfl,pO,λ_=>?_,λz=>nomatch z⟩;refine⟨.b (decide (z=gx xs b)),[.i b,.p (.l (xs.map D.int)),.un,.i z], ?_,_,rfl,rfl, ?_⟩
    ·unfold A1
     walk_at "!pQ nQ nA"
    ·rw[zP,hz,VC]
     rfl)
   [] [.i b,.p (.l (xs.map D.int)),.un,.un] ⟨_,rfl,rfl,rfl⟩
  have ht:Z.take (Z.map D.int).length=Z:=by(rw[eJ];simp)
  rw[ht] at e;have PD:jB (Z.map λz=>D.bl (decide (z=gx xs b))).length=true:=PB (by simp;lia);have lT:jB Z.length=true:=PB (by lia);cases c1:Z.all λz=>decide (z=gx xs b)
  ·have e2:MA (nD (ME m xs b))=[]:=by rw[hv,c1];rfl
   clear hv
   walk_at "!pQ nQ nA"
   rw[nG hi]
   walk_at "!pQ nQ nA"
  ·have e2:MA (nD (ME m xs b))=[.t []]:=by rw[hv,c1];rfl
   clear hv
   walk_at "!pQ nQ nA"
   rw[nG hi]
   walk_at "!pQ nQ nA"
def yd{b:Nat}(hb:b<xs.length) :
  "q"|||n+1|||[.sh (.t [.str "leap",.int mo]),.p (.l (xs.map D.int)),.i b]|||.b (LH mo xs b):=by
 exists IS
 match b,hb with
 | 0,hb =>
  have e:LH mo xs 0=false:=rfl;have c:decide (0<((0:Nat):Int))=false:=rfl
  walk_at "!QB nA ZC"
 |b+1,hb =>
  have c:decide (0<((b+1:Nat):Int))=true:=rB (by lia);have i1:((b+1:Nat):Int)-1=((b:Nat):Int):=by lia
  have a0:=oJ (xs:=xs) (k:=b) (by lia);have a1:=oJ (xs:=xs) (k:=b+1) (by lia);have ev:LH mo xs (b+1)=decide (mo<cC (gx xs (b+1)-gx xs b)):=rfl
  walk_at "!QB nA ZC"
theorem ze:∀(l BA:List Int),BA.length<=(l.foldl gL BA).length
 |[],_=>zB _
 |a::l,BA=>by
  refine vD ?_ (ze l _);unfold gL;split
  ·exact zB _
  ·simp
theorem Ae(y:Int):∀l:List Int,decide (((l.foldl gL [y]).length:Int)=1)=l.all λz=>decide (z=y)
 |[]=>rfl
 |a::l=>by
  by_cases h:a=y
  ·subst h;have e:gL [a] a=[a]:=by unfold gL;simp
   rw[qP,e,Ae a l];simp
  ·have e:gL [y] a=[y,a]:=by
    unfold gL;rw[UA]
    ·rfl
    ·simp;lia
   have g:=ze l [y,a];rw[qP,e,eB (by simp only[kD,mL] at g;lia)];simp[h]
theorem aAx:∀l:List Int,OC (l.map D.int)=some l
 |[]=>rfl
 |a::l=>by simp only[CB,OC,aAx l,jF]
def ns_{l:List Int}(h:l.length<=1000):uj (some (.l (l.map D.int)))=some (.i ((l.foldl gL []).length:Int)):=by
 show cU (.l (l.map D.int))=_;unfold cU;simp only[aAx,QA h];unfold Up
 have e:(UB l.length).map (λi=>l.getD i 0)=l:=by
  apply List.ext_getElem
  ·simp
  ·intro i h1 h2;simp[h2]
 rw[e]
def Ax{x:Int}(hZ:Z≠[]):decide ((((Z++[x]).foldl gL []).length:Int)=1)=Z.all λz=>decide (z=x):=by
 match Z,hZ with
 |y::Z,_ =>
  have e:gL [] y=[y]:=rfl;rw[List.cons_append,qP,e,Ae];rw[Yq,xC,xC,Qb,HY];by_cases h:x=y
  ·subst h;simp
  ·have h':¬y=x:=λz=>h z.symm
   simp[h,h']
def yYa(h:m<=b)(hb:b<xs.length):(xs.drop (b-m)).take (m+(b+1-b))=rG m xs b++[gx xs b]:=by
 unfold rG gx;rw[show m+(b+1-b)=m+1 from by lia,zP,List.getElem?_drop,show b-m+m=b from by lia,sH,XC hb];rfl
def wd{m:Nat}{b:Nat}(hb:b<xs.length)(h1:1<=m)(h3:m<=3) :
  "q"|||n+1|||[.sh (.t [.str "again",.int m]),.p (.l (xs.map D.int)),.i b]|||.b (ME m xs b):=by
 exists IS
 by_cases c:(m:Int)<=(b:Int)
 ·have c':decide ((m:Int)<=(b:Int))=true:=rB c
  have ev:ME m xs b=(rG m xs b).all λz=>decide (z=gx xs b):=by(unfold ME;rw[c',iJ])
  have hl:(rG m xs b).length=m:=by unfold rG;rw[bK,cK];lia
  have hs:=se (xs:=xs) (m:=m) (b:=b) (e:=b+1) (by lia) (by lia) (by lia);rw[yYa (by lia) hb,show((b+1:Nat):Int)=(b:Int)+1 from by lia] at hs;have hn:=ns_ (l:=rG m xs b++[gx xs b]) (by simp;lia);have hd:=Ax (Z:=rG m xs b) (x:=gx xs b) (λz=>by rw[z] at hl;simp at hl;lia);rw[<- ev] at hd;clear ev hl c hb h1 h3
  walk_at "!QB nA ZC"
 ·have c':decide ((m:Int)<=(b:Int))=false:=eB c;have e:ME m xs b=false:=by unfold ME;rw[c'];rfl
  clear c hb h1 h3
  walk_at "!QB nA ZC"
def Rv{fs:List (Int×Int×Bool)}{b:Nat}(hl:fs.length<=1000)(hb:b<xs.length) :
  "c"|||n+2|||[.sh (vA no ba oc fs rs),.sh (.t [.str "leap",.int mo]),.p (.l (xs.map D.int)),.i b]|||.ow (.l (MA (nD (LH mo xs b)))):=by
 exists EL
 walk_at "!QB PL yd wd L8 nA"
def Ov{W n:Nat}{fs:List (Int×Int×Bool)}{m:Nat}{b:Nat}(hl:fs.length<=1000)(hb:b<xs.length)(h1:1<=m)(h3:m<=3) :
  "c"|||n+2|||[.sh (vA no ba oc fs rs),.sh (.t [.str "again",.int m]),.p (.l (xs.map D.int)),.i b]|||.ow (.l (MA (nD (ME m xs b)))):=by
 exists EL
 walk_at "!QB PL yd wd L8 nA"
def eVa:"e"|||n+1|||[.sh (.t [.str "leap",a])]|||.sh (.ins "Leap" ["most"] [a]):=by
 exists FL
 walk_at "!QB"
def cVa:"e"|||n+1|||[.sh (.t [.str "again",a])]|||.sh (.ins "Again" ["most"] [a]):=by
 exists FL
 walk_at "!QB"
def IF(lp mo:Int)(xs:List Int):Nat->Bool
 | 0=>false
 | 1=>false
 |b+2=>decide (lp<=cC (gx xs (b+1)-gx xs b)) && !(decide ((gx xs (b+1)-gx xs b)*(gx xs (b+2)-gx xs (b+1))<0)&&decide (cC (gx xs (b+2)-gx xs (b+1))<=mo))
def Uu{b:Nat}(hb:b<xs.length)(hx:∀x∈xs,0<=x/\x<100) :
  "Y"|||n+1|||[.sh (.ins "Back" ["leap","most"] [.int lp,.int mo]),.sh h,.p (.l (xs.map D.int)),.i b]|||.ow (.l (MA (nD (IF lp mo xs b)))):=by
 exists X2
 match b,hb with
 | 0,hb =>
  have e:MA (nD (IF lp mo xs 0))=[]:=rfl;have c:decide (((0:Nat):Int)<2)=true:=rfl
  walk_at "!qQ rQ nA ZC"
 | 1,hb =>
  have e:MA (nD (IF lp mo xs 1))=[]:=rfl;have c:decide (((1:Nat):Int)<2)=true:=rfl
  walk_at "!qQ rQ nA ZC"
 |b+2,hb =>
  have c:decide (((b+2:Nat):Int)<2)=false:=eB (by lia);have i1:((b+2:Nat):Int)-1=((b+1:Nat):Int):=by lia
  have i2:((b+2:Nat):Int)-2=((b:Nat):Int):=by lia
  have a0:=oJ (xs:=xs) (k:=b) (by lia);have a1:=oJ (xs:=xs) (k:=b+1) (by lia);have a2:=oJ (xs:=xs) (k:=b+2) (by lia);have x0:=hx _ (mW (xs:=xs) (k:=b) (by lia));have x1:=hx _ (mW (xs:=xs) (k:=b+1) (by lia));have x2:=hx _ (mW (xs:=xs) (k:=b+2) (by lia));have ev:IF lp mo xs (b+2)=(decide (lp<=cC (gx xs (b+1)-gx xs b)) && !(decide ((gx xs (b+1)-gx xs b)*(gx xs (b+2)-gx xs (b+1))<0)&&decide (cC (gx xs (b+2)-gx xs (b+1))<=mo))):=rfl
  generalize gx xs b=p0 at *
  generalize gx xs (b+1)=p1 at *
  generalize gx xs (b+2)=p2 at *
  have m1:-18446744073709551616<p1-p0:=by lia
  have m2:p1-p0<18446744073709551616:=by lia
  clear hx hb x0 x1 x2;by_cases c1:cC (p1-p0)<lp
  ·have ND:decide (cC (p1-p0)<lp)=true:=rB c1;have pS:decide (lp<=cC (p1-p0))=false:=eB (by lia);have e:MA (nD (IF lp mo xs (b+2)))=[]:=by rw[ev,pS];rfl
   clear ev c1
   walk_at "!qQ rQ nA ZC"
  ·have ND:decide (cC (p1-p0)<lp)=false:=eB c1;have pS:decide (lp<=cC (p1-p0))=true:=rB (by lia);by_cases c2:(p1-p0)*(p2-p1)<0
   ·have gE:decide ((p1-p0)*(p2-p1)<0)=true:=rB c2;by_cases c3:cC (p2-p1)<=mo
    ·have eO:decide (cC (p2-p1)<=mo)=true:=rB c3;have e:MA (nD (IF lp mo xs (b+2)))=[]:=by rw[ev,pS,gE,eO];rfl
     clear ev c1 c2 c3
     walk_at "!qQ rQ nA ZC"
    ·have eO:decide (cC (p2-p1)<=mo)=false:=eB c3;have e:MA (nD (IF lp mo xs (b+2)))=[.t []]:=by rw[ev,pS,gE,eO];rfl
     clear ev c1 c2 c3
     walk_at "!qQ rQ nA ZC"
   ·have gE:decide ((p1-p0)*(p2-p1)<0)=false:=eB c2;have e:MA (nD (IF lp mo xs (b+2)))=[.t []]:=by rw[ev,pS,gE];rfl
    clear ev c1 c2
    walk_at "!qQ rQ nA ZC"
def lX{a h:Int}(ha:a≠0):a*h<0↔(a<0/\0<h)\/(0<a/\h<0):=by
 constructor
 ·intro q;rcases FR a 0 with c | c | c
  ·rcases FR h 0 with d | d | d
   ·exact absurd (zp c d) (by lia)
   ·rw[d,OY] at q;lia
   ·exact .inl ⟨c,d⟩
  ·exact absurd c ha
  ·rcases FR h 0 with d | d | d
   ·exact .inr ⟨c,d⟩
   ·rw[d,OY] at q;lia
   ·exact absurd (Int.mul_pos c d) (by lia)
 ·rintro(⟨c,d⟩ | ⟨c,d⟩)
  ·exact Ap c d
  ·exact Bp c d
def Vv{xs:List Int}{b:Nat}(hb:b<xs.length)(FQ:1<=lp) :
  "q"|||n+1|||[.sh (.t [.str "back",.int lp,.int mo]),.p (.l (xs.map D.int)),.i b]|||.b (IF lp mo xs b):=by
 exists IS
 match b,hb with
 | 0,hb =>
  have e:IF lp mo xs 0=false:=rfl;have c:decide (((0:Nat):Int)<2)=true:=rfl
  walk_at "!QB nA ZC"
 | 1,hb =>
  have e:IF lp mo xs 1=false:=rfl;have c:decide (((1:Nat):Int)<2)=true:=rfl
  walk_at "!QB nA ZC"
 |b+2,hb =>
  have c:decide (((b+2:Nat):Int)<2)=false:=eB (by lia);have i1:((b+2:Nat):Int)-1=((b+1:Nat):Int):=by lia
  have i2:((b+2:Nat):Int)-2=((b:Nat):Int):=by lia
  have a0:=oJ (xs:=xs) (k:=b) (by lia);have a1:=oJ (xs:=xs) (k:=b+1) (by lia);have a2:=oJ (xs:=xs) (k:=b+2) (by lia);have ev:IF lp mo xs (b+2)=(decide (lp<=cC (gx xs (b+1)-gx xs b)) && !(decide ((gx xs (b+1)-gx xs b)*(gx xs (b+2)-gx xs (b+1))<0)&&decide (cC (gx xs (b+2)-gx xs (b+1))<=mo))):=rfl
  generalize gx xs b=p0 at *
  generalize gx xs (b+1)=p1 at *
  generalize gx xs (b+2)=p2 at *
  by_cases c1:lp<=cC (p1-p0)
  ·have ND:decide (lp<=cC (p1-p0))=true:=rB c1;have bD:p1-p0≠0:=λz=>by rw[z] at c1;simp only[cC] at c1;lia
   by_cases c0:p1-p0<0
   ·have oS:decide (p1-p0<0)=true:=rB c0;by_cases c2:0<0-(p1-p2)
    ·have gE:decide (0<0-(p1-p2))=true:=rB c2;have q:decide ((p1-p0)*(p2-p1)<0)=true:=rB ((lX bD).mpr (.inl ⟨c0,by lia⟩));have q2:cC (p2-p1)=0-(p1-p2):=by unfold cC;rw[UA (by lia)];lia
     rw[ev,ND,q,q2];clear ev c0 c2 q q2 c1 bD FQ
     walk_at "!QB nA ZC"
    ·have gE:decide (0<0-(p1-p2))=false:=eB c2;have q:decide ((p1-p0)*(p2-p1)<0)=false:=eB (λz=>by rcases(lX bD).mp z with z | z<;>lia);rw[ev,ND,q];clear ev c0 c2 q c1 bD FQ
     walk_at "!QB nA ZC"
   ·have oS:decide (p1-p0<0)=false:=eB c0;by_cases c2:0<p1-p2
    ·have gE:decide (0<p1-p2)=true:=rB c2;have q:decide ((p1-p0)*(p2-p1)<0)=true:=rB ((lX bD).mpr (.inr ⟨by lia,by lia⟩));have q2:cC (p2-p1)=p1-p2:=by unfold cC;rw[QA (by lia)];lia
     rw[ev,ND,q,q2];clear ev c0 c2 q q2 c1 bD FQ
     walk_at "!QB nA ZC"
    ·have gE:decide (0<p1-p2)=false:=eB c2;have q:decide ((p1-p0)*(p2-p1)<0)=false:=eB (λz=>by rcases(lX bD).mp z with z | z<;>lia);rw[ev,ND,q];clear ev c0 c2 q c1 bD FQ
     walk_at "!QB nA ZC"
  ·have ND:decide (lp<=cC (p1-p0))=false:=eB c1;rw[ev,ND];clear ev c1 FQ;by_cases c0:p1-p0<0
   ·have oS:decide (p1-p0<0)=true:=rB c0;clear c0
    walk_at "!QB nA ZC"
   ·have oS:decide (p1-p0<0)=false:=eB c0;clear c0
    walk_at "!QB nA ZC"
def Qv{W n:Nat}{b:Nat}(hl:fs.length<=1000)(hb:b<xs.length)(FQ:1<=lp) :
  "c"|||n+2|||[.sh (vA no ba oc fs rs),.sh (.t [.str "back",.int lp,.int mo]),.p (.l (xs.map D.int)),.i b]|||.ow (.l (MA (nD (IF lp mo xs b)))):=by
 exists EL
 walk_at "!QB PL Vv L8 nA"
def dVa:"e"|||n+1|||[.sh (.t [.str "back",a,b])]|||.sh (.ins "Back" ["leap","most"] [a,b]):=by
 exists FL
 walk_at "!QB"
def Tv(hl:fs.length<=900) :
  "c"|||n+2|||[.sh (vA no ba oc fs rs),.sh (.t [.str "range",.int lo,.int hi]),.p (.l (xs.map D.int)),.i b]|||.ow (.l (MA (qI lo hi fs xs b))):=by
 exists EL
 have hh:run T W (n+1) "f" _=some (.ok (.ow (.l (YA fs xs b))),_):=PL (no:=no) (ba:=ba) (oc:=oc) (fs:=fs) (rs:=rs) (xs:=xs) (b:=b) (by lia)
 have AE:aAb .MB [.val (.i ((YA fs xs b).length:Int))] [.sh (vA no ba oc fs rs),.sh (.t [.str "range",.int lo,.int hi]),.p (.l (xs.map D.int)),.i b,.o (.l (YA fs xs b)),.un,.un,.un,.un,.un,.un]=some (rg (fs.length+1),none):=by(have XD:=AJ (fs:=fs) (xs:=xs) (b:=b);refine wM (LK (n:=((YA fs xs b).length:Int)) rfl (by lia) (by lia)) ?_;rw[gJ,XD])
 obtain⟨Ui,e,t3,rfl,LO⟩:=SV (tests:=aD T.aA (run T W (n+1)) [.and (.qA .IsNot (.ix (.v 0) (.v 3)) (.c .iA)) (.not (.lG .LtE .LtE (.ix (.v 1) (.c (.int 1))) (.ix (.v 0) (.v 3)) (.ix (.v 1) (.c (.int 2)))))]) (JA:=ev T.aA (run T W (n+1)) false B1) (bind:=lB true [3]) (ds:=rg (fs.length+1))
  (λj=>ZI lo hi ((YA fs xs b).getD j .iA)) (λ(j:Nat)=>.t [.int j])
  (λU=>∃(t3:Sl),U=[.p (.l (YA fs xs b)),.sh (.t [.str "range",.int lo,.int hi]),.un,t3]/\LA t3=true)
  (λj d hd U hU=>by
   obtain⟨t3,rfl,LO⟩:=hU
   have hj:j<fs.length+1:=by
    have:=(eE.mp hd).1
    simpa using this
   have sF:d=.int j:=by(rw[MD,CM hj] at hd;exact(rE hd).symm)
   subst sF;have hg:=XC (l:=YA fs xs b) (i:=j) (by rw[AJ];lia);generalize (YA fs xs b)[j]'(by rw[AJ];lia)=x at hg;have zK:(YA fs xs b).getD j .iA=x:=by rw[sH,hg];rfl
   have hk:=Xf hg;have zO:L2.fC (YA fs xs b) (j:Int)=some x:=L2.wL hg;refine⟨_,[.p (.l (YA fs xs b)),.sh (.t [.str "range",.int lo,.int hi]),.un,.i j],by simp only[jC,RB LO]<;>rfl, ?_,λ_=>?_,λ_=>?_⟩
   ·simp only[zK];clear hd hj hg zK hh AE LO;rcases hk with rfl | ⟨i,rfl⟩
    ·have e:ZI lo hi .iA=false:=rfl
     walk_at "!QB"
    ·have e:ZI lo hi (.int i)=!(decide (lo<=i)&&decide (i<=hi)):=rfl;by_cases c:lo<=i
     ·have c':decide (lo<=i)=true:=rB c;rw[e,c',iJ];clear e c
      walk_at "!QB"
     ·have c':decide (lo<=i)=false:=eB c;rw[e,c',ZK]
      walk_at "!QB"
   ·refine⟨.sh (.t [.int j]),[.p (.l (YA fs xs b)),.sh (.t [.str "range",.int lo,.int hi]),.un,.i j], ?_,rfl,_,rfl,rfl⟩;unfold B1
    walk_at "!QB"
   ·exact⟨_,rfl,rfl⟩)
  [.p (.l (YA fs xs b)),.sh (.t [.str "range",.int lo,.int hi]),.un,.un] ⟨_,rfl,rfl⟩
 have hle:(rg (fs.length+1)).length=fs.length+1:=by simp
 rw[hle,Fj] at e;have hB:YO (fs.length+1) (λj=>ZI lo hi ((YA fs xs b).getD j .iA))=qI lo hi fs xs b:=rfl;rw[hB] at e
 have PD:jB (MA (qI lo hi fs xs b)).length=true:=PB (by
  have:=n8 (n:=fs.length+1) (sel:=λj=>ZI lo hi ((YA fs xs b).getD j .iA)) (by lia)
  unfold MA qI;simp only[nA]
  lia)
 walk_at "!QB"
 rw[nG AE]
 walk_at "!QB"
def gVa:"e"|||n+1|||[.sh (.t [.str "range",a,b])]|||.sh (.ins "Range" ["low","high"] [a,b]):=by
 exists FL
 walk_at "!QB"
noncomputable def mK:D->D->Bool
 |.int i,.int j=>decide (i<j)
 |_,_=>false
def pM(c:Bool)(a b:Int):List (List Int):=if c=true then [[a,b]] else []
def oZa:(pM c a b).length<=1000:=by cases c<;>simp[pM]
def vL(fs:List (Int×Int×Bool))(xs:List Int)(b:Int)(v w:Nat):List (List Int):=pM (mK ((YA fs xs b).getD v .iA) ((YA fs xs b).getD w .iA)) (v:Int) (w:Int)
def gu{rs:List D}{xs:List Int}{b:Int}{v w:Nat}(hv:v<fs.length+1)(hw:w<fs.length+1) :
  "2"|||n+3|||[.sh (.ins "Above" ["one","other"] [.int v,.int w]),.sh (vA no ba oc fs rs),.p (.l (xs.map D.int)),.i b]|||.ow (.l (MA (vL fs xs b v w))):=by
 exists V2
 obtain⟨f,hf⟩:∃f,(zD fs)[v]?=some f:=⟨_,XC (by simp;lia)⟩
 obtain⟨g,hg⟩:∃g,(zD fs)[w]?=some g:=⟨_,XC (by simp;lia)⟩
 have h1:=u9 (W:=W) (n:=n) (no:=no) (ba:=ba) (oc:=oc) (rs:=rs) (xs:=xs) (b:=b) (p:=true) hf;have h2:=u9 (W:=W) (n:=n) (no:=no) (ba:=ba) (oc:=oc) (rs:=rs) (xs:=xs) (b:=b) (p:=true) hg;unfold vL;rw[XS hf,XS hg];have k1:=uR (xs:=xs) (b:=b) (f:=f);have k2:=uR (xs:=xs) (b:=b) (f:=g)
 generalize FC xs b f=d1 at *
 generalize FC xs b g=d2 at *
 clear hf hg hv hw;rcases k1 with rfl | ⟨i,rfl⟩
 ·have e:MA (pM (mK .iA d2) (v:Int) (w:Int))=[]:=rfl
  walk_at "!eW fW"
 ·rcases k2 with rfl | ⟨j,rfl⟩
  ·have e:MA (pM (mK (.int i) .iA) (v:Int) (w:Int))=[]:=rfl
   walk_at "!eW fW"
  ·by_cases c:i<j
   ·have c':decide (j<=i)=false:=eB (by lia)
    have e:MA (pM (mK (.int i) (.int j)) (v:Int) (w:Int))=[.t [.int v,.int w]]:=by(unfold mK;simp only;rw[rB c];rfl)
    clear c
    walk_at "!eW fW"
   ·have c':decide (j<=i)=true:=rB (by lia)
    have e:MA (pM (mK (.int i) (.int j)) (v:Int) (w:Int))=[]:=by(unfold mK;simp only;rw[eB c];rfl)
    clear c
    walk_at "!eW fW"
def M8:NC .Mult (.l [.t [.int a,.int b]]) (.int (if c=true then 1 else 0))=some (.ow (.l (MA (pM c a b)))):=by
 cases c<;>exact iS (by decide) (by decide) (ZF (by simp))
def N8:NC .Mult (.l [.t [.int a,.int b]]) (.int 0)=some (.ow (.l (MA (pM false a b)))):=iS (by decide) (by decide) (ZF (by simp))
def Nv{v w:Nat}(hl:fs.length<=900)(hv:v<fs.length+1)(hw:w<fs.length+1) :
  "c"|||n+2|||[.sh (vA no ba oc fs rs),.sh (.t [.str "above",.int v,.int w]),.p (.l (xs.map D.int)),.i b]|||.ow (.l (MA (vL fs xs b v w))):=by
 exists EL
 have hh:run T W (n+1) "f" _=some (.ok (.ow (.l (YA fs xs b))),_):=PL (W:=W) (n:=n) (no:=no) (ba:=ba) (oc:=oc) (fs:=fs) (rs:=rs) (xs:=xs) (b:=b) (by lia);obtain⟨f,hf⟩:∃f,(zD fs)[v]?=some f:=⟨_,XC (by simp;lia)⟩
 obtain⟨g,hg⟩:∃g,(zD fs)[w]?=some g:=⟨_,XC (by simp;lia)⟩
 have a1:L2.fC (YA fs xs b) (v:Int)=some (FC xs b f):=L2.wL (P5 hf);have a2:L2.fC (YA fs xs b) (w:Int)=some (FC xs b g):=L2.wL (P5 hg);unfold vL;rw[XS hf,XS hg];have k1:=uR (xs:=xs) (b:=b) (f:=f);have k2:=uR (xs:=xs) (b:=b) (f:=g)
 generalize FC xs b f=d1 at *
 generalize FC xs b g=d2 at *
 clear hf hg hv hw hl;rcases k1 with rfl | ⟨i,rfl⟩
 ·have e:mK .iA d2=false:=rfl
  walk_at "!QB M8 N8"
 ·rcases k2 with rfl | ⟨j,rfl⟩
  ·have e:mK (.int i) .iA=false:=rfl
   walk_at "!QB M8 N8"
  ·have e:mK (.int i) (.int j)=decide (i<j):=rfl
   walk_at "!QB M8 N8"
def bVa:"e"|||n+1|||[.sh (.t [.str "above",a,b])]|||.sh (.ins "Above" ["one","other"] [a,b]):=by
 exists FL
 walk_at "!QB"
def xQa(L:List O)(d:O)(f:O->Bool)(g:O->N):((UB L.length).filter λj=>f (L.getD j d)).map (λj=>g (L.getD j d))=(L.filter f).map g:=by
 have h:L=(UB L.length).map λj=>L.getD j d:=by
  apply List.ext_getElem?
  intro i;rw[MD];by_cases hi:i<L.length
  ·rw[CM hi,XC hi];simp[hi]
  ·rw[BM (by lia),BM (by simp;lia)];rfl
 have h2:(L.filter f).map g=(((UB L.length).map λj=>L.getD j d).filter f).map g:=congrArg (λl=>(l.filter f).map g) h;rw[h2,BY,NN];rfl
def q_{n m v:Nat}{P Q:Nat->Nat->Bool}{R:List Int->Bool}(hR:∀w:Nat,R [(v:Int),(w:Int)]=Q v w):(aF m v P).filter R=aF m v λv w=>P v w&&Q v w:=by
 unfold aF;rw[BY,List.filter_filter];congr 1
 apply Va
 intro j _;simp only[Function.comp,hR,Bool.and_comm]
def Se{n:Nat}{P Q:Nat->Nat->Bool}{R:List Int->Bool}(hR:∀v w:Nat,R [(v:Int),(w:Int)]=Q v w):(YE n P).filter R=YE n λv w=>P v w&&Q v w:=by
 unfold YE;rw[List.filter_flatMap];congr 1
 funext v
 exact q_ (n:=n) (hR v)
noncomputable def SF:D->Int
 |.int i=>i
 |_=>0
def aG(oc a b:Int):Int:=cC (a-b) % oc
def SK(ho:0<oc):"j"|||n+1|||[.i oc,.i a,.i b]|||.i (aG oc a b):=by
 exists S4
 unfold aG
 walk_at "!ZC"
def uO(sp s:Int):Bool:=decide (sp / 2 ^ s.toNat % 2=0)
def C_(h:0<=sp):decide (vY (sp / 2 ^ s.toNat) 1=0)=uO sp s:=by
 have hq:0<=sp / 2 ^ s.toNat:=Int.ediv_nonneg h (by exact Int.le_of_lt (TY (by decide)));unfold uO;rw[PyProof.Rows.bitAnd_pp hq (by decide)];have e1:(1:Int).toNat=1:=rfl;rw[e1,Nat.and_one_is_mod];have e2:(((sp / 2 ^ s.toNat).toNat % 2:Nat):Int)=sp / 2 ^ s.toNat % 2:=by lia
 rw[e2]
def fXa(h:0<=sp)(hs:0<=s):"W"|||n+1|||[.sh (.ins "Span" ["beat","spans"] [.int be,.int sp]),.i s]|||.b (uO sp s):=by
 exists X3
 have e:=C_ (s:=s) h
 walk_at "!sQ tQ ZC"
def UM(oc sp:Int)(hs:List D)(v w:Nat):Bool:=uO sp (aG oc (SF (hs.getD v .iA)) (SF (hs.getD w .iA)))
def bO(oc sp:Int)(hs:List D):List Int->Bool
 |[v,w]=>uO sp (aG oc (SF (hs.getD v.toNat .iA)) (SF (hs.getD w.toNat .iA)))
 |_=>false
def LG(be sp ba oc:Int)(fs:List (Int×Int×Bool))(xs:List Int)(b:Int):List (List Int):=if b % ba=be then YE (fs.length+1) (λv w=>QD (YA fs xs b) v w&&UM oc sp (YA fs xs b) v w) else []
def aj(h:is∈YE n P):∃v w:Nat,is=[(v:Int),(w:Int)]/\v<n/\w<n/\v<w/\P v w=true:=by
 obtain⟨v,hv,h⟩:=List.mem_flatMap.mp h;have hv:=EI.mp hv;obtain⟨j,hj,rfl⟩:=SD.mp h;obtain⟨hj,hp⟩:=qM.mp hj;have hj:=EI.mp hj;exact⟨v,v+1+j,rfl,hv,by omega,by omega,hp⟩
def eXa(hl:fs.length<=20)(lI:0<=sp)(NF:0<ba)(uF:0<oc) :
  "V"|||n+4|||[.sh (.ins "Span" ["beat","spans"] [.int be,.int sp]),.sh (vA no ba oc fs rs),.p (.l (xs.map D.int)),.i b]|||.ow (.l (MA (LG be sp ba oc fs xs b))):=by
 exists W3
 by_cases c:b % ba=be
 ·have c':decide (b % ba=be)=true:=rB c;have hc:run T W (n+3) "d" _=some (.ok (.ow (.l (YA fs xs b))),_):=PV (no:=no) (ba:=ba) (oc:=oc) (fs:=fs) (rs:=rs) (xs:=xs) (b:=b) (by lia);have EJ:=HW (fs:=fs) (xs:=xs) (b:=b);have XD:=AJ (fs:=fs) (xs:=xs) (b:=b);have kI:=Ol (W:=W) (n:=n+2) EJ (by lia);rw[XD] at kI
  have hB:LG be sp ba oc fs xs b=(YE (fs.length+1) (QD (YA fs xs b))).filter (bO oc sp (YA fs xs b)):=by(unfold LG;rw[QA c,Se (Q:=UM oc sp (YA fs xs b))];intro v w;rfl)
  generalize YA fs xs b=hs at *
  obtain⟨L,hL⟩:∃L,L=YE (fs.length+1) (QD hs):=⟨_,rfl⟩
  have IL:∀is∈L,∃v w:Nat,is=[(v:Int),(w:Int)]/\v<hs.length/\w<hs.length/\QD hs v w=true:=λis FJ=>by(rw[hL] at FJ;obtain⟨v,w,h1,h2,h3,_,h4⟩:=aj FJ;exact⟨v,w,h1,by lia,by lia,h4⟩)
  have yO:L.length<=1000:=by rw[hL];exact xX (by lia)
  rw[<- hL] at kI hB;have AE:aAb .of [.val (.ow (.l (MA L)))] [.sh (.ins "Span" ["beat","spans"] [.int be,.int sp]),.sh (vA no ba oc fs rs),.p (.l (xs.map D.int)),.i b,.i oc,.o (.l hs)]=some (MA L,none):=WW rfl
  obtain⟨Ui,e,t4,t5,rfl,vF,mT⟩:=SV (tests:=aD T.aA (run T W (n+3)) [.JJ 2 "forbids" xN [.call "j" [.v 1,.ix (.v 0) (.v 4),.ix (.v 0) (.v 5)]]]) (JA:=ev T.aA (run T W (n+3)) false E1) (bind:=lB false [4,5]) (ds:=MA L)
   (λj=>bO oc sp hs (L.getD j [])) (λj=>.t ((L.getD j []).map D.int))
   (λU=>∃(t4 t5:Sl),U=[.p (.l hs),.i oc,.sh (.ins "Span" ["beat","spans"] [.int be,.int sp]),.un,t4,t5]/\LA t4=true/\LA t5=true)
   (λj d hd U hU=>by
    obtain⟨t4,t5,rfl,vF,mT⟩:=hU
    have hj:j<L.length:=by
     have:=(eE.mp hd).1
     rwa[RJ] at this
    have hg:=XC hj
    have hd2:d=.t (L[j].map D.int):=by(unfold MA at hd;rw[MD,hg] at hd;exact(rE hd).symm)
    have zK:L.getD j []=L[j]:=by rw[sH,hg];rfl
    obtain⟨v,w,h1,hv,hw,kI⟩:=IL L[j] (LR hj);rw[h1] at hd2 zK;subst hd2;obtain⟨d1,a1,g1,k1⟩:=IH EJ hv;obtain⟨d2,a2,g2,k2⟩:=IH EJ hw;unfold QD at kI;rw[g1,g2,aB] at kI
    obtain⟨i1,rfl⟩:∃i,d1=.int i:=by
     rcases k1 with rfl | k1
     ·exact absurd kI.1 (by decide)
     ·exact k1
    obtain⟨i2,rfl⟩:∃i,d2=.int i:=by
     rcases k2 with rfl | k2
     ·exact absurd kI.2 (by decide)
     ·exact k2
    have x6:0<=aG oc i1 i2:=uP _ (by lia);have hfb:=fXa (W:=W) (n:=n+2) (be:=be) lI x6
    have US:bO oc sp hs [(v:Int),(w:Int)]=uO sp (aG oc i1 i2):=by(unfold bO;simp only[gJ,g1,g2];rfl)
    refine⟨_,[.p (.l hs),.i oc,.sh (.ins "Span" ["beat","spans"] [.int be,.int sp]),.un,.i v,.i w],by simp only[CB,sM,jC,RB vF,RB mT]<;>rfl, ?_,λ_=>?_,λ_=>?_⟩
    ·simp only[zK,US];clear hd hj hg zK US h1 hv hw kI IL yO AE hB hL hc EJ XD k1 k2 g1 g2 vF mT hl lI NF c x6
     walk_at "!XT SK sQ tQ"
    ·refine⟨.sh (.t [.int v,.int w]),[.p (.l hs),.i oc,.sh (.ins "Span" ["beat","spans"] [.int be,.int sp]),.un,.i v,.i w], ?_,by rw[zK];rfl,_,_,rfl,rfl,rfl⟩;unfold E1;clear hd hj hg zK US h1 hv hw kI IL yO AE hB hL hc EJ XD k1 k2 g1 g2 vF mT hl lI NF c x6 hfb a1 a2
     walk_at "!XT SK sQ tQ"
    ·exact⟨_,_,rfl,rfl,rfl⟩)
   [.p (.l hs),.i oc,.sh (.ins "Span" ["beat","spans"] [.int be,.int sp]),.un,.un,.un] ⟨_,_,rfl,rfl,rfl⟩
  rw[RJ,xQa L [] (bO oc sp hs) (λis=>D.t (is.map D.int))] at e;have Cf:(L.filter (bO oc sp hs)).map (λis=>D.t (is.map D.int))=MA (LG be sp ba oc fs xs b):=by rw[hB];rfl
  rw[Cf] at e
  have PD:jB (MA (LG be sp ba oc fs xs b)).length=true:=PB (by
   rw[RJ,hB]
   have:=LU (bO oc sp hs) L
   lia)
  clear hl vF mT hB Cf IL yO hL EJ XD lI c
  walk_at "!XT SK sQ tQ"
  rw[nG AE]
  walk_at "!XT SK sQ tQ"
 ·have c':decide (b % ba=be)=false:=eB c;have e:LG be sp ba oc fs xs b=[]:=UA c;have e2:MA []=[]:=rfl;clear c hl
  walk_at "!XT SK sQ tQ"
def eQ(hh:OP hs)(hv:v<hs.length)(hw:w<hs.length)(o1:1<=oc)(o2:oc<=12) :
  "F"|||n+1|||[.sh (vA no ba oc fs rs),.sh (.t [.str "span",.int be,.int sp]),.p (.l ah),.p (.l hs),.i v,.i w]|||.b (QD hs v w&&UM oc sp hs v w):=by
 exists gW
 obtain⟨d1,a1,g1,k1⟩:=IH hh hv;obtain⟨d2,a2,g2,k2⟩:=IH hh hw;unfold QD UM;rw[g1,g2];have uF:0<oc:=by lia
 rcases k1 with rfl | ⟨i1,rfl⟩
 ·have e:wF .iA=true:=rfl
  walk_at "!QB ZC"
 ·have e1:wF (.int i1)=false:=rfl;rcases k2 with rfl | ⟨i2,rfl⟩
  ·have e:wF .iA=true:=rfl
   walk_at "!QB ZC"
  ·have e:wF (.int i2)=false:=rfl;have e3:uO sp (aG oc (SF (.int i1)) (SF (.int i2)))=decide (sp / 2 ^ (cC (i1-i2) % oc).toNat % 2=0):=rfl;have s0:0<=cC (i1-i2) % oc:=uP _ (by lia);have s1:cC (i1-i2) % oc<oc:=RU _ uF;have s2:cC (i1-i2) % oc<=1000:=by lia
   obtain⟨p1,p2⟩:=pw s0 (by lia)
   walk_at "!QB ZC"
def Uv{b:Int}(hl:fs.length<=20)(NF:0<ba)(o1:1<=oc)(o2:oc<=12) :
  "c"|||n+2|||[.sh (vA no ba oc fs rs),.sh (.t [.str "span",.int be,.int sp]),.p (.l (xs.map D.int)),.i b]|||.ow (.l (MA (LG be sp ba oc fs xs b))):=by
 exists EL
 have hh:run T W (n+1) "f" _=some (.ok (.ow (.l (YA fs xs b))),_):=PL (W:=W) (n:=n) (no:=no) (ba:=ba) (oc:=oc) (fs:=fs) (rs:=rs) (xs:=xs) (b:=b) (by lia);have CQ:run T W (n+1) "f" _=some (.ok (.ow (.l (YA fs xs (b-1)))),_):=PL (W:=W) (n:=n) (no:=no) (ba:=ba) (oc:=oc) (fs:=fs) (rs:=rs) (xs:=xs) (b:=b-1) (by lia);by_cases c:b % ba=be
 ·have c':decide (b % ba=be)=true:=rB c;have EJ:=HW (fs:=fs) (xs:=xs) (b:=b);have XD:=AJ (fs:=fs) (xs:=xs) (b:=b);have hB:LG be sp ba oc fs xs b=YE (fs.length+1) (λv w=>QD (YA fs xs b) v w&&UM oc sp (YA fs xs b) v w):=QA c;rw[<- XD] at hB
  generalize YA fs xs b=hs at *
  generalize YA fs xs (b-1)=ah at *
  have hi:aAb .MB [.val (.i hs.length)] [.sh (vA no ba oc fs rs),.sh (.t [.str "span",.int be,.int sp]),.p (.l (xs.map D.int)),.i b,.o (.l hs),.un,.un,.un,.o (.l ah),.o (.l []),.un]=some (rg hs.length,none):=by(refine wM (LK (n:=(hs.length:Int)) rfl (by lia) (by lia)) ?_;rw[gJ])
  obtain⟨t',DE,e,SI,bN⟩:=x8 (iv:=5) (body:=DA T.aA (run T W (n+1)) W lS) (λa t t2=>[.sh (vA no ba oc fs rs),.sh (.t [.str "span",.int be,.int sp]),.p (.l (xs.map D.int)),.i b,.o (.l hs),t,.un,.un,.o (.l ah),.o (.l a),t2]) (λv w=>QD hs v w&&UM oc sp hs v w) hs.length (by lia)
   (λa t t2 d ht=>by simp only[jC,RB ht])
   (λBA v t hv JL ht=>by
    have AE:aAb .MB [.val (.i ((v:Int)+1)),.val (.i hs.length)] [.sh (vA no ba oc fs rs),.sh (.t [.str "span",.int be,.int sp]),.p (.l (xs.map D.int)),.i b,.o (.l hs),.i v,.un,.un,.o (.l ah),.o (.l (MA BA)),t]=some ((UB (hs.length-(v+1))).map λ(j:Nat)=>.int ((v:Int)+1+(j:Int)),none):=by(refine wM (T6 (m:=(v:Int)+1) (n:=(hs.length:Int)) rfl rfl (by lia) (by lia)) ?_;rw[show((hs.length:Int)-((v:Int)+1)).toNat=hs.length-(v+1) from by lia])
    obtain⟨t3,e3,h3⟩:=Q8 (iw:=10) (body:=DA T.aA (run T W (n+1)) W kS) (λa t t2=>[.sh (vA no ba oc fs rs),.sh (.t [.str "span",.int be,.int sp]),.p (.l (xs.map D.int)),.i b,.o (.l hs),t,.un,.un,.o (.l ah),.o (.l a),t2]) (λv w=>QD hs v w&&UM oc sp hs v w) hs.length v BA JL (by lia)
     (λa t d ht=>by simp only[jC,RB ht])
     (λa w LW hw NI=>by
      have US:=eQ (W:=W) (n:=n) (be:=be) (sp:=sp) (no:=no) (ba:=ba) (fs:=fs) (rs:=rs) (ah:=ah) EJ hv hw o1 o2;have PD:jB ((MA a).length+1)=true:=PB (by rw[RJ];lia);have et:MA (a++[[(v:Int),(w:Int)]])=MA a++[.t [.int v,.int w]]:=by rw[YX];rfl
      unfold kS
      generalize (QD hs v w&&UM oc sp hs v w)=q at *
      clear hi AE EJ hl hv hw LW NI JL ht hB XD hh CQ c o1 o2 NF;cases q
      ·walk_at "!QB eQ"
       all_goals (try simp only[kE])
      ·walk_at "!QB eQ") t ht
    refine⟨t3, ?_,h3⟩;unfold lS;clear hi EJ hl hv JL ht h3 hB XD hh CQ c o1 o2 NF
    walk_at "!QB eQ") .un .un rfl rfl
  rw[hB];clear hl EJ SI bN hB XD c
  walk_at "!QB eQ"
 ·have c':decide (b % ba=be)=false:=eB c;have e:LG be sp ba oc fs xs b=[]:=UA c;have e2:MA []=[]:=rfl;clear c hl
  walk_at "!QB eQ"
def hVa:"e"|||n+1|||[.sh (.t [.str "span",a,b])]|||.sh (.ins "Span" ["beat","spans"] [a,b]):=by
 exists FL
 walk_at "!QB"
def dXa(hl:fs.length<=20):(LG be sp ba oc fs xs b).length<=1000:=by
 unfold LG;split
 ·exact xX (by lia)
 ·simp
def fHa(E:List D->Sl->Sl->Env)(R:List Int->Bool)(L:List (List Int))(hL:L.length<=1000)
  (hb:∀(a:List D) (t t2 d d2:_),LA t=true->LA t2=true->lB false [iv,iw] (.t [d,d2]) (E a t t2)=some (E a (.sh d) (.sh d2)))
  (hp:∀is∈L,∃v w:Nat,is=[(v:Int),(w:Int)])
  (hs:∀(a:List (List Int)) (v w:Nat),[(v:Int),(w:Int)]∈L->a.length<=2000->body (E (MA a) (.i v) (.i w))=some (.nx,E (MA (a++(if R [(v:Int),(w:Int)]=true then [[(v:Int),(w:Int)]] else []))) (.i v) (.i w))) (t t2:Sl) (ht:LA t=true) (YL:LA t2=true) :
  ∃t' DE,uD (lB false [iv,iw]) body (MA L) (E [] t t2)=some (.nx,E (MA (L.filter R)) t' DE)/\LA t'=true/\LA DE=true:=by
 have key:∀(M:List (List Int)) (BA:List (List Int)) (t t2:Sl),(∀is∈M,is∈L)->BA.length+M.length<=2000->LA t=true->LA t2=true->∃t' DE,uD (lB false [iv,iw]) body (MA M) (E (MA BA) t t2)=some (.nx,E (MA (BA++M.filter R)) t' DE)/\LA t'=true/\LA DE=true:=by
  intro M
  induction M with
  |nil=>intro BA t t2 _ _ h1 h2;exact⟨t,t2,by simp[MA,uD],h1,h2⟩
  |cons is M ih =>
   intro BA t t2 hM hl h1 h2;obtain⟨v,w,rfl⟩:=hp is (hM is (by simp));have e1:MA ([(v:Int),(w:Int)]::M)=.t [.int v,.int w]::MA M:=rfl;have QI:BA.length+M.length+1<=2000:=by simpa[cV] using hl
   rw[e1];simp only[uD,hb _ _ _ _ _ h1 h2,hs BA v w (hM _ (by simp)) (by lia)]
   obtain⟨t',DE,e,h3,h4⟩:=ih (BA++(if R [(v:Int),(w:Int)]=true then [[(v:Int),(w:Int)]] else [])) (.i v) (.i w) (λis h=>hM is (RD _ h)) (by
    rw[gC];split
    ·simp only[kD,mL];lia
    ·simp only[mL];lia) rfl rfl
   refine⟨t',DE, ?_,h3,h4⟩;rw[e,zY];by_cases q:R [(v:Int),(w:Int)]=true
   ·simp[q]
   ·simp[q]
 obtain⟨t',DE,e,h⟩:=key L [] t t2 (λ_ h=>h) (by simp;lia) ht YL;exact⟨t',DE,by simpa[MA] using e,h⟩
def IU(x:bA):Prop:=x="like"\/x="against"\/x="aside"\/x="any"
def MH(x:bA)(a b:Int):Bool:=if x==("like":bA) then decide (0<a*b) else if x==("against":bA) then decide (a*b<0) else if x==("aside":bA) then !(decide (a=0)==decide (b=0)) else true
def OG:((wA "against")==(wA "like"))=false:=by decide +kernel
def QG:((wA "aside")==(wA "like"))=false:=by decide +kernel
def RG:((wA "any")==(wA "like"))=false:=by decide +kernel
def SG:((wA "aside")==(wA "against"))=false:=by decide +kernel
def UG:((wA "any")==(wA "against"))=false:=by decide +kernel
def VG:((wA "any")==(wA "aside"))=false:=by decide +kernel
def oH:((wA "like")==(wA "any"))=false:=by decide +kernel
def pH:((wA "like")==(wA "aside"))=false:=by decide +kernel
def qH:((wA "against")==(wA "any"))=false:=by decide +kernel
def mH:((wA "against")==(wA "aside"))=false:=by decide +kernel
def nH:((wA "aside")==(wA "any"))=false:=by decide +kernel
def oJa(hx:IU x)(h1:-18446744073709551616<a)(h2:a<18446744073709551616):"L"|||n+1|||[.s x,.i a,.i b]|||.b (MH x a b):=by
 exists J4
 unfold MH;rcases hx with rfl | rfl | rfl | rfl
 ·walk_at "!OG QG RG SG UG VG oH pH qH mH nH gG WG xH yH"
 ·walk_at "!OG QG RG SG UG VG oH pH qH mH nH gG WG xH yH"
 ·walk_at "!OG QG RG SG UG VG oH pH qH mH nH gG WG xH yH"
 ·walk_at "!OG QG RG SG UG VG oH pH qH mH nH gG WG xH yH"
def wk{a h:Int}:0<a*h↔(0<a/\0<h)\/(a<0/\h<0):=by
 constructor
 ·intro q;rcases FR a 0 with c | c | c
  ·rcases FR h 0 with d | d | d
   ·exact .inr ⟨c,d⟩
   ·rw[d,OY] at q;lia
   ·exact absurd (Ap c d) (by lia)
  ·rw[c,Int.zero_mul] at q;lia
  ·rcases FR h 0 with d | d | d
   ·exact absurd (Bp c d) (by lia)
   ·rw[d,OY] at q;lia
   ·exact .inl ⟨c,d⟩
 ·rintro(⟨c,d⟩ | ⟨c,d⟩)
  ·exact Int.mul_pos c d
  ·exact zp c d
def xKa{a h:Int}:a*h<0↔(0<a/\h<0)\/(a<0/\0<h):=by
 have:=wk (a:=a) (h:=-h)
 rw[Int.mul_neg] at this;constructor
 ·intro q;rcases this.mp (by lia) with z | z
  ·exact .inl ⟨z.1,by lia⟩
  ·exact .inr ⟨z.1,by lia⟩
 ·intro q
  have:=this.mpr (by rcases q with z | z;exact .inl ⟨z.1,by lia⟩;exact .inr ⟨z.1,by lia⟩)
  lia
def in2:aC .In (.int 0) (.t [.int a,.int b])=some (decide (a=0)||decide (b=0)):=by
 have h:aC .In (.int 0) (.t [.int a,.int b])=some (inD (.int 0) [.int a,.int b]):=rfl;rw[h];congr 1;unfold inD;show((a==0)||((b==0)||false))=_;rw[gG];rfl
def jN(hx:IU x):"P"|||n+1|||[.s x,.i a,.i b]|||.b (MH x a b):=by
 exists J3
 rcases hx with rfl | rfl | rfl | rfl
 ·have e:MH "like" a b=decide ((0<a/\0<b)\/(a<0/\b<0)):=by
   unfold MH;rw[QA (beq_self_eq_true _)];exact JR.mpr wk
  rw[e];by_cases c1:0<a
  ·have ND:decide (0<a)=true:=rB c1;have gE:decide (a<0)=false:=eB (by omega);by_cases c3:0<b
   ·have eO:decide (0<b)=true:=rB c3;rw[rB (p:=(0<a/\0<b)\/(a<0/\b<0)) (.inl ⟨c1,c3⟩)]
    walk_at "!OG QG RG SG UG VG oH pH qH mH nH gG WG xH yH"
   ·have eO:decide (0<b)=false:=eB c3;rw[eB (p:=(0<a/\0<b)\/(a<0/\b<0)) (by omega)]
    walk_at "!OG QG RG SG UG VG oH pH qH mH nH gG WG xH yH"
  ·have ND:decide (0<a)=false:=eB c1;by_cases c2:a<0
   ·have gE:decide (a<0)=true:=rB c2;have e2:decide ((0<a/\0<b)\/(a<0/\b<0))=decide (b<0):=JR.mpr (by omega);rw[e2]
    walk_at "!OG QG RG SG UG VG oH pH qH mH nH gG WG xH yH"
   ·have gE:decide (a<0)=false:=eB c2;rw[eB (p:=(0<a/\0<b)\/(a<0/\b<0)) (by omega)]
    walk_at "!OG QG RG SG UG VG oH pH qH mH nH gG WG xH yH"
 ·have e:MH "against" a b=decide ((0<a/\b<0)\/(a<0/\0<b)):=by
   unfold MH;rw[OG,UA (by decide),QA (beq_self_eq_true _)];exact JR.mpr xKa
  rw[e];by_cases c1:0<a
  ·have ND:decide (0<a)=true:=rB c1;have gE:decide (a<0)=false:=eB (by omega);by_cases c3:b<0
   ·have eO:decide (b<0)=true:=rB c3;rw[rB (p:=(0<a/\b<0)\/(a<0/\0<b)) (.inl ⟨c1,c3⟩)]
    walk_at "!OG QG RG SG UG VG oH pH qH mH nH gG WG xH yH"
   ·have eO:decide (b<0)=false:=eB c3;rw[eB (p:=(0<a/\b<0)\/(a<0/\0<b)) (by omega)]
    walk_at "!OG QG RG SG UG VG oH pH qH mH nH gG WG xH yH"
  ·have ND:decide (0<a)=false:=eB c1;by_cases c2:a<0
   ·have gE:decide (a<0)=true:=rB c2;have e2:decide ((0<a/\b<0)\/(a<0/\0<b))=decide (0<b):=JR.mpr (by omega);rw[e2]
    walk_at "!OG QG RG SG UG VG oH pH qH mH nH gG WG xH yH"
   ·have gE:decide (a<0)=false:=eB c2;rw[eB (p:=(0<a/\b<0)\/(a<0/\0<b)) (by omega)]
    walk_at "!OG QG RG SG UG VG oH pH qH mH nH gG WG xH yH"
 ·have e:MH "aside" a b=((decide (a=0)||decide (b=0)) && !decide (a=b)):=by
   unfold MH;rw[QG,UA (by decide),SG,UA (by decide),QA (beq_self_eq_true _)];by_cases h1:a=0
   ·by_cases h2:b=0
    ·simp[h1,h2]
    ·simp[h1,h2];omega
   ·by_cases h2:b=0
    ·simp[h1,h2]
    ·simp[h1,h2]
  rw[e];have OF:=in2 (a:=a) (b:=b);by_cases c1:a=0\/b=0
  ·have ND:(decide (a=0)||decide (b=0))=true:=by rcases c1 with h | h<;>simp[h]
   rw[ND] at OF ⊢
   walk_at "!OG QG RG SG UG VG oH pH qH mH nH gG WG xH yH"
  ·have ND:(decide (a=0)||decide (b=0))=false:=by
    rw[not_or] at c1;simp[c1.1,c1.2]
   rw[ND] at OF ⊢
   walk_at "!OG QG RG SG UG VG oH pH qH mH nH gG WG xH yH"
 ·have e:MH "any" a b=true:=by
   unfold MH;rw[RG,UA (by decide),UG,UA (by decide),VG,UA (by decide)]
  rw[e]
  walk_at "!OG QG RG SG UG VG oH pH qH mH nH gG WG xH yH"
def kM(one other oc:Int)(x:bA)(ah hs:List D)(v w:Nat):Bool :=
 decide (aG oc (SF (ah.getD v .iA)) (SF (ah.getD w .iA))=one)&&decide (aG oc (SF (hs.getD v .iA)) (SF (hs.getD w .iA))=other)&&MH x (SF (hs.getD v .iA)-SF (ah.getD v .iA)) (SF (hs.getD w .iA)-SF (ah.getD w .iA))
def mX(one other oc:Int)(x:bA)(ah hs:List D):List Int->Bool
 |[v,w]=>kM one other oc x ah hs v.toNat w.toNat
 |_=>false
def XI(one other oc:Int)(x:bA)(fs:List (Int×Int×Bool))(xs:List Int)(b:Int):List (List Int):=YE (fs.length+1) (λv w=>QD (YA fs xs (b-1)) v w&&kM one other oc x (YA fs xs (b-1)) (YA fs xs b) v w)
def oPa(h:∀v w,v<w->w<n->P v w=Q v w):YE n P=YE n Q:=by
 unfold YE;congr 1
 funext v
 unfold aF;congr 1
 apply Va
 intro j hj;have hj:=EI.mp hj;exact h v (v+1+j) (by lia) (by lia)
def pPa(h:∀v w,v<w->w<n->P v w=false):YE n P=[]:=by
 rw[oPa (Q:=λ_ _=>false) h];unfold YE aF;simp
structure VR(hs ah:List D):Prop where
 h1:OP hs
 h2:OP ah
 len:ah.length=hs.length
 bd:∀v i,hs.getD v .iA=.int i->-100<=i/\i<=100
 Wu:∀v i,ah.getD v .iA=.int i->-100<=i/\i<=100
 on:∀v,wF (ah.getD v .iA)=false->wF (hs.getD v .iA)=false
def Q5{fs:List (Int×Int×Bool)}{xs:List Int}{b:Int}{v:Nat}:(∃f∈zD fs,∀b:Int,(YA fs xs b).getD v .iA=FC xs b f)\/∀b:Int,(YA fs xs b).getD v .iA=.iA:=by
 cases h:(zD fs)[v]? with
 |some f=>exact .inl ⟨f,fJ h,λb=>XS h⟩
 |none =>
  refine .inr λb=>?_
  unfold YA;rw[sH,MD,h];rfl
def yg{no ba oc:Int}{fs:List (Int×Int×Bool)}{xs:List Int}{b:Nat}(ho:GI no ba oc fs)(cN:∀x∈xs,0<=x/\x<no)(hb:b<xs.length):VR (YA fs xs (b:Int)) (YA fs xs ((b:Int)-1)):=by
 have n2:=ho.n2
 have hv:∀f∈zD fs,0<=f.1/\-12<=f.2.1/\f.2.1<=12:=λf hf=>by
  rcases pD.mp hf with rfl | hf
  ·decide
  ·have:=ho.f f hf
   omega
 have bd:∀(c:Int) v i,(YA fs xs c).getD v .iA=.int i->-100<=i/\i<=100:=λc v i h=>by
  rcases Q5 (fs:=fs) (xs:=xs) (b:=c) (v:=v) with ⟨f,hf,e⟩ | e
  ·rw[e c] at h;unfold FC at h;split at h
   ·rename_i hc;have h:=D.int.inj h
    have hx:xs.getD (c-f.1).toNat 0∈xs:=by
     have sD:(c-f.1).toNat<xs.length:=by omega
     exact mW (k:=(c-f.1).toNat) sD
    have:=cN _ hx
    have:=hv f hf
    split at h<;>omega
   ·cases h
  ·rw[e c] at h;cases h
 refine⟨HW,HW,by rw[AJ,AJ],bd _,bd _,λv h=>?_⟩;rcases Q5 (fs:=fs) (xs:=xs) (b:=(b:Int)) (v:=v) with ⟨f,hf,e⟩ | e
 ·rw[e] at h ⊢;unfold FC at h ⊢;split at h
  ·rename_i hc
   have:=hv f hf
   rw[QA (by omega)];rfl
  ·cases h
 ·rw[e] at h;cases h
def aCa(H:VR hs ah)(hv:v<hs.length)(hw:w<hs.length)(h:QD ah v w=true):∃i1 i2 j1 j2:Int,L2.fC ah (v:Int)=some (.int i1)/\L2.fC ah (w:Int)=some (.int i2)/\L2.fC hs (v:Int)=some (.int j1)/\L2.fC hs (w:Int)=some (.int j2)/\ah.getD v .iA=.int i1/\ah.getD w .iA=.int i2/\hs.getD v .iA=.int j1/\hs.getD w .iA=.int j2/\(-100<=i1/\i1<=100)/\(-100<=j1/\j1<=100):=by
 unfold QD at h;rw[aB] at h;obtain⟨d1,a1,g1,k1⟩:=IH H.h2 (by rw[H.len];exact hv);obtain⟨d2,a2,g2,k2⟩:=IH H.h2 (v:=w) (by rw[H.len];exact hw);obtain⟨d3,a3,g3,k3⟩:=IH H.h1 hv;obtain⟨d4,a4,g4,k4⟩:=IH H.h1 hw;have o1:=H.on v (by simpa using h.1);have o2:=H.on w (by simpa using h.2);rw[g1,g2] at h;rw[g3] at o1;rw[g4] at o2;rcases k1 with rfl | ⟨i1,rfl⟩
 ·exact absurd h.1 (by decide)
 rcases k2 with rfl | ⟨i2,rfl⟩
 ·exact absurd h.2 (by decide)
 rcases k3 with rfl | ⟨j1,rfl⟩
 ·exact absurd o1 (by decide)
 rcases k4 with rfl | ⟨j2,rfl⟩
 ·exact absurd o2 (by decide)
 exact⟨i1,i2,j1,j2,a1,a2,a3,a4,g1,g2,g3,g4,H.Wu v i1 g1,H.bd v j1 g3⟩
def yKa(hl:fs.length<=20)(uF:0<oc)(hx:IU x)(H:VR (YA fs xs b) (YA fs xs (b-1))) :
  "3"|||n+4|||[.sh (.ins "Never" ["one","other","way"] [.int one,.int other,.str x]),.sh (vA no ba oc fs rs),.p (.l (xs.map D.int)),.i b]|||.ow (.l (MA (XI one other oc x fs xs b))):=by
 exists S3
 have hc1:run T W (n+3) "d" _=some (.ok (.ow (.l (YA fs xs (b-1)))),_):=PV (no:=no) (ba:=ba) (oc:=oc) (fs:=fs) (rs:=rs) (xs:=xs) (b:=b-1) (by lia);have vK:run T W (n+3) "d" _=some (.ok (.ow (.l (YA fs xs b))),_):=PV (W:=W) (n:=n) (no:=no) (ba:=ba) (oc:=oc) (fs:=fs) (rs:=rs) (xs:=xs) (b:=b) (by lia);have XD:=AJ (fs:=fs) (xs:=xs) (b:=b-1);have ng:=AJ (fs:=fs) (xs:=xs) (b:=b);have kI:=Ol (W:=W) (n:=n+2) H.h2 (by lia);rw[XD] at kI
 have hB:XI one other oc x fs xs b=(YE (fs.length+1) (QD (YA fs xs (b-1)))).filter (mX one other oc x (YA fs xs (b-1)) (YA fs xs b)):=by(unfold XI;rw[Se (Q:=kM one other oc x (YA fs xs (b-1)) (YA fs xs b))];intro v w;rfl)
 generalize YA fs xs b=hs at *
 generalize YA fs xs (b-1)=ah at *
 obtain⟨L,hL⟩:∃L,L=YE (fs.length+1) (QD ah):=⟨_,rfl⟩
 have IL:∀is∈L,∃v w:Nat,is=[(v:Int),(w:Int)]/\v<hs.length/\w<hs.length/\QD ah v w=true:=λis FJ=>by(rw[hL] at FJ;obtain⟨v,w,h1,h2,h3,_,h4⟩:=aj FJ;exact⟨v,w,h1,by lia,by lia,h4⟩)
 have yO:L.length<=1000:=by rw[hL];exact xX (by lia)
 rw[<- hL] at kI hB;have AE:aAb .of [.val (.ow (.l (MA L)))] [.sh (.ins "Never" ["one","other","way"] [.int one,.int other,.str x]),.sh (vA no ba oc fs rs),.p (.l (xs.map D.int)),.i b,.i oc,.o (.l ah),.o (.l hs),.o (.l []),.un,.un]=some (MA L,none):=WW rfl
 obtain⟨t8,t9,e,h8,h9⟩:=fHa (iv:=8) (iw:=9) (body:=DA T.aA (run T W (n+3)) W OZ) (λa t t2=>[.sh (.ins "Never" ["one","other","way"] [.int one,.int other,.str x]),.sh (vA no ba oc fs rs),.p (.l (xs.map D.int)),.i b,.i oc,.o (.l ah),.o (.l hs),.o (.l a),t,t2]) (mX one other oc x ah hs) L yO
  (λa t t2 d d2 ht YL=>by simp only[jC,RB ht,RB YL])
  (λis FJ=>by obtain⟨v,w,h,_⟩:=IL is FJ;exact⟨v,w,h⟩)
  (λa v w hm NI=>by
   obtain⟨v',w',h1,hv,hw,Cg⟩:=IL _ hm;have hvv:v'=v:=by have:=(Hb h1).1;lia
   have hww:w'=w:=by have:=(Hb (Hb h1).2).1;lia
   subst hvv hww;obtain⟨i1,i2,j1,j2,a1,a2,a3,a4,g1,g2,g3,g4,q1,q2⟩:=aCa H hv hw Cg;have PD:jB ((MA a).length+1)=true:=PB (by rw[RJ];lia);have et:MA (a++[[(v':Int),(w':Int)]])=MA a++[.t [.int v',.int w']]:=by rw[YX];rfl
   have en:mX one other oc x ah hs [(v':Int),(w':Int)]=(decide (aG oc i1 i2=one)&&decide (aG oc j1 j2=other)&&MH x (j1-i1) (j2-i2)):=by(unfold mX kM;simp only[gJ,g1,g2,g3,g4];rfl)
   have j6:=oJa (W:=W) (n:=n+2) (a:=j1-i1) (b:=j2-i2) hx (by lia) (by lia);rw[en];unfold OZ;clear h1 hv hw Cg hm NI IL yO AE hB hL kI hc1 vK XD ng H g1 g2 g3 g4 q1 q2 hl en hx;by_cases c1:aG oc i1 i2=one
   ·have ND:decide (aG oc i1 i2=one)=true:=rB c1;by_cases c2:aG oc j1 j2=other
    ·have gE:decide (aG oc j1 j2=other)=true:=rB c2;rw[ND,gE,iJ,iJ]
     generalize MH x (j1-i1) (j2-i2)=q at *
     clear c1 c2;cases q
     ·walk_at "!ES GS HS SK"
      all_goals (try simp only[kE])
     ·walk_at "!ES GS HS SK"
    ·have gE:decide (aG oc j1 j2=other)=false:=eB c2;rw[ND,gE,iJ,ZK];clear c1 c2
     walk_at "!ES GS HS SK"
     all_goals (try simp only[kE])
   ·have ND:decide (aG oc i1 i2=one)=false:=eB c1;rw[ND,ZK,ZK];clear c1
    walk_at "!ES GS HS SK"
    all_goals (try simp only[kE])) .un .un rfl rfl
 rw[hB];clear hl h8 h9 hB IL yO hL XD ng H hx
 walk_at "!ES GS HS SK"
def Vu(H:VR hs ah)(hv:v<hs.length)(hw:w<hs.length)(uF:0<oc)(hx:IU x) :
  "F"|||n+2|||[.sh (vA no ba oc fs rs),.sh (.t [.str "never",.int one,.int other,.str x]),.p (.l ah),.p (.l hs),.i v,.i w]|||.b (QD ah v w&&kM one other oc x ah hs v w):=by
 exists gW
 obtain⟨d1,a1,g1,k1⟩:=IH H.h2 (by rw[H.len];exact hv);obtain⟨d2,a2,g2,k2⟩:=IH H.h2 (v:=w) (by rw[H.len];exact hw);obtain⟨d3,a3,g3,k3⟩:=IH H.h1 hv;obtain⟨d4,a4,g4,k4⟩:=IH H.h1 hw;have o1:=H.on v;have o2:=H.on w;unfold QD kM;rw[g1,g2,g3,g4];rw[g1,g3] at o1;rw[g2,g4] at o2;have j6:=λ(a b:Int)=>jN (W:=W) (n:=n) (x:=x) (a:=a) (b:=b) hx
 have eN:wF .iA=true:=rfl;have eI:∀i,wF (.int i)=false:=λ_=>rfl
 rcases k3 with rfl | ⟨j1,rfl⟩
 ·have q1:wF d1=true:=by
   cases h:wF d1 with
   |true=>rfl
   |false=>exact absurd (o1 h) (by decide)
  rw[q1]
  walk_at "!QB ZC jN"
 rcases k4 with rfl | ⟨j2,rfl⟩
 ·have q2:wF d2=true:=by
   cases h:wF d2 with
   |true=>rfl
   |false=>exact absurd (o2 h) (by decide)
  rw[q2]
  walk_at "!QB ZC jN"
 rcases k1 with rfl | ⟨i1,rfl⟩
 ·clear k2 j6 eI
  walk_at "!QB ZC jN"
 rcases k2 with rfl | ⟨i2,rfl⟩
 ·rw[eI]
  walk_at "!QB ZC jN"
 rw[eI,eI];have e1:SF (.int i1)=i1:=rfl;have e2:SF (.int i2)=i2:=rfl;have e3:SF (.int j1)=j1:=rfl;have e4:SF (.int j2)=j2:=rfl;rw[e1,e2,e3,e4];unfold aG;have hm:=j6 (j1-i1) (j2-i2);by_cases c2:cC (j1-j2) % oc=other
 ·have gE:decide (cC (j1-j2) % oc=other)=true:=rB c2;by_cases c1:cC (i1-i2) % oc=one
  ·have ND:decide (cC (i1-i2) % oc=one)=true:=rB c1;rw[ND,gE]
   walk_at "!QB ZC jN"
  ·have ND:decide (cC (i1-i2) % oc=one)=false:=eB c1;rw[ND]
   walk_at "!QB ZC jN"
 ·have gE:decide (cC (j1-j2) % oc=other)=false:=eB c2;rw[gE]
  walk_at "!QB ZC jN"
def Sv{W n:Nat}{one other no ba oc:Int}{x:bA}{fs:List (Int×Int×Bool)}{rs:List D}{xs:List Int}{b:Nat}(hl:fs.length<=20)(NF:0<ba)(uF:0<oc)(hx:IU x)(H:VR (YA fs xs (b:Int)) (YA fs xs ((b:Int)-1)))(h0:∀f∈zD fs,0<=f.1) :
  "c"|||n+3|||[.sh (vA no ba oc fs rs),.sh (.t [.str "never",.int one,.int other,.str x]),.p (.l (xs.map D.int)),.i b]|||.ow (.l (MA (XI one other oc x fs xs b))):=by
 exists EL
 have hh:run T W (n+2) "f" _=some (.ok (.ow (.l (YA fs xs (b:Int)))),_):=PL (W:=W) (n:=n+1) (no:=no) (ba:=ba) (oc:=oc) (fs:=fs) (rs:=rs) (xs:=xs) (b:=(b:Int)) (by lia);have CQ:run T W (n+2) "f" _=some (.ok (.ow (.l (YA fs xs ((b:Int)-1)))),_):=PL (W:=W) (n:=n+1) (no:=no) (ba:=ba) (oc:=oc) (fs:=fs) (rs:=rs) (xs:=xs) (b:=(b:Int)-1) (by lia);by_cases c:b=0
 ·subst c;have c':decide (((0:Nat):Int)=0)=true:=rfl
  have e:XI one other oc x fs xs ((0:Nat):Int)=[]:=by
   unfold XI
   apply pPa
   intro v w _ _
   have:wF ((YA fs xs (((0:Nat):Int)-1)).getD v .iA)=true:=by
    rcases Q5 (fs:=fs) (xs:=xs) (b:=0) (v:=v) with ⟨f,hf,e⟩ | e
    ·rw[e];unfold FC;rw[UA (by have:=h0 f hf;lia)];rfl
    ·rw[e];rfl
   unfold QD;rw[this];rfl
  have e2:MA []=[]:=rfl;rw[e,e2];clear e e2 hl H hx h0
  generalize YA fs xs ((0:Nat):Int)=hs at *
  have z0:((0:Nat):Int)=0:=rfl;rw[z0] at hh CQ c' ⊢
  walk_at "!QB"
 ·have c':decide ((b:Int)=0)=false:=eB (by lia);have XD:=AJ (fs:=fs) (xs:=xs) (b:=(b:Int));unfold XI;rw[<- XD]
  generalize YA fs xs (b:Int)=hs at *
  generalize YA fs xs ((b:Int)-1)=ah at *
  have hi:aAb .MB [.val (.i hs.length)] [.sh (vA no ba oc fs rs),.sh (.t [.str "never",.int one,.int other,.str x]),.p (.l (xs.map D.int)),.i b,.o (.l hs),.un,.un,.un,.o (.l ah),.o (.l []),.un]=some (rg hs.length,none):=by(refine wM (LK (n:=(hs.length:Int)) rfl (by lia) (by lia)) ?_;rw[gJ])
  obtain⟨t',DE,e,SI,bN⟩:=x8 (iv:=5) (body:=DA T.aA (run T W (n+2)) W lS) (λa t t2=>[.sh (vA no ba oc fs rs),.sh (.t [.str "never",.int one,.int other,.str x]),.p (.l (xs.map D.int)),.i b,.o (.l hs),t,.un,.un,.o (.l ah),.o (.l a),t2]) (λv w=>QD ah v w&&kM one other oc x ah hs v w) hs.length (by lia)
   (λa t t2 d ht=>by simp only[jC,RB ht])
   (λBA v t hv JL ht=>by
    have AE:aAb .MB [.val (.i ((v:Int)+1)),.val (.i hs.length)] [.sh (vA no ba oc fs rs),.sh (.t [.str "never",.int one,.int other,.str x]),.p (.l (xs.map D.int)),.i b,.o (.l hs),.i v,.un,.un,.o (.l ah),.o (.l (MA BA)),t]=some ((UB (hs.length-(v+1))).map λ(j:Nat)=>.int ((v:Int)+1+(j:Int)),none):=by(refine wM (T6 (m:=(v:Int)+1) (n:=(hs.length:Int)) rfl rfl (by lia) (by lia)) ?_;rw[show((hs.length:Int)-((v:Int)+1)).toNat=hs.length-(v+1) from by lia])
    obtain⟨t3,e3,h3⟩:=Q8 (iw:=10) (body:=DA T.aA (run T W (n+2)) W kS) (λa t t2=>[.sh (vA no ba oc fs rs),.sh (.t [.str "never",.int one,.int other,.str x]),.p (.l (xs.map D.int)),.i b,.o (.l hs),t,.un,.un,.o (.l ah),.o (.l a),t2]) (λv w=>QD ah v w&&kM one other oc x ah hs v w) hs.length v BA JL (by lia)
     (λa t d ht=>by simp only[jC,RB ht])
     (λa w LW hw NI=>by
      have US:=Vu (W:=W) (n:=n) (one:=one) (other:=other) (no:=no) (ba:=ba) (fs:=fs) (rs:=rs) H hv hw uF hx;have PD:jB ((MA a).length+1)=true:=PB (by rw[RJ];lia);have et:MA (a++[[(v:Int),(w:Int)]])=MA a++[.t [.int v,.int w]]:=by rw[YX];rfl
      unfold kS
      generalize (QD ah v w&&kM one other oc x ah hs v w)=q at *
      clear hi AE hl hv hw LW NI JL ht XD hh CQ c H hx NF h0;cases q
      ·walk_at "!QB"
       all_goals (try simp only[kE])
      ·walk_at "!QB") t ht
    refine⟨t3, ?_,h3⟩;unfold lS;clear hi hl hv JL ht h3 XD hh CQ c H hx NF h0
    walk_at "!QB") .un .un rfl rfl
  clear hl SI bN XD c H hx h0
  walk_at "!QB"
def fVa:"e"|||n+1|||[.sh (.t [.str "never",a,b,c])]|||.sh (.ins "Never" ["one","other","way"] [a,b,c]):=by
 exists FL
 walk_at "!QB"
noncomputable def mx(m y:Int):Int:=if y > m then y else m
theorem kN:(if y > m then y else m)=mx m y:=rfl
def oG(fs:List (Int×Int×Bool)):Int:=(fs.map λf=>1+f.1).foldl mx 3
def Fi:List (Int×Int×Bool)->Int
 |[]=>0
 |f::r=>(r.map λf=>f.1).foldl mx f.1
theorem Xi:∀(l:List (Int×Int×Bool)) (a c:Int),(l.map λf=>1+f.1).foldl mx (mx c (1+a))=mx c (1+(l.map λf=>f.1).foldl mx a)
 |[],_,_=>rfl
 |f::l,a,c=>by
  have h:mx (mx c (1+a)) (1+f.1)=mx c (1+mx a f.1):=by
   unfold mx
   split<;>split<;>split<;>first | lia | (split<;>lia)
  rw[CB,qP,h,Xi l (mx a f.1) c,CB,qP]
def iJa(h:1<=fs.length):mx 3 (1+Fi fs)=oG fs:=by
 match fs,h with
 |f::r,_=>exact(Xi r f.1 3).symm
theorem X7:∀(l:List Int) (a:Int),a<=l.foldl mx a
 |[],a=>Int.le_refl a
 |b::l,a=>NY (by unfold mx;split<;>lia) (X7 l (mx a b))
theorem Zi:∀(l:List Int) (a:Int),a<=b->(∀x∈l,x<=b)->l.foldl mx a<=b
 |[],_,h,_=>h
 |x::l,a,h,hl=>Zi l (mx a x) (by have:=hl x (wG ..);unfold mx;split<;>lia) λy hy=>hl y (RD _ hy)
theorem Yi:∀(l:List Int) (a:Int),x∈l->x<=l.foldl mx a
 |y::l,a,h=>by
  rcases pD.mp h with rfl | h
  ·exact NY (by unfold mx;split<;>lia) (X7 l (mx a x))
  ·exact Yi l (mx a y) h
def jJa(h:f∈fs):1+f.1<=oG fs:=Yi _ 3 (SD.mpr ⟨f,h,rfl⟩)
def hJa(h:GI no ba oc fs):∃m:Nat,oG fs=(m:Int)/\3<=m/\m<=5:=by
 have h1:3<=oG fs:=X7 _ _
 have h2:oG fs<=5:=Zi _ _ (by decide) λx hx=>by
  obtain⟨f,hf,rfl⟩:=SD.mp hx
  have:=(h.f f hf).2.1
  lia
 exact⟨(oG fs).toNat,by lia,by lia,by lia⟩
def Qe:JF .max [.l ((a::l).map D.int)]=some (.i (l.foldl mx a)):=by
 show(match OC ((a::l).map D.int) with
  |some (i::r)=>some (RV.sh (.int (r.foldl (λm y=>if y > m then y else m) i)))
  |_=>none)=_
 rw[aAx];rfl
def bj(h1:1<=fs.length)(h3:fs.length<=3) :
  "v"|||n+1|||[.sh (vA no ba oc fs rs)]|||.i (oG fs):=by
 exists F4
 have hi:aAb .of [.val (.sh (.t (fs.map toD)))] [.sh (vA no ba oc fs rs)]=some (fs.map toD,none):=FT rfl
 obtain⟨BA,Ui,e,⟨t1,rfl,FK,rfl⟩,_⟩:=YM (tests:=aD T.aA (run T W n) []) (JA:=ev T.aA (run T W n) false N1) (bind:=lB true [1]) (ds:=fs.map toD)
  (λj BA U=>∃(t1:Sl),U=[.un,t1]/\LA t1=true/\BA=((fs.take j).map λf=>f.1).map D.int)
  (λj d hd BA U hU=>by
   obtain⟨t1,rfl,FK,rfl⟩:=hU;obtain⟨f,hf,rfl⟩:∃f,fs[j]?=some f/\toD f=d:=by simpa using hd
   refine⟨_,true,_,by simp only[jC,RB FK]<;>rfl,pO,λ_=>?_,λz=>nomatch z⟩;refine⟨.i f.1,[.un,.sh (toD f)], ?_,_,rfl,rfl, ?_⟩
   ·unfold N1 toD
    walk_at "!nA kN"
   ·rw[zP,hf,VC,VC]
    rfl)
  [] [.un,.un] ⟨_,rfl,rfl,rfl⟩
 have ht:fs.take (fs.map toD).length=fs:=by(rw[eJ];simp)
 rw[ht] at e;have PD:jB ((fs.map λf=>f.1).map D.int).length=true:=PB (by simp;lia);have lT:jB fs.length=true:=PB (by lia)
 have hmx:JF .max [.l ((fs.map λf=>f.1).map D.int)]=some (.i (Fi fs)):=by
  match fs,h1 with
  |f::r,_=>exact Qe
 have hml:=iJa h1
 walk_at "!nA kN"
 rw[nG hi]
 walk_at "!nA kN"
 all_goals (rw[kQ rfl];walk_at "!nA kN")
def uHa(h3:fs.length<=3) :
  "Q"|||n+1|||[.sh (vA no ba oc fs rs)]|||.i (oG fs):=by
 exists E3
 have hi:aAb .of [.val (.sh (.t (fs.map toD)))] [.sh (vA no ba oc fs rs)]=some (fs.map toD,none):=FT rfl
 obtain⟨BA,Ui,e,⟨t1,rfl,FK,rfl⟩,_⟩:=YM (tests:=aD T.aA (run T W n) []) (JA:=ev T.aA (run T W n) false C1) (bind:=lB true [1]) (ds:=fs.map toD)
  (λj BA U=>∃(t1:Sl),U=[.un,t1]/\LA t1=true/\BA=((fs.take j).map λf=>1+f.1).map D.int)
  (λj d hd BA U hU=>by
   obtain⟨t1,rfl,FK,rfl⟩:=hU;obtain⟨f,hf,rfl⟩:∃f,fs[j]?=some f/\toD f=d:=by simpa using hd
   refine⟨_,true,_,by simp only[jC,RB FK]<;>rfl,pO,λ_=>?_,λz=>nomatch z⟩;refine⟨.i (1+f.1),[.un,.sh (toD f)], ?_,_,rfl,rfl, ?_⟩
   ·unfold C1 toD
    walk_at "!nA kN"
   ·rw[zP,hf,VC,VC]
    rfl)
  [] [.un,.un] ⟨_,rfl,rfl,rfl⟩
 have ht:fs.take (fs.map toD).length=fs:=by(rw[eJ];simp)
 rw[ht] at e;have PD:jB ((fs.map λf=>1+f.1).map D.int).length=true:=PB (by simp;lia);have lT:jB fs.length=true:=PB (by lia);have gCa:jB (1+fs.length)=true:=PB (by lia);have hCa:jB (0+1+fs.length)=true:=PB (by lia);have hmx:JF .max [.l (.int 3::(fs.map λf=>1+f.1).map D.int)]=some (.i (oG fs)):=Qe
 walk_at "!nA kN"
 rw[nG hi]
 walk_at "!nA kN"
 all_goals (rw[kQ rfl];walk_at "!nA kN")
def xDa:"I"|||n+1|||[.i i]|||.b true:=by
 exists C4
 walk_at "!"
def Mo(h1:a<=i)(h2:i<=b):"s"|||n+2|||[.i i,.i a,.i b]|||.b true:=by
 exists D4
 have c1:decide (a<=i)=true:=rB h1;have c2:decide (i<=b)=true:=rB h2
 walk_at "!xDa"
def cJ(m ba n:Int):Int:=if n<=m then n else m+(n-m) % ba
noncomputable def EE(m:Nat)(xs:List Int):List Int:=xs.drop (xs.length-m)
def Q9(h:n<=m):cJ m ba n=n:=QA h
def ZX(h:¬n<=m):cJ m ba n=m+(n-m) % ba:=UA h
def iZa(h0:0<=n)(hm:3<=m)(hb:1<=ba):0<=cJ m ba n/\cJ m ba n<=m+ba-1:=by
 unfold cJ;split
 ·lia
 ·have a:=uP (n-m) (b:=ba) (by lia);have b:=RU (n-m) (b:=ba) (by lia)
  lia
def xYa(hb:1<=ba):((EE m xs).length:Int)=if(m:Int)<cJ m ba xs.length then(m:Int) else cJ m ba xs.length:=by
 unfold EE;rw[cK];unfold cJ;by_cases h:(xs.length:Int)<=(m:Int)
 ·rw[QA h,UA (by omega)];omega
 ·rw[UA h];have a:=uP ((xs.length:Int)-m) (b:=ba) (by omega)
  split<;>omega
def wYa(h:x∈EE m xs):x∈xs:=List.mem_of_mem_drop h
def Bo(ho:GI no ba oc fs)(hm:oG fs=(m:Int)) :
  "N"|||n+2|||[.sh (vA no ba oc fs rs),.i k]|||.i (cJ m ba k):=by
 exists Z4
 have gT:=bj (W:=W) (n:=n) (no:=no) (ba:=ba) (oc:=oc) (rs:=rs) ho.l1 ho.l2;rw[hm] at gT;have g1:0<ba:=by have:=ho.b1;lia
 have g2:ba<100000000000000000000000000000000000000000000000000000000000000000000000000000000:=by have:=ho.b2;lia
 by_cases c:k<=(m:Int)
 ·have c':decide (k<=(m:Int))=true:=rB c;rw[Q9 c]
  walk_at "!"
 ·have c':decide (k<=(m:Int))=false:=eB c;rw[ZX c]
  walk_at "!"
def ox{m:Nat}(h:1<=m):tI (some (.l (xs.map D.int))) (some (.int (-(m:Int)))) none=some (.ow (.l ((EE m xs).map D.int))):=by
 show some (RV.ow (.l (aAv (xs.map D.int) (some (-(m:Int))) none)))=_;unfold aAv EE
 have e:HT.nB (xs.map D.int).length 0 (some (-(m:Int)))=xs.length-m:=by
  unfold HT.nB;rw[nA];show(if -(m:Int)<0 then _ else _)=_;rw[QA (by lia)]
  lia
 rw[e,HT.wU,nA,<- Gb,<- IY,eJ (by rw[cK];lia)]
def jx{m:Nat}:tI (some (.l (xs.map D.int))) (some (.int (if(xs.length:Int)-(m:Int) > 0 then(xs.length:Int)-(m:Int) else 0))) none=some (.ow (.l ((EE m xs).map D.int))):=by
 have e1:(if(xs.length:Int)-(m:Int) > 0 then(xs.length:Int)-(m:Int) else 0)=((xs.length-m:Nat):Int):=by split<;>lia
 rw[e1];show some (RV.ow (.l (aAv (xs.map D.int) (some ((xs.length-m:Nat):Int)) none)))=_;unfold aAv EE;rw[HT.oR,HT.wU,nA,xP (by lia),<- Gb,<- IY,eJ (by rw[cK];lia)]
def MG(m:Nat)(ba:Int)(xs:List Int):D:=.t [.int (cJ m ba xs.length),.t ((EE m xs).map D.int)]
def mm{m:Nat}{xs:List Int}(ho:GI no ba oc fs)(hm:oG fs=(m:Int))(h3:3<=m) :
  "h"|||n+3|||[.sh (vA no ba oc fs rs),.p (.l (xs.map D.int))]|||.sh (MG m ba xs):=by
 exists T4
 unfold MG;have gT:=bj (W:=W) (n:=n+1) (no:=no) (ba:=ba) (oc:=oc) (rs:=rs) ho.l1 ho.l2;rw[hm] at gT;have htu:=Bo (W:=W) (n:=n) (rs:=rs) (k:=(xs.length:Int)) ho hm;have hs:=ox (xs:=xs) (m:=m) (by lia);clear ho hm h3
 walk_at "!Bo nA"
def Ei{m:Nat}{xs:List Int}(ho:GI no ba oc fs)(hm:oG fs=(m:Int)) :
  "G"|||n+2|||[.sh (vA no ba oc fs rs),.p (.l (xs.map D.int))]|||.sh (MG m ba xs):=by
 exists N3
 unfold MG;have gT:=uHa (W:=W) (n:=n) (no:=no) (ba:=ba) (oc:=oc) (rs:=rs) ho.l2;rw[hm] at gT;have g1:0<ba:=by have:=ho.b1;lia
 have g2:ba<100000000000000000000000000000000000000000000000000000000000000000000000000000000:=by have:=ho.b2;lia
 have hs:=jx (xs:=xs) (m:=m);by_cases c:(xs.length:Int)<=(m:Int)
 ·have c':decide ((m:Int)<(xs.length:Int))=false:=eB (by lia);rw[Q9 c]
  walk_at "!nA"
 ·have c':decide ((m:Int)<(xs.length:Int))=true:=rB (by lia);rw[ZX c]
  walk_at "!nA"
def nL(m:Nat)(ba:Int)(br:List Int->Nat->List (List Int)):Prop:=∀(a b u:List Int),u.length=m+1->(a.length:Int) % ba=(b.length:Int) % ba->br (a++u) (a.length+m)=br (b++u) (b.length+m)
def xf{a u:List Int}:(a++u).getD (a.length+i) 0=u.getD i 0:=by
 rw[sH,QR (by lia),Nat.add_sub_cancel_left,<- sH]
def wQ:gx (a++u) (a.length+i)=gx u i:=xf
def xm{a u:List Int}{c l:Nat}(hf:f.1=(l:Int))(h1:l<=c)(h2:c<u.length) :
  FC (a++u) ((a.length:Int)+(c:Int)) f=.int (if f.2.2=true then f.2.1-u.getD (c-l) 0 else f.2.1+u.getD (c-l) 0):=by
 unfold FC;rw[hf,QA ⟨by lia,by rw[gC];lia⟩];have e:((a.length:Int)+(c:Int)-(l:Int)).toNat=a.length+(c-l):=by lia
 rw[e,xf]
theorem ZS{a b u:List Int}{fs:List (Int×Int×Bool)}{m c:Nat}(hf:∀f∈fs,0<=f.1/\f.1+1<=(m:Int))(hm:1<=m)(hc:m-1<=c)(h2:c<u.length):YA fs (a++u) ((a.length:Int)+(c:Int))=YA fs (b++u) ((b.length:Int)+(c:Int)):=by
 unfold YA;refine OU λf BO=>?_
 have hl:0<=f.1/\f.1+1<=(m:Int):=by
  rcases pD.mp BO with rfl | h
  ·exact⟨by decide,by show(0:Int)+1<=m;lia⟩
  ·exact hf f h
 obtain⟨l,QI⟩:∃l:Nat,f.1=(l:Int):=⟨f.1.toNat,by lia⟩
 rw[xm QI (by lia) h2,xm QI (by lia) h2]
theorem aAN:((a+m:Nat):Int)=(a:Int)+(m:Int):=YU a m
theorem Ow(h:1<=m):((a+m:Nat):Int)-1=(a:Int)+((m-1:Nat):Int):=by lia
section
variable{m:Nat}{ba:Int}{fs:List (Int×Int×Bool)}(hf:∀f∈fs,0<=f.1/\f.1+1<=(m:Int))(h3:3<=m)
include hf h3
theorem Kx:nL m ba λxs b=>LG be sp ba oc fs xs (b:Int):=λa b u hu xJ=>by
 have e:((a.length:Int)+(m:Int)) % ba=((b.length:Int)+(m:Int)) % ba:=by rw[PY,xJ,<- PY]
 simp only[LG,aAN,e,ZS (a:=a) (b:=b) (u:=u) (c:=m) hf (by lia) (by lia) (by lia)]
theorem Jx:nL m ba λxs b=>qI lo hi fs xs (b:Int):=λa b u hu xJ=>by
 simp only[qI,aAN,ZS (a:=a) (b:=b) (u:=u) (c:=m) hf (by lia) (by lia) (by lia)]
theorem Dx:nL m ba λxs b=>vL fs xs (b:Int) v w:=λa b u hu xJ=>by
 simp only[vL,aAN,ZS (a:=a) (b:=b) (u:=u) (c:=m) hf (by lia) (by lia) (by lia)]
theorem Hx{one other oc:Int}{x:bA}:nL m ba λxs b=>XI one other oc x fs xs (b:Int):=λa b u hu xJ=>by
 simp only[XI,Ow (show 1<=m by lia),ZS (a:=a) (b:=b) (u:=u) (c:=m-1) hf (by lia) (by lia) (by lia)];simp only[aAN,ZS (a:=a) (b:=b) (u:=u) (c:=m) hf (by lia) (by lia) (by lia)]
end
section
variable{m:Nat}{ba:Int}(h3:3<=m)
include h3
theorem Gx:nL m ba λxs b=>nD (LH mo xs b):=λa b u hu xJ=>by
 obtain⟨k,rfl⟩:∃k,m=k+1:=⟨m-1,by lia⟩
 have e:∀c:List Int,LH mo (c++u) (c.length+(k+1))=decide (mo<cC (gx u (k+1)-gx u k)):=λc=>by(show decide (mo<cC (gx (c++u) (c.length+(k+1))-gx (c++u) (c.length+k)))=_;rw[wQ,wQ])
 simp only[e]
theorem Fx:nL m ba λxs b=>nD (IF lp mo xs b):=λa b u hu xJ=>by
 obtain⟨k,rfl⟩:∃k,m=k+2:=⟨m-2,by lia⟩
 have e:∀c:List Int,IF lp mo (c++u) (c.length+(k+2))=(decide (lp<=cC (gx u (k+1)-gx u k)) && !(decide ((gx u (k+1)-gx u k)*(gx u (k+2)-gx u (k+1))<0)&&decide (cC (gx u (k+2)-gx u (k+1))<=mo))):=λc=>by(have q1:=wQ (a:=c) (u:=u) (i:=k);have q2:=wQ (a:=c) (u:=u) (i:=k+1);have q3:=wQ (a:=c) (u:=u) (i:=k+2);show(decide (lp<=cC (gx (c++u) (c.length+k+1)-gx (c++u) (c.length+k))) && !(decide ((gx (c++u) (c.length+k+1)-gx (c++u) (c.length+k))*(gx (c++u) (c.length+k+2)-gx (c++u) (c.length+k+1))<0)&&decide (cC (gx (c++u) (c.length+k+2)-gx (c++u) (c.length+k+1))<=mo)))=_;rw[cV,cV,q1,q2,q3])
 simp only[e]
theorem Ex(hk:k<=3):nL m ba λxs b=>nD (ME k xs b):=λa b u hu xJ=>by
 have e:∀c:List Int,ME k (c++u) (c.length+m)=((u.drop (m-k)).take k).all λz=>decide (z=gx u m):=λc=>by(unfold ME rG;rw[wQ,rB (by lia),iJ,show c.length+m-k=c.length+(m-k) by lia,<- xb,lr])
 simp only[e]
end
def Pre(br:List Int->Nat->List (List Int)):Prop:=∀(xs ys:List Int) (b:Nat),b<xs.length->br (xs++ys) b=br xs b
theorem wO(h:i<xs.length):gx (xs++ys) i=gx xs i:=by
 unfold gx;rw[sH,sH,KP h]
def tXa(hf:0<=f.1)(hb:b<xs.length):FC (xs++ys) b f=FC xs b f:=by
 unfold FC;by_cases h:0<=b-f.1/\b-f.1<(xs.length:Int)
 ·rw[QA ⟨h.1,by rw[gC];lia⟩,QA h]
  have:=wO (xs:=xs) (ys:=ys) (i:=(b-f.1).toNat) (by lia)
  unfold gx at this;rw[this]
 ·rw[UA (λz=>h ⟨z.1,by lia⟩),UA h]
theorem YS(hf:∀f∈zD fs,0<=f.1)(hb:b<xs.length):YA fs (xs++ys) b=YA fs xs b:=by
 unfold YA;exact OU λf hm=>tXa (hf f hm) hb
section
variable{fs:List (Int×Int×Bool)}(hf:∀f∈zD fs,0<=f.1)
include hf
theorem qRa:Pre λxs b=>LG be sp ba oc fs xs (b:Int):=λxs ys b hb=>by
 simp only[LG,YS hf (QY.mpr hb)]
theorem pRa:Pre λxs b=>qI lo hi fs xs (b:Int):=λxs ys b hb=>by
 simp only[qI,YS hf (QY.mpr hb)]
theorem jRa:Pre λxs b=>vL fs xs (b:Int) v w:=λxs ys b hb=>by
 simp only[vL,YS hf (QY.mpr hb)]
theorem oRa:Pre λxs b=>XI one other oc x fs xs (b:Int):=λxs ys b hb=>by
 simp only[XI,YS hf (QY.mpr hb),YS hf (show(b:Int)-1<xs.length by lia)]
end
def nRa:Pre λxs b=>nD (LH mo xs b):=λxs ys b hb=>by
 cases b with
 |zero=>rfl
 |succ b=>simp only[LH,wO hb,wO (show b<xs.length by lia)]
def lRa:Pre λxs b=>nD (IF lp mo xs b):=λxs ys b hb=>by
 match b,hb with
 | 0,_=>rfl
 | 1,_=>rfl
 |b+2,hb=>simp only[IF,wO hb,wO (show b+1<xs.length by lia),wO (show b<xs.length by lia)]
def kRa:Pre λxs b=>nD (ME k xs b):=λxs ys b hb=>by
 have e:k<=b->rG k (xs++ys) b=rG k xs b:=λh=>by(unfold rG;rw[List.drop_append_of_le_length (by omega),List.take_append_of_le_length (by rw[cK];omega)])
 have e2:ME k (xs++ys) b=ME k xs b:=by
  unfold ME;rw[wO hb];by_cases h:k<=b
  ·rw[e h]
  ·rw[eB (by omega),ZK,ZK]
 show nD _=nD _;rw[e2]
abbrev Br:=List Int->Nat->List (List Int)
abbrev RP:=D×D×Br
def V8(o h:D)(xs:List Int)(b:Nat):List Sl:=[.sh o,.sh h,.p (.l (xs.map D.int)),.i b]
structure RX(no ba oc:Int)(fs:List (Int×Int×Bool))(rs:List D)(m:Nat)(p:RP):Prop where
 ob:∃c ns ds f q,p.2.1=.ins c ns ds/\fH c ns "broken" PJ=some f/\T.aA f=[true,true,true,q] /\
  ∀(W n:Nat) (xs:List Int) (b:Nat),b<xs.length->(∀x∈xs,0<=x/\x<no)->run T W (n+4) f (V8 (.ins c ns ds) (vA no ba oc fs rs) xs b)=some (.ok (.ow (.l (MA (p.2.2 xs b)))),V8 (.ins c ns ds) (vA no ba oc fs rs) xs b)
 ru:∀(W n:Nat),"e"|||n+1|||[.sh p.1]|||.sh p.2.1
 lw:∀(W n:Nat) (xs:List Int) (b:Nat),b<xs.length->(∀x∈xs,0<=x/\x<no)->"c"|||n+3|||[.sh (vA no ba oc fs rs),.sh p.1,.p (.l (xs.map D.int)),.i b]|||.ow (.l (MA (p.2.2 xs b)))
 dep:nL m ba p.2.2
 pre:Pre p.2.2
 len:∀xs b,(p.2.2 xs b).length<=1000
def mVa{m:Nat}(ho:GI no ba oc fs)(hm:oG fs=(m:Int))(h3:3<=m)(h:yG no ba oc (fs.length:Int) d):∃o br,RX no ba oc fs rs m (d,o,br):=by
 have l2:=ho.l2;have o1:=ho.o1;have o2:=ho.o2;have b1:=ho.b1;have n2:=ho.n2
 have hf:∀f∈fs,0<=f.1/\f.1+1<=(m:Int):=λf hf=>⟨(ho.f f hf).1,by
  have:=jJa hf
  lia⟩
 have h0:∀f∈zD fs,0<=f.1:=λf hf=>by
  rcases pD.mp hf with rfl | hf
  ·decide
  ·exact(ho.f f hf).1
 have UT:fs.length<=20:=by lia
 have l9:fs.length<=900:=by lia
 have l1:fs.length<=1000:=by lia
 cases h with
 |span a b h1 h2 RS h4 =>
  exact⟨_,λxs b'=>LG a b ba oc fs xs (b':Int),⟨_,_,_,_,true,rfl,wJa,Ys,λW n xs b' _ _=>eXa UT RS (by lia) (by lia)⟩,λW n=>hVa,λW n xs b' _ _=>Uv (n:=n+1) UT (by lia) o1 o2,Kx hf h3,qRa h0,λxs b'=>dXa UT⟩
 |leap a h1 h2 =>
  exact⟨_,λxs b'=>nD (LH a xs b'),⟨_,_,_,_,false,rfl,tJa,Us,λW n xs b' hb _=>dIa (n:=n+3) hb⟩,λW n=>eVa,λW n xs b' hb _=>Rv (n:=n+1) l1 hb,Gx h3,nRa,λxs b'=>m8⟩
 |back a b h1 h2 RS h4 =>
  exact⟨_,λxs b'=>nD (IF a b xs b'),⟨_,_,_,_,false,rfl,sJa,Wr,λW n xs b' hb hx=>Uu (n:=n+3) hb λx BO=>⟨(hx x BO).1,by have:=(hx x BO).2;lia⟩⟩,λW n=>dVa,λW n xs b' hb _=>Qv (n:=n+1) l1 hb h1,Fx h3,lRa,λxs b'=>m8⟩
 |again a h1 h2 =>
  obtain⟨k,rfl⟩:∃k:Nat,a=(k:Int):=⟨a.toNat,by lia⟩
  exact⟨_,λxs b'=>nD (ME k xs b'),⟨_,_,_,_,false,rfl,rJa,Vr,λW n xs b' hb _=>ku (n:=n+3) hb (by lia)⟩,λW n=>cVa,λW n xs b' hb _=>Ov (n:=n+1) l1 hb (by lia) (by lia),Ex h3 (by lia),kRa,λxs b'=>m8⟩
 |range a b h1 h2 RS =>
  exact⟨_,λxs b'=>qI a b fs xs (b':Int),⟨_,_,_,_,true,rfl,vJa,Ws,λW n xs b' _ _=>lUa l9⟩,λW n=>gVa,λW n xs b' _ _=>Tv (n:=n+1) l9,Jx hf h3,pRa h0,λxs b'=>n8 (by lia)⟩
 |above v w h1 h2 RS =>
  exact⟨_,λxs b'=>vL fs xs (b':Int) v w,⟨_,_,_,_,true,rfl,qJa,Ur,λW n xs b' _ _=>gu (n:=n+1) (by lia) (by lia)⟩,λW n=>bVa,λW n xs b' _ _=>Nv (n:=n+1) l9 (by lia) (by lia),Dx hf h3,jRa h0,λxs b'=>oZa⟩
 |never a b x h1 h2 RS h4 h5 =>
  exact⟨_,λxs b'=>XI a b oc x fs xs (b':Int),⟨_,_,_,_,true,rfl,uJa,Vs,λW n xs b' hb hx=>yKa UT (by lia) h5 (yg ho hx hb)⟩,λW n=>fVa,λW n xs b' hb hx=>Sv UT (by lia) (by lia) h5 (yg ho hx hb) h0,Hx hf h3,oRa h0,λxs b'=>xX (by lia)⟩
theorem Dl{m:Nat}(ho:GI no ba oc fs)(hm:oG fs=(m:Int))(h3:3<=m):∀ds:List D,(∀d∈ds,yG no ba oc (fs.length:Int) d)->∃ps:List RP,ps.map (·.1)=ds/\∀p∈ps,RX no ba oc fs rs m p
 |[],_=>⟨[],rfl,λ_ z=>nomatch z⟩
 |d::ds,h=>by
  obtain⟨ps,h1,h2⟩:=Dl ho hm h3 ds λd' hd=>h d' (RD _ hd)
  obtain⟨o,br,hx⟩:=mVa ho hm h3 (h d wG);refine⟨(d,o,br)::ps,by rw[CB,h1],λp hp=>?_⟩;rcases pD.mp hp with rfl | hp
  ·exact hx
  ·exact h2 p hp
def aEa(h:U[i]?=some (.ow (.l ds) p l)):aAb (.enum lo) [.slot i] U=some (SE lo ds,some i):=by(unfold aAb;simp only[h])
def uIa{bind:D->Env->Option Env}(ok:D->Bool)(v:RV)(I:Env->Prop)(h:∀d∈ds,∀U,I U->∃U1,bind d U=some U1/\∃U2,body U1=some (if ok d=true then .nx else .rt v,U2)/\I U2) :
  ∀{U:Env},I U->∃U',uD bind body ds U=some (if ds.all ok=true then .nx else .rt v,U')/\I U':=by
 induction ds with
 |nil=>exact λhU=>⟨_,rfl,hU⟩
 |cons d ds ih =>
  intro U hU;obtain⟨U1,e1,U2,e2,h2⟩:=h d (by simp) U hU
  cases c:ok d with
  |true =>
   obtain⟨U',e3,h3⟩:=ih (λd' sF=>h d' (by simp[sF])) h2;rw[c,QA rfl] at e2;exact⟨U',by simp only[uD,e1,e2,e3,xC,c,iJ],h3⟩
  |false =>
   rw[c,UA (by decide)] at e2;exact⟨U2,by simp only[uD,e1,e2,xC,c,ZK];rfl,h2⟩
section
variable{no ba oc:Int}{fs:List (Int×Int×Bool)}{rs:List D}{m:Nat}{ps:List RP}
theorem Al(JD:ps.map (·.1)=rs)(hp:∀p∈ps,RX no ba oc fs rs m p)(hl:rs.length<=8):"u"|||n+2|||[.sh (vA no ba oc fs rs)]|||.ow (.l (ps.map (·.2.1))):=by
 exists P4
 have QI:ps.length<=8:=by rw[<- JD,nA] at hl;exact hl
 have hi:aAb .of [.val (.sh (.t rs))] [.sh (vA no ba oc fs rs)]=some (rs,none):=FT rfl
 obtain⟨BA,Ui,e,⟨t1,rfl,FK,rfl⟩,_⟩:=YM (tests:=aD T.aA (run T W (n+1)) []) (JA:=ev T.aA (run T W (n+1)) false P1) (bind:=lB true [1]) (ds:=rs)
  (λj BA U=>∃(t1:Sl),U=[.un,t1]/\LA t1=true/\BA=(ps.take j).map (·.2.1))
  (λj d hd BA U hU=>by
   obtain⟨t1,rfl,FK,rfl⟩:=hU
   obtain⟨p,GO,rfl⟩:∃p,ps[j]?=some p/\p.1=d:=by
    rw[<- JD,MD] at hd
    cases q:ps[j]? with
    |none=>rw[q] at hd;cases hd
    |some p=>rw[q] at hd;exact⟨p,rfl,rE hd⟩
   have hw:=(hp p (fJ GO)).ru W n;refine⟨_,true,_,by simp only[jC,RB FK]<;>rfl,pO,λ_=>?_,λz=>nomatch z⟩;refine⟨.sh p.2.1,[.un,.sh p.1], ?_,_,rfl,rfl,by rw[zP,GO,VC];rfl⟩;unfold P1
   walk_at "!")
  [] [.un,.un] ⟨_,rfl,rfl,rfl⟩
 rw[show rs.length=ps.length by rw[<- JD,nA],KR] at e;have PD:jB (ps.map (·.2.1)).length=true:=PB (by simp;lia)
 walk_at "!"
 rw[nG hi]
 walk_at "!"
 all_goals (rw[kQ rfl];walk_at "!")
def xE(ps:List RP)(xs:List Int)(b:Nat):Nat:=(ps.map λp=>(p.2.2 xs b).length).sum
theorem md:∀(ps:List RP),(∀p∈ps,(p.2.2 xs b).length<=1000)->xE ps xs b<=1000*ps.length
 |[],_=>by simp[xE]
 |p::ps,h=>by
  have h1:=h p wG;have h2:=md ps λq hq=>h q (RD _ hq)
  unfold xE at h2 ⊢;rw[CB,jJ,kD]
  lia
theorem qd{b:Nat}(hp:∀p∈ps,RX no ba oc fs rs m p)(hl:ps.length<=8)(hb:b<xs.length)(hx:∀x∈xs,0<=x/\x<no) :
  ∃L:List D,"m"|||n+5|||[.sh (vA no ba oc fs rs),.p (.l (ps.map (·.2.1))),.p (.l (xs.map D.int)),.i b]|||.ow (.l L)/\L.length=xE ps xs b:=by
 exists i4
 have hi:aAb (.enum 0) [.slot 1] [.sh (vA no ba oc fs rs),.p (.l (ps.map (·.2.1))),.p (.l (xs.map D.int)),.i b,.o (.l []),.un,.un,.un]=some (SE 0 (ps.map (·.2.1)),some 1):=aEa rfl
 obtain⟨U1,e1,L,t5,t6,t7,rfl,h5,h6,h7,hL⟩:=FG (bind:=lB false [5,6]) (body:=DA T.aA (run T W (n+4)) W QZ)
  (λpre U=>∃(L:List D) (t5 t6 t7:Sl),U=[.sh (vA no ba oc fs rs),.un,.p (.l (xs.map D.int)),.i b,.o (.l L),t5,t6,t7]/\LA t5=true/\LA t6=true/\LA t7=true/\L.length=xE (ps.take pre.length) xs b)
  (ds:=SE 0 (ps.map (·.2.1))) (λpre d post LB U hU=>by
   obtain⟨L,t5,t6,t7,rfl,h5,h6,h7,hL⟩:=hU
   have qB:pre.length<ps.length:=by
    have:=congrArg PH LB
    rw[lQ,nA,gC,kD] at this
    lia
   obtain⟨p,GO⟩:∃p,ps[pre.length]?=some p:=⟨_,XC qB⟩
   have hd:d=.t [.int (0+(pre.length:Int)),p.2.1]:=by(have q:=A2 (lo:=0) (ds:=ps.map (·.2.1)) (i:=pre.length) (d:=p.2.1) (by rw[MD,GO];rfl);rw[LB,QR (zB _),hV] at q;exact rE q)
   subst hd;refine⟨_,by simp only[jC,RB h5,RB h6]<;>rfl, ?_⟩;have LQ:=hp p (fJ GO);have dBa:=LQ.len xs b;have Rf:=md (ps.take pre.length) λq hq=>(hp q (Ha hq)).len xs b
   rw[bK] at Rf
   have hN:xE (ps.take (pre++[D.t [D.int (0+(pre.length:Int)),p.2.1]]).length) xs b=xE (ps.take pre.length) xs b+(p.2.2 xs b).length:=by(rw[gC,kD,mL,zP,GO];unfold xE;simp)
   rw[hN];obtain⟨c,ns,ds,f,q,ho,hmt,hpi,Ag⟩:=LQ.ob;have hr:=Ag W n xs b hb hx;unfold V8 at hr;rw[ho]
   generalize p.2.2 xs b=Z at *
   have AE:aAb .of [.val (.ow (.l (MA Z)))] [.sh (vA no ba oc fs rs),.un,.p (.l (xs.map D.int)),.i b,.o (.l L),.i (0+(pre.length:Int)),.sh (.ins c ns ds),t7]=some (MA Z,none):=WW rfl
   obtain⟨U2,e2,L2,x9,rfl,E5,SS⟩:=FG (bind:=lB true [7]) (body:=DA T.aA (run T W (n+4)) W PZ)
    (λpr U=>∃(L2:List D) (t7:Sl),U=[.sh (vA no ba oc fs rs),.un,.p (.l (xs.map D.int)),.i b,.o (.l L2),.i (0+(pre.length:Int)),.sh (.ins c ns ds),t7]/\LA t7=true/\L2.length=L.length+pr.length)
    (ds:=MA Z) (λpr d po sF U hU=>by
     obtain⟨L2,t7,rfl,h7,SS⟩:=hU;refine⟨_,by simp only[jC,RB h7]<;>rfl, ?_⟩
     have hz:pr.length<=1000:=by
      have:=congrArg PH sF
      rw[RJ,gC] at this
      lia
     have PD:jB (L2.length+1)=true:=PB (by lia);refine⟨[.sh (vA no ba oc fs rs),.un,.p (.l (xs.map D.int)),.i b,.o (.l (L2++[.t [.int b,.int (0+(pre.length:Int)),d]])),.i (0+(pre.length:Int)),.sh (.ins c ns ds),.sh d], ?_,_,_,rfl,rfl,by rw[gC,gC,SS];rfl⟩;unfold PZ;clear hp hl hb hx hi hL qB GO LQ dBa Rf hN ho hmt hpi Ag hr AE sF hz SS h5 h6 h7 LB
     walk_at "!")
    (U:=[.sh (vA no ba oc fs rs),.un,.p (.l (xs.map D.int)),.i b,.o (.l L),.i (0+(pre.length:Int)),.sh (.ins c ns ds),t7]) ⟨L,_,rfl,h7,by simp⟩
   rw[RJ] at SS;refine⟨[.sh (vA no ba oc fs rs),.un,.p (.l (xs.map D.int)),.i b,.o (.l L2),.i (0+(pre.length:Int)),.sh (.ins c ns ds),x9], ?_,_,_,_,_,rfl,rfl,rfl,E5,by rw[SS,hL]⟩;unfold QZ
   cases q<;>walk_at "!")
  (U:=[.sh (vA no ba oc fs rs),.un,.p (.l (xs.map D.int)),.i b,.o (.l []),.un,.un,.un]) ⟨[],_,_,_,rfl,rfl,rfl,rfl,by simp[xE]⟩
 rw[lQ,nA,KR] at hL;refine⟨L, ?_,hL⟩
 walk_at "!"
 simp only[aAi,Na,Oa,e1,Run.restore,aAq,ZJ,ya,jF]
 walk_at "!"
end
section
variable{no ba oc:Int}{fs:List (Int×Int×Bool)}{rs:List D}{m:Nat}{ps:List RP}
def kl:(NB z [x]).flatten=NB z x:=by
 induction z with
 |zero=>rfl
 |succ z ih=>rw[PN,mP,ih];rfl
noncomputable def ZD(z:Nat)(tl:List Int):List Int:=NB z 0++tl
noncomputable def qE(z:Nat)(tl:List Int):D:=.t [.int ((z:Int)+(tl.length:Int)),.t (tl.map D.int)]
theorem L9:(ZD z tl).length=z+tl.length:=by unfold ZD;simp
theorem Mi(hz:z<=100)(ht:tl.length<=1000):"w"|||n+1|||[.sh (qE z tl)]|||.ow (.l ((ZD z tl).map D.int)):=by
 exists E4
 unfold qE;have e0:(z:Int)+(tl.length:Int)-(tl.length:Int)=(z:Int):=by lia
 have e1:NC .Mult (.l [.int 0]) (.int z)=some (.ow (.l (NB z (.int 0)))):=by(rw[iS (by lia) (by lia) (ZF (by simp;lia)),gJ,kl])
 have e2:NC .Add (.l (NB z (.int 0))) (.l (tl.map D.int))=some (.ow (.l ((ZD z tl).map D.int))):=by(rw[nK (ZF (by simp;lia))];unfold ZD;rw[VC,Dq])
 walk_at "!nA"
def bS:xs.map D.int++[D.int q]=(xs++[q]).map D.int:=by rw[VC];rfl
def IB(ps:List RP)(xs:List Int)(q:Int):Bool:=decide (((xE ps (xs++[q]) xs.length:Nat):Int)=0)
theorem aM{k:Nat}(h:k<=1000):aAb .MB [.val (.i k)] U=some (rg k,none):=by
 refine wM (LK (n:=(k:Int)) rfl (by lia) (by lia)) ?_;rw[gJ]
noncomputable def OB(k:Nat)(ok:Int->Bool):List Int:=((UB k).filter λ(j:Nat)=>ok (j:Int)).map λ(j:Nat)=>(j:Int)
def Xe:((UB k).filter λ(j:Nat)=>ok (j:Int)).map (λ(j:Nat)=>D.int j)=(OB k ok).map D.int:=by unfold OB;rw[NN];rfl
theorem uQ(h:x∈OB k ok):0<=x/\x<k:=by
 obtain⟨j,hj,rfl⟩:=SD.mp h
 have:=EI.mp (qM.mp hj).1
 lia
def tJ:(OB k ok).length<=k:=by
 unfold OB;rw[nA];exact vD (LU _ _) (by rw[lL];exact zB _)
theorem bLa{W n:Nat}{k z:Nat}(hk:no=(k:Int))(hk7:k<=7)(JD:ps.map (·.1)=rs)(hp:∀p∈ps,RX no ba oc fs rs m p)(hl:rs.length<=8)(hz:z<=100)(ht:tl.length<=1000)(hx:∀x∈tl,0<=x/\x<no) :
  "x"|||n+6|||[.sh (vA no ba oc fs rs),.sh (qE z tl)]|||.ow (.l ((OB k (IB ps (ZD z tl))).map D.int)):=by
 exists K4
 have QI:ps.length<=8:=by rw[<- JD,nA] at hl;exact hl
 have h1:=Al (W:=W) (n:=n+3) JD hp hl;have h2:=Mi (W:=W) (n:=n+4) hz ht;have hi:∀{U:Env},aAb .MB [.val (.i no)] U=some (rg k,none):=λ{U}=>by rw[hk];exact aM (by lia)
 have AO:xD (some (vA no ba oc fs rs)) (.int 0)=some (.i no):=rfl
 have UI:∀x∈ZD z tl,0<=x/\x<no\/x=0:=λx hm=>by
  unfold ZD at hm;rcases eG.mp hm with h | h
  ·exact .inr (Cp h)
  ·exact .inl (hx x h)
 have qB:(ZD z tl).length<=1100:=by rw[L9];lia
 generalize ZD z tl=ys at *
 obtain⟨Ui,e,t4,rfl,vF⟩:=SV (tests:=aD T.aA (run T W (n+5)) [.qA .Eq (.bif .len [.call "m" [.v 0,.v 2,.lA .Add (.v 1) (.l [.v 4]),.bif .len [.v 1]]]) (.c (.int 0))]) (JA:=ev T.aA (run T W (n+5)) false O1) (bind:=lB true [4]) (ds:=rg k)
  (λj=>IB ps ys (j:Int)) (λj=>.int j) (λU=>∃t4,U=[.sh (vA no ba oc fs rs),.p (.l (ys.map D.int)),.p (.l (ps.map (·.2.1))),.un,t4]/\LA t4=true)
  (λj d hd U hU=>by
   obtain⟨t4,rfl,vF⟩:=hU
   have hj:j<k:=by
    have:=(eE.mp hd).1
    simpa using this
   have sF:d=.int j:=by(rw[MD,CM hj] at hd;exact(rE hd).symm)
   subst sF
   have NL:NC .Add (.l (ys.map D.int)) (.l [.int j])=some (.ow (.l ((ys++[(j:Int)]).map D.int))):=by(rw[nK (ZF (by simp;lia)),bS])
   obtain⟨L,hb,hL⟩:=qd (W:=W) (n:=n) (xs:=ys++[(j:Int)]) (b:=ys.length) hp QI (by simp) (λx hm=>by
    rcases eG.mp hm with h | h
    ·rcases UI x h with h | h
     ·exact h
     ·subst h;lia
    ·rw[dD.mp h];lia)
   have KA:decide ((L.length:Int)=0)=IB ps ys (j:Int):=by rw[hL];rfl
   refine⟨_,[.sh (vA no ba oc fs rs),.p (.l (ys.map D.int)),.p (.l (ps.map (·.2.1))),.un,.i j],by simp only[jC,RB vF]<;>rfl, ?_,λ_=>⟨.i j,[.sh (vA no ba oc fs rs),.p (.l (ys.map D.int)),.p (.l (ps.map (·.2.1))),.un,.i j], ?_,rfl,.i j,rfl,rfl⟩,λ_=>⟨.i j,rfl,rfl⟩⟩
   ·clear hd hj hL hp hl QI UI qB h1 h2 hi AO vF JD hx hk
    walk_at "!nA"
   ·unfold O1;clear hd hj hL hp hl QI UI qB h1 h2 hi AO vF JD hx hk NL hb KA
    walk_at "!nA")
  [.sh (vA no ba oc fs rs),.p (.l (ys.map D.int)),.p (.l (ps.map (·.2.1))),.un,.un] ⟨_,rfl,rfl⟩
 rw[nA,lL,Xe] at e;have PD:jB ((OB k (IB ps ys)).map D.int).length=true:=PB (by rw[nA];have:=tJ (k:=k) (ok:=IB ps ys);lia);have lT:jB (OB k (IB ps ys)).length=true:=PB (by have:=tJ (k:=k) (ok:=IB ps ys);lia);clear hp hl QI UI qB JD hx hk vF
 walk_at "!nA"
 rw[nG hi]
 walk_at "!nA"
 all_goals (first | done | (rw[kQ rfl];walk_at "!nA"))
def Cd:aC .NotEq (.l (MA Z)) (.l [])=some (!Z.isEmpty):=by
 rw[Aw (vLa Z) rfl];cases Z<;>rfl
theorem pd:∀(ps:List RP),decide (((xE ps xs b:Nat):Int)=0)=ps.all λp=>(p.2.2 xs b).isEmpty
 |[]=>rfl
 |p::ps=>by(have ih:=pd (xs:=xs) (b:=b) ps;rw[xC,<- ih];unfold xE;rw[CB,jJ,CY];cases p.2.2 xs b<;>simp<;>lia)
theorem tf(JD:ps.map (·.1)=rs)(hp:∀p∈ps,RX no ba oc fs rs m p)(hx:∀x∈xs++[q],0<=x/\x<no) :
  "g"|||n+4|||[.sh (vA no ba oc fs rs),.p (.l ((xs++[q]).map D.int))]|||.b (IB ps xs q):=by
 exists B3
 unfold IB;rw[pd];have hi:aAb .of [.val (.sh (.t rs))] [.sh (vA no ba oc fs rs),.p (.l ((xs++[q]).map D.int)),.un]=some (rs,none):=FT rfl;have hle:(((xs++[q]).length:Nat):Int)-1=(xs.length:Int):=by rw[gC,kD,mL];lia
 have hb:xs.length<(xs++[q]).length:=by simp
 obtain⟨ok,KA⟩:∃ok:D->Bool,∀p∈ps,ok p.1=(p.2.2 (xs++[q]) xs.length).isEmpty:=by
  refine⟨λd=>@decide (∃p∈ps,p.1=d/\(p.2.2 (xs++[q]) xs.length).isEmpty=true) (cl _),λp hm=>?_⟩
  cases c:(p.2.2 (xs++[q]) xs.length).isEmpty with
  |true=>exact @rB _ (cl _) ⟨p,hm,rfl,c⟩
  |false =>
   refine @eB _ (cl _) λhz=>?_
   obtain⟨p',BO,e,c'⟩:=hz;have r1:=(hp p hm).lw 0 0 (xs++[q]) xs.length hb hx;have r2:=(hp p' BO).lw 0 0 (xs++[q]) xs.length hb hx;rw[e,r1] at r2
   injection r2 with r2
   injection r2 with r2
   injection r2 with r2
   injection r2 with r2
   injection r2 with r2
   have l:=congrArg PH r2;rw[RJ,RJ] at l;rw[gp] at c';rw[<- l,<- gp,c] at c';cases c'
 have gI:(ps.all λp=>(p.2.2 (xs++[q]) xs.length).isEmpty)=rs.all ok:=by(rw[<- JD,Rb];rw[CY,iF,iF];exact⟨λh p hm=>by show ok p.1=true;rw[KA p hm];exact h p hm,λh p hm=>by rw[<- KA p hm];exact h p hm⟩)
 rw[gI]
 obtain⟨U1,e1,t,rfl,ht⟩:=uIa (bind:=lB true [2]) (body:=DA T.aA (run T W (n+3)) W HZ) ok (.b false)
  (λU=>∃t,U=[.sh (vA no ba oc fs rs),.p (.l ((xs++[q]).map D.int)),t]/\LA t=true) (ds:=rs) (λd hd U hU=>by
   obtain⟨t,rfl,ht⟩:=hU;rw[<- JD] at hd;obtain⟨p,hm,rfl⟩:=SD.mp hd;refine⟨_,by simp only[jC,RB ht]<;>rfl, ?_⟩;have hw:=(hp p hm).lw W n (xs++[q]) xs.length hb hx;rw[KA p hm]
   generalize p.2.2 (xs++[q]) xs.length=Z at *
   refine⟨[.sh (vA no ba oc fs rs),.p (.l ((xs++[q]).map D.int)),.sh p.1], ?_,_,rfl,rfl⟩;unfold HZ
   generalize xs++[q]=zs at *
   cases c:Z.isEmpty<;>walk_at "!Cd nA")
  (U:=[.sh (vA no ba oc fs rs),.p (.l ((xs++[q]).map D.int)),.un]) ⟨_,rfl,rfl⟩
 generalize xs++[q]=zs at *
 cases c:rs.all ok<;>rw[c] at e1<;>walk_at "!Cd nA"
end
def uV(m:Nat)(ba:Int)(xs ys:List Int):Prop:=xs=ys\/∃a b t:List Int,xs=a++t/\ys=b++t/\t.length=m/\(a.length:Int) % ba=(b.length:Int) % ba
def aNa(h:uV m ba xs ys)(hd:∀p∈ps,nL m ba p.2.2):IB ps xs q=IB ps ys q:=by
 rcases h with rfl | ⟨a,b,t,rfl,rfl,ht,xJ⟩
 ·rfl
 ·unfold IB xE
  have e:(ps.map λp=>(p.2.2 (a++t++[q]) (a++t).length).length)=ps.map λp=>(p.2.2 (b++t++[q]) (b++t).length).length:=by
   refine OU λp hp=>?_
   have:=hd p hp a b (t++[q]) (by simp[ht]) xJ
   rw[UH,UH,gC,gC,ht,this]
  rw[e]
def lXa(h:uV m ba xs ys):MG m ba (xs++[q])=MG m ba (ys++[q]):=by
 rcases h with rfl | ⟨a,b,t,rfl,rfl,ht,xJ⟩
 ·rfl
 ·have tl:∀c:List Int,EE m (c++t++[q])=(t++[q]).drop 1:=λc=>by
   unfold EE;rw[UH,show(c++(t++[q])).length-m=c.length+1 by simp[ht];lia,<- xb,lr]
  have tu:∀c:List Int,cJ m ba ((c++t++[q]).length:Int)=m+((c.length:Int)+1) % ba:=λc=>by
   have e:(((c++t++[q]).length:Nat):Int)=(c.length:Int)+m+1:=by simp[ht];lia
   rw[e,ZX (by lia),show(c.length:Int)+m+1-m=(c.length:Int)+1 by lia]
  unfold MG;rw[tl,tl,tu,tu,PY,xJ,<- PY]
def qIa(hb:1<=ba)(hb4:ba<=4):∃z:Nat,z<=100/\MG m ba xs=qE z (EE m xs)/\uV m ba xs (ZD z (EE m xs)):=by
 by_cases c:xs.length<=m
 ·have e:EE m xs=xs:=by unfold EE;rw[Nat.sub_eq_zero_of_le c,bV]
  refine⟨0,by lia, ?_,.inl ?_⟩
  ·unfold MG qE;rw[e,Q9 (by lia),show((0:Nat):Int)+(xs.length:Int)=xs.length by lia]
  ·rw[e];rfl
 ·have hl:(EE m xs).length=m:=by unfold EE;rw[cK];lia
  have r0:=uP ((xs.length:Int)-m) (show ba≠0 by lia);have r1:=RU ((xs.length:Int)-m) (show 0<ba by lia);refine⟨(((xs.length:Int)-m) % ba).toNat,by lia, ?_,.inr ⟨xs.take (xs.length-m),NB (((xs.length:Int)-m) % ba).toNat 0,EE m xs, ?_,rfl,hl, ?_⟩⟩
  ·unfold MG qE;rw[ZX (by lia),hl,show((((xs.length:Int)-m) % ba).toNat:Int)+(m:Int)=m+((xs.length:Int)-m) % ba by lia]
  ·unfold EE;rw[Zp]
  ·rw[bK,Mp,show((min (xs.length-m) xs.length:Nat):Int)=(xs.length:Int)-m by lia,NU r0,Int.emod_emod]
section
variable{no ba oc:Int}{fs:List (Int×Int×Bool)}{rs:List D}{m:Nat}{ps:List RP}
theorem Zu(ho:GI no ba oc fs)(hm:oG fs=(m:Int))(h3:3<=m)(hz:z<=100)(ht:tl.length<=1000) :
  "o"|||n+4|||[.sh (vA no ba oc fs rs),.sh (qE z tl),.i q]|||.sh (MG m ba (ZD z tl++[q])):=by
 exists Z3
 have h1:=Mi (W:=W) (n:=n+2) hz ht
 have NL:NC .Add (.l ((ZD z tl).map D.int)) (.l [.int q])=some (.ow (.l ((ZD z tl++[q]).map D.int))):=by(rw[nK (ZF (by simp[L9];lia)),bS])
 have h2:=mm (W:=W) (n:=n) (rs:=rs) (xs:=ZD z tl++[q]) ho hm h3
 generalize ZD z tl++[q]=zs at *
 walk_at "!nA"
end
def EX(h:(rg n)=pre++d::post):d=.int pre.length/\pre.length<n:=by
 have hl:=congrArg PH h;rw[nA,lL,gC,kD] at hl;have h2:(rg n)[pre.length]?=some d:=by rw[h,QR (zB _),hV];rfl
 rw[MD,CM (by lia)] at h2;exact⟨(rE h2).symm,by lia⟩
def z_:OB (k+1) ok=OB k ok++(if ok (k:Int)=true then [(k:Int)] else []):=by
 unfold OB;rw[vP,EN,VC];by_cases h:ok (k:Int)=true
 ·rw[QA h,List.filter_cons_of_pos (p:=λ(j:Nat)=>ok (j:Int)) h];rfl
 ·rw[UA h,List.filter_cons_of_neg (p:=λ(j:Nat)=>ok (j:Int)) h];rfl
section
variable{no ba oc:Int}{fs:List (Int×Int×Bool)}{rs:List D}{m:Nat}{ps:List RP}
def In(no:Int)(xs:List Int):Prop:=∀x∈xs,0<=x/\x<no
def In.app(h:In no xs)(k:In no ys):In no (xs++ys):=λx hx=>(eG.mp hx).elim (h x) (k x)
def In.one(h:0<=q/\q<no):In no [q]:=λx hx=>by rw[dD.mp hx];exact h
theorem vc(h:In no tl)(h1:1<=no):In no (ZD z tl):=λx hx=>by
 unfold ZD at hx;rcases eG.mp hx with hx | hx
 ·rw[Cp hx];lia
 ·exact h x hx
theorem yu(hz:z<=100)(ht:tl.length<=1000):"R"|||n+1|||[.sh (qE z tl)]|||.ow (.l ((ZD z tl).map D.int)):=by
 exists Z2
 unfold qE;have e0:(z:Int)+(tl.length:Int)-(tl.length:Int)=(z:Int):=by lia
 have e1:NC .Mult (.l [.int 0]) (.int z)=some (.ow (.l (NB z (.int 0)))):=by(rw[iS (by lia) (by lia) (ZF (by simp;lia)),gJ,Mx.kl])
 have e2:NC .Add (.l (NB z (.int 0))) (.l (tl.map D.int))=some (.ow (.l ((ZD z tl).map D.int))):=by(rw[nK (ZF (by simp;lia))];unfold ZD;rw[VC,Dq])
 walk_at "!nA"
def V9(m:Nat)(ba:Int)(ys:List Int)(q:Int):D:=.t [.int q,MG m ba (ys++[q])]
def DN(m:Nat)(ba:Int)(ps:List RP)(ys:List Int)(k:Nat):List D:=(OB k (IB ps ys)).map (V9 m ba ys)
theorem f0a{W n:Nat}{kn z:Nat}{tl:List Int}(ho:GI no ba oc fs)(hm:oG fs=(m:Int))(hk:no=(kn:Int))(JD:ps.map (·.1)=rs)(hp:∀p∈ps,RX no ba oc fs rs m p)(hz:z<=100)(ht:tl.length<=1000)(hx:In no tl) :
  "H"|||n+5|||[.sh (vA no ba oc fs rs),.sh (qE z tl)]|||.ow (.l (DN m ba ps (ZD z tl) kn)):=by
 exists Q3
 have n1:=ho.n1;have n2:=ho.n2;have hi:∀{U:Env},aAb .MB [.val (.i no)] U=some (rg kn,none):=λ{U}=>by rw[hk];exact aM (by lia)
 have h1:=yu (W:=W) (n:=n+3) hz ht;have UI:=vc (z:=z) hx (by lia);have qB:(ZD z tl).length<=1100:=by rw[L9];lia
 generalize ZD z tl=ys at *
 obtain⟨U',e,es,t3,t4,rfl,_,_,xK⟩:=FG (bind:=lB true [3]) (body:=DA T.aA (run T W (n+4)) W NZ)
  (λpre U=>∃es t3 t4,U=[.sh (vA no ba oc fs rs),.sh (qE z tl),.o (.l es),t3,t4]/\LA t3=true/\LA t4=true/\es=DN m ba ps ys pre.length)
  (ds:=rg kn) (λpre d post LB U hU=>by
   obtain⟨es,t3,t4,rfl,h3,h4,xK⟩:=hU;obtain⟨rfl,hj⟩:=EX LB;refine⟨_,by simp only[jC,RB h3]<;>rfl, ?_⟩
   have hc:NC .Add (.l (ys.map D.int)) (.l [.int pre.length])=some (.ow (.l ((ys++[(pre.length:Int)]).map D.int))):=by(rw[nK (ZF (by simp;lia)),bS])
   have CJ:=tf (W:=W) (n:=n) (xs:=ys) (q:=(pre.length:Int)) JD hp (UI.app (In.one (by lia)));have DG:=Ei (W:=W) (n:=n+2) (rs:=rs) (xs:=ys++[(pre.length:Int)]) ho hm
   have PD:jB (es.length+1)=true:=PB (by
    have:=tJ (k:=pre.length) (ok:=IB ps ys)
    rw[xK,DN,nA];lia)
   have BW:DN m ba ps ys (pre.length+1)=es++(if IB ps ys (pre.length:Int)=true then [V9 m ba ys (pre.length:Int)] else []):=by
    rw[xK,DN,z_,VC];congr 1
    split<;>rfl
   rw[gC,AM,BW];unfold V9
   generalize (pre.length:Int)=q at *
   generalize MG m ba (ys++[q])=sd at *
   generalize ys++[q]=ws at *
   generalize IB ps ys q=b at *
   unfold NZ;clear xK BW
   cases b with
   |true =>
    refine⟨[.sh (vA no ba oc fs rs),.sh (qE z tl),.o (.l (es++[.t [.int q,sd]])),.i q,.o (.l (ws.map D.int))], ?_,_,_,_,rfl,rfl,rfl,rfl⟩;clear hp JD hx UI qB ho hm hk hz ht LB hj h3 n1 n2 hi
    walk_at "!nA"
   |false =>
    refine⟨[.sh (vA no ba oc fs rs),.sh (qE z tl),.o (.l es),.i q,.o (.l (ws.map D.int))], ?_,_,_,_,rfl,rfl,rfl,(kE es).symm⟩;clear hp JD hx UI qB ho hm hk hz ht LB hj h3 n1 n2 hi
    walk_at "!nA")
  (U:=[.sh (vA no ba oc fs rs),.sh (qE z tl),.o (.l []),.un,.un]) ⟨[],_,_,rfl,rfl,rfl,rfl⟩
 rw[nA,lL] at xK;subst xK
 generalize DN m ba ps ys kn=es at *
 clear hp JD hx UI qB ho hm hk hz ht n1 n2
 walk_at "!nA"
end
structure VK(no ba:Int)(m:Nat)(k:L2.pB):Prop where
 t0:0<=k.1
 t1:k.1<=(m:Int)+ba-1
 tl:(k.2.length:Int)=if(m:Int)<k.1 then(m:Int) else k.1
 xs:In no k.2
def eM(k:L2.pB):List Int:=ZD (k.1-k.2.length).toNat k.2
def OA(m:Nat)(ba:Int)(xs:List Int):L2.pB:=(cJ m ba xs.length,EE m xs)
theorem d9:MG m ba xs=uA (OA m ba xs):=rfl
section
variable{no ba oc:Int}{fs:List (Int×Int×Bool)}{rs:List D}{m kn:Nat}{ps:List RP}{k:L2.pB}
theorem VK.le(h:VK no ba m k):(k.2.length:Int)<=k.1:=by
 have:=h.tl
 split at this<;>lia
theorem VK.st(h:VK no ba m k):uA k=qE (k.1-k.2.length).toNat k.2:=by
 have:=h.le
 unfold uA qE;rw[NU (by lia),Int.sub_add_cancel]
structure HK(no ba oc:Int)(fs:List (Int×Int×Bool))(rs:List D)(m kn:Nat)(ps:List RP):Prop where
 ho:GI no ba oc fs
 hm:oG fs=(m:Int)
 h3:3<=m
 h5:m<=5
 hk:no=(kn:Int)
 JD:ps.map (·.1)=rs
 hp:∀p∈ps,RX no ba oc fs rs m p
 hl:rs.length<=8
theorem HK.z(H:HK no ba oc fs rs m kn ps)(h:VK no ba m k):(k.1-k.2.length).toNat<=100/\k.2.length<=1000:=by
 have:=h.t1;have:=h.le;have:=H.h5;have:=H.ho.b2
 lia
theorem HK.k7(H:HK no ba oc fs rs m kn ps):kn<=7:=by have:=H.ho.n2;have:=H.hk;lia
def HK.line(H:HK no ba oc fs rs m kn ps)(h:VK no ba m k):In no (eM k):=vc h.xs H.ho.n1
theorem HK.next(H:HK no ba oc fs rs m kn ps)(h:In no xs):VK no ba m (OA m ba xs):=by
 have b1:=H.ho.b1;have h3:=H.h3;have tb:=iZa (m:=(m:Int)) (ba:=ba) (n:=(xs.length:Int)) (by lia) (by lia) b1;exact⟨tb.1,tb.2,xYa b1,λx hx=>h x (wYa hx)⟩
def HD(hA:D)(no ba:Int)(m kn:Nat)(ps:List RP):Prop:=∃oc fs rs,hA=vA no ba oc fs rs/\HK no ba oc fs rs m kn ps
theorem HD.i0(H:HD hA no ba m kn ps):xD (some hA) (.int 0)=some (.i no):=by obtain⟨_,_,_,rfl,_⟩:=H;rfl
theorem HD.k7(H:HD hA no ba m kn ps):kn<=7:=by obtain⟨_,_,_,rfl,H⟩:=H;exact H.k7
theorem HD.hk(H:HD hA no ba m kn ps):no=(kn:Int):=by obtain⟨_,_,_,rfl,H⟩:=H;exact H.hk
theorem HD.line(H:HD hA no ba m kn ps)(h:VK no ba m k):In no (eM k):=by obtain⟨_,_,_,rfl,H⟩:=H;exact H.line h
theorem HD.next(H:HD hA no ba m kn ps)(h:In no xs):VK no ba m (OA m ba xs):=by obtain⟨_,_,_,rfl,H⟩:=H;exact H.next h
def dC(kn:Nat)(ps:List RP)(k:L2.pB):List Int:=OB kn (IB ps (eM k))
def aLa(H:HD hA no ba m kn ps)(h:VK no ba m k):"x"|||n+6|||[.sh hA,.sh (uA k)]|||.ow (.l ((dC kn ps k).map D.int)):=by
 obtain⟨oc,fs,rs,rfl,H⟩:=H;rw[h.st];exact bLa H.hk H.k7 H.JD H.hp H.hl (H.z h).1 (H.z h).2 h.xs
def Yu(H:HD hA no ba m kn ps)(h:VK no ba m k):"o"|||n+4|||[.sh hA,.sh (uA k),.i q]|||.sh (uA (OA m ba (eM k++[q]))):=by
 obtain⟨oc,fs,rs,rfl,H⟩:=H;rw[h.st];exact Zu H.ho H.hm H.h3 (H.z h).1 (H.z h).2
def e0a(H:HD hA no ba m kn ps)(h:VK no ba m k):"H"|||n+5|||[.sh hA,.sh (uA k)]|||.ow (.l (DN m ba ps (eM k) kn)):=by
 obtain⟨oc,fs,rs,rfl,H⟩:=H;rw[h.st];exact f0a H.ho H.hm H.hk H.JD H.hp (H.z h).1 (H.z h).2 h.xs
end
section
variable{S:Type}{zC:S->List Int}{nx:S->Int->S}
def cnt(zC:S->List Int)(nx:S->Int->S):Nat->S->Nat
 | 0,_=>1
 |j+1,s=>((zC s).map λq=>cnt zC nx j (nx s q)).sum
noncomputable def NJ(w:Int->Nat):List Int->Nat->Option (Int×Nat)
 |[],_=>none
 |q::r,x=>if x<w q then some (q,x) else NJ w r (x-w q)
def OK(zC:S->List Int)(nx:S->Int->S):Nat->S->Nat->List Int
 | 0,_,_=>[]
 |j+1,s,x=>match NJ (λq=>cnt zC nx j (nx s q)) (zC s) x with
  |some (q,y)=>q::OK zC nx j (nx s q) y
  |none=>[]
def NP(zC:S->List Int)(nx:S->Int->S):S->List Int->Prop
 |_,[]=>True
 |s,q::r=>q∈zC s/\NP zC nx (nx s q) r
def dU(zC:S->List Int)(nx:S->Int->S):S->List Int->Nat
 |_,[]=>0
 |s,q::r=>(((zC s).filter λp=>decide (p<q)).map λp=>cnt zC nx r.length (nx s p)).sum+dU zC nx (nx s q) r
theorem xU:∀{l:List Int} {x:Nat},l.Pairwise (·<·)->x<(l.map w).sum->∃q y,NJ w l x=some (q,y)/\q∈l/\y<w q/\((l.filter λp=>decide (p<q)).map w).sum+y=x
 |[],x,_,h=>by simp at h
 |p::l,x,hs,h=>by
  rw[Pa] at hs;unfold NJ;by_cases hx:x<w p
  ·rw[QA hx];refine⟨p,x,rfl,wG,hx, ?_⟩
   rw[show((p::l).filter λr=>decide (r<p))=[] from Aa.mpr λr hr=>by
    rcases pD.mp hr with rfl | hr
    ·simp
    ·have:=hs.1 r hr;simp;omega]
   simp
  ·rw[UA hx];rw[CB,jJ] at h;obtain⟨q,y,h1,h2,h3,h4⟩:=xU (w:=w) (x:=x-w p) hs.2 (by omega);refine⟨q,y,h1,RD _ h2,h3, ?_⟩;rw[zY,QA (by have:=hs.1 q h2;simpa using this),CB,jJ];omega
theorem Il:∀{l:List Int} {x x' q q' y y'},l.Pairwise (·<·)->x<x'->NJ w l x=some (q,y)->NJ w l x'=some (q',y')->q<q'\/(q=q'/\y<y')
 |[],_,_,_,_,_,_,_,_,h,_=>nomatch h
 |p::l,x,x',q,q',y,y',hs,hx,h,h'=>by
  rw[Pa] at hs;unfold NJ at h h'
  have hm:∀{l:List Int} {x q y},NJ w l x=some (q,y)->q∈l:=by
   intro l
   induction l with
   |nil=>intro x q y h;exact nomatch h
   |cons p l ih =>
    intro x q y h;unfold NJ at h;split at h
    ·cases h;exact wG
    ·exact RD _ (ih h)
  split at h'
  ·cases h';rw[QA (by lia)] at h;cases h;exact .inr ⟨rfl,hx⟩
  ·split at h
   ·cases h;exact .inl (hs.1 _ (hm h'))
   ·exact Il hs.2 (by lia) h h'
theorem yj(hf:∀s,(zC s).Pairwise (·<·)):∀{j:Nat} {s:S} {x:Nat},x<cnt zC nx j s->(OK zC nx j s x).length=j/\NP zC nx s (OK zC nx j s x)/\dU zC nx s (OK zC nx j s x)=x
 | 0,s,x,h=>⟨rfl,trivial,by unfold cnt at h;show 0=x;lia⟩
 |j+1,s,x,h=>by(unfold cnt at h;obtain⟨q,y,h1,h2,h3,h4⟩:=xU (hf s) h;obtain⟨k1,k2,k3⟩:=yj hf h3;unfold OK;rw[h1];refine⟨by simp[k1],⟨h2,k2⟩, ?_⟩;show _+dU zC nx (nx s q) _=x;rw[k3,k1];exact h4)
theorem vj(hf:∀s,(zC s).Pairwise (·<·)):∀{j:Nat} {s:S} {x x':Nat},x<x'->x'<cnt zC nx j s->HT.aAy (OK zC nx j s x) (OK zC nx j s x')=true
 | 0,s,x,x',h,h'=>by unfold cnt at h';lia
 |j+1,s,x,x',h,h'=>by
  unfold cnt at h';obtain⟨q,y,h1,h2,h3,h4⟩:=xU (hf s) (tM h h');obtain⟨q',y',k1,k2,k3,k4⟩:=xU (hf s) h';unfold OK;rw[h1,k1];show HT.aAy (q::_) (q'::_)=true;rw[HT.Ji];rcases Il (hf s) h h1 k1 with z | ⟨rfl,z⟩
  ·rw[UA (by lia)];exact rB z
  ·rw[QA rfl];exact vj hf z k3
end
def Q0{bind:D->Env->Option Env}(val:D->D)(J:Env->Prop)
  (step:∀d∈ds,∀U,J U->∃U1 v U2,bind d U=some U1/\JA U1=some (.ok v,U2)/\v.d=val d/\J U2) (h:J U) :
  ∃U',OE (aD P C []) JA bind ds [] U=some (.ok (ds.map val),U')/\J U':=by
 obtain⟨BA,U',e,⟨rfl,hJ⟩,_⟩:=YM (tests:=aD P C []) (λj BA U=>BA=(ds.take j).map val/\J U)
  (λj d hd BA U hz=>by
   obtain⟨ha,hJ⟩:=hz;obtain⟨U1,v,U2,h1,h2,h3,h4⟩:=step d (fJ hd) U hJ;refine⟨U1,true,U1,h1,pO,λ_=>⟨v,U2,h2, ?_,h4⟩,λz=>nomatch z⟩;rw[ha,h3,VU,hd,VC]
   rfl) [] U ⟨rfl,h⟩
 exact⟨U',by rw[e,KR],hJ⟩
section
variable{no ba:Int}{kn m:Nat}{ps:List RP}{hA:D}{k:L2.pB}
def mB(m:Nat)(ba:Int)(k:L2.pB)(q:Int):L2.pB:=OA m ba (eM k++[q])
def RC(m:Nat)(ba:Int)(kn:Nat)(ps:List RP)(k:L2.pB):List D:=(dC kn ps k).map λq=>.t [.int q,uA (mB m ba k q)]
theorem rXa:DN m ba ps (eM k) kn=RC m ba kn ps k:=rfl
theorem nXa{W n:Nat}(H:HD hA no ba m kn ps)(h:VK no ba m k):"y"|||n+7|||[.sh hA,.sh (uA k)]|||.ow (.l (RC m ba kn ps k)):=by
 exists W4
 have h1:=aLa (W:=W) (n:=n) H h;have hi:∀{U:Env},aAb .of [.val (.ow (.l ((dC kn ps k).map D.int)))] U=some ((dC kn ps k).map D.int,none):=λ{U}=>rfl
 obtain⟨Ui,e,t3,rfl,LO⟩:=Q0 (P:=T.aA) (C:=run T W (n+6)) (JA:=ev T.aA (run T W (n+6)) false S1) (bind:=lB true [3]) (ds:=(dC kn ps k).map D.int)
  (λd=>match d with | .int q=>.t [.int q,uA (mB m ba k q)] | _=>.iA) (λU=>∃t3,U=[.sh hA,.sh (uA k),.un,t3]/\LA t3=true)
  (λd hd U hU=>by
   obtain⟨t3,rfl,h3⟩:=hU;obtain⟨q,hq,rfl⟩:=SD.mp hd;have hb:=Yu (W:=W) (n:=n+2) (q:=q) H h;refine⟨_,.sh (.t [.int q,uA (mB m ba k q)]),[.sh hA,.sh (uA k),.un,.i q],by simp only[jC,RB h3]<;>rfl, ?_,rfl,_,rfl,rfl⟩;replace hb:"o"|||n+6|||[.sh hA,.sh (uA k),.i q]|||.sh (uA (mB m ba k q)):=hb
   generalize uA (mB m ba k q)=d2 at *
   unfold S1
   walk_at "!nA")
  (U:=[.sh hA,.sh (uA k),.un,.un]) ⟨_,rfl,rfl⟩
 have gI:((dC kn ps k).map D.int).map (λd=>match d with | .int q=>D.t [.int q,uA (mB m ba k q)] | _=>.iA)=RC m ba kn ps k:=by rw[NN];rfl
 rw[gI] at e;have qB:(RC m ba kn ps k).length<=7:=by unfold RC;rw[nA];exact vD tJ H.k7
 generalize RC m ba kn ps k=F at *
 generalize (dC kn ps k).map D.int=F0 at *
 have PD:jB F.length=true:=PB (by omega)
 walk_at "!nA"
 rw[nG hi]
 walk_at "!nA"
end
theorem eY(st:O->Env)(I Dn:O->Prop)(μ:O->Nat)(x:Exc)(R:Prop)
  (h:∀a,I a->(Dn a/\test (st a)=some (.ok (.b false),st a))\/(test (st a)=some (.ok (.b true),st a)/\((∃b,body (st a)=some (.nx,st b)/\I b/\μ b<μ a)\/(body (st a)=none/\R/\∃c,bx (st a)=some (x,st c))))) :
  ∀n a,I a->μ a<n->(∃b,I b/\Dn b/\RF test body n (st a)=some (.nx,st b))\/(R/\RF test body n (st a)=none/\∃c,nI test body bx n (st a)=some (x,st c))
 | 0,a,_,hm=>absurd hm (ZU _)
 |n+1,a,ha,hm=>by
  rcases h a ha with ⟨hd,ht⟩ | ⟨ht,⟨b,hb,hi,hl⟩ | ⟨hb,hr,c,hx⟩⟩
  ·exact .inl ⟨a,ha,hd,by simp only[RF,ht,zA.nC]⟩
  ·rcases eY st I Dn μ x R h n b hi (by lia) with ⟨c,h1,h2,h3⟩ | ⟨h1,h2,c,h3⟩
   ·exact .inl ⟨c,h1,h2,by simp only[RF,ht,zA.nC,hb];exact h3⟩
   ·exact .inr ⟨h1,by simp only[RF,ht,zA.nC,hb];exact h2,c,by simp only[nI,ht,hb];exact h3⟩
  ·exact .inr ⟨hr,by simp only[RF,ht,zA.nC,hb],c,by simp only[nI,ht,hb];exact hx⟩
section
variable{W n:Nat}{hA d0 d:D}{KS TN:List L2.JC}{DS MM Lw sL F es:List D}{t:Sl}{kk:L2.JC}
def Ox(ht:LA t=true)(hp:Lw[Lw.length-1]?=some d)(hq:Lw.dropLast=sL)(hn:aC .NotIn d (.cB KS DS)=some false) :
  DA T.aA (run T W n) W kG [.sh hA,.sh d0,.o (.cB KS DS),.o (.l Lw),t]=some (.nx,[.sh hA,.sh d0,.o (.cB KS DS),.o (.l sL),.sh d]):=by
 unfold kG
 walk_at "!nA"
def Lx(ht:LA t=true)(hp:Lw[Lw.length-1]?=some d)(hq:Lw.dropLast=sL)(hn:aC .NotIn d (.cB KS DS)=some true)(hl:decide ((KS.length:Int)=150)=true) :
  DA T.aA (run T W n) W kG [.sh hA,.sh d0,.o (.cB KS DS),.o (.l Lw),t]=none/\wD T.aA (run T W n) W kG [.sh hA,.sh d0,.o (.cB KS DS),.o (.l Lw),t]=some (⟨"TooMany",none⟩,[.sh hA,.sh d0,.o (.cB KS DS),.o (.l sL),.sh d]):=by
 unfold kG;constructor
 ·walk_at "!nA"
 ·walk_at "!nA"
def Nx(ht:LA t=true)(hp:Lw[Lw.length-1]?=some d)(hq:Lw.dropLast=sL)(hn:aC .NotIn d (.cB KS DS)=some true)(hl:decide ((KS.length:Int)=150)=false)
  (hs:"y"|||n|||[.sh hA,.sh d]|||.ow (.l F)) (hk:mF d=some kk) (DW:sN 2 [.sh hA,.sh d0,.o (.cB KS DS),.o (.l sL),.sh d] (some (.o (.cB KS DS))) (some kk) (.ow (.l F))=some (.nx,[.sh hA,.sh d0,.o (.cB TN MM),.o (.l sL),.sh d]))
  (AO:xD (some (.cB TN MM)) d=some (.sh (.l F))) (hF:∀x∈F,∃a b,x=.t [a,b]) (xK:es=F.map λx=>match x with | .t [_,b]=>b | _=>.iA) (hz:jB (sL.length+es.length)=true) (GK:jB es.length=true) :
  DA T.aA (run T W n) W kG [.sh hA,.sh d0,.o (.cB KS DS),.o (.l Lw),t]=some (.nx,[.sh hA,.sh d0,.o (.cB TN MM),.o (.l (sL++es)),.sh d]):=by
 have hi:∀{U:Env},aAb .of [.val (.sh (.l F))] U=some (F,none):=λ{U}=>rfl
 obtain⟨Ui,e,t1,rfl,FK⟩:=Q0 (P:=T.aA) (C:=run T W n) (JA:=ev T.aA (run T W n) false Q1) (bind:=lB true [1]) (ds:=F)
  (λx=>match x with | .t [_,b]=>b | _=>.iA) (λU=>∃t1,U=[.un,t1]/\LA t1=true)
  (λx hx U hU=>by
   obtain⟨t1,rfl,h1⟩:=hU;obtain⟨a,b,rfl⟩:=hF x hx;refine⟨_,.sh b,[.un,.sh (.t [a,b])],by simp only[jC,RB h1]<;>rfl, ?_,rfl,_,rfl,rfl⟩;unfold Q1;clear hs DW AO hi xK
   walk_at "!nA")
  (U:=[.un,.un]) ⟨_,rfl,rfl⟩
 rw[<- xK] at e;unfold kG;clear hF xK FK
 walk_at "!nA"
 rw[nG hi]
 walk_at "!nA"
 rw[kQ rfl,show([]++NB 2 Sl.un:List Sl)=[.un,.un] from rfl,e]
 walk_at "!nA"
end
section
variable{S:Type}{zC:S->List Int}{nx:S->Int->S}{s0 s:S}
inductive nJ(zC:S->List Int)(nx:S->Int->S)(s0:S):S->Prop
 |start:nJ zC nx s0 s0
 |step {s:S} {q:Int}:nJ zC nx s0 s->q∈zC s->nJ zC nx s0 (nx s q)
def Xk{l:List S}(h0:s0∈l)(hc:∀k∈l,∀q∈zC k,nx k q∈l)(h:nJ zC nx s0 s):s∈l:=by
 induction h with
 |start=>exact h0
 |step _ hq ih=>exact hc _ ih _ hq
def oUa(h:nJ zC nx s0 s1)(k:nJ zC nx s1 s):nJ zC nx s0 s:=by
 induction k with
 |start=>exact h
 |step _ hq ih=>exact .step ih hq
theorem jX[BEq S][LawfulBEq S]:∀{l l':List S},l.Nodup->(∀x∈l,x∈l')->l.length<=l'.length
 |[],_,_,_=>UJ _
 |x::r,l',nd,h=>by
  rw[NR] at nd;have hx:=h x wG
  have:=jX (l':=l'.erase x) nd.2 λy hy=>(List.mem_erase_of_ne λz:y=x=>nd.1 (z ▸ hy)).mpr (h y (RD _ hy))
  rw[List.length_erase_of_mem hx] at this
  have:=List.length_pos_of_mem hx
  rw[kD]
  lia
end
def qW{ks:List L2.pB}:KL (ks.map .inl) (.inl k)=decide (k∈ks):=by
 unfold KL;rw[List.any_map]
 induction ks with
 |nil=>rfl
 |cons x ks ih =>
  rw[KN,ih];show(decide (Sum.inl x=(Sum.inl k:L2.JC))||decide (k∈ks))=_;by_cases e:x=k
  ·subst e;rw[rB rfl,rB wG];rfl
  ·rw[eB (λz=>e (iV z)),WG];exact JR.mpr ⟨RD _,λh=>(pD.mp h).resolve_left λz=>e z.symm⟩
def WQ{ks:List L2.pB}(h:k∈ks):fM (ks.map .inl) (ks.map f) (.inl k)=some (f k):=by
 unfold fM
 induction ks with
 |nil=>cases h
 |cons x ks ih =>
  rw[CB,CB,lP,GN];by_cases e:x=k
  ·subst e;simp
  ·rw[eB (λz=>e (iV z))];exact ih ((pD.mp h).resolve_left λz=>e z.symm)
def J8{ks:List L2.pB}{k:L2.pB}{f:L2.pB->D}(h:k ∉ ks):gH (ks.map .inl) (.inl k)=(ks++[k]).map .inl/\YF (ks.map .inl) (ks.map f) (.inl k) (f k)=(ks++[k]).map f:=by
 unfold gH YF;rw[qW,eB h,VC,VC];exact⟨rfl,rfl⟩
def iH:mF (uA k)=some (.inl k):=mWa
abbrev DS:=List L2.pB×List L2.pB×Sl
section
variable{no ba:Int}{kn m:Nat}{ps:List RP}{hA:D}{s0 k:L2.pB}{W n:Nat}
def lD(m:Nat)(ba:Int)(kn:Nat)(ps:List RP)(ks:List L2.pB):D:=.cB (ks.map .inl) (ks.map λk=>.l (RC m ba kn ps k))
def dE(m:Nat)(ba:Int)(kn:Nat)(ps:List RP)(hA d0:D)(a:DS):Env:=[.sh hA,.sh d0,.o (lD m ba kn ps a.1),.o (.l (a.2.1.map uA)),a.2.2]
structure DI(no ba:Int)(m kn:Nat)(ps:List RP)(s0:L2.pB)(a:DS):Prop where
 nd:a.1.Nodup
 le:a.1.length<=150
 wl:a.2.1.length<=1+7*a.1.length
 vk:∀k,k∈a.1\/k∈a.2.1->VK no ba m k/\nJ (dC kn ps) (mB m ba) s0 k
 s0:s0∈a.1\/s0∈a.2.1
 cl:∀k∈a.1,∀q∈dC kn ps k,mB m ba k q∈a.1\/mB m ba k q∈a.2.1
 ok:LA a.2.2=true
structure fE(no ba:Int)(m kn:Nat)(ps:List RP)(s0:L2.pB)(ks:List L2.pB):Prop where
 nd:ks.Nodup
 le:ks.length<=150
 vk:∀k∈ks,VK no ba m k/\nJ (dC kn ps) (mB m ba) s0 k
 s0:s0∈ks
 cl:∀k∈ks,∀q∈dC kn ps k,mB m ba k q∈ks
def mJ(m:Nat)(ba:Int)(kn:Nat)(ps:List RP)(s0:L2.pB):Prop:=∃l:List L2.pB,l.Nodup/\l.length=151/\∀k∈l,nJ (dC kn ps) (mB m ba) s0 k
theorem fE.N2(h:fE no ba m kn ps s0 ks)(hr:nJ (dC kn ps) (mB m ba) s0 k):¬mJ m ba kn ps k:=λhz=>by
 obtain⟨l,nd,hl,hk⟩:=hz
 have:=jX nd (l':=ks) λx hx=>Xk h.s0 h.cl (oUa hr (hk x hx))
 have:=h.le
 lia
theorem bf(H:HD hA no ba m kn ps)(h:VK no ba m k)(hq:q∈dC kn ps k):VK no ba m (mB m ba k q):=by
 have h1:=uQ hq;have h2:=H.hk;exact H.next ((H.line h).app (In.one ⟨h1.1,by lia⟩))
theorem Px(H:HD hA no ba m kn ps){a:DS}(hd:DI no ba m kn ps s0 a)(hw:a.2.1≠[]) :
  (∃b,DA T.aA (run T W (n+7)) W kG (dE m ba kn ps hA (uA s0) a)=some (.nx,dE m ba kn ps hA (uA s0) b)/\DI no ba m kn ps s0 b/\8*(150-b.1.length)+b.2.1.length<8*(150-a.1.length)+a.2.1.length) \/
  (DA T.aA (run T W (n+7)) W kG (dE m ba kn ps hA (uA s0) a)=none/\mJ m ba kn ps s0/\∃c,wD T.aA (run T W (n+7)) W kG (dE m ba kn ps hA (uA s0) a)=some (⟨"TooMany",none⟩,dE m ba kn ps hA (uA s0) c)):=by
 obtain⟨ks,ws,t⟩:=a;obtain⟨nd,le,wl,vk,h0,cl,ok⟩:=hd
 dsimp only at *
 rcases aq ws with rfl | ⟨w,k,rfl⟩
 ·exact absurd rfl hw
 rw[bq] at *
 have hp:((w++[k]).map uA)[((w++[k]).map uA).length-1]?=some (uA k):=by simp
 have hq:((w++[k]).map uA).dropLast=w.map uA:=by simp
 have hn:aC .NotIn (uA k) (lD m ba kn ps ks)=some !(decide (k∈ks)):=by unfold lD;rw[Ed iH,qW]
 have hk:=vk k (.inr (by simp));have mem:∀{x:L2.pB},x∈w++[k]->x∈w\/x=k:=λh=>by simpa using h
 rw[gC,AM] at wl;by_cases OF:k∈ks
 ·rw[rB OF] at hn;refine .inl ⟨(ks,w,.sh (uA k)),Ox ok hp hq hn,⟨nd,le,by dsimp only;lia,λx hx=>vk x (hx.imp id λz=>tG _ z), ?_,λx hx q hq=>?_,rfl⟩,by simp⟩
  ·rcases h0 with z | z
   ·exact .inl z
   ·rcases mem z with z | z
    ·exact .inr z
    ·exact .inl (z ▸ OF)
  ·rcases cl x hx q hq with z | z
   ·exact .inl z
   ·rcases mem z with z | z
    ·exact .inr z
    ·exact .inl (z ▸ OF)
 ·rw[eB OF] at hn;by_cases hl:ks.length=150
  ·obtain⟨h1,h2⟩:=Lx (W:=W) (n:=n+7) (hA:=hA) (d0:=uA s0) ok hp hq hn (rB (by rw[nA];lia));refine .inr ⟨h1,⟨k::ks,NR.mpr ⟨OF,nd⟩,by simp[hl],λx hx=>?_⟩,(ks,w,.sh (uA k)),h2⟩;rcases pD.mp hx with rfl | hx
   ·exact hk.2
   ·exact(vk x (.inl hx)).2
  ·obtain⟨p1,p2⟩:=J8 (f:=λk=>.l (RC m ba kn ps k)) OF;have h7:(dC kn ps k).length<=7:=vD tJ H.k7;refine .inl ⟨(ks++[k],w++(dC kn ps k).map (mB m ba k),.sh (uA k)), ?_,⟨?_,by simp;lia,by simp;lia,λx hx=>?_, ?_,λx hx q hm=>?_,rfl⟩,by simp;lia⟩
   ·have:=Nx (W:=W) (n:=n+7) (hA:=hA) (d0:=uA s0) (KS:=ks.map .inl) (DS:=ks.map λk=>.l (RC m ba kn ps k)) (TN:=(ks++[k]).map .inl) (MM:=(ks++[k]).map λk=>.l (RC m ba kn ps k)) (F:=RC m ba kn ps k) (es:=((dC kn ps k).map (mB m ba k)).map uA)
     ok hp hq hn (eB (by rw[nA];lia)) (nXa H hk.1) iH (by rw[pR (PB (by rw[nA];lia)),p1];show some (Fl.nx,[_,_,Sl.ow (.cB _ (YF _ _ _ (.l _))) _ _,_,_])=_;rw[p2]) (TQ iH (WQ (by simp))) (λx hx=>by
      obtain⟨q,_,rfl⟩:=SD.mp hx
      exact⟨_,_,rfl⟩) (by unfold RC;rw[NN,NN];rfl) (PB (by simp;lia)) (PB (by simp;lia))
    refine this.trans ?_;rw[<- VC];rfl
   ·exact oP.mpr ⟨nd,by simp,λx hx y hy z=>OF (by rw[dD] at hy;subst hy z;exact hx)⟩
   ·rcases hx with hx | hx
    ·rcases eG.mp hx with hx | hx
     ·exact vk x (.inl hx)
     ·rw[dD] at hx;subst hx;exact hk
    ·rcases eG.mp hx with hx | hx
     ·exact vk x (.inr (tG _ hx))
     ·obtain⟨q,hq,rfl⟩:=SD.mp hx;exact⟨bf H hk.1 hq,.step hk.2 hq⟩
   ·rcases h0 with z | z
    ·exact .inl (tG _ z)
    ·rcases mem z with z | z
     ·exact .inr (tG _ z)
     ·exact .inl (by simp[z])
   ·rcases eG.mp hx with hx | hx
    ·rcases cl x hx q hm with z | z
     ·exact .inl (tG _ z)
     ·rcases mem z with z | z
      ·exact .inr (tG _ z)
      ·exact .inl (by simp[z])
    ·rw[dD] at hx;subst hx;exact .inr (TH _ (SD.mpr ⟨q,hm,rfl⟩))
end
theorem qO:ev P C t .oO U=aAh t (some (.ok (.ow (.cB [] [])),U)):=rfl
section
variable{no ba:Int}{kn m:Nat}{ps:List RP}{hA:D}{s0 k:L2.pB}{W n:Nat}
def Ce:ev P C true (.qA .Gt (.bif .len [.v 3]) (.c (.int 0))) (dE m ba kn ps hA (uA s0) a)=some (.ok (.b (decide (((a.2.1.length:Nat):Int) > 0))),dE m ba kn ps hA (uA s0) a):=by
 unfold dE;have e:((a.2.1.map uA).length:Int)=(a.2.1.length:Int):=by rw[nA]
 generalize a.2.1.map uA=l at *
 walk_at "!qO"
theorem n9(H:HD hA no ba m kn ps)(h0:VK no ba m s0) :
  (∃ks,fE no ba m kn ps s0 ks/\run T (W+1300) (n+8) "i" [.sh hA,.sh (uA s0)]=some (.ok (.ow (lD m ba kn ps ks)),[.sh hA,.sh (uA s0)])) \/
  (mJ m ba kn ps s0/\run T (W+1300) (n+8) "i" [.sh hA,.sh (uA s0)]=some (.ex ⟨"TooMany",none⟩,[.sh hA,.sh (uA s0)])):=by
 have key:=eY (test:=ev T.aA (run T (W+1300) (n+7)) true (.qA .Gt (.bif .len [.v 3]) (.c (.int 0)))) (body:=DA T.aA (run T (W+1300) (n+7)) (W+1300) kG) (bx:=wD T.aA (run T (W+1300) (n+7)) (W+1300) kG)
  (dE m ba kn ps hA (uA s0)) (DI no ba m kn ps s0) (λa=>a.2.1=[]) (λa=>8*(150-a.1.length)+a.2.1.length) ⟨"TooMany",none⟩ (mJ m ba kn ps s0) (λa ha=>by
   by_cases hw:a.2.1=[]
   ·exact .inl ⟨hw,by rw[Ce,hw];rfl⟩
   ·refine .inr ⟨by rw[Ce,rB (by have:=rq.mpr hw;lia)], ?_⟩
    exact Px H ha hw) (W+1300) ([],[s0],.un) ⟨jr,by simp,by simp,λk hk=>by
     rcases hk with hk | hk
     ·cases hk
     ·rw[dD.mp hk];exact⟨h0,.start⟩,.inr (by simp),λk hk=>(by cases hk),rfl⟩ (by show 8*(150-0)+1<W+1300;lia)
 exists V4
 rcases key with ⟨⟨ks,ws,t⟩,hi,rfl,g⟩ | ⟨hm,g1,⟨ks,ws,t⟩,g2⟩
 ·refine .inl ⟨ks,⟨hi.nd,hi.le,λk hk=>hi.vk k (.inl hk),hi.s0.resolve_right (by simp),λk hk q hq=>(hi.cl k hk q hq).resolve_right (by simp)⟩, ?_⟩;replace g:RF (ev T.aA (run T (W+1300) (n+7)) true (.qA .Gt (.bif .len [.v 3]) (.c (.int 0)))) (DA T.aA (run T (W+1300) (n+7)) (W+1300) kG) (W+1300) [.sh hA,.sh (uA s0),.o (.cB [] []),.o (.l [uA s0]),.un]=some (.nx,[.sh hA,.sh (uA s0),.o (lD m ba kn ps ks),.o (.l []),t]):=g
  generalize lD m ba kn ps ks=d1 at *
  generalize uA s0=d0 at *
  walk_at "!qO"
 ·refine .inr ⟨hm, ?_⟩;replace g1:RF (ev T.aA (run T (W+1300) (n+7)) true (.qA .Gt (.bif .len [.v 3]) (.c (.int 0)))) (DA T.aA (run T (W+1300) (n+7)) (W+1300) kG) (W+1300) [.sh hA,.sh (uA s0),.o (.cB [] []),.o (.l [uA s0]),.un]=none:=g1;replace g2:nI (ev T.aA (run T (W+1300) (n+7)) true (.qA .Gt (.bif .len [.v 3]) (.c (.int 0)))) (DA T.aA (run T (W+1300) (n+7)) (W+1300) kG) (wD T.aA (run T (W+1300) (n+7)) (W+1300) kG) (W+1300) [.sh hA,.sh (uA s0),.o (.cB [] []),.o (.l [uA s0]),.un]=some (⟨"TooMany",none⟩,[.sh hA,.sh (uA s0),.o (lD m ba kn ps ks),.o (.l (ws.map uA)),t]):=g2
  generalize lD m ba kn ps ks=d1 at *
  generalize ws.map uA=l1 at *
  generalize uA s0=d0 at *
  walk_at "!qO"
end
def VD(g:Int->L2.pB)(q:Int):D:=.t [.int q,uA (g q)]
noncomputable def sC(ks:List L2.pB)(r:L2.pB->Nat):D:=.cB (ks.map .inl) (ks.map λk=>.int (r k))
def m_{l:List Int}:JF .sum [.l (l.map λq=>.int (f q))]=some (.i ((l.map f).sum:Nat)):=by
 show(OC (l.map λq=>D.int (f q))).map _=_
 have:OC (l.map λq=>D.int (f q))=some (l.map λq=>(f q:Int)):=by
  induction l with
  |nil=>rfl
  |cons q l ih=>rw[CB,CB];show(OC _).map _=_;rw[ih];rfl
 rw[this];show some (RV.sh (.int (l.map λq=>(f q:Int)).sum))=_
 congr 3
 induction l with
 |nil=>rfl
 |cons q l ih=>rw[CB,CB,jJ,jJ,ih (by
   have:=this
   rw[CB,CB] at this;replace this:(OC (l.map λq=>D.int (f q))).map (((f q:Nat):Int) :: ·)=_:=this
   cases e:OC (l.map λq=>D.int (f q)) with
   |none=>rw[e] at this;cases this
   |some z=>rw[e] at this;cases this;rfl)];rw[YU]
section
variable{no ba:Int}{kn m:Nat}{ps:List RP}{hA:D}{s0 k:L2.pB}{W n:Nat}{ks:List L2.pB}{r:L2.pB->Nat}
def W6(h:k∈ks):xD (some (sC ks r)) (uA k)=some (.i (r k)):=TQ iH (WQ (f:=λk=>.int (r k)) h)
theorem K9{g:Int->L2.pB}{l:List Int}(hl:l.length<=100)(h:∀q∈l,g q∈ks) :
  "b"|||n+1|||[.sh (.l (l.map (VD g))),.sh (sC ks r)]|||.i ((l.map λq=>r (g q)).sum:Nat):=by
 exists Y4
 have hi:∀{U:Env} {F:List D},U[0]?=some (.sh (.l F))->aAb .of [.slot 0] U=some (F,none):=λ{U F} h=>by unfold aAb;simp only[h]
 obtain⟨Ui,e,t2,rfl,YL⟩:=Q0 (P:=T.aA) (C:=run T W n) (JA:=ev T.aA (run T W n) false T1) (bind:=lB true [2]) (ds:=l.map (VD g))
  (λx=>match x with | .t [.int q,_]=>.int (r (g q)) | _=>.iA) (λU=>∃t2,U=[.sh (sC ks r),.un,t2]/\LA t2=true)
  (λx hx U hU=>by
   obtain⟨t2,rfl,h2⟩:=hU;obtain⟨q,hq,rfl⟩:=SD.mp hx;have AO:=W6 (r:=r) (h q hq);refine⟨_,.i (r (g q)),[.sh (sC ks r),.un,.sh (VD g q)],by simp only[jC,RB h2]<;>rfl, ?_,rfl,_,rfl,rfl⟩;unfold T1 VD
   generalize sC ks r=d1 at *
   generalize uA (g q)=d2 at *
   generalize (r (g q):Int)=z at *
   walk_at "!nA")
  (U:=[.sh (sC ks r),.un,.un]) ⟨_,rfl,rfl⟩
 have gI:(l.map (VD g)).map (λx=>match x with | .t [.int q,_]=>D.int (r (g q)) | _=>.iA)=l.map λq=>.int (r (g q)):=by rw[NN];rfl
 rw[gI] at e;have t2a:=m_ (l:=l) (f:=λq=>r (g q));have PD:jB (l.map λq=>D.int (r (g q))).length=true:=PB (by rw[nA];omega)
 generalize (l.map λq=>D.int (r (g q)))=F at *
 generalize l.map (VD g)=F0 at *
 generalize (((l.map λq=>r (g q)).sum:Nat):Int)=z at *
 generalize sC ks r=d1 at *
 walk_at "!nA"
 rw[nG (hi rfl)]
 walk_at "!nA"
end
def RO{j:Nat}(h:l[j]?=some d):xD (some (.l l)) (.int j)=some (.sh d):=by rw[lh,L2.wL h];rfl
section
variable{no ba:Int}{kn m:Nat}{ps:List RP}{hA:D}{s0 k:L2.pB}{W n:Nat}{ks:List L2.pB}{r:L2.pB->Nat}
theorem aA3{body:Env->Run}{s0 s1 s4 s5 t:Sl}(nd:ks.Nodup)(ht:LA t=true)
  (hb:∀k∈ks,∀yD:List L2.pB,yD.length<=ks.length->body [s0,s1,.o (sC yD r),.sh (uA k),s4,s5]=some (.nx,[s0,s1,.o (.cB (gH (yD.map .inl) (.inl k)) (YF (yD.map .inl) (yD.map λk=>.int (r k)) (.inl k) (.int (r k)))),.sh (uA k),s4,s5])) :
  ∃t3,uD (lB true [3]) body (ks.map uA) [s0,s1,.o (.cB [] []),t,s4,s5]=some (.nx,[s0,s1,.o (sC ks r),t3,s4,s5])/\LA t3=true:=by
 obtain⟨U',e,t3,rfl,h3⟩:=FG (bind:=lB true [3]) (body:=body) (λpre U=>∃t3,U=[s0,s1,.o (sC (ks.take pre.length) r),t3,s4,s5]/\LA t3=true) (ds:=ks.map uA)
  (λpre d post LB U hU=>by
   obtain⟨t3,rfl,h3⟩:=hU;have hj:pre.length<ks.length:=by have:=congrArg PH LB;simp at this;lia
   have hd:d=uA ks[pre.length]:=by
    have:=congrArg (·[pre.length]?) LB
    simp[hj] at this;exact this.symm
   subst hd
   have CW:ks[pre.length] ∉ ks.take pre.length:=λz=>by(rw[<- Zp pre.length ks,oP,KU hj] at nd;exact nd.2.2 _ z _ wG rfl)
   obtain⟨p1,p2⟩:=J8 (f:=λk=>.int (r k)) CW;refine⟨_,by simp only[jC,RB h3]<;>rfl,[s0,s1,.o (sC (ks.take (pre.length+1)) r),.sh (uA ks[pre.length]),s4,s5], ?_,_,by rw[gC];rfl,rfl⟩;refine(hb _ (LR hj) _ (by rw[bK];lia)).trans ?_;rw[p1,p2,VU,XC hj]
   rfl)
  (U:=[s0,s1,.o (.cB [] []),t,s4,s5]) ⟨t,rfl,ht⟩
 exact⟨t3,by rw[e,nA,KR],h3⟩
abbrev aAc(m:Nat)(ba:Int)(kn:Nat)(ps:List RP):Nat->L2.pB->Nat:=cnt (dC kn ps) (mB m ba)
def BE(m:Nat)(ba:Int)(kn:Nat)(ps:List RP)(ks:List L2.pB)(N:Nat):List D:=(UB N).map λj=>sC ks (aAc m ba kn ps j)
def tU(h:j<N):(BE m ba kn ps ks N)[j]?=some (sC ks (aAc m ba kn ps j)):=by unfold BE;rw[MD,CM h];rfl
theorem R8(hc:fE no ba m kn ps s0 ks)(h7:kn<=7){N:Nat}(hN:N<=40) :
  "k"|||n+2|||[.sh (lD m ba kn ps ks),.i N]|||.ow (.l (BE m ba kn ps ks (N+1))):=by
 have hi:∀{U:Env},aAb .key [.val (.sh (lD m ba kn ps ks))] U=some (ks.map uA,none):=λ{U}=>by unfold lD;rw[dEa,NN];rfl
 have K':=hc.le
 -- FE first row
 obtain⟨t3,e1,o3⟩:=aA3 (r:=aAc m ba kn ps 0) (body:=DA T.aA (run T W (n+1)) W TZ) (s0:=.sh (lD m ba kn ps ks)) (s1:=.i N) (s4:=.un) (s5:=.un) (t:=.un) hc.nd rfl (λk hk yD hl=>by
  have JW:∀{U:Env},sN 2 U (some (.o (sC yD (aAc m ba kn ps 0)))) (some (.inl k)) (.i 1)=some (.nx,U.set 2 (.o (.cB (gH (yD.map .inl) (.inl k)) (YF (yD.map .inl) (yD.map λk=>.int (aAc m ba kn ps 0 k)) (.inl k) (.int 1))))):=λ{U}=>pR (PB (by rw[nA];lia))
  have Bg:=iH (k:=k);have LB:CT (some (.o (sC yD (aAc m ba kn ps 0))))=true:=rfl;have Vf:yT (some (.o (sC yD (aAc m ba kn ps 0))))=false:=rfl;have how:PQ (some (.o (sC yD (aAc m ba kn ps 0))))=false:=rfl;show _=some (Fl.nx,[_,_,Sl.o (.cB _ (YF _ _ _ (.int 1))),_,_,_])
  generalize gH (yD.map .inl) (.inl k)=K1 at *
  generalize YF (yD.map .inl) (yD.map λk=>.int (aAc m ba kn ps 0 k)) (.inl k) (D.int 1)=K2 at *
  generalize uA k=dk at *
  generalize sC yD (aAc m ba kn ps 0)=d1 at *
  unfold TZ
  walk_at "!qO")
 obtain⟨U',e2,row,u3,u5,rfl,p3,p5⟩:=FG (bind:=lB true [5]) (body:=DA T.aA (run T W (n+1)) W VZ)
  (λpre U=>∃row u3 u5,U=[.sh (lD m ba kn ps ks),.i N,.sh row,u3,.o (.l (BE m ba kn ps ks (pre.length+1))),u5]/\LA u3=true/\LA u5=true)
  (ds:=rg N) (λpre d post LB U hU=>by
   obtain⟨row,u3,u5,rfl,p3,p5⟩:=hU;obtain⟨rfl,hj⟩:=EX LB
   obtain⟨v3,e3,q3⟩:=aA3 (ks:=ks) (r:=aAc m ba kn ps (pre.length+1)) (body:=DA T.aA (run T W (n+1)) W UZ) (s0:=.sh (lD m ba kn ps ks)) (s1:=.i N) (s4:=.o (.l (BE m ba kn ps ks (pre.length+1)))) (s5:=.i pre.length) (t:=u3) hc.nd p3 (λk hk yD hl=>by
    have DG:xD (some (lD m ba kn ps ks)) (uA k)=some (.sh (.l (RC m ba kn ps k))):=TQ iH (WQ (f:=λk=>.l (RC m ba kn ps k)) hk);have zg:=RO (tU (m:=m) (ba:=ba) (kn:=kn) (ps:=ps) (ks:=ks) (N:=pre.length+1) (j:=pre.length) (by lia))
    have MQ:"b"|||n+1|||[.sh (.l (RC m ba kn ps k)),.sh (sC ks (aAc m ba kn ps pre.length))]|||.i (aAc m ba kn ps (pre.length+1) k:Nat) :=
     K9 (g:=mB m ba k) (l:=dC kn ps k) (vD tJ (by lia)) (λq hq=>hc.cl k hk q hq)
    have JW:∀{U:Env},sN 2 U (some (.o (sC yD (aAc m ba kn ps (pre.length+1))))) (some (.inl k)) (.i (aAc m ba kn ps (pre.length+1) k:Nat))=some (.nx,U.set 2 (.o (.cB (gH (yD.map .inl) (.inl k)) (YF (yD.map .inl) (yD.map λk=>.int (aAc m ba kn ps (pre.length+1) k)) (.inl k) (.int (aAc m ba kn ps (pre.length+1) k:Nat)))))):=λ{U}=>pR (PB (by rw[nA];lia))
    have Bg:=iH (k:=k);have LB:CT (some (.o (sC yD (aAc m ba kn ps (pre.length+1)))))=true:=rfl;have Vf:yT (some (.o (sC yD (aAc m ba kn ps (pre.length+1)))))=false:=rfl;have how:PQ (some (.o (sC yD (aAc m ba kn ps (pre.length+1)))))=false:=rfl
    generalize gH (yD.map .inl) (.inl k)=K1 at *
    generalize YF (yD.map .inl) (yD.map λk=>D.int (aAc m ba kn ps (pre.length+1) k)) (.inl k) (D.int (aAc m ba kn ps (pre.length+1) k:Nat))=K2 at *
    generalize uA k=dk at *
    generalize sC yD (aAc m ba kn ps (pre.length+1))=d1 at *
    generalize (aAc m ba kn ps (pre.length+1) k:Int)=cv at *
    generalize sC ks (aAc m ba kn ps pre.length)=d2 at *
    generalize BE m ba kn ps ks (pre.length+1)=R1 at *
    generalize lD m ba kn ps ks=dS at *
    generalize D.l (RC m ba kn ps k)=dF at *
    unfold UZ
    walk_at "!qO")
   refine⟨_,by simp only[jC,RB p5]<;>rfl,[.sh (lD m ba kn ps ks),.i N,.sh (sC ks (aAc m ba kn ps (pre.length+1))),v3,.o (.l (BE m ba kn ps ks (pre.length+1)++[sC ks (aAc m ba kn ps (pre.length+1))])),.i pre.length], ?_,sC ks (aAc m ba kn ps (pre.length+1)),v3,.i pre.length, ?_,q3,rfl⟩
   ·have PD:jB ((BE m ba kn ps ks (pre.length+1)).length+1)=true:=PB (by unfold BE;simp;lia)
    generalize sC ks (aAc m ba kn ps (pre.length+1))=d2 at *
    generalize BE m ba kn ps ks (pre.length+1)=R1 at *
    generalize lD m ba kn ps ks=dS at *
    generalize ks.map uA=L1 at *
    unfold VZ
    walk_at "!qO"
   ·rw[gC,AM];unfold BE;rw[vP (n:=pre.length+1),VC]
    rfl)
  (U:=[.sh (lD m ba kn ps ks),.i N,.sh (sC ks (aAc m ba kn ps 0)),t3,.o (.l [sC ks (aAc m ba kn ps 0)]),.un]) ⟨_,_,_,rfl,o3,rfl⟩
 rw[nA,lL] at e2;have hr:aAb .MB [.slot 1] [.sh (lD m ba kn ps ks),.i N,.sh (sC ks (aAc m ba kn ps 0)),t3,.o (.l [sC ks (aAc m ba kn ps 0)]),.un]=some (rg N,none):=aM (U:=[]) (by lia)
 exists O4
 generalize BE m ba kn ps ks (N+1)=R1 at *
 generalize sC ks (aAc m ba kn ps 0)=d2 at *
 generalize lD m ba kn ps ks=dS at *
 generalize ks.map uA=L1 at *
 generalize (rg N)=L2 at *
 walk_at "!qO"
end
section
variable{ps:List RP}
def cM(ps:List RP)(xs:List Int):Bool:=(UB xs.length).all λb=>decide (((xE ps xs b:Nat):Int)=0)
theorem oIa(hp:∀p∈ps,Pre p.2.2):cM ps (xs++zs)=(cM ps xs&&(UB zs.length).all λj=>IB ps (xs++zs.take j) (gx zs j)):=by
 have hN:∀(us vs:List Int) (b:Nat),b<us.length->xE ps (us++vs) b=xE ps us b:=λus vs b hb=>by(unfold xE;congr 1;exact OU λp hm=>by rw[hp p hm us vs b hb])
 unfold cM;rw[gC,List.range_add,Yq,Rb];congr 1
 ·rw[CY,iF,iF];refine forall_congr' λb=>forall_congr' λhb=>?_
  rw[hN xs zs b (EI.mp hb)]
 ·rw[CY,iF,iF];refine forall_congr' λj=>forall_congr' λhj=>?_
  have hj:=EI.mp hj
  have e1:zs=(zs.take j++[gx zs j])++zs.drop (j+1):=by(unfold gx;rw[sH,XC hj,Rq,UH];simp)
  show decide (((xE ps (xs++zs) (xs.length+j):Nat):Int)=0)=true↔_
  have e2:xE ps (xs++zs) (xs.length+j)=xE ps (xs++zs.take j++[gx zs j]) (xs++zs.take j).length:=by
   have e3:(xs++zs.take j).length=xs.length+j:=by rw[gC,bK];lia
   have e4:xs++zs=(xs++zs.take j++[gx zs j])++zs.drop (j+1):=by
    conv=>lhs;rw[e1]
    simp only[UH]
   rw[e3,e4,hN _ _ _ (by simp;lia)]
  rw[e2];rfl
end
section
variable{no ba:Int}{kn m:Nat}{ps:List RP}{hA:D}{W n:Nat}
abbrev AB(xs:List Int):Sl:=.p (.l (xs.map D.int))
theorem r_(H:HD hA no ba m kn ps)(hx:In no xs)(lx:xs.length<=1000)(hb:cM ps xs=true) :
  "M"|||n+6|||[.sh hA,AB xs]|||.sh .iA:=by
 obtain⟨oc,fs,rs,rfl,H⟩:=H;have JD:=H.JD;have QI:ps.length<=8:=by have:=H.hl;rw[<- JD,nA] at this;exact this
 exists B4
 have h1:=Al (W:=W) (n:=n+3) JD H.hp H.hl;have hi:aAb .MB [.val (.i xs.length)] [.sh (vA no ba oc fs rs),AB xs,.o (.l (ps.map (·.2.1))),.un,.un]=some (rg xs.length,none):=aM lx
 obtain⟨U',e,t3,t4,rfl,_,_⟩:=T7 (bind:=lB true [3]) (body:=DA T.aA (run T W (n+5)) W RZ)
  (λU=>∃t3 t4,U=[.sh (vA no ba oc fs rs),AB xs,.o (.l (ps.map (·.2.1))),t3,t4]/\LA t3=true/\LA t4=true)
  (ds:=rg xs.length) (λd hd U hU=>by
   obtain⟨t3,t4,rfl,h3,h4⟩:=hU;obtain⟨b,WE,rfl⟩:=SD.mp hd;have VS:=EI.mp WE;refine⟨_,by simp only[jC,RB h3]<;>rfl, ?_⟩;obtain⟨L,hbk,qB⟩:=qd (W:=W) (n:=n) H.hp QI VS hx
   have h0:L.length=0:=by
    have:=iF.mp hb b WE
    have:=UU this
    lia
   obtain rfl:=mY.mp h0;refine⟨[.sh (vA no ba oc fs rs),AB xs,.o (.l (ps.map (·.2.1))),.i b,.o (.l [])], ?_,_,_,rfl,rfl,rfl⟩;unfold RZ;have c:decide ((0:Int)<((0:Nat):Int))=false:=rfl;clear hi h1 H QI hx hd VS h3 JD lx hb WE qB h0
   walk_at "!nA")
  (U:=[.sh (vA no ba oc fs rs),AB xs,.o (.l (ps.map (·.2.1))),.un,.un]) ⟨_,_,rfl,rfl,rfl⟩
 walk_at "!nA"
def K0(H:HD hA no ba m kn ps)(hx:In no xs)(lx:xs.length<=1000)(hb:cM ps xs=true) :
  "n"|||n+7|||[.sh hA,AB xs]|||.sh .iA:=by
 have h1:=r_ (W:=W) (n:=n) H hx lx hb
 exists l4
 walk_at "!nA"
def k9(H:HD hA no ba m kn ps):"h"|||n+4|||[.sh hA,AB xs]|||.sh (uA (OA m ba xs)):=by
 obtain⟨oc,fs,rs,rfl,H⟩:=H;exact mm H.ho H.hm H.h3
theorem rIa(H:HD hA no ba m kn ps):uV m ba xs (eM (OA m ba xs)):=by
 obtain⟨oc,fs,rs,rfl,H⟩:=H;obtain⟨z,hz,h1,h2⟩:=qIa H.ho.b1 H.ho.b2;have e:qE z (EE m xs)=MG m ba xs:=h1.symm;unfold qE MG at e;simp only[D.t.injEq,sP,D.int.injEq,and_true] at e;unfold eM OA;dsimp only;rw[<- e,show((z:Int)+((EE m xs).length:Int)-((EE m xs).length:Int)).toNat=z by lia];exact h2
def i5(H:HD hA no ba m kn ps):dC kn ps (OA m ba xs)=OB kn (IB ps xs)/\∀q,mB m ba (OA m ba xs) q=OA m ba (xs++[q]):=by
 have hl:=rIa (xs:=xs) H;obtain⟨oc,fs,rs,rfl,H⟩:=H;refine⟨?_,λq=>?_⟩
 ·unfold dC OB;rw[Va λj _=>(aNa hl λp hp=>(H.hp p hp).dep).symm]
 ·have:=lXa (q:=q) hl
  rw[d9,d9] at this;unfold mB;unfold uA at this;simp only[D.t.injEq,sP,D.int.injEq,and_true] at this;refine qc this.1.symm ?_;have e:=this.2.symm;exact(Cq (λa b h=>D.int.inj h)).mp e
end
theorem OT:NT as (some (.ex x,U)) o=(match o with | some (x,U)=>some (.ex x,back as U) | none=>none):=rfl
section
variable{no ba:Int}{kn m:Nat}{ps:List RP}{hA:D}{W n:Nat}{xs:List Int}{N:Nat}
theorem Wi(hN:N<=40):"z"|||n+3|||[.i N]|||.sh .iA:=by
 have h1:=Mo (W:=W) (n:=n) (i:=(N:Int)) (a:=0) (b:=40) (by lia) (by lia)
 exists n4
 generalize (N:Int)=z at *
 walk_at "!OT"
structure Ln(no:Int)(ps:List RP)(xs:List Int):Prop where
 hx:In no xs
 lx:xs.length<=1000
 hb:cM ps xs=true
theorem me(H:HD hA no ba m kn ps)(l:Ln no ps xs)(hN:N<=40) :
  (∃ks,fE no ba m kn ps (OA m ba xs) ks/\run T (W+1300) (n+9) "p" [.sh hA,AB xs,.i N]=some (.ok (.i (aAc m ba kn ps N (OA m ba xs):Nat)),[.sh hA,AB xs,.i N])) \/
  (mJ m ba kn ps (OA m ba xs)/\run T (W+1300) (n+9) "p" [.sh hA,AB xs,.i N]=some (.ex ⟨"TooMany",none⟩,[.sh hA,AB xs,.i N])):=by
 have h1:=K0 (W:=W+1300) (n:=n+1) H l.hx l.lx l.hb;have h2:=Wi (W:=W+1300) (n:=n+5) hN;have h3:=k9 (W:=W+1300) (n:=n+4) (xs:=xs) H
 exists A4
 rcases n9 (W:=W) (n:=n) H (H.next l.hx) with ⟨ks,hc,h4⟩ | ⟨hm,h4⟩
 ·refine .inl ⟨ks,hc, ?_⟩;have h5:=R8 (W:=W+1300) (n:=n+6) hc H.k7 hN;have h6:=RO (tU (m:=m) (ba:=ba) (kn:=kn) (ps:=ps) (ks:=ks) (N:=N+1) (j:=N) (by lia));have h7:=W6 (r:=aAc m ba kn ps N) hc.s0
  generalize sC ks (aAc m ba kn ps N)=d1 at *
  generalize BE m ba kn ps ks (N+1)=R1 at *
  generalize lD m ba kn ps ks=dS at *
  generalize (aAc m ba kn ps N (OA m ba xs):Int)=cv at *
  generalize uA (OA m ba xs)=dk at *
  generalize (N:Int)=z at *
  generalize xs.map D.int=X1 at *
  clear H l hc hN
  walk_at "!OT"
 ·refine .inr ⟨hm, ?_⟩
  generalize uA (OA m ba xs)=dk at *
  generalize (N:Int)=z at *
  generalize xs.map D.int=X1 at *
  clear H l hm hN
  walk_at "!OT"
end
def qR{L:List D}{c:Nat}:tI (some (.l L)) none (some (.int c))=some (.ow (.l (L.take c))):=by
 show some (RV.ow (.l (aAv L none (some (c:Int)))))=_;unfold aAv;rw[HT.oR,HT.wU,bV,Ob];by_cases h:c<=L.length
 ·rw[xP h]
 ·rw[ib (by lia),eJ (zB _),eJ (by lia)]
def qWa{L:List D}{c:Nat}:tI (some (.l L)) (some (.int c)) none=some (.ow (.l (L.drop c))):=by
 show some (RV.ow (.l (aAv L (some (c:Int)) none)))=_;unfold aAv;rw[HT.oR,HT.wU];by_cases h:c<=L.length
 ·rw[xP h,eJ (by rw[cK];lia)]
 ·rw[ib (by lia),hV,FY,List.drop_of_length_le (by lia)]
theorem Hl:∀{l:List Int} {x:Nat} {q:Int} {y:Nat},NJ w l x=some (q,y)->∃p,l[p]?=some q/\((l.take p).map w).sum+y=x/\y<w q
 |[],_,_,_,h=>nomatch h
 |p::l,x,q,y,h=>by
  unfold NJ at h;split at h
  ·cases h;exact⟨0,rfl,by simp,‹_›⟩
  ·obtain⟨i,h1,h2,h3⟩:=Hl h;exact⟨i+1,h1,by rw[sY,CB,jJ];lia,h3⟩
def mRa{w:Int->Nat}{l:List Int}(h:i<=j):((l.take i).map w).sum<=((l.take j).map w).sum:=by
 rw[show l.take i=(l.take j).take i by rw[List.take_take,xP h]];generalize l.take j=z
 induction z generalizing i with
 |nil=>simp
 |cons a z ih =>
  cases i with
  |zero=>simp
  |succ i=>rw[sY,CB,CB,jJ,jJ];have:=ih (i:=i);lia
section
variable{no ba:Int}{kn m:Nat}{ps:List RP}{hA:D}{W n:Nat}{xs:List Int}{N:Nat}
theorem lLa{S:Nat->Int}(ht:LA t=true)(DG:xD (some dS) dk=some (.sh (.l F)))(zg:xD (some (.l R)) (.int j)=some (.sh dr))
  (MQ:∀i,run T (W+1300) n "b" [.sh (.l (F.take i)),.sh dr]=some (.ok (.i (S i)),[.sh (.l (F.take i)),.sh dr])) (sD:∀i,i<p->S (i+1)<=y) (wW:¬S (p+1)<=y) (hp:p<=1000) (zO:F[p]?=some (.t [.int q,dn])) (hy:y+-S p=y') (hz:jB (Z.length+1)=true) :
  DA T.aA (run T (W+1300) n) (W+1300) HV [s0,s1,s2,s3,.sh dk,.sh dS,.o (.l R),.o (.l Z),.i y,.i j,t]=some (.nx,[s0,s1,s2,s3,.sh dn,.sh dS,.o (.l R),.o (.l (Z++[.int q])),.i y',.i j,.i p]):=by
 have key:=eY (test:=ev T.aA (run T (W+1300) n) true (.qA .LtE (.call "b" [(.sl (.ix (.v 5) (.v 4)) .TF (.lA .Add (.v 10) (.c (.int 1)))),(.ix (.v 6) (.v 9))]) (.v 8))) (body:=DA T.aA (run T (W+1300) n) (W+1300) FV) (bx:=λ_=>none)
  (λi:Nat=>[s0,s1,s2,s3,.sh dk,.sh dS,.o (.l R),.o (.l Z),.i y,.i j,.i i]) (λi=>i<=p) (λi=>i=p) (λi=>p-i) ⟨"",none⟩ False (λi hi=>by
   have h1:=MQ (i+1);have h2:∀{U:Env},tI (some (.l F)) none (some (.int ((i:Int)+1)))=some (.ow (.l (F.take (i+1)))):=λ{U}=>qR (c:=i+1)
   have yo:ev T.aA (run T (W+1300) n) true (.qA .LtE (.call "b" [(.sl (.ix (.v 5) (.v 4)) .TF (.lA .Add (.v 10) (.c (.int 1)))),(.ix (.v 6) (.v 9))]) (.v 8)) [s0,s1,s2,s3,.sh dk,.sh dS,.o (.l R),.o (.l Z),.i y,.i j,.i i]=some (.ok (.b (decide (S (i+1)<=y))),[s0,s1,s2,s3,.sh dk,.sh dS,.o (.l R),.o (.l Z),.i y,.i j,.i i]):=by
    have h2:=h2 (U:=[])
    generalize F.take (i+1)=F1 at *
    generalize (i:Int)=iz at *
    generalize (j:Int)=jz at *
    generalize S (i+1)=sv at *
    walk_at "!qR"
   rcases Nat.lt_or_ge i p with h | h
   ·refine .inr ⟨by rw[yo,rB (sD i h)],.inl ⟨i+1, ?_,h,by lia⟩⟩;show _=some (Fl.nx,[s0,s1,s2,s3,.sh dk,.sh dS,.o (.l R),.o (.l Z),.i y,.i j,.i ((i:Int)+1)])
    generalize (i:Int)=iz at *
    unfold FV
    walk_at "!qR"
   ·obtain rfl:i=p:=by lia
    exact .inl ⟨rfl,by rw[yo,eB wW]⟩) (W+1300) 0 (UJ _) (by lia)
 obtain⟨b,_,hb,g⟩ | ⟨z,_⟩:=key
 ·rw[hb] at g;have h1:=MQ p;have h2:tI (some (.l F)) none (some (.int p))=some (.ow (.l (F.take p))):=qR;have h3:=RO zO;replace g:RF (ev T.aA (run T (W+1300) n) true (.qA .LtE (.call "b" [(.sl (.ix (.v 5) (.v 4)) .TF (.lA .Add (.v 10) (.c (.int 1)))),(.ix (.v 6) (.v 9))]) (.v 8))) (DA T.aA (run T (W+1300) n) (W+1300) FV) (W+1300) [s0,s1,s2,s3,.sh dk,.sh dS,.o (.l R),.o (.l Z),.i y,.i j,.i 0]=some (.nx,[s0,s1,s2,s3,.sh dk,.sh dS,.o (.l R),.o (.l Z),.i y,.i j,.i p]):=g
  generalize F.take p=F1 at *
  generalize (p:Int)=pz at *
  generalize (j:Int)=jz at *
  generalize S p=sv at *
  unfold HV
  walk_at "!qR"
 ·exact z.elim
end
def sU(h:(UB N).map f=pre++d::post):d=f pre.length/\pre.length<N:=by
 have hl:pre.length<N:=by have:=congrArg PH h;simp at this;lia
 have:=congrArg (·[pre.length]?) h
 simp[hl] at this;exact⟨this.symm,hl⟩
def y_:(OB k ok).Pairwise (·<·):=by
 unfold OB;rw[List.pairwise_map];exact(List.Pairwise.filter _ List.pairwise_lt_range).imp λh=>by lia
section
variable{no ba:Int}{kn m:Nat}{ps:List RP}{hA:D}{W n:Nat}{xs:List Int}{N:Nat}
abbrev pI(m:Nat)(ba:Int)(kn:Nat)(ps:List RP):Nat->L2.pB->Nat->List Int:=OK (dC kn ps) (mB m ba)
def hW:(dC kn ps s).Pairwise (·<·):=y_
theorem xj(H:HD hA no ba m kn ps)(l:Ln no ps xs)(hm:¬mJ m ba kn ps (OA m ba xs))(hN:N<=40){x:Nat}(hx:x<aAc m ba kn ps N (OA m ba xs)) :
  run T (W+1300) (n+9) "A" [.sh hA,AB xs,.i N,.i x]=some (.ok (.ow (.l ((pI m ba kn ps N (OA m ba xs) x).map D.int))),[.sh hA,AB xs,.i N,.i x]):=by
 rcases n9 (W:=W) (n:=n) H (H.next l.hx) with ⟨ks,hc,h4⟩ | ⟨h,_⟩
 case inr=>exact absurd h hm
 have k7:=H.k7
 obtain⟨U',e,s',y,Z,t9,DU,rfl,o9,b8,hs,hy,hZ,hl⟩:=FG (bind:=lB true [9]) (body:=DA T.aA (run T (W+1300) (n+8)) (W+1300) HV)
  (λpre U=>∃(s':L2.pB) (y:Nat) (Z:List Int) (t9 DU:Sl),U=[.sh hA,AB xs,.i N,.i x,.sh (uA s'),.sh (lD m ba kn ps ks),.o (.l (BE m ba kn ps ks (N+1))),.o (.l (Z.map D.int)),.i y,t9,DU]/\LA t9=true/\LA DU=true/\s'∈ks/\y<aAc m ba kn ps (N-pre.length) s'/\pI m ba kn ps N (OA m ba xs) x=Z++pI m ba kn ps (N-pre.length) s' y/\Z.length=pre.length)
  (ds:=(UB N).map λ(j:Nat)=>.int ((N:Int)-1-(j:Int))) (λpre d post LB U hU=>by
   obtain⟨s',y,Z,t9,DU,rfl,o9,b8,hs,hy,hZ,hl⟩:=hU;obtain⟨rfl,hi⟩:=sU LB;obtain⟨j,hj⟩:∃j,N-pre.length=j+1:=⟨N-pre.length-1,by lia⟩
   rw[hj] at hy hZ;rw[show(N:Int)-1-(pre.length:Int)=(j:Int) by lia];obtain⟨q,y',g1,g2,g3,g4⟩:=xU (w:=λq=>aAc m ba kn ps j (mB m ba s' q)) (hW (kn:=kn) (s:=s')) hy;obtain⟨p,p1,p2,p3⟩:=Hl g1;have PF:p<(dC kn ps s').length:=(eE.mp p1).1;have h7:(dC kn ps s').length<=7:=vD tJ k7
   have turn:=lLa (n:=n+8) (s0:=.sh hA) (s1:=AB xs) (s2:=.i N) (s3:=.i x) (t:=DU) (dk:=uA s') (dS:=lD m ba kn ps ks) (dr:=sC ks (aAc m ba kn ps j)) (dn:=uA (mB m ba s' q)) (F:=RC m ba kn ps s') (R:=BE m ba kn ps ks (N+1)) (Z:=Z.map D.int) (y:=(y:Int)) (y':=(y':Int))
    (S:=λi=>((((dC kn ps s').take i).map λq=>aAc m ba kn ps j (mB m ba s' q)).sum:Nat)) b8 (TQ iH (WQ (f:=λk=>.l (RC m ba kn ps k)) hs)) (RO (tU (by lia)))
    (λi=>by
     have:=K9 (W:=W+1300) (n:=n+7) (r:=aAc m ba kn ps j) (g:=mB m ba s') (l:=(dC kn ps s').take i) (by rw[bK];lia) (λq hq=>hc.cl s' hs q (Ha hq))
     rw[IY] at this
     exact this)
    (λi hi=>by
     have:=mRa (w:=λq=>aAc m ba kn ps j (mB m ba s' q)) (l:=dC kn ps s') (i:=i+1) (j:=p) hi
     lia)
    (by
     rw[VU,p1,VC,Zq];simp only[Option.toList_some,CB,sM,jJ,List.sum_nil]
     lia) (by lia) (by unfold RC;rw[MD,p1];rfl) (by lia) (PB (by rw[nA];lia))
   refine⟨_,by simp only[jC,RB o9]<;>rfl,_,turn,mB m ba s' q,y',Z++[q],.i j,.i p,by rw[VC];rfl,rfl,rfl,hc.cl s' hs q g2, ?_, ?_,by rw[gC,gC,hl];rfl⟩
   ·rw[gC,AM,show N-(pre.length+1)=j by lia];exact g3
   ·rw[gC,AM,show N-(pre.length+1)=j by lia,hZ,UH];congr 1;unfold pI;rw[OK];rw[g1]
    rfl)
  (U:=[.sh hA,AB xs,.i N,.i x,.sh (uA (OA m ba xs)),.sh (lD m ba kn ps ks),.o (.l (BE m ba kn ps ks (N+1))),.o (.l []),.i x,.un,.un]) ⟨OA m ba xs,x,[],.un,.un,rfl,rfl,rfl,hc.s0,hx,rfl,rfl⟩
 rw[nA,lL,hV] at hZ;rw[show pI m ba kn ps 0 s' y=[] from rfl,kE] at hZ;rw[hZ];have h1:=K0 (W:=W+1300) (n:=n+1) H l.hx l.lx l.hb;have h2:=Wi (W:=W+1300) (n:=n+5) hN;have h3:=k9 (W:=W+1300) (n:=n+4) (xs:=xs) H;have h5:=R8 (W:=W+1300) (n:=n+6) hc k7 hN;have h6:=RO (tU (m:=m) (ba:=ba) (kn:=kn) (ps:=ps) (ks:=ks) (N:=N+1) (j:=N) (by lia));have h7:=W6 (r:=aAc m ba kn ps N) hc.s0;have h8:=Mo (W:=W+1300) (n:=n+6) (i:=(x:Int)) (a:=0) (b:=(aAc m ba kn ps N (OA m ba xs):Int)-1) (by lia) (by lia)
 have hi:∀{U:Env},aAb .nU [.val (.i ((N:Int)-1)),.val (.i (-1)),.val (.i (-1))] U=some ((UB N).map λ(j:Nat)=>.int ((N:Int)-1-(j:Int)),none):=λ{U}=>by(unfold aAb;simp only[Hd.get,RV.d];rw[QA ⟨by lia,by lia,trivial⟩,show((N:Int)-1 - -1).toNat=N by lia])
 exists L4
 generalize ((UB N).map λ(j:Nat)=>D.int ((N:Int)-1-(j:Int)))=L1 at *
 generalize sC ks (aAc m ba kn ps N)=d1 at *
 generalize BE m ba kn ps ks (N+1)=R1 at *
 generalize lD m ba kn ps ks=dS at *
 generalize (aAc m ba kn ps N (OA m ba xs):Int)=cv at *
 generalize uA (OA m ba xs)=dk at *
 generalize (N:Int)=z at *
 generalize (x:Int)=xz at *
 generalize xs.map D.int=X1 at *
 generalize Z.map D.int=Z1 at *
 clear H l hc hN hx hy hZ hl hm o9 b8 hs k7
 walk_at "!OT"
end
def O0{bind:D->Env->Option Env}(keep:D->Bool)(val:D->D)(J:Env->Prop)
  (step:∀d∈ds,∀U,J U->∃U1 U2,bind d U=some U1/\tests U1=some (.ok (.b (keep d)),U2)/\(keep d=true->∃v U3,JA U2=some (.ok v,U3)/\v.d=val d/\J U3)/\(keep d=false->J U2)) (h:J U) :
  ∃U',OE tests JA bind ds [] U=some (.ok ((ds.filter keep).map val),U')/\J U':=by
 obtain⟨BA,U',e,⟨rfl,hJ⟩,_⟩:=YM (λj BA U=>BA=((ds.take j).filter keep).map val/\J U)
  (λj d hd BA U hz=>by
   obtain⟨ha,hJ⟩:=hz;obtain⟨U1,U2,h1,h2,h3,h4⟩:=step d (fJ hd) U hJ;refine⟨U1,keep d,U2,h1,h2,λhk=>?_,λhk=>⟨?_,h4 hk⟩⟩
   ·obtain⟨v,U3,h5,h6,h7⟩:=h3 hk;refine⟨v,U3,h5, ?_,h7⟩;rw[ha,h6,VU,hd];simp[EN,hk]
   ·rw[ha,VU,hd]
    simp[EN,hk]) [] U ⟨by simp,h⟩
 refine⟨U', ?_,hJ⟩;rw[e,KR]
def my(h:SE lo xs=pre++d::post):pre.length<xs.length/\d=.t [.int (lo+(pre.length:Int)),xs.getD pre.length .iA]:=⟨(sU h).2,(sU h).1⟩
def bEa(h:U[i]?=some (.sh (.l ds))):aAb (.enum lo) [.slot i] U=some (SE lo ds,none):=by(unfold aAb;simp only[h])
section
variable{no ba:Int}{kn m:Nat}{ps:List RP}{hA:D}{W n:Nat}{xs:List Int}{N:Nat}
abbrev MJ(m:Nat)(ba:Int)(kn:Nat)(ps:List RP):L2.pB->List Int->Nat:=dU (dC kn ps) (mB m ba)
def Ve{l:List Int}:((l.map (VD g)).filter λx=>match x with | .t [.int p,_]=>ok p | _=>false).map id=(l.filter ok).map (VD g):=by
 rw[List.map_id,BY];rfl
theorem x_{l:List Int}(hs:l.Pairwise (·<·))(h:q∈l):(l.filter λp=>decide (p=q))=[q]:=by
 induction l with
 |nil=>cases h
 |cons a l ih =>
  rw[Pa] at hs;rw[zY];rcases pD.mp h with rfl | h
  ·rw[QA (rB rfl),Aa.mpr λr hr=>by have:=hs.1 r hr;simp;lia]
  ·rw[UA (by have:=hs.1 q h;simp;lia)];exact ih hs.2 h
def v_{F:List D}{l:List Int}(hF:F=l.map (VD g)) :
  ∃Ui,OE (aD T.aA (run T W n) [(.qA .Eq (.ix (.v 2) (.c (.int 0))) (.v 0))]) (ev T.aA (run T W n) false vS) (lB true [2]) F [] [.i q,.un,.un]=some (.ok ((l.filter λp=>decide (p=q)).map (VD g)),Ui)/\∃t,Ui=[.i q,.un,t]/\LA t=true:=by
 obtain⟨Ui,e,h⟩:=O0 (tests:=aD T.aA (run T W n) [(.qA .Eq (.ix (.v 2) (.c (.int 0))) (.v 0))]) (JA:=ev T.aA (run T W n) false vS) (bind:=lB true [2]) (ds:=F) (λx=>match x with | .t [.int p,_]=>decide (p=q) | _=>false) id (λU=>∃t,U=[.i q,.un,t]/\LA t=true)
  (λx hx U hU=>by
   obtain⟨t,rfl,ht⟩:=hU;rw[hF] at hx;obtain⟨p,hp,rfl⟩:=SD.mp hx;refine⟨_,[.i q,.un,.sh (VD g p)],by simp only[jC,RB ht]<;>rfl, ?_,λ_=>⟨.sh (VD g p),[.i q,.un,.sh (VD g p)], ?_,rfl,_,rfl,rfl⟩,λ_=>⟨_,rfl,rfl⟩⟩
   ·unfold VD
    generalize uA (g p)=d2 at *
    walk_at "!nA"
   ·unfold vS
    generalize VD g p=d2 at *
    walk_at "!nA") (U:=[.i q,.un,.un]) ⟨_,rfl,rfl⟩
 refine⟨Ui, ?_,h⟩;rw[e,hF,Ve]
def w_{F:List D}{l:List Int}(hF:F=l.map (VD g)) :
  ∃Ui,OE (aD T.aA (run T W n) [(.qA .Lt (.ix (.v 2) (.c (.int 0))) (.v 0))]) (ev T.aA (run T W n) false xS) (lB true [2]) F [] [.i q,.un,.un]=some (.ok ((l.filter λp=>decide (p<q)).map (VD g)),Ui)/\∃t,Ui=[.i q,.un,t]/\LA t=true:=by
 obtain⟨Ui,e,h⟩:=O0 (tests:=aD T.aA (run T W n) [(.qA .Lt (.ix (.v 2) (.c (.int 0))) (.v 0))]) (JA:=ev T.aA (run T W n) false xS) (bind:=lB true [2]) (ds:=F) (λx=>match x with | .t [.int p,_]=>decide (p<q) | _=>false) id (λU=>∃t,U=[.i q,.un,t]/\LA t=true)
  (λx hx U hU=>by
   obtain⟨t,rfl,ht⟩:=hU;rw[hF] at hx;obtain⟨p,hp,rfl⟩:=SD.mp hx;refine⟨_,[.i q,.un,.sh (VD g p)],by simp only[jC,RB ht]<;>rfl, ?_,λ_=>⟨.sh (VD g p),[.i q,.un,.sh (VD g p)], ?_,rfl,_,rfl,rfl⟩,λ_=>⟨_,rfl,rfl⟩⟩
   ·unfold VD
    generalize uA (g p)=d2 at *
    walk_at "!nA"
   ·unfold xS
    generalize VD g p=d2 at *
    walk_at "!nA") (U:=[.i q,.un,.un]) ⟨_,rfl,rfl⟩
 refine⟨Ui, ?_,h⟩;rw[e,hF,Ve]
def nLa{F R Y Fl:List D}(ht:LA t9=true)(DG:xD (some dS) dk=some (.sh (.l F)))
  (e1:∃Ui,OE (aD T.aA (run T W n) [(.qA .Eq (.ix (.v 2) (.c (.int 0))) (.v 0))]) (ev T.aA (run T W n) false vS) (lB true [2]) F [] [.i q,.un,.un]=some (.ok [.t [.int q,dn]],Ui)/\∃t,Ui=[.i q,.un,t]/\LA t=true)
  (e2:∃Ui,OE (aD T.aA (run T W n) [(.qA .Lt (.ix (.v 2) (.c (.int 0))) (.v 0))]) (ev T.aA (run T W n) false xS) (lB true [2]) F [] [.i q,.un,.un]=some (.ok Fl,Ui)/\∃t,Ui=[.i q,.un,t]/\LA t=true)
  (zg:xD (some (.l R)) (.int ((Y.length:Int)-jz))=some (.sh dr)) (MQ:"b"|||n|||[.sh (.l Fl),.sh dr]|||.i z) (hc:c+z=c') (PD:jB Fl.length=true) :
  DA T.aA (run T W n) W IV [s0,s1,.sh (.l Y),.sh dk,.sh dS,.o (.l R),.i c,.i jz,.i q,t9]=some (.nx,[s0,s1,.sh (.l Y),.sh dn,.sh dS,.o (.l R),.i c',.i jz,.i q,.o (.l [.t [.int q,dn]])]):=by
 have hi:∀{U:Env},aAb .of [.val (.sh (.l F))] U=some (F,none):=λ{U}=>rfl
 obtain⟨U1,e1,t1,rfl,o1⟩:=e1;obtain⟨U2,e2,t2,rfl,o2⟩:=e2;have Wv:decide (((1:Nat):Int)=0)=false:=rfl;unfold IV
 walk_at "!nA"
 rw[nG hi]
 walk_at "!nA"
 rw[nG hi]
 walk_at "!nA"
end
section
variable{no ba:Int}{kn m:Nat}{ps:List RP}{hA:D}{W n:Nat}{xs:List Int}{N:Nat}
theorem zj{ys:List Int}(H:HD hA no ba m kn ps)(l:Ln no ps xs)(hm:¬mJ m ba kn ps (OA m ba xs))(hy:ys.length<=40)(hf:NP (dC kn ps) (mB m ba) (OA m ba xs) ys) :
  run T (W+1300) (n+9) "B" [.sh hA,AB xs,.sh (.l (ys.map D.int))]=some (.ok (.i (MJ m ba kn ps (OA m ba xs) ys:Nat)),[.sh hA,AB xs,.sh (.l (ys.map D.int))]):=by
 rcases n9 (W:=W) (n:=n) H (H.next l.hx) with ⟨ks,hc,h4⟩ | ⟨h,_⟩
 case inr=>exact absurd h hm
 have k7:=H.k7
 obtain⟨U',e,s',c,t7,t8,t9,rfl,o7,o8,o9,hs,hF,hN⟩:=FG (bind:=lB false [7,8]) (body:=DA T.aA (run T (W+1300) (n+8)) (W+1300) IV)
  (λpre U=>∃(s':L2.pB) (c:Nat) (t7 t8 t9:Sl),U=[.sh hA,AB xs,.sh (.l (ys.map D.int)),.sh (uA s'),.sh (lD m ba kn ps ks),.o (.l (BE m ba kn ps ks (ys.length+1))),.i c,t7,t8,t9]/\LA t7=true/\LA t8=true/\LA t9=true/\s'∈ks/\NP (dC kn ps) (mB m ba) s' (ys.drop pre.length)/\MJ m ba kn ps (OA m ba xs) ys=c+MJ m ba kn ps s' (ys.drop pre.length))
  (ds:=SE 1 (ys.map D.int)) (λpre d post LB U hU=>by
   obtain⟨s',c,t7,t8,t9,rfl,o7,o8,o9,hs,hF,hN⟩:=hU;obtain⟨hi,rfl⟩:=my LB;rw[nA] at hi;rw[KU hi] at hF hN;have hq:(ys.map D.int).getD pre.length .iA=.int ys[pre.length]:=by simp[sH,hi]
   rw[hq];obtain⟨g1,g2⟩:=hF;have h7:(dC kn ps s').length<=7:=vD tJ k7;have f1:=v_ (W:=W+1300) (n:=n+8) (q:=ys[pre.length]) (F:=RC m ba kn ps s') (g:=mB m ba s') (l:=dC kn ps s') rfl;rw[x_ hW g1] at f1;have f2:=w_ (W:=W+1300) (n:=n+8) (q:=ys[pre.length]) (F:=RC m ba kn ps s') (g:=mB m ba s') (l:=dC kn ps s') rfl;have hlf:((dC kn ps s').filter λp=>decide (p<ys[pre.length])).length<=7:=vD (LU _ _) h7;have MQ:=K9 (W:=W+1300) (n:=n+7) (ks:=ks) (r:=aAc m ba kn ps (ys.drop (pre.length+1)).length) (g:=mB m ba s') (l:=(dC kn ps s').filter λp=>decide (p<ys[pre.length])) (by omega) (λq hq=>hc.cl s' hs q (qM.mp hq).1)
   have turn:=nLa (s0:=.sh hA) (s1:=AB xs) (Y:=ys.map D.int) (c:=(c:Int)) (jz:=1+(pre.length:Int)) (c':=((c+(((dC kn ps s').filter λp=>decide (p<ys[pre.length])).map λq=>aAc m ba kn ps (ys.drop (pre.length+1)).length (mB m ba s' q)).sum:Nat):Int)) (R:=BE m ba kn ps ks (ys.length+1)) o9 (TQ iH (WQ (f:=λk=>.l (RC m ba kn ps k)) hs)) f1 f2
    (by
     rw[nA,show(ys.length:Int)-(1+(pre.length:Int))=(((ys.drop (pre.length+1)).length:Nat):Int) by rw[cK];omega]
     exact RO (tU (by rw[cK];omega))) MQ (by rw[YU]) (PB (by rw[nA];omega))
   refine⟨_,by simp only[jC,RB o7,RB o8]<;>rfl,_,turn,mB m ba s' ys[pre.length],_,_,_,_,rfl,rfl,rfl,rfl,hc.cl s' hs _ g1, ?_, ?_⟩
   ·rw[gC];exact g2
   ·rw[gC,hN];show _=_+MJ m ba kn ps _ (ys.drop (pre.length+1));unfold MJ
    rw[dU,cV])
  (U:=[.sh hA,AB xs,.sh (.l (ys.map D.int)),.sh (uA (OA m ba xs)),.sh (lD m ba kn ps ks),.o (.l (BE m ba kn ps ks (ys.length+1))),.i 0,.un,.un,.un]) ⟨OA m ba xs,0,.un,.un,.un,rfl,rfl,rfl,rfl,hc.s0,hf,by simp⟩
 have hel:(SE 1 (ys.map D.int)).length=ys.length:=by unfold SE;simp
 rw[hel,Za] at hN;replace hN:MJ m ba kn ps (OA m ba xs) ys=c:=hN;rw[hN];have h1:=K0 (W:=W+1300) (n:=n+1) H l.hx l.lx l.hb;have h3:=k9 (W:=W+1300) (n:=n+4) (xs:=xs) H;have h5:=R8 (W:=W+1300) (n:=n+6) hc k7 hy;have hi:aAb (.enum 1) [.slot 2] [.sh hA,AB xs,.sh (.l (ys.map D.int)),.sh (uA (OA m ba xs)),.sh (lD m ba kn ps ks),.o (.l (BE m ba kn ps ks (ys.length+1))),.i 0,.un,.un,.un]=some (SE 1 (ys.map D.int),none):=bEa rfl;have qB:((ys.map D.int).length:Int)=(ys.length:Int):=by rw[nA]
 exists M4
 generalize SE 1 (ys.map D.int)=L1 at *
 generalize BE m ba kn ps ks (ys.length+1)=R1 at *
 generalize lD m ba kn ps ks=dS at *
 generalize uA (OA m ba xs)=dk at *
 generalize (ys.length:Int)=z at *
 generalize ys.map D.int=Y1 at *
 generalize xs.map D.int=X1 at *
 walk_at "!OT"
end
def oTa{ks:List L2.pB}{d:D}(h:k∈ks):gH (ks.map .inl) (.inl k)=ks.map .inl/\YF (ks.map .inl) (ks.map f) (.inl k) d=ks.map λx=>if x=k then d else f x:=by
 unfold gH YF;rw[qW,rB h];refine⟨rfl, ?_⟩;clear h;show((ks.map Sum.inl).zip (ks.map f)).map (λp:L2.JC×D=>if p.1=.inl k then d else p.2)=_
 induction ks with
 |nil=>rfl
 |cons x ks ih =>
  rw[CB,CB,lP,CB,CB,ih];congr 1;by_cases e:x=k
  ·subst e;simp
  ·rw[UA (λz=>e (iV z)),UA e]
abbrev CS:=List L2.pB×List L2.pB×(L2.pB->D)×Sl×Sl×Sl
section
variable{no ba:Int}{kn m:Nat}{ps:List RP}{hA d0:D}{W n:Nat}{s0:L2.pB}
noncomputable def mD(ks:List L2.pB)(f:L2.pB->D):D:=.cB (ks.map .inl) (ks.map f)
def LF(hA d0:D)(a:CS):Env:=[.sh hA,.sh d0,.o (mD a.1 a.2.2.1),.o (.l (a.2.1.map uA)),a.2.2.2.1,a.2.2.2.2.1,a.2.2.2.2.2]
def Sd{DS MM Lw:List D}(hn:aC .NotIn dn (.cB KS DS)=some b)(hk:mF dn=some kk)(hz:jB (Lw.length+1)=true)(hs:jB (KS.length+1)=true)(hp:b=true->gH KS kk=TN/\YF KS DS kk D.iA=MM) :
  DA T.aA (run T W n) W dO [.sh hA,.sh d0,.o (.cB KS DS),.o (.l Lw),s4,s5,.sh dn]=some (.nx,if b=true then [.sh hA,.sh d0,.o (.cB TN MM),.o (.l (Lw++[dn])),s4,s5,.sh dn] else [.sh hA,.sh d0,.o (.cB KS DS),.o (.l Lw),s4,s5,.sh dn]):=by
 unfold dO
 cases b with
 |false=>walk_at "!pR"
 |true =>
  obtain⟨p1,p2⟩:=hp rfl
  walk_at "!pR"
theorem Tw{L w:List L2.pB}{f:L2.pB->D}{l:List Int}(hl:L.length+l.length<=1000)(hw:w.length+l.length<=1000)(nd:L.Nodup)(o5:LA s5=true)(o6:LA s6=true) :
  ∃N f' t5 t6,uD (lB false [5,6]) (DA T.aA (run T W n) W dO) (l.map (VD (mB m ba k))) (LF hA d0 (L,w,f,s4,s5,s6))=some (.nx,LF hA d0 (L++N,w++N,f',s4,t5,t6))/\LA t5=true/\LA t6=true/\(L++N).Nodup/\(∀x∈N,∃q∈l,x=mB m ba k q)/\(∀q∈l,mB m ba k q∈L++N)/\N.length<=l.length:=by
 induction l generalizing L w f s5 s6 with
 |nil=>exact⟨[],f,s5,s6,by rw[kE,kE];rfl,o5,o6,by rw[kE];exact nd,λx hx=>(by cases hx),λq hq=>(by cases hq),zB _⟩
 |cons q l ih =>
  rw[kD] at hl hw
  have hb:lB false [5,6] (VD (mB m ba k) q) (LF hA d0 (L,w,f,s4,s5,s6))=some (LF hA d0 (L,w,f,s4,.i q,.sh (uA (mB m ba k q)))):=by(unfold LF VD;simp only[jC,RB o5,RB o6]<;>rfl)
  have hn:aC .NotIn (uA (mB m ba k q)) (mD L f)=some !(decide (mB m ba k q∈L)):=by unfold mD;rw[Ed iH,qW]
  by_cases OF:mB m ba k q∈L
  ·rw[rB OF] at hn;obtain⟨N,f',t5,t6,e,d8,i8,LJ,h1,h2,h3⟩:=ih (L:=L) (w:=w) (f:=f) (s5:=.i q) (s6:=.sh (uA (mB m ba k q))) (by lia) (by lia) nd rfl rfl;refine⟨N,f',t5,t6, ?_,d8,i8,LJ,λx hx=>let ⟨p,hp,h⟩:=h1 x hx;⟨p,RD _ hp,h⟩,λp hp=>?_,by rw[kD];lia⟩
   ·rw[CB]
    have:=Sd (W:=W) (n:=n) (hA:=hA) (d0:=d0) (s4:=s4) (s5:=.i q) (TN:=[]) (MM:=[]) (Lw:=w.map uA) hn iH (PB (by rw[nA];lia)) (PB (by rw[nA];lia)) (λz=>nomatch z)
    rw[UA (by decide)] at this;simp only[uD,hb];rw[show DA T.aA (run T W n) W dO (LF hA d0 (L,w,f,s4,.i q,.sh (uA (mB m ba k q))))=some (.nx,LF hA d0 (L,w,f,s4,.i q,.sh (uA (mB m ba k q)))) from this];exact e
   ·rcases pD.mp hp with rfl | hp
    ·exact tG _ OF
    ·exact h2 p hp
  ·rw[eB OF] at hn;have g:=J8 (f:=λx=>if x=mB m ba k q then D.iA else f x) OF;rw[QA rfl] at g;have gBa:L.map (λx=>if x=mB m ba k q then D.iA else f x)=L.map f:=OU λx hx=>UA λz:x=mB m ba k q=>OF (z ▸ hx)
   rw[gBa] at g
   obtain⟨N,f',t5,t6,e,d8,i8,LJ,h1,h2,h3⟩:=ih (L:=L++[mB m ba k q]) (w:=w++[mB m ba k q]) (f:=λx=>if x=mB m ba k q then D.iA else f x) (s5:=.i q) (s6:=.sh (uA (mB m ba k q))) (by simp;lia) (by simp;lia)
    (oP.mpr ⟨nd,by simp,λx hx y hy z=>OF (by rw[dD] at hy;subst hy z;exact hx)⟩) rfl rfl
   refine⟨mB m ba k q::N,f',t5,t6, ?_,d8,i8, ?_,λx hx=>?_,λp hp=>?_,by simp;lia⟩
   ·rw[CB]
    have:=Sd (W:=W) (n:=n) (hA:=hA) (d0:=d0) (s4:=s4) (s5:=.i q) (Lw:=w.map uA) hn iH (PB (by rw[nA];lia)) (PB (by rw[nA];lia)) (λ_=>g)
    rw[QA (show(!false)=true from rfl)] at this;simp only[uD,hb];rw[show DA T.aA (run T W n) W dO (LF hA d0 (L,w,f,s4,.i q,.sh (uA (mB m ba k q))))=some (.nx,LF hA d0 (L++[mB m ba k q],w++[mB m ba k q],λx=>if x=mB m ba k q then D.iA else f x,s4,.i q,.sh (uA (mB m ba k q)))) from this.trans (by unfold LF;rw[VC (l₁:=w)];rfl)];rw[UH,UH] at e;exact e
   ·rw[UH] at LJ;exact LJ
   ·rcases pD.mp hx with rfl | hx
    ·exact⟨q,wG,rfl⟩
    ·obtain⟨p,hp,h⟩:=h1 x hx;exact⟨p,RD _ hp,h⟩
   ·rcases pD.mp hp with rfl | hp
    ·simp
    ·have:=h2 p hp;rw[UH] at this;exact this
end
section
variable{no ba:Int}{kn m:Nat}{ps:List RP}{hA d0:D}{W n:Nat}{s0:L2.pB}
structure CV(no ba:Int)(m kn:Nat)(ps:List RP)(s0:L2.pB)(a:CS):Prop where
 nd:a.1.Nodup
 le:a.1.length<=157
 wn:a.2.1.Nodup
 sub:∀k∈a.2.1,k∈a.1
 vk:∀k∈a.1,VK no ba m k
 s0:s0∈a.1
 cl:∀k∈a.1,k ∉ a.2.1->∀q∈dC kn ps k,mB m ba k q∈a.1
 o4:LA a.2.2.2.1=true
 o5:LA a.2.2.2.2.1=true
 o6:LA a.2.2.2.2.2=true
def CV.wl(h:CV no ba m kn ps s0 a):a.2.1.length<=157:=vD (jX h.wn h.sub) h.le
def aAZ{w:List L2.pB}:aC .NotEq (.l (w.map uA)) (.l [])=some (!w.isEmpty):=by
 have e1:QC 20 (.l (w.map uA))=true:=iF.mpr λd hd=>by(obtain⟨k,_,rfl⟩:=SD.mp hd;show(true&&((k.2.map D.int).all (QC 17)&&true))=true;rw[k8];rfl)
 have e2:QC 20 (.l [])=true:=rfl;show(if QC 20 (.l (w.map uA))&&QC 20 (.l []) then some (!fI (.l (w.map uA)) (.l [])) else none)=_;rw[e1,e2];cases w<;>rfl
def M0:ev P C true (.and (.qA .NotEq (.v 3) (.l [])) (.qA .LtE (.bif .len [.v 2]) (.c (.int 150)))) (LF hA d0 a)=some (.ok (.b (!a.2.1.isEmpty&&decide ((a.1.length:Int)<=150))),LF hA d0 a):=by
 have h1:=aAZ (w:=a.2.1);have h2:JF .len [mD a.1 a.2.2.1]=some (.i a.1.length):=by unfold mD;rw[j0,nA]
 unfold LF
 generalize mD a.1 a.2.2.1=d1 at *
 generalize a.2.1.map uA=l at *
 generalize (a.1.length:Int)=z at *
 cases e:a.2.1.isEmpty with
 |true=>rw[e] at h1;clear e;walk_at "!"
 |false=>rw[e] at h1;clear e;walk_at "!"
theorem Uw(H:HD hA no ba m kn ps){a:CS}(hd:CV no ba m kn ps s0 a)(hw:a.2.1≠[])(K':a.1.length<=150) :
  ∃b,DA T.aA (run T W (n+5)) W gQ (LF hA d0 a)=some (.nx,LF hA d0 b)/\CV no ba m kn ps s0 b/\2*(200-b.1.length)+b.2.1.length<2*(200-a.1.length)+a.2.1.length:=by
 have qT:=hd.wl;obtain⟨L,ws,f,t4,t5,t6⟩:=a;obtain⟨nd,le,wn,sub,vk,h0,cl,o4,o5,o6⟩:=hd
 dsimp only at *
 rcases aq ws with rfl | ⟨w,k,rfl⟩
 ·exact absurd rfl hw
 rw[bq] at *
 have hk:k∈L:=sub k (by simp)
 have hkw:k ∉ w:=λz=>by(rw[oP] at wn;exact wn.2.2 k z k (by simp) rfl)
 have h7:(dC kn ps k).length<=7:=vD tJ H.k7;rw[gC,AM] at qT;obtain⟨p1,p2⟩:=oTa (d:=.l (RC m ba kn ps k)) hk;obtain⟨N,f',u5,u6,e,q5,q6,LJ,h1,h2,h3⟩:=Tw (ba:=ba) (hA:=hA) (n:=n+5) (w:=w) (f:=λx=>if x=k then .l (RC m ba kn ps k) else f x) (s4:=.sh (uA k)) (s5:=t5) (s6:=t6) (k:=k) (l:=dC kn ps k) (by lia) (by lia) nd o5 o6
 have hN:∀x∈N,x ∉ L:=λx hx z=>by(rw[oP] at LJ;exact LJ.2.2 x z x hx rfl)
 refine⟨(L++N,w++N,f',.sh (uA k),u5,u6), ?_,⟨LJ,by simp;lia, ?_,λx hx=>?_,λx hx=>?_,tG _ h0,λx hx Ig q hq=>?_,rfl,q5,q6⟩,by simp;lia⟩
 ·have hp:((w++[k]).map uA)[((w++[k]).map uA).length-1]?=some (uA k):=by simp
  have hq:((w++[k]).map uA).dropLast=w.map uA:=by simp
  have hwy:=e0a (W:=W) (n:=n) H (vk k hk);rw[rXa] at hwy
  have JW:∀{U:Env},sN 2 U (some (.o (mD L f))) (some (.inl k)) (.ow (.l (RC m ba kn ps k)))=some (.nx,U.set 2 (.o (mD L λx=>if x=k then .l (RC m ba kn ps k) else f x))):=λ{U}=>by(refine(pR (PB (by rw[nA];lia))).trans ?_;rw[p1];show some (Fl.nx,U.set 2 (.o (.cB _ (YF _ _ _ (.l _)))))=_;rw[p2];rfl)
  have AO:xD (some (mD L λx=>if x=k then .l (RC m ba kn ps k) else f x)) (uA k)=some (.sh (.l (RC m ba kn ps k))):=by(refine TQ iH ?_;rw[WQ (f:=λx=>if x=k then .l (RC m ba kn ps k) else f x) hk,QA rfl])
  have Bg:=iH (k:=k);have LB:CT (some (.o (mD L f)))=true:=rfl;have Vf:yT (some (.o (mD L f)))=false:=rfl;have how:PQ (some (.o (mD L f)))=false:=rfl;have hi:∀{U:Env} {F:List D},aAb .of [.val (.sh (.l F))] U=some (F,none):=λ{U F}=>rfl
  replace e:uD (lB false [5,6]) (DA T.aA (run T W (n+5)) W dO) (RC m ba kn ps k) [.sh hA,.sh d0,.o (mD L λx=>if x=k then .l (RC m ba kn ps k) else f x),.o (.l (w.map uA)),.sh (uA k),t5,t6]=some (.nx,LF hA d0 (L++N,w++N,f',.sh (uA k),u5,u6)):=e;show DA T.aA (run T W (n+5)) W gQ [.sh hA,.sh d0,.o (mD L f),.o (.l ((w++[k]).map uA)),t4,t5,t6]=_
  generalize LF hA d0 (L++N,w++N,f',.sh (uA k),u5,u6)=Ue at *
  generalize mD L (λx=>if x=k then D.l (RC m ba kn ps k) else f x)=d2 at *
  generalize mD L f=d1 at *
  generalize (w++[k]).map uA=l1 at *
  generalize w.map uA=l2 at *
  generalize RC m ba kn ps k=F at *
  generalize uA k=dk at *
  unfold gQ;clear H nd le wn sub vk h0 cl o5 o6 hk hkw p1 p2 LJ h1 h2 h3 hN hw q5 q6
  walk_at "!"
 ·rw[oP] at wn LJ ⊢;exact⟨wn.1,LJ.2.1,λx hx y hy z=>hN y hy (z ▸ sub x (tG _ hx))⟩
 ·rcases eG.mp hx with hx | hx
  ·exact tG _ (sub x (tG _ hx))
  ·exact TH _ hx
 ·rcases eG.mp hx with hx | hx
  ·exact vk x hx
  ·obtain⟨q,hq,rfl⟩:=h1 x hx;exact bf H (vk k hk) hq
 ·have nx:x ∉ N:=λz=>Ig (TH _ z)
  rcases eG.mp hx with hx | hx
  ·by_cases e:x=k
   ·subst e;exact h2 q hq
   ·exact tG _ (cl x hx (λz=>(eG.mp z).elim (λz=>Ig (tG _ z)) λz=>e (dD.mp z)) q hq)
  ·exact absurd hx nx
theorem Xw(H:HD hA no ba m kn ps)(h0:VK no ba m s0)(hm:mJ m ba kn ps s0):∃L f,run T (W+1300) (n+6) "S" [.sh hA,.sh (uA s0)]=some (.ok (.ow (mD L f)),[.sh hA,.sh (uA s0)])/\150<L.length:=by
 have key:=eY (test:=ev T.aA (run T (W+1300) (n+5)) true (.and (.qA .NotEq (.v 3) (.l [])) (.qA .LtE (.bif .len [.v 2]) (.c (.int 150))))) (body:=DA T.aA (run T (W+1300) (n+5)) (W+1300) gQ) (bx:=λ_=>none)
  (LF hA (uA s0)) (CV no ba m kn ps s0) (λa=>a.2.1=[]\/150<a.1.length) (λa=>2*(200-a.1.length)+a.2.1.length) ⟨"",none⟩ False (λa ha=>by
   by_cases hw:a.2.1=[]
   ·exact .inl ⟨.inl hw,by rw[M0,hw];rfl⟩
   ·by_cases hl:a.1.length<=150
    ·refine .inr ⟨by rw[M0,rB (by lia)];cases e:a.2.1<;>first | exact absurd e hw | rfl,.inl (Uw H ha hw hl)⟩
    ·exact .inl ⟨.inr (by lia),by rw[M0,eB (by lia),vb]⟩) (W+1300) ([s0],[s0],λ_=>.iA,.un,.un,.un)
   ⟨by simp,by simp,by simp,λk hk=>hk,λk hk=>by rw[dD.mp hk];exact h0,by simp,λk hk hn=>absurd hk hn,rfl,rfl,rfl⟩ (by show 2*(200-1)+1<W+1300;lia)
 obtain⟨⟨L,ws,f,t4,t5,t6⟩,hi,hd,g⟩ | ⟨z,_⟩:=key
 case inr=>exact z.elim
 refine⟨L,f, ?_, ?_⟩
 ·have hdz:bW (mF (uA s0)) (.sh .iA)=λU=>some (.ok (.ow (mD [s0] λ_=>.iA)),U):=by rw[iH];rfl
  replace g:RF (ev T.aA (run T (W+1300) (n+5)) true (.and (.qA .NotEq (.v 3) (.l [])) (.qA .LtE (.bif .len [.v 2]) (.c (.int 150))))) (DA T.aA (run T (W+1300) (n+5)) (W+1300) gQ) (W+1300) [.sh hA,.sh (uA s0),.o (mD [s0] λ_=>.iA),.o (.l [uA s0]),.un,.un,.un]=some (.nx,[.sh hA,.sh (uA s0),.o (mD L f),.o (.l (ws.map uA)),t4,t5,t6]):=g
  exists l3
  generalize mD [s0] (λ_=>D.iA)=d1 at *
  generalize mD L f=d2 at *
  generalize ws.map uA=l2 at *
  generalize uA s0=dk at *
  walk_at "!"
 ·rcases hd with hd | hd
  ·obtain⟨l,n1,n2,n3⟩:=hm
   have:=jX n1 (l':=L) λx hx=>Xk hi.s0 (λk hk q hq=>hi.cl k hk (by rw[hd];simp) q hq) (n3 x hx)
   lia
  ·exact hd
end
section
variable{no ba:Int}{kn m:Nat}{ps:List RP}{hA:D}{W n:Nat}{xs:List Int}{N:Nat}
def tHa(H:HD hA no ba m kn ps)(l:Ln no ps xs)(hN:N<=40) :
  (∃ks,fE no ba m kn ps (OA m ba xs) ks/\run T (W+1300) (n+10) "r" [.sh hA,AB xs,.i N]=some (.ok (.i (aAc m ba kn ps N (OA m ba xs):Nat)),[.sh hA,AB xs,.i N])) \/
  (mJ m ba kn ps (OA m ba xs)/\run T (W+1300) (n+10) "r" [.sh hA,AB xs,.i N]=some (.ok (.sh .iA),[.sh hA,AB xs,.i N])):=by
 exists y3
 rcases me (W:=W) (n:=n) H l hN with ⟨ks,hc,h4⟩ | ⟨hm,h4⟩
 ·refine .inl ⟨ks,hc, ?_⟩
  generalize (aAc m ba kn ps N (OA m ba xs):Int)=cv at *
  generalize (N:Int)=z at *
  generalize xs.map D.int=X1 at *
  walk_at "!"
 ·refine .inr ⟨hm, ?_⟩;have hAa:(WV).contains ("TooMany":bA)=true:=by decide +kernel
  have hct:∀{U:Env},XM WV (some (⟨"TooMany",none⟩,U))=some (.rt (.sh .iA),U):=λ{U}=>Qw hAa
  generalize (N:Int)=z at *
  generalize xs.map D.int=X1 at *
  walk_at "!"
theorem vm:∀{l:List Nat},l.sum=0->∀x∈l,x=0
 |[],_,_,h=>by cases h
 |a::l,h,x,hx=>by
  rw[jJ] at h;rcases pD.mp hx with rfl | hx
  ·lia
  ·exact vm (by lia) x hx
theorem Lv(hb:cM ps xs=true)(hl:b<xs.length)(hp:p∈ps):p.2.2 xs b=[]:=by
 have h:=UU (iF.mp hb b (EI.mpr hl));have h0:xE ps xs b=0:=by lia
 unfold xE at h0;exact mY.mp (vm h0 _ (SD.mpr ⟨p,hp,rfl⟩))
theorem Mv(H:HD hA no ba m kn ps)(l:Ln no ps xs):"U"|||n+5|||[.sh hA,AB xs]|||.ow (.l []):=by
 obtain⟨oc,fs,rs,rfl,H⟩:=H;have hi:aAb .MB [.val (.i ((xs.map D.int).length:Int))] [.sh (vA no ba oc fs rs),AB xs,.o (.l []),.un,.un,.un]=some (rg xs.length,none):=by rw[nA];exact aM l.lx
 have GQ:rs.length<=8:=H.hl;have j4:xD (some (vA no ba oc fs rs)) (.int 4)=some (.sh (.t rs)):=X6
 obtain⟨U',e,t3,t4,t5,rfl,_⟩:=T7 (bind:=lB true [3]) (body:=DA T.aA (run T W (n+4)) W GZ)
  (λU=>∃t3 t4 t5,U=[.sh (vA no ba oc fs rs),AB xs,.o (.l []),t3,t4,t5]/\LA t3=true/\LA t4=true/\LA t5=true)
  (ds:=rg xs.length) (λd hd U hU=>by
   obtain⟨t3,t4,t5,rfl,o3,o4,o5⟩:=hU;obtain⟨b,WE,rfl⟩:=SD.mp hd;have VS:=EI.mp WE;refine⟨_,by simp only[jC,RB o3]<;>rfl, ?_⟩
   obtain⟨U1,e1,u4,u5,rfl,p4,p5⟩:=T7 (bind:=lB true [4]) (body:=DA T.aA (run T W (n+4)) W FZ)
    (λU=>∃t4 t5,U=[.sh (vA no ba oc fs rs),AB xs,.o (.l []),.i b,t4,t5]/\LA t4=true/\LA t5=true)
    (ds:=rg rs.length) (λd hd U hU=>by
     obtain⟨t4,t5,rfl,o4,o5⟩:=hU;obtain⟨i,hi',rfl⟩:=SD.mp hd;have W5:=EI.mp hi';have X5:i<ps.length:=by have:=H.JD;rw[<- this,nA] at W5;exact W5
     have hr:rs[i]?=some ps[i].1:=by rw[<- H.JD,MD,XC X5];rfl
     have AO:xD (some (.t rs)) (.int i)=some (.sh ps[i].1):=by show(L2.fC rs (i:Int)).map RV.sh=_;rw[L2.wL hr];rfl
     have i6:=(H.hp ps[i] (LR X5)).lw W (n+1) xs b VS l.hx;rw[Lv l.hb VS (LR X5)] at i6;have AE:∀{U:Env},aAb .of [.val (.ow (.l []))] U=some ([],none):=λ{U}=>rfl
     refine⟨_,by simp only[jC,RB o4]<;>rfl,[.sh (vA no ba oc fs rs),AB xs,.o (.l []),.i b,.i i,t5], ?_,_,_,rfl,rfl,o5⟩;replace i6:"c"|||n+4|||[.sh (vA no ba oc fs rs),.sh ps[i].1,AB xs,.i b]|||.ow (.l []):=i6
     generalize vA no ba oc fs rs=hD at *
     generalize ps[i].1=dr at *
     unfold FZ
     walk_at "!"
     rfl)
    (U:=[.sh (vA no ba oc fs rs),AB xs,.o (.l []),.i b,t4,t5]) ⟨_,_,rfl,o4,o5⟩
   refine⟨[.sh (vA no ba oc fs rs),AB xs,.o (.l []),.i b,u4,u5], ?_,_,_,_,rfl,rfl,p4,p5⟩;have hi3:aAb .MB [.val (.i rs.length)] [.sh (vA no ba oc fs rs),AB xs,.o (.l []),.i b,t4,t5]=some (rg rs.length,none):=aM (by lia)
   generalize vA no ba oc fs rs=hD at *
   generalize (rg rs.length)=L1 at *
   unfold GZ
   walk_at "!")
  (U:=[.sh (vA no ba oc fs rs),AB xs,.o (.l []),.un,.un,.un]) ⟨_,_,_,rfl,rfl,rfl,rfl⟩
 exists i3
 generalize vA no ba oc fs rs=hD at *
 generalize (rg xs.length)=L1 at *
 walk_at "!"
end
def aA7{F:List Int}{i:Int}(h1:0<=i)(h2:i<F.length):∃q,xD (some (.l (F.map D.int))) (.int i)=some (.i q)/\q∈F:=by
 obtain⟨j,rfl⟩:∃j:Nat,i=(j:Int):=⟨i.toNat,by lia⟩
 have hj:j<F.length:=by lia
 exact⟨F[j],RO (by rw[MD,XC hj];rfl),LR hj⟩
def wKa{F:List Int}:aC .NotEq (.l (F.map D.int)) (.l [])=some (!F.isEmpty):=by
 have e1:QC 20 (.l (F.map D.int))=true:=k8 (n:=19);have e2:QC 20 (.l [])=true:=rfl;show(if QC 20 (.l (F.map D.int))&&QC 20 (.l []) then some (!fI (.l (F.map D.int)) (.l [])) else none)=_;rw[e1,e2];cases F<;>rfl
section
variable{no ba:Int}{kn m:Nat}{ps:List RP}{hA:D}{W n:Nat}{xs:List Int}{k s:Int}
def Ii(H:HD hA no ba m kn ps)(hb:cM ps xs=true)(hq:IB ps xs q=true):cM ps (xs++[q])=true:=by
 obtain⟨oc,fs,rs,rfl,H⟩:=H;rw[oIa λp hp=>(H.hp p hp).pre,hb,iJ];show(UB 1).all _=true;rw[List.range_one,xC,Qb,HY,FY,kE];exact hq
def qf(H:HD hA no ba m kn ps)(hx:In no (xs++[q])):"g"|||n+4|||[.sh hA,AB (xs++[q])]|||.b (IB ps xs q):=by
 obtain⟨oc,fs,rs,rfl,H⟩:=H;exact tf H.JD H.hp hx
abbrev CF(k s:Int):Sl:=.p (.l [.int k,.int s])
theorem some_of(H:HD hA no ba m kn ps)(l:Ln no ps xs)(lx:xs.length<=900) :
  ∃Ui,OE (aD T.aA (run T W (n+4)) [(.call "g" [(.v 0),(.lA .Add (.v 1) (.l [(.v 3)]))])]) (ev T.aA (run T W (n+4)) false cW) (lB true [3]) (rg kn) [] [.sh hA,AB xs,.un,.un]=some (.ok ((OB kn (IB ps xs)).map D.int),Ui)/\∃t,Ui=[.sh hA,AB xs,.un,t]/\LA t=true:=by
 have hk:=H.hk
 obtain⟨Ui,e,h⟩:=O0 (tests:=aD T.aA (run T W (n+4)) [(.call "g" [(.v 0),(.lA .Add (.v 1) (.l [(.v 3)]))])]) (JA:=ev T.aA (run T W (n+4)) false cW) (bind:=lB true [3]) (ds:=rg kn) (λx=>match x with | .int q=>IB ps xs q | _=>false) id (λU=>∃t,U=[.sh hA,AB xs,.un,t]/\LA t=true)
  (λx hx U hU=>by
   obtain⟨t,rfl,ht⟩:=hU;obtain⟨j,hj,rfl⟩:=SD.mp hx;have hj:=EI.mp hj;have CJ:=qf (W:=W) (n:=n) (xs:=xs) (q:=(j:Int)) H (l.hx.app (In.one ⟨by lia,by lia⟩))
   have hc:NC .Add (.l (xs.map D.int)) (.l [.int j])=some (.ow (.l ((xs++[(j:Int)]).map D.int))):=by(rw[nK (ZF (by simp;lia)),bS])
   refine⟨_,[.sh hA,AB xs,.un,.i j],by simp only[jC,RB ht]<;>rfl, ?_,λ_=>⟨.i j,[.sh hA,AB xs,.un,.i j], ?_,rfl,_,rfl,rfl⟩,λ_=>⟨_,rfl,rfl⟩⟩
   ·dsimp only
    unfold AB at *
    generalize IB ps xs (j:Int)=b at *
    generalize (xs++[(j:Int)]).map D.int=Y at *
    generalize (j:Int)=jz at *
    generalize xs.map D.int=X at *
    clear hx ht H l hk hj
    walk_at "!nA"
   ·unfold cW;clear hx ht CJ hc
    walk_at "!nA") (U:=[.sh hA,AB xs,.un,.un]) ⟨_,rfl,rfl⟩
 refine⟨Ui, ?_,h⟩;rw[e,List.map_id,BY]
 congr 3
 exact Xe (ok:=IB ps xs)
end
section
variable{no ba:Int}{kn m:Nat}{ps:List RP}{hA:D}{W n:Nat}{k s:Int}
theorem b0a{xs:List Int}{t5:Sl}{d4:D}(H:HD hA no ba m kn ps)(l:Ln no ps xs)(lx:xs.length<=900)(o5:LA t5=true) :
  ∃ys s' u5,DA T.aA (run T W (n+4)) W mS [.sh hA,CF k s,.i 8,.o (.l (xs.map D.int)),.sh d4,t5]=some (.nx,[.sh hA,CF k s',.i 8,.o (.l (ys.map D.int)),.sh d4,u5])/\LA u5=true/\Ln no ps ys/\ys.length<=xs.length+1:=by
 have hk:=H.hk;have k7:=H.k7;have i0:=H.i0;obtain⟨Ui,e,t,rfl,ht⟩:=some_of (W:=W) (n:=n) H l lx;have hi:∀{U:Env},aAb .MB [.val (.i no)] U=some (rg kn,none):=λ{U}=>by rw[hk];exact aM (by lia)
 have Ef:(OB kn (IB ps xs)).length<=7:=vD tJ k7;have bD:=wKa (F:=OB kn (IB ps xs));have PD:jB ((OB kn (IB ps xs)).map D.int).length=true:=PB (by rw[nA];lia)
 cases eF:(OB kn (IB ps xs)).isEmpty with
 |true =>
  rw[eF] at bD;refine⟨xs,s,.o (.l ((OB kn (IB ps xs)).map D.int)), ?_,rfl,l,by lia⟩
  unfold AB at *
  generalize (OB kn (IB ps xs)).map D.int=F at *
  generalize (rg kn)=L1 at *
  generalize xs.map D.int=X at *
  unfold mS;clear H l hk k7 Ef eF lx ht
  walk_at "!nA"
  rw[nG hi]
  walk_at "!nA"
 |false =>
  rw[eF] at bD
  have JO:0<(OB kn (IB ps xs)).length:=by
   cases e0:OB kn (IB ps xs) with
   |nil=>rw[e0] at eF;cases eF
   |cons=>simp
  have O5:=hE (W:=W) (n:=n+3) (k:=k) (s:=s) (m:=((OB kn (IB ps xs)).length:Int)) (by lia) (by lia);obtain⟨q,hq,GW⟩:=aA7 (F:=OB kn (IB ps xs)) (i:=WA k s ((OB kn (IB ps xs)).length:Int)) (vC (by lia)) (uC (by lia));have wg:=uQ GW
  have KA:IB ps xs q=true:=by(unfold OB at GW;obtain⟨j,hj,rfl⟩:=SD.mp GW;exact(qM.mp hj).2)
  refine⟨xs++[q],IA k s ((OB kn (IB ps xs)).length:Int),.o (.l ((OB kn (IB ps xs)).map D.int)), ?_,rfl,⟨l.hx.app (In.one ⟨wg.1,by lia⟩),by simp;lia,Ii H l.hb KA⟩,by simp⟩;have hz:jB ((xs.map D.int).length+1)=true:=PB (by rw[nA];lia);have qB:(((OB kn (IB ps xs)).map D.int).length:Int)=((OB kn (IB ps xs)).length:Int):=by rw[nA]
  rw[<- bS]
  unfold AB at *
  generalize WA k s ((OB kn (IB ps xs)).length:Int)=dv at *
  generalize IA k s ((OB kn (IB ps xs)).length:Int)=ds at *
  generalize ((OB kn (IB ps xs)).length:Int)=fl at *
  generalize (OB kn (IB ps xs)).map D.int=F at *
  generalize (rg kn)=L1 at *
  generalize xs.map D.int=X at *
  unfold mS;clear H l hk k7 Ef eF lx ht wg KA JO GW
  walk_at "!nA"
  rw[nG hi]
  walk_at "!nA"
theorem c0a(H:HD hA no ba m kn ps):∃xs s',run T W (n+5) "T" [.sh hA,CF k s,.i 8]=some (.ok (.ow (.l (xs.map D.int))),[.sh hA,CF k s',.i 8])/\Ln no ps xs/\xs.length<=8:=by
 have O5:=hE (W:=W) (n:=n+3) (k:=k) (s:=s) (m:=9) (by decide) (by decide);obtain⟨c,hc⟩:∃c:Nat,WA k s 9=(c:Int):=⟨(WA k s 9).toNat,by have:=vC (k:=k) (s:=s) (m:=9) (by decide);lia⟩
 have hc8:c<=8:=by have:=uC (k:=k) (s:=s) (m:=9) (by decide);lia
 have hi:∀{U:Env},aAb .MB [.val (.i (WA k s 9))] U=some (rg c,none):=λ{U}=>by rw[hc];exact aM (by lia)
 obtain⟨U',e,xs,s',t4,t5,rfl,o4,o5,l,hx⟩:=FG (bind:=lB true [4]) (body:=DA T.aA (run T W (n+4)) W mS)
  (λpre U=>∃xs s' t4 t5,U=[.sh hA,CF k s',.i 8,.o (.l (xs.map D.int)),t4,t5]/\LA t4=true/\LA t5=true/\Ln no ps xs/\xs.length<=pre.length)
  (ds:=rg c) (λpre d post LB U hU=>by
   obtain⟨xs,s',t4,t5,rfl,o4,o5,l,hx⟩:=hU;obtain⟨rfl,hj⟩:=EX LB;obtain⟨ys,s2,u5,e,p5,l2,hy⟩:=b0a (W:=W) (k:=k) (s:=s') (d4:=.int pre.length) H l (by lia) o5
   exact⟨_,by simp only[jC,RB o4]<;>rfl,_,e,ys,s2,_,_,rfl,rfl,p5,l2,by rw[gC,AM];lia⟩)
  (U:=[.sh hA,CF k (IA k s 9),.i 8,.o (.l []),.un,.un]) ⟨[],_,_,_,rfl,rfl,rfl,⟨λx hx=>(by cases hx),by simp,rfl⟩,by simp⟩
 refine⟨xs,s', ?_,l,by rw[nA,lL] at hx;lia⟩
 exists O3
 have e9:(8:Int)+1=9:=rfl
 generalize (rg c)=L1 at *
 generalize WA k s 9=dv at *
 generalize IA k s 9=ds at *
 generalize xs.map D.int=X at *
 clear H l hx o4 o5 hc hc8
 walk_at "!nA"
end
def rWa{c:Nat}:tI (some (.t ds)) none (some (.int c))=some (.sh (.t (ds.take c))):=by
 show some (RV.sh (.t (aAv ds none (some (c:Int)))))=_;unfold aAv;rw[HT.oR,HT.wU,bV,Ob];by_cases h:c<=ds.length
 ·rw[xP h]
 ·rw[ib (by lia),eJ (zB _),eJ (by lia)]
def cXa:∃s' no ba oc fs rs,run T W (n+4) "O" [CF k s]=some (.ok (.sh (vA no ba oc fs rs)),[CF k s'])/\GI no ba oc fs/\rs.length<=8/\∀d∈rs,yG no ba oc (fs.length:Int) d:=by
 exists M3
 by_cases hg:WA k s 9=0
 ·obtain⟨s',no,ba,oc,fs,rs,eh,ho,hl,hR⟩:=vBa (n:=n) (k:=k) (s:=IA k s 9);refine⟨s',no,ba,oc,fs,rs.take 2, ?_,ho,by rw[bK];lia,λd hd=>hR d (Ha hd)⟩;have hsl:tI (some (vA no ba oc fs rs)) none (some (.int 4))=some (.sh (.t [.int no,.int ba,.int oc,.t (fs.map toD)])):=rfl;have j4:xD (some (vA no ba oc fs rs)) (.int 4)=some (.sh (.t rs)):=X6;have oE:tI (some (.t rs)) none (some (.int 2))=some (.sh (.t (rs.take 2))):=rWa (c:=2);have NL:CH .Add (.val (.sh (.t [.int no,.int ba,.int oc,.t (fs.map toD)]))) (some (.t [.int no,.int ba,.int oc,.t (fs.map toD)])) (some (.t [.t (rs.take 2)]))=some (.sh (vA no ba oc fs (rs.take 2))):=Tc (PB (by simp));have O5:=hE (W:=W) (n:=n+2) (k:=k) (s:=s) (m:=9) (by decide) (by decide);rw[hg] at O5;have c0:decide ((0:Int)=0)=true:=rfl;replace eh:run T W (n+3) "E" [CF k (IA k s 9)]=some (.ok (.sh (vA no ba oc fs rs)),[CF k s']):=eh
  generalize vA no ba oc fs (rs.take 2)=h2 at *
  generalize vA no ba oc fs rs=h1 at *
  generalize D.t (rs.take 2)=r2 at *
  generalize [D.int no,.int ba,.int oc,.t (fs.map toD)]=h4 at *
  generalize IA k s 9=ds at *
  clear ho hl hR hg
  walk_at "!hE"
 ·obtain⟨s1,JH⟩:∃s1,s1=IA k s 9:=⟨_,rfl⟩
  obtain⟨no,eH⟩:∃no,no=1+WA k s1 3:=⟨_,rfl⟩
  obtain⟨s2,oE⟩:∃s2,s2=IA k s1 3:=⟨_,rfl⟩
  obtain⟨ba,NF⟩:∃ba,ba=1+WA k s2 3:=⟨_,rfl⟩
  obtain⟨s3,RI⟩:∃s3,s3=IA k s2 3:=⟨_,rfl⟩
  obtain⟨oc,uF⟩:∃oc,oc=1+WA k s3 12:=⟨_,rfl⟩
  obtain⟨s4,VL⟩:∃s4,s4=IA k s3 12:=⟨_,rfl⟩
  obtain⟨ma,RL⟩:∃ma,ma=1+WA k s4 3:=⟨_,rfl⟩
  obtain⟨s5,WL⟩:∃s5,s5=IA k s4 3:=⟨_,rfl⟩
  have n1:1<=no:=by have:=vC (k:=k) (s:=s1) (m:=3) (by decide);lia
  have n2:no<=3:=by have:=uC (k:=k) (s:=s1) (m:=3) (by decide);lia
  have b1:1<=ba:=by have:=vC (k:=k) (s:=s2) (m:=3) (by decide);lia
  have b2:ba<=3:=by have:=uC (k:=k) (s:=s2) (m:=3) (by decide);lia
  have o1:1<=oc:=by have:=vC (k:=k) (s:=s3) (m:=12) (by decide);lia
  have o2:oc<=12:=by have:=uC (k:=k) (s:=s3) (m:=12) (by decide);lia
  have m1:1<=ma:=by have:=vC (k:=k) (s:=s4) (m:=3) (by decide);lia
  have m2:ma<=3:=by have:=uC (k:=k) (s:=s4) (m:=3) (by decide);lia
  have aT:aAb .MB [.slot 5] [CF k s5,.un,.i no,.i ba,.i oc,.i ma,.o (.l []),.un,.un]=some (rg ma.toNat,none):=LK rfl (by lia) (by lia)
  obtain⟨U1,Z0,s6,fs,t7,rfl,h7,hl,hf⟩:=FG (bind:=lB true [7]) (body:=DA T.aA (run T W (n+3)) W LZ)
   (λpre U=>∃s6 fs t7,U=[CF k s6,.un,.i no,.i ba,.i oc,.i ma,.o (.l (fs.map toD)),t7,.un]/\LA t7=true/\fs.length=pre.length/\∀f∈fs,0<=f.1/\f.1<=4/\-12<=f.2.1/\f.2.1<=12)
   (ds:=rg ma.toNat) (λpre d post LB U hU=>by
    obtain⟨s6,fs,t7,rfl,h7,hl,hf⟩:=hU;have qB:=(sU LB).2;refine⟨_,by simp only[jC,RB h7]<;>rfl, ?_⟩;have PD:jB ((fs.map toD).length+1)=true:=PB (by simp;lia);have la:=vC (k:=k) (s:=s6) (m:=3) (by decide);have lb:=uC (k:=k) (s:=s6) (m:=3) (by decide);have sa:=vC (k:=k) (s:=IA k s6 3) (m:=25) (by decide);have sb:=uC (k:=k) (s:=IA k s6 3) (m:=25) (by decide);refine⟨[CF k (IA k (IA k (IA k s6 3) 25) 4),.un,.i no,.i ba,.i oc,.i ma,.o (.l ((fs++[(WA k s6 3,WA k (IA k s6 3) 25-12,decide (WA k (IA k (IA k s6 3) 25) 4=0))]).map toD)),.sh d,.un], ?_,_,_,_,rfl,rfl,by simp[hl],λf hm=>?_⟩
    ·unfold LZ;clear hf LB la lb sa sb hg eH oE NF RI uF VL RL WL n1 n2 b1 b2 o1 o2 m1 m2 qB hl aT JH
     walk_at "!hE"
     simp only[VC,CB,sM,toD]
    ·rcases eG.mp hm with hm | hm
     ·exact hf f hm
     ·rw[dD.mp hm]
      refine⟨la, ?_, ?_, ?_⟩<;>simp only<;>lia)
   (U:=[CF k s5,.un,.i no,.i ba,.i oc,.i ma,.o (.l []),.un,.un]) ⟨_,[],_,rfl,rfl,rfl,λf h=>nomatch h⟩
  have hl:fs.length=ma.toNat:=by rw[hl];simp
  have KO:=vC (k:=k) (s:=s6) (m:=5) (by decide);have UL:=uC (k:=k) (s:=s6) (m:=5) (by decide);have AE:aAb .MB [.val (.i (WA k s6 5))] [CF k (IA k s6 5),.un,.i no,.i ba,.i oc,.i ma,.o (.l (fs.map toD)),t7,.o (.l [])]=some ((UB (WA k s6 5).toNat).map λ(j:Nat)=>.int j,none):=LK rfl (by lia) (by lia)
  obtain⟨U2,Wx,s7,rs,x9,rfl,E5,GQ,hR⟩:=FG (bind:=lB true [7]) (body:=DA T.aA (run T W (n+3)) W MZ)
   (λpre U=>∃s7 rs t7,U=[CF k s7,.un,.i no,.i ba,.i oc,.i ma,.o (.l (fs.map toD)),t7,.o (.l rs)]/\LA t7=true/\rs.length=pre.length/\∀d∈rs,yG no ba oc ma d)
   (ds:=(UB (WA k s6 5).toNat).map λ(j:Nat)=>.int j) (λpre d post LB U hU=>by
    obtain⟨s7,rs,t7,rfl,h7,hl,hR⟩:=hU;have qB:=(sU LB).2;refine⟨_,by simp only[jC,RB h7]<;>rfl, ?_⟩;have PD:jB (rs.length+1)=true:=PB (by lia);obtain⟨s8,dr,er,KQ⟩:=zl (W:=W) (n:=n+1) (k:=k) (s0:=s7) n1 (by lia:no<=7) b1 (by lia:ba<=4) o1 o2 m1 m2;refine⟨[CF k s8,.un,.i no,.i ba,.i oc,.i ma,.o (.l (fs.map toD)),.sh d,.o (.l (rs++[dr]))], ?_,_,_,_,rfl,rfl,by simp[hl],λd hd=>(eG.mp hd).elim (hR d) λq=>by rw[dD.mp q];exact KQ⟩;unfold MZ;clear hR KQ hf LB hg eH oE NF RI uF VL RL WL n1 n2 b1 b2 o1 o2 m1 m2 qB hl aT JH Z0 AE KO UL
    walk_at "!hE")
   (U:=[CF k (IA k s6 5),.un,.i no,.i ba,.i oc,.i ma,.o (.l (fs.map toD)),t7,.o (.l [])]) ⟨_,[],_,rfl,h7,rfl,λ_ z=>nomatch z⟩
  have eT:rs.length<=8:=by rw[GQ];simp;lia
  have bT:(fs.length:Int)=ma:=by lia
  refine⟨s7,no,ba,oc,fs,rs, ?_,⟨n1,by lia,b1,by lia,o1,o2,by lia,by lia,hf⟩,eT,by rw[bT];exact hR⟩;have c0:decide (WA k s 9=0)=false:=eB hg;unfold vA;clear hf n1 n2 b1 b2 o1 o2 m1 m2 hl GQ KO UL hR eT bT hg;have e1:=eH.symm;have e2:=oE.symm;have e3:=NF.symm;have e4:=RI.symm;have e5:=uF.symm;have e6:=VL.symm;have e7:=RL.symm;have e8:=WL.symm;have e9:=JH.symm;clear eH oE NF RI uF VL RL WL JH
  walk_at "!hE"
section
variable{no ba:Int}{kn m:Nat}{ps:List RP}{hA:D}{W n:Nat}{xs:List Int}
theorem wm:∀{l:List Int},(∀x∈l,f x<=b)->(l.map f).sum<=l.length*b
 |[],_=>UJ _
 |x::l,h=>by
  have h1:=h x wG;have h2:=wm λy hy=>h y (RD _ hy)
  rw[CB,jJ,kD,Nb]
  lia
theorem Ud(k7:kn<=7):∀j s,aAc m ba kn ps j s<=7 ^ j
 | 0,s=>zB 1
 |j+1,s=>by(refine vD (wm λq _=>Ud k7 j _) ?_;rw[Nat.pow_succ,Nat.mul_comm (7 ^ j)];exact Nat.mul_le_mul_right _ (vD tJ k7))
theorem Q7(H:HD hA no ba m kn ps)(l:Ln no ps xs)(lx:xs.length<1000)(hq:q∈OB kn (IB ps xs)):Ln no ps (xs++[q]):=by
 have h1:=uQ hq;have h2:=H.hk;obtain⟨j,hj,rfl⟩:=SD.mp hq;exact⟨l.hx.app (In.one ⟨h1.1,by lia⟩),by simp;lia,Ii H l.hb (qM.mp hj).2⟩
theorem Oi(H:HD hA no ba m kn ps):∀{ys xs:List Int},Ln no ps xs->xs.length+ys.length<=1000->NP (dC kn ps) (mB m ba) (OA m ba xs) ys->Ln no ps (xs++ys)
 |[],xs,l,_,_=>by rw[kE];exact l
 |q::r,xs,l,hl,h=>by
  obtain⟨h1,h2⟩:=i5 H;obtain⟨h3,h4⟩:=h;rw[h1] at h3;rw[h2] at h4;rw[kD] at hl
  have:=Oi H (ys:=r) (Q7 H l (by lia) h3) (by simp;lia) h4
  rw[UH] at this;exact this
def Ye:OB (j+1) ok=OB j ok++if ok (j:Int) then [(j:Int)] else []:=by
 unfold OB;rw[vP,EN,VC,zY,List.filter_nil];congr 1
 split<;>rfl
theorem Ze:∀{k:Nat},c<=k->(OB k ok).filter (λp=>decide (p<(c:Int)))=OB c ok
 | 0,h=>by cases Nat.le_zero.mp h;rfl
 |k+1,h=>by
  by_cases e:c=k+1
  ·subst e;exact List.filter_eq_self.mpr λx hx=>rB (uQ hx).2
  ·rw[Ye,EN,Ze (by lia)]
   have:(if ok (k:Int) then [(k:Int)] else []).filter (λp=>decide (p<(c:Int)))=[]:=Aa.mpr λx hx=>by
    split at hx
    ·rw[dD.mp hx];simp;lia
    ·cases hx
   rw[this,kE]
theorem wHa{M A c:Nat}(H:HD hA no ba m kn ps)(l:Ln no ps xs)(lx:xs.length<=900)(hc:fE no ba m kn ps (OA m ba xs) ks)(hM:M<=40)(hk:c<=kn)(o9:LA t9=true) :
  ∃t,uD (lB true [9]) (DA T.aA (run T (W+1300) (n+9)) (W+1300) nS) (rg c) [s0,.sh hA,s2,.o (.l (xs.map D.int)),.i (((M+1:Nat):Int)),s5,s6,s7,.i A,t9] =
   some (.nx,[s0,.sh hA,s2,.o (.l (xs.map D.int)),.i (((M+1:Nat):Int)),s5,s6,s7,.i ((A+((OB c (IB ps xs)).map λq=>aAc m ba kn ps M (mB m ba (OA m ba xs) q)).sum:Nat):Int),t]):=by
 obtain⟨U',e,t,rfl,ot⟩:=FG (bind:=lB true [9]) (body:=DA T.aA (run T (W+1300) (n+9)) (W+1300) nS)
  (λpre U=>∃t,U=[s0,.sh hA,s2,.o (.l (xs.map D.int)),.i (((M+1:Nat):Int)),s5,s6,s7,.i ((A+((OB pre.length (IB ps xs)).map λq=>aAc m ba kn ps M (mB m ba (OA m ba xs) q)).sum:Nat):Int),t]/\LA t=true)
  (ds:=rg c) (λpre d post LB U hU=>by
   obtain⟨t,rfl,ot⟩:=hU;obtain⟨rfl,hj⟩:=EX LB;refine⟨_,by simp only[jC,RB ot]<;>rfl,_, ?_,.i pre.length,rfl,rfl⟩;rw[gC,AM,Ye]
   generalize pre.length=j at *
   have hh:=H.hk;have hx:In no (xs++[(j:Int)]):=l.hx.app (In.one ⟨by lia,by lia⟩);have hf:=qf (W:=W+1300) (n:=n+5) (q:=(j:Int)) H hx;have NL:=nK (xs:=xs.map D.int) (ys:=[.int j]) (PB (by simp;lia));rw[show xs.map D.int++[.int j]=(xs++[(j:Int)]).map D.int by rw[VC];rfl] at NL;have em:((M+1:Nat):Int)-1=(M:Int):=by lia
   unfold AB at *
   cases eo:IB ps xs (j:Int) with
   |false =>
    rw[eo] at hf;rw[UA dG,kE]
    generalize (xs++[(j:Int)]).map D.int=Y at *
    generalize (A+((OB j (IB ps xs)).map λq=>aAc m ba kn ps M (mB m ba (OA m ba xs) q)).sum:Nat)=a at *
    generalize (a:Int)=a at *
    unfold nS
    walk_at "!"
   |true =>
    rw[eo] at hf
    have hq:(j:Int)∈OB kn (IB ps xs):=by(rw[OB,SD];exact⟨j,qM.mpr ⟨EI.mpr (by lia),eo⟩,rfl⟩)
    obtain⟨f1,f2⟩:=i5 H;have hn:=hc.N2 (k:=OA m ba (xs++[(j:Int)])) (by rw[<- f2];exact .step .start (by rw[f1];exact hq));rcases me (W:=W) (n:=n) H (Q7 H l (by lia) hq) hM with ⟨_,_,h4⟩ | ⟨h,_⟩
    case inr=>exact absurd h hn
    unfold AB at h4;have JH:([(j:Int)].map λq=>aAc m ba kn ps M (mB m ba (OA m ba xs) q)).sum=aAc m ba kn ps M (OA m ba (xs++[(j:Int)])):=by rw[<- f2];exact Pb _
    rw[QA rfl,VC,Zq,JH,<- cV,YU _ (aAc _ _ _ _ _ _)]
    generalize (aAc m ba kn ps M (OA m ba (xs++[(j:Int)])):Int)=v at *
    generalize (xs++[(j:Int)]).map D.int=Y at *
    generalize (A+((OB j (IB ps xs)).map λq=>aAc m ba kn ps M (mB m ba (OA m ba xs) q)).sum:Nat)=a at *
    generalize (a:Int)=a at *
    unfold nS
    walk_at "!")
  (U:=[s0,.sh hA,s2,.o (.l (xs.map D.int)),.i (((M+1:Nat):Int)),s5,s6,s7,.i A,t9]) ⟨t9,rfl,o9⟩
 rw[nA,lL] at e;exact⟨t,e⟩
end
theorem dW:∀{j:Nat} {l:List S} {U:Env},DA P C W (l.take j) U=some (.nx,U')->DA P C W l U=DA P C W (l.drop j) U'
 | 0,l,U,h=>by
  rw[FY,J2] at h;cases h;rfl
 |j+1,[],U,h=>by
  rw[List.take_nil,J2] at h;cases h;rfl
 |j+1,s::l,U,h=>by
  rw[sY,LI] at h;rw[LI,pq]
  generalize ex P C W s U=r at *
  obtain _ | ⟨fl,U1⟩:=r
  ·cases h
  ·cases fl with
   |nx=>exact dW h
   |_=>cases h
def law_spec(W:Nat)(ns:List Int)(hn:ns.length<=63):∃VA,run T (W+1300) 30 "law" [.sh (.l (ns.map .int))]=some (.ok (.b true),VA):=by
 rw[Bl (fn:=mG) rfl rfl rfl];have DW:=Yj (W:=W+1300) (n:=28) (ns:=ns) (k:=1) hn (by lia);have ug:=Yj (W:=W+1300) (n:=28) (ns:=ns) (k:=2) hn (by lia);rw[show((1:Nat):Int)=1 from rfl] at DW;rw[show((2:Nat):Int)=2 from rfl] at ug;obtain⟨s1,no,ba,oc,fs,rs,eh,ho,xg,hR⟩:=cXa (W:=W+1300) (n:=25) (k:=(JG ns 1).1) (s:=(JG ns 1).2);obtain⟨m,hm,h3,h5⟩:=hJa ho;obtain⟨ps,jT,LQ⟩:=Dl (rs:=rs) ho hm h3 rs hR;have H:HD (vA no ba oc fs rs) no ba m no.toNat ps:=⟨_,_,_,rfl,ho,hm,h3,h5,(NU (by have:=ho.n1;lia)).symm,jT,LQ,xg⟩
 have DG:=λxs=>Ei (W:=W+1300) (n:=27) (rs:=rs) (xs:=xs) ho hm
 clear ho xg hR hm h3 h5 jT LQ
 generalize vA no ba oc fs rs=hA at *
 generalize no.toNat=kn at *
 generalize (JG ns 1).1=k1 at *
 generalize (JG ns 1).2=k2 at *
 generalize (JG ns 2).1=k at *
 generalize (JG ns 2).2=k4 at *
 obtain⟨xs,s2,ew,l,lx⟩:=c0a (W:=W+1300) (n:=24) (k:=k) (s:=k4) H;have d1:=hE (W:=W+1300) (n:=28) (k:=k) (s:=s2) (m:=2) (by decide) (by decide);have hz:=λs=>vC (k:=k) (s:=s) (m:=2) (by decide)
 have GK:=λs=>uC (k:=k) (s:=s) (m:=2) (by decide)
 obtain⟨B,hB,b1,b2⟩:∃B,xD (some (.l [.int 40,.int 5])) (.int (WA k s2 2))=some (.i B)/\0<B/\B<=40:=by
  have:=hz s2;have:=GK s2
  rcases(by lia:WA k s2 2=0\/WA k s2 2=1) with e | e<;>rw[e]
  ·exact⟨40,rfl,by decide,by decide⟩
  ·exact⟨5,rfl,by decide,by decide⟩
 generalize WA k s2 2=v1 at *
 generalize IA k s2 2=s3 at *
 have d2:=hE (W:=W+1300) (n:=28) (k:=k) (s:=s3) (m:=B) b1 (by lia);obtain⟨M,hM⟩:∃M:Nat,WA k s3 B=(M:Int):=⟨(WA k s3 B).toNat,by have:=vC (k:=k) (s:=s3) (m:=B) b1;lia⟩
 have wJ:M+1<=40:=by have:=uC (k:=k) (s:=s3) (m:=B) b1;lia
 have hN:1+WA k s3 B=((M+1:Nat):Int):=by lia
 generalize WA k s3 B=v2 at *
 generalize IA k s3 B=s4 at *
 obtain⟨dM,ec,Sf⟩:∃dM,run T (W+1300) 29 "r" [.sh hA,AB xs,.i ((M+1:Nat):Int)]=some (.ok (.sh dM),[.sh hA,AB xs,.i ((M+1:Nat):Int)])/\((dM=.iA/\mJ m ba kn ps (OA m ba xs))\/(dM=.int (aAc m ba kn ps (M+1) (OA m ba xs):Nat)/\∃ks,fE no ba m kn ps (OA m ba xs) ks)):=by
  rcases tHa (W:=W) (n:=19) (N:=M+1) H l wJ with ⟨ks,h1,h2⟩ | ⟨h1,h2⟩
  ·exact⟨_,h2,.inr ⟨rfl,ks,h1⟩⟩
  ·exact⟨_,h2,.inl ⟨rfl,h1⟩⟩
 show ∃VA,MT [.sh (.l (ns.map .int))] (DA T.aA (run T (W+1300) 29) (W+1300) mG.body [.sh (.l (ns.map .int)),.un,.un,.un,.un,.un,.un,.un,.un,.un])=_
 have Af:DA T.aA (run T (W+1300) 29) (W+1300) (mG.body.take 5) [.sh (.l (ns.map .int)),.un,.un,.un,.un,.un,.un,.un,.un,.un]=some (.nx,[.sh (.l (ns.map .int)),.sh hA,.o (.l [.int k,.int s4]),.o (.l (xs.map D.int)),.i ((M+1:Nat):Int),.sh dM,.un,.un,.un,.un]):=by
  unfold mG AB CF at *
  generalize ((M+1:Nat):Int)=z at *
  generalize xs.map D.int=X at *
  generalize ns.map D.int=Y at *
  clear H DG l lx hz GK b1 b2 hM wJ Sf hn
  walk_at "!MN BP"
 rw[dW Af];clear Af ec hN hM d1 d2 hB eh ew DW ug;rcases Sf with ⟨rfl,hm⟩ | ⟨rfl,ks,hc⟩
 ·have hs:=DG xs;obtain⟨L,f,e,hl⟩:=Xw (W:=W) (n:=23) H (H.next l.hx) hm;have h2:JF .len [mD L f]=some (.i L.length):=by unfold mD;rw[j0,nA]
  have h4:decide ((150:Int)<(L.length:Int))=true:=rB (by lia);have h5:aC .Eq .iA (.int 0)=some false:=rfl;rw[d9] at hs;unfold mG
  generalize (L.length:Int)=z2 at *
  generalize mD L f=d2 at *
  generalize ((M+1:Nat):Int)=z at *
  generalize uA (OA m ba xs)=dk at *
  generalize xs.map D.int=X at *
  generalize ns.map D.int=Y at *
  clear H DG l lx hz GK b1 b2 wJ hn hm hl
  walk_at "!MN BP"
  exact⟨_,rfl⟩
 by_cases h0:aAc m ba kn ps (M+1) (OA m ba xs)=0
 ·rw[h0];have h1:decide (((0:Nat):Int)=0)=true:=rfl;unfold mG
  generalize ((M+1:Nat):Int)=z at *
  generalize xs.map D.int=X at *
  generalize ns.map D.int=Y at *
  clear H DG l lx hz GK b1 b2 wJ hn hc h0
  walk_at "!MN BP"
  exact⟨_,rfl⟩
 have fD:aAc m ba kn ps (M+1) (OA m ba xs)<=7 ^ 40:=vD (Ud H.k7 _ _) (Ga (by decide) wJ);have Qf:(7:Nat) ^ 40<100000000000000000000000000000000000000000000000000000000000000000000000000000000:=by decide +kernel
 have d1:=hE (W:=W+1300) (n:=28) (k:=k) (s:=s4) (m:=(aAc m ba kn ps (M+1) (OA m ba xs):Int)) (by lia) (by lia);obtain⟨x1,MO⟩:∃x:Nat,WA k s4 (aAc m ba kn ps (M+1) (OA m ba xs):Int)=(x:Int):=⟨(WA k s4 (aAc m ba kn ps (M+1) (OA m ba xs):Int)).toNat,by have:=vC (k:=k) (s:=s4) (m:=(aAc m ba kn ps (M+1) (OA m ba xs):Int)) (by lia);lia⟩
 have NQ:x1<aAc m ba kn ps (M+1) (OA m ba xs):=by have:=uC (k:=k) (s:=s4) (m:=(aAc m ba kn ps (M+1) (OA m ba xs):Int)) (by lia);lia
 rw[MO] at d1
 generalize IA k s4 (aAc m ba kn ps (M+1) (OA m ba xs):Int)=s5 at *
 have d2:=hE (W:=W+1300) (n:=28) (k:=k) (s:=s5) (m:=2) (by decide) (by decide)
 obtain⟨x,hxi,hx⟩:∃x:Nat,xD (some (.l [.int ((aAc m ba kn ps (M+1) (OA m ba xs):Int)-1),.int x1])) (.int (WA k s5 2))=some (.i x)/\x<aAc m ba kn ps (M+1) (OA m ba xs):=by
  have:=hz s5;have:=GK s5
  rcases(by lia:WA k s5 2=0\/WA k s5 2=1) with e | e<;>rw[e]
  ·exact⟨aAc m ba kn ps (M+1) (OA m ba xs)-1,by rw[show(aAc m ba kn ps (M+1) (OA m ba xs):Int)-1=((aAc m ba kn ps (M+1) (OA m ba xs)-1:Nat):Int) by lia];rfl,by lia⟩
  ·exact⟨x1,rfl,NQ⟩
 generalize WA k s5 2=v3 at *
 generalize IA k s5 2=s6 at *
 have CO:¬mJ m ba kn ps (OA m ba xs):=hc.N2 .start;have en:=xj (W:=W) (n:=20) H l CO wJ hx;obtain⟨g1,g2,g3⟩:=yj (nx:=mB m ba) (λs=>hW (kn:=kn) (ps:=ps) (s:=s)) hx;have NS:x+1<aAc m ba kn ps (M+1) (OA m ba xs)->HT.aAy (pI m ba kn ps (M+1) (OA m ba xs) x) (pI m ba kn ps (M+1) (OA m ba xs) (x+1))=true:=λh=>vj (λs=>hW) (zI x) h
 change (pI m ba kn ps (M+1) (OA m ba xs) x).length=M+1 at g1;change NP (dC kn ps) (mB m ba) (OA m ba xs) (pI m ba kn ps (M+1) (OA m ba xs) x) at g2;change MJ m ba kn ps (OA m ba xs) (pI m ba kn ps (M+1) (OA m ba xs) x)=x at g3
 generalize hF:pI m ba kn ps (M+1) (OA m ba xs) x=F at *
 clear hF
 have Bf:DA T.aA (run T (W+1300) 29) (W+1300) ((mG.body.drop 5).take 4) [.sh (.l (ns.map .int)),.sh hA,.o (.l [.int k,.int s4]),.o (.l (xs.map D.int)),.i ((M+1:Nat):Int),.i (aAc m ba kn ps (M+1) (OA m ba xs):Int),.un,.un,.un,.un]=some (.nx,[.sh (.l (ns.map .int)),.sh hA,.o (.l [.int k,.int s6]),.o (.l (xs.map D.int)),.i ((M+1:Nat):Int),.i (aAc m ba kn ps (M+1) (OA m ba xs):Int),.i x,.o (.l (F.map D.int)),.un,.un]):=by
  have eb:=Mv (W:=W+1300) (n:=24) H (Oi H l (by lia) g2);have NL:=nK (xs:=xs.map D.int) (ys:=F.map D.int) (PB (by simp;lia));rw[<- VC] at NL;have c0:decide ((aAc m ba kn ps (M+1) (OA m ba xs):Int)=0)=false:=eB (by lia);have hl:((F.map D.int).length:Int)=((M+1:Nat):Int):=by rw[nA,g1]
  have c1:aC .NotEq (.int ((M+1:Nat):Int)) (.int ((M+1:Nat):Int))=some false:=by rw[Dd,rB rfl];rfl
  have c2:aC .NotEq (.l []) (.l [])=some false:=rfl
  unfold mG AB at *
  generalize (xs++F).map D.int=XF at *
  generalize ((M+1:Nat):Int)=z at *
  generalize (aAc m ba kn ps (M+1) (OA m ba xs):Int)=cv at *
  generalize (x:Int)=xz at *
  generalize (x1:Int)=Xo at *
  generalize xs.map D.int=X at *
  generalize ns.map D.int=Y at *
  generalize F.map D.int=F1 at *
  clear H DG l lx hz GK b1 b2 wJ hn hc h0 fD Qf MO NQ hx CO g1 g2 g3 NS
  walk_at "!MN BP"
 rw[dW Bf];clear Bf d1 d2 hxi en fD Qf MO NQ DG hz GK b1 b2
 have Df:DA T.aA (run T (W+1300) 29) (W+1300) (((mG.body.drop 5).drop 4).take 1) [.sh (.l (ns.map .int)),.sh hA,.o (.l [.int k,.int s6]),.o (.l (xs.map D.int)),.i ((M+1:Nat):Int),.i (aAc m ba kn ps (M+1) (OA m ba xs):Int),.i x,.o (.l (F.map D.int)),.un,.un]=some (.nx,[.sh (.l (ns.map .int)),.sh hA,.o (.l [.int k,.int s6]),.o (.l (xs.map D.int)),.i ((M+1:Nat):Int),.i (aAc m ba kn ps (M+1) (OA m ba xs):Int),.i x,.o (.l (F.map D.int)),.un,.un]):=by
  have MO:(x:Int)+1=((x+1:Nat):Int):=rfl;by_cases h1:x+1<aAc m ba kn ps (M+1) (OA m ba xs)
  ·have c0:decide (((x+1:Nat):Int)<(aAc m ba kn ps (M+1) (OA m ba xs):Int))=true:=rB (by lia);have en:=xj (W:=W) (n:=20) H l CO wJ h1;have c1:=zw (ns:=F) (ms:=pI m ba kn ps (M+1) (OA m ba xs) (x+1));rw[NS h1] at c1
   unfold mG AB at *
   generalize (pI m ba kn ps (M+1) (OA m ba xs) (x+1)).map D.int=F2 at *
   generalize ((M+1:Nat):Int)=z at *
   generalize (aAc m ba kn ps (M+1) (OA m ba xs):Int)=cv at *
   generalize ((x+1:Nat):Int)=Xo at *
   generalize (x:Int)=xz at *
   generalize xs.map D.int=X at *
   generalize ns.map D.int=Y at *
   generalize F.map D.int=F1 at *
   clear H l lx wJ hn hc h0 hx CO g1 g2 g3 NS h1
   walk_at "!MN BP"
  ·have c0:decide (((x+1:Nat):Int)<(aAc m ba kn ps (M+1) (OA m ba xs):Int))=false:=eB (by lia);unfold mG
   generalize ((M+1:Nat):Int)=z at *
   generalize (aAc m ba kn ps (M+1) (OA m ba xs):Int)=cv at *
   generalize ((x+1:Nat):Int)=Xo at *
   generalize (x:Int)=xz at *
   generalize xs.map D.int=X at *
   generalize ns.map D.int=Y at *
   generalize F.map D.int=F1 at *
   clear H l lx wJ hn hc h0 hx CO g1 g2 g3 NS h1
   walk_at "!MN BP"
 rw[dW Df];clear Df NS;have e2:=zj (W:=W) (n:=20) H l CO (by lia) g2;rw[g3] at e2;obtain _ | ⟨q,r⟩:=F
 ·cases g1
 have gr:r.length=M:=by simpa using g1
 obtain⟨f1,f2⟩:=i5 (xs:=xs) H;have hq:q∈OB kn (IB ps xs):=f1 ▸ g2.1;obtain⟨qn,hqn,rfl⟩:∃qn:Nat,qn<kn/\q=(qn:Int):=⟨q.toNat,by have:=uQ hq;lia,by have:=uQ hq;lia⟩
 have gf:=g2.2;rw[f2] at gf;have e1:=zj (W:=W) (n:=20) (ys:=r) H (Q7 H l (by lia) hq) (hc.N2 (by rw[<- f2];exact .step .start g2.1)) (by lia) gf;have k7:=H.k7;have hi:∀{U:Env},aAb .MB [.val (.i qn)] U=some (rg qn,none):=λ{U}=>aM (by lia)
 obtain⟨t,el⟩:=wHa (W:=W) (n:=20) (M:=M) (A:=MJ m ba kn ps (OA m ba (xs++[(qn:Int)])) r) (c:=qn) (s0:=.sh (.l (ns.map .int))) (s2:=.o (.l [.int k,.int s6])) (s5:=.i (aAc m ba kn ps (M+1) (OA m ba xs):Int)) (s6:=.i x) (s7:=.o (.l (((qn:Int)::r).map D.int))) (t9:=.un) H l (by lia) hc (by lia) (by lia) rfl
 have hs:MJ m ba kn ps (OA m ba (xs++[(qn:Int)])) r+((OB qn (IB ps xs)).map λq=>aAc m ba kn ps M (mB m ba (OA m ba xs) q)).sum=x:=by(rw[<- g3];show _=(((dC kn ps (OA m ba xs)).filter λp=>decide (p<(qn:Int))).map λp=>aAc m ba kn ps r.length (mB m ba (OA m ba xs) p)).sum+MJ m ba kn ps (mB m ba (OA m ba xs) (qn:Int)) r;rw[gr,f1,Ze (by lia),f2,Nat.add_comm])
 rw[hs] at el;have NL:=nK (xs:=xs.map D.int) (ys:=[.int qn]) (PB (by simp;lia));rw[show xs.map D.int++[.int qn]=(xs++[(qn:Int)]).map D.int by rw[VC];rfl] at NL;have sl1:tI (some (.l (((qn:Int)::r).map D.int))) none (some (.int 1))=some (.ow (.l [.int qn])):=qR (c:=1);have aJ:tI (some (.l (((qn:Int)::r).map D.int))) (some (.int 1)) none=some (.ow (.l (r.map D.int))):=qWa (c:=1);have hi0:xD (some (.l (((qn:Int)::r).map D.int))) (.int 0)=some (.i qn):=uEa;have hqx:aC .Eq (.int x) (.int x)=some true:=by rw[Bd,rB rfl]
 unfold mG AB at *
 generalize (rg qn)=LL at *
 generalize (MJ m ba kn ps (OA m ba (xs++[(qn:Int)])) r:Int)=nr at *
 generalize (xs++[(qn:Int)]).map D.int=Xq at *
 generalize ((qn:Int)::r).map D.int=F1 at *
 generalize r.map D.int=R1 at *
 generalize (qn:Int)=qz at *
 generalize ((M+1:Nat):Int)=z at *
 generalize (aAc m ba kn ps (M+1) (OA m ba xs):Int)=cv at *
 generalize (x:Int)=xz at *
 generalize xs.map D.int=X at *
 generalize ns.map D.int=Y at *
 clear H l lx wJ hn hc h0 hx CO g1 g2 g3 gr f1 f2 hq hqn gf k7 hs
 walk_at "!MN BP"
 exact⟨_,rfl⟩
end Mx
namespace PySem.W.Fast
local macro_rules | `(command|universe $x)=>do let l:=x.getId.toString.toList;let c←(List.range (l.length/11)).toArray.mapM λi=>(do let n:=Lean.mkIdent (.mkSimple s!"tw{((l.drop (1+11*i)).take 11).foldl (fun n d=>62*n+(d.toNat-if d<'A' then 48 else if d<'a' then 55 else 61)) 0}");`(command|def $n:ident:=True));return Lean.mkNullNode (c.map (·.raw))
universe xBwCfZkOv49pBwF1EV2VfLFC0bLZ5ON3kEC3wGptCPtK8C4IKGKiDXfNC7OYEln1L6aC8NTD5aYXxyC8VoLMYmlY6C9MvySI2t9nC9amsn4s6aKCDXlS11sUJuCDjGbDKVfZ3CFxdDnLMi04CG9BjvuezWOCGhhYGulD67CKEHGJE9DfzCLRBeIpZACuCLdyWKz6l8dCNFalKtz5bFCO3w7thA6BeCO4cOCymrCICUGIemLovNoCcLAncGCJlNCd6sJ4lDOpF07q005zLVdDCgUVkylis99CjYp2ue9Z8NCmcKxqpVprFCo9xnjWdiU6CoPmBESFX3rCs6UvVOzcRnCsWuGGjBqYTCtQGoC77moPD6WzVg4QjlA1KGSKW9sA0BDINXOT5Y1LGDJUoE2r7l2yDJfXCixuNbmDL2OshCV0y9DMyuzYG8phpDO2QuKt98oiDRESsNSNXPODVtF7fsT1zWDZ1XUhnnjpCDd4cQHGDeBTDfWA8Mqr7qk1MqGrlf7V9HDqoGL7LnvWxDun7bpIzmeN1OX2DIgKdkvE3EjtBdEqwRE4khqzHMDHHE5LCBSlyHfpE6EsNshLftaECiaUaiqaXBENzscNDdFHEEQGjlEV2yriETKXeF3OdMOEUjmwWoo9SBEeuADxugApQEfAT5yF9byuEk07at78FRnErWll0vfY53EsWabeMBs4uEtm3o0ymUwcEuyMDfYjiUTF6WDFkVUrYkF7YH30dHtlhF8PX95xd4EFFB0WouWJ6NrFEGhI6qVfIjFEm8vGAGoyuFFVOAAnSsAeFKg7WqgpIkBFNOftSxWtnPFNhI633Ln8IFRDoA1zX6wRFT0eauF230G1XwuGjDCUEJFTWgdyfhxiR1Yji2DgBOcIFctDkktVw6mFfs2YlH2ty6Fg66J9tZJbQFjpSmdGJautFlzzVHDX4sWFsrds6YcKIYFtU6POHiAsqFu1CU2rhTyrFuDxeYpNOj7Fw90rg1bqXEFwGtvR0JzxGFxK6fQVqcfSFxV3fvmTseDFxgpv3du8bZFzwM2eNd3b0G6O96JZ89emG8TaVN6NW74G9fFe73bFhIGCIzWuKHNb2GG1bsOwdLcyGGSLXHIhCnTGGx5OMqWXKTGL2rYL8Le2e1dd2V1zphUeGUdTjXA28YBGWQWkHUdo18GYEVKHoy5PKGbFWm2KYmngGbHU6pUcRgJGedw8q6S0cEGh6wM7eT2MEGj3nP7pN2w9Gol4R48jbXwGpF6r0b1YMvGpkfIGfGdev1gZi3Dx4syUGxGGYfGbqxmH15UJ6pIi4eH2233eIHDruH31dQanIXn61hlWy2rBx12H4F9dDALfaLH8QgDK2nm4gHBGBfd8ZK7B1ixzZhQIMt0HHhD3mXxhKbHILxFIOBuZ11k7hvdSdjfOHRw5NqVI2taHS42lvIdoqQHaXf7hzwUxqHh6YAMpep06HhDRxbBmfOSHmOk3qdAMInHsLNuhP9ChTHxhOMDgREQvHzgRHMBNxtWI1iXedCziBWI8Zxv6VKsPXIAGPf5hkzgXIAqy2SBRXcjIGrFPHVzLomIILBrKNWO5iIL5YQAZO7MOILN9VgOmzvsIOKRp3mGwh9IOiSSnSx8pNIP2au66IWcgIR0XgXzx3weIUYDqLfkAm90BYscGMz11d1rkZRG47sGMIfxlC3fyCcGImK9ZfMLf4xIztTl2cST6EJ0zmc6boM76J1PlegVZmlZJ57qiYTF1bg1uPvGU3srkPJAhZMcX29NRJBvgQPcdA3sJCecgKvPiLcJL5kw9nGtJ0JPvSDBolgBbJa4YcVNR1LrJdxndd7pj4w1y1dJ3TTTxdJhXq7VTkReUJiDPPei4xFOJitaaEcuEFFJr3QGN1ebYMJwYpLblSeR8JwZ7s0fw0fXJyN9lxEZYEIK19THEwh05jK2vM7zeQt9eK43SBtGQ7jKK5oeOUoYLadKDZl5WqLughKG3w6gLiCEdKIb3mo4xQeMKIwObtl8MwVKIxhuwMj7T621vCzqOVEXGKPGhWBCSjs2KRAAnq57lqrKRATs8x6JADKRK0YXbiTZOKSeY9Tt0jbSKVNZ1w9c0o6KVYCHmnF5YOKWCv1qC9w8WKbvxULwuZFzKhLCn0umvMyKmfJ1Kpr8C5KnhVHJ1UMlBKovfUKEn40V0Cva5iq5jXsKuAcZInylIlKvsmxGbhO6z25xaGMOdyd826PVAcUu75YL3OiHoY2ZncLD3zzVxVL3ILHQZCOvX06HLNFVu8JeZj8LPdsYw1NGS0LRj17ft81iiLTM7gkOsywELamMpWt9obHLbmmQ3VWOCmLloUv3L2VhWLp7EWi9GEvALqKgBJtqlXzLsh8HgMmKtk2EresP7CDpD2KtaKQ186PU2MVmULWcjbr2OPaYU9Dn3N2WyCXutUX7n2agNkuHjx1W2iyxTJTYd1v2pG2aSAmJzy0HpC1lcsLds2sggBk1dDKI2tYGKHDYzAc2uenYBz3qRy0IhvZGjyTEV35SeHP7JOU837HjA7IYkNz39Dg1hlbT2Q3GhFnOWDPo33Hs25UsNvz53JHeMbpw2zf3Ka92d7S22i3NtaDsGzFTj0LStozVXz5Q0LmdQt4fd0K0LrktyP7OiV3dEsOgOylhO3hsuK4S7rJO3lGA8A5Rdy23mHhkAPsrNO0NQgPCGlISf3nZmgeVT88w3p889RLZaRZ3w4P6uANhfv3zBRn3WVdF941PoYuXPbwl48JFJO5TbXd48qnaFvXJkg49fnnSNLSsg0Plc8GZL1514CQPoK6KnUb4GuEpd7opss4GxYrPBN4ST4Ks9UePiOWd0QzBCY1KpMy4N9iGYobTyz4OjwHTxwD8k4PSBTMLqvHV4TX4kT6dNUO4UJVyIhSwxW4UeC16H3lDo4W0BRpIHrWa4YDZi1WwIAm4aVKxdA6ZbL4cO3YdeBYyM4cZTnlgYpSM4dWUrZXROoe4fVv3VENZcz4ighqELiDLy4kRE9GyUd3m0TWVKi3LaVE4lPPwIA7EYA4qzR6lrXUgr4rNEsYisI4A4vNC3WbkjJ64zk7ZnOFxiG4znX8DKmH8P50u3sN1HEQ653GUbd4ap3y56zvFac8YcC59yACEYk4Zw5BcJKUcEIbo0WWcddJMzWb5JPGtvhz1635WFEyvQtvkF5XZVoeghLb55a2XNJJzeg05dPjIAtXPsV5jQ9w6NBNiA0ZbiQQwCoQw5kPSd9948Jy5khyqn3J0ER5myuhVKD16n5pU6JkUEyBN0aFoz1hO6CN5rZWAjgGAh55vFq50y6hmy5vd5XhRAaiI5y9fXGZ5oI762LyaeYFhUV6CxpKEPD6sb6EAuTptd19Q6NbFIwHbwtb6O1VIrl6CwP0drobM4dSHx6UciyhgxR696VK9Z4ZPiMb0eeeB85XdDP6YbNjXND0JI6cXGcBKXBP56h5X1AiwJw66h5yXW7Z8SG6hGQqjb0YjO6l4YgJZnHGO6nOeCS2VuWL6nXBAsoy7dk6tVOnz8VYLV74L5ZrfLo9a76MOz0ZQdCM76UptdAMcMs7AJNtdfOsdg7Ak8TcO6SHM7DZcZ9JaXm27FTUnRvxTq47IwQ3G012Xn7SPaoiZRKw17TUMgtVegH67adhB6YDon67cC5amub4Dd7cWq23Ujecg7ljU1hdMFav0mJ7RsofRB70mRq24fzU5R7q2b0CP1BpY7uNvleaUSWu7w7mK4vQH7I7xIaPyYD6Cq7y3jNLtcpmX82W0o3bGOwB0o6kKTnDp6K86UW2jUtCtn87wDNAphSso0oQDDwVDF9i8FabD4pVuqR8JcbT8WB5we8MvNYFMM8R80q8hosZD6SM8RuRohlNqNZ0qgylKQjKaa8aK7NRmeRRN8eWEKthjkJN8etFHefI91L8fLLXicXnry0rr2ptRFMIy8kcGgx9fbD78mrnV7kjcMd8pEKY99LTNT0skTY17YAvt8r9IucHFPZF8vJ3Tzf9aZs0tXHjqKMXAX9036DzWXrpN94ldx7OglLl95DwoYMUG2s97YIqZFiCD598nApZAwwgt9IHmRjqYZuo9Irf9oQWrvc9OXtPgsHysl0wir94Qu07O9URaHub1KcK9VgT0VUdhe09W10on4I1Ru0xSKw7fV4xG9bLCXmnGgth9c0Ii7tLpGn9e1KVhkQih79ggEtCkFIBr9i8JKtjkFbP0yRDj9JwTZO9keEbX8S2sY9lSzoKvEg1i0yqQWSVczdD9pyTVC682uz9qRicMED0L49r8BUYO0One9sVyQoSzlEo9sfo2gGYkk09uny4Lx7oT39wpfuimXvBOA3MJpOX1WQVA6VsqzmwcCkA85pm0MJtdEA8EYCMCsLlYA9XeiEEuh4f112GmZ1WnARADqSGETBRe1AEgHwFWUfkgAHzvU4Lh03fAIEAHacKuZfAN9s0flbLOTAPRSYh5HxUsAPpFg8H2vDcATd7sgfSNd1AYPkhYtAmxHAax52hXpyrhAby4yjez8V6AcablDOwsWsAcgI5njFcDcAqnwSWV64nAArdKvanNrgUAsFUaUyrZusAv66sJ6fVbeAwS8nlYgMcPAxkkcWk7qQuAyKcuvMMk7sB2d4tV86LhWB3Xu0KDwozBB4eT7aNrZlcB4rmTvaXlCLBFDIulDQ5ScBGGrDP5ILMMBIpvwKSifMTBKarghmAYUtBL2n8V7W3OxBSqjJWLeBv4BUKZ49zxU7zBV3RkrszLqXBVSk3aEo6pwBac0CCMCH0QBhqmDeN9v2nBk9eKW4eVPaBsIrVvizPJu
end PySem.W.Fast
open PySem PySem.W PyProof.Rows
local macro_rules | `(tactic| exists $n,$b,$f)=>`(tactic| refine CI.p_ $(Lean.mkIdent `KX) $(Lean.mkIdent `G) (show CI.SR _ (Tx.top $n) _ $f from CI.KJ $b) ?_)
set_option maxRecDepth 100000 in
set_option maxHeartbeats 0 in
theorem PySem.Challenge.cw_canonwright_k46_whole_far_lists_holds : PySem.Challenge.rw_canonwright_k46_whole_far_lists.Holds := by
 w_on;o_law;k_head;(case hw=>w_witness2)
 k_fill
 refine CI.xHa (l:=PySem.Challenge.rw_canonwright_k46_whole_far_lists) (T:=Tx.T) (L:=Tx.L) (st:=Tx.top 85) (fn:=Tx.mG) (W:=1000000) (n:=30) (x:="law") (p:="_law_script") (f:="law") rfl rfl ⟨rfl,by decide,by decide,rfl⟩ rfl Tx.cu Tx.zMa (by decide +kernel) (λw h Y=>PySem.W.kIn_of Y) ?o_ ?fJa
 case fJa=>exact Mx.law_spec _
 case o_ =>
  intro w mg h KX G;have jZ:CI.ClsAt (L2.VB KX) "Span":=by refine' CI.iO ?a ?pg ?hd ?po ?sa ?mk ?kp;(case a | pg | hd | po | sa | mk | kp=>dsimp only[L2.VB];k_is)
  have Bc:CI.ClsAt (L2.VB KX) "Leap":=by refine' CI.iO ?a ?pg ?hd ?po ?sa ?mk ?kp;(case a | pg | hd | po | sa | mk | kp=>dsimp only[L2.VB];k_is)
  have Ac:CI.ClsAt (L2.VB KX) "Back":=by refine' CI.iO ?a ?pg ?hd ?po ?sa ?mk ?kp;(case a | pg | hd | po | sa | mk | kp=>dsimp only[L2.VB];k_is)
  have yc:CI.ClsAt (L2.VB KX) "Again":=by refine' CI.iO ?a ?pg ?hd ?po ?sa ?mk ?kp;(case a | pg | hd | po | sa | mk | kp=>dsimp only[L2.VB];k_is)
  have iZ:CI.ClsAt (L2.VB KX) "Range":=by refine' CI.iO ?a ?pg ?hd ?po ?sa ?mk ?kp;(case a | pg | hd | po | sa | mk | kp=>dsimp only[L2.VB];k_is)
  have xc:CI.ClsAt (L2.VB KX) "Above":=by refine' CI.iO ?a ?pg ?hd ?po ?sa ?mk ?kp;(case a | pg | hd | po | sa | mk | kp=>dsimp only[L2.VB];k_is)
  have Dc:CI.ClsAt (L2.VB KX) "Never":=by refine' CI.iO ?a ?pg ?hd ?po ?sa ?mk ?kp;(case a | pg | hd | po | sa | mk | kp=>dsimp only[L2.VB];k_is)
  have D_law:CI.RR (L2.VB KX) "law" (Tx.top 85):=by refine' CI.Be ?a ?l ?c ?k;(case a | l | c | k=>dsimp only[L2.VB];k_is)
  have Gr:CI.lJ (L2.VB KX) mg Tx.T (CI.rF Tx.L) ("LEADER",.c (.t [(.int 0),(.int 0),(.bl false)])):=by
   refine' CI.de KX G ?a ?l ?c ?z
   (case a | l=>dsimp only[L2.VB];k_is)
   (case c=>first | rfl | decide +kernel)
   (case z=>rfl)
  have Er:CI.lJ (L2.VB KX) mg Tx.T (CI.rF Tx.L) ("BY_THE_LINE",.c (.t [])):=by
   refine' CI.de KX G ?a ?l ?c ?z
   (case a | l=>dsimp only[L2.VB];k_is)
   (case c=>first | rfl | decide +kernel)
   (case z=>rfl)
  have Kc:CI.TR (L2.VB KX) "TooMany":=by
   refine' CI.Me ?a ?xq ?ga ?no ?cl ?gt ?tk ?mo ?mb ?mv
   (case a | ga | no | cl | gt | tk | mo | mb | mv=>dsimp only[L2.VB];k_is)
   (case xq=>dsimp only[L2.VB];k_exc)
  have eu:CI.TR (L2.VB KX) "NoNumber":=by
   refine' CI.Me ?a ?xq ?ga ?no ?cl ?gt ?tk ?mo ?mb ?mv
   (case a | ga | no | cl | gt | tk | mo | mb | mv=>dsimp only[L2.VB];k_is)
   (case xq=>dsimp only[L2.VB];k_exc)
  refine⟨D_law, ?_⟩;unfold Tx.L
  iterate 8 refine CI.fc (by refine' CI.ae KX G ?a;(case a=>k_is)) ?_
  refine CI.fc (Gr) ?_;refine CI.fc (Er) ?_
  iterate 7 refine CI.fc (by refine' CI.ae KX G ?a;(case a=>k_is)) ?_
  exists 16,CI.aI,Tx.C4
  exists 17,CI.zG,Tx.D4
  exists 19,CI.vE,Tx.N4
  exists 20,CI.vE,Tx.Q4
  exists 21,CI.II,Tx.X4
  exists 22,CI.zG,Tx.S4
  exists 23,CI.zG,Tx.y4
  exists 26,CI.aI,Tx.R4
  exists 27,CI.zG,Tx.J4
  exists 36,CI.aI,Tx.FL
  exists 38,CI.aI,Tx.P4
  exists 39,CI.II,Tx.i4
  exists 40,CI.vE,Tx.B4
  exists 41,CI.vE,Tx.l4
  exists 49,CI.aI,Tx.F4
  exists 50,CI.vE,Tx.Z4
  exists 51,CI.vE,Tx.T4
  exists 52,CI.aI,Tx.E4
  exists 53,CI.vE,Tx.K4
  exists 54,CI.zG,Tx.Z3
  exists 55,CI.vE,Tx.W4
  exists 56,CI.vE,Tx.V4
  exists 59,CI.aI,Tx.n4
  exists 60,CI.vE,Tx.Y4
  exists 61,CI.vE,Tx.O4
  exists 62,CI.zG,Tx.A4
  exists 63,CI.II,Tx.L4
  exists 64,CI.zG,Tx.M4
  exists 66,CI.vE,Tx.K3
  exists 67,CI.vE,Tx.A3
  exists 68,CI.Av,Tx.L3
  exists 69,CI.aI,Tx.D3
  exists 70,CI.aI,Tx.M3
  exists 71,CI.zG,Tx.C3
  exists 72,CI.zG,Tx.IS
  exists 73,CI.zG,Tx.J3
  exists 74,CI.Bv,Tx.gW
  exists 75,CI.II,Tx.EL
  exists 76,CI.aI,Tx.E3
  exists 77,CI.vE,Tx.N3
  exists 78,CI.aI,Tx.Z2
  exists 79,CI.vE,Tx.B3
  exists 80,CI.vE,Tx.Q3
  exists 81,CI.vE,Tx.l3
  exists 82,CI.zG,Tx.O3
  exists 83,CI.vE,Tx.i3
  exists 84,CI.zG,Tx.y3
  exists 85,CI.aI,Tx.mG
  refine CI.fc (CI.jO KX G jZ (by refine' CI.HG ?a ?b ?i ?l ?c ?k;(case a | b | i | l | c | k=>(try dsimp only[L2.VB]);k_is)) Tx.xCa (by(repeat refine CI.fc (by refine' CI.WO ?a ?b;(case a | b=>(try dsimp only[L2.VB]);k_is)) ?_);exact λ_ h=>nomatch h)) ?_;refine CI.fc (CI.jO KX G Bc (by refine' CI.HG ?a ?b ?i ?l ?c ?k;(case a | b | i | l | c | k=>(try dsimp only[L2.VB]);k_is)) Tx.uCa (by(repeat refine CI.fc (by refine' CI.WO ?a ?b;(case a | b=>(try dsimp only[L2.VB]);k_is)) ?_);exact λ_ h=>nomatch h)) ?_;refine CI.fc (CI.jO KX G Ac (by refine' CI.HG ?a ?b ?i ?l ?c ?k;(case a | b | i | l | c | k=>(try dsimp only[L2.VB]);k_is)) Tx.tCa (by(repeat refine CI.fc (by refine' CI.WO ?a ?b;(case a | b=>(try dsimp only[L2.VB]);k_is)) ?_);exact λ_ h=>nomatch h)) ?_;refine CI.fc (CI.jO KX G yc (by refine' CI.HG ?a ?b ?i ?l ?c ?k;(case a | b | i | l | c | k=>(try dsimp only[L2.VB]);k_is)) Tx.sCa (by(repeat refine CI.fc (by refine' CI.WO ?a ?b;(case a | b=>(try dsimp only[L2.VB]);k_is)) ?_);exact λ_ h=>nomatch h)) ?_;refine CI.fc (CI.jO KX G iZ (by refine' CI.HG ?a ?b ?i ?l ?c ?k;(case a | b | i | l | c | k=>(try dsimp only[L2.VB]);k_is)) Tx.wCa (by(repeat refine CI.fc (by refine' CI.WO ?a ?b;(case a | b=>(try dsimp only[L2.VB]);k_is)) ?_);exact λ_ h=>nomatch h)) ?_;refine CI.fc (CI.jO KX G xc (by refine' CI.HG ?a ?b ?i ?l ?c ?k;(case a | b | i | l | c | k=>(try dsimp only[L2.VB]);k_is)) Tx.rCa (by(repeat refine CI.fc (by refine' CI.WO ?a ?b;(case a | b=>(try dsimp only[L2.VB]);k_is)) ?_);exact λ_ h=>nomatch h)) ?_;refine CI.fc (CI.jO KX G Dc (by refine' CI.HG ?a ?b ?i ?l ?c ?k;(case a | b | i | l | c | k=>(try dsimp only[L2.VB]);k_is)) Tx.vCa (by(repeat refine CI.fc (by refine' CI.WO ?a ?b;(case a | b=>(try dsimp only[L2.VB]);k_is)) ?_);exact λ_ h=>nomatch h)) ?_;refine Ea.mpr ⟨⟨"broken",rfl,by unfold Tx.PJ;exact CI.fc (CI.iM jZ (by refine' CI.HG ?a ?b ?i ?l ?c ?k;(case a | b | i | l | c | k=>(try dsimp only[L2.VB]);k_is)) Tx.hMa rfl) (CI.fc (CI.iM Bc (by refine' CI.HG ?a ?b ?i ?l ?c ?k;(case a | b | i | l | c | k=>(try dsimp only[L2.VB]);k_is)) Tx.dMa rfl) (CI.fc (CI.iM Ac (by refine' CI.HG ?a ?b ?i ?l ?c ?k;(case a | b | i | l | c | k=>(try dsimp only[L2.VB]);k_is)) Tx.cMa rfl) (CI.fc (CI.iM yc (by refine' CI.HG ?a ?b ?i ?l ?c ?k;(case a | b | i | l | c | k=>(try dsimp only[L2.VB]);k_is)) Tx.bMa rfl) (CI.fc (CI.iM iZ (by refine' CI.HG ?a ?b ?i ?l ?c ?k;(case a | b | i | l | c | k=>(try dsimp only[L2.VB]);k_is)) Tx.fMa rfl) (CI.fc (CI.iM xc (by refine' CI.HG ?a ?b ?i ?l ?c ?k;(case a | b | i | l | c | k=>(try dsimp only[L2.VB]);k_is)) Tx.aMa rfl) (CI.fc (CI.iM Dc (by refine' CI.HG ?a ?b ?i ?l ?c ?k;(case a | b | i | l | c | k=>(try dsimp only[L2.VB]);k_is)) Tx.eMa rfl) (λ_ h=>nomatch h)))))))⟩, ?_⟩;refine Ea.mpr ⟨⟨"forbids",rfl,by unfold Tx.xN;exact CI.fc (CI.iM jZ (by refine' CI.HG ?a ?b ?i ?l ?c ?k;(case a | b | i | l | c | k=>(try dsimp only[L2.VB]);k_is)) Tx.iMa rfl) (CI.fc (CI.iM iZ (by refine' CI.HG ?a ?b ?i ?l ?c ?k;(case a | b | i | l | c | k=>(try dsimp only[L2.VB]);k_is)) Tx.gMa rfl) (λ_ h=>nomatch h))⟩, ?_⟩
  iterate 14 refine CI.fc (by refine' CI.xv KX G ?a;(case a=>k_is)) ?_
  refine CI.fc (CI.Pe KX G Kc) ?_;refine CI.fc (CI.Pe KX G eu) ?_;refine CI.fc (CI.c_ KX G Kc (by(repeat refine CI.fc (by refine' CI.pJa ?a ?b ?m;(case a | b | m=>k_is)) ?_);exact List.forall_mem_nil _)) ?_
  exact λ_ h=>nomatch h
