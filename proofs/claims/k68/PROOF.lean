import PyProof.Rows.All
import Wide.All
import OpenK.AllK
import PySem.Challenge.RW_canonwright_k68_a_desk_sings
open Option renaming some->aA,none->eA,map_some->JD,bind_some->tF,bind_eq_some_iff->MJ,map_eq_some_iff->NJ,casesOn->cH,getD_none->Nf
open PySem.Str renaming ofString->rA,join->XD
open Bool renaming false->cA,true->bA,and_eq_true->IA,false_ne_true->JE,or_false->qE,false_or->SF,false_eq_true->KI,or_true->TF,true_or->VF,true_and->XG,and_true->EH,or_eq_true->EJ,false_and->FJ,casesOn->hQ,not_eq_true->O1,eq_iff_iff->U1,and_false->V1,or_eq_false_iff->jf
open List renaming length_map->pA,getElem?_eq_getElem->xC,length_append->PB,replicate->CB,length_cons->VB,getElem?_eq_some_iff->lD,mem_map->wB,all_cons->IB,mem_cons_of_mem->XC,size_toArray->DC,getElem?_cons_zero->YD,range->EB,getElem?_map->dD,mem_cons_self->AD,getElem?_set_ne->ZD,map_cons->HC,casesOn->EC,getD_eq_getElem?_getD->ZG,map_append->BD,mem_singleton->ME,mem_cons->mD,lookup_cons->pE,getElem?_cons_succ->JH,all_eq_true->sF,set_cons_zero->qG,set_cons_succ->rG,mem_append->QE,mem_of_getElem?->aH,getElem?_set_self->II,append_nil->OF,length_set->PF,mem_append_right->JI,map_map->rE,getElem?_append_right->rM,length_range->LH,take_of_length_le->QK,mem_range->IG,length_nil->bH,getElem?_range->OJ,getElem?_eq_none->SK,filter_append->PJ,length_take->MI,getElem?_append_left->FN,replicate_succ->DK,length->MF,append_assoc->BJ,length_singleton->dM,foldl_cons->DJ,length_filter_le->HN,zip_cons_cons->gM,lookup->YG,flatten_cons->iM,take_succ_cons->JN,all_nil->EI,length_drop->jM,take_succ->GK,mem_filter->kM,range_succ->lM,map_nil->HJ,any_cons->oM,mem_append_left->CT,forall_mem_cons->DT,take_length->NP,cons_append->QP,drop_eq_getElem_cons->I0,map_eq_nil_iff->FT,getElem?_replicate->K0,append_cancel_left->O0,reverse_cons->MT,take_zero->bQ,isEmpty_iff_length_eq_zero->Ae,nodup_cons->QT,nil_append->UT,filterMap_cons->S0,filter_eq_self->V0,drop_zero->XT,map_inj_right->B1,sum_cons->bU,length_eq_zero_iff->Ke,getElem_mem->P1,filter_cons->Q1,all_map->fU,append_eq_nil_iff->Te,filter_eq_nil_iff->Ue,of_mem_zip->T1,length_replicate->We,dropLast_eq_take->df,mem_of_mem_take->kf,foldl_nil->y2,drop_succ_cons->pf,flatMap_append->qf,map_congr_left->sf,mem_filterMap->xf,contains_cons->Bf,any_eq_false->Ef,filter_congr->Jf,take_add_one->Kf,foldl_append->Lf,drop_length->Qf,isEmpty_iff->Sf,mem_flatMap->Vf,map_id->Z2,forIn_cons->dg,filter_map->kg,foldl->B3,drop_drop->ng,map_drop->qg,map_take->sg,map_id''->ug
open PySem.W renaming Frag->jA,nsIn->lC,findIn->RF,keepIn->JG,fnOf->nG,emptyDict->AJ,instObj->FK,mg_of->IK,plainGet->MN,codeIn->mM,kia_one->NN,hasDictIn->KP,makesIn->OT,plainGet_of->U0,isFn->fQ,lookIn->VT,callWith_K->W0,methodObj->C1,plainOver->D1,OpenLaw->lQ,cellsFrom_some->Me,takerIn->S1,methodCall_KW->Ve,mroIn->D2,handedIn->Mf,kin_not->bg,KeysLit->cg,WalkO->i3,isIn->vg
open PySem renaming Str->fA,Value->gA,wpAny_bind->WA,mainGlobals->uB,Shared->HA,Addr->lA,wpAny_pure->YB,wpAny->JA,Expr->zA,starEach->eC,foldedSetIterable->LI,compareOp->KD,Stmt->cB,binaryOp->zD,wpAny_truthy_bool->EK,assignEach->HG,bootBuiltins->AI,behindInMarks->GJ,FuncData->pF,Program->oE,wpAny_mono->FH,mem_of_lookup->GP,World->WC,wpAny_field->IJ,wpAny_Call_Name_kw->HP,wpAny_setField_rec->IP,Heap->XB,wpAny_pyIter_list->JP,wpAny_newObj_type->MP,backTo->IE,NameKind->GH,wpAny_passesOwn->VP,call_meets->JK,wpAny_callSpecial?_slot->M0,Env->JJ,codeAny_mono->SN,intText?->aQ,Around->oG,Obj->AB,PassesOwn->qM,Scope->rF,typeIs_str->TN,Operator->MK,wpAny_pyIter_enum->F1,wpAny_holding->YT,wpAny_standAt->ZT,IsEnum->IH,noFill_tuple_add->K1,wpAny_call_entry->L1,DictEntry->UN,CmpOp->pG,codeAny->NK,concat_meets->dU,IsPart->GI,wpAny_execs_nil->R1,sizeLine_eq->hU,codeAny_call_builtin->gf,Pos->vC,seq_tuple_add->C2,Within->F2,wpAny_assign_Name->Df,seqIndex_neg->O2,slot_list_getitem->Ff,JoinOk->XN,seqIndex_of->V2,wpAny_Name->k3,wpAny_call->o3,typeIs_int->A3,call->C3,Reads->OK,boot_len->lg,BindsTo->iU,Keyword->jU,Params->nQ
open Option.some renaming injEq->cC,inj->pD
open PySem.Heap renaming get?_push_of_some->aD,lt_size->nC,get?_push_size->NF,SameBut->DI,get?_none_of_le->zT,size_push->WT,get?_update_other->Pe
open Nat renaming le_refl->oB,lt_of_lt_of_le->aE,le_trans->KC,ne_of_lt->SD,lt_succ_self->CJ,zero_le->FI,pow_le_pow_right->FP,min_eq_left->PN,lt_irrefl->nM,le_of_lt->dQ,lt_trans->iQ,sub_self->jQ,lt_of_lt_of_eq->y1,le_succ->kQ,le_of_not_lt->N1,mul_le_mul->X1,mul_le_mul_left->tf,add_assoc->E2,ne_of_gt->J2,le_of_eq->K2,succ_mul->P2,succ_le_succ->Of,succ_ne_self->Pf,min_eq_right->Wf,log2_lt->W2,strongRecOn->Zf,not_lt_zero->eg
open PySem.PyData renaming strOk->gC,canLay0->QN,eqv->LK,depth->gQ,canLayAll0->Gf
open PySem.Txt renaming join->QB,split->HE,startswith->UP,slice->pM,mul->kU
open LawfulBEq renaming eq_of_beq->dC
open Int renaming toNat_natCast->OE,lt_trichotomy->LN,emod_nonneg->ZP,emod_lt_of_pos->IT,fdiv_eq_ediv_of_nonneg->Ce,mul_pos_of_neg_of_neg->Ge,mul_neg_of_neg_of_pos->He,mul_neg_of_pos_of_neg->Ie,le_trans->eU,mul_zero->gU,natAbs_natCast->Cf,zero_add->S2,natCast_ediv->Tf,pow_pos->X2,natCast_add->ag,ediv_nonneg->jg
open PySem.Expr renaming casesOn->qD
open PyProof.Rows renaming step_dedup->HI,slot_tuple_getitem->qT,callWith_type1->rT,AllBare->LJ,subscriptTail_builtinR->Oe,bitAnd_pp->Se,firstMet->cf,IntsAre->VN
open Prod.mk renaming injEq->SE
open PySem.StrLaws renaming glued_eq_join->RK
open PySem.Builtin.Int renaming intBits->sM
open PySem.Builtin renaming bitOr->zJ,bitAnd->KN
open PySem.Builtin.Str renaming occurrences->GN,partsBetween->Je,strKind->mf
open Array renaming length_toList->eM,all_eq_true'->fM,toList_append->ET,toList_inj->NT,toList->eQ,getElem?_eq_some_iff->Ee,getElem?_toList->bf,find?_toList->yf,all_eq_true->Hf
open False renaming elim->GG
open PySem.Builtin.Slice renaming slicePlaces->sT,sliceAdjust->F0,sliceApplied->De
open PySem.Value renaming isStrOf->HK,casesOn->aU
open PySem.Builtin.Tuple renaming tupleExact->uT,tupleHashOf->Fe
open PySem.Builtin.List renaming listTooLong->vT
open PySem.AutoSeq1 renaming wpAny_loadPart'->xT
open Ne renaming symm->qF
open List.cons renaming injEq->ON,inj->cQ
open PySem.F renaming slot_enumerate_next->yT,args_tuple_add_2->J0,entry_tuple_add->L0,plainAttrs_list->N0,slot_str_split->JT,slot_tuple_add->P0,plainAttrs_str->Q0,args_str_split_2->X0,called_enumerate->A1,entry_str_split->E1,args_enumerate_next_1->Le,entry_enumerate_next->Qe,slot_list_append->Xe,slot_list_extend->Ze,slot_list_pop->Af,slot_int_rmul->Yf
open PySem.Builtin.SmallTypes renaming ownedTupleHandOut->ye,ownedTupleIsFree->ze,fitsIndex->Be
open PySem.Around renaming under->RN,deeper->A2
open Eq renaming trans->KJ
open Function renaming comp_def->J1
open PySem.Code renaming isGuard->cU,isFrame->N2,guards->U2
open PySem.Obj renaming mapSeq->mQ
open PySem.SeqAt.EqAt renaming int_str->uf,str_int->vf
open PySem.SeqAt renaming notIn_listAt->zf,in_listAt->Xf,EqAt->y3
open Nat.succ renaming inj->Q2
open PySem.Flow renaming casesOn->T2
open PySem.Env renaming kindOf->Rf
open PySem.Paired renaming length->og
open PyProof.Rows.IsTup renaming new->D3
open PySem.Stmt renaming casesOn->wg
open PySem.Heap.IsSliceOf renaming new->mIa
open PySem.W.WShape renaming has->xg
set_option Elab.async false
set_option linter.all false
set_option maxRecDepth 100000
set_option genCtorIdx false
set_option genInjectivity false
set_option tactic.hygienic false
theorem ZA:type_of% @decide_eq_false:=@decide_eq_false
theorem rB:type_of% @decide_eq_true:=@decide_eq_true
theorem YC.{u}:type_of% @beq_self_eq_true.{u}:=@beq_self_eq_true.{u}
theorem QA.{u}:type_of% @if_pos.{u}:=@if_pos.{u}
theorem pB.{u}:type_of% @if_neg.{u}:=@if_neg.{u}
theorem MH:type_of% @decide_eq_true_eq:=@decide_eq_true_eq
theorem CK.{u}:type_of% @beq_eq_false_iff_ne.{u}:=@beq_eq_false_iff_ne.{u}
theorem OP:type_of% @decide_eq_decide:=@decide_eq_decide
set_option compiler.extract_closed false
set_option genSizeOf false
set_option bootstrap.genMatcherCode false
noncomputable section
namespace L2
open PySem PySem.Spec PyProof.Rows
abbrev Key:=Sum Int fA
noncomputable def N8:Key->gA->Bool
 |.inl k,v=>Value.isInt k v
 |.inr x,v=>HK x v
noncomputable def Zu(w:WC):Key->Int
 |.inl k=>hashInt k
 |.inr x=>hashStr w x
theorem kJ:∀{k:Key} {v:gA},N8 k v=bA->(∃i t,k=Sum.inl i/\v=Value.int i t)\/(∃x t,k=Sum.inr x/\v=Value.str x t)
 |.inl i,v,h=>by
  obtain⟨t,e⟩:=Value.isInt_shape (k:=i) h;exact .inl ⟨i,t,rfl,e⟩
 |.inr x,v,h=>by(obtain⟨t,e⟩:=Value.isStrOf_shape h;exact .inr ⟨x,t,rfl,e⟩)
def cv(a b:Int):decide ((Sum.inl a:Key)=Sum.inl b)=(a==b):=by
 by_cases e:a=b
 ·subst e;simp
 ·have h:¬(Sum.inl a:Key)=Sum.inl b:=λq=>e (Sum.inl.inj q)
  rw[ZA h];exact(CK.mpr e).symm
def gv(a b:fA):decide ((Sum.inr a:Key)=Sum.inr b)=decide (a=b):=by
 by_cases e:a=b
 ·subst e;simp
 ·have h:¬(Sum.inr a:Key)=Sum.inr b:=λq=>e (Sum.inr.inj q)
  rw[ZA h,ZA e]
def dv(a:Int)(b:fA):decide ((Sum.inl a:Key)=Sum.inr b)=cA:=ZA (λq=>nomatch q)
def fv(a:fA)(b:Int):decide ((Sum.inr a:Key)=Sum.inl b)=cA:=ZA (λq=>nomatch q)
def j9(prog:oE)(w:WC):PySem.KeyKind prog w Key where
 is:=N8
 hash:=Zu w
 inj:=λv a b g f=>by
  rcases kJ g with ⟨i,t,rfl,rfl⟩ | ⟨x,t,rfl,rfl⟩
  ·rcases kJ f with ⟨j,u,rfl,e⟩ | ⟨y,u,rfl,e⟩
   ·injection e with c _;rw[c]
   ·exact nomatch e
  ·rcases kJ f with ⟨j,u,rfl,e⟩ | ⟨y,u,rfl,e⟩
   ·exact nomatch e
   ·injection e with c _;rw[c]
 byValue:=λk v h=>by
  rcases kJ h with ⟨i,t,rfl,rfl⟩ | ⟨x,t,rfl,rfl⟩<;>rfl
 pyHash:=λd h=>by
  rcases kJ d with ⟨i,t,rfl,rfl⟩ | ⟨x,t,rfl,rfl⟩
  ·exact wpAny_pyHash_int h
  ·exact wpAny_pyHash_str h
 eqBool:=λhu d h=>by
  rcases kJ hu with ⟨i,t,rfl,rfl⟩ | ⟨x,t,rfl,rfl⟩
  ·rcases kJ d with ⟨j,u,rfl,rfl⟩ | ⟨y,u,rfl,rfl⟩
   ·rw[cv] at h;exact wpAny_eqBool_int h
   ·rw[dv] at h;exact uf i t y u _ _ _ _ h
  ·rcases kJ d with ⟨j,u,rfl,rfl⟩ | ⟨y,u,rfl,rfl⟩
   ·rw[fv] at h;exact vf x t j u _ _ _ _ h
   ·rw[gv] at h;exact wpAny_eqBool_str h
 «strs»:=λk x t v h=>by
  rcases kJ h with ⟨i,u,rfl,e⟩ | ⟨y,u,rfl,e⟩
  ·exact nomatch e
  ·injection e with c _
   subst c;cases v<;>rfl
inductive V where
 |nA
 |bl (b:Bool)
 |int (i:Int)
 |str (x:fA)
 |ref (a:lA)
 |ty (n:String)
set_option genCtorIdx true in
set_option genInjectivity true in
gen_injective_theorems% V
instance (x:V):Decidable (x=.nA):=by cases x<;>first | exact isTrue rfl | exact isFalse (λh=>nomatch h)
def aAf:V->gA->Prop
 |.nA,u=>u=Value.none
 |.bl b,u=>u=Value.bool b
 |.int i,u=>∃t,u=Value.int i t
 |.str x,u=>∃t,u=Value.str x t
 |.ref a,u=>u=Value.ref a
 |.ty n,u=>u=Value.type n
abbrev aAd:List V->List gA->Prop:=Paired aAf
theorem aAd.length(r:aAd j k):j.length=k.length:=og r
def aAd.get{i:Nat}(h:aAd j k)(e:j[i]?=aA x):∃u,k[i]?=aA u/\aAf x u:=by
 induction h generalizing i with
 |nil=>cases e
 |cons r t m =>
  cases i with
  |zero=>cases e;exact⟨_,rfl,r⟩
  |succ i=>exact m e
theorem aAd.set(r:aAf x u)(i:Nat)(h:aAd j k):aAd (j.set i x) (k.set i u):=by
 induction h generalizing i with
 |nil=>exact .nil
 |cons q t m =>
  cases i with
  |zero=>exact .cons r t
  |succ i=>exact .cons q (m i)
def aAd.append(h:aAd j k)(s:aAd m u):aAd (j++m) (k++u):=by
 induction h with
 |nil=>exact s
 |cons r t x=>exact .cons r x
theorem aAd.take(n:Nat)(h:aAd j k):aAd (j.take n) (k.take n):=by
 induction h generalizing n with
 |nil=>cases n<;>exact .nil
 |cons r t m =>
  cases n with
  |zero=>exact .nil
  |succ n=>exact .cons r (m n)
theorem aAd.drop(n:Nat)(h:aAd j k):aAd (j.drop n) (k.drop n):=by
 induction h generalizing n with
 |nil=>cases n<;>exact .nil
 |cons r t m =>
  cases n with
  |zero=>exact .cons r t
  |succ n=>exact m n
def TH:Option V->Option gA->Prop
 |some v,aA u=>aAf v u
 |none,eA=>True
 |_,_=>False
def KV:List (J×V)->List (J×gA)->Prop:=Paired λ(p:J×V) (q:J×gA)=>p.1=q.1/\aAf p.2 q.2
noncomputable def kV:Key->V
 |.inl i=>.int i
 |.inr x=>.str x
inductive HO where
 |l (xs:List V)
 |t (xs:List V)
 |dK (kvs:List (Key×V))
 |set (S:Int->Bool) (n:Nat)
 |ins (C dx:lA) (fs:List (fA×V))
 |own (x:lA)
 |xd (fs:List (fA×V))
 |met (f x:lA)
 |BB (lo hi:Int)
 |BE (o:AB) (u:HO)
 |aM (ps:Array gA)
 |ext (φ:XB->Prop)
set_option genCtorIdx true in
gen_injective_theorems% HO
abbrev Hp:=lA->Option HO
noncomputable def EA(H:Hp)(a:lA)(o:HO):Hp:=λb=>if b=a then aA o else H b
def GC:EA H a o a=aA o:=by unfold EA;rw[QA rfl]
def jB(h:b≠a):EA H a o b=H b:=by unfold EA;rw[pB h]
def b0:EA (EA H a o) a u=EA H a u:=by
 funext b;unfold EA;split<;>rfl
def EE{H:Hp}(h:H a=aA o)(c:H b=eA):a≠b:=by
 intro e;subst e;rw[h] at c;cases c
section
variable(P:oE)(w:WC)
def WE(H:Hp)(h:XB)(a:lA):HO->Prop
 |.l d=>d.length<=sizeLine/\∃(b:List gA) (n:Nat),aAd d b/\h.get? a=aA { cls:=.type "list",data:=.seq b.toArray n }
 |.t d=>d.length<=sizeLine/\∃b:List gA,aAd d b/\IsTup h a b.toArray
 |.dK e=>e.length<=sizeLine/\(a==sysModules)=cA/\∃i,KV e i/\h.DictOf (j9 P w) a i
 |.set S n=>h.SetOf (intKind P w) a S n
 |.ins C g fs=>H g=aA (.own a)/\fs.length<=1000/\g≠a/\h.get? a=aA (FK C g) /\
   ∃c,h.Ns1 g c/\(∀f,TH (fs.lookup f) (c f))/\F2 c (fs.map (·.1))
 |.own _=>∃o,h.get? a=aA o
 |.xd fs=>∃c,h.Ns1 a c/\∀f,TH (fs.lookup f) (c f)
 |.BB lo l=>∃t u v,h.get? a=aA { cls:=.type "range",data:=.fields #[.int lo t,.int l u,.int 1 v] }
 |.BE o u=>h.get? a=aA o/\WE H h a u
 |.aM m=>h.get? a=aA { cls:=.none,data:=.fields m }
 |.met f x=>h.get? a=aA (C1 (.ref f) (.ref x))
 |.ext φ=>φ h/\(∃o,h.get? a=aA o)/\∀j k:XB,φ j->(∀o,j.get? a=aA o->k.get? a=aA o)->φ k
def eD(H:Hp)(h:XB):Prop:=∀a o,H a=aA o->WE P w H h a o
end
section
variable{o:HO}
theorem WE.lt(x:WE P w H h a o):a<h.objs.size:=by
 cases o with
 |l j=>obtain⟨_,_,_,_,e⟩:=x;exact nC e
 |t j=>obtain⟨_,_,_,p⟩:=x;exact p.lt
 |dK k=>obtain⟨_,_,_,_,o,_,_,e,_⟩:=x;exact nC e
 |set S n=>obtain⟨o,_,_,_,e,_⟩:=x;exact nC e
 |ins C m fs=>obtain⟨_,_,_,e,_⟩:=x;exact nC e
 |own y=>obtain⟨_,e⟩:=x;exact nC e
 |xd fs=>obtain⟨_,⟨_,_,_,e,_⟩,_⟩:=x;exact nC e
 |BB lo z=>obtain⟨_,_,_,e⟩:=x;exact nC e
 |BE ob u=>obtain⟨e,_⟩:=x;exact nC e
 |aM B=>exact nC (show h.get? a=aA _ from x)
 |met f y=>exact nC (show h.get? a=aA _ from x)
 |ext φ=>obtain⟨_,⟨_,e⟩,_⟩:=x;exact nC e
def WE.ZL(x:WE P w H h a o)(k:∀b u,(b=a\/H b=aA (.own a))->h.get? b=aA u->I.get? b=aA u)
  (ho:∀b,H b=aA (.own a)->M b=aA (.own a)) (Y:∀b F,H b=aA (.t F)->M b=aA (.t F)):WE P w M I a o:=by
 induction o with
 |l F=>obtain⟨z,j,n,r,e⟩:=x;exact⟨z,j,n,r,k _ _ (.inl rfl) e⟩
 |t F=>obtain⟨z,j,r,ob,e,c⟩:=x;exact⟨z,j,r,ob,k _ _ (.inl rfl) e,c⟩
 |dK Q=>obtain⟨z,y,R,r,ob,m,B,e,c⟩:=x;exact⟨z,y,R,r,ob,m,B,k _ _ (.inl rfl) e,c⟩
 |set S n=>obtain⟨ob,m,B,t,e,c⟩:=x;exact⟨ob,m,B,t,k _ _ (.inl rfl) e,c⟩
 |ins C Z fs =>
  obtain⟨d,z,ne,e,J,⟨od,m,B,U,c⟩,r⟩:=x;exact⟨ho _ d,z,ne,k _ _ (.inl rfl) e,J,⟨od,m,B,k _ _ (.inr d) U,c⟩,r⟩
 |own y=>obtain⟨ob,e⟩:=x;exact⟨ob,k _ _ (.inl rfl) e⟩
 |xd fs=>obtain⟨J,⟨od,m,B,e,c⟩,r⟩:=x;exact⟨J,⟨od,m,B,k _ _ (.inl rfl) e,c⟩,r⟩
 |BB lo hi=>obtain⟨t,u,v,e⟩:=x;exact⟨t,u,v,k _ _ (.inl rfl) e⟩
 |BE ob u X=>obtain⟨e,q⟩:=x;exact⟨k _ _ (.inl rfl) e,X q⟩
 |aM O =>
  have e:h.get? a=aA { cls:=.none,data:=.fields O }:=x;show I.get? a=aA { cls:=.none,data:=.fields O };exact k a _ (.inl rfl) e
 |met f y =>
  have e:h.get? a=aA (C1 (.ref f) (.ref y)):=x;show I.get? a=aA (C1 (.ref f) (.ref y));exact k a _ (.inl rfl) e
 |ext φ=>obtain⟨p,⟨o,e⟩,st⟩:=x;exact⟨st _ _ p λo q=>k _ _ (.inl rfl) q,⟨o,k _ _ (.inl rfl) e⟩,st⟩
theorem eD.lt(x:eD P w H h)(e:H a=aA o):a<h.objs.size:=(x a o e).lt
def eD.fresh(x:eD P w H h)(e:h.objs.size<=a):H a=eA:=by
 cases q:H a with
 |none=>rfl
 |some u=>exact absurd (aE (x.lt q) e) (nM _)
def eD.kept(x:eD P w H h)(k:∀b u,h.get? b=aA u->j.get? b=aA u):eD P w H j:=λa o e =>
 (x a o e).ZL (λb u _ q=>k b u q) (λ_ q=>q) λ_ _ q=>q
def eD.laid(x:eD P w H h)(k:∀b u,h.get? b=aA u->h'.get? b=aA u)(hp:h.objs.size<=a)(new:WE P w (EA H a o) h' a o):eD P w (EA H a o) h':=λb u e=>by
 have j:=x.fresh hp;by_cases m:b=a
 ·subst m;rw[GC] at e;cases e;exact new
 ·rw[jB m] at e;exact(x b u e).ZL (λc v _ q=>k c v q) (λc q=>by rw[jB (EE q j)];exact q) λc y q=>by rw[jB (EE q j)];exact q
end
def Rd(H:Hp)(a:lA)(u:HO):Prop:=H a=aA u\/∃o,H a=aA (.BE o u)
def Rd.ok(r:Rd H a u)(x:eD P w H h):WE P w H h a u:=by
 rcases r with r | ⟨o,r⟩
 ·exact x a u r
 ·obtain⟨_,q⟩:=x a _ r;exact q
def tQ:Option HO->Prop
 |some (.l _)=>True
 |some (.dK _)=>True
 |some (.set _ _)=>True
 |some (.ins _ _ _)=>True
 |some (.ext _)=>True
 |_=>False
section
variable{P:oE}{w:WC}{H:Hp}{h h':XB}{x e:lA}{o':HO}
def eD.write(ok:eD P w H h)(C:tQ (H x))(O:e=x\/H e=aA (.own x))(k:∀b u,b≠e->h.get? b=aA u->h'.get? b=aA u)(M:∃u,h'.get? e=aA u)
  (new:WE P w (EA H x o') h' x o'):eD P w (EA H x o') h':=λb u q=>by
 have m:∀c y,H c=aA (.own y)->c≠x:=λc y r z=>by subst z;rw[r] at C;exact C
 have B:∀c F,H c=aA (.t F)->c≠x:=λc F r z=>by subst z;rw[r] at C;exact C
 by_cases I:b=x
 ·subst I;rw[GC] at q;cases q;exact new
 ·rw[jB I] at q;by_cases j:b=e
  ·have Q:H b=aA (.own x):=by
    rcases O with z | z
    ·exact absurd (j.trans z) I
    ·rw[j];exact z
   rw[q] at Q;cases Q;obtain⟨v,R⟩:=M;exact⟨v,by rw[j];exact R⟩
  ·refine(ok b u q).ZL (λc v J r=>k c v ?_ r) (λc r=>by rw[jB (m c b r)];exact r) λc F r=>by rw[jB (B c F r)];exact r
   rcases J with rfl | J
   ·exact j
   ·rintro rfl
    rcases O with z | z
    ·exact m c b J z
    ·rw[J] at z;cases z;exact I rfl
end
structure Un(fs ex:List lA)(H H':Hp)(h h':XB):Prop where
 keep:∀b o,h.get? b=aA o->H b=eA->b ∉ fs->b ∉ ex->h'.get? b=aA o
 slot:∀b o,h.get? b=aA o->H b=eA->b∈fs->b ∉ ex->∃sl,h'.get? b=aA { o with slots:=sl }
 free:∀b o,h.get? b=aA o->H b=eA->b ∉ ex->H' b=eA
 there:∀b o,h.get? b=aA o->b ∉ ex->∃o',h'.get? b=aA o'
 zK:∀b xs,H b=aA (.t xs)->H' b=aA (.t xs)
 cJ:∀b o u,H b=aA (.BE o u)->H' b=aA (.BE o u)
 xK:∀b ps,H b=aA (.aM ps)->∃more,H' b=aA (.aM (ps++more))
section
variable{o:HO}
def Un.any(u:Un fs ex H k h h1)(q:h.get? b=aA ob)(n:H b=eA)(hx:b ∉ ex):∃sl,h1.get? b=aA { ob with slots:=sl }:=by
 by_cases j:b∈fs
 ·exact u.slot b ob q n j hx
 ·exact⟨ob.slots,u.keep b ob q n j hx⟩
def Un.kept(k:∀b u,h.get? b=aA u->j.get? b=aA u):Un fs ex H H h j :=
 ⟨λb ob q _ _ _=>k b ob q,λb ob q _ _ _=>⟨ob.slots,k b ob q⟩,λ_ _ _ n _=>n,λb ob q _=>⟨ob,k b ob q⟩,λ_ _ q=>q,λ_ _ _ q=>q,λ_ m q=>⟨#[],by rw[q];simp⟩⟩
def Un.refl:Un fs ex H H h h:=Un.kept λ_ _ q=>q
def Un.laid(k:∀b u,h.get? b=aA u->h'.get? b=aA u)(hp:h.objs.size<=a)(j:H a=eA):Un fs ex H (EA H a o) h h' where
 keep:=λb u q _ _ _=>k b u q
 slot:=λb u q _ _ _=>⟨u.slots,k b u q⟩
 free:=λb u q n _=>by rw[jB (SD (aE (nC q) hp))];exact n
 there:=λb u q _=>⟨u,k b u q⟩
 zK:=λb m q=>by rw[jB (EE q j)];exact q
 cJ:=λb u m q=>by rw[jB (EE q j)];exact q
 xK:=λb x q=>⟨#[],by rw[jB (EE q j),q];simp⟩
def Un.write(m:tQ (H x))(F:e=x\/H e=aA (.own x))(k:∀b u,b≠e->h.get? b=aA u->B.get? b=aA u)(y:∃u,B.get? e=aA u):Un fs ex H (EA H x o) h B:=by
 have hx:∀b,H b=eA->b≠x:=λb n z=>by subst z;rw[n] at m;exact m
 have C:∀b,H b=eA->b≠e:=λb n z=>by
  subst z;rcases F with r | r
  ·exact hx b n r
  ·rw[n] at r;cases r
 have hm:∀b u,H b=aA u->¬tQ (aA u)->b≠x:=λb u q nm z=>by subst z;rw[q] at m;exact nm m
 refine⟨λb u q n _ _=>k b u (C b n) q,λb u q n _ _=>⟨u.slots,k b u (C b n) q⟩,λb u q n _=>by rw[jB (hx b n)];exact n,λb u q _=>?_,
  λb I q=>by rw[jB (hm b _ q λz=>z)];exact q,λb u I q=>by rw[jB (hm b _ q λz=>z)];exact q,λb J q=>⟨#[],by rw[jB (hm b _ q λz=>z),q];simp⟩⟩
 by_cases j:b=e
 ·subst j;exact y
 ·exact⟨u,k b u j q⟩
end
noncomputable def fT(h:XB)(H:Hp):List lA:=(EB h.objs.size).filter λa=>(H a).isSome
def eJ(h:XB)(H:Hp):XB:=PySem.W.hideAll h (fT h H)
def Tq(h:XB)(H:Hp):(eJ h H).objs.size=h.objs.size:=PySem.W.hideAll_size _ _
def Sq(e:h.get? b=aA o)(n:H b=eA):(eJ h H).get? b=aA o :=
 PySem.W.hideAll_get _ e λa=>by(have q:(H b).isSome=bA:=(kM.mp a).2;rw[n] at q;simp at q)
def Jx(e:(eJ h H).get? b=aA o):h.get? b=aA o/\H b=eA:=by
 have a:h.get? b=aA o:=PySem.W.of_hideAll (fT h H) e;refine⟨a, ?_⟩
 cases q:H b with
 |none=>rfl
 |some x =>
  have c:b∈fT h H:=kM.mpr ⟨IG.mpr (nC a),by simp[q]⟩;have z:(eJ h H).get? b=eA:=PySem.W.hideAll_none (fT h H) c;rw[z] at e;cases e
noncomputable def Gi(g h:XB)(L:lA):List (lA×AB):=(EB h.objs.size).filterMap λa=>if a=L\/(g.get? a).isSome=bA then eA else(h.get? a).map λo=>(a,o)
def aAw(g h:XB)(L d:lA):List (lA×AB):=(Gi g h L).filter λp=>decide (p.1≠d)
structure Mod(K:jA)(mg:fA->Option gA)(base:XB):Prop where
 kin:K.In base
 glob:base.Ns uB mg
 blt:∃mb,base.Ns builtinsNs mb/\∀x:fA,x≠"__name__"->mb x=AI x
 nolimit:base.NoLimit
structure Cx where
 prog:oE
 w:WC
 K:jA
 mg:fA->Option gA
 base:XB
 A:oG
 N:List fA
 s₀:HA
 H₀:Hp
 env:Env
 outer:List Env
 stack:List Env
 ex:List lA
 fn:fA->Bool
 calm:Bool
 pn:List (lA×AB)
 xe:gA->HA->Prop
def jH(l:List Env):List lA:=l.filterMap (·.frame)
abbrev Cx.fs(X:Cx):List lA:=jH X.outer
def kO(a:rF)(x:fA):Prop:=a.names.lookup x=aA .local\/a.names.lookup x=aA .cell\/a.names.lookup x=aA .free
def Loc(a:rF)(x:fA):Prop:=a.names.lookup x=aA .local\/a.names.lookup x=aA .cell
def aBb(env:Env)(h:XB)(m:fA->Option gA)(x:fA)(u:gA):Prop :=
 (env.kindOf x=aA .local/\m x=aA u)\/((env.kindOf x=aA .cell\/env.kindOf x=aA .free)/\∃c,env.cells.lookup x=aA c/\h.IsCell c (aA u))
structure Cx.Ok(X:Cx):Prop where
 mod:Mod X.K X.mg X.base
 kind:X.env.scope.kind=.function
 glob:X.env.globals=uB
 blt:X.env.builtins=builtinsNs
 above:X.s₀.heap.objs.size<=X.env.locals
 inj:∀x y c,X.env.cells.lookup x=aA c->X.env.cells.lookup y=aA c->x=y
 has:∀x,(X.env.kindOf x=aA .cell\/X.env.kindOf x=aA .free)->∃c,X.env.cells.lookup x=aA c
 lL:∀x c,X.fn x=bA->X.env.cells.lookup x=aA c->X.s₀.heap.objs.size<=c
 hd:X.calm=bA->X.A.handled=eA
 frames:X.A.frames=aA X.stack
 wN:X.stack=X.outer\/(X.stack=X.env::X.outer/\X.env.frame=aA X.env.locals)
 hR:∀b∈X.ex,b≠X.env.locals/\∀x c,X.env.cells.lookup x=aA c->c≠b
 bs:∀b o,X.base.get? b=aA o->X.s₀.heap.get? b=aA o/\X.H₀ b=eA
 ZH:X.base.objs.size<=X.s₀.heap.objs.size
 ML:∀b o,X.base.get? b=aA o->b ∉ X.ex
 QM:∀b∈X.ex,b ∉ X.fs
 dG:X.s₀.heap.FunFrames X.base X.outer
 bJ:∀b∈X.fs,X.H₀ b=eA
structure kA(X:Cx)(dA:List (lA×AB))(Z:List (Option V))(H:Hp)(s:HA):Prop where
 ok:X.Ok
 os:s.os=X.s₀.os
 bare:LJ s.gens
 base:Un X.fs X.ex X.H₀ H X.s₀.heap s.heap
 loc:∃m,s.heap.Ns X.env.locals m/\∀(i:Nat) (x:fA) (v:V),X.N[i]?=aA x->Z[i]?=aA (aA v)->kO X.env.scope x->∃u,aAf v u/\aBb X.env s.heap m x u
 cell:∀x c,X.env.cells.lookup x=aA c->∃v,s.heap.IsCell c v
 free:H X.env.locals=eA
 NG:∀x c,X.env.cells.lookup x=aA c->H c=eA
 pin:∀p∈X.pn++dA,s.heap.get? p.1=aA p.2/\H p.1=eA/\p.1≠X.env.locals/\p.1 ∉ X.fs/\∀v,p.2.data≠.cell v
 aB:eD X.prog X.w H s.heap
 len:Z.length=X.N.length
section
variable{X:Cx}
def Cx.Ok.xx(ok:X.Ok)(e:X.base.get? b=aA o):b ∉ X.fs:=λj=>by
 have:=(ok.dG.mem j).1
 rw[e] at this;cases this
theorem kA.bs(I:kA X dA Z H s):∀b o,X.base.get? b=aA o->s.heap.get? b=aA o/\H b=eA:=λb o e =>
 ⟨I.base.keep b o (I.ok.bs b o e).1 (I.ok.bs b o e).2 (I.ok.xx e) (I.ok.ML b o e),I.base.free b o (I.ok.bs b o e).1 (I.ok.bs b o e).2 (I.ok.ML b o e)⟩
def kA.bk(I:kA X dA Z H s):∀b o,X.base.get? b=aA o->s.heap.get? b=aA o:=λb o e=>(I.bs b o e).1
theorem kA.mod(I:kA X dA Z H s):Mod X.K X.mg X.base:=I.ok.mod
def kA.wD(I:kA X dA Z H s):X.K.In s.heap:=I.ok.mod.kin.keeps I.bk
theorem kA.lt(I:kA X dA Z H s):X.env.locals<s.heap.objs.size:=let ⟨_,j,_⟩:=I.loc;j.lt
def kA.sz(I:kA X dA Z H s):X.s₀.heap.objs.size<=s.heap.objs.size:=KC I.ok.above (dQ I.lt)
def kA.zx(I:kA X dA Z H s)(h:s.heap.objs.size<=a):a ∉ X.fs:=λj=>by
 obtain⟨_,o,ho,_⟩:=I.ok.dG.mem j;exact absurd (aE (nC ho) (KC I.sz h)) (nM _)
def kA.nL(I:kA X dA Z H s):∀x c,X.env.cells.lookup x=aA c->c≠X.env.locals:=λx c e z=>by
 obtain⟨v,o,ho,hd⟩:=I.cell x c e;obtain⟨m,⟨u,y,B,j,k,_⟩,_⟩:=I.loc;rw[z,j] at ho;cases ho;rw[k] at hd;cases hd
theorem kA.dG(I:kA X dA Z H s):s.heap.FunFrames X.base X.outer:=by
 have all:∀(l:List Env),(∀b∈jH l,b∈X.fs)->X.s₀.heap.FunFrames X.base l->s.heap.FunFrames X.base l:=by
  intro l
  induction l with
  |nil=>intro _ _;trivial
  |cons env r x =>
   intro u hl;obtain⟨hk,⟨L,o,j,y,ho,hd⟩,B⟩:=hl;have k:L∈X.fs:=u L (by unfold jH;rw[S0,j];exact AD);obtain⟨sl,e⟩:=I.base.slot L o ho (I.ok.bJ L k) k λz=>I.ok.QM L z k
   exact⟨hk,⟨L,_,j,y,e,hd⟩,x (λb m=>u b (by unfold jH;rw[S0,j];exact XC _ m)) B⟩
 exact all X.outer (λ_ m=>m) I.ok.dG
theorem kA.stack(I:kA X dA Z H s):s.heap.FunFrames X.base X.stack:=by
 rcases I.ok.wN with e | ⟨e,j⟩
 ·rw[e];exact I.dG
 ·rw[e];obtain⟨m,k,_⟩:=I.loc;refine .cons (by rw[I.ok.kind];decide) j k ?_ I.dG;exact zT (KC I.ok.ZH I.ok.above)
def kA.VS(I:kA X dA Z H s):∀b∈jH X.stack,b∈X.env.locals::X.fs:=λb j=>by
 rcases I.ok.wN with e | ⟨e,k⟩
 ·rw[e] at j;exact XC _ j
 ·rw[e] at j;unfold jH at j;rw[S0,k] at j;exact j
def kA.Zb(I:kA X dA Z H s):∀b∈jH X.stack,H b=eA:=λb j=>by
 rcases mD.mp (I.VS b j) with e | j
 ·rw[e];exact I.free
 ·obtain⟨_,o,ho,_⟩:=I.ok.dG.mem j;exact I.base.free b o ho (I.ok.bJ b j) λz=>I.ok.QM b z j
def kA.step{ch:List lA}(I:kA X dA Z H s)
  (j:∀b∈ch,(b∈X.ex\/X.s₀.heap.get? b=eA)/\b≠X.env.locals/\(∀x c,X.env.cells.lookup x=aA c->c≠b)/\∀p∈X.pn++dA,p.1≠b)
  (keep:∀b o,b≠X.env.locals->b ∉ X.fs->b ∉ ch->s.heap.get? b=aA o->H b=eA->O.get? b=aA o)
  (slot:∀b o,b≠X.env.locals->b∈X.fs->b ∉ ch->s.heap.get? b=aA o->H b=eA->∃sl,O.get? b=aA { o with slots:=sl }) (free:∀b o,b ∉ ch->s.heap.get? b=aA o->H b=eA->H' b=eA)
  (there:∀b o,b ∉ ch->s.heap.get? b=aA o->∃P,O.get? b=aA P)
  (zK:∀b J,H b=aA (.t J)->H' b=aA (.t J)) (cJ:∀b o u,H b=aA (.BE o u)->H' b=aA (.BE o u)) (xK:∀b U,H b=aA (.aM U)->∃more,H' b=aA (.aM (U++more)))
  (ns:∀m,s.heap.Ns X.env.locals m->O.Ns X.env.locals m) (aB:eD X.prog X.w H' O) (hg:LJ g') :
  kA X dA Z H' { s with heap:=O,gens:=g',drawn:=d',toks:=t' }:=by
 have Q:∀b o,X.s₀.heap.get? b=aA o->b≠X.env.locals:=λb o e=>SD (aE (nC e) I.ok.above)
 have C:∀b o,X.s₀.heap.get? b=aA o->b ∉ X.ex->b ∉ ch:=λb o e hx M=>by
  rcases(j b M).1 with z | z
  ·exact hx z
  ·rw[z] at e;cases e
 have y:∀x c,X.env.cells.lookup x=aA c->∀v,s.heap.IsCell c v->O.IsCell c v:=λx c e v hz=>by
  obtain⟨o,ho,hd⟩:=hz;have B:c ∉ ch:=λz=>(j c z).2.2.1 x c e rfl
  by_cases hc:c∈X.fs
  ·obtain⟨sl,q⟩:=slot c o (I.nL x c e) hc B ho (I.NG x c e);exact⟨_,q,hd⟩
  ·exact⟨o,keep c o (I.nL x c e) hc B ho (I.NG x c e),hd⟩
 refine⟨I.ok,I.os,hg,⟨λb o e n M hx=>?_,λb o e n M hx=>?_,λb o e n hx=>?_,λb o e hx=>?_,λb J e=>zK b J (I.base.zK b J e),λb o J e=>cJ b o J (I.base.cJ b o J e),λb U e=>?_⟩, ?_,λx c e=>?_, ?_,λx c e=>?_,λp hp=>?_,aB,I.len⟩
 ·exact keep b o (Q b o e) M (C b o e hx) (I.base.keep b o e n M hx) (I.base.free b o e n hx)
 ·obtain⟨sl,F⟩:=I.base.slot b o e n M hx;obtain⟨Y,R⟩:=slot b _ (Q b o e) M (C b o e hx) F (I.base.free b o e n hx);exact⟨Y,R⟩
 ·obtain⟨P,F⟩:=I.base.there b o e hx;exact free b P (C b o e hx) F (I.base.free b o e n hx)
 ·obtain⟨P,F⟩:=I.base.there b o e hx;exact there b P (C b o e hx) F
 ·obtain⟨m1,F⟩:=I.base.xK b U e;obtain⟨m2,R⟩:=xK b _ F;exact⟨m1++m2,by rw[R,Array.append_assoc]⟩
 ·obtain⟨m,hn,hl⟩:=I.loc;refine⟨m,ns m hn,λi x v F R e3=>?_⟩;obtain⟨u,r,l⟩:=hl i x v F R e3;refine⟨u,r, ?_⟩;rcases l with l | ⟨k,c,e,z⟩
  ·exact .inl l
  ·exact .inr ⟨k,c,e,y x c e _ z⟩
 ·obtain⟨v,z⟩:=I.cell x c e;exact⟨v,y x c e v z⟩
 ·obtain⟨m,⟨o,_,_,ho,_⟩,_⟩:=I.loc;exact free _ o (λz=>(j _ z).2.1 rfl) ho I.free
 ·obtain⟨v,o,ho,hd⟩:=I.cell x c e;exact free c o (λz=>(j c z).2.2.1 x c e rfl) ho (I.NG x c e)
 ·obtain⟨e,n,ne,nf,d⟩:=I.pin p hp;have B:p.1 ∉ ch:=λz=>(j p.1 z).2.2.2 p hp rfl
  exact⟨keep p.1 p.2 ne nf B e n,free p.1 p.2 B e n,ne,nf,d⟩
def kA.un{t':Nat}(I:kA X dA Z H s)(u:Un X.fs [] H B s.heap h')(aB:eD X.prog X.w B h'):kA X dA Z B { s with heap:=h',toks:=t' }:=by
 obtain⟨m,⟨o,J,M,ho,r⟩,_⟩:=id I.loc;obtain⟨sl,C⟩:=u.any ho I.free (by simp)
 exact I.step (g':=s.gens) (d':=s.drawn) (ch:=[]) (λ_ z=>nomatch z) (λb o _ k _ e n=>u.keep b o e n k (by simp)) (λb o _ k _ e n=>u.slot b o e n k (by simp)) (λb o _ e n=>u.free b o e n (by simp)) (λb o _ e=>u.there b o e (by simp)) u.zK u.cJ u.xK (λO hm=>by
  obtain⟨P,x,y,j,F⟩:=hm;rw[ho] at j;cases j
  exact⟨_,x,y,C,F⟩) aB I.bare
def kA.call(I:kA X dA Z H s)(u:Un (jH X.stack) ch H J s.heap h')(aB:eD X.prog X.w J h')(M:LJ g')
  (k:∀b∈ch,(b∈X.ex\/X.s₀.heap.get? b=eA)/\b≠X.env.locals/\(∀x c,X.env.cells.lookup x=aA c->c≠b)/\∀p∈X.pn++dA,p.1≠b) :
  kA X dA Z J { s with heap:=h',gens:=g',drawn:=d',toks:=t' }:=by
 obtain⟨m,⟨o,Q,R,ho,r⟩,_⟩:=id I.loc;obtain⟨sl,B⟩:=u.any ho I.free λz=>(k _ z).2.1 rfl
 exact I.step k (λb o B O j e n=>u.keep b o e n (λz=>(mD.mp (I.VS b z)).elim B O) j) (λb o _ _ j e n=>u.any e n j) (λb o j e n=>u.free b o e n j) (λb o j e=>u.there b o e j) u.zK u.cJ u.xK (λU hm=>by
  obtain⟨Y,C,F,y,P⟩:=hm;rw[ho] at y;cases y
  exact⟨_,C,F,B,P⟩) aB M
def kA.turned{it:lA}(I:kA X dA Z H s)(k:∀b o,b≠it->s.heap.get? b=aA o->C.get? b=aA o)(F:H it=eA)(B:it≠X.env.locals)
  (h1:it∈X.ex\/X.s₀.heap.get? it=eA) (h2:∀x c,X.env.cells.lookup x=aA c->c≠it) (J:∀p∈X.pn++dA,p.1≠it):kA X dA Z H { s with heap:=C,toks:=t' }:=by
 have y:∀b u,H b=aA u->b≠it:=λb u e z=>by rw[z,F] at e;cases e
 refine I.step (g':=s.gens) (d':=s.drawn) (ch:=[it]) (λb M=>?_) (λb o _ _ j e _=>k b o (λz=>j (by simp[z])) e) (λb o _ _ j e _=>⟨o.slots,k b o (λz=>j (by simp[z])) e⟩) (λ_ _ _ _ n=>n)
  (λb o j e=>⟨o,k b o (λz=>j (by simp[z])) e⟩) (λ_ _ e=>e) (λ_ _ _ e=>e) (λb Q e=>⟨#[],by rw[e];simp⟩) (λm hm=>?_) (λb u e=>?_) I.bare
 ·have e:b=it:=by simpa using M
  subst e;exact⟨h1,B,h2,J⟩
 ·obtain⟨o,O,P,ho,r⟩:=hm;exact⟨o,O,P,k _ o (qF B) ho,r⟩
 ·refine(I.aB b u e).ZL (λc v j q=>k c v ?_ q) (λ_ q=>q) λ_ _ q=>q
  rcases j with z | z
  ·rw[z];exact y b u e
  ·exact y c _ z
def kA.tok(I:kA X dA Z H s)(t:Nat):kA X dA Z H { s with toks:=t }:=I.un (h':=s.heap) (t':=t) Un.refl I.aB
theorem kA.kept(I:kA X dA Z H s)(k:∀b u,s.heap.get? b=aA u->j.get? b=aA u):kA X dA Z H { s with heap:=j,toks:=t' }:=I.un (Un.kept k) (I.aB.kept k)
theorem kA.laid(I:kA X dA Z H s)(k:∀b u,s.heap.get? b=aA u->h'.get? b=aA u)(hp:s.heap.objs.size<=a)(new:WE X.prog X.w (EA H a o) h' a o) :
  kA X dA Z (EA H a o) { s with heap:=h',toks:=t' }:=I.un (Un.laid k hp (I.aB.fresh hp)) (I.aB.laid k hp new)
theorem kA.write(I:kA X dA Z H s)(y:tQ (H x))(z:e=x\/H e=aA (.own x))(k:∀b u,b≠e->s.heap.get? b=aA u->m.get? b=aA u)(j:∃u,m.get? e=aA u)
  (new:WE X.prog X.w (EA H x o) m x o):kA X dA Z (EA H x o) { s with heap:=m,toks:=t' }:=I.un (Un.write y z k j) (I.aB.write y z k j new)
def kA.ja(I:kA X dA Z H s)(h:∀p∈j,s.heap.get? p.1=aA p.2/\H p.1=eA/\p.1≠X.env.locals/\p.1 ∉ X.fs/\∀v,p.2.data≠.cell v):kA X j Z H s :=
 ⟨I.ok,I.os,I.bare,I.base,I.loc,I.cell,I.free,I.NG,λp hp=>(QE.mp hp).elim (λz=>I.pin p (CT _ z)) (h p),I.aB,I.len⟩
def m9{N:List fA}(c:N.Nodup){i j:Nat}(a:N[i]?=aA x)(b:N[j]?=aA x):i=j:=by
 obtain⟨f,d⟩:=lD.mp a;obtain⟨g,e⟩:=lD.mp b;exact(List.getElem_inj c).mp (d.trans e.symm)
def cc(I:kA X dA Z H s)(hN:X.N.Nodup)(U:X.N[i]?=aA x)(B:Loc X.env.scope x)(r:aAf v u)
  (h:∀s',kA X dA (Z.set i (aA v)) H s'->(∃a,DI a s.heap s'.heap/\(a=X.env.locals\/X.env.cells.lookup x=aA a))->Q () s') (hf:X.fn x=bA\/X.env.scope.names.lookup x=aA .local:=by first | exact .inl rfl | exact .inr rfl | assumption):JA M A (storeName X.env x u) Q E s:=by
 obtain⟨m,hn,hl⟩:=id I.loc;have Y:(X.env.scope.kind==.class||(X.env.scope.kind==.module&&X.env.locals != X.env.globals))=cA:=by rw[I.ok.kind];rfl
 have F6:i<Z.length:=by rw[I.len];exact(lD.mp U).1
 have nL:=I.nL
 have g:∀{a:lA} {R:XB},(∃o,s.heap.get? a=aA o/\H a=eA)->DI a s.heap R->eD X.prog X.w H R:=λ{a R} ha f b ob e=>by
  obtain⟨_,_,C⟩:=ha;refine(I.aB b ob e).ZL (λc w' t q=>(f.2 c ?_).trans q) (λ_ q=>q) λ_ _ q=>q
  rintro rfl
  rcases t with rfl | t
  ·rw[C] at e;cases e
  ·rw[C] at t;cases t
 rcases B with J | J
 ·refine wpAny_storeName_local J hn (λR Wq f=>?_) Y;obtain⟨oL,_,_,Yq,_⟩:=id hn;refine h _ ⟨I.ok,I.os,I.bare,⟨λb o e n K B=>?_,λb o e n K B=>?_,I.base.free,λb o e B=>?_,I.base.zK,I.base.cJ,I.base.xK⟩,⟨_,Wq,λj y v' l F e3=>?_⟩,λy c e=>?_,I.free,I.NG,λp hp=>?_,g ⟨oL,Yq,I.free⟩ f,by simpa using I.len⟩ ⟨_,f,.inl rfl⟩
  ·exact(f.2 b (SD (aE (nC e) I.ok.above))).trans (I.base.keep b o e n K B)
  ·obtain⟨sl,l⟩:=I.base.slot b o e n K B;exact⟨sl,(f.2 b (SD (aE (nC e) I.ok.above))).trans l⟩
  ·obtain⟨o',l⟩:=I.base.there b o e B;exact⟨o',(f.2 b (SD (aE (nC e) I.ok.above))).trans l⟩
  ·by_cases O:j=i
   ·subst O;rw[U] at l;cases l;rw[II F6] at F;cases F;exact⟨u,r,.inl ⟨J,by simp⟩⟩
   ·rw[ZD (qF O)] at F;obtain⟨u',r',q⟩:=hl j y v' l F e3;refine⟨u',r', ?_⟩;rcases q with ⟨k,e⟩ | ⟨k,c,e,z⟩
    ·refine .inl ⟨k, ?_⟩
     have:y≠x:=λe=>O (m9 hN l (e ▸ U))
     simp[this,e]
    ·exact .inr ⟨k,c,e,z.sameBut f (nL y c e)⟩
  ·obtain⟨w',z⟩:=I.cell y c e;exact⟨w',z.sameBut f (nL y c e)⟩
  ·obtain⟨e,n,ne,nf,d⟩:=I.pin p hp;exact⟨(f.2 p.1 ne).trans e,n,ne,nf,d⟩
 ·have P:X.fn x=bA:=by
   rcases hf with z | z
   ·exact z
   ·rw[z] at J;cases J
  obtain⟨c,t⟩:=I.ok.has x (.inl J);obtain⟨w',z⟩:=I.cell x c t;refine wpAny_storeName_cell I.ok.kind J t z (λR MR f=>?_);obtain⟨oc,OR,Zq⟩:=id z;refine h { s with heap:=R } ⟨I.ok,I.os,I.bare,⟨λb o e n K B=>?_,λb o e n K B=>?_,I.base.free,λb o e B=>?_,I.base.zK,I.base.cJ,I.base.xK⟩,⟨m,hn.sameBut f (qF (nL x c t)),λj y v' l F e3=>?_⟩,λy c' e=>?_,I.free,I.NG,λp hp=>?_,g ⟨oc,OR,I.NG x c t⟩ f,by simpa using I.len⟩ ⟨c,f,.inr t⟩
  ·exact(f.2 b (SD (aE (nC e) (I.ok.lL x c P t)))).trans (I.base.keep b o e n K B)
  ·obtain⟨sl,l⟩:=I.base.slot b o e n K B;exact⟨sl,(f.2 b (SD (aE (nC e) (I.ok.lL x c P t)))).trans l⟩
  ·obtain⟨o',l⟩:=I.base.there b o e B;exact⟨o',(f.2 b (SD (aE (nC e) (I.ok.lL x c P t)))).trans l⟩
  ·by_cases O:j=i
   ·subst O;rw[U] at l;cases l;rw[II F6] at F;cases F;exact⟨u,r,.inr ⟨.inl J,c,t,MR⟩⟩
   ·rw[ZD (qF O)] at F;obtain⟨u',r',q⟩:=hl j y v' l F e3;refine⟨u',r', ?_⟩;rcases q with q | ⟨k,c',e,z'⟩
    ·exact .inl q
    ·refine .inr ⟨k,c',e,z'.sameBut f ?_⟩
     rintro rfl
     exact O (m9 hN l (I.ok.inj _ _ _ e t ▸ U))
  ·by_cases B6:c'=c
   ·subst B6;exact⟨_,MR⟩
   ·obtain⟨w2,z2⟩:=I.cell y c' e;exact⟨w2,z2.sameBut f B6⟩
  ·obtain⟨e,n,ne,nf,d⟩:=I.pin p hp;refine⟨(f.2 p.1 ?_).trans e,n,ne,nf,d⟩;intro q;rw[q,OR] at e;have q':oc=p.2:=pD e;exact d w' (by rw[<- q'];exact Zq)
def fFa(I:kA X dA Z H s)(b:X.N.Nodup)(c:X.N[i]?=aA x)(d:Loc X.env.scope x)(r:aAf v u)
  (h:∀a,kA X dA (Z.set i (aA v)) H a->Q () a) (e:X.fn x=bA\/X.env.scope.names.lookup x=aA .local:=by first | exact .inl rfl | exact .inr rfl | assumption):JA M A (storeName X.env x u) Q E s :=
 cc I b c d r (λa f _=>h a f) e
def kA.jl(I:kA X dA Z H s)(ho:s'.os=s.os)(u:Un (jH X.stack) ch H k s.heap s'.heap)(aB:eD X.prog X.w k s'.heap)(m:LJ s'.gens)
  (j:∀b∈ch,(b∈X.ex\/X.s₀.heap.get? b=eA)/\b≠X.env.locals/\(∀x c,X.env.cells.lookup x=aA c->c≠b)/\∀p∈X.pn++dA,p.1≠b):kA X dA Z k s':=by
 obtain⟨z,B,C,F,y⟩:=s';have e:y=s.os:=ho;subst e;exact I.call u aB m j
end
abbrev XK:=gA->Option lA×Bool->Hp->Prop
abbrev St:=List (Option V)
abbrev VK:=V->Hp->Prop
abbrev TE:=St->Hp->VK->Prop
abbrev TT:=St->Hp->(Bool->Hp->Prop)->Prop
abbrev TA:=St->Hp->(List V->Hp->Prop)->Prop
structure Ends where
 nx:St->Hp->Prop
 rt:VK
 bk:St->Hp->Prop:=λ_ _=>False
 ct:St->Hp->Prop:=λ_ _=>False
abbrev TS:=Ends->St->Hp->Prop
def EP(X:Cx)(dA:List (lA×AB))(Z:St)(Q:VK)(u:gA)(b:HA):Prop:=∃v a,kA X dA Z a b/\aAf v u/\Q v a
def TP(X:Cx)(dA:List (lA×AB))(Z:St)(Q:Bool->Hp->Prop)(b:Bool)(c:HA):Prop:=∃a,kA X dA Z a c/\Q b a
def AP(X:Cx)(dA:List (lA×AB))(Z:St)(Q:List V->Hp->Prop)(c:List gA)(d:HA):Prop:=∃a b,kA X dA Z b d/\aAd a c/\Q a b
def SP(X:Cx)(dA:List (lA×AB))(D:Ends)(f:Flow)(c:HA):Prop :=
 match f with
 |.next=>∃b a,kA X dA b a c/\D.nx b a
 |.brk=>∃b a,kA X dA b a c/\D.bk b a
 |.cont=>∃b a,kA X dA b a c/\D.ct b a
 |.ret u=>∃v b a,kA X dA b a c/\aAf v u/\D.rt v a
def PE(X:Cx)(e:zA)(t:TE):Prop :=
 ∀(dA:List (lA×AB)) (s:HA) (Z:St) (H:Hp) (Q:VK),kA X dA Z H s->t Z H Q->JA (model X.prog X.w) X.A (eval e X.env) (EP X dA Z Q) X.xe s
def PT(X:Cx)(e:zA)(t:TT):Prop :=
 ∀(dA:List (lA×AB)) (s:HA) (Z:St) (H:Hp) (Q:Bool->Hp->Prop),kA X dA Z H s->t Z H Q->JA (model X.prog X.w) X.A (isTrue e X.env (eval e X.env)) (TP X dA Z Q) X.xe s
def PW(X:Cx)(e:zA)(t:TT):Prop :=
 ∀(whole:Sem gA) (dA:List (lA×AB)) (s:HA) (Z:St) (H:Hp) (Q:Bool->Hp->Prop),kA X dA Z H s->t Z H Q->JA (model X.prog X.w) X.A (isTrue e X.env whole) (TP X dA Z Q) X.xe s
def PW.pt(h:PW X e t):PT X e t:=h _
def PA(X:Cx)(a:List zA)(t:TA):Prop :=
 ∀(pos:vC) (dA:List (lA×AB)) (s:HA) (Z:St) (H:Hp) (Q:List V->Hp->Prop),kA X dA Z H s->t Z H Q->JA (model X.prog X.w) X.A (spliced (IE pos (eC a X.env))) (AP X dA Z Q) X.xe s
def PS(X:Cx)(st:cB)(t:TS):Prop :=
 ∀(dA:List (lA×AB)) (s:HA) (Z:St) (H:Hp) (D:Ends),kA X dA Z H s->t D Z H->JA (model X.prog X.w) X.A (exec st X.env) (SP X dA D) X.xe s
def bD(X:Cx)(st:List cB)(t:TS):Prop :=
 ∀(dA:List (lA×AB)) (s:HA) (Z:St) (H:Hp) (D:Ends),kA X dA Z H s->t D Z H->JA (model X.prog X.w) X.A (execs st X.env) (SP X dA D) X.xe s
def RA(h:JA M A t Q E s)(b:∀a s,Q a s->c a s):JA M A t c E s:=FH h b λ_ _ x=>x
section
variable{X:Cx}
def zH(i:Nat):TE:=λZ H Q=>∃v,Z[i]?=aA (aA v)/\Q v H
def tC(v:V):TE:=λ_ H Q=>Q v H
def XY(g:X.N[i]?=aA x)(j:kO X.env.scope x)(hd:(x==("__debug__":fA))=cA:=by decide)(d:(x==("__classdict__":fA))=cA:=by decide):PE X (.Name x pos) (zH i):=by
 intro dA s Z H Q I h;obtain⟨v,e,h⟩:=h;obtain⟨m,k,hl⟩:=I.loc;obtain⟨u,r,l⟩:=hl i x v g e j;have fin:EP X dA Z Q u s:=⟨v,H,I,r,h⟩
 rcases l with ⟨b,n⟩ | ⟨b,c,f,a⟩
 ·exact k3 (wpAny_loadName_local I.ok.kind b k n fin) hd
 ·rcases b with b | b
  ·exact k3 (wpAny_loadName_cell I.ok.kind b f a fin) hd
  ·exact k3 (wpAny_loadName_free I.ok.kind b f a fin d) hd
def Q9{i j pos}:PE X (.Constant (.int i) j pos) (tC (.int i)):=λ_ _ _ H _ I h=>wpAny_Constant_int ⟨.int i,H,I.tok _,⟨_,rfl⟩,h⟩
def m_{b j pos}:PE X (.Constant (.bool b) j pos) (tC (.bl b)):=λ_ _ _ H _ I h=>Constant_bool ⟨.bl b,H,I,rfl,h⟩
def v_{j pos}:PE X (.Constant .none j pos) (tC .nA):=λ_ _ _ H _ I h=>Constant_none ⟨.nA,H,I,rfl,h⟩
def BS{x j pos}:PE X (.Constant (.str x) j pos) (tC (.str x)):=λ_ _ _ H _ I h=>Calls.Constant_str ⟨.str x,H,I.tok _,⟨_,rfl⟩,h⟩
def Gl(X:Cx)(x:fA):Prop:=X.env.kindOf x=aA .globalImplicit
def yY(I:kA X dA Z H s)(a:Gl X x)(b:X.mg x=aA u)(h:Q u s)
  (hd:(x==("__debug__":fA))=cA:=by decide):JA (model X.prog X.w) X.A (eval (.Name x pos) X.env) Q E s :=
 Calls.Name_function_global I.ok.kind a (Calls.loadGlobal_global (by rw[I.ok.glob];exact I.mod.glob.keeps I.bk) b h) hd
def IL(I:kA X dA Z H s)(a:Gl X x)(b:X.mg x=eA)(c:AI x=aA u)(h:Q u s)
  (d:x≠"__name__":=by decide) (hd:(x==("__debug__":fA))=cA:=by decide):JA (model X.prog X.w) X.A (eval (.Name x pos) X.env) Q E s:=by
 obtain⟨g,e,f⟩:=I.mod.blt;exact Calls.Name_function_global I.ok.kind a (Calls.loadGlobal_builtin (by rw[I.ok.glob];exact I.mod.glob.keeps I.bk) b (by rw[I.ok.blt];exact e.keeps I.bk) ((f x d).trans c) h) hd
def WY(a:Gl X x)(b:X.mg x=aA u)(r:aAf v u)(hd:(x==("__debug__":fA))=cA:=by decide):PE X (.Name x pos) (tC v) :=
 λ_ _ _ H _ I h=>yY I a b ⟨v,H,I,r,h⟩ hd
def rN(a:Gl X x)(b:X.mg x=eA)(c:AI x=aA u)(r:aAf v u)(d:x≠"__name__":=by decide)(hd:(x==("__debug__":fA))=cA:=by decide):PE X (.Name x pos) (tC v) :=
 λ_ _ _ H _ I h=>IL I a b c ⟨v,H,I,r,h⟩ d hd
variable{pos:vC}
variable{aAw:List zA}
def Fd(t u:TT):TT:=λZ H Q=>t Z H λc a=>if c=bA then u Z a Q else Q cA a
def Kd(t u:TT):TT:=λZ H Q=>t Z H λc a=>if c=bA then Q bA a else u Z a Q
def bGa(t:TT):TT:=λZ H Q=>t Z H λc a=>Q (!c) a
def aA2(b:PT X a d):PW X (.BoolOp .And [a] pos) d:=by
 intro f dA s Z H Q I h;refine isTrue_and (RA (b dA s Z H Q I h) λc g e=>?_)
 cases c with
 |true=>exact isTrue_and_nil e
 |false=>exact e
def aA7(b:PT X a d):PW X (.BoolOp .Or [a] pos) d:=by
 intro f dA s Z H Q I h;refine isTrue_or (RA (b dA s Z H Q I h) λc g e=>?_)
 cases c with
 |false=>exact isTrue_or_nil e
 |true=>exact e
def aA5(i:PT X a j)(k:PW X (.BoolOp .And (b::aAw) pos) d):PW X (.BoolOp .And (a::b::aAw) pos) (Fd j d):=by
 intro l dA s Z H Q I h;refine isTrue_and (RA (i dA s Z H _ I h) λc m n=>?_);obtain⟨e,f,g⟩:=n
 cases c with
 |true=>exact k l dA m Z e Q f g
 |false=>exact⟨e,f,g⟩
def aA9(i:PT X a j)(k:PW X (.BoolOp .Or (b::aAw) pos) d):PW X (.BoolOp .Or (a::b::aAw) pos) (Kd j d):=by
 intro l dA s Z H Q I h;refine isTrue_or (RA (i dA s Z H _ I h) λc m n=>?_);obtain⟨e,f,g⟩:=n
 cases c with
 |true=>exact⟨e,f,g⟩
 |false=>exact k l dA m Z e Q f g
def oAa(b:PT X a d):PT X (.UnaryOp .Not a pos) (bGa d):=by
 intro dA s Z H Q I h;exact isTrue_not (b dA s Z H (λc e=>Q (!c) e) I h)
def Jd(b d:TE):TE:=λZ H Q=>b Z H λx a=>∃c,x=.bl c/\if c=bA then d Z a Q else Q (.bl cA) a
def Ld(b d:TE):TE:=λZ H Q=>b Z H λx a=>∃c,x=.bl c/\if c=bA then Q (.bl bA) a else d Z a Q
def T9{op}(h:PE X a t):PE X (.BoolOp op [a] pos) t:=λdA s Z H Q I b=>BoolOp_one (h dA s Z H Q I b)
def l_(g:PE X a i)(j:PE X (.BoolOp .And (b::aAw) pos) k):PE X (.BoolOp .And (a::b::aAw) pos) (Jd i k):=by
 intro dA s Z H Q I h;refine BoolOp_and (RA (g dA s Z H _ I h) λv l m=>?_);obtain⟨x,e,f,n,d⟩:=m;obtain⟨c,rfl,d⟩:=d;cases n;refine EK ?_
 cases c with
 |true=>exact j dA l Z e Q f d
 |false=>exact⟨.bl cA,e,f,rfl,d⟩
def U9(g:PE X a i)(j:PE X (.BoolOp .Or (b::aAw) pos) k):PE X (.BoolOp .Or (a::b::aAw) pos) (Ld i k):=by
 intro dA s Z H Q I h;refine BoolOp_or (RA (g dA s Z H _ I h) λv l m=>?_);obtain⟨x,e,f,n,d⟩:=m;obtain⟨c,rfl,d⟩:=d;cases n;refine EK ?_
 cases c with
 |false=>exact j dA l Z e Q f d
 |true=>exact⟨.bl bA,e,f,rfl,d⟩
noncomputable def tIf(t:TT)(b d:TE):TE:=λZ H Q=>t Z H λc a=>if c=bA then b Z a Q else d Z a Q
def r_(j:PT X c k)(l:PE X a m)(n:PE X b o):PE X (.IfExp c a b pos) (tIf k m o):=by
 intro dA s Z H Q I h;refine wpAny_IfExp (RA (j dA s Z H _ I h) λd e p=>?_);obtain⟨f,g,i⟩:=p
 cases d with
 |true=>exact l dA e Z f Q g i
 |false=>exact n dA e Z f Q g i
end
def qB(K:jA)(H:Hp)(a:lA)(c:List V):Prop :=
 Rd H a (.l c) \/
  ∃(o:AB) (b:Array gA) (n:Nat),K.lookup a=aA o/\o.cls=.type "list"/\o.dict=eA/\o.data=.seq b n/\b.size<=sizeLine/\aAd c b.toList
def pC(K:jA)(H:Hp)(a:lA)(c:List V):Prop :=
 Rd H a (.t c) \/
  ∃(o:AB) (b:Array gA) (n:Nat),K.lookup a=aA o/\o.cls=.type "tuple"/\o.data=.seq b n/\b.size<=sizeLine/\aAd c b.toList
noncomputable def Ci:gA->Option V
 |.none=>aA .nA
 |.bool b=>aA (.bl b)
 |.int i _=>aA (.int i)
 |.str x _=>aA (.str x)
 |.ref a=>aA (.ref a)
 |.type n=>aA (.ty n)
 |_=>eA
def aAf.abs(r:aAf x u):Ci u=aA x:=by
 cases x with
 |nA=>cases r;rfl
 |bl _=>cases r;rfl
 |int _=>obtain⟨t,rfl⟩:=r;rfl
 |str _=>obtain⟨t,rfl⟩:=r;rfl
 |ref _=>cases r;rfl
 |ty _=>cases r;rfl
theorem aAf.inj(r:aAf x u)(q:aAf y u):x=y:=pD (r.abs.symm.trans q.abs)
theorem aAd.inj{k j:List V}{m:List gA}(h:aAd k m)(u:aAd j m):k=j:=by
 induction h generalizing j with
 |nil=>cases u;rfl
 |cons r t x=>cases u with | cons y z=>rw[r.inj y,x z]
section
variable{xs ys:List V}
def qB.of{K:jA}(h:H a=aA (.l xs)):qB K H a xs:=.inl (.inl h)
def pC.of{K:jA}(h:H a=aA (.t xs)):pC K H a xs:=.inl (.inl h)
def kA.list(I:kA X dA Z H s)(h:qB X.K H a xs):∃j:List gA,aAd xs j/\PlainL s.heap a j.toArray/\xs.length<=sizeLine:=by
 rcases h with h | ⟨o,j,n,hk,k,hd,m,u,r⟩
 ·obtain⟨z,j,n,r,e⟩:=h.ok I.aB;exact⟨j,r,⟨_,n,e,rfl,rfl,rfl⟩,z⟩
 ·refine⟨j.toList,r,⟨o,n,I.wD a o hk,k,hd,by simpa using m⟩, ?_⟩;have e:=r.length;simp only[eM] at e
  lia
def kA.tuple(I:kA X dA Z H s)(h:pC X.K H a xs):∃j:List gA,aAd xs j/\IsTup s.heap a j.toArray/\xs.length<=sizeLine:=by
 rcases h with h | ⟨o,j,n,hk,k,m,u,r⟩
 ·obtain⟨z,j,r,p⟩:=h.ok I.aB;exact⟨j,r,p,z⟩
 ·refine⟨j.toList,r,⟨o,I.wD a o hk,k,n,by simpa using m⟩, ?_⟩;have e:=r.length;simp only[eM] at e
  lia
def kA.X8(I:kA X dA Z H s)(h:qB X.K H a xs)(x:qB X.K H a ys):xs=ys:=by
 obtain⟨k,r,⟨o,n,e,_,_,d⟩,_⟩:=I.list h;obtain⟨j,y,⟨B,C,m,_,_,u⟩,_⟩:=I.list x;rw[e] at m;cases m;rw[d] at u
 injection u with z _
 have:k=j:=by simpa using congrArg eQ z
 subst this;exact r.inj y
def kA.xGa(I:kA X dA Z H s)(h:pC X.K H a xs)(x:pC X.K H a ys):xs=ys:=by
 obtain⟨k,r,⟨o,e,_,n,d⟩,_⟩:=I.tuple h;obtain⟨j,y,⟨B,m,_,C,u⟩,_⟩:=I.tuple x;rw[e] at m;cases m;rw[d] at u
 injection u with z _
 have:k=j:=by simpa using congrArg eQ z
 subst this;exact r.inj y
end
abbrev Cx.zI(X:Cx)(E:gA->HA->Prop):Cx:={ X with xe:=E }
abbrev Cx.pN(X:Cx):Cx:=X.zI λ_ _=>False
theorem Cx.Ok.zI{X:Cx}(ok:X.Ok)(E:gA->HA->Prop):(X.zI E).Ok :=
 ⟨ok.mod,ok.kind,ok.glob,ok.blt,ok.above,ok.inj,ok.has,ok.lL,ok.hd,ok.frames,ok.wN,ok.hR,ok.bs,ok.ZH,ok.ML,ok.QM,ok.dG,ok.bJ⟩
def Cx.Ok.AK{X:Cx}(ok:(X.zI E).Ok):X.Ok :=
 ⟨ok.mod,ok.kind,ok.glob,ok.blt,ok.above,ok.inj,ok.has,ok.lL,ok.hd,ok.frames,ok.wN,ok.hR,ok.bs,ok.ZH,ok.ML,ok.QM,ok.dG,ok.bJ⟩
section
variable{E:gA->HA->Prop}
theorem kA.zI(I:kA X dA Z H s)(E:gA->HA->Prop):kA (X.zI E) dA Z H s:=⟨I.ok.zI E,I.os,I.bare,I.base,I.loc,I.cell,I.free,I.NG,I.pin,I.aB,I.len⟩
theorem kA.AK(I:kA (X.zI E) dA Z H s):kA X dA Z H s:=⟨I.ok.AK,I.os,I.bare,I.base,I.loc,I.cell,I.free,I.NG,I.pin,I.aB,I.len⟩
theorem SP.AK(h:SP (X.zI E) dA D f m):SP X dA D f m:=by
 cases f with
 |next=>obtain⟨j,k,I,q⟩:=h;exact⟨j,k,I.AK,q⟩
 |brk=>obtain⟨j,k,I,q⟩:=h;exact⟨j,k,I.AK,q⟩
 |cont=>obtain⟨j,k,I,q⟩:=h;exact⟨j,k,I.AK,q⟩
 |ret u=>obtain⟨v,j,k,I,r,q⟩:=h;exact⟨v,j,k,I.AK,r,q⟩
theorem bD.pN{st:List cB}(h:bD X.pN st t):bD X st t:=λdA s Z H D I j =>
 FH (h dA s Z H D (I.zI _) j) (λ_ _ q=>q.AK) λ_ _ z=>GG z
end
section
variable{st:cB}{aAw:List cB}
def RZ:TS:=λD Z H=>D.nx Z H
def fGa(t u:TS):TS:=λD Z H=>t { D with nx:=u D } Z H
def va:bD X [] RZ:=λ_ _ Z H _ I h=>R1 ⟨Z,H,I,h⟩
def ua(a:PS X st t)(b:bD X aAw u):bD X (st::aAw) (fGa t u):=by
 intro dA s Z H D I h;refine wpAny_execs_cons (RA (a dA s Z H { D with nx:=u D } I h) λf c q=>?_)
 cases f with
 |next =>
  obtain⟨d,e,g,q⟩:=q;exact b dA c d e D g q
 |ret v=>exact q
 |brk=>exact q
 |cont=>exact q
def qFa:TS:=λD Z H=>D.bk Z H
def sFa:TS:=λD Z H=>D.ct Z H
def V':PS X (.Pass pos) RZ:=λ_ _ Z H _ I h=>wpAny_Pass ⟨Z,H,I,h⟩
def J':PS X (.Break pos) qFa:=λ_ _ Z H _ I h=>wpAny_Break ⟨Z,H,I,h⟩
def O':PS X (.Continue pos) sFa:=λ_ _ Z H _ I h=>wpAny_Continue ⟨Z,H,I,h⟩
def kA.quiet(I:kA X dA Z H s):interactive X.env=cA:=by simp[interactive,I.ok.kind]
def tFa(a:TE):TS:=λD Z H=>a Z H λ_ b=>D.nx Z b
def P'(a:PE X e b)(c:swapsWith e eA pos.line X.env=pure cA:=by rfl):PS X (.Expr e pos) (tFa b):=by
 intro dA s Z H D I h;exact wpAny_Expr_any (RA (a dA s Z H _ I h) λv j d=>(by obtain⟨x,f,g,k,i⟩:=d;exact⟨Z,f,g,i⟩)) I.quiet c
def dGa(a:TE):TS:=λD Z H=>a Z H D.rt
def qa(a:PE X e b):PS X (.Return (aA e) pos) (dGa b):=by
 intro dA s Z H D I h;exact wpAny_Return_some (RA (a dA s Z H _ I h) λv j c=>(by obtain⟨x,d,f,g,i⟩:=c;exact⟨x,Z,d,f,g,i⟩))
def eGa:TS:=λD _ H=>D.rt .nA H
def aAa:PS X (.Return eA pos) eGa:=λ_ _ Z H _ I h=>wpAny_Return_none ⟨.nA,Z,H,I,rfl,h⟩
def xFa(c:TT)(t u:TS):TS:=λD Z H=>c Z H λb a=>if b=bA then t D Z a else u D Z a
def T'(j:PT X c k)(l:bD X a t)(m:bD X b u):PS X (.If c a b pos) (xFa k t u):=by
 intro dA s Z H D I h;refine wpAny_If (RA (j dA s Z H _ I h) λd e n=>?_);obtain⟨f,g,i⟩:=n
 cases d with
 |true=>exact l dA e Z f D g i
 |false=>exact m dA e Z f D g i
end
abbrev TG:=V->St->Hp->(St->Hp->Prop)->Prop
abbrev BM:=List V->St->Hp->(St->Hp->Prop)->Prop
def PG(X:Cx)(target:zA)(t:TG):Prop :=
 ∀(dA:List (lA×AB)) (s:HA) (Z:St) (H:Hp) (v:V) (u:gA) (Q:St->Hp->Prop),kA X dA Z H s->aAf v u->t v Z H Q ->
  JA (model X.prog X.w) X.A (assign target X.env u) (λ_ c=>∃a b,kA X dA a b c/\Q a b) X.xe s
def RI(X:Cx)(ts:List zA)(t:BM):Prop :=
 ∀(dA:List (lA×AB)) (s:HA) (Z:St) (H:Hp) (a:List V) (b:List gA) (Q:St->Hp->Prop),kA X dA Z H s->aAd a b->t a Z H Q ->
  JA (model X.prog X.w) X.A (assignInOrder ((HG ts X.env).map (·.2)) b) (λ_ e=>∃c d,kA X dA c d e/\Q c d) X.xe s
abbrev wQ:=V->V->V->Hp->(Hp->Prop)->Prop
def FU(X:Cx)(t:wQ):Prop :=
 ∀(dA:List (lA×AB)) (s:HA) (Z:St) (H:Hp) (o i v:V) (a b u:gA) (Q:Hp->Prop),kA X dA Z H s->aAf o a->aAf i b->aAf v u->t o i v H Q ->
  JA (model X.prog X.w) X.A (setItem a b u) (λ_ d=>∃c,kA X dA Z c d/\Q c) X.xe s
section
variable{pos:vC}
def cN(i:Nat):TG:=λv Z H Q=>Q (Z.set i (aA v)) H
def X9(a:X.N.Nodup)(b:X.N[i]?=aA x)(c:Loc X.env.scope x)(d:X.fn x=bA\/X.env.scope.names.lookup x=aA .local:=by first | exact .inl rfl | exact .inr rfl | assumption):PG X (.Name x pos) (cN i):=by
 intro dA s Z H v u Q I r h;exact Df (fFa I a b c r (λf e=>⟨_,H,e,h⟩) d)
def Xp:BM:=λa Z H Q=>a=[]/\Q Z H
def Vp(t:TG)(u:BM):BM:=λa Z H Q=>∃v r,a=v::r/\t v Z H λb c=>u r b c Q
def I_:RI X [] Xp:=by
 intro dA s Z H a b Q I r h;obtain⟨e,h⟩:=h;subst e;cases r;exact assignInOrder_nil ⟨Z,H,I,h⟩
def G_(b:PG X e t)(c:RI X a u)
  (d:(HG (e::a) X.env).map (·.2)=assign e X.env::(HG a X.env).map (·.2):=by rfl):RI X (e::a) (Vp t u):=by
 intro dA s Z H o p Q I r h;obtain⟨v,q,f,h⟩:=h;subst f
 cases r with
 |cons r g =>
  rw[d];refine assignInOrder_cons (RA (b dA s Z H _ _ _ I r h) λ_ i j=>?_);obtain⟨k,l,m,n⟩:=j;exact c dA i k l _ _ Q m g n
def Zp(K:jA)(n:Nat)(t:BM):TG:=λv Z H Q=>∃a b,v=.ref a/\pC K H a b/\b.length=n/\t b Z H Q
def F_(i:X.calm=bA)(h:RI X c t)
  (j:(HG c X.env).length=n:=by rfl) (d:(HG c X.env).findIdx? (·.1)=eA:=by rfl):PG X (.Tuple c k pos) (Zp X.K n t):=by
 intro dA s Z H v u Q I r f;obtain⟨a,l,m,p,hl,f⟩:=f;subst m;cases r;obtain⟨q,g,w,A⟩:=I.tuple p;refine assign_Tuple_tuple (I.ok.hd i) w (by simp[j,<- hl,g.length]) d λx y=>?_
 have z:kA X dA Z H { s with heap:=x }:=I.kept (t':=s.toks) λb o e=>y b o (SD (nC e)) e
 exact h dA _ Z H l _ Q z (by simpa using g) f
def Yp(a b:TE)(t:wQ):TG:=λv Z H Q=>a Z H λo c=>b Z c λi d=>t o i v d λe=>Q Z e
def E_(d:PE X o e)(f:PE X i g)(j:FU X t)
  (k:∀v,assign (.Subscript o i pos) X.env v=(do
   let a <- holding [v] (eval o X.env)
   let b <- holding [v,a] (eval i X.env)
   standAt pos
   holding [v,a,b] (setItem a b v)
   release [v,a,b] []):=by intro _;rfl):PG X (.Subscript o i pos) (Yp e g t):=by
 intro dA s Z H v u Q I r h;rw[k];refine WA (YT (RA (d dA s Z H _ I h) λa l c=>?_));obtain⟨x,m,n,p,q⟩:=c;refine WA (YT (RA (f dA l Z m _ n q) λb w c=>?_));obtain⟨y,z,A,B,C⟩:=c;refine WA (ZT (WA (YT (RA (j dA w Z z x y v a b u _ A p B r C) λ_ M c=>?_))));obtain⟨F,J,K⟩:=c;exact wpAny_release ⟨Z,F,J,K⟩
def LZ(a:TE)(g:TG):TS:=λD Z H=>a Z H λx b=>g x Z b D.nx
def CS(b:PE X e c)(d:PG X a g)(f:swapsWithSole [a] e pos.line X.env=pure cA:=by rfl)(i:swappedStores [a] e X.env=pure eA:=by rfl)
  (j:(HG [a] X.env).map (·.2)=[assign a X.env]:=by rfl):PS X (.Assign [a] e pos) (LZ c g):=by
 intro dA s Z H D I h;refine wpAny_Assign_stores (RA (b dA s Z H _ I h) λv k l=>?_) f i;obtain⟨x,m,n,o,p⟩:=l;rw[j];exact RA (d dA k Z m x v _ n o p) λ_ r q=>q
end
structure It where
 go:Nat->Hp->Prop
 pT:Nat->Hp->V->Hp->Prop
 stop:Nat->Hp->Prop
def sG(X:Cx)(dA:List (lA×AB))(H:Hp)(b:lA):Prop :=
 H b=eA/\b≠X.env.locals/\b ∉ X.fs/\(b∈X.ex\/X.s₀.heap.get? b=eA)/\(∀x c,X.env.cells.lookup x=aA c->c≠b)/\∀p∈X.pn++dA,p.1≠b
def kA.fK(I:kA X dA Z H s)(j:s.heap.objs.size<=b)(k:m b=eA):sG X dA m b:=by
 refine⟨k,J2 (aE I.lt j),I.zx j,.inr (zT (KC I.sz j)),λx c e z=>?_,λp hp z=>?_⟩
 ·obtain⟨v,q⟩:=I.cell x c e;exact absurd (aE q.lt (by rw[z];exact j)) (nM _)
 ·exact absurd (aE (nC (I.pin p hp).1) (by rw[z];exact j)) (nM _)
structure Turn(P:oE)(w:WC)(K:jA)(tg:zA)(J:It)(fp:List lA)(it:lA)(tn:Nat->XB->Prop):Prop where
 mem:it∈fp
 obj:∀i h,tn i h->∀b∈fp,∃o,h.get? b=aA o/\∀v,o.data≠.cell v
 keep:∀i h h',tn i h->(∀b∈fp,∀o,h.get? b=aA o->h'.get? b=aA o)->tn i h'
 item:∀(X:Cx),X.prog=P->X.w=w->X.K=K->X.calm=bA->∀(i:Nat) (dA:List (lA×AB)) (s:HA) (Z:St) (H:Hp) (E:gA->HA->Prop),kA X dA Z H s->(∀b∈fp,sG X dA H b)->tn i s.heap->J.go i H ->
  JA (model P w) X.A (pyNext (.ref it)) (λr s1=>∃u,r=aA u /\
   JA (model P w) X.A (letOwnedTupleGo tg (.ref it) u) (λ_ s2=>∃x H',kA X dA Z H' s2/\aAf x u/\J.pT i H x H'/\tn (i+1) s2.heap/\∀b∈fp,H' b=eA) E s1) E s
 done:∀(X:Cx),X.prog=P->X.w=w->X.K=K->X.calm=bA->∀(i:Nat) (dA:List (lA×AB)) (s:HA) (Z:St) (H:Hp) (E:gA->HA->Prop),kA X dA Z H s->(∀b∈fp,sG X dA H b)->tn i s.heap->J.stop i H ->
  JA (model P w) X.A (pyNext (.ref it)) (λr s1=>r=eA/\kA X dA Z H s1) E s
 self:∀(A:oG) (i:Nat) (s:HA) (Q:gA->HA->Prop) (E:gA->HA->Prop),tn i s.heap->Q (.ref it) s->JA (model P w) A (pyIter (.ref it)) Q E s
abbrev TI:=St->Hp->(It->Hp->Prop)->Prop
def K3(X:Cx)(dA:List (lA×AB))(Z:St)(h:zA)(R:It->Hp->Prop)(a:gA)(d:HA):Prop :=
 ∃(e:lA) (f:List lA) (g:Nat->XB->Prop) (J:It) (c:Hp),a=.ref e/\kA X dA Z c d/\Turn X.prog X.w X.K h J f e g/\g 0 d.heap/\(∀b∈f,sG X dA c b)/\R J c
def PI(X:Cx)(a iter:zA)(b:TI):Prop :=
 ∀(dA:List (lA×AB)) (s:HA) (Z:St) (H:Hp) (R:It->Hp->Prop),kA X dA Z H s->b Z H R ->
  JA (model X.prog X.w) X.A (eval iter X.env) (λv c=>JA (model X.prog X.w) X.A (pyIter v) (K3 X dA Z a R) X.xe c) X.xe s
def JR(b:s.heap.get? c=aA o)(d:o.cls=.type n)(hd:o.data=.fields e)
  (f:["enumerate","zip","dict_itemiterator","dict_reverseitemiterator","odict_iterator","itertools.zip_longest","itertools.pairwise"].contains n=cA) (a:Q () s):JA M A (letOwnedTupleGo g (.ref c) u) Q E s:=by
 unfold letOwnedTupleGo
 cases g<;>first
  |exact YB a
  | (cases u<;>first
    |exact YB a
    | (refine WA (wpAny_load b ?_)
       rw[d,hd];show JA M A (if(["enumerate","zip","dict_itemiterator","dict_reverseitemiterator","odict_iterator","itertools.zip_longest","itertools.pairwise"].contains n&&e[0]? == aA (rawInt _))=bA then _ else _) Q E s;rw[pB (by intro h;rw[f,FJ] at h;cases h)]
       exact YB a))
noncomputable def vU(K:jA)(a:lA):It :=
 ⟨λi H=>∃b x,qB K H a b/\b[i]?=aA x,λi H x c=>c=H/\∀b,qB K H a b->b[i]?=aA x,λi H=>∃b,qB K H a b/\b.length<=i⟩
noncomputable def xU(K:jA)(a:lA):It :=
 ⟨λi H=>∃b x,pC K H a b/\b[i]?=aA x,λi H x c=>c=H/\∀b,pC K H a b->b[i]?=aA x,λi H=>∃b,pC K H a b/\b.length<=i⟩
noncomputable def fO(lo:Int)(n:Nat):It:=⟨λi _=>i<n,λi H x a=>a=H/\x=.int (lo+i),λi _=>n<=i⟩
def yGa{K:jA}(a f:lA):Turn P w K tg (vU K a) [f] f (λi h=>h.IsListIter f a i) where
 mem:=by simp
 obj:=λi h st b g=>by
  have e:b=f:=by simpa using g
  subst e;obtain⟨o,e,c,d⟩:=st;exact⟨o,e,λv z=>by rw[d] at z;cases z⟩
 keep:=λi h l st k=>st.at λo e=>k f (by simp) o e
 item:=by
  intro X q r t O i dA s Z H E I m st y;subst q r t;obtain⟨Q,x,n,A⟩:=y;obtain⟨B,C,p,R⟩:=I.list n;obtain⟨u,hu,U⟩:=C.get A;obtain⟨F,f1,f2,J,M,N⟩:=m f (by simp);refine wpAny_pyNext_list_item st p.isList (x:=u) (by simpa using hu) λl j Y=>?_
  have I1:kA X dA Z H { s with heap:=l }:=I.turned (t':=s.toks) (λb o g e=>(Y.2 b g).trans e) F f1 J M N;obtain⟨o,e,c,d⟩:=id j;exact⟨u,rfl,JR (s:={ s with heap:=l }) e c d (by decide) ⟨x,H,I1,U,⟨rfl,λys hy=>by rw[I.X8 hy n];exact A⟩,j,λb g=>(m b g).1⟩⟩
 done:=by(intro X q r t O i dA s Z H E I m st y;subst q r t;obtain⟨Q,n,A⟩:=y;obtain⟨B,C,p,R⟩:=I.list n;obtain⟨F,f1,f2,J,M,N⟩:=m f (by simp);have hl:=C.length;exact wpAny_pyNext_list_end (I.ok.hd O) st p.isList (by simp;lia) λl eb=>⟨rfl,I.turned (t':=s.toks) (λb o g e=>eb b o g e) F f1 J M N⟩)
 self:=λ_ _ _ _ _ st h=>wpAny_pyIter_listiter st h
def bHa{K:jA}(a f:lA):Turn P w K tg (xU K a) [f] f (λi h=>h.IsTupleIter f a i) where
 mem:=by simp
 obj:=λi h st b g=>by
  have e:b=f:=by simpa using g
  subst e;obtain⟨o,e,c,d⟩:=st;exact⟨o,e,λv z=>by rw[d] at z;cases z⟩
 keep:=λi h m st k=>st.at λo e=>k f (by simp) o e
 item:=by
  intro X r t y O i dA s Z H E I n st A;subst r t y;obtain⟨Q,x,q,B⟩:=A;obtain⟨j,C,p,R⟩:=I.tuple q;obtain⟨u,hu,U⟩:=C.get B;obtain⟨F,f1,f2,J,M,N⟩:=n f (by simp);refine wpAny_pyNext_tuple_item st (show s.heap.IsTuple a j.toArray from p) (x:=u) (by simpa using hu) λm l Y=>?_
  have I1:kA X dA Z H { s with heap:=m }:=I.turned (t':=s.toks) (λb o g e=>(Y.2 b g).trans e) F f1 J M N;obtain⟨o,e,c,d⟩:=id l;exact⟨u,rfl,JR (s:={ s with heap:=m }) e c d (by decide) ⟨x,H,I1,U,⟨rfl,λys hy=>by rw[I.xGa hy q];exact B⟩,l,λb g=>(n b g).1⟩⟩
 done:=by(intro X r t y O i dA s Z H E I n st A;subst r t y;obtain⟨Q,q,B⟩:=A;obtain⟨j,C,p,R⟩:=I.tuple q;obtain⟨F,f1,f2,J,M,N⟩:=n f (by simp);have hl:=C.length;exact wpAny_pyNext_tuple_end (I.ok.hd O) st (show s.heap.IsTuple a j.toArray from p) (by simp;lia) λm eb=>⟨rfl,I.turned (t':=s.toks) (λb o g e=>eb b o g e) F f1 J M N⟩)
 self:=λ_ _ _ _ _ st h=>wpAny_pyIter_tupleiter st h
def zGa{K:jA}(a:lA)(lo:Int)(n:Nat):Turn P w K N (fO lo n) [a] a (λi h=>IsRangeIter h a (lo+(i:Nat)*1) ((n:Int)-(i:Nat)) 1) where
 mem:=by simp
 obj:=λi h st b c=>by
  have e:b=a:=by simpa using c
  subst e
  exact⟨_,st,λv z=>by
   have B:Data.fields _=Data.cell v:=z
   cases B⟩
 keep:=λi h f st k=>k a (by simp) _ st
 item:=by
  intro X j l m p i dA s Z H E I g st q;subst j l m;obtain⟨r,f1,f2,u,x,y⟩:=g a (by simp);have W:=Walks.range (prog:=X.prog) (w:=X.w) (I.ok.hd p) a lo 1 n;refine W.item i s _ _ q st λv f A C d F=>?_
  obtain⟨t,rfl⟩:=C;have J:kA X dA Z H { s with heap:=f,toks:=A }:=I.turned (λb o c e=>F b o (by simpa using c) e) r f1 u x y;refine⟨_,rfl,JR (s:={ s with heap:=f,toks:=A }) (n:="range_iterator") d rfl rfl (by decide) ⟨.int (lo+i),H,J,⟨t, ?_⟩,⟨rfl,rfl⟩,d,λb c=>(g b c).1⟩⟩;rw[Int.mul_one]
 done:=by(intro X j l m p i dA s Z H E I g st q;subst j l m;obtain⟨r,f1,f2,u,x,y⟩:=g a (by simp);exact wpAny_pyNext_range_end (I.ok.hd p) st (by have:n<=i:=q;lia) λf M=>⟨rfl,I.turned (t':=s.toks) (λb o c e=>M b o c e) r f1 u x y⟩)
 self:=λ_ _ _ _ _ st h=>wpAny_pyIter_rangeiter st h
section
variable{tg:zA}
def LX(K:jA)(c:TE):TI:=λZ H R=>c Z H λx b=>∃a,x=.ref a/\(∃d,qB K b a d)/\R (vU K a) b
def MX(K:jA)(c:TE):TI:=λZ H R=>c Z H λx b=>∃a,x=.ref a/\(∃d,pC K b a d)/\R (xU K a) b
def Z9(hl:PE X l g):PI X tg l (LX X.K g):=by
 intro dA s Z H R I h;refine RA (hl dA s Z H _ I h) λv c f=>?_
 obtain⟨x,i,d,j,k⟩:=f;obtain⟨a,e,⟨t,m⟩,q⟩:=k;subst e;cases j;obtain⟨n,u,p,f⟩:=d.list m;refine JP p.isList ?_;refine⟨c.heap.objs.size,[c.heap.objs.size],_,_,i,rfl,d.kept (t':=c.toks) λb o e=>aD _ e,yGa a _,⟨_,NF _ rfl,rfl,rfl⟩,λb r=>?_,q⟩;have e:b=c.heap.objs.size:=by simpa using r
 subst e;exact d.fK (oB _) (d.aB.fresh (oB _))
def ea(hl:PE X l i):PI X tg l (MX X.K i):=by
 intro dA s Z H R I h;refine RA (hl dA s Z H _ I h) λv c g=>?_
 obtain⟨x,j,d,k,m⟩:=g;obtain⟨a,e,⟨t,n⟩,q⟩:=m;subst e;cases k;obtain⟨f,u,p,g⟩:=d.tuple n;refine wpAny_pyIter_tuple (show c.heap.IsTuple a f.toArray from p) ?_;refine⟨c.heap.objs.size,[c.heap.objs.size],_,_,j,rfl,d.kept (t':=c.toks) λb o e=>aD _ e,bHa a _,⟨_,NF _ rfl,rfl,rfl⟩,λb r=>?_,q⟩;have e:b=c.heap.objs.size:=by simpa using r
 subst e;exact d.fK (oB _) (d.aB.fresh (oB _))
def Na{lo a:Int}(I:kA X dA Z H s)(d:-(2 ^ 62)<=lo)(f:lo<2 ^ 62)(g:-(2 ^ 62)<=a)(h:a<2 ^ 62)
  (q:R (fO lo (a-lo).toNat) H):JA (model X.prog X.w) X.A (pyIter (.ref s.heap.objs.size)) (K3 X dA Z tg R) E { s with heap:=s.heap.push { cls:=.type "range",data:=.fields #[.int lo t,.int a u,.int 1 v] },toks:=tk }:=by
 refine wpAny_pyIter_range (IsRange.new ..) (small_one d f g h) ?_;have c:kA X dA Z H { s with heap:=s.heap.push { cls:=.type "range",data:=.fields #[.int lo t,.int a u,.int 1 v] },toks:=tk }:=I.kept λb o e=>aD _ e
 refine⟨(s.heap.push { cls:=.type "range",data:=.fields #[.int lo t,.int a u,.int 1 v] }).objs.size,[(s.heap.push { cls:=.type "range",data:=.fields #[.int lo t,.int a u,.int 1 v] }).objs.size],_,_,H,rfl,
  c.kept (t':=tk) λb o e=>aD _ e,zGa _ lo (a-lo).toNat, ?_,λb i=>?_,q⟩
 ·have j:lo+((0:Nat):Int)*1=lo:=by simp
  have k:(((a-lo).toNat:Nat):Int)-((0:Nat):Int)=Builtin.Range.rangeSize lo a 1:=by rw[rangeSize_one];split<;>lia
  show IsRangeIter _ _ (lo+((0:Nat):Int)*1) ((((a-lo).toNat:Nat):Int)-((0:Nat):Int)) 1;rw[j,k];exact NF _ rfl
 ·have e:b=(s.heap.push { cls:=.type "range",data:=.fields #[.int lo t,.int a u,.int 1 v] }).objs.size:=by simpa using i
  subst e;exact c.fK (oB _) (c.aB.fresh (oB _))
def U6(a:TA):TI:=λZ H R=>a Z H λb c=>∃j:Int,b=[.int j]/\-(2 ^ 62)<=j/\j<2 ^ 62/\R (fO 0 j.toNat) c
def V6(a:TA):TI:=λZ H R=>a Z H λb c=>∃i j:Int,b=[.int i,.int j]/\(-(2 ^ 62)<=i/\i<2 ^ 62/\-(2 ^ 62)<=j/\j<2 ^ 62)/\R (fO i (j-i).toNat) c
def aa{p pos:vC}(c:Gl X "range")(d:X.mg "range"=eA)(f:PA X [a] g)(i:eC [a] X.env=[(cA,eval a X.env)]:=by rfl):PI X tg (.Call (.Name "range" p) [a] [] pos) (U6 g):=by
 intro dA s Z H R I h;refine Call_ (IL I c d boot_range (rT (RA (f pos dA s Z H _ I h) λu v k=>?_) i rfl));obtain⟨w,x,l,m,b⟩:=k;obtain⟨j,e,b,n,q⟩:=b;subst e
 cases m with
 |cons r o =>
  cases o;obtain⟨t,rfl⟩:=r;exact call_range_1 (Na l (by lia) (by lia) b n (by simpa using q))
def da(g:Gl X "range")(k:X.mg "range"=eA)(l:PA X [a,b] m)(n:eC [a,b] X.env=[(cA,eval a X.env),(cA,eval b X.env)]:=by rfl)(c:eC [b] X.env=[(cA,eval b X.env)]:=by rfl) :
  PI X tg (.Call (.Name "range" p) [a,b] [] pos) (V6 m):=by
 intro dA s Z H R I h;refine Call_ (IL I g k boot_range (rT (RA (l pos dA s Z H _ I h) λA B o=>?_) (by rw[n,c]) (by rw[c];rfl)));obtain⟨C,F,u,v,d⟩:=o;obtain⟨i,j,e,⟨d,w,x,y⟩,q⟩:=d;subst e
 cases v with
 |cons r f =>
  cases f with
  |cons z f =>
   cases f;obtain⟨t,rfl⟩:=r;obtain⟨J,rfl⟩:=z;exact call_range_2 (Na u d w x y q)
def vFa(d:TI)(g:TG)(e:TS):TS:=λD Z H=>d Z H λJ f=>∃W:Nat->Nat->St->Hp->Prop,(∃m,W 0 m Z f)/\∀i m Z H,W i m Z H ->
 (J.stop i H/\D.nx Z H)\/(J.go i H/\∃N:St->Hp->Prop,(∀b a,N b a->∃c,c<m/\W (i+1) c b a)/\∀x a,J.pT i H x a->g x Z a λh j=>e { D with nx:=N,ct:=N,bk:=D.nx } h j)
noncomputable def hP(a:List lA)(h:XB):List (lA×AB):=a.filterMap λb=>(h.get? b).map λo=>(b,o)
def kS(a:b∈c)(e:h.get? b=aA o):(b,o)∈hP c h:=xf.mpr ⟨b,a,by rw[e];rfl⟩
def Kx(a:p∈hP c h):p.1∈c/\h.get? p.1=aA p.2:=by
 obtain⟨b,d,e⟩:=xf.mp a
 cases q:h.get? b with
 |none=>rw[q] at e;cases e
 |some o =>
  rw[q] at e;have f:(b,o)=p:=pD e;subst f;exact⟨d,q⟩
def kA.pinned(I:kA X dA Z H s)(u:∀b∈j,sG X dA H b)(ho:∀b∈j,∃o,s.heap.get? b=aA o/\∀v,o.data≠.cell v):kA X (dA++hP j s.heap) Z H s :=
 I.ja λp hp=>(QE.mp hp).elim (λz=>I.pin p (JI _ z)) λz=>by(obtain⟨k,e⟩:=Kx z;obtain⟨x,f1,f2,_⟩:=u p.1 k;obtain⟨o,m,d⟩:=ho p.1 k;rw[e] at m;cases m;exact⟨e,x,f1,f2,d⟩)
def kA.lT(I:kA X (dA++pl) Z H s):kA X dA Z H s:=I.ja λp hp=>I.pin p (JI _ (CT _ hp))
def S'(z:qM (model X.prog X.w) X.A X.env X.xe)(hc:X.calm=bA)(hi:PI X tg iter wi)(hg:PG X tg g)(a:bD X body tb)
  (hs:∀x,LI iter X.env x=pure x:=by intro _;rfl):PS X (.For tg iter body [] pos) (vFa wi g tb):=by
 intro dA s Z H D I h;refine wpAny_For (RA (hi dA s Z H _ I h) λv s1 h1=>RA h1 λnt s2 h2=>?_) hs;obtain⟨it,B,tn,J,H2,e,I2,T,Q,f2,W,⟨m0,w0⟩,aAJ⟩:=h2;subst e
 -- pe stays bA of oD lJa objects through oD loop
 have c:∀{p:Hp},(∀b∈B,p b=eA)->∀b∈B,sG X dA p b:=λhn b a=>⟨hn b a,(f2 b a).2⟩
 refine codeAny_forLoop_any (λn s'=>∃i C p,kA X dA C p s'/\tn i s'.heap/\(∀b∈B,p b=eA)/\W i n C p) ?_ m0 ⟨0,Z,H2,I2,Q,λb a=>(f2 b a).1,w0⟩
 rintro n s3 ⟨i,F,P,I3,K,M,w3⟩
 rcases aAJ i n F P w3 with ⟨stop,qn⟩ | ⟨go,N,hN,step⟩
 ·refine VP z (RA (T.done X rfl rfl rfl hc i dA s3 F P X.xe I3 (c M) K stop) λr s4 t=>?_);obtain⟨R,I4⟩:=t;subst R;exact R1 ⟨F,P,I4,qn⟩
 ·refine VP z (RA (T.item X rfl rfl rfl hc i dA s3 F P X.xe I3 (c M) K go) λr s4 t=>?_);obtain⟨u,R,h4⟩:=t;subst R;refine VP z (RA h4 λ_ s5 t=>?_);obtain⟨x,H5,I5,r5,y5,y,U⟩:=t;have Y:=I5.pinned (c U) (T.obj _ _ y);refine VP z (RA (hg _ s5 F H5 x u _ Y r5 (step x H5 y5)) λ_ s6 t=>?_);obtain⟨Z6,H6,I6,q6⟩:=t;refine VP z (RA (a _ s6 Z6 H6 _ I6 q6) λf s7 q=>?_)
  have again:∀{j:St} {k:Hp},kA X (dA++hP B s5.heap) j k s7->N j k->∃m,m<n/\∃i C p,kA X dA C p s7/\tn i s7.heap/\(∀b∈B,p b=eA)/\W i m C p:=λ{j k} l O=>by(obtain⟨m',hm,w7⟩:=hN j k O;refine⟨m',hm,i+1,j,k,l.lT,T.keep _ _ _ y λb a o e=>(l.pin (b,o) (JI _ (JI _ (kS a e)))).1,λb a=>?_,w7⟩;obtain⟨o,e,d⟩:=T.obj _ _ y b a;exact(l.pin (b,o) (JI _ (JI _ (kS a e)))).2.1)
  cases f with
  |next=>obtain⟨j,k,l,O⟩:=q;exact again l O
  |cont=>obtain⟨j,k,l,O⟩:=q;exact again l O
  |brk=>obtain⟨j,k,l,q⟩:=q;exact⟨j,k,l.lT,q⟩
  |ret v=>obtain⟨x7,j,k,l,r7,q⟩:=q;exact⟨x7,j,k,l.lT,r7,q⟩
end
abbrev R2:=V->V->Hp->VK->Prop
def RB(X:Cx)(f:gA->gA->Sem gA)(r:R2):Prop :=
 ∀(dA:List (lA×AB)) (s:HA) (Z:St) (H:Hp) (x y:V) (v u:gA) (Q:VK),kA X dA Z H s->aAf x v->aAf y u->r x y H Q ->
  JA (model X.prog X.w) X.A (f v u) (EP X dA Z Q) X.xe s
def HU(X:Cx)(f:gA->Sem gA)(r:V->Hp->VK->Prop):Prop :=
 ∀(dA:List (lA×AB)) (s:HA) (Z:St) (H:Hp) (x:V) (v:gA) (Q:VK),kA X dA Z H s->aAf x v->r x H Q ->
  JA (model X.prog X.w) X.A (f v) (EP X dA Z Q) X.xe s
def UD(X:Cx)(f:gA)(r:List V->Hp->VK->Prop):Prop :=
 ∀(dA:List (lA×AB)) (s:HA) (Z:St) (H:Hp) (a:List V) (b:List gA) (Q:VK),kA X dA Z H s->aAd a b->r a H Q ->
  JA (model X.prog X.w) X.A (call f b) (EP X dA Z Q) X.xe s
def yi(X:Cx)(r:V->Hp->(Bool->Hp->Prop)->Prop):Prop :=
 ∀(dA:List (lA×AB)) (s:HA) (Z:St) (H:Hp) (x:V) (v:gA) (Q:Bool->Hp->Prop),kA X dA Z H s->aAf x v->r x H Q ->
  JA (model X.prog X.w) X.A (truthy v) (TP X dA Z Q) X.xe s
def BN(r:R2)(a b:TE):TE:=λZ H Q=>a Z H λx c=>b Z c λy d=>r x y d Q
def tUn(r:V->Hp->VK->Prop)(a:TE):TE:=λZ H Q=>a Z H λx b=>r x b Q
def rI(C:Int->Int->Prop)(g:Int->Int->V):R2:=λx y H Q=>∃i j,x=.int i/\y=.int j/\C i j/\Q (g i j) H
def qH(g:Int->Int->V):R2:=λx y H Q=>∃i j,x=.int i/\y=.int j/\Q (g i j) H
def rU(g:Int->V):V->Hp->VK->Prop:=λx H Q=>∃i,x=.int i/\Q (g i) H
section
variable{pos:vC}
def pV(i:PE X a j)(k:PE X b l){R:V->V->Hp->Prop}(I:kA X dA Z H s)
  (h:j Z H λx e=>l Z e λy c=>R x y c) {f:gA->gA->Sem gA}
  (m:∀v u d x y c,kA X dA Z c d->aAf x v->aAf y u->R x y c->JA (model X.prog X.w) X.A (f v u) Q X.xe d) :
  JA (model X.prog X.w) X.A (eval a X.env) (λv n=>JA (model X.prog X.w) X.A (eval b X.env) (λu o=>JA (model X.prog X.w) X.A (f v u) Q X.xe o) X.xe n) X.xe s:=by
 refine RA (i dA s Z H _ I h) λv p g=>?_
 obtain⟨x,e,q,r,t⟩:=g;refine RA (k dA p Z e _ q t) λu d g=>?_
 obtain⟨y,c,z,B,C⟩:=g;exact m v u d x y c z r B C
def x_(c:RB X (zD op) r)(d:PE X a e)(f:PE X b g):PE X (.BinOp a op b pos) (BN r e g):=by
 intro dA s Z H Q I h;exact wpAny_BinOp (pV d f I h λv u i x y j k l m q=>c dA i Z j x y v u Q k l m q)
def A_(b:HU X (unaryOp op) r)(c:PE X a d):PE X (.UnaryOp op a pos) (tUn r d):=by
 intro dA s Z H Q I h;exact UnaryOp_ (RA (c dA s Z H _ I h) λv e f=>(by obtain⟨x,g,i,j,k⟩:=f;exact b dA e Z g x v Q i j k))
def dP{g:Int->Int->Int}
  (rule:∀(i j:Int) (t u:Tok) (s:HA) (Q:gA->HA->Prop) (E:gA->HA->Prop),C i j->Q (.int (g i j) s.toks) { s with toks:=s.toks+1 }->JA (model X.prog X.w) X.A (f (.int i t) (.int j u)) Q E s) :
  RB X f (rI C λi j=>.int (g i j)):=by
 intro dA s Z H x y v u Q I a b h;obtain⟨i,j,rfl,rfl,c,q⟩:=h;obtain⟨t,rfl⟩:=a;obtain⟨d,rfl⟩:=b;exact rule i j t d s _ _ c ⟨.int (g i j),H,I.tok _,⟨_,rfl⟩,q⟩
def AS{g:Int->Int->Int}
  (rule:∀(i j:Int) (t u:Tok) (s:HA) (Q:gA->HA->Prop) (E:gA->HA->Prop),Q (.int (g i j) s.toks) { s with toks:=s.toks+1 }->JA (model X.prog X.w) X.A (f (.int i t) (.int j u)) Q E s) :
  RB X f (qH λi j=>.int (g i j)):=by
 intro dA s Z H x y v u Q I a b h;obtain⟨i,j,rfl,rfl,q⟩:=h;obtain⟨t,rfl⟩:=a;obtain⟨c,rfl⟩:=b;exact rule i j t c s _ _ ⟨.int (g i j),H,I.tok _,⟨_,rfl⟩,q⟩
def zS{g:Int->Int->Bool}
  (rule:∀(i j:Int) (t u:Tok) (s:HA) (Q:gA->HA->Prop) (E:gA->HA->Prop),Q (.bool (g i j)) s->JA (model X.prog X.w) X.A (f (.int i t) (.int j u)) Q E s) :
  RB X f (qH λi j=>.bl (g i j)):=by
 intro dA s Z H x y v u Q I a b h;obtain⟨i,j,rfl,rfl,q⟩:=h;obtain⟨t,rfl⟩:=a;obtain⟨c,rfl⟩:=b;exact rule i j t c s _ _ ⟨.bl (g i j),H,I,rfl,q⟩
def E3(i j:Int):Prop:=0<=j/\j<=1000000/\i.natAbs<2 ^ 64
def lU(i j:Int):Prop:=(-(2 ^ 64)<i/\i<2 ^ 64)\/(-(2 ^ 64)<j/\j<2 ^ 64)
def lU.ok(h:lU i j):IntMulOk i j:=by
 rcases h with ⟨h1,h2⟩ | ⟨h1,h2⟩
 ·exact .of_left (intBits_le_64 h1 h2)
 ·exact .of_right (intBits_le_64 h1 h2)
def fHa(k:Nat):(0:Int)<=2 ^ k:=by
 rw[two_pow_cast];exact Int.natCast_nonneg _
def cz:RB X (zD .Add) (qH λi j=>.int (i+j)):=AS λ_ _ _ _ _ _ _ q=>add_int q
def Cz:RB X (zD .Sub) (qH λi j=>.int (i-j)):=AS λ_ _ _ _ _ _ _ q=>sub_int q
def uz:RB X (zD .Mult) (rI lU λi j=>.int (i*j)):=dP λ_ _ _ _ _ _ _ a q=>mul_int q a.ok
def qz:RB X (zD .Mod) (rI (λ_ j=>0<j) λi j=>.int (i % j)):=dP λi j _ _ _ _ _ a q=>by
 have b:(0:Int)<j:=a;exact mod_int' (by lia) (by rw[Int.fmod_eq_emod_of_nonneg i (by lia)];exact q)
def Az:RB X (zD .LShift) (rI E3 λi j=>.int (i*2 ^ j.toNat)):=dP λ_ _ _ _ _ _ _ a q=>lshift_int_small a.1 a.2.1 a.2.2 q
def Bz:RB X (zD .RShift) (rI (λ_ j=>0<=j) λi j=>.int (i / 2 ^ j.toNat)):=dP λi j _ _ _ _ _ a q =>
 rshift_int a (by rw[Ce i (fHa _)];exact q)
def ez:RB X (zD .BitAnd) (qH λi j=>.int (KN i j)):=AS λ_ _ _ _ _ _ _ q=>and_int q
def yz:RB X (zD .BitOr) (qH λi j=>.int (zJ i j)):=AS λ_ _ _ _ _ _ _ q=>or_int q
def unI{g:Int->Int}
  (rule:∀(i:Int) (t:Tok) (s:HA) (Q:gA->HA->Prop) (E:gA->HA->Prop),Q (.int (g i) s.toks) { s with toks:=s.toks+1 }->JA (model X.prog X.w) X.A (f (.int i t)) Q E s) :
  HU X f (rU λi=>.int (g i)):=by
 intro dA s Z H x v Q I a h;obtain⟨i,rfl,q⟩:=h;obtain⟨t,rfl⟩:=a;exact rule i t s _ _ ⟨.int (g i),H,I.tok _,⟨_,rfl⟩,q⟩
def jHa:HU X (unaryOp .USub) (rU λi=>.int (-i)):=unI λ_ _ _ _ _ q=>neg_int q
end
section
variable{pos:vC}
def mW(I:kA X dA Z H s)(q:Q (.bl k) H)(e:k=a):EP X dA Z Q (.bool a) s:=by
 subst e;exact⟨.bl k,H,I,rfl,q⟩
def pz:RB X (KD .Lt) (qH λi j=>.bl (decide (i<j))):=zS λ_ _ _ _ _ _ _ q=>lt_int q
def oz:RB X (KD .LtE) (qH λi j=>.bl (decide (i<=j))):=zS λ_ _ _ _ _ _ _ q=>le_int q
def lz:RB X (KD .Gt) (qH λi j=>.bl (decide (j<i))):=zS λ_ _ _ _ _ _ _ q=>gt_int q
def kz:RB X (KD .GtE) (qH λi j=>.bl (decide (j<=i))):=zS λ_ _ _ _ _ _ _ q=>ge_int q
def mz:RB X (KD .In) (λx y H Q=>∃i j,x=.str i/\y=.str j/\Q (.bl (!(GN j i 0 j.length 1).isEmpty)) H):=by
 intro dA s Z H x y v u Q I a b h;obtain⟨i,j,rfl,rfl,q⟩:=h;obtain⟨t,rfl⟩:=a;obtain⟨c,rfl⟩:=b;exact in_str (mW I q rfl)
def nz:RB X (KD .Is) (λx y H Q=>y=.nA/\Q (.bl (decide (x=.nA))) H):=by
 intro dA s Z H x y v u Q I a b h;obtain⟨rfl,q⟩:=h;cases b;refine is_none_gen (mW I q ?_)
 cases x<;>first
  | (cases a;rfl)
  | (obtain⟨t,rfl⟩:=a;rfl)
def wz:RB X (KD .IsNot) (λx y H Q=>y=.nA/\Q (.bl (!decide (x=.nA))) H):=by
 intro dA s Z H x y v u Q I a b h;obtain⟨rfl,q⟩:=h;cases b;refine isnot_none_gen (mW I q ?_)
 cases x<;>first
  | (cases a;rfl)
  | (obtain⟨t,rfl⟩:=a;rfl)
def P9(c:RB X (KD op) r)(d:PE X a e)(f:PE X b g)(i:GJ op b=cA):PE X (.Compare a [op] [b] pos) (BN r e g):=by
 intro dA s Z H Q I h;exact wpAny_Compare1 (pV d f I h λv u j x y k l m n q=>c dA j Z k x y v u Q l m n q) i
def Md(t:TE):TT:=λZ H Q=>t Z H λx a=>∃k,x=.bl k/\Q k a
def wa(d:RB X (KD op) r)(f:PE X a g)(i:PE X b j)(l:GJ op b=cA):PT X (.Compare a [op] [b] pos) (Md (BN r g j)):=by
 intro dA s Z H Q I h
 refine wpAny_isTrue_Compare1 (RA (f dA s Z H _ I h) λv m ⟨x,n,o,p,q⟩=>RA (i dA m Z n _ o q) λu t ⟨y,w,A,B,C⟩ =>
  RA (d dA t Z w x y v u _ A p B C) λc N ⟨z,F,J,K,k,e,M⟩=>?_) l
 subst e;cases K;exact EK ⟨F,J,M⟩
def NZ(r b:R2)(c d e:TE):TE:=λZ H Q=>c Z H λx f=>d Z f λy g=>r x y g λz a=>∃k,z=.bl k /\
 (if k=bA then e Z a λh i=>b y h i Q else Q (.bl cA) a)
def o_(n:RB X (KD op) r)(g:RB X (KD f) o)(p:PE X a q)(t:PE X b w)(A:PE X c B)
  (C:lastMarks [op,f] [b,c]=cA:=by with_unfolding_all rfl):PE X (.Compare a [op,f] [b,c] pos) (NZ r o q w B):=by
 intro dA s Z H Q I h
 refine Compare_chain (RA (p dA s Z H _ I h) λv F ⟨x,J,K,M,N⟩=>chain_link (RA (t dA F Z J _ K N) λu O ⟨y,P,R,i,U⟩ =>
  RA (n dA O Z P x y v u _ R M i U) λd Y ⟨z,j,l,r3,k,e,m⟩=>?_)) C
 subst e;cases r3;refine EK ?_
 cases k with
 |false=>exact ite_ff ⟨.bl cA,j,l,rfl,m⟩
 |true=>exact ite_tt (chain_last (RA (A dA Y Z j _ l m) λw' s4 hz=>(by obtain⟨z',H4,I4,r4,q4⟩:=hz;exact g dA s4 Z H4 y z' u w' Q I4 i r4 q4)))
def mAa(n:RB X (KD op) r)(g:RB X (KD f) o)(p:PE X a q)(t:PE X b w)(A:PE X c B)
  (C:lastMarks [op,f] [b,c]=cA:=by with_unfolding_all rfl):PT X (.Compare a [op,f] [b,c] pos) (Md (NZ r o q w B)):=by
 intro dA s Z H Q I h
 refine isTrue_chain (RA (p dA s Z H _ I h) λv F ⟨x,J,K,M,N⟩=>test_link (RA (t dA F Z J _ K N) λu O ⟨y,P,R,i,U⟩ =>
  RA (n dA O Z P x y v u _ R M i U) λd Y ⟨z,j,l,r3,k,e,m⟩=>?_)) C
 subst e;cases r3;refine EK ?_
 cases k with
 |false =>
  obtain⟨k',e',q'⟩:=m;cases e';exact ite_ff ⟨j,l,q'⟩
 |true =>
  refine ite_tt (test_last (RA (A dA Y Z j _ l m) λw' s4 ⟨z',H4,I4,r4,q4⟩=>RA (g dA s4 Z H4 y z' u w' _ I4 i r4 q4) λd' s5 hz=>?_));obtain⟨z2,H5,I5,r5,k2,e2,q5⟩:=hz;subst e2;cases r5;exact EK ⟨H5,I5,q5⟩
def xQ(K:jA)(x:V)(H:Hp)(k:Bool):Prop :=
 match x with
 |.nA=>k=cA
 |.bl b=>k=b
 |.int i=>k=(i != 0)
 |.str y=>y.length<=sizeLine/\k=((y.length:Int) != 0)
 |.ref p=>(∃a,qB K H p a/\k=!a.isEmpty)\/(∃a,pC K H p a/\k=!a.isEmpty)\/∃c,H p=aA (.dK c)/\k=!c.isEmpty
 |_=>False
def Ts(r:KV a b):(!b.isEmpty)=!a.isEmpty:=by
 cases r<;>rfl
def g7(r:aAd b a):(!a.toArray.isEmpty)=!b.isEmpty:=by
 cases r<;>simp
def JL:(sizeLine:Nat)<2 ^ 63:=by rw[hU];decide
def Td:yi X (λx H Q=>∃k,xQ X.K x H k/\Q k H):=by
 intro dA s Z H x v Q I g h;obtain⟨k,e,q⟩:=h;have hl:=JL;have z:sizeLine=16777216:=hU
 cases x with
 |nA =>
  cases g;have a:k=cA:=e;subst a;exact truthy_none ⟨H,I,q⟩
 |bl b =>
  cases g;have a:k=b:=e;subst a;exact EK ⟨H,I,q⟩
 |int i =>
  obtain⟨t,rfl⟩:=g;have a:k=(i != 0):=e;subst a;exact PySem.P.truthy_int ⟨H,I,q⟩
 |str y =>
  obtain⟨t,rfl⟩:=g;obtain⟨A,a⟩:y.length<=sizeLine/\k=((y.length:Int) != 0):=e;subst a;exact PySem.P.truthy_str (by lia) ⟨H,I.tok _,q⟩
 |ref p =>
  cases g;have a:(∃f,qB X.K H p f/\k=!f.isEmpty)\/(∃f,pC X.K H p f/\k=!f.isEmpty)\/∃c,H p=aA (.dK c)/\k=!c.isEmpty:=e
  rcases a with ⟨f,j,a⟩ | ⟨f,j,a⟩ | ⟨c,j,a⟩
  ·subst a;obtain⟨n,r,o,u⟩:=I.list j;have d:=r.length;exact wpAny_truthy_list o.isList (by simp only[DC];lia) ⟨H,I.tok _,by rw[g7 r];exact q⟩
  ·subst a;obtain⟨n,r,o,u⟩:=I.tuple j;have d:=r.length;exact truthy_tuple o (by simp only[DC];lia) ⟨H,I.tok _,by rw[g7 r];exact q⟩
  ·subst a;obtain⟨u,hS,l,r,m⟩:c.length<=sizeLine/\(p==sysModules)=cA/\∃l,KV c l/\s.heap.DictOf (j9 X.prog X.w) p l:=I.aB p _ j
   have d:c.length=l.length:=og r;exact wpAny_truthy_dict hS m (by lia) ⟨H,I.tok _,by rw[Ts r];exact q⟩
 |_=>exact(show False from e).elim
def xa(c:PE X a d)(e:∀whole,isTrue a X.env whole=(do let v <- whole;standAt a.pos;holding [v] (truthy v))) :
  PT X a (λZ H Q=>d Z H λx b=>∃k,xQ X.K x b k/\Q k b):=by
 intro dA s Z H Q I h;exact isTrue_plain (RA (c dA s Z H _ I h) λv f g=>(by obtain⟨x,i,j,l,m⟩:=g;exact Td dA f Z i x v Q j l m)) (e _)
def dz:RB X (zD .Add) (λx y H Q=>∃i j,x=.str i/\y=.str j/\i.length+j.length<=sizeLine/\Q (.str (i++j)) H):=by
 intro dA s Z H x y v u Q I a b h;obtain⟨i,j,rfl,rfl,c,q⟩:=h;obtain⟨t,rfl⟩:=a;obtain⟨d,rfl⟩:=b;exact add_str (λd e=>⟨.str (i++j),H,I.tok _,⟨_,rfl⟩,q⟩) c
def aAv(r:aAd [x] a):∃u,a=[u]/\aAf x u:=by
 cases r with
 |cons b c=>cases c;exact⟨_,rfl,b⟩
def aA0(r:aAd [x,y] b):∃u a,b=[u,a]/\aAf x u/\aAf y a:=by
 cases r with
 |cons c d =>
  cases d with
  |cons e f=>cases f;exact⟨_,_,rfl,c,e⟩
def ll:UD X (.builtin "abs") (λa H Q=>∃i,a=[.int i]/\Q (.int (if i<0 then -i else i)) H):=by
 intro dA s Z H a b Q I r h;obtain⟨i,rfl,q⟩:=h;obtain⟨u,rfl,t,rfl⟩:=aAv r;exact call_abs_int λu c=>⟨.int (if i<0 then -i else i),H,I.tok _,⟨_,rfl⟩,q⟩
def xl(c:X.calm=bA):UD X (.builtin "max") (λb H Q=>∃i j,b=[.int i,.int j]/\Q (.int (if j > i then j else i)) H):=by
 intro dA s Z H b d Q I r h;obtain⟨i,j,rfl,q⟩:=h;obtain⟨u,e,rfl,⟨t,rfl⟩,⟨f,rfl⟩⟩:=aA0 r;refine max_two_ints (I.ok.hd c) λg l k=>⟨_,H,I.kept k, ?_,q⟩
 by_cases a:j > i
 ·rw[QA a,QA a];exact⟨_,rfl⟩
 ·rw[pB a,pB a];exact⟨_,rfl⟩
def V4:UD X (.type "int") (λa H Q=>(∃i,a=[.int i]/\Q (.int i) H)\/∃k,a=[.bl k]/\Q (.int (if k then 1 else 0)) H):=by
 intro dA s Z H a c Q I r h;rcases h with ⟨i,rfl,q⟩ | ⟨k,rfl,q⟩
 ·obtain⟨u,rfl,t,rfl⟩:=aAv r;exact call_int_int ⟨.int i,H,I,⟨_,rfl⟩,q⟩
 ·obtain⟨u,rfl,b⟩:=aAv r;cases b;exact call_int_bool ⟨.int (if k then 1 else 0),H,I.tok _,⟨_,rfl⟩,q⟩
def Al:UD X (.type "str") (λa H Q=>∃i,a=[.int i]/\i.natAbs.log2<1920/\Q (.str (toString i)) H):=by
 intro dA s Z H a c Q I r h;obtain⟨i,rfl,b,q⟩:=h;obtain⟨u,rfl,t,rfl⟩:=aAv r;exact PySem.P.str_of_int b ⟨.str _,H,I.tok _,⟨_,rfl⟩,q⟩
end
structure ZK(h:XB)(x dx C:lA)(mA:fA->Option gA):Prop where
 obj:h.get? x=aA (FK C dx)
 ns:h.Ns1 dx mA
 ne:dx≠x
set_option tactic.hygienic true in
def aw{h:XB}(n:h.Ns1 d f):∃od,h.get? d=aA od/\∀name,VT name od=aA (f name):=by
 obtain⟨o,c,m,g,hd,i,_,j⟩:=n;refine⟨o,g,λname=>?_⟩;have e:=j name;unfold nsFind findBy at e;rw[<- yf] at e;unfold VT;rw[hd];dsimp only;split
 ·rename_i y q;rw[q] at e;exact congrArg aA e
 ·rename_i q;rw[q] at e
  have a:c.toList.any (·.refKey)=cA:=by(rw[Ef];intro y k;obtain⟨z,t,b⟩:=i y (Array.mem_toList_iff.mp k);simp[DictEntry.refKey,b])
  have l:¬c.toList.any (·.refKey)=bA:=by rw[a];exact JE
  rw[pB l];exact congrArg aA e
def ZK.look(I:ZK h x j C k):∃od,PySem.W.InstAt h x (FK C j) C (aA od)/\∀name,VT name od=aA (k name) :=
 let ⟨od,ho,hl⟩:=aw I.ns
 ⟨od,⟨I.obj,rfl,rfl,ho⟩,hl⟩
section
variable{K:jA}
def aA1(X:K.In s.heap)(I:ZK s.heap x f C b)(c:MN K C name=bA)(hh:KP K C=bA)
  (d:RF K (.ref C) name=aA eA) (e:b name=aA v) (a:Mf v=bA) (h:Q v { s with toks:=s.toks+1 }) :
  JA (model prog w) A (getAttr (.ref x) name expr) Q E s:=by
 obtain⟨od,J,hl⟩:=I.look;exact PySem.W.get_value X J (U0 c).1 (PySem.W.findObj_own hh d rfl (by rw[hl,e])) a h
def uq(X:K.In s.heap)(I:ZK s.heap x g C b)(a:MN K C name=bA)
  (c:RF K (.ref C) name=aA (aA (.ref f))) (d:fQ K (.ref f)=bA) (e:b name=eA) (h:Q (.ref f,[.ref x]) s) :
  JA (model prog w) A (getMethod (.ref x) name i) Q E s:=by
 obtain⟨od,J,hl⟩:=I.look;exact PySem.W.method_fn X J (U0 a).1 (U0 a).2 c (beq_iff_eq.mp d) (by show(VT name od).map (·.isSome)=aA cA;rw[hl,e];rfl) h
def hDa(X:K.In s.heap)(I:ZK s.heap x e C l)
  (m:RF K (.ref C) "__setattr__"=aA (aA (.builtin "object.__setattr__"))) (n:D1 K C=bA) (o:S1 K C name=aA eA) (hh:KP K C=bA)
  (p:F2 l ns) (q:ns.length<=sizeLine)
  (h:∀f,ZK f x e C (λy=>if y=name then aA v else l y)->DI e s.heap f->Q () { s with heap:=f,toks:=s.toks+2 }) :
  JA (model prog w) A (setAttr (.ref x) name v) Q E s:=by
 obtain⟨od,J,hl⟩:=I.look;refine PySem.W.set_plain X J m (PySem.W.osa_open (s:={ s with toks:=s.toks+1 }) (r:=eA) X J n o λb=>?_);obtain⟨F,t,g⟩:=PySem.W.any_some hh;have u:s.heap.get? x=aA ⟨.ref C,aA e,.plain,#[]⟩:=I.obj;refine WA (YB (WA (WA (wpAny_loadPart u (WA (PySem.W.Looks.here (s:={ s with toks:=s.toks+1 }) (PySem.W.looks_clsIn X t) ?_))))));rw[g];refine YB (a:=aA e) (WA (YB (WA ?_)));refine wpAny_nsSet1 (s:={ s with toks:=s.toks+1 }) I.ns λf c d=>?_
 obtain⟨H,z,B,i,j,k⟩:=c.count (PySem.Within.cons name v p);refine WA (wpAny_lookBehind i (by rw[j];exact pastItsLine_dict (KC k (by rw[VB];lia))) ?_);exact YB (h _ ⟨(d.2 _ (qF I.ne)).trans I.obj,c,I.ne⟩ d)
def qw(X:K.In s.heap)(c:OT K C=bA)
  (e:RF K (.ref C) "__init__"=aA (aA (.ref f))) (i:PySem.W.typeIn K (.ref f)=aA (.type "function"))
  (h:NK (model prog w) (A.under (.builtin "type.__call__" ⟨.ref C::a,b⟩)) (.call (.ref f) ⟨.ref (s.heap.objs.size+1)::a,b⟩) (PySem.W.InitBack (s.heap.objs.size+1) R)
   { s with heap:=(s.heap.push AJ).push (FK C s.heap.objs.size) }) :
  NK (model prog w) A (.call (.ref C) ⟨a,b⟩) R s:=by
 obtain⟨hh,g,d,t,os⟩:=s;exact PySem.W.make_core (PySem.W.makes_of X c) (PySem.W.looks_findIn X e) (λself=>PySem.W.bind_fn X self i) (.inl rfl) h
end
noncomputable def PD(f:fA)(v:V):List (fA×V)->List (fA×V)
 |[]=>[(f,v)]
 | (g,x)::r=>if g=f then(g,v)::r else(g,x)::PD f v r
theorem Y8(f g:fA)(v:V):∀fs:List (fA×V),(PD f v fs).lookup g=if g=f then aA v else fs.lookup g
 |[]=>by
  show YG g [(f,v)]=_;by_cases h:g=f
  ·have a:(g==f)=bA:=beq_iff_eq.mpr h;simp only[YG,a,QA h]
  ·have a:(g==f)=cA:=CK.mpr h;simp only[YG,a,pB h]
 | (k,x)::r=>by
  have c:=Y8 f g v r;rw[show PD f v ((k,x)::r)=(if k=f then(k,v)::r else(k,x)::PD f v r) from rfl];by_cases b:k=f
  ·rw[QA b];by_cases h:g=k
   ·have a:(g==k)=bA:=beq_iff_eq.mpr h;simp only[YG,a,QA (h.trans b)]
   ·have a:(g==k)=cA:=CK.mpr h;simp only[YG,a,pB (λe:g=f=>h (e.trans b.symm))]
  ·rw[pB b];by_cases h:g=k
   ·have a:(g==k)=bA:=beq_iff_eq.mpr h;simp only[YG,a,pB (λe:g=f=>b (h.symm.trans e))]
   ·have a:(g==k)=cA:=CK.mpr h;simp only[YG,a];exact c
theorem xY(f:fA)(v:V):∀fs:List (fA×V),f∈(PD f v fs).map (·.1)/\∀g,g∈fs.map (·.1)->g∈(PD f v fs).map (·.1)
 |[]=>⟨by simp[PD],λg h=>by simp at h⟩
 | (k,x)::r=>by
  obtain⟨b,c⟩:=xY f v r;rw[show PD f v ((k,x)::r)=(if k=f then(k,v)::r else(k,x)::PD f v r) from rfl];by_cases a:k=f
  ·rw[QA a];subst a;exact⟨by simp,λg h=>by simpa using h⟩
  ·rw[pB a];refine⟨?_,λg h=>?_⟩
   ·rw[HC];exact XC _ b
   ·rw[HC] at h ⊢;rcases mD.mp h with e | e
    ·exact mD.mpr (.inl e)
    ·exact XC _ (c g e)
theorem U8(f:fA)(v:V):∀fs:List (fA×V),(PD f v fs).length<=fs.length+1
 |[]=>by simp[PD]
 | (k,x)::r=>by
  have b:=U8 f v r;rw[show PD f v ((k,x)::r)=(if k=f then(k,v)::r else(k,x)::PD f v r) from rfl];by_cases a:k=f
  ·rw[QA a,VB,VB];lia
  ·rw[pB a,VB,VB];lia
def TH.some_of(r:TH (aA v) o):∃u,o=aA u/\aAf v u:=by
 cases o with
 |none=>exact(show False from r).elim
 |some u=>exact⟨u,rfl,r⟩
def TH.none_of(r:TH eA o):o=eA:=by
 cases o with
 |none=>rfl
 |some u=>exact(show False from r).elim
def Hq(r:aAf v u):Mf u=bA:=by
 cases v with
 |nA=>cases (show u=Value.none from r);rfl
 |bl b=>cases (show u=Value.bool b from r);rfl
 |int i=>obtain⟨t,e⟩:=(show ∃t,u=Value.int i t from r);cases e;rfl
 |str x=>obtain⟨t,e⟩:=(show ∃t,u=Value.str x t from r);cases e;rfl
 |ref a=>cases (show u=Value.ref a from r);rfl
 |ty n=>cases (show u=Value.type n from r);rfl
section
variable{fs fs':List (fA×V)}
def OX(c:eD P w H h)(e:H a=aA (.ins C g fs)):∃b,ZK h a g C b/\(∀f,TH (fs.lookup f) (b f))/\F2 b (fs.map (·.1))/\fs.length<=1000/\H g=aA (.own a):=by
 obtain⟨d,z,ne,i,b,n,r,q⟩:=(show WE P w H h a (.ins C g fs) from c a _ e)
 exact⟨b,⟨i,n,ne⟩,r,q,z,d⟩
end
structure bE(K:jA)(C:lA):Prop where
 pg:MN K C Str.empty=bA
 hd:KP K C=bA
 po:D1 K C=bA
 sa:RF K (.ref C) "__setattr__"=aA (aA (.builtin "object.__setattr__"))
def bE.get{K:jA}(c:bE K C)(f:fA):MN K C f=bA:=c.pg
def aG(K:jA)(C:lA)(f:fA):Prop:=RF K (.ref C) f=aA eA
def aG.oGa{K:jA}(n:aG K C f):S1 K C f=aA eA:=by
 unfold S1;rw[show RF K (.ref C) f=aA eA from n];rfl
structure Meth(K:jA)(C:lA)(m:fA)(f:lA):Prop where
 at_:RF K (.ref C) m=aA (aA (.ref f))
 fn:fQ K (.ref f)=bA
 kp:JG K (.ref f)=bA
section
variable{E:gA->HA->Prop}
def vq(I:kA X dA Z H s)(e:H a=aA (.ins C j fs))(c:bE X.K C)(n:aG X.K C f)(l:fs.lookup f=aA v)
  (h:∀u d,kA X dA Z H d->aAf v u->Q u d):JA (model X.prog X.w) A (getAttr (.ref a) f b) Q E s:=by
 obtain⟨i,O,r,_,_,_⟩:=OX I.aB e;obtain⟨u,hu,g⟩:=TH.some_of (o:=i f) (by rw[<- l];exact r f);exact aA1 I.wD O (c.get f) c.hd n hu (Hq g) (h u _ (I.tok _) g)
def y6(I:kA X dA Z H s)(e:H a=aA (.ins C f fs))(c:bE X.K C)(k:Meth X.K C m g)(l:fs.lookup m=eA)
  (h:Q (.ref g,[.ref a]) s):JA (model X.prog X.w) A (getMethod (.ref a) m i) Q E s:=by
 obtain⟨b,O,r,_,_,_⟩:=OX I.aB e;have d:b m=eA:=TH.none_of (by rw[<- l];exact r m);exact uq I.wD O (c.get m) k.at_ k.fn d h
def iDa(I:kA X dA Z H s)(e:H a=aA (.ins C d fs))(c:bE X.K C)(n:aG X.K C f)(hl:fs.length<1000)(p:aAf y u)
  (h:∀j,kA X dA Z (EA H a (.ins C d (PD f y fs))) j->Q () j):JA (model X.prog X.w) A (setAttr (.ref a) f u) Q E s:=by
 obtain⟨k,O,r,l,_,m⟩:=OX I.aB e;have t:(fs.map (·.1)).length<=sizeLine:=by rw[pA,hU];lia
 refine hDa I.wD O c.sa c.po n.oGa c.hd l t λv i B=>h _ ?_
 have hd:∃o,v.get? d=aA o:=let ⟨o,_,_,F,_⟩:=i.ns;⟨o,F⟩
 refine I.write (x:=a) (e:=d) (by rw[e];exact True.intro) (.inr m) (λb q J z=>(B.2 b J).trans z) hd ?_;refine⟨by rw[jB O.ne];exact m, ?_,O.ne,i.obj,_,i.ns,λg=>?_,λg M=>?_⟩
 ·have:=U8 f y fs;lia
 ·show TH ((PD f y fs).lookup g) (if g=f then aA u else k g);rw[Y8];by_cases q:g=f
  ·rw[QA q,QA q];exact p
  ·rw[pB q,pB q];exact r g
 ·by_cases q:g=f
  ·rw[q];exact(xY f y fs).1
  ·refine(xY f y fs).2 g (l g λz=>M ?_);show(if g=f then aA u else k g)=eA;rw[pB q];exact z
def kA.made(I:kA X dA Z H s):kA X dA Z (EA (EA H s.heap.objs.size (.own (s.heap.objs.size+1))) (s.heap.objs.size+1) (.ins C s.heap.objs.size []))
  { s with heap:=(s.heap.push AJ).push (FK C s.heap.objs.size) }:=by
 have j:(s.heap.push AJ).get? s.heap.objs.size=aA AJ:=NF s.heap rfl
 have k:((s.heap.push AJ).push (FK C s.heap.objs.size)).get? (s.heap.objs.size+1)=aA (FK C s.heap.objs.size):=by
  have:=NF (s.heap.push AJ) (o:=FK C s.heap.objs.size) rfl
  rwa[WT] at this
 have m:(s.heap.push AJ).Ns s.heap.objs.size (λ_=>eA):=⟨AJ,#[],_,j,rfl,(λe x=>absurd x (by simp)),λ_=>rfl⟩
 have z:=I.laid (a:=s.heap.objs.size) (o:=.own (s.heap.objs.size+1)) (h':=s.heap.push AJ) (t':=s.toks) (λb u q=>aD _ q) (oB _) ⟨_,j⟩;refine z.laid (a:=s.heap.objs.size+1) (o:=.ins C s.heap.objs.size []) (t':=s.toks) (λb u q=>aD _ q) (K2 (WT _ _)) ?_;have ne:s.heap.objs.size≠s.heap.objs.size+1:=SD (CJ _);refine⟨by rw[jB ne,GC],FI _,ne,k,λ_=>eA,(Heap.Ns1.of_empty m).at λo q=>aD _ q,λ_=>True.intro,λy B=>absurd rfl B⟩
def bj(a:attributeBase e f env (eval e env)=eval e env)
  (h:JA (model prog w) A (eval e env) (λo b=>JA (model prog w) A (getAttr o f bA) Q E b) E s):JA (model prog w) A (eval (.Attribute e f pos) env) Q E s :=
 Attribute_any_ h (by rw[arm_eval_Attribute,a])
end
def uFa(K:jA)(c:TE)(f:fA):TE:=λZ H Q=>c Z H λx b=>∃a C d fs v,x=.ref a/\b a=aA (.ins C d fs)/\bE K C/\aG K C f/\fs.lookup f=aA v/\Q v b
def sCa(K:jA)(d e:TE)(f:fA):TS:=λD Z H=>e Z H λy g=>d Z g λx b=>∃a C c fs,x=.ref a/\b a=aA (.ins C c fs)/\bE K C/\aG K C f/\fs.length<1000 /\
 D.nx Z (EA b a (.ins C c (PD f y fs)))
section
variable{ta tv:TE}
def q_(b:PE X e ta)(d:attributeBase e f X.env (eval e X.env)=eval e X.env):PE X (.Attribute e f pos) (uFa X.K ta f):=by
 intro dA s Z H Q I h;refine bj d (RA (b dA s Z H _ I h) λu r g=>?_);obtain⟨x,i,j,k,a,C,t,fs,v,ex,m,c,n,l,q⟩:=g;subst ex;obtain rfl:u=Value.ref a:=k;exact vq j m c n l λw y o p=>⟨v,i,o,p,q⟩
def pa(d:PE X o ta)(e:PE X value tv)(g:swapsWith value (aA (.Attribute o f b)) pos.line X.env=pure cA):PS X (.Assign [.Attribute o f b] value pos) (sCa X.K ta tv f):=by
 intro dA s Z H D I h;refine plainObj_wpAny_Assign_Attribute (RA (e dA s Z H _ I h) λu i ⟨y,j,k,m,q⟩=>RA (d dA i Z j _ k q) λp B r=>?_) g;obtain⟨x,F,t,v,a,C,J,fs,ex,w,c,n,l,z⟩:=r;subst ex;obtain rfl:p=Value.ref a:=v;exact iDa t w c n l m λM A=>⟨Z,_,A,z⟩
end
structure oC(k:Nat)(A:oG):Prop where
 hd:A.handled=eA
 dp:A.depth+3*k+5<recursionLimit
 un:A.units+16*k+200<cLine
 gs:A.guards=aA []
def oC.mono(r:oC k A)(h:j<=k):oC j A:=⟨r.hd,by have:=r.dp;lia,by have:=r.un;lia,by first | exact r.gs | simpa[A2,RN,U2,cU,pushGuards,guardIds] using r.gs⟩
theorem oC.deeper(r:oC (k+1) A)(env:Env):oC k (A.deeper env) :=
 ⟨r.hd,by have:=r.dp;show A.depth+1+3*k+5<_;lia,by have:=r.un;show A.units+3+16*k+200<_;lia,by first | exact r.gs | simpa[A2,RN,U2,cU,pushGuards,guardIds] using r.gs⟩
def mw{A:oG}:(A.under (.builtin "type.__call__" ⟨.ref C::a,b⟩)).depth=A.depth+1:=by
 first | rfl | simp[RN,Code.weight,Code.isCreation,cU,Code.isCaller,Code.frames,N2,guardIds]
def tw{A:oG}:(A.under (.builtin "type.__call__" ⟨.ref C::a,b⟩)).units=A.units+1:=by
 first | rfl | simp[RN,Code.cUnits,Code.frames,N2]
def oC.make(r:oC (k+1) A)(C:lA)(j:List gA)(m:List (fA×gA)):oC k (A.under (.builtin "type.__call__" ⟨.ref C::j,m⟩)) :=
 ⟨r.hd,by have:=r.dp;rw[mw];lia,by have:=r.un;rw[tw];lia,by first | exact r.gs | simpa[A2,RN,U2,cU,pushGuards,guardIds] using r.gs⟩
theorem oC.depth(r:oC k A):A.depth<recursionLimit:=by have:=r.dp;lia
theorem oC.units(r:oC k A):A.units+64<cLine:=by have:=r.un;lia
def xI:TA:=λ_ H Q=>Q [] H
def wI(a:TE)(b:TA):TA:=λZ H Q=>a Z H λx c=>b Z c λd e=>Q (x::d) e
section
variable{pos:vC}
def tI:PA X [] xI:=λ_ _ _ _ H Q I h=>Calls.spliced_nil ⟨[],H,I,.nil,h⟩
def mH(c:PE X e d)(f:PA X a t)(g:eC (e::a) X.env=(cA,eval e X.env)::eC a X.env:=by rfl):PA X (e::a) (wI d t):=by
 intro pos dA s Z H Q I h;rw[g];show JA _ _ (spliced ((cA,eval e X.env)::IE pos (eC a X.env))) _ _ s;refine Calls.spliced_cons (RA (c dA s Z H _ I h) λu i b=>?_);obtain⟨x,j,k,l,m⟩:=b;exact RA (f pos dA i Z j _ k m) λv w b=>(by obtain⟨n,o,p,q,r⟩:=b;exact⟨x::n,o,p,.cons l q,r⟩)
def hGa(t:TA):TE:=λZ H Q=>t Z H λa b=>a.length<=sizeLine/\∀p,b p=eA->Q (.ref p) (EA b p (.t a))
def yFa(t:TA):TE:=λZ H Q=>t Z H λa b=>a.length<=sizeLine/\∀p,b p=eA->Q (.ref p) (EA b p (.l a))
def z_{f}(h:PA X g t):PE X (.Tuple g f pos) (hGa t):=by
 intro dA s Z H Q I i;refine wpAny_Tuple_spliced (RA (h pos dA s Z H _ I i) λj a ⟨k,c,d,r,z,q⟩=>⟨by rw[<- r.length];exact z, ?_⟩);have l:c a.heap.objs.size=eA:=d.aB.fresh (oB _);refine⟨.ref a.heap.objs.size,EA c a.heap.objs.size (.t k),d.laid (t':=a.toks) (λb u e=>aD _ e) (oB _) ?_,rfl,q _ l⟩;exact⟨z,j,r,⟨_,NF _ rfl,rfl,_,rfl⟩⟩
def s_(h:PA X f t):PE X (.List f pos) (yFa t):=by
 intro dA s Z H Q I g;refine wpAny_List_spliced (RA (h pos dA s Z H _ I g) λi a ⟨j,c,d,r,z,q⟩=>⟨by rw[<- r.length];exact z, ?_⟩);have k:c a.heap.objs.size=eA:=d.aB.fresh (oB _);refine⟨.ref a.heap.objs.size,EA c a.heap.objs.size (.l j),d.laid (t':=a.toks) (λb u e=>aD _ e) (oB _) ?_,rfl,q _ k⟩;exact⟨z,i,0,r,NF _ rfl⟩
end
abbrev Sp:=List V->Hp->VK->XK->Prop
abbrev TK:=List Env->Hp->HA->XK->gA->HA->Prop
structure WK(P:oE)(w:WC)(K:jA)(mg:fA->Option gA)(base:XB)(A:oG)(outer:List Env)(s:HA)(H:Hp):Prop where
 frames:A.frames=aA outer
 mod:Mod K mg base
 bs:∀b o,base.get? b=aA o->s.heap.get? b=aA o/\H b=eA
 ZH:base.objs.size<=s.heap.objs.size
 dG:s.heap.FunFrames base outer
 bJ:∀b∈jH outer,H b=eA
 aB:eD P w H s.heap
 bare:LJ s.gens
def CE(outer:List Env)(P:oE)(w:WC)(H:Hp)(s:HA)(Q:VK)(u:gA)(a:HA):Prop :=
 ∃v b,a.os=s.os/\LJ a.gens/\Un (jH outer) [] H b s.heap a.heap/\eD P w b a.heap/\aAf v u/\Q v b
def CR(b:TK)(outer:List Env)(P:oE)(w:WC)(H:Hp)(s:HA)(Q:VK)(E:XK)(r:Result)(a:HA):Prop :=
 match r with
 |.ok (.ret u)=>CE outer P w H s Q u a
 |.ok _=>False
 |.error e=>b outer H s E e a
structure sE(P:oE)(w:WC)(K:jA)(mg:fA->Option gA)(base:XB)(CX:TK)(k:Nat)(f:lA)(fd:pF)(ps:List fA)(sp:Sp):Prop where
 len:∀vs H Q E,sp vs H Q E->vs.length=ps.length
 run:∀(A:oG) (outer:List Env) (s:HA) (H:Hp) (args:Args) (us:List gA) (vs:List V) (Q:VK) (E:XK),oC k A->WK P w K mg base A outer s H->iU s fd args (ps.zip us)->aAd vs us->sp vs H Q E ->
  NK (model P w) A (.call (.ref f) args) (CR CX outer P w H s Q E) s
def WK.make{K:jA}(e:WK P w K mg base A outer s H)(C:lA)(j:List gA)(k:List (fA×gA)) :
  WK P w K mg base (A.under (.builtin "type.__call__" ⟨.ref C::j,k⟩)) outer s H:=⟨by first | exact e.frames | (simpa[RN,Code.envs,N2,pushEnvs] using e.frames),e.mod,e.bs,e.ZH,e.dG,e.bJ,e.aB,e.bare⟩
section
variable{X:Cx}{dA:List (lA×AB)}{Z:St}{H:Hp}{s s':HA}
def kA.gH(I:kA X dA Z H s):WK X.prog X.w X.K X.mg X.base X.A X.stack s H :=
 ⟨I.ok.frames,I.ok.mod,I.bs,KC I.ok.ZH I.sz,I.stack,I.Zb,I.aB,I.bare⟩
def kA.after(I:kA X dA Z H s)(h:CE X.stack X.prog X.w H s Q u s'):EP X dA Z Q u s':=by
 obtain⟨v,k,os,bare,un,aB,r,q⟩:=h;obtain⟨hh,g,d,t,j⟩:=s';obtain rfl:j=s.os:=os;exact⟨v,k,I.call (h':=hh) (g':=g) (d':=d) (t':=t) (ch:=[]) un aB bare (λb z=>absurd z (by simp)),r,q⟩
end
def rFa(b:Sp)(a:List V)(E:XK)(t:TA):TE:=λZ H Q=>t Z H λc d=>b (c++a) d Q E
def QZ(C:lA)(m:fA)(d:Sp)(b:List V)(E:XK)(e:TE)(t:TA):TE:=λZ H Q=>e Z H λx c=>∃a f fs,x=.ref a/\c a=aA (.ins C f fs)/\fs.lookup m=eA /\
 t Z c λg h=>d (x::(g++b)) h Q E
def zFa(C:lA)(d:Sp)(b:List V)(E:XK)(t:TA):TE:=λZ H Q=>t Z H λe c=>∀x a,c x=eA->c a=eA->a≠x ->
 d (.ref x::(e++b)) (EA (EA c a (.own x)) x (.ins C a [])) (λv f=>v=.nA/\Q (.ref x) f) E
def aAr(K:jA)(d:pF)(b:List fA)(c:List gA):Prop :=
 ∀(s:HA) (a:List gA),K.In s.heap->(a++c).length=b.length->iU s d ⟨a,[]⟩ (b.zip (a++c))
def aAr.all{K:jA}(h:∀j:List gA,j.length=k.length->bindArgs m ⟨j,[]⟩=pure (k.zip j)):aAr K m k []:=λs j _ hl=>by
 rw[OF] at hl ⊢;exact .of_eq (h j hl)
def aAB(b:TK)(X:Cx)(E:XK):Prop:=∀(dA:List (lA×AB)) (Z:St) (H:Hp) (s:HA) (e:gA) (a:HA),kA X dA Z H s->b X.stack H s E e a->X.xe e a
section
variable{X:Cx}{CX:TK}{k:Nat}{f C:lA}{fd:pF}{ps:List fA}{sp:Sp}{AF:List V}{ds:List gA}{E:XK}{x m:fA}{p pos MA:vC}{e o:zA}{es:List zA}{ta:TE}{t:TA}
def rZ(F:sE X.prog X.w X.K X.mg X.base CX k f fd ps sp)(c:oC k X.A)(d:aAr X.K fd ps ds)(hd:aAd AF ds)(g:aAB CX X E)
  (I:kA X dA Z H s) (r:aAd vs us) (h:sp (vs++AF) H Q E):JA (model X.prog X.w) X.A (call (.ref f) us) (EP X dA Z Q) X.xe s:=by
 have b:aAd (vs++AF) (us++ds):=r.append hd;have hl:(us++ds).length=ps.length:=by rw[<- b.length];exact F.len _ _ _ _ h
 refine o3 (SN (F.run X.A X.stack s H ⟨us,[]⟩ (us++ds) (vs++AF) Q E c I.gH (d s us I.wD hl) b h) λr i a=>?_)
 cases r with
 |error e=>exact g dA Z H s e i I a
 |ok fl =>
  cases fl with
  |ret u=>exact I.after a
  |next=>exact GG a
  |brk=>exact GG a
  |cont=>exact GG a
def n_(F:sE X.prog X.w X.K X.mg X.base CX k f fd ps sp)(d:oC k X.A)(g:Gl X x)(i:X.mg x=aA (.ref f))(j:JG X.K (.ref f)=bA)(l:aAr X.K fd ps ds)(hd:aAd AF ds)(n:aAB CX X E)
  (u:PA X (e::es) t) (a:(x==("__debug__":fA))=cA:=by decide) (v:eC (e::es) X.env=(cA,eval e X.env)::eC es X.env:=by rfl) (b:(IE pos (eC es X.env)).any (·.1)=cA:=by rfl) :
  PE X (.Call (.Name x p) (e::es) [] pos) (rFa sp AF E t):=by
 intro dA s Z H Q I h;refine HP (yY I g i ?_ a);refine W0 (h₀:=X.base) I.ok.mod.kin j (RA (u pos dA s Z H _ I h) λy z ⟨B,J,c,r,q⟩=>⟨c.wD, ?_⟩) v b;exact rZ F d l hd n c r q
def t_(v:PE X o ta)(c:bE X.K C)(g:Meth X.K C m f)(F:sE X.prog X.w X.K X.mg X.base CX k f fd ps sp)(y:oC k X.A)(z:aAr X.K fd ps ds)(hd:aAd AF ds)(B:aAB CX X E)(J:PA X (e::es) t)
  (b:eC (e::es) X.env=(cA,eval e X.env)::eC es X.env:=by rfl) (d:(IE pos (eC es X.env)).any (·.1)=cA:=by rfl)
  (M:eval (.Call (.Attribute o m MA) (e::es) [] pos) X.env=(do
   let i <- eval o X.env
   standAt MA.atName
   let (f,first) <- holding [i] (getMethod i m pl)
   callWith pos f first (IE pos (eC (e::es) X.env)) (backToKw pos (keywordEach [] X.env))):=by rfl) :
  PE X (.Call (.Attribute o m MA) (e::es) [] pos) (QZ C m sp AF E ta t):=by
 intro dA s Z H Q I h;refine Ve (RA (v dA s Z H _ I h) λu N O=>?_) M;obtain⟨x,P,j,R,a,dx,fs,ex,U,l,q⟩:=O;subst ex;obtain rfl:u=Value.ref a:=R;refine y6 j U c g l ?_;refine W0 (first:=[.ref a]) (h₀:=X.base) I.ok.mod.kin g.kp (RA (J pos dA N Z P _ j q) λus s2 ⟨vs,H2,n,r,Y⟩=>⟨n.wD, ?_⟩) b d;exact rZ (us:=.ref a::us) (vs:=.ref a::vs) F y z hd B n (.cons rfl r) Y
def u_(i:PE X o ta)(c:bE X.K C)(d:Meth X.K C m f)(F:sE X.prog X.w X.K X.mg X.base CX k f fd ps sp)(j:oC k X.A)(n:aAr X.K fd ps ds)(hd:aAd AF ds)(r:aAB CX X E)
  (v:eval (.Call (.Attribute o m MA) [] [] pos) X.env=(do
   let g <- eval o X.env
   standAt MA.atName
   let (f,first) <- holding [g] (getMethod g m J)
   callWith pos f first (IE pos (eC [] X.env)) (backToKw pos (keywordEach [] X.env))):=by rfl) :
  PE X (.Call (.Attribute o m MA) [] [] pos) (QZ C m sp AF E ta xI):=by
 intro dA s Z H Q I h;refine Ve (RA (i dA s Z H _ I h) λu M y=>?_) v;obtain⟨x,N,b,z,a,O,fs,ex,B,l,q⟩:=y;subst ex;obtain rfl:u=Value.ref a:=z;refine y6 b B c d l ?_;exact PySem.W.callWith_K0 (first:=[.ref a]) b.wD d.kp (rZ (us:=[.ref a]) (vs:=[.ref a]) F j n hd r b (.cons rfl .nil) q)
structure Mk(K:jA)(C f:lA):Prop where
 makes:OT K C=bA
 init:RF K (.ref C) "__init__"=aA (aA (.ref f))
 fn:fQ K (.ref f)=bA
 kp:JG K (.ref C)=bA
def nCa(M:Mk X.K C f)(F:sE X.prog X.w X.K X.mg X.base CX k f fd ps sp)(l:oC (k+1) X.A)(n:aAr X.K fd ps ds)(hd:aAd AF ds)
  (q:aAB CX X E) (I:kA X dA Z H s) (r:aAd g b)
  (h:∀x c,H x=eA->H c=eA->c≠x->sp (.ref x::(g++AF)) (EA (EA H c (.own x)) x (.ins C c [])) (λv y=>v=.nA/\Q (.ref x) y) E) :
  JA (model X.prog X.w) X.A (call (.ref C) b) (EP X dA Z Q) X.xe s:=by
 have i:=h (s.heap.objs.size+1) s.heap.objs.size (I.aB.fresh (kQ _)) (I.aB.fresh (oB _)) (SD (CJ _));have d:=kA.made (C:=C) I;have j:aAd (V.ref (s.heap.objs.size+1)::(g++AF)) (Value.ref (s.heap.objs.size+1)::(b++ds)):=.cons rfl (r.append hd)
 have hl:(Value.ref (s.heap.objs.size+1)::b++ds).length=ps.length:=by(have e:=j.length;rw[F.len _ _ _ _ i] at e;exact e.symm)
 refine o3 (qw I.wD M.makes M.init (beq_iff_eq.mp M.fn) (SN (F.run _ X.stack _ _ ⟨Value.ref (s.heap.objs.size+1)::b,[]⟩ (Value.ref (s.heap.objs.size+1)::(b++ds)) _ _ E (l.make C b [])
  (d.gH.make C b []) (n _ (Value.ref (s.heap.objs.size+1)::b) d.wD hl) j i) λr z a=>?_))
 cases r with
 |error e=>exact q dA Z _ _ e z d a
 |ok fl =>
  cases fl with
  |ret u =>
   obtain⟨v,B,J,N,ev,O⟩:=d.after a;subst ev;exact⟨N,⟨V.ref (s.heap.objs.size+1),B,J,rfl,O⟩⟩
  |next=>exact GG a
  |brk=>exact GG a
  |cont=>exact GG a
def S9(M:Mk X.K C f)(F:sE X.prog X.w X.K X.mg X.base CX k f fd ps sp)(d:oC (k+1) X.A)(g:Gl X x)(i:X.mg x=aA (.ref C))(j:aAr X.K fd ps ds)(hd:aAd AF ds)(l:aAB CX X E)
  (n:PA X (e::es) t) (a:(x==("__debug__":fA))=cA:=by decide) (u:eC (e::es) X.env=(cA,eval e X.env)::eC es X.env:=by rfl) (b:(IE pos (eC es X.env)).any (·.1)=cA:=by rfl) :
  PE X (.Call (.Name x p) (e::es) [] pos) (zFa C sp AF E t):=by
 intro dA s Z H Q I h;refine HP (yY I g i ?_ a);refine W0 (h₀:=X.base) I.ok.mod.kin M.kp (RA (n pos dA s Z H _ I h) λv y ⟨z,B,c,r,q⟩=>⟨c.wD, ?_⟩) u b;exact nCa M F d j hd l c r q
end
def PK(X:Cx)(a:List jU)(t:TA):Prop :=
 ∀(pos:vC) (dA:List (lA×AB)) (s:HA) (Z:St) (H:Hp) (Q:List V->Hp->Prop),kA X dA Z H s->t Z H Q->JA (model X.prog X.w) X.A (evalAll ((backToKw pos (keywordEach a X.env)).map (·.2))) (AP X dA Z Q) X.xe s
section
variable{nm:Option fA}
def R_:PK X [] xI:=λ_ _ _ _ H Q I h=>wpAny_evalAll_nil ⟨[],H,I,.nil,h⟩
def Q_(b:PE X e c)(d:PK X a t):PK X (⟨nm,e,kpos⟩::a) (wI c t):=by
 intro pos dA s Z H Q I h;show JA _ _ (evalAll ((do let v <- eval e X.env;standAt pos;pure v)::(backToKw pos (keywordEach a X.env)).map (·.2))) _ _ s;refine wpAny_evalAll_cons (WA (RA (b dA s Z H _ I h) λu f ⟨x,g,i,j,k⟩=>WA (ZT (YB ?_))));exact RA (d pos dA f Z g _ i k) λr w l=>(by obtain⟨m,n,o,p,q⟩:=l;exact⟨x::m,n,o,.cons j p,q⟩)
variable{g:List gA->List gA->List gA}{gV:List V->List V->List V}
end
structure RJ(N P:List fA)(sc:rF):Prop where
 kind:sc.kind=.function
 co:sc.isCoroutine=cA
 gen:sc.isGenerator=cA
 nd:N.Nodup
 pre:N.take P.length=P
 par:∀x∈P,sc.names.lookup x=aA .local\/sc.names.lookup x=aA .cell
 yx:∀y∈sc.names,y.2≠.free
theorem y4{kindOf:fA->Option GH}:∀{binds:List (fA×gA)} {m:fA->Option gA},(∀v,(x,v) ∉ binds)->bindL kindOf binds m x=m x
 |[],_,_=>rfl
 | (n,v)::r,m,h=>by
  unfold bindL;rw[y4 λw a=>h w (XC _ a)];split
  ·have:x≠n:=by rintro rfl;exact h v AD
   simp[this]
  ·rfl
theorem o4{kindOf:fA->Option GH}:∀{binds:List (fA×gA)} {m:fA->Option gA},(∀v,(x,v) ∉ binds)->bindC kindOf binds m x=m x
 |[],_,_=>rfl
 | (n,v)::r,m,h=>by
  unfold bindC;rw[o4 λw a=>h w (XC _ a)];split
  ·rfl
  ·have:x≠n:=by rintro rfl;exact h v AD
   simp[this]
theorem u4{kindOf:fA->Option GH}:∀{P:List fA} {a:List gA} {i:Nat} {m:fA->Option gA},P.Nodup->P[i]?=aA x->a[i]?=aA v->kindOf x=aA .local ->
  bindL kindOf (P.zip a) m x=aA v
 |[],_,_,_,_,h,_,_=>by simp at h
 |_::_,[],_,_,_,_,h,_=>by simp at h
 |p::P,w::a,0,m,d,b,c,e=>by
  simp at b c;subst b;subst c;show bindL kindOf ((p,w)::P.zip a) m p=_;unfold bindL;rw[y4 λv f=>(QT.mp d).1 (T1 f).1,QA e];simp
 |p::P,w::a,i+1,m,d,b,c,e=>by(show bindL kindOf ((p,w)::P.zip a) m x=_;unfold bindL;exact u4 (QT.mp d).2 (by simpa using b) (by simpa using c) e)
theorem n4{kindOf:fA->Option GH}:∀{P:List fA} {a:List gA} {i:Nat} {m:fA->Option gA},P.Nodup->P[i]?=aA x->a[i]?=aA v->kindOf x≠aA .local ->
  bindC kindOf (P.zip a) m x=aA v
 |[],_,_,_,_,h,_,_=>by simp at h
 |_::_,[],_,_,_,_,h,_=>by simp at h
 |p::P,w::a,0,m,d,b,c,e=>by
  simp at b c;subst b;subst c;show bindC kindOf ((p,w)::P.zip a) m p=_;unfold bindC;rw[o4 λv f=>(QT.mp d).1 (T1 f).1,pB e];simp
 |p::P,w::a,i+1,m,d,b,c,e=>by(show bindC kindOf ((p,w)::P.zip a) m x=_;unfold bindC;exact n4 (QT.mp d).2 (by simpa using b) (by simpa using c) e)
noncomputable def start(N:List fA)(a:List V):St:=a.map aA++CB (N.length-a.length) eA
noncomputable def cI(g:TK)(P:oE)(w:WC)(K:jA)(mg:fA->Option gA)(base:XB)(N:List fA)(b:fA)(a:rF)(f:lA)(d:gA)(A:oG)(outer:List Env)(s:HA)(H:Hp)(E:XK):Cx where
 prog:=P
 w:=w
 K:=K
 mg:=mg
 base:=base
 A:=A.deeper (envOfC b a s.heap.objs.size f d)
 N:=N
 s₀:=s
 H₀:=H
 env:=envOfC b a s.heap.objs.size f d
 outer:=outer
 stack:=envOfC b a s.heap.objs.size f d::outer
 ex:=[]
 calm:=bA
 fn:=λ_=>bA
 pn:=[]
 xe:=λe h=>JA (model P w) (A.deeper (envOfC b a s.heap.objs.size f d)) (leaving (envOfC b a s.heap.objs.size f d) e) (λ_ c=>g outer H s E e c) (λi c=>g outer H s E i c) h
def f5{a:rF}(h:a.names.lookup x=aA .cell):∃c,(cellsFrom n a.names []).lookup x=aA c:=by
 have q:=Me a.names n [] (.inl h);exact Option.isSome_iff_exists.mp q
def Nr{K:jA}
  (S:RJ N t d) (hd:A.handled=eA) (l:WK P w K mg base A outer s H) (hl:B.length=t.length) (r:aAd B O)
  (x:InCallC s s.heap.objs.size (bindL (envOfC j d s.heap.objs.size f M).kindOf (t.zip O) λ_=>eA) (cellsFrom (s.heap.objs.size+1) d.names []) (bindC (envOfC j d s.heap.objs.size f M).kindOf (t.zip O) λ_=>eA) R) :
  kA (cI U P w K mg base N j d f M A outer s H E) [] (start N B) H R:=by
 have X:t.length<=N.length:=by have:=congrArg MF S.pre;rw[MI] at this;lia
 obtain⟨I,tk,rfl,Q⟩:=x.done;have m:∀b:lA,b ∉ (cI U P w K mg base N j d f M A outer s H E).ex:=λb z=>absurd (show b∈([]:List lA) from z) (by simp)
 refine⟨⟨l.mod,S.kind,rfl,rfl,oB _,λy z c I g=>?_,λy o=>?_,λy c _ h=>?_,λ_=>hd,Around.frames_deeper l.frames,.inr ⟨rfl,rfl⟩,λb z=>absurd z (m b),l.bs,l.ZH,λb _ _=>m b,λb z=>absurd z (m b),l.dG,l.bJ⟩,
  rfl,l.bare,Un.kept Q,⟨_,x.toInCall.ns,λi y v I g h3=>?_⟩,λy c h=>⟨_,x.cell y c h⟩,l.aB.fresh (oB _),λy c h=>?_,λp C=>absurd (show p∈([]:List (lA×AB)) from C) (by simp),l.aB.kept Q, ?_⟩
 ·exact name_of_addr x.apart (GP I) (GP g)
 ·have o:d.names.lookup y=aA .cell\/d.names.lookup y=aA .free:=o;rcases o with o | o
  ·exact f5 o
  ·exact absurd rfl (S.yx _ (GP o))
 ·exact dQ (x.above y c (GP h))
 ·have J:i<B.length:=by
   unfold start at g;by_cases J:i<B.length
   ·exact J
   ·rw[rM (by simpa using J)] at g;rw[K0] at g;split at g<;>cases g
  have Y:B[i]?=aA v:=by
   unfold start at g;rw[FN (by simpa using J),dD] at g
   cases e:B[i]? with
   |none=>rw[e] at g;cases g
   |some a=>rw[e] at g;cases g;rfl
  obtain⟨u,hu,Z⟩:=r.get Y
  have C:t[i]?=aA y:=by(rw[<- S.pre,List.getElem?_take_of_lt (by lia)];exact I)
  have F:t.Nodup:=by rw[<- S.pre];exact S.nd.sublist (List.take_sublist _ _)
  refine⟨u,Z, ?_⟩;rcases S.par y (aH C) with k | k
  ·exact .inl ⟨k,u4 F C hu k⟩
  ·obtain⟨c,e⟩:=f5 (n:=s.heap.objs.size+1) k;refine .inr ⟨.inl k,c,e, ?_⟩;have q:=x.cell y c e;rw[n4 F C hu (by show d.names.lookup y≠_;rw[k];decide)] at q;exact q
 ·exact l.aB.fresh (dQ (x.above y c (GP h)))
 ·unfold start;show _=N.length;rw[PB,pA,We]
  lia
def Dp{K:jA}{Z kV p pm d ct oc:gA}{an od:Option lA}(lk:K.lookup f=aA ⟨oc,od,.func (nG name c g body a Z kV p pm an d ct),QL⟩)(F:mM K d c=bA)(S:RJ N M a)
  (len:∀h H Q E,sp h H Q E->h.length=M.length)
  (j:∀(A:oG) (outer:List Env) (s:HA) (H:Hp) (h:List V) (Q:VK) (E:XK),oC k (A.deeper (envOfC c a s.heap.objs.size f d))->sp h H Q E ->
   ∃t,bD (cI O P w K mg base N c a f d A outer s H E) body t/\t { nx:=λ_ i=>Q .nA i,rt:=Q } (start N h) H) :
  sE P w K mg base O (k+1) f (nG name c g body a Z kV p pm an d ct) M sp:=by
 refine⟨len,λA outer s H args us h Q E R z hb r B=>?_⟩;have hl:=len _ _ _ _ B;have KX:K.In s.heap:=z.mod.kin.keeps λb o e=>(z.bs b o e).1
 have U:s.heap.NoLimit:=z.mod.nolimit.keeps λb o e=>(z.bs b o e).1
 have l:∀y∈M.zip us,a.names.lookup y.1=aA .local\/(a.names.lookup y.1=aA .cell/\((cellsFrom (s.heap.objs.size+1) a.names []).lookup y.1).isSome=bA):=λ⟨n,v⟩ hy=>by
  rcases S.par n (T1 hy).1 with q | q
  ·exact .inl q
  ·exact .inr ⟨q,Me _ _ _ (.inl q)⟩
 refine codeAny_call_function R.depth (KX _ _ lk) rfl S.co S.gen rfl (PySem.W.codeRec_of KX F) (hb _ _ _ _ ?_);refine wpAny_newFunctionEnv_cells S.kind l λenv he s1 x=>?_
 subst he;refine⟨U.keeps x.toInCall.keep,codeAny_func ?_⟩;obtain⟨t,ht,hq⟩:=j A outer s H h Q E (R.deeper _) B;have I:kA (cI O P w K mg base N c a f d A outer s H E) [] (start N h) H s1:=Nr S R.hd z hl r x;refine FH (ht [] s1 (start N h) H _ I hq) (λfl X m=>?_) λe X m=>m
 have fin:∀{C:St} {i:Hp} {v:V} {u:gA},kA (cI O P w K mg base N c a f d A outer s H E) [] C i X->aAf v u->Q v i->CE outer P w H s Q u X :=
  λ{C i v u} J Y q=>⟨v,i,J.os,J.bare,J.base,J.aB,Y,q⟩
 cases fl with
 |ret u =>
  obtain⟨v,C,i,J,Y,q⟩:=m;exact fin J Y q
 |next =>
  obtain⟨C,i,J,q⟩:=m;exact fin (v:=V.nA) (u:=Value.none) J rfl q
 |brk =>
  obtain⟨_,_,_,q⟩:=m;exact GG q
 |cont =>
  obtain⟨_,_,_,q⟩:=m;exact GG q
section
variable{id T:String}
def MZ(r:List V->Hp->VK->Prop)(t:TA):TE:=λZ H Q=>t Z H λa b=>r a b Q
def VY(d:UD X (.builtin id) r)(f:Gl X x)(g:X.mg x=eA)(i:AI x=aA (.builtin id))(j:PA X (e::a) t)(k:x≠"__name__":=by decide)(b:(x==("__debug__":fA))=cA:=by decide)
  (l:eC (e::a) X.env=(cA,eval e X.env)::eC a X.env:=by rfl) (c:(IE pos (eC a X.env)).any (·.1)=cA:=by rfl):PE X (.Call (.Name x p) (e::a) [] pos) (MZ r t):=by
 intro dA s Z H Q I h;refine HP (IL I f g i ?_ k b);exact PyProof.Rows.callWith_builtin1 (RA (j pos dA s Z H _ I h) λm n o=>(by obtain⟨q,u,v,w,y⟩:=o;exact d dA n Z u q m Q v w y)) l c
def O9(d:UD X (.type T) r)(f:Gl X x)(g:X.mg x=eA)(i:AI x=aA (.type T))(j:PA X (e::a) t)(k:x≠"__name__":=by decide)(b:(x==("__debug__":fA))=cA:=by decide)
  (l:eC (e::a) X.env=(cA,eval e X.env)::eC a X.env:=by rfl) (c:(IE pos (eC a X.env)).any (·.1)=cA:=by rfl):PE X (.Call (.Name x p) (e::a) [] pos) (MZ r t):=by
 intro dA s Z H Q I h;refine HP (IL I f g i ?_ k b);exact rT (RA (j pos dA s Z H _ I h) λm n o=>(by obtain⟨q,u,v,w,y⟩:=o;exact d dA n Z u q m Q v w y)) l c
end
end L2
namespace HT
open PySem PyProof.Rows
section
variable{s:HA}
def Hl(u:IsTup s.heap t d.toArray)(v:IsTup s.heap b a.toArray)(m:d≠[])
  (x:a=[]->Q (.ref t) s) (y:a≠[]->Q (.ref s.heap.objs.size) { s with heap:=s.heap.push { cls:=.type "tuple",data:=.seq (d++a).toArray } })
  (l:d.length+a.length<=sizeLine):JA (model prog w) A (zD .Add (.ref t) (.ref b)) Q E s:=by
 obtain⟨⟨cls,o,data,sl⟩,j,p,n,hd⟩:=id u;obtain⟨⟨q,f,data2,g⟩,c,h,r,i⟩:=id v;simp only at p hd h i;subst p hd h i;have e:d.toArray++a.toArray=(d++a).toArray:=by simp
 by_cases k:a=[]
 ·exact dU ⟨_,j,rfl⟩ ⟨_,c,rfl⟩ K1 C2 P0 L0 (J0 _ _)
   (tuple_addW1 t b d.toArray a.toArray n r o f sl g (by simpa using m) (by simp[k])) ⟨j,c,x k⟩
 ·refine dU ⟨_,j,rfl⟩ ⟨_,c,rfl⟩ K1 C2 P0 L0 (J0 _ _)
   (tuple_addW2 t b d.toArray a.toArray n r o f sl g (by simpa using m) (by simpa using k) (by rw[DC,DC];exact l)) ⟨j,c, ?_⟩
  rw[e];exact y k
noncomputable def dB(n d:Nat):Option Int->Nat
 |none=>d
 |some v=>if v<0 then(v+(n:Int)).toNat else min v.toNat n
theorem HS(n d:Nat):dB n d eA=d:=rfl
def qP(n d k:Nat):dB n d (aA (k:Int))=min k n:=by
 show(if(k:Int)<0 then((k:Int)+(n:Int)).toNat else min (k:Int).toNat n)=min k n;rw[pB (by lia),OE]
def tCa(n d:Nat)(hd:d<=n)(o:Option Int):dB n d o<=n:=by
 cases o with
 |none=>exact hd
 |some v =>
  show(if v<0 then(v+(n:Int)).toNat else min v.toNat n)<=n;by_cases a:v<0
  ·rw[QA a];lia
  ·rw[pB a];exact Nat.min_le_right _ _
def k5(v:Int)(n d:Nat):(if v<0 then max (v+(n:Int)) 0 else min v (n:Int))=((dB n d (aA v):Nat):Int):=by
 show(if v<0 then max (v+(n:Int)) 0 else min v (n:Int))=(((if v<0 then(v+(n:Int)).toNat else min v.toNat n):Nat):Int);by_cases a:v<0
 ·simp only[QA a];lia
 ·simp only[pB a];lia
def Di(lo a:Option Int)(n:Nat):F0 lo a 1 (n:Int)=(((dB n 0 lo:Nat):Int),((dB n n a:Nat):Int)):=by
 have b:¬((1:Int)<0):=by lia
 unfold F0;simp only[b,if_false];refine Prod.ext ?_ ?_
 ·cases lo with
  |none=>rfl
  |some v=>exact k5 v n 0
 ·cases a with
  |none=>rfl
  |some v=>exact k5 v n n
def S_(i j:Nat):sT (i:Int) (j:Int) 1=j-i:=by
 unfold sT;have a:(1:Int) > 0:=by lia
 simp only[a,if_true,Int.ediv_one]
 split<;>lia
def Eb(p:GI v o)(h:Q o s):JA (model prog w) A (Builtin.Slice.slicePartIndex v) Q E s:=by
 cases p with
 |none=>exact slicePart_none h
 |int i t=>exact slicePart_int h
def cEa{lo a:Option Int}{Q:Int×Int×Nat->HA->Prop}(f:s.heap.IsSliceOf sl d e .none)(g:GI d lo)(i:GI e a)
  (h:Q (((dB n 0 lo:Nat):Int),1,dB n n a-dB n 0 lo) s):JA (model prog w) A (De (.ref sl) (pure (n:Int))) Q E s:=by
 obtain⟨os,b,j,c⟩:=id f;unfold De Builtin.Slice.sliceFields;refine WA (WA (IJ b c (x:=d) rfl (WA (IJ b c (x:=e) rfl (WA (IJ b c (x:=.none) rfl (YB ?_)))))));refine WA (slicePart_none ?_);show JA _ _ (if((1:Int)==0)=bA then _ else _) _ _ s;rw[pB (by decide)];refine WA (Eb g (WA (Eb i (WA (YB ?_)))));show JA _ _ (match F0 lo a 1 (n:Int) with | (lo,a)=>pure (lo,(1:Int),sT lo a 1)) _ _ s;rw[Di lo a n];show JA _ _ (pure (((dB n 0 lo:Nat):Int),(1:Int),sT ((dB n 0 lo:Nat):Int) ((dB n n a:Nat):Int) 1)) _ _ s;rw[S_];exact YB h
def M_(a:Array gA)(i k:Nat):((EB k).filterMap λ(m:Nat)=>a[((i:Int)+(m:Int)*1).toNat]?).toArray=((a.toList.drop i).take k).toArray:=by
 have e:(λ(m:Nat)=>a[((i:Int)+(m:Int)*1).toNat]?)=λm=>a[i+m]?:=by
  funext m
  have:((i:Int)+(m:Int)*1).toNat=i+m:=by lia
  rw[this]
 rw[e]
 have:=pick_run a i k
 rw[List.filterMap_map] at this;have b:((λx=>a[x]?) ∘ λx=>i+x)=λm=>a[i+m]?:=rfl
 rw[b] at this;rw[this]
def tq{lo b:Option Int}(c:IsTup s.heap t items)(i:s.heap.IsSliceOf sl j k .none)(l:GI j lo)(n:GI k b)
  (o:¬(dB items.size 0 lo=0/\dB items.size items.size b=items.size))
  (h:Q (.ref s.heap.objs.size) { s with heap:=s.heap.push { cls:=.type "tuple",data:=.seq ((items.toList.drop (dB items.size 0 lo)).take (dB items.size items.size b-dB items.size 0 lo)).toArray } })
  (p:items.size<=sizeLine):JA (model prog w) A (getItem (.ref t) (.ref sl)) Q E s:=by
 have a:sizeOk (.seq ((items.toList.drop (dB items.size 0 lo)).take (dB items.size items.size b-dB items.size 0 lo)).toArray):=by(show((items.toList.drop (dB items.size 0 lo)).take (dB items.size items.size b-dB items.size 0 lo)).toArray.size<=sizeLine;rw[DC,MI,jM,eM];omega)
 have u:dB items.size items.size b<=items.size:=tCa _ _ (oB _) b;obtain⟨os,d,e,r⟩:=id i;have f:s.TypeIs (.ref sl) "slice":=⟨os,d,e⟩
 unfold getItem
 try with_reducible refine YT ?_
 first | refine WA (YB ?_) | skip
 refine WA (wpAny_sequenceKey c.typeIs (by decide) ?_)
 refine WA (M0 (name:=rA "__getitem__") c.typeIs qT
  (L1 qT c.typeIs entry_tuple_getitem ?_ (args_tuple_getitem _ _)))
 show JA _ _ (Builtin.Tuple.tupleItemsOf (.ref t)>>=_) _ _ s;refine WA (tupleItemsOf_ c ?_);refine WA (wpAny_typeOf f ?_);rw[QA (by decide)];refine WA (cEa i l n ?_)
 have g:¬((((dB items.size 0 lo:Nat):Int)==0&&(1:Int)==1&&(dB items.size items.size b-dB items.size 0 lo)==items.size)=bA):=by(intro q;rw[IA,IA] at q;have v:((dB items.size 0 lo:Nat):Int)=0:=dC q.1.1;have x:dB items.size items.size b-dB items.size 0 lo=items.size:=dC q.2;exact o ⟨by omega,by omega⟩)
 show JA _ _ (if(((dB items.size 0 lo:Nat):Int)==0&&(1:Int)==1&&(dB items.size items.size b-dB items.size 0 lo)==items.size)=bA then _ else _) _ _ s;rw[pB g,M_]
 first
  |exact WA (m:=uT _) (MP (YB ⟨_,rfl,YB h⟩) a)
  |exact WA (m:=uT _) (MP (WA (YB (YB ⟨_,rfl,YB h⟩))) a)
  |exact WA (WA (m:=uT _) (MP (YB (YB ⟨_,rfl,YB h⟩)) a))
  |exact WA (WA (m:=uT _) (MP (YB ⟨_,rfl,YB h⟩) a))
end
end HT
namespace L2
open PySem PySem.Spec PyProof.Rows
abbrev TO:=St->Hp->(Option Int->Hp->Prop)->Prop
def PO(X:Cx)(e:Option zA)(t:TO):Prop :=
 ∀(dA:List (lA×AB)) (s:HA) (Z:St) (H:Hp) (Q:Option Int->Hp->Prop),kA X dA Z H s->t Z H Q ->
  JA (model X.prog X.w) X.A (evalPart e X.env) (λu b=>∃o a,kA X dA Z a b/\GI u o/\Q o a) X.xe s
def aGa:TO:=λ_ H Q=>Q eA H
def cGa(t:TE):TO:=λZ H Q=>t Z H λx a=>∃i,x=.int i/\Q (aA i) a
section
variable{lo hi:Option zA}
def T_:PO X eA aGa:=by
 intro dA s Z H Q I h;rw[evalPart_none];exact YB ⟨eA,H,I,.none,h⟩
def V_(h:PE X e a):PO X (aA e) (cGa a):=by
 intro dA s Z H Q I b;rw[evalPart_some];refine RA (h dA s Z H _ I b) λu k c=>?_
 obtain⟨x,d,f,g,j⟩:=c;obtain⟨i,rfl,q⟩:=j;obtain⟨t,rfl⟩:=g;exact⟨aA i,d,f,.int i t,q⟩
def UH(X:Cx)(r:V->Option Int->Option Int->Hp->VK->Prop):Prop :=
 ∀(dA:List (lA×AB)) (s:HA) (Z:St) (H:Hp) (x:V) (v a b:gA) (lo hi:Option Int) (sl:lA) (Q:VK),kA X dA Z H s->aAf x v->s.heap.IsSliceOf sl a b .none->GI a lo->GI b hi->r x lo hi H Q ->
  ∃T id,typeLookup (.type T) "__getitem__"=pure (aA (.builtin id))/\s.TypeIs v T/\JA (model X.prog X.w) X.A (getItem v (.ref sl)) (EP X dA Z Q) X.xe s
def UH.or(h:UH X r)(z:UH X B):UH X (λx lo hi H Q=>r x lo hi H Q\/B x lo hi H Q):=by
 intro dA s Z H x v j k lo hi sl Q I m u pl y q;rcases q with q | q
 ·exact h dA s Z H x v j k lo hi sl Q I m u pl y q
 ·exact z dA s Z H x v j k lo hi sl Q I m u pl y q
def tSl(r:V->Option Int->Option Int->Hp->VK->Prop)(a:TE)(b c:TO):TE:=λZ H Q=>a Z H λx d=>b Z d λl e=>c Z e λu f=>r x l u f Q
def y_(i:UH X r)(j:PE X e k)(hl:PO X lo m)(hu:PO X hi n):PE X (.Subscript e (.Slice lo hi eA p2) pos) (tSl r k m n):=by
 intro dA s Z H Q I h;refine Subscript_ (RA (j dA s Z H _ I h) λv o f=>?_);obtain⟨x,p,t,y,z⟩:=f;refine wpAny_Slice (RA (hl dA o Z p _ t z) λc B ⟨l,C,F,J,K⟩=>RA (hu dA B Z C _ F K) λd a f=>?_);obtain⟨u,g,M,N,O⟩:=f;rw[evalPart_none];refine YB ?_;have P:kA X dA Z g { a with heap:=a.heap.push { cls:=.type "slice",data:=.fields #[c,d,.none] } }:=M.kept (t':=a.toks) λb ob q=>aD _ q
 obtain⟨T,id,R,U,Y⟩:=i dA { a with heap:=a.heap.push { cls:=.type "slice",data:=.fields #[c,d,.none] } } Z g x v c d l u a.heap.objs.size Q P y (mIa ..) J N O;show JA (model X.prog X.w) X.A (subscriptTail e (.Slice lo hi eA p2) v (.ref a.heap.objs.size)) (EP X dA Z Q) X.xe { a with heap:=a.heap.push { cls:=.type "slice",data:=.fields #[c,d,.none] } };exact tail_any (ops:=[.ref a.heap.objs.size,v]) U R Y (by with_unfolding_all rfl)
def YJ(a:List V)(lo hi:Option Int):List V:=(a.drop (HT.dB a.length 0 lo)).take (HT.dB a.length a.length hi-HT.dB a.length 0 lo)
def B5(a:List V)(lo hi:Option Int):(YJ a lo hi).length<=a.length:=by
 unfold YJ;rw[MI,jM]
 lia
def lBa(K:jA):V->Option Int->Option Int->Hp->VK->Prop:=λx lo hi H Q=>∃a b,x=.ref a/\pC K H a b /\
 ¬(HT.dB b.length 0 lo=0/\HT.dB b.length b.length hi=b.length)/\∀p,H p=eA->Q (.ref p) (EA H p (.t (YJ b lo hi)))
def bEa:UH X (lBa X.K):=by
 intro dA s Z H x v p t lo hi sl Q I i j k l h;obtain⟨a,d,rfl,m,n,q⟩:=h;cases i;obtain⟨e,r,f,g⟩:=I.tuple m;have c:e.toArray.size=d.length:=by rw[DC];exact r.length.symm
 refine⟨"tuple",_,qT.lookup,f.typeIs, ?_⟩;refine HT.tq f j k l (by rw[c];exact n) ?_ (by rw[c];exact g);rw[c];refine⟨.ref s.heap.objs.size,_,I.laid (t':=s.toks) (o:=.t (YJ d lo hi)) (λb u q=>aD _ q) (oB _) ?_,rfl,q _ (I.aB.fresh (oB _))⟩;exact⟨KC (B5 d lo hi) g,_,(r.drop (HT.dB d.length 0 lo)).take (HT.dB d.length d.length hi-HT.dB d.length 0 lo),D3 _ _⟩
def aBa(K:jA):R2:=λx y H Q=>∃a b d c,x=.ref a/\y=.ref b/\pC K H a d/\pC K H b c/\d≠[]/\d.length+c.length<=sizeLine /\
 (c=[]->Q (.ref a) H)/\(c≠[]->∀p,H p=eA->Q (.ref p) (EA H p (.t (d++c))))
def aAd.rS(r:aAd j k):k=[]↔j=[]:=by
 cases r with
 |nil=>simp
 |cons _ _=>simp
def iz:RB X (zD .Add) (aBa X.K):=by
 intro dA s Z H x y v u Q I g i h;obtain⟨a,b,j,k,rfl,rfl,l,m,n,e,p,r⟩:=h;cases g;cases i;obtain⟨t,d,A,_⟩:=I.tuple l;obtain⟨f,c,p2,_⟩:=I.tuple m;refine HT.Hl A p2 (λz=>n (d.rS.mp z)) (λz=>⟨.ref a,H,I,rfl,p (c.rS.mp z)⟩) (λz=>?_) (by rw[<- d.length,<- c.length];exact e);refine⟨.ref s.heap.objs.size,_,I.laid (t':=s.toks) (o:=.t (j++k)) (λb B q=>aD _ q) (oB _) ?_,rfl,r (λw=>z (c.rS.mpr w)) _ (I.aB.fresh (oB _))⟩;exact⟨by rw[PB];exact e,_,d.append c,D3 _ _⟩
end
noncomputable def DD(n:Nat)(i:Int):Option Nat:=if 0<=i then(if i<n then aA i.toNat else eA) else if -(n:Int)<=i then aA (i+n).toNat else eA
def LB(a:List O)(i:Int):Option O:=(DD a.length i).bind λj=>a[j]?
def o7(h:DD n i=aA j):seqIndex? i n=aA j/\j<n/\-(n:Int)<=i/\i<n:=by
 unfold DD at h;by_cases b:0<=i
 ·rw[QA b] at h;by_cases a:i<n
  ·rw[QA a] at h;have e:i.toNat=j:=pD h;exact⟨by rw[V2 b a,e],by lia,by lia,a⟩
  ·rw[pB a] at h;cases h
 ·rw[pB b] at h;by_cases a:-(n:Int)<=i
  ·rw[QA a] at h;have e:(i+n).toNat=j:=pD h;exact⟨by rw[O2 (by lia) a,e],by lia,a,by lia⟩
  ·rw[pB a] at h;cases h
def KU(h:LB a i=aA v):∃j,seqIndex? i a.length=aA j/\a[j]?=aA v/\j<a.length/\-(a.length:Int)<=i/\i<a.length:=by
 unfold LB at h
 cases e:DD a.length i with
 |none=>rw[e] at h;cases h
 |some j =>
  rw[e] at h;obtain⟨b,c,d,f⟩:=o7 e;exact⟨j,b,h,c,d,f⟩
def fL{j:Nat}(h:a[j]?=aA v):LB a (j:Int)=aA v:=by
 have b:j<a.length:=(lD.mp h).1
 have e:DD a.length (j:Int)=aA j:=by(unfold DD;rw[QA (by lia),QA (by lia)];simp)
 unfold LB;rw[e];exact h
def iO(b:zA):Prop:=∀o i,subscripted b cA o i=operate [o,i] (getItem o i)
def uE(X:Cx)(r:R2):Prop :=
 ∀(value slice:zA) (dA:List (lA×AB)) (s:HA) (Z:St) (H:Hp) (x y:V) (v u:gA) (Q:VK),kA X dA Z H s->aAf x v->aAf y u->r x y H Q ->
  subscripted slice cA v u=operate [v,u] (getItem v u)->JA (model X.prog X.w) X.A (subscriptTail value slice v u) (EP X dA Z Q) X.xe s
def rQ(X:Cx)(id:String)(r:V->List V->Hp->VK->Prop):Prop :=
 ∀(dA:List (lA×AB)) (s:HA) (Z:St) (H:Hp) (x:V) (a:List V) (v:gA) (b:List gA) (Q:VK),kA X dA Z H s->aAf x v->aAd a b->r x a H Q ->
  JA (model X.prog X.w) X.A (call (.builtin id) (v::b)) (EP X dA Z Q) X.xe s
section
variable{pos:vC}
def uE.or(h:uE X r)(z:uE X B):uE X (λx y H Q=>r x y H Q\/B x y H Q):=by
 intro value slice dA s Z H x y v u Q I j k q m;rcases q with q | q
 ·exact h value slice dA s Z H x y v u Q I j k q m
 ·exact z value slice dA s Z H x y v u Q I j k q m
def R9(c:uE X r)(d:PE X a e)(f:PE X b g)(i:iO b):PE X (.Subscript a b pos) (BN r e g):=by
 intro dA s Z H Q I h;exact Subscript_ (pV d f I h λv u j x y k l m n q=>c a b dA j Z k x y v u Q l m n q (i _ _))
def Ja(K:jA):R2:=λx y H Q=>∃p a i v,x=.ref p/\y=.int i/\qB K H p a/\LB a i=aA v/\Q v H
def Ka(K:jA):R2:=λx y H Q=>∃p a i v,x=.ref p/\y=.int i/\pC K H p a/\LB a i=aA v/\Q v H
def ES:R2:=λx y H Q=>∃z i c,x=.str z/\y=.int i/\z.length<=sizeLine/\LB z.cps.toList i=aA c/\Q (.str ⟨#[c]⟩) H
def zt:uE X (Ja X.K):=by
 intro value slice dA s Z H x y v u Q I l m h f;obtain⟨p,J,i,z,rfl,rfl,n,o,q⟩:=h;cases l;obtain⟨t,rfl⟩:=m;obtain⟨b,r,c,M⟩:=I.list n;obtain⟨j,a,A,N,B,C⟩:=KU o;obtain⟨w,g,d⟩:=r.get A;have hl:=r.length;have O:=JL;have fin:EP X dA Z Q w s:=⟨z,H,I,d,q⟩
 by_cases k:0<=i
 ·have e:i.toNat=j:=by
   rw[V2 k C] at a;exact pD a
  exact item_listR c.isList k (by lia) (by rw[e];simpa using g) fin f
 ·have e:(i+(b.toArray.size:Int)).toNat=j:=by
   rw[O2 (by lia) B] at a;rw[DC,<- hl];exact pD a
  exact Oe (x:=w) c.isList.typeIs Ff.lookup
   (wpAny_getItem_list_neg (Q:=λr F=>r=w/\EP X dA Z Q r F) c.isList (by lia) (by rw[DC]<;>lia) (by lia) (by rw[e];simpa using g) ⟨rfl,fin⟩) f
def Ht:uE X (Ka X.K):=by
 intro value slice dA s Z H x y v u Q I c d h e;obtain⟨p,A,i,z,rfl,rfl,f,g,q⟩:=h;cases c;obtain⟨t,rfl⟩:=d;obtain⟨k,r,b,B⟩:=I.tuple f;obtain⟨j,l,m,C,F,J⟩:=KU g;obtain⟨w,n,a⟩:=r.get m;have hl:=r.length;have M:=JL;have fin:EP X dA Z Q w s:=⟨z,H,I,a,q⟩
 exact Oe (x:=w) b.typeIs qT.lookup
  (getItem_tuple (Q:=λr o=>r=w/\EP X dA Z Q r o) b (by lia) (by lia) (by rw[DC,<- hl];exact l) (by simpa using n) ⟨rfl,fin⟩) e
def Ft:uE X ES:=by
 intro value slice dA s Z H x y v u Q I b d h e;obtain⟨z,i,c,rfl,rfl,o,f,q⟩:=h;obtain⟨t,rfl⟩:=b;obtain⟨p,rfl⟩:=d;obtain⟨j,a,g,r,k,l⟩:=KU f;have hl:z.cps.toList.length=z.length:=by simp[Str.length]
 rw[hl] at a k l;have w:=JL
 exact tail_any (TN s z t) slot_str_getitem.lookup (getItem_str (by
  have m:decide (i < -(2 ^ 63:Int))=cA:=ZA (by lia);have n:decide (i >= 2 ^ 63)=cA:=ZA (by lia)
  rw[m,n,qE]) (by rw[a];simpa using g) ⟨.str ⟨#[c]⟩,H,I.tok _,⟨_,rfl⟩,q⟩) e
def rIx(K:jA):R2:=λx y H Q=>Ja K x y H Q\/Ka K x y H Q\/ES x y H Q
def Et:uE X (rIx X.K):=zt.or (Ht.or Ft)
def uw(a:List gA)(n j:Nat)(u:gA):mQ (·.setIfInBounds j u) { cls:=.type "list",data:=.seq a.toArray n }={ cls:=.type "list",data:=.seq (a.set j u).toArray n }:=by
 simp[mQ]
theorem kA.l(I:kA X dA Z H s)(h:H p=aA (.l k)) :
  ∃(j:List gA) (n:Nat),aAd k j/\s.heap.get? p=aA { cls:=.type "list",data:=.seq j.toArray n }/\k.length<=sizeLine:=by
 obtain⟨z,j,n,r,e⟩:=I.aB p _ h;exact⟨j,n,r,e,z⟩
def kA.ew{k j:List gA}(I:kA X dA Z H s)(h:H p=aA (.l B))
  (ho:s.heap.get? p=aA { cls:=.type "list",data:=.seq k.toArray n }) (m:f { cls:=.type "list",data:=.seq k.toArray n }={ cls:=.type "list",data:=.seq j.toArray n' }) (r:aAd ys j) (y:ys.length<=sizeLine) (t:Nat) :
  kA X dA Z (EA H p (.l ys)) { s with heap:=s.heap.update p f,toks:=t }:=by
 have e:(s.heap.update p f).get? p=aA { cls:=.type "list",data:=.seq j.toArray n' }:=by(rw[Heap.get?_update_self f ho (by rw[m]<;>rfl),m])
 refine I.write (x:=p) (e:=p) (by rw[h];trivial) (.inl rfl) (λb u z q=>(Pe _ _ (qF z)).trans q) ⟨_,e⟩ ?_;exact⟨y,j,n',r,e⟩
def La:V->V->V->Hp->(Hp->Prop)->Prop:=λo i v H Q=>∃p a k j,o=.ref p/\i=.int k/\H p=aA (.l a)/\DD a.length k=aA j/\Q (EA H p (.l (a.set j v)))
def aAW:FU X La:=by
 intro dA s Z H o i v C F u Q I w x y h;obtain⟨p,z,k,j,rfl,rfl,e,A,q⟩:=h;cases w;obtain⟨t,rfl⟩:=x;obtain⟨a,n,r,c,B⟩:=I.l e;obtain⟨b,J,f,g⟩:=o7 A;have hl:=r.length;have K:=JL
 have l:kA X dA Z (EA H p (.l (z.set j v))) { s with heap:=s.heap.update p (mQ (·.setIfInBounds j u)) } :=
  I.ew e c (uw a n j u) (r.set y j) (by rw[PF];exact B) s.toks
 by_cases m:0<=k
 ·have d:k.toNat=j:=by
   rw[V2 m g] at b;exact pD b
  exact PySem.W.ki_setAt c m (by lia) (by rw[DC,<- hl];exact g) (by rw[d];exact⟨_,l,q⟩)
 ·have d:(k+(a.toArray.size:Int)).toNat=j:=by
   rw[O2 (by lia) f] at b;rw[DC,<- hl];exact pD b
  exact PySem.W.ki_setBack c (by lia) (by rw[DC,<- hl];exact f) (by lia) (by rw[d];exact⟨_,l,q⟩)
def eEa(lo a:Option Int)(n:Nat):(sliceBounds lo a eA n).1=((HT.dB n 0 lo:Nat):Int)/\(sliceBounds lo a eA n).2.1=((HT.dB n n a:Nat):Int)/\(sliceBounds lo a eA n).2.2=1:=by
 refine⟨?_, ?_,rfl⟩
 ·cases lo with
  |none=>simp[sliceBounds,HT.dB]
  |some i =>
   simp only[sliceBounds,HT.dB,Nf,show(1:Int) > 0 by decide,if_true];by_cases h:i<0
   ·simp only[h,if_true]<;>lia
   ·simp only[h,if_false]<;>lia
 ·cases a with
  |none=>simp[sliceBounds,HT.dB]
  |some i =>
   simp only[sliceBounds,HT.dB,Nf,show(1:Int) > 0 by decide,if_true];by_cases h:i<0
   ·simp only[h,if_true]<;>lia
   ·simp only[h,if_false]<;>lia
def dEa(a:List gA)(lo b:Option Int):slicePick a.toArray lo b eA=((a.drop (HT.dB a.length 0 lo)).take (HT.dB a.length a.length b-HT.dB a.length 0 lo)).toArray:=by
 obtain⟨c,d,e⟩:=eEa lo b a.toArray.size;unfold slicePick;rw[c,d,e];simp only[sliceRange_one,pick_run,DC]<;>rfl
def jBa(K:jA):V->Option Int->Option Int->Hp->VK->Prop:=λx lo c H Q=>∃a b,x=.ref a/\qB K H a b/\∀p,H p=eA->Q (.ref p) (EA H p (.l (YJ b lo c)))
def yDa:UH X (jBa X.K):=by
 intro dA s Z H x v p t lo e sl Q I g i j k h;obtain⟨a,c,rfl,l,q⟩:=h;cases g;obtain⟨m,r,f,n⟩:=I.list l;have d:=r.length;refine⟨"list",_,Ff.lookup,f.isList.typeIs, ?_⟩;refine wpAny_getItem_list_slice f.isList i j k .none (by simp) ?_ (by rw[DC]<;>lia);rw[dEa,<- d];refine⟨.ref s.heap.objs.size,_,I.laid (t':=s.toks) (o:=.l (YJ c lo e)) (λb u q=>aD _ q) (oB _) ?_,rfl,q _ (I.aB.fresh (oB _))⟩;exact⟨KC (B5 c lo e) n,_,0,(r.drop (HT.dB c.length 0 lo)).take (HT.dB c.length c.length e-HT.dB c.length 0 lo),NF _ rfl⟩
noncomputable def gI:V->Bool
 |.nA=>bA
 |.bl _=>bA
 |.int _=>bA
 |.str _=>bA
 |_=>cA
noncomputable def XI:V->V->Bool
 |.nA,.nA=>bA
 |.bl a,.bl b=>a==b
 |.bl a,.int b=>(if a then 1 else 0)==b
 |.int a,.bl b=>a==(if b then 1 else 0)
 |.int a,.int b=>a==b
 |.str a,.str b=>a==b
 |_,_=>cA
def Qm(e:aAf y u)(c:aAf x v)(g:gI y=bA)(f:gI x=bA):y3 A s u v (XI y x):=by
 cases y with
 |nA =>
  cases e
  cases x with
  |nA=>cases c;exact SeqAt.EqAt.same _
  |bl b=>cases c;exact SeqAt.EqAt.none_bool b
  |int b=>obtain⟨t,rfl⟩:=c;exact SeqAt.EqAt.none_int b t
  |str b=>obtain⟨t,rfl⟩:=c;exact SeqAt.EqAt.none_str b t
  |_=>exact absurd (show cA=bA from f) JE
 |bl a =>
  cases e
  cases x with
  |nA=>cases c;exact SeqAt.EqAt.bool_none a
  |bl b=>cases c;exact SeqAt.EqAt.bool_bool a b
  |int b=>obtain⟨t,rfl⟩:=c;exact SeqAt.EqAt.bool_int a b t
  |str b=>obtain⟨t,rfl⟩:=c;exact SeqAt.EqAt.bool_str a b t
  |_=>exact absurd (show cA=bA from f) JE
 |int a =>
  obtain⟨d,rfl⟩:=e
  cases x with
  |nA=>cases c;exact SeqAt.EqAt.int_none a d
  |bl b=>cases c;exact SeqAt.EqAt.int_bool a d b
  |int b=>obtain⟨t,rfl⟩:=c;exact SeqAt.EqAt.int_int a d b t
  |str b=>obtain⟨t,rfl⟩:=c;exact uf a d b t
  |_=>exact absurd (show cA=bA from f) JE
 |str a =>
  obtain⟨d,rfl⟩:=e
  cases x with
  |nA=>cases c;exact SeqAt.EqAt.str_none a d
  |bl b=>cases c;exact SeqAt.EqAt.str_bool a d b
  |int b=>obtain⟨t,rfl⟩:=c;exact vf a d b t
  |str b=>obtain⟨t,rfl⟩:=c;exact SeqAt.EqAt.str_str a d b t
  |_=>exact absurd (show cA=bA from f) JE
 |_=>exact absurd (show cA=bA from g) JE
def BF(x:V)(u:gA):Bool:=match u with
 |.none=>XI .nA x
 |.bool b=>XI (.bl b) x
 |.int i _=>XI (.int i) x
 |.str z _=>XI (.str z) x
 |_=>cA
def R5(r:aAf y u)(f:gI y=bA):BF x u=XI y x:=by
 cases y with
 |nA=>cases r;rfl
 |bl b=>cases r;rfl
 |int i=>obtain⟨t,rfl⟩:=r;rfl
 |str z=>obtain⟨t,rfl⟩:=r;rfl
 |_=>exact absurd (show cA=bA from f) JE
def AQ(h:aAd a b)(f:a.all gI=bA):b.any (BF x)=a.any λy=>XI y x:=by
 induction h with
 |nil=>rfl
 |cons r t c =>
  rw[IB,IA] at f;rw[oM,oM,R5 r f.1,c f.2]
def iS(a:aAf x v)(b:gI x=bA)(h:aAd c d)(f:c.all gI=bA):∀u∈d,y3 A s u v (BF x u):=by
 induction h with
 |nil=>exact λu hu=>nomatch hu
 |cons r t e =>
  intro g hu;rw[IB,IA] at f;rcases mD.mp hu with rfl | hu
  ·rw[R5 r f.1];exact Qm r a f.1 b
  ·exact e f.2 g hu
def TR(x:V)(a:List V):Bool:=a.any λy=>XI y x
def Ia(K:jA)(neg:Bool):R2:=λx y H Q=>∃p a,y=.ref p/\(qB K H p a\/pC K H p a)/\gI x=bA/\a.all gI=bA/\Q (.bl (if neg then !TR x a else TR x a)) H
def B9:RB X (KD .In) (Ia X.K cA):=by
 intro dA s Z H x y v u Q I e g h;obtain⟨p,j,rfl,b,f,fs,q⟩:=h;cases g;rcases b with b | b
 ·obtain⟨a,r,c,i⟩:=I.list b;refine Xf (BF x) c.isList (λw d=>iS e f r fs w (by simpa using d)) ⟨.bl _,H,I,rfl, ?_⟩;rw[show a.toArray.any (BF x)=a.any (BF x) by simp,AQ r fs];exact q
 ·obtain⟨a,r,c,i⟩:=I.tuple b;refine SeqAt.in_tupleAt (BF x) c (λw d=>iS e f r fs w (by simpa using d)) ⟨.bl _,H,I,rfl, ?_⟩;rw[show a.toArray.any (BF x)=a.any (BF x) by simp,AQ r fs];exact q
def C9:RB X (KD .NotIn) (Ia X.K bA):=by
 intro dA s Z H x y v u Q I e g h;obtain⟨p,j,rfl,b,f,fs,q⟩:=h;cases g;rcases b with b | b
 ·obtain⟨a,r,c,i⟩:=I.list b;refine zf (BF x) c.isList (λw d=>iS e f r fs w (by simpa using d)) ⟨.bl _,H,I,rfl, ?_⟩;rw[show a.toArray.any (BF x)=a.any (BF x) by simp,AQ r fs];exact q
 ·obtain⟨a,r,c,i⟩:=I.tuple b;refine SeqAt.notIn_tupleAt (BF x) c (λw d=>iS e f r fs w (by simpa using d)) ⟨.bl _,H,I,rfl, ?_⟩;rw[show a.toArray.any (BF x)=a.any (BF x) by simp,AQ r fs];exact q
def W4:UD X (.builtin "len") (λg H Q=>∃p b,g=[.ref p]/\(qB X.K H p b\/pC X.K H p b)/\Q (.int b.length) H):=by
 intro dA s Z H g k Q I r h;obtain⟨p,b,rfl,c,q⟩:=h;obtain⟨u,rfl,i⟩:=aAv r;cases i;have l:=JL;rcases c with c | c
 ·obtain⟨d,e,f,j⟩:=I.list c;have a:=e.length;exact Calls.call_len_list f.isList (by simp only[DC]<;>lia) ⟨.int b.length,H,I.tok _,⟨s.toks+1,by rw[DC,a]⟩,q⟩
 ·obtain⟨d,e,f,j⟩:=I.tuple c;have a:=e.length;exact len_tuple f (by simp only[DC]<;>lia) ⟨.int b.length,H,I.tok _,⟨s.toks+1,by rw[DC,a]⟩,q⟩
def vl:UD X (.builtin "len") (λa H Q=>∃z,a=[.str z]/\z.length<=sizeLine/\Q (.int z.length) H):=by
 intro dA s Z H a b Q I r h;obtain⟨z,rfl,c,q⟩:=h;obtain⟨u,rfl,t,rfl⟩:=aAv r;have d:=JL;exact len_str (by lia) ⟨.int z.length,H,I.tok _,⟨_,rfl⟩,q⟩
def X4:UD X (.type "list") (λy H Q=>∃p d,y=[.ref p]/\(qB X.K H p d\/pC X.K H p d)/\∀l,H l=eA->Q (.ref l) (EA H l (.l d))):=by
 intro dA s Z H y B Q I r h;obtain⟨p,d,rfl,i,q⟩:=h;obtain⟨u,rfl,A⟩:=aAv r;cases A
 have fin:∀(a:List gA),aAd d a->d.length<=sizeLine->∀(c:XB) (f:Nat),(∀b z,s.heap.get? b=aA z->c.get? b=aA z) ->
   c.get? s.heap.objs.size=aA { cls:=.type "list",dict:=eA,data:=.seq a.toArray f,slots:=#[] }->EP X dA Z Q (.ref s.heap.objs.size) { s with heap:=c }:=λa g j c f k e =>
  ⟨.ref s.heap.objs.size,_,I.laid (t':=s.toks) k (oB _) (show WE X.prog X.w _ c _ (.l d) from⟨j,a,f,g,e⟩),rfl,q _ (I.aB.fresh (oB _))⟩
 rcases i with i | i
 ·obtain⟨a,g,t,j⟩:=I.list i;have m:=g.length;obtain⟨o,v,x,n,hd⟩:=t.isList;exact call_list_seq p (.inl rfl) v x hd (λc f k e=>fin a g j c f k e) (by simp only[DC]<;>lia)
 ·obtain⟨a,g,t,j⟩:=I.tuple i;have m:=g.length;obtain⟨o,v,x,n,hd⟩:=t;exact call_list_seq p (.inr rfl) v x hd (λc f k e=>fin a g j c f k e) (by simp only[DC]<;>lia)
def Z4:UD X (.type "tuple") (λj H Q=>∃p c,j=[.ref p]/\((qB X.K H p c/\∀l,H l=eA->Q (.ref l) (EA H l (.t c)))\/(pC X.K H p c/\Q (.ref p) H))):=by
 intro dA s Z H j y Q I r h;obtain⟨p,c,rfl,h⟩:=h;obtain⟨u,rfl,t⟩:=aAv r;cases t;rcases h with ⟨f,q⟩ | ⟨f,q⟩
 ·obtain⟨a,g,i,k⟩:=I.list f;have m:=g.length;refine call_tuple_list i.isList (λd v=>?_) (by simp only[DC]<;>lia);have n:kA X dA Z H { s with heap:=d }:=I.kept (t':=s.toks) v
  have x:kA X dA Z (EA H d.objs.size (.t c)) { s with heap:=d.push { cls:=.type "tuple",data:=.seq a.toArray } } :=
   n.laid (t':=s.toks) (λb o e=>aD _ e) (oB _) (show WE X.prog X.w _ _ _ (.t c) from⟨k,a,g,D3 _ _⟩)
  exact⟨.ref d.objs.size,_,x,rfl,q _ (n.aB.fresh (oB _))⟩
 ·obtain⟨a,g,i,k⟩:=I.tuple f;exact call_tuple_same i ⟨.ref p,H,I,rfl,q⟩
def ZZ(K:jA)(T:String)(x:V)(H:Hp):Prop:=match x with
 |.str _=>T="str"
 |.int _=>T="int"
 |.ref p=>(T="list"/\∃b,qB K H p b)\/(T="tuple"/\∃o,K.lookup p=aA o/\o.cls=.type "tuple"/\o.dict=eA) \/
   (T="dict"/\∃a,H p=aA (.dK a))\/(T="set"/\∃S n,H p=aA (.set S n))
 |_=>False
def ae(I:kA X dA Z H s)(r:aAf x v)(ty:ZZ X.K T x H) :
  s.TypeIs v T/\∀a,v=.ref a->∃f,s.heap.get? a=aA f/\f.dict=eA:=by
 cases x with
 |str z =>
  obtain⟨t,rfl⟩:=r;cases (show T="str" from ty);exact⟨TN s z t,λ_ e=>nomatch e⟩
 |int i =>
  obtain⟨t,rfl⟩:=r;cases (show T="int" from ty);exact⟨A3 s i t,λ_ e=>nomatch e⟩
 |ref p =>
  cases r;rcases ty with ⟨rfl,m,h⟩ | ⟨rfl,o,b,j,hd⟩ | ⟨rfl,b⟩ | ⟨rfl,S,n,b⟩
  ·obtain⟨k,_,g,_⟩:=I.list h;refine⟨g.isList.typeIs,λa e=>?_⟩;cases e;obtain⟨o,n,e,c,hd,_⟩:=g;exact⟨o,e,hd⟩
  ·refine⟨⟨o,I.wD p o b,j⟩,λa e=>?_⟩;cases e;exact⟨o,I.wD _ o b,hd⟩
  ·have z:∃o,s.heap.get? p=aA o/\o.ExactDict:=by
    obtain⟨l,b⟩:=b;obtain⟨_,_,_,_,o,_,_,e,ex,_⟩:=I.aB p _ b;exact⟨o,e,ex⟩
   obtain⟨o,e,ex⟩:=z;refine⟨⟨o,e,ex.1⟩,λa d=>?_⟩;cases d;exact⟨o,e,ex.2.1⟩
  ·obtain⟨o,_,_,_,e,ex,_⟩:=I.aB p _ b;refine⟨⟨o,e,ex.1⟩,λa d=>?_⟩;cases d;exact⟨o,e,ex.2.1⟩
 |_=>exact GG ty
def pFa(K:jA)(T:String)(r:V->List V->Hp->VK->Prop)(b:TE):TE:=λZ H Q=>b Z H λx a=>ZZ K T x a/\r x [] a Q
def tBM(K:jA)(T:String)(r:V->List V->Hp->VK->Prop)(b:TE)(t:TA):TE:=λZ H Q=>b Z H λx a=>ZZ K T x a/\t Z a λc d=>r x c d Q
variable{T id:String}
def N9(f:PlainAttrs T)(slot:Slot T name id)(c:typeOf (.builtin id)=pure (.type "method_descriptor"))(g:rQ X id r)(i:PE X o j)
  (a:attributeBase o name X.env (eval o X.env)=eval o X.env:=by rfl) (b:(MA.endLine==XJ.line)=bA:=by rfl):PE X (.Call (.Attribute o name MA) [] [] XJ) (pFa X.K T r j):=by
 intro dA s Z H Q I h;refine wpAny_Call_method0_late a b (RA (i dA s Z H _ I h) λv k l=>?_);obtain⟨x,m,d,e,ty,n⟩:=l;obtain⟨p,q⟩:=ae d e ty;exact⟨T,id,f,slot,c,p,q,Calls.callWith_builtin rfl (PySem.evalArgs_none (g dA k Z m x [] v [] Q d e .nil n))⟩
def gP(n:PlainAttrs T)(slot:Slot T name id)(i:typeOf (.builtin id)=pure (.type "method_descriptor"))(p:rQ X id r)(q:PE X o u)(w:PA X (e::c) t)
  (d:attributeBase o name X.env (eval o X.env)=eval o X.env:=by rfl)
  (g:((IE XJ (eC (e::c) X.env)).all (λx=>!x.1)&&(backToKw XJ (keywordEach [] X.env)).all (λx=>x.1.isSome)
   && decide ((e::c).length+([]:List jU).length+(if([]:List jU).isEmpty then 0 else 1)<30))=bA:=by rfl)
  (f:(MA.endLine==XJ.line)=bA:=by rfl) (y:eC (e::c) X.env=(cA,eval e X.env)::eC c X.env:=by rfl) (b:(IE XJ (eC c X.env)).any (·.1)=cA:=by rfl) :
  PE X (.Call (.Attribute o name MA) (e::c) [] XJ) (tBM X.K T r u t):=by
 intro dA s Z H Q I h;refine wpAny_Call_method_late d g f rfl (RA (q dA s Z H _ I h) λv z j=>?_);obtain⟨x,A,k,l,ty,B⟩:=j;obtain⟨C,F⟩:=ae k l ty;refine⟨T,id,n,slot,i,C,F, ?_⟩;have m:=w XJ dA z Z A _ k B;rw[y] at m ⊢;refine Calls.callWith_builtin (by show(cA||(IE XJ (eC c X.env)).any (·.1))=cA;rw[b]<;>rfl) (Calls.evalArgs_plain ?_);exact RA m λJ M j=>(by obtain⟨N,O,P,R,U⟩:=j;exact p dA M Z O x N v J Q P l R U)
end
def wM(X:Cx)(id:String)(r:V->List V->Hp->VK->Prop):Prop :=
 ∀(dA:List (lA×AB)) (s:HA) (Z:St) (H:Hp) (x:V) (a:List V) (v:gA) (b:List gA) (Q:VK),kA X dA Z H s->aAf x v->aAd a b->r x a H Q ->
  JA (model X.prog X.w) X.A (call (.builtin id) (v::b)) (EP X dA Z Q) X.xe s
def aAd.one{x:V}{j:List gA}(h:aAd [x] j):∃u,j=[u]/\aAf x u:=by
 cases h with | cons r t=>cases t;exact⟨_,rfl,r⟩
def aAd.two{x y:V}{j:List gA}(h:aAd [x,y] j):∃u v,j=[u,v]/\aAf x u/\aAf y v:=by
 cases h with | cons r t=>obtain⟨_,rfl,q⟩:=aAd.one t;exact⟨_,_,rfl,r,q⟩
theorem aAd.zero:∀{j:List gA},aAd [] j->j=[]
 |_,.nil=>rfl
theorem aAd.dropLast(h:aAd j k):aAd j.dropLast k.dropLast:=by
 induction h with
 |nil=>exact .nil
 |cons r t m =>
  cases t with
  |nil=>exact .nil
  |cons q u=>exact .cons r m
theorem aAd.rep(h:aAd j m):∀k:Nat,aAd (CB k j).flatten (CB k m).flatten
 | 0=>.nil
 |k+1=>by(rw[DK,DK,iM,iM];exact aAd.append h (aAd.rep h k))
def Cn(l:List O):l.eraseIdx (l.length-1)=l.dropLast:=by
 induction l with
 |nil=>rfl
 |cons a r c =>
  cases r with
  |nil=>rfl
  |cons b r =>
   have e:(a::b::r).length-1=((b::r).length-1)+1:=by
    have d:(a::b::r).length=r.length+2:=rfl;have f:(b::r).length=r.length+1:=rfl
    lia
   rw[e,List.eraseIdx_cons_succ,c]
   all_goals rfl
theorem aAO(a:List gA):∀(k:Nat) (b:List gA),
  B3 (λc d=>c++d) b.toArray (CB k a.toArray)=(b++(CB k a).flatten).toArray
 | 0,b=>by simp
 |k+1,b=>by
  have e:b.toArray++a.toArray=(b++a).toArray:=by simp
  have f:(b++a)++(CB k a).flatten=b++(CB (k+1) a).flatten:=by(rw[DK,iM,BJ])
  rw[<- f,<- aAO a k (b++a),<- e,DK,DJ]
section
variable{X:Cx}{dA:List (lA×AB)}{Z:St}{H:Hp}{s:HA}{l b:lA}{xs ys zs:List V}
def kA.DY{j its':List gA}(I:kA X dA Z H s)(k:H l=aA (.l xs))
  (e:s.heap.get? l=aA { cls:=.type "list",data:=.seq j.toArray n }) (m:f j.toArray=its'.toArray) (y:aAd ys its') (z:ys.length<=sizeLine) :
  kA X dA Z (EA H l (.l ys)) { s with heap:=s.heap.update l (mQ f),toks:=t' }:=by
 have q:=PySem.IsL.update e f;rw[m] at q;refine I.write (x:=l) (e:=l) (by rw[k];exact trivial) (.inl rfl) (λC u B hu=>(Pe s.heap (mQ f) (qF B)).trans hu) ⟨_,q⟩ ?_;exact⟨z,its',_,y,q⟩
def kA.AY(I:kA X dA Z H s)(j:aAd ys gG)(k:ys.length<=sizeLine) :
  kA X dA Z (EA H s.heap.objs.size (.l ys)) { s with heap:=s.heap.push { cls:=.type "list",data:=.seq gG.toArray },toks:=t' } :=
 I.laid (λ_ _ q=>aD _ q) (oB _) ⟨k,gG,0,j,NF _ rfl⟩
theorem kA.fresh(I:kA X dA Z H s):H s.heap.objs.size=eA:=I.aB.fresh (oB _)
def kA.YO(I:kA X dA Z H s)(k:H l=aA (.l xs)):xs.length<=sizeLine/\∃(j:List gA) (n:Nat),aAd xs j/\xs.length=j.length/\s.heap.get? l=aA { cls:=.type "list",data:=.seq j.toArray n }:=by
 obtain⟨z,j,n,r,e⟩:=I.aB l _ k;exact⟨z,j,n,r,r.length,e⟩
def n9(h:n<=sizeLine):vT n=cA:=by
 unfold vT;exact ZA (by lia)
end
section
variable{X:Cx}
def xAa:V->List V->Hp->VK->Prop:=λx b H Q=>∃l a y,x=.ref l/\b=[y]/\H l=aA (.l a)/\a.length<sizeLine/\Q .nA (EA H l (.l (a++[y])))
def k9:wM X "list.append" xAa:=by
 intro dA s Z H x g v i Q I c d h;obtain⟨l,j,y,rfl,rfl,b,k,q⟩:=h;cases c;obtain⟨u,rfl,f⟩:=d.one;obtain⟨z,a,n,r,hl,e⟩:=I.YO b;refine JK Xe ⟨_,e,rfl⟩ F.entry_list_append (F.args_list_append_2 _ _) (PySem.list_append l a.toArray n u (by rw[DC];lia)) ⟨e, ?_⟩;refine⟨.nA,_,I.DY (its':=a++[u]) b e (by simp) (r.append (.cons f .nil)) ?_,rfl,q⟩;rw[PB,dM]
 lia
def bBa:V->List V->Hp->VK->Prop:=λx d H Q=>∃l b a c,x=.ref l/\d=[.ref b]/\H l=aA (.l a)/\H b=aA (.l c)/\a.length+c.length<=sizeLine/\Q .nA (EA H l (.l (a++c)))
def Uw:wM X "list.extend" bBa:=by
 intro dA s Z H x y v A Q I i j h;obtain⟨l,b,B,C,rfl,rfl,g,k,J,q⟩:=h;cases i;obtain⟨u,rfl,m⟩:=j.one;cases m;obtain⟨z,c,n,r,hl,e⟩:=I.YO g;obtain⟨K,a,o,p,t,w⟩:=I.YO k;have f:c.toArray.size+a.toArray.size<=sizeLine:=by rw[DC,DC];lia
 have d:¬(!c.toArray.isEmpty&&vT (c.toArray.size+a.toArray.size))=bA:=by(rw[n9 f,V1];exact JE)
 refine JK Ze ⟨_,e,rfl⟩ F.entry_list_extend (F.args_list_extend_2 _ _)
  (AutoSeq1.list_extend_list_list_0 l c.toArray n b a.toArray o d (by rw[DC];lia) (by lia)) ⟨e,w, ?_⟩
 refine⟨.nA,_,I.DY (its':=c++a) g e (by simp) (r.append p) ?_,rfl,q⟩;rw[PB]
 lia
def eBa:V->List V->Hp->VK->Prop:=λx b H Q=>∃l a y,x=.ref l/\b=[]/\H l=aA (.l a)/\a[a.length-1]?=aA y/\Q y (EA H l (.l a.dropLast))
def Ww:wM X "list.pop" eBa:=by
 intro dA s Z H x k v m Q I f g h;obtain⟨l,o,y,rfl,rfl,d,i,q⟩:=h;cases f;have b:=g.zero;subst b;obtain⟨z,a,n,r,hl,e⟩:=I.YO d;obtain⟨u,hu,j⟩:=r.get i
 have c:a.toArray[a.toArray.size-1]?=aA u:=by(show a.toArray[a.length-1]?=aA u;rw[<- bf,<- hl];exact hu)
 refine JK Af ⟨_,e,rfl⟩ F.entry_list_pop (F.args_list_pop_1 _) (MeetsSeq.list_pop_last l a.toArray n u c (by rw[DC];lia)) ⟨e, ?_⟩;refine⟨y,_,I.DY (its':=a.dropLast) d e ?_ r.dropLast ?_,j,q⟩
 ·show a.toArray.eraseIdxIfInBounds (a.toArray.size-1)=a.dropLast.toArray;rw[DC,List.eraseIdxIfInBounds_toArray,Cn]
 ·rw[List.length_dropLast]
  lia
def fBa:R2:=λx y H Q=>∃l k a,x=.ref l/\y=.int k/\H l=aA (.l a)/\-(2 ^ 63)<=k/\k<2 ^ 63/\a.length*k.toNat<=sizeLine /\
 ∀p,H p=eA->Q (.ref p) (EA H p (.l (CB k.toNat a).flatten))
def aA3(a:List O)(k:Nat):(CB k a).flatten.length=k*a.length:=by
 induction k with
 |zero=>simp
 |succ k b=>rw[DK,iM,PB,b,P2,Nat.add_comm]
def zz:RB X (zD .Mult) fBa:=by
 intro dA s Z H x y v u Q I w A h;obtain⟨l,k,N,rfl,rfl,B,C,J,p,q⟩:=h;cases w;obtain⟨t,rfl⟩:=A;obtain⟨z,b,n,r,hl,e⟩:=I.YO B;have d:b.toArray.size*k.toNat<=sizeLine:=by rw[DC,<- hl];exact p
 have f:¬b.toArray.size*k.toNat > (2 ^ 63-1) / 8:=by
  have:(sizeLine:Nat)<=(2 ^ 63-1) / 8:=by decide
  lia
 have g:¬(!Builtin.List.listFitsIndex k)=bA:=by(rw[fitsIndex_both C J];exact JE)
 have c:¬vT (b.toArray.size*k.toNat)=bA:=by(rw[n9 d];exact JE)
 have i:B3 (λj o=>j++o) #[] (CB (if b.toArray.isEmpty=bA then 0 else k.toNat) b.toArray)=(CB k.toNat b).flatten.toArray:=by
  have K:∀m:Nat,B3 (λj o=>j++o) #[] (CB m b.toArray)=(CB m b).flatten.toArray:=λm=>by
   have:=aAO b m []
   rw[UT] at this;exact this
  rw[K]
  cases b with
  |nil=>simp
  |cons a O=>rw[pB (by simp)]
 refine wpAny_binaryOp_repeat_ref (T:="list") (U:="int") (by decide) ⟨_,e,rfl⟩ (λM=>A3 M k t) noFill_list_mul F.fills_int_mul Yf repeat_list F.slot_int_index.lookup
  (JK Yf (A3 s k t) F.entry_int_rmul (F.args_int_rmul_2 _ _) (int___rmul___int_list k t l b.toArray n)
   ⟨e,rfl,⟨_,e,rfl⟩,JK F.slot_list_mul ⟨_,e,rfl⟩ F.entry_list_mul (F.args_list_mul_2 _ _) (AutoListH.list___mul___list_int_3 l b.toArray n k t g f c) ⟨e, ?_⟩⟩)
 rw[i];exact⟨.ref _,_,I.AY (t':=s.toks) (r.rep k.toNat) (by rw[aA3,Nat.mul_comm];exact p),rfl,q _ I.fresh⟩
end
end L2
namespace Att
open PySem PySem.W PySem.Calls PyProof.Rows
def Kr:∀(c:List Int) (d:List gA),WellAll P h d (c.map WData.int)->VN d c:=by
 intro c
 induction c with
 |nil =>
  intro d w;rw[HJ] at w;cases w;exact .nil
 |cons n c e =>
  intro d w;rw[HC] at w
  cases w with
  |cons a b =>
   cases a;exact .cons _ _ (e _ b)
def bDa{l:lQ}(s:l.most=aA n)
  (c:l.row.toRowW.claim.pre args=bA) (k:WellAll P h e args) :
  ∃a o b,e=[Value.ref a]/\args=[WData.list (b.map WData.int)]/\h.get? a=aA { cls:=.type "list",data:=.seq o.toArray }/\VN o b/\b.length<=n:=by
 have m:WShape.hasAll [] args [.list .int]=bA:=(pre_splitW c).1;have p:l.pre.holds [] { args:=args }=bA:=(pre_splitW c).2;obtain⟨d,r,rfl,t,u⟩:=hasAllW_cons m;obtain rfl:=hasAllW_nil u;obtain⟨A,rfl,v⟩:=hasW_list t;obtain⟨b,rfl⟩:=items_int v
 have f:b.length<=n:=by
  unfold OpenLaw.pre at p
  have i:(WTm.not (.lt (.lit (.int (n:Int))) (.len (.arg 0)))).holds [] { args:=[.list (b.map .int)] }=bA:=by(have i:=(holds_andW p).1;rw[s] at i;exact i)
  have j:=condW_of i (w_not (w_lt w_lit (w_len_list (w_arg rfl))));rw[pA] at j;refine N1 λq=>?_
  have w:(n:Int)<((b.length:Nat):Int):=by omega
  first
   | (rw[rB w] at j;exact absurd j (by decide))
   | (simp at j;omega)
 cases k with
 |cons x y =>
  cases y
  cases x with
  |list z g=>exact⟨_,_,b,rfl,rfl,z,Kr b _ g,f⟩
def Y_(l:lQ)(args:List WData):l.row.toRowW.claim.post args (.bool bA) args=bA :=
 postW_of (r:=l.row.toRowW) (X:=(bA==bA))
  (show xg [] (.bool bA) .bool=bA by first | rfl | decide | simp[xg,WShape.arms,WShape.armsAll])
  (show(WTm.eq .res (.lit (.bool bA))).value [] { args:=args,res:=aA (.bool bA),after:=args }=aA (.bool (bA==bA)) from w_eq_bool (w_res rfl) w_lit) rfl
def aj{l:lQ}
  (F:l.most=aA n) (u:d.params.defaults=[])
  (call:∀(w:WC) (s₀ b:HA) (mg v:fA->Option gA) (i:lA) (o:AB) (pm p c:gA) (a:lA) (h:List gA) (s:List Int),
   Ground q e [] H w s₀ mg v b.heap->I w b.heap ->
   b.heap.get? i=aA o->o.data=.func (docDef d.name d.params d.body d.scope pm p c)->b.heap.CodeRec p d.name->mg d.name=aA (.ref i) ->
   b.heap.get? a=aA { cls:=.type "list",data:=.seq h.toArray }->VN h s->s.length<=n->b.gens=#[] ->
   NK (model l.prog w) callerA (.call (.ref i) ⟨[.ref a],[]⟩) (λr t=>r=.ok (.ret (.bool bA))/\OldK b.heap t.heap/\t.os=b.os/\LJ t.gens) b) :
  i3 q e H I l.row.toRowW d [] (λf h=>C3 f h):=by
 intro w s₀ b mg v G Y i o pm p c J kV K hd x A y M args B as j C N z O;obtain rfl:J=.none:=Dflts.none A u;obtain rfl:kV=.none:=Dflts.noKw A;obtain⟨a,h,s,rfl,rfl,k,g,m⟩:=bDa F j z;refine enter_call (SN (call w s₀ b mg v i o pm p c a h s G Y K (fd_plain hd) x y k g m M) λr t P=>?_);obtain⟨rfl,Q,R,U⟩:=P;exact⟨.inl ⟨.bool bA,.bool bA,[],rfl,λ_=>rfl,.bool bA,Y_ l _,λ_=>⟨List.Pairwise.nil,λ_ X=>(nomatch X)⟩⟩,Q,R,U⟩
end Att
namespace L2
open PySem PySem.Spec PyProof.Rows
def mHa(h:VN a b):aAd (b.map V.int) a:=by
 induction h with
 |nil=>exact .nil
 |cons n t h c=>exact .cons ⟨t,rfl⟩ c
def EU(H:Hp):Prop:=∀b,H b=eA\/∃o a,H b=aA (.BE o (.l a))
def Bv{K:jA}
  (KX:K.In c.heap) (l:c.heap.Ns uB mg) (f:c.heap.Ns builtinsNs Y) (O:∀x:fA,x≠"__name__"->Y x=AI x) (p:c.heap.NoLimit) (hg:c.gens=#[])
  (N:c.heap.get? a=aA { cls:=.type "list",data:=.seq vs.toArray }) (Z:VN vs ns) (hl:ns.length<=sizeLine) (hr:oC k callerA)
  (F:∀base:XB,K.In base->base.Ns uB mg->sE P w K mg base CX k fa fd [x] sp) (j:∀(s:HA) (u:gA),iU s fd ⟨[u],[]⟩ [(x,u)])
  (Q:∀H:Hp,EU H->qB K H a (ns.map V.int)->sp [.ref a] H (λv _=>v=.bl bA) λ_ _ _=>False)
  (R:∀H e g,CX [] H c (λ_ _ _=>False) e g->False) :
  NK (model P w) callerA (.call (.ref fa) ⟨[.ref a],[]⟩) (λr g=>r=.ok (.ret (.bool bA))/\OldK c.heap g.heap/\g.os=c.os/\LJ g.gens) c:=by
 have rv:=mHa Z;have t:=Z.length
 -- from an abstract heap in aKa nothing but oD script may be tracked
 have core:∀H:Hp,EU H->qB K H a (ns.map V.int)->eD P w H c.heap->(∀b,H b≠eA->b=a)->(H a≠eA->K.lookup a=eA) ->
   NK (model P w) callerA (.call (.ref fa) ⟨[.ref a],[]⟩) (λr g=>r=.ok (.ret (.bool bA))/\OldK c.heap g.heap/\g.os=c.os/\LJ g.gens) c:=by
  intro H hO hS y hA hK;have base_of:∀{b:lA} {o:AB},c.heap.get? b=aA o->H b=eA->(eJ c.heap H).get? b=aA o:=λe n=>Sq e n
  have U:∀{b:lA} {o:AB} {A:Array UN} {B:Nat},c.heap.get? b=aA o->o.data=.dict A B->H b=eA:=λ{b o A B} e d=>by
   cases q:H b with
   |none=>rfl
   |some u =>
    have X:b=a:=hA b (by rw[q];simp);subst X;rw[N] at e;cases e;have d':Data.seq vs.toArray _=Data.dict A B:=d;cases d'
  have i:∀{b:lA} {m:fA->Option gA},c.heap.Ns b m->(eJ c.heap H).Ns b m:=λ{b m} ⟨o,A,B,e,d,r⟩=>⟨o,A,B,base_of e (U e d),d,r⟩
  have C:K.In (eJ c.heap H):=λb o e=>base_of (KX b o e) (by
   cases q:H b with
   |none=>rfl
   |some u =>
    have X:b=a:=hA b (by rw[q];simp);subst X
    rw[hK (by rw[q];simp)] at e;cases e)
  have hM:Mod K mg (eJ c.heap H):=⟨C,i l,⟨Y,i f,O⟩,let ⟨mc,h1,h2⟩:=p;⟨mc,i h1,h2⟩⟩
  have e0:WK P w K mg (eJ c.heap H) callerA [] c H:=⟨rfl,hM,λb o e=>Jx e,K2 (Tq _ _),trivial,λb f=>absurd (show b∈([]:List lA) from f) (by simp),y,.of_eq hg⟩
  refine SN ((F _ C (i l)).run callerA [] c H ⟨[.ref a],[]⟩ [.ref a] [.ref a] _ _ hr e0 (j c (.ref a)) (.cons rfl .nil) (Q H hO hS)) λr g h=>?_
  cases r with
  |error e=>exact(R H e g h).elim
  |ok fl =>
   cases fl with
   |next=>exact GG h
   |brk=>exact GG h
   |cont=>exact GG h
   |ret u =>
    obtain⟨v,H',os,I,un,J,r',q⟩:=h;have q':v=.bl bA:=q;subst q';obtain rfl:u=Value.bool bA:=r';refine⟨rfl,OldK.of_keep λb o e=>?_,os,I⟩
    cases q:H b with
    |none=>exact un.keep b o e q (by intro z;exact absurd (show b∈([]:List lA) from z) (by simp)) (by simp)
    |some u =>
     rcases hO b with z | ⟨ob,xs,z⟩
     ·rw[q] at z;cases z
     ·have z2:=un.cJ b ob _ z;obtain⟨e1,_⟩:=y b _ z;obtain⟨e2,_⟩:=J b _ z2;rw[e] at e1;cases e1;exact e2
 cases hk:K.lookup a with
 |some o =>
  -- oD script is one of oD Jw own objects
  have e:=KX a o hk;rw[N] at e;cases e;refine core (λ_=>eA) (λ_=>.inl rfl) (.inr ⟨_,vs.toArray,_,hk,rfl,rfl,rfl,by rw[DC,t];exact hl,by simpa using rv⟩) (λb u z=>by have M:(eA:Option HO)=aA u:=z;cases M) (λb z=>absurd rfl z) λz=>absurd rfl z
 |none =>
  refine core (λb=>if b=a then aA (.BE { cls:=.type "list",data:=.seq vs.toArray } (.l (ns.map V.int))) else eA) (λb=>?_) (.inl (.inr ⟨{ cls:=.type "list",data:=.seq vs.toArray },QA rfl⟩)) (λb u z=>?_) (λb z=>?_) λ_=>hk
  ·by_cases f:b=a
   ·exact .inr ⟨_,_,QA f⟩
   ·exact .inl (pB f)
  ·by_cases f:b=a
   ·have M:=(QA f).symm.trans z;cases M;subst f;exact⟨N,by rw[pA];exact hl,vs,_,rv,N⟩
   ·have M:=(pB f).symm.trans z;cases M
  ·by_cases f:b=a
   ·exact f
   ·exact absurd (pB f) z
abbrev mB{K:jA}{h:XB}(_:K.In h):jA:=K
def oHa{l:lQ}{K:nQ->jA}{CX:WC->TK}{sp:WC->Sp}{x:fA}
  (M:l.most=aA n) (r:n<=sizeLine) (t:d.params.defaults=[]) (N:oC k callerA)
  (O:∀(w:WC) (h:XB),P w h->(K w.params).In h)
  (F:∀(w:WC) (mg:fA->Option gA) (m:lA) (h:XB),(K w.params).In h->h.Ns uB mg->mg d.name=aA (.ref m) ->
   ∃y:pF,(∀(s:HA) (u:gA),iU s y ⟨[u],[]⟩ [(x,u)]) /\
    ∀base:XB,(K w.params).In base->base.Ns uB mg->sE l.prog w (K w.params) mg base (CX w) k m y [x] (sp w))
  (z:∀(w:WC) (H:Hp) (a:lA) (p:List Int),p.length<=n->EU H->qB (K w.params) H a (p.map V.int)->sp w [.ref a] H (λv _=>v=.bl bA) λ_ _ _=>False)
  (A:∀(w:WC) (H:Hp) (s:HA) (e:gA) (B:HA),CX w [] H s (λ_ _ _=>False) e B->False) :
  i3 q C XP P l.row.toRowW d [] (λf J=>C3 f J):=by
 refine Att.aj M t λw s₀ Q mg mb m o pm cd R a J p G Y ho hd U I j i c X=>?_
 have KX:=O w _ Y;obtain⟨y,Z,hF⟩:=F w mg m _ KX G.T.g I;exact Bv KX G.T.g G.T.b G.T.builtins G.T.nolimit X j i (KC c r) N hF Z (λH hO hS=>z w H a p c hO hS) λH e B=>A w H Q e B
noncomputable def vG(s:cB):Arguments:=match s with
 |.FunctionDef _ a _ _ _ _ _ _ _ _=>a
 |_=>{ posonlyargs:=[],args:=[],vararg:=eA,kwonlyargs:=[],kw_defaults:=[],kwarg:=eA,defaults:=[] }
noncomputable def uD(s:cB):List cB:=match s with
 |.FunctionDef _ _ b _ _ _ _ _ _ _=>b
 |_=>[]
noncomputable def UB(s:cB):rF:=match s with
 |.FunctionDef _ _ _ _ _ _ a _ _ _=>a
 |_=>{ kind:=.function,names:=[],isGenerator:=cA,isCoroutine:=cA }
abbrev uF:TK:=λ_ _ _ _ _ _=>False
abbrev E0:XK:=λ_ _ _=>False
def fP:aAB uF X E0:=λ_ _ _ _ _ _ _ h=>h.elim
structure OI(K:jA)(x cD:fA)(st:cB)(f:lA)(fd:pF):Prop where
 ex:∃(oc:gA) (od:Option lA) (kV doc pm:gA) (an:Option lA) (bG ct:gA) (QL:Array (Option gA)),
  fd=nG x cD (vG st) (uD st) (UB st) .none kV doc pm an bG ct/\K.lookup f=aA ⟨oc,od,.func fd,QL⟩/\mM K bG cD=bA
 kp:JG K (.ref f)=bA
section
variable{P:oE}{w:WC}{K:jA}{mg:fA->Option gA}{base:XB}
def OI.ok{st:cB}(F:OI K x m st f J)(S:RJ N C (UB st))(len:∀u H Q E,I u H Q E->u.length=C.length)
  (y:∀(j:gA) (A:oG) (outer:List Env) (s:HA) (H:Hp) (u:List V) (Q:VK) (E:XK),oC k (A.deeper (envOfC m (UB st) s.heap.objs.size f j))->I u H Q E ->
   ∃t,bD (cI uF P w K mg base N m (UB st) f j A outer s H E).pN (uD st) t/\t { nx:=λ_ M=>Q .nA M,rt:=Q } (start N u) H):sE P w K mg base uF (k+1) f J C I:=by
 obtain⟨oc,od,kV,O,pm,an,j,ct,R,rfl,U,z⟩:=F.ex;refine Dp U z S len λA outer s H u Q E X B=>?_
 obtain⟨t,h,q⟩:=y j A outer s H u Q E X B;exact⟨t,h.pN,q⟩
def OI.binds{st:cB}(F:OI K x m st f z)
  (h:∀(kV j pm:gA) (an:Option lA) (k ct:gA) (u:List gA),u.length=y.length->bindArgs (nG x m (vG st) (uD st) (UB st) .none kV j pm an k ct) ⟨u,[]⟩=pure (y.zip u)):aAr K z y []:=by
 obtain⟨oc,od,kV,j,pm,an,k,ct,B,rfl,H,C⟩:=F.ex;exact .all (h kV j pm an k ct)
def FO{st:cB}{kV d pm b ct:gA}(l:K.lookup f=aA ⟨oc,od,.func (nG x a (vG st) (uD st) (UB st) .none kV d pm g b ct),e⟩)
  (c:mM K b a=bA) (k:JG K (.ref f)=bA):OI K x a st f (nG x a (vG st) (uD st) (UB st) .none kV d pm g b ct):=⟨⟨oc,od,kV,d,pm,g,b,ct,e,rfl,l,c⟩,k⟩
end
def FL{A B:Prop}(h:B):if cA=bA then A else B:=by
 rw[pB JE];exact h
def GL{A B:Prop}(h:A):if bA=bA then A else B:=by
 rw[QA rfl];exact h
def VA(H a:Hp):Prop:=∀b o,H b=aA o->a b=aA o
def VA.refl(H:Hp):VA H H:=λ_ _ h=>h
def VA.trans(a:VA H j)(b:VA j k):VA H k:=λc o h=>b c o (a c o h)
def VA.free(e:VA H j)(h:j l=Option.none):H l=Option.none:=by
 cases q:H l with
 |none=>rfl
 |some o =>
  rw[e l o q] at h;cases h
def VA.seq{K:jA}(e:VA H j)(h:qB K H a k):qB K j a k:=by
 rcases h with (h | ⟨o,h⟩) | h
 ·exact .inl (.inl (e _ _ h))
 ·exact .inl (.inr ⟨o,e _ _ h⟩)
 ·exact .inr h
end L2
set_option maxHeartbeats 4000000
namespace L2
open PySem PySem.Spec PyProof.Rows
abbrev zM:=Int×List Int
section
variable{P:oE}{w:WC}{A:oG}{E:gA->HA->Prop}{s:HA}{h:XB}
abbrev YK:=zM ⊕ Empty
noncomputable def gk:YK->zM:=Sum.elim id Empty.elim
end
abbrev GU:=List (YK×lA×gA)
noncomputable def Dq(k:zM):Int:=reduceHash (Fe [hashInt k.1,reduceHash (Fe (k.2.map hashInt))])
def hS(k:YK):Int:=Dq (gk k)
def Nm(x:YK×lA×gA):UN:={ hash:=hS x.1,key:=.ref x.2.1,val:=x.2.2 }
def nU(a:lA)(c:GU)(d:Nat)(h:XB):Prop:=∃o b,h.get? a=aA o/\o.ExactDict/\o.data=.dict b d/\b.toList=c.map Nm
def zg(H:Hp)(a:lA)(b:GU):Prop:=∃c,H a=aA (.ext (nU a b c))
def ui(K:jA)(H:Hp)(k:zM)(b:lA):Prop:=∃c,pC K H b [.int k.1,.ref c]/\pC K H c (k.2.map V.int)
def Gg(K:jA)(H:Hp)(k:YK)(b:lA):Prop:=ui K H (gk k) b
structure DS(K:jA)(H:Hp)(a:lA)(xs:GU):Prop where
 at_:zg H a xs
 nd:(xs.map (·.1)).Nodup
 len:xs.length<=sizeLine
 sm:(a==sysModules)=cA
 keys:∀x∈xs,Gg K H x.1 x.2.1
def nU.ty{s:HA}(h:nU a j k s.heap):s.TypeIs (.ref a) "dict":=let ⟨o,_,h1,h2,_⟩:=h;⟨o,h1,h2.1⟩
end L2
namespace L2
open PySem PySem.Spec PyProof.Rows
section
variable{e st:zA}
def aAd.rev(r:aAd j k):aAd j.reverse k.reverse:=by
 induction r with
 |nil=>exact .nil
 |cons m x u =>
  rw[MT,MT];exact u.append (.cons m .nil)
end
end L2
namespace CI
open PySem PySem.Spec PyProof.Rows L2
set_option tactic.hygienic true
abbrev C4:List gA:=[.type "ValueError",.type "Exception",.type "BaseException",.type "object"]
def oU(K:jA)(C:lA)(i:Option gA):Prop:=∃(a:List gA) (N:lA),(∀v,D2 K C v=aA ((Value.ref C::a).contains v)) /\
  ∀{h:XB},K.In h->∃(b c:fA) (bs:List gA) (hd:Bool) (d:List fA) (sub:List gA) (e:Bool) (col:Option Bool) (f:Option lA) (g j k l m:Option gA),
   h.get? C=aA (excClassObj b c C N bs a hd d sub e col f g j k l m "ValueError.__new__")/\h.Ns N (h.nsMap N)/\h.nsMap N "__init__"=i/\OwnTail h C4 a
end CI
namespace CI
set_option tactic.hygienic true
open PySem PySem.Spec PySem.Calls PyProof.Rows L2 PySem.W PySem.Builtin PySem.Builtin.ObjectAttr PySem.Builtin.Getset_descriptor
structure Ag(K:jA)(C:lA):Prop where
 q:∃i,oU K C i
 ga:findIn K (.ref C) "__getattribute__"=aA (aA (.builtin "BaseException.__getattribute__"))
 no:findIn K (.ref C) "__getattr__"=aA eA
 cl:findIn K (.ref C) "__class__"=aA (aA (.builtin "object.__class__"))
 gt:specialIn K (.builtin "object.__class__") "__get__"=aA (aA (.builtin "getset_descriptor.__get__"))
 tk:takesIn K (.builtin "object.__class__")=aA bA
 mo:mroIn K C (.type "object")=aA bA
 mb:mroIn K C (.type "BaseException")=aA bA
 mv:mroIn K C (.type "ValueError")=aA bA
end CI
namespace CI
set_option tactic.hygienic true
open PySem PySem.Spec PyProof.Rows L2
section
open PySem.W PySem.Builtin PySem.Builtin.ObjectAttr
variable{prog:oE}{w:WC}{A:oG}{E:gA->HA->Prop}{s:HA}{K:jA}{x C:lA}
noncomputable def yHa:List gA->Bool
 |.ref _::r=>yHa r
 |l=>l==C4
end
end CI
namespace CI
set_option tactic.hygienic true
open PySem PySem.Spec PyProof.Rows L2
end CI
namespace L2
set_option tactic.hygienic true
open PySem PySem.Spec PyProof.Rows
end L2
namespace CI
set_option tactic.hygienic true
open PySem PySem.Spec PyProof.Rows L2
end CI
namespace L2
set_option tactic.hygienic true
open PySem PySem.Spec PyProof.Rows
noncomputable def wU(x:fA):It:=⟨λi _=>i<x.cps.size,λi H v a=>a=H/\∃c,x.cps[i]?=aA c/\v=.str ⟨#[c]⟩,λi _=>x.cps.size<=i⟩
def aHa{K:jA}(g:lA)(x:fA)(t:Tok):Turn P w K Q (wU x) [g] g (λi h=>h.IsStrIter g "str_ascii_iterator" x t i) where
 mem:=ME.mpr rfl
 obj:=λi h st b a=>by(obtain rfl:=ME.mp a;obtain⟨o,e,c,d⟩:=st;exact⟨o,e,λv z=>by rw[d] at z;cases z⟩)
 keep:=λi h l st k=>let ⟨o,J,r⟩:=st;⟨o,k g (ME.mpr rfl) o J,r⟩
 item:=by
  intro X n p q C i dA s Z H E I m st f;subst n p q;obtain⟨u,f1,f2,y,A,B⟩:=m g (ME.mpr rfl);have f:i<x.cps.size:=f;have F:x.cps[i]?=aA x.cps[i]:=Array.getElem?_eq_getElem f;refine wpAny_pyNext_ascii_item st F λl j M=>?_
  have N:kA X dA Z H { s with heap:=l,toks:=s.toks+1 }:=I.turned (λb o a e=>(M.2 b a).trans e) u f1 y A B;obtain⟨o,e,c,d⟩:=id j;exact⟨_,rfl,JR (s:={ s with heap:=l,toks:=s.toks+1 }) e c d (by decide) ⟨.str ⟨#[x.cps[i]]⟩,H,N,⟨_,rfl⟩,⟨rfl,_,F,rfl⟩,j,λb a=>(m b a).1⟩⟩
 done:=by(intro X n p q C i dA s Z H E I m st f;subst n p q;obtain⟨u,f1,f2,y,A,B⟩:=m g (ME.mpr rfl);have f:x.cps.size<=i:=f;exact wpAny_pyNext_ascii_end (I.ok.hd C) st (Array.getElem?_eq_none f) λl O=>⟨rfl,I.turned (t':=s.toks) (λb o a e=>O b o a e) u f1 y A B⟩)
 self:=λ_ _ _ _ _ st h=>wpAny_pyIter_striter_ascii st h
section
variable{tg:zA}
def W6(a:TE):TI:=λZ H R=>a Z H λv b=>∃x,v=.str x/\x.cps.all (·<128)=bA/\R (wU x) b
def L_{d:TE}(hl:PE X l d):PI X tg l (W6 d):=by
 intro dA s Z H R I h;refine RA (hl dA s Z H _ I h) λv a f=>?_
 obtain⟨y,g,c,i,j⟩:=f;obtain⟨x,rfl,k,q⟩:=j;obtain⟨t,rfl⟩:=i;refine wpAny_pyIter_ascii k ?_;refine⟨a.heap.objs.size,[a.heap.objs.size],_,_,g,rfl,c.kept (t':=a.toks) λb o e=>aD _ e,aHa _ x t,⟨_,NF _ rfl,rfl,rfl⟩,λb m=>?_,q⟩;obtain rfl:=ME.mp m;exact c.fK (oB _) (c.aB.fresh (oB _))
def ql:UD X (.type "int") (λa H Q=>∃x n,a=[.str x]/\aQ x=aA n/\x.length<=640/\Q (.int n) H):=by
 intro dA s Z H a d Q I r h;obtain⟨x,n,rfl,b,c,q⟩:=h;obtain⟨u,rfl,t,rfl⟩:=aAv r;exact PySem.W.KIN.call_text b c ⟨.int n,H,I.tok _,⟨_,rfl⟩,q⟩
def Bl:UD X (.type "str") (λa H Q=>∃x,a=[.str x]/\Q (.str x) H):=by
 intro dA s Z H a b Q I r h;obtain⟨x,rfl,q⟩:=h;obtain⟨u,rfl,t,rfl⟩:=aAv r;exact P.str_of_str ⟨.str x,H,I,⟨_,rfl⟩,q⟩
theorem je:∀{ts:List fA} {a:List gA},aAd (ts.map V.str) a->∃l:List (fA×Tok),a=strValues l/\l.map (·.1)=ts
 |[],_,h=>by cases h;exact⟨[],rfl,rfl⟩
 |t::ts,_,h=>by
  cases h with
  |cons r b =>
   obtain⟨k,rfl⟩:=r;obtain⟨l,rfl,rfl⟩:=je b;exact⟨(t,k)::l,rfl,rfl⟩
theorem kc:∀l:List (fA×Tok),aAd ((l.map (·.1)).map V.str) (strValues l)
 |[]=>.nil
 | (x,t)::l=>.cons ⟨t,rfl⟩ (kc l)
def aA8(K:jA):V->List V->Hp->VK->Prop:=λx b H Q=>∃sep p a,x=.str sep/\b=[.ref p]/\qB K H p (a.map V.str)/\XN sep a=bA/\Q (.str (QB sep a)) H
def Vw:wM X "str.join" (aA8 X.K):=by
 intro dA s Z H x w v y Q I d f h;obtain⟨sep,p,a,rfl,rfl,g,c,q⟩:=h;obtain⟨t,rfl⟩:=d;obtain⟨u,rfl,i⟩:=f.one;cases i;obtain⟨j,m,n,z⟩:=I.list g;obtain⟨l,rfl,r⟩:=je m;exact SC.join n.isList r c λt' k=>⟨.str _,H,I.kept (t':=k) λb o e=>e,⟨_,rfl⟩,q⟩
def nBa:V->List V->Hp->VK->Prop:=λx a H Q=>∃y z,x=.str y/\a=[.str z]/\Q (.bl (UP y z)) H
def Yw:wM X "str.startswith" nBa:=by
 intro dA s Z H x c v d Q I a b h;obtain⟨y,z,rfl,rfl,q⟩:=h;obtain⟨t,rfl⟩:=a;obtain⟨u,rfl,k,rfl⟩:=b.one;exact SC.startswith ⟨.bl _,H,I,rfl,q⟩
def mBa:V->List V->Hp->VK->Prop:=λx a H Q=>∃y z,x=.str y/\a=[.str z]/\(z.length==0)=cA/\y.length<=1000000/\∀l,H l=eA->Q (.ref l) (EA H l (.l ((HE y z).map V.str)))
def Xw:wM X "str.split" mBa:=by
 intro dA s Z H v0 n v p Q I i j h;obtain⟨x,y,rfl,rfl,f,r,q⟩:=h;obtain⟨t,rfl⟩:=i;obtain⟨w,rfl,u,rfl⟩:=j.one;have k:=split_le x y;have m:(1000002:Nat)<=sizeLine:=by decide
 have fin:∀(l:List (fA×Tok)) (a:Nat),l.map (·.1)=HE x y->EP X dA Z Q (.ref s.heap.objs.size) { s with heap:=s.heap.push { cls:=.type "list",data:=.seq (strValues l).toArray },toks:=a }:=λl a e=>by(refine⟨.ref s.heap.objs.size,_,I.laid (t':=a) (o:=.l ((HE x y).map V.str)) (λb A z=>aD _ z) (oB _) ?_,rfl,q _ (I.aB.fresh (oB _))⟩;refine⟨by rw[pA];lia,_,0, ?_,NF _ rfl⟩;rw[<- e];exact kc l)
 have c:x.length<=sizeLine:=by lia
 cases c1:(decide (x.length<y.length)||decide (mf x<mf y)) with
 |true =>
  have e:[(x,t)].map (·.1)=HE x y:=by unfold HE;rw[QA c1];rfl
  exact JK JT (TN _ _ _) E1 (X0 _ _) (meets_str_split_cannot_occur x y t u c1) (fin [(x,t)] s.toks e)
 |false =>
  cases c2:(GN x y 0 x.length (x.length+1)).isEmpty with
  |true =>
   have e:[(x,t)].map (·.1)=HE x y:=by unfold HE;rw[c1,c2];rfl
   exact JK JT (TN _ _ _) E1 (X0 _ _) (meets_str_split_not_found x y t u c1 f c2) (fin [(x,t)] s.toks e)
  |false =>
   have g:HE x y=Je x (GN x y 0 x.length (x.length+1)) y.length:=by unfold HE;rw[c1,c2];rfl
   have d:(Je x (GN x y 0 x.length (x.length+1)) y.length).length<=sizeLine:=by rw[<- g];lia
   refine JK JT (TN _ _ _) E1 (X0 _ _) (meets_str_split_sep x y t u c1 f c2 c d) ?_
   have:=fin (numbered s.toks (HE x y)) (s.toks+(HE x y).length) (numbered_texts _ _)
   rw[g] at this;rw[<- strsFrom_eq] at this;exact this
def kBa:V->Option Int->Option Int->Hp->VK->Prop:=λx lo a H Q=>∃y,x=.str y/\y.length<=1000000/\Q (.str (pM y lo a)) H
def aAT(h:GI v o):∃l:Option (Int×Tok),v=partValue l/\o=l.map (·.1):=by
 cases h with
 |none=>exact⟨eA,rfl,rfl⟩
 |int i t=>exact⟨aA (i,t),rfl,rfl⟩
def aEa:UH X kBa:=by
 intro dA s Z H x v j m lo n sl Q I c d f g h;obtain⟨y,rfl,i,q⟩:=h;obtain⟨t,rfl⟩:=c;obtain⟨l,rfl,rfl⟩:=aAT f;obtain⟨u,rfl,rfl⟩:=aAT g;have a:(1000000:Nat)<=sizeLine:=by decide
 exact⟨"str",_,F.slot_str_getitem.lookup,TN _ _ _,wpAny_getItem_str_slice (st:=eA) d rfl (post_val_or_str ⟨KC (Txt.slice_le y _ _) (KC i a),λt' k=>⟨.str _,H,I.kept (t':=k) λb o e=>e,⟨_,rfl⟩,q⟩⟩)⟩
def vz:RB X (zD .Mult) (λx y H Q=>∃i n,x=.str i/\y=.int n/\MulOk i n/\Q (.str (kU i n)) H):=by
 intro dA s Z H x y v u Q I a c h;obtain⟨i,n,rfl,rfl,d,q⟩:=h;obtain⟨t,rfl⟩:=a;obtain⟨t',rfl⟩:=c;exact SB.mul d λt' k=>⟨.str _,H,I.kept (t':=k) λb o e=>e,⟨_,rfl⟩,q⟩
end
end L2
namespace CI
set_option tactic.hygienic true
open PySem
def qJ{O:Type}{a:O}{p:Prop}(h:eA=aA a):p:=nomatch h
set_option genCtorIdx true in
set_option genInjectivity true in
inductive D where
 |nA
 |bl (b:Bool)
 |int (i:Int)
 |str (x:fA)
 |t (ds:List D)
 |l (ds:List D)
 |ins (c:fA) (ns:List fA) (ds:List D)
 |FQ (n:Nat) (ds:List D)
 deriving Inhabited
inductive RV where
 |sh (d:D) | ow (d:D) | od (d:D)
set_option genCtorIdx true in
set_option genInjectivity true in
gen_injective_theorems% RV
noncomputable def RV.d:RV->D
 |.sh d=>d
 |.ow d=>d
 |.od d=>d
noncomputable def RV.low:RV->RV
 |.od d=>.ow d
 |v=>v
inductive Sl where
 |un | mv | sh (d:D) | ow (d:D) (pin lk:Bool)
set_option genCtorIdx true in
set_option genInjectivity true in
gen_injective_theorems% Sl
noncomputable def Sl.get:Sl->Option D
 |.un=>eA
 |.mv=>eA
 |.sh d=>aA d
 |.ow d _ _=>aA d
structure Exc where
 cls:fA
 num:Option Int
inductive Out(O:Type) where
 |ok (a:O) | ex (e:Exc)
set_option genCtorIdx true in
set_option genInjectivity true in
gen_injective_theorems% Out
abbrev Env:=List Sl
abbrev yA(O:Type):=Option (Out O×Env)
noncomputable def yA.bind(r:yA O)(f:O->Env->yA N):yA N :=
 match r with
 |none=>eA
 |some (.ex e,Y)=>some (.ex e,Y)
 |some (.ok a,Y)=>f a Y
inductive Hd where
 |slot (i:Nat) | val (v:RV)
set_option genCtorIdx true in
set_option genInjectivity true in
gen_injective_theorems% Hd
noncomputable def Hd.get(h:Hd)(Y:Env):Option D :=
 match h with
 |.slot i=>(Y[i]?).bind Sl.get
 |.val v=>aA v.d
noncomputable def getAll:List Hd->Env->Option (List D)
 |[],_=>aA []
 |h::r,Y=>(h.get Y).bind λd=>(getAll r Y).map (d :: ·)
inductive Ty where
 |int | bool | str | list | tuple | dict | cls (c:Nat) | r0
set_option genCtorIdx true in
set_option genInjectivity true in
gen_injective_theorems% Ty
set_option genCtorIdx true in
inductive BI where
 |len
 |abs
 |int
 |list
 |tuple
 |max
 |all
 |str
set_option genCtorIdx true in
inductive ZF where
 |BB | of | enum (lo:Int) | sig | key | Pa
 deriving DecidableEq
set_option genSizeOf false
inductive E where
 |AA
 |GD
 |v (i:Nat)
 |c (d:D)
 |t (es:List E)
 |l (es:List E)
 |sA (op:MK) (a b:E)
 |neg (a:E)
 |not (a:E)
 |tA (op:pG) (a b:E)
 |fE (op op':pG) (a b c:E)
 |and (a b:E)
 |or (a b:E)
 |ite (c a b:E)
 |ix (a i:E)
 |sl (a lo hi:E)
 |rev (a:E)
 |call (f:String) (args:List E)
 |bif (f:BI) (args:List E)
 |cF (a:E) (ts:List Ty)
 |app (i:Nat) (a:E)
 |ext (i:Nat) (a:E)
 |kP (i:Nat)
 |kHa (i j:Nat)
 |BE (i:Nat)
 |VJ (a:E)
 |mK (a:E)
 |NL (a:E)
 |vD (s:fA) (a:E)
 |UG (i:Nat) (s:fA)
 |xP (i:Nat) (s:fA)
 |fld (a:E) (f:fA)
 |make (c:fA) (ns:List fA) (args:List E)
 |nI (c:fA) (f:String) (args:List E)
 |gK (ks:List fA) (a:E)
 |AL (ks:List fA) (vs:List Int) (a:E)
 |iG (i:Nat) (m:fA) (tb:List (fA×String)) (args:List E)
 |comp (DB:E) (tg:List Nat) (k:ZF) (gG:List E) (cond:List E) (imp:List Nat) (nl:Nat)
set_option genCtorIdx true in
gen_injective_theorems% E
inductive S where
 |AA
 |pass
 |brk
 |cnt
 |LA (i:Nat) (e:E)
 |DM (is:List Nat) (e:E)
 |set (i:Nat) (k e:E)
 |expr (e:E)
 |ret (e:E)
 |jZ
 |tBa (h e:E)
 |vA (c:E) (a b:List S)
 |for (tg:List Nat) (one:Bool) (k:ZF) (gG:List E) (body:List S)
 |whl (c:E) (body:List S)
 |oZ (c:fA) (args:List E)
 |lb (c:fA) (args:List E)
 |gT (body:List S)
 |wb (i j:Nat) (e c:E)
 |tJ (i:Nat) (f:fA) (cs:List fA) (e:E)
 |srt (i:Nat) (e:E) (aAw:List S)
set_option genCtorIdx true in
gen_injective_theorems% S
noncomputable def nB:Nat->D->Bool
 |_,.nA=>bA
 |_,.bl _=>bA
 |_,.int _=>bA
 |_,.str _=>bA
 |n+1,.t a=>a.all (nB n)
 |n+1,.l a=>a.all (nB n)
 |_,_=>cA
mutual
noncomputable def gE:D->D->Bool
 |.nA,.nA=>bA
 |.bl a,.bl b=>a==b
 |.bl a,.int b=>(if a then 1 else 0)==b
 |.int a,.bl b=>a==(if b then 1 else 0)
 |.int a,.int b=>a==b
 |.str a,.str b=>a==b
 |.t a,.t b=>sL a b
 |.l a,.l b=>sL a b
 |_,_=>cA
noncomputable def sL:List D->List D->Bool
 |[],[]=>bA
 |a::as,b::bs=>gE a b&&sL as bs
 |_,_=>cA
end
noncomputable def cl(p:Prop):Decidable p:=Classical.propDecidable p
noncomputable section
def DH:D->Option Bool
 |.nA=>aA cA
 |.bl b=>aA b
 |.int i=>aA (i != 0)
 |.str x=>@ite _ (x.length<=1000000) (cl _) (aA ((x.length:Int) != 0)) eA
 |.t a=>aA (!a.isEmpty)
 |.l a=>aA (!a.isEmpty)
 |_=>eA
def NA(n:Nat):Bool:=@decide (n<=1000000) (cl _)
def xB:MK->D->D->Option RV
 |.Add,.int i,.int j=>aA (.sh (.int (i+j)))
 |.Sub,.int i,.int j=>aA (.sh (.int (i-j)))
 |.Mult,.int i,.int j=>@ite _ ((-(2 ^ 64)<i/\i<2 ^ 64)\/(-(2 ^ 64)<j/\j<2 ^ 64)) (cl _) (aA (.sh (.int (i*j)))) eA
 |.FloorDiv,.int i,.int j=>@ite _ (0<j/\j<100000000000000000000000000000000000000000000000000000000000000000000000000000000) (cl _) (aA (.sh (.int (i / j)))) eA
 |.Mod,.int i,.int j=>@ite _ (0<j) (cl _) (aA (.sh (.int (i % j)))) eA
 |.LShift,.int i,.int j=>@ite _ (0<=j/\j<=1000/\i.natAbs<2 ^ 64) (cl _) (aA (.sh (.int (i*2 ^ j.toNat)))) eA
 |.RShift,.int i,.int j=>@ite _ (0<=j) (cl _) (aA (.sh (.int (i / 2 ^ j.toNat)))) eA
 |.BitAnd,.int i,.int j=>aA (.sh (.int (KN i j)))
 |.BitOr,.int i,.int j=>aA (.sh (.int (zJ i j)))
 |.Add,.l a,.l b=>if NA (a.length+b.length) then aA (.ow (.l (a++b))) else eA
 |.Add,.t [],.t b=>aA (.sh (.t b))
 |.Add,.t (x::a),.t b=>if NA (a.length+1+b.length) then aA (.sh (.t (x::a++b))) else eA
 |.Mult,.l a,.int k=>@ite _ (-(2 ^ 31)<=k/\k<=1000/\NA (a.length*k.toNat)) (cl _) (aA (.ow (.l (CB k.toNat a).flatten))) eA
 |.Add,.str x,.str y=>@ite _ (x.length+y.length<=1000000) (cl _) (aA (.sh (.str (x++y)))) eA
 |.Mult,.str x,.int n=>@ite _ (MulOk x n/\gC (kU x n)=bA) (cl _) (aA (.sh (.str (kU x n)))) eA
 |_,_,_=>eA
noncomputable def ZC:D->Bool
 |.nA=>bA | .bl _=>bA | .int _=>bA | .str _=>bA
 |_=>cA
def inD(x:D)(a:List D):Bool:=a.any λy=>gE y x
noncomputable def bF:List D->Option (List Int)
 |[]=>aA []
 |.int i::r=>(bF r).map (i :: ·)
 |_=>eA
def sk2:D->D->Option L2.zM
 |.int t,.t a=>(bF a).map λb=>(t,b)
 |_,_=>eA
def sk1:D->Option L2.zM
 |.t [a,b]=>sk2 a b
 |_=>eA
def qDa(d:D):Option L2.YK:=(sk1 d).map .inl
noncomputable def LY:D->Bool
 |.nA=>bA
 |_=>cA
noncomputable def QX(b:Bool):D->Option Bool
 |.bl a=>aA (a==b)
 |_=>eA
def Gs(x:D):D->Option Bool
 |.nA=>aA (LY x)
 |.bl b=>QX b x
 |_=>eA
def bt(x:D):D->Option Bool
 |.nA=>aA (!LY x)
 |_=>eA
def vB:pG->D->D->Option Bool
 |.Eq,x,y=>if nB 20 x&&nB 20 y then aA (gE x y) else eA
 |.NotEq,x,y=>if nB 20 x&&nB 20 y then aA (!gE x y) else eA
 |.Lt,.int i,.int j=>aA (decide (i<j))
 |.LtE,.int i,.int j=>aA (decide (i<=j))
 |.Gt,.int i,.int j=>aA (decide (j<i))
 |.GtE,.int i,.int j=>aA (decide (j<=i))
 |.Is,x,y=>Gs x y
 |.IsNot,x,y=>bt x y
 |.In,x,.t a=>if ZC x&&a.all ZC then aA (inD x a) else eA
 |.In,x,.l a=>if ZC x&&a.all ZC then aA (inD x a) else if nB 19 x&&a.all (nB 19) then aA (inD x a) else eA
 |.In,.str x,.str y=>aA (!(GN y x 0 y.length 1).isEmpty)
 |.NotIn,x,.t a=>if ZC x&&a.all ZC then aA (!inD x a) else eA
 |.NotIn,x,.l a=>if ZC x&&a.all ZC then aA (!inD x a) else if nB 19 x&&a.all (nB 19) then aA (!inD x a) else eA
 |_,_,_=>eA
def U3(a:List D)(i:Int):Option D:=L2.LB a i
def SO:D->D->Option D
 |.t a,.int i=>U3 a i
 |.l a,.int i=>U3 a i
 |.str x,.int i=>@ite _ (x.length<=1000000) (cl _) ((L2.LB x.cps.toList i).map λc=>.str ⟨#[c]⟩) eA
 |_,_=>eA
def aAu(a:List D)(lo b:Option Int):List D:=(a.drop (HT.dB a.length 0 lo)).take (HT.dB a.length a.length b-HT.dB a.length 0 lo)
noncomputable def oK:Option D->Option (Option Int)
 |none=>aA eA
 |some (.int i)=>aA (aA i)
 |_=>eA
def WL:D->Option Int->Option Int->Option RV
 |.l a,lo,b=>aA (.ow (.l (aAu a lo b)))
 |.t a,lo,b=>if HT.dB a.length 0 lo=0/\HT.dB a.length a.length b=a.length then eA else aA (.sh (.t (aAu a lo b)))
 |.str x,lo,b=>@ite _ (x.length<=1000000/\gC (pM x lo b)=bA) (cl _) (aA (.sh (.str (pM x lo b)))) eA
 |_,_,_=>eA
noncomputable def wBa:D->Option RV
 |.t a=>aA (.sh (.t a.reverse))
 |.l a=>aA (.ow (.l a.reverse))
 |_=>eA
noncomputable def yE:List D->Option (List Bool)
 |[]=>aA []
 |.bl b::r=>(yE r).map (b :: ·)
 |_=>eA
mutual
noncomputable def BC:D->PyData
 |.nA=>.none
 |.bl b=>.bool b
 |.int i=>.int i
 |.str x=>.str x
 |.t a=>.tuple (yJ a)
 |.l a=>.list (yJ a)
 |.ins _ _ _=>.none
 |.FQ _ _=>.none
noncomputable def yJ:List D->List PyData
 |[]=>[]
 |d::a=>BC d::yJ a
end
def Aj:BI->D->Option RV
 |.len,.l a=>aA (.sh (.int a.length))
 |.len,.t a=>aA (.sh (.int a.length))
 |.len,.str x=>@ite _ (x.length<=1000000) (cl _) (aA (.sh (.int x.length))) eA
 |.abs,.int i=>aA (.sh (.int (if i<0 then -i else i)))
 |.int,.int i=>aA (.sh (.int i))
 |.int,.bl b=>aA (.sh (.int (if b then 1 else 0)))
 |.int,.str x=>@ite _ (x.length<=640) (cl _) ((aQ x).map λn=>.sh (.int n)) eA
 |.str,.int i=>@ite _ (i.natAbs.log2<1920/\gC (rA (toString i))=bA) (cl _) (aA (.sh (.str (rA (toString i))))) eA
 |.str,.str x=>aA (.sh (.str x))
 |.list,.l a=>aA (.ow (.l a))
 |.list,.t a=>aA (.ow (.l a))
 |.tuple,.l a=>aA (.sh (.t a))
 |.tuple,.t a=>aA (.sh (.t a))
 |.max,.l a=>match bF a with
  |some (i::r)=>aA (.sh (.int (r.foldl (λm y=>if y > m then y else m) i)))
  |_=>eA
 |.all,.l a=>(yE a).map λbs=>.sh (.bl (bs.all id))
 |_,_=>eA
noncomputable def mm(f:Int->Int->Int):D->D->Option RV
 |.int i,.int j=>aA (.sh (.int (f i j)))
 |_,_=>eA
def QC:BI->List D->Option RV
 |.max,[x,y]=>mm (λi j=>if j > i then j else i) x y
 |f,[d]=>Aj f d
 |_,_=>eA
noncomputable def WX:Ty->D->Option Bool
 |.int,d=>match d with
  |.int _=>aA bA | .bl _=>aA bA | .nA=>aA cA | .str _=>aA cA | .t _=>aA cA | .l _=>aA cA
  |_=>eA
 |.bool,d=>match d with
  |.bl _=>aA bA | .int _=>aA cA | .nA=>aA cA | .str _=>aA cA | .t _=>aA cA | .l _=>aA cA
  |_=>eA
 |.str,d=>match d with
  |.str _=>aA bA | .bl _=>aA cA | .int _=>aA cA | .nA=>aA cA | .t _=>aA cA | .l _=>aA cA
  |_=>eA
 |.list,d=>match d with
  |.l _=>aA bA | .bl _=>aA cA | .int _=>aA cA | .nA=>aA cA | .t _=>aA cA | .str _=>aA cA
  |_=>eA
 |.tuple,d=>match d with
  |.t _=>aA bA | .bl _=>aA cA | .int _=>aA cA | .nA=>aA cA | .l _=>aA cA | .str _=>aA cA
  |_=>eA
 |.r0,d=>match d with
  |_=>eA
 |_,_=>eA
def QO:List Ty->D->Option Bool
 |[],_=>aA cA
 |t::r,d=>(WX t d).bind λb=>(QO r d).map λc=>b||c
noncomputable def rV:D->Option RV
 |.int i=>aA (.sh (.int (sM i)))
 |_=>eA
def aP:D->Option RV
 |.l a=>match bF a with
  |some is=>@ite _ (is.length<=1000) (cl _) (aA (.sh (.int (cf (λi=>is.getD i 0) is.length).length))) eA
  |none=>eA
 |_=>eA
noncomputable def nW:D->fA->Option D
 |.ins _ a b,f=>(a.zip b).lookup f
 |_,_=>eA
noncomputable def yD(c:fA)(a:List fA)(m:fA)(b:List (fA×String)):Option String:=if a.contains m then eA else b.lookup c
noncomputable def aAx(f:fA):List fA->List fA
 |[]=>[f]
 |n::r=>if n=f then n::r else n::aAx f r
noncomputable def DF(f:fA)(d:O):List fA->List O->List O
 |[],_=>[d]
 |n::r,a=>match a with
  |[]=>[]
  |x::t=>if n=f then d::t else x::DF f d r t
noncomputable def GR(a:List fA):D->Option RV
 |.str x=>aA (.sh (.bl (!a.contains x)))
 |_=>eA
noncomputable def AX(a:List fA)(b:List Int):D->Option RV
 |.str x=>((a.zip b).lookup x).map λi=>.sh (.int i)
 |_=>eA
def aAi(t:Bool)(r:yA RV):yA RV :=
 match t with
 |false=>r
 |true=>r.bind λv Y=>(DH v.d).map λb=>(.ok (.sh (.bl b)),Y)
noncomputable def hd(e:E)(r:yA RV)(Y:Env):yA Hd :=
 match e with
 |.v i=>if((Y[i]?).bind Sl.get).isSome then some (.ok (.slot i),Y) else eA
 |_=>r.bind λv a=>some (.ok (.val v.low),a)
noncomputable def j7:E->Bool
 |.GD=>bA
 |_=>cA
def aAR(e:E)(r:yA RV)(Y:Env):yA (Option D) :=
 if j7 e then some (.ok eA,Y) else r.bind λv a=>some (.ok (aA v.d),a)
noncomputable def oN(op:MK)(x:Hd)(d:D):Bool :=
 match op,d with
 |.Mult,.l _=>match x with
  |.val (.ow _)=>bA
  |_=>cA
 |_,_=>bA
noncomputable def lH(Y:Env)(i:Nat):Bool :=
 match Y[i]? with
 |some (.ow (.l _) _ _)=>bA
 |_=>cA
noncomputable def Ls(Y:Env)(i:Nat):Bool :=
 match Y[i]? with
 |_=>cA
noncomputable def Hs(Y:Env)(i:Nat):Bool :=
 match Y[i]? with
 |_=>cA
noncomputable def aAK(i:Nat)(Y:Env):yA RV :=
 match Y[i]? with
 |some (.sh d)=>some (.ok (.sh d),Y)
 |some (.ow d cA cA)=>some (.ok (.sh d),Y.set i (.sh d))
 |_=>eA
noncomputable def done(o:Option RV)(Y:Env):yA RV:=o.map λv=>(.ok v,Y)
noncomputable def store(i:Nat)(v:RV)(Y:Env):Option Env :=
 match Y[i]? with
 |none=>eA
 |some (.ow _ bA _)=>eA
 |some (.ow _ _ bA)=>eA
 |some _=>match v with
  |.sh d=>aA (Y.set i (.sh d))
  |.ow d=>aA (Y.set i (.ow d cA cA))
  |.od _=>eA
def aAn:List Nat->List D->Env->Option Env
 |[],[],Y=>aA Y
 |i::is,d::a,Y=>(store i (.sh d) Y).bind (aAn is a)
 |_,_,_=>eA
def UA(one:Bool)(a:List Nat)(d:D)(Y:Env):Option Env :=
 match one,a,d with
 |true,[i],d=>store i (.sh d) Y
 |false,is,.t b=>aAn is b Y
 |_,_,_=>eA
abbrev Calls:=String->List Sl->yA RV
noncomputable def nN(Y:Env):yA RV->yA RV
 |some (.ok (.sh .nA),.ow (.ins c a b) bA cA::_)=>some (.ok (.ow (.ins c a b)),Y)
 |_=>eA
noncomputable def aAk(dA:List Bool)(f:List Hd)(Y:Env):Option (List Sl×Env) :=
 match dA,f with
 |[],[]=>aA ([],Y)
 |p::b,.val (.sh d)::r=>(aAk b r Y).map λ(as,a)=>(.sh d::as,a)
 |p::b,.val (.ow d)::r=>(aAk b r Y).map λ(as,a)=>((if p then .ow d bA cA else .sh d)::as,a)
 |p::b,.slot i::r =>
  match Y[i]? with
  |some (.sh d)=>(aAk b r Y).map λ(as,a)=>(.sh d::as,a)
  |some (.ow d c e) =>
   match p with
   |true=>(aAk b r (Y.set i .un)).map λ(as,a)=>(.ow d bA e::as,a)
   |false=>if c||e then eA else(aAk b r (Y.set i (.sh d))).map λ(as,a)=>(.sh d::as,a)
  |_=>eA
 |_,_=>eA
noncomputable def aAj(dA:List Bool)(f:List Hd)(as:List Sl)(b Y:Env):Option Env :=
 match dA,f,as with
 |[],[],[]=>aA Y
 |true::c,.slot i::r,a::as =>
  match b[i]?,a with
  |some (.ow _ e g),.ow d _ _=>aAj c r as b (Y.set i (.ow d e g))
  |some (.ow _ _ _),_=>eA
  |_,_=>aAj c r as b Y
 |_::c,_::r,_::as=>aAj c r as b Y
 |_,_,_=>eA
def MD(dA:List Bool)(f:List Sl->yA RV)(b:List Hd)(Y:Env):yA RV :=
 match aAk dA b Y with
 |none=>eA
 |some (as,c) =>
  match f as with
  |none=>eA
  |some (o,a)=>(aAj dA b a Y c).map λd=>(o,d)
noncomputable def ND(lo:Int)(a:List D):List D:=(EB a.length).map λ(j:Nat)=>.t [.int (lo+(j:Int)),a.getD j .nA]
noncomputable def tK(x:fA):List D:=x.cps.toList.map λc=>.str ⟨#[c]⟩
noncomputable def xH:List D->Option (List fA)
 |[]=>aA []
 |.str x::r=>(xH r).map (x :: ·)
 |_=>eA
def dY(s:fA):D->Option RV
 |.l a=>match xH a with
  |some ts=>@ite _ (XN s ts=bA/\gC (QB s ts)=bA) (cl _) (aA (.sh (.str (QB s ts)))) eA
  |none=>eA
 |_=>eA
def vI(s:fA)(Y:Env)(o:Option Sl):yA RV:=match o with
 |some (.sh (.str x))=>@ite _ ((s.length==0)=cA/\x.length<=1000000/\(HE x s).all gC=bA) (cl _) (some (.ok (.ow (.l ((HE x s).map D.str))),Y)) eA
 |_=>eA
noncomputable def yP(s:fA)(Y:Env)(o:Option Sl):yA RV:=match o with
 |some (.sh (.str x))=>some (.ok (.sh (.bl (UP x s))),Y)
 |_=>eA
def Fm(n:Nat)(a b:List O):Prop:=a.length=n/\∀e∈a,e∈b
def aAc(k:ZF)(e:List Hd)(Y:Env):Option (List D×Option Nat) :=
 match k,e with
 |.BB,[a]=>match a.get Y with
  |some (.int n)=>@ite _ (-1000000<=n/\n<=1000000) (cl _) (aA ((EB n.toNat).map λ(j:Nat)=>.int (j:Int),eA)) eA
  |_=>eA
 |.BB,[a,b]=>match a.get Y,b.get Y with
  |some (.int m),aA (.int n)=>@ite _ ((-1000000<=m/\m<=1000000)/\(-1000000<=n/\n<=1000000)) (cl _) (aA ((EB (n-m).toNat).map λ(j:Nat)=>.int (m+(j:Int)),eA)) eA
  |_,_=>eA
 |.enum lo,[.slot i]=>match Y[i]? with
  |some (.ow (.l c) _ _)=>aA (ND lo c,aA i)
  |some (.sh (.l c))=>aA (ND lo c,eA)
  |_=>eA
 |.enum lo,[.val v]=>match v.d with
  |.l c=>aA (ND lo c,eA)
  |_=>eA
 |.of,[.slot i]=>match Y[i]? with
  |some (.ow (.l c) _ _)=>aA (c,aA i)
  |some (.sh (.l c))=>aA (c,eA)
  |some (.sh (.t c))=>aA (c,eA)
  |_=>eA
 |.of,[.val v]=>match v.d with
  |.l c=>aA (c,eA)
  |.t c=>aA (c,eA)
  |_=>eA
 |.sig,[a]=>match a.get Y with
  |some (.str x)=>@ite _ (x.cps.all (·<128)=bA/\gC x=bA) (cl _) (aA (tK x,eA)) eA
  |_=>eA
 |_,_=>eA
noncomputable def aAg(o:Option Nat)(Y:Env):Env :=
 match o with
 |none=>Y
 |some i=>Y.set i .un
noncomputable def aAl(o:Option Nat)(a Y:Env):Option Env :=
 match o with
 |none=>aA Y
 |some i=>match Y[i]?,a[i]? with
  |some .un,aA sl=>aA (Y.set i sl)
  |_,_=>eA
noncomputable def tD(a:Env->yA RV)(e:Env->yA RV)(bind:D->Env->Option Env):List D->List D->Env->yA (List D)
 |[],b,Y=>some (.ok b,Y)
 |d::f,b,Y=>match bind d Y with
  |none=>eA
  |some h=>(a h).bind λc g=>match c with
   |.sh (.bl bA)=>(e g).bind λv i=>tD a e bind f (b++[v.d]) i
   |.sh (.bl cA)=>tD a e bind f b g
   |_=>eA
noncomputable def back:List Sl->Env->List Sl
 |.ow _ _ _::as,b::bs=>b::back as bs
 |a::as,_::bs=>a::back as bs
 |_,_=>[]
noncomputable def sJ:Sl->Bool
 |.ow _ p _=>p
 |.sh _=>bA
 |_=>cA
def WI(a:Env->yA RV)(c:Env->yA RV)(bind:D->Env->Option Env)(d:List D)(nl:Nat)(as:List Sl):yA RV :=
 if as.all sJ=bA then(tD a c bind d [] (as++CB nl .un)).bind λb e =>
  if NA b.length then some (.ok (.ow (.l b)),back as e) else eA
 else eA
def aAq(o:Option Nat)(a:Env)(v:RV)(b:Env):yA RV:=(aAl o a b).map λc=>(.ok v,c)
structure Fn where
 dA:List Bool
 nl:Nat
 body:List S
 rs:Bool
abbrev XA:=String->List Bool
noncomputable def lP(i:Nat)(Y:Env):Option Sl->yA RV
 |some (.ow (.l a) p cA)=>(a[a.length-1]?).map λd=>(.ok (.sh d),Y.set i (.ow (.l a.dropLast) p cA))
 |_=>eA
mutual
noncomputable def ev(P:XA)(C:Calls)(t:Bool):E->Env->yA RV
 |.AA,_=>eA
 |.GD,_=>eA
 |.v i,Y=>match t with
  |true=>aAi bA (((Y[i]?).bind Sl.get).map λd=>(.ok (.sh d),Y))
  |false=>aAK i Y
 |.c d,Y=>aAi t (some (.ok (.sh d),Y))
 |.t q,Y=>aAi t ((AE P C q Y).bind λj A=>if NA j.length then some (.ok (.sh (.t j)),A) else eA)
 |.l q,Y=>aAi t ((AE P C q Y).bind λj A=>if NA j.length then some (.ok (.ow (.l j)),A) else eA)
 |.sA op a b,Y=>aAi t ((hd a (ev P C cA a Y) Y).bind λx g=>(hd b (ev P C cA b g) g).bind λy n =>
   done ((x.get n).bind λd=>(y.get n).bind λe=>if oN op x d then xB op d e else eA) n)
 |.neg a,Y=>aAi t ((ev P C cA a Y).bind λv g=>match v.d with
  |.int i=>some (.ok (.sh (.int (-i))),g)
  |_=>eA)
 |.not a,Y=>match t with
  |true=>(ev P C bA a Y).bind λv g=>match v with
   |.sh (.bl b)=>some (.ok (.sh (.bl (!b))),g)
   |_=>eA
  |false=>(hd a (ev P C cA a Y) Y).bind λx g=>done ((x.get g).bind λd=>(DH d).map λb=>.sh (.bl (!b))) g
 |.tA op a b,Y=>(hd a (ev P C cA a Y) Y).bind λx g=>(hd b (ev P C cA b g) g).bind λy n =>
   done ((x.get n).bind λd=>(y.get n).bind λe=>(vB op d e).map λb=>.sh (.bl b)) n
 |.fE op B a b c,Y=>(hd a (ev P C cA a Y) Y).bind λx g=>(hd b (ev P C cA b g) g).bind λy n =>
   match (x.get n).bind λd=>(y.get n).bind λe=>vB op d e with
   |none=>eA
   |some cA=>some (.ok (.sh (.bl cA)),n)
   |some bA=>(hd c (ev P C cA c n) n).bind λz w =>
    done ((y.get w).bind λd=>(z.get w).bind λe=>(vB B d e).map λb=>.sh (.bl b)) w
 |.and a b,Y=>(ev P C t a Y).bind λv g=>match v with
  |.sh (.bl bA)=>ev P C t b g
  |.sh (.bl cA)=>some (.ok (.sh (.bl cA)),g)
  |_=>eA
 |.or a b,Y=>(ev P C t a Y).bind λv g=>match v with
  |.sh (.bl bA)=>some (.ok (.sh (.bl bA)),g)
  |.sh (.bl cA)=>ev P C t b g
  |_=>eA
 |.ite c a b,Y=>(ev P C bA c Y).bind λv g=>match v with
  |.sh (.bl bA)=>ev P C t a g
  |.sh (.bl cA)=>ev P C t b g
  |_=>eA
 |.ix a i,Y=>aAi t ((hd a (ev P C cA a Y) Y).bind λx g=>(ev P C cA i g).bind λk n =>
   done ((x.get n).bind λd=>(SO d k.d).map .sh) n)
 |.sl a lo J,Y=>aAi t ((hd a (ev P C cA a Y) Y).bind λx g =>
   (aAR lo (ev P C cA lo g) g).bind λl n=>(aAR J (ev P C cA J n) n).bind λh w =>
   done ((x.get w).bind λd=>(oK l).bind λl=>(oK h).bind λh=>WL d l h) w)
 |.rev a,Y=>aAi t ((hd a (ev P C cA a Y) Y).bind λx g=>done ((x.get g).bind wBa) g)
 |.call f q,Y=>aAi t ((kC P C q Y).bind λr g=>MD (P f) (C f) r g)
 |.bif f q,Y=>aAi t ((kC P C q Y).bind λr g=>done ((getAll r g).bind (QC f)) g)
 |.cF a ts,Y=>aAi t ((hd a (ev P C cA a Y) Y).bind λx g =>
   done ((x.get g).bind λd=>(QO ts d).map λb=>.sh (.bl b)) g)
 |.app i a,Y=>aAi t (if lH Y i then(ev P C cA a Y).bind λv g=>match g[i]? with
  |some (.ow (.l j) p cA)=>if NA (j.length+1) then some (.ok (.sh .nA),g.set i (.ow (.l (j++[v.d])) p cA)) else eA
  |_=>eA
  else eA)
 |.kP i,Y=>aAi t (lP i Y Y[i]?)
 |.kHa _ _,_=>eA
 |.ext i a,Y=>aAi t (if lH Y i then(ev P C cA a Y).bind λv g=>match g[i]?,v with
  |some (.ow (.l j) p cA),.ow (.l q)=>if NA (j.length+q.length) then some (.ok (.sh .nA),g.set i (.ow (.l (j++q)) p cA)) else eA
  |_,_=>eA
  else eA)
 |.BE i,Y=>aAi t (aAK i Y)
 |.VJ a,Y=>aAi t ((hd a (ev P C cA a Y) Y).bind λx g=>done ((x.get g).bind rV) g)
 |.mK _,_=>eA
 |.vD s a,Y=>aAi t ((hd a (ev P C cA a Y) Y).bind λx g=>done ((x.get g).bind (dY s)) g)
 |.UG i s,Y=>aAi t (vI s Y Y[i]?)
 |.xP i s,Y=>aAi t (yP s Y Y[i]?)
 |.NL a,Y=>aAi t ((hd a (ev P C cA a Y) Y).bind λx g=>done ((x.get g).bind aP) g)
 |.fld a f,Y=>aAi t ((hd a (ev P C cA a Y) Y).bind λx g=>done ((x.get g).bind λd=>(nW d f).map .sh) g)
 |.make c u q,Y=>aAi t ((AE P C q Y).bind λj g=>if j.length=u.length then some (.ok (.sh (.ins c u j)),g) else eA)
 |.nI c f q,Y=>aAi t ((AE P C q Y).bind λj g=>if(P f).length=j.length+1 then nN g (C f (.ow (.ins c [] []) bA cA::j.map .sh)) else eA)
 |.gK F a,Y=>aAi t ((hd a (ev P C cA a Y) Y).bind λx g=>done ((x.get g).bind (GR F)) g)
 |.AL F N a,Y=>aAi t ((hd a (ev P C cA a Y) Y).bind λx g=>done ((x.get g).bind (AX F N)) g)
 |.iG i m K q,Y=>aAi t (match Y[i]? with
  |some (.sh (.ins c u j))=>(match yD c u m K with
   |some f=>(kC P C q Y).bind λr g=>MD (P f) (C f) (.val (.sh (.ins c u j))::r) g
   |none=>eA)
  |some (.ow (.ins c u j) p l)=>(match yD c u m K with
   |some f=>(kC P C q Y).bind λr g=>MD (P f) (C f) (.slot i::r) g
   |none=>eA)
  |_=>eA)
 |.comp H M k I cond imp nl,Y=>aAi t ((kC P C I Y).bind λr g =>
   match aAc k r g with
   |none=>eA
   |some (j,o)=>(MD (imp.map λ_=>bA) (WI (aC P C cond) (ev P C cA H) (UA (M.length==1) M) j nl) (imp.map Hd.slot) (aAg o g)).bind (aAq o g))
noncomputable def AE(P:XA)(C:Calls):List E->Env->yA (List D)
 |[],Y=>some (.ok [],Y)
 |e::a,Y=>(ev P C cA e Y).bind λv b=>(AE P C a b).bind λc f=>some (.ok (v.d::c),f)
noncomputable def kC(P:XA)(C:Calls):List E->Env->yA (List Hd)
 |[],Y=>some (.ok [],Y)
 |e::a,Y=>(hd e (ev P C cA e Y) Y).bind λv b=>(kC P C a b).bind λc d=>some (.ok (v::c),d)
noncomputable def aC(P:XA)(C:Calls):List E->Env->yA RV
 |[],Y=>some (.ok (.sh (.bl bA)),Y)
 |e::b,Y=>(ev P C bA e Y).bind λv a=>match v with
  |.sh (.bl bA)=>aC P C b a
  |.sh (.bl cA)=>some (.ok (.sh (.bl cA)),a)
  |_=>eA
end
mutual
noncomputable def PM(P:XA)(C:Calls):E->Env->Option (Exc×Env)
 |.call f a,Y=>match kC P C a Y with
  |some (.ok d,b)=>match MD (P f) (C f) d b with
   |some (.ex x,e)=>aA (x,e)
   |_=>eA
  |_=>U5 P C a Y
 |.iG i m h (j::a),Y=>(match Y[i]? with
  |some (.ow (.ins c k g) p l)=>(match yD c k m h with
   |some f=>(match kC P C (j::a) Y with
    |some (.ok d,b)=>(match MD (P f) (C f) (.slot i::d) b with
     |some (.ex x,e)=>aA (x,e)
     |_=>eA)
    |_=>eA)
   |none=>eA)
  |_=>eA)
 |.nI c f a,Y=>(match AE P C a Y with
  |some (.ok g,b)=>if(P f).length=g.length+1 then(match C f (.ow (.ins c [] []) bA cA::g.map .sh) with
   |some (.ex x,_)=>aA (x,b)
   |_=>eA) else eA
  |_=>eA)
 |.t a,Y=>V5 P C a Y
 |_,_=>eA
noncomputable def U5(P:XA)(C:Calls):List E->Env->Option (Exc×Env)
 |[],_=>eA
 |e::a,Y=>match hd e (ev P C cA e Y) Y with
  |some (.ok _,b)=>U5 P C a b
  |_=>PM P C e Y
noncomputable def V5(P:XA)(C:Calls):List E->Env->Option (Exc×Env)
 |[],_=>eA
 |e::a,Y=>match ev P C cA e Y with
  |some (.ok _,b)=>V5 P C a b
  |_=>PM P C e Y
end
inductive Fl where
 |nx | bk | ct | rt (v:RV) | ex (e:Exc)
set_option genCtorIdx true in
set_option genInjectivity true in
gen_injective_theorems% Fl
abbrev Run:=Option (Fl×Env)
noncomputable def yA.WB(r:yA O)(f:O->Env->Run):Run :=
 match r with
 |none=>eA
 |some (.ex e,Y)=>some (.ex e,Y)
 |some (.ok a,Y)=>f a Y
noncomputable def Run.next(r:Run)(f:Env->Run):Run :=
 match r with
 |some (.nx,Y)=>f Y
 |r=>r
def Run.restore(r:Run)(o:Option Nat)(j:Env):Run :=
 match r with
 |none=>eA
 |some (fl,Y)=>(aAl o j Y).map λk=>(fl,k)
noncomputable def yG(o:Option Env):Run:=o.map λY=>(.nx,Y)
noncomputable def iD(bind:D->Env->Option Env)(body:Env->Run):List D->Env->Run
 |[],Y=>aA (.nx,Y)
 |d::b,Y=>match bind d Y with
  |none=>eA
  |some c=>match body c with
   |some (.nx,a)=>iD bind body b a
   |some (.ct,a)=>iD bind body b a
   |some (.bk,a)=>aA (.nx,a)
   |r=>r
noncomputable def CY(a:Env->yA RV)(body:Env->Run):Nat->Env->Run
 | 0,_=>eA
 |n+1,Y=>(a Y).WB λv c=>match v with
  |.sh (.bl bA)=>match body c with
   |some (.nx,b)=>CY a body n b
   |some (.ct,b)=>CY a body n b
   |some (.bk,b)=>aA (.nx,b)
   |r=>r
  |.sh (.bl cA)=>aA (.nx,c)
  |_=>eA
noncomputable def fDa(i:Nat)(Y:Env)(o:Option Sl)(k:Option L2.YK)(v:RV):Run :=
 match o,k with
 |_,_=>eA
def KS(i:Nat)(f:fA)(b:List fA)(v:RV)(Y:Env):Run:=match Y[i]? with
 |some (.ow (.ins c a e) p cA)=>if b.contains c/\a.length<900 then aA (.nx,Y.set i (.ow (.ins c (aAx f a) (DF f v.d a e)) p cA)) else eA
 |_=>eA
def T5(P:XA)(C:Calls)(a:Env->yA RV)(d:List Nat)(k:ZF)(b cond:List E)(imp:List Nat)(nl:Nat)(Y:Env):yA RV :=
 (kC P C b Y).bind λe c =>
   match aAc k e c with
   |none=>eA
   |some (f,o)=>(MD (imp.map λ_=>bA) (WI (aC P C cond) a (UA (d.length==1) d) f nl) (imp.map Hd.slot) (aAg o c)).bind (aAq o c)
noncomputable def ux(Y:Env):Bool:=Y.all λs=>match s with | .ow _ _ _=>cA | _=>bA
noncomputable def Up(n:Nat)(Y:Env):Env :=
 match Y[n]? with
 |some (.ow d cA cA)=>Y.set n (.sh d)
 |_=>Y
def BE:Nat->Env->Env
 | 0,Y=>Y
 |n+1,Y=>Up n (BE n Y)
def yCa(i j:Nat)(Y:Env)(e c:Env->yA RV):Run :=
 match e (BE Y.length Y) with
 |some (.ok (.od (.l b)),a)=>@ite _ (a=BE Y.length Y/\ux a=bA/\b.length<=1000/\i<a.length/\j<a.length/\c (a.set i (.sh (.l b)))=some (.ok (.sh (.bl cA)),a.set i (.sh (.l b)))) (cl _) (aA (.nx,(a.set i .mv).set j .mv)) eA
 |_=>eA
mutual
noncomputable def ex(P:XA)(C:Calls)(W:Nat):S->Env->Run
 |.AA,_=>eA
 |.pass,Y=>aA (.nx,Y)
 |.brk,Y=>aA (.bk,Y)
 |.cnt,Y=>aA (.ct,Y)
 |.LA i e,Y=>(ev P C cA e Y).WB λv g=>yG (store i v g)
 |.DM is e,Y=>(ev P C cA e Y).WB λv g=>yG (UA cA is v.d g)
 |.set i k e,Y=>(ev P C cA e Y).WB λv g=>if lH g i then(ev P C cA k g).WB λj q=>match q[i]?,j.d with
  |some (.ow (.l h) p cA),.int n=>yG ((L2.DD h.length n).map λm=>q.set i (.ow (.l (h.set m v.d)) p cA))
  |_,_=>eA
  else eA
 |.expr e,Y=>(ev P C cA e Y).WB λ_ g=>aA (.nx,g)
 |.ret e,Y=>match e with
  |.v i=>match Y[i]? with
   |some (.ow d cA _)=>aA (.rt (.ow d),Y.set i .mv)
   |some (.sh d)=>aA (.rt (.sh d),Y)
   |_=>eA
  |e=>(ev P C cA e Y).WB λv g=>aA (.rt v,g)
 |.jZ,Y=>aA (.rt (.sh .nA),Y)
 |.tBa _ _,_=>eA
 |.vA c a b,Y=>(ev P C bA c Y).WB λv g=>match v with
  |.sh (.bl bA)=>YA P C W a g
  |.sh (.bl cA)=>YA P C W b g
  |_=>eA
 |.for r one k l body,Y=>(kC P C l Y).WB λs g =>
  match aAc k s g with
  |none=>eA
  |some (h,o)=>(iD (UA one r) (YA P C W body) h (aAg o g)).restore o g
 |.whl c body,Y=>CY (ev P C bA c) (YA P C W body) W Y
 |.oZ _ _,_=>eA
 |.lb _ _,_=>eA
 |.srt _ _ _,_=>eA
 |.wb i j e c,Y=>yCa i j Y (ev P C cA e) (ev P C bA c)
 |.tJ i f t e,Y=>(ev P C cA e Y).WB λv g=>KS i f t v g
 |.gT body,Y=>YA P C W body Y
noncomputable def YA(P:XA)(C:Calls)(W:Nat):List S->Env->Run
 |[],Y=>aA (.nx,Y)
 |s::r,Y=>(ex P C W s Y).next (YA P C W r)
noncomputable def Lo(P:XA)(C:Calls)(W:Nat):S->Env->Option (Exc×Env)
 |.LA _ e,Y=>PM P C e Y
 |.expr e,Y=>PM P C e Y
 |.ret e,Y=>PM P C e Y
 |.tJ _ _ _ e,Y=>PM P C e Y
 |.oZ c f,Y=>match AE P C f Y with
  |some (.ok _,d)=>aA (⟨c,eA⟩,d)
  |_=>eA
 |.vA c a b,Y=>match ev P C bA c Y with
  |some (.ok (.sh (.bl bA)),d)=>iR P C W a d
  |some (.ok (.sh (.bl cA)),d)=>iR P C W b d
  |_=>eA
 |_,_=>eA
noncomputable def iR(P:XA)(C:Calls)(W:Nat):List S->Env->Option (Exc×Env)
 |[],_=>eA
 |s::r,Y=>match ex P C W s Y with
  |some (.nx,a)=>iR P C W r a
  |_=>Lo P C W s Y
end
abbrev Tab:=String->Option Fn
noncomputable def Tab.dA(T:Tab):XA:=λf=>match T f with
 |some fn=>fn.dA
 |none=>[]
def run(T:Tab)(W:Nat):Nat->Calls
 | 0=>λ_ _=>eA
 |n+1=>λf as=>match T f with
  |none=>eA
  |some fn=>if as.length=fn.dA.length/\as.all sJ=bA then
    match YA T.dA (run T W n) W fn.body (as++CB fn.nl .un) with
    |some (.nx,Y)=>some (.ok (.sh .nA),back as Y)
    |some (.rt v,Y)=>some (.ok v,back as Y)
    |_=>if fn.rs then match iR T.dA (run T W n) W fn.body (as++CB fn.nl .un) with
     |some (x,Y)=>some (.ex x,back as Y)
     |none=>eA
     else eA
   else eA
end
end CI
namespace CI
set_option tactic.hygienic true
open PySem PySem.Spec PyProof.Rows L2
abbrev St:=L2.St
abbrev Sm(G a:Hp):Prop:=VA G a
def Sm.of(s:VA G j):Sm G j:=s
theorem Sm.refl(G:Hp):Sm G G:=VA.refl G
theorem Sm.trans(a:Sm G j)(b:Sm j k):Sm G k:=VA.trans a b
theorem Sm.seq{K:jA}(e:Sm G j)(h:qB K G a k):qB K j a k:=VA.seq e h
def Sm.app(s:Sm G j)(n:∀x,o≠.own x)(h:G b=aA o):j b=aA o:=s b o h
structure UK(K:jA)(C:lA)(ns:List fA):Prop where
 cl:bE K C
 no:∀f∈ns,aG K C f
mutual
def qA(K:jA)(G:Hp):D->V->Prop
 |.nA,v=>v=.nA
 |.bl b,v=>v=.bl b
 |.int i,v=>v=.int i
 |.str x,v=>v=.str x/\gC x=bA
 |.t e,v=>∃a d,v=.ref a/\pC K G a d/\uA K G e d
 |.l e,v=>∃a d,v=.ref a/\qB K G a d/\uA K G e d
 |.ins c f e,v=>∃a C h d,v=.ref a/\lC K uB c=aA (aA (.ref C))/\G a=aA (.ins C h (f.zip d))/\uA K G e d/\UK K C f/\f.length=d.length
 |.FQ n e,v=>∃a g d,v=.ref a/\qB K G a g/\Fm n g d/\uA K G e d
def uA(K:jA)(G:Hp):List D->List V->Prop
 |[],a=>a=[]
 |d::b,a=>∃v r,a=v::r/\qA K G d v/\uA K G b r
end
def vJ{K:jA}(s:Sm G b)(h:pC K G a c):pC K b a c:=by
 rcases h with (h | ⟨o,h⟩) | h
 ·exact .inl (.inl (s.app (λ_ z=>nomatch z) h))
 ·exact .inl (.inr ⟨o,s.app (λ_ z=>nomatch z) h⟩)
 ·exact .inr h
mutual
theorem qA.mono{K:jA}(s:Sm G m):∀(d:D) {v:V},qA K G d v->qA K m d v
 |.nA,_,h=>by simpa[qA] using h
 |.bl _,_,h=>by simpa[qA] using h
 |.int _,_,h=>by simpa[qA] using h
 |.str _,_,h=>by simpa[qA] using h
 |.t j,_,h=>by
  simp only[qA] at h ⊢;obtain⟨a,k,e,h1,h2⟩:=h;exact⟨a,k,e,vJ s h1,uA.mono s j h2⟩
 |.l j,_,h=>by
  simp only[qA] at h ⊢;obtain⟨a,k,e,h1,h2⟩:=h;exact⟨a,k,e,s.seq h1,uA.mono s j h2⟩
 |.ins c ns j,_,h=>by
  simp only[qA] at h ⊢;obtain⟨a,C,u,k,e,h1,h2,x,y,B⟩:=h;exact⟨a,C,u,k,e,h1,s.app (λ_ z=>nomatch z) h2,uA.mono s j x,y,B⟩
 |.FQ _ j,_,h=>by(simp only[qA] at h ⊢;obtain⟨a,F,k,e,h1,p,h2⟩:=h;exact⟨a,F,k,e,s.seq h1,p,uA.mono s j h2⟩)
theorem uA.mono{K:jA}(s:Sm G m):∀(j:List D) {k:List V},uA K G j k->uA K m j k
 |[],_,h=>by simpa[uA] using h
 |d::j,_,h=>by(simp only[uA] at h ⊢;obtain⟨v,r,e,h1,h2⟩:=h;exact⟨v,r,e,qA.mono s d h1,uA.mono s j h2⟩)
end
theorem uA.len{K:jA}:∀{j:List D} {k:List V},uA K G j k->k.length=j.length
 |[],_,h=>by simp only[uA] at h;subst h;rfl
 |d::j,_,h=>by(simp only[uA] at h;obtain⟨v,r,rfl,_,h2⟩:=h;simp[uA.len h2])
def uA.nil{K:jA}:uA K G [] []:=by simp[uA]
def uA.cons{K:jA}(h:qA K G d v)(t:uA K G k j):uA K G (d::k) (v::j):=by
 simp only[uA];exact⟨v,j,rfl,h,t⟩
theorem uA.app{K:jA}:∀{j m:List D} {u x:List V},uA K G j u->uA K G m x->uA K G (j++m) (u++x)
 |[],_,_,_,h,k=>by simp only[uA] at h;subst h;exact k
 |d::j,_,_,_,h,k=>by(simp only[uA] at h;obtain⟨v,r,rfl,h1,h2⟩:=h;exact uA.cons h1 (uA.app h2 k))
theorem uA.rev{K:jA}:∀{k:List D} {j:List V},uA K G k j->uA K G k.reverse j.reverse
 |[],j,h=>by
  cases (show j=[] from h);exact(show uA K G [] [] from rfl)
 |d::k,j,h=>by
  obtain⟨v,r,rfl,h1,h2⟩:=(show ∃v r,j=v::r/\qA K G d v/\uA K G k r from h)
  rw[MT,MT];exact h2.rev.app (show uA K G [d] [v] from⟨v,[],rfl,h1,rfl⟩)
theorem uA.get{K:jA}:∀{j:List D} {k:List V} {i:Nat} {d:D},uA K G j k->j[i]?=aA d->∃v,k[i]?=aA v/\qA K G d v
 |[],_,_,_,_,e=>by simp at e
 |d::j,_,0,_,h,e=>by
  simp only[uA] at h;obtain⟨v,r,rfl,h1,h2⟩:=h;simp at e;subst e;exact⟨v,rfl,h1⟩
 |d::j,_,i+1,_,h,e=>by
  simp only[uA] at h;obtain⟨v,r,rfl,h1,h2⟩:=h
  have:=uA.get h2 (by simpa using e)
  simpa using this
theorem uA.set{K:jA}(k:qA K G d v):∀{j:List D} {m:List V} (i:Nat),uA K G j m->uA K G (j.set i d) (m.set i v)
 |[],_,_,h=>by simp only[uA] at h;subst h;simp[uA]
 |e::j,_,0,h=>by
  simp only[uA] at h;obtain⟨u,r,rfl,h1,h2⟩:=h;exact uA.cons k h2
 |e::j,_,i+1,h=>by(simp only[uA] at h;obtain⟨u,r,rfl,h1,h2⟩:=h;exact uA.cons h1 (uA.set k i h2))
theorem uA.take{K:jA}:∀{j:List D} {k:List V} (n:Nat),uA K G j k->uA K G (j.take n) (k.take n)
 |_,_,0,_=>by simp[uA]
 |[],_,_+1,h=>by simp only[uA] at h;subst h;simp[uA]
 |e::j,_,n+1,h=>by(simp only[uA] at h;obtain⟨u,r,rfl,h1,h2⟩:=h;exact uA.cons h1 (uA.take n h2))
theorem uA.drop{K:jA}:∀{j:List D} {k:List V} (n:Nat),uA K G j k->uA K G (j.drop n) (k.drop n)
 |_,_,0,h=>h
 |[],_,_+1,h=>by simp only[uA] at h;subst h;simp[uA]
 |e::j,_,n+1,h=>by(simp only[uA] at h;obtain⟨u,r,rfl,h1,h2⟩:=h;exact uA.drop n h2)
theorem uA.rep{K:jA}(h:uA K G j k):∀n,uA K G (CB n j).flatten (CB n k).flatten
 | 0=>uA.nil
 |n+1=>by(rw[DK,DK,iM,iM];exact uA.app h (uA.rep h n))
def vF(K:jA)(H G:Hp)(a:lA):D->Prop
 |.l d=>∃b,H a=aA (.l b)/\uA K G d b
 |.ins c e d=>∃C f b,lC K uB c=aA (aA (.ref C))/\H a=aA (.ins C f (e.zip b))/\uA K G d b/\UK K C e/\e.length=b.length
 |_=>False
def xA(Y:Env)(Z:St)(a:lA):Prop:=∃(i:Nat) (d:D) (p l:Bool),Y[i]?=aA (.ow d p l)/\Z[i]?=aA (aA (.ref a))
structure BA(K:jA)(Y:Env)(Z:St)(H G:Hp):Prop where
 len:Y.length=Z.length
 sub:VA G H
 sh:∀(i:Nat) (d:D),Y[i]?=aA (.sh d)->∃v,Z[i]?=aA (aA v)/\qA K G d v
 ow:∀(i:Nat) (d:D) (p l:Bool),Y[i]?=aA (.ow d p l)->∃a,Z[i]?=aA (aA (.ref a))/\G a=eA/\vF K H G a d
 inj:∀(i j:Nat) (d:D) (p l:Bool) (d':D) (p' l':Bool) (a:lA),Y[i]?=aA (.ow d p l)->Y[j]?=aA (.ow d' p' l')->Z[i]?=aA (aA (.ref a))->Z[j]?=aA (aA (.ref a))->i=j
structure Ext(own:lA->Prop)(H G H' G':Hp):Prop where
 gg:Sm G G'
 hh:∀a o,H a=aA o->¬own a->H' a=aA o
 hx:∀a,H' a=eA->H a=eA
 gn:∀a,H a≠eA->G a=eA->¬own a->G' a=eA
theorem Ext.refl:Ext own H G H G:=⟨Sm.refl _,λ_ _ h _=>h,λ_ h=>h,λ_ _ h _=>h⟩
theorem Ext.trans(a:Ext own H G k m)(w:∀x,j x->own x\/H x=eA)(b:Ext j k m u y):Ext own H G u y:=by
 refine⟨a.gg.trans b.gg,λx o h n=>?_,λx h=>a.hx x (b.hx x h),λx h g n=>?_⟩
 ·refine b.hh x o (a.hh x o h n) λz=>?_
  rcases w x z with z | z
  ·exact n z
  ·rw[h] at z;cases z
 ·have h1:k x≠eA:=λz=>h (a.hx x z)
  refine b.gn x h1 (a.gn x h g n) λz=>?_
  rcases w x z with z | z
  ·exact n z
  ·exact h z
def Ext.weaken(a:Ext own H G k m)(w:∀x,own x->j x):Ext j H G k m :=
 ⟨a.gg,λx o h n=>a.hh x o h λz=>n (w x z),a.hx,λx h g n=>a.gn x h g λz=>n (w x z)⟩
def aL(H:Hp)(own new:lA->Prop)(c:List V):Prop:=∀x∈c,∃b a,x=.ref b/\H b=aA (.l a)/\a.length<=1000/\¬own b/\new b
def Rows(H:Hp)(own new:lA->Prop)(a:lA):Prop:=∃c,H a=aA (.l c)/\aL H own (λb=>new b/\b≠a) c
def aL.step(h:aL H own new m)(e:∀b o,H b=aA o->¬own b->u b=aA o)(w:∀b,j b->own b\/H b=eA):aL u j new m:=λx hx=>by
 obtain⟨b,y,h1,h2,B,k,C⟩:=h x hx;refine⟨b,y,h1,e b _ h2 k,B,λz=>?_,C⟩;rcases w b z with z | z
 ·exact k z
 ·rw[h2] at z;cases z
theorem aL.new{own new j:lA->Prop}(h:aL H own new k)(w:∀b,new b->j b):aL H own j k:=λx hx=>let ⟨b,m,h1,h2,u,y,z⟩:=h x hx;⟨b,m,h1,h2,u,y,w b z⟩
def iC(K:jA)(H G:Hp)(own:lA->Prop)(new:lA->Prop):RV->V->Prop
 |.sh d,v=>qA K G d v
 |.ow d,v=>∃a,v=.ref a/\G a=eA/\vF K H G a d/\¬own a/\new a
 |.od d,v=>∃a,v=.ref a/\G a=eA/\vF K H G a d/\¬own a/\new a/\Rows H own new a
def GB(K:jA)(H G:Hp)(d:D)(v:V):Prop:=qA K G d v\/∃a,v=.ref a/\vF K H G a d
def LD(K:jA)(H G:Hp)(own:lA->Prop)(new:lA->Prop)(Z:St):Hd->V->Prop
 |.slot i,v=>Z[i]?=aA (aA v)
 |.val (.od _),_=>False
 |.val r,v=>iC K H G own new r v
section
variable{K:jA}{own rJ new new':lA->Prop}
theorem vF.mono(h:vF K H G a d)(s:Sm G m)(e:∀o,H a=aA o->u a=aA o):vF K u m a d:=by
 induction d using D.casesOn with
 |l k =>
  obtain⟨j,h1,h2⟩:=h;exact⟨j,e _ h1,uA.mono s _ h2⟩
 |ins c ns k=>obtain⟨C,x,j,y,h1,h2,z⟩:=h;exact⟨C,x,j,y,e _ h1,uA.mono s k h2,z⟩
 |_=>exact h
def vF.put(h:vF K H G a d):∃o,H a=aA o/\∀j,Sm G j->j a=aA o->qA K j d (.ref a):=by
 induction d using D.casesOn with
 |l k =>
  obtain⟨m,h1,h2⟩:=h;exact⟨_,h1,λj s e=>by simp only[qA];exact⟨a,m,rfl,qB.of e,uA.mono s k h2⟩⟩
 |ins c ns k=>obtain⟨C,u,m,x,h1,h2,y⟩:=h;exact⟨_,h1,λj s e=>by simp only[qA];exact⟨a,C,u,m,rfl,x,e,uA.mono s k h2,y⟩⟩
 |_=>exact h.elim
def vF.there(h:vF K H G a d):∃o,H a=aA o:=let ⟨o,h,_⟩:=h.put;⟨o,h⟩
def BA.owned(r:BA K Y Z H G)(o:xA Y Z a):H a≠eA/\G a=eA:=by
 obtain⟨i,d,p,l,h1,h2⟩:=o;obtain⟨b,e,g,h⟩:=r.ow i d p l h1;rw[h2] at e;cases e;obtain⟨j,h⟩:=h.there;exact⟨by rw[h];simp,g⟩
def iC.wait(h:iC K H G own new v x)(e:Ext own H G B C)(w:∀a,rJ a->own a\/H a=eA):iC K B C rJ new v x:=by
 induction v using RV.casesOn with
 |sh d=>exact qA.mono e.gg d h
 |ow d =>
  obtain⟨a,rfl,g,o,n,m⟩:=h;obtain⟨y,j⟩:=o.there;have ne:H a≠eA:=by rw[j];simp
  refine⟨a,rfl,e.gn a ne g n,o.mono e.gg λk u=>e.hh a k u n,λz=>?_,m⟩;rcases w a z with z | z
  ·exact n z
  ·exact ne z
 |od d =>
  obtain⟨a,rfl,g,o,n,m,y,j,F⟩:=h;have ne:H a≠eA:=by rw[j];simp
  refine⟨a,rfl,e.gn a ne g n,o.mono e.gg λk u=>e.hh a k u n,λz=>?_,m,y,e.hh a _ j n,F.step e.hh w⟩;rcases w a z with z | z
  ·exact n z
  ·exact ne z
theorem LD.wait(h:LD K H G own new Z v x)(e:Ext own H G j k)(w:∀a,rJ a->own a\/H a=eA):LD K j k rJ new Z v x:=by
 induction v using Hd.casesOn with
 |slot i=>exact h
 |val r=>cases r with
  |od d=>exact h.elim
  |sh d=>exact qA.mono e.gg d h
  |ow d=>exact iC.wait (v:=.ow d) h e w
def iC.BG(h:iC K H G own new v x)(w:∀a,new a->new' a):iC K H G own new' v x:=by
 induction v using RV.casesOn with
 |sh d=>exact h
 |ow d =>
  obtain⟨a,rfl,g,o,n,m⟩:=h;exact⟨a,rfl,g,o,n,w a m⟩
 |od d =>
  obtain⟨a,rfl,g,o,n,m,j,k,u⟩:=h;exact⟨a,rfl,g,o,n,w a m,j,k,u.new λb z=>⟨w b z.1,z.2⟩⟩
theorem iC.low(h:iC K H G own new v x):iC K H G own new v.low x:=by
 induction v using RV.casesOn with
 |sh d=>exact h
 |ow d=>exact h
 |od d =>
  obtain⟨a,rfl,g,o,n,m,_⟩:=h;exact⟨a,rfl,g,o,n,m⟩
def LD.of(h:iC K H G own new v x):LD K H G own new Z (.val v.low) x:=by
 have:=h.low
 cases v<;>exact this
theorem LD.BG(h:LD K H G own new Z v x)(w:∀a,new a->new' a):LD K H G own new' Z v x:=by
 induction v using Hd.casesOn with
 |slot i=>exact h
 |val r=>cases r with
  |od d=>exact h.elim
  |sh d=>exact h
  |ow d=>exact iC.BG (v:=.ow d) h w
def iC.tN(h:iC K H G own new v x):GB K H G v.d x:=by
 induction v using RV.casesOn with
 |sh d=>exact .inl h
 |ow d =>
  obtain⟨a,rfl,g,o,n,m⟩:=h;exact .inr ⟨a,rfl,o⟩
 |od d =>
  obtain⟨a,rfl,g,o,n,m,_⟩:=h;exact .inr ⟨a,rfl,o⟩
theorem BA.get(r:BA K Y Z H G){i:Nat}(h:(Y[i]?).bind Sl.get=aA d)(hx:Z[i]?=aA (aA x)):GB K H G d x:=by
 cases e:Y[i]? with
 |none=>rw[e] at h;cases h
 |some sl =>
  rw[e] at h
  induction sl using Sl.casesOn with
  |un=>cases h
  |mv=>cases h
  |sh j =>
   cases h;obtain⟨v,h1,h2⟩:=r.sh i _ e;rw[hx] at h1;cases h1;exact .inl h2
  |ow j p l =>
   cases h;obtain⟨a,h1,_,h2⟩:=r.ow i _ p l e;rw[hx] at h1;cases h1;exact .inr ⟨a,rfl,h2⟩
def LD.read(h:LD K H G own new Z v x)(r:BA K Y Z H G)(e:v.get Y=aA d):GB K H G d x:=by
 induction v using Hd.casesOn with
 |slot i=>exact r.get e h
 |val u =>
  simp only[Hd.get,cC] at e;subst e
  induction u using RV.casesOn with
  |od d=>exact h.elim
  |sh d=>exact .inl h
  |ow d=>exact iC.tN (v:=.ow d) h
def BA.bound(r:BA K Y Z H G){i:Nat}(h:((Y[i]?).bind Sl.get).isSome=bA):∃v,Z[i]?=aA (aA v):=by
 cases e:Y[i]? with
 |none=>rw[e] at h;cases h
 |some sl =>
  rw[e] at h
  induction sl using Sl.casesOn with
  |un=>cases h
  |mv=>cases h
  |sh j =>
   obtain⟨v,h1,h2⟩:=r.sh i _ e;exact⟨v,h1⟩
  |ow j p l =>
   obtain⟨a,h1,_,h2⟩:=r.ow i _ p l e;exact⟨_,h1⟩
theorem GB.l(s:VA G H)(h:GB K H G (.l k) x):∃a j,x=.ref a/\qB K H a j/\uA K G k j:=by
 rcases h with h | ⟨a,rfl,h⟩
 ·simp only[qA] at h;obtain⟨a,j,e,h1,h2⟩:=h;exact⟨a,j,e,s.seq h1,h2⟩
 ·obtain⟨j,h1,h2⟩:=h;exact⟨a,j,rfl,qB.of h1,h2⟩
theorem GB.t{k:List D}(s:VA G H)(h:GB K H G (.t k) x):∃a j,x=.ref a/\pC K H a j/\uA K G k j:=by
 rcases h with h | ⟨a,rfl,h⟩
 ·simp only[qA] at h;obtain⟨a,j,e,h1,h2⟩:=h;exact⟨a,j,e,vJ s h1,h2⟩
 ·exact h.elim
theorem GB.ins(s:VA G H)(h:GB K H G (.ins c ns m) x):∃a C k j,x=.ref a/\lC K uB c=aA (aA (.ref C))/\H a=aA (.ins C k (ns.zip j))/\uA K G m j/\UK K C ns/\ns.length=j.length:=by
 rcases h with h | ⟨a,rfl,h⟩
 ·simp only[qA] at h;obtain⟨a,C,k,j,e,h1,h2,u⟩:=h;exact⟨a,C,k,j,e,h1,s _ _ h2,u⟩
 ·obtain⟨C,k,j,h⟩:=h;exact⟨a,C,k,j,rfl,h⟩
theorem GB.int(h:GB K H G (.int i) x):x=.int i:=by
 rcases h with h | ⟨a,rfl,h⟩
 ·simpa[qA] using h
 ·exact h.elim
theorem GB.bl(h:GB K H G (.bl i) x):x=.bl i:=by
 rcases h with h | ⟨a,rfl,h⟩
 ·simpa[qA] using h
 ·exact h.elim
theorem GB.str(h:GB K H G (.str i) x):x=.str i/\gC i=bA:=by
 rcases h with h | ⟨a,rfl,h⟩
 ·simpa[qA] using h
 ·exact h.elim
theorem GB.nA(h:GB K H G .nA x):x=.nA:=by
 rcases h with h | ⟨a,rfl,h⟩
 ·simpa[qA] using h
 ·exact h.elim
def oP(h:qA K G (.bl i) x):x=.bl i:=by simpa[qA] using h
def VA.laid(h:H a=eA):VA H (EA H a o):=λb u e=>by rw[jB (EE e h)];exact e
theorem Sm.laid(h:H a=eA):Sm H (EA H a o):=Sm.of (VA.laid h)
def Sm.put(h:H a=eA):Sm H (EA H a o):=Sm.laid h
def BA.HL(r:BA K Y Z H G)(h:H a=eA):BA K Y Z (EA H a o) (EA G a o):=by
 have k:G a=eA:=VA.free r.sub h;refine⟨r.len,λb u e=>?_,λi d e=>?_,λi d p l e=>?_,r.inj⟩
 ·by_cases j:b=a
  ·subst j;rw[GC] at e ⊢;exact e
  ·rw[jB j] at e ⊢;exact r.sub b u e
 ·obtain⟨v,h1,h2⟩:=r.sh i d e;exact⟨v,h1,qA.mono (Sm.laid k) d h2⟩
 ·obtain⟨b,h1,h2,m⟩:=r.ow i d p l e;obtain⟨z,x⟩:=m.there;have j:b≠a:=EE x h;refine⟨b,h1,by rw[jB j];exact h2,m.mono (Sm.laid k) λB y=>by rw[jB j];exact y⟩
def Ext.HL(s:VA G H)(h:H a=eA):Ext own H G (EA H a o) (EA G a o):=by
 have k:G a=eA:=VA.free s h;refine⟨Sm.laid k,λb u e _=>VA.laid h b u e,λb e=>?_,λb e g _=>?_⟩
 ·by_cases j:b=a
  ·subst j;exact h
  ·rwa[jB j] at e
 ·by_cases j:b=a
  ·subst j;exact absurd h e
  ·rw[jB j];exact g
def BA.mI(r:BA K Y Z H G)(h:H a=eA):BA K Y Z (EA H a o) G:=by
 refine⟨r.len,r.sub.trans (VA.laid h),r.sh,λi d p l e=>?_,r.inj⟩;obtain⟨b,h1,h2,j⟩:=r.ow i d p l e;obtain⟨x,k⟩:=j.there;have m:b≠a:=EE k h;exact⟨b,h1,h2,j.mono (Sm.refl _) λy u=>by rw[jB m];exact u⟩
def Ext.mI(h:H a=eA):Ext own H G (EA H a o) G:=by
 refine⟨Sm.refl _,λb u e _=>VA.laid h b u e,λb e=>?_,λb e g _=>g⟩;by_cases j:b=a
 ·subst j;exact h
 ·rwa[jB j] at e
def BA.uS(r:BA K Y Z H G)(h:H a=eA):¬xA Y Z a:=λo=>(r.owned o).1 h
def VA.put(h:G a=eA):VA G (EA G a o):=VA.laid h
def iC.share(h:iC K H G (xA Y Z) new v x)(r:BA K Y Z H G)(I:∀a,new a->own a\/new' a) :
  ∃j,BA K Y Z H j/\VA G j/\(∀a,j a≠eA->G a≠eA\/new a)/\qA K j v.d x:=by
 have k:∀d,iC K H G (xA Y Z) new (.ow d) x->∃j,BA K Y Z H j/\VA G j/\(∀a,j a≠eA->G a≠eA\/new a)/\qA K j d x:=by
  intro d h;obtain⟨a,rfl,g,o,n,m⟩:=h;obtain⟨ob,B,C⟩:=o.put;refine⟨EA G a ob,⟨r.len,λb u e=>?_,λi d e=>?_,λi d p l e=>?_,r.inj⟩,VA.put g,λb z=>?_, ?_⟩
  ·by_cases y:b=a
   ·subst y;rw[GC] at e;rw[B];exact e
   ·rw[jB y] at e;exact r.sub b u e
  ·obtain⟨v,h1,h2⟩:=r.sh i d e;exact⟨v,h1,qA.mono (Sm.put g) d h2⟩
  ·obtain⟨b,h1,h2,F⟩:=r.ow i d p l e;have y:b≠a:=λz=>by subst z;exact n ⟨i,d,p,l,e,h1⟩
   exact⟨b,h1,by rw[jB y];exact h2,F.mono (Sm.put g) λ_ z=>z⟩
  ·by_cases y:b=a
   ·subst y;exact .inr m
   ·rw[jB y] at z;exact .inl z
  ·exact C _ (Sm.put g) GC
 induction v using RV.casesOn with
 |sh d=>exact⟨G,r,VA.refl _,λa z=>.inl z,h⟩
 |ow d=>exact k d h
 |od d=>exact k d h.low
end
end CI
namespace CI
set_option tactic.hygienic true
open PySem PySem.Spec PyProof.Rows L2
def vE:Option Sl->Option Sl->Prop
 |some (.ow _ p l),aA (.ow _ a b)=>p=a/\l=b
 |some (.ow _ p _),aA (.sh _)=>p=cA
 |some .un,aA .un=>True
 |some .mv,aA .mv=>True
 |some (.sh _),aA (.sh _)=>True
 |none,eA=>True
 |_,_=>False
def vE.refl(a:Option Sl):vE a a:=by
 cases a with
 |none=>trivial
 |some s=>cases s<;>first | trivial | exact⟨rfl,rfl⟩
theorem vE.trans(h:vE a b)(j:vE b c):vE a c:=by
 cases a with
 |none =>
  cases b with
  |none=>exact j
  |some t=>cases t<;>exact h.elim
 |some s =>
  cases b with
  |none=>cases s<;>exact h.elim
  |some t =>
   cases c with
   |none=>cases t<;>exact j.elim
   |some u=>cases s<;>cases t<;>first | exact h.elim | (cases u<;>first | exact j.elim | trivial | exact⟨h.1.trans j.1,h.2.trans j.2⟩ | exact h.1.trans j | exact h)
def vE.F9(h:vE a (aA (.ow d p l))):∃j,a=aA (.ow j p l):=by
 cases a with
 |none=>exact h.elim
 |some s=>cases s<;>first | exact h.elim | (obtain⟨rfl,rfl⟩:=h;exact⟨_,rfl⟩)
def CD(Y a:Env):Prop:=∀i:Nat,vE Y[i]? a[i]?
theorem CD.refl(Y:Env):CD Y Y:=λ_=>vE.refl _
theorem CD.trans(h:CD a b)(j:CD b c):CD a c:=λi=>(h i).trans (j i)
def CD.own(h:CD Y j)(a:lA)(o:xA j Z a):xA Y Z a:=by
 obtain⟨i,d,p,l,h1,h2⟩:=o
 have:=h i
 rw[h1] at this;obtain⟨k,e⟩:=this.F9;exact⟨i,k,p,l,e,h2⟩
theorem CD.set(h:vE Y[i]? (aA s)):CD Y (Y.set i s):=λj=>by
 by_cases k:j=i
 ·subst k;by_cases hl:j<Y.length
  ·rw[II hl];exact h
  ·rw[SK (by lia)] at h;cases s<;>exact h.elim
 ·rw[ZD (λz=>k z.symm)];exact vE.refl _
structure FA(K:jA)(Y:Env)(Z:St)(H G:Hp)(Y':Env)(H' G':Hp):Prop where
 wA:BA K Y' Z H' G'
 ext:Ext (xA Y Z) H G H' G'
 iH:CD Y Y'
section
variable{K:jA}
theorem FA.own(a:FA K Y Z H G j k m):∀a,xA j Z a->xA Y Z a:=λx h=>a.iH.own x h
theorem FA.refl(r:BA K Y Z H G):FA K Y Z H G Y H G:=⟨r,Ext.refl,CD.refl _⟩
theorem FA.trans(a:FA K Y Z H G j k m)(b:FA K j Z k m u y z):FA K Y Z H G u y z :=
 ⟨b.wA,a.ext.trans (λx h=>.inl (a.own x h)) b.ext,a.iH.trans b.iH⟩
abbrev rD(H:Hp):lA->Prop:=λa=>H a=eA
def FA.fresh(a:FA K Y Z H G k j m)(h:j x=eA):H x=eA:=a.ext.hx x h
def FA.jDa(a:FA K Y Z H G k m u)(h:iC K m u (xA k Z) (rD H) v x):∃j,FA K Y Z H G k m j/\qA K j v.d x/\VA u j:=by
 obtain⟨j,C,y,n2,h2⟩:=h.share (own:=λ_=>False) (new':=rD H) a.wA (λ_ z=>.inr z);refine⟨j,⟨C,⟨a.ext.gg.trans y,a.ext.hh,a.ext.hx,λb B F nb=>?_⟩,a.iH⟩,h2,y⟩
 cases e:j b with
 |none=>rfl
 |some o =>
  rcases n2 b (by rw[e];simp) with z | z
  ·exact absurd (a.ext.gn b B F nb) z
  ·exact absurd z B
def FA.share(a:FA K Y Z H G k m u)(h:iC K m u (xA k Z) (rD H) v x):∃j,FA K Y Z H G k m j/\qA K j v.d x:=let ⟨j,h1,h2,_⟩:=a.jDa h;⟨j,h1,h2⟩
theorem FA.HL(a:FA K Y Z H G k j m)(h:j p=eA):FA K Y Z H G k (EA j p o) (EA m p o) :=
 a.trans ⟨a.wA.HL h,Ext.HL a.wA.sub h,CD.refl _⟩
theorem FA.mI(a:FA K Y Z H G k j m)(h:j p=eA):FA K Y Z H G k (EA j p o) m :=
 a.trans ⟨a.wA.mI h,Ext.mI h,CD.refl _⟩
def FA.TY(a:FA K Y Z H G u j k)(h:j p=eA)(r:uA K k x m) :
  FA K Y Z H G u (EA j p (.l m)) k/\iC K (EA j p (.l m)) k (xA u Z) (rD H) (.ow (.l x)) (.ref p) :=
 ⟨a.mI h,p,rfl,VA.free a.wA.sub h,⟨m,GC,r⟩,a.wA.uS h,a.fresh h⟩
def FA.Ud(a:FA K Y Z H G x k m)(h:k p=eA)(r:uA K m u j) :
  FA K Y Z H G x (EA k p (.t j)) (EA m p (.t j))/\iC K (EA k p (.t j)) (EA m p (.t j)) (xA x Z) (rD H) (.sh (.t u)) (.ref p):=by
 refine⟨a.HL h, ?_⟩;show qA K _ (.t u) _;simp only[qA];exact⟨p,j,rfl,pC.of GC,uA.mono (Sm.laid (VA.free a.wA.sub h)) u r⟩
end
def xF:List Hd->List V->lA->Prop
 |.val (.ow _)::b,x::c,a=>x=.ref a\/xF b c a
 |_::b,_::c,a=>xF b c a
 |_,_,_=>False
def sD(K:jA)(H G:Hp)(own new:lA->Prop)(Z:St):List Hd->List V->Prop
 |[],b=>b=[]
 |h::c,b=>∃x r,b=x::r/\LD K H G own new Z h x/\sD K H G own new Z c r/\∀d a,h=.val (.ow d)->x=.ref a->¬xF c r a
section
variable(K:jA)(P:XA)(C:Calls)
def tE(c:E):TE:=λZ H Q=>∃(Y:Env) (G:Hp) (v:RV) (a:Env),BA K Y Z H G/\ev P C cA c Y=some (.ok v,a) /\
 ∀x b d,FA K Y Z H G a b d->iC K b d (xA a Z) (rD H) v x->Q x b
def tT(c:E):TT:=λZ H Q=>∃(Y:Env) (G:Hp) (b:Bool) (a:Env),BA K Y Z H G/\ev P C bA c Y=some (.ok (.sh (.bl b)),a) /\
 ∀d e,FA K Y Z H G a d e->Q b d
def tH(c:E):TE:=λZ H Q=>∃(Y:Env) (G:Hp) (h:Hd) (a:Env),BA K Y Z H G/\hd c (ev P C cA c Y) Y=some (.ok h,a) /\
 ∀x b d,FA K Y Z H G a b d->LD K b d (xA a Z) (rD H) Z h x->Q x b
def uK(f:List E):TA:=λZ H Q=>∃(Y:Env) (G:Hp) (a:List D) (b:Env),BA K Y Z H G/\AE P C f Y=some (.ok a,b) /\
 ∀c d e,FA K Y Z H G b d e->uA K e a c->Q c d
def mG(f:List E):TA:=λZ H Q=>∃(Y:Env) (G:Hp) (c:List Hd) (a:Env),BA K Y Z H G/\kC P C f Y=some (.ok c,a) /\
 ∀d b e,FA K Y Z H G a b e->sD K b e (xA a Z) (rD H) Z c d->Q d b
end
def TE.wC(h:PE X e t)(w:∀Z H Q,u Z H Q->t Z H Q):PE X e u:=λdA s Z H Q I q=>h dA s Z H Q I (w Z H Q q)
def TT.DL(h:PT X e t)(w:∀Z H Q,u Z H Q->t Z H Q):PT X e u:=λdA s Z H Q I q=>h dA s Z H Q I (w Z H Q q)
def TA.SR(h:PA X e t)(w:∀Z H Q,u Z H Q->t Z H Q):PA X e u:=λpos dA s Z H Q I q=>h pos dA s Z H Q I (w Z H Q q)
def fB{r:yA O}(h:r.bind f=some (.ok b,Y)):∃a c,r=some (.ok a,c)/\f a c=some (.ok b,Y):=by
 unfold yA.bind at h;split at h
 ·cases h
 ·cases h
 ·exact⟨_,_,rfl,h⟩
def zE(h:done o Y=some (.ok v,a)):o=aA v/\a=Y:=by
 unfold done at h
 cases o with
 |none=>cases h
 |some u=>simp only[JD,cC,SE,Out.ok.injEq] at h;exact⟨by rw[h.1],h.2.symm⟩
def B0{r:yA RV}{c:Env}(h:aAi bA r=some (.ok v,c)):∃u b,r=some (.ok u,c)/\DH u.d=aA b/\v=.sh (.bl b):=by
 obtain⟨u,j,f,a⟩:=fB h
 cases e:DH u.d with
 |none=>rw[e] at a;cases a
 |some b =>
  rw[e] at a;simp only[JD,cC,SE,Out.ok.injEq] at a;obtain⟨g,i⟩:=a;subst i;exact⟨u,b,f,e,g.symm⟩
section
variable{K:jA}{P:XA}{C:Calls}{Z:St}{H:Hp}
def vK{X:Cx}{c:E}(h:PE X e (tE K P C c))(n:∀i,c≠.v i):PE X e (tH K P C c):=by
 refine TE.wC h λZ H Q q=>?_
 obtain⟨Y,G,f,b,r,d,k⟩:=q
 have:hd c (ev P C cA c Y) Y=(ev P C cA c Y).bind λv b=>some (.ok (.val v.low),b):=by
  induction c using E.casesOn with
  |v=>exact absurd rfl (n _)
  |_=>rfl
 rw[this] at d;obtain⟨v,p,g,j⟩:=fB d;cases j;exact⟨Y,G,v,_,r,g,λx l m a o=>k x l m a (LD.of o)⟩
def B_(h:PE X e (zH i)):PE X e (tE K P C (.v i)):=by
 refine TE.wC h λZ H Q q=>?_
 obtain⟨Y,G,v,Y',r,s,k⟩:=q;replace s:aAK i Y=_:=s;unfold aAK at s;split at s
 ·rename_i d hd;cases s;obtain⟨x,y,M⟩:=r.sh i d hd;exact⟨x,y,k x H G (FA.refl r) M⟩
 ·rename_i d hd;cases s;obtain⟨a,y,g,o⟩:=r.ow i d _ _ hd;refine⟨.ref a,y, ?_⟩;obtain⟨N,O,I⟩:=o.put;have R:i<Y.length:=(lD.mp hd).1
  have c:∀(j:Nat) (sl:Sl),(Y.set i (.sh d))[j]?=aA sl->(j=i/\sl=.sh d)\/(j≠i/\Y[j]?=aA sl):=λj sl n=>by
   by_cases t:j=i
   ·subst t;rw[II R] at n;exact .inl ⟨rfl,(pD n).symm⟩
   ·rw[ZD (λz=>t z.symm)] at n;exact .inr ⟨t,n⟩
  have J:∀b,xA (Y.set i (.sh d)) Z b->xA Y Z b:=λb U=>by
   obtain⟨j,A,p,l,f,m⟩:=U;rcases c j _ f with ⟨_,z⟩ | ⟨_,z⟩
   ·cases z
   ·exact⟨j,A,p,l,z,m⟩
  refine k (.ref a) H (EA G a N) ⟨⟨?_,λb u z=>?_,λj A n=>?_,λj A p l n=>?_,λj k' d1 p1 l1 d2 p2 l2 b f m B h6=>?_⟩,⟨Sm.put g,λ_ _ z _=>z,λ_ z=>z,λb f m B=>?_⟩,CD.set (by rw[hd];rfl)⟩ ?_
  ·rw[PF];exact r.len
  ·by_cases w:b=a
   ·subst w;rw[GC] at z;rw[O];exact z
   ·rw[jB w] at z;exact r.sub b u z
  ·rcases c j _ n with ⟨rfl,z⟩ | ⟨_,z⟩
   ·cases z;exact⟨_,y,I _ (Sm.put g) GC⟩
   ·obtain⟨x,f,m⟩:=r.sh j A z;exact⟨x,f,qA.mono (Sm.put g) A m⟩
  ·rcases c j _ n with ⟨_,z⟩ | ⟨ne,z⟩
   ·cases z
   ·obtain⟨b,f,m,B⟩:=r.ow j A p l z;have w:b≠a:=λe=>by subst e;exact ne (r.inj _ _ _ _ _ _ _ _ _ z hd f y)
    exact⟨b,f,by rw[jB w];exact m,B.mono (Sm.put g) λ_ z=>z⟩
  ·rcases c j _ f with ⟨_,z⟩ | ⟨_,z⟩
   ·cases z
   ·rcases c k' _ m with ⟨_,F⟩ | ⟨_,F⟩
    ·cases F
    ·exact r.inj _ _ _ _ _ _ _ _ _ z F B h6
  ·by_cases w:b=a
   ·subst w;exact absurd ⟨i,_,_,_,hd,y⟩ B
   ·rw[jB w];exact m
  ·exact I _ (Sm.put g) GC
 ·cases s
def C_(h:PE X e (zH i)):PE X e (tH K P C (.v i)):=by
 refine TE.wC h λZ H Q q=>?_
 obtain⟨Y,G,c,f,r,a,k⟩:=q;replace a:(if((Y[i]?).bind Sl.get).isSome then aA (Out.ok (Hd.slot i),Y) else eA)=_:=a;split at a
 ·rename_i d;cases a;obtain⟨x,b⟩:=r.bound d;exact⟨x,b,k x H G (FA.refl r) b⟩
 ·cases a
def UZ(s:VA G H)(h:GB K H G d x)(e:DH d=aA b):xQ K x H b:=by
 cases d<;>simp only[DH,cC,reduceCtorEq] at e
 ·have:=h.nA;subst this;exact e.symm
 ·have:=h.bl;subst this;exact e.symm
 ·have:=h.int;subst this;exact e.symm
 ·split at e
  ·rename_i i;obtain⟨rfl,_⟩:=h.str;exact⟨KC i (by decide),(pD e).symm⟩
  ·cases e
 ·obtain⟨a,c,rfl,f,g⟩:=h.t s;refine .inr (.inl ⟨c,f, ?_⟩);rw[<- e]
  have:=g.len
  cases c<;>cases ‹List D›<;>simp_all
 ·obtain⟨a,c,rfl,f,g⟩:=h.l s;refine .inl ⟨c,f, ?_⟩;rw[<- e]
  have:=g.len
  cases c<;>cases ‹List D›<;>simp_all
def pAa(f:X.K=K)(h:PE X e (tE K P C c))(g:∀Y,ev P C bA c Y=aAi bA (ev P C cA c Y))
  (i:∀whole,isTrue e X.env whole=(do let v <- whole;standAt e.pos;holding [v] (truthy v))):PT X e (tT K P C c):=by
 refine TT.DL (xa h i) λZ H Q q=>?_
 obtain⟨Y,G,b,j,r,d,k⟩:=q;rw[g] at d;obtain⟨u,t,l,m,n⟩:=B0 d;cases n;refine⟨Y,G,u,j,r,l,λx o p a s=>⟨b, ?_,k o p a⟩⟩;rw[f];exact UZ a.wA.sub s.tN m
end
end CI
namespace CI
set_option tactic.hygienic true
open PySem PySem.Spec PyProof.Rows L2
def OY{M:D->Prop}{n:Nat}{d:D}(h:nB n d=bA)(c:M .nA)(e:∀b,M (.bl b))(f:∀i,M (.int i))(g:∀t,M (.str t))(j:∀m a,n=m+1->(∀x∈a,nB m x=bA)->M (.t a))(k:∀m a,n=m+1->(∀x∈a,nB m x=bA)->M (.l a)):M d:=by
 induction d using D.casesOn with
 |nA=>exact c
 |bl=>exact e _
 |int=>exact f _
 |str=>exact g _
 |t a=>cases n with
  |zero=>cases h
  |succ n=>exact j _ _ rfl (sF.mp h)
 |l a=>cases n with
  |zero=>cases h
  |succ n=>exact k _ _ rfl (sF.mp h)
 |_=>cases n<;>cases h
def Rm{n:Nat}(g:∀d e,nB n d=bA->nB n e=bA->LK (BC d) (BC e)=gE d e)(b:List D):∀a:List D,(∀d∈b,nB n d=bA)->(∀d∈a,nB n d=bA)->PyData.eqvAll (yJ b) (yJ a)=sL b a:=by
 induction b with
 |nil =>
  intro a;cases a<;>exact λ_ _=>rfl
 |cons d b i =>
  intro a
  cases a with
  |nil=>exact λ_ _=>rfl
  |cons e a=>exact λh f=>congr (congrArg and (g d e (h d (by simp)) (f e (by simp)))) (i a (λx c=>h x (by simp[c])) λx c=>f x (by simp[c]))
def S5(n:Nat):∀d e:D,nB n d=bA->nB n e=bA->LK (BC d) (BC e)=gE d e:=by
 induction n using Zf with | ind n i =>
 intro d e h j
 refine OY (M:=λd=>LK (BC d) (BC e)=gE d e) h ?_ (λ_=>?_) (λ_=>?_) (λ_=>?_) (λm c b hd=>?_) (λm c b hd=>?_)<;>refine OY (M:=λe=>LK (BC _) (BC e)=gE _ e) j ?_ (λ_=>?_) (λ_=>?_) (λ_=>?_) (λk f a g=>?_) (λk f a g=>?_)<;>first | rfl | (cases b.symm.trans a;exact Rm (i m (y1 (CJ m) b.symm)) c f hd g)
section
variable{K:jA}
def dZ{s:HA}{n:Nat}(e:∀(d:D) (x:V) (u:gA),nB n d=bA->qA K G d x->aAf x u->∃as,OK s.heap u (BC d) as/\QN (BC d)=bA/\gQ (BC d)<=n)(a:List D):∀(b:List V) (c:List gA),(∀d∈a,nB n d=bA)->uA K G a b->aAd b c->∃as,ReadsAll s.heap c (yJ a) as/\Gf (yJ a)=bA/\PyData.depthAll (yJ a)<=n:=by
 induction a with
 |nil =>
  intro b c _ h r;cases (show b=[] from h);cases r;exact⟨_,ReadsAll.nil,rfl,FI _⟩
 |cons d a f =>
  intro b c ok h r;obtain⟨v,g,rfl,i,j⟩:=h
  cases r with
  |cons k l =>
   obtain⟨as,m,o,p⟩:=e d v _ (ok d (by simp)) i k;obtain⟨bs,q,t,w⟩:=f g _ (λx y=>ok x (by simp[y])) j l;exact⟨_,ReadsAll.cons m q,by simp[yJ,Gf,o,t],Nat.max_le.mpr ⟨p,w⟩⟩
def bZ(I:kA X dA Z H s)(A:X.K=K)(sub:VA G H)(n:Nat):∀(d:D) (x:V) (u:gA),nB n d=bA->qA K G d x->aAf x u->∃as,OK s.heap u (BC d) as/\QN (BC d)=bA/\gQ (BC d)<=n:=by
 induction n using Zf with | ind n B =>
 intro d x u ok;refine OY (M:=λd=>qA K G d x->aAf x u->∃as,OK s.heap u (BC d) as/\QN (BC d)=bA/\gQ (BC d)<=n) ok (λh r=>?_) (λb h r=>?_) (λb h r=>?_) (λb h r=>?_) (λm i f hd h r=>?_) (λm i f hd h r=>?_)
 ·cases (show x=_ from h);cases r;exact⟨_,Reads.none,rfl,FI _⟩
 ·cases (show x=_ from h);cases r;exact⟨_,Reads.bool b,rfl,FI _⟩
 ·cases (show x=_ from h);obtain⟨t,rfl⟩:=r;exact⟨_,Reads.int b t,rfl,FI _⟩
 ·obtain⟨rfl,C⟩:=h;obtain⟨t,rfl⟩:=r;exact⟨_,Reads.str b t,by simpa[BC,QN] using C,FI _⟩
 ·obtain⟨a,g,rfl,j,l⟩:=h;cases r;obtain⟨c,p,⟨o,q,v,k,e⟩,F⟩:=I.tuple (show pC X.K H a g from A ▸ vJ sub j);obtain⟨as,w,y,z⟩:=dZ (B m (y1 (CJ m) f.symm)) i g c hd l p;exact⟨_,Reads.tuple q v e (by simpa using w),y,f ▸ Of z⟩
 ·obtain⟨a,g,rfl,j,l⟩:=h;cases r;obtain⟨c,p,⟨o,k,q,v,J,e⟩,F⟩:=I.list (show qB X.K H a g from A ▸ sub.seq j);obtain⟨as,w,y,z⟩:=dZ (B m (y1 (CJ m) f.symm)) i g c hd l p;exact⟨_,Reads.list q v e (by simpa using w),y,f ▸ Of z⟩
def cZ(I:kA X dA Z H s)(c:X.K=K)(sub:VA G H)(n:Nat)(d:D)(x:V)(u:gA)(ok:nB n d=bA)(h:GB K H G d x)(r:aAf x u):∃as,OK s.heap u (BC d) as/\QN (BC d)=bA/\gQ (BC d)<=n:=by
 rcases h with h | ⟨a,rfl,h⟩
 ·exact bZ I c sub n d x u ok h r
 ·cases r
  cases d<;>first | exact h.elim | skip
  case ins=>cases n<;>cases ok
  rename_i e;obtain⟨f,g,i⟩:=h
  cases n with
  |zero=>cases ok
  |succ n =>
   obtain⟨b,j,⟨o,m,k,l,t,hd⟩,v⟩:=I.list (qB.of g);obtain⟨as,p,q,w⟩:=dZ (bZ I c sub n) e f b (sF.mp ok) i j;exact⟨_,Reads.list k l hd (by simpa using p),by simpa[BC,QN] using q,by simp[BC,gQ];lia⟩
def Made(K:jA)(H G:Hp)(v:RV)(x:V)(c:Hp):Prop :=
 (∃d,v=.sh d/\qA K G d x/\c=H) \/
 (∃a b p,v=.ow (.l a)/\H p=eA/\uA K G a b/\x=.ref p/\c=EA H p (.l b)) \/
 (∃a b p,v=.sh (.t a)/\H p=eA/\uA K G a b/\x=.ref p/\c=EA H p (.t b))
def EY(h:∃a b p,v=.sh (.t a)/\H p=eA/\uA K G a b/\x=.ref p/\c=EA H p (.t b)):Made K H G v x c :=
 .inr (.inr h)
def FA.made(a:FA K Y Z j z k H G)(m:Made K H G v x u) :
  ∃y,FA K Y Z j z k u y/\iC K u y (xA k Z) (rD j) v x:=by
 rcases m with ⟨d,rfl,h,rfl⟩ | ⟨B,C,p,rfl,h,r,rfl,rfl⟩ | ⟨B,C,p,rfl,h,r,rfl,rfl⟩
 ·exact⟨G,a,h⟩
 ·exact⟨_,a.TY h r⟩
 ·exact⟨_,a.Ud h r⟩
def yAa(K:jA)(op:MK):R2:=λx y H Q=>∃G d e v,VA G H/\GB K H G d x/\GB K H G e y/\(op=.Mult->∀b,d=.l b->∃a c,x=.ref a/\H a=aA (.l c)/\uA K G b c)/\xB op d e=aA v/\∀z f,Made K H G v z f->Q z f
def aAm:Made K H G (.sh (.int i)) (.int i) H:=.inl ⟨_,rfl,by simp[qA],rfl⟩
def gw:Made K H G (.sh (.bl i)) (.bl i) H:=.inl ⟨_,rfl,by simp[qA],rfl⟩
def pK(h:NA n=bA):n<=sizeLine:=KC (@of_decide_eq_true _ (cl _) h) (by decide)
def sP(I:kA X dA Z H s)(h:qB X.K H a c):∃(b:List gA),aAd c b/\s.heap.IsList a b.toArray/\c.length<=sizeLine:=by
 obtain⟨b,r,p,z⟩:=I.list h;exact⟨b,r,p.isList,z⟩
def zAa(K:jA):R2:=λx y H Q=>∃l b a c,x=.ref l/\y=.ref b/\qB K H l a/\qB K H b c/\a.length+c.length<=sizeLine/\∀p,H p=eA->Q (.ref p) (EA H p (.l (a++c)))
def gz:RB X (zD .Add) (zAa X.K):=by
 intro dA s Z H x y v u Q I t w h;obtain⟨l,b,N,O,rfl,rfl,A,B,P,q⟩:=h;cases t;cases w;obtain⟨c,r,hl,z⟩:=sP I A;obtain⟨a,k,g,R⟩:=sP I B;have U:=r.length;have Y:=k.length;obtain⟨⟨cls,C,data,sl⟩,m,o,n,hd⟩:=id hl;obtain⟨⟨p,i,data2,j⟩,d,e,J,f⟩:=id g;simp only at o hd e f;subst o hd e f;refine dU ⟨_,m,rfl⟩ ⟨_,d,rfl⟩ noFill_list_add seq_list_add PySem.F.slot_list_add PySem.F.entry_list_add (PySem.F.args_list_add_2 _ _) (list_addW l b c.toArray a.toArray n J C i sl j (by simp;lia)) ⟨m,d, ?_⟩;have M:c.toArray++a.toArray=(c++a).toArray:=by simp
 rw[M];exact⟨.ref _,_,I.AY (t':=s.toks) (r.append k) (by rw[PB];lia),rfl,q _ I.fresh⟩
def jz:RB X (zD .FloorDiv) (rI (λ_ j=>0<j/\j<100000000000000000000000000000000000000000000000000000000000000000000000000000000) λi j=>.int (i / j)):=dP λi j _ _ _ _ _ a q=>by
 have c:(0:Int)<j:=a.1;have d:j<100000000000000000000000000000000000000000000000000000000000000000000000000000000:=a.2;have b:j.natAbs<2 ^ 300:=aE (by omega:j.natAbs<100000000000000000000000000000000000000000000000000000000000000000000000000000000) (by decide);have e:j.natAbs.log2<300:=(W2 (by omega)).mpr b;exact PyProof.Rows.floordiv_int (by omega) (by rw[Ce i (by omega)];exact q) (.inl (PyProof.noPylong_of_log2 (by omega)))
def bB(e:eA=aA v):False:=nomatch e
def fz:RB X (zD .Add) (λx y H Q=>∃a b k,x=.ref a/\y=.ref b/\pC X.K H a []/\pC X.K H b k/\Q (.ref b) H):=by
 intro dA s Z H x y v u Q I p r h;obtain⟨a,b,k,rfl,rfl,t,w,q⟩:=h;cases p;cases r;obtain⟨g,z,A,_⟩:=I.tuple t;obtain⟨c,M,p2,_⟩:=I.tuple w;have B:g=[]:=z.rS.mpr rfl;subst B;obtain⟨⟨cls,C,data,sl⟩,l,m,n,hd⟩:=id A;obtain⟨⟨o,i,data2,j⟩,d,e,J,f⟩:=id p2;simp only at m hd e f;subst m hd e f
 exact dU ⟨_,l,rfl⟩ ⟨_,d,rfl⟩ K1 C2 P0 L0 (J0 _ _)
  (tuple_addW0 a b [].toArray c.toArray n J C i sl j rfl) ⟨l,d,⟨.ref b,H,I,rfl,q⟩⟩
def hFa(a:gC x=bA)(b:gC y=bA):gC (x++y)=bA:=by
 show(x.cps++y.cps).all _=bA;rw[Array.all_append,IA];exact⟨a,b⟩
def Jj(h:xB .Sub d e=aA w):∃i j,d=.int i/\e=.int j/\w=.sh (.int (i-j)):=by
 induction d using D.casesOn with
 |int=>induction e using D.casesOn with
  |int=>cases h;exact⟨_,_,rfl,rfl,rfl⟩
  |_=>exact(bB h).elim
 |_=>exact(bB h).elim
def Fj(h:xB .FloorDiv d e=aA w):∃i j,d=.int i/\e=.int j/\(0<j/\j<100000000000000000000000000000000000000000000000000000000000000000000000000000000)/\w=.sh (.int (i / j)):=by
 induction d using D.casesOn with
 |int=>induction e using D.casesOn with
  |int =>
   change @ite _ _ (cl _) _ eA=_ at h;split at h
   ·rename_i a;cases h;exact⟨_,_,rfl,rfl,a,rfl⟩
   ·cases h
  |_=>exact(bB h).elim
 |_=>exact(bB h).elim
def Hj(h:xB .Mod d e=aA w):∃i j,d=.int i/\e=.int j/\0<j/\w=.sh (.int (i % j)):=by
 induction d using D.casesOn with
 |int=>induction e using D.casesOn with
  |int =>
   change @ite _ _ (cl _) _ eA=_ at h;split at h
   ·rename_i a;cases h;exact⟨_,_,rfl,rfl,a,rfl⟩
   ·cases h
  |_=>exact(bB h).elim
 |_=>exact(bB h).elim
def Gj(h:xB .LShift d e=aA w):∃i j,d=.int i/\e=.int j/\E3 i j/\w=.sh (.int (i*2 ^ j.toNat)):=by
 induction d using D.casesOn with
 |int=>induction e using D.casesOn with
  |int =>
   change @ite _ _ (cl _) _ eA=_ at h;split at h
   ·rename_i a;cases h;exact⟨_,_,rfl,rfl,⟨a.1,by omega,a.2.2⟩,rfl⟩
   ·cases h
  |_=>exact(bB h).elim
 |_=>exact(bB h).elim
def Ij(h:xB .RShift d e=aA w):∃i j,d=.int i/\e=.int j/\0<=j/\w=.sh (.int (i / 2 ^ j.toNat)):=by
 induction d using D.casesOn with
 |int=>induction e using D.casesOn with
  |int =>
   change @ite _ _ (cl _) _ eA=_ at h;split at h
   ·rename_i a;cases h;exact⟨_,_,rfl,rfl,a,rfl⟩
   ·cases h
  |_=>exact(bB h).elim
 |_=>exact(bB h).elim
def Dj(h:xB .BitAnd d e=aA w):∃i j,d=.int i/\e=.int j/\w=.sh (.int (KN i j)):=by
 induction d using D.casesOn with
 |int=>induction e using D.casesOn with
  |int=>cases h;exact⟨_,_,rfl,rfl,rfl⟩
  |_=>exact(bB h).elim
 |_=>exact(bB h).elim
def Ej(h:xB .BitOr d e=aA w):∃i j,d=.int i/\e=.int j/\w=.sh (.int (zJ i j)):=by
 induction d using D.casesOn with
 |int=>induction e using D.casesOn with
  |int=>cases h;exact⟨_,_,rfl,rfl,rfl⟩
  |_=>exact(bB h).elim
 |_=>exact(bB h).elim
def GQ{f:Int->Int->Int}(h:RB X (zD op) (rI P λi j=>.int (f i j)))(I:kA X dA Z H s)(b:aAf x v)(c:aAf y u)(g:GB X.K H G d x)(l:GB X.K H G e y)(k:∀z a,Made X.K H G w z a->Q z a)(z:∃i j,d=.int i/\e=.int j/\P i j/\w=.sh (.int (f i j))) :
  JA (model X.prog X.w) X.A (zD op v u) (EP X dA Z Q) X.xe s:=by
 obtain⟨i,j,rfl,rfl,m,rfl⟩:=z;exact h dA s Z H x y v u Q I b c ⟨i,j,g.int,l.int,m,k _ _ aAm⟩
def qV{f:Int->Int->Int}(h:RB X (zD op) (qH λi j=>.int (f i j)))(I:kA X dA Z H s)(b:aAf x v)(c:aAf y u)(g:GB X.K H G d x)(l:GB X.K H G e y)(k:∀z a,Made X.K H G w z a->Q z a)(z:∃i j,d=.int i/\e=.int j/\w=.sh (.int (f i j))) :
  JA (model X.prog X.w) X.A (zD op v u) (EP X dA Z Q) X.xe s:=by
 obtain⟨i,j,rfl,rfl,rfl⟩:=z;exact h dA s Z H x y v u Q I b c ⟨i,j,g.int,l.int,k _ _ aAm⟩
def Oj(hK:X.K=K)(op:MK):RB X (zD op) (yAa K op):=by
 intro dA s Z H x y v u Q I g i h;obtain⟨G,d,e,w,sub,j,f,hm,c,k⟩:=h;subst hK
 cases op with
 |Add =>
  induction d using D.casesOn with
  |int =>
   induction e using D.casesOn with
   |int =>
    cases j.int;cases f.int;change aA _=_ at c;cases c;exact cz dA s Z H _ _ _ _ Q I g i ⟨_,_,rfl,rfl,k _ _ aAm⟩
   |_=>exact(bB c).elim
  |l B =>
   induction e using D.casesOn with
   |l ys =>
    change (if NA (B.length+ys.length) then aA _ else eA)=_ at c;split at c
    ·rename_i o;cases c;obtain⟨a,q,rfl,r,n⟩:=j.l sub;obtain⟨b,C,rfl,F,A⟩:=f.l sub;refine gz dA s Z H _ _ _ _ Q I g i ⟨a,b,q,C,rfl,rfl,r,F, ?_,λp J=>k _ _ (.inr (.inl ⟨_,_,p,rfl,J,n.app A,rfl,rfl⟩))⟩;rw[n.len,A.len];exact pK o
    ·cases c
   |_=>exact(bB c).elim
  |str M =>
   induction e using D.casesOn with
   |str y0 =>
    change @ite _ (M.length+y0.length<=1000000) (cl _) _ eA=_ at c;split at c
    ·rename_i o;cases c;obtain⟨rfl,R⟩:=j.str;obtain⟨rfl,o2⟩:=f.str;exact dz dA s Z H _ _ _ _ Q I g i ⟨_,_,rfl,rfl,KC o (by decide),k _ _ (.inl ⟨_,rfl,by unfold qA;exact⟨rfl,hFa R o2⟩,rfl⟩)⟩
    ·cases c
   |_=>exact(bB c).elim
  |t B =>
   cases B with
   |nil =>
    induction e using D.casesOn with
    |t t =>
     change aA _=_ at c;cases c;have l:=f;obtain⟨a,q,rfl,r,n⟩:=j.t sub;obtain⟨b,C,rfl,F,A⟩:=f.t sub;have N:q=[]:=Ke.mp n.len;subst N;refine fz dA s Z H _ _ _ _ Q I g i ⟨a,b,C,rfl,rfl,r,F, ?_⟩;rcases l with l | ⟨_,_,l⟩
     ·exact k _ _ (.inl ⟨_,rfl,l,rfl⟩)
     ·exact l.elim
    |_=>exact(bB c).elim
   |cons M O =>
    induction e using D.casesOn with
    |t t =>
     change (if NA (O.length+1+t.length) then aA _ else eA)=_ at c;split at c
     ·rename_i o;cases c;have m:=j;obtain⟨a,q,rfl,r,n⟩:=j.t sub;obtain⟨b,C,rfl,F,A⟩:=f.t sub;have N:=n.len;have U:=A.len;refine iz dA s Z H _ _ _ _ Q I g i ⟨a,b,q,C,rfl,rfl,r,F, ?_, ?_,λY=>?_,λY p J=>?_⟩
      ·intro z;subst z;simp at N
      ·rw[N,U];exact pK o
      ·subst Y;have e3:t=[]:=Ke.mp U.symm;subst e3;rcases m with m | ⟨_,_,m⟩
       ·exact k _ _ (.inl ⟨_,rfl,by simpa using m,rfl⟩)
       ·exact m.elim
      ·exact k _ _ (EY ⟨_,_,p,rfl,J,n.app A,rfl,rfl⟩)
     ·cases c
    |_=>exact(bB c).elim
  |_=>exact(bB c).elim
 |Sub=>exact qV Cz I g i j f k (Jj c)
 |Mult =>
  induction d using D.casesOn with
  |int =>
   induction e using D.casesOn with
   |int =>
    cases j.int;cases f.int;change @ite _ _ (cl _) _ eA=_ at c;split at c
    ·cases c;exact uz dA s Z H _ _ _ _ Q I g i ⟨_,_,rfl,rfl,‹_›,k _ _ aAm⟩
    ·cases c
   |_=>exact(bB c).elim
  |l B =>
   induction e using D.casesOn with
   |int P =>
    change @ite _ (-(2 ^ 31)<=P/\P<=1000/\NA (B.length*P.toNat)) (cl _) _ eA=_ at c;split at c
    ·rename_i hc;cases c;cases f.int;obtain⟨a,q,rfl,r,n⟩:=hm rfl _ rfl;refine zz dA s Z H _ _ _ _ Q I g i ⟨a,_,q,rfl,rfl,r,by omega,by omega, ?_,λp J=>k _ _ (.inr (.inl ⟨_,_,p,rfl,J,n.rep _,rfl,rfl⟩))⟩;rw[n.len];exact pK hc.2.2
    ·cases c
   |_=>exact(bB c).elim
  |str M =>
   induction e using D.casesOn with
   |int n0 =>
    change @ite _ (MulOk M n0/\gC (kU M n0)=bA) (cl _) _ eA=_ at c;split at c
    ·rename_i o;cases c;obtain⟨rfl,R⟩:=j.str;cases f.int;exact vz dA s Z H _ _ _ _ Q I g i ⟨_,_,rfl,rfl,o.1,k _ _ (.inl ⟨_,rfl,by unfold qA;exact⟨rfl,o.2⟩,rfl⟩)⟩
    ·cases c
   |_=>exact(bB c).elim
  |_=>exact(bB c).elim
 |FloorDiv=>exact GQ jz I g i j f k (Fj c)
 |Mod=>exact GQ qz I g i j f k (Hj c)
 |Pow=>exact(bB c).elim
 |LShift=>exact GQ Az I g i j f k (Gj c)
 |RShift=>exact GQ Bz I g i j f k (Ij c)
 |BitAnd=>exact qV ez I g i j f k (Dj c)
 |BitOr=>exact qV yz I g i j f k (Ej c)
 |_=>exact(bB c).elim
def nP(K:jA)(op:pG):R2:=λx y H Q=>∃G d e b,VA G H/\GB K H G d x/\GB K H G e y/\vB op d e=aA b/\Q (.bl b) H
def UM(h:qA K G d x)(f:ZC d=bA):gI x=bA/\∀(e:D) (y:V),qA K G e y->ZC e=bA->XI y x=gE e d:=by
 cases d<;>simp only[ZC,KI] at f<;>simp only[qA] at h
 ·subst h;refine⟨rfl,λe y a b=>?_⟩;cases e<;>simp only[ZC,KI] at b<;>simp only[qA] at a<;>(first | subst a | (obtain⟨rfl,_⟩:=a))<;>rfl
 ·subst h;refine⟨rfl,λe y a b=>?_⟩;cases e<;>simp only[ZC,KI] at b<;>simp only[qA] at a<;>(first | subst a | (obtain⟨rfl,_⟩:=a))<;>rfl
 ·subst h;refine⟨rfl,λe y a b=>?_⟩;cases e<;>simp only[ZC,KI] at b<;>simp only[qA] at a<;>(first | subst a | (obtain⟨rfl,_⟩:=a))<;>rfl
 ·obtain⟨rfl,_⟩:=h;refine⟨rfl,λe y a b=>?_⟩;cases e<;>simp only[ZC,KI] at b<;>simp only[qA] at a<;>(first | subst a | (obtain⟨rfl,_⟩:=a))<;>rfl
def GB.flat(h:GB K H G d x)(f:ZC d=bA):qA K G d x:=by
 rcases h with h | ⟨a,rfl,h⟩
 ·exact h
 ·cases d<;>first | exact h.elim | cases f
theorem OO(h:qA K G d x)(f:ZC d=bA):∀{c:List D} {a:List V},uA K G c a->c.all ZC=bA->a.all gI=bA/\TR x a=inD d c
 |[],a,b,_=>by simp only[uA] at b;subst b;exact⟨rfl,rfl⟩
 |e::c,a,b,fs=>by
  simp only[uA] at b;obtain⟨y,r,rfl,g,i⟩:=b;rw[IB,IA] at fs;obtain⟨j,k⟩:=OO h f i fs.2;obtain⟨l,_⟩:=UM g fs.1;have m:=(UM h f).2 e y g fs.1;refine⟨by rw[IB,l,j];rfl, ?_⟩
  unfold TR inD at *
  rw[oM,oM,k,m]
def Oa(I:kA X dA Z H s)(a:X.K=K)(sub:VA G H)(hu:A.units+20<cLine)(od:nB 20 d=bA)(b:nB 20 e=bA)(i:GB K H G d x)(j:GB K H G e y)(k:aAf x v)(l:aAf y u) :
  SeqAt.RcAt A s v u (gE d e)/\SeqAt.RcNeAt A s v u (!gE d e):=by
 obtain⟨as,c,f,m⟩:=cZ I a sub 20 d x v od i k;obtain⟨bs,g,h,n⟩:=cZ I a sub 20 e y u b j l;rw[<- S5 20 d e od b];exact⟨SeqAt.rcAt_reads c g f h (by lia),SeqAt.rcNeAt_reads c g f h (by lia)⟩
theorem R3(I:kA X dA Z H s)(i:X.K=K)(sub:VA G H)(j:∀y g as,OK s.heap y g as->g.canLay0=bA->e y=LK g (BC d))(od:nB 19 d=bA) :
  ∀{f:List D} {k:List V} {b:List gA},uA K G f k->aAd k b->f.all (nB 19)=bA->b.any e=inD d f/\∀y∈b,∃a as,nB 19 a=bA/\OK s.heap y (BC a) as/\(BC a).canLay0=bA/\(BC a).depth<=19
 |[],_,_,h,r,_=>by
  cases (show _=[] from h);cases r;exact⟨rfl,λy c=>nomatch c⟩
 |a::f,_,_,h,r,o=>by
  obtain⟨x,p,rfl,q,t⟩:=h;rw[IB,IA] at o
  cases r with
  |cons v w =>
   rename_i u B;obtain⟨as,l,m,z⟩:=bZ I i sub 19 a x u o.1 q v;obtain⟨n,A⟩:=R3 I i sub j od t w o.2;refine⟨?_,λy c=>?_⟩
   ·unfold inD at n ⊢;rw[oM,oM,n,j u _ _ l m,S5 19 a d o.1 od]
   ·rcases mD.mp c with rfl | c
    ·exact⟨a,as,o.1,l,m,z⟩
    ·exact A y c
def c7(I:kA X dA Z H s)(i:X.K=K)(sub:VA G H)(hu:X.A.units+40<cLine)(od:nB 19 d=bA)(os:g.all (nB 19)=bA)(C:GB K H G d x)(F:aAf x v)(hl:qB K H a m)(J:uA K G g m){E:gA->HA->Prop} :
  (Q (.bool (inD d g)) s->JA (model X.prog X.w) X.A (KD .In v (.ref a)) Q E s)/\(Q (.bool (!inD d g)) s->JA (model X.prog X.w) X.A (KD .NotIn v (.ref a)) Q E s):=by
 obtain⟨c,r,n,o⟩:=I.list (show qB X.K H a m from i ▸ hl);obtain⟨as,M,N,a3⟩:=cZ I i sub 19 d x v od C F
 have h:∃e:gA->Bool,∀y b bs,OK s.heap y b bs->b.canLay0=bA->e y=LK b (BC d):=by
  refine⟨λy=>@ite _ (∃b bs,OK s.heap y b bs/\b.canLay0=bA/\LK b (BC d)=bA) (cl _) bA cA,λy b bs p t=>?_⟩
  cases q:LK b (BC d) with
  |true=>exact QA ⟨b,bs,p,t,q⟩
  |false =>
   refine pB λo=>?_
   obtain⟨j,l,O,h4,P⟩:=o;rw[SeqAt.Reads.unique b j y bs l t p O,P] at q;cases q
 obtain⟨e,h⟩:=h;obtain⟨R,U⟩:=R3 I i sub h od J r os
 have f:∀y,y∈c.toArray->y3 X.A.in1 s y v (e y):=λy Y=>by(obtain⟨dj,bs,oj,u,z,b3⟩:=U y (by simpa using Y);rw[h y _ _ u z];have hun:X.A.in1.units=X.A.units+1:=rfl;exact SeqAt.eqAt_reads _ _ _ _ _ _ _ _ u M z N (by lia))
 have B:c.toArray.any e=inD d g:=by rw[show c.toArray.any e=c.any e by simp,R]
 exact⟨λk=>Xf e n.isList f (by rw[B];exact k),λk=>zf e n.isList f (by rw[B];exact k)⟩
def Sa(h:GB K H G d x):decide (x=.nA)=LY d:=by
 rcases h with h | ⟨a,rfl,h⟩
 ·induction d using D.casesOn with
  |nA=>simp only[qA] at h;subst h;rfl
  |bl=>simp only[qA] at h;subst h;rfl
  |int=>simp only[qA] at h;subst h;rfl
  |str=>simp only[qA] at h;rw[h.1];rfl
  |t=>simp only[qA] at h;obtain⟨a,_,rfl,_⟩:=h;rfl
  |l=>simp only[qA] at h;obtain⟨a,_,rfl,_⟩:=h;rfl
  |_=>simp only[qA] at h<;>first | exact h.elim | (obtain⟨_,h⟩:=h;first | (obtain⟨rfl,_⟩:=h;rfl) | (obtain⟨_,h⟩:=h;first | (obtain⟨rfl,_⟩:=h;rfl) | (obtain⟨_,h⟩:=h;first | (obtain⟨rfl,_⟩:=h;rfl) | (obtain⟨_,rfl,_⟩:=h;rfl))))
 ·induction d using D.casesOn with
  |nA=>exact h.elim
  |_=>rfl
def Fs(h:QX q d=aA b):∃p,d=.bl p/\b=(p==q):=by
 induction d using D.casesOn with
 |bl p=>cases h;exact⟨p,rfl,rfl⟩
 |_=>exact(bB h).elim
def fw(h:vB .Lt d e=aA b):∃i j,d=.int i/\e=.int j/\b=decide (i<j):=by
 cases d with
 |int=>cases e with
  |int=>cases h;exact⟨_,_,rfl,rfl,rfl⟩
  |_=>exact(bB h).elim
 |_=>exact(bB h).elim
def Jv(h:vB .LtE d e=aA b):∃i j,d=.int i/\e=.int j/\b=decide (i<=j):=by
 cases d with
 |int=>cases e with
  |int=>cases h;exact⟨_,_,rfl,rfl,rfl⟩
  |_=>exact(bB h).elim
 |_=>exact(bB h).elim
def Bq(h:vB .Gt d e=aA b):∃i j,d=.int i/\e=.int j/\b=decide (j<i):=by
 induction d using D.casesOn with
 |int=>induction e using D.casesOn with
  |int=>cases h;exact⟨_,_,rfl,rfl,rfl⟩
  |_=>exact(bB h).elim
 |_=>exact(bB h).elim
def sq(h:vB .GtE d e=aA b):∃i j,d=.int i/\e=.int j/\b=decide (j<=i):=by
 induction d using D.casesOn with
 |int=>induction e using D.casesOn with
  |int=>cases h;exact⟨_,_,rfl,rfl,rfl⟩
  |_=>exact(bB h).elim
 |_=>exact(bB h).elim
def RQ{f:Int->Int->Bool}(h:RB X (KD op) (λx y H Q=>∃i j,x=.int i/\y=.int j/\Q (.bl (f i j)) H))(I:kA X dA Z H s)(a:aAf x v)(c:aAf y u)(g:GB K H G d x)(l:GB K H G e y)(k:Q (.bl b) H)(z:∃i j,d=.int i/\e=.int j/\b=f i j) :
  JA (model X.prog X.w) X.A (KD op v u) (EP X dA Z Q) X.xe s:=by
 obtain⟨i,j,rfl,rfl,rfl⟩:=z;exact h dA s Z H x y v u Q I a c ⟨i,j,g.int,l.int,k⟩
def LM(t:X.K=K)(hu:X.A.units+64<cLine)(op:pG):RB X (KD op) (nP K op):=by
 intro dA s Z H x y v u Q I i j h;obtain⟨G,d,e,b,sub,g,l,c,k⟩:=h
 cases op with
 |Eq =>
  change (if nB 20 d&&nB 20 e then aA _ else eA)=_ at c;split at c
  ·rename_i f;cases c;rw[IA] at f;exact(Oa I t sub (by lia) f.1 f.2 g l i j).1 _ _ _ _ ⟨.bl _,H,I,rfl,k⟩
  ·cases c
 |NotEq =>
  change (if nB 20 d&&nB 20 e then aA _ else eA)=_ at c;split at c
  ·rename_i f;cases c;rw[IA] at f;exact(Oa I t sub (by lia) f.1 f.2 g l i j).2 _ _ _ _ ⟨.bl _,H,I,rfl,k⟩
  ·cases c
 |Lt =>
  exact RQ pz I i j g l k (fw c)
 |LtE =>
  exact RQ oz I i j g l k (Jv c)
 |Gt=>exact RQ lz I i j g l k (Bq c)
 |GtE=>exact RQ kz I i j g l k (sq c)
 |Is =>
  induction e using D.casesOn with
  |nA =>
   cases l.nA;change aA _=_ at c;cases c;refine nz dA s Z H _ _ _ _ Q I i j ⟨rfl, ?_⟩;rw[Sa g];exact k
  |bl q =>
   obtain⟨p,rfl,rfl⟩:=Fs (show QX q d=_ from c);cases g.bl;cases l.bl;cases i;cases j;exact is_bool ⟨.bl _,H,I,rfl,k⟩
  |_=>exact(bB c).elim
 |IsNot =>
  induction e using D.casesOn with
  |nA =>
   cases l.nA;change aA _=_ at c;cases c;refine wz dA s Z H _ _ _ _ Q I i j ⟨rfl, ?_⟩;rw[Sa g];exact k
  |_=>exact(bB c).elim
 |In =>
  induction e using D.casesOn with
  |t o =>
   change (if ZC d&&o.all ZC then aA _ else eA)=_ at c;split at c
   ·rename_i f;cases c;rw[IA] at f;obtain⟨a,r,rfl,m,n⟩:=l.t sub;obtain⟨w,z⟩:=OO (g.flat f.1) f.1 n f.2;refine B9 dA s Z H _ _ _ _ Q I i j ⟨a,r,rfl,.inr (t ▸ m),(UM (g.flat f.1) f.1).1,w, ?_⟩;simpa[z] using k
   ·cases c
  |l o =>
   change (if ZC d&&o.all ZC then aA _ else if nB 19 d&&o.all (nB 19) then aA _ else eA)=_ at c;split at c
   ·rename_i f;cases c;rw[IA] at f;obtain⟨a,r,rfl,m,n⟩:=l.l sub;obtain⟨w,z⟩:=OO (g.flat f.1) f.1 n f.2;refine B9 dA s Z H _ _ _ _ Q I i j ⟨a,r,rfl,.inl (t ▸ m),(UM (g.flat f.1) f.1).1,w, ?_⟩;simpa[z] using k
   ·split at c
    ·rename_i f;cases c;rw[IA] at f;obtain⟨a,r,rfl,m,n⟩:=l.l sub;cases j;exact(c7 I t sub (by lia) f.1 f.2 g i m n).1 ⟨.bl _,H,I,rfl,k⟩
    ·cases c
  |str B =>
   induction d using D.casesOn with
   |str C =>
    change aA _=_ at c;cases c;obtain⟨rfl,_⟩:=g.str;obtain⟨rfl,_⟩:=l.str;exact mz dA s Z H _ _ _ _ Q I i j ⟨_,_,rfl,rfl,k⟩
   |_=>exact(bB c).elim
  |_=>exact(bB c).elim
 |NotIn =>
  induction e using D.casesOn with
  |t o =>
   change (if ZC d&&o.all ZC then aA _ else eA)=_ at c;split at c
   ·rename_i f;cases c;rw[IA] at f;obtain⟨a,r,rfl,m,n⟩:=l.t sub;obtain⟨w,z⟩:=OO (g.flat f.1) f.1 n f.2;refine C9 dA s Z H _ _ _ _ Q I i j ⟨a,r,rfl,.inr (t ▸ m),(UM (g.flat f.1) f.1).1,w, ?_⟩;simpa[z] using k
   ·cases c
  |l o =>
   change (if ZC d&&o.all ZC then aA _ else if nB 19 d&&o.all (nB 19) then aA _ else eA)=_ at c;split at c
   ·rename_i f;cases c;rw[IA] at f;obtain⟨a,r,rfl,m,n⟩:=l.l sub;obtain⟨w,z⟩:=OO (g.flat f.1) f.1 n f.2;refine C9 dA s Z H _ _ _ _ Q I i j ⟨a,r,rfl,.inl (t ▸ m),(UM (g.flat f.1) f.1).1,w, ?_⟩;simpa[z] using k
   ·split at c
    ·rename_i f;cases c;rw[IA] at f;obtain⟨a,r,rfl,m,n⟩:=l.l sub;cases j;exact(c7 I t sub (by lia) f.1 f.2 g i m n).2 ⟨.bl _,H,I,rfl,k⟩
    ·cases c
  |_=>exact(bB c).elim
end
end CI
namespace CI
set_option tactic.hygienic true
open PySem PySem.Spec PyProof.Rows L2
section
variable{X:Cx}{K:jA}{dA:List (lA×AB)}{Z:St}{H G:Hp}{s:HA}
def X3(h:uA K G a b)(e:LB a i=aA d):∃v,LB b i=aA v/\qA K G d v:=by
 unfold LB at e ⊢;rw[h.len]
 cases q:DD a.length i with
 |none=>rw[q] at e;cases e
 |some j =>
  rw[q] at e;exact h.get e
def dBa(K:jA):R2:=λx y H Q=>∃G d e r,VA G H/\GB K H G d x/\GB K H G e y/\SO d e=aA r/\∀z,qA K G r z->Q z H
def uE.imp(h:uE X r)(w:∀x y H Q,j x y H Q->r x y H Q):uE X j:=λk sl dA s Z H x y v u Q I m z q B=>h k sl dA s Z H x y v u Q I m z (w x y H Q q) B
def iFa(h:gC x=bA)(e:LB x.cps.toList i=aA c):gC ⟨#[c]⟩=bA:=by
 unfold gC at *
 have a:c∈x.cps.toList:=by
  unfold LB at e
  cases q:DD x.cps.toList.length i with
  |none=>rw[q] at e;cases e
  |some j=>rw[q] at e;exact aH e
 have:=fM.mp h c (by simpa using a)
 simpa using this
def q7:uE X (λ_ _ _ _=>False):=λ_ _ _ _ _ _ _ _ _ _ _ _ _ _ h _=>h.elim
def ES(K:jA):R2:=λ_ _ _ _=>False
def xt(hu:X.A.units+11<cLine):uE X (ES X.K):=q7
def Bt(o:X.K=K)(hu:X.A.units+11<cLine):uE X (dBa K):=by
 refine uE.imp ((Et.or q7).or (xt hu)) λx y H Q h=>?_
 obtain⟨G,d,e,r,sub,f,g,b,k⟩:=h;subst o;unfold SO at b;split at b
 ·cases g.int;obtain⟨a,i,rfl,j,l⟩:=f.t sub;obtain⟨v,m,n⟩:=X3 l b;exact .inl (.inl (.inr (.inl ⟨a,i,_,v,rfl,rfl,j,m,k v n⟩)))
 ·cases g.int;obtain⟨a,i,rfl,j,l⟩:=f.l sub;obtain⟨v,m,n⟩:=X3 l b;exact .inl (.inl (.inl ⟨a,i,_,v,rfl,rfl,j,m,k v n⟩))
 ·split at b
  ·rename_i p;cases g.int;obtain⟨rfl,ok⟩:=f.str
   cases q:LB ‹fA›.cps.toList ‹Int› with
   |none=>rw[q] at b;cases b
   |some c =>
    rw[q] at b;cases b;exact .inl (.inl (.inr (.inr ⟨_,_,c,rfl,rfl,KC p (by decide),q,k _ (show qA X.K G (.str _) _ by simp only[qA];exact⟨trivial,iFa ok q⟩)⟩)))
  ·cases b
 ·cases b
def aAI(h:gC x=bA):Made K H G (.sh (.str x)) (.str x) H:=.inl ⟨_,rfl,by simp[qA,h],rfl⟩
def D5{lo a:Option Int}(h:uA K G b c):uA K G (aAu b lo a) (YJ c lo a):=by
 unfold aAu YJ;rw[h.len];exact(h.drop _).take _
def iBa(K:jA):V->Option Int->Option Int->Hp->VK->Prop:=λx lo b H Q=>∃G d v,VA G H/\GB K H G d x/\WL d lo b=aA v/\∀z a,Made K H G v z a->Q z a
def zDa(z:X.K=K):UH X (iBa K):=by
 intro dA s Z H x v m n lo f sl Q I o q t u h;obtain⟨G,d,r,sub,g,b,k⟩:=h;subst z;by_cases c:∃y,d=.str y
 ·obtain⟨y,rfl⟩:=c;change @ite _ (y.length<=1000000/\gC (pM y lo f)=bA) (cl _) _ eA=_ at b;split at b
  ·rename_i w;cases b;obtain⟨rfl,_⟩:=g.str;exact aEa dA s Z H _ v m n lo f sl Q I o q t u ⟨_,rfl,w.1,k _ _ (aAI w.2)⟩
  ·cases b
 refine UH.or yDa bEa dA s Z H x v m n lo f sl Q I o q t u ?_;unfold WL at b;split at b
 ·cases b;obtain⟨a,i,rfl,j,e⟩:=g.l sub;exact .inl ⟨a,i,rfl,j,λp l=>k _ _ (.inr (.inl ⟨_,_,p,rfl,l,D5 e,rfl,rfl⟩))⟩
 ·split at b
  ·cases b
  ·rename_i A;cases b;obtain⟨a,i,rfl,j,e⟩:=g.t sub;exact .inr ⟨a,i,rfl,j,by rw[e.len];exact A,λp l=>k _ _ (EY ⟨_,_,p,rfl,l,D5 e,rfl,rfl⟩)⟩
 ·exact absurd ⟨_,rfl⟩ c
 ·cases b
def jO(K:jA)(H G:Hp):List D->List V->Prop
 |[],a=>a=[]
 |d::b,a=>∃x r,a=x::r/\GB K H G d x/\jO K H G b r
def eF(h:jO K H G [d] a):∃x,a=[x]/\GB K H G d x:=by
 obtain⟨x,r,rfl,b,c⟩:=h;cases (show r=[] from c);exact⟨x,rfl,b⟩
def rBa(h:jO K H G [d,e] a):∃x y,a=[x,y]/\GB K H G d x/\GB K H G e y:=by
 obtain⟨x,r,rfl,b,c⟩:=h;obtain⟨y,rfl,f⟩:=eF c;exact⟨x,y,rfl,b,f⟩
def Ha(K:jA)(f:BI):List V->Hp->VK->Prop:=λc H Q=>∃G a v,VA G H/\jO K H G a c/\QC f a=aA v/\∀z b,Made K H G v z b->Q z b
noncomputable def oV:BI->gA
 |.len=>.builtin "len"
 |.abs=>.builtin "abs"
 |.int=>.type "int"
 |.list=>.type "list"
 |.tuple=>.type "tuple"
 |.max=>.builtin "max"
 |.all=>.builtin "all"
 |.str=>.type "str"
theorem D4:∀{a:List D} {c:List V} {f:List gA} {bs:List Bool},uA K G a c->aAd c f->yE a=aA bs->LSm.BoolsAre f bs
 |[],_,_,_,h,r,e=>by
  simp only[uA] at h;subst h;cases r;cases e;exact .nil
 |d::a,_,_,_,h,r,e=>by
  simp only[uA] at h;obtain⟨v,m,rfl,g,i⟩:=h
  cases r with
  |cons j k =>
   cases d<;>simp only[yE,reduceCtorEq] at e;rename_i b
   cases q:yE a with
   |none=>rw[q] at e;cases e
   |some l =>
    rw[q] at e;cases e;simp only[qA] at g;subst g;cases j;exact .cons b (D4 i k q)
def ml(m:X.A.handled=eA):UD X (.builtin "all") (λj H Q=>∃a d f bs G,j=[.ref a]/\qB X.K H a d/\uA X.K G f d/\yE f=aA bs/\Q (.bl (bs.all id)) H):=by
 intro dA s Z H j C Q I r h;obtain⟨a,d,f,bs,G,rfl,n,o,p,q⟩:=h;obtain⟨u,rfl,t⟩:=aAv r;cases t;obtain⟨c,w,hl,z⟩:=sP I n;have k:=D4 o w p;have g:a<s.heap.objs.size:=by obtain⟨_,e,_⟩:=hl;exact nC e
 refine call_all_walk (JP hl ?_)
 refine⟨s.heap.objs.size,[s.heap.objs.size,a],[s.heap.objs.size],c.toArray.size,_,_,λi=>(bs[i]?).getD bA,rfl,Walks.list (A:=X.A.in1) m _ a (SD g) c.toArray,
  ⟨⟨_,NF _ rfl,rfl,rfl⟩,hl.push _⟩,λi v F J M x l=>?_,λN y B=>?_⟩
 ·obtain⟨b,e,rfl⟩:=k.get i v (by simpa using x);simp only[e,Option.getD_some] at l;exact EK l
 ·have e:((EB c.toArray.size).all λi=>(bs[i]?).getD bA)=bs.all id:=by
   rw[DC,k.length];exact LSm.range_all bs
  rw[e];exact⟨.bl _,H,I.kept (t':=y) (LSm.kept_iter B),rfl,q⟩
theorem PX:∀{a:List D} {c:List V} {f:List gA} {is:List Int},uA K G a c->aAd c f->bF a=aA is->VN f is
 |[],_,_,_,h,r,e=>by
  simp only[uA] at h;subst h;cases r;cases e;exact .nil
 |d::a,_,_,_,h,r,e=>by
  simp only[uA] at h;obtain⟨v,m,rfl,g,i⟩:=h
  cases r with
  |cons j k =>
   cases d<;>simp only[bF,reduceCtorEq] at e;rename_i b
   cases q:bF a with
   |none=>rw[q] at e;cases e
   |some l =>
    rw[q] at e;cases e;simp only[qA] at g;subst g;obtain⟨t,rfl⟩:=j;exact .cons _ _ (PX i k q)
def yw(i:Int):∀(r:List Int),(r.foldl (λm y=>if y > m then y else m) i)∈i::r/\∀a∈i::r,a<=r.foldl (λm y=>if y > m then y else m) i:=by
 intro r
 induction r generalizing i with
 |nil=>exact⟨by simp,λa b=>by simp at b;simp;lia⟩
 |cons y r e =>
  simp only[DJ];obtain⟨f,c⟩:=e (if y > i then y else i);refine⟨?_,λa b=>?_⟩
  ·rcases mD.mp f with h | h
   ·rw[h];split
    ·simp
    ·simp
   ·exact XC _ (XC _ h)
  ·have d:=c (if y > i then y else i) (by simp);have g:i<=(if y > i then y else i):=by split<;>lia
   have j:y<=(if y > i then y else i):=by split<;>lia
   rcases mD.mp b with h | h
   ·rw[h];exact eU g d
   ·rcases mD.mp h with h | h
    ·rw[h];exact eU j d
    ·exact c a (XC _ h)
def yl(w:X.calm=bA):UD X (.builtin "max") (λc H Q=>∃a k l i r G,c=[.ref a]/\qB X.K H a k/\uA X.K G l k/\bF l=aA (i::r)/\Q (.int (r.foldl (λm y=>if y > m then y else m) i)) H):=by
 intro dA s Z H c us Q I r h;obtain⟨a,k,l,i,f,G,rfl,x,A,g,q⟩:=h;obtain⟨u,rfl,B⟩:=aAv r;cases B;obtain⟨C,F,hl,z⟩:=sP I x;have o:=PX A F g;obtain⟨c,e⟩:=o.allInts.items
 have d:i::f=c.toList.map (·.1):=by(rw[<- o.numsOf,<- nums_intItems,<- e])
 have n:0<c.size:=by
  have g:0<(i::f).length:=by simp
  rw[d,pA,eM] at g;exact g
 rw[e] at hl;refine max_intList (I.ok.hd w) hl n λv h' tk J M=>?_
 obtain⟨t,rfl⟩:=intItems_at J;obtain⟨k1,N⟩:=argBest_gt (numAt c) (c.size-1)
 have O:numAt c (argBest (λi j=>decide (numAt c i > numAt c j)) (c.size-1))∈i::f:=by(rw[d,numAt_eq];exact getD_mem (by rw[pA,eM];omega))
 have P:∀b∈i::f,b<=numAt c (argBest (λi j=>decide (numAt c i > numAt c j)) (c.size-1)):=λb p=>by(rw[d] at p;obtain⟨j,R,rfl⟩:=mem_getD p;rw[pA,eM] at R;rw[<- numAt_eq];exact N j (by omega))
 obtain⟨U,Y⟩:=yw i f;have e2:numAt c (argBest (λi j=>decide (numAt c i > numAt c j)) (c.size-1))=f.foldl (λm y=>if y > m then y else m) i:=Int.le_antisymm (Y _ O) (P _ U);refine⟨.int _,H,I.kept M,⟨t,rfl⟩, ?_⟩;rw[e2];exact q
def Tw:rQ X "int.bit_length" (λx a H Q=>∃i,x=.int i/\a=[]/\Q (.int (sM i)) H):=by
 intro dA s Z H x a v c Q I b r h;obtain⟨i,rfl,rfl,q⟩:=h;cases r;obtain⟨t,rfl⟩:=b;exact call_int_bit_length ⟨.int _,H,I.tok _,⟨_,rfl⟩,q⟩
def Iw{f:Int->Int->Int}{d e:D}{v:RV}(h:mm f d e=aA v):∃i j,d=.int i/\e=.int j/\v=.sh (.int (f i j)):=by
 induction d using D.casesOn with
 |int i =>
  induction e using D.casesOn with
  |int j=>exact⟨i,j,rfl,rfl,(pD h).symm⟩
  |_=>exact(bB h).elim
 |_=>exact(bB h).elim
def Kj(F:X.K=K)(C:X.calm=bA)(hh:X.A.handled=eA)(rm:oC 2 X.A)(f:BI):UD X (oV f) (Ha K f):=by
 intro dA s Z H N g Q I r h;obtain⟨G,o,v,sub,l,e,k⟩:=h;subst F
 induction f using BI.casesOn with
 |len =>
  obtain _ | ⟨d,_ | ⟨_,_⟩⟩:=o
  ·exact(bB e).elim
  ·induction d using D.casesOn with
   |l =>
    change aA _=_ at e;cases e;obtain⟨x,rfl,b⟩:=eF l;obtain⟨a,t,rfl,c,u⟩:=b.l sub;exact W4 dA s Z H _ g Q I r ⟨a,t,rfl,.inl c,by rw[u.len];exact k _ _ aAm⟩
   |t =>
    change aA _=_ at e;cases e;obtain⟨x,rfl,b⟩:=eF l;obtain⟨a,t,rfl,c,u⟩:=b.t sub;exact W4 dA s Z H _ g Q I r ⟨a,t,rfl,.inr c,by rw[u.len];exact k _ _ aAm⟩
   |str x =>
    change @ite _ (x.length<=1000000) (cl _) _ eA=_ at e;split at e
    ·rename_i z;cases e;obtain⟨x,rfl,b⟩:=eF l;obtain⟨rfl,_⟩:=b.str;exact vl dA s Z H _ g Q I r ⟨_,rfl,KC z (by decide),k _ _ aAm⟩
    ·cases e
   |_=>exact(bB e).elim
  ·exact(bB e).elim
 |abs =>
  obtain _ | ⟨d,_ | ⟨_,_⟩⟩:=o
  ·exact(bB e).elim
  ·cases d with
   |int =>
    change aA _=_ at e;cases e;obtain⟨x,rfl,b⟩:=eF l;cases b.int;exact ll dA s Z H _ g Q I r ⟨_,rfl,k _ _ aAm⟩
   |_=>exact(bB e).elim
  ·exact(bB e).elim
 |int =>
  obtain _ | ⟨d,_ | ⟨_,_⟩⟩:=o
  ·exact(bB e).elim
  ·induction d using D.casesOn with
   |int =>
    change aA _=_ at e;cases e;obtain⟨x,rfl,b⟩:=eF l;cases b.int;exact V4 dA s Z H _ g Q I r (.inl ⟨_,rfl,k _ _ aAm⟩)
   |bl =>
    change aA _=_ at e;cases e;obtain⟨x,rfl,b⟩:=eF l;cases b.bl;exact V4 dA s Z H _ g Q I r (.inr ⟨_,rfl,k _ _ aAm⟩)
   |str x =>
    change @ite _ (x.length<=640) (cl _) ((aQ x).map _) eA=_ at e;split at e
    ·rename_i z
     cases q:aQ x with
     |none=>rw[q] at e;cases e
     |some n =>
      rw[q] at e;cases e;obtain⟨x,rfl,b⟩:=eF l;obtain⟨rfl,_⟩:=b.str;exact ql dA s Z H _ g Q I r ⟨_,n,rfl,q,z,k _ _ aAm⟩
    ·cases e
   |_=>exact(bB e).elim
  ·exact(bB e).elim
 |list =>
  obtain _ | ⟨d,_ | ⟨_,_⟩⟩:=o
  ·exact(bB e).elim
  ·induction d using D.casesOn with
   |l =>
    change aA _=_ at e;cases e;obtain⟨x,rfl,b⟩:=eF l;obtain⟨a,t,rfl,c,u⟩:=b.l sub;exact X4 dA s Z H _ g Q I r ⟨a,t,rfl,.inl c,λp B=>k _ _ (.inr (.inl ⟨_,_,p,rfl,B,u,rfl,rfl⟩))⟩
   |t =>
    change aA _=_ at e;cases e;obtain⟨x,rfl,b⟩:=eF l;obtain⟨a,t,rfl,c,u⟩:=b.t sub;exact X4 dA s Z H _ g Q I r ⟨a,t,rfl,.inr c,λp B=>k _ _ (.inr (.inl ⟨_,_,p,rfl,B,u,rfl,rfl⟩))⟩
   |_=>exact(bB e).elim
  ·exact(bB e).elim
 |tuple =>
  obtain _ | ⟨d,_ | ⟨_,_⟩⟩:=o
  ·exact(bB e).elim
  ·induction d using D.casesOn with
   |l =>
    change aA _=_ at e;cases e;obtain⟨x,rfl,b⟩:=eF l;obtain⟨a,t,rfl,c,u⟩:=b.l sub;exact Z4 dA s Z H _ g Q I r ⟨a,t,rfl,.inl ⟨c,λp B=>k _ _ (EY ⟨_,_,p,rfl,B,u,rfl,rfl⟩)⟩⟩
   |t =>
    change aA _=_ at e;cases e;obtain⟨x,rfl,b⟩:=eF l;have w:=b;obtain⟨a,t,rfl,c,u⟩:=b.t sub;refine Z4 dA s Z H _ g Q I r ⟨a,t,rfl,.inr ⟨c, ?_⟩⟩;rcases w with w | ⟨_,_,w⟩
    ·exact k _ _ (.inl ⟨_,rfl,w,rfl⟩)
    ·exact w.elim
   |_=>exact(bB e).elim
  ·exact(bB e).elim
 |max =>
  obtain _ | ⟨d,_ | ⟨O,_ | ⟨_,_⟩⟩⟩:=o
  ·exact(bB e).elim
  ·induction d using D.casesOn with
   |l o =>
    change (match bF o with | some (i::r)=>aA (RV.sh (.int (r.foldl (λm y=>if y > m then y else m) i))) | _=>eA)=_ at e;split at e
    ·rename_i i J q;cases e;obtain⟨x,rfl,b⟩:=eF l;obtain⟨a,t,rfl,c,u⟩:=b.l sub;exact yl C dA s Z H _ g Q I r ⟨a,t,o,i,J,G,rfl,c,u,q,k _ _ aAm⟩
    ·cases e
   |_=>exact(bB e).elim
  ·obtain⟨i,j,rfl,rfl,rfl⟩:=Iw e;obtain⟨x,y,rfl,b,c⟩:=rBa l;cases b.int;cases c.int;exact xl C dA s Z H _ g Q I r ⟨_,_,rfl,k _ _ aAm⟩
  ·exact(bB e).elim
 |all =>
  obtain _ | ⟨d,_ | ⟨_,_⟩⟩:=o
  ·exact(bB e).elim
  ·induction d using D.casesOn with
   |l o =>
    change (yE o).map _=_ at e
    cases q:yE o with
    |none=>rw[q] at e;cases e
    |some bs =>
     rw[q] at e;cases e;obtain⟨x,rfl,b⟩:=eF l;obtain⟨a,t,rfl,c,u⟩:=b.l sub;exact ml hh dA s Z H _ g Q I r ⟨a,t,o,bs,G,rfl,c,u,q,k _ _ gw⟩
   |_=>exact(bB e).elim
  ·exact(bB e).elim
 |str =>
  obtain _ | ⟨d,_ | ⟨_,_⟩⟩:=o
  ·exact(bB e).elim
  ·cases d with
   |int i =>
    change @ite _ (i.natAbs.log2<1920/\gC (rA (toString i))=bA) (cl _) _ eA=_ at e;split at e
    ·rename_i z;cases e;obtain⟨x,rfl,b⟩:=eF l;cases b.int;exact Al dA s Z H _ g Q I r ⟨_,rfl,z.1,k _ _ (aAI z.2)⟩
    ·cases e
   |str y =>
    change aA _=_ at e;cases e;obtain⟨x,rfl,b⟩:=eF l;obtain⟨rfl,M⟩:=b.str;exact Bl dA s Z H _ g Q I r ⟨_,rfl,k _ _ (aAI M)⟩
   |_=>exact(bB e).elim
  ·exact(bB e).elim
def zl(l:X.calm=bA):UD X (.type "set") (λj H Q=>∃a d f is G,j=[.ref a]/\qB X.K H a d/\uA X.K G f d/\bF f=aA is/\is.length<=1000/\∀p S,H p=eA->Q (.ref p) (EA H p (.set S (firstMet (λi=>is.getD i 0) is.length).length))):=by
 intro dA s Z H j C Q I r h;obtain⟨a,d,f,is,G,rfl,m,n,t,v,q⟩:=h;obtain⟨u,rfl,w⟩:=aAv r;cases w;obtain⟨g,x,hl,z⟩:=sP I m;have k:=PX n x t;have c:g.toArray.size=is.length:=by rw[DC];exact k.length
 refine call_set_list (I.ok.hd l) hl k (by rw[c];exact Nat.lt_of_le_of_lt (Nat.add_le_add_right v 1) (by decide)) λF y hS A=>?_
 rw[c] at hS;exact⟨.ref s.heap.objs.size,_,I.laid (o:=.set (λB=>(firstMet (λi=>is.getD i 0) is.length).any (· == B)) (firstMet (λi=>is.getD i 0) is.length).length) (t':=y) (λb o e=>A b o (nC e) e) (oB _) hS,rfl,q _ _ (I.aB.fresh (oB _))⟩
def rl:UD X (.builtin "len") (λa H Q=>∃p S n,a=[.ref p]/\H p=aA (.set S n)/\Q (.int n) H):=by
 intro dA s Z H a i Q I r h;obtain⟨p,S,n,rfl,c,q⟩:=h;obtain⟨u,rfl,d⟩:=aAv r;cases d;obtain⟨o,b,j,t,e,hex,hd,_,_,f,g,rfl⟩:=I.aB p _ c;refine call_len_set e hex hd g (by have:b.size<4096:=f;lia) ⟨.int b.size,H,I.tok _,⟨_,rfl⟩,q⟩
noncomputable def kT:Ty->V
 |.int=>.ty "int"
 |.bool=>.ty "bool"
 |.str=>.ty "str"
 |.list=>.ty "list"
 |.tuple=>.ty "tuple"
 |.dict=>.ty "dict"
 |.cls _=>.ty "dict"
 |.r0=>.ty "ValueError"
def tyW(t:Ty):gA:=match kT t with
 |.ty x=>.type x
 |_=>.none
def Zs(y:X.K=K)(t:Ty):UD X (.builtin "isinstance") (λv H Q=>∃G d x b,VA G H/\v=[x,kT t]/\GB K H G d x/\WX t d=aA b/\Q (.bl b) H):=by
 intro dA s Z H v C Q I r h;obtain⟨G,d,x,b,sub,rfl,c,e,q⟩:=h;subst y;obtain⟨u,w,rfl,f,g⟩:=aA0 r;have fin:∀i,EP X dA Z Q (.bool b) { s with toks:=i }:=λi=>⟨.bl b,H,I.tok i,rfl,q⟩
 obtain rfl:w=tyW t:=by cases t<;>exact g
 cases d<;>first
   | (cases c.nA;cases (show u=Value.none from f);refine NN PySem.W.kitx_none I.wD True.intro ?_ (λz=>nomatch z) fin)
   | (cases c.bl;cases (show u=Value.bool _ from f);refine NN PySem.W.kitx_bool I.wD True.intro ?_ (λz=>nomatch z) fin)
   | (cases c.int;obtain⟨_,j⟩:=(show ∃t,u=Value.int _ t from f);cases j;refine NN PySem.W.kitx_int I.wD True.intro ?_ (λz=>nomatch z) fin)
   | (obtain⟨rfl,_⟩:=c.str;obtain⟨_,j⟩:=(show ∃t,u=Value.str _ t from f);cases j;refine NN PySem.W.kitx_str I.wD True.intro ?_ (λz=>nomatch z) fin)
   | (obtain⟨a,A,rfl,k,B⟩:=c.l sub;cases (show u=Value.ref a from f);obtain⟨l,_,⟨o,n,m,p,_⟩,_⟩:=I.list k;refine NN PySem.W.kitx_list I.wD ⟨o,m,p⟩ ?_ (λz=>nomatch z) fin)
   | (obtain⟨a,A,rfl,k,B⟩:=c.t sub;cases (show u=Value.ref a from f);obtain⟨l,_,⟨o,m,p,_⟩,_⟩:=I.tuple k;refine NN PySem.W.kitx_tuple I.wD ⟨o,m,p⟩ ?_ (λz=>nomatch z) fin)
   |skip
 all_goals (cases t<;>first | exact e | cases e)
end
end CI
namespace CI
set_option tactic.hygienic true
open PySem PySem.Spec PyProof.Rows L2
section
variable{X:Cx}{dA:List (lA×AB)}{Z:L2.St}{H:Hp}{s:HA}{h':XB}
def Lr(I:kA X dA Z H s)(k:∀b u,b≠e->b≠d->s.heap.get? b=aA u->h'.get? b=aA u)(f:sG X dA H e)(g:sG X dA H d)(t:s.heap.objs.size<=p)
  (new:WE X.prog X.w (EA H p o) h' p o):kA X dA Z (EA H p o) { s with heap:=h',toks:=t' }:=by
 have j:H p=eA:=I.aB.fresh t;have ne:∀{b:lA} {u:HO},H b=aA u->b≠e/\b≠d:=λq=>⟨EE q f.1,EE q g.1⟩
 have h:∀{b:lA},b ∉ [e,d]->b≠e/\b≠d:=λa=>⟨λz=>a (by simp[z]),λz=>a (by simp[z])⟩
 refine I.step (g':=s.gens) (d':=s.drawn) (ch:=[e,d]) (λb i=>?_) (λb o _ _ a q _=>k b o (h a).1 (h a).2 q) (λb o _ _ a q _=>⟨o.slots,k b o (h a).1 (h a).2 q⟩)
  (λb o _ q n=>by rw[jB (SD (aE (nC q) t))];exact n)
  (λb o a q=>⟨o,k b o (h a).1 (h a).2 q⟩) (λb x q=>by rw[jB (EE q j)];exact q) (λb o u q=>by rw[jB (EE q j)];exact q) (λb F q=>⟨#[],by rw[jB (EE q j),q];simp⟩) (λm y=>?_) (λb u q=>?_) I.bare
 ·have i:b=e\/b=d:=by simpa using i
  rcases i with rfl | rfl
  ·exact⟨f.2.2.2.1,f.2.1,f.2.2.2.2.1,f.2.2.2.2.2⟩
  ·exact⟨g.2.2.2.1,g.2.1,g.2.2.2.2.1,g.2.2.2.2.2⟩
 ·obtain⟨o,A,B,C,r⟩:=y;exact⟨o,A,B,k _ o (qF f.2.1) (qF g.2.1) C,r⟩
 ·by_cases i:b=p
  ·subst i;rw[GC] at q;cases q;exact new
  ·rw[jB i] at q;refine(I.aB b u q).ZL (λc v a z=>?_) (λc q=>by rw[jB (EE q j)];exact q) λc x q=>by rw[jB (EE q j)];exact q
   have l:c≠e/\c≠d:=by
    rcases a with w | w
    ·rw[w];exact ne q
    ·exact ne w
   exact k c v l.1 l.2 z
def Qr(I:kA X dA Z H s)(k:∀b u,b≠e->b≠d->s.heap.get? b=aA u->h'.get? b=aA u)(f:sG X dA H e)(g:sG X dA H d):kA X dA Z H { s with heap:=h',toks:=t' }:=by
 have ne:∀{b:lA} {u:HO},H b=aA u->b≠e/\b≠d:=λq=>⟨EE q f.1,EE q g.1⟩
 have h:∀{b:lA},b ∉ [e,d]->b≠e/\b≠d:=λa=>⟨λz=>a (by simp[z]),λz=>a (by simp[z])⟩
 refine I.step (g':=s.gens) (d':=s.drawn) (ch:=[e,d]) (λb j=>?_) (λb o _ _ a q _=>k b o (h a).1 (h a).2 q) (λb o _ _ a q _=>⟨o.slots,k b o (h a).1 (h a).2 q⟩)
  (λ_ _ _ _ n=>n) (λb o a q=>⟨o,k b o (h a).1 (h a).2 q⟩) (λ_ _ q=>q) (λ_ _ _ q=>q) (λb y q=>⟨#[],by rw[q];simp⟩) (λm l=>?_) (λb u q=>?_) I.bare
 ·have j:b=e\/b=d:=by simpa using j
  rcases j with rfl | rfl
  ·exact⟨f.2.2.2.1,f.2.1,f.2.2.2.2.1,f.2.2.2.2.2⟩
  ·exact⟨g.2.2.2.1,g.2.1,g.2.2.2.2.1,g.2.2.2.2.2⟩
 ·obtain⟨o,p,t,x,r⟩:=l;exact⟨o,p,t,k _ o (qF f.2.1) (qF g.2.1) x,r⟩
 ·refine(I.aB b u q).ZL (λc v a z=>?_) (λ_ q=>q) λ_ _ q=>q
  have i:c≠e/\c≠d:=by
   rcases a with w | w
   ·rw[w];exact ne q
   ·exact ne w
  exact k c v i.1 i.2 z
end
section
variable{prog:oE}{w:WC}{A:oG}{E:gA->HA->Prop}{s:HA}
def Jm{Q:gA->HA->Prop}(F:IH s.heap e a c old)(q2:s.heap.IsListIter a l i)(q3:s.heap.IsList l us)(q4:us[i]?=aA u)(ne:e≠a)
  (k:∀g,IsEnumOut g e a (c+1) u s.heap.objs.size->g.IsListIter a l (i+1)->g.get? s.heap.objs.size=aA { cls:=.type "tuple",data:=.seq #[.int c s.toks,u] }->(∀b o,b≠e->b≠a->s.heap.get? b=aA o->g.get? b=aA o)->Q (.ref s.heap.objs.size) { s with heap:=g,toks:=s.toks+1 }) :
  JA (model prog w) A (Builtin.«enumerate.__next__» ⟨[.ref e],[]⟩) (λfin s'=>∃v,fin=.done (.ret v)/\Q v s') E s:=by
 obtain⟨f,ge,dr,H,os⟩:=s;refine WA (m:=field (.ref e) 2) (IJ F rfl (x:=.ref a) rfl (WA (wpAny_nextOf_list_item q2 q3 q4 λI t1 h=>?_)));have h:DI a f I:=h;have J:IH I e a c old:=(h.2 e ne).trans F;refine WA (m:=field (.ref e) 3) (IJ J rfl (x:=rawInt c) rfl (WA (m:=field (.ref e) 4) (IJ J rfl (x:=.none) rfl (WA (m:=mkInt c) (wpAny_mkInt ?_)))));refine WA (m:=setField (.ref e) 3 (rawInt (c+1))) (IP J (by simp) λK M j=>?_);have j:DI e I K:=j;have M:IH K e a (c+1) old:=M;refine WA (m:=setField (.ref e) 4 .none) (IP M (by simp) λt N n=>?_);have n:DI e K t:=n;have N:IH t e a (c+1) old:=N;refine WA (m:=newTuple [.int c H,u]) (wpAny_newTuple ?_);have Z:t.objs.size=f.objs.size:=by rw[n.1,j.1,h.1]
 have lt:e<f.objs.size:=nC F;obtain⟨d,p⟩:∃d,t.push { cls:=.type "tuple",data:=.seq #[.int c H,u] }=d:=⟨_,rfl⟩
 have O:IH d e a (c+1) old:=p ▸ aD _ N;have p4:d.get? f.objs.size=aA { cls:=.type "tuple",data:=.seq #[.int c H,u] }:=p ▸ Z ▸ NF _ rfl;have k4:∀b o,b≠e->b≠a->f.get? b=aA o->d.get? b=aA o:=λb o x y q=>p ▸ aD _ (n.extBut b o x (j.extBut b o x (h.extBut b o y q)))
 have t4:d.IsListIter a l (i+1):=by(obtain⟨o,ho,r⟩:=(t1.extBut j.extBut ne.symm).extBut n.extBut ne.symm;exact⟨o,p ▸ aD _ ho,r⟩)
 rw[Z,p];refine WA (m:=ze (.ref e)) ?_;unfold ze;refine WA (IJ O rfl (x:=.none) rfl (YB ?_));simp only[if_true];refine WA (wpAny_rule (WA (IJ O rfl (x:=old) rfl (WA (IP O (by simp) λP R z=>?_)))));have z:DI e d P:=z;have R:IH P e a (c+1) u:=R;refine WA (m:=ye (.ref e) (.ref f.objs.size)) ?_;unfold ye;refine WA (IP R (by simp) λU X B=>?_);have B:DI e P U:=B;have X:IsEnumOut U e a (c+1) u f.objs.size:=X;refine IP X (by simp) λY e7 C=>?_
 have C:DI e U Y:=C;have st:∀b o,b≠e->d.get? b=aA o->Y.get? b=aA o:=λb o x q=>C.extBut b o x (B.extBut b o x (z.extBut b o x q))
 refine WA (wpAny_letGo (YB ⟨_,rfl,k Y e7 ?_ (st _ _ (J2 lt) p4) λb o x y q=>st b o x (k4 b o x y q)⟩));exact((t4.extBut z.extBut ne.symm).extBut B.extBut ne.symm).extBut C.extBut ne.symm
def Km(h:IH s.heap e f c old)(j:s.heap.IsListIter f l i)(m:s.heap.IsList l n)(p:n[i]?=aA u)(ne:e≠f)
  (k:∀g,IsEnumOut g e f (c+1) u s.heap.objs.size->g.IsListIter f l (i+1)->g.get? s.heap.objs.size=aA { cls:=.type "tuple",data:=.seq #[.int c s.toks,u] }->(∀b o,b≠e->b≠f->s.heap.get? b=aA o->g.get? b=aA o)->Q (aA (.ref s.heap.objs.size)) { s with heap:=g,toks:=s.toks+1 }) :
  JA (model prog w) A (pyNext (.ref e)) Q E s :=
 have ty:s.TypeIs (.ref e) "enumerate":=⟨_,h,rfl⟩
 WA (wpAny_attempt (M0 (name:=rA "__next__") ty yT (L1 yT ty Qe (Jm h j m p ne λg a b c d=>YB (k g a b c d)) (Le _))))
def Lm(hh:A.handled=eA)(d:IH s.heap e a c old)(f:s.heap.IsListIter a l i)(h:s.heap.IsList l j)(n:j[i]?=eA)
  (k:∀g,Heap.ExtBut a s.heap g->Q eA { s with heap:=g }):JA (model prog w) A (pyNext (.ref e)) Q E s:=by
 have ty:s.TypeIs (.ref e) "enumerate":=⟨_,d,rfl⟩
 refine WA (wpAny_attempt (M0 (name:=rA "__next__") ty yT (L1 yT ty Qe ?_ (Le _))));refine WA (m:=field (.ref e) 2) (IJ d rfl (x:=.ref a) rfl (WA (wpAny_nextOf_list_end hh f h n λg x ex p=>?_)));obtain⟨o,q,r⟩:=p;exact WA (wpAny_isInstance (T:="StopIteration") (b:=bA) ⟨o,q,r⟩ isSubtype_stop (YB (k _ ex)))
end
def Im(l:lA)(e:Array gA)(n:Nat)(b:Option lA)(sl:Array (Option gA))(c:Int)(t:Tok)(j:Be c=bA) :
  Meets (Builtin.«enumerate.__new__» ⟨[.type "enumerate",.ref l],[("start",.int c t)]⟩) (λ_ R s=>s.heap.get? l=aA { cls:=.type "list",dict:=b,data:=.seq e n,slots:=sl } /\
   R (.ok (.ret (.ref (s.heap.push { cls:=.type "list_iterator",data:=.fields #[.ref l,.int 0 0] }).objs.size)))
    { s with heap:=(s.heap.push { cls:=.type "list_iterator",data:=.fields #[.ref l,.int 0 0] }).push { cls:=.type "enumerate",data:=.fields #[.none,.bool cA,.ref s.heap.objs.size,rawInt c,.none,.none] } }) :=
 .of_wp λprog w A R s h=>by
  obtain⟨f,g,d,i,os⟩:=s;obtain⟨hl,h⟩:=h;have k:=sub_enumerate;have a:Heap.IsList (Shared.heap ⟨f,g,d,i,os⟩) l e:=⟨_,hl,rfl,n,rfl⟩
  wp_walk using xT hl
  refine wpAny_stack_any λst=>YB ?_
  split
  ·rename_i v _ _ _ _ _;cases (v==Value.type "enumerate")
   ·wp_walk using xT hl,JP a
    exact⟨_,rfl,h⟩
   ·wp_walk using xT hl,JP a
    exact⟨_,rfl,h⟩
  ·wp_walk using xT hl,JP a
   exact⟨_,rfl,h⟩
def Em(a:gA)(c:Int)(t:Tok):checkTypeCall "enumerate" ⟨[a],[("start",.int c t)]⟩=pure ():=by kernel_rfl
def Gm(a:gA)(c:Int)(t:Tok):checkBuiltinCall "enumerate.__new__" ⟨[.type "enumerate",a],[("start",.int c t)]⟩=pure ():=by kernel_rfl
def Hm:Meets (Builtin.«object.__init__» ⟨[a,b],f⟩) (λ_ R s=>s.TypeIs a "enumerate"/\R (.ok (.ret .none)) s):=by
 refine Meets.of_wp λprog w A R s c=>?_
 obtain⟨ty,d⟩:=c;have hl:typeLookup (.type "enumerate") "__init__"=pure (aA (.builtin "object.__init__")):=A1.init.lookup;have g:=A1.made;have e:(aA "enumerate.__new__" != aA "object.__new__")=bA:=by decide
 repeat (any_goals (first | assumption | wp_step))
 exact⟨_,rfl,d⟩
def Dm(a b:gA)(c:Int)(t:Tok):argsOk "object.__init__" ⟨[a,b],[("start",.int c t)]⟩:=by
 unfold argsOk;rw[signature?_of (id:="object.__init__") (n:="__init__".toList.reverse) (o:="object".toList.reverse) (by kernel_rfl) F.owner_object]
 kernel_rfl
section
variable{prog:oE}{w:WC}{A:oG}{E:gA->HA->Prop}{s:HA}
def Mm(I:Be c=bA)(q:s.heap.IsList l u)
  (k:∀g,IH g (s.heap.objs.size+1) s.heap.objs.size c .none->g.IsListIter s.heap.objs.size l 0->(∀b o,s.heap.get? b=aA o->g.get? b=aA o)->Q (.ref (s.heap.objs.size+1)) { s with heap:=g }) :
  JA (model prog w) A (call (.type "enumerate") [.ref l] [("start",.int c t)]) Q E s:=by
 have a:=A1;obtain⟨O,P,v⟩:=a.mro;have j:=a.made;have y:=a.sub;obtain⟨⟨cl,m,J,sl⟩,hl,d,n,hd⟩:=q;have d:cl=.type "list":=d;have hd:J=.seq u n:=hd;subst d hd;refine o3 (codeAny_of_tree ?_);change JA _ _ (callAny (.type "enumerate") _) _ _ _;refine YB ⟨Code.quiet_builtin _ (by decide +kernel),codeAny_builtin F.entry_type_call ?_⟩;rw[Around.under_plain (weight_type_call_type "enumerate" _ _) (units_type_call_type "enumerate" _ _)];have R:=a.notType;have U:=a.canCreate;have X:=Em (.ref l) c t
 repeat (any_goals (first | assumption | wp_step))
 refine SN (gf a.plain F.entry_enumerate_new (wpAny_of_eq (Gm (.ref l) c t) (Im l u n m sl c t I prog w A.in1 (wants (λobj h=>h.TypeIs obj "enumerate"/\Q obj h) E) s ⟨hl, ?_⟩))) λr h i=>?_
 ·have z:(s.heap.push { cls:=.type "list_iterator",data:=.fields #[.ref l,.int 0 0] }).objs.size=s.heap.objs.size+1:=WT ..;change _/\_;rw[z]
  have B:IH ((s.heap.push { cls:=.type "list_iterator",data:=.fields #[.ref l,.int 0 0] }).push { cls:=.type "enumerate",data:=.fields #[.none,.bool cA,.ref s.heap.objs.size,rawInt c,.none,.none] }) (s.heap.objs.size+1) s.heap.objs.size c .none:=by
   have x:=NF (s.heap.push { cls:=.type "list_iterator",data:=.fields #[.ref l,.int 0 0] }) (o:={ cls:=.type "enumerate",data:=.fields #[.none,.bool cA,.ref s.heap.objs.size,rawInt c,.none,.none] }) rfl
   rwa[z] at x
  exact⟨⟨_,B,rfl⟩,k _ B ⟨_,aD _ (NF _ rfl),rfl,rfl⟩ λb o x=>aD _ (aD _ x)⟩
 ·cases r with
  |error e=>exact i
  |ok fl =>
   cases fl with
   |ret obj =>
    have C:h.TypeIs obj "enumerate":=i.1;have K:=a.init.lookup;have M:=a.init.bind obj
    repeat (any_goals (first | assumption | wp_step))
    refine SN (gf a.init.plain F.entry_object_init (a.init.check _ _ _ _ _ _ _ _ C (Dm obj (.ref l) c t) (Hm prog w A.in1 (wants (λr H=>r=.none/\Q obj H) E) h ⟨C,rfl,i.2⟩))) λN H f=>?_
    cases N with
    |error e=>exact f
    |ok p =>
     cases p with
     |ret r =>
      obtain⟨rfl,Y⟩:=f
      repeat (any_goals (first | assumption | wp_step))
     |_=>exact f.elim
   |_=>exact i.elim
end
noncomputable def uU(K:jA)(a:lA)(lo:Int):It :=
 ⟨λi H=>∃b x,qB K H a b/\b[i]?=aA x,λi H x c=>∃p y,H p=eA/\x=.ref p/\c=EA H p (.t [.int (lo+(i:Int)),y])/\∀b,qB K H a b->b[i]?=aA y,λi H=>∃b,qB K H a b/\b.length<=i⟩
def Vd{K:jA}(a e f:lA)(lo:Int)(r:e≠f):Turn P w K (.Tuple elts k0 pos) (uU K a lo) [e,f] e (λi h=>(∃old,IH h e f (lo+(i:Int)) old)/\h.IsListIter f a i) where
 mem:=by simp
 obj:=λi h st b j=>by
  obtain⟨⟨old,C⟩,o,l,c,d⟩:=st;have j:b=e\/b=f:=by simpa using j
  rcases j with rfl | rfl
  ·exact⟨_,C,λv z=>by
    have z':Data.fields _=Data.cell v:=z
    cases z'⟩
  ·exact⟨o,l,λv z=>by rw[d] at z;cases z⟩
 keep:=λi h h' st k=>by(obtain⟨⟨old,C⟩,l⟩:=st;exact⟨⟨old,k e (by simp) _ C⟩,l.at λo q=>k f (by simp) o q⟩)
 item:=by
  intro X F J M hc i dA s Z H E I t st N;subst F J M;obtain⟨xs,x,B,O⟩:=N;obtain⟨Q,R,p,hz⟩:=I.list B;obtain⟨u,hu,ru⟩:=R.get O;obtain⟨⟨old,n⟩,hit⟩:=st;have fe:=t e (by simp);have fi:=t f (by simp);refine Km n hit p.isList (by simpa using hu) r λh' ho y hT hk=>?_
  refine⟨_,rfl,wpAny_letOwnedTupleGo_enum ho λl U m=>?_⟩;have g:e<s.heap.objs.size:=nC n;have A:f<s.heap.objs.size:=by obtain⟨_,q,_⟩:=hit;exact nC q
  have ke:∀b u,b≠e->b≠f->s.heap.get? b=aA u->l.get? b=aA u:=λb u n1 Y q=>(m.2 b n1).trans (hk b u n1 Y q)
  have Gq:l.get? s.heap.objs.size=aA { cls:=.type "tuple",data:=.seq #[.int (lo+(i:Int)) s.toks,u] }:=(m.2 _ (J2 g)).trans hT;have Pq:H s.heap.objs.size=eA:=I.aB.fresh (oB _);have I2:kA X dA Z (EA H s.heap.objs.size (.t [.int (lo+(i:Int)),x])) { s with heap:=l,toks:=s.toks+1 }:=Lr I ke fe fi (oB _) ⟨by rw[hU];simp,[.int (lo+(i:Int)) s.toks,u],.cons ⟨_,rfl⟩ (.cons ru .nil),⟨_,Gq,rfl,_,rfl⟩⟩;refine⟨.ref s.heap.objs.size,EA H s.heap.objs.size (.t [.int (lo+(i:Int)),x]),I2,rfl,⟨s.heap.objs.size,x,Pq,rfl,rfl,λys hy=>by rw[I.X8 hy B];exact O⟩,⟨⟨_,by rw[ag,Int.natCast_one,<- Int.add_assoc];exact U⟩,y.at λo q=>(m.2 f r.symm).trans q⟩,λb j=>?_⟩
  ·have j:b=e\/b=f:=by simpa using j
   rcases j with rfl | rfl
   ·rw[jB (SD g)];exact fe.1
   ·rw[jB (SD A)];exact fi.1
 done:=by(intro X F J M hc i dA s Z H E I t st N;subst F J M;obtain⟨xs,B,O⟩:=N;obtain⟨Q,R,p,hz⟩:=I.list B;obtain⟨⟨old,n⟩,hit⟩:=st;have hl:=R.length;exact Lm (I.ok.hd hc) n hit p.isList (by simp;lia) λh' eb=>⟨rfl,Qr (t':=s.toks) I (λb o _ Y q=>eb b o Y q) (t e (by simp)) (t f (by simp))⟩)
 self:=λ_ _ _ _ _ st h=>by(obtain⟨⟨old,n⟩,_⟩:=st;exact F1 n h)
section
variable{X:Cx}
def JX(K:jA)(lo:Int)(c:TA):TI:=λZ H R=>c Z H λd b=>∃a,d=[.ref a]/\(∃e,qB K b a e)/\R (uU K a lo) b
def E4:AI "enumerate"=aA (.type "enumerate"):=by decide +kernel
def Y9{g:TA}(m:Gl X "enumerate")(n:X.mg "enumerate"=eA)(o:PA X [a] g)(t:eC [a] X.env=[(cA,eval a X.env)]:=by rfl):PI X (.Tuple elts k0 uGa) (.Call (.Name "enumerate" p) [a] [] pos) (JX X.K 0 g):=by
 intro dA s Z H R I h;refine Call_ (IL I m n E4 (rT (RA (o pos dA s Z H _ I h) λF c i=>?_) t rfl));obtain⟨J,j,d,u,v⟩:=i;obtain⟨l,e,⟨M,w⟩,q⟩:=v;subst e
 cases u with
 |cons r x =>
  cases x;cases r;obtain⟨y,N,p,i⟩:=d.list w;refine call_enumerate_list p.isList λz k hit A B=>?_
  have C:kA X dA Z j { c with heap:=z }:=d.kept (t':=c.toks) B;refine F1 k ?_;refine⟨c.heap.objs.size+1,[c.heap.objs.size+1,c.heap.objs.size],_,_,j,rfl,C,Vd l _ _ 0 (Pf _),⟨⟨_,by simpa using k⟩,hit⟩,λb f=>?_,q⟩;have f:b=c.heap.objs.size+1\/b=c.heap.objs.size:=by simpa using f
  rcases f with rfl | rfl
  ·exact d.fK (kQ _) (d.aB.fresh (kQ _))
  ·exact d.fK (oB _) (d.aB.fresh (oB _))
def K_{j:Nat}(x:Gl X "enumerate")(y:X.mg "enumerate"=eA)(z:PA X [a] A)(n:eC [a] X.env=[(cA,eval a X.env)]:=by rfl) :
  PI X (.Tuple elts k0 uGa) (.Call (.Name "enumerate" p) [a] [⟨aA "start",.Constant (.int 1) j kq,kp⟩] pos) (JX X.K 1 A):=by
 intro dA s Z H R I h;refine HP (IL I x y E4 ?_);refine PySem.W.callWith_of (P:=λ_=>True) (by rw[n];rfl) (λ_ _=>⟨.machine,.inr (.inl rfl),PySem.W.Looks.now⟩) (evalArgs_kw2 rfl (RA (z pos dA s Z H _ I h) λus B o=>?_) n);obtain⟨vs,u,C,F,J⟩:=o;obtain⟨l,e,⟨xs,M⟩,q⟩:=J;subst e
 cases F with
 |cons r N =>
  cases N;cases r;refine RA (Q_ (nm:=aA "start") (kpos:=kp) (Q9 (i:=1) (pos:=kq)) R_ pos dA B Z u (λv g=>v=[.int 1]/\g=u) C ⟨rfl,rfl⟩) λws d ⟨v,g,f,k,O,Q⟩=>⟨trivial, ?_⟩
  subst O Q
  cases k with
  |cons k U =>
   cases U;obtain⟨t,rfl⟩:=k;obtain⟨Y,rv,p,o⟩:=f.list M;refine Mm (c:=1) (by decide) p.isList λh' w hit hk=>?_
   have I3:kA X dA Z g { d with heap:=h' }:=f.kept (t':=d.toks) hk;refine F1 w ?_;refine⟨d.heap.objs.size+1,[d.heap.objs.size+1,d.heap.objs.size],_,_,g,rfl,I3,Vd l _ _ 1 (Pf _),⟨⟨_,by simpa using w⟩,hit⟩,λb m=>?_,q⟩;have m:b=d.heap.objs.size+1\/b=d.heap.objs.size:=by simpa using m
   rcases m with rfl | rfl
   ·exact f.fK (kQ _) (f.aB.fresh (kQ _))
   ·exact f.fK (oB _) (f.aB.fresh (oB _))
end
end CI
namespace L2
set_option tactic.hygienic true
open PySem PySem.Spec PyProof.Rows
end L2
namespace CI
set_option tactic.hygienic true
open PySem PySem.Spec PyProof.Rows L2
section
variable{K:jA}{Y Y1:Env}{Z:St}{H G H' G':Hp}{own rJ new new':lA->Prop}
def EG{l:List O}(h:(l.set i a)[j]?=aA b):(j=i/\b=a/\i<l.length)\/(j≠i/\l[j]?=aA b):=by
 by_cases c:j=i
 ·subst c;by_cases hl:j<l.length
  ·rw[II hl] at h;exact .inl ⟨rfl,(pD h).symm,hl⟩
  ·rw[SK (by rw[PF];lia)] at h;cases h
 ·rw[ZD (λz=>c z.symm)] at h;exact .inr ⟨c,h⟩
def BA.unset(r:BA K Y Z H G)(i:Nat):BA K (Y.set i .un) Z H G:=by
 refine⟨by rw[PF];exact r.len,r.sub,λj d h=>?_,λj d p l h=>?_,λj k d p l y B C a h1 h2 u x=>?_⟩
 ·rcases EG h with ⟨_,z,_⟩ | ⟨_,z⟩
  ·cases z
  ·exact r.sh j d z
 ·rcases EG h with ⟨_,z,_⟩ | ⟨_,z⟩
  ·cases z
  ·exact r.ow j d p l z
 ·rcases EG h1 with ⟨_,z,_⟩ | ⟨_,z⟩
  ·cases z
  ·rcases EG h2 with ⟨_,m,_⟩ | ⟨_,m⟩
   ·cases m
   ·exact r.inj _ _ _ _ _ _ _ _ _ z m u x
def xA.unset{i:Nat}{a:lA}(h:xA (Y.set i .un) Z a):xA Y Z a:=by
 obtain⟨j,d,p,l,h1,h2⟩:=h;rcases EG h1 with ⟨_,z,_⟩ | ⟨_,z⟩
 ·cases z
 ·exact⟨j,d,p,l,z,h2⟩
def BA.CN(r:BA K Y Z H G){d:D}(h:Y[i]?=aA (.ow d p l))(hx:Z[i]?=aA (aA (.ref a))):¬xA (Y.set i .un) Z a:=by
 rintro⟨j,k,m,u,h1,h2⟩
 rcases EG h1 with ⟨_,z,_⟩ | ⟨ne,z⟩
 ·cases z
 ·exact ne (r.inj _ _ _ _ _ _ _ _ _ z h h2 hx)
def BA.grow(r:BA K Y Z H G)(k:H a=aA ob)(g:G a=eA)(no:¬xA Y Z a):BA K Y Z H (EA G a ob):=by
 refine⟨r.len,λb u e=>?_,λi d e=>?_,λi d p l e=>?_,r.inj⟩
 ·by_cases j:b=a
  ·subst j;rw[GC] at e;rw[k];exact e
  ·rw[jB j] at e;exact r.sub b u e
 ·obtain⟨v,h1,h2⟩:=r.sh i d e;exact⟨v,h1,qA.mono (Sm.put g) d h2⟩
 ·obtain⟨b,h1,h2,m⟩:=r.ow i d p l e;have j:b≠a:=λz=>by subst z;exact no ⟨i,d,p,l,e,h1⟩
  exact⟨b,h1,by rw[jB j];exact h2,m.mono (Sm.put g) λ_ z=>z⟩
def BA.sN(r:BA K (Y.set i .un) Z H G){d:D}{v:V}(hx:Z[i]?=aA (aA v))(x:qA K G d v):BA K (Y.set i (.sh d)) Z H G:=by
 have key:∀(j:Nat) (sl:Sl),(Y.set i (.sh d))[j]?=aA sl->(j=i/\sl=.sh d)\/(Y.set i .un)[j]?=aA sl:=λj sl h=>by
  rcases EG h with ⟨e,z,_⟩ | ⟨ne,z⟩
  ·exact .inl ⟨e,z⟩
  ·exact .inr (by rw[ZD (λq=>ne q.symm)];exact z)
 refine⟨by have:=r.len;rw[PF] at this ⊢;exact this,r.sub,λj m h=>?_,λj m p l h=>?_,λj k C p l F I J a h1 h2 y B=>?_⟩
 ·rcases key j _ h with ⟨rfl,z⟩ | z
  ·cases z;exact⟨v,hx,x⟩
  ·exact r.sh j m z
 ·rcases key j _ h with ⟨rfl,z⟩ | z
  ·cases z
  ·exact r.ow j m p l z
 ·rcases key j _ h1 with ⟨rfl,z⟩ | z
  ·cases z
  ·rcases key k _ h2 with ⟨rfl,u⟩ | u
   ·cases u
   ·exact r.inj _ _ _ _ _ _ _ _ _ z u y B
def BA.UL(r:BA K (Y.set i .un) Z H G){d:D}{a:lA}(hx:Z[i]?=aA (aA (.ref a)))(g:G a=eA)(ho:vF K H G a d)(no:¬xA (Y.set i .un) Z a):BA K (Y.set i (.ow d p l)) Z H G:=by
 have key:∀(j:Nat) (sl:Sl),(Y.set i (.ow d p l))[j]?=aA sl->(j=i/\sl=.ow d p l)\/(Y.set i .un)[j]?=aA sl:=λj sl h=>by
  rcases EG h with ⟨e,z,_⟩ | ⟨ne,z⟩
  ·exact .inl ⟨e,z⟩
  ·exact .inr (by rw[ZD (λq=>ne q.symm)];exact z)
 refine⟨by have:=r.len;rw[PF] at this ⊢;exact this,r.sub,λj y h=>?_,λj y B C h=>?_,λj k F I l1 J p2 l2 b h1 h2 u x=>?_⟩
 ·rcases key j _ h with ⟨rfl,z⟩ | z
  ·cases z
  ·exact r.sh j y z
 ·rcases key j _ h with ⟨rfl,z⟩ | z
  ·cases z;exact⟨a,hx,g,ho⟩
  ·exact r.ow j y B C z
 ·rcases key j _ h1 with ⟨rfl,z⟩ | z
  ·rcases key k _ h2 with ⟨rfl,m⟩ | m
   ·rfl
   ·rw[hx] at u;cases u;exact absurd ⟨k,_,_,_,m,x⟩ no
  ·rcases key k _ h2 with ⟨rfl,m⟩ | m
   ·rw[hx] at x;cases x;exact absurd ⟨j,_,_,_,z,u⟩ no
   ·exact r.inj _ _ _ _ _ _ _ _ _ z m u x
def xA.sN{i:Nat}{a:lA}(h:xA (Y.set i (.sh d)) Z a):xA (Y.set i .un) Z a:=by
 obtain⟨j,k,p,l,h1,h2⟩:=h;rcases EG h1 with ⟨_,z,_⟩ | ⟨ne,z⟩
 ·cases z
 ·exact⟨j,k,p,l,by rw[ZD (λq=>ne q.symm)];exact z,h2⟩
def xA.UL{d:D}(hx:Z[i]?=aA (aA (.ref b)))(h:xA (Y.set i (.ow d p l)) Z a):a=b\/xA (Y.set i .un) Z a:=by
 obtain⟨j,k,m,u,h1,h2⟩:=h;rcases EG h1 with ⟨rfl,z,_⟩ | ⟨ne,z⟩
 ·rw[hx] at h2;cases h2;exact .inl rfl
 ·exact .inr ⟨j,k,m,u,by rw[ZD (λq=>ne q.symm)];exact z,h2⟩
def LD.grow(r:LD K H G own new Z h x)(s:VA G j)(k:∀a d,h=.val (.ow d)->x=.ref a->j a=eA)(w:∀a,rJ a->own a):LD K H j rJ new Z h x:=by
 induction h using Hd.casesOn with
 |slot i=>exact r
 |val v =>
  induction v using RV.casesOn with
  |sh d=>exact qA.mono s d r
  |ow d =>
   obtain⟨a,rfl,g,o,n,m⟩:=r;exact⟨a,rfl,k a d rfl rfl,o.mono s λ_ z=>z,λz=>n (w a z),m⟩
  |od d=>exact r.elim
theorem sD.yK:∀{j:List Hd} {u:List V} {a:lA},sD K H G own new Z j u->xF j u a->¬own a/\new a/\H a≠eA/\G a=eA
 |[],_,_,h,t=>by cases (show _=[] from h);exact t.elim
 |h::j,_,a,r,t=>by
  obtain⟨x,y,rfl,h1,h2,B⟩:=r;have k:xF j y a->¬own a/\new a/\H a≠eA/\G a=eA:=λt=>sD.yK h2 t
  induction h using Hd.casesOn with
  |slot i=>exact k t
  |val v =>
   induction v using RV.casesOn with
   |sh d=>exact k t
   |ow d =>
    rcases t with rfl | t
    ·obtain⟨b,e,g,o,n,m⟩:=h1;cases e;obtain⟨C,z⟩:=o.there;exact⟨n,m,by rw[z];simp,g⟩
    ·exact k t
   |od d=>exact h1.elim
theorem sD.grow:∀{j:List Hd} {u:List V},sD K H G own new Z j u->∀{m:Hp},VA G m->(∀a,xF j u a->m a=eA)->(∀a,rJ a->own a)->sD K H m rJ new Z j u
 |[],_,h,_,_,_,_=>h
 |h::j,_,r,m,s,k,w=>by
  obtain⟨x,y,rfl,h1,h2,z⟩:=r;refine⟨x,y,rfl,h1.grow s (λa d B C=>k a (by subst B;exact .inl C)) w,sD.grow h2 s (λa t=>k a ?_) w,z⟩
  induction h using Hd.casesOn with
  |slot i=>exact t
  |val v =>
   induction v using RV.casesOn with
   |sh d=>exact t
   |ow d=>exact .inr t
   |od d=>exact h1.elim
def BA.nil(s:VA G H):BA K [] [] H G:=⟨rfl,s,λi d h=>by simp at h,λi d p l h=>by simp at h,λi j d p l k m u a h=>by simp at h⟩
def BA.MM(r:BA K as τ H G)(h:qA K G d x):BA K (.sh d::as) (aA x :: τ) H G:=by
 refine⟨by simp[r.len],r.sub,λi k e=>?_,λi k p l e=>?_,λi j m p l u y z a h1 h2 B C=>?_⟩
 ·cases i with
  |zero=>simp at e;subst e;exact⟨x,rfl,h⟩
  |succ i=>simpa using r.sh i k (by simpa using e)
 ·cases i with
  |zero=>simp at e
  |succ i=>simpa using r.ow i k p l (by simpa using e)
 ·cases i with
  |zero=>simp at h1
  |succ i =>
   cases j with
   |zero=>simp at h2
   |succ j=>exact congrArg (·+1) (r.inj i j m p l u y z a (by simpa using h1) (by simpa using h2) (by simpa using B) (by simpa using C))
def BA.EV(r:BA K as τ H G)(g:G a=eA)(o:vF K H G a d)(n:¬xA as τ a):BA K (.ow d p l::as) (aA (.ref a) :: τ) H G:=by
 refine⟨by simp[r.len],r.sub,λi u e=>?_,λi u p l e=>?_,λi j x y l1 z B C b h1 h2 k m=>?_⟩
 ·cases i with
  |zero=>simp at e
  |succ i=>simpa using r.sh i u (by simpa using e)
 ·cases i with
  |zero =>
   simp only[YD,cC,Sl.ow.injEq] at e;obtain⟨rfl,_,_⟩:=e;exact⟨a,rfl,g,o⟩
  |succ i=>simpa using r.ow i u p l (by simpa using e)
 ·cases i with
  |zero =>
   simp only[YD,cC,V.ref.injEq] at k;subst k
   cases j with
   |zero=>rfl
   |succ j=>exact absurd ⟨j,z,B,C,by simpa using h2,by simpa using m⟩ n
  |succ i =>
   cases j with
   |zero =>
    simp only[YD,cC,V.ref.injEq] at m;subst m;exact absurd ⟨i,x,y,l1,by simpa using h1,by simpa using k⟩ n
   |succ j=>exact congrArg (·+1) (r.inj i j x y l1 z B C b (by simpa using h1) (by simpa using h2) (by simpa using k) (by simpa using m))
def xA.cons{as:List Sl}{τ:St}{sl:Sl}{v:Option V}{a:lA}(h:xA (sl::as) (v :: τ) a):(∃d p l,sl=.ow d p l/\v=aA (.ref a))\/xA as τ a:=by
 obtain⟨i,d,p,l,h1,h2⟩:=h
 cases i with
 |zero=>exact .inl ⟨d,p,l,by simpa using h1,by simpa using h2⟩
 |succ i=>exact .inr ⟨i,d,p,l,by simpa using h1,by simpa using h2⟩
structure Hg(K:jA)(Y:Env)(Z:St)(H G:Hp)(hs:List Hd)(xs:List V)(as:List Sl)(Y1:Env)(G2:Hp):Prop where
 gg:VA G G2
 gn:∀a,G2 a≠eA->G a≠eA\/xA Y Z a\/xF hs xs a
 ra:BA K as (xs.map aA) H G2
 rc:BA K Y1 Z H G2
 ao:∀a,xA as (xs.map aA) a->xA Y Z a\/xF hs xs a
 an:∀a,xA as (xs.map aA) a->¬xA Y1 Z a
 ro:∀a,xA Y1 Z a->xA Y Z a
section
variable{p:Bool}{ps:List Bool}{hs:List Hd}{d:D}{Y:Env}{i:Nat}
theorem Wv:aAk (p::ps) (.val (.sh d)::hs) Y=(aAk ps hs Y).map λ(as,a)=>(.sh d::as,a):=rfl
theorem Vv:aAk (p::ps) (.val (.ow d)::hs) Y=(aAk ps hs Y).map λ(as,a)=>((if p then .ow d bA cA else .sh d)::as,a):=rfl
theorem gS:aAk (p::ps) (.slot i::hs) Y=(match Y[i]? with
  |some (.sh d)=>(aAk ps hs Y).map λ(as,a)=>(.sh d::as,a)
  |some (.ow d b c) =>
   match p with
   |true=>(aAk ps hs (Y.set i .un)).map λ(as,a)=>(.ow d bA c::as,a)
   |false=>if b||c then eA else(aAk ps hs (Y.set i (.sh d))).map λ(as,a)=>(.sh d::as,a)
  |_=>eA):=rfl
end
def map_cons{o:Option (List Sl×Env)}{s:Sl}{as:List Sl}{Y1:Env}(e:(o.map λ(as,b)=>(s::as,b))=aA (as,Y1)):∃a,o=aA (a,Y1)/\as=s::a:=by
 cases o with
 |none=>cases e
 |some y=>cases e;exact⟨_,rfl,rfl⟩
theorem lK:∀(s:List Hd) (dA:List Bool) (Y:Env) (G:Hp) (I:List V) (as:List Sl) (Y1:Env),BA K Y Z H G->sD K H G (xA Y Z) new Z s I->aAk dA s Y=aA (as,Y1) ->
  ∃f,Hg K Y Z H G s I as Y1 f:=by
 intro s
 induction s with
 |nil =>
  intro dA Y G I as Y1 r h e;cases (show I=[] from h)
  induction dA using EC with
  |cons p A=>cases e
  |nil =>
   replace e:aA ([],Y)=aA (as,Y1):=e;simp only[cC,SE] at e;obtain⟨rfl,rfl⟩:=e;exact⟨G,VA.refl _,λa z=>.inl z,BA.nil r.sub,r,λa ⟨i,d,p,l,z,_⟩=>by simp at z,λa ⟨i,d,p,l,z,_⟩=>by simp at z,λ_ z=>z⟩
 |cons x0 s lK =>
  intro dA Y G I as Y1 r h e
  induction x0 using Hd.casesOn with
  |val rv =>
   induction rv using RV.casesOn with
   |sh d =>
    obtain⟨x,j,rfl,t,k,O⟩:=h
    induction dA using EC with
    |nil=>cases e
    |cons p A =>
     rw[Wv] at e;obtain⟨c,q,rfl⟩:=map_cons e;obtain⟨f,L⟩:=lK A Y G j c Y1 r k q;refine⟨f,L.gg,L.gn,L.ra.MM (qA.mono L.gg d t),L.rc,λa z=>?_,λa z=>?_,L.ro⟩
     ·rcases z.cons with ⟨_,_,_,z,_⟩ | z
      ·cases z
      ·exact L.ao a z
     ·rcases z.cons with ⟨_,_,_,z,_⟩ | z
      ·cases z
      ·exact L.an a z
   |ow d =>
    obtain⟨x,j,rfl,t,k,O⟩:=h;obtain⟨b,rfl,g,o,n,m⟩:=t;have C:¬xF s j b:=O d b rfl rfl
    induction dA using EC with
    |nil=>cases e
    |cons p A =>
     rw[Vv] at e;obtain⟨c,q,rfl⟩:=map_cons e
     induction p using hQ with
     |true =>
      obtain⟨f,L⟩:=lK A Y G j c Y1 r k q
      have g2:f b=eA:=by
       cases w:f b with
       |none=>rfl
       |some o' =>
        rcases L.gn b (by rw[w];simp) with z | z | z
        ·exact absurd g z
        ·exact absurd z n
        ·exact absurd z C
      have nb:¬xA c (j.map aA) b:=λz=>by
       rcases L.ao b z with z | z
       ·exact n z
       ·exact C z
      refine⟨f,L.gg,λa z=>?_,L.ra.EV g2 (o.mono L.gg λ_ z=>z) nb,L.rc,λa z=>?_,λa z=>?_,L.ro⟩
      ·rcases L.gn a z with z | z | z
       ·exact .inl z
       ·exact .inr (.inl z)
       ·exact .inr (.inr (.inr z))
      ·rcases z.cons with ⟨_,_,_,_,z⟩ | z
       ·cases z;exact .inr (.inl rfl)
       ·rcases L.ao a z with z | z
        ·exact .inl z
        ·exact .inr (.inr z)
      ·rcases z.cons with ⟨_,_,_,_,z⟩ | z
       ·cases z;exact λw=>n (L.ro _ w)
       ·exact L.an a z
     |false =>
      obtain⟨F,P,Q⟩:=o.put
      have R:∀a,xF s j a->(EA G b F) a=eA:=λa z=>by
       have B:a≠b:=λw=>by subst w;exact C z
       rw[jB B];exact(k.yK z).2.2.2
      obtain⟨f,L⟩:=lK A Y (EA G b F) j c Y1 (r.grow P g n) (k.grow (VA.put g) R λ_ z=>z) q;refine⟨f,(VA.put g).trans L.gg,λa z=>?_,L.ra.MM ?_,L.rc,λa z=>?_,λa z=>?_,L.ro⟩
      ·by_cases B:a=b
       ·subst B;exact .inr (.inr (.inl rfl))
       ·rcases L.gn a z with z | z | z
        ·rw[jB B] at z;exact .inl z
        ·exact .inr (.inl z)
        ·exact .inr (.inr (.inr z))
      ·exact Q _ (Sm.of ((VA.put g).trans L.gg)) (L.gg _ _ GC)
      ·rcases z.cons with ⟨_,_,_,z,_⟩ | z
       ·simp at z
       ·rcases L.ao a z with z | z
        ·exact .inl z
        ·exact .inr (.inr z)
      ·rcases z.cons with ⟨_,_,_,z,_⟩ | z
       ·simp at z
       ·exact L.an a z
   |od=>induction dA using EC<;>cases e
  |slot i =>
   obtain⟨x,j,rfl,t,k,O⟩:=h;have t:Z[i]?=aA (aA x):=t
   induction dA using EC with
   |nil=>cases e
   |cons p A =>
    rw[gS] at e;split at e
    ·rename_i d hd;obtain⟨c,q,rfl⟩:=map_cons e;obtain⟨f,L⟩:=lK A Y G j c Y1 r k q;obtain⟨v,J,h5⟩:=r.sh i d hd;rw[t] at J;cases J;refine⟨f,L.gg,L.gn,L.ra.MM (qA.mono L.gg d h5),L.rc,λa z=>?_,λa z=>?_,L.ro⟩
     ·rcases z.cons with ⟨_,_,_,z,_⟩ | z
      ·cases z
      ·exact L.ao a z
     ·rcases z.cons with ⟨_,_,_,z,_⟩ | z
      ·cases z
      ·exact L.an a z
    ·rename_i d M U hd;obtain⟨b,J,g,o⟩:=r.ow i d M U hd;rw[t] at J;cases J;have u:xA Y Z b:=⟨i,d,M,U,hd,t⟩
     have C:¬xF s j b:=λz=>(k.yK z).1 u
     have N:¬xA (Y.set i .un) Z b:=r.CN hd t
     induction p using hQ with
     |true =>
      simp only at e;obtain⟨c,q,rfl⟩:=map_cons e;obtain⟨f,L⟩:=lK A (Y.set i .un) G j c Y1 (r.unset i) (k.grow (VA.refl _) (λa z=>(k.yK z).2.2.2) λa z=>z.unset) q
      have g2:f b=eA:=by
       cases w:f b with
       |none=>rfl
       |some o' =>
        rcases L.gn b (by rw[w];simp) with z | z | z
        ·exact absurd g z
        ·exact absurd z N
        ·exact absurd z C
      have nb:¬xA c (j.map aA) b:=λz=>by
       rcases L.ao b z with z | z
       ·exact N z
       ·exact C z
      refine⟨f,L.gg,λa z=>?_,L.ra.EV g2 (o.mono L.gg λ_ z=>z) nb,L.rc,λa z=>?_,λa z=>?_,λa z=>(L.ro a z).unset⟩
      ·rcases L.gn a z with z | z | z
       ·exact .inl z
       ·exact .inr (.inl z.unset)
       ·exact .inr (.inr z)
      ·rcases z.cons with ⟨_,_,_,_,z⟩ | z
       ·cases z;exact .inl u
       ·rcases L.ao a z with z | z
        ·exact .inl z.unset
        ·exact .inr z
      ·rcases z.cons with ⟨_,_,_,_,z⟩ | z
       ·cases z;exact λw=>N (L.ro _ w)
       ·exact L.an a z
     |false =>
      simp only at e;split at e
      ·cases e
      ·cases q:aAk A s (Y.set i (.sh d)) with
       |none=>rw[q] at e;cases e
       |some y =>
        obtain⟨c,Y'⟩:=y;rw[q] at e;simp only[JD,cC,SE] at e;obtain⟨rfl,rfl⟩:=e;obtain⟨F,P,Q⟩:=o.put
        have R:∀a,xF s j a->(EA G b F) a=eA:=λa z=>by
         have B:a≠b:=λw=>by subst w;exact C z
         rw[jB B];exact(k.yK z).2.2.2
        have X:∀f,VA (EA G b F) f->qA K f d (.ref b):=λf s2=>Q _ (Sm.of ((VA.put g).trans s2)) (s2 _ _ GC)
        obtain⟨f,L⟩:=lK A (Y.set i (.sh d)) (EA G b F) j c Y' (((r.unset i).grow P g N).sN t (X _ (VA.refl _)))
         (k.grow (VA.put g) R λa z=>z.sN.unset) q
        refine⟨f,(VA.put g).trans L.gg,λa z=>?_,L.ra.MM (X f L.gg),L.rc,λa z=>?_,λa z=>?_,λa z=>(L.ro a z).sN.unset⟩
        ·by_cases B:a=b
         ·subst B;exact .inr (.inl u)
         ·rcases L.gn a z with z | z | z
          ·rw[jB B] at z;exact .inl z
          ·exact .inr (.inl z.sN.unset)
          ·exact .inr (.inr z)
        ·rcases z.cons with ⟨_,_,_,z,_⟩ | z
         ·cases z
         ·rcases L.ao a z with z | z
          ·exact .inl z.sN.unset
          ·exact .inr z
        ·rcases z.cons with ⟨_,_,_,z,_⟩ | z
         ·cases z
         ·exact L.an a z
    ·cases e
end
end CI
namespace CI
set_option tactic.hygienic true
open PySem PySem.Spec PyProof.Rows L2
section
variable{K:jA}
def BA.keep(r:BA K Y Z H G)(e:Ext own H G j k)(n:∀a,xA Y Z a->¬own a)(s:VA k j):BA K Y Z j k:=by
 refine⟨r.len,s,λi d h=>?_,λi d p l h=>?_,r.inj⟩
 ·obtain⟨v,h1,h2⟩:=r.sh i d h;exact⟨v,h1,qA.mono e.gg d h2⟩
 ·obtain⟨a,h1,g,o⟩:=r.ow i d p l h;have m:=n a ⟨i,d,p,l,h,h1⟩;obtain⟨z,u⟩:=o.there;exact⟨a,h1,e.gn a (by rw[u];simp) g m,o.mono e.gg λx y=>e.hh a x y m⟩
def BA.tail(r:BA K (a::as) (v :: τ) H G):BA K as τ H G:=by
 refine⟨by have:=r.len;simpa using this,r.sub,λi d h=>?_,λi d p l h=>?_,λi j d p l k m u b h1 h2 x y=>?_⟩
 ·simpa using r.sh (i+1) d (by simpa using h)
 ·simpa using r.ow (i+1) d p l (by simpa using h)
 ·have:=r.inj (i+1) (j+1) d p l k m u b (by simpa using h1) (by simpa using h2) (by simpa using x) (by simpa using y)
  lia
def xA.tail(h:xA as τ b):xA (a::as) (v :: τ) b:=by
 obtain⟨i,d,p,l,h1,h2⟩:=h;exact⟨i+1,d,p,l,by simpa using h1,by simpa using h2⟩
def p6{i:Nat}{f:List Bool}{g:List Hd}{a:Sl}{as:List Sl}{c Y h:Env}(e:aAj (bA::f) (.slot i::g) (a::as) c Y=aA h) :
  (∃k b j d m n,c[i]?=aA (.ow k b j)/\a=.ow d m n/\aAj f g as c (Y.set i (.ow d b j))=aA h)\/(∀d p l,c[i]?≠aA (.ow d p l))/\aAj f g as c Y=aA h:=by
 replace e:(match (generalizing:=false) c[i]?,a with
  |some (.ow _ b j),.ow d _ _=>aAj f g as c (Y.set i (.ow d b j))
  |some (.ow _ _ _),_=>eA
  |_,_=>aAj f g as c Y)=aA h:=e
 generalize c[i]?=o at e ⊢
 induction o using cH with
 |none=>exact .inr ⟨λ_ _ _ z=>(nomatch z),e⟩
 |some s=>cases s with
  |ow k b j=>cases a with
   |ow d m n=>exact .inl ⟨_,_,_,_,_,_,rfl,rfl,e⟩
   |_=>exact nomatch (show(eA:Option Env)=aA h from e)
  |_=>exact .inr ⟨λ_ _ _ z=>(nomatch z),e⟩
theorem AR:∀(m:List Hd) (dA:List Bool) (as:List Sl) (s:List V) (Y f:Env),BA K as (s.map aA) H G->BA K Y Z H G->(∀a,xA as (s.map aA) a->¬xA Y Z a)->sD K H0 G0 own new Z m s ->
  aAj dA m as y Y=aA f->BA K f Z H G/\∀a,xA f Z a->xA Y Z a\/xA y Z a:=by
 intro m
 induction m with
 |nil =>
  intro dA as s Y f t r n h e
  induction dA using EC with
  |nil =>
   induction as using EC with
   |nil =>
    cases e;exact⟨r,λ_ z=>.inl z⟩
   |cons a as=>cases e
  |cons p u=>cases p<;>cases as<;>cases e
 |cons h m AR =>
  intro dA as s Y f t r n hh e;obtain⟨x,I,rfl,q,J,h3⟩:=hh
  induction dA using EC with
  |nil=>cases e
  |cons p u =>
   induction as using EC with
   |nil=>cases p<;>cases h<;>cases e
   |cons a k =>
    have skip:aAj u m k y Y=aA f->BA K f Z H G/\∀a,xA f Z a->xA Y Z a\/xA y Z a:=λN =>
     AR u k I Y f t.tail r (λb z=>n b z.tail) J N
    induction p using hQ with
    |false=>cases h<;>exact skip e
    |true =>
     induction h using Hd.casesOn with
     |val v=>exact skip e
     |slot i =>
      have q:Z[i]?=aA (aA x):=q;rcases p6 e with ⟨_,l,A,d,B,C,O,rfl,F⟩ | ⟨_,F⟩
      ·replace e:=F;obtain⟨b,M,g,o⟩:=t.ow 0 d B C rfl;simp only[HC,YD,cC] at M;subst M;have nb:¬xA Y Z b:=n b ⟨0,d,B,C,rfl,rfl⟩;have P:BA K (Y.set i (.ow d l A)) Z H G:=(r.unset i).UL q g o λz=>nb z.unset
       obtain⟨Q,R⟩:=AR u k I (Y.set i (.ow d l A)) f t.tail P (λc z w=>by
        rcases w.UL q with rfl | w
        ·obtain⟨j,U,p2,X,z1,z2⟩:=z
         have:=t.inj 0 (j+1) d B C U p2 X c rfl (by simpa using z1) rfl (by simpa using z2)
         lia
        ·exact n c z.tail w.unset) J e
       refine⟨Q,λc z=>?_⟩;rcases R c z with z | z
       ·rcases z.UL q with rfl | z
        ·exact .inr ⟨i,_,l,A,O,q⟩
        ·exact .inl z.unset
       ·exact .inr z
      ·exact skip F
def QH(dA:List Bool)(a:List Hd)(i:Nat):Prop:=∃j:Nat,dA[j]?=aA bA/\a[j]?=aA (.slot i)
def QH.cons{p:Bool}{k:List Bool}{h:Hd}{m:List Hd}{i:Nat}(l:QH k m i):QH (p::k) (h::m) i:=by
 obtain⟨j,h1,h2⟩:=l;exact⟨j+1,by simpa using h1,by simpa using h2⟩
theorem zY:∀(a:List Hd) (dA:List Bool) (Y:Env) (as:List Sl) (c:Env),aAk dA a Y=aA (as,c)->∀i:Nat,vE Y[i]? c[i]?\/(QH dA a i/\∃d p l,Y[i]?=aA (.ow d p l)):=by
 intro a
 induction a with
 |nil =>
  intro dA Y as c e i;cases dA<;>cases e;exact .inl (vE.refl _)
 |cons h a zY =>
  intro dA Y as c e i
  induction dA using EC with
  |nil=>cases h with
   |slot i=>cases e
   |val v=>cases v<;>cases e
  |cons p f =>
   have fin:∀{b:Env} {g:Sl},(aAk f a b).map (λ(as,b)=>(g::as,b))=aA (as,c)->vE b[i]? c[i]?\/(QH f a i/\∃d p l,b[i]?=aA (.ow d p l)):=by
    intro b g e
    cases q:aAk f a b with
    |none=>rw[q] at e;cases e
    |some y =>
     obtain⟨k,s⟩:=y;rw[q] at e;simp only[JD,cC,SE] at e;obtain⟨_,rfl⟩:=e;exact zY f b k s q i
   have same:∀{g:Sl},(aAk f a Y).map (λ(as,b)=>(g::as,b))=aA (as,c)->vE Y[i]? c[i]?\/(QH (p::f) (h::a) i/\∃d p l,Y[i]?=aA (.ow d p l)):=by
    intro g e;rcases fin e with z | ⟨z,w⟩
    ·exact .inl z
    ·exact .inr ⟨z.cons,w⟩
   induction h using Hd.casesOn with
   |val v=>cases v<;>first | exact same e | cases e
   |slot n =>
    rw[gS] at e;split at e
    ·exact same e
    ·rename_i d m t hd
     induction p using hQ with
     |true =>
      simp only at e;by_cases o:i=n
      ·subst o;exact .inr ⟨⟨0,rfl,rfl⟩,d,m,t,hd⟩
      ·have:=fin e
       rw[ZD (λz=>o z.symm)] at this;rcases this with z | ⟨z,w⟩
       ·exact .inl z
       ·exact .inr ⟨z.cons,w⟩
     |false =>
      simp only at e;split at e
      ·cases e
      ·rename_i r;simp only[EJ,not_or,O1] at r;have j:CD Y (Y.set n (.sh d)):=CD.set (by rw[hd];exact r.1);rcases fin e with z | ⟨z,C,u,x,w⟩
       ·exact .inl ((j i).trans z)
       ·have:=j i
        rw[w] at this;obtain⟨A,B⟩:=this.F9;exact .inr ⟨z.cons,A,u,x,B⟩
    ·cases e
theorem zR:∀(k:List Hd) (dA:List Bool) (as:List Sl) (Y g:Env),aAj dA k as m Y=aA g->∀i:Nat,(g[i]?=Y[i]?\/∃d q p l,m[i]?=aA (.ow d p l)/\g[i]?=aA (.ow q p l)) /\
  (QH dA k i->(∃d p l,m[i]?=aA (.ow d p l))->i<Y.length->∃d q p l,m[i]?=aA (.ow d p l)/\g[i]?=aA (.ow q p l)):=by
 intro k
 induction k with
 |nil =>
  intro dA as Y g e i
  induction dA using EC with
  |nil =>
   induction as using EC with
   |nil =>
    cases e;exact⟨.inl rfl,λ⟨j,h,_⟩=>by simp at h⟩
   |cons a as=>cases e
  |cons p r=>cases p<;>cases as<;>cases e
 |cons h k zR =>
  intro dA as Y g e i
  induction dA using EC with
  |nil=>cases e
  |cons p r =>
   induction as using EC with
   |nil=>cases p<;>cases h<;>cases e
   |cons a s =>
    have c:¬(p=bA/\h=.slot i)->QH (p::r) (h::k) i->QH r k i:=λn u=>by
     obtain⟨j,b,t⟩:=u
     cases j with
     |zero =>
      simp only[YD,cC] at b t;exact absurd ⟨b,t⟩ n
     |succ j=>exact⟨j,by simpa using b,by simpa using t⟩
    have skip:¬(p=bA/\h=.slot i)\/¬(∃d p l,m[i]?=aA (.ow d p l))->aAj r k s m Y=aA g->(g[i]?=Y[i]?\/∃d q p l,m[i]?=aA (.ow d p l)/\g[i]?=aA (.ow q p l)) /\
      (QH (p::r) (h::k) i->(∃d p l,m[i]?=aA (.ow d p l))->i<Y.length->∃d q p l,m[i]?=aA (.ow d p l)/\g[i]?=aA (.ow q p l)):=λn B=>by
     obtain⟨b,t⟩:=zR r s Y g B i;refine⟨b,λl o=>?_⟩;rcases n with n | n
     ·exact t (c n l) o
     ·exact absurd o n
    induction p using hQ with
    |false=>cases h<;>exact skip (.inl (by simp)) e
    |true =>
     induction h using Hd.casesOn with
     |val v=>exact skip (.inl (by simp)) e
     |slot y =>
      rcases p6 e with ⟨F,C,H,d,I,J,A,rfl,w⟩ | ⟨x,w⟩
      ·replace e:=w;obtain⟨b,t⟩:=zR r s _ g e i;by_cases f:i=y
       ·subst f;refine⟨?_,λl o hl=>?_⟩
        ·rcases b with b | b
         ·by_cases hl:i<Y.length
          ·rw[II hl] at b;exact .inr ⟨_,_,_,_,A,b⟩
          ·exact .inl (by rw[b,SK (by rw[PF];lia),SK (by lia)])
         ·exact .inr b
        ·rcases b with b | b
         ·rw[II hl] at b;exact⟨_,_,_,_,A,b⟩
         ·exact b
       ·rw[ZD (λz=>f z.symm)] at b;refine⟨b,λl o hl=>t (c (λz=>f (by have:=z.2;simp at this;exact this.symm)) l) o (by rw[PF];exact hl)⟩
      ·refine skip ?_ w;by_cases f:i=y
       ·subst f;refine .inr λu=>?_
        obtain⟨d,p,l,z⟩:=u;exact x d p l z
       ·exact .inl λz=>f (by have:=z.2;simp at this;exact this.symm)
def FV(a:FA K Y0 Z Q G0 Y H G)(h:sD K H G (xA Y Z) (rD Q) Z r A)(e:MD dA f r Y=some (.ok v,s)) :
  ∃as C j,BA K as (A.map aA) H C/\as.length=dA.length/\f as=some (.ok v,j)/\(VA G C/\∀c,xA as (A.map aA) c->xA Y Z c\/xF r A c)/\∀x I J,FA K as (A.map aA) H C j I J->iC K I J (xA j (A.map aA)) (rD H) v x ->
   FA K Y0 Z Q G0 s I J/\iC K I J (xA s Z) (rD Q) v x:=by
 unfold MD at e
 cases q:aAk dA r Y with
 |none=>rw[q] at e;cases e
 |some y =>
  obtain⟨as,t⟩:=y;rw[q] at e;simp only at e
  cases q2:f as with
  |none=>rw[q2] at e;cases e
  |some y =>
   obtain⟨o,j⟩:=y;rw[q2] at e;simp only at e
   cases q3:aAj dA r j Y t with
   |none=>rw[q3] at e;cases e
   |some R =>
    rw[q3] at e;simp only[JD,cC,SE] at e;obtain⟨rfl,rfl⟩:=e;obtain⟨C,L⟩:=lK r dA Y G A as t a.wA h q;refine⟨as,C,j,L.ra, ?_,q2,⟨L.gg,L.ao⟩,λx I J b N=>?_⟩
    ·have:∀(r:List Hd) (dA:List Bool) (Y:Env) (as:List Sl) (t:Env),aAk dA r Y=aA (as,t)->as.length=dA.length:=by
      intro r
      induction r with
      |nil =>
       intro dA Y as t e;cases dA<;>cases e;rfl
      |cons h r O =>
       intro dA Y as t e
       induction dA using EC with
       |nil=>cases h with
        |slot i=>cases e
        |val v=>cases v<;>cases e
       |cons p ps =>
        have fin:∀{o:Option (List Sl×Env)} {g:Sl},(o.map λ(as,s)=>(g::as,s))=aA (as,t)->(∀j s,o=aA (j,s)->j.length=ps.length)->as.length=(p::ps).length:=by
         intro o g e k
         induction o using cH with
         |none=>cases e
         |some y =>
          obtain⟨j,s⟩:=y;simp only[JD,cC,SE] at e;rw[<- e.1,VB,VB,k j s rfl]
        induction h using Hd.casesOn with
        |slot i =>
         rw[gS] at e;split at e
         ·exact fin e λj s z=>O _ _ _ _ z
         ·split at e
          ·exact fin e λj s z=>O _ _ _ _ z
          ·split at e
           ·cases e
           ·exact fin e λj s z=>O _ _ _ _ z
         ·cases e
        |val v =>
         induction v using RV.casesOn with
         |sh d=>exact fin e λj s z=>O _ _ _ _ z
         |ow d=>exact fin e λj s z=>O _ _ _ _ z
         |od d=>cases e
     exact this r dA Y as t q
    ·have own_there:∀c,xA as (A.map aA) c->H c≠eA:=λc z=>(L.ra.owned z).1
     have rc:BA K t Z I J:=L.rc.keep b.ext (λc z w=>L.an c w z) b.wA.sub;obtain⟨r3,r4⟩:=AR r dA j A t R b.wA rc (λc z w=>L.an c (b.own c z) w) h q3
     have u:∀c,xA R Z c->xA Y Z c:=λc z=>by
      rcases r4 c z with z | z
      ·exact L.ro c z
      ·exact z
     have B:∀c,xA as (A.map aA) c->xA Y0 Z c\/Q c=eA:=λc z=>by
      rcases L.ao c z with z | z
      ·exact .inl (a.own c z)
      ·exact .inr (h.yK z).2.1
     have P:CD Y R:=λi=>by
      obtain⟨g1,g2⟩:=zR r dA j t R q3 i;rcases zY r dA Y as t q i with z | ⟨z,o⟩
      ·rcases g1 with g1 | ⟨d,d',p,l,U,X⟩
       ·rw[g1];exact z
       ·rw[U,X];exact⟨rfl,rfl⟩
      ·have hl:i<t.length:=by
        obtain⟨d,p,l,o⟩:=o;rw[L.rc.len,<- a.wA.len];exact(lD.mp o).1
       obtain⟨d,d',p,l,U,X⟩:=g2 z o hl;rw[U,X];exact⟨rfl,rfl⟩
     refine⟨⟨r3,⟨a.ext.gg.trans ((Sm.of L.gg).trans b.ext.gg),λc o F M=>?_,λc z=>a.ext.hx c (b.ext.hx c z),λc F gc M=>?_⟩,a.iH.trans P⟩, ?_⟩
     ·refine b.ext.hh c o (a.ext.hh c o F M) λz=>?_
      rcases B c z with z | z
      ·exact M z
      ·rw[F] at z;cases z
     ·have MR:H c≠eA:=λz=>F (a.ext.hx c z)
      have g1:G c=eA:=a.ext.gn c F gc M
      have g2:C c=eA:=by
       cases w:C c with
       |none=>rfl
       |some o =>
        rcases L.gn c (by rw[w];simp) with z | z | z
        ·exact absurd g1 z
        ·exact absurd (a.own c z) M
        ·exact absurd (h.yK z).2.1 F
      refine b.ext.gn c MR g2 λz=>?_
      rcases B c z with z | z
      ·exact M z
      ·exact F z
     ·induction v using RV.casesOn with
      |sh d=>exact N
      |ow d =>
       obtain⟨c,rfl,g,o,n,m⟩:=N;exact⟨c,rfl,g,o,λz=>(a.wA.owned (u c z)).1 m,a.ext.hx c m⟩
      |od d =>
       obtain⟨c,rfl,g,o,n,m,vs,N,hr⟩:=N;exact⟨c,rfl,g,o,λz=>(a.wA.owned (u c z)).1 m,a.ext.hx c m,vs,N,λx hx=>let ⟨b,ws,h1,h2,h3,h4,h5,h6⟩:=hr x hx;⟨b,ws,h1,h2,h3,λz=>(a.wA.owned (u b z)).1 h5,a.ext.hx b h5,h6⟩⟩
end
end CI
namespace CI
set_option tactic.hygienic true
open PySem PySem.Spec PyProof.Rows L2
inductive GV where
 |no | c (d:D) | fn (f:String) | blt | cls (ns:List fA) | nD (tb:List (fA×String)) | sub (s n:List fA) | yH (s n:List fA) | exc | dI | YA (cs:List fA) | obj (f:String) | iE (cs:List fA) | iI (ks:List fA) (vs:List Int)
set_option genCtorIdx true in
gen_injective_theorems% GV
structure CC where
 N:List fA
 names:List (fA×GH)
 gl:fA->GV
 top:Bool
noncomputable def CC.i7(U:CC)(x:fA):Bool:=U.names.lookup x==aA .globalImplicit
noncomputable def CC.l7(U:CC)(x:fA):Bool:=U.names.lookup x==aA .local||U.names.lookup x==aA .cell||U.names.lookup x==aA .free
noncomputable def hL(x:fA):Bool:=x==("__debug__":fA)||x==("__classdict__":fA)||x==("__name__":fA)
def CC.slot(U:CC)(x:fA):Option Nat:=if hL x then eA else if U.l7 x then U.N.idxOf? x else eA
def CC.glob(U:CC)(x:fA):GV:=if hL x then .no else if U.i7 x then U.gl x else .no
def kL(U:CC)(x:fA):E :=
 match U.slot x with
 |some i=>.v i
 |none=>match U.glob x with
  |.c d=>.c d
  |_=>.AA
noncomputable def yV:Const->E
 |.none=>.c .nA
 |.bool b=>.c (.bl b)
 |.int i=>.c (.int i)
 |.str s=>if gC s then .c (.str s) else .AA
 |_=>.AA
noncomputable def nV(f:fA):Option BI :=
 if f=("len":fA) then aA .len else if f=("abs":fA) then aA .abs else if f=("int":fA) then aA .int else if f=("list":fA) then aA .list
 else if f=("tuple":fA) then aA .tuple else if f=("max":fA) then aA .max else if f=("all":fA) then aA .all else if f=("str":fA) then aA .str else eA
def mV(f:fA):Option BI:=nV f
def UI{p:Prop}(h:cA=bA):p:=nomatch h
noncomputable def aAD:zA->Option fA
 |.Name x _=>aA x
 |_=>eA
def nS{e:zA}{x:fA}(h:aAD e=aA x):∃p,e=.Name x p:=by
 induction e using qD<;>first | exact qJ h | exact⟨_,congrArg (λy=>Expr.Name y _) (pD h)⟩
def XZ(U:CC)(x:fA):Option Ty:=match U.glob x with
 |.blt=>if x=("int":fA) then aA .int else if x=("bool":fA) then aA .bool else if x=("str":fA) then aA .str else if x=("list":fA) then aA .list else if x=("tuple":fA) then aA .tuple else if x=("ValueError":fA) then aA .r0 else eA
 |_=>eA
def YZ(U:CC)(e:zA):Option Ty:=(aAD e).bind (XZ U)
noncomputable def KY:E->E
 |.GD=>.AA
 |c=>c
noncomputable def aAe:zA->Bool
 |.Starred _ _=>cA
 |_=>bA
noncomputable def col(x:fA):fA:=⟨#[58]++x.cps⟩
noncomputable def cat(x:fA):fA:=⟨#[94]++x.cps⟩
noncomputable def mFa(U:CC)(t:zA)(a:E):E:=.AA
noncomputable def BZ{O:Type}:List O->Option O
 |[]=>eA
 |a::r=>(match r with
  |[]=>aA a
  |_::_=>eA)
def lEa{O:Type}{l:List O}{a:O}(h:BZ l=aA a):l=[a]:=by
 obtain _ | ⟨b,_ | ⟨_,_⟩⟩:=l<;>first | exact nomatch (show eA=aA a from h) | (cases (show aA b=aA a from h);rfl)
noncomputable def two{O:Type}:List O->Option (O×O)
 |[]=>eA
 |a::r=>(match r with
  |[]=>eA
  |b::q=>(match q with
   |[]=>aA (a,b)
   |_::_=>eA))
def eHa{O:Type}{l:List O}{p:O×O}(h:two l=aA p):l=[p.1,p.2]:=by
 obtain _ | ⟨a,_ | ⟨b,_ | ⟨_,_⟩⟩⟩:=l<;>first | exact nomatch (show eA=aA p from h) | (cases (show aA (a,b)=aA p from h);rfl)
def XX(U:CC)(t:zA)(a:E):E:=match YZ U t with | some ty=>.cF a [ty] | none=>mFa U t a
def UR(U:CC)(args:List zA)(a:List E):E:=match two args with
 |some p=>(match two a with | some q=>XX U p.2 q.1 | none=>.AA)
 |none=>.AA
noncomputable def aA6:zA->Option Int
 |.Constant (.int a) _ _=>aA a
 |_=>eA
noncomputable def tm(a:List (Option zA))(b:List zA)(c d:List E):E:=.AA
noncomputable def Ss(U:CC):Bool:=cA
noncomputable def Am(z:Bool)(a:List (Option zA))(b:List zA)(c:E):E:=c
noncomputable def dot(m:fA):fA:=⟨#[46]++m.cps⟩
noncomputable def ZJ(x:fA):fA:=⟨#[61]++x.cps⟩
noncomputable def de(U:CC)(x m:fA)(MA a:vC):E:=.AA
noncomputable def X6(U:CC)(x m:fA)(MA b:vC)(a:zA):E:=.AA
noncomputable def ic:zA->Option fA
 |.Constant (.str s) _ _=>if gC s then aA s else eA
 |_=>eA
def WZ(U:CC)(x m:fA)(MA b:vC)(a:zA):E :=
 match ic a,U.slot x with
 |some s,aA i=>if(MA.endLine==b.line)&&(m==("split":fA)) then .UG i s else if(MA.endLine==b.line)&&(m==("startswith":fA)) then .xP i s else .AA
 |_,_=>X6 U x m MA b a
noncomputable def L5(a:List (Option zA))(b:List zA)(d:List E)(c:E):E:=c
def OU(U:CC)(x m:fA)(MA b:vC)(a:zA):E:=WZ U x m MA b a
def NU(U:CC)(x m:fA)(MA b:vC)(a:zA)(c:E):E :=
 if aAe a&&(MA.endLine==b.line)&&(m==("append":fA)) then(match U.slot x with | some i=>.app i c | none=>.AA) else if aAe a&&(MA.endLine==b.line)&&(m==("extend":fA)) then(match U.slot x with | some i=>.ext i c | none=>.AA) else if aAe a&&(MA.endLine==b.line)&&(m==("pop":fA)) then .AA else OU U x m MA b a
def MU(U:CC)(x m:fA)(MA a:vC):E:=if(MA.endLine==a.line)&&(m==("bit_length":fA)) then .VJ (kL U x) else
 if(MA.endLine==a.line)&&(m==("pop":fA)) then(match U.slot x with | some i=>.kP i | none=>.AA) else de U x m MA a
def Z3(U:CC)(x m:fA)(MA b:vC)(args:List zA)(d:List E):E:=match args,d with
 |[a],[c]=>NU U x m MA b a c
 |[],[]=>MU U x m MA b
 |_,_=>.AA
def PU(U:CC)(x m:fA)(MA a:vC)(args:List zA)(b:List E):E :=
 match U.gl (dot m) with
 |.nD c=>if args.all aAe&&(MA.endLine==a.line)&&decide (args.length<29) then(match U.slot x with | some i=>.iG i m c b | none=>.AA) else .AA
 |_=>Z3 U x m MA a args b
def HY(U:CC)(m:fA)(MA b:vC)(args:List zA)(a:E)(c:List E):E :=
 match U.gl (dot m) with
 |.nD d=>if args.all aAe&&(MA.endLine==b.line)&&decide (args.length<29) then .AA else .AA
 |_=>.AA
noncomputable def sS:zA->Option (fA×vC)
 |.Name f p=>aA (f,p)
 |_=>eA
def iN:zA->Option ((fA×vC)×List zA×vC)
 |.Call fn args a pos=>(match a with
  |[]=>(sS fn).map λq=>(q,args,pos)
  |_::_=>eA)
 |_=>eA
def VX(e:zA):Bool:=match iN e with
 |some (f,[_],_)=>f.1==("set":fA)
 |_=>cA
noncomputable def IY:E->Option E
 |.mK c=>aA c
 |_=>eA
def Lw{e c:E}(h:IY e=aA c):e=.mK c:=by
 induction e using E.casesOn with
 |mK=>cases h;rfl
 |_=>exact nomatch (show eA=aA c from h)
def T8(args:List zA)(b:List E):E :=
 match (BZ args).bind λa=>if VX a=bA then(BZ b).bind IY else eA with
 |some c=>.NL c
 |none=>.bif .len b
noncomputable def aAX(a:List E):E :=
 match a with
 |[c]=>.mK c
 |_=>.AA
noncomputable def Zv(args:List zA)(a:List E):E:=.bif .list a
def rO(f:fA)(args:List zA)(a:List E):E :=
 if f=("len":fA) then T8 args a else if f=("set":fA) then aAX a else if f=("range":fA) then .AA else if f=("list":fA) then Zv args a else(match mV f with | some b=>.bif b a | none=>.AA)
noncomputable def SX:zA->Bool
 |.ListComp _ _ _ _=>bA
 |_=>cA
noncomputable def WD:zA->Bool
 |.ListComp _ _ _ _=>cA
 |.SetComp _ _ _ _=>cA
 |.DictComp _ _ _ _ _=>cA
 |_=>bA
noncomputable def MY:zA->Bool
 |.Slice _ _ _ _=>cA
 |_=>bA
noncomputable def vS:zA->Bool
 |.Set _ _ _=>cA
 |_=>bA
noncomputable def xS:zA->Bool
 |.Tuple _ _ _=>cA
 |_=>bA
noncomputable def CC.EL(U:CC)(x:fA):Bool:=U.names.lookup x==aA .local||(U.top&&U.names.lookup x==aA .cell)
def CC.lG(U:CC)(x:fA):Option Nat:=if U.EL x then U.slot x else eA
def Pd(U:CC):zA->Option Nat
 |.Name x _=>U.lG x
 |_=>eA
def bM(U:CC):List zA->Option (List Nat)
 |[]=>aA []
 |e::a=>(Pd U e).bind λi=>(bM U a).map (i :: ·)
def BH(U:CC):zA->Option (Bool×List Nat)
 |.Name x _=>(U.lG x).map λi=>(bA,[i])
 |.Tuple a _ _=>(bM U a).map λis=>(cA,is)
 |_=>eA
noncomputable def aAY:List O->Option O
 |[]=>eA
 |a::r=>(match r with | []=>aA a | _::_=>eA)
def ZX:zA->Option (fA×zA×fA×Int)
 |.Call fn args b _=>(sS fn).bind λq=>(aAY args).bind λa=>(aAY b).bind λk=>k.arg.bind λx=>(aA6 k.value).map λc=>(q.1,a,x,c)
 |_=>eA
def iK(U:CC)(e:zA):Option (ZF×List zA):=match iN e with
 |some x=>if(x.1.1==("range":fA)) then
   (match U.glob x.1.1 with
   |.blt=>if x.2.1.all aAe&&(x.2.1.length==1||x.2.1.length==2) then aA (.BB,x.2.1) else eA
   |_=>eA)
  else if(x.1.1==("enumerate":fA)) then
   (match U.glob x.1.1 with
   |.blt=>if x.2.1.all aAe&&(x.2.1.length==1) then aA (.enum 0,x.2.1) else eA
   |_=>eA)
  else aA (.of,[e])
 |none=>(match ZX e with
  |some x=>if x.1==("enumerate":fA)&&x.2.2.1==("start":fA)&&aAe x.2.1&&x.2.2.2==1 then
    (match U.glob x.1 with
    |.blt=>aA (.enum 1,[x.2.1])
    |_=>eA)
   else eA
  |none=>if vS e then aA (.of,[e]) else eA)
def l9(h:sS e=aA x):e=.Name x.1 x.2:=by
 unfold sS at h;split at h
 ·cases h;rfl
 ·cases h
def YX(h:iN e=aA ((f,p),args,pos)):e=.Call (.Name f p) args [] pos:=by
 unfold iN at h;split at h
 ·rename_i fn as a c
  cases a with
  |nil =>
   obtain⟨q,b,h⟩:=NJ.mp h;cases h;rw[l9 b]
  |cons=>cases h
 ·cases h
def Ak(h:aA6 e=aA a):∃j q,e=.Constant (.int a) j q:=by
 induction e using qD with
 |Constant c j q=>cases c<;>first | exact qJ h | (cases h;exact⟨_,_,rfl⟩)
 |_=>exact qJ h
def A9(h:aAY l=aA a):l=[a]:=by
 cases l with
 |nil=>cases h
 |cons b r =>
  cases r with
  |nil=>cases h;rfl
  |cons=>cases h
def dt(h:ZX e=aA (f,a,x,c)):∃p j q g pos,e=.Call (.Name f p) [a] [⟨aA x,.Constant (.int c) j q,g⟩] pos:=by
 unfold ZX at h;split at h
 ·obtain⟨q,i,h⟩:=MJ.mp h;obtain⟨b,l,h⟩:=MJ.mp h;obtain⟨k,m,h⟩:=MJ.mp h;obtain⟨y,n,h⟩:=MJ.mp h;obtain⟨d,hd,h⟩:=NJ.mp h;cases h;obtain⟨j,z,e⟩:=Ak hd;obtain⟨o,r,g⟩:=k;cases n;cases e;rw[l9 i,A9 l,A9 m];exact⟨_,_,_,_,_,rfl⟩
 ·cases h
noncomputable def UX:zA->Bool
 |.Slice eA eA (aA (.UnaryOp .USub (.Constant (.int i) _ _) _)) _=>i==1
 |_=>cA
noncomputable def aAs(a:rF):List fA:=(a.names.filter λp=>p.2==NameKind.free).map (·.1)
noncomputable def aAp(a:rF):List fA:=(a.names.filter λp=>p.2==NameKind.local).map (·.1)
def CC.inner(U:CC)(j:rF):CC :=
 ⟨aAs j++aAp j,j.names.map λ(n,k)=>if(k==NameKind.free&&U.names.lookup n==aA .cell) then(n,NameKind.cell) else(n,k),U.gl,cA⟩
noncomputable def CC.jI(U:CC):List fA->Option (List Nat)
 |[]=>aA []
 |x::j=>(U.N.idxOf? x).bind λi=>(U.jI j).map (i :: ·)
def CC.xZ(U:CC)(j:rF):Bool:=(j.kind==ScopeKind.function)&&(j.names.all λp=>p.2 != NameKind.cell)&&(j.names.all λp=>p.2 != NameKind.local||j.names.lookup p.1==aA NameKind.local) &&
 (j.names.all λp=>p.2 != NameKind.free||(j.names.lookup p.1==aA NameKind.free&&(U.names.lookup p.1==aA NameKind.cell||U.names.lookup p.1==aA NameKind.free)))&&decide (aAs j++aAp j).Nodup
noncomputable def n7(k:ZF)(ci:E)(a:List E):List E:=match k with
 |.of=>[ci]
 |_=>a
noncomputable def xJ(k:ZF)(one:Bool):Bool:=match k with
 |.enum _=>!one
 |_=>bA
noncomputable def kDa:zA->Bool
 |.Name x _=>x==("figures":fA)
 |_=>cA
noncomputable def av(U:CC)(iter:zA):Option Nat:=eA
def pL(U:CC)(a:rF)(c iter:zA)(ci:E)(b cond:List E)(ce:E):E :=
 if U.xZ a then
  match U.jI (aAs a),BH (U.inner a) c,iK U iter with
  |some imp,aA (one,is),aA (k,_)=>if kDa iter then(if one==(is.length==1) then .comp ce is .sig [ci] cond imp (aAp a).length else .AA) else match av U iter with | some i=>(if one==(is.length==1) then .comp ce is .key [.BE i] cond imp (aAp a).length else .AA) | none=>if one==(is.length==1)&&xJ k one&&k != .enum 1 then .comp ce is k (n7 k ci b) cond imp (aAp a).length else .AA
  |_,_,_=>.AA
 else .AA
def cY(s m:fA)(MA b:vC)(a:zA)(c:E):E:=if aAe a&&(MA.endLine==b.line)&&(m==("join":fA))&&gC s then .vD s c else .AA
def yR(U:CC):zA->Option (fA×List fA×List Int)
 |.Name g _=>(match U.glob g with | .iI a b=>aA (g,a,b) | _=>eA)
 |_=>eA
def ER(U:CC)(op:pG)(b:zA)(a c:E):E:=match op with
 |.NotIn=>(match yR U b with | some q=>.gK q.2.1 a | none=>c)
 |_=>c
def BR(U:CC)(a:zA)(ci c:E):E:=match yR U a with
 |some q=>.AL q.2.1 q.2.2 ci
 |none=>c
mutual
noncomputable def cE(U:CC):zA->E
 |.Name x _=>kL U x
 |.Constant c _ _=>yV c
 |.Tuple j _ _=>if j.all aAe then .t (yB U j) else .AA
 |.List j _=>if j.all aAe then .l (yB U j) else .AA
 |.Dict o l _=>L5 o l (yB U l) (Am (Ss U) o l (tm o l (Q4 U o) (yB U l)))
 |.BinOp a op b _=>.sA op (cE U a) (cE U b)
 |.UnaryOp .Not a _=>.not (cE U a)
 |.UnaryOp .USub a _=>.neg (cE U a)
 |.Compare a [op] [b] _=>if GJ op b then .AA else ER U op b (cE U a) (.tA op (cE U a) (cE U b))
 |.Compare a [op,n] [b,c] _=>if GJ n c then .AA else .fE op n (cE U a) (cE U b) (cE U c)
 |.BoolOp .And (a::b::r) _=>.and (cE U a) (xV U (b::r))
 |.BoolOp .Or (a::b::r) _=>.or (cE U a) (zV U (b::r))
 |.IfExp c a b _=>.ite (cE U c) (cE U a) (cE U b)
 |.Subscript a (.Slice lo u eA _) _=>.sl (cE U a) (cO U lo) (cO U u)
 |.Subscript a i _=>if UX i then .AA else BR U a (cE U i) (.ix (cE U a) (cE U i))
 |.Call (.Name f _) args [] _=>if args.all aAe&&decide (args≠[]) then
   match U.glob f with
   |.fn g=>.call g (yB U args)
   |.cls v=>.make f v (yB U args)
   |.blt=>if f=("isinstance":fA) then UR U args (yB U args)
     else rO f args (yB U args)
   |.obj g=>.nI f g (yB U args)
   |_=>.AA
  else .AA
 |.Call (.Attribute (.Name x _) m MA) args [] e=>PU U x m MA e args (yB U args)
 |.Call (.Attribute (.Constant (.str s) k p) m MA) [a] [] e=>cY s m MA e a (cE U a)
 |.Call (.Attribute (.Call g (w::q) y p) m MA) args [] e=>HY U m MA e args (cE U (.Call g (w::q) y p)) (yB U args)
 |.Attribute (.Name x _) f _=>.fld (kL U x) f
 |.ListComp h [⟨t,iter,[],0⟩] d _=>pL U d t iter (cE U iter) (MQ U iter) [] (cE (U.inner d) h)
 |.ListComp h [⟨t,iter,[c],0⟩] d _=>pL U d t iter (cE U iter) (MQ U iter) [cE (U.inner d) c] (cE (U.inner d) h)
 |_=>.AA
noncomputable def MQ(U:CC):zA->List E
 |.Call _ args _ _=>yB U args
 |_=>[]
noncomputable def yB(U:CC):List zA->List E
 |[]=>[]
 |e::a=>cE U e::yB U a
noncomputable def Q4(U:CC):List (Option zA)->List E
 |[]=>[]
 |o::os=>cO U o::Q4 U os
noncomputable def xV(U:CC):List zA->E
 |[]=>.AA
 |[a]=>cE U a
 |a::b::r=>.and (cE U a) (xV U (b::r))
noncomputable def zV(U:CC):List zA->E
 |[]=>.AA
 |[a]=>cE U a
 |a::b::r=>.or (cE U a) (zV U (b::r))
noncomputable def cO(U:CC):Option zA->E
 |none=>.GD
 |some e=>KY (cE U e)
end
end CI
namespace CI
set_option tactic.hygienic true
open PySem PySem.Spec PyProof.Rows L2
def YL(K:jA)(n:Nat)(run:List Sl->yA RV):Sp:=λb H Q _=>b.length=n/\∃(as:List Sl) (G:Hp) (v:RV) (a:List Sl),BA K as (b.map aA) H G/\as.length=n/\run as=some (.ok v,a) /\
 ∀x c d,FA K as (b.map aA) H G a c d->iC K c d (xA a (b.map aA)) (rD H) v x->Q x c
structure FnAt(X:Cx)(K:jA)(x:fA)(n:Nat)(run:List Sl->yA RV):Prop where
 ex:∃(fa:lA) (fd:pF) (ps:List fA) (k:Nat),sE X.prog X.w X.K X.mg X.base uF k fa fd ps (YL K n run)/\oC k X.A/\X.mg x=aA (.ref fa)/\JG X.K (.ref fa)=bA/\aAr X.K fd ps []
def Jb(K:jA)(b:List fA):Sp:=λe H Q _=>∃a C d c,e=.ref a::c/\c.length=b.length/\H a=aA (.ins C d [])/\UK K C b/\Q .nA (EA H a (.ins C d (b.zip c)))
structure zU(X:Cx)(K:jA)(x:fA)(ns:List fA):Prop where
 ex:∃(Ca fa:lA) (fd:pF) (ps:List fA),lC K uB x=aA (aA (.ref Ca))/\X.mg x=aA (.ref Ca)/\Mk X.K Ca fa/\UK K Ca ns/\sE X.prog X.w X.K X.mg X.base uF 1 fa fd ps (Jb K ns)/\aAr X.K fd ps []
structure MethAt(X:Cx)(K:jA)(c m:fA)(n:Nat)(run:List Sl->yA RV):Prop where
 ex:∃(Ca fa:lA) (fd:pF) (ps:List fA) (k:Nat),lC K uB c=aA (aA (.ref Ca))/\Meth X.K Ca m fa/\sE X.prog X.w X.K X.mg X.base uF k fa fd ps (YL K n run)/\oC k X.A/\aAr X.K fd ps []/\bE K Ca
structure Ig(K:jA)(D C:lA):Prop where
 a:bg K D C=bA
 b:MN K D "__class__"=bA
 c:KP K D=bA
 d:RF K (.ref D) "__class__"=aA (aA (.builtin "object.__class__"))
 e:PySem.W.specialIn K (.builtin "object.__class__") "__get__"=aA (aA (.builtin "getset_descriptor.__get__"))
 f:PySem.W.takesIn K (.builtin "object.__class__")=aA bA
 g:D2 K D (.type "object")=aA bA
structure uQ(K:jA)(mg:fA->Option gA)(x:fA)(s n:List fA):Prop where
 ex:∃C,mg x=aA (.ref C)/\(∀c∈s,∀Ca,lC K uB c=aA (aA (.ref Ca))->vg K (.ref Ca) C=bA)/\∀c∈n,∀Ca,lC K uB c=aA (aA (.ref Ca))->Ig K Ca C
structure pU(X:Cx)(K:jA)(x:fA)(n:Nat)(run:List Sl->yA RV):Prop where
 ex:True
structure CU(X:Cx)(K:jA)(x:fA)(n:Nat)(run:List Sl->yA RV):Prop where
 ex:∃(Ca fa:lA) (fd:pF) (ps:List fA) (k:Nat),lC K uB x=aA (aA (.ref Ca))/\X.mg x=aA (.ref Ca)/\Mk X.K Ca fa/\bE K Ca/\sE X.prog X.w X.K X.mg X.base uF k fa fd ps (YL K n run)/\True/\oC (k+1) X.A/\aAr X.K fd ps []
structure yU(X:Cx)(K:jA)(c m:fA)(n:Nat)(run:List Sl->yA RV):Prop where
 ex:True
structure ExcAt(K:jA)(mg:fA->Option gA)(x:fA):Prop where
 ex:∃C,lC K uB x=aA (aA (.ref C))/\mg x=aA (.ref C)/\Ag K C/\oU K C eA
structure pQ(X:Cx)(K:jA)(x:fA):Prop where
 ex:True
structure aO(K:jA)(mg:fA->Option gA)(x:fA)(cs:List fA):Prop where
 ex:∃D,mg x=aA (.ref D)/\(∃i,oU K D i)/\∀c∈cs,∀C,lC K uB c=aA (aA (.ref C))->D2 K C (.ref D)=aA bA
structure vQ(K:jA)(mg:fA->Option gA)(x:fA)(s n:List fA):Prop where
 ex:∃D,mg x=aA (.ref D)/\(∀c∈s,∀C,lC K uB c=aA (aA (.ref C))->vg K (.ref C) D=bA)/\∀c∈n,∀C,lC K uB c=aA (aA (.ref C))->bg K C D=bA
def dO:Option gA->Option Int->Prop
 |some v,aA i=>∃t,v=.int i t
 |none,eA=>True
 |_,_=>False
structure bO(pr:nQ)(mg:fA->Option gA)(K:jA)(x:fA)(ks:List fA)(vs:List Int):Prop where
 ex:∃(a:lA) (es:Array UN) (n:Nat),mg x=aA (.ref a)/\(a==sysModules)=cA/\K.lookup a=aA { cls:=.type "dict",data:=.dict es n }/\cg pr es.toList/\ks.length=vs.length/\∀k:fA,dO (findBy HK es k) ((ks.zip vs).lookup k)
structure NB(q:Bool)(X:Cx)(K:jA)(P:XA)(C:Calls)(U:CC):Prop where
 yC:X.K=K
 nJ:X.N=U.N
 nm:X.env.scope.names=U.names
 nd:U.N.Nodup
 c:∀x d,U.gl x=.c d->∃u v,X.mg x=aA u/\aAf v u/\∀G,qA K G d v
 blt:∀x,U.gl x=.blt->X.mg x=eA
 sub:∀x s n,U.gl (col x)=.sub s n->uQ K X.mg x s n
 yH:∀x s n,U.gl (col x)=.yH s n->vQ K X.mg x s n
 iE:(∀f cs,U.gl (ZJ f)=.iE cs->∀c∈cs,∀Ca,lC K uB c=aA (aA (.ref Ca))->aG K Ca f)/\∀x ks vs,U.gl x=.iI ks vs->bO X.w.params X.mg K x ks vs
 cond:q=bA->X.calm=bA/\X.A.handled=eA/\X.A.units+64<cLine/\(∀x f,U.gl x=.fn f->FnAt X K x (P f).length (C f))/\(∀x ns,U.gl x=.cls ns->zU X K x ns) /\
  (∀m tb c f,U.gl (dot m)=.nD tb->tb.lookup c=aA f->MethAt X K c m (P f).length (C f))/\oC 2 X.A/\((∀x,U.gl x=.exc->ExcAt K X.mg x)/\∀x,U.gl x=.dI->pQ X K x)/\(∀x cs,U.gl (cat x)=.YA cs->aO K X.mg x cs)/\((∀x f,U.gl x=.fn f->pU X K x (P f).length (C f))/\(∀x f,U.gl x=.obj f->CU X K x (P f).length (C f))/\∀m tb c f,U.gl (dot m)=.nD tb->tb.lookup c=aA f->yU X K c m (P f).length (C f))/\∃gH e_ L,X.stack=gH::e_/\gH.frame=aA L/\X.env.frame=aA L
abbrev OA(X:Cx)(K:jA)(P:XA)(C:Calls)(U:CC):Prop:=NB bA X K P C U
section
variable{X:Cx}{K:jA}{P:XA}{C:Calls}{U:CC}
theorem NB.calm(o:NB bA X K P C U):X.calm=bA:=(o.cond rfl).1
theorem NB.hh(o:NB bA X K P C U):X.A.handled=eA:=(o.cond rfl).2.1
def NB.hu(o:NB bA X K P C U):X.A.units+64<cLine:=(o.cond rfl).2.2.1
theorem NB.fn(o:NB bA X K P C U):∀x f,U.gl x=.fn f->FnAt X K x (P f).length (C f):=(o.cond rfl).2.2.2.1
theorem NB.cls(o:NB bA X K P C U):∀x ns,U.gl x=.cls ns->zU X K x ns:=(o.cond rfl).2.2.2.2.1
theorem NB.nD(o:NB bA X K P C U):∀m j c f,U.gl (dot m)=.nD j->j.lookup c=aA f->MethAt X K c m (P f).length (C f):=(o.cond rfl).2.2.2.2.2.1
def NB.rm(o:NB bA X K P C U):oC 2 X.A:=(o.cond rfl).2.2.2.2.2.2.1
theorem NB.exc(o:NB bA X K P C U):∀x,U.gl x=.exc->ExcAt K X.mg x:=(o.cond rfl).2.2.2.2.2.2.2.1.1
theorem NB.dI(o:NB bA X K P C U):∀x,U.gl x=.dI->pQ X K x:=(o.cond rfl).2.2.2.2.2.2.2.1.2
theorem NB.YA(o:NB bA X K P C U):∀x j,U.gl (cat x)=.YA j->aO K X.mg x j:=(o.cond rfl).2.2.2.2.2.2.2.2.1
def NB.fnX(o:NB bA X K P C U):∀x f,U.gl x=.fn f->pU X K x (P f).length (C f):=(o.cond rfl).2.2.2.2.2.2.2.2.2.1.1
theorem NB.obj(o:NB bA X K P C U):∀x f,U.gl x=.obj f->CU X K x (P f).length (C f):=(o.cond rfl).2.2.2.2.2.2.2.2.2.1.2.1
def NB.Zw(o:NB bA X K P C U):∀m j c f,U.gl (dot m)=.nD j->j.lookup c=aA f->yU X K c m (P f).length (C f):=(o.cond rfl).2.2.2.2.2.2.2.2.2.1.2.2
def NB.tp(o:NB bA X K P C U):∃gH j L,X.stack=gH::j/\gH.frame=aA L/\X.env.frame=aA L:=(o.cond rfl).2.2.2.2.2.2.2.2.2.2
def OA.of(yC:X.K=K)(nJ:X.N=U.N)(nm:X.env.scope.names=U.names)(nd:U.N.Nodup)(calm:X.calm=bA)(hh:X.A.handled=eA)(hu:X.A.units+64<cLine)
  (c:∀x d,U.gl x=.c d->∃u v,X.mg x=aA u/\aAf v u/\∀G,qA K G d v) (blt:∀x,U.gl x=.blt->X.mg x=eA) (fn:∀x f,U.gl x=.fn f->FnAt X K x (P f).length (C f)) (cls:∀x ns,U.gl x=.cls ns->zU X K x ns)
  (nD:∀m k c f,U.gl (dot m)=.nD k->k.lookup c=aA f->MethAt X K c m (P f).length (C f)) (rm:oC 2 X.A) (sub:∀x s n,U.gl (col x)=.sub s n->uQ K X.mg x s n) (yH:∀x s n,U.gl (col x)=.yH s n->vQ K X.mg x s n) (iE:(∀f y,U.gl (ZJ f)=.iE y->∀c∈y,∀z,lC K uB c=aA (aA (.ref z))->aG K z f)/\∀x B F,U.gl x=.iI B F->bO X.w.params X.mg K x B F)
  (exc:(∀x,U.gl x=.exc->ExcAt K X.mg x)/\∀x,U.gl x=.dI->pQ X K x) (YA:∀x y,U.gl (cat x)=.YA y->aO K X.mg x y) (fnX:(∀x f,U.gl x=.fn f->pU X K x (P f).length (C f))/\(∀x f,U.gl x=.obj f->CU X K x (P f).length (C f))/\∀m k c f,U.gl (dot m)=.nD k->k.lookup c=aA f->yU X K c m (P f).length (C f)) (tp:∃gH j L,X.stack=gH::j/\gH.frame=aA L/\X.env.frame=aA L):OA X K P C U :=
 ⟨yC,nJ,nm,nd,c,blt,sub,yH,iE,λ_=>⟨calm,hh,hu,fn,cls,nD,rm,exc,YA,fnX,tp⟩⟩
end
structure GA(X:Cx)(K:jA)(P:XA)(C:Calls)(e:zA)(c:E):Prop where
 v:PE X e (tE K P C c)
 t:PT X e (tT K P C c)
 h:PE X e (tH K P C c)
section
variable{X:Cx}{K:jA}{P:XA}{C:Calls}{U:CC}
def l4(h:∀t Y,ev P C t c Y=eA)(n:∀i,c≠.v i):GA X K P C e c:=by
 have v:PE X e (tE K P C c):=λdA s Z H Q I a=>by obtain⟨Y,G,w,b,r,z,k⟩:=a;rw[h] at z;cases z
 exact⟨v,(λdA s Z H Q I ⟨Y,G,w,b,r,z,k⟩=>by rw[h] at z;cases z),vK v n⟩
def lB:GA X K P C e .AA:=l4 (λt Y=>rfl) λi z=>nomatch z
def jD(a:NB q X K P C U)(h:PE X e (tE K P C c))(n:∀i,c≠.v i:=by exact λi z=>nomatch z)(b:∀Y,ev P C bA c Y=aAi bA (ev P C cA c Y):=by exact λY=>rfl)
  (d:∀whole,isTrue e X.env whole=(do let v <- whole;standAt e.pos;holding [v] (truthy v)):=by exact λ_=>rfl):GA X K P C e c:=⟨h,pAa a.yC h b d,vK h n⟩
def QR[BEq O][LawfulBEq O]{l:List O}(h:l.idxOf? x=aA i):l[i]?=aA x:=by
 rw[List.idxOf?,List.findIdx?_eq_some_iff_getElem] at h;obtain⟨a,b,_⟩:=h;rw[xC a];exact congrArg aA (dC b)
def CC.uJ(xo:NB q X K P C U)(h:U.slot x=aA i):PE X (.Name x pos) (zH i):=by
 unfold CC.slot at h;split at h
 ·cases h
 ·rename_i j;split at h
  ·rename_i k;simp only[hL,EJ,not_or,O1] at j;refine XY (by rw[xo.nJ];exact QR h) ?_ j.1.1 j.1.2;unfold CC.l7 at k;simp only[EJ,beq_iff_eq] at k;unfold kO;rw[xo.nm];rcases k with (h | h) | h
   ·exact .inl h
   ·exact .inr (.inl h)
   ·exact .inr (.inr h)
  ·cases h
def CC.aF(xo:NB q X K P C U)(h:U.glob x=g)(k:g≠.no):Gl X x/\U.gl x=g/\(x==("__debug__":fA))=cA/\x≠"__name__":=by
 unfold CC.glob at h;split at h
 ·exact absurd h.symm k
 ·rename_i j;split at h
  ·rename_i m;simp only[hL,EJ,not_or,O1] at j;refine⟨?_,h,j.1.1,λz=>?_⟩
   ·unfold Gl Env.kindOf;rw[xo.nm];unfold CC.i7 at m;simpa using m
   ·have:=j.2
    rw[z] at this;simp at this
  ·exact absurd h.symm k
def cP(a:NB q X K P C U)(h:PE X e (tC v))(r:∀G,qA K G d v)(b:∀whole,isTrue e X.env whole=(do let v <- whole;standAt e.pos;holding [v] (truthy v))):GA X K P C e (.c d):=by
 refine jD a (TE.wC h λZ H Q q=>?_) (λi z=>nomatch z) (λY=>rfl) b;obtain⟨Y,G,w,f,c,z,k⟩:=q;cases z;exact k v H G (FA.refl c) (r G)
def QY(c:NB q X K P C U)(x:fA)(pos:vC):GA X K P C (.Name x pos) (kL U x):=by
 unfold kL;split
 ·rename_i i j;have g:=CC.uJ c j (pos:=pos);refine⟨B_ g, ?_,C_ g⟩
  -- a test of a local: looked at
  refine TT.DL (xa g λ_=>rfl) λZ H Q q=>?_
  obtain⟨Y,G,b,A,r,l,k⟩:=q;obtain⟨u,B,e,m,n⟩:=B0 l;cases n
  cases w:(Y[i]?).bind Sl.get with
  |none=>rw[w] at e;cases e
  |some d =>
   rw[w] at e;simp only[JD,cC,SE,Out.ok.injEq] at e;obtain⟨rfl,rfl⟩:=e;obtain⟨x,h⟩:=r.bound (by rw[w];rfl);exact⟨x,h,b,by rw[c.yC];exact UZ r.sub (r.get w h) m,k H G (FA.refl r)⟩
 ·split
  ·rename_i d hd;obtain⟨o,p,s,F⟩:=CC.aF c hd (λz=>nomatch z);obtain⟨u,v,t,y,f⟩:=c.c x d p;exact cP c (WY o t y s) f λ_=>rfl
  ·exact lB
def qy(a:NB q X K P C U)(c:Const)(k:Nat)(pos:vC):GA X K P C (.Constant c k pos) (yV c):=by
 cases c with
 |none=>exact cP a v_ (λG=>by simp[qA]) λ_=>rfl
 |bool b=>exact cP a m_ (λG=>by simp[qA]) λ_=>rfl
 |int i=>exact cP a Q9 (λG=>by simp[qA]) λ_=>rfl
 |str s =>
  simp only[yV];split
  ·rename_i h;exact cP a BS (λG=>by simp only[qA];exact⟨trivial,h⟩) λ_=>rfl
  ·exact lB
 |_=>exact lB
def zC(h:aAe e=bA)(a:List zA)(env:JJ):eC (e::a) env=(cA,eval e env)::eC a env:=by
 induction e using qD with
 |Starred=>cases h
 |_=>rfl
def h_:PA X [] (uK K P C []):=by
 refine TA.SR tI λZ H Q q=>?_
 obtain⟨Y,G,a,b,r,e,k⟩:=q;simp only[AE,cC,SE,Out.ok.injEq] at e;obtain⟨rfl,rfl⟩:=e;exact k [] H G (FA.refl r) uA.nil
def f_(h:GA X K P C e c)(t:PA X j (uK K P C l))(m:aAe e=bA):PA X (e::j) (uK K P C (c::l)):=by
 refine TA.SR (mH h.v t (zC m _ _)) λZ H Q q=>?_
 obtain⟨Y,G,F,I,r,e,k⟩:=q;rw[AE] at e;obtain⟨v,g,n,o⟩:=fB e;obtain⟨b,J,p,s⟩:=fB o;cases s;refine⟨Y,G,v,g,r,n,λx M N u w=>?_⟩;obtain⟨d,a,y⟩:=u.share w;refine⟨g,d,b,_,a.wA,p,λz A B i f=>?_⟩;exact k (x::z) A B (a.trans i) (uA.cons (qA.mono i.ext.gg _ y) f)
def i_:PA X [] (mG K P C []):=by
 refine TA.SR tI λZ H Q q=>?_
 obtain⟨Y,G,a,b,r,e,k⟩:=q;simp only[kC,cC,SE,Out.ok.injEq] at e;obtain⟨rfl,rfl⟩:=e;exact k [] H G (FA.refl r) rfl
theorem sD.BG(w:∀a,new a->j a):∀{k:List Hd} {m:List V},sD K H G own new Z k m->sD K H G own j Z k m
 |[],_,h=>h
 |h::k,_,r=>by(obtain⟨x,u,rfl,h1,h2,y⟩:=r;exact⟨x,u,rfl,h1.BG w,sD.BG w h2,y⟩)
def g_(h:GA X K P C e c)(t:PA X y (mG K P C A))(B:aAe e=bA):PA X (e::y) (mG K P C (c::A)):=by
 refine TA.SR (mH h.h t (zC B _ _)) λZ H Q q=>?_
 obtain⟨Y,G,ds,Y',r,e,k⟩:=q;rw[kC] at e;obtain⟨v,p,F,I⟩:=fB e;obtain⟨i,Y2,J,M⟩:=fB I;cases M;refine⟨Y,G,v,p,r,F,λx N O j hx=>⟨p,O,i,_,j.wA,J,λs R G2 l f=>?_⟩⟩;refine k (x::s) R G2 (j.trans l) ⟨x,s,rfl,hx.wait l.ext λa z=>.inl (l.own a z),f.BG λa z=>j.ext.hx a z,λd a hd ha ht=>?_⟩;subst hd;obtain⟨b,u,g,o,n,m⟩:=hx;rw[ha] at u;cases u;obtain⟨vs,w⟩:=o.there
 have:=(f.yK ht).2.1
 rw[show N a=eA from this] at w;cases w
theorem sD.getAll(r:BA K Y Z H G):∀{j:List Hd} {m:List V} {k:List D},sD K H G own new Z j m->getAll j Y=aA k->jO K H G k m
 |[],_,_,h,e=>by cases (show _=[] from h);cases e;rfl
 |h::j,_,k,hh,e=>by
  obtain⟨x,u,rfl,h1,h2,z⟩:=hh;simp only[CI.getAll] at e
  cases q:h.get Y with
  |none=>rw[q] at e;cases e
  |some d =>
   rw[q] at e
   cases q2:CI.getAll j Y with
   |none=>rw[q2] at e;cases e
   |some y =>
    rw[q2] at e;cases e;exact⟨x,u,rfl,h1.read r q,sD.getAll r h2 q2⟩
def jy(u:OA X K P C U)(I:GA X K P C a J)(M:GA X K P C b N):GA X K P C (.BinOp a op b pos) (.sA op J N):=by
 refine jD u (TE.wC (x_ (Oj u.yC op) I.h M.h) λZ H Q q=>?_);obtain⟨Y,G,v,o,r,e,k⟩:=q;obtain⟨p,A,O,e⟩:=fB e;obtain⟨B,Y2,R,e⟩:=fB e;obtain⟨f,rfl⟩:=zE e;refine⟨Y,G,p,A,r,O,λx H1 G1 F rx=>⟨A,G1,B,o,F.wA,R,λy H2 G2 j ry=>?_⟩⟩
 cases q1:p.get o with
 |none=>rw[q1] at f;cases f
 |some d =>
  cases q2:B.get o with
  |none=>rw[q1,q2] at f;cases f
  |some d2 =>
   rw[q1,q2] at f;simp only[tF] at f;split at f
   ·rename_i s;have l:=rx.wait j.ext λa z=>.inl (j.own a z)
    refine⟨G2,d,d2,v,j.wA.sub,l.read j.wA q1,ry.read j.wA q2,λho ds hd=>?_,f,λz H3 t=>?_⟩
    ·subst ho;subst hd
     induction p using Hd.casesOn with
     |slot i=>simp[oN] at s
     |val w =>
      induction w using RV.casesOn with
      |sh _=>simp[oN] at s
      |od _=>simp[oN] at s
      |ow w =>
       simp only[Hd.get,RV.d,cC] at q1;subst q1;obtain⟨c,e5,g,⟨vs,o1,o2⟩,n,m⟩:=l;exact⟨c,vs,e5,o1,o2⟩
    ·obtain⟨G3,a3,v3⟩:=(F.trans j).made t;exact k z H3 G3 a3 v3
   ·cases f
def Ny(c:OA X K P C U)(d:GA X K P C a f):GA X K P C (.UnaryOp .USub a pos) (.neg f):=by
 refine jD c (TE.wC (A_ jHa d.v) λZ H Q q=>?_);obtain⟨Y,G,v,n,r,e,k⟩:=q;obtain⟨w,o,g,e⟩:=fB e;split at e
 ·rename_i i h;cases e;refine⟨Y,G,w,_,r,g,λx j b l m=>?_⟩
  have:=m.tN
  rw[h] at this;cases this.int;exact⟨i,rfl,k _ j b l (by show qA K b (.int (-i)) _;simp[qA])⟩
 ·cases e
def w_(e:PE X a f):PE X (.UnaryOp .Not a pos) (λZ H Q=>f Z H λx c=>∃k,xQ X.K x c k/\Q (.bl (!k)) c):=by
 intro dA s Z H Q I h;refine UnaryOp_ (RA (e dA s Z H _ I h) λv g d=>?_);obtain⟨x,i,j,l,m⟩:=d;exact not_of (RA (Td dA g Z i x v (λk c=>Q (.bl (!k)) c) j l m) λb q d=>(by obtain⟨n,o,p⟩:=d;exact⟨.bl (!b),n,o,rfl,p⟩))
def Oy(p:OA X K P C U)(n:GA X K P C a o):GA X K P C (.UnaryOp .Not a pos) (.not o):=by
 have v:PE X (.UnaryOp .Not a pos) (tE K P C (.not o)):=by
  refine TE.wC (w_ n.h) λZ H Q q=>?_
  obtain⟨Y,G,v,j,r,e,k⟩:=q;obtain⟨w,s,l,e⟩:=fB e;obtain⟨c,rfl⟩:=zE e;refine⟨Y,G,w,j,r,l,λx m g f u=>?_⟩
  cases q:w.get j with
  |none=>rw[q] at c;cases c
  |some d =>
   rw[q] at c;simp only[tF] at c
   cases q2:DH d with
   |none=>rw[q2] at c;cases c
   |some b =>
    rw[q2] at c;cases c;refine⟨b, ?_,k _ m g f (by show qA K g (.bl _) _;simp[qA])⟩;rw[p.yC];exact UZ f.wA.sub (u.read f.wA q) q2
 refine⟨v, ?_,vK v λi z=>nomatch z⟩;refine TT.DL (oAa n.t) λZ H Q q=>?_
 obtain⟨Y,G,b,j,r,e,k⟩:=q;obtain⟨w,s,l,e⟩:=fB e;split at e
 ·rename_i y;cases e;exact⟨Y,G,y,_,r,l,λm g f=>k m g f⟩
 ·cases e
def QQ(r:FA K Y Z H G i g j)(n:LD K g j (xA i Z) (rD H) Z k x)(c:FA K i Z g j f h l)(o:LD K h l (xA f Z) (rD g) Z m y)
  (e:((k.get f).bind λd=>(m.get f).bind λe=>vB op d e)=aA b) (Q:VK) (q:Q (.bl b) h):nP K op x y h Q:=by
 cases q1:k.get f with
 |none=>rw[q1] at e;cases e
 |some d =>
  cases q2:m.get f with
  |none=>rw[q1,q2] at e;cases e
  |some p =>
   rw[q1,q2] at e;exact⟨l,d,p,b,c.wA.sub,(n.wait c.ext λa z=>.inl (c.own a z)).read c.wA q1,o.read c.wA q2,e,q⟩
def vw(e:(o.map λb=>RV.sh (.bl b))=aA v):∃b,o=aA b/\v=.sh (.bl b):=by
 induction o using cH with
 |none=>cases e
 |some b=>cases e;exact⟨b,rfl,rfl⟩
def HQ{x y:Option D}{f:D->D->Option Bool}(e:(x.bind λd=>y.bind λe=>(f d e).map λb=>RV.sh (.bl b))=aA v):∃b,(x.bind λd=>y.bind λe=>f d e)=aA b/\v=.sh (.bl b):=by
 induction x using cH with
 |none=>cases e
 |some d =>
  induction y using cH with
  |none=>cases e
  |some a=>exact vw e
def my(j:OA X K P C U)(s:GA X K P C a l)(t:GA X K P C b m)(u:GJ op b=cA):GA X K P C (.Compare a [op] [b] pos) (.tA op l m):=by
 have core:∀Z H (Q:VK),(∃(Y:Env) (G:Hp) (b:Bool) (c:Env),BA K Y Z H G/\ev P C cA (.tA op l m) Y=some (.ok (.sh (.bl b)),c)/\∀d f,FA K Y Z H G c d f->Q (.bl b) d) ->
   BN (nP K op) (tH K P C l) (tH K P C m) Z H Q:=λZ H Q q=>by
  obtain⟨Y,G,b,c,r,e,k⟩:=q;obtain⟨w,n,A,e⟩:=fB e;obtain⟨B,M,F,e⟩:=fB e;obtain⟨o,rfl⟩:=zE e;obtain⟨g,I,N⟩:=HQ o;cases N;exact⟨Y,G,w,n,r,A,λx H1 O p R=>⟨n,O,B,c,p.wA,F,λy H2 G2 J ry=>QQ p R J ry I Q (k H2 G2 (p.trans J))⟩⟩
 have v:PE X (.Compare a [op] [b] pos) (tE K P C (.tA op l m)):=by
  refine TE.wC (P9 (LM j.yC j.hu op) s.h t.h u) λZ H Q q=>core Z H Q ?_
  obtain⟨Y,G,v,c,r,e,k⟩:=q;have e0:=e;obtain⟨w,n,A,e⟩:=fB e;obtain⟨B,M,F,e⟩:=fB e;obtain⟨o,rfl⟩:=zE e;obtain⟨g,I,rfl⟩:=HQ o;exact⟨Y,G,g,c,r,e0,λd f a=>k _ d f a (by show qA K f (.bl _) _;simp[qA])⟩
 refine⟨v, ?_,vK v λi z=>nomatch z⟩;refine TT.DL (wa (LM j.yC j.hu op) s.h t.h u) λZ H Q q=>core Z H _ ?_
 obtain⟨Y,G,g,c,r,e,k⟩:=q;exact⟨Y,G,g,c,r,e,λd f a=>⟨g,rfl,k d f a⟩⟩
def ny(f:OA X K P C U)(J:GA X K P C a p)(M:GA X K P C b s)(N:GA X K P C c t)(hm:GJ d c=cA):GA X K P C (.Compare a [op,d] [b,c] pos) (.fE op d p s t):=by
 have core:∀Z H (Q:VK),(∃(Y:Env) (G:Hp) (b:Bool) (g:Env),BA K Y Z H G/\ev P C cA (.fE op d p s t) Y=some (.ok (.sh (.bl b)),g)/\∀m n,FA K Y Z H G g m n->Q (.bl b) m) ->
   NZ (nP K op) (nP K d) (tH K P C p) (tH K P C s) (tH K P C t) Z H Q:=λZ H Q q=>by
  obtain⟨Y,G,b,g,r,e,k⟩:=q;obtain⟨hx,u,O,e⟩:=fB e;obtain⟨R,w,e2,e⟩:=fB e;refine⟨Y,G,hx,u,r,O,λx H1 G1 j rx=>⟨u,G1,R,w,j.wA,e2,λy H2 G2 o A=>?_⟩⟩;split at e
  ·cases e
  ·rename_i B;cases e;refine QQ j rx o A B _ ⟨cA,rfl, ?_⟩;rw[pB JE];exact k H2 G2 (j.trans o)
  ·rename_i B;obtain⟨hz,Y3,e5,e⟩:=fB e;obtain⟨F,rfl⟩:=zE e;obtain⟨l,e7,I⟩:=HQ F;cases I;refine QQ j rx o A B _ ⟨bA,rfl, ?_⟩;rw[QA rfl];exact⟨w,G2,hz,g,o.wA,e5,λz H3 G3 a3 rz=>QQ (j.trans o) (A.BG λa z=>j.ext.hx a z) a3 rz e7 Q (k H3 G3 ((j.trans o).trans a3))⟩
 have hl:lastMarks [op,d] [b,c]=cA:=hm
 have v:PE X (.Compare a [op,d] [b,c] pos) (tE K P C (.fE op d p s t)):=by
  refine TE.wC (o_ (LM f.yC f.hu op) (LM f.yC f.hu d) J.h M.h N.h hl) λZ H Q q=>core Z H Q ?_
  obtain⟨Y,G,v,g,r,e,k⟩:=q;have e0:=e
  have:∃b,v=.sh (.bl b):=by
   obtain⟨hx,u,O,e⟩:=fB e;obtain⟨R,w,e2,e⟩:=fB e;split at e
   ·cases e
   ·cases e;exact⟨_,rfl⟩
   ·obtain⟨hz,Y3,e5,e⟩:=fB e;obtain⟨F,rfl⟩:=zE e;obtain⟨l,e7,I⟩:=HQ F;exact⟨l,I⟩
  obtain⟨l,rfl⟩:=this;exact⟨Y,G,l,g,r,e0,λm n a=>k _ m n a (by show qA K n (.bl _) _;simp[qA])⟩
 refine⟨v, ?_,vK v λi z=>nomatch z⟩;refine TT.DL (mAa (LM f.yC f.hu op) (LM f.yC f.hu d) J.h M.h N.h hl) λZ H Q q=>core Z H _ ?_
 obtain⟨Y,G,l,g,r,e,k⟩:=q;exact⟨Y,G,l,g,r,e,λm n a=>⟨l,rfl,k m n a⟩⟩
end
end CI
namespace CI
set_option tactic.hygienic true
open PySem PySem.Spec PyProof.Rows L2
section
variable{K:jA}
def PW.imp(h:PW X e t)(w:∀Z H Q,u Z H Q->t Z H Q):PW X e u:=λj dA s Z H Q I q=>h j dA s Z H Q I (w Z H Q q)
def Mi(q:tE K P C (.and g h) Z H Q):Jd (tE K P C g) (tE K P C h) Z H Q:=by
 obtain⟨Y,G,v,i,r,e,k⟩:=q;obtain⟨w,d,j,e⟩:=fB e;refine⟨Y,G,w,d,r,j,λx l b c f=>?_⟩;split at e
 ·refine⟨bA,oP (K:=K) (G:=b) f, ?_⟩;refine GL ?_;exact⟨d,b,v,i,c.wA,e,λy m n o p=>k y m n (c.trans o) (p.BG λa z=>c.ext.hx a z)⟩
 ·refine⟨cA,oP (K:=K) (G:=b) f, ?_⟩;refine FL ?_;cases e;exact k _ l b c (by show qA K b (.bl _) _;simp[qA])
 ·cases e
def Li(q:tT K P C (.and h i) Z H Q):Fd (tT K P C h) (tT K P C i) Z H Q:=by
 obtain⟨Y,G,b,j,r,e,k⟩:=q;obtain⟨w,c,f,e⟩:=fB e;split at e
 ·refine⟨Y,G,bA,c,r,f,λg d a=>?_⟩;refine GL ?_;exact⟨c,d,b,j,a.wA,e,λl m n=>k l m (a.trans n)⟩
 ·refine⟨Y,G,cA,c,r,f,λg d a=>?_⟩;refine FL ?_;cases e;exact k g d a
 ·cases e
def d_(q:tE K P C (.or g h) Z H Q):Ld (tE K P C g) (tE K P C h) Z H Q:=by
 obtain⟨Y,G,v,i,r,e,k⟩:=q;obtain⟨w,d,j,e⟩:=fB e;refine⟨Y,G,w,d,r,j,λx l b c f=>?_⟩;split at e
 ·refine⟨bA,oP (K:=K) (G:=b) f, ?_⟩;refine GL ?_;cases e;exact k _ l b c (by show qA K b (.bl _) _;simp[qA])
 ·refine⟨cA,oP (K:=K) (G:=b) f, ?_⟩;refine FL ?_;exact⟨d,b,v,i,c.wA,e,λy m n o p=>k y m n (c.trans o) (p.BG λa z=>c.ext.hx a z)⟩
 ·cases e
def c_(q:tT K P C (.or h i) Z H Q):Kd (tT K P C h) (tT K P C i) Z H Q:=by
 obtain⟨Y,G,b,j,r,e,k⟩:=q;obtain⟨w,c,f,e⟩:=fB e;split at e
 ·refine⟨Y,G,bA,c,r,f,λg d a=>?_⟩;refine GL ?_;cases e;exact k g d a
 ·refine⟨Y,G,cA,c,r,f,λg d a=>?_⟩;refine FL ?_;exact⟨c,d,b,j,a.wA,e,λl m n=>k l m (a.trans n)⟩
 ·cases e
structure RH(X:Cx)(K:jA)(P:XA)(C:Calls)(op:BoolOp)(vs:List zA)(c:E):Prop where
 v:∀pos,PE X (.BoolOp op vs pos) (tE K P C c)
 w:∀pos,PW X (.BoolOp op vs pos) (tT K P C c)
def Lx(h:GA X K P C a c):RH X K P C .And [a] c:=⟨λ_=>T9 h.v,λ_=>aA2 h.t⟩
def Nx(h:GA X K P C a c):RH X K P C .Or [a] c:=⟨λ_=>T9 h.v,λ_=>aA7 h.t⟩
def v9(h:GA X K P C a c)(t:RH X K P C .And (b::r) d):RH X K P C .And (a::b::r) (.and c d) :=
 ⟨λpos=>TE.wC (l_ h.v (t.v pos)) λ_ _ _ q=>Mi q,λpos=>PW.imp (aA5 h.t (t.w pos)) λ_ _ _ q=>Li q⟩
def w9(h:GA X K P C a c)(t:RH X K P C .Or (b::r) d):RH X K P C .Or (a::b::r) (.or c d) :=
 ⟨λpos=>TE.wC (U9 h.v (t.v pos)) λ_ _ _ q=>d_ q,λpos=>PW.imp (aA9 h.t (t.w pos)) λ_ _ _ q=>c_ q⟩
def RH.x9(h:RH X K P C op j c)(n:∀i,c≠.v i):GA X K P C (.BoolOp op j pos) c:=⟨h.v pos,(h.w pos).pt,vK (h.v pos) n⟩
def nAa(i:PT X c j)(l:PT X a m)(n:PT X b o):PT X (.IfExp c a b pos) (λZ H Q=>j Z H λk d=>if k=bA then m Z d Q else o Z d Q):=by
 intro dA s Z H Q I h;show JA _ _ (do if <- isTrue c X.env (eval c X.env) then isTrue a X.env (eval a X.env) else isTrue b X.env (eval b X.env)) _ _ s;refine WA (RA (i dA s Z H _ I h) λk f p=>?_);obtain⟨d,g,e⟩:=p
 cases k with
 |true =>
  simp only[if_true] at e ⊢;exact l dA f Z d Q g e
 |false =>
  simp only[KI,if_false] at e ⊢;exact n dA f Z d Q g e
def Cy(s:GA X K P C c u)(x:GA X K P C a A)(B:GA X K P C b F):GA X K P C (.IfExp c a b pos) (.ite u A F):=by
 have v:PE X (.IfExp c a b pos) (tE K P C (.ite u A F)):=by
  refine TE.wC (r_ s.t x.v B.v) λZ H Q q=>?_
  obtain⟨Y,G,v,m,r,e,k⟩:=q;obtain⟨w,f,n,e⟩:=fB e;split at e
  ·refine⟨Y,G,bA,f,r,n,λo g d=>?_⟩;refine GL ?_;exact⟨f,g,v,m,d.wA,e,λy h j l p=>k y h j (d.trans l) (p.BG λa z=>d.ext.hx a z)⟩
  ·refine⟨Y,G,cA,f,r,n,λo g d=>?_⟩;refine FL ?_;exact⟨f,g,v,m,d.wA,e,λy h j l p=>k y h j (d.trans l) (p.BG λa z=>d.ext.hx a z)⟩
  ·cases e
 refine⟨v, ?_,vK v λi z=>nomatch z⟩;refine TT.DL (nAa s.t x.t B.t) λZ H Q q=>?_
 obtain⟨Y,G,b,m,r,e,k⟩:=q;obtain⟨w,f,n,e⟩:=fB e;split at e
 ·refine⟨Y,G,bA,f,r,n,λo g d=>?_⟩;refine GL ?_;exact⟨f,g,b,m,d.wA,e,λh j l=>k h j (d.trans l)⟩
 ·refine⟨Y,G,cA,f,r,n,λo g d=>?_⟩;refine FL ?_;exact⟨f,g,b,m,d.wA,e,λh j l=>k h j (d.trans l)⟩
 ·cases e
def Wy{q:Bool}(d:NB q X K P C U){a:List zA}{b:List E}{f:Nat}{pos:vC}(h:PA X a (uK K P C b)):GA X K P C (.Tuple a f pos) (.t b):=by
 refine jD d (TE.wC (z_ h) λZ H Q q=>?_);obtain⟨Y,G,v,s,r,e,k⟩:=q;obtain⟨g,t,i,e⟩:=fB e;split at e
 ·rename_i j;cases e;refine⟨Y,G,g,_,r,i,λu w x l c=>⟨by rw[c.len];exact pK j,λp m=>?_⟩⟩;obtain⟨n,o⟩:=l.Ud m c;exact k _ _ _ n o
 ·cases e
def Iy(b:NB q X K P C U)(h:PA X c (uK K P C d)):GA X K P C (.List c pos) (.l d):=by
 refine jD b (TE.wC (s_ h) λZ H Q q=>?_);obtain⟨Y,G,v,o,r,e,k⟩:=q;obtain⟨f,s,g,e⟩:=fB e;split at e
 ·rename_i i;cases e;refine⟨Y,G,f,_,r,g,λt u w j a=>⟨by rw[a.len];exact pK i,λp l=>?_⟩⟩;obtain⟨m,n⟩:=j.TY l a;exact k _ _ _ m n
 ·cases e
def Dy(g:OA X K P C U)(o:GA X K P C a p)(s:GA X K P C b t)(u:iO b):GA X K P C (.Subscript a b pos) (.ix p t):=by
 refine jD g (TE.wC (R9 (Bt g.yC (by have:=g.hu;lia)) o.h s.v u) λZ H Q q=>?_);obtain⟨Y,G,v,i,r,e,k⟩:=q;obtain⟨j,l,A,e⟩:=fB e;obtain⟨w,R,B,e⟩:=fB e;obtain⟨c,rfl⟩:=zE e;refine⟨Y,G,j,l,r,A,λx H1 F m I=>⟨l,F,w,i,m.wA,B,λy J n f M=>?_⟩⟩
 cases q1:j.get i with
 |none=>rw[q1] at c;cases c
 |some d =>
  rw[q1] at c;simp only[tF] at c
  cases q2:SO d w.d with
  |none=>rw[q2] at c;cases c
  |some N =>
   rw[q2] at c;cases c;exact⟨n,d,w.d,N,f.wA.sub,(I.wait f.ext λa z=>.inl (f.own a z)).read f.wA q1,M.tN,q2,λz O=>k z J n (m.trans f) O⟩
def tO(K:jA)(P:XA)(C:Calls)(c:E):TO:=λZ H Q=>∃(Y:Env) (G:Hp) (o:Option D) (a:Env),BA K Y Z H G/\aAR c (ev P C cA c Y) Y=some (.ok o,a)/\∃i,oK o=aA i/\∀b d,FA K Y Z H G a b d->Q i b
def U_:PO X eA (tO K P C .GD):=λdA s Z H Q I a=>by
 obtain⟨Y,G,o,b,r,e,i,c,k⟩:=a;cases (show aA (Out.ok (eA:Option D),Y)=some (.ok o,b) from e);cases c;exact T_ dA s Z H Q I (k H G (FA.refl r))
def W_(h:GA X K P C e c):PO X (aA e) (tO K P C (KY c)):=λdA s Z H Q I n=>by
 obtain⟨Y,G,o,M,r,g,i,j,k⟩:=n
 have key:∀a,KY c=a->j7 a=cA->(∀Y,ev P C cA a Y=ev P C cA c Y\/ev P C cA a Y=eA)->JA (model X.prog X.w) X.A (evalPart (aA e) X.env) (λu p=>∃o m,kA X dA Z m p/\GI u o/\Q o m) X.xe s:=λa t l b=>by
  rw[t] at g;simp only[aAR,l,KI,if_false] at g;obtain⟨w,N,f,y⟩:=fB g;cases y;rcases b Y with b | b
  ·rw[b] at f;refine V_ h.v dA s Z H Q I ⟨Y,G,w,_,r,f,λx z B F J=>?_⟩;cases q:w.d<;>rw[q] at j<;>simp only[oK,reduceCtorEq,cC] at j;subst j
   have:=J.tN
   rw[q] at this;exact⟨_,this.int,k z B F⟩
  ·rw[b] at f;cases f
 cases c with
 |GD=>exact key .AA rfl rfl λY=>.inr (rfl)
 |_=>exact key _ rfl rfl λY=>.inl rfl
def Sy(g:OA X K P C U){lo i:Option zA}{j cl m:E}(w:GA X K P C a j)(hl:PO X lo (tO K P C cl))(hh:PO X i (tO K P C m)):GA X K P C (.Subscript a (.Slice lo i eA p2) pos) (.sl j cl m):=by
 refine jD g (TE.wC (y_ (zDa g.yC) w.h hl hh) λZ H Q q=>?_);obtain⟨Y,G,v,n,r,e,k⟩:=q;obtain⟨o,p,y,e⟩:=fB e;obtain⟨l,s,A,e⟩:=fB e;obtain⟨h,Y3,B,e⟩:=fB e;obtain⟨b,rfl⟩:=zE e
 cases q1:o.get n with
 |none=>rw[q1] at b;cases b
 |some d =>
  cases q2:oK l with
  |none=>rw[q1,q2] at b;cases b
  |some F =>
   cases q3:oK h with
   |none=>rw[q1,q2,q3] at b;cases b
   |some I =>
    rw[q1,q2,q3] at b;simp only[tF] at b;refine⟨Y,G,o,p,r,y,λx H1 J t M=>⟨p,J,l,s,t.wA,A,F,q2,λH2 N u=>⟨s,N,h,n,u.wA,B,I,q3,λH3 O f=>?_⟩⟩⟩;have c:=u.trans f;refine⟨O,d,v,f.wA.sub,(M.wait c.ext λa z=>.inl (c.own a z)).read f.wA q1,b,λz R hm=>?_⟩;obtain⟨G4,a4,v4⟩:=(t.trans c).made hm;exact k z R G4 a4 v4
def wH(h:a.all aAe=bA)(env:JJ)(pos:vC):(IE pos (eC a env)).any (·.1)=cA/\(IE pos (eC a env)).all (λx=>!x.1)=bA:=by
 induction a with
 |nil=>exact⟨rfl,rfl⟩
 |cons e a b =>
  rw[IB,IA] at h;rw[zC h.1];obtain⟨c,d⟩:=b h.2
  unfold IE at *
  refine⟨?_, ?_⟩
  ·rw[HC,oM,c];rfl
  ·rw[HC,IB,d];rfl
def ly(b:OA X K P C U)(m:U.glob f=.fn g)(c:(e::h).all aAe=bA)(n:PA X (e::h) (mG K P C o)):GA X K P C (.Call (.Name f p) (e::h) [] pos) (.call g o):=by
 obtain⟨s,t,u,h4⟩:=CC.aF b m (λz=>nomatch z);obtain⟨fa,fd,ps,k0,F,w,y,A,B⟩:=(b.fn f g t).ex;rw[IB,IA] at c;refine jD b (TE.wC (n_ F w s y A B .nil fP n u (zC c.1 _ _) (wH c.2 _ _).1) λZ H Q q=>?_);obtain⟨Y,G,v,Y',r,e,k⟩:=q;obtain⟨I,J,M,e⟩:=fB e;refine⟨Y,G,I,J,r,M,λxs H1 G1 N O=>?_⟩;obtain⟨as,R,d,i,d2,d3,_,d4⟩:=FV N O e;rw[OF];refine⟨?_,as,R,v,d,i,d2,d3,λx j l a hv=>?_⟩
 ·have:=i.len
  rw[pA] at this
  lia
 ·obtain⟨a5,v5⟩:=d4 x j l a hv;exact k x j l a5 v5
def Bj{f:fA}{b:BI}(h:nV f=aA b):AI f=aA (oV b):=by
 unfold nV at h
 repeat (split at h;· (rename_i a;cases h;subst a;first | exact lg | decide +kernel | rfl))
 cases h
def Cj(h:mV f=aA b):AI f=aA (oV b):=Bj h
def PY(a:OA X K P C U)(x:U.glob f=.blt)(y:mV f=aA b)(c:(e::h).all aAe=bA)(j:PA X (e::h) (mG K P C l)):GA X K P C (.Call (.Name f p) (e::h) [] pos) (.bif b l):=by
 obtain⟨m,A,n,o⟩:=CC.aF a x (λz=>nomatch z);have d:=a.blt f A;have s:=Cj y;rw[IB,IA] at c
 have B:PE X (.Call (.Name f p) (e::h) [] pos) (MZ (Ha K b) (mG K P C l)):=by
  have t:=Kj a.yC a.calm a.hh a.rm b
  cases b<;>first
   |exact VY t m d s j o n (zC c.1 _ _) (wH c.2 _ _).1
   |exact O9 t m d s j o n (zC c.1 _ _) (wH c.2 _ _).1
 refine jD a (TE.wC B λZ H Q q=>?_);obtain⟨Y,G,v,u,r,e,k⟩:=q;obtain⟨w,Y1,F,e⟩:=fB e;obtain⟨g,rfl⟩:=zE e;refine⟨Y,G,w,u,r,F,λxs H1 I i J=>?_⟩
 cases q1:getAll w u with
 |none=>rw[q1] at g;cases g
 |some M =>
  rw[q1] at g;refine⟨I,M,v,i.wA.sub,J.getAll i.wA q1,g,λz N d=>?_⟩;obtain⟨O,R,v2⟩:=i.made d;exact k z N O R v2
end
end CI
namespace CI
set_option tactic.hygienic true
open PySem PySem.Spec PyProof.Rows L2
section
variable{K:jA}
def TX(h:lH Y i=bA):∃a p l,Y[i]?=aA (.ow (.l a) p l):=by
 unfold lH at h;split at h
 ·rename_i d p l e;exact⟨d,p,l,e⟩
 ·cases h
def BA.ve(r:BA K Y Z H G)(h:Y[i]?=aA (.ow d p l))(hx:Z[i]?=aA (aA (.ref a)))(C:vF K (EA H a ob) G a d') :
  FA K Y Z H G (Y.set i (.ow d' p l)) (EA H a ob) G:=by
 obtain⟨b,h1,g,o⟩:=r.ow i d p l h;rw[hx] at h1;cases h1;have P:H a≠eA:=(r.owned ⟨i,d,p,l,h,hx⟩).1
 have F:BA K (Y.set i .un) Z (EA H a ob) G:=by
  have ru:=r.unset i;have I:=r.CN h hx;refine⟨ru.len,λb u e=>?_,ru.sh,λj d' m x y=>?_,ru.inj⟩
  ·have:b≠a:=λz=>by subst z;rw[g] at e;cases e
   rw[jB this];exact ru.sub b u e
  ·obtain⟨b,B,J,M⟩:=ru.ow j d' m x y;have k:b≠a:=λz=>by subst z;exact I ⟨j,d',m,x,y,B⟩
   exact⟨b,B,J,M.mono (Sm.refl _) λ_ z=>by rw[jB k];exact z⟩
 refine⟨F.UL hx g C (r.CN h hx),⟨Sm.refl _,λb u e nb=>?_,λb e=>?_,λb e O _=>O⟩,CD.set (by rw[h];exact⟨rfl,rfl⟩)⟩
 ·have:b≠a:=λz=>by subst z;exact nb ⟨i,d,p,l,h,hx⟩
  rw[jB this];exact e
 ·by_cases k:b=a
  ·subst k;rw[GC] at e;cases e
  ·rwa[jB k] at e
def BA.write(r:BA K Y Z H G)(h:Y[i]?=aA (.ow d p l))(hx:Z[i]?=aA (aA (.ref a)))(j:uA K G ds vs) :
  FA K Y Z H G (Y.set i (.ow (.l ds) p l)) (EA H a (.l vs)) G:=r.ve h hx ⟨vs,GC,j⟩
def iy(o:OA X K P C U)(z:U.slot x=aA i)(hl:(MA.endLine==c.line)=bA)(g:aAe a=bA)(A:GA X K P C a s) :
  GA X K P C (.Call (.Attribute (.Name x p) ("append":fA) MA) [a] [] c) (.app i s):=by
 have B:PE X (.Name x p) (zH i):=CC.uJ o z;have h:PA X [a] (wI (tE K P C s) xI):=mH A.v tI (zC g _ _);have d:[a].all aAe=bA:=by rw[IB,g];rfl
 refine jD o (TE.wC (gP N0 Xe PySem.F.type_list_append k9 B h rfl (by
   rw[IA,IA];exact⟨⟨(wH d _ _).2,rfl⟩,rfl⟩) hl (zC g _ _) rfl) λZ H Q q=>?_)
 obtain⟨Y,G,v,Y',r,e,k⟩:=q;replace e:(if lH Y i then _ else eA)=_:=e;split at e
 ·rename_i I;obtain⟨d0,J,M,N⟩:=TX I;obtain⟨b,j,g0,O⟩:=r.ow i _ J M N;obtain⟨w,R,e1,e⟩:=fB e;refine⟨.ref b,j,.inl ⟨rfl, ?_⟩,Y,G,w,R,r,e1,λy H1 G1 a1 ry=>?_⟩
  ·obtain⟨l,m,_⟩:=O;exact⟨l,qB.of m⟩
  ·split at e
   ·rename_i ds p1 t;split at e
    ·rename_i hz;cases e;obtain⟨G2,n,r2⟩:=a1.share ry;obtain⟨b',f,g1,l,m,u⟩:=n.wA.ow i _ _ _ t;rw[j] at f;cases f
     have:=u.len
     refine⟨b,l,y,rfl,rfl,m, ?_, ?_⟩
     ·have:=pK hz
      lia
     ·have a3:=n.wA.write t j (u.app (uA.cons r2 uA.nil));exact k _ _ _ (n.trans a3) (by show qA K G2 .nA _;simp[qA])
    ·cases e
   ·cases e
 ·cases e
def uy(t:OA X K P C U)(I:U.slot x=aA i)(hl:(MA.endLine==d.line)=bA)(j:aAe a=bA)(J:GA X K P C a u) :
  GA X K P C (.Call (.Attribute (.Name x p) ("extend":fA) MA) [a] [] d) (.ext i u):=by
 have M:PE X (.Name x p) (zH i):=CC.uJ t I;have l:PA X [a] (wI (tE K P C u) xI):=mH J.v tI (zC j _ _);have f:[a].all aAe=bA:=by rw[IB,j];rfl
 refine jD t (TE.wC (gP N0 Ze PySem.F.type_list_extend Uw M l rfl (by
   rw[IA,IA];exact⟨⟨(wH f _ _).2,rfl⟩,rfl⟩) hl (zC j _ _) rfl) λZ H Q q=>?_)
 obtain⟨Y,G,v,Y',r,e,k⟩:=q;replace e:(if lH Y i then _ else eA)=_:=e;split at e
 ·rename_i N;obtain⟨d0,O,R,h0⟩:=TX N;obtain⟨b,m,g0,o0⟩:=r.ow i _ O R h0;obtain⟨w,Y1,e1,e⟩:=fB e;refine⟨.ref b,m,.inl ⟨rfl, ?_⟩,Y,G,w,Y1,r,e1,λy H1 G1 n ry=>?_⟩
  ·obtain⟨o,s,_⟩:=o0;exact⟨o,qB.of s⟩
  ·split at e
   ·rename_i ds p1 es z;split at e
    ·rename_i hz;cases e;obtain⟨c,rfl,gc,⟨zs,hc,g⟩,A,new⟩:=ry;obtain⟨b',h,g1,o,s,B⟩:=n.wA.ow i _ _ _ z;rw[m] at h;cases h;have l1:=B.len;have l2:=g.len;refine⟨b,c,o,zs,rfl,rfl,s,hc, ?_, ?_⟩
     ·have:=pK hz
      lia
     ·exact k _ _ _ (n.trans (n.wA.write z m (B.app g))) (by show qA K G1 .nA _;simp[qA])
    ·cases e
   ·cases e
 ·cases e
def Qy(f:OA X K P C U){x:fA}{i:Nat}{p MA a:vC}(j:U.slot x=aA i)(hl:(MA.endLine==a.line)=bA) :
  GA X K P C (.Call (.Attribute (.Name x p) ("pop":fA) MA) [] [] a) (.kP i):=by
 refine jD f (TE.wC (N9 N0 Af PySem.F.type_list_pop Ww (CC.uJ f j) rfl hl) λZ H Q q=>?_);obtain⟨Y,G,v,n,r,e,k⟩:=q;replace e:lP i Y Y[i]?=_:=e
 cases q0:Y[i]? with
 |none=>rw[q0] at e;cases e
 |some sl =>
  rw[q0] at e;unfold lP at e;split at e
  ·rename_i ds o z;cases z
   cases q:ds[ds.length-1]? with
   |none=>rw[q] at e;cases e
   |some d =>
    rw[q] at e;cases e;obtain⟨b,g,s,vs,h,c⟩:=r.ow i _ _ _ q0;obtain⟨x,l,m⟩:=c.get q;refine⟨.ref b,g,.inl ⟨rfl,vs,qB.of h⟩,b,vs,x,rfl,rfl,h,by rw[c.len];exact l, ?_⟩;exact k _ _ _ (r.write q0 g (ds:=ds.dropLast) (vs:=vs.dropLast) (by rw[df,df,c.len];exact c.take _)) m
  ·cases e
def b0:EA (EA H p a) p b=EA H p b:=by
 funext q
 by_cases h:q=p
 ·subst h;rw[GC,GC]
 ·rw[jB h,jB h,jB h]
def BA.jP(r:BA K Y Z H G)(g:G a=eA)(n:¬xA Y Z a):BA K Y Z (EA H a o) G:=by
 refine⟨r.len,λb u e=>?_,r.sh,λj k m x y=>?_,r.inj⟩
 ·have:b≠a:=λz=>by subst z;rw[g] at e;cases e
  rw[jB this];exact r.sub b u e
 ·obtain⟨b,B,C,F⟩:=r.ow j k m x y;have I:b≠a:=λz=>by subst z;exact n ⟨j,k,m,x,y,B⟩
  exact⟨b,B,C,F.mono (Sm.refl _) λ_ z=>by rw[jB I];exact z⟩
theorem FA.jP(b:FA K Y Z H G j x k)(h:H a=eA)(g:k a=eA)(n:¬xA j Z a):FA K Y Z H G j (EA x a o) k:=by
 refine⟨b.wA.jP g n,⟨b.ext.gg,λc u e y=>?_,λc e=>?_,b.ext.gn⟩,b.iH⟩
 ·have:c≠a:=λz=>by subst z;rw[h] at e;cases e
  rw[jB this];exact b.ext.hh c u e y
 ·by_cases m:c=a
  ·subst m;rw[GC] at e;cases e
  ·rw[jB m] at e;exact b.ext.hx c e
def gHa(d:NB q X K P C U)(h:YZ U t=aA ty):PE X t (tC (kT ty))/\aAe t=bA:=by
 obtain⟨x,a,g⟩:=MJ.mp h;clear h;obtain⟨pos,rfl⟩:=nS a;have h:XZ U x=aA ty:=g;clear g;unfold XZ at h;split at h
 ·rename_i e;obtain⟨b,f,i,j⟩:=CC.aF d e (λz=>nomatch z);have c:=d.blt x f;refine⟨?_,rfl⟩;split at h
  ·rename_i a;cases h;subst a;exact rN b c (u:=.type "int") (by decide +kernel) rfl
  ·split at h
   ·rename_i a;cases h;subst a;exact rN b c (u:=.type "bool") (by decide +kernel) rfl
   ·split at h
    ·rename_i a;cases h;subst a;exact rN b c (u:=.type "str") (by decide +kernel) rfl
    ·split at h
     ·rename_i a;cases h;subst a;exact rN b c (u:=.type "list") (by decide +kernel) rfl
     ·split at h
      ·rename_i a;cases h;subst a;exact rN b c (u:=.type "tuple") (by decide +kernel) rfl
      ·split at h
       ·rename_i a;cases h;subst a;exact rN b c (u:=.type "ValueError") (by decide +kernel) rfl
       ·cases h
 ·cases h
def By(f:NB q X K P C U)(w:U.glob ("isinstance":fA)=.blt)(y:YZ U t=aA ty)(m:aAe a=bA)(A:GA X K P C a n) :
  GA X K P C (.Call (.Name ("isinstance":fA) p) [a,t] [] pos) (.cF n [ty]):=by
 obtain⟨B,F,I,J⟩:=CC.aF f w (λz=>nomatch z);have M:=f.blt _ F;obtain⟨pt,o⟩:=gHa f y;have i:PA X [a,t] (wI (tH K P C n) (wI (tC (kT ty)) xI)):=mH A.h (mH pt tI (zC o _ _)) (zC m _ _);have g:[t].all aAe=bA:=by rw[IB,o];rfl
 have N:=VY (p:=p) (pos:=pos) (Zs f.yC ty) B M (by decide +kernel) i J I (zC m _ _) (wH g _ _).1;refine jD f (TE.wC N λZ H Q q=>?_);obtain⟨Y,G,v,s,r,e,k⟩:=q;obtain⟨u,Y1,O,e⟩:=fB e;obtain⟨c,rfl⟩:=zE e;refine⟨Y,G,u,s,r,O,λx R j l rx=>?_⟩
 cases q1:u.get s with
 |none=>rw[q1] at c;cases c
 |some d =>
  rw[q1] at c;simp only[tF,QO] at c
  cases q2:WX ty d with
  |none=>rw[q2] at c;cases c
  |some b =>
   rw[q2] at c;simp only[tF,JD,qE,cC] at c;subst c;exact⟨j,d,x,b,l.wA.sub,rfl,rx.read l.wA q1,q2,k _ R j l (by show qA K j (.bl _) _;simp[qA])⟩
def ka(h:∀lo a p,b≠.Slice lo a eA p):iO b:=λo i=>by
 induction b using qD with
 |Slice lo a st p =>
  induction st using cH with
  |none=>exact absurd rfl (h lo a p)
  |some s=>rfl
 |_=>rfl
end
end CI
namespace CI
set_option tactic.hygienic true
open PySem PySem.Spec PyProof.Rows L2
section
variable{K:jA}
def ky(c:OA X K P C U)(hl:(MA.endLine==b.line)=bA):GA X K P C (.Call (.Attribute (.Name x p) "bit_length" MA) [] [] b) (.VJ (kL U x)):=by
 have l:=QY c x p;refine jD c (TE.wC (N9 PySem.F.plainAttrs_int slot_int_bit_length type_int_bit_length Tw l.h rfl hl) λZ H Q q=>?_);obtain⟨Y,G,v,f,r,e,k⟩:=q;obtain⟨g,s,m,e⟩:=fB e;obtain⟨a,rfl⟩:=zE e;refine⟨Y,G,g,f,r,m,λx n i j o=>?_⟩
 cases q1:g.get f with
 |none=>rw[q1] at a;cases a
 |some d =>
  rw[q1] at a;simp only[tF] at a;cases d<;>simp only[rV,reduceCtorEq] at a;cases a;cases (o.read j.wA q1).int;exact⟨rfl,_,rfl,rfl,k _ n i j (by show qA K i (.int _) _;simp[qA])⟩
def My:GA X K P C e (.mK c):=l4 (λt Y=>rfl) λi z=>nomatch z
def Py(f:OA X K P C U)(w:U.glob "len"=.blt)(y:U.glob "set"=.blt)(n:aAe e=bA)(A:GA X K P C e c) :
  GA X K P C (.Call (.Name "len" p) [.Call (.Name "set" p2) [e] [] g] [] pos) (.NL c):=by
 obtain⟨i,B,F,I⟩:=CC.aF f w (λz=>nomatch z);obtain⟨J,M,N,O⟩:=CC.aF f y (λz=>nomatch z);have R:PA X [e] (wI (tH K P C c) xI):=mH A.h tI (zC n _ _);have j:=O9 (zl f.calm) J (f.blt _ M) (by decide +kernel:AI "set"=aA (.type "set")) R (pos:=g) (p:=p2) O N (zC n _ _) rfl;have l:=VY rl i (f.blt _ B) lg (mH j tI rfl) (pos:=pos) (p:=p) I F rfl rfl;refine jD f (TE.wC l λZ H Q q=>?_);obtain⟨Y,G,v,o,r,e,k⟩:=q;obtain⟨s,Y1,e1,e⟩:=fB e;obtain⟨a,rfl⟩:=zE e;refine⟨Y,G,s,o,r,e1,λx H1 m i rx=>?_⟩
 cases q1:s.get o with
 |none=>rw[q1] at a;cases a
 |some d =>
  rw[q1] at a;simp only[tF] at a;cases d<;>simp only[aP,reduceCtorEq] at a;rename_i t
  cases q2:bF t with
  |none=>rw[q2] at a;cases a
  |some is =>
   rw[q2] at a;simp only at a;split at a
   ·rename_i hz;cases a;obtain⟨b,vs,rfl,h3,h4⟩:=(rx.read i.wA q1).l i.wA.sub;have u:=f.yC;refine⟨b,vs,t,is,m,rfl,by rw[u];exact h3,by rw[u];exact h4,q2,hz,λp S hn=>?_⟩;refine⟨p,S,_,rfl,GC, ?_⟩;exact k _ _ m (i.mI hn) (by show qA K m (.int _) _;simp[qA])
   ·cases a
theorem Z8:∀{a:List fA} {b:List D} {c:List V} {d:D},uA K G b c->(a.zip b).lookup f=aA d->f∈a/\∃v,(a.zip c).lookup f=aA v/\qA K G d v
 |[],_,_,_,_,h=>by simp at h
 |n::a,[],_,_,_,h=>by simp at h
 |n::a,m::b,c,d,r,h=>by
  simp only[uA] at r;obtain⟨v,o,rfl,e,g⟩:=r;rw[gM,pE] at h ⊢
  cases q:(f==n) with
  |true =>
   rw[q] at h;cases h;exact⟨by rw[dC q];simp,v,rfl,e⟩
  |false =>
   rw[q] at h;obtain⟨i,j,k,l⟩:=Z8 g h;exact⟨XC _ i,j,k,l⟩
def vy(g:OA X K P C U):GA X K P C (.Attribute (.Name x p) f pos) (.fld (kL U x) f):=by
 have s:=QY g x p;refine jD g (TE.wC (q_ s.h rfl) λZ H Q q=>?_);obtain⟨Y,G,v,j,r,e,k⟩:=q;obtain⟨l,N,t,e⟩:=fB e;obtain⟨b,rfl⟩:=zE e;refine⟨Y,G,l,j,r,t,λx u w i y=>?_⟩
 cases q1:l.get j with
 |none=>rw[q1] at b;cases b
 |some d =>
  rw[q1] at b;simp only[tF] at b;have m:=g.yC;cases d<;>simp only[nW,reduceCtorEq,Option.map_none] at b
  case ins c ns ds =>
   cases q2:(ns.zip ds).lookup f with
   |none=>rw[q2] at b;cases b
   |some O =>
    rw[q2] at b;cases b;obtain⟨a,z,A,R,rfl,h1,B,F,n,h5⟩:=(y.read i.wA q1).ins i.wA.sub;obtain⟨I,o,J,M⟩:=Z8 F q2;exact⟨a,z,A,_,o,rfl,B,by rw[m];exact n.cl,by rw[m];exact n.no f I,J,k o u w i M⟩
def w6(d:OA X K P C U)(g:bO X.w.params X.mg K x e f):∃a b,X.mg x=aA (.ref a)/\(a==sysModules)=cA/\(∀k:fA,dO (findBy HK b k) ((e.zip f).lookup k))/\∀{dA:List (lA×AB)} {Z:St} {H:Hp} {s:HA},kA X dA Z H s->s.TypeIs (.ref a) "dict"/\Heap.MapOf (strKind X.prog X.w) s.heap a λk=>findBy HK b k:=by
 obtain⟨a,b,n,h,i,c,j,_,l⟩:=g.ex;refine⟨a,b,h,i,l,λI=>?_⟩;rw[<- d.yC] at c;exact⟨⟨_,I.wD a _ c,rfl⟩,PySem.W.mapOf_K I.wD c j⟩
theorem we:∀{a:List fA} {b:List Int},a.length=b.length->((a.zip b).lookup x).isSome=a.contains x
 |[],_,_=>rfl
 |_::_,[],h=>nomatch h
 |k::a,v::b,h=>by
  rw[gM,pE,Bf]
  cases (x==k) with
  |true=>rfl
  |false=>exact we (Q2 h)
def rq(h:dO o p):o.isSome=p.isSome:=by
 cases o<;>cases p<;>first | rfl | exact h.elim
def yy(B:OA X K P C U)(hf:U.glob g=.iI j vs)(J:GA X K P C a n):GA X K P C (.Compare a [.NotIn] [.Name g p] pos) (.gK j n):=by
 obtain⟨h1,h2,h3,h4⟩:=CC.aF B hf (λz=>nomatch z);have M:=B.iE.2 g j vs h2;obtain⟨_,_,_,_,_,_,_,o,_⟩:=M.ex;obtain⟨w,es,m1,m2,m3,m4⟩:=w6 B M
 have N:RB X (KD .NotIn) (λx y H Q=>∃k,x=.str k/\y=.ref w/\Q (.bl (!j.contains k)) H):=by
  intro dA s Z H x y v u Q I F ry h;obtain⟨k,rfl,rfl,q⟩:=h;obtain⟨t,rfl⟩:=(show ∃t,v=Value.str k t from F)
  cases ry;refine wpAny_notIn_of (show HK k (.str k t)=bA from YC k) m2 (m4 I).2 ⟨.bl _,H,I.tok _,rfl, ?_⟩;rw[rq (m3 k),we o];exact q
 have core:∀Z H (Q:VK),(∃(Y:Env) (G:Hp) (b:Bool) (c:Env),BA K Y Z H G/\ev P C cA (.gK j n) Y=some (.ok (.sh (.bl b)),c)/\∀l m,FA K Y Z H G c l m->Q (.bl b) l) ->
   BN (λx y H Q=>∃k,x=.str k/\y=.ref w/\Q (.bl (!j.contains k)) H) (tH K P C n) (tC (.ref w)) Z H Q:=λZ H Q q=>by
  obtain⟨Y,G,b,c,r,e,k⟩:=q;obtain⟨A,Y1,O,e⟩:=fB e;obtain⟨f,rfl⟩:=zE e;refine⟨Y,G,A,c,r,O,λx H1 G1 R F=>?_⟩
  cases q1:A.get c with
  |none=>rw[q1] at f;cases f
  |some d =>
   rw[q1] at f;cases d<;>simp only[tF,GR,reduceCtorEq] at f;cases f;exact⟨_,(F.read R.wA q1).str.1,rfl,k H1 G1 R⟩
 have bl:∀{Y c:Env} {v:RV},ev P C cA (.gK j n) Y=some (.ok v,c)->∃b,v=.sh (.bl b):=λ{Y c v} e=>by
  obtain⟨A,Y1,O,e⟩:=fB e;obtain⟨f,rfl⟩:=zE e
  cases q1:A.get c with
  |none=>rw[q1] at f;cases f
  |some d =>
   rw[q1] at f;cases d<;>simp only[tF,GR,reduceCtorEq] at f;cases f;exact⟨_,rfl⟩
 have hm:GJ .NotIn (.Name g p)=cA:=rfl;have hb:PE X (.Name g p) (tC (.ref w)):=WY h1 m1 rfl h3
 have v:PE X (.Compare a [.NotIn] [.Name g p] pos) (tE K P C (.gK j n)):=by
  refine TE.wC (P9 N J.h hb hm) λZ H Q q=>core Z H Q ?_
  obtain⟨Y,G,v,c,r,e,k⟩:=q;obtain⟨b,rfl⟩:=bl e;exact⟨Y,G,_,c,r,e,λl m a=>k _ l m a (by show qA K m (.bl _) _;simp[qA])⟩
 refine⟨v, ?_,vK v λi z=>nomatch z⟩;refine TT.DL (wa N J.h hb hm) λZ H Q q=>core Z H _ ?_
 obtain⟨Y,G,b',c,r,e,k⟩:=q;obtain⟨u,b2,e2,f,e4⟩:=B0 e;obtain⟨b,rfl⟩:=bl e2;cases f;cases e4;exact⟨Y,G,_,c,r,e2,λl m a=>⟨_,rfl,k l m a⟩⟩
def wy(c:OA X K P C U)(R:U.glob g=.iI j l)(hi:GA X K P C i ci)(m:iO i):GA X K P C (.Subscript (.Name g p) i pos) (.AL j l ci):=by
 obtain⟨h1,h2,h3,h4⟩:=CC.aF c R (λz=>nomatch z);obtain⟨f,es,m1,m2,m3,m4⟩:=w6 c (c.iE.2 g j l h2)
 have ho:uE X (λx y H Q=>∃k n,x=.ref f/\y=.str k/\(j.zip l).lookup k=aA n/\Q (.int n) H):=by
  intro value slice dA s Z H x y v u Q I o ry h m;obtain⟨k,n,rfl,rfl,hl,q⟩:=h;cases o;obtain⟨t,rfl⟩:=(show ∃t,u=Value.str k t from ry)
  obtain⟨B,hM⟩:=m4 I;have a:=m3 k;rw[hl] at a
  cases qv:findBy HK es k with
  |none=>rw[qv] at a;exact a.elim
  |some w =>
   rw[qv] at a;obtain⟨t',rfl⟩:=a;unfold subscriptTail;refine WA ?_;rw[getitemInPython_of_ne B.not_modules];refine WA (wpAny_specialOf B PySem.F.slot_dict_getitem.lookup ?_)
   have fin:JA (model X.prog X.w) X.A (subscripted slice cA (.ref f) (.str k t)) (λr s₃=>JA (model X.prog X.w) X.A (letTemporaryGo value (.ref f) r>>=λ_=>pure r) (EP X dA Z Q) X.xe s₃) X.xe s:=by(rw[m];exact wpAny_operating (wpAny_getItem_of (show HK k (.str k t)=bA from YC k) hM qv (WA (wpAny_letTemporaryGo (YB ⟨.int n,H,I.tok _,⟨_,rfl⟩,q⟩)))))
   first
    |exact YB (WA fin)
    |exact WA (YB (WA fin))
    |exact WA fin
 refine jD c (TE.wC (R9 ho (WY (v:=.ref f) h1 m1 rfl h3) hi.h m) λZ H Q q=>?_);obtain⟨Y,G,v,J,r,e,k⟩:=q;obtain⟨M,Y1,e1,e⟩:=fB e;obtain⟨b,rfl⟩:=zE e;refine⟨Y,G,M,J,r,e1,λx H1 N O o=>?_⟩
 cases q1:M.get J with
 |none=>rw[q1] at b;cases b
 |some d =>
  rw[q1] at b;cases d<;>simp only[tF,AX,reduceCtorEq] at b;obtain⟨n,hn,rfl⟩:=NJ.mp b;exact⟨_,n,rfl,(o.read O.wA q1).str.1,hn,k _ H1 N O (by show qA K N (.int n) _;simp[qA])⟩
def Jy(b:OA X K P C U)(u:U.glob f=.cls a)(st:(e::l).all aAe=bA)(w:PA X (e::l) (uK K P C y)):GA X K P C (.Call (.Name f p) (e::l) [] pos) (.make f a y):=by
 obtain⟨A,B,I,h4⟩:=CC.aF b u (λz=>nomatch z);obtain⟨g,fa,fd,ps,J,N,M,m,F,O⟩:=(b.cls f a B).ex;rw[IB,IA] at st;refine jD b (TE.wC (S9 M F b.rm A N O .nil fP w I (zC st.1 _ _) (wH st.2 _ _).1) λZ H Q q=>?_);obtain⟨Y,G,v,Y',r,e,k⟩:=q;obtain⟨h,Y1,R,e⟩:=fB e;split at e
 ·rename_i hl;cases e;refine⟨Y,G,h,_,r,R,λc H1 G1 n s x d nx i ne=>?_⟩;have t:c.length=a.length:=s.len.trans hl;rw[OF];refine⟨x,g,d,c,rfl,t,GC,m,rfl, ?_⟩;rw[b0];have j:(EA H1 d (.own x)) x=eA:=by rw[jB (qF ne)];exact nx
  have a2:=(n.mI (o:=.own x) i).HL (o:=.ins g d (a.zip c)) j;refine k (.ref x) _ _ a2 ?_;show qA K _ (.ins f a h) _;simp only[qA];exact⟨x,g,d,c,rfl,J,GC,uA.mono (Sm.laid (VA.free n.wA.sub nx)) h s,m,t.symm⟩
 ·cases e
theorem Qa(sm:VA G H):∀{b:List D} {a:List V},uA K G b a->BA K (b.map .sh) (a.map aA) H G
 |[],a,h=>by
  simp only[uA] at h;subst h;exact BA.nil sm
 |d::b,a,h=>by(simp only[uA] at h;obtain⟨v,r,rfl,c,e⟩:=h;exact(Qa sm e).MM c)
def yb{c:List D}(h:xA (c.map .sh) τ a):False:=by
 obtain⟨i,d,p,l,b,_⟩:=h;rw[dD] at b
 cases q:c[i]? with
 |none=>rw[q] at b;cases b
 |some e=>rw[q] at b;cases b
def Gw(g:FA K Y Z H G n b i)(j:uA K i k l)(m:lC K uB f=aA (aA (.ref c)))(cl:bE K c)(nx:b x=eA)(d:b a=eA)(ne:a≠x) :
  BA K (.ow (.ins f [] []) bA cA::k.map .sh) ((V.ref x::l).map aA) (EA (EA b a (.own x)) x (.ins c a [])) i:=by
 have e:(EA b a (.own x)) x=eA:=by rw[jB (qF ne)];exact nx
 exact(Qa (g.wA.sub.trans ((VA.laid d).trans (VA.laid e))) j).EV (VA.free g.wA.sub nx) ⟨c,a,[],m,GC,rfl,⟨cl,λf h=>nomatch h⟩,rfl⟩ yb
def Fw{k:List D}(e:FA K Y Z H G r g s)(nx:g x=eA)(h:g a=eA)(ne:a≠x)
  (b:FA K (.ow (.ins f [] []) bA cA::k.map .sh) ((V.ref x::m).map aA) (EA (EA g a (.own x)) x (.ins t a [])) s u v y):FA K Y Z H G r v y:=by
 have j:(EA g a (.own x)) x=eA:=by rw[jB (qF ne)];exact nx
 have n:=(e.mI (o:=.own x) h).mI (o:=.ins t a []) j
 have own:∀c,xA (.ow (.ins f [] []) bA cA::k.map .sh) ((V.ref x::m).map aA) c->c=x:=λc A=>by
  obtain⟨i,d,p,l,B,q⟩:=A
  cases i with
  |zero=>cases q;rfl
  |succ i=>exact(yb (τ:=m.map aA) ⟨i,d,p,l,B,q⟩).elim
 exact⟨n.wA.keep b.ext (λc z w=>e.wA.uS nx (own c w ▸ z)) b.wA.sub,n.ext.trans (λc z=>.inr (own c z ▸ e.fresh nx)) b.ext,e.iH⟩
def Ly(h:OA X K P C U)(l:U.glob f=.obj g)(st:(e::i).all aAe=bA)(m:PA X (e::i) (uK K P C n)):GA X K P C (.Call (.Name f p) (e::i) [] pos) (.nI f g n):=by
 obtain⟨o,s,t,h4⟩:=CC.aF h l (λz=>nomatch z);obtain⟨Ca,fa,fd,ps,k0,u,w,M,cl,F,_,A,B⟩:=(h.obj f g s).ex;rw[IB,IA] at st;refine jD h (TE.wC (S9 M F A o w B .nil fP m t (zC st.1 _ _) (wH st.2 _ _).1) λZ H Q q=>?_);obtain⟨Y,G,v,Y',r,e,k⟩:=q;obtain⟨I,Y1,J,e⟩:=fB e;split at e
 case isFalse=>cases e
 rename_i hl;unfold nN at e;split at e
 case h_2=>cases e
 rename_i c' ns N aAw O;cases e;refine⟨Y,G,I,_,r,J,λxs H1 R d j x dx nx c ne=>?_⟩;rw[OF];refine⟨by rw[VB,j.len,hl],_,R,.sh .nA,_,Gw d j u cl nx c ne,by rw[VB,pA,hl],O,λy H' G' b hv=>⟨?_, ?_⟩⟩
 ·simpa[iC,qA] using hv
 ·obtain⟨a,z1,z2,z3⟩:=b.wA.ow 0 _ _ _ rfl;cases z1;exact k _ H' G' (Fw d nx c ne b) ⟨x,rfl,z2,z3,d.wA.uS nx,d.fresh nx⟩
theorem a9:∀{a:List fA} {b:List O},a.contains f=cA->(a.zip b).lookup f=eA
 |[],_,_=>by simp
 |n::a,[],_=>by simp
 |n::a,v::b,h=>by(rw[Bf,jf] at h;rw[gM,pE,h.1];exact a9 h.2)
def i9(st:b.all aAe=bA)(d:(MA.endLine==pos.line)=bA)(g:b.length<29)(env:JJ)(h:attributeBase o m env (eval o env)=eval o env:=by rfl):eval (.Call (.Attribute o m MA) b [] pos) env=(do
   let e <- eval o env
   standAt MA.atName
   let (f,first) <- holding [e] (getMethod e m (do return (<- importBound o env).getD bA))
   callWith pos f first (IE pos (eC b env)) (backToKw pos (keywordEach [] env))):=by
 rw[arm_eval_Call]
 have a:methodCallForm (b.length+([]:List jU).length) (IE pos (eC b env)) (backToKw pos (keywordEach [] env))=bA:=by
  unfold methodCallForm;rw[(wH st env pos).2];simp only[XG]
  have:(backToKw pos (keywordEach [] env))=[]:=rfl
  rw[this];simp
  lia
 have c:methodCallPos bA o env MA pos=pure pos:=by unfold methodCallPos;simp[d]
 unfold methodCall;rw[a];unfold calleeOf;simp only[if_true,c,h];rfl
def Cw(l:Z[i]?=aA (aA (.ref a)))(I:H a=aA (.ins J M fs))(hl:fs.lookup m=eA)(r:BA K Y Z H G)(N:kC P C O Y=some (.ok h,j))(e:MD (P f) (C f) (n::h) j=some (.ok v,u))
  (o:∀c g,FA K Y Z H G j c g->LD K c g (xA j Z) (rD H) Z n (.ref a)) (p:∀d,n≠.val (.ow d)) (k:∀x c g,FA K Y Z H G u c g->iC K c g (xA u Z) (rD H) v x->Q x c) (t:TA) (R:∀Z H Q,mG K P C O Z H Q->t Z H Q) :
  QZ J m (YL K (P f).length (C f)) [] (λ_ _ _=>False) (zH i) t Z H Q:=by
 refine⟨.ref a,l,a,M,_,rfl,I,hl,R _ _ _ ⟨Y,G,h,j,r,N,λw c g y U=>?_⟩⟩;have q:sD K c g (xA j Z) (rD H) Z (n::h) (.ref a::w):=⟨.ref a,w,rfl,o c g y,U,λd b z=>absurd z (p _)⟩
 obtain⟨as,X,s,A,d2,d3,_,d4⟩:=FV y q e;dsimp only;rw[OF];refine⟨?_,as,X,v,s,A,d2,d3,λx B F a hv=>?_⟩
 ·have:=A.len
  rw[pA] at this
  lia
 ·obtain⟨a5,v5⟩:=d4 x B F a hv;exact k x B F a5 v5
def Ky(xo:OA X K P C U)(hi:U.slot x=aA i)(hm:U.gl (dot m)=.nD y)(st:t.all aAe=bA)(B:(MA.endLine==pos.line)=bA)(J:t.length<29)(ha:PA X t (mG K P C N))(hz:t=[]->N=[]):GA X K P C (.Call (.Attribute (.Name x p) m MA) t [] pos) (.iG i m y N):=by
 have hp:=CC.uJ xo hi (pos:=p);refine jD xo (λdA s Z H Q I q=>?_);obtain⟨Y,G,v,Y',r,e,k⟩:=q
 have n:∀{c:fA} {g:List fA} {ds:List D} {h0:Hd} {a O dx:lA} {vs:List V},(match yD c g m y with | some f=>(kC P C N Y).bind λj h=>MD (P f) (C f) (h0::j) h | none=>eA)=some (.ok v,Y')->Z[i]?=aA (aA (.ref a))->H a=aA (.ins O dx (g.zip vs))->lC K uB c=aA (aA (.ref O))->UK K O g ->
   (∀h H1 G1,FA K Y Z H G h H1 G1->LD K H1 G1 (xA h Z) (rD H) Z h0 (.ref a))->(∀d,h0≠.val (.ow d))->JA (model X.prog X.w) X.A (eval (.Call (.Attribute (.Name x p) m MA) t [] pos) X.env) (EP X dA Z Q) X.xe s:=by
  intro c g ds h0 a O dx vs e b hH u R jr K6;split at e
  ·rename_i f l;unfold yD at l;split at l
   ·cases l
   ·rename_i GX;obtain⟨Cb,fa,fd,ps,k0,hn,M,F,hr,hb,hcl⟩:=(xo.nD m y c f hm l).ex;rw[hn] at u;cases u;obtain⟨hd0,h,e1,e⟩:=fB e;have hK:=xo.yC;have j5:bE X.K O:=by rw[hK];exact R.cl
    have fin:=Cw (m:=m) b hH (a9 (by simpa using GX)) r e1 e (jr h) K6 k
    induction t using EC with
    |nil =>
     cases hz rfl;refine u_ hp j5 M F hr hb .nil fP (i9 st B J _) dA s Z H Q I (fin _ λZ' H' Q' z=>?_);obtain⟨Y2,G2,hs2,Y3,r2,e2,k2⟩:=z;rw[kC] at e2;cases e2;exact k2 [] H' G2 (FA.refl r2) rfl
    |cons e0 es0 =>
     have st0:=st;rw[IB,IA] at st;exact t_ hp j5 M F hr hb .nil fP ha (zC st.1 _ _) (wH st.2 _ _).1 (i9 st0 B J _) dA s Z H Q I (fin _ λ_ _ _ z=>z)
  ·cases e
 replace e:(match Y[i]? with | some (.sh (.ins c g ds))=>(match yD c g m y with | some f=>(kC P C N Y).bind λj h=>MD (P f) (C f) (.val (.sh (.ins c g ds))::j) h | none=>eA) | some (.ow (.ins c g ds) _ _)=>(match yD c g m y with | some f=>(kC P C N Y).bind λj h=>MD (P f) (C f) (.slot i::j) h | none=>eA) | _=>eA)=some (.ok v,Y'):=e;split at e
 ·rename_i c g ds j;obtain⟨x0,b,o⟩:=r.sh i _ j;have rx1:=o;simp only[qA] at o;obtain⟨a,Cb,dx,vs,rfl,u,h2,h3,R,h5⟩:=o
  exact n (ds:=ds) e b (r.sub _ _ h2) u R (λ_ H1 G1 a1=>qA.mono a1.ext.gg _ rx1) λd z=>nomatch z
 ·rename_i c g ds _ _ j;obtain⟨a,b,_,Cb,dx,vs,u,h2,h3,R,h5⟩:=r.ow i _ _ _ j
  exact n (ds:=ds) e b h2 u R (λ_ H1 G1 a1=>b) λd z=>nomatch z
 ·cases e
end
end CI
namespace CI
set_option tactic.hygienic true
open PySem PySem.Spec PyProof.Rows L2
section
variable{X:Cx}{K:jA}{P:XA}{C:Calls}{U:CC}
def Zy(b:OA X K P C U):GA X K P C (.Call (.Attribute (.Name x p) m MA) [] [] a) (de U x m MA a):=lB
def Ay(c:OA X K P C U):GA X K P C (.Call (.Attribute (.Name x p) m MA) [a] [] b) (X6 U x m MA b a):=lB
end
section
variable{X:Cx}{K:jA}{P:XA}{C:Calls}{U:CC}
theorem jc:∀{a:List D} {b:List V} {ts:List fA},uA K G a b->xH a=aA ts->b=ts.map V.str
 |[],b,ts,h,e=>by
  simp only[uA] at h;subst h;cases e;rfl
 |d::a,b,ts,h,e=>by
  simp only[uA] at h;obtain⟨v,r,rfl,c,f⟩:=h
  cases d with
  |str x =>
   change (xH a).map (x :: ·)=_ at e
   cases q:xH a with
   |none=>rw[q] at e;cases e
   |some g =>
    rw[q] at e;cases e;obtain⟨rfl,_⟩:=GB.str (H:=G) (.inl c);rw[jc f q];rfl
  |_=>cases e
theorem Ta:∀{ts:List fA},ts.all gC=bA->uA K G (ts.map D.str) (ts.map V.str)
 |[],_=>uA.nil
 |t::ts,h=>by(rw[IB,IA] at h;exact uA.cons (by unfold qA;exact⟨rfl,h.1⟩) (Ta h.2))
def Ey(n:OA X K P C U)(hl:(MA.endLine==f.line)=bA)(i:aAe a=bA)(w:GA X K P C a o) :
  GA X K P C (.Call (.Attribute (.Constant (.str s) j p) ("join":fA) MA) [a] [] f) (.vD s o):=by
 have l:PA X [a] (wI (tH K P C o) xI):=mH w.h tI (zC i _ _);have g:[a].all aAe=bA:=by rw[IB,i];rfl
 refine jD n (TE.wC (gP Q0 PySem.F.slot_str_join PySem.F.type_str_join Vw BS l rfl (by
   rw[IA,IA];exact⟨⟨(wH g _ _).2,rfl⟩,rfl⟩) hl (zC i _ _) rfl) λZ H Q q=>?_)
 obtain⟨Y,G,v,z,r,e,k⟩:=q;obtain⟨x,O,A,e⟩:=fB e;obtain⟨c,rfl⟩:=zE e;refine⟨rfl,Y,G,x,_,r,A,λy R B m I=>?_⟩
 cases q:x.get z with
 |none=>rw[q] at c;cases c
 |some d =>
  rw[q] at c;have J:=I.read m.wA q;change dY s d=aA v at c
  cases d with
  |l t =>
   change (match xH t with | some ts=>_ | none=>eA)=_ at c
   cases qs:xH t with
   |none=>rw[qs] at c;cases c
   |some ts =>
    rw[qs] at c;simp only at c;split at c
    ·rename_i u;cases c;obtain⟨b,vs,rfl,M,N⟩:=J.l m.wA.sub
     have:=jc N qs
     subst this;exact⟨s,b,ts,rfl,rfl,by rw[n.yC];exact M,u.1,k _ _ _ m (by show qA K B (.str _) _;unfold qA;exact⟨rfl,u.2⟩)⟩
    ·cases c
  |_=>cases c
def Uy(d:OA X K P C U)(f:U.slot x=aA i)(hl:(MA.endLine==a.line)=bA) :
  GA X K P C (.Call (.Attribute (.Name x p) ("split":fA) MA) [.Constant (.str s) j q] [] a) (.UG i s):=by
 have g:PE X (.Name x p) (zH i):=CC.uJ d f;have b:PA X [.Constant (.str s) j q] (wI (tC (.str s)) xI):=mH BS tI rfl;refine jD d (TE.wC (gP Q0 JT PySem.F.type_str_split Xw g b rfl (by rfl) hl rfl rfl) λZ H Q q=>?_);obtain⟨Y,G,v,u,r,e,k⟩:=q;replace e:vI s Y Y[i]?=_:=e;unfold vI at e;split at e
 ·rename_i y h;split at e
  ·rename_i c;cases e;obtain⟨w,m,n⟩:=r.sh i _ h;obtain⟨rfl,_⟩:=GB.str (H:=H) (.inl n);refine⟨_,m,rfl,y,s,rfl,rfl,c.1,c.2.1,λl hl=>?_⟩;obtain⟨o,t⟩:=(FA.refl r).TY hl (Ta c.2.2);exact k _ _ _ o t
  ·cases e
 ·cases e
def Vy(c:OA X K P C U)(d:U.slot x=aA i)(hl:(MA.endLine==a.line)=bA) :
  GA X K P C (.Call (.Attribute (.Name x p) ("startswith":fA) MA) [.Constant (.str s) j q] [] a) (.xP i s):=by
 have f:PE X (.Name x p) (zH i):=CC.uJ c d;have b:PA X [.Constant (.str s) j q] (wI (tC (.str s)) xI):=mH BS tI rfl;refine jD c (TE.wC (gP Q0 PySem.F.slot_str_startswith PySem.F.type_str_startswith Yw f b rfl (by rfl) hl rfl rfl) λZ H Q q=>?_);obtain⟨Y,G,v,m,r,e,k⟩:=q;replace e:yP s Y Y[i]?=_:=e;unfold yP at e;split at e
 ·rename_i y g;cases e;obtain⟨w,h,l⟩:=r.sh i _ g;obtain⟨rfl,_⟩:=GB.str (H:=H) (.inl l);exact⟨_,h,rfl,y,s,rfl,rfl,k _ _ _ (FA.refl r) (by show qA K G (.bl _) _;simp[qA])⟩
 ·cases e
def gFa(h:ic e=aA s):∃j p,e=.Constant (.str s) j p:=by
 cases e with
 |Constant c j p =>
  cases c with
  |str x =>
   change (if gC x then aA x else eA)=_ at h;split at h
   ·cases h;exact⟨_,_,rfl⟩
   ·exact qJ h
  |_=>exact qJ h
 |_=>exact qJ h
def Xy(d:OA X K P C U):GA X K P C (.Call (.Attribute (.Name x p) m MA) [a] [] c) (WZ U x m MA c a):=by
 unfold WZ;split
 ·rename_i s i g f;obtain⟨j,q,rfl⟩:=gFa g;split
  ·rename_i b;rw[IA] at b;have e:=dC b.2;subst e;exact Uy d f b.1
  ·split
   ·rename_i b;rw[IA] at b;have e:=dC b.2;subst e;exact Vy d f b.1
   ·exact lB
 ·exact Ay d
def Fy(d:OA X K P C U)(e:GA X K P C a f):GA X K P C (.Call (.Attribute (.Constant (.str s) j p) m MA) [a] [] b) (cY s m MA b a f):=by
 unfold cY;split
 ·rename_i c;rw[IA,IA,IA] at c;have g:=dC c.1.2;subst g;exact Ey d c.1.1.2 c.1.1.1 e
 ·exact lB
end
section
variable{X:Cx}{K:jA}{P:XA}{C:Calls}{U:CC}
def sy(e:OA X K P C U)(f:∀v∈a,GA X K P C v (cE U v))(d:GA X K P C (.Dict b a pos) c):GA X K P C (.Dict b a pos) (L5 b a (yB U a) c):=d
def gy(c:OA X K P C U){x m:fA}{a:zA}{p MA b:vC}:GA X K P C (.Call (.Attribute (.Name x p) m MA) [a] [] b) (OU U x m MA b a):=by
 unfold OU
 all_goals exact Xy c
end
end CI
namespace CI
set_option tactic.hygienic true
open PySem PySem.Spec PyProof.Rows L2
structure fC(K:jA)(Y:Env)(Z:St)(H G:Hp)(Y':Env)(Z':St)(H' G':Hp):Prop where
 wA:BA K Y' Z' H' G'
 ext:Ext (xA Y Z) H G H' G'
 own:∀a,xA Y' Z' a->xA Y Z a\/H a=eA
 un:∀i:Nat,Y'[i]?=aA .un->Y[i]?=aA .un/\Z'[i]?=Z[i]?
 pin:∀(i:Nat) d l,Y[i]?=aA (.ow d bA l)->Z'[i]?=Z[i]?/\∃d',Y'[i]?=aA (.ow d' bA l)
 len:Y'.length=Y.length
section
variable{K:jA}
theorem fC.refl(r:BA K Y Z H G):fC K Y Z H G Y Z H G:=⟨r,Ext.refl,λ_ h=>.inl h,λ_ h=>⟨h,rfl⟩,λ_ d _ h=>⟨rfl,d,h⟩,rfl⟩
theorem FA.s(r:BA K Y Z H G)(a:FA K Y Z H G j m u):fC K Y Z H G j Z m u:=by
 refine⟨a.wA,a.ext,λx h=>.inl (a.own x h),λi h=>⟨?_,rfl⟩,λi d l h=>⟨rfl, ?_⟩, ?_⟩
 ·have:=a.iH i
  rw[h] at this
  cases e:Y[i]? with
  |none=>rw[e] at this;exact this.elim
  |some s=>rw[e] at this;cases s<;>first | rfl | exact this.elim
 ·have:=a.iH i
  rw[h] at this
  cases e:j[i]? with
  |none=>rw[e] at this;exact this.elim
  |some s =>
   rw[e] at this
   cases s with
   |ow k y z=>obtain⟨rfl,rfl⟩:=this;exact⟨k,rfl⟩
   |sh k=>exact absurd (show bA=cA from this) (by simp)
   |_=>exact this.elim
 ·rw[a.wA.len,r.len]
theorem fC.trans(a:fC K Y Z H G m u y B)(b:fC K m u y B C F I J):fC K Y Z H G C F I J:=by
 refine⟨b.wA,a.ext.trans a.own b.ext,λx h=>?_,λi h=>?_,λi d l h=>?_,b.len.trans a.len⟩
 ·rcases b.own x h with z | z
  ·exact a.own x z
  ·exact .inr (a.ext.hx x z)
 ·obtain⟨h1,h2⟩:=b.un i h;obtain⟨j,k⟩:=a.un i h1;exact⟨j,h2.trans k⟩
 ·obtain⟨h1,M,h2⟩:=a.pin i d l h;obtain⟨j,k⟩:=b.pin i M l h2;exact⟨j.trans h1,k⟩
def XF(K:jA)(Y:Env)(Z:St)(H G:Hp)(e:Env)(D:Ends):Fl->Prop
 |.nx=>∀c b d,fC K Y Z H G e c b d->D.nx c b
 |.bk=>∀c b d,fC K Y Z H G e c b d->D.bk c b
 |.ct=>∀c b d,fC K Y Z H G e c b d->D.ct c b
 |.rt v=>∀x c b d,fC K Y Z H G e c b d->iC K b d (xA e c) (λa=>xA Y Z a\/H a=eA) v x->D.rt x b
 |.ex _=>False
def XF.pre{D:Ends}(a:fC K Y Z H G u y B C)(h:XF K Y Z H G F D fl):XF K u y B C F D fl:=by
 induction fl using Fl.casesOn with
 |nx=>exact λj k m b=>h j k m (a.trans b)
 |bk=>exact λj k m b=>h j k m (a.trans b)
 |ct=>exact λj k m b=>h j k m (a.trans b)
 |rt v=>exact λx j k m b I=>h x j k m (a.trans b) (I.BG λc z=>by
   rcases z with z | z
   ·exact a.own c z
   ·exact .inr (a.ext.hx c z))
 |ex e=>exact h
end
def tS(K:jA)(P:XA)(C:Calls)(W:Nat)(c:S):TS:=λD Z H=>∃(Y:Env) (G:Hp) (fl:Fl) (a:Env),BA K Y Z H G/\ex P C W c Y=aA (fl,a)/\XF K Y Z H G a D fl
def FG(K:jA)(P:XA)(C:Calls)(W:Nat)(c:List S):TS:=λD Z H=>∃(Y:Env) (G:Hp) (fl:Fl) (a:Env),BA K Y Z H G/\YA P C W c Y=aA (fl,a)/\XF K Y Z H G a D fl
def TS.fG(h:PS X e t)(w:∀D Z H,u D Z H->t D Z H):PS X e u:=λdA s Z H D I q=>h dA s Z H D I (w D Z H q)
def TS.a7(h:bD X e t)(w:∀D Z H,u D Z H->t D Z H):bD X e u:=λdA s Z H D I q=>h dA s Z H D I (w D Z H q)
section
variable{X:Cx}{K:jA}
def hI{r:yA O}(h:r.WB f=aA (fl,Y))(n:∀e,fl≠.ex e):∃a b,r=some (.ok a,b)/\f a b=aA (fl,Y):=by
 unfold yA.WB at h;split at h
 ·cases h
 ·cases h;exact absurd rfl (n _)
 ·exact⟨_,_,rfl,h⟩
def XF.ne{D:Ends}(h:XF K Y Z H G j D fl):∀e,fl≠.ex e:=λe z=>by subst z;exact h
def lAa:bD X [] (FG K P C W []):=TS.a7 va λD Z H a=>by
 obtain⟨Y,G,fl,b,r,e,k⟩:=a;simp only[YA,cC,SE] at e;obtain⟨rfl,rfl⟩:=e;exact k Z H G (fC.refl r)
def kAa{st:cB}{aAw:List cB}(f:PS X st (tS K P C W c))(g:bD X aAw (FG K P C W h)):bD X (st::aAw) (FG K P C W (c::h)):=by
 refine TS.a7 (ua f g) λD Z H i=>?_
 obtain⟨Y,G,fl,j,r,e,k⟩:=i;rw[YA] at e
 cases q:ex P C W c Y with
 |none=>rw[q] at e;cases e
 |some y =>
  obtain⟨a,b⟩:=y;rw[q] at e;refine⟨Y,G,a,b,r,q, ?_⟩
  induction a using Fl.casesOn with
  |nx=>exact λm n l d=>⟨b,l,fl,j,d.wA,e,k.pre d⟩
  |bk=>cases e;exact k
  |ct=>cases e;exact k
  |rt v=>cases e;exact k
  |ex x=>cases e;exact k
def BA.eFa(r:BA K Y Z H G)(e:store i v Y=aA F)(h:iC K H G (xA Y Z) new v x) :
  BA K F (Z.set i (aA x)) H G/\(∀a,xA F (Z.set i (aA x)) a->xA Y Z a\/new a)/\(∀j:Nat,F[j]?=aA .un->Y[j]?=aA .un/\(Z.set i (aA x))[j]?=Z[j]?) /\
  (∀(j:Nat) d l,Y[j]?=aA (.ow d bA l)->(Z.set i (aA x))[j]?=Z[j]?/\∃d',F[j]?=aA (.ow d' bA l))/\F.length=Y.length:=by
 have key:∃sl,i<Y.length/\F=Y.set i sl/\(∀d l,Y[i]?≠aA (.ow d bA l))/\((∃d,v=.sh d/\sl=.sh d)\/∃d,v=.ow d/\sl=.ow d cA cA):=by
  unfold store at e;split at e
  ·cases e
  ·cases e
  ·cases e
  ·rename_i s h1 h2 C;have O:∀d l,Y[i]?≠aA (.ow d bA l):=λd l z=>by rw[C] at z;cases z;exact h1 _ _ rfl
   have P:=(lD.mp C).1
   induction v using RV.casesOn with
   |sh d=>cases e;exact⟨_,P,rfl,O,.inl ⟨d,rfl,rfl⟩⟩
   |ow d=>cases e;exact⟨_,P,rfl,O,.inr ⟨d,rfl,rfl⟩⟩
   |od d=>cases e
 obtain⟨sl,hi,rfl,np,I⟩:=key;have Q:i<Z.length:=by rw[<- r.len];exact hi
 have hx:(Z.set i (aA x))[i]?=aA (aA x):=II Q;have ne:∀j:Nat,j≠i->(Z.set i (aA x))[j]?=Z[j]?:=λj h=>ZD (λz=>h z.symm)
 have u:∀(j:Nat) s,(Y.set i sl)[j]?=aA s->(j=i/\s=sl)\/(j≠i/\Y[j]?=aA s):=λj s h=>by
  rcases EG h with ⟨h1,h2,_⟩ | h
  ·exact .inl ⟨h1,h2⟩
  ·exact .inr h
 refine⟨⟨by rw[PF,PF];exact r.len,r.sub,λj d h1=>?_,λj d p l h1=>?_,λj k d p l d' p' l' a h1 h2 C J=>?_⟩,λa ⟨j,d,p,l,h1,h2⟩=>?_,λj h1=>?_,λj d l h1=>?_,by rw[PF]⟩
 ·rcases u j _ h1 with ⟨rfl,z⟩ | ⟨B,z⟩
  ·rcases I with ⟨y,rfl,rfl⟩ | ⟨y,rfl,rfl⟩
   ·cases z;exact⟨x,hx,h⟩
   ·cases z
  ·rw[ne j B];exact r.sh j d z
 ·rcases u j _ h1 with ⟨rfl,z⟩ | ⟨B,z⟩
  ·rcases I with ⟨y,rfl,rfl⟩ | ⟨y,rfl,rfl⟩
   ·cases z
   ·cases z;obtain⟨a,rfl,g,o,_,_⟩:=h;exact⟨a,hx,g,o⟩
  ·rw[ne j B];exact r.ow j d p l z
 ·rcases u j _ h1 with ⟨rfl,z⟩ | ⟨B,z⟩
  ·rcases u k _ h2 with ⟨rfl,M⟩ | ⟨R,M⟩
   ·rfl
   ·rcases I with ⟨y,rfl,rfl⟩ | ⟨y,rfl,rfl⟩
    ·cases z
    ·obtain⟨b,rfl,g,o,no,_⟩:=h;rw[hx] at C;cases C;rw[ne k R] at J;exact absurd ⟨k,_,_,_,M,J⟩ no
  ·rcases u k _ h2 with ⟨rfl,M⟩ | ⟨R,M⟩
   ·rcases I with ⟨y,rfl,rfl⟩ | ⟨y,rfl,rfl⟩
    ·cases M
    ·obtain⟨b,rfl,g,o,no,_⟩:=h;rw[hx] at J;cases J;rw[ne j B] at C;exact absurd ⟨j,_,_,_,z,C⟩ no
   ·rw[ne j B] at C;rw[ne k R] at J;exact r.inj _ _ _ _ _ _ _ _ _ z M C J
 ·rcases u j _ h1 with ⟨rfl,z⟩ | ⟨B,z⟩
  ·rcases I with ⟨y,rfl,rfl⟩ | ⟨y,rfl,rfl⟩
   ·cases z
   ·obtain⟨b,rfl,g,o,no,m⟩:=h;rw[hx] at h2;cases h2;exact .inr m
  ·rw[ne j B] at h2;exact .inl ⟨j,d,p,l,z,h2⟩
 ·rcases u j _ h1 with ⟨rfl,z⟩ | ⟨B,z⟩
  ·rcases I with ⟨y,rfl,rfl⟩ | ⟨y,rfl,rfl⟩<;>cases z
  ·exact⟨z,ne j B⟩
 ·by_cases U:j=i
  ·subst U;exact absurd h1 (np d l)
  ·exact⟨ne j U,d,by rw[ZD (λz=>U z.symm)];exact h1⟩
theorem FA.store(r:BA K Y Z H G)(a:FA K Y Z H G m u y)(e:store i v m=aA B)(h:iC K u y (xA m Z) (rD H) v x):fC K Y Z H G B (Z.set i (aA x)) u y:=by
 obtain⟨h1,h2,C,F,I⟩:=a.wA.eFa e h;have s:=FA.s r a;refine⟨h1,a.ext,λb z=>?_,λj z=>?_,λj d l z=>?_,I.trans s.len⟩
 ·rcases h2 b z with z | z
  ·exact s.own b z
  ·exact .inr z
 ·obtain⟨J,k⟩:=C j z;obtain⟨M,P⟩:=s.un j J;exact⟨M,k⟩
 ·obtain⟨_,O,k⟩:=s.pin j d l z;exact F j O l k
def BA.bc(r:BA K Y Z H G)(e:store i (.sh d) Y=aA j)(h:qA K G d x):fC K Y Z H G j (Z.set i (aA x)) H G :=
 FA.store r (FA.refl r) e h
def gB(K:jA)(one:Bool)(is:List Nat):TG:=λv Z H Q=>∃(Y:Env) (G:Hp) (d:D) (a:Env),BA K Y Z H G/\qA K G d v/\UA one is d Y=aA a/\∀b,fC K Y Z H G a b H G->Q b H
def GO(K:jA)(is:List Nat):BM:=λd Z H Q=>∃(Y:Env) (G:Hp) (a:List D) (b:Env),BA K Y Z H G/\uA K G a d/\aAn is a Y=aA b/\∀c,fC K Y Z H G b c H G->Q c H
def D_(h:PG X a (cN i)):PG X a (gB K bA [i]):=by
 intro dA s Z H v u Q I b c;obtain⟨Y,G,d,f,r,hd,e,k⟩:=c;exact h dA s Z H v u Q I b (k _ (r.bc (by simpa only[UA] using e) hd))
def J_:RI X [] (GO K []):=λdA s Z H g b Q I c f=>by
 obtain⟨Y,G,a,h,r,hd,e,k⟩:=f
 induction a using EC with
 |nil =>
  simp only[aAn,cC] at e;subst e;simp only[uA] at hd;subst hd;exact I_ dA s Z H [] b Q I c ⟨rfl,k Z (fC.refl r)⟩
 |cons d a=>simp[aAn] at e
def H_(h:PG X e (cN i))(t:RI X a (GO K is))(g:(HG (e::a) X.env).map (·.2)=assign e X.env::(HG a X.env).map (·.2)):RI X (e::a) (GO K (i::is)) :=
 λdA s Z H y j Q I l m=>by
  obtain⟨Y,G,b,n,r,hd,e,k⟩:=m
  induction b using EC with
  |nil=>simp[aAn] at e
  |cons d b =>
   simp only[aAn] at e
   cases q:store i (.sh d) Y with
   |none=>rw[q] at e;cases e
   |some o =>
    rw[q] at e;simp only[uA] at hd;obtain⟨v,c,rfl,p,u⟩:=hd;have f:=r.bc q p;exact G_ h t g dA s Z H (v::c) j Q I l ⟨v,c,rfl,o,G,b,n,f.wA,u,e,λw x=>k w (f.trans x)⟩
theorem dc:∀{is:List Nat} {a:List D} {Y b:Env},aAn is a Y=aA b->a.length=is.length
 |[],[],_,_,_=>rfl
 |[],_::_,_,_,e=>by simp[aAn] at e
 |_::_,[],_,_,e=>by simp[aAn] at e
 |i::is,d::a,Y,b,e=>by
  simp only[aAn] at e
  cases q:store i (.sh d) Y with
  |none=>rw[q] at e;cases e
  |some c=>rw[q] at e;simp[dc e]
def W9(f:OA X K P C U)(t:RI X b (GO K is))(h:(HG b X.env).length=is.length)(c:(HG b X.env).findIdx? (·.1)=eA):PG X (.Tuple b p pos) (gB K cA is) :=
 λdA s Z H v u Q I i j=>by
  obtain⟨Y,G,d,l,r,hd,e,k⟩:=j
  induction d using D.casesOn with
  |t m =>
   simp only[UA] at e;simp only[qA] at hd;obtain⟨a,n,rfl,o,g⟩:=hd;refine F_ f.calm t h c dA s Z H (.ref a) u Q I i ⟨a,n,rfl, ?_, ?_,Y,G,m,l,r,g,e,k⟩
   ·rw[f.yC];exact vJ r.sub o
   ·rw[g.len];exact dc e
  |_=>simp only[UA,reduceCtorEq] at e
end
end CI
namespace CI
set_option tactic.hygienic true
open PySem PySem.Spec PyProof.Rows L2
noncomputable def VR(U:CC)(b:zA)(body:List cB)(a:List E):List E:=a
def jb(U:CC)(x:fA)(args:List zA):S:=if args.all aAe&&(decide (args≠[])&&decide (args.length<=100)) then(match U.glob x with | .exc=>.oZ x (yB U args) | .dI=>.lb x (yB U args) | _=>.AA) else .AA
def pZ(U:CC)(e:zA):S:=match iN e with
 |some x=>jb U x.1.1 x.2.1
 |none=>.AA
noncomputable def VZ(a:List S)(b:List ExceptHandler)(o f:List cB):S:=match b with
 |[.ExceptHandler (aA _) eA [_] _]=>if o.isEmpty&&f.isEmpty then .gT a else .AA
 |_=>.AA
def vGa(U:CC)(a:List S)(b:List ExceptHandler)(o f:List cB):S:=VZ a b o f
noncomputable def sBa(U:CC)(e:zA)(c:S):S:=c
noncomputable def Ua(e:zA)(c:E):S:=.ret c
noncomputable def zCa(U:CC)(s:cB)(r:List cB):Option (Nat×Nat×E×E):=eA
noncomputable def aDa(o:Option (Nat×Nat×E×E))(c:S)(a:List S):List S :=
 match o with
 |none=>c::a
 |some (i,j,ce,b)=>.wb i j ce b::a.drop 3
noncomputable def yZ(i:Nat)(k:zA)(a ce:E):S:=.set i a ce
noncomputable def KZ(U:CC)(ts:List zA)(e:zA)(ce:E):S:=.AA
def sH(U:CC)(a:zA)(f:fA)(e:zA):S:=match aAD a,U.gl (ZJ f) with
 |some x,.iE b=>(match U.slot x with
  |some i=>if WD e then .tJ i f b (cE U e) else .AA
  |none=>.AA)
 |_,_=>.AA
mutual
noncomputable def cS(U:CC):cB->S
 |.Pass _=>.pass
 |.Break _=>.brk
 |.Continue _=>.cnt
 |.Return (aA e) _=>sBa U e (Ua e (cE U e))
 |.Return eA _=>.jZ
 |.Expr e _=>if WD e then .expr (cE U e) else .AA
 |.If c a b _=>.vA (cE U c) (MG U a) (MG U b)
 |.While c body [] _=>.AA
 |.For h g body [] _=>match BH U h,iK U g with
  |some (one,is),aA (k,d)=>if xJ k one then .for is one k (VR U g body (yB U d)) (MG U body) else .AA
  |_,_=>.AA
 |.Assign [.Name x _] e _=>match U.lG x with
  |some i=>if WD e||SX e then .LA i (cE U e) else .AA
  |none=>.AA
 |.Assign [.Tuple ts _ _] e _=>match bM U ts with
  |some is=>if WD e&&xS e then .DM is (cE U e) else .AA
  |none=>KZ U ts e (cE U e)
 |.Assign [.Subscript (.Name x _) k _] e _=>match U.slot x with
  |some i=>if WD e&&MY k then yZ i k (cE U k) (cE U e) else .AA
  |none=>.AA
 |.Assign [.Attribute a f _] e _=>sH U a f e
 |.AugAssign (.Name x _) .Add e _=>(match U.lG x with
  |some i=>if WD e then .AA else .AA
  |none=>.AA)
 |.Raise (aA e) eA _=>pZ U e
 |.Try body j o f _=>vGa U (MG U body) j o f
 |_=>.AA
noncomputable def MG(U:CC):List cB->List S
 |[]=>[]
 |s::r=>aDa (zCa U s r) (cS U s) (MG U r)
end
abbrev dH(X:Cx)(U:CC):Prop:=∀x,U.EL x=bA->X.fn x=bA\/X.env.scope.names.lookup x=aA .local
section
variable{K:jA}
def JZ(h:WD e=bA)(t:Option zA)(line:Nat)(env:JJ):swapsWith e t line env=pure cA:=by
 induction e using qD<;>first | rfl | cases h
def IZ(h:WD e=bA)(t:zA)(line:Nat)(env:JJ):swapsWithSole [t] e line env=pure cA:=JZ h _ _ _
def aZ{st:cB}(h:∀Y,ex P C W c Y=eA):PS X st (tS K P C W c):=λdA s Z H D I a=>by obtain⟨Y,G,fl,b,r,e,k⟩:=a;rw[h] at e;cases e
def mC{st:cB}:PS X st (tS K P C W .AA):=aZ λY=>rfl
def W':PS X (.Pass pos) (tS K P C W .pass):=TS.fG V' λD Z H a=>by
 obtain⟨Y,G,fl,b,r,e,k⟩:=a;cases e;exact k Z H G (fC.refl r)
def K':PS X (.Break pos) (tS K P C W .brk):=TS.fG J' λD Z H a=>by
 obtain⟨Y,G,fl,b,r,e,k⟩:=a;cases e;exact k Z H G (fC.refl r)
def L':PS X (.Continue pos) (tS K P C W .cnt):=TS.fG O' λD Z H a=>by
 obtain⟨Y,G,fl,b,r,e,k⟩:=a;cases e;exact k Z H G (fC.refl r)
def R'(h:GA X K P C e c)(n:WD e=bA):PS X (.Expr e pos) (tS K P C W (.expr c)):=by
 refine TS.fG (P' h.v (JZ n _ _ _)) λD Z H b=>?_
 obtain⟨Y,G,fl,j,r,e,k⟩:=b;obtain⟨v,l,d,f⟩:=hI e k.ne;cases f;exact⟨Y,G,v,_,r,d,λx g i a m=>k Z g i (FA.s r a)⟩
def bAa:PS X (.Return eA pos) (tS K P C W .jZ):=TS.fG aAa λD Z H a=>by
 obtain⟨Y,G,fl,b,r,e,k⟩:=a;cases e;exact k .nA Z H G (fC.refl r) (by show qA K G .nA _;simp[qA])
def BA.give(r:BA K Y Z H G)(h:Y[i]?=aA (.ow d cA l))(hx:Z[i]?=aA (aA (.ref a))) :
  fC K Y Z H G (Y.set i .mv) Z H G/\iC K H G (xA (Y.set i .mv) Z) (λa=>xA Y Z a\/H a=eA) (.ow d) (.ref a):=by
 have key:∀(j:Nat) (sl:Sl),(Y.set i .mv)[j]?=aA sl->(j=i/\sl=.mv)\/(j≠i/\Y[j]?=aA sl):=λj sl z=>by
  rcases EG z with ⟨e,z,_⟩ | z
  ·exact .inl ⟨e,z⟩
  ·exact .inr z
 obtain⟨b,h1,g,o⟩:=r.ow i d cA l h;rw[hx] at h1;cases h1
 have m:∀c,xA (Y.set i .mv) Z c->xA Y Z c/\c≠a:=λc F=>by
  obtain⟨j,u,B,y,z,w⟩:=F;rcases key j _ z with ⟨_,q⟩ | ⟨x,q⟩
  ·cases q
  ·refine⟨⟨j,u,B,y,q,w⟩,λz=>?_⟩;subst z;exact x (r.inj _ _ _ _ _ _ _ _ _ q h w hx)
 refine⟨⟨⟨by rw[PF];exact r.len,r.sub,λj u z=>?_,λj u B y z=>?_,λj k P Q l1 R p2 l2 c I J M O=>?_⟩,Ext.refl,λc z=>.inl (m c z).1,λj z=>?_,λj u y z=>⟨rfl,u, ?_⟩,by rw[PF]⟩,a,rfl,g,o,λz=>(m a z).2 rfl,.inl ⟨i,d,cA,l,h,hx⟩⟩
 ·rcases key j _ z with ⟨_,q⟩ | ⟨x,q⟩
  ·cases q
  ·exact r.sh j u q
 ·rcases key j _ z with ⟨_,q⟩ | ⟨x,q⟩
  ·cases q
  ·exact r.ow j u B y q
 ·rcases key j _ I with ⟨_,q⟩ | ⟨x,q⟩
  ·cases q
  ·rcases key k _ J with ⟨_,C⟩ | ⟨U,C⟩
   ·cases C
   ·exact r.inj _ _ _ _ _ _ _ _ _ q C M O
 ·rcases key j _ z with ⟨_,q⟩ | ⟨x,q⟩
  ·cases q
  ·exact⟨q,rfl⟩
 ·have x:j≠i:=λw=>by subst w;rw[h] at z;cases z
  rw[ZD (λw=>x w.symm)];exact z
def cAa(h:GA X K P C e c):PS X (.Return (aA e) pos) (tS K P C W (.ret c)):=by
 by_cases p:∃i,c=.v i
 ·obtain⟨i,rfl⟩:=p;refine TS.fG (qa h.h) λD Z H q=>?_
  obtain⟨Y,G,fl,t,r,e,k⟩:=q;replace e:(match Y[i]? with | some (.ow d cA _)=>aA (.rt (.ow d),Y.set i .mv) | some (.sh d)=>aA (.rt (.sh d),Y) | _=>eA)=aA (fl,t):=e;split at e
  ·rename_i d l hd;cases e;obtain⟨a,y,g,o⟩:=r.ow i d cA l hd;refine⟨Y,G,.slot i,Y,r,by simp[hd,hd,Sl.get,CI.hd],λx m n j f=>?_⟩;obtain⟨J,b,M,N⟩:=j.wA.ow i d cA l hd;have f:Z[i]?=aA (aA x):=f;rw[f] at b;cases b;obtain⟨A,v1⟩:=j.wA.give hd f;exact(k.pre (FA.s r j)) _ Z m n A v1
  ·rename_i d hd;cases e;obtain⟨v,y,O⟩:=r.sh i d hd;refine⟨Y,G,.slot i,Y,r,by simp[hd,Sl.get,CI.hd],λx m n j f=>?_⟩;obtain⟨Q,b,u⟩:=j.wA.sh i d hd;have f:Z[i]?=aA (aA x):=f;rw[f] at b;cases b;exact k x Z m n (FA.s r j) u
  ·cases e
 ·refine TS.fG (qa h.v) λD Z H q=>?_
  obtain⟨Y,G,fl,t,r,e,k⟩:=q
  have B:(ev P C cA c Y).WB (λv w=>aA (.rt v,w))=aA (fl,t):=by
   cases c<;>first | exact absurd ⟨_,rfl⟩ p | exact e
  obtain⟨v,w,F,I⟩:=hI B k.ne;cases I;exact⟨Y,G,v,_,r,F,λx m n a p=>k x Z m n (FA.s r a) (p.BG λa z=>.inr z)⟩
def U'(l:GA X K P C c m)(n:bD X a (FG K P C W o))(p:bD X b (FG K P C W q)):PS X (.If c a b pos) (tS K P C W (.vA m o q)):=by
 refine TS.fG (T' l.t n p) λD Z H u=>?_
 obtain⟨Y,G,fl,i,r,e,k⟩:=u;obtain⟨v,f,j,g⟩:=hI e k.ne;split at g
 ·refine⟨Y,G,bA,f,r,j,λw h d=>?_⟩;refine GL ?_;exact⟨f,h,fl,i,d.wA,g,k.pre (FA.s r d)⟩
 ·refine⟨Y,G,cA,f,r,j,λw h d=>?_⟩;refine FL ?_;exact⟨f,h,fl,i,d.wA,g,k.pre (FA.s r d)⟩
 ·cases g
def AZ(a:NB d X K P C U)(b:dH X U)(h:U.lG x=aA i):PG X (.Name x pos) (cN i):=by
 unfold CC.lG at h;split at h
 ·rename_i hl
  have c:X.N[i]?=aA x:=by
   unfold CC.slot at h;split at h
   ·cases h
   ·split at h
    ·rw[a.nJ];exact QR h
    ·cases h
  refine X9 (by rw[a.nJ];exact a.nd) c ?_ (b x hl);unfold L2.Loc;rw[a.nm];unfold CC.EL at hl;rw[EJ,IA] at hl;rcases hl with hl | hl
  ·exact .inl (dC hl)
  ·exact .inr (dC hl.2)
 ·cases h
def C'(g:NB u X K P C U)(d:dH X U)(j:U.lG x=aA i)(h:GA X K P C e c)(n:WD e=bA):PS X (.Assign [.Name x p] e pos) (tS K P C W (.LA i c)):=by
 refine TS.fG (CS h.v (AZ g d j) (IZ n _ _ _)) λD Z H l=>?_
 obtain⟨Y,G,fl,w,r,e,k⟩:=l;obtain⟨v,f,m,b⟩:=hI e k.ne;unfold yG at b
 cases q:store i v f with
 |none=>rw[q] at b;cases b
 |some y =>
  rw[q] at b;cases b;exact⟨Y,G,v,f,r,m,λx o s a t=>k _ o s (FA.store r a q t)⟩
def qGa{e:zA}{i:Nat}(h:Pd U e=aA i):∃x p,e=.Name x p/\U.lG x=aA i:=by
 induction e using qD with
 |Name x p=>exact⟨x,p,rfl,h⟩
 |_=>exact nomatch (show eA=aA i from h)
def Qd(b:OA X K P C U)(a:dH X U){ts:List zA}:∀{is:List Nat},bM U ts=aA is->RI X ts (GO K is)/\(HG ts X.env).length=is.length/\(HG ts X.env).findIdx? (·.1)=eA/\ts.length=is.length:=by
 induction ts with
 |nil=>intro is h;cases h;exact⟨J_,rfl,rfl,rfl⟩
 |cons e c d =>
  intro is h;obtain⟨i,q,h⟩:=MJ.mp h;obtain⟨f,g,rfl⟩:=NJ.mp h;obtain⟨j,k,l,m⟩:=d g;obtain⟨x,p,rfl,q⟩:=qGa q;refine⟨H_ (AZ b a q) j rfl,congrArg (·+1) k, ?_,congrArg (·+1) m⟩;show((cA,_)::HG c X.env).findIdx? (·.1)=eA;rw[List.findIdx?_cons,l];rfl
def nFa(h:xS e=bA)(env:JJ):swappedStores [.Tuple ts a p] e env=pure eA:=by
 induction e using qD<;>first | rfl | cases h
def E'(j:OA X K P C U)(g:dH X U)(o:bM U ts=aA is)(h:GA X K P C e c)(n:WD e=bA)(t:xS e=bA):PS X (.Assign [.Tuple ts M p] e pos) (tS K P C W (.DM is c)):=by
 obtain⟨u,w,y,N⟩:=Qd j g o;refine TS.fG (CS h.v (W9 j u w y) (IZ n _ _ _) (nFa t _)) λD Z H z=>?_
 obtain⟨Y,G,fl,O,r,e,k⟩:=z;obtain⟨v,i,A,f⟩:=hI e k.ne;unfold yG at f
 cases q:UA cA is v.d i with
 |none=>rw[q] at f;cases f
 |some Q =>
  rw[q] at f;cases f;refine⟨Y,G,v,i,r,A,λx B R a F=>?_⟩;obtain⟨l,m,I⟩:=a.share F;exact⟨i,l,v.d,_,m.wA,I,q,λJ b=>k J B l ((FA.s r m).trans b)⟩
def gBa(K:jA):wQ:=λ_ _ _ _ _=>False
def hBa:wQ:=λ_ _ _ _ _=>False
def gDa(hu:X.A.units+11<cLine):FU X (λo i v H Q=>La o i v H Q\/hBa o i v H Q\/gBa X.K o i v H Q):=by
 intro dA s Z H o i v a b u Q I c d e h;rcases h with h | h | h
 ·exact aAW dA s Z H o i v a b u Q I c d e h
 ·exact h.elim
 ·exact h.elim
theorem Ba:∀{a:List fA} {b:List V},a.length=b.length->PD f y (a.zip b)=(aAx f a).zip (DF f y a b)/\(aAx f a).length=(DF f y a b).length
 |[],[],_=>⟨rfl,rfl⟩
 |[],_::_,h=>nomatch h
 |_::_,[],h=>nomatch h
 |n::a,v::b,h=>by
  obtain⟨c,d⟩:=Ba (Q2 h);simp only[gM,PD,aAx,DF];split
  ·exact⟨rfl,congrArg (·+1) (Q2 h)⟩
  ·exact⟨by rw[gM,c],by rw[VB,VB,d]⟩
theorem Ga(g:qA K G d y):∀{b:List fA} {c:List D} {a:List V},uA K G c a->uA K G (DF f d b c) (DF f y b a)
 |[],c,a,h=>uA.cons g uA.nil
 |n::b,[],a,h=>by
  simp only[uA] at h;subst h;exact uA.nil
 |n::b,e::c,a,h=>by
  simp only[uA] at h;obtain⟨v,r,rfl,j,i⟩:=h;simp only[DF];split
  ·exact uA.cons g i
  ·exact uA.cons j (Ga g i)
theorem Ea:∀{a:List fA},g∈aAx f a->g=f\/g∈a
 |[],h=>.inl (ME.mp h)
 |n::a,h=>by
  unfold aAx at h;split at h
  ·exact .inr h
  ·rcases mD.mp h with h | h
   ·exact .inr (h ▸ AD)
   ·exact(Ea h).imp id (XC _)
def eAa(m:OA X K P C U)(M:U.slot x=aA i)(N:U.gl (ZJ f)=.iE u)(h:GA X K P C e c)(n:WD e=bA):PS X (.Assign [.Attribute (.Name x p) f p2] e pos) (tS K P C W (.tJ i f u c)):=by
 have O:PE X (.Name x p) (zH i):=CC.uJ m M;refine TS.fG (pa O h.v (JZ n _ _ _)) λD Z H Q=>?_
 obtain⟨Y,G,fl,Y',r,e,k⟩:=Q;obtain⟨v,R,e1,a⟩:=hI e k.ne;unfold KS at a;split at a
 case h_2=>cases a
 rename_i w l ds p1 A;split at a
 case isFalse=>cases a
 rename_i hc;cases a;refine⟨Y,G,v,R,r,e1,λy H1 G1 a1 hv=>?_⟩;obtain⟨G3,o,r3⟩:=a1.share hv;obtain⟨b,B,g0,j,q,vs,F,z2,z3,t,z5⟩:=o.wA.ow i _ _ _ A;have I:aG K j f:=m.iE.1 f u N w (by simpa using hc.1) j F;obtain⟨q1,q2⟩:=Ba z5;have J:=m.yC;refine⟨.ref b,B,b,j,q,_,rfl,z2,by rw[J];exact t.cl,by rw[J];exact I, ?_, ?_⟩
 ·rw[List.length_zip];lia
 ·rw[q1];have a4:=o.wA.ve (ob:=.ins j q ((aAx f l).zip (DF f y l vs))) (d':=.ins w (aAx f l) (DF f v.d l ds)) A B ⟨j,q,_,F,GC,Ga r3 z3,⟨t.cl,λg hg=>(Ea hg).elim (λz=>z ▸ I) (t.no g)⟩,q2⟩;exact k Z _ _ (FA.s r (o.trans a4))
def gAa(o:OA X K P C U)(hi:U.slot x=aA i)(h:GA X K P C e c)(hj:GA X K P C j cj)(n:WD e=bA)
  (ha:∀v,assign (.Subscript (.Name x p) j p2) X.env v=(do
   let l <- holding [v] (eval (.Name x p) X.env)
   let t <- holding [v,l] (eval j X.env)
   standAt p2
   holding [v,l,t] (setItem l t v)
   release [v,l,t] [])):PS X (.Assign [.Subscript (.Name x p) j p2] e pos) (tS K P C W (.set i cj c)):=by
 have hp:PE X (.Name x p) (zH i):=CC.uJ o hi;refine TS.fG (CS h.v (E_ hp hj.v (o.yC ▸ gDa (by have:=o.hu;lia)) ha) (IZ n _ _ _)) λD Z H u=>?_
 obtain⟨Y,G,fl,Y',r,e,k⟩:=u;obtain⟨v,O,e1,A⟩:=hI e k.ne;split at A
 ·rename_i ho;obtain⟨w,Y2,e3,d⟩:=hI A k.ne;split at d
  ·rename_i ds p1 Q R hw;unfold yG at d
   cases q:DD ds.length Q with
   |none=>rw[q] at d;cases d
   |some m =>
    rw[q] at d;cases d;refine⟨Y,G,v,O,r,e1,λy H1 G1 B hv=>?_⟩;obtain⟨d0,p0,l0,h0⟩:=TX ho;obtain⟨b,F,g0,o0⟩:=B.wA.ow i _ p0 l0 h0;refine⟨.ref b,F,O,G1,w,Y2,B.wA,e3,λz H2 G2 I u=>?_⟩;have J:=hv.wait I.ext λa z=>.inl (I.own a z)
    obtain⟨G3,M,r3⟩:=(B.trans I).share J;obtain⟨b',f,g1,vs,N,hr⟩:=M.wA.ow i _ _ _ R;rw[F] at f;cases f;have g:=u.tN;rw[hw] at g;cases g.int;have a4:=M.wA.write R F (hr.set r3 m);exact .inl ⟨b,vs,Q,m,rfl,rfl,N,by rw[hr.len];exact q,k Z _ _ (FA.s r (M.trans a4))⟩
  ·cases d
 ·cases A
end
end CI
namespace CI
set_option tactic.hygienic true
open PySem PySem.Spec PyProof.Rows L2
section
variable{X:Cx}{K:jA}{P:XA}{C:Calls}{W:Nat}{U:CC}
def ZS(r:BA K Y Z H G):BA K (aAg o Y) Z H G/\∀a,xA (aAg o Y) Z a->xA Y Z a:=by
 induction o using cH with
 |none=>exact⟨r,λ_ z=>z⟩
 |some i=>exact⟨r.unset i,λ_ z=>z.unset⟩
def mP(r:BA K f Z A M)(ho:∀i,o=aA i->∃d p l,f[i]?=aA (.ow d p l))(e:aAl o f s=aA N)(a:fC K (aAg o f) Z A M s k B y) :
  fC K f Z A M N k B y/\∀c,xA N k c->xA s k c\/(xA f Z c/\¬xA (aAg o f) Z c):=by
 induction o using cH with
 |none =>
  simp only[aAl,cC] at e;subst e;exact⟨a,λ_ z=>.inl z⟩
 |some i =>
  obtain⟨d,p,l,t⟩:=ho i rfl;obtain⟨b,F,g,ob⟩:=r.ow i d p l t;have n:xA f Z b:=⟨i,d,p,l,t,F⟩
  have h:¬xA (f.set i .un) Z b:=r.CN t F;have u:A b≠eA:=(r.owned n).1;simp only[aAl] at e;split at e
  ·rename_i sl O Q;rw[t] at Q;cases Q;cases e;obtain⟨hu1,v⟩:=a.un i O;have R:k[i]?=aA (aA (.ref b)):=v.trans F;have gb:y b=eA:=a.ext.gn b u g h;have of:vF K B y b d:=ob.mono a.ext.gg λo' h'=>a.ext.hh b o' h' h
   have nf:¬xA s k b:=λz=>by
    rcases a.own b z with z | z
    ·exact h z
    ·exact u z
   have rf:BA K (s.set i (.ow d p l)) k B y:=(a.wA.unset i).UL R gb of λz=>nf z.unset
   have m:∀c,xA (s.set i (.ow d p l)) k c->c=b\/xA s k c:=λc z=>by
    rcases z.UL R with z | z
    ·exact .inl z
    ·exact .inr z.unset
   refine⟨⟨rf,a.ext.weaken λc z=>z.unset,λc z=>?_,λj z=>?_,λj Y l' z=>?_,by rw[PF,a.len];exact PF⟩,λc z=>?_⟩
   ·rcases m c z with rfl | z
    ·exact .inl n
    ·rcases a.own c z with z | z
     ·exact .inl z.unset
     ·exact .inr z
   ·rcases EG z with ⟨_,w,_⟩ | ⟨nj,w⟩
    ·cases w
    ·obtain⟨H,I⟩:=a.un j w;have x:(f.set i .un)[j]?=aA .un:=H;rw[ZD (λq=>nj q.symm)] at x;exact⟨x,I⟩
   ·by_cases J:j=i
    ·subst J;rw[t] at z;cases z;refine⟨v,d, ?_⟩;rw[II (lD.mp O).1]
    ·have z':(aAg (aA i) f)[j]?=aA (.ow Y bA l'):=by
      show(f.set i .un)[j]?=_;rw[ZD (λq=>J q.symm)];exact z
     obtain⟨H,d2,I⟩:=a.pin j Y l' z';exact⟨H,d2,by rw[ZD (λq=>J q.symm)];exact I⟩
   ·rcases m c z with rfl | z
    ·exact .inr ⟨n,h⟩
    ·exact .inl z
  ·cases e
def XF.restore{D:Ends}(r:BA K B Z F Q)(ho:∀i,o=aA i->∃d p l,B[i]?=aA (.ow d p l))(e:aAl o B R=aA Y)(k:XF K B Z F Q Y D fl) :
  XF K (aAg o B) Z F Q R D fl:=by
 induction fl using Fl.casesOn with
 |nx=>exact λj u y b=>k j u y (mP r ho e b).1
 |bk=>exact λj u y b=>k j u y (mP r ho e b).1
 |ct=>exact λj u y b=>k j u y (mP r ho e b).1
 |rt v =>
  refine λx j u y b H=>?_
  obtain⟨b1,b2⟩:=mP r ho e b;refine k x j u y b1 ?_
  induction v using RV.casesOn with
  |sh d=>exact H
  |ow d =>
   obtain⟨c,rfl,g,I,n,m⟩:=H;refine⟨c,rfl,g,I,λz=>?_, ?_⟩
   ·rcases b2 c z with z | ⟨J,M⟩
    ·exact n z
    ·rcases m with m | m
     ·exact M m
     ·exact(r.owned J).1 m
   ·rcases m with m | m
    ·exact .inl ((ZS r).2 c m)
    ·exact .inr m
  |od d =>
   obtain⟨c,rfl,g,I,n,m,vs,O,hr⟩:=H
   have key:∀c,¬xA R j c->(xA (aAg o B) Z c\/F c=eA)->¬xA Y j c/\(xA B Z c\/F c=eA):=λc n m=>by
    refine⟨λz=>?_, ?_⟩
    ·rcases b2 c z with z | ⟨J,M⟩
     ·exact n z
     ·rcases m with m | m
      ·exact M m
      ·exact(r.owned J).1 m
    ·rcases m with m | m
     ·exact .inl ((ZS r).2 c m)
     ·exact .inr m
   exact⟨c,rfl,g,I,(key c n m).1,(key c n m).2,vs,O,λx hx=>let ⟨b,ws,h1,h2,h3,h4,h5,h6⟩:=hr x hx;⟨b,ws,h1,h2,h3,(key b h4 h5).1,(key b h4 h5).2,h6⟩⟩
 |ex x=>exact k
def gO(K:jA)(P:XA)(C:Calls)(W:Nat)(one:Bool)(a:List Nat)(b:List S)(c:Env)(d:St)(e f:Hp)(fl:Fl)(g:Env)(h:List D)(i:Nat):St->Hp->Prop:=λZ H =>
 ∃Y G,fC K c d e f Y Z H G/\iD (UA one a) (YA P C W b) (h.drop i) Y=aA (fl,g)
def dw(o:XF K p r s t u A fl)(hd:c[i]?=aA d)
  (h:∃Y G,fC K p r s t Y Z H G/\qA K G d x/\iD (UA one m) (YA P C W n) (c.drop i) Y=aA (fl,u)) :
  gB K one m x Z H λf g=>FG K P C W n { A with nx:=gO K P C W one m n p r s t fl u c (i+1),ct:=gO K P C W one m n p r s t fl u c (i+1),bk:=A.nx } f g:=by
 obtain⟨Y,G,a,F,e⟩:=h;have hl:i<c.length:=(lD.mp hd).1
 have I:c.drop i=d::c.drop (i+1):=by(rw[I0 hl];congr 1;rw[xC hl] at hd;exact pD hd)
 rw[I] at e;simp only[iD] at e
 cases q:UA one m d Y with
 |none=>rw[q] at e;cases e
 |some w =>
  rw[q] at e;simp only at e;refine⟨Y,G,d,w,a.wA,F,q,λJ B=>?_⟩;have b:=a.trans B
  cases q2:YA P C W n w with
  |none=>rw[q2] at e;cases e
  |some y =>
   obtain⟨j,z⟩:=y;rw[q2] at e;refine⟨w,G,j,z,B.wA,q2, ?_⟩
   induction j using Fl.casesOn with
   |nx=>exact λf g k l=>⟨z,k,b.trans l,e⟩
   |ct=>exact λf g k l=>⟨z,k,b.trans l,e⟩
   |bk=>cases e;exact λf g k l=>o f g k (b.trans l)
   |rt v=>cases e;exact o.pre b
   |ex x=>cases e;exact o
def OM{lo:Int}:(ND lo a).length=a.length:=by unfold ND;simp
def eW{lo:Int}{i:Nat}(h:ds[i]?=aA d):(ND lo ds)[i]?=aA (.t [.int (lo+(i:Int)),d]):=by
 have hl:i<ds.length:=(lD.mp h).1;unfold ND;rw[dD,OJ hl,JD,ZG,h];rfl
def Pm(a:G p=eA)(h:qA K G d y):qA K (EA G p (.t [.int i,y])) (.t [.int i,d]) (.ref p):=by
 simp only[qA];exact⟨p,_,rfl,pC.of GC,uA.cons (by simp[qA]) (uA.cons (qA.mono (Sm.laid a) d h) uA.nil)⟩
def cw(b:XF K c d f g i j fl)(h:gO K P C W one l m c d f g fl i k k.length Z H):j.nx Z H:=by
 obtain⟨Y,G,a,e⟩:=h;rw[Qf] at e;simp only[iD,cC,SE] at e;obtain⟨rfl,rfl⟩:=e;exact b Z H G a
def Src(K:jA)(Y:Env)(Z:St)(H G:Hp)(a:lA)(b:List V):Prop:=qB K G a b\/(H a=aA (.l b)/\G a=eA/\¬xA Y Z a)
def F3(K:jA)(j:Env)(k:St)(l m:Hp)(b:List D)(J:It):Prop:=∀i a c e f,fC K j k l m c e a f->(i=b.length->J.stop i a)/\(i<b.length->J.go i a)/\∀d x g,b[i]?=aA d->J.pT i a x g->∃h,FA K c e a f c g h/\qA K h d x
def bL(K:jA)(Y:Env)(Z:St)(e f:Hp)(g:List D)(J:It):Prop:=∀{a:Env} {b:St} {d:Hp},VA f d->(∀c,xA a b c->xA Y Z c)->F3 K a b e d g J
section
variable{Y Y0 Yc:Env}{Z Z0 Z':St}{H1 G1 G2 H' Gc:Hp}{ds:List D}{a:lA}{vs:List V}
def Src.at(h:Src K Y Z H1 G1 a vs)(j:VA G1 G2)(own:∀c,xA Y0 Z0 c->xA Y Z c)(k:fC K Y0 Z0 H1 G2 Yc Z' H' Gc):qB K H' a vs:=by
 rcases h with h | ⟨h1,h2,m⟩
 ·exact k.wA.sub.seq (k.ext.gg.seq (j.seq h))
 ·exact qB.of (k.ext.hh a _ h1 λz=>m (own a z))
def oT(c:Src K Y Z H1 G1 a vs)(f:uA K G1 ds vs):bL K Y Z H1 G1 ds (vU K a):=by
 intro Y0 Z0 G2 e own i H' Yc Z' Gc g;have b:=c.at e own g;refine⟨λk=>⟨vs,b,by rw[f.len];lia⟩,λk=>?_,λd x n hd h=>?_⟩
 ·obtain⟨l,j,m⟩:=f.get (xC k);exact⟨vs,l,b,j⟩
 ·obtain⟨rfl,h⟩:=h;obtain⟨l,j,m⟩:=f.get hd
  have:=h vs b
  rw[j] at this;cases this;exact⟨_,FA.refl g.wA,qA.mono g.ext.gg d (qA.mono e d m)⟩
def oe(m:pC K G1 a vs)(f:uA K G1 ds vs):bL K Y Z H1 G1 ds (xU K a):=by
 intro Y0 Z0 G2 c own i H' Yc Z' Gc e;have b:pC K H' a vs:=vJ e.wA.sub (vJ e.ext.gg (vJ c m));refine⟨λj=>⟨vs,b,by rw[f.len];lia⟩,λj=>?_,λd x n hd g=>?_⟩
 ·obtain⟨k,h,l⟩:=f.get (xC j);exact⟨vs,k,b,h⟩
 ·obtain⟨rfl,g⟩:=g;obtain⟨k,h,l⟩:=f.get hd
  have:=g vs b
  rw[h] at this;cases this;exact⟨_,FA.refl e.wA,qA.mono e.ext.gg d (qA.mono c d l)⟩
def me{lo:Int}:bL K Y Z H1 G1 ((EB n).map λ(j:Nat)=>D.int (lo+(j:Int))) (fO lo n):=by
 intro Y0 Z0 G2 c own i H' Yc Z' Gc e;rw[pA,LH];refine⟨λb=>by show n<=i;lia,λb=>b,λd x h hd f=>?_⟩;obtain⟨rfl,rfl⟩:=f;rw[dD] at hd;obtain⟨j,g,rfl⟩:=NJ.mp hd;obtain⟨hl,rfl⟩:=lD.mp g;exact⟨_,FA.refl e.wA,by simp[qA]⟩
def nT{lo:Int}(e:Src K Y Z H1 G1 a vs)(h:uA K G1 ds vs):bL K Y Z H1 G1 (ND lo ds) (uU K a lo):=by
 intro Y0 Z0 G2 f own i H' Yc Z' Gc g;have b:=e.at f own g;rw[OM];refine⟨λk=>⟨vs,b,by rw[h.len];lia⟩,λk=>?_,λd x o hd c=>?_⟩
 ·obtain⟨l,j,m⟩:=h.get (xC k);exact⟨vs,l,b,j⟩
 ·obtain⟨p,q,n,rfl,rfl,c⟩:=c;have hl:i<ds.length:=by rw[<- OM];exact(lD.mp hd).1
  obtain⟨l,j,m⟩:=h.get (xC hl);have c:=c vs b;rw[j] at c;cases c;rw[eW (xC hl)] at hd;cases hd;exact⟨_,(FA.refl g.wA).HL n,Pm (VA.free g.wA.sub n) (qA.mono g.ext.gg _ (qA.mono f _ m))⟩
def nHa(b:gC x=bA):bL K Y Z H1 G1 (tK x) (wU x):=by
 intro Y0 Z0 G2 g own i H' Yc Z' Gc h;rw[show(tK x).length=x.cps.size by simp[tK]];refine⟨λf=>by show x.cps.size<=i;lia,λf=>f,λd v k hd j=>?_⟩;obtain⟨rfl,c,e,rfl⟩:=j;unfold tK at hd;rw[dD,bf,e] at hd;cases hd;refine⟨_,FA.refl h.wA, ?_⟩;simp only[qA];refine⟨trivial, ?_⟩;unfold gC at b ⊢
 have:=Hf.mp b i (Ee.mp e).1
 rw[(Ee.mp e).2] at this;simpa using this
end
def OH(K:jA)(P:XA)(C:Calls)(h:ZF)(b:List E)(Z:St)(H:Hp)(R:It->Hp->Prop):Prop:=∃(Y:Env) (G:Hp) (e:List Hd) (a:Env) (f:List D) (o:Option Nat),BA K Y Z H G/\kC P C b Y=some (.ok e,a)/\aAc h e a=aA (f,o) /\
 ∀c g,FA K Y Z H G a c g->(∀i,o=aA i->∃d p l,a[i]?=aA (.ow d p l))->∀J,bL K (aAg o a) Z c g f J->R J c
abbrev uM(K:jA)(P:XA)(C:Calls)(b:ZF)(a:List E)(Z:St)(H:Hp)(R:It->Hp->Prop):Prop:=OH K P C b a Z H R
def nb{b:TI}(n:c≠.of)(h:∀Z H (R:It->Hp->Prop),OH K P C c a Z H R->b Z H R)(Z:St)(H:Hp)(R:It->Hp->Prop)(q:uM K P C c a Z H R):b Z H R:=h Z H R q
def Kp(po:qM (model X.prog X.w) X.A X.env X.xe)(xo:OA X K P C U)(hg:PG X F (gB K one is))(hb:bD X body (FG K P C W g))
  (j:∀x,LI I X.env x=pure x) (M:PI X F I wi)
  (hw:∀Z H (R:It->Hp->Prop),OH K P C N p Z H R->wi Z H R) :
  PS X (.For F I body [] pos) (tS K P C W (.for is one N p g)):=by
 refine TS.fG (S' po xo.calm M hg hb j) λD Z H hz=>?_
 obtain⟨Y,G,fl,Y',r,e,k⟩:=hz;obtain⟨j,f,e1,a⟩:=hI e k.ne
 cases q:aAc N j f with
 |none=>rw[q] at a;cases a
 |some y =>
  obtain⟨c,o⟩:=y;rw[q] at a;simp only at a
  cases q2:iD (UA one is) (YA P C W g) c (aAg o f) with
  |none=>rw[q2] at a;cases a
  |some y =>
   obtain⟨fl1,l⟩:=y;rw[q2] at a;simp only[Run.restore] at a
   cases q3:aAl o f l with
   |none=>rw[q3] at a;cases a
   |some t =>
    rw[q3] at a;cases a;refine hw Z H _ ⟨Y,G,j,f,c,o,r,e1,q,λu n v ho J wj=>?_⟩;have O:XF K (aAg o f) Z u n l D fl:=XF.restore v.wA ho q3 (k.pre (FA.s r v));refine⟨λi m z B=>m=c.length-i/\i<=c.length/\gO K P C W one is g (aAg o f) Z u n fl l c i z B,⟨_,rfl,FI _,aAg o f,n,fC.refl (ZS v.wA).1,q2⟩, ?_⟩
    rintro i m z B ⟨rfl,M,Q⟩
    obtain⟨t,G2,b,a⟩:=id Q;obtain⟨j1,j2,j3⟩:=wj (VA.refl _) (λ_ h=>h) i B t z G2 b;by_cases d:i<c.length
    ·refine .inr ⟨j2 d,gO K P C W one is g (aAg o f) Z u n fl l c (i+1),λZ' H' p'=>⟨c.length-(i+1),by lia,rfl,d,p'⟩,λx H' y=>?_⟩;obtain⟨Gd,af,rp⟩:=j3 _ x H' (xC d) y;exact dw O (xC d) ⟨t,Gd,b.trans (FA.s b.wA af),rp,a⟩
    ·obtain rfl:i=c.length:=by lia
     exact .inl ⟨j1 rfl,cw O Q⟩
end
end CI
namespace CI
set_option tactic.hygienic true
open PySem PySem.Spec PyProof.Rows L2
section
variable{X:Cx}{K:jA}
def PI.or(h:PI X tg it w)(j:PI X tg it k):PI X tg it (λZ H R=>w Z H R\/k Z H R):=λdA s Z H R I q=>by
 rcases q with q | q
 ·exact h dA s Z H R I q
 ·exact j dA s Z H R I q
def gR(e:kC P C [c] Y=some (.ok b,d)):∃h,b=[h]/\hd c (ev P C cA c Y) Y=some (.ok h,d):=by
 rw[kC] at e;obtain⟨h,g,f,a⟩:=fB e;rw[kC] at a;simp only[yA.bind] at a;cases a;exact⟨h,rfl,f⟩
def u9(hK:X.K=K)(Z:St)(H:Hp)(R:It->Hp->Prop)(q:OH K P C .of [c] Z H R) :
  LX X.K (tH K P C c) Z H R\/MX X.K (tH K P C c) Z H R:=by
 obtain⟨Y,G,hs,J,U,o,r,e,s,k⟩:=q;obtain⟨h,rfl,M⟩:=gR e;rw[hK]
 induction h using Hd.casesOn with
 |slot i =>
  (unfold aAc at s;dsimp only at s)
  split at s
  ·rename_i A p l F;cases s;refine .inl ⟨Y,G,.slot i,J,r,M,λx y t f a=>?_⟩;have a:Z[i]?=aA (aA x):=a;obtain⟨b,B,g,u,N,Q⟩:=f.wA.ow i _ _ _ F;rw[a] at B;cases B;exact⟨b,rfl,⟨u,qB.of N⟩,k y t f (λj z=>by cases z;exact⟨_,_,_,F⟩) _ (oT (.inr ⟨N,g,f.wA.CN F a⟩) Q)⟩
  ·rename_i A F;cases s;refine .inl ⟨Y,G,.slot i,J,r,M,λx y t f a=>?_⟩;have a:Z[i]?=aA (aA x):=a;obtain⟨v,B,O⟩:=f.wA.sh i _ F;rw[a] at B;cases B;simp only[qA] at O;obtain⟨b,u,rfl,w,I⟩:=O;exact⟨b,rfl,⟨u,f.wA.sub.seq w⟩,k y t f (λj z=>by cases z) _ (oT (.inl w) I)⟩
  ·rename_i A F;cases s;refine .inr ⟨Y,G,.slot i,J,r,M,λx y t f a=>?_⟩;have a:Z[i]?=aA (aA x):=a;obtain⟨v,B,O⟩:=f.wA.sh i _ F;rw[a] at B;cases B;simp only[qA] at O;obtain⟨b,u,rfl,w,I⟩:=O;exact⟨b,rfl,⟨u,vJ f.wA.sub w⟩,k y t f (λj z=>by cases z) _ (oe w I)⟩
  ·cases s
 |val v =>
  (unfold aAc at s;dsimp only at s)
  split at s
  ·rename_i A hd;cases s;refine .inl ⟨Y,G,.val v,J,r,M,λx y t f a=>?_⟩
   induction v using RV.casesOn with
   |sh d =>
    simp only[RV.d] at hd;subst hd;have a:qA K t (.l U) x:=a;simp only[qA] at a;obtain⟨b,u,rfl,w,I⟩:=a;exact⟨b,rfl,⟨u,f.wA.sub.seq w⟩,k y t f (λj z=>by cases z) _ (oT (.inl w) I)⟩
   |ow d =>
    simp only[RV.d] at hd;subst hd;obtain⟨b,rfl,g,⟨u,N,Q⟩,n,m⟩:=a;exact⟨b,rfl,⟨u,qB.of N⟩,k y t f (λj z=>by cases z) _ (oT (.inr ⟨N,g,n⟩) Q)⟩
   |od d=>exact a.elim
  ·rename_i A hd;cases s;refine .inr ⟨Y,G,.val v,J,r,M,λx y t f a=>?_⟩
   induction v using RV.casesOn with
   |sh d =>
    simp only[RV.d] at hd;subst hd;have a:qA K t (.t U) x:=a;simp only[qA] at a;obtain⟨b,u,rfl,w,I⟩:=a;exact⟨b,rfl,⟨u,vJ f.wA.sub w⟩,k y t f (λj z=>by cases z) _ (oe w I)⟩
   |ow d =>
    simp only[RV.d] at hd;subst hd;obtain⟨b,rfl,g,o,n,m⟩:=a;exact o.elim
   |od d=>exact a.elim
  ·cases s
def Hx(a:X.K=K)(Z:St)(H:Hp)(R:It->Hp->Prop)(q:uM K P C .of [c] Z H R):LX X.K (tH K P C c) Z H R\/MX X.K (tH K P C c) Z H R:=u9 a Z H R q
def Va(Z:St)(H:Hp)(R:It->Hp->Prop)(q:OH K P C .BB [c] Z H R) :
  U6 (mG K P C [c]) Z H R:=by
 obtain⟨Y,G,d,f,u,o,r,e,a,k⟩:=q;refine⟨Y,G,d,f,r,e,λv g i b l=>?_⟩;obtain⟨h,rfl,w⟩:=gR e;obtain⟨x,m,rfl,p,s,_⟩:=l;cases (show m=[] from s)
 (unfold aAc at a;dsimp only at a)
 split at a
 ·rename_i n t;split at a
  ·rename_i y;cases a;cases (p.read b.wA t).int;refine⟨n,rfl,by lia,by lia,k g i b (λj z=>by cases z) _ ?_⟩;rw[show(λ(j:Nat)=>D.int (j:Int))=λ(j:Nat)=>D.int (0+(j:Int)) from funext λj=>by rw[S2]];exact me
  ·cases a
 ·cases a
def Wa(Z:St)(H:Hp)(R:It->Hp->Prop)(q:OH K P C .BB [c,f] Z H R) :
  V6 (mG K P C [c,f]) Z H R:=by
 obtain⟨Y,G,g,i,N,o,r,e,a,k⟩:=q;refine⟨Y,G,g,i,r,e,λO l p b s=>?_⟩;rw[kC] at e;obtain⟨h,Q,U,t⟩:=fB e;obtain⟨u,Y3,v,w⟩:=fB t;obtain⟨h',rfl,e5⟩:=gR v;cases w;obtain⟨x,r',rfl,A,B,_⟩:=s;obtain⟨y,d,rfl,F,I,_⟩:=B;cases (show d=[] from I)
 (unfold aAc at a;dsimp only at a)
 split at a
 ·rename_i m n J M;split at a
  ·rename_i hb;cases a;cases (A.read b.wA J).int;cases (F.read b.wA M).int;exact⟨m,n,rfl,by omega,k l p b (λj z=>by cases z) _ me⟩
  ·cases a
 ·cases a
def fW(Q:X.K=K){lo:Int}(Z:St)(H:Hp)(R:It->Hp->Prop)(q:OH K P C (.enum lo) [c] Z H R) :
  JX X.K lo (mG K P C [c]) Z H R:=by
 obtain⟨Y,G,U,Y1,ds,o,r,e,a,k⟩:=q;rw[Q];refine⟨Y,G,U,Y1,r,e,λxs I w s M=>?_⟩;obtain⟨h,rfl,e1⟩:=gR e;obtain⟨x,r',rfl,f,J,_⟩:=M;cases (show r'=[] from J)
 induction h using Hd.casesOn with
 |slot i =>
  (unfold aAc at a;dsimp only at a)
  have f:Z[i]?=aA (aA x):=f;split at a
  ·rename_i t p l y;cases a;obtain⟨b,A,g,u,B,N⟩:=s.wA.ow i _ _ _ y;rw[f] at A;cases A;exact⟨b,rfl,⟨u,qB.of B⟩,k I w s (λj z=>by cases z;exact⟨_,_,_,y⟩) _ (nT (.inr ⟨B,g,s.wA.CN y f⟩) N)⟩
  ·rename_i t y;cases a;obtain⟨v,A,J⟩:=s.wA.sh i _ y;rw[f] at A;cases A;simp only[qA] at J;obtain⟨b,u,rfl,F,O⟩:=J;exact⟨b,rfl,⟨u,s.wA.sub.seq F⟩,k I w s (λj z=>by cases z) _ (nT (.inl F) O)⟩
  ·cases a
 |val v =>
  (unfold aAc at a;dsimp only at a)
  split at a
  ·rename_i t hd;cases a
   induction v using RV.casesOn with
   |sh d =>
    simp only[RV.d] at hd;subst hd;have f:qA K w (.l t) x:=f;simp only[qA] at f;obtain⟨b,u,rfl,F,O⟩:=f;exact⟨b,rfl,⟨u,s.wA.sub.seq F⟩,k I w s (λj z=>by cases z) _ (nT (.inl F) O)⟩
   |ow d =>
    simp only[RV.d] at hd;subst hd;obtain⟨b,rfl,g,⟨u,B,N⟩,n,m⟩:=f;exact⟨b,rfl,⟨u,qB.of B⟩,k I w s (λj z=>by cases z) _ (nT (.inr ⟨B,g,n⟩) N)⟩
   |od d=>exact f.elim
  ·cases a
def zX(h:vS e=bA)(env:JJ):∀x,LI e env x=pure x:=λx=>by
 induction e using qD<;>first | rfl | cases h
def Sd(b:OA X K P C U)(a:dH X U)(h:BH U c=aA (one,is)):PG X c (gB K one is):=by
 cases c<;>simp only[BH,reduceCtorEq] at h
 ·rename_i x pos
  cases q:U.lG x with
  |none=>rw[q] at h;cases h
  |some i=>rw[q] at h;cases h;exact D_ (AZ b a q)
 ·rename_i d k pos
  cases q:bM U d with
  |none=>rw[q] at h;cases h
  |some e =>
   rw[q] at h;cases h;obtain⟨f,g,j,l⟩:=Qd b a q;exact W9 b f g j
end
end CI
namespace CI
set_option tactic.hygienic true
open PySem PySem.Spec PyProof.Rows L2
section
variable{K:jA}{Z Z':St}{H G H' G':Hp}
def eP(h:(as++CB n Sl.un)[i]?=aA s):(as[i]?=aA s)\/(as.length<=i/\s=.un):=by
 by_cases hl:i<as.length
 ·rw[FN hl] at h;exact .inl h
 ·rw[rM (by lia),K0] at h;split at h
  ·cases h;exact .inr ⟨by lia,rfl⟩
  ·cases h
def FZ(h:i<a.length):(L2.start N a)[i]?=(a.map aA)[i]?:=by
 unfold L2.start;rw[FN (by rw[pA];exact h)]
def BA.pad(r:BA K as (k.map aA) H G)(x:N.length=as.length+n):BA K (as++CB n .un) (L2.start N k) H G/\∀a,xA (as++CB n .un) (L2.start N k) a->xA as (k.map aA) a:=by
 have hl:as.length=k.length:=by have:=r.len;rwa[pA] at this
 have st:∀i:Nat,i<as.length->(L2.start N k)[i]?=(k.map aA)[i]?:=λi h=>FZ (by lia)
 have lt:∀{i:Nat} {s:Sl},as[i]?=aA s->i<as.length:=λh=>(lD.mp h).1
 refine⟨⟨by unfold L2.start;simp;lia,r.sub,λi d h=>?_,λi d p l h=>?_,λi j d p l y z B a h1 h2 m u=>?_⟩,λa ⟨i,d,p,l,h1,h2⟩=>?_⟩
 ·rcases eP h with h | ⟨_,h⟩
  ·rw[st i (lt h)];exact r.sh i d h
  ·cases h
 ·rcases eP h with h | ⟨_,h⟩
  ·rw[st i (lt h)];exact r.ow i d p l h
  ·cases h
 ·rcases eP h1 with h1 | ⟨_,h1⟩
  ·rcases eP h2 with h2 | ⟨_,h2⟩
   ·rw[st i (lt h1)] at m;rw[st j (lt h2)] at u;exact r.inj _ _ _ _ _ _ _ _ _ h1 h2 m u
   ·cases h2
  ·cases h1
 ·rcases eP h1 with h1 | ⟨_,h1⟩
  ·rw[st i (lt h1)] at h2;exact⟨i,d,p,l,h1,h2⟩
  ·cases h1
theorem nO:∀{as:List Sl} {Y:Env} (i:Nat),as.length<=Y.length->(back as Y)[i]?=(as[i]?).bind λa=>match a with | .ow _ _ _=>Y[i]? | a=>aA a
 |[],Y,i,_=>by cases Y<;>rfl
 |a::as,[],i,h=>by simp at h
 |a::as,b::Y,i,h=>by
  have c:=λj=>nO (as:=as) (Y:=Y) j (by simpa using h)
  cases i with
  |zero=>cases a<;>rfl
  |succ i=>cases a<;>exact c i
def QU(r:BA K as (t.map aA) H G)(F:as.all sJ=bA)(I:N.length=as.length+n)
  (a:fC K (as++CB n .un) (L2.start N t) H G m Z' H' G'):FA K as (t.map aA) H G (back as m) H' G'/\∀c,xA (back as m) (t.map aA) c->xA m Z' c:=by
 have hl:as.length=t.length:=by have:=r.len;rwa[pA] at this
 have lt:∀{i:Nat} {s:Sl},as[i]?=aA s->i<as.length:=λh=>(lD.mp h).1
 have st:∀i:Nat,i<as.length->(L2.start N t)[i]?=(t.map aA)[i]?:=λi h=>FZ (by lia)
 have k:as.length<=m.length:=by rw[a.len,PB];lia
 have A:∀{i:Nat} {s:Sl},as[i]?=aA s->(as++CB n .un)[i]?=aA s:=λh=>by rw[FN (lt h)];exact h
 have pin:∀(i:Nat) d p l,as[i]?=aA (.ow d p l)->p=bA/\Z'[i]?=(t.map aA)[i]?/\∃o,m[i]?=aA (.ow o bA l):=λi d p l h=>by(have f:=sF.mp F _ (aH h);simp only[sJ] at f;subst f;obtain⟨g,o,u⟩:=a.pin i d l (A h);exact⟨rfl,g.trans (st i (lt h)),o,u⟩)
 have q:∀{i:Nat} {s:Sl},(back as m)[i]?=aA s->(∃d o l,as[i]?=aA (.ow d bA l)/\s=.ow o bA l/\m[i]?=aA s/\Z'[i]?=(t.map aA)[i]?)\/(as[i]?=aA s/\∀d p l,s≠.ow d p l):=λ{i s} h=>by
  rw[nO i k] at h
  cases e:as[i]? with
  |none=>rw[e] at h;cases h
  |some b =>
   rw[e] at h
   cases b with
   |ow d p l =>
    obtain⟨rfl,f,o,g⟩:=pin i d p l e;simp only[tF] at h;rw[g] at h;cases h;exact .inl ⟨d,o,l,rfl,rfl,g,f⟩
   |un=>cases h;exact .inr ⟨rfl,λd p l z=>nomatch z⟩
   |mv=>cases h;exact .inr ⟨rfl,λd p l z=>nomatch z⟩
   |sh d=>cases h;exact .inr ⟨rfl,λd p l z=>nomatch z⟩
 have x:(back as m).length=as.length:=by
  apply Nat.le_antisymm
  ·refine N1 λz=>?_
   have:=nO (Y:=m) as.length k
   rw[xC z,SK (oB _)] at this;cases this
  ·refine N1 λz=>?_
   have f:=nO (Y:=m) (back as m).length k;rw[SK (oB _),xC z] at f
   cases e:as[(back as m).length] with
   |ow d p l =>
    have J:as[(back as m).length]?=aA (.ow d p l):=by rw[xC z,e]
    obtain⟨_,_,o,g⟩:=pin _ d p l J;rw[e] at f;simp only[tF] at f;rw[g] at f;cases f
   |un=>rw[e] at f;cases f
   |mv=>rw[e] at f;cases f
   |sh d=>rw[e] at f;cases f
 refine⟨⟨⟨by rw[x];exact r.len,a.wA.sub,λi d h=>?_,λi d p l h=>?_,λi j d p l o Q M c f g u y=>?_⟩,a.ext.weaken λc z=>(r.pad I).2 c z,λi=>?_⟩,λc ⟨i,d,p,l,f,g⟩=>?_⟩
 ·rcases q h with ⟨_,_,_,_,z,_,_⟩ | ⟨z,_⟩
  ·cases z
  ·obtain⟨v,f,g⟩:=r.sh i d z;exact⟨v,f,qA.mono a.ext.gg d g⟩
 ·rcases q h with ⟨R,o,M,f,g,u,y⟩ | ⟨_,z⟩
  ·rw[<- y];exact a.wA.ow i d p l u
  ·exact absurd rfl (z d p l)
 ·rcases q f with ⟨_,_,_,_,_,B,C⟩ | ⟨_,z⟩
  ·rcases q g with ⟨_,_,_,_,_,O,P⟩ | ⟨_,w⟩
   ·rw[<- C] at u;rw[<- P] at y;exact a.wA.inj _ _ _ _ _ _ _ _ _ B O u y
   ·exact absurd rfl (w _ _ _)
  ·exact absurd rfl (z _ _ _)
 ·rw[nO i k]
  cases e:as[i]? with
  |none=>trivial
  |some b =>
   cases b with
   |ow d p l =>
    obtain⟨rfl,_,o,g⟩:=pin i d p l e;simp only[tF];rw[g];exact⟨rfl,rfl⟩
   |un=>trivial
   |mv=>trivial
   |sh d=>trivial
 ·rcases q f with ⟨_,_,_,_,_,B,C⟩ | ⟨_,z⟩
  ·rw[<- C] at g;exact⟨i,d,p,l,B,g⟩
  ·exact absurd rfl (z _ _ _)
end
end CI
namespace L2
set_option tactic.hygienic true
open PySem PySem.Spec PyProof.Rows
theorem aAo[BEq O][LawfulBEq O]:∀{l:List (O×N)} {x:O} {k:N},l.lookup x=aA k->(x,k)∈l
 |[],x,k,h=>by simp at h
 | (y,a)::r,x,k,h=>by
  rw[pE] at h;split at h
  ·rename_i e;have e:=dC e;subst e;cases h;exact AD
  ·exact XC _ (aAo h)
def Kl(h:∀p∈b.names,p.2=.free->∃c,env.cells.lookup p.1=aA c) :
  ∃cl,closureFor b env=pure cl/\(∀x c,cl.lookup x=aA c->env.cells.lookup x=aA c)/\∀p∈b.names,p.2=.free->∃c,cl.lookup p.1=aA c:=by
 have key:∀(names:List (fA×GH)) (d:List (fA×lA)),(∀p∈names,p.2=.free->∃c,env.cells.lookup p.1=aA c)->(∀x c,d.lookup x=aA c->env.cells.lookup x=aA c) ->
   ∃cl,(forIn names d λ(p:fA×GH) (u:List (fA×lA))=>(if(p.2==NameKind.free)=bA then do let a <- cellOf env p.1;pure (ForInStep.yield ((p.1,a)::u)) else pure (ForInStep.yield u):Sem _))=pure cl /\
    (∀x c,cl.lookup x=aA c->env.cells.lookup x=aA c)/\(∀p∈names,p.2=.free->∃c,cl.lookup p.1=aA c)/\∀x c,d.lookup x=aA c->∃i,cl.lookup x=aA i:=by
  intro names
  induction names with
  |nil=>intro d _ n;exact⟨d,by simp,n,λp g=>(nomatch g),λx c e=>⟨c,e⟩⟩
  |cons p r v =>
   intro d s n;by_cases g:p.2=.free
   ·obtain⟨c,y⟩:=s p AD g;have e:cellOf env p.1=pure c:=by unfold cellOf;rw[y]
    obtain⟨cl,j,k,l,m⟩:=v ((p.1,c)::d) (λq f=>s q (XC _ f)) (λx i z=>by
     rw[pE] at z;split at z
     ·rename_i w;rw[dC w,y];exact z
     ·exact n x i z)
    refine⟨cl, ?_,k,λq f o=>?_,λx i z=>?_⟩
    ·rw[dg];have t:(p.2==NameKind.free)=bA:=by rw[g];rfl
     rw[QA t,e];simp only[pure_bind];exact j
    ·rcases mD.mp f with w | w
     ·subst w;exact m q.1 c (by rw[pE];simp)
     ·exact l q w o
    ·by_cases w:x=p.1
     ·subst w;exact m p.1 c (by rw[pE];simp)
     ·refine m x i ?_;rw[pE]
      have:(x==p.1)=cA:=CK.mpr w
      rw[this];exact z
   ·obtain⟨cl,j,k,l,m⟩:=v d (λq f=>s q (XC _ f)) n;refine⟨cl, ?_,k,λq f o=>?_,m⟩
    ·rw[dg];have t:¬(p.2==NameKind.free)=bA:=by simpa using g
     rw[pB t];simp only[pure_bind];exact j
    ·rcases mD.mp f with w | w
     ·subst w;exact absurd o g
     ·exact l q w o
 obtain⟨cl,j,k,l,_⟩:=key b.names [] h (λx c e=>by simp at e);refine⟨cl, ?_,k,l⟩;unfold closureFor
 have:(forIn b.names ([]:List (fA×lA)) λ(x:fA×GH) (r:List (fA×lA))=>(match x with | (name,kind)=>if(kind==NameKind.free)=bA then do let a <- cellOf env name;pure (ForInStep.yield ((name,a)::r)) else pure (ForInStep.yield r):Sem _))=pure cl:=j
 simp only[this,pure_bind,bind_pure]
 first | rfl | (rw[this];rfl) | skip
theorem eZ{env:JJ}:∀{names:List (fA×GH)} {x:fA} {b:GH},
  (names.map λ(n,k)=>if(k==NameKind.free&&env.scope.kind==.function&&env.kindOf n==aA .cell) then(n,NameKind.cell) else(n,k)).lookup x=aA b->∃k,names.lookup x=aA k/\(b=k\/(k=.free/\b=.cell))
 |[],x,b,h=>by simp at h
 | (n,k)::r,x,b,h=>by
  have d:=@eZ env r x b;have a:YG x ((if(k==NameKind.free&&env.scope.kind==.function&&env.kindOf n==aA .cell)=bA then(n,NameKind.cell) else(n,k))::(r.map λ(n,k)=>if(k==NameKind.free&&env.scope.kind==.function&&env.kindOf n==aA .cell) then(n,NameKind.cell) else(n,k)))=aA b:=h;by_cases c:(k==NameKind.free&&env.scope.kind==.function&&env.kindOf n==aA .cell)=bA
  ·rw[QA c] at a;rw[pE] at a ⊢
   cases hx:x==n with
   |true=>rw[hx] at a;cases a;simp only[IA,beq_iff_eq] at c;exact⟨k,rfl,.inr ⟨c.1.1,rfl⟩⟩
   |false=>rw[hx] at a;exact d a
  ·rw[pB c] at a;rw[pE] at a ⊢
   cases hx:x==n with
   |true=>rw[hx] at a;cases a;exact⟨k,rfl,.inl rfl⟩
   |false=>rw[hx] at a;exact d a
theorem Ra{env:JJ}:∀{names:List (fA×GH)} {x:fA},names.lookup x=aA .free ->
  (names.map λ(n,k)=>if(k==NameKind.free&&env.scope.kind==.function&&env.kindOf n==aA .cell) then(n,NameKind.cell) else(n,k)).lookup x=aA .cell \/
  (names.map λ(n,k)=>if(k==NameKind.free&&env.scope.kind==.function&&env.kindOf n==aA .cell) then(n,NameKind.cell) else(n,k)).lookup x=aA .free
 |[],x,h=>by simp at h
 | (n,k)::r,x,h=>by
  have a:=@Ra env r x;show YG x ((if(k==NameKind.free&&env.scope.kind==.function&&env.kindOf n==aA .cell)=bA then(n,NameKind.cell) else(n,k))::_)=_\/YG x ((if(k==NameKind.free&&env.scope.kind==.function&&env.kindOf n==aA .cell)=bA then(n,NameKind.cell) else(n,k))::_)=_;rw[pE] at h;by_cases b:(k==NameKind.free&&env.scope.kind==.function&&env.kindOf n==aA .cell)=bA
  ·rw[QA b,pE]
   cases hx:x==n with
   |true=>exact .inl rfl
   |false=>rw[hx] at h;exact a h
  ·rw[pB b,pE]
   cases hx:x==n with
   |true=>rw[hx] at h;exact .inr h
   |false=>rw[hx] at h;exact a h
theorem Ol(I:Nat->HA->Prop)
  (aAJ:∀n s,I n s->JA (model prog w) A (pyNext f) (λr d=>match r with
   |none=>R (.ok .next) d
   |some v=>JA (model prog w) A (letOwnedTupleGo target f v) (λ_ d=>JA (model prog w) A (assign target env v) (λ_ j =>
     JA (model prog w) A (forIn vA bA λc r=>if r=bA then do let ok <- isTrue c env (eval c env);pure (ForInStep.yield ok) else pure (ForInStep.yield r)) (λok g =>
      if ok=bA then JA (model prog w) A (eval DB env) (λx k =>
       JA (model prog w) A (call (.builtin "list.append") [eL,x]) (λ_ l=>∃m,m<n/\I m l) (notedBy (model prog w) A env λe a=>R (.error e) a) k) (notedBy (model prog w) A env λe a=>R (.error e) a) g
      else ∃m,m<n/\I m g) (notedBy (model prog w) A env λe a=>R (.error e) a) j) (notedBy (model prog w) A env λe a=>R (.error e) a) d) (notedBy (model prog w) A env λe a=>R (.error e) a) d) (notedBy (model prog w) A env λe a=>R (.error e) a) s)
  (n:Nat) (h:I n s):NK (model prog w) A (.compLoop (.ListComp DB [⟨target,iter,vA,0⟩] scope pos) 0 f eL env) R s:=by
 refine codeAny_loop rfl I (λn s q=>?_) n h;show JA _ A ((compTurn (.ListComp DB [⟨target,iter,vA,0⟩] scope pos) 0 f eL env).onRaise (λx=>do noteFrame x env;theTreesLotGoes x)) _ _ s;refine wpAny_noted ?_;rw[compTurn_list];refine WA (ZT (WA (FH (aAJ n s q) (λr d o=>?_) λ_ _ b=>b)))
 cases r with
 |none=>exact YB o
 |some v =>
  refine WA (FH o (λ_ t i=>?_) λ_ _ b=>b);refine WA (FH i (λ_ j u=>WA (FH u (λok g p=>?_) λ_ _ b=>b)) λ_ _ b=>b)
  cases ok with
  |false=>exact YB ⟨rfl,p⟩
  |true =>
   exact WA (WA (FH p (λx k y=>WA (FH y (λ_ l z=>YB (YB ⟨rfl,z⟩)) λ_ _ b=>b)) λ_ _ b=>b))
end L2
namespace L2
set_option tactic.hygienic true
open PySem PySem.Spec PyProof.Rows
def KQ(X:Cx)(a:rF)(cl:List (fA×lA))(C:lA)(b:List fA)(c:HA)(d:Hp)(e:List lA)(xe:gA->HA->Prop):Cx :=
 { X with N:=b,s₀:=c,H₀:=d,env:=compEnvC a cl C X.env,outer:=X.stack,stack:=X.stack,ex:=e,fn:=λ_=>cA,pn:=[],xe:=xe }
def UE(X:Cx)(a:rF)(b:List fA)(c:Cx):Prop:=∃cl C d e f xe,c=KQ X a cl C b d e f xe
section
variable{s:HA}
def dFa{i:Nat}(h:(start N a)[i]?=aA (aA v)):a[i]?=aA v:=by
 unfold start at h;by_cases hl:i<a.length
 ·rw[FN (by rw[pA];exact hl),dD,xC hl] at h;rw[xC hl];simpa using h
 ·rw[rM (by rw[pA];lia),K0] at h;split at h
  ·cases h
  ·cases h
def kA.block(I:kA X dA Z H s)
  (F:B.kind=.function) (J:∀y∈B.names,y.2≠.cell) (sub:∀x c,cl.lookup x=aA c->X.env.cells.lookup x=aA c) (C:∀p∈B.names,p.2=.free->∃c,cl.lookup p.1=aA c)
  (U:∀p∈B.names,p.2=.free->X.env.kindOf p.1=aA .cell\/X.env.kindOf p.1=aA .free)
  (R:∀b∈Y,sG X dA H b) (Oq:∀b∈Y,b<s.heap.objs.size) (P6:vs.length<=O.length)
  (P:∀(i:Nat) x v,O[i]?=aA x->vs[i]?=aA v->∃j:Nat,X.N[j]?=aA x/\Z[j]?=aA (aA v)/\B.names.lookup x=aA .free)
  (m:fA->Option gA) (GX:h₄.Ns s.heap.objs.size m) (nr:DI s.heap.objs.size (s.heap.push ob) h₄) :
  kA (KQ X B cl s.heap.objs.size O s H Y xe) [] (start O vs) H { s with heap:=h₄,toks:=tk }:=by
 have old:∀b o,s.heap.get? b=aA o->h₄.get? b=aA o:=λb o e=>(nr.2 b (SD (nC e))).trans (aD _ e)
 have freeOf:∀x,(relabel B X.env).names.lookup x=aA .cell\/(relabel B X.env).names.lookup x=aA .free->B.names.lookup x=aA .free:=λx hx=>by
  rcases hx with hx | hx
  ·obtain⟨k,h1,h2⟩:=eZ (env:=X.env) hx;rcases h2 with h2 | ⟨h2,_⟩
   ·subst h2;exact absurd rfl (J _ (aAo h1))
   ·subst h2;exact h1
  ·obtain⟨k,h1,h2⟩:=eZ (env:=X.env) hx;rcases h2 with h2 | ⟨_,h2⟩
   ·subst h2;exact h1
   ·cases h2
 have ok:(KQ X B cl s.heap.objs.size O s H Y xe).Ok:=by
  refine⟨I.ok.mod,F,I.ok.glob,I.ok.blt,oB _,λx y c h1 h2=>I.ok.inj x y c (sub x c h1) (sub y c h2),λx hx=>?_,λx c h=>(nomatch h),I.ok.hd,I.ok.frames,.inl rfl,λb M=>⟨SD (Oq b M),λx c e=>(R b M).2.2.2.2.1 x c (sub x c e)⟩,λb o e=>I.bs b o e,KC I.ok.ZH I.sz,λb o e M=>?_,λb M z=>?_,I.stack,I.Zb⟩
  ·exact C (x,.free) (aAo (freeOf x hx)) rfl
  ·rcases(R b M).2.2.2.1 with z | z
   ·exact I.ok.ML b o e z
   ·rw[(I.ok.bs b o e).1] at z;cases z
  ·rcases mD.mp (I.VS b z) with z | z
   ·exact(R b M).2.1 z
   ·exact(R b M).2.2.1 z
 refine⟨ok,rfl,I.bare,Un.kept old,⟨m,GX,λi x v e1 e2 e3=>?_⟩,λx c e=>?_,I.aB.fresh (oB _),λx c e=>I.NG x c (sub x c e),λp hp=>(nomatch hp),I.aB.kept old, ?_⟩
 ·obtain⟨j,h1,h2,h3⟩:=P i x v e1 (dFa e2);have hk:=U (x,.free) (aAo h3) rfl;obtain⟨m0,K6,hl⟩:=I.loc;obtain⟨u,r,lk⟩:=hl j x v h1 h2 (.inr hk);refine⟨u,r, ?_⟩;rcases lk with ⟨k,_⟩ | ⟨k,c,e,z⟩
  ·rcases hk with hk | hk
   ·rw[hk] at k;cases k
   ·rw[hk] at k;cases k
  ·obtain⟨c',Q⟩:=C (x,.free) (aAo h3) rfl;have ec:=sub x c' Q;rw[e] at ec;cases ec;obtain⟨o,ho,hd⟩:=z;exact .inr ⟨Ra (env:=X.env) h3,c,Q,o,old c o ho,hd⟩
 ·obtain⟨v,o,ho,hd⟩:=I.cell x c (sub x c e);exact⟨v,o,old c o ho,hd⟩
 ·show(start O vs).length=O.length;unfold start;simp
  lia
def SH(X:Cx)(vA:List zA)(t:TT):Prop:=∀(dA:List (lA×AB)) (s:HA) (Z:St) (H:Hp) (Q:Bool->Hp->Prop),kA X dA Z H s->t Z H Q ->
 JA (model X.prog X.w) X.A (forIn vA bA λc r=>if r=bA then do let ok <- isTrue c X.env (eval c X.env);pure (ForInStep.yield ok) else pure (ForInStep.yield r)) (TP X dA Z Q) X.xe s
def qAa:SH X [] (λZ H Q=>Q bA H):=λdA s Z H Q I h=>wpAny_tests_nil ⟨H,I,h⟩
def rAa(h:PT X c t):SH X [c] t:=λdA s Z H Q I q=>wpAny_tests_one (h dA s Z H Q I q)
def OZ(N:List fA)(a:rF)(f:List fA)(g:TG)(r:TT)(t:TE)(Z:St)(Q:VK)(J:It)(l:Hp):Prop:=∃h:List V,h.length<=f.length /\
 (∀(i:Nat) x v,f[i]?=aA x->h[i]?=aA v->∃j:Nat,N[j]?=aA x/\Z[j]?=aA (aA v)/\a.names.lookup x=aA .free) /\
 ∀D,l D=eA->∃(n:Nat) (d:Nat->St->Hp->Prop),d 0 (start f h) (EA l D (.l []))/\∀i m c,d i m c ->
  (J.stop i c/\Q (.ref D) c)\/(i<n/\J.go i c/\∀x o,J.pT i c x o->g x m o λe u=>r e u λb p =>
   if b=bA then t e p λy q=>∃k,q D=aA (.l k)/\k.length<sizeLine/\d (i+1) e (EA q D (.l (k++[y]))) else d (i+1) e p)
def AN(N:List fA)(a:rF)(b:List fA)(c:TI)(g:TG)(d:TT)(e:TE):TE:=λZ H Q=>c Z H (OZ N a b g d e Z Q)
def o5(hc:X.calm=bA)(hi:PI X tg iter wi)(hs:∀x,LI iter X.env x=pure x)
  (q:a.kind=.function) (F:∀y∈a.names,y.2≠.cell) (U:∀x∈a.names,x.2=.local->a.names.lookup x.1=aA .local)
  (D6:∀p∈a.names,p.2=.free->X.env.kindOf p.1=aA .cell\/X.env.kindOf p.1=aA .free)
  (hg:∀j,UE X a N' j->PG j tg g) (ht:∀j,UE X a N' j->SH j vA tt) (he:∀j,UE X a N' j->PE j DB te) (I:kA X dA Z H s) (h:AN X.N a N' wi g tt te Z H Q)
  (fin:∀(D C:lA) (k:Hp) (s':HA),kA X dA Z k s'->Q (.ref D) k->k C=eA->X.s₀.heap.objs.size<=C->C≠X.env.locals->(∀x c,X.env.cells.lookup x=aA c->c≠C)->(∀p∈X.pn++dA,p.1≠C)->(∃m,s'.heap.Ns C m) ->
   compPost (model X.prog X.w) X.A X.xe use QF (.ref D) C (.ok .next) s') :
  JA (model X.prog X.w) X.A (comprehension (.ListComp DB [⟨tg,iter,vA,0⟩] a pos) a X.env ps (newList []) cA (eval iter X.env) use) QF X.xe s:=by
 obtain⟨cl,Kq,sub,Iq⟩:=Kl (env:=X.env) λp hp hf=>I.ok.has p.1 (D6 p hp hf)
 refine wpAny_comprehension_free rfl hs Kq q U (RA (hi dA s Z H _ I h) λv s1 h1=>RA h1 λnt l h2=>?_);obtain⟨it,O,tn,J,H2,e,I2,T,Lb,f2,vs,P6,himp,hD⟩:=h2;subst e
 have k6:∀b∈O,b<l.heap.objs.size:=λb f=>by(obtain⟨o,e,_⟩:=T.obj _ _ Lb b f;exact nC e)
 refine MP (wpAny_newFunctionEnv F (by intro y hy;simp at hy) (λh₁ K B=>?_) q);dsimp only at K B ⊢;have I3:kA X dA Z (EA H2 l.heap.objs.size (.l [])) { l with heap:=l.heap.push { cls:=.type "list",dict:=eA,data:=.seq ([]:List gA).toArray } }:=I2.AY (gG:=[]) (t':=l.toks) .nil (FI _);obtain⟨n,LP,l0,aAJ⟩:=hD l.heap.objs.size I2.fresh;generalize O6:({ l with heap:=l.heap.push { cls:=.type "list",dict:=eA,data:=.seq ([]:List gA).toArray } }:HA)=P at I3;have FX:P.heap=l.heap.push { cls:=.type "list",dict:=eA,data:=.seq ([]:List gA).toArray }:=by rw[<- O6]
 rw[<- FX] at K B ⊢;have f3:∀b∈O,sG X dA (EA H2 l.heap.objs.size (.l [])) b:=λb f=>⟨by rw[jB (SD (k6 b f))];exact(f2 b f).1,(f2 b f).2⟩
 have l6:∀b∈O,b<P.heap.objs.size:=λb f=>by rw[FX,WT];exact Nat.lt_succ_of_lt (k6 b f)
 let R:Result->HA->Prop:=compPost (model X.prog X.w) X.A X.xe use QF (.ref l.heap.objs.size) P.heap.objs.size
 let j:Cx:=KQ X a cl P.heap.objs.size N' P (EA H2 l.heap.objs.size (.l [])) O (notedBy (model X.prog X.w) X.A (compEnvC a cl P.heap.objs.size X.env) λe s'=>R (.error e) s')
 have BX:UE X a N' j:=⟨_,_,_,_,_,_,rfl⟩
 have I4:∀tk,kA j [] (start N' vs) (EA H2 l.heap.objs.size (.l [])) { P with heap:=h₁,toks:=tk }:=λtk=>I3.block q F sub Iq D6 f3 l6 P6 himp _ K B
 have old:∀b o,P.heap.get? b=aA o->h₁.get? b=aA o:=λb o e=>(B.2 b (SD (nC e))).trans (aD _ e)
 have Mb:tn 0 h₁:=T.keep _ _ _ Lb λb f o e=>old b o (by rw[FX];exact aD _ e)
 have M:∀{k:Hp},(∀b∈O,k b=eA)->∀b∈O,sG j [] k b:=λhn b f=>⟨hn b f,SD (l6 b f),λz=>by
  rcases mD.mp (I3.VS b z) with z | z
  ·exact(f2 b f).2.1 z
  ·exact(f2 b f).2.2.1 z,.inl f,λx c e=>(f2 b f).2.2.2.2.1 x c (sub x c e),λp hp=>(nomatch hp)⟩
 have loop:∀tk,NK (model X.prog X.w) X.A (.compLoop (.ListComp DB [⟨tg,iter,vA,0⟩] a pos) 0 (.ref it) (.ref l.heap.objs.size) (compEnvC a cl P.heap.objs.size X.env)) R { P with heap:=h₁,toks:=tk }:=by
  intro tk;refine Ol (λm s'=>∃i Z' k,m=n-i/\kA j [] Z' k s'/\tn i s'.heap/\(∀b∈O,k b=eA)/\LP i Z' k) ?_ n ⟨0,_,_,by simp,I4 tk,Mb,λb f=>(f3 b f).1,l0⟩
  rintro m s5 ⟨i,Z5,H5,rfl,I5,Nb,n6,w5⟩
  rcases aAJ i Z5 H5 w5 with ⟨stop,qn⟩ | ⟨hin,go,step⟩
  ·refine RA (T.done j rfl rfl rfl hc i [] s5 Z5 H5 _ I5 (M n6) Nb stop) λr s6 t=>?_
   obtain⟨hr,I6⟩:=t;subst hr;obtain⟨m6,Xq,_⟩:=I6.loc;have IX:kA X dA Z H5 s6:=I3.jl (s':=s6) (ch:=O) I6.os I6.base I6.aB I6.bare λb f=>⟨(f2 b f).2.2.2.1,(f2 b f).2.1,(f2 b f).2.2.2.2.1,(f2 b f).2.2.2.2.2⟩
   refine fin _ _ H5 s6 IX qn I6.free I3.sz (λz=>nM _ (aE I3.lt (K2 z))) (λx c e z=>?_) (λp hp z=>?_) ⟨m6,Xq⟩
   ·obtain⟨v,o,ho,hd⟩:=I3.cell x c e;rw[z] at ho;exact nM _ (nC ho)
   ·have:=(I3.pin p hp).1
    rw[z] at this;exact nM _ (nC this)
  ·refine RA (T.item j rfl rfl rfl hc i [] s5 Z5 H5 _ I5 (M n6) Nb go) λr s6 t=>?_
   obtain⟨u,hr,h6⟩:=t;subst hr;refine RA h6 λ_ s7 t=>?_
   obtain⟨x,H7,I7,r7,y7,EZ,Pp⟩:=t;have Fg:=I7.pinned (M Pp) (T.obj _ _ EZ)
   have again:∀{Y:St} {H8:Hp} {s8:HA},kA j ([]++hP O s7.heap) Y H8 s8->LP (i+1) Y H8->∃m,m<n-i/\∃i Z' k,m=n-i/\kA j [] Z' k s8/\tn i s8.heap/\(∀b∈O,k b=eA)/\LP i Z' k:=λ{Y H8 s8} I8 w8=>by(refine⟨n-(i+1),by lia,i+1,Y,H8,rfl,I8.lT,T.keep _ _ _ EZ λb f o e=>(I8.pin (b,o) (JI _ (JI _ (kS f e)))).1,λb f=>?_,w8⟩;obtain⟨o,e,d⟩:=T.obj _ _ EZ b f;exact(I8.pin (b,o) (JI _ (JI _ (kS f e)))).2.1)
   refine RA (hg j BX _ s7 Z5 H7 x u _ Fg r7 (step x H7 y7)) λ_ s8 t=>?_
   obtain⟨Y,H8,I8,q8⟩:=t;refine RA (ht j BX _ s8 Y H8 _ I8 q8) λb s9 t=>?_
   obtain⟨H9,I9,q9⟩:=t
   cases b with
   |false=>exact again I9 q9
   |true =>
    refine RA (he j BX _ s9 Y H9 _ I9 q9) λy s10 t=>?_
    obtain⟨yv,Cg,Dg,r10,ys,hy,t,q10⟩:=t;refine RA (k9 (X:=j) _ s10 Y Cg (.ref l.heap.objs.size) [yv] (.ref l.heap.objs.size) [y] (λ_ k=>LP (i+1) Y k) Dg rfl (.cons r10 .nil) ⟨_,ys,yv,rfl,rfl,hy,t,q10⟩) λ_ s11 t=>?_
    obtain⟨_,H11,Eg,_,q11⟩:=t;exact again Eg q11
 subst O6;exact codeAny_compStart_list (loop _) (T.self _ 0 _ _ _ Mb (loop _))
def p_(t:X.calm=bA)(u:PI X r iter v)(w:∀x,LI iter X.env x=pure x)
  (f:a.kind=.function) (i:∀y∈a.names,y.2≠.cell) (c:∀x∈a.names,x.2=.local->a.names.lookup x.1=aA .local)
  (j:∀p∈a.names,p.2=.free->X.env.kindOf p.1=aA .cell\/X.env.kindOf p.1=aA .free)
  (z:∀d,UE X a N' d->PG d r g) (A:∀d,UE X a N' d->SH d vA B) (F:∀d,UE X a N' d->PE d k J) :
  PE X (.ListComp k [⟨r,iter,vA,0⟩] a pos) (AN X.N a N' v g B J):=by
 intro dA s Z H Q I h;rw[eval_ListComp];refine o5 (use:=eA) (QF:=EP X dA Z Q) t u w f i c j z A F I h λD C K M O q P R U l Y n=>?_
 obtain⟨m,n⟩:=n;refine⟨m,n,λh' sb=>⟨.ref D,K,O.turned (t':=M.toks) (λb o hb e=>(sb.2 b hb).trans e) P U (.inr (zT R)) l Y,rfl,q⟩⟩
def M'(t:swapsWith (.ListComp f [⟨r,iter,vA,0⟩] scope pos) (aA (.Name y py)) l.line X.env=pure bA)
  (P:X.N.Nodup) (Q:X.N[i]?=aA y) (R:Loc X.env.scope y) (U:X.fn y=bA\/X.env.scope.names.lookup y=aA .local) (Y:X.calm=bA) (hi:PI X r iter wi) (hs:∀x,LI iter X.env x=pure x)
  (j:scope.kind=.function) (k:∀y∈scope.names,y.2≠.cell) (c:∀x∈scope.names,x.2=.local->scope.names.lookup x.1=aA .local)
  (u:∀p∈scope.names,p.2=.free->X.env.kindOf p.1=aA .cell\/X.env.kindOf p.1=aA .free)
  (hg:∀d,UE X scope w d->PG d r g) (ht:∀d,UE X scope w d->SH d vA tt) (he:∀d,UE X scope w d->PE d f te) :
  PS X (.Assign [.Name y py] (.ListComp f [⟨r,iter,vA,0⟩] scope pos) l) (LZ (AN X.N scope w wi g tt te) (cN i)):=by
 intro dA s Z H D0 I h;rw[exec_Assign_Name_used _ _ _ _ t];refine WA (ZT (WA ?_));show JA _ X.A (do let _ <- comprehension (.ListComp f [⟨r,iter,vA,0⟩] scope pos) scope X.env _ (newList []) cA (eval iter X.env) (aA (assign (.Name y py) X.env))) _ _ s;refine WA (FH (o5 (use:=aA (assign (.Name y py) X.env)) (QF:=λ_ z=>SP X dA D0 .next z) Y hi hs j k c u hg ht he I h λD C H' z I' q hC B O n hp F=>?_) (λ_ z hq=>YB (YB hq)) λ_ _ e=>e);obtain⟨m,F⟩:=F;refine Df (cc I' P Q R (v:=.ref D) rfl (λs2 I2 B=>?_) U);obtain⟨a,sb,J⟩:=B
 have K:a≠C:=by
  rcases J with rfl | J
  ·exact qF O
  ·exact n _ _ J
 refine⟨m,F.sameBut sb (qF K),λh' M=>⟨_,H',I2.turned (t':=s2.toks) (λb o hb e=>(M.2 b hb).trans e) hC O (.inr (zT B)) n hp,q⟩⟩
end
end L2
namespace CI
set_option tactic.hygienic true
open PySem PySem.Spec PyProof.Rows L2
section
variable{X:Cx}{K:jA}{P:XA}{C:Calls}{U:CC}
theorem OA.inner(xo:OA X K P C U)(hk:X.env.scope.kind=.function)(nd:(aAs scope++aAp scope).Nodup)(b:UE X scope (U.inner scope).N J):OA J K P C (U.inner scope):=by
 obtain⟨cl,C0,s₃,H₃,fp,xe,rfl⟩:=b;refine OA.of xo.yC rfl ?_ nd xo.calm xo.hh xo.hu xo.c xo.blt (λx f h=>?_) (λx ns h=>?_) (λm I c f h1 h2=>?_) xo.rm xo.sub xo.yH xo.iE ⟨xo.exc,λx h=>?_⟩ xo.YA ⟨λx f h=>?_,λx f h=>?_,λm I c f h1 h2=>?_⟩ xo.tp
 ·show(relabel scope X.env).names=(U.inner scope).names;unfold relabel CC.inner;simp only;congr 1
  funext p
  obtain⟨n,k⟩:=p;have e:X.env.kindOf n=U.names.lookup n:=by unfold Rf;rw[xo.nm]
  simp only[hk,e];simp
 ·obtain⟨fa,j,u,k,h1,h2,y,z,B⟩:=(xo.fn x f h).ex;exact⟨⟨fa,j,u,k,h1,h2,y,z,B⟩⟩
 ·obtain⟨F,fa,j,u,h1,h2,y,z,B,H⟩:=(xo.cls x ns h).ex;exact⟨⟨F,fa,j,u,h1,h2,y,z,B,H⟩⟩
 ·obtain⟨F,fa,j,u,k,M,O,Q,R,Y,Z⟩:=(xo.nD m I c f h1 h2).ex;exact⟨⟨F,fa,j,u,k,M,O,Q,R,Y,Z⟩⟩
 ·exact⟨trivial⟩
 ·exact⟨trivial⟩
 ·obtain⟨F,fa,j,u,k,h1,h2,y,z,B,H,h7,h8⟩:=(xo.obj x f h).ex;exact⟨⟨F,fa,j,u,k,h1,h2,y,z,B,H,h7,h8⟩⟩
 ·exact⟨trivial⟩
def wJ(K:jA)(P:XA)(C:Calls)(d:List E):TT:=λZ H Q=>∃(Y:Env) (G:Hp) (b:Bool) (a:Env),BA K Y Z H G/\aC P C d Y=some (.ok (.sh (.bl b)),a) /\
 ∀c e,FA K Y Z H G a c e->Q b c
def ya:SH X [] (wJ K P C []):=λdA s Z H Q I a=>by
 obtain⟨Y,G,b,c,r,e,k⟩:=a;rw[aC] at e;cases e;exact qAa dA s Z H Q I (k H G (FA.refl r))
def za(h:GA X K P C c f):SH X [c] (wJ K P C [f]):=λdA s Z H Q I g=>by
 obtain⟨Y,G,b,i,r,e,k⟩:=g;refine rAa h.t dA s Z H Q I ?_;rw[aC] at e;obtain⟨v,j,d,a⟩:=fB e;split at a
 ·rw[aC] at a;cases a;exact⟨Y,G,bA,_,r,d,k⟩
 ·cases a;exact⟨Y,G,cA,_,r,d,k⟩
 ·cases a
theorem fC.jP(b:fC K Y Z H G j k y m)(h:H a=eA)(g:m a=eA)(n:¬xA j k a):fC K Y Z H G j k (EA y a o) m:=by
 refine⟨b.wA.jP g n,⟨b.ext.gg,λc u e B=>?_,λc e=>?_,b.ext.gn⟩,b.own,b.un,b.pin,b.len⟩
 ·have:c≠a:=λz=>by subst z;rw[h] at e;cases e
  rw[jB this];exact b.ext.hh c u e B
 ·by_cases x:c=a
  ·subst x;rw[GC] at e;cases e
  ·rw[jB x] at e;exact b.ext.hx c e
theorem CV{bind:D->Env->Option Env}:∀{i b a:List D} {Y g:Env},tD h j bind i b Y=some (.ok a,g)->b.length<=a.length
 |[],b,a,Y,g,e=>by simp only[tD,cC,SE,Out.ok.injEq] at e;rw[e.1];exact oB _
 |d::i,b,a,Y,g,e=>by
  simp only[tD] at e;split at e
  ·cases e
  ·obtain⟨c,l,m,f⟩:=fB e;split at f
   ·obtain⟨v,n,o,k⟩:=fB f
    have:=CV k
    simp at this
    lia
   ·exact CV f
   ·cases f
theorem Fb:∀(imp:List Nat) (Y:Env) (as:List Sl) (g:Env),BA K Y Z H G->aAk (imp.map λ_=>bA) (imp.map Hd.slot) Y=aA (as,g) ->
  ∃b,sD K H G own new Z (imp.map Hd.slot) b/\b.length=imp.length/\(∀a,¬xF (imp.map Hd.slot) b a)/\∀(j:Nat) v,b[j]?=aA v->∃i:Nat,imp[j]?=aA i/\Z[i]?=aA (aA v)
 |[],Y,as,g,r,e=>⟨[],rfl,rfl,λa z=>z,λj v h=>by simp at h⟩
 |i::imp,Y,as,g,r,e=>by
  have go:∀(f:Env) (c:List Sl) (k:Env),BA K f Z H G->aAk (imp.map λ_=>bA) (imp.map Hd.slot) f=aA (c,k)->(∃v,Z[i]?=aA (aA v)) ->
    ∃b,sD K H G own new Z ((i::imp).map Hd.slot) b/\b.length=(i::imp).length/\(∀a,¬xF ((i::imp).map Hd.slot) b a)/\∀(j:Nat) v,b[j]?=aA v->∃o:Nat,(i::imp)[j]?=aA o/\Z[o]?=aA (aA v):=by
   intro f c k t u ⟨v,s⟩;obtain⟨b,x,A,B,F⟩:=Fb imp f c k t u;refine⟨v::b,⟨v,b,rfl,s,x,λd a z=>(nomatch z)⟩,by simp[A],λa z=>B a z,λj w m=>?_⟩
   cases j with
   |zero=>simp only[YD,cC] at m;subst m;exact⟨i,rfl,s⟩
   |succ j=>exact F j w (by simpa using m)
  rw[HC,HC,gS] at e;split at e
  ·rename_i d n
   cases q:aAk (imp.map λ_=>bA) (imp.map Hd.slot) Y with
   |none=>rw[q] at e;cases e
   |some y=>exact go Y y.1 y.2 r q (r.bound (by rw[n];rfl))
  ·rename_i d p l n
   cases q:aAk (imp.map λ_=>bA) (imp.map Hd.slot) (Y.set i .un) with
   |none=>rw[q] at e;cases e
   |some y=>exact go _ y.1 y.2 (r.unset i) q (r.bound (by rw[n];rfl))
  ·cases e
def sAa(g:∀i,o=aA i->∃d p l,a[i]?=aA (.ow d p l))(e:aAl o a k=aA m)(h:CD (aAg o a) k):CD a m:=by
 cases o with
 |none=>simp only[aAl,cC] at e;subst e;exact h
 |some i =>
  obtain⟨d,p,l,c⟩:=g i rfl;simp only[aAl] at e;split at e
  ·rename_i sl n f;rw[c] at f;cases f;cases e;intro j;by_cases b:j=i
   ·subst b;rw[c,II (lD.mp n).1];exact vE.refl _
   ·have:=h j
    rw[ZD (λz=>b z.symm)]
    have q:(aAg (aA i) a)[j]?=a[j]?:=by(show(a.set i .un)[j]?=_;rw[ZD (λz=>b z.symm)])
    rw[q] at this;exact this
  ·cases e
theorem b7{U:CC}:∀{a:List fA} {imp:List Nat},U.jI a=aA imp->imp.length=a.length/\∀(j:Nat) x i,a[j]?=aA x->imp[j]?=aA i->U.N[i]?=aA x
 |[],imp,h=>by simp only[CC.jI,cC] at h;subst h;exact⟨rfl,λj x i z=>by simp at z⟩
 |x::a,imp,h=>by
  simp only[CC.jI] at h
  cases q:U.N.idxOf? x with
  |none=>rw[q] at h;cases h
  |some i =>
   rw[q] at h;simp only[tF] at h
   cases q2:U.jI a with
   |none=>rw[q2] at h;cases h
   |some r =>
    rw[q2] at h;simp only[JD,cC] at h;subst h;obtain⟨d,e⟩:=b7 q2;refine⟨by simp[d],λj y k b c=>?_⟩
    cases j with
    |zero =>
     simp only[YD,cC] at b c;subst b c;exact QR q
    |succ j=>exact e j y k (by simpa using b) (by simpa using c)
structure AM(U:CC)(scope:rF):Prop where
 kind:scope.kind=.function
 cell:∀y∈scope.names,y.2≠.cell
 names:∀x∈scope.names,x.2=.local->scope.names.lookup x.1=aA .local
 free:∀x∈scope.names,x.2=.free->scope.names.lookup x.1=aA .free
 out:∀p∈scope.names,p.2=.free->U.names.lookup p.1=aA .cell\/U.names.lookup p.1=aA .free
 nd:(aAs scope++aAp scope).Nodup
def xCa(h:U.xZ a=bA):AM U a:=by
 unfold CC.xZ at h;simp only[IA,sF,MH,beq_iff_eq,bne_iff_ne,EJ,ne_eq] at h;obtain⟨⟨⟨⟨e,f⟩,g⟩,d⟩,i⟩:=h;refine⟨e,f,λx b hl=>?_,λx b c=>?_,λx b c=>?_,i⟩
 ·rcases g x b with z | z
  ·exact absurd hl z
  ·exact z
 ·rcases d x b with z | z
  ·exact absurd c z
  ·exact z.1
 ·rcases d x b with z | z
  ·exact absurd c z
  ·exact z.2
def Tp(b:AM U a)(h:x∈aAs a):a.names.lookup x=aA .free:=by
 unfold aAs at h;obtain⟨p,c,rfl⟩:=wB.mp h;obtain⟨d,e⟩:=kM.mp c;exact b.free p d (dC e)
def lDa(Z:St)(H:Hp)(R:It->Hp->Prop)(q:OH K P C .sig [c] Z H R):W6 (tH K P C c) Z H R:=by
 obtain⟨Y,G,s,t,u,o,r,e,a,k⟩:=q;simp only[kC] at e;obtain⟨h,j,l,b⟩:=fB e;simp only[yA.bind,cC,SE,Out.ok.injEq] at b;obtain⟨rfl,rfl⟩:=b;refine⟨Y,G,h,_,r,l,λv m n f p=>?_⟩
 (unfold aAc at a;dsimp only at a)
 cases q:h.get j with
 |none=>rw[q] at a;cases a
 |some d =>
  rw[q] at a
  cases d with
  |str x =>
   simp only at a;split at a
   ·rename_i g;cases a;obtain⟨rfl,_⟩:=(p.read f.wA q).str;exact⟨x,rfl,g.1,k m n f (λi z=>nomatch z) _ (nHa g.2)⟩
   ·cases a
  |_=>cases a
structure yg(K:jA)(P:XA)(C:Calls)(cond:List E)(DB:Env->yA RV)(is:List Nat)(Y0:Env)(Z0:St)(H1 G2:Hp)(ds eL:List D)(Yi:Env)(D:lA)(i:Nat)(Z':St)(H':Hp):Prop where
 le:i<=ds.length
 ex:∃Yc Gc ac ys,fC K Y0 Z0 H1 G2 Yc Z' H' Gc/\H' D=aA (.l ys)/\Gc D=eA/\¬xA Yc Z' D/\uA K Gc ac ys/\tD (aC P C cond) DB (UA (is.length==1) is) (ds.drop i) ac Yc=some (.ok eL,Yi)
def Pl(xo:OA X K P C U){gG cond:List E}(Lq:∀Y v Y',DB Y=some (.ok v,Y')->ev P C cA ce Y=some (.ok v,Y'))(sc:AM U b)(himp:U.jI (aAs b)=aA imp)
  (hw:∀Z H (R:It->Hp->Prop),uM K P C k0 gG Z H R->wi Z H R)
  {Z:St} {H:Hp} {Q:VK} (h:∃(Y:Env) (G:Hp) (v:RV) (Y':Env),BA K Y Z H G/\T5 P C DB is k0 gG cond imp (aAp b).length Y=some (.ok v,Y')/\∀x I G',FA K Y Z H G Y' I G'->iC K I G' (xA Y' Z) (rD H) v x->Q x I):AN X.N b (U.inner b).N wi (gB K (is.length==1) is) (wJ K P C cond) (tE K P C ce) Z H Q:=by
 obtain⟨Y,G,v,Y',r,e,k⟩:=h;unfold T5 at e;obtain⟨N6,B,e1,e2⟩:=fB e
 have body:∀A o,(MD (imp.map λ_=>bA) (WI (aC P C cond) DB (UA (is.length==1) is) A (aAp b).length) (imp.map Hd.slot) (aAg o B)).bind (aAq o B)=some (.ok v,Y')->∀H1 G1,FA K Y Z H G B H1 G1->(∀i,o=aA i->∃d p l,B[i]?=aA (.ow d p l))->∀J,bL K (aAg o B) Z H1 G1 A J->OZ X.N b (U.inner b).N (gB K (is.length==1) is) (wJ K P C cond) (tE K P C ce) Z Q J H1:=by
  intro A o e2 H1 G1 a1 ho;obtain⟨v',Y2,e3,e4⟩:=fB e2;unfold aAq at e4
  cases q3:aAl o B Y2 with
  |none=>rw[q3] at e4;cases e4
  |some Y3 =>
   rw[q3] at e4;simp only[JD,cC,SE,Out.ok.injEq] at e4;obtain⟨rfl,rfl⟩:=e4;have R0:=(ZS (o:=o) a1.wA).1
   have NR:∃as Y4,aAk (imp.map λ_=>bA) (imp.map Hd.slot) (aAg o B)=aA (as,Y4):=by
    unfold MD at e3
    cases q4:aAk (imp.map λ_=>bA) (imp.map Hd.slot) (aAg o B) with
    |none=>rw[q4] at e3;cases e3
    |some y=>exact⟨y.1,y.2,rfl⟩
   obtain⟨as0,Y4,NR⟩:=NR;obtain⟨xs,Q6,R6,S6,T6⟩:=Fb (own:=xA (aAg o B) Z) (new:=rD H1) imp _ _ _ R0 NR;obtain⟨as,G2,as',ra,fN,ef,⟨A6,S3⟩,kk⟩:=FV (FA.refl R0) Q6 e3;unfold WI at ef;split at ef
   ·rename_i hp;obtain⟨eL,Yi,e5,e6⟩:=fB ef;split at e6
    ·rename_i hz;simp only[cC,SE,Out.ok.injEq] at e6;obtain⟨rfl,rfl⟩:=e6;obtain⟨il,ig⟩:=b7 himp
     have LR:(U.inner b).N.length=as.length+(aAp b).length:=by(show(aAs b++aAp b).length=_;rw[PB,fN,pA,il])
     obtain⟨rp,op⟩:=ra.pad LR;have hsz:=pK hz
     -- oD rIa M
     have M:∀(J:It),F3 K (as++CB (aAp b).length .un) (start (U.inner b).N xs) H1 G2 A J->OZ X.N b (U.inner b).N (gB K (is.length==1) is) (wJ K P C cond) (tE K P C ce) Z Q J H1:=by
      intro J hJ;refine Exists.intro xs ⟨by rw[LR,R6,fN,pA];lia,λi x v hN hv=>?_,λD hD=>?_⟩
      ·obtain⟨j,hj,hZ⟩:=T6 i v hv
       have m:i<(aAs b).length:=by(rw[<- il];exact(lD.mp hj).1)
       have E6:(aAs b)[i]?=aA x:=by
        have:(aAs b++aAp b)[i]?=aA x:=hN
        rwa[FN m] at this
       exact⟨j,by rw[xo.nJ];exact ig i x j E6 hj,hZ,Tp sc (aH E6)⟩
      ·have fin:∀Z' I Gc O,fC K (as++CB (aAp b).length .un) (start (U.inner b).N xs) H1 G2 Yi Z' I Gc->I D=aA (.l O)->Gc D=eA->¬xA Yi Z' D->uA K Gc eL O->Q (.ref D) I:=by
        intro Z' I Gc O a g t F hr;obtain⟨b1,b2⟩:=QU ra hp LR a;obtain⟨c1,c2⟩:=kk (.ref D) I Gc b1 ⟨D,rfl,t,⟨O,g,hr⟩,λz=>F (b2 D z),hD⟩;obtain⟨d1,d2⟩:=mP a1.wA ho q3 (FA.s R0 c1);have a2:FA K B Z H1 G1 Y3 I Gc:=⟨d1.wA,d1.ext,sAa ho q3 c1.iH⟩
        obtain⟨D',e',g',o',n',f'⟩:=c2;cases e';refine k _ _ _ (a1.trans a2) ⟨D,rfl,g',o',λz=>?_,a1.fresh hD⟩;rcases d2 D z with z | ⟨z,_⟩
        ·exact n' z
        ·exact(a1.wA.owned z).1 hD
       clear kk k q3 R0 ho a1 hp LR ra fN A6 S3 Q6 R6 S6 T6 NR e3 e1 r himp il ig op;refine⟨A.length,yg K P C cond DB is (as++CB (aAp b).length .un) (start (U.inner b).N xs) H1 G2 A eL Yi D, ?_, ?_⟩
       ·have g2:G2 D=eA:=by
         cases z:G2 D with
         |none=>rfl
         |some u=>have:=rp.sub D u z;rw[hD] at this;cases this
        exact⟨FI _,_,G2,[],[],FA.s rp ((FA.refl rp).mI hD),GC,g2,rp.uS hD,uA.nil,e5⟩
       ·rintro i Z' I ⟨hil,Yc,Gc,ac,O,a,g,t,F,hr,n⟩
        obtain⟨j1,j2,j3⟩:=hJ i I Yc Z' Gc a;by_cases m:i<A.length
        ·refine .inr ⟨m,j2 m,λx H2 hy=>?_⟩;have hd:A[i]?=aA A[i]:=xC m;obtain⟨Gd,yQ,mr⟩:=j3 _ x H2 hd hy;have t:=yQ.ext.gn D (by rw[g];simp) t F;have g:=yQ.ext.hh D _ g F;have hr:=uA.mono yQ.ext.gg _ hr;have a:=a.trans (FA.s a.wA yQ);rw[I0 m] at n;simp only[tD] at n;split at n
         ·cases n
         ·rename_i Yb hb;obtain⟨c,Yt,et,n⟩:=fB n;refine⟨Yc,Gd,A[i],Yb,a.wA,mr,hb,λZ1 ab=>?_⟩;have O3:=a.trans ab
          have nb:¬xA Yb Z1 D:=λz=>by
           rcases ab.own D z with z | z
           ·exact F z
           ·rw[g] at z;cases z
          split at n
          ·obtain⟨w,Ye,ee,n⟩:=fB n;refine⟨Yb,Gd,bA,Yt,ab.wA,et,λH3 G3 f=>?_⟩;have h3:H3 D=aA (.l O):=f.ext.hh D _ g nb;have g3:G3 D=eA:=f.ext.gn D (by rw[g];simp) t nb;have n3:¬xA Yt Z1 D:=λz=>nb (f.own D z)
           dsimp only;rw[QA rfl];refine⟨Yt,G3,w,Ye,f.wA,Lq _ _ _ ee,λy H4 G4 a4 ry=>?_⟩;obtain⟨G5,a5,ry5⟩:=a4.share ry;have h4:H4 D=aA (.l O):=a5.ext.hh D _ h3 n3;have g5:G5 D=eA:=a5.ext.gn D (by rw[h3];simp) g3 n3;have n5:¬xA Ye Z1 D:=λz=>n3 (a5.own D z)
           have J6:=CV n;have hyl:=hr.len;rw[PB] at J6;simp only[VB,bH] at J6;have Ai:=(O3.trans (FA.s ab.wA f)).trans (FA.s f.wA a5);refine⟨O,h4,by lia,m,Ye,G5,ac++[w.d],O++[y],Ai.jP hD g5 n5,GC,g5,n5, ?_,n⟩;exact(uA.mono a5.ext.gg _ (uA.mono f.ext.gg _ hr)).app (uA.cons ry5 uA.nil)
          ·refine⟨Yb,Gd,cA,Yt,ab.wA,et,λH3 G3 f=>?_⟩;have h3:H3 D=aA (.l O):=f.ext.hh D _ g nb;have g3:G3 D=eA:=f.ext.gn D (by rw[g];simp) t nb;have n3:¬xA Yt Z1 D:=λz=>nb (f.own D z)
           dsimp only;rw[pB (by decide)];exact⟨m,Yt,G3,ac,O,O3.trans (FA.s ab.wA f),h3,g3,n3,uA.mono f.ext.gg _ hr,n⟩
          ·cases n
        ·have G6:i=A.length:=by lia
         refine .inl ⟨j1 G6, ?_⟩;subst G6;rw[Qf] at n;simp only[tD,cC,SE,Out.ok.injEq] at n;obtain⟨rfl,rfl⟩:=n;exact fin _ _ _ _ a g t F hr
     have vx:∀c,xA as (xs.map aA) c->xA (aAg o B) Z c:=λc z=>by
      rcases S3 c z with z | z
      ·exact z
      ·exact absurd z (S6 c)
     exact λJ wj=>M J (wj A6 λc z=>vx c (op c z))
    ·cases e6
   ·cases ef
 unfold AN
 cases q:aAc k0 N6 B with
 |none =>
  rw[q] at e2;cases e2
 |some y =>
  obtain⟨A,o⟩:=y;rw[q] at e2;exact hw Z H _ ⟨Y,G,N6,B,A,o,r,e1,q,body A o e2⟩
def p5(f:OA X K P C U){c cond:List E}(g:AM U b)(d:U.jI (aAs b)=aA imp)
  (i:∀Z H (R:It->Hp->Prop),uM K P C j c Z H R->l Z H R) (h:tE K P C (.comp ce is j c cond imp (aAp b).length) Z H Q):AN X.N b (U.inner b).N l (gB K (is.length==1) is) (wJ K P C cond) (tE K P C ce) Z H Q:=by
 obtain⟨Y,G,v,m,r,e,k⟩:=h;exact Pl f (DB:=ev P C cA ce) (λ_ _ _ z=>z) g d i ⟨Y,G,v,m,r,e,λx n o a p=>k x n o a p⟩
def PZ(K:jA)(P:XA)(C:Calls)(c:E):TE:=λZ H Q=>False
def xM(X:Cx)(K:jA)(P:XA)(C:Calls)(e:zA)(c:E):Prop:=∀(x:fA) (i:Nat) (p pos:vC),X.N.Nodup->X.N[i]?=aA x->Loc X.env.scope x->(X.fn x=bA\/X.env.scope.names.lookup x=aA .local) ->
 PS X (.Assign [.Name x p] e pos) (LZ (tE K P C c) (cN i))
def qN:xM X K P C e .AA:=λx i p pos _ _ _ _ dA s Z H D I h=>by
 obtain⟨Y,G,v,a,r,e,k⟩:=h;cases e
def oy(j:OA X K P C U){d cond:List E}(e:AM U scope)(g:U.jI (aAs scope)=aA imp)(y:BH (U.inner scope) k=aA (is.length==1,is))
  (A:PI X k iter O) (B:∀x,LI iter X.env x=pure x)
  (F:∀Z H (R:It->Hp->Prop),uM K P C o d Z H R->O Z H R)
  (Y:∀a,OA a K P C (U.inner scope)->GA a K P C c ce) (ht:∀a,OA a K P C (U.inner scope)->SH a vA (wJ K P C cond)) :
  GA X K P C (.ListComp c [⟨k,iter,vA,0⟩] scope pos) (.comp ce is o d cond imp (aAp scope).length)/\xM X K P C (.ListComp c [⟨k,iter,vA,0⟩] scope pos) (.comp ce is o d cond imp (aAp scope).length)/\PE X (.ListComp c [⟨k,iter,vA,0⟩] scope pos) (PZ K P C (.comp ce is o d cond imp (aAp scope).length)):=by
 have all:X.env.scope.kind=.function->(∀a,UE X scope (U.inner scope).N a->PG a k (gB K (is.length==1) is))/\(∀a,UE X scope (U.inner scope).N a->SH a vA (wJ K P C cond))/\∀a,UE X scope (U.inner scope).N a->PE a c (tE K P C ce):=by
  intro hk;have q:∀a,UE X scope (U.inner scope).N a->OA a K P C (U.inner scope):=λa b=>j.inner hk e.nd b
  have z:∀a,UE X scope (U.inner scope).N a->∀x,(U.inner scope).EL x=bA->a.fn x=bA\/a.env.scope.names.lookup x=aA .local:=λa b x f=>by
   rw[(q a b).nm];unfold CC.EL at f;rw[EJ,IA] at f;rcases f with f | f
   ·exact .inr (dC f)
   ·exact absurd f.1 (by simp[CC.inner])
  exact⟨λa b=>Sd (q a b) (z a b) y,λa b=>ht a (q a b),λa b=>(Y a (q a b)).v⟩
 have l:∀p∈scope.names,p.2=.free->X.env.kindOf p.1=aA .cell\/X.env.kindOf p.1=aA .free:=λp hp r=>by unfold Rf;rw[j.nm];exact e.out p hp r
 have m:PE X (.ListComp c [⟨k,iter,vA,0⟩] scope pos) (tE K P C (.comp ce is o d cond imp (aAp scope).length)):=λdA s Z H Q I h=>by(obtain⟨t,u,w⟩:=all I.ok.kind;exact p_ (N':=(U.inner scope).N) j.calm A B e.kind e.cell e.names l t u w dA s Z H Q I (p5 j e g F h))
 refine⟨jD j m,λx i p n J f hl r=>?_,λdA s Z H Q I h=>?_⟩
 case refine_2 =>
  obtain⟨t,u,w⟩:=all I.ok.kind
  cases cond with
  |nil=>exact h.elim
  |cons _ _=>exact h.elim
 obtain⟨b,M⟩:∃b:Bool,swapsWith (.ListComp c [⟨k,iter,vA,0⟩] scope pos) (aA (.Name x p)) n.line X.env=pure b:=⟨_,rfl⟩
 cases b with
 |false=>exact CS m (X9 J f hl r) M
 |true =>
  intro dA s Z H D I h;obtain⟨t,u,w⟩:=all I.ok.kind;exact M' M J f hl r j.calm A B e.kind e.cell e.names l t u w dA s Z H D I (p5 j e g F h)
end
end CI
namespace CI
set_option tactic.hygienic true
open PySem PySem.Spec PyProof.Rows L2
structure oQ(X:Cx)(K:jA)(P:XA)(C:Calls)(e:zA)(cs:List E):Prop where
 h:∀(f:fA) (p:vC) (args:List zA) (kw:List _) (pos:vC),e=.Call (.Name f p) args kw pos->args.all aAe=bA->PA X args (mG K P C cs)/\cs.length=args.length
theorem P4:∀(a:List zA),(yB U a).length=a.length
 |[]=>by rw[yB];rfl
 |e::a=>by rw[yB,VB,VB,P4 a]
section
variable{K:jA}
def TZ(h:BH U b=aA (one,is))(n:one=cA):∃a k p,b=.Tuple a k p:=by
 induction b using qD with
 |Name x pos =>
  obtain⟨i,_,h⟩:=NJ.mp h;cases h;cases n
 |Tuple=>exact⟨_,_,_,rfl⟩
 |_=>exact qJ h
def aAU(t:OA X K P C U){d cond:List E}(o:GA X K P C iter ci)(w:oQ X K P C iter d){Φ:E->Prop}(AA:Φ .AA)
  (good:∀{u:ZF} {y:List E} {imp is:List Nat} {wi:TI},AM U i->U.jI (aAs i)=aA imp->BH (U.inner i) tg=aA (is.length==1,is)->PI X tg iter wi->(∀x,LI iter X.env x=pure x) ->
   (∀Z H (R:It->Hp->Prop),uM K P C u y Z H R->wi Z H R)->Φ (.comp ce is u y cond imp (aAp i).length)) :
  Φ (pL U i tg iter ci d cond ce):=by
 unfold pL;split
 ·rename_i M;have A:=xCa M;split
  ·rename_i imp one is u l B v g;split
   ·rename_i N;split
    ·rename_i c;have c:=dC c;subst c;exact good A B v (L_ o.h) (zX (by cases iter<;>first | rfl | cases N) _) (nb (λz=>nomatch z) λZ H R q=>lDa Z H R q)
    ·exact AA
   split
   ·rename_i hk;exact nomatch hk
   split
   ·rename_i c;rw[IA,IA] at c;obtain⟨⟨c,F⟩,O⟩:=c;have c:=dC c;subst c
    have gen:∀e:zA,iter=e->vS e=bA->aA (ZF.of,[e])=aA (u,l)->Φ (.comp ce is u (n7 u ci d) cond imp (aAp i).length):=λe Q hn hq=>by(subst Q;cases hq;exact good A B v (PI.or (Z9 o.h) (ea o.h)) (zX hn _) (λZ H R q=>Hx t.yC Z H R q))
    unfold iK at g;split at g
    ·rename_i x hx;obtain⟨⟨f,p⟩,args,pos'⟩:=x;obtain rfl:=YX hx;dsimp only at g;split at g
     ·rename_i r;have r:=dC r;subst r;split at g
      ·rename_i s;split at g
       ·rename_i k;cases g;rw[IA] at k;obtain⟨I,Y,h3,h4⟩:=CC.aF t s (λz=>nomatch z);have J:=t.blt _ Y;obtain⟨n,j⟩:=w.h _ _ _ _ _ rfl k.1;obtain _ | ⟨a,_ | ⟨b,_ | ⟨_,_⟩⟩⟩:=l
        ·simp at k
        ·obtain _ | ⟨c1,_ | ⟨_,_⟩⟩:=d
         ·simp at j
         ·have m:=k.1;rw[IB,IA] at m;exact good A B v (aa I J n (by rw[zC m.1];rfl)) (λ_=>rfl) (nb (λz=>nomatch z) λZ H R q=>Va Z H R q)
         ·simp at j
        ·obtain _ | ⟨c1,_ | ⟨c2,_ | ⟨_,_⟩⟩⟩:=d
         ·simp at j
         ·simp at j
         ·have m:=k.1;rw[IB,IA,IB,IA] at m;exact good A B v (da I J n (by rw[zC m.1,zC m.2.1];rfl) (by rw[zC m.2.1];rfl)) (λ_=>rfl) (nb (λz=>nomatch z) λZ H R q=>Wa Z H R q)
         ·simp at j
        ·simp at k
       ·cases g
      ·cases g
     ·split at g
      ·rename_i r;have r:=dC r;subst r;split at g
       ·rename_i s;split at g
        ·rename_i k;cases g;rw[IA] at k;obtain⟨I,Y,h3,h4⟩:=CC.aF t s (λz=>nomatch z);have J:=t.blt _ Y;obtain⟨n,j⟩:=w.h _ _ _ _ _ rfl k.1;obtain _ | ⟨a,_ | ⟨_,_⟩⟩:=l
         ·simp at k
         ·obtain _ | ⟨c1,_ | ⟨_,_⟩⟩:=d
          ·simp at j
          ·have m:=k.1;rw[IB,IA] at m;obtain⟨elts,kk,tp,rfl⟩:=TZ v (by simpa[xJ] using F);exact good A B v (Y9 I J n (by rw[zC m.1];rfl)) (λ_=>rfl) (nb (λz=>nomatch z) λZ H R q=>fW t.yC Z H R q)
          ·simp at j
         ·simp at k
        ·cases g
       ·cases g
      ·exact gen _ rfl rfl g
    ·split at g
     ·rename_i hx;split at g
      ·split at g
       ·cases g;exact absurd O (by decide)
       ·cases g
      ·cases g
     ·split at g
      ·exact gen _ rfl ‹_› g
      ·cases g
   ·exact AA
  ·exact AA
 ·exact AA
def SQ(j:OA X K P C U){b cond:List E}(g:GA X K P C iter ci)(i:oQ X K P C iter b)
  (k:∀f,OA f K P C (U.inner a)->GA f K P C d ce) (l:∀f,OA f K P C (U.inner a)->SH f vA (wJ K P C cond)) :
  GA X K P C (.ListComp d [⟨e,iter,vA,0⟩] a pos) (pL U a e iter ci b cond ce)/\xM X K P C (.ListComp d [⟨e,iter,vA,0⟩] a pos) (pL U a e iter ci b cond ce)/\PE X (.ListComp d [⟨e,iter,vA,0⟩] a pos) (PZ K P C (pL U a e iter ci b cond ce)) :=
 aAU j g i (Φ:=λc=>GA X K P C (.ListComp d [⟨e,iter,vA,0⟩] a pos) c/\xM X K P C (.ListComp d [⟨e,iter,vA,0⟩] a pos) c/\PE X (.ListComp d [⟨e,iter,vA,0⟩] a pos) (PZ K P C c)) ⟨lB,qN,λdA s Z H Q I h=>h.elim⟩ λm n o p q r=>oy j m n o p q r k l
end
def Hw(b:VX a=bA)(h:cE U a=.mK c):∃p e pos,a=.Call (.Name ("set":fA) p) [e] [] pos/\U.glob ("set":fA)=.blt/\aAe e=bA/\c=cE U e:=by
 unfold VX at b
 cases qi:iN a with
 |none=>rw[qi] at b;cases b
 |some y =>
 rw[qi] at b;obtain⟨⟨f,p⟩,l,pos⟩:=y;obtain _ | ⟨e,_ | ⟨_,_⟩⟩:=l
 ·cases b
 ·obtain rfl:=YX qi;have d:=dC b;have d:f=("set":fA):=d;subst d;replace h:(if [e].all aAe&&decide ([e]≠[]) then(match U.glob ("set":fA) with | .fn g=>.call g (yB U [e]) | .cls j=>.make ("set":fA) j (yB U [e]) | .blt=>if("set":fA)=("isinstance":fA) then UR U [e] (yB U [e]) else rO ("set":fA) [e] (yB U [e]) | .obj g=>.nI ("set":fA) g (yB U [e]) | _=>E.AA) else E.AA)=.mK c:=h;split at h
  ·rename_i i;split at h
   ·cases h
   ·cases h
   ·rename_i k;rw[pB (by decide)] at h;unfold rO aAX at h;rw[pB (by decide),QA rfl] at h;simp only[yB] at h;cases h;rw[IA,IB,IA] at i;exact⟨p,e,pos,rfl,k,i.1.1,rfl⟩
   ·cases h
   ·cases h
  ·cases h
 ·cases b
def ti(i:zA):Prop:=∃k a p2 b,i=.Slice eA eA (aA (.UnaryOp .USub (.Constant (.int 1) k a) p2)) b
def Ws(h:UX i=bA):ti i:=by
 induction i using qD with
 |Slice lo b st q =>
  obtain _ | _:=lo
  ·obtain _ | _:=b
   ·obtain _ | st:=st
    ·exact UI h
    ·induction st using qD with
     |UnaryOp op a p =>
      induction op using UnaryOp.casesOn with
      |USub =>
       induction a using qD with
       |Constant c k d =>
        induction c using Const.casesOn with
        |int n =>
         have h:=dC (show(n==1)=bA from h);subst h;exact Exists.intro _ ⟨_,_,_,rfl⟩
        |_=>exact UI h
       |_=>exact UI h
      |_=>exact UI h
     |_=>exact UI h
   ·exact UI h
  ·exact UI h
 |_=>exact UI h
def u6(h:yR U b=aA q):∃p,b=.Name q.1 p/\U.glob q.1=.iI q.2.1 q.2.2:=by
 unfold yR at h;split at h
 ·split at h
  ·cases h;exact⟨_,rfl,‹_›⟩
  ·cases h
 ·cases h
def zy{K:jA}(d:OA X K P C U)(e:GA X K P C a f)(h:GA X K P C (.Compare a [op] [b] pos) c):GA X K P C (.Compare a [op] [b] pos) (ER U op b f c):=by
 unfold ER;split
 ·split
  ·rename_i q g;obtain⟨p,rfl,i⟩:=u6 g;exact yy d i e
  ·exact h
 ·exact h
def xy{K:jA}(b:OA X K P C U)(d:GA X K P C i ci)(e:iO i)(h:GA X K P C (.Subscript a i pos) c):GA X K P C (.Subscript a i pos) (BR U a ci c):=by
 unfold BR;split
 ·rename_i q f;obtain⟨p,rfl,g⟩:=u6 f;exact wy b g d e
 ·exact h
def Ct(U:CC)(a i:zA)(p:vC):(∃lo b q,i=.Slice lo b eA q)\/((∀lo b q,i≠.Slice lo b eA q)/\cE U (.Subscript a i p)=if UX i then .AA else BR U a (cE U i) (.ix (cE U a) (cE U i))):=by
 induction i using qD with
 |Slice lo b st q =>
  induction st using cH with
  |none=>exact .inl ⟨_,_,_,rfl⟩
  |some _=>exact .inr ⟨λ_ _ _ z=>(by cases z),rfl⟩
 |_=>exact .inr ⟨λ_ _ _ z=>Expr.noConfusion z,rfl⟩
def SJ(K:jA)(P:XA)(C:Calls)(n:Nat):Prop:=∀(X:Cx) (U:CC),OA X K P C U->∀e:zA,sizeOf e<n->GA X K P C e (cE U e)
def b9(h:a<b)(k:b<n+1):a<n:=aE h (Nat.le_of_lt_succ k)
def zB(k:b<n+1)(h:a<b:=by simp;lia):a<n:=b9 h k
section
variable{K:jA}
def zN{r:List zA}(h:sizeOf (e::r)<n):sizeOf e<n:=iQ (by simp;lia) h
def XS{r:List zA}(h:sizeOf (e::r)<n):sizeOf r<n:=iQ (by simp;lia) h
theorem xO(b:SJ K P C n)(c:OA X K P C U):∀a:List zA,sizeOf a<n->a.all aAe=bA->PA X a (uK K P C (yB U a))
 |[],_,_=>h_
 |e::r,d,h=>by(rw[IB,IA] at h;exact f_ (b _ _ c e (zN d)) (xO b c r (XS d) h.2) h.1)
theorem aK(b:SJ K P C n)(c:OA X K P C U):∀a:List zA,sizeOf a<n->a.all aAe=bA->PA X a (mG K P C (yB U a))
 |[],_,_=>i_
 |e::r,d,h=>by(rw[IB,IA] at h;exact g_ (b _ _ c e (zN d)) (aK b c r (XS d) h.2) h.1)
theorem Q3(e:SJ K P C n)(f:OA X K P C U):∀c:List zA,sizeOf c<n->c≠[]->RH X K P C .And c (xV U c)
 |[],_,h=>absurd rfl h
 |[a],d,_=>Lx (e _ _ f a (zN d))
 |a::b::r,d,_=>v9 (e _ _ f a (zN d)) (Q3 e f (b::r) (XS d) (λz=>nomatch z))
theorem D9(e:SJ K P C n)(f:OA X K P C U):∀c:List zA,sizeOf c<n->c≠[]->RH X K P C .Or c (zV U c)
 |[],_,h=>absurd rfl h
 |[a],d,_=>Nx (e _ _ f a (zN d))
 |a::b::r,d,_=>w9 (e _ _ f a (zN d)) (D9 e f (b::r) (XS d) (λz=>nomatch z))
theorem r9(a:SJ K P C n)(b:OA X K P C U):∀o:Option zA,sizeOf o<n->PO X o (tO K P C (cO U o))
 |none,_=>U_
 |some e,c=>W_ (a _ _ b e (iQ (by simp) c))
def JU(g:SJ K P C n)(h:OA X K P C U)(e:zA)(i:sizeOf e<n):oQ X K P C e (MQ U e):=by
 cases e<;>first
  | (rename_i f args l pos;exact⟨λj k a c b z d=>by cases z;exact⟨aK g h args (iQ (by simp;lia) i) d,P4 args⟩⟩)
  |exact⟨λj k a c b z d=>by cases z⟩
end
def zk{X:Cx}{K:jA}(l:SJ K P C n)(j:OA X K P C U)(e:zA)(d:sizeOf e<n+1):GA X K P C e (cE U e):=by
 induction e using qD with
 |Name x p =>
  exact QY j _ _
 |Constant c k p =>
  exact qy j _ _ _
 |Tuple H k p =>
  show GA X K P C _ (if H.all aAe then .t (yB U H) else .AA);split
  ·exact Wy j (xO l j _ (zB d) ‹_›)
  ·exact lB
 |List H p =>
  show GA X K P C _ (if H.all aAe then .l (yB U H) else .AA);split
  ·exact Iy j (xO l j _ (zB d) ‹_›)
  ·exact lB
 |Dict ks vs p=>exact sy j (λv hv=>l _ _ j v (b9 (by have:=List.sizeOf_lt_of_mem hv;simp;lia) d)) lB
 |BinOp a op b p =>
  exact jy j (l _ _ j _ (zB d)) (l _ _ j _ (zB d))
 |UnaryOp op a p =>
  cases op with
  |Not =>
   exact Oy j (l _ _ j _ (zB d))
  |USub =>
   exact Ny j (l _ _ j _ (zB d))
  |_=>exact lB
 |Compare a M cs p =>
  obtain _ | ⟨op,_ | ⟨I,_ | ⟨_,_⟩⟩⟩:=M
  ·exact lB
  ·obtain _ | ⟨b,_ | ⟨_,_⟩⟩:=cs
   ·exact lB
   ·show GA X K P C _ (if GJ op b then .AA else ER U op b (cE U a) (.tA op (cE U a) (cE U b)));split
    ·exact lB
    ·refine zy j (l _ _ j _ (zB d)) ?_;exact my j (l _ _ j _ (zB d)) (l _ _ j _ (zB d)) (by rename_i h;simpa using h)
   ·exact lB
  ·obtain _ | ⟨b,_ | ⟨c,_ | ⟨_,_⟩⟩⟩:=cs
   ·exact lB
   ·exact lB
   ·show GA X K P C _ (if GJ I c then .AA else .fE op I (cE U a) (cE U b) (cE U c));split
    ·exact lB
    ·exact ny j (l _ _ j _ (zB d)) (l _ _ j _ (zB d)) (l _ _ j _ (zB d)) (by rename_i h;simpa using h)
   ·exact lB
  ·exact lB
 |BoolOp op vs p =>
  obtain _ | ⟨a,_ | ⟨b,r⟩⟩:=vs
  ·cases op<;>exact lB
  ·cases op<;>exact lB
  ·cases op with
   |And =>
    exact(v9 (l _ _ j _ (zB d)) (Q3 l j _ (zB d) (by simp))).x9 λi z=>nomatch z
   |Or =>
    exact(w9 (l _ _ j _ (zB d)) (D9 l j _ (zB d) (by simp))).x9 λi z=>nomatch z
 |IfExp c a b p =>
  exact Cy (l _ _ j _ (zB d)) (l _ _ j _ (zB d)) (l _ _ j _ (zB d))
 |Subscript a i p =>
  rcases Ct U a i p with ⟨lo,hi,q,rfl⟩ | ⟨hn,e⟩
  ·exact Sy j (l _ _ j _ (zB d)) (r9 l j _ (zB d)) (r9 l j _ (zB d))
  ·rw[e];split
   ·rename_i hr;obtain⟨k,p1,p2,p3,rfl⟩:=Ws hr;exact lB
   ·exact xy j (l _ _ j _ (zB d)) (ka hn) (Dy j (l _ _ j _ (zB d)) (l _ _ j _ (zB d)) (ka hn))
 |Call fn args F pos =>
  induction fn using qD with
  |Name f p =>
   induction F using EC with
   |nil =>
    show GA X K P C _ (if args.all aAe&&decide (args≠[]) then(match U.glob f with | .fn g=>.call g (yB U args) | .cls s=>.make f s (yB U args) | .blt=>if f=("isinstance":fA) then UR U args (yB U args) else rO f args (yB U args) | .obj g=>.nI f g (yB U args) | _=>.AA) else .AA);split
    ·rename_i u;rw[IA] at u;obtain⟨s,ne⟩:=u
     induction args using EC with
     |nil=>simp at ne
     |cons a r =>
      split
      ·rename_i g A;exact ly j A s (aK l j _ (zB d) s)
      ·rename_i g A;exact Jy j A s (xO l j _ (zB d) s)
      ·rename_i A;split
       ·rename_i N;subst N;unfold UR
        cases q1:two (a::r) with
        |none=>exact lB
        |some p =>
         obtain⟨a',t⟩:=p;obtain⟨rfl,rfl⟩:=cQ (eHa q1);show GA X K P C _ (XX U t (cE U a));rw[IB,IA] at s;unfold XX;split
         ·exact By j A ‹_› s.1 (l _ _ j _ (zB d))
         ·exact lB
       ·unfold rO;split
        ·rename_i B;subst B;unfold T8;split
         ·rename_i c J;obtain⟨a',q2,J⟩:=MJ.mp J;obtain⟨rfl,rfl⟩:=cQ (lEa q2);split at J
          ·rename_i O;obtain⟨p2,e2,tJa,rfl,Q,R,rfl⟩:=Hw O (Lw (show IY (cE U a)=aA c from J));exact Py j A Q R (l _ _ j e2 (zB d))
          ·cases J
         ·exact PY j A (b:=.len) rfl s (aK l j _ (zB d) s)
        ·split
         ·unfold aAX;split
          ·exact My
          ·exact lB
         ·split
          ·exact lB
          ·split
           ·rename_i B;subst B;exact PY j A (b:=.list) rfl s (aK l j _ (zB d) s)
           ·split
            ·rename_i b hb;exact PY j A hb s (aK l j _ (zB d) s)
            ·exact lB
      ·rename_i g A;exact Ly j A s (xO l j _ (zB d) s)
      ·exact lB
    ·exact lB
   |cons _ _=>exact lB
  |Attribute o m MA =>
   induction o using qD with
   |Name x p =>
    induction F using EC with
    |nil =>
     have hD:GA X K P C (.Call (.Attribute (.Name x p) m MA) args [] pos) (Z3 U x m MA pos args (yB U args)):=by
      induction args using EC with
      |nil =>
       show GA X K P C _ (MU U x m MA pos);unfold MU;split
       ·rename_i u;rw[IA] at u;obtain⟨hl,w⟩:=u;have w:=dC w;subst w;exact ky j hl
       ·split
        ·rename_i u;rw[IA] at u;obtain⟨hl,w⟩:=u;have w:=dC w;subst w;split
         ·exact Qy j ‹_› hl
         ·exact lB
        ·exact Zy j
      |cons a as =>
       induction as using EC with
       |nil =>
        show GA X K P C _ (NU U x m MA pos a (cE U a));unfold NU;split
        ·rename_i u;rw[IA,IA] at u;obtain⟨⟨s,hl⟩,w⟩:=u;have w:=dC w;subst w;split
         ·exact iy j ‹_› hl s (l _ _ j _ (zB d))
         ·exact lB
        ·split
         ·rename_i u;rw[IA,IA] at u;obtain⟨⟨s,hl⟩,w⟩:=u;have w:=dC w;subst w;split
          ·exact uy j ‹_› hl s (l _ _ j _ (zB d))
          ·exact lB
         ·split
          ·rename_i u;rw[IA,IA] at u;obtain⟨⟨s,hl⟩,w⟩:=u;have w:=dC w;subst w;exact lB
          ·exact gy j
       |cons b as=>exact lB
     show GA X K P C _ (PU U x m MA pos args (yB U args));unfold PU;split
     ·rename_i tb w;split
      ·rename_i u;rw[IA,IA] at u;obtain⟨⟨s,hl⟩,N⟩:=u;split
       ·exact Ky j ‹_› w s hl (of_decide_eq_true N) (aK l j _ (zB d) s) λz=>by rw[z,yB]
       ·exact lB
      ·exact lB
     ·exact hD
    |cons _ _=>exact lB
   |Constant c0 j0 p0 =>
    cases c0 with
    |str s0 =>
     obtain _ | ⟨a0,_ | ⟨_,_⟩⟩:=args
     ·cases F<;>exact lB
     ·induction F using EC with
      |nil=>exact Fy j (l _ _ j _ (zB d))
      |cons _ _=>exact lB
     ·cases F<;>exact lB
    |_=>exact lB
   |Call g as Y p2 =>
    induction as using EC with
    |nil=>exact lB
    |cons a0 Z =>
     induction F using EC with
     |nil =>
      show GA X K P C _ (HY U m MA pos args (cE U (.Call g (a0::Z) Y p2)) (yB U args));unfold HY;split
      ·rename_i tb w;split
       ·rename_i u;rw[IA,IA] at u;exact lB
       ·exact lB
      ·exact lB
     |cons _ _=>exact lB
   |_=>exact lB
  |_=>exact lB
 |Attribute o f p =>
  induction o using qD with
  |Name x q =>
   exact vy j
  |_=>exact lB
 |ListComp DB gs scope pos =>
  obtain _ | ⟨⟨tg,iter,vA,m⟩,_ | ⟨_,_⟩⟩:=gs
  ·exact lB
  ·obtain _ | ⟨c,_ | ⟨_,_⟩⟩:=vA<;>obtain(_ | _) | _:=m
   ·exact(SQ j (l _ _ j _ (zB d)) (JU l j _ (zB d)) (λX' y=>l _ _ y _ (zB d)) (λX' y=>ya)).1
   ·exact lB
   ·exact lB
   ·exact(SQ j (l _ _ j _ (zB d)) (JU l j _ (zB d)) (λX' y=>l _ _ y _ (zB d)) (λX' y=>za (l _ _ y _ (zB d)))).1
   all_goals exact lB
  ·obtain _ | ⟨c,_ | ⟨_,_⟩⟩:=vA<;>obtain(_ | _) | _:=m<;>exact lB
 |_=>exact lB
theorem RR{K:jA}:∀n:Nat,SJ K P C n
 | 0=>λ_ _ _ _ h=>absurd h (eg _)
 |n+1=>λ_ _ a e h=>zk (RR n) a e h
section
variable{K:jA}
def zF(a:OA X K P C U)(e:zA):GA X K P C e (cE U e):=RR _ _ _ a e (CJ _)
def O4(a:OA X K P C U)(e:zA):oQ X K P C e (MQ U e):=JU (RR _) a e (CJ _)
def NQ(b:OA X K P C U)(a:List zA)(h:a.all aAe=bA):PA X a (mG K P C (yB U a)):=aK (RR _) b a (CJ _) h
end
def Sx{K:jA}(b:OA X K P C U)(e:zA)(h:SX e=bA):xM X K P C e (cE U e):=by
 induction e using qD<;>first | exact UI h | skip
 rename_i d i f pos;obtain _ | ⟨⟨j,iter,vA,n⟩,_ | ⟨_,_⟩⟩:=i
 ·exact qN
 ·obtain _ | ⟨c,_ | ⟨_,_⟩⟩:=vA<;>obtain(_ | _) | _:=n
  ·exact(SQ b (zF b iter) (O4 b iter) (λg a=>zF a d) (λg a=>ya)).2.1
  ·exact qN
  ·exact qN
  ·exact(SQ b (zF b iter) (O4 b iter) (λg a=>zF a d) (λg a=>za (zF a c))).2.1
  all_goals exact qN
 ·obtain _ | ⟨c,_ | ⟨_,_⟩⟩:=vA<;>obtain(_ | _) | _:=n<;>exact qN
end CI
namespace CI
set_option tactic.hygienic true
open PySem PySem.Spec PyProof.Rows L2
section
variable{X:Cx}{K:jA}{P:XA}{C:Calls}{W:Nat}{U:CC}
def U9(a:PE X e t)(b:PE X e u):PE X e (λZ H Q=>t Z H Q\/u Z H Q):=λdA s Z H Q I q=>q.elim (a dA s Z H Q I) (b dA s Z H Q I)
end
end CI
namespace CI
set_option tactic.hygienic true
open PySem PySem.Spec PyProof.Rows L2
end CI
namespace CI
set_option tactic.hygienic true
open PySem PySem.Spec PyProof.Rows L2
section
variable{X:Cx}{K:jA}{P:XA}{C:Calls}{W:Nat}{U:CC}
def Jg(U:CC)(e:zA):Prop:=(∃f p a r pos g,e=.Call (.Name f p) (a::r) [] pos/\U.glob f=.obj g/\(a::r).all aAe=bA/\cE U e=.nI f g (yB U (a::r))) \/
 (∃x p m MA as pos c i,e=.Call (.Attribute (.Name x p) m MA) as [] pos/\U.gl (dot m)=.nD c/\U.slot x=aA i/\as.all aAe=bA/\(MA.endLine==pos.line)=bA/\as.length<29/\cE U e=.iG i m c (yB U as)) \/
 ∃b k p,e=.Tuple b k p/\b.all aAe=bA/\cE U e=.t (yB U b)
def UD(U:CC)(e:zA):Prop:=((∃f p a r pos g,e=.Call (.Name f p) (a::r) [] pos/\U.glob f=.fn g/\(a::r).all aAe=bA/\cE U e=.call g (yB U (a::r)))\/Jg U e)\/∃b c iter vA d pos,e=.ListComp b [⟨c,iter,vA,0⟩] d pos/\(vA=[]\/∃h,vA=[h])
end
end CI
namespace CI
set_option tactic.hygienic true
open PySem PySem.Spec PyProof.Rows L2
section
variable{X:Cx}{K:jA}{P:XA}{C:Calls}{W:Nat}{U:CC}{dA ia:List (lA×AB)}{Z:St}{H G:Hp}{s:HA}
abbrev Cx.re(X:Cx)(E:gA->HA->Prop)(pn:List (lA×AB)):Cx:={ X with xe:=E,pn:=pn }
abbrev RE(X:Cx)(b:List cB)(t:Cx->TS):Prop:=∀E pn,qM (model X.prog X.w) X.A X.env E->bD (Cx.re X E pn) b (t (Cx.re X E pn))
def Ry{E:gA->HA->Prop}(o:X.Ok):(Cx.re X E pn).Ok :=
 ⟨o.mod,o.kind,o.glob,o.blt,o.above,o.inj,o.has,o.lL,o.hd,o.frames,o.wN,o.hR,o.bs,o.ZH,o.ML,o.QM,o.dG,o.bJ⟩
def Yy{E:gA->HA->Prop}(o:(Cx.re X E pn).Ok):X.Ok :=
 ⟨o.mod,o.kind,o.glob,o.blt,o.above,o.inj,o.has,o.lL,o.hd,o.frames,o.wN,o.hR,o.bs,o.ZH,o.ML,o.QM,o.dG,o.bJ⟩
def Mr{E:gA->HA->Prop}(I:kA X dA Z H s):kA (Cx.re X E (X.pn++dA)) [] Z H s :=
 ⟨Ry I.ok,I.os,I.bare,I.base,I.loc,I.cell,I.free,I.NG,λp a=>I.pin p (by simpa using a),I.aB,I.len⟩
def f7{E:gA->HA->Prop}(I:kA (Cx.re X E (X.pn++dA)) ia Z H s):kA X dA Z H s :=
 ⟨Yy I.ok,I.os,I.bare,I.base,I.loc,I.cell,I.free,I.NG,λp a=>I.pin p (CT _ a),I.aB,I.len⟩
theorem OA.re{E:gA->HA->Prop}(xo:OA X K P C U):OA (Cx.re X E pn) K P C U :=
 OA.of xo.yC xo.nJ xo.nm xo.nd xo.calm xo.hh xo.hu xo.c xo.blt (λx f h=>⟨(xo.fn x f h).ex⟩) (λx ns h=>⟨(xo.cls x ns h).ex⟩) (λm j c f h1 h2=>⟨(xo.nD m j c f h1 h2).ex⟩) xo.rm xo.sub xo.yH xo.iE ⟨xo.exc,λx h=>⟨(xo.dI x h).ex⟩⟩ xo.YA ⟨λx f h=>⟨(xo.fnX x f h).ex⟩,λx f h=>⟨(xo.obj x f h).ex⟩,λm j c f h1 h2=>⟨(xo.Zw m j c f h1 h2).ex⟩⟩ xo.tp
abbrev sx:Ends:={ nx:=λ_ _=>False,rt:=λ_ _=>False }
def SP.no(h:SP X dA sx f s):False:=by
 induction f using T2 with
 |ret u=>obtain⟨_,_,_,_,_,z⟩:=h;exact z
 |_=>obtain⟨_,_,_,z⟩:=h;exact z
def SP.un{E:gA->HA->Prop}{D:Ends}(h:SP (Cx.re X E (X.pn++dA)) ia D f s):SP X dA D f s:=by
 induction f using T2 with
 |ret u=>obtain⟨v,j,k,J,z⟩:=h;exact⟨v,j,k,f7 J,z⟩
 |_=>obtain⟨j,k,J,z⟩:=h;exact⟨j,k,f7 J,z⟩
def wGa{D:Ends}(b:RE X body λ_=>t)(I:kA X dA Z H s)(h:t D Z H) :
  JA (model X.prog X.w) X.A (exec (.Try body [c] [] [] pos) X.env) (SP X dA D) X.xe s :=
 wpAny_Try_except (FH (b _ (X.pn++dA) PassesOwn.looking [] s Z H D (Mr I) h) (λf d a=>by
  have a:=SP.un a
  induction f using T2 with
  |next=>exact R1 a
  |_=>exact a) λ_ _ z=>z)
def iAa(a:∀Y,ex P C W c Y=YA P C W b Y)
  (d:RE X body λ_=>FG K P C W b):PS X (.Try body [h] [] [] pos) (tS K P C W c) :=
 λdA s Z H D I f=>(by obtain⟨Y,G,fl,g,r,e,k⟩:=f;exact wGa d I ⟨Y,G,fl,g,r,(a Y).symm.trans e,k⟩)
def jAa
  (b:RE X body λ_=>FG K P C W c):PS X (.Try body d o f pos) (tS K P C W (VZ c d o f)):=by
 unfold VZ;split
 ·split
  ·rename_i a;rw[IA] at a;obtain rfl:=Sf.mp a.1;obtain rfl:=Sf.mp a.2;exact iAa (λY=>rfl) b
  ·exact mC
 ·exact mC
def dAa(a:OA X K P C U)(b:U.slot x=aA i)(n:WD e=bA)(c:MY k=bA):PS X (.Assign [.Subscript (.Name x p) k p2] e pos) (tS K P C W (yZ i k (cE U k) (cE U e))):=by
 have h:PS X (.Assign [.Subscript (.Name x p) k p2] e pos) (tS K P C W (.set i (cE U k) (cE U e))):=gAa a b (zF a _) (zF a _) n λv=>by induction k using qD<;>first | rfl | cases c
 exact h
def hAa(a:OA X K P C U):PS X (.Assign [.Tuple ts k p] e pos) (tS K P C W (KZ U ts e (cE U e))):=by
 exact mC
end
end CI
namespace CI
set_option tactic.hygienic true
open PySem PySem.Spec PyProof.Rows L2
end CI
namespace CI
set_option tactic.hygienic true
open PySem PySem.Spec PyProof.Rows L2
section
variable{K:jA}
def fEa(a:OA X K P C U)(h:U.lG x=aA i):X.N[i]?=aA x/\L2.Loc X.env.scope x/\U.EL x=bA:=by
 unfold CC.lG at h;split at h
 ·rename_i hl
  have b:X.N[i]?=aA x:=by
   unfold CC.slot at h;split at h
   ·cases h
   ·split at h
    ·rw[a.nJ];exact QR h
    ·cases h
  refine⟨b, ?_,hl⟩;unfold L2.Loc;rw[a.nm];unfold CC.EL at hl;rw[EJ,IA] at hl;rcases hl with hl | hl
  ·exact .inl (dC hl)
  ·exact .inr (dC hl.2)
 ·cases h
def fAa(b:OA X K P C U):PS X (.Assign [.Attribute a f p2] e pos) (tS K P C W (sH U a f e)):=by
 unfold sH;split
 ·rename_i x g c d;obtain⟨p,rfl⟩:=nS c;split
  ·split
   ·exact eAa b ‹_› d (zF b e) ‹_›
   ·exact mC
  ·exact mC
 ·exact mC
def F'(d:OA X K P C U)(f:dH X U)(j:U.lG x=aA i)(h:xM X K P C e c):PS X (.Assign [.Name x p] e pos) (tS K P C W (.LA i c)):=by
 obtain⟨l,m,n⟩:=fEa d j;refine TS.fG (h x i p pos (by rw[d.nJ];exact d.nd) l m (f x n)) λD Z H o=>?_
 obtain⟨Y,G,fl,y,r,e,k⟩:=o;obtain⟨v,g,s,b⟩:=hI e k.ne;unfold yG at b
 cases q:store i v g with
 |none=>rw[q] at b;cases b
 |some z =>
  rw[q] at b;cases b;exact⟨Y,G,v,g,r,s,λx t u a w=>k _ t u (FA.store r a q w)⟩
def Lp(i:OA X K P C U)(N:dH X U){Φ:List E->Prop}
  (B:BH U O=aA (one,is)) (d:iK U t=aA (A,k)) (o:xJ A one=bA) (fin:∀{F:TI} {r:List E},(∀x,LI t X.env x=pure x)->PI X O t F->(∀Z H (R:It->Hp->Prop),OH K P C A r Z H R->F Z H R)->Φ r):Φ (yB U k):=by
 have gen:∀e:zA,t=e->vS e=bA->aA (ZF.of,[e])=aA (A,k)->Φ (yB U k):=λe Q Y hq=>by(subst Q;cases hq;exact fin (zX Y _) (PI.or (Z9 (zF i t).h) (ea (zF i t).h)) λZ H R q=>u9 i.yC Z H R q)
 unfold iK at d;split at d
 ·rename_i x u;obtain⟨⟨f,p⟩,args,v⟩:=x;obtain rfl:=YX u;dsimp only at d;split at d
  ·rename_i l;have l:=dC l;subst l;split at d
   ·rename_i m;split at d
    ·rename_i g;cases d;rw[IA] at g;obtain⟨n,w,I,J⟩:=CC.aF i m (λz=>nomatch z);have s:=i.blt _ w;obtain _ | ⟨a,_ | ⟨b,_ | ⟨_,_⟩⟩⟩:=k
     ·simp at g
     ·have j:=g.1;rw[IB,IA] at j;exact fin (λ_=>rfl) (aa n s (NQ i [a] g.1) (by rw[zC j.1];rfl)) λZ H R q=>Va Z H R q
     ·have j:=g.1;rw[IB,IA,IB,IA] at j;exact fin (λ_=>rfl) (da n s (NQ i [a,b] g.1) (by rw[zC j.1,zC j.2.1];rfl) (by rw[zC j.2.1];rfl)) λZ H R q=>Wa Z H R q
     ·simp at g
    ·cases d
   ·cases d
  ·split at d
   ·rename_i l;have l:=dC l;subst l;split at d
    ·rename_i m;split at d
     ·rename_i g;cases d;rw[IA] at g;obtain⟨n,w,I,J⟩:=CC.aF i m (λz=>nomatch z);have s:=i.blt _ w;obtain _ | ⟨a,_ | ⟨_,_⟩⟩:=k
      ·simp at g
      ·have j:=g.1;rw[IB,IA] at j;obtain⟨y,kk,tp,rfl⟩:=TZ B (by simpa[xJ] using o);exact fin (λ_=>rfl) (Y9 n s (NQ i [a] g.1) (by rw[zC j.1];rfl)) λZ H R q=>fW i.yC Z H R q
      ·simp at g
     ·cases d
    ·cases d
   ·exact gen _ rfl rfl d
 ·split at d
  ·rename_i x M;obtain⟨f,a,x,c⟩:=x;obtain⟨p,jj,qq,kp,v,rfl⟩:=dt M;clear M;dsimp only at d;split at d
   ·rename_i g;rw[IA,IA,IA] at g;obtain⟨⟨⟨l,u⟩,j⟩,n⟩:=g;have l:=dC l;have u:=dC u;have n:=dC n;subst l u n;split at d
    ·rename_i m;cases d;obtain⟨n,w,I,J⟩:=CC.aF i m (λz=>nomatch z);have s:=i.blt _ w;obtain⟨y,kk,tp,rfl⟩:=TZ B (by simpa[xJ] using o);exact fin (λ_=>rfl) (K_ n s (NQ i [_] (by rw[IB,j];rfl)) (by rw[zC j];rfl)) λZ H R q=>fW i.yC Z H R q
    ·cases d
   ·cases d
  ·split at d
   ·exact gen _ rfl ‹_› d
   ·cases d
def Mp(h:OA X K P C U)(d:dH X U){b:List zA}{Φ:List E->Prop}
  (i:BH U j=aA (one,is)) (k:iK U e=aA (f,b)) (c:xJ f one=bA) (fin:∀{g:TI} {a:List E},(∀x,LI e X.env x=pure x)->PI X j e g->(∀Z H (R:It->Hp->Prop),OH K P C f a Z H R->g Z H R)->Φ a):Φ (VR U e body (yB U b)):=by
 exact Lp h d i k c fin
structure yM(X:Cx)(K:jA)(P:XA)(C:Calls)(U:CC):Prop where
 po:qM (model X.prog X.w) X.A X.env X.xe
 xo:OA X K P C U
 Nq:dH X U
 sk:U.top=bA->X.stack=X.env::X.outer/\X.env.frame=aA X.env.locals
def tU(K:jA)(P:XA)(C:Calls)(W:Nat)(U:CC)(n:Nat):Prop:=∀X:Cx,yM X K P C U->∀a:List cB,sizeOf a<n ->
 bD X a (FG K P C W (MG U a))/\True
theorem yM.re{E:gA->HA->Prop}(c:yM X K P C U)(po:qM (model X.prog X.w) X.A X.env E):yM (Cx.re X E pn) K P C U:=⟨po,c.xo.re,c.Nq,c.sk⟩
def Bk(s:tU K P C W U n)(m:yM X K P C U)(st:cB)(v:sizeOf st<n+1):PS X st (tS K P C W (cS U st)):=by
 obtain⟨po,d,g,M⟩:=id m
 induction st using wg with
 |Pass _=>exact W'
 |Break _=>exact K'
 |Continue _=>exact L'
 |Return e y =>
  induction e using cH with
  |some e =>
   have F:PS X (.Return (aA e) y) (tS K P C W (Ua e (cE U e))):=cAa (zF d e);exact F
  |none=>exact bAa
 |Expr e _ =>
  show PS X _ (tS K P C W (if WD e then .expr (cE U e) else .AA));split
  ·exact R' (zF d _) ‹_›
  ·exact mC
 |If c a b _=>exact U' (zF d _) (s _ m a (zB v)).1 (s _ m b (zB v)).1
 |While c b o _ =>
  induction o using EC with
  |nil=>exact mC
  |cons _ _=>exact mC
 |For w j b o q =>
  induction o using EC with
  |nil =>
   have H:PS X (.For w j b [] q) (tS K P C W (match BH U w,iK U j with
    |some (one,is),aA (k,z)=>if xJ k one then .for is one k (VR U j b (yB U z)) (MG U b) else .AA
    |_,_=>.AA)):=by
    cases h1:BH U w with
    |none=>exact mC
    |some t =>
     cases h2:iK U j with
     |none=>exact mC
     |some u =>
      show PS X _ (tS K P C W (if xJ u.1 t.1 then .for t.2 t.1 u.1 (VR U j b (yB U u.2)) (MG U b) else .AA));split
      ·exact Mp d g h1 h2 ‹_› (Φ:=λr=>PS X (.For w j b [] _) (tS K P C W (.for t.2 t.1 u.1 r (MG U b)))) λB I J=>Kp po d (Sd d g h1) (s _ m b (zB v)).1 B I J
      ·exact mC
   exact H
  |cons _ _=>exact mC
 |Assign ts e _ =>
  obtain _ | ⟨t,_ | ⟨_,_⟩⟩:=ts
  ·exact mC
  ·induction t using qD with
   |Name x p =>
    show PS X _ (tS K P C W (match U.lG x with | some i=>if WD e||SX e then .LA i (cE U e) else .AA | none=>.AA));split
    ·split
     ·rename_i l;rw[EJ] at l;rcases l with l | l
      ·exact C' d g ‹_› (zF d _) l
      ·exact F' d g ‹_› (Sx d _ l)
     ·exact mC
    ·exact mC
   |Tuple ts _ _ =>
    show PS X _ (tS K P C W (match bM U ts with | some is=>if WD e&&xS e then .DM is (cE U e) else .AA | none=>KZ U ts e (cE U e)));split
    ·split
     ·rename_i h;rw[IA] at h;exact E' d g ‹_› (zF d _) h.1 h.2
     ·exact mC
    ·exact hAa d
   |Subscript a k _ =>
    cases a with
    |Name x p =>
     show PS X _ (tS K P C W (match U.slot x with | some i=>if WD e&&MY k then yZ i k (cE U k) (cE U e) else .AA | none=>.AA));split
     ·split
      ·rename_i h;rw[IA] at h;exact dAa d ‹_› h.1 h.2
      ·exact mC
     ·exact mC
    |_=>exact mC
   |Attribute a f _=>exact fAa d
   |_=>exact mC
  ·induction t using qD with
   |Subscript a _ _=>cases a<;>exact mC
   |_=>exact mC
 |AugAssign t op e _ =>
  induction t using qD with
  |Name x p =>
   induction op using Operator.casesOn with
   |Add =>
    show PS X _ (tS K P C W (match U.lG x with | some i=>if WD e then .AA else .AA | none=>.AA));split
    ·split
     ·exact mC
     ·exact mC
    ·exact mC
   |_=>exact mC
  |_=>exact mC
 |Raise e c _ =>
  induction e using cH with
  |none=>exact mC
  |some e =>
   induction c using cH with
   |none =>
    show PS X _ (tS K P C W (pZ U e));unfold pZ jb;split
    ·split
     ·split
      ·exact aZ λY=>rfl
      ·exact aZ λY=>rfl
      ·exact mC
     ·exact mC
    ·exact mC
   |some _=>exact mC
 |Try body B o f _=>exact jAa λE pn A=>(s _ (m.re A) body (zB v)).1
 |_=>exact mC
def Dk(c:tU K P C W U n)(b:yM X K P C U)(a:List cB)(d:sizeOf a<n+1):bD X a (FG K P C W (MG U a)):=by
 obtain⟨po,f,e,g⟩:=id b
 induction a using EC with
 |nil=>exact lAa
 |cons s r=>exact kAa (Bk c b s (iQ (by simp;lia) d)) (c _ b r (zB d)).1
theorem Y6:∀n:Nat,tU K P C W U n
 | 0,_,_,_,h=>absurd h (eg _)
 |n+1,_,c,a,h=>⟨Dk (Y6 n) c a h,trivial⟩
def Ck(po:qM (model X.prog X.w) X.A X.env X.xe)(c:OA X K P C U)(b:dH X U)(d:U.top=bA->X.stack=X.env::X.outer/\X.env.frame=aA X.env.locals)(a:List cB):bD X a (FG K P C W (MG U a)):=(Y6 _ X ⟨po,c,b,d⟩ a (CJ _)).1
end
end CI
namespace CI
set_option tactic.hygienic true
open PySem PySem.Spec PyProof.Rows L2
def cT(U:CC)(a:List cB):List S:=MG U a
section
variable{X:Cx}{K:jA}{P:XA}{C:Calls}{W:Nat}{U:CC}
def Ek(po:qM (model X.prog X.w) X.A X.env X.xe)(c:OA X K P C U)(b:dH X U)(d:U.top=bA->X.stack=X.env::X.outer/\X.env.frame=aA X.env.locals)(a:List cB):bD X a (FG K P C W (cT U a)):=by
 exact Ck po c b d a
end
end CI
namespace CI
set_option tactic.hygienic true
open PySem PySem.Spec PyProof.Rows L2
def LU:zA->Option (fA×fA)
 |.Attribute e f _=>(aAD e).map λs=>(s,f)
 |_=>eA
def T3:cB->Option (fA×fA×fA)
 |.Assign ts v _=>(match ts with
  |[]=>eA
  |t::r=>(match r with
   |_::_=>eA
   |[]=>(LU t).bind λp=>(aAD v).map λq=>(p.1,p.2,q)))
 |_=>eA
def Ui(h:LU e=aA x):∃a p2,e=.Attribute (.Name x.1 a) x.2 p2:=by
 induction e using qD with
 |Attribute =>
  obtain⟨s,b,rfl⟩:=NJ.mp (show(aAD _).map _=_ from h);obtain⟨_,rfl⟩:=nS b;exact⟨_,_,rfl⟩
 |_=>exact qJ h
def Oi{st:cB}(h:T3 st=aA x):∃a p2 b c,st=.Assign [.Attribute (.Name x.1 a) x.2.1 p2] (.Name x.2.2 b) c:=by
 induction st using wg with
 |Assign ts v _ =>
  induction ts using EC with
  |nil=>cases h
  |cons t r =>
   induction r using EC with
   |cons=>cases h
   |nil =>
    obtain⟨p,d,h⟩:=MJ.mp (show(LU t).bind _=_ from h);obtain⟨q,e,rfl⟩:=NJ.mp h;obtain⟨_,_,rfl⟩:=Ui d;obtain⟨_,rfl⟩:=nS e;exact⟨_,_,_,_,rfl⟩
 |_=>exact qJ h
def fJ(a:List fA):Nat->List cB->Option (List fA)
 |j,[]=>if j=a.length then aA [] else eA
 |j,st::r=>(T3 st).bind λx=>if a[0]?=aA x.1/\a[j]?=aA x.2.2/\hL x.1=cA/\hL x.2.2=cA then(fJ a (j+1) r).map (x.2.1 :: ·) else eA
theorem Aa:∀{fs:List (fA×V)},f ∉ fs.map (·.1)->PD f y fs=fs++[(f,y)]
 |[],_=>rfl
 | (g,x)::r,h=>by(rw[HC,mD,not_or] at h;rw[PD,pB (λz=>h.1 z.symm),Aa h.2];rfl)
def lHa(h:H a=aA o):EA H a o=H:=by
 funext b
 unfold EA;split
 ·rename_i z;rw[z,h]
 ·rfl
theorem d7{K:jA}(w:X.K=K)(l:∀(i:Nat) x,p[i]?=aA x->X.N[i]?=aA x/\kO X.env.scope x)(hl:xs.length+1=p.length)(cl:bE K u):∀(r:List cB) (j:Nat) (c:List fA),fJ p j r=aA c->1<=j ->
  ∃t,bD X r t/\∀(D:Ends) (Z:L2.St) (H:Hp) (fs:List (fA×V)),(∀(i:Nat) v,(V.ref a::xs)[i]?=aA v->Z[i]?=aA (aA v))->H a=aA (.ins u M fs)->(∀f∈c,aG K u f)->(fs.map (·.1)++c).Nodup->fs.length+c.length<1000 ->
   D.nx Z (EA H a (.ins u M (fs++c.zip (xs.drop (j-1)))))->t D Z H
 |[],j,c,h,Q=>by
  unfold fJ at h;split at h
  ·rename_i R;cases h;refine⟨RZ,va,λD Z H fs _ y _ _ _ q=>?_⟩;simp only[List.zip_nil_left,OF] at q;rw[lHa y] at q;exact q
  ·cases h
 |st::r,j,c,h,Q=>by
  unfold fJ at h;obtain⟨x,A,U⟩:=MJ.mp h;obtain⟨Y,p2,p3,p4,rfl⟩:=Oi A;obtain⟨s,f,q⟩:=x;replace h:=U;dsimp only at h;split at h
  ·rename_i hc;obtain⟨O,B,C,F⟩:=hc
   cases q1:fJ p (j+1) r with
   |none=>rw[q1] at h;cases h
   |some d =>
    rw[q1] at h;cases h;obtain⟨t,ht,k⟩:=d7 w l hl cl r (j+1) d q1 (by lia);simp only[hL,jf] at C F;have v0:=XY (pos:=Y) (l 0 s O).1 (l 0 s O).2 C.1.1 C.1.2;have v1:=XY (pos:=p3) (l j q B).1 (l j q B).2 F.1.1 F.1.2;refine⟨_,ua (pa v0 v1 rfl) ht,λD Z H fs I y P m n qq=>?_⟩;have hj2:j<p.length:=(lD.mp B).1;obtain⟨b,rfl⟩:∃b,j=b+1:=⟨j-1,by lia⟩
    have o:b<xs.length:=by lia
    have A:(V.ref a::xs)[b+1]?=aA xs[b]:=by simp[o]
    have J:f ∉ fs.map (·.1):=λz=>by
     have:=(List.nodup_append.mp m).2.2 f z f (by simp)
     exact this rfl
    refine⟨_,I _ _ A,.ref a,I 0 _ rfl,a,u,M,fs,rfl,y,by rw[w];exact cl,by rw[w];exact P f (by simp),by simp at n;lia, ?_⟩;rw[Aa J];refine k D Z _ _ I GC (λg hg=>P g (XC _ hg)) ?_ ?_ ?_
    ·simpa using m
    ·simp at n ⊢;lia
    ·rw[b0]
     have e:fs++(f::d).zip (xs.drop (b+1-1))=fs++[(f,xs[b])]++d.zip (xs.drop (b+1+1-1)):=by(rw[show b+1-1=b from rfl,show b+1+1-1=b+1 from rfl,I0 o,gM,BJ];rfl)
     rw[<- e];exact qq
  ·cases h
def NX{K:jA}{mg:fA->Option gA}{st:cB}{f:lA}(F:OI K y b st f r)(S:RJ N c (UB st))(u:fJ c 1 (uD st)=aA d)(B:c.length=d.length+1)(g:d.Nodup)(j:d.length<1000) :
  sE C w K mg base uF 1 f r c (Jb K d):=by
 refine F.ok S (λI H Q E h=>?_) λl A outer s H I Q E U h=>?_
 ·obtain⟨a,J,M,xs,rfl,n,_⟩:=h;rw[VB,n,B]
 ·obtain⟨a,J,M,xs,rfl,n,O,o,q⟩:=h
  have m:∀(i:Nat) x,c[i]?=aA x->N[i]?=aA x/\kO (UB st) x:=λi x e=>by
   have P:x∈c:=aH e;refine⟨?_, ?_⟩
   ·have:=S.pre
    rw[<- this,List.getElem?_take] at e;split at e
    ·exact e
    ·cases e
   ·rcases S.par x P with z | z
    ·exact .inl z
    ·exact .inr (.inl z)
  obtain⟨t,R,k⟩:=d7 (X:=(cI uF C w K mg base N b (UB st) f l A outer s H E).pN) (xs:=xs) (a:=a) rfl m (by lia) o.cl (uD st) 1 d u (oB _)
  ·refine⟨t,R,k _ _ H [] (λi v p=>?_) O o.no (by simpa using g) (by simpa using j) ?_⟩
   ·have hl:i<(V.ref a::xs).length:=(lD.mp p).1;rw[FZ hl,dD,p];rfl
   ·simpa using q
structure qQ(K:jA)(mg:fA->Option gA)(x:fA):Prop where
 ex:True
def qQ.at{K:jA}(j:X.K=K)(e:qQ K X.mg x):pQ X K x:=⟨trivial⟩
structure tM(K:jA)(T:Tab)(gl:fA->GV)(f:String)(fa:lA)(fd:pF)(ps:List fA):Prop where
 bd:aAr K fd ps []
 ex:∃(y cD:fA) (st:cB) (N:List fA) (fn:Fn),OI K y cD st fa fd/\RJ N ps (UB st)/\N.Nodup/\T f=aA fn/\fn.body=cT ⟨N,(UB st).names,gl,bA⟩ (uD st)/\N.length=fn.dA.length+fn.nl/\ps.length=fn.dA.length
structure Entry(K:jA)(mg:fA->Option gA)(T:Tab)(gl:fA->GV)(x:fA)(f:String)(fa:lA)(fd:pF)(ps:List fA):Prop where
 Dw:mg x=aA (.ref fa)
 kp:JG K (.ref fa)=bA
 b:tM K T gl f fa fd ps
structure mU(K:jA)(mg:fA->Option gA)(x:fA)(ns:List fA):Prop where
 ex:∃(Ca fa:lA) (fd:pF) (ps:List fA) (y cD:fA) (st:cB) (N:List fA),lC K uB x=aA (aA (.ref Ca))/\mg x=aA (.ref Ca)/\Mk K Ca fa/\UK K Ca ns /\
  OI K y cD st fa fd/\RJ N ps (UB st)/\fJ ps 1 (uD st)=aA ns/\ps.length=ns.length+1/\ns.Nodup/\ns.length<1000/\aAr K fd ps []
structure AU(K:jA)(T:Tab)(gl:fA->GV)(c m:fA)(f:String):Prop where
 ex:∃(Ca fa:lA) (fd:pF) (ps:List fA),lC K uB c=aA (aA (.ref Ca))/\Meth K Ca m fa/\tM K T gl f fa fd ps/\bE K Ca
structure DU(K:jA)(mg:fA->Option gA)(T:Tab)(gl:fA->GV)(x:fA)(f:String):Prop where
 ex:∃(Ca fa:lA) (fd:pF) (ps:List fA),lC K uB x=aA (aA (.ref Ca))/\mg x=aA (.ref Ca)/\Mk K Ca fa/\bE K Ca/\tM K T gl f fa fd ps
structure sU(pr:nQ)(K:jA)(mg:fA->Option gA)(T:Tab)(gl:fA->GV):Prop where
 c:∀x d,gl x=.c d->∃u v,mg x=aA u/\aAf v u/\∀G,qA K G d v
 blt:∀x,gl x=.blt->mg x=eA
 fn:∀x f,gl x=.fn f->∃fa fd ps,Entry K mg T gl x f fa fd ps
 cls:∀x ns,gl x=.cls ns->mU K mg x ns
 nD:∀m tb c f,gl (dot m)=.nD tb->tb.lookup c=aA f->AU K T gl c m f
 sub:∀x s n,gl (col x)=.sub s n->uQ K mg x s n
 yH:∀x s n,gl (col x)=.yH s n->vQ K mg x s n
 exc:∀x,gl x=.exc->ExcAt K mg x
 dI:∀x,gl x=.dI->qQ K mg x
 YA:∀x cs,gl (cat x)=.YA cs->aO K mg x cs
 obj:∀x f,gl x=.obj f->DU K mg T gl x f
 iE:(∀f cs,gl (ZJ f)=.iE cs->∀c∈cs,∀Ca,lC K uB c=aA (aA (.ref Ca))->aG K Ca f)/\∀x ks vs,gl x=.iI ks vs->bO pr mg K x ks vs
def GS{b:Bool}{o:Option (Exc×Env)}{as a:List Sl}{v:RV}(h:(if b=bA then(match o with | some (x,Y)=>(aA (Out.ex x,back as Y):yA RV) | none=>eA) else eA)=some (.ok v,a)):False:=by
 split at h
 ·split at h<;>cases h
 ·cases h
abbrev Bg(e:oE)(w:WC)(K:jA)(mg:fA->Option gA)(base:XB)(T:Tab)(g:fA->GV)(W d:Nat):Prop:=∀(f:String) (a:lA) (b:pF) (c:List fA),tM K T g f a b c->sE e w K mg base uF (2*d+2) a b c (YL K (T.dA f).length (run T W d f))/\True
def xHa{K:jA}{mg:fA->Option gA}{j:fA}{st:cB}{H:Hp}{E:XK}{xe:gA->HA->Prop}(g:sU w.params K mg T J)(r:Bg M w K mg base T J W d)(P:N.Nodup)(l:oC (2*d+3) (cI uF M w K mg base N j (UB st) Q v A outer s H E).A) :
  OA { cI uF M w K mg base N j (UB st) Q v A outer s H E with xe:=xe } K T.dA (run T W d) ⟨N,(UB st).names,J,bA⟩:=by
 refine OA.of rfl rfl rfl P rfl l.hd l.units g.c g.blt (λn h k=>?_) (λn R k=>?_) (λm O c h t u=>?_) (l.mono (by lia)) g.sub g.yH g.iE ⟨g.exc,λx k=>(g.dI x k).at rfl⟩ g.YA ⟨λn h k=>?_,λn h k=>?_,λm O c h t u=>?_⟩ ⟨_,_,_,rfl,rfl,rfl⟩
 ·obtain⟨a,e,f,i⟩:=g.fn n h k;exact⟨a,e,f,2*d+2,(r h a e f i.b).1,l.mono (by lia),i.Dw,i.kp,i.b.bd⟩
 ·obtain⟨o,a,e,f,y',y,U,N',t,u,p,q,z,B,X,Y,Z,C,F⟩:=(g.cls n R k).ex;exact⟨o,a,e,f,t,u,p,q,NX z B X Y Z C,F⟩
 ·obtain⟨o,a,e,f,p,q,i,I⟩:=(g.nD m O c h t u).ex;exact⟨o,a,e,f,2*d+2,p,q,(r h a e f i).1,l.mono (by lia),i.bd,I⟩
 ·exact⟨trivial⟩
 ·obtain⟨o,a,e,f,p,q,z,B,i⟩:=(g.obj n h k).ex;exact⟨o,a,e,f,2*d+2,p,q,z,B,(r h a e f i).1,(r h a e f i).2,l,i.bd⟩
 ·exact⟨trivial⟩
theorem c6{Pr:oE}{w:WC}{K:jA}{mg:fA->Option gA}{base:XB}{T:Tab}{C:fA->GV}(W:Nat)(g:sU w.params K mg T C):∀(d:Nat) (f:String) (p:lA) (I:pF) (J:List fA),
  tM K T C f p I J->sE Pr w K mg base uF (2*d+2) p I J (YL K (T.dA f).length (run T W d f))/\True
 | 0,f,p,I,J,e=>⟨⟨λM H Q E h=>by obtain⟨_,as,G,v,r,_,_,z,_⟩:=h;simp[run] at z,λA outer s H args us M Q E _ _ _ _ h=>by obtain⟨_,as,G,v,r,_,_,z,_⟩:=h;simp[run] at z⟩,trivial⟩
 |d+1,f,p,I,J,e=>by
  obtain⟨y,t,st,N,fn,F,S,nd,hT,hb,hN,Z⟩:=e.ex;have u:T.dA f=fn.dA:=by unfold Tab.dA;rw[hT]
  refine⟨F.ok S (λM H Q E h=>by rw[h.1,u,Z]) λbG A outer s H M Q E hr h=>?_, ?_⟩
  ·obtain⟨hl,as,G,v,r,wA,fN,j,k⟩:=h
   let X:Cx:=(cI uF Pr w K mg base N t (UB st) p bG A outer s H E).pN
   let U:CC:=⟨N,(UB st).names,C,bA⟩
   have xo:OA X K T.dA (run T W d) U:=xHa (E:=E) g (c6 W g d) nd hr;refine⟨_,Ek (W:=W) (X:=X) (U:=U) PassesOwn.never xo (λ_ _=>.inl rfl) (λ_=>⟨rfl,rfl⟩) (uD st), ?_⟩;simp only[run,hT] at j;split at j
   ·rename_i O;rw[hb] at j;have n:N.length=as.length+fn.nl:=by rw[hN,O.1]
    have m:=wA.pad n
    cases q:YA T.dA (run T W d) W (cT ⟨N,(UB st).names,C,bA⟩ (uD st)) (as++CB fn.nl .un) with
    |none=>rw[q] at j;exact(GS j).elim
    |some y =>
     obtain⟨fl,Y'⟩:=y;rw[q] at j;refine⟨as++CB fn.nl .un,G,fl,Y',m.1,q, ?_⟩
     induction fl using Fl.casesOn with
     |nx =>
      cases j;intro Z' H' P a;obtain⟨R,B⟩:=QU wA O.2 n a;exact k .nA H' P R (by show qA K P .nA _;simp[qA])
     |rt v' =>
      cases j;intro x' Z' H' P a hv;obtain⟨R,B⟩:=QU wA O.2 n a;refine k x' H' P R ?_
      have key:∀c,¬xA Y' Z' c->(xA (as++CB fn.nl .un) (start N M) c\/H c=eA)->H c=eA:=λc o l=>by
       rcases l with l | l
       ·have:=m.2 c l
        obtain⟨i,d1,p1,l1,Y,h2⟩:=this;refine absurd ?_ o
        apply B c
        have hp:=sF.mp O.2 _ (aH Y);simp only[sJ] at hp;subst hp
        have:=R.iH i
        rw[Y] at this
        cases q3:(back as Y')[i]? with
        |none=>rw[q3] at this;exact this.elim
        |some s =>
         rw[q3] at this
         induction s using Sl.casesOn with
         |ow d2 p2 l2=>exact⟨i,d2,p2,l2,q3,h2⟩
         |sh d2=>exact absurd (show bA=cA from this) (by simp)
         |un=>exact this.elim
         |mv=>exact this.elim
       ·exact l
      induction v using RV.casesOn with
      |sh d0=>exact hv
      |ow d0 =>
       obtain⟨c,rfl,gc,oc,o,l⟩:=hv;exact⟨c,rfl,gc,oc,λz=>o (B c z),key c o l⟩
      |od d0 =>
       obtain⟨c,rfl,gc,oc,o,l,ys,hy,hr⟩:=hv;exact⟨c,rfl,gc,oc,λz=>o (B c z),key c o l,ys,hy,λx hx=>let ⟨b,ws,Y,h2,h3,h4,h5,h6⟩:=hr x hx;⟨b,ws,Y,h2,h3,λz=>h4 (B b z),key b h4 h5,h6⟩⟩
     |bk=>exact(GS j).elim
     |ct=>exact(GS j).elim
     |ex x'=>exact(GS j).elim
   ·cases j
  ·trivial
end CI
namespace CI
set_option tactic.hygienic true
open PySem PySem.Spec PyProof.Rows L2
def sC(st:cB):List fA:=(vG st).args.map (·.arg)
def lJ(st:cB):List fA:=sC st++(((UB st).names.filter λy=>(y.2==.local||y.2==.cell) && !(sC st).contains y.1).map (·.1))
def A5(a:fA->GV)(st:cB):List S:=cT ⟨lJ st,(UB st).names,a,bA⟩ (uD st)
structure sQ(K:jA)(x m cD:fA)(st:cB):Prop where
 ex:∃(Ca f:lA) (oc:gA) (od an:Option lA) (kV doc pm bG ct:gA) (QL:Array (Option gA)),lC K uB x=aA (aA (.ref Ca))/\RF K (.ref Ca) m=aA (aA (.ref f))/\fQ K (.ref f)=bA /\
  K.lookup f=aA ⟨oc,od,.func (nG m cD (vG st) (uD st) (UB st) .none kV doc pm an bG ct),QL⟩/\mM K bG cD=bA/\JG K (.ref f)=bA
def kE{K:jA}{st:cB}{kV g pm e ct:gA}(a:lC K uB x=aA (aA (.ref j)))(b:RF K (.ref j) m=aA (aA (.ref f)))(i:fQ K (.ref f)=bA)
  (l:K.lookup f=aA ⟨oc,od,.func (nG m d (vG st) (uD st) (UB st) .none kV g pm n e ct),h⟩) (c:mM K e d=bA) (k:JG K (.ref f)=bA):sQ K x m d st :=
 ⟨j,f,oc,od,n,kV,g,pm,e,ct,h,a,b,i,l,c,k⟩
structure ClsAt(K:jA)(x:fA):Prop where
 ex:∃Ca:lA,lC K uB x=aA (aA (.ref Ca))/\bE K Ca/\OT K Ca=bA/\JG K (.ref Ca)=bA
def WJ{K:jA}(a:lC K uB x=aA (aA (.ref b)))(c:MN K b Str.empty=bA)(hd:KP K b=bA)(po:D1 K b=bA)
  (d:RF K (.ref b) "__setattr__"=aA (aA (.builtin "object.__setattr__"))) (mk:OT K b=bA) (e:JG K (.ref b)=bA):ClsAt K x:=⟨b,a,⟨c,hd,po,d⟩,mk,e⟩
def BU(K:jA)(x f:fA):Prop:=∃a:lA,lC K uB x=aA (aA (.ref a))/\RF K (.ref a) f=aA eA
def pJ{K:jA}(a:lC K uB x=aA (aA (.ref c)))(b:RF K (.ref c) f=aA eA):BU K x f:=⟨c,a,b⟩
structure YN(K:jA)(x:fA)(st:cB):Prop where
 ex:∃(f:lA) (oc:gA) (od an:Option lA) (kV doc pm bG ct:gA) (QL:Array (Option gA)),lC K uB x=aA (aA (.ref f)) /\
  K.lookup f=aA ⟨oc,od,.func (nG x x (vG st) (uD st) (UB st) .none kV doc pm an bG ct),QL⟩/\mM K bG x=bA/\JG K (.ref f)=bA
def K5{K:jA}{st:cB}{kV d pm b ct:gA}(a:lC K uB x=aA (aA (.ref f)))
  (l:K.lookup f=aA ⟨oc,od,.func (nG x x (vG st) (uD st) (UB st) .none kV d pm g b ct),e⟩) (c:mM K b x=bA) (k:JG K (.ref f)=bA):YN K x st :=
 ⟨f,oc,od,g,kV,d,pm,b,ct,e,a,l,c,k⟩
structure VE(gl:fA->GV)(st:cB)(x cD:fA)(fn:Fn):Prop where
 sc:RJ (lJ st) (sC st) (UB st)
 body:fn.body=A5 gl st
 len:(lJ st).length=fn.dA.length+fn.nl
 pl:(sC st).length=fn.dA.length
 bind:∀(kV doc pm:gA) (an:Option lA) (bG ct:gA) (us:List gA),us.length=(sC st).length->bindArgs (nG x cD (vG st) (uD st) (UB st) .none kV doc pm an bG ct) ⟨us,[]⟩=pure ((sC st).zip us)
abbrev ZN(a:fA->GV)(st:cB)(x:fA)(fn:Fn):Prop:=VE a st x x fn
def eR{K:jA}{st:cB}(F:OI K x a st b c)(O:VE d st x a fn)(e:T f=aA fn):tM K T d f b c (sC st) :=
 ⟨F.binds O.bind,x,a,st,lJ st,fn,F,O.sc,O.sc.nd,e,O.body,O.len,O.pl⟩
def oI{K:jA}{st:cB}(A:ClsAt K x)(D:sQ K x m d st)(O:VE g st m d fn)(h:T f=aA fn):AU K T g x m f:=by
 obtain⟨j,n,oc,od,r,kV,o,pm,p,ct,q,a,b,i,l,c,k⟩:=D.ex;obtain⟨s,e,cl,_,_⟩:=A.ex;rw[a] at e;cases e;exact⟨j,n,_,sC st,a,⟨b,i,k⟩,eR (FO l c k) O h,cl⟩
structure QI(st:cB)(cD:fA)(ns:List fA):Prop where
 sc:RJ (lJ st) (sC st) (UB st)
 body:fJ (sC st) 1 (uD st)=aA ns
 pl:(sC st).length=ns.length+1
 nd:ns.Nodup
 lt:ns.length<1000
 bind:∀(kV doc pm:gA) (an:Option lA) (bG ct:gA) (us:List gA),us.length=(sC st).length->bindArgs (nG "__init__" cD (vG st) (uD st) (UB st) .none kV doc pm an bG ct) ⟨us,[]⟩=pure ((sC st).zip us)
def mL{K:jA}{st:cB}(X:K.In h)(G:h.Ns uB mg)(A:ClsAt K x)(D:sQ K x "__init__" d st)(O:QI st d e)(N:∀f∈e,BU K x f):mU K mg x e:=by
 obtain⟨m,a,cl,mk,n⟩:=A.ex;obtain⟨u,o,oc,od,v,kV,p,pm,q,ct,r,g,b,i,l,c,k⟩:=D.ex;rw[a] at g;cases g;have F:=FO l c k;refine⟨m,o,_,sC st,"__init__",d,st,lJ st,a,IK X G a,⟨mk,b,i,n⟩,⟨cl,λf s=>?_⟩,F,O.sc,O.body,O.pl,O.nd,O.lt,F.binds O.bind⟩;obtain⟨w,j,t⟩:=N f s;rw[a] at j;cases j;exact t
def Gx{K:jA}{st:cB}(X:K.In h)(G:h.Ns uB mg)(A:ClsAt K x)(D:sQ K x "__init__" d st)(O:VE g st "__init__" d fn)(j:T f=aA fn):DU K mg T g x f:=by
 obtain⟨m,a,cl,mk,n⟩:=A.ex;obtain⟨s,o,oc,od,t,kV,p,pm,q,ct,r,e,b,i,l,c,k⟩:=D.ex;rw[a] at e;cases e;exact⟨m,o,_,sC st,a,IK X G a,⟨mk,b,i,n⟩,cl,eR (FO l c k) O j⟩
def b6{K:jA}{e:List fA}(h:∀c∈e,BU K c f):∀c∈e,∀d,lC K uB c=aA (aA (.ref d))->aG K d f:=λc g d i=>by
 obtain⟨j,a,b⟩:=h c g;rw[i] at a;cases a;exact b
def Om{K:jA}{st:cB}(X:K.In h)(G:h.Ns uB mg)(D:YN K x st)(O:ZN d st x fn)(e:T f=aA fn):∃b g i,Entry K mg T d x f b g i:=by
 obtain⟨b,oc,od,o,kV,j,pm,m,ct,n,a,l,c,k⟩:=D.ex;have F:=FO l c k;exact⟨b,_,sC st,IK X G a,k,eR F O e⟩
noncomputable def gD(L:List (fA×GV))(x:fA):GV:=(L.lookup x).getD .no
theorem aAo[BEq O][LawfulBEq O]:∀{L:List (O×N)} {x:O} {v:N},L.lookup x=aA v->(x,v)∈L
 |[],_,_,h=>by simp at h
 | (y,w)::L,x,v,h=>by
  rw[pE] at h;split at h
  ·rename_i a;cases h;rw[dC a];exact AD
  ·exact XC _ (aAo h)
def xG(h:gD L x=v)(n:v≠.no):(x,v)∈L:=by
 unfold gD at h
 cases q:L.lookup x with
 |none=>rw[q] at h;exact absurd h.symm n
 |some w =>
  rw[q] at h;cases h;exact aAo q
def YF(g:nQ)(K:jA)(mg:fA->Option gA)(T:Tab)(a:fA->GV):fA×GV->Prop
 | (x,.cls h)=>mU K mg x h
 | (x,.nD i)=>∃m,x=dot m/\∀p∈i,AU K T a p.1 m p.2
 | (x,.c d)=>∃u v,mg x=aA u/\aAf v u/\∀G,qA K G d v
 | (x,.blt)=>mg x=eA
 | (x,.fn f)=>∃j k l,Entry K mg T a x f j k l
 | (x,.sub s n)=>∃m,x=col m/\uQ K mg m s n
 | (x,.yH s n)=>∃m,x=col m/\vQ K mg m s n
 | (x,.exc)=>ExcAt K mg x
 | (x,.dI)=>qQ K mg x
 | (x,.YA b)=>∃m,x=cat m/\aO K mg m b
 | (x,.obj f)=>DU K mg T a x f
 | (x,.iI o q)=>bO g mg K x o q
 | (x,.iE b)=>∃m,x=ZJ m/\∀c∈b,∀e,lC K uB c=aA (aA (.ref e))->aG K e m
 | (_,.no)=>True
def ZY{x y:fA}(h:(⟨p++x.cps⟩:fA)=⟨p++y.cps⟩):x=y:=by
 have a:=congrArg eQ (congrArg Str.cps h);simp only[ET] at a;have b:=NT.mp (O0 a);cases x;cases y;simp only at b;rw[b]
def yq{K:jA}(h:∀p∈L,YF j K mg T (gD L) p):sU j K mg T (gD L) :=
 ⟨λx d e=>h _ (xG e (λz=>nomatch z)),λx e=>h _ (xG e (λz=>nomatch z)),λx f e=>h _ (xG e (λz=>nomatch z)),λx r e=>h _ (xG e (λz=>nomatch z)),λm t c f e l=>by
  obtain⟨a,b,k⟩:=h _ (xG e (λz=>nomatch z))
  have:a=m:=by
   unfold dot at b;have o:(#[46]++m.cps:Array Nat)=#[46]++a.cps:=congrArg Str.cps b
   have g:m.cps=a.cps:=by(have i:=congrArg eQ o;rw[ET,ET] at i;exact NT.mp (O0 i))
   cases m;cases a;simp only at g;rw[g]
  subst this;exact k _ (aAo l),λx s n e=>by
  obtain⟨a,b,k⟩:=h _ (xG e (λz=>nomatch z))
  have:a=x:=by
   unfold col at b
   have g:x.cps=a.cps:=by(have i:=congrArg eQ (congrArg Str.cps b);simp only[ET] at i;exact NT.mp (O0 i))
   cases x;cases a;simp only at g;rw[g]
  subst this;exact k,λx s n e=>by
  obtain⟨a,b,k⟩:=h _ (xG e (λz=>nomatch z));rw[ZY b];exact k,λx e=>h _ (xG e (λz=>nomatch z)),λx e=>h _ (xG e (λz=>nomatch z)),λx q e=>by
  obtain⟨a,b,k⟩:=h _ (xG e (λz=>nomatch z));rw[ZY b]
  exact k,λx f e=>h _ (xG e (λz=>nomatch z)),⟨λf q e=>by
  obtain⟨a,b,k⟩:=h _ (xG e (λz=>nomatch z));rw[ZY b]
  exact k,λx u v e=>h _ (xG e (λz=>nomatch z))⟩⟩
def TQ{K:jA}(X:K.In h)(G:h.Ns uB mg)(a:lC K uB x=aA (aA (.int i t))):YF b K mg T c (x,.c (.int i)) :=
 ⟨_,.int i,IK X G a,⟨t,rfl⟩,λG=>by simp[qA]⟩
def Sj{K:jA}(X:K.In h)(G:h.Ns uB mg)(a:lC K uB x=aA eA):YF b K mg T c (x,.blt):=PySem.W.mg_none_of X G a
noncomputable def xR:List UN->Option (List fA×List Int)
 |[]=>aA ([],[])
 | ⟨_,.str k _,.int i _⟩::r=>(xR r).map λq=>(k::q.1,i::q.2)
 |_=>eA
theorem r6(k:fA):∀{l:List UN} {b:List fA} {c:List Int},xR l=aA (b,c)->dO ((l.find? λe=>HK k e.key).map (·.val)) ((b.zip c).lookup k)
 |[],_,_,h=>by cases h;exact True.intro
 |e::r,b,c,h=>by
  unfold xR at h;split at h
  ·cases h;simp_all
  ·rename_i j a t i d m heq;cases heq;obtain⟨q,f,g⟩:=NJ.mp h;cases g;rw[List.find?_cons,gM,pE];show dO ((match a==k with | true=>_ | false=>_:Option UN).map _) _
   cases q1:(a==k) with
   |true =>
    have:=dC q1
    subst this;rw[YC];exact⟨d,rfl⟩
   |false =>
    have:(k==a)=cA:=by
     cases q2:(k==a) with
     |false=>rfl
     |true=>rw[dC q2,YC] at q1;cases q1
    rw[this];exact r6 k f
  ·cases h
def pq{K:jA}(X:K.In h)(G:h.Ns uB mg)(b:lC K uB x=aA (aA (.ref a)))(c:(a==sysModules)=cA)
  (hl:K.lookup a=aA { cls:=.type "dict",data:=.dict es n }) (d:cg pr es.toList) (e:ks.length=vs.length) (f:xR es.toList=aA (ks,vs)):YF pr K mg T gl (x,.iI ks vs) :=
 ⟨a,es,n,IK X G b,c,hl,d,e,λk=>by
  unfold findBy;rw[<- yf]
  exact r6 k f⟩
def Cv{l:lQ}{q:oE}{K:nQ->jA}{T:Tab}{L:List (fA×GV)}{st:cB}{fn:Fn}
  (U:l.most=aA 63) (B:d.params.defaults=[]) (X:oC (2*n+2) callerA) (Y:d.name=x) (N:T f=aA fn) (O:ZN (gD L) st x fn) (A:sC st=[p])
  (Z:∀(w:WC) (h:XB),YP w h->(K w.params).In h)
  (F:∀(w:WC) (mg:fA->Option gA) (h:XB),(K w.params).In h->h.Ns uB mg->YN (K w.params) x st/\∀p∈L,YF w.params (K w.params) mg T (gD L) p)
  (M:∀j:List Int,j.length<=63->∃m,run T W n f [.sh (.l (j.map .int))]=some (.ok (.sh (.bl bA)),m)) :
  i3 q C XP YP l.row.toRowW d [] (λf vs=>C3 f vs):=by
 refine L2.oHa (n:=63) (k:=2*n+2) (x:=p) (CX:=λ_=>uF) (sp:=λw=>YL (K w.params) 1 (run T W n f)) U (by decide) B X Z (λw mg P h KX G t=>?_) (λw H a j hl hO hS=>?_) λ_ _ _ _ _ z=>z
 ·obtain⟨D,hG⟩:=F w mg h KX G;have g:=yq hG;obtain⟨fa',oc,od,Q,kV,v,pm,y,ct,QL,a,lk,c,k⟩:=D.ex;have R:=IK KX G a;rw[Y,R] at t;cases t;have Fu:=FO lk c k;have E:Entry (K w.params) mg T (gD L) x f P _ (sC st):=⟨R,k,eR Fu O N⟩
  have o:(T.dA f).length=1:=by(unfold Tab.dA;rw[N];show fn.dA.length=1;rw[<- O.pl,A];rfl)
  refine⟨nG x x (vG st) (uD st) (UB st) .none kV v pm Q y ct,λs u=>?_,λbase kb nb=>?_⟩
  rotate_left
  ·have:=(c6 (Pr:=l.prog) (w:=w) (base:=base) W g n f P _ (sC st) E.b).1
   rw[o] at this;rw[A] at this;exact this
  ·have:=O.bind kV v pm Q y ct [u] (by rw[A];rfl)
   rw[A] at this;exact .of_eq this
 ·obtain⟨m,e⟩:=M j hl
  have I:uA (K w.params) H (j.map .int) (j.map V.int):=by
   induction j with
   |nil=>exact uA.nil
   |cons i r J=>exact uA.cons (by simp[qA]) (by
     clear e hS hl J
     induction r with
     |nil=>exact uA.nil
     |cons i r J=>exact uA.cons (by simp[qA]) J)
  refine⟨rfl,[.sh (.l (j.map .int))],H,.sh (.bl bA),m,BA.MM (BA.nil (VA.refl _)) ?_,rfl,e,λx H' G' _ hv=>oP (K:=K w.params) (G:=G') hv⟩;simp only[qA];exact⟨a,_,rfl,hS,I⟩
end CI
namespace CI
set_option tactic.hygienic true
open PySem (Operator CmpOp)
noncomputable section
variable{Y Y1 Y2:Env}
theorem Aq:yG (aA Y)=aA (.nx,Y):=rfl
noncomputable def bR(f:O->Env->yA N)(r:yA O):yA N:=r.bind f
theorem ej:r.bind f=bR f r:=rfl
theorem fj:bR f (some (.ok a,Y))=f a Y:=rfl
noncomputable def fR(f:O->Env->Run)(r:yA O):Run:=r.WB f
theorem Wo:r.WB f=fR f r:=rfl
theorem Xo:fR f (some (.ok a,Y))=f a Y:=rfl
noncomputable def nR(f:Env->Run)(r:Run):Run:=r.next f
theorem ax:r.next f=nR f r:=rfl
theorem bx:nR f (aA (.nx,Y))=f Y:=rfl
theorem cx:nR f (aA (.rt v,Y))=aA (.rt v,Y):=rfl
noncomputable def dR(Y:Env)(o:Option RV):yA RV:=done o Y
theorem Vl:done o Y=dR Y o:=rfl
theorem Wl:dR Y (aA v)=some (.ok v,Y):=rfl
theorem Yl:(RV.sh d).d=d:=rfl
theorem Xl:(RV.ow d).d=d:=rfl
theorem bq:(Sl.sh d).get=aA d:=rfl
theorem aq:(Sl.ow d p l).get=aA d:=rfl
theorem Rq:(Hd.val v).get Y=aA v.d:=rfl
theorem Qq:(Hd.slot i).get Y=(Y[i]?).bind Sl.get:=rfl
noncomputable def wY(Y:Env)(o:Option Bool):yA RV:=o.map λb=>(.ok (.sh (.bl b)),Y)
theorem Uu:wY Y (aA b)=some (.ok (.sh (.bl b)),Y):=rfl
theorem vHa:aAi cA r=r:=rfl
theorem wHa:aAi bA (some (.ok v,Y))=wY Y (DH v.d):=rfl
noncomputable def d8(i:Nat)(Y:Env):Option Sl->yA RV
 |some (.sh d)=>some (.ok (.sh d),Y)
 |some (.ow d cA cA)=>some (.ok (.sh d),Y.set i (.sh d))
 |_=>eA
theorem fu:d8 i Y (aA (.sh d))=some (.ok (.sh d),Y):=rfl
def A8(Y:Env)(o:Option D):yA RV:=aAi bA (o.map λd=>(.ok (.sh d),Y))
theorem Ou:A8 Y (aA d)=wY Y (DH d):=rfl
theorem Ho:ev P C cA (.v i) Y=d8 i Y Y[i]?:=rfl
theorem Io:ev P C bA (.v i) Y=A8 Y ((Y[i]?).bind Sl.get):=rfl
theorem Sn:ev P C t (.c d) Y=aAi t (some (.ok (.sh d),Y)):=rfl
noncomputable def XO(b:Bool)(v:RV)(Y:Env):yA RV:=if b then some (.ok v,Y) else eA
theorem Tu:XO bA v Y=some (.ok v,Y):=rfl
def EF(h:n<=1000000):NA n=bA:=@rB _ (cl _) h
theorem gEa:NA 0=bA:=EF (by decide)
theorem hEa:NA 1=bA:=EF (by decide)
theorem iEa:NA 2=bA:=EF (by decide)
theorem Hb:NA 3=bA:=EF (by decide)
theorem jEa:NA 4=bA:=EF (by decide)
theorem kEa:NA 5=bA:=EF (by decide)
def M8(a:List D)(Y:Env):yA RV:=XO (NA a.length) (.sh (.t a)) Y
def p8(a:List D)(Y:Env):yA RV:=XO (NA a.length) (.ow (.l a)) Y
theorem Fo:ev P C t (.t a) Y=aAi t ((AE P C a Y).bind M8):=rfl
theorem fo:ev P C t (.l a) Y=aAi t ((AE P C a Y).bind p8):=rfl
theorem Ko:AE P C [] Y=some (.ok [],Y):=rfl
noncomputable def Y7(v:RV)(a:List D)(Y:Env):yA (List D):=some (.ok (v.d::a),Y)
def X7(P:XA)(C:Calls)(a:List E)(v:RV)(Y:Env):yA (List D):=(AE P C a Y).bind (Y7 v)
theorem Jo:AE P C (e::a) Y=(ev P C cA e Y).bind (X7 P C a):=rfl
theorem En:kC P C [] Y=some (.ok [],Y):=rfl
noncomputable def j8(v:Hd)(a:List Hd)(Y:Env):yA (List Hd):=some (.ok (v::a),Y)
def i8(P:XA)(C:Calls)(a:List E)(v:Hd)(Y:Env):yA (List Hd):=(kC P C a Y).bind (j8 v)
def MB(P:XA)(C:Calls)(e:E)(Y:Env):yA Hd:=hd e (ev P C cA e Y) Y
noncomputable def xD(v:RV)(Y:Env):yA Hd:=some (.ok (.val v.low),Y)
theorem Xu:xD (.sh d) Y=some (.ok (.val (.sh d)),Y):=rfl
theorem Wu:xD (.ow d) Y=some (.ok (.val (.ow d)),Y):=rfl
def J8(i:Nat)(Y:Env)(b:Bool):yA Hd:=if b then some (.ok (.slot i),Y) else eA
theorem Su:J8 i Y bA=some (.ok (.slot i),Y):=rfl
theorem Yz:MB P C (.v i) Y=J8 i Y ((Y[i]?).bind Sl.get).isSome:=rfl
theorem Lz:MB P C (.c d) Y=some (.ok (.val (.sh d)),Y):=rfl
theorem Xz:MB P C (.t a) Y=(ev P C cA (.t a) Y).bind xD:=rfl
theorem Rz:MB P C (.l a) Y=(ev P C cA (.l a) Y).bind xD:=rfl
theorem Fz:MB P C (.sA op a b) Y=(ev P C cA (.sA op a b) Y).bind xD:=rfl
theorem Tz:MB P C (.neg a) Y=(ev P C cA (.neg a) Y).bind xD:=rfl
theorem Iz:MB P C (.tA op a b) Y=(ev P C cA (.tA op a b) Y).bind xD:=rfl
theorem Jz:MB P C (.fE op d a b c) Y=(ev P C cA (.fE op d a b c) Y).bind xD:=rfl
theorem Dz:MB P C (.and a b) Y=(ev P C cA (.and a b) Y).bind xD:=rfl
theorem Pz:MB P C (.ix a b) Y=(ev P C cA (.ix a b) Y).bind xD:=rfl
theorem Vz:MB P C (.sl a b c) Y=(ev P C cA (.sl a b c) Y).bind xD:=rfl
theorem Hz:MB P C (.call f a) Y=(ev P C cA (.call f a) Y).bind xD:=rfl
theorem Ez:MB P C (.bif f a) Y=(ev P C cA (.bif f a) Y).bind xD:=rfl
theorem Oz:MB P C (.cF a ts) Y=(ev P C cA (.cF a ts) Y).bind xD:=rfl
theorem Kz{a cond:List E}:MB P C (.comp b c k a cond imp nl) Y=(ev P C cA (.comp b c k a cond imp nl) Y).bind xD:=rfl
theorem Dn:kC P C (e::a) Y=(MB P C e Y).bind (i8 P C a):=rfl
def yF(op:MK)(x:Hd)(a b:Option D):Option RV:=a.bind λd=>b.bind λe=>if oN op x d then xB op d e else eA
def P7(op:MK)(x y:Hd)(Y:Env):yA RV:=done (yF op x (x.get Y) (y.get Y)) Y
def O7(P:XA)(C:Calls)(op:MK)(b:E)(x:Hd)(Y:Env):yA RV:=(MB P C b Y).bind (P7 op x)
theorem Ln:ev P C t (.sA op a b) Y=aAi t ((MB P C a Y).bind (O7 P C op b)):=rfl
theorem Nj:yF op x (aA (.t a)) (aA e)=xB op (.t a) e:=by
 unfold yF oN;cases op<;>rfl
theorem Lj:yF .Add x (aA (.l a)) (aA e)=xB .Add (.l a) e:=rfl
theorem Mj:yF .Mult (.val (.ow d)) (aA (.l a)) (aA e)=xB .Mult (.l a) e:=rfl
theorem Uj:yF .Add x (aA (.int i)) (aA (.int j))=aA (.sh (.int (i+j))):=rfl
theorem dk:yF .Sub x (aA (.int i)) (aA (.int j))=aA (.sh (.int (i-j))):=rfl
theorem ak:yF .Mult x (aA (.int i)) (aA e)=xB .Mult (.int i) e:=rfl
theorem Xj:yF .FloorDiv x (aA (.int i)) (aA e)=xB .FloorDiv (.int i) e:=rfl
theorem Zj:yF .Mod x (aA (.int i)) (aA e)=xB .Mod (.int i) e:=rfl
theorem Yj:yF .LShift x (aA (.int i)) (aA e)=xB .LShift (.int i) e:=rfl
theorem ck:yF .RShift x (aA (.int i)) (aA e)=xB .RShift (.int i) e:=rfl
theorem Vj:yF .BitAnd x (aA (.int i)) (aA e)=xB .BitAnd (.int i) e:=rfl
theorem Wj:yF .BitOr x (aA (.int i)) (aA e)=xB .BitOr (.int i) e:=rfl
theorem xk:yF .Add x (aA (.str s)) (aA e)=xB .Add (.str s) e:=rfl
def j4(h:(-(2 ^ 64)<i/\i<2 ^ 64)\/(-(2 ^ 64)<j/\j<2 ^ 64)):xB .Mult (.int i) (.int j)=aA (.sh (.int (i*j))):=QA h
theorem rj(a:-18446744073709551616<j)(b:j<18446744073709551616):xB .Mult (.int i) (.int j)=aA (.sh (.int (i*j))):=j4 (.inr ⟨a,b⟩)
theorem qj(a:-18446744073709551616<i)(b:i<18446744073709551616):xB .Mult (.int i) (.int j)=aA (.sh (.int (i*j))):=j4 (.inl ⟨a,b⟩)
theorem mj(h:0<j/\j<100000000000000000000000000000000000000000000000000000000000000000000000000000000):xB .FloorDiv (.int i) (.int j)=aA (.sh (.int (i / j))):=QA h
theorem pj(h:0<j):xB .Mod (.int i) (.int j)=aA (.sh (.int (i % j))):=QA h
theorem tj(h:0<=j)(a:j<=1000):xB .LShift (.int 1) (.int j)=aA (.sh (.int (2 ^ j.toNat))):=by
 show @ite _ _ (cl _) _ _=_;rw[QA ⟨h,a,by decide⟩,Int.one_mul]
theorem uj(h:0<=j):xB .RShift (.int i) (.int j)=aA (.sh (.int (i / 2 ^ j.toNat))):=QA h
theorem sj:xB .BitOr (.int i) (.int j)=aA (.sh (.int (zJ i j))):=rfl
theorem kj:xB .BitAnd (.int i) (.int j)=aA (.sh (.int (KN i j))):=rfl
theorem KG(h:NA (a.length+b.length)=bA):xB .Add (.l a) (.l b)=aA (.ow (.l (a++b))):=QA h
def DQ(b:-(2 ^ 31)<=k)(c:k<=1000)(d:NA (a.length*k.toNat)=bA):xB .Mult (.l a) (.int k)=aA (.ow (.l (CB k.toNat a).flatten)):=QA ⟨b,c,d⟩
theorem lj(h:NA (a.length+1+b.length)=bA):xB .Add (.t (x::a)) (.t b)=aA (.sh (.t (x::a++b))):=QA h
noncomputable def r8(v:RV)(Y:Env):yA RV:=match v.d with
 |.int i=>some (.ok (.sh (.int (-i))),Y)
 |_=>eA
theorem Iu:r8 (.sh (.int i)) Y=some (.ok (.sh (.int (-i))),Y):=rfl
theorem qo:ev P C t (.neg a) Y=aAi t ((ev P C cA a Y).bind r8):=rfl
noncomputable def x8(v:RV)(Y:Env):yA RV:=match v with
 |.sh (.bl b)=>some (.ok (.sh (.bl (!b))),Y)
 |_=>eA
theorem Ju:x8 (.sh (.bl b)) Y=some (.ok (.sh (.bl (!b))),Y):=rfl
theorem vo:ev P C bA (.not a) Y=(ev P C bA a Y).bind x8:=rfl
def o9(o:Option D):Option RV:=o.bind λd=>(DH d).map λb=>.sh (.bl (!b))
def v8(x:Hd)(Y:Env):yA RV:=done (o9 (x.get Y)) Y
theorem Ax:o9 (aA (.bl b))=aA (.sh (.bl (!b))):=rfl
theorem uo:ev P C cA (.not a) Y=(MB P C a Y).bind v8:=rfl
def BV(op:pG)(a b:Option D):Option RV:=a.bind λd=>b.bind λe=>(vB op d e).map λb=>.sh (.bl b)
theorem Nl:BV op (aA d) (aA e)=(vB op d e).map λb=>.sh (.bl b):=rfl
def l5(op:pG)(a b:Option D):Option Bool:=a.bind λd=>b.bind λe=>vB op d e
theorem Ml:l5 op (aA d) (aA e)=vB op d e:=rfl
def W7(op:pG)(x y:Hd)(Y:Env):yA RV:=done (BV op (x.get Y) (y.get Y)) Y
def V7(P:XA)(C:Calls)(op:pG)(b:E)(x:Hd)(Y:Env):yA RV:=(MB P C b Y).bind (W7 op x)
theorem Pn:ev P C t (.tA op a b) Y=(MB P C a Y).bind (V7 P C op b):=rfl
def aS(op:pG)(y z:Hd)(Y:Env):yA RV:=done (BV op (y.get Y) (z.get Y)) Y
def ZR(P:XA)(C:Calls)(a:pG)(y:Hd)(c:E)(Y:Env):Option Bool->yA RV
 |none=>eA
 |some cA=>some (.ok (.sh (.bl cA)),Y)
 |some bA=>(MB P C c Y).bind (aS a y)
theorem Xt:ZR P C a y c Y (aA cA)=some (.ok (.sh (.bl cA)),Y):=rfl
theorem Zt:ZR P C a y c Y (aA bA)=(MB P C c Y).bind (aS a y):=rfl
theorem Wt:ZR P C a y c Y (aA b)=if b=bA then(MB P C c Y).bind (aS a y) else some (.ok (.sh (.bl cA)),Y):=by cases b<;>rfl
def S7(P:XA)(C:Calls)(op a:pG)(c:E)(x y:Hd)(Y:Env):yA RV:=ZR P C a y c Y (l5 op (x.get Y) (y.get Y))
def R7(P:XA)(C:Calls)(op a:pG)(b c:E)(x:Hd)(Y:Env):yA RV:=(MB P C b Y).bind (S7 P C op a c x)
theorem Qn:ev P C t (.fE op d a b c) Y=(MB P C a Y).bind (R7 P C op d b c):=rfl
theorem Sk:vB .Lt (.int i) (.int j)=aA (decide (i<j)):=rfl
theorem Rk:vB .LtE (.int i) (.int j)=aA (decide (i<=j)):=rfl
theorem Lk:vB .Gt (.int i) (.int j)=aA (decide (j<i)):=rfl
theorem Kk:vB .GtE (.int i) (.int j)=aA (decide (j<=i)):=rfl
theorem Ik:vB .Eq (.int i) (.int j)=aA (decide (i=j)):=rfl
theorem Wk:vB .NotEq (.int i) (.int j)=aA (!decide (i=j)):=rfl
def AV(a:nB 20 d=bA)(b:nB 20 e=bA):vB .Eq d e=aA (gE d e):=by
 show(if(nB 20 d&&nB 20 e)=bA then aA (gE d e) else eA)=_;rw[a,b];rfl
def T4(a:nB 20 d=bA)(b:nB 20 e=bA):vB .NotEq d e=aA (!gE d e):=by
 show(if(nB 20 d&&nB 20 e)=bA then aA (!gE d e) else eA)=_;rw[a,b];rfl
theorem Jk:vB .Eq (.str a) (.str b)=aA (a==b):=rfl
theorem Xk:vB .NotEq (.str a) (.str b)=aA (!(a==b)):=rfl
theorem Qk:vB .Is .nA .nA=aA bA:=rfl
theorem Pk:vB .Is (.int i) .nA=aA cA:=rfl
theorem Zk:vB .IsNot .nA .nA=aA cA:=rfl
theorem Yk:vB .IsNot (.int i) .nA=aA bA:=rfl
theorem jGa:DH (.bl b)=aA b:=rfl
def YR(P:XA)(C:Calls)(t:Bool)(b:E)(v:RV)(Y:Env):yA RV:=match v with
 |.sh (.bl bA)=>ev P C t b Y
 |.sh (.bl cA)=>some (.ok (.sh (.bl cA)),Y)
 |_=>eA
def tY(P:XA)(C:Calls)(t:Bool)(b:E)(v:RV)(Y:Env):yA RV:=match v with
 |.sh (.bl bA)=>some (.ok (.sh (.bl bA)),Y)
 |.sh (.bl cA)=>ev P C t b Y
 |_=>eA
def mY(P:XA)(C:Calls)(t:Bool)(a b:E)(v:RV)(Y:Env):yA RV:=match v with
 |.sh (.bl bA)=>ev P C t a Y
 |.sh (.bl cA)=>ev P C t b Y
 |_=>eA
theorem Hn:ev P C t (.and a b) Y=(ev P C t a Y).bind (YR P C t b):=rfl
theorem zo:ev P C t (.or a b) Y=(ev P C t a Y).bind (tY P C t b):=rfl
theorem Zn:ev P C t (.ite c a b) Y=(ev P C bA c Y).bind (mY P C t a b):=rfl
theorem Ut:YR P C t b (.sh (.bl bA)) Y=ev P C t b Y:=rfl
theorem Tt:YR P C t b (.sh (.bl cA)) Y=some (.ok (.sh (.bl cA)),Y):=rfl
theorem Lu:tY P C t b (.sh (.bl bA)) Y=some (.ok (.sh (.bl bA)),Y):=rfl
theorem Ku:tY P C t b (.sh (.bl cA)) Y=ev P C t b Y:=rfl
theorem su:mY P C t a b (.sh (.bl bA)) Y=ev P C t a Y:=rfl
theorem qu:mY P C t a b (.sh (.bl cA)) Y=ev P C t b Y:=rfl
theorem Rt:YR P C t b (.sh (.bl x)) Y=if x=bA then ev P C t b Y else some (.ok (.sh (.bl cA)),Y):=by cases x<;>rfl
def TC(a:Option D)(k:D):Option RV:=a.bind λd=>(SO d k).map .sh
def n8(x:Hd)(k:RV)(Y:Env):yA RV:=done (TC (x.get Y) k.d) Y
def m8(P:XA)(C:Calls)(i:E)(x:Hd)(Y:Env):yA RV:=(ev P C cA i Y).bind (n8 x)
theorem bo:ev P C t (.ix a i) Y=aAi t ((MB P C a Y).bind (m8 P C i)):=rfl
def vt(h:L2.LB a i=aA d):TC (aA (.t a)) (.int i)=aA (.sh d):=by
 show(L2.LB a i).map RV.sh=_;rw[h];rfl
def p7(h:L2.LB a i=aA d):TC (aA (.l a)) (.int i)=aA (.sh d):=by
 show(L2.LB a i).map RV.sh=_;rw[h];rfl
theorem wt:TC (aA (.t a)) (.int i)=(L2.LB a i).map RV.sh:=rfl
theorem qt:TC (aA (.l a)) (.int i)=(L2.LB a i).map RV.sh:=rfl
def mO:L2.LB a (OfNat.ofNat n)=a[n]?:=by
 show L2.LB a ((n:Nat):Int)=_
 cases h:a[n]? with
 |some v=>exact L2.fL h
 |none =>
  unfold L2.LB L2.DD
  have:=List.getElem?_eq_none_iff.mp h
  rw[QA (by lia),pB (by lia)];rfl
theorem V3:L2.LB a 0=a[0]?:=mO (n:=0)
theorem Vi:L2.LB a 1=a[1]?:=mO (n:=1)
theorem Wi:L2.LB a 2=a[2]?:=mO (n:=2)
theorem Xi:L2.LB a 3=a[3]?:=mO (n:=3)
def u7:TC (aA (.l (a::l))) (.int 0)=aA (.sh a):=p7 (by rw[V3];rfl)
def mE(a l h:Option D):Option RV:=a.bind λd=>(oK l).bind λl=>(oK h).bind λh=>WL d l h
def G8(x:Hd)(l h:Option D)(Y:Env):yA RV:=done (mE (x.get Y) l h) Y
def RL(P:XA)(C:Calls)(e:E)(Y:Env):yA (Option D):=aAR e (ev P C cA e Y) Y
def F8(P:XA)(C:Calls)(a:E)(x:Hd)(l:Option D)(Y:Env):yA RV:=(RL P C a Y).bind (G8 x l)
def E8(P:XA)(C:Calls)(lo a:E)(x:Hd)(Y:Env):yA RV:=(RL P C lo Y).bind (F8 P C a x)
theorem A':RL P C .GD Y=some (.ok eA,Y):=rfl
noncomputable def eS(v:RV)(Y:Env):yA (Option D):=some (.ok (aA v.d),Y)
theorem i':RL P C (.c d) Y=some (.ok (aA d),Y):=rfl
theorem B':RL P C (.v i) Y=(ev P C cA (.v i) Y).bind eS:=rfl
theorem Z_:RL P C (.sA op a b) Y=(ev P C cA (.sA op a b) Y).bind eS:=rfl
theorem Bo:ev P C t (.sl a lo b) Y=aAi t ((MB P C a Y).bind (E8 P C lo b)):=rfl
def UO(P:XA)(C:Calls)(f:String)(a:List Hd)(Y:Env):yA RV:=MD (P f) (C f) a Y
theorem Nn:ev P C t (.call f a) Y=aAi t ((kC P C a Y).bind (UO P C f)):=rfl
def eY(dA:List Bool)(b:List Hd)(Y Y1:Env):yA RV->yA RV
 |none=>eA
 |some (o,a)=>(aAj dA b a Y Y1).map λc=>(o,c)
def T7(dA:List Bool)(f:List Sl->yA RV)(a:List Hd)(Y:Env):Option (List Sl×Env)->yA RV
 |none=>eA
 |some (as,Y1)=>eY dA a Y Y1 (f as)
theorem vm:MD dA f a Y=T7 dA f a Y (aAk dA a Y):=rfl
theorem au:T7 dA f a Y (aA (as,Y1))=eY dA a Y Y1 (f as):=rfl
noncomputable def U7(o:Out RV)(x:Option Env):yA RV:=x.map λa=>(o,a)
theorem cu:U7 o (aA Y)=aA (o,Y):=rfl
theorem bu:eY dA b Y Y1 (aA (o,a))=U7 o (aAj dA b a Y Y1):=rfl
noncomputable def lI(a:Sl)(o:Option (List Sl×Env)):Option (List Sl×Env):=o.map λ(as,b)=>(a::as,b)
theorem uu:lI a (aA (as,Y))=aA (a::as,Y):=rfl
theorem Dv:aAk [] [] Y=aA ([],Y):=rfl
theorem Hv:aAk (p::a) (.val (.sh d)::r) Y=lI (.sh d) (aAk a r Y):=rfl
theorem Gv:aAk (bA::a) (.val (.ow d)::r) Y=lI (.ow d bA cA) (aAk a r Y):=rfl
theorem Fv:aAk (cA::a) (.val (.ow d)::r) Y=lI (.sh d) (aAk a r Y):=rfl
def bS(p:Bool)(a:List Bool)(i:Nat)(r:List Hd)(Y:Env):Option Sl->Option (List Sl×Env)
 |some (.sh d)=>lI (.sh d) (aAk a r Y)
 |some (.ow d b c)=>match p with
  |true=>lI (.ow d bA c) (aAk a r (Y.set i .un))
  |false=>if b||c then eA else lI (.sh d) (aAk a r (Y.set i (.sh d)))
 |_=>eA
theorem Iv:aAk (p::a) (.slot i::r) Y=bS p a i r Y Y[i]?:=rfl
theorem xu:bS p a i r Y (aA (.sh d))=lI (.sh d) (aAk a r Y):=rfl
theorem wu:bS bA a i r Y (aA (.ow d b c))=lI (.ow d bA c) (aAk a r (Y.set i .un)):=rfl
theorem vu:bS cA a i r Y (aA (.ow d cA cA))=lI (.sh d) (aAk a r (Y.set i (.sh d))):=rfl
theorem lq:aAj [] [] [] a Y=aA Y:=rfl
theorem gq:aAj (cA::b) (.slot i::c) (a::as) d Y=aAj b c as d Y:=rfl
theorem iq:aAj (cA::b) (.val v::c) (a::as) d Y=aAj b c as d Y:=rfl
theorem oq:aAj (bA::b) (.val v::c) (a::as) d Y=aAj b c as d Y:=rfl
def iY(c:List Bool)(i:Nat)(e:List Hd)(a:Sl)(as:List Sl)(f Y:Env)(o:Option Sl):Option Env :=
  match o,a with
  |some (.ow _ b g),.ow d _ _=>aAj c e as f (Y.set i (.ow d b g))
  |some (.ow _ _ _),_=>eA
  |_,_=>aAj c e as f Y
theorem mq:aAj (bA::c) (.slot i::d) (a::as) b Y=iY c i d a as b Y b[i]?:=rfl
theorem gu:iY a i b (.ow d p l) as c Y (aA (.ow g e f))=aAj a b as c (Y.set i (.ow d e f)):=rfl
theorem iu:iY b i c a as e Y (aA (.sh d))=aAj b c as e Y:=rfl
def N7(f:BI)(a:List Hd)(Y:Env):yA RV:=done ((getAll a Y).bind (QC f)) Y
theorem Kn:ev P C t (.bif f a) Y=aAi t ((kC P C a Y).bind (N7 f)):=rfl
theorem fq:getAll [] Y=aA []:=rfl
noncomputable def o6(a:Option D)(b:Option (List D)):Option (List D):=a.bind λd=>b.map (d :: ·)
theorem cq:o6 (aA d) (aA a)=aA (d::a):=rfl
theorem dq:getAll (h::r) Y=o6 (h.get Y) (getAll r Y):=rfl
theorem gp:QC .len [.l a]=aA (.sh (.int a.length)):=rfl
theorem ip:QC .len [.t a]=aA (.sh (.int a.length)):=rfl
theorem Yo:QC .abs [.int i]=aA (.sh (.int (if i<0 then -i else i))):=rfl
theorem bp:QC .int [.bl b]=aA (.sh (.int (if b then 1 else 0))):=rfl
theorem lp:QC .list [.t a]=aA (.ow (.l a)):=rfl
theorem xp:QC .tuple [.l a]=aA (.sh (.t a)):=rfl
theorem qp:QC .max [.int i,.int j]=aA (.sh (.int (if j > i then j else i))):=rfl
def dF(ts:List Ty):Option D->Option RV
 |some d=>(QO ts d).map λb=>.sh (.bl b)
 |none=>eA
def lY(ts:List Ty)(x:Hd)(Y:Env):yA RV:=done (dF ts (x.get Y)) Y
theorem Yn:ev P C t (.cF a ts) Y=aAi t ((MB P C a Y).bind (lY ts)):=by
 show aAi t ((MB P C a Y).bind λx Y1=>done ((x.get Y1).bind λd=>(QO ts d).map λb=>.sh (.bl b)) Y1)=_
 congr 2
 funext x Y1
 unfold lY;cases x.get Y1<;>rfl
theorem Wr:dF [.int] (aA (.nA))=aA (.sh (.bl cA)):=rfl
theorem Tr:dF [.int] (aA (.bl b))=aA (.sh (.bl bA)):=rfl
theorem Ur:dF [.int] (aA (.int i))=aA (.sh (.bl bA)):=rfl
theorem Xr:dF [.int] (aA (.str x))=aA (.sh (.bl cA)):=rfl
theorem Yr:dF [.int] (aA (.t a))=aA (.sh (.bl cA)):=rfl
theorem Vr:dF [.int] (aA (.l a))=aA (.sh (.bl cA)):=rfl
theorem Rr:dF [.bool] (aA (.bl b))=aA (.sh (.bl bA)):=rfl
theorem Sr:dF [.bool] (aA (.int i))=aA (.sh (.bl cA)):=rfl
theorem Bs:dF [.str] (aA (.nA))=aA (.sh (.bl cA)):=rfl
theorem Zr:dF [.str] (aA (.bl b))=aA (.sh (.bl cA)):=rfl
theorem js:dF [.str] (aA (.int i))=aA (.sh (.bl cA)):=rfl
theorem Cs:dF [.str] (aA (.str x))=aA (.sh (.bl bA)):=rfl
theorem Ds:dF [.str] (aA (.t a))=aA (.sh (.bl cA)):=rfl
theorem As:dF [.str] (aA (.l a))=aA (.sh (.bl cA)):=rfl
theorem Es:dF [.tuple] (aA (.t a))=aA (.sh (.bl bA)):=rfl
def J7(i:Nat)(d:D)(Y:Env)(o:Option Sl):yA RV:=match o with
 |some (.ow (.l a) p cA)=>if NA (a.length+1) then some (.ok (.sh .nA),Y.set i (.ow (.l (a++[d])) p cA)) else eA
 |_=>eA
def K7(i:Nat)(v:RV)(Y:Env):yA RV:=J7 i v.d Y Y[i]?
theorem Vt:J7 i d Y (aA (.ow (.l a) p cA))=XO (NA (a.length+1)) (.sh .nA) (Y.set i (.ow (.l (a++[d])) p cA)):=rfl
noncomputable def kY(r:yA RV)(b:Bool):yA RV:=if b then r else eA
theorem lu:kY r bA=r:=rfl
theorem Jn:ev P C t (.app i a) Y=aAi t (kY ((ev P C cA a Y).bind (K7 i)) (lH Y i)):=rfl
noncomputable def k7:Option Sl->Bool
 |some (.ow (.l _) _ _)=>bA
 |_=>cA
theorem Vs:lH Y i=k7 Y[i]?:=rfl
theorem Us:k7 (aA (.ow (.l a) p l))=bA:=rfl
def L7(i:Nat)(v:RV)(Y:Env):Run:=yG (store i v Y)
theorem Mo:ex P C W (.LA i e) Y=(ev P C cA e Y).WB (L7 i):=rfl
noncomputable def tP(i:Nat)(v:RV)(Y:Env)(o:Option Sl):Option Env:=match o with
 |none=>eA
 |some (.ow _ bA _)=>eA
 |some (.ow _ _ bA)=>eA
 |some _=>match v with
  |.sh d=>aA (Y.set i (.sh d))
  |.ow d=>aA (Y.set i (.ow d cA cA))
  |.od _=>eA
theorem uP:store i v Y=tP i v Y Y[i]?:=rfl
theorem bFa:tP i (.sh d) Y (aA .un)=aA (Y.set i (.sh d)):=rfl
theorem aFa:tP i (.ow d) Y (aA .un)=aA (Y.set i (.ow d cA cA)):=rfl
theorem zEa:tP i (.sh d) Y (aA (.sh a))=aA (Y.set i (.sh d)):=rfl
noncomputable def KA:Sl->Bool
 |.un=>bA
 |.mv=>bA
 |.sh _=>bA
 |.ow _ cA cA=>bA
 |_=>cA
theorem eB(h:KA s=bA):tP i (.sh d) Y (aA s)=aA (Y.set i (.sh d)):=by
 cases s with
 |ow d p l=>cases p<;>cases l<;>first | rfl | cases h
 |_=>rfl
theorem Rx:KA .un=bA:=rfl
theorem Qx:KA (.sh d)=bA:=rfl
def M7(is:List Nat)(v:RV)(Y:Env):Run:=yG (UA cA is v.d Y)
theorem Oo:ex P C W (.DM is e) Y=(ev P C cA e Y).WB (M7 is):=rfl
theorem uO:UA bA [i] d Y=store i (.sh d) Y:=rfl
theorem wV:UA cA (i::is) (.t a) Y=aAn (i::is) a Y:=rfl
theorem DZ:aAn [] [] Y=aA Y:=rfl
def K8(is:List Nat)(a:List D)(o:Option Env):Option Env:=o.bind (aAn is a)
theorem CZ:aAn (i::is) (d::a) Y=K8 is a (store i (.sh d) Y):=rfl
theorem vY:K8 is a (aA Y)=aAn is a Y:=rfl
def LS(i:Nat)(v:D)(Y:Env):Option Sl->D->Run
 |some (.ow (.l a) p cA),.int n=>yG ((L2.DD a.length n).map λm=>Y.set i (.ow (.l (a.set m v)) p cA))
 |_,_=>eA
def D8(i:Nat)(v:RV)(j:RV)(Y:Env):Run:=LS i v.d Y Y[i]? j.d
noncomputable def tAa(i:Nat)(v j:RV)(Y:Env):Option Sl->Run
 |o=>match o,j,v with
  |_,_,_=>eA
def Pu(i:Nat)(v:RV)(j:RV)(Y:Env):Run:=tAa i v j Y Y[i]?
noncomputable def Js:Option Sl->Bool
 |_=>cA
theorem Ks:Hs Y i=Js Y[i]?:=rfl
noncomputable def k8(r a:Run)(b:Bool):Run:=if b then r else a
theorem mu:k8 r a bA=r:=rfl
def Nu(i:Nat)(v:RV)(j:RV)(Y:Env):Run:=fDa i Y Y[i]? (qDa j.d) v
noncomputable def Ms:Option Sl->Bool
 |_=>cA
theorem Qs:Ls Y i=Ms Y[i]?:=rfl
noncomputable def B8(P:XA)(C:Calls)(i:Nat)(k:E)(v:RV)(Y:Env):Run:=eA
def C8(P:XA)(C:Calls)(i:Nat)(k:E)(v:RV)(Y:Env):Run:=k8 ((ev P C cA k Y).WB (D8 i v)) (B8 P C i k v Y) (lH Y i)
theorem To:ex P C W (.set i k e) Y=(ev P C cA e Y).WB (C8 P C i k):=rfl
def ot:L2.DD (n+2) 1=aA 1:=by unfold L2.DD;rw[QA (by lia),QA (by lia)];rfl
theorem eDa:LS i v Y (aA (.ow (.l (a::b::c)) p cA)) (.int 1)=aA (.nx,Y.set i (.ow (.l (a::v::c)) p cA)):=by
 show yG ((L2.DD (c.length+2) 1).map _)=_;rw[ot];rfl
def dDa(h:L2.DD a.length n=aA m):LS i v Y (aA (.ow (.l a) p cA)) (.int n)=aA (.nx,Y.set i (.ow (.l (a.set m v)) p cA)):=by
 show yG ((L2.DD a.length n).map _)=_;rw[h];rfl
noncomputable def Z7(v:RV)(Y:Env):Run:=aA (.nx,Y)
theorem Po:ex P C W (.expr e) Y=(ev P C cA e Y).WB Z7:=rfl
noncomputable def kZ(i:Nat)(Y:Env):Option Sl->Run
 |some (.ow d cA _)=>aA (.rt (.ow d),Y.set i .mv)
 |some (.sh d)=>aA (.rt (.sh d),Y)
 |_=>eA
theorem uBa:kZ i Y (aA (.ow d cA l))=aA (.rt (.ow d),Y.set i .mv):=rfl
theorem vBa:kZ i Y (aA (.sh d))=aA (.rt (.sh d),Y):=rfl
noncomputable def DE(v:RV)(Y:Env):Run:=aA (.rt v,Y)
theorem So:ex P C W (.ret (.v i)) Y=kZ i Y Y[i]?:=rfl
theorem cn:ex P C W (.ret (.c d)) Y=(ev P C cA (.c d) Y).WB DE:=rfl
theorem Bn:ex P C W (.ret (.t a)) Y=(ev P C cA (.t a) Y).WB DE:=rfl
theorem rn:ex P C W (.ret (.l a)) Y=(ev P C cA (.l a) Y).WB DE:=rfl
theorem Wm:ex P C W (.ret (.sA op a b)) Y=(ev P C cA (.sA op a b) Y).WB DE:=rfl
theorem Ym:ex P C W (.ret (.tA op a b)) Y=(ev P C cA (.tA op a b) Y).WB DE:=rfl
theorem Um:ex P C W (.ret (.and a b)) Y=(ev P C cA (.and a b) Y).WB DE:=rfl
theorem xn:ex P C W (.ret (.or a b)) Y=(ev P C cA (.or a b) Y).WB DE:=rfl
theorem dn:ex P C W (.ret (.ite a b c)) Y=(ev P C cA (.ite a b c) Y).WB DE:=rfl
theorem jn:ex P C W (.ret (.ix a b)) Y=(ev P C cA (.ix a b) Y).WB DE:=rfl
theorem yn:ex P C W (.ret (.sl a b c)) Y=(ev P C cA (.sl a b c) Y).WB DE:=rfl
theorem Xm:ex P C W (.ret (.call f a)) Y=(ev P C cA (.call f a) Y).WB DE:=rfl
theorem Vm:ex P C W (.ret (.bif f a)) Y=(ev P C cA (.bif f a) Y).WB DE:=rfl
theorem Zm{a cond:List E}:ex P C W (.ret (.comp b c k a cond imp nl)) Y=(ev P C cA (.comp b c k a cond imp nl) Y).WB DE:=rfl
def jY(P:XA)(C:Calls)(W:Nat)(a b:List S)(v:RV)(Y:Env):Run:=match v with
 |.sh (.bl bA)=>YA P C W a Y
 |.sh (.bl cA)=>YA P C W b Y
 |_=>eA
theorem ou:jY P C W a b (.sh (.bl bA)) Y=YA P C W a Y:=rfl
theorem nu:jY P C W a b (.sh (.bl cA)) Y=YA P C W b Y:=rfl
theorem Ro:ex P C W (.vA c a b) Y=(ev P C bA c Y).WB (jY P C W a b):=rfl
def j6(P:XA)(C:Calls)(W:Nat)(a:List Nat)(one:Bool)(body:List S)(Y:Env):Option (List D×Option Nat)->Run
 |none=>eA
 |some (b,o)=>(iD (UA one a) (YA P C W body) b (aAg o Y)).restore o Y
theorem Jp:j6 P C W a one body Y (aA (b,o))=(iD (UA one a) (YA P C W body) b (aAg o Y)).restore o Y:=rfl
def aA4(P:XA)(C:Calls)(W:Nat)(a:List Nat)(one:Bool)(k:ZF)(body:List S)(b:List Hd)(Y:Env):Run:=j6 P C W a one body Y (aAc k b Y)
theorem Qo:ex P C W (.for b one k a body) Y=(kC P C a Y).WB (aA4 P C W b one k body):=rfl
theorem lW:YA P C W [] Y=aA (.nx,Y):=rfl
theorem kW:YA P C W (s::r) Y=(ex P C W s Y).next (YA P C W r):=rfl
theorem yBa{r:Run}:r.restore eA a=r:=by cases r with | none=>rfl | some y=>obtain⟨fl,Y⟩:=y;rfl
theorem tGa:aAg eA Y=Y:=rfl
def jK(h:a.get Y=aA (.int n))(b:-1000000<=n)(c:n<=1000000):aAc .BB [a] Y=aA ((EB n.toNat).map λ(j:Nat)=>.int (j:Int),eA):=by
 unfold aAc;dsimp only;rw[h];exact QA ⟨b,c⟩
def bY(h:a.get Y=aA (.int m))(c:b.get Y=aA (.int n))(d:-1000000<=m/\m<=1000000)(e:-1000000<=n/\n<=1000000):aAc .BB [a,b] Y=aA ((EB (n-m).toNat).map λ(j:Nat)=>.int (m+(j:Int)),eA):=by
 unfold aAc;dsimp only;rw[h,c];exact QA ⟨d,e⟩
def kI(h:v.d=.l a):aAc .of [.val v] Y=aA (a,eA):=by(unfold aAc;dsimp only;rw[h])
def kK(h:v.d=.t a):aAc .of [.val v] Y=aA (a,eA):=by(unfold aAc;dsimp only;rw[h])
def m7(h:Y[i]?=aA (.sh (.l a))):aAc .of [.slot i] Y=aA (a,eA):=by(unfold aAc;dsimp only;rw[h])
def jN(h:Y[i]?=aA (.sh (.t a))):aAc .of [.slot i] Y=aA (a,eA):=by(unfold aAc;dsimp only;rw[h])
def WR(h:Y[i]?=aA (.ow (.l a) p l)):aAc .of [.slot i] Y=aA (a,aA i):=by(unfold aAc;dsimp only;rw[h])
def BY{bind:D->Env->Option Env}(I:Env->Prop)(h:∀d∈ds,∀Y,I Y->∃Y1,bind d Y=aA Y1/\∃Y2,body Y1=aA (.nx,Y2)/\I Y2):∀{Y:Env},I Y->∃a,iD bind body ds Y=aA (.nx,a)/\I a:=by
 induction ds with
 |nil=>exact λb=>⟨_,rfl,b⟩
 |cons d ds e =>
  intro Y b;obtain⟨Y1,f,Y2,g,i⟩:=h d (by simp) Y b;obtain⟨a,j,k⟩:=e (λl c=>h l (by simp[c])) i;exact⟨a,by simp only[iD,f,g,j],k⟩
def CF{bind:D->Env->Option Env}(I:List D->Env->Prop)(h:∀pre d post,ds=pre++d::post->∀Y,I pre Y->∃Y1,bind d Y=aA Y1/\∃Y2,body Y1=aA (.nx,Y2)/\I (pre++[d]) Y2)(c:I [] Y):∃a,iD bind body ds Y=aA (.nx,a)/\I ds a:=by
 have key:∀(post pre:List D) (Y:Env),ds=pre++post->I pre Y->∃a,iD bind body post Y=aA (.nx,a)/\I ds a:=by
  intro post
  induction post with
  |nil=>intro pre Y e b;rw[OF] at e;subst e;exact⟨Y,rfl,b⟩
  |cons d post f =>
   intro pre Y e b;obtain⟨Y1,g,Y2,i,j⟩:=h pre d post e Y b;obtain⟨a,k,l⟩:=f (pre++[d]) Y2 (by rw[e];simp) j;exact⟨a,by simp only[iD,g,i,k],l⟩
 exact key ds [] Y rfl c
noncomputable def uY(as:List Sl):Run->yA RV
 |some (.nx,Y)=>some (.ok (.sh .nA),back as Y)
 |some (.rt v,Y)=>some (.ok v,back as Y)
 |_=>eA
theorem Qu:uY as (aA (.nx,Y))=some (.ok (.sh .nA),back as Y):=rfl
theorem Ru:uY as (aA (.rt v,Y))=some (.ok v,back as Y):=rfl
def DG(a:T f=aA fn)(b:as.length=fn.dA.length)(c:as.all sJ=bA)(d:fn.rs=cA:=by rfl):run T W (n+1) f as=uY as (YA T.dA (run T W n) W fn.body (as++CB fn.nl .un)):=by
 simp only[run,a];rw[QA ⟨b,c⟩,d];generalize YA T.dA (run T W n) W fn.body (as++CB fn.nl .un)=r;obtain _ | ⟨fl,Y⟩:=r
 ·rfl
 ·cases fl<;>rfl
end
end CI
namespace CI
set_option tactic.hygienic true
open PySem PySem.Spec PyProof.Rows L2
noncomputable def u5:D->gA->Bool
 |.nA,.none=>bA
 |.bl a,.bool b=>a==b
 |.int i,.int j _=>i==j
 |.str x,.str y _=>x==y&&gC x
 |_,_=>cA
set_option tactic.hygienic false
def DV:List D->List gA->Bool
 |[],[]=>bA
 |d::a,v::b=>u5 d v&&DV a b
 |_,_=>cA
def Ql{K:jA}(h:u5 d u=bA):∃v,aAf v u/\∀G,qA K G d v:=by
 have no:∀{p:Prop},cA=bA->p:=λh=>nomatch h
 induction d using D.casesOn with
 |nA =>
  induction u using aU with
  |none=>exact⟨.nA,rfl,λG=>by simp[qA]⟩
  |_=>exact no h
 |bl =>
  induction u using aU with
  |bool=>exact⟨.bl _,rfl,λG=>by simp[qA,dC (show(_==_)=bA from h)]⟩
  |_=>exact no h
 |int i =>
  induction u using aU with
  |int j t=>exact⟨.int i,⟨t,by rw[dC (show(i==j)=bA from h)]⟩,λG=>by simp[qA]⟩
  |_=>exact no h
 |str x =>
  induction u using aU with
  |str y t =>
   replace h:=(IA _ _).mp h;exact⟨.str x,⟨t,by rw[dC h.1]⟩,λG=>by simp[qA,h.2]⟩
  |_=>exact no h
 |_=>exact no h
theorem x5{K:jA}:∀{b:List D} {c:List gA},DV b c=bA->∃a,aAd a c/\∀G,uA K G b a
 |[],[],_=>⟨[],.nil,λG=>uA.nil⟩
 |d::b,u::c,h=>by
  replace h:=(IA _ _).mp h;obtain⟨v,e,f⟩:=Ql h.1;obtain⟨a,g,i⟩:=x5 h.2;exact⟨v::a,.cons e g,λG=>uA.cons (f G) (i G)⟩
 |[],_::_,h=>nomatch (show cA=bA from h)
 |_::_,[],h=>nomatch (show cA=bA from h)
def UQ{K:jA}{sl}(X:K.In h)(G:h.Ns uB mg)
  (c:lC K uB x=aA (aA (.ref a))) (hl:K.lookup a=aA ⟨.type "tuple",k,.seq b n,sl⟩) (d:DV e b.toList=bA) (f:decide (b.size<=1000)=bA):YF l K mg T m (x,.c (.t e)):=by
 obtain⟨g,i,j⟩:=x5 d;refine⟨_,.ref a,IK X G c,rfl,λG=>?_⟩;simp only[qA];exact⟨a,g,rfl,.inr ⟨_,b,n,hl,rfl,rfl,KC (of_decide_eq_true f) (by decide),i⟩,j G⟩
noncomputable section
variable{Y Y1:Env}
def VO(P:XA)(C:Calls)(a:E)(b:List Nat)(k:ZF)(cond:List E)(imp:List Nat)(nl:Nat)(c:List Hd)(Y1:Env):yA RV :=
 match aAc k c Y1 with
 |none=>eA
 |some (d,o)=>(MD (imp.map λ_=>bA) (WI (aC P C cond) (ev P C cA a) (UA (b.length==1) b) d nl) (imp.map Hd.slot) (aAg o Y1)).bind (aAq o Y1)
theorem Rn{a cond:List E}:ev P C t (.comp b c k a cond imp nl) Y=aAi t ((kC P C a Y).bind (VO P C b c k cond imp nl)):=rfl
def IC{cond:List E}(h:aAc k c Y1=aA (d,eA)) :
  VO P C a b k cond imp nl c Y1=(MD (imp.map λ_=>bA) (WI (aC P C cond) (ev P C cA a) (UA (b.length==1) b) d nl) (imp.map Hd.slot) Y1).bind (aAq eA Y1):=by
 unfold VO;rw[h];rfl
theorem wq:aAq eA Y1 v a=some (.ok v,a):=rfl
def gY{cond:List E}(h:aAc k c Y1=aA (d,aA i)) :
  VO P C a b k cond imp nl c Y1=(MD (imp.map λ_=>bA) (WI (aC P C cond) (ev P C cA a) (UA (b.length==1) b) d nl) (imp.map Hd.slot) (aAg (aA i) Y1)).bind (aAq (aA i) Y1):=by
 unfold VO;rw[h]
def fY(as:List Sl)(a:List D)(b:Env):yA RV:=if NA a.length then some (.ok (.ow (.l a)),back as b) else eA
theorem RC{bind:D->Env->Option Env}(h:as.all sJ=bA):WI a b bind c nl as=(tD a b bind c [] (as++CB nl .un)).bind (fY as):=by
 unfold WI;rw[QA h];rfl
theorem du(h:NA a.length=bA):fY as a b=some (.ok (.ow (.l a)),back as b):=by unfold fY;rw[QA h]
theorem tL:aC P C [] Y=some (.ok (.sh (.bl bA)),Y):=rfl
def L8(P:XA)(C:Calls)(a:List E)(v:RV)(Y1:Env):yA RV:=match v with
 |.sh (.bl bA)=>aC P C a Y1
 |.sh (.bl cA)=>some (.ok (.sh (.bl cA)),Y1)
 |_=>eA
theorem Gn:aC P C (e::a) Y=(ev P C bA e Y).bind (L8 P C a):=rfl
theorem Vu:L8 P C [] (.sh (.bl b)) Y1=some (.ok (.sh (.bl b)),Y1):=by
 cases b
 ·rfl
 ·show aC P C [] Y1=_;exact tL
theorem O_:sJ (.ow d bA l)=bA:=rfl
theorem P_:sJ (.sh d)=bA:=rfl
def qL{bind:D->Env->Option Env}(I:Nat->List D->Env->Prop)
  (step:∀(j:Nat) (d:D),ds[j]?=aA d->∀a Y,I j a Y->∃Y1 c g,bind d Y=aA Y1/\tests Y1=some (.ok (.sh (.bl c)),g)/\(c=bA->∃v k,DB g=some (.ok v,k)/\I (j+1) (a++[v.d]) k)/\(c=cA->I (j+1) a g)) :
  ∀a Y,I 0 a Y->∃b f,tD tests DB bind ds a Y=some (.ok b,f)/\I ds.length b f/\b.length<=a.length+ds.length:=by
 have key:∀(e:List D) (j:Nat),ds.drop j=e->∀a Y,I j a Y->∃b f,tD tests DB bind e a Y=some (.ok b,f)/\I (j+e.length) b f/\b.length<=a.length+e.length:=by
  intro e
  induction e with
  |nil=>intro j _ a Y h;exact⟨a,Y,rfl,h,by simp⟩
  |cons d e n =>
   intro j o a Y h
   have hd:ds[j]?=aA d:=by
    have:(ds.drop j)[0]?=aA d:=by rw[o];rfl
    simpa using this
   have i:ds.drop (j+1)=e:=by
    have:(ds.drop j).drop 1=e:=by rw[o];rfl
    rw[ng] at this;exact this
   obtain⟨Y1,c,g,q,r,s,t⟩:=step j d hd a Y h;simp only[tD,q,r,yA.bind]
   cases c with
   |false =>
    obtain⟨b,f,l,m,p⟩:=n (j+1) i a g (t rfl);refine⟨b,f,l, ?_,by simp only[VB];lia⟩
    have:j+(d::e).length=j+1+e.length:=by simp only[VB];lia
    rw[this];exact m
   |true =>
    obtain⟨v,k,u,w⟩:=s rfl;obtain⟨b,f,l,m,p⟩:=n (j+1) i (a++[v.d]) k w;simp only[u];refine⟨b,f,l, ?_,by simp only[PB,VB,bH] at p ⊢;lia⟩
    have:j+(d::e).length=j+1+e.length:=by simp only[VB];lia
    rw[this];exact m
 intro a Y h
 have:=key ds 0 rfl a Y h
 simpa using this
def kB(h:n<=1000000):NA n=bA:=EF h
end
end CI
namespace CI
open PySem (Operator CmpOp Str)
noncomputable section
variable{Y Y1 Y2:Env}
theorem aAC:∀a:List Int,bF (a.map D.int)=aA a
 |[]=>rfl
 |n::r=>by(show(bF (r.map D.int)).map (n :: ·)=_;rw[aAC r];rfl)
theorem Gz:MB P C (.VJ a) Y=(ev P C cA (.VJ a) Y).bind xD:=rfl
theorem Mz:MB P C (.fld a f) Y=(ev P C cA (.fld a f) Y).bind xD:=rfl
theorem Sz:MB P C (.iG i m a b) Y=(ev P C cA (.iG i m a b) Y).bind xD:=rfl
theorem Uz:MB P C (.NL a) Y=(ev P C cA (.NL a) Y).bind xD:=rfl
def p9(o:Option D):Option RV:=o.bind aP
def y8(x:Hd)(Y:Env):yA RV:=done (p9 (x.get Y)) Y
theorem yo:ev P C t (.NL a) Y=aAi t ((MB P C a Y).bind y8):=rfl
theorem j':RL P C (.neg a) Y=(ev P C cA (.neg a) Y).bind eS:=rfl
def sV(o:Option D):Option RV:=o.bind rV
theorem Pj:sV (aA (.int i))=aA (.sh (.int (sM i))):=rfl
def Q7(x:Hd)(Y:Env):yA RV:=done (sV (x.get Y)) Y
theorem Mn:ev P C t (.VJ a) Y=aAi t ((MB P C a Y).bind Q7):=rfl
def ZE(o:Option D)(f:fA):Option RV:=o.bind λd=>(nW d f).map .sh
def c8(f:fA)(x:Hd)(Y:Env):yA RV:=done (ZE (x.get Y) f) Y
theorem Vn:ev P C t (.fld a f) Y=aAi t ((MB P C a Y).bind (c8 f)):=rfl
noncomputable def dS(c:fA)(a:List fA)(b:List D)(Y:Env):yA RV:=if b.length=a.length then some (.ok (.sh (.ins c a b)),Y) else eA
theorem jo:ev P C t (.make c a b) Y=aAi t ((AE P C b Y).bind (dS c a)):=rfl
theorem yu:dS c [f] [a] Y=some (.ok (.sh (.ins c [f] [a])),Y):=rfl
theorem zu:dS c [f,g] [a,b] Y=some (.ok (.sh (.ins c [f,g] [a,b])),Y):=rfl
theorem Au:dS c [f,g,h] [a,b,d] Y=some (.ok (.sh (.ins c [f,g,h] [a,b,d])),Y):=rfl
def sY(P:XA)(C:Calls)(f:String)(d:D)(a:List Hd)(Y:Env):yA RV:=UO P C f (.val (.sh d)::a) Y
def rY(P:XA)(C:Calls)(d:D)(a:List E)(Y:Env):Option String->yA RV
 |some f=>(kC P C a Y).bind (sY P C f d)
 |none=>eA
theorem Eu:rY P C d a Y (aA f)=(kC P C a Y).bind (sY P C f d):=rfl
def pY(P:XA)(C:Calls)(f:String)(i:Nat)(a:List Hd)(Y:Env):yA RV:=UO P C f (.slot i::a) Y
theorem Du:pY P C f i a Y=UO P C f (.slot i::a) Y:=rfl
def oY(P:XA)(C:Calls)(i:Nat)(a:List E)(Y:Env):Option String->yA RV
 |some f=>(kC P C a Y).bind (pY P C f i)
 |none=>eA
theorem Cu:oY P C i a Y (aA f)=(kC P C a Y).bind (pY P C f i):=rfl
def qY(P:XA)(C:Calls)(m:fA)(b:List (fA×String))(d:List E)(Y:Env)(i:Nat):Option Sl->yA RV
 |some (.sh (.ins c a e))=>rY P C (.ins c a e) d Y (yD c a m b)
 |some (.ow (.ins c a e) _ _)=>oY P C i d Y (yD c a m b)
 |_=>eA
theorem Hu:qY P C m a b Y i (aA (.ow (.ins c d e) p l))=oY P C i b Y (yD c d m a):=rfl
theorem Gu:qY P C m b d Y i (aA (.sh (.ins c a e)))=rY P C (.ins c a e) d Y (yD c a m b):=rfl
theorem ko:ev P C t (.iG i m a b) Y=aAi t (qY P C m a b Y i Y[i]?):=rfl
def nY(P:XA)(C:Calls)(c:fA)(f:String)(a:List D)(Y:Env):yA RV:=if(P f).length=a.length+1 then nN Y (C f (.ow (.ins c [] []) bA cA::a.map .sh)) else eA
theorem oo:ev P C t (.nI c f a) Y=aAi t ((AE P C a Y).bind (nY P C c f)):=rfl
theorem Ew:nN Y (some (.ok (.sh .nA),.ow (.ins c a b) bA cA::r))=some (.ok (.ow (.ins c a b)),Y):=rfl
theorem jW:ex P C W (.tJ i f a e) Y=(ev P C cA e Y).WB (KS i f a):=rfl
theorem Qz:MB P C (.vD x a) Y=(ev P C cA (.vD x a) Y).bind xD:=rfl
theorem Wz:MB P C (.UG i x) Y=(ev P C cA (.UG i x) Y).bind xD:=rfl
def kN(x:fA)(o:Option D):Option RV:=o.bind (dY x)
def o8(x:fA)(h:Hd)(Y:Env):yA RV:=done (kN x (h.get Y)) Y
theorem eo:ev P C t (.vD x a) Y=aAi t ((MB P C a Y).bind (o8 x)):=rfl
theorem Co:ev P C t (.UG i x) Y=aAi t (vI x Y Y[i]?):=rfl
theorem Eo:ev P C t (.xP i x) Y=aAi t (yP x Y Y[i]?):=rfl
theorem lFa:yP x Y (aA (.sh (.str y)))=some (.ok (.sh (.bl (UP y x))),Y):=rfl
theorem mn:ex P C W (.ret (.vD x a)) Y=(ev P C cA (.vD x a) Y).WB DE:=rfl
theorem An:ex P C W (.ret (.UG i x)) Y=(ev P C cA (.UG i x) Y).WB DE:=rfl
def D7(h:xH a=aA ts)(b:XN x ts=bA)(c:gC (QB x ts)=bA):kN x (aA (.l a))=aA (.sh (.str (QB x ts))):=by
 show(match xH a with | some ts=>_ | none=>eA)=_;rw[h];exact QA ⟨b,c⟩
def vEa(a:(x.length==0)=cA)(b:y.length<=1000000)(c:(HE y x).all gC=bA):vI x Y (aA (.sh (.str y)))=some (.ok (.ow (.l ((HE y x).map D.str))),Y):=QA ⟨a,b,c⟩
def SI(h:x.length+y.length<=1000000):xB .Add (.str x) (.str y)=aA (.sh (.str (x++y))):=QA h
theorem eI:QC .str [.str x]=aA (.sh (.str x)):=rfl
def W5(a:i.natAbs.log2<1920)(b:gC (rA (toString i))=bA):QC .str [.int i]=aA (.sh (.str (rA (toString i)))):=QA ⟨a,b⟩
def ep(a:x.length<=640)(b:aQ x=aA n):QC .int [.str x]=aA (.sh (.int n)):=by
 show @ite _ _ (cl _) _ eA=_;rw[QA a,b];rfl
def wDa(b:x.length<=1000000)(c:gC (pM x lo a)=bA):WL (.str x) lo a=aA (.sh (.str (pM x lo a))):=QA ⟨b,c⟩
def jt(h:a.get Y=aA (.str x))(b:x.cps.all (·<128)=bA)(c:gC x=bA):aAc .sig [a] Y=aA (tK x,eA):=by
 show(match a.get Y with | some (.str x)=>_ | _=>eA)=_;rw[h];exact QA ⟨b,c⟩
theorem vn:ex P C W (.ret (.make c a b)) Y=(ev P C cA (.make c a b) Y).WB DE:=rfl
theorem Vk:vB .NotEq (.bl a) (.bl b)=aA (!(a==b)):=rfl
theorem zg0:(a::l)[0]?=aA a:=rfl
theorem zg1:(a::l)[n+1]?=l[n]?:=rfl
theorem zs0:(a::l).set 0 b=b::l:=rfl
theorem zs1:(a::l).set (n+1) b=a::l.set n b:=rfl
theorem zb:(aA a).bind f=f a:=rfl
theorem zm:(aA a).map f=aA (f a):=rfl
theorem zi:(aA a).isSome=bA:=rfl
theorem zc:(a::l)++m=a::(l++m):=rfl
theorem zn:[]++l=l:=rfl
theorem zr0:CB 0 a=[]:=rfl
theorem zr1:CB (n+1) a=a::CB n a:=rfl
theorem zl0:([]:List O).length=0:=rfl
theorem zl1:(a::l).length=l.length+1:=rfl
theorem znt:(!true)=cA:=rfl
theorem znf:(!false)=bA:=rfl
theorem zko:back (.ow d p l::as) (b::bs)=b::back as bs:=rfl
theorem zks:back (.sh d::as) (b::bs)=.sh d::back as bs:=rfl
theorem zkn:back [] bs=[]:=rfl
end
def Lv{Q:List O->Prop}(h:∀a,Q [a])(b:List O)(hl:b.length=1):Q b:=by
 obtain _ | ⟨a,c⟩:=b
 ·simp at hl
 obtain _ | ⟨x,y⟩:=c
 ·exact h a
 ·simp at hl
def Mv{Q:List O->Prop}(h:∀a b,Q [a,b])(c:List O)(hl:c.length=2):Q c:=by
 obtain _ | ⟨a,d⟩:=c
 ·simp at hl
 obtain _ | ⟨b,e⟩:=d
 ·simp at hl
 obtain _ | ⟨x,y⟩:=e
 ·exact h a b
 ·simp at hl
def Ov{Q:List O->Prop}(h:∀a b c,Q [a,b,c])(d:List O)(hl:d.length=3):Q d:=by
 obtain _ | ⟨a,e⟩:=d
 ·simp at hl
 obtain _ | ⟨b,f⟩:=e
 ·simp at hl
 obtain _ | ⟨c,g⟩:=f
 ·simp at hl
 obtain _ | ⟨x,y⟩:=g
 ·exact h a b c
 ·simp at hl
def Rv{Q:List O->Prop}(h:∀a b c d,Q [a,b,c,d])(e:List O)(hl:e.length=4):Q e:=by
 obtain _ | ⟨a,f⟩:=e
 ·simp at hl
 obtain _ | ⟨b,g⟩:=f
 ·simp at hl
 obtain _ | ⟨c,i⟩:=g
 ·simp at hl
 obtain _ | ⟨d,j⟩:=i
 ·simp at hl
 obtain _ | ⟨x,y⟩:=j
 ·exact h a b c d
 ·simp at hl
def Sv{Q:List O->Prop}(h:∀a b c d e,Q [a,b,c,d,e])(f:List O)(hl:f.length=5):Q f:=by
 obtain _ | ⟨a,g⟩:=f
 ·simp at hl
 obtain _ | ⟨b,i⟩:=g
 ·simp at hl
 obtain _ | ⟨c,j⟩:=i
 ·simp at hl
 obtain _ | ⟨d,k⟩:=j
 ·simp at hl
 obtain _ | ⟨e,l⟩:=k
 ·simp at hl
 obtain _ | ⟨x,y⟩:=l
 ·exact h a b c d e
 ·simp at hl
def Tv{Q:List O->Prop}(h:∀a b c d e f,Q [a,b,c,d,e,f])(g:List O)(hl:g.length=6):Q g:=by
 obtain _ | ⟨a,i⟩:=g
 ·simp at hl
 obtain _ | ⟨b,j⟩:=i
 ·simp at hl
 obtain _ | ⟨c,k⟩:=j
 ·simp at hl
 obtain _ | ⟨d,l⟩:=k
 ·simp at hl
 obtain _ | ⟨e,m⟩:=l
 ·simp at hl
 obtain _ | ⟨f,n⟩:=m
 ·simp at hl
 obtain _ | ⟨x,y⟩:=n
 ·exact h a b c d e f
 ·simp at hl
open PySem PySem.Spec PyProof.Rows L2 in
def BQ(x a:fA)(st:cB)(kV b pm:gA)(e:Option lA)(c ct:gA)(d:List gA):Prop:=PySem.bindArgs (nG x a (vG st) (uD st) (UB st) .none kV b pm e c ct) ⟨d,[]⟩=pure ((sC st).zip d)
def fc{P:O->Prop}(h:P a)(t:∀x∈l,P x):∀x∈a::l,P x:=DT.mpr ⟨h,t⟩
section
open PySem PySem.Spec PyProof.Rows L2
def zp{K:jA}{st:cB}(X:K.In h)(G:h.Ns uB mg)(O:ZN b st x fn)(t:∀e∈r,YF d K mg T b e)(g:T f=aA fn:=by rfl)(D:YN K x st:=by refine' CI.K5 ?a ?l ?c ?k;(case a | l | c | k=>k_is)):∀e∈(x,GV.fn f)::r,YF d K mg T b e:=fc (Om X G D O g) t
abbrev N3(st:cB):Prop:=(lJ st).Nodup/\(lJ st).take (sC st).length=sC st/\(∀x∈sC st,(UB st).names.lookup x=aA .local\/(UB st).names.lookup x=aA .cell)/\∀y∈(UB st).names,y.2≠.free
abbrev QJ(x a:fA)(st:cB):Prop:=∀(kV b pm:gA) (e:Option lA) (c ct:gA) (d:List gA),d.length=(sC st).length->BQ x a st kV b pm e c ct d
def AG{st:cB}(q:QJ x a st)(c:(UB st).kind=.function:=by rfl)(d:(UB st).isCoroutine=cA:=by rfl)(e:(UB st).isGenerator=cA:=by rfl)(h:N3 st/\(lJ st).length=fn.dA.length+fn.nl/\(sC st).length=fn.dA.length:=by decide +kernel)(b:fn.body=A5 gl st:=by kernel_rfl):VE gl st x a fn :=
 ⟨⟨c,d,e,h.1.1,h.1.2.1,h.1.2.2.1,h.1.2.2.2⟩,b,h.2.1,h.2.2,q⟩
def LL{st:cB}(q:QJ "__init__" a st)(c:(UB st).kind=.function:=by rfl)(d:(UB st).isCoroutine=cA:=by rfl)(e:(UB st).isGenerator=cA:=by rfl)(h:N3 st/\(sC st).length=ns.length+1/\ns.Nodup/\ns.length<1000:=by decide +kernel)(b:fJ (sC st) 1 (uD st)=aA ns:=by kernel_rfl):QI st a ns :=
 ⟨⟨c,d,e,h.1.1,h.1.2.1,h.1.2.2.1,h.1.2.2.2⟩,b,h.2.1,h.2.2.1,h.2.2.2,q⟩
variable{st:cB}
def rC(d:(sC st).length=1:=by rfl)(h:∀kV a pm c b ct e,BQ x cD st kV a pm c b ct [e]:=by intros;exact rfl):QJ x cD st:=λkV a pm c b ct f hl=>Lv (h kV a pm c b ct) f (hl.trans d)
def dE(d:(sC st).length=2:=by rfl)(h:∀kV a pm c b ct e f,BQ x cD st kV a pm c b ct [e,f]:=by intros;exact rfl):QJ x cD st:=λkV a pm c b ct g hl=>Mv (h kV a pm c b ct) g (hl.trans d)
def uG(d:(sC st).length=3:=by rfl)(h:∀kV a pm c b ct e f g,BQ x cD st kV a pm c b ct [e,f,g]:=by intros;exact rfl):QJ x cD st:=λkV a pm c b ct i hl=>Ov (h kV a pm c b ct) i (hl.trans d)
def YE(d:(sC st).length=4:=by rfl)(h:∀kV a pm c b ct e f g i,BQ x cD st kV a pm c b ct [e,f,g,i]:=by intros;exact rfl):QJ x cD st:=λkV a pm c b ct j hl=>Rv (h kV a pm c b ct) j (hl.trans d)
def uV(d:(sC st).length=5:=by rfl)(h:∀kV a pm c b ct e f g i j,BQ x cD st kV a pm c b ct [e,f,g,i,j]:=by intros;exact rfl):QJ x cD st:=λkV a pm c b ct k hl=>Sv (h kV a pm c b ct) k (hl.trans d)
def Tj(d:(sC st).length=6:=by rfl)(h:∀kV a pm c b ct e f g i j k,BQ x cD st kV a pm c b ct [e,f,g,i,j,k]:=by intros;exact rfl):QJ x cD st:=λkV a pm c b ct l hl=>Tv (h kV a pm c b ct) l (hl.trans d)
end
def a8(i:Nat)(v:RV)(Y:Env)(o:Option Sl):yA RV:=match o,v with
 |some (.ow (.l a) p cA),.ow (.l b)=>if NA (a.length+b.length) then some (.ok (.sh .nA),Y.set i (.ow (.l (a++b)) p cA)) else eA
 |_,_=>eA
def b8(i:Nat)(v:RV)(Y:Env):yA RV:=a8 i v Y Y[i]?
theorem eu:a8 i (.ow (.l a)) Y (aA (.ow (.l b) p cA))=XO (NA (b.length+a.length)) (.sh .nA) (Y.set i (.ow (.l (b++a)) p cA)):=rfl
theorem Tn:ev P C t (.ext i a) Y=aAi t (kY ((ev P C cA a Y).bind (b8 i)) (lH Y i)):=rfl
theorem Ao:ev P C t (.kP i) Y=aAi t (lP i Y Y[i]?):=rfl
noncomputable def z8(i:Nat)(p:Bool)(l:List D)(Y:Env)(o:Option D):yA RV:=o.map λd=>(.ok (.sh d),Y.set i (.ow (.l l) p cA))
theorem X_:lP i Y (aA (.ow (.l a) p cA))=z8 i p a.dropLast Y a[a.length-1]?:=rfl
theorem Mu:z8 i p l Y (aA d)=some (.ok (.sh d),Y.set i (.ow (.l l) p cA)):=rfl
theorem Uo:ex P C W (.gT b) Y=YA P C W b Y:=rfl
open PySem in
def Rl(X:K.In h)(G:h.Ns uB mg)(a:lC K uB x=aA (aA (.str y t)))(ok:gC y=bA):YF b K mg T c (x,.c (.str y)) :=
 ⟨_,.str y,IK X G a,⟨t,rfl⟩,λG=>by simp only[qA];exact⟨trivial,ok⟩⟩
end CI
namespace Tx
noncomputable abbrev _root_.CI.E.n(d:Int):CI.E:=.c (.int d)
noncomputable abbrev _root_.CI.E.s(d:fA):CI.E:=.c (.str d)
noncomputable abbrev _root_.CI.E.b(d:Bool):CI.E:=.c (.bl d)
open PySem PySem.Spec PyProof.Rows L2 CI
noncomputable def top(i:Nat):cB:=PySem.Challenge.pw_canonwright_k68_a_desk_sings.main.body.getD i (.Pass ⟨0,0,0,0⟩)
noncomputable def AH:List (fA×String):=[("Span","ae"),("Leap","ag"),("Back","ah"),("Again","ai"),("Range","aj"),("Above","al"),("Never","am")]
noncomputable def wK:List (fA×String):=[("Span","af"),("Range","ak")]
noncomputable def aT:List (fA×String):=[("Desk","p")]
noncomputable def SM:List fA:=["Desk"]
noncomputable def TM:List fA:=["Desk"]
noncomputable def OG:List fA:=["sing","back","line","house","next","broken","onward","count","nth","needed","less","without","over"]
noncomputable def BL:List Int:=[1,0,0,0,0,0,0,1,2,1,1,1,0]
def L:List (fA×GV):=("WAYS",.c (.t [(.str ("like":fA)),(.str ("against":fA)),(.str ("aside":fA)),(.str ("any":fA))]))::("NOTES",.c (.int 0))::("BAR",.c (.int 1))::("OCTAVE",.c (.int 2))::("VOICES",.c (.int 3))::("RULES",.c (.int 4))::("LATE",.c (.int 0))::("SHIFT",.c (.int 1))::("TURNED",.c (.int 2))::("LEADER",.c (.t [(.int 0),(.int 0),(.bl cA)]))::("BY_THE_LINE",.c (.t []))::("TURN",.c (.int 0))::("TAIL",.c (.int 1))::("LEAST_MEMORY",.c (.int 3))::("FIGURES",.c (.str ("0123456789":fA)))::("MOST_FIGURES",.c (.int 60))::("GREATEST_SPAN",.c (.int 11))::("CHANGING",.c (.t [(.str ("sing":fA)),(.str ("back":fA)),(.str ("less":fA)),(.str ("without":fA)),(.str ("over":fA))]))::("MOST_SUNG",.c (.int 60))::("is_whole",.fn "r")::("is_within",.fn "d")::("are_within",.fn "j")::("is_follower",.fn "V")::("is_way",.fn "W")::("are_spans",.fn "X")::("is_rule",.fn "f")::("check_frame",.fn "Y")::("house_of",.fn "Z")::("pitch",.fn "0")::("singer",.fn "1")::("sung",.fn "s")::("span",.fn "n")::("chord",.fn "g")::("sounding_pairs",.fn "y")::("move_so",.fn "2")::("rule_of",.fn "h")::("rules_of",.fn "z")::("breaks_at",.fn "o")::("breaks",.fn "A")::("memory",.fn "B")::("turn_of",.fn "3")::("stand_of",.fn "C")::("line_to",.fn "4")::("nexts",.fn "D")::("show_row",.fn "b")::("show_follower",.fn "5")::("show_spans",.fn "6")::("show_rule",.fn "E")::("show_house",.fn "t")::("show_line",.fn "l")::("read_number",.fn "7")::("read_numbers",.fn "c")::("read_spans",.fn "8")::("read_follower",.fn "9")::("read_rule",.fn "aa")::("made_of",.fn "ab")::("read_house",.fn "F")::("words_of",.fn "G")::("numbers_behind",.fn "H")::("or_none",.fn "I")::("show_breaks",.fn "J")::("answer",.fn "m")::("sing",.fn "K")::("take_back",.fn "L")::("changed",.fn "u")::("_law_pen",.fn "M")::("_law_draw",.fn "a")::("_law_rule",.fn "ac")::("_law_house",.fn "N")::("_law_heard",.fn "i")::("_law_by_line",.fn "w")::("_law_moved_so",.fn "ad")::("_law_bad_pair",.fn "O")::("_law_broken",.fn "e")::("_law_breaks",.fn "P")::("_law_free",.fn "Q")::("_law_rule_text",.fn "R")::("_law_text",.fn "q")::("_law_follow",.fn "S")::("_law_numbers",.fn "T")::("_law_break_text",.fn "U")::("_law_told",.fn "k")::("_law_asked",.fn "x")::("law",.fn "law")::("Span",.cls ["beat","spans"])::("Leap",.cls ["most"])::("Back",.cls ["leap","most"])::("Again",.cls ["most"])::("Range",.cls ["low","high"])::("Above",.cls ["one","other"])::("Never",.cls ["one","other","way"])::(dot "broken",.nD AH)::(dot "forbids",.nD wK)::(dot "say",.nD aT)::("Desk",.obj "v")::(ZJ "house",.iE SM)::(ZJ "line",.iE TM)::("NUMBERS",.iI OG BL)::("abs",.blt)::("all",.blt)::("bool",.blt)::("enumerate",.blt)::("int",.blt)::("isinstance",.blt)::("len",.blt)::("list",.blt)::("max",.blt)::("range",.blt)::("set",.blt)::("str",.blt)::("tuple",.blt)::[]
noncomputable def Ll:cB->List cB
 |.ClassDef _ _ _ body _ _ _ _ _ _ _=>body
 |_=>[]
def jE(i j:Nat):cB:=(Ll (top i)).getD j (.Pass ⟨0,0,0,0⟩)
noncomputable def PV:E:=(.call "d" [.v 3,.v 1,.v 0])
noncomputable def QV:E:=(.call "s" [.v 1,.v 2,.v 4,.v 0])
noncomputable def OV:E:=(.t [.v 4,.v 5])
noncomputable def IV:E:=(.tA .Eq (.v 3) (.ix (.v 1) (.v 0)))
noncomputable def NV:E:=(.t [.v 2])
noncomputable def ZV:E:=(.call "h" [.v 1])
def SV:E:=(.ix (.v 1) (.n 0))
noncomputable def TV:E:=(.v 4)
noncomputable def P5:E:=(.bif .str [.v 1])
noncomputable def dW:E:=(.bif .str [.v 2])
noncomputable def bW:E:=(.call "5" [.v 1])
noncomputable def cW:E:=(.call "E" [.v 1])
def aR:E:=(.tA .In (.v 1) (.s "0123456789"))
noncomputable def YV:E:=(.call "7" [.v 1])
noncomputable def cR:E:=(.call "8" [.v 1])
def XQ:E:=(.ix (.v 1) (.neg (.n 1)))
noncomputable def YQ:E:=(.call "9" [.v 1])
noncomputable def ZQ:E:=(.call "aa" [.v 1])
noncomputable def WV:E:=(.UG 1 (" ":fA))
noncomputable def aW:E:=(.call "b" [.sA .Add (.t [.v 1,.v 2]) (.v 3)])
noncomputable def JV:E:=(.t [.v 3])
noncomputable def VQ:E:=(.bif .str [.v 1])
noncomputable def WQ:E:=(.bif .str [.v 2])
noncomputable def MV:E:=(.call "R" [.v 1])
noncomputable def LV:E:=(.v 3)
noncomputable def O5:E:=(.bif .str [.v 1])
noncomputable def N5:E:=(.bif .str [.v 1])
noncomputable def M5:E:=(.bif .str [.v 1])
noncomputable def eV:List S:=[.vA (.not (.call "V" [.v 6])) [.AA] []]
noncomputable def fV:List S:=[.vA (.not (.call "f" [.v 1,.v 2,.bif .len [.v 3],.v 6])) [.AA] []]
noncomputable def jV:List S:=[.vA (.and (.tA .IsNot (.ix (.v 0) (.v 2)) (.c .nA)) (.tA .IsNot (.ix (.v 0) (.v 3)) (.c .nA))) [.expr (.app 1 (.t [.v 2,.v 3]))] []]
def lV:List S:=[.for [3] bA .BB [.sA .Add (.v 2) (.n 1),.bif .len [.v 0]] jV]
noncomputable def aV:List S:=[.vA (.and (.tA .Eq (.call "n" [.v 4,.ix (.v 5) (.v 8),.ix (.v 5) (.v 9)]) (.fld (.v 0) "one")) (.tA .Eq (.call "n" [.v 4,.ix (.v 6) (.v 8),.ix (.v 6) (.v 9)]) (.fld (.v 0) "other"))) [.vA (.call "2" [.fld (.v 0) "way",.sA .Sub (.ix (.v 6) (.v 8)) (.ix (.v 5) (.v 8)),.sA .Sub (.ix (.v 6) (.v 9)) (.ix (.v 5) (.v 9))]) [.expr (.app 7 (.t [.v 8,.v 9]))] []] []]
noncomputable def cV:List S:=[.expr (.app 4 (.t [.v 3,.v 5,.v 7]))]
def dV:List S:=[.for [7] bA .of [.iG 6 "broken" AH [.v 0,.v 2,.v 3]] cV]
noncomputable def bV:List S:=[.expr (.ext 3 (.call "o" [.v 0,.v 2,.v 1,.v 4]))]
def iV:List S:=[.vA (.not (.call "d" [.v 2,.n 0,.n 11])) [.ret (.c .nA)] [],.LA 1 (.sA .BitOr (.v 1) (.sA .LShift (.n 1) (.v 2)))]
def XU:List S:=[.LA 8 (.call "a" [.v 0,.ix (.l [.n 2,.n 5]) (.bif .int [.v 1])]),.expr (.app 6 (.t [.v 8,.sA .Sub (.call "a" [.v 0,.n 25]) (.n 12),.tA .Eq (.call "a" [.v 0,.n 4]) (.n 0)]))]
noncomputable def YU:List S:=[.expr (.app 9 (.call "ac" [.v 0,.v 2,.v 3,.v 4,.v 5]))]
def WU:List S:=[.LA 7 (.c .nA),.vA (.fE .LtE .Lt (.n 0) (.sA .Sub (.v 2) (.v 4)) (.bif .len [.v 1])) [.LA 7 (.sA .Add (.v 5) (.ix (.v 1) (.sA .Sub (.v 2) (.v 4)))),.vA (.v 6) [.LA 7 (.sA .Sub (.v 5) (.ix (.v 1) (.sA .Sub (.v 2) (.v 4))))] []] [],.expr (.app 3 (.v 7))]
noncomputable def oO:List S:=[.vA (.call "O" [.v 0,.v 1,.v 8,.v 4,.v 5,.v 10]) [.expr (.app 9 (.t [.v 5,.v 10]))] []]
def pO:List S:=[.for [10] bA .BB [.sA .Add (.v 5) (.n 1),.bif .len [.v 4]] oO]
noncomputable def SU:List S:=[.expr (.app 2 (.t [.v 3,.v 4,.v 5]))]
def TU:List S:=[.for [5] bA .of [.call "e" [.v 0,.ix (.ix (.v 0) (.n 4)) (.v 4),.v 1,.v 3]] SU]
def UU:List S:=[.for [4] bA .BB [.bif .len [.ix (.v 0) (.n 4)]] TU]
def VU:List S:=[.vA (.tA .NotEq (.call "e" [.v 0,.v 2,.v 1,.sA .Sub (.bif .len [.v 1]) (.n 1)]) (.l [])) [.ret (.b cA)] []]
def ZU:List S:=[.expr (.app 6 (.sA .Add (.sA .Add (.sA .Add (.sA .Add (.s "voice ") (.bif .str [.v 7])) (.s " ")) (.bif .str [.v 8])) (.ix (.l [.s "",.s " turned"]) (.bif .int [.v 9]))))]
def RU:List S:=[.expr (.app 1 (.vD (" ":fA) (.comp N5 [1] .of [.sA .Add (.t [.v 2,.v 3]) (.v 4)] [] [] 2)))]
def qO:List S:=[.LA 7 (.s "back"),.vA (.or (.tA .Eq (.v 5) (.l [])) (.tA .Gt (.call "a" [.v 2,.n 5]) (.n 0))) [.expr (.app 5 (.call "a" [.v 2,.ix (.v 1) (.n 0)])),.LA 7 (.sA .Add (.s "sing ") (.bif .str [.ix (.v 5) (.neg (.n 1))]))] [.expr (.kP 5)],.vA (.or (.not (.call "k" [.v 3,.v 7,.s "ok"])) (.not (.call "x" [.v 3,.v 1,.v 5,.call "a" [.v 2,.n 4]]))) [.ret (.b cA)] []]
def hV:List S:=[.vA (.or (.not (.call "x" [.v 3,.v 1,.v 5,.v 8])) (.not (.call "x" [.v 4,.v 1,.l [],.v 8]))) [.ret (.b cA)] []]
def Ob:S:=(.LA 5 (.call "a" [.v 0,.n 9]))
def Pb:S:=(.vA (.tA .Lt (.v 5) (.n 2)) [.ret (.t [.s "span",.call "a" [.v 0,.v 2],.call "a" [.v 0,.sA .LShift (.n 1) (.v 3)]])] [])
def Qb:S:=(.vA (.tA .Eq (.v 5) (.n 2)) [.ret (.t [.s "span",.call "a" [.v 0,.v 2],.sA .Sub (.sA .Sub (.sA .LShift (.n 1) (.v 3)) (.n 1)) (.sA .LShift (.n 1) (.call "a" [.v 0,.v 3]))])] [])
def Rb:S:=(.vA (.tA .Eq (.v 5) (.n 3)) [.ret (.t [.s "leap",.call "a" [.v 0,.ix (.l [.n 13,.sA .Add (.v 1) (.n 1)]) (.call "a" [.v 0,.n 2])]])] [])
def Sb:S:=(.vA (.tA .Eq (.v 5) (.n 4)) [.ret (.t [.s "back",.sA .Add (.n 1) (.call "a" [.v 0,.n 12]),.sA .Add (.n 1) (.call "a" [.v 0,.n 12])])] [])
def Tb:S:=(.vA (.tA .Eq (.v 5) (.n 5)) [.ret (.t [.s "again",.sA .Add (.n 1) (.call "a" [.v 0,.n 3])])] [])
def Ub:S:=(.vA (.tA .Eq (.v 5) (.n 6)) [.LA 6 (.ix (.l [.sA .Sub (.call "a" [.v 0,.n 121]) (.n 60),.sA .Sub (.call "a" [.v 0,.n 20]) (.n 12)]) (.call "a" [.v 0,.n 2])),.ret (.t [.s "range",.v 6,.sA .Add (.v 6) (.call "a" [.v 0,.sA .Sub (.n 61) (.v 6)])])] [])
def Vb:S:=(.vA (.tA .Eq (.v 5) (.n 7)) [.LA 7 (.call "a" [.v 0,.sA .Add (.v 4) (.n 1)]),.ret (.t [.s "above",.v 7,.sA .Mod (.sA .Add (.sA .Add (.v 7) (.n 1)) (.call "a" [.v 0,.v 4])) (.sA .Add (.v 4) (.n 1))])] [])
def Wb:S:=(.LA 8 (.t [.s "like",.s "against",.s "aside",.s "any"]))
def Xb:S:=(.ret (.t [.s "never",.call "a" [.v 0,.v 3],.call "a" [.v 0,.v 3],.ix (.v 8) (.call "a" [.v 0,.n 4])]))
noncomputable def rR:Fn:=⟨[bA],0,[.ret (.and (.cF (.v 0) [.int]) (.not (.cF (.v 0) [.bool])))],cA⟩
noncomputable def sR:Fn:=⟨[bA,bA,bA],0,[.ret (.and (.call "r" [.v 0]) (.fE .LtE .LtE (.v 1) (.v 0) (.v 2)))],cA⟩
def QW:Fn:=⟨[bA,bA,bA,bA],0,[.ret (.and (.tA .Eq (.bif .len [.v 0]) (.v 1)) (.bif .all [.comp PV [3] .of [.v 0] [] [3,2] 2]))],cA⟩
def XW:Fn:=⟨[bA],0,[.vA (.or (.not (.cF (.v 0) [.tuple])) (.tA .NotEq (.bif .len [.v 0]) (.n 3))) [.ret (.b cA)] [],.ret (.and (.call "d" [.ix (.v 0) (.n 0),.n 0,.n 4]) (.and (.call "d" [.ix (.v 0) (.n 1),.neg (.n 12),.n 12]) (.cF (.ix (.v 0) (.n 2)) [.bool])))],cA⟩
noncomputable def YW:Fn:=⟨[bA],0,[.ret (.and (.cF (.v 0) [.str]) (.tA .In (.v 0) (.c (.t [.str "like",.str "against",.str "aside",.str "any"]))))],cA⟩
def OW:Fn:=⟨[bA,bA],0,[.ret (.and (.call "r" [.v 0]) (.and (.tA .GtE (.v 0) (.n 0)) (.tA .LtE (.VJ (.v 0)) (.v 1))))],cA⟩
def wL:Fn:=⟨[bA,bA,bA,bA],2,[.vA (.or (.not (.cF (.v 3) [.tuple])) (.or (.tA .Eq (.bif .len [.v 3]) (.n 0)) (.not (.cF (.ix (.v 3) (.n 0)) [.str])))) [.ret (.b cA)] [],.LA 4 (.ix (.v 3) (.n 0)),.LA 5 (.sl (.v 3) (.n 1) .GD),.vA (.tA .Eq (.v 4) (.s "span")) [.ret (.and (.tA .Eq (.bif .len [.v 5]) (.n 2)) (.and (.call "d" [.ix (.v 5) (.n 0),.n 0,.sA .Sub (.v 0) (.n 1)]) (.call "X" [.ix (.v 5) (.n 1),.v 1])))] [],.vA (.tA .Eq (.v 4) (.s "leap")) [.ret (.call "j" [.v 5,.n 1,.n 0,.n 12])] [],.vA (.tA .Eq (.v 4) (.s "back")) [.ret (.call "j" [.v 5,.n 2,.n 1,.n 12])] [],.vA (.tA .Eq (.v 4) (.s "again")) [.ret (.call "j" [.v 5,.n 1,.n 1,.n 3])] [],.vA (.tA .Eq (.v 4) (.s "range")) [.ret (.and (.call "j" [.v 5,.n 2,.neg (.n 60),.n 60]) (.tA .LtE (.ix (.v 5) (.n 0)) (.ix (.v 5) (.n 1))))] [],.vA (.tA .Eq (.v 4) (.s "above")) [.ret (.and (.call "j" [.v 5,.n 2,.n 0,.v 2]) (.tA .NotEq (.ix (.v 5) (.n 0)) (.ix (.v 5) (.n 1))))] [],.vA (.tA .Eq (.v 4) (.s "never")) [.ret (.and (.tA .Eq (.bif .len [.v 5]) (.n 3)) (.and (.call "j" [.sl (.v 5) .GD (.n 2),.n 2,.n 0,.sA .Sub (.v 1) (.n 1)]) (.call "W" [.ix (.v 5) (.n 2)])))] [],.ret (.b cA)],cA⟩
def UW:Fn:=⟨[bA,bA,bA,bA,bA],0,[.vA (.not (.call "d" [.v 0,.n 1,.n 7])) [.AA] [],.vA (.not (.call "d" [.v 1,.n 1,.n 4])) [.AA] [],.vA (.not (.call "d" [.v 2,.n 1,.n 12])) [.AA] [],.vA (.not (.fE .LtE .LtE (.n 1) (.bif .len [.v 3]) (.n 3))) [.AA] [],.vA (.tA .Gt (.bif .len [.v 4]) (.n 8)) [.AA] []],cA⟩
def WW:Fn:=⟨[cA,cA,cA,bA,bA],2,[.expr (.call "Y" [.v 0,.v 1,.v 2,.v 3,.v 4]),.for [5,6] cA (.enum 1) [.v 3] eV,.for [5,6] cA (.enum 0) [.v 4] fV,.ret (.t [.v 0,.v 1,.v 2,.bif .tuple [.v 3],.bif .tuple [.v 4]])],cA⟩
def fX:Fn:=⟨[bA,bA],0,[.vA (.ix (.v 0) (.n 2)) [.ret (.sA .Sub (.ix (.v 0) (.n 1)) (.v 1))] [],.ret (.sA .Add (.ix (.v 0) (.n 1)) (.v 1))],cA⟩
def rX:Fn:=⟨[bA,bA],0,[.vA (.tA .Eq (.v 1) (.n 0)) [.ret (.c (.t [.int 0,.int 0,.bl cA]))] [],.ret (.ix (.ix (.v 0) (.n 3)) (.sA .Sub (.v 1) (.n 1)))],cA⟩
def vX:Fn:=⟨[bA,cA,bA,bA],2,[.LA 4 (.call "1" [.v 0,.v 2]),.LA 5 (.sA .Sub (.v 3) (.ix (.v 4) (.n 0))),.vA (.fE .LtE .Lt (.n 0) (.v 5) (.bif .len [.v 1])) [.ret (.call "0" [.v 4,.ix (.v 1) (.v 5)])] [],.ret (.c .nA)],cA⟩
noncomputable def tX:Fn:=⟨[bA,bA,bA],0,[.ret (.sA .Mod (.bif .abs [.sA .Sub (.v 1) (.v 2)]) (.v 0))],cA⟩
def VW:Fn:=⟨[bA,cA,bA],0,[.ret (.comp QV [4] .BB [.sA .Add (.bif .len [.ix (.v 0) (.n 3)]) (.n 1)] [] [2,0,1] 2)],cA⟩
def sX:Fn:=⟨[bA],3,[.LA 1 (.l []),.for [2] bA .BB [.bif .len [.v 0]] lV,.ret (.v 1)],cA⟩
def bX:Fn:=⟨[bA,bA,bA],0,[.vA (.tA .Eq (.v 0) (.s "like")) [.ret (.tA .Gt (.sA .Mult (.v 1) (.v 2)) (.n 0))] [],.vA (.tA .Eq (.v 0) (.s "against")) [.ret (.tA .Lt (.sA .Mult (.v 1) (.v 2)) (.n 0))] [],.vA (.tA .Eq (.v 0) (.s "aside")) [.ret (.tA .NotEq (.tA .Eq (.v 1) (.n 0)) (.tA .Eq (.v 2) (.n 0)))] [],.ret (.b bA)],cA⟩
def MW:Fn:=⟨[bA,bA,cA,bA],2,[.vA (.tA .NotEq (.sA .Mod (.v 3) (.ix (.v 1) (.n 1))) (.fld (.v 0) "beat")) [.ret (.l [])] [],.LA 4 (.ix (.v 1) (.n 2)),.LA 5 (.call "g" [.v 1,.v 2,.v 3]),.ret (.comp OV [4,5] .of [.call "y" [.v 5]] [.iG 2 "forbids" wK [.call "n" [.v 1,.ix (.v 0) (.v 4),.ix (.v 0) (.v 5)]]] [5,4,0] 3)],cA⟩
def NW:Fn:=⟨[bA,bA],0,[.ret (.tA .Eq (.sA .BitAnd (.sA .RShift (.fld (.v 0) "spans") (.v 1)) (.n 1)) (.n 0))],cA⟩
def IW:Fn:=⟨[bA,bA,cA,cA],0,[.vA (.and (.tA .Gt (.v 3) (.n 0)) (.tA .Gt (.bif .abs [.sA .Sub (.ix (.v 2) (.v 3)) (.ix (.v 2) (.sA .Sub (.v 3) (.n 1)))]) (.fld (.v 0) "most"))) [.ret (.l [.c (.t [])])] [],.ret (.l [])],cA⟩
def uW:Fn:=⟨[bA,bA,cA,cA],2,[.vA (.tA .Lt (.v 3) (.n 2)) [.ret (.l [])] [],.LA 4 (.sA .Sub (.ix (.v 2) (.sA .Sub (.v 3) (.n 1))) (.ix (.v 2) (.sA .Sub (.v 3) (.n 2)))),.LA 5 (.sA .Sub (.ix (.v 2) (.v 3)) (.ix (.v 2) (.sA .Sub (.v 3) (.n 1)))),.vA (.tA .Lt (.bif .abs [.v 4]) (.fld (.v 0) "leap")) [.ret (.l [])] [],.vA (.and (.tA .Lt (.sA .Mult (.v 4) (.v 5)) (.n 0)) (.tA .LtE (.bif .abs [.v 5]) (.fld (.v 0) "most"))) [.ret (.l [])] [],.ret (.l [.c (.t [])])],cA⟩
def tW:Fn:=⟨[bA,bA,cA,cA],0,[.vA (.tA .Lt (.v 3) (.fld (.v 0) "most")) [.ret (.l [])] [],.vA (.bif .all [.comp IV [3] .of [.sl (.v 2) (.sA .Sub (.v 3) (.fld (.v 0) "most")) (.v 3)] [] [3,2] 2]) [.ret (.l [.c (.t [])])] [],.ret (.l [])],cA⟩
def KW:Fn:=⟨[bA,bA,cA,bA],0,[.ret (.comp NV [2,3] (.enum 0) [.call "g" [.v 1,.v 2,.v 3]] [.iG 0 "forbids" wK [.v 3]] [0] 3)],cA⟩
noncomputable def LW:Fn:=⟨[bA,bA],0,[.ret (.and (.tA .IsNot (.v 1) (.c .nA)) (.not (.fE .LtE .LtE (.fld (.v 0) "low") (.v 1) (.fld (.v 0) "high"))))],cA⟩
noncomputable def sW:Fn:=⟨[bA,bA,cA,bA],2,[.LA 4 (.call "s" [.v 1,.v 2,.fld (.v 0) "one",.v 3]),.LA 5 (.call "s" [.v 1,.v 2,.fld (.v 0) "other",.v 3]),.vA (.or (.tA .Is (.v 4) (.c .nA)) (.or (.tA .Is (.v 5) (.c .nA)) (.tA .GtE (.v 4) (.v 5)))) [.ret (.l [])] [],.ret (.l [.t [.fld (.v 0) "one",.fld (.v 0) "other"]])],cA⟩
def JW:Fn:=⟨[bA,bA,cA,bA],6,[.LA 4 (.ix (.v 1) (.n 2)),.LA 5 (.call "g" [.v 1,.v 2,.sA .Sub (.v 3) (.n 1)]),.LA 6 (.call "g" [.v 1,.v 2,.v 3]),.LA 7 (.l []),.for [8,9] cA .of [.call "y" [.v 5]] aV,.ret (.v 7)],cA⟩
def aJ:Fn:=⟨[bA],1,[.LA 1 (.ix (.v 0) (.n 0)),.vA (.tA .Eq (.v 1) (.s "span")) [.ret (.make "Span" ["beat","spans"] [.ix (.v 0) (.n 1),.ix (.v 0) (.n 2)])] [],.vA (.tA .Eq (.v 1) (.s "leap")) [.ret (.make "Leap" ["most"] [.ix (.v 0) (.n 1)])] [],.vA (.tA .Eq (.v 1) (.s "back")) [.ret (.make "Back" ["leap","most"] [.ix (.v 0) (.n 1),.ix (.v 0) (.n 2)])] [],.vA (.tA .Eq (.v 1) (.s "again")) [.ret (.make "Again" ["most"] [.ix (.v 0) (.n 1)])] [],.vA (.tA .Eq (.v 1) (.s "range")) [.ret (.make "Range" ["low","high"] [.ix (.v 0) (.n 1),.ix (.v 0) (.n 2)])] [],.vA (.tA .Eq (.v 1) (.s "above")) [.ret (.make "Above" ["one","other"] [.ix (.v 0) (.n 1),.ix (.v 0) (.n 2)])] [],.ret (.make "Never" ["one","other","way"] [.ix (.v 0) (.n 1),.ix (.v 0) (.n 2),.ix (.v 0) (.n 3)])],cA⟩
def kX:Fn:=⟨[bA],0,[.ret (.comp ZV [1] .of [.ix (.v 0) (.n 4)] [] [] 2)],cA⟩
def SW:Fn:=⟨[bA,bA,cA,cA],4,[.LA 4 (.l []),.for [5,6] cA (.enum 0) [.v 1] dV,.ret (.v 4)],cA⟩
def RW:Fn:=⟨[bA,cA],3,[.LA 2 (.call "z" [.v 0]),.LA 3 (.l []),.for [4] bA .BB [.bif .len [.v 1]] bV,.ret (.v 3)],cA⟩
def aX:Fn:=⟨[bA],0,[.ret (.bif .max [.n 3,.sA .Add (.n 1) (.bif .max [.comp SV [1] .of [.ix (.v 0) (.n 3)] [] [] 2])])],cA⟩
def xX:Fn:=⟨[bA,cA],1,[.LA 2 (.call "B" [.v 0]),.vA (.tA .LtE (.v 1) (.v 2)) [.ret (.v 1)] [],.ret (.sA .Add (.v 2) (.sA .Mod (.sA .Sub (.v 1) (.v 2)) (.ix (.v 0) (.n 1))))],cA⟩
noncomputable def uX:Fn:=⟨[bA,cA],0,[.ret (.t [.call "3" [.v 0,.bif .len [.v 1]],.bif .tuple [.sl (.v 1) (.neg (.call "B" [.v 0])) .GD]])],cA⟩
def ZW:Fn:=⟨[bA],0,[.ret (.sA .Add (.sA .Mult (.l [.n 0]) (.sA .Sub (.ix (.v 0) (.n 0)) (.bif .len [.ix (.v 0) (.n 1)]))) (.bif .list [.ix (.v 0) (.n 1)]))],cA⟩
def cX:Fn:=⟨[bA,bA],2,[.LA 2 (.call "z" [.v 0]),.LA 3 (.call "4" [.v 1]),.ret (.comp TV [4] .BB [.ix (.v 0) (.n 0)] [.tA .Eq (.bif .len [.call "o" [.v 0,.v 2,.sA .Add (.v 1) (.l [.v 4]),.bif .len [.v 1]]]) (.n 0)] [0,3,2] 2)],cA⟩
def vR:Fn:=⟨[cA],0,[.ret (.vD (" ":fA) (.comp P5 [1] .of [.v 0] [] [] 2))],cA⟩
def mX:Fn:=⟨[bA],1,[.LA 1 (.call "b" [.l [.s "voice",.ix (.v 0) (.n 0),.ix (.v 0) (.n 1)]]),.ret (.ite (.ix (.v 0) (.n 2)) (.sA .Add (.v 1) (.s " turned")) (.v 1))],cA⟩
def pX:Fn:=⟨[bA],0,[.vA (.tA .Eq (.v 0) (.n 0)) [.ret (.s "-")] [],.ret (.vD (",":fA) (.comp dW [2] .BB [.VJ (.v 0)] [.tA .Eq (.sA .BitAnd (.sA .RShift (.v 0) (.v 2)) (.n 1)) (.n 1)] [0] 2))],cA⟩
def EO:Fn:=⟨[cA],0,[.vA (.tA .Eq (.ix (.v 0) (.n 0)) (.s "span")) [.ret (.call "b" [.l [.s "span",.ix (.v 0) (.n 1),.call "6" [.ix (.v 0) (.n 2)]]])] [],.ret (.call "b" [.v 0])],cA⟩
def nX:Fn:=⟨[bA],1,[.LA 1 (.l [.call "b" [.l [.s "notes",.ix (.v 0) (.n 0)]],.call "b" [.l [.s "bar",.ix (.v 0) (.n 1)]],.call "b" [.l [.s "octave",.ix (.v 0) (.n 2)]]]),.expr (.ext 1 (.comp bW [1] .of [.ix (.v 0) (.n 3)] [] [] 2)),.expr (.ext 1 (.comp cW [1] .of [.ix (.v 0) (.n 4)] [] [] 2)),.ret (.vD ("\n":fA) (.v 1))],cA⟩
noncomputable def oX:Fn:=⟨[cA],0,[.ret (.call "b" [.v 0])],cA⟩
def yL:Fn:=⟨[cA],2,[.LA 1 (.ite (.xP 0 ("-":fA)) (.sl (.v 0) (.n 1) .GD) (.v 0)),.vA (.or (.not (.fE .LtE .LtE (.n 1) (.bif .len [.v 1]) (.n 60))) (.not (.bif .all [.comp aR [1] .sig [.v 1] [] [] 2]))) [.ret (.c .nA)] [],.LA 2 (.bif .int [.v 0]),.ret (.ite (.tA .Eq (.bif .str [.v 2]) (.v 0)) (.v 2) (.c .nA))],cA⟩
def iX:Fn:=⟨[cA],0,[.ret (.comp YV [1] .of [.v 0] [] [] 2)],cA⟩
def jX:Fn:=⟨[cA],2,[.vA (.tA .Eq (.v 0) (.s "-")) [.ret (.n 0)] [],.LA 1 (.n 0),.for [2] bA .of [.call "c" [.UG 0 (",":fA)]] iV,.ret (.v 1)],cA⟩
def gX:Fn:=⟨[cA],0,[.ret (.bif .tuple [.sA .Add (.call "c" [.sl (.v 0) (.n 1) (.n 3)]) (.l [.tA .Eq (.sl (.v 0) (.n 3) .GD) (.l [.s "turned"])])])],cA⟩
def eK:Fn:=⟨[cA],0,[.vA (.tA .Eq (.ix (.v 0) (.n 0)) (.s "span")) [.ret (.bif .tuple [.sA .Add (.sA .Add (.l [.s "span"]) (.call "c" [.sl (.v 0) (.n 1) (.n 2)])) (.comp cR [1] .of [.sl (.v 0) (.n 2) .GD] [] [] 2)])] [],.vA (.tA .Eq (.ix (.v 0) (.n 0)) (.s "never")) [.ret (.bif .tuple [.sA .Add (.sA .Add (.l [.s "never"]) (.call "c" [.sl (.v 0) (.n 1) (.n 3)])) (.sl (.v 0) (.n 3) .GD)])] [],.ret (.bif .tuple [.sA .Add (.sl (.v 0) .GD (.n 1)) (.call "c" [.sl (.v 0) (.n 1) .GD])])],cA⟩
def tR:Fn:=⟨[cA],3,[.LA 1 (.call "c" [.comp XQ [1] .of [.sl (.v 0) .GD (.n 3)] [] [] 2]),.LA 2 (.comp YQ [1] .of [.sl (.v 0) (.n 3) .GD] [.tA .Eq (.ix (.v 1) (.n 0)) (.s "voice")] [] 2),.LA 3 (.comp ZQ [1] .of [.sl (.v 0) (.n 3) .GD] [.tA .NotEq (.ix (.v 1) (.n 0)) (.s "voice")] [] 2),.gT [.ret (.call "Z" [.ix (.v 1) (.n 0),.ix (.v 1) (.n 1),.ix (.v 1) (.n 2),.v 2,.v 3])]],cA⟩
def uR:Fn:=⟨[bA],2,[.vA (.not (.cF (.v 0) [.str])) [.AA] [],.LA 1 (.comp WV [1] .of [.UG 0 ("\n":fA)] [] [] 2),.vA (.tA .Lt (.bif .len [.v 1]) (.n 3)) [.AA] [],.LA 2 (.call "ab" [.v 1]),.vA (.tA .NotEq (.call "t" [.v 2]) (.v 0)) [.AA] [],.ret (.v 2)],cA⟩
noncomputable def yX:Fn:=⟨[bA],0,[.vA (.not (.cF (.v 0) [.str])) [.AA] [],.ret (.UG 0 (" ":fA))],cA⟩
def dX:Fn:=⟨[cA],1,[.vA (.gK OG (.ix (.v 0) (.n 0))) [.AA] [],.vA (.tA .NotEq (.sA .Sub (.bif .len [.v 0]) (.n 1)) (.AL OG BL (.ix (.v 0) (.n 0)))) [.AA] [],.LA 1 (.call "c" [.sl (.v 0) (.n 1) .GD]),.vA (.tA .In (.c .nA) (.v 1)) [.AA] [],.ret (.v 1)],cA⟩
def eX:Fn:=⟨[cA],0,[.ret (.ite (.tA .Eq (.v 0) (.s "")) (.s "none") (.v 0))],cA⟩
def lX:Fn:=⟨[bA],0,[.ret (.vD ("; ":fA) (.comp aW [1,2,3] .of [.v 0] [] [] 4))],cA⟩
def bN:Fn:=⟨[bA,cA,cA,bA],0,[.vA (.tA .Eq (.v 2) (.s "line")) [.ret (.call "l" [.v 1])] [],.vA (.tA .Eq (.v 2) (.s "house")) [.ret (.call "t" [.v 0])] [],.vA (.tA .Eq (.v 2) (.s "next")) [.ret (.call "I" [.call "l" [.call "D" [.v 0,.call "C" [.v 0,.v 1]]]])] [],.vA (.tA .Eq (.v 2) (.s "broken")) [.ret (.call "I" [.call "J" [.call "A" [.v 0,.v 1]]])] [],.vA (.tA .Eq (.v 2) (.s "onward")) [.ret .AA] [],.vA (.tA .Eq (.v 2) (.s "count")) [.ret (.bif .str [.AA])] [],.vA (.tA .Eq (.v 2) (.s "nth")) [.ret (.call "l" [.AA])] [],.ret .AA],cA⟩
def qX:Fn:=⟨[bA,cA,cA],0,[.vA (.not (.call "d" [.v 2,.n 0,.sA .Sub (.ix (.v 0) (.n 0)) (.n 1)])) [.AA] [],.vA (.tA .Eq (.bif .len [.v 1]) (.n 60)) [.AA] [],.ret (.sA .Add (.v 1) (.l [.v 2]))],cA⟩
def wX:Fn:=⟨[cA],0,[.vA (.tA .Eq (.bif .len [.v 0]) (.n 0)) [.AA] [],.ret (.sl (.v 0) .GD (.neg (.n 1)))],cA⟩
def qR:Fn:=⟨[cA,cA,cA,bA],0,[.vA (.tA .Eq (.v 2) (.s "sing")) [.ret (.t [.v 0,.call "K" [.v 0,.v 1,.ix (.v 3) (.n 0)]])] [],.vA (.tA .Eq (.v 2) (.s "back")) [.ret (.t [.v 0,.call "L" [.v 1]])] [],.vA (.tA .Eq (.v 2) (.s "less")) [.ret (.t [.AA,.v 1])] [],.vA (.tA .Eq (.v 2) (.s "without")) [.ret (.t [.AA,.v 1])] [],.ret (.t [.AA,.AA])],cA⟩
def wW:Fn:=⟨[bA,bA],0,[.tJ 0 "house" SM (.call "F" [.v 1]),.tJ 0 "line" TM (.l [])],cA⟩
def oR:Fn:=⟨[bA,bA],3,[.LA 2 (.call "G" [.v 1]),.LA 3 (.call "H" [.v 2]),.vA (.tA .NotIn (.ix (.v 2) (.n 0)) (.c (.t [.str "sing",.str "back",.str "less",.str "without",.str "over"]))) [.ret (.call "m" [.fld (.v 0) "house",.fld (.v 0) "line",.ix (.v 2) (.n 0),.v 3])] [],.LA 4 (.call "u" [.fld (.v 0) "house",.fld (.v 0) "line",.ix (.v 2) (.n 0),.v 3]),.tJ 0 "house" SM (.ix (.v 4) (.n 0)),.tJ 0 "line" TM (.ix (.v 4) (.n 1)),.ret (.s "ok")],cA⟩
def FW:Fn:=⟨[bA,cA],1,[.vA (.and (.tA .Lt (.v 1) (.bif .len [.v 0])) (.tA .Eq (.sA .Mod (.ix (.v 0) (.n 0)) (.n 2)) (.n 0))) [.ret (.l [.n 0,.ix (.v 0) (.v 1)])] [],.LA 2 (.sA .Add (.sA .Mult (.n 30011) (.v 1)) (.n 7)),.vA (.tA .Gt (.bif .len [.v 0]) (.n 0)) [.LA 2 (.sA .Mod (.ix (.v 0) (.sA .Mod (.v 1) (.bif .len [.v 0]))) (.n 2147483587)),.LA 2 (.sA .Add (.sA .Add (.v 2) (.sA .Mult (.n 48611) (.sA .FloorDiv (.v 1) (.bif .len [.v 0])))) (.sA .Mult (.n 3) (.v 1)))] [],.ret (.l [.n 1,.sA .Mod (.sA .Add (.sA .Add (.sA .Mult (.v 2) (.n 48271)) (.sA .Mult (.n 11) (.v 1))) (.n 1)) (.n 2147483647)])],cA⟩
def zW:Fn:=⟨[bA,bA],3,[.vA (.tA .Eq (.ix (.v 0) (.n 0)) (.n 0)) [.LA 2 (.sA .Mod (.ix (.v 0) (.n 1)) (.v 1)),.set 0 (.n 1) (.sA .FloorDiv (.ix (.v 0) (.n 1)) (.v 1)),.ret (.v 2)] [],.set 0 (.n 1) (.sA .Mod (.sA .Add (.sA .Mult (.ix (.v 0) (.n 1)) (.n 69621)) (.n 7)) (.n 2147483629)),.LA 3 (.sA .Mod (.ix (.v 0) (.n 1)) (.n 65521)),.LA 4 (.sA .FloorDiv (.ix (.v 0) (.n 1)) (.n 65521)),.ret (.sA .Mod (.sA .FloorDiv (.sA .Mod (.sA .Mult (.sA .Add (.sA .Add (.sA .Mult (.v 3) (.n 40503)) (.v 4)) (.n 1)) (.n 16807)) (.n 2147483647)) (.n 13)) (.v 1))],cA⟩
def GW:Fn:=⟨[bA,bA,bA,bA,bA],4,[Ob,Pb,Qb,Rb,Sb,Tb,Ub,Vb,Wb,Xb],cA⟩
def uL:Fn:=⟨[bA],9,[.LA 1 (.tA .Eq (.call "a" [.v 0,.n 2]) (.n 0)),.LA 2 (.sA .Add (.n 1) (.call "a" [.v 0,.ix (.l [.n 4,.n 7]) (.bif .int [.v 1])])),.LA 3 (.sA .Add (.n 1) (.call "a" [.v 0,.ix (.l [.n 2,.n 4]) (.bif .int [.v 1])])),.LA 4 (.sA .Add (.n 1) (.call "a" [.v 0,.n 12])),.LA 5 (.sA .Add (.n 1) (.call "a" [.v 0,.ix (.l [.n 2,.n 3]) (.bif .int [.v 1])])),.LA 6 (.l []),.for [7] bA .BB [.v 5] XU,.LA 9 (.l []),.for [7] bA .BB [.call "a" [.v 0,.n 9]] YU,.ret (.t [.v 2,.v 3,.v 4,.bif .tuple [.v 6],.bif .tuple [.v 9]])],cA⟩
def CW:Fn:=⟨[bA,bA,bA],5,[.LA 3 (.l []),.for [4,5,6] cA .of [.sA .Add (.t [.t [.n 0,.n 0,.b cA]]) (.ix (.v 0) (.n 3))] WU,.ret (.v 3)],cA⟩
def DO:Fn:=⟨[bA,bA,cA],2,[.vA (.tA .Eq (.ix (.v 0) (.n 0)) (.s "leap")) [.ret (.and (.tA .Gt (.v 2) (.n 0)) (.tA .Gt (.bif .abs [.sA .Sub (.ix (.v 1) (.v 2)) (.ix (.v 1) (.sA .Sub (.v 2) (.n 1)))]) (.ix (.v 0) (.n 1))))] [],.vA (.tA .Eq (.ix (.v 0) (.n 0)) (.s "again")) [.ret (.and (.tA .GtE (.v 2) (.ix (.v 0) (.n 1))) (.tA .Eq (.NL (.sl (.v 1) (.sA .Sub (.v 2) (.ix (.v 0) (.n 1))) (.sA .Add (.v 2) (.n 1)))) (.n 1)))] [],.vA (.tA .Lt (.v 2) (.n 2)) [.ret (.b cA)] [],.LA 3 (.sA .Sub (.ix (.v 1) (.sA .Sub (.v 2) (.n 1))) (.ix (.v 1) (.sA .Sub (.v 2) (.n 2)))),.LA 4 (.sA .Sub (.ix (.v 1) (.sA .Sub (.v 2) (.n 1))) (.ix (.v 1) (.v 2))),.vA (.tA .Lt (.v 3) (.n 0)) [.LA 4 (.sA .Sub (.n 0) (.v 4))] [],.ret (.and (.tA .GtE (.bif .abs [.v 3]) (.ix (.v 0) (.n 1))) (.not (.fE .Lt .LtE (.n 0) (.v 4) (.ix (.v 0) (.n 2)))))],cA⟩
def DW:Fn:=⟨[bA,cA,cA],0,[.vA (.tA .Eq (.v 0) (.s "any")) [.ret (.b bA)] [],.vA (.tA .Eq (.v 0) (.s "aside")) [.ret (.and (.tA .In (.n 0) (.t [.v 1,.v 2])) (.tA .NotEq (.v 1) (.v 2)))] [],.vA (.tA .Eq (.v 0) (.s "like")) [.ret (.or (.and (.tA .Gt (.v 1) (.n 0)) (.tA .Gt (.v 2) (.n 0))) (.and (.tA .Lt (.v 1) (.n 0)) (.tA .Lt (.v 2) (.n 0))))] [],.ret (.or (.and (.tA .Gt (.v 1) (.n 0)) (.tA .Lt (.v 2) (.n 0))) (.and (.tA .Lt (.v 1) (.n 0)) (.tA .Gt (.v 2) (.n 0))))],cA⟩
def pR:Fn:=⟨[bA,bA,bA,bA,cA,cA],1,[.vA (.or (.tA .Is (.ix (.v 3) (.v 4)) (.c .nA)) (.tA .Is (.ix (.v 3) (.v 5)) (.c .nA))) [.ret (.b cA)] [],.LA 6 (.sA .Mod (.bif .abs [.sA .Sub (.ix (.v 3) (.v 4)) (.ix (.v 3) (.v 5))]) (.ix (.v 0) (.n 2))),.vA (.tA .Eq (.ix (.v 1) (.n 0)) (.s "span")) [.ret (.tA .Eq (.sA .Mod (.sA .FloorDiv (.ix (.v 1) (.n 2)) (.sA .LShift (.n 1) (.v 6))) (.n 2)) (.n 0))] [],.vA (.or (.tA .Is (.ix (.v 2) (.v 4)) (.c .nA)) (.or (.tA .Is (.ix (.v 2) (.v 5)) (.c .nA)) (.tA .NotEq (.v 6) (.ix (.v 1) (.n 2))))) [.ret (.b cA)] [],.vA (.tA .NotEq (.sA .Mod (.bif .abs [.sA .Sub (.ix (.v 2) (.v 4)) (.ix (.v 2) (.v 5))]) (.ix (.v 0) (.n 2))) (.ix (.v 1) (.n 1))) [.ret (.b cA)] [],.ret (.call "ad" [.ix (.v 1) (.n 3),.sA .Sub (.ix (.v 3) (.v 4)) (.ix (.v 2) (.v 4)),.sA .Sub (.ix (.v 3) (.v 5)) (.ix (.v 2) (.v 5))])],cA⟩
def ZI:Fn:=⟨[bA,bA,bA,cA],7,[.LA 4 (.call "i" [.v 0,.v 2,.v 3]),.vA (.tA .Eq (.ix (.v 1) (.n 0)) (.s "range")) [.ret (.comp JV [3] .BB [.bif .len [.v 4]] [.and (.tA .IsNot (.ix (.v 0) (.v 3)) (.c .nA)) (.not (.fE .LtE .LtE (.ix (.v 1) (.n 1)) (.ix (.v 0) (.v 3)) (.ix (.v 1) (.n 2))))] [4,1] 2)] [],.vA (.tA .Eq (.ix (.v 1) (.n 0)) (.s "above")) [.LA 6 (.ix (.v 4) (.ix (.v 1) (.n 1))),.LA 7 (.ix (.v 4) (.ix (.v 1) (.n 2))),.ret (.sA .Mult (.l [.t [.ix (.v 1) (.n 1),.ix (.v 1) (.n 2)]]) (.bif .int [.and (.tA .IsNot (.v 6) (.c .nA)) (.and (.tA .IsNot (.v 7) (.c .nA)) (.tA .Lt (.v 6) (.v 7)))]))] [],.vA (.tA .In (.ix (.v 1) (.n 0)) (.t [.s "leap",.s "back",.s "again"])) [.ret (.sA .Mult (.l [.t []]) (.bif .int [.call "w" [.v 1,.v 2,.v 3]]))] [],.vA (.or (.and (.tA .Eq (.ix (.v 1) (.n 0)) (.s "span")) (.tA .NotEq (.sA .Mod (.v 3) (.ix (.v 0) (.n 1))) (.ix (.v 1) (.n 1)))) (.and (.tA .Eq (.ix (.v 1) (.n 0)) (.s "never")) (.tA .Eq (.v 3) (.n 0)))) [.ret (.l [])] [],.LA 8 (.call "i" [.v 0,.v 2,.sA .Sub (.v 3) (.n 1)]),.LA 9 (.l []),.for [5] bA .BB [.bif .len [.v 4]] pO,.ret (.v 9)],cA⟩
def yW:Fn:=⟨[bA,bA],4,[.LA 2 (.l []),.for [3] bA .BB [.bif .len [.v 1]] UU,.ret (.v 2)],cA⟩
def BW:Fn:=⟨[bA,bA],1,[.for [2] bA .of [.ix (.v 0) (.n 4)] VU,.ret (.b bA)],cA⟩
def cK:Fn:=⟨[bA],1,[.LA 1 (.comp VQ [1] .of [.v 0] [] [] 2),.vA (.tA .Eq (.ix (.v 0) (.n 0)) (.s "span")) [.set 1 (.n 2) (.vD (",":fA) (.comp WQ [2] .BB [.n 12] [.tA .Eq (.sA .Mod (.sA .FloorDiv (.ix (.v 0) (.n 2)) (.sA .LShift (.n 1) (.v 2))) (.n 2)) (.n 1)] [0] 2)),.vA (.tA .Eq (.ix (.v 1) (.n 2)) (.s "")) [.set 1 (.n 2) (.s "-")] []] [],.ret (.vD (" ":fA) (.v 1))],cA⟩
def vL:Fn:=⟨[cA],9,[.DM [1,2,3,4,5] (.v 0),.LA 6 (.l [.sA .Add (.s "notes ") (.bif .str [.v 1]),.sA .Add (.s "bar ") (.bif .str [.v 2]),.sA .Add (.s "octave ") (.bif .str [.v 3])]),.for [7,8,9] cA .of [.v 4] ZU,.ret (.vD ("\n":fA) (.sA .Add (.v 6) (.comp MV [1] .of [.v 5] [] [] 2)))],cA⟩
def AW:Fn:=⟨[bA,bA],0,[.ret (.comp LV [3] .BB [.ix (.v 0) (.n 0)] [.call "Q" [.v 0,.sA .Add (.v 1) (.l [.v 3])]] [0,1] 2)],cA⟩
def EW:Fn:=⟨[bA],0,[.vA (.tA .Eq (.v 0) (.l [])) [.ret (.s "none")] [],.ret (.vD (" ":fA) (.comp O5 [1] .of [.v 0] [] [] 2))],cA⟩
def xW:Fn:=⟨[bA],4,[.LA 1 (.l []),.for [2,3,4] cA .of [.v 0] RU,.vA (.tA .Eq (.v 1) (.l [])) [.ret (.s "none")] [],.ret (.vD ("; ":fA) (.v 1))],cA⟩
def HW:Fn:=⟨[bA,bA,bA],1,[.LA 3 (.iG 0 "say" aT [.v 1]),.ret (.and (.cF (.v 3) [.str]) (.tA .Eq (.v 3) (.v 2)))],cA⟩
def aN:Fn:=⟨[bA,cA,bA,bA],0,[.vA (.tA .Eq (.v 3) (.n 0)) [.ret (.call "k" [.v 0,.s "line",.vD (" ":fA) (.comp M5 [1] .of [.v 2] [] [] 2)])] [],.vA (.tA .Eq (.v 3) (.n 1)) [.ret (.call "k" [.v 0,.s "house",.call "q" [.v 1]])] [],.vA (.tA .Eq (.v 3) (.n 2)) [.ret (.call "k" [.v 0,.s "next",.call "T" [.call "S" [.v 1,.v 2]]])] [],.ret (.call "k" [.v 0,.s "broken",.call "U" [.call "P" [.v 1,.v 2]]])],cA⟩
def cG:Fn:=⟨[bA],8,[.LA 1 (.call "N" [.call "M" [.v 0,.n 1]]),.LA 2 (.call "M" [.v 0,.n 2]),.LA 3 (.nI "Desk" "v" [.call "q" [.v 1]]),.LA 4 (.nI "Desk" "v" [.call "q" [.v 1]]),.LA 5 (.l []),.for [6] bA .BB [.call "a" [.v 2,.n 17]] qO,.for [8] bA .BB [.n 4] hV,.ret (.b bA)],cA⟩
def TL:List (String×Fn):=[("r",rR),("d",sR),("j",QW),("V",XW),("W",YW),("X",OW),("f",wL),("Y",UW),("Z",WW),("0",fX),("1",rX),("s",vX),("n",tX),("g",VW),("y",sX),("2",bX),("ae",MW),("af",NW),("ag",IW),("ah",uW),("ai",tW),("aj",KW),("ak",LW),("al",sW),("am",JW),("h",aJ),("z",kX),("o",SW),("A",RW),("B",aX),("3",xX),("C",uX),("4",ZW),("D",cX),("b",vR),("5",mX),("6",pX),("E",EO),("t",nX),("l",oX),("7",yL),("c",iX),("8",jX),("9",gX),("aa",eK),("ab",tR),("F",uR),("G",yX),("H",dX),("I",eX),("J",lX),("m",bN),("K",qX),("L",wX),("u",qR),("v",wW),("p",oR),("M",FW),("a",zW),("ac",GW),("N",uL),("i",CW),("w",DO),("ad",DW),("O",pR),("e",ZI),("P",yW),("Q",BW),("R",cK),("q",vL),("S",AW),("T",EW),("U",xW),("k",HW),("x",aN),("law",cG)]
def T:Tab:=λf=>TL.lookup f
theorem M3:T.dA "r"=[bA]:=rfl
theorem Eh:T.dA "d"=[bA,bA,bA]:=rfl
theorem th:T.dA "j"=[bA,bA,bA,bA]:=rfl
theorem Ah:T.dA "V"=[bA]:=rfl
theorem Dh:T.dA "W"=[bA]:=rfl
theorem rh:T.dA "X"=[bA,bA]:=rfl
theorem Bh:T.dA "f"=[bA,bA,bA,bA]:=rfl
theorem xh:T.dA "Y"=[bA,bA,bA,bA,bA]:=rfl
theorem zh:T.dA "Z"=[cA,cA,cA,bA,bA]:=rfl
theorem Mh:T.dA "0"=[bA,bA]:=rfl
theorem gi:T.dA "1"=[bA,bA]:=rfl
theorem ni:T.dA "s"=[bA,cA,bA,bA]:=rfl
theorem ki:T.dA "n"=[bA,bA,bA]:=rfl
theorem yh:T.dA "g"=[bA,cA,bA]:=rfl
theorem ji:T.dA "y"=[bA]:=rfl
theorem Ih:T.dA "2"=[bA,bA,bA]:=rfl
theorem oh:T.dA "ae"=[bA,bA,cA,bA]:=rfl
theorem ph:T.dA "af"=[bA,bA]:=rfl
theorem kh:T.dA "ag"=[bA,bA,cA,cA]:=rfl
theorem Mg:T.dA "ah"=[bA,bA,cA,cA]:=rfl
theorem Lg:T.dA "ai"=[bA,bA,cA,cA]:=rfl
theorem mh:T.dA "aj"=[bA,bA,cA,bA]:=rfl
theorem nh:T.dA "ak"=[bA,bA]:=rfl
theorem Kg:T.dA "al"=[bA,bA,cA,bA]:=rfl
theorem lh:T.dA "am"=[bA,bA,cA,bA]:=rfl
theorem Th:T.dA "h"=[bA]:=rfl
theorem Uh:T.dA "z"=[bA]:=rfl
theorem vh:T.dA "o"=[bA,bA,cA,cA]:=rfl
theorem uh:T.dA "A"=[bA,cA]:=rfl
theorem Hh:T.dA "B"=[bA]:=rfl
theorem ri:T.dA "3"=[bA,cA]:=rfl
theorem mi:T.dA "C"=[bA,cA]:=rfl
theorem Fh:T.dA "4"=[bA]:=rfl
theorem Jh:T.dA "D"=[bA,bA]:=rfl
theorem xi:T "b"=aA vR:=rfl
theorem Zh:T.dA "b"=[cA]:=rfl
theorem Wh:T.dA "5"=[bA]:=rfl
theorem di:T.dA "6"=[bA]:=rfl
theorem ai:T.dA "E"=[cA]:=rfl
theorem Xh:T.dA "t"=[bA]:=rfl
theorem Yh:T.dA "l"=[cA]:=rfl
theorem Ph:T.dA "7"=[cA]:=rfl
theorem Qh:T.dA "c"=[cA]:=rfl
theorem Sh:T.dA "8"=[cA]:=rfl
theorem Nh:T.dA "9"=[cA]:=rfl
theorem Rh:T.dA "aa"=[cA]:=rfl
theorem Gh:T.dA "ab"=[cA]:=rfl
theorem Oh:T.dA "F"=[bA]:=rfl
theorem si:T.dA "G"=[bA]:=rfl
theorem Kh:T.dA "H"=[cA]:=rfl
theorem Lh:T.dA "I"=[cA]:=rfl
theorem Vh:T.dA "J"=[bA]:=rfl
theorem qh:T.dA "m"=[bA,cA,cA,bA]:=rfl
theorem ei:T.dA "K"=[bA,cA,cA]:=rfl
theorem oi:T.dA "L"=[cA]:=rfl
theorem wh:T.dA "u"=[cA,cA,cA,bA]:=rfl
theorem Ng:T.dA "p"=[bA,bA]:=rfl
theorem dh:T.dA "M"=[bA,cA]:=rfl
theorem Ug:T.dA "a"=[bA,bA]:=rfl
theorem eh:T.dA "ac"=[bA,bA,bA,bA,bA]:=rfl
theorem Yg:T.dA "N"=[bA]:=rfl
theorem Xg:T.dA "i"=[bA,bA,bA]:=rfl
theorem Tg:T.dA "w"=[bA,bA,cA]:=rfl
theorem Zg:T.dA "ad"=[bA,cA,cA]:=rfl
theorem Pg:T.dA "O"=[bA,bA,bA,bA,cA,cA]:=rfl
theorem Sg:T.dA "e"=[bA,bA,bA,cA]:=rfl
theorem Rg:T.dA "P"=[bA,bA]:=rfl
theorem Wg:T.dA "Q"=[bA,bA]:=rfl
theorem gh:T.dA "R"=[bA]:=rfl
theorem ih:T.dA "q"=[cA]:=rfl
theorem Vg:T.dA "S"=[bA,bA]:=rfl
theorem bh:T.dA "T"=[bA]:=rfl
theorem Qg:T.dA "U"=[bA]:=rfl
theorem jh:T.dA "k"=[bA,bA,bA]:=rfl
theorem Og:T.dA "x"=[bA,cA,bA,bA]:=rfl
theorem vi:T "law"=aA cG:=rfl
def Ir:QI (jE 55 0) "Span.__init__" ["beat","spans"]:=LL uG
def YM{a b:D}:ZE (aA (.ins "Span" ["beat","spans"] [a,b])) "beat"=aA (.sh a):=(rfl)
def ZM{b a:D}:ZE (aA (.ins "Span" ["beat","spans"] [b,a])) "spans"=aA (.sh a):=(rfl)
def Er:QI (jE 56 0) "Leap.__init__" ["most"]:=LL dE
def oW{a:D}:ZE (aA (.ins "Leap" ["most"] [a])) "most"=aA (.sh a):=(rfl)
def Dr:QI (jE 57 0) "Back.__init__" ["leap","most"]:=LL uG
def WM{a b:D}:ZE (aA (.ins "Back" ["leap","most"] [a,b])) "leap"=aA (.sh a):=(rfl)
def XM{b a:D}:ZE (aA (.ins "Back" ["leap","most"] [b,a])) "most"=aA (.sh a):=(rfl)
def Cr:QI (jE 58 0) "Again.__init__" ["most"]:=LL dE
def VM{a:D}:ZE (aA (.ins "Again" ["most"] [a])) "most"=aA (.sh a):=(rfl)
def Hr:QI (jE 59 0) "Range.__init__" ["low","high"]:=LL uG
def qW{a b:D}:ZE (aA (.ins "Range" ["low","high"] [a,b])) "low"=aA (.sh a):=(rfl)
def pW{b a:D}:ZE (aA (.ins "Range" ["low","high"] [b,a])) "high"=aA (.sh a):=(rfl)
def Ar:QI (jE 60 0) "Above.__init__" ["one","other"]:=LL uG
def kR{a b:D}:ZE (aA (.ins "Above" ["one","other"] [a,b])) "one"=aA (.sh a):=(rfl)
def mR{b a:D}:ZE (aA (.ins "Above" ["one","other"] [b,a])) "other"=aA (.sh a):=(rfl)
def Gr:QI (jE 61 0) "Never.__init__" ["one","other","way"]:=LL YE
def AO{a b c:D}:ZE (aA (.ins "Never" ["one","other","way"] [a,b,c])) "one"=aA (.sh a):=(rfl)
def BO{b a c:D}:ZE (aA (.ins "Never" ["one","other","way"] [b,a,c])) "other"=aA (.sh a):=(rfl)
def CO{b c a:D}:ZE (aA (.ins "Never" ["one","other","way"] [b,c,a])) "way"=aA (.sh a):=(rfl)
def Sw:yD "Span" ["beat","spans"] "broken" AH=aA "ae":=by decide +kernel
def Pw:yD "Leap" ["most"] "broken" AH=aA "ag":=by decide +kernel
def Ow:yD "Back" ["leap","most"] "broken" AH=aA "ah":=by decide +kernel
def Nw:yD "Again" ["most"] "broken" AH=aA "ai":=by decide +kernel
def Rw:yD "Range" ["low","high"] "broken" AH=aA "aj":=by decide +kernel
def Mw:yD "Above" ["one","other"] "broken" AH=aA "al":=by decide +kernel
def Qw:yD "Never" ["one","other","way"] "broken" AH=aA "am":=by decide +kernel
def ZO:yD "Span" ["beat","spans"] "forbids" wK=aA "af":=by decide +kernel
def lS:yD "Range" ["low","high"] "forbids" wK=aA "ak":=by decide +kernel
def ey:VE (gD L) (jE 55 1) "broken" "Span.broken" MW:=AG YE
def fy:VE (gD L) (jE 55 2) "forbids" "Span.forbids" NW:=AG dE
def Zx:VE (gD L) (jE 56 1) "broken" "Leap.broken" IW:=AG YE
def Wx:VE (gD L) (jE 57 1) "broken" "Back.broken" uW:=AG YE
def Vx:VE (gD L) (jE 58 1) "broken" "Again.broken" tW:=AG YE
def cy:VE (gD L) (jE 59 1) "broken" "Range.broken" KW:=AG YE
def dy:VE (gD L) (jE 59 2) "forbids" "Range.forbids" LW:=AG dE
def Ux:VE (gD L) (jE 60 1) "broken" "Above.broken" sW:=AG YE
def ay:VE (gD L) (jE 61 1) "broken" "Never.broken" JW:=AG YE
def Xx:VE (gD L) (jE 139 0) "__init__" "Desk.__init__" wW:=AG dE
def Yx:VE (gD L) (jE 139 1) "say" "Desk.say" oR:=AG dE
def Gy:ZN (gD L) (top 159) "law" cG:=AG rC
end Tx
namespace Mx
open CI Tx
open PySem hiding Entry Env Loc Made Run run start
abbrev _root_.CI.Sl.o(d:CI.D):CI.Sl:=.ow d cA cA
abbrev _root_.CI.Sl.p(d:CI.D):CI.Sl:=.ow d bA cA
abbrev _root_.CI.Sl.i(d:Int):CI.Sl:=.sh (.int d)
abbrev _root_.CI.RV.i(d:Int):CI.RV:=.sh (.int d)
abbrev _root_.CI.Sl.s(d:fA):CI.Sl:=.sh (.str d)
abbrev _root_.CI.RV.s(d:fA):CI.RV:=.sh (.str d)
abbrev _root_.CI.Sl.b(d:Bool):CI.Sl:=.sh (.bl d)
abbrev _root_.CI.RV.b(d:Bool):CI.RV:=.sh (.bl d)
local macro_rules | `(tactic| exists $x:ident)=>`(tactic| ((first | rw[DG (fn:=$x) rfl rfl rfl] | (rw[uJa (fn:=$x) rfl rfl rfl];unfold raised));unfold $x))
noncomputable def toD(f:Int×Int×Bool):D:=.t [.int f.1,.int f.2.1,.bl f.2.2]
def oA(no ba oc:Int)(fs:List (Int×Int×Bool))(rs:List D):D:=.t [.int no,.int ba,.int oc,.t (fs.map toD),.t rs]
theorem Jt:TC (aA (oA no ba oc fs rs)) (.int 0)=aA (.i no):=rfl
theorem Kt:TC (aA (oA no ba oc fs rs)) (.int 1)=aA (.i ba):=rfl
theorem Mt:TC (aA (oA no ba oc fs rs)) (.int 2)=aA (.i oc):=rfl
theorem Nt:TC (aA (oA no ba oc fs rs)) (.int 3)=aA (.sh (.t (fs.map toD))):=rfl
theorem Ot:TC (aA (oA no ba oc fs rs)) (.int 4)=aA (.sh (.t rs)):=rfl
abbrev rg(n:Nat):List D:=(EB n).map λ(j:Nat)=>D.int (j:Int)
def zG:(if cA=bA then a else b)=b:=pB (by decide)
set_option compiler.extract_closed false
local macro_rules | `(tactic| walk_at $s:str) => do if !s.getString.startsWith "!" then Lean.Macro.throwUnsupported else `(tactic| simp only[↓ej, ↓Wo, ↓ax, ↓Vl, ↓vHa, ↓Zt, ↓Xt, ↓Ut, ↓Tt, ↓Lu, ↓Ku, ↓su, ↓qu, ↓ou, ↓nu, $[$((("Uj dk ak Xj Zj Yj ck Vj Wj xk fj Xo bx cx Wl Uo sj Aq Yl Xl bq aq Rq Qq Uu wHa fu Ou Ho Io Sn Tu gEa hEa iEa Hb jEa kEa M8 p8 Fo fo Ko Y7 X7 Jo En j8 i8 Xu Wu Su Yz Lz Xz Rz Fz Tz Iz Jz Dz Pz Vz Hz Ez Oz Kz Dn P7 O7 Ln Nj Lj Mj rj qj mj pj tj uj kj KG lj Iu qo Ju vo v8 Ax uo Nl Ml W7 V7 Pn aS Wt S7 R7 Qn Sk Rk Lk Kk Ik Wk Jk Xk Qk Pk Zk Yk jGa Hn zo Zn Rt n8 m8 bo wt qt V3 Vi Wi Xi G8 F8 E8 A' eS i' B' Z_ Bo UO vm au cu bu uu Dv Hv Gv Fv Iv xu wu vu lq gq iq oq mq gu iu N7 Kn fq cq dq gp ip Yo bp lp xp qp lY Yn Wr Tr Ur Xr Yr Vr Rr Sr Bs Zr js Cs Ds As Es K7 Vt lu Jn Vs Us L7 Mo uP bFa aFa zEa eB Rx Qx M7 Oo uO wV DZ CZ vY D8 C8 To eDa Z7 Po uBa vBa DE So cn Bn rn Wm Ym Um xn dn jn yn Xm Vm Zm Ro Jp aA4 Qo lW kW yBa tGa Qu Ru Rn wq Gn O_ P_ Gz Mz Sz Uz y8 yo j' Pj Q7 Mn c8 Vn jo yu zu Au sY Eu Gu ko vn Vk zg0 zg1 zs0 zs1 zb zm zi zc zn zr0 zr1 zl0 zl1 znt znf zko zks zkn Nn b8 eu Tn Pu Ks mu Nu Qs B8 Qz Wz o8 eo Co Eo lFa mn An Ao X_ Mu M3 Eh th Ah Dh rh Bh xh zh Mh gi ni ki yh ji Ih ph nh Th Uh vh uh Hh ri mi Fh Jh Zh Wh di ai Xh Yh Ph Qh Sh Nh Rh Gh Oh si Kh Lh Vh qh ei oi wh Ng dh Ug eh Yg Xg Tg Zg Pg Sg Rg Wg gh ih Vg bh Qg jh Og if_true if_false KI decide_true decide_false Bool.true_eq_false not_true_eq_false not_false_eq_true and_self and_true true_and or_true true_or PB reduceIte Int.reduceLT Int.reduceLE Int.reduceGT Int.reduceNeg Nat.reduceAdd Nat.reduceLT Nat.reduceLeDiff Int.reduceEq Int.reduceNe Nat.reduceBEq HC HJ IB EI EH XG FJ V1 bH VB YC RC du Vu JN bQ pf XT Jt Kt Mt Nt Ot".splitOn " ")++(((s.getString.drop 1).toString.replace "%" "List.length_map").replace "&" "Bool.or_false Bool.false_or Bool.or_true Bool.true_or" |>.splitOn " ")).filter (· ≠ "") |>.toArray.map λx => Lean.mkIdent x.toName):term],*, *])
theorem HB:type_of% (And.intro @uO (And.intro @uP (And.intro @YD.{0} (And.intro @JH.{0} (And.intro @qG.{0} (And.intro @rG.{0} (And.intro @wV (And.intro @CZ (And.intro @DZ @vY))))))))):=(And.intro @uO (And.intro @uP (And.intro @YD.{0} (And.intro @JH.{0} (And.intro @qG.{0} (And.intro @rG.{0} (And.intro @wV (And.intro @CZ (And.intro @DZ @vY)))))))))
def HV(k s m:Int):Int:=if k=0 then s / m else(s*69621+7) % 2147483629
def rL(k s m:Int):Int:=if k=0 then s % m else((((s*69621+7) % 2147483629) % 65521*40503+((s*69621+7) % 2147483629) / 65521+1)*16807 % 2147483647) / 13 % m
def ym(c:0<m)(d:m<100000000000000000000000000000000000000000000000000000000000000000000000000000000):run T W (n+1) "a" [.p (.l [.int k,.int s]),.i m]=some (.ok (.i (rL k s m)),[.p (.l [.int k,.int (HV k s m)]),.i m]):=by
 exists zW
 by_cases b:k=0
 ·subst b;unfold HV rL
  walk_at "!"
 ·unfold HV rL
  walk_at "!"
def xm(h:0<m):0<=rL k s m:=by unfold rL;split<;>exact ZP _ (by lia)
def wm(h:0<m):rL k s m<m:=by unfold rL;split<;>exact IT _ h
def dr(b:0<m)(c:m<100000000000000000000000000000000000000000000000000000000000000000000000000000000):∃v d:Int,(0<=v/\v<m)/\run T W (n+1) "a" [.p (.l [.int k,.int s]),.i m]=some (.ok (.i v),[.p (.l [.int k,.int d]),.i m]):=⟨_,_,⟨xm b,wm b⟩,ym b c⟩
def NM{W n:Nat}{k s m:Int}(h:0<m/\m<5000):∃v b:Int,(0<=v/\v<m)/\run T W (n+1) "a" [.p (.l [.int k,.int s]),.i m]=some (.ok (.i v),[.p (.l [.int k,.int b]),.i m]):=dr h.1 (Int.lt_trans h.2 (by decide))
noncomputable def CH:D->Bool
 |.nA=>bA | .bl _=>bA | .int _=>bA | .str _=>bA | .t _=>bA | .l _=>bA
 |_=>cA
noncomputable def BK:D->Bool
 |.int _=>bA
 |_=>cA
theorem RO(h:CH d=bA):run T W (n+1) "r" [.sh d]=some (.ok (.b (BK d)),[.sh d]):=by
 exists rR
 cases d<;>first | (simp only[CH,KI] at h;done) | (walk_at "!";rfl) | (walk_at "!";done)
noncomputable def NC(lo a:Int):D->Bool
 |.int i=>decide (lo<=i)&&decide (i<=a)
 |_=>cA
def cM(h:CH d=bA):run T W (n+2) "d" [.sh d,.i lo,.i hi]=some (.ok (.b (NC lo hi d)),[.sh d,.i lo,.i hi]):=by
 exists sR
 walk_at "!"
 try (simp only[M3];walk_at "!")
 simp only[RO h]
 walk_at "!"
 by_cases a:BK d=bA
 ·obtain⟨i,rfl⟩:∃i,d=.int i:=by cases d<;>first | exact⟨_,rfl⟩ | cases a
  simp only[BK]
  walk_at "!"
  simp only[NC];by_cases b:lo<=i<;>by_cases c:i<=hi<;>simp only[b,c]<;>walk_at "!"<;>rfl
 ·have a:BK d=cA:=by cases e:BK d;rfl;exact absurd e a
  have f:NC lo hi d=cA:=by cases d<;>first | rfl | cases a
  simp only[a,f]
  walk_at "!"
noncomputable def DA(a:List (List Int)):List D:=a.map λis=>.t (is.map D.int)
def Ox{l:List Int}:(l.map D.int).all (nB n)=bA:=sF.mpr λd hd=>by
 obtain⟨i,_,rfl⟩:=wB.mp hd;cases n<;>rfl
def Px(a:List (List Int)):nB (n+2) (.l (DA a))=bA:=sF.mpr λd hd=>by
 obtain⟨t,_,rfl⟩:=wB.mp hd;exact Ox
noncomputable def HD(a:List Int)(k:Nat):Int×Int :=
 if k<a.length/\a.headD 0 % 2=0 then(0,a.getD k 0)
 else(1,((if 0<a.length then a.getD (k % a.length) 0 % 2147483587+48611*((k / a.length:Nat):Int)+3*(k:Int) else 30011*(k:Int)+7)*48271+11*(k:Int)+1) % 2147483647)
def CQ{ns:List Int}(h:k<ns.length):L2.LB (ns.map D.int) (k:Int)=aA (.int (ns.getD k 0)):=by
 apply L2.fL
 rw[dD,xC h];simp[h]
def V9{k:Nat}(m:ns.length<=63)(o:k<=100000):run T W (n+1) "M" [.sh (.l (ns.map .int)),.i k]=some (.ok (.ow (.l [.int (HD ns k).1,.int (HD ns k).2])),[.sh (.l (ns.map .int)),.i k]):=by
 exists FW
 by_cases e:ns=[]
 ·subst e;have h:decide ((k:Int)<((0:Nat):Int))=cA:=ZA (by lia);have i:decide (((0:Nat):Int) > 0)=cA:=rfl;have f:decide (0<((0:Nat):Int))=cA:=rfl;have j:decide ((k:Int)<0)=cA:=ZA (by lia)
  have ev:HD [] k=(1,((30011*(k:Int)+7)*48271+11*(k:Int)+1) % 2147483647):=by(unfold HD;rw[pB (by simp),pB (by simp)])
  walk_at "!pA"
 ·have b:0<ns.length:=List.length_pos_iff.mpr e;have f:decide (0<(ns.length:Int))=bA:=rB (by lia)
  have p:(ns.map D.int)[0]?=aA (.int (ns.headD 0)):=by cases ns with | nil=>exact absurd rfl e | cons a r=>rfl
  have q:(0:Int)<(ns.length:Int):=by lia
  have s:(ns.length:Int)<100000000000000000000000000000000000000000000000000000000000000000000000000000000:=by lia
  have t:(k:Int) / (ns.length:Int)=((k / ns.length:Nat):Int):=by rw[Tf]
  have u:(k:Int) % (ns.length:Int)=((k % ns.length:Nat):Int):=by rw[Int.natCast_emod]
  have v:=CQ (k:=k % ns.length) (Nat.mod_lt _ b);by_cases d:k<ns.length
  ·have h:decide ((k:Int)<(ns.length:Int))=bA:=rB (by lia);have x:=CQ d;by_cases g:ns.headD 0 % 2=0
   ·have ev:HD ns k=(0,ns.getD k 0):=by unfold HD;rw[QA ⟨d,g⟩]
    walk_at "!pA"
   ·have l:decide (ns.headD 0 % 2=0)=cA:=ZA g
    have ev:HD ns k=(1,((ns.getD (k % ns.length) 0 % 2147483587+48611*((k / ns.length:Nat):Int)+3*(k:Int))*48271+11*(k:Int)+1) % 2147483647):=by(unfold HD;rw[pB (λz=>g z.2),QA b])
    walk_at "!pA"
  ·have h:decide ((k:Int)<(ns.length:Int))=cA:=ZA (by lia)
   have ev:HD ns k=(1,((ns.getD (k % ns.length) 0 % 2147483587+48611*((k / ns.length:Nat):Int)+3*(k:Int))*48271+11*(k:Int)+1) % 2147483647):=by(unfold HD;rw[pB (λz=>d z.1),QA b])
   walk_at "!pA"
def Cd:((rA "span")==(rA "leap"))=cA:=by decide +kernel
def Bd:((rA "span")==(rA "back"))=cA:=by decide +kernel
def Ad:((rA "span")==(rA "again"))=cA:=by decide +kernel
def Ed:((rA "span")==(rA "range"))=cA:=by decide +kernel
def zd:((rA "span")==(rA "above"))=cA:=by decide +kernel
def Dd:((rA "span")==(rA "never"))=cA:=by decide +kernel
def Tc:vB .In (.str (rA "span")) (.t [.str (rA "leap"),.str (rA "back"),.str (rA "again")])=aA cA:=(rfl)
def dd:((rA "leap")==(rA "span"))=cA:=by decide +kernel
def Wc:((rA "leap")==(rA "back"))=cA:=by decide +kernel
def Vc:((rA "leap")==(rA "again"))=cA:=by decide +kernel
def Zc:((rA "leap")==(rA "range"))=cA:=by decide +kernel
def Uc:((rA "leap")==(rA "above"))=cA:=by decide +kernel
def Xc:((rA "leap")==(rA "never"))=cA:=by decide +kernel
def Pc:vB .In (.str (rA "leap")) (.t [.str (rA "leap"),.str (rA "back"),.str (rA "again")])=aA bA:=(rfl)
def Lc:((rA "back")==(rA "span"))=cA:=by decide +kernel
def Ic:((rA "back")==(rA "leap"))=cA:=by decide +kernel
def Hc:((rA "back")==(rA "again"))=cA:=by decide +kernel
def Kc:((rA "back")==(rA "range"))=cA:=by decide +kernel
def Fc:((rA "back")==(rA "above"))=cA:=by decide +kernel
def Jc:((rA "back")==(rA "never"))=cA:=by decide +kernel
def Oc:vB .In (.str (rA "back")) (.t [.str (rA "leap"),.str (rA "back"),.str (rA "again")])=aA bA:=(rfl)
def Ec:((rA "again")==(rA "span"))=cA:=by decide +kernel
def Bc:((rA "again")==(rA "leap"))=cA:=by decide +kernel
def Ac:((rA "again")==(rA "back"))=cA:=by decide +kernel
def Dc:((rA "again")==(rA "range"))=cA:=by decide +kernel
def yc:((rA "again")==(rA "above"))=cA:=by decide +kernel
def Cc:((rA "again")==(rA "never"))=cA:=by decide +kernel
def Nc:vB .In (.str (rA "again")) (.t [.str (rA "leap"),.str (rA "back"),.str (rA "again")])=aA bA:=(rfl)
def yd:((rA "range")==(rA "span"))=cA:=by decide +kernel
def ud:((rA "range")==(rA "leap"))=cA:=by decide +kernel
def td:((rA "range")==(rA "back"))=cA:=by decide +kernel
def sd:((rA "range")==(rA "again"))=cA:=by decide +kernel
def qd:((rA "range")==(rA "above"))=cA:=by decide +kernel
def vd:((rA "range")==(rA "never"))=cA:=by decide +kernel
def Rc:vB .In (.str (rA "range")) (.t [.str (rA "leap"),.str (rA "back"),.str (rA "again")])=aA cA:=(rfl)
def xc:((rA "above")==(rA "span"))=cA:=by decide +kernel
def uc:((rA "above")==(rA "leap"))=cA:=by decide +kernel
def tc:((rA "above")==(rA "back"))=cA:=by decide +kernel
def qc:((rA "above")==(rA "again"))=cA:=by decide +kernel
def wc:((rA "above")==(rA "range"))=cA:=by decide +kernel
def vc:((rA "above")==(rA "never"))=cA:=by decide +kernel
def Mc:vB .In (.str (rA "above")) (.t [.str (rA "leap"),.str (rA "back"),.str (rA "again")])=aA cA:=(rfl)
def pd:((rA "never")==(rA "span"))=cA:=by decide +kernel
def kd:((rA "never")==(rA "leap"))=cA:=by decide +kernel
def jd:((rA "never")==(rA "back"))=cA:=by decide +kernel
def gd:((rA "never")==(rA "again"))=cA:=by decide +kernel
def md:((rA "never")==(rA "range"))=cA:=by decide +kernel
def ed:((rA "never")==(rA "above"))=cA:=by decide +kernel
def Qc:vB .In (.str (rA "never")) (.t [.str (rA "leap"),.str (rA "back"),.str (rA "again")])=aA cA:=(rfl)
def iB:type_of% (And.intro @Cd (And.intro @Bd (And.intro @Ad (And.intro @Ed (And.intro @zd (And.intro @Dd (And.intro @Tc (And.intro @dd (And.intro @Wc (And.intro @Vc (And.intro @Zc (And.intro @Uc (And.intro @Xc (And.intro @Pc (And.intro @Lc (And.intro @Ic (And.intro @Hc (And.intro @Kc (And.intro @Fc (And.intro @Jc (And.intro @Oc (And.intro @Ec (And.intro @Bc (And.intro @Ac (And.intro @Dc (And.intro @yc (And.intro @Cc (And.intro @Nc (And.intro @yd (And.intro @ud (And.intro @td (And.intro @sd (And.intro @qd (And.intro @vd (And.intro @Rc (And.intro @xc (And.intro @uc (And.intro @tc (And.intro @qc (And.intro @wc (And.intro @vc (And.intro @Mc (And.intro @pd (And.intro @kd (And.intro @jd (And.intro @gd (And.intro @md (And.intro @ed @Qc)))))))))))))))))))))))))))))))))))))))))))))))):=(And.intro @Cd (And.intro @Bd (And.intro @Ad (And.intro @Ed (And.intro @zd (And.intro @Dd (And.intro @Tc (And.intro @dd (And.intro @Wc (And.intro @Vc (And.intro @Zc (And.intro @Uc (And.intro @Xc (And.intro @Pc (And.intro @Lc (And.intro @Ic (And.intro @Hc (And.intro @Kc (And.intro @Fc (And.intro @Jc (And.intro @Oc (And.intro @Ec (And.intro @Bc (And.intro @Ac (And.intro @Dc (And.intro @yc (And.intro @Cc (And.intro @Nc (And.intro @yd (And.intro @ud (And.intro @td (And.intro @sd (And.intro @qd (And.intro @vd (And.intro @Rc (And.intro @xc (And.intro @uc (And.intro @tc (And.intro @qc (And.intro @wc (And.intro @vc (And.intro @Mc (And.intro @pd (And.intro @kd (And.intro @jd (And.intro @gd (And.intro @md (And.intro @ed @Qc))))))))))))))))))))))))))))))))))))))))))))))))
def OC(k lo b:Int)(a:List D):Bool:=decide ((a.length:Int)=k)&&a.all (NC lo b)
def EN:D->Bool
 |.str x=>inD (.str x) [.str (rA "like"),.str (rA "against"),.str (rA "aside"),.str (rA "any")]
 |_=>cA
def qK(ba oc:Int):List D->Bool
 |[a,b]=>NC 0 (ba-1) a&&NC 0 (2 ^ oc.toNat-1) b
 |_=>cA
noncomputable def fS:List D->Bool
 |[.int i,.int j]=>decide (i<=j)
 |_=>cA
noncomputable def oS:List D->Bool
 |[.int i,.int j]=>!decide (i=j)
 |_=>cA
def mJ(oc:Int):List D->Bool
 |[a,b,c]=>NC 0 (oc-1) a&&(NC 0 (oc-1) b&&EN c)
 |_=>cA
def Nv(h:l.length=2):∃a b,l=[a,b]:=by
 rcases l with _ | ⟨a,_ | ⟨b,_ | ⟨c,r⟩⟩⟩<;>first | exact⟨_,_,rfl⟩ | (simp at h;done)
def mEa(d:List D):(∃a b,d=[a,b])\/qK ba oc d=cA:=by
 rcases d with _ | ⟨a,_ | ⟨b,_ | ⟨c,r⟩⟩⟩<;>first | exact .inr rfl | exact .inl ⟨_,_,rfl⟩
def kx(e:List D):(∃a b c,e=[a,b,c])\/mJ oc e=cA:=by
 rcases e with _ | ⟨a,_ | ⟨b,_ | ⟨c,_ | ⟨d,r⟩⟩⟩⟩<;>first | exact .inr rfl | exact .inl ⟨_,_,_,rfl⟩
def Qv(h:l.length=3):∃a b c,l=[a,b,c]:=by
 rcases l with _ | ⟨a,_ | ⟨b,_ | ⟨c,_ | ⟨d,r⟩⟩⟩⟩<;>first | exact⟨_,_,_,rfl⟩ | (simp at h;done)
def zO{Z:List D}:QC .all [.l (Z.map λz=>.bl (p z))]=aA (.b (Z.all p)):=by
 have h:yE (Z.map λz=>.bl (p z))=aA (Z.map p):=by
  induction Z with
  |nil=>rfl
  |cons z Z a=>simp[yE,a]
 show(yE _).map _=_;rw[h];simp[fU]
def qe(h:NC lo a d=bA):∃i,d=.int i/\lo<=i/\i<=a:=by
 cases d with
 |int i =>
  simp only[NC,IA,MH] at h;exact⟨i,rfl,h.1,h.2⟩
 |_=>cases h
def rHa(h:BK d=cA):NC lo a d=cA:=by cases d<;>first | rfl | cases h
def qHa(h:BK d=bA):∃i,d=.int i:=by cases d<;>first | exact⟨_,rfl⟩ | cases h
def CM(hl:ps.length<=1000000)(m:ps.all CH=bA) :
  run T W (n+3) "j" [.sh (.t ps),.i k,.i lo,.i hi]=some (.ok (.b (OC k lo hi ps)),[.sh (.t ps),.i k,.i lo,.i hi]):=by
 exists QW
 have l:aAc .of [.slot 0] [.sh (.t ps),.i k,.i lo,.i hi]=aA (ps,eA):=jN rfl
 obtain⟨g,r,e,⟨i,rfl,h,rfl⟩,_⟩:=qL (tests:=aC T.dA (run T W (n+2)) []) (DB:=ev T.dA (run T W (n+2)) cA PV) (bind:=UA bA [3]) (ds:=ps)
  (λj g Y=>∃(i:Sl),Y=[.i hi,.i lo,.un,i]/\KA i=bA/\g=(ps.take j).map λy=>.bl (NC lo hi y))
  (λj d hd g Y o=>by
   obtain⟨i,rfl,h,rfl⟩:=o;have s:=cM (W:=W) (n:=n) (lo:=lo) (hi:=hi) (sF.mp m d (aH hd));refine⟨_,bA,_,by simp only[HB,eB h]<;>rfl,tL,λ_=>?_,λz=>nomatch z⟩;refine⟨.b (NC lo hi d),[.i hi,.i lo,.un,.sh d], ?_,_,rfl,rfl,by rw[GK,hd,BD];rfl⟩;unfold PV
   walk_at "!cM zO pA")
  [] [.i hi,.i lo,.un,.un] ⟨_,rfl,rfl,rfl⟩
 rw[NP] at e;have p:NA ps.length=bA:=kB (by lia);cases c:decide ((ps.length:Int)=k)
 ·have q:OC k lo hi ps=cA:=by unfold OC;rw[c];rfl
  walk_at "!cM zO pA"
 ·have q:OC k lo hi ps=ps.all (NC lo hi):=by unfold OC;rw[c];rfl
  walk_at "!cM zO pA"
  rw[IC l]
  walk_at "!cM zO pA"
  all_goals (rw[RC rfl];walk_at "!cM zO pA")
def sEa(a:0<=i)(b:0<=oc):decide ((sM i:Int)<=oc)=decide (i<=2 ^ oc.toNat-1):=by
 apply OP.mpr
 obtain⟨m,rfl⟩:∃m:Nat,oc=m:=⟨oc.toNat,by lia⟩
 have h:=PySem.intBits_le_iff (m:=m) (x:=i);have e:((2 ^ m:Nat):Int)=(2:Int) ^ m:=by norm_cast
 rw[OE,<- e];constructor
 ·intro q
  have:=h.mp (by lia)
  lia
 ·intro q
  have:=h.mpr (by lia)
  lia
def Ni(h:0<=oc)(hd:CH d=bA) :
  run T W (n+2) "X" [.sh d,.i oc]=some (.ok (.b (NC 0 (2 ^ oc.toNat-1) d)),[.sh d,.i oc]):=by
 exists OW
 have f:=RO (W:=W) (n:=n) hd;cases c:BK d
 ·rw[rHa c];rw[c] at f
  walk_at "!RO"
 ·obtain⟨i,rfl⟩:=qHa c;rw[c] at f;by_cases e:0<=i
  ·have a:decide (0<=i)=bA:=rB e;have j:=sEa e h
   have g:NC 0 (2 ^ oc.toNat-1) (.int i)=decide (i<=2 ^ oc.toNat-1):=by(show(decide (0<=i)&&_)=_;rw[a,XG])
   rw[g,<- j]
   walk_at "!RO"
  ·have a:decide (0<=i)=cA:=ZA e
   have g:NC 0 (2 ^ oc.toNat-1) (.int i)=cA:=by(show(decide (0<=i)&&_)=_;rw[a,FJ])
   walk_at "!RO"
def S4:vB .In (.str x) (.t [.str (rA "like"),.str (rA "against"),.str (rA "aside"),.str (rA "any")])=aA (EN (.str x)):=(rfl)
def Xs(hd:CH d=bA):run T W (n+1) "W" [.sh d]=some (.ok (.b (EN d)),[.sh d]):=by
 exists YW
 cases d<;>first | (simp only[CH,KI] at hd;done) | (clear hd;walk_at "!S4";rfl) | (clear hd;walk_at "!S4";done)
def vH:mE (aA (.t (a::b))) (aA (.int 1)) eA=aA (.sh (.t b)):=by
 show WL (.t (a::b)) (aA 1) eA=_
 have e:HT.dB (a::b).length 0 (aA 1)=1:=by
  have h:=HT.qP (a::b).length 0 1;rw[show((1:Nat):Int)=1 from rfl] at h;rw[h,VB]
  lia
 first
  |show aA (RV.sh (.t (aAu (a::b) (aA 1) eA)))=_
  | (show(if HT.dB (a::b).length 0 (aA 1)=0/\HT.dB (a::b).length (a::b).length eA=(a::b).length then eA else aA (RV.sh (.t (aAu (a::b) (aA 1) eA))))=_;rw[e,pB (λz=>absurd z.1 (by decide))])
 unfold aAu;rw[e,HT.HS,List.drop_one,List.tail_cons,QK (by simp)]
def uH:mE (aA (.t [a,b,c])) eA (aA (.int 2))=aA (.sh (.t [a,b])):=(rfl)
def c4(h:OC 2 lo c d=bA):∃i j,d=[.int i,.int j]/\lo<=i/\i<=c/\lo<=j/\j<=c:=by
 unfold OC at h;simp only[IA,MH] at h
 match d,h with
 |[a,b],h =>
  simp only[IB,EI,EH,IA] at h;obtain⟨i,rfl,e,f⟩:=qe h.2.1;obtain⟨j,rfl,g,k⟩:=qe h.2.2;exact⟨i,j,rfl,e,f,g,k⟩
 |[],h=>simp at h
 |[_],h=>simp at h
 |_::_::_::_,h=>simp only[VB] at h;lia
def oH:decide (((2:Nat):Int)=2)=bA:=(rfl)
def pH:decide (((3:Nat):Int)=3)=bA:=(rfl)
def nH:decide (((2:Nat):Int)=0)=cA:=(rfl)
def qZ(hl:ps.length<=1000000)(a:ps.all CH=bA) :
  (run T W (n+4) "f" [.sh ba,.sh oc,.sh ma,.sh (.t (.str (rA "leap")::ps))]=some (.ok (.b (OC 1 0 12 ps)),[.sh ba,.sh oc,.sh ma,.sh (.t (.str (rA "leap")::ps))])) /\
  (run T W (n+4) "f" [.sh ba,.sh oc,.sh ma,.sh (.t (.str (rA "back")::ps))]=some (.ok (.b (OC 2 1 12 ps)),[.sh ba,.sh oc,.sh ma,.sh (.t (.str (rA "back")::ps))])) /\
  (run T W (n+4) "f" [.sh ba,.sh oc,.sh ma,.sh (.t (.str (rA "again")::ps))]=some (.ok (.b (OC 1 1 3 ps)),[.sh ba,.sh oc,.sh ma,.sh (.t (.str (rA "again")::ps))])):=by
 have h:decide (((ps.length+1:Nat):Int)=0)=cA:=ZA (by lia);have i:=CM (W:=W) (n:=n) (k:=1) (lo:=0) (hi:=12) hl a;have j:=CM (W:=W) (n:=n) (k:=2) (lo:=1) (hi:=12) hl a;have l:=CM (W:=W) (n:=n) (k:=1) (lo:=1) (hi:=3) hl a;clear hl a;refine⟨?_, ?_, ?_⟩
 all_goals
  exists wL
  walk_at "!iB vH uH oH pH nH"
def kCa(m:0<=oc)(k:ps.all CH=bA) :
  run T W (n+4) "f" [.i ba,.i oc,.sh ma,.sh (.t (.str (rA "span")::ps))]=some (.ok (.b (qK ba oc ps)),[.i ba,.i oc,.sh ma,.sh (.t (.str (rA "span")::ps))]):=by
 have o:decide (((ps.length+1:Nat):Int)=0)=cA:=ZA (by lia)
 exists wL
 by_cases c:∃a b,ps=[a,b]
 ·obtain⟨a,b,rfl⟩:=c;simp only[IB,EI,EH,IA] at k;have l:=cM (W:=W) (n:=n+1) (lo:=0) (hi:=ba-1) k.1;have p:=Ni (W:=W) (n:=n+1) m k.2;have q:decide (((3:Nat):Int)=0)=cA:=rfl;have d:qK ba oc [a,b]=(NC 0 (ba-1) a&&NC 0 (2 ^ oc.toNat-1) b):=rfl;cases c1:NC 0 (ba-1) a
  ·rw[c1] at l d;have d:qK ba oc [a,b]=cA:=d
   walk_at "!iB vH uH oH pH nH"
  ·rw[c1] at l d;have d:qK ba oc [a,b]=NC 0 (2 ^ oc.toNat-1) b:=d
   walk_at "!iB vH uH oH pH nH"
 ·have r:decide ((ps.length:Int)=2)=cA:=ZA λz=>c (Nv (by lia))
  have d:qK ba oc ps=cA:=(mEa ps).resolve_left c
  walk_at "!iB vH uH oH pH nH"
def qb(hl:ps.length<=1000000)(h:ps.all CH=bA) :
  (run T W (n+4) "f" [.sh ba,.sh oc,.i ma,.sh (.t (.str (rA "range")::ps))]=some (.ok (.b (OC 2 (-60) 60 ps&&fS ps)),[.sh ba,.sh oc,.i ma,.sh (.t (.str (rA "range")::ps))])) /\
  (run T W (n+4) "f" [.sh ba,.sh oc,.i ma,.sh (.t (.str (rA "above")::ps))]=some (.ok (.b (OC 2 0 ma ps&&oS ps)),[.sh ba,.sh oc,.i ma,.sh (.t (.str (rA "above")::ps))])):=by
 have p:decide (((ps.length+1:Nat):Int)=0)=cA:=ZA (by lia);have l:=CM (W:=W) (n:=n) (k:=2) (lo:=-60) (hi:=60) hl h;have m:=CM (W:=W) (n:=n) (k:=2) (lo:=0) (hi:=ma) hl h;clear hl h;have q:decide (((3:Nat):Int)=0)=cA:=rfl;constructor
 ·exists wL
  walk_at "!iB vH uH oH pH nH"
  cases c:OC 2 (-60) 60 ps
  ·walk_at "!"
   all_goals rfl
  ·clear l;obtain⟨i,j,rfl,_⟩:=c4 c;have o:(bA&&fS [.int i,.int j])=decide (i<=j):=rfl
   walk_at "!iB vH uH oH pH nH"
 ·exists wL
  walk_at "!iB vH uH oH pH nH"
  cases c:OC 2 0 ma ps
  ·walk_at "!"
   all_goals rfl
  ·clear m;obtain⟨i,j,rfl,_⟩:=c4 c;have o:(bA&&oS [.int i,.int j])=!decide (i=j):=rfl
   walk_at "!iB vH uH oH pH nH"
def cCa(m:ps.all CH=bA) :
  run T W (n+4) "f" [.sh ba,.i oc,.sh ma,.sh (.t (.str (rA "never")::ps))]=some (.ok (.b (mJ oc ps)),[.sh ba,.i oc,.sh ma,.sh (.t (.str (rA "never")::ps))]):=by
 have p:decide (((ps.length+1:Nat):Int)=0)=cA:=ZA (by lia)
 exists wL
 by_cases c:∃a b d,ps=[a,b,d]
 ·obtain⟨a,b,d,rfl⟩:=c;simp only[IB,EI,EH,IA] at m;have o:=CM (W:=W) (n:=n) (k:=2) (lo:=0) (hi:=oc-1) (ps:=[a,b]) (by simp) (by simp[m.1,m.2.1]);have q:=Xs (W:=W) (n:=n+2) m.2.2;have r:decide (((4:Nat):Int)=0)=cA:=rfl
  have e:mJ oc [a,b,d]=(OC 2 0 (oc-1) [a,b]&&EN d):=by(unfold mJ OC;simp[Bool.and_assoc])
  cases c1:OC 2 0 (oc-1) [a,b]
  ·rw[c1] at o e;have e:mJ oc [a,b,d]=cA:=e
   walk_at "!iB vH uH oH pH nH"
  ·rw[c1] at o e;have e:mJ oc [a,b,d]=EN d:=e
   walk_at "!iB vH uH oH pH nH"
 ·have s:decide ((ps.length:Int)=3)=cA:=ZA λz=>c (Qv (by lia))
  have e:mJ oc ps=cA:=(kx ps).resolve_left c
  walk_at "!iB vH uH oH pH nH"
theorem bK:∀{j:Nat} {l:List S} {Y:Env},YA P C W (l.take j) Y=aA (.nx,a)->YA P C W l Y=YA P C W (l.drop j) a
 | 0,l,Y,h=>by
  rw[bQ,lW] at h;cases h;rfl
 |j+1,[],Y,h=>by
  rw[List.take_nil,lW] at h;cases h;rfl
 |j+1,s::l,Y,h=>by
  rw[JN,kW] at h;rw[kW,pf]
  generalize ex P C W s Y=r at *
  obtain _ | ⟨fl,b⟩:=r
  ·cases h
  ·cases fl with
   |nx=>exact bK h
   |_=>cases h
def pw{j:Int}(c:0<=j)(d:j<=12):(0:Int)<2 ^ j.toNat/\(2:Int) ^ j.toNat<100000000000000000000000000000000000000000000000000000000000000000000000000000000:=by
 have h:j.toNat<=12:=by lia
 generalize j.toNat=q at h;have a:2 ^ q<=2 ^ 12:=FP (by decide) h;have b:(2:Int) ^ q<=4096:=by exact_mod_cast a
 exact⟨X2 (by decide),Int.lt_of_le_of_lt b (by decide)⟩
inductive wF(no ba oc ma:Int):D->Prop
 |span (a b:Int) (h1:0<=a) (h2:a<ba) (h3:0<=b) (h4:b<2 ^ oc.toNat):wF no ba oc ma (.t [.str "span",.int a,.int b])
 |leap (a:Int) (h1:0<=a) (h2:a<=12):wF no ba oc ma (.t [.str "leap",.int a])
 |back (a b:Int) (h1:1<=a) (h2:a<=12) (h3:1<=b) (h4:b<=12):wF no ba oc ma (.t [.str "back",.int a,.int b])
 |again (a:Int) (h1:1<=a) (h2:a<=3):wF no ba oc ma (.t [.str "again",.int a])
 |range (a b:Int) (h1:-60<=a) (h2:a<=b) (h3:b<=60):wF no ba oc ma (.t [.str "range",.int a,.int b])
 |above (v w:Nat) (h1:(v:Int)<=ma) (h2:(w:Int)<=ma) (h3:v≠w):wF no ba oc ma (.t [.str "above",.int v,.int w])
 |never (a b:Int) (x:fA) (h1:0<=a) (h2:a<oc) (h3:0<=b) (h4:b<oc) (h5:x="like"\/x="against"\/x="aside"\/x="any"):wF no ba oc ma (.t [.str "never",.int a,.int b,.str x])
def Zd(h:0<=v/\v<2):∃q,TC (aA (.l [.int a,.int b])) (.int v)=aA (.i q)/\(q=a\/q=b):=by
 rcases(by lia:v=0\/v=1) with rfl | rfl
 ·exact⟨a,rfl,.inl rfl⟩
 ·exact⟨b,rfl,.inr rfl⟩
def lCa{W n:Nat}{k s0 no ba oc l:Int}(Q:((1<=no/\no<=7)/\1<=ba/\ba<=4)/\(1<=oc/\oc<=12)/\1<=l/\l<=3) :
  ∃R d,run T W (n+2) "ac" [.p (.l [.int k,.int s0]),.i no,.i ba,.i oc,.i l]=some (.ok (.sh d),[.p (.l [.int k,.int R]),.i no,.i ba,.i oc,.i l])/\wF no ba oc l d:=by
 exists GW
 unfold Ob Pb Qb Rb Sb Tb Ub Vb Wb Xb;obtain⟨⟨⟨_,_⟩,_,_⟩,⟨_,J⟩,_,_⟩:=Q;have K:0<=oc:=by lia
 have g6:oc<=1000:=by lia
 have y:0<l+1:=by lia
 have f:=@NM W n k;obtain⟨w,s,A,d0⟩:=f (s:=s0) (m:=9) (by lia);obtain⟨a,o,g,B⟩:=f (s:=s) (m:=ba) (by lia);by_cases c:w<2
 ·have c':decide (w<2)=bA:=rB c;obtain⟨b,t,u,F⟩:=dr (W:=W) (n:=n) (k:=k) (s:=o) (pw K J).1 (pw K J).2;refine⟨t,_, ?_,.span a b g.1 g.2 u.1 u.2⟩;clear f A g u c y
  walk_at "!"
 rcases(by lia:w=2\/w=3\/w=4\/w=5\/w=6\/w=7\/w=8) with rfl | rfl | rfl | rfl | rfl | rfl | rfl
 ·obtain⟨e,t,M,F⟩:=f (s:=o) (m:=oc) (by lia);have x3:e<=1000:=by lia
  have x4:=M.1;have N:(2:Int) ^ (e.toNat+1)<=2 ^ oc.toNat:=by exact_mod_cast FP (by decide) (show e.toNat+1<=oc.toNat by lia)
  rw[Int.pow_succ] at N;have U:(0:Int)<2 ^ e.toNat:=X2 (by decide);refine⟨t,_, ?_,.span a (2 ^ oc.toNat-1-2 ^ e.toNat) g.1 g.2 (by lia) (by lia)⟩;clear f A g M c y N U
  walk_at "!"
 all_goals clear B g a o
 ·obtain⟨v,o,C,B⟩:=f (s:=s) (m:=2) (by lia);obtain⟨q,O,h⟩:=Zd (a:=13) (b:=no+1) C;obtain⟨a,t,g,F⟩:=f (s:=o) (m:=q) (by lia);refine⟨t,_, ?_,.leap a g.1 (by lia)⟩;clear f A g C h c y
  walk_at "!"
 ·obtain⟨a,o,g,B⟩:=f (s:=s) (m:=12) (by lia);obtain⟨b,t,u,F⟩:=f (s:=o) (m:=12) (by lia);refine⟨t,_, ?_,.back (1+a) (1+b) (by lia) (by lia) (by lia) (by lia)⟩;clear f A g u c y
  walk_at "!"
 ·obtain⟨a,o,g,B⟩:=f (s:=s) (m:=3) (by lia);refine⟨o,_, ?_,.again (1+a) (by lia) (by lia)⟩;clear f A g c y
  walk_at "!"
 ·obtain⟨a,o,g,B⟩:=f (s:=s) (m:=121) (by lia);obtain⟨b,t,u,F⟩:=f (s:=o) (m:=20) (by lia);obtain⟨v,H,C,X⟩:=f (s:=t) (m:=2) (by lia);obtain⟨q,O,h⟩:=Zd (a:=a-60) (b:=b-12) C;obtain⟨r,Y,Z,d4⟩:=f (s:=H) (m:=61-q) (by lia);refine⟨Y,_, ?_,.range q (q+r) (by lia) (by lia) (by lia)⟩;clear f A g u C Z h c y
  walk_at "!"
 ·obtain⟨a,o,g,B⟩:=f (s:=s) (m:=l+1) (by lia);obtain⟨b,t,u,F⟩:=f (s:=o) (m:=l) (by lia);obtain⟨i,rfl⟩:∃i:Nat,a=(i:Int):=⟨a.toNat,by lia⟩
  have e1:=ZP ((i:Int)+1+b) (show l+1≠0 by lia);have e2:=IT ((i:Int)+1+b) y;obtain⟨j,hj⟩:∃j:Nat,((i:Int)+1+b) % (l+1)=(j:Int):=⟨(((i:Int)+1+b) % (l+1)).toNat,by lia⟩
  refine⟨t,_, ?_,.above i j (by lia) (by lia) ?_⟩
  ·clear f A g u c e1 e2
   walk_at "!"
  ·rintro rfl
   have e3:=Int.emod_add_mul_ediv ((i:Int)+1+b) (l+1);rw[hj] at e3;have I:((i:Int)+1+b) / (l+1)=0\/1<=((i:Int)+1+b) / (l+1):=by have:=jg (show 0<=(i:Int)+1+b by lia) (show 0<=l+1 by lia);lia
   generalize ((i:Int)+1+b) / (l+1)=z at *
   rcases I with rfl | I
   ·lia
   ·have:=Int.mul_le_mul_of_nonneg_left I (show 0<=l+1 by lia)
    lia
 ·obtain⟨a,o,g,B⟩:=f (s:=s) (m:=oc) (by lia);obtain⟨b,t,u,F⟩:=f (s:=o) (m:=oc) (by lia);obtain⟨v,H,C,X⟩:=f (s:=t) (m:=4) (by lia)
  obtain⟨x,O,P⟩:∃x:fA,TC (aA (.t [.str "like",.str "against",.str "aside",.str "any"])) (.int v)=aA (.s x)/\(x="like"\/x="against"\/x="aside"\/x="any"):=by
   rcases(by lia:v=0\/v=1\/v=2\/v=3) with rfl | rfl | rfl | rfl<;>exact⟨_,rfl,by simp⟩
  refine⟨H,_, ?_,.never a b x g.1 g.2 u.1 u.2 P⟩;clear f A g u C P c y
  walk_at "!"
def ib(a b:Int):∃q,TC (aA (.l [.int a,.int b])) (.int (if g=bA then 1 else 0))=aA (.i q)/\(q=a\/q=b):=by
 cases g
 ·exact⟨a,rfl,.inl rfl⟩
 ·exact⟨b,rfl,.inr rfl⟩
structure PH(no ba oc:Int)(fs:List (Int×Int×Bool)):Prop where
 n1:1<=no
 n2:no<=7
 b1:1<=ba
 b2:ba<=4
 o1:1<=oc
 o2:oc<=12
 l1:1<=fs.length
 l2:fs.length<=3
 f:∀f∈fs,0<=f.1/\f.1<=4/\-12<=f.2.1/\f.2.1<=12
def gr{W n:Nat}{k s:Int}:∃s' no ba oc fs rs,run T W (n+3) "N" [.p (.l [.int k,.int s])]=some (.ok (.sh (.t [.int no,.int ba,.int oc,.t (fs.map toD),.t rs])),[.p (.l [.int k,.int s'])])/\PH no ba oc fs/\rs.length<=8/\∀d∈rs,wF no ba oc (fs.length:Int) d:=by
 rw[DG (fn:=uL) rfl rfl rfl];have c:=@NM W (n+1) k;obtain⟨g0,s1,_,d0⟩:=c (s:=s) (m:=2) (by lia);obtain⟨g,hg⟩:∃g,decide (g0=0)=g:=⟨_,rfl⟩
 obtain⟨q1,e1,h1⟩:=ib (g:=g) 4 7;obtain⟨v1,s2,w1,d1⟩:=c (s:=s1) (m:=q1) (by lia);obtain⟨q2,e2,h2⟩:=ib (g:=g) 2 4;obtain⟨R,s3,w2,d2⟩:=c (s:=s2) (m:=q2) (by lia);obtain⟨U,s4,w3,d3⟩:=c (s:=s3) (m:=12) (by lia);obtain⟨q4,e4,h4⟩:=ib (g:=g) 2 3;obtain⟨v4,Z,w4,d4⟩:=c (s:=s4) (m:=q4) (by lia)
 have hA:YA T.dA (run T W (n+2)) W (uL.body.take 6) ([.p (.l [.int k,.int s])]++CB uL.nl .un)=aA (.nx,[.p (.l [.int k,.int Z]),.b g,.i (1+v1),.i (1+R),.i (1+U),.i (1+v4),.o (.l []),.un,.un,.un]):=by
  unfold uL;clear h1 h2 h4 w1 w2 w3 w4 c
  walk_at "!"
 rw[bK hA];clear hA d0 d1 d2 d3 d4 hg e1 e2 e4;have y:1<=1+v1/\1+v1<=7:=by lia
 have A:1<=1+R/\1+R<=4:=by lia
 have B:1<=1+U/\1+U<=12:=by lia
 have X:1<=1+v4/\1+v4<=3:=by lia
 clear h1 h2 h4 w1 w2 w3 w4
 generalize 1+v1=no at *
 generalize 1+R=ba at *
 generalize 1+U=oc at *
 generalize 1+v4=i at *
 have H:aAc .BB [.slot 5] [.p (.l [.int k,.int Z]),.b g,.i no,.i ba,.i oc,.i i,.o (.l []),.un,.un,.un]=aA (rg i.toNat,eA):=jK rfl (by lia) (by lia)
 obtain⟨Y1,Bm,I,fs,r,x,rfl,C,h8,hl,F⟩:=CF (bind:=UA bA [7]) (body:=YA T.dA (run T W (n+2)) W XU)
  (λpre Y=>∃I fs r x,Y=[.p (.l [.int k,.int I]),.b g,.i no,.i ba,.i oc,.i i,.o (.l (fs.map toD)),r,x,.un]/\KA r=bA/\KA x=bA/\fs.length=pre.length/\∀f∈fs,0<=f.1/\f.1<=4/\-12<=f.2.1/\f.2.1<=12)
  (ds:=rg i.toNat) (λpre d post j Y hY=>by
   obtain⟨I,fs,r,x,rfl,C,h8,hl,F⟩:=hY
   have l:pre.length<i.toNat:=by
    have:=congrArg MF j
    simp at this
    lia
   refine⟨_,by simp only[HB,eB C]<;>rfl, ?_⟩;have CL:NA ((fs.map toD).length+1)=bA:=kB (by simp;lia);obtain⟨q,e,hq⟩:=ib (g:=g) 2 5;obtain⟨a,u1,ha,c1⟩:=c (s:=I) (m:=q) (by lia);obtain⟨b,u2,hb,c2⟩:=c (s:=u1) (m:=25) (by lia);obtain⟨t,u3,_,c3⟩:=c (s:=u2) (m:=4) (by lia);refine⟨[.p (.l [.int k,.int u3]),.b g,.i no,.i ba,.i oc,.i i,.o (.l ((fs++[(a,b-12,decide (t=0))]).map toD)),.sh d,.i a,.un], ?_,_,_,_,_,rfl,rfl,rfl,by simp[hl],λf J=>?_⟩
   ·unfold XU;clear F j l hl H y A B X c hq ha hb
    walk_at "!"
    simp only[BD,HC,HJ,toD]
   ·rcases QE.mp J with J | J
    ·exact F f J
    ·rw[ME.mp J]
     refine⟨ha.1, ?_, ?_, ?_⟩<;>simp only<;>lia)
  (Y:=[.p (.l [.int k,.int Z]),.b g,.i no,.i ba,.i oc,.i i,.o (.l []),.un,.un,.un]) ⟨_,[],_,_,rfl,rfl,rfl,rfl,λf h=>nomatch h⟩
 have hl:fs.length=i.toNat:=by rw[hl];simp
 obtain⟨v,s7,hv,d5⟩:=c (s:=I) (m:=9) (by lia);have LO:∀Y,aAc .BB [.val (.i v)] Y=aA (rg v.toNat,eA):=λY=>jK rfl (by lia) (by lia)
 obtain⟨Y2,el2,K,rs,t7',rfl,Cq,M,O⟩:=CF (bind:=UA bA [7]) (body:=YA T.dA (run T W (n+2)) W YU)
  (λpre Y=>∃K rs r,Y=[.p (.l [.int k,.int K]),.b g,.i no,.i ba,.i oc,.i i,.o (.l (fs.map toD)),r,x,.o (.l rs)]/\KA r=bA/\rs.length=pre.length/\∀d∈rs,wF no ba oc i d)
  (ds:=rg v.toNat) (λpre d post j Y hY=>by
   obtain⟨K,rs,r,rfl,C,hl,O⟩:=hY
   have l:pre.length<v.toNat:=by
    have:=congrArg MF j
    simp at this
    lia
   refine⟨_,by simp only[HB,eB C]<;>rfl, ?_⟩;have CL:NA (rs.length+1)=bA:=kB (by lia);obtain⟨s9,dr,er,P⟩:=lCa (W:=W) (n:=n) (k:=k) (s0:=K) ⟨⟨y,A⟩,B,X⟩;refine⟨[.p (.l [.int k,.int s9]),.b g,.i no,.i ba,.i oc,.i i,.o (.l (fs.map toD)),.sh d,x,.o (.l (rs++[dr]))], ?_,_,_,_,rfl,rfl,by simp[hl],λd hd=>(QE.mp hd).elim (O d) λq=>by rw[ME.mp q];exact P⟩;unfold YU;clear O P F j l hl H Bm LO hv d5 y A B X c
   walk_at "!")
  (Y:=[.p (.l [.int k,.int s7]),.b g,.i no,.i ba,.i oc,.i i,.o (.l (fs.map toD)),r,x,.o (.l [])]) ⟨_,[],_,rfl,C,rfl,λ_ z=>nomatch z⟩
 have u:rs.length<=8:=by rw[M];simp;lia
 have Q:(fs.length:Int)=i:=by lia
 refine⟨K,no,ba,oc,fs,rs, ?_,⟨y.1,y.2,A.1,A.2,B.1,B.2,by lia,by lia,F⟩,u,by rw[Q];exact O⟩;clear F y A B X hl M hv O u Q c C h8 Cq;unfold uL
 walk_at "!"
mutual
theorem gW:∀(n:Nat) (d:D),nB n d=bA->gE d d=bA
 |_,.nA,_=>rfl
 |_,.bl b,_=>YC b
 |_,.int i,_=>YC i
 |_,.str x,_=>YC x
 | 0,.t _,h=>(JE h).elim
 | 0,.l _,h=>(JE h).elim
 |n+1,.t a,h=>iW n a h
 |n+1,.l a,h=>iW n a h
 |n,.ins _ _ _,h=>by cases n<;>exact(JE h).elim
 |n,.FQ _ _,h=>by cases n<;>exact(JE h).elim
theorem iW:∀(n:Nat) (a:List D),a.all (nB n)=bA->sL a a=bA
 |_,[],_=>rfl
 |n,d::a,h=>by(rw[IB,IA] at h;show(gE d d&&sL a a)=bA;rw[gW n d h.1,iW n a h.2];rfl)
end
def Uk(h:nB 20 d=bA):vB .NotEq d d=aA cA:=by rw[T4 h h,gW 20 d h];rfl
def Hk(h:nB 20 d=bA):vB .Eq d d=aA bA:=by rw[AV h h,gW 20 d h]
def YY:run T W (n+1) "0" [.sh (.t [.int c,.int a,.bl turned]),.i b]=some (.ok (.i (if turned then a-b else a+b)),[.sh (.t [.int c,.int a,.bl turned]),.i b]):=by
 exists fX
 cases turned<;>walk_at "!"
def uC(a:List Int)(b:Int)(f:Int×Int×Bool):D :=
 if 0<=b-f.1/\b-f.1<a.length then .int (if f.2.2=bA then f.2.1-a.getD (b-f.1).toNat 0 else f.2.1+a.getD (b-f.1).toNat 0) else .nA
abbrev MC(fs:List (Int×Int×Bool)):List (Int×Int×Bool):=(0,0,cA)::fs
def MS{v:Nat}(h:(MC fs)[v]?=aA f) :
  run T W (n+1) "1" [.sh (oA no ba oc fs rs),.i v]=some (.ok (.sh (toD f)),[.sh (oA no ba oc fs rs),.i v]):=by
 exists rX
 cases v with
 |zero =>
  simp only[YD,cC] at h;subst h;have e:decide (((0:Nat):Int)=0)=bA:=rfl
  walk_at "!"
  all_goals (try simp only[e])
  all_goals (try walk_at "!")
  all_goals rfl
 |succ v =>
  have h:fs[v]?=aA f:=by simpa using h
  have e:decide (((v+1:Nat):Int)=0)=cA:=ZA (by lia);have a:((v+1:Nat):Int)-1=(v:Int):=by lia
  have b:L2.LB (fs.map toD) (v:Int)=aA (toD f):=L2.fL (by rw[dD,h];rfl);unfold oA
  walk_at "!"
def W3{a:List Int}{i:Int}(b:0<=i)(c:i<a.length):L2.LB (a.map D.int) i=aA (.int (a.getD i.toNat 0)):=by
 have:=CQ (ns:=a) (k:=i.toNat) (by lia)
 have e:((i.toNat:Nat):Int)=i:=by lia
 rwa[e] at this
def HZ{W n:Nat}{no ba oc:Int}{fs:List (Int×Int×Bool)}{rs:List D}{xs:List Int}{v:Nat}{b:Int}{p:Bool}{f:Int×Int×Bool}(h:(MC fs)[v]?=aA f) :
  run T W (n+2) "s" [.sh (oA no ba oc fs rs),.sh (.l (xs.map D.int)),.i v,.i b]=some (.ok (.sh (uC xs b f)),[.sh (oA no ba oc fs rs),.sh (.l (xs.map D.int)),.i v,.i b]):=by
 exists vX
 have l:=MS (W:=W) (n:=n) (no:=no) (ba:=ba) (oc:=oc) (rs:=rs) h;obtain⟨a,d,turned⟩:=f;simp only[toD] at l;by_cases c:0<=b-a/\b-a<xs.length
 ·have q:=W3 c.1 c.2;have ev:uC xs b (a,d,turned)=.int (if turned=bA then d-xs.getD (b-a).toNat 0 else d+xs.getD (b-a).toNat 0):=QA c;obtain⟨j,k⟩:=c;clear h
  walk_at "!MS YY pA"
 ·have ev:uC xs b (a,d,turned)=.nA:=pB c;by_cases j:0<=b-a
  ·have k:¬b-a<xs.length:=λz=>c ⟨j,z⟩
   have m:decide (b-a<(xs.length:Int))=cA:=ZA k;clear h c k
   walk_at "!MS YY pA"
  ·have o:decide (0<=b-a)=cA:=ZA j;clear h c j
   walk_at "!MS YY pA"
def yN:uC xs b f=.nA\/∃i,uC xs b f=.int i:=by
 unfold uC;split
 ·exact .inr ⟨_,rfl⟩
 ·exact .inl rfl
def dJ(hl:fs.length<=1000) :
  run T W (n+1) "i" [.sh (oA no ba oc fs rs),.p (.l (xs.map D.int)),.i b]=some (.ok (.ow (.l ((MC fs).map (uC xs b)))),[.sh (oA no ba oc fs rs),.p (.l (xs.map D.int)),.i b]):=by
 exists CW
 have J:NA (([]:List D).length+1+(fs.map toD).length)=bA:=kB (by simp;lia);have B:NA (0+1+fs.length)=bA:=kB (by lia)
 have key:=CF (bind:=UA cA [4,5,6]) (body:=YA T.dA (run T W n) W WU)
  (λpre Y=>∃(l:List (Int×Int×Bool)) (t u v q:Sl),pre=l.map toD/\Y=[.sh (oA no ba oc fs rs),.p (.l (xs.map D.int)),.i b,.o (.l (l.map (uC xs b))),t,u,v,q]/\KA t=bA/\KA u=bA/\KA v=bA/\KA q=bA)
  (ds:=(MC fs).map toD) (λpre d post r Y K=>by
   obtain⟨l,t,u,v,q,rfl,rfl,M,N,O,U⟩:=K;have s:d∈(MC fs).map toD:=by rw[r];simp
   obtain⟨f,_,rfl⟩:=wB.mp s
   have C:l.length<=1000:=by
    have:=congrArg MF r
    simp at this
    lia
   obtain⟨j,k,turned⟩:=f;have F:NA ((l.map (uC xs b)).length+1)=bA:=kB (by simp;lia);have H:NA (l.length+1)=bA:=kB (by lia);refine⟨[.sh (oA no ba oc fs rs),.p (.l (xs.map D.int)),.i b,.o (.l (l.map (uC xs b))),.i j,.i k,.b turned,q], ?_, ?_⟩
   ·unfold toD;simp only[HB,eB M,eB N,eB O]
   ·refine⟨[.sh (oA no ba oc fs rs),.p (.l (xs.map D.int)),.i b,.o (.l ((l++[(j,k,turned)]).map (uC xs b))),.i j,.i k,.b turned,.sh (uC xs b (j,k,turned))], ?_,l++[(j,k,turned)],_,_,_,_,by simp,rfl,rfl,rfl,rfl,rfl⟩;unfold WU;rw[BD,HC,HJ];by_cases c:0<=b-j/\b-j<xs.length
    ·have X:=W3 c.1 c.2;have ev:uC xs b (j,k,turned)=.int (if turned=bA then k-xs.getD (b-j).toNat 0 else k+xs.getD (b-j).toNat 0):=QA c;rw[ev];obtain⟨x,I⟩:=c;cases turned
     ·walk_at "!pA"
     ·walk_at "!pA"
    ·have ev:uC xs b (j,k,turned)=.nA:=pB c;rw[ev];by_cases x:0<=b-j
     ·have I:¬b-j<xs.length:=λz=>c ⟨x,z⟩
      have P:decide (b-j<(xs.length:Int))=cA:=ZA I
      walk_at "!pA"
     ·have Q:decide (0<=b-j)=cA:=ZA x
      walk_at "!pA")
  (Y:=[.sh (oA no ba oc fs rs),.p (.l (xs.map D.int)),.i b,.o (.l []),.un,.un,.un,.un]) ⟨[],_,_,_,_,rfl,rfl,rfl,rfl,rfl,rfl⟩
 obtain⟨Z,e,l,t,u,v,q,R,rfl,_⟩:=key
 have inj:∀{f g:Int×Int×Bool},toD f=toD g->f=g:=λ{f g} h=>by(obtain⟨a,b,c⟩:=f;obtain⟨a',b',c'⟩:=g;simp only[toD,D.t.injEq,ON,D.int.injEq,D.bl.injEq,and_true] at h;obtain⟨rfl,rfl,rfl⟩:=h;rfl)
 have y:l=MC fs:=((B1 (λa b h=>inj h)).mp R).symm;subst y;have A:aAc .of [.val (.sh (.t ((MC fs).map toD)))] [.sh (oA no ba oc fs rs),.p (.l (xs.map D.int)),.i b,.o (.l []),.un,.un,.un,.un]=aA ((MC fs).map toD,eA):=kK rfl;have hh:oA no ba oc fs rs=.t [.int no,.int ba,.int oc,.t (fs.map toD),.t rs]:=rfl;rw[hh] at e A ⊢;rw[HC] at e A;simp only[HC,toD] at e A ⊢
 walk_at "!pA"
def wO{bind:D->Env->Option Env}(a:Nat->Bool)(val:Nat->D)(J:Env->Prop)
  (step:∀(j:Nat) (d:D),ds[j]?=aA d->∀Y,J Y->∃g c,bind d Y=aA g/\tests g=some (.ok (.b (a j)),c)/\(a j=bA->∃v h,DB c=some (.ok v,h)/\v.d=val j/\J h)/\(a j=cA->J c)) :
  ∀Y,J Y->∃i,tD tests DB bind ds [] Y=some (.ok (((EB ds.length).filter a).map val),i)/\J i:=by
 intro Y l
 obtain⟨b,i,e,⟨rfl,k⟩,_⟩:=qL (λj b Y=>b=((EB j).filter a).map val/\J Y)
  (λj d hd b Y m=>by
   obtain⟨n,k⟩:=m;subst n;obtain⟨g,c,o,p,q,r⟩:=step j d hd Y k;refine⟨g,a j,c,o,p,λf=>?_,λf=>?_⟩
   ·obtain⟨v,h,s,t,u⟩:=q f;refine⟨v,h,s, ?_,u⟩;rw[lM,PJ,BD,t];simp[f]
   ·refine⟨?_,r f⟩;rw[lM,PJ,BD]
    simp[f]) [] Y ⟨rfl,l⟩
 exact⟨i,e,k⟩
def PQ{xs:List Int}{b:Int}(hl:fs.length<=1000) :
  run T W (n+3) "g" [.sh (oA no ba oc fs rs),.sh (.l (xs.map D.int)),.i b]=some (.ok (.ow (.l ((MC fs).map (uC xs b)))),[.sh (oA no ba oc fs rs),.sh (.l (xs.map D.int)),.i b]):=by
 exists VW
 have m:aAc .BB [.val (.i ((fs.length:Int)+1))] [.sh (oA no ba oc fs rs),.sh (.l (xs.map D.int)),.i b]=aA (rg (fs.length+1),eA):=by(refine KJ (jK (n:=(fs.length:Int)+1) rfl (by lia) (by lia)) ?_;rw[show((fs.length:Int)+1).toNat=fs.length+1 from by lia])
 obtain⟨c,v,e,⟨i,rfl,a,rfl⟩,s⟩:=qL (tests:=aC T.dA (run T W (n+2)) []) (DB:=ev T.dA (run T W (n+2)) cA QV) (bind:=UA bA [4]) (ds:=rg (fs.length+1))
  (λj c Y=>∃(i:Sl),Y=[.i b,.sh (oA no ba oc fs rs),.sh (.l (xs.map D.int)),.un,i]/\KA i=bA/\c=((MC fs).take j).map (uC xs b))
  (λj d hd c Y t=>by
   obtain⟨i,rfl,a,rfl⟩:=t
   have o:j<fs.length+1:=by
    have:=(lD.mp hd).1
    simpa using this
   have k:d=.int j:=by(rw[dD,OJ o] at hd;exact(pD hd).symm)
   subst k;obtain⟨f,l⟩:∃f,(MC fs)[j]?=aA f:=⟨_,xC (by simp;lia)⟩
   have x:=HZ (W:=W) (n:=n) (no:=no) (ba:=ba) (oc:=oc) (rs:=rs) (xs:=xs) (b:=b) (p:=bA) l;refine⟨_,bA,_,by simp only[HB,eB a]<;>rfl,tL,λ_=>?_,λz=>nomatch z⟩;refine⟨.sh (uC xs b f),[.i b,.sh (oA no ba oc fs rs),.sh (.l (xs.map D.int)),.un,.i j], ?_,_,rfl,rfl, ?_⟩
   ·unfold QV;clear hd o l m a
    walk_at "!pA"
   ·rw[GK,l,BD]
    rfl)
  [] [.i b,.sh (oA no ba oc fs rs),.sh (.l (xs.map D.int)),.un,.un] ⟨_,rfl,rfl,rfl⟩
 have q:(MC fs).take ((rg (fs.length+1)).length)=MC fs:=by(rw[QK];simp)
 rw[q] at e;have u:NA ((MC fs).map (uC xs b)).length=bA:=kB (by simp;lia);have r:NA (fs.length+1)=bA:=kB (by lia);clear s a q hl
 walk_at "!pA"
 rw[IC m]
 walk_at "!pA"
noncomputable def SG(lo a:Int):D->Bool
 |.int i=>!(decide (lo<=i)&&decide (i<=a))
 |_=>cA
def qI(n:Nat)(a:Nat->Bool):List (List Int):=((EB n).filter a).map λ(j:Nat)=>[(j:Int)]
def z9(a:n<=1000):(qI n sel).length<=1000:=by
 unfold qI;rw[pA]
 have:=HN sel (EB n)
 simp at this
 lia
def y9:((EB n).filter a).map (λ(j:Nat)=>D.t [.int j])=DA (qI n a):=by
 unfold DA qI;rw[rE];rfl
def pBa(hd:d=.nA\/∃i,d=.int i):run T W (n+1) "ak" [.sh (.ins "Range" ["low","high"] [.int lo,.int hi]),.sh d]=some (.ok (.b (SG lo hi d)),[.sh (.ins "Range" ["low","high"] [.int lo,.int hi]),.sh d]):=by
 exists LW
 rcases hd with rfl | ⟨i,rfl⟩
 ·have e:SG lo hi .nA=cA:=rfl
  walk_at "!qW pW"
 ·have e:SG lo hi (.int i)=!(decide (lo<=i)&&decide (i<=hi)):=rfl;by_cases c:lo<=i
  ·have f:decide (lo<=i)=bA:=rB c;rw[e,f,XG]
   walk_at "!qW pW"
  ·have f:decide (lo<=i)=cA:=ZA c;rw[e,f,FJ]
   walk_at "!qW pW"
def SA(fs:List (Int×Int×Bool))(a:List Int)(b:Int):List D:=(MC fs).map (uC a b)
def C6{j:Nat}(h:(SA fs a b)[j]?=aA d):d=.nA\/∃i,d=.int i:=by
 unfold SA at h;rw[dD] at h
 cases q:(MC fs)[j]? with
 |none=>rw[q] at h;cases h
 |some f =>
  rw[q] at h;cases h;exact yN
def kH:(SA fs xs b).length=fs.length+1:=by unfold SA;simp
def DX{v:Nat}(h:(MC fs)[v]?=aA f):(SA fs a b)[v]?=aA (uC a b f):=by
 unfold SA;rw[dD,h];rfl
def JO{v:Nat}(h:(MC fs)[v]?=aA f):(SA fs a b).getD v .nA=uC a b f:=by
 rw[ZG,DX h];rfl
def ft(h:v.d=.l a):aAc (.enum 0) [.val v] Y=aA (ND 0 a,eA):=by(unfold aAc;simp only[h])
def rH(lo a:Int)(fs:List (Int×Int×Bool))(c:List Int)(b:Int):List (List Int):=qI (fs.length+1) λj=>SG lo a ((SA fs c b).getD j .nA)
def oBa(hl:fs.length<=900) :
  run T W (n+4) "aj" [.sh (.ins "Range" ["low","high"] [.int lo,.int hi]),.sh (oA no ba oc fs rs),.sh (.l (xs.map D.int)),.i b]=some (.ok (.ow (.l (DA (rH lo hi fs xs b)))),[.sh (.ins "Range" ["low","high"] [.int lo,.int hi]),.sh (oA no ba oc fs rs),.sh (.l (xs.map D.int)),.i b]):=by
 exists KW
 have q:run T W (n+3) "g" _=some (.ok (.ow (.l (SA fs xs b))),_):=PQ (W:=W) (n:=n) (no:=no) (ba:=ba) (oc:=oc) (fs:=fs) (rs:=rs) (xs:=xs) (b:=b) (by lia);have f:aAc (.enum 0) [.val (.ow (.l (SA fs xs b)))] [.sh (.ins "Range" ["low","high"] [.int lo,.int hi]),.sh (oA no ba oc fs rs),.sh (.l (xs.map D.int)),.i b]=aA (ND 0 (SA fs xs b),eA):=ft rfl
 obtain⟨v,e,l,m,rfl,a,c⟩:=wO (tests:=aC T.dA (run T W (n+3)) [.iG 0 "forbids" wK [.v 3]]) (DB:=ev T.dA (run T W (n+3)) cA NV) (bind:=UA cA [2,3]) (ds:=ND 0 (SA fs xs b))
  (λj=>SG lo hi ((SA fs xs b).getD j .nA)) (λ(j:Nat)=>.t [.int j])
  (λY=>∃(l m:Sl),Y=[.sh (.ins "Range" ["low","high"] [.int lo,.int hi]),.un,l,m]/\KA l=bA/\KA m=bA)
  (λj d hd Y s=>by
   obtain⟨l,m,rfl,a,c⟩:=s
   have o:j<(SA fs xs b).length:=by
    have:=(lD.mp hd).1
    rwa[OM] at this
   have k:=xC o;rw[eW k,S2] at hd;cases hd;generalize (SA fs xs b)[j]=x at k;have h:(SA fs xs b).getD j .nA=x:=by rw[ZG,k];rfl
   have p:=C6 k;have t:=pBa (W:=W) (n:=n+2) (lo:=lo) (hi:=hi) p;refine⟨_,[.sh (.ins "Range" ["low","high"] [.int lo,.int hi]),.un,.i j,.sh x],by simp only[HB,eB a,eB c]<;>rfl, ?_,λ_=>?_,λ_=>?_⟩
   ·simp only[h];clear o k h p q f a c
    walk_at "!lS"
   ·refine⟨.sh (.t [.int j]),[.sh (.ins "Range" ["low","high"] [.int lo,.int hi]),.un,.i j,.sh x], ?_,rfl,_,_,rfl,rfl,rfl⟩;unfold NV;clear o k h p q f a c t
    walk_at "!lS"
   ·exact⟨_,_,rfl,rfl,rfl⟩)
  [.sh (.ins "Range" ["low","high"] [.int lo,.int hi]),.un,.un,.un] ⟨_,_,rfl,rfl,rfl⟩
 rw[OM,kH,y9] at e;have r:qI (fs.length+1) (λj=>SG lo hi ((SA fs xs b).getD j .nA))=rH lo hi fs xs b:=rfl;rw[r] at e
 have u:NA (DA (rH lo hi fs xs b)).length=bA:=kB (by
  have:=z9 (n:=fs.length+1) (sel:=λj=>SG lo hi ((SA fs xs b).getD j .nA)) (by lia)
  unfold DA rH;simp only[pA]
  lia)
 clear hl a c r
 walk_at "!lS"
 rw[IC f]
 walk_at "!lS"
noncomputable def ID(m v:Nat)(P:Nat->Nat->Bool):List (List Int):=((EB m).filter λj=>P v (v+1+j)).map λ(j:Nat)=>[(v:Int),((v+1+j:Nat):Int)]
def kD(n:Nat)(P:Nat->Nat->Bool):List (List Int):=(EB n).flatMap λv=>ID (n-(v+1)) v P
def xBa:ID (m+1) v P=ID m v P++(if P v (v+1+m)=bA then [[(v:Int),((v+1+m:Nat):Int)]] else []):=by
 unfold ID;rw[lM,PJ,BD];congr 1;by_cases h:P v (v+1+m)=bA
 ·simp[h]
 ·simp[h]
def Xa:(ID m v P).length<=m:=by
 unfold ID;rw[pA]
 have:=HN (λj=>P v (v+1+j)) (EB m)
 simpa using this
def M9:(EB (m+1)).flatMap (λv=>ID (n-(v+1)) v P)=(EB m).flatMap (λv=>ID (n-(v+1)) v P)++ID (n-(m+1)) m P:=by
 rw[lM,qf];simp
theorem mT:∀(m:Nat),((EB m).flatMap (λv=>ID (n-(v+1)) v P)).length<=m*n
 | 0=>by simp
 |m+1=>by(rw[M9,PB];have a:=mT (n:=n) (P:=P) m;have b:=Xa (m:=n-(m+1)) (v:=m) (P:=P);rw[P2];omega)
def K9(a:n<=30):(kD n P).length<=1000:=by
 have b:=mT (n:=n) (P:=P) n;have c:n*n<=30*30:=X1 a a;unfold kD
 lia
def iT:DA (a++b)=DA a++DA b:=by unfold DA;rw[BD]
def WG:(DA a).length=a.length:=by unfold DA;rw[pA]
def nZ(E:List D->Sl->Sl->Env)(P:Nat->Nat->Bool)(n v:Nat)(b:List (List Int))(q:b.length<=10000)(r:n<=1000)
  (k:∀(a:List D) (t:Sl) (d:D),KA t=bA->UA bA [iw] d (E a (.i v) t)=aA (E a (.i v) (.sh d)))
  (l:∀(a:List (List Int)) (w:Nat),v<w->w<n->a.length<=20000->body (E (DA a) (.i v) (.i w))=aA (.nx,E (DA (a++(if P v w=bA then [[(v:Int),(w:Int)]] else []))) (.i v) (.i w))) (t:Sl) (o:KA t=bA) :
  ∃c,iD (UA bA [iw]) body ((EB (n-(v+1))).map λ(j:Nat)=>.int ((v:Int)+1+(j:Int))) (E (DA b) (.i v) t)=aA (.nx,E (DA (b++ID (n-(v+1)) v P)) (.i v) c)/\KA c=bA:=by
 obtain⟨s,e,c,rfl,f⟩:=CF (bind:=UA bA [iw]) (λpre Y=>∃c,Y=E (DA (b++ID pre.length v P)) (.i v) c/\KA c=bA)
  (ds:=(EB (n-(v+1))).map λ(j:Nat)=>.int ((v:Int)+1+(j:Int))) (λpre d post g Y p=>by
   obtain⟨c,rfl,f⟩:=p
   have h:pre.length<n-(v+1):=by
    have:=congrArg MF g
    simp at this;omega
   have hd:d=.int (((v+1+pre.length:Nat)):Int):=by
    have i:((EB (n-(v+1))).map λ(j:Nat)=>D.int ((v:Int)+1+(j:Int)))[pre.length]?=aA d:=by rw[g];simp
    rw[dD,OJ h] at i;simp only[JD,cC] at i;rw[<- i];congr 1
   subst hd;refine⟨_,k _ _ _ f,_,l _ (v+1+pre.length) (by omega) (by omega) ?_,.i ((v+1+pre.length:Nat):Int), ?_,rfl⟩
   ·have:=Xa (m:=pre.length) (v:=v) (P:=P)
    rw[PB];omega
   ·rw[PB,VB,bH,xBa,BJ])
  (Y:=E (DA b) (.i v) t) ⟨t,by simp[ID],o⟩
 refine⟨c, ?_,f⟩;rw[e];simp
def UY(E:List D->Sl->Sl->Env)(P:Nat->Nat->Bool)(n:Nat)(o:n<=30)
  (p:∀(a:List D) (t h:Sl) (d:D),KA t=bA->UA bA [iv] d (E a t h)=aA (E a (.sh d) h))
  (q:∀(i:List (List Int)) (v:Nat) (t:Sl),v<n->i.length<=10000->KA t=bA->∃c,body (E (DA i) (.i v) t)=aA (.nx,E (DA (i++ID (n-(v+1)) v P)) (.i v) c)/\KA c=bA) (t h:Sl) (r:KA t=bA) (m:KA h=bA) :
  ∃c b,iD (UA bA [iv]) body (rg n) (E [] t h)=aA (.nx,E (DA (kD n P)) c b)/\KA c=bA/\KA b=bA:=by
 obtain⟨x,e,c,b,rfl,j,f⟩:=CF (bind:=UA bA [iv]) (λpre Y=>∃c b,Y=E (DA ((EB pre.length).flatMap λv=>ID (n-(v+1)) v P)) c b/\KA c=bA/\KA b=bA)
  (ds:=rg n) (λpre d post k Y s=>by
   obtain⟨c,b,rfl,j,f⟩:=s
   have g:pre.length<n:=by
    have:=congrArg MF k
    simp at this
    lia
   have hd:d=.int ((pre.length:Nat):Int):=by
    have l:(rg n)[pre.length]?=aA d:=by rw[k];simp
    rw[dD,OJ g] at l;simp only[JD,cC] at l;exact l.symm
   subst hd
   obtain⟨y,u,w⟩:=q ((EB pre.length).flatMap λv=>ID (n-(v+1)) v P) pre.length b g (by
    have l:=mT (n:=n) (P:=P) pre.length;have z:pre.length*n<=30*30:=X1 (by lia) o
    lia) f
   refine⟨_,p _ _ _ _ j,_,u,.i ((pre.length:Nat):Int),_, ?_,rfl,w⟩
   rw[PB,VB,bH,M9])
  (Y:=E [] t h) ⟨t,h,by simp[DA],r,m⟩
 refine⟨c,b, ?_,j,f⟩;rw[e];unfold kD;simp
noncomputable def VD:D->Bool
 |.nA=>bA
 |_=>cA
def VC(a:List D)(v w:Nat):Bool:=!VD (a.getD v .nA) && !VD (a.getD w .nA)
def vM(a:List D):Prop:=∀d∈a,d=.nA\/∃i,d=.int i
def PR:vM (SA fs xs b):=λd hd=>by
 obtain⟨f,_,rfl⟩:=wB.mp hd;exact yN
def eG(h:vM a)(b:v<a.length):∃d,L2.LB a (v:Int)=aA d/\a.getD v .nA=d/\(d=.nA\/∃i,d=.int i):=by
 refine⟨a[v],L2.fL (xC b), ?_,h _ (P1 b)⟩;rw[ZG,xC b];rfl
def Ib(hh:vM b)(hl:b.length<=30) :
  run T W (n+1) "y" [.p (.l b)]=some (.ok (.ow (.l (DA (kD b.length (VC b))))),[.p (.l b)]):=by
 exists sX
 have K:aAc .BB [.val (.i b.length)] [.p (.l b),.o (.l []),.un,.un]=aA (rg b.length,eA):=by(refine KJ (jK (n:=(b.length:Int)) rfl (by lia) (by lia)) ?_;rw[OE])
 obtain⟨M,l,e,q,k⟩:=UY (iv:=2) (body:=YA T.dA (run T W n) W lV) (λa t h=>[.p (.l b),.o (.l a),t,h]) (VC b) b.length hl
  (λa t h d f=>by simp only[HB,eB f])
  (λg v t r i f=>by
   have s:aAc .BB [.val (.i ((v:Int)+1)),.val (.i b.length)] [.p (.l b),.o (.l (DA g)),.i v,t]=aA ((EB (b.length-(v+1))).map λ(j:Nat)=>.int ((v:Int)+1+(j:Int)),eA):=by(refine KJ (bY (m:=(v:Int)+1) (n:=(b.length:Int)) rfl rfl (by lia) (by lia)) ?_;rw[show((b.length:Int)-((v:Int)+1)).toNat=b.length-(v+1) from by lia])
   obtain⟨u,N,x⟩:=nZ (iw:=3) (body:=YA T.dA (run T W n) W jV) (λa t h=>[.p (.l b),.o (.l a),t,h]) (VC b) b.length v g i (by lia)
    (λa t d f=>by simp only[HB,eB f])
    (λa w z A B=>by
     obtain⟨O,P,g1,C⟩:=eG hh r;obtain⟨Q,R,g2,F⟩:=eG hh A;have H:NA ((DA a).length+1)=bA:=kB (by rw[WG];lia);unfold jV VC;rw[g1,g2];rcases C with rfl | ⟨I,rfl⟩
     ·have e:VD .nA=bA:=rfl
      walk_at "!pA"
      all_goals (try simp only[OF])
     ·have U:VD (.int I)=cA:=rfl;rcases F with rfl | ⟨J,rfl⟩
      ·have e:VD .nA=bA:=rfl
       walk_at "!pA"
       all_goals (try simp only[OF])
      ·have e:VD (.int J)=cA:=rfl;have X:DA (a++[[(v:Int),(w:Int)]])=DA a++[.t [.int v,.int w]]:=by rw[iT];rfl
       walk_at "!pA") t f
   refine⟨u, ?_,x⟩;unfold lV
   walk_at "!pA") .un .un rfl rfl
 walk_at "!pA"
noncomputable def JB(i:Int):Int:=if i<0 then -i else i
theorem qC:(if i<0 then -i else i)=JB i:=rfl
noncomputable def gx(a:List Int)(i:Nat):Int:=a.getD i 0
def fH{xs:List Int}(h:k<xs.length):L2.LB (xs.map D.int) (k:Int)=aA (.int (gx xs k)):=CQ h
def KR(h:k<xs.length):gx xs k∈xs:=by
 unfold gx;rw[ZG,xC h];simp
noncomputable def UC(c:Bool):List (List Int):=if c=bA then [[]] else []
def fZ:xB .Mult (.l [.t []]) (.int (if c=bA then 1 else 0))=aA (.ow (.l (DA (UC c)))):=by
 cases c<;>exact DQ (by decide) (by decide) (EF (by decide))
def QG(c:Int)(a:List Int):Nat->Bool
 | 0=>cA
 |b+1=>decide (c<JB (gx a (b+1)-gx a b))
def Kv{b:Nat}(d:b<xs.length) :
  run T W (n+1) "ag" [.sh (.ins "Leap" ["most"] [.int a]),.sh h,.sh (.l (xs.map D.int)),.i b]=some (.ok (.ow (.l (DA (UC (QG a xs b))))),[.sh (.ins "Leap" ["most"] [.int a]),.sh h,.sh (.l (xs.map D.int)),.i b]):=by
 exists IW
 match b,d with
 | 0,d =>
  have e:DA (UC (QG a xs 0))=[]:=rfl;have c:decide (0<((0:Nat):Int))=cA:=rfl;clear d
  walk_at "!oW pA qC"
 |b+1,d =>
  have c:decide (0<((b+1:Nat):Int))=bA:=rB (by lia);have j:((b+1:Nat):Int)-1=((b:Nat):Int):=by lia
  have l:=fH (xs:=xs) (k:=b) (by lia);have m:=fH (xs:=xs) (k:=b+1) (by lia);have ev:QG a xs (b+1)=decide (a<JB (gx xs (b+1)-gx xs b)):=rfl;clear d;cases c1:decide (a<JB (gx xs (b+1)-gx xs b))
  ·have e:DA (UC (QG a xs (b+1)))=[]:=by rw[ev,c1];rfl
   clear ev
   walk_at "!oW pA qC"
  ·have e:DA (UC (QG a xs (b+1)))=[.t []]:=by rw[ev,c1];rfl
   clear ev
   walk_at "!oW pA qC"
def kG(m:Nat)(a:List Int)(b:Nat):List Int:=(a.drop (b-m)).take m
def xE(m:Nat)(a:List Int)(b:Nat):Bool:=decide ((m:Int)<=(b:Int))&&(kG m a b).all λz=>decide (z=gx a b)
def E5{xs:List Int}(h:m<=b)(c:b<=e)(d:e<=xs.length):mE (aA (.l (xs.map D.int))) (aA (.int ((b:Int)-(m:Int)))) (aA (.int e))=aA (.ow (.l (((xs.drop (b-m)).take (m+(e-b))).map D.int))):=by
 have a:(b:Int)-(m:Int)=((b-m:Nat):Int):=by lia
 show aA (RV.ow (.l (aAu (xs.map D.int) (aA ((b:Int)-(m:Int))) (aA (e:Int)))))=_;rw[a];unfold aAu;rw[HT.qP,HT.qP,pA,PN (by lia),PN (by lia),<- qg,<- sg,show e-(b-m)=m+(e-b) from by lia]
def RM{Z:List Int}:QC .all [.l (Z.map λz=>.bl (p z))]=aA (.b (Z.all p)):=by
 have h:yE (Z.map λz=>.bl (p z))=aA (Z.map p):=by
  induction Z with
  |nil=>rfl
  |cons z Z a=>simp[yE,a]
 show(yE _).map _=_;rw[h];simp[fU]
def Ei{m:Nat}{h:D}{xs:List Int}{b:Nat}(q:b<xs.length)(t:m<=3) :
  run T W (n+1) "ai" [.sh (.ins "Again" ["most"] [.int m]),.sh h,.sh (.l (xs.map D.int)),.i b]=some (.ok (.ow (.l (DA (UC (xE m xs b))))),[.sh (.ins "Again" ["most"] [.int m]),.sh h,.sh (.l (xs.map D.int)),.i b]):=by
 exists tW
 by_cases c:(b:Int)<(m:Int)
 ·have y:decide ((b:Int)<(m:Int))=bA:=rB c
  have e:DA (UC (xE m xs b))=[]:=by(unfold xE;rw[ZA (by lia)];rfl)
  clear c q t
  walk_at "!VM RM pA"
 ·have y:decide ((b:Int)<(m:Int))=cA:=ZA c;have u:=E5 (xs:=xs) (m:=m) (b:=b) (e:=b) (by lia) (oB _) (by lia);rw[jQ,Nat.add_zero] at u;have v:((xs.drop (b-m)).take m)=kG m xs b:=rfl;rw[v] at u
  have o:xE m xs b=(kG m xs b).all λz=>decide (z=gx xs b):=by(unfold xE;rw[rB (by lia),XG])
  have p:(kG m xs b).length<=3:=by unfold kG;rw[MI];lia
  have I:=fH (xs:=xs) (k:=b) q
  generalize kG m xs b=Z at *
  have x:aAc .of [.val (.ow (.l (Z.map D.int)))] [.sh (.ins "Again" ["most"] [.int m]),.sh h,.sh (.l (xs.map D.int)),.i b]=aA (Z.map D.int,eA):=kI rfl
  obtain⟨l,J,e,⟨r,rfl,i,rfl⟩,s⟩:=qL (tests:=aC T.dA (run T W n) []) (DB:=ev T.dA (run T W n) cA IV) (bind:=UA bA [3]) (ds:=Z.map D.int)
   (λj l Y=>∃(r:Sl),Y=[.i b,.sh (.l (xs.map D.int)),.un,r]/\KA r=bA/\l=(Z.take j).map λz=>.bl (decide (z=gx xs b)))
   (λj d hd l Y C=>by
    obtain⟨r,rfl,i,rfl⟩:=C;obtain⟨z,s,rfl⟩:∃z,Z[j]?=aA z/\D.int z=d:=by simpa using hd
    refine⟨_,bA,_,by simp only[HB,eB i]<;>rfl,tL,λ_=>?_,λz=>nomatch z⟩;refine⟨.b (decide (z=gx xs b)),[.i b,.sh (.l (xs.map D.int)),.un,.i z], ?_,_,rfl,rfl, ?_⟩
    ·unfold IV;clear hd s x i u o p c y q t v
     walk_at "!VM RM pA"
    ·rw[GK,s,BD]
     rfl)
   [] [.i b,.sh (.l (xs.map D.int)),.un,.un] ⟨_,rfl,rfl,rfl⟩
  have A:Z.take (Z.map D.int).length=Z:=by(rw[QK];simp)
  rw[A] at e;have F:NA (Z.map λz=>D.bl (decide (z=gx xs b))).length=bA:=kB (by simp;lia);have B:NA Z.length=bA:=kB (by lia);clear s i A c q t p v;cases c1:Z.all λz=>decide (z=gx xs b)
  ·have H:DA (UC (xE m xs b))=[]:=by rw[o,c1];rfl
   clear o
   walk_at "!VM RM pA"
   rw[IC x]
   walk_at "!VM RM pA"
  ·have H:DA (UC (xE m xs b))=[.t []]:=by rw[o,c1];rfl
   clear o
   walk_at "!VM RM pA"
   rw[IC x]
   walk_at "!VM RM pA"
def N4{b:Nat}(d:b<xs.length) :
  run T W (n+1) "w" [.sh (.t [.str "leap",.int a]),.p (.l (xs.map D.int)),.i b]=some (.ok (.b (QG a xs b)),[.sh (.t [.str "leap",.int a]),.p (.l (xs.map D.int)),.i b]):=by
 exists DO
 match b,d with
 | 0,d =>
  have e:QG a xs 0=cA:=rfl;have c:decide (0<((0:Nat):Int))=cA:=rfl
  walk_at "!iB pA qC"
 |b+1,d =>
  have c:decide (0<((b+1:Nat):Int))=bA:=rB (by lia);have i:((b+1:Nat):Int)-1=((b:Nat):Int):=by lia
  have j:=fH (xs:=xs) (k:=b) (by lia);have l:=fH (xs:=xs) (k:=b+1) (by lia);have ev:QG a xs (b+1)=decide (a<JB (gx xs (b+1)-gx xs b)):=rfl
  walk_at "!iB pA qC"
theorem F5:∀(l b:List Int),b.length<=(l.foldl HI b).length
 |[],_=>oB _
 |a::l,b=>by
  refine KC ?_ (F5 l _);unfold HI;split
  ·exact oB _
  ·simp
theorem J5(y:Int):∀l:List Int,decide (((l.foldl HI [y]).length:Int)=1)=l.all λz=>decide (z=y)
 |[]=>rfl
 |a::l=>by
  by_cases h:a=y
  ·subst h;have e:HI [a] a=[a]:=by unfold HI;simp
   rw[DJ,e,J5 a l];simp
  ·have e:HI [y] a=[y,a]:=by
    unfold HI;rw[pB]
    ·rfl
    ·simp;lia
   have g:=F5 l [y,a];rw[DJ,e,ZA (by simp only[VB,bH] at g;lia)];simp[h]
theorem aAC:∀l:List Int,bF (l.map D.int)=aA l
 |[]=>rfl
 |a::l=>by simp only[HC,bF,aAC l,JD]
def Bx{l:List Int}(h:l.length<=1000):p9 (aA (.l (l.map D.int)))=aA (.i ((l.foldl HI []).length:Int)):=by
 show aP (.l (l.map D.int))=_;unfold aP;simp only[aAC,QA h];unfold cf
 have e:(EB l.length).map (λi=>l.getD i 0)=l:=by
  apply List.ext_getElem
  ·simp
  ·intro i b a;simp[a]
 rw[e]
def Zl{x:Int}(a:Z≠[]):decide ((((Z++[x]).foldl HI []).length:Int)=1)=Z.all λz=>decide (z=x):=by
 match Z,a with
 |y::Z,_ =>
  have e:HI [] y=[y]:=rfl;rw[QP,DJ,e,J5];rw[List.all_append,IB,IB,EI,EH];by_cases h:x=y
  ·subst h;simp
  ·have b:¬y=x:=λz=>h z.symm
   simp[h,b]
def nGa(h:m<=b)(c:b<a.length):(a.drop (b-m)).take (m+(b+1-b))=kG m a b++[gx a b]:=by
 unfold kG gx;rw[show m+(b+1-b)=m+1 from by lia,GK,List.getElem?_drop,show b-m+m=b from by lia,ZG,xC c];rfl
def M4{m:Nat}{b:Nat}(a:b<xs.length)(i:1<=m)(j:m<=3) :
  run T W (n+1) "w" [.sh (.t [.str "again",.int m]),.p (.l (xs.map D.int)),.i b]=some (.ok (.b (xE m xs b)),[.sh (.t [.str "again",.int m]),.p (.l (xs.map D.int)),.i b]):=by
 exists DO
 by_cases c:(m:Int)<=(b:Int)
 ·have d:decide ((m:Int)<=(b:Int))=bA:=rB c
  have ev:xE m xs b=(kG m xs b).all λz=>decide (z=gx xs b):=by(unfold xE;rw[d,XG])
  have hl:(kG m xs b).length=m:=by unfold kG;rw[MI,jM];lia
  have k:=E5 (xs:=xs) (m:=m) (b:=b) (e:=b+1) (by lia) (by lia) (by lia);rw[nGa (by lia) a,show((b+1:Nat):Int)=(b:Int)+1 from by lia] at k;have o:=Bx (l:=kG m xs b++[gx xs b]) (by simp;lia);have hd:=Zl (Z:=kG m xs b) (x:=gx xs b) (λz=>by rw[z] at hl;simp at hl;lia);rw[<- ev] at hd;clear ev hl c a i j
  walk_at "!iB pA qC"
 ·have d:decide ((m:Int)<=(b:Int))=cA:=ZA c;have e:xE m xs b=cA:=by unfold xE;rw[d];rfl
  clear c a i j
  walk_at "!iB pA qC"
def rk{fs:List (Int×Int×Bool)}{b:Nat}(hl:fs.length<=1000)(j:b<a.length) :
  run T W (n+2) "e" [.sh (oA no ba oc fs rs),.sh (.t [.str "leap",.int c]),.p (.l (a.map D.int)),.i b]=some (.ok (.ow (.l (DA (UC (QG c a b))))),[.sh (oA no ba oc fs rs),.sh (.t [.str "leap",.int c]),.p (.l (a.map D.int)),.i b]):=by
 exists ZI
 walk_at "!iB dJ N4 M4 fZ pA"
def pk{W n:Nat}{fs:List (Int×Int×Bool)}{m:Nat}{b:Nat}(hl:fs.length<=1000)(i:b<a.length)(j:1<=m)(k:m<=3) :
  run T W (n+2) "e" [.sh (oA no ba oc fs rs),.sh (.t [.str "again",.int m]),.p (.l (a.map D.int)),.i b]=some (.ok (.ow (.l (DA (UC (xE m a b))))),[.sh (oA no ba oc fs rs),.sh (.t [.str "again",.int m]),.p (.l (a.map D.int)),.i b]):=by
 exists ZI
 walk_at "!iB dJ N4 M4 fZ pA"
def gCa:run T W (n+1) "h" [.sh (.t [.str "leap",a])]=some (.ok (.sh (.ins "Leap" ["most"] [a])),[.sh (.t [.str "leap",a])]):=by
 exists aJ
 walk_at "!iB"
def eCa:run T W (n+1) "h" [.sh (.t [.str "again",a])]=some (.ok (.sh (.ins "Again" ["most"] [a])),[.sh (.t [.str "again",a])]):=by
 exists aJ
 walk_at "!iB"
def XE(c d:Int)(a:List Int):Nat->Bool
 | 0=>cA
 | 1=>cA
 |b+2=>decide (c<=JB (gx a (b+1)-gx a b)) && !(decide ((gx a (b+1)-gx a b)*(gx a (b+2)-gx a (b+1))<0)&&decide (JB (gx a (b+2)-gx a (b+1))<=d))
def vj{b:Nat}(q:b<xs.length)(s:∀x∈xs,0<=x/\x<100) :
  run T W (n+1) "ah" [.sh (.ins "Back" ["leap","most"] [.int f,.int g]),.sh h,.sh (.l (xs.map D.int)),.i b]=some (.ok (.ow (.l (DA (UC (XE f g xs b))))),[.sh (.ins "Back" ["leap","most"] [.int f,.int g]),.sh h,.sh (.l (xs.map D.int)),.i b]):=by
 exists uW
 match b,q with
 | 0,q =>
  have e:DA (UC (XE f g xs 0))=[]:=rfl;have c:decide (((0:Nat):Int)<2)=bA:=rfl;clear s q
  walk_at "!WM XM pA qC"
 | 1,q =>
  have e:DA (UC (XE f g xs 1))=[]:=rfl;have c:decide (((1:Nat):Int)<2)=bA:=rfl;clear s q
  walk_at "!WM XM pA qC"
 |b+2,q =>
  have c:decide (((b+2:Nat):Int)<2)=cA:=ZA (by lia);have C:((b+2:Nat):Int)-1=((b+1:Nat):Int):=by lia
  have F:((b+2:Nat):Int)-2=((b:Nat):Int):=by lia
  have H:=fH (xs:=xs) (k:=b) (by lia);have I:=fH (xs:=xs) (k:=b+1) (by lia);have J:=fH (xs:=xs) (k:=b+2) (by lia);have z:=s _ (KR (xs:=xs) (k:=b) (by lia));have A:=s _ (KR (xs:=xs) (k:=b+1) (by lia));have B:=s _ (KR (xs:=xs) (k:=b+2) (by lia));have ev:XE f g xs (b+2)=(decide (f<=JB (gx xs (b+1)-gx xs b)) && !(decide ((gx xs (b+1)-gx xs b)*(gx xs (b+2)-gx xs (b+1))<0)&&decide (JB (gx xs (b+2)-gx xs (b+1))<=g))):=rfl
  generalize gx xs b=o at *
  generalize gx xs (b+1)=d at *
  generalize gx xs (b+2)=p2 at *
  have K:-18446744073709551616<d-o:=by lia
  have M:d-o<18446744073709551616:=by lia
  clear s q z A B;by_cases t:JB (d-o)<f
  ·have y:decide (JB (d-o)<f)=bA:=rB t;have a:decide (f<=JB (d-o))=cA:=ZA (by lia);have e:DA (UC (XE f g xs (b+2)))=[]:=by rw[ev,a];rfl
   clear ev t
   walk_at "!WM XM pA qC"
  ·have y:decide (JB (d-o)<f)=cA:=ZA t;have a:decide (f<=JB (d-o))=bA:=rB (by lia);by_cases u:(d-o)*(p2-d)<0
   ·have p:decide ((d-o)*(p2-d)<0)=bA:=rB u;by_cases v:JB (p2-d)<=g
    ·have r:decide (JB (p2-d)<=g)=bA:=rB v;have e:DA (UC (XE f g xs (b+2)))=[]:=by rw[ev,a,p,r];rfl
     clear ev t u v
     walk_at "!WM XM pA qC"
    ·have r:decide (JB (p2-d)<=g)=cA:=ZA v;have e:DA (UC (XE f g xs (b+2)))=[.t []]:=by rw[ev,a,p,r];rfl
     clear ev t u v
     walk_at "!WM XM pA qC"
   ·have p:decide ((d-o)*(p2-d)<0)=cA:=ZA u;have e:DA (UC (XE f g xs (b+2)))=[.t []]:=by rw[ev,a,p];rfl
    clear ev t u
    walk_at "!WM XM pA qC"
def pS{a h:Int}(b:a≠0):a*h<0↔(a<0/\0<h)\/(0<a/\h<0):=by
 constructor
 ·intro q;rcases LN a 0 with c | c | c
  ·rcases LN h 0 with d | d | d
   ·exact absurd (Ge c d) (by lia)
   ·rw[d,gU] at q;lia
   ·exact .inl ⟨c,d⟩
  ·exact absurd c b
  ·rcases LN h 0 with d | d | d
   ·exact .inr ⟨c,d⟩
   ·rw[d,gU] at q;lia
   ·exact absurd (Int.mul_pos c d) (by lia)
 ·rintro(⟨c,d⟩ | ⟨c,d⟩)
  ·exact He c d
  ·exact Ie c d
def yk{xs:List Int}{b:Nat}(y:b<xs.length)(m:1<=o) :
  run T W (n+1) "w" [.sh (.t [.str "back",.int o,.int v]),.p (.l (xs.map D.int)),.i b]=some (.ok (.b (XE o v xs b)),[.sh (.t [.str "back",.int o,.int v]),.p (.l (xs.map D.int)),.i b]):=by
 exists DO
 match b,y with
 | 0,y =>
  have e:XE o v xs 0=cA:=rfl;have c:decide (((0:Nat):Int)<2)=bA:=rfl
  walk_at "!iB pA qC"
 | 1,y =>
  have e:XE o v xs 1=cA:=rfl;have c:decide (((1:Nat):Int)<2)=bA:=rfl
  walk_at "!iB pA qC"
 |b+2,y =>
  have c:decide (((b+2:Nat):Int)<2)=cA:=ZA (by lia);have A:((b+2:Nat):Int)-1=((b+1:Nat):Int):=by lia
  have B:((b+2:Nat):Int)-2=((b:Nat):Int):=by lia
  have C:=fH (xs:=xs) (k:=b) (by lia);have F:=fH (xs:=xs) (k:=b+1) (by lia);have H:=fH (xs:=xs) (k:=b+2) (by lia);have ev:XE o v xs (b+2)=(decide (o<=JB (gx xs (b+1)-gx xs b)) && !(decide ((gx xs (b+1)-gx xs b)*(gx xs (b+2)-gx xs (b+1))<0)&&decide (JB (gx xs (b+2)-gx xs (b+1))<=v))):=rfl
  generalize gx xs b=i at *
  generalize gx xs (b+1)=a at *
  generalize gx xs (b+2)=p2 at *
  by_cases r:o<=JB (a-i)
  ·have j:decide (o<=JB (a-i))=bA:=rB r;have d:a-i≠0:=λz=>by rw[z] at r;simp only[JB] at r;lia
   by_cases l:a-i<0
   ·have t:decide (a-i<0)=bA:=rB l;by_cases s:0<0-(a-p2)
    ·have u:decide (0<0-(a-p2))=bA:=rB s;have q:decide ((a-i)*(p2-a)<0)=bA:=rB ((pS d).mpr (.inl ⟨l,by lia⟩));have x:JB (p2-a)=0-(a-p2):=by unfold JB;rw[pB (by lia)];lia
     rw[ev,j,q,x];clear ev l s q x r d m
     walk_at "!iB pA qC"
    ·have u:decide (0<0-(a-p2))=cA:=ZA s;have q:decide ((a-i)*(p2-a)<0)=cA:=ZA (λz=>by rcases(pS d).mp z with z | z<;>lia);rw[ev,j,q];clear ev l s q r d m
     walk_at "!iB pA qC"
   ·have t:decide (a-i<0)=cA:=ZA l;by_cases s:0<a-p2
    ·have u:decide (0<a-p2)=bA:=rB s;have q:decide ((a-i)*(p2-a)<0)=bA:=rB ((pS d).mpr (.inr ⟨by lia,by lia⟩));have x:JB (p2-a)=a-p2:=by unfold JB;rw[QA (by lia)];lia
     rw[ev,j,q,x];clear ev l s q x r d m
     walk_at "!iB pA qC"
    ·have u:decide (0<a-p2)=cA:=ZA s;have q:decide ((a-i)*(p2-a)<0)=cA:=ZA (λz=>by rcases(pS d).mp z with z | z<;>lia);rw[ev,j,q];clear ev l s q r d m
     walk_at "!iB pA qC"
  ·have j:decide (o<=JB (a-i))=cA:=ZA r;rw[ev,j];clear ev r m;by_cases l:a-i<0
   ·have t:decide (a-i<0)=bA:=rB l;clear l
    walk_at "!iB pA qC"
   ·have t:decide (a-i<0)=cA:=ZA l;clear l
    walk_at "!iB pA qC"
def qk{W n:Nat}{b:Nat}(hl:fs.length<=1000)(l:b<a.length)(f:1<=c) :
  run T W (n+2) "e" [.sh (oA no ba oc fs rs),.sh (.t [.str "back",.int c,.int d]),.p (.l (a.map D.int)),.i b]=some (.ok (.ow (.l (DA (UC (XE c d a b))))),[.sh (oA no ba oc fs rs),.sh (.t [.str "back",.int c,.int d]),.p (.l (a.map D.int)),.i b]):=by
 exists ZI
 walk_at "!iB dJ yk fZ pA"
def fCa:run T W (n+1) "h" [.sh (.t [.str "back",a,b])]=some (.ok (.sh (.ins "Back" ["leap","most"] [a,b])),[.sh (.t [.str "back",a,b])]):=by
 exists aJ
 walk_at "!iB"
def vk(hl:fs.length<=900) :
  run T W (n+2) "e" [.sh (oA no ba oc fs rs),.sh (.t [.str "range",.int lo,.int a]),.p (.l (xs.map D.int)),.i b]=some (.ok (.ow (.l (DA (rH lo a fs xs b)))),[.sh (oA no ba oc fs rs),.sh (.t [.str "range",.int lo,.int a]),.p (.l (xs.map D.int)),.i b]):=by
 exists ZI
 have hh:run T W (n+1) "i" _=some (.ok (.ow (.l (SA fs xs b))),_):=dJ (no:=no) (ba:=ba) (oc:=oc) (fs:=fs) (rs:=rs) (xs:=xs) (b:=b) (by lia)
 have h:aAc .BB [.val (.i ((SA fs xs b).length:Int))] [.sh (oA no ba oc fs rs),.sh (.t [.str "range",.int lo,.int a]),.p (.l (xs.map D.int)),.i b,.o (.l (SA fs xs b)),.un,.un,.un,.un,.un,.un]=aA (rg (fs.length+1),eA):=by(have r:=kH (fs:=fs) (xs:=xs) (b:=b);refine KJ (jK (n:=((SA fs xs b).length:Int)) rfl (by lia) (by lia)) ?_;rw[OE,r])
 obtain⟨F,e,q,rfl,g⟩:=wO (tests:=aC T.dA (run T W (n+1)) [.and (.tA .IsNot (.ix (.v 0) (.v 3)) (.c .nA)) (.not (.fE .LtE .LtE (.ix (.v 1) (.c (.int 1))) (.ix (.v 0) (.v 3)) (.ix (.v 1) (.c (.int 2)))))]) (DB:=ev T.dA (run T W (n+1)) cA JV) (bind:=UA bA [3]) (ds:=rg (fs.length+1))
  (λj=>SG lo a ((SA fs xs b).getD j .nA)) (λ(j:Nat)=>.t [.int j])
  (λY=>∃(q:Sl),Y=[.p (.l (SA fs xs b)),.sh (.t [.str "range",.int lo,.int a]),.un,q]/\KA q=bA)
  (λj d hd Y y=>by
   obtain⟨q,rfl,g⟩:=y
   have v:j<fs.length+1:=by
    have:=(lD.mp hd).1
    simpa using this
   have s:d=.int j:=by(rw[dD,OJ v] at hd;exact(pD hd).symm)
   subst s;have k:=xC (l:=SA fs xs b) (i:=j) (by rw[kH];lia);generalize (SA fs xs b)[j]'(by rw[kH];lia)=x at k;have m:(SA fs xs b).getD j .nA=x:=by rw[ZG,k];rfl
   have z:=C6 k;have A:L2.LB (SA fs xs b) (j:Int)=aA x:=L2.fL k;refine⟨_,[.p (.l (SA fs xs b)),.sh (.t [.str "range",.int lo,.int a]),.un,.i j],by simp only[HB,eB g]<;>rfl, ?_,λ_=>?_,λ_=>?_⟩
   ·simp only[m];clear hd v k m hh h g;rcases z with rfl | ⟨i,rfl⟩
    ·have e:SG lo a .nA=cA:=rfl
     walk_at "!iB"
    ·have e:SG lo a (.int i)=!(decide (lo<=i)&&decide (i<=a)):=rfl;by_cases c:lo<=i
     ·have t:decide (lo<=i)=bA:=rB c;rw[e,t,XG];clear e c
      walk_at "!iB"
     ·have t:decide (lo<=i)=cA:=ZA c;rw[e,t,FJ]
      walk_at "!iB"
   ·refine⟨.sh (.t [.int j]),[.p (.l (SA fs xs b)),.sh (.t [.str "range",.int lo,.int a]),.un,.i j], ?_,rfl,_,rfl,rfl⟩;unfold JV
    walk_at "!iB"
   ·exact⟨_,rfl,rfl⟩)
  [.p (.l (SA fs xs b)),.sh (.t [.str "range",.int lo,.int a]),.un,.un] ⟨_,rfl,rfl⟩
 have u:(rg (fs.length+1)).length=fs.length+1:=by simp
 rw[u,y9] at e;have B:qI (fs.length+1) (λj=>SG lo a ((SA fs xs b).getD j .nA))=rH lo a fs xs b:=rfl;rw[B] at e
 have C:NA (DA (rH lo a fs xs b)).length=bA:=kB (by
  have:=z9 (n:=fs.length+1) (sel:=λj=>SG lo a ((SA fs xs b).getD j .nA)) (by lia)
  unfold DA rH;simp only[pA]
  lia)
 walk_at "!iB"
 rw[IC h]
 walk_at "!iB"
def iCa:run T W (n+1) "h" [.sh (.t [.str "range",a,b])]=some (.ok (.sh (.ins "Range" ["low","high"] [a,b])),[.sh (.t [.str "range",a,b])]):=by
 exists aJ
 walk_at "!iB"
noncomputable def WH:D->D->Bool
 |.int i,.int j=>decide (i<j)
 |_,_=>cA
def yI(c:Bool)(a b:Int):List (List Int):=if c=bA then [[a,b]] else []
def cL(fs:List (Int×Int×Bool))(a:List Int)(b:Int)(v w:Nat):List (List Int):=yI (WH ((SA fs a b).getD v .nA) ((SA fs a b).getD w .nA)) (v:Int) (w:Int)
def Bi{rs:List D}{xs:List Int}{b:Int}{v w:Nat}(l:v<fs.length+1)(m:w<fs.length+1) :
  run T W (n+3) "al" [.sh (.ins "Above" ["one","other"] [.int v,.int w]),.sh (oA no ba oc fs rs),.sh (.l (xs.map D.int)),.i b]=some (.ok (.ow (.l (DA (cL fs xs b v w)))),[.sh (.ins "Above" ["one","other"] [.int v,.int w]),.sh (oA no ba oc fs rs),.sh (.l (xs.map D.int)),.i b]):=by
 exists sW
 obtain⟨f,h⟩:∃f,(MC fs)[v]?=aA f:=⟨_,xC (by simp;lia)⟩
 obtain⟨g,k⟩:∃g,(MC fs)[w]?=aA g:=⟨_,xC (by simp;lia)⟩
 have t:=HZ (W:=W) (n:=n) (no:=no) (ba:=ba) (oc:=oc) (rs:=rs) (xs:=xs) (b:=b) (p:=bA) h;have u:=HZ (W:=W) (n:=n) (no:=no) (ba:=ba) (oc:=oc) (rs:=rs) (xs:=xs) (b:=b) (p:=bA) k;unfold cL;rw[JO h,JO k];have o:=yN (xs:=xs) (b:=b) (f:=f);have q:=yN (xs:=xs) (b:=b) (f:=g)
 generalize uC xs b f=x at *
 generalize uC xs b g=r at *
 clear h k l m;rcases o with rfl | ⟨i,rfl⟩
 ·have e:DA (yI (WH .nA r) (v:Int) (w:Int))=[]:=rfl
  walk_at "!kR mR"
 ·rcases q with rfl | ⟨j,rfl⟩
  ·have e:DA (yI (WH (.int i) .nA) (v:Int) (w:Int))=[]:=rfl
   walk_at "!kR mR"
  ·by_cases c:i<j
   ·have s:decide (j<=i)=cA:=ZA (by lia)
    have e:DA (yI (WH (.int i) (.int j)) (v:Int) (w:Int))=[.t [.int v,.int w]]:=by(unfold WH;simp only;rw[rB c];rfl)
    clear c
    walk_at "!kR mR"
   ·have s:decide (j<=i)=bA:=rB (by lia)
    have e:DA (yI (WH (.int i) (.int j)) (v:Int) (w:Int))=[]:=by(unfold WH;simp only;rw[ZA c];rfl)
    clear c
    walk_at "!kR mR"
def gZ:xB .Mult (.l [.t [.int a,.int b]]) (.int (if c=bA then 1 else 0))=aA (.ow (.l (DA (yI c a b)))):=by
 cases c<;>exact DQ (by decide) (by decide) (EF (by simp))
def iZ:xB .Mult (.l [.t [.int a,.int b]]) (.int 0)=aA (.ow (.l (DA (yI cA a b)))):=DQ (by decide) (by decide) (EF (by simp))
def nk{v w:Nat}(hl:fs.length<=900)(l:v<fs.length+1)(m:w<fs.length+1) :
  run T W (n+2) "e" [.sh (oA no ba oc fs rs),.sh (.t [.str "above",.int v,.int w]),.p (.l (xs.map D.int)),.i b]=some (.ok (.ow (.l (DA (cL fs xs b v w)))),[.sh (oA no ba oc fs rs),.sh (.t [.str "above",.int v,.int w]),.p (.l (xs.map D.int)),.i b]):=by
 exists ZI
 have hh:run T W (n+1) "i" _=some (.ok (.ow (.l (SA fs xs b))),_):=dJ (W:=W) (n:=n) (no:=no) (ba:=ba) (oc:=oc) (fs:=fs) (rs:=rs) (xs:=xs) (b:=b) (by lia);obtain⟨f,h⟩:∃f,(MC fs)[v]?=aA f:=⟨_,xC (by simp;lia)⟩
 obtain⟨g,k⟩:∃g,(MC fs)[w]?=aA g:=⟨_,xC (by simp;lia)⟩
 have s:L2.LB (SA fs xs b) (v:Int)=aA (uC xs b f):=L2.fL (DX h);have t:L2.LB (SA fs xs b) (w:Int)=aA (uC xs b g):=L2.fL (DX k);unfold cL;rw[JO h,JO k];have o:=yN (xs:=xs) (b:=b) (f:=f);have q:=yN (xs:=xs) (b:=b) (f:=g)
 generalize uC xs b f=u at *
 generalize uC xs b g=r at *
 clear h k l m hl;rcases o with rfl | ⟨i,rfl⟩
 ·have e:WH .nA r=cA:=rfl
  walk_at "!iB gZ iZ"
 ·rcases q with rfl | ⟨j,rfl⟩
  ·have e:WH (.int i) .nA=cA:=rfl
   walk_at "!iB gZ iZ"
  ·have e:WH (.int i) (.int j)=decide (i<j):=rfl
   walk_at "!iB gZ iZ"
def dCa:run T W (n+1) "h" [.sh (.t [.str "above",a,b])]=some (.ok (.sh (.ins "Above" ["one","other"] [a,b])),[.sh (.t [.str "above",a,b])]):=by
 exists aJ
 walk_at "!iB"
def N_(L:List O)(d:O)(f:O->Bool)(g:O->N):((EB L.length).filter λj=>f (L.getD j d)).map (λj=>g (L.getD j d))=(L.filter f).map g:=by
 have h:L=(EB L.length).map λj=>L.getD j d:=by
  apply List.ext_getElem?
  intro i;rw[dD];by_cases a:i<L.length
  ·rw[OJ a,xC a];simp[a]
  ·rw[SK (by lia),SK (by simp;lia)];rfl
 have b:(L.filter f).map g=(((EB L.length).map λj=>L.getD j d).filter f).map g:=congrArg (λl=>(l.filter f).map g) h;rw[b,kg,rE];rfl
def Cp{n m v:Nat}{P Q:Nat->Nat->Bool}{R:List Int->Bool}(a:∀w:Nat,R [(v:Int),(w:Int)]=Q v w):(ID m v P).filter R=ID m v λv w=>P v w&&Q v w:=by
 unfold ID;rw[kg,List.filter_filter];congr 1
 apply Jf
 intro j _;simp only[Function.comp,a,Bool.and_comm]
def X5{n:Nat}{P Q:Nat->Nat->Bool}{R:List Int->Bool}(a:∀v w:Nat,R [(v:Int),(w:Int)]=Q v w):(kD n P).filter R=kD n λv w=>P v w&&Q v w:=by
 unfold kD;rw[List.filter_flatMap];congr 1
 funext v
 exact Cp (n:=n) (a v)
noncomputable def lE:D->Int
 |.int i=>i
 |_=>0
def nE(oc a b:Int):Int:=JB (a-b) % oc
def uI(d:0<oc):run T W (n+1) "n" [.i oc,.i a,.i b]=some (.ok (.i (nE oc a b)),[.i oc,.i a,.i b]):=by
 exists tX
 unfold nE
 walk_at "!qC"
def zL(a s:Int):Bool:=decide (a / 2 ^ s.toNat % 2=0)
def Np(h:0<=a):decide (KN (a / 2 ^ s.toNat) 1=0)=zL a s:=by
 have b:0<=a / 2 ^ s.toNat:=jg h (by exact Int.le_of_lt (X2 (by decide)));unfold zL;rw[Se b (by decide)];have c:(1:Int).toNat=1:=rfl;rw[c,Nat.and_one_is_mod];have d:(((a / 2 ^ s.toNat).toNat % 2:Nat):Int)=a / 2 ^ s.toNat % 2:=by lia
 rw[d]
def rEa(h:0<=a)(f:0<=s):run T W (n+1) "af" [.sh (.ins "Span" ["beat","spans"] [.int be,.int a]),.i s]=some (.ok (.b (zL a s)),[.sh (.ins "Span" ["beat","spans"] [.int be,.int a]),.i s]):=by
 exists NW
 have e:=Np (s:=s) h
 walk_at "!YM ZM qC"
def UJ(oc b:Int)(a:List D)(v w:Nat):Bool:=zL b (nE oc (lE (a.getD v .nA)) (lE (a.getD w .nA)))
def iL(oc b:Int)(a:List D):List Int->Bool
 |[v,w]=>zL b (nE oc (lE (a.getD v.toNat .nA)) (lE (a.getD w.toNat .nA)))
 |_=>cA
def fF(c d ba oc:Int)(fs:List (Int×Int×Bool))(a:List Int)(b:Int):List (List Int):=if b % ba=c then kD (fs.length+1) (λv w=>VC (SA fs a b) v w&&UJ oc d (SA fs a b) v w) else []
def GY(h:is∈kD n P):∃v w:Nat,is=[(v:Int),(w:Int)]/\v<n/\w<n/\v<w/\P v w=bA:=by
 obtain⟨v,b,h⟩:=Vf.mp h;have b:=IG.mp b;obtain⟨j,a,rfl⟩:=wB.mp h;obtain⟨a,c⟩:=kM.mp a;have a:=IG.mp a;exact⟨v,v+1+j,rfl,b,by omega,by omega,c⟩
def qEa(hl:fs.length<=20)(s:0<=a)(J:0<ba)(OR:0<oc) :
  run T W (n+4) "ae" [.sh (.ins "Span" ["beat","spans"] [.int be,.int a]),.sh (oA no ba oc fs rs),.sh (.l (xs.map D.int)),.i b]=some (.ok (.ow (.l (DA (fF be a ba oc fs xs b)))),[.sh (.ins "Span" ["beat","spans"] [.int be,.int a]),.sh (oA no ba oc fs rs),.sh (.l (xs.map D.int)),.i b]):=by
 exists MW
 by_cases c:b % ba=be
 ·have c':decide (b % ba=be)=bA:=rB c;have hc:run T W (n+3) "g" _=some (.ok (.ow (.l (SA fs xs b))),_):=PQ (W:=W) (n:=n) (no:=no) (ba:=ba) (oc:=oc) (fs:=fs) (rs:=rs) (xs:=xs) (b:=b) (by lia);have k:=PR (fs:=fs) (xs:=xs) (b:=b);have t:=kH (fs:=fs) (xs:=xs) (b:=b);have f:=Ib (W:=W) (n:=n+2) k (by lia);rw[t] at f
  have H:fF be a ba oc fs xs b=(kD (fs.length+1) (VC (SA fs xs b))).filter (iL oc a (SA fs xs b)):=by(unfold fF;rw[QA c,X5 (Q:=UJ oc a (SA fs xs b))];intro v w;rfl)
  generalize SA fs xs b=h at *
  obtain⟨L,I⟩:∃L,L=kD (fs.length+1) (VC h):=⟨_,rfl⟩
  have u:∀is∈L,∃v w:Nat,is=[(v:Int),(w:Int)]/\v<h.length/\w<h.length/\VC h v w=bA:=λis K=>by(rw[I] at K;obtain⟨v,w,M,h2,h3,_,h4⟩:=GY K;exact⟨v,w,M,by lia,by lia,h4⟩)
  have B:L.length<=1000:=by rw[I];exact K9 (by lia)
  rw[<- I] at f H;have C:aAc .of [.val (.ow (.l (DA L)))] [.sh (.ins "Span" ["beat","spans"] [.int be,.int a]),.sh (oA no ba oc fs rs),.sh (.l (xs.map D.int)),.i b,.i oc,.o (.l h)]=aA (DA L,eA):=kI rfl
  obtain⟨Yi,e,U,X,rfl,l,m⟩:=wO (tests:=aC T.dA (run T W (n+3)) [.iG 2 "forbids" wK [.call "n" [.v 1,.ix (.v 0) (.v 4),.ix (.v 0) (.v 5)]]]) (DB:=ev T.dA (run T W (n+3)) cA OV) (bind:=UA cA [4,5]) (ds:=DA L)
   (λj=>iL oc a h (L.getD j [])) (λj=>.t ((L.getD j []).map D.int))
   (λY=>∃(U X:Sl),Y=[.p (.l h),.i oc,.sh (.ins "Span" ["beat","spans"] [.int be,.int a]),.un,U,X]/\KA U=bA/\KA X=bA)
   (λj d hd Y hY=>by
    obtain⟨U,X,rfl,l,m⟩:=hY
    have Z:j<L.length:=by
     have:=(lD.mp hd).1
     rwa[WG] at this
    have hg:=xC Z
    have N:d=.t (L[j].map D.int):=by(unfold DA at hd;rw[dD,hg] at hd;exact(pD hd).symm)
    have q:L.getD j []=L[j]:=by rw[ZG,hg];rfl
    obtain⟨v,w,M,hv,hw,f⟩:=u L[j] (P1 Z);rw[M] at N q;subst N;obtain⟨d1,a1,g1,O⟩:=eG k hv;obtain⟨d2,a2,g2,P⟩:=eG k hw;unfold VC at f;rw[g1,g2,IA] at f
    obtain⟨i1,rfl⟩:∃i,d1=.int i:=by
     rcases O with rfl | O
     ·exact absurd f.1 (by decide)
     ·exact O
    obtain⟨i2,rfl⟩:∃i,d2=.int i:=by
     rcases P with rfl | P
     ·exact absurd f.2 (by decide)
     ·exact P
    have F:0<=nE oc i1 i2:=ZP _ (by lia);have Mq:=rEa (W:=W) (n:=n+2) (be:=be) s F
    have r:iL oc a h [(v:Int),(w:Int)]=zL a (nE oc i1 i2):=by(unfold iL;simp only[OE,g1,g2];rfl)
    refine⟨_,[.p (.l h),.i oc,.sh (.ins "Span" ["beat","spans"] [.int be,.int a]),.un,.i v,.i w],by simp only[HC,HJ,HB,eB l,eB m]<;>rfl, ?_,λ_=>?_,λ_=>?_⟩
    ·simp only[q,r];clear hd Z hg q r M hv hw f u B C H I hc k t O P g1 g2 l m hl s J c F
     walk_at "!ZO uI YM ZM"
    ·refine⟨.sh (.t [.int v,.int w]),[.p (.l h),.i oc,.sh (.ins "Span" ["beat","spans"] [.int be,.int a]),.un,.i v,.i w], ?_,by rw[q];rfl,_,_,rfl,rfl,rfl⟩;unfold OV;clear hd Z hg q r M hv hw f u B C H I hc k t O P g1 g2 l m hl s J c F Mq a1 a2
     walk_at "!ZO uI YM ZM"
    ·exact⟨_,_,rfl,rfl,rfl⟩)
   [.p (.l h),.i oc,.sh (.ins "Span" ["beat","spans"] [.int be,.int a]),.un,.un,.un] ⟨_,_,rfl,rfl,rfl⟩
  rw[WG,N_ L [] (iL oc a h) (λis=>D.t (is.map D.int))] at e;have R:(L.filter (iL oc a h)).map (λis=>D.t (is.map D.int))=DA (fF be a ba oc fs xs b):=by rw[H];rfl
  rw[R] at e
  have CL:NA (DA (fF be a ba oc fs xs b)).length=bA:=kB (by
   rw[WG,H]
   have:=HN (iL oc a h) L
   lia)
  clear hl l m H R u B I k t s c
  walk_at "!ZO uI YM ZM"
  rw[IC C]
  walk_at "!ZO uI YM ZM"
 ·have c':decide (b % ba=be)=cA:=ZA c;have e:fF be a ba oc fs xs b=[]:=pB c;have e2:DA []=[]:=rfl;clear c hl
  walk_at "!ZO uI YM ZM"
def EM(hh:vM a)(h:v<a.length)(i:w<a.length)(m:1<=oc)(o:oc<=12) :
  run T W (n+1) "O" [.sh (oA no ba oc fs rs),.sh (.t [.str "span",.int be,.int sp]),.p (.l ah),.p (.l a),.i v,.i w]=some (.ok (.b (VC a v w&&UJ oc sp a v w)),[.sh (oA no ba oc fs rs),.sh (.t [.str "span",.int be,.int sp]),.p (.l ah),.p (.l a),.i v,.i w]):=by
 exists pR
 obtain⟨q,r,g1,j⟩:=eG hh h;obtain⟨s,t,g2,k⟩:=eG hh i;unfold VC UJ;rw[g1,g2];have g:0<oc:=by lia
 rcases j with rfl | ⟨b,rfl⟩
 ·have e:VD .nA=bA:=rfl
  walk_at "!iB qC"
 ·have u:VD (.int b)=cA:=rfl;rcases k with rfl | ⟨c,rfl⟩
  ·have e:VD .nA=bA:=rfl
   walk_at "!iB qC"
  ·have e:VD (.int c)=cA:=rfl;have x:zL sp (nE oc (lE (.int b)) (lE (.int c)))=decide (sp / 2 ^ (JB (b-c) % oc).toNat % 2=0):=rfl;have l:0<=JB (b-c) % oc:=ZP _ (by lia);have y:JB (b-c) % oc<oc:=IT _ g;have z:JB (b-c) % oc<=1000:=by lia
   obtain⟨A,p2⟩:=pw l (by lia)
   walk_at "!iB qC"
def wk{b:Int}(hl:fs.length<=20)(u:0<ba)(C:1<=oc)(F:oc<=12) :
  run T W (n+2) "e" [.sh (oA no ba oc fs rs),.sh (.t [.str "span",.int be,.int sp]),.p (.l (xs.map D.int)),.i b]=some (.ok (.ow (.l (DA (fF be sp ba oc fs xs b)))),[.sh (oA no ba oc fs rs),.sh (.t [.str "span",.int be,.int sp]),.p (.l (xs.map D.int)),.i b]):=by
 exists ZI
 have hh:run T W (n+1) "i" _=some (.ok (.ow (.l (SA fs xs b))),_):=dJ (W:=W) (n:=n) (no:=no) (ba:=ba) (oc:=oc) (fs:=fs) (rs:=rs) (xs:=xs) (b:=b) (by lia);have x:run T W (n+1) "i" _=some (.ok (.ow (.l (SA fs xs (b-1)))),_):=dJ (W:=W) (n:=n) (no:=no) (ba:=ba) (oc:=oc) (fs:=fs) (rs:=rs) (xs:=xs) (b:=b-1) (by lia);by_cases c:b % ba=be
 ·have R:decide (b % ba=be)=bA:=rB c;have g:=PR (fs:=fs) (xs:=xs) (b:=b);have h:=kH (fs:=fs) (xs:=xs) (b:=b);have y:fF be sp ba oc fs xs b=kD (fs.length+1) (λv w=>VC (SA fs xs b) v w&&UJ oc sp (SA fs xs b) v w):=QA c;rw[<- h] at y
  generalize SA fs xs b=f at *
  generalize SA fs xs (b-1)=ah at *
  have N:aAc .BB [.val (.i f.length)] [.sh (oA no ba oc fs rs),.sh (.t [.str "span",.int be,.int sp]),.p (.l (xs.map D.int)),.i b,.o (.l f),.un,.un,.un,.o (.l ah),.o (.l []),.un]=aA (rg f.length,eA):=by(refine KJ (jK (n:=(f.length:Int)) rfl (by lia) (by lia)) ?_;rw[OE])
  obtain⟨Z,U,e,H,z⟩:=UY (iv:=5) (body:=YA T.dA (run T W (n+1)) W pO) (λa t B=>[.sh (oA no ba oc fs rs),.sh (.t [.str "span",.int be,.int sp]),.p (.l (xs.map D.int)),.i b,.o (.l f),t,.un,.un,.o (.l ah),.o (.l a),B]) (λv w=>VC f v w&&UJ oc sp f v w) f.length (by lia)
   (λa t B d r=>by simp only[HB,eB r])
   (λA v t I s r=>by
    have J:aAc .BB [.val (.i ((v:Int)+1)),.val (.i f.length)] [.sh (oA no ba oc fs rs),.sh (.t [.str "span",.int be,.int sp]),.p (.l (xs.map D.int)),.i b,.o (.l f),.i v,.un,.un,.o (.l ah),.o (.l (DA A)),t]=aA ((EB (f.length-(v+1))).map λ(j:Nat)=>.int ((v:Int)+1+(j:Int)),eA):=by(refine KJ (bY (m:=(v:Int)+1) (n:=(f.length:Int)) rfl rfl (by lia) (by lia)) ?_;rw[show((f.length:Int)-((v:Int)+1)).toNat=f.length-(v+1) from by lia])
    obtain⟨X,e3,O⟩:=nZ (iw:=10) (body:=YA T.dA (run T W (n+1)) W oO) (λa t B=>[.sh (oA no ba oc fs rs),.sh (.t [.str "span",.int be,.int sp]),.p (.l (xs.map D.int)),.i b,.o (.l f),t,.un,.un,.o (.l ah),.o (.l a),B]) (λv w=>VC f v w&&UJ oc sp f v w) f.length v A s (by lia)
     (λa t d r=>by simp only[HB,eB r])
     (λa w K P M=>by
      have Q:=EM (W:=W) (n:=n) (be:=be) (sp:=sp) (no:=no) (ba:=ba) (fs:=fs) (rs:=rs) (ah:=ah) g I P C F;have Y:NA ((DA a).length+1)=bA:=kB (by rw[WG];lia);have et:DA (a++[[(v:Int),(w:Int)]])=DA a++[.t [.int v,.int w]]:=by rw[iT];rfl
      unfold oO
      generalize (VC f v w&&UJ oc sp f v w)=q at *
      clear N J g hl I P K M s r y h hh x c C F u;cases q
      ·walk_at "!iB EM"
       all_goals (try simp only[OF])
      ·walk_at "!iB EM") t r
    refine⟨X, ?_,O⟩;unfold pO;clear N g hl I s r O y h hh x c C F u
    walk_at "!iB EM") .un .un rfl rfl
  rw[y];clear hl g H z y h c
  walk_at "!iB EM"
 ·have R:decide (b % ba=be)=cA:=ZA c;have e:fF be sp ba oc fs xs b=[]:=pB c;have e2:DA []=[]:=rfl;clear c hl
  walk_at "!iB EM"
def jCa:run T W (n+1) "h" [.sh (.t [.str "span",a,b])]=some (.ok (.sh (.ins "Span" ["beat","spans"] [a,b])),[.sh (.t [.str "span",a,b])]):=by
 exists aJ
 walk_at "!iB"
def Yu(E:List D->Sl->Sl->Env)(R:List Int->Bool)(L:List (List Int))(A:L.length<=1000)
  (n:∀(a:List D) (t f d m:_),KA t=bA->KA f=bA->UA cA [iv,iw] (.t [d,m]) (E a t f)=aA (E a (.sh d) (.sh m)))
  (o:∀is∈L,∃v w:Nat,is=[(v:Int),(w:Int)])
  (p:∀(a:List (List Int)) (v w:Nat),[(v:Int),(w:Int)]∈L->a.length<=2000->body (E (DA a) (.i v) (.i w))=aA (.nx,E (DA (a++(if R [(v:Int),(w:Int)]=bA then [[(v:Int),(w:Int)]] else []))) (.i v) (.i w))) (t f:Sl) (r:KA t=bA) (i:KA f=bA) :
  ∃g b,iD (UA cA [iv,iw]) body (DA L) (E [] t f)=aA (.nx,E (DA (L.filter R)) g b)/\KA g=bA/\KA b=bA:=by
 have key:∀(M:List (List Int)) (c:List (List Int)) (t f:Sl),(∀is∈M,is∈L)->c.length+M.length<=2000->KA t=bA->KA f=bA->∃g b,iD (UA cA [iv,iw]) body (DA M) (E (DA c) t f)=aA (.nx,E (DA (c++M.filter R)) g b)/\KA g=bA/\KA b=bA:=by
  intro M
  induction M with
  |nil=>intro c t f _ _ j k;exact⟨t,f,by simp[DA,iD],j,k⟩
  |cons is M s =>
   intro c t f l hl j k;obtain⟨v,w,rfl⟩:=o is (l is (by simp));have u:DA ([(v:Int),(w:Int)]::M)=.t [.int v,.int w]::DA M:=rfl;have x:c.length+M.length+1<=2000:=by simpa[E2] using hl
   rw[u];simp only[iD,n _ _ _ _ _ j k,p c v w (l _ (by simp)) (by lia)]
   obtain⟨g,b,e,y,z⟩:=s (c++(if R [(v:Int),(w:Int)]=bA then [[(v:Int),(w:Int)]] else [])) (.i v) (.i w) (λis h=>l is (XC _ h)) (by
    rw[PB];split
    ·simp only[VB,bH];lia
    ·simp only[bH];lia) rfl rfl
   refine⟨g,b, ?_,y,z⟩;rw[e,Q1];by_cases q:R [(v:Int),(w:Int)]=bA
   ·simp[q]
   ·simp[q]
 obtain⟨g,b,e,h⟩:=key L [] t f (λ_ h=>h) (by simp;lia) r i;exact⟨g,b,by simpa[DA] using e,h⟩
def BP(x:fA):Prop:=x="like"\/x="against"\/x="aside"\/x="any"
def jG(x:fA)(a b:Int):Bool:=if x==("like":fA) then decide (0<a*b) else if x==("against":fA) then decide (a*b<0) else if x==("aside":fA) then !(decide (a=0)==decide (b=0)) else bA
def iF:((rA "against")==(rA "like"))=cA:=by decide +kernel
def jF:((rA "aside")==(rA "like"))=cA:=by decide +kernel
def kF:((rA "any")==(rA "like"))=cA:=by decide +kernel
def mF:((rA "aside")==(rA "against"))=cA:=by decide +kernel
def nF:((rA "any")==(rA "against"))=cA:=by decide +kernel
def oF:((rA "any")==(rA "aside"))=cA:=by decide +kernel
def IF:((rA "like")==(rA "any"))=cA:=by decide +kernel
def JF:((rA "like")==(rA "aside"))=cA:=by decide +kernel
def LF:((rA "against")==(rA "any"))=cA:=by decide +kernel
def GF:((rA "against")==(rA "aside"))=cA:=by decide +kernel
def HF:((rA "aside")==(rA "any"))=cA:=by decide +kernel
def Kw(r:BP x)(s:-18446744073709551616<a)(t:a<18446744073709551616):run T W (n+1) "2" [.s x,.i a,.i b]=some (.ok (.b (jG x a b)),[.s x,.i a,.i b]):=by
 exists bX
 unfold jG;rcases r with rfl | rfl | rfl | rfl
 ·walk_at "!iF jF kF mF nF oF IF JF LF GF HF qE SF TF VF"
 ·walk_at "!iF jF kF mF nF oF IF JF LF GF HF qE SF TF VF"
 ·walk_at "!iF jF kF mF nF oF IF JF LF GF HF qE SF TF VF"
 ·walk_at "!iF jF kF mF nF oF IF JF LF GF HF qE SF TF VF"
def oa{a h:Int}:0<a*h↔(0<a/\0<h)\/(a<0/\h<0):=by
 constructor
 ·intro q;rcases LN a 0 with c | c | c
  ·rcases LN h 0 with d | d | d
   ·exact .inr ⟨c,d⟩
   ·rw[d,gU] at q;lia
   ·exact absurd (He c d) (by lia)
  ·rw[c,Int.zero_mul] at q;lia
  ·rcases LN h 0 with d | d | d
   ·exact absurd (Ie c d) (by lia)
   ·rw[d,gU] at q;lia
   ·exact .inl ⟨c,d⟩
 ·rintro(⟨c,d⟩ | ⟨c,d⟩)
  ·exact Int.mul_pos c d
  ·exact Ge c d
def ox{a h:Int}:a*h<0↔(0<a/\h<0)\/(a<0/\0<h):=by
 have:=oa (a:=a) (h:=-h)
 rw[Int.mul_neg] at this;constructor
 ·intro q;rcases this.mp (by lia) with z | z
  ·exact .inl ⟨z.1,by lia⟩
  ·exact .inr ⟨z.1,by lia⟩
 ·intro q
  have:=this.mpr (by rcases q with z | z;exact .inl ⟨z.1,by lia⟩;exact .inr ⟨z.1,by lia⟩)
  lia
def yr:vB .In (.int 0) (.t [.int a,.int b])=aA (decide (a=0)||decide (b=0)):=by
 have h:vB .In (.int 0) (.t [.int a,.int b])=aA (inD (.int 0) [.int a,.int b]):=rfl;rw[h];congr 1;unfold inD;show((a==0)||((b==0)||false))=_;rw[qE];rfl
def nK(J:BP x):run T W (n+1) "ad" [.s x,.i a,.i b]=some (.ok (.b (jG x a b)),[.s x,.i a,.i b]):=by
 exists DW
 rcases J with rfl | rfl | rfl | rfl
 ·have e:jG "like" a b=decide ((0<a/\0<b)\/(a<0/\b<0)):=by
   unfold jG;rw[QA (YC _)];exact OP.mpr oa
  rw[e];by_cases j:0<a
  ·have v:decide (0<a)=bA:=rB j;have y:decide (a<0)=cA:=ZA (by omega);by_cases z:0<b
   ·have B:decide (0<b)=bA:=rB z;rw[rB (p:=(0<a/\0<b)\/(a<0/\b<0)) (.inl ⟨j,z⟩)];clear e j z
    walk_at "!iF jF kF mF nF oF IF JF LF GF HF qE SF TF VF"
   ·have B:decide (0<b)=cA:=ZA z;rw[ZA (p:=(0<a/\0<b)\/(a<0/\b<0)) (by omega)];clear e j z
    walk_at "!iF jF kF mF nF oF IF JF LF GF HF qE SF TF VF"
  ·have v:decide (0<a)=cA:=ZA j;by_cases A:a<0
   ·have y:decide (a<0)=bA:=rB A;have C:decide ((0<a/\0<b)\/(a<0/\b<0))=decide (b<0):=OP.mpr (by omega);rw[C];clear e C j A
    walk_at "!iF jF kF mF nF oF IF JF LF GF HF qE SF TF VF"
   ·have y:decide (a<0)=cA:=ZA A;rw[ZA (p:=(0<a/\0<b)\/(a<0/\b<0)) (by omega)];clear e j A
    walk_at "!iF jF kF mF nF oF IF JF LF GF HF qE SF TF VF"
 ·have e:jG "against" a b=decide ((0<a/\b<0)\/(a<0/\0<b)):=by
   unfold jG;rw[iF,zG,QA (YC _)];exact OP.mpr ox
  rw[e];by_cases j:0<a
  ·have v:decide (0<a)=bA:=rB j;have y:decide (a<0)=cA:=ZA (by omega);by_cases z:b<0
   ·have B:decide (b<0)=bA:=rB z;rw[rB (p:=(0<a/\b<0)\/(a<0/\0<b)) (.inl ⟨j,z⟩)];clear e j z
    walk_at "!iF jF kF mF nF oF IF JF LF GF HF qE SF TF VF"
   ·have B:decide (b<0)=cA:=ZA z;rw[ZA (p:=(0<a/\b<0)\/(a<0/\0<b)) (by omega)];clear e j z
    walk_at "!iF jF kF mF nF oF IF JF LF GF HF qE SF TF VF"
  ·have v:decide (0<a)=cA:=ZA j;by_cases A:a<0
   ·have y:decide (a<0)=bA:=rB A;have C:decide ((0<a/\b<0)\/(a<0/\0<b))=decide (0<b):=OP.mpr (by omega);rw[C];clear e C j A
    walk_at "!iF jF kF mF nF oF IF JF LF GF HF qE SF TF VF"
   ·have y:decide (a<0)=cA:=ZA A;rw[ZA (p:=(0<a/\b<0)\/(a<0/\0<b)) (by omega)];clear e j A
    walk_at "!iF jF kF mF nF oF IF JF LF GF HF qE SF TF VF"
 ·have e:jG "aside" a b=((decide (a=0)||decide (b=0)) && !decide (a=b)):=by
   unfold jG;rw[jF,zG,mF,zG,QA (YC _)];by_cases I:a=0
   ·by_cases F:b=0
    ·simp[I,F]
    ·simp[I,F];omega
   ·by_cases F:b=0
    ·simp[I,F]
    ·simp[I,F]
  rw[e];have H:=yr (a:=a) (b:=b);by_cases j:a=0\/b=0
  ·have v:(decide (a=0)||decide (b=0))=bA:=by rcases j with h | h<;>simp[h]
   rw[v] at H ⊢;clear e j v
   walk_at "!iF jF kF mF nF oF IF JF LF GF HF qE SF TF VF"
  ·have v:(decide (a=0)||decide (b=0))=cA:=by
    rw[not_or] at j;simp[j.1,j.2]
   rw[v] at H ⊢;clear e j v
   walk_at "!iF jF kF mF nF oF IF JF LF GF HF qE SF TF VF"
 ·have e:jG "any" a b=bA:=by
   unfold jG;rw[kF,zG,nF,zG,oF,zG]
  rw[e]
  walk_at "!iF jF kF mF nF oF IF JF LF GF HF qE SF TF VF"
def oJ(one other oc:Int)(x:fA)(a b:List D)(v w:Nat):Bool :=
 decide (nE oc (lE (a.getD v .nA)) (lE (a.getD w .nA))=one)&&decide (nE oc (lE (b.getD v .nA)) (lE (b.getD w .nA))=other)&&jG x (lE (b.getD v .nA)-lE (a.getD v .nA)) (lE (b.getD w .nA)-lE (a.getD w .nA))
def qS(one other oc:Int)(x:fA)(a b:List D):List Int->Bool
 |[v,w]=>oJ one other oc x a b v.toNat w.toNat
 |_=>cA
def pI(one other oc:Int)(x:fA)(fs:List (Int×Int×Bool))(a:List Int)(b:Int):List (List Int):=kD (fs.length+1) (λv w=>VC (SA fs a (b-1)) v w&&oJ one other oc x (SA fs a (b-1)) (SA fs a b) v w)
def j_(h:∀v w,v<w->w<n->P v w=Q v w):kD n P=kD n Q:=by
 unfold kD;congr 1
 funext v
 unfold ID;congr 1
 apply Jf
 intro j a;have a:=IG.mp a;exact h v (v+1+j) (by lia) (by lia)
def k_(h:∀v w,v<w->w<n->P v w=cA):kD n P=[]:=by
 rw[j_ (Q:=λ_ _=>cA) h];unfold kD ID;simp
structure eO(hs ah:List D):Prop where
 h1:vM hs
 h2:vM ah
 len:ah.length=hs.length
 bd:∀v i,hs.getD v .nA=.int i->-100<=i/\i<=100
 zj:∀v i,ah.getD v .nA=.int i->-100<=i/\i<=100
 on:∀v,VD (ah.getD v .nA)=cA->VD (hs.getD v .nA)=cA
def EX{fs:List (Int×Int×Bool)}{xs:List Int}{b:Int}{v:Nat}:(∃f∈MC fs,∀b:Int,(SA fs xs b).getD v .nA=uC xs b f)\/∀b:Int,(SA fs xs b).getD v .nA=.nA:=by
 cases h:(MC fs)[v]? with
 |some f=>exact .inl ⟨f,aH h,λb=>JO h⟩
 |none =>
  refine .inr λb=>?_
  unfold SA;rw[ZG,dD,h];rfl
def M6{no ba oc:Int}{fs:List (Int×Int×Bool)}{xs:List Int}{b:Nat}(j:PH no ba oc fs)(d:∀x∈xs,0<=x/\x<no)(p:b<xs.length):eO (SA fs xs (b:Int)) (SA fs xs ((b:Int)-1)):=by
 have n2:=j.n2
 have l:∀f∈MC fs,0<=f.1/\-12<=f.2.1/\f.2.1<=12:=λf a=>by
  rcases mD.mp a with rfl | a
  ·decide
  ·have:=j.f f a
   omega
 have m:∀(c:Int) v i,(SA fs xs c).getD v .nA=.int i->-100<=i/\i<=100:=λc v i h=>by
  rcases EX (fs:=fs) (xs:=xs) (b:=c) (v:=v) with ⟨f,a,e⟩ | e
  ·rw[e c] at h;unfold uC at h;split at h
   ·rename_i n;have h:=D.int.inj h
    have o:xs.getD (c-f.1).toNat 0∈xs:=by
     have g:(c-f.1).toNat<xs.length:=by omega
     exact KR (k:=(c-f.1).toNat) g
    have:=d _ o
    have:=l f a
    split at h<;>omega
   ·cases h
  ·rw[e c] at h;cases h
 refine⟨PR,PR,by rw[kH,kH],m _,m _,λv h=>?_⟩;rcases EX (fs:=fs) (xs:=xs) (b:=(b:Int)) (v:=v) with ⟨f,a,e⟩ | e
 ·rw[e] at h ⊢;unfold uC at h ⊢;split at h
  ·rename_i n
   have:=l f a
   rw[QA (by omega)];rfl
  ·cases h
 ·rw[e] at h;cases h
def kr(H:eO c d)(g:v<c.length)(i:w<c.length)(h:VC d v w=bA):∃a e b f:Int,L2.LB d (v:Int)=aA (.int a)/\L2.LB d (w:Int)=aA (.int e)/\L2.LB c (v:Int)=aA (.int b)/\L2.LB c (w:Int)=aA (.int f)/\d.getD v .nA=.int a/\d.getD w .nA=.int e/\c.getD v .nA=.int b/\c.getD w .nA=.int f/\(-100<=a/\a<=100)/\(-100<=b/\b<=100):=by
 unfold VC at h;rw[IA] at h;obtain⟨u,m,g1,n⟩:=eG H.h2 (by rw[H.len];exact g);obtain⟨x,o,g2,p⟩:=eG H.h2 (v:=w) (by rw[H.len];exact i);obtain⟨y,q,g3,r⟩:=eG H.h1 g;obtain⟨z,s,j,t⟩:=eG H.h1 i;have k:=H.on v (by simpa using h.1);have l:=H.on w (by simpa using h.2);rw[g1,g2] at h;rw[g3] at k;rw[j] at l;rcases n with rfl | ⟨a,rfl⟩
 ·exact absurd h.1 (by decide)
 rcases p with rfl | ⟨e,rfl⟩
 ·exact absurd h.2 (by decide)
 rcases r with rfl | ⟨b,rfl⟩
 ·exact absurd k (by decide)
 rcases t with rfl | ⟨f,rfl⟩
 ·exact absurd l (by decide)
 exact⟨a,e,b,f,m,o,q,s,g1,g2,g3,j,H.zj v a g1,H.bd v b g3⟩
def px(hl:fs.length<=20)(OR:0<oc)(X:BP x)(H:eO (SA fs xs b) (SA fs xs (b-1))) :
  run T W (n+4) "am" [.sh (.ins "Never" ["one","other","way"] [.int one,.int other,.str x]),.sh (oA no ba oc fs rs),.sh (.l (xs.map D.int)),.i b]=some (.ok (.ow (.l (DA (pI one other oc x fs xs b)))),[.sh (.ins "Never" ["one","other","way"] [.int one,.int other,.str x]),.sh (oA no ba oc fs rs),.sh (.l (xs.map D.int)),.i b]):=by
 exists JW
 have Y:run T W (n+3) "g" _=some (.ok (.ow (.l (SA fs xs (b-1)))),_):=PQ (W:=W) (n:=n) (no:=no) (ba:=ba) (oc:=oc) (fs:=fs) (rs:=rs) (xs:=xs) (b:=b-1) (by lia);have Z:run T W (n+3) "g" _=some (.ok (.ow (.l (SA fs xs b))),_):=PQ (W:=W) (n:=n) (no:=no) (ba:=ba) (oc:=oc) (fs:=fs) (rs:=rs) (xs:=xs) (b:=b) (by lia);have s:=kH (fs:=fs) (xs:=xs) (b:=b-1);have p:=kH (fs:=fs) (xs:=xs) (b:=b);have u:=Ib (W:=W) (n:=n+2) H.h2 (by lia);rw[s] at u
 have O:pI one other oc x fs xs b=(kD (fs.length+1) (VC (SA fs xs (b-1)))).filter (qS one other oc x (SA fs xs (b-1)) (SA fs xs b)):=by(unfold pI;rw[X5 (Q:=oJ one other oc x (SA fs xs (b-1)) (SA fs xs b))];intro v w;rfl)
 generalize SA fs xs b=I at *
 generalize SA fs xs (b-1)=J at *
 obtain⟨L,K⟩:∃L,L=kD (fs.length+1) (VC J):=⟨_,rfl⟩
 have c:∀is∈L,∃v w:Nat,is=[(v:Int),(w:Int)]/\v<I.length/\w<I.length/\VC J v w=bA:=λis f=>by(rw[K] at f;obtain⟨v,w,M,h2,h3,_,h4⟩:=GY f;exact⟨v,w,M,by lia,by lia,h4⟩)
 have y:L.length<=1000:=by rw[K];exact K9 (by lia)
 rw[<- K] at u O;have LO:aAc .of [.val (.ow (.l (DA L)))] [.sh (.ins "Never" ["one","other","way"] [.int one,.int other,.str x]),.sh (oA no ba oc fs rs),.sh (.l (xs.map D.int)),.i b,.i oc,.o (.l J),.o (.l I),.o (.l []),.un,.un]=aA (DA L,eA):=kI rfl
 obtain⟨t8,t9,e,h8,h9⟩:=Yu (iv:=8) (iw:=9) (body:=YA T.dA (run T W (n+3)) W aV) (λa t t2=>[.sh (.ins "Never" ["one","other","way"] [.int one,.int other,.str x]),.sh (oA no ba oc fs rs),.sh (.l (xs.map D.int)),.i b,.i oc,.o (.l J),.o (.l I),.o (.l a),t,t2]) (qS one other oc x J I) L y
  (λa t t2 d d2 ht NO=>by simp only[HB,eB ht,eB NO])
  (λis f=>by obtain⟨v,w,h,_⟩:=c is f;exact⟨v,w,h⟩)
  (λa v w hm fN=>by
   obtain⟨P,R,M,hv,hw,r⟩:=c _ hm;have ur:P=v:=by have:=(cQ M).1;lia
   have vr:R=w:=by have:=(cQ (cQ M).2).1;lia
   subst ur vr;obtain⟨z,A,B,C,a1,a2,a3,a4,g1,g2,g3,g4,q1,q2⟩:=kr H hv hw r;have CL:NA ((DA a).length+1)=bA:=kB (by rw[WG];lia);have et:DA (a++[[(P:Int),(R:Int)]])=DA a++[.t [.int P,.int R]]:=by rw[iT];rfl
   have en:qS one other oc x J I [(P:Int),(R:Int)]=(decide (nE oc z A=one)&&decide (nE oc B C=other)&&jG x (B-z) (C-A)):=by(unfold qS oJ;simp only[OE,g1,g2,g3,g4];rfl)
   have hmv:=Kw (W:=W) (n:=n+2) (a:=B-z) (b:=C-A) X (by lia) (by lia);rw[en];unfold aV;clear M hv hw r hm fN c y LO O K u Y Z s p H g1 g2 g3 g4 q1 q2 hl en X;by_cases N:nE oc z A=one
   ·have i:decide (nE oc z A=one)=bA:=rB N;by_cases U:nE oc B C=other
    ·have F:decide (nE oc B C=other)=bA:=rB U;rw[i,F,XG,XG]
     generalize jG x (B-z) (C-A)=q at *
     clear N U;cases q
     ·walk_at "!AO BO CO uI"
      all_goals (try simp only[OF])
     ·walk_at "!AO BO CO uI"
    ·have F:decide (nE oc B C=other)=cA:=ZA U;rw[i,F,XG,FJ];clear N U
     walk_at "!AO BO CO uI"
     all_goals (try simp only[OF])
   ·have i:decide (nE oc z A=one)=cA:=ZA N;rw[i,FJ,FJ];clear N
    walk_at "!AO BO CO uI"
    all_goals (try simp only[OF])) .un .un rfl rfl
 rw[O];clear hl h8 h9 O c y K s p H X
 walk_at "!AO BO CO uI"
def yj(H:eO o r)(t:v<o.length)(u:w<o.length)(M:0<oc)(N:BP x) :
  run T W (n+2) "O" [.sh (oA no ba oc fs rs),.sh (.t [.str "never",.int one,.int other,.str x]),.p (.l r),.p (.l o),.i v,.i w]=some (.ok (.b (VC r v w&&oJ one other oc x r o v w)),[.sh (oA no ba oc fs rs),.sh (.t [.str "never",.int one,.int other,.str x]),.p (.l r),.p (.l o),.i v,.i w]):=by
 exists pR
 obtain⟨y,a1,g1,K⟩:=eG H.h2 (by rw[H.len];exact t);obtain⟨z,a2,g2,A⟩:=eG H.h2 (v:=w) (by rw[H.len];exact u);obtain⟨d3,a3,g3,P⟩:=eG H.h1 t;obtain⟨d4,a4,B,Q⟩:=eG H.h1 u;have C:=H.on v;have F:=H.on w;unfold VC oJ;rw[g1,g2,g3,B];rw[g1,g3] at C;rw[g2,B] at F;have q:=λ(a b:Int)=>nK (W:=W) (n:=n) (x:=x) (a:=a) (b:=b) N
 have eN:VD .nA=bA:=rfl;have s:∀i,VD (.int i)=cA:=λ_=>rfl
 rcases P with rfl | ⟨j,rfl⟩
 ·have R:VD y=bA:=by
   cases h:VD y with
   |true=>rfl
   |false=>exact absurd (C h) (by decide)
  rw[R]
  walk_at "!iB qC nK"
 rcases Q with rfl | ⟨k,rfl⟩
 ·have U:VD z=bA:=by
   cases h:VD z with
   |true=>rfl
   |false=>exact absurd (F h) (by decide)
  rw[U]
  walk_at "!iB qC nK"
 rcases K with rfl | ⟨l,rfl⟩
 ·clear A q s
  walk_at "!iB qC nK"
 rcases A with rfl | ⟨m,rfl⟩
 ·rw[s]
  walk_at "!iB qC nK"
 rw[s,s];have X:lE (.int l)=l:=rfl;have Y:lE (.int m)=m:=rfl;have Z:lE (.int j)=j:=rfl;have e4:lE (.int k)=k:=rfl;rw[X,Y,Z,e4];unfold nE;have hm:=q (j-l) (k-m);by_cases I:JB (j-k) % oc=other
 ·have f:decide (JB (j-k) % oc=other)=bA:=rB I;by_cases J:JB (l-m) % oc=one
  ·have g:decide (JB (l-m) % oc=one)=bA:=rB J;rw[g,f]
   walk_at "!iB qC nK"
  ·have g:decide (JB (l-m) % oc=one)=cA:=ZA J;rw[g]
   walk_at "!iB qC nK"
 ·have f:decide (JB (j-k) % oc=other)=cA:=ZA I;rw[f]
  walk_at "!iB qC nK"
def uk{rs:List D}{xs:List Int}{b:Nat}(hl:fs.length<=20)(y:0<ba)(I:0<oc)(z:BP x)(H:eO (SA fs xs (b:Int)) (SA fs xs ((b:Int)-1)))(A:∀f∈MC fs,0<=f.1) :
  run T W (n+3) "e" [.sh (oA no ba oc fs rs),.sh (.t [.str "never",.int one,.int other,.str x]),.p (.l (xs.map D.int)),.i b]=some (.ok (.ow (.l (DA (pI one other oc x fs xs b)))),[.sh (oA no ba oc fs rs),.sh (.t [.str "never",.int one,.int other,.str x]),.p (.l (xs.map D.int)),.i b]):=by
 exists ZI
 have hh:run T W (n+2) "i" _=some (.ok (.ow (.l (SA fs xs (b:Int)))),_):=dJ (W:=W) (n:=n+1) (no:=no) (ba:=ba) (oc:=oc) (fs:=fs) (rs:=rs) (xs:=xs) (b:=(b:Int)) (by lia);have r:run T W (n+2) "i" _=some (.ok (.ow (.l (SA fs xs ((b:Int)-1)))),_):=dJ (W:=W) (n:=n+1) (no:=no) (ba:=ba) (oc:=oc) (fs:=fs) (rs:=rs) (xs:=xs) (b:=(b:Int)-1) (by lia);by_cases c:b=0
 ·subst c;have P:decide (((0:Nat):Int)=0)=bA:=rfl
  have e:pI one other oc x fs xs ((0:Nat):Int)=[]:=by
   unfold pI
   apply k_
   intro v w _ _
   have:VD ((SA fs xs (((0:Nat):Int)-1)).getD v .nA)=bA:=by
    rcases EX (fs:=fs) (xs:=xs) (b:=0) (v:=v) with ⟨f,Z,e⟩ | e
    ·rw[e];unfold uC;rw[pB (by have:=A f Z;lia)];rfl
    ·rw[e];rfl
   unfold VC;rw[this];rfl
  have Q:DA []=[]:=rfl;rw[e,Q];clear e Q hl H z A;have z0:((0:Nat):Int)=0:=rfl;rw[z0] at hh r P ⊢
  walk_at "!iB"
 ·have P:decide ((b:Int)=0)=cA:=ZA (by lia);have l:=kH (fs:=fs) (xs:=xs) (b:=(b:Int));unfold pI;rw[<- l]
  generalize SA fs xs (b:Int)=g at *
  generalize SA fs xs ((b:Int)-1)=h at *
  have R:aAc .BB [.val (.i g.length)] [.sh (oA no ba oc fs rs),.sh (.t [.str "never",.int one,.int other,.str x]),.p (.l (xs.map D.int)),.i b,.o (.l g),.un,.un,.un,.o (.l h),.o (.l []),.un]=aA (rg g.length,eA):=by(refine KJ (jK (n:=(g.length:Int)) rfl (by lia) (by lia)) ?_;rw[OE])
  obtain⟨t',t2',e,J,B⟩:=UY (iv:=5) (body:=YA T.dA (run T W (n+2)) W pO) (λa t F=>[.sh (oA no ba oc fs rs),.sh (.t [.str "never",.int one,.int other,.str x]),.p (.l (xs.map D.int)),.i b,.o (.l g),t,.un,.un,.o (.l h),.o (.l a),F]) (λv w=>VC h v w&&oJ one other oc x h g v w) g.length (by lia)
   (λa t F d s=>by simp only[HB,eB s])
   (λC v t K u s=>by
    have M:aAc .BB [.val (.i ((v:Int)+1)),.val (.i g.length)] [.sh (oA no ba oc fs rs),.sh (.t [.str "never",.int one,.int other,.str x]),.p (.l (xs.map D.int)),.i b,.o (.l g),.i v,.un,.un,.o (.l h),.o (.l (DA C)),t]=aA ((EB (g.length-(v+1))).map λ(j:Nat)=>.int ((v:Int)+1+(j:Int)),eA):=by(refine KJ (bY (m:=(v:Int)+1) (n:=(g.length:Int)) rfl rfl (by lia) (by lia)) ?_;rw[show((g.length:Int)-((v:Int)+1)).toNat=g.length-(v+1) from by lia])
    obtain⟨t3,e3,U⟩:=nZ (iw:=10) (body:=YA T.dA (run T W (n+2)) W oO) (λa t F=>[.sh (oA no ba oc fs rs),.sh (.t [.str "never",.int one,.int other,.str x]),.p (.l (xs.map D.int)),.i b,.o (.l g),t,.un,.un,.o (.l h),.o (.l a),F]) (λv w=>VC h v w&&oJ one other oc x h g v w) g.length v C u (by lia)
     (λa t d s=>by simp only[HB,eB s])
     (λa w N X O=>by
      have Y:=yj (W:=W) (n:=n) (one:=one) (other:=other) (no:=no) (ba:=ba) (fs:=fs) (rs:=rs) H K X I z;have CL:NA ((DA a).length+1)=bA:=kB (by rw[WG];lia);have et:DA (a++[[(v:Int),(w:Int)]])=DA a++[.t [.int v,.int w]]:=by rw[iT];rfl
      unfold oO
      generalize (VC h v w&&oJ one other oc x h g v w)=q at *
      clear R M hl K X N O u s l hh r c H z y A;cases q
      ·walk_at "!iB"
       all_goals (try simp only[OF])
      ·walk_at "!iB") t s
    refine⟨t3, ?_,U⟩;unfold pO;clear R hl K u s U l hh r c H z y A
    walk_at "!iB") .un .un rfl rfl
  clear hl J B l c H z A
  walk_at "!iB"
def hCa:run T W (n+1) "h" [.sh (.t [.str "never",a,b,c])]=some (.ok (.sh (.ins "Never" ["one","other","way"] [a,b,c])),[.sh (.t [.str "never",a,b,c])]):=by
 exists aJ
 walk_at "!iB"
noncomputable def mx(m y:Int):Int:=if y > m then y else m
theorem mS:(if y > m then y else m)=mx m y:=rfl
def RG(fs:List (Int×Int×Bool)):Int:=(fs.map λf=>1+f.1).foldl mx 3
def S8:List (Int×Int×Bool)->Int
 |[]=>0
 |f::r=>(r.map λf=>f.1).foldl mx f.1
theorem d9:∀(l:List (Int×Int×Bool)) (a c:Int),(l.map λf=>1+f.1).foldl mx (mx c (1+a))=mx c (1+(l.map λf=>f.1).foldl mx a)
 |[],_,_=>rfl
 |f::l,a,c=>by
  have h:mx (mx c (1+a)) (1+f.1)=mx c (1+mx a f.1):=by
   unfold mx
   split<;>split<;>split<;>first | lia | (split<;>lia)
  rw[HC,DJ,h,d9 l (mx a f.1) c,HC,DJ]
def Aw(h:1<=fs.length):mx 3 (1+S8 fs)=RG fs:=by
 match fs,h with
 |f::r,_=>exact(d9 r f.1 3).symm
theorem FY:∀(l:List Int) (a:Int),a<=l.foldl mx a
 |[],a=>Int.le_refl a
 |b::l,a=>eU (by unfold mx;split<;>lia) (FY l (mx a b))
theorem f9:∀(l:List Int) (a:Int),a<=b->(∀x∈l,x<=b)->l.foldl mx a<=b
 |[],_,h,_=>h
 |x::l,a,h,hl=>f9 l (mx a x) (by have:=hl x (AD ..);unfold mx;split<;>lia) λy c=>hl y (XC _ c)
theorem e9:∀(l:List Int) (a:Int),x∈l->x<=l.foldl mx a
 |y::l,a,h=>by
  rcases mD.mp h with rfl | h
  ·exact eU (by unfold mx;split<;>lia) (FY l (mx a x))
  ·exact e9 l (mx a y) h
def Bw(h:f∈fs):1+f.1<=RG fs:=e9 _ 3 (wB.mpr ⟨f,h,rfl⟩)
def zw(h:PH no ba oc fs):∃m:Nat,RG fs=(m:Int)/\3<=m/\m<=5:=by
 have c:3<=RG fs:=FY _ _
 have d:RG fs<=5:=f9 _ _ (by decide) λx a=>by
  obtain⟨f,b,rfl⟩:=wB.mp a
  have:=(h.f f b).2.1
  lia
 exact⟨(RG fs).toNat,by lia,by lia,by lia⟩
def vp:QC .max [.l ((a::l).map D.int)]=aA (.i (l.foldl mx a)):=by
 show(match bF ((a::l).map D.int) with
  |some (i::r)=>aA (RV.sh (.int (r.foldl (λm y=>if y > m then y else m) i)))
  |_=>eA)=_
 rw[aAC];rfl
def g9(i:1<=fs.length)(u:fs.length<=3) :
  run T W (n+1) "B" [.sh (oA no ba oc fs rs)]=some (.ok (.i (RG fs)),[.sh (oA no ba oc fs rs)]):=by
 exists aX
 have l:aAc .of [.val (.sh (.t (fs.map toD)))] [.sh (oA no ba oc fs rs)]=aA (fs.map toD,eA):=kK rfl
 obtain⟨a,v,e,⟨h,rfl,g,rfl⟩,_⟩:=qL (tests:=aC T.dA (run T W n) []) (DB:=ev T.dA (run T W n) cA SV) (bind:=UA bA [1]) (ds:=fs.map toD)
  (λj a Y=>∃(h:Sl),Y=[.un,h]/\KA h=bA/\a=((fs.take j).map λf=>f.1).map D.int)
  (λj d hd a Y m=>by
   obtain⟨h,rfl,g,rfl⟩:=m;obtain⟨f,o,rfl⟩:∃f,fs[j]?=aA f/\toD f=d:=by simpa using hd
   refine⟨_,bA,_,by simp only[HB,eB g]<;>rfl,tL,λ_=>?_,λz=>nomatch z⟩;refine⟨.i f.1,[.un,.sh (toD f)], ?_,_,rfl,rfl, ?_⟩
   ·unfold SV toD
    walk_at "!pA mS"
   ·rw[GK,o,BD,BD]
    rfl)
  [] [.un,.un] ⟨_,rfl,rfl,rfl⟩
 have p:fs.take (fs.map toD).length=fs:=by(rw[QK];simp)
 rw[p] at e;have q:NA ((fs.map λf=>f.1).map D.int).length=bA:=kB (by simp;lia);have k:NA fs.length=bA:=kB (by lia)
 have s:QC .max [.l ((fs.map λf=>f.1).map D.int)]=aA (.i (S8 fs)):=by
  match fs,i with
  |f::r,_=>exact vp
 have t:=Aw i
 walk_at "!pA mS"
 rw[IC l]
 walk_at "!pA mS"
 all_goals (rw[RC rfl];walk_at "!pA mS")
def jT(m ba n:Int):Int:=if n<=m then n else m+(n-m) % ba
noncomputable def FF(m:Nat)(a:List Int):List Int:=a.drop (a.length-m)
def Wd(h:n<=m):jT m ba n=n:=QA h
def Xd(h:¬n<=m):jT m ba n=m+(n-m) % ba:=pB h
def mGa(h:x∈FF m a):x∈a:=List.mem_of_mem_drop h
def Yd(a:PH no ba oc fs)(d:RG fs=(m:Int)) :
  run T W (n+2) "3" [.sh (oA no ba oc fs rs),.i k]=some (.ok (.i (jT m ba k)),[.sh (oA no ba oc fs rs),.i k]):=by
 exists xX
 have b:=g9 (W:=W) (n:=n) (no:=no) (ba:=ba) (oc:=oc) (rs:=rs) a.l1 a.l2;rw[d] at b;have g1:0<ba:=by have:=a.b1;lia
 have g2:ba<100000000000000000000000000000000000000000000000000000000000000000000000000000000:=by have:=a.b2;lia
 by_cases c:k<=(m:Int)
 ·have e:decide (k<=(m:Int))=bA:=rB c;rw[Wd c]
  walk_at "!"
 ·have e:decide (k<=(m:Int))=cA:=ZA c;rw[Xd c]
  walk_at "!"
def Ul{m:Nat}(h:1<=m):mE (aA (.l (xs.map D.int))) (aA (.int (-(m:Int)))) eA=aA (.ow (.l ((FF m xs).map D.int))):=by
 show aA (RV.ow (.l (aAu (xs.map D.int) (aA (-(m:Int))) eA)))=_;unfold aAu FF
 have e:HT.dB (xs.map D.int).length 0 (aA (-(m:Int)))=xs.length-m:=by
  unfold HT.dB;rw[pA];show(if -(m:Int)<0 then _ else _)=_;rw[QA (by lia)]
  lia
 rw[e,HT.HS,pA,<- qg,<- sg,QK (by rw[jM];lia)]
def vP(m:Nat)(ba:Int)(a:List Int):D:=.t [.int (jT m ba a.length),.t ((FF m a).map D.int)]
def cFa{m:Nat}{xs:List Int}(a:PH no ba oc fs)(b:RG fs=(m:Int))(d:3<=m) :
  run T W (n+3) "C" [.sh (oA no ba oc fs rs),.sh (.l (xs.map D.int))]=some (.ok (.sh (vP m ba xs)),[.sh (oA no ba oc fs rs),.sh (.l (xs.map D.int))]):=by
 exists uX
 unfold vP;have c:=g9 (W:=W) (n:=n+1) (no:=no) (ba:=ba) (oc:=oc) (rs:=rs) a.l1 a.l2;rw[b] at c;have e:=Yd (W:=W) (n:=n) (rs:=rs) (k:=(xs.length:Int)) a b;have h:=Ul (xs:=xs) (m:=m) (by lia);clear a b d
 walk_at "!Yd pA"
def NI(m:Nat)(ba:Int)(c:List Int->Nat->List (List Int)):Prop:=∀(a b u:List Int),u.length=m+1->(a.length:Int) % ba=(b.length:Int) % ba->c (a++u) (a.length+m)=c (b++u) (b.length+m)
def x6{a u:List Int}{i:Nat}:(a++u).getD (a.length+i) 0=u.getD i 0:=by
 rw[ZG,rM (by lia),Nat.add_sub_cancel_left,<- ZG]
def dN{a u:List Int}{i:Nat}:gx (a++u) (a.length+i)=gx u i:=x6
def nc{a u:List Int}{c l:Nat}{f:Int×Int×Bool}(b:f.1=(l:Int))(d:l<=c)(g:c<u.length) :
  uC (a++u) ((a.length:Int)+(c:Int)) f=.int (if f.2.2=bA then f.2.1-u.getD (c-l) 0 else f.2.1+u.getD (c-l) 0):=by
 unfold uC;rw[b,QA ⟨by lia,by rw[PB];lia⟩];have e:((a.length:Int)+(c:Int)-(l:Int)).toNat=a.length+(c-l):=by lia
 rw[e,x6]
theorem KO{a b u:List Int}{fs:List (Int×Int×Bool)}{m c:Nat}(i:∀f∈fs,0<=f.1/\f.1+1<=(m:Int))(j:1<=m)(k:m-1<=c)(g:c<u.length):SA fs (a++u) ((a.length:Int)+(c:Int))=SA fs (b++u) ((b.length:Int)+(c:Int)):=by
 unfold SA;refine sf λf e=>?_
 have hl:0<=f.1/\f.1+1<=(m:Int):=by
  rcases mD.mp e with rfl | h
  ·exact⟨by decide,by show(0:Int)+1<=m;lia⟩
  ·exact i f h
 obtain⟨l,d⟩:∃l:Nat,f.1=(l:Int):=⟨f.1.toNat,by lia⟩
 rw[nc d (by lia) g,nc d (by lia) g]
theorem aAP{a m:Nat}:((a+m:Nat):Int)=(a:Int)+(m:Int):=ag a m
theorem Dl{a m:Nat}(h:1<=m):((a+m:Nat):Int)-1=(a:Int)+((m-1:Nat):Int):=by lia
section
variable{m:Nat}{ba:Int}{fs:List (Int×Int×Bool)}(hf:∀f∈fs,0<=f.1/\f.1+1<=(m:Int))(h3:3<=m)
include hf h3
theorem qm{g h oc:Int}:NI m ba λi b=>fF g h ba oc fs i (b:Int):=λa b u hu d=>by
 have e:((a.length:Int)+(m:Int)) % ba=((b.length:Int)+(m:Int)) % ba:=by rw[Int.add_emod,d,<- Int.add_emod]
 simp only[fF,aAP,e,KO (a:=a) (b:=b) (u:=u) (c:=m) hf (by lia) (by lia) (by lia)]
theorem om{lo d:Int}:NI m ba λe b=>rH lo d fs e (b:Int):=λa b u hu g=>by
 simp only[rH,aAP,KO (a:=a) (b:=b) (u:=u) (c:=m) hf (by lia) (by lia) (by lia)]
theorem dm{v w:Nat}:NI m ba λd b=>cL fs d (b:Int) v w:=λa b u hu e=>by
 simp only[cL,aAP,KO (a:=a) (b:=b) (u:=u) (c:=m) hf (by lia) (by lia) (by lia)]
theorem km{one other oc:Int}{x:fA}:NI m ba λd b=>pI one other oc x fs d (b:Int):=λa b u hu e=>by
 simp only[pI,Dl (show 1<=m by lia),KO (a:=a) (b:=b) (u:=u) (c:=m-1) hf (by lia) (by lia) (by lia)];simp only[aAP,KO (a:=a) (b:=b) (u:=u) (c:=m) hf (by lia) (by lia) (by lia)]
end
section
variable{m:Nat}{ba:Int}(h3:3<=m)
include h3
theorem jm{d:Int}:NI m ba λf b=>UC (QG d f b):=λa b u hu g=>by
 obtain⟨k,rfl⟩:∃k,m=k+1:=⟨m-1,by lia⟩
 have e:∀c:List Int,QG d (c++u) (c.length+(k+1))=decide (d<JB (gx u (k+1)-gx u k)):=λc=>by(show decide (d<JB (gx (c++u) (c.length+(k+1))-gx (c++u) (c.length+k)))=_;rw[dN,dN])
 simp only[e]
theorem gm{d f:Int}:NI m ba λg b=>UC (XE d f g b):=λa b u hu h=>by
 obtain⟨k,rfl⟩:∃k,m=k+2:=⟨m-2,by lia⟩
 have e:∀c:List Int,XE d f (c++u) (c.length+(k+2))=(decide (d<=JB (gx u (k+1)-gx u k)) && !(decide ((gx u (k+1)-gx u k)*(gx u (k+2)-gx u (k+1))<0)&&decide (JB (gx u (k+2)-gx u (k+1))<=f))):=λc=>by(have j:=dN (a:=c) (u:=u) (i:=k);have l:=dN (a:=c) (u:=u) (i:=k+1);have n:=dN (a:=c) (u:=u) (i:=k+2);show(decide (d<=JB (gx (c++u) (c.length+k+1)-gx (c++u) (c.length+k))) && !(decide ((gx (c++u) (c.length+k+1)-gx (c++u) (c.length+k))*(gx (c++u) (c.length+k+2)-gx (c++u) (c.length+k+1))<0)&&decide (JB (gx (c++u) (c.length+k+2)-gx (c++u) (c.length+k+1))<=f)))=_;rw[E2,E2,j,l,n])
 simp only[e]
theorem fm{k:Nat}(g:k<=3):NI m ba λd b=>UC (xE k d b):=λa b u hu f=>by
 have e:∀c:List Int,xE k (c++u) (c.length+m)=((u.drop (m-k)).take k).all λz=>decide (z=gx u m):=λc=>by(unfold xE kG;rw[dN,rB (by lia),XG,show c.length+m-k=c.length+(m-k) by lia,<- ng,List.drop_left])
 simp only[e]
end
abbrev Br:=List Int->Nat->List (List Int)
abbrev RP:=D×D×Br
def wZ(o h:D)(a:List Int)(b:Nat):List Sl:=[.sh o,.sh h,.sh (.l (a.map D.int)),.i b]
def VH(is:List Int):Prop:=is.length<=2/\∀x∈is,0<=x/\x<=20
def Gb{a b:Int}(d:0<=a/\a<=20)(e:0<=b/\b<=20):VH [a,b]:=⟨oB _,λx c=>by
 rcases mD.mp c with rfl | c
 ·exact d
 ·rw[ME.mp c];exact e⟩
def L9{n:Nat}{P:Nat->Nat->Bool}{is:List Int}(a:n<=20)(h:is∈kD n P):VH is:=by
 obtain⟨v,w,rfl,b,c,_⟩:=GY h;exact Gb (by lia) (by lia)
def SY{c:Bool}{is:List Int}(h:is∈UC c):VH is:=by
 cases c
 ·cases h
 ·rw[ME.mp h];exact⟨FI _,λx z=>nomatch z⟩
def J9{n:Nat}{P:Nat->Nat->Bool}(a:n<=4):(kD n P).length<=16:=by
 have b:=mT (n:=n) (P:=P) n;have c:n*n<=4*4:=X1 a a;unfold kD
 lia
def az{n:Nat}{a:Nat->Bool}(b:n<=4):(qI n a).length<=16:=by
 unfold qI;rw[pA];exact KC (HN _ _) (by rw[LH];lia)
def RY{c:Bool}:(UC c).length<=16:=by cases c<;>decide
def cHa{c:Bool}{a b:Int}:(yI c a b).length<=16:=by cases c<;>simp[yI]
def bz{n:Nat}{a:Nat->Bool}{is:List Int}(d:n<=20)(h:is∈qI n a):VH is:=by
 obtain⟨j,b,rfl⟩:=wB.mp h;have b:=IG.mp (kM.mp b).1;exact⟨by simp,λx c=>by rw[ME.mp c];lia⟩
def dHa{c:Bool}{a b:Int}{is:List Int}(d:0<=a/\a<=20)(e:0<=b/\b<=20)(h:is∈yI c a b):VH is:=by
 cases c
 ·cases h
 ·rw[ME.mp h];exact Gb d e
def pEa{a c ba oc:Int}{fs:List (Int×Int×Bool)}{d:List Int}{b:Int}{is:List Int}(hl:fs.length+1<=20)(h:is∈fF a c ba oc fs d b):VH is:=by
 unfold fF at h;split at h
 ·exact L9 hl h
 ·cases h
def oEa{a c ba oc:Int}{fs:List (Int×Int×Bool)}{d:List Int}{b:Int}(hl:fs.length+1<=4):(fF a c ba oc fs d b).length<=16:=by
 unfold fF;split
 ·exact J9 hl
 ·decide
structure RX(no ba oc:Int)(fs:List (Int×Int×Bool))(rs:List D)(m:Nat)(p:RP):Prop where
 ob:∃c ns ds f q,p.2.1=.ins c ns ds/\yD c ns "broken" AH=aA f/\T.dA f=[bA,bA,cA,q] /\
  ∀(W n:Nat) (xs:List Int) (b:Nat),b<xs.length->(∀x∈xs,0<=x/\x<no)->run T W (n+4) f (wZ (.ins c ns ds) (oA no ba oc fs rs) xs b)=some (.ok (.ow (.l (DA (p.2.2 xs b)))),wZ (.ins c ns ds) (oA no ba oc fs rs) xs b)
 ru:∀(W n:Nat),run T W (n+1) "h" [.sh p.1]=some (.ok (.sh p.2.1),[.sh p.1])
 lw:∀(W n:Nat) (xs:List Int) (b:Nat),b<xs.length->(∀x∈xs,0<=x/\x<no)->run T W (n+3) "e" [.sh (oA no ba oc fs rs),.sh p.1,.p (.l (xs.map D.int)),.i b]=some (.ok (.ow (.l (DA (p.2.2 xs b)))),[.sh (oA no ba oc fs rs),.sh p.1,.p (.l (xs.map D.int)),.i b])
 dep:NI m ba p.2.2
 Jr:∀xs b is,is∈p.2.2 xs b->VH is
 len:∀xs b,(p.2.2 xs b).length<=16
def pCa{m:Nat}(l:PH no ba oc fs)(H:RG fs=(m:Int))(q:3<=m)(h:wF no ba oc (fs.length:Int) d):∃o C,RX no ba oc fs rs m (d,o,C):=by
 have l2:=l.l2;have o1:=l.o1;have o2:=l.o2;have b1:=l.b1;have n2:=l.n2
 have i:∀f∈fs,0<=f.1/\f.1+1<=(m:Int):=λf i=>⟨(l.f f i).1,by
  have:=Bw i
  lia⟩
 have F:∀f∈MC fs,0<=f.1:=λf i=>by
  rcases mD.mp i with rfl | i
  ·decide
  ·exact(l.f f i).1
 have p:fs.length<=20:=by lia
 have y:fs.length<=900:=by lia
 have z:fs.length<=1000:=by lia
 cases h with
 |span a b r s j A =>
  exact⟨_,λc e=>fF a b ba oc fs c (e:Int),⟨_,_,_,_,bA,rfl,Sw,oh,λW n c e _ _=>qEa p j (by lia) (by lia)⟩,λW n=>jCa,λW n c e _ _=>wk (n:=n+1) p (by lia) o1 o2,qm i q,λc e is h=>pEa (by lia) h,λc e=>oEa (by lia)⟩
 |leap a r s =>
  exact⟨_,λc e=>UC (QG a c e),⟨_,_,_,_,cA,rfl,Pw,kh,λW n c e g _=>Kv (n:=n+3) g⟩,λW n=>gCa,λW n c e g _=>rk (n:=n+1) z g,jm q,λc e is h=>SY h,λc e=>RY⟩
 |back a b r s j A =>
  exact⟨_,λc e=>UC (XE a b c e),⟨_,_,_,_,cA,rfl,Ow,Mg,λW n c e g t=>vj (n:=n+3) g λx u=>⟨(t x u).1,by have:=(t x u).2;lia⟩⟩,λW n=>fCa,λW n c e g _=>qk (n:=n+1) z g r,gm q,λc e is h=>SY h,λc e=>RY⟩
 |again a r s =>
  obtain⟨k,rfl⟩:∃k:Nat,a=(k:Int):=⟨a.toNat,by lia⟩
  exact⟨_,λc e=>UC (xE k c e),⟨_,_,_,_,cA,rfl,Nw,Lg,λW n c e g _=>Ei (n:=n+3) g (by lia)⟩,λW n=>eCa,λW n c e g _=>pk (n:=n+1) z g (by lia) (by lia),fm q (by lia),λc e is h=>SY h,λc e=>RY⟩
 |range a b r s j =>
  exact⟨_,λc e=>rH a b fs c (e:Int),⟨_,_,_,_,bA,rfl,Rw,mh,λW n c e _ _=>oBa y⟩,λW n=>iCa,λW n c e _ _=>vk (n:=n+1) y,om i q,λc e is h=>bz (by lia) h,λc e=>az (by lia)⟩
 |above v w r s j =>
  exact⟨_,λc e=>cL fs c (e:Int) v w,⟨_,_,_,_,bA,rfl,Mw,Kg,λW n c e _ _=>Bi (n:=n+1) (by lia) (by lia)⟩,λW n=>dCa,λW n c e _ _=>nk (n:=n+1) y (by lia) (by lia),dm i q,λc e is h=>dHa (by lia) (by lia) h,λc e=>cHa⟩
 |never a b x r s j A B =>
  exact⟨_,λc e=>pI a b oc x fs c (e:Int),⟨_,_,_,_,bA,rfl,Qw,lh,λW n c e g t=>px p (by lia) B (M6 l t g)⟩,λW n=>hCa,λW n c e g t=>uk p (by lia) (by lia) B (M6 l t g) F,km i q,λc e is h=>L9 (by lia) h,λc e=>J9 (by lia)⟩
theorem ub{m:Nat}(e:PH no ba oc fs)(f:RG fs=(m:Int))(g:3<=m):∀a:List D,(∀d∈a,wF no ba oc (fs.length:Int) d)->∃b:List RP,b.map (·.1)=a/\∀p∈b,RX no ba oc fs rs m p
 |[],_=>⟨[],rfl,λ_ z=>nomatch z⟩
 |d::a,h=>by
  obtain⟨b,i,j⟩:=ub e f g a λk hd=>h k (XC _ hd)
  obtain⟨o,l,n⟩:=pCa e f g (h d AD);refine⟨(d,o,l)::b,by rw[HC,i],λp c=>?_⟩;rcases mD.mp c with rfl | c
  ·exact n
  ·exact j p c
def aY(h:Y[i]?=aA (.ow (.l a) p l)):aAc (.enum lo) [.slot i] Y=aA (ND lo a,aA i):=by(unfold aAc;simp only[h])
def bw{bind:D->Env->Option Env}(ok:D->Bool)(v:RV)(I:Env->Prop)(h:∀d∈ds,∀Y,I Y->∃f,bind d Y=aA f/\∃a,body f=aA (if ok d=bA then .nx else .rt v,a)/\I a) :
  ∀{Y:Env},I Y->∃b,iD bind body ds Y=aA (if ds.all ok=bA then .nx else .rt v,b)/\I b:=by
 induction ds with
 |nil=>exact λg=>⟨_,rfl,g⟩
 |cons d ds l =>
  intro Y g;obtain⟨f,j,a,e,k⟩:=h d (by simp) Y g
  cases c:ok d with
  |true =>
   obtain⟨b,m,n⟩:=l (λo i=>h o (by simp[i])) k;rw[c,QA rfl] at e;exact⟨b,by simp only[iD,j,e,m,IB,c,XG],n⟩
  |false =>
   rw[c,zG] at e;exact⟨a,by simp only[iD,j,e,IB,c,FJ];rfl,k⟩
section
variable{no ba oc:Int}{fs:List (Int×Int×Bool)}{rs:List D}{m:Nat}{ps:List RP}
theorem rb(a:ps.map (·.1)=rs)(h:∀p∈ps,RX no ba oc fs rs m p)(hl:rs.length<=8):run T W (n+2) "z" [.sh (oA no ba oc fs rs)]=some (.ok (.ow (.l (ps.map (·.2.1)))),[.sh (oA no ba oc fs rs)]):=by
 exists kX
 have i:ps.length<=8:=by rw[<- a,pA] at hl;exact hl
 have k:aAc .of [.val (.sh (.t rs))] [.sh (oA no ba oc fs rs)]=aA (rs,eA):=kK rfl
 obtain⟨b,r,e,⟨g,rfl,c,rfl⟩,_⟩:=qL (tests:=aC T.dA (run T W (n+1)) []) (DB:=ev T.dA (run T W (n+1)) cA ZV) (bind:=UA bA [1]) (ds:=rs)
  (λj b Y=>∃(g:Sl),Y=[.un,g]/\KA g=bA/\b=(ps.take j).map (·.2.1))
  (λj d hd b Y l=>by
   obtain⟨g,rfl,c,rfl⟩:=l
   obtain⟨p,f,rfl⟩:∃p,ps[j]?=aA p/\p.1=d:=by
    rw[<- a,dD] at hd
    cases q:ps[j]? with
    |none=>rw[q] at hd;cases hd
    |some p=>rw[q] at hd;exact⟨p,rfl,pD hd⟩
   have s:=(h p (aH f)).ru W n;refine⟨_,bA,_,by simp only[HB,eB c]<;>rfl,tL,λ_=>?_,λz=>nomatch z⟩;refine⟨.sh p.2.1,[.un,.sh p.1], ?_,_,rfl,rfl,by rw[GK,f,BD];rfl⟩;unfold ZV
   walk_at "!")
  [] [.un,.un] ⟨_,rfl,rfl,rfl⟩
 rw[show rs.length=ps.length by rw[<- a,pA],NP] at e;have o:NA (ps.map (·.2.1)).length=bA:=kB (by simp;lia)
 walk_at "!"
 rw[IC k]
 walk_at "!"
 all_goals (rw[RC rfl];walk_at "!")
def YH(ps:List RP)(a:List Int)(b:Nat):Nat:=(ps.map λp=>(p.2.2 a b).length).sum
theorem LQ:∀(ps:List RP),(∀p∈ps,(p.2.2 xs b).length<=16)->YH ps xs b<=16*ps.length
 |[],_=>by simp[YH]
 |p::ps,h=>by
  have d:=h p AD;have a:=LQ ps λq c=>h q (XC _ c)
  unfold YH at a ⊢;rw[HC,bU,VB]
  lia
def mZ(a:List Int)(b:Nat)(i:Nat)(p:RP):List D:=(DA (p.2.2 a b)).map λd=>.t [.int b,.int i,d]
def FC(a:List Int)(b:Nat):Nat->List RP->List D
 |_,[]=>[]
 |i,p::ps=>mZ a b i p++FC a b (i+1) ps
theorem vV{xs:List Int}{b:Nat}{q:RP}:∀(ps:List RP) (i:Nat),FC xs b i (ps++[q])=FC xs b i ps++mZ xs b (i+ps.length) q
 |[],i=>by simp[FC]
 |p::ps,i=>by(rw[QP,FC,vV ps (i+1),FC,BJ,VB,show i+1+ps.length=i+(ps.length+1) by lia])
theorem sO{a:List Int}{b:Nat}:∀(ps:List RP) (i:Nat),(FC a b i ps).length=YH ps a b
 |[],i=>rfl
 |p::ps,i=>by(rw[FC,PB,sO ps];unfold YH mZ;rw[pA,WG,HC,bU])
theorem L4{b:Nat}(u:∀p∈ps,RX no ba oc fs rs m p)(hl:ps.length<=8)(F:b<xs.length)(H:∀x∈xs,0<=x/\x<no) :
  run T W (n+5) "o" [.sh (oA no ba oc fs rs),.p (.l (ps.map (·.2.1))),.sh (.l (xs.map D.int)),.i b]=some (.ok (.ow (.l (FC xs b 0 ps))),[.sh (oA no ba oc fs rs),.p (.l (ps.map (·.2.1))),.sh (.l (xs.map D.int)),.i b]):=by
 exists SW
 have U:aAc (.enum 0) [.slot 1] [.sh (oA no ba oc fs rs),.p (.l (ps.map (·.2.1))),.sh (.l (xs.map D.int)),.i b,.o (.l []),.un,.un,.un]=aA (ND 0 (ps.map (·.2.1)),aA 1):=aY rfl
 obtain⟨Y1,X,I,J,k,rfl,v,y,s⟩:=CF (bind:=UA cA [5,6]) (body:=YA T.dA (run T W (n+4)) W dV)
  (λpre Y=>∃(I J k:Sl),Y=[.sh (oA no ba oc fs rs),.un,.sh (.l (xs.map D.int)),.i b,.o (.l (FC xs b 0 (ps.take pre.length))),I,J,k]/\KA I=bA/\KA J=bA/\KA k=bA)
  (ds:=ND 0 (ps.map (·.2.1))) (λpre d post l Y K=>by
   obtain⟨I,J,k,rfl,v,y,s⟩:=K
   have a:pre.length<ps.length:=by
    have:=congrArg MF l
    rw[OM,pA,PB,VB] at this
    lia
   obtain⟨p,e⟩:∃p,ps[pre.length]?=aA p:=⟨_,xC a⟩
   have hd:d=.t [.int pre.length,p.2.1]:=by(have q:=eW (lo:=0) (ds:=ps.map (·.2.1)) (i:=pre.length) (d:=p.2.1) (by rw[dD,e];rfl);rw[l,rM (oB _),jQ,S2] at q;exact pD q)
   subst hd;refine⟨_,by simp only[HB,eB v,eB y]<;>rfl, ?_⟩;have r:=u p (aH e);have g:=r.len xs b;have t:=LQ (xs:=xs) (b:=b) (ps.take pre.length) λq hq=>(u q (kf hq)).len xs b
   rw[<- sO _ 0,MI] at t
   have M:FC xs b 0 (ps.take (pre++[D.t [D.int pre.length,p.2.1]]).length)=FC xs b 0 (ps.take pre.length)++(DA (p.2.2 xs b)).map λd=>.t [.int b,.int pre.length,d]:=by
    rw[PB,VB,bH,GK,e]
    have:=vV (xs:=xs) (b:=b) (q:=p) (ps.take pre.length) 0
    rw[MI,PN (dQ a),Nat.zero_add] at this;exact this
   rw[M];obtain⟨c,z,ds,f,q,N,O,P,h⟩:=r.ob;have hr:=h W n xs b F H;unfold wZ at hr;rw[N]
   generalize p.2.2 xs b=Z at *
   generalize FC xs b 0 (ps.take pre.length)=L at *
   generalize (pre.length:Int)=j at *
   have Q:aAc .of [.val (.ow (.l (DA Z)))] [.sh (oA no ba oc fs rs),.un,.sh (.l (xs.map D.int)),.i b,.o (.l L),.i j,.sh (.ins c z ds),k]=aA (DA Z,eA):=kI rfl
   obtain⟨Y2,e2,R,rfl,A⟩:=CF (bind:=UA bA [7]) (body:=YA T.dA (run T W (n+4)) W cV)
    (λB Y=>∃(k:Sl),Y=[.sh (oA no ba oc fs rs),.un,.sh (.l (xs.map D.int)),.i b,.o (.l (L++B.map λd=>D.t [.int b,.int j,d])),.i j,.sh (.ins c z ds),k]/\KA k=bA)
    (ds:=DA Z) (λB d po C Y K=>by
     obtain⟨k,rfl,s⟩:=K;refine⟨_,by simp only[HB,eB s]<;>rfl, ?_⟩
     have hz:B.length<=1000:=by
      have:=congrArg MF C
      rw[WG,PB] at this
      lia
     rw[BD,<- BJ];have CL:NA ((L++B.map λd=>D.t [.int b,.int j,d]).length+1)=bA:=kB (by rw[PB,pA];lia)
     generalize (L++B.map λd=>D.t [.int b,.int j,d])=L2 at *
     refine⟨[.sh (oA no ba oc fs rs),.un,.sh (.l (xs.map D.int)),.i b,.o (.l (L2++[.t [.int b,.int j,d]])),.i j,.sh (.ins c z ds),.sh d], ?_,_,rfl,rfl⟩;unfold cV;clear u hl F H U a e r g t M N O P h hr Q C hz v y s l
     walk_at "!")
    (Y:=[.sh (oA no ba oc fs rs),.un,.sh (.l (xs.map D.int)),.i b,.o (.l L),.i j,.sh (.ins c z ds),k]) ⟨_,by simp,s⟩
   refine⟨[.sh (oA no ba oc fs rs),.un,.sh (.l (xs.map D.int)),.i b,.o (.l (L++(DA Z).map λd=>D.t [.int b,.int j,d])),.i j,.sh (.ins c z ds),R], ?_,_,_,_,rfl,rfl,rfl,A⟩;unfold dV
   generalize (L++(DA Z).map λd=>D.t [.int b,.int j,d])=L3 at *
   clear u hl F H U a e r g t M N h v y s l A
   cases q<;>walk_at "!")
  (Y:=[.sh (oA no ba oc fs rs),.un,.sh (.l (xs.map D.int)),.i b,.o (.l []),.un,.un,.un]) ⟨_,_,_,rfl,rfl,rfl,rfl⟩
 rw[OM,pA,NP] at X
 generalize FC xs b 0 ps=L at *
 clear u hl F H v y s
 walk_at "!"
 simp only[aAg,qG,rG,X,Run.restore,aAl,YD,JH,JD]
 walk_at "!"
def fk{W n:Nat}{xs:List Int}{b:Nat}(a:∀p∈ps,RX no ba oc fs rs m p)(hl:ps.length<=8)(c:b<xs.length)(d:∀x∈xs,0<=x/\x<no) :
  ∃L:List D,run T W (n+5) "o" [.sh (oA no ba oc fs rs),.p (.l (ps.map (·.2.1))),.sh (.l (xs.map D.int)),.i b]=some (.ok (.ow (.l L)),[.sh (oA no ba oc fs rs),.p (.l (ps.map (·.2.1))),.sh (.l (xs.map D.int)),.i b])/\L.length=YH ps xs b:=⟨_,L4 a hl c d,sO ps 0⟩
end
section
variable{no ba oc:Int}{fs:List (Int×Int×Bool)}{rs:List D}{m:Nat}{ps:List RP}
def qBa:(CB z [x]).flatten=CB z x:=by
 induction z with
 |zero=>rfl
 |succ z a=>rw[DK,iM,a];rfl
noncomputable def VG(z:Nat)(a:List Int):List Int:=CB z 0++a
noncomputable def rK(z:Nat)(a:List Int):D:=.t [.int ((z:Int)+(a.length:Int)),.t (a.map D.int)]
def sGa:(VG z a).length=z+a.length:=by unfold VG;simp
theorem Yv(c:z<=100)(d:a.length<=1000):run T W (n+1) "4" [.sh (rK z a)]=some (.ok (.ow (.l ((VG z a).map D.int))),[.sh (rK z a)]):=by
 exists ZW
 unfold rK;have e:(z:Int)+(a.length:Int)-(a.length:Int)=(z:Int):=by lia
 have f:xB .Mult (.l [.int 0]) (.int z)=aA (.ow (.l (CB z (.int 0)))):=by(rw[DQ (by lia) (by lia) (EF (by simp;lia)),OE,qBa])
 have g:xB .Add (.l (CB z (.int 0))) (.l (a.map D.int))=aA (.ow (.l ((VG z a).map D.int))):=by(rw[KG (EF (by simp;lia))];unfold VG;rw[BD,List.map_replicate])
 walk_at "!pA"
def lO:a.map D.int++[D.int q]=(a++[q]).map D.int:=by rw[BD];rfl
def ED(ps:List RP)(a:List Int)(q:Int):Bool:=decide (((YH ps (a++[q]) a.length:Nat):Int)=0)
theorem iJ{k:Nat}(h:k<=1000):aAc .BB [.val (.i k)] Y=aA (rg k,eA):=by
 refine KJ (jK (n:=(k:Int)) rfl (by lia) (by lia)) ?_;rw[OE]
noncomputable def wG(k:Nat)(ok:Int->Bool):List Int:=((EB k).filter λ(j:Nat)=>ok (j:Int)).map λ(j:Nat)=>(j:Int)
def d6:((EB k).filter λ(j:Nat)=>ok (j:Int)).map (λ(j:Nat)=>D.int j)=(wG k ok).map D.int:=by unfold wG;rw[rE];rfl
theorem f6(h:x∈wG k ok):0<=x/\x<k:=by
 obtain⟨j,a,rfl⟩:=wB.mp h
 have:=IG.mp (kM.mp a).1
 lia
def wR:(wG k ok).length<=k:=by
 unfold wG;rw[pA];exact KC (HN _ _) (by rw[LH];exact oB _)
theorem qx{k z:Nat}(u:no=(k:Int))(N:k<=7)(c:ps.map (·.1)=rs)(r:∀p∈ps,RX no ba oc fs rs m p)(hl:rs.length<=8)(O:z<=100)(P:tl.length<=1000)(v:∀x∈tl,0<=x/\x<no) :
  run T W (n+6) "D" [.sh (oA no ba oc fs rs),.sh (rK z tl)]=some (.ok (.ow (.l ((wG k (ED ps (VG z tl))).map D.int))),[.sh (oA no ba oc fs rs),.sh (rK z tl)]):=by
 exists cX
 have i:ps.length<=8:=by rw[<- c,pA] at hl;exact hl
 have J:=rb (W:=W) (n:=n+3) c r hl;have K:=Yv (W:=W) (n:=n+4) O P;have B:∀{Y:Env},aAc .BB [.val (.i no)] Y=aA (rg k,eA):=λ{Y}=>by rw[u];exact iJ (by lia)
 have s:TC (aA (oA no ba oc fs rs)) (.int 0)=aA (.i no):=rfl
 have l:∀x∈VG z tl,0<=x/\x<no\/x=0:=λx y=>by
  unfold VG at y;rcases QE.mp y with h | h
  ·exact .inr (List.eq_of_mem_replicate h)
  ·exact .inl (v x h)
 have f:(VG z tl).length<=1100:=by rw[sGa];lia
 generalize VG z tl=a at *
 obtain⟨X,e,A,rfl,g⟩:=wO (tests:=aC T.dA (run T W (n+5)) [.tA .Eq (.bif .len [.call "o" [.v 0,.v 2,.sA .Add (.v 1) (.l [.v 4]),.bif .len [.v 1]]]) (.c (.int 0))]) (DB:=ev T.dA (run T W (n+5)) cA TV) (bind:=UA bA [4]) (ds:=rg k)
  (λj=>ED ps a (j:Int)) (λj=>.int j) (λY=>∃A,Y=[.sh (oA no ba oc fs rs),.p (.l (a.map D.int)),.p (.l (ps.map (·.2.1))),.un,A]/\KA A=bA)
  (λj d hd Y Q=>by
   obtain⟨A,rfl,g⟩:=Q
   have C:j<k:=by
    have:=(lD.mp hd).1
    simpa using this
   have F:d=.int j:=by(rw[dD,OJ C] at hd;exact(pD hd).symm)
   subst F
   have t:xB .Add (.l (a.map D.int)) (.l [.int j])=aA (.ow (.l ((a++[(j:Int)]).map D.int))):=by(rw[KG (EF (by simp;lia)),lO])
   obtain⟨L,R,H⟩:=fk (W:=W) (n:=n) (xs:=a++[(j:Int)]) (b:=a.length) r i (by simp) (λx y=>by
    rcases QE.mp y with h | h
    ·rcases l x h with h | h
     ·exact h
     ·subst h;lia
    ·rw[ME.mp h];lia)
   have I:decide ((L.length:Int)=0)=ED ps a (j:Int):=by rw[H];rfl
   refine⟨_,[.sh (oA no ba oc fs rs),.p (.l (a.map D.int)),.p (.l (ps.map (·.2.1))),.un,.i j],by simp only[HB,eB g]<;>rfl, ?_,λ_=>⟨.i j,[.sh (oA no ba oc fs rs),.p (.l (a.map D.int)),.p (.l (ps.map (·.2.1))),.un,.i j], ?_,rfl,.i j,rfl,rfl⟩,λ_=>⟨.i j,rfl,rfl⟩⟩
   ·clear hd C H r hl i l f J K B s g c v u
    walk_at "!pA"
   ·unfold TV;clear hd C H r hl i l f J K B s g c v u t R I
    walk_at "!pA")
  [.sh (oA no ba oc fs rs),.p (.l (a.map D.int)),.p (.l (ps.map (·.2.1))),.un,.un] ⟨_,rfl,rfl⟩
 rw[pA,LH,d6] at e;have U:NA ((wG k (ED ps a)).map D.int).length=bA:=kB (by rw[pA];have:=wR (k:=k) (ok:=ED ps a);lia);have M:NA (wG k (ED ps a)).length=bA:=kB (by have:=wR (k:=k) (ok:=ED ps a);lia);clear r hl i l f c v u g
 walk_at "!pA"
 rw[IC B]
 walk_at "!pA"
 all_goals (first | done | (rw[RC rfl];walk_at "!pA"))
def U4:vB .NotEq (.l (DA Z)) (.l [])=aA (!Z.isEmpty):=by
 rw[T4 (Px Z) rfl];cases Z<;>rfl
theorem K4:∀(ps:List RP),decide (((YH ps xs b:Nat):Int)=0)=ps.all λp=>(p.2.2 xs b).isEmpty
 |[]=>rfl
 |p::ps=>by(have a:=K4 (xs:=xs) (b:=b) ps;rw[IB,<- a];unfold YH;rw[HC,bU,U1];cases p.2.2 xs b<;>simp<;>lia)
theorem Rp(g:ps.map (·.1)=rs)(j:∀p∈ps,RX no ba oc fs rs m p)(k:∀x∈xs++[q],0<=x/\x<no) :
  run T W (n+4) "Q" [.sh (oA no ba oc fs rs),.p (.l ((xs++[q]).map D.int))]=some (.ok (.b (ED ps xs q)),[.sh (oA no ba oc fs rs),.p (.l ((xs++[q]).map D.int))]):=by
 exists BW
 unfold ED;rw[K4];have I:aAc .of [.val (.sh (.t rs))] [.sh (oA no ba oc fs rs),.p (.l ((xs++[q]).map D.int)),.un]=aA (rs,eA):=kK rfl;have z:(((xs++[q]).length:Nat):Int)-1=(xs.length:Int):=by rw[PB,VB,bH];lia
 have o:xs.length<(xs++[q]).length:=by simp
 obtain⟨ok,f⟩:∃ok:D->Bool,∀p∈ps,ok p.1=(p.2.2 (xs++[q]) xs.length).isEmpty:=by
  refine⟨λd=>@decide (∃p∈ps,p.1=d/\(p.2.2 (xs++[q]) xs.length).isEmpty=bA) (cl _),λp b=>?_⟩
  cases c:(p.2.2 (xs++[q]) xs.length).isEmpty with
  |true=>exact @rB _ (cl _) ⟨p,b,rfl,c⟩
  |false =>
   refine @ZA _ (cl _) λA=>?_
   obtain⟨B,r,e,s⟩:=A;have C:=(j p b).lw 0 0 (xs++[q]) xs.length o k;have a:=(j B r).lw 0 0 (xs++[q]) xs.length o k;rw[e,C] at a
   injection a with a
   injection a with a
   injection a with a
   injection a with a
   injection a with a
   have l:=congrArg MF a;rw[WG,WG] at l;rw[Ae] at s;rw[<- l,<- Ae,c] at s;cases s
 have i:(ps.all λp=>(p.2.2 (xs++[q]) xs.length).isEmpty)=rs.all ok:=by(rw[<- g,fU];rw[U1,sF,sF];exact⟨λh p b=>by show ok p.1=bA;rw[f p b];exact h p b,λh p b=>by rw[<- f p b];exact h p b⟩)
 rw[i]
 obtain⟨J,F,t,rfl,y⟩:=bw (bind:=UA bA [2]) (body:=YA T.dA (run T W (n+3)) W VU) ok (.b cA)
  (λY=>∃t,Y=[.sh (oA no ba oc fs rs),.p (.l ((xs++[q]).map D.int)),t]/\KA t=bA) (ds:=rs) (λd hd Y H=>by
   obtain⟨t,rfl,y⟩:=H;rw[<- g] at hd;obtain⟨p,b,rfl⟩:=wB.mp hd;refine⟨_,by simp only[HB,eB y]<;>rfl, ?_⟩;have K:=(j p b).lw W n (xs++[q]) xs.length o k;rw[f p b]
   generalize p.2.2 (xs++[q]) xs.length=Z at *
   refine⟨[.sh (oA no ba oc fs rs),.p (.l ((xs++[q]).map D.int)),.sh p.1], ?_,_,rfl,rfl⟩;unfold VU
   generalize xs++[q]=M at *
   cases c:Z.isEmpty<;>walk_at "!U4 pA")
  (Y:=[.sh (oA no ba oc fs rs),.p (.l ((xs++[q]).map D.int)),.un]) ⟨_,rfl,rfl⟩
 cases c:rs.all ok<;>rw[c] at F<;>walk_at "!U4 pA"
end
section
variable{no ba oc:Int}{fs:List (Int×Int×Bool)}{rs:List D}{m:Nat}{ps:List RP}
def aAt(ps:List RP)(a:List Int)(n:Nat):List D:=(EB n).flatMap λb=>FC a b 0 ps
def IU{a:List Int}{n:Nat}:aAt ps a (n+1)=aAt ps a n++FC a n 0 ps:=by
 unfold aAt;rw[lM,qf];simp
theorem F4{xs:List Int}{b:Nat}(a:∀p∈ps,RX no ba oc fs rs m p)(hl:ps.length<=8):(FC xs b 0 ps).length<=128:=by
 rw[sO]
 have:=LQ (xs:=xs) (b:=b) ps λq c=>(a q c).len xs b
 lia
theorem zQ{xs:List Int}(a:∀p∈ps,RX no ba oc fs rs m p)(hl:ps.length<=8):∀n:Nat,(aAt ps xs n).length<=128*n
 | 0=>by simp[aAt]
 |n+1=>by
  rw[IU,PB];have c:=zQ (xs:=xs) a hl n;have d:=F4 (xs:=xs) (b:=n) a hl
  lia
def JM(b i:Nat)(is:List Int):D:=.t [.int b,.int i,.t (is.map D.int)]
theorem J4{g:List Int}{b:Nat}{d:D}:∀(a:List RP) (i:Nat),(∀p∈a,RX no ba oc fs rs m p)->d∈FC g b i a->∃j is,d=JM b j is/\j<i+a.length/\VH is
 |q::a,i,k,h=>by
  rw[FC] at h;rw[VB];rcases QE.mp h with h | h
  ·obtain⟨n,l,rfl⟩:=wB.mp h;obtain⟨is,c,rfl⟩:=wB.mp l;exact⟨i,is,rfl,by lia,(k q AD).Jr g b is c⟩
  ·obtain⟨j,is,e,l,c⟩:=J4 a _ (λp f=>k p (XC _ f)) h;exact⟨j,is,e,by lia,c⟩
theorem Fi{a:List Int}{n:Nat}{d:D}(c:∀p∈ps,RX no ba oc fs rs m p)(h:d∈aAt ps a n):∃b j is,d=JM b j is/\b<n/\j<ps.length/\VH is:=by
 obtain⟨b,f,h⟩:=Vf.mp h;obtain⟨j,is,e,i,g⟩:=J4 ps 0 c h;exact⟨b,j,is,e,IG.mp f,by lia,g⟩
theorem lZ(h:(rg n)=pre++d::post):d=.int pre.length/\pre.length<n:=by
 have hl:=congrArg MF h;rw[pA,LH,PB,VB] at hl;have a:(rg n)[pre.length]?=aA d:=by rw[h,rM (oB _),jQ];rfl
 rw[dD,OJ (by lia)] at a;exact⟨(pD a).symm,by lia⟩
def Dt{k:Nat}{p:RP}(a:ps.map (·.1)=rs)(h:ps[k]?=aA p):TC (aA (.t rs)) (.int k)=aA (.sh p.1):=vt (by rw[show L2.LB rs (k:Int)=rs[k]? from mO,<- a,dD,h];rfl)
theorem ek{W n:Nat}{xs:List Int}(c:ps.map (·.1)=rs)(f:∀p∈ps,RX no ba oc fs rs m p)(hl:rs.length<=8)(i:∀x∈xs,0<=x/\x<no)(lx:xs.length<=80) :
  run T W (n+6) "A" [.sh (oA no ba oc fs rs),.sh (.l (xs.map D.int))]=some (.ok (.ow (.l (aAt ps xs xs.length))),[.sh (oA no ba oc fs rs),.sh (.l (xs.map D.int))]):=by
 have a:ps.length<=8:=by rw[<- c,pA] at hl;exact hl
 exists RW
 have q:=rb (W:=W) (n:=n+3) c f hl;have r:aAc .BB [.val (.i xs.length)] [.sh (oA no ba oc fs rs),.sh (.l (xs.map D.int)),.o (.l (ps.map (·.2.1))),.o (.l []),.un]=aA (rg xs.length,eA):=iJ (by lia)
 obtain⟨z,e,h,rfl,_⟩:=CF (bind:=UA bA [4]) (body:=YA T.dA (run T W (n+5)) W bV)
  (λpre Y=>∃h,Y=[.sh (oA no ba oc fs rs),.sh (.l (xs.map D.int)),.o (.l (ps.map (·.2.1))),.o (.l (aAt ps xs pre.length)),h]/\KA h=bA)
  (ds:=rg xs.length) (λpre d post g Y s=>by
   obtain⟨h,rfl,k⟩:=s;obtain⟨rfl,l⟩:=lZ g;refine⟨_,by simp only[HB,eB k]<;>rfl, ?_⟩;have t:=L4 (W:=W) (n:=n) f a l i;have u:=zQ (xs:=xs) f a pre.length;have v:=F4 (xs:=xs) (b:=pre.length) f a;have y:NA ((aAt ps xs pre.length).length+(FC xs pre.length 0 ps).length)=bA:=kB (by lia);refine⟨[.sh (oA no ba oc fs rs),.sh (.l (xs.map D.int)),.o (.l (ps.map (·.2.1))),.o (.l (aAt ps xs pre.length++FC xs pre.length 0 ps)),.i pre.length], ?_,_,by rw[PB,dM,IU],rfl⟩;unfold bV;clear f hl a i c q r g l u v k lx
   generalize aAt ps xs pre.length=A at *
   generalize FC xs pre.length 0 ps=B at *
   walk_at "!pA")
  (Y:=[.sh (oA no ba oc fs rs),.sh (.l (xs.map D.int)),.o (.l (ps.map (·.2.1))),.o (.l []),.un]) ⟨_,rfl,rfl⟩
 rw[pA,LH] at e
 generalize aAt ps xs xs.length=A at *
 clear f hl a i c lx
 walk_at "!pA"
theorem ov{W n:Nat}{xs:List Int}(a:ps.map (·.1)=rs)(s:∀p∈ps,RX no ba oc fs rs m p)(hl:rs.length<=8)(F:∀x∈xs,0<=x/\x<no)(lx:xs.length<=80) :
  run T W (n+4) "P" [.sh (oA no ba oc fs rs),.p (.l (xs.map D.int))]=some (.ok (.ow (.l (aAt ps xs xs.length))),[.sh (oA no ba oc fs rs),.p (.l (xs.map D.int))]):=by
 have g:ps.length<=8:=by rw[<- a,pA] at hl;exact hl
 have c:rs.length=ps.length:=by rw[<- a,pA]
 exists yW
 have hi:∀{Y:Env},aAc .BB [.val (.i xs.length)] Y=aA (rg xs.length,eA):=iJ (by lia)
 have k:∀{Y:Env},aAc .BB [.val (.i rs.length)] Y=aA (rg rs.length,eA):=iJ (by lia)
 obtain⟨Y',e,t3,H,I,rfl,_,_,_⟩:=CF (bind:=UA bA [3]) (body:=YA T.dA (run T W (n+3)) W UU)
  (λpre Y=>∃t3 H I,Y=[.sh (oA no ba oc fs rs),.p (.l (xs.map D.int)),.o (.l (aAt ps xs pre.length)),t3,H,I]/\KA t3=bA/\KA H=bA/\KA I=bA)
  (ds:=rg xs.length) (λpre d post J Y K=>by
   obtain⟨t3,H,I,rfl,h3,z,r⟩:=K;obtain⟨rfl,hb⟩:=lZ J;refine⟨_,by simp only[HB,eB h3]<;>rfl, ?_⟩;have z1:=zQ (xs:=xs) s g pre.length
   generalize hB:pre.length=b at *
   clear J
   generalize hA:aAt ps xs b=A at *
   obtain⟨Y2,e2,C,t,rfl,M,N⟩:=CF (bind:=UA bA [4]) (body:=YA T.dA (run T W (n+3)) W TU)
    (λf Y=>∃C t,Y=[.sh (oA no ba oc fs rs),.p (.l (xs.map D.int)),.o (.l (A++FC xs b 0 (ps.take f.length))),.i b,C,t]/\KA C=bA/\KA t=bA)
    (ds:=rg rs.length) (λf d po u Y K=>by
     obtain⟨C,t,rfl,z,r⟩:=K;obtain⟨rfl,O⟩:=lZ u;rw[c] at O;obtain⟨p,h⟩:∃p,ps[f.length]?=aA p:=⟨_,xC O⟩
     have l:=s p (aH h);have Vq:=l.lw W n xs b hb F;have Uq:=Dt a h;have i:=l.len xs b;have v:=LQ (xs:=xs) (b:=b) (ps.take f.length) λq hq=>(s q (kf hq)).len xs b
     rw[<- sO _ 0,MI] at v
     have hN:FC xs b 0 (ps.take (f++[D.int f.length]).length)=FC xs b 0 (ps.take f.length)++(DA (p.2.2 xs b)).map λd=>D.t [.int b,.int f.length,d]:=by
      rw[PB,VB,bH,GK,h]
      have:=vV (xs:=xs) (b:=b) (q:=p) (ps.take f.length) 0
      rw[MI,PN (dQ O),Nat.zero_add] at this;exact this
     rw[hN];refine⟨_,by simp only[HB,eB z]<;>rfl, ?_⟩;rw[<- BJ]
     have Q:(A++FC xs b 0 (ps.take f.length)).length<=128*80+128:=by
      rw[PB]
      have:128*b<=128*80:=tf _ (by lia)
      lia
     generalize A++FC xs b 0 (ps.take f.length)=L at *
     generalize p.2.2 xs b=Z at *
     generalize (f.length:Int)=j at *
     have LO:∀{Y:Env},aAc .of [.val (.ow (.l (DA Z)))] Y=aA (DA Z,eA):=kI rfl
     obtain⟨Y3,e3,R,rfl,U⟩:=CF (bind:=UA bA [5]) (body:=YA T.dA (run T W (n+3)) W SU)
      (λq Y=>∃(R:Sl),Y=[.sh (oA no ba oc fs rs),.p (.l (xs.map D.int)),.o (.l (L++q.map λd=>D.t [.int b,.int j,d])),.i b,.i j,R]/\KA R=bA)
      (ds:=DA Z) (λq d po X Y K=>by
       obtain⟨R,rfl,r⟩:=K;refine⟨_,by simp only[HB,eB r]<;>rfl, ?_⟩
       have hz:q.length<=1000:=by
        have:=congrArg MF X
        rw[WG,PB] at this
        lia
       rw[BD,<- BJ];have CL:NA ((L++q.map λd=>D.t [.int b,.int j,d]).length+1)=bA:=kB (by rw[PB,pA];lia)
       generalize (L++q.map λd=>D.t [.int b,.int j,d])=L2 at *
       refine⟨[.sh (oA no ba oc fs rs),.p (.l (xs.map D.int)),.o (.l (L2++[.t [.int b,.int j,d]])),.i b,.i j,.sh d], ?_,_,rfl,rfl⟩;unfold SU;clear s hl g F a c hi k LO h l Vq Uq i v hN Q X hz r z O lx z1 u
       walk_at "!pA")
      (Y:=[.sh (oA no ba oc fs rs),.p (.l (xs.map D.int)),.o (.l L),.i b,.i j,t]) ⟨_,by simp,r⟩
     refine⟨[.sh (oA no ba oc fs rs),.p (.l (xs.map D.int)),.o (.l (L++(DA Z).map λd=>D.t [.int b,.int j,d])),.i b,.i j,R], ?_,_,_,rfl,rfl,U⟩;unfold TU
     generalize (L++(DA Z).map λd=>D.t [.int b,.int j,d])=L3 at *
     clear s hl g F a c hi k h l i v hN Q r z O lx z1 U u
     walk_at "!pA")
    (Y:=[.sh (oA no ba oc fs rs),.p (.l (xs.map D.int)),.o (.l A),.i b,H,I]) ⟨_,_,by simp[FC],z,r⟩
   rw[pA,LH,c,NP] at e2;refine⟨[.sh (oA no ba oc fs rs),.p (.l (xs.map D.int)),.o (.l (A++FC xs b 0 ps)),.i b,C,t], ?_,.i b,C,t,by rw[PB,dM,hB,IU,hA],rfl,M,N⟩;unfold UU;rw[c] at k
   generalize FC xs b 0 ps=B at *
   clear s hl g F a hi lx z1 h3 z r M N hb
   walk_at "!pA")
  (Y:=[.sh (oA no ba oc fs rs),.p (.l (xs.map D.int)),.o (.l []),.un,.un,.un]) ⟨_,_,_,rfl,rfl,rfl,rfl⟩
 rw[pA,LH] at e
 generalize aAt ps xs xs.length=A at *
 clear s hl g F a lx k c
 walk_at "!pA"
end
def J3(m:Nat)(ba:Int)(c d:List Int):Prop:=c=d\/∃a b t:List Int,c=a++t/\d=b++t/\t.length=m/\(a.length:Int) % ba=(b.length:Int) % ba
def Hy{m:Nat}{ba:Int}{f g:List Int}{c:List RP}{q:Int}(h:J3 m ba f g)(hd:∀p∈c,NI m ba p.2.2):ED c f q=ED c g q:=by
 rcases h with rfl | ⟨a,b,t,rfl,rfl,i,d⟩
 ·rfl
 ·unfold ED YH
  have e:(c.map λp=>(p.2.2 (a++t++[q]) (a++t).length).length)=c.map λp=>(p.2.2 (b++t++[q]) (b++t).length).length:=by
   refine sf λp j=>?_
   have:=hd p j a b (t++[q]) (by simp[i]) d
   rw[BJ,BJ,PB,PB,i,this]
  rw[e]
def Xv{m:Nat}{ba:Int}{xs:List Int}(d:1<=ba)(a:ba<=4):∃z:Nat,z<=100/\vP m ba xs=rK z (FF m xs)/\J3 m ba xs (VG z (FF m xs)):=by
 by_cases c:xs.length<=m
 ·have e:FF m xs=xs:=by unfold FF;rw[Nat.sub_eq_zero_of_le c,XT]
  refine⟨0,by lia, ?_,.inl ?_⟩
  ·unfold vP rK;rw[e,Wd (by lia),show((0:Nat):Int)+(xs.length:Int)=xs.length by lia]
  ·rw[e];rfl
 ·have hl:(FF m xs).length=m:=by unfold FF;rw[jM];lia
  have b:=ZP ((xs.length:Int)-m) (show ba≠0 by lia);have f:=IT ((xs.length:Int)-m) (show 0<ba by lia);refine⟨(((xs.length:Int)-m) % ba).toNat,by lia, ?_,.inr ⟨xs.take (xs.length-m),CB (((xs.length:Int)-m) % ba).toNat 0,FF m xs, ?_,rfl,hl, ?_⟩⟩
  ·unfold vP rK;rw[Xd (by lia),hl,show((((xs.length:Int)-m) % ba).toNat:Int)+(m:Int)=m+((xs.length:Int)-m) % ba by lia]
  ·unfold FF;rw[List.take_append_drop]
  ·rw[MI,We,show((min (xs.length-m) xs.length:Nat):Int)=(xs.length:Int)-m by lia,Int.toNat_of_nonneg b,Int.emod_emod]
def Ys:run T W (n+1) "r" [.i i]=some (.ok (.b bA),[.i i]):=by
 exists rR
 walk_at "!"
def RD(c:a<=i)(e:i<=b):run T W (n+2) "d" [.i i,.i a,.i b]=some (.ok (.b bA),[.i i,.i a,.i b]):=by
 exists sR
 have g:decide (a<=i)=bA:=rB c;have h:decide (i<=b)=bA:=rB e
 walk_at "!Ys"
def fb(no ba oc a:Int)(rs:List D):Prop:=rs.length<=8/\∀d∈rs,wF no ba oc a d
def mCa{d:D}(o:1<=oc)(h:wF no ba oc ma d):run T W (n+4) "f" [.i ba,.i oc,.i ma,.sh d]=some (.ok (.b bA),[.i ba,.i oc,.i ma,.sh d]):=by
 have c:∀{p:Prop} [Decidable p],p->decide p=bA:=λh=>rB h
 cases h with
 |span a b g i j k =>
  have e:=kCa (W:=W) (n:=n) (ba:=ba) (oc:=oc) (ma:=.int ma) (ps:=[.int a,.int b]) (by lia) rfl
  rwa[show qK ba oc [.int a,.int b]=bA by simp only[qK,NC,IA];exact⟨⟨c g,c (by lia)⟩,c j,c (by lia)⟩] at e
 |leap a g i =>
  have e:=(qZ (W:=W) (n:=n) (ba:=.int ba) (oc:=.int oc) (ma:=.int ma) (ps:=[.int a]) (by simp) rfl).1
  rwa[show OC 1 0 12 [.int a]=bA by simp only[OC,NC,IB,EI,EH,IA];exact⟨rfl,c g,c i⟩] at e
 |back a b g i j k =>
  have e:=(qZ (W:=W) (n:=n) (ba:=.int ba) (oc:=.int oc) (ma:=.int ma) (ps:=[.int a,.int b]) (by simp) rfl).2.1
  rwa[show OC 2 1 12 [.int a,.int b]=bA by simp only[OC,NC,IB,EI,EH,IA];exact⟨rfl,⟨c g,c i⟩,c j,c k⟩] at e
 |again a g i =>
  have e:=(qZ (W:=W) (n:=n) (ba:=.int ba) (oc:=.int oc) (ma:=.int ma) (ps:=[.int a]) (by simp) rfl).2.2
  rwa[show OC 1 1 3 [.int a]=bA by simp only[OC,NC,IB,EI,EH,IA];exact⟨rfl,c g,c i⟩] at e
 |range a b g i j =>
  have e:=(qb (W:=W) (n:=n) (ba:=.int ba) (oc:=.int oc) (ma:=ma) (ps:=[.int a,.int b]) (by simp) rfl).1
  rwa[show(OC 2 (-60) 60 [.int a,.int b]&&fS [.int a,.int b])=bA by simp only[OC,fS,NC,IB,EI,EH,IA];exact⟨⟨rfl,⟨c g,c (by lia)⟩,c (by lia),c j⟩,c i⟩] at e
 |above v w g i j =>
  have e:=(qb (W:=W) (n:=n) (ba:=.int ba) (oc:=.int oc) (ma:=ma) (ps:=[.int v,.int w]) (by simp) rfl).2
  rwa[show(OC 2 0 ma [.int v,.int w]&&oS [.int v,.int w])=bA by simp only[OC,oS,NC,IB,EI,EH,IA];exact⟨⟨rfl,⟨c (by lia),c g⟩,c (by lia),c i⟩,by rw[ZA (by lia)];rfl⟩] at e
 |never a b x g i j k l =>
  have e:=cCa (W:=W) (n:=n) (ba:=.int ba) (ma:=.int ma) (oc:=oc) (ps:=[.int a,.int b,.str x]) rfl
  have m:EN (.str x)=bA:=by rcases l with rfl | rfl | rfl | rfl<;>decide +kernel
  rwa[show mJ oc [.int a,.int b,.str x]=bA by simp only[mJ,NC,m,EH,IA];exact⟨⟨c g,c (by lia)⟩,c j,c (by lia)⟩] at e
def Gp{W n:Nat}{f:Int×Int×Bool}(h:0<=f.1/\f.1<=4/\-12<=f.2.1/\f.2.1<=12):run T W (n+3) "V" [.sh (toD f)]=some (.ok (.b bA),[.sh (toD f)]):=by
 exists XW
 unfold toD;have d:=RD (W:=W) (n:=n) (i:=f.1) (a:=0) (b:=4) h.1 h.2.1;have e:=RD (W:=W) (n:=n) (i:=f.2.1) (a:=-12) (b:=12) h.2.2.1 h.2.2.2;have g:decide (((3:Nat):Int)=3)=bA:=rfl;clear h
 walk_at "!RD"
def Qp{W n:Nat}{no ba oc:Int}{fs:List (Int×Int×Bool)}{vs rs:List D}(c:PH no ba oc fs)(d:vs.length=fs.length)(e:rs.length<=8) :
  run T W (n+3) "Y" [.i no,.i ba,.i oc,.p (.l vs),.p (.l rs)]=some (.ok (.sh .nA),[.i no,.i ba,.i oc,.p (.l vs),.p (.l rs)]):=by
 exists UW
 have j:=RD (W:=W) (n:=n) (i:=no) (a:=1) (b:=7) c.n1 c.n2;have k:=RD (W:=W) (n:=n) (i:=ba) (a:=1) (b:=4) c.b1 c.b2;have l:=RD (W:=W) (n:=n) (i:=oc) (a:=1) (b:=12) c.o1 c.o2;have f:=c.l1;have g:=c.l2;have m:decide ((1:Int)<=(vs.length:Int))=bA:=rB (by lia);have o:decide ((vs.length:Int)<=3)=bA:=rB (by lia);have q:decide ((8:Int)<(rs.length:Int))=cA:=ZA (by lia);clear c d e f g
 walk_at "!RD"
def Q5(h:d∈ND lo b):∃(j:Int) (x:D),d=.t [.int j,x]/\x∈b:=by
 unfold ND at h;obtain⟨j,a,rfl⟩:=wB.mp h;have a:j<b.length:=IG.mp a;exact⟨_,_,rfl,by rw[ZG,xC a];exact P1 a⟩
def ar{W n:Nat}{no ba oc:Int}{fs:List (Int×Int×Bool)}{rs:List D}(c:PH no ba oc fs)(e:fb no ba oc fs.length rs) :
  run T W (n+5) "Z" [.i no,.i ba,.i oc,.p (.l (fs.map toD)),.p (.l rs)]=some (.ok (.sh (oA no ba oc fs rs)),[.i no,.i ba,.i oc,.p (.l (fs.map toD)),.p (.l rs)]):=by
 exists WW
 have s:=Qp (W:=W) (n:=n+1) (vs:=fs.map toD) c (by simp) e.1;have g:aAc (.enum 1) [.slot 3] [.i no,.i ba,.i oc,.p (.l (fs.map toD)),.p (.l rs),.un,.un]=aA (ND 1 (fs.map toD),aA 3):=aY rfl
 obtain⟨C,t,a,b,rfl,h,i⟩:=BY (bind:=UA cA [5,6]) (body:=YA T.dA (run T W (n+4)) W eV)
  (λY=>∃a b,Y=[.i no,.i ba,.i oc,.un,.p (.l rs),a,b]/\KA a=bA/\KA b=bA)
  (ds:=ND 1 (fs.map toD)) (λd hd Y q=>by
   obtain⟨a,b,rfl,k,l⟩:=q;obtain⟨j,x,rfl,m⟩:=Q5 hd;obtain⟨f,o,rfl⟩:=wB.mp m;refine⟨_,by simp only[HB,eB k,eB l]<;>rfl, ?_⟩;have y:=Gp (W:=W) (n:=n+1) (c.f f o);unfold eV;clear hd m o c e s g k l
   walk_at "!"
   refine⟨_,rfl,_,_,rfl,rfl,rfl⟩)
  (Y:=[.i no,.i ba,.i oc,.un,.p (.l rs),.un,.un]) ⟨_,_,rfl,rfl,rfl⟩
 have r:aAc (.enum 0) [.slot 4] [.i no,.i ba,.i oc,.p (.l (fs.map toD)),.p (.l rs),a,b]=aA (ND 0 rs,aA 4):=aY rfl
 obtain⟨F,z,A,B,rfl,u,v⟩:=BY (bind:=UA cA [5,6]) (body:=YA T.dA (run T W (n+4)) W fV)
  (λY=>∃a b,Y=[.i no,.i ba,.i oc,.p (.l (fs.map toD)),.un,a,b]/\KA a=bA/\KA b=bA)
  (ds:=ND 0 rs) (λd hd Y q=>by
   obtain⟨a,b,rfl,k,l⟩:=q;obtain⟨j,x,rfl,m⟩:=Q5 hd;refine⟨_,by simp only[HB,eB k,eB l]<;>rfl, ?_⟩;have y:=mCa (W:=W) (n:=n) c.o1 (e.2 x m);have hl:((fs.map toD).length:Int)=(fs.length:Int):=by rw[pA]
   unfold fV;clear hd m c e s g r k l t
   walk_at "!"
   refine⟨_,rfl,_,_,rfl,rfl,rfl⟩)
  (Y:=[.i no,.i ba,.i oc,.p (.l (fs.map toD)),.un,a,b]) ⟨_,_,rfl,h,i⟩
 unfold oA;clear c e h i
 walk_at "!"
 simp only[aAg,qG,rG,t,Run.restore,aAl,YD,JH,JD]
 walk_at "!"
 simp only[aAg,qG,rG,z,Run.restore,aAl,YD,JH,JD]
 walk_at "!"
def vO{bind:D->Env->Option Env}{xs:List O}(f:O->D)(keep:O->Bool)(g:O->D)(J:Env->Prop)
  (step:∀x∈xs,∀Y,J Y->∃i b,bind (f x) Y=aA i/\tests i=some (.ok (.b (keep x)),b)/\(keep x=bA->∃v k,DB b=some (.ok v,k)/\v.d=g x/\J k)/\(keep x=cA->J b)) (h:J Y) :
  ∃l,tD tests DB bind (xs.map f) [] Y=some (.ok ((xs.filter keep).map g),l)/\J l:=by
 obtain⟨a,l,e,⟨rfl,m⟩,_⟩:=qL (ds:=xs.map f) (λj a Y=>a=((xs.take j).filter keep).map g/\J Y)
  (λj d hd a Y o=>by
   obtain⟨n,m⟩:=o;rw[dD] at hd
   cases hq:xs[j]? with
   |none=>rw[hq] at hd;cases hd
   |some x =>
    rw[hq] at hd;cases hd;obtain⟨i,b,p,q,r,s⟩:=step x (aH hq) Y m;refine⟨i,keep x,b,p,q,λc=>?_,λc=>⟨?_,s c⟩⟩
    ·obtain⟨v,k,t,u,w⟩:=r c;refine⟨v,k,t, ?_,w⟩;rw[n,u,Kf,hq];simp[PJ,c]
    ·rw[n,Kf,hq]
     simp[PJ,c]) [] Y ⟨by simp,h⟩
 refine⟨l, ?_,m⟩;rw[e,pA,NP]
def aI{bind:D->Env->Option Env}{xs:List O}(f g:O->D)(J:Env->Prop)
  (step:∀x∈xs,∀Y,J Y->∃a v b,bind (f x) Y=aA a/\DB a=some (.ok v,b)/\v.d=g x/\J b) (h:J Y) :
  ∃c,tD (aC P C []) DB bind (xs.map f) [] Y=some (.ok (xs.map g),c)/\J c:=by
 obtain⟨c,e,i⟩:=vO (tests:=aC P C []) f (λ_=>bA) g J (λx j Y k=>by
  obtain⟨a,v,b,l,m,n,o⟩:=step x j Y k
  exact⟨a,a,l,tL,λ_=>⟨v,b,m,n,o⟩,λz=>nomatch z⟩) h
 refine⟨c, ?_,i⟩;rw[e,V0.mpr λ_ _=>rfl]
def jS(c:Nat):List (List Nat)->List Nat
 |[]=>[]
 |[a]=>a
 |a::b::r=>a++c::jS c (b::r)
def B7(h:a≠[]):jS c (a::r)≠[]:=by
 cases r with
 |nil=>exact h
 |cons b r=>exact λz=>absurd z (by show a++c::jS c (b::r)≠[];simp)
theorem lN(c:Nat):∀d:List fA,(XD ⟨#[c]⟩ d).cps.toList=jS c (d.map λw=>w.cps.toList)
 |[]=>rfl
 |[a]=>rfl
 |a::b::r=>by(have e:=lN c (b::r);show((a++(⟨#[c]⟩:fA))++XD ⟨#[c]⟩ (b::r)).cps.toList=a.cps.toList++c::jS c ((b::r).map λw=>w.cps.toList);rw[<- e];show(a.cps ++ #[c]++(XD ⟨#[c]⟩ (b::r)).cps).toList=_;simp)
theorem C5:∀{a d s b:List Nat},c ∉ a->c ∉ d->a++c::s=d++c::b->a=d/\s=b
 |[],[],s,b,_,_,h=>by simpa using h
 |[],x::d,s,b,_,e,h=>by
  simp only[UT,QP,ON] at h;exact absurd (by rw[h.1];exact AD) e
 |x::a,[],s,b,f,_,h=>by
  simp only[UT,QP,ON] at h;exact absurd (by rw[h.1];exact AD) f
 |x::a,y::d,s,b,f,e,h=>by(simp only[QP,ON] at h;obtain⟨g,i⟩:=C5 (λz=>f (XC _ z)) (λz=>e (XC _ z)) h.2;exact⟨by rw[h.1,g],i⟩)
theorem v7:∀{as bs:List (List Nat)},as≠[]->bs≠[]->(∀a∈as,c ∉ a)->(∀b∈bs,c ∉ b)->jS c as=jS c bs->as=bs
 |[],_,h,_,_,_,_=>absurd rfl h
 |_,[],_,h,_,_,_=>absurd rfl h
 |[a],[b],_,_,_,_,h=>by rw[show a=b from h]
 |[a],b::i::r,_,_,d,_,h=>by
  have h:a=b++c::jS c (i::r):=h;exact absurd (by rw[h];simp) (d a AD)
 |a::j::r,[b],_,_,_,f,h=>by
  have h:a++c::jS c (j::r)=b:=h;exact absurd (by rw[<- h];simp) (f b AD)
 |a::j::r,b::i::k,_,_,d,f,h=>by(obtain⟨rfl,e⟩:=C5 (d a AD) (f b AD) h;rw[v7 (by simp) (by simp) (λx g=>d x (XC _ g)) (λx g=>f x (XC _ g)) e])
def aAE{a b:fA}(h:a.cps.toList=b.cps.toList):a=b:=by
 cases a;cases b;simp only[NT] at h;rw[h]
theorem c9:∀{as bs:List fA},(as.map λw=>w.cps.toList)=(bs.map λw=>w.cps.toList)->as=bs
 |[],[],_=>rfl
 |[],_::_,h=>nomatch h
 |_::_,[],h=>nomatch h
 |a::as,b::bs,h=>by(simp only[HC,ON] at h;rw[aAE h.1,c9 h.2])
def wEa(g:s=⟨#[c]⟩)(h:b≠[])(i:∀w∈b,c ∉ w.cps.toList):HE (QB s b) s=b:=by
 subst g;have j:QB ⟨#[c]⟩ b=XD ⟨#[c]⟩ b:=RK _ _;rw[j];have k:=StrLaws.join_split (XD ⟨#[c]⟩ b) ⟨#[c]⟩;have l:=StrLaws.split_free (XD ⟨#[c]⟩ b) c;have m:=PyProof.Rows.split_pos (XD ⟨#[c]⟩ b) ⟨#[c]⟩
 generalize HE (XD ⟨#[c]⟩ b) ⟨#[c]⟩=n at *
 have e:=congrArg (λx:fA=>x.cps.toList) k;simp only[lN] at e;refine c9 (v7 ?_ ?_ ?_ ?_ e)
 ·intro z;rw[FT] at z;subst z;simp at m
 ·intro z;exact h (FT.mp z)
 ·intro a d;obtain⟨w,f,rfl⟩:=wB.mp d;exact l w f
 ·intro a d;obtain⟨w,f,rfl⟩:=wB.mp d;exact i w f
structure TG(n:Nat)(w:fA):Prop where
 len:w.length<=n
 asc:w.cps.all (·<128)=bA
def OL(h:w.cps.all (·<128)=bA):gC w=bA:=by
 unfold gC;rw[Hf] at h ⊢;intro i a
 have:=h i a
 simp only[MH] at this ⊢
 lia
theorem A7:∀{as:List (List Nat)} {x:Nat},x∈jS c as->x=c\/∃a∈as,x∈a
 |[],x,h=>nomatch h
 |[a],x,h=>.inr ⟨a,AD,h⟩
 |a::b::r,x,h=>by
  have h:x∈a++c::jS c (b::r):=h;rcases QE.mp h with h | h
  ·exact .inr ⟨a,AD,h⟩
  ·rcases mD.mp h with h | h
   ·exact .inl h
   ·rcases A7 h with h | ⟨d,hd,h⟩
    ·exact .inl h
    ·exact .inr ⟨d,XC _ hd,h⟩
def XR(d:s=⟨#[c]⟩)(h:x∈(QB s b).cps.toList):x=c\/∃w∈b,x∈w.cps.toList:=by
 subst d;rw[show QB ⟨#[c]⟩ b=XD ⟨#[c]⟩ b from RK _ _,lN] at h;rcases A7 h with h | ⟨a,e,h⟩
 ·exact .inl h
 ·obtain⟨w,f,rfl⟩:=wB.mp e;exact .inr ⟨w,f,h⟩
def WS{x y:fA}:(x++y).cps.toList=x.cps.toList++y.cps.toList:=by
 show(x.cps++y.cps).toList=_;simp
theorem F7{s:fA}{x:Nat}:∀{c:List fA},x∈(XD s c).cps.toList->x∈s.cps.toList\/∃w∈c,x∈w.cps.toList
 |[],h=>nomatch h
 |[a],h=>.inr ⟨a,.head _,h⟩
 |a::b::r,h=>by
  have h:x∈((a++s)++XD s (b::r)).cps.toList:=h;rw[WS,WS] at h;rcases QE.mp h with h | h
  ·rcases QE.mp h with h | h
   ·exact .inr ⟨a,.head _,h⟩
   ·exact .inl h
  ·rcases F7 h with h | ⟨w,d,h⟩
   ·exact .inl h
   ·exact .inr ⟨w,.tail _ d,h⟩
def C7{s a:fA}{r:List fA}(h:a.cps.toList≠[]):(QB s (a::r)==("":fA))=cA:=by
 rw[show QB s (a::r)=XD s (a::r) from RK _ _,CK];intro e;have e:(XD s (a::r)).cps.toList=[]:=by rw[e];rfl
 cases r with
 |nil=>exact h e
 |cons b r =>
  have e:((a++s)++XD s (b::r)).cps.toList=[]:=e;rw[WS,WS] at e;exact h (Te.mp (Te.mp e).1).1
def G7{k B N:Nat}{s:fA}(f:TG k s){b:List fA}(h:∀w∈b,TG B w)(hl:b.length*(B+k)<=N)(n:N<=1000000) :
  TG N (QB s b)/\XN s b=bA:=by
 have g:=f.len;have i:b.length*(B+k)=b.length*B+b.length*k:=Nat.mul_add _ _ _;have j:b.length*s.length<=b.length*k:=tf _ g;refine⟨⟨?_, ?_⟩, ?_⟩
 ·rw[show QB s b=XD s b from RK _ _];refine KC (StrLaws.join_length_le _ _) ?_
  have o:(b.map (·.length)).sum<=b.length*B:=by
   clear hl i j
   induction b with
   |nil=>simp
   |cons a r l =>
    have c:=(h a AD).len;have p:=l λw e=>h w (XC _ e)
    have q:(r.length+1)*B=r.length*B+B:=P2 _ _;simp only[HC,bU,VB]
    lia
  lia
 ·rw[fM];intro x d;rw[show QB s b=XD s b from RK _ _] at d;rcases F7 (by simpa using d) with d | ⟨w,e,d⟩
  ·have c:=f.asc;rw[fM] at c;exact c x (by simpa using d)
  ·have c:=(h w e).asc;rw[fM] at c;exact c x (by simpa using d)
 ·unfold XN;rw[Bool.not_eq_true'];refine StrLaws.joinFits (B:=B) (λy m=>(h y m).len) ?_
  lia
def mN(b:s=⟨#[c]⟩)(d:c<128)(h:∀w∈a,TG B w)(hl:a.length*(B+1)<=N)(e:N<=1000000) :
  TG N (QB s a)/\XN s a=bA:=G7 (by subst b;exact⟨oB _,by simpa using d⟩) h hl e
def aAS:xH (ts.map D.str)=aA ts:=by
 induction ts with
 |nil=>rfl
 |cons a r b =>
  show(xH (r.map D.str)).map (a :: ·)=_;rw[b];rfl
def LG:(" ":fA)=⟨#[32]⟩:=by decide +kernel
def JY:("\n":fA)=⟨#[10]⟩:=by decide +kernel
def VI:(",":fA)=⟨#[44]⟩:=by decide +kernel
def US(b:s=⟨#[c]⟩)(f:c<128)(h:∀w∈a,TG B w)(hl:a.length*(B+1)<=N)(d:N<=1000000)(g:a≠[])(i:∀w∈a,c ∉ w.cps.toList) :
  vI s Y (aA (.s (QB s a)))=some (.ok (.ow (.l (a.map D.str))),Y):=by
 have e:=wEa b g i;have j:=(mN b f h hl d).1
 have:=vEa (Y:=Y) (x:=s) (y:=QB s a) (by rw[b];rfl) (KC j.len d) (by
  rw[e,sF]
  exact λw k=>OL (h w k).asc)
 rw[this,e]
def jJ(a:s=⟨#[c]⟩)(b:c<128)(h:∀w∈ws,TG B w)(hl:ws.length*(B+1)<=N)(d:N<=1000000):kN s (aA (.l (ws.map D.str)))=aA (.s (QB s ws)):=by
 obtain⟨e,f⟩:=mN a b h hl d;exact D7 aAS f (OL e.asc)
def Pt{k B N:Nat}{s:fA}(b:TG k s){a:List fA}(h:∀w∈a,TG B w)(hl:a.length*(B+k)<=N)(c:N<=1000000):kN s (aA (.l (a.map D.str)))=aA (.s (QB s a)):=by
 obtain⟨d,e⟩:=G7 b h hl c;exact D7 aAS e (OL d.asc)
noncomputable def YI(c:Nat):Bool:=!(GN ("0123456789":fA) ⟨#[c]⟩ 0 ("0123456789":fA).length 1).isEmpty
noncomputable def num(i:Int):fA:=rA (toString i)
noncomputable def fI(w:fA):fA:=if UP w "-"=bA then pM w (aA 1) eA else w
def GZ(i:Int):Bool:=decide (i.natAbs.log2<1920)&&gC (num i)
noncomputable def iP(w:fA):Bool:=w.cps.all λc=>decide (c<128)&&(decide (c≠32)&&(decide (c≠10)&&decide (c≠44)))
def NY(i:Int):Bool:=GZ i&&(decide ((num i).length<=3)&&(iP (num i)&&(decide (1<=(fI (num i)).length)&&(decide ((fI (num i)).length<=3)&&((fI (num i)).cps.all (·<128)&&((fI (num i)).cps.toList.all YI&&decide (intText? (num i)=aA i)))))))
def Dx:(EB 121).all (λn=>NY ((n:Int)-60))=bA:=by decide +kernel
structure eH(i:Int):Prop where
 s:QC .str [.int i]=aA (.s (num i))
 tg:TG 3 (num i)
 yO:32 ∉ (num i).cps.toList
 jR:10 ∉ (num i).cps.toList
 Vo:44 ∉ (num i).cps.toList
 l1:1<=(fI (num i)).length
 l2:(fI (num i)).length<=3
 fa:(fI (num i)).cps.all (·<128)=bA
 ff:(fI (num i)).cps.toList.all YI=bA
 it:intText? (num i)=aA i
def la(h:iP w=bA):w.cps.all (·<128)=bA/\32 ∉ w.cps.toList/\10 ∉ w.cps.toList/\44 ∉ w.cps.toList:=by
 unfold iP at h;rw[fM] at h;have h:∀x∈w.cps,x<128/\x≠32/\x≠10/\x≠44:=λx a=>by simpa using h x a
 refine⟨by rw[fM];exact λx a=>rB (h x a).1,λz=>(h 32 (by simpa using z)).2.1 rfl,λz=>(h 10 (by simpa using z)).2.2.1 rfl,λz=>(h 44 (by simpa using z)).2.2.2 rfl⟩
def kFa(h:GZ i=bA):QC .str [.int i]=aA (.s (num i)):=by
 unfold GZ at h;rw[IA,MH] at h;exact W5 h.1 h.2
def JC(n:-60<=i)(o:i<=60):eH i:=by
 have h:NY i=bA:=by
  have:=sF.mp Dx (i+60).toNat (IG.mpr (by lia))
  rwa[show(((i+60).toNat:Int)-60)=i by lia] at this
 unfold NY at h;simp only[IA,MH] at h;obtain⟨a,b,c,d,e,f,g,k⟩:=h;obtain⟨j,p2,l,m⟩:=la c;exact⟨kFa a,⟨b,j⟩,p2,l,m,d,e,f,g,k⟩
def fx(n:Nat):(num (n:Int)).cps.all (·<128)=bA:=by
 unfold num;rw[Str.ofString_eq_toList,fM];intro x a;have a:x∈(toString (n:Int)).toList.map Char.toNat:=by simpa using a
 obtain⟨c,b,rfl⟩:=wB.mp a
 have b:c∈Nat.toDigits 10 n:=by
  have e:(toString (n:Int)).toList=Nat.toDigits 10 n:=String.toList_ofList
  rwa[e] at b
 have hd:=Nat.isDigit_of_mem_toDigits (by decide) (by decide) b;unfold Char.isDigit at hd;rw[IA,MH,MH] at hd;have d:c.val.toNat<=57:=hd.2;exact rB (show c.val.toNat<128 by lia)
def jFa(c:0<=b)(d:b<4096):QC .str [.int b]=aA (.s (num b)):=by
 obtain⟨n,rfl⟩:∃n:Nat,b=(n:Int):=⟨b.toNat,by lia⟩
 refine W5 ?_ (OL (fx n));rw[Cf];by_cases a:n=0
 ·subst a;decide
 ·rw[W2 a];exact aE (show n<2 ^ 12 by lia) (FP (i:=12) (j:=1920) (by decide) (by decide))
noncomputable def p2(k:Nat):Int:=((2 ^ k:Nat):Int)
def G9(k:Nat):(2:Int) ^ k=p2 k:=by unfold p2;rw[Int.natCast_pow];rfl
def tG(n k:Nat):Bool:=decide (n / 2 ^ k % 2=1)
def fD(n:Nat):List Nat:=(EB 12).filter (tG n)
def um(n k:Nat):(n:Int) / 2 ^ k=((n / 2 ^ k:Nat):Int):=by rw[G9,Tf];rfl
def Nd(n k:Nat):decide ((n:Int) / 2 ^ k % 2=1)=tG n k:=by
 rw[um];unfold tG;rw[U1,MH,MH]
 lia
def pGa(n k:Nat):decide (KN ((n:Int) / 2 ^ k) 1=1)=tG n k:=by rw[PyProof.Rows.bitAnd_m1,Nd]
theorem Ma(h:∀k,m<=k->p k=cA):∀d,(EB (m+d)).filter p=(EB m).filter p
 | 0=>rfl
 |d+1=>by rw[show m+(d+1)=(m+d)+1 by lia,lM,PJ,Ma h d,Q1,h (m+d) (by lia)];simp
def Qj{n:Nat}(a:n≠0):sM (n:Int)=n.log2+1:=by
 unfold sM;rw[pB (by simpa using a),Cf]
def aAL(h:n<4096):n.log2+1<=12:=by
 by_cases a:n=0
 ·subst a;decide
 ·have:=(W2 a (k:=12)).mpr h
  lia
def Rj(h:n<4096):(EB (n.log2+1)).filter (tG n)=fD n:=by
 unfold fD
 have e:=Ma (p:=tG n) (m:=n.log2+1) (λk a=>by
  unfold tG;have b:n<2 ^ k:=aE Nat.lt_log2_self (FP (by decide) a);rw[Nat.div_eq_of_lt b]
  rfl) (12-(n.log2+1))
 rw[show n.log2+1+(12-(n.log2+1))=12 by have:=aAL h;lia] at e;exact e.symm
def a_(a k:Nat)(h:a<2 ^ k):zJ (a:Int) (p2 k)=((a+2 ^ k:Nat):Int):=by
 unfold p2
 have e:a &&& 2 ^ k=0:=Nat.eq_of_testBit_eq λi=>by
  rw[Nat.testBit_and,Nat.testBit_two_pow,Nat.zero_testBit];by_cases c:k=i
  ·subst c;rw[Nat.testBit_lt_two_pow h];rfl
  ·rw[ZA c,V1]
 rw[PyProof.Rows.bitOr_and,Se (by lia) (by lia),OE,OE,e]
 lia
theorem i6(n:Nat):∀m,((EB m).filter (tG n)).foldl (λa k=>zJ a (p2 k)) 0=((n % 2 ^ m:Nat):Int)
 | 0=>by simp[Nat.mod_one]
 |m+1=>by
  rw[lM,PJ,Lf,i6 n m,Q1,Nat.mod_pow_succ]
  cases h:tG n m with
  |true =>
   have h:n / 2 ^ m % 2=1:=of_decide_eq_true h;rw[h];simp only[if_true,List.filter_nil,DJ,y2];rw[a_ _ _ (Nat.mod_lt _ (Nat.pow_pos (by decide))),Nat.mul_one]
  |false =>
   have h:¬n / 2 ^ m % 2=1:=of_decide_eq_false h;rw[show n / 2 ^ m % 2=0 by lia];simp
def A4(h:n<4096):(fD n).foldl (λa k=>zJ a (p2 k)) 0=(n:Int):=by
 unfold fD;rw[i6,Nat.mod_eq_of_lt (show n<2 ^ 12 from h)]
def tV(h:n<4096)(a:n≠0):fD n≠[]:=λz=>by
 have:=A4 h
 rw[z] at this;simp only[y2] at this
 lia
def jC(n:Nat):List fA:=(fD n).map λ(k:Nat)=>num (k:Int)
def OB(n:Nat):fA:=if n=0 then("-":fA) else QB "," (jC n)
def JQ(h:k∈fD b):k<12:=by
 unfold fD at h;exact IG.mp (kM.mp h).1
def B4(b:Nat):(fD b).length<=12:=by
 unfold fD;exact KC (HN _ _) (by simp)
def wd:D->fA
 |.int i=>num i
 |.str x=>x
 |_=>("":fA)
structure WO(w:fA):Prop where
 tg:TG 60 w
 yO:32 ∉ w.cps.toList
 jR:10 ∉ w.cps.toList
 ne:w.cps.toList≠[]
def TG.up(h:TG n w)(k:n<=m):TG m w:=⟨KC h.len k,h.asc⟩
def yS{i:Int}(h:eH i):(num i).cps.toList≠[]:=λz=>by
 have a:=h.l1;rw[show num i=⟨#[]⟩ from aAE z] at a;exact absurd a (by decide +kernel)
def CG(a:-60<=i)(b:i<=60):WO (num i):=have h:=JC a b;⟨h.tg.up (by decide),h.yO,h.jR,yS h⟩
noncomputable def CA(a:List fA):fA:=QB " " a
def xN{el:E}(a:el=.bif .str [.v 1]){ds:List D}(hd:∀d∈ds,QC .str [d]=aA (.s (wd d))) :
  ∃t,tD (aC T.dA (run T W n) []) (ev T.dA (run T W n) cA el) (UA bA [1]) ds [] [.un,.un]=some (.ok ((ds.map wd).map D.str),[.un,t]):=by
 obtain⟨g,e,t,rfl,b⟩:=aI (P:=T.dA) (C:=run T W n) (DB:=ev T.dA (run T W n) cA el) (bind:=UA bA [1]) (xs:=ds) id (λd=>D.str (wd d)) (λY=>∃t,Y=[.un,t]/\KA t=bA)
  (λd c Y f=>by
   obtain⟨t,rfl,b⟩:=f;have h:=hd d c;refine⟨[.un,.sh d],.s (wd d),[.un,.sh d],by simp only[HB,eB b]<;>rfl, ?_,rfl,_,rfl,rfl⟩;rw[a]
   generalize wd d=w at *
   clear c hd b a
   walk_at "!") (Y:=[.un,.un]) ⟨_,rfl,rfl⟩
 refine⟨t, ?_⟩;rw[Z2] at e;rw[e,rE];rfl
def bb(b:∀w∈a,WO w)(hl:a.length<=20):TG 2000 (CA a)/\10 ∉ (CA a).cps.toList:=by
 refine⟨(mN LG (by decide) (λw h=>(b w h).tg) (by lia) (by decide)).1,λz=>?_⟩;rcases XR LG z with h | ⟨w,c,d⟩
 ·cases h
 ·exact(b w c).jR d
def cb(c:s=.sh (.l a)\/s=.sh (.t a))(hd:∀d∈a,QC .str [d]=aA (.s (wd d)))(g:∀w∈a.map wd,WO w)(hl:a.length<=60) :
  run T W (n+1) "b" [s]=some (.ok (.s (CA (a.map wd))),[s]):=by
 rw[DG xi rfl (by rcases c with rfl | rfl<;>rfl)];unfold vR;obtain⟨t,e⟩:=xN (W:=W) (n:=n) (el:=P5) rfl hd;have j:=jJ LG (by decide) (B:=60) (N:=4000) (ws:=a.map wd) (λw h=>(g w h).tg) (by rw[pA];lia) (by decide);have i:NA ((a.map wd).map D.str).length=bA:=kB (by simp;lia)
 have f:aAc .of [.slot 0] [s]=aA (a,eA):=by
  rcases c with rfl | rfl
  ·exact m7 rfl
  ·exact jN rfl
 unfold CA
 generalize (a.map wd).map D.str=L at *
 generalize QB _ (a.map wd)=k at *
 rcases c with rfl | rfl
 ·walk_at "!"
  rw[IC f]
  walk_at "!"
  all_goals (first | done | (rw[RC rfl];walk_at "!"))
 ·walk_at "!"
  rw[IC f]
  walk_at "!"
  all_goals (first | done | (rw[RC rfl];walk_at "!"))
def vN(c:s=.sh (.l a)\/s=.sh (.t a))(hd:∀d∈a,QC .str [d]=aA (.s (wd d)))(e:∀w∈a.map wd,WO w)(hl:a.length<=20) :
  run T W (n+1) "b" [s]=some (.ok (.s (CA (a.map wd))),[s]):=cb c hd e (KC hl (by decide))
def XH{x y:fA}:(x++y).cps.toList=x.cps.toList++y.cps.toList:=by
 show(x.cps++y.cps).toList=_;simp
def uN(a:List fA):(CA a).cps.toList=jS 32 (a.map λw=>w.cps.toList):=by
 unfold CA;rw[LG,show QB ⟨#[32]⟩ a=XD ⟨#[32]⟩ a from RK _ _,lN]
def vW(f:Int×Int×Bool):List fA:=("voice":fA)::num f.1::num f.2.1::(if f.2.2=bA then [("turned":fA)] else [])
def Q8:(" turned":fA).cps.toList=32::("turned":fA).cps.toList:=by decide +kernel
def R8:("voice ":fA).cps.toList=("voice":fA).cps.toList++[32]:=by decide +kernel
def uv:("notes ":fA).cps.toList=("notes":fA).cps.toList++[32]:=by decide +kernel
def kv:("bar ":fA).cps.toList=("bar":fA).cps.toList++[32]:=by decide +kernel
def vv:("octave ":fA).cps.toList=("octave":fA).cps.toList++[32]:=by decide +kernel
def O8:(" ":fA).cps.toList=[32]:=by decide +kernel
theorem P8:("":fA).cps.toList=[]:=by decide +kernel
def kGa:CA [a,b,c]++(" turned":fA)=CA [a,b,c,("turned":fA)]:=aAE (by
 rw[XH,uN,uN,Q8]
 simp[jS])
def YS(h:p.cps.toList=q.cps.toList++[32]):p++a=CA [q,a]:=aAE (by
 rw[XH,uN,h]
 simp[jS])
def lGa(c:Bool):((((("voice ":fA)++a)++(" ":fA))++b)++(if c=bA then(" turned":fA) else("":fA)))=CA (("voice":fA)::a::b::(if c=bA then [("turned":fA)] else [])):=aAE (by
 cases c
 ·rw[zG,zG,XH,XH,XH,XH,uN,R8,O8,P8];simp[jS]
 ·rw[QA rfl,QA rfl,XH,XH,XH,XH,uN,R8,O8,Q8]
  simp[jS])
def gF(h:(decide (w.length<=60/\w.cps.toList≠[])&&iP w)=bA):WO w:=by
 rw[IA,MH] at h;obtain⟨a,b,c,_⟩:=la h.2;exact⟨⟨h.1.1,a⟩,b,c,h.1.2⟩
def A0:WO "voice":=gF (by decide +kernel)
def tHa:WO "turned":=gF (by decide +kernel)
def ue:WO "notes"/\WO "bar"/\WO "octave":=⟨gF (by decide +kernel),gF (by decide +kernel),gF (by decide +kernel)⟩
def qU(f:Int×Int×Bool):Prop:=0<=f.1/\f.1<=4/\-12<=f.2.1/\f.2.1<=12
def ie(h:qU f):(∀w∈vW f,WO w)/\(vW f).length<=20:=by
 obtain⟨a,b,c⟩:=f;obtain⟨g,j,k,l⟩:=h;have d:=CG (i:=a) (by simp at g;lia) (by simp at j;lia);have e:=CG (i:=b) (by simp at k;lia) (by simp at l;lia);unfold vW;cases c
 ·refine⟨?_,by simp⟩;dsimp only;rw[zG];exact fc A0 (fc d (fc e λ_ h=>nomatch h))
 ·refine⟨?_,by simp⟩;dsimp only;rw[QA rfl];exact fc A0 (fc d (fc e (fc tHa λ_ h=>nomatch h)))
def Fp(h:qU f):run T W (n+2) "5" [.sh (toD f)]=some (.ok (.s (CA (vW f))),[.sh (toD f)]):=by
 exists mX
 obtain⟨a,b,c⟩:=f;obtain⟨e,g,j,k⟩:=h;have p:=JC (i:=a) (by simp at e;lia) (by simp at g;lia);have q:=JC (i:=b) (by simp at j;lia) (by simp at k;lia);have t:=CG (i:=a) (by simp at e;lia) (by simp at g;lia);have u:=CG (i:=b) (by simp at j;lia) (by simp at k;lia);have d:∀w∈[D.str "voice",.int a,.int b].map wd,WO w:=fc A0 (fc t (fc u λ_ h=>nomatch h))
 have l:=vN (W:=W) (n:=n) (s:=.sh (.l [.str "voice",.int a,.int b])) (.inl rfl) (fc eI (fc p.s (fc q.s λ_ h=>nomatch h))) d (by simp);have m:=(bb d (by simp)).1.len;replace l:run T W (n+1) "b" [.sh (.l [.str "voice",.int a,.int b])]=some (.ok (.s (CA ["voice",num a,num b])),[.sh (.l [.str "voice",.int a,.int b])]):=l;replace m:(CA ["voice",num a,num b]).length<=2000:=m;unfold toD vW;cases c
 ·dsimp only;rw[zG]
  generalize CA _=r at *
  walk_at "!"
 ·dsimp only;rw[QA rfl,<- kGa];have o:((" turned":fA)).length=7:=by decide +kernel
  have v:=SI (x:=CA ["voice",num a,num b]) (y:=" turned") (by lia)
  generalize CA _=r at *
  walk_at "!"
def rP(a:n≠0):OB n=QB "," (jC n):=by unfold OB;rw[pB a]
def IM(h:w∈jC n):∃k:Nat,k<12/\w=num (k:Int):=by
 unfold jC at h;obtain⟨k,a,rfl⟩:=wB.mp h;exact⟨k,JQ a,rfl⟩
def IQ:∀w∈jC n,TG 3 w:=λw h=>by
 obtain⟨k,a,rfl⟩:=IM h;exact(JC (by lia) (by lia)).tg
def HM(n:Nat):(jC n).length<=12:=by unfold jC;rw[pA];exact B4 n
def nEa(e:n<4096):WO (OB n):=by
 by_cases a:n=0
 ·subst a;exact gF (w:=OB 0) (by decide +kernel)
 ·rw[rP a];have hl:=HM n;refine⟨(mN VI (by decide) IQ (by lia) (by decide)).1.up (oB 60),λz=>?_,λz=>?_,λz=>?_⟩
  ·rcases XR VI z with h | ⟨w,b,c⟩
   ·cases h
   ·obtain⟨k,d,rfl⟩:=IM b;exact(JC (i:=(k:Int)) (by lia) (by lia)).yO c
  ·rcases XR VI z with h | ⟨w,b,c⟩
   ·cases h
   ·obtain⟨k,d,rfl⟩:=IM b;exact(JC (i:=(k:Int)) (by lia) (by lia)).jR c
  ·rw[VI,show QB ⟨#[44]⟩ (jC n)=XD ⟨#[44]⟩ (jC n) from RK _ _,lN] at z
   cases q:fD n with
   |nil=>exact tV e a q
   |cons k r =>
    unfold jC at z;rw[q] at z;have d:k<12:=JQ (by rw[q];exact AD);exact B7 (yS (JC (i:=(k:Int)) (by lia) (by lia))) z
def uEa{W m n:Nat}(d:n<4096):run T W (m+1) "6" [.i n]=some (.ok (.s (OB n)),[.i n]):=by
 exists pX
 by_cases f:n=0
 ·subst f;have e:decide (((0:Nat):Int)=0)=bA:=rfl;have l:OB 0="-":=rfl;rw[l];clear d l
  walk_at "!"
 ·have e:decide ((n:Int)=0)=cA:=ZA (by lia)
  obtain⟨F,o,t,rfl,g⟩:=vO (tests:=aC T.dA (run T W m) [(.tA .Eq (.sA .BitAnd (.sA .RShift (.v 0) (.v 2)) (.c (.int 1))) (.c (.int 1)))]) (DB:=ev T.dA (run T W m) cA dW) (bind:=UA bA [2]) (xs:=EB (n.log2+1))
   (λ(k:Nat)=>D.int k) (tG n) (λ(k:Nat)=>D.str (num (k:Int))) (λY=>∃t,Y=[.i n,.un,t]/\KA t=bA)
   (λk h Y r=>by
    obtain⟨t,rfl,g⟩:=r;have h:k<n.log2+1:=IG.mp h;have p:=aAL d;have u:(0:Int)<=(k:Int):=by lia
    have v:=pGa n k;have x:((k:Int)).toNat=k:=OE k;have y:=(JC (i:=(k:Int)) (by lia) (by lia)).s;refine⟨[.i n,.un,.i k],[.i n,.un,.i k],by simp only[HB,eB g]<;>rfl, ?_,λ_=>⟨.s (num (k:Int)),[.i n,.un,.i k], ?_,rfl,_,rfl,rfl⟩,λ_=>⟨_,rfl,rfl⟩⟩
    ·generalize tG n k=b at *
     clear y h p e f d g;cases b<;>walk_at "!"
    ·unfold dW
     generalize num (k:Int)=w at *
     clear h p e f d g v x u
     walk_at "!") (Y:=[.i n,.un,.un]) ⟨_,rfl,rfl⟩
  have a:=Rj d;rw[a] at o;have c:(fD n).map (λ(k:Nat)=>D.str (num (k:Int)))=(jC n).map D.str:=by unfold jC;rw[rE];rfl
  rw[c] at o;have j:=aAL d;have z:∀Y,aAc .BB [.val (.i ((n.log2+1:Nat):Int))] Y=aA (rg (n.log2+1),eA):=λY=>iJ (by lia)
  have A:sV (aA (.int n))=aA (.i ((n.log2+1:Nat):Int)):=by(show aA (RV.sh (.int ((sM (n:Int):Nat):Int)))=_;rw[Qj f])
  have H:=jJ VI (by decide) (B:=3) (N:=60) (ws:=jC n) IQ (by have:=HM n;lia) (by decide);have C:NA ((jC n).map D.str).length=bA:=kB (by rw[pA];have:=HM n;lia);rw[rP f]
  generalize (jC n).map D.str=L at *
  generalize QB _ (jC n)=I at *
  generalize n.log2+1=q at *
  clear d f a c j g
  walk_at "!"
  rw[IC (z _)]
  walk_at "!"
  all_goals (first | done | (rw[RC rfl];walk_at "!"))
theorem Nk:vB .In (.str ⟨#[c]⟩) (.str "0123456789")=aA (YI c):=rfl
def Zo{Z:List Nat}:QC .all [.l (Z.map λz=>.bl (p z))]=aA (.b (Z.all p)):=by
 have h:yE (Z.map λz=>D.bl (p z))=aA (Z.map p):=by
  induction Z with
  |nil=>rfl
  |cons a r b =>
   show(yE (r.map λz=>D.bl (p z))).map (p a :: ·)=_;rw[b];rfl
 show(yE _).map _=_;rw[h];simp[fU,J1]
def mDa:∃t,tD (aC T.dA (run T W n) []) (ev T.dA (run T W n) cA aR) (UA bA [1]) (tK fg) [] [.un,.un]=some (.ok (fg.cps.toList.map λc=>.bl (YI c)),[.un,t]):=by
 obtain⟨f,e,t,rfl,a⟩:=aI (P:=T.dA) (C:=run T W n) (DB:=ev T.dA (run T W n) cA aR) (bind:=UA bA [1]) (xs:=fg.cps.toList) (λc=>D.str ⟨#[c]⟩) (λc=>D.bl (YI c)) (λY=>∃t,Y=[.un,t]/\KA t=bA)
  (λc g Y b=>by
   obtain⟨t,rfl,a⟩:=b;have d:=Nk (c:=c);refine⟨[.un,.s (⟨#[c]⟩)],.b (YI c),[.un,.s (⟨#[c]⟩)],by simp only[HB,eB a]<;>rfl, ?_,rfl,_,rfl,rfl⟩;unfold aR
   walk_at "!") (Y:=[.un,.un]) ⟨_,rfl,rfl⟩
 exact⟨t,e⟩
def Pa{W n:Nat}{i:Int}(h:eH i):run T W (n+1) "7" [.s (num i)]=some (.ok (.i i),[.s (num i)]):=by
 rw[DG (fn:=yL) rfl rfl rfl];obtain⟨o,f,_,_,_,g,d,b,e,hit⟩:=h;have j:=f.len;have k:=ep (by lia:(num i).length<=640) hit;have l:(num i==num i)=bA:=YC _;obtain⟨fg,a⟩:∃fg,fg=fI (num i):=⟨_,rfl⟩
 rw[<- a] at g d b e
 have q:YA T.dA (run T W n) W (yL.body.take 1) ([.s (num i)]++CB yL.nl .un)=aA (.nx,[.s (num i),.s fg,.un]):=by
  unfold yL;unfold fI at a
  cases hb:UP (num i) ("-":fA) with
  |true =>
   rw[hb,QA rfl] at a
   have s:mE (aA (.str (num i))) (aA (.int 1)) eA=aA (.s fg):=by(show WL (.str (num i)) (aA 1) eA=_;rw[a];exact wDa (by lia) (by rw[<- a];exact OL b))
   clear a o f g d b e hit j k l
   walk_at "!"
  |false =>
   rw[hb,zG] at a;subst a;clear o f g d b e hit j k l
   walk_at "!"
 rw[bK q];clear q;obtain⟨t,x⟩:=mDa (W:=W) (n:=n) (fg:=fg);have r:QC .len [.str fg]=aA (.i fg.length):=QA (by lia);have u:aAc .sig [.slot 1] [.s (num i),.s fg,.un]=aA (tK fg,eA):=jt rfl b (OL b);have m:=Zo (Z:=fg.cps.toList) (p:=YI);rw[e] at m;have v:NA (fg.cps.toList.map λc=>D.bl (YI c)).length=bA:=kB (by rw[pA,eM];exact KC d (by decide));have y:decide ((1:Int)<=(fg.length:Int))=bA:=rB (by lia);have z:decide ((fg.length:Int)<=60)=bA:=rB (by lia);unfold yL
 generalize (fg.cps.toList.map λc=>D.bl (YI c))=L at *
 generalize num i=w at *
 clear a f g d b e hit j
 walk_at "!"
 rw[IC u]
 walk_at "!"
 all_goals (first | done | (rw[RC rfl];walk_at "!"))
noncomputable def bC(a:List fA):D:=.l (a.map D.str)
def VL{W n:Nat}{is:List Int}(h:∀i∈is,eH i)(hl:is.length<=1000) :
  run T W (n+2) "c" [.sh (bC (is.map num))]=some (.ok (.ow (.l (is.map D.int))),[.sh (bC (is.map num))]):=by
 exists iX
 obtain⟨j,e,t,rfl,a⟩:=aI (P:=T.dA) (C:=run T W (n+1)) (DB:=ev T.dA (run T W (n+1)) cA YV) (bind:=UA bA [1]) (xs:=is) (λi=>D.str (num i)) D.int (λY=>∃t,Y=[.un,t]/\KA t=bA)
  (λi b Y f=>by
   obtain⟨t,rfl,a⟩:=f;have k:=Pa (W:=W) (n:=n) (h i b);refine⟨[.un,.s (num i)],.i i,[.un,.s (num i)],by simp only[HB,eB a]<;>rfl, ?_,rfl,_,rfl,rfl⟩;unfold YV;clear h hl b a
   walk_at "!") (Y:=[.un,.un]) ⟨_,rfl,rfl⟩
 have d:is.map (λi=>D.str (num i))=(is.map num).map D.str:=by rw[rE];rfl
 rw[d] at e;have b:aAc .of [.slot 0] [.sh (bC (is.map num))]=aA ((is.map num).map D.str,eA):=m7 rfl;have g:NA (is.map D.int).length=bA:=kB (by rw[pA];lia)
 unfold bC at *
 generalize (is.map num).map D.str=L at *
 generalize is.map D.int=M at *
 clear h hl a d
 walk_at "!"
 rw[IC b]
 walk_at "!"
 all_goals (first | done | (rw[RC rfl];walk_at "!"))
def wx{k:Nat}(h:k<12):45 ∉ (num (k:Int)).cps.toList:=by
 have:∀k<12,(num ((k:Nat):Int)).cps.toList.contains 45=cA:=by decide +kernel
 intro z
 have:=this k h
 rw[List.contains_eq_mem,decide_eq_false_iff_not] at this;exact this z
def tEa{W m n:Nat}(o:n<4096):run T W (m+3) "8" [.s (OB n)]=some (.ok (.i n),[.s (OB n)]):=by
 exists jX
 by_cases l:n=0
 ·subst l;have y:OB 0="-":=rfl;have P:(("-":fA)==("-":fA))=bA:=YC _;have A:((0:Nat):Int)=0:=rfl;rw[y,A];clear o y A
  walk_at "!"
 ·have s:(OB n == "-")=cA:=by
   rw[CK];intro z;have p:45∈(OB n).cps.toList:=by rw[z];decide +kernel
   rw[rP l] at p;rcases XR VI p with h | ⟨w,C,F⟩
   ·cases h
   ·obtain⟨k,e,rfl⟩:=IM C;exact wx e F
  have f:jC n≠[]:=λz=>tV o l (FT.mp z)
  have u:∀Y,vI "," Y (aA (.s (OB n)))=some (.ok (.ow (.l ((jC n).map D.str))),Y):=λY=>by
   rw[rP l];refine US VI (by decide) (B:=3) (N:=60) IQ (by have:=HM n;lia) (by decide) f λw H=>?_
   obtain⟨k,e,rfl⟩:=IM H;exact(JC (i:=(k:Int)) (by lia) (by lia)).Vo
  have v:=VL (W:=W) (n:=m) (is:=(fD n).map λ(k:Nat)=>(k:Int)) (λi I=>by
   obtain⟨k,e,rfl⟩:=wB.mp I
   have:=JQ e
   exact JC (by lia) (by lia)) (by rw[pA];have:=B4 n;lia)
  have g:((fD n).map λ(k:Nat)=>(k:Int)).map num=jC n:=by unfold jC;rw[rE];rfl
  have j:((fD n).map λ(k:Nat)=>(k:Int)).map D.int=(fD n).map λ(k:Nat)=>D.int k:=by rw[rE];rfl
  rw[g,j] at v;unfold bC at v
  obtain⟨Q,J,t,rfl,r⟩:=CF (bind:=UA bA [2]) (body:=YA T.dA (run T W (m+2)) W iV)
   (λpre Y=>∃t,Y=[.s (OB n),.i ((pre.map λd=>match d with | .int k=>k.toNat | _=>0).foldl (λa k=>zJ a (p2 k)) 0),t]/\KA t=bA)
   (ds:=(fD n).map λ(k:Nat)=>D.int k) (λpre d post q Y K=>by
    obtain⟨t,rfl,r⟩:=K;obtain⟨k,e,rfl⟩:∃k∈fD n,D.int k=d:=wB.mp (by rw[q];simp)
    have e:=JQ e;have H:=RD (W:=W) (n:=m) (i:=(k:Int)) (a:=0) (b:=11) (by lia) (by lia);have C:(0:Int)<=(k:Int):=by lia
    have F:(k:Int)<=1000:=by lia
    refine⟨_,by simp only[HB,eB r]<;>rfl, ?_⟩;rw[BD,Lf];simp only[HC,HJ,DJ,y2,OE,<- G9]
    generalize (pre.map λd=>match d with | .int k=>k.toNat | _=>0).foldl (λa k=>zJ a ((2:Int) ^ k)) 0=O at *
    generalize OB n=w at *
    have R:((k:Int)).toNat=k:=OE k;unfold iV;clear q e r o l s f u v g j
    walk_at "!"
    exact⟨_,rfl,_,rfl,rfl⟩)
   (Y:=[.s (OB n),.i 0,.un]) ⟨_,rfl,rfl⟩
  have c:(((fD n).map λ(k:Nat)=>D.int k).map λd=>match d with | .int k=>k.toNat | _=>0)=fD n:=by(rw[rE];exact ug (λx=>by simp) _)
  rw[c,A4 o] at J;have I:∀Y,aAc .of [.val (.ow (.l ((fD n).map λ(k:Nat)=>D.int k)))] Y=aA ((fD n).map λ(k:Nat)=>D.int k,eA):=λY=>kI rfl
  generalize (fD n).map (λ(k:Nat)=>D.int k)=L at *
  generalize (jC n).map D.str=M at *
  generalize OB n=w at *
  clear c f g j r l o
  walk_at "!"
def Bb{L:List D}{c:Nat}:mE (aA (.l L)) eA (aA (.int c))=aA (.ow (.l (L.take c))):=by
 show aA (RV.ow (.l (aAu L eA (aA (c:Int)))))=_;unfold aAu;rw[HT.qP,HT.HS,XT,Nat.sub_zero];by_cases h:c<=L.length
 ·rw[PN h]
 ·rw[Wf (by lia),QK (oB _),QK (by lia)]
def QS{L:List D}{c:Nat}:mE (aA (.l L)) (aA (.int c)) eA=aA (.ow (.l (L.drop c))):=by
 show aA (RV.ow (.l (aAu L (aA (c:Int)) eA)))=_;unfold aAu;rw[HT.qP,HT.HS];by_cases h:c<=L.length
 ·rw[PN h,QK (by rw[jM];lia)]
 ·rw[Wf (by lia),jQ,bQ,List.drop_of_length_le (by lia)]
def Kb:List D->List fA
 |[.int a,.int b]=>[num a,OB b.toNat]
 |_=>[]
def rW:D->List fA
 |.t (.str x::a)=>x::(if(x==("span":fA))=bA then Kb a else a.map wd)
 |_=>[]
structure RT(d:D):Prop where
 sh:∀W n,run T W (n+2) "E" [.sh d]=some (.ok (.s (CA (rW d))),[.sh d])
 tx:∀W n,run T W (n+1) "R" [.sh d]=some (.ok (.s (CA (rW d))),[.sh d])
 rd:∀W n,run T W (n+4) "aa" [.sh (bC (rW d))]=some (.ok (.sh d),[.sh (bC (rW d))])
 wo:∀w∈rW d,WO w
 ln:(rW d).length<=20
 nv:∃x r,rW d=x::r/\(x==("voice":fA))=cA
def pb{x:fA}{ps:List D}(c:(x==("span":fA))=cA)(hd:∀d∈D.str x::ps,QC .str [d]=aA (.s (wd d)))(b:∀w∈x::ps.map wd,WO w)(hl:ps.length<=10) :
  rW (.t (.str x::ps))=x::ps.map wd/\(∀W n,run T W (n+2) "E" [.sh (.t (.str x::ps))]=some (.ok (.s (CA (x::ps.map wd))),[.sh (.t (.str x::ps))])) /\
  ∀W n,run T W (n+1) "R" [.sh (.t (.str x::ps))]=some (.ok (.s (CA (x::ps.map wd))),[.sh (.t (.str x::ps))]):=by
 have a:((D.str x::ps).map wd)=x::ps.map wd:=rfl;refine⟨?_,λW n=>?_,λW n=>?_⟩
 ·show x::(if(x == "span")=bA then Kb ps else ps.map wd)=_;rw[c,zG]
 ·exists EO
  have f:=vN (W:=W) (n:=n) (s:=.sh (.t (.str x::ps))) (.inr rfl) hd b (by simp;lia);rw[a] at f
  generalize CA _=t at *
  clear hd b hl a
  walk_at "!"
 ·exists cK
  obtain⟨t,e⟩:=xN (W:=W) (n:=n) (el:=VQ) rfl hd;have j:=jJ LG (by decide) (B:=60) (N:=2000) (ws:=(D.str x::ps).map wd) (λw h=>(b w h).tg) (by rw[pA,VB];lia) (by decide);have g:NA (((D.str x::ps).map wd).map D.str).length=bA:=kB (by simp;lia);have i:aAc .of [.slot 0] [.sh (.t (.str x::ps)),.un]=aA (.str x::ps,eA):=jN rfl;rw[<- a];unfold CA
  generalize ((D.str x::ps).map wd).map D.str=L at *
  generalize QB _ ((D.str x::ps).map wd)=k at *
  clear hd b hl a
  walk_at "!"
  rw[IC i]
  walk_at "!"
  all_goals (first | done | (rw[RC rfl];walk_at "!"))
def rDa{L:List D}{a:D}:mE (aA (.l (a::L))) eA (aA (.int 1))=aA (.ow (.l [a])):=by
 have h:=Bb (L:=a::L) (c:=1)
 rwa[JN,bQ] at h
def sDa{L:List D}{a:D}:mE (aA (.l (a::L))) (aA (.int 1)) eA=aA (.ow (.l L)):=QS (L:=a::L) (c:=1)
def vDa{L:List D}{a b:D}:mE (aA (.l (a::b::L))) (aA (.int 2)) eA=aA (.ow (.l L)):=QS (L:=a::b::L) (c:=2)
def NS{L:List D}{a b c:D}:mE (aA (.l (a::b::c::L))) (aA (.int 3)) eA=aA (.ow (.l L)):=QS (L:=a::b::c::L) (c:=3)
theorem tDa{L:List D}{a b c:D}:mE (aA (.l [a,b,c])) (aA (.int 1)) (aA (.int 2))=aA (.ow (.l [b])):=rfl
theorem uDa{a b c:D}:mE (aA (.l [a,b,c])) (aA (.int 1)) (aA (.int 3))=aA (.ow (.l [b,c])):=rfl
theorem Ab{a b c d:D}:mE (aA (.l [a,b,c,d])) (aA (.int 1)) (aA (.int 3))=aA (.ow (.l [b,c])):=rfl
def pP{x:fA}{is:List Int}(p:(x==("span":fA))=cA)(r:(x==("never":fA))=cA)(o:(x==("voice":fA))=cA)(g:WO x)(c:∀i∈is,-60<=i/\i<=60)(hl:is.length<=10):RT (.t (.str x::is.map D.int)):=by
 have e:(is.map D.int).map wd=is.map num:=by rw[rE];rfl
 have f:∀w∈x::(is.map D.int).map wd,WO w:=fc g (by
  rw[e];intro w f;obtain⟨i,h,rfl⟩:=wB.mp f
  exact CG (c i h).1 (c i h).2)
 obtain⟨b,l,m⟩:=pb (x:=x) (ps:=is.map D.int) p (fc eI λd hd=>by
  obtain⟨i,h,rfl⟩:=wB.mp hd
  exact(JC (c i h).1 (c i h).2).s) f (by simpa using hl)
 rw[e] at b l m f;refine⟨λW n=>by rw[b];exact l W n,λW n=>by rw[b];exact m W n,λW n=>?_,by rw[b];exact f,by rw[b];simp;lia,⟨_,_,b,o⟩⟩;rw[b,DG (fn:=eK) rfl rfl rfl];unfold eK;have q:=VL (W:=W) (n:=n+1) (is:=is) (λi h=>JC (c i h).1 (c i h).2) (by lia);have j:bC (x::is.map num)=.l (.str x::(is.map num).map D.str):=rfl;rw[j];unfold bC at q;have t:=rDa (L:=(is.map num).map D.str) (a:=.str x);have u:=sDa (L:=(is.map num).map D.str) (a:=.str x);have k:NA ([D.str x].length+(is.map D.int).length)=bA:=kB (by simp;lia);have v:=KG k
 generalize (is.map num).map D.str=L at *
 generalize is.map D.int=M at *
 clear b l m f e c hl g o j k
 walk_at "!"
def zBa(f:-60<=a/\a<=60)(g:-60<=b/\b<=60)(m:WO x):RT (.t [.str "never",.int a,.int b,.str x]):=by
 have j:=JC f.1 f.2;have k:=JC g.1 g.2;have o:=CG f.1 f.2;have r:=CG g.1 g.2;have y:(("never":fA)==("span":fA))=cA:=by decide +kernel
 have z:(("never":fA)==("never":fA))=bA:=YC _;have l:∀w∈("never":fA)::[D.int a,.int b,.str x].map wd,WO w:=fc (gF (by decide +kernel)) (fc o (fc r (fc m λ_ h=>nomatch h)))
 obtain⟨e,t,u⟩:=pb (x:="never") (ps:=[.int a,.int b,.str x]) y (fc eI (fc j.s (fc k.s (fc eI λ_ h=>nomatch h)))) l (by simp);refine⟨λW n=>by rw[e];exact t W n,λW n=>by rw[e];exact u W n,λW n=>?_,by rw[e];exact l,by rw[e];simp,⟨_,_,e,by decide +kernel⟩⟩;rw[e,DG (fn:=eK) rfl rfl rfl];unfold eK;have v:=VL (W:=W) (n:=n+1) (is:=[a,b]) (fc j (fc k λ_ h=>nomatch h)) (by simp);have i:bC ("never" :: [D.int a,.int b,.str x].map wd)=.l [.str "never",.str (num a),.str (num b),.str x]:=rfl;rw[i];replace v:run T W (n+1+2) "c" [.sh (.l [.str (num a),.str (num b)])]=some (.ok (.ow (.l [.int a,.int b])),[.sh (.l [.str (num a),.str (num b)])]):=v;have A:=Ab (a:=.str "never") (b:=.str (num a)) (c:=.str (num b)) (d:=.str x);have B:=NS (L:=[.str x]) (a:=.str "never") (b:=.str (num a)) (c:=.str (num b));have C:xB .Add (.l [.str "never"]) (.l [.int a,.int b])=aA (.ow (.l [.str "never",.int a,.int b])):=KG (kB (by simp));have F:xB .Add (.l [.str "never",.int a,.int b]) (.l [.str x])=aA (.ow (.l [.str "never",.int a,.int b,.str x])):=KG (kB (by simp))
 generalize num a=p at *
 generalize num b=q at *
 clear e t u l f g m i j k o r
 walk_at "!"
def Cm:QB "," []=("":fA):=by decide +kernel
def Ex{k:Nat}(h:k<12):(num (k:Int)).cps.toList≠[]:=by
 have:∀k<12,(num ((k:Nat):Int)).cps.toList.isEmpty=cA:=by decide +kernel
 intro z
 have:=this k h
 rw[z] at this;cases this
def Qt(a:n<4096)(b:n≠0):(QB "," (jC n)==("":fA))=cA:=by
 rw[CK];intro z;have e:=congrArg (λx:fA=>x.cps.toList) z;simp only[P8] at e;rw[VI,show QB ⟨#[44]⟩ (jC n)=XD ⟨#[44]⟩ (jC n) from RK _ _,lN] at e
 cases hb:jC n with
 |nil=>exact tV a b (FT.mp hb)
 |cons w r =>
  obtain⟨k,c,rfl⟩:=IM (by rw[hb];exact AD);rw[hb] at e
  cases r with
  |nil=>exact Ex c e
  |cons v r =>
   have e:(num (k:Int)).cps.toList++44::jS 44 ((v::r).map λw=>w.cps.toList)=[]:=e;simp at e
def Av{W m n:Nat}{a:Int}(f:n<4096):∃t,tD (aC T.dA (run T W m) [(.tA .Eq (.sA .Mod (.sA .FloorDiv (.ix (.v 0) (.c (.int 2))) (.sA .LShift (.c (.int 1)) (.v 2))) (.c (.int 2))) (.c (.int 1)))]) (ev T.dA (run T W m) cA WQ) (UA bA [2]) (rg 12) [] [.sh (.t [.str "span",.int a,.int n]),.un,.un]=some (.ok ((jC n).map D.str),[.sh (.t [.str "span",.int a,.int n]),.un,t]):=by
 obtain⟨v,p,t,rfl,c⟩:=vO (tests:=aC T.dA (run T W m) [(.tA .Eq (.sA .Mod (.sA .FloorDiv (.ix (.v 0) (.c (.int 2))) (.sA .LShift (.c (.int 1)) (.v 2))) (.c (.int 2))) (.c (.int 1)))]) (DB:=ev T.dA (run T W m) cA WQ) (bind:=UA bA [2]) (xs:=EB 12)
   (λ(k:Nat)=>D.int k) (tG n) (λ(k:Nat)=>D.str (num (k:Int))) (λY=>∃t,Y=[.sh (.t [.str "span",.int a,.int n]),.un,t]/\KA t=bA)
   (λk d Y q=>by
    obtain⟨t,rfl,c⟩:=q;have d:k<12:=IG.mp d;have g:(0:Int)<=(k:Int):=by lia
    have e:(k:Int)<=1000:=by lia
    have r:=Nd n k;have h:((k:Int)).toNat=k:=OE k;obtain⟨l,o⟩:=pw (j:=(k:Int)) g (by lia);rw[h] at l o;have u:=(JC (i:=(k:Int)) (by lia) (by lia)).s;refine⟨[.sh (.t [.str "span",.int a,.int n]),.un,.i k],[.sh (.t [.str "span",.int a,.int n]),.un,.i k],by simp only[HB,eB c]<;>rfl, ?_,λ_=>⟨.s (num (k:Int)),[.sh (.t [.str "span",.int a,.int n]),.un,.i k], ?_,rfl,_,rfl,rfl⟩,λ_=>⟨_,rfl,rfl⟩⟩
    ·generalize tG n k=b at *
     clear u d f c;cases b<;>walk_at "!"
    ·unfold WQ
     generalize num (k:Int)=w at *
     clear d f c r h g e l o
     walk_at "!") (Y:=[.sh (.t [.str "span",.int a,.int n]),.un,.un]) ⟨_,rfl,rfl⟩
 refine⟨t, ?_⟩;rw[p];unfold jC fD;rw[rE];rfl
def xb:LS i v Y (aA (.ow (.l (a::b::c::d)) p cA)) (.int 2)=aA (.nx,Y.set i (.ow (.l (a::b::v::d)) p cA)):=by
 refine dDa (m:=2) ?_;show L2.DD (d.length+3) 2=aA 2;unfold L2.DD;simp
 lia
def bCa{a:Int}{n:Nat}(l:-60<=a/\a<=60)(g:n<4096):RT (.t [.str "span",.int a,.int n]):=by
 have u:=JC l.1 l.2;have v:=CG l.1 l.2;have n1:(("span":fA)==("span":fA))=bA:=YC _
 have f:rW (.t [.str "span",.int a,.int n])=[("span":fA),num a,OB n]:=by(show("span":fA)::(if(("span":fA)==("span":fA))=bA then [num a,OB ((n:Int)).toNat] else _)=_;rw[n1,QA rfl,OE])
 have r:∀w∈[("span":fA),num a,OB n],WO w:=fc (gF (by decide +kernel)) (fc v (fc (nEa g) λ_ h=>nomatch h))
 rw[show(["span",num a,OB n]:List fA)=[D.str "span",.int a,.str (OB n)].map wd from rfl] at r;refine⟨λW m=>?_,λW m=>?_,λW m=>?_,by rw[f];exact r,by rw[f];simp,⟨_,_,f,by decide +kernel⟩⟩
 ·rw[f,DG (fn:=EO) rfl rfl rfl];unfold EO;have F:=vN (W:=W) (n:=m) (s:=.sh (.l [.str "span",.int a,.str (OB n)])) (.inl rfl) (fc eI (fc u.s (fc eI λ_ h=>nomatch h))) r (by simp);replace F:run T W (m+1) "b" [.sh (.l [.str "span",.int a,.str (OB n)])]=some (.ok (.s (CA ["span",num a,OB n])),[.sh (.l [.str "span",.int a,.str (OB n)])]):=F;have hs:=uEa (W:=W) (m:=m) g
  generalize CA _=t at *
  generalize OB n=p at *
  clear f r l g u v
  walk_at "!"
 ·rw[f,DG (fn:=cK) rfl rfl rfl];obtain⟨t,e⟩:=xN (W:=W) (n:=m) (el:=VQ) (ds:=[.str "span",.int a,.int n]) rfl (fc eI (fc u.s (fc (jFa (by lia) (by lia)) λ_ h=>nomatch h)));replace e:tD (aC T.dA (run T W m) []) (ev T.dA (run T W m) cA VQ) (UA bA [1]) [.str "span",.int a,.int n] [] [.un,.un]=some (.ok [.str "span",.str (num a),.str (num (n:Int))],[.un,t]):=e;have A:aAc .of [.slot 0] [.sh (.t [.str "span",.int a,.int n]),.un]=aA ([.str "span",.int a,.int n],eA):=jN rfl
  have hA:YA T.dA (run T W m) W (cK.body.take 1) ([.sh (.t [.str "span",.int a,.int n])]++CB cK.nl .un)=aA (.nx,[.sh (.t [.str "span",.int a,.int n]),.o (.l [.str "span",.str (num a),.str (num (n:Int))])]):=by
   unfold cK;clear f r l g u v
   walk_at "!"
   rw[IC A]
   walk_at "!"
   all_goals (first | done | (rw[RC rfl];walk_at "!"))
  rw[bK hA];clear hA e A;obtain⟨t2,e2⟩:=Av (W:=W) (m:=m) (n:=n) (a:=a) g;have H:aAc .BB [.val (.i 12)] [.sh (.t [.str "span",.int a,.int n]),.o (.l [.str "span",.str (num a),.str (num (n:Int))])]=aA (rg 12,eA):=iJ (k:=12) (by decide);have Q:=jJ VI (by decide) (B:=3) (N:=60) (ws:=jC n) IQ (by have:=HM n;lia) (by decide);have I:NA ((jC n).map D.str).length=bA:=kB (by rw[pA];have:=HM n;lia);have d:=jJ LG (by decide) (B:=60) (N:=2000) (ws:=[("span":fA),num a,OB n]) (λw h=>(r w h).tg) (by simp) (by decide);have i2:∀{x y z:D},TC (aA (.l [x,y,z])) (.int 2)=aA (.sh z):=λ{_ _ _}=>rfl
  unfold cK CA;by_cases U:n=0
  ·subst U;have X:jC 0=[]:=by decide +kernel
   rw[X] at Q e2 I;rw[Cm] at Q;have J:OB 0="-":=rfl;rw[J] at d ⊢;have e5:(("":fA)==("":fA))=bA:=YC _;have e6:([]:List fA).map D.str=[]:=rfl;have K:[("span":fA),num a,("-":fA)].map D.str=[.str "span",.str (num a),.str "-"]:=rfl;rw[e6] at e2 Q I;rw[K] at d
   generalize QB _ [("span":fA),num a,("-":fA)]=tx at *
   generalize num a=p at *
   generalize (EB 12).map (λ(j:Nat)=>D.int j)=R at *
   generalize num ((0:Nat):Int)=q at *
   have Z:=@xb;clear f r l g u v X J e6 K
   walk_at "!"
   rw[IC H]
   walk_at "!"
   all_goals (first | done | (rw[RC rfl];walk_at "!"))
  ·have X:=Qt g U;have J:=rP U;rw[J] at d ⊢;have K:[("span":fA),num a,QB "," (jC n)].map D.str=[.str "span",.str (num a),.str (QB "," (jC n))]:=rfl;rw[K] at d
   generalize QB _ [("span":fA),num a,QB "," (jC n)]=tx at *
   generalize QB "," (jC n)=ty at *
   generalize (jC n).map D.str=L at *
   generalize num a=p at *
   generalize (EB 12).map (λ(j:Nat)=>D.int j)=R at *
   generalize num (n:Int)=q at *
   have Z:=@xb;clear f r l g u v J K
   walk_at "!"
   rw[IC H]
   walk_at "!"
   all_goals (first | done | (rw[RC rfl];walk_at "!"))
 ·rw[f,DG (fn:=eK) rfl rfl rfl];unfold eK;have F:=VL (W:=W) (n:=m+1) (is:=[a]) (fc u λ_ h=>nomatch h) (by simp);replace F:run T W (m+1+2) "c" [.sh (.l [.str (num a)])]=some (.ok (.ow (.l [.int a])),[.sh (.l [.str (num a)])]):=F;have hs:=tEa (W:=W) (m:=m) g
  obtain⟨Y',e,t,rfl,O⟩:=aI (P:=T.dA) (C:=run T W (m+3)) (DB:=ev T.dA (run T W (m+3)) cA cR) (bind:=UA bA [1]) (xs:=[n]) (λn=>D.str (OB n)) (λn=>D.int n) (λY=>∃t,Y=[.un,t]/\KA t=bA)
   (λi A Y hY=>by
    obtain⟨t,rfl,O⟩:=hY;obtain rfl:=ME.mp A;refine⟨[.un,.s (OB i)],.i i,[.un,.s (OB i)],by simp only[HB,eB O]<;>rfl, ?_,rfl,_,rfl,rfl⟩;unfold cR
    generalize OB i=p at *
    clear A O F g f r l u v
    walk_at "!") (Y:=[.un,.un]) ⟨_,rfl,rfl⟩
  replace e:tD (aC T.dA (run T W (m+3)) []) (ev T.dA (run T W (m+3)) cA cR) (UA bA [1]) [.str (OB n)] [] [.un,.un]=some (.ok [.int n],[.un,t]):=e;have M:bC ["span",num a,OB n]=.l [.str "span",.str (num a),.str (OB n)]:=rfl;rw[M];have s1:=tDa (L:=[]) (a:=.str "span") (b:=.str (num a)) (c:=.str (OB n));have s2:=vDa (L:=[.str (OB n)]) (a:=.str "span") (b:=.str (num a));have b1:xB .Add (.l [.str "span"]) (.l [.int a])=aA (.ow (.l [.str "span",.int a])):=KG (kB (by simp));have b2:xB .Add (.l [.str "span",.int a]) (.l [.int n])=aA (.ow (.l [.str "span",.int a,.int n])):=KG (kB (by simp));have A:∀Y,aAc .of [.val (.ow (.l [.str (OB n)]))] Y=aA ([.str (OB n)],eA):=λY=>kI rfl
  generalize num a=p at *
  generalize OB n=q at *
  clear f r l g M u v hs O
  walk_at "!"
  rw[IC (A _)]
  walk_at "!"
  all_goals (first | done | (rw[RC rfl];walk_at "!"))
def aCa(k:oc<=12)(l:ba<=4)(m:i<=3)(h:wF no ba oc i d):RT d:=by
 cases h with
 |span a b c e f g =>
  obtain⟨n,rfl⟩:∃n:Nat,b=(n:Int):=⟨b.toNat,by lia⟩
  have o:(2:Int) ^ oc.toNat<=4096:=by
   have h:oc.toNat<=12:=by lia
   have f:2 ^ oc.toNat<=2 ^ 12:=FP (by decide) h
   exact_mod_cast f
  exact bCa ⟨by lia,by lia⟩ (by lia)
 |leap a c e=>exact pP (x:="leap") (is:=[a]) (by decide +kernel) (by decide +kernel) (by decide +kernel) (gF (by decide +kernel)) (fc ⟨by lia,by lia⟩ λ_ h=>nomatch h) (by simp)
 |back a b c e f g=>exact pP (x:="back") (is:=[a,b]) (by decide +kernel) (by decide +kernel) (by decide +kernel) (gF (by decide +kernel)) (fc ⟨by lia,by lia⟩ (fc ⟨by lia,by lia⟩ λ_ h=>nomatch h)) (by simp)
 |again a c e=>exact pP (x:="again") (is:=[a]) (by decide +kernel) (by decide +kernel) (by decide +kernel) (gF (by decide +kernel)) (fc ⟨by lia,by lia⟩ λ_ h=>nomatch h) (by simp)
 |range a b c e f=>exact pP (x:="range") (is:=[a,b]) (by decide +kernel) (by decide +kernel) (by decide +kernel) (gF (by decide +kernel)) (fc ⟨by lia,by lia⟩ (fc ⟨by lia,by lia⟩ λ_ h=>nomatch h)) (by simp)
 |above v w c e f=>exact pP (x:="above") (is:=[(v:Int),(w:Int)]) (by decide +kernel) (by decide +kernel) (by decide +kernel) (gF (by decide +kernel)) (fc ⟨by lia,by lia⟩ (fc ⟨by lia,by lia⟩ λ_ h=>nomatch h)) (by simp)
 |never a b x c e f g j =>
  refine zBa ⟨by lia,by lia⟩ ⟨by lia,by lia⟩ ?_;rcases j with rfl | rfl | rfl | rfl<;>exact gF (by decide +kernel)
def Ep{W n:Nat}{f:Int×Int×Bool}(h:qU f):run T W (n+3) "9" [.sh (bC (vW f))]=some (.ok (.sh (toD f)),[.sh (bC (vW f))]):=by
 exists gX
 obtain⟨a,b,c⟩:=f;obtain⟨g,j,k,l⟩:=h;have m:=JC (i:=a) (by simp at g;lia) (by simp at j;lia);have o:=JC (i:=b) (by simp at k;lia) (by simp at l;lia);have r:=VL (W:=W) (n:=n) (is:=[a,b]) (fc m (fc o λ_ h=>nomatch h)) (by simp);replace r:run T W (n+2) "c" [.sh (.l [.str (num a),.str (num b)])]=some (.ok (.ow (.l [.int a,.int b])),[.sh (.l [.str (num a),.str (num b)])]):=r;have v:∀x:Bool,xB .Add (.l [.int a,.int b]) (.l [.bl x])=aA (.ow (.l [.int a,.int b,.bl x])):=λx=>KG (kB (by simp))
 unfold toD;cases c
 ·have e:bC (vW (a,b,cA))=.l [.str "voice",.str (num a),.str (num b)]:=rfl;rw[e];have s:=uDa (a:=.str "voice") (b:=.str (num a)) (c:=.str (num b));have t:=NS (L:=[]) (a:=.str "voice") (b:=.str (num a)) (c:=.str (num b));have u:vB .Eq (.l []) (.l [.str "turned"])=aA cA:=by simp[vB,nB,gE,sL]
  generalize num a=p at *
  generalize num b=q at *
  clear g j k l m o e
  walk_at "!"
 ·have e:bC (vW (a,b,bA))=.l [.str "voice",.str (num a),.str (num b),.str "turned"]:=rfl;rw[e];have s:=Ab (a:=.str "voice") (b:=.str (num a)) (c:=.str (num b)) (d:=.str "turned");have t:=NS (L:=[.str "turned"]) (a:=.str "voice") (b:=.str (num a)) (c:=.str (num b));have u:vB .Eq (.l [.str "turned"]) (.l [.str "turned"])=aA bA:=Hk rfl
  generalize num a=p at *
  generalize num b=q at *
  clear g j k l m o e
  walk_at "!"
def gN(no ba oc:Int):List (List fA):=[[("notes":fA),num no],[("bar":fA),num ba],[("octave":fA),num oc]]
abbrev FD:=(Int×Int×Bool) ⊕ D
def zP:FD->List fA
 |.inl f=>vW f
 |.inr d=>rW d
noncomputable def OD(fs:List (Int×Int×Bool))(rs:List D):List FD:=fs.map .inl++rs.map .inr
def hW(no ba oc:Int)(fs:List (Int×Int×Bool))(rs:List D):List (List fA):=gN no ba oc++(OD fs rs).map zP
def FE(no ba oc:Int)(fs:List (Int×Int×Bool))(rs:List D):fA:=QB "\n" ((hW no ba oc fs rs).map CA)
structure HX(no ba oc:Int)(fs:List (Int×Int×Bool))(rs:List D):Prop where
 ho:PH no ba oc fs
 rr:fb no ba oc fs.length rs
def HX.r(h:HX no ba oc fs rs):∀d∈rs,RT d:=λd hd=>aCa h.ho.o2 h.ho.b2 (by have:=h.ho.l2;lia) (h.rr.2 d hd)
theorem HX.hd(h:HX no ba oc fs rs):eH no/\eH ba/\eH oc/\WO (num no)/\WO (num ba)/\WO (num oc):=by
 obtain⟨n1,n2,b1,b2,o1,o2,_⟩:=h.ho;exact⟨JC (by lia) (by lia),JC (by lia) (by lia),JC (by lia) (by lia),CG (by lia) (by lia),CG (by lia) (by lia),CG (by lia) (by lia)⟩
theorem HX.wo(h:HX no ba oc fs rs):∀j∈hW no ba oc fs rs,(∀w∈j,WO w)/\j.length<=20/\j≠[]:=by
 obtain⟨_,_,_,m,u,y⟩:=h.hd;obtain⟨l1,l2,z⟩:=ue;intro j hm;rcases QE.mp hm with hm | hm
 ·unfold gN at hm;simp only[mD,List.not_mem_nil,or_false] at hm;rcases hm with rfl | rfl | rfl
  ·exact⟨fc l1 (fc m λ_ h=>nomatch h),by simp,by simp⟩
  ·exact⟨fc l2 (fc u λ_ h=>nomatch h),by simp,by simp⟩
  ·exact⟨fc z (fc y λ_ h=>nomatch h),by simp,by simp⟩
 ·obtain⟨x,hx,rfl⟩:=wB.mp hm;rcases QE.mp hx with hx | hx
  ·obtain⟨f,k,rfl⟩:=wB.mp hx;exact⟨(ie (h.ho.f f k)).1,(ie (h.ho.f f k)).2,by unfold zP vW;simp⟩
  ·obtain⟨d,hd,rfl⟩:=wB.mp hx;obtain⟨x,r,e,_⟩:=(h.r d hd).nv;exact⟨(h.r d hd).wo,(h.r d hd).ln,by show rW d≠[];rw[e];simp⟩
def HX.row(h:HX no ba oc fs rs):∀w∈(hW no ba oc fs rs).map CA,TG 2000 w/\10 ∉ w.cps.toList:=λw k=>by
 obtain⟨j,hm,rfl⟩:=wB.mp k;exact bb (h.wo j hm).1 (h.wo j hm).2.1
def HX.len(h:HX no ba oc fs rs):(hW no ba oc fs rs).length=3+(fs.length+rs.length)/\fs.length<=3/\rs.length<=8:=by
 refine⟨?_,h.ho.l2,h.rr.1⟩;unfold hW gN OD;simp
 lia
def HX.vD(h:HX no ba oc fs rs):kN "\n" (aA (.l (((hW no ba oc fs rs).map CA).map D.str)))=aA (.s (FE no ba oc fs rs))/\gC (FE no ba oc fs rs)=bA:=by
 obtain⟨l1,l2,k⟩:=h.len;refine⟨jJ JY (by decide) (B:=2000) (N:=100000) (λw j=>(h.row w j).1) (by rw[pA,l1];lia) (by decide), ?_⟩;exact OL (mN JY (by decide) (B:=2000) (N:=100000) (λw j=>(h.row w j).1) (by rw[pA,l1];lia) (by decide)).1.asc
def L6(h:HX no ba oc fs rs) :
  run T W (n+3) "t" [.sh (oA no ba oc fs rs)]=some (.ok (.s (FE no ba oc fs rs)),[.sh (oA no ba oc fs rs)]):=by
 exists nX
 obtain⟨l,m,o,u,v,x⟩:=h.hd;obtain⟨v1,y,z⟩:=ue;obtain⟨l1,A,B⟩:=h.len;have i:=vN (W:=W) (n:=n+1) (s:=.sh (.l [.str "notes",.int no])) (.inl rfl) (fc eI (fc l.s λ_ h=>nomatch h)) (fc v1 (fc u λ_ h=>nomatch h)) (by simp);have j:=vN (W:=W) (n:=n+1) (s:=.sh (.l [.str "bar",.int ba])) (.inl rfl) (fc eI (fc m.s λ_ h=>nomatch h)) (fc y (fc v λ_ h=>nomatch h)) (by simp);have k:=vN (W:=W) (n:=n+1) (s:=.sh (.l [.str "octave",.int oc])) (.inl rfl) (fc eI (fc o.s λ_ h=>nomatch h)) (fc z (fc x λ_ h=>nomatch h)) (by simp)
 obtain⟨Y1,e1,t1,rfl,H⟩:=aI (P:=T.dA) (C:=run T W (n+2)) (DB:=ev T.dA (run T W (n+2)) cA bW) (bind:=UA bA [1]) (xs:=fs) toD (λf=>D.str (CA (vW f))) (λY=>∃t,Y=[.un,t]/\KA t=bA)
  (λf I Y a=>by
   obtain⟨t,rfl,c⟩:=a;have J:=Fp (W:=W) (n:=n) (h.ho.f f I);refine⟨[.un,.sh (toD f)],.s (CA (vW f)),[.un,.sh (toD f)],by simp only[HB,eB c]<;>rfl, ?_,rfl,_,rfl,rfl⟩;unfold bW
   generalize CA _=p at *
   generalize toD f=q at *
   walk_at "!") (Y:=[.un,.un]) ⟨_,rfl,rfl⟩
 obtain⟨Y2,K,t2,rfl,M⟩:=aI (P:=T.dA) (C:=run T W (n+2)) (DB:=ev T.dA (run T W (n+2)) cA cW) (bind:=UA bA [1]) (xs:=rs) id (λd=>D.str (CA (rW d))) (λY=>∃t,Y=[.un,t]/\KA t=bA)
  (λd hd Y a=>by
   obtain⟨t,rfl,c⟩:=a;have J:=(h.r d hd).sh W n;refine⟨[.un,.sh d],.s (CA (rW d)),[.un,.sh d],by simp only[HB,eB c]<;>rfl, ?_,rfl,_,rfl,rfl⟩;unfold cW
   generalize CA _=p at *
   walk_at "!") (Y:=[.un,.un]) ⟨_,rfl,rfl⟩
 rw[Z2] at K;have e:=h.vD.1
 have g:((hW no ba oc fs rs).map CA).map D.str=D.str (CA ["notes",num no])::.str (CA ["bar",num ba])::.str (CA ["octave",num oc])::(fs.map (λf=>D.str (CA (vW f)))++rs.map (λd=>D.str (CA (rW d)))):=by(unfold hW gN OD;simp[zP,J1])
 rw[g] at e;have N:∀Y,aAc .of [.val (.sh (.t (fs.map toD)))] Y=aA (fs.map toD,eA):=λY=>kK rfl
 have O:∀Y,aAc .of [.val (.sh (.t rs))] Y=aA (rs,eA):=λY=>kK rfl
 have x0:TC (aA (oA no ba oc fs rs)) (.int 0)=aA (.i no):=rfl;have x1:TC (aA (oA no ba oc fs rs)) (.int 1)=aA (.i ba):=rfl;have x2:TC (aA (oA no ba oc fs rs)) (.int 2)=aA (.i oc):=rfl;have x3:TC (aA (oA no ba oc fs rs)) (.int 3)=aA (.sh (.t (fs.map toD))):=rfl;have x4:TC (aA (oA no ba oc fs rs)) (.int 4)=aA (.sh (.t rs)):=rfl;have m1:NA (fs.map (λf=>D.str (CA (vW f)))).length=bA:=kB (by rw[pA];lia);have m2:NA (rs.map (λd=>D.str (CA (rW d)))).length=bA:=kB (by rw[pA];lia);replace i:run T W (n+1+1) "b" [.sh (.l [.str "notes",.int no])]=some (.ok (.s (CA ["notes",num no])),[.sh (.l [.str "notes",.int no])]):=i;replace j:run T W (n+1+1) "b" [.sh (.l [.str "bar",.int ba])]=some (.ok (.s (CA ["bar",num ba])),[.sh (.l [.str "bar",.int ba])]):=j;replace k:run T W (n+1+1) "b" [.sh (.l [.str "octave",.int oc])]=some (.ok (.s (CA ["octave",num oc])),[.sh (.l [.str "octave",.int oc])]):=k
 generalize Q:fs.map (λf=>D.str (CA (vW f)))=F at *
 generalize U:rs.map (λd=>D.str (CA (rW d)))=R at *
 have lF:F.length<=3:=by rw[<- Q,pA];exact A
 have lR:R.length<=8:=by rw[<- U,pA];exact B
 generalize CA ["notes",num no]=X at *
 generalize CA ["bar",num ba]=Z at *
 generalize CA ["octave",num oc]=q3 at *
 have m3:NA (3+F.length)=bA:=kB (by lia);have m4:NA (([D.str X,.str Z,.str q3]++F).length+R.length)=bA:=kB (by simp;lia);have m5:NA (3+F.length+R.length)=bA:=kB (by lia);have m6:NA (F.length+3+R.length)=bA:=kB (by lia)
 generalize FE no ba oc fs rs=tt at *
 generalize oA no ba oc fs rs=hh at *
 generalize fs.map toD=V at *
 walk_at "!"
 rw[IC (N _)]
 walk_at "!"
 all_goals (first | done | (rw[RC rfl];walk_at "!"))
 all_goals (try (rw[IC (O _)];walk_at "!"))
 all_goals (first | done | (rw[RC rfl];walk_at "!"))
def KL:D->D
 |.t [.int a,.int b,.bl c]=>.str (CA (vW (a,b,c)))
 |_=>.nA
def Zi:L2.LB [a,b] (if c=bA then 1 else 0)=aA (if c=bA then b else a):=by cases c<;>rfl
def xr:(if c=bA then D.str x else D.str y)=.str (if c=bA then x else y):=by cases c<;>rfl
def bP(h:eH i):(num i).length<=3:=h.tg.len
def aAN{x y:fA}:(x++y).length=x.length+y.length:=by
 show(x.cps++y.cps).size=_;simp;rfl
def Uv:("voice ":fA).length=6/\(" ":fA).length=1/\(" turned":fA).length=7/\("":fA).length=0/\("notes ":fA).length=6/\("bar ":fA).length=4/\("octave ":fA).length=7:=by decide +kernel
def Od(h:HX no ba oc fs rs) :
  run T W (n+2) "q" [.sh (oA no ba oc fs rs)]=some (.ok (.s (FE no ba oc fs rs)),[.sh (oA no ba oc fs rs)]):=by
 rw[DG (fn:=vL) rfl rfl rfl];obtain⟨z,A,B,O,Q,U⟩:=h.hd;obtain⟨X,Z,l3⟩:=h.len;obtain⟨z1,z2,z3,z4,z5,z6,z7⟩:=Uv
 have hA:YA T.dA (run T W (n+1)) W (vL.body.take 2) ([.sh (oA no ba oc fs rs)]++CB vL.nl .un)=aA (.nx,[.sh (oA no ba oc fs rs),.i no,.i ba,.i oc,.sh (.t (fs.map toD)),.sh (.t rs),.o (.l [.str (CA ["notes",num no]),.str (CA ["bar",num ba]),.str (CA ["octave",num oc])]),.un,.un,.un]):=by
  unfold vL oA;have s1:=z.s;have s2:=A.s;have s3:=B.s;have b1:=SI (x:="notes ") (y:=num no) (by have:=bP z;lia);have b2:=SI (x:="bar ") (y:=num ba) (by have:=bP A;lia);have b3:=SI (x:="octave ") (y:=num oc) (by have:=bP B;lia);rw[YS uv] at b1;rw[YS kv] at b2;rw[YS vv] at b3
  generalize CA ["notes",num no]=l at *
  generalize CA ["bar",num ba]=m at *
  generalize CA ["octave",num oc]=u at *
  clear h z A B O Q U X Z l3 z1 z2 z3 z4 z5 z6 z7
  walk_at "!"
 rw[bK hA];clear hA
 generalize g:D.str (CA ["notes",num no])=l at *
 generalize j:D.str (CA ["bar",num ba])=m at *
 generalize k:D.str (CA ["octave",num oc])=u at *
 obtain⟨Y1,el,H,I,J,rfl,qr,sr,tr⟩:=CF (bind:=UA cA [7,8,9]) (body:=YA T.dA (run T W (n+1)) W ZU)
  (λpre Y=>∃H I J,Y=[.sh (oA no ba oc fs rs),.i no,.i ba,.i oc,.sh (.t (fs.map toD)),.sh (.t rs),.o (.l (l::m::u::pre.map KL)),H,I,J]/\KA H=bA/\KA I=bA/\KA J=bA)
  (ds:=fs.map toD) (λpre d post v Y hY=>by
   obtain⟨H,I,J,rfl,h7,h8,h9⟩:=hY
   have ir:pre.length<=3:=by
    have:=congrArg MF v
    simp at this
    lia
   obtain⟨f,hf,rfl⟩:∃f∈fs,toD f=d:=wB.mp (by rw[v];simp)
   obtain⟨a,b,c⟩:=f;obtain⟨f1,f2,f3,f4⟩:=h.ho.f _ hf;have j1:=JC (i:=a) (by simp at f1;lia) (by simp at f2;lia);have j2:=JC (i:=b) (by simp at f3;lia) (by simp at f4;lia);have s1:=j1.s;have s2:=j2.s;have g1:=bP j1;have g2:=bP j2;refine⟨[.sh (oA no ba oc fs rs),.i no,.i ba,.i oc,.sh (.t (fs.map toD)),.sh (.t rs),.o (.l (l::m::u::pre.map KL)),.i a,.i b,.b c],by unfold toD;simp only[HB,eB h7,eB h8,eB h9]<;>rfl, ?_⟩;have b1:=SI (x:="voice ") (y:=num a) (by lia);have e1:("voice " ++ num a).length<=9:=by rw[aAN];lia
   have b2:=SI (x:="voice " ++ num a) (y:=" ") (by lia);have e2:(("voice " ++ num a) ++ " ").length<=10:=by rw[aAN];lia
   have b3:=SI (x:=("voice " ++ num a) ++ " ") (y:=num b) (by lia);have e3:((("voice " ++ num a) ++ " ")++num b).length<=13:=by rw[aAN];lia
   have e4:(if c=bA then(" turned":fA) else("":fA)).length<=7:=by cases c<;>simp<;>lia
   have b4:=SI (x:=(("voice " ++ num a) ++ " ")++num b) (y:=if c=bA then(" turned":fA) else("":fA)) (by lia);rw[lGa] at b4;have K:KL (toD (a,b,c))=.str (CA (vW (a,b,c))):=rfl;have M:CA (("voice":fA)::num a::num b::(if c=bA then [("turned":fA)] else []))=CA (vW (a,b,c)):=rfl;rw[M] at b4;rw[BD,HC,HJ,K];have Jq:=Zi (a:=D.str "") (b:=D.str " turned") (c:=c);rw[xr] at Jq;have CL:NA ((l::m::u::pre.map KL).length+1)=bA:=kB (by simp;lia);have fJa:NA ((pre.map KL).length+4)=bA:=kB (by simp;lia)
   generalize (if c=bA then(" turned":fA) else("":fA))=tu at *
   generalize ((("voice " ++ num a) ++ " ")++num b)=x4 at *
   generalize (("voice " ++ num a) ++ " ")=x3 at *
   generalize ("voice " ++ num a)=x2 at *
   generalize num a=na at *
   generalize num b=nb at *
   generalize CA (vW (a,b,c))=rw1 at *
   generalize pre.map KL=PL at *
   generalize oA no ba oc fs rs=hh at *
   generalize fs.map toD=V at *
   unfold ZU;clear h z A B O Q U X Z l3 z1 z2 z3 z4 z5 z6 z7 v ir hf f1 f2 f3 f4 j1 j2 g1 g2 e1 e2 e3 e4 K M g j k h7 h8 h9
   walk_at "!"
   exact⟨_,rfl,_,_,_,rfl,rfl,rfl,rfl⟩)
  (Y:=[.sh (oA no ba oc fs rs),.i no,.i ba,.i oc,.sh (.t (fs.map toD)),.sh (.t rs),.o (.l [l,m,u]),.un,.un,.un]) ⟨_,_,_,rfl,rfl,rfl,rfl⟩
 have e:(fs.map toD).map KL=fs.map λf=>D.str (CA (vW f)):=by rw[rE];rfl
 rw[e] at el
 obtain⟨Y2,e2,t2,rfl,NO⟩:=aI (P:=T.dA) (C:=run T W (n+1)) (DB:=ev T.dA (run T W (n+1)) cA MV) (bind:=UA bA [1]) (xs:=rs) id (λd=>D.str (CA (rW d))) (λY=>∃t,Y=[.un,t]/\KA t=bA)
  (λd hd Y hY=>by
   obtain⟨t,rfl,ht⟩:=hY;have hr:=(h.r d hd).tx W n;refine⟨[.un,.sh d],.s (CA (rW d)),[.un,.sh d],by simp only[HB,eB ht]<;>rfl, ?_,rfl,_,rfl,rfl⟩;unfold MV
   generalize CA _=p at *
   clear hd ht h z A B O Q U X Z l3 z1 z2 z3 z4 z5 z6 z7 el g j k e
   walk_at "!") (Y:=[.un,.un]) ⟨_,rfl,rfl⟩
 rw[Z2] at e2;have Fq:=h.vD.1
 have N:((hW no ba oc fs rs).map CA).map D.str=D.str (CA ["notes",num no])::.str (CA ["bar",num ba])::.str (CA ["octave",num oc])::(fs.map (λf=>D.str (CA (vW f)))++rs.map (λd=>D.str (CA (rW d)))):=by(unfold hW gN OD;simp[zP,J1])
 rw[N,g,j,k] at Fq;have m2:NA (rs.map (λd=>D.str (CA (rW d)))).length=bA:=kB (by rw[pA];lia);have m3:NA ((l::m::u::fs.map (λf=>D.str (CA (vW f)))).length+(rs.map (λd=>D.str (CA (rW d)))).length)=bA:=kB (by simp;lia);have b5:=KG m3;have i4:∀Y,aAc .of [.val (.sh (.t (fs.map toD)))] Y=aA (fs.map toD,eA):=λY=>kK rfl
 have i4':aAc .of [.slot 4] [.sh (oA no ba oc fs rs),.i no,.i ba,.i oc,.sh (.t (fs.map toD)),.sh (.t rs),.o (.l [l,m,u]),.un,.un,.un]=aA (fs.map toD,eA):=jN rfl;have i5:aAc .of [.slot 5] [.sh (oA no ba oc fs rs),.i no,.i ba,.i oc,.sh (.t (fs.map toD)),.sh (.t rs),.o (.l (l::m::u::fs.map λf=>D.str (CA (vW f)))),H,I,J]=aA (rs,eA):=jN rfl
 generalize fs.map (λf=>D.str (CA (vW f)))=F at *
 generalize rs.map (λd=>D.str (CA (rW d)))=R at *
 generalize FE no ba oc fs rs=tt at *
 generalize oA no ba oc fs rs=hh at *
 generalize fs.map toD=V at *
 unfold vL;clear h z A B O Q U X Z l3 z1 z2 z3 z4 z5 z6 z7 g j k e N qr sr tr NO m3
 walk_at "!"
 rw[IC i5]
 walk_at "!"
 all_goals (first | done | (rw[RC rfl];walk_at "!"))
noncomputable def gJ:FD->Bool
 |.inl _=>bA
 |.inr _=>cA
def QD(x:FD):D:=bC (zP x)
def DN:FD->D
 |.inl f=>toD f
 |.inr d=>d
def Ya{no ba oc:Int}{fs:List (Int×Int×Bool)}{rs:List D}(h:HX no ba oc fs rs){x:FD}(a:x∈OD fs rs):∃w r,QD x=.l (.str w::r)/\(w==("voice":fA))=gJ x:=by
 rcases QE.mp a with a | a
 ·obtain⟨f,c,rfl⟩:=wB.mp a;exact⟨_,_,rfl,YC _⟩
 ·obtain⟨d,hd,rfl⟩:=wB.mp a;obtain⟨w,r,e,b⟩:=(h.r d hd).nv;exact⟨w,r.map D.str,by show bC (rW d)=_;rw[e];rfl,b⟩
def Ap(fs:List (Int×Int×Bool))(rs:List D):((OD fs rs).filter gJ).map DN=fs.map toD:=by
 unfold OD;rw[PJ,V0.mpr,Ue.mpr,OF,rE]
 ·rfl
 ·intro x a;obtain⟨d,_,rfl⟩:=wB.mp a;simp[gJ]
 ·intro x a;obtain⟨d,_,rfl⟩:=wB.mp a;rfl
def Bp(fs:List (Int×Int×Bool))(rs:List D):((OD fs rs).filter λx=>!gJ x).map DN=rs:=by
 unfold OD;rw[PJ,Ue.mpr,V0.mpr,UT,rE]
 ·exact ug (λ_=>rfl) _
 ·intro x a;obtain⟨d,_,rfl⟩:=wB.mp a;rfl
 ·intro x a;obtain⟨d,_,rfl⟩:=wB.mp a;simp[gJ]
def jw{W n:Nat}{no ba oc:Int}{fs:List (Int×Int×Bool)}{rs:List D}(h:HX no ba oc fs rs) :
  run T W (n+6) "ab" [.sh (.l ((hW no ba oc fs rs).map bC))]=some (.ok (.sh (oA no ba oc fs rs)),[.sh (.l ((hW no ba oc fs rs).map bC))]):=by
 rw[DG (fn:=tR) rfl rfl rfl];obtain⟨s,u,v,B,F,H⟩:=h.hd;obtain⟨I,J,K⟩:=h.len
 have i:(hW no ba oc fs rs).map bC=.l [.str "notes",.str (num no)]::.l [.str "bar",.str (num ba)]::.l [.str "octave",.str (num oc)]::(OD fs rs).map QD:=by(unfold hW gN;rw[BD,rE];rfl)
 have k:(OD fs rs).length<=11:=by unfold OD;simp;lia
 rw[i];have o:=Bb (L:=.l [.str "notes",.str (num no)]::.l [.str "bar",.str (num ba)]::.l [.str "octave",.str (num oc)]::(OD fs rs).map QD) (c:=3);rw[JN,JN,JN,bQ] at o;have O:=NS (L:=(OD fs rs).map QD) (a:=.l [.str "notes",.str (num no)]) (b:=.l [.str "bar",.str (num ba)]) (c:=.l [.str "octave",.str (num oc)]);replace o:mE (aA (.l (.l [.str "notes",.str (num no)]::.l [.str "bar",.str (num ba)]::.l [.str "octave",.str (num oc)]::(OD fs rs).map QD))) eA (aA (.int 3))=aA (.ow (.l [.l [.str "notes",.str (num no)],.l [.str "bar",.str (num ba)],.l [.str "octave",.str (num oc)]])):=o
 -- oD pJa
 obtain⟨Y0,M,t0,rfl,l⟩:=aI (P:=T.dA) (C:=run T W (n+5)) (DB:=ev T.dA (run T W (n+5)) cA XQ) (bind:=UA bA [1]) (xs:=[(("notes":fA),num no),(("bar":fA),num ba),(("octave":fA),num oc)]) (λp=>D.l [.str p.1,.str p.2]) (λp=>D.str p.2) (λY=>∃t,Y=[.un,t]/\KA t=bA)
  (λp hp Y Q=>by
   obtain⟨t,rfl,m⟩:=Q;have j:TC (aA (.l [.str p.1,.str p.2])) (.int (-1))=aA (.s p.2):=rfl;refine⟨[.un,.sh (.l [.str p.1,.str p.2])],.s p.2,[.un,.sh (.l [.str p.1,.str p.2])],by simp only[HB,eB m]<;>rfl, ?_,rfl,_,rfl,rfl⟩;unfold XQ;clear hp m h s u v B F H I J K i o O k
   walk_at "!") (Y:=[.un,.un]) ⟨_,rfl,rfl⟩
 replace M:tD (aC T.dA (run T W (n+5)) []) (ev T.dA (run T W (n+5)) cA XQ) (UA bA [1]) [.l [.str "notes",.str (num no)],.l [.str "bar",.str (num ba)],.l [.str "octave",.str (num oc)]] [] [.un,.un]=some (.ok [.str (num no),.str (num ba),.str (num oc)],[.un,t0]):=M;have N:=VL (W:=W) (n:=n+3) (is:=[no,ba,oc]) (fc s (fc u (fc v λ_ h=>nomatch h))) (by simp);replace N:run T W (n+3+2) "c" [.sh (.l [.str (num no),.str (num ba),.str (num oc)])]=some (.ok (.ow (.l [.int no,.int ba,.int oc])),[.sh (.l [.str (num no),.str (num ba),.str (num oc)])]):=N;have R:∀Y,aAc .of [.val (.ow (.l [.l [.str "notes",.str (num no)],.l [.str "bar",.str (num ba)],.l [.str "octave",.str (num oc)]]))] Y=aA ([.l [.str "notes",.str (num no)],.l [.str "bar",.str (num ba)],.l [.str "octave",.str (num oc)]],eA):=λY=>kI rfl
 -- oD MC
 obtain⟨Y1,X,t1,rfl,y⟩:=vO (tests:=aC T.dA (run T W (n+5)) [(.tA .Eq (.ix (.v 1) (.c (.int 0))) (.c (.str "voice")))]) (DB:=ev T.dA (run T W (n+5)) cA YQ) (bind:=UA bA [1]) (xs:=OD fs rs) QD gJ DN (λY=>∃t,Y=[.un,t]/\KA t=bA)
  (λx j Y Q=>by
   obtain⟨t,rfl,m⟩:=Q;obtain⟨w,r,z,Z⟩:=Ya h j;have A:TC (aA (QD x)) (.int 0)=aA (.s w):=by rw[z];exact u7
   refine⟨[.un,.sh (QD x)],[.un,.sh (QD x)],by simp only[HB,eB m]<;>rfl, ?_,λU=>⟨.sh (DN x),[.un,.sh (QD x)], ?_,rfl,_,rfl,rfl⟩,λ_=>⟨_,rfl,rfl⟩⟩
   ·generalize gJ x=b at *
    generalize QD x=rx at *
    clear j z m h s u v B F H I J K i o O k M N R l;cases b<;>walk_at "!"
   ·obtain f | d:=x
    ·have hf:f∈fs:=by
      rcases QE.mp j with j | j
      ·obtain⟨g,hg,e⟩:=wB.mp j;cases e;exact hg
      ·obtain⟨g,_,e⟩:=wB.mp j;cases e
     have lr:=Ep (W:=W) (n:=n+2) (h.ho.f f hf);show ev T.dA (run T W (n+5)) cA YQ [.un,.sh (bC (vW f))]=some (.ok (.sh (toD f)),[.un,.sh (bC (vW f))]);unfold YQ
     generalize bC (vW f)=q at *
     generalize toD f=q2 at *
     clear j z m h s u v B F H I J K i o O k M N R l A Z U hf
     walk_at "!"
    ·cases U) (Y:=[.un,.un]) ⟨_,rfl,rfl⟩
 rw[Ap] at X
 -- oD rules
 obtain⟨Y2,e2,t2,rfl,NO⟩:=vO (tests:=aC T.dA (run T W (n+5)) [(.tA .NotEq (.ix (.v 1) (.c (.int 0))) (.c (.str "voice")))]) (DB:=ev T.dA (run T W (n+5)) cA ZQ) (bind:=UA bA [1]) (xs:=OD fs rs) QD (λx=>!gJ x) DN (λY=>∃t,Y=[.un,t]/\KA t=bA)
  (λx j Y Q=>by
   obtain⟨t,rfl,m⟩:=Q;obtain⟨w,r,z,Z⟩:=Ya h j;have A:TC (aA (QD x)) (.int 0)=aA (.s w):=by rw[z];exact u7
   refine⟨[.un,.sh (QD x)],[.un,.sh (QD x)],by simp only[HB,eB m]<;>rfl, ?_,λU=>⟨.sh (DN x),[.un,.sh (QD x)], ?_,rfl,_,rfl,rfl⟩,λ_=>⟨_,rfl,rfl⟩⟩
   ·generalize gJ x=b at *
    generalize QD x=rx at *
    clear j z m h s u v B F H I J K i o O k M N R l X y;cases b<;>walk_at "!"
   ·obtain f | d:=x
    ·cases U
    ·have hd:d∈rs:=by
      rcases QE.mp j with j | j
      ·obtain⟨g,_,e⟩:=wB.mp j;cases e
      ·obtain⟨g,hg,e⟩:=wB.mp j;cases e;exact hg
     have lr:=(h.r d hd).rd W (n+1);show ev T.dA (run T W (n+5)) cA ZQ [.un,.sh (bC (rW d))]=some (.ok (.sh d),[.un,.sh (bC (rW d))]);unfold ZQ
     generalize bC (rW d)=q at *
     clear j z m h s u v B F H I J K i o O k M N R l A Z U hd X y
     walk_at "!") (Y:=[.un,.un]) ⟨_,rfl,rfl⟩
 rw[Bp] at e2;have iA:∀Y,aAc .of [.val (.ow (.l ((OD fs rs).map QD)))] Y=aA ((OD fs rs).map QD,eA):=λY=>kI rfl
 have hh:=ar (W:=W) (n:=n) h.ho h.rr;have m0:NA 3=bA:=Hb;have m1:NA (fs.map toD).length=bA:=kB (by rw[pA];lia);have m2:NA rs.length=bA:=kB (by lia)
 generalize oA no ba oc fs rs=HH at *
 generalize (OD fs rs).map QD=FR at *
 generalize fs.map toD=V at *
 generalize D.l [.str "notes",.str (num no)]=r1 at *
 generalize D.l [.str "bar",.str (num ba)]=r2 at *
 generalize D.l [.str "octave",.str (num oc)]=r3 at *
 unfold tR;clear h s u v B F H I J K i k l y NO
 walk_at "!"
 rw[IC (R _)]
 walk_at "!"
 all_goals (try (rw[RC rfl];walk_at "!"))
 all_goals (try (rw[IC (iA _)];walk_at "!"))
 all_goals (try (rw[RC rfl];walk_at "!"))
 all_goals (try (rw[IC (iA _)];walk_at "!"))
 all_goals (try (rw[RC rfl];walk_at "!"))
def br{W n:Nat}{no ba oc:Int}{fs:List (Int×Int×Bool)}{rs:List D}(h:HX no ba oc fs rs) :
  run T W (n+7) "F" [.s (FE no ba oc fs rs)]=some (.ok (.sh (oA no ba oc fs rs)),[.s (FE no ba oc fs rs)]):=by
 rw[DG (fn:=uR) rfl rfl rfl];obtain⟨c,l,m⟩:=h.len
 have f:∀Y,vI "\n" Y (aA (.s (FE no ba oc fs rs)))=some (.ok (.ow (.l (((hW no ba oc fs rs).map CA).map D.str))),Y):=λY =>
  US JY (by decide) (B:=2000) (N:=100000) (λw b=>(h.row w b).1) (by rw[pA,c];lia) (by decide) (λz=>by have s:=congrArg MF z;rw[pA,c,bH] at s;lia) λw b=>(h.row w b).2
 obtain⟨J,u,K,rfl,g⟩:=aI (P:=T.dA) (C:=run T W (n+6)) (DB:=ev T.dA (run T W (n+6)) cA WV) (bind:=UA bA [1]) (xs:=hW no ba oc fs rs) (λa=>D.str (CA a)) bC (λY=>∃t,Y=[.un,t]/\KA t=bA)
  (λa e Y v=>by
   obtain⟨t,rfl,o⟩:=v;obtain⟨i,x,p⟩:=h.wo a e;have M:∀Y,vI " " Y (aA (.s (CA a)))=some (.ok (.ow (.l (a.map D.str))),Y):=λY=>US LG (by decide) (B:=60) (N:=2000) (λw b=>(i w b).tg) (by lia) (by decide) p λw b=>(i w b).yO
   refine⟨[.un,.s (CA a)],.ow (.l (a.map D.str)),[.un,.s (CA a)],by simp only[HB,eB o]<;>rfl, ?_,rfl,_,rfl,rfl⟩;unfold WV
   generalize CA a=q at *
   generalize a.map D.str=O at *
   clear e o h i x p c l m f
   walk_at "!") (Y:=[.un,.un]) ⟨_,rfl,rfl⟩
 have e:(hW no ba oc fs rs).map (λa=>D.str (CA a))=((hW no ba oc fs rs).map CA).map D.str:=by rw[rE];rfl
 rw[e] at u;have j:=jw (W:=W) (n:=n) h;have k:=L6 (W:=W) (n:=n+3) h;have y:=Uk (d:=.str (FE no ba oc fs rs)) rfl;have r:(FE no ba oc fs rs==FE no ba oc fs rs)=bA:=YC _;have A:∀Y,aAc .of [.val (.ow (.l (((hW no ba oc fs rs).map CA).map D.str)))] Y=aA (((hW no ba oc fs rs).map CA).map D.str,eA):=λY=>kI rfl
 have hl:((hW no ba oc fs rs).map bC).length=3+(fs.length+rs.length):=by rw[pA];exact c
 have H:NA (3+(fs.length+rs.length))=bA:=kB (by lia);have I:decide (((3+(fs.length+rs.length):Nat):Int)<3)=cA:=ZA (by lia)
 generalize ((hW no ba oc fs rs).map CA).map D.str=Q at *
 generalize (hW no ba oc fs rs).map bC=R at *
 generalize FE no ba oc fs rs=U at *
 generalize oA no ba oc fs rs=X at *
 generalize 3+(fs.length+rs.length)=q at *
 unfold uR;clear h e c l m g
 walk_at "!"
 rw[IC (A _)]
 walk_at "!"
 all_goals (try (rw[RC rfl];walk_at "!"))
section
variable{P:XA}{C:Calls}{Y:Env}{t:Bool}{ks:List fA}{vs:List Int}
def HR(ks:List fA)(o:Option D):Option RV:=o.bind (GR ks)
theorem zq:HR ks (aA (.str x))=aA (.b (!ks.contains x)):=rfl
def g8(ks:List fA)(x:Hd)(Y:Env):yA RV:=done (HR ks (x.get Y)) Y
theorem ku:g8 ks x Y=done (HR ks (x.get Y)) Y:=rfl
theorem Xn:ev P C t (.gK ks a) Y=aAi t ((MB P C a Y).bind (g8 ks)):=rfl
def DR(ks:List fA)(vs:List Int)(o:Option D):Option RV:=o.bind (AX ks vs)
theorem xq:DR ks vs (aA (.str x))=((ks.zip vs).lookup x).map λi=>.i i:=rfl
def e8(ks:List fA)(vs:List Int)(x:Hd)(Y:Env):yA RV:=done (DR ks vs (x.get Y)) Y
theorem ju:e8 ks vs x Y=done (DR ks vs (x.get Y)) Y:=rfl
theorem Wn:ev P C t (.AL ks vs a) Y=aAi t ((MB P C a Y).bind (e8 ks vs)):=rfl
theorem Nz:MB P C (.AL ks vs a) Y=(ev P C cA (.AL ks vs a) Y).bind xD:=rfl
end
section
variable{Y:Env}{p:Bool}{v:RV}{a b:D}{i:Nat}
def sH(i:Nat)(f:fA)(g:List fA)(v:RV)(Y:Env)(o:Option Sl):Run:=match o with
 |some (.ow (.ins c e h) p cA)=>if g.contains c/\e.length<900 then aA (.nx,Y.set i (.ow (.ins c (aAx f e) (DF f v.d e h)) p cA)) else eA
 |_=>eA
theorem zZ:KS i f c v Y=sH i f c v Y Y[i]?:=rfl
def JS(h:g.contains c=bA/\e.length<900):sH i f g v Y (aA (.ow (.ins c e j) p cA))=aA (.nx,Y.set i (.ow (.ins c (aAx f e) (DF f v.d e j)) p cA)):=by
 unfold sH;exact QA h
def fh:SM.contains "Desk"=bA:=by decide +kernel
def fl:TM.contains "Desk"=bA:=by decide +kernel
theorem hl:¬rA "house"=rA "line":=by decide +kernel
def sZ:sH i "house" SM v Y (aA (.ow (.ins "Desk" [] []) p cA))=aA (.nx,Y.set i (.ow (.ins "Desk" ["house"] [v.d]) p cA)):=JS ⟨fh,by decide⟩
def uZ:sH i "line" TM v Y (aA (.ow (.ins "Desk" ["house"] [a]) p cA))=aA (.nx,Y.set i (.ow (.ins "Desk" ["house","line"] [a,v.d]) p cA)):=by
 rw[JS ⟨fl,by decide⟩];simp only[aAx,DF,pB hl]
def tZ:sH i "house" SM v Y (aA (.ow (.ins "Desk" ["house","line"] [a,b]) p cA))=aA (.nx,Y.set i (.ow (.ins "Desk" ["house","line"] [v.d,b]) p cA)):=by
 rw[JS ⟨fh,by simp⟩];simp only[aAx,DF,if_true]
def vZ:sH i "line" TM v Y (aA (.ow (.ins "Desk" ["house","line"] [a,b]) p cA))=aA (.nx,Y.set i (.ow (.ins "Desk" ["house","line"] [a,v.d]) p cA)):=by
 rw[JS ⟨fl,by simp⟩];simp only[aAx,DF,pB hl,if_true]
end
def nDa{r L:List D}(a:0<=i)(b:i<=no-1)(hl:L.length<60):run T W (n+3) "K" [.sh (.t (.int no::r)),.sh (.l L),.i i]=some (.ok (.ow (.l (L++[.int i]))),[.sh (.t (.int no::r)),.sh (.l L),.i i]):=by
 have d:=RD (W:=W) (n:=n) a b;have e:decide ((L.length:Int)=60)=cA:=ZA (by lia);have f:xB .Add (.l L) (.l [.int i])=aA (.ow (.l (L++[.int i]))):=KG (EF (by show L.length+1<=_;lia))
 exists qX
 clear a b hl
 walk_at "!RD"
def xDa{L:List D}:mE (aA (.l (L++[x]))) eA (aA (.int (-1)))=aA (.ow (.l L)):=by
 show aA (RV.ow (.l (aAu (L++[x]) eA (aA (-1)))))=_
 have:aAu (L++[x]) eA (aA (-1))=L:=by(unfold aAu HT.dB;simp only[PB,dM,XT,Nat.sub_zero];rw[QA (by decide),show((-1:Int)+((L.length+1:Nat):Int)).toNat=L.length by lia,List.take_left])
 rw[this]
def xj{L:List D}:run T W (n+1) "L" [.sh (.l (L++[x]))]=some (.ok (.ow (.l L)),[.sh (.l (L++[x]))]):=by
 exists wX
 have b:=xDa (L:=L) (x:=x);have e:decide (((L++[x]).length:Int)=0)=cA:=ZA (by rw[PB,dM];lia)
 generalize L++[x]=M at *
 walk_at "!RD"
def uHa{W n:Nat}{a:List fA}(b:∀w∈a,WO w)(c:a≠[])(hl:a.length<=20):run T W (n+1) "G" [.s (CA a)]=some (.ok (.ow (bC a)),[.s (CA a)]):=by
 have e:∀Y,vI " " Y (aA (.s (CA a)))=some (.ok (.ow (bC a)),Y):=λY=>US LG (by decide) (B:=60) (N:=2000) (λw h=>(b w h).tg) (by lia) (by decide) c λw h=>(b w h).yO
 exists yX
 clear b c hl
 walk_at "!RD"
def zr{is:List Int}:vB .In .nA (.l (is.map D.int))=aA cA:=by
 refine(QA ?_).trans (congrArg aA ?_)
 ·rw[IA];exact⟨rfl,sF.mpr λd hd=>by obtain⟨i,_,rfl⟩:=wB.mp hd;rfl⟩
 ·unfold inD;rw[Ef];intro d hd;obtain⟨i,_,rfl⟩:=wB.mp hd;exact JE
def jx{W n:Nat}{w:fA}{is:List Int}(h:OG.contains w=bA)(a:(OG.zip BL).lookup w=aA (is.length:Int))(b:∀i∈is,eH i)(hl:is.length<=1000) :
  run T W (n+3) "H" [.sh (bC (w::is.map num))]=some (.ok (.ow (.l (is.map D.int))),[.sh (bC (w::is.map num))]):=by
 have e:HR OG (aA (.str w))=aA (.b cA):=by rw[zq,h];rfl
 have p:DR OG BL (aA (.str w))=aA (.i is.length):=by rw[xq,a];rfl
 have q:decide (((((is.map num).map D.str).length+1:Nat):Int)-1=(is.length:Int))=bA:=rB (by rw[pA,pA];lia);have d:mE (aA (bC (w::is.map num))) (aA (.int 1)) eA=aA (.ow (bC (is.map num))):=QS (L:=(w::is.map num).map D.str) (c:=1);have f:=VL (W:=W) (n:=n) b hl;have r:=zr (is:=is)
 exists dX
 unfold bC;unfold bC at d f;rw[HC] at d;rw[HC]
 generalize (is.map num).map D.str=R at *
 generalize is.map D.int=N at *
 generalize (is.length:Int)=k at *
 clear h a hl b
 walk_at "!Xn ku Wn ju Nz"
def LC(h:D)(L:List D):D:=.ins "Desk" ["house","line"] [h,.l L]
abbrev DS(h:D)(L:List D):Sl:=.p (LC h L)
def NX(g:run T W (n+7) "F" [.sh d]=some (.ok (.sh h),[.sh d])):run T W (n+8) "v" [.p (.ins "Desk" [] []),.sh d]=some (.ok (.sh .nA),[DS h [],.sh d]):=by
 exists wW
 unfold DS LC
 walk_at "!jW zZ sZ uZ tZ vZ"
def Y5{L:List D}:ZE (aA (.ins "Desk" ["house","line"] [h,.l L])) "house"=aA (.sh h):=by
 show(YG ("house":fA) [(rA "house",h),(rA "line",D.l L)]).map RV.sh=_;rw[pE,YC];rfl
def a6{L:List D}:ZE (aA (.ins "Desk" ["house","line"] [h,.l L])) "line"=aA (.sh (.l L)):=by
 show(YG ("line":fA) [(rA "house",h),(rA "line",D.l L)]).map RV.sh=_;rw[pE,show(("line":fA) == "house")=cA by decide +kernel,pE,YC];rfl
noncomputable def OQ:D:=.t [.str "sing",.str "back",.str "less",.str "without",.str "over"]
def WN(W n:Nat)(d:D)(w:fA)(N:List D):Prop:=∃V:List D,run T W (n+4) "G" [.sh d]=some (.ok (.ow (.l (.str w::V))),[.sh d])/\run T W (n+4) "H" [.sh (.l (.str w::V))]=some (.ok (.ow (.l N)),[.sh (.l (.str w::V))])
def IS{W n:Nat}{h d a:D}{L N:List D}{w:fA}(b:WN W n d w N)(c:vB .NotIn (.str w) OQ=aA bA)(o:run T W (n+4) "m" [.sh h,.sh (.l L),.s w,.p (.l N)]=some (.ok (.sh a),[.sh h,.sh (.l L),.s w,.p (.l N)])) :
  run T W (n+5) "p" [DS h L,.sh d]=some (.ok (.sh a),[DS h L,.sh d]):=by
 exists oR
 unfold DS LC;obtain⟨V,q,r⟩:=b;unfold OQ at c
 walk_at "!jW zZ sZ uZ tZ vZ Y5 a6"
def vb{W n:Nat}{h d a:D}{L N L2:List D}{w:fA}(b:WN W n d w N)(c:vB .NotIn (.str w) OQ=aA cA)(m:run T W (n+4) "u" [.sh h,.sh (.l L),.s w,.p (.l N)]=some (.ok (.sh (.t [a,.l L2])),[.sh h,.sh (.l L),.s w,.p (.l N)])) :
  run T W (n+5) "p" [DS h L,.sh d]=some (.ok (.s "ok"),[DS a L2,.sh d]):=by
 exists oR
 unfold DS LC;obtain⟨V,o,q⟩:=b;unfold OQ at c
 walk_at "!jW zZ sZ uZ tZ vZ Y5 a6"
def Jl{L L2:List D}(b:run T W (n+3) "K" [.sh h,.sh (.l L),.i i]=some (.ok (.ow (.l L2)),[.sh h,.sh (.l L),.i i])) :
  run T W (n+4) "u" [.sh h,.sh (.l L),.s "sing",.p (.l [.int i])]=some (.ok (.sh (.t [h,.l L2])),[.sh h,.sh (.l L),.s "sing",.p (.l [.int i])]):=by
 exists qR
 have e:(("sing":fA) == "sing")=bA:=YC _
 walk_at "!RD"
def Il{L L2:List D}(b:run T W (n+3) "L" [.sh (.l L)]=some (.ok (.ow (.l L2)),[.sh (.l L)])) :
  run T W (n+4) "u" [.sh h,.sh (.l L),.s "back",.p (.l [])]=some (.ok (.sh (.t [h,.l L2])),[.sh h,.sh (.l L),.s "back",.p (.l [])]):=by
 exists qR
 have e:(("back":fA) == "sing")=cA:=by decide +kernel
 have c:(("back":fA) == "back")=bA:=YC _
 walk_at "!RD"
def se{W n:Nat}{w:fA}{is:List Int}(b:WO w)(a:∀i∈is,-60<=i/\i<=60)(hl:is.length<=10)(h:OG.contains w=bA)(c:(OG.zip BL).lookup w=aA (is.length:Int)):WN W n (.str (CA (w::is.map num))) w (is.map D.int) :=
 ⟨_,uHa (W:=W) (n:=n+3) (fc b λx d=>by obtain⟨i,h,rfl⟩:=wB.mp d;exact CG (a i h).1 (a i h).2) (λz=>nomatch z) (by rw[VB,pA];lia),jx (n:=n+1) h c (λi h=>JC (a i h).1 (a i h).2) (by lia)⟩
def xv:("sing ":fA).cps.toList=("sing":fA).cps.toList++[32]:=by decide +kernel
def wCa{r L:List D}(a:i<=60)(b:0<=i)(c:i<=no-1)(hl:L.length<60) :
  run T W (n+5) "p" [DS (.t (.int no::r)) L,.s (("sing ":fA)++num i)]=some (.ok (.s "ok"),[DS (.t (.int no::r)) (L++[.int i]),.s (("sing ":fA)++num i)]):=by
 rw[YS xv];exact vb (se (is:=[i]) (gF (by decide +kernel)) (fc ⟨by lia,a⟩ λ_ z=>nomatch z) (by simp) (by decide +kernel) (show(OG.zip BL).lookup ("sing":fA)=aA 1 by decide +kernel)) (by decide +kernel) (Jl (nDa b c hl))
theorem w5:∀w∈[("back":fA),"line","house","next","broken"],(decide (w.length<=60/\w.cps.toList≠[])&&iP w)=bA/\CA [w]=w/\OG.contains w=bA/\(OG.zip BL).lookup w=aA 0:=by decide +kernel
def DP{W n:Nat}{w:fA}(a:w∈[("back":fA),"line","house","next","broken"]):WN W n (.str w) w []:=by
 obtain⟨b,c,h,d⟩:=w5 w a
 have:=se (W:=W) (n:=n) (is:=[]) (gF b) (λ_ z=>nomatch z) (by simp) h d
 rwa[HJ,c] at this
def uCa{h x:D}{L:List D}:run T W (n+5) "p" [DS h (L++[x]),.s "back"]=some (.ok (.s "ok"),[DS h L,.s "back"]) :=
 vb (DP (.head _)) (by decide +kernel) (Il xj)
noncomputable def sI(t:fA):fA:=if(t==("":fA))=bA then("none":fA) else t
def E9{W n:Nat}{t:fA}:run T W (n+1) "I" [.s t]=some (.ok (.s (sI t)),[.s t]):=by
 exists eX
 unfold sI;cases e:t == ""<;>walk_at "!RD"
def Sm(a:List Int):Prop:=∀x∈a,0<=x/\x<=60
def RS{a:List Int}(b:Sm a):∀d∈a.map D.int,QC .str [d]=aA (.s (wd d)):=λd hd=>by
 obtain⟨x,c,rfl⟩:=wB.mp hd
 have:=b x c
 exact(JC (by lia) (by lia)).s
def SS{a:List Int}(b:Sm a):∀w∈a.map num,WO w:=λw c=>by
 obtain⟨x,d,rfl⟩:=wB.mp c
 have:=b x d
 exact CG (by lia) (by lia)
def CP{a:List Int}:(a.map D.int).map wd=a.map num:=by rw[rE];rfl
def Za{W n:Nat}{s:Sl}{xs:List Int}(c:s=.sh (.l (xs.map D.int))\/s=.sh (.t (xs.map D.int)))(a:Sm xs)(hl:xs.length<=60):run T W (n+1) "b" [s]=some (.ok (.s (CA (xs.map num))),[s]):=by
 have d:=cb (W:=W) (n:=n) c (RS a) (by rw[CP];exact SS a) (by rw[pA];exact hl)
 rwa[CP] at d
def V8{W n:Nat}{a:List Int}(b:Sm a)(hl:a.length<=60):run T W (n+2) "l" [.sh (.l (a.map D.int))]=some (.ok (.s (CA (a.map num))),[.sh (.l (a.map D.int))]):=by
 have d:=Za (W:=W) (n:=n) (.inl rfl) b hl
 exists oX
 generalize a.map D.int=L at *
 generalize CA _=t at *
 clear b hl
 walk_at "!RD"
def Ji{L N:List D}(b:run T W (n+3) "l" [.sh (.l L)]=some (.ok (.s t),[.sh (.l L)])) :
  run T W (n+4) "m" [.sh h,.sh (.l L),.s "line",.p (.l N)]=some (.ok (.s t),[.sh h,.sh (.l L),.s "line",.p (.l N)]):=by
 exists bN
 have e:(("line":fA) == "line")=bA:=YC _
 walk_at "!RD"
def Ii{L N:List D}(b:run T W (n+3) "t" [.sh h]=some (.ok (.s t),[.sh h])) :
  run T W (n+4) "m" [.sh h,.sh (.l L),.s "house",.p (.l N)]=some (.ok (.s t),[.sh h,.sh (.l L),.s "house",.p (.l N)]):=by
 exists bN
 have e:(("house":fA) == "line")=cA:=by decide +kernel
 have c:(("house":fA) == "house")=bA:=YC _
 walk_at "!RD"
def Ki{W n:Nat}{h st:D}{L F N:List D}{t:fA}(b:run T W (n+3) "C" [.sh h,.sh (.l L)]=some (.ok (.sh st),[.sh h,.sh (.l L)]))(c:run T W (n+3) "D" [.sh h,.sh st]=some (.ok (.ow (.l F)),[.sh h,.sh st]))(d:run T W (n+3) "l" [.sh (.l F)]=some (.ok (.s t),[.sh (.l F)])) :
  run T W (n+4) "m" [.sh h,.sh (.l L),.s "next",.p (.l N)]=some (.ok (.s (sI t)),[.sh h,.sh (.l L),.s "next",.p (.l N)]):=by
 exists bN
 have f:=E9 (W:=W) (n:=n+2) (t:=t);have e:(("next":fA) == "line")=cA:=by decide +kernel
 have g:(("next":fA) == "house")=cA:=by decide +kernel
 have i:(("next":fA) == "next")=bA:=YC _
 walk_at "!RD"
def Hi{W n:Nat}{h:D}{L B N:List D}{t:fA}(b:run T W (n+3) "A" [.sh h,.sh (.l L)]=some (.ok (.ow (.l B)),[.sh h,.sh (.l L)]))(c:run T W (n+3) "J" [.p (.l B)]=some (.ok (.s t),[.p (.l B)])) :
  run T W (n+4) "m" [.sh h,.sh (.l L),.s "broken",.p (.l N)]=some (.ok (.s (sI t)),[.sh h,.sh (.l L),.s "broken",.p (.l N)]):=by
 exists bN
 have d:=E9 (W:=W) (n:=n+2) (t:=t);have e:(("broken":fA) == "line")=cA:=by decide +kernel
 have f:(("broken":fA) == "house")=cA:=by decide +kernel
 have g:(("broken":fA) == "next")=cA:=by decide +kernel
 have i:(("broken":fA) == "broken")=bA:=YC _
 walk_at "!RD"
abbrev TB:=Nat×Nat×List Int
def eE(t:TB):D:=JM t.1 t.2.1 t.2.2
noncomputable def bI(t:TB):List Int:=(t.1:Int)::(t.2.1:Int)::t.2.2
def bT(t:TB):fA:=CA ((bI t).map num)
def NH(t:TB):Prop:=t.1<=60/\t.2.1<=60/\VH t.2.2
def gL{t:TB}(h:NH t):Sm (bI t)/\(bI t).length<=4:=by
 obtain⟨c,d,e,a⟩:=h;refine⟨fc ⟨by lia,by lia⟩ (fc ⟨by lia,by lia⟩ λx b=>⟨(a x b).1,by have:=(a x b).2;lia⟩), ?_⟩;unfold bI;rw[VB,VB]
 lia
def ij{t:TB}(h:NH t):TG 16 (bT t):=by
 obtain⟨a,d⟩:=gL h;refine(mN LG (by decide) (B:=3) (λw b=>?_) (by rw[pA];lia) (by decide)).1;obtain⟨x,c,rfl⟩:=wB.mp b
 have:=a x c
 exact(JC (by lia) (by lia)).tg
def gj{t:TB}(h:NH t):(bT t).cps.toList≠[]:=by
 unfold bT bI;rw[uN];exact B7 (yS (JC (by lia) (by have:=h.1;lia)))
def jL(ts:List TB):fA:=QB "; " (ts.map bT)
def cDa:TG 2 ("; ":fA):=⟨by decide +kernel,by decide +kernel⟩
def E7{ts:List TB}(h:∀t∈ts,NH t)(hl:ts.length<=20000):kN "; " (aA (.l ((ts.map bT).map D.str)))=aA (.s (jL ts)) :=
 Pt cDa (B:=16) (N:=1000000) (λw a=>by obtain⟨t,b,rfl⟩:=wB.mp a;exact ij (h t b)) (by rw[pA];lia) (by decide)
def c5{t:TB}(h:NH t):xB .Add (.t [.int t.1,.int t.2.1]) (.t (t.2.2.map D.int))=aA (.sh (.t ((bI t).map D.int))) :=
 QA (kB (by have:=h.2.2.1;simp;lia))
def jk{W n:Nat}{ts:List TB}(h:∀t∈ts,NH t)(hl:ts.length<=20000):run T W (n+2) "J" [.p (.l (ts.map eE))]=some (.ok (.s (jL ts)),[.p (.l (ts.map eE))]):=by
 exists lX
 obtain⟨o,e,a,b,c,rfl,d,f,g⟩:=aI (P:=T.dA) (C:=run T W (n+1)) (DB:=ev T.dA (run T W (n+1)) cA aW) (bind:=UA cA [1,2,3]) (xs:=ts) eE (λt=>D.str (bT t)) (λY=>∃a b c,Y=[.un,a,b,c]/\KA a=bA/\KA b=bA/\KA c=bA)
  (λt i Y k=>by
   obtain⟨a,b,c,rfl,d,f,g⟩:=k;have r:=c5 (h t i);have s:=Za (W:=W) (n:=n) (xs:=bI t) (.inr rfl) (gL (h t i)).1 (KC (gL (h t i)).2 (by decide));refine⟨[.un,.i t.1,.i t.2.1,.sh (.t (t.2.2.map D.int))],.s (bT t),[.un,.i t.1,.i t.2.1,.sh (.t (t.2.2.map D.int))], ?_, ?_,rfl,_,_,_,rfl,rfl,rfl,rfl⟩
   ·unfold eE JM;simp only[HB,eB d,eB f,eB g]
   unfold aW bT
   generalize (bI t).map D.int=B at *
   generalize t.2.2.map D.int=C at *
   generalize CA _=q at *
   clear h hl i d f g
   walk_at "!") (Y:=[.un,.un,.un,.un]) ⟨_,_,_,rfl,rfl,rfl,rfl⟩
 have u:=E7 h hl;have j:ts.map (λt=>D.str (bT t))=(ts.map bT).map D.str:=by rw[rE];rfl
 rw[j] at e;have l:aAc .of [.slot 0] [.p (.l (ts.map eE))]=aA (ts.map eE,aA 0):=WR rfl;have m:NA ((ts.map bT).map D.str).length=bA:=kB (by rw[pA,pA];lia)
 generalize (ts.map bT).map D.str=M at *
 generalize ts.map eE=L at *
 clear h hl j d f g
 walk_at "!"
 rw[gY l];simp only[aAg,qG,rG]
 walk_at "!"
 all_goals (first | done | (rw[RC rfl];walk_at "!"))
 all_goals (first | done | (simp only[aAq,aAl,YD,JH,qG,rG,JD];walk_at "!"))
def Gk{ws:List fA}:vB .Eq (.l (ws.map D.str)) (.l [])=aA ws.isEmpty:=by
 have h:nB 20 (.l (ws.map D.str))=bA:=by(show(ws.map D.str).all (nB 19)=bA;exact sF.mpr λd hd=>by obtain⟨_,_,rfl⟩:=wB.mp hd;rfl)
 rw[AV h rfl];cases ws<;>rfl
def Zz{ts:List TB}(h:∀t∈ts,NH t):sI (jL ts)=if(ts.map bT).isEmpty=bA then("none":fA) else jL ts:=by
 cases ts with
 |nil=>decide +kernel
 |cons t ts =>
  unfold sI jL;rw[HC,C7 (gj (h t (.head _)))];rfl
def ik{W n:Nat}{ts:List TB}(h:∀t∈ts,NH t)(hl:ts.length<=20000):run T W (n+1) "U" [.p (.l (ts.map eE))]=some (.ok (.s (sI (jL ts))),[.p (.l (ts.map eE))]):=by
 exists xW
 obtain⟨Z,e,k,l,m,x,c,rfl,hu,r,s,u,v⟩:=CF (bind:=UA cA [2,3,4]) (body:=YA T.dA (run T W n) W RU)
  (λpre Y=>∃(k l m x:Sl) (c:List TB),Y=[.un,.o (.l ((c.map bT).map D.str)),k,l,m]/\pre=c.map eE/\KA k=bA/\KA l=bA/\KA m=bA/\x=.un)
  (ds:=ts.map eE) (λpre d post g Y H=>by
   obtain⟨k,l,m,x,c,rfl,hu,r,s,u,v⟩:=H;obtain⟨t,i,rfl⟩:=wB.mp (show d∈ts.map eE from by rw[g];simp);have hb:=c5 (h t i)
   have y:c.length<=20000:=by
    have:=congrArg MF g
    rw[pA,PB,hu,pA] at this
    lia
   obtain⟨q,A⟩:=xN (W:=W) (n:=n) (el:=N5) rfl (RS (gL (h t i)).1);rw[CP] at A;have I:=jJ LG (by decide) (B:=60) (N:=4000) (λw J=>(SS (gL (h t i)).1 w J).tg) (by rw[pA];have:=(gL (h t i)).2;lia) (by decide);have K:NA (((bI t).map num).map D.str).length=bA:=kB (by rw[pA,pA];have:=(gL (h t i)).2;lia);have O:NA (((c.map bT).map D.str).length+1)=bA:=kB (by rw[pA,pA];lia);have F:∀Y,aAc .of [.val (.sh (.t ((bI t).map D.int)))] Y=aA ((bI t).map D.int,eA):=λY=>kK rfl
   refine⟨[.un,.o (.l ((c.map bT).map D.str)),.i t.1,.i t.2.1,.sh (.t (t.2.2.map D.int))], ?_,[.un,.o (.l (((c++[t]).map bT).map D.str)),.i t.1,.i t.2.1,.sh (.t (t.2.2.map D.int))], ?_,_,_,_,_,c++[t],rfl,by rw[hu,BD];rfl,rfl,rfl,rfl,v⟩
   ·unfold eE JM;simp only[HB,eB r,eB s,eB u]
   rw[BD,BD,show([t].map bT).map D.str=[.str (CA ((bI t).map num))] from rfl];unfold RU;unfold CA
   generalize (c.map bT).map D.str=U at *
   generalize (bI t).map D.int=B at *
   generalize ((bI t).map num).map D.str=B2 at *
   generalize QB _ _=jq at *
   generalize t.2.2.map D.int=C at *
   clear h hl i r s u v hu y g
   walk_at "!"
   rw[IC (F _)]
   walk_at "!"
   all_goals (first | done | (rw[RC rfl];walk_at "!"))) (Y:=[.un,.o (.l []),.un,.un,.un]) ⟨_,_,_,_,[],rfl,rfl,rfl,rfl,rfl,rfl⟩
 have j:c.map bT=ts.map bT:=by
  have:c=ts:=(B1 (f:=eE) (λa b e=>by
   obtain⟨P,Q,a3⟩:=a;obtain⟨R,X,b3⟩:=b;simp only[eE,JM,D.t.injEq,ON,D.int.injEq,and_true] at e;obtain⟨e1,e2,z⟩:=e;have z:=(B1 (f:=D.int) (λa b e=>by injection e)).mp z
   rw[show P=R by lia,show Q=X by lia,z])).mp hu.symm
  rw[this]
 rw[j] at e;have I:=E7 h hl;have A:=Gk (ws:=ts.map bT);rw[Zz h]
 generalize (ts.map bT).map D.str=M at *
 generalize ts.map eE=L at *
 generalize jL ts=q at *
 clear h hl j hu r s u v;have F:aAc .of [.slot 0] [.p (.l L),.o (.l []),.un,.un,.un]=aA (L,aA 0):=WR rfl;cases hE:(ts.map bT).isEmpty
 all_goals
  walk_at "!"
  simp only[aAg,qG,rG,e,Run.restore,aAl,YD,JH,JD]
  walk_at "!"
theorem W8{P:O->Prop}:∀{l:List N},(∀r∈l,∃f,P f/\r=g f)->∃fs:List O,(∀f∈fs,P f)/\l=fs.map g
 |[],_=>⟨[],(λ_ h=>nomatch h),rfl⟩
 |r::l,h=>by
  obtain⟨f,b,c⟩:=h r (.head _);obtain⟨fs,d,e⟩:=W8 λx a=>h x (.tail _ a)
  exact⟨f::fs,λx a=>by rcases mD.mp a with rfl | a;exact b;exact d x a,by rw[e,c];rfl⟩
structure KH(no ba oc:Int)(fs:List (Int×Int×Bool))(rs:List D)(m k:Nat)(ps:List RP):Prop where
 hX:HX no ba oc fs rs
 hm:RG fs=(m:Int)
 m3:3<=m
 hk:no=(k:Int)
 MO:ps.map (·.1)=rs
 hp:∀p∈ps,RX no ba oc fs rs m p
section
variable{no ba oc:Int}{fs:List (Int×Int×Bool)}{rs:List D}{m k:Nat}{ps:List RP}
def KH.l8(K:KH no ba oc fs rs m k ps):ps.length<=8:=by
 have:=K.hX.rr.1
 rwa[<- K.MO,pA] at this
theorem KH.sm(K:KH no ba oc fs rs m k ps){j:List Int}(hx:∀x∈j,0<=x/\x<no):Sm j:=λx h=>⟨(hx x h).1,by have:=(hx x h).2;have:=K.hX.ho.n2;lia⟩
theorem KH.ts(K:KH no ba oc fs rs m k ps){xs:List Int}(hl:xs.length<=60):∃ts:List TB,(∀t∈ts,NH t)/\aAt ps xs xs.length=ts.map eE/\ts.length<=20000:=by
 obtain⟨ts,h1,h2⟩:=W8 (P:=NH) (g:=eE) (l:=aAt ps xs xs.length) λd hd=>by
  obtain⟨b,j,is,rfl,h1,h2,u⟩:=Fi K.hp hd
  have:=K.l8
  exact⟨(b,j,is),⟨by show b<=60;lia,by show j<=60;lia,u⟩,rfl⟩
 refine⟨ts,h1,h2, ?_⟩;have u:=zQ (xs:=xs) K.hp K.l8 xs.length;rw[h2,pA] at u
 lia
theorem Ip{W n:Nat}{xs:List Int}(K:KH no ba oc fs rs m k ps)(i:∀x∈xs,0<=x/\x<no)(f:xs.length<=1000) :
  run T W (n+5) "S" [.sh (oA no ba oc fs rs),.p (.l (xs.map D.int))]=some (.ok (.ow (.l ((wG k (ED ps xs)).map D.int))),[.sh (oA no ba oc fs rs),.p (.l (xs.map D.int))]):=by
 exists AW
 have r:k<=7:=by have:=K.hX.ho.n2;have:=K.hk;lia
 have s:∀{Y:Env},aAc .BB [.val (.i no)] Y=aA (rg k,eA):=λ{Y}=>by rw[K.hk];exact iJ (by lia)
 have l:∀j:Nat,j<k->∀x∈xs++[(j:Int)],0<=x/\x<no:=λj g x t=>by
  rcases QE.mp t with h | h
  ·exact i x h
  ·rw[ME.mp h,K.hk];lia
 have a:∀j:Nat,xB .Add (.l (xs.map D.int)) (.l [.int j])=aA (.ow (.l ((xs++[(j:Int)]).map D.int))):=λj=>by(rw[KG (EF (by simp;lia)),lO])
 obtain⟨B,e,o,rfl,b⟩:=wO (tests:=aC T.dA (run T W (n+4)) [.call "Q" [.v 0,.sA .Add (.v 1) (.l [.v 3])]]) (DB:=ev T.dA (run T W (n+4)) cA LV) (bind:=UA bA [3]) (ds:=rg k)
  (λj=>ED ps xs (j:Int)) (λj=>.int j) (λY=>∃o,Y=[.sh (oA no ba oc fs rs),.p (.l (xs.map D.int)),.un,o]/\KA o=bA)
  (λj d hd Y y=>by
   obtain⟨o,rfl,b⟩:=y
   have g:j<k:=by
    have:=(lD.mp hd).1
    simpa using this
   have u:d=.int j:=by(rw[dD,OJ g] at hd;exact(pD hd).symm)
   subst u;have z:=a j;have v:=Rp (W:=W) (n:=n) (xs:=xs) (q:=(j:Int)) K.MO K.hp (l j g);refine⟨_,[.sh (oA no ba oc fs rs),.p (.l (xs.map D.int)),.un,.i j],by simp only[HB,eB b]<;>rfl, ?_,λ_=>⟨.i j,[.sh (oA no ba oc fs rs),.p (.l (xs.map D.int)),.un,.i j], ?_,rfl,.i j,rfl,rfl⟩,λ_=>⟨.i j,rfl,rfl⟩⟩
   ·generalize xs++[(j:Int)]=C at *
    clear hd g K i s l a b f r
    walk_at "!pA"
   ·unfold LV;clear hd g K i s l a b z v f r
    walk_at "!pA")
  [.sh (oA no ba oc fs rs),.p (.l (xs.map D.int)),.un,.un] ⟨_,rfl,rfl⟩
 rw[pA,LH,d6] at e;have A:NA ((wG k (ED ps xs)).map D.int).length=bA:=kB (by rw[pA];have:=wR (k:=k) (ok:=ED ps xs);lia)
 generalize (wG k (ED ps xs)).map D.int=F at *
 clear K i l a b f r
 walk_at "!pA"
 rw[IC s]
 walk_at "!pA"
 all_goals (first | done | (rw[RC rfl];walk_at "!pA"))
end
def R4{xs:List Int}:vB .Eq (.l (xs.map D.int)) (.l [])=aA xs.isEmpty:=by
 have h:nB 20 (.l (xs.map D.int))=bA:=by(show(xs.map D.int).all (nB 19)=bA;exact sF.mpr λd hd=>by obtain⟨_,_,rfl⟩:=wB.mp hd;rfl)
 rw[AV h rfl];cases xs<;>rfl
def b_{a:List Int}(b:Sm a):sI (CA (a.map num))=if a.isEmpty=bA then("none":fA) else CA (a.map num):=by
 cases a with
 |nil=>decide +kernel
 |cons x a =>
  unfold sI CA;rw[HC,C7 (yS (JC (by have:=b x (.head _);lia) (b x (.head _)).2))];rfl
def Fx{W n:Nat}{xs:List Int}(a:Sm xs)(hl:xs.length<=60):run T W (n+1) "T" [.p (.l (xs.map D.int))]=some (.ok (.s (sI (CA (xs.map num)))),[.p (.l (xs.map D.int))]):=by
 exists EW
 obtain⟨q,b⟩:=xN (W:=W) (n:=n) (el:=O5) rfl (RS a);rw[CP] at b;have f:=jJ LG (by decide) (B:=60) (N:=4000) (λw c=>(SS a w c).tg) (by rw[pA];lia) (by decide);have d:NA ((xs.map num).map D.str).length=bA:=kB (by rw[pA,pA];lia);have e:aAc .of [.slot 0] [.p (.l (xs.map D.int))]=aA (xs.map D.int,aA 0):=WR rfl;have g:=R4 (xs:=xs);rw[b_ a];unfold CA
 generalize xs.map D.int=X at *
 generalize (xs.map num).map D.str=M at *
 generalize QB _ _=h at *
 clear a hl;cases hE:xs.isEmpty
 ·walk_at "!"
  rw[gY e];simp only[aAg,qG,rG]
  walk_at "!"
  all_goals (first | done | (rw[RC rfl];walk_at "!"))
  all_goals (first | done | (simp only[aAq,aAl,YD,JH,qG,rG,JD];walk_at "!"))
 ·walk_at "!"
def vCa:yD "Desk" ["house","line"] "say" aT=aA "p":=by decide +kernel
def aAM{W n:Nat}{h a d:D}{L L2:List D}{w:fA}(b:run T W (n+5) "p" [DS h L,.sh d]=some (.ok (.s w),[DS a L2,.sh d])) :
  run T W (n+6) "k" [DS h L,.sh d,.s w]=some (.ok (.b bA),[DS a L2,.sh d,.s w]):=by
 exists HW
 unfold DS LC;unfold DS LC at b;have e:(w==w)=bA:=YC w
 walk_at "!Hu Cu Du vCa"
section
variable{W n:Nat}{h:D}{L B:List D}{t:fA}
def TJ(W n:Nat)(h:D)(L:List D)(d:fA)(t:fA):Prop:=run T W (n+6) "k" [DS h L,.s d,.s t]=some (.ok (.b bA),[DS h L,.s d,.s t])
def Ask(W n:Nat)(h:D)(L:List D)(w:Int):Prop:=run T W (n+7) "x" [DS h L,.sh h,.p (.l L),.i w]=some (.ok (.b bA),[DS h L,.sh h,.p (.l L),.i w])
theorem Qi{a:List Int}(b:Sm a)(hl:a.length<=60)(c:TJ W n h (a.map D.int) "line" (CA (a.map num))):Ask W n h (a.map D.int) 0:=by
 unfold Ask DS
 exists aN
 unfold TJ DS at c;obtain⟨q,d⟩:=xN (W:=W) (n:=n+6) (el:=M5) rfl (RS b);rw[CP] at d;have j:=jJ LG (by decide) (B:=60) (N:=4000) (λw e=>(SS b w e).tg) (by rw[pA];lia) (by decide);have f:NA ((a.map num).map D.str).length=bA:=kB (by rw[pA,pA];lia);unfold CA at c
 generalize LC h (a.map D.int)=g at *
 have i:aAc .of [.slot 2] [.ow g bA cA,.sh h,.p (.l (a.map D.int)),.i 0]=aA (a.map D.int,aA 2):=WR rfl
 generalize a.map D.int=X at *
 generalize (a.map num).map D.str=M at *
 generalize QB _ _=k at *
 clear b hl
 walk_at "!"
 rw[gY i];simp only[aAg,qG,rG]
 walk_at "!"
 all_goals (first | done | (rw[RC rfl];walk_at "!"))
 all_goals (first | done | (simp only[aAq,aAl,YD,JH,qG,rG,JD];walk_at "!"))
def Ri(hl:run T W (n+6) "q" [.sh h]=some (.ok (.s t),[.sh h]))(a:TJ W n h L "house" t):Ask W n h L 1:=by
 unfold Ask DS
 exists aN
 unfold TJ DS at a
 generalize LC h L=b at *
 walk_at "!"
def Si(b:run T W (n+6) "S" [.sh h,.p (.l L)]=some (.ok (.ow (.l B)),[.sh h,.p (.l L)]))(c:run T W (n+6) "T" [.p (.l B)]=some (.ok (.s t),[.p (.l B)]))(a:TJ W n h L "next" t):Ask W n h L 2:=by
 unfold Ask DS
 exists aN
 unfold TJ DS at a
 generalize LC h L=d at *
 walk_at "!"
def Ti(b:run T W (n+6) "P" [.sh h,.p (.l L)]=some (.ok (.ow (.l B)),[.sh h,.p (.l L)]))(c:run T W (n+6) "U" [.p (.l B)]=some (.ok (.s t),[.p (.l B)]))(a:TJ W n h L "broken" t):Ask W n h L 3:=by
 unfold Ask DS
 exists aN
 unfold TJ DS at a
 generalize LC h L=d at *
 walk_at "!"
end
section
variable{no ba oc:Int}{fs:List (Int×Int×Bool)}{rs:List D}{m k:Nat}{ps:List RP}
theorem aAQ{W n w:Nat}{xs:List Int}(K:KH no ba oc fs rs m k ps)(a:∀x∈xs,0<=x/\x<no)(hl:xs.length<=60)(y:w<4):Ask W (n+7) (oA no ba oc fs rs) (xs.map D.int) (w:Int):=by
 have j:=K.sm a;have t:k<=7:=by have:=K.hX.ho.n2;have:=K.hk;lia
 have hW:w=0\/w=1\/w=2\/w=3:=by lia
 rcases hW with rfl | rfl | rfl | rfl
 ·exact Qi j hl (aAM (n:=n+7) (IS (DP (.tail _ (.head _))) (by decide +kernel) (Ji (V8 j hl))))
 ·exact Ri (Od K.hX) (aAM (n:=n+7) (IS (DP (.tail _ (.tail _ (.head _)))) (by decide +kernel) (Ii (L6 K.hX))))
 ·obtain⟨z,u,e,f⟩:=Xv (m:=m) (ba:=ba) (xs:=xs) K.hX.ho.b1 K.hX.ho.b2;have b:=qx (W:=W) (n:=n+4) K.hk t K.MO K.hp K.hX.rr.1 u (tl:=FF m xs) (by unfold FF;rw[jM];lia) (λx h=>a x (mGa h));rw[<- e,show ED ps (VG z (FF m xs))=ED ps xs from funext λq=>(Hy f λp g=>(K.hp p g).dep).symm] at b;have l:Sm (wG k (ED ps xs)):=λx h=>⟨(f6 h).1,by have:=(f6 h).2;lia⟩
  have c:(wG k (ED ps xs)).length<=60:=KC wR (by lia);have i:=cFa (W:=W) (n:=n+7) (rs:=rs) (xs:=xs) K.hX.ho K.hm K.m3;exact Si (Ip (n:=n+8) K a (by lia)) (Fx l c) (aAM (n:=n+7) (IS (DP (.tail _ (.tail _ (.tail _ (.head _))))) (by decide +kernel) (Ki i b (V8 l c))))
 ·obtain⟨ts,o,v,r⟩:=K.ts hl;have s:=ek (W:=W) (n:=n+4) K.MO K.hp K.hX.rr.1 a (by lia);have d:=ov (W:=W) (n:=n+9) K.MO K.hp K.hX.rr.1 a (by lia);rw[v] at s d;exact Ti d (ik o r) (aAM (n:=n+7) (IS (DP (.tail _ (.tail _ (.tail _ (.tail _ (.head _)))))) (by decide +kernel) (Hi s (jk o r))))
end
noncomputable abbrev lx(W:Nat):=YA T.dA (run T W 29) W
noncomputable def Bu(b:(P f).length=a.length+1)(h:nN Y (C f (.p (.ins c [] [])::a.map .sh))=some (.ok v,d)):nY P C c f a Y=some (.ok v,d):=(QA b).trans h
def sv{ns:List Int}(d:ns.length<=63):∃no ba oc fs rs m k e f u,KH no ba oc fs rs m k e/\lx W (cG.body.take 5) ([.sh (.l (ns.map .int))]++CB cG.nl .un)=aA (.nx,[.sh (.l (ns.map .int)),.sh (oA no ba oc fs rs),.o (.l [.int f,.int u]),.o (LC (oA no ba oc fs rs) []),.o (LC (oA no ba oc fs rs) []),.o (.l []),.un,.un,.un]):=by
 obtain⟨f,no,ba,oc,fs,rs,r,a,g⟩:=gr (W:=W) (n:=26) (k:=(HD ns 1).1) (s:=(HD ns 1).2);have h:HX no ba oc fs rs:=⟨a,g⟩
 replace r:run T W (26+3) "N" [.p (.l [.int (HD ns 1).1,.int (HD ns 1).2])]=some (.ok (.sh (oA no ba oc fs rs)),[.p (.l [.int (HD ns 1).1,.int f])]):=r;have i:=V9 (W:=W) (n:=28) (ns:=ns) (k:=1) d (by lia);have j:=V9 (W:=W) (n:=28) (ns:=ns) (k:=2) d (by lia);rw[show((1:Nat):Int)=1 from rfl] at i;rw[show((2:Nat):Int)=2 from rfl] at j;have B:=Od (W:=W) (n:=27) h;obtain⟨m,l,q,x⟩:=zw a;obtain⟨e,b,c⟩:=ub (rs:=rs) a l q rs g.2;refine⟨no,ba,oc,fs,rs,m,no.toNat,e,(HD ns 2).1,(HD ns 2).2,⟨h,l,q,by have:=a.n1;lia,b,c⟩, ?_⟩
 generalize (HD ns 1).1=C at *
 generalize (HD ns 1).2=p2 at *
 generalize (HD ns 2).1=k at *
 generalize (HD ns 2).2=s at *
 have t:=NX (W:=W) (n:=21) (br (W:=W) (n:=21) h)
 have F:∀Y,nY T.dA (run T W 29) "Desk" "v" [.str (FE no ba oc fs rs)] Y=some (.ok (.ow (LC (oA no ba oc fs rs) [])),Y):=λY=>Bu rfl (by
  show nN Y (run T W (21+8) "v" _)=_;rw[show List.map Sl.sh [D.str (FE no ba oc fs rs)]=[.s (FE no ba oc fs rs)] from rfl,t]
  rfl)
 generalize FE no ba oc fs rs=H at *
 generalize oA no ba oc fs rs=y at *
 generalize ns.map D.int=N at *
 unfold lx cG;clear h d a g t b c l q x
 generalize LC y []=I at *
 walk_at "!oo Ew"
def yt{L:List D}{x:D}:TC (aA (.l (L++[x]))) (.int (-1))=aA (.sh x):=p7 (by
 unfold L2.LB L2.DD;rw[pB (show ¬(0:Int)<=-1 by decide),PB,dM,QA (by lia)];show(L++[x])[((-1:Int)+((L.length+1:Nat):Int)).toNat]?=_;rw[show((-1:Int)+((L.length+1:Nat):Int)).toNat=L.length by lia,rM (oB _),jQ]
 rfl)
def El(h:eH i):xB .Add (.str "sing ") (.str (num i))=aA (.s (("sing ":fA)++num i)):=SI (by
 have:=h.tg.len
 rw[show("sing ":fA).length=5 by decide +kernel]
 lia)
section
variable{W:Nat}{no ba oc k s:Int}{fs:List (Int×Int×Bool)}{rs:List D}{m kn:Nat}{ps:List RP}{x0 t6 t7 t8:Sl}{xs:List Int}
abbrev St(x0:Sl)(a:D)(k s:Int)(X:List D)(t6 t7 t8:Sl):Env:=[x0,.sh a,.o (.l [.int k,.int s]),.o (LC a X),.o (LC a []),.o (.l X),t6,t7,t8]
theorem aAJ(K:KH no ba oc fs rs m kn ps)(Z:KA t7=bA)(j:∀x∈xs,0<=x/\x<no)(hl:xs.length<60):∃(I:Int) (a:List Int) (f:Sl),YA T.dA (run T W 29) W qO (St x0 (oA no ba oc fs rs) k s (xs.map D.int) t6 t7 t8)=aA (.nx,St x0 (oA no ba oc fs rs) k I (a.map D.int) t6 f t8)/\KA f=bA/\a.length<=xs.length+1/\∀y∈a,0<=y/\y<no:=by
 have n1:=K.hX.ho.n1;have n2:=K.hX.ho.n2;have i0:TC (aA (oA no ba oc fs rs)) (.int 0)=aA (.i no):=rfl;have F:=R4 (xs:=xs);obtain⟨v,p,H,d1⟩:=NM (W:=W) (n:=28) (k:=k) (s:=s) (m:=5) (by decide);by_cases t:xs.isEmpty=cA/\v=0
 ·obtain⟨b,rfl⟩:=t;obtain rfl | ⟨a,y,rfl⟩:=List.eq_nil_or_concat xs
  ·cases b
  rw[List.concat_eq_append] at *
  obtain⟨w,u,A,J⟩:=NM (W:=W) (n:=28) (k:=k) (s:=p) (m:=4) (by decide);obtain⟨c,rfl⟩:∃c:Nat,w=(c:Int):=⟨w.toNat,by lia⟩
  have d:∀x∈a,0<=x/\x<no:=λx h=>j x (CT _ h)
  rw[PB] at hl;have ask:=aAQ (W:=W) (n:=15) (w:=c) K d (by lia) (by lia);have g:=aAM (W:=W) (n:=23) (uCa (W:=W) (n:=23) (h:=oA no ba oc fs rs) (x:=.int y) (L:=a.map D.int));have l:((a++[y]).map D.int)[((a++[y]).map D.int).length-1]?=aA (.int y):=by simp
  have hd:((a++[y]).map D.int).dropLast=a.map D.int:=by simp
  rw[lO] at g;rw[b] at F;unfold Ask at ask;refine⟨u,a,.s "back", ?_,rfl,by simp;lia,d⟩;have M:decide (0<(0:Int))=cA:=rfl;unfold qO;unfold DS at g ask;unfold St
  generalize (a++[y]).map D.int=X at *
  generalize a.map D.int=Y at *
  generalize oA no ba oc fs rs=e at *
  generalize LC e X=N at *
  generalize LC e Y=O at *
  generalize LC e []=P at *
  clear K j hl H A d b n1 n2
  walk_at "!"
 ·obtain⟨o,B⟩:∃o,(xs.isEmpty=bA/\o=s)\/(xs.isEmpty=cA/\decide (0<v)=bA/\o=p):=by
   cases b:xs.isEmpty with
   |true=>exact⟨s,.inl ⟨rfl,rfl⟩⟩
   |false=>exact⟨p,.inr ⟨rfl,rB (by have:v≠0:=λz=>t ⟨b,z⟩;lia),rfl⟩⟩
  obtain⟨q,Q,l,d2⟩:=dr (W:=W) (n:=28) (k:=k) (s:=o) (m:=no) (by lia) (by lia);obtain⟨w,u,A,J⟩:=NM (W:=W) (n:=28) (k:=k) (s:=Q) (m:=4) (by decide);obtain⟨c,rfl⟩:∃c:Nat,w=(c:Int):=⟨w.toNat,by lia⟩
  have d:∀x∈xs++[q],0<=x/\x<no:=λx h=>by
   rcases QE.mp h with h | h
   ·exact j x h
   ·rw[ME.mp h];exact l
  have ask:=aAQ (W:=W) (n:=15) (w:=c) K d (by rw[PB];show xs.length+1<=60;lia) (by lia);have C:eH q:=JC (by lia) (by lia);have R:=C.s;have hc:=El C;have g:=aAM (W:=W) (n:=23) (wCa (W:=W) (n:=23) (no:=no) (i:=q) (r:=[.int ba,.int oc,.t (fs.map toD),.t rs]) (L:=xs.map D.int) (by lia) l.1 (by lia) (by rw[pA];exact hl));have il:=yt (L:=xs.map D.int) (x:=.int q);have U:NA ((xs.map D.int).length+1)=bA:=kB (by rw[pA];lia);rw[show D.t (D.int no::[.int ba,.int oc,.t (fs.map toD),.t rs])=oA no ba oc fs rs from rfl] at g;rw[<- lO] at ask;refine⟨u,xs++[q],.s ("sing " ++ num q), ?_,rfl,by simp,d⟩;rw[<- lO];unfold Ask at ask;unfold qO;unfold DS at g ask;unfold St
  generalize "sing " ++ num q=row at *
  generalize num q=nq at *
  generalize xs.map D.int=X at *
  generalize oA no ba oc fs rs=e at *
  generalize LC e X=N at *
  generalize LC e (X++[D.int q])=O at *
  generalize LC e []=P at *
  rcases B with ⟨b,rfl⟩ | ⟨b,h2,rfl⟩
  all_goals
   rw[b] at F;clear K j hl H A d b n1 n2 t C l
   walk_at "!"
theorem zv(K:KH no ba oc fs rs m kn ps):∃(b:Int) (xs:List Int) (t6 t7:Sl),lx W ((cG.body.drop 5).take 1) (St x0 (oA no ba oc fs rs) k s [] .un .un .un)=aA (.nx,St x0 (oA no ba oc fs rs) k b (xs.map D.int) t6 t7 .un)/\xs.length<60/\∀x∈xs,0<=x/\x<no:=by
 obtain⟨v,o,q,B⟩:=NM (W:=W) (n:=28) (k:=k) (s:=s) (m:=17) (by decide);obtain⟨c,rfl⟩:∃c:Nat,v=(c:Int):=⟨v.toNat,by lia⟩
 have C:∀Y,aAc .BB [.val (.i c)] Y=aA (rg c,eA):=λY=>iJ (k:=c) (by lia)
 obtain⟨F,e,r,xs,t6,t7,rfl,f,g,hl,a⟩:=CF (bind:=UA bA [6]) (body:=YA T.dA (run T W 29) W qO)
  (λpre Y=>∃(s:Int) (xs:List Int) (t6 t7:Sl),Y=St x0 (oA no ba oc fs rs) k s (xs.map D.int) t6 t7 .un/\KA t6=bA/\KA t7=bA/\xs.length<=pre.length/\∀x∈xs,0<=x/\x<no)
  (ds:=rg c) (λpre d post h Y t=>by
   obtain⟨s,xs,t6,t7,rfl,f,g,hl,a⟩:=t;have u:=congrArg MF h;rw[pA,LH,PB,VB] at u;obtain⟨b,y,i,e,j,A,l⟩:=aAJ (W:=W) (x0:=x0) (k:=k) (s:=s) (t6:=.sh d) (t8:=.un) K g a (by lia)
   exact⟨_,by simp only[St,uO,uP,YD,JH,eB f,qG,rG]<;>rfl,_,e,b,y,_,i,rfl,rfl,j,by rw[PB,dM];lia,l⟩) (Y:=St x0 (oA no ba oc fs rs) k o [] .un .un .un) ⟨o,[],_,_,rfl,rfl,rfl,oB _,λ_ z=>nomatch z⟩
 rw[pA,LH] at hl;refine⟨r,xs,t6,t7, ?_,by lia,a⟩
 generalize xs.map D.int=X at *
 generalize (rg c)=R at *
 unfold lx cG
 unfold St at *
 generalize oA no ba oc fs rs=p at *
 generalize LC p X=H at *
 generalize LC p []=I at *
 clear K a hl q f g
 walk_at "!"
theorem jv(K:KH no ba oc fs rs m kn ps)(hl:xs.length<60)(f:∀x∈xs,0<=x/\x<no):∃t8:Sl,lx W (((cG.body.drop 5).drop 1).take 1) (St x0 (oA no ba oc fs rs) k s (xs.map D.int) t6 t7 .un)=aA (.nx,St x0 (oA no ba oc fs rs) k s (xs.map D.int) t6 t7 t8):=by
 have h:∀Y,aAc .BB [.val (.i 4)] Y=aA (rg 4,eA):=λY=>iJ (k:=4) (by lia)
 obtain⟨p,e,t8,rfl,c⟩:=BY (bind:=UA bA [8]) (body:=YA T.dA (run T W 29) W hV)
  (λY=>∃t8:Sl,Y=St x0 (oA no ba oc fs rs) k s (xs.map D.int) t6 t7 t8/\KA t8=bA)
  (ds:=rg 4) (λd hd Y i=>by
   obtain⟨t8,rfl,c⟩:=i;obtain⟨w,a,rfl⟩:=wB.mp hd;have a:=IG.mp a;have j:=aAQ (W:=W) (n:=15) K f (by lia) a;have g:=aAQ (W:=W) (n:=15) (xs:=[]) K (λ_ z=>nomatch z) (by simp) a;refine⟨_,by simp only[St,uO,uP,YD,JH,eB c,qG,rG]<;>rfl,_, ?_,.i w,rfl,rfl⟩;rw[HJ] at g;unfold Ask DS at j g;unfold hV St
   generalize xs.map D.int=X at *
   generalize oA no ba oc fs rs=b at *
   generalize LC b X=l at *
   generalize LC b []=o at *
   clear K f hl hd a c h
   walk_at "!") (Y:=St x0 (oA no ba oc fs rs) k s (xs.map D.int) t6 t7 .un) ⟨.un,rfl,rfl⟩
 refine⟨t8, ?_⟩
 generalize xs.map D.int=X at *
 generalize (rg 4)=R at *
 unfold lx cG
 unfold St at *
 generalize oA no ba oc fs rs=b at *
 generalize LC b X=l at *
 generalize LC b []=o at *
 clear K f hl c
 walk_at "!"
end
def law_spec(W:Nat)(a:List Int)(h:a.length<=63):∃b,run T W 30 "law" [.sh (.l (a.map .int))]=some (.ok (.b bA),b):=by
 rw[DG (fn:=cG) rfl rfl rfl];obtain⟨no,ba,oc,fs,rs,m,k,l,c,i,K,d⟩:=sv (W:=W) h;rw[bK d];clear d;obtain⟨j,n,t6,t7,e,hl,f⟩:=zv (W:=W) (x0:=.sh (.l (a.map .int))) (k:=c) (s:=i) K;rw[bK e];clear e;obtain⟨o,g⟩:=jv (W:=W) (x0:=.sh (.l (a.map .int))) (k:=c) (s:=j) (t6:=t6) (t7:=t7) K hl f;rw[bK g];clear g K f hl;generalize St _ _ _ _ _ _ _ _=Y;unfold cG
 walk_at "!"
 exact⟨_,rfl⟩
end Mx
namespace PySem.W.Fast
local macro_rules | `(command|universe $x)=>do let l:=x.getId.toString.toList;let c←(List.range (l.length/11)).toArray.mapM λi=>(do let n:=Lean.mkIdent (.mkSimple s!"tw{((l.drop (1+11*i)).take 11).foldl (fun n d=>62*n+(d.toNat-if d<'A' then 48 else if d<'a' then 55 else 61)) 0}");`(command|def $n:ident:=True));return Lean.mkNullNode (c.map (·.raw))
universe xBwVuRoNZWDuBx6oRdfqLaSC0G1bSFSyOpC4QBXAtcM86C4irlhF25F3C4lUpJohMscC5jLXnHy3OlC6dJeml64DrC7Xh8zT8SEDCDGECpMKjQHCFzZGUnkLJ71EB5c9c3WeJCIaGP1l0OF4CK0sZth1IxZCKWBCE2bkVeCMNJ64Sl3BuCNoLfGIdHGbCNqeCMqat9JCOlMJTv6eFO1EvVYYlqrLvCQstAo3JOKZCWVGBQNDeMWCWspCpTo92rCWw0k9qjlpHCXidWTHAwe4Cc8zX0a7K4g1GLYYSFqjQQCe1i5QgTJzrCjgLBjUJM8iCkyW7FscAjyCr1mconEGKTD000YU3TVEFD1SbcM8gIb8D2Rw7BNVjAoD8x5N4aHunTDAur90NUQc3DCubuRJKsFtDDKY15tIqeDDDbob1x4uHTDEocoqVGPrJDHPb7ZPlEvVDJRgyfa4bSzDJeQPi29PomDQYRcJoFJzlDRIdmbuKEs108LFsDeE4lGDXv3H8nGv1ODYCiOQJ6FpmDa33705r1ydDbOaXvRfgvK1MLGdF0P2fyDcbFNiCTDjiDe6td7ItrVy1MpWQEev15q1N0GYDuBMSSDmFE4ZFTZowDmYfURSci4JDvJ4nWCr0dYDvsStElFqgCDvstRhskQnVDx38viUIUaBDyfdpQYgmngDzvNwXZhSClE0PqascihlBE0kMlRlEifWE1ojV8VM8r2E3k0kM16K0VE4kcUB7EC2zE6LvGgPhPYpEDHaTK93X2sEE9BbOxfLn9EGCro664mbdEGm35jgUgS2EHqNgonurv21QgEix1mcHQEJ1HOdeuflXEJ3kfu6B7wHEJwyHaoviI7EMHJdaDeK5S005WHouKg8ZEOpiLCyc41SEPKILh68ZqKEZsNU56HvbVEdqVfSBncYSEdx5hewjVgWEh3vhHGDpIqEhFfAvN49mbEiDcus934P3EiSlH2zGzxDEj2pGZOJe4zEjPDvJbPfuP1TLWDzDz0UUEkXSYgX22j7Ekm5lQnbhZ2ElqCk4pS8UwEpMCMXD3PORErNPVHC77BOErUFzNV7hzn1UJR1Jz6yiSEumomChaGDyEutAANDJ8v1EwSCyLM0WTLEx66gBlMvisF2d6vZoQ63zF5znvtSdwx5F8caCUdesntF8yVULJZbhYF9I69z2bs9PF9KPgPXPyhKF9e8uL6X9ZHF9f2Se6gn5PFBxp9RsRMSKFCoUfGdc7z4FEVYFgEpiFvFEkbTnPIsvIFGYtOpZK4vPFJNsjI4xgaCFJyDTXACSs5FKCyOpAsxLMFLiqgYXwsY4FME8Ik3SVliFMU2WVa5mjWFNB6ezoVA55FNbW3i0lV5a1Xz8SmbG6ktFTs1JNkoobZFYhawdIintEFZdv0Cn5ijGFd5U98RWR2nFfwFk16hWxKFgQXGAbVdc2FhnXYKCQsGdFkxEeFNDh6EFm7KoAWf3AbFmsWwfDFt1NFou2v22Z7ycFpbf2i44sfyFphjB3aWZMuFqpRa5NqwQ6FwqLs9vF0RYG2yV8iXi8ZiG3W2kg8pNBVG7WOnwGXr1FG82SHVs5G4VG89cAaUSE4sG8wwXni4WQ0GCgyo9YdTtCGCnT6OFr3a1GDE0pQupLveGDnjC4MMsQ1GEa4VJCgUCEGHqWpzMUZgkGJhbTdva2HcGL214UEJVtu1dobqBPI6P2GQStEMI7bGHGRTisQTilvSGTZFGtswYp31eDfxEOONdjGYUMq7dKxAkGYdvRUYdOAoGZXwic0GhCI1fMtE0JwbbdGisfaotQUFwGkN9HyOxhEdGoUbfvs1uPTGpGSno9T2MiGrKIQ9d1zgkGsfv98F1aXb1gfmtE4sbOd1gs6RFPMiEaGvMbqhpKUnc1h7JsoVKjsGH5sCZw6RmIAH63vTydrusJH6Vx3FPW6bTH7hPQjM7kKRH8jn4NiDDvkHAjgJ4SobzHHDdvyHzdKkuHF0A6AdpME5HGH0GPEDrliHGMeFB0yBUGHM2JpFkec5oHP7Hdi195Z1HPtIxB9e2BWHT7ci6qiik0HTOZUFnLP3THUOrzi1QCnkHV3RNHMgwOg1kVzzdRBPW0HYM2tjcp5aYHZ4I93sj3gPHZBjOh4dazR1lQXCKW78Lr1lYjf7rlWEAHjGFS5sJRpGHjgFqsg2TAqHk4bMn9081h1m3VyrN9tzzHlCfzthALGgHoG9JgGLkCuHoiX54ZqV3zHomI4NNTkbXHqEPPAa6n71Hr1B19XaGcaHrnyTifVDZtHsC3HU9Td6vHvGrKpnx6tfHyQbHHYq6uFI0mlYXascL2I1wnQmFs9eNI22I69makeg1nuKfyjTNWX1oGX3s0bk5GI7ptqOHpnyFI9c6ouqHlDYIEMydCgtx1eIF9yY4p0ZtY1pd1ANUzJKLIKjoKzrkNW7IL3NUi3BXyUIQKq0h8UVvUIT6Zl0P00dD1qXfEgUMHqvIUy3eRk8pbnIZVo2wI7jA2IZphpMP9C6oIbXGyRmTScgIiIEfP4JiOMIlR6BIDupdYInRbd1R0XU0Ip7po7HMhMdIppfUkb5dXKIrRHuVOkFJgIs38V5SCwYtIsJgjvzkQ0gIvdjxRx9R1d1tshazGCNu9J1cnpwMP1cj1u8vx3cvcMfJ4SuTNUEma3J7hIVxXmhRZJ9eGYsuqzKDJDwsklo4BSEJKRxs8QsNSmJMYbXRGlzICJNA117wAH8NJNIxkR047LAJNVWtJS5PDkJNkGO62YX42JOcO4bwJT5YJPr7UjZNsHxJRAsKkPBruCJRMEDFRk2qdJRW52dqaFYe0C3nWlq3S85JUBR2wAC1dy1xCwuQUotGmJYXRcNV4q0iJZmLwFTr8jm1xbvCsP8j0SJeerlwg45ktJgtOiiQdmpDJhNuAvfPkomJi1AtVCJ0dqJl5hjiFJ2gAJljZZkcXtoe1yboKRQSGaU1yldREifewEJoD5trByn60Jorl4dQRtj2JpBVnslPtzdJrzWxJRKlG6JtDIqFKiDhDJtJAK5lCosnK28H0yIQyC8K2Q1rVpSVhHK2WXF9pL7LUK4q8LSR8Sk4K6Eio2q6sUyK6MO6JNSGd9K6dz5u2PUAeK9Tqe0rFzbnKEjCsTBNhorKFf7i34HTBfKFwl4FOwjVmKJ2VVnxm8tTKKQbMhDBTJjKL4KFZZdXekKLRc9cvuTXsKOpq47Hqup4KQk3RhVrO5cKRHNTJdODSe238SyNWtxNtKVabxJB9WreKXqWcOUidk1KZWI3YJX0a8KdJcHo30O9jKebRFZ4o2uwKegTS1rSkGNKgmQ43XbtKv24KjAAm0gcCKilxhlzAznaKjsipYflXWPKmdbBwCzuVgKpOX2vaPA9KKrp8g9ukGnm25YbbBQZpmVKuL1s2jIZcG25kQhnxs0PvKwTjsNat986KxJCSD0MnX7Kyb3lBnnFx4Kykf5RyR97UL0u4xvj8sTrL39K2rNf2FmL6pjf8S7mJNL8oelDSdha1LEDhaPxVu6mLKEOusSGsCl28ZlF3FtlCtLPdpORnP2VrLQM6kcnKaDsLSgIppjsTOjLU8fMV5EgGH0DK3G6wq6NkLURpHijRGlyLVEkNB5T6CJLVv4qFyT2jVLaDjBfncyFELeXgw9WIA0ILfG3Orkd17ELgTqznTvwITLjB1Flpf0BqLjYPzZkD1zNLkqpKpJdFX9LoG3WNLaL1aLofiMUrj19DLuuZ42pWy6QLv5q6nC5SrsLy9w2O0amx22EAMUcLiX5Y2F6dxVViKlX2FqFTNGDtUZ0E12o5snDtI2JEjVPcSh4x2Lsoht9VvCT2Lyt0yncgIQ2O3W2k5KXZv2P37AkHf6an2PEH9I4XIZ52PviTQWQ5RI0F0HneFnnED2SLLkHnejGj0FF57F25unf2UbwRWb8oYy2WQLrM2SkJd2XGb1B1Yamx2ZAvHvDPt3b2aR9PWBX1Ua2erkFK0tcZE2hdgBgD1lDh2kopv4Hei1c2oES9qUm3C32oEr73uhlJS2qWizwcI70s2qsmtEeZ67U2veQaiStNm82zigTvdjUG931SvIk0zdOx0J20AJ5ztSm34NCRCyQkiF34ns2RVQJRI359BKztjnb535BLsjVzOue35HWWAmrxwv37AlsUrOkC338OPzbvEhsR3BBEKFIkPRU3BgO2Vbgr3X3GofDksng8e3Iq4d8XQijc3L9eOCgMtH53QAFgMGdK5A3RsAAlIjUcq0Lec71FXTXe3VTg5GlB4Ei3b6zZ7E33IH3buKomLChKA3cqG2OIkey33eTmhbqrXsp3jJ5gYWNP5W3lFTSDMluWE3mFx5U9EHX23naP3mWTxKG3o0fwRRfMOh3ohxTInR2GN3pHV7tvVNnV3qGokuRAkaQ3uvEYDlqFmI3vB0R5Gl1rI3w9JBwRvuMF3z0kBC4VRV041HxSpq9xzB43qNHlP2TP90PBsh68VlRe45Klvy7iLNo45YV3wStLUa47S665DkxSB495aMIVBpLQ4Bkhs4toAh34C5op6OAoUc4FfLcoRw97D4FvGrPMFG8K4G2PguzkmaI4GjGaiYPNWQ4HyDWeRQCHu4IQaP1ADocL4ISqMK2tUPA4Ihepdug2Gs4KeI8UMTDXw0R3SBbNu4fi4QM1XzU6PTj0Rqwi4LSTtr4YQ00fpmHyJ4aXfSH2cFj74c5HCquwrZ74c9kLa6QJMm4cqxxO72xQz4fuB5fSBmi14indKAhwLvh4nvuehOMZos4qHLLVmhRz30V41zeydeq852KsqAQj2C655VbEpEy31s5FcVod1jPfR5LfsH03vXSE0XGa0CCRbQl5OUrFKvL08u5OuaWvKCm490XXnBnemczI5TyxuYGNqht5UJvcpeTrYT5UtV38FUddb5VKqGtlXyX45WMPrjvjFy45XLt6c0u4uz0YSGyBrOIhB5ay5XXGmyRp5fEnO5xLZwX5ilveMETt9G5jhuX9TsKLX0Za5BRpbFpO5myuP6LhhMi0ZuBzRPZyzn0a17SJK6WtM5sQvubZPAlZ5t8vrWPxEMN5ttg93vZ4OM5vaCfPRzVKf5wsMdhwzPt762KJuSFsAbV65vEAdHoQc066hY4vfARse67qkVSYrlU268NRaBxRA97691MICP5aJh6AGnjfWyrLj6C2gCocqpZ06EntvxcxarQ0cmIQLOwX3k6HzsrcBJ2XE6MsjTVUsxBB6OaFUglaHOY6Q0xJ1pSw5E6QjvroU2CkZ6Uj1qC3VUSr6ZDSgHklPJx6af4moc5AE46ajGcjDHwwl6cLGmSKwQXz6cfyKklcF6A6ezXz1ge6DK6iUd60rCgDA6iqkZHhxFjw6jceMA5eMkX6lbvp4i5bBC6sjaOOB7DUU6uap4SJRrHw0gx1FpXSfVR0gxLEgzBXCV71fGYG1BPlq78S7Jr76DiM7AYs5netIPF04SaWVeRUwN7DnQGZnMw1D7FPj5O6OS327GVl8yZtDXs7Gin4KQVT2b0j4ikqNAyEB7HMnU18Ybtt7IAEkKXst7H7IKAzNzJ3Vk7LQiwCaG68t7OTlpY1E26p7SK7wfmJqDN7Svs5LFlQzy7V6aFhogzQ97azGeCcPK317cdnwwEAkXD7d7VyFfP7C17g8695DRTQC7i4SX3ZJDKD7jWMtgfXY507omRueYfBp77u3GHgm8H410nl3javTGie0nwj5zXHzk30oMOU9RoOr388Ehquy4Ilc88L5oymxyYz89PxDuKQWTP89p1YJMsBfe8Arm8yR5BJY0os4NuP8dV18CsSnghm3ma8Esth5kkRVX8FgExJsCXe88H9Uvdj9IwJ8IwaC6xb7DY8J4esKNO1Bd8JF8Pc4cTFq8JI3gFvoTye0pbD1Wc0Oaq8UEjTXCbj4V8UVGqbxSx098VU2uwZAlUy8Wx6cm6nl9y8Y82xdVecnb8YDE5jCjtqB8csddHn9Jjn8eku9A4D8X18mjkFnPC0TC8u0IdrVElEl8vWliP1ZWd48wLohOgyBQU8xKI5jEpWjW8xeeWZ83MX78z4wgX12nkt8zOj3qmLz8n8zQpPB2TYnc8zt8xh74ZEW93DvuNKjqCP93ssHG19C2c96BfxFlSH6V977AqBjC3u699Ws3kQJk1S0usahrRZBzv9BrE4dc9IW29DUVdb8SBw89EC6OraDIWK9FGYOR8DjBw9IC9vCEp1mG9ITyocEJ6hR9KKCeEQcpt49LeIUckeLoP9PWNjG761xB9Q6dCE3d9dB9QLgFCpuuyJ9RKJXbVpdT09Tnsmj0XPSe9U3PEKjgDOH9VYS7Xlwi8Y9WtSlPZzmoy9YrzkOTltRJ9ZnAfO307Ai9Zo7kuOYpJc9a6scDaW4u39ccFCOPQtf79fw6q5ZK7lr9iEpbkDfFca9kBW2wYKyLs0yjb771p1iP9ns6yOOoJ3J9oU3iWmCFjA9ogZNbd6PBQ9uZYrZHqo0m9z4H4QyEpzgA19LbLcaborA1ttEhEa1AyA478p62B8JxA5BlYCchzNJA5L4Hlc58idA5RoKxTQlnSA8UIpk2LaH2ANVFILcC9FrATWTKYHCBoBAU9RelxnAMuAUVIQPnRMqWAYYMbaiGQ2dAYcscTwdzj9AZosNKITNbiAa38tEbsoIjAaVuARREndGAd0IUqrMIGRAjT2nxdtZ2N14cDweJBoPWAnAD7NeNC6rAp9PlINRGCdAs2cPJfMpdxAueXzzPPvP3AzfS0a8LxniB040x8VOUPsB0yAZEzJUVPB1rnRZ4az0JB295GXTCeStB6y70cp4mSjBCREV1drpWPBEWHUo7bLYnBKfkcCBKL5dBKpKSVDAfAXBMgZ9njiT5B18Wys3anWH2BOpMZ5DefNqBPGGhLdytJzBQisYZ67X6fBSBNtUe7wLaBSSZ66hvYZ3BSfMNDSE0IHBTPOK168B9RBXQvzcFtOcUBYguf2W8tjyBhS10A3I8uBBntDWaUEVwEBoJXauUXrOO
end PySem.W.Fast
open PySem PySem.W PyProof.Rows
local macro_rules | `(tactic| exists $n,$b,$f)=>`(tactic| refine CI.zp $(Lean.mkIdent `KX) $(Lean.mkIdent `G) (show CI.ZN _ (Tx.top $n) _ $f from CI.AG $b) ?_)
set_option maxRecDepth 100000 in
set_option maxHeartbeats 0 in
theorem PySem.Challenge.cw_canonwright_k68_a_desk_sings_holds : PySem.Challenge.rw_canonwright_k68_a_desk_sings.Holds := by
 w_on;o_law;k_head;(case hw=>w_witness2)
 k_fill
 refine CI.Cv (l:=PySem.Challenge.rw_canonwright_k68_a_desk_sings) (T:=Tx.T) (L:=Tx.L) (st:=Tx.top 159) (fn:=Tx.cG) (W:=1000000) (n:=30) (x:="law") (p:="_law_script") (f:="law") rfl rfl ⟨rfl,by decide,by decide,rfl⟩ rfl Tx.vi Tx.Gy (by decide +kernel) (λw h Y=>PySem.W.kIn_of Y) ?yp ?xw
 case xw=>exact Mx.law_spec _
 case yp =>
  intro w mg h KX G;have u:CI.ClsAt (L2.mB KX) "Span":=by refine' CI.WJ ?a ?pg ?hd ?po ?sa ?mk ?kp;(case a | pg | hd | po | sa | mk | kp=>dsimp only[L2.mB];k_is)
  have I:CI.ClsAt (L2.mB KX) "Leap":=by refine' CI.WJ ?a ?pg ?hd ?po ?sa ?mk ?kp;(case a | pg | hd | po | sa | mk | kp=>dsimp only[L2.mB];k_is)
  have J:CI.ClsAt (L2.mB KX) "Back":=by refine' CI.WJ ?a ?pg ?hd ?po ?sa ?mk ?kp;(case a | pg | hd | po | sa | mk | kp=>dsimp only[L2.mB];k_is)
  have y:CI.ClsAt (L2.mB KX) "Again":=by refine' CI.WJ ?a ?pg ?hd ?po ?sa ?mk ?kp;(case a | pg | hd | po | sa | mk | kp=>dsimp only[L2.mB];k_is)
  have j:CI.ClsAt (L2.mB KX) "Range":=by refine' CI.WJ ?a ?pg ?hd ?po ?sa ?mk ?kp;(case a | pg | hd | po | sa | mk | kp=>dsimp only[L2.mB];k_is)
  have B:CI.ClsAt (L2.mB KX) "Above":=by refine' CI.WJ ?a ?pg ?hd ?po ?sa ?mk ?kp;(case a | pg | hd | po | sa | mk | kp=>dsimp only[L2.mB];k_is)
  have C:CI.ClsAt (L2.mB KX) "Never":=by refine' CI.WJ ?a ?pg ?hd ?po ?sa ?mk ?kp;(case a | pg | hd | po | sa | mk | kp=>dsimp only[L2.mB];k_is)
  have M:CI.ClsAt (L2.mB KX) "Desk":=by refine' CI.WJ ?a ?pg ?hd ?po ?sa ?mk ?kp;(case a | pg | hd | po | sa | mk | kp=>dsimp only[L2.mB];k_is)
  have D_law:CI.YN (L2.mB KX) "law" (Tx.top 159):=by refine' CI.K5 ?a ?l ?c ?k;(case a | l | c | k=>dsimp only[L2.mB];k_is)
  have P:CI.YF w.params (L2.mB KX) mg Tx.T (CI.gD Tx.L) ("WAYS",.c (.t [(.str ("like":fA)),(.str ("against":fA)),(.str ("aside":fA)),(.str ("any":fA))])):=by
   refine' CI.UQ KX G ?a ?l ?c ?z
   (case a | l=>dsimp only[L2.mB];k_is)
   (case c=>first | rfl | decide +kernel)
   (case z=>rfl)
  have O:CI.YF w.params (L2.mB KX) mg Tx.T (CI.gD Tx.L) ("LEADER",.c (.t [(.int 0),(.int 0),(.bl cA)])):=by
   refine' CI.UQ KX G ?a ?l ?c ?z
   (case a | l=>dsimp only[L2.mB];k_is)
   (case c=>first | rfl | decide +kernel)
   (case z=>rfl)
  have m:CI.YF w.params (L2.mB KX) mg Tx.T (CI.gD Tx.L) ("BY_THE_LINE",.c (.t [])):=by
   refine' CI.UQ KX G ?a ?l ?c ?z
   (case a | l=>dsimp only[L2.mB];k_is)
   (case c=>first | rfl | decide +kernel)
   (case z=>rfl)
  have H:CI.YF w.params (L2.mB KX) mg Tx.T (CI.gD Tx.L) ("FIGURES",.c (.str ("0123456789":fA))):=by
   refine' CI.Rl KX G ?a ?ok
   (case a=>dsimp only[L2.mB];k_is)
   (case ok=>decide +kernel)
  have F:CI.YF w.params (L2.mB KX) mg Tx.T (CI.gD Tx.L) ("CHANGING",.c (.t [(.str ("sing":fA)),(.str ("back":fA)),(.str ("less":fA)),(.str ("without":fA)),(.str ("over":fA))])):=by
   refine' CI.UQ KX G ?a ?l ?c ?z
   (case a | l=>dsimp only[L2.mB];k_is)
   (case c=>first | rfl | decide +kernel)
   (case z=>rfl)
  refine⟨D_law, ?_⟩;unfold Tx.L;refine CI.fc (P) ?_
  iterate 8 refine CI.fc (by refine' CI.TQ KX G ?a;(case a=>k_is)) ?_
  refine CI.fc (O) ?_;refine CI.fc (m) ?_
  iterate 3 refine CI.fc (by refine' CI.TQ KX G ?a;(case a=>k_is)) ?_
  refine CI.fc (H) ?_
  iterate 2 refine CI.fc (by refine' CI.TQ KX G ?a;(case a=>k_is)) ?_
  refine CI.fc (F) ?_
  iterate 1 refine CI.fc (by refine' CI.TQ KX G ?a;(case a=>k_is)) ?_
  exists 23,CI.rC,Tx.rR
  exists 24,CI.uG,Tx.sR
  exists 25,CI.YE,Tx.QW
  exists 26,CI.rC,Tx.XW
  exists 27,CI.rC,Tx.YW
  exists 28,CI.dE,Tx.OW
  exists 29,CI.YE,Tx.wL
  exists 30,CI.uV,Tx.UW
  exists 31,CI.uV,Tx.WW
  exists 45,CI.dE,Tx.fX
  exists 46,CI.dE,Tx.rX
  exists 47,CI.YE,Tx.vX
  exists 48,CI.uG,Tx.tX
  exists 49,CI.uG,Tx.VW
  exists 52,CI.rC,Tx.sX
  exists 53,CI.uG,Tx.bX
  exists 62,CI.rC,Tx.aJ
  exists 64,CI.rC,Tx.kX
  exists 65,CI.YE,Tx.SW
  exists 66,CI.dE,Tx.RW
  exists 76,CI.rC,Tx.aX
  exists 77,CI.dE,Tx.xX
  exists 78,CI.dE,Tx.uX
  exists 79,CI.rC,Tx.ZW
  exists 80,CI.dE,Tx.cX
  exists 112,CI.rC,Tx.vR
  exists 113,CI.rC,Tx.mX
  exists 114,CI.rC,Tx.pX
  exists 115,CI.rC,Tx.EO
  exists 116,CI.rC,Tx.nX
  exists 117,CI.rC,Tx.oX
  exists 118,CI.rC,Tx.yL
  exists 119,CI.rC,Tx.iX
  exists 120,CI.rC,Tx.jX
  exists 121,CI.rC,Tx.gX
  exists 122,CI.rC,Tx.eK
  exists 123,CI.rC,Tx.tR
  exists 124,CI.rC,Tx.uR
  exists 129,CI.rC,Tx.yX
  exists 130,CI.rC,Tx.dX
  exists 131,CI.rC,Tx.eX
  exists 132,CI.rC,Tx.lX
  exists 135,CI.YE,Tx.bN
  exists 136,CI.uG,Tx.qX
  exists 137,CI.rC,Tx.wX
  exists 138,CI.YE,Tx.qR
  exists 141,CI.dE,Tx.FW
  exists 142,CI.dE,Tx.zW
  exists 143,CI.uV,Tx.GW
  exists 144,CI.rC,Tx.uL
  exists 145,CI.uG,Tx.CW
  exists 146,CI.uG,Tx.DO
  exists 147,CI.uG,Tx.DW
  exists 148,CI.Tj,Tx.pR
  exists 149,CI.YE,Tx.ZI
  exists 150,CI.dE,Tx.yW
  exists 151,CI.dE,Tx.BW
  exists 152,CI.rC,Tx.cK
  exists 153,CI.rC,Tx.vL
  exists 154,CI.dE,Tx.AW
  exists 155,CI.rC,Tx.EW
  exists 156,CI.rC,Tx.xW
  exists 157,CI.uG,Tx.HW
  exists 158,CI.YE,Tx.aN
  exists 159,CI.rC,Tx.cG
  refine CI.fc (CI.mL KX G u (by refine' CI.kE ?a ?b ?i ?l ?c ?k;(case a | b | i | l | c | k=>(try dsimp only[L2.mB]);k_is)) Tx.Ir (by(repeat refine CI.fc (by refine' CI.pJ ?a ?b;(case a | b=>(try dsimp only[L2.mB]);k_is)) ?_);exact λ_ h=>nomatch h)) ?_;refine CI.fc (CI.mL KX G I (by refine' CI.kE ?a ?b ?i ?l ?c ?k;(case a | b | i | l | c | k=>(try dsimp only[L2.mB]);k_is)) Tx.Er (by(repeat refine CI.fc (by refine' CI.pJ ?a ?b;(case a | b=>(try dsimp only[L2.mB]);k_is)) ?_);exact λ_ h=>nomatch h)) ?_;refine CI.fc (CI.mL KX G J (by refine' CI.kE ?a ?b ?i ?l ?c ?k;(case a | b | i | l | c | k=>(try dsimp only[L2.mB]);k_is)) Tx.Dr (by(repeat refine CI.fc (by refine' CI.pJ ?a ?b;(case a | b=>(try dsimp only[L2.mB]);k_is)) ?_);exact λ_ h=>nomatch h)) ?_;refine CI.fc (CI.mL KX G y (by refine' CI.kE ?a ?b ?i ?l ?c ?k;(case a | b | i | l | c | k=>(try dsimp only[L2.mB]);k_is)) Tx.Cr (by(repeat refine CI.fc (by refine' CI.pJ ?a ?b;(case a | b=>(try dsimp only[L2.mB]);k_is)) ?_);exact λ_ h=>nomatch h)) ?_;refine CI.fc (CI.mL KX G j (by refine' CI.kE ?a ?b ?i ?l ?c ?k;(case a | b | i | l | c | k=>(try dsimp only[L2.mB]);k_is)) Tx.Hr (by(repeat refine CI.fc (by refine' CI.pJ ?a ?b;(case a | b=>(try dsimp only[L2.mB]);k_is)) ?_);exact λ_ h=>nomatch h)) ?_;refine CI.fc (CI.mL KX G B (by refine' CI.kE ?a ?b ?i ?l ?c ?k;(case a | b | i | l | c | k=>(try dsimp only[L2.mB]);k_is)) Tx.Ar (by(repeat refine CI.fc (by refine' CI.pJ ?a ?b;(case a | b=>(try dsimp only[L2.mB]);k_is)) ?_);exact λ_ h=>nomatch h)) ?_;refine CI.fc (CI.mL KX G C (by refine' CI.kE ?a ?b ?i ?l ?c ?k;(case a | b | i | l | c | k=>(try dsimp only[L2.mB]);k_is)) Tx.Gr (by(repeat refine CI.fc (by refine' CI.pJ ?a ?b;(case a | b=>(try dsimp only[L2.mB]);k_is)) ?_);exact λ_ h=>nomatch h)) ?_;refine DT.mpr ⟨⟨"broken",rfl,by unfold Tx.AH;exact CI.fc (CI.oI u (by refine' CI.kE ?a ?b ?i ?l ?c ?k;(case a | b | i | l | c | k=>(try dsimp only[L2.mB]);k_is)) Tx.ey rfl) (CI.fc (CI.oI I (by refine' CI.kE ?a ?b ?i ?l ?c ?k;(case a | b | i | l | c | k=>(try dsimp only[L2.mB]);k_is)) Tx.Zx rfl) (CI.fc (CI.oI J (by refine' CI.kE ?a ?b ?i ?l ?c ?k;(case a | b | i | l | c | k=>(try dsimp only[L2.mB]);k_is)) Tx.Wx rfl) (CI.fc (CI.oI y (by refine' CI.kE ?a ?b ?i ?l ?c ?k;(case a | b | i | l | c | k=>(try dsimp only[L2.mB]);k_is)) Tx.Vx rfl) (CI.fc (CI.oI j (by refine' CI.kE ?a ?b ?i ?l ?c ?k;(case a | b | i | l | c | k=>(try dsimp only[L2.mB]);k_is)) Tx.cy rfl) (CI.fc (CI.oI B (by refine' CI.kE ?a ?b ?i ?l ?c ?k;(case a | b | i | l | c | k=>(try dsimp only[L2.mB]);k_is)) Tx.Ux rfl) (CI.fc (CI.oI C (by refine' CI.kE ?a ?b ?i ?l ?c ?k;(case a | b | i | l | c | k=>(try dsimp only[L2.mB]);k_is)) Tx.ay rfl) (λ_ h=>nomatch h)))))))⟩, ?_⟩;refine DT.mpr ⟨⟨"forbids",rfl,by unfold Tx.wK;exact CI.fc (CI.oI u (by refine' CI.kE ?a ?b ?i ?l ?c ?k;(case a | b | i | l | c | k=>(try dsimp only[L2.mB]);k_is)) Tx.fy rfl) (CI.fc (CI.oI j (by refine' CI.kE ?a ?b ?i ?l ?c ?k;(case a | b | i | l | c | k=>(try dsimp only[L2.mB]);k_is)) Tx.dy rfl) (λ_ h=>nomatch h))⟩, ?_⟩;refine DT.mpr ⟨⟨"say",rfl,by unfold Tx.aT;exact CI.fc (CI.oI M (by refine' CI.kE ?a ?b ?i ?l ?c ?k;(case a | b | i | l | c | k=>(try dsimp only[L2.mB]);k_is)) Tx.Yx rfl) (λ_ h=>nomatch h)⟩, ?_⟩;refine CI.fc (CI.Gx KX G M (by refine' CI.kE ?a ?b ?i ?l ?c ?k;(case a | b | i | l | c | k=>(try dsimp only[L2.mB]);k_is)) Tx.Xx rfl) ?_;refine CI.fc ⟨"house",rfl,CI.b6 (by(repeat refine CI.fc (by refine' CI.pJ ?a ?b;(case a | b=>(try dsimp only[L2.mB]);k_is)) ?_);exact λ_ h=>nomatch h)⟩ ?_;refine CI.fc ⟨"line",rfl,CI.b6 (by(repeat refine CI.fc (by refine' CI.pJ ?a ?b;(case a | b=>(try dsimp only[L2.mB]);k_is)) ?_);exact λ_ h=>nomatch h)⟩ ?_;refine CI.fc (by refine' CI.pq KX G ?a ?n ?l ?kl ?z ?g;(case a=>(try dsimp only[L2.mB]);k_is);(case l=>(try dsimp only[L2.mB]);k_is);(case n=>decide);(case kl=>k_keys);(case z=>rfl);(case g=>kernel_rfl)) ?_
  iterate 13 refine CI.fc (by refine' CI.Sj KX G ?a;(case a=>k_is)) ?_
  exact λ_ h=>nomatch h
