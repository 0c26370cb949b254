import PyProof.Rows.All
import Wide.All
import OpenK.AllK
import PySem.Challenge.RW_canonwright_k41_lists_counted
open Option renaming some->aA,none->eA,map_eq_some_iff->wH,bind_eq_some_iff->PH,map_some->vF,bind_some->OG,casesOn->oG,getD_none->Sk,getD_some->Zk
open Bool renaming false->dA,true->bA,and_eq_true->XA,false_ne_true->OE,or_false->xF,false_or->pG,or_true->RG,true_or->SG,or_eq_true->fJ,true_and->QH,false_eq_true->YL,not_true->WI,false_and->HJ,not_false->IJ,or_eq_false_iff->YR,not_eq_true->kS,eq_iff_iff->rS,casesOn->ES,and_false->kW,and_true->mW,not_eq_true'->Kk,decide_and->ml
open PySem.W renaming Frag->kA,nsIn->CB,findIn->wF,keepIn->nG,fnOf->PF,emptyDict->RK,mroIn->XI,hideAll_none->cP,codeIn->WK,instObj->aM,kia_one->cM,mg_of->YK,plainGet->oP,callWith_K->aS,hideAll->sP,hasDictIn->iS,kin_not->BN,CodeHd->vP,of_hideAll->YV,cellsFrom_some->Z5,kitAny->uS,makesIn->eW,hideAll_get->k6,plainGet_of->n6,isFn->zS,isIn->GS,lookIn->hW,looks_findIn->iW,methodObj->D6,plainOver->E6,takerIn->Q6,methodCall_KW->Gj,kla_fn->V6,excIn->g7,tabIn->i7,codeRec_of->wk,specialIn->Nk,handedIn->Rk,OpenLaw->zW,looks_mroIn->C7,takesIn->xl,tabObj->Hl,noTabs->Il
open List renaming length_map->pA,replicate->qB,getElem?_eq_getElem->OC,map_cons->vB,getElem?_set_ne->QC,getElem?_eq_some_iff->LD,length_append->RC,length_cons->KC,size_toArray->aD,mem_singleton->qD,mem_cons_of_mem->QD,casesOn->bC,all_cons->DC,getElem?_map->ND,map_append->iD,mem_append_left->aF,getElem?_set_self->NF,getD_eq_getElem?_getD->uH,mem_cons->jD,append_nil->RD,range->nC,length_set->eE,getElem?_cons_zero->vH,mem_append_right->MG,mem_cons_self->OF,all_eq_true->bF,mem_append->QE,mem_of_getElem?->xH,mem_map->pE,lookup_cons->QG,getElem?_eq_none->dJ,append_assoc->oI,take_of_length_le->bL,getElem?_append_left->FN,getElem?_range->cL,getElem?_replicate->GN,getElem?_append_right->HP,length_take->SJ,map_map->zH,replicate_succ->VL,length->GG,length_range->TK,nodup_append->UK,length_singleton->qN,length_nil->FJ,mem_range->GJ,drop_eq_getElem_cons->XR,zip_cons_cons->sN,flatten_cons->tN,find?_cons->bM,range_succ->eM,map_nil->LJ,length_drop->uN,filter_append->iP,mem_filter->vN,nodup_cons->xN,foldl_cons->yN,lookup->MJ,any_cons->gM,map_congr_left->ZR,take_length->rP,getElem?_cons_succ->NV,take_succ->zN,set_cons_zero->fS,set_cons_succ->gS,nil_append->tP,length_filter_le->SV,isEmpty_iff->lS,forIn_cons->oS,length_eq_zero_iff->W5,append_cancel_left->Y5,take_add_one->aW,isEmpty_iff_length_eq_zero->mj,length_replicate->f6,getElem_mem->dW,forall_mem_cons->i6,mem_of_mem_take->j6,of_mem_zip->fW,filterMap_cons->l6,replicate_zero->r6,forall_mem_nil->t6,mem_filterMap->u6,getElem?_tail->y6,sum_cons->pW,eq_of_mem_replicate->zj,filter_map->U6,getElem?_toArray->Oj,dropLast_eq_take->Sj,eq_nil_or_concat->Tj,concat_eq_append->Uj,drop_zero->X6,take_zero->Y6,take_succ_cons->jk,drop_succ_cons->nk,length_pos_iff->pk,map_drop->j7,map_take->l7,contains_cons->Bk,map_replicate->Dk,take_sublist->Gk,all_nil->u7,all_map->v7,filter_congr->Qk,cons_append->Uk,drop_length->jl,all_append->zl,foldl->G7,forIn_nil->Al,nodup_nil->Dl,drop_drop->El
open PySem.Str renaming ofString->AA
open PySem renaming wpAny_bind->tA,Value->jA,mainGlobals->cB,Str->fA,wpAny_pure->ZA,Addr->iA,Shared->CA,wpAny->sA,Expr->xA,starEach->WB,Stmt->MA,foldedSetIterable->eJ,wpAny_mono->yF,compareOp->SE,wpAny_truthy_bool->QK,wpAny_newObj_type->SK,Program->KD,wpAny_Call_Name_kw->WL,wpAny_callSpecial?_slot->ZO,wpAny_holding->VI,ExceptHandler->YI,mem_of_lookup->rN,wpAny_field->NH,binaryOp->ZE,Heap->DB,behindInMarks->JJ,PassesOwn->IG,assignEach->OH,bootBuiltins->KJ,World->cD,wpAny_passesOwn->wN,wpAny_pyIter_list->jP,FuncData->JG,backTo->BE,wpAny_call_entry->pP,wpAny_typeNameOfWhole_keyiter->M5,codeAny_mono->iM,wpAny_setField_rec->eS,Scope->PD,sizeLine_eq->kM,codeAny_call_builtin->TV,Obj->kB,NameKind->ZI,wpAny_typeNameOf_keyiter->S5,wpAny_execs_nil->mS,Env->ZK,Around->KG,codeAny->mI,wpAny_setField->sS,Operator->NJ,Builtin->aJ,Pos->GB,codeAny_builtin->gW,wpAny_typeOf->BS,wpAny_call->CP,wpAny_newFunctionEnv_cells->qj,call_meets->DP,wpAny_dictEntries->J6,CmpOp->LG,wpAny_pyIter_enum->K6,wpAny_standAt->lW,IsPart->bJ,wpAny_attempt->nW,IsEnum->cJ,wpAny_execs_cons->M6,noFill_tuple_add->N6,wpAny_isInstance->O6,wpAny_pyNext_list_item->Cj,concat_meets->sW,wpAny_specialOf->S6,wpAny_pyNext_list_end->Fj,codeAny_call_function->Hj,wpAny_notOrdered_dict->Lj,wpAny_isOneOf_keyiter->Nj,getitemInPython_of_ne->Qj,wpAny_newFunctionEnv->Wj,ItemsAre->W6,wpAny_pyIter_keyiter->Xj,wpAny_letTemporaryGo->Zj,Arguments->JS,wpAny_isSubtype_exc->ik,seq_tuple_add->d7,wpAny_rule->yW,wpAny_dictSet_heap->Ak,Within->n7,wpAny_assign_Name->Ek,wpAny_sequenceKey->Hk,seqIndex_neg->q7,slot_list_getitem->Ik,wpAny_loadPart_at->Lk,seqIndex_of->A7,wpAny_mkInt->B7,BindsTo->LS,wpAny_Name->E7,typeIs_int->F7,boot_len->Bl,Keyword->AW
open PySem.Heap renaming get?_push_of_some->aC,lt_size->VB,get?_push_size->MD,SameBut->yH,get?_update_other->bP,get?_none_of_le->dP,get?_update_self->OV,size_push->jW
open Option.some renaming injEq->rC,inj->ED
open Nat renaming le_refl->uB,lt_of_lt_of_le->ME,le_trans->dD,ne_of_lt->AD,lt_succ_self->NG,lt_irrefl->UI,zero_le->lI,lt_trans->jM,not_lt_zero->pS,min_eq_left->qS,sub_self->zP,le_of_not_lt->bW,ne_of_gt->yS,le_of_eq->AS,lt_of_lt_of_eq->w6,le_succ->HS,le_of_lt->qW,pow_le_pow_right->ak,add_assoc->m7,zero_lt_succ->Vk,succ_le_succ->Yk,succ_ne_self->el,strongRecOn->ql,mul_le_mul->Jl
open PySem.Expr renaming casesOn->TC
open LawfulBEq renaming eq_of_beq->EC
open PyProof.Rows renaming step_dedup->QJ,slot_tuple_getitem->EN,callWith_type1->FV,AllBare->OJ,subscriptTail_builtinR->Dj,firstMet->Pj,entry_tuple_getitem->ck,tupleItemsOf_->f7,args_tuple_getitem->xk,IsTup->PJ,IntsAre->GP
open Prod.mk renaming injEq->cF
open False renaming elim->lE
open Int renaming toNat_natCast->nI,lt_trichotomy->mP,emod_nonneg->uP,toNat_of_nonneg->WV,emod_lt_of_pos->ZV,fdiv_eq_ediv_of_nonneg->pj,mul_pos_of_neg_of_neg->vj,mul_neg_of_neg_of_pos->xj,mul_neg_of_pos_of_neg->yj,le_trans->tW,mul_zero->vW,ofNat_lt->wW,natCast_add->T6,pow_pos->D7,ediv_nonneg->yl
open Array renaming length_toList->RJ,toList_append->fP,getElem?_eq_some_iff->HV,getElem?_setIfInBounds_ne->lj,toList_inj->cW,toList->xS,getElem?_append_left->sj,getElem?_toList->Kj,forIn_toList->zk
open Ne renaming symm->rD
open PySem.PyData renaming canLay0->fM,canLayAll0->kP,eqvAll->AN,depth->CN,strOk->DN,depthAll->nS,eqv->FP
open PySem.Builtin.Slice renaming slicePlaces->IV,sliceAdjust->P5,sliceApplied->rj
open PySem.Builtin.Tuple renaming tupleExact->JV,tupleItemsOf->O5,tupleHashOf->Q5
open PySem.Builtin.List renaming listTooLong->LV
open PySem.AutoSeq1 renaming wpAny_loadPart'->MV
open PySem.Obj renaming data_mapFields->bS,isFreed_of_fields->PV,mapFields->xP,mapSeq->IS,cls_mapFields->Jk
open PySem.F renaming slot_dict_keyiterator_next->N5,slot_enumerate_next->QV,args_tuple_add_2->R5,slot_list_getattribute->T5,entry_tuple_add->U5,plainAttrs_list->X5,slot_tuple_add->d6,excBase_ValueError->tj,called_enumerate->x6,slot_dict_getitem->uj,args_enumerate_next_1->Bj,entry_enumerate_next->Ej,slot_list_append->Ij,slot_list_extend->Jj,slot_dict_len->Rj,slot_list_pop->yk,slot_dict_iter->Xk,slot_int_rmul->ll
open PySem.Builtin renaming bitAnd->jS
open PySem.Builtin.SmallTypes renaming ownedTupleHandOut->ij,ownedTupleIsFree->kj,fitsIndex->oj
open Classical renaming propDecidable->V5
open PySem.Around renaming under->yP,frames_deeper->Vj,under_plainId->Yj,deeper->b7
open List.cons renaming inj->vS,injEq->R6
open Sum.inl renaming inj->BP
open Eq renaming trans->aL
open PySem.Value renaming isInt_shape->A6,casesOn->oW,isInt->xW,isStrOf->Z6
open PySem.PassesOwn renaming leaving->L6,looking->Pk
open PySem.Builtin.Dict renaming updateFrom->Aj,showsAll->Mj
open PySem.Env renaming kindOf->P6
open PySem.Code renaming isGuard->rW,quiet_builtin->Ck,isFrame->o7,guards->z7
open PySem.Flow renaming casesOn->uW
open PySem.Heap.SameBut renaming update->ek
open PySem.EntryCells renaming newEntry->fk
open PySem.SeqAt.EqAt renaming int_str->rk,str_int->uk
open PySem.Stmt renaming casesOn->t7
open PySem.SeqAt renaming rcAt_reads->Wk
open PySem.Operator renaming casesOn->kl
open PySem.Builtin.Dict_items renaming ownsTuple->bUa
open PySem.Paired renaming length->Kl
open PySem.Value.ref renaming inj->Ll
open PyProof.Rows.IsTup renaming new->K7
open Nat.succ renaming inj->Ml
open PySem.Heap.IsSliceOf renaming new->cUa
open PySem.W.WShape renaming has->Nl
set_option Elab.async false
set_option linter.all false
set_option maxRecDepth 100000
theorem mG{p q r:Prop}{M:Prop}(h:(p)/\(q)/\r)(f:p->q->r->M):M:=by obtain⟨a,b,c⟩:=h;exact f a b c
theorem oB{p q r s:Prop}{M:Prop}(h:(p)/\(q)/\(r)/\s)(f:p->q->r->s->M):M:=by obtain⟨a,b,c,d⟩:=h;exact f a b c d
theorem yD{A:Type}{p:Prop}{q:A->Prop}{r:A->Prop}{M:Prop}(h:(p)/\∃a,(q a)/\r a)(f:p->∀a,q a->r a->M):M:=by obtain⟨b,a,c,d⟩:=h;exact f b a c d
theorem rA{A:Type}{p:A->Prop}{q:A->Prop}{M:Prop}(h:∃a,(p a)/\q a)(f:∀a,p a->q a->M):M:=by obtain⟨a,b,c⟩:=h;exact f a b c
theorem KA{A:Type}{p:A->Prop}{q:A->Prop}{r:A->Prop}{M:Prop}(h:∃a,(p a)/\(q a)/\r a)(f:∀a,p a->q a->r a->M):M:=by obtain⟨a,b,c,d⟩:=h;exact f a b c d
theorem zD{A:Type}{p:A->Prop}{q:A->Prop}{r:A->Prop}{s:A->Prop}{t:A->Prop}{M:Prop}(h:∃a,(p a)/\(q a)/\(r a)/\(s a)/\t a)(f:∀a,p a->q a->r a->s a->t a->M):M:=by obtain⟨a,b,c,d,e,g⟩:=h;exact f a b c d e g
theorem gD{A B:Type}{p:A->B->Prop}{M:Prop}(h:∃a,∃b,p a b)(f:∀a,∀b,p a b->M):M:=by obtain⟨a,b,c⟩:=h;exact f a b c
theorem FA{A B:Type}{p:A->B->Prop}{q:A->B->Prop}{M:Prop}(h:∃a,∃b,(p a b)/\q a b)(f:∀a,∀b,p a b->q a b->M):M:=by obtain⟨a,b,c,d⟩:=h;exact f a b c d
theorem pB{A B:Type}{p:A->B->Prop}{q:A->B->Prop}{r:A->B->Prop}{M:Prop}(h:∃a,∃b,(p a b)/\(q a b)/\r a b)(f:∀a,∀b,p a b->q a b->r a b->M):M:=by obtain⟨a,b,c,d,e⟩:=h;exact f a b c d e
theorem fC{A B:Type}{p:A->B->Prop}{q:A->B->Prop}{r:A->B->Prop}{s:A->B->Prop}{M:Prop}(h:∃a,∃b,(p a b)/\(q a b)/\(r a b)/\s a b)(f:∀a,∀b,p a b->q a b->r a b->s a b->M):M:=by obtain⟨a,b,c,d,e,g⟩:=h;exact f a b c d e g
theorem BB{A B C:Type}{p:A->B->C->Prop}{M:Prop}(h:∃a,∃b,∃c,p a b c)(f:∀a,∀b,∀c,p a b c->M):M:=by obtain⟨a,b,c,d⟩:=h;exact f a b c d
theorem kI{A B C:Type}{p:A->B->C->Prop}{q:A->B->C->Prop}{M:Prop}(h:∃a,∃b,∃c,(p a b c)/\q a b c)(f:∀a,∀b,∀c,p a b c->q a b c->M):M:=by obtain⟨a,b,c,d,e⟩:=h;exact f a b c d e
theorem uF{A B C D:Type}{p:A->B->C->D->Prop}{q:A->B->C->D->Prop}{M:Prop}(h:∃a,∃b,∃c,∃d,(p a b c d)/\q a b c d)(f:∀a,∀b,∀c,∀d,p a b c d->q a b c d->M):M:=by obtain⟨a,b,c,d,e,g⟩:=h;exact f a b c d e g
theorem VA{A B C D:Type}{p:A->B->C->D->Prop}{q:A->B->C->D->Prop}{r:A->B->C->D->Prop}{M:Prop}(h:∃a,∃b,∃c,∃d,(p a b c d)/\(q a b c d)/\r a b c d)(f:∀a,∀b,∀c,∀d,p a b c d->q a b c d->r a b c d->M):M:=by obtain⟨a,b,c,d,e,g,i⟩:=h;exact f a b c d e g i
set_option genCtorIdx false
set_option genInjectivity false
set_option tactic.hygienic false
def dB:=@decide_eq_false
def zB:=@decide_eq_true
def RA.{u}:=@if_pos.{u}
def lM.{u}:=@beq_eq_false_iff_ne.{u}
def HG.{u}:=@beq_iff_eq.{u}
def ZL.{u}:=@beq_self_eq_true.{u}
def lP:=@of_decide_eq_true
def qP:=@decide_eq_decide
local macro_rules|`(tactic|left)=>`(tactic|decide +kernel)
local macro_rules|`($x⁻¹)=>`(($x).heap.objs.size)
local macro_rules|`(~~~$x)=>`(PySem.model ($x).prog ($x).w)
local macro_rules|`(tactic|let($y,$x,*):=$t)=>do let p←(#[y]++x.getElems).mapM λi=>if i.raw.isIdent then `(Lean.Parser.Tactic.rcasesPatLo|$(⟨i.raw⟩):ident) else `(Lean.Parser.Tactic.rcasesPatLo|_);`(tactic|obtain⟨$[$p],*⟩:=$t)
local macro_rules|`(tactic|erw[$r,*]$[$l]?)=>do let t:=r.getElems.map λi=>(⟨i.raw[1]⟩:Lean.TSyntax `term);`(tactic|simp only[$[$t:term],*]$[$l]?)
local macro_rules|`(tactic|let($y,$x,*):$l:ident:=$t)=>do let r:=(#[y]++x.getElems).map λi=>(⟨i.raw⟩:Lean.TSyntax `Lean.Parser.Term.funBinder);let u←`(tactic|refine $l ($t) λ$r* => ?_);if t.raw.isIdent && t.raw.getId.isAtomic then `(tactic|($u:tactic;clear $t)) else return u
local macro_rules|`(↑$x)=>`(by simpa using $x)
local macro_rules|`(#[$x,*])=>`(⟨$x,*⟩)
set_option compiler.extract_closed false
set_option genSizeOf false
set_option bootstrap.genMatcherCode false
noncomputable section
namespace L2
open PySem PySem.Spec PyProof.Rows
abbrev Key:=Sum Int fA
noncomputable def AO:Key->jA->Bool
 |.inl k,v=>xW k v
 |.inr x,v=>Z6 x v
noncomputable def G_(w:cD):Key->Int
 |.inl k=>hashInt k
 |.inr x=>hashStr w x
theorem uK:∀{k:Key} {v:jA},AO k v=bA->(∃i t,k=Sum.inl i/\v=Value.int i t)\/(∃x t,k=Sum.inr x/\v=Value.str x t)
 |.inl i,v,h=>by
  let(t,e):=A6 (k:=i) h;exact .inl #[i,t,rfl,e]
 |.inr x,v,h=>by(let(t,e):=Value.isStrOf_shape h;exact .inr #[x,t,rfl,e])
def H_(i:Int)(t:Tok):AO (.inl i) (.int i t)=bA:=by simp[AO,xW]
def I_(x:fA)(t:Tok):AO (.inr x) (.str x t)=bA:=by simp[AO,Z6]
def K_(a b:Int):decide ((Sum.inl a:Key)=Sum.inl b)=(a==b):=by
 by_cases e:a=b
 .subst e;simp
 .have h:¬(Sum.inl a:Key)=Sum.inl b:=λq=>e (BP q)
  rw[dB h];exact(lM.mpr e).symm
def N_(a b:fA):decide ((Sum.inr a:Key)=Sum.inr b)=decide (a=b):=by
 by_cases e:a=b
 .subst e;simp
 .have h:¬(Sum.inr a:Key)=Sum.inr b:=λq=>e (Sum.inr.inj q)
  rw[dB h,dB e]
def L_(a:Int)(b:fA):decide ((Sum.inl a:Key)=Sum.inr b)=dA:=dB nofun
def M_(a:fA)(b:Int):decide ((Sum.inr a:Key)=Sum.inl b)=dA:=dB nofun
def CO(prog:KD)(w:cD):PySem.KeyKind prog w Key where
 is:=AO
 hash:=G_ w
 inj:=λv a b g f=>by
  rcases uK g with ⟨i,t,rfl,rfl⟩ | ⟨x,t,rfl,rfl⟩
  .rcases uK f with ⟨j,u,rfl,e⟩ | ⟨y,u,rfl,e⟩
   .injection e with c _;rw[c]
   .exact nomatch e
  .rcases uK f with ⟨j,u,rfl,e⟩ | ⟨y,u,rfl,e⟩
   .exact nomatch e
   .injection e with c _;rw[c]
 byValue:=λk v h=>by
  rcases uK h with ⟨i,t,rfl,rfl⟩ | ⟨x,t,rfl,rfl⟩<;>rfl
 pyHash:=λd h=>by
  rcases uK d with ⟨i,t,rfl,rfl⟩ | ⟨x,t,rfl,rfl⟩
  .exact wpAny_pyHash_int h
  .exact wpAny_pyHash_str h
 eqBool:=λhu d h=>by
  rcases uK hu with ⟨i,t,rfl,rfl⟩ | ⟨x,t,rfl,rfl⟩
  .rcases uK d with ⟨j,u,rfl,rfl⟩ | ⟨y,u,rfl,rfl⟩
   .rw[K_] at h;exact wpAny_eqBool_int h
   .rw[L_] at h;exact rk i t y u _ _ _ _ h
  .rcases uK d with ⟨j,u,rfl,rfl⟩ | ⟨y,u,rfl,rfl⟩
   .rw[M_] at h;exact uk x t j u _ _ _ _ h
   .rw[N_] at h;exact wpAny_eqBool_str h
 «strs»:=λk x t v h=>by
  rcases uK h with ⟨i,u,rfl,e⟩ | ⟨y,u,rfl,e⟩
  .exact nomatch e
  .injection e with c _
   subst c;cases v<;>rfl
def gBa(prog:KD)(w:cD)(i:Int)(t:Tok):(CO prog w).is (.inl i) (.int i t)=bA:=H_ i t
def hBa(prog:KD)(w:cD)(x:fA)(t:Tok):(CO prog w).is (.inr x) (.str x t)=bA:=I_ x t
inductive V where
 |lA
 |bl (b:Bool)
 |int (i:Int)
 |str (x:fA)
 |ref (a:iA)
 |ty (n:String)
set_option genCtorIdx true in
set_option genInjectivity true in
gen_injective_theorems% V
instance (x:V):Decidable (x=.lA):=by cases x<;>first | exact isTrue rfl | exact isFalse nofun
def aAe:V->jA->Prop
 |.lA,u=>u=Value.none
 |.bl b,u=>u=Value.bool b
 |.int i,u=>∃t,u=Value.int i t
 |.str x,u=>∃t,u=Value.str x t
 |.ref a,u=>u=Value.ref a
 |.ty n,u=>u=Value.type n
abbrev aAc:List V->List jA->Prop:=Paired aAe
theorem aAc.length(r:aAc xs j):xs.length=j.length:=Kl r
def aAc.get{i:Nat}(h:aAc xs j)(e:xs[i]?=aA x):∃u,j[i]?=aA u/\aAe x u:=by
 induction h generalizing i with
 |nil=>cases e
 |cons r t m =>
  cases i with
  |zero=>cases e;exact#[_,rfl,r]
  |succ i=>exact m e
theorem aAc.set(r:aAe x u)(i:Nat)(h:aAc xs j):aAc (xs.set i x) (j.set i u):=by
 induction h generalizing i with
 |nil=>exact .nil
 |cons q t m =>
  cases i with
  |zero=>exact .cons r t
  |succ i=>exact .cons q (m i)
def aAc.append(h:aAc xs j)(s:aAc m u):aAc (xs++m) (j++u):=by
 induction h with
 |nil=>exact s
 |cons r t x=>exact .cons r x
theorem aAc.take(n:Nat)(h:aAc xs j):aAc (xs.take n) (j.take n):=by
 induction h generalizing n with
 |nil=>cases n<;>exact .nil
 |cons r t m =>
  cases n with
  |zero=>exact .nil
  |succ n=>exact .cons r (m n)
theorem aAc.drop(n:Nat)(h:aAc xs j):aAc (xs.drop n) (j.drop n):=by
 induction h generalizing n with
 |nil=>cases n<;>exact .nil
 |cons r t m =>
  cases n with
  |zero=>exact .cons r t
  |succ n=>exact m n
def YG:Option V->Option jA->Prop
 |some v,aA u=>aAe v u
 |none,eA=>True
 |_,_=>False
def KV:List (O×V)->List (O×jA)->Prop:=Paired λ(p:O×V) (q:O×jA)=>p.1=q.1/\aAe p.2 q.2
noncomputable def kV:Key->V
 |.inl i=>.int i
 |.inr x=>.str x
inductive HO where
 |l (xs:List V)
 |t (xs:List V)
 |dK (kvs:List (Key×V))
 |set (S:Int->Bool) (n:Nat)
 |ins (C dx:iA) (fs:List (fA×V))
 |own (x:iA)
 |xd (fs:List (fA×V))
 |met (f x:iA)
 |IB (lo hi:Int)
 |nD (o:kB) (u:HO)
 |JD (ps:Array jA)
 |ext (φ:DB->Prop)
set_option genCtorIdx true in
gen_injective_theorems% HO
abbrev Hp:=iA->Option HO
noncomputable def GA(H:Hp)(a:iA)(o:HO):Hp:=λb=>if b=a then aA o else H b
def jC:GA H a o a=aA o:=by unfold GA;rw[RA rfl]
def jB(h:b≠a):GA H a o b=H b:=by unfold GA;rw[if_neg h]
def A5:GA (GA H a o) a u=GA H a u:=by
 funext b;unfold GA;split<;>rfl
def IE{H:Hp}(h:H a=aA o)(c:H b=eA):a≠b:=by
 intro e;subst e;rw[h] at c;cases c
section
variable(P:KD)(w:cD)
def lD(H:Hp)(h:DB)(a:iA):HO->Prop
 |.l e=>e.length<=sizeLine/\∃(b:List jA) (n:Nat),aAc e b/\h.get? a=aA { cls:=.type "list",data:=.seq b.toArray n }
 |.t e=>e.length<=sizeLine/\∃b:List jA,aAc e b/\PJ h a b.toArray
 |.dK g=>g.length<=sizeLine/\(a==sysModules)=dA/\∃i,KV g i/\h.DictOf (CO P w) a i
 |.set S n=>h.SetOf (intKind P w) a S n
 |.ins C j fs=>H j=aA (.own a)/\fs.length<=1000/\j≠a/\h.get? a=aA (aM C j) /\
   ∃d,h.Ns1 j d/\(∀f,YG (fs.lookup f) (d f))/\n7 d (fs.map (·.1))
 |.own _=>∃o,h.get? a=aA o
 |.xd fs=>∃d,h.Ns1 a d/\∀f,YG (fs.lookup f) (d f)
 |.IB lo r=>∃t u v,h.get? a=aA { cls:=.type "range",data:=.fields [.int lo t,.int r u,.int 1 v].toArray }
 |.nD o u=>h.get? a=aA o/\lD H h a u
 |.JD s=>∃k:Array jA,h.get? a=aA { cls:=.none,data:=.fields k }/\TriplesOk k.toList/\∀pos l,codeAmong pos k.toList=aA l->∃c o i q t y,l=.ref c/\H c=aA (.own a)/\h.get? c=aA o/\o.data=.fields i/\i[1]?=aA (.str q t)/\s[0]?=aA (.str q y)
 |.met f x=>h.get? a=aA (D6 (.ref f) (.ref x))
 |.ext φ=>φ h/\(∃o,h.get? a=aA o)/\∀m p:DB,φ m->(∀o,m.get? a=aA o->p.get? a=aA o)->φ p
def FC(H:Hp)(h:DB):Prop:=∀a o,H a=aA o->lD P w H h a o
end
section
variable{o:HO}
theorem lD.lt(x:lD P w H h a o):a<h.objs.size:=by
 cases o with
 |l xs=>let(_,j):=x;let(_,_,_,e):FA:=j;exact VB e
 |t xs=>let(_,_,_,p):yD:=x;exact p.lt
 |dK r=>let(_,j):=x;let(_,_,_,m):yD:=j;let(o,_,_,e,_):kI:=m;exact VB e
 |set S n=>let(o,_,_,_,e,_):uF:=x;exact VB e
 |ins C B fs=>let(_,j):=x;let(_,_,e,_):oB:=j;exact VB e
 |own y=>let(_,e):=x;exact VB e
 |xd fs=>obtain⟨_,⟨_,_,_,e,_⟩,_⟩:=x;exact VB e
 |IB lo F=>let(_,_,_,e):BB:=x;exact VB e
 |nD ob u=>let(e,_):=x;exact VB e
 |JD I=>let(_,e,_):=x;exact VB e
 |met f y=>exact VB (show h.get? a=aA _ from x)
 |ext φ=>obtain⟨_,⟨_,e⟩,_⟩:=x;exact VB e
def lD.AE(x:lD P w H h a o)(k:∀b u,(b=a\/H b=aA (.own a))->h.get? b=aA u->O.get? b=aA u)
  (ho:∀b,H b=aA (.own a)->Q b=aA (.own a)) (ht:∀b xs,H b=aA (.t xs)->Q b=aA (.t xs)):lD P w Q O a o:=by
 induction o with
 |l xs=>let(z,j):=x;let(m,n,r,e):FA:=j;exact#[z,m,n,r,k _ _ (.inl rfl) e]
 |t xs=>let(z,m,r,j):yD:=x;let(ob,e,c):rA:=j;exact#[z,m,r,ob,k _ _ (.inl rfl) e,c]
 |dK U=>let(z,j):=x;let(y,J,r,I):yD:=j;let(ob,B,F,e,c):kI:=I;exact#[z,y,J,r,ob,B,F,k _ _ (.inl rfl) e,c]
 |set S n=>let(ob,B,F,t,e,c):uF:=x;exact#[ob,B,F,t,k _ _ (.inl rfl) e,c]
 |ins C dx fs =>
  obtain⟨d,z,ne,e,M,⟨od,B,F,X,c⟩,r⟩:=x;exact#[ho _ d,z,ne,k _ _ (.inl rfl) e,M,#[od,B,F,k _ _ (.inr d) X,c],r]
 |own y=>let(ob,e):=x;exact#[ob,k _ _ (.inl rfl) e]
 |xd fs=>obtain⟨M,⟨od,B,F,e,c⟩,r⟩:=x;exact#[M,#[od,B,F,k _ _ (.inl rfl) e,c],r]
 |IB lo hi=>let(t,u,v,e):BB:=x;exact#[t,u,v,k _ _ (.inl rfl) e]
 |nD ob u Y=>let(e,q):=x;exact#[k _ _ (.inl rfl) e,Y q]
 |JD ps =>
  let(Z,e,t,q):=x;exact#[Z,k _ _ (.inl rfl) e,t,λpos cv z=>let #[c,o,J,q,t,t',z1,R,z3,z4]:=q pos cv z;#[c,o,J,q,t,t',z1,ho _ R,k _ _ (.inr R) z3,z4]]
 |met f y =>
  have e:h.get? a=aA (D6 (.ref f) (.ref y)):=x;show O.get? a=aA (D6 (.ref f) (.ref y));exact k a _ (.inl rfl) e
 |ext φ=>obtain⟨p,⟨o,e⟩,st⟩:=x;exact#[st _ _ p λo q=>k _ _ (.inl rfl) q,#[o,k _ _ (.inl rfl) e],st]
theorem FC.lt(x:FC P w H h)(e:H a=aA o):a<h.objs.size:=(x a o e).lt
def FC.fresh(x:FC P w H h)(e:h.objs.size<=a):H a=eA:=by
 cases q:H a with
 |none=>rfl
 |some u=>exact absurd (ME (x.lt q) e) (UI _)
def FC.kept(x:FC P w H h)(k:∀b u,h.get? b=aA u->j.get? b=aA u):FC P w H j:=λa o e =>
 (x a o e).AE (λb u _ q=>k b u q) (λ_ q=>q) λ_ _ q=>q
def FC.laid(x:FC P w H h)(k:∀b u,h.get? b=aA u->h'.get? b=aA u)(hp:h.objs.size<=a)(new:lD P w (GA H a o) h' a o):FC P w (GA H a o) h':=λb u e=>by
 have j:=x.fresh hp;by_cases hb:b=a
 .subst hb;rw[jC] at e;cases e;exact new
 .rw[jB hb] at e;exact(x b u e).AE (λc v _ q=>k c v q) (λc q=>by rw[jB (IE q j)];exact q) λc xs q=>by rw[jB (IE q j)];exact q
end
def Rd(H:Hp)(a:iA)(u:HO):Prop:=H a=aA u\/∃o,H a=aA (.nD o u)
def Rd.ok(r:Rd H a u)(x:FC P w H h):lD P w H h a u:=by
 rcases r with r | ⟨o,r⟩
 .exact x a u r
 .let(_,q):=x a _ r;exact q
def QP:Option HO->Prop
 |some (.l _)=>True
 |some (.dK _)=>True
 |some (.set _ _)=>True
 |some (.ins _ _ _)=>True
 |some (.ext _)=>True
 |_=>False
section
variable{P:KD}{w:cD}{H:Hp}{h h':DB}{x e:iA}{o':HO}
def FC.write(ok:FC P w H h)(C:QP (H x))(J:e=x\/H e=aA (.own x))(k:∀b u,b≠e->h.get? b=aA u->h'.get? b=aA u)(I:∃u,h'.get? e=aA u)
  (new:lD P w (GA H x o') h' x o'):FC P w (GA H x o') h':=λb u q=>by
 have m:∀c y,H c=aA (.own y)->c≠x:=λc y r z=>by subst z;rw[r] at C;exact C
 have B:∀c xs,H c=aA (.t xs)->c≠x:=λc xs r z=>by subst z;rw[r] at C;exact C
 by_cases hb:b=x
 .subst hb;rw[jC] at q;cases q;exact new
 .rw[jB hb] at q;by_cases j:b=e
  .have M:H b=aA (.own x):=by
    rcases J with z | z
    .exact absurd (j.trans z) hb
    .rw[j];exact z
   rw[q] at M;cases M;let(v,O):=I;exact#[v,by rw[j];exact O]
  .refine(ok b u q).AE (λc v F r=>k c v ?_ r) (λc r=>by rw[jB (m c b r)];exact r) λc xs r=>by rw[jB (B c xs r)];exact r
   rcases F with rfl | F
   .exact j
   .rintro rfl
    rcases J with z | z
    .exact m c b F z
    .rw[F] at z;cases z;exact hb rfl
end
structure Un(fs ex:List iA)(H H':Hp)(h h':DB):Prop where
 keep:∀b o,h.get? b=aA o->H b=eA->b ∉ fs->b ∉ ex->h'.get? b=aA o
 slot:∀b o,h.get? b=aA o->H b=eA->b∈fs->b ∉ ex->∃sl,h'.get? b=aA { o with slots:=sl }
 free:∀b o,h.get? b=aA o->H b=eA->b ∉ ex->H' b=eA
 there:∀b o,h.get? b=aA o->b ∉ ex->∃o',h'.get? b=aA o'
 QI:∀b xs,H b=aA (.t xs)->H' b=aA (.t xs)
 bI:∀b o u,H b=aA (.nD o u)->H' b=aA (.nD o u)
 sH:∀b ps,H b=aA (.JD ps)->∃more,H' b=aA (.JD (ps++more))
section
variable{o:HO}
def Un.any(u:Un fs ex H j h h1)(q:h.get? b=aA ob)(n:H b=eA)(hx:b ∉ ex):∃sl,h1.get? b=aA { ob with slots:=sl }:=by
 by_cases hb:b∈fs
 .exact u.slot b ob q n hb hx
 .exact#[ob.slots,u.keep b ob q n hb hx]
def Un.kept(k:∀b u,h.get? b=aA u->j.get? b=aA u):Un fs ex H H h j :=
 #[λb ob q _ _ _=>k b ob q,λb ob q _ _ _=>#[ob.slots,k b ob q],λ_ _ _ n _=>n,λb ob q _=>#[ob,k b ob q],λ_ _ q=>q,λ_ _ _ q=>q,λ_ m q=>#[[].toArray,by rw[q];simp]]
def Un.refl:Un fs ex H H h h:=Un.kept λ_ _ q=>q
def Un.laid(k:∀b u,h.get? b=aA u->h'.get? b=aA u)(hp:h.objs.size<=a)(j:H a=eA):Un fs ex H (GA H a o) h h' where
 keep:=λb u q _ _ _=>k b u q
 slot:=λb u q _ _ _=>#[u.slots,k b u q]
 free:=λb u q n _=>by rw[jB (AD (ME (VB q) hp))];exact n
 there:=λb u q _=>#[u,k b u q]
 QI:=λb xs q=>by rw[jB (IE q j)];exact q
 bI:=λb u xs q=>by rw[jB (IE q j)];exact q
 sH:=λb m q=>#[[].toArray,by rw[jB (IE q j),q];simp]
def Un.write(m:QP (H x))(C:e=x\/H e=aA (.own x))(k:∀b u,b≠e->h.get? b=aA u->B.get? b=aA u)(y:∃u,B.get? e=aA u):Un fs ex H (GA H x o) h B:=by
 have hx:∀b,H b=eA->b≠x:=λb n z=>by subst z;rw[n] at m;exact m
 have hb:∀b,H b=eA->b≠e:=λb n z=>by
  subst z;rcases C with r | r
  .exact hx b n r
  .rw[n] at r;cases r
 have hm:∀b u,H b=aA u->¬QP (aA u)->b≠x:=λb u q nm z=>by subst z;rw[q] at m;exact nm m
 refine#[λb u q n _ _=>k b u (hb b n) q,λb u q n _ _=>#[u.slots,k b u (hb b n) q],λb u q n _=>by rw[jB (hx b n)];exact n,λb u q _=>?_,
  λb xs q=>by rw[jB (hm b _ q λz=>z)];exact q,λb u xs q=>by rw[jB (hm b _ q λz=>z)];exact q,λb F q=>#[[].toArray,by rw[jB (hm b _ q λz=>z),q];simp]]
 by_cases j:b=e
 .subst j;exact y
 .exact#[u,k b u j q]
end
noncomputable def wV(h:DB)(H:Hp):List iA:=(nC h.objs.size).filter λa=>(H a).isSome
def cI(h:DB)(H:Hp):DB:=sP h (wV h H)
def qx(h:DB)(H:Hp):(cI h H).objs.size=h.objs.size:=PySem.W.hideAll_size _ _
def fU(e:h.get? b=aA o)(n:H b=eA):(cI h H).get? b=aA o :=
 k6 _ e λa=>by(have q:(H b).isSome=bA:=(vN.mp a).2;rw[n] at q;simp at q)
def Td(e:(cI h H).get? b=aA o):h.get? b=aA o/\H b=eA:=by
 have a:h.get? b=aA o:=YV (wV h H) e;refine#[a, ?_]
 cases q:H b with
 |none=>rfl
 |some x =>
  have c:b∈wV h H:=vN.mpr #[GJ.mpr (VB a),by simp[q]];have z:(cI h H).get? b=eA:=cP (wV h H) c;rw[z] at e;cases e
noncomputable def yo(g h:DB)(L:iA):List (iA×kB):=(nC h.objs.size).filterMap λa=>if a=L\/(g.get? a).isSome=bA then eA else(h.get? a).map λo=>(a,o)
def aAj(g h:DB)(L d:iA):List (iA×kB):=(yo g h L).filter λp=>decide (p.1≠d)
structure Mod(K:kA)(mg:fA->Option jA)(base:DB):Prop where
 kin:K.In base
 glob:base.Ns cB mg
 blt:∃mb,base.Ns builtinsNs mb/\∀x:fA,x≠"__name__"->mb x=KJ x
 nolimit:base.NoLimit
structure Cx where
 prog:KD
 w:cD
 K:kA
 mg:fA->Option jA
 base:DB
 A:KG
 N:List fA
 s₀:CA
 H₀:Hp
 env:Env
 outer:List Env
 stack:List Env
 ex:List iA
 fn:fA->Bool
 calm:Bool
 pn:List (iA×kB)
 xe:jA->CA->Prop
def BD(l:List Env):List iA:=l.filterMap (·.frame)
abbrev Cx.fs(X:Cx):List iA:=BD X.outer
def PN(a:PD)(x:fA):Prop:=a.names.lookup x=aA .local\/a.names.lookup x=aA .cell\/a.names.lookup x=aA .free
def Loc(a:PD)(x:fA):Prop:=a.names.lookup x=aA .local\/a.names.lookup x=aA .cell
def aA5(env:Env)(h:DB)(m:fA->Option jA)(x:fA)(u:jA):Prop :=
 (env.kindOf x=aA .local/\m x=aA u)\/((env.kindOf x=aA .cell\/env.kindOf x=aA .free)/\∃c,env.cells.lookup x=aA c/\h.IsCell c (aA u))
structure Cx.Ok(X:Cx):Prop where
 mod:Mod X.K X.mg X.base
 kind:X.env.scope.kind=.function
 glob:X.env.globals=cB
 blt:X.env.builtins=builtinsNs
 above:X.s₀.heap.objs.size<=X.env.locals
 inj:∀x y c,X.env.cells.lookup x=aA c->X.env.cells.lookup y=aA c->x=y
 has:∀x,(X.env.kindOf x=aA .cell\/X.env.kindOf x=aA .free)->∃c,X.env.cells.lookup x=aA c
 eK:∀x c,X.fn x=bA->X.env.cells.lookup x=aA c->X.s₀.heap.objs.size<=c
 hd:X.calm=bA->X.A.handled=eA
 frames:X.A.frames=aA X.stack
 jI:X.stack=X.outer\/(X.stack=X.env::X.outer/\X.env.frame=aA X.env.locals)
 aO:∀b∈X.ex,b≠X.env.locals/\∀x c,X.env.cells.lookup x=aA c->c≠b
 bs:∀b o,X.base.get? b=aA o->X.s₀.heap.get? b=aA o/\X.H₀ b=eA
 cH:X.base.objs.size<=X.s₀.heap.objs.size
 BK:∀b o,X.base.get? b=aA o->b ∉ X.ex
 sL:∀b∈X.ex,b ∉ X.fs
 kF:X.s₀.heap.FunFrames X.base X.outer
 aI:∀b∈X.fs,X.H₀ b=eA
structure gA(X:Cx)(cA:List (iA×kB))(B:List (Option V))(H:Hp)(s:CA):Prop where
 ok:X.Ok
 os:s.os=X.s₀.os
 bare:OJ s.gens
 base:Un X.fs X.ex X.H₀ H X.s₀.heap s.heap
 loc:∃m,s.heap.Ns X.env.locals m/\∀(i:Nat) (x:fA) (v:V),X.N[i]?=aA x->B[i]?=aA (aA v)->PN X.env.scope x->∃u,aAe v u/\aA5 X.env s.heap m x u
 cell:∀x c,X.env.cells.lookup x=aA c->∃v,s.heap.IsCell c v
 free:H X.env.locals=eA
 WE:∀x c,X.env.cells.lookup x=aA c->H c=eA
 pin:∀p∈X.pn++cA,s.heap.get? p.1=aA p.2/\H p.1=eA/\p.1≠X.env.locals/\p.1 ∉ X.fs/\∀v,p.2.data≠.cell v
 LA:FC X.prog X.w H s.heap
 len:B.length=X.N.length
section
variable{X:Cx}
def Cx.Ok.iDa(ok:X.Ok)(e:X.base.get? b=aA o):b ∉ X.fs:=λhb=>by
 have:=(ok.kF.mem hb).1
 rw[e] at this;cases this
theorem gA.bs(I:gA X cA B H s):∀b o,X.base.get? b=aA o->s.heap.get? b=aA o/\H b=eA:=λb o e =>
 #[I.base.keep b o (I.ok.bs b o e).1 (I.ok.bs b o e).2 (I.ok.iDa e) (I.ok.BK b o e),I.base.free b o (I.ok.bs b o e).1 (I.ok.bs b o e).2 (I.ok.BK b o e)]
def gA.bk(I:gA X cA B H s):∀b o,X.base.get? b=aA o->s.heap.get? b=aA o:=λb o e=>(I.bs b o e).1
theorem gA.mod(I:gA X cA B H s):Mod X.K X.mg X.base:=I.ok.mod
def gA.vD(I:gA X cA B H s):X.K.In s.heap:=I.ok.mod.kin.keeps I.bk
theorem gA.nolimit(I:gA X cA B H s):s.heap.NoLimit:=I.ok.mod.nolimit.keeps I.bk
theorem gA.lt(I:gA X cA B H s):X.env.locals<s⁻¹:=let #[_,j,_]:=I.loc;j.lt
def gA.sz(I:gA X cA B H s):X.s₀.heap.objs.size<=s⁻¹:=dD I.ok.above (qW I.lt)
def gA.kDa(I:gA X cA B H s)(h:s⁻¹<=a):a ∉ X.fs:=λhb=>by
 let(_,o,ho,_):yD:=I.ok.kF.mem hb
 exact absurd (ME (VB ho) (dD I.sz h)) (UI _)
def gA.fK(I:gA X cA B H s):∀x c,X.env.cells.lookup x=aA c->c≠X.env.locals:=λx c e z=>by
 let(v,o,ho,hd):FA:=I.cell x c e
 obtain⟨m,⟨u,y,C,j,r,_⟩,_⟩:=I.loc;rw[z,j] at ho;cases ho;rw[r] at hd;cases hd
theorem gA.kF(I:gA X cA B H s):s.heap.FunFrames X.base X.outer:=by
 have all:∀(l:List Env),(∀b∈BD l,b∈X.fs)->X.s₀.heap.FunFrames X.base l->s.heap.FunFrames X.base l:=by
  intro l
  induction l with
  |nil=>intro _ _;trivial
  |cons env r x =>
   intro u hl;obtain⟨hk,⟨L,o,j,y,ho,hd⟩,C⟩:=hl;have m:L∈X.fs:=u L (by unfold BD;rw[l6,j];exact OF);let(sl,e):=I.base.slot L o ho (I.ok.aI L m) m λz=>I.ok.sL L z m
   exact#[hk,#[L,_,j,y,e,hd],x (λb hb=>u b (by unfold BD;rw[l6,j];exact QD _ hb)) C]
 exact all X.outer (λ_ hb=>hb) I.ok.kF
theorem gA.stack(I:gA X cA B H s):s.heap.FunFrames X.base X.stack:=by
 rcases I.ok.jI with e | ⟨e,j⟩
 .rw[e];exact I.kF
 .rw[e];let(m,r,_):rA:=I.loc
  refine .cons (by rw[I.ok.kind];decide) j r ?_ I.kF;exact dP (dD I.ok.cH I.ok.above)
def gA.qV(I:gA X cA B H s):∀b∈BD X.stack,b∈X.env.locals::X.fs:=λb hb=>by
 rcases I.ok.jI with e | ⟨e,j⟩
 .rw[e] at hb;exact QD _ hb
 .rw[e] at hb;unfold BD at hb;rw[l6,j] at hb;exact hb
def gA.LR(I:gA X cA B H s):∀b∈BD X.stack,H b=eA:=λb hb=>by
 rcases jD.mp (I.qV b hb) with e | hb
 .rw[e];exact I.free
 .let(_,o,ho,_):yD:=I.ok.kF.mem hb
  exact I.base.free b o ho (I.ok.aI b hb) λz=>I.ok.sL b z hb
def gA.step{ch:List iA}(I:gA X cA B H s)
  (j:∀b∈ch,(b∈X.ex\/X.s₀.heap.get? b=eA)/\b≠X.env.locals/\(∀x c,X.env.cells.lookup x=aA c->c≠b)/\∀p∈X.pn++cA,p.1≠b)
  (keep:∀b o,b≠X.env.locals->b ∉ X.fs->b ∉ ch->s.heap.get? b=aA o->H b=eA->M.get? b=aA o)
  (slot:∀b o,b≠X.env.locals->b∈X.fs->b ∉ ch->s.heap.get? b=aA o->H b=eA->∃sl,M.get? b=aA { o with slots:=sl }) (free:∀b o,b ∉ ch->s.heap.get? b=aA o->H b=eA->H' b=eA)
  (there:∀b o,b ∉ ch->s.heap.get? b=aA o->∃O,M.get? b=aA O)
  (QI:∀b xs,H b=aA (.t xs)->H' b=aA (.t xs)) (bI:∀b o u,H b=aA (.nD o u)->H' b=aA (.nD o u)) (sH:∀b U,H b=aA (.JD U)->∃more,H' b=aA (.JD (U++more)))
  (ns:∀m,s.heap.Ns X.env.locals m->M.Ns X.env.locals m) (LA:FC X.prog X.w H' M) (hg:OJ g') :
  gA X cA B H' { s with heap:=M,gens:=g',drawn:=d',toks:=t' }:=by
 have P:∀b o,X.s₀.heap.get? b=aA o->b≠X.env.locals:=λb o e=>AD (ME (VB e) I.ok.above)
 have F:∀b o,X.s₀.heap.get? b=aA o->b ∉ X.ex->b ∉ ch:=λb o e hx hb=>by
  rcases(j b hb).1 with z | z
  .exact hx z
  .rw[z] at e;cases e
 have y:∀x c,X.env.cells.lookup x=aA c->∀v,s.heap.IsCell c v->M.IsCell c v:=λx c e v Z=>by
  let(o,ho,hd):rA:=Z;have C:c ∉ ch:=λz=>(j c z).2.2.1 x c e rfl
  by_cases hc:c∈X.fs
  .let(sl,q):=slot c o (I.fK x c e) hc C ho (I.WE x c e);exact#[_,q,hd]
  .exact#[o,keep c o (I.fK x c e) hc C ho (I.WE x c e),hd]
 refine#[I.ok,I.os,hg,#[λb o e n hb hx=>?_,λb o e n hb hx=>?_,λb o e n hx=>?_,λb o e hx=>?_,λb xs e=>QI b xs (I.base.QI b xs e),λb o xs e=>bI b o xs (I.base.bI b o xs e),λb U e=>?_], ?_,λx c e=>?_, ?_,λx c e=>?_,λp hp=>?_,LA,I.len]
 .exact keep b o (P b o e) hb (F b o e hx) (I.base.keep b o e n hb hx) (I.base.free b o e n hx)
 .let(sl,J):=I.base.slot b o e n hb hx;let(Y,Q):=slot b _ (P b o e) hb (F b o e hx) J (I.base.free b o e n hx);exact#[Y,Q]
 .let(O,J):=I.base.there b o e hx;exact free b O (F b o e hx) J (I.base.free b o e n hx)
 .let(O,J):=I.base.there b o e hx;exact there b O (F b o e hx) J
 .let(m1,J):=I.base.sH b U e;let(m2,Q):=sH b _ J;exact#[m1++m2,by rw[Q,Array.append_assoc]]
 .let(m,hn,hl):rA:=I.loc
  refine#[m,ns m hn,λi x v J Q e3=>?_];let(u,r,l):rA:=hl i x v J Q e3
  refine#[u,r, ?_];rcases l with l | ⟨k,c,e,z⟩
  .exact .inl l
  .exact .inr #[k,c,e,y x c e _ z]
 .let(v,z):=I.cell x c e;exact#[v,y x c e v z]
 .obtain⟨m,⟨o,_,_,ho,_⟩,_⟩:=I.loc;exact free _ o (λz=>(j _ z).2.1 rfl) ho I.free
 .let(v,o,ho,hd):FA:=I.cell x c e
  exact free c o (λz=>(j c z).2.2.1 x c e rfl) ho (I.WE x c e)
 .let(e,R):=I.pin p hp;let(n,ne,nf,d):oB:=R
  have C:p.1 ∉ ch:=λz=>(j p.1 z).2.2.2 p hp rfl
  exact#[keep p.1 p.2 ne nf C e n,free p.1 p.2 C e n,ne,nf,d]
def gA.un{t':Nat}(I:gA X cA B H s)(u:Un X.fs [] H C s.heap h')(LA:FC X.prog X.w C h'):gA X cA B C { s with heap:=h',toks:=t' }:=by
 obtain⟨m,⟨o,M,O,ho,r⟩,_⟩:=id I.loc;let(sl,F):=u.any ho I.free (by simp)
 exact I.step (g':=s.gens) (d':=s.drawn) (ch:=[]) nofun (λb o _ hb _ e n=>u.keep b o e n hb (by simp)) (λb o _ hb _ e n=>u.slot b o e n hb (by simp)) (λb o _ e n=>u.free b o e n (by simp)) (λb o _ e=>u.there b o e (by simp)) u.QI u.bI u.sH (λP hm=>by
  let(Q,x,y,j,J):kI:=hm;rw[ho] at j;cases j
  exact#[_,x,y,F,J]) LA I.bare
def gA.call(I:gA X cA B H s)(u:Un (BD X.stack) ch H O s.heap h')(LA:FC X.prog X.w O h')(P:OJ g')
  (y:∀b∈ch,(b∈X.ex\/X.s₀.heap.get? b=eA)/\b≠X.env.locals/\(∀x c,X.env.cells.lookup x=aA c->c≠b)/\∀p∈X.pn++cA,p.1≠b) :
  gA X cA B O { s with heap:=h',gens:=g',drawn:=d',toks:=t' }:=by
 obtain⟨m,⟨o,R,U,ho,r⟩,_⟩:=id I.loc;let(sl,F):=u.any ho I.free λz=>(y _ z).2.1 rfl
 exact I.step y (λb o F hb j e n=>u.keep b o e n (λz=>(jD.mp (I.qV b z)).elim F hb) j) (λb o _ _ j e n=>u.any e n j) (λb o j e n=>u.free b o e n j) (λb o j e=>u.there b o e j) u.QI u.bI u.sH (λY hm=>by
  let(Z,J,M,C,Q):kI:=hm;rw[ho] at C;cases C
  exact#[_,J,M,F,Q]) LA P
def gA.turned{it:iA}(I:gA X cA B H s)(k:∀b o,b≠it->s.heap.get? b=aA o->F.get? b=aA o)(J:H it=eA)(C:it≠X.env.locals)
  (h1:it∈X.ex\/X.s₀.heap.get? it=eA) (h2:∀x c,X.env.cells.lookup x=aA c->c≠it) (h3:∀p∈X.pn++cA,p.1≠it):gA X cA B H { s with heap:=F,toks:=t' }:=by
 have y:∀b u,H b=aA u->b≠it:=λb u e z=>by rw[z,J] at e;cases e
 refine I.step (g':=s.gens) (d':=s.drawn) (ch:=[it]) (λb hb=>?_) (λb o _ _ j e _=>k b o (λz=>j (by simp[z])) e) (λb o _ _ j e _=>#[o.slots,k b o (λz=>j (by simp[z])) e]) (λ_ _ _ _ n=>n)
  (λb o j e=>#[o,k b o (λz=>j (by simp[z])) e]) (λ_ _ e=>e) (λ_ _ _ e=>e) (λb P e=>#[[].toArray,by rw[e];simp]) (λm hm=>?_) (λb u e=>?_) I.bare
 .have e:b=it:=↑hb
  subst e;exact#[h1,C,h2,h3]
 .let(o,M,O,ho,r):kI:=hm;exact#[o,M,O,k _ o (rD C) ho,r]
 .refine(I.LA b u e).AE (λc v j q=>k c v ?_ q) (λ_ q=>q) λ_ _ q=>q
  rcases j with z | z
  .rw[z];exact y b u e
  .exact y c _ z
def gA.tok(I:gA X cA B H s)(t:Nat):gA X cA B H { s with toks:=t }:=I.un (h':=s.heap) (t':=t) Un.refl I.LA
theorem gA.kept(I:gA X cA B H s)(k:∀b u,s.heap.get? b=aA u->j.get? b=aA u):gA X cA B H { s with heap:=j,toks:=t' }:=I.un (Un.kept k) (I.LA.kept k)
theorem gA.laid(I:gA X cA B H s)(k:∀b u,s.heap.get? b=aA u->h'.get? b=aA u)(hp:s⁻¹<=a)(new:lD X.prog X.w (GA H a o) h' a o) :
  gA X cA B (GA H a o) { s with heap:=h',toks:=t' }:=I.un (Un.laid k hp (I.LA.fresh hp)) (I.LA.laid k hp new)
theorem gA.write(I:gA X cA B H s)(r:QP (H x))(y:e=x\/H e=aA (.own x))(k:∀b u,b≠e->s.heap.get? b=aA u->m.get? b=aA u)(j:∃u,m.get? e=aA u)
  (new:lD X.prog X.w (GA H x o) m x o):gA X cA B (GA H x o) { s with heap:=m,toks:=t' }:=I.un (Un.write r y k j) (I.LA.write r y k j new)
def gA.Ye(I:gA X cA B H s)(h:∀p∈j,s.heap.get? p.1=aA p.2/\H p.1=eA/\p.1≠X.env.locals/\p.1 ∉ X.fs/\∀v,p.2.data≠.cell v):gA X j B H s :=
 #[I.ok,I.os,I.bare,I.base,I.loc,I.cell,I.free,I.WE,λp hp=>(QE.mp hp).elim (λz=>I.pin p (aF _ z)) (h p),I.LA,I.len]
def N2{N:List fA}(c:N.Nodup){i j:Nat}(a:N[i]?=aA x)(b:N[j]?=aA x):i=j:=by
 let(f,d):=LD.mp a;let(g,e):=LD.mp b;exact(List.getElem_inj c).mp (d.trans e.symm)
def Jg(I:gA X cA B H s)(hN:X.N.Nodup)(Y:X.N[i]?=aA x)(C:Loc X.env.scope x)(r:aAe v u)
  (h:∀s',gA X cA (B.set i (aA v)) H s'->(∃a,yH a s.heap s'.heap/\(a=X.env.locals\/X.env.cells.lookup x=aA a))->Q () s') (hf:X.fn x=bA\/X.env.scope.names.lookup x=aA .local:=by first | exact .inl rfl | exact .inr rfl | assumption):sA M A (storeName X.env x u) Q E s:=by
 let(m,hn,hl):rA:=id I.loc
 have Z:(X.env.scope.kind==.class||(X.env.scope.kind==.module&&X.env.locals != X.env.globals))=dA:=by rw[I.ok.kind];rfl
 have Ja:i<B.length:=by rw[I.len];exact(LD.mp Y).1
 have fK:=I.fK
 have g:∀{a:iA} {U:DB},(∃o,s.heap.get? a=aA o/\H a=eA)->yH a s.heap U->FC X.prog X.w H U:=λ{a U} ha f b ob e=>by
  let(_,_,F):rA:=ha;refine(I.LA b ob e).AE (λc w' t q=>(f.2 c ?_).trans q) (λ_ q=>q) λ_ _ q=>q
  rintro rfl
  rcases t with rfl | t
  .rw[F] at e;cases e
  .rw[F] at t;cases t
 rcases C with hk | hk
 .refine wpAny_storeName_local hk hn (λU vx f=>?_) Z;let(oL,_,_,Oa,_):kI:=id hn
  refine h _ #[I.ok,I.os,I.bare,#[λb o e n O C=>?_,λb o e n O C=>?_,I.base.free,λb o e C=>?_,I.base.QI,I.base.bI,I.base.sH],#[_,vx,λj y v' l K e3=>?_],λy c e=>?_,I.free,I.WE,λp hp=>?_,g #[oL,Oa,I.free] f,by simpa using I.len] #[_,f,.inl rfl]
  .exact(f.2 b (AD (ME (VB e) I.ok.above))).trans (I.base.keep b o e n O C)
  .let(sl,l):=I.base.slot b o e n O C;exact#[sl,(f.2 b (AD (ME (VB e) I.ok.above))).trans l]
  .let(o',l):=I.base.there b o e C;exact#[o',(f.2 b (AD (ME (VB e) I.ok.above))).trans l]
  .by_cases P:j=i
   .subst P;rw[Y] at l;cases l;rw[NF Ja] at K;cases K;exact#[u,r,.inl #[hk,by simp]]
   .rw[QC (rD P)] at K;let(u',r',q):rA:=hl j y v' l K e3
    refine#[u',r', ?_];rcases q with ⟨k,e⟩ | ⟨k,c,e,z⟩
    .refine .inl #[k, ?_]
     have:y≠x:=λe=>P (N2 hN l (e ▸ Y))
     simp[this,e]
    .exact .inr #[k,c,e,z.sameBut f (fK y c e)]
  .let(w',z):=I.cell y c e;exact#[w',z.sameBut f (fK y c e)]
  .let(e,J):=I.pin p hp;let(n,ne,nf,d):oB:=J
   exact#[(f.2 p.1 ne).trans e,n,ne,nf,d]
 .have R:X.fn x=bA:=by
   rcases hf with z | z
   .exact z
   .rw[z] at hk;cases hk
  let(c,t):=I.ok.has x (.inl hk);let(w',z):=I.cell x c t;refine wpAny_storeName_cell I.ok.kind hk t z (λU eU f=>?_);let(oc,jU,Bx):rA:=id z
  refine h { s with heap:=U } #[I.ok,I.os,I.bare,#[λb o e n O C=>?_,λb o e n O C=>?_,I.base.free,λb o e C=>?_,I.base.QI,I.base.bI,I.base.sH],#[m,hn.sameBut f (rD (fK x c t)),λj y v' l K e3=>?_],λy c' e=>?_,I.free,I.WE,λp hp=>?_,g #[oc,jU,I.WE x c t] f,by simpa using I.len] #[c,f,.inr t]
  .exact(f.2 b (AD (ME (VB e) (I.ok.eK x c R t)))).trans (I.base.keep b o e n O C)
  .let(sl,l):=I.base.slot b o e n O C;exact#[sl,(f.2 b (AD (ME (VB e) (I.ok.eK x c R t)))).trans l]
  .let(o',l):=I.base.there b o e C;exact#[o',(f.2 b (AD (ME (VB e) (I.ok.eK x c R t)))).trans l]
  .by_cases P:j=i
   .subst P;rw[Y] at l;cases l;rw[NF Ja] at K;cases K;exact#[u,r,.inr #[.inl hk,c,t,eU]]
   .rw[QC (rD P)] at K;let(u',r',q):rA:=hl j y v' l K e3
    refine#[u',r', ?_];rcases q with q | ⟨k,c',e,z'⟩
    .exact .inl q
    .refine .inr #[k,c',e,z'.sameBut f ?_]
     rintro rfl
     exact P (N2 hN l (I.ok.inj _ _ _ e t ▸ Y))
  .by_cases Ba:c'=c
   .subst Ba;exact#[_,eU]
   .let(w2,z2):=I.cell y c' e;exact#[w2,z2.sameBut f Ba]
  .let(e,J):=I.pin p hp;let(n,ne,nf,d):oB:=J
   refine#[(f.2 p.1 ?_).trans e,n,ne,nf,d];intro q;rw[q,jU] at e;have q':oc=p.2:=ED e;exact d w' (by rw[<- q'];exact Bx)
def L4(I:gA X cA B H s)(b:X.N.Nodup)(c:X.N[i]?=aA x)(d:Loc X.env.scope x)(r:aAe v u)
  (h:∀a,gA X cA (B.set i (aA v)) H a->Q () a) (e:X.fn x=bA\/X.env.scope.names.lookup x=aA .local:=by first | exact .inl rfl | exact .inr rfl | assumption):sA M A (storeName X.env x u) Q E s :=
 Jg I b c d r (λa f _=>h a f) e
def gA.O8(I:gA X cA B H s)(ho:s'.os=s.os)(u:Un (BD X.stack) ch H m s.heap s'.heap)(LA:FC X.prog X.w m s'.heap)(r:OJ s'.gens)
  (j:∀b∈ch,(b∈X.ex\/X.s₀.heap.get? b=eA)/\b≠X.env.locals/\(∀x c,X.env.cells.lookup x=aA c->c≠b)/\∀p∈X.pn++cA,p.1≠b):gA X cA B m s':=by
 let(C,F,J,M,y):=s';have e:y=s.os:=ho;subst e;exact I.call u LA r j
end
abbrev XK:=jA->Option iA×Bool->Hp->Prop
abbrev St:=List (Option V)
abbrev VK:=V->Hp->Prop
abbrev TE:=St->Hp->VK->Prop
abbrev TT:=St->Hp->(Bool->Hp->Prop)->Prop
abbrev TA:=St->Hp->(List V->Hp->Prop)->Prop
structure Ends where
 nx:St->Hp->Prop
 rt:VK
 bk:St->Hp->Prop:=λ_ _=>False
 ct:St->Hp->Prop:=λ_ _=>False
abbrev TS:=Ends->St->Hp->Prop
def EP(X:Cx)(cA:List (iA×kB))(B:St)(Q:VK)(u:jA)(b:CA):Prop:=∃v a,gA X cA B a b/\aAe v u/\Q v a
def TP(X:Cx)(cA:List (iA×kB))(B:St)(Q:Bool->Hp->Prop)(b:Bool)(c:CA):Prop:=∃a,gA X cA B a c/\Q b a
def AP(X:Cx)(cA:List (iA×kB))(B:St)(Q:List V->Hp->Prop)(c:List jA)(d:CA):Prop:=∃a b,gA X cA B b d/\aAc a c/\Q a b
def SP(X:Cx)(cA:List (iA×kB))(D:Ends)(f:Flow)(c:CA):Prop :=
 match f with
 |.next=>∃b a,gA X cA b a c/\D.nx b a
 |.brk=>∃b a,gA X cA b a c/\D.bk b a
 |.cont=>∃b a,gA X cA b a c/\D.ct b a
 |.ret u=>∃v b a,gA X cA b a c/\aAe v u/\D.rt v a
def PE(X:Cx)(e:xA)(t:TE):Prop :=
 ∀(cA:List (iA×kB)) (s:CA) (B:St) (H:Hp) (Q:VK),gA X cA B H s->t B H Q->sA (~~~X) X.A (eval e X.env) (EP X cA B Q) X.xe s
def PT(X:Cx)(e:xA)(t:TT):Prop :=
 ∀(cA:List (iA×kB)) (s:CA) (B:St) (H:Hp) (Q:Bool->Hp->Prop),gA X cA B H s->t B H Q->sA (~~~X) X.A (isTrue e X.env (eval e X.env)) (TP X cA B Q) X.xe s
def PW(X:Cx)(e:xA)(t:TT):Prop :=
 ∀(whole:Sem jA) (cA:List (iA×kB)) (s:CA) (B:St) (H:Hp) (Q:Bool->Hp->Prop),gA X cA B H s->t B H Q->sA (~~~X) X.A (isTrue e X.env whole) (TP X cA B Q) X.xe s
def PW.pt(h:PW X e t):PT X e t:=h _
def PA(X:Cx)(a:List xA)(t:TA):Prop :=
 ∀(pos:GB) (cA:List (iA×kB)) (s:CA) (B:St) (H:Hp) (Q:List V->Hp->Prop),gA X cA B H s->t B H Q->sA (~~~X) X.A (spliced (BE pos (WB a X.env))) (AP X cA B Q) X.xe s
def PS(X:Cx)(st:MA)(t:TS):Prop :=
 ∀(cA:List (iA×kB)) (s:CA) (B:St) (H:Hp) (D:Ends),gA X cA B H s->t D B H->sA (~~~X) X.A (exec st X.env) (SP X cA D) X.xe s
def uC(X:Cx)(st:List MA)(t:TS):Prop :=
 ∀(cA:List (iA×kB)) (s:CA) (B:St) (H:Hp) (D:Ends),gA X cA B H s->t D B H->sA (~~~X) X.A (execs st X.env) (SP X cA D) X.xe s
def UA(h:sA M A t Q E s)(b:∀a s,Q a s->c a s):sA M A t c E s:=yF h b λ_ _ x=>x
section
variable{X:Cx}
def NL(i:Nat):TE:=λB H Q=>∃v,B[i]?=aA (aA v)/\Q v H
def tC(v:V):TE:=λ_ H Q=>Q v H
def sR(f:X.N[i]?=aA x)(g:PN X.env.scope x)(hd:(x==("__debug__":fA))=dA:=by decide)(b:(x==("__classdict__":fA))=dA:=by decide):PE X (.Name x pos) (NL i):=by
 intro cA s B H Q I h;refine rA h λv e h=>?_
 let(m,j,k):rA:=I.loc
 let(u,r,l):rA:=k i x v f e g
 have fin:EP X cA B Q u s:=#[v,H,I,r,h]
 rcases l with ⟨hk,n⟩ | ⟨hk,c,d,a⟩
 .exact E7 (wpAny_loadName_local I.ok.kind hk j n fin) hd
 .rcases hk with hk | hk
  .exact E7 (wpAny_loadName_cell I.ok.kind hk d a fin) hd
  .exact E7 (wpAny_loadName_free I.ok.kind hk d a fin b) hd
def Je{i j pos}:PE X (.Constant (.int i) j pos) (tC (.int i)):=λ_ _ _ H _ I h=>wpAny_Constant_int #[.int i,H,I.tok _,#[_,rfl],h]
def xHa{b j pos}:PE X (.Constant (.bool b) j pos) (tC (.bl b)):=λ_ _ _ H _ I h=>Constant_bool #[.bl b,H,I,rfl,h]
def i3{j pos}:PE X (.Constant .none j pos) (tC .lA):=λ_ _ _ H _ I h=>Constant_none #[.lA,H,I,rfl,h]
def oIa{x j pos}:PE X (.Constant (.str x) j pos) (tC (.str x)):=λ_ _ _ H _ I h=>Calls.Constant_str #[.str x,H,I.tok _,#[_,rfl],h]
def Gl(X:Cx)(x:fA):Prop:=X.env.kindOf x=aA .globalImplicit
def ZM(I:gA X cA B H s)(a:Gl X x)(b:X.mg x=aA u)(h:Q u s)
  (hd:(x==("__debug__":fA))=dA:=by decide):sA (~~~X) X.A (eval (.Name x pos) X.env) Q E s :=
 Calls.Name_function_global I.ok.kind a (Calls.loadGlobal_global (by rw[I.ok.glob];exact I.mod.glob.keeps I.bk) b h) hd
def YM(I:gA X cA B H s)(a:Gl X x)(b:X.mg x=eA)(c:KJ x=aA u)(h:Q u s)
  (d:x≠"__name__":=by decide) (hd:(x==("__debug__":fA))=dA:=by decide):sA (~~~X) X.A (eval (.Name x pos) X.env) Q E s:=by
 let(g,e,f):rA:=I.mod.blt
 exact Calls.Name_function_global I.ok.kind a (Calls.loadGlobal_builtin (by rw[I.ok.glob];exact I.mod.glob.keeps I.bk) b (by rw[I.ok.blt];exact e.keeps I.bk) ((f x d).trans c) h) hd
def Z2(a:Gl X x)(b:X.mg x=aA u)(r:aAe v u)(hd:(x==("__debug__":fA))=dA:=by decide):PE X (.Name x pos) (tC v) :=
 λ_ _ _ H _ I h=>ZM I a b #[v,H,I,r,h] hd
def LO(a:Gl X x)(b:X.mg x=eA)(c:KJ x=aA u)(r:aAe v u)(d:x≠"__name__":=by decide)(hd:(x==("__debug__":fA))=dA:=by decide):PE X (.Name x pos) (tC v) :=
 λ_ _ _ H _ I h=>YM I a b c #[v,H,I,r,h] d hd
variable{pos:GB}
variable{aAj:List xA}
def Rh(t u:TT):TT:=λB H Q=>t B H λc a=>if c=bA then u B a Q else Q dA a
def Th(t u:TT):TT:=λB H Q=>t B H λc a=>if c=bA then Q bA a else u B a Q
def hRa(t:TT):TT:=λB H Q=>t B H λc a=>Q (!c) a
def aAX(b:PT X a d):PW X (.BoolOp .And [a] pos) d:=by
 intro f cA s B H Q I h;refine isTrue_and (UA (b cA s B H Q I h) λc g e=>?_)
 cases c with
 |true=>exact isTrue_and_nil e
 |false=>exact e
def aAZ(b:PT X a d):PW X (.BoolOp .Or [a] pos) d:=by
 intro f cA s B H Q I h;refine isTrue_or (UA (b cA s B H Q I h) λc g e=>?_)
 cases c with
 |false=>exact isTrue_or_nil e
 |true=>exact e
def aA0(j:PT X a k)(l:PW X (.BoolOp .And (b::aAj) pos) d):PW X (.BoolOp .And (a::b::aAj) pos) (Rh k d):=by
 intro m cA s B H Q I h;refine isTrue_and (UA (j cA s B H _ I h) λc n e=>?_);let(f,g,i):rA:=e
 cases c with
 |true=>exact l m cA n B f Q g i
 |false=>exact#[f,g,i]
def aA4(j:PT X a k)(l:PW X (.BoolOp .Or (b::aAj) pos) d):PW X (.BoolOp .Or (a::b::aAj) pos) (Th k d):=by
 intro m cA s B H Q I h;refine isTrue_or (UA (j cA s B H _ I h) λc n e=>?_);let(f,g,i):rA:=e
 cases c with
 |true=>exact#[f,g,i]
 |false=>exact l m cA n B f Q g i
def mLa(b:PT X a d):PT X (.UnaryOp .Not a pos) (hRa d):=by
 intro cA s B H Q I h;exact isTrue_not (b cA s B H (λc e=>Q (!c) e) I h)
def Sh(b d:TE):TE:=λB H Q=>b B H λx a=>∃c,x=.bl c/\if c=bA then d B a Q else Q (.bl dA) a
def Uh(b d:TE):TE:=λB H Q=>b B H λx a=>∃c,x=.bl c/\if c=bA then Q (.bl bA) a else d B a Q
def Le{op}(h:PE X a t):PE X (.BoolOp op [a] pos) t:=λcA s B H Q I b=>BoolOp_one (h cA s B H Q I b)
def wHa(i:PE X a j)(k:PE X (.BoolOp .And (b::aAj) pos) l):PE X (.BoolOp .And (a::b::aAj) pos) (Sh j l):=by
 intro cA s B H Q I h;refine BoolOp_and (UA (i cA s B H _ I h) λv m e=>?_);let(x,f,g,n,d):pB:=e;let(c,rfl,d):=d;cases n;refine QK ?_
 cases c with
 |true=>exact k cA m B f Q g d
 |false=>exact#[.bl dA,f,g,rfl,d]
def l3(i:PE X a j)(k:PE X (.BoolOp .Or (b::aAj) pos) l):PE X (.BoolOp .Or (a::b::aAj) pos) (Uh j l):=by
 intro cA s B H Q I h;refine BoolOp_or (UA (i cA s B H _ I h) λv m e=>?_);let(x,f,g,n,d):pB:=e;let(c,rfl,d):=d;cases n;refine QK ?_
 cases c with
 |false=>exact k cA m B f Q g d
 |true=>exact#[.bl bA,f,g,rfl,d]
end
def EB(K:kA)(H:Hp)(a:iA)(c:List V):Prop :=
 Rd H a (.l c) \/
  ∃(o:kB) (b:Array jA) (n:Nat),K.lookup a=aA o/\o.cls=.type "list"/\o.dict=eA/\o.data=.seq b n/\b.size<=sizeLine/\aAc c b.toList
def LC(K:kA)(H:Hp)(a:iA)(c:List V):Prop :=
 Rd H a (.t c) \/
  ∃(o:kB) (b:Array jA) (n:Nat),K.lookup a=aA o/\o.cls=.type "tuple"/\o.data=.seq b n/\b.size<=sizeLine/\aAc c b.toList
noncomputable def ko:jA->Option V
 |.none=>aA .lA
 |.bool b=>aA (.bl b)
 |.int i _=>aA (.int i)
 |.str x _=>aA (.str x)
 |.ref a=>aA (.ref a)
 |.type n=>aA (.ty n)
 |_=>eA
def aAe.abs(r:aAe x u):ko u=aA x:=by
 cases x with
 |lA=>cases r;rfl
 |bl _=>cases r;rfl
 |int _=>let(t,rfl):=r;rfl
 |str _=>let(t,rfl):=r;rfl
 |ref _=>cases r;rfl
 |ty _=>cases r;rfl
theorem aAe.inj(r:aAe x u)(q:aAe y u):x=y:=ED (r.abs.symm.trans q.abs)
theorem aAc.inj{xs j:List V}{m:List jA}(h:aAc xs m)(u:aAc j m):xs=j:=by
 induction h generalizing j with
 |nil=>cases u;rfl
 |cons r t x=>cases u with | cons y B=>rw[r.inj y,x B]
section
variable{xs ys:List V}
def EB.of{K:kA}(h:H a=aA (.l xs)):EB K H a xs:=.inl (.inl h)
def LC.of{K:kA}(h:H a=aA (.t xs)):LC K H a xs:=.inl (.inl h)
def gA.list(I:gA X cA B H s)(h:EB X.K H a xs):∃j:List jA,aAc xs j/\PlainL s.heap a j.toArray/\xs.length<=sizeLine:=by
 rcases h with h | ⟨o,j,n,hk,u,hd,x,y,r⟩
 .let(z,m):=h.ok I.LA;let(j,n,r,e):FA:=m
  exact#[j,r,#[_,n,e,rfl,rfl,rfl],z]
 .refine#[j.toList,r,#[o,n,I.vD a o hk,u,hd,by simpa using x], ?_];have e:=r.length;erw[RJ] at e
  lia
def gA.tuple(I:gA X cA B H s)(h:LC X.K H a xs):∃j:List jA,aAc xs j/\PJ s.heap a j.toArray/\xs.length<=sizeLine:=by
 rcases h with h | ⟨o,j,n,hk,m,u,x,r⟩
 .let(z,j,r,p):yD:=h.ok I.LA
  exact#[j,r,p,z]
 .refine#[j.toList,r,#[o,I.vD a o hk,m,n,by simpa using u], ?_];have e:=r.length;erw[RJ] at e
  lia
def gA.md(I:gA X cA B H s)(h:EB X.K H a xs)(y:EB X.K H a ys):xs=ys:=by
 obtain⟨m,r,⟨o,n,e,_,_,d⟩,_⟩:=I.list h;obtain⟨j,C,⟨J,M,u,_,_,x⟩,_⟩:=I.list y;rw[e] at u;cases u;rw[d] at x
 injection x with F _
 have:m=j:=by simpa using congrArg xS F
 subst this;exact r.inj C
def gA.hSa(I:gA X cA B H s)(h:LC X.K H a xs)(y:LC X.K H a ys):xs=ys:=by
 obtain⟨m,r,⟨o,e,_,n,d⟩,_⟩:=I.tuple h;obtain⟨j,C,⟨J,u,_,M,x⟩,_⟩:=I.tuple y;rw[e] at u;cases u;rw[d] at x
 injection x with F _
 have:m=j:=by simpa using congrArg xS F
 subst this;exact r.inj C
end
abbrev Cx.EJ(X:Cx)(E:jA->CA->Prop):Cx:={ X with xe:=E }
abbrev Cx.JO(X:Cx):Cx:=X.EJ λ_ _=>False
theorem Cx.Ok.EJ{X:Cx}(ok:X.Ok)(E:jA->CA->Prop):(X.EJ E).Ok :=
 #[ok.mod,ok.kind,ok.glob,ok.blt,ok.above,ok.inj,ok.has,ok.eK,ok.hd,ok.frames,ok.jI,ok.aO,ok.bs,ok.cH,ok.BK,ok.sL,ok.kF,ok.aI]
def Cx.Ok.RL{X:Cx}(ok:(X.EJ E).Ok):X.Ok :=
 #[ok.mod,ok.kind,ok.glob,ok.blt,ok.above,ok.inj,ok.has,ok.eK,ok.hd,ok.frames,ok.jI,ok.aO,ok.bs,ok.cH,ok.BK,ok.sL,ok.kF,ok.aI]
section
variable{E:jA->CA->Prop}
theorem gA.EJ(I:gA X cA B H s)(E:jA->CA->Prop):gA (X.EJ E) cA B H s:=#[I.ok.EJ E,I.os,I.bare,I.base,I.loc,I.cell,I.free,I.WE,I.pin,I.LA,I.len]
theorem gA.RL(I:gA (X.EJ E) cA B H s):gA X cA B H s:=#[I.ok.RL,I.os,I.bare,I.base,I.loc,I.cell,I.free,I.WE,I.pin,I.LA,I.len]
theorem SP.RL(h:SP (X.EJ E) cA D f x):SP X cA D f x:=by
 cases f with
 |next=>let(j,m,I,q):=h;exact#[j,m,I.RL,q]
 |brk=>let(j,m,I,q):=h;exact#[j,m,I.RL,q]
 |cont=>let(j,m,I,q):=h;exact#[j,m,I.RL,q]
 |ret u=>let(v,j,m,I,r,q):=h;exact#[v,j,m,I.RL,r,q]
theorem uC.JO{st:List MA}(h:uC X.JO st t):uC X st t:=λcA s B H D I j =>
 yF (h cA s B H D (I.EJ _) j) (λ_ _ q=>q.RL) λ_ _ z=>lE z
end
section
variable{st:MA}{aAj:List MA}
def Y4:TS:=λD B H=>D.nx B H
def mRa(t u:TS):TS:=λD B H=>t { D with nx:=u D } B H
def kf:uC X [] Y4:=λ_ _ B H _ I h=>mS #[B,H,I,h]
def L3(a:PS X st t)(b:uC X aAj u):uC X (st::aAj) (mRa t u):=by
 intro cA s B H D I h;refine M6 (UA (a cA s B H { D with nx:=u D } I h) λf c q=>?_)
 cases f with
 |next =>
  let(d,e,g,q):=q;exact b cA c d e D g q
 |ret v=>exact q
 |brk=>exact q
 |cont=>exact q
def M3(a:PS X st t):uC X [st] t:=by
 intro cA s B H D I h;refine M6 (UA (a cA s B H D I h) λf b q=>?_)
 cases f with
 |next=>exact mS q
 |ret v=>exact q
 |brk=>exact q
 |cont=>exact q
def uQa:TS:=λD B H=>D.bk B H
def xQa:TS:=λD B H=>D.ct B H
def uKa:PS X (.Pass pos) Y4:=λ_ _ B H _ I h=>wpAny_Pass #[B,H,I,h]
def kKa:PS X (.Break pos) uQa:=λ_ _ B H _ I h=>wpAny_Break #[B,H,I,h]
def oKa:PS X (.Continue pos) xQa:=λ_ _ B H _ I h=>wpAny_Continue #[B,H,I,h]
def gA.quiet(I:gA X cA B H s):interactive X.env=dA:=by simp[interactive,I.ok.kind]
def zQa(a:TE):TS:=λD B H=>a B H λ_ b=>D.nx B b
def cf(b:PE X e c)(d:swapsWith e eA pos.line X.env=pure dA:=by rfl):PS X (.Expr e pos) (zQa c):=by
 intro cA s B H D I h;exact wpAny_Expr_any (UA (b cA s B H _ I h) λv j a=>(by let(x,f,g,k,i):pB:=a;exact#[B,f,g,i])) I.quiet d
def kRa(a:TE):TS:=λD B H=>a B H D.rt
def vR(b:PE X e c):PS X (.Return (aA e) pos) (kRa c):=by
 intro cA s B H D I h;exact wpAny_Return_some (UA (b cA s B H _ I h) λv j a=>(by let(x,d,f,g,i):pB:=a;exact#[x,B,d,f,g,i]))
def lRa:TS:=λD _ H=>D.rt .lA H
def xKa:PS X (.Return eA pos) lRa:=λ_ _ B H _ I h=>wpAny_Return_none #[.lA,B,H,I,rfl,h]
def dRa(c:TT)(t u:TS):TS:=λD B H=>c B H λb a=>if b=bA then t D B a else u D B a
def gf(k:PT X c l)(m:uC X a t)(n:uC X b u):PS X (.If c a b pos) (dRa l t u):=by
 intro cA s B H D I h;refine wpAny_If (UA (k cA s B H _ I h) λd e f=>?_);let(g,i,j):rA:=f
 cases d with
 |true=>exact m cA e B g D i j
 |false=>exact n cA e B g D i j
end
abbrev TG:=V->St->Hp->(St->Hp->Prop)->Prop
abbrev ON:=List V->St->Hp->(St->Hp->Prop)->Prop
def PG(X:Cx)(target:xA)(t:TG):Prop :=
 ∀(cA:List (iA×kB)) (s:CA) (B:St) (H:Hp) (v:V) (u:jA) (Q:St->Hp->Prop),gA X cA B H s->aAe v u->t v B H Q ->
  sA (~~~X) X.A (assign target X.env u) (λ_ c=>∃a b,gA X cA a b c/\Q a b) X.xe s
def WJ(X:Cx)(e:List xA)(t:ON):Prop :=
 ∀(cA:List (iA×kB)) (s:CA) (B:St) (H:Hp) (a:List V) (b:List jA) (Q:St->Hp->Prop),gA X cA B H s->aAc a b->t a B H Q ->
  sA (~~~X) X.A (assignInOrder ((OH e X.env).map (·.2)) b) (λ_ f=>∃c d,gA X cA c d f/\Q c d) X.xe s
abbrev XS:=V->V->V->Hp->(Hp->Prop)->Prop
def UW(X:Cx)(t:XS):Prop :=
 ∀(cA:List (iA×kB)) (s:CA) (B:St) (H:Hp) (o i v:V) (a b u:jA) (Q:Hp->Prop),gA X cA B H s->aAe o a->aAe i b->aAe v u->t o i v H Q ->
  sA (~~~X) X.A (setItem a b u) (λ_ d=>∃c,gA X cA B c d/\Q c) X.xe s
section
variable{pos:GB}
def NM(i:Nat):TG:=λv B H Q=>Q (B.set i (aA v)) H
def Se(a:X.N.Nodup)(b:X.N[i]?=aA x)(c:Loc X.env.scope x)(d:X.fn x=bA\/X.env.scope.names.lookup x=aA .local:=by first | exact .inl rfl | exact .inr rfl | assumption):PG X (.Name x pos) (NM i):=by
 intro cA s B H v u Q I r h;exact Ek (L4 I a b c r (λf e=>#[_,H,e,h]) d)
def Wv:ON:=λa B H Q=>a=[]/\Q B H
def Vv(t:TG)(u:ON):ON:=λa B H Q=>∃v r,a=v::r/\t v B H λb c=>u r b c Q
def xIa:WJ X [] Wv:=by
 intro cA s B H a b Q I r h;let(e,h):=h;subst e;cases r;exact assignInOrder_nil #[B,H,I,h]
def vIa(b:PG X e t)(c:WJ X a u)
  (d:(OH (e::a) X.env).map (·.2)=assign e X.env::(OH a X.env).map (·.2):=by rfl):WJ X (e::a) (Vv t u):=by
 intro cA s B H o p Q I r h;let(v,q,f,h):=h;subst f
 cases r with
 |cons r g =>
  rw[d];refine assignInOrder_cons (UA (b cA s B H _ _ _ I r h) λ_ i j=>?_);let(k,l,m,n):=j;exact c cA i k l _ _ Q m g n
def Yv(K:kA)(n:Nat)(t:ON):TG:=λv B H Q=>∃a b,v=.ref a/\LC K H a b/\b.length=n/\t b B H Q
def uIa(i:X.calm=bA)(h:WJ X c t)
  (j:(OH c X.env).length=n:=by rfl) (d:(OH c X.env).findIdx? (·.1)=eA:=by rfl):PG X (.Tuple c k pos) (Yv X.K n t):=by
 intro cA s B H v u Q I r f;let(a,l,m,p,q,f):=f;subst m;cases r;let(w,g,x,C):=I.tuple p;refine assign_Tuple_tuple (I.ok.hd i) x (by simp[j,<- q,g.length]) d λy z=>?_
 have A:gA X cA B H { s with heap:=y }:=I.kept (t':=s.toks) λb o e=>z b o (AD (VB e)) e
 exact h cA _ B H l _ Q A (↑g) f
def Xv(a b:TE)(t:XS):TG:=λv B H Q=>a B H λo c=>b B c λi d=>t o i v d λe=>Q B e
def tIa(d:PE X o e)(f:PE X i g)(j:UW X t)
  (k:∀v,assign (.Subscript o i pos) X.env v=(do
   let b <- holding [v] (eval o X.env)
   let c <- holding [v,b] (eval i X.env)
   standAt pos
   holding [v,b,c] (setItem b c v)
   release [v,b,c] []):=by intro _;rfl):PG X (.Subscript o i pos) (Xv e g t):=by
 intro cA s B H v u Q I r h;rw[k];refine tA (VI (UA (d cA s B H _ I h) λb l a=>?_));let(x,m,n,p,q):pB:=a;refine tA (VI (UA (f cA l B m _ n q) λc w a=>?_));let(y,z,A,C,F):pB:=a;refine tA (lW (tA (VI (UA (j cA w B z x y v b c u _ A p C r F) λ_ N a=>?_))));let(J,K,M):rA:=a;exact wpAny_release #[B,J,K,M]
def tV(a:TE)(g:TG):TS:=λD B H=>a B H λx b=>g x B b D.nx
def dV(c:PE X e d)(f:PG X a g)(i:swapsWithSole [a] e pos.line X.env=pure dA:=by rfl)(j:swappedStores [a] e X.env=pure eA:=by rfl)
  (k:(OH [a] X.env).map (·.2)=[assign a X.env]:=by rfl):PS X (.Assign [a] e pos) (tV d g):=by
 intro cA s B H D I h;refine wpAny_Assign_stores (UA (c cA s B H _ I h) λv l b=>?_) i j;let(x,m,n,o,p):pB:=b;rw[k];exact UA (f cA l B m x v _ n o p) λ_ r q=>q
def OO(b:X.N.Nodup)(c:X.N[i]?=aA x)(d:Loc X.env.scope x)(f:PE X e g)(j:swapsWith e (aA (.Name x pos')) pos.line X.env=pure dA:=by rfl)(k:X.fn x=bA\/X.env.scope.names.lookup x=aA .local:=by first | exact .inl rfl | exact .inr rfl | assumption) :
  PS X (.Assign [.Name x pos'] e pos) (tV g (NM i)):=by
 intro cA s B H D I h;refine wpAny_Assign_Name (UA (f cA s B H _ I h) λv q a=>?_) j;let(y,l,m,n,o):pB:=a;exact L4 m b c d n (λr p=>#[_,l,p,o]) k
end
section
variable{X:Cx}{pos:GB}
def pRa(c:TT)(g:TS):TS:=λD B H=>∃W:Nat->St->Hp->Prop,(∃m,W m B H)/\∀m B H,W m B H ->
 c B H λb a=>if b=bA then ∃N:St->Hp->Prop,(∀d e,N d e->∃f,f<m/\W f d e)/\g { D with nx:=N,ct:=N,bk:=D.nx } B a else D.nx B a
def jf(q:IG (~~~X) X.A X.env X.xe)(F:PT X c J)(M:uC X body O):PS X (.While c body [] pos) (pRa J O):=by
 intro cA s B H D I h;obtain⟨W,⟨K,P⟩,a⟩:=h;refine wpAny_While (codeAny_whileLoop (λn Q=>∃r t,gA X cA r t Q/\W n r t) ?_ K #[B,H,I,P])
 rintro n R ⟨g,u,U,Y⟩
 refine wN q (UA (F cA R g u _ U (a n g u Y)) λb Z x=>?_);let(y,z,i):rA:=x
 cases b with
 |true =>
  refine rA i λN C i=>?_
  rw[RA rfl];refine wN q (UA (M cA Z g y _ z i) λf s3 j=>?_)
  cases f with
  |next =>
   let(d,e,k,l):=j;let(m,o,p):=C d e l;exact#[m,o,d,e,k,p]
  |cont =>
   let(d,e,k,l):=j;let(m,o,p):=C d e l;exact#[m,o,d,e,k,p]
  |brk=>exact j
  |ret v=>exact j
 |false =>
  rw[if_neg OE];exact mS #[g,y,z,i]
end
structure It where
 go:Nat->Hp->Prop
 EV:Nat->Hp->V->Hp->Prop
 stop:Nat->Hp->Prop
def kD(X:Cx)(cA:List (iA×kB))(H:Hp)(b:iA):Prop :=
 H b=eA/\b≠X.env.locals/\b ∉ X.fs/\(b∈X.ex\/X.s₀.heap.get? b=eA)/\(∀x c,X.env.cells.lookup x=aA c->c≠b)/\∀p∈X.pn++cA,p.1≠b
def gA.vL(I:gA X cA B H s)(hb:s⁻¹<=b)(j:m b=eA):kD X cA m b:=by
 refine#[j,yS (ME I.lt hb),I.kDa hb,.inr (dP (dD I.sz hb)),λx c e z=>?_,λp hp z=>?_]
 .let(v,q):=I.cell x c e;exact absurd (ME q.lt (by rw[z];exact hb)) (UI _)
 .exact absurd (ME (VB (I.pin p hp).1) (by rw[z];exact hb)) (UI _)
structure Turn(P:KD)(w:cD)(K:kA)(tg:xA)(J:It)(fp:List iA)(it:iA)(tn:Nat->DB->Prop):Prop where
 mem:it∈fp
 obj:∀i h,tn i h->∀b∈fp,∃o,h.get? b=aA o/\∀v,o.data≠.cell v
 keep:∀i h h',tn i h->(∀b∈fp,∀o,h.get? b=aA o->h'.get? b=aA o)->tn i h'
 item:∀(X:Cx),X.prog=P->X.w=w->X.K=K->X.calm=bA->∀(i:Nat) (cA:List (iA×kB)) (s:CA) (B:St) (H:Hp) (E:jA->CA->Prop),gA X cA B H s->(∀b∈fp,kD X cA H b)->tn i s.heap->J.go i H ->
  sA (model P w) X.A (pyNext (.ref it)) (λr s1=>∃u,r=aA u /\
   sA (model P w) X.A (letOwnedTupleGo tg (.ref it) u) (λ_ s2=>∃x H',gA X cA B H' s2/\aAe x u/\J.EV i H x H'/\tn (i+1) s2.heap/\∀b∈fp,H' b=eA) E s1) E s
 done:∀(X:Cx),X.prog=P->X.w=w->X.K=K->X.calm=bA->∀(i:Nat) (cA:List (iA×kB)) (s:CA) (B:St) (H:Hp) (E:jA->CA->Prop),gA X cA B H s->(∀b∈fp,kD X cA H b)->tn i s.heap->J.stop i H ->
  sA (model P w) X.A (pyNext (.ref it)) (λr s1=>r=eA/\gA X cA B H s1) E s
 self:∀(A:KG) (i:Nat) (s:CA) (Q:jA->CA->Prop) (E:jA->CA->Prop),tn i s.heap->Q (.ref it) s->sA (model P w) A (pyIter (.ref it)) Q E s
abbrev TI:=St->Hp->(It->Hp->Prop)->Prop
def W7(X:Cx)(cA:List (iA×kB))(B:St)(g:xA)(R:It->Hp->Prop)(a:jA)(d:CA):Prop :=
 ∃(it:iA) (e:List iA) (f:Nat->DB->Prop) (J:It) (c:Hp),a=.ref it/\gA X cA B c d/\Turn X.prog X.w X.K g J e it f/\f 0 d.heap/\(∀b∈e,kD X cA c b)/\R J c
def PI(X:Cx)(a iter:xA)(b:TI):Prop :=
 ∀(cA:List (iA×kB)) (s:CA) (B:St) (H:Hp) (R:It->Hp->Prop),gA X cA B H s->b B H R ->
  sA (~~~X) X.A (eval iter X.env) (λv c=>sA (~~~X) X.A (pyIter v) (W7 X cA B a R) X.xe c) X.xe s
def bU(b:s.heap.get? it=aA o)(c:o.cls=.type n)(hd:o.data=.fields d)
  (e:["enumerate","zip","dict_itemiterator","dict_reverseitemiterator","odict_iterator","itertools.zip_longest","itertools.pairwise"].contains n=dA) (a:Q () s):sA M A (letOwnedTupleGo f (.ref it) u) Q E s:=by
 unfold letOwnedTupleGo
 cases f<;>first
  |exact ZA a
  | (cases u<;>first
    |exact ZA a
    | (refine tA (wpAny_load b ?_)
       rw[c,hd];show sA M A (if(["enumerate","zip","dict_itemiterator","dict_reverseitemiterator","odict_iterator","itertools.zip_longest","itertools.pairwise"].contains n&&d[0]? == aA (rawInt _))=bA then _ else _) Q E s;rw[if_neg (by intro h;rw[e,HJ] at h;cases h)]
       exact ZA a))
noncomputable def HW(K:kA)(a:iA):It :=
 #[λi H=>∃b x,EB K H a b/\b[i]?=aA x,λi H x c=>c=H/\∀b,EB K H a b->b[i]?=aA x,λi H=>∃b,EB K H a b/\b.length<=i]
noncomputable def IW(K:kA)(a:iA):It :=
 #[λi H=>∃b x,LC K H a b/\b[i]?=aA x,λi H x c=>c=H/\∀b,LC K H a b->b[i]?=aA x,λi H=>∃b,LC K H a b/\b.length<=i]
noncomputable def NP(lo:Int)(n:Nat):It:=#[λi _=>i<n,λi H x a=>a=H/\x=.int (lo+i),λi _=>n<=i]
def kSa{K:kA}(a it:iA):Turn P w K tg (HW K a) [it] it (λi h=>h.IsListIter it a i) where
 mem:=by simp
 obj:=λi h st b g=>by
  have e:b=it:=↑g
  subst e;let(o,e,c,d):KA:=st;exact#[o,e,λv z=>by rw[d] at z;cases z]
 keep:=λi h m st k=>st.at λo e=>k it (by simp) o e
 item:=by
  intro X r t y Q i cA s B H E I n st j;subst r t y;let(R,x,q,A):FA:=j;let(C,F,p,U):KA:=I.list q
  let(u,hu,Y):rA:=F.get A
  let(J,f1,f):mG:=n it (by simp)
  let(f2,M,N,O):oB:=f
  refine Cj st p.isList (x:=u) (↑hu) λm l Z=>?_
  have I1:gA X cA B H { s with heap:=m }:=I.turned (t':=s.toks) (λb o g e=>(Z.2 b g).trans e) J f1 M N O;let(o,e,c,d):KA:=id l
  exact#[u,rfl,bU (s:={ s with heap:=m }) e c d (by decide) #[x,H,I1,Y,#[rfl,λys hy=>by rw[I.md hy q];exact A],l,λb g=>(n b g).1]]
 done:=by
  intro X r t y Q i cA s B H E I n st j;subst r t y;let(R,q,A):rA:=j;let(C,F,p,U):KA:=I.list q
  let(J,f1,f):mG:=n it (by simp)
  let(f2,M,N,O):oB:=f
  have hl:=F.length;exact Fj (I.ok.hd Q) st p.isList (by simp;lia) λm eb=>#[rfl,I.turned (t':=s.toks) (λb o g e=>eb b o g e) J f1 M N O]
 self:=λ_ _ _ _ _ st h=>wpAny_pyIter_listiter st h
def mSa{K:kA}(a it:iA):Turn P w K tg (IW K a) [it] it (λi h=>h.IsTupleIter it a i) where
 mem:=by simp
 obj:=λi h st b g=>by
  have e:b=it:=↑g
  subst e;let(o,e,c,d):KA:=st;exact#[o,e,λv z=>by rw[d] at z;cases z]
 keep:=λi h n st k=>st.at λo e=>k it (by simp) o e
 item:=by
  intro X t y A Q i cA s B H E I q st l;subst t y A;let(R,x,r,C):FA:=l;let(j,F,p,U):KA:=I.tuple r
  let(u,hu,Y):rA:=F.get C
  let(J,f1,f):mG:=q it (by simp)
  let(f2,M,N,O):oB:=f
  refine wpAny_pyNext_tuple_item st (show s.heap.IsTuple a j.toArray from p) (x:=u) (↑hu) λn m Z=>?_
  have I1:gA X cA B H { s with heap:=n }:=I.turned (t':=s.toks) (λb o g e=>(Z.2 b g).trans e) J f1 M N O;let(o,e,c,d):KA:=id m
  exact#[u,rfl,bU (s:={ s with heap:=n }) e c d (by decide) #[x,H,I1,Y,#[rfl,λys hy=>by rw[I.hSa hy r];exact C],m,λb g=>(q b g).1]]
 done:=by
  intro X t y A Q i cA s B H E I q st l;subst t y A;let(R,r,C):rA:=l;let(j,F,p,U):KA:=I.tuple r
  let(J,f1,f):mG:=q it (by simp)
  let(f2,M,N,O):oB:=f
  have hl:=F.length;exact wpAny_pyNext_tuple_end (I.ok.hd Q) st (show s.heap.IsTuple a j.toArray from p) (by simp;lia) λn eb=>#[rfl,I.turned (t':=s.toks) (λb o g e=>eb b o g e) J f1 M N O]
 self:=λ_ _ _ _ _ st h=>wpAny_pyIter_tupleiter st h
def lSa{K:kA}(it:iA)(lo:Int)(n:Nat):Turn P w K O (NP lo n) [it] it (λi h=>IsRangeIter h it (lo+(i:Nat)*1) ((n:Int)-(i:Nat)) 1) where
 mem:=by simp
 obj:=λi h st b c=>by
  have e:b=it:=↑c
  subst e
  exact#[_,st,λv z=>by
   have C:Data.fields _=Data.cell v:=z
   cases C]
 keep:=λi h f st k=>k it (by simp) _ st
 item:=by
  intro X j l m p i cA s B H E I g st q;subst j l m;let(r,f1,a):mG:=g it (by simp)
  let(f2,u,x,y):oB:=a
  have W:=Walks.range (prog:=X.prog) (w:=X.w) (I.ok.hd p) it lo 1 n;refine W.item i s _ _ q st λv f A F d J=>?_
  let(t,rfl):=F;have M:gA X cA B H { s with heap:=f,toks:=A }:=I.turned (λb o c e=>J b o (↑c) e) r f1 u x y;refine#[_,rfl,bU (s:={ s with heap:=f,toks:=A }) (n:="range_iterator") d rfl rfl (by decide) #[.int (lo+i),H,M,#[t, ?_],#[rfl,rfl],d,λb c=>(g b c).1]];rw[Int.mul_one]
 done:=by
  intro X j l m p i cA s B H E I g st q;subst j l m;let(r,f1,a):mG:=g it (by simp)
  let(f2,u,x,y):oB:=a
  exact wpAny_pyNext_range_end (I.ok.hd p) st (by have:n<=i:=q;lia) λf N=>#[rfl,I.turned (t':=s.toks) (λb o c e=>N b o c e) r f1 u x y]
 self:=λ_ _ _ _ _ st h=>wpAny_pyIter_rangeiter st h
section
variable{tg:xA}
def NZ(K:kA)(c:TE):TI:=λB H R=>c B H λx b=>∃a,x=.ref a/\(∃d,EB K b a d)/\R (HW K a) b
def OZ(K:kA)(c:TE):TI:=λB H R=>c B H λx b=>∃a,x=.ref a/\(∃d,LC K b a d)/\R (IW K a) b
def m3(g:PE X l i):PI X tg l (NZ X.K i):=by
 intro cA s B H R I h;refine UA (g cA s B H _ I h) λv c f=>?_
 let(x,j,d,k,m):pB:=f;obtain⟨a,e,⟨u,n⟩,q⟩:=m;subst e;cases k;let(r,w,p,f):KA:=d.list n
 refine jP p.isList ?_;refine#[c⁻¹,[c⁻¹],_,_,j,rfl,d.kept (t':=c.toks) λb o e=>aC _ e,kSa a _,#[_,MD _ rfl,rfl,rfl],λb t=>?_,q];have e:b=c⁻¹:=↑t
 subst e;exact d.vL (uB _) (d.LA.fresh (uB _))
def y3(i:PE X l j):PI X tg l (OZ X.K j):=by
 intro cA s B H R I h;refine UA (i cA s B H _ I h) λv c f=>?_
 let(x,k,d,m,n):pB:=f;obtain⟨a,e,⟨u,r⟩,q⟩:=n;subst e;cases m;let(g,w,p,f):KA:=d.tuple r
 refine wpAny_pyIter_tuple (show c.heap.IsTuple a g.toArray from p) ?_;refine#[c⁻¹,[c⁻¹],_,_,k,rfl,d.kept (t':=c.toks) λb o e=>aC _ e,mSa a _,#[_,MD _ rfl,rfl,rfl],λb t=>?_,q];have e:b=c⁻¹:=↑t
 subst e;exact d.vL (uB _) (d.LA.fresh (uB _))
def Ff{lo a:Int}(I:gA X cA B H s)(d:-(2 ^ 62)<=lo)(f:lo<2 ^ 62)(g:-(2 ^ 62)<=a)(h:a<2 ^ 62)
  (q:R (NP lo (a-lo).toNat) H):sA (~~~X) X.A (pyIter (.ref s⁻¹)) (W7 X cA B tg R) E { s with heap:=s.heap.push { cls:=.type "range",data:=.fields [.int lo t,.int a u,.int 1 v].toArray },toks:=tk }:=by
 refine wpAny_pyIter_range (IsRange.new ..) (small_one d f g h) ?_;have c:gA X cA B H { s with heap:=s.heap.push { cls:=.type "range",data:=.fields [.int lo t,.int a u,.int 1 v].toArray },toks:=tk }:=I.kept λb o e=>aC _ e
 refine#[(s.heap.push { cls:=.type "range",data:=.fields [.int lo t,.int a u,.int 1 v].toArray }).objs.size,[(s.heap.push { cls:=.type "range",data:=.fields [.int lo t,.int a u,.int 1 v].toArray }).objs.size],_,_,H,rfl,
  c.kept (t':=tk) λb o e=>aC _ e,lSa _ lo (a-lo).toNat, ?_,λb i=>?_,q]
 .have j:lo+((0:Nat):Int)*1=lo:=by simp
  have k:(((a-lo).toNat:Nat):Int)-((0:Nat):Int)=Builtin.Range.rangeSize lo a 1:=by rw[rangeSize_one];split<;>lia
  show IsRangeIter _ _ (lo+((0:Nat):Int)*1) ((((a-lo).toNat:Nat):Int)-((0:Nat):Int)) 1;rw[j,k];exact MD _ rfl
 .have e:b=(s.heap.push { cls:=.type "range",data:=.fields [.int lo t,.int a u,.int 1 v].toArray }).objs.size:=↑i
  subst e;exact c.vL (uB _) (c.LA.fresh (uB _))
def Wa(a:TA):TI:=λB H R=>a B H λb c=>∃j:Int,b=[.int j]/\-(2 ^ 62)<=j/\j<2 ^ 62/\R (NP 0 j.toNat) c
def Xa(a:TA):TI:=λB H R=>a B H λb c=>∃i j:Int,b=[.int i,.int j]/\(-(2 ^ 62)<=i/\i<2 ^ 62/\-(2 ^ 62)<=j/\j<2 ^ 62)/\R (NP i (j-i).toNat) c
def We{p pos:GB}(c:Gl X "range")(d:X.mg "range"=eA)(f:PA X [a] g)(i:WB [a] X.env=[(dA,eval a X.env)]:=by rfl):PI X tg (.Call (.Name "range" p) [a] [] pos) (Wa g):=by
 intro cA s B H R I h;refine Call_ (YM I c d boot_range (FV (UA (f pos cA s B H _ I h) λu v k=>?_) i rfl));let(w,x,l,m,b):=k;let(j,e,b,n,q):=b;subst e
 cases m with
 |cons r o =>
  cases o;let(t,rfl):=r;exact call_range_1 (Ff l (by lia) (by lia) b n (↑q))
def Xe(k:Gl X "range")(l:X.mg "range"=eA)(m:PA X [a,b] n)(o:WB [a,b] X.env=[(dA,eval a X.env),(dA,eval b X.env)]:=by rfl)(c:WB [b] X.env=[(dA,eval b X.env)]:=by rfl) :
  PI X tg (.Call (.Name "range" p) [a,b] [] pos) (Xa n):=by
 intro cA s B H R I h;refine Call_ (YM I k l boot_range (FV (UA (m pos cA s B H _ I h) λA C g=>?_) (by rw[o,c]) (by rw[c];rfl)));let(F,J,u,v,d):pB:=g;obtain⟨i,j,e,⟨d,w,x,y⟩,q⟩:=d;subst e
 cases v with
 |cons r f =>
  cases f with
  |cons z f =>
   cases f;let(t,rfl):=r;let(K,rfl):=z;exact call_range_2 (Ff u d w x y q)
def bRa(d:TI)(g:TG)(e:TS):TS:=λD B H=>d B H λJ f=>∃W:Nat->Nat->St->Hp->Prop,(∃m,W 0 m B f)/\∀i m B H,W i m B H ->
 (J.stop i H/\D.nx B H)\/(J.go i H/\∃N:St->Hp->Prop,(∀b a,N b a->∃c,c<m/\W (i+1) c b a)/\∀x a,J.EV i H x a->g x B a λh j=>e { D with nx:=N,ct:=N,bk:=D.nx } h j)
noncomputable def tR(a:List iA)(h:DB):List (iA×kB):=a.filterMap λb=>(h.get? b).map λo=>(b,o)
def MU(a:b∈c)(e:h.get? b=aA o):(b,o)∈tR c h:=u6.mpr #[b,a,by rw[e];rfl]
def rDa(a:p∈tR c h):p.1∈c/\h.get? p.1=aA p.2:=by
 let(b,d,e):rA:=u6.mp a
 cases q:h.get? b with
 |none=>rw[q] at e;cases e
 |some o =>
  rw[q] at e;have f:(b,o)=p:=ED e;subst f;exact#[d,q]
def gA.pinned(I:gA X cA B H s)(r:∀b∈j,kD X cA H b)(ho:∀b∈j,∃o,s.heap.get? b=aA o/\∀v,o.data≠.cell v):gA X (cA++tR j s.heap) B H s :=
 I.Ye λp hp=>(QE.mp hp).elim (λz=>I.pin p (MG _ z)) λz=>by
  let(hb,e):=rDa z;let(u,f1,f2,_):oB:=r p.1 hb
  let(o,m,d):rA:=ho p.1 hb
  rw[e] at m;cases m;exact#[e,u,f1,f2,d]
def gA.AV(I:gA X (cA++pl) B H s):gA X cA B H s:=I.Ye λp hp=>I.pin p (MG _ (aF _ hp))
def rKa(z:IG (~~~X) X.A X.env X.xe)(hc:X.calm=bA)(hi:PI X tg iter wi)(hg:PG X tg g)(a:uC X body tb)
  (hs:∀x,eJ iter X.env x=pure x:=by intro _;rfl):PS X (.For tg iter body [] pos) (bRa wi g tb):=by
 intro cA s B H D I h;refine wpAny_For (UA (hi cA s B H _ I h) λv s1 h1=>UA h1 λbz s2 h2=>?_) hs;obtain⟨it,C,tn,J,H2,e,I2,T,Y,f2,W,⟨m0,w0⟩,F⟩:=h2;subst e
 -- Bi stays bA of tF fVa objects through tF loop
 have c:∀{p:Hp},(∀b∈C,p b=eA)->∀b∈C,kD X cA p b:=λhn b a=>#[hn b a,(f2 b a).2]
 refine codeAny_forLoop_any (λn s'=>∃i K p,gA X cA K p s'/\tn i s'.heap/\(∀b∈C,p b=eA)/\W i n K p) ?_ m0 #[0,B,H2,I2,Y,λb a=>(f2 b a).1,w0]
 rintro n s3 ⟨i,M,U,I3,O,P,w3⟩
 rcases F i n M U w3 with ⟨stop,qn⟩ | ⟨go,N,hN,step⟩
 .refine wN z (UA (T.done X rfl rfl rfl hc i cA s3 M U X.xe I3 (c P) O stop) λr s4 q=>?_);let(Z,I4):=q;subst Z;exact mS #[M,U,I4,qn]
 .refine wN z (UA (T.item X rfl rfl rfl hc i cA s3 M U X.xe I3 (c P) O go) λr s4 q=>?_);let(u,Z,h4):rA:=q;subst Z;refine wN z (UA h4 λ_ s5 q=>?_);let(x,Q):=q;let(H5,I5,r5,y5,y,VT):zD:=Q
  have Yl:=I5.pinned (c VT) (T.obj _ _ y);refine wN z (UA (hg _ s5 M H5 x u _ Yl r5 (step x H5 y5)) λ_ s6 q=>?_);let(B6,H6,I6,q6):=q;refine wN z (UA (a _ s6 B6 H6 _ I6 q6) λf s7 t=>?_)
  have again:∀{j:St} {k:Hp},gA X (cA++tR C s5.heap) j k s7->N j k->∃m,m<n/\∃i K p,gA X cA K p s7/\tn i s7.heap/\(∀b∈C,p b=eA)/\W i m K p:=λ{j k} l R=>by
   let(m',hm,w7):=hN j k R;refine#[m',hm,i+1,j,k,l.AV,T.keep _ _ _ y λb a o e=>(l.pin (b,o) (MG _ (MG _ (MU a e)))).1,λb a=>?_,w7];let(o,e,d):rA:=T.obj _ _ y b a
   exact(l.pin (b,o) (MG _ (MG _ (MU a e)))).2.1
  cases f with
  |next=>let(j,k,l,R):=t;exact again l R
  |cont=>let(j,k,l,R):=t;exact again l R
  |brk=>let(j,k,l,t):=t;exact#[j,k,l.AV,t]
  |ret v=>let(x7,j,k,l,r7,t):=t;exact#[x7,j,k,l.AV,r7,t]
end
abbrev R2:=V->V->Hp->VK->Prop
def GC(X:Cx)(f:jA->jA->Sem jA)(r:R2):Prop :=
 ∀(cA:List (iA×kB)) (s:CA) (B:St) (H:Hp) (x y:V) (v u:jA) (Q:VK),gA X cA B H s->aAe x v->aAe y u->r x y H Q ->
  sA (~~~X) X.A (f v u) (EP X cA B Q) X.xe s
def XW(X:Cx)(f:jA->Sem jA)(r:V->Hp->VK->Prop):Prop :=
 ∀(cA:List (iA×kB)) (s:CA) (B:St) (H:Hp) (x:V) (v:jA) (Q:VK),gA X cA B H s->aAe x v->r x H Q ->
  sA (~~~X) X.A (f v) (EP X cA B Q) X.xe s
def DE(X:Cx)(f:jA)(r:List V->Hp->VK->Prop):Prop :=
 ∀(cA:List (iA×kB)) (s:CA) (B:St) (H:Hp) (a:List V) (b:List jA) (Q:VK),gA X cA B H s->aAc a b->r a H Q ->
  sA (~~~X) X.A (call f b) (EP X cA B Q) X.xe s
def Xn(X:Cx)(r:V->Hp->(Bool->Hp->Prop)->Prop):Prop :=
 ∀(cA:List (iA×kB)) (s:CA) (B:St) (H:Hp) (x:V) (v:jA) (Q:Bool->Hp->Prop),gA X cA B H s->aAe x v->r x H Q ->
  sA (~~~X) X.A (truthy v) (TP X cA B Q) X.xe s
def RR(r:R2)(a b:TE):TE:=λB H Q=>a B H λx c=>b B c λy d=>r x y d Q
def tUn(r:V->Hp->VK->Prop)(a:TE):TE:=λB H Q=>a B H λx b=>r x b Q
def rI(C:Int->Int->Prop)(g:Int->Int->V):R2:=λx y H Q=>∃i j,x=.int i/\y=.int j/\C i j/\Q (g i j) H
def BJ(g:Int->Int->V):R2:=λx y H Q=>∃i j,x=.int i/\y=.int j/\Q (g i j) H
def rU(g:Int->V):V->Hp->VK->Prop:=λx H Q=>∃i,x=.int i/\Q (g i) H
section
variable{pos:GB}
def BX(i:PE X a j)(k:PE X b l){R:V->V->Hp->Prop}(I:gA X cA B H s)
  (h:j B H λx g=>l B g λy c=>R x y c) {f:jA->jA->Sem jA}
  (m:∀v u e x y c,gA X cA B c e->aAe x v->aAe y u->R x y c->sA (~~~X) X.A (f v u) Q X.xe e) :
  sA (~~~X) X.A (eval a X.env) (λv n=>sA (~~~X) X.A (eval b X.env) (λu o=>sA (~~~X) X.A (f v u) Q X.xe o) X.xe n) X.xe s:=by
 refine UA (i cA s B H _ I h) λv p d=>?_
 let(x,g,q,r,t):pB:=d;refine UA (k cA p B g _ q t) λu e d=>?_
 let(y,c,z,C,F):pB:=d;exact m v u e x y c z r C F
def mIa(c:GC X (ZE op) r)(d:PE X a e)(f:PE X b g):PE X (.BinOp a op b pos) (RR r e g):=by
 intro cA s B H Q I h;exact wpAny_BinOp (BX d f I h λv u i x y j k l m q=>c cA i B j x y v u Q k l m q)
def qIa(c:XW X (unaryOp op) r)(d:PE X a e):PE X (.UnaryOp op a pos) (tUn r e):=by
 intro cA s B H Q I h;exact UnaryOp_ (UA (d cA s B H _ I h) λv f b=>(by let(x,g,i,j,k):pB:=b;exact c cA f B g x v Q i j k))
def pR{g:Int->Int->Int}
  (rule:∀(i j:Int) (t u:Tok) (s:CA) (Q:jA->CA->Prop) (E:jA->CA->Prop),C i j->Q (.int (g i j) s.toks) { s with toks:=s.toks+1 }->sA (~~~X) X.A (f (.int i t) (.int j u)) Q E s) :
  GC X f (rI C λi j=>.int (g i j)):=by
 intro cA s B H x y v u Q I a b h;let(i,j,rfl,rfl,c,q):=h;let(t,rfl):=a;let(d,rfl):=b;exact rule i j t d s _ _ c #[.int (g i j),H,I.tok _,#[_,rfl],q]
def W2{g:Int->Int->Int}
  (rule:∀(i j:Int) (t u:Tok) (s:CA) (Q:jA->CA->Prop) (E:jA->CA->Prop),Q (.int (g i j) s.toks) { s with toks:=s.toks+1 }->sA (~~~X) X.A (f (.int i t) (.int j u)) Q E s) :
  GC X f (BJ λi j=>.int (g i j)):=by
 intro cA s B H x y v u Q I a b h;let(i,j,rfl,rfl,q):=h;let(t,rfl):=a;let(c,rfl):=b;exact rule i j t c s _ _ #[.int (g i j),H,I.tok _,#[_,rfl],q]
def ZU{g:Int->Int->Bool}
  (rule:∀(i j:Int) (t u:Tok) (s:CA) (Q:jA->CA->Prop) (E:jA->CA->Prop),Q (.bool (g i j)) s->sA (~~~X) X.A (f (.int i t) (.int j u)) Q E s) :
  GC X f (BJ λi j=>.bl (g i j)):=by
 intro cA s B H x y v u Q I a b h;let(i,j,rfl,rfl,q):=h;let(t,rfl):=a;let(c,rfl):=b;exact rule i j t c s _ _ #[.bl (g i j),H,I,rfl,q]
def L7(i j:Int):Prop:=0<=j/\j<=1000000/\i.natAbs<2 ^ 64
def BW(i j:Int):Prop:=(-(2 ^ 64)<i/\i<2 ^ 64)\/(-(2 ^ 64)<j/\j<2 ^ 64)
def BW.ok(h:BW i j):IntMulOk i j:=by
 rcases h with ⟨h1,h2⟩ | ⟨h1,h2⟩
 .exact .of_left (intBits_le_64 h1 h2)
 .exact .of_right (intBits_le_64 h1 h2)
def pSa(k:Nat):(0:Int)<=2 ^ k:=by
 rw[two_pow_cast];exact Int.natCast_nonneg _
def wFa:GC X (ZE .Add) (BJ λi j=>.int (i+j)):=W2 λ_ _ _ _ _ _ _ q=>add_int q
def nGa:GC X (ZE .Sub) (BJ λi j=>.int (i-j)):=W2 λ_ _ _ _ _ _ _ q=>sub_int q
def iGa:GC X (ZE .Mult) (rI BW λi j=>.int (i*j)):=pR λ_ _ _ _ _ _ _ a q=>mul_int q a.ok
def hGa:GC X (ZE .Mod) (rI (λ_ j=>0<j) λi j=>.int (i % j)):=pR λi j _ _ _ _ _ a q=>by
 have b:(0:Int)<j:=a;exact mod_int' (by lia) (by rw[Int.fmod_eq_emod_of_nonneg i (by lia)];exact q)
def lGa:GC X (ZE .LShift) (rI L7 λi j=>.int (i*2 ^ j.toNat)):=pR λ_ _ _ _ _ _ _ a q=>lshift_int_small a.1 a.2.1 a.2.2 q
def mGa:GC X (ZE .RShift) (rI (λ_ j=>0<=j) λi j=>.int (i / 2 ^ j.toNat)):=pR λi j _ _ _ _ _ a q =>
 rshift_int a (by rw[pj i (pSa _)];exact q)
def xFa:GC X (ZE .BitAnd) (BJ λi j=>.int (jS i j)):=W2 λ_ _ _ _ _ _ _ q=>and_int q
def unI{g:Int->Int}
  (rule:∀(i:Int) (t:Tok) (s:CA) (Q:jA->CA->Prop) (E:jA->CA->Prop),Q (.int (g i) s.toks) { s with toks:=s.toks+1 }->sA (~~~X) X.A (f (.int i t)) Q E s) :
  XW X f (rU λi=>.int (g i)):=by
 intro cA s B H x v Q I a h;let(i,rfl,q):=h;let(t,rfl):=a;exact rule i t s _ _ #[.int (g i),H,I.tok _,#[_,rfl],q]
def tSa:XW X (unaryOp .USub) (rU λi=>.int (-i)):=unI λ_ _ _ _ _ q=>neg_int q
end
section
variable{pos:GB}
def S9(I:gA X cA B H s)(q:Q (.bl k) H)(e:k=a):EP X cA B Q (.bool a) s:=by
 subst e;exact#[.bl k,H,I,rfl,q]
def gGa:GC X (SE .Lt) (BJ λi j=>.bl (decide (i<j))):=ZU λ_ _ _ _ _ _ _ q=>lt_int q
def fGa:GC X (SE .LtE) (BJ λi j=>.bl (decide (i<=j))):=ZU λ_ _ _ _ _ _ _ q=>le_int q
def dGa:GC X (SE .Gt) (BJ λi j=>.bl (decide (j<i))):=ZU λ_ _ _ _ _ _ _ q=>gt_int q
def cGa:GC X (SE .GtE) (BJ λi j=>.bl (decide (j<=i))):=ZU λ_ _ _ _ _ _ _ q=>ge_int q
def eGa:GC X (SE .Is) (λx y H Q=>y=.lA/\Q (.bl (decide (x=.lA))) H):=by
 intro cA s B H x y v u Q I a b h;let(rfl,q):=h;cases b;refine is_none_gen (S9 I q ?_)
 cases x<;>first
  | (cases a;rfl)
  | (let(t,rfl):=a;rfl)
def jGa:GC X (SE .IsNot) (λx y H Q=>y=.lA/\Q (.bl (!decide (x=.lA))) H):=by
 intro cA s B H x y v u Q I a b h;let(rfl,q):=h;cases b;refine isnot_none_gen (S9 I q ?_)
 cases x<;>first
  | (cases a;rfl)
  | (let(t,rfl):=a;rfl)
def bIa(c:GC X (SE op) r)(d:PE X a e)(f:PE X b g)(i:JJ op b=dA):PE X (.Compare a [op] [b] pos) (RR r e g):=by
 intro cA s B H Q I h;exact wpAny_Compare1 (BX d f I h λv u j x y k l m n q=>c cA j B k x y v u Q l m n q) i
def Vh(t:TE):TT:=λB H Q=>t B H λx a=>∃k,x=.bl k/\Q k a
def lLa(d:GC X (SE op) r)(f:PE X a g)(i:PE X b j)(l:JJ op b=dA):PT X (.Compare a [op] [b] pos) (Vh (RR r g j)):=by
 intro cA s B H Q I h
 refine wpAny_isTrue_Compare1 (UA (f cA s B H _ I h) λv m #[x,n,o,p,q]=>UA (i cA m B n _ o q) λu t #[y,w,A,C,F] =>
  UA (d cA t B w x y v u _ A p C F) λc O #[z,J,K,M,k,e,N]=>?_) l
 subst e;cases M;exact QK #[J,K,N]
def T4(r b:R2)(c d e:TE):TE:=λB H Q=>c B H λx f=>d B f λy g=>r x y g λz a=>∃k,z=.bl k /\
 (if k=bA then e B a λh i=>b y h i Q else Q (.bl dA) a)
def aIa(o:GC X (SE op) r)(g:GC X (SE f) p)(q:PE X a t)(w:PE X b A)(C:PE X c F)
  (J:lastMarks [op,f] [b,c]=dA:=by with_unfolding_all rfl):PE X (.Compare a [op,f] [b,c] pos) (T4 r p t A F):=by
 intro cA s B H Q I h
 refine Compare_chain (UA (q cA s B H _ I h) λv K #[x,M,N,O,P]=>chain_link (UA (w cA K B M _ N P) λu R #[y,U,Y,i,Z] =>
  UA (o cA R B U x y v u _ Y O i Z) λd s3 #[z,j,l,r3,k,e,m]=>?_)) J
 subst e;cases r3;refine QK ?_
 cases k with
 |false=>exact ite_ff #[.bl dA,j,l,rfl,m]
 |true=>exact ite_tt (chain_last (UA (C cA s3 B j _ l m) λw' s4 n=>(by let(z',H4,I4,r4,q4):pB:=n;exact g cA s4 B H4 y z' u w' Q I4 i r4 q4)))
def kLa(p:GC X (SE op) r)(i:GC X (SE f) q)(t:PE X a w)(A:PE X b C)(F:PE X c J)
  (M:lastMarks [op,f] [b,c]=dA:=by with_unfolding_all rfl):PT X (.Compare a [op,f] [b,c] pos) (Vh (T4 r q w C J)):=by
 intro cA s B H Q I h
 refine isTrue_chain (UA (t cA s B H _ I h) λv K #[x,N,O,P,R]=>test_link (UA (A cA K B N _ O R) λu U #[y,Y,Z,l,q2] =>
  UA (p cA U B Y x y v u _ Z P l q2) λd s3 #[z,m,n,r3,k,e,j]=>?_)) M
 subst e;cases r3;refine QK ?_
 cases k with
 |false =>
  let(k',e',q'):rA:=j;cases e';exact ite_ff #[m,n,q']
 |true =>
  refine ite_tt (test_last (UA (F cA s3 B m _ n j) λw' s4 #[z',H4,I4,r4,q4]=>UA (i cA s4 B H4 y z' u w' _ I4 l r4 q4) λd' s5 o=>?_));let(z2,H5,I5,g):FA:=o;let(r5,k2,e2,q5):yD:=g
  subst e2;cases r5;exact QK #[H5,I5,q5]
def YS(K:kA)(x:V)(H:Hp)(k:Bool):Prop :=
 match x with
 |.lA=>k=dA
 |.bl b=>k=b
 |.int i=>k=(i != 0)
 |.str y=>y.length<=sizeLine/\k=((y.length:Int) != 0)
 |.ref p=>(∃a,EB K H p a/\k=!a.isEmpty)\/(∃a,LC K H p a/\k=!a.isEmpty)\/∃c,H p=aA (.dK c)/\k=!c.isEmpty
 |_=>False
def My(r:KV a b):(!b.isEmpty)=!a.isEmpty:=by
 cases r<;>rfl
def lb(r:aAc b a):(!a.toArray.isEmpty)=!b.isEmpty:=by
 cases r<;>simp
def aN:(sizeLine:Nat)<2 ^ 63:=by rw[kM];decide
def ai:Xn X (λx H Q=>∃k,YS X.K x H k/\Q k H):=by
 intro cA s B H x v Q I g h;let(k,e,q):rA:=h;have z:=aN;have A:sizeLine=16777216:=kM
 cases x with
 |lA =>
  cases g;have a:k=dA:=e;subst a;exact truthy_none #[H,I,q]
 |bl b =>
  cases g;have a:k=b:=e;subst a;exact QK #[H,I,q]
 |int i =>
  let(t,rfl):=g;have a:k=(i != 0):=e;subst a;exact PySem.P.truthy_int #[H,I,q]
 |str y =>
  let(t,rfl):=g;obtain⟨C,a⟩:y.length<=sizeLine/\k=((y.length:Int) != 0):=e;subst a;exact PySem.P.truthy_str (by lia) #[H,I.tok _,q]
 |ref p =>
  cases g;have a:(∃f,EB X.K H p f/\k=!f.isEmpty)\/(∃f,LC X.K H p f/\k=!f.isEmpty)\/∃c,H p=aA (.dK c)/\k=!c.isEmpty:=e
  rcases a with ⟨f,j,a⟩ | ⟨f,j,a⟩ | ⟨c,j,a⟩
  .subst a;let(n,r,o,u):KA:=I.list j
   have d:=r.length;exact wpAny_truthy_list o.isList (by erw[aD];lia) #[H,I.tok _,by rw[lb r];exact q]
  .subst a;let(n,r,o,u):KA:=I.tuple j
   have d:=r.length;exact truthy_tuple o (by erw[aD];lia) #[H,I.tok _,by rw[lb r];exact q]
  .subst a;obtain⟨u,hS,l,r,m⟩:c.length<=sizeLine/\(p==sysModules)=dA/\∃l,KV c l/\s.heap.DictOf (CO X.prog X.w) p l:=I.LA p _ j
   have d:c.length=l.length:=Kl r;exact wpAny_truthy_dict hS m (by lia) #[H,I.tok _,by rw[My r];exact q]
 |_=>exact(show False from e).elim
def mf(d:PE X a e)(f:∀whole,isTrue a X.env whole=(do let v <- whole;standAt a.pos;holding [v] (truthy v))) :
  PT X a (λB H Q=>e B H λx b=>∃k,YS X.K x b k/\Q k b):=by
 intro cA s B H Q I h;exact isTrue_plain (UA (d cA s B H _ I h) λv g c=>(by let(x,i,j,l,m):pB:=c;exact ai cA g B i x v Q j l m)) (f _)
def aAv(r:aAc [x] a):∃u,a=[u]/\aAe x u:=by
 cases r with
 |cons b c=>cases c;exact#[_,rfl,b]
def aAH(r:aAc [x,y] b):∃u a,b=[u,a]/\aAe x u/\aAe y a:=by
 cases r with
 |cons c d =>
  cases d with
  |cons e f=>cases f;exact#[_,_,rfl,c,e]
def Mq:DE X (.builtin "abs") (λa H Q=>∃i,a=[.int i]/\Q (.int (if i<0 then -i else i)) H):=by
 intro cA s B H a b Q I r h;let(i,rfl,q):=h;let(u,rfl,t,rfl):=aAv r;exact call_abs_int λu c=>#[.int (if i<0 then -i else i),H,I.tok _,#[_,rfl],q]
def Vq(c:X.calm=bA):DE X (.builtin "max") (λb H Q=>∃i j,b=[.int i,.int j]/\Q (.int (if j > i then j else i)) H):=by
 intro cA s B H b d Q I r h;let(i,j,rfl,q):=h;obtain⟨u,e,rfl,⟨t,rfl⟩,⟨f,rfl⟩⟩:=aAH r;refine max_two_ints (I.ok.hd c) λg l k=>#[_,H,I.kept k, ?_,q]
 by_cases a:j > i
 .rw[RA a,RA a];exact#[_,rfl]
 .rw[if_neg a,if_neg a];exact#[_,rfl]
def Q8:DE X (.type "int") (λa H Q=>(∃i,a=[.int i]/\Q (.int i) H)\/∃k,a=[.bl k]/\Q (.int (if k then 1 else 0)) H):=by
 intro cA s B H a c Q I r h;rcases h with ⟨i,rfl,q⟩ | ⟨k,rfl,q⟩
 .let(u,rfl,t,rfl):=aAv r;exact call_int_int #[.int i,H,I,#[_,rfl],q]
 .let(u,rfl,b):=aAv r;cases b;exact call_int_bool #[.int (if k then 1 else 0),H,I.tok _,#[_,rfl],q]
end
structure tM(h:DB)(x dx C:iA)(mA:fA->Option jA):Prop where
 obj:h.get? x=aA (aM C dx)
 ns:h.Ns1 dx mA
 ne:dx≠x
set_option tactic.hygienic true in
def lAa{h:DB}(n:h.Ns1 f g):∃od,h.get? f=aA od/\∀name,hW name od=aA (g name):=by
 let(o,d,b):gD:=n;let(m,i,hd,hk,_,j):zD:=b
 refine#[o,i,λname=>?_];have e:=j name;unfold nsFind findBy at e;rw[<- Array.find?_toList] at e;unfold hW;rw[hd];dsimp only;split
 .rename_i y q;rw[q] at e;exact congrArg aA e
 .rename_i q;rw[q] at e
  have a:d.toList.any (·.refKey)=dA:=by
   rw[List.any_eq_false];intro y k;let(z,t,c):gD:=hk y (Array.mem_toList_iff.mp k)
   simp[DictEntry.refKey,c]
  have l:¬d.toList.any (·.refKey)=bA:=by rw[a];exact OE
  rw[if_neg l];exact congrArg aA e
def tM.look(I:tM h x j C m):∃od,PySem.W.InstAt h x (aM C j) C (aA od)/\∀name,hW name od=aA (m name) :=
 let #[od,ho,hl]:=lAa I.ns
 #[od,#[I.obj,rfl,rfl,ho],hl]
section
variable{K:kA}
def aAV(X:K.In s.heap)(I:tM s.heap x g C b)(c:oP K C name=bA)(hh:iS K C=bA)
  (d:wF K (.ref C) name=aA eA) (e:b name=aA v) (a:Rk v=bA) (h:Q v { s with toks:=s.toks+1 }) :
  sA (model prog w) A (getAttr (.ref x) name expr) Q E s:=by
 let(od,J,f):rA:=I.look
 exact PySem.W.get_value X J (n6 c).1 (PySem.W.findObj_own hh d rfl (by rw[f,e])) a h
def xw(X:K.In s.heap)(I:tM s.heap x i C b)(a:oP K C name=bA)
  (c:wF K (.ref C) name=aA (aA (.ref f))) (d:zS K (.ref f)=bA) (e:b name=eA) (h:Q (.ref f,[.ref x]) s) :
  sA (model prog w) A (getMethod (.ref x) name j) Q E s:=by
 let(od,J,g):rA:=I.look
 exact PySem.W.method_fn X J (n6 a).1 (n6 a).2 c (HG.mp d) (by show(hW name od).map (·.isSome)=aA dA;rw[g,e];rfl) h
def rOa(X:K.In s.heap)(I:tM s.heap x f C m)
  (n:wF K (.ref C) "__setattr__"=aA (aA (.builtin "object.__setattr__"))) (o:E6 K C=bA) (p:Q6 K C name=aA eA) (hh:iS K C=bA)
  (q:n7 m ns) (t:ns.length<=sizeLine)
  (h:∀g,tM g x f C (λy=>if y=name then aA v else m y)->yH f s.heap g->Q () { s with heap:=g,toks:=s.toks+2 }) :
  sA (model prog w) A (setAttr (.ref x) name v) Q E s:=by
 let(od,J,H):rA:=I.look
 refine PySem.W.set_plain X J n (PySem.W.osa_open (s:={ s with toks:=s.toks+1 }) (r:=eA) X J o p λb=>?_);let(M,u,i):rA:=PySem.W.any_some hh
 have z:s.heap.get? x=aA #[.ref C,aA f,.plain,[].toArray]:=I.obj;refine tA (ZA (tA (tA (wpAny_loadPart z (tA (PySem.W.Looks.here (s:={ s with toks:=s.toks+1 }) (PySem.W.looks_clsIn X u) ?_))))));rw[i];refine ZA (a:=aA f) (tA (ZA (tA ?_)));refine wpAny_nsSet1 (s:={ s with toks:=s.toks+1 }) I.ns λg c d=>?_
 let(N,e):=c.count (PySem.Within.cons name v q);let(B,F,j,k,l):pB:=e
 refine tA (wpAny_lookBehind j (by rw[k];exact pastItsLine_dict (dD l (by rw[KC];lia))) ?_);exact ZA (h _ #[(d.2 _ (rD I.ne)).trans I.obj,c,I.ne] d)
def vAa(X:K.In s.heap)(c:eW K C=bA)
  (e:wF K (.ref C) "__init__"=aA (aA (.ref f))) (i:PySem.W.typeIn K (.ref f)=aA (.type "function"))
  (h:mI (model prog w) (A.under (.builtin "type.__call__" #[.ref C::a,b])) (.call (.ref f) #[.ref (s⁻¹+1)::a,b]) (PySem.W.InitBack (s⁻¹+1) R)
   { s with heap:=(s.heap.push RK).push (aM C s⁻¹) }) :
  mI (model prog w) A (.call (.ref C) #[a,b]) R s:=by
 let(hh,g,d,t,os):=s;exact PySem.W.make_core (PySem.W.makes_of X c) (iW X e) (λself=>PySem.W.bind_fn X self i) (.inl rfl) h
end
noncomputable def pF(f:fA)(v:V):List (fA×V)->List (fA×V)
 |[]=>[(f,v)]
 | (g,x)::r=>if g=f then(g,v)::r else(g,x)::pF f v r
theorem sd(f g:fA)(v:V):∀fs:List (fA×V),(pF f v fs).lookup g=if g=f then aA v else fs.lookup g
 |[]=>by
  show MJ g [(f,v)]=_;by_cases h:g=f
  .have a:(g==f)=bA:=HG.mpr h;erw[MJ,a,RA h]
  .have a:(g==f)=dA:=lM.mpr h;erw[MJ,a,if_neg h]
 | (k,x)::r=>by
  have b:=sd f g v r;rw[show pF f v ((k,x)::r)=(if k=f then(k,v)::r else(k,x)::pF f v r) from rfl];by_cases hk:k=f
  .rw[RA hk];by_cases h:g=k
   .have a:(g==k)=bA:=HG.mpr h;simp only[MJ,a,RA (h.trans hk)]
   .have a:(g==k)=dA:=lM.mpr h;simp only[MJ,a,if_neg (λe:g=f=>h (e.trans hk.symm))]
  .rw[if_neg hk];by_cases h:g=k
   .have a:(g==k)=bA:=HG.mpr h;simp only[MJ,a,if_neg (λe:g=f=>hk (h.symm.trans e))]
   .have a:(g==k)=dA:=lM.mpr h;erw[MJ,a];exact b
theorem J1(f:fA)(v:V):∀fs:List (fA×V),f∈(pF f v fs).map (·.1)/\∀g,g∈fs.map (·.1)->g∈(pF f v fs).map (·.1)
 |[]=>#[by simp[pF],λg h=>by simp at h]
 | (k,x)::r=>by
  let(a,b):=J1 f v r;rw[show pF f v ((k,x)::r)=(if k=f then(k,v)::r else(k,x)::pF f v r) from rfl];by_cases hk:k=f
  .rw[RA hk];subst hk;exact#[by simp,λg h=>by simpa using h]
  .rw[if_neg hk];refine#[?_,λg h=>?_]
   .rw[vB];exact QD _ a
   .rw[vB] at h ⊢;rcases jD.mp h with e | e
    .exact jD.mpr (.inl e)
    .exact QD _ (b g e)
theorem jd(f:fA)(v:V):∀fs:List (fA×V),(pF f v fs).length<=fs.length+1
 |[]=>by simp[pF]
 | (k,x)::r=>by
  have a:=jd f v r;rw[show pF f v ((k,x)::r)=(if k=f then(k,v)::r else(k,x)::pF f v r) from rfl];by_cases hk:k=f
  .rw[RA hk,KC,KC];lia
  .rw[if_neg hk,KC,KC];lia
def YG.some_of(r:YG (aA v) o):∃u,o=aA u/\aAe v u:=by
 cases o with
 |none=>exact(show False from r).elim
 |some u=>exact#[u,rfl,r]
def YG.none_of(r:YG eA o):o=eA:=by
 cases o with
 |none=>rfl
 |some u=>exact(show False from r).elim
def Kw(r:aAe v u):Rk u=bA:=by
 cases v with
 |lA=>cases (show u=Value.none from r);rfl
 |bl b=>cases (show u=Value.bool b from r);rfl
 |int i=>let(t,e):=(show ∃t,u=Value.int i t from r);cases e;rfl
 |str x=>let(t,e):=(show ∃t,u=Value.str x t from r);cases e;rfl
 |ref a=>cases (show u=Value.ref a from r);rfl
 |ty n=>cases (show u=Value.type n from r);rfl
section
variable{fs fs':List (fA×V)}
def RZ(i:FC P w H h)(e:H a=aA (.ins C j fs)):∃b,tM h a j C b/\(∀f,YG (fs.lookup f) (b f))/\n7 b (fs.map (·.1))/\fs.length<=1000/\H j=aA (.own a):=by
 let(d,c):=(show lD P w H h a (.ins C j fs) from i a _ e)
 let(z,ne,k,g):oB:=c;let(b,n,r,q):KA:=g
 exact#[b,#[k,n,ne],r,q,z,d]
end
structure UD(K:kA)(C:iA):Prop where
 pg:oP K C Str.empty=bA
 hd:iS K C=bA
 po:E6 K C=bA
 sa:wF K (.ref C) "__setattr__"=aA (aA (.builtin "object.__setattr__"))
def UD.get{K:kA}(c:UD K C)(f:fA):oP K C f=bA:=c.pg
def UH(K:kA)(C:iA)(f:fA):Prop:=wF K (.ref C) f=aA eA
def UH.xRa{K:kA}(n:UH K C f):Q6 K C f=aA eA:=by
 unfold Q6;rw[show wF K (.ref C) f=aA eA from n];rfl
structure Meth(K:kA)(C:iA)(m:fA)(f:iA):Prop where
 at_:wF K (.ref C) m=aA (aA (.ref f))
 fn:zS K (.ref f)=bA
 kp:nG K (.ref f)=bA
section
variable{E:jA->CA->Prop}
def yw(I:gA X cA B H s)(e:H a=aA (.ins C j fs))(c:UD X.K C)(n:UH X.K C f)(l:fs.lookup f=aA v)
  (h:∀u d,gA X cA B H d->aAe v u->Q u d):sA (~~~X) A (getAttr (.ref a) f b) Q E s:=by
 let(i,O,r,_,_,_):zD:=RZ I.LA e
 let(u,hu,g):rA:=YG.some_of (o:=i f) (by rw[<- l];exact r f)
 exact aAV I.vD O (c.get f) c.hd n hu (Kw g) (h u _ (I.tok _) g)
def pa(I:gA X cA B H s)(e:H a=aA (.ins C f fs))(c:UD X.K C)(k:Meth X.K C m g)(l:fs.lookup m=eA)
  (h:Q (.ref g,[.ref a]) s):sA (~~~X) A (getMethod (.ref a) m i) Q E s:=by
 let(b,O,r,_,_,_):zD:=RZ I.LA e
 have d:b m=eA:=YG.none_of (by rw[<- l];exact r m);exact xw I.vD O (c.get m) k.at_ k.fn d h
def sOa(I:gA X cA B H s)(e:H a=aA (.ins C d fs))(c:UD X.K C)(n:UH X.K C f)(P:fs.length<1000)(p:aAe y u)
  (h:∀j,gA X cA B (GA H a (.ins C d (pF f y fs))) j->Q () j):sA (~~~X) A (setAttr (.ref a) f u) Q E s:=by
 let(k,O,r,l,_,m):zD:=RZ I.LA e
 have t:(fs.map (·.1)).length<=sizeLine:=by rw[pA,kM];lia
 refine rOa I.vD O c.sa c.po n.xRa c.hd l t λv i F=>h _ ?_
 have hd:∃o,v.get? d=aA o:=let #[o,_,_,J,_]:=i.ns;#[o,J]
 refine I.write (x:=a) (e:=d) (by rw[e];exact True.intro) (.inr m) (λb q M z=>(F.2 b M).trans z) hd ?_;refine#[by rw[jB O.ne];exact m, ?_,O.ne,i.obj,_,i.ns,λg=>?_,λg N=>?_]
 .have:=jd f y fs;lia
 .show YG ((pF f y fs).lookup g) (if g=f then aA u else k g);rw[sd];by_cases q:g=f
  .rw[RA q,RA q];exact p
  .rw[if_neg q,if_neg q];exact r g
 .by_cases q:g=f
  .rw[q];exact(J1 f y fs).1
  .refine(J1 f y fs).2 g (l g λz=>N ?_);show(if g=f then aA u else k g)=eA;rw[if_neg q];exact z
def gA.made(I:gA X cA B H s):gA X cA B (GA (GA H s⁻¹ (.own (s⁻¹+1))) (s⁻¹+1) (.ins C s⁻¹ []))
  { s with heap:=(s.heap.push RK).push (aM C s⁻¹) }:=by
 have j:(s.heap.push RK).get? s⁻¹=aA RK:=MD s.heap rfl
 have m:((s.heap.push RK).push (aM C s⁻¹)).get? (s⁻¹+1)=aA (aM C s⁻¹):=by
  have:=MD (s.heap.push RK) (o:=aM C s⁻¹) rfl
  rwa[jW] at this
 have r:(s.heap.push RK).Ns s⁻¹ (λ_=>eA):=#[RK,[].toArray,_,j,rfl,(λe x=>absurd x (by simp)),λ_=>rfl]
 have F:=I.laid (a:=s⁻¹) (o:=.own (s⁻¹+1)) (h':=s.heap.push RK) (t':=s.toks) (λb u q=>aC _ q) (uB _) #[_,j];refine F.laid (a:=s⁻¹+1) (o:=.ins C s⁻¹ []) (t':=s.toks) (λb u q=>aC _ q) (AS (jW _ _)) ?_;have ne:s⁻¹≠s⁻¹+1:=AD (NG _);refine#[by rw[jB ne,jC],lI _,ne,m,λ_=>eA,(Heap.Ns1.of_empty r).at λo q=>aC _ q,λ_=>True.intro,λy J=>absurd rfl J]
def Oo(a:attributeBase e f env (eval e env)=eval e env)
  (h:sA (model prog w) A (eval e env) (λo b=>sA (model prog w) A (getAttr o f bA) Q E b) E s):sA (model prog w) A (eval (.Attribute e f pos) env) Q E s :=
 Attribute_any_ h (by rw[arm_eval_Attribute,a])
end
def aRa(K:kA)(c:TE)(f:fA):TE:=λB H Q=>c B H λx b=>∃a C d fs v,x=.ref a/\b a=aA (.ins C d fs)/\UD K C/\UH K C f/\fs.lookup f=aA v/\Q v b
def rNa(K:kA)(d e:TE)(f:fA):TS:=λD B H=>e B H λy g=>d B g λx b=>∃a C c fs,x=.ref a/\b a=aA (.ins C c fs)/\UD K C/\UH K C f/\fs.length<1000 /\
 D.nx B (GA b a (.ins C c (pF f y fs)))
section
variable{ta tv:TE}
def fIa(j:PE X e ta)(k:attributeBase e f X.env (eval e X.env)=eval e X.env):PE X (.Attribute e f pos) (aRa X.K ta f):=by
 intro cA s B H Q I h;refine Oo k (UA (j cA s B H _ I h) λu y i=>?_);let(x,m,o,p,g):pB:=i;let(a,b):=g;let(C,z,fs,v,ex,r,d):VA:=b;let(c,n,l,q):oB:=d
 subst ex;obtain rfl:u=Value.ref a:=p;exact yw o r c n l λA F t w=>#[v,m,t,w,q]
def qKa(i:PE X o ta)(j:PE X value tv)(k:swapsWith value (aA (.Attribute o f b)) pos.line X.env=pure dA):PS X (.Assign [.Attribute o f b] value pos) (rNa X.K ta tv f):=by
 intro cA s B H D I h;refine plainObj_wpAny_Assign_Attribute (UA (j cA s B H _ I h) λu m #[y,p,r,t,q]=>UA (i cA m B p _ r q) λv M g=>?_) k;let(x,N,w,z,d):pB:=g;let(a,C,O,fs,ex,A,e):VA:=d;let(c,n,l,F):oB:=e
 subst ex;obtain rfl:v=Value.ref a:=z;exact sOa w A c n l t λP J=>#[B,_,J,F]
end
structure YB(k:Nat)(A:KG):Prop where
 hd:A.handled=eA
 dp:A.depth+3*k+5<recursionLimit
 un:A.units+16*k+200<cLine
 gs:A.guards=aA []
def YB.mono(r:YB k A)(h:j<=k):YB j A:=#[r.hd,by have:=r.dp;lia,by have:=r.un;lia,by first | exact r.gs | simpa[b7,yP,z7,rW,pushGuards,guardIds] using r.gs]
theorem YB.deeper(r:YB (k+1) A)(env:Env):YB k (A.deeper env) :=
 #[r.hd,by have:=r.dp;show A.depth+1+3*k+5<_;lia,by have:=r.un;show A.units+3+16*k+200<_;lia,by first | exact r.gs | simpa[b7,yP,z7,rW,pushGuards,guardIds] using r.gs]
def uAa{A:KG}:(A.under (.builtin "type.__call__" #[.ref C::a,b])).depth=A.depth+1:=by
 first | rfl | simp[yP,Code.weight,Code.isCreation,rW,Code.isCaller,Code.frames,o7,guardIds]
def wAa{A:KG}:(A.under (.builtin "type.__call__" #[.ref C::a,b])).units=A.units+1:=by
 first | rfl | simp[yP,Code.cUnits,Code.frames,o7]
def YB.make(r:YB (k+1) A)(C:iA)(j:List jA)(m:List (fA×jA)):YB k (A.under (.builtin "type.__call__" #[.ref C::j,m])) :=
 #[r.hd,by have:=r.dp;rw[uAa];lia,by have:=r.un;rw[wAa];lia,by first | exact r.gs | simpa[b7,yP,z7,rW,pushGuards,guardIds] using r.gs]
theorem YB.depth(r:YB k A):A.depth<recursionLimit:=by have:=r.dp;lia
theorem YB.units(r:YB k A):A.units+64<cLine:=by have:=r.un;lia
def IK:TA:=λ_ H Q=>Q [] H
def LI(a:TE)(b:TA):TA:=λB H Q=>a B H λx c=>b B c λd e=>Q (x::d) e
section
variable{pos:GB}
def zJ:PA X [] IK:=λ_ _ _ _ H Q I h=>Calls.spliced_nil #[[],H,I,.nil,h]
def nH(c:PE X e d)(f:PA X b t)(g:WB (e::b) X.env=(dA,eval e X.env)::WB b X.env:=by rfl):PA X (e::b) (LI d t):=by
 intro pos cA s B H Q I h;rw[g];show sA _ _ (spliced ((dA,eval e X.env)::BE pos (WB b X.env))) _ _ s;refine Calls.spliced_cons (UA (c cA s B H _ I h) λu i a=>?_);let(x,j,k,l,m):pB:=a;exact UA (f pos cA i B j _ k m) λv w a=>(by let(n,o,p,q,r):pB:=a;exact#[x::n,o,p,.cons l q,r])
def Wh(t:TA):TE:=λB H Q=>t B H λa b=>a.length<=sizeLine/\∀p,b p=eA->Q (.ref p) (GA b p (.t a))
def eRa(t:TA):TE:=λB H Q=>t B H λa b=>a.length<=sizeLine/\∀p,b p=eA->Q (.ref p) (GA b p (.l a))
def Me{f}(h:PA X g t):PE X (.Tuple g f pos) (Wh t):=by
 intro cA s B H Q I i;refine wpAny_Tuple_spliced (UA (h pos cA s B H _ I i) λj a #[k,c,d,r,z,q]=>#[by rw[<- r.length];exact z, ?_]);have l:c a⁻¹=eA:=d.LA.fresh (uB _);refine#[.ref a⁻¹,GA c a⁻¹ (.t k),d.laid (t':=a.toks) (λb u e=>aC _ e) (uB _) ?_,rfl,q _ l];exact#[z,j,r,#[_,MD _ rfl,rfl,_,rfl]]
def hIa(h:PA X f t):PE X (.List f pos) (eRa t):=by
 intro cA s B H Q I g;refine wpAny_List_spliced (UA (h pos cA s B H _ I g) λi a #[j,c,d,r,z,q]=>#[by rw[<- r.length];exact z, ?_]);have k:c a⁻¹=eA:=d.LA.fresh (uB _);refine#[.ref a⁻¹,GA c a⁻¹ (.l j),d.laid (t':=a.toks) (λb u e=>aC _ e) (uB _) ?_,rfl,q _ k];exact#[z,i,0,r,MD _ rfl]
end
abbrev Sp:=List V->Hp->VK->XK->Prop
abbrev mM:=List Env->Hp->CA->XK->jA->CA->Prop
structure gJ(P:KD)(w:cD)(K:kA)(mg:fA->Option jA)(base:DB)(A:KG)(outer:List Env)(s:CA)(H:Hp):Prop where
 frames:A.frames=aA outer
 mod:Mod K mg base
 bs:∀b o,base.get? b=aA o->s.heap.get? b=aA o/\H b=eA
 cH:base.objs.size<=s⁻¹
 kF:s.heap.FunFrames base outer
 aI:∀b∈BD outer,H b=eA
 LA:FC P w H s.heap
 bare:OJ s.gens
def CE(outer:List Env)(P:KD)(w:cD)(H:Hp)(s:CA)(Q:VK)(u:jA)(a:CA):Prop :=
 ∃v b,a.os=s.os/\OJ a.gens/\Un (BD outer) [] H b s.heap a.heap/\FC P w b a.heap/\aAe v u/\Q v b
def CR(b:mM)(outer:List Env)(P:KD)(w:cD)(H:Hp)(s:CA)(Q:VK)(E:XK)(r:Result)(a:CA):Prop :=
 match r with
 |.ok (.ret u)=>CE outer P w H s Q u a
 |.ok _=>False
 |.error e=>b outer H s E e a
structure qE(P:KD)(w:cD)(K:kA)(mg:fA->Option jA)(base:DB)(CX:mM)(k:Nat)(f:iA)(fd:JG)(ps:List fA)(sp:Sp):Prop where
 len:∀vs H Q E,sp vs H Q E->vs.length=ps.length
 run:∀(A:KG) (outer:List Env) (s:CA) (H:Hp) (args:Args) (us:List jA) (vs:List V) (Q:VK) (E:XK),YB k A->gJ P w K mg base A outer s H->LS s fd args (ps.zip us)->aAc vs us->sp vs H Q E ->
  mI (model P w) A (.call (.ref f) args) (CR CX outer P w H s Q E) s
def gJ.make{K:kA}(e:gJ P w K mg base A outer s H)(C:iA)(j:List jA)(m:List (fA×jA)) :
  gJ P w K mg base (A.under (.builtin "type.__call__" #[.ref C::j,m])) outer s H:=#[by first | exact e.frames | (simpa[yP,Code.envs,o7,pushEnvs] using e.frames),e.mod,e.bs,e.cH,e.kF,e.aI,e.LA,e.bare]
section
variable{X:Cx}{cA:List (iA×kB)}{B:St}{H:Hp}{s s':CA}
def gA.TF(I:gA X cA B H s):gJ X.prog X.w X.K X.mg X.base X.A X.stack s H :=
 #[I.ok.frames,I.ok.mod,I.bs,dD I.ok.cH I.sz,I.stack,I.LR,I.LA,I.bare]
def gA.after(I:gA X cA B H s)(h:CE X.stack X.prog X.w H s Q u s'):EP X cA B Q u s':=by
 let(v,x,os,bare,j):pB:=h;let(un,LA,r,q):oB:=j
 let(hh,g,d,t,m):=s';obtain rfl:m=s.os:=os;exact#[v,x,I.call (h':=hh) (g':=g) (d':=d) (t':=t) (ch:=[]) un LA bare (λb z=>absurd z (by simp)),r,q]
end
def vQa(b:Sp)(a:List V)(E:XK)(t:TA):TE:=λB H Q=>t B H λc d=>b (c++a) d Q E
def X4(C:iA)(m:fA)(d:Sp)(b:List V)(E:XK)(e:TE)(t:TA):TE:=λB H Q=>e B H λx c=>∃a f fs,x=.ref a/\c a=aA (.ins C f fs)/\fs.lookup m=eA /\
 t B c λg h=>d (x::(g++b)) h Q E
def fRa(C:iA)(d:Sp)(b:List V)(E:XK)(t:TA):TE:=λB H Q=>t B H λe c=>∀x a,c x=eA->c a=eA->a≠x ->
 d (.ref x::(e++b)) (GA (GA c a (.own x)) x (.ins C a [])) (λv f=>v=.lA/\Q (.ref x) f) E
def aAt(K:kA)(d:JG)(b:List fA)(c:List jA):Prop :=
 ∀(s:CA) (a:List jA),K.In s.heap->(a++c).length=b.length->LS s d #[a,[]] (b.zip (a++c))
def aAt.all{K:kA}(h:∀j:List jA,j.length=m.length->bindArgs r #[j,[]]=pure (m.zip j)):aAt K r m []:=λs j _ hl=>by
 rw[RD] at hl ⊢;exact .of_eq (h j hl)
def aAC(b:mM)(X:Cx)(E:XK):Prop:=∀(cA:List (iA×kB)) (B:St) (H:Hp) (s:CA) (e:jA) (a:CA),gA X cA B H s->b X.stack H s E e a->X.xe e a
section
variable{X:Cx}{CX:mM}{k:Nat}{f C:iA}{fd:JG}{ps:List fA}{sp:Sp}{tG:List V}{ds:List jA}{E:XK}{x m:fA}{p pos mB:GB}{e o:xA}{es:List xA}{ta:TE}{t:TA}
def Z3(F:qE X.prog X.w X.K X.mg X.base CX k f fd ps sp)(c:YB k X.A)(d:aAt X.K fd ps ds)(hd:aAc tG ds)(g:aAC CX X E)
  (I:gA X cA B H s) (r:aAc vs us) (h:sp (vs++tG) H Q E):sA (~~~X) X.A (call (.ref f) us) (EP X cA B Q) X.xe s:=by
 have b:aAc (vs++tG) (us++ds):=r.append hd;have i:(us++ds).length=ps.length:=by rw[<- b.length];exact F.len _ _ _ _ h
 refine CP (iM (F.run X.A X.stack s H #[us,[]] (us++ds) (vs++tG) Q E c I.TF (d s us I.vD i) b h) λr j a=>?_)
 cases r with
 |error e=>exact g cA B H s e j I a
 |ok l =>
  cases l with
  |ret u=>exact I.after a
  |next=>exact lE a
  |brk=>exact lE a
  |cont=>exact lE a
def zHa(F:qE X.prog X.w X.K X.mg X.base CX k f fd ps sp)(d:YB k X.A)(g:Gl X x)(i:X.mg x=aA (.ref f))(hk:nG X.K (.ref f)=bA)(j:aAt X.K fd ps ds)(hd:aAc tG ds)(l:aAC CX X E)
  (n:PA X (e::es) t) (a:(x==("__debug__":fA))=dA:=by decide) (u:WB (e::es) X.env=(dA,eval e X.env)::WB es X.env:=by rfl) (b:(BE pos (WB es X.env)).any (·.1)=dA:=by rfl) :
  PE X (.Call (.Name x p) (e::es) [] pos) (vQa sp tG E t):=by
 intro cA s B H Q I h;refine WL (ZM I g i ?_ a);refine aS (h₀:=X.base) I.ok.mod.kin hk (UA (n pos cA s B H _ I h) λv y #[z,J,c,r,q]=>#[c.vD, ?_]) u b;exact Z3 F d j hd l c r q
def jIa(J:PE X o ta)(c:UD X.K C)(j:Meth X.K C m f)(F:qE X.prog X.w X.K X.mg X.base CX k f fd ps sp)(M:YB k X.A)(N:aAt X.K fd ps ds)(hd:aAc tG ds)(O:aAC CX X E)(P:PA X (e::es) t)
  (d:WB (e::es) X.env=(dA,eval e X.env)::WB es X.env:=by rfl) (g:(BE pos (WB es X.env)).any (·.1)=dA:=by rfl)
  (R:eval (.Call (.Attribute o m mB) (e::es) [] pos) X.env=(do
   let n <- eval o X.env
   standAt mB.atName
   let (f,first) <- holding [n] (getMethod n m pl)
   callWith pos f first (BE pos (WB (e::es) X.env)) (backToKw pos (keywordEach [] X.env))):=by rfl) :
  PE X (.Call (.Attribute o m mB) (e::es) [] pos) (X4 C m sp tG E ta t):=by
 intro cA s B H Q I h;refine Gj (UA (J cA s B H _ I h) λu U v=>?_) R;let(x,Y,y,Z,i):pB:=v;let(a,b):=i;let(dx,fs,ex,ea,l,q):fC:=b
 subst ex;obtain rfl:u=Value.ref a:=Z;refine pa y ea c j l ?_;refine aS (first:=[.ref a]) (h₀:=X.base) I.ok.mod.kin j.kp (UA (P pos cA U B Y _ y q) λus s2 #[vs,H2,z,r,q2]=>#[z.vD, ?_]) d g;exact Z3 (us:=.ref a::us) (vs:=.ref a::vs) F M N hd O z (.cons rfl r) q2
def kIa(r:PE X o ta)(c:UD X.K C)(i:Meth X.K C m f)(F:qE X.prog X.w X.K X.mg X.base CX k f fd ps sp)(v:YB k X.A)(y:aAt X.K fd ps ds)(hd:aAc tG ds)(z:aAC CX X E)
  (J:eval (.Call (.Attribute o m mB) [] [] pos) X.env=(do
   let j <- eval o X.env
   standAt mB.atName
   let (f,first) <- holding [j] (getMethod j m O)
   callWith pos f first (BE pos (WB [] X.env)) (backToKw pos (keywordEach [] X.env))):=by rfl) :
  PE X (.Call (.Attribute o m mB) [] [] pos) (X4 C m sp tG E ta IK):=by
 intro cA s B H Q I h;refine Gj (UA (r cA s B H _ I h) λu P n=>?_) J;let(x,R,d,M,g):pB:=n;let(a,b):=g;let(U,fs,ex,N,l,q):fC:=b
 subst ex;obtain rfl:u=Value.ref a:=M;refine pa d N c i l ?_;exact PySem.W.callWith_K0 (first:=[.ref a]) d.vD i.kp (Z3 (us:=[.ref a]) (vs:=[.ref a]) F v y hd z d (.cons rfl .nil) q)
structure Mk(K:kA)(C f:iA):Prop where
 makes:eW K C=bA
 init:wF K (.ref C) "__init__"=aA (aA (.ref f))
 fn:zS K (.ref f)=bA
 kp:nG K (.ref C)=bA
def mNa(M:Mk X.K C f)(F:qE X.prog X.w X.K X.mg X.base CX k f fd ps sp)(l:YB (k+1) X.A)(n:aAt X.K fd ps ds)(hd:aAc tG ds)
  (q:aAC CX X E) (I:gA X cA B H s) (r:aAc g b)
  (h:∀x c,H x=eA->H c=eA->c≠x->sp (.ref x::(g++tG)) (GA (GA H c (.own x)) x (.ins C c [])) (λv y=>v=.lA/\Q (.ref x) y) E) :
  sA (~~~X) X.A (call (.ref C) b) (EP X cA B Q) X.xe s:=by
 have i:=h (s⁻¹+1) s⁻¹ (I.LA.fresh (HS _)) (I.LA.fresh (uB _)) (AD (NG _));have d:=gA.made (C:=C) I;have j:aAc (V.ref (s⁻¹+1)::(g++tG)) (Value.ref (s⁻¹+1)::(b++ds)):=.cons rfl (r.append hd)
 have z:(Value.ref (s⁻¹+1)::b++ds).length=ps.length:=by(have e:=j.length;rw[F.len _ _ _ _ i] at e;exact e.symm)
 refine CP (vAa I.vD M.makes M.init (HG.mp M.fn) (iM (F.run _ X.stack _ _ #[Value.ref (s⁻¹+1)::b,[]] (Value.ref (s⁻¹+1)::(b++ds)) _ _ E (l.make C b [])
  (d.TF.make C b []) (n _ (Value.ref (s⁻¹+1)::b) d.vD z) j i) λr J a=>?_))
 cases r with
 |error e=>exact q cA B _ _ e J d a
 |ok N =>
  cases N with
  |ret u =>
   let(v,O,P,R,ev,U):fC:=d.after a
   subst ev;exact#[R,#[V.ref (s⁻¹+1),O,P,rfl,U]]
  |next=>exact lE a
  |brk=>exact lE a
  |cont=>exact lE a
def iIa(M:Mk X.K C f)(F:qE X.prog X.w X.K X.mg X.base CX k f fd ps sp)(d:YB (k+1) X.A)(g:Gl X x)(i:X.mg x=aA (.ref C))(j:aAt X.K fd ps ds)(hd:aAc tG ds)(l:aAC CX X E)
  (n:PA X (e::es) t) (a:(x==("__debug__":fA))=dA:=by decide) (u:WB (e::es) X.env=(dA,eval e X.env)::WB es X.env:=by rfl) (b:(BE pos (WB es X.env)).any (·.1)=dA:=by rfl) :
  PE X (.Call (.Name x p) (e::es) [] pos) (fRa C sp tG E t):=by
 intro cA s B H Q I h;refine WL (ZM I g i ?_ a);refine aS (h₀:=X.base) I.ok.mod.kin M.kp (UA (n pos cA s B H _ I h) λv y #[z,J,c,r,q]=>#[c.vD, ?_]) u b;exact mNa M F d j hd l c r q
end
def PK(X:Cx)(a:List AW)(t:TA):Prop :=
 ∀(pos:GB) (cA:List (iA×kB)) (s:CA) (B:St) (H:Hp) (Q:List V->Hp->Prop),gA X cA B H s->t B H Q->sA (~~~X) X.A (evalAll ((backToKw pos (keywordEach a X.env)).map (·.2))) (AP X cA B Q) X.xe s
section
variable{nm:Option fA}
def gJa:PK X [] IK:=λ_ _ _ _ H Q I h=>wpAny_evalAll_nil #[[],H,I,.nil,h]
def fJa(c:PE X e d)(f:PK X a t):PK X (#[nm,e,kpos]::a) (LI d t):=by
 intro pos cA s B H Q I h;show sA _ _ (evalAll ((do let v <- eval e X.env;standAt pos;pure v)::(backToKw pos (keywordEach a X.env)).map (·.2))) _ _ s;refine wpAny_evalAll_cons (tA (UA (c cA s B H _ I h) λu g #[x,i,j,k,l]=>tA (lW (ZA ?_))));exact UA (f pos cA g B i _ j l) λr w b=>(by let(m,n,o,p,q):pB:=b;exact#[x::m,n,o,.cons k p,q])
variable{g:List jA->List jA->List jA}{gV:List V->List V->List V}
end
structure sI(N P:List fA)(sc:PD):Prop where
 kind:sc.kind=.function
 co:sc.isCoroutine=dA
 gen:sc.isGenerator=dA
 nd:N.Nodup
 pre:N.take P.length=P
 par:∀x∈P,sc.names.lookup x=aA .local\/sc.names.lookup x=aA .cell
 jDa:∀y∈sc.names,y.2≠.free
theorem x8{kindOf:fA->Option ZI}:∀{binds:List (fA×jA)} {m:fA->Option jA},(∀v,(x,v) ∉ binds)->bindL kindOf binds m x=m x
 |[],_,_=>rfl
 | (n,v)::r,m,h=>by
  unfold bindL;rw[x8 λw a=>h w (QD _ a)];split
  .have:x≠n:=by rintro rfl;exact h v OF
   simp[this]
  .rfl
theorem r8{kindOf:fA->Option ZI}:∀{binds:List (fA×jA)} {m:fA->Option jA},(∀v,(x,v) ∉ binds)->bindC kindOf binds m x=m x
 |[],_,_=>rfl
 | (n,v)::r,m,h=>by
  unfold bindC;rw[r8 λw a=>h w (QD _ a)];split
  .rfl
  .have:x≠n:=by rintro rfl;exact h v OF
   simp[this]
theorem v8{kindOf:fA->Option ZI}:∀{P:List fA} {a:List jA} {i:Nat} {m:fA->Option jA},P.Nodup->P[i]?=aA x->a[i]?=aA v->kindOf x=aA .local ->
  bindL kindOf (P.zip a) m x=aA v
 |[],_,_,_,_,h,_,_=>by simp at h
 |_::_,[],_,_,_,_,h,_=>by simp at h
 |p::P,w::a,0,m,d,b,c,hk=>by
  simp at b c;subst b;subst c;show bindL kindOf ((p,w)::P.zip a) m p=_;unfold bindL;rw[x8 λv e=>(xN.mp d).1 (fW e).1,RA hk];simp
 |p::P,w::a,i+1,m,d,b,c,hk=>by(show bindL kindOf ((p,w)::P.zip a) m x=_;unfold bindL;exact v8 (xN.mp d).2 (↑b) (↑c) hk)
theorem o8{kindOf:fA->Option ZI}:∀{P:List fA} {a:List jA} {i:Nat} {m:fA->Option jA},P.Nodup->P[i]?=aA x->a[i]?=aA v->kindOf x≠aA .local ->
  bindC kindOf (P.zip a) m x=aA v
 |[],_,_,_,_,h,_,_=>by simp at h
 |_::_,[],_,_,_,_,h,_=>by simp at h
 |p::P,w::a,0,m,d,b,c,hk=>by
  simp at b c;subst b;subst c;show bindC kindOf ((p,w)::P.zip a) m p=_;unfold bindC;rw[r8 λv e=>(xN.mp d).1 (fW e).1,if_neg hk];simp
 |p::P,w::a,i+1,m,d,b,c,hk=>by(show bindC kindOf ((p,w)::P.zip a) m x=_;unfold bindC;exact o8 (xN.mp d).2 (↑b) (↑c) hk)
noncomputable def start(N:List fA)(a:List V):St:=a.map aA++qB (N.length-a.length) eA
noncomputable def bD(g:mM)(P:KD)(w:cD)(K:kA)(mg:fA->Option jA)(base:DB)(N:List fA)(b:fA)(a:PD)(f:iA)(d:jA)(A:KG)(outer:List Env)(s:CA)(H:Hp)(E:XK):Cx where
 prog:=P
 w:=w
 K:=K
 mg:=mg
 base:=base
 A:=A.deeper (envOfC b a s⁻¹ f d)
 N:=N
 s₀:=s
 H₀:=H
 env:=envOfC b a s⁻¹ f d
 outer:=outer
 stack:=envOfC b a s⁻¹ f d::outer
 ex:=[]
 calm:=bA
 fn:=λ_=>bA
 pn:=[]
 xe:=λe h=>sA (model P w) (A.deeper (envOfC b a s⁻¹ f d)) (leaving (envOfC b a s⁻¹ f d) e) (λ_ c=>g outer H s E e c) (λi c=>g outer H s E i c) h
def V8{a:PD}(h:a.names.lookup x=aA .cell):∃c,(cellsFrom n a.names []).lookup x=aA c:=by
 have q:=Z5 a.names n [] (.inl h);exact Option.isSome_iff_exists.mp q
def cb{K:kA}
  (S:sI N t d) (hd:A.handled=eA) (l:gJ P w K mg base A outer s H) (Z:B.length=t.length) (r:aAc B O)
  (x:InCallC s s⁻¹ (bindL (envOfC j d s⁻¹ f M).kindOf (t.zip O) λ_=>eA) (cellsFrom (s⁻¹+1) d.names []) (bindC (envOfC j d s⁻¹ f M).kindOf (t.zip O) λ_=>eA) Q) :
  gA (bD R P w K mg base N j d f M A outer s H E) [] (start N B) H Q:=by
 have U:t.length<=N.length:=by have:=congrArg GG S.pre;rw[SJ] at this;lia
 let(I,tk,rfl,hk):=x.done;have m:∀b:iA,b ∉ (bD R P w K mg base N j d f M A outer s H E).ex:=λb z=>absurd (show b∈([]:List iA) from z) (by simp)
 refine#[#[l.mod,S.kind,rfl,rfl,uB _,λy z c I g=>?_,λy o=>?_,λy c _ h=>?_,λ_=>hd,Vj l.frames,.inr #[rfl,rfl],λb z=>absurd z (m b),l.bs,l.cH,λb _ _=>m b,λb z=>absurd z (m b),l.kF,l.aI],
  rfl,l.bare,Un.kept hk,#[_,x.toInCall.ns,λi y v I g h3=>?_],λy c h=>#[_,x.cell y c h],l.LA.fresh (uB _),λy c h=>?_,λp C=>absurd (show p∈([]:List (iA×kB)) from C) (by simp),l.LA.kept hk, ?_]
 .exact name_of_addr x.apart (rN I) (rN g)
 .have o:d.names.lookup y=aA .cell\/d.names.lookup y=aA .free:=o;rcases o with o | o
  .exact V8 o
  .exact absurd rfl (S.jDa _ (rN o))
 .exact qW (x.above y c (rN h))
 .have J:i<B.length:=by
   unfold start at g;by_cases J:i<B.length
   .exact J
   .rw[HP (↑J)] at g;rw[GN] at g;split at g<;>cases g
  have X:B[i]?=aA v:=by
   unfold start at g;rw[FN (↑J),ND] at g
   cases e:B[i]? with
   |none=>rw[e] at g;cases g
   |some a=>rw[e] at g;cases g;rfl
  let(u,hu,Y):rA:=r.get X
  have C:t[i]?=aA y:=by(rw[<- S.pre,List.getElem?_take_of_lt (by lia)];exact I)
  have F:t.Nodup:=by rw[<- S.pre];exact S.nd.sublist (Gk _ _)
  refine#[u,Y, ?_];rcases S.par y (xH C) with k | k
  .exact .inl #[k,v8 F C hu k]
  .let(c,e):=V8 (n:=s⁻¹+1) k;refine .inr #[.inl k,c,e, ?_];have q:=x.cell y c e;rw[o8 F C hu (by show d.names.lookup y≠_;rw[k];decide)] at q;exact q
 .exact l.LA.fresh (qW (x.above y c (rN h)))
 .unfold start;show _=N.length;rw[RC,pA,f6]
  lia
def kZ{K:kA}{Z kV p pm d ct oc:jA}{an od:Option iA}(lk:K.lookup f=aA #[oc,od,.func (PF name c g body a Z kV p pm an d ct),CK])(F:WK K d c=bA)(S:sI N M a)
  (len:∀h H Q E,sp h H Q E->h.length=M.length)
  (l:∀(A:KG) (outer:List Env) (s:CA) (H:Hp) (h:List V) (Q:VK) (E:XK),YB k (A.deeper (envOfC c a s⁻¹ f d))->sp h H Q E ->
   ∃t,uC (bD O P w K mg base N c a f d A outer s H E) body t/\t { nx:=λ_ i=>Q .lA i,rt:=Q } (start N h) H) :
  qE P w K mg base O (k+1) f (PF name c g body a Z kV p pm an d ct) M sp:=by
 refine#[len,λA outer s H args us h Q E R z hb r B=>?_];have hl:=len _ _ _ _ B;have KX:K.In s.heap:=z.mod.kin.keeps λb o e=>(z.bs b o e).1
 have U:s.heap.NoLimit:=z.mod.nolimit.keeps λb o e=>(z.bs b o e).1
 have m:∀y∈M.zip us,a.names.lookup y.1=aA .local\/(a.names.lookup y.1=aA .cell/\((cellsFrom (s⁻¹+1) a.names []).lookup y.1).isSome=bA):=fun#[n,v] hy=>by
  rcases S.par n (fW hy).1 with q | q
  .exact .inl q
  .exact .inr #[q,Z5 _ _ _ (.inl q)]
 refine Hj R.depth (KX _ _ lk) rfl S.co S.gen rfl (wk KX F) (hb _ _ _ _ ?_);refine qj S.kind m λenv he s1 x=>?_
 subst he;refine#[U.keeps x.toInCall.keep,codeAny_func ?_];let(t,ht,hq):rA:=l A outer s H h Q E (R.deeper _) B
 have I:gA (bD O P w K mg base N c a f d A outer s H E) [] (start N h) H s1:=cb S R.hd z hl r x;refine yF (ht [] s1 (start N h) H _ I hq) (λfl X j=>?_) λe X j=>j
 have fin:∀{C:St} {i:Hp} {v:V} {u:jA},gA (bD O P w K mg base N c a f d A outer s H E) [] C i X->aAe v u->Q v i->CE outer P w H s Q u X :=
  λ{C i v u} J Y q=>#[v,i,J.os,J.bare,J.base,J.LA,Y,q]
 cases fl with
 |ret u =>
  let(v,C,i,J,Y,q):=j;exact fin J Y q
 |next =>
  let(C,i,J,q):=j;exact fin (v:=V.lA) (u:=Value.none) J rfl q
 |brk =>
  let(_,_,_,q):FA:=j;exact lE q
 |cont =>
  let(_,_,_,q):FA:=j;exact lE q
section
variable{id T:String}
def S4(r:List V->Hp->VK->Prop)(t:TA):TE:=λB H Q=>t B H λa b=>r a b Q
def rR(f:DE X (.builtin id) r)(g:Gl X x)(i:X.mg x=eA)(j:KJ x=aA (.builtin id))(k:PA X (e::a) t)(l:x≠"__name__":=by decide)(b:(x==("__debug__":fA))=dA:=by decide)
  (m:WB (e::a) X.env=(dA,eval e X.env)::WB a X.env:=by rfl) (c:(BE pos (WB a X.env)).any (·.1)=dA:=by rfl):PE X (.Call (.Name x p) (e::a) [] pos) (S4 r t):=by
 intro cA s B H Q I h;refine WL (YM I g i j ?_ l b);exact PyProof.Rows.callWith_builtin1 (UA (k pos cA s B H _ I h) λn o d=>(by let(q,u,v,w,y):pB:=d;exact f cA o B u q n Q v w y)) m c
def He(f:DE X (.type T) r)(g:Gl X x)(i:X.mg x=eA)(j:KJ x=aA (.type T))(k:PA X (e::a) t)(l:x≠"__name__":=by decide)(b:(x==("__debug__":fA))=dA:=by decide)
  (m:WB (e::a) X.env=(dA,eval e X.env)::WB a X.env:=by rfl) (c:(BE pos (WB a X.env)).any (·.1)=dA:=by rfl):PE X (.Call (.Name x p) (e::a) [] pos) (S4 r t):=by
 intro cA s B H Q I h;refine WL (YM I g i j ?_ l b);exact FV (UA (k pos cA s B H _ I h) λn o d=>(by let(q,u,v,w,y):pB:=d;exact f cA o B u q n Q v w y)) m c
end
end L2
namespace HT
open PySem PyProof.Rows
section
variable{s:CA}
def br(u:PJ s.heap t d.toArray)(v:PJ s.heap b a.toArray)(m:d≠[])
  (x:a=[]->Q (.ref t) s) (y:a≠[]->Q (.ref s⁻¹) { s with heap:=s.heap.push { cls:=.type "tuple",data:=.seq (d++a).toArray } })
  (l:d.length+a.length<=sizeLine):sA (model prog w) A (ZE .Add (.ref t) (.ref b)) Q E s:=by
 obtain⟨⟨cls,o,data,sl⟩,j,p,n,hd⟩:=id u;obtain⟨⟨q,f,data2,g⟩,c,h,r,i⟩:=id v;simp only at p hd h i;subst p hd h i;have e:d.toArray++a.toArray=(d++a).toArray:=by simp
 by_cases k:a=[]
 .exact sW #[_,j,rfl] #[_,c,rfl] N6 d7 d6 U5 (R5 _ _)
   (tuple_addW1 t b d.toArray a.toArray n r o f sl g (↑m) (by simp[k])) #[j,c,x k]
 .refine sW #[_,j,rfl] #[_,c,rfl] N6 d7 d6 U5 (R5 _ _)
   (tuple_addW2 t b d.toArray a.toArray n r o f sl g (↑m) (↑k) (by rw[aD,aD];exact l)) #[j,c, ?_]
  rw[e];exact y k
noncomputable def iB(n d:Nat):Option Int->Nat
 |none=>d
 |some v=>if v<0 then(v+(n:Int)).toNat else min v.toNat n
theorem i4(n d:Nat):iB n d eA=d:=rfl
def mV(n d k:Nat):iB n d (aA (k:Int))=min k n:=by
 show(if(k:Int)<0 then((k:Int)+(n:Int)).toNat else min (k:Int).toNat n)=min k n;rw[if_neg (by lia),nI]
def sNa(n d:Nat)(hd:d<=n)(o:Option Int):iB n d o<=n:=by
 cases o with
 |none=>exact hd
 |some v =>
  show(if v<0 then(v+(n:Int)).toNat else min v.toNat n)<=n;by_cases a:v<0
  .rw[RA a];lia
  .rw[if_neg a];exact Nat.min_le_right _ _
def W8(v:Int)(n d:Nat):(if v<0 then max (v+(n:Int)) 0 else min v (n:Int))=((iB n d (aA v):Nat):Int):=by
 show(if v<0 then max (v+(n:Int)) 0 else min v (n:Int))=(((if v<0 then(v+(n:Int)).toNat else min v.toNat n):Nat):Int);by_cases a:v<0
 .erw[RA a];lia
 .erw[if_neg a];lia
def oo(lo a:Option Int)(n:Nat):P5 lo a 1 (n:Int)=(((iB n 0 lo:Nat):Int),((iB n n a:Nat):Int)):=by
 have b:¬((1:Int)<0):=by lia
 unfold P5;erw[b,if_false];refine Prod.ext ?_ ?_
 .cases lo with
  |none=>rfl
  |some v=>exact W8 v n 0
 .cases a with
  |none=>rfl
  |some v=>exact W8 v n n
def hJa(i j:Nat):IV (i:Int) (j:Int) 1=j-i:=by
 unfold IV;have a:(1:Int) > 0:=by lia
 erw[a,if_true,Int.ediv_one]
 split<;>lia
def kg(p:bJ v o)(h:Q o s):sA (model prog w) A (Builtin.Slice.slicePartIndex v) Q E s:=by
 cases p with
 |none=>exact slicePart_none h
 |int i t=>exact slicePart_int h
def jg{lo a:Option Int}{Q:Int×Int×Nat->CA->Prop}(f:s.heap.IsSliceOf sl d e .none)(g:bJ d lo)(i:bJ e a)
  (h:Q (((iB n 0 lo:Nat):Int),1,iB n n a-iB n 0 lo) s):sA (model prog w) A (rj (.ref sl) (pure (n:Int))) Q E s:=by
 let(os,b,j,c):KA:=id f
 unfold rj Builtin.Slice.sliceFields;refine tA (tA (NH b c (x:=d) rfl (tA (NH b c (x:=e) rfl (tA (NH b c (x:=.none) rfl (ZA ?_)))))));refine tA (slicePart_none ?_);show sA _ _ (if((1:Int)==0)=bA then _ else _) _ _ s;rw[if_neg (by decide)];refine tA (kg g (tA (kg i (tA (ZA ?_)))));show sA _ _ (match P5 lo a 1 (n:Int) with | (lo,a)=>pure (lo,(1:Int),IV lo a 1)) _ _ s;rw[oo lo a n];show sA _ _ (pure (((iB n 0 lo:Nat):Int),(1:Int),IV ((iB n 0 lo:Nat):Int) ((iB n n a:Nat):Int) 1)) _ _ s;rw[hJa];exact ZA h
def aJa(a:Array jA)(i k:Nat):((nC k).filterMap λ(m:Nat)=>a[((i:Int)+(m:Int)*1).toNat]?).toArray=((a.toList.drop i).take k).toArray:=by
 have e:(λ(m:Nat)=>a[((i:Int)+(m:Int)*1).toNat]?)=λm=>a[i+m]?:=by
  funext m
  have:((i:Int)+(m:Int)*1).toNat=i+m:=by lia
  rw[this]
 rw[e]
 have:=pick_run a i k
 rw[List.filterMap_map] at this;have b:((λx=>a[x]?) ∘ λx=>i+x)=λm=>a[i+m]?:=rfl
 rw[b] at this;rw[this]
def vw{lo b:Option Int}(c:PJ s.heap t items)(i:s.heap.IsSliceOf sl j k .none)(l:bJ j lo)(n:bJ k b)
  (o:¬(iB items.size 0 lo=0/\iB items.size items.size b=items.size))
  (h:Q (.ref s⁻¹) { s with heap:=s.heap.push { cls:=.type "tuple",data:=.seq ((items.toList.drop (iB items.size 0 lo)).take (iB items.size items.size b-iB items.size 0 lo)).toArray } })
  (p:items.size<=sizeLine):sA (model prog w) A (getItem (.ref t) (.ref sl)) Q E s:=by
 have a:sizeOk (.seq ((items.toList.drop (iB items.size 0 lo)).take (iB items.size items.size b-iB items.size 0 lo)).toArray):=by(show((items.toList.drop (iB items.size 0 lo)).take (iB items.size items.size b-iB items.size 0 lo)).toArray.size<=sizeLine;rw[aD,SJ,uN,RJ];omega)
 have u:iB items.size items.size b<=items.size:=sNa _ _ (uB _) b;let(os,d,e,r):KA:=id i
 have f:s.TypeIs (.ref sl) "slice":=#[os,d,e]
 unfold getItem
 try with_reducible refine VI ?_
 first | refine tA (ZA ?_) | skip
 refine tA (Hk c.typeIs (by decide) ?_)
 refine tA (ZO (name:=AA "__getitem__") c.typeIs EN
  (pP EN c.typeIs ck ?_ (xk _ _)))
 show sA _ _ (O5 (.ref t)>>=_) _ _ s;refine tA (f7 c ?_);refine tA (BS f ?_);rw[RA (by decide)];refine tA (jg i l n ?_)
 have g:¬((((iB items.size 0 lo:Nat):Int)==0&&(1:Int)==1&&(iB items.size items.size b-iB items.size 0 lo)==items.size)=bA):=by(intro q;rw[XA,XA] at q;have v:((iB items.size 0 lo:Nat):Int)=0:=EC q.1.1;have x:iB items.size items.size b-iB items.size 0 lo=items.size:=EC q.2;exact o #[by omega,by omega])
 show sA _ _ (if(((iB items.size 0 lo:Nat):Int)==0&&(1:Int)==1&&(iB items.size items.size b-iB items.size 0 lo)==items.size)=bA then _ else _) _ _ s;rw[if_neg g,aJa]
 first
  |exact tA (m:=JV _) (SK (ZA #[_,rfl,ZA h]) a)
  |exact tA (m:=JV _) (SK (tA (ZA (ZA #[_,rfl,ZA h]))) a)
  |exact tA (tA (m:=JV _) (SK (ZA (ZA #[_,rfl,ZA h])) a))
  |exact tA (tA (m:=JV _) (SK (ZA #[_,rfl,ZA h]) a))
end
end HT
namespace L2
open PySem PySem.Spec PyProof.Rows
abbrev TO:=St->Hp->(Option Int->Hp->Prop)->Prop
def PO(X:Cx)(e:Option xA)(t:TO):Prop :=
 ∀(cA:List (iA×kB)) (s:CA) (B:St) (H:Hp) (Q:Option Int->Hp->Prop),gA X cA B H s->t B H Q ->
  sA (~~~X) X.A (evalPart e X.env) (λu b=>∃o a,gA X cA B a b/\bJ u o/\Q o a) X.xe s
def gRa:TO:=λ_ H Q=>Q eA H
def iRa(t:TE):TO:=λB H Q=>t B H λx a=>∃i,x=.int i/\Q (aA i) a
section
variable{lo hi:Option xA}
def jJa:PO X eA gRa:=by
 intro cA s B H Q I h;rw[evalPart_none];exact ZA #[eA,H,I,.none,h]
def lJa(h:PE X e b):PO X (aA e) (iRa b):=by
 intro cA s B H Q I c;rw[evalPart_some];refine UA (h cA s B H _ I c) λu k a=>?_
 let(x,d,f,g,j):pB:=a;let(i,rfl,q):=j;let(t,rfl):=g;exact#[aA i,d,f,.int i t,q]
def mJ(X:Cx)(r:V->Option Int->Option Int->Hp->VK->Prop):Prop :=
 ∀(cA:List (iA×kB)) (s:CA) (B:St) (H:Hp) (x:V) (v a b:jA) (lo hi:Option Int) (sl:iA) (Q:VK),gA X cA B H s->aAe x v->s.heap.IsSliceOf sl a b .none->bJ a lo->bJ b hi->r x lo hi H Q ->
  ∃T id,typeLookup (.type T) "__getitem__"=pure (aA (.builtin id))/\s.TypeIs v T/\sA (~~~X) X.A (getItem v (.ref sl)) (EP X cA B Q) X.xe s
def mJ.or(h:mJ X r)(C:mJ X F):mJ X (λx lo hi H Q=>r x lo hi H Q\/F x lo hi H Q):=by
 intro cA s B H x v vl j lo hi sl Q I m u pl y q;rcases q with q | q
 .exact h cA s B H x v vl j lo hi sl Q I m u pl y q
 .exact C cA s B H x v vl j lo hi sl Q I m u pl y q
def tSl(r:V->Option Int->Option Int->Hp->VK->Prop)(a:TE)(b c:TO):TE:=λB H Q=>a B H λx d=>b B d λl e=>c B e λu f=>r x l u f Q
def nIa(i:mJ X r)(j:PE X e k)(m:PO X lo n)(hu:PO X hi o):PE X (.Subscript e (.Slice lo hi eA p) pos) (tSl r k n o):=by
 intro cA s B H Q I h;refine Subscript_ (UA (j cA s B H _ I h) λv t c=>?_);let(x,y,z,C,F):pB:=c;refine wpAny_Slice (UA (m cA t B y _ z F) λd J #[l,K,M,N,O]=>UA (hu cA J B K _ M O) λf a c=>?_);let(u,g,P,R,U):pB:=c;rw[evalPart_none];refine ZA ?_;have Y:gA X cA B g { a with heap:=a.heap.push { cls:=.type "slice",data:=.fields [d,f,.none].toArray } }:=P.kept (t':=a.toks) λb ob q=>aC _ q
 let(T,id,Z,ht,hg):=i cA { a with heap:=a.heap.push { cls:=.type "slice",data:=.fields [d,f,.none].toArray } } B g x v d f l u a⁻¹ Q Y C (cUa ..) N R U;show sA (~~~X) X.A (subscriptTail e (.Slice lo hi eA p) v (.ref a⁻¹)) (EP X cA B Q) X.xe { a with heap:=a.heap.push { cls:=.type "slice",data:=.fields [d,f,.none].toArray } };exact tail_any (ops:=[.ref a⁻¹,v]) ht Z hg (by with_unfolding_all rfl)
def kK(a:List V)(lo hi:Option Int):List V:=(a.drop (HT.iB a.length 0 lo)).take (HT.iB a.length a.length hi-HT.iB a.length 0 lo)
def j9(a:List V)(lo hi:Option Int):(kK a lo hi).length<=a.length:=by
 unfold kK;rw[SJ,uN]
 lia
def kMa(K:kA):V->Option Int->Option Int->Hp->VK->Prop:=λx lo hi H Q=>∃a b,x=.ref a/\LC K H a b /\
 ¬(HT.iB b.length 0 lo=0/\HT.iB b.length b.length hi=b.length)/\∀p,H p=eA->Q (.ref p) (GA H p (.t (kK b lo hi)))
def ePa:mJ X (kMa X.K):=by
 intro cA s B H x v p t lo hi sl Q I i j k l h;let(a,d,rfl,m,n,q):=h;cases i;let(e,r,f,g):KA:=I.tuple m
 have c:e.toArray.size=d.length:=by rw[aD];exact r.length.symm
 refine#["tuple",_,EN.lookup,f.typeIs, ?_];refine HT.vw f j k l (by rw[c];exact n) ?_ (by rw[c];exact g);rw[c];refine#[.ref s⁻¹,_,I.laid (t':=s.toks) (o:=.t (kK d lo hi)) (λb u q=>aC _ q) (uB _) ?_,rfl,q _ (I.LA.fresh (uB _))];exact#[dD (j9 d lo hi) g,_,(r.drop (HT.iB d.length 0 lo)).take (HT.iB d.length d.length hi-HT.iB d.length 0 lo),K7 _ _]
def zLa(K:kA):R2:=λx y H Q=>∃a b d c,x=.ref a/\y=.ref b/\LC K H a d/\LC K H b c/\d≠[]/\d.length+c.length<=sizeLine /\
 (c=[]->Q (.ref a) H)/\(c≠[]->∀p,H p=eA->Q (.ref p) (GA H p (.t (d++c))))
def aAc.RU(r:aAc xs j):j=[]↔xs=[]:=by
 cases r with
 |nil=>simp
 |cons _ _=>simp
def aGa:GC X (ZE .Add) (zLa X.K):=by
 intro cA s B H x y v u Q I g i h;let(a,b,j,k,rfl,rfl,l,m,n,e,p,r):=h;cases g;cases i;let(t,d,A,_):KA:=I.tuple l
 let(f,c,C,_):KA:=I.tuple m
 refine HT.br A C (λz=>n (d.RU.mp z)) (λz=>#[.ref a,H,I,rfl,p (c.RU.mp z)]) (λz=>?_) (by rw[<- d.length,<- c.length];exact e);refine#[.ref s⁻¹,_,I.laid (t':=s.toks) (o:=.t (j++k)) (λb F q=>aC _ q) (uB _) ?_,rfl,r (λw=>z (c.RU.mpr w)) _ (I.LA.fresh (uB _))];exact#[by rw[RC];exact e,_,d.append c,K7 _ _]
end
noncomputable def DF(n:Nat)(i:Int):Option Nat:=if 0<=i then(if i<n then aA i.toNat else eA) else if -(n:Int)<=i then aA (i+n).toNat else eA
def sC(a:List Z)(i:Int):Option Z:=(DF a.length i).bind λj=>a[j]?
def Bb(h:DF n i=aA j):seqIndex? i n=aA j/\j<n/\-(n:Int)<=i/\i<n:=by
 unfold DF at h;by_cases b:0<=i
 .rw[RA b] at h;by_cases a:i<n
  .rw[RA a] at h;have e:i.toNat=j:=ED h;exact#[by rw[A7 b a,e],by lia,by lia,a]
  .rw[if_neg a] at h;cases h
 .rw[if_neg b] at h;by_cases a:-(n:Int)<=i
  .rw[RA a] at h;have e:(i+n).toNat=j:=ED h;exact#[by rw[q7 (by lia) a,e],by lia,a,by lia]
  .rw[if_neg a] at h;cases h
def aX(h:sC a i=aA v):∃j,seqIndex? i a.length=aA j/\a[j]?=aA v/\j<a.length/\-(a.length:Int)<=i/\i<a.length:=by
 unfold sC at h
 cases e:DF a.length i with
 |none=>rw[e] at h;cases h
 |some j =>
  rw[e] at h;let(b,c,d,f):oB:=Bb e
  exact#[j,b,h,c,d,f]
def bK{j:Nat}(h:xs[j]?=aA v):sC xs (j:Int)=aA v:=by
 have a:j<xs.length:=(LD.mp h).1
 have e:DF xs.length (j:Int)=aA j:=by(unfold DF;rw[RA (by lia),RA (by lia)];simp)
 unfold sC;rw[e];exact h
def US(b:xA):Prop:=∀o i,subscripted b dA o i=operate [o,i] (getItem o i)
def zF(X:Cx)(r:R2):Prop :=
 ∀(value slice:xA) (cA:List (iA×kB)) (s:CA) (B:St) (H:Hp) (x y:V) (v u:jA) (Q:VK),gA X cA B H s->aAe x v->aAe y u->r x y H Q ->
  subscripted slice dA v u=operate [v,u] (getItem v u)->sA (~~~X) X.A (subscriptTail value slice v u) (EP X cA B Q) X.xe s
def OW(X:Cx)(id:String)(r:V->List V->Hp->VK->Prop):Prop :=
 ∀(cA:List (iA×kB)) (s:CA) (B:St) (H:Hp) (x:V) (a:List V) (v:jA) (b:List jA) (Q:VK),gA X cA B H s->aAe x v->aAc a b->r x a H Q ->
  sA (~~~X) X.A (call (.builtin id) (v::b)) (EP X cA B Q) X.xe s
section
variable{pos:GB}
def zF.or(h:zF X r)(F:zF X J):zF X (λx y H Q=>r x y H Q\/J x y H Q):=by
 intro value slice cA s B H x y v u Q I j m q C;rcases q with q | q
 .exact h value slice cA s B H x y v u Q I j m q C
 .exact F value slice cA s B H x y v u Q I j m q C
def Ke(c:zF X r)(d:PE X a e)(f:PE X b g)(i:US b):PE X (.Subscript a b pos) (RR r e g):=by
 intro cA s B H Q I h;exact Subscript_ (BX d f I h λv u j x y k l m n q=>c a b cA j B k x y v u Q l m n q (i _ _))
def Cf(K:kA):R2:=λx y H Q=>∃p a i v,x=.ref p/\y=.int i/\EB K H p a/\sC a i=aA v/\Q v H
def Df(K:kA):R2:=λx y H Q=>∃p a i v,x=.ref p/\y=.int i/\LC K H p a/\sC a i=aA v/\Q v H
def eV:R2:=λx y H Q=>∃z i c,x=.str z/\y=.int i/\z.length<=sizeLine/\sC z.cps.toList i=aA c/\Q (.str #[[c].toArray]) H
def gz:zF X (Cf X.K):=by
 intro value slice cA s B H x y v u Q I l m h f;let(p,N,i,z,rfl,rfl,n,o,q):=h;cases l;let(t,rfl):=m;let(b,r,c,O):KA:=I.list n
 let(j,a,A,P,C,F):zD:=aX o
 let(w,g,d):rA:=r.get A
 have J:=r.length;have R:=aN;have fin:EP X cA B Q w s:=#[z,H,I,d,q]
 by_cases k:0<=i
 .have e:i.toNat=j:=by
   rw[A7 k F] at a;exact ED a
  exact item_listR c.isList k (by lia) (by rw[e];simpa using g) fin f
 .have e:(i+(b.toArray.size:Int)).toNat=j:=by
   rw[q7 (by lia) C] at a;rw[aD,<- J];exact ED a
  exact Dj (x:=w) c.isList.typeIs Ik.lookup
   (wpAny_getItem_list_neg (Q:=λr M=>r=w/\EP X cA B Q r M) c.isList (by lia) (by rw[aD]<;>lia) (by lia) (by rw[e];simpa using g) #[rfl,fin]) f
def mz:zF X (Df X.K):=by
 intro value slice cA s B H x y v u Q I c d h e;let(p,C,i,z,rfl,rfl,f,g,q):=h;cases c;let(t,rfl):=d;let(k,r,b,F):KA:=I.tuple f
 let(j,l,m,J,M,N):zD:=aX g
 let(w,n,a):rA:=r.get m
 have o:=r.length;have O:=aN;have fin:EP X cA B Q w s:=#[z,H,I,a,q]
 exact Dj (x:=w) b.typeIs EN.lookup
  (getItem_tuple (j:=j) (Q:=λr A=>r=w/\EP X cA B Q r A) b (by lia) (by lia) (by rw[aD,<- o];exact l) (↑n) #[rfl,fin]) e
def lz:zF X eV:=by
 intro value slice cA s B H x y v u Q I b d h e;let(z,i,c,rfl,rfl,p,f,q):=h;let(t,rfl):=b;let(r,rfl):=d;let(j,a,g,w,k,l):zD:=aX f
 have m:z.cps.toList.length=z.length:=by simp[Str.length]
 rw[m] at a k l;have A:=aN
 exact tail_any (typeIs_str s z t) slot_str_getitem.lookup (getItem_str (by
  have n:decide (i < -(2 ^ 63:Int))=dA:=dB (by lia);have o:decide (i >= 2 ^ 63)=dA:=dB (by lia)
  rw[n,o,xF]) (by rw[a];simpa using g) #[.str #[[c].toArray],H,I.tok _,#[_,rfl],q]) e
def rIx(K:kA):R2:=λx y H Q=>Cf K x y H Q\/Df K x y H Q\/eV x y H Q
def kz:zF X (rIx X.K):=gz.or (mz.or lz)
def yAa(a:List jA)(n j:Nat)(u:jA):IS (·.setIfInBounds j u) { cls:=.type "list",data:=.seq a.toArray n }={ cls:=.type "list",data:=.seq (a.set j u).toArray n }:=by
 simp[IS]
theorem gA.l(I:gA X cA B H s)(h:H p=aA (.l xs)) :
  ∃(j:List jA) (n:Nat),aAc xs j/\s.heap.get? p=aA { cls:=.type "list",data:=.seq j.toArray n }/\xs.length<=sizeLine:=by
 let(z,m):=I.LA p _ h;let(j,n,r,e):FA:=m
 exact#[j,n,r,e,z]
def gA.rAa{m j:List jA}(I:gA X cA B H s)(h:H p=aA (.l xs))
  (ho:s.heap.get? p=aA { cls:=.type "list",data:=.seq m.toArray n }) (y:f { cls:=.type "list",data:=.seq m.toArray n }={ cls:=.type "list",data:=.seq j.toArray n' }) (r:aAc ys j) (C:ys.length<=sizeLine) (t:Nat) :
  gA X cA B (GA H p (.l ys)) { s with heap:=s.heap.update p f,toks:=t }:=by
 have e:(s.heap.update p f).get? p=aA { cls:=.type "list",data:=.seq j.toArray n' }:=by(rw[OV f ho (by rw[y]<;>rfl),y])
 refine I.write (x:=p) (e:=p) (by rw[h];trivial) (.inl rfl) (λb u hb q=>(bP _ _ (rD hb)).trans q) #[_,e] ?_;exact#[C,j,n',r,e]
def Ef:V->V->V->Hp->(Hp->Prop)->Prop:=λo i v H Q=>∃p a k j,o=.ref p/\i=.int k/\H p=aA (.l a)/\DF a.length k=aA j/\Q (GA H p (.l (a.set j v)))
def aAT:UW X Ef:=by
 intro cA s B H o i v F J u Q I w x y h;let(p,z,k,j,rfl,rfl,e,A,q):=h;cases w;let(t,rfl):=x;let(a,n,r,c,C):pB:=I.l e
 let(b,K,f,g):oB:=Bb A
 have d:=r.length;have M:=aN
 have l:gA X cA B (GA H p (.l (z.set j v))) { s with heap:=s.heap.update p (IS (·.setIfInBounds j u)) } :=
  I.rAa e c (yAa a n j u) (r.set y j) (by rw[eE];exact C) s.toks
 by_cases m:0<=k
 .have hk:k.toNat=j:=by
   rw[A7 m g] at b;exact ED b
  exact PySem.W.ki_setAt c m (by lia) (by rw[aD,<- d];exact g) (by rw[hk];exact#[_,l,q])
 .have hk:(k+(a.toArray.size:Int)).toNat=j:=by
   rw[q7 (by lia) f] at b;rw[aD,<- d];exact ED b
  exact PySem.W.ki_setBack c (by lia) (by rw[aD,<- d];exact f) (by lia) (by rw[hk];exact#[_,l,q])
def hPa(lo a:Option Int)(n:Nat):(sliceBounds lo a eA n).1=((HT.iB n 0 lo:Nat):Int)/\(sliceBounds lo a eA n).2.1=((HT.iB n n a:Nat):Int)/\(sliceBounds lo a eA n).2.2=1:=by
 refine#[?_, ?_,rfl]
 .cases lo with
  |none=>simp[sliceBounds,HT.iB]
  |some i =>
   simp only[sliceBounds,HT.iB,Sk,show(1:Int) > 0 by decide,if_true];by_cases h:i<0
   .erw[h,if_true]<;>lia
   .erw[h,if_false]<;>lia
 .cases a with
  |none=>simp[sliceBounds,HT.iB]
  |some i =>
   simp only[sliceBounds,HT.iB,Sk,show(1:Int) > 0 by decide,if_true];by_cases h:i<0
   .erw[h,if_true]<;>lia
   .erw[h,if_false]<;>lia
def gPa(a:List jA)(lo b:Option Int):slicePick a.toArray lo b eA=((a.drop (HT.iB a.length 0 lo)).take (HT.iB a.length a.length b-HT.iB a.length 0 lo)).toArray:=by
 let(c,d,e):mG:=hPa lo b a.toArray.size
 unfold slicePick;rw[c,d,e];erw[sliceRange_one,pick_run,aD]<;>rfl
def jMa(K:kA):V->Option Int->Option Int->Hp->VK->Prop:=λx lo c H Q=>∃a b,x=.ref a/\EB K H a b/\∀p,H p=eA->Q (.ref p) (GA H p (.l (kK b lo c)))
def bPa:mJ X (jMa X.K):=by
 intro cA s B H x v p t lo e sl Q I g i j k h;let(a,c,rfl,l,q):=h;cases g;let(m,r,f,n):KA:=I.list l
 have d:=r.length;refine#["list",_,Ik.lookup,f.isList.typeIs, ?_];refine wpAny_getItem_list_slice f.isList i j k .none (by simp) ?_ (by rw[aD]<;>lia);rw[gPa,<- d];refine#[.ref s⁻¹,_,I.laid (t':=s.toks) (o:=.l (kK c lo e)) (λb u q=>aC _ q) (uB _) ?_,rfl,q _ (I.LA.fresh (uB _))];exact#[dD (j9 c lo e) n,_,0,(r.drop (HT.iB c.length 0 lo)).take (HT.iB c.length c.length e-HT.iB c.length 0 lo),MD _ rfl]
noncomputable def uJ:V->Bool
 |.lA=>bA
 |.bl _=>bA
 |.int _=>bA
 |.str _=>bA
 |_=>dA
noncomputable def mK:V->V->Bool
 |.lA,.lA=>bA
 |.bl a,.bl b=>a==b
 |.bl a,.int b=>(if a then 1 else 0)==b
 |.int a,.bl b=>a==(if b then 1 else 0)
 |.int a,.int b=>a==b
 |.str a,.str b=>a==b
 |_,_=>dA
def Xs(e:aAe y u)(c:aAe x v)(g:uJ y=bA)(f:uJ x=bA):SeqAt.EqAt A s u v (mK y x):=by
 cases y with
 |lA =>
  cases e
  cases x with
  |lA=>cases c;exact SeqAt.EqAt.same _
  |bl b=>cases c;exact SeqAt.EqAt.none_bool b
  |int b=>let(t,rfl):=c;exact SeqAt.EqAt.none_int b t
  |str b=>let(t,rfl):=c;exact SeqAt.EqAt.none_str b t
  |_=>exact absurd (show dA=bA from f) OE
 |bl a =>
  cases e
  cases x with
  |lA=>cases c;exact SeqAt.EqAt.bool_none a
  |bl b=>cases c;exact SeqAt.EqAt.bool_bool a b
  |int b=>let(t,rfl):=c;exact SeqAt.EqAt.bool_int a b t
  |str b=>let(t,rfl):=c;exact SeqAt.EqAt.bool_str a b t
  |_=>exact absurd (show dA=bA from f) OE
 |int a =>
  let(d,rfl):=e
  cases x with
  |lA=>cases c;exact SeqAt.EqAt.int_none a d
  |bl b=>cases c;exact SeqAt.EqAt.int_bool a d b
  |int b=>let(t,rfl):=c;exact SeqAt.EqAt.int_int a d b t
  |str b=>let(t,rfl):=c;exact rk a d b t
  |_=>exact absurd (show dA=bA from f) OE
 |str a =>
  let(d,rfl):=e
  cases x with
  |lA=>cases c;exact SeqAt.EqAt.str_none a d
  |bl b=>cases c;exact SeqAt.EqAt.str_bool a d b
  |int b=>let(t,rfl):=c;exact uk a d b t
  |str b=>let(t,rfl):=c;exact SeqAt.EqAt.str_str a d b t
  |_=>exact absurd (show dA=bA from f) OE
 |_=>exact absurd (show dA=bA from g) OE
def vG(x:V)(u:jA):Bool:=match u with
 |.none=>mK .lA x
 |.bool b=>mK (.bl b) x
 |.int i _=>mK (.int i) x
 |.str z _=>mK (.str z) x
 |_=>dA
def D9(r:aAe y u)(f:uJ y=bA):vG x u=mK y x:=by
 cases y with
 |lA=>cases r;rfl
 |bl b=>cases r;rfl
 |int i=>let(t,rfl):=r;rfl
 |str z=>let(t,rfl):=r;rfl
 |_=>exact absurd (show dA=bA from f) OE
def aT(h:aAc a b)(f:a.all uJ=bA):b.any (vG x)=a.any λy=>mK y x:=by
 induction h with
 |nil=>rfl
 |cons r t c =>
  rw[DC,XA] at f;rw[gM,gM,D9 r f.1,c f.2]
def LU(a:aAe x v)(b:uJ x=bA)(h:aAc c d)(f:c.all uJ=bA):∀u∈d,SeqAt.EqAt A s u v (vG x u):=by
 induction h with
 |nil=>exact λu hu=>nomatch hu
 |cons r t e =>
  intro g hu;rw[DC,XA] at f;rcases jD.mp hu with rfl | hu
  .rw[D9 r f.1];exact Xs r a f.1 b
  .exact e f.2 g hu
def tU(x:V)(a:List V):Bool:=a.any λy=>mK y x
def Bf(K:kA)(neg:Bool):R2:=λx y H Q=>∃p a,y=.ref p/\(EB K H p a\/LC K H p a)/\uJ x=bA/\a.all uJ=bA/\Q (.bl (if neg then !tU x a else tU x a)) H
def ae:GC X (SE .In) (Bf X.K dA):=by
 intro cA s B H x y v u Q I e g h;let(p,j,rfl,b,f,fs,q):=h;cases g;rcases b with b | b
 .let(a,r,c,i):KA:=I.list b
  refine SeqAt.in_listAt (vG x) c.isList (λw d=>LU e f r fs w (↑d)) #[.bl _,H,I,rfl, ?_];rw[show a.toArray.any (vG x)=a.any (vG x) by simp,aT r fs];exact q
 .let(a,r,c,i):KA:=I.tuple b
  refine SeqAt.in_tupleAt (vG x) c (λw d=>LU e f r fs w (↑d)) #[.bl _,H,I,rfl, ?_];rw[show a.toArray.any (vG x)=a.any (vG x) by simp,aT r fs];exact q
def ie:GC X (SE .NotIn) (Bf X.K bA):=by
 intro cA s B H x y v u Q I e g h;let(p,j,rfl,b,f,fs,q):=h;cases g;rcases b with b | b
 .let(a,r,c,i):KA:=I.list b
  refine SeqAt.notIn_listAt (vG x) c.isList (λw d=>LU e f r fs w (↑d)) #[.bl _,H,I,rfl, ?_];rw[show a.toArray.any (vG x)=a.any (vG x) by simp,aT r fs];exact q
 .let(a,r,c,i):KA:=I.tuple b
  refine SeqAt.notIn_tupleAt (vG x) c (λw d=>LU e f r fs w (↑d)) #[.bl _,H,I,rfl, ?_];rw[show a.toArray.any (vG x)=a.any (vG x) by simp,aT r fs];exact q
def S8:DE X (.builtin "len") (λg H Q=>∃p b,g=[.ref p]/\(EB X.K H p b\/LC X.K H p b)/\Q (.int b.length) H):=by
 intro cA s B H g k Q I r h;let(p,b,rfl,c,q):=h;let(u,rfl,i):=aAv r;cases i;have l:=aN;rcases c with c | c
 .let(d,e,f,j):KA:=I.list c
  have a:=e.length;exact Calls.call_len_list f.isList (by erw[aD]<;>lia) #[.int b.length,H,I.tok _,#[s.toks+1,by rw[aD,a]],q]
 .let(d,e,f,j):KA:=I.tuple c
  have a:=e.length;exact len_tuple f (by erw[aD]<;>lia) #[.int b.length,H,I.tok _,#[s.toks+1,by rw[aD,a]],q]
def Uq:DE X (.builtin "len") (λa H Q=>∃z,a=[.str z]/\z.length<=sizeLine/\Q (.int z.length) H):=by
 intro cA s B H a b Q I r h;let(z,rfl,c,q):=h;let(u,rfl,t,rfl):=aAv r;have d:=aN;exact len_str (by lia) #[.int z.length,H,I.tok _,#[_,rfl],q]
def T8:DE X (.type "list") (λz H Q=>∃p d,z=[.ref p]/\(EB X.K H p d\/LC X.K H p d)/\∀l,H l=eA->Q (.ref l) (GA H l (.l d))):=by
 intro cA s B H z F Q I r h;let(p,d,rfl,j,q):=h;let(u,rfl,C):=aAv r;cases C
 have fin:∀(a:List jA),aAc d a->d.length<=sizeLine->∀(c:DB) (f:Nat),(∀b A,s.heap.get? b=aA A->c.get? b=aA A) ->
   c.get? s⁻¹=aA { cls:=.type "list",dict:=eA,data:=.seq a.toArray f,slots:=[].toArray }->EP X cA B Q (.ref s⁻¹) { s with heap:=c }:=λa g k c f m e =>
  #[.ref s⁻¹,_,I.laid (t':=s.toks) m (uB _) (show lD X.prog X.w _ c _ (.l d) from#[k,a,f,g,e]),rfl,q _ (I.LA.fresh (uB _))]
 rcases j with j | j
 .let(a,g,v,k):KA:=I.list j
  have t:=g.length;let(o,x,y,i):KA:=v.isList
  let(n,hd):=i;exact call_list_seq p (.inl rfl) x y hd (λc f m e=>fin a g k c f m e) (by erw[aD]<;>lia)
 .let(a,g,v,k):KA:=I.tuple j
  have t:=g.length;let(o,x,y,i):KA:=v;let(n,hd):=i;exact call_list_seq p (.inr rfl) x y hd (λc f m e=>fin a g k c f m e) (by erw[aD]<;>lia)
def U8:DE X (.type "tuple") (λj H Q=>∃p c,j=[.ref p]/\((EB X.K H p c/\∀l,H l=eA->Q (.ref l) (GA H l (.t c)))\/(LC X.K H p c/\Q (.ref p) H))):=by
 intro cA s B H j y Q I r h;let(p,c,rfl,h):=h;let(u,rfl,t):=aAv r;cases t;rcases h with ⟨f,q⟩ | ⟨f,q⟩
 .let(a,g,i,k):KA:=I.list f
  have m:=g.length;refine call_tuple_list i.isList (λd v=>?_) (by erw[aD]<;>lia);have n:gA X cA B H { s with heap:=d }:=I.kept (t':=s.toks) v
  have x:gA X cA B (GA H d.objs.size (.t c)) { s with heap:=d.push { cls:=.type "tuple",data:=.seq a.toArray } } :=
   n.laid (t':=s.toks) (λb o e=>aC _ e) (uB _) (show lD X.prog X.w _ _ _ (.t c) from#[k,a,g,K7 _ _])
  exact#[.ref d.objs.size,_,x,rfl,q _ (n.LA.fresh (uB _))]
 .let(a,g,i,k):KA:=I.tuple f
  exact call_tuple_same i #[.ref p,H,I,rfl,q]
def x5(K:kA)(T:String)(x:V)(H:Hp):Prop:=match x with
 |.str _=>T="str"
 |.int _=>T="int"
 |.ref p=>(T="list"/\∃b,EB K H p b)\/(T="tuple"/\∃o,K.lookup p=aA o/\o.cls=.type "tuple"/\o.dict=eA) \/
   (T="dict"/\∃a,H p=aA (.dK a))\/(T="set"/\∃S n,H p=aA (.set S n))
 |_=>False
def ti(I:gA X cA B H s)(r:aAe x v)(ty:x5 X.K T x H) :
  s.TypeIs v T/\∀a,v=.ref a->∃j,s.heap.get? a=aA j/\j.dict=eA:=by
 cases x with
 |str z =>
  let(t,rfl):=r;cases (show T="str" from ty);exact#[typeIs_str s z t,λ_ e=>nomatch e]
 |int i =>
  let(t,rfl):=r;cases (show T="int" from ty);exact#[F7 s i t,λ_ e=>nomatch e]
 |ref p =>
  cases r;rcases ty with ⟨rfl,u,k⟩ | ⟨rfl,o,hk,l,hd⟩ | ⟨rfl,hk⟩ | ⟨rfl,S,n,hk⟩
  .let(m,_,f,_):KA:=I.list k
   refine#[f.isList.typeIs,λa e=>?_];cases e;let(o,n,e,c,hd,_):fC:=f;exact#[o,e,hd]
  .refine#[#[o,I.vD p o hk,l],λa e=>?_];cases e;exact#[o,I.vD _ o hk,hd]
  .have z:∃o,s.heap.get? p=aA o/\o.ExactDict:=by
    let(q,hk):=hk;let(_,b):=I.LA p _ hk;let(_,_,_,g):yD:=b;let(o,d):=g;let(_,_,e,ex,_):pB:=d
    exact#[o,e,ex]
   let(o,e,ex):rA:=z;refine#[#[o,e,ex.1],λa h=>?_];cases h;exact#[o,e,ex.2.1]
  .let(o,_,_,_,e,ex,_):VA:=I.LA p _ hk
   refine#[#[o,e,ex.1],λa h=>?_];cases h;exact#[o,e,ex.2.1]
 |_=>exact lE ty
def tQa(K:kA)(T:String)(r:V->List V->Hp->VK->Prop)(b:TE):TE:=λB H Q=>b B H λx a=>x5 K T x a/\r x [] a Q
def tBM(K:kA)(T:String)(r:V->List V->Hp->VK->Prop)(b:TE)(t:TA):TE:=λB H Q=>b B H λx a=>x5 K T x a/\t B a λc d=>r x c d Q
variable{T id:String}
def yHa(g:PlainAttrs T)(slot:Slot T name id)(c:typeOf (.builtin id)=pure (.type "method_descriptor"))(i:OW X id r)(j:PE X o k)
  (a:attributeBase o name X.env (eval o X.env)=eval o X.env:=by rfl) (b:(mB.endLine==iK.line)=bA:=by rfl):PE X (.Call (.Attribute o name mB) [] [] iK) (tQa X.K T r k):=by
 intro cA s B H Q I h;refine wpAny_Call_method0_late a b (UA (j cA s B H _ I h) λv l d=>?_);let(x,m,e,f,ty,n):fC:=d;let(p,q):=ti e f ty;exact#[T,id,g,slot,c,p,q,Calls.callWith_builtin rfl (PySem.evalArgs_none (i cA l B m x [] v [] Q e f .nil n))]
def Ge(n:PlainAttrs T)(slot:Slot T name id)(j:typeOf (.builtin id)=pure (.type "method_descriptor"))(p:OW X id r)(q:PE X o u)(w:PA X (e::c) t)
  (d:attributeBase o name X.env (eval o X.env)=eval o X.env:=by rfl)
  (g:((BE iK (WB (e::c) X.env)).all (λx=>!x.1)&&(backToKw iK (keywordEach [] X.env)).all (λx=>x.1.isSome)
   && decide ((e::c).length+([]:List AW).length+(if([]:List AW).isEmpty then 0 else 1)<30))=bA:=by rfl)
  (f:(mB.endLine==iK.line)=bA:=by rfl) (y:WB (e::c) X.env=(dA,eval e X.env)::WB c X.env:=by rfl) (b:(BE iK (WB c X.env)).any (·.1)=dA:=by rfl) :
  PE X (.Call (.Attribute o name mB) (e::c) [] iK) (tBM X.K T r u t):=by
 intro cA s B H Q I h;refine wpAny_Call_method_late d g f rfl (UA (q cA s B H _ I h) λv z i=>?_);let(x,A,k,l,ty,C):fC:=i;let(F,J):=ti k l ty;refine#[T,id,n,slot,j,F,J, ?_];have m:=w iK cA z B A _ k C;rw[y] at m ⊢;refine Calls.callWith_builtin (by show(dA||(BE iK (WB c X.env)).any (·.1))=dA;rw[b]<;>rfl) (Calls.evalArgs_plain ?_);exact UA m λM N i=>(by let(O,P,R,U,Y):pB:=i;exact p cA N B P x O v M Q R l U Y)
end
def NW(X:Cx)(id:String)(r:V->List V->Hp->VK->Prop):Prop :=
 ∀(cA:List (iA×kB)) (s:CA) (B:St) (H:Hp) (x:V) (a:List V) (v:jA) (b:List jA) (Q:VK),gA X cA B H s->aAe x v->aAc a b->r x a H Q ->
  sA (~~~X) X.A (call (.builtin id) (v::b)) (EP X cA B Q) X.xe s
def aAc.one{x:V}{j:List jA}(h:aAc [x] j):∃u,j=[u]/\aAe x u:=by
 cases h with | cons r t=>cases t;exact#[_,rfl,r]
theorem aAc.zero:∀{j:List jA},aAc [] j->j=[]
 |_,.nil=>rfl
theorem aAc.dropLast(h:aAc xs j):aAc xs.dropLast j.dropLast:=by
 induction h with
 |nil=>exact .nil
 |cons r t m =>
  cases t with
  |nil=>exact .nil
  |cons q u=>exact .cons r m
theorem aAc.rep(h:aAc xs j):∀k:Nat,aAc (qB k xs).flatten (qB k j).flatten
 | 0=>.nil
 |k+1=>by(rw[VL,VL,tN,tN];exact aAc.append h (aAc.rep h k))
def Et(l:List Z):l.eraseIdx (l.length-1)=l.dropLast:=by
 induction l with
 |nil=>rfl
 |cons a r c =>
  cases r with
  |nil=>rfl
  |cons b r =>
   have e:(a::b::r).length-1=((b::r).length-1)+1:=by
    have d:(a::b::r).length=r.length+2:=rfl;have f:(b::r).length=r.length+1:=rfl
    lia
   rw[e,List.eraseIdx_cons_succ,c]
   all_goals rfl
theorem aAK(a:List jA):∀(k:Nat) (b:List jA),
  G7 (λc d=>c++d) b.toArray (qB k a.toArray)=(b++(qB k a).flatten).toArray
 | 0,b=>by simp
 |k+1,b=>by
  have e:b.toArray++a.toArray=(b++a).toArray:=by simp
  have f:(b++a)++(qB k a).flatten=b++(qB (k+1) a).flatten:=by(rw[VL,tN,oI])
  rw[<- f,<- aAK a k (b++a),<- e,VL,yN]
section
variable{X:Cx}{cA:List (iA×kB)}{B:St}{H:Hp}{s:CA}{l b:iA}{xs ys zs:List V}
def gA.X1{j its':List jA}(I:gA X cA B H s)(m:H l=aA (.l xs))
  (e:s.heap.get? l=aA { cls:=.type "list",data:=.seq j.toArray n }) (r:f j.toArray=its'.toArray) (y:aAc ys its') (C:ys.length<=sizeLine) :
  gA X cA B (GA H l (.l ys)) { s with heap:=s.heap.update l (IS f),toks:=t' }:=by
 have q:=PySem.IsL.update e f;rw[r] at q;refine I.write (x:=l) (e:=l) (by rw[m];exact trivial) (.inl rfl) (λF u hb hu=>(bP s.heap (IS f) (rD hb)).trans hu) #[_,q] ?_;exact#[C,its',_,y,q]
def gA.T1(I:gA X cA B H s)(j:aAc ys hE)(m:ys.length<=sizeLine) :
  gA X cA B (GA H s⁻¹ (.l ys)) { s with heap:=s.heap.push { cls:=.type "list",data:=.seq hE.toArray },toks:=t' } :=
 I.laid (λ_ _ q=>aC _ q) (uB _) #[m,hE,0,j,MD _ rfl]
theorem gA.fresh(I:gA X cA B H s):H s⁻¹=eA:=I.LA.fresh (uB _)
def gA.gR(I:gA X cA B H s)(u:H l=aA (.l xs)):xs.length<=sizeLine/\∃(j:List jA) (n:Nat),aAc xs j/\xs.length=j.length/\s.heap.get? l=aA { cls:=.type "list",data:=.seq j.toArray n }:=by
 let(z,m):=I.LA l _ u;let(j,n,r,e):FA:=m
 exact#[z,j,n,r,r.length,e]
def Nd(h:n<=sizeLine):LV n=dA:=by
 unfold LV;exact dB (by lia)
end
section
variable{X:Cx}
def wLa:V->List V->Hp->VK->Prop:=λx b H Q=>∃l a y,x=.ref l/\b=[y]/\H l=aA (.l a)/\a.length<sizeLine/\Q .lA (GA H l (.l (a++[y])))
def Fd:NW X "list.append" wLa:=by
 intro cA s B H x i v j Q I d f h;let(l,k,y,rfl,rfl,c,m,q):=h;cases d;let(u,rfl,g):=f.one;let(z,a):=I.gR c;let(b,n,r,o,e):pB:=a
 refine DP Ij #[_,e,rfl] F.entry_list_append (F.args_list_append_2 _ _) (PySem.list_append l b.toArray n u (by rw[aD];lia)) #[e, ?_];refine#[.lA,_,I.X1 (its':=b++[u]) c e (by simp) (r.append (.cons g .nil)) ?_,rfl,q];rw[RC,qN]
 lia
def aMa:V->List V->Hp->VK->Prop:=λx d H Q=>∃l b a c,x=.ref l/\d=[.ref b]/\H l=aA (.l a)/\H b=aA (.l c)/\a.length+c.length<=sizeLine/\Q .lA (GA H l (.l (a++c)))
def uBa:NW X "list.extend" aMa:=by
 intro cA s B H x A v C Q I j k h;let(l,b,J,K,rfl,rfl,i,m,M,q):=h;cases j;let(u,rfl,o):=k.one;cases o;let(z,c):=I.gR i;let(d,n,r,N,e):pB:=c
 let(O,c):=I.gR m;let(a,p,t,w,y):pB:=c
 have g:d.toArray.size+a.toArray.size<=sizeLine:=by rw[aD,aD];lia
 have f:¬(!d.toArray.isEmpty&&LV (d.toArray.size+a.toArray.size))=bA:=by(rw[Nd g,kW];exact OE)
 refine DP Jj #[_,e,rfl] F.entry_list_extend (F.args_list_extend_2 _ _)
  (AutoSeq1.list_extend_list_list_0 l d.toArray n b a.toArray p f (by rw[aD];lia) (by lia)) #[e,y, ?_]
 refine#[.lA,_,I.X1 (its':=d++a) i e (by simp) (r.append t) ?_,rfl,q];rw[RC]
 lia
def eMa:V->List V->Hp->VK->Prop:=λx b H Q=>∃l a y,x=.ref l/\b=[]/\H l=aA (.l a)/\a[a.length-1]?=aA y/\Q y (GA H l (.l a.dropLast))
def vBa:NW X "list.pop" eMa:=by
 intro cA s B H x o v p Q I g i h;let(l,t,y,rfl,rfl,f,j,q):=h;cases g;have c:=i.zero;subst c;let(z,b):=I.gR f;let(a,n,r,k,e):pB:=b
 let(u,hu,m):rA:=r.get j
 have d:a.toArray[a.toArray.size-1]?=aA u:=by(show a.toArray[a.length-1]?=aA u;rw[<- Kj,<- k];exact hu)
 refine DP yk #[_,e,rfl] F.entry_list_pop (F.args_list_pop_1 _) (MeetsSeq.list_pop_last l a.toArray n u d (by rw[aD];lia)) #[e, ?_];refine#[y,_,I.X1 (its':=a.dropLast) f e ?_ r.dropLast ?_,m,q]
 .show a.toArray.eraseIdxIfInBounds (a.toArray.size-1)=a.dropLast.toArray;rw[aD,List.eraseIdxIfInBounds_toArray,Et]
 .rw[List.length_dropLast]
  lia
def fMa:R2:=λx y H Q=>∃l k a,x=.ref l/\y=.int k/\H l=aA (.l a)/\-(2 ^ 63)<=k/\k<2 ^ 63/\a.length*k.toNat<=sizeLine /\
 ∀p,H p=eA->Q (.ref p) (GA H p (.l (qB k.toNat a).flatten))
def aAY(a:List Z)(k:Nat):(qB k a).flatten.length=k*a.length:=by
 induction k with
 |zero=>simp
 |succ k b=>rw[VL,tN,RC,b,Nat.succ_mul,Nat.add_comm]
def kGa:GC X (ZE .Mult) fMa:=by
 intro cA s B H x y v u Q I A C h;let(l,k,R,rfl,rfl,J,K,M,w,q):=h;cases A;let(t,rfl):=C;let(z,d):=I.gR J;let(b,n,r,N,e):pB:=d
 have f:b.toArray.size*k.toNat<=sizeLine:=by rw[aD,<- N];exact w
 have g:¬b.toArray.size*k.toNat > (2 ^ 63-1) / 8:=by
  have:(sizeLine:Nat)<=(2 ^ 63-1) / 8:=by decide
  lia
 have i:¬(!Builtin.List.listFitsIndex k)=bA:=by(rw[fitsIndex_both K M];exact OE)
 have c:¬LV (b.toArray.size*k.toNat)=bA:=by(rw[Nd f];exact OE)
 have j:G7 (λo p=>o++p) [].toArray (qB (if b.toArray.isEmpty=bA then 0 else k.toNat) b.toArray)=(qB k.toNat b).flatten.toArray:=by
  have O:∀m:Nat,G7 (λo p=>o++p) [].toArray (qB m b.toArray)=(qB m b).flatten.toArray:=λm=>by
   have:=aAK b m []
   rw[tP] at this;exact this
  rw[O]
  cases b with
  |nil=>simp
  |cons a Y=>rw[if_neg (by simp)]
 refine wpAny_binaryOp_repeat_ref (T:="list") (U:="int") (by decide) #[_,e,rfl] (λP=>F7 P k t) noFill_list_mul F.fills_int_mul ll repeat_list F.slot_int_index.lookup
  (DP ll (F7 s k t) F.entry_int_rmul (F.args_int_rmul_2 _ _) (int___rmul___int_list k t l b.toArray n)
   #[e,rfl,#[_,e,rfl],DP F.slot_list_mul #[_,e,rfl] F.entry_list_mul (F.args_list_mul_2 _ _) (AutoListH.list___mul___list_int_3 l b.toArray n k t i g c) #[e, ?_]])
 rw[j];exact#[.ref _,_,I.T1 (t':=s.toks) (r.rep k.toNat) (by rw[aAY,Nat.mul_comm];exact w),rfl,q _ I.fresh]
end
end L2
namespace Att
open PySem PySem.W PySem.Calls PyProof.Rows
def my:∀(c:List Int) (d:List jA),WellAll P h d (c.map WData.int)->GP d c:=by
 intro c
 induction c with
 |nil =>
  intro d w;rw[LJ] at w;cases w;exact .nil
 |cons n c e =>
  intro d w;rw[vB] at w
  cases w with
  |cons a b =>
   cases a;exact .cons _ _ (e _ b)
def nOa{l:zW}(s:l.most=aA n)
  (c:l.row.toRowW.claim.pre args=bA) (k:WellAll P h e args) :
  ∃a o b,e=[Value.ref a]/\args=[WData.list (b.map WData.int)]/\h.get? a=aA { cls:=.type "list",data:=.seq o.toArray }/\GP o b/\b.length<=n:=by
 have m:WShape.hasAll [] args [.list .int]=bA:=(pre_splitW c).1;have p:l.pre.holds [] { args:=args }=bA:=(pre_splitW c).2;let(d,r,rfl,t,u):=hasAllW_cons m;obtain rfl:=hasAllW_nil u;let(A,rfl,v):=hasW_list t;let(b,rfl):=items_int v
 have f:b.length<=n:=by
  unfold OpenLaw.pre at p
  have i:(WTm.not (.lt (.lit (.int (n:Int))) (.len (.arg 0)))).holds [] { args:=[.list (b.map .int)] }=bA:=by(have i:=(holds_andW p).1;rw[s] at i;exact i)
  have j:=condW_of i (w_not (w_lt w_lit (w_len_list (w_arg rfl))));rw[pA] at j;refine bW λq=>?_
  have w:(n:Int)<((b.length:Nat):Int):=by omega
  first
   | (rw[zB w] at j;exact absurd j (by decide))
   | (simp at j;omega)
 cases k with
 |cons x y =>
  cases y
  cases x with
  |list z g=>exact#[_,_,b,rfl,rfl,z,my b _ g,f]
def oJa(l:zW)(args:List WData):l.row.toRowW.claim.post args (.bool bA) args=bA :=
 postW_of (r:=l.row.toRowW) (X:=(bA==bA))
  (show Nl [] (.bool bA) .bool=bA by first | rfl | decide | simp[Nl,WShape.arms,WShape.armsAll])
  (show(WTm.eq .res (.lit (.bool bA))).value [] { args:=args,res:=aA (.bool bA),after:=args }=aA (.bool (bA==bA)) from w_eq_bool (w_res rfl) w_lit) rfl
def Mo{l:zW}
  (F:l.most=aA n) (u:d.params.defaults=[])
  (call:∀(w:cD) (s₀ b:CA) (mg v:fA->Option jA) (i:iA) (o:kB) (pm p c:jA) (a:iA) (h:List jA) (s:List Int),
   Ground q e [] H w s₀ mg v b.heap->I w b.heap ->
   b.heap.get? i=aA o->o.data=.func (docDef d.name d.params d.body d.scope pm p c)->b.heap.CodeRec p d.name->mg d.name=aA (.ref i) ->
   b.heap.get? a=aA { cls:=.type "list",data:=.seq h.toArray }->GP h s->s.length<=n->b.gens=[].toArray ->
   mI (model l.prog w) callerA (.call (.ref i) #[[.ref a],[]]) (λr t=>r=.ok (.ret (.bool bA))/\OldK b.heap t.heap/\t.os=b.os/\OJ t.gens) b) :
  WalkO q e H I l.row.toRowW d [] (λf h=>PySem.call f h):=by
 intro w s₀ b mg v G Y i o pm p c J kV K hd x A y M args B as j C N z O;obtain rfl:J=.none:=Dflts.none A u;obtain rfl:kV=.none:=Dflts.noKw A;let(a,h,s,rfl,rfl,k,g,m):=nOa F j z;refine enter_call (iM (call w s₀ b mg v i o pm p c a h s G Y K (fd_plain hd) x y k g m M) λr t P=>?_);let(rfl,Q,R,U):=P;exact#[.inl #[.bool bA,.bool bA,[],rfl,λ_=>rfl,.bool bA,oJa l _,λ_=>#[List.Pairwise.nil,λ_ X=>(nomatch X)]],Q,R,U]
end Att
namespace L2
open PySem PySem.Spec PyProof.Rows
def xSa(h:GP a b):aAc (b.map V.int) a:=by
 induction h with
 |nil=>exact .nil
 |cons n t h c=>exact .cons #[t,rfl] c
def km(H:Hp):Prop:=∀b,H b=eA\/∃o a,H b=aA (.nD o (.l a))
abbrev NB{K:kA}{h:DB}(_:K.In h):kA:=K
noncomputable def XH(s:MA):JS:=match s with
 |.FunctionDef _ a _ _ _ _ _ _ _ _=>a
 |_=>{ posonlyargs:=[],args:=[],vararg:=eA,kwonlyargs:=[],kw_defaults:=[],kwarg:=eA,defaults:=[] }
noncomputable def XD(s:MA):List MA:=match s with
 |.FunctionDef _ _ b _ _ _ _ _ _ _=>b
 |_=>[]
noncomputable def TB(s:MA):PD:=match s with
 |.FunctionDef _ _ _ _ _ _ a _ _ _=>a
 |_=>{ kind:=.function,names:=[],isGenerator:=dA,isCoroutine:=dA }
abbrev SD:mM:=λ_ _ _ _ _ _=>False
abbrev E0:XK:=λ_ _ _=>False
def bV:aAC SD X E0:=λ_ _ _ _ _ _ _ h=>h.elim
structure tI(K:kA)(x qual:fA)(st:MA)(f:iA)(fd:JG):Prop where
 ex:∃(oc:jA) (od:Option iA) (kV doc pm:jA) (an:Option iA) (WH ct:jA) (CK:Array (Option jA)),
  fd=PF x qual (XH st) (XD st) (TB st) .none kV doc pm an WH ct/\K.lookup f=aA #[oc,od,.func fd,CK]/\WK K WH qual=bA
 kp:nG K (.ref f)=bA
section
variable{P:KD}{w:cD}{K:kA}{mg:fA->Option jA}{base:DB}
def tI.ok{st:MA}(F:tI K x m st f J)(S:sI N C (TB st))(len:∀r H Q E,I r H Q E->r.length=C.length)
  (u:∀(j:jA) (A:KG) (outer:List Env) (s:CA) (H:Hp) (r:List V) (Q:VK) (E:XK),YB k (A.deeper (envOfC m (TB st) s⁻¹ f j))->I r H Q E ->
   ∃t,uC (bD SD P w K mg base N m (TB st) f j A outer s H E).JO (XD st) t/\t { nx:=λ_ M=>Q .lA M,rt:=Q } (start N r) H):qE P w K mg base SD (k+1) f J C I:=by
 let(oc,od,kV,O,pm,an,j,ct,R,rfl,U,y):=F.ex;refine kZ U y S len λA outer s H r Q E X B=>?_
 let(t,h,q):rA:=u j A outer s H r Q E X B
 exact#[t,h.JO,q]
def tI.binds{st:MA}(F:tI K x r st f B)
  (h:∀(kV j pm:jA) (an:Option iA) (m ct:jA) (u:List jA),u.length=y.length->bindArgs (PF x r (XH st) (XD st) (TB st) .none kV j pm an m ct) #[u,[]]=pure (y.zip u)):aAt K B y []:=by
 let(oc,od,kV,j,pm,an,m,ct,C,rfl,I,H):=F.ex;exact .all (h kV j pm an m ct)
def yQ{st:MA}{kV d pm b ct:jA}(l:K.lookup f=aA #[oc,od,.func (PF x a (XH st) (XD st) (TB st) .none kV d pm g b ct),e])
  (c:WK K b a=bA) (k:nG K (.ref f)=bA):tI K x a st f (PF x a (XH st) (XD st) (TB st) .none kV d pm g b ct):=#[#[oc,od,kV,d,pm,g,b,ct,e,rfl,l,c],k]
end
def zO{A B:Prop}(h:B):if dA=bA then A else B:=by
 rw[if_neg OE];exact h
def XM{A B:Prop}(h:A):if bA=bA then A else B:=by
 rw[RA rfl];exact h
def WA(H a:Hp):Prop:=∀b o,H b=aA o->a b=aA o
def WA.refl(H:Hp):WA H H:=λ_ _ h=>h
def WA.trans(a:WA H j)(b:WA j m):WA H m:=λc o h=>b c o (a c o h)
def WA.free(e:WA H j)(h:j l=Option.none):H l=Option.none:=by
 cases q:H l with
 |none=>rfl
 |some o =>
  rw[e l o q] at h;cases h
def WA.seq{K:kA}(e:WA H j)(h:EB K H a xs):EB K j a xs:=by
 rcases h with (h | ⟨o,h⟩) | h
 .exact .inl (.inl (e _ _ h))
 .exact .inl (.inr #[o,e _ _ h])
 .exact .inr h
end L2
set_option maxHeartbeats 4000000
namespace L2
open PySem PySem.Spec PyProof.Rows
section
variable{O:Type}[DecidableEq O]
noncomputable def MH(a:List (O×V))(k:O):Option V:=(a.find? λb=>decide (b.1=k)).map (·.2)
def vi{p:O×V}{r:List (O×V)}{k:O}(e:p.1=k):MH (p::r) k=aA p.2:=by simp[MH,bM,e]
def ui{p:O×V}{r:List (O×V)}{k:O}(e:¬p.1=k):MH (p::r) k=MH r k:=by simp[MH,bM,e]
def YG.Sy{o:Option V}{u:Option jA}(r:YG o u):o.isSome=u.isSome:=by
 cases o with
 |none=>cases u with
  |none=>rfl
  |some _=>exact(show False from r).elim
 |some _=>cases u with
  |none=>exact(show False from r).elim
  |some _=>rfl
def KV.val{j:List (O×V)}{x:List (O×jA)}(r:KV j x)(k:O):YG (MH j k) (valueAt x k):=by
 unfold KV at r
 induction r with
 |nil=>exact True.intro
 | @cons p q B m h t y =>
  let(h1,h2):=h;by_cases e:p.1=k
  .have u:q.1=k:=h1.symm.trans e;have b:valueAt (q::m) k=aA q.2:=by simp[valueAt,bM,u]
   rw[vi e,b];exact h2
  .have u:¬q.1=k:=λz=>e (h1.trans z)
   have b:valueAt (q::m) k=valueAt m k:=by simp[valueAt,bM,u]
   rw[ui e,b];exact y
end
def Tc{P:KD}{w:cD}{k:Key}{u:jA}(r:aAe (kV k) u):(CO P w).is k u=bA:=by
 cases k with
 |inl i=>let(t,e):=(show ∃t,u=Value.int i t from r);subst e;exact gBa P w i t
 |inr x=>let(t,e):=(show ∃t,u=Value.str x t from r);subst e;exact hBa P w x t
section
variable{P:KD}{w:cD}{H:Hp}{h:DB}{a:iA}
def qMa{u:HO}(ok:FC P w H h)(e:Rd H a u):lD P w H h a u:=e.ok ok
def VX{b:List (Key×V)}(ok:FC P w H h)(e:Rd H a (.dK b)):b.length<=sizeLine/\(a==sysModules)=dA/\∃c,KV b c/\h.DictOf (CO P w) a c :=
 show lD P w H h a (.dK b) from qMa ok e
end
def fL(H:Hp)(a:iA)(y:V)(r:Option V):Prop :=
 (∃b k,Rd H a (.dK b)/\y=kV k/\r=MH b k)\/False
theorem fL.k{H:Hp}{a:iA}{j:List (Key×V)}{k:Key}(e:H a=aA (.dK j)):fL H a (kV k) (MH j k):=.inl #[j,k,.inl e,rfl,rfl]
section
variable{X:Cx}{cA:List (iA×kB)}{B:St}{H:Hp}{s:CA}{a:iA}{y v:V}{u r:jA}{o:Option V}{A:KG}{E:jA->CA->Prop}
def gA.big(I:gA X cA B H s):sysModules<s⁻¹:=by
 have h:cB<s⁻¹:=(I.mod.glob.keeps I.bk).lt;exact jM (by decide) h
def Hr{Q:jA->CA->Prop}(hu:A.units+1<cLine)(I:gA X cA B H s)(g:fL H a y (aA v))(f:aAe y u)(h:∀b d,gA X cA B H d->aAe v b->Q b d) :
  sA (~~~X) A (getItem (.ref a) u) Q E s:=by
 rcases g with ⟨i,k,e,j,l⟩ | g
 .subst j;let(z,hd,m,qA,n):=VX I.LA e;let(b,p,c):=YG.some_of (v:=v) (o:=valueAt m k) (by rw[l];exact qA.val k);exact wpAny_getItem_of (Tc f) n.mapOf p (h b _ (I.tok _) c)
 .exact g.elim
def Ir{Q:jA->CA->Prop}(hu:A.units+1<cLine)(I:gA X cA B H s)(g:fL H a y o)(c:aAe y u)(h:∀b,gA X cA B H b->Q (.bool o.isSome) b) :
  sA (~~~X) A (SE .In u (.ref a)) Q E s:=by
 rcases g with ⟨d,k,e,f,l⟩ | g
 .subst f;let(z,hd,j,qA,i):=VX I.LA e;refine wpAny_in_of (Tc c) hd i.mapOf ?_;rw[<- (qA.val k).Sy,<- l];exact h _ (I.tok _)
 .exact g.elim
def r9{c:DB}{f:Nat}{d:HO}(I:gA X cA B H s)(g:QP (H a))(h:yH a s.heap c)(i:∃q,c.get? a=aA q)(new:lD X.prog X.w (GA H a d) c a d) :
  gA X cA B (GA H a d) { s with heap:=c,toks:=f } :=
 I.write (x:=a) (e:=a) g (.inl rfl) (λb q j z=>(h.2 b j).trans z) i new
end
def js{X:Cx}{cA:List (iA×kB)}{B:St}{H:Hp}{s:CA}{a:iA}{y:V}{o:Option V}(I:gA X cA B H s)(g:fL H a y o):s.TypeIs (.ref a) "dict":=by
 rcases g with ⟨b,k,e,_,_⟩ | g
 .let(_,_,d,_,c):=VX I.LA e;exact c.typeIs
 .exact g.elim
end L2
namespace CI
open PySem PySem.Spec PyProof.Rows L2
set_option tactic.hygienic true in
def zo(l:List jA)(h:TriplesOk l)(e:codeAmong pos (l++[rawInt a,rawInt b,c])=aA f):codeAmong pos l=aA f\/f=c:=by
 fun_induction TriplesOk l with
 |case1 =>
  erw[tP,rawInt,codeAmong] at e;split at e
  .cases e;exact .inr rfl
  .cases e
 |case2 i t j u x aAj g =>
  erw[Uk,codeAmong] at e ⊢;split at e
  .rename_i d;rw[RA d];exact .inl e
  .rename_i d;rw[if_neg d];exact g h e
 |case3 l k m=>exact h.elim
section
variable{X:Cx}{cA:List (iA×kB)}{B:L2.St}{H:Hp}{s:CA}
structure KW(X:Cx)(c P:iA)(q:fA):Prop where
 code:X.env.code=.ref c
 hd:vP X.base c P
 bt:X.base.BuiltinsAt X.mg P
 Md:X.base.get? P=eA
 tb:∃t,X.H₀ P=aA (.JD [.str q t].toArray)
def JW(H:Hp)(h:DB)(P:iA)(q:fA)(c:jA):Prop:=∃b oc a t,c=.ref b/\H b=aA (.own P)/\h.get? b=aA oc/\oc.data=.fields a/\a[1]?=aA (.str q t)
abbrev xJ(X:Cx)(c:fA)(a:JS)(body:xA)(b:PD)(d:List (fA×iA))(f e:jA):kB :=
 { cls:=.type "function",data:=.func (V6 "<lambda>" c a body b d ((X.mg "__name__").getD .none) f e) }
def Z_(L:KW X c P q)(I:gA X cA B H s)(R:closureFor g X.env=pure k)
  (h:∀(f:iA) (i O:jA) (l:DB) (F:Nat) (U:Hp),(∀b o,H b=aA o->U b=aA o)->(∀b o,s.heap.get? b=aA o->H b=eA->U b=eA)->(∀b o,b≠P->s.heap.get? b=aA o->l.get? b=aA o) ->
   s.heap.get? f=eA->l.get? f=aA (xJ X q a body g k O i)->U f=eA->JW U l P q O->gA X cA B U { s with heap:=l,toks:=F }->Q (.ref f) { s with heap:=l,toks:=F }) :
  sA (~~~X) X.A (makeFunction "<lambda>" q a (.expr body) g X.env [] [] [] pos fl) Q E s:=by
 let(t0,LZ):=L.tb;let(more,J):=I.base.sH P _ LZ;let(qs,eP,ht,hq):=I.LA P _ J;have hg:s.heap.Ns cB X.mg:=I.mod.glob.keeps I.bk;have nP:∀b o,X.base.get? b=aA o->b≠P:=λb o e z=>by rw[z,L.Md] at e;cases e
 have gP:cB≠P:=by(let(o,_,_,e,_):=I.mod.glob;exact nP _ o e)
 have Y:s.heap.BuiltinsAt X.mg P:=by(let(bm,o,b1,b2,b3,b4,b5,b6):=L.bt;exact#[bm,o,b1,b2,b3,b4,I.bk _ _ b5,b6])
 have C:vP s.heap c P:=L.hd.keeps I.bk
 cases Z:codeAmong pos qs.toList with
 |some O =>
  refine PySem.W.kla_makeFunctionHit (mg:=X.mg) R I.ok.glob hg L.code C eP ht Z Y λi l F hk KZ=>?_
  let(j,oc,vs,q',t1,t2,rfl,z2,z3,z4,z5,z6):=hq pos O Z;have K:∀b o,s.heap.get? b=aA o->(l.push (xJ X q a body g k (.ref j) i)).get? b=aA o:=λb o e=>aC _ (hk b o e)
  have Ex:q'=q:=by
   have:([Value.str q t0].toArray++more)[0]?=aA (Value.str q t0):=sj (Vk 0)
   rw[this] at z6;cases z6;rfl
  subst Ex
  exact h l.objs.size i (.ref j) _ F H (λ_ _ e=>e) (λ_ _ _ e=>e) (λb o _ e=>K b o e) (dP KZ) (MD _ rfl) (I.LA.fresh KZ)
   #[j,oc,vs,t1,rfl,z2,K _ _ z3,z4,z5] (I.kept K)
 |none =>
  refine PySem.W.kla_makeFunction (mg:=X.mg) R I.ok.glob hg L.code C eP ht Z gP Y λj i l F hx M ux Jx y=>?_
  let(c2,oc,vs,t,e2,N,hd,hv):=Jx;cases e2;have p:∀b o,b≠P->s.heap.get? b=aA o->(l.push (xJ X q a body g k (.ref j) i)).get? b=aA o:=λb o n e=>aC _ (hx b o n e)
  have Iw:P<s⁻¹:=VB eP;have hcP:j≠P:=λz=>UI _ (ME Iw (dD M (AS z)))
  have old:∀b o,s.heap.get? b=aA o->b≠j:=λb o e z=>UI _ (ME (VB e) (dD M (AS z.symm)))
  have Qw:H j=eA:=I.LA.fresh M;have Gw:X.env.locals≠P:=λz=>by have:=I.free;rw[z,J] at this;cases this
  have lU:s⁻¹<=l.objs.size:=by lia
  have new:∀b o,H b=aA o->GA H j (.own P) b=aA o:=λb o e=>by rw[jB (IE e Qw)];exact e
  have I2:gA X cA B (GA H j (.own P)) { s with heap:=l.push (xJ X q a body g k (.ref j) i),toks:=F }:=by
   refine I.step (g':=s.gens) (d':=s.drawn) (ch:=[]) nofun (λb o _ _ _ e n=>p b o (λz=>by rw[z,J] at n;cases n) e) (λb o _ _ _ e n=>#[o.slots,p b o (λz=>by rw[z,J] at n;cases n) e])
    (λb o _ e n=>by rw[jB (old b o e)];exact n) (λb o _ e=>?_) (λb xs e=>new b _ e) (λb o u e=>new b _ e) (λb ps e=>#[[].toArray,by rw[new b _ e];simp]) (λm Z=>?_) (λb u e=>?_) I.bare
   .by_cases Y:b=P
    .subst Y;exact#[_,aC _ y]
    .exact#[o,p b o Y e]
   .exact(Z.extBut hx Gw).push _
   .by_cases za:b=j
    .subst za;rw[jC] at e;cases e;exact#[oc,aC _ N]
    .rw[jB za] at e;by_cases ya:b=P
     .subst ya;rw[J] at e;cases e;refine#[_,aC _ y,by rw[fP];exact TriplesOk_snoc _ _ _ _ ht,λpos' O z=>?_];rw[fP] at z;rcases zo _ ht z with z | rfl
      .let(c3,o3,vs3,q3,t3,t4,z1,z2,z3,z4):=hq pos' O z;exact#[c3,o3,vs3,q3,t3,t4,z1,new _ _ z2,p _ _ (λz=>by rw[z,J] at z2;cases z2) z3,z4]
      .exact#[j,oc,vs,q,t,t0,rfl,jC,aC _ N,hd,hv,sj (Vk 0)]
     .refine(I.LA b u e).AE (λd v x r=>p d v (λz=>?_) r) (λd r=>new d _ r) λd xs r=>new d _ r
      rcases x with x | x
      .exact ya (x.symm.trans z)
      .rw[z,J] at x;cases x
  refine h l.objs.size i (.ref j) _ F _ new (λb o e n=>by rw[jB (old b o e)];exact n) p (dP lU) (MD _ rfl) ?_ #[j,oc,vs,t,rfl,jC,aC _ N,hd,hv] I2;rw[jB (yS ux)];exact I.LA.fresh lU
end
section
variable{s:CA}
abbrev aR(q:fA)(a:PD)(L f:iA)(b:jA)(cl:List (fA×iA)):Env:=PySem.W.envX q a L f b cl
noncomputable def gE(X:Cx)(q:fA)(a:PD)(f:iA)(c:jA)(cl:List (fA×iA))(d:List fA)(s:CA)(H:Hp):Cx where
 prog:=X.prog
 w:=X.w
 K:=X.K
 mg:=X.mg
 base:=X.base
 A:=X.A.deeper (aR q a s⁻¹ f c cl)
 N:=d
 s₀:=s
 H₀:=H
 env:=aR q a s⁻¹ f c cl
 outer:=X.stack
 stack:=aR q a s⁻¹ f c cl::X.stack
 ex:=[]
 calm:=bA
 fn:=λ_=>dA
 pn:=[]
 xe:=λe g=>sA (~~~X) (X.A.deeper (aR q a s⁻¹ f c cl)) (leaving (aR q a s⁻¹ f c cl) e) (λ_ b=>X.xe e b) (λh b=>X.xe h b) g
structure SH(H:Hp)(h:DB)(scope:PD)(cl:List (fA×iA))(N':List fA)(vs:List V):Prop where
 len:vs.length=N'.length
 kind:scope.kind=.function
 cell:∀y∈scope.names,y.2≠.cell
 inj:∀x y c,cl.lookup x=aA c->cl.lookup y=aA c->x=y
 has:∀p∈scope.names,p.2=.free->∃c,cl.lookup p.1=aA c
 is:∀x c,cl.lookup x=aA c->(∃v,h.IsCell c v)/\H c=eA
 val:∀(i:Nat) x v,N'[i]?=aA x->vs[i]?=aA v->scope.names.lookup x=aA .free/\∃c u,cl.lookup x=aA c/\h.IsCell c (aA u)/\aAe v u
def sy(I:gA X cA B H s)(hh:X.A.handled=eA)(C:SH H s.heap d cl j n)
  (m:fA->Option jA) (t:w.Ns s⁻¹ m) (y:yH s⁻¹ (s.heap.push Q) w) :
  gA (gE X q d f M cl j s H) [] (start j n) H { s with heap:=w,toks:=tk }:=by
 have old:∀b o,s.heap.get? b=aA o->w.get? b=aA o:=λb o e=>(y.2 b (AD (VB e))).trans (aC _ e)
 have ok:(gE X q d f M cl j s H).Ok:=by
  refine#[I.ok.mod,C.kind,rfl,rfl,uB _,C.inj,λx k=>?_,λx c h=>(nomatch h),λ_=>hh,Vj I.ok.frames,.inr #[rfl,rfl],λb l=>(nomatch l),λb o e=>I.bs b o e,dD I.ok.cH I.sz,λb o _ l=>(nomatch l),λb l=>(nomatch l),I.stack,I.LR];have k:d.names.lookup x=aA .cell\/d.names.lookup x=aA .free:=k;rcases k with k | k
  .exact absurd rfl (C.cell _ (rN k))
  .exact C.has _ (rN k) rfl
 refine#[ok,rfl,I.bare,Un.kept old,#[m,t,λi x v K g _=>?_],λx c e=>?_,I.LA.fresh (uB _),λx c e=>(C.is x c e).2,λp N=>(nomatch N),I.LA.kept old, ?_]
 .have g:n[i]?=aA v:=by
   unfold L2.start at g;rw[C.len,show j.length-j.length=0 from zP _,r6,RD,ND] at g
   cases z:n[i]? with
   |none=>rw[z] at g;cases g
   |some a=>rw[z] at g;cases g;rfl
  obtain⟨O,c,u,P,⟨o,F,J⟩,r⟩:=C.val i x v K g;exact#[u,r,.inr #[.inr O,c,P,o,old _ _ F,J]]
 .obtain⟨⟨v,o,F,J⟩,_⟩:=C.is x c e;exact#[v,o,old _ _ F,J]
 .show(start j n).length=j.length;unfold L2.start;rw[C.len,zP,r6,RD,pA,C.len]
def j'(I:gA X cA B H s)(t:YB k X.A)(C:SH H s.heap a cl d y)
  (F:s.heap.get? f=aA (xJ X q c body a cl g l)) (m:s.heap.CodeRec g q) (M:bindArgs (V6 "<lambda>" q c body a cl ((X.mg "__name__").getD .none) g l) #[[],[]]=pure [])
  (n:a.isCoroutine=dA) (i:a.isGenerator=dA)
  (h:∀z,gA (gE X q a f g cl d s H) [] (start d y) H z->sA (~~~X) (gE X q a f g cl d s H).A (eval body (gE X q a f g cl d s H).env) (EP (gE X q a f g cl d s H) [] (start d y) Q) (gE X q a f g cl d s H).xe z) :
  sA (~~~X) X.A (call (.ref f) []) (EP X cA B Q) X.xe s:=by
 refine CP (PySem.W.kla_callFunE t.depth F rfl n i rfl m ?_);rw[M];refine ZA (Wj C.cell (λx K=>(nomatch K)) (λN p j=>?_) C.kind);have old:∀b o,s.heap.get? b=aA o->N.get? b=aA o:=λb o e=>(j.2 b (AD (VB e))).trans (aC _ e)
 refine#[I.nolimit.keeps old,PySem.W.kla_codeExpr (yF (h _ (sy I t.hd C _ p j)) (λu O r=>?_) λe O r=>r)];let(v,P,J,R,U):=r;exact I.after #[v,P,J.os,J.bare,J.base,J.LA,R,U]
end
section
variable{X:Cx}{cA:List (iA×kB)}{B:L2.St}{H:Hp}{s:CA}
def gIa(L:KW X c P q)(y:Gl X x)(C:X.mg x=aA (.ref fs))(hk:nG X.K (.ref fs)=bA)
  (n:closureFor d X.env=pure j) (F:X.env.qual ++ "<lambda>"=q) (k:defaultsOf a X.env=([],[])) (r:(x==("__debug__":fA))=dA) (u:WB [Expr.Lambda a body d g] X.env=(dA,eval (.Lambda a body d g) X.env)::WB [] X.env)
  (t:(BE pos (WB [] X.env)).any (·.1)=dA) (I:gA X cA B H s)
  (run:∀(f:iA) (h m:jA) (l:CA) (i:Hp),gA X cA B i l->(∀b o,H b=aA o->i b=aA o)->(∀b o,s.heap.get? b=aA o->H b=eA->i b=eA)->(∀b o,b≠P->s.heap.get? b=aA o->l.heap.get? b=aA o) ->
   l.heap.get? f=aA (xJ X q a body d j m h)->i f=eA->f ∉ BD X.stack->JW i l.heap P q m->sA (~~~X) X.A (call (.ref fs) [.ref f]) (EP X cA B Q) X.xe l) :
  sA (~~~X) X.A (eval (.Call (.Name x p) [.Lambda a body d g] [] pos) X.env) (EP X cA B Q) X.xe s:=by
 refine WL (ZM I y C ?_ r);refine aS (h₀:=X.base) I.ok.mod.kin hk ?_ u t;rw[u];refine Calls.spliced_cons (PySem.W.kla_eval k ?_);rw[F];refine Z_ L I n λf h m Z tk i J M N O R U Y v=>?_
 refine Calls.spliced_nil #[v.vD, ?_];refine run f h m _ i v J M N R U (λz=>?_) Y;let(_,o,e,_):=I.stack.mem z;rw[O] at e;cases e
end
def sD(H:Hp)(a b:iA):Prop:=b=a\/H b=aA (.own a)
noncomputable def CD(H:Hp)(a:iA)(F:Hp):Hp:=λb=>@ite _ (sD H a b) (V5 _) eA (F b)
noncomputable def yG(H:Hp)(a:iA)(F c:Hp):Hp:=λb=>@ite _ (sD H a b) (V5 _) (F b) (c b)
section
variable{o:HO}
def qO(z:sD H a b):CD H a F b=eA:=RA z
def XF(z:¬sD H a b):CD H a F b=F b:=if_neg z
def IL(z:sD H a b):yG H a F c b=F b:=RA z
def zG(z:¬sD H a b):yG H a F c b=c b:=if_neg z
def Ka(e:CD H a F b=aA o):F b=aA o/\¬sD H a b:=by
 by_cases z:sD H a b
 .rw[qO z] at e;cases e
 .rw[XF z] at e;exact#[e,z]
def sx(c:H a=aA (.JD i))(ok:FC f w H h):FC f w (CD H a H) h:=λb u e=>by
 let(g,z):=Ka e;refine(ok b u g).AE (λ_ _ _ r=>r) (λd hd=>?_) λd j hd=>?_
 .rw[XF (λy=>?_)];exact hd;rcases y with y | y
  .rw[y,c] at hd;cases hd
  .rw[y] at hd;cases hd;exact z (.inl rfl)
 .rw[XF (λy=>?_)];exact hd;rcases y with y | y
  .rw[y,c] at hd;cases hd
  .rw[y] at hd;cases hd
def dNa(d:H a=aA (.JD p))(r:∀b∈fs,H b=eA)(u:Un fs [] (CD H a H) k h l):Un fs [] H (yG H a H k) h l:=by
 have j:∀b,H b=eA->¬sD H a b:=λb n z=>by
  rcases z with z | z
  .rw[z,d] at n;cases n
  .rw[n] at z;cases z
 have f:∀b,H b=eA->CD H a H b=eA:=λb n=>by rw[XF (j b n)];exact n
 refine#[λb o e n g c=>u.keep b o e (f b n) g c,λb o e n g c=>u.slot b o e (f b n) g c,λb o e n c=>by rw[zG (j b n)];exact u.free b o e (f b n) c,u.there,λb m e=>?_,λb o v e=>?_,λb i e=>?_]
 .have z:¬sD H a b:=λz=>by
   rcases z with z | z
   .rw[z,d] at e;cases e
   .rw[z] at e;cases e
  rw[zG z];exact u.QI b m (by rw[XF z];exact e)
 .have z:¬sD H a b:=λz=>by
   rcases z with z | z
   .rw[z,d] at e;cases e
   .rw[z] at e;cases e
  rw[zG z];exact u.bI b o v (by rw[XF z];exact e)
 .by_cases z:sD H a b
  .exact#[[].toArray,by rw[IL z,e];simp]
  .let(more,q):=u.sH b i (by rw[XF z];exact e);exact#[more,by rw[zG z];exact q]
def cNa(g:H a=aA (.JD O))(A:∀b∈fs,H b=eA)(ok:FC p w H h)(u:Un fs [] (CD H a H) i h j)(k:FC p w i j):FC p w (yG H a H i) j:=by
 have l:∀b o,sD H a b->h.get? b=aA o->j.get? b=aA o:=λb o z e=>u.keep b o e (qO z) (λy=>by
  have:=A b y
  rcases z with z | z
  .rw[z,g] at this;cases this
  .rw[this] at z;cases z) (by simp)
 have off:∀b o,h.get? b=aA o->sD H a b->i b=eA:=λb o e z=>u.free b o e (qO z) (by simp)
 intro b v e;by_cases z:sD H a b
 .rw[IL z] at e;rcases z with rfl | z
  .rw[g] at e;cases e;let(s,m,t,q):=ok b _ g;refine#[s,l _ _ (.inl rfl) m,t,λpos B r=>?_];let(c,o,C,F,I,J,K,n,M,N):=q pos B r;exact#[c,o,C,F,I,J,K,by rw[IL (.inr n)];exact n,l _ _ (.inr n) M,N]
  .rw[z] at e;cases e;let(o,r):=ok b _ z;exact#[o,l _ _ (.inr z) r]
 .rw[zG z] at e
  have x:∀d o,i d=aA o->¬sD H a d:=λd o hd y=>by
   have:∃f,h.get? d=aA f:=by
    rcases y with rfl | y
    .let(s,m,_):=ok d _ g;exact#[_,m]
    .let(f,r):=ok d _ y;exact#[f,r]
   let(f,r):=this;rw[off d f r y] at hd;cases hd
  exact(k b v e).AE (λ_ _ _ r=>r) (λd hd=>by rw[zG (x d _ hd)];exact hd) λd P hd=>by rw[zG (x d _ hd)];exact hd
def CE.show(x:H a=aA (.JD J))(y:∀b∈BD outer,H b=eA)(ok:FC B w H s.heap)(c:CE outer B w (CD H a H) s (λv j=>Q v (yG H a H j)) u C):CE outer B w H s Q u C:=by
 let(v,j,F,I,un,m,r,q):=c;exact#[v,yG H a H j,F,I,dNa x y un,cNa x y ok un m,r,q]
end
section
variable{X:Cx}
def SH.later(I:gA X cA B H s)(hx:X.ex=[])(C:SH X.H₀ X.s₀.heap j cl m r):SH H s.heap j cl m r:=by
 have cell:∀c v,X.H₀ c=eA->X.s₀.heap.IsCell c v->s.heap.IsCell c v:=λc v n y=>by(let(o,ho,hd):=y;let(sl,e):=I.base.any ho n (by rw[hx];simp);exact#[_,e,hd])
 refine#[C.len,C.kind,C.cell,C.inj,C.has,λx c e=>?_,λi x v F J=>?_]
 .obtain⟨⟨v,z⟩,n⟩:=C.is x c e;let(o,ho,_):=id z;exact#[#[v,cell c v n z],I.base.free c o ho n (by rw[hx];simp)]
 .let(h1,c,u,h2,h3,M):=C.val i x v F J;exact#[h1,c,u,h2,cell c _ (C.is x c h2).2 h3,M]
def pIa{k i:Nat}{n:TE}(Y:X.N[i]?=aA y)(Z:PN X.env.scope y)(o:X.ex=[])(hr:YB k X.A)
  (hf:X.s₀.heap.get? f=aA (xJ X q a body scope cl (.ref b) v)) (nf:X.H₀ f=eA) (ff:f ∉ X.fs) (hc:X.s₀.heap.get? b=aA oc) (hd:oc.data=.fields g) (hq:g[1]?=aA (.str q t)) (nc:X.H₀ b=eA) (C:SH X.H₀ X.s₀.heap scope cl c R)
  (hb:∀h,bindArgs (V6 "<lambda>" q a body scope cl ((X.mg "__name__").getD .none) (.ref b) h) #[[],[]]=pure []) (z:scope.isCoroutine=dA) (j:scope.isGenerator=dA)
  (d:∀cA B H s Q,gA X cA B H s->n B H Q->∀m,gA (gE X q scope f (.ref b) cl c s H) [] (L2.start c R) H m->sA (~~~X) (gE X q scope f (.ref b) cl c s H).A (eval body (gE X q scope f (.ref b) cl c s H).env) (EP (gE X q scope f (.ref b) cl c s H) [] (L2.start c R) Q) (gE X q scope f (.ref b) cl c s H).xe m) (F:(y==("__debug__":fA))=dA:=by decide) (J:(y==("__classdict__":fA))=dA:=by decide) :
  PE X (.Call (.Name y p) [] [] pos) (λB H Q=>B[i]?=aA (aA (.ref f))/\n B H Q):=by
 intro cA s B H Q I #[hB,ht];refine WL (UA (sR Y Z F J cA s B H (λx K=>x=.ref f/\n B K Q) I #[_,hB,rfl,ht]) λu M hz=>?_);let(x,K,l,r,O,P):=hz;subst O;obtain rfl:u=Value.ref f:=r;have U:M.heap.get? f=aA (xJ X q a body scope cl (.ref b) v):=l.base.keep f _ hf nf ff (by rw[o];simp)
 have ec:M.heap.CodeRec (.ref b) q:=by(let(sl,e):=l.base.any hc nc (by rw[o];simp);exact#[b,_,g,t,rfl,e,hd,hq])
 refine PySem.W.callWith_F0 #[_,_,_,_,U] ?_;exact j' l hr (C.later l o) U ec (hb _) z j λm I2=>d cA B K M Q l P m I2
end
def gU(n:F b=eA):CD H a F b=eA:=by
 by_cases z:sD H a b
 .exact qO z
 .rw[XF z];exact n
def Ws{K:kA}(c:H a=aA (.JD d))(e:gJ P w K mg base A outer s H):gJ P w K mg base A outer s (CD H a H) :=
 #[e.frames,e.mod,λb o q=>#[(e.bs b o q).1,gU (e.bs b o q).2],e.cH,e.kF,λb q=>gU (e.aI b q),sx c e.LA,e.bare]
def Mv{K:kA}{Z kV p pm d ct oc:jA}{an od:Option iA}
  {C:Array (Option jA)} (lk:K.lookup f=aA #[oc,od,.func (PF name c g body a Z kV p pm an d ct),C]) (F:WK K d c=bA) (S:sI N M a)
  (hr:YB (k+1) A) (t:gJ P w K mg base A outer s H) (hb:LS s (PF name c g body a Z kV p pm an d ct) args (M.zip us)) (r:aAc O us) (hl:O.length=M.length)
  (i:∀B,gA (bD j P w K mg base N c a f d A outer s H E) [] (L2.start N O) H B ->
   sA (model P w) (bD j P w K mg base N c a f d A outer s H E).A (execs body (bD j P w K mg base N c a f d A outer s H E).env) (SP (bD j P w K mg base N c a f d A outer s H E) [] { nx:=λ_ _=>False,rt:=λv h=>(∀b o,s.heap.get? b=aA o->H b=eA->h b=eA)->Q v h }) (bD j P w K mg base N c a f d A outer s H E).xe B) :
  mI (model P w) A (.call (.ref f) args) (CR j outer P w H s Q E) s:=by
 have KX:K.In s.heap:=t.mod.kin.keeps λb o e=>(t.bs b o e).1
 have R:s.heap.NoLimit:=t.mod.nolimit.keeps λb o e=>(t.bs b o e).1
 have l:∀y∈M.zip us,a.names.lookup y.1=aA .local\/(a.names.lookup y.1=aA .cell/\((cellsFrom (s⁻¹+1) a.names []).lookup y.1).isSome=bA):=fun#[n,v] hy=>by
  rcases S.par n (fW hy).1 with q | q
  .exact .inl q
  .exact .inr #[q,Z5 _ _ _ (.inl q)]
 refine Hj hr.depth (KX _ _ lk) rfl S.co S.gen rfl (wk KX F) (hb _ _ _ _ ?_);refine qj S.kind l λenv he B x=>?_
 subst he;refine#[R.keeps x.toInCall.keep,codeAny_func ?_];have I:gA (bD j P w K mg base N c a f d A outer s H E) [] (L2.start N O) H B:=cb S hr.hd t hl r x;refine yF (i B I) (λfl U m=>?_) λe U m=>m
 have fin:∀{X:L2.St} {h:Hp} {v:V} {u:jA},gA (bD j P w K mg base N c a f d A outer s H E) [] X h U->aAe v u->Q v h->CE outer P w H s Q u U :=
  λ{X h v u} J Y q=>#[v,h,J.os,J.bare,J.base,J.LA,Y,q]
 cases fl with
 |ret u =>
  let(v,X,h,J,Y,q):=m;exact fin J Y (q λb o e n=>J.base.free b o e n (by intro z;exact nomatch z))
 |next =>
  let(_,_,_,q):=m;exact lE q
 |brk =>
  let(_,_,_,q):=m;exact lE q
 |cont =>
  let(_,_,_,q):=m;exact lE q
section
variable{X:Cx}{cA:List (iA×kB)}{B:L2.St}{H:Hp}{s:CA}
def Pq{P fs:iA}{x kV j pm d ct oc:jA}(I:gA X cA B H s)(p:H P=aA (.JD F))
  (M:X.K.lookup fs=aA #[oc,od,.func (PF name c g body a x kV j pm O d ct),R]) (t:WK X.K d c=bA) (S:sI N C a) (U:YB (k+1) X.A)
  (Y:LS s (PF name c g body a x kV j pm O d ct) #[us,[]] (C.zip us)) (r:aAc vs us) (Z:vs.length=C.length)
  (h:∀n,gA (bD SD X.prog X.w X.K X.mg X.base N c a fs d X.A X.stack s (CD H P H) λ_ _ _=>False) [] (L2.start N vs) (CD H P H) n ->
   sA (~~~X) (bD SD X.prog X.w X.K X.mg X.base N c a fs d X.A X.stack s (CD H P H) λ_ _ _=>False).A (execs body (bD SD X.prog X.w X.K X.mg X.base N c a fs d X.A X.stack s (CD H P H) λ_ _ _=>False).env)
    (SP (bD SD X.prog X.w X.K X.mg X.base N c a fs d X.A X.stack s (CD H P H) λ_ _ _=>False) [] { nx:=λ_ _=>False,rt:=λv i=>(∀b,sD H P b->i b=eA)->Q v (yG H P H i) }) (bD SD X.prog X.w X.K X.mg X.base N c a fs d X.A X.stack s (CD H P H) λ_ _ _=>False).xe n) :
  sA (~~~X) X.A (call (.ref fs) us) (EP X cA B Q) X.xe s:=by
 refine CP (iM (Mv (Q:=λv i=>Q v (yG H P H i)) M t S U (Ws p I.TF) Y r Z λn J=>UA (h n J) λf s2 o=>?_) λr s' l=>?_)
 .cases f with
  |ret u =>
   let(v,B',i,J,rv,q):=o;refine#[v,B',i,J,rv,λk=>q λb z=>?_]
   have:∃m,s.heap.get? b=aA m:=by
    rcases id z with rfl | y
    .let(qs,e1,_):=I.LA _ _ p;exact#[_,e1]
    .let(m,r):=I.LA _ _ y;exact#[m,r]
   let(m,r):=this;exact k b m r (qO z)
  |next=>exact o
  |brk=>exact o
  |cont=>exact o
 cases r with
 |error e=>exact lE l
 |ok fl =>
  cases fl with
  |ret u=>exact I.after (CE.show p I.LR I.LA l)
  |next=>exact lE l
  |brk=>exact lE l
  |cont=>exact lE l
end
end CI
namespace L2
open PySem PySem.Spec PyProof.Rows
abbrev xB:=Int×List Int
section
variable{h:DB}
def VD(P:KD)(w:cD)(h:DB)(k:xB)(a:iA):Prop:=∃(t:Tok) (b:iA),PJ h a [.int k.1 t,.ref b].toArray/\IsTupleKey (intKind P w) h k.2 b
noncomputable def EZ(P:KD)(w:cD)(k:xB):Int:=reduceHash (Q5 [hashInt k.1,tupleKeyHash (intKind P w) k.2])
theorem VD.inj(hx:VD P w h x a)(r:VD P w h y a):x=y:=by
 obtain⟨t,b,⟨o,e,_,n,d⟩,u⟩:=hx;obtain⟨B,C,⟨J,j,_,M,m⟩,F⟩:=r;rw[e] at j;cases j;rw[d] at m;have z:=(Data.seq.inj m).1;have H:Value.int x.1 t=Value.int y.1 B:=congrArg (λ(q:Array jA)=>q.getD 0 .none) z;have I:Value.ref b=Value.ref C:=congrArg (λ(q:Array jA)=>q.getD 1 .none) z;cases I;exact Prod.ext (Value.int.inj H).1 ((tupleKind (intKind P w)).inj u F)
theorem VD.keeps(hk:VD P w h k a)(e:h.get? d=aA o)(j:o.data=.dict C F)(m:yH d h x):VD P w x k a:=by
 obtain⟨t,b,⟨y,r,c,n,u⟩,B⟩:=hk
 have ne:a≠d:=λz=>by(subst z;rw[r] at e;cases e;rw[u] at j;cases j)
 exact#[t,b,#[y,(m.2 a ne).trans r,c,n,u],(tupleKind (intKind P w)).keeps B e j m]
noncomputable def DL(k:xB):PyData:=.tuple [.int k.1,.tuple (k.2.map .int)]
def az{a:List Int}{b:List jA}(q:W6 (intKind P w) a b):∃as,ReadsAll h b (a.map .int) as:=by
 induction q with
 |nil=>exact#[_,.nil]
 |cons hk t c =>
  let(as,r):=c;let(d,rfl):=A6 hk;exact#[_,.cons (.int _ _) r]
def VD.reads(hk:VD P w h k a):∃as,Reads h (.ref a) (DL k) as:=by
 obtain⟨t,b,⟨o,e,c,n,d⟩,o2,j,n2,m,u,x,y⟩:=hk;let(as,r):=az y;exact#[_,.tuple e c d (.cons (.int _ _) (.cons (.tuple m u x r) .nil))]
def nHa{a:List Int}:kP (a.map .int)=bA:=by
 induction a with
 |nil=>simp[kP]
 |cons n a b=>simp[kP,fM,b]
def Be{k:xB}:(DL k).canLay0=bA:=by simp[DL,fM,kP,nHa]
def mHa{ns:List Int}:nS (ns.map .int)<=1:=by
 induction ns with
 |nil=>simp[nS]
 |cons n ns a=>simp[nS,CN];omega
def kHa{k:xB}:(DL k).depth<=5:=by
 have:=mHa (ns:=k.2)
 simp[DL,CN,nS]
 lia
theorem Ce:∀{a b:List Int},AN (a.map .int) (b.map .int)=decide (a=b)
 |[],[]=>by simp[AN]
 |[],_::_=>by simp[AN]
 |_::_,[]=>by simp[AN]
 |n::a,m::b=>by(rw[vB,vB,AN,Ce];erw[FP,R6,ml];congr 1)
def lHa:(DL x).eqv (DL y)=decide (x=y):=by
 let(a,as):=x;let(b,bs):=y;erw[DL,FP,AN,Ce,mW,cF,ml];congr 1
def Ys(d:a=b->c=bA)(r:SeqAt.RcAt A s (.ref a) (.ref b) c)(q:Q c s):sA (model P w) A (eqBool (.ref a) (.ref b)) Q E s:=by
 unfold eqBool;refine VI ?_;by_cases e:a=b
 .subst e;rw[RA (by simp)];rw[d rfl] at q;exact tA (yW (ZA q))
 .rw[if_neg (↑e)];exact tA (r P w E _ (QK q))
theorem VD.eqBool(hu:A.units+8<cLine)(hx:VD P w s.heap x a)(j:VD P w s.heap y b)(q:Q (decide (x=y)) s):sA (model P w) A (eqBool (.ref a) (.ref b)) Q E s:=by
 let(as,m):=hx.reads;let(bs,r):=j.reads;have u:=kHa (k:=x);refine Ys (λe=>zB (by subst e;exact hx.inj j)) ?_ q;rw[<- lHa];exact Wk m r Be Be (by lia)
theorem VD.pyHash(hu:A.units+8<cLine)(hk:VD P w s.heap k a)(q:Q (EZ P w k) { s with toks:=s.toks+(k.2.length+3) }):sA (model P w) A (pyHash (.ref a)) Q E s:=by
 let(t,b,j,m):FA:=hk;show sA _ _ (pyHashByItsType (.ref a)) _ _ s;refine W.pyHash_slot j.typeIs F.slot_tuple_hash F.entry_tuple_hash (F.args_tuple_hash_1 _) rfl (.inr (by lia)) ?_;unfold aJ.«tuple.__hash__»;show sA _ _ (O5 (.ref a)>>=_) _ _ s;refine tA (f7 j ?_);rw[<- zk];erw[oS,Al,bind_assoc,pure_bind];refine tA (wpAny_pyHash_int ?_);refine tA (wpAny_pyHash_tuple (knd:=intKind P w) (by show A.units+1<cLine;lia) m ?_);refine tA (B7 (ZA #[_,_,rfl, ?_]));have e:s.toks+1+(k.2.length+1)+1=s.toks+(k.2.length+3):=by lia
 show Q (EZ P w k) { s with toks:=s.toks+1+(k.2.length+1)+1 };rw[e];exact q
def zf(i:PJ s.heap a b)(m:∀v∈b.toList,∀(R:Bool->CA->Prop),R bA s->sA (model P w) A (eqIsQuiet d v) R E s)(q:Q bA s):sA (model P w) A (eqIsQuiet (d+1) (.ref a)) Q E s:=by
 unfold eqIsQuiet;refine tA (S6 i.typeIs (PyProof.Rows.slot_tuple_eq.lookup) ?_);let(o,e,c,j):KA:=id i
 let(n,p):=j;show sA _ _ (isInstance (.ref a) (.type "tuple")>>=_) _ _ s;refine tA (O6 i.typeIs (by with_unfolding_all rfl) ?_);show sA _ _ (seqItems? (.ref a)>>=_) _ _ s;refine tA (wpAny_seqItems e p ?_)
 have key:∀{k:Option Bool×Unit->Sem Bool},sA (model P w) A (k (eA,())) Q E s->∀f:List jA,(∀v∈f,v∈b.toList)->sA (model P w) A (forIn f ((eA:Option Bool),()) (λy _=>do
    let v <- eqIsQuiet d y
    if(!v)=bA then pure (ForInStep.done (aA dA,())) else pure (ForInStep.yield (eA,())))>>=k) Q E s:=by
  intro k hk f
  induction f with
  |nil=>intro _;exact tA (ZA hk)
  |cons x f g =>
   intro l;have g:=g λv r=>l v (QD _ r)
   erw[oS,bind_assoc] at g ⊢;refine tA (m x (l x OF) _ ?_);erw[WI,YL,if_false,pure_bind];exact g
 show sA _ _ (forIn b _ _>>=_) _ _ s;rw[<- zk];exact key (ZA q) b.toList λ_ h=>h
def yf(q:Q bA s):sA (model P w) A (eqIsQuiet d (.int i t)) Q E s:=by
 unfold eqIsQuiet;exact ZA q
theorem xb:∀{c:List Int} {b:List jA},W6 (intKind P w) c b->∀v∈b,∃i t,v=.int i t
 |_,_,.nil=>λ_ h=>nomatch h
 |_,_,.cons hk r=>λv a=>by
  rcases jD.mp a with rfl | a
  .let(t,e):=A6 hk;exact#[_,t,e]
  .exact xb r v a
def VD.quiet(hk:VD P w s.heap k a)(q:Q bA s):sA (model P w) A (eqIsQuiet (d+2) (.ref a)) Q E s:=by
 let(t,b,x,u):FA:=hk;let(o2,j):=u;let(y,n2,B,C,F,H):fC:=j
 refine zf (d:=d+1) x (λv m R r=>?_) q;rcases jD.mp (show v∈[Value.int k.1 t,Value.ref b] from m) with rfl | m
 .exact yf r
 .rw[qD.mp m];refine zf #[o2,B,C,n2,F] (λv m R r=>?_) r;let(i,t,I):gD:=xb H v m
  obtain rfl:=I;exact yf r
abbrev MB:=xB ⊕ Empty
noncomputable def gk:MB->xB:=Sum.elim id Empty.elim
def ua{x y:MB}(h:gk x=gk y):x=y:=by
 obtain x | x:=x
 .obtain y | y:=y
  .exact congrArg Sum.inl h
  .cases y
 .cases x
end
def MF(P:KD)(w:cD):HeapKind P w MB where
 is:=λh k a=>VD P w h (gk k) a
 hash:=λk=>EZ P w (gk k)
 draws:=λk=>(gk k).2.length+3
 room:=λA=>A.units+10<cLine
 inj:=λb c=>ua (VD.inj b c)
 keeps:=λhk e f g=>VD.keeps hk e f g
 pyHash:=λhu hk q=>VD.pyHash (by lia) hk q
 eqBool:=λhu b c q=>VD.eqBool (by lia) b c ((qP.mpr #[ua,congrArg gk]).symm ▸ q)
 quiet:=λhk q=>VD.quiet (d:=6) hk q
abbrev fF:=List (MB×iA×jA)
noncomputable def Jw(k:xB):Int:=reduceHash (Q5 [hashInt k.1,reduceHash (Q5 (k.2.map hashInt))])
def hS(k:MB):Int:=Jw (gk k)
def y9(x:MB×iA×jA):DictEntry:={ hash:=hS x.1,key:=.ref x.2.1,val:=x.2.2 }
def cC(a:iA)(c:fF)(d:Nat)(h:DB):Prop:=∃o b,h.get? a=aA o/\o.ExactDict/\o.data=.dict b d/\b.toList=c.map y9
def NS(H:Hp)(a:iA)(b:fF):Prop:=∃c,H a=aA (.ext (cC a b c))
def lJ(K:kA)(H:Hp)(k:xB)(b:iA):Prop:=∃c,LC K H b [.int k.1,.ref c]/\LC K H c (k.2.map V.int)
def gC(K:kA)(H:Hp)(k:MB)(b:iA):Prop:=lJ K H (gk k) b
structure DS(K:kA)(H:Hp)(a:iA)(xs:fF):Prop where
 at_:NS H a xs
 nd:(xs.map (·.1)).Nodup
 len:xs.length<=sizeLine
 sm:(a==sysModules)=dA
 keys:∀x∈xs,gC K H x.1 x.2.1
section
variable{k:MB}
def lJ.is{k:xB}(I:gA X cA B H s)(e:lJ X.K H k b):VD X.prog X.w s.heap k b:=by
 let(c,x,y):rA:=e;let(C,r,F,_):KA:=I.tuple x
 obtain⟨j,J,⟨o,h1,h2,n,h3⟩,_⟩:=I.tuple y;let(u,v,rfl,ru,M):=aAH r;let(t,rfl):=ru;cases M;refine#[t,c,F,o,j.toArray,n,h1,h2,h3, ?_]
 have key:∀{ns:List Int} {m:List jA},aAc (ns.map V.int) m->W6 (intKind X.prog X.w) ns m:=by
  intro ns
  induction ns with
  |nil=>intro m q;cases q;exact .nil
  |cons n ns O =>
   intro m q;rw[vB] at q
   cases q with
   |cons P Q =>
    let(t,rfl):=P;exact .cons (by show xW n (.int n t)=bA;simp[xW]) (O Q)
 simpa using key J
theorem gC.is{k:MB}(I:gA X cA B H s)(e:gC X.K H k b):(MF X.prog X.w).is s.heap k b:=lJ.is I e
theorem z9:entryOfKey (MF P w)=y9:=rfl
def DS.dict(I:gA X cA B H s)(d:DS X.K H a xs):s.heap.DictOfH (MF X.prog X.w) a xs:=by
 let(j,e):=d.at_;obtain⟨⟨o,m,h1,h2,h3,r⟩,_⟩:=(show lD X.prog X.w H s.heap a (.ext (cC a xs j)) from I.LA a _ e)
 exact#[o,m,j,h1,h2,h3,by rw[z9];exact r,λx hx=>(d.keys x hx).is I,d.nd]
def cC.AE(r:cC a xs j h1)(k:∀o,h1.get? a=aA o->h2.get? a=aA o):cC a xs j h2:=by
 refine FA r λo m e r=>?_
 exact#[o,m,k o e,r]
def cC.ok(d:h.DictOfH (MF P w) a xs):∃m,∀H:Hp,lD P w H h a (.ext (cC a xs m)):=by
 let(o,u,j):gD:=d;let(m,h1,h2,h3,x,_):zD:=j
 exact#[m,λ_=>#[#[o,u,h1,h2,h3,by rw[<- z9];exact x],#[o,h1],λ_ _ r k=>r.AE k]]
def N4:(storedH xs k b v).length<=xs.length+1:=by unfold storedH;split<;>simp
def M4{T:MB->iA->Prop}(h:∀x∈d,T x.1 x.2.1)(hk:T k b):∀x∈storedH d k b v,T x.1 x.2.1:=by
 unfold storedH;split
 .intro x a;let(y,c,e):rA:=pE.mp a
  obtain rfl:=e;unfold putAt;split
  .exact h y c
  .exact h y c
 .intro x a;rcases QE.mp a with a | a
  .exact h x a
  .rw[qD.mp a];exact hk
def uNa(hu:A.units+11<cLine)(I:gA X cA B H s)(d:DS X.K H a f)(hk:gC X.K H k b)(e:atKey f k=aA p)(h:∀c,gA X cA B H c->Q p.2 c):sA (~~~X) A (getItem (.ref a) (.ref b)) Q E s :=
 wpAny_getItem_heap (show A.units+1+10<cLine by omega) (hk.is I) (d.dict I) e (h _ (I.tok _))
def vNa(hu:A.units+11<cLine)(I:gA X cA B H s)(d:DS X.K H a e)(hk:gC X.K H k b)(h:∀c,gA X cA B H c->Q (.bool (atKey e k).isSome) c):sA (~~~X) A (SE .In (.ref b) (.ref a)) Q E s :=
 wpAny_in_heap (show A.units+1+10<cLine by lia) (hk.is I) d.sm (d.dict I) (h _ (I.tok _))
def yNa(hu:A.units+11<cLine)(I:gA X cA B H s)(d:DS X.K H a e)(hk:gC X.K H k b)(h:∀c,gA X cA B H c->Q (.bool !(atKey e k).isSome) c):sA (~~~X) A (SE .NotIn (.ref b) (.ref a)) Q E s :=
 wpAny_notIn_heap (show A.units+1+10<cLine by lia) (hk.is I) d.sm (d.dict I) (h _ (I.tok _))
def Jd{h:DB}(d:h.DictOfH (MF P w) a e):(e.map (·.1)).Nodup:=by
 let(_,b):=d;let(_,_,_,_,c):pB:=b;let(_,_,_,f):oB:=c
 exact f
def zNa(hu:A.units+11<cLine)(I:gA X cA B H s)(d:DS X.K H a c)(hk:gC X.K H k b)(i:c.length<sizeLine)
  (h:∀j g,gA X cA B (GA H a (.ext (cC a (storedH c k b v) j))) g->((storedH c k b v).map (·.1)).Nodup->Q () g):sA (~~~X) A (setItem (.ref a) (.ref b) v) Q E s :=
 wpAny_setItem_heap (show A.units+1+10<cLine by lia) (hk.is I) (d.dict I) (λm f l=>let #[_,e]:=d.at_;let #[_,w]:=cC.ok f;h _ _ (r9 I (by rw[e];exact True.intro) l (let #[o,_,_,e,_]:=f;#[o,e]) (w _)) (Jd f)) (qW i)
def Gf(h:DB):lD P w H (h.push { cls:=.type "dict",data:=.dict [].toArray }) h.objs.size (.ext (cC h.objs.size [] 0)) :=
 #[#[_,[].toArray,MD _ rfl,#[rfl,rfl,rfl],rfl,rfl],#[_,MD _ rfl],λ_ _ r k=>r.AE k]
def dIa:PE X (.Dict [] [] pos) (λ_ H Q=>∀p,H p=eA->(p==sysModules)=dA->Q (.ref p) (GA H p (.ext (cC p [] 0)))):=λcA s B H Q I q =>
 wpAny_Dict_empty #[.ref s⁻¹,_,I.laid (a:=s⁻¹) (o:=.ext (cC s⁻¹ [] 0)) (t':=s.toks) (λ_ _ q=>aC _ q) (uB _) (Gf s.heap),rfl,q _ (I.LA.fresh (uB _)) (lM.mpr (rD (AD I.big)))]
def yQa(K:kA)(c d:TE):TE:=λB H Q=>∀p,H p=eA->(p==sysModules)=dA->c B (GA H p (.ext (cC p [] 0))) λx e=>d B e λy a=>a p=aA (.ext (cC p [] 0))/\∃k b,x=.ref b/\gC K a k b/\∀v,aAe y v->∀f,Q (.ref p) (GA a p (.ext (cC p [(k,b,v)] f)))
def eIa(hu:X.A.units+11<cLine)(hk:PE X h i)(j:PE X l m):PE X (.Dict [aA h] [l] pos) (yQa X.K i m):=by
 intro cA s B H Q I q;have n:=I.LA.fresh (uB s⁻¹);have f:(s⁻¹==sysModules)=dA:=lM.mpr (rD (AD I.big));have p:=I.laid (a:=s⁻¹) (o:=.ext (cC s⁻¹ [] 0)) (h':=s.heap.push { cls:=.type "dict",data:=.dict [].toArray }) (t':=s.toks) (λ_ _ q=>aC _ q) (uB _) (Gf s.heap);refine wpAny_Dict_any rfl rfl (by simp) (by simp) (pairTrees_cons_walk (UA (hk cA _ B _ _ p (q _ n f)) λu r #[x,t,v,z,C]=>UA (j cA r B t _ v C) λU Y #[y,F,c,J,M]=>pairTrees_nil_walk ?_));let(e,k,b,rfl,N,O):=M;cases z;have d:DS X.K F s⁻¹ []:=#[#[_,e],by simp,by simp,f,λx P=>nomatch P]
 unfold storeAll;erw[oS,Al,bind_assoc,pure_bind];refine tA (Ak (knd:=MF X.prog X.w) (show X.A.units+10<cLine by lia) (N.is c) (d.dict c) (λh' g R=>let #[_,w]:=cC.ok g;ZA #[.ref s⁻¹,_,r9 c (by rw[e];exact True.intro) R (let #[o,_,_,e,_]:=g;#[o,e]) (w _),rfl,O _ J _]) (by simp))
end
section
variable{s:CA}
def cC.typeIs(h:cC a xs j s.heap):s.TypeIs (.ref a) "dict":=let #[o,_,h1,h2,_]:=h;#[o,h1,h2.1]
def yb(hd:(a==sysModules)=dA)(e:cC a f h s.heap)(i:Q (.ref s⁻¹) { s with heap:=s.heap.push { cls:=.type "dict_keyiterator",data:=.fields [.ref a,.int 0 0,.int f.length 0,.int h 0].toArray } }):sA (model prog w) A (pyIter (.ref a)) Q E s:=by
 let(o,j,g,l,b,k):fC:=id e
 have c:s.TypeIs (.ref a) "dict":=e.typeIs;refine wpAny_pyIter_slot c Xk (pP Xk c F.entry_dict_iter ?_ (F.args_dict_iter_1 _));unfold aJ.«dict.__iter__»;refine tA ?_;unfold Builtin.Dict.dictSlotNone;refine tA (Lj c ?_);show sA _ _ (pure (Value.ref a)) _ _ s;refine ZA ?_;show sA _ _ (Mj a>>=_) _ _ s;unfold Mj;rw[if_neg (by rw[hd];exact OE)];refine tA (ZA (tA (J6 g b (tA (wpAny_dictEpoch g b ?_)))));have d:j.size=f.length:=by rw[<- RJ,k,pA]
 refine tA (SK (ZA #[_,rfl,"dict_keyiterator",_,#[_,MD _ rfl,rfl],N5.lookup, ?_]));simpa[rawInt,d] using i
def QU(hh:A.handled=eA)(hit:s.heap.IsKeyIter it a i c.length r)(v:cC a c r s.heap)
  (y:∀x f,c[i]?=aA x->f.IsKeyIter it a (i+1) c.length r->yH it s.heap f->Q (aA (.ref x.2.1)) { s with heap:=f })
  (z:∀f,c.length<=i->Heap.ExtBut it s.heap f->Q eA { s with heap:=f }):sA (model prog w) A (pyNext (.ref it)) Q E s:=by
 let(o,p,B,hd):KA:=id hit
 let(od,g,h,C,j,u):fC:=id v
 have k:g.size=c.length:=by rw[<- RJ,u,pA]
 unfold pyNext
 refine tA (nW (ZO (name:=AA "__next__") hit.typeIs N5
  (pP N5 hit.typeIs F.entry_dict_keyiterator_next ?_ (F.args_dict_keyiterator_next_1 _))))
 refine tA (ZA (tA (tA ?_)))
 first | refine tA (M5 hit.typeIs (ZA ?_)) | refine tA (S5 hit.typeIs (ZA ?_))
 refine tA (wpAny_fieldsOf p hd ?_);rw[if_neg (show ¬bUa "dict_keyiterator"=bA from by decide)];show sA _ _ (if(Value.ref a==Value.none)=bA then _ else _) _ _ s;rw[if_neg (show ¬((Value.ref a==Value.none)=bA) from OE)];refine tA (ZA (tA (J6 h j ?_)));rw[if_neg (by rw[k];simp)];refine tA (ZA (tA (wpAny_dictEpoch h j ?_)));rw[if_neg (by simp)];refine ZA ?_;rcases Nat.lt_or_ge i g.size with l | n
 .have t:∃x,c[i]?=aA x/\g[i].key=.ref x.2.1:=by
   have e:g.toList[i]?=aA g[i]:=by simp[l]
   rw[u,ND] at e
   cases q:c[i]? with
   |none=>rw[q] at e;cases e
   |some x=>rw[q] at e;exact#[x,rfl,congrArg DictEntry.key (ED e).symm]
  refine rA t λx t hk=>?_
  dsimp only;rw[if_neg (show ¬((i:Int)<0) from by lia),nI,Array.getElem?_eq_getElem l];refine tA ?_
  first | refine tA (M5 hit.typeIs (ZA ?_)) | refine tA (S5 hit.typeIs (ZA ?_))
  refine tA (Nj hit.typeIs ?_);show sA _ _ (setField (.ref it) 1 (rawInt ((i:Int)+1))>>=_) _ _ s;refine tA (sS p hd (by simp) ?_)
  have d:(s.heap.update it (xP (·.setIfInBounds 1 (rawInt ((i:Int)+1))))).IsKeyIter it a (i+1) c.length r :=
   #[_,OV _ p (PV (bS hd _)),(Jk ..).trans B,by rw[bS hd];simp[rawInt]]
  refine tA (VI ?_);refine tA (Nj (s:={ s with heap:=s.heap.update it (xP (·.setIfInBounds 1 (rawInt ((i:Int)+1)))) }) d.typeIs ?_);show sA _ _ (pure g[i].key) _ _ _;rw[hk];exact ZA (ZA #[_,rfl,ZA (y x _ t d (ek ..))])
 .dsimp only;rw[if_neg (show ¬((i:Int)<0) from by lia),nI,Array.getElem?_eq_none n];refine tA ?_
  first | refine tA (M5 hit.typeIs (ZA ?_)) | refine tA (S5 hit.typeIs (ZA ?_))
  show sA _ _ (setField (.ref it) 0 .none>>=_) _ _ s;refine tA (sS p hd (by simp) ?_);show sA _ _ (newExc (.type "StopIteration") []>>=_) _ _ _;refine tA ?_;erw[newExc,newTuple];refine tA (SK ?_ (by size_fits));refine tA (m:=firstArgMember _ _) (wpAny_of_eq (a:=Value.none) (by first | rfl | (erw[firstArgMember];rfl)) ?_);refine SK ?_ (by size_fits);erw[raiseNew];refine tA (wpAny_handled ?_);rw[show A.in1.handled=eA from hh];refine tA (ZA (wpAny_throw ?_));refine tA (O6 (T:="StopIteration") (b:=bA) #[_,MD _ rfl,rfl] isSubtype_stop ?_);exact ZA (z _ (k ▸ n) (((ek ..).extBut.push _).push _))
end
noncomputable def FW(a:iA)(b:fF)(c:Nat):It:=#[λi H=>H a=aA (.ext (cC a b c))/\i<b.length,λi H v d=>d=H/\∃x,b[i]?=aA x/\v=.ref x.2.1,λi H=>H a=aA (.ext (cC a b c))/\b.length<=i]
def jSa{K:kA}(a it:iA)(l:fF)(m:Nat):Turn P w K U (FW a l m) [it] it (λi h=>h.IsKeyIter it a i l.length m) where
 mem:=qD.mpr rfl
 obj:=λi h st b f=>by(obtain rfl:=qD.mp f;let(o,e,c,d):=st;exact#[o,e,λv z=>by rw[d] at z;cases z])
 keep:=λi h g st k=>let #[o,N,r]:=st;#[o,k it (qD.mpr rfl) o N,r]
 item:=by
  intro X q t u y i cA s B H E I n st A;subst q t u;let(C,f1,f2,F,J,M):=n it (qD.mpr rfl);let(g1,g2):=A;refine QU (I.ok.hd y) st (show lD X.prog X.w H s.heap a (.ext (cC a l m)) from I.LA a _ g1).1 (λx g p j O=>?_) λ_ z=>absurd g2 (Nat.not_lt.mpr z)
  have Q:gA X cA B H { s with heap:=g }:=I.turned (t':=s.toks) (λb o f e=>(O.2 b f).trans e) C f1 F J M;let(o,e,c,d):=id j;exact#[_,rfl,bU (s:={ s with heap:=g }) e c d (by decide) #[.ref x.2.1,H,Q,rfl,#[rfl,_,p,rfl],j,λb f=>(n b f).1]]
 done:=by(intro X q t u y i cA s B H E I n st A;subst q t u;let(C,f1,f2,F,J,M):=n it (qD.mpr rfl);let(g1,g2):=A;exact QU (I.ok.hd y) st (show lD X.prog X.w H s.heap a (.ext (cC a l m)) from I.LA a _ g1).1 (λx g p=>by rw[dJ g2] at p;cases p) λg _ R=>#[rfl,I.turned (t':=s.toks) (λb o f e=>R b o f e) C f1 F J M])
 self:=λ_ _ _ _ _ st h=>Xj st h
section
variable{tg:xA}
def Va(e:TE):TI:=λB H R=>e B H λv b=>∃a c d,v=.ref a/\(a==sysModules)=dA/\b a=aA (.ext (cC a c d))/\R (FW a c d) b
def Ve{f:TE}(k:PE X l f):PI X tg l (Va f):=by
 intro cA s B H R I h;refine UA (k cA s B H _ I h) λv c m=>?_
 let(y,g,d,n,p):=m;let(a,i,j,rfl,r,t,q):=p;cases n;refine yb r (show lD X.prog X.w g c.heap a (.ext (cC a i j)) from d.LA a _ t).1 ?_;refine#[c⁻¹,[c⁻¹],_,_,g,rfl,d.kept (t':=c.toks) λb o e=>aC _ e,jSa a _ i j,#[_,MD _ rfl,rfl,rfl],λb u=>?_,q];obtain rfl:=qD.mp u;exact d.vL (uB _) (d.LA.fresh (uB _))
def O_(r:(a==sysModules)=dA):PySem.W.KdlSrc P w "dict" a a g.length (λi v=>∃x,g[i]?=aA x/\v=.ref x.2.1) (cC a g p) where
 type:=λ_ c=>c.typeIs
 there:=λ_ c=>let #[_,_,h,_]:=c;#[VB h,VB h]
 keep:=λ_ _ c hk=>c.AE λo e=>hk a (.inl rfl) o e
 notList:=by decide
 notTuple:=by decide
 hint:=λ_ _ _ _ c k=>PySem.W.kdl_hint_dict c.typeIs k
 iter:=λ_ s hh c=>#[_,λi h=>h.IsKeyIter s⁻¹ a i g.length p/\cC a g p h,(λ_ _ k=>yb r c k),{
  sub:=λb d=>by simp at d;simp[d]
  frame:=λ_ _ _ st hk=>#[st.1.at λo e=>hk _ (by simp) o e,st.2.AE λo e=>hk a (by simp) o e]
  item:=λi l Q E t st f=>QU hh st.1 st.2 (λx j m n q=>f _ j l.toks #[x,m,rfl] #[n,st.2.AE λo e=>q.extBut a o (let #[_,_,h,_]:=c;AD (VB h)) e] λb o d e=>q.extBut b o (λh=>d (by simp[h])) e) λ_ z=>absurd t (Nat.not_lt.mpr z)
  done:=λl Q E st f=>QU hh st.1 st.2 (λx j m=>by simp at m) λj _ u=>f j l.toks λb o d e=>u b o (λh=>d (by simp[h])) e
  self:=λ_ _ _ _ st f=>Xj st.1 f },#[#[_,MD _ rfl,rfl,rfl],c.AE λo e=>aC _ e]]
end
section
variable{hE:List jA}
def jAa:typeLookup (.type "list") "keys"=pure eA:=by rw[typeLookup_type,builtinLookup_eq_fast];kernel_rfl
def hDa(j:s.heap.get? a=aA { cls:=.type "list",dict:=eA,data:=.seq n k,slots:=sl })(p:A.handled=eA)
  (h:∀i l,(∀b o,s.heap.get? b=aA o->i.get? b=aA o)->Q eA { s with heap:=i,toks:=l }):sA (model prog w) A (getAttr? (.ref a) "keys") Q E s:=by
 let(q,g,d,l,os):=s;have m:∀c,(#[q,g,d,c,os]:CA).TypeIs (.ref a) "list":=λ_=>#[_,j,rfl]
 have f1:=sub_AttributeError;have r:=T5.lookup;have t:=T5.bind (.ref a);have u:=am_list_getattr_none;unfold getAttr? getAttrBy? getAttrBy
 repeat (any_goals (first | assumption | exact m _ | ((with_reducible show sA _ _ (call (Value.builtin "list.__getattribute__") _ _) _ _ _);refine DP T5 (m _) am_entry_list_getattribute (F.args_list_getattribute_2 _ _) (meets_getattribute_miss_list a n k sl _ _ jAa (by decide) (by size_fits)) #[j,p,λi c e f=>?_]) | wp_step))
 let(v,x,y):=f.there;show sA _ _ (getattributeRaised _ _ _ _ _ _ _) _ _ _;unfold getattributeRaised
 repeat (any_goals (first | assumption | wp_step))
 exact h _ _ f.keeps
def C9:entryFor table "dict.update.loop"=aA aJ.«dict.update.loop»:=entryFor_of_tree (by kernel_rfl)
def cV:plainId "dict.update.loop"=bA:=by left
end
section
variable{prog:KD}{w:cD}{A:KG}{E:jA->CA->Prop}{s:CA}{it l d:iA}{hE:List jA}
def xOa(m:∀b o,h.get? b=aA o->c.get? b=aA o)(x:VD prog w h k a):VD prog w c k a:=by
 obtain⟨e,f,⟨g,i,j⟩,n,p,q,r,t⟩:=x;exact#[e,f,#[g,m _ _ i,j],n,p,q,m _ _ r,t]
def BZ(m:∀b o,h.get? b=aA o->c.get? b=aA o)(x:(MF prog w).is h k a):(MF prog w).is c k a:=by
 cases k with
 |inl k=>exact xOa m x
 |inr k =>
  cases k
abbrev NN(P:KD)(w:cD)(h:DB):List jA->fF->Prop:=Paired λu q=>∃b,u=.ref b/\PJ h b [.ref q.2.1,q.2.2].toArray/\(MF P w).is h q.1 q.2.1
def NN.get(r:NN P w h j m):∀{i:Nat} {q:MB×iA×jA},m[i]?=aA q->∃b,j[i]?=aA (.ref b)/\PJ h b [.ref q.2.1,q.2.2].toArray/\(MF P w).is h q.1 q.2.1:=by
 unfold NN at r
 induction r with
 |nil=>intro i q e;simp at e
 | @cons u p j y hp t x =>
  intro i q e
  cases i with
  |zero =>
   rw[vH] at e;cases e;let(b,rfl,h2,h3):=hp;exact#[b,rfl,h2,h3]
  |succ i=>exact x e
noncomputable def ZP(c b:fF):fF:=c.foldl (λa q=>storedH a q.1 q.2.1 q.2.2) b
def wSa(hu:A.units+11<cLine)(hh:A.handled=eA)(Y:h0.IsList l hE.toArray)(Z:NN prog w h0 hE f)(nd:h0.get? d=eA)(ni:h0.get? it=eA)(v:d≠it)(hz:f.length<=sizeLine) :
  ∀(k i:Nat) (s:CA) (c:fF),f.length-i=k->i<=f.length->s.heap.IsListIter it l i->(∀b o,h0.get? b=aA o->s.heap.get? b=aA o)->s.heap.DictOfH (MF prog w) d c->c.length<=i->(∀x∈c,(MF prog w).is h0 x.1 x.2.1) ->
  (∀h y,(∀b o,h0.get? b=aA o->h.get? b=aA o)->h.DictOfH (MF prog w) d (ZP (f.drop i) c)->R (.ok (.ret .none)) { s with heap:=h,toks:=y }) ->
  mI (model prog w) A (.builtin "dict.update.loop" #[[.ref d,.ref it,rawInt i,.none],[]]) R s:=by
 have ne:∀{b:iA} {o:kB},h0.get? b=aA o->b≠d/\b≠it:=λe=>#[λz=>(by rw[z,nd] at e;cases e),λz=>(by rw[z,ni] at e;cases e)]
 intro k
 induction k with
 |zero =>
  intro i s c hk hi hit keep hd B g C;refine gW C9 ?_;rw[Yj cV _];show sA _ A.in1 (pyNext (.ref it)>>=_) _ _ s
  have p:hE.toArray[i]?=eA:=by(rw[Oj,dJ];rw[Z.length];lia)
  let(ol,F,H):=Y;refine tA (Fj hh hit #[ol,keep _ _ F,H] p λh I=>?_);show sA _ _ (Builtin.Dict.addKeywords d []>>=_) _ _ _;refine tA (ZA (ZA (C h s.toks (λb o e=>I b o (ne e).2 (keep b o e)) ?_)));rw[List.drop_eq_nil_of_le (by lia)];let(o,J,K,M,N,O,P,r4,Q):=hd;exact#[o,J,K,I d o v M,N,O,P,λx p=>BZ (λb o e=>I b o (ne e).2 (keep b o e)) (g x p),Q]
 |succ k ih =>
  intro i s c hk hi hit keep hd B g C;have m:i<f.length:=by lia
  let(b,U,hb,j):=Z.get (OC m);refine gW C9 ?_;rw[Yj cV _];show sA _ A.in1 (pyNext (.ref it)>>=_) _ _ s;let(ol,F,H):=id Y;refine tA (Cj hit #[ol,keep _ _ F,H] (x:=.ref b) (by rw[Oj];exact U) λh q sb=>?_);have a:∀b o,h0.get? b=aA o->h.get? b=aA o:=λb o e=>(sb.2 b (ne e).2).trans (keep b o e)
  let(ob,b1,b2,n,b3):=hb;have t:=a _ _ b1
  have X:h.DictOfH (MF prog w) d c:=by(let(o,J,K,M,N,O,P,r4,Q):=hd;exact#[o,J,K,(sb.2 d v).trans M,N,O,P,λx p=>BZ a (g x p),Q])
  refine tA (VI (tA (wpAny_tryCatch ?_)));unfold Builtin.Dict.pairItems;refine tA (BS (T:="tuple") #[ob,t,b2] ?_);rw[RA (by decide)];refine tA (wpAny_seqItems t b3 (ZA ?_));show sA _ _ (holding [.ref f[i].2.1,f[i].2.2] (dictSet d (.ref f[i].2.1) f[i].2.2)) _ _ _;refine VI (Ak (knd:=MF prog w) (k:=f[i].1) (by show A.units+1+10<cLine;lia) (BZ a j) X λh2 dd u=>?_);refine ZA #[plainId_quiet cV _, ?_];refine ih (i+1) _ (storedH c f[i].1 f[i].2.1 f[i].2.2) (by lia) m ?_ (λb o e=>(u.2 b (ne e).1).trans (a b o e)) dd (dD N4 (by lia)) (M4 g j) λh3 y k3 d3=>?_
  .let(o,e,r):=q;exact#[o,(u.2 it (rD v)).trans e,r]
  .refine C h3 y k3 ?_;rw[XR m];exact d3
def Oq(hu:A.units+13<cLine)(j:s.heap.get? l=aA { cls:=.type "list",dict:=eA,data:=.seq hE.toArray n,slots:=sl })(r:NN prog w s.heap hE qs)(hh:A.handled=eA)(t:qs.length<=sizeLine)
  (h:∀c g,(∀b o,s.heap.get? b=aA o->c.get? b=aA o)->c.DictOfH (MF prog w) s⁻¹ (ZP qs [])->Q (.ref s⁻¹) { s with heap:=c,toks:=g }):sA (model prog w) A (call (.type "dict") [.ref l]) Q E s:=by
 refine callType_codes (Q₁:=λobj m=>obj=.ref s⁻¹/\m={ s with heap:=s.heap.push { cls:=.type "dict",data:=.dict [].toArray } }) F.kt_called_dict (F.kt_typeCall_dict_1 _) F.entry_dict_init (kt_code_dict_new _ #[rfl,rfl]) ?_
 rintro obj m ⟨rfl,rfl⟩
 have p:(s.heap.push { cls:=.type "dict",data:=.dict [].toArray }).DictOfH (MF prog w) s⁻¹ []:=#[_,[].toArray,0,MD _ rfl,#[rfl,rfl,rfl],rfl,rfl,nofun,.nil]
 have f:({ s with heap:=s.heap.push { cls:=.type "dict",data:=.dict [].toArray } }:CA).TypeIs (.ref s⁻¹) "dict":=#[_,MD _ rfl,rfl]
 have a:=aC { cls:=.type "dict",data:=.dict [].toArray } j;refine#[f,F.args_dict_init_2 _ _, ?_];unfold aJ.«dict.__init__»;refine tA ?_;unfold Builtin.Dict.selfAndRest;refine tA (Lj f ?_);show sA _ _ (pure (s⁻¹,[Value.ref l])) _ _ _;refine ZA ?_;show sA _ _ (Aj "dict.__init__" s⁻¹ (.ref l) [] .none) _ _ _;unfold Aj;refine tA (BS (T:="list") #[_,a,rfl] ?_);rw[RA (by decide)];refine tA (hDa a hh λi g keep=>?_);rw[RA (show(eA:Option jA).isNone=bA from rfl)];refine tA (yW ?_);refine tA (jP #[_,keep _ _ a,rfl,n,rfl] ?_);have q:(s.heap.push { cls:=.type "dict",data:=.dict [].toArray }).get? s⁻¹=aA { cls:=.type "dict",data:=.dict [].toArray }:=MD _ rfl;have u:s⁻¹≠i.objs.size:=AD (VB (keep _ _ q));have v:∀b o,s.heap.get? b=aA o->(i.push { cls:=.type "list_iterator",data:=.fields [.ref l,.int 0 0].toArray }).get? b=aA o:=λb o e=>aC _ (keep b o (aC _ e))
 refine ZA #[plainId_quiet cV _,wSa (A:=A.in1) (h0:=s.heap) (by show A.units+1+11<cLine;lia) hh #[_,j,rfl,n,rfl] r ?_ ?_ u t qs.length 0 _ [] rfl (lI _) #[_,MD _ rfl,rfl,rfl] v ?_ (uB _) nofun λc g k d=>#[rfl,h c g k d]]
 .cases e:s.heap.get? s⁻¹ with
  |none=>rfl
  |some o=>exact absurd (VB e) (UI _)
 .cases e:s.heap.get? i.objs.size with
  |none=>rfl
  |some o=>exact absurd (VB (keep _ _ (aC _ e))) (UI _)
 .exact#[_,[].toArray,0,aC _ (keep _ _ q),#[rfl,rfl,rfl],rfl,rfl,nofun,.nil]
end
end L2
namespace HT
open PySem PySem.Spec PyProof.Rows
section
variable{s:CA}
def uw{lo b:Option Int}(a:PJ s.heap t items)(g:s.heap.IsSliceOf sl j k .none)(l:bJ j lo)(m:bJ k b)
  (i:iB items.size 0 lo=0/\iB items.size items.size b=items.size) (h:Q (.ref t) s):sA (model prog w) A (getItem (.ref t) (.ref sl)) Q E s:=by
 let(os,c,d,n):KA:=id g
 have e:s.TypeIs (.ref sl) "slice":=#[os,c,d]
 unfold getItem
 try with_reducible refine VI ?_
 first | refine tA (ZA ?_) | skip
 refine tA (Hk a.typeIs (by decide) ?_)
 refine tA (ZO (name:=AA "__getitem__") a.typeIs EN
  (pP EN a.typeIs ck ?_ (xk _ _)))
 show sA _ _ (O5 (.ref t)>>=_) _ _ s;refine tA (f7 a ?_);refine tA (BS e ?_);rw[RA (by decide)];refine tA (jg g l m ?_)
 have f:(((iB items.size 0 lo:Nat):Int)==0&&(1:Int)==1&&(iB items.size items.size b-iB items.size 0 lo)==items.size)=bA:=by(rw[i.1,i.2];simp)
 show sA _ _ (if(((iB items.size 0 lo:Nat):Int)==0&&(1:Int)==1&&(iB items.size items.size b-iB items.size 0 lo)==items.size)=bA then _ else _) _ _ s;rw[RA f];refine tA (show sA _ _ (Builtin.Tuple.tupleIsExact (.ref t)) _ _ _ from tA (BS a.typeIs (ZA ?_)));rw[RA (by decide)];refine tA (yW ?_);exact ZA #[_,rfl,ZA h]
end
end HT
namespace L2
open PySem PySem.Spec PyProof.Rows
section
variable{e st:xA}
def lMa(K:kA):V->Option Int->Option Int->Hp->VK->Prop:=λx lo c H Q=>∃a b,x=.ref a/\LC K H a b /\
 (∀p,H p=eA->Q (.ref p) (GA H p (.t (kK b lo c))))/\(HT.iB b.length 0 lo=0/\HT.iB b.length b.length c=b.length->Q (.ref a) H)
def fPa:mJ X (lMa X.K):=by
 intro cA s B H x v o p lo g sl Q I i j k l h;let(a,b,rfl,m,q,t):=h;by_cases d:HT.iB b.length 0 lo=0/\HT.iB b.length b.length g=b.length
 .cases i;let(f,r,n,u):KA:=I.tuple m
  have c:f.toArray.size=b.length:=by rw[aD];exact r.length.symm
  refine#["tuple",_,EN.lookup,n.typeIs, ?_];exact HT.uw n j k l (by rw[c];exact d) #[.ref a,H,I,rfl,t d]
 .exact ePa cA s B H (.ref a) v o p lo g sl Q I i j k l #[a,b,rfl,m,d,q]
end
end L2
namespace CI
open PySem PySem.Spec PyProof.Rows L2
section
variable{h':DB}
def pDa(x:lD P w H h b o):∃d,h.get? b=aA d:=by
 cases o with
 |l g=>let(_,a):=x;let(_,_,_,e):FA:=a;exact#[_,e]
 |t g=>let(_,_,_,a):yD:=x;let(d,e,_):rA:=a;exact#[_,e]
 |dK i=>let(_,a):=x;let(_,_,_,c):yD:=a;let(o,_,_,e,_):kI:=c;exact#[_,e]
 |set S n=>let(o,_,_,_,e,_):uF:=x;exact#[_,e]
 |ins C j fs=>let(_,a):=x;let(_,_,e,_):oB:=a;exact#[_,e]
 |own y=>let(_,e):=x;exact#[_,e]
 |xd fs=>obtain⟨_,⟨_,_,_,e,_⟩,_⟩:=x;exact#[_,e]
 |IB lo k=>let(_,_,_,e):BB:=x;exact#[_,e]
 |nD d u=>let(e,_):=x;exact#[_,e]
 |JD l=>let(_,e,_):=x;exact#[_,e]
 |met f y=>exact#[_,show h.get? b=aA _ from x]
 |ext φ=>obtain⟨_,⟨_,e⟩,_⟩:=x;exact#[_,e]
def UT(I:gA X cA B H s)(d:s.heap.get? b=eA)(g:h b=eA):kD X cA h b:=by
 refine#[g,λz=>?_,λz=>?_, ?_,λx c e z=>?_,λp i z=>?_]
 .obtain⟨m,⟨o,_,_,a,_⟩,_⟩:=I.loc;rw[<- z,d] at a;cases a
 .let(_,o,a,_):yD:=I.kF.mem z
  rw[d] at a;cases a
 .by_cases f:b∈X.ex
  .exact .inl f
  .refine .inr ?_
   cases q:X.s₀.heap.get? b with
   |none=>rfl
   |some o =>
    let(j,e):=I.base.there b o q f;rw[d] at e;cases e
 .let(v,o,a,_):FA:=I.cell x c e
  rw[z,d] at a;cases a
 .have:=(I.pin p i).1
  rw[z,d] at this;cases this
def da(I:gA X cA B H s)(a:s.heap.get? b=eA):H b=eA:=by
 cases q:H b with
 |none=>rfl
 |some u =>
  let(c,e):=pDa (I.LA b u q);rw[a] at e;cases e
def UZ(I:gA X cA B H s)(f:∀b∈as,kD X cA H b)(k:(sP s.heap (as++BD X.stack)).StaysIn h')
  (sl:∀b o,s.heap.get? b=aA o->(∀p,o.data≠.fields p)->∃sl,h'.get? b=aA { o with slots:=sl }):gA X cA B H { s with heap:=h' }:=by
 have h:∀b o,b ∉ as->b ∉ BD X.stack->s.heap.get? b=aA o->h'.get? b=aA o:=λb o r t e=>k b o (k6 _ e (by simp[r,t]))
 have j:∀b u,H b=aA u->b ∉ as/\b ∉ BD X.stack:=λb u e=>#[(λz=>by rw[(f b z).1] at e;cases e),(λz=>by rw[I.LR b z] at e;cases e)]
 have l:∀b∈BD X.stack,∀o,s.heap.get? b=aA o->∃sl,h'.get? b=aA { o with slots:=sl }:=λb a o e=>by
  let(_,y,m,x):yD:=I.stack.mem a
  rw[e] at m;cases m;exact sl b o e x
 have LA:FC X.prog X.w H h':=λb u e=>(I.LA b u e).AE (λc v i q=>by
  have z:c ∉ as/\c ∉ BD X.stack:=by
   rcases i with rfl | i
   .exact j _ u e
   .exact j c _ i
  exact h c v z.1 z.2 q) (λ_ q=>q) λ_ _ q=>q
 have u:Un (BD X.stack) as H H s.heap h':=#[λb o e n d g=>h b o g d e,λb o e n d g=>l b d o e,λb o e n g=>n,λb o e g=>by
  by_cases d:b∈BD X.stack
  .let(_,z):=l b d o e;exact#[_,z]
  .exact#[o,h b o g d e],λ_ _ e=>e,λ_ _ _ e=>e,λb A e=>#[[].toArray,by rw[e];simp]]
 exact I.call (g':=s.gens) (t':=s.toks) (d':=s.drawn) (ch:=as) u LA I.bare λb a=>#[(f b a).2.2.2.1,(f b a).2.1,(f b a).2.2.2.2.1,(f b a).2.2.2.2.2]
abbrev PX:=Option iA×Bool
def ZJ(a:Array jA)(c:jA)(b:Bool):Prop:=a[0]?=aA c/\(b=bA->a[2]?=aA .none)
def ZJ.oOa(h:ZJ j m b):ZJ (j.setIfInBounds 1 v) m b :=
 #[by rw[lj (by decide)];exact h.1,λz=>by rw[lj (by decide)];exact h.2 z]
def uI(X:Cx)(cA:List (iA×kB))(H:Hp)(h:DB)(a C:iA)(p:PX)(f:jA):Prop :=
 ∃b c g T d e,h.get? a=aA b/\(b.cls=.ref C/\b.dict=p.1)/\b.data=.fields c/\ZJ c g p.2/\kD X cA H T/\c[1]?=aA (.ref T)/\T≠a/\h.get? T=aA d/\d.data=.fields e/\e[3]?=aA f
def dm(h:DB)(a C:iA)(p:PX):Prop:=∃b c d,h.get? a=aA b/\(b.cls=.ref C/\b.dict=p.1)/\b.data=.fields c/\ZJ c d p.2/\c[1]?=aA .none
def qI(X:Cx)(cA:List (iA×kB))(H:Hp)(h:DB)(a C:iA)(p:PX):Prop:=kD X cA H a/\(dm h a C p\/∃b,uI X cA H h a C p b)
def bDa(I:gA X cA B H s)(i:∀b∈as,kD X cA H b)(a:(sP s.heap (as++BD X.stack)).get? T=eA)(j:h'.get? T=aA k)(hd:k.data=.fields l)
  (sl:∀b o,s.heap.get? b=aA o->(∀m,o.data≠.fields m)->∃sl,h'.get? b=aA { o with slots:=sl }):kD X cA H T:=by
 by_cases c:T∈as
 .exact i T c
 .by_cases d:T∈BD X.stack
  .let(_,o,e,f):yD:=I.stack.mem d
   let(n,g):=sl T o e f;rw[j] at g;cases g;exact absurd hd (f l)
  .have h:s.heap.get? T=eA:=by
    cases q:s.heap.get? T with
    |none=>rfl
    |some o=>rw[k6 _ q (by simp[c,d])] at a;cases a
   exact UT I h (da I h)
def aa(I:gA X cA B H s)(as:List iA):s.heap.FunFrames (sP s.heap (as++BD X.stack)) X.stack :=
 PySem.W.funFrames_hide I.stack λenv a b c=>MG _ (u6.mpr #[env,a,c])
def WW(h base:DB)(e:iA)(cls:jA)(p:PX)(f g:jA):Prop :=
 ∃a b T c d,h.get? e=aA a/\((a.cls=cls/\a.dict=p.1)/\ZJ b f p.2)/\a.data=.fields b/\b[1]?=aA (.ref T)/\base.get? T=eA/\T≠e/\h.get? T=aA c/\c.data=.fields d/\d[3]?=aA g
def U7(base:DB)(e:iA)(cls:jA)(p:PX)(a c:jA)(h h':DB):Prop:=base.StaysIn h'/\WW h' base e cls p a c/\∀b o,h.get? b=aA o->(∀d,o.data≠.fields d)->∃sl,h'.get? b=aA { o with slots:=sl }
def Zr(f:Array jA->Array jA)(o:kB):(xP f o).dict=o.dict:=by let(_,_,a,_):=o;cases a<;>rfl
def Zh(I:gA X cA B H s)(g:∀b∈as,kD X cA H b)(t:WW h' (sP s.heap (as++BD X.stack)) a (.ref C) p h i)
  (sl:∀b o,s.heap.get? b=aA o->(∀d,o.data≠.fields d)->∃sl,h'.get? b=aA { o with slots:=sl }):uI X cA H h' a C p i:=by
 obtain⟨j,d,T,k,l,m,⟨n,q⟩,hd,r,u,e,f,c,v⟩:=t;exact#[j,d,h,T,k,l,m,n,hd,q,bDa I g u f c sl,r,e,f,c,v]
variable{M:Model}{A:KG}{E:jA->CA->Prop}{Q:Unit->CA->Prop}
def B9(y:A.frames=aA (env::outer))(B:s.heap.FunFrames base (env::outer))(R:env.frame=aA L)
  (P:s.heap.get? e=aA x) (C:base.StaysIn s.heap) (F:base.get? e=eA) (hd:x.data=.fields j) (k:1<j.size) (U:ZJ j X Y)
  (h:∀h',U7 base e x.cls (x.dict,Y) X (rawInt L) s.heap h'->Q () { s with heap:=h' }) :
  sA M A (do let a <- frameOf env;let i <- entryPlaceOf L nx;let b <- fk head a .none (rawInt L) .none i;setField (.ref e) 1 b) Q E s:=by
 have l:∀b o,s.heap.get? b=aA o->(∀j,o.data≠.fields j)->b≠e:=λb o f H z=>by rw[z,P] at f;cases f;exact H j hd
 have m:e ∉ (env::outer).filterMap (·.frame):=λI=>by let(_,o,Z,H):yD:=B.mem I;exact l e o Z H rfl
 refine tA (wpAny_frameOf_fun y B R λd g=>tA (wpAny_entryPlaceOf λi n=>?_));have p:d.get? e=aA x:=(g.2.1 e m).trans P;have r:base.StaysIn d:=λb o c=>(g.2.1 b λI=>by rw[(B.mem I).1] at c;cases c).trans (C b o c)
 unfold fk newFields;refine tA (SK ?_ (n.sizeOk5 _ _ _ _ _));generalize J:({ cls:=.type "traceback",dict:=eA,data:=.fields ([head,.ref L,.none,rawInt L,.none]++(if i.isEmpty then qB 6 Value.none else i)).toArray }:kB)=K;have t:K.data=.fields ([head,.ref L,.none,rawInt L,.none]++(if i.isEmpty then qB 6 Value.none else i)).toArray:=by rw[<- J]
 have u:=aC (h:=d) K p;refine sS u hd k (h _ ?_);have v:d.objs.size≠e:=yS (VB p);have w:=bS hd (·.setIfInBounds 1 (Value.ref d.objs.size));have keep:∀b o,b≠e->d.get? b=aA o->((d.push K).update e (xP (·.setIfInBounds 1 (Value.ref d.objs.size)))).get? b=aA o:=λb o N f=>(bP _ _ (rD N)).trans (aC _ f)
 refine#[λb o c=>keep b o (λq=>by rw[q,F] at c;cases c) (r b o c), ?_,λb o f O=>?_]
 .exact#[_,_,d.objs.size,_,_,OV _ u (PV w),#[#[Jk _ _,Zr _ _],U.oOa],w,by simp[k],r.fresh,v,(bP _ _ (rD v)).trans (MD d (PV t)),t,by first | (simp;done) | (rcases n with rfl | ⟨_,_,_,_,_,_,_,rfl⟩<;>simp)]
 .let(sl,hs):=g.2.2 b o f;exact#[sl,keep b _ (l b o f O) hs]
def mDa(i:A.frames=aA (env::outer))(y:s.heap.FunFrames base (env::outer))(r:env.frame=aA L)(z:WW s.heap base e cls p B C)(F:¬(C==rawInt L)=bA)(j:base.StaysIn s.heap)(k:base.get? e=eA)
  (h:∀h',U7 base e cls p B (rawInt L) s.heap h'->Q () { s with heap:=h' }):sA M A (noteFrame (.ref e) env) Q E s:=by
 let(O,P):=p;obtain⟨R,t,T,U,H,u,⟨⟨rfl,rfl⟩,I⟩,hd,v,l,m,n,f,w⟩:=z;unfold noteFrame;erw[r];refine tA (NH u hd v ?_);rw[RA (show(Value.ref T != Value.none)=bA from by simp)];refine tA (NH n f w ?_);rw[if_neg F];refine tA (sS n f (HV.mp w).1 ?_);have other:∀b,b≠T->(s.heap.update T (xP (·.setIfInBounds 3 Value.none))).get? b=s.heap.get? b:=λb d=>bP _ _ (rD d)
 have a:∀b o,s.heap.get? b=aA o->(∀t,o.data≠.fields t)->b≠T:=λb o d c q=>by
  rw[q,n] at d;injection d with d;subst d;exact c H f
 refine B9 i (y.of_keeps λb o d c=>#[o,(other b (a b o d c)).trans d,rfl]) r ((other e (rD m)).trans u)
  (λb o g=>(other b λq=>by rw[q,l] at g;cases g).trans (j b o g)) k hd (HV.mp v).1 I
  λh' x=>(by let(J,K,N):mG:=x;exact h h' #[J,K,λb o d c=>N b o ((other b (a b o d c)).trans d) c])
def Pd(I:gA X cA B H s)(l:X.stack=env::outer)(x:env.frame=aA L)(F:qI X cA H s.heap a C p)
  (h:∀h',gA X cA B H { s with heap:=h' }->uI X cA H h' a C p (rawInt L)->Q () { s with heap:=h' }):sA M X.A (noteFrame (.ref a) env) Q E s:=by
 have m:X.A.frames=aA (env::outer):=by rw[<- l];exact I.ok.frames
 let(P,F):=F;rcases F with ⟨n,y,R,g,i,hd,q,j⟩ | ⟨Y,n,y,R,T,z,J,g,i,hd,q,U,j,d,K,f,O⟩
 .have r:∀b∈[a],kD X cA H b:=λb t=>by rw[qD.mp t];exact P
  have u:=aa I [a];rw[l] at u;unfold noteFrame;erw[x];refine tA (NH g hd j ?_);rw[if_neg (by decide)];refine B9 m u x g (λb o e=>YV _ e) (cP _ (by simp)) hd (HV.mp j).1 q λh' N=>?_
  let(v,k,w):mG:=N;rw[<- l] at v k;rw[i.1,show(n.dict,p.2)=p by rw[i.2]] at k;exact h h' (UZ I r v w) (Zh I r k w)
 .have r:∀b∈[a,T],kD X cA H b:=λb t=>by
   rcases jD.mp t with rfl | t
   .exact P
   .rw[qD.mp t];exact U
  have u:=aa I [a,T];rw[l] at u;by_cases c:(Y==rawInt L)=bA
  .have c:=EC c;subst c;exact wpAny_noteFrame_againW (base:=sP s.heap ([a,T]++BD (env::outer))) x #[n,y,T,z,J,g,#[i.1,q.1],hd,j,cP _ (by simp),d,K,f,O] (h s.heap I #[n,y,R,T,z,J,g,i,hd,q,U,j,d,K,f,O])
  refine mDa m u x #[n,y,T,z,J,g,#[i,q],hd,j,cP _ (by simp),d,K,f,O] c (λb o e=>YV _ e) (cP _ (by simp)) λh' N=>?_
  let(v,k,w):mG:=N;rw[<- l] at v k;exact h h' (UZ I r v w) (Zh I r k w)
def Lv(I:gA X cA B H s)(v:kD X cA H a)(F:uI X cA H s.heap a C p R)
  (h:∀h',gA X cA B H { s with heap:=h' }->uI X cA H h' a C p (f.elim Value.none λf=>rawInt f)->Q () { s with heap:=h' }):sA M A (setFlight (.ref a) f) Q E s:=by
 let(w,i):=F;let(x,y,T,j):BB:=i;let(U,q,r,J,hd,k):fC:=j;let(K,t,u,l):oB:=k;let(m,n,c,N):oB:=l
 have O:∀b∈[a,T],kD X cA H b:=λb d=>by
  rcases jD.mp d with rfl | d
  .exact v
  .rw[qD.mp d];exact t
 have g:3<q.size:=(HV.mp N).1;unfold setFlight;refine tA (NH r hd u ?_);rw[RA (show(Value.ref T != Value.none)=bA from by simp)];refine sS n c g ?_;have other:∀b,b≠T->(s.heap.update T (xP (·.setIfInBounds 3 (f.elim Value.none λf=>rawInt f)))).get? b=s.heap.get? b:=λb d=>bP _ _ (rD d)
 refine h _ (UZ I O (λb o e=>?_) λb o e P=>#[o.slots, ?_]) #[w,x,y,T,_,_,(other a (rD m)).trans r,J,hd,K,t,u,m,OV _ n (PV (bS c _)),bS c _,by simp[g]]
 .have d:b≠T:=λz=>by rw[z,cP _ (by simp)] at e;cases e
  exact(other b d).trans (YV _ e)
 .have d:b≠T:=λz=>by rw[z,n] at e;cases e;exact P q c
  exact(other b d).trans e
def yY(I:gA X cA B H s)(b:kD X cA H a)(F:uI X cA H s.heap a C p c)
  (h:∀h',gA X cA B H { s with heap:=h' }->uI X cA H h' a C p .none->Q () { s with heap:=h' }):sA M A (setFlight (.ref a) eA) Q E s:=Lv I b F h
def gd(I:gA X cA B H s)(b:X.stack=X.env::X.outer)(c:X.env.frame=aA X.env.locals)(F:qI X cA H s.heap a C p)
  (h:∀h',gA X cA B H { s with heap:=h' }->uI X cA H h' a C p .none->Q () { s with heap:=h' }):sA M X.A (leaving X.env (.ref a)) Q E s:=by
 unfold leaving;exact tA (Pd I b c F λj d e=>yY d F.1 e λf g i=>h f g i)
end
def RH(P:KD)(w:cD):mM:=λouter H s E v b=>∃a C p c,v=.ref a/\b.os=s.os/\OJ b.gens/\Un (BD outer) [] H c s.heap b.heap/\FC P w c b.heap/\s.heap.get? a=eA/\c a=eA /\
 (∃d e h T f g,b.heap.get? a=aA d/\(d.cls=.ref C/\d.dict=p.1)/\d.data=.fields e/\ZJ e h p.2/\s.heap.get? T=eA/\c T=eA/\e[1]?=aA (.ref T)/\T≠a/\b.heap.get? T=aA f/\f.data=.fields g/\g[3]?=aA .none)/\E (.ref C) p c
def Dr{K:kA}(I:gA (bD (RH P w) P w K mg base N d c f l A outer s₀ H₀ E) cA B H s)(F:qI (bD (RH P w) P w K mg base N d c f l A outer s₀ H₀ E) cA H s.heap a C p)(h:E (.ref C) p H) :
  (bD (RH P w) P w K mg base N d c f l A outer s₀ H₀ E).xe (.ref a) s:=by
 refine gd I rfl rfl F λY k r=>?_
 let(t,e):=r;let(u,v,T,g):BB:=e;let(x,y,J,M,hd,i):fC:=g;let(O,o,Q,j):oB:=i;let(m,R,n,U):oB:=j
 have q:∀b,kD (bD (RH P w) P w K mg base N d c f l A outer s₀ H₀ E) cA H b->s₀.heap.get? b=eA:=λb X=>by
  rcases X.2.2.2.1 with z | z
  .exact absurd (show b∈([]:List iA) from z) (by simp)
  .exact z
 exact#[a,C,p,H,rfl,k.os,k.bare,k.base,k.LA,q a F.1,F.1.1,#[t,u,v,T,x,y,J,M,hd,O,q T o,o.1,Q,m,R,n,U],h]
section
variable{X:Cx}{cA:List (iA×kB)}{B:L2.St}{H:Hp}{s s':CA}
def m9(I:gA X cA B H s)(h:RH X.prog X.w X.stack H s E v s'):∃a C p c,v=.ref a/\gA X cA B c s'/\qI X cA c s'.heap a C p/\E (.ref C) p c:=by
 obtain⟨a,C,p,c,rfl,os,d,un,f,k,l,⟨m,n,o,T,q,r,t,u,hd,x,y,g,A,i,F,j,J⟩,e⟩:=h;refine#[a,C,p,c,rfl,I.O8 (ch:=[]) os un f d (λb z=>absurd z (by simp)),#[UT I k l,.inr #[_,m,n,o,T,q,r,t,u,hd,x,UT I y g,A,i,F,j,J]],e]
def lNa(F:qE X.prog X.w X.K X.mg X.base (RH X.prog X.w) k f l i m)(n:YB k X.A)(o:aAt X.K l i [])
  (I:gA X cA B H s) (r:aAc j b) (h:m j H Q E) (q:∀cA a C p c s',gA X cA B c s'->qI X cA c s'.heap a C p->E (.ref C) p c->X.xe (.ref a) s'):sA (~~~X) X.A (call (.ref f) b) (EP X cA B Q) X.xe s:=by
 have t:b.length=i.length:=by rw[<- r.length];exact F.len _ _ _ _ h
 have d:=o s b I.vD (by rw[RD];exact t);rw[RD] at d;refine CP (iM (F.run X.A X.stack s H #[b,[]] b j Q E n I.TF d r h) λr s' g=>?_)
 cases r with
 |error e =>
  let(a,C,p,c,rfl,v,x,y):=m9 I g;exact q cA a C p c s' v x y
 |ok z =>
  cases z with
  |ret u=>exact I.after g
  |next=>exact lE g
  |brk=>exact lE g
  |cont=>exact lE g
def wQa(X:Cx)(c:Sp)(t:TA):TE:=λB H Q=>t B H λd e=>∃E:XK,c d e Q E/\∀cA a C p b s',gA X cA B b s'->qI X cA b s'.heap a C p->E (.ref C) p b->X.xe (.ref a) s'
def Ie(F:qE X.prog X.w X.K X.mg X.base (RH X.prog X.w) k f g i j)(l:YB k X.A)(m:Gl X x)(n:X.mg x=aA (.ref f))(hk:nG X.K (.ref f)=bA)(o:aAt X.K g i [])
  (u:PA X (e::a) t) (b:(x==("__debug__":fA))=dA) (v:WB (e::a) X.env=(dA,eval e X.env)::WB a X.env) (c:(BE pos (WB a X.env)).any (·.1)=dA) :
  PE X (.Call (.Name x p) (e::a) [] pos) (wQa X j t):=by
 intro cA s B H Q I h;refine WL (ZM I m n ?_ b);refine aS (h₀:=X.base) I.ok.mod.kin hk (UA (u pos cA s B H _ I h) λz C #[J,M,d,r,E,q,y]=>#[d.vD, ?_]) v c;exact lNa F l o d r q y
end
set_option tactic.hygienic true
abbrev DX:List jA:=[.type "ValueError",.type "Exception",.type "BaseException",.type "object"]
def TJ(K:kA)(C:iA)(i:Option jA):Prop:=∃(a:List jA) (N:iA),(∀v,XI K C v=aA ((Value.ref C::a).contains v)) /\
  ∀{h:DB},K.In h->∃(b c:fA) (bs:List jA) (hd:Bool) (d:List fA) (sub:List jA) (e:Bool) (col:Option Bool) (f:Option iA) (g j k l m:Option jA),
   h.get? C=aA (excClassObj b c C N bs a hd d sub e col f g j k l m "ValueError.__new__")/\h.Ns N (h.nsMap N)/\h.nsMap N "__init__"=i/\OwnTail h DX a
def M9{K:kA}(q:g7 K C DX "ValueError.__new__"=bA):TJ K C eA:=by
 unfold g7 at q;split at q
 .rename_i o a sl e;rcases e1:a.mro with _ | ⟨p,s⟩<;>rw[e1] at q
  .cases q
  cases p<;>try (cases q;done)
  rename_i y
  rcases e2:sl.toList with _ | ⟨f,_ | ⟨g,_ | ⟨i,_ | ⟨j,_ | ⟨_ | k,_ | ⟨l,_ | ⟨z,r⟩⟩⟩⟩⟩⟩⟩<;>rw[e2] at q<;>try (cases q;done)
  all_goals (cases k<;>try (cases q;done))
  rename_i k
  try dsimp only at q
  rw[XA,XA,XA,XA,XA] at q;obtain⟨⟨⟨⟨⟨b,c⟩,m⟩,t⟩,n⟩,d⟩:=q;have b:=HG.mp b;have c:=HG.mp c;have d:=HG.mp d;subst b c;refine#[s,a.ns,λv=>?_,λ{h} X=>?_]
  .unfold XI PySem.W.clsIn;rw[e];erw[OG];rw[e1,if_neg (by simp)]
  .refine#[a.name,a.qualname,a.bases,a.hasDict,a.slotNames,a.subclasses,a.abstract,a.collection,o,f,g,i,j,l, ?_,.of_isNs (PySem.W.isNs_of_in X n),PySem.W.nsMap_none_of_in X n d,PySem.W.tail_of_in X t];rw[X _ _ e];have u:sl=[f,g,i,j,aA (.builtin "ValueError.__new__"),l].toArray:=cW.mp e2;rw[u];let(A,B,F,H,I,J,M,N,O,w,x):=a;erw[Kk] at m;simp only at e1;subst e1 m;rfl
 .cases q
section
variable{X:Cx}{cA:List (iA×kB)}{B:L2.St}{H:Hp}{s:CA}{h':DB}{a C:iA}
def jRa(X:Cx)(C:iA)(t:TA):TS:=λ_ B H=>t B H λd c=>d.length<=sizeLine/\∀cA a b,gA X cA B c b->qI X cA c b.heap a C (eA,bA)->X.xe (.ref a) b
def wKa(hh:X.A.handled=eA)(J:Gl X x)(M:X.mg x=aA (.ref C))(q:TJ X.K C eA)(O:PA X (e::j) t)
  (m:(x==("__debug__":fA))=dA) (u:WB (e::j) X.env=(dA,eval e X.env)::WB j X.env) (n:(BE b (WB j X.env)).any (·.1)=dA) :
  PS X (.Raise (aA (.Call (.Name x np) (e::j) [] b)) eA pos) (jRa X C t):=by
 intro cA s B H D I h;let(P,N,_,k):FA:=q;let(nm,Q,bs,d):BB:=k I.ok.mod.kin
 let(hd,sn,sub,f):BB:=d;let(ab,col,dd,g):BB:=f;let(k0,k1,k2,i):BB:=g;let(k3,k5,R,U,o,T):fC:=i
 refine wpAny_Raise_call_subT (nm:=nm) (q:=Q) (N:=N) (bs:=bs) (bm:=P) (hdct:=hd) (sn:=sn) (sub:=sub) (ab:=ab) (col:=col) (dd:=dd) (k0:=k0) (k1:=k1) (k2:=k2) (k3:=k3) (k5:=k5)
  tj (mN:=X.base.nsMap N) (T.hasType tj.hasBase) hh (by rw[u];unfold BE at *;rw[vB,gM,n];rfl) o (ZM I J M #[rfl, ?_] m)
 have v:=O b cA s B H _ I h;rw[u] at v ⊢;refine Calls.evalArgs_plain (yF v (λus w z=>?_) λ_ _ y=>y);let(vs,Y,c,r,Z,hx):fC:=z;refine#[rfl,by rw[<- r.length];exact Z,c.bk _ _ R,U.keeps c.bk,T.keeps c.bk,λh' e l=>?_];let(t0,p,_,_):KA:=l.there
 have I2:gA X cA B Y { w with heap:=h' }:=c.kept (t':=w.toks) l.keeps;exact hx cA e _ I2 #[UT c l.new (da c l.new),.inl #[_,_,_,p,#[rfl,rfl],rfl,#[rfl,λ_=>rfl],rfl]]
def Tu{K:kA}(X:K.In s.heap)(o:TJ K C i)(p:TJ K D j)
  (v:XI K C (.ref D)=aA bA) (w:s.heap.get? a=aA x) (y:x.cls=.ref C) (h:Q bA s):sA M A (excMatches (.ref a) (.ref D)) Q E s:=by
 let(z,N,F,k):FA:=o;let(nm,qn,bs,c):BB:=k X
 let(hd,sn,sub,e):BB:=c;let(ab,col,dd,l):BB:=e;let(k0,k1,k2,m):BB:=l;let(k3,k5,I,hN,J,T):fC:=m
 let(n,N',O,P):FA:=p;let(R,U,Y,c):BB:=P X
 let(Z,sn',q,e):BB:=c;let(ab',r,dd',l):BB:=e;let(k0',k1',k2',m):BB:=l;let(k3',k5',t,hN',u,T'):fC:=m
 have b1:(Value.ref C::z).contains (.ref D)=bA:=ED ((F _).symm.trans v);have b2:(Value.ref D::n).contains (.type "BaseException")=bA:=by rw[Bk,T'.hasType (X:="BaseException") (b:=bA) (by decide)];rfl
 let(hp,g,d,tk,os):=s;have f:=tc_notTuple;unfold excMatches
 repeat (first | (with_reducible refine Lk w ?_;rw[y]) | with_reducible refine Lk t ?_ | (with_reducible refine ik I ?_;rw[b1]) | (with_reducible refine ik t ?_;rw[b2]) | wp_step)
 exact h
def wy(I:gA X cA B H s)(d:kD X cA H a)(ok:lD X.prog X.w (GA H a o) s.heap a o):gA X cA B (GA H a o) s:=by
 have ne:∀{b:iA} {u:HO},H b=aA u->b≠a:=λq=>IE q d.1
 have f:∀{b:iA} {u:HO},H b=aA u->GA H a o b=aA u:=λq=>by rw[jB (ne q)];exact q
 have g:∀{b:iA},b≠a->H b=eA->GA H a o b=eA:=λn q=>by rw[jB n];exact q
 refine#[I.ok,I.os,I.bare,#[I.base.keep,I.base.slot,λb h e n i=>g (λz=>?_) (I.base.free b h e n i),I.base.there,λb l e=>f (I.base.QI b l e),λb h u e=>f (I.base.bI b h u e),λb m e=>?_],I.loc,I.cell,g (rD d.2.1) I.free,
  λx c e=>g (d.2.2.2.2.1 x c e) (I.WE x c e),λp j=>?_,λb u e=>?_,I.len]
 .rcases d.2.2.2.1 with w | w
  .exact i (z ▸ w)
  .rw[z,w] at e;cases e
 .let(more,z):=I.base.sH b m e;exact#[more,f z]
 .let(r,t,v):mG:=I.pin p j
  exact#[r,g (d.2.2.2.2.2 p j) t,v]
 .by_cases k:b=a
  .subst k;rw[jC] at e;cases e;exact ok
  .rw[jB k] at e;exact(I.LA b u e).AE (λ_ _ _ q=>q) (λ_ q=>f q) λ_ _ q=>f q
def Cw(I:gA X cA B H s)(hN:X.N.Nodup)(hi:X.N[i]?=aA x)(hx:X.env.kindOf x=aA .local)
  (h:∀Y,gA X cA (B.set i eA) H Y->Q () Y):sA M A (do bindName X.env x .none;unbindBehindTheSuite X.env x pos) Q E s:=by
 let(m,Z,hl):rA:=id I.loc
 refine wpAny_nameGoes_keeps hx Z (by rw[I.ok.kind];rfl) λh' v K sb=>h _ ?_
 let(oL,es,ep,Oa,_):kI:=id Z
 have f:∀b d,X.s₀.heap.get? b=aA d->b≠X.env.locals:=λb d e=>AD (ME (VB e) I.ok.above)
 have g:∀{b:iA} {d:kB},b≠X.env.locals->s.heap.get? b=aA d->h'.get? b=aA d:=λn e=>(sb.2 _ n).trans e
 refine#[I.ok,I.os,I.bare,#[λb d e n O t=>g (f b d e) (I.base.keep b d e n O t),λb d e n O t=>?_,I.base.free,λb d e t=>?_,I.base.QI,I.base.bI,I.base.sH],#[_,K,λj y w e1 k e3=>?_],λy c e=>?_,I.free,I.WE,λp hp=>?_,λb u e=>?_,by rw[eE];exact I.len]
 .let(sl,z):=I.base.slot b d e n O t;exact#[sl,g (f b d e) z]
 .let(o',z):=I.base.there b d e t;exact#[o',g (f b d e) z]
 .by_cases P:j=i
  .subst P;by_cases R:j<B.length
   .rw[NF R] at k;cases k
   .rw[dJ (by rw[eE];lia)] at k;cases k
  .rw[QC (rD P)] at k;let(u,r,lk):rA:=hl j y w e1 k e3
   refine#[u,r, ?_];rcases lk with ⟨F,l⟩ | ⟨F,c,l,oc,o,J⟩
   .refine .inl #[F, ?_];have ny:y≠x:=λz=>P (N2 hN e1 (z ▸ hi))
    simp[ny,l]
   .exact .inr #[F,c,l,oc,g (I.fK y c l) o,J]
 .let(w,oc,o,J):FA:=I.cell y c e
  exact#[w,oc,g (I.fK y c e) o,J]
 .let(F,l,o,J):oB:=I.pin p hp
  exact#[g o F,l,o,J]
 .have nl:∀c w,H c=aA w->c≠X.env.locals:=λc w z z'=>by rw[z',I.free] at z;cases z
  refine(I.LA b u e).AE (λc w U q=>g ?_ q) (λ_ q=>q) λ_ _ q=>q
  rcases U with rfl | U
  .exact nl _ u e
  .exact nl c _ U
end
end CI
namespace CI
set_option tactic.hygienic true
open PySem PySem.Spec PySem.Calls PyProof.Rows L2 PySem.W PySem.Builtin PySem.Builtin.ObjectAttr PySem.Builtin.Getset_descriptor
def BH(a C:iA)(p:Option iA)(h:DB):Prop:=∃b c,h.get? a=aA b/\(b.cls=.ref C/\b.dict=p)/\b.data=.fields c
def BH.ty(x:BH a C p h):Looks M h (typeOf (.ref a)) (.ref C):=by
 let(j,m,e,c,_):pB:=x;rw[<- c.1];exact(Looks.ld e).andThen .now
structure EE(K:kA)(C:iA):Prop where
 q:∃i,TJ K C i
 ga:findIn K (.ref C) "__getattribute__"=aA (aA (.builtin "BaseException.__getattribute__"))
 no:findIn K (.ref C) "__getattr__"=aA eA
 cl:findIn K (.ref C) "__class__"=aA (aA (.builtin "object.__class__"))
 gt:specialIn K (.builtin "object.__class__") "__get__"=aA (aA (.builtin "getset_descriptor.__get__"))
 tk:takesIn K (.builtin "object.__class__")=aA bA
 mo:mroIn K C (.type "object")=aA bA
 mb:mroIn K C (.type "BaseException")=aA bA
 mv:mroIn K C (.type "ValueError")=aA bA
section
variable{K:kA}
def Yu(X:K.In s.heap)(G:EE K C)(x:BH a C p s.heap)(h:R (.ok (.ret (.ref C))) s) :
  mI (model prog w) A (.call (.builtin "getset_descriptor.__get__") #[[.builtin "object.__class__",.ref a,tp],[]]) R s:=by
 let(hh,g,dr,t,os):=s;have b:=x.ty (M:=model prog w);have c:=C7 (M:=model prog w) X G.mo;refine TV KF.slot_gs.plain KF.entry_gs (KF.slot_gs.check _ _ _ _ _ _ _ _ KF.type_class (KF.args_gs _ _ _) ?_);unfold aJ.«getset_descriptor.__get__»;unfold descrGet;rw[dga_obj];refine tA (ZA ?_);unfold descrGetter;unfold descrCheckInstance;unfold descrNameAndClass;unfold isInstance;erw[KF.owner_class]
 repeat lk
 refine#[Ck _ (by left),gW KF.entry_class ?_];unfold aJ.«object.__class__»;unfold shownTypeOf
 repeat lk
 exact h
def Xu(X:K.In h)(G:EE K C):Looks M h (find (.ref a) (.ref C) "__class__") (.bind (.builtin "getset_descriptor.__get__") (.builtin "object.__class__")):=by
 have b:=looks_takesIn (M:=M) X G.tk;refine(iW X G.cl).andThen ((looks_specialIn X G.gt).andThen ?_);exact(show Looks M h (dataDescriptor? (aA (.builtin "object.__class__")) (aA (.builtin "getset_descriptor.__get__"))) (aA (.builtin "getset_descriptor.__get__",.builtin "object.__class__")) from b.andThen .now).andThen (Looks.tag .now)
def Wu(X:K.In s.heap)(G:EE K C)(x:BH a C p s.heap)(h:Q (.done (.ret (.ref C))) s) :
  sA (model prog w) A (aJ.«object.__getattribute__» #[[.ref a,.str "__class__" b],[]]) Q E s:=by
 let(hh,g,dr,t,os):=s;have c:=x.ty (M:=model prog w);have d:=Xu (M:=model prog w) (a:=a) X G
 repeat (any_goals (first | assumption | with_reducible refine Looks.at (by assumption) ?_ | wp_step))
 refine Yu X G x ?_
 repeat (any_goals (first | assumption | wp_step))
def Uu(X:K.In s.heap)(G:EE K C)(x:BH a C p s.heap)(h:Q () s):sA (model prog w) A (checkBuiltinCall "BaseException.__getattribute__" #[[.ref a,v],[]]) Q E s:=by
 let(hh,g,dr,t,os):=s;have b:=x.ty (M:=model prog w);have c:=C7 (M:=model prog w) X G.mb;have z:=PySem.F.args_bexc_ga (.ref a) v;simp only[checkBuiltinCall,show builtinKind "BaseException.__getattribute__"=aA .slot from by left,show splitId "BaseException.__getattribute__"=aA ("BaseException","__getattribute__") from by left];refine tA ?_;unfold isInstance
 repeat (any_goals (first | assumption | with_reducible refine Looks.at (by assumption) ?_ | wp_step))
def Vu(X:K.In s.heap)(G:EE K C)(x:BH a C p s.heap)(h:Q (aA (.ref C)) { s with toks:=s.toks+1 }):sA (model prog w) A (getAttr? (.ref a) "__class__") Q E s:=by
 let(hh,g,dr,t,os):=s;have b:=x.ty (M:=model prog w);have c:=iW (M:=model prog w) X G.ga;have L2:=iW (M:=model prog w) X G.no;have e:=C7 (M:=model prog w) X G.mb;have f:=PySem.F.excAttr_ValueError.ga.bind (.ref a);unfold getAttr? getAttrBy? getAttrBy;refine tA (wpAny_mkText (tA (nW (VI (tA (b.at (tA (c.at ?_))))))));have d:(onTheHeap (Value.ref C)&&Value.builtin "BaseException.__getattribute__" == Value.builtin "object.__getattribute__")=dA:=by rw[show(Value.builtin "BaseException.__getattribute__" == Value.builtin "object.__getattribute__")=dA from by left,kW]
 dsimp only;rw[if_neg (by rw[d];exact OE)];unfold getAttrByItsOwn
 repeat (any_goals (first | assumption | with_reducible refine Looks.at (by assumption) ?_ | wp_step))
 refine TV PySem.F.attr_ValueError.ga.plain PySem.F.entry_bexc_ga (Uu (s:=#[hh,g,dr,t+1,os]) X G x (Wu (s:=#[hh,g,dr,t+1,os]) X G x ?_))
 repeat (any_goals (first | assumption | wp_step))
def N1(G:EE K C):KitX K (.ref a) (.ref C) (BH a C p) where
 ty:=λ_ _ _ x=>x.ty
 it:=λ_ _ X _=>by
  let(_,l,N,_,k):kI:=G.q
  let(m,b):=k X;let(o,bs,hd,c):BB:=b;let(r,sub,s,d):BB:=c;let(col,j,t,f):BB:=d;let(u,v,w,y,i,_):uF:=f
  intro F H I J A q;unfold isType loadHead;exact tA (wpAny_loadPart (A _ _ i) (ZA q))
 ne:=λh tp j B n sl X g=>by
  let(_,l,N,_,k):kI:=G.q
  let(m,b):=k X;let(o,bs,hd,c):BB:=b;let(r,sub,s,d):BB:=c;let(col,j,t,f):BB:=d;let(u,v,w,y,i,_):uF:=f
  refine Bool.eq_false_iff.mpr λq=>?_
  have e:C=tp:=Ll (HG.mp q);subst e;rw[i] at g;have z:=congrArg Obj.data (ED g);cases z
 ca:=λX x k=>Vu X G x k
def U_(G:EE K C):kitOne K (.ref C) (.type "ValueError")=aA bA:=by
 unfold kitOne kitCls;rw[if_neg (by simp)];show(if kitMeta "ValueError"=bA then subIn K (.ref C) (.type "ValueError") else eA)=aA bA;rw[RA (by left)];exact G.mv
def T_(e:BN K C D=bA):kitOne K (.ref C) (.ref D)=aA dA:=by
 unfold BN at e;rw[XA,XA,XA] at e;obtain⟨⟨⟨a,b⟩,c⟩,d⟩:=e;unfold kitOne kitCls;rw[if_neg (λz=>lP a (Ll (HG.mp z)))];show(if((clsIn K D).isSome&&typeIn K (.ref D)==aA (.type "type"))=bA then subIn K (.ref C) (.ref D) else eA)=aA dA;rw[RA (by rw[b,c];rfl)];exact HG.mp d
def S_(e:isIn K (.ref C) D=bA):kitOne K (.ref C) (.ref D)=aA bA:=by
 unfold isIn at e;unfold kitOne kitCls;by_cases h:(Value.ref C==Value.ref D)=bA
 .rw[RA h]
 .rw[if_neg h];rw[fJ] at e;rcases e with e | e
  .exact absurd e h
  .rw[XA,XA,XA] at e;obtain⟨⟨⟨a,b⟩,_⟩,c⟩:=e;show(if((clsIn K D).isSome&&typeIn K (.ref D)==aA (.type "type"))=bA then subIn K (.ref C) (.ref D) else eA)=aA bA;rw[RA (by rw[a,b];rfl)];exact HG.mp c
end
end CI
namespace CI
set_option tactic.hygienic true
open PySem
def JE{Z:Type}{a:Z}{p:Prop}(h:eA=aA a):p:=nomatch h
set_option genCtorIdx true in
set_option genInjectivity true in
inductive D where
 |lA
 |bl (b:Bool)
 |int (i:Int)
 |str (x:fA)
 |t (ds:List D)
 |l (ds:List D)
 |ins (c:fA) (ns:List fA) (ds:List D)
 |zC (c:fA) (n:Option Int)
 |aB (ks:List L2.MB) (ds:List D)
 |pJ (ks:List Int) (ds:List D)
 |fX (n:Nat) (ds:List D)
 deriving Inhabited
inductive RV where
 |sh (d:D) | ow (d:D) | od (d:D)
set_option genCtorIdx true in
set_option genInjectivity true in
gen_injective_theorems% RV
noncomputable def RV.d:RV->D
 |.sh d=>d
 |.ow d=>d
 |.od d=>d
noncomputable def RV.low:RV->RV
 |.od d=>.ow d
 |v=>v
inductive Sl where
 |un | mv | sh (d:D) | ow (d:D) (pin lk:Bool)
set_option genCtorIdx true in
set_option genInjectivity true in
gen_injective_theorems% Sl
noncomputable def Sl.get:Sl->Option D
 |.un=>eA
 |.mv=>eA
 |.sh d=>aA d
 |.ow d _ _=>aA d
structure Exc where
 cls:fA
 num:Option Int
inductive Out(Z:Type) where
 |ok (a:Z) | ex (e:Exc)
set_option genCtorIdx true in
set_option genInjectivity true in
gen_injective_theorems% Out
abbrev Env:=List Sl
abbrev zA(Z:Type):=Option (Out Z×Env)
noncomputable def zA.bind(r:zA Z)(f:Z->Env->zA J):zA J :=
 match r with
 |none=>eA
 |some (.ex e,U)=>some (.ex e,U)
 |some (.ok a,U)=>f a U
inductive Hd where
 |slot (i:Nat) | val (v:RV)
set_option genCtorIdx true in
set_option genInjectivity true in
gen_injective_theorems% Hd
noncomputable def Hd.get(h:Hd)(U:Env):Option D :=
 match h with
 |.slot i=>(U[i]?).bind Sl.get
 |.val v=>aA v.d
noncomputable def getAll:List Hd->Env->Option (List D)
 |[],_=>aA []
 |h::r,U=>(h.get U).bind λd=>(getAll r U).map (d :: ·)
inductive Ty where
 |int | bool | str | list | tuple | dict | cls (c:Nat) | TR
set_option genCtorIdx true in
set_option genInjectivity true in
gen_injective_theorems% Ty
set_option genCtorIdx true in
inductive BI where
 |len
 |abs
 |int
 |list
 |tuple
 |max
 |all
 |dict
 |sum
 deriving DecidableEq
set_option genCtorIdx true in
inductive UE where
 |IB | of | enum (lo:Int) | sig | key | rdn
 deriving DecidableEq
set_option genSizeOf false
inductive E where
 |uA
 |fI
 |v (i:Nat)
 |c (d:D)
 |t (es:List E)
 |l (es:List E)
 |wA (op:NJ) (a b:E)
 |neg (a:E)
 |not (a:E)
 |BA (op:LG) (a b:E)
 |CF (op op':LG) (a b c:E)
 |and (a b:E)
 |or (a b:E)
 |ite (c a b:E)
 |ix (a i:E)
 |sl (a lo hi:E)
 |rev (a:E)
 |call (f:String) (args:List E)
 |bif (f:BI) (args:List E)
 |GI (a:E) (ts:List Ty)
 |tK (a:E) (sn:List (List fA×List fA))
 |app (i:Nat) (a:E)
 |ext (i:Nat) (a:E)
 |oQ (k v:E)
 |qL
 |NO (i:Nat)
 |uSa (i j:Nat)
 |nD (i:Nat)
 |KI (a:E)
 |gN (a:E)
 |fld (a:E) (f:fA)
 |make (c:fA) (ns:List fA) (args:List E)
 |JI (i:Nat) (m:fA) (tb:List (fA×String)) (args:List E)
 |comp (lC:E) (tg:List Nat) (k:UE) (hE:List E) (cond:List E) (imp:List Nat) (nl:Nat)
 |ER (s:String) (cs:List fA) (g:String) (es:List E) (is:List Nat)
set_option genCtorIdx true in
gen_injective_theorems% E
inductive S where
 |uA
 |pass
 |brk
 |cnt
 |QA (i:Nat) (e:E)
 |RN (is:List Nat) (e:E)
 |set (i:Nat) (k e:E)
 |expr (e:E)
 |ret (e:E)
 |fV
 |kN (h e:E)
 |EA (c:E) (a b:List S)
 |for (tg:List Nat) (one:Bool) (k:UE) (hE:List E) (body:List S)
 |OK (c:E) (body:List S)
 |HL (c:fA) (args:List E)
 |Y3 (c:fA) (args:List E)
 |eg (i j:Nat) (e c:E)
 |srt (i:Nat) (e:E) (aAj:List S)
set_option genCtorIdx true in
gen_injective_theorems% S
noncomputable def eC:Nat->D->Bool
 |_,.lA=>bA
 |_,.bl _=>bA
 |_,.int _=>bA
 |_,.str _=>bA
 |n+1,.t a=>a.all (eC n)
 |n+1,.l a=>a.all (eC n)
 |_,_=>dA
mutual
noncomputable def uG:D->D->Bool
 |.lA,.lA=>bA
 |.bl a,.bl b=>a==b
 |.bl a,.int b=>(if a then 1 else 0)==b
 |.int a,.bl b=>a==(if b then 1 else 0)
 |.int a,.int b=>a==b
 |.str a,.str b=>a==b
 |.t a,.t b=>JM a b
 |.l a,.l b=>JM a b
 |_,_=>dA
noncomputable def JM:List D->List D->Bool
 |[],[]=>bA
 |a::as,b::bs=>uG a b&&JM as bs
 |_,_=>dA
end
noncomputable def cl(p:Prop):Decidable p:=V5 p
noncomputable section
def OI:D->Option Bool
 |.lA=>aA dA
 |.bl b=>aA b
 |.int i=>aA (i != 0)
 |.str x=>@ite _ (x.length<=1000000) (cl _) (aA ((x.length:Int) != 0)) eA
 |.t a=>aA (!a.isEmpty)
 |.l a=>aA (!a.isEmpty)
 |_=>eA
def fB(n:Nat):Bool:=@decide (n<=1000000) (cl _)
def kC:NJ->D->D->Option RV
 |.Add,.int i,.int j=>aA (.sh (.int (i+j)))
 |.Sub,.int i,.int j=>aA (.sh (.int (i-j)))
 |.Mult,.int i,.int j=>@ite _ ((-(2 ^ 64)<i/\i<2 ^ 64)\/(-(2 ^ 64)<j/\j<2 ^ 64)) (cl _) (aA (.sh (.int (i*j)))) eA
 |.FloorDiv,.int i,.int j=>@ite _ (0<j/\j<100000000000000000000000000000000000000000000000000000000000000000000000000000000) (cl _) (aA (.sh (.int (i / j)))) eA
 |.Mod,.int i,.int j=>@ite _ (0<j) (cl _) (aA (.sh (.int (i % j)))) eA
 |.LShift,.int i,.int j=>@ite _ (0<=j/\j<=1000/\i.natAbs<2 ^ 64) (cl _) (aA (.sh (.int (i*2 ^ j.toNat)))) eA
 |.RShift,.int i,.int j=>@ite _ (0<=j) (cl _) (aA (.sh (.int (i / 2 ^ j.toNat)))) eA
 |.BitAnd,.int i,.int j=>aA (.sh (.int (jS i j)))
 |.Add,.l a,.l b=>if fB (a.length+b.length) then aA (.ow (.l (a++b))) else eA
 |.Add,.t [],.t b=>aA (.sh (.t b))
 |.Add,.t (x::a),.t b=>if fB (a.length+1+b.length) then aA (.sh (.t (x::a++b))) else eA
 |.Mult,.l a,.int k=>@ite _ (-(2 ^ 31)<=k/\k<=1000/\fB (a.length*k.toNat)) (cl _) (aA (.ow (.l (qB k.toNat a).flatten))) eA
 |_,_,_=>eA
noncomputable def FD:D->Bool
 |.lA=>bA | .bl _=>bA | .int _=>bA | .str _=>bA
 |_=>dA
def inD(x:D)(a:List D):Bool:=a.any λy=>uG y x
noncomputable def oD:List D->Option (List Int)
 |[]=>aA []
 |.int i::r=>(oD r).map (i :: ·)
 |_=>eA
def sk2:D->D->Option L2.xB
 |.int t,.t a=>(oD a).map λb=>(t,b)
 |_,_=>eA
def oV:D->Option L2.xB
 |.t [a,b]=>sk2 a b
 |_=>eA
def jE(d:D):Option L2.MB:=(oV d).map .inl
noncomputable def vA(k:L2.xB):D:=.t [.int k.1,.t (k.2.map D.int)]
def HM(k:L2.MB):D:=vA (L2.gk k)
noncomputable def xK(a:List L2.MB)(b:List D)(k:L2.MB):Option D:=((a.zip b).find? λp=>decide (p.1=k)).map (·.2)
noncomputable def AI(a:List L2.MB)(k:L2.MB):Bool:=a.any λx=>decide (x=k)
def yE(a:List L2.MB)(k:L2.MB):List L2.MB:=if AI a k then a else a++[k]
def aE(a:List L2.MB)(b:List Z)(k:L2.MB)(d:Z):List Z:=if AI a k then(a.zip b).map (λp=>if p.1=k then d else p.2) else b++[d]
def uO(x:D)(a:List L2.MB):Option Bool:=(jE x).map λk=>AI a k
noncomputable def yK(a:List Int)(b:List D)(k:Int):Option D:=((a.zip b).find? λp=>decide (p.1=k)).map (·.2)
def Za(x:D)(a:List Int)(b:List D):Option Bool:=match x with
 |.int i=>aA (yK a b i).isSome
 |_=>eA
noncomputable def O2:D->Bool
 |.lA=>bA
 |_=>dA
noncomputable def WZ(b:Bool):D->Option Bool
 |.bl a=>aA (a==b)
 |_=>eA
def Ey(x:D):D->Option Bool
 |.lA=>aA (O2 x)
 |.bl b=>WZ b x
 |_=>eA
def Wy(x:D):D->Option Bool
 |.lA=>aA (!O2 x)
 |_=>eA
def PB:LG->D->D->Option Bool
 |.Eq,x,y=>if eC 20 x&&eC 20 y then aA (uG x y) else eA
 |.NotEq,x,y=>if eC 20 x&&eC 20 y then aA (!uG x y) else eA
 |.Lt,.int i,.int j=>aA (decide (i<j))
 |.LtE,.int i,.int j=>aA (decide (i<=j))
 |.Gt,.int i,.int j=>aA (decide (j<i))
 |.GtE,.int i,.int j=>aA (decide (j<=i))
 |.Is,x,y=>Ey x y
 |.IsNot,x,y=>Wy x y
 |.In,x,.t a=>if FD x&&a.all FD then aA (inD x a) else eA
 |.In,x,.l a=>if FD x&&a.all FD then aA (inD x a) else eA
 |.In,x,.aB b _=>uO x b
 |.In,x,.pJ b a=>Za x b a
 |.NotIn,x,.t a=>if FD x&&a.all FD then aA (!inD x a) else eA
 |.NotIn,x,.l a=>if FD x&&a.all FD then aA (!inD x a) else eA
 |.NotIn,x,.aB b _=>(uO x b).map (!·)
 |_,_,_=>eA
def eT(a:List D)(i:Int):Option D:=L2.sC a i
def OQ:D->D->Option D
 |.t a,.int i=>eT a i
 |.l a,.int i=>eT a i
 |.aB b a,x=>(jE x).bind (xK b a)
 |.pJ b a,.int i=>yK b a i
 |.str x,.int i=>@ite _ (x.length<=1000000) (cl _) ((L2.sC x.cps.toList i).map λc=>.str #[[c].toArray]) eA
 |_,_=>eA
def aAz(a:List D)(lo b:Option Int):List D:=(a.drop (HT.iB a.length 0 lo)).take (HT.iB a.length a.length b-HT.iB a.length 0 lo)
noncomputable def EL:Option D->Option (Option Int)
 |none=>aA eA
 |some (.int i)=>aA (aA i)
 |_=>eA
def pV:D->Option Int->Option Int->Option RV
 |.l a,lo,b=>aA (.ow (.l (aAz a lo b)))
 |.t a,lo,b=>aA (.sh (.t (aAz a lo b)))
 |_,_,_=>eA
noncomputable def xMa:D->Option RV
 |.t a=>aA (.sh (.t a.reverse))
 |.l a=>aA (.ow (.l a.reverse))
 |_=>eA
noncomputable def xI:List D->Option (List Bool)
 |[]=>aA []
 |.bl b::r=>(xI r).map (b :: ·)
 |_=>eA
mutual
noncomputable def bE:D->PyData
 |.lA=>.none
 |.bl b=>.bool b
 |.int i=>.int i
 |.str x=>.str x
 |.t a=>.tuple (MK a)
 |.l a=>.list (MK a)
 |.ins _ _ _=>.none
 |.zC _ _=>.none
 |.aB _ _=>.none
 |.pJ _ _=>.none
 |.fX _ _=>.none
noncomputable def MK:List D->List PyData
 |[]=>[]
 |d::a=>bE d::MK a
end
def ZQ:D->Option (L2.MB×D)
 |.t [k,d]=>(jE k).map λq=>(q,d)
 |_=>eA
def zL:List D->Option (List (L2.MB×D))
 |[]=>aA []
 |d::r=>(ZQ d).bind λp=>(zL r).map (p :: ·)
def aAw(b:List (L2.MB×D))(a:List L2.MB×List D):List L2.MB×List D:=b.foldl (λa p=>(yE a.1 p.1,aE a.1 a.2 p.1 p.2)) a
def xT(b:List D):Option RV:=(zL b).map λa=>.sh (.aB (aAw a ([],[])).1 (aAw a ([],[])).2)
def qp:BI->D->Option RV
 |.len,.l a=>aA (.sh (.int a.length))
 |.len,.t a=>aA (.sh (.int a.length))
 |.len,.aB c _=>aA (.sh (.int c.length))
 |.len,.str x=>@ite _ (x.length<=1000000) (cl _) (aA (.sh (.int x.length))) eA
 |.abs,.int i=>aA (.sh (.int (if i<0 then -i else i)))
 |.int,.int i=>aA (.sh (.int i))
 |.int,.bl b=>aA (.sh (.int (if b then 1 else 0)))
 |.list,.l a=>aA (.ow (.l a))
 |.list,.t a=>aA (.ow (.l a))
 |.list,.aB c _=>aA (.ow (.l (c.map HM)))
 |.dict,.l a=>xT a
 |.tuple,.l a=>aA (.sh (.t a))
 |.tuple,.t a=>aA (.sh (.t a))
 |.max,.l a=>match oD a with
  |some (i::r)=>aA (.sh (.int (r.foldl (λm y=>if y > m then y else m) i)))
  |_=>eA
 |.all,.l a=>(xI a).map λbs=>.sh (.bl (bs.all id))
 |.sum,.l a=>(oD a).map λd=>.sh (.int d.sum)
 |_,_=>eA
noncomputable def mm(f:Int->Int->Int):D->D->Option RV
 |.int i,.int j=>aA (.sh (.int (f i j)))
 |_,_=>eA
def WD:BI->List D->Option RV
 |.max,[x,y]=>mm (λi j=>if j > i then j else i) x y
 |f,[d]=>qp f d
 |_,_=>eA
noncomputable def r0:Ty->D->Option Bool
 |.int,d=>match d with
  |.int _=>aA bA | .bl _=>aA bA | .lA=>aA dA | .str _=>aA dA | .t _=>aA dA | .l _=>aA dA
  |_=>eA
 |.bool,d=>match d with
  |.bl _=>aA bA | .int _=>aA dA | .lA=>aA dA | .str _=>aA dA | .t _=>aA dA | .l _=>aA dA
  |_=>eA
 |.str,d=>match d with
  |.str _=>aA bA | .bl _=>aA dA | .int _=>aA dA | .lA=>aA dA | .t _=>aA dA | .l _=>aA dA
  |_=>eA
 |.list,d=>match d with
  |.l _=>aA bA | .bl _=>aA dA | .int _=>aA dA | .lA=>aA dA | .t _=>aA dA | .str _=>aA dA
  |_=>eA
 |.tuple,d=>match d with
  |.t _=>aA bA | .bl _=>aA dA | .int _=>aA dA | .lA=>aA dA | .l _=>aA dA | .str _=>aA dA
  |_=>eA
 |.TR,d=>match d with
  |.zC _ _=>aA bA
  |_=>eA
 |_,_=>eA
def MQ:List Ty->D->Option Bool
 |[],_=>aA dA
 |t::r,d=>(r0 t d).bind λb=>(MQ r d).map λc=>b||c
noncomputable def UM(c:fA):List (List fA×List fA)->Option Bool
 |[]=>aA dA
 | (s,n)::r=>if s.contains c then aA bA else if n.contains c then UM c r else eA
def u0(a:List (List fA×List fA)):D->Option RV
 |.zC c _=>(UM c a).map λb=>.sh (.bl b)
 |_=>eA
def mR:D->Option RV
 |.l a=>match oD a with
  |some is=>@ite _ (is.length<=1000) (cl _) (aA (.sh (.int (Pj (λi=>is.getD i 0) is.length).length))) eA
  |none=>eA
 |_=>eA
noncomputable def uY:D->fA->Option D
 |.ins _ a b,f=>(a.zip b).lookup f
 |_,_=>eA
noncomputable def YF(c:fA)(a:List fA)(m:fA)(b:List (fA×String)):Option String:=if a.contains m then eA else b.lookup c
def aAh(t:Bool)(r:zA RV):zA RV :=
 match t with
 |false=>r
 |true=>r.bind λv U=>(OI v.d).map λb=>(.ok (.sh (.bl b)),U)
noncomputable def hd(e:E)(r:zA RV)(U:Env):zA Hd :=
 match e with
 |.v i=>if((U[i]?).bind Sl.get).isSome then some (.ok (.slot i),U) else eA
 |_=>r.bind λv a=>some (.ok (.val v.low),a)
noncomputable def qb:E->Bool
 |.fI=>bA
 |_=>dA
def aAO(e:E)(r:zA RV)(U:Env):zA (Option D) :=
 if qb e then some (.ok eA,U) else r.bind λv a=>some (.ok (aA v.d),a)
noncomputable def DO(op:NJ)(x:Hd)(d:D):Bool :=
 match op,d with
 |.Mult,.l _=>match x with
  |.val (.ow _)=>bA
  |_=>dA
 |_,_=>bA
noncomputable def FI(U:Env)(i:Nat):Bool :=
 match U[i]? with
 |some (.ow (.l _) _ _)=>bA
 |_=>dA
noncomputable def KQ(U:Env)(i:Nat):Bool :=
 match U[i]? with
 |some (.ow (.aB _ _) _ _)=>bA
 |_=>dA
noncomputable def Fy(U:Env)(i:Nat):Bool :=
 match U[i]? with
 |_=>dA
noncomputable def aAJ(i:Nat)(U:Env):zA RV :=
 match U[i]? with
 |some (.sh d)=>some (.ok (.sh d),U)
 |some (.ow d dA dA)=>some (.ok (.sh d),U.set i (.sh d))
 |_=>eA
noncomputable def done(o:Option RV)(U:Env):zA RV:=o.map λv=>(.ok v,U)
noncomputable def store(i:Nat)(v:RV)(U:Env):Option Env :=
 match U[i]? with
 |none=>eA
 |some (.ow _ bA _)=>eA
 |some (.ow _ _ bA)=>eA
 |some _=>match v with
  |.sh d=>aA (U.set i (.sh d))
  |.ow d=>aA (U.set i (.ow d dA dA))
  |.od _=>eA
def aAq:List Nat->List D->Env->Option Env
 |[],[],U=>aA U
 |i::is,d::a,U=>(store i (.sh d) U).bind (aAq is a)
 |_,_,_=>eA
def eB(one:Bool)(a:List Nat)(d:D)(U:Env):Option Env :=
 match one,a,d with
 |true,[i],d=>store i (.sh d) U
 |false,is,.t b=>aAq is b U
 |_,_,_=>eA
abbrev Calls:=String->List Sl->zA RV
noncomputable def aAk(cA:List Bool)(f:List Hd)(U:Env):Option (List Sl×Env) :=
 match cA,f with
 |[],[]=>aA ([],U)
 |p::b,.val (.sh d)::r=>(aAk b r U).map λ(as,a)=>(.sh d::as,a)
 |p::b,.val (.ow d)::r=>(aAk b r U).map λ(as,a)=>((if p then .ow d bA dA else .sh d)::as,a)
 |p::b,.slot i::r =>
  match U[i]? with
  |some (.sh d)=>(aAk b r U).map λ(as,a)=>(.sh d::as,a)
  |some (.ow d c e) =>
   match p with
   |true=>(aAk b r (U.set i .un)).map λ(as,a)=>(.ow d bA e::as,a)
   |false=>if c||e then eA else(aAk b r (U.set i (.sh d))).map λ(as,a)=>(.sh d::as,a)
  |_=>eA
 |_,_=>eA
noncomputable def aAg(cA:List Bool)(f:List Hd)(as:List Sl)(b U:Env):Option Env :=
 match cA,f,as with
 |[],[],[]=>aA U
 |true::c,.slot i::r,a::as =>
  match b[i]?,a with
  |some (.ow _ e g),.ow d _ _=>aAg c r as b (U.set i (.ow d e g))
  |some (.ow _ _ _),_=>eA
  |_,_=>aAg c r as b U
 |_::c,_::r,_::as=>aAg c r as b U
 |_,_,_=>eA
def HC(cA:List Bool)(f:List Sl->zA RV)(b:List Hd)(U:Env):zA RV :=
 match aAk cA b U with
 |none=>eA
 |some (as,c) =>
  match f as with
  |none=>eA
  |some (o,a)=>(aAg cA b a U c).map λd=>(o,d)
noncomputable def dH(lo:Int)(a:List D):List D:=(nC a.length).map λ(j:Nat)=>.t [.int (lo+(j:Int)),a.getD j .lA]
def D1:RV->Option (List D×Option Nat)
 |.sh (.aB a _)=>aA (a.map HM,eA)
 |_=>eA
def Fm{Z:Type}(n:Nat)(a b:List Z):Prop:=a.length=n/\∀e∈a,e∈b
def aAb(k:UE)(e:List Hd)(U:Env):Option (List D×Option Nat) :=
 match k,e with
 |.IB,[a]=>match a.get U with
  |some (.int n)=>@ite _ (-1000000<=n/\n<=1000000) (cl _) (aA ((nC n.toNat).map λ(j:Nat)=>.int (j:Int),eA)) eA
  |_=>eA
 |.IB,[a,b]=>match a.get U,b.get U with
  |some (.int m),aA (.int n)=>@ite _ ((-1000000<=m/\m<=1000000)/\(-1000000<=n/\n<=1000000)) (cl _) (aA ((nC (n-m).toNat).map λ(j:Nat)=>.int (m+(j:Int)),eA)) eA
  |_,_=>eA
 |.enum lo,[.slot i]=>match U[i]? with
  |some (.ow (.l c) _ _)=>aA (dH lo c,aA i)
  |some (.sh (.l c))=>aA (dH lo c,eA)
  |_=>eA
 |.enum lo,[.val v]=>match v.d with
  |.l c=>aA (dH lo c,eA)
  |_=>eA
 |.of,[.slot i]=>match U[i]? with
  |some (.ow (.l c) _ _)=>aA (c,aA i)
  |some (.sh (.l c))=>aA (c,eA)
  |some (.sh (.t c))=>aA (c,eA)
  |_=>eA
 |.of,[.val v]=>match v.d with
  |.l c=>aA (c,eA)
  |.t c=>aA (c,eA)
  |_=>eA
 |.key,[.val v]=>D1 v
 |_,_=>eA
noncomputable def aAi(o:Option Nat)(U:Env):Env :=
 match o with
 |none=>U
 |some i=>U.set i .un
noncomputable def aAs(o:Option Nat)(a U:Env):Option Env :=
 match o with
 |none=>aA U
 |some i=>match U[i]?,a[i]? with
  |some .un,aA sl=>aA (U.set i sl)
  |_,_=>eA
noncomputable def nE(a:Env->zA RV)(e:Env->zA RV)(bind:D->Env->Option Env):List D->List D->Env->zA (List D)
 |[],b,U=>some (.ok b,U)
 |d::f,b,U=>match bind d U with
  |none=>eA
  |some h=>(a h).bind λc g=>match c with
   |.sh (.bl bA)=>(e g).bind λv i=>nE a e bind f (b++[v.d]) i
   |.sh (.bl dA)=>nE a e bind f b g
   |_=>eA
noncomputable def back:List Sl->Env->List Sl
 |.ow _ _ _::as,b::bs=>b::back as bs
 |a::as,_::bs=>a::back as bs
 |_,_=>[]
noncomputable def AJ:Sl->Bool
 |.ow _ p _=>p
 |.sh _=>bA
 |_=>dA
def oJ(a:Env->zA RV)(c:Env->zA RV)(bind:D->Env->Option Env)(d:List D)(nl:Nat)(as:List Sl):zA RV :=
 if as.all AJ=bA then(nE a c bind d [] (as++qB nl .un)).bind λb e =>
  if fB b.length then some (.ok (.ow (.l b)),back as e) else eA
 else eA
def aAx(o:Option Nat)(a:Env)(v:RV)(b:Env):zA RV:=(aAs o a b).map λc=>(.ok v,c)
structure Fn where
 cA:List Bool
 nl:Nat
 body:List S
 rs:Bool
abbrev bB:=String->List Bool
noncomputable def JL(as:List Sl):zA RV->zA RV
 |some (.ok (.ow d),_)=>some (.ok (.ow d),as)
 |_=>eA
def RO(a:List fA)(f:List Sl->zA RV)(as:List Sl):zA RV->zA RV
 |some (.ok v,_)=>JL as (f [.sh .lA,.sh v.d])
 |some (.ex x,_)=>if a.contains x.cls then JL as (f [.sh (.zC x.cls x.num),.sh .lA]) else eA
 |none=>eA
noncomputable def FK:Sl->Bool
 |.sh _=>bA
 |_=>dA
def FR(a:List fA)(f:List Sl->zA RV)(c:List Hd->Env->zA RV)(h:Env->zA (List Hd))(as:List Sl):zA RV :=
 if as.all FK then(match h as with
  |some (.ok b,d)=>RO a f as (c b d)
  |_=>eA)
 else eA
noncomputable def yT(k:Option L2.MB)(u:RV)(U:Env):zA RV :=
 match k with
 |some k=>some (.ok (.ow (.aB [k] [u.d])),U)
 |none=>eA
noncomputable def uR(i:Nat)(U:Env):Option Sl->zA RV
 |some (.ow (.l a) p dA)=>(a[a.length-1]?).map λd=>(.ok (.sh d),U.set i (.ow (.l a.dropLast) p dA))
 |_=>eA
mutual
noncomputable def ev(P:bB)(C:Calls)(t:Bool):E->Env->zA RV
 |.uA,_=>eA
 |.fI,_=>eA
 |.v i,U=>match t with
  |true=>aAh bA (((U[i]?).bind Sl.get).map λd=>(.ok (.sh d),U))
  |false=>aAJ i U
 |.c d,U=>aAh t (some (.ok (.sh d),U))
 |.t r,U=>aAh t ((VE P C r U).bind λq F=>if fB q.length then some (.ok (.sh (.t q)),F) else eA)
 |.l r,U=>aAh t ((VE P C r U).bind λq F=>if fB q.length then some (.ok (.ow (.l q)),F) else eA)
 |.wA op a b,U=>aAh t ((hd a (ev P C dA a U) U).bind λx j=>(hd b (ev P C dA b j) j).bind λy n =>
   done ((x.get n).bind λd=>(y.get n).bind λe=>if DO op x d then kC op d e else eA) n)
 |.neg a,U=>aAh t ((ev P C dA a U).bind λv j=>match v.d with
  |.int i=>some (.ok (.sh (.int (-i))),j)
  |_=>eA)
 |.not a,U=>match t with
  |true=>(ev P C bA a U).bind λv j=>match v with
   |.sh (.bl b)=>some (.ok (.sh (.bl (!b))),j)
   |_=>eA
  |false=>(hd a (ev P C dA a U) U).bind λx j=>done ((x.get j).bind λd=>(OI d).map λb=>.sh (.bl (!b))) j
 |.BA op a b,U=>(hd a (ev P C dA a U) U).bind λx j=>(hd b (ev P C dA b j) j).bind λy n =>
   done ((x.get n).bind λd=>(y.get n).bind λe=>(PB op d e).map λb=>.sh (.bl b)) n
 |.CF op H a b c,U=>(hd a (ev P C dA a U) U).bind λx j=>(hd b (ev P C dA b j) j).bind λy n =>
   match (x.get n).bind λd=>(y.get n).bind λe=>PB op d e with
   |none=>eA
   |some dA=>some (.ok (.sh (.bl dA)),n)
   |some bA=>(hd c (ev P C dA c n) n).bind λz A =>
    done ((y.get A).bind λd=>(z.get A).bind λe=>(PB H d e).map λb=>.sh (.bl b)) A
 |.and a b,U=>(ev P C t a U).bind λv j=>match v with
  |.sh (.bl bA)=>ev P C t b j
  |.sh (.bl dA)=>some (.ok (.sh (.bl dA)),j)
  |_=>eA
 |.or a b,U=>(ev P C t a U).bind λv j=>match v with
  |.sh (.bl bA)=>some (.ok (.sh (.bl bA)),j)
  |.sh (.bl dA)=>ev P C t b j
  |_=>eA
 |.ite c a b,U=>(ev P C bA c U).bind λv j=>match v with
  |.sh (.bl bA)=>ev P C t a j
  |.sh (.bl dA)=>ev P C t b j
  |_=>eA
 |.ix a i,U=>aAh t ((hd a (ev P C dA a U) U).bind λx j=>(ev P C dA i j).bind λk n =>
   done ((x.get n).bind λd=>(OQ d k.d).map .sh) n)
 |.sl a lo K,U=>aAh t ((hd a (ev P C dA a U) U).bind λx j =>
   (aAO lo (ev P C dA lo j) j).bind λl n=>(aAO K (ev P C dA K n) n).bind λh A =>
   done ((x.get A).bind λd=>(EL l).bind λl=>(EL h).bind λh=>pV d l h) A)
 |.rev a,U=>aAh t ((hd a (ev P C dA a U) U).bind λx j=>done ((x.get j).bind xMa) j)
 |.call f r,U=>aAh t ((vC P C r U).bind λw j=>HC (P f) (C f) w j)
 |.bif f r,U=>aAh t ((vC P C r U).bind λw j=>done ((getAll w j).bind (WD f)) j)
 |.ER s N g r is,U=>aAh t (HC (is.map λ_=>dA) (FR N (C s) (HC (P g) (C g)) (vC P C r)) (is.map Hd.slot) U)
 |.GI a O,U=>aAh t ((hd a (ev P C dA a U) U).bind λx j =>
   done ((x.get j).bind λd=>(MQ O d).map λb=>.sh (.bl b)) j)
 |.tK a Q,U=>aAh t ((hd a (ev P C dA a U) U).bind λx j=>done ((x.get j).bind (u0 Q)) j)
 |.app i a,U=>aAh t (if FI U i then(ev P C dA a U).bind λv j=>match j[i]? with
  |some (.ow (.l q) p dA)=>if fB (q.length+1) then some (.ok (.sh .lA),j.set i (.ow (.l (q++[v.d])) p dA)) else eA
  |_=>eA
  else eA)
 |.NO i,U=>aAh t (uR i U U[i]?)
 |.uSa _ _,_=>eA
 |.qL,U=>aAh t (some (.ok (.ow (.aB [] [])),U))
 |.oQ a b,U=>aAh t ((ev P C dA a U).bind λv j=>(ev P C dA b j).bind λu n=>yT (jE v.d) u n)
 |.ext i a,U=>aAh t (if FI U i then(ev P C dA a U).bind λv j=>match j[i]?,v with
  |some (.ow (.l q) p dA),.ow (.l r)=>if fB (q.length+r.length) then some (.ok (.sh .lA),j.set i (.ow (.l (q++r)) p dA)) else eA
  |_,_=>eA
  else eA)
 |.nD i,U=>aAh t (aAJ i U)
 |.KI _,_=>eA
 |.gN a,U=>aAh t ((hd a (ev P C dA a U) U).bind λx j=>done ((x.get j).bind mR) j)
 |.fld a f,U=>aAh t ((hd a (ev P C dA a U) U).bind λx j=>done ((x.get j).bind λd=>(uY d f).map .sh) j)
 |.make c B r,U=>aAh t ((VE P C r U).bind λq j=>if q.length=B.length then some (.ok (.sh (.ins c B q)),j) else eA)
 |.JI i m R r,U=>aAh t (match U[i]? with
  |some (.sh (.ins c B q))=>(match YF c B m R with
   |some f=>(vC P C r U).bind λw j=>HC (P f) (C f) (.val (.sh (.ins c B q))::w) j
   |none=>eA)
  |_=>eA)
 |.comp I M k J cond imp nl,U=>aAh t ((vC P C J U).bind λw j =>
   match aAb k w j with
   |none=>eA
   |some (q,o)=>(HC (imp.map λ_=>bA) (oJ (MC P C cond) (ev P C dA I) (eB (M.length==1) M) q nl) (imp.map Hd.slot) (aAi o j)).bind (aAx o j))
noncomputable def VE(P:bB)(C:Calls):List E->Env->zA (List D)
 |[],U=>some (.ok [],U)
 |e::a,U=>(ev P C dA e U).bind λv b=>(VE P C a b).bind λc f=>some (.ok (v.d::c),f)
noncomputable def vC(P:bB)(C:Calls):List E->Env->zA (List Hd)
 |[],U=>some (.ok [],U)
 |e::a,U=>(hd e (ev P C dA e U) U).bind λv b=>(vC P C a b).bind λc d=>some (.ok (v::c),d)
noncomputable def MC(P:bB)(C:Calls):List E->Env->zA RV
 |[],U=>some (.ok (.sh (.bl bA)),U)
 |e::b,U=>(ev P C bA e U).bind λv a=>match v with
  |.sh (.bl bA)=>MC P C b a
  |.sh (.bl dA)=>some (.ok (.sh (.bl dA)),a)
  |_=>eA
end
mutual
noncomputable def VF(P:bB)(C:Calls):E->Env->Option (Exc×Env)
 |.call f a,U=>match vC P C a U with
  |some (.ok b,c)=>match HC (P f) (C f) b c with
   |some (.ex x,d)=>aA (x,d)
   |_=>eA
  |_=>rJ P C a U
 |_,_=>eA
noncomputable def rJ(P:bB)(C:Calls):List E->Env->Option (Exc×Env)
 |[],_=>eA
 |e::a,U=>match hd e (ev P C dA e U) U with
  |some (.ok _,b)=>rJ P C a b
  |_=>VF P C e U
end
inductive Fl where
 |nx | bk | ct | rt (v:RV) | ex (e:Exc)
set_option genCtorIdx true in
set_option genInjectivity true in
gen_injective_theorems% Fl
abbrev Run:=Option (Fl×Env)
noncomputable def zA.mC(r:zA Z)(f:Z->Env->Run):Run :=
 match r with
 |none=>eA
 |some (.ex e,U)=>some (.ex e,U)
 |some (.ok a,U)=>f a U
noncomputable def Run.next(r:Run)(f:Env->Run):Run :=
 match r with
 |some (.nx,U)=>f U
 |r=>r
def Run.restore(r:Run)(o:Option Nat)(j:Env):Run :=
 match r with
 |none=>eA
 |some (m,U)=>(aAs o j U).map λu=>(m,u)
noncomputable def zI(o:Option Env):Run:=o.map λU=>(.nx,U)
noncomputable def pD(bind:D->Env->Option Env)(body:Env->Run):List D->Env->Run
 |[],U=>aA (.nx,U)
 |d::b,U=>match bind d U with
  |none=>eA
  |some c=>match body c with
   |some (.nx,a)=>pD bind body b a
   |some (.ct,a)=>pD bind body b a
   |some (.bk,a)=>aA (.nx,a)
   |r=>r
noncomputable def GF(a:Env->zA RV)(body:Env->Run):Nat->Env->Run
 | 0,_=>eA
 |n+1,U=>(a U).mC λv c=>match v with
  |.sh (.bl bA)=>match body c with
   |some (.nx,b)=>GF a body n b
   |some (.ct,b)=>GF a body n b
   |some (.bk,b)=>aA (.nx,b)
   |r=>r
  |.sh (.bl dA)=>aA (.nx,c)
  |_=>eA
noncomputable def HH(a:Env->zA RV)(body:Env->Run)(b:Env->Option (Exc×Env)):Nat->Env->Option (Exc×Env)
 | 0,_=>eA
 |n+1,U=>match a U with
  |some (.ok (.sh (.bl bA)),d)=>(match body d with
   |some (.nx,c)=>HH a body b n c
   |some (.ct,c)=>HH a body b n c
   |_=>b d)
  |_=>eA
def EK(i:Nat)(U:Env)(o:Option Sl)(k:Option L2.MB)(v:RV):Run :=
 match o,k with
 |some (.ow (.aB a b) p dA),aA k=>if fB (a.length+1) then aA (.nx,U.set i (.ow (.aB (yE a k) (aE a b k v.d)) p dA)) else eA
 |_,_=>eA
def J9(P:bB)(C:Calls)(a:Env->zA RV)(d:List Nat)(k:UE)(b cond:List E)(imp:List Nat)(nl:Nat)(U:Env):zA RV :=
 (vC P C b U).bind λe c =>
   match aAb k e c with
   |none=>eA
   |some (f,o)=>(HC (imp.map λ_=>bA) (oJ (MC P C cond) a (eB (d.length==1) d) f nl) (imp.map Hd.slot) (aAi o c)).bind (aAx o c)
noncomputable def fDa(U:Env):Bool:=U.all λs=>match s with | .ow _ _ _=>dA | _=>bA
noncomputable def Uv(n:Nat)(U:Env):Env :=
 match U[n]? with
 |some (.ow d dA dA)=>U.set n (.sh d)
 |_=>U
def nD:Nat->Env->Env
 | 0,U=>U
 |n+1,U=>Uv n (nD n U)
def kOa(i j:Nat)(U:Env)(e c:Env->zA RV):Run :=
 match e (nD U.length U) with
 |some (.ok (.od (.l b)),a)=>@ite _ (a=nD U.length U/\fDa a=bA/\b.length<=1000/\i<a.length/\j<a.length/\c (a.set i (.sh (.l b)))=some (.ok (.sh (.bl dA)),a.set i (.sh (.l b)))) (cl _) (aA (.nx,(a.set i .mv).set j .mv)) eA
 |_=>eA
mutual
noncomputable def ex(P:bB)(C:Calls)(W:Nat):S->Env->Run
 |.uA,_=>eA
 |.pass,U=>aA (.nx,U)
 |.brk,U=>aA (.bk,U)
 |.cnt,U=>aA (.ct,U)
 |.QA i e,U=>(ev P C dA e U).mC λv f=>zI (store i v f)
 |.RN is e,U=>(ev P C dA e U).mC λv f=>zI (eB dA is v.d f)
 |.set i k e,U=>(ev P C dA e U).mC λv f=>if FI f i then(ev P C dA k f).mC λj g=>match g[i]?,j.d with
  |some (.ow (.l h) p dA),.int n=>zI ((L2.DF h.length n).map λm=>g.set i (.ow (.l (h.set m v.d)) p dA))
  |_,_=>eA
  else if KQ f i then(ev P C dA k f).mC λj g=>EK i g g[i]? (jE j.d) v
  else eA
 |.expr e,U=>(ev P C dA e U).mC λ_ f=>aA (.nx,f)
 |.ret e,U=>match e with
  |.v i=>match U[i]? with
   |some (.ow d dA _)=>aA (.rt (.ow d),U.set i .mv)
   |some (.sh d)=>aA (.rt (.sh d),U)
   |_=>eA
  |e=>(ev P C dA e U).mC λv f=>aA (.rt v,f)
 |.fV,U=>aA (.rt (.sh .lA),U)
 |.kN _ e,U=>(ev P C dA e U).mC λv f=>aA (.rt v,f)
 |.EA c a b,U=>(ev P C bA c U).mC λv f=>match v with
  |.sh (.bl bA)=>JA P C W a f
  |.sh (.bl dA)=>JA P C W b f
  |_=>eA
 |.for q one k l body,U=>(vC P C l U).mC λr f =>
  match aAb k r f with
  |none=>eA
  |some (h,o)=>(pD (eB one q) (JA P C W body) h (aAi o f)).restore o f
 |.OK c body,U=>GF (ev P C bA c) (JA P C W body) W U
 |.HL _ _,_=>eA
 |.Y3 _ _,_=>eA
 |.srt _ _ _,_=>eA
 |.eg i j e c,U=>kOa i j U (ev P C dA e) (ev P C bA c)
noncomputable def JA(P:bB)(C:Calls)(W:Nat):List S->Env->Run
 |[],U=>aA (.nx,U)
 |s::r,U=>(ex P C W s U).next (JA P C W r)
noncomputable def jF(P:bB)(C:Calls)(W:Nat):S->Env->Option (Exc×Env)
 |.QA _ e,U=>VF P C e U
 |.expr e,U=>VF P C e U
 |.ret e,U=>VF P C e U
 |.kN h _,U=>VF P C h U
 |.HL c f,U=>match VE P C f U with
  |some (.ok _,d)=>aA (#[c,eA],d)
  |_=>eA
 |.EA c a b,U=>match ev P C bA c U with
  |some (.ok (.sh (.bl bA)),d)=>YD P C W a d
  |some (.ok (.sh (.bl dA)),d)=>YD P C W b d
  |_=>eA
 |.OK c body,U=>HH (ev P C bA c) (JA P C W body) (YD P C W body) W U
 |_,_=>eA
noncomputable def YD(P:bB)(C:Calls)(W:Nat):List S->Env->Option (Exc×Env)
 |[],_=>eA
 |s::r,U=>match ex P C W s U with
  |some (.nx,a)=>YD P C W r a
  |_=>jF P C W s U
end
abbrev Tab:=String->Option Fn
noncomputable def Tab.cA(T:Tab):bB:=λf=>match T f with
 |some fn=>fn.cA
 |none=>[]
def run(T:Tab)(W:Nat):Nat->Calls
 | 0=>λ_ _=>eA
 |n+1=>λf as=>match T f with
  |none=>eA
  |some fn=>if as.length=fn.cA.length/\as.all AJ=bA then
    match JA T.cA (run T W n) W fn.body (as++qB fn.nl .un) with
    |some (.nx,U)=>some (.ok (.sh .lA),back as U)
    |some (.rt v,U)=>some (.ok v,back as U)
    |_=>if fn.rs then match YD T.cA (run T W n) W fn.body (as++qB fn.nl .un) with
     |some (x,U)=>some (.ex x,back as U)
     |none=>eA
     else eA
   else eA
end
end CI
namespace CI
set_option tactic.hygienic true
open PySem PySem.Spec PyProof.Rows L2
abbrev St:=L2.St
noncomputable def C3:HO->Bool
 |.own _=>dA
 |.JD _=>dA
 |_=>bA
def Sm(G a:Hp):Prop:=∀b o,C3 o=bA->G b=aA o->a b=aA o
def Sm.of(s:WA G j):Sm G j:=λb o _ h=>s b o h
instance {G a:Hp}:Coe (WA G a) (Sm G a):=#[Sm.of]
def Sm.refl(G:Hp):Sm G G:=λ_ _ _ h=>h
def Sm.trans(a:Sm G j)(b:Sm j m):Sm G m:=λc o n h=>b c o n (a c o n h)
def Sm.app(s:Sm G j)(n:C3 o=bA)(h:G b=aA o):j b=aA o:=s b o n h
def Sm.seq{K:kA}(e:Sm G j)(h:EB K G a xs):EB K j a xs:=by
 rcases h with (h | ⟨o,h⟩) | h
 .exact .inl (.inl (e.app rfl h))
 .exact .inl (.inr #[o,e.app rfl h])
 .exact .inr h
structure HN(K:kA)(C:iA)(ns:List fA):Prop where
 cl:UD K C
 no:∀f∈ns,UH K C f
noncomputable def lK(a:List Int)(b:List V):List (Key×V):=(a.zip b).map λp=>(Sum.inl p.1,p.2)
def pM(K:kA)(G:Hp)(a:iA)(c:List MB)(d:List V)(b:fF):Prop:=(b.map (·.1)).Nodup/\b.length<=sizeLine/\(a==sysModules)=dA/\(∀x∈b,gC K G x.1 x.2.1)/\b.map (·.1)=c/\aAc d (b.map (·.2.2))
def jL(K:kA)(G:Hp)(C:iA)(p:Option iA)(n:Option Int):Prop:=True
def jL.mono{K:kA}(s:Sm G j){n:Option Int}(h:jL K G C p n):jL K j C p n:=trivial
abbrev YJ(K:kA)(G:Hp)(C:iA)(p:PX)(x:Exc):Prop:=jL K G C p.1 x.num
def YJ.pay{K:kA}(h:YJ K G C p x):jL K G C p.1 x.num:=h
def vHa{K:kA}(h:jL K G C q x.num):YJ K G C (q,bA) x:=h
mutual
def nA(K:kA)(G:Hp):D->V->Prop
 |.lA,v=>v=.lA
 |.bl b,v=>v=.bl b
 |.int i,v=>v=.int i
 |.str x,v=>v=.str x/\DN x=bA
 |.t e,v=>∃a d,v=.ref a/\LC K G a d/\oA K G e d
 |.l e,v=>∃a d,v=.ref a/\EB K G a d/\oA K G e d
 |.ins c g e,v=>∃a C k d,v=.ref a/\CB K cB c=aA (aA (.ref C))/\G a=aA (.ins C k (g.zip d))/\oA K G e d/\HN K C g/\g.length=d.length
 |.zC c n,v=>∃a C p,v=.ref a/\CB K cB c=aA (aA (.ref C))/\EE K C/\G a=aA (.ext (BH a C p))/\jL K G C p n
 |.aB f e,v=>∃a h d,v=.ref a/\NS G a h/\pM K G a f d h/\oA K G e d
 |.pJ f e,v=>∃a d,v=.ref a/\G a=aA (.dK (lK f d))/\oA K G e d/\f.length=e.length
 |.fX n e,v=>∃a j d,v=.ref a/\EB K G a j/\Fm n j d/\oA K G e d
def oA(K:kA)(G:Hp):List D->List V->Prop
 |[],a=>a=[]
 |d::b,a=>∃v r,a=v::r/\nA K G d v/\oA K G b r
end
def hI{K:kA}(s:Sm G b)(h:LC K G a c):LC K b a c:=by
 rcases h with (h | ⟨o,h⟩) | h
 .exact .inl (.inl (s.app rfl h))
 .exact .inl (.inr #[o,s.app rfl h])
 .exact .inr h
def lJ.mono{K:kA}(s:Sm G j)(h:lJ K G k b):lJ K j k b:=let #[c,h1,h2]:=h;#[c,hI s h1,hI s h2]
theorem gC.mono{K:kA}(s:Sm G j){k:MB}{b:iA}(h:gC K G k b):gC K j k b:=lJ.mono s h
theorem pM.mono{K:kA}(s:Sm G j)(h:pM K G a m r xs):pM K j a m r xs:=#[h.1,h.2.1,h.2.2.1,λx hx=>gC.mono s (h.2.2.2.1 x hx),h.2.2.2.2]
mutual
theorem nA.mono{K:kA}(s:Sm G x):∀(d:D) {v:V},nA K G d v->nA K x d v
 |.lA,_,h=>by simpa[nA] using h
 |.bl _,_,h=>by simpa[nA] using h
 |.int _,_,h=>by simpa[nA] using h
 |.str _,_,h=>by simpa[nA] using h
 |.t j,_,h=>by
  erw[nA] at h ⊢;let(a,m,e,h1,h2):pB:=h;exact#[a,m,e,hI s h1,oA.mono s j h2]
 |.l j,_,h=>by
  erw[nA] at h ⊢;let(a,m,e,h1,h2):pB:=h;exact#[a,m,e,s.seq h1,oA.mono s j h2]
 |.ins c ns j,_,h=>by
  erw[nA] at h ⊢;let(a,C,y,m,e,h1,r):VA:=h;let(h2,h3,u,h5):oB:=r
  exact#[a,C,y,m,e,h1,s.app rfl h2,oA.mono s j h3,u,h5]
 |.zC c n,_,h=>by
  erw[nA] at h ⊢;let(a,C,r):gD:=h;let(p,e,h1,h2,h3,u):zD:=r
  exact#[a,C,p,e,h1,h2,s.app rfl h3,u.mono s]
 |.aB B j,_,h=>by
  erw[nA] at h ⊢;obtain⟨a,xs,m,e,⟨F,h1⟩,h2,h3⟩:=h;exact#[a,xs,m,e,#[F,s.app rfl h1],h2.mono s,oA.mono s j h3]
 |.pJ B j,_,h=>by
  erw[nA] at h ⊢;let(a,m,e,h1,h2,h3):=h;exact#[a,m,e,s.app rfl h1,oA.mono s j h2,h3]
 |.fX _ j,_,h=>by(erw[nA] at h ⊢;let(a,H,m,e,h1,p,h2):=h;exact#[a,H,m,e,s.seq h1,p,oA.mono s j h2])
theorem oA.mono{K:kA}(s:Sm G u):∀(j:List D) {m:List V},oA K G j m->oA K u j m
 |[],_,h=>by simpa[oA] using h
 |d::j,_,h=>by
  erw[oA] at h ⊢;let(v,r,e,h1,h2):pB:=h;exact#[v,r,e,nA.mono s d h1,oA.mono s j h2]
end
theorem oA.len{K:kA}:∀{j:List D} {m:List V},oA K G j m->m.length=j.length
 |[],_,h=>by erw[oA] at h;subst h;rfl
 |d::j,_,h=>by(erw[oA] at h;let(v,r,rfl,_,h2):=h;simp[oA.len h2])
def oA.nil{K:kA}:oA K G [] []:=by simp[oA]
def oA.cons{K:kA}(h:nA K G d v)(t:oA K G m j):oA K G (d::m) (v::j):=by
 erw[oA];exact#[v,j,rfl,h,t]
theorem oA.app{K:kA}:∀{j u:List D} {x y:List V},oA K G j x->oA K G u y->oA K G (j++u) (x++y)
 |[],_,_,_,h,m=>by erw[oA] at h;subst h;exact m
 |d::j,_,_,_,h,m=>by(erw[oA] at h;let(v,r,rfl,h1,h2):=h;exact oA.cons h1 (oA.app h2 m))
theorem oA.get{K:kA}:∀{j:List D} {m:List V} {i:Nat} {d:D},oA K G j m->j[i]?=aA d->∃v,m[i]?=aA v/\nA K G d v
 |[],_,_,_,_,e=>by simp at e
 |d::j,_,0,_,h,e=>by
  erw[oA] at h;let(v,r,rfl,h1,h2):=h;simp at e;subst e;exact#[v,rfl,h1]
 |d::j,_,i+1,_,h,e=>by
  erw[oA] at h;let(v,r,rfl,h1,h2):=h
  have:=oA.get h2 (↑e)
  simpa using this
theorem oA.set{K:kA}(m:nA K G d v):∀{j:List D} {x:List V} (i:Nat),oA K G j x->oA K G (j.set i d) (x.set i v)
 |[],_,_,h=>by erw[oA] at h;subst h;simp[oA]
 |e::j,_,0,h=>by
  erw[oA] at h;let(u,r,rfl,h1,h2):=h;exact oA.cons m h2
 |e::j,_,i+1,h=>by(erw[oA] at h;let(u,r,rfl,h1,h2):=h;exact oA.cons h1 (oA.set m i h2))
theorem oA.take{K:kA}:∀{j:List D} {m:List V} (n:Nat),oA K G j m->oA K G (j.take n) (m.take n)
 |_,_,0,_=>by simp[oA]
 |[],_,_+1,h=>by erw[oA] at h;subst h;simp[oA]
 |e::j,_,n+1,h=>by(erw[oA] at h;let(u,r,rfl,h1,h2):=h;exact oA.cons h1 (oA.take n h2))
theorem oA.drop{K:kA}:∀{j:List D} {m:List V} (n:Nat),oA K G j m->oA K G (j.drop n) (m.drop n)
 |_,_,0,h=>h
 |[],_,_+1,h=>by erw[oA] at h;subst h;simp[oA]
 |e::j,_,n+1,h=>by(erw[oA] at h;let(u,r,rfl,h1,h2):=h;exact oA.drop n h2)
theorem oA.rep{K:kA}(h:oA K G j m):∀n,oA K G (qB n j).flatten (qB n m).flatten
 | 0=>oA.nil
 |n+1=>by(rw[VL,VL,tN,tN];exact oA.app h (oA.rep h n))
def qG(K:kA)(H G:Hp)(a:iA):D->Prop
 |.l c=>∃b,H a=aA (.l b)/\oA K G c b
 |.aB e c=>∃d b,NS H a d/\pM K G a e b d/\oA K G c b
 |_=>False
def yA(U:Env)(B:St)(a:iA):Prop:=∃(i:Nat) (d:D) (p l:Bool),U[i]?=aA (.ow d p l)/\B[i]?=aA (aA (.ref a))
structure HA(K:kA)(U:Env)(B:St)(H G:Hp):Prop where
 len:U.length=B.length
 sub:WA G H
 sh:∀(i:Nat) (d:D),U[i]?=aA (.sh d)->∃v,B[i]?=aA (aA v)/\nA K G d v
 ow:∀(i:Nat) (d:D) (p l:Bool),U[i]?=aA (.ow d p l)->∃a,B[i]?=aA (aA (.ref a))/\G a=eA/\qG K H G a d
 inj:∀(i j:Nat) (d:D) (p l:Bool) (d':D) (p' l':Bool) (a:iA),U[i]?=aA (.ow d p l)->U[j]?=aA (.ow d' p' l')->B[i]?=aA (aA (.ref a))->B[j]?=aA (aA (.ref a))->i=j
structure Ext(own:iA->Prop)(H G H' G':Hp):Prop where
 gg:Sm G G'
 hh:∀a o,H a=aA o->¬own a->H' a=aA o
 hx:∀a,H' a=eA->H a=eA
 gn:∀a,H a≠eA->G a=eA->¬own a->G' a=eA
theorem Ext.refl:Ext own H G H G:=#[Sm.refl _,λ_ _ h _=>h,λ_ h=>h,λ_ _ h _=>h]
theorem Ext.trans(a:Ext own H G m r)(w:∀x,j x->own x\/H x=eA)(b:Ext j m r u y):Ext own H G u y:=by
 refine#[a.gg.trans b.gg,λx o h n=>?_,λx h=>a.hx x (b.hx x h),λx h g n=>?_]
 .refine b.hh x o (a.hh x o h n) λz=>?_
  rcases w x z with z | z
  .exact n z
  .rw[h] at z;cases z
 .have h1:m x≠eA:=λz=>h (a.hx x z)
  refine b.gn x h1 (a.gn x h g n) λz=>?_
  rcases w x z with z | z
  .exact n z
  .exact h z
def Ext.weaken(a:Ext own H G m r)(w:∀x,own x->j x):Ext j H G m r :=
 #[a.gg,λx o h n=>a.hh x o h λz=>n (w x z),a.hx,λx h g n=>a.gn x h g λz=>n (w x z)]
def uM(H:Hp)(own new:iA->Prop)(c:List V):Prop:=∀x∈c,∃b a,x=.ref b/\H b=aA (.l a)/\a.length<=1000/\¬own b/\new b
def Rows(H:Hp)(own new:iA->Prop)(a:iA):Prop:=∃c,H a=aA (.l c)/\uM H own (λb=>new b/\b≠a) c
def uM.step(h:uM H own new u)(e:∀b o,H b=aA o->¬own b->y b=aA o)(w:∀b,j b->own b\/H b=eA):uM y j new u:=λx hx=>by
 let(b,m):=h x hx;let(B,h1,h2,h3,r,h5):zD:=m
 refine#[b,B,h1,e b _ h2 r,h3,λz=>?_,h5];rcases w b z with z | z
 .exact r z
 .rw[h2] at z;cases z
theorem uM.new{own new j:iA->Prop}(h:uM H own new m)(w:∀b,new b->j b):uM H own j m:=λx hx=>let #[b,r,h1,h2,h3,u,h5]:=h x hx;#[b,r,h1,h2,h3,u,w b h5]
def dC(K:kA)(H G:Hp)(own:iA->Prop)(new:iA->Prop):RV->V->Prop
 |.sh d,v=>nA K G d v
 |.ow d,v=>∃a,v=.ref a/\G a=eA/\qG K H G a d/\¬own a/\new a
 |.od d,v=>∃a,v=.ref a/\G a=eA/\qG K H G a d/\¬own a/\new a/\Rows H own new a
def OB(K:kA)(H G:Hp)(d:D)(v:V):Prop:=nA K G d v\/∃a,v=.ref a/\qG K H G a d
def FE(K:kA)(H G:Hp)(own:iA->Prop)(new:iA->Prop)(B:St):Hd->V->Prop
 |.slot i,v=>B[i]?=aA (aA v)
 |.val (.od _),_=>False
 |.val r,v=>dC K H G own new r v
section
variable{K:kA}{own DK new new':iA->Prop}
theorem qG.mono(h:qG K H G a d)(s:Sm G r)(e:∀o,H a=aA o->u a=aA o):qG K u r a d:=by
 induction d using D.casesOn with
 |l m =>
  let(j,h1,h2):rA:=h;exact#[j,e _ h1,oA.mono s _ h2]
 |aB y m=>obtain⟨xs,j,⟨x,h1⟩,h2,h3⟩:=h;exact#[xs,j,#[x,e _ h1],h2.mono s,oA.mono s m h3]
 |_=>exact h
def qG.put(h:qG K H G a d):∃o,H a=aA o/\∀j,Sm G j->j a=aA o->nA K j d (.ref a):=by
 induction d using D.casesOn with
 |l m =>
  let(r,h1,h2):rA:=h;exact#[_,h1,λj s e=>by erw[nA];exact#[a,r,rfl,EB.of e,oA.mono s m h2]]
 |aB x m=>obtain⟨xs,r,⟨u,h1⟩,h2,h3⟩:=h;exact#[_,h1,λj s e=>by erw[nA];exact#[a,xs,r,rfl,#[u,e],h2.mono s,oA.mono s m h3]]
 |_=>exact h.elim
def qG.there(h:qG K H G a d):∃o,H a=aA o:=let #[o,h,_]:=h.put;#[o,h]
def HA.owned(r:HA K U B H G)(o:yA U B a):H a≠eA/\G a=eA:=by
 let(i,d,p,l,h1,h2):uF:=o;let(b,e,g,h):KA:=r.ow i d p l h1
 rw[h2] at e;cases e;let(j,h):=h.there;exact#[by rw[h];simp,g]
def dC.wait(h:dC K H G own new v x)(e:Ext own H G B C)(w:∀a,DK a->own a\/H a=eA):dC K B C DK new v x:=by
 induction v using RV.casesOn with
 |sh d=>exact nA.mono e.gg d h
 |ow d =>
  let(a,rfl,g,o,n,m):=h;let(y,j):=o.there;have ne:H a≠eA:=by rw[j];simp
  refine#[a,rfl,e.gn a ne g n,o.mono e.gg λr u=>e.hh a r u n,λz=>?_,m];rcases w a z with z | z
  .exact n z
  .exact ne z
 |od d =>
  let(a,rfl,g,o,n,m,y,j,F):=h;have ne:H a≠eA:=by rw[j];simp
  refine#[a,rfl,e.gn a ne g n,o.mono e.gg λr u=>e.hh a r u n,λz=>?_,m,y,e.hh a _ j n,F.step e.hh w];rcases w a z with z | z
  .exact n z
  .exact ne z
theorem FE.wait(h:FE K H G own new B v x)(e:Ext own H G j m)(w:∀a,DK a->own a\/H a=eA):FE K j m DK new B v x:=by
 induction v using Hd.casesOn with
 |slot i=>exact h
 |val r=>cases r with
  |od d=>exact h.elim
  |sh d=>exact nA.mono e.gg d h
  |ow d=>exact dC.wait (v:=.ow d) h e w
def dC.KH(h:dC K H G own new v x)(w:∀a,new a->new' a):dC K H G own new' v x:=by
 induction v using RV.casesOn with
 |sh d=>exact h
 |ow d =>
  let(a,rfl,g,o,n,m):=h;exact#[a,rfl,g,o,n,w a m]
 |od d =>
  let(a,rfl,g,o,n,m,j,r,u):=h;exact#[a,rfl,g,o,n,w a m,j,r,u.new λb z=>#[w b z.1,z.2]]
theorem dC.low(h:dC K H G own new v x):dC K H G own new v.low x:=by
 induction v using RV.casesOn with
 |sh d=>exact h
 |ow d=>exact h
 |od d =>
  let(a,rfl,g,o,n,m,_):=h;exact#[a,rfl,g,o,n,m]
def FE.of(h:dC K H G own new v x):FE K H G own new B (.val v.low) x:=by
 have:=h.low
 cases v<;>exact this
theorem FE.KH(h:FE K H G own new B v x)(w:∀a,new a->new' a):FE K H G own new' B v x:=by
 induction v using Hd.casesOn with
 |slot i=>exact h
 |val r=>cases r with
  |od d=>exact h.elim
  |sh d=>exact h
  |ow d=>exact dC.KH (v:=.ow d) h w
def dC.GL(h:dC K H G own new v x):OB K H G v.d x:=by
 induction v using RV.casesOn with
 |sh d=>exact .inl h
 |ow d =>
  let(a,rfl,g,o,n,m):=h;exact .inr #[a,rfl,o]
 |od d =>
  let(a,rfl,g,o,n,m,_):=h;exact .inr #[a,rfl,o]
theorem HA.get(r:HA K U B H G){i:Nat}(h:(U[i]?).bind Sl.get=aA d)(hx:B[i]?=aA (aA x)):OB K H G d x:=by
 cases e:U[i]? with
 |none=>rw[e] at h;cases h
 |some sl =>
  rw[e] at h
  induction sl using Sl.casesOn with
  |un=>cases h
  |mv=>cases h
  |sh j =>
   cases h;let(v,h1,h2):rA:=r.sh i _ e
   rw[hx] at h1;cases h1;exact .inl h2
  |ow j p l =>
   cases h;let(a,h1,_,h2):KA:=r.ow i _ p l e
   rw[hx] at h1;cases h1;exact .inr #[a,rfl,h2]
def FE.read(h:FE K H G own new B v x)(r:HA K U B H G)(e:v.get U=aA d):OB K H G d x:=by
 induction v using Hd.casesOn with
 |slot i=>exact r.get e h
 |val u =>
  erw[Hd.get,rC] at e;subst e
  induction u using RV.casesOn with
  |od d=>exact h.elim
  |sh d=>exact .inl h
  |ow d=>exact dC.GL (v:=.ow d) h
def HA.bound(r:HA K U B H G){i:Nat}(h:((U[i]?).bind Sl.get).isSome=bA):∃v,B[i]?=aA (aA v):=by
 cases e:U[i]? with
 |none=>rw[e] at h;cases h
 |some sl =>
  rw[e] at h
  induction sl using Sl.casesOn with
  |un=>cases h
  |mv=>cases h
  |sh j =>
   let(v,h1,h2):rA:=r.sh i _ e
   exact#[v,h1]
  |ow j p l =>
   let(a,h1,_,h2):KA:=r.ow i _ p l e
   exact#[_,h1]
theorem OB.l(s:WA G H)(h:OB K H G (.l m) x):∃a j,x=.ref a/\EB K H a j/\oA K G m j:=by
 rcases h with h | ⟨a,rfl,h⟩
 .erw[nA] at h;let(a,j,e,h1,h2):pB:=h;exact#[a,j,e,s.seq h1,h2]
 .let(j,h1,h2):rA:=h;exact#[a,j,rfl,EB.of h1,h2]
theorem OB.t{m:List D}(s:WA G H)(h:OB K H G (.t m) x):∃a j,x=.ref a/\LC K H a j/\oA K G m j:=by
 rcases h with h | ⟨a,rfl,h⟩
 .erw[nA] at h;let(a,j,e,h1,h2):pB:=h;exact#[a,j,e,hI s h1,h2]
 .exact h.elim
theorem OB.ins(s:WA G H)(h:OB K H G (.ins c ns u) x):∃a C r j,x=.ref a/\CB K cB c=aA (aA (.ref C))/\H a=aA (.ins C r (ns.zip j))/\oA K G u j/\HN K C ns/\ns.length=j.length:=by
 rcases h with h | ⟨a,rfl,h⟩
 .erw[nA] at h;let(a,C,m):gD:=h;let(r,j,e,h1,h2,h3):fC:=m
  exact#[a,C,r,j,e,h1,s _ _ h2,h3]
 .exact h.elim
theorem OB.int(h:OB K H G (.int i) x):x=.int i:=by
 rcases h with h | ⟨a,rfl,h⟩
 .simpa[nA] using h
 .exact h.elim
theorem OB.bl(h:OB K H G (.bl i) x):x=.bl i:=by
 rcases h with h | ⟨a,rfl,h⟩
 .simpa[nA] using h
 .exact h.elim
theorem OB.str(h:OB K H G (.str i) x):x=.str i/\DN i=bA:=by
 rcases h with h | ⟨a,rfl,h⟩
 .simpa[nA] using h
 .exact h.elim
theorem OB.lA(h:OB K H G .lA x):x=.lA:=by
 rcases h with h | ⟨a,rfl,h⟩
 .simpa[nA] using h
 .exact h.elim
def yR(h:nA K G (.bl i) x):x=.bl i:=by simpa[nA] using h
def WA.laid(h:H a=eA):WA H (GA H a o):=λb u e=>by rw[jB (IE e h)];exact e
theorem Sm.laid(h:H a=eA):Sm H (GA H a o):=Sm.of (WA.laid h)
def Sm.put(h:H a=eA):Sm H (GA H a o):=Sm.laid h
def HA.yJ(r:HA K U B H G)(h:H a=eA):HA K U B (GA H a o) (GA G a o):=by
 have j:G a=eA:=WA.free r.sub h;refine#[r.len,λb u e=>?_,λi d e=>?_,λi d p l e=>?_,r.inj]
 .by_cases hb:b=a
  .subst hb;rw[jC] at e ⊢;exact e
  .rw[jB hb] at e ⊢;exact r.sub b u e
 .let(v,h1,h2):rA:=r.sh i d e
  exact#[v,h1,nA.mono (Sm.laid j) d h2]
 .let(b,h1,h2,h3):KA:=r.ow i d p l e
  let(y,m):=h3.there;have hb:b≠a:=IE m h;refine#[b,h1,by rw[jB hb];exact h2,h3.mono (Sm.laid j) λC x=>by rw[jB hb];exact x]
def Ext.yJ(s:WA G H)(h:H a=eA):Ext own H G (GA H a o) (GA G a o):=by
 have j:G a=eA:=WA.free s h;refine#[Sm.laid j,λb u e _=>WA.laid h b u e,λb e=>?_,λb e g _=>?_]
 .by_cases hb:b=a
  .subst hb;exact h
  .rwa[jB hb] at e
 .by_cases hb:b=a
  .subst hb;exact absurd h e
  .rw[jB hb];exact g
def HA.GH(r:HA K U B H G)(h:H a=eA):HA K U B (GA H a o) G:=by
 refine#[r.len,r.sub.trans (WA.laid h),r.sh,λi d p l e=>?_,r.inj];let(b,h1,h2,h3):KA:=r.ow i d p l e
 let(u,j):=h3.there;have hb:b≠a:=IE j h;exact#[b,h1,h2,h3.mono (Sm.refl _) λx m=>by rw[jB hb];exact m]
def Ext.GH(h:H a=eA):Ext own H G (GA H a o) G:=by
 refine#[Sm.refl _,λb u e _=>WA.laid h b u e,λb e=>?_,λb e g _=>g];by_cases hb:b=a
 .subst hb;exact h
 .rwa[jB hb] at e
def HA.VU(r:HA K U B H G)(h:H a=eA):¬yA U B a:=λo=>(r.owned o).1 h
def WA.put(h:G a=eA):WA G (GA G a o):=WA.laid h
def dC.share(h:dC K H G (yA U B) new v x)(r:HA K U B H G)(I:∀a,new a->own a\/new' a) :
  ∃j,HA K U B H j/\WA G j/\(∀a,j a≠eA->G a≠eA\/new a)/\nA K j v.d x:=by
 have y:∀d,dC K H G (yA U B) new (.ow d) x->∃j,HA K U B H j/\WA G j/\(∀a,j a≠eA->G a≠eA\/new a)/\nA K j d x:=by
  intro d h;let(a,rfl,g,o,n,m):=h;let(ob,C,F):rA:=o.put
  refine#[GA G a ob,#[r.len,λb u e=>?_,λi d e=>?_,λi d p l e=>?_,r.inj],WA.put g,λb z=>?_, ?_]
  .by_cases hb:b=a
   .subst hb;rw[jC] at e;rw[C];exact e
   .rw[jB hb] at e;exact r.sub b u e
  .let(v,h1,h2):rA:=r.sh i d e
   exact#[v,h1,nA.mono (Sm.put g) d h2]
  .let(b,h1,h2,h3):KA:=r.ow i d p l e
   have hb:b≠a:=λz=>by subst z;exact n #[i,d,p,l,e,h1]
   exact#[b,h1,by rw[jB hb];exact h2,h3.mono (Sm.put g) λ_ z=>z]
  .by_cases hb:b=a
   .subst hb;exact .inr m
   .rw[jB hb] at z;exact .inl z
  .exact F _ (Sm.put g) jC
 induction v using RV.casesOn with
 |sh d=>exact#[G,r,WA.refl _,λa z=>.inl z,h]
 |ow d=>exact y d h
 |od d=>exact y d h.low
end
def AF:Option Sl->Option Sl->Prop
 |some (.ow _ p l),aA (.ow _ a b)=>p=a/\l=b
 |some (.ow _ p _),aA (.sh _)=>p=dA
 |some .un,aA .un=>True
 |some .mv,aA .mv=>True
 |some (.sh _),aA (.sh _)=>True
 |none,eA=>True
 |_,_=>False
def AF.refl(a:Option Sl):AF a a:=by
 cases a with
 |none=>trivial
 |some s=>cases s<;>first | trivial | exact#[rfl,rfl]
theorem AF.trans(h:AF a b)(j:AF b c):AF a c:=by
 cases a with
 |none =>
  cases b with
  |none=>exact j
  |some t=>cases t<;>exact h.elim
 |some s =>
  cases b with
  |none=>cases s<;>exact h.elim
  |some t =>
   cases c with
   |none=>cases t<;>exact j.elim
   |some u=>cases s<;>cases t<;>first | exact h.elim | (cases u<;>first | exact j.elim | trivial | exact#[h.1.trans j.1,h.2.trans j.2] | exact h.1.trans j | exact h)
def AF.me(h:AF a (aA (.ow d p l))):∃j,a=aA (.ow j p l):=by
 cases a with
 |none=>exact h.elim
 |some s=>cases s<;>first | exact h.elim | (let(rfl,rfl):=h;exact#[_,rfl])
def fE(U a:Env):Prop:=∀i:Nat,AF U[i]? a[i]?
theorem fE.refl(U:Env):fE U U:=λ_=>AF.refl _
theorem fE.trans(h:fE a b)(j:fE b c):fE a c:=λi=>(h i).trans (j i)
def fE.own(h:fE U j)(a:iA)(o:yA j B a):yA U B a:=by
 let(i,d,p,l,h1,h2):uF:=o
 have:=h i
 rw[h1] at this;let(m,e):=this.me;exact#[i,m,p,l,e,h2]
theorem fE.set(h:AF U[i]? (aA s)):fE U (U.set i s):=λj=>by
 by_cases m:j=i
 .subst m;by_cases hl:j<U.length
  .rw[NF hl];exact h
  .rw[dJ (by lia)] at h;cases s<;>exact h.elim
 .rw[QC (λz=>m z.symm)];exact AF.refl _
structure DA(K:kA)(U:Env)(B:St)(H G:Hp)(U':Env)(H' G':Hp):Prop where
 qA:HA K U' B H' G'
 ext:Ext (yA U B) H G H' G'
 sJ:fE U U'
section
variable{K:kA}
theorem DA.own(a:DA K U B H G j m r):∀a,yA j B a->yA U B a:=λx h=>a.sJ.own x h
theorem DA.refl(r:HA K U B H G):DA K U B H G U H G:=#[r,Ext.refl,fE.refl _]
theorem DA.trans(a:DA K U B H G j m r)(b:DA K j B m r u y C):DA K U B H G u y C :=
 #[b.qA,a.ext.trans (λx h=>.inl (a.own x h)) b.ext,a.sJ.trans b.sJ]
abbrev UC(H:Hp):iA->Prop:=λa=>H a=eA
def DA.fresh(a:DA K U B H G m j r)(h:j x=eA):H x=eA:=a.ext.hx x h
def DA.B4(a:DA K U B H G r u y)(h:dC K u y (yA r B) (UC H) v x):∃j,DA K U B H G r u j/\nA K j v.d x/\WA y j:=by
 let(j,m):=h.share (own:=λ_=>False) (new':=UC H) a.qA (λ_ z=>.inr z);let(F,C,n2,h2):oB:=m
 refine#[j,#[F,#[a.ext.gg.trans C,a.ext.hh,a.ext.hx,λb hb I nb=>?_],a.sJ],h2,C]
 cases e:j b with
 |none=>rfl
 |some o =>
  rcases n2 b (by rw[e];simp) with z | z
  .exact absurd (a.ext.gn b hb I nb) z
  .exact absurd z hb
def DA.share(a:DA K U B H G m r u)(h:dC K r u (yA m B) (UC H) v x):∃j,DA K U B H G m r j/\nA K j v.d x:=let #[j,h1,h2,_]:=a.B4 h;#[j,h1,h2]
theorem DA.yJ(a:DA K U B H G m j r)(h:j p=eA):DA K U B H G m (GA j p o) (GA r p o) :=
 a.trans #[a.qA.yJ h,Ext.yJ a.qA.sub h,fE.refl _]
theorem DA.GH(a:DA K U B H G m j r)(h:j p=eA):DA K U B H G m (GA j p o) r :=
 a.trans #[a.qA.GH h,Ext.GH h,fE.refl _]
def DA.pe(a:DA K U B H G x j m)(h:j p=eA)(r:oA K m y u) :
  DA K U B H G x (GA j p (.l u)) m/\dC K (GA j p (.l u)) m (yA x B) (UC H) (.ow (.l y)) (.ref p) :=
 #[a.GH h,p,rfl,WA.free a.qA.sub h,#[u,jC,r],a.qA.VU h,a.fresh h]
def DA.Lr(a:DA K U B H G u m j)(h:m p=eA)(r:pM K j p ks vs xs)(q:oA K j ds vs) :
  DA K U B H G u (GA m p (.ext (cC p xs x))) j/\dC K (GA m p (.ext (cC p xs x))) j (yA u B) (UC H) (.ow (.aB ks ds)) (.ref p) :=
 #[a.GH h,p,rfl,WA.free a.qA.sub h,#[xs,vs,#[_,jC],r,q],a.qA.VU h,a.fresh h]
def DA.gi(a:DA K U B H G y m u)(h:m p=eA)(r:oA K u x j) :
  DA K U B H G y (GA m p (.t j)) (GA u p (.t j))/\dC K (GA m p (.t j)) (GA u p (.t j)) (yA y B) (UC H) (.sh (.t x)) (.ref p):=by
 refine#[a.yJ h, ?_];show nA K _ (.t x) _;erw[nA];exact#[p,j,rfl,LC.of jC,oA.mono (Sm.laid (WA.free a.qA.sub h)) x r]
end
def rG:List Hd->List V->iA->Prop
 |.val (.ow _)::b,x::c,a=>x=.ref a\/rG b c a
 |_::b,_::c,a=>rG b c a
 |_,_,_=>False
def OD(K:kA)(H G:Hp)(own new:iA->Prop)(B:St):List Hd->List V->Prop
 |[],b=>b=[]
 |h::c,b=>∃x r,b=x::r/\FE K H G own new B h x/\OD K H G own new B c r/\∀d a,h=.val (.ow d)->x=.ref a->¬rG c r a
section
variable(K:kA)(P:bB)(C:Calls)
def tE(c:E):TE:=λB H Q=>∃(U:Env) (G:Hp) (v:RV) (a:Env),HA K U B H G/\ev P C dA c U=some (.ok v,a) /\
 ∀x b d,DA K U B H G a b d->dC K b d (yA a B) (UC H) v x->Q x b
def tT(c:E):TT:=λB H Q=>∃(U:Env) (G:Hp) (b:Bool) (a:Env),HA K U B H G/\ev P C bA c U=some (.ok (.sh (.bl b)),a) /\
 ∀d e,DA K U B H G a d e->Q b d
def tH(c:E):TE:=λB H Q=>∃(U:Env) (G:Hp) (h:Hd) (a:Env),HA K U B H G/\hd c (ev P C dA c U) U=some (.ok h,a) /\
 ∀x b d,DA K U B H G a b d->FE K b d (yA a B) (UC H) B h x->Q x b
def ML(f:List E):TA:=λB H Q=>∃(U:Env) (G:Hp) (a:List D) (b:Env),HA K U B H G/\VE P C f U=some (.ok a,b) /\
 ∀c d e,DA K U B H G b d e->oA K e a c->Q c d
def rH(f:List E):TA:=λB H Q=>∃(U:Env) (G:Hp) (c:List Hd) (a:Env),HA K U B H G/\vC P C f U=some (.ok c,a) /\
 ∀d b e,DA K U B H G a b e->OD K b e (yA a B) (UC H) B c d->Q d b
end
def TE.fD(h:PE X e t)(w:∀B H Q,u B H Q->t B H Q):PE X e u:=λcA s B H Q I q=>h cA s B H Q I (w B H Q q)
def TT.IQ(h:PT X e t)(w:∀B H Q,u B H Q->t B H Q):PT X e u:=λcA s B H Q I q=>h cA s B H Q I (w B H Q q)
def TA.sO(h:PA X e t)(w:∀B H Q,u B H Q->t B H Q):PA X e u:=λpos cA s B H Q I q=>h pos cA s B H Q I (w B H Q q)
def yB{r:zA Z}(h:r.bind f=some (.ok b,U)):∃a c,r=some (.ok a,c)/\f a c=some (.ok b,U):=by
 unfold zA.bind at h;split at h
 .cases h
 .cases h
 .exact#[_,_,rfl,h]
def DH(h:done o U=some (.ok v,a)):o=aA v/\a=U:=by
 unfold done at h
 cases o with
 |none=>cases h
 |some u=>erw[vF,rC,cF,Out.ok.injEq] at h;exact#[by rw[h.1],h.2.symm]
def Ci{r:zA RV}{c:Env}(h:aAh bA r=some (.ok v,c)):∃u b,r=some (.ok u,c)/\OI u.d=aA b/\v=.sh (.bl b):=by
 let(u,j,f,a):FA:=yB h
 cases e:OI u.d with
 |none=>rw[e] at a;cases a
 |some b =>
  rw[e] at a;erw[vF,rC,cF,Out.ok.injEq] at a;let(g,i):=a;subst i;exact#[u,b,f,e,g.symm]
section
variable{K:kA}{P:bB}{C:Calls}{B:St}{H:Hp}
def XO{X:Cx}{c:E}(h:PE X e (tE K P C c))(n:∀i,c≠.v i):PE X e (tH K P C c):=by
 refine TE.fD h λB H Q q=>?_
 let(U,G,f,b,r,d,k):VA:=q
 have:hd c (ev P C dA c U) U=(ev P C dA c U).bind λv b=>some (.ok (.val v.low),b):=by
  induction c using E.casesOn with
  |v=>exact absurd rfl (n _)
  |_=>rfl
 rw[this] at d;let(v,p,g,j):FA:=yB d
 cases j;exact#[U,G,v,_,r,g,λx l m a o=>k x l m a (FE.of o)]
def Oe(h:PE X e (NL i)):PE X e (tE K P C (.v i)):=by
 refine TE.fD h λB H Q q=>?_
 let(U,G,v,U',r,s,k):VA:=q;replace s:aAJ i U=_:=s;unfold aAJ at s;split at s
 .rename_i d hd;cases s;let(x,y,O):rA:=r.sh i d hd
  exact#[x,y,k x H G (DA.refl r) O]
 .rename_i d hd;cases s;let(a,y,g,o):KA:=r.ow i d _ _ hd
  refine#[.ref a,y, ?_];let(R,Y,J):rA:=o.put
  have Z:i<U.length:=(LD.mp hd).1
  have c:∀(j:Nat) (sl:Sl),(U.set i (.sh d))[j]?=aA sl->(j=i/\sl=.sh d)\/(j≠i/\U[j]?=aA sl):=λj sl n=>by
   by_cases t:j=i
   .subst t;rw[NF Z] at n;exact .inl #[rfl,(ED n).symm]
   .rw[QC (λz=>t z.symm)] at n;exact .inr #[t,n]
  have M:∀b,yA (U.set i (.sh d)) B b->yA U B b:=λb N=>by
   let(j,A,p,l,f,m):uF:=N;rcases c j _ f with ⟨_,z⟩ | ⟨_,z⟩
   .cases z
   .exact#[j,A,p,l,z,m]
  refine k (.ref a) H (GA G a R) #[#[?_,λb u z=>?_,λj A n=>?_,λj A p l n=>?_,λj k' d1 p1 l1 d2 p2 l2 b f m F h6=>?_],#[Sm.put g,λ_ _ z _=>z,λ_ z=>z,λb f m F=>?_],fE.set (by rw[hd];rfl)] ?_
  .rw[eE];exact r.len
  .by_cases w:b=a
   .subst w;rw[jC] at z;rw[Y];exact z
   .rw[jB w] at z;exact r.sub b u z
  .rcases c j _ n with ⟨rfl,z⟩ | ⟨_,z⟩
   .cases z;exact#[_,y,J _ (Sm.put g) jC]
   .let(x,f,m):rA:=r.sh j A z
    exact#[x,f,nA.mono (Sm.put g) A m]
  .rcases c j _ n with ⟨_,z⟩ | ⟨ne,z⟩
   .cases z
   .let(b,f,m,F):KA:=r.ow j A p l z
    have w:b≠a:=λe=>by subst e;exact ne (r.inj _ _ _ _ _ _ _ _ _ z hd f y)
    exact#[b,f,by rw[jB w];exact m,F.mono (Sm.put g) λ_ z=>z]
  .rcases c j _ f with ⟨_,z⟩ | ⟨_,z⟩
   .cases z
   .rcases c k' _ m with ⟨_,I⟩ | ⟨_,I⟩
    .cases I
    .exact r.inj _ _ _ _ _ _ _ _ _ z I F h6
  .by_cases w:b=a
   .subst w;exact absurd #[i,_,_,_,hd,y] F
   .rw[jB w];exact m
  .exact J _ (Sm.put g) jC
 .cases s
def rIa(h:PE X e (NL i)):PE X e (tH K P C (.v i)):=by
 refine TE.fD h λB H Q q=>?_
 let(U,G,c,f,r,a,k):VA:=q;replace a:(if((U[i]?).bind Sl.get).isSome then aA (Out.ok (Hd.slot i),U) else eA)=_:=a;split at a
 .rename_i d;cases a;let(x,b):=r.bound d;exact#[x,b,k x H G (DA.refl r) b]
 .cases a
def i5(s:WA G H)(h:OB K H G d x)(e:OI d=aA b):YS K x H b:=by
 cases d<;>erw[OI,rC,reduceCtorEq] at e
 .have:=h.lA;subst this;exact e.symm
 .have:=h.bl;subst this;exact e.symm
 .have:=h.int;subst this;exact e.symm
 .split at e
  .rename_i i;let(rfl,_):=h.str;exact#[dD i (by decide),(ED e).symm]
  .cases e
 .let(a,c,rfl,f,g):=h.t s;refine .inr (.inl #[c,f, ?_]);rw[<- e]
  have:=g.len
  cases c<;>cases ‹List D›<;>simp_all
 .let(a,c,rfl,f,g):=h.l s;refine .inl #[c,f, ?_];rw[<- e]
  have:=g.len
  cases c<;>cases ‹List D›<;>simp_all
def nLa(f:X.K=K)(h:PE X e (tE K P C c))(g:∀U,ev P C bA c U=aAh bA (ev P C dA c U))
  (i:∀whole,isTrue e X.env whole=(do let v <- whole;standAt e.pos;holding [v] (truthy v))):PT X e (tT K P C c):=by
 refine TT.IQ (mf h i) λB H Q q=>?_
 let(U,G,b,j,r,d,k):VA:=q;rw[g] at d;let(u,t,l,m,n):pB:=Ci d
 cases n;refine#[U,G,u,j,r,l,λx o p a s=>#[b, ?_,k o p a]];rw[f];exact i5 a.qA.sub s.GL m
end
def Q2{M:D->Prop}{n:Nat}{d:D}(h:eC n d=bA)(c:M .lA)(e:∀b,M (.bl b))(f:∀i,M (.int i))(g:∀t,M (.str t))(j:∀m a,n=m+1->(∀x∈a,eC m x=bA)->M (.t a))(k:∀m a,n=m+1->(∀x∈a,eC m x=bA)->M (.l a)):M d:=by
 induction d using D.casesOn with
 |lA=>exact c
 |bl=>exact e _
 |int=>exact f _
 |str=>exact g _
 |t a=>cases n with
  |zero=>cases h
  |succ n=>exact j _ _ rfl (bF.mp h)
 |l a=>cases n with
  |zero=>cases h
  |succ n=>exact k _ _ rfl (bF.mp h)
 |_=>cases n<;>cases h
def dt{n:Nat}(g:∀d e,eC n d=bA->eC n e=bA->FP (bE d) (bE e)=uG d e)(b:List D):∀a:List D,(∀d∈b,eC n d=bA)->(∀d∈a,eC n d=bA)->AN (MK b) (MK a)=JM b a:=by
 induction b with
 |nil =>
  intro a;cases a<;>exact λ_ _=>rfl
 |cons d b i =>
  intro a
  cases a with
  |nil=>exact λ_ _=>rfl
  |cons e a=>exact λh f=>congr (congrArg and (g d e (h d (by simp)) (f e (by simp)))) (i a (λx c=>h x (by simp[c])) λx c=>f x (by simp[c]))
def Zs(n:Nat):∀d e:D,eC n d=bA->eC n e=bA->FP (bE d) (bE e)=uG d e:=by
 induction n using ql with | ind n i =>
 intro d e h j
 refine Q2 (M:=λd=>FP (bE d) (bE e)=uG d e) h ?_ (λ_=>?_) (λ_=>?_) (λ_=>?_) (λm c b hd=>?_) (λm c b hd=>?_)<;>refine Q2 (M:=λe=>FP (bE _) (bE e)=uG _ e) j ?_ (λ_=>?_) (λ_=>?_) (λ_=>?_) (λk f a g=>?_) (λk f a g=>?_)<;>first | rfl | (cases b.symm.trans a;exact dt (i m (w6 (NG m) b.symm)) c f hd g)
section
variable{K:kA}
def O3{s:CA}{n:Nat}(e:∀(d:D) (x:V) (u:jA),eC n d=bA->nA K G d x->aAe x u->∃as,Reads s.heap u (bE d) as/\fM (bE d)=bA/\CN (bE d)<=n)(a:List D):∀(b:List V) (c:List jA),(∀d∈a,eC n d=bA)->oA K G a b->aAc b c->∃as,ReadsAll s.heap c (MK a) as/\kP (MK a)=bA/\nS (MK a)<=n:=by
 induction a with
 |nil =>
  intro b c _ h r;cases (show b=[] from h);cases r;exact#[_,ReadsAll.nil,rfl,lI _]
 |cons d a f =>
  intro b c ok h r;let(v,g,rfl,i,j):=h
  cases r with
  |cons k l =>
   let(as,m,o,p):KA:=e d v _ (ok d (by simp)) i k
   let(bs,t,w,y):KA:=f g _ (λx q=>ok x (by simp[q])) j l
   exact#[_,ReadsAll.cons m t,by simp[MK,kP,o,w],Nat.max_le.mpr #[p,y]]
def Jf(I:gA X cA B H s)(A:X.K=K)(sub:WA G H)(n:Nat):∀(d:D) (x:V) (u:jA),eC n d=bA->nA K G d x->aAe x u->∃as,Reads s.heap u (bE d) as/\fM (bE d)=bA/\CN (bE d)<=n:=by
 induction n using ql with | ind n C =>
 intro d x u ok;refine Q2 (M:=λd=>nA K G d x->aAe x u->∃as,Reads s.heap u (bE d) as/\fM (bE d)=bA/\CN (bE d)<=n) ok (λh r=>?_) (λb h r=>?_) (λb h r=>?_) (λb h r=>?_) (λm i f hd h r=>?_) (λm i f hd h r=>?_)
 .cases (show x=_ from h);cases r;exact#[_,Reads.none,rfl,lI _]
 .cases (show x=_ from h);cases r;exact#[_,Reads.bool b,rfl,lI _]
 .cases (show x=_ from h);let(t,rfl):=r;exact#[_,Reads.int b t,rfl,lI _]
 .let(rfl,F):=h;let(t,rfl):=r;exact#[_,Reads.str b t,by simpa[bE,fM] using F,lI _]
 .let(a,g,rfl,j,l):=h;cases r;obtain⟨c,p,⟨o,q,v,k,e⟩,J⟩:=I.tuple (show LC X.K H a g from A ▸ hI sub j);let(as,w,y,z):KA:=O3 (C m (w6 (NG m) f.symm)) i g c hd l p
  exact#[_,Reads.tuple q v e (↑w),y,f ▸ Yk z]
 .let(a,g,rfl,j,l):=h;cases r;obtain⟨c,p,⟨o,k,q,v,N,e⟩,J⟩:=I.list (show EB X.K H a g from A ▸ sub.seq j);let(as,w,y,z):KA:=O3 (C m (w6 (NG m) f.symm)) i g c hd l p
  exact#[_,Reads.list q v e (↑w),y,f ▸ Yk z]
def Kf(I:gA X cA B H s)(c:X.K=K)(sub:WA G H)(n:Nat)(d:D)(x:V)(u:jA)(ok:eC n d=bA)(h:OB K H G d x)(r:aAe x u):∃as,Reads s.heap u (bE d) as/\fM (bE d)=bA/\CN (bE d)<=n:=by
 rcases h with h | ⟨a,rfl,h⟩
 .exact Jf I c sub n d x u ok h r
 .cases r
  cases d<;>first | exact h.elim | skip
  case aB=>cases n<;>cases ok
  rename_i e;let(f,g,i):rA:=h
  cases n with
  |zero=>cases ok
  |succ n =>
   obtain⟨b,j,⟨o,m,k,l,t,hd⟩,v⟩:=I.list (EB.of g);let(as,p,q,w):KA:=O3 (Jf I c sub n) e f b (bF.mp ok) i j
   exact#[_,Reads.list k l hd (↑p),by simpa[bE,fM] using q,by simp[bE,CN];lia]
def aAE(K:kA)(H G:Hp)(v:RV)(x:V)(c:Hp):Prop :=
 (∃d,v=.sh d/\nA K G d x/\c=H) \/
 (∃a b p,v=.ow (.l a)/\H p=eA/\oA K G a b/\x=.ref p/\c=GA H p (.l b)) \/
 (∃a b p,v=.sh (.t a)/\H p=eA/\oA K G a b/\x=.ref p/\c=GA H p (.t b)) \/
 (∃d p o,v=.sh d/\H p=eA/\x=.ref p/\c=GA H p o/\∀e,Sm G e->e p=aA o->nA K e d x)
def Z1(h:∃a b p,v=.sh (.t a)/\H p=eA/\oA K G a b/\x=.ref p/\c=GA H p (.t b)):aAE K H G v x c :=
 .inr (.inr (.inl h))
def DA.made(a:DA K U B j F u H G)(m:aAE K H G v x y) :
  ∃C,DA K U B j F u y C/\dC K y C (yA u B) (UC j) v x:=by
 rcases m with ⟨d,rfl,h,rfl⟩ | ⟨I,J,p,rfl,h,r,rfl,rfl⟩ | ⟨I,J,p,rfl,h,r,rfl,rfl⟩ | ⟨d,p,o,rfl,h,rfl,rfl,f⟩
 .exact#[G,a,h]
 .exact#[_,a.pe h r]
 .exact#[_,a.gi h r]
 .exact#[_,a.yJ h,f _ (Sm.laid (WA.free a.qA.sub h)) jC]
def xLa(K:kA)(op:NJ):R2:=λx y H Q=>∃G d e v,WA G H/\OB K H G d x/\OB K H G e y/\(op=.Mult->∀b,d=.l b->∃a c,x=.ref a/\H a=aA (.l c)/\oA K G b c)/\kC op d e=aA v/\∀z f,aAE K H G v z f->Q z f
def aAo:aAE K H G (.sh (.int i)) (.int i) H:=.inl #[_,rfl,by simp[nA],rfl]
def tAa:aAE K H G (.sh (.bl i)) (.bl i) H:=.inl #[_,rfl,by simp[nA],rfl]
def GK(h:fB n=bA):n<=sizeLine:=dD (@lP _ (cl _) h) (by decide)
def UO(I:gA X cA B H s)(h:EB X.K H a c):∃(b:List jA),aAc c b/\s.heap.IsList a b.toArray/\c.length<=sizeLine:=by
 let(b,r,p,z):KA:=I.list h
 exact#[b,r,p.isList,z]
def yLa(K:kA):R2:=λx y H Q=>∃l b a c,x=.ref l/\y=.ref b/\EB K H l a/\EB K H b c/\a.length+c.length<=sizeLine/\∀p,H p=eA->Q (.ref p) (GA H p (.l (a++c)))
def zFa:GC X (ZE .Add) (yLa X.K):=by
 intro cA s B H x y v u Q I t w h;let(l,b,P,R,rfl,rfl,A,C,U,q):=h;cases t;cases w;let(c,r,J,z):KA:=UO I A
 let(a,k,g,Y):KA:=UO I C
 have Z:=r.length;have e2:=k.length;obtain⟨⟨cls,M,data,sl⟩,m,o,n,hd⟩:=id J;obtain⟨⟨p,i,data2,j⟩,d,e,N,f⟩:=id g;simp only at o hd e f;subst o hd e f;refine sW #[_,m,rfl] #[_,d,rfl] noFill_list_add seq_list_add PySem.F.slot_list_add PySem.F.entry_list_add (PySem.F.args_list_add_2 _ _) (list_addW l b c.toArray a.toArray n N M i sl j (by simp;lia)) #[m,d, ?_];have O:c.toArray++a.toArray=(c++a).toArray:=by simp
 rw[O];exact#[.ref _,_,I.T1 (t':=s.toks) (r.append k) (by rw[RC];lia),rfl,q _ I.fresh]
def bGa:GC X (ZE .FloorDiv) (rI (λ_ j=>0<j/\j<100000000000000000000000000000000000000000000000000000000000000000000000000000000) λi j=>.int (i / j)):=pR λi j _ _ _ _ _ a q=>by
 have c:(0:Int)<j:=a.1;have d:j<100000000000000000000000000000000000000000000000000000000000000000000000000000000:=a.2;have b:j.natAbs<2 ^ 300:=ME (by omega:j.natAbs<100000000000000000000000000000000000000000000000000000000000000000000000000000000) (by decide);have e:j.natAbs.log2<300:=(Nat.log2_lt (by omega)).mpr b;exact PyProof.Rows.floordiv_int (by omega) (by rw[pj i (by omega)];exact q) (.inl (PyProof.noPylong_of_log2 (by omega)))
def lB(e:eA=aA v):False:=nomatch e
def yFa:GC X (ZE .Add) (λx y H Q=>∃a b k,x=.ref a/\y=.ref b/\LC X.K H a []/\LC X.K H b k/\Q (.ref b) H):=by
 intro cA s B H x y v u Q I p r h;let(a,b,k,rfl,rfl,t,w,q):=h;cases p;cases r;let(g,z,A,_):KA:=I.tuple t
 let(c,O,C,_):KA:=I.tuple w
 have J:g=[]:=z.RU.mpr rfl;subst J;obtain⟨⟨cls,M,data,sl⟩,l,m,n,hd⟩:=id A;obtain⟨⟨o,i,data2,j⟩,d,e,N,f⟩:=id C;simp only at m hd e f;subst m hd e f
 exact sW #[_,l,rfl] #[_,d,rfl] N6 d7 d6 U5 (R5 _ _)
  (tuple_addW0 a b [].toArray c.toArray n N M i sl j rfl) #[l,d,#[.ref b,H,I,rfl,q]]
def Dp{d e:D}{w:RV}(h:kC .Sub d e=aA w):∃i j,d=.int i/\e=.int j/\w=.sh (.int (i-j)):=by
 induction d using D.casesOn with
 |int=>induction e using D.casesOn with
  |int=>cases h;exact#[_,_,rfl,rfl,rfl]
  |_=>exact(lB h).elim
 |_=>exact(lB h).elim
def zp{d e:D}{w:RV}(h:kC .FloorDiv d e=aA w):∃i j,d=.int i/\e=.int j/\(0<j/\j<100000000000000000000000000000000000000000000000000000000000000000000000000000000)/\w=.sh (.int (i / j)):=by
 induction d using D.casesOn with
 |int=>induction e using D.casesOn with
  |int =>
   change @ite _ _ (cl _) _ eA=_ at h;split at h
   .rename_i a;cases h;exact#[_,_,rfl,rfl,a,rfl]
   .cases h
  |_=>exact(lB h).elim
 |_=>exact(lB h).elim
def Bp{d e:D}{w:RV}(h:kC .Mod d e=aA w):∃i j,d=.int i/\e=.int j/\0<j/\w=.sh (.int (i % j)):=by
 induction d using D.casesOn with
 |int=>induction e using D.casesOn with
  |int =>
   change @ite _ _ (cl _) _ eA=_ at h;split at h
   .rename_i a;cases h;exact#[_,_,rfl,rfl,a,rfl]
   .cases h
  |_=>exact(lB h).elim
 |_=>exact(lB h).elim
def Ap{d e:D}{w:RV}(h:kC .LShift d e=aA w):∃i j,d=.int i/\e=.int j/\L7 i j/\w=.sh (.int (i*2 ^ j.toNat)):=by
 induction d using D.casesOn with
 |int=>induction e using D.casesOn with
  |int =>
   change @ite _ _ (cl _) _ eA=_ at h;split at h
   .rename_i a;cases h;exact#[_,_,rfl,rfl,#[a.1,by omega,a.2.2],rfl]
   .cases h
  |_=>exact(lB h).elim
 |_=>exact(lB h).elim
def Cp{d e:D}{w:RV}(h:kC .RShift d e=aA w):∃i j,d=.int i/\e=.int j/\0<=j/\w=.sh (.int (i / 2 ^ j.toNat)):=by
 induction d using D.casesOn with
 |int=>induction e using D.casesOn with
  |int =>
   change @ite _ _ (cl _) _ eA=_ at h;split at h
   .rename_i a;cases h;exact#[_,_,rfl,rfl,a,rfl]
   .cases h
  |_=>exact(lB h).elim
 |_=>exact(lB h).elim
def yp{d e:D}{w:RV}(h:kC .BitAnd d e=aA w):∃i j,d=.int i/\e=.int j/\w=.sh (.int (jS i j)):=by
 induction d using D.casesOn with
 |int=>induction e using D.casesOn with
  |int=>cases h;exact#[_,_,rfl,rfl,rfl]
  |_=>exact(lB h).elim
 |_=>exact(lB h).elim
def kT{op:NJ}{P:Int->Int->Prop}{f:Int->Int->Int}{cA:List (iA×kB)}{s:CA}{B:St}{H G:Hp}{x y:V}{v u:jA}{Q:VK}{d e:D}{w:RV}(h:GC X (ZE op) (rI P λi j=>.int (f i j)))(I:gA X cA B H s)(b:aAe x v)(c:aAe y u)(g:OB X.K H G d x)(l:OB X.K H G e y)(k:∀z a,aAE X.K H G w z a->Q z a)(z:∃i j,d=.int i/\e=.int j/\P i j/\w=.sh (.int (f i j))) :
  sA (~~~X) X.A (ZE op v u) (EP X cA B Q) X.xe s:=by
 let(i,j,rfl,rfl,m,rfl):=z;exact h cA s B H x y v u Q I b c #[i,j,g.int,l.int,m,k _ _ aAo]
def n8{op:NJ}{f:Int->Int->Int}{cA:List (iA×kB)}{s:CA}{B:St}{H G:Hp}{x y:V}{v u:jA}{Q:VK}{d e:D}{w:RV}(h:GC X (ZE op) (BJ λi j=>.int (f i j)))(I:gA X cA B H s)(b:aAe x v)(c:aAe y u)(g:OB X.K H G d x)(l:OB X.K H G e y)(k:∀z a,aAE X.K H G w z a->Q z a)(z:∃i j,d=.int i/\e=.int j/\w=.sh (.int (f i j))) :
  sA (~~~X) X.A (ZE op v u) (EP X cA B Q) X.xe s:=by
 let(i,j,rfl,rfl,rfl):=z;exact h cA s B H x y v u Q I b c #[i,j,g.int,l.int,k _ _ aAo]
def Jp(Z:X.K=K)(op:NJ):GC X (ZE op) (xLa K op):=by
 intro cA s B H x y v u Q I g i h;let(G,d,e,w,sub,j,A):VA:=h;let(f,hm,c,k):oB:=A
 subst Z
 cases op with
 |Add =>
  induction d using D.casesOn with
  |int =>
   induction e using D.casesOn with
   |int =>
    cases j.int;cases f.int;change aA _=_ at c;cases c;exact wFa cA s B H _ _ _ _ Q I g i #[_,_,rfl,rfl,k _ _ aAo]
   |_=>exact(lB c).elim
  |l C =>
   induction e using D.casesOn with
   |l ys =>
    change (if fB (C.length+ys.length) then aA _ else eA)=_ at c;split at c
    .rename_i O;cases c;let(a,o,rfl,q,n):=j.l sub;let(b,F,rfl,J,t):=f.l sub;refine zFa cA s B H _ _ _ _ Q I g i #[a,b,o,F,rfl,rfl,q,J, ?_,λp M=>k _ _ (.inr (.inl #[_,_,p,rfl,M,n.app t,rfl,rfl]))];rw[n.len,t.len];exact GK O
    .cases c
   |_=>exact(lB c).elim
  |t C =>
   cases C with
   |nil =>
    induction e using D.casesOn with
    |t r =>
     change aA _=_ at c;cases c;have l:=f;let(a,o,rfl,q,n):=j.t sub;let(b,F,rfl,J,t):=f.t sub;have N:o=[]:=W5.mp n.len;subst N;refine yFa cA s B H _ _ _ _ Q I g i #[a,b,F,rfl,rfl,q,J, ?_];rcases l with l | ⟨_,_,l⟩
     .exact k _ _ (.inl #[_,rfl,l,rfl])
     .exact l.elim
    |_=>exact(lB c).elim
   |cons x0 P =>
    induction e using D.casesOn with
    |t r =>
     change (if fB (P.length+1+r.length) then aA _ else eA)=_ at c;split at c
     .rename_i O;cases c;have m:=j;let(a,o,rfl,q,n):=j.t sub;let(b,F,rfl,J,t):=f.t sub;have N:=n.len;have U:=t.len;refine aGa cA s B H _ _ _ _ Q I g i #[a,b,o,F,rfl,rfl,q,J, ?_, ?_,λY=>?_,λY p M=>?_]
      .intro z;subst z;simp at N
      .rw[N,U];exact GK O
      .subst Y;have e3:r=[]:=W5.mp U.symm;subst e3;rcases m with m | ⟨_,_,m⟩
       .exact k _ _ (.inl #[_,rfl,by simpa using m,rfl])
       .exact m.elim
      .exact k _ _ (Z1 #[_,_,p,rfl,M,n.app t,rfl,rfl])
     .cases c
    |_=>exact(lB c).elim
  |_=>exact(lB c).elim
 |Sub=>exact n8 nGa I g i j f k (Dp c)
 |Mult =>
  induction d using D.casesOn with
  |int =>
   induction e using D.casesOn with
   |int =>
    cases j.int;cases f.int;change @ite _ _ (cl _) _ eA=_ at c;split at c
    .cases c;exact iGa cA s B H _ _ _ _ Q I g i #[_,_,rfl,rfl,‹_›,k _ _ aAo]
    .cases c
   |_=>exact(lB c).elim
  |l C =>
   induction e using D.casesOn with
   |int R =>
    change @ite _ (-(2 ^ 31)<=R/\R<=1000/\fB (C.length*R.toNat)) (cl _) _ eA=_ at c;split at c
    .rename_i hc;cases c;cases f.int;let(a,o,rfl,q,n):=hm rfl _ rfl;refine kGa cA s B H _ _ _ _ Q I g i #[a,_,o,rfl,rfl,q,by omega,by omega, ?_,λp M=>k _ _ (.inr (.inl #[_,_,p,rfl,M,n.rep _,rfl,rfl]))];rw[n.len];exact GK hc.2.2
    .cases c
   |_=>exact(lB c).elim
  |_=>exact(lB c).elim
 |FloorDiv=>exact kT bGa I g i j f k (zp c)
 |Mod=>exact kT hGa I g i j f k (Bp c)
 |Pow=>exact(lB c).elim
 |LShift=>exact kT lGa I g i j f k (Ap c)
 |RShift=>exact kT mGa I g i j f k (Cp c)
 |BitAnd=>exact n8 xFa I g i j f k (yp c)
 |BitOr=>exact(lB c).elim
 |_=>exact(lB c).elim
def xR(K:kA)(op:LG):R2:=λx y H Q=>∃G d e b,WA G H/\OB K H G d x/\OB K H G e y/\PB op d e=aA b/\Q (.bl b) H
def dO(h:nA K G d x)(f:FD d=bA):uJ x=bA/\∀(e:D) (y:V),nA K G e y->FD e=bA->mK y x=uG e d:=by
 cases d<;>erw[FD,YL] at f<;>erw[nA] at h
 .subst h;refine#[rfl,λe y a b=>?_];cases e<;>erw[FD,YL] at b<;>erw[nA] at a<;>(first | subst a | (let(rfl,_):=a))<;>rfl
 .subst h;refine#[rfl,λe y a b=>?_];cases e<;>erw[FD,YL] at b<;>erw[nA] at a<;>(first | subst a | (let(rfl,_):=a))<;>rfl
 .subst h;refine#[rfl,λe y a b=>?_];cases e<;>erw[FD,YL] at b<;>erw[nA] at a<;>(first | subst a | (let(rfl,_):=a))<;>rfl
 .let(rfl,_):=h;refine#[rfl,λe y a b=>?_];cases e<;>erw[FD,YL] at b<;>erw[nA] at a<;>(first | subst a | (let(rfl,_):=a))<;>rfl
def OB.flat(h:OB K H G d x)(f:FD d=bA):nA K G d x:=by
 rcases h with h | ⟨a,rfl,h⟩
 .exact h
 .cases d<;>first | exact h.elim | cases f
theorem JQ(h:nA K G d x)(f:FD d=bA):∀{c:List D} {a:List V},oA K G c a->c.all FD=bA->a.all uJ=bA/\tU x a=inD d c
 |[],a,b,_=>by erw[oA] at b;subst b;exact#[rfl,rfl]
 |e::c,a,b,fs=>by
  erw[oA] at b;let(y,r,rfl,g,i):=b;rw[DC,XA] at fs;let(j,k):=JQ h f i fs.2;let(l,_):=dO g fs.1;have m:=(dO h f).2 e y g fs.1;refine#[by rw[DC,l,j];rfl, ?_]
  unfold tU inD at *
  rw[gM,gM,k,m]
def Hf(I:gA X cA B H s)(a:X.K=K)(sub:WA G H)(hu:A.units+20<cLine)(od:eC 20 d=bA)(b:eC 20 e=bA)(i:OB K H G d x)(j:OB K H G e y)(k:aAe x v)(l:aAe y u) :
  SeqAt.RcAt A s v u (uG d e)/\SeqAt.RcNeAt A s v u (!uG d e):=by
 let(as,c,f,m):KA:=Kf I a sub 20 d x v od i k
 let(bs,g,h,n):KA:=Kf I a sub 20 e y u b j l
 rw[<- Zs 20 d e od b];exact#[Wk c g f h (by lia),SeqAt.rcNeAt_reads c g f h (by lia)]
def ly{b:List D}:∀{a:List Int},oD b=aA a->b=a.map D.int:=by
 induction b with
 |nil=>intro a h;cases h;rfl
 |cons d r c =>
  intro a h
  induction d using D.casesOn with
  |int i =>
   replace h:(oD r).map (i :: ·)=aA a:=h
   cases q:oD r with
   |none=>rw[q] at h;cases h
   |some e =>
    rw[q] at h;cases h;rw[vB,<- c q]
  |_=>cases h
theorem oA.ints:∀{ns:List Int} {j:List V},oA K G (ns.map D.int) j->j=ns.map V.int
 |[],j,h=>by erw[LJ,oA] at h;exact h
 |n::ns,j,h=>by(erw[vB,oA] at h;let(v,r,rfl,h1,h2):=h;erw[nA] at h1;rw[h1,oA.ints h2];rfl)
def vOa(h:oV d=aA k):d=vA k:=by
 induction d using D.casesOn with
 |t l =>
  obtain _ | ⟨a,_ | ⟨b,_ | ⟨_,_⟩⟩⟩:=l
  .exact JE h
  .exact JE h
  .induction a using D.casesOn with
   |int t =>
    induction b using D.casesOn with
    |t e =>
     let(f,q,c):rA:=wH.mp h
     obtain rfl:=c;rw[ly q];rfl
    |_=>exact JE h
   |_=>exact JE h
  .exact JE h
 |_=>exact JE h
def aPa(h:jE d=aA k):d=HM k:=by
 let(x,a,b):rA:=wH.mp h
 obtain rfl:=b;exact vOa a
def yOa(h:nA K G (vA k) x):∃b,x=.ref b/\lJ K G k b:=by
 erw[vA,nA,oA] at h;obtain⟨a,g,rfl,e,v1,i,rfl,rfl,j,l,rfl,⟨c,m,rfl,d,f⟩,rfl⟩:=h;rw[oA.ints f] at d;exact#[a,rfl,c,e,d]
def BO(hk:jE d=aA k)(h:OB K H G d x):∃b,x=.ref b/\gC K G k b:=by
 rw[aPa hk] at h;rcases h with h | ⟨_,_,h⟩
 .exact yOa h
 .exact h.elim
theorem Qf:∀(a:List Int),oA K G (a.map D.int) (a.map V.int)
 |[]=>oA.nil
 |n::a=>oA.cons (by erw[nA]) (Qf a)
def tMa(h:lJ K G k b):nA K G (vA k) (.ref b):=by
 let(c,a,d):rA:=h;erw[vA,nA];exact#[b,_,rfl,a,oA.cons (by erw[nA]) (oA.cons (by erw[nA];exact#[c,_,rfl,d,Qf _]) oA.nil)]
def Nf{k:MB}{b:iA}(h:gC K G k b):nA K G (HM k) (.ref b):=tMa h
theorem Pf:∀{a:fF},(∀x∈a,gC K G x.1 x.2.1)->oA K G ((a.map (·.1)).map HM) (a.map λx=>.ref x.2.1)
 |[],_=>oA.nil
 |x::a,h=>oA.cons (Nf (h x (.head _))) (Pf λy b=>h y (.tail _ b))
theorem OB.pJ(h:OB K H G (.pJ m r) x)(sub:WA G H):∃a j,x=.ref a/\H a=aA (.dK (lK m j))/\oA K G r j/\m.length=r.length:=by
 rcases h with h | ⟨_,_,h⟩
 .erw[nA] at h;let(a,j,rfl,h1,h2):=h;exact#[a,j,rfl,sub _ _ h1,h2]
 .exact h.elim
theorem V1(k:Int):∀{b:List Int} {c:List D} {f:List V},oA K G c f->b.length=c.length->(MH (lK b f) (.inl k)=eA/\yK b c k=eA)\/∃d v,MH (lK b f) (.inl k)=aA v/\yK b c k=aA d/\nA K G d v
 |[],_,_,_,_=>.inl #[rfl,rfl]
 |a::b,[],_,_,z=>by cases z
 |a::b,d::c,_,h,z=>by
  erw[oA] at h;let(v,r,rfl,g,i):=h;have j:=V1 k i (Ml z);by_cases e:a=k
  .exact .inr #[d,v,vi (p:=(Sum.inl a,v)) (r:=lK b r) (congrArg Sum.inl e),by simp[yK,e],g]
  .have l:MH (lK (a::b) (v::r)) (.inl k)=MH (lK b r) (.inl k):=ui (p:=(Sum.inl a,v)) (r:=lK b r) (λz=>e (BP z));have m:yK (a::b) (d::c) k=yK b c k:=by simp[yK,e]
   rw[l,m];exact j
def mAa(h:oA K G a f)(z:b.length=a.length):(MH (lK b f) (.inl k)).isSome=(yK b a k).isSome:=by
 rcases V1 k h z with ⟨c,e⟩ | ⟨d,v,c,e,_⟩<;>rw[c,e]<;>rfl
abbrev XJ(K:kA)(G:Hp)(c:List MB)(d:List D)(a:fF):Prop:=a.map (·.1)=c/\∃b,aAc b (a.map (·.2.2))/\oA K G d b
theorem OB.aB(h:OB K H G (.aB m r) x)(sub:WA G H):∃a xs,x=.ref a/\DS K H a xs/\XJ K G m r xs/\∀x∈xs,gC K G x.1 x.2.1:=by
 have go:∀{a xs j},NS H a xs->pM K G a m j xs->oA K G r j->DS K H a xs/\XJ K G m r xs/\∀x∈xs,gC K G x.1 x.2.1:=λh1 h2 h3=>#[#[h1,h2.1,h2.2.1,h2.2.2.1,λx hx=>gC.mono sub (h2.2.2.2.1 x hx)],#[h2.2.2.2.2.1,_,h2.2.2.2.2.2,h3],h2.2.2.2.1]
 rcases h with h | ⟨a,rfl,xs,j,h1,h2,h3⟩
 .erw[nA] at h;obtain⟨a,xs,j,rfl,⟨u,h1⟩,h2,h3⟩:=h;exact#[a,xs,rfl,go #[u,sub _ _ h1] h2 h3]
 .exact#[a,xs,rfl,go h1 h2 h3]
theorem qd:∀{b:fF} {ks:List MB} {a:List D},XJ K G ks a b->(atKey b k=eA/\xK ks a k=eA)\/∃p d v,atKey b k=aA p/\xK ks a k=aA d/\aAe v p.2/\nA K G d v
 |[],_,_,#[rfl,_]=>.inl #[rfl,rfl]
 |q::b,_,a,#[rfl,h,f,c]=>by
  cases f with
  | @cons v u h m f i =>
   obtain _ | ⟨d,a⟩:=a
   .erw[oA] at c;cases c
   .erw[oA] at c;let(n,r,e,j,l):pB:=c;cases e;have g:=qd (k:=k) (ks:=b.map (·.1)) #[rfl,_,i,l];unfold atKey xK at g ⊢;rw[vB,sN,bM,bM];by_cases e:q.1=k
    .rw[zB e];exact .inr #[_,_,_,rfl,rfl,f,j]
    .rw[dB e];exact g
theorem cX:∀(a:fF),(atKey a k).isSome=AI (a.map (·.1)) k
 |[]=>rfl
 |q::a=>by
  have b:=cX (k:=k) a;unfold atKey AI at b ⊢;rw[vB,bM,gM];by_cases e:q.1=k
  .rw[zB e];rfl
  .rw[dB e];exact b
def rd(r:XJ K G b c a)(k:MB):(atKey a k).isSome=AI b k:=by rw[<- r.1];exact cX a
theorem uf(i:aAe v u)(hd:nA K G d v):∀{a:fF} {b:List D} {c:List V},aAc c (a.map (·.2.2))->oA K G b c ->
  (a.map (putAt k u)).map (·.1)=a.map (·.1)/\∃f,aAc f ((a.map (putAt k u)).map (·.2.2))/\oA K G (((a.map (·.1)).zip b).map λp=>if p.1=k then d else p.2) f
 |[],b,c,h,g=>#[rfl,[],.nil,by simp[oA]]
 |q::a,b,c,h,g=>by
  cases h with
  | @cons v0 n c o h j =>
   obtain _ | ⟨s,b⟩:=b
   .erw[oA] at g;cases g
   .erw[oA] at g;let(t,r,e,l,m):=g;cases e;let(g1,f,g2,g3):=uf i hd j m;rw[vB,vB,vB,vB,sN,vB,g1];unfold putAt;by_cases e:q.1=k
    .rw[RA e];exact#[rfl,v::f,.cons i g2,oA.cons (by rw[RA e];exact hd) g3]
    .rw[if_neg e];exact#[rfl,_::f,.cons h g2,oA.cons (by rw[if_neg e];exact l) g3]
def aAc.snoc(h:aAc j m)(r:aAe v u):aAc (j++[v]) (m++[u]):=h.append (.cons r .nil)
def xf(r:XJ K G a h c)(e:aAe v u)(hd:nA K G d v):XJ K G (yE a k) (aE a h k d) (storedH c k b u):=by
 let(rfl,i,f,g):=r;unfold yE aE storedH;rw[<- cX c];split
 .exact uf e hd f g
 .refine#[by rw[iD];rfl,_, ?_,oA.app g (oA.cons hd oA.nil)];rw[iD];exact aAc.snoc f e
def Of{H G:Hp}{d:D}{x:V}(h:OB K H G d x):decide (x=.lA)=O2 d:=by
 rcases h with h | ⟨a,rfl,h⟩
 .induction d using D.casesOn with
  |lA=>erw[nA] at h;subst h;rfl
  |bl=>erw[nA] at h;subst h;rfl
  |int=>erw[nA] at h;subst h;rfl
  |str=>erw[nA] at h;rw[h.1];rfl
  |t=>erw[nA] at h;let(a,_,rfl,_):=h;rfl
  |l=>erw[nA] at h;let(a,_,rfl,_):=h;rfl
  |_=>erw[nA] at h<;>first | exact h.elim | (let(_,h):=h;first | (let(rfl,_):=h;rfl) | (let(_,h):=h;first | (let(rfl,_):=h;rfl) | (let(_,h):=h;first | (let(rfl,_):=h;rfl) | (let(_,rfl,_):=h;rfl))))
 .induction d using D.casesOn with
  |lA=>exact h.elim
  |_=>rfl
def Cy{q b:Bool}{d:D}(h:WZ q d=aA b):∃p,d=.bl p/\b=(p==q):=by
 induction d using D.casesOn with
 |bl p=>cases h;exact#[p,rfl,rfl]
 |_=>exact(lB h).elim
def sAa{d e:D}{b:Bool}(h:PB .Lt d e=aA b):∃i j,d=.int i/\e=.int j/\b=decide (i<j):=by
 cases d with
 |int=>cases e with
  |int=>cases h;exact#[_,_,rfl,rfl,rfl]
  |_=>exact(lB h).elim
 |_=>exact(lB h).elim
def Y'{d e:D}{b:Bool}(h:PB .LtE d e=aA b):∃i j,d=.int i/\e=.int j/\b=decide (i<=j):=by
 cases d with
 |int=>cases e with
  |int=>cases h;exact#[_,_,rfl,rfl,rfl]
  |_=>exact(lB h).elim
 |_=>exact(lB h).elim
def Dw{d e:D}{b:Bool}(h:PB .Gt d e=aA b):∃i j,d=.int i/\e=.int j/\b=decide (j<i):=by
 induction d using D.casesOn with
 |int=>induction e using D.casesOn with
  |int=>cases h;exact#[_,_,rfl,rfl,rfl]
  |_=>exact(lB h).elim
 |_=>exact(lB h).elim
def tw{d e:D}{b:Bool}(h:PB .GtE d e=aA b):∃i j,d=.int i/\e=.int j/\b=decide (j<=i):=by
 induction d using D.casesOn with
 |int=>induction e using D.casesOn with
  |int=>cases h;exact#[_,_,rfl,rfl,rfl]
  |_=>exact(lB h).elim
 |_=>exact(lB h).elim
def qT{op:LG}{f:Int->Int->Bool}{cA:List (iA×kB)}{s:CA}{B:St}{H G:Hp}{x y:V}{v u:jA}{Q:VK}{d e:D}{b:Bool}(h:GC X (SE op) (λx y H Q=>∃i j,x=.int i/\y=.int j/\Q (.bl (f i j)) H))(I:gA X cA B H s)(a:aAe x v)(c:aAe y u)(g:OB K H G d x)(l:OB K H G e y)(k:Q (.bl b) H)(z:∃i j,d=.int i/\e=.int j/\b=f i j) :
  sA (~~~X) X.A (SE op v u) (EP X cA B Q) X.xe s:=by
 let(i,j,rfl,rfl,rfl):=z;exact h cA s B H x y v u Q I a c #[i,j,g.int,l.int,k]
def WN(t:X.K=K)(hu:X.A.units+64<cLine)(op:LG):GC X (SE op) (xR K op):=by
 intro cA s B H x y v u Q I j l h;let(G,d,e,F):BB:=h;let(b,sub,g,m,c,k):zD:=F
 cases op with
 |Eq =>
  change (if eC 20 d&&eC 20 e then aA _ else eA)=_ at c;split at c
  .rename_i f;cases c;rw[XA] at f;exact(Hf I t sub (by lia) f.1 f.2 g m j l).1 _ _ _ _ #[.bl _,H,I,rfl,k]
  .cases c
 |NotEq =>
  change (if eC 20 d&&eC 20 e then aA _ else eA)=_ at c;split at c
  .rename_i f;cases c;rw[XA] at f;exact(Hf I t sub (by lia) f.1 f.2 g m j l).2 _ _ _ _ #[.bl _,H,I,rfl,k]
  .cases c
 |Lt =>
  exact qT gGa I j l g m k (sAa c)
 |LtE =>
  exact qT fGa I j l g m k (Y' c)
 |Gt=>exact qT dGa I j l g m k (Dw c)
 |GtE=>exact qT cGa I j l g m k (tw c)
 |Is =>
  induction e using D.casesOn with
  |lA =>
   cases m.lA;change aA _=_ at c;cases c;refine eGa cA s B H _ _ _ _ Q I j l #[rfl, ?_];rw[Of g];exact k
  |bl q =>
   let(p,rfl,rfl):=Cy (show WZ q d=_ from c);cases g.bl;cases m.bl;cases j;cases l;exact is_bool #[.bl _,H,I,rfl,k]
  |_=>exact(lB c).elim
 |IsNot =>
  induction e using D.casesOn with
  |lA =>
   cases m.lA;change aA _=_ at c;cases c;refine jGa cA s B H _ _ _ _ Q I j l #[rfl, ?_];rw[Of g];exact k
  |_=>exact(lB c).elim
 |In =>
  induction e using D.casesOn with
  |t n =>
   change (if FD d&&n.all FD then aA _ else eA)=_ at c;split at c
   .rename_i f;cases c;rw[XA] at f;let(a,w,rfl,o,r):=m.t sub;let(z,C):=JQ (g.flat f.1) f.1 r f.2;refine ae cA s B H _ _ _ _ Q I j l #[a,w,rfl,.inr (t ▸ o),(dO (g.flat f.1) f.1).1,z, ?_];simpa[C] using k
   .cases c
  |l n =>
   change (if FD d&&n.all FD then aA _ else eA)=_ at c;split at c
   .rename_i f;cases c;rw[XA] at f;let(a,w,rfl,o,r):=m.l sub;let(z,C):=JQ (g.flat f.1) f.1 r f.2;refine ae cA s B H _ _ _ _ Q I j l #[a,w,rfl,.inl (t ▸ o),(dO (g.flat f.1) f.1).1,z, ?_];simpa[C] using k
   .cases c
  |pJ J N =>
   change Za d J N=_ at c
   induction d using D.casesOn with
   |int i =>
    change aA _=_ at c;cases c;let(a,w,rfl,o,r,U):=m.pJ sub;cases g.int;cases l;refine Ir (by lia) I (fL.k (k:=Sum.inl i) o) j λR M=>#[.bl _,H,M,rfl, ?_]
    rw[mAa r U];exact k
   |_=>exact(lB c).elim
  |aB J N =>
   change uO d J=_ at c;unfold uO at c
   cases hs:jE d with
   |none=>rw[hs] at c;cases c
   |some Y =>
    rw[hs] at c;cases c;subst t;let(Z,rfl,O):=BO hs g;let(a,xs,rfl,n,P,_):=m.aB sub;cases j;cases l;refine vNa (by lia) I n (gC.mono sub O) λR M=>#[.bl _,H,M,rfl, ?_]
    rw[rd P];exact k
  |_=>exact(lB c).elim
 |NotIn =>
  induction e using D.casesOn with
  |t n =>
   change (if FD d&&n.all FD then aA _ else eA)=_ at c;split at c
   .rename_i f;cases c;rw[XA] at f;let(a,w,rfl,o,r):=m.t sub;let(z,C):=JQ (g.flat f.1) f.1 r f.2;refine ie cA s B H _ _ _ _ Q I j l #[a,w,rfl,.inr (t ▸ o),(dO (g.flat f.1) f.1).1,z, ?_];simpa[C] using k
   .cases c
  |l n =>
   change (if FD d&&n.all FD then aA _ else eA)=_ at c;split at c
   .rename_i f;cases c;rw[XA] at f;let(a,w,rfl,o,r):=m.l sub;let(z,C):=JQ (g.flat f.1) f.1 r f.2;refine ie cA s B H _ _ _ _ Q I j l #[a,w,rfl,.inl (t ▸ o),(dO (g.flat f.1) f.1).1,z, ?_];simpa[C] using k
   .cases c
  |aB J N =>
   change (uO d J).map (!·)=_ at c;unfold uO at c
   cases hs:jE d with
   |none=>rw[hs] at c;cases c
   |some Y =>
    rw[hs] at c;cases c;subst t;let(Z,rfl,O):=BO hs g;let(a,xs,rfl,n,P,_):=m.aB sub;cases j;cases l;refine yNa (by lia) I n (gC.mono sub O) λR M=>#[.bl _,H,M,rfl, ?_]
    rw[rd P];exact k
  |_=>exact(lB c).elim
end
section
variable{X:Cx}{K:kA}{cA:List (iA×kB)}{B:St}{H G:Hp}{s:CA}
def k8(h:oA K G a b)(e:sC a i=aA d):∃v,sC b i=aA v/\nA K G d v:=by
 unfold sC at e ⊢;rw[h.len]
 cases q:DF a.length i with
 |none=>rw[q] at e;cases e
 |some j =>
  rw[q] at e;exact h.get e
def cMa(K:kA):R2:=λx y H Q=>∃G d e r,WA G H/\OB K H G d x/\OB K H G e y/\OQ d e=aA r/\∀z,nA K G r z->Q z H
def zF.imp(h:zF X r)(w:∀x y H Q,j x y H Q->r x y H Q):zF X j:=λm sl cA s B H x y v u Q I C F q J=>h m sl cA s B H x y v u Q I C F (w x y H Q q) J
def mQa(h:DN x=bA)(e:sC x.cps.toList i=aA c):DN #[[c].toArray]=bA:=by
 unfold DN at *
 have a:c∈x.cps.toList:=by
  unfold sC at e
  cases q:DF x.cps.toList.length i with
  |none=>rw[q] at e;cases e
  |some j=>rw[q] at e;exact xH e
 have:=Array.all_eq_true'.mp h c (↑a)
 simpa using this
def dMa:R2:=λx y H Q=>∃a v,x=.ref a/\fL H a y (aA v)/\Q v H
def ez(hu:X.A.units+1<cLine):zF X dMa:=by
 intro value slice cA s B H x y v u Q I d e h f;let(a,z,rfl,g,q):=h;cases d;have c:=js I g;refine tA ?_;rw[Qj c.not_modules];refine tA (S6 c uj.lookup ?_)
 have fin:sA (~~~X) X.A (subscripted slice dA (.ref a) u) (λr i=>sA (~~~X) X.A (letTemporaryGo value (.ref a) r>>=λ_=>pure r) (EP X cA B Q) X.xe i) X.xe s:=by(rw[f];exact wpAny_operating (Hr hu I g e λk l j b=>tA (Zj (ZA #[z,H,j,b,q]))))
 first
  |exact ZA (tA fin)
  |exact tA (ZA (tA fin))
  |exact tA fin
def iz:zF X (λ_ _ _ _=>False):=λ_ _ _ _ _ _ _ _ _ _ _ _ _ _ h _=>h.elim
def eV(K:kA):R2:=λx y H Q=>∃a b c k p v,x=.ref a/\y=.ref b/\DS K H a c/\gC K H k b/\atKey c k=aA p/\aAe v p.2/\Q v H
def DS.typeIs(I:gA X cA B H s)(d:DS X.K H a xs):s.TypeIs (.ref a) "dict":=by
 let(o,j):=d.dict I;let(m,r,h1,h2,_):pB:=j
 exact#[o,h1,h2.1]
def fz(hu:X.A.units+11<cLine):zF X (eV X.K):=by
 intro value slice cA s B H x y v u Q I f g h i;let(a,b,o,k,p,z,rfl,rfl,c,j,e,l,q):=h;cases f;cases g;have d:=DS.typeIs I c;refine tA ?_;rw[Qj d.not_modules];refine tA (S6 d uj.lookup ?_)
 have fin:sA (~~~X) X.A (subscripted slice dA (.ref a) (.ref b)) (λr m=>sA (~~~X) X.A (letTemporaryGo value (.ref a) r>>=λ_=>pure r) (EP X cA B Q) X.xe m) X.xe s:=by(rw[i];exact wpAny_operating (uNa hu I c j e λt n=>tA (Zj (ZA #[z,H,n,l,q]))))
 first
  |exact ZA (tA fin)
  |exact tA (ZA (tA fin))
  |exact tA fin
def jz(C:X.K=K)(hu:X.A.units+11<cLine):zF X (cMa K):=by
 refine zF.imp ((kz.or (ez (by lia))).or (fz hu)) λx y H Q h=>?_
 let(G,d,e,m):BB:=h;let(r,sub,o,t,b,k):zD:=m
 subst C;unfold OQ at b;split at b
 .cases t.int;let(a,w,rfl,j,f):=o.t sub;let(v,l,u):rA:=k8 f b
  exact .inl (.inl (.inr (.inl #[a,w,_,v,rfl,rfl,j,l,k v u])))
 .cases t.int;let(a,w,rfl,j,f):=o.l sub;let(v,l,u):rA:=k8 f b
  exact .inl (.inl (.inl #[a,w,_,v,rfl,rfl,j,l,k v u]))
 .rename_i F I
  cases hs:jE e with
  |none=>rw[hs] at b;cases b
  |some z =>
   rw[hs] at b;erw[OG] at b;let(J,rfl,M):=BO hs t;let(a,N,rfl,O,P,_):=o.aB sub;rcases qd (k:=z) P with ⟨_,f⟩ | ⟨p,n,v,j,f,l,u⟩
   .rw[f] at b;cases b
   .rw[f] at b;cases b;exact .inr #[a,J,N,z,p,v,rfl,rfl,O,gC.mono sub M,j,l,k _ u]
 .rename_i F I i;cases t.int;let(a,w,rfl,j,f,l):=o.pJ sub;rcases V1 i f l with ⟨_,q⟩ | ⟨d,v,R,U,Y⟩
  .rw[q] at b;cases b
  .rw[U] at b;cases b;refine .inl (.inr #[a,v,rfl, ?_,k _ Y]);have g:=fL.k (k:=Sum.inl i) j;rw[R] at g;exact g
 .split at b
  .rename_i Z;cases t.int;let(rfl,ok):=o.str
   cases q:sC ‹fA›.cps.toList ‹Int› with
   |none=>rw[q] at b;cases b
   |some c =>
    rw[q] at b;cases b;exact .inl (.inl (.inr (.inr #[_,_,c,rfl,rfl,dD Z (by decide),q,k _ (show nA X.K G (.str _) _ by erw[nA];exact#[trivial,mQa ok q])])))
  .cases b
 .cases b
def k9{lo a:Option Int}(h:oA K G b c):oA K G (aAz b lo a) (kK c lo a):=by
 unfold aAz kK;rw[h.len];exact(h.drop _).take _
def iMa(K:kA):V->Option Int->Option Int->Hp->VK->Prop:=λx lo b H Q=>∃G d v,WA G H/\OB K H G d x/\pV d lo b=aA v/\∀z a,aAE K H G v z a->Q z a
def cPa(o:X.K=K):mJ X (iMa K):=by
 intro cA s B H x v q t lo l sl Q I u w y z h;let(G,c):=h;let(d,r,sub,b,e,k):fC:=c
 subst o;refine mJ.or bPa fPa cA s B H x v q t lo l sl Q I u w y z ?_;unfold pV at e;split at e
 .cases e;let(a,g,rfl,i,f):=b.l sub;exact .inl #[a,g,rfl,i,λp j=>k _ _ (.inr (.inl #[_,_,p,rfl,j,k9 f,rfl,rfl]))]
 .rename_i m;cases e;let(a,g,rfl,i,f):=b.t sub;refine .inr #[a,g,rfl,i,λp j=>k _ _ (Z1 #[_,_,p,rfl,j,k9 f,rfl,rfl]),λn=>k _ _ (.inl #[_,rfl, ?_,rfl])]
  have A:aAz m lo l=m:=by(unfold aAz;rw[<- f.len,n.1,n.2,f.len,X6,Nat.sub_zero,rP])
  rw[A];rcases b with b | ⟨_,_,b⟩
  .exact b
  .exact b.elim
 .cases e
def UP(K:kA)(H G:Hp):List D->List V->Prop
 |[],a=>a=[]
 |d::b,a=>∃x r,a=x::r/\OB K H G d x/\UP K H G b r
def JF(h:UP K H G [d] a):∃x,a=[x]/\OB K H G d x:=by
 let(x,r,rfl,b,c):=h;cases (show r=[] from c);exact#[x,rfl,b]
def uMa(h:UP K H G [d,e] a):∃x y,a=[x,y]/\OB K H G d x/\OB K H G e y:=by
 let(x,r,rfl,b,c):=h;let(y,rfl,f):=JF c;exact#[x,y,rfl,b,f]
def Af(K:kA)(f:BI):List V->Hp->VK->Prop:=λc H Q=>∃G a v,WA G H/\UP K H G a c/\WD f a=aA v/\∀z b,aAE K H G v z b->Q z b
noncomputable def zX:BI->jA
 |.len=>.builtin "len"
 |.abs=>.builtin "abs"
 |.int=>.type "int"
 |.list=>.type "list"
 |.tuple=>.type "tuple"
 |.max=>.builtin "max"
 |.all=>.builtin "all"
 |.dict=>.type "dict"
 |.sum=>.builtin "sum"
theorem y8:∀{a:List D} {c:List V} {f:List jA} {bs:List Bool},oA K G a c->aAc c f->xI a=aA bs->LSm.BoolsAre f bs
 |[],_,_,_,h,r,e=>by
  erw[oA] at h;subst h;cases r;cases e;exact .nil
 |d::a,_,_,_,h,r,e=>by
  erw[oA] at h;let(v,m,rfl,g,i):=h
  cases r with
  |cons j k =>
   cases d<;>erw[xI,reduceCtorEq] at e;rename_i b
   cases q:xI a with
   |none=>rw[q] at e;cases e
   |some l =>
    rw[q] at e;cases e;erw[nA] at g;subst g;cases j;exact .cons b (y8 i k q)
def Nq(n:X.A.handled=eA):DE X (.builtin "all") (λk H Q=>∃a f g bs G,k=[.ref a]/\EB X.K H a f/\oA X.K G g f/\xI g=aA bs/\Q (.bl (bs.all id)) H):=by
 intro cA s B H k J Q I r h;let(a,f,g,bs,G,rfl,o,p,t,q):=h;let(u,rfl,w):=aAv r;cases w;let(c,x,d,z):KA:=UO I o
 have l:=y8 p x t;have j:a<s⁻¹:=by let(_,e,_):rA:=d;exact VB e
 refine call_all_walk (jP d ?_)
 refine#[s⁻¹,[s⁻¹,a],[s⁻¹],c.toArray.size,_,_,λi=>(bs[i]?).getD bA,rfl,Walks.list (A:=X.A.in1) n _ a (AD j) c.toArray,
  #[#[_,MD _ rfl,rfl,rfl],d.push _],λi v M N O y m=>?_,λP C hk=>?_]
 .let(b,e,F):rA:=l.get i v (↑y)
  obtain rfl:=F;erw[e,Zk] at m;exact QK m
 .have e:((nC c.toArray.size).all λi=>(bs[i]?).getD bA)=bs.all id:=by
   rw[aD,l.length];exact LSm.range_all bs
  rw[e];exact#[.bl _,H,I.kept (t':=C) (LSm.kept_iter hk),rfl,q]
theorem uU:∀{a:List D} {c:List V} {f:List jA} {is:List Int},oA K G a c->aAc c f->oD a=aA is->GP f is
 |[],_,_,_,h,r,e=>by
  erw[oA] at h;subst h;cases r;cases e;exact .nil
 |d::a,_,_,_,h,r,e=>by
  erw[oA] at h;let(v,m,rfl,g,i):=h
  cases r with
  |cons j k =>
   cases d<;>erw[oD,reduceCtorEq] at e;rename_i b
   cases q:oD a with
   |none=>rw[q] at e;cases e
   |some l =>
    rw[q] at e;cases e;erw[nA] at g;subst g;let(t,rfl):=j;exact .cons _ _ (uU i k q)
def bBa(i:Int):∀(r:List Int),(r.foldl (λm y=>if y > m then y else m) i)∈i::r/\∀a∈i::r,a<=r.foldl (λm y=>if y > m then y else m) i:=by
 intro r
 induction r generalizing i with
 |nil=>exact#[by simp,λa b=>by simp at b;simp;lia]
 |cons y r e =>
  erw[yN];let(f,c):=e (if y > i then y else i);refine#[?_,λa b=>?_]
  .rcases jD.mp f with h | h
   .rw[h];split
    .simp
    .simp
   .exact QD _ (QD _ h)
  .have d:=c (if y > i then y else i) (by simp);have g:i<=(if y > i then y else i):=by split<;>lia
   have j:y<=(if y > i then y else i):=by split<;>lia
   rcases jD.mp b with h | h
   .rw[h];exact tW g d
   .rcases jD.mp h with h | h
    .rw[h];exact tW j d
    .exact c a (QD _ h)
def Wq(x:X.calm=bA):DE X (.builtin "max") (λc H Q=>∃a k l i r G,c=[.ref a]/\EB X.K H a k/\oA X.K G l k/\oD l=aA (i::r)/\Q (.int (r.foldl (λm y=>if y > m then y else m) i)) H):=by
 intro cA s B H c us Q I r h;let(a,k,l,i,f,G,rfl,A,C,g,q):=h;let(u,rfl,F):=aAv r;cases F;let(J,M,o,z):KA:=UO I A
 have p:=uU C M g;let(c,e):=p.allInts.items
 have d:i::f=c.toList.map (·.1):=by(rw[<- p.numsOf,<- nums_intItems,<- e])
 have n:0<c.size:=by
  have g:0<(i::f).length:=by simp
  rw[d,pA,RJ] at g;exact g
 rw[e] at o;refine max_intList (I.ok.hd x) o n λv h' tk N hk=>?_
 let(t,rfl):=intItems_at N;let(k1,O):=argBest_gt (numAt c) (c.size-1)
 have P:numAt c (argBest (λi j=>decide (numAt c i > numAt c j)) (c.size-1))∈i::f:=by(rw[d,numAt_eq];exact getD_mem (by rw[pA,RJ];omega))
 have R:∀b∈i::f,b<=numAt c (argBest (λi j=>decide (numAt c i > numAt c j)) (c.size-1)):=λb w=>by
  rw[d] at w;let(j,U,Y):rA:=mem_getD w
  obtain rfl:=Y;rw[pA,RJ] at U;rw[<- numAt_eq];exact O j (by omega)
 let(Z,m4):=bBa i f;have e2:numAt c (argBest (λi j=>decide (numAt c i > numAt c j)) (c.size-1))=f.foldl (λm y=>if y > m then y else m) i:=Int.le_antisymm (m4 _ P) (R _ Z);refine#[.int _,H,I.kept hk,#[t,rfl], ?_];rw[e2];exact q
def Yq(k:X.calm=bA):DE X (.builtin "sum") (λb H Q=>∃a d f c G,b=[.ref a]/\EB X.K H a d/\oA X.K G f d/\oD f=aA c/\Q (.int c.sum) H):=by
 intro cA s B H b w Q I r h;let(a,d,f,c,G,rfl,l,m,n,q):=h;let(u,rfl,o):=aAv r;cases o;let(p,t,i,z):=UO I l;have j:=uU m t n;let(b,e):=j.allInts.items
 have g:c=b.toList.map (·.1):=by(rw[<- j.numsOf,<- nums_intItems,<- e])
 rw[e] at i;refine sum_intListG (I.ok.hd k) i λx y v hk=>#[.int _,H,I.kept hk,#[v,rfl], ?_]
 rw[preSum_eq,bL (by simp),<- g];exact q
def As(d:iA)(hd:(d==sysModules)=dA):MeetsIn P w (aJ.«dict.__len__» #[[.ref d],[]]) (λ_ R s=>∃b c,cC d b c s.heap/\R (.ok (.ret (.int b.length s.toks))) { s with toks:=s.toks+1 }):=by
 refine .of_wp λA R s #[b,c,#[o,f,g,i,a,hk],h]=>?_
 have e:f.size=b.length:=by rw[<- RJ,hk,pA]
 show sA _ _ ((dictEntries d>>=_)>>=_) _ _ s;refine tA (tA (J6 g a ?_));refine ZA (tA (wpAny_pendingCount_other hd (wpAny_ret_mkInt ?_)));rw[Nat.add_zero,e];exact h
def xNa(I:gA X cA B H s)(d:DS X.K H a b)(h:∀t f,gA X cA B H f->Q (.int b.length t) f):sA (~~~X) X.A (call (.builtin "len") [.ref a]) Q X.xe s:=by
 have g:=DS.typeIs I d;have z:=d.len;rw[kM] at z;let(c,e):=d.at_;have i:cC a b c s.heap:=(show lD X.prog X.w H s.heap a (.ext (cC a b c)) from I.LA a _ e).1;refine Calls.call_function_entry kind_len plain_len entry_len (args_len1 _) ?_
 refine tA (m:=oneArg "len" _) (ZA (tA (m:=callSpecial? (.ref a) (AA "__len__")) (ZO (name:=AA "__len__") g Rj
  (call_meetsIn Rj g PySem.F.entry_dict_len (PySem.F.args_dict_len_1 _) (As a d.sm) #[b,c,i, ?_]))))
 refine tA (VI (ZA (tA (wpAny_letGo ?_))));have j:¬((b.length:Nat):Int)<0:=by lia
 have k:¬((b.length:Nat):Int) >= 2 ^ 63:=by lia
 rw[if_neg j];rw[if_neg k];exact tA (B7 (ZA #[_,rfl,h _ _ ((I.tok _).tok _)]))
def ySa:∀{b:fF} {a:List jA},a.length=b.length->(∀(j:Nat) v,a[j]?=aA v->∃x,b[j]?=aA x/\v=.ref x.2.1)->aAc (b.map λx=>V.ref x.2.1) a:=by
 intro b
 induction b with
 |nil =>
  intro a h k
  induction a using bC with
  |nil=>exact .nil
  |cons _ _=>cases h
 |cons x b c =>
  intro a h k
  induction a using bC with
  |nil=>cases h
  |cons u a =>
   let(_,e,q):rA:=k 0 u rfl
   cases e;exact .cons q (c (Ml h) λj v e=>k (j+1) v e)
def wNa(hh:X.A.handled=eA)(I:gA X cA B H s)(d:DS X.K H a f)(h:∀p g,H p=eA->gA X cA B (GA H p (.l (f.map λx=>V.ref x.2.1))) g->Q (.ref p) g):sA (~~~X) X.A (call (.type "list") [.ref a]) Q X.xe s:=by
 let(i,e):=d.at_;refine PySem.W.kdl_call (O_ d.sm) hh (show lD X.prog X.w H s.heap a (.ext (cC a f i)) from I.LA a _ e).1 d.len λm k c l hk hS b=>?_
 refine h _ _ (I.LA.fresh (uB _)) (I.laid (o:=.l (f.map λx=>V.ref x.2.1)) (t':=k) hk (uB _) #[?_,c.toList,l,ySa (by rw[RJ];exact b.1) λj v e=>b.2 j v (by rw[<- Kj];exact e), ?_])
 .rw[pA];exact d.len
 .rw[hS]
def V_{d:D}{p:MB×D}(h:ZQ d=aA p):∃k,d=.t [k,p.2]/\jE k=aA p.1:=by
 unfold ZQ at h;split at h
 .rename_i k d;let(q,a,b):=wH.mp h;cases b;exact#[k,rfl,a]
 .cases h
theorem Wc(I:gA X cA B H s)(sub:WA G H):∀{f:List D} {j:List V} {l:List jA} {g:List (MB×D)},oA X.K G f j->aAc j l->zL f=aA g->∃(i:List V) (a:fF),NN X.prog X.w s.heap l a/\oA X.K G (g.map (·.2)) i/\aAc i (a.map (·.2.2))/\a.map (·.1)=g.map (·.1)/\∀q∈a,gC X.K G q.1 q.2.1
 |[],_,_,_,h,r,e=>by
  erw[oA] at h;subst h;cases r;cases e;exact#[[],[],.nil,oA.nil,.nil,rfl,λ_ z=>nomatch z]
 |d::f,_,_,_,h,r,e=>by
  erw[oA] at h;let(v,j,rfl,n,t):=h
  cases r with
  | @cons _ u _ l x y =>
   let(p,q,e):=PH.mp (show(ZQ d).bind (λp=>(zL f).map (p :: ·))=_ from e);let(g,A,e):=wH.mp e;cases e;let(i,a,C,F,J,M,N):=Wc I sub t y A;let(k,rfl,hk):=V_ q;erw[nA,oA] at n;let(b,zs,rfl,g1,v1,y1,rfl,O,P,y2,rfl,g2,rfl):=n;let(c,rfl,o):=BO (H:=H) hk (.inl O);cases x;let(Q,R,U,_):=I.tuple (hI (Sm.of sub) g1);let(u1,Y,rfl,Z,rb):=aAH R;cases Z;refine#[P::i,(p.1,c,Y)::a,.cons #[b,rfl,U,gC.is I (gC.mono (Sm.of sub) o)] C,oA.cons g2 F,.cons rb J,by erw[vB,M],λq m=>?_];rcases jD.mp m with rfl | m
   .exact o
   .exact N q m
theorem c8:∀{d:List (MB×D)} {c xs:fF} {g:List V} {a:List MB×List D},oA K G (d.map (·.2)) g->aAc g (c.map (·.2.2))->c.map (·.1)=d.map (·.1)->(∀q∈c,gC K G q.1 q.2.1)->XJ K G a.1 a.2 xs->(∀x∈xs,gC K G x.1 x.2.1)->XJ K G (aAw d a).1 (aAw d a).2 (ZP c xs)/\(ZP c xs).length<=xs.length+c.length/\∀x∈ZP c xs,gC K G x.1 x.2.1
 |[],c,xs,g,a,_,_,e,_,h,f=>by
  cases List.map_eq_nil_iff.mp e;exact#[h,uB _,f]
 |p::d,c,xs,g,a,i,j,e,hk,h,f=>by
  obtain _ | ⟨q,c⟩:=c
  .cases e
  rw[vB,vB,R6] at e;erw[vB,oA] at i j;let(v,r,rfl,g1,g2):=i
  cases j with
  |cons l m =>
   have n:=hk q OF
   have:=c8 (a:=(yE a.1 p.1,aE a.1 a.2 p.1 p.2)) (xs:=storedH xs q.1 q.2.1 q.2.2) g2 m e.2 (λx f=>hk x (QD _ f)) (by rw[<- e.1];exact xf h l g1) (M4 f n)
   refine#[this.1,dD this.2.1 ?_,this.2.2]
   have:=N4 (xs:=xs) (k:=q.1) (b:=q.2.1) (v:=q.2.2)
   rw[KC]
   lia
def tNa(hh:X.A.handled=eA)(rm:YB 2 X.A)(I:gA X cA B H s)(sub:WA G H){a:iA}{g:List V}{i:List D}{b:List (MB×D)}(v:EB X.K H a g)(y:oA X.K G i g)(e:zL i=aA b){Q:jA->CA->Prop}
  (h:∀p xs f j,H p=eA->(p==sysModules)=dA->(xs.map (·.1)).Nodup->xs.length<=sizeLine->(∀x∈xs,gC X.K G x.1 x.2.1)->XJ X.K G (aAw b ([],[])).1 (aAw b ([],[])).2 xs->gA X cA B (GA H p (.ext (cC p xs f))) j->Q (.ref p) j):sA (~~~X) X.A (call (.type "dict") [.ref a]) Q X.xe s:=by
 obtain⟨C,l,⟨o,n,F,m,q,r⟩,z⟩:=I.list v;let(Z,J,t,M,N,O,P):=Wc I sub y l e;let(c,R,U,sl):=o;simp only at m q r;subst m q r;have u:J.length<=sizeLine:=by rw[<- t.length,<- l.length];exact z
 have ap:=c8 (a:=([],[])) (xs:=[]) M N O P #[rfl,[],.nil,oA.nil] λ_ z=>nomatch z
 refine Oq (by have:=rm.un;lia) F t hh u λh' Y k d=>?_
 let(f,w):=cC.ok d;exact h _ _ f _ (I.LA.fresh (uB _)) (lM.mpr (rD (AD I.big))) (Jd d) (dD ap.2.1 (↑u)) ap.2.2 ap.1 (I.laid (t':=Y) k (uB _) (w _))
def jBa{f:Int->Int->Int}{d e:D}{v:RV}(h:mm f d e=aA v):∃i j,d=.int i/\e=.int j/\v=.sh (.int (f i j)):=by
 induction d using D.casesOn with
 |int i =>
  induction e using D.casesOn with
  |int j=>exact#[i,j,rfl,rfl,(ED h).symm]
  |_=>exact(lB h).elim
 |_=>exact(lB h).elim
def Ep(Z:X.K=K)(N:X.calm=bA)(hh:X.A.handled=eA)(rm:YB 2 X.A)(f:BI):DE X (zX f) (Af K f):=by
 intro cA s B H R w Q I r h;let(G,F):=h;let(g,v,sub,n,e,k):fC:=F
 subst Z
 induction f using BI.casesOn with
 |len =>
  obtain _ | ⟨d,_ | ⟨_,_⟩⟩:=g
  .exact(lB e).elim
  .induction d using D.casesOn with
   |l =>
    change aA _=_ at e;cases e;let(x,rfl,b):=JF n;let(a,o,rfl,c,l):=b.l sub;exact S8 cA s B H _ w Q I r #[a,o,rfl,.inl c,by rw[l.len];exact k _ _ aAo]
   |t =>
    change aA _=_ at e;cases e;let(x,rfl,b):=JF n;let(a,o,rfl,c,l):=b.t sub;exact S8 cA s B H _ w Q I r #[a,o,rfl,.inr c,by rw[l.len];exact k _ _ aAo]
   |aB =>
    change aA _=_ at e;cases e;let(x,rfl,b):=JF n;obtain⟨a,O,rfl,c,⟨l,_⟩,_⟩:=b.aB sub;let(u,rfl,J):=aAv r;cases J;refine xNa I c λt U M=>#[.int (O.length:Int),H,M,#[t,rfl], ?_]
    rw[show O.length=_ from(pA _).symm.trans (congrArg GG l)];exact k _ _ aAo
   |str x =>
    change @ite _ (x.length<=1000000) (cl _) _ eA=_ at e;split at e
    .rename_i hz;cases e;let(x,rfl,b):=JF n;let(rfl,_):=b.str;exact Uq cA s B H _ w Q I r #[_,rfl,dD hz (by decide),k _ _ aAo]
    .cases e
   |_=>exact(lB e).elim
  .exact(lB e).elim
 |abs =>
  obtain _ | ⟨d,_ | ⟨_,_⟩⟩:=g
  .exact(lB e).elim
  .cases d with
   |int =>
    change aA _=_ at e;cases e;let(x,rfl,b):=JF n;cases b.int;exact Mq cA s B H _ w Q I r #[_,rfl,k _ _ aAo]
   |_=>exact(lB e).elim
  .exact(lB e).elim
 |int =>
  obtain _ | ⟨d,_ | ⟨_,_⟩⟩:=g
  .exact(lB e).elim
  .induction d using D.casesOn with
   |int =>
    change aA _=_ at e;cases e;let(x,rfl,b):=JF n;cases b.int;exact Q8 cA s B H _ w Q I r (.inl #[_,rfl,k _ _ aAo])
   |bl =>
    change aA _=_ at e;cases e;let(x,rfl,b):=JF n;cases b.bl;exact Q8 cA s B H _ w Q I r (.inr #[_,rfl,k _ _ aAo])
   |_=>exact(lB e).elim
  .exact(lB e).elim
 |list =>
  obtain _ | ⟨d,_ | ⟨_,_⟩⟩:=g
  .exact(lB e).elim
  .induction d using D.casesOn with
   |l =>
    change aA _=_ at e;cases e;let(x,rfl,b):=JF n;let(a,o,rfl,c,l):=b.l sub;exact T8 cA s B H _ w Q I r #[a,o,rfl,.inl c,λp C=>k _ _ (.inr (.inl #[_,_,p,rfl,C,l,rfl,rfl]))]
   |t =>
    change aA _=_ at e;cases e;let(x,rfl,b):=JF n;let(a,o,rfl,c,l):=b.t sub;exact T8 cA s B H _ w Q I r #[a,o,rfl,.inr c,λp C=>k _ _ (.inr (.inl #[_,_,p,rfl,C,l,rfl,rfl]))]
   |aB =>
    change aA _=_ at e;cases e;let(x,rfl,b):=JF n;obtain⟨a,O,rfl,c,⟨l,_⟩,h4⟩:=b.aB sub;let(u,rfl,J):=aAv r;cases J;exact wNa hh I c λp U C M=>#[.ref p,_,M,rfl,k _ _ (.inr (.inl #[_,_,p,rfl,C,l ▸ Pf h4,rfl,rfl]))]
   |_=>exact(lB e).elim
  .exact(lB e).elim
 |dict =>
  obtain _ | ⟨d,_ | ⟨_,_⟩⟩:=g
  .exact(lB e).elim
  .induction d using D.casesOn with
   |l g =>
    change xT g=_ at e;let(ps,P,e):=wH.mp e;cases e;let(x,rfl,b):=JF n;let(a,o,rfl,c,l):=b.l sub;let(u,rfl,J):=aAv r;cases J
    exact tNa hh rm I sub c l P λp R ep U C sm nd hl hk hq M=>#[.ref p,_,M,rfl,k _ _ (.inr (.inr (.inr #[_,p,_,rfl,C,rfl,rfl,λG' Y hg=>by
     let(g1,ws,g2,g3):=hq;erw[nA]
     exact#[p,R,ws,rfl,#[ep,hg],#[nd,hl,sm,λx n=>gC.mono Y (hk x n),g1,g2],oA.mono Y _ g3]])))]
   |_=>exact(lB e).elim
  .exact(lB e).elim
 |tuple =>
  obtain _ | ⟨d,_ | ⟨_,_⟩⟩:=g
  .exact(lB e).elim
  .induction d using D.casesOn with
   |l =>
    change aA _=_ at e;cases e;let(x,rfl,b):=JF n;let(a,o,rfl,c,l):=b.l sub;exact U8 cA s B H _ w Q I r #[a,o,rfl,.inl #[c,λp C=>k _ _ (Z1 #[_,_,p,rfl,C,l,rfl,rfl])]]
   |t =>
    change aA _=_ at e;cases e;let(x,rfl,b):=JF n;have z:=b;let(a,o,rfl,c,l):=b.t sub;refine U8 cA s B H _ w Q I r #[a,o,rfl,.inr #[c, ?_]];rcases z with z | ⟨_,_,z⟩
    .exact k _ _ (.inl #[_,rfl,z,rfl])
    .exact z.elim
   |_=>exact(lB e).elim
  .exact(lB e).elim
 |max =>
  obtain _ | ⟨d,_ | ⟨d2,_ | ⟨_,_⟩⟩⟩:=g
  .exact(lB e).elim
  .induction d using D.casesOn with
   |l g =>
    change (match oD g with | some (i::r)=>aA (RV.sh (.int (r.foldl (λm y=>if y > m then y else m) i))) | _=>eA)=_ at e;split at e
    .rename_i i r' q;cases e;let(x,rfl,b):=JF n;let(a,o,rfl,c,l):=b.l sub;exact Wq N cA s B H _ w Q I r #[a,o,g,i,r',G,rfl,c,l,q,k _ _ aAo]
    .cases e
   |_=>exact(lB e).elim
  .let(i,j,rfl,rfl,rfl):=jBa e;let(x,y,rfl,b,c):=uMa n;cases b.int;cases c.int;exact Vq N cA s B H _ w Q I r #[_,_,rfl,k _ _ aAo]
  .exact(lB e).elim
 |sum =>
  obtain _ | ⟨d,_ | ⟨_,_⟩⟩:=g
  .exact(lB e).elim
  .induction d using D.casesOn with
   |l g =>
    change (oD g).map _=_ at e
    cases q:oD g with
    |none=>rw[q] at e;cases e
    |some ns =>
     rw[q] at e;cases e;let(x,rfl,b):=JF n;let(a,o,rfl,c,l):=b.l sub;exact Yq N cA s B H _ w Q I r #[a,o,g,ns,G,rfl,c,l,q,k _ _ aAo]
   |_=>exact(lB e).elim
  .exact(lB e).elim
 |all =>
  obtain _ | ⟨d,_ | ⟨_,_⟩⟩:=g
  .exact(lB e).elim
  .induction d using D.casesOn with
   |l g =>
    change (xI g).map _=_ at e
    cases q:xI g with
    |none=>rw[q] at e;cases e
    |some bs =>
     rw[q] at e;cases e;let(x,rfl,b):=JF n;let(a,o,rfl,c,l):=b.l sub;exact Nq hh cA s B H _ w Q I r #[a,o,g,bs,G,rfl,c,l,q,k _ _ tAa]
   |_=>exact(lB e).elim
  .exact(lB e).elim
def Xq(l:X.calm=bA):DE X (.type "set") (λj H Q=>∃a d f is G,j=[.ref a]/\EB X.K H a d/\oA X.K G f d/\oD f=aA is/\is.length<=1000/\∀p S,H p=eA->Q (.ref p) (GA H p (.set S (firstMet (λi=>is.getD i 0) is.length).length))):=by
 intro cA s B H j F Q I r h;let(a,d,f,is,G,rfl,m,n,t,v,q):=h;let(u,rfl,w):=aAv r;cases w;let(g,x,y,z):KA:=UO I m
 have k:=uU n x t;have c:g.toArray.size=is.length:=by rw[aD];exact k.length
 refine call_set_list (I.ok.hd l) y k (by rw[c];exact Nat.lt_of_le_of_lt (Nat.add_le_add_right v 1) (by decide)) λJ A hS hk=>?_
 rw[c] at hS;exact#[.ref s⁻¹,_,I.laid (o:=.set (λC=>(firstMet (λi=>is.getD i 0) is.length).any (· == C)) (firstMet (λi=>is.getD i 0) is.length).length) (t':=A) (λb o e=>hk b o (VB e) e) (uB _) hS,rfl,q _ _ (I.LA.fresh (uB _))]
def Tq:DE X (.builtin "len") (λc H Q=>∃p S n,c=[.ref p]/\H p=aA (.set S n)/\Q (.int n) H):=by
 intro cA s B H c l Q I r h;let(p,S,n,rfl,e,q):=h;let(u,rfl,f):=aAv r;cases f;let(o,d,m,a):BB:=I.LA p _ e
 let(t,g,hex,hd,_,b):zD:=a;let(_,i,j,k):oB:=b;obtain rfl:=k
 refine call_len_set g hex hd j (by have:d.size<4096:=i;lia) #[.int d.size,H,I.tok _,#[_,rfl],q]
noncomputable def zV:Ty->V
 |.int=>.ty "int"
 |.bool=>.ty "bool"
 |.str=>.ty "str"
 |.list=>.ty "list"
 |.tuple=>.ty "tuple"
 |.dict=>.ty "dict"
 |.cls _=>.ty "dict"
 |.TR=>.ty "ValueError"
theorem OB.zC(sub:WA G H)(h:OB K H G (.zC c n) x):∃a C p,x=.ref a/\CB K cB c=aA (aA (.ref C))/\EE K C/\H a=aA (.ext (BH a C p))/\jL K H C p n:=by
 rcases h with h | ⟨a,rfl,h⟩
 .erw[nA] at h;let(a,C,j):gD:=h;let(p,e,h1,h2,h3,m):zD:=j
  exact#[a,C,p,e,h1,h2,sub _ _ h3,m.mono sub]
 .exact h.elim
def tyW(t:Ty):jA:=match zV t with
 |.ty x=>.type x
 |_=>.none
def Vy(F:X.K=K)(t:Ty):DE X (.builtin "isinstance") (λA H Q=>∃G d x b,WA G H/\A=[x,zV t]/\OB K H G d x/\r0 t d=aA b/\Q (.bl b) H):=by
 intro cA s B H A M Q I r h;let(G,d,x,b,sub,rfl,c,e,q):=h;subst F;let(u,w,rfl,f,k):=aAH r;have fin:∀l,EP X cA B Q (.bool b) { s with toks:=l }:=λl=>#[.bl b,H,I.tok l,rfl,q]
 obtain rfl:w=tyW t:=by cases t<;>exact k
 cases d<;>first
   | (cases c.lA;cases (show u=Value.none from f);refine cM PySem.W.kitx_none I.vD True.intro ?_ nofun fin)
   | (cases c.bl;cases (show u=Value.bool _ from f);refine cM PySem.W.kitx_bool I.vD True.intro ?_ nofun fin)
   | (cases c.int;let(_,m):=(show ∃t,u=Value.int _ t from f);cases m;refine cM PySem.W.kitx_int I.vD True.intro ?_ nofun fin)
   | (let(rfl,_):=c.str;let(_,m):=(show ∃t,u=Value.str _ t from f);cases m;refine cM PySem.W.kitx_str I.vD True.intro ?_ nofun fin)
   | (let(a,J,rfl,i,j):=c.l sub;cases (show u=Value.ref a from f);obtain⟨v,_,⟨o,n,g,y,_⟩,_⟩:=I.list i;refine cM PySem.W.kitx_list I.vD #[o,g,y] ?_ nofun fin)
   | (let(a,J,rfl,i,j):=c.t sub;cases (show u=Value.ref a from f);obtain⟨v,_,⟨o,g,y,_⟩,_⟩:=I.tuple i;refine cM PySem.W.kitx_tuple I.vD #[o,g,y] ?_ nofun fin)
   | (let(a,C,p,rfl,i,j,g,_):=c.zC sub;cases (show u=Value.ref a from f);cases t<;>cases e;exact cM (N1 j) I.vD (I.LA a _ g).1 (U_ j) nofun fin)
   |skip
 all_goals (cases t<;>first | exact e | cases e)
end
section
variable{X:Cx}{cA:List (iA×kB)}{B:L2.St}{H:Hp}{s:CA}{h':DB}
def qy(I:gA X cA B H s)(k:∀b u,b≠e->b≠it->s.heap.get? b=aA u->h'.get? b=aA u)(d:kD X cA H e)(f:kD X cA H it)(l:s⁻¹<=p)
  (new:lD X.prog X.w (GA H p o) h' p o):gA X cA B (GA H p o) { s with heap:=h',toks:=t' }:=by
 have i:H p=eA:=I.LA.fresh l;have ne:∀{b:iA} {u:HO},H b=aA u->b≠e/\b≠it:=λq=>#[IE q d.1,IE q f.1]
 have g:∀{b:iA},b ∉ [e,it]->b≠e/\b≠it:=λa=>#[λz=>a (by simp[z]),λz=>a (by simp[z])]
 refine I.step (g':=s.gens) (d':=s.drawn) (ch:=[e,it]) (λb h=>?_) (λb o _ _ a q _=>k b o (g a).1 (g a).2 q) (λb o _ _ a q _=>#[o.slots,k b o (g a).1 (g a).2 q])
  (λb o _ q n=>by rw[jB (AD (ME (VB q) l))];exact n)
  (λb o a q=>#[o,k b o (g a).1 (g a).2 q]) (λb x q=>by rw[jB (IE q i)];exact q) (λb o u q=>by rw[jB (IE q i)];exact q) (λb F q=>#[[].toArray,by rw[jB (IE q i),q];simp]) (λm t=>?_) (λb u q=>?_) I.bare
 .have h:b=e\/b=it:=↑h
  rcases h with rfl | rfl
  .exact#[d.2.2.2.1,d.2.1,d.2.2.2.2.1,d.2.2.2.2.2]
  .exact#[f.2.2.2.1,f.2.1,f.2.2.2.2.1,f.2.2.2.2.2]
 .let(o,y,A,C,r):kI:=t;exact#[o,y,A,k _ o (rD d.2.1) (rD f.2.1) C,r]
 .by_cases h:b=p
  .subst h;rw[jC] at q;cases q;exact new
  .rw[jB h] at q;refine(I.LA b u q).AE (λc v a z=>?_) (λc q=>by rw[jB (IE q i)];exact q) λc x q=>by rw[jB (IE q i)];exact q
   have j:c≠e/\c≠it:=by
    rcases a with w | w
    .rw[w];exact ne q
    .exact ne w
   exact k c v j.1 j.2 z
def xy(I:gA X cA B H s)(k:∀b u,b≠e->b≠it->s.heap.get? b=aA u->h'.get? b=aA u)(d:kD X cA H e)(f:kD X cA H it):gA X cA B H { s with heap:=h',toks:=t' }:=by
 have ne:∀{b:iA} {u:HO},H b=aA u->b≠e/\b≠it:=λq=>#[IE q d.1,IE q f.1]
 have g:∀{b:iA},b ∉ [e,it]->b≠e/\b≠it:=λa=>#[λz=>a (by simp[z]),λz=>a (by simp[z])]
 refine I.step (g':=s.gens) (d':=s.drawn) (ch:=[e,it]) (λb i=>?_) (λb o _ _ a q _=>k b o (g a).1 (g a).2 q) (λb o _ _ a q _=>#[o.slots,k b o (g a).1 (g a).2 q])
  (λ_ _ _ _ n=>n) (λb o a q=>#[o,k b o (g a).1 (g a).2 q]) (λ_ _ q=>q) (λ_ _ _ q=>q) (λb x q=>#[[].toArray,by rw[q];simp]) (λm j=>?_) (λb u q=>?_) I.bare
 .have i:b=e\/b=it:=↑i
  rcases i with rfl | rfl
  .exact#[d.2.2.2.1,d.2.1,d.2.2.2.2.1,d.2.2.2.2.2]
  .exact#[f.2.2.2.1,f.2.1,f.2.2.2.2.1,f.2.2.2.2.2]
 .let(o,l,p,t,r):kI:=j;exact#[o,l,p,k _ o (rD d.2.1) (rD f.2.1) t,r]
 .refine(I.LA b u q).AE (λc v a z=>?_) (λ_ q=>q) λ_ _ q=>q
  have h:c≠e/\c≠it:=by
   rcases a with w | w
   .rw[w];exact ne q
   .exact ne w
  exact k c v h.1 h.2 z
end
section
variable{prog:KD}{w:cD}{A:KG}{E:jA->CA->Prop}{s:CA}
def Ms{Q:jA->CA->Prop}(C:cJ s.heap e it c old)(Z:s.heap.IsListIter it l i)(q3:s.heap.IsList l us)(q4:us[i]?=aA u)(ne:e≠it)
  (k:∀g,IsEnumOut g e it (c+1) u s⁻¹->g.IsListIter it l (i+1)->g.get? s⁻¹=aA { cls:=.type "tuple",data:=.seq [.int c s.toks,u].toArray }->(∀b o,b≠e->b≠it->s.heap.get? b=aA o->g.get? b=aA o)->Q (.ref s⁻¹) { s with heap:=g,toks:=s.toks+1 }) :
  sA (model prog w) A (aJ.«enumerate.__next__» #[[.ref e],[]]) (λfin s'=>∃v,fin=.done (.ret v)/\Q v s') E s:=by
 let(d,ge,dr,F,os):=s;refine tA (m:=field (.ref e) 2) (NH C rfl (x:=.ref it) rfl (tA (wpAny_nextOf_list_item Z q3 q4 λH t1 f=>?_)));have f:yH it d H:=f;have I:cJ H e it c old:=(f.2 e ne).trans C;refine tA (m:=field (.ref e) 3) (NH I rfl (x:=rawInt c) rfl (tA (m:=field (.ref e) 4) (NH I rfl (x:=.none) rfl (tA (m:=mkInt c) (B7 ?_)))));refine tA (m:=setField (.ref e) 3 (rawInt (c+1))) (eS I (by simp) λJ K h=>?_);have h:yH e H J:=h;have K:cJ J e it (c+1) old:=K;refine tA (m:=setField (.ref e) 4 .none) (eS K (by simp) λp M j=>?_);have j:yH e J p:=j;have M:cJ p e it (c+1) old:=M;refine tA (m:=newTuple [.int c F,u]) (wpAny_newTuple ?_);have Y:p.objs.size=d.objs.size:=by rw[j.1,h.1,f.1]
 have lt:e<d.objs.size:=VB C;obtain⟨a,n⟩:∃a,p.push { cls:=.type "tuple",data:=.seq [.int c F,u].toArray }=a:=#[_,rfl]
 have N:cJ a e it (c+1) old:=n ▸ aC _ M;have p4:a.get? d.objs.size=aA { cls:=.type "tuple",data:=.seq [.int c F,u].toArray }:=n ▸ Y ▸ MD _ rfl;have k4:∀b o,b≠e->b≠it->d.get? b=aA o->a.get? b=aA o:=λb o x y q=>n ▸ aC _ (j.extBut b o x (h.extBut b o x (f.extBut b o y q)))
 have t4:a.IsListIter it l (i+1):=by
  let(o,ho,r):rA:=(t1.extBut h.extBut ne.symm).extBut j.extBut ne.symm
  exact#[o,n ▸ aC _ ho,r]
 rw[Y,n];refine tA (m:=kj (.ref e)) ?_;unfold kj;refine tA (NH N rfl (x:=.none) rfl (ZA ?_));erw[if_true];refine tA (yW (tA (NH N rfl (x:=old) rfl (tA (eS N (by simp) λO P t=>?_)))));have t:yH e a O:=t;have P:cJ O e it (c+1) u:=P;refine tA (m:=ij (.ref e) (.ref d.objs.size)) ?_;unfold ij;refine tA (eS P (by simp) λR U z=>?_);have z:yH e O R:=z;have U:IsEnumOut R e it (c+1) u d.objs.size:=U;refine eS U (by simp) λX e7 B=>?_
 have B:yH e R X:=B;have st:∀b o,b≠e->a.get? b=aA o->X.get? b=aA o:=λb o x q=>B.extBut b o x (z.extBut b o x (t.extBut b o x q))
 refine tA (wpAny_letGo (ZA #[_,rfl,k X e7 ?_ (st _ _ (yS lt) p4) λb o x y q=>st b o x (k4 b o x y q)]));exact((t4.extBut t.extBut ne.symm).extBut z.extBut ne.symm).extBut B.extBut ne.symm
def Qs(f:cJ s.heap e it c old)(h:s.heap.IsListIter it l i)(j:s.heap.IsList l m)(n:m[i]?=aA u)(ne:e≠it)
  (k:∀g,IsEnumOut g e it (c+1) u s⁻¹->g.IsListIter it l (i+1)->g.get? s⁻¹=aA { cls:=.type "tuple",data:=.seq [.int c s.toks,u].toArray }->(∀b o,b≠e->b≠it->s.heap.get? b=aA o->g.get? b=aA o)->Q (aA (.ref s⁻¹)) { s with heap:=g,toks:=s.toks+1 }) :
  sA (model prog w) A (pyNext (.ref e)) Q E s :=
 have ty:s.TypeIs (.ref e) "enumerate":=#[_,f,rfl]
 tA (nW (ZO (name:=AA "__next__") ty QV (pP QV ty Ej (Ms f h j n ne λg a b c d=>ZA (k g a b c d)) (Bj _))))
def Ss(hh:A.handled=eA)(a:cJ s.heap e it c old)(f:s.heap.IsListIter it l i)(h:s.heap.IsList l j)(n:j[i]?=eA)
  (k:∀g,Heap.ExtBut it s.heap g->Q eA { s with heap:=g }):sA (model prog w) A (pyNext (.ref e)) Q E s:=by
 have ty:s.TypeIs (.ref e) "enumerate":=#[_,a,rfl]
 refine tA (nW (ZO (name:=AA "__next__") ty QV (pP QV ty Ej ?_ (Bj _))));refine tA (m:=field (.ref e) 2) (NH a rfl (x:=.ref it) rfl (tA (wpAny_nextOf_list_end hh f h n λg x ex d=>?_)));let(o,p,q):rA:=d;exact tA (O6 (T:="StopIteration") (b:=bA) #[o,p,q] isSubtype_stop (ZA (k _ ex)))
end
def Ls(l:iA)(f:Array jA)(n:Nat)(e:Option iA)(sl:Array (Option jA))(c:Int)(t:Tok)(k:oj c=bA) :
  Meets (aJ.«enumerate.__new__» #[[.type "enumerate",.ref l],[("start",.int c t)]]) (λ_ R s=>s.heap.get? l=aA { cls:=.type "list",dict:=e,data:=.seq f n,slots:=sl } /\
   R (.ok (.ret (.ref (s.heap.push { cls:=.type "list_iterator",data:=.fields [.ref l,.int 0 0].toArray }).objs.size)))
    { s with heap:=(s.heap.push { cls:=.type "list_iterator",data:=.fields [.ref l,.int 0 0].toArray }).push { cls:=.type "enumerate",data:=.fields [.none,.bool dA,.ref s⁻¹,rawInt c,.none,.none].toArray } }) :=
 .of_wp λprog w A R s h=>by
  let(i,g,d,j,os):=s;let(b,h):=h;have m:=sub_enumerate;have a:Heap.IsList (Shared.heap #[i,g,d,j,os]) l f:=#[_,b,rfl,n,rfl]
  wp_walk using MV b
  refine wpAny_stack_any λst=>ZA ?_
  split
  .rename_i v _ _ _ _ _;cases (v==Value.type "enumerate")
   .wp_walk using MV b,jP a
    exact#[_,rfl,h]
   .wp_walk using MV b,jP a
    exact#[_,rfl,h]
  .wp_walk using MV b,jP a
   exact#[_,rfl,h]
def Hs(a:jA)(c:Int)(t:Tok):checkTypeCall "enumerate" #[[a],[("start",.int c t)]]=pure ():=by kernel_rfl
def Js(a:jA)(c:Int)(t:Tok):checkBuiltinCall "enumerate.__new__" #[[.type "enumerate",a],[("start",.int c t)]]=pure ():=by kernel_rfl
def Ks:Meets (aJ.«object.__init__» #[[a,b],f]) (λ_ R s=>s.TypeIs a "enumerate"/\R (.ok (.ret .none)) s):=by
 refine Meets.of_wp λprog w A R s c=>?_
 let(ty,d):=c;have g:typeLookup (.type "enumerate") "__init__"=pure (aA (.builtin "object.__init__")):=x6.init.lookup;have h:=x6.made;have e:(aA "enumerate.__new__" != aA "object.__new__")=bA:=by decide
 repeat (any_goals (first | assumption | wp_step))
 exact#[_,rfl,d]
def Gs(a b:jA)(c:Int)(t:Tok):argsOk "object.__init__" #[[a,b],[("start",.int c t)]]:=by
 unfold argsOk;rw[signature?_of (id:="object.__init__") (n:="__init__".toList.reverse) (o:="object".toList.reverse) (by kernel_rfl) F.owner_object]
 kernel_rfl
section
variable{prog:KD}{w:cD}{A:KG}{E:jA->CA->Prop}{s:CA}
def Ts(I:oj c=bA)(q:s.heap.IsList l u)
  (k:∀g,cJ g (s⁻¹+1) s⁻¹ c .none->g.IsListIter s⁻¹ l 0->(∀b o,s.heap.get? b=aA o->g.get? b=aA o)->Q (.ref (s⁻¹+1)) { s with heap:=g }) :
  sA (model prog w) A (call (.type "enumerate") [.ref l] [("start",.int c t)]) Q E s:=by
 have a:=x6;let(R,U,v):gD:=a.mro
 have j:=a.made;have y:=a.sub;obtain⟨⟨cl,m,J,sl⟩,K,d,n,hd⟩:=q;have d:cl=.type "list":=d;have hd:J=.seq u n:=hd;subst d hd;refine CP (codeAny_of_tree ?_);change sA _ _ (callAny (.type "enumerate") _) _ _ _;refine ZA #[Ck _ (by left),gW F.entry_type_call ?_];rw[Around.under_plain (weight_type_call_type "enumerate" _ _) (units_type_call_type "enumerate" _ _)];have X:=a.notType;have Y:=a.canCreate;have Z:=Hs (.ref l) c t
 repeat (any_goals (first | assumption | wp_step))
 refine iM (TV a.plain F.entry_enumerate_new (wpAny_of_eq (Js (.ref l) c t) (Ls l u n m sl c t I prog w A.in1 (wants (λobj h=>h.TypeIs obj "enumerate"/\Q obj h) E) s #[K, ?_]))) λr h i=>?_
 .have z:(s.heap.push { cls:=.type "list_iterator",data:=.fields [.ref l,.int 0 0].toArray }).objs.size=s⁻¹+1:=jW ..;change _/\_;rw[z]
  have B:cJ ((s.heap.push { cls:=.type "list_iterator",data:=.fields [.ref l,.int 0 0].toArray }).push { cls:=.type "enumerate",data:=.fields [.none,.bool dA,.ref s⁻¹,rawInt c,.none,.none].toArray }) (s⁻¹+1) s⁻¹ c .none:=by
   have x:=MD (s.heap.push { cls:=.type "list_iterator",data:=.fields [.ref l,.int 0 0].toArray }) (o:={ cls:=.type "enumerate",data:=.fields [.none,.bool dA,.ref s⁻¹,rawInt c,.none,.none].toArray }) rfl
   rwa[z] at x
  exact#[#[_,B,rfl],k _ B #[_,aC _ (MD _ rfl),rfl,rfl] λb o x=>aC _ (aC _ x)]
 .cases r with
  |error e=>exact i
  |ok M =>
   cases M with
   |ret obj =>
    have C:h.TypeIs obj "enumerate":=i.1;have N:=a.init.lookup;have O:=a.init.bind obj
    repeat (any_goals (first | assumption | wp_step))
    refine iM (TV a.init.plain F.entry_object_init (a.init.check _ _ _ _ _ _ _ _ C (Gs obj (.ref l) c t) (Ks prog w A.in1 (wants (λr H=>r=.none/\Q obj H) E) h #[C,rfl,i.2]))) λP H f=>?_
    cases P with
    |error e=>exact f
    |ok p =>
     cases p with
     |ret r =>
      let(rfl,hq):=f
      repeat (any_goals (first | assumption | wp_step))
     |_=>exact f.elim
   |_=>exact i.elim
end
noncomputable def GW(K:kA)(a:iA)(lo:Int):It :=
 #[λi H=>∃b x,EB K H a b/\b[i]?=aA x,λi H x c=>∃p y,H p=eA/\x=.ref p/\c=GA H p (.t [.int (lo+(i:Int)),y])/\∀b,EB K H a b->b[i]?=aA y,λi H=>∃b,EB K H a b/\b.length<=i]
def ji{K:kA}(a e it:iA)(lo:Int)(n:e≠it):Turn P w K (.Tuple elts k0 pos) (GW K a lo) [e,it] e (λi h=>(∃old,cJ h e it (lo+(i:Int)) old)/\h.IsListIter it a i) where
 mem:=by simp
 obj:=λi h st b g=>by
  obtain⟨⟨old,F⟩,o,j,c,d⟩:=st;have g:b=e\/b=it:=↑g
  rcases g with rfl | rfl
  .exact#[_,F,λv z=>by
    have z':Data.fields _=Data.cell v:=z
    cases z']
  .exact#[o,j,λv z=>by rw[d] at z;cases z]
 keep:=λi h h' st k=>by(obtain⟨⟨old,F⟩,j⟩:=st;exact#[#[old,k e (by simp) _ F],j.at λo q=>k it (by simp) o q])
 item:=by
  intro X J M N hc i cA s B H E I r st t;subst J M N;let(xs,x,C,O):FA:=t;let(Q,R,p,hz):KA:=I.list C
  let(u,hu,ru):rA:=R.get O
  obtain⟨⟨old,m⟩,hit⟩:=st;have fe:=r e (by simp);have fi:=r it (by simp);refine Qs m hit p.isList (↑hu) n λh' ho y hT hk=>?_
  refine#[_,rfl,wpAny_letOwnedTupleGo_enum ho λj U l=>?_];have f:e<s⁻¹:=VB m;have A:it<s⁻¹:=by let(_,q,_):rA:=hit;exact VB q
  have ke:∀b u,b≠e->b≠it->s.heap.get? b=aA u->j.get? b=aA u:=λb u n1 Y q=>(l.2 b n1).trans (hk b u n1 Y q)
  have Z:j.get? s⁻¹=aA { cls:=.type "tuple",data:=.seq [.int (lo+(i:Int)) s.toks,u].toArray }:=(l.2 _ (yS f)).trans hT;have ax:H s⁻¹=eA:=I.LA.fresh (uB _);have I2:gA X cA B (GA H s⁻¹ (.t [.int (lo+(i:Int)),x])) { s with heap:=j,toks:=s.toks+1 }:=qy I ke fe fi (uB _) #[by rw[kM];simp,[.int (lo+(i:Int)) s.toks,u],.cons #[_,rfl] (.cons ru .nil),#[_,Z,rfl,_,rfl]];refine#[.ref s⁻¹,GA H s⁻¹ (.t [.int (lo+(i:Int)),x]),I2,rfl,#[s⁻¹,x,ax,rfl,rfl,λys hy=>by rw[I.md hy C];exact O],#[#[_,by rw[T6,Int.natCast_one,<- Int.add_assoc];exact U],y.at λo q=>(l.2 it n.symm).trans q],λb g=>?_]
  .have g:b=e\/b=it:=↑g
   rcases g with rfl | rfl
   .rw[jB (AD f)];exact fe.1
   .rw[jB (AD A)];exact fi.1
 done:=by
  intro X J M N hc i cA s B H E I r st t;subst J M N;let(xs,C,O):rA:=t;let(Q,R,p,hz):KA:=I.list C
  obtain⟨⟨old,m⟩,hit⟩:=st;have hl:=R.length;exact Ss (I.ok.hd hc) m hit p.isList (by simp;lia) λh' eb=>#[rfl,xy (t':=s.toks) I (λb o _ Y q=>eb b o Y q) (r e (by simp)) (r it (by simp))]
 self:=λ_ _ _ _ _ st h=>by(obtain⟨⟨old,m⟩,_⟩:=st;exact K6 m h)
section
variable{X:Cx}
def MZ(K:kA)(lo:Int)(c:TA):TI:=λB H R=>c B H λd b=>∃a,d=[.ref a]/\(∃e,EB K b a e)/\R (GW K a lo) b
def z8:KJ "enumerate"=aA (.type "enumerate"):=by left
def Te{i:TA}(m:Gl X "enumerate")(n:X.mg "enumerate"=eA)(o:PA X [a] i)(t:WB [a] X.env=[(dA,eval a X.env)]:=by rfl):PI X (.Tuple elts k0 cSa) (.Call (.Name "enumerate" p) [a] [] pos) (MZ X.K 0 i):=by
 intro cA s B H R I h;refine Call_ (YM I m n z8 (FV (UA (o pos cA s B H _ I h) λF c f=>?_) t rfl));let(J,j,d,u,v):pB:=f;obtain⟨l,e,⟨M,w⟩,q⟩:=v;subst e
 cases u with
 |cons r x =>
  cases x;cases r;let(y,N,p,f):KA:=d.list w
  refine call_enumerate_list p.isList λz k hit A hk=>?_
  have C:gA X cA B j { c with heap:=z }:=d.kept (t':=c.toks) hk;refine K6 k ?_;refine#[c⁻¹+1,[c⁻¹+1,c⁻¹],_,_,j,rfl,C,ji l _ _ 0 (el _),#[#[_,by simpa using k],hit],λb g=>?_,q];have g:b=c⁻¹+1\/b=c⁻¹:=↑g
  rcases g with rfl | rfl
  .exact d.vL (HS _) (d.LA.fresh (HS _))
  .exact d.vL (uB _) (d.LA.fresh (uB _))
def zIa{j:Nat}(x:Gl X "enumerate")(y:X.mg "enumerate"=eA)(z:PA X [a] A)(o:WB [a] X.env=[(dA,eval a X.env)]:=by rfl) :
  PI X (.Tuple elts k0 cSa) (.Call (.Name "enumerate" p) [a] [#[aA "start",.Constant (.int 1) j kq,kp]] pos) (MZ X.K 1 A):=by
 intro cA s B H R I h;refine WL (YM I x y z8 ?_);refine PySem.W.callWith_of (P:=λ_=>True) (by rw[o];rfl) (λ_ _=>#[.machine,.inr (.inl rfl),PySem.W.Looks.now]) (evalArgs_kw2 rfl (UA (z pos cA s B H _ I h) λus C k=>?_) o);let(vs,u,F,J,M):pB:=k;obtain⟨l,e,⟨xs,N⟩,q⟩:=M;subst e
 cases J with
 |cons r O =>
  cases O;cases r;refine UA (fJa (nm:=aA "start") (kpos:=kp) (Je (i:=1) (pos:=kq)) gJa pos cA C B u (λv g=>v=[.int 1]/\g=u) F #[rfl,rfl]) λws d #[v,g,f,m,Q,U]=>#[trivial, ?_]
  subst Q U
  cases m with
  |cons m Y =>
   cases Y;let(t,rfl):=m;let(Z,rv,p,k):KA:=f.list N
   refine Ts (c:=1) (by decide) p.isList λh' w hit hk=>?_
   have I3:gA X cA B g { d with heap:=h' }:=f.kept (t':=d.toks) hk;refine K6 w ?_;refine#[d⁻¹+1,[d⁻¹+1,d⁻¹],_,_,g,rfl,I3,ji l _ _ 1 (el _),#[#[_,by simpa using w],hit],λb n=>?_,q];have n:b=d⁻¹+1\/b=d⁻¹:=↑n
   rcases n with rfl | rfl
   .exact f.vL (HS _) (f.LA.fresh (HS _))
   .exact f.vL (uB _) (f.LA.fresh (uB _))
end
section
variable{K:kA}{U U1:Env}{B:St}{H G H' G':Hp}{own DK new new':iA->Prop}
def pH{l:List Z}(h:(l.set i a)[j]?=aA b):(j=i/\b=a/\i<l.length)\/(j≠i/\l[j]?=aA b):=by
 by_cases c:j=i
 .subst c;by_cases d:j<l.length
  .rw[NF d] at h;exact .inl #[rfl,(ED h).symm,d]
  .rw[dJ (by rw[eE];lia)] at h;cases h
 .rw[QC (λz=>c z.symm)] at h;exact .inr #[c,h]
def HA.unset(r:HA K U B H G)(i:Nat):HA K (U.set i .un) B H G:=by
 refine#[by rw[eE];exact r.len,r.sub,λj d h=>?_,λj d p l h=>?_,λj k d p l x y C a h1 h2 h3 u=>?_]
 .rcases pH h with ⟨_,z,_⟩ | ⟨_,z⟩
  .cases z
  .exact r.sh j d z
 .rcases pH h with ⟨_,z,_⟩ | ⟨_,z⟩
  .cases z
  .exact r.ow j d p l z
 .rcases pH h1 with ⟨_,z,_⟩ | ⟨_,z⟩
  .cases z
  .rcases pH h2 with ⟨_,m,_⟩ | ⟨_,m⟩
   .cases m
   .exact r.inj _ _ _ _ _ _ _ _ _ z m h3 u
def yA.unset{i:Nat}{a:iA}(h:yA (U.set i .un) B a):yA U B a:=by
 let(j,d,p,l,h1,h2):uF:=h;rcases pH h1 with ⟨_,z,_⟩ | ⟨_,z⟩
 .cases z
 .exact#[j,d,p,l,z,h2]
def HA.YO(r:HA K U B H G){d:D}(h:U[i]?=aA (.ow d p l))(hx:B[i]?=aA (aA (.ref a))):¬yA (U.set i .un) B a:=by
 rintro⟨j,m,u,x,h1,h2⟩
 rcases pH h1 with ⟨_,z,_⟩ | ⟨ne,z⟩
 .cases z
 .exact ne (r.inj _ _ _ _ _ _ _ _ _ z h h2 hx)
def HA.grow(r:HA K U B H G)(j:H a=aA ob)(g:G a=eA)(no:¬yA U B a):HA K U B H (GA G a ob):=by
 refine#[r.len,λb u e=>?_,λi d e=>?_,λi d p l e=>?_,r.inj]
 .by_cases hb:b=a
  .subst hb;rw[jC] at e;rw[j];exact e
  .rw[jB hb] at e;exact r.sub b u e
 .let(v,h1,h2):rA:=r.sh i d e
  exact#[v,h1,nA.mono (Sm.put g) d h2]
 .let(b,h1,h2,h3):KA:=r.ow i d p l e
  have hb:b≠a:=λz=>by subst z;exact no #[i,d,p,l,e,h1]
  exact#[b,h1,by rw[jB hb];exact h2,h3.mono (Sm.put g) λ_ z=>z]
def HA.QO(r:HA K (U.set i .un) B H G){d:D}{v:V}(hx:B[i]?=aA (aA v))(x:nA K G d v):HA K (U.set i (.sh d)) B H G:=by
 have key:∀(j:Nat) (sl:Sl),(U.set i (.sh d))[j]?=aA sl->(j=i/\sl=.sh d)\/(U.set i .un)[j]?=aA sl:=λj sl h=>by
  rcases pH h with ⟨e,z,_⟩ | ⟨ne,z⟩
  .exact .inl #[e,z]
  .exact .inr (by rw[QC (λq=>ne q.symm)];exact z)
 refine#[by have:=r.len;rw[eE] at this ⊢;exact this,r.sub,λj m h=>?_,λj m p l h=>?_,λj k C p l F I J a h1 h2 h3 y=>?_]
 .rcases key j _ h with ⟨rfl,z⟩ | z
  .cases z;exact#[v,hx,x]
  .exact r.sh j m z
 .rcases key j _ h with ⟨rfl,z⟩ | z
  .cases z
  .exact r.ow j m p l z
 .rcases key j _ h1 with ⟨rfl,z⟩ | z
  .cases z
  .rcases key k _ h2 with ⟨rfl,u⟩ | u
   .cases u
   .exact r.inj _ _ _ _ _ _ _ _ _ z u h3 y
def HA.jN(r:HA K (U.set i .un) B H G){d:D}{a:iA}(hx:B[i]?=aA (aA (.ref a)))(g:G a=eA)(ho:qG K H G a d)(no:¬yA (U.set i .un) B a):HA K (U.set i (.ow d p l)) B H G:=by
 have key:∀(j:Nat) (sl:Sl),(U.set i (.ow d p l))[j]?=aA sl->(j=i/\sl=.ow d p l)\/(U.set i .un)[j]?=aA sl:=λj sl h=>by
  rcases pH h with ⟨e,z,_⟩ | ⟨ne,z⟩
  .exact .inl #[e,z]
  .exact .inr (by rw[QC (λq=>ne q.symm)];exact z)
 refine#[by have:=r.len;rw[eE] at this ⊢;exact this,r.sub,λj x h=>?_,λj x y C h=>?_,λj k F I l1 J M l2 b h1 h2 h3 u=>?_]
 .rcases key j _ h with ⟨rfl,z⟩ | z
  .cases z
  .exact r.sh j x z
 .rcases key j _ h with ⟨rfl,z⟩ | z
  .cases z;exact#[a,hx,g,ho]
  .exact r.ow j x y C z
 .rcases key j _ h1 with ⟨rfl,z⟩ | z
  .rcases key k _ h2 with ⟨rfl,m⟩ | m
   .rfl
   .rw[hx] at h3;cases h3;exact absurd #[k,_,_,_,m,u] no
  .rcases key k _ h2 with ⟨rfl,m⟩ | m
   .rw[hx] at u;cases u;exact absurd #[j,_,_,_,z,h3] no
   .exact r.inj _ _ _ _ _ _ _ _ _ z m h3 u
def yA.QO{i:Nat}{a:iA}(h:yA (U.set i (.sh d)) B a):yA (U.set i .un) B a:=by
 let(j,m,p,l,h1,h2):uF:=h;rcases pH h1 with ⟨_,z,_⟩ | ⟨ne,z⟩
 .cases z
 .exact#[j,m,p,l,by rw[QC (λq=>ne q.symm)];exact z,h2]
def yA.jN{d:D}(hx:B[i]?=aA (aA (.ref b)))(h:yA (U.set i (.ow d p l)) B a):a=b\/yA (U.set i .un) B a:=by
 let(j,m,r,u,h1,h2):uF:=h;rcases pH h1 with ⟨rfl,z,_⟩ | ⟨ne,z⟩
 .rw[hx] at h2;cases h2;exact .inl rfl
 .exact .inr #[j,m,r,u,by rw[QC (λq=>ne q.symm)];exact z,h2]
def FE.grow(r:FE K H G own new B h x)(s:WA G j)(k:∀a d,h=.val (.ow d)->x=.ref a->j a=eA)(w:∀a,DK a->own a):FE K H j DK new B h x:=by
 induction h using Hd.casesOn with
 |slot i=>exact r
 |val v =>
  induction v using RV.casesOn with
  |sh d=>exact nA.mono s d r
  |ow d =>
   let(a,rfl,g,o,n,m):=r;exact#[a,rfl,k a d rfl rfl,o.mono s λ_ z=>z,λz=>n (w a z),m]
  |od d=>exact r.elim
theorem OD.QL:∀{j:List Hd} {xs:List V} {a:iA},OD K H G own new B j xs->rG j xs a->¬own a/\new a/\H a≠eA/\G a=eA
 |[],_,_,h,t=>by cases (show _=[] from h);exact t.elim
 |h::j,_,a,r,t=>by
  let(x,u,rfl,h1,h2,h3):=r;have tl:rG j u a->¬own a/\new a/\H a≠eA/\G a=eA:=λt=>OD.QL h2 t
  induction h using Hd.casesOn with
  |slot i=>exact tl t
  |val v =>
   induction v using RV.casesOn with
   |sh d=>exact tl t
   |ow d =>
    rcases t with rfl | t
    .let(b,e,g,o,n,m):zD:=h1;cases e;let(C,y):=o.there;exact#[n,m,by rw[y];simp,g]
    .exact tl t
   |od d=>exact h1.elim
theorem OD.grow:∀{j:List Hd} {xs:List V},OD K H G own new B j xs->∀{m:Hp},WA G m->(∀a,rG j xs a->m a=eA)->(∀a,DK a->own a)->OD K H m DK new B j xs
 |[],_,h,_,_,_,_=>h
 |h::j,_,r,m,s,k,w=>by
  let(x,u,rfl,h1,h2,h3):=r;refine#[x,u,rfl,h1.grow s (λa d y C=>k a (by subst y;exact .inl C)) w,OD.grow h2 s (λa t=>k a ?_) w,h3]
  induction h using Hd.casesOn with
  |slot i=>exact t
  |val v =>
   induction v using RV.casesOn with
   |sh d=>exact t
   |ow d=>exact .inr t
   |od d=>exact h1.elim
def HA.nil(s:WA G H):HA K [] [] H G:=#[rfl,s,λi d h=>by simp at h,λi d p l h=>by simp at h,λi j d p l m r u a h=>by simp at h]
def HA.nQ(r:HA K as τ H G)(h:nA K G d x):HA K (.sh d::as) (aA x :: τ) H G:=by
 refine#[by simp[r.len],r.sub,λi m e=>?_,λi m p l e=>?_,λi j u p l y C F a h1 h2 h3 I=>?_]
 .cases i with
  |zero=>simp at e;subst e;exact#[x,rfl,h]
  |succ i=>simpa using r.sh i m (↑e)
 .cases i with
  |zero=>simp at e
  |succ i=>simpa using r.ow i m p l (↑e)
 .cases i with
  |zero=>simp at h1
  |succ i =>
   cases j with
   |zero=>simp at h2
   |succ j=>exact congrArg (·+1) (r.inj i j u p l y C F a (↑h1) (↑h2) (↑h3) (↑I))
def HA.g9(r:HA K as τ H G)(g:G a=eA)(o:qG K H G a d)(n:¬yA as τ a):HA K (.ow d p l::as) (aA (.ref a) :: τ) H G:=by
 refine#[by simp[r.len],r.sub,λi u e=>?_,λi u p l e=>?_,λi j x y l1 C F I b h1 h2 h3 m=>?_]
 .cases i with
  |zero=>simp at e
  |succ i=>simpa using r.sh i u (↑e)
 .cases i with
  |zero =>
   erw[vH,rC,Sl.ow.injEq] at e;let(rfl,_,_):=e;exact#[a,rfl,g,o]
  |succ i=>simpa using r.ow i u p l (↑e)
 .cases i with
  |zero =>
   erw[vH,rC,V.ref.injEq] at h3;subst h3
   cases j with
   |zero=>rfl
   |succ j=>exact absurd #[j,C,F,I,by simpa using h2,by simpa using m] n
  |succ i =>
   cases j with
   |zero =>
    erw[vH,rC,V.ref.injEq] at m;subst m;exact absurd #[i,x,y,l1,by simpa using h1,by simpa using h3] n
   |succ j=>exact congrArg (·+1) (r.inj i j x y l1 C F I b (↑h1) (↑h2) (↑h3) (↑m))
def yA.cons{as:List Sl}{τ:St}{sl:Sl}{v:Option V}{a:iA}(h:yA (sl::as) (v :: τ) a):(∃d p l,sl=.ow d p l/\v=aA (.ref a))\/yA as τ a:=by
 let(i,d,p,l,h1,h2):uF:=h
 cases i with
 |zero=>exact .inl #[d,p,l,by simpa using h1,by simpa using h2]
 |succ i=>exact .inr #[i,d,p,l,by simpa using h1,by simpa using h2]
structure cm(K:kA)(U:Env)(B:St)(H G:Hp)(hs:List Hd)(xs:List V)(as:List Sl)(U1:Env)(G2:Hp):Prop where
 gg:WA G G2
 gn:∀a,G2 a≠eA->G a≠eA\/yA U B a\/rG hs xs a
 ra:HA K as (xs.map aA) H G2
 rc:HA K U1 B H G2
 ao:∀a,yA as (xs.map aA) a->yA U B a\/rG hs xs a
 an:∀a,yA as (xs.map aA) a->¬yA U1 B a
 ro:∀a,yA U1 B a->yA U B a
section
variable{p:Bool}{ps:List Bool}{hs:List Hd}{d:D}{U:Env}{i:Nat}
theorem gAa:aAk (p::ps) (.val (.sh d)::hs) U=(aAk ps hs U).map λ(as,a)=>(.sh d::as,a):=rfl
theorem fAa:aAk (p::ps) (.val (.ow d)::hs) U=(aAk ps hs U).map λ(as,a)=>((if p then .ow d bA dA else .sh d)::as,a):=rfl
theorem cR:aAk (p::ps) (.slot i::hs) U=(match U[i]? with
  |some (.sh d)=>(aAk ps hs U).map λ(as,a)=>(.sh d::as,a)
  |some (.ow d b c) =>
   match p with
   |true=>(aAk ps hs (U.set i .un)).map λ(as,a)=>(.ow d bA c::as,a)
   |false=>if b||c then eA else(aAk ps hs (U.set i (.sh d))).map λ(as,a)=>(.sh d::as,a)
  |_=>eA):=rfl
end
def map_cons{o:Option (List Sl×Env)}{s:Sl}{as:List Sl}{U1:Env}(e:(o.map λ(as,b)=>(s::as,b))=aA (as,U1)):∃a,o=aA (a,U1)/\as=s::a:=by
 cases o with
 |none=>cases e
 |some y=>cases e;exact#[_,rfl,rfl]
theorem AL:∀(s:List Hd) (cA:List Bool) (U:Env) (G:Hp) (M:List V) (as:List Sl) (U1:Env),HA K U B H G->OD K H G (yA U B) new B s M->aAk cA s U=aA (as,U1) ->
  ∃f,cm K U B H G s M as U1 f:=by
 intro s
 induction s with
 |nil =>
  intro cA U G M as U1 r h e;cases (show M=[] from h)
  induction cA using bC with
  |cons p A=>cases e
  |nil =>
   replace e:aA ([],U)=aA (as,U1):=e;erw[rC,cF] at e;let(rfl,rfl):=e;exact#[G,WA.refl _,λa z=>.inl z,HA.nil r.sub,r,λa #[i,d,p,l,z,_]=>by simp at z,λa #[i,d,p,l,z,_]=>by simp at z,λ_ z=>z]
 |cons x0 s AL =>
  intro cA U G M as U1 r h e
  induction x0 using Hd.casesOn with
  |val rv =>
   induction rv using RV.casesOn with
   |sh d =>
    let(x,j,rfl,t,k,Q):=h
    induction cA using bC with
    |nil=>cases e
    |cons p A =>
     rw[gAa] at e;let(c,q,F):rA:=map_cons e
     obtain rfl:=F;let(f,L):=AL A U G j c U1 r k q;refine#[f,L.gg,L.gn,L.ra.nQ (nA.mono L.gg d t),L.rc,λa z=>?_,λa z=>?_,L.ro]
     .rcases z.cons with ⟨_,_,_,z,_⟩ | z
      .cases z
      .exact L.ao a z
     .rcases z.cons with ⟨_,_,_,z,_⟩ | z
      .cases z
      .exact L.an a z
   |ow d =>
    let(x,j,rfl,t,k,Q):=h;let(b,rfl,g,o,n,m):=t;have I:¬rG s j b:=Q d b rfl rfl
    induction cA using bC with
    |nil=>cases e
    |cons p A =>
     rw[fAa] at e;let(c,q,F):rA:=map_cons e
     obtain rfl:=F
     induction p using ES with
     |true =>
      let(f,L):=AL A U G j c U1 r k q
      have g2:f b=eA:=by
       cases w:f b with
       |none=>rfl
       |some o' =>
        rcases L.gn b (by rw[w];simp) with z | z | z
        .exact absurd g z
        .exact absurd z n
        .exact absurd z I
      have nb:¬yA c (j.map aA) b:=λz=>by
       rcases L.ao b z with z | z
       .exact n z
       .exact I z
      refine#[f,L.gg,λa z=>?_,L.ra.g9 g2 (o.mono L.gg λ_ z=>z) nb,L.rc,λa z=>?_,λa z=>?_,L.ro]
      .rcases L.gn a z with z | z | z
       .exact .inl z
       .exact .inr (.inl z)
       .exact .inr (.inr (.inr z))
      .rcases z.cons with ⟨_,_,_,_,z⟩ | z
       .cases z;exact .inr (.inl rfl)
       .rcases L.ao a z with z | z
        .exact .inl z
        .exact .inr (.inr z)
      .rcases z.cons with ⟨_,_,_,_,z⟩ | z
       .cases z;exact λw=>n (L.ro _ w)
       .exact L.an a z
     |false =>
      let(J,R,X):rA:=o.put
      have Y:∀a,rG s j a->(GA G b J) a=eA:=λa z=>by
       have C:a≠b:=λw=>by subst w;exact I z
       rw[jB C];exact(k.QL z).2.2.2
      let(f,L):=AL A U (GA G b J) j c U1 (r.grow R g n) (k.grow (WA.put g) Y λ_ z=>z) q;refine#[f,(WA.put g).trans L.gg,λa z=>?_,L.ra.nQ ?_,L.rc,λa z=>?_,λa z=>?_,L.ro]
      .by_cases C:a=b
       .subst C;exact .inr (.inr (.inl rfl))
       .rcases L.gn a z with z | z | z
        .rw[jB C] at z;exact .inl z
        .exact .inr (.inl z)
        .exact .inr (.inr (.inr z))
      .exact X _ (Sm.of ((WA.put g).trans L.gg)) (L.gg _ _ jC)
      .rcases z.cons with ⟨_,_,_,z,_⟩ | z
       .simp at z
       .rcases L.ao a z with z | z
        .exact .inl z
        .exact .inr (.inr z)
      .rcases z.cons with ⟨_,_,_,z,_⟩ | z
       .simp at z
       .exact L.an a z
   |od=>induction cA using bC<;>cases e
  |slot i =>
   let(x,j,rfl,t,k,Q):=h;have t:B[i]?=aA (aA x):=t
   induction cA using bC with
   |nil=>cases e
   |cons p A =>
    rw[cR] at e;split at e
    .rename_i d hd;let(c,q,F):rA:=map_cons e
     obtain rfl:=F;let(f,L):=AL A U G j c U1 r k q;let(v,N,h5):rA:=r.sh i d hd
     rw[t] at N;cases N;refine#[f,L.gg,L.gn,L.ra.nQ (nA.mono L.gg d h5),L.rc,λa z=>?_,λa z=>?_,L.ro]
     .rcases z.cons with ⟨_,_,_,z,_⟩ | z
      .cases z
      .exact L.ao a z
     .rcases z.cons with ⟨_,_,_,z,_⟩ | z
      .cases z
      .exact L.an a z
    .rename_i d O Z hd;let(b,N,g,o):KA:=r.ow i d O Z hd
     rw[t] at N;cases N;have u:yA U B b:=#[i,d,O,Z,hd,t]
     have I:¬rG s j b:=λz=>(k.QL z).1 u
     have P:¬yA (U.set i .un) B b:=r.YO hd t
     induction p using ES with
     |true =>
      simp only at e;let(c,q,F):rA:=map_cons e
      obtain rfl:=F;let(f,L):=AL A (U.set i .un) G j c U1 (r.unset i) (k.grow (WA.refl _) (λa z=>(k.QL z).2.2.2) λa z=>z.unset) q
      have g2:f b=eA:=by
       cases w:f b with
       |none=>rfl
       |some o' =>
        rcases L.gn b (by rw[w];simp) with z | z | z
        .exact absurd g z
        .exact absurd z P
        .exact absurd z I
      have nb:¬yA c (j.map aA) b:=λz=>by
       rcases L.ao b z with z | z
       .exact P z
       .exact I z
      refine#[f,L.gg,λa z=>?_,L.ra.g9 g2 (o.mono L.gg λ_ z=>z) nb,L.rc,λa z=>?_,λa z=>?_,λa z=>(L.ro a z).unset]
      .rcases L.gn a z with z | z | z
       .exact .inl z
       .exact .inr (.inl z.unset)
       .exact .inr (.inr z)
      .rcases z.cons with ⟨_,_,_,_,z⟩ | z
       .cases z;exact .inl u
       .rcases L.ao a z with z | z
        .exact .inl z.unset
        .exact .inr z
      .rcases z.cons with ⟨_,_,_,_,z⟩ | z
       .cases z;exact λw=>P (L.ro _ w)
       .exact L.an a z
     |false =>
      simp only at e;split at e
      .cases e
      .cases q:aAk A s (U.set i (.sh d)) with
       |none=>rw[q] at e;cases e
       |some y =>
        let(c,U'):=y;rw[q] at e;erw[vF,rC,cF] at e;let(rfl,rfl):=e;let(J,R,X):rA:=o.put
        have Y:∀a,rG s j a->(GA G b J) a=eA:=λa z=>by
         have C:a≠b:=λw=>by subst w;exact I z
         rw[jB C];exact(k.QL z).2.2.2
        have rb:∀f,WA (GA G b J) f->nA K f d (.ref b):=λf s2=>X _ (Sm.of ((WA.put g).trans s2)) (s2 _ _ jC)
        let(f,L):=AL A (U.set i (.sh d)) (GA G b J) j c U' (((r.unset i).grow R g P).QO t (rb _ (WA.refl _)))
         (k.grow (WA.put g) Y λa z=>z.QO.unset) q
        refine#[f,(WA.put g).trans L.gg,λa z=>?_,L.ra.nQ (rb f L.gg),L.rc,λa z=>?_,λa z=>?_,λa z=>(L.ro a z).QO.unset]
        .by_cases C:a=b
         .subst C;exact .inr (.inl u)
         .rcases L.gn a z with z | z | z
          .rw[jB C] at z;exact .inl z
          .exact .inr (.inl z.QO.unset)
          .exact .inr (.inr z)
        .rcases z.cons with ⟨_,_,_,z,_⟩ | z
         .cases z
         .rcases L.ao a z with z | z
          .exact .inl z.QO.unset
          .exact .inr z
        .rcases z.cons with ⟨_,_,_,z,_⟩ | z
         .cases z
         .exact L.an a z
    .cases e
end
section
variable{K:kA}
def HA.keep(r:HA K U B H G)(e:Ext own H G j m)(n:∀a,yA U B a->¬own a)(s:WA m j):HA K U B j m:=by
 refine#[r.len,s,λi d h=>?_,λi d p l h=>?_,r.inj]
 .let(v,h1,h2):rA:=r.sh i d h
  exact#[v,h1,nA.mono e.gg d h2]
 .let(a,h1,g,o):KA:=r.ow i d p l h
  have u:=n a #[i,d,p,l,h,h1];let(F,x):=o.there;exact#[a,h1,e.gn a (by rw[x];simp) g u,o.mono e.gg λy C=>e.hh a y C u]
def HA.tail(r:HA K (a::as) (v :: τ) H G):HA K as τ H G:=by
 refine#[by have:=r.len;simpa using this,r.sub,λi d h=>?_,λi d p l h=>?_,λi j d p l m u x b h1 h2 h3 y=>?_]
 .simpa using r.sh (i+1) d (↑h)
 .simpa using r.ow (i+1) d p l (↑h)
 .have:=r.inj (i+1) (j+1) d p l m u x b (↑h1) (↑h2) (↑h3) (↑y)
  lia
def yA.tail(h:yA as τ b):yA (a::as) (v :: τ) b:=by
 let(i,d,p,l,h1,h2):uF:=h;exact#[i+1,d,p,l,by simpa using h1,by simpa using h2]
def la{i:Nat}{f:List Bool}{g:List Hd}{a:Sl}{as:List Sl}{c U h:Env}(e:aAg (bA::f) (.slot i::g) (a::as) c U=aA h) :
  (∃k b j d m n,c[i]?=aA (.ow k b j)/\a=.ow d m n/\aAg f g as c (U.set i (.ow d b j))=aA h)\/(∀d p l,c[i]?≠aA (.ow d p l))/\aAg f g as c U=aA h:=by
 replace e:(match (generalizing:=false) c[i]?,a with
  |some (.ow _ b j),.ow d _ _=>aAg f g as c (U.set i (.ow d b j))
  |some (.ow _ _ _),_=>eA
  |_,_=>aAg f g as c U)=aA h:=e
 generalize c[i]?=o at e ⊢
 induction o using oG with
 |none=>exact .inr #[λ_ _ _ z=>(nomatch z),e]
 |some s=>cases s with
  |ow k b j=>cases a with
   |ow d m n=>exact .inl #[_,_,_,_,_,_,rfl,rfl,e]
   |_=>exact nomatch (show(eA:Option Env)=aA h from e)
  |_=>exact .inr #[λ_ _ _ z=>(nomatch z),e]
theorem YT:∀(m:List Hd) (cA:List Bool) (as:List Sl) (s:List V) (U f:Env),HA K as (s.map aA) H G->HA K U B H G->(∀a,yA as (s.map aA) a->¬yA U B a)->OD K H0 G0 own new B m s ->
  aAg cA m as y U=aA f->HA K f B H G/\∀a,yA f B a->yA U B a\/yA y B a:=by
 intro m
 induction m with
 |nil =>
  intro cA as s U f t r n h e
  induction cA using bC with
  |nil =>
   induction as using bC with
   |nil =>
    cases e;exact#[r,λ_ z=>.inl z]
   |cons a as=>cases e
  |cons p u=>cases p<;>cases as<;>cases e
 |cons h m YT =>
  intro cA as s U f t r n hh e;let(x,J,rfl,q,M,h3):=hh
  induction cA using bC with
  |nil=>cases e
  |cons p u =>
   induction as using bC with
   |nil=>cases p<;>cases h<;>cases e
   |cons a k =>
    have skip:aAg u m k y U=aA f->HA K f B H G/\∀a,yA f B a->yA U B a\/yA y B a:=λO =>
     YT u k J U f t.tail r (λb z=>n b z.tail) M O
    induction p using ES with
    |false=>cases h<;>exact skip e
    |true =>
     induction h using Hd.casesOn with
     |val v=>exact skip e
     |slot i =>
      have q:B[i]?=aA (aA x):=q;rcases la e with ⟨_,l,A,d,C,F,P,rfl,I⟩ | ⟨_,I⟩
      .replace e:=I;let(b,N,g,o):KA:=t.ow 0 d C F rfl
       erw[vB,vH,rC] at N;subst N;have nb:¬yA U B b:=n b #[0,d,C,F,rfl,rfl];have Q:HA K (U.set i (.ow d l A)) B H G:=(r.unset i).jN q g o λz=>nb z.unset
       let(R,X):=YT u k J (U.set i (.ow d l A)) f t.tail Q (λc z w=>by
        rcases w.jN q with rfl | w
        .let(j,Y,Z,l2,z1,z2):uF:=z
         have:=t.inj 0 (j+1) d C F Y Z l2 c rfl (↑z1) rfl (↑z2)
         lia
        .exact n c z.tail w.unset) M e
       refine#[R,λc z=>?_];rcases X c z with z | z
       .rcases z.jN q with rfl | z
        .exact .inr #[i,_,l,A,P,q]
        .exact .inl z.unset
       .exact .inr z
      .exact skip I
def iJ(cA:List Bool)(a:List Hd)(i:Nat):Prop:=∃j:Nat,cA[j]?=aA bA/\a[j]?=aA (.slot i)
def iJ.cons{p:Bool}{m:List Bool}{h:Hd}{r:List Hd}{i:Nat}(l:iJ m r i):iJ (p::m) (h::r) i:=by
 let(j,h1,h2):rA:=l;exact#[j+1,by simpa using h1,by simpa using h2]
theorem Q1:∀(a:List Hd) (cA:List Bool) (U:Env) (as:List Sl) (c:Env),aAk cA a U=aA (as,c)->∀i:Nat,AF U[i]? c[i]?\/(iJ cA a i/\∃d p l,U[i]?=aA (.ow d p l)):=by
 intro a
 induction a with
 |nil =>
  intro cA U as c e i;cases cA<;>cases e;exact .inl (AF.refl _)
 |cons h a Q1 =>
  intro cA U as c e i
  induction cA using bC with
  |nil=>cases h with
   |slot i=>cases e
   |val v=>cases v<;>cases e
  |cons p f =>
   have fin:∀{b:Env} {g:Sl},(aAk f a b).map (λ(as,b)=>(g::as,b))=aA (as,c)->AF b[i]? c[i]?\/(iJ f a i/\∃d p l,b[i]?=aA (.ow d p l)):=by
    intro b g e
    cases q:aAk f a b with
    |none=>rw[q] at e;cases e
    |some y =>
     let(k,r):=y;rw[q] at e;erw[vF,rC,cF] at e;let(_,rfl):=e;exact Q1 f b k r q i
   have same:∀{g:Sl},(aAk f a U).map (λ(as,b)=>(g::as,b))=aA (as,c)->AF U[i]? c[i]?\/(iJ (p::f) (h::a) i/\∃d p l,U[i]?=aA (.ow d p l)):=by
    intro g e;rcases fin e with z | ⟨z,w⟩
    .exact .inl z
    .exact .inr #[z.cons,w]
   induction h using Hd.casesOn with
   |val v=>cases v<;>first | exact same e | cases e
   |slot i0 =>
    rw[cR] at e;split at e
    .exact same e
    .rename_i d m s hd
     induction p using ES with
     |true =>
      simp only at e;by_cases n:i=i0
      .subst n;exact .inr #[#[0,rfl,rfl],d,m,s,hd]
      .have:=fin e
       rw[QC (λz=>n z.symm)] at this;rcases this with z | ⟨z,w⟩
       .exact .inl z
       .exact .inr #[z.cons,w]
     |false =>
      simp only at e;split at e
      .cases e
      .rename_i o;erw[fJ,not_or,kS] at o;have j:fE U (U.set i0 (.sh d)):=fE.set (by rw[hd];exact o.1);rcases fin e with z | ⟨z,B,t,u,w⟩
       .exact .inl ((j i).trans z)
       .have:=j i
        rw[w] at this;let(x,A):=this.me;exact .inr #[z.cons,x,t,u,A]
    .cases e
theorem XT:∀(k:List Hd) (cA:List Bool) (as:List Sl) (U g:Env),aAg cA k as m U=aA g->∀i:Nat,(g[i]?=U[i]?\/∃d q p l,m[i]?=aA (.ow d p l)/\g[i]?=aA (.ow q p l)) /\
  (iJ cA k i->(∃d p l,m[i]?=aA (.ow d p l))->i<U.length->∃d q p l,m[i]?=aA (.ow d p l)/\g[i]?=aA (.ow q p l)):=by
 intro k
 induction k with
 |nil =>
  intro cA as U g e i
  induction cA using bC with
  |nil =>
   induction as using bC with
   |nil =>
    cases e;exact#[.inl rfl,fun#[j,h,_]=>by simp at h]
   |cons a as=>cases e
  |cons p r=>cases p<;>cases as<;>cases e
 |cons h k XT =>
  intro cA as U g e i
  induction cA using bC with
  |nil=>cases e
  |cons p r =>
   induction as using bC with
   |nil=>cases p<;>cases h<;>cases e
   |cons a s =>
    have c:¬(p=bA/\h=.slot i)->iJ (p::r) (h::k) i->iJ r k i:=λn u=>by
     let(j,b,t):rA:=u
     cases j with
     |zero =>
      erw[vH,rC] at b t;exact absurd #[b,t] n
     |succ j=>exact#[j,by simpa using b,by simpa using t]
    have skip:¬(p=bA/\h=.slot i)\/¬(∃d p l,m[i]?=aA (.ow d p l))->aAg r k s m U=aA g->(g[i]?=U[i]?\/∃d q p l,m[i]?=aA (.ow d p l)/\g[i]?=aA (.ow q p l)) /\
      (iJ (p::r) (h::k) i->(∃d p l,m[i]?=aA (.ow d p l))->i<U.length->∃d q p l,m[i]?=aA (.ow d p l)/\g[i]?=aA (.ow q p l)):=λn B=>by
     let(b,t):=XT r s U g B i;refine#[b,λl o=>?_];rcases n with n | n
     .exact t (c n l) o
     .exact absurd o n
    induction p using ES with
    |false=>cases h<;>exact skip (.inl (by simp)) e
    |true =>
     induction h using Hd.casesOn with
     |val v=>exact skip (.inl (by simp)) e
     |slot i0 =>
      rcases la e with ⟨F,C,H,d,I,J,A,rfl,x⟩ | ⟨y,x⟩
      .replace e:=x;let(b,t):=XT r s _ g e i;by_cases f:i=i0
       .subst f;refine#[?_,λl o w=>?_]
        .rcases b with b | b
         .by_cases w:i<U.length
          .rw[NF w] at b;exact .inr #[_,_,_,_,A,b]
          .exact .inl (by rw[b,dJ (by rw[eE];lia),dJ (by lia)])
         .exact .inr b
        .rcases b with b | b
         .rw[NF w] at b;exact#[_,_,_,_,A,b]
         .exact b
       .rw[QC (λz=>f z.symm)] at b;refine#[b,λl o w=>t (c (λz=>f (by have:=z.2;simp at this;exact this.symm)) l) o (by rw[eE];exact w)]
      .refine skip ?_ x;by_cases f:i=i0
       .subst f;refine .inr λu=>?_
        let(d,p,l,z):BB:=u;exact y d p l z
       .exact .inl λz=>f (by have:=z.2;simp at this;exact this.symm)
def pQ(a:DA K U0 B R G0 U H G)(h:OD K H G (yA U B) (UC R) B r A)(e:HC cA f r U=some (.ok v,s)) :
  ∃as F j,HA K as (A.map aA) H F/\as.length=cA.length/\f as=some (.ok v,j)/\(WA G F/\∀c,yA as (A.map aA) c->yA U B c\/rG r A c)/\∀x J M,DA K as (A.map aA) H F j J M->dC K J M (yA j (A.map aA)) (UC H) v x ->
   DA K U0 B R G0 s J M/\dC K J M (yA s B) (UC R) v x:=by
 unfold HC at e
 cases q:aAk cA r U with
 |none=>rw[q] at e;cases e
 |some y =>
  let(as,t):=y;rw[q] at e;simp only at e
  cases q2:f as with
  |none=>rw[q2] at e;cases e
  |some y =>
   let(o,j):=y;rw[q2] at e;simp only at e
   cases q3:aAg cA r j U t with
   |none=>rw[q3] at e;cases e
   |some X =>
    rw[q3] at e;erw[vF,rC,cF] at e;let(rfl,rfl):=e;let(F,L):=AL r cA U G A as t a.qA h q;refine#[as,F,j,L.ra, ?_,q2,#[L.gg,L.ao],λx J M b O=>?_]
    .have:∀(r:List Hd) (cA:List Bool) (U:Env) (as:List Sl) (t:Env),aAk cA r U=aA (as,t)->as.length=cA.length:=by
      intro r
      induction r with
      |nil =>
       intro cA U as t e;cases cA<;>cases e;rfl
      |cons h r P =>
       intro cA U as t e
       induction cA using bC with
       |nil=>cases h with
        |slot i=>cases e
        |val v=>cases v<;>cases e
       |cons p ps =>
        have fin:∀{o:Option (List Sl×Env)} {g:Sl},(o.map λ(as,s)=>(g::as,s))=aA (as,t)->(∀j s,o=aA (j,s)->j.length=ps.length)->as.length=(p::ps).length:=by
         intro o g e k
         induction o using oG with
         |none=>cases e
         |some y =>
          let(j,s):=y;erw[vF,rC,cF] at e;rw[<- e.1,KC,KC,k j s rfl]
        induction h using Hd.casesOn with
        |slot i =>
         rw[cR] at e;split at e
         .exact fin e λj s z=>P _ _ _ _ z
         .split at e
          .exact fin e λj s z=>P _ _ _ _ z
          .split at e
           .cases e
           .exact fin e λj s z=>P _ _ _ _ z
         .cases e
        |val v =>
         induction v using RV.casesOn with
         |sh d=>exact fin e λj s z=>P _ _ _ _ z
         |ow d=>exact fin e λj s z=>P _ _ _ _ z
         |od d=>cases e
     exact this r cA U as t q
    .have own_there:∀c,yA as (A.map aA) c->H c≠eA:=λc z=>(L.ra.owned z).1
     have rc:HA K t B J M:=L.rc.keep b.ext (λc z w=>L.an c w z) b.qA.sub;let(r3,r4):=YT r cA j A t X b.qA rc (λc z w=>L.an c (b.own c z) w) h q3
     have u:∀c,yA X B c->yA U B c:=λc z=>by
      rcases r4 c z with z | z
      .exact L.ro c z
      .exact z
     have C:∀c,yA as (A.map aA) c->yA U0 B c\/R c=eA:=λc z=>by
      rcases L.ao c z with z | z
      .exact .inl (a.own c z)
      .exact .inr (h.QL z).2.1
     have Q:fE U X:=λi=>by
      let(g1,g2):=XT r cA j t X q3 i;rcases Q1 r cA U as t q i with z | ⟨z,o⟩
      .rcases g1 with g1 | ⟨d,d',p,l,Y,Z⟩
       .rw[g1];exact z
       .rw[Y,Z];exact#[rfl,rfl]
      .have hl:i<t.length:=by
        refine BB o λd p l o=>?_
        rw[L.rc.len,<- a.qA.len];exact(LD.mp o).1
       let(d,d',p,l,Y,Z):uF:=g2 z o hl
       rw[Y,Z];exact#[rfl,rfl]
     refine#[#[r3,#[a.ext.gg.trans ((Sm.of L.gg).trans b.ext.gg),λc o I N=>?_,λc z=>a.ext.hx c (b.ext.hx c z),λc I gc N=>?_],a.sJ.trans Q], ?_]
     .refine b.ext.hh c o (a.ext.hh c o I N) λz=>?_
      rcases C c z with z | z
      .exact N z
      .rw[I] at z;cases z
     .have eU:H c≠eA:=λz=>I (a.ext.hx c z)
      have g1:G c=eA:=a.ext.gn c I gc N
      have g2:F c=eA:=by
       cases w:F c with
       |none=>rfl
       |some o =>
        rcases L.gn c (by rw[w];simp) with z | z | z
        .exact absurd g1 z
        .exact absurd (a.own c z) N
        .exact absurd (h.QL z).2.1 I
      refine b.ext.gn c eU g2 λz=>?_
      rcases C c z with z | z
      .exact N z
      .exact I z
     .induction v using RV.casesOn with
      |sh d=>exact O
      |ow d =>
       let(c,rfl,g,o,n,m):=O;exact#[c,rfl,g,o,λz=>(a.qA.owned (u c z)).1 m,a.ext.hx c m]
      |od d =>
       let(c,rfl,g,o,n,m,vs,O,hr):=O;exact#[c,rfl,g,o,λz=>(a.qA.owned (u c z)).1 m,a.ext.hx c m,vs,O,λx hx=>let #[b,ws,h1,h2,h3,h4,h5,h6]:=hr x hx;#[b,ws,h1,h2,h3,λz=>(a.qA.owned (u b z)).1 h5,a.ext.hx b h5,h6]]
def XU(x:Exc)(o:zA RV):zA RV :=
 match o with
 |some (Out.ex y,a)=>@ite _ (y=x) (cl _) (aA (Out.ok (.sh .lA),a)) eA
 |_=>eA
def vDa(h:XU x o=some (.ok v,a)):o=some (.ex x,a):=by
 unfold XU at h;split at h
 .split at h
  .rename_i b;cases h;rw[b]
  .cases h
 .cases h
def Cs(a:DA K p B l r U H G)(h:OD K H G (yA U B) (UC l) B i m)(e:HC cA f i U=some (.ex x,n)) :
  ∃as j c,HA K as (m.map aA) H j/\as.length=cA.length/\f as=some (.ex x,c)/\∀k d,DA K as (m.map aA) H j c k d->DA K p B l r n k d:=by
 have s:HC cA (λas=>XU x (f as)) i U=some (.ok (.sh .lA),n):=by
  unfold HC at e ⊢
  cases q:aAk cA i U with
  |none=>rw[q] at e;cases e
  |some y =>
   let(as,t):=y;rw[q] at e;simp only at e ⊢
   cases q2:f as with
   |none=>rw[q2] at e;cases e
   |some y =>
    let(o,c):=y;rw[q2] at e;simp only at e
    cases q3:aAg cA i c U t with
    |none=>rw[q3] at e;cases e
    |some C =>
     rw[q3] at e;erw[vF,rC,cF] at e;let(rfl,rfl):=e;have z:XU x (some (.ex x,c))=some (.ok (.sh .lA),c):=RA rfl;rw[z];erw[q3,vF]
 let(as,j,g):gD:=pQ a h s
 let(c,u,v,w,_,A):zD:=g
 exact#[as,j,c,u,v,vDa w,λk d b=>(A .lA k d b (by show nA K d .lA _;simp[nA])).1]
end
inductive GV where
 |no | c (d:D) | fn (f:String) | blt | cls (ns:List fA) | vE (tb:List (fA×String)) | sub (s n:List fA) | ID (s n:List fA) | exc | tJ | JA (cs:List fA) | obj (f:String) | YH (cs:List fA) | WT (ks:List fA) (vs:List Int) | FF (x:fA) (s:String) (cs:List fA)
set_option genCtorIdx true in
gen_injective_theorems% GV
structure CC where
 N:List fA
 names:List (fA×ZI)
 gl:fA->GV
 top:Bool
noncomputable def CC.LQ(Y:CC)(x:fA):Bool:=Y.names.lookup x==aA .globalImplicit
noncomputable def CC.ub(Y:CC)(x:fA):Bool:=Y.names.lookup x==aA .local||Y.names.lookup x==aA .cell||Y.names.lookup x==aA .free
noncomputable def SF(x:fA):Bool:=x==("__debug__":fA)||x==("__classdict__":fA)||x==("__name__":fA)
def CC.slot(Y:CC)(x:fA):Option Nat:=if SF x then eA else if Y.ub x then Y.N.idxOf? x else eA
def CC.glob(Y:CC)(x:fA):GV:=if SF x then .no else if Y.LQ x then Y.gl x else .no
def CM(Y:CC)(x:fA):E :=
 match Y.slot x with
 |some i=>.v i
 |none=>match Y.glob x with
  |.c d=>.c d
  |_=>.uA
noncomputable def nT:Const->E
 |.none=>.c .lA
 |.bool b=>.c (.bl b)
 |.int i=>.c (.int i)
 |.str s=>if DN s then .c (.str s) else .uA
 |_=>.uA
noncomputable def yX(f:fA):Option BI :=
 if f=("len":fA) then aA .len else if f=("abs":fA) then aA .abs else if f=("int":fA) then aA .int else if f=("list":fA) then aA .list
 else if f=("tuple":fA) then aA .tuple else if f=("max":fA) then aA .max else if f=("all":fA) then aA .all else if f=("dict":fA) then aA .dict else eA
def jT(f:fA):Option BI:=if f=("sum":fA) then aA .sum else yX f
def yC{p:Prop}(h:dA=bA):p:=nomatch h
noncomputable def aAp:xA->Option fA
 |.Name x _=>aA x
 |_=>eA
def kR(h:aAp e=aA x):∃p,e=.Name x p:=by
 induction e using TC<;>first | exact JE h | exact#[_,congrArg (λy=>Expr.Name y _) (ED h)]
def t5(Y:CC)(x:fA):Option Ty:=match Y.glob x with
 |.blt=>if x=("int":fA) then aA .int else if x=("bool":fA) then aA .bool else if x=("str":fA) then aA .str else if x=("list":fA) then aA .list else if x=("tuple":fA) then aA .tuple else if x=("ValueError":fA) then aA .TR else eA
 |_=>eA
def u5(Y:CC)(e:xA):Option Ty:=(aAp e).bind (t5 Y)
noncomputable def UU:E->E
 |.fI=>.uA
 |c=>c
noncomputable def aAd:xA->Bool
 |.Starred _ _=>dA
 |_=>bA
noncomputable def col(x:fA):fA:=#[[58].toArray++x.cps]
def CC.ZT(Y:CC)(x:fA):GV:=if SF x then .no else if Y.LQ x then Y.gl (col x) else .no
def P4(Y:CC):List xA->Option (List (List fA×List fA))
 |[]=>aA []
 |e::a=>(aAp e).bind λx=>match Y.ZT x with
  |.ID s n=>(P4 Y a).map ((s,n) :: ·)
  |_=>eA
noncomputable def cat(x:fA):fA:=#[[94].toArray++x.cps]
def CC.lO(Y:CC)(x:fA):GV:=if SF x then .no else if Y.LQ x then Y.gl (cat x) else .no
def MR(Y:CC)(x:fA)(a:E):E:=match Y.ZT x with
 |.sub s n=>.uA
 |.ID s n=>.tK a [(s,n)]
 |_=>.uA
def NR(Y:CC)(b:List xA)(a:E):E:=match P4 Y b with
 |some c=>if b.length<=100 then .tK a c else .uA
 |none=>.uA
def O4(Y:CC)(t:xA)(a:E):E:=match t with
 |.Name x _=>MR Y x a
 |.Tuple b _ _=>NR Y b a
 |_=>.uA
noncomputable def KR:List Z->Option Z
 |[]=>eA
 |a::r=>(match r with
  |[]=>aA a
  |_::_=>eA)
def D4(h:KR l=aA a):l=[a]:=by
 obtain _ | ⟨b,_ | ⟨_,_⟩⟩:=l<;>first | exact nomatch (show eA=aA a from h) | (cases (show aA b=aA a from h);rfl)
noncomputable def two:List Z->Option (Z×Z)
 |[]=>eA
 |a::r=>(match r with
  |[]=>eA
  |b::q=>(match q with
   |[]=>aA (a,b)
   |_::_=>eA))
def oSa(h:two l=aA p):l=[p.1,p.2]:=by
 obtain _ | ⟨a,_ | ⟨b,_ | ⟨_,_⟩⟩⟩:=l<;>first | exact nomatch (show eA=aA p from h) | (cases (show aA (a,b)=aA p from h);rfl)
def yU(Y:CC)(t:xA)(a:E):E:=match u5 Y t with | some ty=>.GI a [ty] | none=>O4 Y t a
def yL(Y:CC)(args:List xA)(a:List E):E:=match two args with
 |some p=>(match two a with | some q=>yU Y p.2 q.1 | none=>.uA)
 |none=>.uA
noncomputable def aA1:xA->Option Int
 |.Constant (.int a) _ _=>aA a
 |_=>eA
noncomputable def uT(a b:List E):E:=match a,b with
 |[c],[e]=>.oQ c e
 |_,_=>.uA
noncomputable def n9:E:=.uA
def o9(k v:xA)(a b:List E):E:=uT a b
def vT(b:List (Option xA))(a:List xA)(c d:List E):E:=match b with
 |[]=>(match a with | []=>n9 | _::_=>.uA)
 |k::r=>(match r with
  |_::_=>.uA
  |[]=>(match k with
   |none=>.uA
   |some k=>(match a with
    |[]=>.uA
    |v::r=>(match r with | _::_=>.uA | []=>o9 k v c d))))
noncomputable def Ly(Y:CC):Bool:=match Y.gl ("{}":fA) with
 |.blt=>bA
 |_=>dA
noncomputable def qQ(z:Bool)(a:List (Option xA))(b:List xA)(c:E):E:=match z,a,b with
 |true,[],[]=>.qL
 |_,_,_=>c
noncomputable def dot(m:fA):fA:=#[[46].toArray++m.cps]
noncomputable def FT(x:fA):fA:=#[[61].toArray++x.cps]
noncomputable def C5(Y:CC)(x m:fA)(mB a:GB):E:=.uA
noncomputable def si(Y:CC)(x m:fA)(mB b:GB)(a:xA):E:=.uA
noncomputable def ZX(a:List (Option xA))(b:List xA)(d:List E)(c:E):E:=c
def dQ(Y:CC)(x m:fA)(mB b:GB)(a:xA):E:=si Y x m mB b a
def cQ(Y:CC)(x m:fA)(mB b:GB)(a:xA)(c:E):E :=
 if aAd a&&(mB.endLine==b.line)&&(m==("append":fA)) then(match Y.slot x with | some i=>.app i c | none=>.uA) else if aAd a&&(mB.endLine==b.line)&&(m==("extend":fA)) then(match Y.slot x with | some i=>.ext i c | none=>.uA) else if aAd a&&(mB.endLine==b.line)&&(m==("pop":fA)) then .uA else dQ Y x m mB b a
def bQ(Y:CC)(x m:fA)(mB a:GB):E:=if(mB.endLine==a.line)&&(m==("bit_length":fA)) then .uA else
 if(mB.endLine==a.line)&&(m==("pop":fA)) then(match Y.slot x with | some i=>.NO i | none=>.uA) else C5 Y x m mB a
def dX(Y:CC)(x m:fA)(mB b:GB)(args:List xA)(d:List E):E:=match args,d with
 |[a],[c]=>cQ Y x m mB b a c
 |[],[]=>bQ Y x m mB b
 |_,_=>.uA
def eQ(Y:CC)(x m:fA)(mB a:GB)(args:List xA)(b:List E):E :=
 match Y.gl (dot m) with
 |.vE c=>if args.all aAd&&(mB.endLine==a.line)&&decide (args.length<29) then(match Y.slot x with | some i=>.JI i m c b | none=>.uA) else .uA
 |_=>dX Y x m mB a args b
def iR(Y:CC)(m:fA)(mB b:GB)(args:List xA)(a:E)(c:List E):E :=
 match Y.gl (dot m) with
 |.vE d=>if args.all aAd&&(mB.endLine==b.line)&&decide (args.length<29) then .uA else .uA
 |_=>.uA
noncomputable def SU:xA->Option (fA×GB)
 |.Name f p=>aA (f,p)
 |_=>eA
def VM:xA->Option ((fA×GB)×List xA×GB)
 |.Call fn args a pos=>(match a with
  |[]=>(SU fn).map λq=>(q,args,pos)
  |_::_=>eA)
 |_=>eA
def ZZ(e:xA):Bool:=match VM e with
 |some (f,[_],_)=>f.1==("set":fA)
 |_=>dA
noncomputable def C2:E->Option E
 |.KI c=>aA c
 |_=>eA
def nBa(h:C2 e=aA c):e=.KI c:=by
 induction e using E.casesOn with
 |KI=>cases h;rfl
 |_=>exact nomatch (show eA=aA c from h)
def KU(args:List xA)(b:List E):E :=
 match (KR args).bind λa=>if ZZ a=bA then(KR b).bind C2 else eA with
 |some c=>.gN c
 |none=>.bif .len b
noncomputable def aAQ(a:List E):E :=
 match a with
 |[c]=>.KI c
 |_=>.uA
noncomputable def S1(args:List xA)(a:List E):E:=.bif .list a
def cK(f:fA)(args:List xA)(a:List E):E :=
 if f=("len":fA) then KU args a else if f=("set":fA) then aAQ a else if f=("range":fA) then .uA else if f=("list":fA) then S1 args a else(match jT f with | some b=>.bif b a | none=>.uA)
noncomputable def vU:xA->Bool
 |.ListComp _ _ _ _=>bA
 |_=>dA
noncomputable def iE:xA->Bool
 |.ListComp _ _ _ _=>dA
 |.SetComp _ _ _ _=>dA
 |.DictComp _ _ _ _ _=>dA
 |_=>bA
noncomputable def GO:xA->Bool
 |.Slice _ _ _ _=>dA
 |_=>bA
noncomputable def FO:xA->Bool
 |.Set _ _ _=>dA
 |_=>bA
noncomputable def lR:xA->Bool
 |.Tuple _ _ _=>dA
 |_=>bA
noncomputable def CC.SM(Y:CC)(x:fA):Bool:=Y.names.lookup x==aA .local||(Y.top&&Y.names.lookup x==aA .cell)
def CC.dG(Y:CC)(x:fA):Option Nat:=if Y.SM x then Y.slot x else eA
def Xh(Y:CC):xA->Option Nat
 |.Name x _=>Y.dG x
 |_=>eA
def PL(Y:CC):List xA->Option (List Nat)
 |[]=>aA []
 |e::a=>(Xh Y e).bind λi=>(PL Y a).map (i :: ·)
def AG(Y:CC):xA->Option (Bool×List Nat)
 |.Name x _=>(Y.dG x).map λi=>(bA,[i])
 |.Tuple a _ _=>(PL Y a).map λis=>(dA,is)
 |_=>eA
noncomputable def aAS:List Z->Option Z
 |[]=>eA
 |a::r=>(match r with | []=>aA a | _::_=>eA)
def AU:xA->Option (fA×xA×fA×Int)
 |.Call fn args b _=>(SU fn).bind λq=>(aAS args).bind λa=>(aAS b).bind λk=>k.arg.bind λx=>(aA1 k.value).map λc=>(q.1,a,x,c)
 |_=>eA
def vJ(Y:CC)(e:xA):Option (UE×List xA):=match VM e with
 |some x=>if(x.1.1==("range":fA)) then
   (match Y.glob x.1.1 with
   |.blt=>if x.2.1.all aAd&&(x.2.1.length==1||x.2.1.length==2) then aA (.IB,x.2.1) else eA
   |_=>eA)
  else if(x.1.1==("enumerate":fA)) then
   (match Y.glob x.1.1 with
   |.blt=>if x.2.1.all aAd&&(x.2.1.length==1) then aA (.enum 0,x.2.1) else eA
   |_=>eA)
  else aA (.of,[e])
 |none=>(match AU e with
  |some x=>if x.1==("enumerate":fA)&&x.2.2.1==("start":fA)&&aAd x.2.1&&x.2.2.2==1 then
    (match Y.glob x.1 with
    |.blt=>aA (.enum 1,[x.2.1])
    |_=>eA)
   else eA
  |none=>if FO e then aA (.of,[e]) else eA)
def Kd(h:SU e=aA x):e=.Name x.1 x.2:=by
 unfold SU at h;split at h
 .cases h;rfl
 .cases h
def zU(h:VM e=aA ((f,p),args,pos)):e=.Call (.Name f p) args [] pos:=by
 unfold VM at h;split at h
 .rename_i fn as a c
  cases a with
  |nil =>
   let(q,b,h):rA:=wH.mp h
   cases h;rw[Kd b]
  |cons=>cases h
 .cases h
def lq(h:aA1 e=aA a):∃j q,e=.Constant (.int a) j q:=by
 induction e using TC with
 |Constant c j q=>cases c<;>first | exact JE h | (cases h;exact#[_,_,rfl])
 |_=>exact JE h
def Zd(h:aAS l=aA a):l=[a]:=by
 cases l with
 |nil=>cases h
 |cons b r =>
  cases r with
  |nil=>cases h;rfl
  |cons=>cases h
def Xy(h:AU e=aA (f,a,x,c)):∃p j q g pos,e=.Call (.Name f p) [a] [#[aA x,.Constant (.int c) j q,g]] pos:=by
 unfold AU at h;split at h
 .let(q,i,h):rA:=PH.mp h
  let(b,l,h):rA:=PH.mp h
  let(k,hk,h):rA:=PH.mp h
  let(y,m,h):rA:=PH.mp h
  let(d,hd,h):rA:=wH.mp h
  cases h;let(j,z,e):gD:=lq hd
  let(n,o,g):=k;cases m;cases e;rw[Kd i,Zd l,Zd hk];exact#[_,_,_,_,_,rfl]
 .cases h
noncomputable def YZ:xA->Bool
 |.Slice eA eA (aA (.UnaryOp .USub (.Constant (.int i) _ _) _)) _=>i==1
 |_=>dA
noncomputable def aAl(a:PD):List fA:=(a.names.filter λp=>p.2==NameKind.free).map (·.1)
noncomputable def aAu(a:PD):List fA:=(a.names.filter λp=>p.2==NameKind.local).map (·.1)
def CC.inner(Y:CC)(j:PD):CC :=
 #[aAl j++aAu j,j.names.map λ(n,k)=>if(k==NameKind.free&&Y.names.lookup n==aA .cell) then(n,NameKind.cell) else(n,k),Y.gl,dA]
noncomputable def CC.FH(Y:CC):List fA->Option (List Nat)
 |[]=>aA []
 |x::xs=>(Y.N.idxOf? x).bind λi=>(Y.FH xs).map (i :: ·)
def CC.GR(Y:CC)(j:PD):Bool:=(j.kind==ScopeKind.function)&&(j.names.all λp=>p.2 != NameKind.cell)&&(j.names.all λp=>p.2 != NameKind.local||j.names.lookup p.1==aA NameKind.local) &&
 (j.names.all λp=>p.2 != NameKind.free||(j.names.lookup p.1==aA NameKind.free&&(Y.names.lookup p.1==aA NameKind.cell||Y.names.lookup p.1==aA NameKind.free)))&&decide (aAl j++aAu j).Nodup
noncomputable def Ab(k:UE)(ci:E)(a:List E):List E:=match k with
 |.of=>[ci]
 |_=>a
noncomputable def DJ(k:UE)(one:Bool):Bool:=match k with
 |.enum _=>!one
 |_=>bA
noncomputable def tOa(iter:xA):Bool:=dA
def E1(Y:CC):xA->Option Nat
 |.Name x _=>if x==("listed":fA)||x==("numbers":fA)||x==("_law_numbers":fA)||x==("_law_ways_here":fA) then Y.slot x else eA
 |_=>eA
def CH(Y:CC)(a:PD)(c iter:xA)(ci:E)(b cond:List E)(ce:E):E :=
 if Y.GR a then
  match Y.FH (aAl a),AG (Y.inner a) c,vJ Y iter with
  |some imp,aA (one,is),aA (k,_)=>if tOa iter then(if one==(is.length==1) then .comp ce is .sig [ci] cond imp (aAu a).length else .uA) else match E1 Y iter with | some i=>(if one==(is.length==1) then .comp ce is .key [.nD i] cond imp (aAu a).length else .uA) | none=>if one==(is.length==1)&&DJ k one&&k != .enum 1 then .comp ce is k (Ab k ci b) cond imp (aAu a).length else .uA
  |_,_,_=>.uA
 else .uA
def CC.lam(Y:CC)(j:PD):CC:=#[aAl j,j.names,Y.gl,dA]
noncomputable def aAF(a:JS):Bool:=a.posonlyargs.isEmpty&&a.args.isEmpty&&a.vararg.isNone&&a.kwonlyargs.isEmpty&&a.kw_defaults.isEmpty&&a.kwarg.isNone&&a.defaults.isEmpty
def P1(Y:CC):xA->Option (List Nat)
 |.Lambda b _ a _=>if Y.top&&Y.GR a && !a.isCoroutine && !a.isGenerator&&aAF b then Y.FH (aAl a) else eA
 |_=>eA
noncomputable def P8:E->Option (String×List E)
 |.call g a=>aA (g,a)
 |_=>eA
def msC:E->Option (String×List E)
 |.KI c=>P8 c
 |_=>eA
noncomputable def vK:fA:="lambda"
noncomputable def pd:GV->Option (fA×String×List fA)
 |.FF x s a=>aA (x,s,a)
 |_=>eA
def oH(Y:CC)(f:fA)(args:List xA)(a:List E)(g:String):E :=
 match (KR args).bind (P1 Y),(KR a).bind msC,pd (Y.gl vK) with
 |some is,aA q,aA y=>if y.1=f then .ER y.2.1 y.2.2 q.1 q.2 is else .call g a
 |_,_,_=>.call g a
def kAa(h:pd v=aA y):v=.FF y.1 y.2.1 y.2.2:=by
 induction v using GV.casesOn with
 |FF=>cases h;rfl
 |_=>exact JE h
def Lq(h:P8 c=aA q):c=.call q.1 q.2:=by
 induction c using E.casesOn with
 |call=>cases h;rfl
 |_=>exact JE h
noncomputable def pb:E->Bool
 |.KI _=>bA
 |_=>dA
def bOa:pb (oH Y f args a g)=dA:=by unfold oH;(repeat' split)<;>rfl
mutual
noncomputable def cE(Y:CC):xA->E
 |.Name x _=>CM Y x
 |.Constant c _ _=>nT c
 |.Tuple j _ _=>if j.all aAd then .t (rB Y j) else .uA
 |.List j _=>if j.all aAd then .l (rB Y j) else .uA
 |.Dict n k _=>ZX n k (rB Y k) (qQ (Ly Y) n k (vT n k (JX Y n) (rB Y k)))
 |.BinOp a op b _=>.wA op (cE Y a) (cE Y b)
 |.UnaryOp .Not a _=>.not (cE Y a)
 |.UnaryOp .USub a _=>.neg (cE Y a)
 |.Compare a [op] [b] _=>if JJ op b then .uA else .BA op (cE Y a) (cE Y b)
 |.Compare a [op,l] [b,c] _=>if JJ l c then .uA else .CF op l (cE Y a) (cE Y b) (cE Y c)
 |.BoolOp .And (a::b::r) _=>.and (cE Y a) (FX Y (b::r))
 |.BoolOp .Or (a::b::r) _=>.or (cE Y a) (HX Y (b::r))
 |.IfExp c a b _=>.uA
 |.Subscript a (.Slice lo s eA _) _=>.sl (cE Y a) (cO Y lo) (cO Y s)
 |.Subscript a i _=>if YZ i then .uA else .ix (cE Y a) (cE Y i)
 |.Call (.Name f _) args [] _=>if args.all aAd&&decide (args≠[]) then
   match Y.glob f with
   |.fn g=>oH Y f args (rB Y args) g
   |.cls t=>.make f t (rB Y args)
   |.blt=>if f=("isinstance":fA) then yL Y args (rB Y args)
     else cK f args (rB Y args)
   |_=>.uA
  else .uA
 |.Call (.Attribute (.Name x _) m mB) args [] e=>eQ Y x m mB e args (rB Y args)
 |.Call (.Attribute (.Call g (u::o) v p) m mB) args [] e=>iR Y m mB e args (cE Y (.Call g (u::o) v p)) (rB Y args)
 |.Attribute (.Name x _) f _=>.fld (CM Y x) f
 |.Lambda y body w _=>.KI (cE (Y.lam w) body)
 |.ListComp h [#[q,iter,[],0]] d _=>CH Y d q iter (cE Y iter) (nL Y iter) [] (cE (Y.inner d) h)
 |.ListComp h [#[q,iter,[c],0]] d _=>CH Y d q iter (cE Y iter) (nL Y iter) [cE (Y.inner d) c] (cE (Y.inner d) h)
 |_=>.uA
noncomputable def nL(Y:CC):xA->List E
 |.Call _ args _ _=>rB Y args
 |_=>[]
noncomputable def rB(Y:CC):List xA->List E
 |[]=>[]
 |e::a=>cE Y e::rB Y a
noncomputable def JX(Y:CC):List (Option xA)->List E
 |[]=>[]
 |o::os=>cO Y o::JX Y os
noncomputable def FX(Y:CC):List xA->E
 |[]=>.uA
 |[a]=>cE Y a
 |a::b::r=>.and (cE Y a) (FX Y (b::r))
noncomputable def HX(Y:CC):List xA->E
 |[]=>.uA
 |[a]=>cE Y a
 |a::b::r=>.or (cE Y a) (HX Y (b::r))
noncomputable def cO(Y:CC):Option xA->E
 |none=>.fI
 |some e=>UU (cE Y e)
end
def SO(K:kA)(n:Nat)(run:List Sl->zA RV):Sp:=λb H Q _=>b.length=n/\∃(as:List Sl) (G:Hp) (v:RV) (a:List Sl),HA K as (b.map aA) H G/\as.length=n/\run as=some (.ok v,a) /\
 ∀x c d,DA K as (b.map aA) H G a c d->dC K c d (yA a (b.map aA)) (UC H) v x->Q x c
structure FnAt(X:Cx)(K:kA)(x:fA)(n:Nat)(run:List Sl->zA RV):Prop where
 ex:∃(fa:iA) (fd:JG) (ps:List fA) (k:Nat),qE X.prog X.w X.K X.mg X.base SD k fa fd ps (SO K n run)/\YB k X.A/\X.mg x=aA (.ref fa)/\nG X.K (.ref fa)=bA/\aAt X.K fd ps []
def qg(K:kA)(b:List fA):Sp:=λe H Q _=>∃a C d c,e=.ref a::c/\c.length=b.length/\H a=aA (.ins C d [])/\HN K C b/\Q .lA (GA H a (.ins C d (b.zip c)))
structure MW(X:Cx)(K:kA)(x:fA)(ns:List fA):Prop where
 ex:∃(Ca fa:iA) (fd:JG) (ps:List fA),CB K cB x=aA (aA (.ref Ca))/\X.mg x=aA (.ref Ca)/\Mk X.K Ca fa/\HN K Ca ns/\qE X.prog X.w X.K X.mg X.base SD 1 fa fd ps (qg K ns)/\aAt X.K fd ps []
structure SW(X:Cx)(K:kA)(x:fA)(n:Nat)(run:List Sl->zA RV):Prop where
 ex:True
structure LW(X:Cx)(K:kA)(c m:fA)(n:Nat)(run:List Sl->zA RV):Prop where
 ex:True
structure MethAt(X:Cx)(K:kA)(c m:fA)(n:Nat)(run:List Sl->zA RV):Prop where
 ex:∃(Ca fa:iA) (fd:JG) (ps:List fA) (k:Nat),CB K cB c=aA (aA (.ref Ca))/\Meth X.K Ca m fa/\qE X.prog X.w X.K X.mg X.base SD k fa fd ps (SO K n run)/\YB k X.A/\aAt X.K fd ps []/\UD K Ca
structure fm(K:kA)(D C:iA):Prop where
 a:BN K D C=bA
 b:oP K D "__class__"=bA
 c:iS K D=bA
 d:wF K (.ref D) "__class__"=aA (aA (.builtin "object.__class__"))
 e:Nk K (.builtin "object.__class__") "__get__"=aA (aA (.builtin "getset_descriptor.__get__"))
 f:xl K (.builtin "object.__class__")=aA bA
 g:XI K D (.type "object")=aA bA
structure VS(K:kA)(mg:fA->Option jA)(x:fA)(s n:List fA):Prop where
 ex:∃C,mg x=aA (.ref C)/\(∀c∈s,∀Ca,CB K cB c=aA (aA (.ref Ca))->GS K (.ref Ca) C=bA)/\∀c∈n,∀Ca,CB K cB c=aA (aA (.ref Ca))->fm K Ca C
def E4(K:kA)(n:Nat)(run:List Sl->zA RV):Sp:=λb H _ E=>b.length=n/\∃(as:List Sl) (G:Hp) (x:Exc) (a:List Sl),HA K as (b.map aA) H G/\as.length=n/\run as=some (.ex x,a) /\
 ∀c d C p,DA K as (b.map aA) H G a c d->CB K cB x.cls=aA (aA (.ref C))->EE K C->YJ K d C p x->E (.ref C) p c
structure DW(X:Cx)(K:kA)(x:fA)(n:Nat)(run:List Sl->zA RV):Prop where
 ex:∃(fa:iA) (fd:JG) (ps:List fA) (k:Nat),qE X.prog X.w X.K X.mg X.base (RH X.prog X.w) k fa fd ps (E4 K n run)/\YB k X.A/\X.mg x=aA (.ref fa)/\nG X.K (.ref fa)=bA/\aAt X.K fd ps []
structure ExcAt(K:kA)(mg:fA->Option jA)(x:fA):Prop where
 ex:∃C,CB K cB x=aA (aA (.ref C))/\mg x=aA (.ref C)/\EE K C/\TJ K C eA
structure QS(X:Cx)(K:kA)(x:fA):Prop where
 ex:True
structure JP(K:kA)(mg:fA->Option jA)(x:fA)(cs:List fA):Prop where
 ex:∃D,mg x=aA (.ref D)/\(∃i,TJ K D i)/\∀c∈cs,∀C,CB K cB c=aA (aA (.ref C))->XI K C (.ref D)=aA bA
structure WS(K:kA)(mg:fA->Option jA)(x:fA)(s n:List fA):Prop where
 ex:∃D,mg x=aA (.ref D)/\(∀c∈s,∀C,CB K cB c=aA (aA (.ref C))->GS K (.ref C) D=bA)/\∀c∈n,∀C,CB K cB c=aA (aA (.ref C))->BN K C D=bA
def Rl:Option jA->Option Int->Prop
 |some v,aA i=>∃t,v=.int i t
 |none,eA=>True
 |_,_=>False
structure SS(pr:Params)(mg:fA->Option jA)(K:kA)(x:fA)(ks:List fA)(vs:List Int):Prop where
 ex:∃(a:iA) (es:Array DictEntry) (n:Nat),mg x=aA (.ref a)/\(a==sysModules)=dA/\K.lookup a=aA { cls:=.type "dict",data:=.dict es n }/\PySem.W.KeysLit pr es.toList/\ks.length=vs.length/\∀k:fA,Rl (findBy Z6 es k) ((ks.zip vs).lookup k)
def WG(X:Cx)(K:kA)(P:bB)(C:Calls)(Y:CC):Prop:=∀x s c,Y.gl vK=.FF x s c->∀(d:JS) (body:xA) (b:PD) (a p pos:GB) (is:List Nat) (h:String) (e:List E),P1 Y (.Lambda d body b a)=aA is->cE (Y.lam b) body=.call h e->Gl X x->(x==("__debug__":fA))=dA ->
 ∀xe pn,PE { X with xe:=xe,pn:=pn } (.Call (.Name x p) [.Lambda d body b a] [] pos) (tE K P C (.ER s c h e is))
def WG.fN{K:kA}(h:∀x s j,Y.gl vK≠.FF x s j):WG X K P C Y:=λx s j e=>absurd e (h x s j)
def WG.no{K:kA}(h:Y.top=dA):WG X K P C Y:=λx s m _ r body sc j p pos is h1 u e=>by
 unfold P1 at e;rw[h] at e;cases e
structure RB(q:Bool)(X:Cx)(K:kA)(P:bB)(C:Calls)(Y:CC):Prop where
 NC:X.K=K
 JH:X.N=Y.N
 nm:X.env.scope.names=Y.names
 nd:Y.N.Nodup
 c:∀x d,Y.gl x=.c d->∃u v,X.mg x=aA u/\aAe v u/\∀G,nA K G d v
 blt:∀x,Y.gl x=.blt->X.mg x=eA
 sub:∀x s n,Y.gl (col x)=.sub s n->VS K X.mg x s n
 ID:∀x s n,Y.gl (col x)=.ID s n->WS K X.mg x s n
 YH:(∀f cs,Y.gl (FT f)=.YH cs->∀c∈cs,∀Ca,CB K cB c=aA (aA (.ref Ca))->UH K Ca f)/\∀x ks vs,Y.gl x=.WT ks vs->SS X.w.params X.mg K x ks vs
 cond:q=bA->X.calm=bA/\X.A.handled=eA/\X.A.units+64<cLine/\(∀x f,Y.gl x=.fn f->FnAt X K x (P f).length (C f))/\(∀x ns,Y.gl x=.cls ns->MW X K x ns) /\
  (∀m tb c f,Y.gl (dot m)=.vE tb->tb.lookup c=aA f->MethAt X K c m (P f).length (C f))/\YB 2 X.A/\((∀x,Y.gl x=.exc->ExcAt K X.mg x)/\∀x,Y.gl x=.tJ->QS X K x)/\(∀x cs,Y.gl (cat x)=.JA cs->JP K X.mg x cs)/\((∀x f,Y.gl x=.fn f->DW X K x (P f).length (C f))/\(∀x f,Y.gl x=.obj f->SW X K x (P f).length (C f))/\∀m tb c f,Y.gl (dot m)=.vE tb->tb.lookup c=aA f->LW X K c m (P f).length (C f))/\(∃TF jHa L,X.stack=TF::jHa/\TF.frame=aA L/\X.env.frame=aA L)/\WG X K P C Y
abbrev NA(X:Cx)(K:kA)(P:bB)(C:Calls)(Y:CC):Prop:=RB bA X K P C Y
section
variable{X:Cx}{K:kA}{P:bB}{C:Calls}{Y:CC}
theorem RB.calm(o:RB bA X K P C Y):X.calm=bA:=(o.cond rfl).1
theorem RB.hh(o:RB bA X K P C Y):X.A.handled=eA:=(o.cond rfl).2.1
def RB.hu(o:RB bA X K P C Y):X.A.units+64<cLine:=(o.cond rfl).2.2.1
theorem RB.fn(o:RB bA X K P C Y):∀x f,Y.gl x=.fn f->FnAt X K x (P f).length (C f):=(o.cond rfl).2.2.2.1
theorem RB.cls(o:RB bA X K P C Y):∀x ns,Y.gl x=.cls ns->MW X K x ns:=(o.cond rfl).2.2.2.2.1
theorem RB.vE(o:RB bA X K P C Y):∀m tb c f,Y.gl (dot m)=.vE tb->tb.lookup c=aA f->MethAt X K c m (P f).length (C f):=(o.cond rfl).2.2.2.2.2.1
def RB.rm(o:RB bA X K P C Y):YB 2 X.A:=(o.cond rfl).2.2.2.2.2.2.1
theorem RB.exc(o:RB bA X K P C Y):∀x,Y.gl x=.exc->ExcAt K X.mg x:=(o.cond rfl).2.2.2.2.2.2.2.1.1
theorem RB.tJ(o:RB bA X K P C Y):∀x,Y.gl x=.tJ->QS X K x:=(o.cond rfl).2.2.2.2.2.2.2.1.2
theorem RB.JA(o:RB bA X K P C Y):∀x j,Y.gl (cat x)=.JA j->JP K X.mg x j:=(o.cond rfl).2.2.2.2.2.2.2.2.1
def RB.fnX(o:RB bA X K P C Y):∀x f,Y.gl x=.fn f->DW X K x (P f).length (C f):=(o.cond rfl).2.2.2.2.2.2.2.2.2.1.1
theorem RB.obj(o:RB bA X K P C Y):∀x f,Y.gl x=.obj f->SW X K x (P f).length (C f):=(o.cond rfl).2.2.2.2.2.2.2.2.2.1.2.1
def RB.mtx(o:RB bA X K P C Y):∀m tb c f,Y.gl (dot m)=.vE tb->tb.lookup c=aA f->LW X K c m (P f).length (C f):=(o.cond rfl).2.2.2.2.2.2.2.2.2.1.2.2
def RB.tp(o:RB bA X K P C Y):∃TF j L,X.stack=TF::j/\TF.frame=aA L/\X.env.frame=aA L:=(o.cond rfl).2.2.2.2.2.2.2.2.2.2.1
def RB.lam(o:RB bA X K P C Y):WG X K P C Y:=(o.cond rfl).2.2.2.2.2.2.2.2.2.2.2
def NA.of(NC:X.K=K)(JH:X.N=Y.N)(nm:X.env.scope.names=Y.names)(nd:Y.N.Nodup)(calm:X.calm=bA)(hh:X.A.handled=eA)(hu:X.A.units+64<cLine)
  (c:∀x d,Y.gl x=.c d->∃u v,X.mg x=aA u/\aAe v u/\∀G,nA K G d v) (blt:∀x,Y.gl x=.blt->X.mg x=eA) (fn:∀x f,Y.gl x=.fn f->FnAt X K x (P f).length (C f)) (cls:∀x ns,Y.gl x=.cls ns->MW X K x ns)
  (vE:∀m tb c f,Y.gl (dot m)=.vE tb->tb.lookup c=aA f->MethAt X K c m (P f).length (C f)) (rm:YB 2 X.A) (sub:∀x s n,Y.gl (col x)=.sub s n->VS K X.mg x s n) (ID:∀x s n,Y.gl (col x)=.ID s n->WS K X.mg x s n) (YH:(∀f r,Y.gl (FT f)=.YH r->∀c∈r,∀y,CB K cB c=aA (aA (.ref y))->UH K y f)/\∀x B F,Y.gl x=.WT B F->SS X.w.params X.mg K x B F)
  (exc:(∀x,Y.gl x=.exc->ExcAt K X.mg x)/\∀x,Y.gl x=.tJ->QS X K x) (JA:∀x r,Y.gl (cat x)=.JA r->JP K X.mg x r) (fnX:(∀x f,Y.gl x=.fn f->DW X K x (P f).length (C f))/\(∀x f,Y.gl x=.obj f->SW X K x (P f).length (C f))/\∀m tb c f,Y.gl (dot m)=.vE tb->tb.lookup c=aA f->LW X K c m (P f).length (C f)) (tp:∃TF j L,X.stack=TF::j/\TF.frame=aA L/\X.env.frame=aA L) (lam:WG X K P C Y):NA X K P C Y :=
 #[NC,JH,nm,nd,c,blt,sub,ID,YH,λ_=>#[calm,hh,hu,fn,cls,vE,rm,exc,JA,fnX,tp,lam]]
end
structure IA(X:Cx)(K:kA)(P:bB)(C:Calls)(e:xA)(c:E):Prop where
 v:PE X e (tE K P C c)
 t:PT X e (tT K P C c)
 h:PE X e (tH K P C c)
section
variable{K:kA}
def eX(h:∀t U,ev P C t c U=eA)(n:∀i,c≠.v i):IA X K P C e c:=by
 have v:PE X e (tE K P C c):=λcA s B H Q I a=>by let(U,G,w,b,r,z,k):VA:=a;rw[h] at z;cases z
 exact#[v,(λcA s B H Q I #[U,G,w,b,r,z,k]=>by rw[h] at z;cases z),XO v n]
def nB:IA X K P C e .uA:=eX (λt U=>rfl) λi z=>nomatch z
def ZD(a:RB q X K P C Y)(h:PE X e (tE K P C c))(n:∀i,c≠.v i:=by exact λi z=>nomatch z)(b:∀U,ev P C bA c U=aAh bA (ev P C dA c U):=by exact λU=>rfl)
  (d:∀whole,isTrue e X.env whole=(do let v <- whole;standAt e.pos;holding [v] (truthy v)):=by exact λ_=>rfl):IA X K P C e c:=#[h,nLa a.NC h b d,XO h n]
def qU[BEq Z][LawfulBEq Z]{l:List Z}(h:l.idxOf? x=aA i):l[i]?=aA x:=by
 rw[List.idxOf?,List.findIdx?_eq_some_iff_getElem] at h;let(a,b,_):=h;rw[OC a];exact congrArg aA (EC b)
def CC.oN(xo:RB q X K P C Y)(h:Y.slot x=aA i):PE X (.Name x pos) (NL i):=by
 unfold CC.slot at h;split at h
 .cases h
 .rename_i hb;split at h
  .rename_i j;erw[SF,fJ,not_or,kS] at hb;refine sR (by rw[xo.JH];exact qU h) ?_ hb.1.1 hb.1.2;unfold CC.ub at j;erw[fJ,HG] at j;unfold PN;rw[xo.nm];rcases j with (h | h) | h
   .exact .inl h
   .exact .inr (.inl h)
   .exact .inr (.inr h)
  .cases h
def CC.wa(xo:RB q X K P C Y)(h:Y.ZT x=g)(j:g≠.no):Gl X x/\Y.gl (col x)=g/\(x==("__debug__":fA))=dA/\x≠"__name__":=by
 unfold CC.ZT at h;split at h
 .exact absurd h.symm j
 .rename_i hb;split at h
  .rename_i m;erw[SF,fJ,not_or,kS] at hb;refine#[?_,h,hb.1.1,λz=>?_]
   .unfold Gl Env.kindOf;rw[xo.nm];unfold CC.LQ at m;simpa using m
   .have:=hb.2
    rw[z] at this;simp at this
  .exact absurd h.symm j
def CC.lF(xo:RB q X K P C Y)(h:Y.glob x=g)(j:g≠.no):Gl X x/\Y.gl x=g/\(x==("__debug__":fA))=dA/\x≠"__name__":=by
 unfold CC.glob at h;split at h
 .exact absurd h.symm j
 .rename_i hb;split at h
  .rename_i m;erw[SF,fJ,not_or,kS] at hb;refine#[?_,h,hb.1.1,λz=>?_]
   .unfold Gl Env.kindOf;rw[xo.nm];unfold CC.LQ at m;simpa using m
   .have:=hb.2
    rw[z] at this;simp at this
  .exact absurd h.symm j
def oR(a:RB q X K P C Y)(h:PE X e (tC v))(r:∀G,nA K G d v)(b:∀whole,isTrue e X.env whole=(do let v <- whole;standAt e.pos;holding [v] (truthy v))):IA X K P C e (.c d):=by
 refine ZD a (TE.fD h λB H Q q=>?_) (λi z=>nomatch z) (λU=>rfl) b;let(U,G,w,f,c,z,k):VA:=q;cases z;exact k v H G (DA.refl c) (r G)
def Xd(c:RB q X K P C Y)(x:fA)(pos:GB):IA X K P C (.Name x pos) (CM Y x):=by
 unfold CM;split
 .rename_i i j;have g:=CC.oN c j (pos:=pos);refine#[Oe g, ?_,rIa g]
  -- a test of a local: looked at
  refine TT.IQ (mf g λ_=>rfl) λB H Q q=>?_
  let(U,G,b,A,r,l,k):VA:=q;let(u,F,e,m,n):pB:=Ci l
  cases n
  cases w:(U[i]?).bind Sl.get with
  |none=>rw[w] at e;cases e
  |some d =>
   rw[w] at e;erw[vF,rC,cF,Out.ok.injEq] at e;let(rfl,rfl):=e;let(x,h):=r.bound (by rw[w];rfl);exact#[x,h,b,by rw[c.NC];exact i5 r.sub (r.get w h) m,k H G (DA.refl r)]
 .split
  .rename_i d hd;let(o,p,s,I):oB:=CC.lF c hd nofun
   let(u,v,t,y,f):pB:=c.c x d p
   exact oR c (Z2 o t y s) f λ_=>rfl
  .exact nB
def rEa(a:RB q X K P C Y)(c:Const)(k:Nat)(pos:GB):IA X K P C (.Constant c k pos) (nT c):=by
 cases c with
 |none=>exact oR a i3 (λG=>by simp[nA]) λ_=>rfl
 |bool b=>exact oR a xHa (λG=>by simp[nA]) λ_=>rfl
 |int i=>exact oR a Je (λG=>by simp[nA]) λ_=>rfl
 |str s =>
  erw[nT];split
  .rename_i h;exact oR a oIa (λG=>by erw[nA];exact#[trivial,h]) λ_=>rfl
  .exact nB
 |_=>exact nB
def xC(h:aAd e=bA)(a:List xA)(env:ZK):WB (e::a) env=(dA,eval e env)::WB a env:=by
 induction e using TC with
 |Starred=>cases h
 |_=>rfl
def qHa:PA X [] (ML K P C []):=by
 refine TA.sO zJ λB H Q q=>?_
 let(U,G,a,b,r,e,k):VA:=q;erw[VE,rC,cF,Out.ok.injEq] at e;let(rfl,rfl):=e;exact k [] H G (DA.refl r) oA.nil
def oHa(h:IA X K P C e c)(t:PA X j (ML K P C l))(m:aAd e=bA):PA X (e::j) (ML K P C (c::l)):=by
 refine TA.sO (nH h.v t (xC m _ _)) λB H Q q=>?_
 let(U,G,I,J,r,e,k):VA:=q;rw[VE] at e;let(v,g,n,o):FA:=yB e
 let(b,M,p,s):FA:=yB o
 cases s;refine#[U,G,v,g,r,n,λx N O u w=>?_];let(d,a,y):rA:=u.share w
 refine#[g,d,b,_,a.qA,p,λz A F i f=>?_];exact k (x::z) A F (a.trans i) (oA.cons (nA.mono i.ext.gg _ y) f)
def rHa:PA X [] (rH K P C []):=by
 refine TA.sO zJ λB H Q q=>?_
 let(U,G,a,b,r,e,k):VA:=q;erw[vC,rC,cF,Out.ok.injEq] at e;let(rfl,rfl):=e;exact k [] H G (DA.refl r) rfl
theorem OD.KH(w:∀a,new a->j a):∀{m:List Hd} {xs:List V},OD K H G own new B m xs->OD K H G own j B m xs
 |[],_,h=>h
 |h::m,_,r=>by(let(x,u,rfl,h1,h2,h3):=r;exact#[x,u,rfl,h1.KH w,OD.KH w h2,h3])
def pHa(h:IA X K P C e c)(t:PA X y (rH K P C A))(F:aAd e=bA):PA X (e::y) (rH K P C (c::A)):=by
 refine TA.sO (nH h.h t (xC F _ _)) λB H Q q=>?_
 let(U,G,ds,U',r,e,k):VA:=q;rw[vC] at e;let(v,p,I,J):FA:=yB e
 let(i,U2,M,N):FA:=yB J
 cases N;refine#[U,G,v,p,r,I,λx O R j hx=>#[p,R,i,_,j.qA,M,λs Y Z l f=>?_]];refine k (x::s) Y Z (j.trans l) #[x,s,rfl,hx.wait l.ext λa z=>.inl (l.own a z),f.KH λa z=>j.ext.hx a z,λd a hd ha ht=>?_];subst hd;let(b,u,g,o,n,m):zD:=hx;rw[ha] at u;cases u;let(vs,w):=o.there
 have:=(f.QL ht).2.1
 rw[show O a=eA from this] at w;cases w
theorem OD.getAll(r:HA K U B H G):∀{j:List Hd} {xs:List V} {m:List D},OD K H G own new B j xs->getAll j U=aA m->UP K H G m xs
 |[],_,_,h,e=>by cases (show _=[] from h);cases e;rfl
 |h::j,_,m,hh,e=>by
  let(x,u,rfl,h1,h2,h3):=hh;erw[CI.getAll] at e
  cases q:h.get U with
  |none=>rw[q] at e;cases e
  |some d =>
   rw[q] at e
   cases q2:CI.getAll j U with
   |none=>rw[q2] at e;cases e
   |some y =>
    rw[q2] at e;cases e;exact#[x,u,rfl,h1.read r q,OD.getAll r h2 q2]
def mEa(u:NA X K P C Y)(J:IA X K P C a ca)(M:IA X K P C b N):IA X K P C (.BinOp a op b pos) (.wA op ca N):=by
 refine ZD u (TE.fD (mIa (Jp u.NC op) J.h M.h) λB H Q q=>?_);let(U,G,v,o,r,e,k):VA:=q;let(p,A,O,e):FA:=yB e
 let(F,U2,R,e):FA:=yB e
 let(f,rfl):=DH e;refine#[U,G,p,A,r,O,λx H1 Z I rx=>#[A,Z,F,o,I.qA,R,λy H2 G2 j ry=>?_]]
 cases q1:p.get o with
 |none=>rw[q1] at f;cases f
 |some d =>
  cases q2:F.get o with
  |none=>rw[q1,q2] at f;cases f
  |some d2 =>
   rw[q1,q2] at f;erw[OG] at f;split at f
   .rename_i s;have l:=rx.wait j.ext λa z=>.inl (j.own a z)
    refine#[G2,d,d2,v,j.qA.sub,l.read j.qA q1,ry.read j.qA q2,λho ds hd=>?_,f,λz H3 t=>?_]
    .subst ho;subst hd
     induction p using Hd.casesOn with
     |slot i=>simp[DO] at s
     |val w =>
      induction w using RV.casesOn with
      |sh _=>simp[DO] at s
      |od _=>simp[DO] at s
      |ow w =>
       erw[Hd.get,RV.d,rC] at q1;subst q1;obtain⟨c,e5,g,⟨vs,o1,o2⟩,n,m⟩:=l;exact#[c,vs,e5,o1,o2]
    .let(G3,a3,v3):rA:=(I.trans j).made t
     exact k z H3 G3 a3 v3
   .cases f
def kFa(c:NA X K P C Y)(d:IA X K P C a ca):IA X K P C (.UnaryOp .USub a pos) (.neg ca):=by
 refine ZD c (TE.fD (qIa tSa d.v) λB H Q q=>?_);let(U,G,v,m,r,e,k):VA:=q;let(w,n,f,e):FA:=yB e
 split at e
 .rename_i i g;cases e;refine#[U,G,w,_,r,f,λx h b j l=>?_]
  have:=l.GL
  rw[g] at this;cases this.int;exact#[i,rfl,k _ h b j (by show nA K b (.int (-i)) _;simp[nA])]
 .cases e
def lIa(e:PE X a f):PE X (.UnaryOp .Not a pos) (λB H Q=>f B H λx d=>∃k,YS X.K x d k/\Q (.bl (!k)) d):=by
 intro cA s B H Q I h;refine UnaryOp_ (UA (e cA s B H _ I h) λv g c=>?_);let(x,i,j,l,m):pB:=c;exact not_of (UA (ai cA g B i x v (λk d=>Q (.bl (!k)) d) j l m) λb q c=>(by let(n,o,p):rA:=c;exact#[.bl (!b),n,o,rfl,p]))
def mFa(o:NA X K P C Y)(n:IA X K P C a ca):IA X K P C (.UnaryOp .Not a pos) (.not ca):=by
 have v:PE X (.UnaryOp .Not a pos) (tE K P C (.not ca)):=by
  refine TE.fD (lIa n.h) λB H Q q=>?_
  let(U,G,v,j,r,e,k):VA:=q;let(w,p,l,e):FA:=yB e
  let(c,rfl):=DH e;refine#[U,G,w,j,r,l,λx m g f s=>?_]
  cases q:w.get j with
  |none=>rw[q] at c;cases c
  |some d =>
   rw[q] at c;erw[OG] at c
   cases q2:OI d with
   |none=>rw[q2] at c;cases c
   |some b =>
    rw[q2] at c;cases c;refine#[b, ?_,k _ m g f (by show nA K g (.bl _) _;simp[nA])];rw[o.NC];exact i5 f.qA.sub (s.read f.qA q) q2
 refine#[v, ?_,XO v λi z=>nomatch z];refine TT.IQ (mLa n.t) λB H Q q=>?_
 let(U,G,b,j,r,e,k):VA:=q;let(w,p,l,e):FA:=yB e
 split at e
 .rename_i u;cases e;exact#[U,G,u,_,r,l,λm g f=>k m g f]
 .cases e
def pT(r:DA K U B H G i g j)(n:FE K g j (yA i B) (UC H) B k x)(c:DA K i B g j f h l)(o:FE K h l (yA f B) (UC g) B m y)
  (e:((k.get f).bind λd=>(m.get f).bind λe=>PB op d e)=aA b) (Q:VK) (q:Q (.bl b) h):xR K op x y h Q:=by
 cases q1:k.get f with
 |none=>rw[q1] at e;cases e
 |some d =>
  cases q2:m.get f with
  |none=>rw[q1,q2] at e;cases e
  |some p =>
   rw[q1,q2] at e;exact#[l,d,p,b,c.qA.sub,(n.wait c.ext λa z=>.inl (c.own a z)).read c.qA q1,o.read c.qA q2,e,q]
def zAa(e:(o.map λb=>RV.sh (.bl b))=aA v):∃b,o=aA b/\v=.sh (.bl b):=by
 induction o using oG with
 |none=>cases e
 |some b=>cases e;exact#[b,rfl,rfl]
def lT{x y:Option D}{f:D->D->Option Bool}(e:(x.bind λd=>y.bind λe=>(f d e).map λb=>RV.sh (.bl b))=aA v):∃b,(x.bind λd=>y.bind λe=>f d e)=aA b/\v=.sh (.bl b):=by
 induction x using oG with
 |none=>cases e
 |some d =>
  induction y using oG with
  |none=>cases e
  |some a=>exact zAa e
def oEa(j:NA X K P C Y)(p:IA X K P C a ca)(s:IA X K P C b l)(t:JJ op b=dA):IA X K P C (.Compare a [op] [b] pos) (.BA op ca l):=by
 have core:∀B H (Q:VK),(∃(U:Env) (G:Hp) (b:Bool) (c:Env),HA K U B H G/\ev P C dA (.BA op ca l) U=some (.ok (.sh (.bl b)),c)/\∀d f,DA K U B H G c d f->Q (.bl b) d) ->
   RR (xR K op) (tH K P C ca) (tH K P C l) B H Q:=λB H Q q=>by
  let(U,G,b,c,r,e,k):VA:=q;let(u,m,w,e):FA:=yB e
  let(A,M,F,e):FA:=yB e
  let(n,rfl):=DH e;let(g,I,N):rA:=lT n
  cases N;exact#[U,G,u,m,r,w,λx H1 O o R=>#[m,O,A,c,o.qA,F,λy Z G2 J ry=>pT o R J ry I Q (k Z G2 (o.trans J))]]
 have v:PE X (.Compare a [op] [b] pos) (tE K P C (.BA op ca l)):=by
  refine TE.fD (bIa (WN j.NC j.hu op) p.h s.h t) λB H Q q=>core B H Q ?_
  let(U,G,v,c,r,e,k):VA:=q;have e0:=e;let(u,m,w,e):FA:=yB e
  let(A,M,F,e):FA:=yB e
  let(n,rfl):=DH e;let(g,I,hq):rA:=lT n
  obtain rfl:=hq;exact#[U,G,g,c,r,e0,λd f a=>k _ d f a (by show nA K f (.bl _) _;simp[nA])]
 refine#[v, ?_,XO v λi z=>nomatch z];refine TT.IQ (lLa (WN j.NC j.hu op) p.h s.h t) λB H Q q=>core B H _ ?_
 let(U,G,g,c,r,e,k):VA:=q;exact#[U,G,g,c,r,e,λd f a=>#[g,rfl,k d f a]]
def pEa(f:NA X K P C Y)(J:IA X K P C a ca)(M:IA X K P C b p)(N:IA X K P C c s)(hm:JJ d c=dA):IA X K P C (.Compare a [op,d] [b,c] pos) (.CF op d ca p s):=by
 have core:∀B H (Q:VK),(∃(U:Env) (G:Hp) (b:Bool) (g:Env),HA K U B H G/\ev P C dA (.CF op d ca p s) U=some (.ok (.sh (.bl b)),g)/\∀m n,DA K U B H G g m n->Q (.bl b) m) ->
   T4 (xR K op) (xR K d) (tH K P C ca) (tH K P C p) (tH K P C s) B H Q:=λB H Q q=>by
  let(U,G,b,g,r,e,k):VA:=q;let(hx,t,O,e):FA:=yB e
  let(R,u,Z,e):FA:=yB e
  refine#[U,G,hx,t,r,O,λx H1 G1 j rx=>#[t,G1,R,u,j.qA,Z,λy H2 G2 o w=>?_]];split at e
  .cases e
  .rename_i A;cases e;refine pT j rx o w A _ #[dA,rfl, ?_];rw[if_neg OE];exact k H2 G2 (j.trans o)
  .rename_i A;let(hz,U3,e5,e):FA:=yB e
   let(F,rfl):=DH e;let(l,e7,I):rA:=lT F
   cases I;refine pT j rx o w A _ #[bA,rfl, ?_];rw[RA rfl];exact#[u,G2,hz,g,o.qA,e5,λz H3 G3 a3 rz=>pT (j.trans o) (w.KH λa z=>j.ext.hx a z) a3 rz e7 Q (k H3 G3 ((j.trans o).trans a3))]
 have hl:lastMarks [op,d] [b,c]=dA:=hm
 have v:PE X (.Compare a [op,d] [b,c] pos) (tE K P C (.CF op d ca p s)):=by
  refine TE.fD (aIa (WN f.NC f.hu op) (WN f.NC f.hu d) J.h M.h N.h hl) λB H Q q=>core B H Q ?_
  let(U,G,v,g,r,e,k):VA:=q;have e0:=e
  have:∃b,v=.sh (.bl b):=by
   let(hx,t,O,e):FA:=yB e
   let(R,u,Z,e):FA:=yB e
   split at e
   .cases e
   .cases e;exact#[_,rfl]
   .let(hz,U3,e5,e):FA:=yB e
    let(F,rfl):=DH e;let(l,e7,I):rA:=lT F
    exact#[l,I]
  let(l,rfl):=this;exact#[U,G,l,g,r,e0,λm n a=>k _ m n a (by show nA K n (.bl _) _;simp[nA])]
 refine#[v, ?_,XO v λi z=>nomatch z];refine TT.IQ (kLa (WN f.NC f.hu op) (WN f.NC f.hu d) J.h M.h N.h hl) λB H Q q=>core B H _ ?_
 let(U,G,l,g,r,e,k):VA:=q;exact#[U,G,l,g,r,e,λm n a=>#[l,rfl,k m n a]]
end
section
variable{K:kA}
def PW.imp(h:PW X e t)(w:∀B H Q,u B H Q->t B H Q):PW X e u:=λj cA s B H Q I q=>h j cA s B H Q I (w B H Q q)
def Bo(q:tE K P C (.and ca g) B H Q):Sh (tE K P C ca) (tE K P C g) B H Q:=by
 let(U,G,v,h,r,e,k):VA:=q;let(w,d,i,e):FA:=yB e
 refine#[U,G,w,d,r,i,λx j b c f=>?_];split at e
 .refine#[bA,yR (K:=K) (G:=b) f, ?_];refine XM ?_;exact#[d,b,v,h,c.qA,e,λy l m n o=>k y l m (c.trans n) (o.KH λa z=>c.ext.hx a z)]
 .refine#[dA,yR (K:=K) (G:=b) f, ?_];refine zO ?_;cases e;exact k _ j b c (by show nA K b (.bl _) _;simp[nA])
 .cases e
def Ao(q:tT K P C (.and ca h) B H Q):Rh (tT K P C ca) (tT K P C h) B H Q:=by
 let(U,G,b,i,r,e,k):VA:=q;let(w,c,f,e):FA:=yB e
 split at e
 .refine#[U,G,bA,c,r,f,λg d a=>?_];refine XM ?_;exact#[c,d,b,i,a.qA,e,λj l m=>k j l (a.trans m)]
 .refine#[U,G,dA,c,r,f,λg d a=>?_];refine zO ?_;cases e;exact k g d a
 .cases e
def hHa(q:tE K P C (.or ca g) B H Q):Uh (tE K P C ca) (tE K P C g) B H Q:=by
 let(U,G,v,h,r,e,k):VA:=q;let(w,d,i,e):FA:=yB e
 refine#[U,G,w,d,r,i,λx j b c f=>?_];split at e
 .refine#[bA,yR (K:=K) (G:=b) f, ?_];refine XM ?_;cases e;exact k _ j b c (by show nA K b (.bl _) _;simp[nA])
 .refine#[dA,yR (K:=K) (G:=b) f, ?_];refine zO ?_;exact#[d,b,v,h,c.qA,e,λy l m n o=>k y l m (c.trans n) (o.KH λa z=>c.ext.hx a z)]
 .cases e
def gHa(q:tT K P C (.or ca h) B H Q):Th (tT K P C ca) (tT K P C h) B H Q:=by
 let(U,G,b,i,r,e,k):VA:=q;let(w,c,f,e):FA:=yB e
 split at e
 .refine#[U,G,bA,c,r,f,λg d a=>?_];refine XM ?_;cases e;exact k g d a
 .refine#[U,G,dA,c,r,f,λg d a=>?_];refine zO ?_;exact#[c,d,b,i,a.qA,e,λj l m=>k j l (a.trans m)]
 .cases e
structure jJ(X:Cx)(K:kA)(P:bB)(C:Calls)(op:BoolOp)(vs:List xA)(c:E):Prop where
 v:∀pos,PE X (.BoolOp op vs pos) (tE K P C c)
 w:∀pos,PW X (.BoolOp op vs pos) (tT K P C c)
def sDa(h:IA X K P C a c):jJ X K P C .And [a] c:=#[λ_=>Le h.v,λ_=>aAX h.t]
def tDa(h:IA X K P C a c):jJ X K P C .Or [a] c:=#[λ_=>Le h.v,λ_=>aAZ h.t]
def Ud(h:IA X K P C a ca)(t:jJ X K P C .And (b::r) c):jJ X K P C .And (a::b::r) (.and ca c) :=
 #[λpos=>TE.fD (wHa h.v (t.v pos)) λ_ _ _ q=>Bo q,λpos=>PW.imp (aA0 h.t (t.w pos)) λ_ _ _ q=>Ao q]
def Vd(h:IA X K P C a ca)(t:jJ X K P C .Or (b::r) c):jJ X K P C .Or (a::b::r) (.or ca c) :=
 #[λpos=>TE.fD (l3 h.v (t.v pos)) λ_ _ _ q=>hHa q,λpos=>PW.imp (aA4 h.t (t.w pos)) λ_ _ _ q=>gHa q]
def jJ.Wd(h:jJ X K P C op j c)(n:∀i,c≠.v i):IA X K P C (.BoolOp op j pos) c:=#[h.v pos,(h.w pos).pt,XO (h.v pos) n]
def sFa{q:Bool}(d:RB q X K P C Y){a:List xA}{b:List E}{f:Nat}{pos:GB}(h:PA X a (ML K P C b)):IA X K P C (.Tuple a f pos) (.t b):=by
 refine ZD d (TE.fD (Me h) λB H Q q=>?_);let(U,G,v,s,r,e,k):VA:=q;let(g,t,i,e):FA:=yB e
 split at e
 .rename_i j;cases e;refine#[U,G,g,_,r,i,λu w x l c=>#[by rw[c.len];exact GK j,λp m=>?_]];let(n,o):=l.gi m c;exact k _ _ _ n o
 .cases e
def fFa(b:RB q X K P C Y)(h:PA X c (ML K P C d)):IA X K P C (.List c pos) (.l d):=by
 refine ZD b (TE.fD (hIa h) λB H Q q=>?_);let(U,G,v,o,r,e,k):VA:=q;let(f,s,g,e):FA:=yB e
 split at e
 .rename_i i;cases e;refine#[U,G,f,_,r,g,λt u w j a=>#[by rw[a.len];exact GK i,λp l=>?_]];let(m,n):=j.pe l a;exact k _ _ _ m n
 .cases e
def dFa(g:NA X K P C Y)(o:IA X K P C a ca)(p:IA X K P C b s)(t:US b):IA X K P C (.Subscript a b pos) (.ix ca s):=by
 refine ZD g (TE.fD (Ke (jz g.NC (by have:=g.hu;lia)) o.h p.v t) λB H Q q=>?_);let(U,G,v,i,r,e,k):VA:=q;let(j,l,u,e):FA:=yB e
 let(w,R,A,e):FA:=yB e
 let(c,rfl):=DH e;refine#[U,G,j,l,r,u,λx Z F m I=>#[l,F,w,i,m.qA,A,λy J n f M=>?_]]
 cases q1:j.get i with
 |none=>rw[q1] at c;cases c
 |some d =>
  rw[q1] at c;erw[OG] at c
  cases q2:OQ d w.d with
  |none=>rw[q2] at c;cases c
  |some N =>
   rw[q2] at c;cases c;exact#[n,d,w.d,N,f.qA.sub,(I.wait f.ext λa z=>.inl (f.own a z)).read f.qA q1,M.GL,q2,λz O=>k z J n (m.trans f) O]
def tO(K:kA)(P:bB)(C:Calls)(c:E):TO:=λB H Q=>∃(U:Env) (G:Hp) (o:Option D) (a:Env),HA K U B H G/\aAO c (ev P C dA c U) U=some (.ok o,a)/\∃i,EL o=aA i/\∀b d,DA K U B H G a b d->Q i b
def kJa:PO X eA (tO K P C .fI):=λcA s B H Q I b=>by
 let(U,G,o,c,r,a):uF:=b;let(e,i,d,k):yD:=a
 cases (show aA (Out.ok (eA:Option D),U)=some (.ok o,c) from e);cases d;exact jJa cA s B H Q I (k H G (DA.refl r))
def mJa(h:IA X K P C e c):PO X (aA e) (tO K P C (UU c)):=λcA s B H Q I n=>by
 let(U,G,o,O,r,a):uF:=n;let(j,i,l,k):yD:=a
 have key:∀b,UU c=b->qb b=dA->(∀U,ev P C dA b U=ev P C dA c U\/ev P C dA b U=eA)->sA (~~~X) X.A (evalPart (aA e) X.env) (λu t=>∃o p,gA X cA B p t/\bJ u o/\Q o p) X.xe s:=λb y m f=>by
  rw[y] at j;erw[aAO,m,YL,if_false] at j;let(w,R,g,z):FA:=yB j
  cases z;rcases f U with f | f
  .rw[f] at g;refine lJa h.v cA s B H Q I #[U,G,w,_,r,g,λx F J M N=>?_];cases q:w.d<;>rw[q] at l<;>erw[EL,reduceCtorEq,rC] at l;subst l
   have:=N.GL
   rw[q] at this;exact#[_,this.int,k F J M]
  .rw[f] at g;cases g
 cases c with
 |fI=>exact key .uA rfl rfl λU=>.inr (rfl)
 |_=>exact key _ rfl rfl λU=>.inl rfl
def rFa(g:NA X K P C Y){lo i:Option xA}{ca cl j:E}(u:IA X K P C a ca)(w:PO X lo (tO K P C cl))(hh:PO X i (tO K P C j)):IA X K P C (.Subscript a (.Slice lo i eA p2) pos) (.sl ca cl j):=by
 refine ZD g (TE.fD (nIa (cPa g.NC) u.h w hh) λB H Q q=>?_);let(U,G,v,m,r,e,k):VA:=q;let(n,o,y,e):FA:=yB e
 let(l,p,A,e):FA:=yB e
 let(h,U3,F,e):FA:=yB e
 let(b,rfl):=DH e
 cases q1:n.get m with
 |none=>rw[q1] at b;cases b
 |some d =>
  cases q2:EL l with
  |none=>rw[q1,q2] at b;cases b
  |some I =>
   cases q3:EL h with
   |none=>rw[q1,q2,q3] at b;cases b
   |some J =>
    rw[q1,q2,q3] at b;erw[OG] at b;refine#[U,G,n,o,r,y,λx H1 M s N=>#[o,M,l,p,s.qA,A,I,q2,λH2 O t=>#[p,O,h,m,t.qA,F,J,q3,λH3 R f=>?_]]];have c:=t.trans f;refine#[R,d,v,f.qA.sub,(N.wait c.ext λa z=>.inl (c.own a z)).read f.qA q1,b,λz Z hm=>?_];let(G4,a4,v4):rA:=(s.trans c).made hm
    exact k z Z G4 a4 v4
def iI(h:a.all aAd=bA)(env:ZK)(pos:GB):(BE pos (WB a env)).any (·.1)=dA/\(BE pos (WB a env)).all (λx=>!x.1)=bA:=by
 induction a with
 |nil=>exact#[rfl,rfl]
 |cons e a b =>
  rw[DC,XA] at h;rw[xC h.1];let(c,d):=b h.2
  unfold BE at *
  refine#[?_, ?_]
  .rw[vB,gM,c];rfl
  .rw[vB,DC,d];rfl
def nEa(b:NA X K P C Y)(m:Y.glob f=.fn g)(c:(e::h).all aAd=bA)(n:PA X (e::h) (rH K P C o)):IA X K P C (.Call (.Name f p) (e::h) [] pos) (.call g o):=by
 let(s,t,u,h4):=CC.lF b m nofun;let(fa,fd,ps,k0,F,w,y,hk,A):=(b.fn f g t).ex;rw[DC,XA] at c;refine ZD b (TE.fD (zHa F w s y hk A .nil bV n u (xC c.1 _ _) (iI c.2 _ _).1) λB H Q q=>?_);let(U,G,v,U',r,e,k):=q;let(I,J,M,e):=yB e;refine#[U,G,I,J,r,M,λxs H1 G1 N O=>?_];let(as,R,d,i,Z,d3,_,d4):=pQ N O e;rw[RD];refine#[?_,as,R,v,d,i,Z,d3,λx j l a hv=>?_]
 .have:=i.len
  rw[pA] at this
  lia
 .let(a5,v5):=d4 x j l a hv;exact k x j l a5 v5
def vp{f:fA}{b:BI}(h:yX f=aA b):KJ f=aA (zX b):=by
 unfold yX at h
 repeat (split at h;· (rename_i a;cases h;subst a;first | exact Bl | left | rfl))
 cases h
def xp(h:jT f=aA b):KJ f=aA (zX b):=by
 unfold jT at h;split at h
 .rename_i a;cases h;subst a;left
 .exact vp h
def S2(a:NA X K P C Y)(x:Y.glob f=.blt)(y:jT f=aA b)(c:(e::h).all aAd=bA)(j:PA X (e::h) (rH K P C l)):IA X K P C (.Call (.Name f p) (e::h) [] pos) (.bif b l):=by
 let(m,A,n,o):oB:=CC.lF a x nofun
 have d:=a.blt f A;have s:=xp y;rw[DC,XA] at c
 have F:PE X (.Call (.Name f p) (e::h) [] pos) (S4 (Af K b) (rH K P C l)):=by
  have t:=Ep a.NC a.calm a.hh a.rm b
  cases b<;>first
   |exact rR t m d s j o n (xC c.1 _ _) (iI c.2 _ _).1
   |exact He t m d s j o n (xC c.1 _ _) (iI c.2 _ _).1
 refine ZD a (TE.fD F λB H Q q=>?_);let(U,G,v,u,r,e,k):VA:=q;let(w,U1,I,e):FA:=yB e
 let(g,rfl):=DH e;refine#[U,G,w,u,r,I,λxs H1 J i M=>?_]
 cases q1:getAll w u with
 |none=>rw[q1] at g;cases g
 |some N =>
  rw[q1] at g;refine#[J,N,v,i.qA.sub,M.getAll i.qA q1,g,λz O d=>?_];let(R,Z,v2):rA:=i.made d
  exact k z O R Z v2
end
section
variable{K:kA}
def XZ(h:FI U i=bA):∃a p l,U[i]?=aA (.ow (.l a) p l):=by
 unfold FI at h;split at h
 .rename_i d p l e;exact#[d,p,l,e]
 .cases h
def HA.Di(r:HA K U B H G)(h:U[i]?=aA (.ow d p l))(hx:B[i]?=aA (aA (.ref a)))(C:qG K (GA H a ob) G a d') :
  DA K U B H G (U.set i (.ow d' p l)) (GA H a ob) G:=by
 let(b,h1,g,o):KA:=r.ow i d p l h
 rw[hx] at h1;cases h1;have O:H a≠eA:=(r.owned #[i,d,p,l,h,hx]).1
 have F:HA K (U.set i .un) B (GA H a ob) G:=by
  have ru:=r.unset i;have I:=r.YO h hx;refine#[ru.len,λb u e=>?_,ru.sh,λj d' m x y=>?_,ru.inj]
  .have:b≠a:=λz=>by subst z;rw[g] at e;cases e
   rw[jB this];exact ru.sub b u e
  .let(b,h3,J,h5):KA:=ru.ow j d' m x y
   have hb:b≠a:=λz=>by subst z;exact I #[j,d',m,x,y,h3]
   exact#[b,h3,J,h5.mono (Sm.refl _) λ_ z=>by rw[jB hb];exact z]
 refine#[F.jN hx g C (r.YO h hx),#[Sm.refl _,λb u e nb=>?_,λb e=>?_,λb e M _=>M],fE.set (by rw[h];exact#[rfl,rfl])]
 .have:b≠a:=λz=>by subst z;exact nb #[i,d,p,l,h,hx]
  rw[jB this];exact e
 .by_cases hb:b=a
  .subst hb;rw[jC] at e;cases e
  .rwa[jB hb] at e
def HA.write(r:HA K U B H G)(h:U[i]?=aA (.ow d p l))(hx:B[i]?=aA (aA (.ref a)))(j:oA K G ds vs) :
  DA K U B H G (U.set i (.ow (.l ds) p l)) (GA H a (.l vs)) G:=r.Di h hx #[vs,jC,j]
def lEa(s:NA X K P C Y)(A:Y.slot x=aA i)(I:(mB.endLine==c.line)=bA)(h:aAd a=bA)(J:IA X K P C a ca) :
  IA X K P C (.Call (.Attribute (.Name x p) ("append":fA) mB) [a] [] c) (.app i ca):=by
 have M:PE X (.Name x p) (NL i):=CC.oN s A;have j:PA X [a] (LI (tE K P C ca) IK):=nH J.v zJ (xC h _ _);have d:[a].all aAd=bA:=by rw[DC,h];rfl
 refine ZD s (TE.fD (Ge X5 Ij PySem.F.type_list_append Fd M j rfl (by
   rw[XA,XA];exact#[#[(iI d _ _).2,rfl],rfl]) I (xC h _ _) rfl) λB H Q q=>?_)
 let(U,G,v,U',r,e,k):VA:=q;replace e:(if FI U i then _ else eA)=_:=e;split at e
 .rename_i N;let(d0,O,R,Z):BB:=XZ N
  let(b,l,g0,t):KA:=r.ow i _ O R Z
  let(w,U1,e1,e):FA:=yB e
  refine#[.ref b,l,.inl #[rfl, ?_],U,G,w,U1,r,e1,λy H1 G1 a1 ry=>?_]
  .let(m,n,_):rA:=t;exact#[m,EB.of n]
  .split at e
   .rename_i ds p1 u;split at e
    .rename_i hz;cases e;let(G2,o,r2):rA:=a1.share ry
     let(b',f,g):rA:=o.qA.ow i _ _ _ u
     let(g1,m,n,z):yD:=g
     rw[l] at f;cases f
     have:=z.len
     refine#[b,m,y,rfl,rfl,n, ?_, ?_]
     .have:=GK hz
      lia
     .have a3:=o.qA.write u l (z.app (oA.cons r2 oA.nil));exact k _ _ _ (o.trans a3) (by show nA K G2 .lA _;simp[nA])
    .cases e
   .cases e
 .cases e
def xEa(u:NA X K P C Y)(M:Y.slot x=aA i)(N:(mB.endLine==d.line)=bA)(l:aAd a=bA)(O:IA X K P C a ca) :
  IA X K P C (.Call (.Attribute (.Name x p) ("extend":fA) mB) [a] [] d) (.ext i ca):=by
 have R:PE X (.Name x p) (NL i):=CC.oN u M;have m:PA X [a] (LI (tE K P C ca) IK):=nH O.v zJ (xC l _ _);have f:[a].all aAd=bA:=by rw[DC,l];rfl
 refine ZD u (TE.fD (Ge X5 Jj PySem.F.type_list_extend uBa R m rfl (by
   rw[XA,XA];exact#[#[(iI f _ _).2,rfl],rfl]) N (xC l _ _) rfl) λB H Q q=>?_)
 let(U,G,v,U',r,e,k):VA:=q;replace e:(if FI U i then _ else eA)=_:=e;split at e
 .rename_i Z;let(d0,p0,l0,h0):BB:=XZ Z
  let(b,n,g0,z):KA:=r.ow i _ p0 l0 h0
  let(w,U1,e1,e):FA:=yB e
  refine#[.ref b,n,.inl #[rfl, ?_],U,G,w,U1,r,e1,λy H1 G1 o ry=>?_]
  .let(s,t,_):rA:=z;exact#[s,EB.of t]
  .split at e
   .rename_i ds p1 es A;split at e
    .rename_i hz;cases e;obtain⟨c,rfl,gc,⟨zs,hc,g⟩,I,new⟩:=ry;let(b',h,j):rA:=o.qA.ow i _ _ _ A
     let(g1,s,t,J):yD:=j
     rw[n] at h;cases h;have l1:=J.len;have l2:=g.len;refine#[b,c,s,zs,rfl,rfl,t,hc, ?_, ?_]
     .have:=GK hz
      lia
     .exact k _ _ _ (o.trans (o.qA.write A n (J.app g))) (by show nA K G1 .lA _;simp[nA])
    .cases e
   .cases e
 .cases e
def oFa(g:NA X K P C Y){x:fA}{i:Nat}{p mB a:GB}(l:Y.slot x=aA i)(m:(mB.endLine==a.line)=bA) :
  IA X K P C (.Call (.Attribute (.Name x p) ("pop":fA) mB) [] [] a) (.NO i):=by
 refine ZD g (TE.fD (yHa X5 yk PySem.F.type_list_pop vBa (CC.oN g l) rfl m) λB H Q q=>?_);let(U,G,v,s,r,e,k):VA:=q;replace e:uR i U U[i]?=_:=e
 cases q0:U[i]? with
 |none=>rw[q0] at e;cases e
 |some sl =>
  rw[q0] at e;unfold uR at e;split at e
  .rename_i ds t z;cases z
   cases q:ds[ds.length-1]? with
   |none=>rw[q] at e;cases e
   |some d =>
    rw[q] at e;cases e;let(b,h,c):rA:=r.ow i _ _ _ q0
    let(u,vs,j,f):yD:=c
    let(x,n,o):rA:=f.get q
    refine#[.ref b,h,.inl #[rfl,vs,EB.of j],b,vs,x,rfl,rfl,j,by rw[f.len];exact n, ?_];exact k _ _ _ (r.write q0 h (ds:=ds.dropLast) (vs:=vs.dropLast) (by rw[Sj,Sj,f.len];exact f.take _)) o
  .cases e
def A5:GA (GA H p a) p b=GA H p b:=by
 funext q
 by_cases h:q=p
 .subst h;rw[jC,jC]
 .rw[jB h,jB h,jB h]
def HA.MO(r:HA K U B H G)(g:G a=eA)(n:¬yA U B a):HA K U B (GA H a o) G:=by
 refine#[r.len,λb u e=>?_,r.sh,λj m x y C=>?_,r.inj]
 .have:b≠a:=λz=>by subst z;rw[g] at e;cases e
  rw[jB this];exact r.sub b u e
 .let(b,h3,F,h5):KA:=r.ow j m x y C
  have hb:b≠a:=λz=>by subst z;exact n #[j,m,x,y,C,h3]
  exact#[b,h3,F,h5.mono (Sm.refl _) λ_ z=>by rw[jB hb];exact z]
theorem DA.MO(b:DA K U B H G j x m)(h:H a=eA)(g:m a=eA)(n:¬yA j B a):DA K U B H G j (GA x a o) m:=by
 refine#[b.qA.MO g n,#[b.ext.gg,λc u e y=>?_,λc e=>?_,b.ext.gn],b.sJ]
 .have:c≠a:=λz=>by subst z;rw[h] at e;cases e
  rw[jB this];exact b.ext.hh c u e y
 .by_cases r:c=a
  .subst r;rw[jC] at e;cases e
  .rw[jB r] at e;exact b.ext.hx c e
def uEa(n:NA X K P C Y)(hk:IA X K P C R Z)(hv:IA X K P C ve cv):IA X K P C (.Dict [aA R] [ve] pos) (.oQ Z cv):=by
 refine ZD n (TE.fD (eIa (by have:=n.hu;lia) hk.v hv.v) λB H Q q=>?_);let(U,G,v,i,r,e,k):VA:=q;let(w,o,e1,e):FA:=yB e
 let(w2,U2,e2,j):FA:=yB e
 unfold yT at j;split at j
 .rename_i J hs;cases j;intro p a sm;have s:=r.VU a;have gO:=WA.free r.sub a;refine#[U,G,w,o,((DA.refl r).GH a).qA,e1,λx H1 M c rx=>?_];have t:H1 p=aA (.ext (cC p [] 0)):=c.ext.hh p _ jC s;have N:M p=eA:=c.ext.gn p (by rw[jC];simp) gO s;have l:¬yA o B p:=λz=>s (c.own p z)
  let(b,rfl,kk):=BO hs rx.GL;refine#[o,M,w2,i,c.qA,e2,λy A O d ry=>?_];have a0:DA K U B H G i A O:=((DA.refl r).GH a).trans (c.trans d);have F:A p=aA (.ext (cC p [] 0)):=d.ext.hh p _ t l;have hG2:O p=eA:=d.ext.gn p (by rw[t];simp) N l;have f:¬yA i B p:=λz=>l (d.own p z)
  let(m,I,r3,s3):KA:=d.B4 ry
  have g:gC K m J b:=gC.mono (d.ext.gg.trans s3) kk;have a4:DA K U B H G i A m:=((DA.refl r).GH a).trans (c.trans I);have h:m p=eA:=I.ext.gn p (by rw[t];simp) N l;refine#[F,J,b,rfl,by rw[n.NC];exact gC.mono I.qA.sub g,λu ru ep=>?_];refine k _ _ m (a4.MO a h f) #[p,rfl,h,#[_,[y],#[_,jC], ?_,oA.cons r3 oA.nil],f,a];exact#[by simp,by rw[kM];simp,sm,λx hx=>by rw[qD.mp hx];exact g,rfl,.cons ru .nil]
 .cases j
def tEa(a:NA X K P C Y):IA X K P C (.Dict [] [] pos) .qL:=by
 refine ZD a (TE.fD dIa λB H Q q=>?_);let(U,G,v,g,r,e,k):VA:=q;cases e;intro p b c;let(d,v1):=(DA.refl r).Lr (ks:=[]) (ds:=[]) (vs:=[]) (xs:=[]) b #[Dl,lI _,c,(λx f=>nomatch f),rfl,.nil] oA.nil;exact k _ _ _ d v1
def sEa(d:NA X K P C Y){k v:xA}{a b:List E}{pos:GB}(hk:∀c,a=[c]->IA X K P C k c)(e:∀c,b=[c]->IA X K P C v c):IA X K P C (.Dict [aA k] [v] pos) (uT a b):=by
 unfold uT;split
 .exact uEa d (hk _ rfl) (e _ rfl)
 .exact nB
def vEa(d:NA X K P C Y)(hk:∀k c,b=[aA k]->e=[c]->IA X K P C k c)(f:∀v c,a=[v]->g=[c]->IA X K P C v c):IA X K P C (.Dict b a pos) (vT b a e g):=by
 induction b using bC with
 |nil =>
  induction a using bC with
  |nil=>exact nB
  |cons=>exact nB
 |cons k r =>
  induction r using bC with
  |cons=>exact nB
  |nil =>
   induction k using oG with
   |none=>exact nB
   |some k =>
    induction a using bC with
    |nil=>exact nB
    |cons v r =>
     induction r using bC with
     |cons=>exact nB
     |nil =>
      have i:=sEa (pos:=pos) d (λc h=>hk _ c rfl h) λc h=>f _ c rfl h
      exact i
def qSa(d:RB q X K P C Y)(h:u5 Y t=aA ty):PE X t (tC (zV ty))/\aAd t=bA:=by
 refine rA (PH.mp h) λx a g=>?_
 clear h;let(pos,rfl):=kR a;have h:t5 Y x=aA ty:=g;clear g;unfold t5 at h;split at h
 .rename_i e;let(b,f,i,j):oB:=CC.lF d e nofun
  have c:=d.blt x f;refine#[?_,rfl];split at h
  .rename_i a;cases h;subst a;exact LO b c (u:=.type "int") (by left) rfl
  .split at h
   .rename_i a;cases h;subst a;exact LO b c (u:=.type "bool") (by left) rfl
   .split at h
    .rename_i a;cases h;subst a;exact LO b c (u:=.type "str") (by left) rfl
    .split at h
     .rename_i a;cases h;subst a;exact LO b c (u:=.type "list") (by left) rfl
     .split at h
      .rename_i a;cases h;subst a;exact LO b c (u:=.type "tuple") (by left) rfl
      .split at h
       .rename_i a;cases h;subst a;exact LO b c (u:=.type "ValueError") (by left) rfl
       .cases h
 .cases h
def cFa(f:RB q X K P C Y)(u:Y.glob ("isinstance":fA)=.blt)(w:u5 Y t=aA ty)(m:aAd a=bA)(y:IA X K P C a ca) :
  IA X K P C (.Call (.Name ("isinstance":fA) p) [a,t] [] pos) (.GI ca [ty]):=by
 let(A,F,I,J):oB:=CC.lF f u nofun
 have M:=f.blt _ F;let(pt,n):=qSa f w;have i:PA X [a,t] (LI (tH K P C ca) (LI (tC (zV ty)) IK)):=nH y.h (nH pt zJ (xC n _ _)) (xC m _ _);have g:[t].all aAd=bA:=by rw[DC,n];rfl
 have N:=rR (p:=p) (pos:=pos) (Vy f.NC ty) A M (by left) i J I (xC m _ _) (iI g _ _).1;refine ZD f (TE.fD N λB H Q q=>?_);let(U,G,v,o,r,e,k):VA:=q;let(s,U1,O,e):FA:=yB e
 let(c,rfl):=DH e;refine#[U,G,s,o,r,O,λx R j l Z=>?_]
 cases q1:s.get o with
 |none=>rw[q1] at c;cases c
 |some d =>
  rw[q1] at c;erw[OG,MQ] at c
  cases q2:r0 ty d with
  |none=>rw[q2] at c;cases c
  |some b =>
   rw[q2] at c;erw[OG,vF,xF,rC] at c;subst c;exact#[j,d,x,b,l.qA.sub,rfl,Z.read l.qA q1,q2,k _ R j l (by show nA K j (.bl _) _;simp[nA])]
def D3(h:∀lo a p,b≠.Slice lo a eA p):US b:=λo i=>by
 induction b using TC with
 |Slice lo a st p =>
  induction st using oG with
  |none=>exact absurd rfl (h lo a p)
  |some s=>rfl
 |_=>rfl
end
section
variable{K:kA}
def T2(a:NA X K P C Y)(b:Y.slot x=aA i)(pos:GB):IA X K P C (.Name x pos) (.nD i):=by
 have c:=CC.oN a b (pos:=pos);refine ZD a (TE.fD (Oe (K:=K) (P:=P) (C:=C) c) λB H Q q=>?_);let(U,G,v,d,r,e,k):=q;exact#[U,G,v,d,r,e,k]
def jFa:IA X K P C e (.KI c):=eX (λt U=>rfl) λi z=>nomatch z
def nFa(f:NA X K P C Y)(w:Y.glob "len"=.blt)(y:Y.glob "set"=.blt)(n:aAd e=bA)(A:IA X K P C e c) :
  IA X K P C (.Call (.Name "len" p) [.Call (.Name "set" F) [e] [] g] [] pos) (.gN c):=by
 let(i,I,J,M):oB:=CC.lF f w nofun
 let(N,O,R,Z):oB:=CC.lF f y nofun
 have hp:PA X [e] (LI (tH K P C c) IK):=nH A.h zJ (xC n _ _);have j:=He (Xq f.calm) N (f.blt _ O) (by left:KJ "set"=aA (.type "set")) hp (pos:=g) (p:=F) Z R (xC n _ _) rfl;have l:=rR Tq i (f.blt _ I) Bl (nH j zJ rfl) (pos:=pos) (p:=p) M J rfl rfl;refine ZD f (TE.fD l λB H Q q=>?_);let(U,G,v,o,r,e,k):VA:=q;let(s,U1,e1,e):FA:=yB e
 let(a,rfl):=DH e;refine#[U,G,s,o,r,e1,λx H1 m i rx=>?_]
 cases q1:s.get o with
 |none=>rw[q1] at a;cases a
 |some d =>
  rw[q1] at a;erw[OG] at a;cases d<;>erw[mR,reduceCtorEq] at a;rename_i t
  cases q2:oD t with
  |none=>rw[q2] at a;cases a
  |some is =>
   rw[q2] at a;simp only at a;split at a
   .rename_i hz;cases a;let(b,vs,rfl,h3,h4):=(rx.read i.qA q1).l i.qA.sub;have u:=f.NC;refine#[b,vs,t,is,m,rfl,by rw[u];exact h3,by rw[u];exact h4,q2,hz,λp S hn=>?_];refine#[p,S,_,rfl,jC, ?_];exact k _ _ m (i.GH hn) (by show nA K m (.int _) _;simp[nA])
   .cases a
theorem td:∀{a:List fA} {b:List D} {c:List V} {d:D},oA K G b c->(a.zip b).lookup f=aA d->f∈a/\∃v,(a.zip c).lookup f=aA v/\nA K G d v
 |[],_,_,_,_,h=>by simp at h
 |n::a,[],_,_,_,h=>by simp at h
 |n::a,m::b,c,d,r,h=>by
  erw[oA] at r;let(v,o,rfl,e,g):=r;rw[sN,QG] at h ⊢
  cases q:(f==n) with
  |true =>
   rw[q] at h;cases h;exact#[by rw[EC q];simp,v,rfl,e]
  |false =>
   rw[q] at h;let(i,j,k,l):yD:=td g h
   exact#[QD _ i,j,k,l]
def yEa(g:NA X K P C Y):IA X K P C (.Attribute (.Name x p) f pos) (.fld (CM Y x) f):=by
 have s:=Xd g x p;refine ZD g (TE.fD (fIa s.h rfl) λB H Q q=>?_);let(U,G,v,j,r,e,k):VA:=q;let(l,O,t,e):FA:=yB e
 let(b,rfl):=DH e;refine#[U,G,l,j,r,t,λx u w i y=>?_]
 cases q1:l.get j with
 |none=>rw[q1] at b;cases b
 |some d =>
  rw[q1] at b;erw[OG] at b;have m:=g.NC;cases d<;>erw[uY,reduceCtorEq,Option.map_none] at b
  case ins c ns ds =>
   cases q2:(ns.zip ds).lookup f with
   |none=>rw[q2] at b;cases b
   |some R =>
    rw[q2] at b;cases b;let(a,z,A,Z,rfl,h1,F,I,n,h5):=(y.read i.qA q1).ins i.qA.sub;let(J,o,M,N):yD:=td I q2
    exact#[a,z,A,_,o,rfl,F,by rw[m];exact n.cl,by rw[m];exact n.no f J,M,k o u w i N]
def Rq(j:X.K=K):DE X (.builtin "isinstance") (λf H Q=>∃a c Da b,f=[.ref a,.ref Da]/\(∃i,H a=aA (.ext (BH a c i)))/\EE K c/\PySem.W.kitOne K (.ref c) (.ref Da)=aA b/\Q (.bl b) H):=by
 intro cA s B H f n Q I r h;obtain⟨a,c,Da,b,rfl,⟨i,k⟩,g,e,q⟩:=h;subst j;let(u,w,rfl,l,d):=aAH r;cases l;cases d;exact cM (N1 g) I.vD (I.LA a _ k).1 e nofun λm=>#[.bl b,H,I.tok m,rfl,q]
theorem xi:∀{a:List iA} {b:List jA},aAc (a.map V.ref) b->b=a.map Value.ref
 |[],_,.nil=>rfl
 |_::_,_,.cons r t=>by rw[vB,<- xi t];cases (show _=_ from r);rfl
def Sq(l:X.K=K):DE X (.builtin "isinstance") (λj H Q=>∃(a c p:iA) (d:List iA) (b:Bool),j=[.ref a,.ref p]/\(∃k,H a=aA (.ext (BH a c k)))/\EE K c/\H p=aA (.t (d.map V.ref))/\uS K (.ref c) (d.map Value.ref)=aA b/\Q (.bl b) H):=by
 intro cA s B H j M Q I r h;obtain⟨a,c,p,d,b,rfl,⟨k,m⟩,g,o,e,q⟩:=h;subst l;let(u,w,rfl,t,f):=aAH r;cases t;cases f;obtain⟨_,v,x,⟨oc,od,i,y⟩,A,C,n,F⟩:=I.LA p _ o;cases (show oc=_ from C);cases (show i=_ from F);obtain rfl:=xi x;exact PySem.W.kia_tup (N1 g) I.vD (I.LA a _ m).1 A e nofun λJ=>#[.bl b,H,I.tok J,rfl,q]
inductive QN(K:PySem.W.Frag):List (List Str×List Str)->List Addr->Prop
 |nil:QN K [] []
 |cons {s n:List fA} {D:iA} {sn:List (List fA×List fA)} {Ds:List iA} (hs:∀c∈s,∀C,CB K cB c=aA (aA (.ref C))->GS K (.ref C) D=bA)
   (hn:∀c∈n,∀C,CB K cB c=aA (aA (.ref C))->BN K C D=bA) (t:QN K sn Ds):QN K ((s,n)::sn) (D::Ds)
theorem Ei(a:CB K cB c=aA (aA (.ref d))):∀{f:List (List fA×List fA)} {g:List iA} {b:Bool},QN K f g->UM c f=aA b->uS K (.ref d) (g.map Value.ref)=aA b
 |_,_,b,.nil,e=>by cases e;rfl
 |_,_,b,.cons h i t,e=>by
  erw[UM] at e;rw[vB];unfold uS;split at e
  .rename_i j;cases e;rw[S_ (h c (↑j) d a)]
  .split at e
   .rename_i k;rw[T_ (i c (↑k) d a)];exact Ei a t e
   .cases e
theorem De(c:RB q X K P C Y):∀{b:List xA} {d:List (List fA×List fA)},P4 Y b=aA d->∃a,QN K d a/\PA X b (λB H Q=>Q (a.map V.ref) H)/\a.length=b.length
 |[],_,h=>by cases h;exact#[[],.nil,zJ,rfl]
 |e::b,d,h=>by
  refine rA (PH.mp (show(aAp e).bind _=_ from h)) λx f g=>?_
  clear h;let(p,rfl):=kR f;split at g
  .rename_i s n f;let(i,q,j):rA:=wH.mp g
   obtain rfl:=j;let(a,k,l,m):KA:=De c q
   let(o,r,t,A):oB:=CC.wa c f nofun
   let(D,u,w,y):KA:=(c.ID x s n r).ex
   exact#[D::a,.cons w y k,TA.sO (nH (Z2 o u (v:=.ref D) rfl t) l rfl) λB H Q q=>q,by rw[KC,KC,m]]
  .cases g
def vb(F:RB I X K P C Y)(q:tE K P C (.tK ca m) B H Q):tH K P C ca B H λx g=>∃a i b h,x=.ref a/\WA h g/\(∃l,g a=aA (.ext (BH a i l)))/\EE K i/\(∀{n:List iA},QN K m n->uS K (.ref i) (n.map Value.ref)=aA b)/\Q (.bl b) g/\∀p o,g p=eA->Q (.bl b) (GA g p o):=by
 let(U,G,v,s,r,e,k):VA:=q;let(u,J,w,e):FA:=yB e
 let(f,rfl):=DH e;refine#[U,G,u,s,r,w,λy g h j z=>?_]
 cases q1:u.get s with
 |none=>rw[q1] at f;cases f
 |some d =>
  rw[q1] at f;erw[OG] at f;cases d<;>erw[u0,reduceCtorEq] at f;rename_i c _
  cases q2:UM c m with
  |none=>rw[q2] at f;cases f
  |some b =>
   rw[q2] at f;cases f;let(a,i,l,rfl,g1,g2,g3,_):=(z.read j.qA q1).zC j.qA.sub;exact#[a,i,b,h,rfl,j.qA.sub,#[l,g3],g2,λt=>Ei g1 t q2,k _ g h j (by show nA K h (.bl b) _;simp[nA]),λp o A=>k _ _ h (j.GH A) (by show nA K h (.bl b) _;simp[nA])]
def bFa(c:RB q X K P C Y)(hf:Y.glob ("isinstance":fA)=.blt)(f:aAd a=bA)(ha:IA X K P C a ca):IA X K P C (.Call (.Name ("isinstance":fA) p) [a,t] [] pos) (O4 Y t ca):=by
 induction t using TC with
 |Name x g =>
  show IA X K P C _ (MR Y x ca);unfold MR;split
  .rename_i s n hx;exact nB
  .rename_i s n hx;let(i,j,l,m):oB:=CC.lF c hf nofun
   have o:=c.blt _ j;let(u,v,w,x4):oB:=CC.wa c hx nofun
   let(Da,d1,d2,d3):KA:=(c.ID x s n v).ex
   have d:PA X [a,.Name x g] (LI (tH K P C ca) (LI (tC (.ref Da)) IK)):=nH ha.h (nH (Z2 u d1 rfl w) zJ rfl) (xC f _ _);have A:=rR (p:=p) (pos:=pos) (Rq c.NC) i o (by left) d m l (xC f _ _) rfl;refine ZD c (TE.fD A λB H Q q=>?_);let(U,G,e,F,r,I,k):VA:=vb c q
   refine#[U,G,e,F,r,I,λy J M N O=>?_];let(R,Z,b,G2,rfl,_,g3,g2,ky,q1,_):=k y J M N O;refine#[R,Z,Da,b,rfl,g3,g2, ?_,q1];have z:=ky (.cons d2 d3 .nil);erw[vB,LJ,uS] at z;split at z
   .rename_i z1;rw[z1];exact z
   .rename_i z1;rw[z1];exact z
   .cases z
  .exact nB
 |Tuple es k0 g =>
  show IA X K P C _ (NR Y es ca);unfold NR;split
  .rename_i sn Ox;split
   case isFalse=>exact nB
   rename_i hle;let(i,j,l,m):oB:=CC.lF c hf nofun
   have o:=c.blt _ j;let(Ds,u,v,w):KA:=De c Ox
   have d:PA X [a,.Tuple es k0 g] (LI (tH K P C ca) (LI (Wh λB H Q=>Q (Ds.map V.ref) H) IK)):=nH ha.h (nH (Me v) zJ rfl) (xC f _ _);have A:=rR (p:=p) (pos:=pos) (Sq c.NC) i o (by left) d m l (xC f _ _) rfl;refine ZD c (TE.fD A λB H Q q=>?_);let(U,G,e,F,r,I,k):VA:=vb c q
   refine#[U,G,e,F,r,I,λy J M N O=>?_];obtain⟨R,Z,b,G2,rfl,_,⟨pp,g3⟩,g2,ky,_,q2⟩:=k y J M N O;refine#[?_,λt ht=>?_]
   .rw[pA,w,kM];lia
   .refine#[R,Z,t,Ds,b,rfl,#[pp,by rw[jB (IE g3 ht)];exact g3],g2,jC,ky u,q2 t _ ht]
  .exact nB
 |_=>exact nB
def hFa(c:NA X K P C Y)(w:Y.glob f=.cls a)(st:(e::m).all aAd=bA)(y:PA X (e::m) (ML K P C A)):IA X K P C (.Call (.Name f p) (e::m) [] pos) (.make f a A):=by
 let(I,J,N,h4):oB:=CC.lF c w nofun
 let(h,fa,fd,ps,O,R,b):VA:=(c.cls f a J).ex
 let(M,n,F,Z):oB:=b
 rw[DC,XA] at st;refine ZD c (TE.fD (iIa M F c.rm I R Z .nil bV y N (xC st.1 _ _) (iI st.2 _ _).1) λB H Q q=>?_);let(U,G,v,U',r,e,k):VA:=q;let(i,U1,e1,e):FA:=yB e
 split at e
 .rename_i hl;cases e;refine#[U,G,i,_,r,e1,λd H1 G1 s t x g nx j ne=>?_];have u:d.length=a.length:=t.len.trans hl;rw[RD];refine#[x,h,g,d,rfl,u,jC,n,rfl, ?_];rw[A5];have l:(GA H1 g (.own x)) x=eA:=by rw[jB (rD ne)];exact nx
  have a2:=(s.GH (o:=.own x) j).yJ (o:=.ins h g (a.zip d)) l;refine k (.ref x) _ _ a2 ?_;show nA K _ (.ins f a i) _;erw[nA];exact#[x,h,g,d,rfl,O,jC,oA.mono (Sm.laid (WA.free s.qA.sub nx)) i t,n,u.symm]
 .cases e
theorem ud:∀{a:List fA} {b:List Z},a.contains f=dA->(a.zip b).lookup f=eA
 |[],_,_=>by simp
 |n::a,[],_=>by simp
 |n::a,v::b,h=>by(rw[Bk,YR] at h;rw[sN,QG,h.1];exact ud h.2)
def Cd(st:b.all aAd=bA)(d:(mB.endLine==pos.line)=bA)(g:b.length<29)(env:ZK)(h:attributeBase o m env (eval o env)=eval o env:=by rfl):eval (.Call (.Attribute o m mB) b [] pos) env=(do
   let e <- eval o env
   standAt mB.atName
   let (f,first) <- holding [e] (getMethod e m (do return (<- importBound o env).getD bA))
   callWith pos f first (BE pos (WB b env)) (backToKw pos (keywordEach [] env))):=by
 rw[arm_eval_Call]
 have a:methodCallForm (b.length+([]:List AW).length) (BE pos (WB b env)) (backToKw pos (keywordEach [] env))=bA:=by
  unfold methodCallForm;rw[(iI st env pos).2];erw[QH]
  have:(backToKw pos (keywordEach [] env))=[]:=rfl
  rw[this];simp
  lia
 have c:methodCallPos bA o env mB pos=pure pos:=by unfold methodCallPos;simp[d]
 unfold methodCall;rw[a];unfold calleeOf;erw[if_true,c,h];rfl
def fBa{B:St}{H:Hp}{Q:VK}{U j o:Env}{G:Hp}{i:Nat}{f:String}{m:fA}{y:List E}{c:List Hd}{n:Hd}{v:RV}{a A F:iA}{fs:List (fA×V)}(p:B[i]?=aA (aA (.ref a)))(R:H a=aA (.ins A F fs))(X:fs.lookup m=eA)(r:HA K U B H G)(Y:vC P C y U=some (.ok c,j))(e:HC (P f) (C f) (n::c) j=some (.ok v,o))
  (q:∀g h,DA K U B H G j g h->FE K g h (yA j B) (UC H) B n (.ref a)) (s:∀d,n≠.val (.ow d)) (k:∀x g h,DA K U B H G o g h->dC K g h (yA o B) (UC H) v x->Q x g) (t:TA) (Z:∀B H Q,rH K P C y B H Q->t B H Q) :
  X4 A m (SO K (P f).length (C f)) [] (λ_ _ _=>False) (NL i) t B H Q:=by
 refine#[.ref a,p,a,F,_,rfl,R,X,Z _ _ _ #[U,G,c,j,r,Y,λI g h J rx=>?_]];have u:OD K g h (yA j B) (UC H) B (n::c) (.ref a::I):=#[.ref a,I,rfl,q g h J,rx,λd b z=>absurd z (s _)]
 let(as,G2,l):gD:=pQ J u e
 let(w,M,d2,d3,_,d4):zD:=l
 dsimp only;rw[RD];refine#[?_,as,G2,v,w,M,d2,d3,λx N O a hv=>?_]
 .have:=M.len
  rw[pA] at this
  lia
 .let(a5,v5):=d4 x N O a hv;exact k x N O a5 v5
def iFa(Z:NA X K P C Y)(hi:Y.slot x=aA i)(hm:Y.gl (dot m)=.vE tb)(st:n.all aAd=bA)(o:(mB.endLine==pos.line)=bA)(t:n.length<29)(ha:PA X n (rH K P C cs))(hz:n=[]->cs=[]):IA X K P C (.Call (.Attribute (.Name x p) m mB) n [] pos) (.JI i m tb cs):=by
 have hp:=CC.oN Z hi (pos:=p);refine ZD Z (λcA s B H Q I q=>?_);let(U,G,v,U',r,e,k):VA:=q
 have u:∀{c:fA} {g:List fA} {ds:List D} {h0:Hd} {a y dx:iA} {vs:List V},(match YF c g m tb with | some f=>(vC P C cs U).bind λJ h=>HC (P f) (C f) (h0::J) h | none=>eA)=some (.ok v,U')->B[i]?=aA (aA (.ref a))->H a=aA (.ins y dx (g.zip vs))->CB K cB c=aA (aA (.ref y))->HN K y g ->
   (∀h H1 G1,DA K U B H G h H1 G1->FE K H1 G1 (yA h B) (UC H) B h0 (.ref a))->(∀d,h0≠.val (.ow d))->sA (~~~X) X.A (eval (.Call (.Attribute (.Name x p) m mB) n [] pos) X.env) (EP X cA B Q) X.xe s:=by
  intro c g ds h0 a y dx vs e j hH h1 h4 Fx Na;split at e
  .rename_i f b;unfold YF at b;split at b
   .cases b
   .rename_i GQ;let(Cb,N):=(Z.vE m tb c f hm b).ex;let(fa,fd,ps,k0,hn,M,O):VA:=N;let(F,hr,hb,pO):oB:=O
    rw[hn] at h1;cases h1;let(hd0,h,e1,e):FA:=yB e
    have hK:=Z.NC;have R:UD X.K y:=by rw[hK];exact h4.cl
    have fin:=fBa (m:=m) j hH (ud (↑GQ)) r e1 e (Fx h) Na k
    induction n using bC with
    |nil =>
     cases hz rfl;refine kIa hp R M F hr hb .nil bV (Cd st o t _) cA s B H Q I (fin _ λB' H' Q' z=>?_);let(U2,G2,lU,U3,r2,e2,k2):VA:=z;rw[vC] at e2;cases e2;exact k2 [] H' G2 (DA.refl r2) rfl
    |cons e0 es0 =>
     have st0:=st;rw[DC,XA] at st;exact jIa hp R M F hr hb .nil bV ha (xC st.1 _ _) (iI st.2 _ _).1 (Cd st0 o t _) cA s B H Q I (fin _ λ_ _ _ z=>z)
  .cases e
 replace e:(match U[i]? with | some (.sh (.ins c g ds))=>(match YF c g m tb with | some f=>(vC P C cs U).bind λJ h=>HC (P f) (C f) (.val (.sh (.ins c g ds))::J) h | none=>eA) | _=>eA)=some (.ok v,U'):=e;split at e
 .rename_i c g ds J;let(x0,j,l):rA:=r.sh i _ J
  have rx1:=l;erw[nA] at l;let(a,Cb,dx,vs,rfl,h1,h2,h3,h4,h5):=l
  exact u (ds:=ds) e j (r.sub _ _ h2) h1 h4 (λ_ H1 G1 a1=>nA.mono a1.ext.gg _ rx1) λd z=>nomatch z
 .cases e
end
section
variable{X:Cx}{K:kA}{P:bB}{C:Calls}{Y:CC}
def uFa(b:NA X K P C Y){x m:fA}{p mB a:GB}:IA X K P C (.Call (.Attribute (.Name x p) m mB) [] [] a) (C5 Y x m mB a):=nB
end
section
variable{X:Cx}{K:kA}{P:bB}{C:Calls}{Y:CC}
def wEa(e:NA X K P C Y)(f:∀v∈a,IA X K P C v (cE Y v))(d:IA X K P C (.Dict b a pos) c):IA X K P C (.Dict b a pos) (ZX b a (rB Y a) c):=d
def kEa(c:NA X K P C Y){x m:fA}{a:xA}{p mB b:GB}:IA X K P C (.Call (.Attribute (.Name x p) m mB) [a] [] b) (dQ Y x m mB b a):=by
 unfold dQ
 all_goals exact nB
end
structure HB(K:kA)(U:Env)(B:St)(H G:Hp)(U':Env)(B':St)(H' G':Hp):Prop where
 qA:HA K U' B' H' G'
 ext:Ext (yA U B) H G H' G'
 own:∀a,yA U' B' a->yA U B a\/H a=eA
 un:∀i:Nat,U'[i]?=aA .un->U[i]?=aA .un/\B'[i]?=B[i]?
 pin:∀(i:Nat) d l,U[i]?=aA (.ow d bA l)->B'[i]?=B[i]?/\∃d',U'[i]?=aA (.ow d' bA l)
 len:U'.length=U.length
section
variable{K:kA}
theorem HB.refl(r:HA K U B H G):HB K U B H G U B H G:=#[r,Ext.refl,λ_ h=>.inl h,λ_ h=>#[h,rfl],λ_ d _ h=>#[rfl,d,h],rfl]
theorem DA.s(r:HA K U B H G)(a:DA K U B H G j u y):HB K U B H G j B u y:=by
 refine#[a.qA,a.ext,λx h=>.inl (a.own x h),λi h=>#[?_,rfl],λi d l h=>#[rfl, ?_], ?_]
 .have:=a.sJ i
  rw[h] at this
  cases e:U[i]? with
  |none=>rw[e] at this;exact this.elim
  |some s=>rw[e] at this;cases s<;>first | rfl | exact this.elim
 .have:=a.sJ i
  rw[h] at this
  cases e:j[i]? with
  |none=>rw[e] at this;exact this.elim
  |some s =>
   rw[e] at this
   cases s with
   |ow m C F=>let(rfl,rfl):=this;exact#[m,rfl]
   |sh m=>exact absurd (show bA=dA from this) (by simp)
   |_=>exact this.elim
 .rw[a.qA.len,r.len]
theorem HB.trans(a:HB K U B H G m r u y)(b:HB K m r u y C F I J):HB K U B H G C F I J:=by
 refine#[b.qA,a.ext.trans a.own b.ext,λx h=>?_,λi h=>?_,λi d l h=>?_,b.len.trans a.len]
 .rcases b.own x h with z | z
  .exact a.own x z
  .exact .inr (a.ext.hx x z)
 .let(h1,h2):=b.un i h;let(h3,j):=a.un i h1;exact#[h3,h2.trans j]
 .let(h1,M,h2):=a.pin i d l h;let(h3,j):=b.pin i M l h2;exact#[h3.trans h1,j]
def UG(K:kA)(U:Env)(B:St)(H G:Hp)(e:Env)(D:Ends):Fl->Prop
 |.nx=>∀c b d,HB K U B H G e c b d->D.nx c b
 |.bk=>∀c b d,HB K U B H G e c b d->D.bk c b
 |.ct=>∀c b d,HB K U B H G e c b d->D.ct c b
 |.rt v=>∀x c b d,HB K U B H G e c b d->dC K b d (yA e c) (λa=>yA U B a\/H a=eA) v x->D.rt x b
 |.ex _=>False
def UG.pre{D:Ends}(a:HB K U B H G y C F I)(h:UG K U B H G J D u):UG K y C F I J D u:=by
 induction u using Fl.casesOn with
 |nx=>exact λj m r b=>h j m r (a.trans b)
 |bk=>exact λj m r b=>h j m r (a.trans b)
 |ct=>exact λj m r b=>h j m r (a.trans b)
 |rt v=>exact λx j m r b M=>h x j m r (a.trans b) (M.KH λc z=>by
   rcases z with z | z
   .exact a.own c z
   .exact .inr (a.ext.hx c z))
 |ex e=>exact h
end
def tS(K:kA)(P:bB)(C:Calls)(W:Nat)(c:S):TS:=λD B H=>∃(U:Env) (G:Hp) (a:Fl) (b:Env),HA K U B H G/\ex P C W c U=aA (a,b)/\UG K U B H G b D a
def sF(K:kA)(P:bB)(C:Calls)(W:Nat)(c:List S):TS:=λD B H=>∃(U:Env) (G:Hp) (a:Fl) (b:Env),HA K U B H G/\JA P C W c U=aA (a,b)/\UG K U B H G b D a
def TS.uE(h:PS X e t)(w:∀D B H,u D B H->t D B H):PS X e u:=λcA s B H D I q=>h cA s B H D I (w D B H q)
def TS.PZ(h:uC X e t)(w:∀D B H,u D B H->t D B H):uC X e u:=λcA s B H D I q=>h cA s B H D I (w D B H q)
section
variable{X:Cx}{K:kA}
def ZH{r:zA Z}(h:r.mC f=aA (b,U))(n:∀e,b≠.ex e):∃a c,r=some (.ok a,c)/\f a c=aA (b,U):=by
 unfold zA.mC at h;split at h
 .cases h
 .cases h;exact absurd rfl (n _)
 .exact#[_,_,rfl,h]
def UG.ne{D:Ends}(h:UG K U B H G m D j):∀e,j≠.ex e:=λe z=>by subst z;exact h
def iLa:uC X [] (sF K P C W []):=TS.PZ kf λD B H a=>by
 let(U,G,b,c,r,e,k):VA:=a;erw[JA,rC,cF] at e;let(rfl,rfl):=e;exact k B H G (HB.refl r)
def hLa{st:MA}{aAj:List MA}(g:PS X st (tS K P C W c))(h:uC X aAj (sF K P C W i)):uC X (st::aAj) (sF K P C W (c::i)):=by
 refine TS.PZ (L3 g h) λD B H b=>?_
 let(U,G,j,l,r,e,k):VA:=b;rw[JA] at e
 cases q:ex P C W c U with
 |none=>rw[q] at e;cases e
 |some y =>
  let(a,d):=y;rw[q] at e;refine#[U,G,a,d,r,q, ?_]
  induction a using Fl.casesOn with
  |nx=>exact λn o m f=>#[d,m,j,l,f.qA,e,k.pre f]
  |bk=>cases e;exact k
  |ct=>cases e;exact k
  |rt v=>cases e;exact k
  |ex x=>cases e;exact k
def HA.kQa(r:HA K U B H G)(e:store i v U=aA F)(h:dC K H G (yA U B) new v x) :
  HA K F (B.set i (aA x)) H G/\(∀a,yA F (B.set i (aA x)) a->yA U B a\/new a)/\(∀j:Nat,F[j]?=aA .un->U[j]?=aA .un/\(B.set i (aA x))[j]?=B[j]?) /\
  (∀(j:Nat) d l,U[j]?=aA (.ow d bA l)->(B.set i (aA x))[j]?=B[j]?/\∃Z,F[j]?=aA (.ow Z bA l))/\F.length=U.length:=by
 have key:∃sl,i<U.length/\F=U.set i sl/\(∀d l,U[i]?≠aA (.ow d bA l))/\((∃d,v=.sh d/\sl=.sh d)\/∃d,v=.ow d/\sl=.ow d dA dA):=by
  unfold store at e;split at e
  .cases e
  .cases e
  .cases e
  .rename_i s h1 h2 h3;have O:∀d l,U[i]?≠aA (.ow d bA l):=λd l z=>by rw[h3] at z;cases z;exact h1 _ _ rfl
   have P:=(LD.mp h3).1
   induction v using RV.casesOn with
   |sh d=>cases e;exact#[_,P,rfl,O,.inl #[d,rfl,rfl]]
   |ow d=>cases e;exact#[_,P,rfl,O,.inr #[d,rfl,rfl]]
   |od d=>cases e
 let(sl,hi,rfl,np,I):=key;have Q:i<B.length:=by rw[<- r.len];exact hi
 have hx:(B.set i (aA x))[i]?=aA (aA x):=NF Q;have ne:∀j:Nat,j≠i->(B.set i (aA x))[j]?=B[j]?:=λj h=>QC (λz=>h z.symm)
 have u:∀(j:Nat) s,(U.set i sl)[j]?=aA s->(j=i/\s=sl)\/(j≠i/\U[j]?=aA s):=λj s h=>by
  rcases pH h with ⟨h1,h2,_⟩ | h
  .exact .inl #[h1,h2]
  .exact .inr h
 refine#[#[by rw[eE,eE];exact r.len,r.sub,λj d h1=>?_,λj d p l h1=>?_,λj k d p l Z p' l' a h1 h2 h3 J=>?_],λa #[j,d,p,l,h1,h2]=>?_,λj h1=>?_,λj d l h1=>?_,by rw[eE]]
 .rcases u j _ h1 with ⟨rfl,z⟩ | ⟨C,z⟩
  .rcases I with ⟨y,rfl,rfl⟩ | ⟨y,rfl,rfl⟩
   .cases z;exact#[x,hx,h]
   .cases z
  .rw[ne j C];exact r.sh j d z
 .rcases u j _ h1 with ⟨rfl,z⟩ | ⟨C,z⟩
  .rcases I with ⟨y,rfl,rfl⟩ | ⟨y,rfl,rfl⟩
   .cases z
   .cases z;let(a,rfl,g,o,_,_):=h;exact#[a,hx,g,o]
  .rw[ne j C];exact r.ow j d p l z
 .rcases u j _ h1 with ⟨rfl,z⟩ | ⟨C,z⟩
  .rcases u k _ h2 with ⟨rfl,M⟩ | ⟨R,M⟩
   .rfl
   .rcases I with ⟨y,rfl,rfl⟩ | ⟨y,rfl,rfl⟩
    .cases z
    .let(b,rfl,g,o,no,_):=h;rw[hx] at h3;cases h3;rw[ne k R] at J;exact absurd #[k,_,_,_,M,J] no
  .rcases u k _ h2 with ⟨rfl,M⟩ | ⟨R,M⟩
   .rcases I with ⟨y,rfl,rfl⟩ | ⟨y,rfl,rfl⟩
    .cases M
    .let(b,rfl,g,o,no,_):=h;rw[hx] at J;cases J;rw[ne j C] at h3;exact absurd #[j,_,_,_,z,h3] no
   .rw[ne j C] at h3;rw[ne k R] at J;exact r.inj _ _ _ _ _ _ _ _ _ z M h3 J
 .rcases u j _ h1 with ⟨rfl,z⟩ | ⟨C,z⟩
  .rcases I with ⟨y,rfl,rfl⟩ | ⟨y,rfl,rfl⟩
   .cases z
   .let(b,rfl,g,o,no,m):=h;rw[hx] at h2;cases h2;exact .inr m
  .rw[ne j C] at h2;exact .inl #[j,d,p,l,z,h2]
 .rcases u j _ h1 with ⟨rfl,z⟩ | ⟨C,z⟩
  .rcases I with ⟨y,rfl,rfl⟩ | ⟨y,rfl,rfl⟩<;>cases z
  .exact#[z,ne j C]
 .by_cases Y:j=i
  .subst Y;exact absurd h1 (np d l)
  .exact#[ne j Y,d,by rw[QC (λz=>Y z.symm)];exact h1]
theorem DA.store(r:HA K U B H G)(a:DA K U B H G y C F)(e:store i v y=aA I)(h:dC K C F (yA y B) (UC H) v x):HB K U B H G I (B.set i (aA x)) C F:=by
 let(h1,m):=a.qA.kQa e h;let(h2,h3,J,h5):oB:=m
 have s:=DA.s r a;refine#[h1,a.ext,λb z=>?_,λj z=>?_,λj d l z=>?_,h5.trans s.len]
 .rcases h2 b z with z | z
  .exact s.own b z
  .exact .inr z
 .let(M,u):=h3 j z;let(O,Q):=s.un j M;exact#[O,u]
 .let(_,P,u):=s.pin j d l z;exact J j P l u
def HA.rV(r:HA K U B H G)(e:store i (.sh d) U=aA j)(h:nA K G d x):HB K U B H G j (B.set i (aA x)) H G :=
 DA.store r (DA.refl r) e h
def gB(K:kA)(one:Bool)(is:List Nat):TG:=λv B H Q=>∃(U:Env) (G:Hp) (d:D) (a:Env),HA K U B H G/\nA K G d v/\eB one is d U=aA a/\∀b,HB K U B H G a b H G->Q b H
def zQ(K:kA)(is:List Nat):ON:=λd B H Q=>∃(U:Env) (G:Hp) (a:List D) (b:Env),HA K U B H G/\oA K G a d/\aAq is a U=aA b/\∀c,HB K U B H G b c H G->Q c H
def sIa(h:PG X c (NM i)):PG X c (gB K bA [i]):=by
 intro cA s B H v u Q I f b;let(U,G,a):gD:=b;let(d,g,r,hd,e,k):fC:=a
 exact h cA s B H v u Q I f (k _ (r.rV (by simpa only[eB] using e) hd))
def yIa:WJ X [] (zQ K []):=λcA s B H h f Q I g b=>by
 let(U,G,a):gD:=b;let(c,i,r,hd,e,k):fC:=a
 induction c using bC with
 |nil =>
  erw[aAq,rC] at e;subst e;erw[oA] at hd;subst hd;exact xIa cA s B H [] f Q I g #[rfl,k B (HB.refl r)]
 |cons d c=>simp[aAq] at e
def wIa(h:PG X e (NM i))(t:WJ X b (zQ K is))(l:(OH (e::b) X.env).map (·.2)=assign e X.env::(OH b X.env).map (·.2)):WJ X (e::b) (zQ K (i::is)) :=
 λcA s B H z m Q I n f=>by
  let(U,G,a):gD:=f;let(c,o,r,hd,e,k):fC:=a
  induction c using bC with
  |nil=>simp[aAq] at e
  |cons d c =>
   erw[aAq] at e
   cases q:store i (.sh d) U with
   |none=>rw[q] at e;cases e
   |some p =>
    rw[q] at e;erw[oA] at hd;let(v,g,rfl,u,w):=hd;have j:=r.rV q u;exact vIa h t l cA s B H (v::g) m Q I n #[v,g,rfl,p,G,c,o,j.qA,w,e,λx y=>k x (j.trans y)]
theorem Lg:∀{is:List Nat} {a:List D} {U b:Env},aAq is a U=aA b->a.length=is.length
 |[],[],_,_,_=>rfl
 |[],_::_,_,_,e=>by simp[aAq] at e
 |_::_,[],_,_,e=>by simp[aAq] at e
 |i::is,d::a,U,b,e=>by
  erw[aAq] at e
  cases q:store i (.sh d) U with
  |none=>rw[q] at e;cases e
  |some c=>rw[q] at e;simp[Lg e]
def Qe(g:NA X K P C Y)(t:WJ X c (zQ K is))(j:(OH c X.env).length=is.length)(f:(OH c X.env).findIdx? (·.1)=eA):PG X (.Tuple c q pos) (gB K dA is) :=
 λcA s B H v u Q I l h=>by
  let(U,G,b):gD:=h;let(d,m,r,hd,e,k):fC:=b
  induction d using D.casesOn with
  |t n =>
   erw[eB] at e;erw[nA] at hd;let(a,o,rfl,p,i):=hd;refine uIa g.calm t j f cA s B H (.ref a) u Q I l #[a,o,rfl, ?_, ?_,U,G,n,m,r,i,e,k]
   .rw[g.NC];exact hI r.sub p
   .rw[i.len];exact Lg e
  |_=>erw[eB,reduceCtorEq] at e
end
mutual
noncomputable def eTa(x:fA):MA->Bool
 |.For _ it body _ _=>(aAp it==aA x)||UR x body
 |.If _ a b _=>UR x a||UR x b
 |_=>dA
noncomputable def UR(x:fA):List MA->Bool
 |[]=>dA
 |s::r=>eTa x s||UR x r
end
def yO(Y:CC)(it:xA)(body:List MA)(a:List E):List E :=
 match aAp it with
 |some x=>(match Y.slot x with | some i=>if UR x body then [.nD i] else a | none=>a)
 |none=>a
def lV(Y:CC)(x:fA)(args:List xA):S:=if args.all aAd&&(decide (args≠[])&&decide (args.length<=100)) then(match Y.glob x with | .exc=>.HL x (rB Y args) | .tJ=>.Y3 x (rB Y args) | _=>.uA) else .uA
def BR(Y:CC)(e:xA):S:=match VM e with
 |some x=>lV Y x.1.1 x.2.1
 |none=>.uA
def QM:List YI->Option (fA×fA×List MA)
 |[.ExceptHandler (aA c) (aA n) body _]=>(aAp c).map λx=>(x,n,body)
 |_=>eA
def zx(h:QM a=aA (x,n,body)):∃p q,a=[.ExceptHandler (aA (.Name x p)) (aA n) body q]:=by
 obtain _ | ⟨⟨ty,b,e,f⟩,_ | ⟨_,_⟩⟩:=a
 .exact JE h
 .obtain _ | c:=ty
  .exact JE h
  .obtain _ | d:=b
   .exact JE h
   .replace h:(aAp c).map (λx=>(x,d,e))=aA (x,n,body):=h
    cases hc:aAp c with
    |none=>rw[hc] at h;exact JE h
    |some y =>
     rw[hc] at h;cases h;let(p,rfl):=kR hc;exact#[_,_,rfl]
 .obtain _ | c:=ty<;>obtain _ | d:=b<;>exact JE h
def Fo:List MA->Option (fA×fA)
 |[.Assign [t] v _]=>(aAp t).bind λy=>(aAp v).map λn=>(y,n)
 |_=>eA
noncomputable def di(Y:CC)(a:List S)(x n:fA)(body:List MA):S:=.uA
noncomputable def ei(Y:CC)(a:List S)(x n:fA)(body:List MA):S:=.uA
def By(n:fA)(body:List MA):Bool:=match Fo body with
 |some (_,a)=>a==n
 |none=>dA
noncomputable def xV(a:List S)(b:List YI)(o f:List MA):S:=.uA
def l5(Y:CC)(a:List S)(b:List YI):S:=xV a b [] []
def j5(Y:CC)(a:List S)(b:List YI):S:=l5 Y a b
def m5(Y:CC)(a:List S)(b:List YI):S:=j5 Y a b
def SR(Y:CC)(a:List S)(b:List YI)(o f:List MA):S :=
 if o.isEmpty&&f.isEmpty then(match QM b with
  |some (x,n,body)=>if(Y.names.lookup n==aA .local)&&Y.top then(if By n body then di Y a x n body else if body.isEmpty then .uA else ei Y a x n body) else .uA
  |none=>if Y.top then m5 Y a b else .uA) else .uA
def TN:xA->xA
 |.Subscript a i p=>if GO i then TN a else .Subscript a i p
 |e=>e
noncomputable def Dy:xA->Bool
 |.Call _ _ _ _=>bA
 |_=>dA
noncomputable def Ry:xA->Bool
 |.Subscript _ _ _=>bA
 |_=>dA
def zR(Y:CC)(e:xA)(c:S):S:=if Ry e&&Dy (TN e) then .kN (cE Y (TN e)) (cE Y e) else c
noncomputable def AR(e:xA)(c:E):S:=.ret c
noncomputable def lOa(Y:CC)(s:MA)(r:List MA):Option (Nat×Nat×E×E):=eA
noncomputable def mOa(o:Option (Nat×Nat×E×E))(c:S)(a:List S):List S :=
 match o with
 |none=>c::a
 |some (i,j,ce,b)=>.eg i j ce b::a.drop 3
noncomputable def HR(i:Nat)(k:xA)(a ce:E):S:=.set i a ce
noncomputable def OR(Y:CC)(a:List xA)(e:xA)(ce:E):S:=.uA
def wQ(Y:CC)(it:xA):Option (UE×List E):=match aAp it with
 |some x=>if(x==("steps":fA))||(x==("lines":fA))||(x==("_law_there_are":fA))||(x==("_law_numbers":fA))||(x==("_law_ways_here":fA)) then(Y.slot x).map λi=>(.key,[.nD i]) else eA
 |none=>eA
noncomputable def xQ(o:Option (UE×List E))(t:Option (Bool×List Nat))(a:List S)(c:S):S:=match o with
 |some u=>(match t with | some x=>.for x.2 x.1 u.1 u.2 a | none=>.uA)
 |none=>c
mutual
noncomputable def cS(Y:CC):MA->S
 |.Pass _=>.pass
 |.Break _=>.brk
 |.Continue _=>.cnt
 |.Return (aA e) _=>zR Y e (AR e (cE Y e))
 |.Return eA _=>.fV
 |.Expr e _=>if iE e then .expr (cE Y e) else .uA
 |.If c a b _=>.EA (cE Y c) (tD Y a) (tD Y b)
 |.While c body [] _=>.OK (cE Y c) (tD Y body)
 |.For g it body [] _=>xQ (wQ Y it) (AG Y g) (tD Y body) (match AG Y g,vJ Y it with
  |some (one,is),aA (k,d)=>if DJ k one then .for is one k (yO Y it body (rB Y d)) (tD Y body) else .uA
  |_,_=>.uA)
 |.Assign [.Name x _] e _=>match Y.dG x with
  |some i=>if iE e||vU e then .QA i (cE Y e) else .uA
  |none=>.uA
 |.Assign [.Tuple h _ _] e _=>match PL Y h with
  |some is=>if iE e&&lR e then .RN is (cE Y e) else .uA
  |none=>OR Y h e (cE Y e)
 |.Assign [.Subscript (.Name x _) k _] e _=>match Y.slot x with
  |some i=>if iE e&&GO k then HR i k (cE Y k) (cE Y e) else .uA
  |none=>.uA
 |.AugAssign (.Name x _) .Add e _=>(match Y.dG x with
  |some i=>if iE e then .uA else .uA
  |none=>.uA)
 |.Raise (aA e) eA _=>BR Y e
 |.Try body j o f _=>SR Y (tD Y body) j o f
 |_=>.uA
noncomputable def tD(Y:CC):List MA->List S
 |[]=>[]
 |s::r=>mOa (lOa Y s r) (cS Y s) (tD Y r)
end
abbrev XG(X:Cx)(Y:CC):Prop:=∀x,Y.SM x=bA->X.fn x=bA\/X.env.scope.names.lookup x=aA .local
section
variable{K:kA}
def sV(h:iE e=bA)(t:Option xA)(line:Nat)(env:ZK):swapsWith e t line env=pure dA:=by
 induction e using TC<;>first | rfl | cases h
def R4(h:iE e=bA)(t:xA)(line:Nat)(env:ZK):swapsWithSole [t] e line env=pure dA:=sV h _ _ _
def K3{st:MA}(h:∀U,ex P C W c U=eA):PS X st (tS K P C W c):=λcA s B H D I a=>by let(U,G,b,d,r,e,k):VA:=a;rw[h] at e;cases e
def BC{st:MA}:PS X st (tS K P C W .uA):=K3 λU=>rfl
def vKa:PS X (.Pass pos) (tS K P C W .pass):=TS.uE uKa λD B H a=>by
 let(U,G,b,c,r,e,k):VA:=a;cases e;exact k B H G (HB.refl r)
def lKa:PS X (.Break pos) (tS K P C W .brk):=TS.uE kKa λD B H a=>by
 let(U,G,b,c,r,e,k):VA:=a;cases e;exact k B H G (HB.refl r)
def mKa:PS X (.Continue pos) (tS K P C W .cnt):=TS.uE oKa λD B H a=>by
 let(U,G,b,c,r,e,k):VA:=a;cases e;exact k B H G (HB.refl r)
def pKa(h:IA X K P C e c)(n:iE e=bA):PS X (.Expr e pos) (tS K P C W (.expr c)):=by
 refine TS.uE (cf h.v (sV n _ _ _)) λD B H b=>?_
 let(U,G,j,l,r,e,k):VA:=b;let(v,m,d,f):FA:=ZH e k.ne
 cases f;exact#[U,G,v,_,r,d,λx g i a o=>k B g i (DA.s r a)]
def yKa:PS X (.Return eA pos) (tS K P C W .fV):=TS.uE xKa λD B H a=>by
 let(U,G,b,c,r,e,k):VA:=a;cases e;exact k .lA B H G (HB.refl r) (by show nA K G .lA _;simp[nA])
def HA.give(r:HA K U B H G)(h:U[i]?=aA (.ow d dA l))(hx:B[i]?=aA (aA (.ref a))) :
  HB K U B H G (U.set i .mv) B H G/\dC K H G (yA (U.set i .mv) B) (λa=>yA U B a\/H a=eA) (.ow d) (.ref a):=by
 have key:∀(j:Nat) (sl:Sl),(U.set i .mv)[j]?=aA sl->(j=i/\sl=.mv)\/(j≠i/\U[j]?=aA sl):=λj sl z=>by
  rcases pH z with ⟨e,z,_⟩ | z
  .exact .inl #[e,z]
  .exact .inr z
 let(b,h1,g,o):KA:=r.ow i d dA l h
 rw[hx] at h1;cases h1
 have m:∀c,yA (U.set i .mv) B c->yA U B c/\c≠a:=λc I=>by
  let(j,u,C,y,z,w):uF:=I;rcases key j _ z with ⟨_,q⟩ | ⟨x,q⟩
  .cases q
  .refine#[#[j,u,C,y,q,w],λz=>?_];subst z;exact x (r.inj _ _ _ _ _ _ _ _ _ q h w hx)
 refine#[#[#[by rw[eE];exact r.len,r.sub,λj u z=>?_,λj u C y z=>?_,λj k Q R l1 X Y l2 c J M O P=>?_],Ext.refl,λc z=>.inl (m c z).1,λj z=>?_,λj u y z=>#[rfl,u, ?_],by rw[eE]],a,rfl,g,o,λz=>(m a z).2 rfl,.inl #[i,d,dA,l,h,hx]]
 .rcases key j _ z with ⟨_,q⟩ | ⟨x,q⟩
  .cases q
  .exact r.sh j u q
 .rcases key j _ z with ⟨_,q⟩ | ⟨x,q⟩
  .cases q
  .exact r.ow j u C y q
 .rcases key j _ J with ⟨_,q⟩ | ⟨x,q⟩
  .cases q
  .rcases key k _ M with ⟨_,F⟩ | ⟨Z,F⟩
   .cases F
   .exact r.inj _ _ _ _ _ _ _ _ _ q F O P
 .rcases key j _ z with ⟨_,q⟩ | ⟨x,q⟩
  .cases q
  .exact#[q,rfl]
 .have x:j≠i:=λw=>by subst w;rw[h] at z;cases z
  rw[QC (λw=>x w.symm)];exact z
def zKa(h:IA X K P C e c):PS X (.Return (aA e) pos) (tS K P C W (.ret c)):=by
 by_cases q:∃i,c=.v i
 .let(i,rfl):=q;refine TS.uE (vR h.h) λD B H m=>?_
  let(U,G,t,u,r,e,k):VA:=m;replace e:(match U[i]? with | some (.ow d dA _)=>aA (.rt (.ow d),U.set i .mv) | some (.sh d)=>aA (.rt (.sh d),U) | _=>eA)=aA (t,u):=e;split at e
  .rename_i d l hd;cases e;let(a,A,g,o):KA:=r.ow i d dA l hd
   refine#[U,G,.slot i,U,r,by simp[hd,hd,Sl.get,CI.hd],λx n p j f=>?_];let(N,b,O,Q):KA:=j.qA.ow i d dA l hd
   have f:B[i]?=aA (aA x):=f;rw[f] at b;cases b;let(F,v1):=j.qA.give hd f;exact(k.pre (DA.s r j)) _ B n p F v1
  .rename_i d hd;cases e;let(v,A,R):rA:=r.sh i d hd
   refine#[U,G,.slot i,U,r,by simp[hd,Sl.get,CI.hd],λx n p j f=>?_];let(Y,b,w):rA:=j.qA.sh i d hd
   have f:B[i]?=aA (aA x):=f;rw[f] at b;cases b;exact k x B n p (DA.s r j) w
  .cases e
 .refine TS.uE (vR h.v) λD B H m=>?_
  let(U,G,t,u,r,e,k):VA:=m
  have I:(ev P C dA c U).mC (λv y=>aA (.rt v,y))=aA (t,u):=by
   cases c<;>first | exact absurd #[_,rfl] q | exact e
  let(v,y,J,M):FA:=ZH I k.ne
  cases M;exact#[U,G,v,_,r,J,λx n p a q=>k x B n p (DA.s r a) (q.KH λa z=>.inr z)]
def sKa(n:IA X K P C c o)(p:uC X a (sF K P C W ca))(q:uC X b (sF K P C W u)):PS X (.If c a b pos) (tS K P C W (.EA o ca u)):=by
 refine TS.uE (gf n.t p q) λD B H i=>?_
 let(U,G,j,l,r,e,k):VA:=i;let(v,f,m,g):FA:=ZH e k.ne
 split at g
 .refine#[U,G,bA,f,r,m,λw h d=>?_];refine XM ?_;exact#[f,h,j,l,d.qA,g,k.pre (DA.s r d)]
 .refine#[U,G,dA,f,r,m,λw h d=>?_];refine zO ?_;exact#[f,h,j,l,d.qA,g,k.pre (DA.s r d)]
 .cases g
def C4{d:Bool}(b:RB d X K P C Y)(c:XG X Y){x:fA}{i:Nat}(h:Y.dG x=aA i){pos:GB}:PG X (.Name x pos) (NM i):=by
 unfold CC.dG at h;split at h
 .rename_i a
  have e:X.N[i]?=aA x:=by
   unfold CC.slot at h;split at h
   .cases h
   .split at h
    .rw[b.JH];exact qU h
    .cases h
  refine Se (by rw[b.JH];exact b.nd) e ?_ (c x a);unfold L2.Loc;rw[b.nm];unfold CC.SM at a;rw[fJ,XA] at a;rcases a with a | a
  .exact .inl (EC a)
  .exact .inr (EC a.2)
 .cases h
def hKa{j:Bool}(l:RB j X K P C Y)(d:XG X Y){x:fA}{i:Nat}{e:xA}{c:E}{p pos:GB}(m:Y.dG x=aA i)(h:IA X K P C e c)(n:iE e=bA):PS X (.Assign [.Name x p] e pos) (tS K P C W (.QA i c)):=by
 refine TS.uE (dV h.v (C4 l d m) (R4 n _ _ _)) λD B H f=>?_
 let(U,G,w,y,r,e,k):VA:=f;let(v,g,o,b):FA:=ZH e k.ne
 unfold zI at b
 cases q:store i v g with
 |none=>rw[q] at b;cases b
 |some z =>
  rw[q] at b;cases b;exact#[U,G,v,g,r,o,λx s t a u=>k _ s t (DA.store r a q u)]
def yRa{e:xA}{i:Nat}(h:Xh Y e=aA i):∃x p,e=.Name x p/\Y.dG x=aA i:=by
 induction e using TC with
 |Name x p=>exact#[x,p,rfl,h]
 |_=>exact nomatch (show eA=aA i from h)
def Yh(c:NA X K P C Y)(b:XG X Y){a:List xA}:∀{is:List Nat},PL Y a=aA is->WJ X a (zQ K is)/\(OH a X.env).length=is.length/\(OH a X.env).findIdx? (·.1)=eA/\a.length=is.length:=by
 induction a with
 |nil=>intro is h;cases h;exact#[yIa,rfl,rfl,rfl]
 |cons e d f =>
  intro is h;let(i,q,h):rA:=PH.mp h
  let(g,j,k):rA:=wH.mp h
  obtain rfl:=k;let(l,m,n,o):oB:=f j
  let(x,p,rfl,q):=yRa q;refine#[wIa (C4 c b q) l rfl,congrArg (·+1) m, ?_,congrArg (·+1) o];show((dA,_)::OH d X.env).findIdx? (·.1)=eA;rw[List.findIdx?_cons,n];rfl
def qQa(h:lR e=bA)(env:ZK):swappedStores [.Tuple a b p] e env=pure eA:=by
 induction e using TC<;>first | rfl | cases h
def iKa(j:NA X K P C Y)(g:XG X Y){l:List xA}{is:List Nat}{e:xA}{c:E}{u:Nat}{p pos:GB}(w:PL Y l=aA is)(h:IA X K P C e c)(n:iE e=bA)(y:lR e=bA):PS X (.Assign [.Tuple l u p] e pos) (tS K P C W (.RN is c)):=by
 let(z,A,F,Q):oB:=Yh j g w
 refine TS.uE (dV h.v (Qe j z A F) (R4 n _ _ _) (qQa y _)) λD B H m=>?_
 let(U,G,R,Z,r,e,k):VA:=m;let(v,i,I,f):FA:=ZH e k.ne
 unfold zI at f
 cases q:eB dA is v.d i with
 |none=>rw[q] at f;cases f
 |some U2 =>
  rw[q] at f;cases f;refine#[U,G,v,i,r,I,λx J G' a M=>?_];let(o,t,N):rA:=a.share M
  exact#[i,o,v.d,_,t.qA,N,q,λO b=>k O J o ((DA.s r t).trans b)]
def Ky(h:KQ U i=bA):∃a b p l,U[i]?=aA (.ow (.aB a b) p l):=by
 unfold KQ at h;split at h
 .rename_i d e p l q;exact#[d,e,p,l,q]
 .cases h
def gMa(K:kA):XS:=λo i v H Q=>∃a c k b,o=.ref a/\i=.ref b/\DS K H a c/\gC K H k b/\c.length<sizeLine/\∀u,aAe v u->((storedH c k b u).map (·.1)).Nodup->∀d,Q (GA H a (.ext (cC a (storedH c k b u) d)))
def hMa:XS:=λ_ _ _ _ _=>False
def qOa(hu:X.A.units+11<cLine):UW X (λo i v H Q=>Ef o i v H Q\/hMa o i v H Q\/gMa X.K o i v H Q):=by
 intro cA s B H o i v g j u Q I c e f h;rcases h with h | h | ⟨a,t,k,b,rfl,rfl,d,l,m,q⟩
 .exact aAT cA s B H o i v g j u Q I c e f h
 .exact h.elim
 .cases c;cases e;exact zNa hu I d l m λn w p r=>#[_,p,q _ f r n]
def bLa(xo:NA X K P C Y)(hi:Y.slot x=aA i)(h:IA X K P C e c)(hj:IA X K P C j cj)(n:iE e=bA)
  (ha:∀v,assign (.Subscript (.Name x p) j p2) X.env v=(do
   let ov <- holding [v] (eval (.Name x p) X.env)
   let iv <- holding [v,ov] (eval j X.env)
   standAt p2
   holding [v,ov,iv] (setItem ov iv v)
   release [v,ov,iv] [])):PS X (.Assign [.Subscript (.Name x p) j p2] e pos) (tS K P C W (.set i cj c)):=by
 have hp:PE X (.Name x p) (NL i):=CC.oN xo hi;refine TS.uE (dV h.v (tIa hp hj.v (xo.NC ▸ qOa (by have:=xo.hu;lia)) ha) (R4 n _ _ _)) λD B H J=>?_
 let(U,G,fl,U',r,e,k):VA:=J;let(v,U1,e1,M):FA:=ZH e k.ne
 split at M
 .rename_i ho;let(w,U2,e3,f):FA:=ZH M k.ne
  split at f
  .rename_i ds p1 nn N hw;unfold zI at f
   cases q:DF ds.length nn with
   |none=>rw[q] at f;cases f
   |some m =>
    rw[q] at f;cases f;refine#[U,G,v,U1,r,e1,λy H1 G1 t hv=>?_];let(d0,p0,l0,h0):BB:=XZ ho
    let(b,A,g0,o0):KA:=t.qA.ow i _ p0 l0 h0
    refine#[.ref b,A,U1,G1,w,U2,t.qA,e3,λz H2 G2 F J=>?_];have I:=hv.wait F.ext λa z=>.inl (F.own a z)
    let(G3,o,r3):rA:=(t.trans F).share I
    let(b',g,l):rA:=o.qA.ow i _ _ _ N
    let(g1,vs,Sx,hr):yD:=l
    rw[A] at g;cases g;have O:=J.GL;rw[hw] at O;cases O.int;have a4:=o.qA.write N A (hr.set r3 m);exact .inl #[b,vs,nn,m,rfl,rfl,Sx,by rw[hr.len];exact q,k B _ _ (DA.s r (o.trans a4))]
  .cases f
 .split at M
  .rename_i ho;let(w,U2,e3,f):FA:=ZH M k.ne
   unfold EK at f;split at f
   .rename_i ks ds p1 Q N hk;split at f
    .rename_i J;cases f;refine#[U,G,_,U1,r,e1,λy H1 G1 t hv=>?_];let(d0,l):=Ky ho;let(c0,p0,l0,h0):BB:=l
     let(b,A,g0,o0):KA:=t.qA.ow i _ p0 l0 h0
     refine#[.ref b,A,U1,G1,w,U2,t.qA,e3,λz H2 G2 F pU=>?_];have I:=hv.wait F.ext λa z=>.inl (F.own a z)
     let(G3,o,r3,s3):KA:=(t.trans F).B4 I
     let(b0,rfl,kk):=BO hk pU.GL;replace kk:=gC.mono (Sm.of s3) kk;obtain⟨b',g,g1,xs,vs,hx,⟨nd,hl,sm,R,pr⟩,hr⟩:=o.qA.ow i _ _ _ N;rw[A] at g;cases g
     have Z:xs.length<sizeLine:=by
      have h1:=GK J;have h2:=(pA _).symm.trans (congrArg GG pr.1)
      lia
     refine .inr (.inr #[b,xs,Q,b0,rfl,rfl,#[hx,nd,hl,sm,λx hx=>gC.mono o.qA.sub (R x hx)],gC.mono o.qA.sub kk,Z,λu ru D2 ep=>?_]);let(g2,ws,g3,g4):yD:=xf (k:=Q) (b:=b0) #[pr.1,vs,pr.2,hr] ru r3
     have a4:=o.qA.Di (ob:=.ext (cC b (storedH xs Q b0 u) ep)) (d':=.aB (yE ks Q) (aE ks ds Q v.d)) N A #[_,ws,#[_,jC],#[D2,dD N4 Z,sm,M4 R kk,g2,g3],g4];exact k B _ _ (DA.s r (o.trans a4))
    .cases f
   .cases f
  .cases M
def jTa(po:IG (~~~X) X.A X.env X.xe)(hc:IA X K P C c I)(hb:uC X body (sF K P C W p)):PS X (.While c body [] pos) (tS K P C W (.OK I p)):=by
 refine TS.uE (jf po hc.t hb) λD B H l=>?_
 let(U,G,O,Q,r,e,k):VA:=l;refine#[λm J R=>∃n u,HB K U B H G n J R u/\GF (ev P C bA I) (JA P C W p) m n=aA (O,Q),#[W,U,G,HB.refl r,e],λm J R l=>?_];let(n,u,h,M):FA:=l
 cases m with
 |zero=>simp[GF] at M
 |succ m =>
  erw[GF] at M;let(v,z,Y,a):FA:=ZH M k.ne
  split at a
  .refine#[n,u,bA,z,h.qA,Y,λZ N F=>?_];refine XM ?_;have b:=h.trans (DA.s h.qA F);refine#[λi j=>∃f d,HB K U B H G f i j d/\GF (ev P C bA I) (JA P C W p) m f=aA (O,Q),λi j #[f,d,g,e4]=>#[m,NG m,f,d,g,e4], ?_]
   cases q:JA P C W p z with
   |none=>rw[q] at a;cases a
   |some y =>
    let(o,f):=y;rw[q] at a;refine#[z,N,o,f,F.qA,q, ?_]
    induction o using Fl.casesOn with
    |nx=>exact λi j d g=>#[f,d,b.trans g,a]
    |ct=>exact λi j d g=>#[f,d,b.trans g,a]
    |bk=>cases a;exact λi j d g=>k i j d (b.trans g)
    |rt v=>cases a;exact k.pre b
    |ex x=>cases a;exact k
  .refine#[n,u,dA,z,h.qA,Y,λZ N F=>?_];refine zO ?_;cases a;exact k J Z N (h.trans (DA.s h.qA F))
  .cases a
end
section
variable{X:Cx}{K:kA}{P:bB}{C:Calls}{W:Nat}{Y:CC}
def uV(r:HA K U B H G):HA K (aAi o U) B H G/\∀a,yA (aAi o U) B a->yA U B a:=by
 induction o using oG with
 |none=>exact#[r,λ_ z=>z]
 |some i=>exact#[r.unset i,λ_ z=>z.unset]
def wR(r:HA K f B A N)(ho:∀i,o=aA i->∃d p l,f[i]?=aA (.ow d p l))(e:aAs o f s=aA O)(a:HB K (aAi o f) B A N s k F y) :
  HB K f B A N O k F y/\∀c,yA O k c->yA s k c\/(yA f B c/\¬yA (aAi o f) B c):=by
 induction o using oG with
 |none =>
  erw[aAs,rC] at e;subst e;exact#[a,λ_ z=>.inl z]
 |some i =>
  let(d,p,l,t):BB:=ho i rfl
  let(b,H,g,ob):KA:=r.ow i d p l t
  have n:yA f B b:=#[i,d,p,l,t,H]
  have h:¬yA (f.set i .un) B b:=r.YO t H;have u:A b≠eA:=(r.owned n).1;erw[aAs] at e;split at e
  .rename_i sl Q R;rw[t] at R;cases R;cases e;let(hu1,v):=a.un i Q;have U:k[i]?=aA (aA (.ref b)):=v.trans H;have gb:y b=eA:=a.ext.gn b u g h;have of:qG K F y b d:=ob.mono a.ext.gg λo' h'=>a.ext.hh b o' h' h
   have nf:¬yA s k b:=λz=>by
    rcases a.own b z with z | z
    .exact h z
    .exact u z
   have rf:HA K (s.set i (.ow d p l)) k F y:=(a.qA.unset i).jN U gb of λz=>nf z.unset
   have m:∀c,yA (s.set i (.ow d p l)) k c->c=b\/yA s k c:=λc z=>by
    rcases z.jN U with z | z
    .exact .inl z
    .exact .inr z.unset
   refine#[#[rf,a.ext.weaken λc z=>z.unset,λc z=>?_,λj z=>?_,λj Z l' z=>?_,by rw[eE,a.len];exact eE],λc z=>?_]
   .rcases m c z with rfl | z
    .exact .inl n
    .rcases a.own c z with z | z
     .exact .inl z.unset
     .exact .inr z
   .rcases pH z with ⟨_,w,_⟩ | ⟨nj,w⟩
    .cases w
    .let(I,J):=a.un j w;have x:(f.set i .un)[j]?=aA .un:=I;rw[QC (λq=>nj q.symm)] at x;exact#[x,J]
   .by_cases M:j=i
    .subst M;rw[t] at z;cases z;refine#[v,d, ?_];rw[NF (LD.mp Q).1]
    .have z':(aAi (aA i) f)[j]?=aA (.ow Z bA l'):=by
      show(f.set i .un)[j]?=_;rw[QC (λq=>M q.symm)];exact z
     let(I,d2,J):=a.pin j Z l' z';exact#[I,d2,by rw[QC (λq=>M q.symm)];exact J]
   .rcases m c z with rfl | z
    .exact .inr #[n,h]
    .exact .inl z
  .cases e
def UG.restore{D:Ends}(r:HA K F B H R)(ho:∀i,o=aA i->∃d p l,F[i]?=aA (.ow d p l))(e:aAs o F U=aA Z)(k:UG K F B H R Z D fl) :
  UG K (aAi o F) B H R U D fl:=by
 induction fl using Fl.casesOn with
 |nx=>exact λj u y b=>k j u y (wR r ho e b).1
 |bk=>exact λj u y b=>k j u y (wR r ho e b).1
 |ct=>exact λj u y b=>k j u y (wR r ho e b).1
 |rt v =>
  refine λx j u y b I=>?_
  let(b1,b2):=wR r ho e b;refine k x j u y b1 ?_
  induction v using RV.casesOn with
  |sh d=>exact I
  |ow d =>
   let(c,rfl,g,J,n,m):=I;refine#[c,rfl,g,J,λz=>?_, ?_]
   .rcases b2 c z with z | ⟨M,O⟩
    .exact n z
    .rcases m with m | m
     .exact O m
     .exact(r.owned M).1 m
   .rcases m with m | m
    .exact .inl ((uV r).2 c m)
    .exact .inr m
  |od d =>
   let(c,rfl,g,J,n,m,vs,Q,hr):=I
   have key:∀c,¬yA U j c->(yA (aAi o F) B c\/H c=eA)->¬yA Z j c/\(yA F B c\/H c=eA):=λc n m=>by
    refine#[λz=>?_, ?_]
    .rcases b2 c z with z | ⟨M,O⟩
     .exact n z
     .rcases m with m | m
      .exact O m
      .exact(r.owned M).1 m
    .rcases m with m | m
     .exact .inl ((uV r).2 c m)
     .exact .inr m
   exact#[c,rfl,g,J,(key c n m).1,(key c n m).2,vs,Q,λx hx=>let #[b,ws,h1,h2,h3,h4,h5,h6]:=hr x hx;#[b,ws,h1,h2,h3,(key b h4 h5).1,(key b h4 h5).2,h6]]
 |ex x=>exact k
def OP(K:kA)(P:bB)(C:Calls)(W:Nat)(one:Bool)(a:List Nat)(b:List S)(c:Env)(d:St)(e f:Hp)(g:Fl)(h:Env)(j:List D)(i:Nat):St->Hp->Prop:=λB H =>
 ∃U G,HB K c d e f U B H G/\pD (eB one a) (JA P C W b) (j.drop i) U=aA (g,h)
def qAa(hk:UG K o p r s t A u)(hd:c[i]?=aA d)
  (h:∃U G,HB K o p r s U B H G/\nA K G d x/\pD (eB one m) (JA P C W n) (c.drop i) U=aA (u,t)) :
  gB K one m x B H λf g=>sF K P C W n { A with nx:=OP K P C W one m n o p r s u t c (i+1),ct:=OP K P C W one m n o p r s u t c (i+1),bk:=A.nx } f g:=by
 let(U,G,a,J,e):pB:=h;have F:i<c.length:=(LD.mp hd).1
 have M:c.drop i=d::c.drop (i+1):=by(rw[XR F];congr 1;rw[OC F] at hd;exact ED hd)
 rw[M] at e;erw[pD] at e
 cases q:eB one m d U with
 |none=>rw[q] at e;cases e
 |some w =>
  rw[q] at e;simp only at e;refine#[U,G,d,w,a.qA,J,q,λN I=>?_];have b:=a.trans I
  cases q2:JA P C W n w with
  |none=>rw[q2] at e;cases e
  |some y =>
   let(j,z):=y;rw[q2] at e;refine#[w,G,j,z,I.qA,q2, ?_]
   induction j using Fl.casesOn with
   |nx=>exact λf g k l=>#[z,k,b.trans l,e]
   |ct=>exact λf g k l=>#[z,k,b.trans l,e]
   |bk=>cases e;exact λf g k l=>hk f g k (b.trans l)
   |rt v=>cases e;exact hk.pre b
   |ex x=>cases e;exact hk
def YN{lo:Int}:(dH lo a).length=a.length:=by unfold dH;simp
def pY{lo:Int}{i:Nat}(h:ds[i]?=aA d):(dH lo ds)[i]?=aA (.t [.int (lo+(i:Int)),d]):=by
 have a:i<ds.length:=(LD.mp h).1;unfold dH;rw[ND,cL a,vF,uH,h];rfl
def Vs(a:G p=eA)(h:nA K G d y):nA K (GA G p (.t [.int i,y])) (.t [.int i,d]) (.ref p):=by
 erw[nA];exact#[p,_,rfl,LC.of jC,oA.cons (by simp[nA]) (oA.cons (nA.mono (Sm.laid a) d h) oA.nil)]
def pAa(hk:UG K b c d f g i j)(h:OP K P C W one l m b c d f j g k k.length B H):i.nx B H:=by
 let(U,G,a,e):FA:=h;rw[jl] at e;erw[pD,rC,cF] at e;let(rfl,rfl):=e;exact hk B H G a
def Src(K:kA)(U:Env)(B:St)(H G:Hp)(a:iA)(b:List V):Prop:=EB K G a b\/(H a=aA (.l b)/\G a=eA/\¬yA U B a)
def O7(K:kA)(j:Env)(k:St)(l m:Hp)(b:List D)(J:It):Prop:=∀i a c e f,HB K j k l m c e a f->(i=b.length->J.stop i a)/\(i<b.length->J.go i a)/\∀d x g,b[i]?=aA d->J.EV i a x g->∃h,DA K c e a f c g h/\nA K h d x
def wM(K:kA)(U:Env)(B:St)(e f:Hp)(g:List D)(J:It):Prop:=∀{a:Env} {b:St} {d:Hp},WA f d->(∀c,yA a b c->yA U B c)->O7 K a b e d g J
section
variable{U U0 Uc:Env}{B B0 B':St}{H1 G1 G2 H' Gc:Hp}{ds:List D}{a:iA}{vs:List V}
def Src.at(h:Src K U B H1 G1 a vs)(j:WA G1 G2)(own:∀c,yA U0 B0 c->yA U B c)(m:HB K U0 B0 H1 G2 Uc B' H' Gc):EB K H' a vs:=by
 rcases h with h | ⟨h1,h2,h3⟩
 .exact m.qA.sub.seq (m.ext.gg.seq (j.seq h))
 .exact EB.of (m.ext.hh a _ h1 λz=>h3 (own a z))
def DV(c:Src K U B H1 G1 a vs)(f:oA K G1 ds vs):wM K U B H1 G1 ds (HW K a):=by
 intro U0 B0 G2 e own i H' Uc B' Gc g;have b:=c.at e own g;refine#[λk=>#[vs,b,by rw[f.len];lia],λk=>?_,λd x n hd h=>?_]
 .let(l,j,m):=f.get (OC k);exact#[vs,l,b,j]
 .let(rfl,h):=h;let(l,j,m):rA:=f.get hd
  have:=h vs b
  rw[j] at this;cases this;exact#[_,DA.refl g.qA,nA.mono g.ext.gg d (nA.mono e d m)]
def Ai(m:LC K G1 a vs)(f:oA K G1 ds vs):wM K U B H1 G1 ds (IW K a):=by
 intro U0 B0 G2 c own i H' Uc B' Gc e;have b:LC K H' a vs:=hI e.qA.sub (hI e.ext.gg (hI c m));refine#[λj=>#[vs,b,by rw[f.len];lia],λj=>?_,λd x n hd g=>?_]
 .let(k,h,l):=f.get (OC j);exact#[vs,k,b,h]
 .let(rfl,g):=g;let(k,h,l):rA:=f.get hd
  have:=g vs b
  rw[h] at this;cases this;exact#[_,DA.refl e.qA,nA.mono e.ext.gg d (nA.mono c d l)]
def yi{lo:Int}:wM K U B H1 G1 ((nC n).map λ(j:Nat)=>D.int (lo+(j:Int))) (NP lo n):=by
 intro U0 B0 G2 c own i H' Uc B' Gc e;rw[pA,TK];refine#[λb=>by show n<=i;lia,λb=>b,λd x k hd f=>?_];let(rfl,rfl):=f;rw[ND] at hd;let(j,g,h):rA:=wH.mp hd
 obtain rfl:=h;let(l,rfl):=LD.mp g;exact#[_,DA.refl e.qA,by simp[nA]]
def BV{lo:Int}(e:Src K U B H1 G1 a vs)(h:oA K G1 ds vs):wM K U B H1 G1 (dH lo ds) (GW K a lo):=by
 intro U0 B0 G2 f own i H' Uc B' Gc g;have b:=e.at f own g;rw[YN];refine#[λk=>#[vs,b,by rw[h.len];lia],λk=>?_,λd x p hd c=>?_]
 .let(l,j,m):=h.get (OC k);exact#[vs,l,b,j]
 .let(q,r,n,rfl,rfl,c):=c;have o:i<ds.length:=by rw[<- YN];exact(LD.mp hd).1
  let(l,j,m):=h.get (OC o);have c:=c vs b;rw[j] at c;cases c;rw[pY (OC o)] at hd;cases hd;exact#[_,(DA.refl g.qA).yJ n,Vs (WA.free g.qA.sub n) (nA.mono g.ext.gg _ (nA.mono f _ m))]
def bTa(c:ds=(e.map (·.1)).map HM)(k:G1 a=aA (.ext (cC a e h)))(l:∀x∈e,gC K G1 x.1 x.2.1):wM K U B H1 G1 ds (FW a e h):=by
 intro U0 B0 G2 f own i H' Uc B' Gc g;have m:Gc a=aA (.ext (cC a e h)):=g.ext.gg.app rfl (f _ _ k);have b:=g.qA.sub _ _ m;have p:ds.length=e.length:=by rw[c,pA,pA]
 refine#[λn=>#[b,by lia],λn=>#[b,by lia],λd v q hd o=>?_];let(rfl,x,j,rfl):=o;rw[c,ND,ND,j] at hd;cases hd;exact#[_,DA.refl g.qA,Nf (gC.mono g.ext.gg (gC.mono (Sm.of f) (l x (xH j))))]
end
def pI(K:kA)(P:bB)(C:Calls)(h:UE)(b:List E)(B:St)(H:Hp)(R:It->Hp->Prop):Prop:=∃(U:Env) (G:Hp) (e:List Hd) (a:Env) (f:List D) (o:Option Nat),HA K U B H G/\vC P C b U=some (.ok e,a)/\aAb h e a=aA (f,o) /\
 ∀c g,DA K U B H G a c g->(∀i,o=aA i->∃d p l,a[i]?=aA (.ow d p l))->∀J,wM K (aAi o a) B c g f J->R J c
abbrev KN(K:kA)(P:bB)(C:Calls)(b:UE)(a:List E)(B:St)(H:Hp)(R:It->Hp->Prop):Prop:=pI K P C b a B H R
def nb{b:TI}(n:c≠.of)(h:∀B H (R:It->Hp->Prop),pI K P C c a B H R->b B H R)(B:St)(H:Hp)(R:It->Hp->Prop)(q:KN K P C c a B H R):b B H R:=h B H R q
def X9(po:IG (~~~X) X.A X.env X.xe)(xo:NA X K P C Y)(hg:PG X M (gB K one is))(hb:uC X body (sF K P C W g))
  (j:∀x,eJ it X.env x=pure x) (N:PI X M it wi)
  (hw:∀B H (R:It->Hp->Prop),pI K P C O p B H R->wi B H R) :
  PS X (.For M it body [] pos) (tS K P C W (.for is one O p g)):=by
 refine TS.uE (rKa po xo.calm N hg hb j) λD B H Q=>?_
 let(U,G,t,U',r,e,k):VA:=Q;let(j,f,e1,a):FA:=ZH e k.ne
 cases q:aAb O j f with
 |none=>rw[q] at a;cases a
 |some y =>
  let(c,o):=y;rw[q] at a;simp only at a
  cases q2:pD (eB one is) (JA P C W g) c (aAi o f) with
  |none=>rw[q2] at a;cases a
  |some y =>
   let(fl1,l):=y;rw[q2] at a;erw[Run.restore] at a
   cases q3:aAs o f l with
   |none=>rw[q3] at a;cases a
   |some u =>
    rw[q3] at a;cases a;refine hw B H _ #[U,G,j,f,c,o,r,e1,q,λv n z ho J wj=>?_];have Z:UG K (aAi o f) B v n l D t:=UG.restore z.qA ho q3 (k.pre (DA.s r z));refine#[λi m F I=>m=c.length-i/\i<=c.length/\OP K P C W one is g (aAi o f) B v n t l c i F I,#[_,rfl,lI _,aAi o f,n,HB.refl (uV z.qA).1,q2], ?_]
    rintro i m F I ⟨rfl,N,hp⟩
    let(u,G2,b,a):FA:=id hp
    let(j1,j2,j3):=wj (WA.refl _) (λ_ h=>h) i I u F G2 b;by_cases d:i<c.length
    .refine .inr #[j2 d,OP K P C W one is g (aAi o f) B v n t l c (i+1),λB' H' p'=>#[c.length-(i+1),by lia,rfl,d,p'],λx H' y=>?_];let(Gd,af,rp):=j3 _ x H' (OC d) y;exact qAa Z (OC d) #[u,Gd,b.trans (DA.s b.qA af),rp,a]
    .obtain rfl:i=c.length:=by lia
     exact .inl #[j1 rfl,pAa Z hp]
end
section
variable{X:Cx}{K:kA}
def PI.or(h:PI X j it w)(m:PI X j it r):PI X j it (λB H R=>w B H R\/r B H R):=λcA s B H R I q=>by
 rcases q with q | q
 .exact h cA s B H R I q
 .exact m cA s B H R I q
def IT(e:vC P C [c] U=some (.ok b,d)):∃h,b=[h]/\hd c (ev P C dA c U) U=some (.ok h,d):=by
 rw[vC] at e;let(h,g,f,a):FA:=yB e
 rw[vC] at a;erw[zA.bind] at a;cases a;exact#[h,rfl,f]
def P2(hK:X.K=K)(B:St)(H:Hp)(R:It->Hp->Prop)(q:pI K P C .of [c] B H R) :
  NZ X.K (tH K P C c) B H R\/OZ X.K (tH K P C c) B H R:=by
 let(U,u):=q;let(G,hs,N,O):BB:=u;let(ds,o,r,e,s,k):fC:=O
 let(h,rfl,Q):=IT e;rw[hK]
 induction h using Hd.casesOn with
 |slot i =>
  (unfold aAb at s;dsimp only at s)
  split at s
  .rename_i F p l J;cases s;refine .inl #[U,G,.slot i,N,r,Q,λx A t f a=>?_];have a:B[i]?=aA (aA x):=a;let(b,I,u):rA:=f.qA.ow i _ _ _ J
   let(g,w,Y,hr):yD:=u
   rw[a] at I;cases I;exact#[b,rfl,#[w,EB.of Y],k A t f (λj z=>by cases z;exact#[_,_,_,J]) _ (DV (.inr #[Y,g,f.qA.YO J a]) hr)]
  .rename_i F J;cases s;refine .inl #[U,G,.slot i,N,r,Q,λx A t f a=>?_];have a:B[i]?=aA (aA x):=a;let(v,I,Z):rA:=f.qA.sh i _ J
   rw[a] at I;cases I;erw[nA] at Z;let(b,w,rfl,y,M):=Z;exact#[b,rfl,#[w,f.qA.sub.seq y],k A t f (λj z=>by cases z) _ (DV (.inl y) M)]
  .rename_i F J;cases s;refine .inr #[U,G,.slot i,N,r,Q,λx A t f a=>?_];have a:B[i]?=aA (aA x):=a;let(v,I,Z):rA:=f.qA.sh i _ J
   rw[a] at I;cases I;erw[nA] at Z;let(b,w,rfl,y,M):=Z;exact#[b,rfl,#[w,hI f.qA.sub y],k A t f (λj z=>by cases z) _ (Ai y M)]
  .cases s
 |val v =>
  (unfold aAb at s;dsimp only at s)
  split at s
  .rename_i F hd;cases s;refine .inl #[U,G,.val v,N,r,Q,λx A t f a=>?_]
   induction v using RV.casesOn with
   |sh d =>
    erw[RV.d] at hd;subst hd;have a:nA K t (.l ds) x:=a;erw[nA] at a;let(b,w,rfl,y,M):=a;exact#[b,rfl,#[w,f.qA.sub.seq y],k A t f (λj z=>by cases z) _ (DV (.inl y) M)]
   |ow d =>
    erw[RV.d] at hd;subst hd;obtain⟨b,rfl,g,⟨w,Y,hr⟩,n,m⟩:=a;exact#[b,rfl,#[w,EB.of Y],k A t f (λj z=>by cases z) _ (DV (.inr #[Y,g,n]) hr)]
   |od d=>exact a.elim
  .rename_i F hd;cases s;refine .inr #[U,G,.val v,N,r,Q,λx A t f a=>?_]
   induction v using RV.casesOn with
   |sh d =>
    erw[RV.d] at hd;subst hd;have a:nA K t (.t ds) x:=a;erw[nA] at a;let(b,w,rfl,y,M):=a;exact#[b,rfl,#[w,hI f.qA.sub y],k A t f (λj z=>by cases z) _ (Ai y M)]
   |ow d =>
    erw[RV.d] at hd;subst hd;let(b,rfl,g,o,n,m):=a;exact o.elim
   |od d=>exact a.elim
  .cases s
def qDa(a:X.K=K)(B:St)(H:Hp)(R:It->Hp->Prop)(q:KN K P C .of [c] B H R):NZ X.K (tH K P C c) B H R\/OZ X.K (tH K P C c) B H R:=P2 a B H R q
def Rf(B:St)(H:Hp)(R:It->Hp->Prop)(q:pI K P C .IB [c] B H R) :
  Wa (rH K P C [c]) B H R:=by
 let(U,b):=q;let(G,g,i,d):BB:=b;let(w,o,r,e,a,k):fC:=d
 refine#[U,G,g,i,r,e,λy l m f p=>?_];let(h,rfl,A):=IT e;let(x,s,rfl,t,u,_):=p;cases (show s=[] from u)
 (unfold aAb at a;dsimp only at a)
 split at a
 .rename_i n v;split at a
  .rename_i F;cases a;cases (t.read f.qA v).int;refine#[n,rfl,by lia,by lia,k l m f (λj z=>by cases z) _ ?_];rw[show(λ(j:Nat)=>D.int (j:Int))=λ(j:Nat)=>D.int (0+(j:Int)) from funext λj=>by rw[Int.zero_add]];exact yi
  .cases a
 .cases a
def Sf(B:St)(H:Hp)(R:It->Hp->Prop)(q:pI K P C .IB [c,i] B H R) :
  Xa (rH K P C [c,i]) B H R:=by
 let(U,b):=q;let(G,l,p,d):BB:=b;let(Y,o,r,e,a,k):fC:=d
 refine#[U,G,l,p,r,e,λZ s t f u=>?_];rw[vC] at e;let(h,U2,e1,v):FA:=yB e
 let(w,U3,A,F):FA:=yB v
 let(h',rfl,e5):=IT A;cases F;let(x,r',rfl,I,J,_):=u;let(y,g,rfl,M,N,_):=J;cases (show g=[] from N)
 (unfold aAb at a;dsimp only at a)
 split at a
 .rename_i m n O Q;split at a
  .rename_i hb;cases a;cases (I.read f.qA O).int;cases (M.read f.qA Q).int;exact#[m,n,rfl,by omega,k s t f (λj z=>by cases z) _ yi]
  .cases a
 .cases a
def qY(hK:X.K=K){lo:Int}(B:St)(H:Hp)(R:It->Hp->Prop)(q:pI K P C (.enum lo) [c] B H R) :
  MZ X.K lo (rH K P C [c]) B H R:=by
 let(U,a):=q;let(G,hs,U1,y):BB:=a;let(ds,o,r,e,f,k):fC:=y
 rw[hK];refine#[U,G,hs,U1,r,e,λxs N A t Q=>?_];let(h,rfl,e1):=IT e;let(x,r',rfl,s,O,_):=Q;cases (show r'=[] from O)
 induction h using Hd.casesOn with
 |slot i =>
  (unfold aAb at f;dsimp only at f)
  have s:B[i]?=aA (aA x):=s;split at f
  .rename_i u p l F;cases f;let(b,I,a):rA:=t.qA.ow i _ _ _ F
   let(g,w,J,Y):yD:=a
   rw[s] at I;cases I;exact#[b,rfl,#[w,EB.of J],k N A t (λj z=>by cases z;exact#[_,_,_,F]) _ (BV (.inr #[J,g,t.qA.YO F s]) Y)]
  .rename_i u F;cases f;let(v,I,O):rA:=t.qA.sh i _ F
   rw[s] at I;cases I;erw[nA] at O;let(b,w,rfl,M,Z):=O;exact#[b,rfl,#[w,t.qA.sub.seq M],k N A t (λj z=>by cases z) _ (BV (.inl M) Z)]
  .cases f
 |val v =>
  (unfold aAb at f;dsimp only at f)
  split at f
  .rename_i u hd;cases f
   induction v using RV.casesOn with
   |sh d =>
    erw[RV.d] at hd;subst hd;have s:nA K A (.l u) x:=s;erw[nA] at s;let(b,w,rfl,M,Z):=s;exact#[b,rfl,#[w,t.qA.sub.seq M],k N A t (λj z=>by cases z) _ (BV (.inl M) Z)]
   |ow d =>
    erw[RV.d] at hd;subst hd;obtain⟨b,rfl,g,⟨w,J,Y⟩,n,m⟩:=s;exact#[b,rfl,#[w,EB.of J],k N A t (λj z=>by cases z) _ (BV (.inr #[J,g,n]) Y)]
   |od d=>exact s.elim
  .cases f
def RT(h:FO e=bA)(env:ZK):∀x,eJ e env x=pure x:=λx=>by
 induction e using TC<;>first | rfl | cases h
def c5(b:NA X K P C Y)(a:XG X Y)(h:AG Y c=aA (one,is)):PG X c (gB K one is):=by
 cases c<;>erw[AG,reduceCtorEq] at h
 .rename_i x pos
  cases q:Y.dG x with
  |none=>rw[q] at h;cases h
  |some i=>rw[q] at h;cases h;exact sIa (C4 b a q)
 .rename_i d k pos
  cases q:PL Y d with
  |none=>rw[q] at h;cases h
  |some e =>
   rw[q] at h;cases h;let(f,g,j,l):oB:=Yh b a q
   exact Qe b f g j
end
section
variable{K:kA}{B B':St}{H G H' G':Hp}
def qR(h:(as++qB n Sl.un)[i]?=aA s):(as[i]?=aA s)\/(as.length<=i/\s=.un):=by
 by_cases a:i<as.length
 .rw[FN a] at h;exact .inl h
 .rw[HP (by lia),GN] at h;split at h
  .cases h;exact .inr #[by lia,rfl]
  .cases h
def K4(h:i<a.length):(L2.start N a)[i]?=(a.map aA)[i]?:=by
 unfold L2.start;rw[FN (by rw[pA];exact h)]
def HA.pad(r:HA K as (m.map aA) H G)(x:N.length=as.length+n):HA K (as++qB n .un) (L2.start N m) H G/\∀a,yA (as++qB n .un) (L2.start N m) a->yA as (m.map aA) a:=by
 have hl:as.length=m.length:=by have:=r.len;rwa[pA] at this
 have st:∀i:Nat,i<as.length->(L2.start N m)[i]?=(m.map aA)[i]?:=λi h=>K4 (by lia)
 have lt:∀{i:Nat} {s:Sl},as[i]?=aA s->i<as.length:=λh=>(LD.mp h).1
 refine#[#[by unfold L2.start;simp;lia,r.sub,λi d h=>?_,λi d p l h=>?_,λi j d p l y C F a h1 h2 h3 u=>?_],λa #[i,d,p,l,h1,h2]=>?_]
 .rcases qR h with h | ⟨_,h⟩
  .rw[st i (lt h)];exact r.sh i d h
  .cases h
 .rcases qR h with h | ⟨_,h⟩
  .rw[st i (lt h)];exact r.ow i d p l h
  .cases h
 .rcases qR h1 with h1 | ⟨_,h1⟩
  .rcases qR h2 with h2 | ⟨_,h2⟩
   .rw[st i (lt h1)] at h3;rw[st j (lt h2)] at u;exact r.inj _ _ _ _ _ _ _ _ _ h1 h2 h3 u
   .cases h2
  .cases h1
 .rcases qR h1 with h1 | ⟨_,h1⟩
  .rw[st i (lt h1)] at h2;exact#[i,d,p,l,h1,h2]
  .cases h1
theorem gQ:∀{as:List Sl} {U:Env} (i:Nat),as.length<=U.length->(back as U)[i]?=(as[i]?).bind λa=>match a with | .ow _ _ _=>U[i]? | a=>aA a
 |[],U,i,_=>by cases U<;>rfl
 |a::as,[],i,h=>by simp at h
 |a::as,b::U,i,h=>by
  have c:=λj=>gQ (as:=as) (U:=U) j (↑h)
  cases i with
  |zero=>cases a<;>rfl
  |succ i=>cases a<;>exact c i
def iT(r:HA K as (t.map aA) H G)(I:as.all AJ=bA)(J:N.length=as.length+n)
  (a:HB K (as++qB n .un) (L2.start N t) H G m B' H' G'):DA K as (t.map aA) H G (back as m) H' G'/\∀c,yA (back as m) (t.map aA) c->yA m B' c:=by
 have R:as.length=t.length:=by have:=r.len;rwa[pA] at this
 have lt:∀{i:Nat} {s:Sl},as[i]?=aA s->i<as.length:=λh=>(LD.mp h).1
 have st:∀i:Nat,i<as.length->(L2.start N t)[i]?=(t.map aA)[i]?:=λi h=>K4 (by lia)
 have k:as.length<=m.length:=by rw[a.len,RC];lia
 have A:∀{i:Nat} {s:Sl},as[i]?=aA s->(as++qB n .un)[i]?=aA s:=λh=>by rw[FN (lt h)];exact h
 have pin:∀(i:Nat) d p l,as[i]?=aA (.ow d p l)->p=bA/\B'[i]?=(t.map aA)[i]?/\∃o,m[i]?=aA (.ow o bA l):=λi d p l h=>by(have f:=bF.mp I _ (xH h);erw[AJ] at f;subst f;let(g,o,u):=a.pin i d l (A h);exact#[rfl,g.trans (st i (lt h)),o,u])
 have q:∀{i:Nat} {s:Sl},(back as m)[i]?=aA s->(∃d o l,as[i]?=aA (.ow d bA l)/\s=.ow o bA l/\m[i]?=aA s/\B'[i]?=(t.map aA)[i]?)\/(as[i]?=aA s/\∀d p l,s≠.ow d p l):=λ{i s} h=>by
  rw[gQ i k] at h
  cases e:as[i]? with
  |none=>rw[e] at h;cases h
  |some b =>
   rw[e] at h
   cases b with
   |ow d p l =>
    let(rfl,f,o,g):=pin i d p l e;erw[OG] at h;rw[g] at h;cases h;exact .inl #[d,o,l,rfl,rfl,g,f]
   |un=>cases h;exact .inr #[rfl,λd p l z=>nomatch z]
   |mv=>cases h;exact .inr #[rfl,λd p l z=>nomatch z]
   |sh d=>cases h;exact .inr #[rfl,λd p l z=>nomatch z]
 have x:(back as m).length=as.length:=by
  apply Nat.le_antisymm
  .refine bW λz=>?_
   have:=gQ (U:=m) as.length k
   rw[OC z,dJ (uB _)] at this;cases this
  .refine bW λz=>?_
   have f:=gQ (U:=m) (back as m).length k;rw[dJ (uB _),OC z] at f
   cases e:as[(back as m).length] with
   |ow d p l =>
    have M:as[(back as m).length]?=aA (.ow d p l):=by rw[OC z,e]
    let(_,_,o,g):=pin _ d p l M;rw[e] at f;erw[OG] at f;rw[g] at f;cases f
   |un=>rw[e] at f;cases f
   |mv=>rw[e] at f;cases f
   |sh d=>rw[e] at f;cases f
 refine#[#[#[by rw[x];exact r.len,a.qA.sub,λi d h=>?_,λi d p l h=>?_,λi j d p l o X O c f g u y=>?_],a.ext.weaken λc z=>(r.pad J).2 c z,λi=>?_],λc #[i,d,p,l,f,g]=>?_]
 .rcases q h with ⟨_,_,_,_,z,_,_⟩ | ⟨z,_⟩
  .cases z
  .let(v,f,g):rA:=r.sh i d z
   exact#[v,f,nA.mono a.ext.gg d g]
 .rcases q h with ⟨Y,o,O,f,g,u,y⟩ | ⟨_,z⟩
  .rw[<- y];exact a.qA.ow i d p l u
  .exact absurd rfl (z d p l)
 .rcases q f with ⟨_,_,_,_,_,C,F⟩ | ⟨_,z⟩
  .rcases q g with ⟨_,_,_,_,_,P,Q⟩ | ⟨_,w⟩
   .rw[<- F] at u;rw[<- Q] at y;exact a.qA.inj _ _ _ _ _ _ _ _ _ C P u y
   .exact absurd rfl (w _ _ _)
  .exact absurd rfl (z _ _ _)
 .rw[gQ i k]
  cases e:as[i]? with
  |none=>trivial
  |some b =>
   cases b with
   |ow d p l =>
    let(rfl,_,o,g):=pin i d p l e;erw[OG];rw[g];exact#[rfl,rfl]
   |un=>trivial
   |mv=>trivial
   |sh d=>trivial
 .rcases q f with ⟨_,_,_,_,_,C,F⟩ | ⟨_,z⟩
  .rw[<- F] at g;exact#[i,d,p,l,C,g]
  .exact absurd rfl (z _ _ _)
end
end CI
namespace L2
set_option tactic.hygienic true
open PySem PySem.Spec PyProof.Rows
theorem aAr[BEq Z][LawfulBEq Z]:∀{l:List (Z×J)} {x:Z} {k:J},l.lookup x=aA k->(x,k)∈l
 |[],x,k,h=>by simp at h
 | (y,a)::r,x,k,h=>by
  rw[QG] at h;split at h
  .rename_i e;have e:=EC e;subst e;cases h;exact OF
  .exact QD _ (aAr h)
def X8(h:∀p∈scope.names,p.2=.free->∃c,env.cells.lookup p.1=aA c) :
  ∃cl,closureFor scope env=pure cl/\(∀x c,cl.lookup x=aA c->env.cells.lookup x=aA c)/\∀p∈scope.names,p.2=.free->∃c,cl.lookup p.1=aA c:=by
 have key:∀(names:List (fA×ZI)) (b:List (fA×iA)),(∀p∈names,p.2=.free->∃c,env.cells.lookup p.1=aA c)->(∀x c,b.lookup x=aA c->env.cells.lookup x=aA c) ->
   ∃cl,(forIn names b λ(p:fA×ZI) (u:List (fA×iA))=>(if(p.2==NameKind.free)=bA then do let a <- cellOf env p.1;pure (ForInStep.yield ((p.1,a)::u)) else pure (ForInStep.yield u):Sem _))=pure cl /\
    (∀x c,cl.lookup x=aA c->env.cells.lookup x=aA c)/\(∀p∈names,p.2=.free->∃c,cl.lookup p.1=aA c)/\∀x c,b.lookup x=aA c->∃i,cl.lookup x=aA i:=by
  intro names
  induction names with
  |nil=>intro b _ n;exact#[b,by simp,n,λp g=>(nomatch g),λx c e=>#[c,e]]
  |cons p r v =>
   intro b s n;by_cases g:p.2=.free
   .let(c,y):=s p OF g;have e:cellOf env p.1=pure c:=by unfold cellOf;rw[y]
    let(cl,j,k,l,m):=v ((p.1,c)::b) (λq f=>s q (QD _ f)) (λx i z=>by
     rw[QG] at z;split at z
     .rename_i w;rw[EC w,y];exact z
     .exact n x i z)
    refine#[cl, ?_,k,λq f o=>?_,λx i z=>?_]
    .rw[oS];have t:(p.2==NameKind.free)=bA:=by rw[g];rfl
     rw[RA t,e];erw[pure_bind];exact j
    .rcases jD.mp f with w | w
     .subst w;exact m q.1 c (by rw[QG];simp)
     .exact l q w o
    .by_cases w:x=p.1
     .subst w;exact m p.1 c (by rw[QG];simp)
     .refine m x i ?_;rw[QG]
      have:(x==p.1)=dA:=lM.mpr w
      rw[this];exact z
   .let(cl,d):=v b (λq f=>s q (QD _ f)) n;let(j,k,l,m):oB:=d
    refine#[cl, ?_,k,λq f o=>?_,m]
    .rw[oS];have t:¬(p.2==NameKind.free)=bA:=↑g
     rw[if_neg t];erw[pure_bind];exact j
    .rcases jD.mp f with w | w
     .subst w;exact absurd o g
     .exact l q w o
 let(cl,d):=key scope.names [] h (λx c e=>by simp at e);let(j,k,l,_):oB:=d
 refine#[cl, ?_,k,l];unfold closureFor
 have:(forIn scope.names ([]:List (fA×iA)) λ(x:fA×ZI) (r:List (fA×iA))=>(match x with | (name,kind)=>if(kind==NameKind.free)=bA then do let a <- cellOf env name;pure (ForInStep.yield ((name,a)::r)) else pure (ForInStep.yield r):Sem _))=pure cl:=j
 erw[this,pure_bind,bind_pure]
 first | rfl | (rw[this];rfl) | skip
theorem Q3{env:ZK}:∀{names:List (fA×ZI)} {x:fA} {b:ZI},
  (names.map λ(n,k)=>if(k==NameKind.free&&env.scope.kind==.function&&env.kindOf n==aA .cell) then(n,NameKind.cell) else(n,k)).lookup x=aA b->∃k,names.lookup x=aA k/\(b=k\/(k=.free/\b=.cell))
 |[],x,b,h=>by simp at h
 | (n,k)::r,x,b,h=>by
  have d:=@Q3 env r x b;have a:MJ x ((if(k==NameKind.free&&env.scope.kind==.function&&env.kindOf n==aA .cell)=bA then(n,NameKind.cell) else(n,k))::(r.map λ(n,k)=>if(k==NameKind.free&&env.scope.kind==.function&&env.kindOf n==aA .cell) then(n,NameKind.cell) else(n,k)))=aA b:=h;by_cases c:(k==NameKind.free&&env.scope.kind==.function&&env.kindOf n==aA .cell)=bA
  .rw[RA c] at a;rw[QG] at a ⊢
   cases hx:x==n with
   |true=>rw[hx] at a;cases a;erw[XA,HG] at c;exact#[k,rfl,.inr #[c.1.1,rfl]]
   |false=>rw[hx] at a;exact d a
  .rw[if_neg c] at a;rw[QG] at a ⊢
   cases hx:x==n with
   |true=>rw[hx] at a;cases a;exact#[k,rfl,.inl rfl]
   |false=>rw[hx] at a;exact d a
theorem Lf{env:ZK}:∀{names:List (fA×ZI)} {x:fA},names.lookup x=aA .free ->
  (names.map λ(n,k)=>if(k==NameKind.free&&env.scope.kind==.function&&env.kindOf n==aA .cell) then(n,NameKind.cell) else(n,k)).lookup x=aA .cell \/
  (names.map λ(n,k)=>if(k==NameKind.free&&env.scope.kind==.function&&env.kindOf n==aA .cell) then(n,NameKind.cell) else(n,k)).lookup x=aA .free
 |[],x,h=>by simp at h
 | (n,k)::r,x,h=>by
  have a:=@Lf env r x;show MJ x ((if(k==NameKind.free&&env.scope.kind==.function&&env.kindOf n==aA .cell)=bA then(n,NameKind.cell) else(n,k))::_)=_\/MJ x ((if(k==NameKind.free&&env.scope.kind==.function&&env.kindOf n==aA .cell)=bA then(n,NameKind.cell) else(n,k))::_)=_;rw[QG] at h;by_cases b:(k==NameKind.free&&env.scope.kind==.function&&env.kindOf n==aA .cell)=bA
  .rw[RA b,QG]
   cases hx:x==n with
   |true=>exact .inl rfl
   |false=>rw[hx] at h;exact a h
  .rw[if_neg b,QG]
   cases hx:x==n with
   |true=>rw[hx] at h;exact .inr h
   |false=>rw[hx] at h;exact a h
theorem tr(I:Nat->CA->Prop)
  (d:∀n s,I n s->sA (model prog w) A (pyNext it) (λr f=>match r with
   |none=>R (.ok .next) f
   |some v=>sA (model prog w) A (letOwnedTupleGo target it v) (λ_ f=>sA (model prog w) A (assign target env v) (λ_ j =>
     sA (model prog w) A (forIn EA bA λc r=>if r=bA then do let ok <- isTrue c env (eval c env);pure (ForInStep.yield ok) else pure (ForInStep.yield r)) (λok g =>
      if ok=bA then sA (model prog w) A (eval lC env) (λx k =>
       sA (model prog w) A (call (.builtin "list.append") [yM,x]) (λ_ l=>∃m,m<n/\I m l) (notedBy (model prog w) A env λe a=>R (.error e) a) k) (notedBy (model prog w) A env λe a=>R (.error e) a) g
      else ∃m,m<n/\I m g) (notedBy (model prog w) A env λe a=>R (.error e) a) j) (notedBy (model prog w) A env λe a=>R (.error e) a) f) (notedBy (model prog w) A env λe a=>R (.error e) a) f) (notedBy (model prog w) A env λe a=>R (.error e) a) s)
  (n:Nat) (h:I n s):mI (model prog w) A (.compLoop (.ListComp lC [#[target,iter,EA,0]] scope pos) 0 it yM env) R s:=by
 refine codeAny_loop rfl I (λn s q=>?_) n h;show sA _ A ((compTurn (.ListComp lC [#[target,iter,EA,0]] scope pos) 0 it yM env).onRaise (λx=>do noteFrame x env;theTreesLotGoes x)) _ _ s;refine wpAny_noted ?_;rw[compTurn_list];refine tA (lW (tA (yF (d n s q) (λr f o=>?_) λ_ _ b=>b)))
 cases r with
 |none=>exact ZA o
 |some v =>
  refine tA (yF o (λ_ t i=>?_) λ_ _ b=>b);refine tA (yF i (λ_ j u=>tA (yF u (λok g p=>?_) λ_ _ b=>b)) λ_ _ b=>b)
  cases ok with
  |false=>exact ZA #[rfl,p]
  |true =>
   exact tA (tA (yF p (λx k y=>tA (yF y (λ_ l z=>ZA (ZA #[rfl,z])) λ_ _ b=>b)) λ_ _ b=>b))
def mT(X:Cx)(a:PD)(cl:List (fA×iA))(C:iA)(b:List fA)(c:CA)(d:Hp)(e:List iA)(xe:jA->CA->Prop):Cx :=
 { X with N:=b,s₀:=c,H₀:=d,env:=compEnvC a cl C X.env,outer:=X.stack,stack:=X.stack,ex:=e,fn:=λ_=>dA,pn:=[],xe:=xe }
def RF(X:Cx)(a:PD)(b:List fA)(c:Cx):Prop:=∃cl C d e f xe,c=mT X a cl C b d e f xe
section
variable{s:CA}
def hQa{i:Nat}(h:(start N b)[i]?=aA (aA v)):b[i]?=aA v:=by
 unfold start at h;by_cases a:i<b.length
 .rw[FN (by rw[pA];exact a),ND,OC a] at h;rw[OC a];simpa using h
 .rw[HP (by rw[pA];lia),GN] at h;split at h
  .cases h
  .cases h
def gA.block(I:gA X cA B H s)
  (J:C.kind=.function) (M:∀y∈C.names,y.2≠.cell) (sub:∀x c,cl.lookup x=aA c->X.env.cells.lookup x=aA c) (F:∀p∈C.names,p.2=.free->∃c,cl.lookup p.1=aA c)
  (U:∀p∈C.names,p.2=.free->X.env.kindOf p.1=aA .cell\/X.env.kindOf p.1=aA .free)
  (R:∀b∈Y,kD X cA H b) (Z:∀b∈Y,b<s⁻¹) (Ra:vs.length<=O.length)
  (P:∀(i:Nat) x v,O[i]?=aA x->vs[i]?=aA v->∃j:Nat,X.N[j]?=aA x/\B[j]?=aA (aA v)/\C.names.lookup x=aA .free)
  (m:fA->Option jA) (GQ:h₄.Ns s⁻¹ m) (Lx:yH s⁻¹ (s.heap.push ob) h₄) :
  gA (mT X C cl s⁻¹ O s H Y xe) [] (start O vs) H { s with heap:=h₄,toks:=tk }:=by
 have old:∀b o,s.heap.get? b=aA o->h₄.get? b=aA o:=λb o e=>(Lx.2 b (AD (VB e))).trans (aC _ e)
 have freeOf:∀x,(relabel C X.env).names.lookup x=aA .cell\/(relabel C X.env).names.lookup x=aA .free->C.names.lookup x=aA .free:=λx hx=>by
  rcases hx with hx | hx
  .let(k,h1,h2):rA:=Q3 (env:=X.env) hx
   rcases h2 with h2 | ⟨h2,_⟩
   .subst h2;exact absurd rfl (M _ (aAr h1))
   .subst h2;exact h1
  .let(k,h1,h2):rA:=Q3 (env:=X.env) hx
   rcases h2 with h2 | ⟨_,h2⟩
   .subst h2;exact h1
   .cases h2
 have ok:(mT X C cl s⁻¹ O s H Y xe).Ok:=by
  refine#[I.ok.mod,J,I.ok.glob,I.ok.blt,uB _,λx y c h1 h2=>I.ok.inj x y c (sub x c h1) (sub y c h2),λx hx=>?_,λx c h=>(nomatch h),I.ok.hd,I.ok.frames,.inl rfl,λb hb=>#[AD (Z b hb),λx c e=>(R b hb).2.2.2.2.1 x c (sub x c e)],λb o e=>I.bs b o e,dD I.ok.cH I.sz,λb o e hb=>?_,λb hb z=>?_,I.stack,I.LR]
  .exact F (x,.free) (aAr (freeOf x hx)) rfl
  .rcases(R b hb).2.2.2.1 with z | z
   .exact I.ok.BK b o e z
   .rw[(I.ok.bs b o e).1] at z;cases z
  .rcases jD.mp (I.qV b z) with z | z
   .exact(R b hb).2.1 z
   .exact(R b hb).2.2.1 z
 refine#[ok,rfl,I.bare,Un.kept old,#[m,GQ,λi x v e1 e2 e3=>?_],λx c e=>?_,I.LA.fresh (uB _),λx c e=>I.WE x c (sub x c e),λp hp=>(nomatch hp),I.LA.kept old, ?_]
 .let(j,h1,h2,h3):KA:=P i x v e1 (hQa e2)
  have hk:=U (x,.free) (aAr h3) rfl;let(m0,Na,hl):rA:=I.loc
  let(u,r,lk):rA:=hl j x v h1 h2 (.inr hk)
  refine#[u,r, ?_];rcases lk with ⟨k,_⟩ | ⟨k,c,e,z⟩
  .rcases hk with hk | hk
   .rw[hk] at k;cases k
   .rw[hk] at k;cases k
  .let(c',Q):=F (x,.free) (aAr h3) rfl;have ec:=sub x c' Q;rw[e] at ec;cases ec;let(o,ho,hd):rA:=z;exact .inr #[Lf (env:=X.env) h3,c,Q,o,old c o ho,hd]
 .let(v,o,ho,hd):FA:=I.cell x c (sub x c e)
  exact#[v,o,old c o ho,hd]
 .show(start O vs).length=O.length;unfold start;simp
  lia
def kJ(X:Cx)(EA:List xA)(t:TT):Prop:=∀(cA:List (iA×kB)) (s:CA) (B:St) (H:Hp) (Q:Bool->Hp->Prop),gA X cA B H s->t B H Q ->
 sA (~~~X) X.A (forIn EA bA λc r=>if r=bA then do let ok <- isTrue c X.env (eval c X.env);pure (ForInStep.yield ok) else pure (ForInStep.yield r)) (TP X cA B Q) X.xe s
def oLa:kJ X [] (λB H Q=>Q bA H):=λcA s B H Q I h=>wpAny_tests_nil #[H,I,h]
def pLa(h:PT X c t):kJ X [c] t:=λcA s B H Q I q=>wpAny_tests_one (h cA s B H Q I q)
def V4(N:List fA)(a:PD)(f:List fA)(g:TG)(r:TT)(t:TE)(B:St)(Q:VK)(J:It)(l:Hp):Prop:=∃h:List V,h.length<=f.length /\
 (∀(i:Nat) x v,f[i]?=aA x->h[i]?=aA v->∃j:Nat,N[j]?=aA x/\B[j]?=aA (aA v)/\a.names.lookup x=aA .free) /\
 ∀D,l D=eA->∃(n:Nat) (d:Nat->St->Hp->Prop),d 0 (start f h) (GA l D (.l []))/\∀i m c,d i m c ->
  (J.stop i c/\Q (.ref D) c)\/(i<n/\J.go i c/\∀x o,J.EV i c x o->g x m o λe u=>r e u λb p =>
   if b=bA then t e p λy q=>∃k,q D=aA (.l k)/\k.length<sizeLine/\d (i+1) e (GA q D (.l (k++[y]))) else d (i+1) e p)
def WO(N:List fA)(a:PD)(b:List fA)(c:TI)(g:TG)(d:TT)(e:TE):TE:=λB H Q=>c B H (V4 N a b g d e B Q)
def a9(hc:X.calm=bA)(hi:PI X tg iter wi)(hs:∀x,eJ iter X.env x=pure x)
  (F:a.kind=.function) (M:∀y∈a.names,y.2≠.cell) (Z:∀x∈a.names,x.2=.local->a.names.lookup x.1=aA .local)
  (Ha:∀p∈a.names,p.2=.free->X.env.kindOf p.1=aA .cell\/X.env.kindOf p.1=aA .free)
  (hg:∀j,RF X a N' j->PG j tg g) (ht:∀j,RF X a N' j->kJ j EA tt) (he:∀j,RF X a N' j->PE j lC te) (I:gA X cA B H s) (h:WO X.N a N' wi g tt te B H Q)
  (fin:∀(D C:iA) (q:Hp) (s':CA),gA X cA B q s'->Q (.ref D) q->q C=eA->X.s₀.heap.objs.size<=C->C≠X.env.locals->(∀x c,X.env.cells.lookup x=aA c->c≠C)->(∀p∈X.pn++cA,p.1≠C)->(∃m,s'.heap.Ns C m) ->
   compPost (~~~X) X.A X.xe use QF (.ref D) C (.ok .next) s') :
  sA (~~~X) X.A (comprehension (.ListComp lC [#[tg,iter,EA,0]] a pos) a X.env ps (newList []) dA (eval iter X.env) use) QF X.xe s:=by
 let(cl,Tw,sub,Mw):KA:=X8 (env:=X.env) λp hp hf=>I.ok.has p.1 (Ha p hp hf)
 refine wpAny_comprehension_free rfl hs Tw F Z (UA (hi cA s B H _ I h) λv s1 h1=>UA h1 λbz t h2=>?_);let(it,l):=h2;let(U,tn,J,H2,e,I2,Ua):VA:=l;let(T,vg,f2,pU):oB:=Ua;let(vs,Ra,himp,hD):KA:=pU
 subst e
 have Y9:∀b∈U,b<t⁻¹:=λb f=>by
  let(o,e,_):rA:=T.obj _ _ vg b f
  exact VB e
 refine SK (Wj M (by intro y hy;simp at hy) (λh₁ O K=>?_) F);dsimp only at O K ⊢;have I3:gA X cA B (GA H2 t⁻¹ (.l [])) { t with heap:=t.heap.push { cls:=.type "list",dict:=eA,data:=.seq ([]:List jA).toArray } }:=I2.T1 (hE:=[]) (t':=t.toks) .nil (lI _);let(n,LP,l0,turn):FA:=hD t⁻¹ I2.fresh
 generalize Qa:({ t with heap:=t.heap.push { cls:=.type "list",dict:=eA,data:=.seq ([]:List jA).toArray } }:CA)=Y at I3;have IZ:Y.heap=t.heap.push { cls:=.type "list",dict:=eA,data:=.seq ([]:List jA).toArray }:=by rw[<- Qa]
 rw[<- IZ] at O K ⊢;have f3:∀b∈U,kD X cA (GA H2 t⁻¹ (.l [])) b:=λb f=>#[by rw[jB (AD (Y9 b f))];exact(f2 b f).1,(f2 b f).2]
 have Z9:∀b∈U,b<Y⁻¹:=λb f=>by rw[IZ,jW];exact Nat.lt_succ_of_lt (Y9 b f)
 let R:Result->CA->Prop:=compPost (~~~X) X.A X.xe use QF (.ref t⁻¹) Y⁻¹
 let j:Cx:=mT X a cl Y⁻¹ N' Y (GA H2 t⁻¹ (.l [])) U (notedBy (~~~X) X.A (compEnvC a cl Y⁻¹ X.env) λe s'=>R (.error e) s')
 have DZ:RF X a N' j:=#[_,_,_,_,_,_,rfl]
 have I4:∀tk,gA j [] (start N' vs) (GA H2 t⁻¹ (.l [])) { Y with heap:=h₁,toks:=tk }:=λtk=>I3.block F M sub Mw Ha f3 Z9 Ra himp _ O K
 have old:∀b o,Y.heap.get? b=aA o->h₁.get? b=aA o:=λb o e=>(K.2 b (AD (VB e))).trans (aC _ e)
 have wg:tn 0 h₁:=T.keep _ _ _ vg λb f o e=>old b o (by rw[IZ];exact aC _ e)
 have P:∀{q:Hp},(∀b∈U,q b=eA)->∀b∈U,kD j [] q b:=λhn b f=>#[hn b f,AD (Z9 b f),λz=>by
  rcases jD.mp (I3.qV b z) with z | z
  .exact(f2 b f).2.1 z
  .exact(f2 b f).2.2.1 z,.inl f,λx c e=>(f2 b f).2.2.2.2.1 x c (sub x c e),λp hp=>(nomatch hp)]
 have loop:∀tk,mI (~~~X) X.A (.compLoop (.ListComp lC [#[tg,iter,EA,0]] a pos) 0 (.ref it) (.ref t⁻¹) (compEnvC a cl Y⁻¹ X.env)) R { Y with heap:=h₁,toks:=tk }:=by
  intro tk;refine tr (λm s'=>∃i B' q,m=n-i/\gA j [] B' q s'/\tn i s'.heap/\(∀b∈U,q b=eA)/\LP i B' q) ?_ n #[0,_,_,by simp,I4 tk,wg,λb f=>(f3 b f).1,l0]
  rintro m s5 ⟨i,B5,H5,rfl,I5,xg,VT,w5⟩
  rcases turn i B5 H5 w5 with ⟨stop,qn⟩ | ⟨hin,go,step⟩
  .refine UA (T.done j rfl rfl rfl hc i [] s5 B5 H5 _ I5 (P VT) xg stop) λr s6 k=>?_
   let(hr,I6):=k;subst hr;let(m6,wx,_):rA:=I6.loc
   have IX:gA X cA B H5 s6:=I3.O8 (s':=s6) (ch:=U) I6.os I6.base I6.LA I6.bare λb f=>#[(f2 b f).2.2.2.1,(f2 b f).2.1,(f2 b f).2.2.2.2.1,(f2 b f).2.2.2.2.2]
   refine fin _ _ H5 s6 IX qn I6.free I3.sz (λz=>UI _ (ME I3.lt (AS z))) (λx c e z=>?_) (λp hp z=>?_) #[m6,wx]
   .let(v,o,ho,hd):FA:=I3.cell x c e
    rw[z] at ho;exact UI _ (VB ho)
   .have:=(I3.pin p hp).1
    rw[z] at this;exact UI _ (VB this)
  .refine UA (T.item j rfl rfl rfl hc i [] s5 B5 H5 _ I5 (P VT) xg go) λr s6 k=>?_
   let(u,hr,h6):rA:=k;subst hr;refine UA h6 λ_ s7 k=>?_
   let(x,l):=k;let(H7,I7,r7,y7,F4,Sv):zD:=l
   have Zl:=I7.pinned (P Sv) (T.obj _ _ F4)
   have again:∀{B8:St} {H8:Hp} {s8:CA},gA j ([]++tR U s7.heap) B8 H8 s8->LP (i+1) B8 H8->∃m,m<n-i/\∃i B' q,m=n-i/\gA j [] B' q s8/\tn i s8.heap/\(∀b∈U,q b=eA)/\LP i B' q:=λ{B8 H8 s8} I8 w8=>by
    refine#[n-(i+1),by lia,i+1,B8,H8,rfl,I8.AV,T.keep _ _ _ F4 λb f o e=>(I8.pin (b,o) (MG _ (MG _ (MU f e)))).1,λb f=>?_,w8];let(o,e,d):rA:=T.obj _ _ F4 b f
    exact(I8.pin (b,o) (MG _ (MG _ (MU f e)))).2.1
   refine UA (hg j DZ _ s7 B5 H7 x u _ Zl r7 (step x H7 y7)) λ_ s8 k=>?_
   let(B8,H8,I8,q8):=k;refine UA (ht j DZ _ s8 B8 H8 _ I8 q8) λb s9 k=>?_
   let(H9,I9,q9):rA:=k
   cases b with
   |false=>exact again I9 q9
   |true =>
    refine UA (he j DZ _ s9 B8 H9 _ I9 q9) λy s10 k=>?_
    refine pB k λyv Vl Wl r10 l=>?_
    let(ys,hy,k,q10):KA:=l
    refine UA (Fd (X:=j) _ s10 B8 Vl (.ref t⁻¹) [yv] (.ref t⁻¹) [y] (λ_ q=>LP (i+1) B8 q) Wl rfl (.cons r10 .nil) #[_,ys,yv,rfl,rfl,hy,k,q10]) λ_ s11 k=>?_
    let(_,H11,Xl,_,q11):pB:=k;exact again Xl q11
 subst Qa;exact codeAny_compStart_list (loop _) (T.self _ 0 _ _ _ wg (loop _))
def cIa(t:X.calm=bA)(u:PI X r iter v)(w:∀x,eJ iter X.env x=pure x)
  (f:a.kind=.function) (i:∀y∈a.names,y.2≠.cell) (c:∀x∈a.names,x.2=.local->a.names.lookup x.1=aA .local)
  (j:∀p∈a.names,p.2=.free->X.env.kindOf p.1=aA .cell\/X.env.kindOf p.1=aA .free)
  (z:∀d,RF X a N' d->PG d r g) (A:∀d,RF X a N' d->kJ d EA F) (J:∀d,RF X a N' d->PE d k M) :
  PE X (.ListComp k [#[r,iter,EA,0]] a pos) (WO X.N a N' v g F M):=by
 intro cA s B H Q I h;rw[eval_ListComp];refine a9 (use:=eA) (QF:=EP X cA B Q) t u w f i c j z A J I h λD C K O P q R U Y l Z n=>?_
 let(m,n):=n;refine#[m,n,λh' sb=>#[.ref D,K,P.turned (t':=O.toks) (λb o hb e=>(sb.2 b hb).trans e) R Y (.inr (dP U)) l Z,rfl,q]]
def nKa(u:swapsWith (.ListComp f [#[r,iter,EA,0]] scope pos) (aA (.Name y py)) l.line X.env=pure bA)
  (Q:X.N.Nodup) (R:X.N[i]?=aA y) (U:Loc X.env.scope y) (Y:X.fn y=bA\/X.env.scope.names.lookup y=aA .local) (Z:X.calm=bA) (hi:PI X r iter wi) (hs:∀x,eJ iter X.env x=pure x)
  (j:scope.kind=.function) (k:∀y∈scope.names,y.2≠.cell) (c:∀x∈scope.names,x.2=.local->scope.names.lookup x.1=aA .local)
  (w:∀p∈scope.names,p.2=.free->X.env.kindOf p.1=aA .cell\/X.env.kindOf p.1=aA .free)
  (hg:∀d,RF X scope z d->PG d r g) (ht:∀d,RF X scope z d->kJ d EA tt) (he:∀d,RF X scope z d->PE d f te) :
  PS X (.Assign [.Name y py] (.ListComp f [#[r,iter,EA,0]] scope pos) l) (tV (WO X.N scope z wi g tt te) (NM i)):=by
 intro cA s B H D0 I h;rw[exec_Assign_Name_used _ _ _ _ u];refine tA (lW (tA ?_));show sA _ X.A (do let _ <- comprehension (.ListComp f [#[r,iter,EA,0]] scope pos) scope X.env _ (newList []) dA (eval iter X.env) (aA (assign (.Name y py) X.env))) _ _ s;refine tA (yF (a9 (use:=aA (assign (.Name y py) X.env)) (QF:=λ_ F=>SP X cA D0 .next F) Z hi hs j k c w hg ht he I h λD C H' F I' q hC t P n hp J=>?_) (λ_ F hq=>ZA (ZA hq)) λ_ _ e=>e);let(m,J):=J;refine Ek (Jg I' Q R U (v:=.ref D) rfl (λs2 I2 t=>?_) Y);let(a,sb,K):rA:=t
 have M:a≠C:=by
  rcases K with rfl | K
  .exact rD P
  .exact n _ _ K
 refine#[m,J.sameBut sb (rD M),λh' O=>#[_,H',I2.turned (t':=s2.toks) (λb o hb e=>(O.2 b hb).trans e) hC P (.inr (dP t)) n hp,q]]
end
end L2
namespace CI
set_option tactic.hygienic true
open PySem PySem.Spec PyProof.Rows L2
section
variable{X:Cx}{K:kA}{P:bB}{C:Calls}{Y:CC}
theorem NA.inner(xo:NA X K P C Y)(hk:X.env.scope.kind=.function)(nd:(aAl scope++aAu scope).Nodup)(b:RF X scope (Y.inner scope).N I):NA I K P C (Y.inner scope):=by
 let(cl,C0,s₃,j):BB:=b;let(H₃,fp,xe,J):BB:=j;obtain rfl:=J
 refine NA.of xo.NC rfl ?_ nd xo.calm xo.hh xo.hu xo.c xo.blt (λx f h=>?_) (λx ns h=>?_) (λm tb c f h1 h2=>?_) xo.rm xo.sub xo.ID xo.YH #[xo.exc,λx h=>?_] xo.JA #[λx f h=>?_,λx f h=>?_,λm tb c f h1 h2=>?_] xo.tp (WG.no rfl)
 .show(relabel scope X.env).names=(Y.inner scope).names;unfold relabel CC.inner;simp only;congr 1
  funext p
  let(n,k):=p;have e:X.env.kindOf n=Y.names.lookup n:=by unfold P6;rw[xo.nm]
  erw[hk,e];simp
 .let(r,u,y,j):BB:=(xo.fn x f h).ex
  let(k,h1,h2,h3,B,h5):zD:=j
  exact#[#[r,u,y,k,h1,h2,h3,B,h5]]
 .let(H,r,u,y,h1,h2,j):VA:=(xo.cls x ns h).ex
  let(h3,B,h5,M):oB:=j
  exact#[#[H,r,u,y,h1,h2,h3,B,h5,M]]
 .let(H,j):=(xo.vE m tb c f h1 h2).ex;let(r,u,y,k,O,Q,F):VA:=j;let(R,U,Z,z6):oB:=F
  exact#[#[H,r,u,y,k,O,Q,R,U,Z,z6]]
 .exact#[trivial]
 .let(r,u,y,j):BB:=(xo.fnX x f h).ex
  let(k,h1,h2,h3,B,h5):zD:=j
  exact#[#[r,u,y,k,h1,h2,h3,B,h5]]
 .exact#[trivial]
 .exact#[trivial]
def JK(K:kA)(P:bB)(C:Calls)(d:List E):TT:=λB H Q=>∃(U:Env) (G:Hp) (b:Bool) (a:Env),HA K U B H G/\MC P C d U=some (.ok (.sh (.bl b)),a) /\
 ∀c e,DA K U B H G a c e->Q b c
def pf:kJ X [] (JK K P C []):=λcA s B H Q I a=>by
 let(U,G,b,c,r,e,k):VA:=a;rw[MC] at e;cases e;exact oLa cA s B H Q I (k H G (DA.refl r))
def qf(h:IA X K P C c g):kJ X [c] (JK K P C [g]):=λcA s B H Q I d=>by
 let(U,G,b,i,r,e,k):VA:=d;refine pLa h.t cA s B H Q I ?_;rw[MC] at e;let(v,j,f,a):FA:=yB e
 split at a
 .rw[MC] at a;cases a;exact#[U,G,bA,_,r,f,k]
 .cases a;exact#[U,G,dA,_,r,f,k]
 .cases a
theorem HB.MO(b:HB K U B H G j m y r)(h:H a=eA)(g:r a=eA)(n:¬yA j m a):HB K U B H G j m (GA y a o) r:=by
 refine#[b.qA.MO g n,#[b.ext.gg,λc u e F=>?_,λc e=>?_,b.ext.gn],b.own,b.un,b.pin,b.len]
 .have:c≠a:=λz=>by subst z;rw[h] at e;cases e
  rw[jB this];exact b.ext.hh c u e F
 .by_cases x:c=a
  .subst x;rw[jC] at e;cases e
  .rw[jB x] at e;exact b.ext.hx c e
theorem OX{bind:D->Env->Option Env}:∀{i b a:List D} {U g:Env},nE h j bind i b U=some (.ok a,g)->b.length<=a.length
 |[],b,a,U,g,e=>by erw[nE,rC,cF,Out.ok.injEq] at e;rw[e.1];exact uB _
 |d::i,b,a,U,g,e=>by
  erw[nE] at e;split at e
  .cases e
  .let(c,l,m,f):FA:=yB e
   split at f
   .let(v,n,o,k):FA:=yB f
    have:=OX k
    simp at this
    lia
   .exact OX f
   .cases f
theorem ng:∀(imp:List Nat) (U:Env) (as:List Sl) (g:Env),HA K U B H G->aAk (imp.map λ_=>bA) (imp.map Hd.slot) U=aA (as,g) ->
  ∃b,OD K H G own new B (imp.map Hd.slot) b/\b.length=imp.length/\(∀a,¬rG (imp.map Hd.slot) b a)/\∀(j:Nat) v,b[j]?=aA v->∃i:Nat,imp[j]?=aA i/\B[i]?=aA (aA v)
 |[],U,as,g,r,e=>#[[],rfl,rfl,λa z=>z,λj v h=>by simp at h]
 |i::imp,U,as,g,r,e=>by
  have go:∀(f:Env) (c:List Sl) (k:Env),HA K f B H G->aAk (imp.map λ_=>bA) (imp.map Hd.slot) f=aA (c,k)->(∃v,B[i]?=aA (aA v)) ->
    ∃b,OD K H G own new B ((i::imp).map Hd.slot) b/\b.length=(i::imp).length/\(∀a,¬rG ((i::imp).map Hd.slot) b a)/\∀(j:Nat) v,b[j]?=aA v->∃o:Nat,(i::imp)[j]?=aA o/\B[o]?=aA (aA v):=by
   intro f c k t u #[v,s];let(b,x,A,F,I):=ng imp f c k t u;refine#[v::b,#[v,b,rfl,s,x,λd a z=>(nomatch z)],by simp[A],λa z=>F a z,λj w m=>?_]
   cases j with
   |zero=>erw[vH,rC] at m;subst m;exact#[i,rfl,s]
   |succ j=>exact I j w (↑m)
  rw[vB,vB,cR] at e;split at e
  .rename_i d n
   cases q:aAk (imp.map λ_=>bA) (imp.map Hd.slot) U with
   |none=>rw[q] at e;cases e
   |some y=>exact go U y.1 y.2 r q (r.bound (by rw[n];rfl))
  .rename_i d p l n
   cases q:aAk (imp.map λ_=>bA) (imp.map Hd.slot) (U.set i .un) with
   |none=>rw[q] at e;cases e
   |some y=>exact go _ y.1 y.2 (r.unset i) q (r.bound (by rw[n];rfl))
  .cases e
def qLa(g:∀i,o=aA i->∃d p l,a[i]?=aA (.ow d p l))(e:aAs o a k=aA m)(h:fE (aAi o a) k):fE a m:=by
 cases o with
 |none=>erw[aAs,rC] at e;subst e;exact h
 |some i =>
  let(d,p,l,c):BB:=g i rfl
  erw[aAs] at e;split at e
  .rename_i sl n f;rw[c] at f;cases f;cases e;intro j;by_cases b:j=i
   .subst b;rw[c,NF (LD.mp n).1];exact AF.refl _
   .have:=h j
    rw[QC (λz=>b z.symm)]
    have q:(aAi (aA i) a)[j]?=a[j]?:=by(show(a.set i .un)[j]?=_;rw[QC (λz=>b z.symm)])
    rw[q] at this;exact this
  .cases e
theorem QZ{Y:CC}:∀{a:List fA} {imp:List Nat},Y.FH a=aA imp->imp.length=a.length/\∀(j:Nat) x i,a[j]?=aA x->imp[j]?=aA i->Y.N[i]?=aA x
 |[],imp,h=>by erw[CC.FH,rC] at h;subst h;exact#[rfl,λj x i z=>by simp at z]
 |x::a,imp,h=>by
  erw[CC.FH] at h
  cases q:Y.N.idxOf? x with
  |none=>rw[q] at h;cases h
  |some i =>
   rw[q] at h;erw[OG] at h
   cases q2:Y.FH a with
   |none=>rw[q2] at h;cases h
   |some r =>
    rw[q2] at h;erw[vF,rC] at h;subst h;let(c,d):=QZ q2;refine#[by simp[c],λj y k b hk=>?_]
    cases j with
    |zero =>
     erw[vH,rC] at b hk;subst b hk;exact qU q
    |succ j=>exact d j y k (↑b) (↑hk)
structure vM(Y:CC)(scope:PD):Prop where
 kind:scope.kind=.function
 cell:∀y∈scope.names,y.2≠.cell
 names:∀x∈scope.names,x.2=.local->scope.names.lookup x.1=aA .local
 free:∀x∈scope.names,x.2=.free->scope.names.lookup x.1=aA .free
 out:∀p∈scope.names,p.2=.free->Y.names.lookup p.1=aA .cell\/Y.names.lookup p.1=aA .free
 nd:(aAl scope++aAu scope).Nodup
def dg(h:Y.GR a=bA):vM Y a:=by
 unfold CC.GR at h;erw[XA,bF,decide_eq_true_eq,HG,bne_iff_ne,fJ,ne_eq] at h;obtain⟨⟨⟨⟨e,f⟩,g⟩,d⟩,i⟩:=h;refine#[e,f,λx b j=>?_,λx b c=>?_,λx b c=>?_,i]
 .rcases g x b with z | z
  .exact absurd j z
  .exact z
 .rcases d x b with z | z
  .exact absurd c z
  .exact z.1
 .rcases d x b with z | z
  .exact absurd c z
  .exact z.2
def ja(b:vM Y a)(h:x∈aAl a):a.names.lookup x=aA .free:=by
 unfold aAl at h;let(p,c,d):rA:=pE.mp h
 obtain rfl:=d;let(e,f):=vN.mp c;exact b.free p e (EC f)
def Vc(B:St)(H:Hp)(R:It->Hp->Prop)(q:pI K P C .key [c] B H R):Va (tH K P C c) B H R:=by
 let(U,G,u,x,y,o,r,e,b,k):=q;erw[vC] at e;let(h,A,n,g):=yB e;erw[zA.bind,rC,cF,Out.ok.injEq] at g;let(rfl,rfl):=g;refine#[U,G,h,_,r,n,λv p j l d=>?_];obtain _ | w:=h
 .cases b
 .change D1 w=_ at b;unfold D1 at b;split at b
  .cases b;replace d:nA K j _ v:=d;erw[nA] at d;obtain⟨a,s,F,rfl,⟨t,m⟩,f,I⟩:=d;exact#[a,s,t,rfl,f.2.2.1,l.qA.sub _ _ m,k p j l (λi z=>nomatch z) _ (bTa (by rw[f.2.2.2.2.1]) m f.2.2.2.1)]
  .cases b
structure Ol(K:kA)(P:bB)(C:Calls)(cond:List E)(lC:Env->zA RV)(is:List Nat)(U0:Env)(B0:St)(H1 G2:Hp)(ds yM:List D)(Ui:Env)(D:iA)(i:Nat)(B':St)(H':Hp):Prop where
 le:i<=ds.length
 ex:∃Uc Gc ac ys,HB K U0 B0 H1 G2 Uc B' H' Gc/\H' D=aA (.l ys)/\Gc D=eA/\¬yA Uc B' D/\oA K Gc ac ys/\nE (MC P C cond) lC (eB (is.length==1) is) (ds.drop i) ac Uc=some (.ok yM,Ui)
def ur(xo:NA X K P C Y){hE cond:List E}(Xw:∀U v U',lC U=some (.ok v,U')->ev P C dA ce U=some (.ok v,U'))(sc:vM Y b)(himp:Y.FH (aAl b)=aA imp)
  (hw:∀B H (R:It->Hp->Prop),KN K P C k0 hE B H R->wi B H R)
  {B:St} {H:Hp} {Q:VK} (h:∃(U:Env) (G:Hp) (v:RV) (U':Env),HA K U B H G/\J9 P C lC is k0 hE cond imp (aAu b).length U=some (.ok v,U')/\∀x M G',DA K U B H G U' M G'->dC K M G' (yA U' B) (UC H) v x->Q x M):WO X.N b (Y.inner b).N wi (gB K (is.length==1) is) (JK K P C cond) (tE K P C ce) B H Q:=by
 let(U,G,v,U',r,e,k):VA:=h;unfold J9 at e;let(RM,F,e1,e2):FA:=yB e
 have body:∀A o,(HC (imp.map λ_=>bA) (oJ (MC P C cond) lC (eB (is.length==1) is) A (aAu b).length) (imp.map Hd.slot) (aAi o F)).bind (aAx o F)=some (.ok v,U')->∀H1 G1,DA K U B H G F H1 G1->(∀i,o=aA i->∃d p l,F[i]?=aA (.ow d p l))->∀J,wM K (aAi o F) B H1 G1 A J->V4 X.N b (Y.inner b).N (gB K (is.length==1) is) (JK K P C cond) (tE K P C ce) B Q J H1:=by
  intro A o e2 H1 G1 a1 ho;let(v',U2,e3,e4):FA:=yB e2
  unfold aAx at e4
  cases q3:aAs o F U2 with
  |none=>rw[q3] at e4;cases e4
  |some U3 =>
   rw[q3] at e4;erw[vF,rC,cF,Out.ok.injEq] at e4;let(rfl,rfl):=e4;have R0:=(uV (o:=o) a1.qA).1
   have iU:∃as U4,aAk (imp.map λ_=>bA) (imp.map Hd.slot) (aAi o F)=aA (as,U4):=by
    unfold HC at e3
    cases q4:aAk (imp.map λ_=>bA) (imp.map Hd.slot) (aAi o F) with
    |none=>rw[q4] at e3;cases e3
    |some y=>exact#[y.1,y.2,rfl]
   refine gD iU λbT U4 iU=>?_
   let(xs,mU,nU,Sa,oU):=ng (own:=yA (aAi o F) B) (new:=UC H1) imp _ _ _ R0 iU;obtain⟨as,G2,g8,ra,oO,ef,⟨qa,e8⟩,kk⟩:=pQ (DA.refl R0) mU e3;unfold oJ at ef;split at ef
   .rename_i hp;let(yM,Ui,e5,e6):FA:=yB ef
    split at e6
    .rename_i hz;erw[rC,cF,Out.ok.injEq] at e6;let(rfl,rfl):=e6;let(il,ig):=QZ himp
     have cU:(Y.inner b).N.length=as.length+(aAu b).length:=by(show(aAl b++aAu b).length=_;rw[RC,oO,pA,il])
     let(rp,op):=ra.pad cU;have KZ:=GK hz
     -- tF gUa O
     have O:∀(J:It),O7 K (as++qB (aAu b).length .un) (start (Y.inner b).N xs) H1 G2 A J->V4 X.N b (Y.inner b).N (gB K (is.length==1) is) (JK K P C cond) (tE K P C ce) B Q J H1:=by
      intro J hJ;refine Exists.intro xs #[by rw[cU,nU,oO,pA];lia,λi x v hN hv=>?_,λD hD=>?_]
      .let(j,hj,hB):=oU i v hv
       have m:i<(aAl b).length:=by(rw[<- il];exact(LD.mp hj).1)
       have Ia:(aAl b)[i]?=aA x:=by
        have:(aAl b++aAu b)[i]?=aA x:=hN
        rwa[FN m] at this
       exact#[j,by rw[xo.JH];exact ig i x j Ia hj,hB,ja sc (xH Ia)]
      .have fin:∀B' M Gc Z,HB K (as++qB (aAu b).length .un) (start (Y.inner b).N xs) H1 G2 Ui B' M Gc->M D=aA (.l Z)->Gc D=eA->¬yA Ui B' D->oA K Gc yM Z->Q (.ref D) M:=by
        intro B' M Gc Z a g t I hr;let(b1,b2):=iT ra hp cU a;let(c1,c2):=kk (.ref D) M Gc b1 #[D,rfl,t,#[Z,g,hr],λz=>I (b2 D z),hD];let(d1,d2):=wR a1.qA ho q3 (DA.s R0 c1);have a2:DA K F B H1 G1 U3 M Gc:=#[d1.qA,d1.ext,qLa ho q3 c1.sJ]
        let(D',e',g',o',n',f'):zD:=c2;cases e';refine k _ _ _ (a1.trans a2) #[D,rfl,g',o',λz=>?_,a1.fresh hD];rcases d2 D z with z | ⟨z,_⟩
        .exact n' z
        .exact(a1.qA.owned z).1 hD
       clear kk k q3 R0 ho a1 hp cU ra oO qa e8 mU nU Sa oU iU e3 e1 r himp il ig op;refine#[A.length,Ol K P C cond lC is (as++qB (aAu b).length .un) (start (Y.inner b).N xs) H1 G2 A yM Ui D, ?_, ?_]
       .have g2:G2 D=eA:=by
         cases z:G2 D with
         |none=>rfl
         |some u=>have:=rp.sub D u z;rw[hD] at this;cases this
        exact#[lI _,_,G2,[],[],DA.s rp ((DA.refl rp).GH hD),jC,g2,rp.VU hD,oA.nil,e5]
       .rintro i B' M ⟨hil,Uc,Gc,ac,Z,a,g,t,I,hr,n⟩
        let(j1,j2,j3):=hJ i M Uc B' Gc a;by_cases m:i<A.length
        .refine .inr #[m,j2 m,λx H2 hy=>?_];have hd:A[i]?=aA A[i]:=OC m;let(Gd,ZS,Kx):rA:=j3 _ x H2 hd hy
         have t:=ZS.ext.gn D (by rw[g];simp) t I;have g:=ZS.ext.hh D _ g I;have hr:=oA.mono ZS.ext.gg _ hr;have a:=a.trans (DA.s a.qA ZS);rw[XR m] at n;erw[nE] at n;split at n
         .cases n
         .rename_i Ub hb;let(c,Ut,et,n):FA:=yB n
          refine#[Uc,Gd,A[i],Ub,a.qA,Kx,hb,λB1 ab=>?_];have b8:=a.trans ab
          have nb:¬yA Ub B1 D:=λz=>by
           rcases ab.own D z with z | z
           .exact I z
           .rw[g] at z;cases z
          split at n
          .let(w,Ue,ee,n):FA:=yB n
           refine#[Ub,Gd,bA,Ut,ab.qA,et,λH3 G3 f=>?_];have h3:H3 D=aA (.l Z):=f.ext.hh D _ g nb;have g3:G3 D=eA:=f.ext.gn D (by rw[g];simp) t nb;have n3:¬yA Ut B1 D:=λz=>nb (f.own D z)
           dsimp only;rw[RA rfl];refine#[Ut,G3,w,Ue,f.qA,Xw _ _ _ ee,λy H4 G4 a4 ry=>?_];let(G5,a5,ry5):rA:=a4.share ry
           have h4:H4 D=aA (.l Z):=a5.ext.hh D _ h3 n3;have g5:G5 D=eA:=a5.ext.gn D (by rw[h3];simp) g3 n3;have n5:¬yA Ue B1 D:=λz=>n3 (a5.own D z)
           have Ma:=OX n;have hyl:=hr.len;rw[RC] at Ma;erw[KC,FJ] at Ma;have eo:=(b8.trans (DA.s ab.qA f)).trans (DA.s f.qA a5);refine#[Z,h4,by lia,m,Ue,G5,ac++[w.d],Z++[y],eo.MO hD g5 n5,jC,g5,n5, ?_,n];exact(oA.mono a5.ext.gg _ (oA.mono f.ext.gg _ hr)).app (oA.cons ry5 oA.nil)
          .refine#[Ub,Gd,dA,Ut,ab.qA,et,λH3 G3 f=>?_];have h3:H3 D=aA (.l Z):=f.ext.hh D _ g nb;have g3:G3 D=eA:=f.ext.gn D (by rw[g];simp) t nb;have n3:¬yA Ut B1 D:=λz=>nb (f.own D z)
           dsimp only;rw[if_neg (by decide)];exact#[m,Ut,G3,ac,Z,b8.trans (DA.s ab.qA f),h3,g3,n3,oA.mono f.ext.gg _ hr,n]
          .cases n
        .have La:i=A.length:=by lia
         refine .inl #[j1 La, ?_];subst La;rw[jl] at n;erw[nE,rC,cF,Out.ok.injEq] at n;let(rfl,rfl):=n;exact fin _ _ _ _ a g t I hr
     have gDa:∀c,yA as (xs.map aA) c->yA (aAi o F) B c:=λc z=>by
      rcases e8 c z with z | z
      .exact z
      .exact absurd z (Sa c)
     exact λJ wj=>O J (wj qa λc z=>gDa c (op c z))
    .cases e6
   .cases ef
 unfold WO
 cases q:aAb k0 RM F with
 |none =>
  rw[q] at e2;cases e2
 |some y =>
  let(A,o):=y;rw[q] at e2;exact hw B H _ #[U,G,RM,F,A,o,r,e1,q,body A o e2]
def b9(f:NA X K P C Y){c cond:List E}(g:vM Y b)(d:Y.FH (aAl b)=aA imp)
  (i:∀B H (R:It->Hp->Prop),KN K P C j c B H R->l B H R) (h:tE K P C (.comp ce is j c cond imp (aAu b).length) B H Q):WO X.N b (Y.inner b).N l (gB K (is.length==1) is) (JK K P C cond) (tE K P C ce) B H Q:=by
 let(U,G,v,m,r,e,k):VA:=h;exact ur f (lC:=ev P C dA ce) (λ_ _ _ z=>z) g d i #[U,G,v,m,r,e,λx n o a p=>k x n o a p]
def W4(K:kA)(P:bB)(C:Calls)(c:E):TE:=λB H Q=>False
def MN(X:Cx)(K:kA)(P:bB)(C:Calls)(e:xA)(c:E):Prop:=∀(x:fA) (i:Nat) (p pos:GB),X.N.Nodup->X.N[i]?=aA x->Loc X.env.scope x->(X.fn x=bA\/X.env.scope.names.lookup x=aA .local) ->
 PS X (.Assign [.Name x p] e pos) (tV (tE K P C c) (NM i))
def KO:MN X K P C e .uA:=λx i p pos _ _ _ _ cA s B H D I h=>by
 let(U,G,v,a,r,e,k):VA:=h;cases e
def qEa(j:NA X K P C Y){d cond:List E}(e:vM Y scope)(g:Y.FH (aAl scope)=aA imp)(y:AG (Y.inner scope) k=aA (is.length==1,is))
  (A:PI X k iter Z) (F:∀x,eJ iter X.env x=pure x)
  (J:∀B H (R:It->Hp->Prop),KN K P C o d B H R->Z B H R)
  (he:∀a,NA a K P C (Y.inner scope)->IA a K P C c ce) (ht:∀a,NA a K P C (Y.inner scope)->kJ a EA (JK K P C cond)) :
  IA X K P C (.ListComp c [#[k,iter,EA,0]] scope pos) (.comp ce is o d cond imp (aAu scope).length)/\MN X K P C (.ListComp c [#[k,iter,EA,0]] scope pos) (.comp ce is o d cond imp (aAu scope).length)/\PE X (.ListComp c [#[k,iter,EA,0]] scope pos) (W4 K P C (.comp ce is o d cond imp (aAu scope).length)):=by
 have all:X.env.scope.kind=.function->(∀a,RF X scope (Y.inner scope).N a->PG a k (gB K (is.length==1) is))/\(∀a,RF X scope (Y.inner scope).N a->kJ a EA (JK K P C cond))/\∀a,RF X scope (Y.inner scope).N a->PE a c (tE K P C ce):=by
  intro hk;have q:∀a,RF X scope (Y.inner scope).N a->NA a K P C (Y.inner scope):=λa b=>j.inner hk e.nd b
  have z:∀a,RF X scope (Y.inner scope).N a->∀x,(Y.inner scope).SM x=bA->a.fn x=bA\/a.env.scope.names.lookup x=aA .local:=λa b x f=>by
   rw[(q a b).nm];unfold CC.SM at f;rw[fJ,XA] at f;rcases f with f | f
   .exact .inr (EC f)
   .exact absurd f.1 (by simp[CC.inner])
  exact#[λa b=>c5 (q a b) (z a b) y,λa b=>ht a (q a b),λa b=>(he a (q a b)).v]
 have l:∀p∈scope.names,p.2=.free->X.env.kindOf p.1=aA .cell\/X.env.kindOf p.1=aA .free:=λp hp r=>by unfold P6;rw[j.nm];exact e.out p hp r
 have m:PE X (.ListComp c [#[k,iter,EA,0]] scope pos) (tE K P C (.comp ce is o d cond imp (aAu scope).length)):=λcA s B H Q I h=>by
  let(t,u,w):mG:=all I.ok.kind
  exact cIa (N':=(Y.inner scope).N) j.calm A F e.kind e.cell e.names l t u w cA s B H Q I (b9 j e g J h)
 refine#[ZD j m,λx i p n M f O r=>?_,λcA s B H Q I h=>?_]
 case refine_2 =>
  let(t,u,w):mG:=all I.ok.kind
  cases cond with
  |nil=>exact h.elim
  |cons _ _=>exact h.elim
 obtain⟨b,U⟩:∃b:Bool,swapsWith (.ListComp c [#[k,iter,EA,0]] scope pos) (aA (.Name x p)) n.line X.env=pure b:=#[_,rfl]
 cases b with
 |false=>exact dV m (Se M f O r) U
 |true =>
  intro cA s B H D I h;let(t,u,w):mG:=all I.ok.kind
  exact nKa U M f O r j.calm A F e.kind e.cell e.names l t u w cA s B H D I (b9 j e g J h)
end
structure MS(X:Cx)(K:kA)(P:bB)(C:Calls)(e:xA)(cs:List E):Prop where
 h:∀(f:fA) (p:GB) (args:List xA) (kw:List _) (pos:GB),e=.Call (.Name f p) args kw pos->args.all aAd=bA->PA X args (rH K P C cs)/\cs.length=args.length
theorem GX:∀(a:List xA),(rB Y a).length=a.length
 |[]=>by rw[rB];rfl
 |e::a=>by rw[rB,KC,KC,GX a]
section
variable{K:kA}
def Z4(h:AG Y b=aA (one,is))(n:one=dA):∃a k p,b=.Tuple a k p:=by
 induction b using TC with
 |Name x pos =>
  let(i,_,h):rA:=wH.mp h
  cases h;cases n
 |Tuple=>exact#[_,_,_,rfl]
 |_=>exact JE h
def J_(a:NA X K P C Y)(h:E1 Y e=aA i):FO e=bA/\IA X K P C e (.nD i):=by
 unfold E1 at h;split at h
 .split at h
  .exact#[rfl,T2 a h _]
  .cases h
 .cases h
def aAR(r:NA X K P C Y){d cond:List E}(w:IA X K P C iter ci)(y:MS X K P C iter d){Φ:E->Prop}(uA:Φ .uA)
  (good:∀{u:UE} {A:List E} {imp is:List Nat} {wi:TI},vM Y j->Y.FH (aAl j)=aA imp->AG (Y.inner j) tg=aA (is.length==1,is)->PI X tg iter wi->(∀x,eJ iter X.env x=pure x) ->
   (∀B H (R:It->Hp->Prop),KN K P C u A B H R->wi B H R)->Φ (.comp ce is u A cond imp (aAu j).length)) :
  Φ (CH Y j tg iter ci d cond ce):=by
 unfold CH;split
 .rename_i O;have F:=dg O;split
  .rename_i imp one is u m I v g;split
   .rename_i Q;exact(OE Q).elim
   split
   .rename_i i hk;split
    .rename_i c;have c:=EC c;subst c;let(U,Z):=J_ r hk;exact good F I v (Ve Z.h) (RT U _) (nb nofun λB H R q=>Vc B H R q)
    .exact uA
   split
   .rename_i c;rw[XA,XA] at c;obtain⟨⟨c,J⟩,GQ⟩:=c;have c:=EC c;subst c
    have gen:∀e:xA,iter=e->FO e=bA->aA (UE.of,[e])=aA (u,m)->Φ (.comp ce is u (Ab u ci d) cond imp (aAu j).length):=λe Ww U hq=>by(subst Ww;cases hq;exact good F I v (PI.or (m3 w.h) (y3 w.h)) (RT U _) (λB H R q=>qDa r.NC B H R q))
    unfold vJ at g;split at g
    .rename_i x hx;obtain⟨⟨f,p⟩,args,pos'⟩:=x;obtain rfl:=zU hx;dsimp only at g;split at g
     .rename_i s;have s:=EC s;subst s;split at g
      .rename_i t;split at g
       .rename_i l;cases g;rw[XA] at l;let(M,h2,Z,h4):oB:=CC.lF r t nofun
        have N:=r.blt _ h2;let(o,k):=y.h _ _ _ _ _ rfl l.1;obtain _ | ⟨a,_ | ⟨b,_ | ⟨_,_⟩⟩⟩:=m
        .simp at l
        .obtain _ | ⟨c1,_ | ⟨_,_⟩⟩:=d
         .simp at k
         .have n:=l.1;rw[DC,XA] at n;exact good F I v (We M N o (by rw[xC n.1];rfl)) (λ_=>rfl) (nb nofun λB H R q=>Rf B H R q)
         .simp at k
        .obtain _ | ⟨c1,_ | ⟨c2,_ | ⟨_,_⟩⟩⟩:=d
         .simp at k
         .simp at k
         .have n:=l.1;rw[DC,XA,DC,XA] at n;exact good F I v (Xe M N o (by rw[xC n.1,xC n.2.1];rfl) (by rw[xC n.2.1];rfl)) (λ_=>rfl) (nb nofun λB H R q=>Sf B H R q)
         .simp at k
        .simp at l
       .cases g
      .cases g
     .split at g
      .rename_i s;have s:=EC s;subst s;split at g
       .rename_i t;split at g
        .rename_i l;cases g;rw[XA] at l;let(M,h2,Z,h4):oB:=CC.lF r t nofun
         have N:=r.blt _ h2;let(o,k):=y.h _ _ _ _ _ rfl l.1;obtain _ | ⟨a,_ | ⟨_,_⟩⟩:=m
         .simp at l
         .obtain _ | ⟨c1,_ | ⟨_,_⟩⟩:=d
          .simp at k
          .have n:=l.1;rw[DC,XA] at n;let(elts,kk,tp,hq):BB:=Z4 v (by simpa[DJ] using J)
           obtain rfl:=hq;exact good F I v (Te M N o (by rw[xC n.1];rfl)) (λ_=>rfl) (nb nofun λB H R q=>qY r.NC B H R q)
          .simp at k
         .simp at l
        .cases g
       .cases g
      .exact gen _ rfl rfl g
    .split at g
     .rename_i hx;split at g
      .split at g
       .cases g;exact absurd GQ (by decide)
       .cases g
      .cases g
     .split at g
      .exact gen _ rfl ‹_› g
      .cases g
   .exact uA
  .exact uA
 .exact uA
def sT(j:NA X K P C Y){b cond:List E}(g:IA X K P C iter ci)(i:MS X K P C iter b)
  (k:∀f,NA f K P C (Y.inner a)->IA f K P C d ce) (l:∀f,NA f K P C (Y.inner a)->kJ f EA (JK K P C cond)) :
  IA X K P C (.ListComp d [#[e,iter,EA,0]] a pos) (CH Y a e iter ci b cond ce)/\MN X K P C (.ListComp d [#[e,iter,EA,0]] a pos) (CH Y a e iter ci b cond ce)/\PE X (.ListComp d [#[e,iter,EA,0]] a pos) (W4 K P C (CH Y a e iter ci b cond ce)) :=
 aAR j g i (Φ:=λc=>IA X K P C (.ListComp d [#[e,iter,EA,0]] a pos) c/\MN X K P C (.ListComp d [#[e,iter,EA,0]] a pos) c/\PE X (.ListComp d [#[e,iter,EA,0]] a pos) (W4 K P C c)) #[nB,KO,λcA s B H Q I h=>h.elim] λm n o p q r=>qEa j m n o p q r k l
end
def iBa(b:ZZ a=bA)(h:cE Y a=.KI c):∃p e pos,a=.Call (.Name ("set":fA) p) [e] [] pos/\Y.glob ("set":fA)=.blt/\aAd e=bA/\c=cE Y e:=by
 unfold ZZ at b
 cases qi:VM a with
 |none=>rw[qi] at b;cases b
 |some y =>
 rw[qi] at b;obtain⟨⟨f,p⟩,l,pos⟩:=y;obtain _ | ⟨e,_ | ⟨_,_⟩⟩:=l
 .cases b
 .obtain rfl:=zU qi;have d:=EC b;have d:f=("set":fA):=d;subst d;replace h:(if [e].all aAd&&decide ([e]≠[]) then(match Y.glob ("set":fA) with | .fn g=>oH Y ("set":fA) [e] (rB Y [e]) g | .cls j=>.make ("set":fA) j (rB Y [e]) | .blt=>if("set":fA)=("isinstance":fA) then yL Y [e] (rB Y [e]) else cK ("set":fA) [e] (rB Y [e]) | _=>E.uA) else E.uA)=.KI c:=h;split at h
  .rename_i i;split at h
   .have z:=congrArg pb h;rw[bOa] at z;cases z
   .cases h
   .rename_i k;rw[if_neg (by decide)] at h;unfold cK aAQ at h;rw[if_neg (by decide),RA rfl] at h;erw[rB] at h;cases h;rw[XA,DC,XA] at i;exact#[p,e,pos,rfl,k,i.1.1,rfl]
   .cases h
  .cases h
 .cases b
def Tn(i:xA):Prop:=∃k a b c,i=.Slice eA eA (aA (.UnaryOp .USub (.Constant (.int 1) k a) b)) c
def Qy(h:YZ i=bA):Tn i:=by
 induction i using TC with
 |Slice lo b st q =>
  obtain _ | _:=lo
  .obtain _ | _:=b
   .obtain _ | st:=st
    .exact yC h
    .induction st using TC with
     |UnaryOp op a p =>
      induction op using UnaryOp.casesOn with
      |USub =>
       induction a using TC with
       |Constant c k d =>
        induction c using Const.casesOn with
        |int n =>
         have h:=EC (show(n==1)=bA from h);subst h;exact Exists.intro _ #[_,_,_,rfl]
        |_=>exact yC h
       |_=>exact yC h
      |_=>exact yC h
     |_=>exact yC h
   .exact yC h
  .exact yC h
 |_=>exact yC h
abbrev aU(Y:CC)(op:LG)(b:xA)(ca c:E):E:=c
abbrev AZ(Y:CC)(a:xA)(ci c:E):E:=c
def aFa{K:kA}(d:NA X K P C Y)(e:IA X K P C a ca)(h:IA X K P C (.Compare a [op] [b] pos) c):IA X K P C (.Compare a [op] [b] pos) (aU Y op b ca c):=h
def zEa{K:kA}(b:NA X K P C Y)(d:IA X K P C i ci)(e:US i)(h:IA X K P C (.Subscript a i pos) c):IA X K P C (.Subscript a i pos) (AZ Y a ci c):=h
def Fb(Y:CC)(a i:xA)(p:GB):(∃lo b q,i=.Slice lo b eA q)\/((∀lo b q,i≠.Slice lo b eA q)/\cE Y (.Subscript a i p)=if YZ i then .uA else AZ Y a (cE Y i) (.ix (cE Y a) (cE Y i))):=by
 induction i using TC with
 |Slice lo b st q =>
  induction st using oG with
  |none=>exact .inl #[_,_,_,rfl]
  |some _=>exact .inr #[λ_ _ _ z=>(by cases z),rfl]
 |_=>exact .inr #[λ_ _ _ z=>Expr.noConfusion z,rfl]
def iL(K:kA)(P:bB)(C:Calls)(n:Nat):Prop:=∀(X:Cx) (Y:CC),NA X K P C Y->∀e:xA,sizeOf e<n->IA X K P C e (cE Y e)
def Y1(h:a<b)(k:b<n+1):a<n:=ME h (Nat.le_of_lt_succ k)
def AB(k:b<n+1)(h:a<b:=by simp;lia):a<n:=Y1 h k
section
variable{K:kA}
def pN{r:List xA}(h:sizeOf (e::r)<n):sizeOf e<n:=jM (by simp;lia) h
def PR{r:List xA}(h:sizeOf (e::r)<n):sizeOf r<n:=jM (by simp;lia) h
theorem rQ(b:iL K P C n)(c:NA X K P C Y):∀a:List xA,sizeOf a<n->a.all aAd=bA->PA X a (ML K P C (rB Y a))
 |[],_,_=>qHa
 |e::r,d,h=>by(rw[DC,XA] at h;exact oHa (b _ _ c e (pN d)) (rQ b c r (PR d) h.2) h.1)
theorem rL(b:iL K P C n)(c:NA X K P C Y):∀a:List xA,sizeOf a<n->a.all aAd=bA->PA X a (rH K P C (rB Y a))
 |[],_,_=>rHa
 |e::r,d,h=>by(rw[DC,XA] at h;exact pHa (b _ _ c e (pN d)) (rL b c r (PR d) h.2) h.1)
theorem d8(e:iL K P C n)(f:NA X K P C Y):∀c:List xA,sizeOf c<n->c≠[]->jJ X K P C .And c (FX Y c)
 |[],_,h=>absurd rfl h
 |[a],d,_=>sDa (e _ _ f a (pN d))
 |a::b::r,d,_=>Ud (e _ _ f a (pN d)) (d8 e f (b::r) (PR d) nofun)
theorem je(e:iL K P C n)(f:NA X K P C Y):∀c:List xA,sizeOf c<n->c≠[]->jJ X K P C .Or c (HX Y c)
 |[],_,h=>absurd rfl h
 |[a],d,_=>tDa (e _ _ f a (pN d))
 |a::b::r,d,_=>Vd (e _ _ f a (pN d)) (je e f (b::r) (PR d) nofun)
theorem Sd(a:iL K P C n)(b:NA X K P C Y):∀o:Option xA,sizeOf o<n->PO X o (tO K P C (cO Y o))
 |none,_=>kJa
 |some e,c=>mJa (a _ _ b e (jM (by simp) c))
def ZW(g:iL K P C n)(h:NA X K P C Y)(e:xA)(i:sizeOf e<n):MS X K P C e (nL Y e):=by
 cases e<;>first
  | (rename_i f args l pos;exact#[λj k a c b z d=>by cases z;exact#[rL g h args (jM (by simp;lia) i) d,GX args]])
  |exact#[λj k a c b z d=>by cases z]
end
def lFa{K:kA}(h:IA X K P C e c):IA X K P C e (UU c):=by
 induction c using E.casesOn with
 |fI=>exact nB
 |_=>exact h
def qFa{K:kA}(d:NA X K P C Y)(i:Y.glob f=.fn g)(h:IA X K P C (.Call (.Name f p) args [] pos) (.call g (rB Y args))):IA X K P C (.Call (.Name f p) args [] pos) (oH Y f args (rB Y args) g):=by
 unfold oH;split
 .rename_i is q y j k l;split
  .rename_i m;subst m;let(a,n,e):=PH.mp j;cases D4 n;let(c,o,r):=PH.mp k;have s:[cE Y a]=[c]:=D4 o;cases s
   induction a using TC with
   |Lambda t body u b =>
    let(g1,g2,g3,v):=CC.lF d i nofun;exact ZD d (d.lam _ _ _ (kAa l) t body u b p pos is q.1 q.2 e (Lq r) g1 g3 X.xe X.pn)
   |_=>exact JE e
  .exact h
 .exact h
def iq{K:kA}(l:iL K P C n)(j:NA X K P C Y)(e:xA)(d:sizeOf e<n+1):IA X K P C e (cE Y e):=by
 induction e using TC with
 |Name x p =>
  exact Xd j _ _
 |Constant c k p =>
  exact rEa j _ _ _
 |Tuple I k p =>
  show IA X K P C _ (if I.all aAd then .t (rB Y I) else .uA);split
  .exact sFa j (rQ l j _ (AB d) ‹_›)
  .exact nB
 |List I p =>
  show IA X K P C _ (if I.all aAd then .l (rB Y I) else .uA);split
  .exact fFa j (rQ l j _ (AB d) ‹_›)
  .exact nB
 |Dict ks vs p =>
  refine wEa j (λv hv=>l _ _ j v (Y1 (by have:=List.sizeOf_lt_of_mem hv;simp;lia) d)) ?_;show IA X K P C _ (qQ _ _ _ _);unfold qQ;split
  .exact tEa j
  refine vEa j (λk c N O=>?_) λv c N O=>?_
  .subst N;cases O;exact lFa (l _ _ j k (AB d))
  .subst N;cases O;exact l _ _ j v (AB d)
 |BinOp a op b p =>
  exact mEa j (l _ _ j _ (AB d)) (l _ _ j _ (AB d))
 |UnaryOp op a p =>
  cases op with
  |Not =>
   exact mFa j (l _ _ j _ (AB d))
  |USub =>
   exact kFa j (l _ _ j _ (AB d))
  |_=>exact nB
 |Compare a Q cs p =>
  obtain _ | ⟨op,_ | ⟨J,_ | ⟨_,_⟩⟩⟩:=Q
  .exact nB
  .obtain _ | ⟨b,_ | ⟨_,_⟩⟩:=cs
   .exact nB
   .show IA X K P C _ (if JJ op b then .uA else aU Y op b (cE Y a) (.BA op (cE Y a) (cE Y b)));split
    .exact nB
    .refine aFa j (l _ _ j _ (AB d)) ?_;exact oEa j (l _ _ j _ (AB d)) (l _ _ j _ (AB d)) (by rename_i h;simpa using h)
   .exact nB
  .obtain _ | ⟨b,_ | ⟨c,_ | ⟨_,_⟩⟩⟩:=cs
   .exact nB
   .exact nB
   .show IA X K P C _ (if JJ J c then .uA else .CF op J (cE Y a) (cE Y b) (cE Y c));split
    .exact nB
    .exact pEa j (l _ _ j _ (AB d)) (l _ _ j _ (AB d)) (l _ _ j _ (AB d)) (by rename_i h;simpa using h)
   .exact nB
  .exact nB
 |BoolOp op vs p =>
  obtain _ | ⟨a,_ | ⟨b,r⟩⟩:=vs
  .cases op<;>exact nB
  .cases op<;>exact nB
  .cases op with
   |And =>
    exact(Ud (l _ _ j _ (AB d)) (d8 l j _ (AB d) (by simp))).Wd λi z=>nomatch z
   |Or =>
    exact(Vd (l _ _ j _ (AB d)) (je l j _ (AB d) (by simp))).Wd λi z=>nomatch z
 |IfExp c a b p =>
  exact nB
 |Subscript a i p =>
  rcases Fb Y a i p with ⟨lo,hi,q,rfl⟩ | ⟨hn,e⟩
  .exact rFa j (l _ _ j _ (AB d)) (Sd l j _ (AB d)) (Sd l j _ (AB d))
  .rw[e];split
   .rename_i hr;let(k,M):=Qy hr;let(p1,R,p3,F):BB:=M;obtain rfl:=F
    exact nB
   .exact zEa j (l _ _ j _ (AB d)) (D3 hn) (dFa j (l _ _ j _ (AB d)) (l _ _ j _ (AB d)) (D3 hn))
 |Call fn args Z pos =>
  induction fn using TC with
  |Name f p =>
   induction Z using bC with
   |nil =>
    show IA X K P C _ (if args.all aAd&&decide (args≠[]) then(match Y.glob f with | .fn g=>oH Y f args (rB Y args) g | .cls s=>.make f s (rB Y args) | .blt=>if f=("isinstance":fA) then yL Y args (rB Y args) else cK f args (rB Y args) | _=>.uA) else .uA);split
    .rename_i u;rw[XA] at u;let(s,ne):=u
     induction args using bC with
     |nil=>simp at ne
     |cons a r =>
      split
      .rename_i g A;exact qFa j A (nEa j A s (rL l j _ (AB d) s))
      .rename_i g A;exact hFa j A s (rQ l j _ (AB d) s)
      .rename_i A;split
       .rename_i hf;subst hf;unfold yL
        cases q1:two (a::r) with
        |none=>exact nB
        |some p =>
         let(a',t):=p;let(rfl,rfl):=vS (oSa q1);show IA X K P C _ (yU Y t (cE Y a));rw[DC,XA] at s;unfold yU;split
         .exact cFa j A ‹_› s.1 (l _ _ j _ (AB d))
         .exact bFa j A s.1 (l _ _ j _ (AB d))
       .unfold cK;split
        .rename_i H;subst H;unfold KU;split
         .rename_i c F;let(a',q2,F):rA:=PH.mp F
          let(rfl,rfl):=vS (D4 q2);split at F
          .rename_i tx;let(R,e2,vVa,rfl,cx,ns2,rfl):=iBa tx (nBa (show C2 (cE Y a)=aA c from F));exact nFa j A cx ns2 (l _ _ j e2 (AB d))
          .cases F
         .exact S2 j A (b:=.len) rfl s (rL l j _ (AB d) s)
        .split
         .unfold aAQ;split
          .exact jFa
          .exact nB
         .split
          .exact nB
          .split
           .rename_i H;subst H;exact S2 j A (b:=.list) rfl s (rL l j _ (AB d) s)
           .split
            .rename_i b hb;exact S2 j A hb s (rL l j _ (AB d) s)
            .exact nB
      .exact nB
    .exact nB
   |cons _ _=>exact nB
  |Attribute o m mB =>
   induction o using TC with
   |Name x p =>
    induction Z using bC with
    |nil =>
     have hD:IA X K P C (.Call (.Attribute (.Name x p) m mB) args [] pos) (dX Y x m mB pos args (rB Y args)):=by
      induction args using bC with
      |nil =>
       show IA X K P C _ (bQ Y x m mB pos);unfold bQ;split
       .rename_i u;rw[XA] at u;let(B,w):=u;have w:=EC w;subst w;exact nB
       .split
        .rename_i u;rw[XA] at u;let(B,w):=u;have w:=EC w;subst w;split
         .exact oFa j ‹_› B
         .exact nB
        .exact uFa j
      |cons a as =>
       induction as using bC with
       |nil =>
        show IA X K P C _ (cQ Y x m mB pos a (cE Y a));unfold cQ;split
        .rename_i u;rw[XA,XA] at u;obtain⟨⟨s,B⟩,w⟩:=u;have w:=EC w;subst w;split
         .exact lEa j ‹_› B s (l _ _ j _ (AB d))
         .exact nB
        .split
         .rename_i u;rw[XA,XA] at u;obtain⟨⟨s,B⟩,w⟩:=u;have w:=EC w;subst w;split
          .exact xEa j ‹_› B s (l _ _ j _ (AB d))
          .exact nB
         .split
          .rename_i u;rw[XA,XA] at u;obtain⟨⟨s,B⟩,w⟩:=u;have w:=EC w;subst w;exact nB
          .exact kEa j
       |cons b as=>exact nB
     show IA X K P C _ (eQ Y x m mB pos args (rB Y args));unfold eQ;split
     .rename_i tb w;split
      .rename_i u;rw[XA,XA] at u;obtain⟨⟨s,B⟩,hf⟩:=u;split
       .exact iFa j ‹_› w s B (lP hf) (rL l j _ (AB d) s) λz=>by rw[z,rB]
       .exact nB
      .exact nB
     .exact hD
    |cons _ _=>exact nB
   |Call g as W_ R =>
    induction as using bC with
    |nil=>exact nB
    |cons a0 bT =>
     induction Z using bC with
     |nil =>
      show IA X K P C _ (iR Y m mB pos args (cE Y (.Call g (a0::bT) W_ R)) (rB Y args));unfold iR;split
      .rename_i tb w;split
       .rename_i u;rw[XA,XA] at u;exact nB
       .exact nB
      .exact nB
     |cons _ _=>exact nB
   |_=>exact nB
  |_=>exact nB
 |Attribute o f p =>
  induction o using TC with
  |Name x q =>
   exact yEa j
  |_=>exact nB
 |Lambda ps body sc pos=>exact eX (λt U=>rfl) λi z=>nomatch z
 |ListComp lC gs scope pos =>
  obtain _ | ⟨⟨tg,iter,EA,m⟩,_ | ⟨_,_⟩⟩:=gs
  .exact nB
  .obtain _ | ⟨c,_ | ⟨_,_⟩⟩:=EA<;>obtain(_ | _) | _:=m
   .exact(sT j (l _ _ j _ (AB d)) (ZW l j _ (AB d)) (λX' y=>l _ _ y _ (AB d)) (λX' y=>pf)).1
   .exact nB
   .exact nB
   .exact(sT j (l _ _ j _ (AB d)) (ZW l j _ (AB d)) (λX' y=>l _ _ y _ (AB d)) (λX' y=>qf (l _ _ y _ (AB d)))).1
   all_goals exact nB
  .obtain _ | ⟨c,_ | ⟨_,_⟩⟩:=EA<;>obtain(_ | _) | _:=m<;>exact nB
 |_=>exact nB
theorem HQ{K:kA}:∀n:Nat,iL K P C n
 | 0=>λ_ _ _ _ h=>absurd h (pS _)
 |n+1=>λ_ _ a e h=>iq (HQ n) a e h
section
variable{K:kA}
def sE(a:NA X K P C Y)(e:xA):IA X K P C e (cE Y e):=HQ _ _ _ a e (NG _)
def K8(a:NA X K P C Y)(e:xA):MS X K P C e (nL Y e):=ZW (HQ _) a e (NG _)
def jq(b:NA X K P C Y)(a:List xA)(h:a.all aAd=bA):PA X a (ML K P C (rB Y a)):=rQ (HQ _) b a (NG _) h
def lQ(b:NA X K P C Y)(a:List xA)(h:a.all aAd=bA):PA X a (rH K P C (rB Y a)):=rL (HQ _) b a (NG _) h
end
def zDa{K:kA}(b:NA X K P C Y)(e:xA)(h:vU e=bA):MN X K P C e (cE Y e):=by
 induction e using TC<;>first | exact yC h | skip
 rename_i d i f pos;obtain _ | ⟨⟨j,iter,EA,n⟩,_ | ⟨_,_⟩⟩:=i
 .exact KO
 .obtain _ | ⟨c,_ | ⟨_,_⟩⟩:=EA<;>obtain(_ | _) | _:=n
  .exact(sT b (sE b iter) (K8 b iter) (λg a=>sE a d) (λg a=>pf)).2.1
  .exact KO
  .exact KO
  .exact(sT b (sE b iter) (K8 b iter) (λg a=>sE a d) (λg a=>qf (sE a c))).2.1
  all_goals exact KO
 .obtain _ | ⟨c,_ | ⟨_,_⟩⟩:=EA<;>obtain(_ | _) | _:=n<;>exact KO
section
variable{X:Cx}{K:kA}{P:bB}{C:Calls}{W:Nat}{Y:CC}
def xM(X:Cx)(K:kA)(U:Env)(B:St)(H G:Hp)(g:Env)(x:Exc):Prop:=∀cA e c f d a b p,HB K U B H G g e c f->gA X cA e c d->qI X cA c d.heap a b p->CB K cB x.cls=aA (aA (.ref b))->EE K b->YJ K f b p x->X.xe (.ref a) d
def xM.pre(a:HB K U B H G j m r u)(h:xM X K U B H G y x):xM X K j m r u y x:=λcA F I J M b O p q=>h cA F I J M b O p (a.trans q)
def QR(X:Cx)(K:kA)(P:bB)(C:Calls)(c:E):TE:=λB H _=>∃U G x a,HA K U B H G/\VF P C c U=aA (x,a)/\xM X K U B H G a x
def cRa(X:Cx)(K:kA)(P:bB)(C:Calls)(b:List E):TA:=λB H _=>∃U G x a,HA K U B H G/\rJ P C b U=aA (x,a)/\xM X K U B H G a x
def oE(X:Cx)(K:kA)(P:bB)(C:Calls)(W:Nat)(c:S):TS:=λ_ B H=>∃U G x a,HA K U B H G/\jF P C W c U=aA (x,a)/\xM X K U B H G a x
def MI(X:Cx)(K:kA)(P:bB)(C:Calls)(W:Nat)(c:List S):TS:=λ_ B H=>∃U G x a,HA K U B H G/\YD P C W c U=aA (x,a)/\xM X K U B H G a x
def jLa(a:uC X b t)(c:uC X b u):uC X b (λD B H=>t D B H\/u D B H):=λcA s B H D I q=>q.elim (a cA s B H D I) (c cA s B H D I)
theorem oAa{a:Env->zA RV}{body:Env->Run}{b:Env->Option (Exc×Env)}{n:Nat}{U:Env}:HH a body b (n+1) U=(match a U with
  |some (.ok (.sh (.bl bA)),d)=>(match body d with
   |some (.nx,c)=>HH a body b n c
   |some (.ct,c)=>HH a body b n c
   |_=>b d)
  |_=>eA):=rfl
def iTa(po:IG (~~~X) X.A X.env X.xe)(M:IA X K P C c u)(N:uC X body (sF K P C W g))(O:uC X body (MI X K P C W g)):PS X (.While c body [] pos) (oE X K P C W (.OK u g)):=by
 refine TS.uE (jf po M.t (jLa N O)) λD B H h=>?_
 let(U,G,x,v,r,e,k):VA:=h;refine#[λm I J=>∃j y,HB K U B H G j I J y/\HH (ev P C bA u) (JA P C W g) (YD P C W g) m j=aA (x,v),#[W,U,G,HB.refl r,e],λm I J h=>?_];let(j,y,z,b):FA:=h
 cases m with
 |zero=>cases b
 |succ m =>
  rw[oAa] at b;split at b
  .rename_i l Q;refine#[j,y,bA,l,z.qA,Q,λZ F n=>XM ?_];have d:=z.trans (DA.s z.qA n);refine#[λo p=>∃a f,HB K U B H G a o p f/\HH (ev P C bA u) (JA P C W g) (YD P C W g) m a=aA (x,v),λo p #[a,f,i,R]=>#[m,NG m,a,f,i,R], ?_];split at b
   .rename_i a q;exact .inl #[l,F,.nx,a,n.qA,q,λo p f i=>#[a,f,d.trans i,b]]
   .rename_i a q;exact .inl #[l,F,.ct,a,n.qA,q,λo p f i=>#[a,f,d.trans i,b]]
   .exact .inr #[l,F,x,v,n.qA,b,k.pre d]
  .cases b
def l3(a:PE X e t)(b:PE X e u):PE X e (λB H Q=>t B H Q\/u B H Q):=λcA s B H Q I q=>q.elim (a cA s B H Q I) (b cA s B H Q I)
def tKa{st:MA}(a:PS X st t)(b:PS X st u):PS X st (λD B H=>t D B H\/u D B H):=λcA s B H D I q=>q.elim (a cA s B H D I) (b cA s B H D I)
end
section
variable{X:Cx}{K:kA}{P:bB}{C:Calls}{Y:CC}
def jm(X:Cx)(K:kA)(P:bB)(C:Calls)(e:xA)(c:E):Prop:=∀(W:Nat) (x:fA) (i:Nat) (p pos:GB),X.N.Nodup->X.N[i]?=aA x->Loc X.env.scope x->(X.fn x=bA\/X.env.scope.names.lookup x=aA .local) ->
 PS X (.Assign [.Name x p] e pos) (oE X K P C W (.QA i c))
end
section
variable{X:Cx}{K:kA}{P:bB}{C:Calls}{W:Nat}{Y:CC}
noncomputable def pC:E->Bool
 |.call _ _=>bA
 |_=>dA
def sCa:pC (CM Y x)=dA:=by unfold CM;split;rfl;split<;>rfl
def iCa:pC (nT c)=dA:=by
 cases c<;>first | rfl | (show pC (if _ then _ else _)=dA;split<;>rfl)
def lCa(h:pC c=dA):pC (qQ z a b c)=dA:=by unfold qQ;first | exact h | (split<;>first | rfl | exact h)
def kCa(h:pC c=dA):pC (ZX a b d c)=dA:=by
 exact h
def jCa:pC (vT ks vs cs es)=dA:=by
 unfold vT;unfold o9 n9;unfold uT
 (repeat' split)<;>rfl
theorem vCa:pC (C5 Y x m p q)=dA:=rfl
theorem uCa:pC (si Y x m p q a)=dA:=by
 rfl
def eCa:pC (dQ Y x m p q a)=dA:=by
 unfold dQ;exact uCa
def dCa:pC (cQ Y x m p q a c)=dA:=by unfold cQ;repeat' split<;>first | rfl | exact eCa | skip
def cCa:pC (bQ Y x m p q)=dA:=by unfold bQ;(repeat' split)<;>first | rfl | exact vCa
def gCa:pC (dX Y x m p q as b)=dA:=by
 rcases as with _ | ⟨a,_ | _⟩<;>rcases b with _ | ⟨c,_ | _⟩<;>first | rfl | exact cCa (Y:=Y) (x:=x) | exact dCa
def fCa{x m:fA}{p q:GB}{as:List xA}{cs:List E}:pC (eQ Y x m p q as cs)=dA:=by
 unfold eQ;split
 .split
  .split<;>rfl
  .rfl
 .exact gCa
def rCa:pC (iR Y m p q as a cs)=dA:=by unfold iR;repeat' split<;>try rfl
def tCa:pC (O4 Y t a)=dA:=by
 induction t using TC with
 |Name x _=>show pC (MR Y x a)=dA;unfold MR;split<;>rfl
 |Tuple b _ _=>show pC (NR Y b a)=dA;unfold NR;repeat' split<;>try rfl
 |_=>rfl
def oCa:pC (yL Y as a)=dA:=by
 unfold yL yU;split
 .split
  .split
   .rfl
   .exact tCa
  .rfl
 .rfl
def pCa:pC (KU as a)=dA:=by unfold KU;first | rfl | (split<;>rfl)
def qCa:pC (S1 as a)=dA:=by unfold S1;first | rfl | (split<;>rfl)
def hCa:pC (cK f as a)=dA:=by
 unfold cK aAQ;split
 .exact pCa
 .split
  ·(repeat' split)<;>rfl
  .split
   .rfl
   .split
    .exact qCa
    .split<;>rfl
def EO[Decidable b](d:pC a=dA)(e:pC c=dA):pC (if b then a else c)=dA:=by split<;>assumption
abbrev gm(Y:CC)(e:xA):Prop:=False
theorem nCa:pC (aU Y op b ca (.BA op x y))=dA:=rfl
theorem mCa:pC (AZ Y a ci (.ix x y))=dA:=rfl
def cOa(h:pC (oH Y f args a g)=bA):oH Y f args a g=.call g a:=by
 have z:oH Y f args a g=.call g a\/pC (oH Y f args a g)=dA:=by
  unfold oH;split
  .split
   .exact .inr rfl
   .exact .inl rfl
  .exact .inl rfl
 rcases z with z | z
 .exact z
 .rw[h] at z;cases z
def DE(Y:CC)(e:xA):Prop:=((∃f p a r pos g,e=.Call (.Name f p) (a::r) [] pos/\Y.glob f=.fn g/\(a::r).all aAd=bA/\cE Y e=.call g (rB Y (a::r)))\/gm Y e)\/∃b c iter EA d pos,e=.ListComp b [#[c,iter,EA,0]] d pos/\(EA=[]\/∃h,EA=[h])
def R8(h:pC (cE Y e)=bA):DE Y e:=by
 induction e using TC with
 |Name x p=>exact yC ((sCa (x:=x)).symm.trans h)
 |Constant c _ _=>exact yC ((iCa (c:=c)).symm.trans h)
 |Tuple es _ _=>exact yC ((EO (b:=es.all aAd=bA) (a:=.t (rB Y es)) (c:=.uA) rfl rfl).symm.trans h)
 |List es _=>exact yC ((EO (b:=es.all aAd=bA) (a:=.l (rB Y es)) (c:=.uA) rfl rfl).symm.trans h)
 |Dict ks vs _=>exact yC ((kCa (lCa (jCa (ks:=ks) (vs:=vs) (cs:=JX Y ks) (es:=rB Y vs)))).symm.trans h)
 |BinOp a op b _=>exact yC h
 |UnaryOp op a _=>cases op<;>exact yC h
 |Compare a u bs _ =>
  obtain _ | ⟨l,_ | ⟨y,_ | ⟨O,_⟩⟩⟩:=u<;>obtain _ | ⟨s,_ | ⟨A,_ | ⟨Q,_⟩⟩⟩:=bs<;>first
   |exact yC h
   |exact yC ((EO (b:=JJ l s=bA) (a:=.uA) (c:=aU Y l s (cE Y a) (.BA l (cE Y a) (cE Y s))) rfl nCa).symm.trans h)
   |exact yC ((EO (b:=JJ y A=bA) (a:=.uA) (c:=.CF l y (cE Y a) (cE Y s) (cE Y A)) rfl rfl).symm.trans h)
 |BoolOp op es _ =>
  cases op<;>obtain _ | ⟨a,_ | ⟨b,r⟩⟩:=es<;>exact yC h
 |IfExp c a b _=>exact yC h
 |Subscript a i _ =>
  rcases Fb Y a i ‹GB› with ⟨lo,R,q,rfl⟩ | ⟨_,z⟩
  .exact yC h
  .rw[z] at h;exact yC ((EO rfl mCa).symm.trans h)
 |Attribute o f _=>cases o<;>exact yC h
 |ListComp j gens B _ =>
  obtain _ | ⟨⟨F,it,EA,n⟩,_ | ⟨_,_⟩⟩:=gens
  .exact yC h
  .obtain _ | ⟨v,_ | ⟨_,_⟩⟩:=EA<;>obtain(_ | _) | _:=n<;>first
    |exact Or.inr #[j,F,it,[],B,_,rfl,.inl rfl]
    |exact Or.inr #[j,F,it,[v],B,_,rfl,.inr #[v,rfl]]
    |exact yC h
  .obtain _ | ⟨v,_ | ⟨_,_⟩⟩:=EA<;>obtain(_ | _) | _:=n<;>exact yC h
 |Call fn args H pos =>
  induction fn using TC with
  |Name f p =>
   induction H using bC with
   |nil =>
    change pC (if args.all aAd&&decide (args≠[]) then(match Y.glob f with | .fn g=>oH Y f args (rB Y args) g | .cls w=>.make f w (rB Y args) | .blt=>if f=("isinstance":fA) then yL Y args (rB Y args) else cK f args (rB Y args) | _=>.uA) else .uA)=bA at h;split at h
    .rename_i t;split at h
     .rename_i g I;rw[XA] at t
      induction args using bC with
      |nil=>simp at t
      |cons a r =>
       refine Or.inl (.inl #[f,p,a,r,pos,g,rfl,I,t.1, ?_]);show(if(a::r).all aAd&&decide ((a::r)≠[]) then(match Y.glob f with | .fn g=>oH Y f (a::r) (rB Y (a::r)) g | .cls w=>E.make f w (rB Y (a::r)) | .blt=>if f=("isinstance":fA) then yL Y (a::r) (rB Y (a::r)) else cK f (a::r) (rB Y (a::r)) | _=>.uA) else .uA)=_;rw[RA (by rw[t.1];simp),I];exact cOa h
     .cases h
     .rw[EO oCa hCa] at h;cases h
     .cases h
    .cases h
   |cons _ _=>exact yC h
  |Attribute o m mB =>
   induction H using bC with
   |nil =>
    induction o using TC with
    |Name x p=>exact yC ((fCa (x:=x) (m:=m) (p:=mB) (q:=pos) (as:=args) (cs:=rB Y args)).symm.trans h)
    |Call g d k J =>
     induction d using bC with
     |nil=>exact yC h
     |cons M N=>exact yC ((rCa (m:=m) (p:=mB) (q:=pos) (as:=args) (a:=cE Y (.Call g (M::N) k J)) (cs:=rB Y args)).symm.trans h)
    |_=>exact yC h
   |cons _ _ =>
    induction o using TC with
    |Call g d k J=>cases d<;>exact yC h
    |_=>exact yC h
  |_=>exact yC h
 |_=>exact yC h
def Qq(h:pC (cE Y e)=bA):iE e=bA\/∃a b iter EA c pos,e=.ListComp a [#[b,iter,EA,0]] c pos/\(EA=[]\/∃d,EA=[d]):=(R8 h).imp (λz=>by
 rcases z with ⟨_,_,_,_,_,_,rfl,_⟩ | z
 .rfl
 .exact z.elim) id
def ZN(h:VF P C c U=aA (x,a)):pC c=bA:=by
 cases c<;>first | rfl | cases (show(eA:Option (Exc×Env))=aA _ from h)
def iV{a:PD}{b it:xA}{ci:E}{as c:List E}{ce:E}(h:pC (CH Y a b it ci as c ce)=bA):False:=by
 unfold CH at h
 (repeat' split at h)<;>cases h
def EW(K:kA)(P:bB)(C:Calls)(n:Nat):Prop:=∀(X:Cx) (Y:CC),NA X K P C Y->∀e:xA,sizeOf e<n->PE X e (QR X K P C (cE Y e))
theorem F9(g:EW K P C n)(d:NA X K P C Y):∀c:List xA,sizeOf c<n->c.all aAd=bA->PA X c (cRa X K P C (rB Y c))
 |[],_,_=>by
  intro pos cA s B H Q I #[U,G,x,f,r,a,k];erw[rB,rJ] at a;cases a
 |e::c,i,o=>by
  have b:=o;rw[DC,XA] at b;refine TA.sO (nH (l3 (sE d e).h (g _ _ d e (pN i))) (F9 g d c (PR i) b.2) (xC b.1 _ _)) λB H Q j=>?_
  let(U,G,x,f,r,a,k):VA:=j;erw[rB,rJ] at a;split at a
  .rename_i v l p;exact .inl #[U,G,v,l,r,p,λy t q m _=>#[l,q,x,f,m.qA,a,k.pre (DA.s r m)]]
  .exact .inr #[U,G,x,f,r,a,k]
theorem K9:VF P C (.call f a) U=(match vC P C a U with
  |some (.ok b,c)=>match HC (P f) (C f) b c with
   |some (.ex x,d)=>aA (x,d)
   |_=>eA
  |_=>rJ P C a U):=rfl
def gq(ih:EW K P C n)(u:NA X K P C Y)(e:xA)(y:sizeOf e<n+1):PE X e (QR X K P C (cE Y e)):=by
 intro cA s B H Q I #[U,G,x,J,r,h,k];rcases R8 (ZN h) with (⟨f,p,a,aAj,pos,g,rfl,hf,M,hc⟩ | ob) | ⟨o,O,iter,EA,q,pos,rfl,rfl | ⟨c1,rfl⟩⟩
 case inl.inr=>exact ob.elim
 case inr.inl=>exact(iV (show pC (CH Y q O iter (cE Y iter) (nL Y iter) [] (cE (Y.inner q) o))=bA from ZN h)).elim
 case inr.inr=>exact(iV (show pC (CH Y q O iter (cE Y iter) (nL Y iter) [cE (Y.inner q) c1] (cE (Y.inner q) o))=bA from ZN h)).elim
 rw[hc] at h;let(R,h2,Z,h4):oB:=CC.lF u hf nofun
 let(fa,fd,ps,c):BB:=(u.fnX f g h2).ex
 let(k0,F,hr,hm,hk,hb):zD:=c
 have d:=M;rw[DC,XA] at d;rw[K9] at h
 have i:rJ P C (rB Y (a::aAj)) U=aA (x,J)->sA (~~~X) X.A (eval (.Call (.Name f p) (a::aAj) [] pos) X.env) (EP X cA B Q) X.xe s:=λz =>
  Ie F hr R hm hk hb (F9 ih u (a::aAj) (Y1 (by simp;lia) y) M) Z (xC d.1 _ _) (iI d.2 _ _).1 cA s B H Q I #[U,G,x,J,r,z,k]
 split at h
 .rename_i hs U1 q1;split at h
  .rename_i x' U2 q2;cases h;refine Ie F hr R hm hk hb (lQ u (a::aAj) M) Z (xC d.1 _ _) (iI d.2 _ _).1 cA s B H Q I #[U,G,hs,U1,r,q1,λxs H1 G1 a1 rx=>?_];let(as,c):=Cs a1 rx q2;let(G2,N,d1,d2,d3,d4):fC:=c
   refine#[λv p t=>∃j l,v=.ref j/\DA K U B H G J t l/\CB K cB x.cls=aA (aA (.ref j))/\EE K j/\YJ K l j p x,#[?_,as,G2,x,N,d1,d2,d3,λt l j p b hn hg hp=>#[j,l,rfl,d4 t l b,hn,hg,hp]],λm b Cb p t s' I' F' #[j,l,z,b1,b2,b3,b4]=>?_]
   .have:=d1.len
    rw[pA] at this
    lia
   .cases z;exact k m B t l s' b Cb p (DA.s r b1) I' F' b2 b3 b4
  .cases h
 .exact i h
theorem Ya:∀n:Nat,EW K P C n
 | 0=>λ_ _ _ _ h=>absurd h (pS _)
 |n+1=>λ_ _ a e h=>gq (Ya n) a e h
def VN(a:NA X K P C Y)(e:xA):PE X e (QR X K P C (cE Y e)):=Ya _ _ _ a e (NG _)
def uq(f:NA X K P C Y)(h:EA=[]\/∃c,EA=[c]):jm X K P C (.ListComp a [#[d,iter,EA,0]] b pos) (cE Y (.ListComp a [#[d,iter,EA,0]] b pos)):=by
 intro W x i p pos _ _ _ _ cA s B H D I #[U,G,g,j,r,e,k];rcases h with rfl | ⟨c,rfl⟩
 .exact(iV (show pC (CH Y b d iter (cE Y iter) (nL Y iter) [] (cE (Y.inner b) a))=bA from ZN (P:=P) (C:=C) e)).elim
 .exact(iV (show pC (CH Y b d iter (cE Y iter) (nL Y iter) [cE (Y.inner b) c] (cE (Y.inner b) a))=bA from ZN (P:=P) (C:=C) e)).elim
end
section
variable{X:Cx}{K:kA}{P:bB}{C:Calls}{W:Nat}{Y:CC}{cA IF:List (iA×kB)}{B:St}{H G:Hp}{s:CA}
abbrev Cx.re(X:Cx)(E:jA->CA->Prop)(pn:List (iA×kB)):Cx:={ X with xe:=E,pn:=pn }
abbrev RE(X:Cx)(b:List MA)(t:Cx->TS):Prop:=∀E pn,IG (~~~X) X.A X.env E->uC (Cx.re X E pn) b (t (Cx.re X E pn))
abbrev Cx.ma(X:Cx)(v:jA):Cx:={ X with A:=X.A.mark (aA v),calm:=dA,xe:=λ_ _=>False }
def pFa{E:jA->CA->Prop}(o:X.Ok):(Cx.re X E pn).Ok :=
 #[o.mod,o.kind,o.glob,o.blt,o.above,o.inj,o.has,o.eK,o.hd,o.frames,o.jI,o.aO,o.bs,o.cH,o.BK,o.sL,o.kF,o.aI]
def tFa{E:jA->CA->Prop}(o:(Cx.re X E pn).Ok):X.Ok :=
 #[o.mod,o.kind,o.glob,o.blt,o.above,o.inj,o.has,o.eK,o.hd,o.frames,o.jI,o.aO,o.bs,o.cH,o.BK,o.sL,o.kF,o.aI]
def gFa(o:X.Ok):(Cx.ma X v).Ok :=
 #[o.mod,o.kind,o.glob,o.blt,o.above,o.inj,o.has,o.eK,nofun,o.frames,o.jI,o.aO,o.bs,o.cH,o.BK,o.sL,o.kF,o.aI]
def VZ{E:jA->CA->Prop}(I:gA X cA B H s):gA (Cx.re X E (X.pn++cA)) [] B H s :=
 #[pFa I.ok,I.os,I.bare,I.base,I.loc,I.cell,I.free,I.WE,λp a=>I.pin p (↑a),I.LA,I.len]
def jb{E:jA->CA->Prop}(I:gA (Cx.re X E (X.pn++cA)) IF B H s):gA X cA B H s :=
 #[tFa I.ok,I.os,I.bare,I.base,I.loc,I.cell,I.free,I.WE,λp a=>I.pin p (aF _ a),I.LA,I.len]
def TZ(I:gA X cA B H s):gA (Cx.ma X v) cA B H s :=
 #[gFa I.ok,I.os,I.bare,I.base,I.loc,I.cell,I.free,I.WE,I.pin,I.LA,I.len]
def oy{E:jA->CA->Prop}(o:X.Ok)(I:gA (Cx.ma (Cx.re X E (X.pn++cA)) v) IF B H s):gA X cA B H s :=
 #[o,I.os,I.bare,I.base,I.loc,I.cell,I.free,I.WE,λp a=>I.pin p (aF _ a),I.LA,I.len]
theorem NA.re{E:jA->CA->Prop}(xo:NA X K P C Y):NA (Cx.re X E pn) K P C Y :=
 NA.of xo.NC xo.JH xo.nm xo.nd xo.calm xo.hh xo.hu xo.c xo.blt (λx f h=>#[(xo.fn x f h).ex]) (λx ns h=>#[(xo.cls x ns h).ex]) (λm tb c f h1 h2=>#[(xo.vE m tb c f h1 h2).ex]) xo.rm xo.sub xo.ID xo.YH #[xo.exc,λx h=>#[(xo.tJ x h).ex]] xo.JA #[λx f h=>#[(xo.fnX x f h).ex],λx f h=>#[(xo.obj x f h).ex],λm tb c f h1 h2=>#[(xo.mtx m tb c f h1 h2).ex]] xo.tp xo.lam
def uo(r:HA K U B H G)(h:U[i]?=aA (.sh d)):HB K U B H G (U.set i .mv) (B.set i eA) H G:=by
 have b:∀{j:Nat} {sl:Sl},(U.set i .mv)[j]?=aA sl->(j=i/\sl=.mv)\/(j≠i/\U[j]?=aA sl/\(B.set i eA)[j]?=B[j]?):=λ{j sl} q=>by
  rcases pH q with ⟨f,m,_⟩ | ⟨f,m⟩
  .exact .inl #[f,m]
  .exact .inr #[f,m,QC (λz=>f z.symm)]
 refine#[#[by rw[eE,eE];exact r.len,r.sub,λj e q=>?_,λj e p l q=>?_,λj k x y A F I J a n g o t=>?_],Ext.refl,λa #[j,e,p,l,n,g]=>?_,λj q=>?_,λj e l q=>?_,by rw[eE]]
 .rcases b q with ⟨_,z⟩ | ⟨_,z,c⟩
  .cases z
  .rw[c];exact r.sh j e z
 .rcases b q with ⟨_,z⟩ | ⟨_,z,c⟩
  .cases z
  .rw[c];exact r.ow j e p l z
 .rcases b n with ⟨_,z⟩ | ⟨_,z,c⟩
  .cases z
  .rcases b g with ⟨_,w⟩ | ⟨_,w,v⟩
   .cases w
   .rw[c] at o;rw[v] at t;exact r.inj _ _ _ _ _ _ _ _ _ z w o t
 .rcases b n with ⟨_,z⟩ | ⟨_,z,c⟩
  .cases z
  .rw[c] at g;exact .inl #[j,e,p,l,z,g]
 .rcases b q with ⟨_,z⟩ | ⟨_,z,c⟩
  .cases z
  .exact#[z,c]
 .have u:j≠i:=λz=>by rw[z,h] at q;cases q
  exact#[QC (λz=>u z.symm),e,by rw[QC (λz=>u z.symm)];exact q]
def Kg(h:store i (.sh d) U=aA a):a=U.set i (.sh d)/\i<U.length:=by
 unfold store at h;split at h
 .cases h
 .cases h
 .cases h
 .rename_i q;cases h;exact#[rfl,(LD.mp q).1]
def qo{U e f g:Env}{h:St}{k a:Hp}{v:V}{c:D}{i j:Nat}(l:HB K U B H G e h k a)(rep:nA K a c v)(m:store i (.sh c) e=aA f)(n:store j (.sh c) f=aA g)(b:i≠j) :
  HB K U B H G (g.set i .mv) (((h.set i (aA v)).set j (aA v)).set i eA) k a:=by
 have o:=l.qA.rV m rep;have p:=o.qA.rV n rep;let(q,r):=Kg m;let(t,u):=Kg n;refine l.trans (o.trans (p.trans (uo p.qA (d:=c) ?_)));rw[t,QC (λz=>b z.symm),q,NF r]
def fv(g:NA X K P C Y)(a:Y.lO x=.JA h)(k:c∈h)(e:CB K cB c=aA (aA (.ref j))):∃b,X.mg x=aA (.ref b)/\(∃i,TJ K b i)/\XI K j (.ref b)=aA bA/\Gl X x/\(x==("__debug__":fA))=dA:=by
 unfold CC.lO at a;split at a
 .cases a
 .rename_i d;split at a
  .rename_i f;let(b,l,m,n):KA:=(g.JA x h a).ex
   refine#[b,l,m,n _ k j e, ?_, ?_]
   .unfold Gl P6;rw[g.nm];exact EC f
   .erw[SF,kS,YR] at d;exact d.1.1
  .cases a
abbrev TU:Ends:={ nx:=λ_ _=>False,rt:=λ_ _=>False }
def SP.no{f:Flow}(h:SP X cA TU f s):False:=by
 induction f using uW with
 |ret u=>let(_,j):=h;let(_,_,_,_,z):pB:=j;exact z
 |_=>let(_,_,_,z):FA:=h;exact z
def SP.un{E:jA->CA->Prop}{D:Ends}{f:Flow}(h:SP (Cx.re X E (X.pn++cA)) IF D f s):SP X cA D f s:=by
 induction f using uW with
 |ret u=>let(v,j,m,J,z):=h;exact#[v,j,m,jb J,z]
 |_=>let(j,m,J,z):=h;exact#[j,m,jb J,z]
def fSa{t:TS}{D:Ends}{body:List MA}{b:YI}{pos:GB}(c:RE X body λ_=>t)(I:gA X cA B H s)(h:t D B H) :
  sA (~~~X) X.A (exec (.Try body [b] [] [] pos) X.env) (SP X cA D) X.xe s :=
 wpAny_Try_except (yF (c _ (X.pn++cA) Pk [] s B H D (VZ I) h) (λf d a=>by
  have a:=SP.un a
  induction f using uW with
  |next=>exact mS a
  |_=>exact a) λ_ _ z=>z)
theorem uI.c{h:DB}{a c:iA}{p:PX}{I:jA}(F:uI X cA H h a c p I):∃j u x,h.get? a=aA j/\(j.cls=.ref c/\j.dict=p.1)/\j.data=.fields u/\ZJ u x p.2:=by
 let(j,u,m):gD:=F;let(x,T,O,r):BB:=m;let(Q,J,y,hd,M,_):zD:=r
 exact#[j,u,x,J,y,hd,M]
abbrev RX(X:Cx)(K:kA)(cA:List (iA×kB))(s:CA)(b:List MA)(U:Env)(B:St)(H G:Hp)(i:Env)(f:Exc):Prop:=∀E,IG (~~~X) X.A X.env E->(∀IF g d h e a c p,HB K U B H G i g d h->gA (Cx.re X E (X.pn++cA)) IF g d e->qI (Cx.re X E (X.pn++cA)) IF d e.heap a c p ->
 CB K cB f.cls=aA (aA (.ref c))->EE K c->YJ K h c p f->E (.ref a) e)->sA (~~~X) X.A (execs b X.env) (λ_ _=>False) E s
def Zf{body:List MA}{h:List S}{b:Exc}{U c:Env}(d:RE X body λX=>MI X K P C W h)(I:gA X cA B H s)(r:HA K U B H G)(q:YD P C W h U=aA (b,c)):RX X K cA s body U B H G c b :=
 λE po k=>yF (d E (X.pn++cA) po [] s B H TU (VZ I) #[U,G,b,c,r,q,λIF m n o p a t u e i F f j g=>k _ _ _ _ _ _ _ _ e i F f j g]) (λ_ _ l=>(SP.no l).elim) λ_ _ z=>z
theorem eSa(O:NA X K P C Y)(k:X.stack=X.env::X.outer)(fr:X.env.frame=aA X.env.locals){body Q:List MA}{x:fA}{R:List fA}{b:Exc}{U Z:Env}{np l pos:GB}{D:Ends}{m:Option fA}
  (rx:RX X K cA s body U B H G Z b) (hx:Y.lO x=.JA R) (I:gA X cA B H s) (hc:R.contains b.cls=bA)
  (h:∀{E IF o d t j a e p},HB K U B H G Z o d t->gA (Cx.re X E (X.pn++cA)) IF o d j->kD (Cx.re X E (X.pn++cA)) IF d a->uI (Cx.re X E (X.pn++cA)) IF d j.heap a e p .none ->
   CB K cB b.cls=aA (aA (.ref e))->EE K e->YJ K t e p b->mI (~~~X) (X.A.mark (aA (.ref a))) (.handlers (.ref a) [.ExceptHandler eA m Q l] X.env) (λr u=>match r with
    |.ok f=>(match m with
     |none=>SP X cA D f u
     |some n=>sA (~~~X) X.A (do bindName X.env n .none;unbindBehindTheSuite X.env n l) (λ_ s₃=>SP X cA D f s₃) X.xe u)
    |.error x=>cameBackBy (~~~X) X.A X.env X.xe x u) j) :
  sA (~~~X) X.A (exec (.Try body [.ExceptHandler (aA (.Name x np)) m Q l] [] [] pos) X.env) (SP X cA D) X.xe s:=by
 refine wpAny_Try_except (yF (rx _ Pk λIF o d t j a e pp y I' F g hg J=>?_) (λf s1 h1=>h1.elim) λ_ _ z=>z);refine Pd (X:=Cx.re X _ (X.pn++cA)) I' k fr F λh1 I1 F1=>yY (X:=Cx.re X _ (X.pn++cA)) I1 F.1 F1 λh2 M F2=>?_
 let(D0,d1,d2,d3,d4,d5):zD:=fv O hx (c:=b.cls) (↑hc) g
 have hK:=O.NC;subst hK;let(oe,i):=F2.c;let(_,_,he,N,_):pB:=i
 refine wpAny_handleBy_cons (codeAny_handlers_test (ZM (X:=Cx.ma (Cx.re X _ (X.pn++cA)) (.ref a)) (TZ M) d4 d1 ?_ d5)) (by intro z;cases z);exact Tu (TZ (v:=.ref a) M).vD hg.q.choose_spec d2.choose_spec d3 he N.1 (h y M F.1 F2 g hg J)
def dSa(k:NA X K P C Y)(l:X.stack=X.env::X.outer)(fr:X.env.frame=aA X.env.locals){body t:List MA}{x:fA}{u:List fA}{j:Exc}{U y:Env}{np J pos:GB}{D:Ends}{n:fA}{i:Nat}{st:MA}
  (rx:RX X K cA s body U B H G y j) (hx:Y.lO x=.JA u) (I:gA X cA B H s) (hc:u.contains j.cls=bA) (hi:X.N[i]?=aA n) (M:X.env.scope.names.lookup n=aA .local)
  (h:∀{E F IF O Q R Z a},HB K U B H G y O Q R->nA K R (.zC j.cls j.num) (.ref a)->gA (Cx.ma (Cx.re X E (X.pn++cA)) (.ref a)) IF (O.set i (aA (.ref a))) Q Z ->
   sA (~~~X) (X.A.mark (aA (.ref a))) (execs (st::t) X.env) (λf m=>sA (~~~X) X.A (do bindName X.env n .none;unbindBehindTheSuite X.env n J) (λ_ m=>SP X cA D f m) X.xe m) F Z) :
  sA (~~~X) X.A (exec (.Try body [.ExceptHandler (aA (.Name x np)) (aA n) (st::t) J] [] [] pos) X.env) (SP X cA D) X.xe s:=by
 refine eSa k l fr rx hx I hc λb I2 e F2 p hg q=>codeAny_handlers_suite_as (yY I2 e F2 λh3 I3 F3=>?_)
 let(oe,g):=F3.c;let(vs,_,he,r,hd,_):fC:=g
 refine L4 (X:=Cx.ma (Cx.re X _ (X.pn++cA)) _) (v:=.ref _) (TZ (wy (o:=.ext (BH _ _ _)) I3 e #[#[oe,vs,he,r,hd],#[oe,he],λh4 h5 z w=>by
  let(o1,v1,z1,z2,z3):pB:=z
  exact#[o1,v1,w o1 z1,z2,z3]])) (by rw[k.JH];exact k.nd) hi (.inl M) rfl (λs5 I5=>h (b.trans #[b.qA.yJ e.1,Ext.yJ b.qA.sub e.1,λ_ h=>.inl h,λ_ h=>#[h,rfl],λ_ d _ h=>#[rfl,d,h],rfl]) ?_ I5) (.inr M)
 erw[nA];exact#[_,_,_,rfl,p,hg,jC,q.pay.mono (Sm.laid (WA.free b.qA.sub e.1))]
def gSa(h:NA X K P C Y)(l:X.stack=X.env::X.outer)(fr:X.env.frame=aA X.env.locals){body:List MA}{x n y:fA}{cs:List fA}{i j:Nat}{np t v M hp pos:GB}{c:Exc}{U O Q R:Env}{D:Ends}(rx:RX X K cA s body U B H G O c)
  (hx:Y.lO x=.JA cs) (e:X.N[i]?=aA n) (m:X.env.scope.names.lookup n=aA .local) (b:SF n=dA) (hj:X.N[j]?=aA y) (hy:L2.Loc X.env.scope y) (o:X.fn y=bA\/X.env.scope.names.lookup y=aA .local) (I:gA X cA B H s)
  (hc:cs.contains c.cls=bA) (p:i≠j) (q2:store i (.sh (.zC c.cls c.num)) O=aA Q) (q3:store j (.sh (.zC c.cls c.num)) Q=aA R) (k:∀d g Z,HB K U B H G (R.set i .mv) d g Z->D.nx d g) :
  sA (~~~X) X.A (exec (.Try body [.ExceptHandler (aA (.Name x np)) (aA n) [.Assign [.Name y t] (.Name n v) M] hp] [] [] pos) X.env) (SP X cA D) X.xe s:=by
 erw[SF,YR] at b;have hN:X.N.Nodup:=by rw[h.JH];exact h.nd
 refine dSa h l fr rx hx I hc e m λ{E F IF d g Z s' a} q rep I5=>?_
 have il:i<(d.set i (aA (.ref a))).length:=by rw[I5.len];exact(LD.mp e).1
 refine yF (M3 (OO (X:=Cx.ma (Cx.re X E (X.pn++cA)) (.ref a)) (pos:=M) (pos':=t) (i:=j) hN hj hy (sR (pos:=v) e (.inl m) b.1.1 b.1.2) rfl o) IF s' _ _ { TU with nx:=λB6 H6=>B6=(d.set i (aA (.ref a))).set j (aA (.ref a))/\H6=g } I5 #[.ref a,NF (↑il),rfl,rfl]) (λf s6 r=>?_) λ_ _ z=>z.elim
 induction f using uW with
 |next =>
  let(B6,H6,J,rfl,rfl):=r;exact Cw (oy I.ok J) hN e m λs7 J7=>#[_,_,J7,k _ _ _ (qo q rep q2 q3 p)]
 |ret u=>let(_,_,_,_,_,z):=r;exact z.elim
 |_=>let(_,_,_,z):=r;exact z.elim
def eLa
  (c:RE X body λ_=>sF K P C W a):PS X (.Try body b o f pos) (tS K P C W (xV a b o f)):=BC
def cKa{st:MA}(h:∀U,jF P C W c U=eA):PS X st (oE X K P C W c):=λcA s B H D I a=>by let(U,G,x,b,r,e,k):VA:=a;rw[h] at e;cases e
def eKa:PS X (.Try body a o f pos) (oE X K P C W (xV b a o f)):=by
 unfold xV
 (repeat' split)<;>exact cKa λU=>rfl
def fLa
  (a:RE X body λ_=>sF K P C W b):PS X (.Try body c [] [] pos) (tS K P C W (l5 Y b c)):=eLa a
def fKa(e:NA X K P C Y)(a:X.stack=X.env::X.outer)(f:X.env.frame=aA X.env.locals)
  (b:RE X body λX=>MI X K P C W c):PS X (.Try body d [] [] pos) (oE X K P C W (l5 Y c d)):=eKa
def dLa(f:NA X K P C Y)(c:X.stack=X.env::X.outer)(g:X.env.frame=aA X.env.locals){body:List MA}{b:List YI}{a:List S}{pos:GB}
  (d:RE X body λ_=>sF K P C W a) (e:RE X body λX=>MI X K P C W a):PS X (.Try body b [] [] pos) (tS K P C W (j5 Y a b)):=fLa d
def dKa(e:NA X K P C Y)(a:X.stack=X.env::X.outer)(f:X.env.frame=aA X.env.locals){body:List MA}{c:List YI}{d:List S}{pos:GB}
  (b:RE X body λX=>MI X K P C W d):PS X (.Try body c [] [] pos) (oE X K P C W (j5 Y d c)):=fKa e a f b
def gLa(e:NA X K P C Y)(a:X.stack=X.env::X.outer)(f:X.env.frame=aA X.env.locals)(g:XG X Y){body:List MA}{d:List YI}{b:List S}{pos:GB}
  (h:RE X body λ_=>sF K P C W b) (c:RE X body λX=>MI X K P C W b):PS X (.Try body d [] [] pos) (tS K P C W (m5 Y b d)):=dLa e a f h c
def gKa(e:NA X K P C Y)(a:X.stack=X.env::X.outer)(f:X.env.frame=aA X.env.locals){body:List MA}{c:List YI}{d:List S}{pos:GB}
  (b:RE X body λX=>MI X K P C W d):PS X (.Try body c [] [] pos) (oE X K P C W (m5 Y d c)):=dKa e a f b
def aLa(a:NA X K P C Y)(b:Y.slot x=aA i)(n:iE e=bA)(c:GO k=bA):PS X (.Assign [.Subscript (.Name x p) k d] e pos) (tS K P C W (HR i k (cE Y k) (cE Y e))):=by
 have h:PS X (.Assign [.Subscript (.Name x p) k d] e pos) (tS K P C W (.set i (cE Y k) (cE Y e))):=bLa a b (sE a _) (sE a _) n λv=>by induction k using TC<;>first | rfl | cases c
 exact h
def cLa(b:NA X K P C Y):PS X (.Assign [.Tuple a k p] e pos) (tS K P C W (OR Y a e (cE Y e))):=by
 exact BC
end
section
variable{K:kA}
def lg(b:NA X K P C Y)(h:Y.dG x=aA i):X.N[i]?=aA x/\L2.Loc X.env.scope x/\Y.SM x=bA:=by
 unfold CC.dG at h;split at h
 .rename_i a
  have c:X.N[i]?=aA x:=by
   unfold CC.slot at h;split at h
   .cases h
   .split at h
    .rw[b.JH];exact qU h
    .cases h
  refine#[c, ?_,a];unfold L2.Loc;rw[b.nm];unfold CC.SM at a;rw[fJ,XA] at a;rcases a with a | a
  .exact .inl (EC a)
  .exact .inr (EC a.2)
 .cases h
def jKa(d:NA X K P C Y)(f:XG X Y){x:fA}{i:Nat}{e:xA}{c:E}{p pos:GB}(l:Y.dG x=aA i)(h:MN X K P C e c):PS X (.Assign [.Name x p] e pos) (tS K P C W (.QA i c)):=by
 let(m,n,o):mG:=lg d l
 refine TS.uE (h x i p pos (by rw[d.JH];exact d.nd) m n (f x o)) λD B H g=>?_
 let(U,G,y,z,r,e,k):VA:=g;let(v,j,s,b):FA:=ZH e k.ne
 unfold zI at b
 cases q:store i v j with
 |none=>rw[q] at b;cases b
 |some A =>
  rw[q] at b;cases b;exact#[U,G,v,j,r,s,λx t u a w=>k _ t u (DA.store r a q w)]
def Kv(d:NA X K P C Y){tg it:xA}{k:UE}{a:List E}(h:wQ Y it=aA (k,a)):∃b,(∀x,eJ it X.env x=pure x)/\PI X tg it b/\∀B H (R:It->Hp->Prop),pI K P C k a B H R->b B H R:=by
 unfold wQ at h;split at h
 .rename_i x c;split at h
  .let(i,e,h):=wH.mp h;cases h;cases it<;>erw[aAp,reduceCtorEq] at c;cases c;exact#[_,RT rfl _,Ve (T2 d e _).h,λB H R q=>Vc B H R q]
  .cases h
 .cases h
def yZ(i:NA X K P C Y)(U:XG X Y){I it:xA}{one:Bool}{is:List Nat}{F:UE}{j:List xA}{Φ:List E->Prop}
  (J:AG Y I=aA (one,is)) (d:vJ Y it=aA (F,j)) (o:DJ F one=bA) (fin:∀{M:TI} {r:List E},(∀x,eJ it X.env x=pure x)->PI X I it M->(∀B H (R:It->Hp->Prop),pI K P C F r B H R->M B H R)->Φ r):Φ (rB Y j):=by
 have gen:∀e:xA,it=e->FO e=bA->aA (UE.of,[e])=aA (F,j)->Φ (rB Y j):=λe Z hn s=>by(subst Z;cases s;exact fin (RT hn _) (PI.or (m3 (sE i it).h) (y3 (sE i it).h)) λB H R q=>P2 i.NC B H R q)
 unfold vJ at d;split at d
 .rename_i x u;obtain⟨⟨f,p⟩,args,v⟩:=x;obtain rfl:=zU u;dsimp only at d;split at d
  .rename_i l;have l:=EC l;subst l;split at d
   .rename_i m;split at d
    .rename_i g;cases d;rw[XA] at g;let(n,w,N,O):oB:=CC.lF i m nofun
     have t:=i.blt _ w;obtain _ | ⟨a,_ | ⟨b,_ | ⟨_,_⟩⟩⟩:=j
     .simp at g
     .have k:=g.1;rw[DC,XA] at k;exact fin (λ_=>rfl) (We n t (lQ i [a] g.1) (by rw[xC k.1];rfl)) λB H R q=>Rf B H R q
     .have k:=g.1;rw[DC,XA,DC,XA] at k;exact fin (λ_=>rfl) (Xe n t (lQ i [a,b] g.1) (by rw[xC k.1,xC k.2.1];rfl) (by rw[xC k.2.1];rfl)) λB H R q=>Sf B H R q
     .simp at g
    .cases d
   .cases d
  .split at d
   .rename_i l;have l:=EC l;subst l;split at d
    .rename_i m;split at d
     .rename_i g;cases d;rw[XA] at g;let(n,w,N,O):oB:=CC.lF i m nofun
      have t:=i.blt _ w;obtain _ | ⟨a,_ | ⟨_,_⟩⟩:=j
      .simp at g
      .have k:=g.1;rw[DC,XA] at k;let(y,kk,tp,s):BB:=Z4 J (by simpa[DJ] using o)
       obtain rfl:=s;exact fin (λ_=>rfl) (Te n t (lQ i [a] g.1) (by rw[xC k.1];rfl)) λB H R q=>qY i.NC B H R q
      .simp at g
     .cases d
    .cases d
   .exact gen _ rfl rfl d
 .split at d
  .rename_i x Q;let(f,a,x,c):=x;let(p,jj,A):gD:=Xy Q
   let(qq,kp,v,s):BB:=A;obtain rfl:=s
   clear Q;dsimp only at d;split at d
   .rename_i g;rw[XA,XA,XA] at g;obtain⟨⟨⟨l,u⟩,k⟩,n⟩:=g;have l:=EC l;have u:=EC u;have n:=EC n;subst l u n;split at d
    .rename_i m;cases d;let(n,w,N,O):oB:=CC.lF i m nofun
     have t:=i.blt _ w;let(y,kk,tp,s):BB:=Z4 J (by simpa[DJ] using o)
     obtain rfl:=s;exact fin (λ_=>rfl) (zIa n t (lQ i [_] (by rw[DC,k];rfl)) (by rw[xC k];rfl)) λB H R q=>qY i.NC B H R q
    .cases d
   .cases d
  .split at d
   .exact gen _ rfl ‹_› d
   .cases d
def Qv(d:NA X K P C Y)(c:XG X Y){k it:xA}{body:List MA}{one:Bool}{is:List Nat}{g:UE}{e:List xA}{Φ:List E->Prop}
  (j:AG Y k=aA (one,is)) (f:vJ Y it=aA (g,e)) (a:DJ g one=bA) (fin:∀{l:TI} {b:List E},(∀x,eJ it X.env x=pure x)->PI X k it l->(∀B H (R:It->Hp->Prop),pI K P C g b B H R->l B H R)->Φ b):Φ (yO Y it body (rB Y e)):=by
 unfold yO;split
 .rename_i x m;split
  .rename_i i n;split
   .cases it<;>erw[aAp,reduceCtorEq] at m;cases m
    have:g=.of:=by(erw[vJ,VM,AU,FO,if_true] at f;cases f;rfl)
    subst this;have h:=(T2 d n ‹GB›).h;exact fin (λ_=>rfl) (PI.or (m3 h) (y3 h)) λB H R q=>P2 d.NC B H R q
   .exact yZ d c j f a fin
  .exact yZ d c j f a fin
 .exact yZ d c j f a fin
theorem L9:∀{a:List E} {b:List D} {U d:Env},VE P C a U=some (.ok b,d)->b.length=a.length
 |[],_,_,_,h=>by erw[VE] at h;cases h;rfl
 |c::a,b,U,d,h=>by
  erw[VE] at h;let(v,g,_,h):FA:=yB h
  let(e,i,f,h):FA:=yB h
  cases h;rw[KC,KC,L9 f]
theorem Fe(b:NA X K P C Y):∀(n:Nat) (e:xA),sizeOf e<n->PE X e (QR X K P C (cE Y (TN e)))
 | 0,_,h=>absurd h (pS _)
 |n+1,e,h=>by
  induction e using TC with
  |Subscript a i p =>
   show PE X _ (QR X K P C (cE Y (if GO i then TN a else .Subscript a i p)));split
   .exact TE.fD (Ke iz (Fe b n a (AB h)) (sE b i).v (D3 λlo j q z=>by subst z;rename_i c;cases c)) λB H Q d=>(by let(U,G,x,f,r,g,k):=d;exact#[U,G,x,f,r,g,k])
   .exact VN b _
  |_=>exact VN b _
structure kL(X:Cx)(K:kA)(P:bB)(C:Calls)(Y:CC):Prop where
 po:IG (~~~X) X.A X.env X.xe
 xo:NA X K P C Y
 PM:XG X Y
 sk:Y.top=bA->X.stack=X.env::X.outer/\X.env.frame=aA X.env.locals
def MP(K:kA)(P:bB)(C:Calls)(W:Nat)(Y:CC)(n:Nat):Prop:=∀X:Cx,kL X K P C Y->∀a:List MA,sizeOf a<n ->
 uC X a (sF K P C W (tD Y a))/\uC X a (MI X K P C W (tD Y a))
theorem kL.re{E:jA->CA->Prop}(c:kL X K P C Y)(po:IG (~~~X) X.A X.env E):kL (Cx.re X E pn) K P C Y:=#[po,c.xo.re,c.PM,c.sk]
def L8(m:MP K P C W Y n)(l:kL X K P C Y)(st:MA)(q:sizeOf st<n+1):PS X st (tS K P C W (cS Y st)):=by
 let(po,d,g,Z):=id l
 induction st using t7 with
 |Pass _=>exact vKa
 |Break _=>exact lKa
 |Continue _=>exact mKa
 |Return e N =>
  induction e using oG with
  |some e =>
   have hR:PS X (.Return (aA e) N) (tS K P C W (AR e (cE Y e))):=zKa (sE d e);show PS X _ (tS K P C W (zR Y e (AR e (cE Y e))));unfold zR;split
   .refine TS.uE (vR (sE d e).v) λD B H hz=>?_
    let(U,G,fl,U',r,e0,k):=hz;let(v,U1,e1,e2):=ZH e0 k.ne;cases e2;exact#[U,G,v,U',r,e1,λx H' G' a hv=>k x B H' G' (DA.s r a) (hv.KH λa z=>.inr z)]
   .exact hR
  |none=>exact yKa
 |Expr e _ =>
  show PS X _ (tS K P C W (if iE e then .expr (cE Y e) else .uA));split
  .exact pKa (sE d _) ‹_›
  .exact BC
 |If c a b _=>exact sKa (sE d _) (m _ l a (AB q)).1 (m _ l b (AB q)).1
 |While c b o _ =>
  induction o using bC with
  |nil=>exact jTa po (sE d _) (m _ l b (AB q)).1
  |cons _ _=>exact BC
 |For tg it b o F =>
  induction o using bC with
  |nil =>
   have hF:PS X (.For tg it b [] F) (tS K P C W (match AG Y tg,vJ Y it with
    |some (one,is),aA (k,O)=>if DJ k one then .for is one k (yO Y it b (rB Y O)) (tD Y b) else .uA
    |_,_=>.uA)):=by
    cases J:AG Y tg with
    |none=>exact BC
    |some t =>
     cases A:vJ Y it with
     |none=>exact BC
     |some u =>
      show PS X _ (tS K P C W (if DJ u.1 t.1 then .for t.2 t.1 u.1 (yO Y it b (rB Y u.2)) (tD Y b) else .uA));split
      .exact Qv d g J A ‹_› (Φ:=λI=>PS X (.For tg it b [] _) (tS K P C W (.for t.2 t.1 u.1 I (tD Y b)))) λQ hi hw=>X9 po d (c5 d g J) (m _ l b (AB q)).1 Q hi hw
      .exact BC
   show PS X _ (tS K P C W (xQ (wQ Y it) (AG Y tg) (tD Y b) _));unfold xQ;split
   .rename_i u hu;let(wi,J,A,R):=Kv d (tg:=tg) hu;split
    .exact X9 po d (c5 d g ‹_›) (m _ l b (AB q)).1 J A R
    .exact BC
   .exact hF
  |cons _ _=>exact BC
 |Assign M e _ =>
  obtain _ | ⟨t,_ | ⟨_,_⟩⟩:=M
  .exact BC
  .induction t using TC with
   |Name x p =>
    show PS X _ (tS K P C W (match Y.dG x with | some i=>if iE e||vU e then .QA i (cE Y e) else .uA | none=>.uA));split
    .split
     .rename_i j;rw[fJ] at j;rcases j with j | j
      .exact hKa d g ‹_› (sE d _) j
      .exact jKa d g ‹_› (zDa d _ j)
     .exact BC
    .exact BC
   |Tuple M _ _ =>
    show PS X _ (tS K P C W (match PL Y M with | some is=>if iE e&&lR e then .RN is (cE Y e) else .uA | none=>OR Y M e (cE Y e)));split
    .split
     .rename_i h;rw[XA] at h;exact iKa d g ‹_› (sE d _) h.1 h.2
     .exact BC
    .exact cLa d
   |Subscript a k _ =>
    cases a with
    |Name x p =>
     show PS X _ (tS K P C W (match Y.slot x with | some i=>if iE e&&GO k then HR i k (cE Y k) (cE Y e) else .uA | none=>.uA));split
     .split
      .rename_i h;rw[XA] at h;exact aLa d ‹_› h.1 h.2
      .exact BC
     .exact BC
    |_=>exact BC
   |_=>exact BC
  .induction t using TC with
   |Subscript a _ _=>cases a<;>exact BC
   |_=>exact BC
 |AugAssign t op e _ =>
  induction t using TC with
  |Name x p =>
   induction op using kl with
   |Add =>
    show PS X _ (tS K P C W (match Y.dG x with | some i=>if iE e then .uA else .uA | none=>.uA));split
    .split
     .exact BC
     .exact BC
    .exact BC
   |_=>exact BC
  |_=>exact BC
 |Raise e c _ =>
  induction e using oG with
  |none=>exact BC
  |some e =>
   induction c using oG with
   |none =>
    show PS X _ (tS K P C W (BR Y e));unfold BR lV;split
    .split
     .split
      .exact K3 λU=>rfl
      .exact K3 λU=>rfl
      .exact BC
     .exact BC
    .exact BC
   |some _=>exact BC
 |Try body Q o f _ =>
  show PS X _ (tS K P C W (SR Y (tD Y body) Q o f));unfold SR;split
  .rename_i w;rw[XA] at w;obtain rfl:=lS.mp w.1;obtain rfl:=lS.mp w.2;split
   .rename_i x n bd hh;let(np,hp,hq):gD:=zx hh
    obtain rfl:=hq;split
    .rename_i j;rw[XA] at j;let(A,R):=j;have A:=EC A;let(s1,s2):=Z R;split
     .exact BC
     .split
      .exact BC
      .exact BC
    .exact BC
   .split
    .let(s1,s2):=Z ‹_›;exact gLa d s1 s2 g (λE pn y=>(m _ (l.re y) body (AB q)).1) (λE pn y=>(m _ (l.re y) body (AB q)).2)
    .exact BC
  .exact BC
 |_=>exact BC
def rq{n:Nat}(c:MP K P C W Y n){X:Cx}(b:kL X K P C Y)(a:List MA)(d:sizeOf a<n+1):uC X a (sF K P C W (tD Y a)):=by
 let(po,f,e,g):=id b
 induction a using bC with
 |nil=>exact iLa
 |cons s r=>exact hLa (L8 c b s (jM (by simp;lia) d)) (c _ b r (AB d)).1
theorem Cu{c:E}{a b:List S}{U:Env}:jF P C W (.EA c a b) U=(match ev P C bA c U with | some (.ok (.sh (.bl bA)),d)=>YD P C W a d | some (.ok (.sh (.bl dA)),d)=>YD P C W b d | _=>eA):=rfl
theorem Zu{s:S}{r:List S}{U:Env}:YD P C W (s::r) U=(match ex P C W s U with | some (.nx,a)=>YD P C W r a | _=>jF P C W s U):=rfl
theorem Hu{c:fA}{a:List E}{U:Env}:jF P C W (.HL c a) U=(match VE P C a U with | some (.ok _,b)=>aA (#[c,eA],b) | _=>eA):=rfl
def mq(J:MP K P C W Y n)(w:kL X K P C Y)(st:MA)(M:sizeOf st<n+1):PS X st (oE X K P C W (cS Y st)):=by
 let(po,g,N,sk):=id w;have no:∀{st:MA} (c:S),(∀U,jF P C W c U=eA)->PS X st (oE X K P C W c):=λc h cA s B H D I l=>by let(U,G,x,j,r,e,k):VA:=l;rw[h] at e;cases e
 have uA:∀{st:MA},PS X st (oE X K P C W .uA):=no .uA λU=>rfl
 induction st using t7 with
 |Pass _=>exact no .pass λU=>rfl
 |Break _=>exact no .brk λU=>rfl
 |Continue _=>exact no .cnt λU=>rfl
 |Return e O =>
  induction e using oG with
  |none=>exact no .fV λU=>rfl
  |some e =>
   have hR:PS X (.Return (aA e) O) (oE X K P C W (AR e (cE Y e))):=by(exact TS.uE (vR (VN g e)) λD B H l=>(by let(U,G,x,j,r,d,k):VA:=l;exact#[U,G,x,j,r,(show jF P C W (.ret (cE Y e)) U=aA (x,j) from d),k]))
   show PS X _ (oE X K P C W (zR Y e (AR e (cE Y e))));unfold zR;split
   .exact TS.uE (vR (Fe g _ e (NG _))) λD B H l=>(by let(U,G,x,j,r,d,k):VA:=l;exact#[U,G,x,j,r,(show jF P C W (.kN (cE Y (TN e)) (cE Y e)) U=aA (x,j) from d),k])
   .exact hR
 |Expr e _ =>
  show PS X _ (oE X K P C W (if iE e then .expr (cE Y e) else .uA));split
  .exact TS.uE (cf (VN g e) (sV ‹_› _ _ _)) λD B H l=>(by let(U,G,x,j,r,d,k):VA:=l;exact#[U,G,x,j,r,d,k])
  .exact uA
 |If c a b _ =>
  refine TS.uE (gf (sE g c).t (J _ w a (AB M)).2 (J _ w b (AB M)).2) λD B H l=>?_
  let(U,G,x,j,r,d,k):=l;replace d:jF P C W (.EA (cE Y c) (tD Y a) (tD Y b)) U=aA (x,j):=d;replace d:=(Cu (a:=tD Y a)).symm.trans d;split at d
  .rename_i y q;exact#[U,G,bA,y,r,q,λH1 Q m=>#[y,Q,x,j,m.qA,d,k.pre (DA.s r m)]]
  .rename_i y q;exact#[U,G,dA,y,r,q,λH1 Q m=>#[y,Q,x,j,m.qA,d,k.pre (DA.s r m)]]
  .cases d
 |While c b o _ =>
  induction o using bC with
  |nil=>exact iTa po (sE g c) (J _ w b (AB M)).1 (J _ w b (AB M)).2
  |cons _ _=>exact uA
 |For tg it b o R =>
  induction o using bC with
  |nil =>
   have hF:PS X (.For tg it b [] R) (oE X K P C W (match AG Y tg,vJ Y it with
    |some (one,is),aA (k,hE)=>if DJ k one then .for is one k (yO Y it b (rB Y hE)) (tD Y b) else .uA
    |_,_=>.uA)):=by
    split
    .split
     .exact no (.for _ _ _ _ _) λU=>rfl
     .exact uA
    .exact uA
   show PS X _ (oE X K P C W (xQ (wQ Y it) (AG Y tg) (tD Y b) _));unfold xQ;split
   .rename_i u hu;split
    .exact no (.for _ _ _ _ _) λU=>rfl
    .exact uA
   .exact hF
  |cons _ _=>exact uA
 |Assign ts e _ =>
  obtain _ | ⟨t,_ | ⟨_,_⟩⟩:=ts
  .exact uA
  .induction t using TC with
   |Name x p =>
    show PS X _ (oE X K P C W (match Y.dG x with | some i=>if iE e||vU e then .QA i (cE Y e) else .uA | none=>.uA));split
    .rename_i i hi;split
     .intro cA s B H D I #[U,G,A,j,r,d,k];replace d:VF P C _ U=aA (A,j):=d;let(h1,h2,h3):mG:=lg g hi
      rcases Qq (ZN d) with xx | ⟨lC,tg,iter,EA,sc,pos',rfl,hq⟩
      case inr=>exact uq g hq W x i p _ (by rw[g.JH];exact g.nd) h1 h2 (N x h3) cA s B H D I #[U,G,A,j,r,d,k]
      exact OO (by rw[g.JH];exact g.nd) h1 h2 (VN g _) (sV xx _ _ _) (N x h3) cA s B H D I #[U,G,A,j,r,d,k]
     .exact uA
    .exact uA
   |Tuple ts _ _ =>
    show PS X _ (oE X K P C W (match PL Y ts with | some is=>if iE e&&lR e then .RN is (cE Y e) else .uA | none=>OR Y ts e (cE Y e)));split
    .split
     .exact no (.RN _ _) λU=>rfl
     .exact uA
    .unfold OR
     (repeat' split)<;>first | exact uA | exact no (.swp _ _ _ _) λU=>rfl
   |Subscript a k _ =>
    cases a with
    |Name x p =>
     show PS X _ (oE X K P C W (match Y.slot x with | some i=>if iE e&&GO k then HR i k (cE Y k) (cE Y e) else .uA | none=>.uA));split
     .split
      .unfold HR;(repeat' split)<;>first | exact no (.set _ _ _) λU=>rfl | exact no (.yVa _ _ _) λU=>rfl
      .exact uA
     .exact uA
    |_=>exact uA
   |_=>exact uA
  .induction t using TC with
   |Subscript a _ _=>cases a<;>exact uA
   |_=>exact uA
 |AugAssign t op e _ =>
  induction t using TC with
  |Name x p =>
   induction op using kl with
   |Add =>
    show PS X _ (oE X K P C W (match Y.dG x with | some i=>if iE e then .uA else .uA | none=>.uA));split
    .split
     .exact uA
     .exact uA
    .exact uA
   |_=>exact uA
  |_=>exact uA
 |Raise e c _ =>
  induction e using oG with
  |none=>exact uA
  |some e =>
   induction c using oG with
   |none =>
    show PS X _ (oE X K P C W (BR Y e));unfold BR;split
    .rename_i A Wx;obtain⟨⟨x,np⟩,args,iK⟩:=A;obtain rfl:=zU Wx;show PS X _ (oE X K P C W (lV Y x args));unfold lV;split
     .rename_i Z;split
      .rename_i hg;rw[XA] at Z;let(h1,h2,h3,h4):oB:=CC.lF g hg nofun
       let(Ca,Ta):=(g.exc x h2).ex;let(c1,c2,c3,c4):oB:=Ta
       have hK:=g.NC;obtain _ | ⟨a,aAj⟩:=args
       .simp at Z
       .have ns:=Z.1;rw[DC,XA] at ns;refine TS.uE (wKa g.hh h1 c2 (by rw[hK];exact c4) (jq g (a::aAj) Z.1) h3 (xC ns.1 _ _) (iI ns.2 _ _).1) λD B H l=>?_
        let(U,G,A,j,r,d,k):VA:=l;replace d:=(Hu (P:=P) (C:=C) (W:=W)).symm.trans d;split at d
        .rename_i ds y q;cases d;refine#[U,G,ds,_,r,q,λxs H1 Q m rx=>#[?_,λcA b s' I' F=>k cA B H1 Q s' b Ca (eA,bA) (DA.s r m) I' F c1 c3 (vHa trivial)]];rw[rx.len,L9 q,GX,kM]
         have:=Z.2
         simp at this;simp
         lia
        .cases d
      .exact no (.Y3 _ _) λU=>rfl
      .exact uA
     .exact uA
    .exact uA
   |some _=>exact uA
 |Try body hs o f _ =>
  show PS X _ (oE X K P C W (SR Y (tD Y body) hs o f));unfold SR di ei;split
  .rename_i v;rw[XA] at v;obtain rfl:=lS.mp v.1;obtain rfl:=lS.mp v.2;split
   .split
    .split
     .exact uA
     .split
      .exact uA
      .exact uA
    .exact uA
   .split
    .let(s1,s2):=sk ‹_›;exact gKa g s1 s2 λE pn po'=>(J _ (w.re po') body (AB M)).2
    .exact uA
  .exact uA
 |_=>exact uA
def oq{n:Nat}(g:MP K P C W Y n){X:Cx}(f:kL X K P C Y)(a:List MA)(h:sizeOf a<n+1):uC X a (MI X K P C W (tD Y a)):=by
 let(po,p,m,t):=id f
 induction a using bC with
 |nil=>exact λcA s B H D I c=>(by let(U,G,x,d,r,e,k):VA:=c;exact nomatch (show(eA:Option (Exc×Env))=aA (x,d) from e))
 |cons st aAj =>
  have i:tD Y (st::aAj)=cS Y st::tD Y aAj:=by first | rfl | (show nVa (mVa Y st aAj) _ _=_;rw[qk];rfl)
  rw[i];refine TS.PZ (L3 (tKa (L8 g f st (jM (by simp;lia) h)) (mq g f st (jM (by simp;lia) h))) (g _ f aAj (AB h)).2) λD B H c=>?_
  let(U,G,x,d,r,b,k):VA:=c;replace b:YD P C W (cS Y st::tD Y aAj) U=aA (x,d):=b;rw[Zu] at b;split at b
  .rename_i j q;exact .inl #[U,G,.nx,j,r,q,λu v o l=>#[j,o,x,d,l.qA,b,k.pre l]]
  .exact .inr #[U,G,x,d,r,b,k]
theorem sU:∀n:Nat,MP K P C W Y n
 | 0,_,_,_,h=>absurd h (pS _)
 |n+1,_,c,a,h=>#[rq (sU n) c a h,oq (sU n) c a h]
def pq(po:IG (~~~X) X.A X.env X.xe)(c:NA X K P C Y)(b:XG X Y)(d:Y.top=bA->X.stack=X.env::X.outer/\X.env.frame=aA X.env.locals)(a:List MA):uC X a (sF K P C W (tD Y a)):=(sU _ X #[po,c,b,d] a (NG _)).1
def nq(po:IG (~~~X) X.A X.env X.xe)(c:NA X K P C Y)(b:XG X Y)(d:Y.top=bA->X.stack=X.env::X.outer/\X.env.frame=aA X.env.locals)(a:List MA):uC X a (MI X K P C W (tD Y a)):=(sU _ X #[po,c,b,d] a (NG _)).2
end
def cT(Y:CC)(a:List MA):List S:=tD Y a
section
variable{X:Cx}{K:kA}{P:bB}{C:Calls}{W:Nat}{Y:CC}
def LX(po:IG (~~~X) X.A X.env X.xe)(c:NA X K P C Y)(b:XG X Y)(d:Y.top=bA->X.stack=X.env::X.outer/\X.env.frame=aA X.env.locals)(a:List MA):uC X a (sF K P C W (cT Y a)):=by
 exact pq po c b d a
def sq(po:IG (~~~X) X.A X.env X.xe)(c:NA X K P C Y)(b:XG X Y)(d:Y.top=bA->X.stack=X.env::X.outer/\X.env.frame=aA X.env.locals)(a:List MA):uC X a (MI X K P C W (cT Y a)):=by
 exact nq po c b d a
end
def bX:xA->Option (fA×fA)
 |.Attribute e f _=>(aAp e).map λs=>(s,f)
 |_=>eA
def i8:MA->Option (fA×fA×fA)
 |.Assign a v _=>(match a with
  |[]=>eA
  |t::r=>(match r with
   |_::_=>eA
   |[]=>(bX t).bind λp=>(aAp v).map λq=>(p.1,p.2,q)))
 |_=>eA
def Ho(h:bX e=aA x):∃a b,e=.Attribute (.Name x.1 a) x.2 b:=by
 induction e using TC with
 |Attribute =>
  let(s,c,d):rA:=wH.mp (show(aAp _).map _=_ from h)
  obtain rfl:=d;let(_,rfl):=kR c;exact#[_,_,rfl]
 |_=>exact JE h
def Co{st:MA}(h:i8 st=aA x):∃b c d e,st=.Assign [.Attribute (.Name x.1 b) x.2.1 c] (.Name x.2.2 d) e:=by
 induction st using t7 with
 |Assign f v _ =>
  induction f using bC with
  |nil=>cases h
  |cons t r =>
   induction r using bC with
   |cons=>cases h
   |nil =>
    let(p,g,h):rA:=PH.mp (show(bX t).bind _=_ from h)
    let(q,a,a):rA:=wH.mp h
    obtain rfl:=a;let(_,_,a):gD:=Ho g
    obtain rfl:=a;let(_,rfl):=kR a;exact#[_,_,_,_,rfl]
 |_=>exact JE h
def rK(a:List fA):Nat->List MA->Option (List fA)
 |j,[]=>if j=a.length then aA [] else eA
 |j,st::r=>(i8 st).bind λx=>if a[0]?=aA x.1/\a[j]?=aA x.2.2/\SF x.1=dA/\SF x.2.2=dA then(rK a (j+1) r).map (x.2.1 :: ·) else eA
theorem sf:∀{fs:List (fA×V)},f ∉ fs.map (·.1)->pF f y fs=fs++[(f,y)]
 |[],_=>rfl
 | (g,x)::r,h=>by(rw[vB,jD,not_or] at h;rw[pF,if_neg (λz=>h.1 z.symm),sf h.2];rfl)
def vSa(h:H a=aA o):GA H a o=H:=by
 funext b
 unfold GA;split
 .rename_i z;rw[z,h]
 .rfl
theorem bb{K:kA}(u:X.K=K)(l:∀(i:Nat) x,o[i]?=aA x->X.N[i]?=aA x/\PN X.env.scope x)(Q:xs.length+1=o.length)(cl:UD K p):∀(r:List MA) (j:Nat) (c:List fA),rK o j r=aA c->1<=j ->
  ∃t,uC X r t/\∀(D:Ends) (B:L2.St) (H:Hp) (fs:List (fA×V)),(∀(i:Nat) v,(V.ref a::xs)[i]?=aA v->B[i]?=aA (aA v))->H a=aA (.ins p M fs)->(∀f∈c,UH K p f)->(fs.map (·.1)++c).Nodup->fs.length+c.length<1000 ->
   D.nx B (GA H a (.ins p M (fs++c.zip (xs.drop (j-1)))))->t D B H
 |[],j,c,h,R=>by
  unfold rK at h;split at h
  .rename_i U;cases h;refine#[Y4,kf,λD B H fs _ w _ _ _ q=>?_];erw[List.zip_nil_left,RD] at q;rw[vSa w] at q;exact q
  .cases h
 |st::r,j,c,h,R=>by
  unfold rK at h;let(x,y,Y):=PH.mp h;let(Z,p2,p3,p4,rfl):=Co y;let(s,f,q):=x;replace h:=Y;dsimp only at h;split at h
  .rename_i hc;let(O,A,C,F):=hc
   cases q1:rK o (j+1) r with
   |none=>rw[q1] at h;cases h
   |some d =>
    rw[q1] at h;cases h;let(t,ht,k):=bb u l Q cl r (j+1) d q1 (by lia);erw[SF,YR] at C F;have v0:=sR (pos:=Z) (l 0 s O).1 (l 0 s O).2 C.1.1 C.1.2;have v1:=sR (pos:=p3) (l j q A).1 (l j q A).2 F.1.1 F.1.2;refine#[_,L3 (qKa v0 v1 rfl) ht,λD B H fs I w P QM m qq=>?_];have hj2:j<o.length:=(LD.mp A).1;obtain⟨b,rfl⟩:∃b,j=b+1:=#[j-1,by lia]
    have n:b<xs.length:=by lia
    have y:(V.ref a::xs)[b+1]?=aA xs[b]:=by simp[n]
    have J:f ∉ fs.map (·.1):=λz=>by
     have:=(UK.mp QM).2.2 f z f (by simp)
     exact this rfl
    refine#[_,I _ _ y,.ref a,I 0 _ rfl,a,p,M,fs,rfl,w,by rw[u];exact cl,by rw[u];exact P f (by simp),by simp at m;lia, ?_];rw[sf J];refine k D B _ _ I jC (λg hg=>P g (QD _ hg)) ?_ ?_ ?_
    .simpa using QM
    .simp at m ⊢;lia
    .rw[A5]
     have e:fs++(f::d).zip (xs.drop (b+1-1))=fs++[(f,xs[b])]++d.zip (xs.drop (b+1+1-1)):=by(rw[show b+1-1=b from rfl,show b+1+1-1=b+1 from rfl,XR n,sN,oI];rfl)
     rw[<- e];exact qq
  .cases h
def jy{K:kA}{mg:fA->Option jA}{st:MA}{f:iA}(F:tI K y b st f p)(S:sI N c (TB st))(r:rK c 1 (XD st)=aA d)(u:c.length=d.length+1)(QM:d.Nodup)(g:d.length<1000) :
  qE B w K mg base SD 1 f p c (qg K d):=by
 refine F.ok S (λC H Q E h=>?_) λj A outer s H C Q E U h=>?_
 .let(a,I,J,xs,rfl,m,_):=h;rw[KC,m,u]
 .let(a,I,J,xs,rfl,m,M,n,q):=h
  have l:∀(i:Nat) x,c[i]?=aA x->N[i]?=aA x/\PN (TB st) x:=λi x e=>by
   have O:x∈c:=xH e;refine#[?_, ?_]
   .have:=S.pre
    rw[<- this,List.getElem?_take] at e;split at e
    .exact e
    .cases e
   .rcases S.par x O with z | z
    .exact .inl z
    .exact .inr (.inl z)
  let(t,P,k):=bb (X:=(bD SD B w K mg base N b (TB st) f j A outer s H E).JO) (xs:=xs) (a:=a) rfl l (by lia) n.cl (XD st) 1 d r (uB _)
  .refine#[t,P,k _ _ H [] (λi v o=>?_) M n.no (↑QM) (↑g) ?_]
   .have R:i<(V.ref a::xs).length:=(LD.mp o).1;rw[K4 R,ND,o];rfl
   .simpa using q
structure RS(K:kA)(mg:fA->Option jA)(x:fA):Prop where
 ex:True
def RS.at{K:kA}(j:X.K=K)(e:RS K X.mg x):QS X K x:=#[trivial]
structure IP(K:kA)(T:Tab)(gl:fA->GV)(f:String)(fa:iA)(fd:JG)(ps:List fA):Prop where
 bd:aAt K fd ps []
 ex:∃(y qual:fA) (st:MA) (N:List fA) (fn:Fn),tI K y qual st fa fd/\sI N ps (TB st)/\N.Nodup/\T f=aA fn/\fn.body=cT #[N,(TB st).names,gl,bA] (XD st)/\N.length=fn.cA.length+fn.nl/\ps.length=fn.cA.length
structure Entry(K:kA)(mg:fA->Option jA)(T:Tab)(gl:fA->GV)(x:fA)(f:String)(fa:iA)(fd:JG)(ps:List fA):Prop where
 Dd:mg x=aA (.ref fa)
 kp:nG K (.ref fa)=bA
 b:IP K T gl f fa fd ps
structure CW(K:kA)(mg:fA->Option jA)(x:fA)(ns:List fA):Prop where
 ex:∃(Ca fa:iA) (fd:JG) (ps:List fA) (y qual:fA) (st:MA) (N:List fA),CB K cB x=aA (aA (.ref Ca))/\mg x=aA (.ref Ca)/\Mk K Ca fa/\HN K Ca ns /\
  tI K y qual st fa fd/\sI N ps (TB st)/\rK ps 1 (XD st)=aA ns/\ps.length=ns.length+1/\ns.Nodup/\ns.length<1000/\aAt K fd ps []
structure RW(K:kA)(T:Tab)(gl:fA->GV)(c m:fA)(f:String):Prop where
 ex:∃(Ca fa:iA) (fd:JG) (ps:List fA),CB K cB c=aA (aA (.ref Ca))/\Meth K Ca m fa/\IP K T gl f fa fd ps/\UD K Ca
structure V7(K:kA)(mg:fA->Option jA)(T:Tab)(gl:fA->GV)(x:fA)(f:String):Prop where
 ex:False
structure UJ(pr:Params)(K:kA)(mg:fA->Option jA)(T:Tab)(gl:fA->GV):Prop where
 c:∀x d,gl x=.c d->∃u v,mg x=aA u/\aAe v u/\∀G,nA K G d v
 blt:∀x,gl x=.blt->mg x=eA
 fn:∀x f,gl x=.fn f->∃fa fd ps,Entry K mg T gl x f fa fd ps
 cls:∀x ns,gl x=.cls ns->CW K mg x ns
 vE:∀m tb c f,gl (dot m)=.vE tb->tb.lookup c=aA f->RW K T gl c m f
 sub:∀x s n,gl (col x)=.sub s n->VS K mg x s n
 ID:∀x s n,gl (col x)=.ID s n->WS K mg x s n
 exc:∀x,gl x=.exc->ExcAt K mg x
 tJ:∀x,gl x=.tJ->RS K mg x
 JA:∀x cs,gl (cat x)=.JA cs->JP K mg x cs
 obj:∀x f,gl x=.obj f->V7 K mg T gl x f
 YH:(∀f cs,gl (FT f)=.YH cs->∀c∈cs,∀Ca,CB K cB c=aA (aA (.ref Ca))->UH K Ca f)/\∀x ks vs,gl x=.WT ks vs->SS pr mg K x ks vs
 fN:∀x s cs,gl vK≠.FF x s cs
def jV{b:Bool}{o:Option (Exc×Env)}{as a:List Sl}{v:RV}(h:(if b=bA then(match o with | some (x,U)=>(aA (Out.ex x,back as U):zA RV) | none=>eA) else eA)=some (.ok v,a)):False:=by
 split at h
 .split at h<;>cases h
 .cases h
abbrev qM(a:KD)(w:cD)(K:kA)(mg:fA->Option jA)(base:DB)(T:Tab)(g:fA->GV)(W d:Nat):Prop:=∀(f:String) (b:iA) (c:JG) (e:List fA),IP K T g f b c e->qE a w K mg base SD (2*d+2) b c e (SO K (T.cA f).length (run T W d f))/\qE a w K mg base (RH a w) (2*d+2) b c e (E4 K (T.cA f).length (run T W d f))
def WR(a:∀x v,(∀y s t,v≠.FF y s t)->u x=v->gl x=v)(g:UJ X.w.params X.K X.mg T gl)(H:qM X.prog X.w X.K X.mg X.base T gl W d)(Y:N.Nodup)(q:YB (2*d+3) X.A)(Z:X.N=N)(hn:X.env.scope.names=B)(hc:X.calm=bA)
  (tp:∃TF o L,X.stack=TF::o/\TF.frame=aA L/\X.env.frame=aA L) (lam:WG X X.K T.cA (run T W d) #[N,B,u,top]):NA X X.K T.cA (run T W d) #[N,B,u,top]:=by
 refine NA.of rfl Z hn Y hc q.hd q.units (λx d h=>g.c x d (a _ _ nofun h)) (λx h=>g.blt x (a _ _ nofun h)) (λr l p=>?_) (λr ns p=>?_) (λm U c l C F=>?_) (q.mono (by lia)) (λx s n h=>g.sub x s n (a _ _ nofun h)) (λx s n h=>g.ID x s n (a _ _ nofun h)) #[λf t h=>g.YH.1 f t (a _ _ nofun h),λx ks vs h=>g.YH.2 x ks vs (a _ _ nofun h)] #[λx h=>g.exc x (a _ _ nofun h),λx p=>(g.tJ x (a _ _ nofun p)).at rfl] (λx t h=>g.JA x t (a _ _ nofun h)) #[λr l p=>?_,λr l p=>?_,λm U c l C F=>?_] tp lam
 .let(e,i,j,k):=g.fn r l (a _ _ nofun p);exact#[e,i,j,2*d+2,(H l e i j k.b).1,q.mono (by lia),k.Dd,k.kp,k.b.bd]
 .let(I,e,i,j,y',J,st',N',C,F,M,O,h5,h6,h7,h8,h9,P,Q):=(g.cls r ns (a _ _ nofun p)).ex;exact#[I,e,i,j,C,F,M,O,jy h5 h6 h7 h8 h9 P,Q]
 .let(I,e,i,j,M,O,k,R):=(g.vE m U c l (a _ _ nofun C) F).ex;exact#[I,e,i,j,2*d+2,M,O,(H l e i j k).1,q.mono (by lia),k.bd,R]
 .let(e,i,j,k):=g.fn r l (a _ _ nofun p);exact#[e,i,j,2*d+2,(H l e i j k.b).2,q.mono (by lia),k.Dd,k.kp,k.b.bd]
 .exact#[trivial]
 .exact#[trivial]
def Qi{K:kA}{mg:fA->Option jA}{base:DB}{st:MA}{c:iA}{s:CA}{H:Hp}{E:XK}(g:UJ w.params K mg T gl)(f:qM e w K mg base T gl W d)(i:N.Nodup)(j:YB (2*d+3) (bD SD e w K mg base N a (TB st) c b A outer s H E).A) :
  NA { bD SD e w K mg base N a (TB st) c b A outer s H E with xe:=xe } K T.cA (run T W d) #[N,(TB st).names,gl,bA] :=
 WR (gl:=gl) (X:={ bD SD e w K mg base N a (TB st) c b A outer s H E with xe:=xe }) (λ_ _ _ h=>h) g f i j rfl rfl rfl #[_,_,_,rfl,rfl,rfl] (WG.fN g.fN)
def Yf{K:kA}{T:Tab}{W d:Nat}(Y:T f=aA fn)(Z:fn.body=I)(hN:N.length=fn.cA.length+fn.nl)(qA:HA K as (r.map aA) H G)(e:run T W (d+1) f as=some (.ok v,o))
  (k:∀x g l,DA K as (r.map aA) H G o g l->dC K g l (yA o (r.map aA)) (UC H) v x->Q x g):sF K T.cA (run T W d) W I { nx:=λ_ g=>Q .lA g,rt:=Q } (start N r) H:=by
 erw[run,Y] at e;split at e
 .rename_i t;rw[Z] at e;have m:N.length=as.length+fn.nl:=by rw[hN,t.1]
  have j:=qA.pad m
  cases q:JA T.cA (run T W d) W I (as++qB fn.nl .un) with
  |none=>rw[q] at e;exact(jV e).elim
  |some y =>
   let(J,A):=y;rw[q] at e;refine#[as++qB fn.nl .un,G,J,A,j.1,q, ?_]
   induction J using Fl.casesOn with
   |nx =>
    cases e;intro M g l a;let(u,p):=iT qA t.2 m a;exact k .lA g l u (by show nA K l .lA _;simp[nA])
   |rt v' =>
    cases e;intro O M g l a B;let(u,p):=iT qA t.2 m a;refine k O g l u ?_
    have key:∀c,¬yA A M c->(yA (as++qB fn.nl .un) (start N r) c\/H c=eA)->H c=eA:=λc n h=>by
     rcases h with h | h
     .have:=j.2 c h
      let(i,d1,p1,l1,w,C):=this;refine absurd ?_ n
      apply p c
      have P:=bF.mp t.2 _ (xH w);erw[AJ] at P;subst P
      have:=u.sJ i
      rw[w] at this
      cases q3:(back as A)[i]? with
      |none=>rw[q3] at this;exact this.elim
      |some s =>
       rw[q3] at this
       induction s using Sl.casesOn with
       |ow R p2 l2=>exact#[i,R,p2,l2,q3,C]
       |sh R=>exact absurd (show bA=dA from this) (by simp)
       |un=>exact this.elim
       |mv=>exact this.elim
     .exact h
    induction v using RV.casesOn with
    |sh U=>exact B
    |ow U =>
     let(c,rfl,F,oc,n,h):=B;exact#[c,rfl,F,oc,λz=>n (p c z),key c n h]
    |od U =>
     let(c,rfl,F,oc,n,h,ys,hy,hr):=B;exact#[c,rfl,F,oc,λz=>n (p c z),key c n h,ys,hy,λx hx=>let #[b,ws,w,C,h3,X,h5,h6]:=hr x hx;#[b,ws,w,C,h3,λz=>X (p b z),key b X h5,h6]]
   |bk=>exact(jV e).elim
   |ct=>exact(jV e).elim
   |ex O=>exact(jV e).elim
 .cases e
theorem xZ{t:KD}{w:cD}{K:kA}(W:Nat)(g:UJ w.params K mg T J):∀(d:Nat) (f:String) (n:iA) (u:JG) (x:List fA),
  IP K T J f n u x->qE t w K mg base SD (2*d+2) n u x (SO K (T.cA f).length (run T W d f))/\qE t w K mg base (RH t w) (2*d+2) n u x (E4 K (T.cA f).length (run T W d f))
 | 0,f,n,u,x,e=>#[#[λo H Q E h=>by let(_,b):=h;let(as,G,c):gD:=b;let(v,j,_,_,z,_):fC:=c;simp[run] at z,λA outer s H args us o Q E _ _ _ _ h=>by let(_,b):=h;let(as,G,c):gD:=b;let(v,j,_,_,z,_):fC:=c;simp[run] at z],
  #[λo H Q E h=>by let(_,b):=h;let(as,G,c):gD:=b;let(v,j,_,_,z,_):fC:=c;simp[run] at z,λA outer s H args us o Q E _ _ _ _ h=>by let(_,b):=h;let(as,G,c):gD:=b;let(v,j,_,_,z,_):fC:=c;simp[run] at z]]
 |d+1,f,n,u,x,e=>by
  let(y,l,st,b):BB:=e.ex
  let(N,fn,F,S,nd,c):fC:=b;let(M,hb,hN,B):oB:=c
  have m:T.cA f=fn.cA:=by unfold Tab.cA;rw[M]
  refine#[F.ok S (λo H Q E h=>by rw[h.1,m,B]) λr A outer s H o Q E O h=>?_, ?_]
  .let(hl,b):=h;let(as,G,c):gD:=b;let(v,j,qA,P,i,k):fC:=c
   let X:Cx:=(bD SD t w K mg base N l (TB st) n r A outer s H E).JO
   let Y:CC:=#[N,(TB st).names,J,bA]
   have R:NA X K T.cA (run T W d) Y:=Qi (E:=E) g (xZ W g d) nd O;refine#[_,LX (W:=W) (X:=X) (Y:=Y) PassesOwn.never R (λ_ _=>.inl rfl) (λ_=>#[rfl,rfl]) (XD st), ?_];exact Yf M hb hN qA i k
  .let(oc,od,kV,doc,pm,an,r,ct,CK,rfl,lk,U):=F.ex;refine kZ lk U S (λo H Q E h=>by rw[h.1,m,B]) λA outer s H o Q E O h=>?_
   let(hl,b):=h;let(as,G,c):gD:=b;let(x0,j,qA,P,i,k):fC:=c
   let X:Cx:=bD (RH t w) t w K mg base N l (TB st) n r A outer s H E
   let Y:CC:=#[N,(TB st).names,J,bA]
   have R:NA X K T.cA (run T W d) Y:=Qi (E:=E) g (xZ W g d) nd O;refine#[_,sq (W:=W) (X:=X) (Y:=Y) L6 R (λ_ _=>.inl rfl) (λ_=>#[rfl,rfl]) (XD st), ?_];erw[run,M] at i;split at i
   .rename_i hc;rw[hb] at i;have C:N.length=as.length+fn.nl:=by rw[hN,hc.1]
    have I:=qA.pad C;split at i
    .cases i
    .cases i
    .split at i
     .split at i
      .rename_i x1 U' q;cases i;refine#[as++qB fn.nl .un,G,x0,U',I.1,q,λZ B' H' G' s' a Ca p YW I' F' pO hg JZ=>?_];let(b1,b2):=iT qA hc.2 C YW;exact Dr I' F' (k H' G' Ca p b1 pO hg JZ)
      .cases i
     .cases i
   .cases i
def YC(st:MA):List fA:=(XH st).args.map (·.arg)
def IH(st:MA):List fA:=YC st++(((TB st).names.filter λy=>(y.2==.local||y.2==.cell) && !(YC st).contains y.1).map (·.1))
def SX(a:fA->GV)(st:MA):List S:=cT #[IH st,(TB st).names,a,bA] (XD st)
structure QW(K:kA)(x m qual:fA)(st:MA):Prop where
 ex:∃(Ca f:iA) (oc:jA) (od an:Option iA) (kV doc pm WH ct:jA) (CK:Array (Option jA)),CB K cB x=aA (aA (.ref Ca))/\wF K (.ref Ca) m=aA (aA (.ref f))/\zS K (.ref f)=bA /\
  K.lookup f=aA #[oc,od,.func (PF m qual (XH st) (XD st) (TB st) .none kV doc pm an WH ct),CK]/\WK K WH qual=bA/\nG K (.ref f)=bA
def aG{K:kA}{st:MA}{kV g pm e ct:jA}(a:CB K cB x=aA (aA (.ref j)))(b:wF K (.ref j) m=aA (aA (.ref f)))(i:zS K (.ref f)=bA)
  (l:K.lookup f=aA #[oc,od,.func (PF m d (XH st) (XD st) (TB st) .none kV g pm n e ct),h]) (c:WK K e d=bA) (k:nG K (.ref f)=bA):QW K x m d st :=
 #[j,f,oc,od,n,kV,g,pm,e,ct,h,a,b,i,l,c,k]
structure ClsAt(K:kA)(x:fA):Prop where
 ex:∃Ca:iA,CB K cB x=aA (aA (.ref Ca))/\UD K Ca/\eW K Ca=bA/\nG K (.ref Ca)=bA
def DM{K:kA}(a:CB K cB x=aA (aA (.ref b)))(c:oP K b Str.empty=bA)(hd:iS K b=bA)(po:E6 K b=bA)
  (d:wF K (.ref b) "__setattr__"=aA (aA (.builtin "object.__setattr__"))) (mk:eW K b=bA) (e:nG K (.ref b)=bA):ClsAt K x:=#[b,a,#[c,hd,po,d],mk,e]
def T7(K:kA)(x f:fA):Prop:=∃a:iA,CB K cB x=aA (aA (.ref a))/\wF K (.ref a) f=aA eA
def dN{K:kA}(a:CB K cB x=aA (aA (.ref c)))(b:wF K (.ref c) f=aA eA):T7 K x f:=#[c,a,b]
structure oM(K:kA)(x:fA)(st:MA):Prop where
 ex:∃(f:iA) (oc:jA) (od an:Option iA) (kV doc pm WH ct:jA) (CK:Array (Option jA)),CB K cB x=aA (aA (.ref f)) /\
  K.lookup f=aA #[oc,od,.func (PF x x (XH st) (XD st) (TB st) .none kV doc pm an WH ct),CK]/\WK K WH x=bA/\nG K (.ref f)=bA
def UX{K:kA}{st:MA}{kV d pm b ct:jA}(a:CB K cB x=aA (aA (.ref f)))
  (l:K.lookup f=aA #[oc,od,.func (PF x x (XH st) (XD st) (TB st) .none kV d pm g b ct),e]) (c:WK K b x=bA) (k:nG K (.ref f)=bA):oM K x st :=
 #[f,oc,od,g,kV,d,pm,b,ct,e,a,l,c,k]
structure AH(gl:fA->GV)(st:MA)(x qual:fA)(fn:Fn):Prop where
 sc:sI (IH st) (YC st) (TB st)
 body:fn.body=SX gl st
 len:(IH st).length=fn.cA.length+fn.nl
 pl:(YC st).length=fn.cA.length
 bind:∀(kV doc pm:jA) (an:Option iA) (WH ct:jA) (us:List jA),us.length=(YC st).length->bindArgs (PF x qual (XH st) (XD st) (TB st) .none kV doc pm an WH ct) #[us,[]]=pure ((YC st).zip us)
abbrev gL(a:fA->GV)(st:MA)(x:fA)(fn:Fn):Prop:=AH a st x x fn
def A9{K:kA}{st:MA}(F:tI K x a st b c)(O:AH d st x a fn)(e:T f=aA fn):IP K T d f b c (YC st) :=
 #[F.binds O.bind,x,a,st,IH st,fn,F,O.sc,O.sc.nd,e,O.body,O.len,O.pl]
def zK{K:kA}{st:MA}(A:ClsAt K x)(D:QW K x m e st)(O:AH o st m e fn)(p:T f=aA fn):RW K T o x m f:=by
 let(q,d):=D.ex;let(r,oc,od,g):BB:=d;let(v,kV,s,h):BB:=g;let(pm,t,ct,u,a,b,j):VA:=h;let(i,l,c,k):oB:=j
 let(w,d):=A.ex;let(n,cl,_,_):oB:=d
 rw[a] at n;cases n;exact#[q,r,_,YC st,a,#[b,i,k],A9 (yQ l c k) O p,cl]
structure VJ(st:MA)(qual:fA)(ns:List fA):Prop where
 sc:sI (IH st) (YC st) (TB st)
 body:rK (YC st) 1 (XD st)=aA ns
 pl:(YC st).length=ns.length+1
 nd:ns.Nodup
 lt:ns.length<1000
 bind:∀(kV doc pm:jA) (an:Option iA) (WH ct:jA) (us:List jA),us.length=(YC st).length->bindArgs (PF "__init__" qual (XH st) (XD st) (TB st) .none kV doc pm an WH ct) #[us,[]]=pure ((YC st).zip us)
def EM{K:kA}{st:MA}(X:K.In h)(G:h.Ns cB mg)(A:ClsAt K x)(D:QW K x "__init__" e st)(O:VJ st e n)(N:∀f∈n,T7 K x f):CW K mg x n:=by
 let(q,d):=A.ex;let(a,cl,mk,r):oB:=d
 let(z,d):=D.ex;let(s,oc,od,g):BB:=d;let(B,kV,t,j):BB:=g;let(pm,u,ct,v,o,b,m):VA:=j;let(i,l,c,k):oB:=m
 rw[a] at o;cases o;have F:=yQ l c k;refine#[q,s,_,YC st,"__init__",e,st,IH st,a,YK X G a,#[mk,b,i,r],#[cl,λf w=>?_],F,O.sc,O.body,O.pl,O.nd,O.lt,F.binds O.bind];let(C,p,y):rA:=N f w
 rw[a] at p;cases p;exact y
def Us{K:kA}{st:MA}(X:K.In h)(G:h.Ns cB mg)(D:oM K x st)(O:gL i st x fn)(j:T f=aA fn):∃g m n,Entry K mg T i x f g m n:=by
 let(g,oc,b):gD:=D.ex
 let(od,r,kV,d):BB:=b;let(o,pm,p,e):BB:=d;let(ct,q,a,l,c,k):fC:=e
 have F:=yQ l c k;exact#[g,_,YC st,YK X G a,k,A9 F O j]
noncomputable def eD(L:List (fA×GV))(x:fA):GV:=(L.lookup x).getD .no
theorem aAr[BEq Z][LawfulBEq Z]:∀{L:List (Z×J)} {x:Z} {v:J},L.lookup x=aA v->(x,v)∈L
 |[],_,_,h=>by simp at h
 | (y,w)::L,x,v,h=>by
  rw[QG] at h;split at h
  .rename_i a;cases h;rw[EC a];exact OF
  .exact QD _ (aAr h)
def gH(h:eD L x=v)(n:v≠.no):(x,v)∈L:=by
 unfold eD at h
 cases q:L.lookup x with
 |none=>rw[q] at h;exact absurd h.symm n
 |some w =>
  rw[q] at h;cases h;exact aAr q
def TH(g:Params)(K:kA)(mg:fA->Option jA)(T:Tab)(a:fA->GV):fA×GV->Prop
 | (x,.cls h)=>CW K mg x h
 | (x,.vE i)=>∃m,x=dot m/\∀p∈i,RW K T a p.1 m p.2
 | (x,.c d)=>∃u v,mg x=aA u/\aAe v u/\∀G,nA K G d v
 | (x,.blt)=>mg x=eA
 | (x,.fn f)=>∃j k l,Entry K mg T a x f j k l
 | (x,.sub s n)=>∃m,x=col m/\VS K mg m s n
 | (x,.ID s n)=>∃m,x=col m/\WS K mg m s n
 | (x,.exc)=>ExcAt K mg x
 | (x,.tJ)=>RS K mg x
 | (x,.JA b)=>∃m,x=cat m/\JP K mg m b
 | (x,.obj f)=>V7 K mg T a x f
 | (x,.WT o q)=>SS g mg K x o q
 | (x,.YH b)=>∃m,x=FT m/\∀c∈b,∀e,CB K cB c=aA (aA (.ref e))->UH K e m
 | (_,.no)=>True
 | (_,.FF _ _ _)=>False
def E3{x y:fA}(h:(#[p++x.cps]:fA)=#[p++y.cps]):x=y:=by
 have a:=congrArg xS (congrArg Str.cps h);erw[fP] at a;have b:=cW.mp (Y5 a);cases x;cases y;simp only at b;rw[b]
def Aw{K:kA}(h:∀p∈L,TH l K mg T (eD L) p):UJ l K mg T (eD L) :=
 #[λx d e=>h _ (gH e nofun),λx e=>h _ (gH e nofun),λx f e=>h _ (gH e nofun),λx r e=>h _ (gH e nofun),λm t c f e o=>by
  let(a,b,k):rA:=h _ (gH e nofun)
  have:a=m:=by
   unfold dot at b;have q:([46].toArray++m.cps:Array Nat)=[46].toArray++a.cps:=congrArg Str.cps b
   have g:m.cps=a.cps:=by(have i:=congrArg xS q;rw[fP,fP] at i;exact cW.mp (Y5 i))
   cases m;cases a;simp only at g;rw[g]
  subst this;exact k _ (aAr o),λx s n e=>by
  let(a,b,k):rA:=h _ (gH e nofun)
  have:a=x:=by
   unfold col at b
   have g:x.cps=a.cps:=by(have i:=congrArg xS (congrArg Str.cps b);erw[fP] at i;exact cW.mp (Y5 i))
   cases x;cases a;simp only at g;rw[g]
  subst this;exact k,λx s n e=>by
  let(a,b,k):rA:=h _ (gH e nofun)
  rw[E3 b];exact k,λx e=>h _ (gH e nofun),λx e=>h _ (gH e nofun),λx j e=>by
  let(a,b,k):rA:=h _ (gH e nofun)
  rw[E3 b]
  exact k,λx f e=>h _ (gH e nofun),#[λf j e=>by
  let(a,b,k):rA:=h _ (gH e nofun)
  rw[E3 b]
  exact k,λx u v e=>h _ (gH e nofun)]
  ,λx s j e=>h _ (gH e nofun)]
def f9{K:kA}(X:K.In h)(G:h.Ns cB mg)(a:CB K cB x=aA (aA (.int i t))):TH b K mg T c (x,.c (.int i)) :=
 #[_,.int i,YK X G a,#[t,rfl],λG=>by simp[nA]]
def Kp{K:kA}(X:K.In h)(G:h.Ns cB mg)(a:CB K cB x=aA eA):TH b K mg T c (x,.blt):=PySem.W.mg_none_of X G a
structure Q7(K:kA)(c x:fA):Prop where
 ex:∃Ca C:iA,CB K cB c=aA (aA (.ref Ca))/\CB K cB x=aA (aA (.ref C))/\BN K Ca C=bA
structure P7(K:kA)(c x:fA):Prop where
 ex:∃Ca C:iA,CB K cB c=aA (aA (.ref Ca))/\CB K cB x=aA (aA (.ref C))/\GS K (.ref Ca) C=bA
structure R7(K:kA)(x:fA):Prop where
 ex:∃C:iA,CB K cB x=aA (aA (.ref C))
def Q_{K:kA}(a:CB K cB c=aA (aA (.ref d)))(b:CB K cB x=aA (aA (.ref C)))(k:BN K d C=bA):Q7 K c x:=#[d,C,a,b,k]
def P_{K:kA}(a:CB K cB c=aA (aA (.ref d)))(b:CB K cB x=aA (aA (.ref C)))(k:GS K (.ref d) C=bA):P7 K c x:=#[d,C,a,b,k]
def R_{K:kA}(a:CB K cB x=aA (aA (.ref C))):R7 K x:=#[C,a]
structure JN(K:kA)(x:fA):Prop where
 ex:∃C:iA,CB K cB x=aA (aA (.ref C))/\EE K C/\TJ K C eA
def Su{K:kA}(a:CB K cB x=aA (aA (.ref C)))(q:g7 K C DX "ValueError.__new__"=bA)(b:wF K (.ref C) "__getattribute__"=aA (aA (.builtin "BaseException.__getattribute__")))(no:wF K (.ref C) "__getattr__"=aA eA)
  (cl:wF K (.ref C) "__class__"=aA (aA (.builtin "object.__class__"))) (gt:Nk K (.builtin "object.__class__") "__get__"=aA (aA (.builtin "getset_descriptor.__get__"))) (c:xl K (.builtin "object.__class__")=aA bA)
  (d:XI K C (.type "object")=aA bA) (e:XI K C (.type "BaseException")=aA bA) (mv:XI K C (.type "ValueError")=aA bA):JN K x:=#[C,a,#[#[_,M9 q],b,no,cl,gt,c,d,e,mv],M9 q]
structure S7(K:kA)(c x:fA):Prop where
 ex:∃C D:iA,CB K cB c=aA (aA (.ref C))/\CB K cB x=aA (aA (.ref D))/\XI K C (.ref D)=aA bA
def lBa{K:kA}{C D:iA}(a:CB K cB c=aA (aA (.ref C)))(b:CB K cB x=aA (aA (.ref D)))(m:XI K C (.ref D)=aA bA):S7 K c x:=#[C,D,a,b,m]
def N9{K:kA}(X:K.In h)(G:h.Ns cB mg)(A:JN K x):TH b K mg T c (x,.exc):=by
 let(C,a,g,p):KA:=A.ex
 exact#[C,a,YK X G a,g,p]
def gv{K:kA}(X:K.In h)(G:h.Ns cB mg)(A:JN K x)(M:∀c∈f,S7 K c x):TH j K mg T l (cat x,.JA f):=by
 let(D,a,g,_):KA:=A.ex
 refine#[x,rfl,D,YK X G a,g.q,λc i C e=>?_];let(m,n,b,d,k):pB:=(M c i).ex
 rw[e] at b;cases b;rw[a] at d;cases d;exact k
def nQa{K:kA}(X:K.In h)(G:h.Ns cB mg)(A:R7 K x)(S:∀c∈s,P7 K c x)(N:∀c∈n,Q7 K c x):TH l K mg T m (col x,.ID s n):=by
 let(C,a):=A.ex;refine#[x,rfl,C,YK X G a,λc f g e=>?_,λc f g e=>?_]
 .let(i,j,b,d,k):pB:=(S c f).ex
  rw[e] at b;cases b;rw[a] at d;cases d;exact k
 .let(i,j,b,d,k):pB:=(N c f).ex
  rw[e] at b;cases b;rw[a] at d;cases d;exact k
end CI
namespace CI
set_option tactic.hygienic true
open PySem (Operator CmpOp)
noncomputable section
variable{U U1 U2:Env}
theorem Bw:zI (aA U)=aA (.nx,U):=rfl
noncomputable def bR(f:Z->Env->zA J)(r:zA Z):zA J:=r.bind f
theorem Po:r.bind f=bR f r:=rfl
theorem Ro:bR f (some (.ok a,U))=f a U:=rfl
theorem Qo:bR f (some (.ex x,U))=some (.ex x,U):=rfl
noncomputable def fR(f:Z->Env->Run)(r:zA Z):Run:=r.mC f
theorem jv:r.mC f=fR f r:=rfl
theorem nv:fR f (some (.ok a,U))=f a U:=rfl
theorem kv:fR f (some (.ex x,U))=some (.ex x,U):=rfl
noncomputable def nR(f:Env->Run)(r:Run):Run:=r.next f
theorem nR_:r.next f=nR f r:=rfl
theorem aCa:nR f (aA (.nx,U))=f U:=rfl
theorem bCa:nR f (aA (.rt v,U))=aA (.rt v,U):=rfl
theorem yBa:nR f (some (.ex x,U))=some (.ex x,U):=rfl
theorem zBa:nR f eA=eA:=rfl
noncomputable def dR(U:Env)(o:Option RV):zA RV:=done o U
theorem Er:done o U=dR U o:=rfl
theorem Gr:dR U (aA v)=some (.ok v,U):=rfl
theorem Kr:(RV.sh d).d=d:=rfl
theorem Jr:(RV.ow d).d=d:=rfl
theorem aw:(Sl.sh d).get=aA d:=rfl
theorem Zv:(Sl.ow d p l).get=aA d:=rfl
theorem jx:(Hd.val v).get U=aA v.d:=rfl
theorem fx:(Hd.slot i).get U=(U[i]?).bind Sl.get:=rfl
noncomputable def C1(U:Env)(o:Option Bool):zA RV:=o.map λb=>(.ok (.sh (.bl b)),U)
theorem B_:C1 U (aA b)=some (.ok (.sh (.bl b)),U):=rfl
theorem mTa:aAh dA r=r:=rfl
theorem nTa:aAh bA (some (.ok v,U))=C1 U (OI v.d):=rfl
noncomputable def GU(i:Nat)(U:Env):Option Sl->zA RV
 |some (.sh d)=>some (.ok (.sh d),U)
 |some (.ow d dA dA)=>some (.ok (.sh d),U.set i (.sh d))
 |_=>eA
theorem Nz:GU i U (aA (.sh d))=some (.ok (.sh d),U):=rfl
theorem Mz:GU i U (aA (.ow d dA dA))=some (.ok (.sh d),U.set i (.sh d)):=rfl
def Ec(U:Env)(o:Option D):zA RV:=aAh bA (o.map λd=>(.ok (.sh d),U))
theorem o_:Ec U (aA d)=C1 U (OI d):=rfl
theorem uu:ev P C dA (.v i) U=GU i U U[i]?:=rfl
theorem vu:ev P C bA (.v i) U=Ec U ((U[i]?).bind Sl.get):=rfl
theorem Yt:ev P C t (.c d) U=aAh t (some (.ok (.sh d),U)):=rfl
noncomputable def YQ(b:Bool)(v:RV)(U:Env):zA RV:=if b then some (.ok v,U) else eA
theorem A_:YQ bA v U=some (.ok v,U):=rfl
def YE(h:n<=1000000):fB n=bA:=@zB _ (cl _) h
theorem kPa:fB 0=bA:=YE (by decide)
theorem lPa:fB 1=bA:=YE (by decide)
theorem mPa:fB 2=bA:=YE (by decide)
theorem nPa:fB 3=bA:=YE (by decide)
theorem oPa:fB 4=bA:=YE (by decide)
theorem pPa:fB 5=bA:=YE (by decide)
theorem qPa:fB 8=bA:=YE (by decide)
def Rc(a:List D)(U:Env):zA RV:=YQ (fB a.length) (.sh (.t a)) U
def vc(a:List D)(U:Env):zA RV:=YQ (fB a.length) (.ow (.l a)) U
theorem tu:ev P C t (.t a) U=aAh t ((VE P C a U).bind Rc):=rfl
theorem gu:ev P C t (.l a) U=aAh t ((VE P C a U).bind vc):=rfl
theorem xu:VE P C [] U=some (.ok [],U):=rfl
noncomputable def Vb(v:RV)(a:List D)(U:Env):zA (List D):=some (.ok (v.d::a),U)
def Tb(P:bB)(C:Calls)(a:List E)(v:RV)(U:Env):zA (List D):=(VE P C a U).bind (Vb v)
theorem wu:VE P C (e::a) U=(ev P C dA e U).bind (Tb P C a):=rfl
theorem Ht:vC P C [] U=some (.ok [],U):=rfl
noncomputable def ic(v:Hd)(a:List Hd)(U:Env):zA (List Hd):=some (.ok (v::a),U)
def dc(P:bB)(C:Calls)(a:List E)(v:Hd)(U:Env):zA (List Hd):=(vC P C a U).bind (ic v)
def wC(P:bB)(C:Calls)(e:E)(U:Env):zA Hd:=hd e (ev P C dA e U) U
noncomputable def nF(v:RV)(U:Env):zA Hd:=some (.ok (.val v.low),U)
theorem E_:nF (.sh d) U=some (.ok (.val (.sh d)),U):=rfl
theorem D_:nF (.ow d) U=some (.ok (.val (.ow d)),U):=rfl
def Nc(i:Nat)(U:Env)(b:Bool):zA Hd:=if b then some (.ok (.slot i),U) else eA
theorem z_:Nc i U bA=some (.ok (.slot i),U):=rfl
theorem fHa:wC P C (.v i) U=Nc i U ((U[i]?).bind Sl.get).isSome:=rfl
theorem vGa:wC P C (.c d) U=some (.ok (.val (.sh d)),U):=rfl
theorem eHa:wC P C (.t a) U=(ev P C dA (.t a) U).bind nF:=rfl
theorem aHa:wC P C (.l a) U=(ev P C dA (.l a) U).bind nF:=rfl
theorem qGa:wC P C (.wA op a b) U=(ev P C dA (.wA op a b) U).bind nF:=rfl
theorem sGa:wC P C (.BA op a b) U=(ev P C dA (.BA op a b) U).bind nF:=rfl
theorem tGa:wC P C (.CF op d a b c) U=(ev P C dA (.CF op d a b c) U).bind nF:=rfl
theorem oGa:wC P C (.and a b) U=(ev P C dA (.and a b) U).bind nF:=rfl
theorem zGa:wC P C (.ix a b) U=(ev P C dA (.ix a b) U).bind nF:=rfl
theorem dHa:wC P C (.sl a b c) U=(ev P C dA (.sl a b c) U).bind nF:=rfl
theorem rGa:wC P C (.call f a) U=(ev P C dA (.call f a) U).bind nF:=rfl
theorem pGa:wC P C (.bif f a) U=(ev P C dA (.bif f a) U).bind nF:=rfl
theorem yGa:wC P C (.GI a b) U=(ev P C dA (.GI a b) U).bind nF:=rfl
theorem uGa{a cond:List E}:wC P C (.comp b c k a cond imp nl) U=(ev P C dA (.comp b c k a cond imp nl) U).bind nF:=rfl
theorem Ft:vC P C (e::a) U=(wC P C e U).bind (dc P C a):=rfl
def aH(op:NJ)(x:Hd)(a b:Option D):Option RV:=a.bind λd=>b.bind λe=>if DO op x d then kC op d e else eA
def Mb(op:NJ)(x y:Hd)(U:Env):zA RV:=done (aH op x (x.get U) (y.get U)) U
def Lb(P:bB)(C:Calls)(op:NJ)(b:E)(x:Hd)(U:Env):zA RV:=(wC P C b U).bind (Mb op x)
theorem Rt:ev P C t (.wA op a b) U=aAh t ((wC P C a U).bind (Lb P C op b)):=rfl
theorem Ip:aH op x (aA (.t a)) (aA e)=kC op (.t a) e:=by
 unfold aH DO;cases op<;>rfl
theorem Fp:aH .Add x (aA (.l a)) (aA e)=kC .Add (.l a) e:=rfl
theorem Gp:aH .Mult (.val (.ow d)) (aA (.l a)) (aA e)=kC .Mult (.l a) e:=rfl
theorem Np:aH .Add x (aA (.int i)) (aA (.int j))=aA (.sh (.int (i+j))):=rfl
theorem Xp:aH .Sub x (aA (.int i)) (aA (.int j))=aA (.sh (.int (i-j))):=rfl
theorem Up:aH .Mult x (aA (.int i)) (aA e)=kC .Mult (.int i) e:=rfl
theorem Qp:aH .FloorDiv x (aA (.int i)) (aA e)=kC .FloorDiv (.int i) e:=rfl
theorem Tp:aH .Mod x (aA (.int i)) (aA e)=kC .Mod (.int i) e:=rfl
theorem Rp:aH .LShift x (aA (.int i)) (aA e)=kC .LShift (.int i) e:=rfl
theorem Vp:aH .RShift x (aA (.int i)) (aA e)=kC .RShift (.int i) e:=rfl
theorem Pp:aH .BitAnd x (aA (.int i)) (aA e)=kC .BitAnd (.int i) e:=rfl
def m8(h:(-(2 ^ 64)<i/\i<2 ^ 64)\/(-(2 ^ 64)<j/\j<2 ^ 64)):kC .Mult (.int i) (.int j)=aA (.sh (.int (i*j))):=RA h
theorem Wo(a:-18446744073709551616<j)(b:j<18446744073709551616):kC .Mult (.int i) (.int j)=aA (.sh (.int (i*j))):=m8 (.inr #[a,b])
theorem Vo(a:-18446744073709551616<i)(b:i<18446744073709551616):kC .Mult (.int i) (.int j)=aA (.sh (.int (i*j))):=m8 (.inl #[a,b])
theorem To(h:0<j/\j<100000000000000000000000000000000000000000000000000000000000000000000000000000000):kC .FloorDiv (.int i) (.int j)=aA (.sh (.int (i / j))):=RA h
theorem Uo(h:0<j):kC .Mod (.int i) (.int j)=aA (.sh (.int (i % j))):=RA h
theorem Xo(h:0<=j)(a:j<=1000):kC .LShift (.int 1) (.int j)=aA (.sh (.int (2 ^ j.toNat))):=by
 show @ite _ _ (cl _) _ _=_;rw[RA #[h,a,by decide],Int.one_mul]
theorem Yo(h:0<=j):kC .RShift (.int i) (.int j)=aA (.sh (.int (i / 2 ^ j.toNat))):=RA h
theorem So:kC .BitAnd (.int i) (.int j)=aA (.sh (.int (jS i j))):=rfl
theorem zM(h:fB (a.length+b.length)=bA):kC .Add (.l a) (.l b)=aA (.ow (.l (a++b))):=RA h
def fQ(b:-(2 ^ 31)<=k)(c:k<=1000)(d:fB (a.length*k.toNat)=bA):kC .Mult (.l a) (.int k)=aA (.ow (.l (qB k.toNat a).flatten)):=RA #[b,c,d]
theorem l8(h:fB (a.length+1+b.length)=bA):kC .Add (.t (x::a)) (.t b)=aA (.sh (.t (x::a++b))):=RA h
noncomputable def xc(v:RV)(U:Env):zA RV:=match v.d with
 |.int i=>some (.ok (.sh (.int (-i))),U)
 |_=>eA
theorem j_:xc (.sh (.int i)) U=some (.ok (.sh (.int (-i))),U):=rfl
theorem ku:ev P C t (.neg a) U=aAh t ((ev P C dA a U).bind xc):=rfl
noncomputable def Ac(v:RV)(U:Env):zA RV:=match v with
 |.sh (.bl b)=>some (.ok (.sh (.bl (!b))),U)
 |_=>eA
theorem k_:Ac (.sh (.bl b)) U=some (.ok (.sh (.bl (!b))),U):=rfl
theorem mu:ev P C bA (.not a) U=(ev P C bA a U).bind Ac:=rfl
def Od(o:Option D):Option RV:=o.bind λd=>(OI d).map λb=>.sh (.bl (!b))
def yc(x:Hd)(U:Env):zA RV:=done (Od (x.get U)) U
theorem lDa:Od (aA (.bl b))=aA (.sh (.bl (!b))):=rfl
theorem lu:ev P C dA (.not a) U=(wC P C a U).bind yc:=rfl
def NX(op:LG)(a b:Option D):Option RV:=a.bind λd=>b.bind λe=>(PB op d e).map λb=>.sh (.bl b)
theorem qr:NX op (aA d) (aA e)=(PB op d e).map λb=>.sh (.bl b):=rfl
def Z8(op:LG)(a b:Option D):Option Bool:=a.bind λd=>b.bind λe=>PB op d e
theorem nr:Z8 op (aA d) (aA e)=PB op d e:=rfl
def Sb(op:LG)(x y:Hd)(U:Env):zA RV:=done (NX op (x.get U) (y.get U)) U
def Rb(P:bB)(C:Calls)(op:LG)(b:E)(x:Hd)(U:Env):zA RV:=(wC P C b U).bind (Sb op x)
theorem Vt:ev P C t (.BA op a b) U=(wC P C a U).bind (Rb P C op b):=rfl
def FU(op:LG)(y z:Hd)(U:Env):zA RV:=done (NX op (y.get U) (z.get U)) U
def EU(P:bB)(C:Calls)(a:LG)(y:Hd)(c:E)(U:Env):Option Bool->zA RV
 |none=>eA
 |some dA=>some (.ok (.sh (.bl dA)),U)
 |some bA=>(wC P C c U).bind (FU a y)
theorem Dz:EU P C a y c U (aA dA)=some (.ok (.sh (.bl dA)),U):=rfl
theorem Ez:EU P C a y c U (aA bA)=(wC P C c U).bind (FU a y):=rfl
theorem Cz:EU P C a y c U (aA b)=if b=bA then(wC P C c U).bind (FU a y) else some (.ok (.sh (.bl dA)),U):=by cases b<;>rfl
def Ob(P:bB)(C:Calls)(op a:LG)(c:E)(x y:Hd)(U:Env):zA RV:=EU P C a y c U (Z8 op (x.get U) (y.get U))
def Nb(P:bB)(C:Calls)(op a:LG)(b c:E)(x:Hd)(U:Env):zA RV:=(wC P C b U).bind (Ob P C op a c x)
theorem Wt:ev P C t (.CF op d a b c) U=(wC P C a U).bind (Nb P C op d b c):=rfl
theorem Dq:PB .Lt (.int i) (.int j)=aA (decide (i<j)):=rfl
theorem Cq:PB .LtE (.int i) (.int j)=aA (decide (i<=j)):=rfl
theorem zq:PB .Gt (.int i) (.int j)=aA (decide (j<i)):=rfl
theorem yq:PB .GtE (.int i) (.int j)=aA (decide (j<=i)):=rfl
theorem vq:PB .Eq (.int i) (.int j)=aA (decide (i=j)):=rfl
theorem Hq:PB .NotEq (.int i) (.int j)=aA (!decide (i=j)):=rfl
def Fq(a:eC 20 d=bA)(b:eC 20 e=bA):PB .NotEq d e=aA (!uG d e):=by
 show(if(eC 20 d&&eC 20 e)=bA then aA (!uG d e) else eA)=_;rw[a,b];rfl
theorem wq:PB .Eq (.str a) (.str b)=aA (a==b):=rfl
theorem Iq:PB .NotEq (.str a) (.str b)=aA (!(a==b)):=rfl
theorem Bq:PB .Is .lA .lA=aA bA:=rfl
theorem Aq:PB .Is (.int i) .lA=aA dA:=rfl
theorem Kq:PB .IsNot .lA .lA=aA dA:=rfl
theorem Jq:PB .IsNot (.int i) .lA=aA bA:=rfl
theorem qRa:OI (.bl b)=aA b:=rfl
def I0(P:bB)(C:Calls)(t:Bool)(b:E)(v:RV)(U:Env):zA RV:=match v with
 |.sh (.bl bA)=>ev P C t b U
 |.sh (.bl dA)=>some (.ok (.sh (.bl dA)),U)
 |_=>eA
def Z0(P:bB)(C:Calls)(t:Bool)(b:E)(v:RV)(U:Env):zA RV:=match v with
 |.sh (.bl bA)=>some (.ok (.sh (.bl bA)),U)
 |.sh (.bl dA)=>ev P C t b U
 |_=>eA
def qc(P:bB)(C:Calls)(t:Bool)(a b:E)(v:RV)(U:Env):zA RV:=match v with
 |.sh (.bl bA)=>ev P C t a U
 |.sh (.bl dA)=>ev P C t b U
 |_=>eA
theorem Nt:ev P C t (.and a b) U=(ev P C t a U).bind (I0 P C t b):=rfl
theorem ou:ev P C t (.or a b) U=(ev P C t a U).bind (Z0 P C t b):=rfl
theorem yz:I0 P C t b (.sh (.bl bA)) U=ev P C t b U:=rfl
theorem wz:I0 P C t b (.sh (.bl dA)) U=some (.ok (.sh (.bl dA)),U):=rfl
theorem m_:Z0 P C t b (.sh (.bl bA)) U=some (.ok (.sh (.bl bA)),U):=rfl
theorem l_:Z0 P C t b (.sh (.bl dA)) U=ev P C t b U:=rfl
theorem Zz:qc P C t a b (.sh (.bl bA)) U=ev P C t a U:=rfl
theorem Yz:qc P C t a b (.sh (.bl dA)) U=ev P C t b U:=rfl
def GD(a:Option D)(k:D):Option RV:=a.bind λd=>(OQ d k).map .sh
def uc(x:Hd)(k:RV)(U:Env):zA RV:=done (GD (x.get U) k.d) U
def tc(P:bB)(C:Calls)(i:E)(x:Hd)(U:Env):zA RV:=(ev P C dA i U).bind (uc x)
theorem fu:ev P C t (.ix a i) U=aAh t ((wC P C a U).bind (tc P C i)):=rfl
theorem dz:GD (aA (.t a)) (.int i)=(L2.sC a i).map RV.sh:=rfl
theorem Eb:GD (aA (.l a)) (.int i)=(L2.sC a i).map RV.sh:=rfl
def gT:L2.sC a (OfNat.ofNat n)=a[n]?:=by
 show L2.sC a ((n:Nat):Int)=_
 cases h:a[n]? with
 |some v=>exact L2.bK h
 |none =>
  unfold L2.sC L2.DF
  have:=List.getElem?_eq_none_iff.mp h
  rw[RA (by lia),if_neg (by lia)];rfl
theorem Io:L2.sC a 0=a[0]?:=gT (n:=0)
theorem Jo:L2.sC a 1=a[1]?:=gT (n:=1)
theorem Ko:L2.sC a 2=a[2]?:=gT (n:=2)
theorem Lo:L2.sC a 3=a[3]?:=gT (n:=3)
def nN(a l h:Option D):Option RV:=a.bind λd=>(EL l).bind λl=>(EL h).bind λh=>pV d l h
def Mc(x:Hd)(l h:Option D)(U:Env):zA RV:=done (nN (x.get U) l h) U
def FL(P:bB)(C:Calls)(e:E)(U:Env):zA (Option D):=aAO e (ev P C dA e U) U
def Lc(P:bB)(C:Calls)(a:E)(x:Hd)(l:Option D)(U:Env):zA RV:=(FL P C a U).bind (Mc x l)
def Kc(P:bB)(C:Calls)(lo a:E)(x:Hd)(U:Env):zA RV:=(FL P C lo U).bind (Lc P C a x)
theorem zJa:FL P C .fI U=some (.ok eA,U):=rfl
noncomputable def VQ(v:RV)(U:Env):zA (Option D):=some (.ok (aA v.d),U)
theorem xJa:FL P C (.c d) U=some (.ok (aA d),U):=rfl
theorem aKa:FL P C (.v i) U=(ev P C dA (.v i) U).bind VQ:=rfl
theorem wJa:FL P C (.wA op a b) U=(ev P C dA (.wA op a b) U).bind VQ:=rfl
theorem vJa:FL P C (.bif f a) U=(ev P C dA (.bif f a) U).bind VQ:=rfl
theorem su:ev P C t (.sl a lo b) U=aAh t ((wC P C a U).bind (Kc P C lo b)):=rfl
def K0(P:bB)(C:Calls)(f:String)(a:List Hd)(U:Env):zA RV:=HC (P f) (C f) a U
theorem Tt:ev P C t (.call f a) U=aAh t ((vC P C a U).bind (K0 P C f)):=rfl
def L0(cA:List Bool)(b:List Hd)(U U1:Env):zA RV->zA RV
 |none=>eA
 |some (o,a)=>(aAg cA b a U U1).map λc=>(o,c)
def Pb(cA:List Bool)(f:List Sl->zA RV)(a:List Hd)(U:Env):Option (List Sl×Env)->zA RV
 |none=>eA
 |some (as,U1)=>L0 cA a U U1 (f as)
theorem Bs:HC cA f a U=Pb cA f a U (aAk cA a U):=rfl
theorem Fz:Pb cA f a U (aA (as,U1))=L0 cA a U U1 (f as):=rfl
noncomputable def Qb(o:Out RV)(x:Option Env):zA RV:=x.map λa=>(o,a)
theorem Hz:Qb o (aA U)=aA (o,U):=rfl
theorem Gz:L0 cA b U U1 (aA (o,a))=Qb o (aAg cA b a U U1):=rfl
noncomputable def wJ(a:Sl)(o:Option (List Sl×Env)):Option (List Sl×Env):=o.map λ(as,b)=>(a::as,b)
theorem a_:wJ a (aA (as,U))=aA (a::as,U):=rfl
theorem P':aAk [] [] U=aA ([],U):=rfl
theorem V':aAk (p::a) (.val (.sh d)::r) U=wJ (.sh d) (aAk a r U):=rfl
theorem S':aAk (bA::a) (.val (.ow d)::r) U=wJ (.ow d bA dA) (aAk a r U):=rfl
theorem R':aAk (dA::a) (.val (.ow d)::r) U=wJ (.sh d) (aAk a r U):=rfl
def HU(p:Bool)(a:List Bool)(i:Nat)(r:List Hd)(U:Env):Option Sl->Option (List Sl×Env)
 |some (.sh d)=>wJ (.sh d) (aAk a r U)
 |some (.ow d b c)=>match p with
  |true=>wJ (.ow d bA c) (aAk a r (U.set i .un))
  |false=>if b||c then eA else wJ (.sh d) (aAk a r (U.set i (.sh d)))
 |_=>eA
theorem W':aAk (p::a) (.slot i::r) U=HU p a i r U U[i]?:=rfl
theorem d_:HU p a i r U (aA (.sh d))=wJ (.sh d) (aAk a r U):=rfl
theorem c_:HU bA a i r U (aA (.ow d b c))=wJ (.ow d bA c) (aAk a r (U.set i .un)):=rfl
theorem b_:HU dA a i r U (aA (.ow d dA dA))=wJ (.sh d) (aAk a r (U.set i (.sh d))):=rfl
theorem jw:aAg [] [] [] a U=aA U:=rfl
theorem fw:aAg (dA::b) (.slot i::c) (a::as) d U=aAg b c as d U:=rfl
theorem gw:aAg (dA::b) (.val v::c) (a::as) d U=aAg b c as d U:=rfl
theorem qw:aAg (bA::b) (.val v::c) (a::as) d U=aAg b c as d U:=rfl
def O0(c:List Bool)(i:Nat)(e:List Hd)(a:Sl)(as:List Sl)(f U:Env)(o:Option Sl):Option Env :=
  match o,a with
  |some (.ow _ b g),.ow d _ _=>aAg c e as f (U.set i (.ow d b g))
  |some (.ow _ _ _),_=>eA
  |_,_=>aAg c e as f U
theorem mw:aAg (bA::c) (.slot i::d) (a::as) b U=O0 c i d a as b U b[i]?:=rfl
theorem Oz:O0 a i b (.ow d p l) as c U (aA (.ow g e f))=aAg a b as c (U.set i (.ow d e f)):=rfl
theorem Pz:O0 b i c a as e U (aA (.sh d))=aAg b c as e U:=rfl
def Kb(f:BI)(a:List Hd)(U:Env):zA RV:=done ((getAll a U).bind (WD f)) U
theorem Qt:ev P C t (.bif f a) U=aAh t ((vC P C a U).bind (Kb f)):=rfl
theorem dw:getAll [] U=aA []:=rfl
noncomputable def ka(a:Option D)(b:Option (List D)):Option (List D):=a.bind λd=>b.map (d :: ·)
theorem bw:ka (aA d) (aA a)=aA (d::a):=rfl
theorem cw:getAll (h::r) U=ka (h.get U) (getAll r U):=rfl
theorem vv:WD .len [.l a]=aA (.sh (.int a.length)):=rfl
theorem xv:WD .len [.t a]=aA (.sh (.int a.length)):=rfl
theorem qv:WD .abs [.int i]=aA (.sh (.int (if i<0 then -i else i))):=rfl
theorem uv:WD .int [.bl b]=aA (.sh (.int (if b then 1 else 0))):=rfl
theorem zv:WD .list [.l a]=aA (.ow (.l a)):=rfl
theorem Av:WD .list [.t a]=aA (.ow (.l a)):=rfl
theorem Dv:WD .tuple [.l a]=aA (.sh (.t a)):=rfl
theorem Bv:WD .max [.int i,.int j]=aA (.sh (.int (if j > i then j else i))):=rfl
def xU(a:List Ty):Option D->Option RV
 |some d=>(MQ a d).map λb=>.sh (.bl b)
 |none=>eA
def W0(a:List Ty)(x:Hd)(U:Env):zA RV:=done (xU a (x.get U)) U
theorem eu:ev P C t (.GI a c) U=aAh t ((wC P C a U).bind (W0 c)):=by
 show aAh t ((wC P C a U).bind λx U1=>done ((x.get U1).bind λd=>(MQ c d).map λb=>.sh (.bl b)) U1)=_
 congr 2
 funext x U1
 unfold W0;cases x.get U1<;>rfl
theorem zy:xU [.int] (aA (.int i))=aA (.sh (.bl bA)):=rfl
theorem yy:xU [.bool] (aA (.int i))=aA (.sh (.bl dA)):=rfl
def Hb(i:Nat)(d:D)(U:Env)(o:Option Sl):zA RV:=match o with
 |some (.ow (.l a) p dA)=>if fB (a.length+1) then some (.ok (.sh .lA),U.set i (.ow (.l (a++[d])) p dA)) else eA
 |_=>eA
def Ib(i:Nat)(v:RV)(U:Env):zA RV:=Hb i v.d U U[i]?
theorem zz:Hb i d U (aA (.ow (.l a) p dA))=YQ (fB (a.length+1)) (.sh .lA) (U.set i (.ow (.l (a++[d])) p dA)):=rfl
noncomputable def S0(r:zA RV)(b:Bool):zA RV:=if b then r else eA
theorem Sz:S0 r bA=r:=rfl
theorem Ot:ev P C t (.app i a) U=aAh t (S0 ((ev P C dA a U).bind (Ib i)) (FI U i)):=rfl
noncomputable def TM:Option Sl->Bool
 |some (.ow (.l _) _ _)=>bA
 |_=>dA
theorem Py:FI U i=TM U[i]?:=rfl
theorem Oy:TM (aA (.ow (.l a) p l))=bA:=rfl
def Jb(i:Nat)(v:RV)(U:Env):Run:=zI (store i v U)
theorem Ju:ex P C W (.QA i e) U=(ev P C dA e U).mC (Jb i):=rfl
noncomputable def KL(i:Nat)(v:RV)(U:Env)(o:Option Sl):Option Env:=match o with
 |none=>eA
 |some (.ow _ bA _)=>eA
 |some (.ow _ _ bA)=>eA
 |some _=>match v with
  |.sh d=>aA (U.set i (.sh d))
  |.ow d=>aA (U.set i (.ow d dA dA))
  |.od _=>eA
theorem J4:store i v U=KL i v U U[i]?:=rfl
theorem fQa:KL i (.sh d) U (aA .un)=aA (U.set i (.sh d)):=rfl
theorem eQa:KL i (.ow d) U (aA .un)=aA (U.set i (.ow d dA dA)):=rfl
theorem dQa:KL i (.sh d) U (aA (.sh a))=aA (U.set i (.sh d)):=rfl
theorem cQa:KL i (.ow d) U (aA (.sh a))=aA (U.set i (.ow d dA dA)):=rfl
theorem bQa:KL i (.ow d) U (aA (.ow a dA dA))=aA (U.set i (.ow d dA dA)):=rfl
noncomputable def SA:Sl->Bool
 |.un=>bA
 |.mv=>bA
 |.sh _=>bA
 |.ow _ dA dA=>bA
 |_=>dA
theorem LB(h:SA s=bA):KL i (.sh d) U (aA s)=aA (U.set i (.sh d)):=by
 cases s with
 |ow d p l=>cases p<;>cases l<;>first | rfl | cases h
 |_=>rfl
theorem aQa(h:SA s=bA):KL i (.ow d) U (aA s)=aA (U.set i (.ow d dA dA)):=by
 cases s with
 |ow d p l=>cases p<;>cases l<;>first | rfl | cases h
 |_=>rfl
theorem yDa:SA .un=bA:=rfl
theorem xDa:SA (.sh d)=bA:=rfl
theorem wDa:SA (.ow d dA dA)=bA:=rfl
theorem EX:eB bA [i] d U=store i (.sh d) U:=rfl
theorem F8:eB dA (i::is) (.t a) U=aAq (i::is) a U:=rfl
theorem ug:aAq [] [] U=aA U:=rfl
def Oc(is:List Nat)(a:List D)(o:Option Env):Option Env:=o.bind (aAq is a)
theorem sg:aAq (i::is) (d::a) U=Oc is a (store i (.sh d) U):=rfl
theorem Pc:Oc is a (aA U)=aAq is a U:=rfl
def fg(i:Nat)(v:D)(U:Env):Option Sl->D->Run
 |some (.ow (.l a) p dA),.int n=>zI ((L2.DF a.length n).map λm=>U.set i (.ow (.l (a.set m v)) p dA))
 |_,_=>eA
def Jc(i:Nat)(v:RV)(j:RV)(U:Env):Run:=fg i v.d U U[i]? j.d
noncomputable def jc(r:Run)(b:Bool):Run:=if b then r else eA
theorem Tz:jc r bA=r:=rfl
noncomputable def rLa(i:Nat)(v j:RV)(U:Env):Option Sl->Run
 |o=>match o,j,v with
  |_,_,_=>eA
def p_(i:Nat)(v:RV)(j:RV)(U:Env):Run:=rLa i v j U U[i]?
noncomputable def vO:Option Sl->Bool
 |_=>dA
theorem Hy:Fy U i=vO U[i]?:=rfl
noncomputable def V0(r a:Run)(b:Bool):Run:=if b then r else a
theorem Vz:V0 r a bA=r:=rfl
theorem Uz:V0 r a dA=a:=rfl
theorem Iu:jF P C W (.OK c b) U=HH (ev P C bA c) (JA P C W b) (YD P C W b) W U:=rfl
def Dc(i:Nat)(v:RV)(j:RV)(U:Env):Run:=EK i U U[i]? (jE j.d) v
def lN(h:fB (a.length+1)=bA):EK i U (aA (.ow (.aB a b) p dA)) (aA k) v=aA (.nx,U.set i (.ow (.aB (yE a k) (aE a b k v.d)) p dA)):=RA h
noncomputable def wO:Option Sl->Bool
 |some (.ow (.aB _ _) _ _)=>bA
 |_=>dA
theorem Jy:KQ U i=wO U[i]?:=rfl
theorem Iy:wO (aA (.ow (.aB a b) p l))=bA:=rfl
theorem Gy:vO (aA (.ow (.aB a b) p l))=dA:=rfl
theorem Ny:TM (aA (.ow (.aB a b) p l))=dA:=rfl
def Fc(P:bB)(C:Calls)(i:Nat)(k:E)(v:RV)(U:Env):Run:=jc ((ev P C dA k U).mC (Dc i v)) (KQ U i)
def Ic(P:bB)(C:Calls)(i:Nat)(k:E)(v:RV)(U:Env):Run:=V0 ((ev P C dA k U).mC (Jc i v)) (Fc P C i k v U) (FI U i)
theorem Qu:ex P C W (.set i k e) U=(ev P C dA e U).mC (Ic P C i k):=rfl
def cz:L2.DF (n+2) 1=aA 1:=by unfold L2.DF;rw[RA (by lia),RA (by lia)];rfl
theorem pOa:fg i v U (aA (.ow (.l (a::b::c)) p dA)) (.int 1)=aA (.nx,U.set i (.ow (.l (a::v::c)) p dA)):=by
 show zI ((L2.DF (c.length+2) 1).map _)=_;rw[cz];rfl
noncomputable def Yb(v:RV)(U:Env):Run:=aA (.nx,U)
theorem Ku:ex P C W (.expr e) U=(ev P C dA e U).mC Yb:=rfl
noncomputable def V3(i:Nat)(U:Env):Option Sl->Run
 |some (.ow d dA _)=>aA (.rt (.ow d),U.set i .mv)
 |some (.sh d)=>aA (.rt (.sh d),U)
 |_=>eA
theorem vMa:V3 i U (aA (.ow d dA l))=aA (.rt (.ow d),U.set i .mv):=rfl
theorem wMa:V3 i U (aA (.sh d))=aA (.rt (.sh d),U):=rfl
noncomputable def jH(v:RV)(U:Env):Run:=aA (.rt v,U)
theorem Ou:ex P C W (.ret (.v i)) U=V3 i U U[i]?:=rfl
theorem xt:ex P C W (.ret (.c d)) U=(ev P C dA (.c d) U).mC jH:=rfl
theorem Dt:ex P C W (.ret (.t a)) U=(ev P C dA (.t a) U).mC jH:=rfl
theorem zt:ex P C W (.ret (.l a)) U=(ev P C dA (.l a) U).mC jH:=rfl
theorem nt:ex P C W (.ret (.wA op a b)) U=(ev P C dA (.wA op a b) U).mC jH:=rfl
theorem vt:ex P C W (.ret (.BA op a b)) U=(ev P C dA (.BA op a b) U).mC jH:=rfl
theorem ft:ex P C W (.ret (.and a b)) U=(ev P C dA (.and a b) U).mC jH:=rfl
theorem Ct:ex P C W (.ret (.or a b)) U=(ev P C dA (.or a b) U).mC jH:=rfl
theorem yt:ex P C W (.ret (.ix a b)) U=(ev P C dA (.ix a b) U).mC jH:=rfl
theorem qt:ex P C W (.ret (.call f a)) U=(ev P C dA (.call f a) U).mC jH:=rfl
theorem jt:ex P C W (.ret (.bif f a)) U=(ev P C dA (.bif f a) U).mC jH:=rfl
theorem wt{a cond:List E}:ex P C W (.ret (.comp b c k a cond imp nl)) U=(ev P C dA (.comp b c k a cond imp nl) U).mC jH:=rfl
def Q0(P:bB)(C:Calls)(W:Nat)(a b:List S)(v:RV)(U:Env):Run:=match v with
 |.sh (.bl bA)=>JA P C W a U
 |.sh (.bl dA)=>JA P C W b U
 |_=>eA
theorem Xz:Q0 P C W a b (.sh (.bl bA)) U=JA P C W a U:=rfl
theorem Wz:Q0 P C W a b (.sh (.bl dA)) U=JA P C W b U:=rfl
theorem Mu:ex P C W (.EA c a b) U=(ev P C bA c U).mC (Q0 P C W a b):=rfl
def W9(P:bB)(C:Calls)(W:Nat)(a:List Nat)(one:Bool)(body:List S)(U:Env):Option (List D×Option Nat)->Run
 |none=>eA
 |some (b,o)=>(pD (eB one a) (JA P C W body) b (aAi o U)).restore o U
theorem Ov:W9 P C W a one body U (aA (b,o))=(pD (eB one a) (JA P C W body) b (aAi o U)).restore o U:=rfl
def aA3(P:bB)(C:Calls)(W:Nat)(a:List Nat)(one:Bool)(k:UE)(body:List S)(b:List Hd)(U:Env):Run:=W9 P C W a one body U (aAb k b U)
theorem Lu:ex P C W (.for b one k a body) U=(vC P C a U).mC (aA3 P C W b one k body):=rfl
theorem Ru:ex P C W (.OK c body) U=GF (ev P C bA c) (JA P C W body) W U:=rfl
theorem sY:JA P C W [] U=aA (.nx,U):=rfl
theorem rY:JA P C W (s::r) U=(ex P C W s U).next (JA P C W r):=rfl
theorem bNa{r:Run}:r.restore eA a=r:=by cases r with | none=>rfl | some y=>let(b,U):=y;rfl
theorem bSa:aAi eA U=U:=rfl
def HI(h:a.get U=aA (.int n))(b:-1000000<=n)(c:n<=1000000):aAb .IB [a] U=aA ((nC n.toNat).map λ(j:Nat)=>.int (j:Int),eA):=by
 unfold aAb;dsimp only;rw[h];exact RA #[b,c]
def y0(h:a.get U=aA (.int m))(c:b.get U=aA (.int n))(d:-1000000<=m/\m<=1000000)(e:-1000000<=n/\n<=1000000):aAb .IB [a,b] U=aA ((nC (n-m).toNat).map λ(j:Nat)=>.int (m+(j:Int)),eA):=by
 unfold aAb;dsimp only;rw[h,c];exact RA #[d,e]
def BU(h:v.d=.l a):aAb .of [.val v] U=aA (a,eA):=by(unfold aAb;dsimp only;rw[h])
def NQ(h:v.d=.t a):aAb .of [.val v] U=aA (a,eA):=by(unfold aAb;dsimp only;rw[h])
def vd{bind:D->Env->Option Env}(I:Env->Prop)(h:∀d∈ds,∀U,I U->∃U1,bind d U=aA U1/\∃U2,body U1=aA (.nx,U2)/\I U2):∀{U:Env},I U->∃a,pD bind body ds U=aA (.nx,a)/\I a:=by
 induction ds with
 |nil=>exact λb=>#[_,rfl,b]
 |cons d ds e =>
  intro U b;let(U1,f,U2,g,i):=h d (by simp) U b;let(a,j,k):=e (λl c=>h l (by simp[c])) i;exact#[a,by erw[pD,f,g,j],k]
def lH{bind:D->Env->Option Env}(I:List D->Env->Prop)(h:∀pre d post,ds=pre++d::post->∀U,I pre U->∃U1,bind d U=aA U1/\∃U2,body U1=aA (.nx,U2)/\I (pre++[d]) U2)(f:I [] U):∃a,pD bind body ds U=aA (.nx,a)/\I ds a:=by
 have key:∀(post pre:List D) (U:Env),ds=pre++post->I pre U->∃a,pD bind body post U=aA (.nx,a)/\I ds a:=by
  intro post
  induction post with
  |nil=>intro pre U e c;rw[RD] at e;subst e;exact#[U,rfl,c]
  |cons d post g =>
   intro pre U e c;let(U1,b):=h pre d post e U c;let(i,U2,j,k):yD:=b
   let(a,l,m):rA:=g (pre++[d]) U2 (by rw[e];simp) k
   exact#[a,by erw[pD,i,j,l],m]
 exact key ds [] U rfl f
noncomputable def WQ(as:List Sl):Run->zA RV
 |some (.nx,U)=>some (.ok (.sh .lA),back as U)
 |some (.rt v,U)=>some (.ok v,back as U)
 |_=>eA
theorem u_:WQ as (aA (.nx,U))=some (.ok (.sh .lA),back as U):=rfl
theorem v_:WQ as (aA (.rt v,U))=some (.ok v,back as U):=rfl
def DR(a:T f=aA fn)(b:as.length=fn.cA.length)(c:as.all AJ=bA)(d:fn.rs=dA:=by rfl):run T W (n+1) f as=WQ as (JA T.cA (run T W n) W fn.body (as++qB fn.nl .un)):=by
 erw[run,a];rw[RA #[b,c],d];generalize JA T.cA (run T W n) W fn.body (as++qB fn.nl .un)=r;obtain _ | ⟨e,U⟩:=r
 .rfl
 .cases e<;>rfl
def aAN(T:Tab)(W n:Nat)(fn:Fn)(as:List Sl):Option (Exc×Env):=YD T.cA (run T W n) W fn.body (as++qB fn.nl .un)
def XQ(as:List Sl)(r:Run)(o:Option (Exc×Env)):zA RV:=match r with
 |some (.nx,U)=>some (.ok (.sh .lA),back as U)
 |some (.rt v,U)=>some (.ok v,back as U)
 |_=>match o with
  |some (x,U)=>some (.ex x,back as U)
  |none=>eA
theorem s_:XQ as (aA (.nx,U)) o=some (.ok (.sh .lA),back as U):=rfl
theorem t_:XQ as (aA (.rt v,U)) o=some (.ok v,back as U):=rfl
theorem r_:XQ as eA o=(match o with | some (x,U)=>some (.ex x,back as U) | none=>eA):=rfl
def kNa(a:T f=aA fn)(b:as.length=fn.cA.length)(c:as.all AJ=bA)(d:fn.rs=bA:=by rfl):run T W (n+1) f as=XQ as (JA T.cA (run T W n) W fn.body (as++qB fn.nl .un)) (aAN T W n fn as):=by
 erw[run,a];rw[RA #[b,c],d];unfold aAN;generalize JA T.cA (run T W n) W fn.body (as++qB fn.nl .un)=r;obtain _ | ⟨e,U⟩:=r
 .rfl
 .cases e<;>rfl
end
end CI
namespace CI
set_option tactic.hygienic true
open PySem PySem.Spec PyProof.Rows L2
noncomputable def d9:D->jA->Bool
 |.lA,.none=>bA
 |.bl a,.bool b=>a==b
 |.int i,.int j _=>i==j
 |.str x,.str y _=>x==y&&DN x
 |_,_=>dA
def QX:List D->List jA->Bool
 |[],[]=>bA
 |d::a,v::b=>d9 d v&&QX a b
 |_,_=>dA
def xr{K:kA}(h:d9 d u=bA):∃v,aAe v u/\∀G,nA K G d v:=by
 have no:∀{p:Prop},dA=bA->p:=λh=>nomatch h
 induction d using D.casesOn with
 |lA =>
  induction u using oW with
  |none=>exact#[.lA,rfl,λG=>by simp[nA]]
  |_=>exact no h
 |bl =>
  induction u using oW with
  |bool=>exact#[.bl _,rfl,λG=>by simp[nA,EC (show(_==_)=bA from h)]]
  |_=>exact no h
 |int i =>
  induction u using oW with
  |int j t=>exact#[.int i,#[t,by rw[EC (show(i==j)=bA from h)]],λG=>by simp[nA]]
  |_=>exact no h
 |str x =>
  induction u using oW with
  |str y t =>
   replace h:=(XA _ _).mp h;exact#[.str x,#[t,by rw[EC h.1]],λG=>by simp[nA,h.2]]
  |_=>exact no h
 |_=>exact no h
theorem e9{K:kA}:∀{b:List D} {c:List jA},QX b c=bA->∃a,aAc a c/\∀G,oA K G b a
 |[],[],_=>#[[],.nil,λG=>oA.nil]
 |d::b,u::c,h=>by
  replace h:=(XA _ _).mp h;let(v,e,f):=xr h.1;let(a,g,i):=e9 h.2;exact#[v::a,.cons e g,λG=>oA.cons (f G) (i G)]
 |[],_::_,h=>nomatch (show dA=bA from h)
 |_::_,[],h=>nomatch (show dA=bA from h)
def yr{K:kA}{sl}(X:K.In h)(G:h.Ns cB mg)
  (c:CB K cB x=aA (aA (.ref a))) (d:K.lookup a=aA #[.type "tuple",l,.seq b n,sl]) (e:QX f b.toList=bA) (g:decide (b.size<=1000)=bA):TH m K mg T o (x,.c (.t f)):=by
 let(i,j,k):=e9 e;refine#[_,.ref a,YK X G c,rfl,λG=>?_];erw[nA];exact#[a,i,rfl,.inr #[_,b,n,d,rfl,rfl,dD (lP g) (by decide),j],k G]
noncomputable section
variable{U U1:Env}
def UQ(P:bB)(C:Calls)(a:E)(b:List Nat)(k:UE)(cond:List E)(imp:List Nat)(nl:Nat)(c:List Hd)(U1:Env):zA RV :=
 match aAb k c U1 with
 |none=>eA
 |some (d,o)=>(HC (imp.map λ_=>bA) (oJ (MC P C cond) (ev P C dA a) (eB (b.length==1) b) d nl) (imp.map Hd.slot) (aAi o U1)).bind (aAx o U1)
theorem Xt{a cond:List E}:ev P C t (.comp b c k a cond imp nl) U=aAh t ((vC P C a U).bind (UQ P C b c k cond imp nl)):=rfl
def mF{cond:List E}(h:aAb k c U1=aA (d,eA)) :
  UQ P C a b k cond imp nl c U1=(HC (imp.map λ_=>bA) (oJ (MC P C cond) (ev P C dA a) (eB (b.length==1) b) d nl) (imp.map Hd.slot) U1).bind (aAx eA U1):=by
 unfold UQ;rw[h];rfl
theorem zw:aAx eA U1 v a=some (.ok v,a):=rfl
def Jz{cond:List E}(h:aAb k c U1=aA (d,aA i)) :
  UQ P C a b k cond imp nl c U1=(HC (imp.map λ_=>bA) (oJ (MC P C cond) (ev P C dA a) (eB (b.length==1) b) d nl) (imp.map Hd.slot) (aAi (aA i) U1)).bind (aAx (aA i) U1):=by
 unfold UQ;rw[h]
def M0(as:List Sl)(a:List D)(b:Env):zA RV:=if fB a.length then some (.ok (.ow (.l a)),back as b) else eA
theorem pL{bind:D->Env->Option Env}(h:as.all AJ=bA):oJ a b bind c nl as=(nE a b bind c [] (as++qB nl .un)).bind (M0 as):=by
 unfold oJ;rw[RA h];rfl
theorem Iz(h:fB a.length=bA):M0 as a b=some (.ok (.ow (.l a)),back as b):=by unfold M0;rw[RA h]
theorem qJ:MC P C [] U=some (.ok (.sh (.bl bA)),U):=rfl
def Qc(P:bB)(C:Calls)(a:List E)(v:RV)(U1:Env):zA RV:=match v with
 |.sh (.bl bA)=>MC P C a U1
 |.sh (.bl dA)=>some (.ok (.sh (.bl dA)),U1)
 |_=>eA
theorem Jt:MC P C (e::a) U=(ev P C bA e U).bind (Qc P C a):=rfl
theorem C_:Qc P C [] (.sh (.bl b)) U1=some (.ok (.sh (.bl b)),U1):=by
 cases b
 .rfl
 .show MC P C [] U1=_;exact qJ
theorem cJa:AJ (.ow d bA l)=bA:=rfl
theorem dJa:AJ (.sh d)=bA:=rfl
def gK{bind:D->Env->Option Env}(I:Nat->List D->Env->Prop)
  (step:∀(j:Nat) (d:D),ds[j]?=aA d->∀a U,I j a U->∃U1 c g,bind d U=aA U1/\tests U1=some (.ok (.sh (.bl c)),g)/\(c=bA->∃v l,lC g=some (.ok v,l)/\I (j+1) (a++[v.d]) l)/\(c=dA->I (j+1) a g)) :
  ∀a U,I 0 a U->∃b f,nE tests lC bind ds a U=some (.ok b,f)/\I ds.length b f/\b.length<=a.length+ds.length:=by
 have key:∀(e:List D) (j:Nat),ds.drop j=e->∀a U,I j a U->∃b f,nE tests lC bind e a U=some (.ok b,f)/\I (j+e.length) b f/\b.length<=a.length+e.length:=by
  intro e
  induction e with
  |nil=>intro j _ a U h;exact#[a,U,rfl,h,by simp]
  |cons d e o =>
   intro j p a U h
   have hd:ds[j]?=aA d:=by
    have:(ds.drop j)[0]?=aA d:=by rw[p];rfl
    simpa using this
   have i:ds.drop (j+1)=e:=by
    have:(ds.drop j).drop 1=e:=by rw[p];rfl
    rw[El] at this;exact this
   let(U1,k):=step j d hd a U h;let(c,g,r,s,t,u):fC:=k
   erw[nE,r,s,zA.bind]
   cases c with
   |false =>
    let(b,f,m,n,q):pB:=o (j+1) i a g (u rfl)
    refine#[b,f,m, ?_,by erw[KC];lia]
    have:j+(d::e).length=j+1+e.length:=by erw[KC];lia
    rw[this];exact n
   |true =>
    let(v,l,w,x):FA:=t rfl
    let(b,f,m,n,q):pB:=o (j+1) i (a++[v.d]) l x
    erw[w];refine#[b,f,m, ?_,by erw[RC,KC,FJ] at q ⊢;lia]
    have:j+(d::e).length=j+1+e.length:=by erw[KC];lia
    rw[this];exact n
 intro a U h
 have:=key ds 0 rfl a U h
 simpa using this
def UB(h:n<=1000000):fB n=bA:=YE h
end
end CI
namespace CI
set_option tactic.hygienic true
open PySem (Operator CmpOp Str)
noncomputable section
variable{U U1 U2:Env}
theorem xGa:wC P C (.nD i) U=(ev P C dA (.nD i) U).bind nF:=rfl
def xO(a:List (List fA×List fA))(o:Option D):Option RV:=o.bind (u0 a)
def kc(a:List (List fA×List fA))(x:Hd)(U:Env):zA RV:=done (xO a (x.get U)) U
theorem du:ev P C t (.tK a b) U=aAh t ((wC P C a U).bind (kc b)):=rfl
theorem aAA:∀a:List Int,oD (a.map D.int)=aA a
 |[]=>rfl
 |n::r=>by(show(oD (r.map D.int)).map (n :: ·)=_;rw[aAA r];rfl)
noncomputable def A0(r:zA Hd)(f:Env->Option (Exc×Env))(o:Option (Exc×Env)):Option (Exc×Env):=match r with
 |some (.ok _,U1)=>f U1
 |_=>o
theorem Mt:rJ P C (e::a) U=A0 (wC P C e U) (rJ P C a) (VF P C e U):=rfl
theorem vz:A0 (some (.ok h,U)) f o=f U:=rfl
theorem uz:A0 (some (.ex x,U)) f o=o:=rfl
theorem Pu:ex P C W (.HL c a) U=eA:=rfl
noncomputable def JU(r:Run)(f:Env->Option (Exc×Env))(o:Option (Exc×Env)):Option (Exc×Env):=match r with
 |some (.nx,U1)=>f U1
 |_=>o
theorem av:YD P C W (s::r) U=JU (ex P C W s U) (YD P C W r) (jF P C W s U):=rfl
theorem y_:JU (aA (.nx,U)) f o=f U:=rfl
theorem x_:JU eA f o=o:=rfl
theorem w_:JU (some (.ex x,U)) f o=o:=rfl
noncomputable def P0(r:zA RV)(f g:Env->Option (Exc×Env)):Option (Exc×Env):=match r with
 |some (.ok (.sh (.bl bA)),U1)=>f U1
 |some (.ok (.sh (.bl dA)),U1)=>g U1
 |_=>eA
theorem Bu:jF P C W (.EA c a b) U=P0 (ev P C bA c U) (YD P C W a) (YD P C W b):=rfl
theorem Rz:P0 (some (.ok (.sh (.bl bA)),U)) f g=f U:=rfl
theorem Qz:P0 (some (.ok (.sh (.bl dA)),U)) f g=g U:=rfl
noncomputable def Hc(c:fA)(r:zA (List D)):Option (Exc×Env):=match r with
 |some (.ok _,U1)=>aA (#[c,eA],U1)
 |_=>eA
theorem Gu:jF P C W (.HL c a) U=Hc c (VE P C a U):=rfl
theorem q_:Hc c (some (.ok a,U))=aA (#[c,eA],U):=rfl
theorem zu:jF P C W (.QA i e) U=VF P C e U:=rfl
theorem Au:jF P C W (.expr e) U=VF P C e U:=rfl
theorem Nu:ex P C W (.kN h e) U=(ev P C dA e U).mC jH:=rfl
theorem Eu:jF P C W (.kN h e) U=VF P C h U:=rfl
theorem Du:jF P C W (.ret e) U=VF P C e U:=rfl
def N0(r:zA RV):Option (Exc×Env):=match r with
 |some (.ex x,a)=>aA (x,a)
 |_=>eA
theorem Kz:N0 (some (.ex x,U))=aA (x,U):=rfl
def J0(P:bB)(C:Calls)(f:String)(r:zA (List Hd))(o:Option (Exc×Env)):Option (Exc×Env):=match r with
 |some (.ok a,U1)=>N0 (HC (P f) (C f) a U1)
 |_=>o
theorem Kt:VF P C (.call f a) U=J0 P C f (vC P C a U) (rJ P C a U):=rfl
theorem Az:J0 P C f (some (.ok a,U)) o=N0 (HC (P f) (C f) a U):=rfl
theorem Bz:J0 P C f (some (.ex x,U)) o=o:=rfl
theorem Ay:xU [.TR] (aA (.zC c m))=aA (.sh (.bl bA)):=rfl
def wU(h:UM c a=aA b):xO a (aA (.zC c m))=aA (.sh (.bl b)):=by
 show(UM c a).map _=_;rw[h];rfl
theorem wGa:wC P C (.fld a f) U=(ev P C dA (.fld a f) U).bind nF:=rfl
theorem bHa:wC P C (.JI i m a b) U=(ev P C dA (.JI i m a b) U).bind nF:=rfl
theorem cHa:wC P C (.gN a) U=(ev P C dA (.gN a) U).bind nF:=rfl
def Qd(o:Option D):Option RV:=o.bind mR
def Bc(x:Hd)(U:Env):zA RV:=done (Qd (x.get U)) U
theorem nu:ev P C t (.gN a) U=aAh t ((wC P C a U).bind Bc):=rfl
theorem yJa:FL P C (.neg a) U=(ev P C dA (.neg a) U).bind VQ:=rfl
theorem cu:ev P C t (.nD i) U=aAh t (GU i U U[i]?):=rfl
def eH(o:Option D)(f:fA):Option RV:=o.bind λd=>(uY d f).map .sh
def cc(f:fA)(x:Hd)(U:Env):zA RV:=done (eH (x.get U) f) U
theorem bu:ev P C t (.fld a f) U=aAh t ((wC P C a U).bind (cc f)):=rfl
noncomputable def IU(c:fA)(a:List fA)(b:List D)(U:Env):zA RV:=if b.length=a.length then some (.ok (.sh (.ins c a b)),U) else eA
theorem iu:ev P C t (.make c a b) U=aAh t ((VE P C b U).bind (IU c a)):=rfl
theorem e_:IU c [f] [a] U=some (.ok (.sh (.ins c [f] [a])),U):=rfl
theorem f_:IU c [f,g] [a,b] U=some (.ok (.sh (.ins c [f,g] [a,b])),U):=rfl
theorem g_:IU c [f,g,h] [a,b,d] U=some (.ok (.sh (.ins c [f,g,h] [a,b,d])),U):=rfl
def Y0(P:bB)(C:Calls)(f:String)(d:D)(a:List Hd)(U:Env):zA RV:=K0 P C f (.val (.sh d)::a) U
def X0(P:bB)(C:Calls)(d:D)(a:List E)(U:Env):Option String->zA RV
 |some f=>(vC P C a U).bind (Y0 P C f d)
 |none=>eA
theorem h_:X0 P C d a U (aA f)=(vC P C a U).bind (Y0 P C f d):=rfl
def wc(P:bB)(C:Calls)(m:fA)(b:List (fA×String))(d:List E)(U:Env)(i:Nat):Option Sl->zA RV
 |some (.sh (.ins c a e))=>X0 P C (.ins c a e) d U (YF c a m b)
 |_=>eA
theorem i_:wc P C m b d U i (aA (.sh (.ins c a e)))=X0 P C (.ins c a e) d U (YF c a m b):=rfl
theorem ju:ev P C t (.JI i m a b) U=aAh t (wc P C m a b U i U[i]?):=rfl
theorem wb:aAb .key [.val (.sh (.aB a b))] U=aA (a.map HM,eA):=rfl
theorem Bt:ex P C W (.ret (.make c a b)) U=(ev P C dA (.make c a b) U).mC jH:=rfl
theorem Gq:PB .NotEq (.bl a) (.bl b)=aA (!(a==b)):=rfl
theorem zg0:(a::l)[0]?=aA a:=rfl
theorem zg1:(a::l)[n+1]?=l[n]?:=rfl
theorem zs0:(a::l).set 0 b=b::l:=rfl
theorem zs1:(a::l).set (n+1) b=a::l.set n b:=rfl
theorem zb:(aA a).bind f=f a:=rfl
theorem zm:(aA a).map f=aA (f a):=rfl
theorem zi:(aA a).isSome=bA:=rfl
theorem zc:(a::l)++m=a::(l++m):=rfl
theorem zn:[]++l=l:=rfl
theorem zr0:qB 0 a=[]:=rfl
theorem zr1:qB (n+1) a=a::qB n a:=rfl
theorem zl0:([]:List Z).length=0:=rfl
theorem zl1:(a::l).length=l.length+1:=rfl
theorem znt:(!true)=dA:=rfl
theorem znf:(!false)=bA:=rfl
theorem zko:back (.ow d p l::as) (b::bs)=b::back as bs:=rfl
theorem zks:back (.sh d::as) (b::bs)=.sh d::back as bs:=rfl
theorem zkn:back [] bs=[]:=rfl
end
def Z'{Q:List Z->Prop}(h:∀a,Q [a])(b:List Z)(c:b.length=1):Q b:=by
 obtain _ | ⟨a,d⟩:=b
 .simp at c
 obtain _ | ⟨x,y⟩:=d
 .exact h a
 .simp at c
def aAa{Q:List Z->Prop}(h:∀a b,Q [a,b])(c:List Z)(d:c.length=2):Q c:=by
 obtain _ | ⟨a,e⟩:=c
 .simp at d
 obtain _ | ⟨b,f⟩:=e
 .simp at d
 obtain _ | ⟨x,y⟩:=f
 .exact h a b
 .simp at d
def bAa{Q:List Z->Prop}(h:∀b c d,Q [b,c,d])(e:List Z)(a:e.length=3):Q e:=by
 obtain _ | ⟨b,f⟩:=e
 .simp at a
 obtain _ | ⟨c,g⟩:=f
 .simp at a
 obtain _ | ⟨d,i⟩:=g
 .simp at a
 obtain _ | ⟨x,y⟩:=i
 .exact h b c d
 .simp at a
def cAa{Q:List Z->Prop}(h:∀b c d e,Q [b,c,d,e])(f:List Z)(a:f.length=4):Q f:=by
 obtain _ | ⟨b,g⟩:=f
 .simp at a
 obtain _ | ⟨c,i⟩:=g
 .simp at a
 obtain _ | ⟨d,j⟩:=i
 .simp at a
 obtain _ | ⟨e,k⟩:=j
 .simp at a
 obtain _ | ⟨x,y⟩:=k
 .exact h b c d e
 .simp at a
def dAa{Q:List Z->Prop}(h:∀b c d e f,Q [b,c,d,e,f])(g:List Z)(a:g.length=5):Q g:=by
 obtain _ | ⟨b,i⟩:=g
 .simp at a
 obtain _ | ⟨c,j⟩:=i
 .simp at a
 obtain _ | ⟨d,k⟩:=j
 .simp at a
 obtain _ | ⟨e,l⟩:=k
 .simp at a
 obtain _ | ⟨f,m⟩:=l
 .simp at a
 obtain _ | ⟨x,y⟩:=m
 .exact h b c d e f
 .simp at a
def eAa{Q:List Z->Prop}(h:∀b c d e f g,Q [b,c,d,e,f,g])(i:List Z)(a:i.length=6):Q i:=by
 obtain _ | ⟨b,j⟩:=i
 .simp at a
 obtain _ | ⟨c,k⟩:=j
 .simp at a
 obtain _ | ⟨d,l⟩:=k
 .simp at a
 obtain _ | ⟨e,m⟩:=l
 .simp at a
 obtain _ | ⟨f,n⟩:=m
 .simp at a
 obtain _ | ⟨g,o⟩:=n
 .simp at a
 obtain _ | ⟨x,y⟩:=o
 .exact h b c d e f g
 .simp at a
open PySem PySem.Spec PyProof.Rows L2 in
def BQ(x a:fA)(st:MA)(kV b pm:jA)(e:Option iA)(c ct:jA)(d:List jA):Prop:=PySem.bindArgs (PF x a (XH st) (XD st) (TB st) .none kV b pm e c ct) #[d,[]]=pure ((YC st).zip d)
def fc{P:Z->Prop}(h:P a)(t:∀x∈l,P x):∀x∈a::l,P x:=i6.mpr #[h,t]
section
open PySem PySem.Spec PyProof.Rows L2
def Hv{K:kA}{st:MA}(X:K.In h)(G:h.Ns cB mg)(O:gL b st x fn)(t:∀e∈r,TH d K mg T b e)(g:T f=aA fn:=by rfl)(D:oM K x st:=by refine' CI.UX ?a ?l ?c ?k;(case a | l | c | k=>k_is)):∀e∈(x,GV.fn f)::r,TH d K mg T b e:=fc (Us X G D O g) t
abbrev a8(st:MA):Prop:=(IH st).Nodup/\(IH st).take (YC st).length=YC st/\(∀x∈YC st,(TB st).names.lookup x=aA .local\/(TB st).names.lookup x=aA .cell)/\∀y∈(TB st).names,y.2≠.free
abbrev eL(x a:fA)(st:MA):Prop:=∀(kV b pm:jA) (e:Option iA) (c ct:jA) (d:List jA),d.length=(YC st).length->BQ x a st kV b pm e c ct d
def dI{st:MA}(q:eL x a st)(c:(TB st).kind=.function:=by rfl)(d:(TB st).isCoroutine=dA:=by rfl)(e:(TB st).isGenerator=dA:=by rfl)(h:a8 st/\(IH st).length=fn.cA.length+fn.nl/\(YC st).length=fn.cA.length:=by left)(b:fn.body=SX gl st:=by kernel_rfl):AH gl st x a fn :=
 #[#[c,d,e,h.1.1,h.1.2.1,h.1.2.2.1,h.1.2.2.2],b,h.2.1,h.2.2,q]
def cN{st:MA}(q:eL "__init__" a st)(c:(TB st).kind=.function:=by rfl)(d:(TB st).isCoroutine=dA:=by rfl)(e:(TB st).isGenerator=dA:=by rfl)(h:a8 st/\(YC st).length=ns.length+1/\ns.Nodup/\ns.length<1000:=by left)(b:rK (YC st) 1 (XD st)=aA ns:=by kernel_rfl):VJ st a ns :=
 #[#[c,d,e,h.1.1,h.1.2.1,h.1.2.2.1,h.1.2.2.2],b,h.2.1,h.2.2.1,h.2.2.2,q]
variable{st:MA}
def sG(d:(YC st).length=1:=by rfl)(h:∀kV a pm c b ct e,BQ x qual st kV a pm c b ct [e]:=by intros;exact rfl):eL x qual st:=λkV a pm c b ct f g=>Z' (h kV a pm c b ct) f (g.trans d)
def mE(d:(YC st).length=2:=by rfl)(h:∀kV a pm c b ct e f,BQ x qual st kV a pm c b ct [e,f]:=by intros;exact rfl):eL x qual st:=λkV a pm c b ct g i=>aAa (h kV a pm c b ct) g (i.trans d)
def bH(d:(YC st).length=3:=by rfl)(h:∀kV a pm c b ct e f g,BQ x qual st kV a pm c b ct [e,f,g]:=by intros;exact rfl):eL x qual st:=λkV a pm c b ct i j=>bAa (h kV a pm c b ct) i (j.trans d)
def wI(d:(YC st).length=4:=by rfl)(h:∀kV a pm c b ct e f g i,BQ x qual st kV a pm c b ct [e,f,g,i]:=by intros;exact rfl):eL x qual st:=λkV a pm c b ct j k=>cAa (h kV a pm c b ct) j (k.trans d)
def Lp(d:(YC st).length=5:=by rfl)(h:∀kV a pm c b ct e f g i j,BQ x qual st kV a pm c b ct [e,f,g,i,j]:=by intros;exact rfl):eL x qual st:=λkV a pm c b ct k l=>dAa (h kV a pm c b ct) k (l.trans d)
def Mp(d:(YC st).length=6:=by rfl)(h:∀kV a pm c b ct e f g i j k,BQ x qual st kV a pm c b ct [e,f,g,i,j,k]:=by intros;exact rfl):eL x qual st:=λkV a pm c b ct l m=>eAa (h kV a pm c b ct) l (m.trans d)
end
def Zb(i:Nat)(v:RV)(U:Env)(o:Option Sl):zA RV:=match o,v with
 |some (.ow (.l a) p dA),.ow (.l b)=>if fB (a.length+b.length) then some (.ok (.sh .lA),U.set i (.ow (.l (a++b)) p dA)) else eA
 |_,_=>eA
def bc(i:Nat)(v:RV)(U:Env):zA RV:=Zb i v U U[i]?
theorem Lz:Zb i (.ow (.l a)) U (aA (.ow (.l b) p dA))=YQ (fB (b.length+a.length)) (.sh .lA) (U.set i (.ow (.l (b++a)) p dA)):=rfl
theorem au:ev P C t (.ext i a) U=aAh t (S0 ((ev P C dA a U).bind (bc i)) (FI U i)):=rfl
def Xb(v u:RV)(U:Env):zA RV:=yT (jE v.d) u U
def Wb(P:bB)(C:Calls)(b:E)(v:RV)(U:Env):zA RV:=(ev P C dA b U).bind (Xb v)
theorem Zt:ev P C t (.oQ a b) U=aAh t ((ev P C dA a U).bind (Wb P C b)):=rfl
def uOa:oV (.t [.int t,.t (a.map D.int)])=aA (t,a):=by
 show(oD (a.map D.int)).map _=_;rw[aAA];rfl
def zOa:jE (.t [.int t,.t (a.map D.int)])=aA (.inl (t,a)):=by
 show(oV _).map _=_;rw[uOa];rfl
def sv(h:zL a=aA b):WD .dict [.l a]=aA (.sh (.aB (aAw b ([],[])).1 (aAw b ([],[])).2)):=by
 show xT a=_;unfold xT;rw[h];rfl
def PQ(hk:jE e=aA k)(h:xK a b k=aA d):GD (aA (.aB a b)) e=aA (.sh d):=by
 show(((jE e).bind (xK a b)).map RV.sh)=_;rw[hk];show((xK a b k).map RV.sh)=_;rw[h];rfl
def N8(hk:jE e=aA k):PB .NotIn e (.aB a b)=aA !AI a k:=by
 show((jE e).map _).map _=_;rw[hk];rfl
theorem AX:WD .len [.aB a b]=aA (.sh (.int a.length)):=rfl
theorem qu:ev P C t (.NO i) U=aAh t (uR i U U[i]?):=rfl
noncomputable def Cc(i:Nat)(p:Bool)(l:List D)(U:Env)(o:Option D):zA RV:=o.map λd=>(.ok (.sh d),U.set i (.ow (.l l) p dA))
theorem nJa:uR i U (aA (.ow (.l a) p dA))=Cc i p a.dropLast U a[a.length-1]?:=rfl
theorem n_:Cc i p l U (aA d)=some (.ok (.sh d),U.set i (.ow (.l l) p dA)):=rfl
end CI
namespace CI
set_option tactic.hygienic true
open PySem PySem.Spec PyProof.Rows L2
section
variable{K:kA}{as:List Sl}
def JR(a:as.all FK=bA){i:Nat}(e:as[i]?=aA (.ow d p l)):False:=by
 have:=bF.mp a _ (xH e)
 cases this
def A4(b:as.all FK=bA):¬yA as τ a:=fun#[i,d,p,l,e,_]=>JR b e
def wPa(a:H P=aA (.JD c))(e:H b=aA o)(n:C3 o=bA):¬sD H P b:=λz=>by
 rcases z with rfl | z
 .rw[a] at e;cases e;cases n
 .rw[z] at e;cases e;cases n
def rMa(c:H P=aA (.JD f))(a:as.all FK=bA)(r:HA K as τ H G):HA K as τ (CD H P H) (CD H P G):=by
 refine#[r.len,λb o e=>?_,λi d e=>?_,λi d p l e=>(JR a e).elim,λi _ _ _ _ _ _ _ _ e _ _ _=>(JR a e).elim]
 .let(g,z):=Ka e;rw[XF z];exact r.sub b o g
 .let(v,h,j):=r.sh i d e;exact#[v,h,nA.mono (λb o n e=>by rw[XF (wPa c (r.sub b o e) n)];exact e) d j]
def vo(f:as.all FK=bA)(r:HA K as τ H G)(off:∀b,sD H P b->c b=eA)(x:Ext (yA as τ) (CD H P H) (CD H P G) c a)(s:WA a c) :
  DA K as τ H G as (yG H P H c) (yG H P G a)/\Sm a (yG H P G a):=by
 have gg:Sm G (yG H P G a):=λb o n e=>by
  by_cases z:sD H P b
  .rw[IL z];exact e
  .rw[zG z];exact x.gg b o n (by rw[XF z];exact e)
 refine#[#[#[r.len,λb o e=>?_,λi d e=>?_,λi d p l e=>(JR f e).elim,λi _ _ _ _ _ _ _ _ e _ _ _=>(JR f e).elim],#[gg,λb o e n=>?_,λb e=>?_,λb e g n=>?_],fE.refl _],λb o n e=>?_]
 .by_cases z:sD H P b
  .rw[IL z] at e ⊢;exact r.sub b o e
  .rw[zG z] at e ⊢;exact s b o e
 .let(v,h,j):=r.sh i d e;exact#[v,h,nA.mono gg d j]
 .by_cases z:sD H P b
  .rw[IL z];exact e
  .rw[zG z];exact x.hh b o (by rw[XF z];exact e) n
 .by_cases z:sD H P b
  .rw[IL z] at e;exact e
  .rw[zG z] at e
   have:=x.hx b e
   rwa[XF z] at this
 .by_cases z:sD H P b
  .rw[IL z];exact g
  .rw[zG z];exact x.gn b (by rw[XF z];exact e) (by rw[XF z];exact g) n
 .have z:¬sD H P b:=λz=>by
   have:=off b z
   rw[s b o e] at this;cases this
  rw[zG z];exact e
def zSa(i:as.all FK=bA)(off:∀b,sD H P b->e b=eA)(j:Sm c (yG H P G c))(h:dC K e c own (UC (CD H P H)) (.ow d) v):dC K (yG H P H e) (yG H P G c) (yA as τ) (UC H) (.ow d) v:=by
 let(a,rfl,g,o,n,m):=h;let(l,f):=o.there;have z:¬sD H P a:=λz=>by rw[off a z] at f;cases f
 have m:CD H P H a=eA:=m;rw[XF z] at m;exact#[a,rfl,by rw[zG z];exact g,o.mono j λp k=>by rw[zG z];exact k,A4 i,m]
def iPa:∀(is:List Nat) (U:Env) (as:List Sl) (c:Env),(∀i:Nat,((U[i]?).bind Sl.get).isSome=bA->∃v,B[i]?=aA (aA v))->aAk (is.map λ_=>dA) (is.map Hd.slot) U=aA (as,c) ->
  ∃b,OD K H G own new B (is.map Hd.slot) b/\b.length=is.length/\∀(j:Nat) v,b[j]?=aA v->∃i:Nat,is[j]?=aA i/\B[i]?=aA (aA v):=by
 intro is
 induction is with
 |nil=>exact λU as c _ _=>#[[],rfl,rfl,λj v h=>by simp at h]
 |cons i is F =>
  intro U as c k e
  have go:∀(m:Env) (o:Option (List Sl×Env)),o=aAk (is.map λ_=>dA) (is.map Hd.slot) m->(∃s,(o.map λ(as,n)=>(s::as,n))=aA (as,c))->(∀i:Nat,((m[i]?).bind Sl.get).isSome=bA->∃v,B[i]?=aA (aA v))->(∃v,B[i]?=aA (aA v)) ->
    ∃b,OD K H G own new B ((i::is).map Hd.slot) b/\b.length=(i::is).length/\∀(j:Nat) v,b[j]?=aA v->∃y:Nat,(i::is)[j]?=aA y/\B[y]?=aA (aA v):=by
   intro m o I #[s,J] r #[v,A];let(t,q,_):=map_cons J;let(b,M,N,O):=F m t c r (I.symm.trans q);refine#[v::b,#[v,b,rfl,A,M,λd a z=>(nomatch z)],by simp[N],λj w u=>?_]
   cases j with
   |zero=>erw[vH,rC] at u;subst u;exact#[i,rfl,A]
   |succ j=>exact O j w (↑u)
  rw[vB,vB,cR] at e;split at e
  .rename_i d x;exact go U _ rfl #[_,e] k (k i (by rw[x];rfl))
  .rename_i d p l x;have f:=k i (by rw[x];rfl);replace e:(if p||l then eA else(aAk (is.map λ_=>dA) (is.map Hd.slot) (U.set i (.sh d))).map λ(as,n)=>(Sl.sh d::as,n))=aA (as,c):=e;split at e
   .cases e
   .refine go _ _ rfl #[_,e] (λj C=>?_) f;by_cases g:j=i
    .subst g;exact f
    .rw[QC (λz=>g z.symm)] at C;exact k j C
  .cases e
end
section
variable{s:CA}
def Zq{cl:List (fA×iA)}(I:gA X cA B H s)(F:X.N=Y.N)(J:X.env.scope.names=Y.names)(f:vM Y scope)(M:Y.FH (aAl scope)=aA is)(b:∀x c,cl.lookup x=aA c->X.env.cells.lookup x=aA c)
  (o:∀p∈scope.names,p.2=.free->∃c,cl.lookup p.1=aA c) (O:q.length=is.length) (P:∀(j:Nat) v,q[j]?=aA v->∃i:Nat,is[j]?=aA i/\B[i]?=aA (aA v)):SH H s.heap scope cl (aAl scope) q:=by
 let(K,Q):=QZ M;let(m,hm,h):=I.loc;refine#[O.trans K,f.kind,f.cell,λx y c k n=>I.ok.inj x y c (b _ _ k) (b _ _ n),o,λx c e=>#[I.cell x c (b _ _ e),I.WE x c (b _ _ e)],λj x v t R=>?_];let(i,k,n):=P j v R;have w:x∈aAl scope:=xH t;let(p,U,rfl):=pE.mp w;let(A,g):=vN.mp U;have g:=EC g;have C:X.env.scope.names.lookup p.1=aA .cell\/X.env.scope.names.lookup p.1=aA .free:=by rw[J];exact f.out p A g
 let(u,r,l):=h i p.1 v (by rw[F];exact Q j p.1 i t k) n (.inr C);refine#[ja f w, ?_];rcases l with ⟨hk,_⟩ | ⟨_,c,Z,a⟩
 .have hk:X.env.scope.names.lookup p.1=aA .local:=hk;rcases C with z | z<;>(rw[hk] at z;cases z)
 .let(c',d):=o p A g
  have:=b _ _ d
  rw[Z] at this;cases this;exact#[c,u,d,a,r]
theorem SH.CD{cl:List (fA×iA)}(C:SH H h j cl m r):SH (CI.CD H P H) h j cl m r :=
 #[C.len,C.kind,C.cell,C.inj,C.has,λx c e=>#[(C.is x c e).1,gU (C.is x c e).2],C.val]
def vy(a:X.N=y::c)(I:gA X cA B H s):gA { X with N:=c } cA B.tail H s:=by
 have o:=I.ok;let(m,d,e):=I.loc;refine#[#[o.mod,o.kind,o.glob,o.blt,o.above,o.inj,o.has,o.eK,o.hd,o.frames,o.jI,o.aO,o.bs,o.cH,o.BK,o.sL,o.kF,o.aI],I.os,I.bare,I.base,#[m,d,λi x v f b=>e (i+1) x v (by rw[a];exact f) (by rw[y6] at b;exact b)],I.cell,I.free,I.WE,I.pin,I.LA, ?_]
 have:=I.len
 rw[a] at this;rw[List.length_tail,this];rfl
def uy(a:X.N=y::d)(o:X.Ok)(I:gA { X with N:=d } cA B H s):gA X cA (eA::B) H s:=by
 let(m,e,f):=I.loc;refine#[o,I.os,I.bare,I.base,#[m,e,λi x v b c=>?_],I.cell,I.free,I.WE,I.pin,I.LA, ?_]
 .cases i with
  |zero=>cases c
  |succ i=>exact f i x v (by rw[a] at b;exact b) c
 .rw[a,KC,KC,I.len]
def y4{st:MA}{aAj:List MA}{D:Ends}(h:sA (~~~X) X.A (exec st X.env) (SP X cA { nx:=Z,rt:=λ_ _=>False }) X.xe s)
  (k:∀a b c,gA X cA a b c->Z a b->sA (~~~X) X.A (execs aAj X.env) (SP X cA D) X.xe c):sA (~~~X) X.A (execs (st::aAj) X.env) (SP X cA D) X.xe s:=by
 refine M6 (UA h λf d q=>?_)
 cases f with
 |next =>
  let(a,b,e,q):=q;exact k a b d e q
 |ret v=>let(_,_,_,_,_,z):=q;exact z.elim
 |brk=>let(_,_,_,z):=q;exact z.elim
 |cont=>let(_,_,_,z):=q;exact z.elim
end
def Ld(h:aAF a=bA):a=#[[],[],eA,[],[],eA,[]]:=by
 let(b,c,d,e,f,g,i):=a;erw[aAF,XA,lS,Option.isNone_iff_eq_none] at h;obtain⟨⟨⟨⟨⟨⟨rfl,rfl⟩,rfl⟩,rfl⟩,rfl⟩,rfl⟩,rfl⟩:=h;rfl
def sMa{K:kA}(s:WA G H)(e:B[0]?=aA (aA v1))(f:B[1]?=aA (aA a))(g:nA K G b v1)(j:nA K G c a)(k:B.length=n+2):HA K (.sh b::.sh c::qB n .un) B H G:=by
 have un:∀{i:Nat} {sl:Sl},(qB n Sl.un)[i]?=aA sl->sl=.un:=λh=>by
  rw[GN] at h;split at h
  .exact(ED h).symm
  .cases h
 have no:∀{i:Nat} {d:D} {p l:Bool},(Sl.sh b::.sh c::qB n .un)[i]?≠aA (.ow d p l):=λ{i d p l} h=>by
  obtain _ | _ | i:=i
  .cases h
  .cases h
  .cases un (show(qB n Sl.un)[i]?=_ from h)
 refine#[by simp[k],s,λi d h=>?_,λi d p l h=>(no h).elim,λi _ _ _ _ _ _ _ _ h _ _ _=>(no h).elim];obtain _ | _ | i:=i
 .cases h;exact#[v1,e,g]
 .cases h;exact#[a,f,j]
 .cases un (show(qB n Sl.un)[i]?=_ from h)
inductive Y7(told er fo n ce:Str)(aAj:List Stmt):List Stmt->Prop
 |mk (j1 j2:Nat) (p1 p2 p3 p4 p5 p6 p7 p8 p9 qe se ue we ye ze Ae:GB):Y7 told er fo n ce aAj (.Assign [.Name er p1] (.Constant .none j1 p2) p3::.Assign [.Name fo p4] (.Constant .none j2 p5) p6::.Try [.Assign [.Name fo p7] (.Call (.Name told p8) [] [] p9) qe] [.ExceptHandler (aA (.Name ce se)) (aA n) [.Assign [.Name er ue] (.Name n we) ye] ze] [] [] Ae::aAj)
structure VW(T:Tab)(gl:fA->GV)(bd:List MA)(sc:PD)(s:String)(cs:List fA)(told er fo n ce:fA)(ot:List fA)(aAj:List MA)(i:Nat)(fn:Fn):Prop where
 hb:Y7 told er fo n ce aAj bd
 v:sc.names.lookup told=aA .local/\sc.names.lookup er=aA .local/\sc.names.lookup fo=aA .local/\sc.names.lookup n=aA .local/\SF told=dA/\SF n=dA/\(told::er::fo::ot)[i]?=aA n/\3<=i
 hex:CC.lO #[told::er::fo::ot,sc.names,gl,bA] ce=.JA cs
 hT:T s=aA fn
 PM:fn=#[[dA,dA],ot.length,cT #[er::fo::ot,sc.names,gl,bA] aAj,dA]
inductive VP(K:PySem.W.Frag)(mg:Str->Option Value)(T:Tab)(gl:Str->GV)(x:Str)(s:String)(cs:List Str):Prop
 |mk (fa:iA) (fd:JG) (st:MA) (told er fo n ce:fA) (ot:List fA) (aAj:List MA) (i:Nat) (fn:Fn) (hm:mg x=aA (.ref fa)) (F:tI K x x st fa fd) (hB:aAt K fd [told] []) (Sc:sI (told::er::fo::ot) [told] (TB st)) (q:VW T gl (XD st) (TB st) s cs told er fo n ce ot aAj i fn)
inductive Vn(K:PySem.W.Frag)(own:Addr->Prop)(H0 G:Hp)(C:List Sl->zA RV)(r:RV)(B:L2.St)(H:Hp):Prop
 |mk (G':Hp) (de df:D) (v1 v2:V) (dr:D) (lL:List Sl) (hr:r=.ow dr) (x:Ext own H0 G H G') (sm:WA G' H) (g1:B[1]?=aA (aA v1)) (g2:B[2]?=aA (aA v2)) (q1:nA K G' de v1) (q2:nA K G' df v2) (e:C [.sh de,.sh df]=some (.ok (.ow dr),lL))
def l4(h:JL as o=some (.ok r,b)):∃dr a,r=.ow dr/\o=some (.ok (.ow dr),a)/\b=as:=by
 rcases o with _ | ⟨(_ | d | _) | _,a⟩<;>first | cases h;done | skip
 cases h;exact#[d,a,rfl,rfl,rfl]
def bg(h:RO b f as o=some (.ok r,a)):(∃v U,o=some (.ok v,U)/\JL as (f [.sh .lA,.sh v.d])=some (.ok r,a))\/∃x U,o=some (.ex x,U)/\b.contains x.cls=bA/\JL as (f [.sh (.zC x.cls x.num),.sh .lA])=some (.ok r,a):=by
 rcases o with _ | ⟨v | x,U⟩
 .cases h
 .exact .inl #[v,U,rfl,h]
 .replace h:(if b.contains x.cls=bA then JL as (f [.sh (.zC x.cls x.num),.sh .lA]) else eA)=_:=h;by_cases c:b.contains x.cls=bA
  .rw[RA c] at h;exact .inr #[x,U,rfl,c,h]
  .rw[if_neg c] at h;cases h
section
variable{Y:Cx}{T:Tab}{gl gl':fA->GV}{W d:Nat}{s:String}{cs:List fA}{cA:List (iA×kB)}{B:L2.St}{G:Hp}{s2:CA}{f c':iA}{q:fA}{ps:JS}{body:xA}{sc:PD}{cl:List (fA×iA)}{TX:jA}{oc:kB}{zZ:Array jA}{t:Tok}{xs:List V}{as:List Sl}{En:Ends}{r:RV}
def iOa{M m C:fA}{aAj:List MA}{F H d:D}{v1 v2:V}{lL:List Sl}{E:Ends}(g:UJ Y.w.params Y.K Y.mg T gl)(ih:∀d,qM Y.prog Y.w Y.K Y.mg Y.base T gl W d)(hr:YB (2*n+3) Y.A)(calm:Y.calm=bA)(O:Y.stack=Y.env::Y.outer)(fr:Y.env.frame=aA Y.env.locals)
  (po:IG (~~~Y) Y.A Y.env Y.xe) (PM:∀x,Y.fn x=bA) (hN:Y.N=M::m::C::j) (nd:Y.N.Nodup) (hT:T s=aA fn) (P:fn=#[[dA,dA],j.length,cT #[m::C::j,Y.env.scope.names,gl,bA] aAj,dA])
  (J:gA Y cA B Q s2) (h1:B[1]?=aA (aA v1)) (h2:B[2]?=aA (aA v2)) (sm:WA R Q) (r1:nA Y.K R F v1) (r2:nA Y.K R H v2) (e:run T W (n+1) s [.sh F,.sh H]=some (.ok (.ow d),lL))
  (k:∀v I U,Ext (λ_=>False) Q R I U->WA U I->dC Y.K I U (λ_=>False) (UC Q) (.ow d) v->E.rt v I):sA (~~~Y) Y.A (execs aAj Y.env) (SP Y cA E) Y.xe s2:=by
 subst P;have J2:=vy hN J;have hl:B.tail.length=j.length+2:=by rw[J2.len];rfl
 have rl:HA Y.K (.sh F::.sh H::qB j.length .un) B.tail Q R:=sMa sm (by rw[y6];exact h1) (by rw[y6];exact h2) r1 r2 hl
 have no:∀a,¬yA (.sh F::.sh H::qB j.length .un) B.tail a:=λa hz=>by
  let(i,d,p,l,z,_):=hz;obtain _ | _ | i:=i
  .cases z
  .cases z
  .have z:(qB j.length Sl.un)[i]?=aA (.ow d p l):=z;rw[GN] at z;split at z<;>cases z
 have D2:(m::C::j).Nodup:=by rw[hN] at nd;exact(xN.mp nd).2
 have xo:NA { Y with N:=m::C::j } Y.K T.cA (run T W n) #[m::C::j,Y.env.scope.names,gl,bA]:=WR (X:={ Y with N:=m::C::j }) (gl:=gl) (λ_ _ _ h=>h) g (ih n) D2 hr rfl rfl calm #[_,_,_,O,fr,fr] (WG.fN g.fN);refine UA (LX (X:={ Y with N:=m::C::j }) (W:=W) po xo (λx _=>.inl (PM x)) (λ_=>#[O,fr]) aAj cA s2 B.tail Q { nx:=λ_ _=>False,rt:=E.rt } J2 ?_) λfl s3 h=>?_
 .rw[DR hT rfl rfl] at e;change WQ _ (JA T.cA (run T W n) W (cT #[m::C::j,Y.env.scope.names,gl,bA] aAj) (.sh F::.sh H::qB j.length .un))=_ at e
  cases q:JA T.cA (run T W n) W (cT #[m::C::j,Y.env.scope.names,gl,bA] aAj) (.sh F::.sh H::qB j.length .un) with
  |none=>rw[q] at e;cases e
  |some y =>
   let(fl,U'):=y;rw[q] at e;refine#[_,R,fl,U',rl,q, ?_]
   induction fl using Fl.casesOn with
   |nx=>cases e
   |rt v' =>
    cases e;intro x' B' I U a hv;let(c,rfl,gc,oc,nc,Z):=hv;refine k _ I U #[a.ext.gg,λb o e n=>a.ext.hh b o e (no b),a.ext.hx,λb e g n=>a.ext.gn b e g (no b)] a.qA.sub #[c,rfl,gc,oc,λz=>z, ?_];rcases Z with Z | Z
    .exact absurd Z (no c)
    .exact Z
   |bk=>cases e
   |ct=>cases e
   |ex x'=>cases e
 .cases fl with
  |ret u =>
   let(v,B3,H3,J3,rv,z):=h;exact#[v,_,H3,uy hN J.ok J3,rv,z]
  |next=>let(_,_,_,z):=h;exact z.elim
  |brk=>let(_,_,_,z):=h;exact z.elim
  |cont=>let(_,_,_,z):=h;exact z.elim
def Y_{s:CA}{E:XK}(I:gA X cA B H s)(y:∀cA a C p i l,gA X cA B i l->qI X cA i l.heap a C p->E (.ref C) p i->X.xe (.ref a) l)
  (J:gA (gE X q c f m cl n s H) g B2 j s2) (F:qI (gE X q c f m cl n s H) g j s2.heap a C p) (h:E (.ref C) p j):(gE X q c f m cl n s H).xe (.ref a) s2:=by
 refine gd J rfl rfl F λA k K=>?_
 let(M,N,O,T,P,Q,R,U,hd,Z,v,h1,o,hT,u,h3):=K
 have x:∀b,kD (gE X q c f m cl n s H) g j b->s.heap.get? b=eA:=λb fb=>by
  rcases fb.2.2.2.1 with z | z
  .exact absurd (show b∈([]:List iA) from z) (by simp)
  .exact z
 have c1:RH X.prog X.w X.stack H s E (.ref a) { s2 with heap:=A } :=
  #[a,C,p,j,rfl,k.os,k.bare,k.base,k.LA,x a F.1,F.1.1,#[M,N,O,T,P,Q,R,U,hd,Z,x T v,v.1,h1,o,hT,u,h3],h]
 let(a',C',p',i,e,I',F',e'):=m9 I c1;cases e;exact y cA a C' p' i _ I' F' e'
def dOa{aAj:List MA}{fn:Fn}{h:String}(g:UJ Y.w.params Y.K Y.mg T gl)(ih:∀d,qM Y.prog Y.w Y.K Y.mg Y.base T gl W d)(kx:∀x v,(∀y s cs,v≠.FF y s cs)->gl' x=v->gl x=v)
  (hr:YB (2*d+5) Y.A) (calm:Y.calm=bA) (jI:Y.stack=Y.env::Y.outer) (fr:Y.env.frame=aA Y.env.locals) (po:IG (~~~Y) Y.A Y.env Y.xe) (PM:∀x,Y.fn x=bA) (yx:Y.ex=[]) (hN:Y.N=R::er::fo::ot) (nd:Y.N.Nodup) (q0:VW T gl bd Y.env.scope s cs R er fo n ce ot aAj i fn)
  (hf:Y.s₀.heap.get? f=aA (xJ Y q #[[],[],eA,[],[],eA,[]] body sc cl (.ref c') TX)) (nf:Y.H₀ f=eA) (ff:f ∉ Y.fs) (hc:Y.s₀.heap.get? c'=aA oc) (hd:oc.data=.fields zZ) (hq:zZ[1]?=aA (.str q t)) (nc:Y.H₀ c'=eA) (C:SH Y.H₀ Y.s₀.heap sc cl (aAl sc) xs) (ndf:(aAl sc).Nodup)
  (co:sc.isCoroutine=dA) (gen:sc.isGenerator=dA) (Aa:cE #[aAl sc,sc.names,gl',dA] body=.call h hs) (qA:HA Y.K as (xs.map aA) Y.H₀ G) (ha:as.all FK=bA) (eh:vC T.cA (run T W d) hs as=some (.ok RM,U1)) (e:RO cs (run T W d s) as (HC (T.cA h) (run T W d h) RM U1)=some (.ok r,g8))
  (J:gA Y cA B Y.H₀ s2) (h0:B[0]?=aA (aA (.ref f)))
  (k:∀v c M,Ext (yA as (xs.map aA)) Y.H₀ G c M->WA M c->dC Y.K c M (λ_=>False) (UC Y.H₀) r v->En.rt v c) :
  sA (~~~Y) Y.A (execs bd Y.env) (SP Y cA En) Y.xe s2:=by
 obtain⟨⟨j1,j2,p1,p2,p3,p4,p5,p6,p7,p8,p9,qe,se,ue,we,ye,ze,Ae⟩,hv,hex,hT,Zw⟩:=q0;have v2:=hv.2.1;have v3:=hv.2.2.1;have hn:=hv.2.2.2.2.2.2.1;have hi3:=hv.2.2.2.2.2.2.2;have FZ:=hv.2.2.2.2.1;erw[SF,YR] at FZ;have ne1:Y.N[1]?=aA er:=by rw[hN];rfl
 have ne2:Y.N[2]?=aA fo:=by rw[hN];rfl
 have hl:B.length=ot.length+3:=by rw[J.len,hN];rfl
 have st:L2.start (aAl sc) xs=xs.map aA:=by(unfold L2.start;rw[C.len,zP,r6,RD])
 have G9:ev T.cA (run T W d) dA (.call h hs) as=HC (T.cA h) (run T W d h) RM U1:=by(show aAh dA ((vC T.cA (run T W d) hs as).bind λhs U1=>HC (T.cA h) (run T W d h) hs U1)=_;rw[eh];rfl)
 have XL:∀(E:jA->CA->Prop) (pn:List (iA×kB)) (s:CA) (H:Hp),NA (gE (Cx.re Y E pn) q sc f (.ref c') cl (aAl sc) s H) Y.K T.cA (run T W d) #[aAl sc,sc.names,gl',dA]:=λE pn s H =>
  WR (X:=gE (Cx.re Y E pn) q sc f (.ref c') cl (aAl sc) s H) kx g (ih d) ndf ((hr.deeper _).mono (by lia)) rfl rfl rfl #[_,_,_,rfl,rfl,rfl] (WG.no rfl)
 have xo:NA Y Y.K T.cA (run T W d) #[R::er::fo::ot,Y.env.scope.names,gl,bA]:=WR (gl:=gl) (λ_ _ _ h=>h) g (ih d) (hN ▸ nd) (hr.mono (by lia)) hN rfl calm #[_,_,_,jI,fr,fr] (WG.fN g.fN)
 have TP:∀(E:jA->CA->Prop) (pn:List (iA×kB)) (tq:TE),(∀cA B H s Q,gA (Cx.re Y E pn) cA B H s->tq B H Q->∀s2,gA (gE (Cx.re Y E pn) q sc f (.ref c') cl (aAl sc) s H) [] (L2.start (aAl sc) xs) H s2->sA (~~~Y) (gE (Cx.re Y E pn) q sc f (.ref c') cl (aAl sc) s H).A (eval body (gE (Cx.re Y E pn) q sc f (.ref c') cl (aAl sc) s H).env) (EP (gE (Cx.re Y E pn) q sc f (.ref c') cl (aAl sc) s H) [] (L2.start (aAl sc) xs) Q) (gE (Cx.re Y E pn) q sc f (.ref c') cl (aAl sc) s H).xe s2) ->
   PE (Cx.re Y E pn) (.Call (.Name R p8) [] [] p9) (λB H Q=>B[0]?=aA (aA (.ref f))/\tq B H Q):=λE pn tq hb =>
  pIa (X:=Cx.re Y E pn) (by show Y.N[0]?=_;rw[hN];rfl) (.inl hv.1) yx hr hf nf ff hc hd hq nc C (λ_=>rfl) co gen hb FZ.1.1 FZ.1.2
 refine y4 (Z:=λB' c=>B'=B.set 1 (aA .lA)/\c=Y.H₀) (OO nd ne1 (.inl v2) i3 rfl (.inr v2) cA s2 B _ _ J #[rfl,rfl]) λB' c s3 J hz=>?_
 let(e1,e2):=hz;subst e1 e2;refine y4 (Z:=λB' c=>B'=(B.set 1 (aA .lA)).set 2 (aA .lA)/\c=Y.H₀) (OO nd ne2 (.inl v3) i3 rfl (.inr v3) cA s3 _ _ _ J #[rfl,rfl]) λB' c s4 J hz=>?_
 let(e1,e2):=hz;subst e1 e2;generalize hB:(B.set 1 (aA .lA)).set 2 (aA .lA)=τ at J;have t0:τ[0]?=aA (aA (.ref f)):=by rw[<- hB,QC (by decide),QC (by decide)];exact h0
 have t1:τ[1]?=aA (aA .lA):=by rw[<- hB,QC (by decide),NF (by lia)]
 have t2:τ[2]?=aA (aA .lA):=by rw[<- hB,NF (by rw[eE];lia)]
 have tl:τ.length=ot.length+3:=by rw[<- hB,eE,eE,hl]
 refine y4 (Z:=Vn Y.K (yA as (xs.map aA)) Y.H₀ G (run T W d s) r) ?_ λB' c s5 J5 z=>?_
 rotate_left
 .let(M,de,df,w1,w2,dr,lL,rfl,x,sm,g1,g2,q1,q2,er):=z
  obtain⟨m,rfl⟩:∃m,d=m+1:=by
   cases d with
   |zero=>cases er
   |succ m=>exact#[m,rfl]
  exact iOa g ih (hr.mono (by lia)) calm jI fr po PM hN nd hT Zw J5 g1 g2 sm q1 q2 er λv H2 G2 x2 sm2 vr=>k v H2 G2 (x.trans (λ_ z=>z.elim) x2) sm2 (vr.KH λa z=>x.hx a z)
 rcases bg e with ⟨v,O,ed,e⟩ | ⟨u,O,ed,Uw,e⟩
 .rw[ed] at G9;let(dr,lL,rfl,er,_):=l4 e;refine fSa (t:=λD B' c=>B'=τ/\c=Y.H₀/\∀x c M,DA Y.K as (xs.map aA) Y.H₀ G O c M->dC Y.K c M (yA O (xs.map aA)) (UC Y.H₀) v x->D.nx (τ.set 2 (aA x)) c) (λE pn _ cA s5 B5 H5 D5 I5 #[e1,e2,k5]=>?_) J #[rfl,rfl,λx c M a vr=>?_]
  .subst e1 e2;refine M3 (OO (X:=Cx.re Y E pn) nd ne2 (.inl v3) (TP E pn (λB H Q=>H=Y.H₀/\∀x c M,DA Y.K as (xs.map aA) Y.H₀ G O c M->dC Y.K c M (yA O (xs.map aA)) (UC Y.H₀) v x->Q x c) λcA B H s Q I #[e1,kq] s3 I3=>?_) rfl (.inr v3)) cA s5 _ _ D5 I5 #[t0,rfl,k5];subst e1;refine(sE (XL E pn s Y.H₀) body).v [] s3 _ _ Q I3 #[as,G,v,O,by rw[st];exact qA,by rw[Aa];exact G9, ?_];rw[st];exact kq
  .let(G3,a3,rp):=a.share vr;refine#[G3,.lA,v.d,.lA,x,dr,lL,rfl,a3.ext,a3.qA.sub,by rw[QC (by decide)];exact t1,NF (by lia),by simp[nA],rp,er]
 .let(dr,lL,rfl,er,_):=l4 e
  have yu:VF T.cA (run T W d) (.call h hs) as=aA (u,O):=by
   rw[K9,eh];show(match HC (T.cA h) (run T W d h) RM U1 with | some (.ex x,U')=>aA (x,U') | _=>eA)=_;rw[ed]
  generalize hU:qB (ot.length+3) Sl.un=U
  have hu:∀(j:Nat) (sl:Sl),U[j]?=aA sl->sl=.un:=λj sl z=>by
   rw[<- hU,GN] at z;split at z
   .exact(ED z).symm
   .cases z
  have hg:∀j,j<ot.length+3->U[j]?=aA .un:=λj z=>by rw[<- hU,GN,RA z]
  have rl:∀c M,WA M c->HA Y.K U τ c M:=λc M sm=>#[by rw[tl,<- hU,f6],sm,λj d z=>(nomatch hu j _ z),λj d p l z=>(nomatch hu j _ z),λj _ _ _ _ _ _ _ _ z _ _ _=>(nomatch hu j _ z)]
  have hi:i<ot.length+3:=(LD.mp hn).1;have s1:store i (.sh (.zC u.cls u.num)) U=aA (U.set i (.sh (.zC u.cls u.num))):=by unfold store;rw[hg i hi]
  have s2':store 1 (.sh (.zC u.cls u.num)) (U.set i (.sh (.zC u.cls u.num)))=aA ((U.set i (.sh (.zC u.cls u.num))).set 1 (.sh (.zC u.cls u.num))):=by(unfold store;rw[QC (by lia),hg 1 (by lia)])
  refine gSa xo jI fr (U:=U) (G:=G) (cs:=cs) (λE po kk=>?_) hex (by rw[hN];exact hn) hv.2.2.2.1 hv.2.2.2.2.2.1 ne1 (.inl v2) (.inl (PM _)) J Uw (by lia) s1 s2' λB' c M a=>?_
  .refine yF (M3 (OO (X:=Cx.re Y E (Y.pn++cA)) nd ne2 (.inl v3) (TP E (Y.pn++cA) (λB H Q=>H=Y.H₀/\B=τ) λcA B H s Q I #[e1,e2] s3 I3=>?_) rfl (.inr v3)) [] s4 τ Y.H₀ TU (VZ J) #[t0,rfl,rfl]) (λ_ _ z=>(SP.no z).elim) λ_ _ z=>z
   subst e1 e2;refine VN (XL E (Y.pn++_) s Y.H₀) body [] s3 _ _ Q I3 #[as,G,u,O,by rw[st];exact qA,by rw[Aa];exact yu,λIF B' c M s' a Ca p P J' F pO ox JZ=>?_];refine Y_ (E:=λCv p Ul=>∃M7 Cb,Cv=.ref Cb/\HB Y.K U B Y.H₀ G U B Ul M7/\CB Y.K cB u.cls=aA (aA (.ref Cb))/\EE Y.K Cb/\YJ Y.K M7 Cb p u) I (λeJa a6 C6 p6 H6 s6 I6 F6 #[G6,Cb,z1,z2,z3,z4,z5]=>?_) J' F #[M,Ca,rfl, ?_,pO,ox,JZ]
   .cases z1;exact kk eJa _ H6 G6 s6 a6 _ p6 z2 I6 F6 z3 z4 z5
   .rw[st] at P;exact#[rl _ _ P.qA.sub,#[P.ext.gg,λb o z _=>P.ext.hh b o z (A4 ha),P.ext.hx,λb z g _=>P.ext.gn b z g (A4 ha)],λb hz=>(by let(j,d,p,l,z,_):=hz;exact(nomatch hu j _ z)),λj z=>#[z,rfl],λj d l z=>(nomatch hu j _ z),rfl]
  .have ge:∀j,j≠i->j≠1->(((U.set i (.sh (.zC u.cls u.num))).set 1 (.sh (.zC u.cls u.num))).set i .mv)[j]?=U[j]?:=λj n1 n2=>by rw[QC (rD n1),QC (rD n2),QC (rD n1)]
   have g1:(((U.set i (.sh (.zC u.cls u.num))).set 1 (.sh (.zC u.cls u.num))).set i .mv)[1]?=aA (.sh (.zC u.cls u.num)):=by(rw[QC (by lia),NF];rw[eE,<- hU,f6];lia)
   let(w1,z1,z2):=a.qA.sh 1 _ g1;have z3:=(a.un 2 (by rw[ge 2 (by lia) (by decide)];exact hg 2 (by lia))).2;refine#[M,_,.lA,w1,.lA,dr,lL,rfl,#[a.ext.gg,λb o z _=>a.ext.hh b o z fun#[j,d,p,l,y,_]=>(nomatch hu j _ y),a.ext.hx,λb z g _=>a.ext.gn b z g λhz=>(by let(j,d,p,l,y,_):=hz;exact(nomatch hu j _ y))],a.qA.sub,z1,by rw[z3];exact t2,z2,by simp[nA],er]
end
section
variable{B:L2.St}
def aOa(e:FR i f c h as=some (.ok r,a)):as.all FK=bA/\∃d g,h as=some (.ok d,g)/\RO i f as (c d g)=some (.ok r,a):=by
 unfold FR at e;by_cases b:as.all FK=bA
 .rw[RA b] at e;rcases q:h as with _ | ⟨_ | _,_⟩<;>rw[q] at e
  .cases e
  .exact#[b,_,_,rfl,e]
  .cases e
 .rw[if_neg b] at e;cases e
def eOa{cl:List (fA×iA)}
  (g:UJ X.w.params X.K X.mg T m) (ih:∀d,qM X.prog X.w X.K X.mg X.base T m W d) (o:∀x v,(∀y s p,v≠.FF y s p)->gl' x=v->m x=v) (S:VP X.K X.mg T m x s p) (hr:YB (2*d+6) X.A) (t:X.mg x=aA (.ref fa)) (I:gA X cA B H j) (hP:H P=aA (.JD tps))
  (hf:j.heap.get? f=aA (xJ X q ps body b cl cv TX)) (nf:H f=eA) (ff:f ∉ BD X.stack) (hc:JW H j.heap P q cv) (C:SH H j.heap b cl (aAl b) u) (M:(aAl b).Nodup) (co:b.isCoroutine=dA) (gen:b.isGenerator=dA) (O:aAF ps=bA)
  (R:cE #[aAl b,b.names,gl',dA] body=.call h hs) (qA:HA X.K as (u.map aA) H G) (e:FR p (run T W d s) (HC (T.cA h) (run T W d h)) (vC T.cA (run T W d) hs) as=some (.ok r,c))
  (k:∀v U G',DA X.K as (u.map aA) H G c U G'->dC X.K U G' (yA c (u.map aA)) (UC H) r v->Q v U):sA (~~~X) X.A (call (.ref fa) [.ref f]) (EP X cA B Q) X.xe j:=by
 let(Fv,fd,st,a,er,fo,n,ce,ot,aAj,i,fn,hm,F,hB,Sc,q0):=S;rw[t] at hm;cases hm;let(oc,od,kV,doc,pm,an,Z,ct,CK,rfl,lk,Ea):=F.ex;let(c',o',zZ,t',rfl,nc,c1,c2,c3):=hc;obtain rfl:=Ld O;let(l,RM,U1,eh,e):=aOa e
 obtain⟨dr,rfl,rfl⟩:∃dr,r=.ow dr/\c=as:=by
  rcases bg e with ⟨_,_,_,z⟩ | ⟨_,_,_,_,z⟩<;>exact let #[dr,_,h1,_,h2]:=l4 z;#[dr,h1,h2]
 refine Pq (k:=2*d+5) (vs:=[.ref f]) (us:=[.ref f]) (N:=a::er::fo::ot) I hP lk Ea Sc hr (hB j [.ref f] I.vD rfl) (.cons rfl .nil) rfl λs2 J=>?_
 refine dOa (Y:=bD SD X.prog X.w X.K X.mg X.base (a::er::fo::ot) x (TB st) fa Z X.A X.stack j (CD H P H) λ_ _ _=>False) (G:=CD H P G) g ih o (hr.deeper _) rfl rfl rfl L6 (λ_=>rfl) rfl rfl Sc.nd q0
  hf (gU nf) ff c1 c2 c3 (qO (.inr nc)) C.CD M co gen R (rMa hP l qA) l eh e J rfl λv H3 G3 x3 sm vr off=>?_
 let(a1,a2):=vo l qA off x3 sm;exact k v _ _ a1 (zSa l off a2 vr)
def i'(L:KW X c P (X.env.qual ++ "<lambda>"))(g:UJ X.w.params X.K X.mg T J)(ih:∀d,qM X.prog X.w X.K X.mg X.base T J W d)(M:∀x v,(∀y s j,v≠.FF y s j)->gl' x=v->J x=v)(hr:YB (2*d+6) X.A)(hN:X.N=N)
  (hS:∀x s j,gl' vK=.FF x s j->VP X.K X.mg T J x s j):WG X X.K T.cA (run T W d) #[N,X.env.scope.names,gl',bA]:=by
 intro x s j hx ps body n qVa p pos is h hs q O R Z xe pn;have S:=hS x s j hx;replace q:(if(bA&&CC.GR #[N,X.env.scope.names,gl',bA] n && !n.isCoroutine && !n.isGenerator&&aAF ps)=bA then CC.FH #[N,X.env.scope.names,gl',bA] (aAl n) else eA)=aA is:=q;split at q
 case isFalse=>cases q
 rename_i t;erw[QH,XA,Kk] at t;obtain⟨⟨⟨k1,k2⟩,k3⟩,k4⟩:=t;have sk:=dg k1;let(fa,fd,st,_,_,_,_,_,_,_,_,_,hm,F,_,_,_):=id S;obtain rfl:=Ld k4;intro cA s0 B H Q I #[U,G,v,U',r,e,k];replace e:HC (is.map λ_=>dA) (FR j (run T W d s) (HC (T.cA h) (run T W d h)) (vC T.cA (run T W d) hs)) (is.map Hd.slot) U=some (.ok v,U'):=e;let(cl,pO,ir,jr):=X8 (env:=X.env) (scope:=n) λp hp hf=>I.ok.has p.1 (sk.out p hp hf)
 have m:∃as U4,aAk (is.map λ_=>dA) (is.map Hd.slot) U=aA (as,U4):=by
  unfold HC at e
  cases q4:aAk (is.map λ_=>dA) (is.map Hd.slot) U with
  |none=>rw[q4] at e;cases e
  |some y=>exact#[y.1,y.2,rfl]
 let(bT,U4,m):=m;refine gIa (X:={ X with xe:=xe,pn:=pn }) #[L.code,L.hd,L.bt,L.Md,L.tb] R hm F.kp pO rfl rfl Z (xC rfl _ _) rfl I λf TX cv s1 u I1 C a2 a3 a4 a5 a6 a7=>?_
 have r1:HA X.K U B u G:=by(refine#[r.len,λb o z=>C b o (r.sub b o z),r.sh,λi d p l z=>?_,r.inj];let(a,z1,z2,z3):=r.ow i d p l z;exact#[a,z1,z2,z3.mono (Sm.refl _) λo z=>C a o z])
 have Xx:∀b,u b=eA->H b=eA:=λb z=>by
  cases w:H b with
  |none=>rfl
  |some o=>rw[C b o w] at z;cases z
 have up:DA X.K U B H G U u G:=#[r1,#[Sm.refl _,λb o z _=>C b o z,Xx,λb _ z _=>z],fE.refl _]
 let(xs,mU,nU,oU):=iPa (K:=X.K) (H:=u) (G:=G) (own:=yA U B) (new:=UC H) is U bT U4 (λi z=>r.bound z) m;let(as,G2,g8,ra,oO,ef,_,kk):=pQ up mU e;let(t0,LZ):=L.tb;let(more,hP):=I1.base.sH P _ LZ
 exact eOa (X:={ X with xe:=xe,pn:=pn }) (gl':=gl') g ih M S hr hm I1 hP a4 a5 a6 a7 (Zq (Y:=#[N,X.env.scope.names,gl',bA]) I1 hN rfl sk q ir jr nU oU) (UK.mp sk.nd).1 k2 k3 k4 O ra ef λv2 H2 G3 YW vr=>by(let(z1,z2):=kk v2 H2 G3 YW vr;exact k v2 H2 G3 z1 z2)
end
def va(x:fA)(v:GV)(n:∀y s a,v≠.FF y s a)(h:eD ((vK,.FF y b a)::L) x=v):eD L x=v:=by
 unfold eD at h ⊢;rw[QG] at h;split at h
 .exact absurd h.symm (n _ _ _)
 .exact h
abbrev Xc(x:fA):fA:=(x++(".<locals>.":fA))++("<lambda>":fA)
def K'{K:kA}{st:MA}(g:UJ w.params K mg T (eD L))(S:VP K mg T (eD L) y t u)(F:tI K x x st i p)(a:p.code=.ref c)
  (O:gL (eD ((vK,.FF y t u)::L)) st x fn) (z:T f=aA fn) (B:vP base c P) (C:base.BuiltinsAt mg P) (b:base.get? P=eA) :
  qE j w K mg base SD (2*n+7) i p (YC st) (λl H Q E=>H P=aA (.JD [.str (Xc x) 0].toArray)/\SO K (YC st).length (run T W (n+1) f) l H Q E):=by
 let(oc,od,kV,I,pm,an,m,ct,J,rfl,M,o):=F.ex;obtain rfl:m=.ref c:=a;refine kZ M o O.sc (λl H Q E h=>h.2.1) λA outer s H l Q E q h=>?_
 let(R,hl,as,G,v,U,qA,Y,Z,k):=h;have r:∀d,qM j w K mg base T (eD L) W d:=λd=>xZ W g d
 have lam:=i' (X:=bD SD j w K mg base (IH st) x (TB st) i (.ref c) A outer s H E) (d:=n) (N:=IH st) #[rfl,B,C,b,#[0,R]] g r va q rfl (λx' s' cs' e=>by
  unfold eD at e;rw[QG,ZL] at e;cases e
  exact S)
 have xo:=WR (X:=bD SD j w K mg base (IH st) x (TB st) i (.ref c) A outer s H E) va g (r n) O.sc.nd (q.mono (by lia)) rfl rfl rfl #[_,_,_,rfl,rfl,rfl] lam;refine#[_,LX L6 xo (λ_ _=>.inl rfl) (λ_=>#[rfl,rfl]) (XD st),Yf z O.body O.len qA Z k]
def E'{K:kA}
  (KX:K.In f.heap) (C:f.heap.Ns cB mg) (g:f.heap.Ns builtinsNs mb) (Ow:∀x:fA,x≠"__name__"->mb x=KJ x) (Q:f.heap.NoLimit) (hg:f.gens=[].toArray)
  (I:f.heap.get? a=aA { cls:=.type "list",data:=.seq vs.toArray }) (hi:GP vs ns) (hl:ns.length<=sizeLine) (hr:YB k callerA) (hC:vP f.heap c Pt) (j:f.heap.get? Pt=aA (Hl [].toArray)) (Ax:Il K=bA)
  (Pw:∃R y,mg "__builtins__"=aA (.ref R)/\R≠builtinsNs/\f.heap.get? R=aA y/\y.cls=.type "module"/\y.dict=aA builtinsNs/\y.data=.plain)
  (F:∀base:DB,K.In base->base.Ns cB mg->vP base c Pt->base.BuiltinsAt mg Pt->base.get? Pt=eA->qE P w K mg base SD k fa fd [x] sp) (J:∀(s:CA) (u:jA),LS s fd #[[u],[]] [(x,u)])
  (Px:∀H:Hp,H Pt=aA (.JD [.str q0 0].toArray)->EB K H a (ns.map V.int)->sp [.ref a] H (λv _=>v=.bl bA) λ_ _ _=>False) :
  mI (model P w) callerA (.call (.ref fa) #[[.ref a],[]]) (λr p=>r=.ok (.ret (.bool bA))/\OldK f.heap p.heap/\p.os=f.os/\OJ p.gens) f:=by
 have rv:=xSa hi;have X:=hi.length;have aP:Pt≠a:=λz=>by rw[z,I] at j;cases j
 have core:∀i:Hp,km i->EB K i a (ns.map V.int)->FC P w i f.heap->(∀b,i b≠eA->b=a)->(i a≠eA->K.lookup a=eA) ->
   mI (model P w) callerA (.call (.ref fa) #[[.ref a],[]]) (λr p=>r=.ok (.ret (.bool bA))/\OldK f.heap p.heap/\p.os=f.os/\OJ p.gens) f:=by
  intro i hO hS Y hA hK
  have n0:i Pt=eA:=by
   cases q:i Pt with
   |none=>rfl
   |some u=>exact absurd (hA Pt (by rw[q];simp)) aP
  have sm:WA i (GA i Pt (.JD [.str q0 0].toArray)):=WA.laid n0;have M:GA i Pt (.JD [.str q0 0].toArray) Pt=aA (.JD [.str q0 0].toArray):=jC;have un:∀{b},b≠Pt->GA i Pt (.JD [.str q0 0].toArray) b=i b:=λn=>jB n
  generalize GA i Pt (.JD [.str q0 0].toArray)=l at sm M un
  have Z:FC P w l f.heap:=λb u e=>by
   by_cases g:b=Pt
   .subst g;rw[M] at e;cases e;exact#[[].toArray,j,trivial,λpos cv z=>nomatch z]
   .rw[un g] at e;exact(Y b u e).AE (λ_ _ _ r=>r) (λd r=>sm d _ r) λd xs r=>sm d _ r
  have off:∀{b:iA} {o:kB},f.heap.get? b=aA o->o≠Hl [].toArray->(b=a->i b=eA)->l b=eA:=λ{b o} e n ne=>by
   rw[un (λz=>n (by rw[z,j] at e;cases e;rfl))]
   cases q:i b with
   |none=>rfl
   |some u=>rw[ne (hA b (by rw[q];simp))] at q;cases q
  have noA:∀{b:iA} {o:kB} {es:Array DictEntry} {ep:Nat},f.heap.get? b=aA o->o.data=.dict es ep->l b=eA:=λ{b o es ep} e d=>off e (λz=>by rw[z] at d;cases d) λz=>by subst z;rw[I] at e;cases e;cases d
  have t:∀{b:iA} {m:fA->Option jA},f.heap.Ns b m->(cI f.heap l).Ns b m:=λ{b m} #[o,es,ep,e,d,r]=>#[o,es,ep,fU e (noA e d),d,r]
  have xa:K.In (cI f.heap l):=λb o e=>fU (KX b o e) (off (KX b o e) (λz=>by
   have h2:=bF.mp Ax (b,o) (PySem.W.mem_of_lookupK e);subst z
   exact absurd (show dA=bA from h2) OE) λz=>by
    subst z
    cases q:i b with
    |none=>rfl
    |some u=>rw[hK (by rw[q];simp)] at e;cases e)
  have hM:Mod K mg (cI f.heap l):=#[xa,t C,#[mb,t g,Ow],let #[mc,h1,h2]:=Q;#[mc,t h1,h2]]
  have e0:gJ P w K mg (cI f.heap l) callerA [] f l:=#[rfl,hM,λb o e=>Td e,AS (qx _ _),trivial,λb g=>absurd (show b∈([]:List iA) from g) (by simp),Z,.of_eq hg]
  have Fw:vP (cI f.heap l) c Pt:=by(let(o,M,file,tf,N,tg,Zx,text,tt,O,r1,r2,r3):=hC;exact#[o,M,file,tf,N,tg,Zx,text,tt,fU O (off O (λz=>by rw[z] at r1;cases r1) λz=>by subst z;rw[I] at O;cases O;simp at r1),r1,r2,r3])
  have Ew:(cI f.heap l).BuiltinsAt mg Pt:=by(let(R,y,b1,b2,A,b4,b5,b6):=Pw;refine#[R,y,b1,b2,λz=>?_,(λz=>by rw[z,j] at A;cases A;cases b4),fU A (off A (λz=>by rw[z] at b4;cases b4) λz=>by subst z;rw[I] at A;cases A;simp at b4),b4,b5,b6];let(o,es,ep,e,hd,_):=C;rw[z,e] at A;cases A;rw[hd] at b6;cases b6)
  have Hw:(cI f.heap l).get? Pt=eA:=by
   cases q:(cI f.heap l).get? Pt with
   |none=>rfl
   |some o =>
    have:=(Td q).2
    rw[M] at this;cases this
  refine iM ((F _ xa (t C) Fw Ew Hw).run callerA [] f _ #[[.ref a],[]] [.ref a] [.ref a] _ _ hr e0 (J f (.ref a)) (.cons rfl .nil) (Px _ M (WA.seq sm hS))) λr p h=>?_
  cases r with
  |error e=>exact h.elim
  |ok fl =>
   cases fl with
   |next=>exact lE h
   |brk=>exact lE h
   |cont=>exact lE h
   |ret u =>
    let(v,H',os,bare,U,B,r',q):=h;have q':v=.bl bA:=q;subst q';obtain rfl:u=Value.bool bA:=r';let(more,t1):=U.sH Pt _ M;let(qs,t2,_):=B Pt _ t1
    have kp:∀b o,b≠Pt->f.heap.get? b=aA o->p.heap.get? b=aA o:=λb o g e=>by
     cases q:i b with
     |none=>exact U.keep b o e (by rw[un g];exact q) (by intro z;exact absurd (show b∈([]:List iA) from z) (by simp)) (by simp)
     |some u =>
      rcases hO b with z | ⟨y,xs,z⟩
      .rw[q] at z;cases z
      .have z2:=U.bI b y _ (by rw[un g];exact z);let(O,_):=Z b _ (by rw[un g];exact z);let(e2,_):=B b _ z2;rw[e] at O;cases O;exact e2
    refine#[rfl,#[λb o e=>?_,λb o e=>?_],os,bare]
    .by_cases g:b=Pt
     .subst g;rw[j] at e;cases e;exact .inr (.inl #[(hC.tab j).isCodeTable,rfl,[].toArray,qs,rfl,by rw[Array.empty_append];exact t2])
     .exact .inl (kp b o g e)
    .by_cases g:b=Pt
     .subst g;exact#[_,t2]
     .exact#[o,kp b o g e]
 cases hk:K.lookup a with
 |some o =>
  have e:=KX a o hk;rw[I] at e;cases e;refine core (λ_=>eA) (λ_=>.inl rfl) (.inr #[_,vs.toArray,_,hk,rfl,rfl,rfl,by rw[aD,X];exact hl,by simpa using rv]) (λb u z=>by have z':(eA:Option HO)=aA u:=z;cases z') (λb z=>absurd rfl z) λz=>absurd rfl z
 |none =>
  refine core (λb=>if b=a then aA (.nD { cls:=.type "list",data:=.seq vs.toArray } (.l (ns.map V.int))) else eA) (λb=>?_) (.inl (.inr #[{ cls:=.type "list",data:=.seq vs.toArray },RA rfl])) (λb u z=>?_) (λb z=>?_) λ_=>hk
  .by_cases g:b=a
   .exact .inr #[_,_,RA g]
   .exact .inl (if_neg g)
  .by_cases g:b=a
   .have z':=(RA g).symm.trans z;cases z';subst g;exact#[I,by rw[pA];exact hl,vs,_,rv,I]
   .have z':=(if_neg g).symm.trans z;cases z'
  .by_cases g:b=a
   .exact g
   .exact absurd (if_neg g) z
def tRa{K:kA}(a:CB K cB x=aA (aA (.ref f)))(l:K.lookup f=aA #[g,i,.func d,j])(h:d.code=.ref c)(b:K.lookup c=aA #[k,m,.fields e,n])(v:e[11]?=aA (.ref P)):i7 K x=aA (c,P):=by
 unfold i7;erw[a,l,h,b,v]
inductive Z7(T:Tab)(gl:Str->GV)(st:Stmt)(s:String)(cs:List Str):Prop
 |mk (told er fo n ce:fA) (ot:List fA) (aAj:List MA) (i:Nat) (fn:Fn) (hn:IH st=told::er::fo::ot/\YC st=[told]) (q:VW T gl (XD st) (TB st) s cs told er fo n ce ot aAj i fn)
def gOa{K:kA}{st:MA}(KX:K.In h)(G:h.Ns cB mg)(D:oM K x st)(O:gL c st x fn)(S:Z7 T c st s e):VP K mg T c x s e:=by
 let(f,oc,od,v,kV,g,pm,j,ct,l,a,m,o,k):=D.ex;obtain⟨b,p,r,n,ce,t,aAj,i,fn,⟨u,d⟩,q⟩:=S;have F:=yQ m o k;exact .mk f _ st b p r n ce t aAj i fn (YK KX G a) F (d ▸ F.binds O.bind) (u ▸ d ▸ O.sc) q
set_option tactic.hygienic false
def O'{l:zW}{q:KD}{d d':DefRec}{K:Params->kA}{T:Tab}{L:List (fA×GV)}{st:MA}{c P:iA}
  (hn:l.most=aA 63) (Q:d.params.defaults=[]) (hr:YB (2*n+7) callerA) (hx:d.name=x) (hT:T f=aA fn) (O:gL (eD ((vK,.FF y sk cs)::L)) st x fn) (R:YC st=[p])
  (hY:∀(w:cD) (h:DB),YP w h->(K w.params).In h) (z:(recsOf q).find? (λe=>e.name==x)=aA d') (t:∀w:cD,i7 (K w.params) x=aA (c,P)) (U:∀w:cD,Il (K w.params)=bA)
  (F:∀(w:cD) (mg:fA->Option jA) (h:DB),(K w.params).In h->h.Ns cB mg->(oM (K w.params) x st/\VP (K w.params) mg T (eD L) y sk cs)/\∀p∈L,TH w.params (K w.params) mg T (eD L) p)
  (M:∀v:List Int,v.length<=63->∃A,run T W (n+1) f [.sh (.l (v.map .int))]=some (.ok (.sh (.bl bA)),A)) :
  PySem.W.WalkO q X XP YP l.row.toRowW d [] (λf vs=>PySem.call f vs):=by
 refine Att.Mo hn Q λw s₀ s₁ mg mb fa o pm cd C a vs v G Y ho hd Ea I J j m hg=>?_
 have KX:=hY w _ Y;obtain⟨⟨D,S⟩,hG⟩:=F w mg _ KX G.T.g;have g:=Aw hG;let(Fv,oc,od,an,kV,C,pm,N,ct,CK,a',lk,hc,k):=D.ex;have hm:=YK KX G.T.g a';rw[hx,hm] at I;cases I;have Fu:=yQ (st:=st) lk hc k;let(hC,Z):=PySem.W.tab_of G.T KX z (t w);have B:N=.ref c:=PySem.W.law_code KX G.T.g (t w) hm (KX _ _ lk) rfl;let(bm,ob,b1,b2,b3,b4,b5,b6):=G.T.bmain;refine E' (x:=p) (q0:=Xc x) KX G.T.g G.T.b G.T.builtins G.T.nolimit hg J j (dD m (by decide)) hr hC Z (U w) #[bm,ob,b1,b2,b3,b4,b5,b6] (λbase kb nb h1 h2 h3=>R ▸ K' (n:=n) (W:=W) g S Fu B O hT h1 h2 h3) (λs u=>?_) λH h1 hS=>#[h1, ?_]
 .have:=O.bind kV C pm an N ct [u] (by rw[R];rfl)
  rw[R] at this;exact .of_eq this
 .let(A,e):=M v m
  have Gx:oA (K w.params) H (v.map .int) (v.map V.int):=by
   clear e hS m j
   induction v with
   |nil=>exact oA.nil
   |cons i r ih=>exact oA.cons (by simp[nA]) ih
  refine#[rfl,[.sh (.l (v.map .int))],H,.sh (.bl bA),A,HA.nQ (HA.nil (WA.refl _)) ?_,rfl,e,λx H' G' _ hv=>yR (K:=K w.params) (G:=G') hv];erw[nA];exact#[a,_,rfl,hS,Gx]
end CI
namespace Tx
noncomputable abbrev _root_.CI.E.n(d:Int):CI.E:=.c (.int d)
noncomputable abbrev _root_.CI.E.s(d:fA):CI.E:=.c (.str d)
noncomputable abbrev _root_.CI.E.b(d:Bool):CI.E:=.c (.bl d)
open PySem PySem.Spec PyProof.Rows L2 CI
noncomputable def top(i:Nat):MA:=PySem.Challenge.pw_canonwright_k41_lists_counted.main.body.getD i (.Pass #[0,0,0,0])
noncomputable def Xi:List fA:=[]
noncomputable def Gi:List fA:=["TooMany","NoNumber"]
noncomputable def Yi:List fA:=[]
noncomputable def Hi:List fA:=["TooMany","NoNumber"]
noncomputable def aj:List fA:=[]
noncomputable def Ji:List fA:=["TooMany","NoNumber"]
noncomputable def bj:List fA:=[]
noncomputable def Ki:List fA:=["TooMany","NoNumber"]
noncomputable def dj:List fA:=[]
noncomputable def Li:List fA:=["TooMany","NoNumber"]
noncomputable def ej:List fA:=[]
noncomputable def Mi:List fA:=["TooMany","NoNumber"]
noncomputable def gj:List fA:=[]
noncomputable def Oi:List fA:=["TooMany","NoNumber"]
noncomputable def Wi:List fA:=[]
noncomputable def Fi:List fA:=["TooMany","NoNumber"]
noncomputable def fj:List fA:=["TooMany"]
noncomputable def Ni:List fA:=["NoNumber"]
noncomputable def Zi:List fA:=["NoNumber"]
noncomputable def Ii:List fA:=["TooMany"]
noncomputable def jK:List fA:=["TooMany","NoNumber"]
def Ri:List (List fA×List fA):=[(Xi,Gi),(Yi,Hi),(aj,Ji),(bj,Ki),(dj,Li),(ej,Mi),(gj,Oi)]
def Si:List (List fA×List fA):=[(Wi,Fi)]
def Ti:List (List fA×List fA):=[(fj,Ni)]
def Vi:List (List fA×List fA):=[(Zi,Ii)]
noncomputable def NI:List (fA×String):=[("Span","U"),("Leap","W"),("Back","X"),("Again","Y"),("Range","Z"),("Above","1"),("Never","2")]
noncomputable def OL:List (fA×String):=[("Span","V"),("Range","0")]
def L:List (fA×GV):=("NOTES",.c (.int 0))::("BAR",.c (.int 1))::("OCTAVE",.c (.int 2))::("VOICES",.c (.int 3))::("RULES",.c (.int 4))::("LATE",.c (.int 0))::("SHIFT",.c (.int 1))::("TURNED",.c (.int 2))::("LEADER",.c (.t [(.int 0),(.int 0),(.bl dA)]))::("BY_THE_LINE",.c (.t []))::("TURN",.c (.int 0))::("TAIL",.c (.int 1))::("AFTER",.c (.int 1))::("LEAST_MEMORY",.c (.int 3))::("MOST_STANDS",.c (.int 150))::("MOST_NOTES",.c (.int 40))::("is_whole",.fn "D")::("is_within",.fn "E")::("pitch",.fn "F")::("singer",.fn "G")::("sung",.fn "k")::("span",.fn "i")::("chord",.fn "c")::("sounding_pairs",.fn "q")::("move_so",.fn "H")::("rule_of",.fn "d")::("rules_of",.fn "r")::("breaks_at",.fn "l")::("first_break",.fn "I")::("check_let_by",.fn "J")::("memory",.fn "s")::("turn_of",.fn "K")::("stand_of",.fn "m")::("line_to",.fn "t")::("nexts",.fn "u")::("behind",.fn "n")::("steps_of",.fn "v")::("steps_from",.fn "o")::("check_many",.fn "L")::("through",.fn "w")::("rows_of",.fn "x")::("count",.fn "b")::("_law_pen",.fn "y")::("_law_draw",.fn "a")::("_law_rule",.fn "z")::("_law_house",.fn "A")::("_law_small",.fn "M")::("_law_heard",.fn "e")::("_law_by_line",.fn "p")::("_law_moved_so",.fn "N")::("_law_bad_pair",.fn "B")::("_law_broken",.fn "f")::("_law_memory",.fn "O")::("_law_stand",.fn "j")::("_law_as_line",.fn "P")::("_law_free",.fn "h")::("_law_ways",.fn "C")::("_law_come",.fn "Q")::("_law_walked",.fn "R")::("_law_counts",.fn "S")::("_law_said",.fn "L_said")::("_law_whole",.fn "T")::("Span",.cls ["beat","spans"])::("Leap",.cls ["most"])::("Back",.cls ["leap","most"])::("Again",.cls ["most"])::("Range",.cls ["low","high"])::("Above",.cls ["one","other"])::("Never",.cls ["one","other","way"])::(dot "broken",.vE NI)::(dot "forbids",.vE OL)::("ValueError",.blt)::("abs",.blt)::("all",.blt)::("bool",.blt)::("dict",.blt)::("enumerate",.blt)::("int",.blt)::("isinstance",.blt)::("len",.blt)::("list",.blt)::("max",.blt)::("range",.blt)::("set",.blt)::("sum",.blt)::("tuple",.blt)::("{}",.blt)::("TooMany",.exc)::("NoNumber",.exc)::(col "NoHouse",.ID Xi Gi)::(col "NoNote",.ID Yi Hi)::(col "NoRow",.ID aj Ji)::(col "NoRule",.ID bj Ki)::(col "NoText",.ID dj Li)::(col "NoVoice",.ID ej Mi)::(col "Unlike",.ID gj Oi)::(col "Broken",.ID Wi Fi)::(col "TooMany",.ID fj Ni)::(col "NoNumber",.ID Zi Ii)::(cat "CanonError",.JA jK)::[]
noncomputable def kr:MA->List MA
 |.ClassDef _ _ _ body _ _ _ _ _ _ _=>body
 |_=>[]
def ZF(i j:Nat):MA:=(kr (top i)).getD j (.Pass #[0,0,0,0])
noncomputable def iY:E:=(.call "k" [.v 1,.v 2,.v 4,.v 0])
noncomputable def gY:E:=(.t [.v 4,.v 5])
noncomputable def bY:E:=(.BA .Eq (.v 3) (.ix (.v 1) (.v 0)))
noncomputable def fY:E:=(.t [.v 2])
noncomputable def lY:E:=(.call "d" [.v 1])
def jY:E:=(.ix (.v 1) (.n 0))
noncomputable def kY:E:=(.v 4)
noncomputable def nY:E:=(.t [.v 3,.call "n" [.v 0,.v 1,.v 3]])
def mY:E:=(.ix (.v 1) (.n 1))
def oY:E:=(.ix (.v 0) (.ix (.v 2) (.n 1)))
noncomputable def cY:E:=(.t [.v 3])
def dY:E:=(.wA .Add (.n 1) (.ix (.v 1) (.n 0)))
noncomputable def DT:E:=(.v 3)
def zT:E:=(.t [.v 1,.n 1])
def CT:E:=(.ix (.ix (.v 0) (.neg (.n 1))) (.v 3))
noncomputable def eY:E:=(.bif .int [.v 1])
def ET:E:=(.call "a" [.v 0,.n 5])
noncomputable def wX:List S:=[.EA (.and (.BA .IsNot (.ix (.v 0) (.v 2)) (.c .lA)) (.BA .IsNot (.ix (.v 0) (.v 3)) (.c .lA))) [.expr (.app 1 (.t [.v 2,.v 3]))] []]
def xX:List S:=[.for [3] bA .IB [.wA .Add (.v 2) (.n 1),.bif .len [.v 0]] wX]
noncomputable def pX:List S:=[.EA (.and (.BA .Eq (.call "i" [.v 4,.ix (.v 5) (.v 8),.ix (.v 5) (.v 9)]) (.fld (.v 0) "one")) (.BA .Eq (.call "i" [.v 4,.ix (.v 6) (.v 8),.ix (.v 6) (.v 9)]) (.fld (.v 0) "other"))) [.EA (.call "H" [.fld (.v 0) "way",.wA .Sub (.ix (.v 6) (.v 8)) (.ix (.v 5) (.v 8)),.wA .Sub (.ix (.v 6) (.v 9)) (.ix (.v 5) (.v 9))]) [.expr (.app 7 (.t [.v 8,.v 9]))] []] []]
noncomputable def qX:List S:=[.expr (.app 4 (.t [.v 3,.v 5,.v 7]))]
def rX:List S:=[.for [7] bA .of [.JI 6 "broken" NI [.v 0,.v 2,.v 3]] qX]
def sX:List S:=[.QA 4 (.call "l" [.v 0,.v 2,.v 1,.v 3]),.EA (.BA .Gt (.bif .len [.v 4]) (.n 0)) [.ret (.ix (.v 4) (.n 0))] []]
def BF:List S:=[.QA 4 (.NO 3),.EA (.BA .NotIn (.v 4) (.v 2)) [.EA (.BA .Eq (.bif .len [.v 2]) (.n 150)) [.HL "TooMany" [.s "more than 150 stands come"]] [],.set 2 (.v 4) (.call "v" [.v 0,.v 4]),.expr (.ext 3 (.comp mY [1] .of [.ix (.v 2) (.v 4)] [] [] 2))] []]
def tX:List S:=[.set 2 (.v 3) (.n 1)]
noncomputable def uX:List S:=[.set 2 (.v 3) (.call "w" [.ix (.v 0) (.v 3),.ix (.v 4) (.v 5)])]
def vX:List S:=[.QA 2 .qL,.for [3] bA .key [.nD 0] uX,.expr (.app 4 (.v 2))]
def kX:List S:=[.QA 8 (.call "a" [.v 0,.ix (.l [.n 2,.n 5]) (.bif .int [.v 1])]),.expr (.app 6 (.t [.v 8,.wA .Sub (.call "a" [.v 0,.n 25]) (.n 12),.BA .Eq (.call "a" [.v 0,.n 4]) (.n 0)]))]
noncomputable def lX:List S:=[.expr (.app 9 (.call "z" [.v 0,.v 2,.v 3,.v 4,.v 5]))]
def mX:List S:=[.expr (.app 6 (.t [.call "a" [.v 0,.n 3],.wA .Sub (.call "a" [.v 0,.n 25]) (.n 12),.BA .Eq (.call "a" [.v 0,.n 4]) (.n 0)]))]
noncomputable def nX:List S:=[.expr (.app 8 (.call "z" [.v 0,.v 2,.v 3,.v 4,.v 5]))]
def jX:List S:=[.QA 7 (.c .lA),.EA (.CF .LtE .Lt (.n 0) (.wA .Sub (.v 2) (.v 4)) (.bif .len [.v 1])) [.QA 7 (.wA .Add (.v 5) (.ix (.v 1) (.wA .Sub (.v 2) (.v 4)))),.EA (.v 6) [.QA 7 (.wA .Sub (.v 5) (.ix (.v 1) (.wA .Sub (.v 2) (.v 4))))] []] [],.expr (.app 3 (.v 7))]
noncomputable def hQ:List S:=[.EA (.call "B" [.v 0,.v 1,.v 8,.v 4,.v 5,.v 10]) [.expr (.app 9 (.t [.v 5,.v 10]))] []]
def iQ:List S:=[.for [10] bA .IB [.wA .Add (.v 5) (.n 1),.bif .len [.v 4]] hQ]
def iX:List S:=[.EA (.BA .NotEq (.call "f" [.v 0,.v 2,.v 1,.wA .Sub (.bif .len [.v 1]) (.n 1)]) (.l [])) [.ret (.b dA)] []]
noncomputable def oX:List S:=[.QA 4 (.wA .Add (.call "P" [.v 1]) (.l [.v 3])),.EA (.call "h" [.v 0,.v 4]) [.expr (.app 2 (.t [.v 3,.call "j" [.v 0,.v 4]]))] []]
noncomputable def BM:List S:=[.EA (.BA .NotIn (.v 6) (.v 2)) [.set 2 (.v 6) (.c .lA),.expr (.app 3 (.v 6))] []]
def UN:List S:=[.QA 4 (.NO 3),.set 2 (.v 4) (.call "C" [.v 0,.v 4]),.for [5,6] dA .of [.ix (.v 2) (.v 4)] BM]
def jQ:List S:=[.QA 5 (.comp DT [3] .IB [.ix (.v 0) (.n 0)] [.call "h" [.v 0,.wA .Add (.v 1) (.l [.v 3])]] [0,3] 2),.EA (.BA .NotEq (.v 5) (.l [])) [.expr (.app 3 (.ix (.v 5) (.call "a" [.v 1,.bif .len [.v 5]])))] []]
def gX:List S:=[.set 5 (.v 2) (.bif .sum [.comp CT [2,3] .of [.ix (.v 0) (.v 2)] [] [3] 3])]
def hX:List S:=[.QA 5 .qL,.for [2] bA .key [.nD 0] gX,.expr (.app 3 (.v 5))]
def kQ:List S:=[.QA 6 (.bif .list [.v 2]),.QA 5 (.ER "g" jK "b" [.v 1,.v 0,.v 2] [6,7,8]),.EA (.BA .Gt (.bif .len [.v 4]) (.n 150)) [.EA (.BA .NotEq (.ix (.v 5) (.n 0)) (.s "many")) [.ret (.b dA)] []] [.EA (.or (.BA .NotEq (.v 5) (.l [.s "told",.ix (.ix (.call "S" [.v 4,.v 8]) (.v 8)) (.v 3)])) (.not (.call "T" [.ix (.v 5) (.n 1)]))) [.ret (.b dA)] []],.EA (.BA .NotEq (.v 6) (.v 2)) [.ret (.b dA)] []]
def yg:S:=(.QA 5 (.call "a" [.v 0,.n 9]))
def zg:S:=(.EA (.BA .Lt (.v 5) (.n 2)) [.ret (.t [.s "span",.call "a" [.v 0,.v 2],.call "a" [.v 0,.wA .LShift (.n 1) (.v 3)]])] [])
def Ag:S:=(.EA (.BA .Eq (.v 5) (.n 2)) [.ret (.t [.s "span",.call "a" [.v 0,.v 2],.wA .Sub (.wA .Sub (.wA .LShift (.n 1) (.v 3)) (.n 1)) (.wA .LShift (.n 1) (.call "a" [.v 0,.v 3]))])] [])
def Bg:S:=(.EA (.BA .Eq (.v 5) (.n 3)) [.ret (.t [.s "leap",.call "a" [.v 0,.ix (.l [.n 13,.wA .Add (.v 1) (.n 1)]) (.call "a" [.v 0,.n 2])]])] [])
def Cg:S:=(.EA (.BA .Eq (.v 5) (.n 4)) [.ret (.t [.s "back",.wA .Add (.n 1) (.call "a" [.v 0,.n 12]),.wA .Add (.n 1) (.call "a" [.v 0,.n 12])])] [])
def Dg:S:=(.EA (.BA .Eq (.v 5) (.n 5)) [.ret (.t [.s "again",.wA .Add (.n 1) (.call "a" [.v 0,.n 3])])] [])
def Eg:S:=(.EA (.BA .Eq (.v 5) (.n 6)) [.QA 6 (.ix (.l [.wA .Sub (.call "a" [.v 0,.n 121]) (.n 60),.wA .Sub (.call "a" [.v 0,.n 20]) (.n 12)]) (.call "a" [.v 0,.n 2])),.ret (.t [.s "range",.v 6,.wA .Add (.v 6) (.call "a" [.v 0,.wA .Sub (.n 61) (.v 6)])])] [])
def Fg:S:=(.EA (.BA .Eq (.v 5) (.n 7)) [.QA 7 (.call "a" [.v 0,.wA .Add (.v 4) (.n 1)]),.ret (.t [.s "above",.v 7,.wA .Mod (.wA .Add (.wA .Add (.v 7) (.n 1)) (.call "a" [.v 0,.v 4])) (.wA .Add (.v 4) (.n 1))])] [])
def Gg:S:=(.QA 8 (.t [.s "like",.s "against",.s "aside",.s "any"]))
def Hg:S:=(.ret (.t [.s "never",.call "a" [.v 0,.v 3],.call "a" [.v 0,.v 3],.ix (.v 8) (.call "a" [.v 0,.n 4])]))
noncomputable def eZ:Fn:=#[[bA],0,[.ret (.and (.GI (.v 0) [.int]) (.not (.GI (.v 0) [.bool])))],dA]
noncomputable def fZ:Fn:=#[[bA,bA,bA],0,[.ret (.and (.call "D" [.v 0]) (.CF .LtE .LtE (.v 1) (.v 0) (.v 2)))],dA]
def lZ:Fn:=#[[bA,bA],0,[.EA (.ix (.v 0) (.n 2)) [.ret (.wA .Sub (.ix (.v 0) (.n 1)) (.v 1))] [],.ret (.wA .Add (.ix (.v 0) (.n 1)) (.v 1))],dA]
def oZ:Fn:=#[[bA,bA],0,[.EA (.BA .Eq (.v 1) (.n 0)) [.ret (.c (.t [.int 0,.int 0,.bl dA]))] [],.ret (.ix (.ix (.v 0) (.n 3)) (.wA .Sub (.v 1) (.n 1)))],dA]
def uZ:Fn:=#[[bA,dA,bA,bA],2,[.QA 4 (.call "G" [.v 0,.v 2]),.QA 5 (.wA .Sub (.v 3) (.ix (.v 4) (.n 0))),.EA (.CF .LtE .Lt (.n 0) (.v 5) (.bif .len [.v 1])) [.ret (.call "F" [.v 4,.ix (.v 1) (.v 5)])] [],.ret (.c .lA)],dA]
noncomputable def qZ:Fn:=#[[bA,bA,bA],0,[.ret (.wA .Mod (.bif .abs [.wA .Sub (.v 1) (.v 2)]) (.v 0))],dA]
def bZ:Fn:=#[[bA,dA,bA],0,[.ret (.comp iY [4] .IB [.wA .Add (.bif .len [.ix (.v 0) (.n 3)]) (.n 1)] [] [2,0,1] 2)],dA]
def pZ:Fn:=#[[bA],3,[.QA 1 (.l []),.for [2] bA .IB [.bif .len [.v 0]] xX,.ret (.v 1)],dA]
def iZ:Fn:=#[[bA,bA,bA],0,[.EA (.BA .Eq (.v 0) (.s "like")) [.ret (.BA .Gt (.wA .Mult (.v 1) (.v 2)) (.n 0))] [],.EA (.BA .Eq (.v 0) (.s "against")) [.ret (.BA .Lt (.wA .Mult (.v 1) (.v 2)) (.n 0))] [],.EA (.BA .Eq (.v 0) (.s "aside")) [.ret (.BA .NotEq (.BA .Eq (.v 1) (.n 0)) (.BA .Eq (.v 2) (.n 0)))] [],.ret (.b bA)],dA]
def VY:Fn:=#[[bA,bA,dA,bA],2,[.EA (.BA .NotEq (.wA .Mod (.v 3) (.ix (.v 1) (.n 1))) (.fld (.v 0) "beat")) [.ret (.l [])] [],.QA 4 (.ix (.v 1) (.n 2)),.QA 5 (.call "c" [.v 1,.v 2,.v 3]),.ret (.comp gY [4,5] .of [.call "q" [.v 5]] [.JI 2 "forbids" OL [.call "i" [.v 1,.ix (.v 0) (.v 4),.ix (.v 0) (.v 5)]]] [5,4,0] 3)],dA]
def WY:Fn:=#[[bA,bA],0,[.ret (.BA .Eq (.wA .BitAnd (.wA .RShift (.fld (.v 0) "spans") (.v 1)) (.n 1)) (.n 0))],dA]
def RY:Fn:=#[[bA,bA,dA,dA],0,[.EA (.and (.BA .Gt (.v 3) (.n 0)) (.BA .Gt (.bif .abs [.wA .Sub (.ix (.v 2) (.v 3)) (.ix (.v 2) (.wA .Sub (.v 3) (.n 1)))]) (.fld (.v 0) "most"))) [.ret (.l [.c (.t [])])] [],.ret (.l [])],dA]
def BY:Fn:=#[[bA,bA,dA,dA],2,[.EA (.BA .Lt (.v 3) (.n 2)) [.ret (.l [])] [],.QA 4 (.wA .Sub (.ix (.v 2) (.wA .Sub (.v 3) (.n 1))) (.ix (.v 2) (.wA .Sub (.v 3) (.n 2)))),.QA 5 (.wA .Sub (.ix (.v 2) (.v 3)) (.ix (.v 2) (.wA .Sub (.v 3) (.n 1)))),.EA (.BA .Lt (.bif .abs [.v 4]) (.fld (.v 0) "leap")) [.ret (.l [])] [],.EA (.and (.BA .Lt (.wA .Mult (.v 4) (.v 5)) (.n 0)) (.BA .LtE (.bif .abs [.v 5]) (.fld (.v 0) "most"))) [.ret (.l [])] [],.ret (.l [.c (.t [])])],dA]
def AY:Fn:=#[[bA,bA,dA,dA],0,[.EA (.BA .Lt (.v 3) (.fld (.v 0) "most")) [.ret (.l [])] [],.EA (.bif .all [.comp bY [3] .of [.sl (.v 2) (.wA .Sub (.v 3) (.fld (.v 0) "most")) (.v 3)] [] [3,2] 2]) [.ret (.l [.c (.t [])])] [],.ret (.l [])],dA]
def TY:Fn:=#[[bA,bA,dA,bA],0,[.ret (.comp fY [2,3] (.enum 0) [.call "c" [.v 1,.v 2,.v 3]] [.JI 0 "forbids" OL [.v 3]] [0] 3)],dA]
noncomputable def UY:Fn:=#[[bA,bA],0,[.ret (.and (.BA .IsNot (.v 1) (.c .lA)) (.not (.CF .LtE .LtE (.fld (.v 0) "low") (.v 1) (.fld (.v 0) "high"))))],dA]
noncomputable def zY:Fn:=#[[bA,bA,dA,bA],2,[.QA 4 (.call "k" [.v 1,.v 2,.fld (.v 0) "one",.v 3]),.QA 5 (.call "k" [.v 1,.v 2,.fld (.v 0) "other",.v 3]),.EA (.or (.BA .Is (.v 4) (.c .lA)) (.or (.BA .Is (.v 5) (.c .lA)) (.BA .GtE (.v 4) (.v 5)))) [.ret (.l [])] [],.ret (.l [.t [.fld (.v 0) "one",.fld (.v 0) "other"]])],dA]
def SY:Fn:=#[[bA,bA,dA,bA],6,[.QA 4 (.ix (.v 1) (.n 2)),.QA 5 (.call "c" [.v 1,.v 2,.wA .Sub (.v 3) (.n 1)]),.QA 6 (.call "c" [.v 1,.v 2,.v 3]),.QA 7 (.l []),.for [8,9] dA .of [.call "q" [.v 5]] pX,.ret (.v 7)],dA]
def oK:Fn:=#[[bA],1,[.QA 1 (.ix (.v 0) (.n 0)),.EA (.BA .Eq (.v 1) (.s "span")) [.ret (.make "Span" ["beat","spans"] [.ix (.v 0) (.n 1),.ix (.v 0) (.n 2)])] [],.EA (.BA .Eq (.v 1) (.s "leap")) [.ret (.make "Leap" ["most"] [.ix (.v 0) (.n 1)])] [],.EA (.BA .Eq (.v 1) (.s "back")) [.ret (.make "Back" ["leap","most"] [.ix (.v 0) (.n 1),.ix (.v 0) (.n 2)])] [],.EA (.BA .Eq (.v 1) (.s "again")) [.ret (.make "Again" ["most"] [.ix (.v 0) (.n 1)])] [],.EA (.BA .Eq (.v 1) (.s "range")) [.ret (.make "Range" ["low","high"] [.ix (.v 0) (.n 1),.ix (.v 0) (.n 2)])] [],.EA (.BA .Eq (.v 1) (.s "above")) [.ret (.make "Above" ["one","other"] [.ix (.v 0) (.n 1),.ix (.v 0) (.n 2)])] [],.ret (.make "Never" ["one","other","way"] [.ix (.v 0) (.n 1),.ix (.v 0) (.n 2),.ix (.v 0) (.n 3)])],dA]
def nZ:Fn:=#[[bA],0,[.ret (.comp lY [1] .of [.ix (.v 0) (.n 4)] [] [] 2)],dA]
def YY:Fn:=#[[bA,bA,dA,dA],4,[.QA 4 (.l []),.for [5,6] dA (.enum 0) [.v 1] rX,.ret (.v 4)],dA]
def dZ:Fn:=#[[bA,dA],3,[.QA 2 (.call "r" [.v 0]),.for [3] bA .IB [.bif .len [.v 1]] sX,.ret (.c .lA)],dA]
noncomputable def ZY:Fn:=#[[bA,dA],1,[.QA 2 (.call "I" [.v 0,.v 1]),.EA (.BA .IsNot (.v 2) (.c .lA)) [.uA] []],dA]
def hZ:Fn:=#[[bA],0,[.ret (.bif .max [.n 3,.wA .Add (.n 1) (.bif .max [.comp jY [1] .of [.ix (.v 0) (.n 3)] [] [] 2])])],dA]
def wZ:Fn:=#[[bA,dA],1,[.QA 2 (.call "s" [.v 0]),.EA (.BA .LtE (.v 1) (.v 2)) [.ret (.v 1)] [],.ret (.wA .Add (.v 2) (.wA .Mod (.wA .Sub (.v 1) (.v 2)) (.ix (.v 0) (.n 1))))],dA]
noncomputable def rZ:Fn:=#[[bA,dA],0,[.ret (.t [.call "K" [.v 0,.bif .len [.v 1]],.bif .tuple [.sl (.v 1) (.neg (.call "s" [.v 0])) .fI]])],dA]
def gZ:Fn:=#[[bA],0,[.ret (.wA .Add (.wA .Mult (.l [.n 0]) (.wA .Sub (.ix (.v 0) (.n 0)) (.bif .len [.ix (.v 0) (.n 1)]))) (.bif .list [.ix (.v 0) (.n 1)]))],dA]
def jZ:Fn:=#[[bA,bA],2,[.QA 2 (.call "r" [.v 0]),.QA 3 (.call "t" [.v 1]),.ret (.comp kY [4] .IB [.ix (.v 0) (.n 0)] [.BA .Eq (.bif .len [.call "l" [.v 0,.v 2,.wA .Add (.v 1) (.l [.v 4]),.bif .len [.v 1]]]) (.n 0)] [0,3,2] 2)],dA]
noncomputable def XY:Fn:=#[[bA,bA,dA],0,[.ret (.call "m" [.v 0,.wA .Add (.call "t" [.v 1]) (.l [.v 2])])],dA]
def tZ:Fn:=#[[bA,bA],0,[.ret (.comp nY [3] .of [.call "u" [.v 0,.v 1]] [] [0,1] 2)],dA]
def sZ:Fn:=#[[bA,dA],3,[.QA 2 .qL,.QA 3 (.l [.v 1]),.OK (.BA .Gt (.bif .len [.v 3]) (.n 0)) BF,.ret (.v 2)],bA]
def aZ:Fn:=#[[bA],0,[.EA (.not (.call "E" [.v 0,.n 0,.n 40])) [.HL "NoNumber" [.s "a number of notes is from 0 to 40"]] []],bA]
def vZ:Fn:=#[[dA,bA],0,[.ret (.bif .sum [.comp oY [2] .of [.v 0] [] [1] 2])],dA]
def mZ:Fn:=#[[dA,bA],4,[.QA 2 .qL,.for [3] bA .key [.nD 0] tX,.QA 4 (.l [.v 2]),.for [5] bA .IB [.v 1] vX,.ret (.v 4)],dA]
noncomputable def cZ:Fn:=#[[bA,dA,dA],1,[.expr (.call "J" [.v 0,.v 1]),.expr (.call "L" [.v 2]),.QA 3 (.call "m" [.v 0,.v 1]),.kN (.call "x" [.call "o" [.v 0,.v 3],.v 2]) (.ix (.ix (.call "x" [.call "o" [.v 0,.v 3],.v 2]) (.v 2)) (.v 3))],bA]
def KY:Fn:=#[[bA,dA],1,[.EA (.and (.BA .Lt (.v 1) (.bif .len [.v 0])) (.BA .Eq (.wA .Mod (.ix (.v 0) (.n 0)) (.n 2)) (.n 0))) [.ret (.l [.n 0,.ix (.v 0) (.v 1)])] [],.QA 2 (.wA .Add (.wA .Mult (.n 30011) (.v 1)) (.n 7)),.EA (.BA .Gt (.bif .len [.v 0]) (.n 0)) [.QA 2 (.wA .Mod (.ix (.v 0) (.wA .Mod (.v 1) (.bif .len [.v 0]))) (.n 2147483587)),.QA 2 (.wA .Add (.wA .Add (.v 2) (.wA .Mult (.n 48611) (.wA .FloorDiv (.v 1) (.bif .len [.v 0])))) (.wA .Mult (.n 3) (.v 1)))] [],.ret (.l [.n 1,.wA .Mod (.wA .Add (.wA .Add (.wA .Mult (.v 2) (.n 48271)) (.wA .Mult (.n 11) (.v 1))) (.n 1)) (.n 2147483647)])],dA]
def FY:Fn:=#[[bA,bA],3,[.EA (.BA .Eq (.ix (.v 0) (.n 0)) (.n 0)) [.QA 2 (.wA .Mod (.ix (.v 0) (.n 1)) (.v 1)),.set 0 (.n 1) (.wA .FloorDiv (.ix (.v 0) (.n 1)) (.v 1)),.ret (.v 2)] [],.set 0 (.n 1) (.wA .Mod (.wA .Add (.wA .Mult (.ix (.v 0) (.n 1)) (.n 69621)) (.n 7)) (.n 2147483629)),.QA 3 (.wA .Mod (.ix (.v 0) (.n 1)) (.n 65521)),.QA 4 (.wA .FloorDiv (.ix (.v 0) (.n 1)) (.n 65521)),.ret (.wA .Mod (.wA .FloorDiv (.wA .Mod (.wA .Mult (.wA .Add (.wA .Add (.wA .Mult (.v 3) (.n 40503)) (.v 4)) (.n 1)) (.n 16807)) (.n 2147483647)) (.n 13)) (.v 1))],dA]
def LY:Fn:=#[[bA,bA,bA,bA,bA],4,[yg,zg,Ag,Bg,Cg,Dg,Eg,Fg,Gg,Hg],dA]
def LM:Fn:=#[[bA],9,[.QA 1 (.BA .Eq (.call "a" [.v 0,.n 2]) (.n 0)),.QA 2 (.wA .Add (.n 1) (.call "a" [.v 0,.ix (.l [.n 4,.n 7]) (.bif .int [.v 1])])),.QA 3 (.wA .Add (.n 1) (.call "a" [.v 0,.ix (.l [.n 2,.n 4]) (.bif .int [.v 1])])),.QA 4 (.wA .Add (.n 1) (.call "a" [.v 0,.n 12])),.QA 5 (.wA .Add (.n 1) (.call "a" [.v 0,.ix (.l [.n 2,.n 3]) (.bif .int [.v 1])])),.QA 6 (.l []),.for [7] bA .IB [.v 5] kX,.QA 9 (.l []),.for [7] bA .IB [.call "a" [.v 0,.n 9]] lX,.ret (.t [.v 2,.v 3,.v 4,.bif .tuple [.v 6],.bif .tuple [.v 9]])],dA]
def tL:Fn:=#[[bA],8,[.EA (.BA .Eq (.call "a" [.v 0,.n 9]) (.n 0)) [.QA 1 (.call "A" [.v 0]),.ret (.wA .Add (.sl (.v 1) .fI (.n 4)) (.t [.sl (.ix (.v 1) (.n 4)) .fI (.n 4)]))] [],.QA 2 (.wA .Add (.n 1) (.call "a" [.v 0,.n 4])),.QA 3 (.wA .Add (.n 1) (.call "a" [.v 0,.n 3])),.QA 4 (.wA .Add (.n 1) (.call "a" [.v 0,.n 12])),.QA 5 (.wA .Add (.n 1) (.call "a" [.v 0,.n 3])),.QA 6 (.l []),.for [7] bA .IB [.v 5] mX,.QA 8 (.l []),.for [7] bA .IB [.call "a" [.v 0,.n 6]] nX,.ret (.t [.v 2,.v 3,.v 4,.bif .tuple [.v 6],.bif .tuple [.v 8]])],dA]
def HY:Fn:=#[[bA,bA,bA],5,[.QA 3 (.l []),.for [4,5,6] dA .of [.wA .Add (.t [.t [.n 0,.n 0,.b dA]]) (.ix (.v 0) (.n 3))] jX,.ret (.v 3)],dA]
def vQ:Fn:=#[[bA,bA,dA],2,[.EA (.BA .Eq (.ix (.v 0) (.n 0)) (.s "leap")) [.ret (.and (.BA .Gt (.v 2) (.n 0)) (.BA .Gt (.bif .abs [.wA .Sub (.ix (.v 1) (.v 2)) (.ix (.v 1) (.wA .Sub (.v 2) (.n 1)))]) (.ix (.v 0) (.n 1))))] [],.EA (.BA .Eq (.ix (.v 0) (.n 0)) (.s "again")) [.ret (.and (.BA .GtE (.v 2) (.ix (.v 0) (.n 1))) (.BA .Eq (.gN (.sl (.v 1) (.wA .Sub (.v 2) (.ix (.v 0) (.n 1))) (.wA .Add (.v 2) (.n 1)))) (.n 1)))] [],.EA (.BA .Lt (.v 2) (.n 2)) [.ret (.b dA)] [],.QA 3 (.wA .Sub (.ix (.v 1) (.wA .Sub (.v 2) (.n 1))) (.ix (.v 1) (.wA .Sub (.v 2) (.n 2)))),.QA 4 (.wA .Sub (.ix (.v 1) (.wA .Sub (.v 2) (.n 1))) (.ix (.v 1) (.v 2))),.EA (.BA .Lt (.v 3) (.n 0)) [.QA 4 (.wA .Sub (.n 0) (.v 4))] [],.ret (.and (.BA .GtE (.bif .abs [.v 3]) (.ix (.v 0) (.n 1))) (.not (.CF .Lt .LtE (.n 0) (.v 4) (.ix (.v 0) (.n 2)))))],dA]
def JY:Fn:=#[[bA,dA,dA],0,[.EA (.BA .Eq (.v 0) (.s "any")) [.ret (.b bA)] [],.EA (.BA .Eq (.v 0) (.s "aside")) [.ret (.and (.BA .In (.n 0) (.t [.v 1,.v 2])) (.BA .NotEq (.v 1) (.v 2)))] [],.EA (.BA .Eq (.v 0) (.s "like")) [.ret (.or (.and (.BA .Gt (.v 1) (.n 0)) (.BA .Gt (.v 2) (.n 0))) (.and (.BA .Lt (.v 1) (.n 0)) (.BA .Lt (.v 2) (.n 0))))] [],.ret (.or (.and (.BA .Gt (.v 1) (.n 0)) (.BA .Lt (.v 2) (.n 0))) (.and (.BA .Lt (.v 1) (.n 0)) (.BA .Gt (.v 2) (.n 0))))],dA]
def OT:Fn:=#[[bA,bA,bA,bA,dA,dA],1,[.EA (.or (.BA .Is (.ix (.v 3) (.v 4)) (.c .lA)) (.BA .Is (.ix (.v 3) (.v 5)) (.c .lA))) [.ret (.b dA)] [],.QA 6 (.wA .Mod (.bif .abs [.wA .Sub (.ix (.v 3) (.v 4)) (.ix (.v 3) (.v 5))]) (.ix (.v 0) (.n 2))),.EA (.BA .Eq (.ix (.v 1) (.n 0)) (.s "span")) [.ret (.BA .Eq (.wA .Mod (.wA .FloorDiv (.ix (.v 1) (.n 2)) (.wA .LShift (.n 1) (.v 6))) (.n 2)) (.n 0))] [],.EA (.or (.BA .Is (.ix (.v 2) (.v 4)) (.c .lA)) (.or (.BA .Is (.ix (.v 2) (.v 5)) (.c .lA)) (.BA .NotEq (.v 6) (.ix (.v 1) (.n 2))))) [.ret (.b dA)] [],.EA (.BA .NotEq (.wA .Mod (.bif .abs [.wA .Sub (.ix (.v 2) (.v 4)) (.ix (.v 2) (.v 5))]) (.ix (.v 0) (.n 2))) (.ix (.v 1) (.n 1))) [.ret (.b dA)] [],.ret (.call "N" [.ix (.v 1) (.n 3),.wA .Sub (.ix (.v 3) (.v 4)) (.ix (.v 2) (.v 4)),.wA .Sub (.ix (.v 3) (.v 5)) (.ix (.v 2) (.v 5))])],dA]
def nK:Fn:=#[[bA,bA,bA,dA],7,[.QA 4 (.call "e" [.v 0,.v 2,.v 3]),.EA (.BA .Eq (.ix (.v 1) (.n 0)) (.s "range")) [.ret (.comp cY [3] .IB [.bif .len [.v 4]] [.and (.BA .IsNot (.ix (.v 0) (.v 3)) (.c .lA)) (.not (.CF .LtE .LtE (.ix (.v 1) (.n 1)) (.ix (.v 0) (.v 3)) (.ix (.v 1) (.n 2))))] [4,1] 2)] [],.EA (.BA .Eq (.ix (.v 1) (.n 0)) (.s "above")) [.QA 6 (.ix (.v 4) (.ix (.v 1) (.n 1))),.QA 7 (.ix (.v 4) (.ix (.v 1) (.n 2))),.ret (.wA .Mult (.l [.t [.ix (.v 1) (.n 1),.ix (.v 1) (.n 2)]]) (.bif .int [.and (.BA .IsNot (.v 6) (.c .lA)) (.and (.BA .IsNot (.v 7) (.c .lA)) (.BA .Lt (.v 6) (.v 7)))]))] [],.EA (.BA .In (.ix (.v 1) (.n 0)) (.t [.s "leap",.s "back",.s "again"])) [.ret (.wA .Mult (.l [.t []]) (.bif .int [.call "p" [.v 1,.v 2,.v 3]]))] [],.EA (.or (.and (.BA .Eq (.ix (.v 1) (.n 0)) (.s "span")) (.BA .NotEq (.wA .Mod (.v 3) (.ix (.v 0) (.n 1))) (.ix (.v 1) (.n 1)))) (.and (.BA .Eq (.ix (.v 1) (.n 0)) (.s "never")) (.BA .Eq (.v 3) (.n 0)))) [.ret (.l [])] [],.QA 8 (.call "e" [.v 0,.v 2,.wA .Sub (.v 3) (.n 1)]),.QA 9 (.l []),.for [5] bA .IB [.bif .len [.v 4]] iQ,.ret (.v 9)],dA]
def IY:Fn:=#[[bA],0,[.ret (.bif .max [.wA .Add (.l [.n 3]) (.comp dY [1] .of [.ix (.v 0) (.n 3)] [] [] 2)])],dA]
def NY:Fn:=#[[bA,bA],2,[.QA 2 (.call "O" [.v 0]),.QA 3 (.bif .len [.v 1]),.EA (.BA .Gt (.v 3) (.v 2)) [.QA 3 (.wA .Add (.v 2) (.wA .Mod (.wA .Sub (.v 3) (.v 2)) (.ix (.v 0) (.n 1))))] [],.ret (.t [.v 3,.bif .tuple [.sl (.v 1) (.bif .max [.n 0,.wA .Sub (.bif .len [.v 1]) (.v 2)]) .fI]])],dA]
def CY:Fn:=#[[bA],0,[.ret (.wA .Add (.wA .Mult (.l [.n 0]) (.wA .Sub (.ix (.v 0) (.n 0)) (.bif .len [.ix (.v 0) (.n 1)]))) (.bif .list [.ix (.v 0) (.n 1)]))],dA]
def GY:Fn:=#[[bA,bA],1,[.for [2] bA .of [.ix (.v 0) (.n 4)] iX,.ret (.b bA)],dA]
def PY:Fn:=#[[bA,bA],3,[.QA 2 (.l []),.for [3] bA .IB [.ix (.v 0) (.n 0)] oX,.ret (.v 2)],dA]
def DY:Fn:=#[[bA,dA],5,[.QA 2 (.oQ (.v 1) (.c .lA)),.QA 3 (.l [.v 1]),.OK (.and (.BA .NotEq (.v 3) (.l [])) (.BA .LtE (.bif .len [.v 2]) (.n 150))) UN,.ret (.v 2)],dA]
def OY:Fn:=#[[bA,bA,bA],3,[.QA 3 (.l []),.for [4] bA .IB [.call "a" [.v 1,.wA .Add (.v 2) (.n 1)]] jQ,.ret (.v 3)],dA]
def EY:Fn:=#[[dA,bA],4,[.QA 3 (.l [.bif .dict [.comp zT [1] .key [.nD 0] [] [] 2]]),.for [4] bA .IB [.v 1] hX,.ret (.v 3)],dA]
def MY:Fn:=#[[dA],4,SX (eD L) (top 87),dA]
noncomputable def QY:Fn:=#[[bA],0,[.ret (.and (.GI (.v 0) [.int]) (.not (.GI (.v 0) [.bool])))],dA]
def yI:Fn:=#[[bA],8,[.QA 7 (.call "M" [.call "y" [.v 0,.n 1]]),.QA 1 (.call "y" [.v 0,.n 2]),.QA 2 (.call "R" [.v 7,.v 1,.ix (.l [.n 8,.n 8,.n 8,.n 80,.n 8,.n 8,.n 8,.n 8]) (.call "a" [.v 1,.n 8])]),.EA (.BA .Eq (.call "a" [.v 1,.n 8]) (.n 0)) [.QA 7 (.t [.n 5,.n 1,.n 12,.t [.t [.n 2,.ix (.ix (.ix (.v 7) (.n 3)) (.n 0)) (.n 1),.ix (.ix (.ix (.v 7) (.n 3)) (.n 0)) (.n 2)]],.t [.t [.s "leap",.n 12]]]),.QA 2 (.comp ET [2] .IB [.call "a" [.v 1,.n 4]] [] [1] 2)] [],.QA 3 (.call "j" [.v 7,.v 2]),.QA 4 (.call "Q" [.v 7,.v 3]),.for [8] bA .of [.l [.call "a" [.v 1,.n 41],.call "a" [.v 1,.n 6]]] kQ,.ret (.b bA)],dA]
def QT:Fn:=#[[dA,dA],2,[.EA (.BA .Is (.v 0) (.c .lA)) [.ret (.l [.s "told",.v 1])] [],.EA (.tK (.v 0) Ri) [.ret (.l [.s "other",.c .lA])] [],.QA 3 (.l [.tK (.v 0) Si,.tK (.v 0) Ti,.tK (.v 0) Vi]),.EA (.or (.BA .NotEq (.bif .sum [.comp eY [1] .of [.v 3] [] [] 2]) (.n 1)) (.not (.GI (.v 0) [.TR]))) [.ret (.l [.s "other",.c .lA])] [],.EA (.ix (.v 3) (.n 0)) [.ret (.l [.s "broken",.fld (.v 0) "first"])] [],.ret (.l [.ix (.l [.s "many",.s "number"]) (.bif .int [.ix (.v 3) (.n 2)]),.c .lA])],dA]
def TL:List (String×Fn):=[("D",eZ),("E",fZ),("F",lZ),("G",oZ),("k",uZ),("i",qZ),("c",bZ),("q",pZ),("H",iZ),("U",VY),("V",WY),("W",RY),("X",BY),("Y",AY),("Z",TY),("0",UY),("1",zY),("2",SY),("d",oK),("r",nZ),("l",YY),("I",dZ),("J",ZY),("s",hZ),("K",wZ),("m",rZ),("t",gZ),("u",jZ),("n",XY),("v",tZ),("o",sZ),("L",aZ),("w",vZ),("x",mZ),("b",cZ),("y",KY),("a",FY),("z",LY),("A",LM),("M",tL),("e",HY),("p",vQ),("N",JY),("B",OT),("f",nK),("O",IY),("j",NY),("P",CY),("h",GY),("C",PY),("Q",DY),("R",OY),("S",EY),("L_said",MY),("T",QY),("law",yI),("g",QT)]
def T:Tab:=λf=>TL.lookup f
theorem mn:T.cA "D"=[bA]:=rfl
theorem rn:T.cA "E"=[bA,bA,bA]:=rfl
theorem Bn:T.cA "F"=[bA,bA]:=rfl
theorem Hn:T.cA "G"=[bA,bA]:=rfl
theorem Qn:T.cA "k"=[bA,dA,bA,bA]:=rfl
theorem Kn:T.cA "i"=[bA,bA,bA]:=rfl
theorem cn:T.cA "c"=[bA,dA,bA]:=rfl
theorem Jn:T.cA "q"=[bA]:=rfl
theorem yn:T.cA "H"=[bA,bA,bA]:=rfl
theorem Um:T.cA "U"=[bA,bA,dA,bA]:=rfl
theorem Vm:T.cA "V"=[bA,bA]:=rfl
theorem X7:T.cA "W"=[bA,bA,dA,dA]:=rfl
theorem tm:T.cA "X"=[bA,bA,dA,dA]:=rfl
theorem qm:T.cA "Y"=[bA,bA,dA,dA]:=rfl
theorem Qm:T.cA "Z"=[bA,bA,dA,bA]:=rfl
theorem Rm:T.cA "0"=[bA,bA]:=rfl
theorem om:T.cA "1"=[bA,bA,dA,bA]:=rfl
theorem Pm:T.cA "2"=[bA,bA,dA,bA]:=rfl
theorem Dn:T.cA "d"=[bA]:=rfl
theorem Gn:T.cA "r"=[bA]:=rfl
theorem Xm:T.cA "l"=[bA,bA,dA,dA]:=rfl
theorem jn:T.cA "I"=[bA,dA]:=rfl
theorem Ym:T.cA "J"=[bA,dA]:=rfl
theorem xn:T.cA "s"=[bA]:=rfl
theorem Sn:T.cA "K"=[bA,dA]:=rfl
theorem Mn:T.cA "m"=[bA,dA]:=rfl
theorem vn:T.cA "t"=[bA]:=rfl
theorem An:T.cA "u"=[bA,bA]:=rfl
theorem Wm:T.cA "n"=[bA,bA,dA]:=rfl
theorem Pn:T.cA "v"=[bA,bA]:=rfl
theorem Nn:T.cA "o"=[bA,dA]:=rfl
theorem Zm:T.cA "L"=[bA]:=rfl
theorem Rn:T.cA "w"=[dA,bA]:=rfl
theorem Cn:T.cA "x"=[dA,bA]:=rfl
theorem dn:T.cA "b"=[bA,dA,dA]:=rfl
theorem Im:T.cA "y"=[bA,dA]:=rfl
theorem Bm:T.cA "a"=[bA,bA]:=rfl
theorem Jm:T.cA "z"=[bA,bA,bA,bA,bA]:=rfl
theorem Em:T.cA "A"=[bA]:=rfl
theorem Km:T.cA "M"=[bA]:=rfl
theorem Dm:T.cA "e"=[bA,bA,bA]:=rfl
theorem xm:T.cA "p"=[bA,bA,dA]:=rfl
theorem Hm:T.cA "N"=[bA,dA,dA]:=rfl
theorem vm:T.cA "B"=[bA,bA,bA,bA,dA,dA]:=rfl
theorem wm:T.cA "f"=[bA,bA,bA,dA]:=rfl
theorem Gm:T.cA "O"=[bA]:=rfl
theorem Lm:T.cA "j"=[bA,bA]:=rfl
theorem um:T.cA "P"=[bA]:=rfl
theorem Cm:T.cA "h"=[bA,bA]:=rfl
theorem Nm:T.cA "C"=[bA,bA]:=rfl
theorem ym:T.cA "Q"=[bA,dA]:=rfl
theorem Mm:T.cA "R"=[bA,bA,bA]:=rfl
theorem Am:T.cA "S"=[dA,bA]:=rfl
theorem Om:T.cA "T"=[bA]:=rfl
theorem Wn:T "law"=aA yI:=rfl
def iy:VJ (ZF 35 0) "Span.__init__" ["beat","spans"]:=cN bH
def jO{a b:D}:eH (aA (.ins "Span" ["beat","spans"] [a,b])) "beat"=aA (.sh a):=(rfl)
def kO{b a:D}:eH (aA (.ins "Span" ["beat","spans"] [b,a])) "spans"=aA (.sh a):=(rfl)
def ey:VJ (ZF 36 0) "Leap.__init__" ["most"]:=cN mE
def vY{a:D}:eH (aA (.ins "Leap" ["most"] [a])) "most"=aA (.sh a):=(rfl)
def dy:VJ (ZF 37 0) "Back.__init__" ["leap","most"]:=cN bH
def fO{a b:D}:eH (aA (.ins "Back" ["leap","most"] [a,b])) "leap"=aA (.sh a):=(rfl)
def iO{b a:D}:eH (aA (.ins "Back" ["leap","most"] [b,a])) "most"=aA (.sh a):=(rfl)
def cy:VJ (ZF 38 0) "Again.__init__" ["most"]:=cN mE
def eO{a:D}:eH (aA (.ins "Again" ["most"] [a])) "most"=aA (.sh a):=(rfl)
def gy:VJ (ZF 39 0) "Range.__init__" ["low","high"]:=cN bH
def xY{a b:D}:eH (aA (.ins "Range" ["low","high"] [a,b])) "low"=aA (.sh a):=(rfl)
def wY{b a:D}:eH (aA (.ins "Range" ["low","high"] [b,a])) "high"=aA (.sh a):=(rfl)
def ay:VJ (ZF 40 0) "Above.__init__" ["one","other"]:=cN bH
def MT{a b:D}:eH (aA (.ins "Above" ["one","other"] [a,b])) "one"=aA (.sh a):=(rfl)
def NT{b a:D}:eH (aA (.ins "Above" ["one","other"] [b,a])) "other"=aA (.sh a):=(rfl)
def fy:VJ (ZF 41 0) "Never.__init__" ["one","other","way"]:=cN wI
def sQ{a b c:D}:eH (aA (.ins "Never" ["one","other","way"] [a,b,c])) "one"=aA (.sh a):=(rfl)
def tQ{b a c:D}:eH (aA (.ins "Never" ["one","other","way"] [b,a,c])) "other"=aA (.sh a):=(rfl)
def uQ{b c a:D}:eH (aA (.ins "Never" ["one","other","way"] [b,c,a])) "way"=aA (.sh a):=(rfl)
def QQ{m:Option Int}:xO Ri (aA (.zC "TooMany" m))=aA (.sh (.bl dA)):=wU (by left)
def RQ{m:Option Int}:xO Si (aA (.zC "TooMany" m))=aA (.sh (.bl dA)):=wU (by left)
def SQ{m:Option Int}:xO Ti (aA (.zC "TooMany" m))=aA (.sh (.bl bA)):=wU (by left)
def TQ{m:Option Int}:xO Vi (aA (.zC "TooMany" m))=aA (.sh (.bl dA)):=wU (by left)
def tBa:YF "Span" ["beat","spans"] "broken" NI=aA "U":=by left
def Ed:YF "Leap" ["most"] "broken" NI=aA "W":=by left
def qBa:YF "Back" ["leap","most"] "broken" NI=aA "X":=by left
def pBa:YF "Again" ["most"] "broken" NI=aA "Y":=by left
def sBa:YF "Range" ["low","high"] "broken" NI=aA "Z":=by left
def oBa:YF "Above" ["one","other"] "broken" NI=aA "1":=by left
def rBa:YF "Never" ["one","other","way"] "broken" NI=aA "2":=by left
def jR:YF "Span" ["beat","spans"] "forbids" OL=aA "V":=by left
def NU:YF "Range" ["low","high"] "forbids" OL=aA "0":=by left
def iEa:AH (eD L) (ZF 35 1) "broken" "Span.broken" VY:=dI wI
def jEa:AH (eD L) (ZF 35 2) "forbids" "Span.forbids" WY:=dI mE
def eEa:AH (eD L) (ZF 36 1) "broken" "Leap.broken" RY:=dI wI
def cEa:AH (eD L) (ZF 37 1) "broken" "Back.broken" BY:=dI wI
def bEa:AH (eD L) (ZF 38 1) "broken" "Again.broken" AY:=dI wI
def gEa:AH (eD L) (ZF 39 1) "broken" "Range.broken" TY:=dI wI
def hEa:AH (eD L) (ZF 39 2) "forbids" "Range.forbids" UY:=dI mE
def aEa:AH (eD L) (ZF 40 1) "broken" "Above.broken" zY:=dI wI
def fEa:AH (eD L) (ZF 41 1) "broken" "Never.broken" SY:=dI wI
def dEa:gL (eD L) (top 87) "_law_said" MY:=dI sG
def eFa:gL (eD ((vK,.FF "_law_said" "g" jK)::L)) (top 89) "law" yI:=dI sG
def hOa:Z7 T (eD L) (top 87) "g" jK:=.mk "_law_told" "_law_error" "_law_found" "e" "CanonError" ["e","_law_marks"] _ 3 QT (by left) #[.mk _ _ _ _ _ _ _ _ _ _ _ _ _ _ _ _ _ _,by left,by kernel_rfl,rfl,by kernel_rfl]
end Tx
namespace Mx
open CI Tx
local macro_rules|`(tactic|exists $t,$x:ident)=>`(tactic|generalize $t=$x at *)
local macro_rules|`(())=>`(by lia)
local macro_rules|`($f|||$n|||$a|||$v)=>`(run T $(Lean.mkIdent `W) ($n) $f $a=some (.ok ($v),$a))
abbrev _root_.CI.Sl.o(d:CI.D):CI.Sl:=.ow d dA dA
abbrev _root_.CI.Sl.p(d:CI.D):CI.Sl:=.ow d bA dA
abbrev _root_.CI.Sl.i(d:Int):CI.Sl:=.sh (.int d)
abbrev _root_.CI.RV.i(d:Int):CI.RV:=.sh (.int d)
abbrev _root_.CI.Sl.s(d:fA):CI.Sl:=.sh (.str d)
abbrev _root_.CI.RV.s(d:fA):CI.RV:=.sh (.str d)
abbrev _root_.CI.Sl.b(d:Bool):CI.Sl:=.sh (.bl d)
abbrev _root_.CI.RV.b(d:Bool):CI.RV:=.sh (.bl d)
local macro_rules | `(~~~$x)=>`(CI.Sl.p (.l (($x).map CI.D.int)))
local macro_rules | `(tactic| exists $x:ident)=>`(tactic| ((first | rw[DR (fn:=$x) rfl rfl rfl] | (rw[kNa (fn:=$x) rfl rfl rfl];unfold aAN));unfold $x))
noncomputable def toD(f:Int×Int×Bool):D:=.t [.int f.1,.int f.2.1,.bl f.2.2]
def rO(no ba oc:Int)(fs:List (Int×Int×Bool))(rs:List D):D:=.t [.int no,.int ba,.int oc,.t (fs.map toD),.t rs]
set_option hygiene false in
local macro_rules | `(∅)=>`(rO no ba oc fs rs)
theorem nz:GD (aA ∅) (.int 0)=aA (.i no):=rfl
theorem oz:GD (aA ∅) (.int 1)=aA (.i ba):=rfl
theorem pz:GD (aA ∅) (.int 2)=aA (.i oc):=rfl
theorem qz:GD (aA ∅) (.int 3)=aA (.sh (.t (fs.map toD))):=rfl
theorem Gb:GD (aA ∅) (.int 4)=aA (.sh (.t rs)):=rfl
abbrev rg(n:Nat):List D:=(nC n).map λ(j:Nat)=>D.int (j:Int)
set_option compiler.extract_closed false
local macro_rules | `(tactic| walk_at $s:str) => do if !s.getString.startsWith "!" then Lean.Macro.throwUnsupported else `(tactic| simp only[↓Po, ↓jv, ↓nR_, ↓Er, ↓mTa, ↓Ez, ↓Dz, ↓yz, ↓wz, ↓m_, ↓l_, ↓Zz, ↓Yz, ↓Xz, ↓Wz, $[$((("Np Xp Up Qp Tp Rp Vp Pp Ro Qo nv kv aCa bCa yBa zBa Gr Bw Kr Jr aw Zv jx fx B_ nTa Nz Mz o_ uu vu Yt A_ kPa lPa mPa nPa oPa pPa qPa Rc vc tu gu xu Vb Tb wu Ht ic dc E_ D_ z_ fHa vGa eHa aHa qGa sGa tGa oGa zGa dHa rGa pGa yGa uGa Ft Mb Lb Rt Ip Fp Gp Wo Vo To Uo Xo Yo So zM l8 j_ ku k_ mu yc lDa lu qr nr Sb Rb Vt FU Cz Ob Nb Wt Dq Cq zq yq vq Hq wq Iq Bq Aq Kq Jq qRa Nt ou uc tc fu dz Eb Io Jo Ko Lo Mc Lc Kc zJa VQ xJa aKa wJa vJa su K0 Bs Fz Hz Gz a_ P' V' S' R' W' d_ c_ b_ jw fw gw qw mw Oz Pz Kb Qt dw bw cw vv xv qv uv zv Av Dv Bv W0 eu zy yy Ib zz Sz Ot Py Oy Jb Ju J4 fQa eQa dQa cQa bQa LB aQa yDa xDa wDa EX Tz Jc Ic Qu pOa Yb Ku vMa wMa jH Ou xt Dt zt nt vt ft Ct yt qt jt wt Mu Ov aA3 Lu Ru sY rY bNa bSa u_ v_ Xt zw qJ Jt cJa dJa xGa wGa bHa cHa Bc nu yJa cu cc bu iu e_ f_ g_ Y0 h_ i_ ju Bt Gq zg0 zg1 zs0 zs1 zb zm zi zc zn zr0 zr1 zl0 zl1 znt znf zko zks zkn Tt bc Lz au p_ Hy Vz Uz kc du Pu av y_ x_ w_ Bu Rz Qz Gu q_ zu Au Du Kz Kt Az s_ t_ r_ Ay Mt vz uz Bz Dc Jy Iy Gy Ny Fc Wb Xb AX Iu Zt Nu Eu qu nJa n_ mn rn Bn Hn Qn Kn cn Jn yn Vm Rm Dn Gn Xm jn Ym xn Sn Mn vn An Wm Pn Nn Zm Rn Cn Im Bm Jm Em Km Dm xm Hm vm wm Gm Lm um Cm Nm ym Mm Am Om if_true if_false YL decide_true decide_false Bool.true_eq_false not_true_eq_false not_false_eq_true and_self and_true true_and or_true true_or RC reduceIte Int.reduceLT Int.reduceLE Int.reduceGT Int.reduceNeg Nat.reduceAdd Nat.reduceLT Nat.reduceLeDiff Int.reduceEq Int.reduceNe Nat.reduceBEq vB LJ DC u7 mW QH HJ kW FJ KC ZL pL Iz C_ jk Y6 nk X6 nz oz pz qz Gb".splitOn " ")++(((s.getString.drop 1).toString.replace "%" "List.length_map").replace "&" "Bool.or_false Bool.false_or Bool.or_true Bool.true_or" |>.splitOn " ")).filter (· ≠ "") |>.toArray.map λx => Lean.mkIdent x.toName):term],*, *])
local macro_rules|`(tactic|fail $s:str)=>`(tactic|walk_at $s)
local macro_rules|`(tactic|right)=>`(tactic|walk_at "!")
def iC:=(And.intro @EX (And.intro @J4 (And.intro @vH.{0} (And.intro @NV.{0} (And.intro @fS.{0} (And.intro @gS.{0} (And.intro @F8 (And.intro @sg (And.intro @ug @Pc)))))))))
def IM(k s m:Int):Int:=if k=0 then s / m else(s*69621+7) % 2147483629
def EH(k s m:Int):Int:=if k=0 then s % m else((((s*69621+7) % 2147483629) % 65521*40503+((s*69621+7) % 2147483629) / 65521+1)*16807 % 2147483647) / 13 % m
def YX(b:0<m)(c:m<100000000000000000000000000000000000000000000000000000000000000000000000000000000):run T W (n+1) "a" [.p (.l [.int k,.int s]),.i m]=some (.ok (.i (EH k s m)),[.p (.l [.int k,.int (IM k s m)]),.i m]):=by
 exists FY
 by_cases hk:k=0
 .subst hk;unfold IM EH
  right
 .unfold IM EH
  right
def XX(h:0<m):0<=EH k s m:=by unfold EH;split<;>exact uP _ ()
def WX(h:0<m):EH k s m<m:=by unfold EH;split<;>exact ZV _ h
def dr(b:0<m)(c:m<100000000000000000000000000000000000000000000000000000000000000000000000000000000):∃v d:Int,(0<=v/\v<m)/\run T W (n+1) "a" [.p (.l [.int k,.int s]),.i m]=some (.ok (.i v),[.p (.l [.int k,.int d]),.i m]):=#[_,_,#[XX b,WX b],YX b c]
def XN{W n:Nat}{k s m:Int}(h:0<m/\m<5000):∃v b:Int,(0<=v/\v<m)/\run T W (n+1) "a" [.p (.l [.int k,.int s]),.i m]=some (.ok (.i v),[.p (.l [.int k,.int b]),.i m]):=dr h.1 (Int.lt_trans h.2 (by decide))
noncomputable def OA(a:List (List Int)):List D:=a.map λis=>.t (is.map D.int)
def WU{l:List Int}:(l.map D.int).all (eC n)=bA:=bF.mpr λd hd=>by
 let(i,_,a):rA:=pE.mp hd
 obtain rfl:=a;cases n<;>rfl
def uDa(a:List (List Int)):eC (n+2) (.l (OA a))=bA:=bF.mpr λd hd=>by
 let(t,_,b):rA:=pE.mp hd
 obtain rfl:=b;exact WU
noncomputable def bG(a:List Int)(k:Nat):Int×Int :=
 if k<a.length/\a.headD 0 % 2=0 then(0,a.getD k 0)
 else(1,((if 0<a.length then a.getD (k % a.length) 0 % 2147483587+48611*((k / a.length:Nat):Int)+3*(k:Int) else 30011*(k:Int)+7)*48271+11*(k:Int)+1) % 2147483647)
def fT{ns:List Int}(h:k<ns.length):L2.sC (ns.map D.int) (k:Int)=aA (.int (ns.getD k 0)):=by
 apply L2.bK
 rw[ND,OC h];simp[h]
def Pe{k:Nat}(j:ns.length<=63)(hk:k<=100000):"y"|||n+1|||[.sh (.l (ns.map .int)),.i k]|||.ow (.l [.int (bG ns k).1,.int (bG ns k).2]):=by
 exists KY
 by_cases e:ns=[]
 .subst e;have h:decide ((k:Int)<((0:Nat):Int))=dA:=dB ();have f:decide (0<((0:Nat):Int))=dA:=rfl
  have ev:bG [] k=(1,((30011*(k:Int)+7)*48271+11*(k:Int)+1) % 2147483647):=by(unfold bG;rw[if_neg (by simp),if_neg (by simp)])
  fail "!pA"
 .have b:0<ns.length:=pk.mpr e;have f:decide (0<(ns.length:Int))=bA:=zB ()
  have l:(ns.map D.int)[0]?=aA (.int (ns.headD 0)):=by cases ns with | nil=>exact absurd rfl e | cons a r=>rfl
  have m:(0:Int)<(ns.length:Int):=by lia
  have o:(ns.length:Int)<100000000000000000000000000000000000000000000000000000000000000000000000000000000:=by lia
  have p:(k:Int) / (ns.length:Int)=((k / ns.length:Nat):Int):=by rw[Int.natCast_ediv]
  have q:(k:Int) % (ns.length:Int)=((k % ns.length:Nat):Int):=by rw[Int.natCast_emod]
  have s:=fT (k:=k % ns.length) (Nat.mod_lt _ b);by_cases d:k<ns.length
  .have h:decide ((k:Int)<(ns.length:Int))=bA:=zB ();have t:=fT d;by_cases g:ns.headD 0 % 2=0
   .have ev:bG ns k=(0,ns.getD k 0):=by unfold bG;rw[RA #[d,g]]
    fail "!pA"
   .have i:decide (ns.headD 0 % 2=0)=dA:=dB g
    have ev:bG ns k=(1,((ns.getD (k % ns.length) 0 % 2147483587+48611*((k / ns.length:Nat):Int)+3*(k:Int))*48271+11*(k:Int)+1) % 2147483647):=by(unfold bG;rw[if_neg (λz=>g z.2),RA b])
    fail "!pA"
  .have h:decide ((k:Int)<(ns.length:Int))=dA:=dB ()
   have ev:bG ns k=(1,((ns.getD (k % ns.length) 0 % 2147483587+48611*((k / ns.length:Nat):Int)+3*(k:Int))*48271+11*(k:Int)+1) % 2147483647):=by(unfold bG;rw[if_neg (λz=>d z.1),RA b])
   fail "!pA"
def Oh:((AA "span")==(AA "leap"))=dA:=by left
def Nh:((AA "span")==(AA "back"))=dA:=by left
def Mh:((AA "span")==(AA "again"))=dA:=by left
def Qh:((AA "span")==(AA "range"))=dA:=by left
def Lh:((AA "span")==(AA "above"))=dA:=by left
def Ph:((AA "span")==(AA "never"))=dA:=by left
def qh:PB .In (.str (AA "span")) (.t [.str (AA "leap"),.str (AA "back"),.str (AA "again")])=aA dA:=(rfl)
def xh:((AA "leap")==(AA "span"))=dA:=by left
def uh:((AA "leap")==(AA "back"))=dA:=by left
def th:((AA "leap")==(AA "again"))=dA:=by left
def wh:((AA "leap")==(AA "range"))=dA:=by left
def rh:((AA "leap")==(AA "above"))=dA:=by left
def vh:((AA "leap")==(AA "never"))=dA:=by left
def nh:PB .In (.str (AA "leap")) (.t [.str (AA "leap"),.str (AA "back"),.str (AA "again")])=aA bA:=(rfl)
def jh:((AA "back")==(AA "span"))=dA:=by left
def dh:((AA "back")==(AA "leap"))=dA:=by left
def bh:((AA "back")==(AA "again"))=dA:=by left
def gh:((AA "back")==(AA "range"))=dA:=by left
def Zg:((AA "back")==(AA "above"))=dA:=by left
def fh:((AA "back")==(AA "never"))=dA:=by left
def mh:PB .In (.str (AA "back")) (.t [.str (AA "leap"),.str (AA "back"),.str (AA "again")])=aA bA:=(rfl)
def Yg:((AA "again")==(AA "span"))=dA:=by left
def Vg:((AA "again")==(AA "leap"))=dA:=by left
def Ug:((AA "again")==(AA "back"))=dA:=by left
def Xg:((AA "again")==(AA "range"))=dA:=by left
def Tg:((AA "again")==(AA "above"))=dA:=by left
def Wg:((AA "again")==(AA "never"))=dA:=by left
def lh:PB .In (.str (AA "again")) (.t [.str (AA "leap"),.str (AA "back"),.str (AA "again")])=aA bA:=(rfl)
def Kh:((AA "range")==(AA "span"))=dA:=by left
def Ih:((AA "range")==(AA "leap"))=dA:=by left
def Hh:((AA "range")==(AA "back"))=dA:=by left
def Gh:((AA "range")==(AA "again"))=dA:=by left
def Fh:((AA "range")==(AA "above"))=dA:=by left
def Jh:((AA "range")==(AA "never"))=dA:=by left
def ph:PB .In (.str (AA "range")) (.t [.str (AA "leap"),.str (AA "back"),.str (AA "again")])=aA dA:=(rfl)
def Sg:((AA "above")==(AA "span"))=dA:=by left
def Pg:((AA "above")==(AA "leap"))=dA:=by left
def Og:((AA "above")==(AA "back"))=dA:=by left
def Ng:((AA "above")==(AA "again"))=dA:=by left
def Rg:((AA "above")==(AA "range"))=dA:=by left
def Qg:((AA "above")==(AA "never"))=dA:=by left
def kh:PB .In (.str (AA "above")) (.t [.str (AA "leap"),.str (AA "back"),.str (AA "again")])=aA dA:=(rfl)
def Eh:((AA "never")==(AA "span"))=dA:=by left
def Bh:((AA "never")==(AA "leap"))=dA:=by left
def Ah:((AA "never")==(AA "back"))=dA:=by left
def zh:((AA "never")==(AA "again"))=dA:=by left
def Dh:((AA "never")==(AA "range"))=dA:=by left
def yh:((AA "never")==(AA "above"))=dA:=by left
def oh:PB .In (.str (AA "never")) (.t [.str (AA "leap"),.str (AA "back"),.str (AA "again")])=aA dA:=(rfl)
def JB:=(And.intro @Oh (And.intro @Nh (And.intro @Mh (And.intro @Qh (And.intro @Lh (And.intro @Ph (And.intro @qh (And.intro @xh (And.intro @uh (And.intro @th (And.intro @wh (And.intro @rh (And.intro @vh (And.intro @nh (And.intro @jh (And.intro @dh (And.intro @bh (And.intro @gh (And.intro @Zg (And.intro @fh (And.intro @mh (And.intro @Yg (And.intro @Vg (And.intro @Ug (And.intro @Xg (And.intro @Tg (And.intro @Wg (And.intro @lh (And.intro @Kh (And.intro @Ih (And.intro @Hh (And.intro @Gh (And.intro @Fh (And.intro @Jh (And.intro @ph (And.intro @Sg (And.intro @Pg (And.intro @Og (And.intro @Ng (And.intro @Rg (And.intro @Qg (And.intro @kh (And.intro @Eh (And.intro @Bh (And.intro @Ah (And.intro @zh (And.intro @Dh (And.intro @yh @oh))))))))))))))))))))))))))))))))))))))))))))))))
theorem JT:∀{j:Nat} {l:List S} {U:Env},JA P C W (l.take j) U=aA (.nx,a)->JA P C W l U=JA P C W (l.drop j) a
 | 0,l,U,h=>by
  rw[Y6,sY] at h;cases h;rfl
 |j+1,[],U,h=>by
  rw[List.take_nil,sY] at h;cases h;rfl
 |j+1,s::l,U,h=>by
  rw[jk,rY] at h;rw[rY,nk]
  exists ex P C W s U,r
  obtain _ | ⟨b,c⟩:=r
  .cases h
  .cases b with
   |nx=>exact JT h
   |_=>cases h
def pw{j:Int}(c:0<=j)(d:j<=12):(0:Int)<2 ^ j.toNat/\(2:Int) ^ j.toNat<100000000000000000000000000000000000000000000000000000000000000000000000000000000:=by
 have h:j.toNat<=12:=by lia
 generalize j.toNat=q at h;have a:2 ^ q<=2 ^ 12:=ak (by decide) h;have b:(2:Int) ^ q<=4096:=by exact_mod_cast a
 exact#[D7 (by decide),Int.lt_of_le_of_lt b (by decide)]
inductive ZG(no ba oc ma:Int):D->Prop
 |span (a b:Int) (h1:0<=a) (h2:a<ba) (h3:0<=b) (h4:b<2 ^ oc.toNat):ZG no ba oc ma (.t [.str "span",.int a,.int b])
 |leap (a:Int) (h1:0<=a) (h2:a<=12):ZG no ba oc ma (.t [.str "leap",.int a])
 |back (a b:Int) (h1:1<=a) (h2:a<=12) (h3:1<=b) (h4:b<=12):ZG no ba oc ma (.t [.str "back",.int a,.int b])
 |again (a:Int) (h1:1<=a) (h2:a<=3):ZG no ba oc ma (.t [.str "again",.int a])
 |range (a b:Int) (h1:-60<=a) (h2:a<=b) (h3:b<=60):ZG no ba oc ma (.t [.str "range",.int a,.int b])
 |above (v w:Nat) (h1:(v:Int)<=ma) (h2:(w:Int)<=ma) (h3:v≠w):ZG no ba oc ma (.t [.str "above",.int v,.int w])
 |never (a b:Int) (x:fA) (h1:0<=a) (h2:a<oc) (h3:0<=b) (h4:b<oc) (h5:x="like"\/x="against"\/x="aside"\/x="any"):ZG no ba oc ma (.t [.str "never",.int a,.int b,.str x])
def ri(h:0<=v/\v<2):∃q,GD (aA (.l [.int a,.int b])) (.int v)=aA (.i q)/\(q=a\/q=b):=by
 rcases(by lia:v=0\/v=1) with rfl | rfl
 .exact#[a,rfl,.inl rfl]
 .exact#[b,rfl,.inr rfl]
def Wf{W n:Nat}{k s0 no ba oc ma:Int}(P:((1<=no/\no<=7)/\1<=ba/\ba<=4)/\(1<=oc/\oc<=12)/\1<=ma/\ma<=3) :
  ∃Q d,run T W (n+2) "z" [.p (.l [.int k,.int s0]),.i no,.i ba,.i oc,.i ma]=some (.ok (.sh d),[.p (.l [.int k,.int Q]),.i no,.i ba,.i oc,.i ma])/\ZG no ba oc ma d:=by
 exists LY
 unfold yg zg Ag Bg Cg Dg Eg Fg Gg Hg;obtain⟨⟨⟨_,_⟩,_,_⟩,⟨_,I⟩,_,_⟩:=P;have J:0<=oc:=by lia
 have g6:oc<=1000:=by lia
 have u:0<ma+1:=by lia
 have f:=@XN W n k;let(w,s,y,d0):FA:=f (s:=s0) (m:=9) ()
 let(a,l,g,A):FA:=f (s:=s) (m:=ba) ()
 by_cases c:w<2
 .have c':decide (w<2)=bA:=zB c;let(b,o,t,C):FA:=dr (W:=W) (n:=n) (k:=k) (s:=l) (pw J I).1 (pw J I).2
  refine#[o,_, ?_,.span a b g.1 g.2 t.1 t.2];clear f y g t c u
  right
 rcases(by lia:w=2\/w=3\/w=4\/w=5\/w=6\/w=7\/w=8) with rfl | rfl | rfl | rfl | rfl | rfl | rfl
 .let(e,o,K,C):FA:=f (s:=l) (m:=oc) ()
  have x3:e<=1000:=by lia
  have x4:=K.1;have M:(2:Int) ^ (e.toNat+1)<=2 ^ oc.toNat:=by exact_mod_cast ak (by decide) (show e.toNat+1<=oc.toNat by lia)
  rw[Int.pow_succ] at M;have R:(0:Int)<2 ^ e.toNat:=D7 (by decide);refine#[o,_, ?_,.span a (2 ^ oc.toNat-1-2 ^ e.toNat) g.1 g.2 () ()];clear f y g K c u M R
  right
 all_goals clear A g a l
 .let(v,l,B,A):FA:=f (s:=s) (m:=2) ()
  let(q,N,h):rA:=ri (a:=13) (b:=no+1) B
  let(a,o,g,C):FA:=f (s:=l) (m:=q) ()
  refine#[o,_, ?_,.leap a g.1 ()];clear f y g B h c u
  right
 .let(a,l,g,A):FA:=f (s:=s) (m:=12) ()
  let(b,o,t,C):FA:=f (s:=l) (m:=12) ()
  refine#[o,_, ?_,.back (1+a) (1+b) () () () ()];clear f y g t c u
  right
 .let(a,l,g,A):FA:=f (s:=s) (m:=3) ()
  refine#[l,_, ?_,.again (1+a) () ()];clear f y g c u
  right
 .let(a,l,g,A):FA:=f (s:=s) (m:=121) ()
  let(b,o,t,C):FA:=f (s:=l) (m:=20) ()
  let(v,F,B,U):FA:=f (s:=o) (m:=2) ()
  let(q,N,h):rA:=ri (a:=a-60) (b:=b-12) B
  let(r,X,Y,d4):FA:=f (s:=F) (m:=61-q) ()
  refine#[X,_, ?_,.range q (q+r) () () ()];clear f y g t B Y h c u
  right
 .let(a,l,g,A):FA:=f (s:=s) (m:=ma+1) ()
  let(b,o,t,C):FA:=f (s:=l) (m:=ma) ()
  obtain⟨i,rfl⟩:∃i:Nat,a=(i:Int):=#[a.toNat,by lia]
  have Z:=uP ((i:Int)+1+b) (show ma+1≠0 by lia);have e2:=ZV ((i:Int)+1+b) u;obtain⟨j,hj⟩:∃j:Nat,((i:Int)+1+b) % (ma+1)=(j:Int):=#[(((i:Int)+1+b) % (ma+1)).toNat,by lia]
  refine#[o,_, ?_,.above i j () () ?_]
  .clear f y g t c Z e2
   right
  .rintro rfl
   have e3:=Int.emod_add_mul_ediv ((i:Int)+1+b) (ma+1);rw[hj] at e3;have H:((i:Int)+1+b) / (ma+1)=0\/1<=((i:Int)+1+b) / (ma+1):=by have:=yl (show 0<=(i:Int)+1+b by lia) (show 0<=ma+1 by lia);lia
   exists ((i:Int)+1+b) / (ma+1),z
   rcases H with rfl | H
   .lia
   .have:=Int.mul_le_mul_of_nonneg_left H (show 0<=ma+1 by lia)
    lia
 .let(a,l,g,A):FA:=f (s:=s) (m:=oc) ()
  let(b,o,t,C):FA:=f (s:=l) (m:=oc) ()
  let(v,F,B,U):FA:=f (s:=o) (m:=4) ()
  obtain⟨x,N,O⟩:∃x:fA,GD (aA (.t [.str "like",.str "against",.str "aside",.str "any"])) (.int v)=aA (.s x)/\(x="like"\/x="against"\/x="aside"\/x="any"):=by
   rcases(by lia:v=0\/v=1\/v=2\/v=3) with rfl | rfl | rfl | rfl<;>exact#[_,rfl,by simp]
  refine#[F,_, ?_,.never a b x g.1 g.2 t.1 t.2 O];clear f y g t B O c u
  right
def ib(a b:Int):∃q,GD (aA (.l [.int a,.int b])) (.int (if g=bA then 1 else 0))=aA (.i q)/\(q=a\/q=b):=by
 cases g
 .exact#[a,rfl,.inl rfl]
 .exact#[b,rfl,.inr rfl]
structure VG(no ba oc:Int)(fs:List (Int×Int×Bool)):Prop where
 n1:1<=no
 n2:no<=7
 b1:1<=ba
 b2:ba<=4
 o1:1<=oc
 o2:oc<=12
 l1:1<=fs.length
 l2:fs.length<=3
 f:∀f∈fs,0<=f.1/\f.1<=4/\-12<=f.2.1/\f.2.1<=12
def Dx{W n:Nat}{k s:Int}:∃s' no ba oc fs rs,run T W (n+3) "A" [.p (.l [.int k,.int s])]=some (.ok (.sh (.t [.int no,.int ba,.int oc,.t (fs.map toD),.t rs])),[.p (.l [.int k,.int s'])])/\VG no ba oc fs/\rs.length<=8/\∀d∈rs,ZG no ba oc (fs.length:Int) d:=by
 rw[DR (fn:=LM) rfl rfl rfl];have c:=@XN W (n+1) k;let(g0,s1,_,d0):FA:=c (s:=s) (m:=2) ()
 obtain⟨g,hg⟩:∃g,decide (g0=0)=g:=#[_,rfl]
 let(q1,e1,h1):rA:=ib (g:=g) 4 7
 let(v1,s2,w1,d1):FA:=c (s:=s1) (m:=q1) ()
 let(q2,e2,h2):rA:=ib (g:=g) 2 4
 let(R,s3,w2,d2):FA:=c (s:=s2) (m:=q2) ()
 let(X,s4,w3,d3):FA:=c (s:=s3) (m:=12) ()
 let(q4,e4,h4):rA:=ib (g:=g) 2 3
 let(v4,Z,w4,d4):FA:=c (s:=s4) (m:=q4) ()
 have hA:JA T.cA (run T W (n+2)) W (LM.body.take 6) ([.p (.l [.int k,.int s])]++qB LM.nl .un)=aA (.nx,[.p (.l [.int k,.int Z]),.b g,.i (1+v1),.i (1+R),.i (1+X),.i (1+v4),.o (.l []),.un,.un,.un]):=by
  unfold LM;clear h1 h2 h4 w1 w2 w3 w4 c
  right
 rw[JT hA];clear hA d0 d1 d2 d3 d4 hg e1 e2 e4;have y:1<=1+v1/\1+v1<=7:=by lia
 have B:1<=1+R/\1+R<=4:=by lia
 have C:1<=1+X/\1+X<=12:=by lia
 have Y:1<=1+v4/\1+v4<=3:=by lia
 clear h1 h2 h4 w1 w2 w3 w4
 exists 1+v1,no
 exists 1+R,ba
 exists 1+X,oc
 exists 1+v4,ma
 have I:aAb .IB [.slot 5] [.p (.l [.int k,.int Z]),.b g,.i no,.i ba,.i oc,.i ma,.o (.l []),.un,.un,.un]=aA (rg ma.toNat,eA):=HI rfl () ()
 let(U1,aY,J,fs,l,x,rfl,F,h8,r,H):=lH (bind:=eB bA [7]) (body:=JA T.cA (run T W (n+2)) W kX)
  (λpre U=>∃J fs l x,U=[.p (.l [.int k,.int J]),.b g,.i no,.i ba,.i oc,.i ma,.o (.l (fs.map toD)),l,x,.un]/\SA l=bA/\SA x=bA/\fs.length=pre.length/\∀f∈fs,0<=f.1/\f.1<=4/\-12<=f.2.1/\f.2.1<=12)
  (ds:=rg ma.toNat) (λpre d post i U hU=>by
   let(J,fs,l,x,rfl,F,h8,r,H):=hU
   have j:pre.length<ma.toNat:=by
    have:=congrArg GG i
    simp at this
    lia
   refine#[_,by erw[iC,LB F]<;>rfl, ?_];have qK:fB ((fs.map toD).length+1)=bA:=UB (by simp;lia);let(q,e,hq):rA:=ib (g:=g) 2 5
   let(a,u1,ha,c1):FA:=c (s:=J) (m:=q) ()
   let(b,u2,hb,c2):FA:=c (s:=u1) (m:=25) ()
   let(t,u3,_,c3):FA:=c (s:=u2) (m:=4) ()
   refine#[[.p (.l [.int k,.int u3]),.b g,.i no,.i ba,.i oc,.i ma,.o (.l ((fs++[(a,b-12,decide (t=0))]).map toD)),.sh d,.i a,.un], ?_,_,_,_,_,rfl,rfl,rfl,by simp[r],λf K=>?_]
   .unfold kX;clear H i j r I y B C Y c hq ha hb
    right
    erw[iD,vB,LJ,toD]
   .rcases QE.mp K with K | K
    .exact H f K
    .rw[qD.mp K]
     refine#[ha.1, ?_, ?_, ?_]<;>simp only<;>lia)
  (U:=[.p (.l [.int k,.int Z]),.b g,.i no,.i ba,.i oc,.i ma,.o (.l []),.un,.un,.un]) #[_,[],_,_,rfl,rfl,rfl,rfl,λf h=>nomatch h]
 have r:fs.length=ma.toNat:=by rw[r];simp
 let(v,s7,hv,d5):FA:=c (s:=J) (m:=9) ()
 have FQ:∀U,aAb .IB [.val (.i v)] U=aA (rg v.toNat,eA):=λU=>HI rfl () ()
 let(U2,Fs,M,rs,t7',rfl,CZ,N,O):=lH (bind:=eB bA [7]) (body:=JA T.cA (run T W (n+2)) W lX)
  (λpre U=>∃M rs l,U=[.p (.l [.int k,.int M]),.b g,.i no,.i ba,.i oc,.i ma,.o (.l (fs.map toD)),l,x,.o (.l rs)]/\SA l=bA/\rs.length=pre.length/\∀d∈rs,ZG no ba oc ma d)
  (ds:=rg v.toNat) (λpre d post i U hU=>by
   let(M,rs,l,rfl,F,r,O):=hU
   have j:pre.length<v.toNat:=by
    have:=congrArg GG i
    simp at this
    lia
   refine#[_,by erw[iC,LB F]<;>rfl, ?_];have qK:fB (rs.length+1)=bA:=UB ();let(s9,dr,er,P):FA:=Wf (W:=W) (n:=n) (k:=k) (s0:=M) #[#[y,B],C,Y]
   refine#[[.p (.l [.int k,.int s9]),.b g,.i no,.i ba,.i oc,.i ma,.o (.l (fs.map toD)),.sh d,x,.o (.l (rs++[dr]))], ?_,_,_,_,rfl,rfl,by simp[r],λd hd=>(QE.mp hd).elim (O d) λq=>by rw[qD.mp q];exact P];unfold lX;clear O P H i j r I aY FQ hv d5 y B C Y c
   right)
  (U:=[.p (.l [.int k,.int s7]),.b g,.i no,.i ba,.i oc,.i ma,.o (.l (fs.map toD)),l,x,.o (.l [])]) #[_,[],_,rfl,F,rfl,λ_ z=>nomatch z]
 have u:rs.length<=8:=by rw[N];simp;lia
 have Q:(fs.length:Int)=ma:=by lia
 refine#[M,no,ba,oc,fs,rs, ?_,#[y.1,y.2,B.1,B.2,C.1,C.2,by lia,by lia,H],u,by rw[Q];exact O];clear H y B C Y r N hv O u Q c F h8 CZ;unfold LM
 right
def A3:"F"|||n+1|||[.sh (.t [.int c,.int a,.bl turned]),.i b]|||.i (if turned then a-b else a+b):=by
 exists lZ
 cases turned<;>right
def JC(a:List Int)(b:Int)(f:Int×Int×Bool):D :=
 if 0<=b-f.1/\b-f.1<a.length then .int (if f.2.2=bA then f.2.1-a.getD (b-f.1).toNat 0 else f.2.1+a.getD (b-f.1).toNat 0) else .lA
abbrev xD(fs:List (Int×Int×Bool)):List (Int×Int×Bool):=(0,0,dA)::fs
def nV{v:Nat}(h:(xD fs)[v]?=aA f) :
  "G"|||n+1|||[.sh ∅,.i v]|||.sh (toD f):=by
 exists oZ
 cases v with
 |zero =>
  erw[vH,rC] at h;subst h;have e:decide (((0:Nat):Int)=0)=bA:=rfl
  right
  all_goals (try erw[e])
  all_goals (try right)
  all_goals rfl
 |succ v =>
  have h:fs[v]?=aA f:=↑h
  have e:decide (((v+1:Nat):Int)=0)=dA:=dB ();have a:((v+1:Nat):Int)-1=(v:Int):=by lia
  have b:L2.sC (fs.map toD) (v:Int)=aA (toD f):=L2.bK (by rw[ND,h];rfl)
  right
def j8{a:List Int}{i:Int}(b:0<=i)(c:i<a.length):L2.sC (a.map D.int) i=aA (.int (a.getD i.toNat 0)):=by
 have:=fT (ns:=a) (k:=i.toNat) ()
 have e:((i.toNat:Nat):Int)=i:=by lia
 rwa[e] at this
def Q4{W n:Nat}{no ba oc:Int}{fs:List (Int×Int×Bool)}{rs:List D}{xs:List Int}{v:Nat}{b:Int}{p:Bool}{f:Int×Int×Bool}(h:(xD fs)[v]?=aA f) :
  "k"|||n+2|||[.sh ∅,.sh (.l (xs.map D.int)),.i v,.i b]|||.sh (JC xs b f):=by
 exists uZ
 have m:=nV (W:=W) (n:=n) (no:=no) (ba:=ba) (oc:=oc) (rs:=rs) h;let(a,d,turned):=f;erw[toD] at m;by_cases c:0<=b-a/\b-a<xs.length
 .have r:=j8 c.1 c.2;have ev:JC xs b (a,d,turned)=.int (if turned=bA then d-xs.getD (b-a).toNat 0 else d+xs.getD (b-a).toNat 0):=RA c;let(j,l):=c;clear h
  fail "!nV A3 pA"
 .have ev:JC xs b (a,d,turned)=.lA:=if_neg c;by_cases j:0<=b-a
  .have l:¬b-a<xs.length:=λz=>c #[j,z]
   have o:decide (b-a<(xs.length:Int))=dA:=dB l;clear h c l
   fail "!nV A3 pA"
  .have q:decide (0<=b-a)=dA:=dB j;clear h c j
   fail "!nV A3 pA"
def VO:JC xs b f=.lA\/∃i,JC xs b f=.int i:=by
 unfold JC;split
 .exact .inr #[_,rfl]
 .exact .inl rfl
def pK(X:fs.length<=1000) :
  "e"|||n+1|||[.sh ∅,~~~xs,.i b]|||.ow (.l ((xD fs).map (JC xs b))):=by
 exists HY
 have I:fB (([]:List D).length+1+(fs.map toD).length)=bA:=UB (by simp;lia);have A:fB (0+1+fs.length)=bA:=UB ()
 have key:=lH (bind:=eB dA [4,5,6]) (body:=JA T.cA (run T W n) W jX)
  (λpre U=>∃(k:List (Int×Int×Bool)) (s t u m:Sl),pre=k.map toD/\U=[.sh ∅,~~~xs,.i b,.o (.l (k.map (JC xs b))),s,t,u,m]/\SA s=bA/\SA t=bA/\SA u=bA/\SA m=bA)
  (ds:=(xD fs).map toD) (λpre d post q U J=>by
   let(k,s,t,u,m,rfl,rfl,K,M,N,Y):=J;have r:d∈(xD fs).map toD:=by rw[q];simp
   let(f,_,O):rA:=pE.mp r
   obtain rfl:=O
   have B:k.length<=1000:=by
    have:=congrArg GG q
    simp at this
    lia
   let(i,j,turned):=f;have C:fB ((k.map (JC xs b)).length+1)=bA:=UB (by simp;lia);have F:fB (k.length+1)=bA:=UB ();refine#[[.sh ∅,~~~xs,.i b,.o (.l (k.map (JC xs b))),.i i,.i j,.b turned,m], ?_, ?_]
   .unfold toD;erw[iC,LB K,LB M,LB N]
   .refine#[[.sh ∅,~~~xs,.i b,.o (.l ((k++[(i,j,turned)]).map (JC xs b))),.i i,.i j,.b turned,.sh (JC xs b (i,j,turned))], ?_,k++[(i,j,turned)],_,_,_,_,by simp,rfl,rfl,rfl,rfl,rfl];unfold jX;rw[iD,vB,LJ];by_cases c:0<=b-i/\b-i<xs.length
    .have Z:=j8 c.1 c.2;have ev:JC xs b (i,j,turned)=.int (if turned=bA then j-xs.getD (b-i).toNat 0 else j+xs.getD (b-i).toNat 0):=RA c;rw[ev];let(v,H):=c;cases turned
     .fail "!pA"
     .fail "!pA"
    .have ev:JC xs b (i,j,turned)=.lA:=if_neg c;rw[ev];by_cases v:0<=b-i
     .have H:¬b-i<xs.length:=λz=>c #[v,z]
      have P:decide (b-i<(xs.length:Int))=dA:=dB H
      fail "!pA"
     .have Q:decide (0<=b-i)=dA:=dB v
      fail "!pA")
  (U:=[.sh ∅,~~~xs,.i b,.o (.l []),.un,.un,.un,.un]) #[[],_,_,_,_,rfl,rfl,rfl,rfl,rfl,rfl]
 let(U',e,k,s,t,u,m,R,rfl,_):=key
 have inj:∀{f g:Int×Int×Bool},toD f=toD g->f=g:=λ{f g} h=>by(let(a,b,c):=f;let(a',b',c'):=g;erw[toD,D.t.injEq,R6,D.int.injEq,D.bl.injEq,and_true] at h;let(rfl,rfl,rfl):=h;rfl)
 have x:k=xD fs:=((List.map_inj_right (λa b h=>inj h)).mp R).symm;subst x;have y:aAb .of [.val (.sh (.t ((xD fs).map toD)))] [.sh ∅,~~~xs,.i b,.o (.l []),.un,.un,.un,.un]=aA ((xD fs).map toD,eA):=NQ rfl;have hh:∅=.t [.int no,.int ba,.int oc,.t (fs.map toD),.t rs]:=rfl;rw[hh] at e y ⊢;rw[vB] at e y;erw[vB,toD] at e y ⊢
 fail "!pA"
def rT{bind:D->Env->Option Env}(a:Nat->Bool)(val:Nat->D)(J:Env->Prop)
  (step:∀(j:Nat) (d:D),ds[j]?=aA d->∀U,J U->∃g c,bind d U=aA g/\tests g=some (.ok (.b (a j)),c)/\(a j=bA->∃v h,lC c=some (.ok v,h)/\v.d=val j/\J h)/\(a j=dA->J c)) :
  ∀U,J U->∃i,nE tests lC bind ds [] U=some (.ok (((nC ds.length).filter a).map val),i)/\J i:=by
 intro U l
 obtain⟨b,i,e,⟨rfl,k⟩,_⟩:=gK (λj b U=>b=((nC j).filter a).map val/\J U)
  (λj d hd b U m=>by
   let(n,k):=m;subst n;let(g,c,o,p,q,r):fC:=step j d hd U k
   refine#[g,a j,c,o,p,λf=>?_,λf=>?_]
   .let(v,h,s,t,u):pB:=q f
    refine#[v,h,s, ?_,u];rw[eM,iP,iD,t];simp[f]
   .refine#[?_,r f];rw[eM,iP,iD]
    simp[f]) [] U #[rfl,l]
 exact#[i,e,k]
def oT{xs:List Int}{b:Int}(s:fs.length<=1000) :
  "c"|||n+3|||[.sh ∅,.sh (.l (xs.map D.int)),.i b]|||.ow (.l ((xD fs).map (JC xs b))):=by
 exists bZ
 have m:aAb .IB [.val (.i ((fs.length:Int)+1))] [.sh ∅,.sh (.l (xs.map D.int)),.i b]=aA (rg (fs.length+1),eA):=by(refine aL (HI (n:=(fs.length:Int)+1) rfl () ()) ?_;rw[show((fs.length:Int)+1).toNat=fs.length+1 from by lia])
 obtain⟨g,v,e,⟨i,rfl,a,rfl⟩,t⟩:=gK (tests:=MC T.cA (run T W (n+2)) []) (lC:=ev T.cA (run T W (n+2)) dA iY) (bind:=eB bA [4]) (ds:=rg (fs.length+1))
  (λj g U=>∃(i:Sl),U=[.i b,.sh ∅,.sh (.l (xs.map D.int)),.un,i]/\SA i=bA/\g=((xD fs).take j).map (JC xs b))
  (λj d hd g U u=>by
   let(i,rfl,a,rfl):=u
   have o:j<fs.length+1:=by
    have:=(LD.mp hd).1
    simpa using this
   have k:d=.int j:=by(rw[ND,cL o] at hd;exact(ED hd).symm)
   subst k;obtain⟨f,l⟩:∃f,(xD fs)[j]?=aA f:=#[_,OC (by simp;lia)]
   have x:=Q4 (W:=W) (n:=n) (no:=no) (ba:=ba) (oc:=oc) (rs:=rs) (xs:=xs) (b:=b) (p:=bA) l;refine#[_,bA,_,by erw[iC,LB a]<;>rfl,qJ,λ_=>?_,λz=>nomatch z];refine#[.sh (JC xs b f),[.i b,.sh ∅,.sh (.l (xs.map D.int)),.un,.i j], ?_,_,rfl,rfl, ?_]
   .unfold iY;clear hd o l m a
    fail "!pA"
   .rw[zN,l,iD]
    rfl)
  [] [.i b,.sh ∅,.sh (.l (xs.map D.int)),.un,.un] #[_,rfl,rfl,rfl]
 have q:(xD fs).take ((rg (fs.length+1)).length)=xD fs:=by(rw[bL];simp)
 rw[q] at e;have r:fB (fs.length+1)=bA:=UB ();clear t a q s
 fail "!pA"
 rw[mF m]
 fail "!pA"
noncomputable def gI(lo a:Int):D->Bool
 |.int i=>!(decide (lo<=i)&&decide (i<=a))
 |_=>dA
def iN(n:Nat)(a:Nat->Bool):List (List Int):=((nC n).filter a).map λ(j:Nat)=>[(j:Int)]
def V2(a:n<=1000):(iN n sel).length<=1000:=by
 unfold iN;rw[pA]
 have:=SV sel (nC n)
 simp at this
 lia
def Yd:((nC n).filter a).map (λ(j:Nat)=>D.t [.int j])=OA (iN n a):=by
 unfold OA iN;rw[zH];rfl
def nMa(hd:d=.lA\/∃i,d=.int i):"0"|||n+1|||[.sh (.ins "Range" ["low","high"] [.int lo,.int hi]),.sh d]|||.b (gI lo hi d):=by
 exists UY
 rcases hd with rfl | ⟨i,rfl⟩
 .have e:gI lo hi .lA=dA:=rfl
  fail "!xY wY"
 .have e:gI lo hi (.int i)=!(decide (lo<=i)&&decide (i<=hi)):=rfl;by_cases c:lo<=i
  .have f:decide (lo<=i)=bA:=zB c;rw[e,f,QH]
   fail "!xY wY"
  .have f:decide (lo<=i)=dA:=dB c;rw[e,f,HJ]
   fail "!xY wY"
def YA(fs:List (Int×Int×Bool))(a:List Int)(b:Int):List D:=(xD fs).map (JC a b)
def Ga{j:Nat}(h:(YA fs a b)[j]?=aA d):d=.lA\/∃i,d=.int i:=by
 unfold YA at h;rw[ND] at h
 cases q:(xD fs)[j]? with
 |none=>rw[q] at h;cases h
 |some f =>
  rw[q] at h;cases h;exact VO
def EI:(YA fs xs b).length=fs.length+1:=by unfold YA;simp
def GZ{v:Nat}(h:(xD fs)[v]?=aA f):(YA fs a b)[v]?=aA (JC a b f):=by
 unfold YA;rw[ND,h];rfl
def AQ{v:Nat}(h:(xD fs)[v]?=aA f):(YA fs a b).getD v .lA=JC a b f:=by
 rw[uH,GZ h];rfl
def Zy(h:v.d=.l a):aAb (.enum 0) [.val v] U=aA (dH 0 a,eA):=by(unfold aAb;erw[h])
def LH(lo a:Int)(fs:List (Int×Int×Bool))(c:List Int)(b:Int):List (List Int):=iN (fs.length+1) λj=>gI lo a ((YA fs c b).getD j .lA)
def mMa(s:fs.length<=900) :
  "Z"|||n+4|||[.sh (.ins "Range" ["low","high"] [.int lo,.int hi]),.sh ∅,.sh (.l (xs.map D.int)),.i b]|||.ow (.l (OA (LH lo hi fs xs b))):=by
 exists TY
 have t:run T W (n+3) "c" _=some (.ok (.ow (.l (YA fs xs b))),_):=oT (no:=no) (ba:=ba) (oc:=oc) (fs:=fs) (rs:=rs) (xs:=xs) (b:=b) ();have l:aAb (.enum 0) [.val (.ow (.l (YA fs xs b)))] [.sh (.ins "Range" ["low","high"] [.int lo,.int hi]),.sh ∅,.sh (.l (xs.map D.int)),.i b]=aA (dH 0 (YA fs xs b),eA):=Zy rfl
 let(u,e,h,i,rfl,f,g):=rT (tests:=MC T.cA (run T W (n+3)) [.JI 0 "forbids" OL [.v 3]]) (lC:=ev T.cA (run T W (n+3)) dA fY) (bind:=eB dA [2,3]) (ds:=dH 0 (YA fs xs b))
  (λj=>gI lo hi ((YA fs xs b).getD j .lA)) (λ(j:Nat)=>.t [.int j])
  (λU=>∃(h i:Sl),U=[.sh (.ins "Range" ["low","high"] [.int lo,.int hi]),.un,h,i]/\SA h=bA/\SA i=bA)
  (λj d hd U o=>by
   let(h,i,rfl,f,g):=o
   have p:j<(YA fs xs b).length:=by
    have:=(LD.mp hd).1
    rwa[YN] at this
   have k:=OC p;rw[pY k,Int.zero_add] at hd;cases hd;generalize (YA fs xs b)[j]=x at k;have m:(YA fs xs b).getD j .lA=x:=by rw[uH,k];rfl
   have hk:=Ga k;have v:=nMa (W:=W) (n:=n+2) (lo:=lo) (hi:=hi) hk;refine#[_,[.sh (.ins "Range" ["low","high"] [.int lo,.int hi]),.un,.i j,.sh x],by erw[iC,LB f,LB g]<;>rfl, ?_,λ_=>?_,λ_=>?_]
   .erw[m]
    fail "!NU"
   .refine#[.sh (.t [.int j]),[.sh (.ins "Range" ["low","high"] [.int lo,.int hi]),.un,.i j,.sh x], ?_,rfl,_,_,rfl,rfl,rfl];unfold fY
    fail "!NU"
   .exact#[_,_,rfl,rfl,rfl])
  [.sh (.ins "Range" ["low","high"] [.int lo,.int hi]),.un,.un,.un] #[_,_,rfl,rfl,rfl]
 rw[YN,EI,Yd] at e;have q:iN (fs.length+1) (λj=>gI lo hi ((YA fs xs b).getD j .lA))=LH lo hi fs xs b:=rfl;rw[q] at e
 have r:fB (OA (LH lo hi fs xs b)).length=bA:=UB (by
  have:=V2 (n:=fs.length+1) (sel:=λj=>gI lo hi ((YA fs xs b).getD j .lA)) ()
  unfold OA LH;erw[pA]
  lia)
 fail "!NU"
 rw[mF l]
 fail "!NU"
noncomputable def zE(m v:Nat)(P:Nat->Nat->Bool):List (List Int):=((nC m).filter λj=>P v (v+1+j)).map λ(j:Nat)=>[(v:Int),((v+1+j:Nat):Int)]
def xE(n:Nat)(P:Nat->Nat->Bool):List (List Int):=(nC n).flatMap λv=>zE (n-(v+1)) v P
def yMa:zE (m+1) v P=zE m v P++(if P v (v+1+m)=bA then [[(v:Int),((v+1+m:Nat):Int)]] else []):=by
 unfold zE;rw[eM,iP,iD];congr 1;by_cases h:P v (v+1+m)=bA
 .simp[h]
 .simp[h]
def Tf:(zE m v P).length<=m:=by
 unfold zE;rw[pA]
 have:=SV (λj=>P v (v+1+j)) (nC m)
 simpa using this
def Ee:(nC (m+1)).flatMap (λv=>zE (n-(v+1)) v P)=(nC m).flatMap (λv=>zE (n-(v+1)) v P)++zE (n-(m+1)) m P:=by
 rw[eM,List.flatMap_append];simp
theorem E5:∀(m:Nat),((nC m).flatMap (λv=>zE (n-(v+1)) v P)).length<=m*n
 | 0=>by simp
 |m+1=>by(rw[Ee,RC];have a:=E5 (n:=n) (P:=P) m;have b:=Tf (m:=n-(m+1)) (v:=m) (P:=P);rw[Nat.succ_mul];omega)
def aV(a:n<=30):(xE n P).length<=1000:=by
 have b:=E5 (n:=n) (P:=P) n;have c:n*n<=30*30:=Jl a a;unfold xE
 lia
def yV:OA (a++b)=OA a++OA b:=by unfold OA;rw[iD]
def RI:(OA a).length=a.length:=by unfold OA;rw[pA]
def W3(E:List D->Sl->Sl->Env)(P:Nat->Nat->Bool)(n v:Nat)(b:List (List Int))(q:b.length<=10000)(r:n<=1000)
  (k:∀(a:List D) (t:Sl) (d:D),SA t=bA->eB bA [iw] d (E a (.i v) t)=aA (E a (.i v) (.sh d)))
  (l:∀(a:List (List Int)) (w:Nat),v<w->w<n->a.length<=20000->body (E (OA a) (.i v) (.i w))=aA (.nx,E (OA (a++(if P v w=bA then [[(v:Int),(w:Int)]] else []))) (.i v) (.i w))) (t:Sl) (o:SA t=bA) :
  ∃c,pD (eB bA [iw]) body ((nC (n-(v+1))).map λ(j:Nat)=>.int ((v:Int)+1+(j:Int))) (E (OA b) (.i v) t)=aA (.nx,E (OA (b++zE (n-(v+1)) v P)) (.i v) c)/\SA c=bA:=by
 let(s,e,c,rfl,f):=lH (bind:=eB bA [iw]) (λpre U=>∃c,U=E (OA (b++zE pre.length v P)) (.i v) c/\SA c=bA)
  (ds:=(nC (n-(v+1))).map λ(j:Nat)=>.int ((v:Int)+1+(j:Int))) (λpre d post g U p=>by
   let(c,rfl,f):=p
   have h:pre.length<n-(v+1):=by
    have:=congrArg GG g
    simp at this;omega
   have hd:d=.int (((v+1+pre.length:Nat)):Int):=by
    have i:((nC (n-(v+1))).map λ(j:Nat)=>D.int ((v:Int)+1+(j:Int)))[pre.length]?=aA d:=by rw[g];simp
    rw[ND,cL h] at i;erw[vF,rC] at i;rw[<- i];congr 1
   subst hd;refine#[_,k _ _ _ f,_,l _ (v+1+pre.length) (by omega) (by omega) ?_,.i ((v+1+pre.length:Nat):Int), ?_,rfl]
   .have:=Tf (m:=pre.length) (v:=v) (P:=P)
    rw[RC];omega
   .rw[RC,KC,FJ,yMa,oI])
  (U:=E (OA b) (.i v) t) #[t,by simp[zE],o]
 refine#[c, ?_,f];rw[e];simp
def X2(E:List D->Sl->Sl->Env)(P:Nat->Nat->Bool)(n:Nat)(o:n<=30)
  (p:∀(a:List D) (t h:Sl) (d:D),SA t=bA->eB bA [iv] d (E a t h)=aA (E a (.sh d) h))
  (q:∀(i:List (List Int)) (v:Nat) (t:Sl),v<n->i.length<=10000->SA t=bA->∃c,body (E (OA i) (.i v) t)=aA (.nx,E (OA (i++zE (n-(v+1)) v P)) (.i v) c)/\SA c=bA) (t h:Sl) (r:SA t=bA) (m:SA h=bA) :
  ∃c b,pD (eB bA [iv]) body (rg n) (E [] t h)=aA (.nx,E (OA (xE n P)) c b)/\SA c=bA/\SA b=bA:=by
 let(x,e,c,b,rfl,j,f):=lH (bind:=eB bA [iv]) (λpre U=>∃c b,U=E (OA ((nC pre.length).flatMap λv=>zE (n-(v+1)) v P)) c b/\SA c=bA/\SA b=bA)
  (ds:=rg n) (λpre d post k U s=>by
   let(c,b,rfl,j,f):=s
   have g:pre.length<n:=by
    have:=congrArg GG k
    simp at this
    lia
   have hd:d=.int ((pre.length:Nat):Int):=by
    have l:(rg n)[pre.length]?=aA d:=by rw[k];simp
    rw[ND,cL g] at l;erw[vF,rC] at l;exact l.symm
   subst hd
   let(y,u,w):=q ((nC pre.length).flatMap λv=>zE (n-(v+1)) v P) pre.length b g (by
    have l:=E5 (n:=n) (P:=P) pre.length;have z:pre.length*n<=30*30:=Jl () o
    lia) f
   refine#[_,p _ _ _ _ j,_,u,.i ((pre.length:Nat):Int),_, ?_,rfl,w]
   rw[RC,KC,FJ,Ee])
  (U:=E [] t h) #[t,h,by simp[OA],r,m]
 refine#[c,b, ?_,j,f];rw[e];unfold xE;simp
noncomputable def XE:D->Bool
 |.lA=>bA
 |_=>dA
def DD(a:List D)(v w:Nat):Bool:=!XE (a.getD v .lA) && !XE (a.getD w .lA)
def LN(a:List D):Prop:=∀d∈a,d=.lA\/∃i,d=.int i
def kU:LN (YA fs xs b):=λd hd=>by
 let(f,_,a):rA:=pE.mp hd
 obtain rfl:=a;exact VO
def iH(h:LN a)(b:v<a.length):∃d,L2.sC a (v:Int)=aA d/\a.getD v .lA=d/\(d=.lA\/∃i,d=.int i):=by
 refine#[a[v],L2.bK (OC b), ?_,h _ (dW b)];rw[uH,OC b];rfl
def og(hh:LN b)(l:b.length<=30) :
  "q"|||n+1|||[.p (.l b)]|||.ow (.l (OA (xE b.length (DD b)))):=by
 exists pZ
 have M:aAb .IB [.val (.i b.length)] [.p (.l b),.o (.l []),.un,.un]=aA (rg b.length,eA):=by(refine aL (HI (n:=(b.length:Int)) rfl () ()) ?_;rw[nI])
 let(N,r,e,s,k):=X2 (iv:=2) (body:=JA T.cA (run T W n) W xX) (λa t h=>[.p (.l b),.o (.l a),t,h]) (DD b) b.length l
  (λa t h d f=>by erw[iC,LB f])
  (λg v t u i f=>by
   have x:aAb .IB [.val (.i ((v:Int)+1)),.val (.i b.length)] [.p (.l b),.o (.l (OA g)),.i v,t]=aA ((nC (b.length-(v+1))).map λ(j:Nat)=>.int ((v:Int)+1+(j:Int)),eA):=by(refine aL (y0 (m:=(v:Int)+1) (n:=(b.length:Int)) rfl rfl () ()) ?_;rw[show((b.length:Int)-((v:Int)+1)).toNat=b.length-(v+1) from by lia])
   let(y,O,z):=W3 (iw:=3) (body:=JA T.cA (run T W n) W wX) (λa t h=>[.p (.l b),.o (.l a),t,h]) (DD b) b.length v g i ()
    (λa t d f=>by erw[iC,LB f])
    (λa w A B C=>by
     let(P,Q,g1,F):KA:=iH hh u
     let(R,U,g2,H):KA:=iH hh B
     have I:fB ((OA a).length+1)=bA:=UB (by rw[RI];lia);unfold wX DD;rw[g1,g2];rcases F with rfl | ⟨J,rfl⟩
     .have e:XE .lA=bA:=rfl
      fail "!pA"
      all_goals (try erw[RD])
     .have X:XE (.int J)=dA:=rfl;rcases H with rfl | ⟨K,rfl⟩
      .have e:XE .lA=bA:=rfl
       fail "!pA"
       all_goals (try erw[RD])
      .have e:XE (.int K)=dA:=rfl;have Y:OA (a++[[(v:Int),(w:Int)]])=OA a++[.t [.int v,.int w]]:=by rw[yV];rfl
       fail "!pA") t f
   refine#[y, ?_,z];unfold xX
   fail "!pA") .un .un rfl rfl
 fail "!pA"
noncomputable def XB(i:Int):Int:=if i<0 then -i else i
theorem VC:(if i<0 then -i else i)=XB i:=rfl
noncomputable def gx(a:List Int)(i:Nat):Int:=a.getD i 0
def vI{xs:List Int}(h:k<xs.length):L2.sC (xs.map D.int) (k:Int)=aA (.int (gx xs k)):=fT h
def mO(h:k<xs.length):gx xs k∈xs:=by
 unfold gx;rw[uH,OC h];simp
noncomputable def XC(c:Bool):List (List Int):=if c=bA then [[]] else []
def YU:(XC c).length<=1000:=by cases c<;>decide
def R3:kC .Mult (.l [.t []]) (.int (if c=bA then 1 else 0))=aA (.ow (.l (OA (XC c)))):=by
 cases c<;>exact fQ (by decide) (by decide) (YE (by decide))
def EF(c:Int)(a:List Int):Nat->Bool
 | 0=>dA
 |b+1=>decide (c<XB (gx a (b+1)-gx a b))
def Zc{b:Nat}(i:b<xs.length) :
  "W"|||n+1|||[.sh (.ins "Leap" ["most"] [.int a]),.sh h,.sh (.l (xs.map D.int)),.i b]|||.ow (.l (OA (XC (EF a xs b)))):=by
 exists RY
 match b,i with
 | 0,i =>
  have e:OA (XC (EF a xs 0))=[]:=rfl;have c:decide (0<((0:Nat):Int))=dA:=rfl
  fail "!vY pA VC"
 |b+1,i =>
  have c:decide (0<((b+1:Nat):Int))=bA:=zB ();have j:((b+1:Nat):Int)-1=((b:Nat):Int):=by lia
  have l:=vI (xs:=xs) (k:=b) ();have m:=vI (xs:=xs) (k:=b+1) ();have ev:EF a xs (b+1)=decide (a<XB (gx xs (b+1)-gx xs b)):=rfl;cases c1:decide (a<XB (gx xs (b+1)-gx xs b))
  .have e:OA (XC (EF a xs (b+1)))=[]:=by rw[ev,c1];rfl
   clear ev
   fail "!vY pA VC"
  .have e:OA (XC (EF a xs (b+1)))=[.t []]:=by rw[ev,c1];rfl
   clear ev
   fail "!vY pA VC"
def LF(m:Nat)(a:List Int)(b:Nat):List Int:=(a.drop (b-m)).take m
def rE(m:Nat)(a:List Int)(b:Nat):Bool:=decide ((m:Int)<=(b:Int))&&(LF m a b).all λz=>decide (z=gx a b)
def l9{xs:List Int}(h:m<=b)(c:b<=e)(d:e<=xs.length):nN (aA (.l (xs.map D.int))) (aA (.int ((b:Int)-(m:Int)))) (aA (.int e))=aA (.ow (.l (((xs.drop (b-m)).take (m+(e-b))).map D.int))):=by
 have a:(b:Int)-(m:Int)=((b-m:Nat):Int):=by lia
 show aA (RV.ow (.l (aAz (xs.map D.int) (aA ((b:Int)-(m:Int))) (aA (e:Int)))))=_;rw[a];unfold aAz;rw[HT.mV,HT.mV,pA,qS (),qS (),<- j7,<- l7,show e-(b-m)=m+(e-b) from by lia]
def bO{Z:List Int}:WD .all [.l (Z.map λz=>.bl (p z))]=aA (.b (Z.all p)):=by
 have h:xI (Z.map λz=>.bl (p z))=aA (Z.map p):=by
  induction Z with
  |nil=>rfl
  |cons z Z a=>simp[xI,a]
 show(xI _).map _=_;rw[h];simp[v7]
def wo{m:Nat}{h:D}{xs:List Int}{b:Nat}(u:b<xs.length)(H:m<=3) :
  "Y"|||n+1|||[.sh (.ins "Again" ["most"] [.int m]),.sh h,.sh (.l (xs.map D.int)),.i b]|||.ow (.l (OA (XC (rE m xs b)))):=by
 exists AY
 by_cases c:(b:Int)<(m:Int)
 .have v:decide ((b:Int)<(m:Int))=bA:=zB c
  have e:OA (XC (rE m xs b))=[]:=by(unfold rE;rw[dB ()];rfl)
  fail "!eO bO pA"
 .have v:decide ((b:Int)<(m:Int))=dA:=dB c;have q:=l9 (xs:=xs) (m:=m) (b:=b) (e:=b) () (uB _) ();rw[zP,Nat.add_zero] at q;have x:((xs.drop (b-m)).take m)=LF m xs b:=rfl;rw[x] at q
  have o:rE m xs b=(LF m xs b).all λz=>decide (z=gx xs b):=by(unfold rE;rw[zB (),QH])
  have y:(LF m xs b).length<=3:=by unfold LF;rw[SJ];lia
  have I:=vI (k:=b) u
  exists LF m xs b,Z
  have r:aAb .of [.val (.ow (.l (Z.map D.int)))] [.sh (.ins "Again" ["most"] [.int m]),.sh h,.sh (.l (xs.map D.int)),.i b]=aA (Z.map D.int,eA):=BU rfl
  obtain⟨i,J,e,⟨p,rfl,l,rfl⟩,s⟩:=gK (tests:=MC T.cA (run T W n) []) (lC:=ev T.cA (run T W n) dA bY) (bind:=eB bA [3]) (ds:=Z.map D.int)
   (λj i U=>∃(p:Sl),U=[.i b,.sh (.l (xs.map D.int)),.un,p]/\SA p=bA/\i=(Z.take j).map λz=>.bl (decide (z=gx xs b)))
   (λj d hd i U A=>by
    let(p,rfl,l,rfl):=A;obtain⟨z,s,rfl⟩:∃z,Z[j]?=aA z/\D.int z=d:=↑hd
    refine#[_,bA,_,by erw[iC,LB l]<;>rfl,qJ,λ_=>?_,λz=>nomatch z];refine#[.b (decide (z=gx xs b)),[.i b,.sh (.l (xs.map D.int)),.un,.i z], ?_,_,rfl,rfl, ?_]
    .unfold bY
     fail "!eO bO pA"
    .rw[zN,s,iD]
     rfl)
   [] [.i b,.sh (.l (xs.map D.int)),.un,.un] #[_,rfl,rfl,rfl]
  have B:Z.take (Z.map D.int).length=Z:=by(rw[bL];simp)
  rw[B] at e;have C:fB (Z.map λz=>D.bl (decide (z=gx xs b))).length=bA:=UB (by simp;lia);have t:fB Z.length=bA:=UB ();cases c1:Z.all λz=>decide (z=gx xs b)
  .have F:OA (XC (rE m xs b))=[]:=by rw[o,c1];rfl
   clear o
   fail "!eO bO pA"
   rw[mF r]
   fail "!eO bO pA"
  .have F:OA (XC (rE m xs b))=[.t []]:=by rw[o,c1];rfl
   clear o
   fail "!eO bO pA"
   rw[mF r]
   fail "!eO bO pA"
def J8{b:Nat}(d:b<xs.length) :
  "p"|||n+1|||[.sh (.t [.str "leap",.int a]),~~~xs,.i b]|||.b (EF a xs b):=by
 exists vQ
 match b,d with
 | 0,d =>
  have e:EF a xs 0=dA:=rfl;have c:decide (0<((0:Nat):Int))=dA:=rfl
  fail "!JB pA VC"
 |b+1,d =>
  have c:decide (0<((b+1:Nat):Int))=bA:=zB ();have i:((b+1:Nat):Int)-1=((b:Nat):Int):=by lia
  have j:=vI (xs:=xs) (k:=b) ();have l:=vI (xs:=xs) (k:=b+1) ();have ev:EF a xs (b+1)=decide (a<XB (gx xs (b+1)-gx xs b)):=rfl
  fail "!JB pA VC"
theorem u9:∀(l b:List Int),b.length<=(l.foldl QJ b).length
 |[],_=>uB _
 |a::l,b=>by
  refine dD ?_ (u9 l _);unfold QJ;split
  .exact uB _
  .simp
theorem v9(y:Int):∀l:List Int,decide (((l.foldl QJ [y]).length:Int)=1)=l.all λz=>decide (z=y)
 |[]=>rfl
 |a::l=>by
  by_cases h:a=y
  .subst h;have e:QJ [a] a=[a]:=by unfold QJ;simp
   rw[yN,e,v9 a l];simp
  .have e:QJ [y] a=[y,a]:=by
    unfold QJ;rw[if_neg]
    .rfl
    .simp;lia
   have g:=u9 l [y,a];rw[yN,e,dB (by erw[KC,FJ] at g;lia)];simp[h]
theorem aAA:∀l:List Int,oD (l.map D.int)=aA l
 |[]=>rfl
 |a::l=>by erw[vB,oD,aAA l,vF]
def ns_{l:List Int}(h:l.length<=1000):Qd (aA (.l (l.map D.int)))=aA (.i ((l.foldl QJ []).length:Int)):=by
 show mR (.l (l.map D.int))=_;unfold mR;erw[aAA,RA h];unfold Pj
 have e:(nC l.length).map (λi=>l.getD i 0)=l:=by
  apply List.ext_getElem
  .simp
  .intro i b a;simp[a]
 rw[e]
def Mr{x:Int}(a:Z≠[]):decide ((((Z++[x]).foldl QJ []).length:Int)=1)=Z.all λz=>decide (z=x):=by
 match Z,a with
 |y::Z,_ =>
  have e:QJ [] y=[y]:=rfl;rw[Uk,yN,e,v9];rw[zl,DC,DC,u7,mW];by_cases h:x=y
  .subst h;simp
  .have b:¬y=x:=λz=>h z.symm
   simp[h,b]
def wRa(h:m<=b)(c:b<a.length):(a.drop (b-m)).take (m+(b+1-b))=LF m a b++[gx a b]:=by
 unfold LF gx;rw[show m+(b+1-b)=m+1 from by lia,zN,List.getElem?_drop,show b-m+m=b from by lia,uH,OC c];rfl
def G8{m:Nat}{b:Nat}(a:b<xs.length)(j:1<=m)(k:m<=3) :
  "p"|||n+1|||[.sh (.t [.str "again",.int m]),~~~xs,.i b]|||.b (rE m xs b):=by
 exists vQ
 by_cases c:(m:Int)<=(b:Int)
 .have d:decide ((m:Int)<=(b:Int))=bA:=zB c
  have ev:rE m xs b=(LF m xs b).all λz=>decide (z=gx xs b):=by(unfold rE;rw[d,QH])
  have f:(LF m xs b).length=m:=by unfold LF;rw[SJ,uN];lia
  have o:=l9 (xs:=xs) (m:=m) (b:=b) (e:=b+1) () () ();rw[wRa () a,show((b+1:Nat):Int)=(b:Int)+1 from by lia] at o;have q:=ns_ (l:=LF m xs b++[gx xs b]) (by simp;lia);have hd:=Mr (Z:=LF m xs b) (x:=gx xs b) (λz=>by rw[z] at f;simp at f;lia);rw[<- ev] at hd;clear ev f c a j k
  fail "!JB pA VC"
 .have d:decide ((m:Int)<=(b:Int))=dA:=dB c;have e:rE m xs b=dA:=by unfold rE;rw[d];rfl
  clear c a j k
  fail "!JB pA VC"
def E8{fs:List (Int×Int×Bool)}{b:Nat}(k:fs.length<=1000)(l:b<a.length) :
  "f"|||n+2|||[.sh ∅,.sh (.t [.str "leap",.int c]),~~~a,.i b]|||.ow (.l (OA (XC (EF c a b)))):=by
 exists nK
 fail "!JB pK J8 G8 R3 pA"
def Zp{W n:Nat}{fs:List (Int×Int×Bool)}{m:Nat}{b:Nat}(j:fs.length<=1000)(k:b<a.length)(l:1<=m)(o:m<=3) :
  "f"|||n+2|||[.sh ∅,.sh (.t [.str "again",.int m]),~~~a,.i b]|||.ow (.l (OA (XC (rE m a b)))):=by
 exists nK
 fail "!JB pK J8 G8 R3 pA"
def Vf:"d"|||n+1|||[.sh (.t [.str "leap",a])]|||.sh (.ins "Leap" ["most"] [a]):=by
 exists oK
 fail "!JB"
def fNa:"d"|||n+1|||[.sh (.t [.str "again",a])]|||.sh (.ins "Again" ["most"] [a]):=by
 exists oK
 fail "!JB"
def gF(c d:Int)(a:List Int):Nat->Bool
 | 0=>dA
 | 1=>dA
 |b+2=>decide (c<=XB (gx a (b+1)-gx a b)) && !(decide ((gx a (b+1)-gx a b)*(gx a (b+2)-gx a (b+1))<0)&&decide (XB (gx a (b+2)-gx a (b+1))<=d))
def Zo{b:Nat}(t:b<xs.length)(v:∀x∈xs,0<=x/\x<100) :
  "X"|||n+1|||[.sh (.ins "Back" ["leap","most"] [.int f,.int g]),.sh h,.sh (.l (xs.map D.int)),.i b]|||.ow (.l (OA (XC (gF f g xs b)))):=by
 exists BY
 match b,t with
 | 0,t =>
  have e:OA (XC (gF f g xs 0))=[]:=rfl;have c:decide (((0:Nat):Int)<2)=bA:=rfl
  fail "!fO iO pA VC"
 | 1,t =>
  have e:OA (XC (gF f g xs 1))=[]:=rfl;have c:decide (((1:Nat):Int)<2)=bA:=rfl
  fail "!fO iO pA VC"
 |b+2,t =>
  have c:decide (((b+2:Nat):Int)<2)=dA:=dB ();have F:((b+2:Nat):Int)-1=((b+1:Nat):Int):=by lia
  have H:((b+2:Nat):Int)-2=((b:Nat):Int):=by lia
  have I:=vI (xs:=xs) (k:=b) ();have J:=vI (xs:=xs) (k:=b+1) ();have K:=vI (xs:=xs) (k:=b+2) ();have A:=v _ (mO (xs:=xs) (k:=b) ());have B:=v _ (mO (xs:=xs) (k:=b+1) ());have C:=v _ (mO (xs:=xs) (k:=b+2) ());have ev:gF f g xs (b+2)=(decide (f<=XB (gx xs (b+1)-gx xs b)) && !(decide ((gx xs (b+1)-gx xs b)*(gx xs (b+2)-gx xs (b+1))<0)&&decide (XB (gx xs (b+2)-gx xs (b+1))<=g))):=rfl
  exists gx xs b,o
  exists gx xs (b+1),d
  exists gx xs (b+2),r
  have M:-18446744073709551616<d-o:=by lia
  have N:d-o<18446744073709551616:=by lia
  clear v t A B C;by_cases s:XB (d-o)<f
  .have z:decide (XB (d-o)<f)=bA:=zB s;have a:decide (f<=XB (d-o))=dA:=dB ();have e:OA (XC (gF f g xs (b+2)))=[]:=by rw[ev,a];rfl
   clear ev s
   fail "!fO iO pA VC"
  .have z:decide (XB (d-o)<f)=dA:=dB s;have a:decide (f<=XB (d-o))=bA:=zB ();by_cases u:(d-o)*(r-d)<0
   .have p:decide ((d-o)*(r-d)<0)=bA:=zB u;by_cases y:XB (r-d)<=g
    .have q:decide (XB (r-d)<=g)=bA:=zB y;have e:OA (XC (gF f g xs (b+2)))=[]:=by rw[ev,a,p,q];rfl
     clear ev s u y
     fail "!fO iO pA VC"
    .have q:decide (XB (r-d)<=g)=dA:=dB y;have e:OA (XC (gF f g xs (b+2)))=[.t []]:=by rw[ev,a,p,q];rfl
     clear ev s u y
     fail "!fO iO pA VC"
   .have p:decide ((d-o)*(r-d)<0)=dA:=dB u;have e:OA (XC (gF f g xs (b+2)))=[.t []]:=by rw[ev,a,p];rfl
    clear ev s u
    fail "!fO iO pA VC"
def OU{a h:Int}(b:a≠0):a*h<0↔(a<0/\0<h)\/(0<a/\h<0):=by
 constructor
 .intro q;rcases mP a 0 with c | c | c
  .rcases mP h 0 with d | d | d
   .exact absurd (vj c d) ()
   .rw[d,vW] at q;lia
   .exact .inl #[c,d]
  .exact absurd c b
  .rcases mP h 0 with d | d | d
   .exact .inr #[c,d]
   .rw[d,vW] at q;lia
   .exact absurd (Int.mul_pos c d) ()
 .rintro(⟨c,d⟩ | ⟨c,d⟩)
  .exact xj c d
  .exact yj c d
def fq{xs:List Int}{b:Nat}(A:b<xs.length)(o:1<=r) :
  "p"|||n+1|||[.sh (.t [.str "back",.int r,.int x]),~~~xs,.i b]|||.b (gF r x xs b):=by
 exists vQ
 match b,A with
 | 0,A =>
  have e:gF r x xs 0=dA:=rfl;have c:decide (((0:Nat):Int)<2)=bA:=rfl
  fail "!JB pA VC"
 | 1,A =>
  have e:gF r x xs 1=dA:=rfl;have c:decide (((1:Nat):Int)<2)=bA:=rfl
  fail "!JB pA VC"
 |b+2,A =>
  have c:decide (((b+2:Nat):Int)<2)=dA:=dB ();have B:((b+2:Nat):Int)-1=((b+1:Nat):Int):=by lia
  have C:((b+2:Nat):Int)-2=((b:Nat):Int):=by lia
  have F:=vI (xs:=xs) (k:=b) ();have H:=vI (xs:=xs) (k:=b+1) ();have I:=vI (xs:=xs) (k:=b+2) ();have ev:gF r x xs (b+2)=(decide (r<=XB (gx xs (b+1)-gx xs b)) && !(decide ((gx xs (b+1)-gx xs b)*(gx xs (b+2)-gx xs (b+1))<0)&&decide (XB (gx xs (b+2)-gx xs (b+1))<=x))):=rfl
  exists gx xs b,i
  exists gx xs (b+1),a
  exists gx xs (b+2),j
  by_cases s:r<=XB (a-i)
  .have l:decide (r<=XB (a-i))=bA:=zB s;have d:a-i≠0:=λz=>by rw[z] at s;erw[XB] at s;lia
   by_cases m:a-i<0
   .have u:decide (a-i<0)=bA:=zB m;by_cases t:0<0-(a-j)
    .have v:decide (0<0-(a-j))=bA:=zB t;have q:decide ((a-i)*(j-a)<0)=bA:=zB ((OU d).mpr (.inl #[m,by lia]));have y:XB (j-a)=0-(a-j):=by unfold XB;rw[if_neg ()];lia
     rw[ev,l,q,y];clear ev m t q y s d o
     fail "!JB pA VC"
    .have v:decide (0<0-(a-j))=dA:=dB t;have q:decide ((a-i)*(j-a)<0)=dA:=dB (λz=>by rcases(OU d).mp z with z | z<;>lia);rw[ev,l,q];clear ev m t q s d o
     fail "!JB pA VC"
   .have u:decide (a-i<0)=dA:=dB m;by_cases t:0<a-j
    .have v:decide (0<a-j)=bA:=zB t;have q:decide ((a-i)*(j-a)<0)=bA:=zB ((OU d).mpr (.inr #[by lia,by lia]));have y:XB (j-a)=a-j:=by unfold XB;rw[RA ()];lia
     rw[ev,l,q,y];clear ev m t q y s d o
     fail "!JB pA VC"
    .have v:decide (0<a-j)=dA:=dB t;have q:decide ((a-i)*(j-a)<0)=dA:=dB (λz=>by rcases(OU d).mp z with z | z<;>lia);rw[ev,l,q];clear ev m t q s d o
     fail "!JB pA VC"
  .have l:decide (r<=XB (a-i))=dA:=dB s;rw[ev,l];clear ev s o;by_cases m:a-i<0
   .have u:decide (a-i<0)=bA:=zB m;clear m
    fail "!JB pA VC"
   .have u:decide (a-i<0)=dA:=dB m;clear m
    fail "!JB pA VC"
def aq{W n:Nat}{b:Nat}(l:fs.length<=1000)(m:b<a.length)(e:1<=c) :
  "f"|||n+2|||[.sh ∅,.sh (.t [.str "back",.int c,.int d]),~~~a,.i b]|||.ow (.l (OA (XC (gF c d a b)))):=by
 exists nK
 fail "!JB pK fq R3 pA"
def gNa:"d"|||n+1|||[.sh (.t [.str "back",a,b])]|||.sh (.ins "Back" ["leap","most"] [a,b]):=by
 exists oK
 fail "!JB"
def cq(F:fs.length<=900) :
  "f"|||n+2|||[.sh ∅,.sh (.t [.str "range",.int lo,.int a]),~~~xs,.i b]|||.ow (.l (OA (LH lo a fs xs b))):=by
 exists nK
 have hh:run T W (n+1) "e" _=some (.ok (.ow (.l (YA fs xs b))),_):=pK (no:=no) (ba:=ba) (oc:=oc) (fs:=fs) (rs:=rs) (xs:=xs) (b:=b) ()
 have k:aAb .IB [.val (.i ((YA fs xs b).length:Int))] [.sh ∅,.sh (.t [.str "range",.int lo,.int a]),~~~xs,.i b,.o (.l (YA fs xs b)),.un,.un,.un,.un,.un,.un]=aA (rg (fs.length+1),eA):=by(have s:=EI (fs:=fs) (xs:=xs) (b:=b);refine aL (HI (n:=((YA fs xs b).length:Int)) rfl () ()) ?_;rw[nI,s])
 let(H,e,r,rfl,h):=rT (tests:=MC T.cA (run T W (n+1)) [.and (.BA .IsNot (.ix (.v 0) (.v 3)) (.c .lA)) (.not (.CF .LtE .LtE (.ix (.v 1) (.c (.int 1))) (.ix (.v 0) (.v 3)) (.ix (.v 1) (.c (.int 2)))))]) (lC:=ev T.cA (run T W (n+1)) dA cY) (bind:=eB bA [3]) (ds:=rg (fs.length+1))
  (λj=>gI lo a ((YA fs xs b).getD j .lA)) (λ(j:Nat)=>.t [.int j])
  (λU=>∃(r:Sl),U=[.p (.l (YA fs xs b)),.sh (.t [.str "range",.int lo,.int a]),.un,r]/\SA r=bA)
  (λj d hd U z=>by
   let(r,rfl,h):=z
   have y:j<fs.length+1:=by
    have:=(LD.mp hd).1
    simpa using this
   have t:d=.int j:=by(rw[ND,cL y] at hd;exact(ED hd).symm)
   subst t;have m:=OC (l:=YA fs xs b) (i:=j) (by rw[EI];lia);generalize (YA fs xs b)[j]'(by rw[EI];lia)=x at m;have q:(YA fs xs b).getD j .lA=x:=by rw[uH,m];rfl
   have hk:=Ga m;have A:L2.sC (YA fs xs b) (j:Int)=aA x:=L2.bK m;refine#[_,[.p (.l (YA fs xs b)),.sh (.t [.str "range",.int lo,.int a]),.un,.i j],by erw[iC,LB h]<;>rfl, ?_,λ_=>?_,λ_=>?_]
   .erw[q];clear hd y m q hh k h;rcases hk with rfl | ⟨i,rfl⟩
    .have e:gI lo a .lA=dA:=rfl
     fail "!JB"
    .have e:gI lo a (.int i)=!(decide (lo<=i)&&decide (i<=a)):=rfl;by_cases c:lo<=i
     .have u:decide (lo<=i)=bA:=zB c;rw[e,u,QH];clear e c
      fail "!JB"
     .have u:decide (lo<=i)=dA:=dB c;rw[e,u,HJ]
      fail "!JB"
   .refine#[.sh (.t [.int j]),[.p (.l (YA fs xs b)),.sh (.t [.str "range",.int lo,.int a]),.un,.i j], ?_,rfl,_,rfl,rfl];unfold cY
    fail "!JB"
   .exact#[_,rfl,rfl])
  [.p (.l (YA fs xs b)),.sh (.t [.str "range",.int lo,.int a]),.un,.un] #[_,rfl,rfl]
 have v:(rg (fs.length+1)).length=fs.length+1:=by simp
 rw[v,Yd] at e;have B:iN (fs.length+1) (λj=>gI lo a ((YA fs xs b).getD j .lA))=LH lo a fs xs b:=rfl;rw[B] at e
 have C:fB (OA (LH lo a fs xs b)).length=bA:=UB (by
  have:=V2 (n:=fs.length+1) (sel:=λj=>gI lo a ((YA fs xs b).getD j .lA)) ()
  unfold OA LH;erw[pA]
  lia)
 fail "!JB"
 rw[mF k]
 fail "!JB"
def iNa:"d"|||n+1|||[.sh (.t [.str "range",a,b])]|||.sh (.ins "Range" ["low","high"] [a,b]):=by
 exists oK
 fail "!JB"
noncomputable def nJ:D->D->Bool
 |.int i,.int j=>decide (i<j)
 |_,_=>dA
def NK(c:Bool)(a b:Int):List (List Int):=if c=bA then [[a,b]] else []
def nSa:(NK c a b).length<=1000:=by cases c<;>simp[NK]
def aK(fs:List (Int×Int×Bool))(a:List Int)(b:Int)(v w:Nat):List (List Int):=NK (nJ ((YA fs a b).getD v .lA) ((YA fs a b).getD w .lA)) (v:Int) (w:Int)
def jo{rs:List D}{xs:List Int}{b:Int}{v w:Nat}(l:v<fs.length+1)(m:w<fs.length+1) :
  "1"|||n+3|||[.sh (.ins "Above" ["one","other"] [.int v,.int w]),.sh ∅,.sh (.l (xs.map D.int)),.i b]|||.ow (.l (OA (aK fs xs b v w))):=by
 exists zY
 obtain⟨f,h⟩:∃f,(xD fs)[v]?=aA f:=#[_,OC (by simp;omega)]
 obtain⟨g,k⟩:∃g,(xD fs)[w]?=aA g:=#[_,OC (by simp;omega)]
 have t:=Q4 (W:=W) (n:=n) (no:=no) (ba:=ba) (oc:=oc) (rs:=rs) (xs:=xs) (b:=b) (p:=bA) h;have u:=Q4 (W:=W) (n:=n) (no:=no) (ba:=ba) (oc:=oc) (rs:=rs) (xs:=xs) (b:=b) (p:=bA) k;unfold aK;rw[AQ h,AQ k];have o:=VO (xs:=xs) (b:=b) (f:=f);have q:=VO (xs:=xs) (b:=b) (f:=g)
 exists JC xs b f,x
 exists JC xs b g,r
 clear h k l m;rcases o with rfl | ⟨i,rfl⟩
 .have e:OA (NK (nJ .lA r) (v:Int) (w:Int))=[]:=rfl
  fail "!MT NT"
 .rcases q with rfl | ⟨j,rfl⟩
  .have e:OA (NK (nJ (.int i) .lA) (v:Int) (w:Int))=[]:=rfl
   fail "!MT NT"
  .by_cases c:i<j
   .have s:decide (j<=i)=dA:=dB (by omega)
    have e:OA (NK (nJ (.int i) (.int j)) (v:Int) (w:Int))=[.t [.int v,.int w]]:=by(unfold nJ;simp only;rw[zB c];rfl)
    clear c
    fail "!MT NT"
   .have s:decide (j<=i)=bA:=zB (by omega)
    have e:OA (NK (nJ (.int i) (.int j)) (v:Int) (w:Int))=[]:=by(unfold nJ;simp only;rw[dB c];rfl)
    clear c
    fail "!MT NT"
def S3:kC .Mult (.l [.t [.int a,.int b]]) (.int (if c=bA then 1 else 0))=aA (.ow (.l (OA (NK c a b)))):=by
 cases c<;>exact fQ (by decide) (by decide) (YE (by simp))
def T3:kC .Mult (.l [.t [.int a,.int b]]) (.int 0)=aA (.ow (.l (OA (NK dA a b)))):=fQ (by decide) (by decide) (YE (by simp))
def Yp{v w:Nat}(l:fs.length<=900)(m:v<fs.length+1)(o:w<fs.length+1) :
  "f"|||n+2|||[.sh ∅,.sh (.t [.str "above",.int v,.int w]),~~~xs,.i b]|||.ow (.l (OA (aK fs xs b v w))):=by
 exists nK
 have hh:run T W (n+1) "e" _=some (.ok (.ow (.l (YA fs xs b))),_):=pK (W:=W) (n:=n) (no:=no) (ba:=ba) (oc:=oc) (fs:=fs) (rs:=rs) (xs:=xs) (b:=b) ();obtain⟨f,h⟩:∃f,(xD fs)[v]?=aA f:=#[_,OC (by simp;lia)]
 obtain⟨g,k⟩:∃g,(xD fs)[w]?=aA g:=#[_,OC (by simp;lia)]
 have t:L2.sC (YA fs xs b) (v:Int)=aA (JC xs b f):=L2.bK (GZ h);have u:L2.sC (YA fs xs b) (w:Int)=aA (JC xs b g):=L2.bK (GZ k);unfold aK;rw[AQ h,AQ k];have q:=VO (xs:=xs) (b:=b) (f:=f);have r:=VO (xs:=xs) (b:=b) (f:=g)
 exists JC xs b f,x
 exists JC xs b g,s
 clear h k m o l;rcases q with rfl | ⟨i,rfl⟩
 .have e:nJ .lA s=dA:=rfl
  fail "!JB S3 T3"
 .rcases r with rfl | ⟨j,rfl⟩
  .have e:nJ (.int i) .lA=dA:=rfl
   fail "!JB S3 T3"
  .have e:nJ (.int i) (.int j)=decide (i<j):=rfl
   fail "!JB S3 T3"
def eNa:"d"|||n+1|||[.sh (.t [.str "above",a,b])]|||.sh (.ins "Above" ["one","other"] [a,b]):=by
 exists oK
 fail "!JB"
def bJa(L:List Z)(d:Z)(f:Z->Bool)(g:Z->J):((nC L.length).filter λj=>f (L.getD j d)).map (λj=>g (L.getD j d))=(L.filter f).map g:=by
 have h:L=(nC L.length).map λj=>L.getD j d:=by
  apply List.ext_getElem?
  intro i;rw[ND];by_cases a:i<L.length
  .rw[cL a,OC a];simp[a]
  .rw[dJ (),dJ (by simp;lia)];rfl
 have b:(L.filter f).map g=(((nC L.length).map λj=>L.getD j d).filter f).map g:=congrArg (λl=>(l.filter f).map g) h;rw[b,U6,zH];rfl
def Iv{n m v:Nat}{P Q:Nat->Nat->Bool}{R:List Int->Bool}(a:∀w:Nat,R [(v:Int),(w:Int)]=Q v w):(zE m v P).filter R=zE m v λv w=>P v w&&Q v w:=by
 unfold zE;rw[U6,List.filter_filter];congr 1
 apply Qk
 intro j _;erw[Function.comp,a,Bool.and_comm]
def R9{n:Nat}{P Q:Nat->Nat->Bool}{R:List Int->Bool}(a:∀v w:Nat,R [(v:Int),(w:Int)]=Q v w):(xE n P).filter R=xE n λv w=>P v w&&Q v w:=by
 unfold xE;rw[List.filter_flatMap];congr 1
 funext v
 exact Iv (n:=n) (a v)
noncomputable def oF:D->Int
 |.int i=>i
 |_=>0
def qF(oc a b:Int):Int:=XB (a-b) % oc
def CJ(d:0<oc):"i"|||n+1|||[.i oc,.i a,.i b]|||.i (qF oc a b):=by
 exists qZ
 unfold qF
 fail "!VC"
def MM(a s:Int):Bool:=decide (a / 2 ^ s.toNat % 2=0)
def Rv(h:0<=a):decide (jS (a / 2 ^ s.toNat) 1=0)=MM a s:=by
 have b:0<=a / 2 ^ s.toNat:=yl h (by exact Int.le_of_lt (D7 (by decide)));unfold MM;rw[PyProof.Rows.bitAnd_pp b (by decide)];have c:(1:Int).toNat=1:=rfl;rw[c,Nat.and_one_is_mod];have d:(((a / 2 ^ s.toNat).toNat % 2:Nat):Int)=a / 2 ^ s.toNat % 2:=by lia
 rw[d]
def vPa(h:0<=a)(f:0<=s):"V"|||n+1|||[.sh (.ins "Span" ["beat","spans"] [.int be,.int a]),.i s]|||.b (MM a s):=by
 exists WY
 have e:=Rv (s:=s) h
 fail "!jO kO VC"
def mL(oc b:Int)(a:List D)(v w:Nat):Bool:=MM b (qF oc (oF (a.getD v .lA)) (oF (a.getD w .lA)))
def AM(oc b:Int)(a:List D):List Int->Bool
 |[v,w]=>MM b (qF oc (oF (a.getD v.toNat .lA)) (oF (a.getD w.toNat .lA)))
 |_=>dA
def eG(c d ba oc:Int)(fs:List (Int×Int×Bool))(a:List Int)(b:Int):List (List Int):=if b % ba=c then xE (fs.length+1) (λv w=>DD (YA fs a b) v w&&mL oc d (YA fs a b) v w) else []
def Ad(h:is∈xE n P):∃v w:Nat,is=[(v:Int),(w:Int)]/\v<n/\w<n/\v<w/\P v w=bA:=by
 let(v,b,h):rA:=List.mem_flatMap.mp h
 have b:=GJ.mp b;let(j,a,c):rA:=pE.mp h
 obtain rfl:=c;let(a,d):=vN.mp a;have a:=GJ.mp a;exact#[v,v+1+j,rfl,b,by omega,by omega,d]
def uPa(X:fs.length<=20)(r:0<=a)(I:0<ba)(jU:0<oc) :
  "U"|||n+4|||[.sh (.ins "Span" ["beat","spans"] [.int be,.int a]),.sh ∅,.sh (.l (xs.map D.int)),.i b]|||.ow (.l (OA (eG be a ba oc fs xs b))):=by
 exists VY
 by_cases c:b % ba=be
 .have c':decide (b % ba=be)=bA:=zB c;have hc:run T W (n+3) "c" _=some (.ok (.ow (.l (YA fs xs b))),_):=oT (no:=no) (ba:=ba) (oc:=oc) (fs:=fs) (rs:=rs) (xs:=xs) (b:=b) ();have h:=kU (fs:=fs) (xs:=xs) (b:=b);have s:=EI (fs:=fs) (xs:=xs) (b:=b);have f:=og (W:=W) (n:=n+2) h ();rw[s] at f
  have F:eG be a ba oc fs xs b=(xE (fs.length+1) (DD (YA fs xs b))).filter (AM oc a (YA fs xs b)):=by(unfold eG;rw[RA c,R9 (Q:=mL oc a (YA fs xs b))];intro v w;rfl)
  exists YA fs xs b,g
  obtain⟨L,H⟩:∃L,L=xE (fs.length+1) (DD g):=#[_,rfl]
  have t:∀is∈L,∃v w:Nat,is=[(v:Int),(w:Int)]/\v<g.length/\w<g.length/\DD g v w=bA:=λis J=>by
   rw[H] at J;let(v,K):=Ad J;let(w,M,h2,h3,_,h4):zD:=K
   exact#[v,w,M,by lia,by lia,h4]
  have A:L.length<=1000:=by rw[H];exact aV ()
  rw[<- H] at f F;have B:aAb .of [.val (.ow (.l (OA L)))] [.sh (.ins "Span" ["beat","spans"] [.int be,.int a]),.sh ∅,.sh (.l (xs.map D.int)),.i b,.i oc,.o (.l g)]=aA (OA L,eA):=BU rfl
  let(Ui,e,Y,Z,rfl,k,l):=rT (tests:=MC T.cA (run T W (n+3)) [.JI 2 "forbids" OL [.call "i" [.v 1,.ix (.v 0) (.v 4),.ix (.v 0) (.v 5)]]]) (lC:=ev T.cA (run T W (n+3)) dA gY) (bind:=eB dA [4,5]) (ds:=OA L)
   (λj=>AM oc a g (L.getD j [])) (λj=>.t ((L.getD j []).map D.int))
   (λU=>∃(Y Z:Sl),U=[.p (.l g),.i oc,.sh (.ins "Span" ["beat","spans"] [.int be,.int a]),.un,Y,Z]/\SA Y=bA/\SA Z=bA)
   (λj d hd U hU=>by
    let(Y,Z,rfl,k,l):=hU
    have hj:j<L.length:=by
     have:=(LD.mp hd).1
     rwa[RI] at this
    have hg:=OC hj
    have N:d=.t (L[j].map D.int):=by(unfold OA at hd;rw[ND,hg] at hd;exact(ED hd).symm)
    have m:L.getD j []=L[j]:=by rw[uH,hg];rfl
    let(v,w,M,hv,hw,f):fC:=t L[j] (dW hj)
    rw[M] at N m;subst N;let(d1,a1,g1,O):KA:=iH h hv
    let(d2,a2,g2,P):KA:=iH h hw
    unfold DD at f;rw[g1,g2,XA] at f
    obtain⟨i1,rfl⟩:∃i,d1=.int i:=by
     rcases O with rfl | O
     .exact absurd f.1 (by decide)
     .exact O
    obtain⟨i2,rfl⟩:∃i,d2=.int i:=by
     rcases P with rfl | P
     .exact absurd f.2 (by decide)
     .exact P
    have C:0<=qF oc i1 i2:=uP _ ();have Yw:=vPa (W:=W) (n:=n+2) (be:=be) r C
    have q:AM oc a g [(v:Int),(w:Int)]=MM a (qF oc i1 i2):=by(unfold AM;erw[nI,g1,g2];rfl)
    refine#[_,[.p (.l g),.i oc,.sh (.ins "Span" ["beat","spans"] [.int be,.int a]),.un,.i v,.i w],by erw[vB,LJ,iC,LB k,LB l]<;>rfl, ?_,λ_=>?_,λ_=>?_]
    .erw[m,q];clear hd hj hg m q M hv hw f t A B F H hc h s O P g1 g2 k l X r I c C
     fail "!jR CJ jO kO"
    .refine#[.sh (.t [.int v,.int w]),[.p (.l g),.i oc,.sh (.ins "Span" ["beat","spans"] [.int be,.int a]),.un,.i v,.i w], ?_,by rw[m];rfl,_,_,rfl,rfl,rfl];unfold gY;clear hd hj hg m q M hv hw f t A B F H hc h s O P g1 g2 k l X r I c C Yw a1 a2
     fail "!jR CJ jO kO"
    .exact#[_,_,rfl,rfl,rfl])
   [.p (.l g),.i oc,.sh (.ins "Span" ["beat","spans"] [.int be,.int a]),.un,.un,.un] #[_,_,rfl,rfl,rfl]
  rw[RI,bJa L [] (AM oc a g) (λis=>D.t (is.map D.int))] at e;have R:(L.filter (AM oc a g)).map (λis=>D.t (is.map D.int))=OA (eG be a ba oc fs xs b):=by rw[F];rfl
  rw[R] at e
  have qK:fB (OA (eG be a ba oc fs xs b)).length=bA:=UB (by
   rw[RI,F]
   have:=SV (AM oc a g) L
   lia)
  clear X k l F R t A H h s r c
  fail "!jR CJ jO kO"
  rw[mF B]
  fail "!jR CJ jO kO"
 .have c':decide (b % ba=be)=dA:=dB c;have e:eG be a ba oc fs xs b=[]:=if_neg c;have e2:OA []=[]:=rfl;clear c X
  fail "!jR CJ jO kO"
def SN(hh:LN a)(h:v<a.length)(i:w<a.length)(m:1<=oc)(o:oc<=12) :
  "B"|||n+1|||[.sh ∅,.sh (.t [.str "span",.int be,.int sp]),.p (.l ah),.p (.l a),.i v,.i w]|||.b (DD a v w&&mL oc sp a v w):=by
 exists OT
 let(q,r,g1,j):KA:=iH hh h
 let(s,t,g2,k):KA:=iH hh i
 unfold DD mL;rw[g1,g2];have g:0<oc:=by lia
 rcases j with rfl | ⟨b,rfl⟩
 .have e:XE .lA=bA:=rfl
  fail "!JB VC"
 .have u:XE (.int b)=dA:=rfl;rcases k with rfl | ⟨c,rfl⟩
  .have e:XE .lA=bA:=rfl
   fail "!JB VC"
  .have e:XE (.int c)=dA:=rfl;have x:MM sp (qF oc (oF (.int b)) (oF (.int c)))=decide (sp / 2 ^ (XB (b-c) % oc).toNat % 2=0):=rfl;have l:0<=XB (b-c) % oc:=uP _ ();have y:XB (b-c) % oc<oc:=ZV _ g;have z:XB (b-c) % oc<=1000:=by lia
   let(A,C):=pw l ()
   fail "!JB VC"
def dq{b:Int}(B:fs.length<=20)(u:0<ba)(F:1<=oc)(H:oc<=12) :
  "f"|||n+2|||[.sh ∅,.sh (.t [.str "span",.int be,.int sp]),~~~xs,.i b]|||.ow (.l (OA (eG be sp ba oc fs xs b))):=by
 exists nK
 have hh:run T W (n+1) "e" _=some (.ok (.ow (.l (YA fs xs b))),_):=pK (W:=W) (n:=n) (no:=no) (ba:=ba) (oc:=oc) (fs:=fs) (rs:=rs) (xs:=xs) (b:=b) ();have x:run T W (n+1) "e" _=some (.ok (.ow (.l (YA fs xs (b-1)))),_):=pK (W:=W) (n:=n) (no:=no) (ba:=ba) (oc:=oc) (fs:=fs) (rs:=rs) (xs:=xs) (b:=b-1) ();by_cases c:b % ba=be
 .have U:decide (b % ba=be)=bA:=zB c;have h:=kU (fs:=fs) (xs:=xs) (b:=b);have i:=EI (fs:=fs) (xs:=xs) (b:=b);have y:eG be sp ba oc fs xs b=xE (fs.length+1) (λv w=>DD (YA fs xs b) v w&&mL oc sp (YA fs xs b) v w):=RA c;rw[<- i] at y
  exists YA fs xs b,g
  exists YA fs xs (b-1),ah
  have O:aAb .IB [.val (.i g.length)] [.sh ∅,.sh (.t [.str "span",.int be,.int sp]),~~~xs,.i b,.o (.l g),.un,.un,.un,.o (.l ah),.o (.l []),.un]=aA (rg g.length,eA):=by(refine aL (HI (n:=(g.length:Int)) rfl () ()) ?_;rw[nI])
  let(t',X,e,I,z):=X2 (iv:=5) (body:=JA T.cA (run T W (n+1)) W iQ) (λa t C=>[.sh ∅,.sh (.t [.str "span",.int be,.int sp]),~~~xs,.i b,.o (.l g),t,.un,.un,.o (.l ah),.o (.l a),C]) (λv w=>DD g v w&&mL oc sp g v w) g.length ()
   (λa t C d r=>by erw[iC,LB r])
   (λA v t J s r=>by
    have K:aAb .IB [.val (.i ((v:Int)+1)),.val (.i g.length)] [.sh ∅,.sh (.t [.str "span",.int be,.int sp]),~~~xs,.i b,.o (.l g),.i v,.un,.un,.o (.l ah),.o (.l (OA A)),t]=aA ((nC (g.length-(v+1))).map λ(j:Nat)=>.int ((v:Int)+1+(j:Int)),eA):=by(refine aL (y0 (m:=(v:Int)+1) (n:=(g.length:Int)) rfl rfl () ()) ?_;rw[show((g.length:Int)-((v:Int)+1)).toNat=g.length-(v+1) from by lia])
    let(Y,e3,P):=W3 (iw:=10) (body:=JA T.cA (run T W (n+1)) W hQ) (λa t C=>[.sh ∅,.sh (.t [.str "span",.int be,.int sp]),~~~xs,.i b,.o (.l g),t,.un,.un,.o (.l ah),.o (.l a),C]) (λv w=>DD g v w&&mL oc sp g v w) g.length v A s ()
     (λa t d r=>by erw[iC,LB r])
     (λa w M Q N=>by
      have R:=SN (W:=W) (n:=n) (be:=be) (sp:=sp) (no:=no) (ba:=ba) (fs:=fs) (rs:=rs) (ah:=ah) h J Q F H;have Z:fB ((OA a).length+1)=bA:=UB (by rw[RI];lia);have et:OA (a++[[(v:Int),(w:Int)]])=OA a++[.t [.int v,.int w]]:=by rw[yV];rfl
      unfold hQ
      exists (DD g v w&&mL oc sp g v w),q
      clear O K h B J Q M N s r y i hh x c F H u;cases q
      .fail "!JB SN"
       all_goals (try erw[RD])
      .fail "!JB SN") t r
    refine#[Y, ?_,P];unfold iQ;clear O h B J s r P y i hh x c F H u
    fail "!JB SN") .un .un rfl rfl
  rw[y];clear B h I z y i c
  fail "!JB SN"
 .have U:decide (b % ba=be)=dA:=dB c;have e:eG be sp ba oc fs xs b=[]:=if_neg c;have e2:OA []=[]:=rfl;clear c B
  fail "!JB SN"
def jNa:"d"|||n+1|||[.sh (.t [.str "span",a,b])]|||.sh (.ins "Span" ["beat","spans"] [a,b]):=by
 exists oK
 fail "!JB"
def tPa(a:fs.length<=20):(eG c d ba oc fs e b).length<=1000:=by
 unfold eG;split
 .exact aV ()
 .simp
def F_(E:List D->Sl->Sl->Env)(R:List Int->Bool)(L:List (List Int))(C:L.length<=1000)
  (n:∀(a:List D) (t f d m:_),SA t=bA->SA f=bA->eB dA [iv,iw] (.t [d,m]) (E a t f)=aA (E a (.sh d) (.sh m)))
  (o:∀is∈L,∃v w:Nat,is=[(v:Int),(w:Int)])
  (p:∀(a:List (List Int)) (v w:Nat),[(v:Int),(w:Int)]∈L->a.length<=2000->body (E (OA a) (.i v) (.i w))=aA (.nx,E (OA (a++(if R [(v:Int),(w:Int)]=bA then [[(v:Int),(w:Int)]] else []))) (.i v) (.i w))) (t f:Sl) (r:SA t=bA) (i:SA f=bA) :
  ∃g b,pD (eB dA [iv,iw]) body (OA L) (E [] t f)=aA (.nx,E (OA (L.filter R)) g b)/\SA g=bA/\SA b=bA:=by
 have key:∀(M:List (List Int)) (c:List (List Int)) (t f:Sl),(∀is∈M,is∈L)->c.length+M.length<=2000->SA t=bA->SA f=bA->∃g b,pD (eB dA [iv,iw]) body (OA M) (E (OA c) t f)=aA (.nx,E (OA (c++M.filter R)) g b)/\SA g=bA/\SA b=bA:=by
  intro M
  induction M with
  |nil=>intro c t f _ _ j k;exact#[t,f,by simp[OA,pD],j,k]
  |cons is M s =>
   intro c t f l u j k;let(v,w,x):gD:=o is (l is (by simp))
   obtain rfl:=x;have y:OA ([(v:Int),(w:Int)]::M)=.t [.int v,.int w]::OA M:=rfl;have z:c.length+M.length+1<=2000:=by simpa[m7] using u
   rw[y];simp only[pD,n _ _ _ _ _ j k,p c v w (l _ (by simp)) ()]
   let(g,b,e,A,B):=s (c++(if R [(v:Int),(w:Int)]=bA then [[(v:Int),(w:Int)]] else [])) (.i v) (.i w) (λis h=>l is (QD _ h)) (by
    rw[RC];split
    .erw[KC,FJ];lia
    .erw[FJ];lia) rfl rfl
   refine#[g,b, ?_,A,B];rw[e,List.filter_cons];by_cases q:R [(v:Int),(w:Int)]=bA
   .simp[q]
   .simp[q]
 let(g,b,e,h):FA:=key L [] t f (λ_ h=>h) (by simp;lia) r i
 exact#[g,b,by simpa[OA] using e,h]
def VR(x:fA):Prop:=x="like"\/x="against"\/x="aside"\/x="any"
def mH(x:fA)(a b:Int):Bool:=if x==("like":fA) then decide (0<a*b) else if x==("against":fA) then decide (a*b<0) else if x==("aside":fA) then !(decide (a=0)==decide (b=0)) else bA
def fG:((AA "against")==(AA "like"))=dA:=by left
def gG:((AA "aside")==(AA "like"))=dA:=by left
def iG:((AA "any")==(AA "like"))=dA:=by left
def jG:((AA "aside")==(AA "against"))=dA:=by left
def kG:((AA "any")==(AA "against"))=dA:=by left
def lG:((AA "any")==(AA "aside"))=dA:=by left
def DG:((AA "like")==(AA "any"))=dA:=by left
def EG:((AA "like")==(AA "aside"))=dA:=by left
def FG:((AA "against")==(AA "any"))=dA:=by left
def BG:((AA "against")==(AA "aside"))=dA:=by left
def CG:((AA "aside")==(AA "any"))=dA:=by left
def kBa(s:VR x)(t:-18446744073709551616<a)(u:a<18446744073709551616):"H"|||n+1|||[.s x,.i a,.i b]|||.b (mH x a b):=by
 exists iZ
 unfold mH;rcases s with rfl | rfl | rfl | rfl
 .fail "!fG gG iG jG kG lG DG EG FG BG CG xF pG RG SG"
 .fail "!fG gG iG jG kG lG DG EG FG BG CG xF pG RG SG"
 .fail "!fG gG iG jG kG lG DG EG FG BG CG xF pG RG SG"
 .fail "!fG gG iG jG kG lG DG EG FG BG CG xF pG RG SG"
def Ze{a h:Int}:0<a*h↔(0<a/\0<h)\/(a<0/\h<0):=by
 constructor
 .intro q;rcases mP a 0 with c | c | c
  .rcases mP h 0 with d | d | d
   .exact .inr #[c,d]
   .rw[d,vW] at q;lia
   .exact absurd (xj c d) ()
  .rw[c,Int.zero_mul] at q;lia
  .rcases mP h 0 with d | d | d
   .exact absurd (yj c d) ()
   .rw[d,vW] at q;lia
   .exact .inl #[c,d]
 .rintro(⟨c,d⟩ | ⟨c,d⟩)
  .exact Int.mul_pos c d
  .exact vj c d
def zCa{a h:Int}:a*h<0↔(0<a/\h<0)\/(a<0/\0<h):=by
 have:=Ze (a:=a) (h:=-h)
 rw[Int.mul_neg] at this;constructor
 .intro q;rcases this.mp (by omega) with z | z
  .exact .inl #[z.1,by omega]
  .exact .inr #[z.1,by omega]
 .intro q
  have:=this.mpr (by rcases q with z | z;exact .inl #[z.1,by omega];exact .inr #[z.1,by omega])
  omega
def Yx:PB .In (.int 0) (.t [.int a,.int b])=aA (decide (a=0)||decide (b=0)):=by
 have h:PB .In (.int 0) (.t [.int a,.int b])=aA (inD (.int 0) [.int a,.int b]):=rfl;rw[h];congr 1;show((a==0)||((b==0)||false))=_;rw[xF];rfl
def BL(M:VR x):"N"|||n+1|||[.s x,.i a,.i b]|||.b (mH x a b):=by
 exists JY
 rcases M with rfl | rfl | rfl | rfl
 .have e:mH "like" a b=decide ((0<a/\0<b)\/(a<0/\b<0)):=by
   unfold mH;rw[RA (ZL _)];exact qP.mpr Ze
  rw[e];by_cases y:0<a
  .have v:decide (0<a)=bA:=zB y;have z:decide (a<0)=dA:=dB (by omega);by_cases A:0<b
   .have B:decide (0<b)=bA:=zB A;rw[zB (p:=(0<a/\0<b)\/(a<0/\b<0)) (.inl #[y,A])]
    fail "!fG gG iG jG kG lG DG EG FG BG CG xF pG RG SG"
   .have B:decide (0<b)=dA:=dB A;rw[dB (p:=(0<a/\0<b)\/(a<0/\b<0)) (by omega)]
    fail "!fG gG iG jG kG lG DG EG FG BG CG xF pG RG SG"
  .have v:decide (0<a)=dA:=dB y;by_cases C:a<0
   .have z:decide (a<0)=bA:=zB C;have J:decide ((0<a/\0<b)\/(a<0/\b<0))=decide (b<0):=qP.mpr (by omega);rw[J]
    fail "!fG gG iG jG kG lG DG EG FG BG CG xF pG RG SG"
   .have z:decide (a<0)=dA:=dB C;rw[dB (p:=(0<a/\0<b)\/(a<0/\b<0)) (by omega)]
    fail "!fG gG iG jG kG lG DG EG FG BG CG xF pG RG SG"
 .have e:mH "against" a b=decide ((0<a/\b<0)\/(a<0/\0<b)):=by
   unfold mH;rw[fG,if_neg (by decide),RA (ZL _)];exact qP.mpr zCa
  rw[e];by_cases y:0<a
  .have v:decide (0<a)=bA:=zB y;have z:decide (a<0)=dA:=dB (by omega);by_cases A:b<0
   .have B:decide (b<0)=bA:=zB A;rw[zB (p:=(0<a/\b<0)\/(a<0/\0<b)) (.inl #[y,A])]
    fail "!fG gG iG jG kG lG DG EG FG BG CG xF pG RG SG"
   .have B:decide (b<0)=dA:=dB A;rw[dB (p:=(0<a/\b<0)\/(a<0/\0<b)) (by omega)]
    fail "!fG gG iG jG kG lG DG EG FG BG CG xF pG RG SG"
  .have v:decide (0<a)=dA:=dB y;by_cases C:a<0
   .have z:decide (a<0)=bA:=zB C;have J:decide ((0<a/\b<0)\/(a<0/\0<b))=decide (0<b):=qP.mpr (by omega);rw[J]
    fail "!fG gG iG jG kG lG DG EG FG BG CG xF pG RG SG"
   .have z:decide (a<0)=dA:=dB C;rw[dB (p:=(0<a/\b<0)\/(a<0/\0<b)) (by omega)]
    fail "!fG gG iG jG kG lG DG EG FG BG CG xF pG RG SG"
 .have e:mH "aside" a b=((decide (a=0)||decide (b=0)) && !decide (a=b)):=by
   unfold mH;rw[gG,if_neg (by decide),jG,if_neg (by decide),RA (ZL _)];by_cases I:a=0
   .by_cases F:b=0
    .simp[I,F]
    .simp[I,F];omega
   .by_cases F:b=0
    .simp[I,F]
    .simp[I,F]
  rw[e];have H:=Yx (a:=a) (b:=b);by_cases y:a=0\/b=0
  .have v:(decide (a=0)||decide (b=0))=bA:=by rcases y with h | h<;>simp[h]
   rw[v] at H ⊢
   fail "!fG gG iG jG kG lG DG EG FG BG CG xF pG RG SG"
  .have v:(decide (a=0)||decide (b=0))=dA:=by
    rw[not_or] at y;simp[y.1,y.2]
   rw[v] at H ⊢
   fail "!fG gG iG jG kG lG DG EG FG BG CG xF pG RG SG"
 .have e:mH "any" a b=bA:=by
   unfold mH;rw[iG,if_neg (by decide),kG,if_neg (by decide),lG,if_neg (by decide)]
  rw[e]
  fail "!fG gG iG jG kG lG DG EG FG BG CG xF pG RG SG"
def AK(one other oc:Int)(x:fA)(a b:List D)(v w:Nat):Bool :=
 decide (qF oc (oF (a.getD v .lA)) (oF (a.getD w .lA))=one)&&decide (qF oc (oF (b.getD v .lA)) (oF (b.getD w .lA))=other)&&mH x (oF (b.getD v .lA)-oF (a.getD v .lA)) (oF (b.getD w .lA)-oF (a.getD w .lA))
def PU(one other oc:Int)(x:fA)(a b:List D):List Int->Bool
 |[v,w]=>AK one other oc x a b v.toNat w.toNat
 |_=>dA
def eI(one other oc:Int)(x:fA)(fs:List (Int×Int×Bool))(a:List Int)(b:Int):List (List Int):=xE (fs.length+1) (λv w=>DD (YA fs a (b-1)) v w&&AK one other oc x (YA fs a (b-1)) (YA fs a b) v w)
def sHa(h:∀v w,v<w->w<n->P v w=Q v w):xE n P=xE n Q:=by
 unfold xE;congr 1
 funext v
 unfold zE;congr 1
 apply Qk
 intro j a;have a:=GJ.mp a;exact h v (v+1+j) (by omega) (by omega)
def tHa(h:∀v w,v<w->w<n->P v w=dA):xE n P=[]:=by
 rw[sHa (Q:=λ_ _=>dA) h];unfold xE zE;simp
structure KP(hs ah:List D):Prop where
 h1:LN hs
 h2:LN ah
 len:ah.length=hs.length
 bd:∀v i,hs.getD v .lA=.int i->-100<=i/\i<=100
 gp:∀v i,ah.getD v .lA=.int i->-100<=i/\i<=100
 on:∀v,XE (ah.getD v .lA)=dA->XE (hs.getD v .lA)=dA
def HZ{fs:List (Int×Int×Bool)}{xs:List Int}{b:Int}{v:Nat}:(∃f∈xD fs,∀b:Int,(YA fs xs b).getD v .lA=JC xs b f)\/∀b:Int,(YA fs xs b).getD v .lA=.lA:=by
 cases h:(xD fs)[v]? with
 |some f=>exact .inl #[f,xH h,λb=>AQ h]
 |none =>
  refine .inr λb=>?_
  unfold YA;rw[uH,ND,h];rfl
def Pa{no ba oc:Int}{fs:List (Int×Int×Bool)}{xs:List Int}{b:Nat}(j:VG no ba oc fs)(d:∀x∈xs,0<=x/\x<no)(p:b<xs.length):KP (YA fs xs (b:Int)) (YA fs xs ((b:Int)-1)):=by
 have n2:=j.n2
 have l:∀f∈xD fs,0<=f.1/\-12<=f.2.1/\f.2.1<=12:=λf a=>by
  rcases jD.mp a with rfl | a
  .decide
  .have:=j.f f a
   omega
 have m:∀(c:Int) v i,(YA fs xs c).getD v .lA=.int i->-100<=i/\i<=100:=λc v i h=>by
  rcases HZ (fs:=fs) (xs:=xs) (b:=c) (v:=v) with ⟨f,a,e⟩ | e
  .rw[e c] at h;unfold JC at h;split at h
   .rename_i n;have h:=D.int.inj h
    have o:xs.getD (c-f.1).toNat 0∈xs:=by
     have g:(c-f.1).toNat<xs.length:=by omega
     exact mO (k:=(c-f.1).toNat) g
    have:=d _ o
    have:=l f a
    split at h<;>omega
   .cases h
  .rw[e c] at h;cases h
 refine#[kU,kU,by rw[EI,EI],m _,m _,λv h=>?_];rcases HZ (fs:=fs) (xs:=xs) (b:=(b:Int)) (v:=v) with ⟨f,a,e⟩ | e
 .rw[e] at h ⊢;unfold JC at h ⊢;split at h
  .rename_i n
   have:=l f a
   rw[RA (by omega)];rfl
  .cases h
 .rw[e] at h;cases h
def Hx(H:KP c d)(g:v<c.length)(i:w<c.length)(h:DD d v w=bA):∃a e b f:Int,L2.sC d (v:Int)=aA (.int a)/\L2.sC d (w:Int)=aA (.int e)/\L2.sC c (v:Int)=aA (.int b)/\L2.sC c (w:Int)=aA (.int f)/\d.getD v .lA=.int a/\d.getD w .lA=.int e/\c.getD v .lA=.int b/\c.getD w .lA=.int f/\(-100<=a/\a<=100)/\(-100<=b/\b<=100):=by
 unfold DD at h;rw[XA] at h;let(u,m,g1,n):KA:=iH H.h2 (by rw[H.len];exact g)
 let(x,o,g2,p):KA:=iH H.h2 (v:=w) (by rw[H.len];exact i)
 let(y,q,g3,r):KA:=iH H.h1 g
 let(z,s,j,t):KA:=iH H.h1 i
 have k:=H.on v (↑(h.1));have l:=H.on w (↑(h.2));rw[g1,g2] at h;rw[g3] at k;rw[j] at l;rcases n with rfl | ⟨a,rfl⟩
 .exact absurd h.1 (by decide)
 rcases p with rfl | ⟨e,rfl⟩
 .exact absurd h.2 (by decide)
 rcases r with rfl | ⟨b,rfl⟩
 .exact absurd k (by decide)
 rcases t with rfl | ⟨f,rfl⟩
 .exact absurd l (by decide)
 exact#[a,e,b,f,m,o,q,s,g1,g2,g3,j,H.gp v a g1,H.bd v b g3]
def aDa(hl:fs.length<=20)(jU:0<oc)(hx:VR x)(H:KP (YA fs xs b) (YA fs xs (b-1))) :
  "2"|||n+4|||[.sh (.ins "Never" ["one","other","way"] [.int one,.int other,.str x]),.sh ∅,.sh (.l (xs.map D.int)),.i b]|||.ow (.l (OA (eI one other oc x fs xs b))):=by
 exists SY
 have Rw:run T W (n+3) "c" _=some (.ok (.ow (.l (YA fs xs (b-1)))),_):=oT (no:=no) (ba:=ba) (oc:=oc) (fs:=fs) (rs:=rs) (xs:=xs) (b:=b-1) ();have Sw:run T W (n+3) "c" _=some (.ok (.ow (.l (YA fs xs b))),_):=oT (W:=W) (n:=n) (no:=no) (ba:=ba) (oc:=oc) (fs:=fs) (rs:=rs) (xs:=xs) (b:=b) ();have u:=EI (fs:=fs) (xs:=xs) (b:=b-1);have r:=EI (fs:=fs) (xs:=xs) (b:=b);have y:=og (W:=W) (n:=n+2) H.h2 ();rw[u] at y
 have U:eI one other oc x fs xs b=(xE (fs.length+1) (DD (YA fs xs (b-1)))).filter (PU one other oc x (YA fs xs (b-1)) (YA fs xs b)):=by(unfold eI;rw[R9 (Q:=AK one other oc x (YA fs xs (b-1)) (YA fs xs b))];intro v w;rfl)
 exists YA fs xs b,J
 exists YA fs xs (b-1),K
 obtain⟨L,M⟩:∃L,L=xE (fs.length+1) (DD K):=#[_,rfl]
 have g:∀is∈L,∃v w:Nat,is=[(v:Int),(w:Int)]/\v<J.length/\w<J.length/\DD K v w=bA:=λis i=>by
  rw[M] at i;let(v,f):=Ad i;let(w,N,h2,h3,_,h4):zD:=f
  exact#[v,w,N,by lia,by lia,h4]
 have z:L.length<=1000:=by rw[M];exact aV ()
 rw[<- M] at y U;have FQ:aAb .of [.val (.ow (.l (OA L)))] [.sh (.ins "Never" ["one","other","way"] [.int one,.int other,.str x]),.sh ∅,.sh (.l (xs.map D.int)),.i b,.i oc,.o (.l K),.o (.l J),.o (.l []),.un,.un]=aA (OA L,eA):=BU rfl
 let(t8,t9,e,h8,h9):=F_ (iv:=8) (iw:=9) (body:=JA T.cA (run T W (n+3)) W pX) (λa t t2=>[.sh (.ins "Never" ["one","other","way"] [.int one,.int other,.str x]),.sh ∅,.sh (.l (xs.map D.int)),.i b,.i oc,.o (.l K),.o (.l J),.o (.l a),t,t2]) (PU one other oc x K J) L z
  (λa t t2 d d2 ht Rx=>by erw[iC,LB ht,LB Rx])
  (λis i=>by let(v,w,h,_):FA:=g is i;exact#[v,w,h])
  (λa v w hm oO=>by
   let(X,Y,N,hv,hw,s):fC:=g _ hm
   have Ux:X=v:=by have:=(vS N).1;lia
   have Vx:Y=w:=by have:=(vS (vS N).2).1;lia
   subst Ux Vx;let(A,B,f):gD:=Hx H hv hw s
   let(C,F,a1,a2,a3,O):fC:=f;let(a4,g1,g2,P):oB:=O;let(g3,g4,q1,q2):oB:=P
   have qK:fB ((OA a).length+1)=bA:=UB (by rw[RI];lia);have et:OA (a++[[(X:Int),(Y:Int)]])=OA a++[.t [.int X,.int Y]]:=by rw[yV];rfl
   have en:PU one other oc x K J [(X:Int),(Y:Int)]=(decide (qF oc A B=one)&&decide (qF oc C F=other)&&mH x (C-A) (F-B)):=by(unfold PU AK;erw[nI,g1,g2,g3,g4];rfl)
   have hmv:=kBa (W:=W) (n:=n+2) (a:=C-A) (b:=F-B) hx () ();rw[en];unfold pX;clear N hv hw s hm oO g z FQ U M y Rw Sw u r H g1 g2 g3 g4 q1 q2 hl en hx;by_cases R:qF oc A B=one
   .have j:decide (qF oc A B=one)=bA:=zB R;by_cases Z:qF oc C F=other
    .have I:decide (qF oc C F=other)=bA:=zB Z;rw[j,I,QH,QH]
     exists mH x (C-A) (F-B),q
     clear R Z;cases q
     .fail "!sQ tQ uQ CJ"
      all_goals (try erw[RD])
     .fail "!sQ tQ uQ CJ"
    .have I:decide (qF oc C F=other)=dA:=dB Z;rw[j,I,QH,HJ];clear R Z
     fail "!sQ tQ uQ CJ"
     all_goals (try erw[RD])
   .have j:decide (qF oc A B=one)=dA:=dB R;rw[j,HJ,HJ];clear R
    fail "!sQ tQ uQ CJ"
    all_goals (try erw[RD])) .un .un rfl rfl
 rw[U];clear hl h8 h9 U g z M u r H hx
 fail "!sQ tQ uQ CJ"
def bp(H:KP o r)(t:v<o.length)(u:w<o.length)(M:0<oc)(N:VR x) :
  "B"|||n+2|||[.sh ∅,.sh (.t [.str "never",.int one,.int other,.str x]),.p (.l r),.p (.l o),.i v,.i w]|||.b (DD r v w&&AK one other oc x r o v w):=by
 exists OT
 let(y,a1,g1,O):KA:=iH H.h2 (by rw[H.len];exact t)
 let(z,a2,g2,A):KA:=iH H.h2 (v:=w) (by rw[H.len];exact u)
 let(d3,a3,g3,P):KA:=iH H.h1 t
 let(d4,a4,C,Q):KA:=iH H.h1 u
 have F:=H.on v;have I:=H.on w;unfold DD AK;rw[g1,g2,g3,C];rw[g1,g3] at F;rw[g2,C] at I;have q:=λ(a b:Int)=>BL (W:=W) (n:=n) (x:=x) (a:=a) (b:=b) N
 have eN:XE .lA=bA:=rfl;have s:∀i,XE (.int i)=dA:=λ_=>rfl
 rcases P with rfl | ⟨j,rfl⟩
 .have R:XE y=bA:=by
   cases h:XE y with
   |true=>rfl
   |false=>exact absurd (F h) (by decide)
  rw[R]
  fail "!JB VC BL"
 rcases Q with rfl | ⟨k,rfl⟩
 .have U:XE z=bA:=by
   cases h:XE z with
   |true=>rfl
   |false=>exact absurd (I h) (by decide)
  rw[U]
  fail "!JB VC BL"
 rcases O with rfl | ⟨l,rfl⟩
 .clear A q s
  fail "!JB VC BL"
 rcases A with rfl | ⟨m,rfl⟩
 .rw[s]
  fail "!JB VC BL"
 rw[s,s];have X:oF (.int l)=l:=rfl;have Y:oF (.int m)=m:=rfl;have Z:oF (.int j)=j:=rfl;have e4:oF (.int k)=k:=rfl;rw[X,Y,Z,e4];unfold qF;have hm:=q (j-l) (k-m);by_cases J:XB (j-k) % oc=other
 .have f:decide (XB (j-k) % oc=other)=bA:=zB J;by_cases K:XB (l-m) % oc=one
  .have g:decide (XB (l-m) % oc=one)=bA:=zB K;rw[g,f]
   fail "!JB VC BL"
  .have g:decide (XB (l-m) % oc=one)=dA:=dB K;rw[g]
   fail "!JB VC BL"
 .have f:decide (XB (j-k) % oc=other)=dA:=dB J;rw[f]
  fail "!JB VC BL"
def bq{rs:List D}{xs:List Int}{b:Nat}(C:fs.length<=20)(u:0<ba)(I:0<oc)(y:VR x)(H:KP (YA fs xs (b:Int)) (YA fs xs ((b:Int)-1)))(z:∀f∈xD fs,0<=f.1) :
  "f"|||n+3|||[.sh ∅,.sh (.t [.str "never",.int one,.int other,.str x]),~~~xs,.i b]|||.ow (.l (OA (eI one other oc x fs xs b))):=by
 exists nK
 have hh:run T W (n+2) "e" _=some (.ok (.ow (.l (YA fs xs (b:Int)))),_):=pK (W:=W) (n:=n+1) (no:=no) (ba:=ba) (oc:=oc) (fs:=fs) (rs:=rs) (xs:=xs) (b:=(b:Int)) ();have l:run T W (n+2) "e" _=some (.ok (.ow (.l (YA fs xs ((b:Int)-1)))),_):=pK (W:=W) (n:=n+1) (no:=no) (ba:=ba) (oc:=oc) (fs:=fs) (rs:=rs) (xs:=xs) (b:=(b:Int)-1) ();by_cases c:b=0
 .subst c;have P:decide (((0:Nat):Int)=0)=bA:=rfl
  have e:eI one other oc x fs xs ((0:Nat):Int)=[]:=by
   unfold eI
   apply tHa
   intro v w _ _
   have:XE ((YA fs xs (((0:Nat):Int)-1)).getD v .lA)=bA:=by
    rcases HZ (fs:=fs) (xs:=xs) (b:=0) (v:=v) with ⟨f,Z,e⟩ | e
    .rw[e];unfold JC;rw[if_neg (by have:=z f Z;lia)];rfl
    .rw[e];rfl
   unfold DD;rw[this];rfl
  have Q:OA []=[]:=rfl;rw[e,Q];clear e Q C H y z
  exists YA fs xs ((0:Nat):Int),g
  have z0:((0:Nat):Int)=0:=rfl;rw[z0] at hh l P ⊢
  fail "!JB"
 .have P:decide ((b:Int)=0)=dA:=dB ();have k:=EI (fs:=fs) (xs:=xs) (b:=(b:Int));unfold eI;rw[<- k]
  exists YA fs xs (b:Int),g
  exists YA fs xs ((b:Int)-1),h
  have R:aAb .IB [.val (.i g.length)] [.sh ∅,.sh (.t [.str "never",.int one,.int other,.str x]),~~~xs,.i b,.o (.l g),.un,.un,.un,.o (.l h),.o (.l []),.un]=aA (rg g.length,eA):=by(refine aL (HI (n:=(g.length:Int)) rfl () ()) ?_;rw[nI])
  let(t',t2',e,J,A):=X2 (iv:=5) (body:=JA T.cA (run T W (n+2)) W iQ) (λa t F=>[.sh ∅,.sh (.t [.str "never",.int one,.int other,.str x]),~~~xs,.i b,.o (.l g),t,.un,.un,.o (.l h),.o (.l a),F]) (λv w=>DD h v w&&AK one other oc x h g v w) g.length ()
   (λa t F d r=>by erw[iC,LB r])
   (λB v t K s r=>by
    have M:aAb .IB [.val (.i ((v:Int)+1)),.val (.i g.length)] [.sh ∅,.sh (.t [.str "never",.int one,.int other,.str x]),~~~xs,.i b,.o (.l g),.i v,.un,.un,.o (.l h),.o (.l (OA B)),t]=aA ((nC (g.length-(v+1))).map λ(j:Nat)=>.int ((v:Int)+1+(j:Int)),eA):=by(refine aL (y0 (m:=(v:Int)+1) (n:=(g.length:Int)) rfl rfl () ()) ?_;rw[show((g.length:Int)-((v:Int)+1)).toNat=g.length-(v+1) from by lia])
    let(t3,e3,U):=W3 (iw:=10) (body:=JA T.cA (run T W (n+2)) W hQ) (λa t F=>[.sh ∅,.sh (.t [.str "never",.int one,.int other,.str x]),~~~xs,.i b,.o (.l g),t,.un,.un,.o (.l h),.o (.l a),F]) (λv w=>DD h v w&&AK one other oc x h g v w) g.length v B s ()
     (λa t d r=>by erw[iC,LB r])
     (λa w N X O=>by
      have Y:=bp (W:=W) (n:=n) (one:=one) (other:=other) (no:=no) (ba:=ba) (fs:=fs) (rs:=rs) H K X I y;have qK:fB ((OA a).length+1)=bA:=UB (by rw[RI];lia);have et:OA (a++[[(v:Int),(w:Int)]])=OA a++[.t [.int v,.int w]]:=by rw[yV];rfl
      unfold hQ
      exists (DD h v w&&AK one other oc x h g v w),q
      clear R M C K X N O s r k hh l c H y u z;cases q
      .fail "!JB"
       all_goals (try erw[RD])
      .fail "!JB") t r
    refine#[t3, ?_,U];unfold iQ;clear R C K s r U k hh l c H y u z
    fail "!JB") .un .un rfl rfl
  clear C J A k c H y z
  fail "!JB"
def hNa:"d"|||n+1|||[.sh (.t [.str "never",a,b,c])]|||.sh (.ins "Never" ["one","other","way"] [a,b,c]):=by
 exists oK
 fail "!JB"
noncomputable def mx(m y:Int):Int:=if y > m then y else m
theorem CL:(if y > m then y else m)=mx m y:=rfl
def HF(fs:List (Int×Int×Bool)):Int:=(fs.map λf=>1+f.1).foldl mx 3
def Yc:List (Int×Int×Bool)->Int
 |[]=>0
 |f::r=>(r.map λf=>f.1).foldl mx f.1
theorem wd:∀(l:List (Int×Int×Bool)) (a c:Int),(l.map λf=>1+f.1).foldl mx (mx c (1+a))=mx c (1+(l.map λf=>f.1).foldl mx a)
 |[],_,_=>rfl
 |f::l,a,c=>by
  have h:mx (mx c (1+a)) (1+f.1)=mx c (1+mx a f.1):=by
   unfold mx
   split<;>split<;>split<;>first | lia | (split<;>lia)
  rw[vB,yN,h,wd l (mx a f.1) c,vB,yN]
def dBa(h:1<=fs.length):mx 3 (1+Yc fs)=HF fs:=by
 match fs,h with
 |f::r,_=>exact(wd r f.1 3).symm
theorem A2:∀(l:List Int) (a:Int),a<=l.foldl mx a
 |[],a=>Int.le_refl a
 |b::l,a=>tW (by unfold mx;split<;>lia) (A2 l (mx a b))
theorem zd:∀(l:List Int) (a:Int),a<=b->(∀x∈l,x<=b)->l.foldl mx a<=b
 |[],_,h,_=>h
 |x::l,a,h,c=>zd l (mx a x) (by have:=c x (OF ..);unfold mx;split<;>omega) λy d=>c y (QD _ d)
theorem yd:∀(l:List Int) (a:Int),x∈l->x<=l.foldl mx a
 |y::l,a,h=>by
  rcases jD.mp h with rfl | h
  .exact tW (by unfold mx;split<;>lia) (A2 l (mx a x))
  .exact yd l (mx a y) h
def eBa(h:f∈fs):1+f.1<=HF fs:=yd _ 3 (pE.mpr #[f,h,rfl])
def cBa(h:VG no ba oc fs):∃m:Nat,HF fs=(m:Int)/\3<=m/\m<=5:=by
 have d:3<=HF fs:=A2 _ _
 have e:HF fs<=5:=zd _ _ (by decide) λx a=>by
  let(f,b,c):rA:=pE.mp a
  obtain rfl:=c
  have:=(h.f f b).2.1
  lia
 exact#[(HF fs).toNat,by lia,by lia,by lia]
def O9:WD .max [.l ((a::l).map D.int)]=aA (.i (l.foldl mx a)):=by
 show(match oD ((a::l).map D.int) with
  |some (i::r)=>aA (RV.sh (.int (r.foldl (λm y=>if y > m then y else m) i)))
  |_=>eA)=_
 rw[aAA];rfl
def Bd(i:1<=fs.length)(u:fs.length<=3) :
  "s"|||n+1|||[.sh ∅]|||.i (HF fs):=by
 exists hZ
 have l:aAb .of [.val (.sh (.t (fs.map toD)))] [.sh ∅]=aA (fs.map toD,eA):=NQ rfl
 obtain⟨a,v,e,⟨h,rfl,g,rfl⟩,_⟩:=gK (tests:=MC T.cA (run T W n) []) (lC:=ev T.cA (run T W n) dA jY) (bind:=eB bA [1]) (ds:=fs.map toD)
  (λj a U=>∃(h:Sl),U=[.un,h]/\SA h=bA/\a=((fs.take j).map λf=>f.1).map D.int)
  (λj d hd a U m=>by
   let(h,rfl,g,rfl):=m;obtain⟨f,o,rfl⟩:∃f,fs[j]?=aA f/\toD f=d:=↑hd
   refine#[_,bA,_,by erw[iC,LB g]<;>rfl,qJ,λ_=>?_,λz=>nomatch z];refine#[.i f.1,[.un,.sh (toD f)], ?_,_,rfl,rfl, ?_]
   .unfold jY toD
    fail "!pA CL"
   .rw[zN,o,iD,iD]
    rfl)
  [] [.un,.un] #[_,rfl,rfl,rfl]
 have p:fs.take (fs.map toD).length=fs:=by(rw[bL];simp)
 rw[p] at e;have k:fB fs.length=bA:=UB ()
 have q:WD .max [.l ((fs.map λf=>f.1).map D.int)]=aA (.i (Yc fs)):=by
  match fs,i with
  |f::r,_=>exact O9
 have t:=dBa i
 fail "!pA CL"
 rw[mF l]
 fail "!pA CL"
 all_goals (rw[pL rfl];fail "!pA CL")
def X_(r:fs.length<=3) :
  "O"|||n+1|||[.sh ∅]|||.i (HF fs):=by
 exists IY
 have l:aAb .of [.val (.sh (.t (fs.map toD)))] [.sh ∅]=aA (fs.map toD,eA):=NQ rfl
 obtain⟨a,s,e,⟨h,rfl,g,rfl⟩,_⟩:=gK (tests:=MC T.cA (run T W n) []) (lC:=ev T.cA (run T W n) dA dY) (bind:=eB bA [1]) (ds:=fs.map toD)
  (λj a U=>∃(h:Sl),U=[.un,h]/\SA h=bA/\a=((fs.take j).map λf=>1+f.1).map D.int)
  (λj d hd a U m=>by
   let(h,rfl,g,rfl):=m;obtain⟨f,o,rfl⟩:∃f,fs[j]?=aA f/\toD f=d:=↑hd
   refine#[_,bA,_,by erw[iC,LB g]<;>rfl,qJ,λ_=>?_,λz=>nomatch z];refine#[.i (1+f.1),[.un,.sh (toD f)], ?_,_,rfl,rfl, ?_]
   .unfold dY toD
    fail "!pA CL"
   .rw[zN,o,iD,iD]
    rfl)
  [] [.un,.un] #[_,rfl,rfl,rfl]
 have p:fs.take (fs.map toD).length=fs:=by(rw[bL];simp)
 rw[p] at e;have i:fB fs.length=bA:=UB ();have k:fB (1+fs.length)=bA:=UB ();have q:WD .max [.l (.int 3::(fs.map λf=>1+f.1).map D.int)]=aA (.i (HF fs)):=O9
 fail "!pA CL"
 rw[mF l]
 fail "!pA CL"
 all_goals (rw[pL rfl];fail "!pA CL")
def Uy:"D"|||n+1|||[.i i]|||.b bA:=by
 exists eZ
 right
def lTa(c:a<=i)(d:i<=b):"E"|||n+2|||[.i i,.i a,.i b]|||.b bA:=by
 exists fZ
 have f:decide (a<=i)=bA:=zB c;have g:decide (i<=b)=bA:=zB d
 fail "!Uy"
def SI(m ba n:Int):Int:=if n<=m then n else m+(n-m) % ba
noncomputable def LK(m:Nat)(a:List Int):List Int:=a.drop (a.length-m)
def ki(h:n<=m):SI m ba n=n:=RA h
def mi(h:¬n<=m):SI m ba n=m+(n-m) % ba:=if_neg h
def iSa(c:0<=n)(d:3<=m)(e:1<=ba):0<=SI m ba n/\SI m ba n<=m+ba-1:=by
 unfold SI;split
 .lia
 .have a:=uP (n-m) (b:=ba) ();have b:=ZV (n-m) (b:=ba) ()
  lia
def vRa(d:1<=ba):((LK m c).length:Int)=if(m:Int)<SI m ba c.length then(m:Int) else SI m ba c.length:=by
 unfold LK;rw[uN];unfold SI;by_cases h:(c.length:Int)<=(m:Int)
 .rw[RA h,if_neg (by omega)];omega
 .rw[if_neg h];have a:=uP ((c.length:Int)-m) (b:=ba) (by omega)
  split<;>omega
def uRa(h:x∈LK m a):x∈a:=List.mem_of_mem_drop h
def oi(a:VG no ba oc fs)(d:HF fs=(m:Int)) :
  "K"|||n+2|||[.sh ∅,.i k]|||.i (SI m ba k):=by
 exists wZ
 have b:=Bd (W:=W) (n:=n) (no:=no) (ba:=ba) (oc:=oc) (rs:=rs) a.l1 a.l2;rw[d] at b;have g1:0<ba:=by have:=a.b1;lia
 by_cases c:k<=(m:Int)
 .have e:decide (k<=(m:Int))=bA:=zB c;rw[ki c]
  right
 .have e:decide (k<=(m:Int))=dA:=dB c;rw[mi c]
  right
def Cr{m:Nat}(h:1<=m):nN (aA (.l (xs.map D.int))) (aA (.int (-(m:Int)))) eA=aA (.ow (.l ((LK m xs).map D.int))):=by
 show aA (RV.ow (.l (aAz (xs.map D.int) (aA (-(m:Int))) eA)))=_;unfold aAz LK
 have e:HT.iB (xs.map D.int).length 0 (aA (-(m:Int)))=xs.length-m:=by
  unfold HT.iB;rw[pA];show(if -(m:Int)<0 then _ else _)=_;rw[RA ()]
  lia
 rw[e,HT.i4,pA,<- j7,<- l7,bL (by rw[uN];lia)]
def Ar{m:Nat}:nN (aA (.l (xs.map D.int))) (aA (.int (if(xs.length:Int)-(m:Int) > 0 then(xs.length:Int)-(m:Int) else 0))) eA=aA (.ow (.l ((LK m xs).map D.int))):=by
 have a:(if(xs.length:Int)-(m:Int) > 0 then(xs.length:Int)-(m:Int) else 0)=((xs.length-m:Nat):Int):=by split<;>omega
 rw[a];show aA (RV.ow (.l (aAz (xs.map D.int) (aA ((xs.length-m:Nat):Int)) eA)))=_;unfold aAz LK;rw[HT.mV,HT.i4,pA,qS (by omega),<- j7,<- l7,bL (by rw[uN];omega)]
def LL(m:Nat)(ba:Int)(a:List Int):D:=.t [.int (SI m ba a.length),.t ((LK m a).map D.int)]
def Ig{m:Nat}{xs:List Int}(a:VG no ba oc fs)(b:HF fs=(m:Int))(d:3<=m) :
  "m"|||n+3|||[.sh ∅,.sh (.l (xs.map D.int))]|||.sh (LL m ba xs):=by
 exists rZ
 unfold LL;have c:=Bd (W:=W) (n:=n+1) (no:=no) (ba:=ba) (oc:=oc) (rs:=rs) a.l1 a.l2;rw[b] at c;have e:=oi (W:=W) (n:=n) (rs:=rs) (k:=(xs.length:Int)) a b;have h:=Cr (xs:=xs) (m:=m) ();clear a b d
 fail "!oi pA"
def O1{m:Nat}{xs:List Int}(d:VG no ba oc fs)(e:HF fs=(m:Int)) :
  "j"|||n+2|||[.sh ∅,~~~xs]|||.sh (LL m ba xs):=by
 exists NY
 unfold LL;have a:=X_ (W:=W) (n:=n) (no:=no) (ba:=ba) (oc:=oc) (rs:=rs) d.l2;rw[e] at a;have g1:0<ba:=by have:=d.b1;lia
 have g:=Ar (xs:=xs) (m:=m);by_cases c:(xs.length:Int)<=(m:Int)
 .have f:decide ((m:Int)<(xs.length:Int))=dA:=dB ();rw[ki c]
  fail "!pA"
 .have f:decide ((m:Int)<(xs.length:Int))=bA:=zB ();rw[mi c]
  fail "!pA"
def hL(m:Nat)(ba:Int)(c:List Int->Nat->List (List Int)):Prop:=∀(a b u:List Int),u.length=m+1->(a.length:Int) % ba=(b.length:Int) % ba->c (a++u) (a.length+m)=c (b++u) (b.length+m)
def oa{a u:List Int}:(a++u).getD (a.length+i) 0=u.getD i 0:=by
 rw[uH,HP (),Nat.add_sub_cancel_left,<- uH]
def nO:gx (a++u) (a.length+i)=gx u i:=oa
def Mg{a u:List Int}{c l:Nat}(b:f.1=(l:Int))(d:l<=c)(g:c<u.length) :
  JC (a++u) ((a.length:Int)+(c:Int)) f=.int (if f.2.2=bA then f.2.1-u.getD (c-l) 0 else f.2.1+u.getD (c-l) 0):=by
 unfold JC;rw[b,RA #[by lia,by rw[RC];lia]];have e:((a.length:Int)+(c:Int)-(l:Int)).toNat=a.length+(c-l):=by lia
 rw[e,oa]
theorem DQ{a b u:List Int}{fs:List (Int×Int×Bool)}{m c:Nat}(i:∀f∈fs,0<=f.1/\f.1+1<=(m:Int))(j:1<=m)(k:m-1<=c)(g:c<u.length):YA fs (a++u) ((a.length:Int)+(c:Int))=YA fs (b++u) ((b.length:Int)+(c:Int)):=by
 unfold YA;refine ZR λf e=>?_
 have n:0<=f.1/\f.1+1<=(m:Int):=by
  rcases jD.mp e with rfl | h
  .exact#[by decide,by show(0:Int)+1<=m;lia]
  .exact i f h
 obtain⟨l,d⟩:∃l:Nat,f.1=(l:Int):=#[f.1.toNat,by lia]
 rw[Mg d () g,Mg d () g]
theorem aAM:((a+m:Nat):Int)=(a:Int)+(m:Int):=T6 a m
theorem ar(h:1<=m):((a+m:Nat):Int)-1=(a:Int)+((m-1:Nat):Int):=by lia
section
variable{m:Nat}{fs:List (Int×Int×Bool)}(hf:∀f∈fs,0<=f.1/\f.1+1<=(m:Int))(h3:3<=m)
include hf h3
theorem Ur:hL m ba λg b=>eG h i ba oc fs g (b:Int):=λa b u hu d=>by
 have e:((a.length:Int)+(m:Int)) % ba=((b.length:Int)+(m:Int)) % ba:=by rw[Int.add_emod,d,<- Int.add_emod]
 simp only[eG,aAM,e,DQ (a:=a) (b:=b) (u:=u) (c:=m) hf () () ()]
theorem Tr:hL m ba λd b=>LH lo g fs d (b:Int):=λa b u hu e=>by
 simp only[LH,aAM,DQ (a:=a) (b:=b) (u:=u) (c:=m) hf () () ()]
theorem Pr:hL m ba λd b=>aK fs d (b:Int) v w:=λa b u hu e=>by
 simp only[aK,aAM,DQ (a:=a) (b:=b) (u:=u) (c:=m) hf () () ()]
theorem Sr{one other oc:Int}{x:fA}:hL m ba λd b=>eI one other oc x fs d (b:Int):=λa b u hu e=>by
 simp only[eI,ar (show 1<=m by lia),DQ (a:=a) (b:=b) (u:=u) (c:=m-1) hf () () ()];simp only[aAM,DQ (a:=a) (b:=b) (u:=u) (c:=m) hf () () ()]
end
section
variable(h3:3<=m)
include h3
theorem w9:hL m ba λf b=>XC (EF d f b):=λa b u hu g=>by
 obtain⟨k,rfl⟩:∃k,m=k+1:=#[m-1,by lia]
 have e:∀c:List Int,EF d (c++u) (c.length+(k+1))=decide (d<XB (gx u (k+1)-gx u k)):=λc=>by(show decide (d<XB (gx (c++u) (c.length+(k+1))-gx (c++u) (c.length+k)))=_;rw[nO,nO])
 erw[e]
theorem Rr:hL m ba λg b=>XC (gF d f g b):=λa b u hu h=>by
 obtain⟨k,rfl⟩:∃k,m=k+2:=#[m-2,by lia]
 have e:∀c:List Int,gF d f (c++u) (c.length+(k+2))=(decide (d<=XB (gx u (k+1)-gx u k)) && !(decide ((gx u (k+1)-gx u k)*(gx u (k+2)-gx u (k+1))<0)&&decide (XB (gx u (k+2)-gx u (k+1))<=f))):=λc=>by(have j:=nO (a:=c) (u:=u) (i:=k);have l:=nO (a:=c) (u:=u) (i:=k+1);have n:=nO (a:=c) (u:=u) (i:=k+2);show(decide (d<=XB (gx (c++u) (c.length+k+1)-gx (c++u) (c.length+k))) && !(decide ((gx (c++u) (c.length+k+1)-gx (c++u) (c.length+k))*(gx (c++u) (c.length+k+2)-gx (c++u) (c.length+k+1))<0)&&decide (XB (gx (c++u) (c.length+k+2)-gx (c++u) (c.length+k+1))<=f)))=_;rw[m7,m7,j,l,n])
 erw[e]
theorem Qr(hk:k<=3):hL m ba λd b=>XC (rE k d b):=λa b u hu f=>by
 have e:∀c:List Int,rE k (c++u) (c.length+m)=((u.drop (m-k)).take k).all λz=>decide (z=gx u m):=λc=>by(unfold rE LF;rw[nO,zB (),QH,show c.length+m-k=c.length+(m-k) by lia,<- El,List.drop_left])
 erw[e]
end
def Pre(c:List Int->Nat->List (List Int)):Prop:=∀(a d:List Int) (b:Nat),b<a.length->c (a++d) b=c a b
theorem OM(h:i<xs.length):gx (xs++ys) i=gx xs i:=by
 unfold gx;rw[uH,uH,FN h]
def pQa(a:0<=f.1)(c:b<xs.length):JC (xs++ys) b f=JC xs b f:=by
 unfold JC;by_cases h:0<=b-f.1/\b-f.1<(xs.length:Int)
 .rw[RA #[h.1,by rw[RC];lia],RA h]
  have:=OM (xs:=xs) (ys:=ys) (i:=(b-f.1).toNat) ()
  unfold gx at this;rw[this]
 .rw[if_neg (λz=>h #[z.1,by lia]),if_neg h]
theorem CQ(c:∀f∈xD fs,0<=f.1)(d:b<a.length):YA fs (a++g) b=YA fs a b:=by
 exact ZR λf e=>pQa (c f e) d
section
variable(hf:∀f∈xD fs,0<=f.1)
include hf
theorem uJa:Pre λa b=>eG d e ba oc fs a (b:Int):=λa g b c=>by
 simp only[eG,CQ hf (wW.mpr c)]
theorem tJa:Pre λa b=>LH lo d fs a (b:Int):=λa e b c=>by
 simp only[LH,CQ hf (wW.mpr c)]
theorem pJa:Pre λa b=>aK fs a (b:Int) v w:=λa d b c=>by
 simp only[aK,CQ hf (wW.mpr c)]
theorem sJa:Pre λa b=>eI one other oc x fs a (b:Int):=λa d b c=>by
 simp only[eI,CQ hf (wW.mpr c),CQ hf (show(b:Int)-1<a.length by lia)]
end
def bf:Pre λa b=>XC (EF d a b):=λa e b c=>by
 cases b with
 |zero=>rfl
 |succ b=>simp only[EF,OM c,OM (show b<a.length by lia)]
def rJa:Pre λa b=>XC (gF d e a b):=λa f b c=>by
 match b,c with
 | 0,_=>rfl
 | 1,_=>rfl
 |b+2,c=>simp only[gF,OM c,OM (show b+1<a.length by lia),OM (show b<a.length by lia)]
def qJa:Pre λa b=>XC (rE k a b):=λa c b d=>by
 have e:k<=b->LF k (a++c) b=LF k a b:=λh=>by(unfold LF;rw[List.drop_append_of_le_length (by omega),List.take_append_of_le_length (by rw[uN];omega)])
 have f:rE k (a++c) b=rE k a b:=by
  unfold rE;rw[OM d];by_cases h:k<=b
  .rw[e h]
  .rw[dB (by omega),HJ,HJ]
 show XC _=XC _;rw[f]
abbrev Br:=List Int->Nat->List (List Int)
abbrev RP:=D×D×Br
def u4(o h:D)(a:List Int)(b:Nat):List Sl:=[.sh o,.sh h,.sh (.l (a.map D.int)),.i b]
structure RX(no ba oc:Int)(fs:List (Int×Int×Bool))(rs:List D)(m:Nat)(p:RP):Prop where
 ob:∃c ns ds f q,p.2.1=.ins c ns ds/\YF c ns "broken" NI=aA f/\T.cA f=[bA,bA,dA,q] /\
  ∀(W n:Nat) (xs:List Int) (b:Nat),b<xs.length->(∀x∈xs,0<=x/\x<no)->run T W (n+4) f (u4 (.ins c ns ds) ∅ xs b)=some (.ok (.ow (.l (OA (p.2.2 xs b)))),u4 (.ins c ns ds) ∅ xs b)
 ru:∀(W n:Nat),"d"|||n+1|||[.sh p.1]|||.sh p.2.1
 lw:∀(W n:Nat) (xs:List Int) (b:Nat),b<xs.length->(∀x∈xs,0<=x/\x<no)->"f"|||n+3|||[.sh ∅,.sh p.1,~~~xs,.i b]|||.ow (.l (OA (p.2.2 xs b)))
 dep:hL m ba p.2.2
 pre:Pre p.2.2
 len:∀xs b,(p.2.2 xs b).length<=1000
def Zf{m:Nat}(p:VG no ba oc fs)(H:HF fs=(m:Int))(q:3<=m)(h:ZG no ba oc (fs.length:Int) d):∃o F,RX no ba oc fs rs m (d,o,F):=by
 have l2:=p.l2;have o1:=p.o1;have o2:=p.o2;have b1:=p.b1;have n2:=p.n2
 have i:∀f∈fs,0<=f.1/\f.1+1<=(m:Int):=λf i=>#[(p.f f i).1,by
  have:=eBa i
  lia]
 have u:∀f∈xD fs,0<=f.1:=λf i=>by
  rcases jD.mp i with rfl | i
  .decide
  .exact(p.f f i).1
 have j:fs.length<=20:=by lia
 have z:fs.length<=900:=by lia
 have A:fs.length<=1000:=by lia
 cases h with
 |span a b r s l B =>
  exact#[_,λc e=>eG a b ba oc fs c (e:Int),#[_,_,_,_,bA,rfl,tBa,Um,λW n c e _ _=>uPa j l () ()],λW n=>jNa,λW n c e _ _=>dq (n:=n+1) j () o1 o2,Ur i q,uJa u,λc e=>tPa j]
 |leap a r s =>
  exact#[_,λc e=>XC (EF a c e),#[_,_,_,_,dA,rfl,Ed,X7,λW n c e g _=>Zc (n:=n+3) g],λW n=>Vf,λW n c e g _=>E8 (n:=n+1) A g,w9 q,bf,λc e=>YU]
 |back a b r s l B =>
  exact#[_,λc e=>XC (gF a b c e),#[_,_,_,_,dA,rfl,qBa,tm,λW n c e g t=>Zo (n:=n+3) g λx y=>#[(t x y).1,by have:=(t x y).2;lia]],λW n=>gNa,λW n c e g _=>aq (n:=n+1) A g r,Rr q,rJa,λc e=>YU]
 |again a r s =>
  obtain⟨k,rfl⟩:∃k:Nat,a=(k:Int):=#[a.toNat,by lia]
  exact#[_,λc e=>XC (rE k c e),#[_,_,_,_,dA,rfl,pBa,qm,λW n c e g _=>wo (n:=n+3) g ()],λW n=>fNa,λW n c e g _=>Zp (n:=n+1) A g () (),Qr q (),qJa,λc e=>YU]
 |range a b r s l =>
  exact#[_,λc e=>LH a b fs c (e:Int),#[_,_,_,_,bA,rfl,sBa,Qm,λW n c e _ _=>mMa z],λW n=>iNa,λW n c e _ _=>cq (n:=n+1) z,Tr i q,tJa u,λc e=>V2 ()]
 |above v w r s l =>
  exact#[_,λc e=>aK fs c (e:Int) v w,#[_,_,_,_,bA,rfl,oBa,om,λW n c e _ _=>jo (n:=n+1) () ()],λW n=>eNa,λW n c e _ _=>Yp (n:=n+1) z () (),Pr i q,pJa u,λc e=>nSa]
 |never a b x r s l B C =>
  exact#[_,λc e=>eI a b oc x fs c (e:Int),#[_,_,_,_,bA,rfl,rBa,Pm,λW n c e g t=>aDa j () C (Pa p t g)],λW n=>hNa,λW n c e g t=>bq j () () C (Pa p t g) u,Sr i q,sJa u,λc e=>aV ()]
theorem ag{m:Nat}(e:VG no ba oc fs)(f:HF fs=(m:Int))(g:3<=m):∀a:List D,(∀d∈a,ZG no ba oc (fs.length:Int) d)->∃b:List RP,b.map (·.1)=a/\∀p∈b,RX no ba oc fs rs m p
 |[],_=>#[[],rfl,λ_ z=>nomatch z]
 |d::a,h=>by
  let(b,i,j):=ag e f g a λk hd=>h k (QD _ hd)
  let(o,l,n):=Zf e f g (h d OF);refine#[(d,o,l)::b,by rw[vB,i],λp c=>?_];rcases jD.mp c with rfl | c
  .exact n
  .exact j p c
def Yy(h:U[i]?=aA (.ow (.l a) p l)):aAb (.enum lo) [.slot i] U=aA (dH lo a,aA i):=by(unfold aAb;erw[h])
def nAa{bind:D->Env->Option Env}(ok:D->Bool)(v:RV)(I:Env->Prop)(h:∀d∈ds,∀U,I U->∃g,bind d U=aA g/\∃b,body g=aA (if ok d=bA then .nx else .rt v,b)/\I b) :
  ∀{U:Env},I U->∃e,pD bind body ds U=aA (if ds.all ok=bA then .nx else .rt v,e)/\I e:=by
 induction ds with
 |nil=>exact λi=>#[_,rfl,i]
 |cons d ds m =>
  intro U i;let(g,a):=h d (by simp) U i;let(k,b,f,l):yD:=a
  cases c:ok d with
  |true =>
   let(e,o,p):rA:=m (λn j=>h n (by simp[j])) l
   rw[c,RA rfl] at f;exact#[e,by erw[pD,k,f,o,DC,c,QH],p]
  |false =>
   rw[c,if_neg (by decide)] at f;exact#[b,by erw[pD,k,f,DC,c,HJ];rfl,l]
section
variable{ps:List RP}
theorem Xf(a:ps.map (·.1)=rs)(i:∀p∈ps,RX no ba oc fs rs m p)(h:rs.length<=8):"r"|||n+2|||[.sh ∅]|||.ow (.l (ps.map (·.2.1))):=by
 exists nZ
 have k:ps.length<=8:=by rw[<- a,pA] at h;exact h
 have l:aAb .of [.val (.sh (.t rs))] [.sh ∅]=aA (rs,eA):=NQ rfl
 obtain⟨b,t,e,⟨g,rfl,c,rfl⟩,_⟩:=gK (tests:=MC T.cA (run T W (n+1)) []) (lC:=ev T.cA (run T W (n+1)) dA lY) (bind:=eB bA [1]) (ds:=rs)
  (λj b U=>∃(g:Sl),U=[.un,g]/\SA g=bA/\b=(ps.take j).map (·.2.1))
  (λj d hd b U o=>by
   let(g,rfl,c,rfl):=o
   obtain⟨p,f,rfl⟩:∃p,ps[j]?=aA p/\p.1=d:=by
    rw[<- a,ND] at hd
    cases q:ps[j]? with
    |none=>rw[q] at hd;cases hd
    |some p=>rw[q] at hd;exact#[p,rfl,ED hd]
   have u:=(i p (xH f)).ru W n;refine#[_,bA,_,by erw[iC,LB c]<;>rfl,qJ,λ_=>?_,λz=>nomatch z];refine#[.sh p.2.1,[.un,.sh p.1], ?_,_,rfl,rfl,by rw[zN,f,iD];rfl];unfold lY
   right)
  [] [.un,.un] #[_,rfl,rfl,rfl]
 rw[show rs.length=ps.length by rw[<- a,pA],rP] at e;have s:fB (ps.map (·.2.1)).length=bA:=UB (by simp;lia)
 right
 rw[mF l]
 right
 all_goals (rw[pL rfl];right)
def HE(ps:List RP)(a:List Int)(b:Nat):Nat:=(ps.map λp=>(p.2.2 a b).length).sum
theorem A8:∀(ps:List RP),(∀p∈ps,(p.2.2 a b).length<=1000)->HE ps a b<=1000*ps.length
 |[],_=>by simp[HE]
 |p::ps,h=>by
  have e:=h p OF;have c:=A8 ps λq d=>h q (QD _ d)
  unfold HE at c ⊢;rw[vB,pW,KC]
  lia
theorem D8{b:Nat}(F:∀p∈ps,RX no ba oc fs rs m p)(hl:ps.length<=8)(R:b<xs.length)(X:∀x∈xs,0<=x/\x<no) :
  ∃L:List D,"l"|||n+5|||[.sh ∅,.p (.l (ps.map (·.2.1))),.sh (.l (xs.map D.int)),.i b]|||.ow (.l L)/\L.length=HE ps xs b:=by
 exists YY
 have hi:aAb (.enum 0) [.slot 1] [.sh ∅,.p (.l (ps.map (·.2.1))),.sh (.l (xs.map D.int)),.i b,.o (.l []),.un,.un,.un]=aA (dH 0 (ps.map (·.2.1)),aA 1):=Yy rfl
 let(U1,e1,L,B,C,e,rfl,H,I,t,u):=lH (bind:=eB dA [5,6]) (body:=JA T.cA (run T W (n+4)) W rX)
  (λpre U=>∃(L:List D) (B C e:Sl),U=[.sh ∅,.un,.sh (.l (xs.map D.int)),.i b,.o (.l L),B,C,e]/\SA B=bA/\SA C=bA/\SA e=bA/\L.length=HE (ps.take pre.length) xs b)
  (ds:=dH 0 (ps.map (·.2.1))) (λpre d post k U J=>by
   let(L,B,C,e,rfl,H,I,t,u):=J
   have h:pre.length<ps.length:=by
    have:=congrArg GG k
    rw[YN,pA,RC,KC] at this
    lia
   obtain⟨p,g⟩:∃p,ps[pre.length]?=aA p:=#[_,OC h]
   have hd:d=.t [.int (0+(pre.length:Int)),p.2.1]:=by(have q:=pY (lo:=0) (ds:=ps.map (·.2.1)) (i:=pre.length) (d:=p.2.1) (by rw[ND,g];rfl);rw[k,HP (uB _),zP] at q;exact ED q)
   subst hd;refine#[_,by erw[iC,LB H,LB I]<;>rfl, ?_];have r:=F p (xH g);have s:=r.len xs b;have v:=A8 (ps.take pre.length) λq hq=>(F q (j6 hq)).len xs b
   rw[SJ] at v
   have Y:HE (ps.take (pre++[D.t [D.int (0+(pre.length:Int)),p.2.1]]).length) xs b=HE (ps.take pre.length) xs b+(p.2.2 xs b).length:=by(rw[RC,KC,FJ,zN,g];unfold HE;simp)
   rw[Y];let(c,y,ds,z):BB:=r.ob
   let(f,q,ho,K,M,j):fC:=z
   have hr:=j W n xs b R X;unfold u4 at hr;rw[ho]
   exists p.2.2 xs b,Z
   have N:aAb .of [.val (.ow (.l (OA Z)))] [.sh ∅,.un,.sh (.l (xs.map D.int)),.i b,.o (.l L),.i (0+(pre.length:Int)),.sh (.ins c y ds),e]=aA (OA Z,eA):=BU rfl
   let(U2,e2,L2,O,rfl,P,a):=lH (bind:=eB bA [7]) (body:=JA T.cA (run T W (n+4)) W qX)
    (λQ U=>∃(L2:List D) (e:Sl),U=[.sh ∅,.un,.sh (.l (xs.map D.int)),.i b,.o (.l L2),.i (0+(pre.length:Int)),.sh (.ins c y ds),e]/\SA e=bA/\L2.length=L.length+Q.length)
    (ds:=OA Z) (λQ d po A U J=>by
     let(L2,e,rfl,t,a):=J;refine#[_,by erw[iC,LB t]<;>rfl, ?_]
     have hz:Q.length<=1000:=by
      have:=congrArg GG A
      rw[RI,RC] at this
      lia
     have qK:fB (L2.length+1)=bA:=UB ();refine#[[.sh ∅,.un,.sh (.l (xs.map D.int)),.i b,.o (.l (L2++[.t [.int b,.int (0+(pre.length:Int)),d]])),.i (0+(pre.length:Int)),.sh (.ins c y ds),.sh d], ?_,_,_,rfl,rfl,by rw[RC,RC,a];rfl];unfold qX;clear F hl R X hi u h g r s v Y ho K M j hr N A hz a H I t k
     right)
    (U:=[.sh ∅,.un,.sh (.l (xs.map D.int)),.i b,.o (.l L),.i (0+(pre.length:Int)),.sh (.ins c y ds),e]) #[L,_,rfl,t,by simp]
   rw[RI] at a;refine#[[.sh ∅,.un,.sh (.l (xs.map D.int)),.i b,.o (.l L2),.i (0+(pre.length:Int)),.sh (.ins c y ds),O], ?_,_,_,_,_,rfl,rfl,rfl,P,by rw[a,u]];unfold rX
   cases q<;>right)
  (U:=[.sh ∅,.un,.sh (.l (xs.map D.int)),.i b,.o (.l []),.un,.un,.un]) #[[],_,_,_,rfl,rfl,rfl,rfl,by simp[HE]]
 rw[YN,pA,rP] at u;refine#[L, ?_,u]
 right
 erw[aAi,fS,gS,e1,Run.restore,aAs,vH,NV,vF]
 right
end
section
variable{ps:List RP}
def Mf:(qB z [x]).flatten=qB z x:=by
 induction z with
 |zero=>rfl
 |succ z a=>rw[VL,tN,a];rfl
noncomputable def kE(z:Nat)(a:List Int):List Int:=qB z 0++a
noncomputable def rF(z:Nat)(a:List Int):D:=.t [.int ((z:Int)+(a.length:Int)),.t (a.map D.int)]
theorem f5:(kE z a).length=z+a.length:=by unfold kE;simp
theorem kd(c:z<=100)(d:a.length<=1000):"t"|||n+1|||[.sh (rF z a)]|||.ow (.l ((kE z a).map D.int)):=by
 exists gZ
 unfold rF;have e:(z:Int)+(a.length:Int)-(a.length:Int)=(z:Int):=by lia
 have f:kC .Mult (.l [.int 0]) (.int z)=aA (.ow (.l (qB z (.int 0)))):=by(rw[fQ () () (YE (by simp;lia)),nI,Mf])
 have g:kC .Add (.l (qB z (.int 0))) (.l (a.map D.int))=aA (.ow (.l ((kE z a).map D.int))):=by(rw[zM (YE (by simp;lia))];unfold kE;rw[iD,Dk])
 fail "!pA"
def aQ:a.map D.int++[D.int q]=(a++[q]).map D.int:=by rw[iD];rfl
def qC(ps:List RP)(a:List Int)(q:Int):Bool:=decide (((HE ps (a++[q]) a.length:Nat):Int)=0)
theorem WM{k:Nat}(h:k<=1000):aAb .IB [.val (.i k)] U=aA (rg k,eA):=by
 refine aL (HI (n:=(k:Int)) rfl () ()) ?_;rw[nI]
noncomputable def WC(k:Nat)(ok:Int->Bool):List Int:=((nC k).filter λ(j:Nat)=>ok (j:Int)).map λ(j:Nat)=>(j:Int)
def T9:((nC k).filter λ(j:Nat)=>ok (j:Int)).map (λ(j:Nat)=>D.int j)=(WC k ok).map D.int:=by unfold WC;rw[zH];rfl
theorem U9(h:x∈WC k ok):0<=x/\x<k:=by
 let(j,a,b):rA:=pE.mp h
 obtain rfl:=b
 have:=GJ.mp (vN.mp a).1
 lia
def uL:(WC k ok).length<=k:=by
 unfold WC;rw[pA];exact dD (SV _ _) (by rw[TK];exact uB _)
theorem dDa{W n:Nat}{k z:Nat}(hk:no=(k:Int))(P:k<=7)(c:ps.map (·.1)=rs)(t:∀p∈ps,RX no ba oc fs rs m p)(s:rs.length<=8)(Q:z<=100)(R:r.length<=1000)(A:∀x∈r,0<=x/\x<no) :
  "u"|||n+6|||[.sh ∅,.sh (rF z r)]|||.ow (.l ((WC k (qC ps (kE z r))).map D.int)):=by
 exists jZ
 have i:ps.length<=8:=by rw[<- c,pA] at s;exact s
 have M:=Xf (W:=W) (n:=n+3) c t s;have N:=kd (W:=W) (n:=n+4) Q R;have F:∀{U:Env},aAb .IB [.val (.i no)] U=aA (rg k,eA):=λ{U}=>by rw[hk];exact WM ()
 have v:GD (aA ∅) (.int 0)=aA (.i no):=rfl
 have o:∀x∈kE z r,0<=x/\x<no\/x=0:=λx B=>by
  unfold kE at B;rcases QE.mp B with h | h
  .exact .inr (zj h)
  .exact .inl (A x h)
 have f:(kE z r).length<=1100:=by rw[f5];lia
 exists kE z r,a
 let(Z,e,C,rfl,g):=rT (tests:=MC T.cA (run T W (n+5)) [.BA .Eq (.bif .len [.call "l" [.v 0,.v 2,.wA .Add (.v 1) (.l [.v 4]),.bif .len [.v 1]]]) (.c (.int 0))]) (lC:=ev T.cA (run T W (n+5)) dA kY) (bind:=eB bA [4]) (ds:=rg k)
  (λj=>qC ps a (j:Int)) (λj=>.int j) (λU=>∃C,U=[.sh ∅,~~~a,.p (.l (ps.map (·.2.1))),.un,C]/\SA C=bA)
  (λj d hd U X=>by
   let(C,rfl,g):=X
   have H:j<k:=by
    have:=(LD.mp hd).1
    simpa using this
   have I:d=.int j:=by(rw[ND,cL H] at hd;exact(ED hd).symm)
   subst I
   have y:kC .Add (.l (a.map D.int)) (.l [.int j])=aA (.ow (.l ((a++[(j:Int)]).map D.int))):=by(rw[zM (YE (by simp;lia)),aQ])
   let(L,Y,J):=D8 (W:=W) (n:=n) (xs:=a++[(j:Int)]) (b:=a.length) t i (by simp) (λx B=>by
    rcases QE.mp B with h | h
    .rcases o x h with h | h
     .exact h
     .subst h;lia
    .rw[qD.mp h];lia)
   have K:decide ((L.length:Int)=0)=qC ps a (j:Int):=by rw[J];rfl
   refine#[_,[.sh ∅,~~~a,.p (.l (ps.map (·.2.1))),.un,.i j],by erw[iC,LB g]<;>rfl, ?_,λ_=>#[.i j,[.sh ∅,~~~a,.p (.l (ps.map (·.2.1))),.un,.i j], ?_,rfl,.i j,rfl,rfl],λ_=>#[.i j,rfl,rfl]]
   .clear hd H J t s i o f M N F v g c A hk
    fail "!pA"
   .unfold kY;clear hd H J t s i o f M N F v g c A hk y Y K
    fail "!pA")
  [.sh ∅,~~~a,.p (.l (ps.map (·.2.1))),.un,.un] #[_,rfl,rfl]
 rw[pA,TK,T9] at e;have O:fB (WC k (qC ps a)).length=bA:=UB (by have:=uL (k:=k) (ok:=qC ps a);lia);clear t s i o f c A hk g
 fail "!pA"
 rw[mF F]
 fail "!pA"
 all_goals (first | done | (rw[pL rfl];fail "!pA"))
def M8:PB .NotEq (.l (OA Z)) (.l [])=aA (!Z.isEmpty):=by
 rw[Fq (uDa Z) rfl];cases Z<;>rfl
theorem C8:∀(ps:List RP),decide (((HE ps xs b:Nat):Int)=0)=ps.all λp=>(p.2.2 xs b).isEmpty
 |[]=>rfl
 |p::ps=>by(have a:=C8 (xs:=xs) (b:=b) ps;rw[DC,<- a];unfold HE;rw[vB,pW,rS];cases p.2.2 xs b<;>simp<;>lia)
theorem ia(g:ps.map (·.1)=rs)(j:∀p∈ps,RX no ba oc fs rs m p)(k:∀x∈xs++[q],0<=x/\x<no) :
  "h"|||n+4|||[.sh ∅,.p (.l ((xs++[q]).map D.int))]|||.b (qC ps xs q):=by
 exists GY
 unfold qC;rw[C8];have K:aAb .of [.val (.sh (.t rs))] [.sh ∅,.p (.l ((xs++[q]).map D.int)),.un]=aA (rs,eA):=NQ rfl;have A:(((xs++[q]).length:Nat):Int)-1=(xs.length:Int):=by rw[RC,KC,FJ];lia
 have o:xs.length<(xs++[q]).length:=by simp
 obtain⟨ok,f⟩:∃ok:D->Bool,∀p∈ps,ok p.1=(p.2.2 (xs++[q]) xs.length).isEmpty:=by
  refine#[λd=>@decide (∃p∈ps,p.1=d/\(p.2.2 (xs++[q]) xs.length).isEmpty=bA) (cl _),λp b=>?_]
  cases c:(p.2.2 (xs++[q]) xs.length).isEmpty with
  |true=>exact @zB _ (cl _) #[p,b,rfl,c]
  |false =>
   refine @dB _ (cl _) λy=>?_
   let(B,r,e,s):KA:=y;have C:=(j p b).lw 0 0 (xs++[q]) xs.length o k;have a:=(j B r).lw 0 0 (xs++[q]) xs.length o k;rw[e,C] at a
   injection a with a
   injection a with a
   injection a with a
   injection a with a
   injection a with a
   have l:=congrArg GG a;rw[RI,RI] at l;rw[mj] at s;rw[<- l,<- mj,c] at s;cases s
 have i:(ps.all λp=>(p.2.2 (xs++[q]) xs.length).isEmpty)=rs.all ok:=by(rw[<- g,v7];rw[rS,bF,bF];exact#[λh p b=>by show ok p.1=bA;rw[f p b];exact h p b,λh p b=>by rw[<- f p b];exact h p b])
 rw[i]
 let(M,F,t,rfl,z):=nAa (bind:=eB bA [2]) (body:=JA T.cA (run T W (n+3)) W iX) ok (.b dA)
  (λU=>∃t,U=[.sh ∅,.p (.l ((xs++[q]).map D.int)),t]/\SA t=bA) (ds:=rs) (λd hd U H=>by
   let(t,rfl,z):=H;rw[<- g] at hd;let(p,b,I):rA:=pE.mp hd
   obtain rfl:=I;refine#[_,by erw[iC,LB z]<;>rfl, ?_];have N:=(j p b).lw W n (xs++[q]) xs.length o k;rw[f p b]
   exists p.2.2 (xs++[q]) xs.length,Z
   refine#[[.sh ∅,.p (.l ((xs++[q]).map D.int)),.sh p.1], ?_,_,rfl,rfl];unfold iX
   exists xs++[q],J
   cases c:Z.isEmpty<;>fail "!M8 pA")
  (U:=[.sh ∅,.p (.l ((xs++[q]).map D.int)),.un]) #[_,rfl,rfl]
 exists xs++[q],J
 cases c:rs.all ok<;>rw[c] at F<;>fail "!M8 pA"
end
section
variable{m:Nat}
theorem lp(c:VG no ba oc fs)(d:HF fs=(m:Int))(e:3<=m)(f:z<=100)(g:a.length<=1000) :
  "n"|||n+4|||[.sh ∅,.sh (rF z a),.i q]|||.sh (LL m ba (kE z a++[q])):=by
 exists XY
 have i:=kd (W:=W) (n:=n+2) f g
 have b:kC .Add (.l ((kE z a).map D.int)) (.l [.int q])=aA (.ow (.l ((kE z a++[q]).map D.int))):=by(rw[zM (YE (by simp[f5];lia)),aQ])
 have j:=Ig (W:=W) (n:=n) (rs:=rs) (xs:=kE z a++[q]) c d e
 exists kE z a++[q],k
 fail "!pA"
end
def hV(h:(rg n)=pre++d::post):d=.int pre.length/\pre.length<n:=by
 have b:=congrArg GG h;rw[pA,TK,RC,KC] at b;have a:(rg n)[pre.length]?=aA d:=by rw[h,HP (uB _),zP];rfl
 rw[ND,cL ()] at a;exact#[(ED a).symm,by lia]
def Nv:WC (k+1) ok=WC k ok++(if ok (k:Int)=bA then [(k:Int)] else []):=by
 unfold WC;rw[eM,iP,iD];by_cases h:ok (k:Int)=bA
 .rw[RA h,List.filter_cons_of_pos (p:=λ(j:Nat)=>ok (j:Int)) h];rfl
 .rw[if_neg h,List.filter_cons_of_neg (p:=λ(j:Nat)=>ok (j:Int)) h];rfl
section
variable{m:Nat}
def In(no:Int)(a:List Int):Prop:=∀x∈a,0<=x/\x<no
def In.app(h:In no xs)(k:In no j):In no (xs++j):=λx hx=>(QE.mp hx).elim (h x) (k x)
def In.one(h:0<=q/\q<no):In no [q]:=λx hx=>by rw[qD.mp hx];exact h
theorem N7(h:In no b)(c:1<=no):In no (kE z b):=λx a=>by
 rcases QE.mp a with a | a
 .rw[zj a];lia
 .exact h x a
theorem Eo(c:z<=100)(d:a.length<=1000):"P"|||n+1|||[.sh (rF z a)]|||.ow (.l ((kE z a).map D.int)):=by
 exists CY
 unfold rF;have e:(z:Int)+(a.length:Int)-(a.length:Int)=(z:Int):=by lia
 have f:kC .Mult (.l [.int 0]) (.int z)=aA (.ow (.l (qB z (.int 0)))):=by(rw[fQ () () (YE (by simp;lia)),nI,Mx.Mf])
 have g:kC .Add (.l (qB z (.int 0))) (.l (a.map D.int))=aA (.ow (.l ((kE z a).map D.int))):=by(rw[zM (YE (by simp;lia))];unfold kE;rw[iD,Dk])
 fail "!pA"
def F5(m:Nat)(ba:Int)(a:List Int)(q:Int):D:=.t [.int q,LL m ba (a++[q])]
def UL(m:Nat)(ba:Int)(b:List RP)(a:List Int)(k:Nat):List D:=(WC k (qC b a)).map (F5 m ba a)
theorem gTa{u z:Nat}{f:List Int}(t:VG no ba oc fs)(x:HF fs=(m:Int))(hk:no=(u:Int))(i:l.map (·.1)=rs)(y:∀p∈l,RX no ba oc fs rs m p)(A:z<=100)(B:f.length<=1000)(F:In no f) :
  "C"|||n+5|||[.sh ∅,.sh (rF z f)]|||.ow (.l (UL m ba l (kE z f) u)):=by
 exists PY
 have n1:=t.n1;have n2:=t.n2;have K:∀{U:Env},aAb .IB [.val (.i no)] U=aA (rg u,eA):=λ{U}=>by rw[hk];exact WM ()
 have Y:=Eo (W:=W) (n:=n+3) A B;have j:=N7 (z:=z) F ();have g:(kE z f).length<=1100:=by rw[f5];lia
 exists kE z f,a
 let(Z,e,h,H,I,rfl,_,_,c):=lH (bind:=eB bA [3]) (body:=JA T.cA (run T W (n+4)) W oX)
  (λpre U=>∃h H I,U=[.sh ∅,.sh (rF z f),.o (.l h),H,I]/\SA H=bA/\SA I=bA/\h=UL m ba l a pre.length)
  (ds:=rg u) (λpre d post s U O=>by
   let(h,H,I,rfl,J,h4,c):=O;let(rfl,M):=hV s;refine#[_,by erw[iC,LB J]<;>rfl, ?_]
   have hc:kC .Add (.l (a.map D.int)) (.l [.int pre.length])=aA (.ow (.l ((a++[(pre.length:Int)]).map D.int))):=by(rw[zM (YE (by simp;lia)),aQ])
   have P:=ia (W:=W) (n:=n) (xs:=a) (q:=(pre.length:Int)) i y (j.app (In.one ()));have Q:=O1 (W:=W) (n:=n+2) (rs:=rs) (xs:=a++[(pre.length:Int)]) t x
   have R:fB (h.length+1)=bA:=UB (by
    have:=uL (k:=pre.length) (ok:=qC l a)
    rw[c,UL,pA];lia)
   have r:UL m ba l a (pre.length+1)=h++(if qC l a (pre.length:Int)=bA then [F5 m ba a (pre.length:Int)] else []):=by
    rw[c,UL,Nv,iD];congr 1
    split<;>rfl
   rw[RC,qN,r];unfold F5
   exists (pre.length:Int),q
   exists LL m ba (a++[q]),X
   exists a++[q],N
   exists qC l a q,b
   unfold oX;clear c r
   cases b with
   |true =>
    refine#[[.sh ∅,.sh (rF z f),.o (.l (h++[.t [.int q,X]])),.i q,.o (.l (N.map D.int))], ?_,_,_,_,rfl,rfl,rfl,rfl];clear y i F j g t x hk A B s M J n1 n2 K
    fail "!pA"
   |false =>
    refine#[[.sh ∅,.sh (rF z f),.o (.l h),.i q,.o (.l (N.map D.int))], ?_,_,_,_,rfl,rfl,rfl,(RD h).symm];clear y i F j g t x hk A B s M J n1 n2 K
    fail "!pA")
  (U:=[.sh ∅,.sh (rF z f),.o (.l []),.un,.un]) #[[],_,_,rfl,rfl,rfl,rfl]
 rw[pA,TK] at c;subst c
 exists UL m ba l a u,h
 clear y i F j g t x hk A B n1 n2
 fail "!pA"
end
structure VK(no ba:Int)(m:Nat)(k:L2.xB):Prop where
 t0:0<=k.1
 t1:k.1<=(m:Int)+ba-1
 tl:(k.2.length:Int)=if(m:Int)<k.1 then(m:Int) else k.1
 xs:In no k.2
def bN(k:L2.xB):List Int:=kE (k.1-k.2.length).toNat k.2
def ZC(m:Nat)(ba:Int)(a:List Int):L2.xB:=(SI m ba a.length,LK m a)
theorem zPa:LL m ba a=vA (ZC m ba a):=rfl
section
variable{ps:List RP}
theorem VK.le(h:VK no ba m k):(k.2.length:Int)<=k.1:=by
 have:=h.tl
 split at this<;>lia
theorem VK.st(h:VK no ba m k):vA k=rF (k.1-k.2.length).toNat k.2:=by
 have:=h.le
 unfold vA rF;rw[WV (),Int.sub_add_cancel]
structure HK(no ba oc:Int)(fs:List (Int×Int×Bool))(rs:List D)(m kn:Nat)(ps:List RP):Prop where
 ho:VG no ba oc fs
 hm:HF fs=(m:Int)
 h3:3<=m
 h5:m<=5
 hk:no=(kn:Int)
 wL:ps.map (·.1)=rs
 hp:∀p∈ps,RX no ba oc fs rs m p
 hl:rs.length<=8
theorem HK.z(H:HK no ba oc fs rs m j ps)(h:VK no ba m k):(k.1-k.2.length).toNat<=100/\k.2.length<=1000:=by
 have:=h.t1;have:=h.le;have:=H.h5;have:=H.ho.b2
 lia
theorem HK.k7(H:HK no ba oc fs rs m j ps):j<=7:=by have:=H.ho.n2;have:=H.hk;lia
def HK.line(H:HK no ba oc fs rs m j ps)(h:VK no ba m k):In no (bN k):=N7 h.xs H.ho.n1
theorem HK.next(H:HK no ba oc fs rs m j ps)(h:In no xs):VK no ba m (ZC m ba xs):=by
 have b1:=H.ho.b1;have h3:=H.h3;have tb:=iSa (m:=(m:Int)) (ba:=ba) (n:=(xs.length:Int)) () () b1;exact#[tb.1,tb.2,vRa b1,λx hx=>h x (uRa hx)]
def HD(a:D)(no ba:Int)(m b:Nat)(ps:List RP):Prop:=∃oc fs rs,a=∅/\HK no ba oc fs rs m b ps
theorem HD.i0(H:HD j no ba m r ps):GD (aA j) (.int 0)=aA (.i no):=by let(_,_,_,rfl,_):=H;rfl
theorem HD.k7(H:HD r no ba m j ps):j<=7:=by let(_,_,_,rfl,H):=H;exact H.k7
theorem HD.hk(H:HD r no ba m j ps):no=(j:Int):=by let(_,_,_,rfl,H):=H;exact H.hk
theorem HD.line(H:HD j no ba m r ps)(h:VK no ba m k):In no (bN k):=by let(_,_,_,rfl,H):=H;exact H.line h
theorem HD.next(H:HD j no ba m r ps)(h:In no xs):VK no ba m (ZC m ba xs):=by let(_,_,_,rfl,H):=H;exact H.next h
def uD(a:Nat)(ps:List RP)(k:L2.xB):List Int:=WC a (qC ps (bN k))
def cDa{W n:Nat}(H:HD a no ba m b ps)(h:VK no ba m k):"u"|||n+6|||[.sh a,.sh (vA k)]|||.ow (.l ((uD b ps k).map D.int)):=by
 let(oc,fs,rs,rfl,H):=H;rw[h.st];exact dDa H.hk H.k7 H.wL H.hp H.hl (H.z h).1 (H.z h).2 h.xs
def ip(H:HD a no ba m b ps)(h:VK no ba m k):"n"|||n+4|||[.sh a,.sh (vA k),.i q]|||.sh (vA (ZC m ba (bN k++[q]))):=by
 let(oc,fs,rs,rfl,H):=H;rw[h.st];exact lp H.ho H.hm H.h3 (H.z h).1 (H.z h).2
def fTa(H:HD a no ba m b ps)(h:VK no ba m k):"C"|||n+5|||[.sh a,.sh (vA k)]|||.ow (.l (UL m ba ps (bN k) b)):=by
 let(oc,fs,rs,rfl,H):=H;rw[h.st];exact gTa H.ho H.hm H.hk H.wL H.hp (H.z h).1 (H.z h).2 h.xs
end
section
variable{S:Type}{fH:S->List Int}{nx:S->Int->S}
def cnt(fH:S->List Int)(nx:S->Int->S):Nat->S->Nat
 | 0,_=>1
 |j+1,s=>((fH s).map λq=>cnt fH nx j (nx s q)).sum
end
def mQ{bind:D->Env->Option Env}(val:D->D)(J:Env->Prop)
  (step:∀d∈ds,∀U,J U->∃b v f,bind d U=aA b/\lC b=some (.ok v,f)/\v.d=val d/\J f) (h:J U) :
  ∃g,nE (MC P C []) lC bind ds [] U=some (.ok (ds.map val),g)/\J g:=by
 obtain⟨a,g,e,⟨rfl,i⟩,_⟩:=gK (tests:=MC P C []) (λj a U=>a=(ds.take j).map val/\J U)
  (λj d hd a U k=>by
   let(l,i):=k;let(b,c):=step d (xH hd) U i;let(v,f,m,n,o,p):fC:=c
   refine#[b,bA,b,m,qJ,λ_=>#[v,f,n, ?_,p],λz=>nomatch z];rw[l,o,aW,hd,iD]
   rfl) [] U #[rfl,h]
 exact#[g,by rw[e,rP],i]
section
variable{k:L2.xB}
def QB(m:Nat)(ba:Int)(k:L2.xB)(q:Int):L2.xB:=ZC m ba (bN k++[q])
def IC(m:Nat)(ba:Int)(a:Nat)(b:List RP)(k:L2.xB):List D:=(uD a b k).map λq=>.t [.int q,vA (QB m ba k q)]
theorem lQa:UL m ba a (bN k) b=IC m ba b a k:=rfl
theorem jQa{W n:Nat}(H:HD c no ba m a b)(h:VK no ba m k):"v"|||n+7|||[.sh c,.sh (vA k)]|||.ow (.l (IC m ba a b k)):=by
 exists tZ
 have x:=cDa (W:=W) (n:=n) H h;have p:∀{U:Env},aAb .of [.val (.ow (.l ((uD a b k).map D.int)))] U=aA ((uD a b k).map D.int,eA):=λ{U}=>rfl
 let(y,e,i,rfl,r):=mQ (P:=T.cA) (C:=run T W (n+6)) (lC:=ev T.cA (run T W (n+6)) dA nY) (bind:=eB bA [3]) (ds:=(uD a b k).map D.int)
  (λd=>match d with | .int q=>.t [.int q,vA (QB m ba k q)] | _=>.lA) (λU=>∃i,U=[.sh c,.sh (vA k),.un,i]/\SA i=bA)
  (λd hd U s=>by
   let(i,rfl,t):=s;let(q,j,j):rA:=pE.mp hd
   obtain rfl:=j;have l:=ip (W:=W) (n:=n+2) (q:=q) H h;refine#[_,.sh (.t [.int q,vA (QB m ba k q)]),[.sh c,.sh (vA k),.un,.i q],by erw[iC,LB t]<;>rfl, ?_,rfl,_,rfl,rfl];replace l:"n"|||n+6|||[.sh c,.sh (vA k),.i q]|||.sh (vA (QB m ba k q)):=l
   exists vA (QB m ba k q),z
   unfold nY
   fail "!pA")
  (U:=[.sh c,.sh (vA k),.un,.un]) #[_,rfl,rfl]
 have g:((uD a b k).map D.int).map (λd=>match d with | .int q=>D.t [.int q,vA (QB m ba k q)] | _=>.lA)=IC m ba a b k:=by rw[zH];rfl
 rw[g] at e;have o:(IC m ba a b k).length<=7:=by unfold IC;rw[pA];exact dD uL H.k7
 exists IC m ba a b k,F
 exists (uD a b k).map D.int,A
 have u:fB F.length=bA:=UB (by omega)
 fail "!pA"
 rw[mF p]
 fail "!pA"
end
theorem K5(st:Z->Env)(I f:Z->Prop)(μ:Z->Nat)(x:Exc)(R:Prop)
  (h:∀a,I a->(f a/\test (st a)=some (.ok (.b dA),st a))\/(test (st a)=some (.ok (.b bA),st a)/\((∃b,body (st a)=aA (.nx,st b)/\I b/\μ b<μ a)\/(body (st a)=eA/\R/\∃c,bx (st a)=aA (x,st c))))) :
  ∀n a,I a->μ a<n->(∃b,I b/\f b/\GF test body n (st a)=aA (.nx,st b))\/(R/\GF test body n (st a)=eA/\∃c,HH test body bx n (st a)=aA (x,st c))
 | 0,a,_,k=>absurd k (pS _)
 |n+1,a,l,k=>by
  rcases h a l with ⟨hd,d⟩ | ⟨d,⟨b,e,m,q⟩ | ⟨e,o,c,p⟩⟩
  .exact .inl #[a,l,hd,by erw[GF,d,zA.mC]]
  .rcases K5 st I f μ x R h n b m () with ⟨c,g,i,j⟩ | ⟨g,i,c,j⟩
   .exact .inl #[c,g,i,by erw[GF,d,zA.mC,e];exact j]
   .exact .inr #[g,by erw[GF,d,zA.mC,e];exact i,c,by erw[HH,d,e];exact j]
  .exact .inr #[o,by erw[GF,d,zA.mC,e],c,by erw[HH,d,e];exact p]
section
variable{kk:L2.MB}
def Xr(h:SA t=bA)(i:a[a.length-1]?=aA d)(j:a.dropLast=b)(k:PB .NotIn d (.aB c DS)=aA dA) :
  JA T.cA (run T W n) W BF [.sh e,.sh f,.o (.aB c DS),.o (.l a),t]=aA (.nx,[.sh e,.sh f,.o (.aB c DS),.o (.l b),.sh d]):=by
 unfold BF
 fail "!pA"
def Vr(f:SA t=bA)(g:a[a.length-1]?=aA d)(h:a.dropLast=c)(i:PB .NotIn d (.aB b DS)=aA bA)(j:decide ((b.length:Int)=150)=bA) :
  JA T.cA (run T W n) W BF [.sh hA,.sh d0,.o (.aB b DS),.o (.l a),t]=eA/\YD T.cA (run T W n) W BF [.sh hA,.sh d0,.o (.aB b DS),.o (.l a),t]=aA (#["TooMany",eA],[.sh hA,.sh d0,.o (.aB b DS),.o (.l c),.sh d]):=by
 unfold BF;constructor
 .fail "!pA"
 .fail "!pA"
def Wr(A:SA t=bA)(B:i[i.length-1]?=aA d)(m:i.dropLast=c)(H:PB .NotIn d (.aB KS DS)=aA bA)(I:decide ((KS.length:Int)=150)=dA)
  (r:"v"|||n|||[.sh hA,.sh d]|||.ow (.l F)) (hk:jE d=aA kk) (j:EK 2 [.sh hA,.sh d0,.o (.aB KS DS),.o (.l c),.sh d] (aA (.o (.aB KS DS))) (aA kk) (.ow (.l F))=aA (.nx,[.sh hA,.sh d0,.o (.aB rM nM),.o (.l c),.sh d]))
  (k:GD (aA (.aB rM nM)) d=aA (.sh (.l F))) (p:∀x∈F,∃a b,x=.t [a,b]) (f:es=F.map λx=>match x with | .t [_,b]=>b | _=>.lA) (J:fB (c.length+es.length)=bA) (s:fB es.length=bA) :
  JA T.cA (run T W n) W BF [.sh hA,.sh d0,.o (.aB KS DS),.o (.l i),t]=aA (.nx,[.sh hA,.sh d0,.o (.aB rM nM),.o (.l (c++es)),.sh d]):=by
 have q:∀{U:Env},aAb .of [.val (.sh (.l F))] U=aA (F,eA):=λ{U}=>rfl
 let(K,e,h,rfl,l):=mQ (P:=T.cA) (C:=run T W n) (lC:=ev T.cA (run T W n) dA mY) (bind:=eB bA [1]) (ds:=F)
  (λx=>match x with | .t [_,b]=>b | _=>.lA) (λU=>∃h,U=[.un,h]/\SA h=bA)
  (λx u U y=>by
   let(h,rfl,z):=y;let(a,b,m):gD:=p x u
   obtain rfl:=m;refine#[_,.sh b,[.un,.sh (.t [a,b])],by erw[iC,LB z]<;>rfl, ?_,rfl,_,rfl,rfl];unfold mY;clear r j k q f
   fail "!pA")
  (U:=[.un,.un]) #[_,rfl,rfl]
 rw[<- f] at e;unfold BF;clear p f l
 fail "!pA"
 rw[mF q]
 fail "!pA"
 rw[pL rfl,show([]++qB 2 Sl.un:List Sl)=[.un,.un] from rfl,e]
 fail "!pA"
end
section
variable{S:Type}{fH:S->List Int}{nx:S->Int->S}{s0 s:S}
inductive VH(fH:S->List Int)(nx:S->Int->S)(s0:S):S->Prop
 |start:VH fH nx s0 s0
 |step {s:S} {q:Int}:VH fH nx s0 s->q∈fH s->VH fH nx s0 (nx s q)
def oMa{l:List S}(a:s0∈l)(b:∀k∈l,∀q∈fH k,nx k q∈l)(h:VH fH nx s0 s):s∈l:=by
 induction h with
 |start=>exact a
 |step _ c d=>exact b _ d _ c
def pMa{a:S}(h:VH fH nx s0 a)(k:VH fH nx a s):VH fH nx s0 s:=by
 induction k with
 |start=>exact h
 |step _ b c=>exact .step c b
theorem E2[BEq S][LawfulBEq S]:∀{l l':List S},l.Nodup->(∀x∈l,x∈l')->l.length<=l'.length
 |[],_,_,_=>lI _
 |x::r,l',a,h=>by
  rw[xN] at a;have b:=h x OF
  have:=E2 (l':=l'.erase x) a.2 λy c=>(List.mem_erase_of_ne λz:y=x=>a.1 (z ▸ c)).mpr (h y (QD _ c))
  rw[List.length_erase_of_mem b] at this
  have:=List.length_pos_of_mem b
  rw[KC]
  lia
end
def dU{a:List L2.xB}:AI (a.map .inl) (.inl k)=decide (k∈a):=by
 unfold AI;rw[List.any_map]
 induction a with
 |nil=>rfl
 |cons x a b =>
  rw[gM,b];show(decide (Sum.inl x=(Sum.inl k:L2.MB))||decide (k∈a))=_;by_cases e:x=k
  .subst e;rw[zB rfl,zB OF];rfl
  .rw[dB (λz=>e (BP z)),pG];exact qP.mpr #[QD _,λh=>(jD.mp h).resolve_left λz=>e z.symm]
def eR{a:List L2.xB}(h:k∈a):xK (a.map .inl) (a.map f) (.inl k)=aA (f k):=by
 unfold xK
 induction a with
 |nil=>cases h
 |cons x a b =>
  rw[vB,vB,sN,bM];by_cases e:x=k
  .subst e;simp
  .rw[dB (λz=>e (BP z))];exact b ((jD.mp h).resolve_left λz=>e z.symm)
def N3{a:List L2.xB}{k:L2.xB}{f:L2.xB->D}(h:k ∉ a):yE (a.map .inl) (.inl k)=(a++[k]).map .inl/\aE (a.map .inl) (a.map f) (.inl k) (f k)=(a++[k]).map f:=by
 unfold yE aE;rw[dU,dB h,iD,iD];exact#[rfl,rfl]
def cG:jE (vA k)=aA (.inl k):=zOa
abbrev DS:=List L2.xB×List L2.xB×Sl
section
variable{no ba:Int}{kn m:Nat}{ps:List RP}{hA:D}{s0 k:L2.xB}{W n:Nat}
def oC(m:Nat)(ba:Int)(kn:Nat)(ps:List RP)(a:List L2.xB):D:=.aB (a.map .inl) (a.map λk=>.l (IC m ba kn ps k))
def dE(m:Nat)(ba:Int)(kn:Nat)(ps:List RP)(hA b:D)(a:DS):Env:=[.sh hA,.sh b,.o (oC m ba kn ps a.1),.o (.l (a.2.1.map vA)),a.2.2]
structure DI(no ba:Int)(m kn:Nat)(ps:List RP)(s0:L2.xB)(a:DS):Prop where
 nd:a.1.Nodup
 le:a.1.length<=150
 wl:a.2.1.length<=1+7*a.1.length
 vk:∀k,k∈a.1\/k∈a.2.1->VK no ba m k/\VH (uD kn ps) (QB m ba) s0 k
 s0:s0∈a.1\/s0∈a.2.1
 cl:∀k∈a.1,∀q∈uD kn ps k,QB m ba k q∈a.1\/QB m ba k q∈a.2.1
 ok:SA a.2.2=bA
structure UD(no ba:Int)(m kn:Nat)(ps:List RP)(s0:L2.xB)(ks:List L2.xB):Prop where
 nd:ks.Nodup
 le:ks.length<=150
 vk:∀k∈ks,VK no ba m k/\VH (uD kn ps) (QB m ba) s0 k
 s0:s0∈ks
 cl:∀k∈ks,∀q∈uD kn ps k,QB m ba k q∈ks
def sM(m:Nat)(ba:Int)(kn:Nat)(ps:List RP)(s0:L2.xB):Prop:=∃l:List L2.xB,l.Nodup/\l.length=151/\∀k∈l,VH (uD kn ps) (QB m ba) s0 k
theorem UD.Q9(h:UD no ba m kn ps s0 j)(r:VH (uD kn ps) (QB m ba) s0 k):¬sM m ba kn ps k:=λu=>by
 let(l,nd,hl,hk):=u
 have:=E2 nd (l':=j) λx hx=>oMa h.s0 h.cl (pMa r (hk x hx))
 have:=h.le
 lia
theorem V9(H:HD hA no ba m kn ps)(h:VK no ba m k)(a:q∈uD kn ps k):VK no ba m (QB m ba k q):=by
 have b:=U9 a;have c:=H.hk;exact H.next ((H.line h).app (In.one #[b.1,by lia]))
theorem Yr(H:HD hA no ba m kn ps){a:DS}(hd:DI no ba m kn ps s0 a)(v:a.2.1≠[]) :
  (∃b,JA T.cA (run T W (n+7)) W BF (dE m ba kn ps hA (vA s0) a)=aA (.nx,dE m ba kn ps hA (vA s0) b)/\DI no ba m kn ps s0 b/\8*(150-b.1.length)+b.2.1.length<8*(150-a.1.length)+a.2.1.length) \/
  (JA T.cA (run T W (n+7)) W BF (dE m ba kn ps hA (vA s0) a)=eA/\sM m ba kn ps s0/\∃c,YD T.cA (run T W (n+7)) W BF (dE m ba kn ps hA (vA s0) a)=aA (#["TooMany",eA],dE m ba kn ps hA (vA s0) c)):=by
 let(g,A,t):=a;let(o,le,wl,j,r,cl,ok):=hd
 dsimp only at *
 rcases Tj A with rfl | ⟨w,k,rfl⟩
 .exact absurd rfl v
 rw[Uj] at *
 have p:((w++[k]).map vA)[((w++[k]).map vA).length-1]?=aA (vA k):=by simp
 have i:((w++[k]).map vA).dropLast=w.map vA:=by simp
 have l:PB .NotIn (vA k) (oC m ba kn ps g)=aA !(decide (k∈g)):=by unfold oC;rw[N8 cG,dU]
 have hk:=j k (.inr (by simp));have mem:∀{x:L2.xB},x∈w++[k]->x∈w\/x=k:=λh=>by simpa using h
 rw[RC,qN] at wl;by_cases e:k∈g
 .rw[zB e] at l;refine .inl #[(g,w,.sh (vA k)),Xr ok p i l,#[o,le,by dsimp only;lia,λx d=>j x (d.imp id λz=>aF _ z), ?_,λx d q i=>?_,rfl],by simp]
  .rcases r with z | z
   .exact .inl z
   .rcases mem z with z | z
    .exact .inr z
    .exact .inl (z ▸ e)
  .rcases cl x d q i with z | z
   .exact .inl z
   .rcases mem z with z | z
    .exact .inr z
    .exact .inl (z ▸ e)
 .rw[dB e] at l;by_cases B:g.length=150
  .let(C,I):=Vr (W:=W) (n:=n+7) (hA:=hA) (d0:=vA s0) ok p i l (zB (by rw[pA];lia));refine .inr #[C,#[k::g,xN.mpr #[e,o],by simp[B],λx d=>?_],(g,w,.sh (vA k)),I];rcases jD.mp d with rfl | d
   .exact hk.2
   .exact(j x (.inl d)).2
  .let(J,K):=N3 (f:=λk=>.l (IC m ba kn ps k)) e;have M:(uD kn ps k).length<=7:=dD uL H.k7;refine .inl #[(g++[k],w++(uD kn ps k).map (QB m ba k),.sh (vA k)), ?_,#[?_,by simp;lia,by simp;lia,λx d=>?_, ?_,λx d q s=>?_,rfl],by simp;lia]
   .have:=Wr (W:=W) (n:=n+7) (hA:=hA) (d0:=vA s0) (KS:=g.map .inl) (DS:=g.map λk=>.l (IC m ba kn ps k)) (rM:=(g++[k]).map .inl) (nM:=(g++[k]).map λk=>.l (IC m ba kn ps k)) (F:=IC m ba kn ps k) (es:=((uD kn ps k).map (QB m ba k)).map vA)
     ok p i l (dB (by rw[pA];lia)) (jQa H hk.1) cG (by rw[lN (UB (by rw[pA];lia)),J];show aA (Fl.nx,[_,_,Sl.ow (.aB _ (aE _ _ _ (.l _))) _ _,_,_])=_;rw[K]) (PQ cG (eR (by simp))) (λx d=>by
      let(q,_,i):rA:=pE.mp d
      obtain rfl:=i
      exact#[_,_,rfl]) (by unfold IC;rw[zH,zH];rfl) (UB (by simp;lia)) (UB (by simp;lia))
    refine this.trans ?_;rw[<- iD];rfl
   .exact UK.mpr #[o,by simp,λx d y u z=>e (by rw[qD] at u;subst u z;exact d)]
   .rcases d with d | d
    .rcases QE.mp d with d | d
     .exact j x (.inl d)
     .rw[qD] at d;subst d;exact hk
    .rcases QE.mp d with d | d
     .exact j x (.inr (aF _ d))
     .let(q,i,i):rA:=pE.mp d
      obtain rfl:=i;exact#[V9 H hk.1 i,.step hk.2 i]
   .rcases r with z | z
    .exact .inl (aF _ z)
    .rcases mem z with z | z
     .exact .inr (aF _ z)
     .exact .inl (by simp[z])
   .rcases QE.mp d with d | d
    .rcases cl x d q s with z | z
     .exact .inl (aF _ z)
     .rcases mem z with z | z
      .exact .inr (aF _ z)
      .exact .inl (by simp[z])
    .rw[qD] at d;subst d;exact .inr (MG _ (pE.mpr #[q,s,rfl]))
end
theorem wG:ev P C t .qL U=aAh t (some (.ok (.ow (.aB [] [])),U)):=rfl
section
variable{W n:Nat}
def x9:ev P C bA (.BA .Gt (.bif .len [.v 3]) (.c (.int 0))) (dE m ba b c d (vA f) a)=some (.ok (.b (decide (((a.2.1.length:Nat):Int) > 0))),dE m ba b c d (vA f) a):=by
 unfold dE;have e:((a.2.1.map vA).length:Int)=(a.2.1.length:Int):=by rw[pA]
 exists a.2.1.map vA,l
 fail "!wG"
theorem iQa(H:HD b no ba m c d)(l:VK no ba m s0) :
  (∃e,UD no ba m c d s0 e/\run T (W+1300) (n+8) "o" [.sh b,.sh (vA s0)]=some (.ok (.ow (oC m ba c d e)),[.sh b,.sh (vA s0)])) \/
  (sM m ba c d s0/\run T (W+1300) (n+8) "o" [.sh b,.sh (vA s0)]=some (.ex #["TooMany",eA],[.sh b,.sh (vA s0)])):=by
 have key:=K5 (test:=ev T.cA (run T (W+1300) (n+7)) bA (.BA .Gt (.bif .len [.v 3]) (.c (.int 0)))) (body:=JA T.cA (run T (W+1300) (n+7)) (W+1300) BF) (bx:=YD T.cA (run T (W+1300) (n+7)) (W+1300) BF)
  (dE m ba c d b (vA s0)) (DI no ba m c d s0) (λa=>a.2.1=[]) (λa=>8*(150-a.1.length)+a.2.1.length) #["TooMany",eA] (sM m ba c d s0) (λa p=>by
   by_cases h:a.2.1=[]
   .exact .inl #[h,by rw[x9,h];rfl]
   .refine .inr #[by rw[x9,zB (by have:=pk.mpr h;lia)], ?_]
    exact Yr H p h) (W+1300) ([],[s0],.un) #[Dl,by simp,by simp,λk hk=>by
     rcases hk with hk | hk
     .cases hk
     .rw[qD.mp hk];exact#[l,.start],.inr (by simp),λk hk=>(by cases hk),rfl] (by show 8*(150-0)+1<W+1300;lia)
 exists sZ
 rcases key with ⟨⟨e,i,t⟩,f,rfl,g⟩ | ⟨r,g1,⟨e,i,t⟩,g2⟩
 .refine .inl #[e,#[f.nd,f.le,λk hk=>f.vk k (.inl hk),f.s0.resolve_right (by simp),λk hk q s=>(f.cl k hk q s).resolve_right (by simp)], ?_];replace g:GF (ev T.cA (run T (W+1300) (n+7)) bA (.BA .Gt (.bif .len [.v 3]) (.c (.int 0)))) (JA T.cA (run T (W+1300) (n+7)) (W+1300) BF) (W+1300) [.sh b,.sh (vA s0),.o (.aB [] []),.o (.l [vA s0]),.un]=aA (.nx,[.sh b,.sh (vA s0),.o (oC m ba c d e),.o (.l []),t]):=g
  exists oC m ba c d e,u
  exists vA s0,v
  fail "!wG"
 .refine .inr #[r, ?_];replace g1:GF (ev T.cA (run T (W+1300) (n+7)) bA (.BA .Gt (.bif .len [.v 3]) (.c (.int 0)))) (JA T.cA (run T (W+1300) (n+7)) (W+1300) BF) (W+1300) [.sh b,.sh (vA s0),.o (.aB [] []),.o (.l [vA s0]),.un]=eA:=g1;replace g2:HH (ev T.cA (run T (W+1300) (n+7)) bA (.BA .Gt (.bif .len [.v 3]) (.c (.int 0)))) (JA T.cA (run T (W+1300) (n+7)) (W+1300) BF) (YD T.cA (run T (W+1300) (n+7)) (W+1300) BF) (W+1300) [.sh b,.sh (vA s0),.o (.aB [] []),.o (.l [vA s0]),.un]=aA (#["TooMany",eA],[.sh b,.sh (vA s0),.o (oC m ba c d e),.o (.l (i.map vA)),t]):=g2
  exists oC m ba c d e,u
  exists i.map vA,x
  exists vA s0,v
  fail "!wG"
end
def qH(g:Int->L2.xB)(q:Int):D:=.t [.int q,vA (g q)]
noncomputable def wB(a:List L2.xB)(r:L2.xB->Nat):D:=.aB (a.map .inl) (a.map λk=>.int (r k))
def P9{l:List Int}:WD .sum [.l (l.map λq=>.int (f q))]=aA (.i ((l.map f).sum:Nat)):=by
 show(oD (l.map λq=>D.int (f q))).map _=_
 have:oD (l.map λq=>D.int (f q))=aA (l.map λq=>(f q:Int)):=by
  induction l with
  |nil=>rfl
  |cons q l a=>rw[vB,vB];show(oD _).map _=_;rw[a];rfl
 rw[this];show aA (RV.sh (.int (l.map λq=>(f q:Int)).sum))=_
 congr 3
 induction l with
 |nil=>rfl
 |cons q l a=>rw[vB,vB,pW,pW,a (by
   have:=this
   rw[vB,vB] at this;replace this:(oD (l.map λq=>D.int (f q))).map (((f q:Nat):Int) :: ·)=_:=this
   cases e:oD (l.map λq=>D.int (f q)) with
   |none=>rw[e] at this;cases this
   |some z=>rw[e] at this;cases this;rfl)];rw[T6]
section
variable{r:L2.xB->Nat}
def CU(h:k∈a):GD (aA (wB a r)) (vA k)=aA (.i (r k)):=PQ cG (eR (f:=λk=>.int (r k)) h)
theorem aSa{l:List Int}(y:l.length<=100)(h:∀q∈l,g q∈a) :
  "w"|||n+1|||[.sh (.l (l.map (qH g))),.sh (wB a r)]|||.i ((l.map λq=>r (g q)).sum:Nat):=by
 exists vZ
 have j:∀{U:Env} {F:List D},U[0]?=aA (.sh (.l F))->aAb .of [.slot 0] U=aA (F,eA):=λ{U F} h=>by unfold aAb;erw[h]
 let(A,e,d,rfl,k):=mQ (P:=T.cA) (C:=run T W n) (lC:=ev T.cA (run T W n) dA oY) (bind:=eB bA [2]) (ds:=l.map (qH g))
  (λx=>match x with | .t [.int q,_]=>.int (r (g q)) | _=>.lA) (λU=>∃d,U=[.sh (wB a r),.un,d]/\SA d=bA)
  (λx m U o=>by
   let(d,rfl,p):=o;let(q,s,rfl):=pE.mp m;have t:=CU (r:=r) (h q s);refine#[_,.i (r (g q)),[.sh (wB a r),.un,.sh (qH g q)],by erw[iC,LB p]<;>rfl, ?_,rfl,_,rfl,rfl];unfold oY qH
   exists wB a r,u
   exists vA (g q),B
   exists (r (g q):Int),z
   fail "!pA")
  (U:=[.sh (wB a r),.un,.un]) #[_,rfl,rfl]
 have c:(l.map (qH g)).map (λx=>match x with | .t [.int q,_]=>D.int (r (g q)) | _=>.lA)=l.map λq=>.int (r (g q)):=by rw[zH];rfl
 rw[c] at e;have i:=P9 (l:=l) (f:=λq=>r (g q));have v:fB (l.map λq=>D.int (r (g q))).length=bA:=UB (by rw[pA];omega)
 exists (l.map λq=>D.int (r (g q))),F
 exists l.map (qH g),H
 exists (((l.map λq=>r (g q)).sum:Nat):Int),z
 exists wB a r,u
 fail "!pA"
 rw[mF (j rfl)]
 fail "!pA"
end
def DU{j:Nat}(h:l[j]?=aA d):GD (aA (.l l)) (.int j)=aA (.sh d):=by rw[Eb,L2.bK h];rfl
section
variable{r:L2.xB->Nat}
theorem tY{E:Sl->Sl->Env}(m:ks.Nodup)(n:SA t=bA)(h:∀r t d,SA t=bA->eB bA [j] d (E r t)=aA (E r (.sh d)))
  (p:∀k∈ks,∀a:List L2.xB,a.length<=ks.length->body (E (.o (wB a r)) (.sh (vA k)))=aA (.nx,E (.o (.aB (yE (a.map .inl) (.inl k)) (aE (a.map .inl) (a.map λk=>.int (r k)) (.inl k) (.int (r k))))) (.sh (vA k)))) :
  ∃b,pD (eB bA [j]) body (ks.map vA) (E (.o (.aB [] [])) t)=aA (.nx,E (.o (wB ks r)) b)/\SA b=bA:=by
 let(v,e,b,rfl,i):=lH (bind:=eB bA [j]) (λpre U=>∃b,U=E (.o (wB (ks.take pre.length) r)) b/\SA b=bA) (ds:=ks.map vA)
  (λpre d post c U q=>by
   let(b,rfl,i):=q;have g:pre.length<ks.length:=by have:=congrArg GG c;simp at this;lia
   have hd:d=vA ks[pre.length]:=by
    have:=congrArg (·[pre.length]?) c
    simp[g] at this;exact this.symm
   subst hd
   have l:ks[pre.length] ∉ ks.take pre.length:=λz=>by(rw[<- List.take_append_drop pre.length ks,UK,XR g] at m;exact m.2.2 _ z _ OF rfl)
   let(s,u):=N3 (f:=λk=>.int (r k)) l;refine#[_,h _ _ _ i,E (.o (wB (ks.take (pre.length+1)) r)) (.sh (vA ks[pre.length])), ?_,_,by rw[RC];rfl,rfl];refine(p _ (dW g) _ (by rw[SJ];lia)).trans ?_;rw[s,u,aW,OC g]
   rfl)
  (U:=E (.o (.aB [] [])) t) #[t,rfl,n]
 exact#[b,by rw[e,pA,rP],i]
abbrev aAf(m:Nat)(ba:Int)(a:Nat)(b:List RP):Nat->L2.xB->Nat:=cnt (uD a b) (QB m ba)
def wD(m:Nat)(ba:Int)(a:Nat)(b:List RP)(c:List L2.xB)(N:Nat):List D:=(nC N).map λj=>wB c (aAf m ba a b j)
def X3(h:j<N):(wD m ba kn ps ks N)[j]?=aA (wB ks (aAf m ba kn ps j)):=by unfold wD;rw[ND,cL h];rfl
theorem aNa(e:UD no ba m kn ps s0 ks)(X:kn<=7){N:Nat}(Y:N<=40) :
  "x"|||n+2|||[.sh (oC m ba kn ps ks),.i N]|||.ow (.l (wD m ba kn ps ks (N+1))):=by
 have H:∀{U:Env},aAb .key [.val (.sh (oC m ba kn ps ks))] U=aA (ks.map vA,eA):=λ{U}=>by unfold oC;rw[wb,zH];rfl
 have h:=e.le
 -- tF first row
 let(I,J,y):=tY (ks:=ks) (r:=aAf m ba kn ps 0) (j:=3) (E:=λr t=>[.sh (oC m ba kn ps ks),.i N,r,t,.un,.un]) (body:=JA T.cA (run T W (n+1)) W tX) (t:=.un) e.nd rfl (λr t d z=>by erw[iC,LB z]<;>rfl) (λk hk a A=>by
  have i:∀{U:Env},EK 2 U (aA (.o (wB a (aAf m ba kn ps 0)))) (aA (.inl k)) (.i 1)=aA (.nx,U.set 2 (.o (.aB (yE (a.map .inl) (.inl k)) (aE (a.map .inl) (a.map λk=>.int (aAf m ba kn ps 0 k)) (.inl k) (.int 1))))):=λ{U}=>lN (UB (by rw[pA];lia))
  have B:=cG (k:=k);have b:wO (aA (.o (wB a (aAf m ba kn ps 0))))=bA:=rfl;have C:vO (aA (.o (wB a (aAf m ba kn ps 0))))=dA:=rfl;have F:TM (aA (.o (wB a (aAf m ba kn ps 0))))=dA:=rfl;show _=aA (Fl.nx,[_,_,Sl.o (.aB _ (aE _ _ _ (.int 1))),_,_,_])
  exists yE (a.map .inl) (.inl k),Z
  exists aE (a.map .inl) (a.map λk=>.int (aAf m ba kn ps 0 k)) (.inl k) (D.int 1),K2
  exists vA k,dk
  exists wB a (aAf m ba kn ps 0),d1
  unfold tX;clear H hk A
  fail "!wG")
 let(U',e2,row,p,v,rfl,s,u):=lH (bind:=eB bA [5]) (body:=JA T.cA (run T W (n+1)) W vX)
  (λpre U=>∃row p v,U=[.sh (oC m ba kn ps ks),.i N,.sh row,p,.o (.l (wD m ba kn ps ks (pre.length+1))),v]/\SA p=bA/\SA v=bA)
  (ds:=rg N) (λpre d post b U hU=>by
   let(row,p,v,rfl,s,u):=hU;let(rfl,hj):=hV b
   let(K,e3,M):=tY (ks:=ks) (r:=aAf m ba kn ps (pre.length+1)) (j:=3) (E:=λr t=>[.sh (oC m ba kn ps ks),.i N,r,t,.o (.l (wD m ba kn ps ks (pre.length+1))),.i pre.length]) (body:=JA T.cA (run T W (n+1)) W uX) (t:=p) e.nd s (λr t d z=>by erw[iC,LB z]<;>rfl) (λk hk a A=>by
    have Qx:GD (aA (oC m ba kn ps ks)) (vA k)=aA (.sh (.l (IC m ba kn ps k))):=PQ cG (eR (f:=λk=>.l (IC m ba kn ps k)) hk);have O:=DU (X3 (m:=m) (ba:=ba) (kn:=kn) (ps:=ps) (ks:=ks) (N:=pre.length+1) (j:=pre.length) ())
    have hth:"w"|||n+1|||[.sh (.l (IC m ba kn ps k)),.sh (wB ks (aAf m ba kn ps pre.length))]|||.i (aAf m ba kn ps (pre.length+1) k:Nat) :=
     aSa (g:=QB m ba k) (l:=uD kn ps k) (dD uL ()) (λq hq=>e.cl k hk q hq)
    have i:∀{U:Env},EK 2 U (aA (.o (wB a (aAf m ba kn ps (pre.length+1))))) (aA (.inl k)) (.i (aAf m ba kn ps (pre.length+1) k:Nat))=aA (.nx,U.set 2 (.o (.aB (yE (a.map .inl) (.inl k)) (aE (a.map .inl) (a.map λk=>.int (aAf m ba kn ps (pre.length+1) k)) (.inl k) (.int (aAf m ba kn ps (pre.length+1) k:Nat)))))):=λ{U}=>lN (UB (by rw[pA];lia))
    have B:=cG (k:=k);have b:wO (aA (.o (wB a (aAf m ba kn ps (pre.length+1)))))=bA:=rfl;have C:vO (aA (.o (wB a (aAf m ba kn ps (pre.length+1)))))=dA:=rfl;have F:TM (aA (.o (wB a (aAf m ba kn ps (pre.length+1)))))=dA:=rfl
    exists yE (a.map .inl) (.inl k),Z
    exists aE (a.map .inl) (a.map λk=>D.int (aAf m ba kn ps (pre.length+1) k)) (.inl k) (D.int (aAf m ba kn ps (pre.length+1) k:Nat)),K2
    exists vA k,dk
    exists wB a (aAf m ba kn ps (pre.length+1)),d1
    exists (aAf m ba kn ps (pre.length+1) k:Int),cv
    exists wB ks (aAf m ba kn ps pre.length),P
    exists wD m ba kn ps ks (pre.length+1),Q
    exists oC m ba kn ps ks,R
    exists D.l (IC m ba kn ps k),dF
    unfold uX;clear H hk A J y s u
    fail "!wG")
   refine#[_,by erw[iC,LB u]<;>rfl,[.sh (oC m ba kn ps ks),.i N,.sh (wB ks (aAf m ba kn ps (pre.length+1))),K,.o (.l (wD m ba kn ps ks (pre.length+1)++[wB ks (aAf m ba kn ps (pre.length+1))])),.i pre.length], ?_,wB ks (aAf m ba kn ps (pre.length+1)),K,.i pre.length, ?_,M,rfl]
   .have qK:fB ((wD m ba kn ps ks (pre.length+1)).length+1)=bA:=UB (by unfold wD;simp;lia)
    exists wB ks (aAf m ba kn ps (pre.length+1)),P
    exists wD m ba kn ps ks (pre.length+1),Q
    exists oC m ba kn ps ks,R
    exists ks.map vA,L1
    unfold vX;clear J y s u b M
    fail "!wG"
   .rw[RC,qN];unfold wD;rw[eM (n:=pre.length+1),iD]
    rfl)
  (U:=[.sh (oC m ba kn ps ks),.i N,.sh (wB ks (aAf m ba kn ps 0)),I,.o (.l [wB ks (aAf m ba kn ps 0)]),.un]) #[_,_,_,rfl,y,rfl]
 rw[pA,TK] at e2;have hr:aAb .IB [.slot 1] [.sh (oC m ba kn ps ks),.i N,.sh (wB ks (aAf m ba kn ps 0)),I,.o (.l [wB ks (aAf m ba kn ps 0)]),.un]=aA (rg N,eA):=WM (U:=[]) ()
 exists mZ
 exists wD m ba kn ps ks (N+1),Q
 exists wB ks (aAf m ba kn ps 0),P
 exists oC m ba kn ps ks,R
 exists ks.map vA,L1
 exists (rg N),L2
 clear e h Y X s u
 fail "!wG"
end
section
variable{ps:List RP}
def wK(ps:List RP)(a:List Int):Bool:=(nC a.length).all λb=>decide (((HE ps a b:Nat):Int)=0)
theorem hAa(i:∀p∈ps,Pre p.2.2):wK ps (c++a)=(wK ps c&&(nC a.length).all λj=>qC ps (c++a.take j) (gx a j)):=by
 have h:∀(d e:List Int) (b:Nat),b<d.length->HE ps (d++e) b=HE ps d b:=λd e b f=>by(unfold HE;congr 1;exact ZR λp k=>by rw[i p k d e b f])
 unfold wK;rw[RC,List.range_add,zl,v7];congr 1
 .rw[rS,bF,bF];refine forall_congr' λb=>forall_congr' λf=>?_
  rw[h c a b (GJ.mp f)]
 .rw[rS,bF,bF];refine forall_congr' λj=>forall_congr' λg=>?_
  have g:=GJ.mp g
  have l:a=(a.take j++[gx a j])++a.drop (j+1):=by(unfold gx;rw[uH,OC g,Zk,oI];simp)
  show decide (((HE ps (c++a) (c.length+j):Nat):Int)=0)=bA↔_
  have m:HE ps (c++a) (c.length+j)=HE ps (c++a.take j++[gx a j]) (c++a.take j).length:=by
   have n:(c++a.take j).length=c.length+j:=by rw[RC,SJ];lia
   have o:c++a=(c++a.take j++[gx a j])++a.drop (j+1):=by
    conv=>lhs;rw[l]
    erw[oI]
   rw[n,o,h _ _ _ (by simp;lia)]
  rw[m];rfl
end
section
variable{W n:Nat}
abbrev kH(a:List Int):Sl:=.sh (.l (a.map D.int))
theorem Jv(H:HD q no ba m B g)(r:In no a)(s:a.length<=1000)(t:wK g a=bA) :
  "I"|||n+6|||[.sh q,kH a]|||.sh .lA:=by
 let(oc,fs,rs,rfl,H):=H;have wL:=H.wL;have h:g.length<=8:=by have:=H.hl;rw[<- wL,pA] at this;exact this
 exists dZ
 have x:=Xf (W:=W) (n:=n+3) wL H.hp H.hl;have y:aAb .IB [.val (.i a.length)] [.sh ∅,kH a,.o (.l (g.map (·.2.1))),.un,.un]=aA (rg a.length,eA):=WM s
 let(C,e,k,l,rfl,_,_):=vd (bind:=eB bA [3]) (body:=JA T.cA (run T W (n+5)) W sX)
  (λU=>∃k l,U=[.sh ∅,kH a,.o (.l (g.map (·.2.1))),k,l]/\SA k=bA/\SA l=bA)
  (ds:=rg a.length) (λd hd U z=>by
   let(k,l,rfl,u,F):=z;let(b,f,rfl):=pE.mp hd;have i:=GJ.mp f;refine#[_,by erw[iC,LB u]<;>rfl, ?_];let(L,A,j):=D8 (W:=W) (n:=n) H.hp h i r
   have v:L.length=0:=by
    have:=bF.mp t b f
    have:=lP this
    lia
   obtain rfl:=W5.mp v;refine#[[.sh ∅,kH a,.o (.l (g.map (·.2.1))),.i b,.o (.l [])], ?_,_,_,rfl,rfl,rfl];unfold sX;have c:decide ((0:Int)<((0:Nat):Int))=dA:=rfl;clear y x H h r hd i u wL s t f j v
   fail "!pA")
  (U:=[.sh ∅,kH a,.o (.l (g.map (·.2.1))),.un,.un]) #[_,_,rfl,rfl,rfl]
 fail "!pA"
def gr(H:HD b no ba m h c)(d:In no a)(e:a.length<=1000)(f:wK c a=bA) :
  "J"|||n+7|||[.sh b,kH a]|||.sh .lA:=by
 have i:=Jv (W:=W) (n:=n) H d e f
 exists ZY
 fail "!pA"
def gQa(H:HD a no ba m b c):"m"|||n+4|||[.sh a,kH xs]|||.sh (vA (ZC m ba xs)):=by
 let(oc,fs,rs,rfl,H):=H;exact Ig H.ho H.hm H.h3
end
theorem A1:XQ as (some (.ex x,U)) o=(match o with | some (x,U)=>some (.ex x,back as U) | none=>eA):=rfl
section
variable{N:Nat}
theorem xAa(d:N<=40):"L"|||n+3|||[.i N]|||.sh .lA:=by
 have e:=lTa (W:=W) (n:=n) (i:=(N:Int)) (a:=0) (b:=40) () ()
 exists aZ
 exists (N:Int),z
 fail "!A1"
structure Ln(no:Int)(ps:List RP)(xs:List Int):Prop where
 hx:In no xs
 lx:xs.length<=1000
 hb:wK ps xs=bA
theorem i9(H:HD a no ba m kn ps)(l:Ln no ps xs)(c:N<=40) :
  (∃ks,UD no ba m kn ps (ZC m ba xs) ks/\run T (W+1300) (n+9) "b" [.sh a,kH xs,.i N]=some (.ok (.i (aAf m ba kn ps N (ZC m ba xs):Nat)),[.sh a,kH xs,.i N])) \/
  (sM m ba kn ps (ZC m ba xs)/\run T (W+1300) (n+9) "b" [.sh a,kH xs,.i N]=some (.ex #["TooMany",eA],[.sh a,kH xs,.i N])):=by
 have k:=gr (W:=W+1300) (n:=n+1) H l.hx l.lx l.hb;have o:=xAa (W:=W+1300) (n:=n+5) c;have p:=gQa (W:=W+1300) (n:=n+4) (xs:=xs) H
 exists cZ
 rcases iQa (W:=W) (n:=n) H (H.next l.hx) with ⟨ks,d,g⟩ | ⟨f,g⟩
 .refine .inl #[ks,d, ?_];have q:=aNa (W:=W+1300) (n:=n+6) d H.k7 c;have s:=DU (X3 (m:=m) (ba:=ba) (kn:=kn) (ps:=ps) (ks:=ks) (N:=N+1) (j:=N) ());have t:=CU (r:=aAf m ba kn ps N) d.s0
  exists wB ks (aAf m ba kn ps N),u
  exists wD m ba kn ps ks (N+1),v
  exists oC m ba kn ps ks,x
  exists (aAf m ba kn ps N (ZC m ba xs):Int),y
  exists vA (ZC m ba xs),h
  exists (N:Int),z
  exists xs.map D.int,i
  clear H l d c
  fail "!A1"
 .refine .inr #[f, ?_]
  exists vA (ZC m ba xs),h
  exists (N:Int),z
  exists xs.map D.int,i
  clear H l f c
  fail "!A1"
end
section
variable{C:Calls}
def jOa:"g"|||n+1|||[.sh .lA,.sh d]|||.ow (.l [.str "told",d]):=by
 exists QT
 fail "!QQ RQ SQ TQ pA"
def fOa:∃d,"g"|||n+1|||[.sh (.zC ("TooMany":fA) x),.sh .lA]|||.ow (.l [.str "many",d]):=by
 refine#[.lA, ?_]
 exists QT
 have i:∀{U:Env} {F:List D},U[3]?=aA (.o (.l F))->aAb .of [.slot 3] U=aA (F,aA 3):=λ{U F} h=>by unfold aAb;erw[h]
 have k:PB .Is (.zC ("TooMany":fA) x) .lA=aA dA:=rfl
 fail "!QQ RQ SQ TQ pA"
 rw[Jz (i rfl)];erw[aAi,fS,gS]
 have j:oJ (MC T.cA (run T W n) []) (ev T.cA (run T W n) dA eY) (eB bA [1]) [.bl dA,.bl bA,.bl dA] 2 []=some (.ok (.ow (.l [.int 0,.int 1,.int 0])),[]):=by
  rw[pL rfl];unfold eY;erw[tP,qB,nE,qJ]
  fail "!QQ RQ SQ TQ pA"
 have l:WD .sum [.l [.int 0,.int 1,.int 0]]=aA (.i 1):=rfl
 fail "!QQ RQ SQ TQ pA"
 erw[aAx,aAs,vH,NV,fS,gS,vF]
 fail "!QQ RQ SQ TQ pA"
end
def sLa{a:List L2.xB}{d:D}(h:k∈a):yE (a.map .inl) (.inl k)=a.map .inl/\aE (a.map .inl) (a.map f) (.inl k) d=a.map λx=>if x=k then d else f x:=by
 unfold yE aE;rw[dU,zB h];refine#[rfl, ?_];clear h;show((a.map Sum.inl).zip (a.map f)).map (λp:L2.MB×D=>if p.1=.inl k then d else p.2)=_
 induction a with
 |nil=>rfl
 |cons x a b =>
  rw[vB,vB,sN,vB,vB,b];congr 1;by_cases e:x=k
  .subst e;simp
  .rw[if_neg (λz=>e (BP z)),if_neg e]
abbrev CS:=List L2.xB×List L2.xB×(L2.xB->D)×Sl×Sl×Sl
section
variable{no ba:Int}{kn m:Nat}{ps:List RP}{hA d0:D}{W n:Nat}{s0:L2.xB}
noncomputable def mD(a:List L2.xB)(f:L2.xB->D):D:=.aB (a.map .inl) (a.map f)
def iF(hA d0:D)(a:CS):Env:=[.sh hA,.sh d0,.o (mD a.1 a.2.2.1),.o (.l (a.2.1.map vA)),a.2.2.2.1,a.2.2.2.2.1,a.2.2.2.2.2]
def Y8{a rM:List L2.MB}{DS nM Lw:List D}{s4 s5:Sl}{c:D}{d:L2.MB}{b:Bool}(g:PB .NotIn c (.aB a DS)=aA b)(hk:jE c=aA d)(h:fB (Lw.length+1)=bA)(i:fB (a.length+1)=bA)(f:b=bA->yE a d=rM/\aE a DS d D.lA=nM) :
  JA T.cA (run T W n) W BM [.sh hA,.sh d0,.o (.aB a DS),.o (.l Lw),s4,s5,.sh c]=aA (.nx,if b=bA then [.sh hA,.sh d0,.o (.aB rM nM),.o (.l (Lw++[c])),s4,s5,.sh c] else [.sh hA,.sh d0,.o (.aB a DS),.o (.l Lw),s4,s5,.sh c]):=by
 unfold BM
 cases b with
 |false=>fail "!lN"
 |true =>
  let(j,k):=f rfl
  fail "!lN"
end
section
variable{no ba:Int}{kn m:Nat}{ps:List RP}{hA d0:D}{W n:Nat}{s0:L2.xB}
theorem lr{L w:List L2.xB}{f:L2.xB->D}{l:List Int}(M:L.length+l.length<=1000)(O:w.length+l.length<=1000)(v:L.Nodup)(F:SA s5=bA)(H:SA s6=bA) :
  ∃N o r s,pD (eB dA [5,6]) (JA T.cA (run T W n) W BM) (l.map (qH (QB m ba k))) (iF hA d0 (L,w,f,s4,s5,s6))=aA (.nx,iF hA d0 (L++N,w++N,o,s4,r,s))/\SA r=bA/\SA s=bA/\(L++N).Nodup/\(∀x∈N,∃q∈l,x=QB m ba k q)/\(∀q∈l,QB m ba k q∈L++N)/\N.length<=l.length/\∀x∈L,o x=f x:=by
 induction l generalizing L w f s5 s6 with
 |nil=>exact#[[],f,s5,s6,by rw[RD,RD];rfl,F,H,by rw[RD];exact v,λx b=>(by cases b),λq P=>(by cases P),uB _,λ_ _=>rfl]
 |cons q l I =>
  rw[KC] at M O
  have J:eB dA [5,6] (qH (QB m ba k) q) (iF hA d0 (L,w,f,s4,s5,s6))=aA (iF hA d0 (L,w,f,s4,.i q,.sh (vA (QB m ba k q)))):=by(unfold iF qH;erw[iC,LB F,LB H]<;>rfl)
  have u:PB .NotIn (vA (QB m ba k q)) (mD L f)=aA !(decide (QB m ba k q∈L)):=by unfold mD;rw[N8 cG,dU]
  by_cases a:QB m ba k q∈L
  .rw[zB a] at u;let(N,o,r,s,e,i,j,d,A,B,Q,C):=I (L:=L) (w:=w) (f:=f) (s5:=.i q) (s6:=.sh (vA (QB m ba k q))) () () v rfl rfl;refine#[N,o,r,s, ?_,i,j,d,λx b=>let #[p,c,h]:=A x b;#[p,QD _ c,h],λp c=>?_,by rw[KC];lia,C]
   .rw[vB]
    have:=Y8 (W:=W) (n:=n) (hA:=hA) (d0:=d0) (s4:=s4) (s5:=.i q) (rM:=[]) (nM:=[]) (Lw:=w.map vA) u cG (UB (by rw[pA];lia)) (UB (by rw[pA];lia)) nofun
    rw[if_neg (by decide)] at this;erw[pD,J];rw[show JA T.cA (run T W n) W BM (iF hA d0 (L,w,f,s4,.i q,.sh (vA (QB m ba k q))))=aA (.nx,iF hA d0 (L,w,f,s4,.i q,.sh (vA (QB m ba k q)))) from this];exact e
   .rcases jD.mp c with rfl | c
    .exact aF _ a
    .exact B p c
  .rw[dB a] at u;have g:=N3 (f:=λx=>if x=QB m ba k q then D.lA else f x) a;rw[RA rfl] at g;have t:L.map (λx=>if x=QB m ba k q then D.lA else f x)=L.map f:=ZR λx b=>if_neg λz:x=QB m ba k q=>a (z ▸ b)
   rw[t] at g
   let(N,o,r,s,e,i,j,d,A,B,Q,C):=I (L:=L++[QB m ba k q]) (w:=w++[QB m ba k q]) (f:=λx=>if x=QB m ba k q then D.lA else f x) (s5:=.i q) (s6:=.sh (vA (QB m ba k q))) (by simp;lia) (by simp;lia)
    (UK.mpr #[v,by simp,λx b y K z=>a (by rw[qD] at K;subst K z;exact b)]) rfl rfl
   refine#[QB m ba k q::N,o,r,s, ?_,i,j, ?_,λx b=>?_,λp c=>?_,by simp;lia,λx b=>(C x (aF _ b)).trans (if_neg λz:x=QB m ba k q=>a (z ▸ b))]
   .rw[vB]
    have:=Y8 (W:=W) (n:=n) (hA:=hA) (d0:=d0) (s4:=s4) (s5:=.i q) (Lw:=w.map vA) u cG (UB (by rw[pA];lia)) (UB (by rw[pA];lia)) (λ_=>g)
    rw[RA (show(!false)=bA from rfl)] at this;erw[pD,J];rw[show JA T.cA (run T W n) W BM (iF hA d0 (L,w,f,s4,.i q,.sh (vA (QB m ba k q))))=aA (.nx,iF hA d0 (L++[QB m ba k q],w++[QB m ba k q],λx=>if x=QB m ba k q then D.lA else f x,s4,.i q,.sh (vA (QB m ba k q)))) from this.trans (by unfold iF;rw[iD (l₁:=w)];rfl)];rw[oI,oI] at e;exact e
   .rw[oI] at d;exact d
   .rcases jD.mp b with rfl | b
    .exact#[q,OF,rfl]
    .let(p,c,h):rA:=A x b;exact#[p,QD _ c,h]
   .rcases jD.mp c with rfl | c
    .simp
    .have:=B p c;rw[oI] at this;exact this
structure CV(no ba:Int)(m kn:Nat)(ps:List RP)(s0:L2.xB)(a:CS):Prop where
 nd:a.1.Nodup
 le:a.1.length<=157
 wn:a.2.1.Nodup
 sub:∀k∈a.2.1,k∈a.1
 vk:∀k∈a.1,VK no ba m k/\VH (uD kn ps) (QB m ba) s0 k
 s0:s0∈a.1
 cl:∀k∈a.1,k ∉ a.2.1->∀q∈uD kn ps k,QB m ba k q∈a.1
 vl:∀k∈a.1,k ∉ a.2.1->a.2.2.1 k=.l (IC m ba kn ps k)
 o4:SA a.2.2.2.1=bA
 o5:SA a.2.2.2.2.1=bA
 o6:SA a.2.2.2.2.2=bA
def CV.wl(h:CV no ba m kn ps s0 a):a.2.1.length<=157:=dD (E2 h.wn h.sub) h.le
def aA2{w:List L2.xB}:PB .NotEq (.l (w.map vA)) (.l [])=aA (!w.isEmpty):=by
 have a:eC 20 (.l (w.map vA))=bA:=bF.mpr λd hd=>by
  let(k,_,b):rA:=pE.mp hd
  obtain rfl:=b;show(bA&&((k.2.map D.int).all (eC 17)&&bA))=bA;rw[WU];rfl
 have c:eC 20 (.l [])=bA:=rfl;show(if eC 20 (.l (w.map vA))&&eC 20 (.l []) then aA (!uG (.l (w.map vA)) (.l [])) else eA)=_;rw[a,c];cases w<;>rfl
def MX:ev P C bA (.and (.BA .NotEq (.v 3) (.l [])) (.BA .LtE (.bif .len [.v 2]) (.c (.int 150)))) (iF hA d0 a)=some (.ok (.b (!a.2.1.isEmpty&&decide ((a.1.length:Int)<=150))),iF hA d0 a):=by
 have b:=aA2 (w:=a.2.1);have c:WD .len [mD a.1 a.2.2.1]=aA (.i a.1.length):=by unfold mD;rw[AX,pA]
 unfold iF
 exists mD a.1 a.2.2.1,d
 exists a.2.1.map vA,l
 exists (a.1.length:Int),z
 cases e:a.2.1.isEmpty with
 |true=>rw[e] at b;clear e;right
 |false=>rw[e] at b;clear e;right
theorem mr(H:HD hA no ba m kn ps){a:CS}(hd:CV no ba m kn ps s0 a)(I:a.2.1≠[])(J:a.1.length<=150) :
  ∃b,JA T.cA (run T W (n+5)) W UN (iF hA d0 a)=aA (.nx,iF hA d0 b)/\CV no ba m kn ps s0 b/\2*(200-b.1.length)+b.2.1.length<2*(200-a.1.length)+a.2.1.length:=by
 have s:=hd.wl;let(L,ws,f,t4,t,u):=a;let(K,le,j,sub,p,M,cl,O,o4,P,Q):=hd
 dsimp only at *
 rcases Tj ws with rfl | ⟨w,k,rfl⟩
 .exact absurd rfl I
 rw[Uj] at *
 have hk:k∈L:=sub k (by simp)
 have v:k ∉ w:=λz=>by(rw[UK] at j;exact j.2.2 k z k (by simp) rfl)
 have h7:(uD kn ps k).length<=7:=dD uL H.k7;rw[RC,qN] at s;let(R,X):=sLa (d:=.l (IC m ba kn ps k)) hk;let(N,r,A,B,e,Y,Z,g,h1,h2,h3,h4):=lr (ba:=ba) (hA:=hA) (n:=n+5) (w:=w) (f:=λx=>if x=k then .l (IC m ba kn ps k) else f x) (s4:=.sh (vA k)) (s5:=t) (s6:=u) (k:=k) (l:=uD kn ps k) () () K P Q
 have hN:∀x∈N,x ∉ L:=λx c z=>by(rw[UK] at g;exact g.2.2 x z x c rfl)
 refine#[(L++N,w++N,r,.sh (vA k),A,B), ?_,#[g,by simp;lia, ?_,λx c=>?_,λx c=>?_,aF _ M,λx c h q i=>?_,λx c h=>?_,rfl,Y,Z],by simp;lia]
 .have hp:((w++[k]).map vA)[((w++[k]).map vA).length-1]?=aA (vA k):=by simp
  have i:((w++[k]).map vA).dropLast=w.map vA:=by simp
  have C:=fTa (W:=W) (n:=n) H (p k hk).1;rw[lQa] at C
  have aVa:∀{U:Env},EK 2 U (aA (.o (mD L f))) (aA (.inl k)) (.ow (.l (IC m ba kn ps k)))=aA (.nx,U.set 2 (.o (mD L λx=>if x=k then .l (IC m ba kn ps k) else f x))):=λ{U}=>by(refine(lN (UB (by rw[pA];lia))).trans ?_;rw[R];show aA (Fl.nx,U.set 2 (.o (.aB _ (aE _ _ _ (.l _)))))=_;rw[X];rfl)
  have hix:GD (aA (mD L λx=>if x=k then .l (IC m ba kn ps k) else f x)) (vA k)=aA (.sh (.l (IC m ba kn ps k))):=by(refine PQ cG ?_;rw[eR (f:=λx=>if x=k then .l (IC m ba kn ps k) else f x) hk,RA rfl])
  have Nx:=cG (k:=k);have hds:wO (aA (.o (mD L f)))=bA:=rfl;have Vw:vO (aA (.o (mD L f)))=dA:=rfl;have how:TM (aA (.o (mD L f)))=dA:=rfl;have hi:∀{U:Env} {F:List D},aAb .of [.val (.sh (.l F))] U=aA (F,eA):=λ{U F}=>rfl
  replace e:pD (eB dA [5,6]) (JA T.cA (run T W (n+5)) W BM) (IC m ba kn ps k) [.sh hA,.sh d0,.o (mD L λx=>if x=k then .l (IC m ba kn ps k) else f x),.o (.l (w.map vA)),.sh (vA k),t,u]=aA (.nx,iF hA d0 (L++N,w++N,r,.sh (vA k),A,B)):=e;show JA T.cA (run T W (n+5)) W UN [.sh hA,.sh d0,.o (mD L f),.o (.l ((w++[k]).map vA)),t4,t,u]=_
  exists iF hA d0 (L++N,w++N,r,.sh (vA k),A,B),Ue
  exists mD L (λx=>if x=k then D.l (IC m ba kn ps k) else f x),d2
  exists mD L f,d1
  exists (w++[k]).map vA,l1
  exists w.map vA,l2
  exists IC m ba kn ps k,F
  exists vA k,dk
  unfold UN;clear H K le j sub p M cl O P Q hk v R X g h1 h2 h3 h4 hN I Y Z
  right
 .rw[UK] at j g ⊢;exact#[j.1,g.2.1,λx c y hy z=>hN y hy (z ▸ sub x (aF _ c))]
 .rcases QE.mp c with c | c
  .exact aF _ (sub x (aF _ c))
  .exact MG _ c
 .rcases QE.mp c with c | c
  .exact p x c
  .let(q,i,i):rA:=h1 x c
   obtain rfl:=i;exact#[V9 H (p k hk).1 i,.step (p k hk).2 i]
 .have nx:x ∉ N:=λz=>h (MG _ z)
  rcases QE.mp c with c | c
  .by_cases e:x=k
   .subst e;exact h2 q i
   .exact aF _ (cl x c (λz=>(QE.mp z).elim (λz=>h (aF _ z)) λz=>e (qD.mp z)) q i)
  .exact absurd c nx
 .rcases QE.mp c with c | c
  .show r x=_;rw[h4 x c];by_cases e:x=k
   .subst e;exact RA rfl
   .rw[if_neg e];exact O x c λz=>(QE.mp z).elim (λz=>h (aF _ z)) λz=>e (qD.mp z)
  .exact absurd (MG _ c) h
theorem rr(H:HD hA no ba m kn ps)(j:VK no ba m s0):∃L f,run T (W+1300) (n+6) "Q" [.sh hA,.sh (vA s0)]=some (.ok (.ow (mD L f)),[.sh hA,.sh (vA s0)])/\(150<L.length/\sM m ba kn ps s0\/UD no ba m kn ps s0 L/\mD L f=oC m ba kn ps L):=by
 have key:=K5 (test:=ev T.cA (run T (W+1300) (n+5)) bA (.and (.BA .NotEq (.v 3) (.l [])) (.BA .LtE (.bif .len [.v 2]) (.c (.int 150))))) (body:=JA T.cA (run T (W+1300) (n+5)) (W+1300) UN) (bx:=λ_=>eA)
  (iF hA (vA s0)) (CV no ba m kn ps s0) (λa=>a.2.1=[]\/150<a.1.length) (λa=>2*(200-a.1.length)+a.2.1.length) #["",eA] False (λa l=>by
   by_cases c:a.2.1=[]
   .exact .inl #[.inl c,by rw[MX,c];rfl]
   .by_cases p:a.1.length<=150
    .refine .inr #[by rw[MX,zB ()];cases e:a.2.1<;>first | exact absurd e c | rfl,.inl (mr H l c p)]
    .exact .inl #[.inr (),by rw[MX,dB (),kW]]) (W+1300) ([s0],[s0],λ_=>.lA,.un,.un,.un)
   #[by simp,by simp,by simp,λk hk=>hk,λk hk=>by rw[qD.mp hk];exact#[j,.start],by simp,λk hk d=>absurd hk d,λk hk d=>absurd hk d,rfl,rfl,rfl] (by show 2*(200-1)+1<W+1300;lia)
 obtain⟨⟨L,i,f,q,r,s⟩,b,hd,g⟩ | ⟨z,_⟩:=key
 case inr=>exact z.elim
 refine#[L,f, ?_, ?_]
 .have t:yT (jE (vA s0)) (.sh .lA)=λU=>some (.ok (.ow (mD [s0] λ_=>.lA)),U):=by rw[cG];rfl
  replace g:GF (ev T.cA (run T (W+1300) (n+5)) bA (.and (.BA .NotEq (.v 3) (.l [])) (.BA .LtE (.bif .len [.v 2]) (.c (.int 150))))) (JA T.cA (run T (W+1300) (n+5)) (W+1300) UN) (W+1300) [.sh hA,.sh (vA s0),.o (mD [s0] λ_=>.lA),.o (.l [vA s0]),.un,.un,.un]=aA (.nx,[.sh hA,.sh (vA s0),.o (mD L f),.o (.l (i.map vA)),q,r,s]):=g
  exists DY
  exists mD [s0] (λ_=>D.lA),u
  exists mD L f,v
  exists i.map vA,x
  exists vA s0,y
  right
 .by_cases h:150<L.length
  .exact .inl #[h,L.take 151,(Gk _ _).nodup b.nd,by rw[SJ];exact qS h,λk hk=>(b.vk k (j6 hk)).2]
  .have c:i=[]:=hd.resolve_right h;have d:∀k,k ∉ i:=λk z=>by rw[c] at z;cases z
   refine .inr #[#[b.nd,bW h,b.vk,b.s0,λk hk=>b.cl k hk (d k)], ?_];unfold mD oC;congr 1;exact ZR λk hk=>b.vl k hk (d k)
end
theorem vf:∀{l:List (L2.MB×D)} {a:List L2.MB} {b:List D},(a++l.map (·.1)).Nodup->aAw l (a,b)=(a++l.map (·.1),b++l.map (·.2))
 |[],a,b,_=>by rw[LJ,LJ,RD,RD];rfl
 |p::l,a,b,h=>by
  have e:aAw (p::l) (a,b)=aAw l (yE a p.1,aE a b p.1 p.2):=rfl;rw[vB] at h
  have d:AI a p.1=dA:=by
   cases c:AI a p.1 with
   |false=>rfl
   |true =>
    let(x,d,f):=List.any_eq_true.mp c;exact absurd rfl ((UK.mp h).2.2 _ (lP f ▸ d) p.1 OF)
  rw[e,vB,vB];unfold yE aE;rw[d,if_neg OE,if_neg OE,vf (by rw[oI];exact h),oI,oI];rfl
def zMa(b:a.Nodup):WD .dict [.l (a.map λk=>.t [vA k,.int 1])]=aA (.sh (wB a λ_=>1)):=by
 have h:zL (a.map λk=>.t [vA k,.int 1])=aA (a.map λk=>(.inl k,.int 1)):=by
  clear b
  induction a with
  |nil=>rfl
  |cons k a c =>
   rw[vB,vB];show(ZQ (.t [vA k,.int 1])).bind (λq=>(zL _).map (q :: ·))=_;rw[c];show((jE (vA k)).map _).bind _=_;rw[cG];rfl
 rw[sv h,vf]
 .rw[tP,tP,zH,zH];rfl
 .rw[tP,zH];exact List.pairwise_map.mpr (b.imp λh z=>h (BP z))
section
variable{ks:List L2.xB}
theorem A':GD (aA (.l (l++[d]))) (.int (-1))=aA (.sh d):=by
 show(eT (l++[d]) (-1)).map _=_;unfold eT L2.sC L2.DF;simp;rw[RA (),show(-1+((l.length:Int)+1)).toNat=l.length by lia];simp
def oQa{l:List Int}(h:∀q∈l,g q∈ks) :
  ∃a b,nE (MC T.cA (run T W n) []) (ev T.cA (run T W n) dA CT) (eB dA [2,3]) (l.map (qH g)) [] [.p (.l (R++[wB ks r])),.un,.un,.un]=some (.ok (l.map λq=>.int (r (g q))),[.p (.l (R++[wB ks r])),.un,a,b]):=by
 let(v,e,a,b,rfl,_,_):=mQ (P:=T.cA) (C:=run T W n) (lC:=ev T.cA (run T W n) dA CT) (bind:=eB dA [2,3]) (ds:=l.map (qH g))
  (λx=>match x with | .t [.int q,_]=>.int (r (g q)) | _=>.lA) (λU=>∃a b,U=[.p (.l (R++[wB ks r])),.un,a,b]/\SA a=bA/\SA b=bA)
  (λx f U i=>by
   let(a,b,rfl,j,k):=i;let(q,m,rfl):=pE.mp f;have o:=CU (r:=r) (h q m);have s:=A' (l:=R) (d:=wB ks r);refine#[[.p (.l (R++[wB ks r])),.un,.i q,.sh (vA (g q))],.i (r (g q)),[.p (.l (R++[wB ks r])),.un,.i q,.sh (vA (g q))],by unfold qH;erw[iC,LB j,LB k]<;>rfl, ?_,rfl,_,_,rfl,rfl,rfl];unfold CT
   exists R++[wB ks r],y
   exists wB ks r,A
   exists vA (g q),B
   exists (r (g q):Int),z
   fail "!wG pA")
  (U:=[.p (.l (R++[wB ks r])),.un,.un,.un]) #[_,_,rfl,rfl,rfl]
 have c:(l.map (qH g)).map (λx=>match x with | .t [.int q,_]=>D.int (r (g q)) | _=>.lA)=l.map λq=>.int (r (g q)):=by rw[zH];rfl
 rw[c] at e;exact#[a,b,e]
def vFa:∃t,nE (MC T.cA (run T W n) []) (ev T.cA (run T W n) dA zT) (eB bA [1]) (ks.map vA) [] [.un,.un]=some (.ok (ks.map λk=>.t [vA k,.int 1]),[.un,t]):=by
 let(f,e,t,rfl,_):=mQ (P:=T.cA) (C:=run T W n) (lC:=ev T.cA (run T W n) dA zT) (bind:=eB bA [1]) (ds:=ks.map vA)
  (λx=>.t [x,.int 1]) (λU=>∃t,U=[.un,t]/\SA t=bA)
  (λx g U a=>by
   let(t,rfl,b):=a;refine#[[.un,.sh x],.sh (.t [x,.int 1]),[.un,.sh x],by erw[iC,LB b]<;>rfl, ?_,rfl,_,rfl,rfl];unfold zT
   fail "!wG pA")
  (U:=[.un,.un]) #[_,rfl,rfl]
 rw[zH] at e;exact#[t,e]
theorem zr(s:UD no ba m a b s0 ks)(M:a<=7){N:Nat}(hN:N<=40) :
  "S"|||n+2|||[.sh (oC m ba a b ks),.i N]|||.ow (.l (wD m ba a b ks (N+1))):=by
 have K:∀{U:Env},aAb .key [.val (.sh (oC m ba a b ks))] U=aA (ks.map vA,eA):=λ{U}=>by unfold oC;rw[wb,zH];rfl
 have u:=s.le;let(t,O):=vFa (W:=W) (n:=n+1) (ks:=ks);have C:=zMa s.nd;have i:fB (ks.map λk=>D.t [vA k,.int 1]).length=bA:=UB (by rw[pA];lia)
 let(U',e2,v,A,B,rfl,x,y,F):=lH (bind:=eB bA [4]) (body:=JA T.cA (run T W (n+1)) W hX)
  (λpre U=>∃v A B,U=[.sh (oC m ba a b ks),.i N,v,.o (.l (wD m ba a b ks (pre.length+1))),A,B]/\SA v=bA/\SA A=bA/\SA B=bA)
  (ds:=rg N) (λpre d post p U hU=>by
   let(v,A,B,rfl,x,y,F):=hU;let(rfl,hj):=hV p
   let(P,e3,Q):=tY (r:=aAf m ba a b (pre.length+1)) (j:=2) (E:=λr t=>[.sh (oC m ba a b ks),.i N,t,.o (.l (wD m ba a b ks (pre.length+1))),.i pre.length,r]) (body:=JA T.cA (run T W (n+1)) W gX) (t:=v) s.nd x (λr t d ht=>by erw[iC,LB ht]<;>rfl) (λk hk c hl=>by
    have Qx:GD (aA (oC m ba a b ks)) (vA k)=aA (.sh (.l (IC m ba a b k))):=PQ cG (eR (f:=λk=>.l (IC m ba a b k)) hk);have X:wD m ba a b ks (pre.length+1)=wD m ba a b ks pre.length++[wB ks (aAf m ba a b pre.length)]:=by unfold wD;rw[eM,iD];rfl
    let(t2,t3,Y):=oQa (W:=W) (n:=n+1) (R:=wD m ba a b ks pre.length) (r:=aAf m ba a b pre.length) (g:=QB m ba k) (l:=uD a b k) (λq hq=>s.cl k hk q hq);rw[<- X] at Y;have H:∀{U:Env},aAb .of [.val (.sh (.l (IC m ba a b k)))] U=aA (IC m ba a b k,eA):=λ{U}=>rfl
    have I:(uD a b k).length<=7:=dD uL M;have z:=P9 (l:=uD a b k) (f:=λq=>aAf m ba a b pre.length (QB m ba k q));have J:fB ((uD a b k).map λq=>D.int (aAf m ba a b pre.length (QB m ba k q))).length=bA:=UB (by rw[pA];lia);have Z:∀{U:Env},EK 5 U (aA (.o (wB c (aAf m ba a b (pre.length+1))))) (aA (.inl k)) (.i (aAf m ba a b (pre.length+1) k:Nat))=aA (.nx,U.set 5 (.o (.aB (yE (c.map .inl) (.inl k)) (aE (c.map .inl) (c.map λk=>.int (aAf m ba a b (pre.length+1) k)) (.inl k) (.int (aAf m ba a b (pre.length+1) k:Nat)))))):=λ{U}=>lN (UB (by rw[pA];lia))
    have Nx:=cG (k:=k);have p:wO (aA (.o (wB c (aAf m ba a b (pre.length+1)))))=bA:=rfl;have Vw:vO (aA (.o (wB c (aAf m ba a b (pre.length+1)))))=dA:=rfl;have how:TM (aA (.o (wB c (aAf m ba a b (pre.length+1)))))=dA:=rfl;change WD .sum _=aA (.i (aAf m ba a b (pre.length+1) k:Nat)) at z;change nE _ _ _ (IC m ba a b k) _ _=_ at Y
    exists yE (c.map .inl) (.inl k),K1
    exists aE (c.map .inl) (c.map λk=>D.int (aAf m ba a b (pre.length+1) k)) (.inl k) (D.int (aAf m ba a b (pre.length+1) k:Nat)),K2
    exists vA k,dk
    exists wB c (aAf m ba a b (pre.length+1)),d1
    exists (aAf m ba a b (pre.length+1) k:Int),cv
    exists ((uD a b k).map λq=>D.int (aAf m ba a b pre.length (QB m ba k q))),FS
    exists wD m ba a b ks (pre.length+1),R1
    exists oC m ba a b ks,dS
    exists IC m ba a b k,dF
    unfold gX;clear K hk hl O C x y F X I i
    fail "!wG pA"
    rw[mF H]
    fail "!wG pA")
   refine#[_,by erw[iC,LB y]<;>rfl,[.sh (oC m ba a b ks),.i N,P,.o (.l (wD m ba a b ks (pre.length+1)++[wB ks (aAf m ba a b (pre.length+1))])),.i pre.length,.sh (wB ks (aAf m ba a b (pre.length+1)))], ?_,P,.i pre.length,.sh (wB ks (aAf m ba a b (pre.length+1))), ?_,Q,rfl,rfl]
   .have J:fB ((wD m ba a b ks (pre.length+1)).length+1)=bA:=UB (by unfold wD;simp;lia)
    exists wB ks (aAf m ba a b (pre.length+1)),d2
    exists wD m ba a b ks (pre.length+1),R1
    exists oC m ba a b ks,dS
    exists ks.map vA,L1
    unfold hX;clear O C x p Q i y s
    fail "!wG pA"
   .rw[RC,qN];unfold wD;rw[eM (n:=pre.length+1),iD]
    rfl)
  (U:=[.sh (oC m ba a b ks),.i N,.un,.o (.l [wB ks (aAf m ba a b 0)]),.un,.un]) #[_,_,_,rfl,rfl,rfl,rfl]
 rw[pA,TK] at e2;have hr:aAb .IB [.slot 1] [.sh (oC m ba a b ks),.i N,.un,.o (.l [wB ks (aAf m ba a b 0)]),.un,.un]=aA (rg N,eA):=WM (U:=[]) ();change WD .dict _=aA (.sh (wB ks (aAf m ba a b 0))) at C
 exists EY
 exists wD m ba a b ks (N+1),R1
 exists wB ks (aAf m ba a b 0),d2
 exists oC m ba a b ks,dS
 exists (ks.map λk=>D.t [vA k,.int 1]),F0
 exists ks.map vA,L1
 exists (rg N),L2
 clear s u hN M x y F
 fail "!wG pA"
 rw[mF K]
 fail "!wG pA"
 rw[pL rfl]
 fail "!wG pA"
end
abbrev II(a:List Int):Sl:=.p (.l (a.map D.int))
def sr{bind:D->Env->Option Env}(keep:D->Bool)(val:D->D)(J:Env->Prop)
  (step:∀d∈ds,∀U,J U->∃c b,bind d U=aA c/\tests c=some (.ok (.b (keep d)),b)/\(keep d=bA->∃v f,lC b=some (.ok v,f)/\v.d=val d/\J f)/\(keep d=dA->J b)) (h:J U) :
  ∃g,nE tests lC bind ds [] U=some (.ok ((ds.filter keep).map val),g)/\J g:=by
 obtain⟨a,g,e,⟨rfl,i⟩,_⟩:=gK (λj a U=>a=((ds.take j).filter keep).map val/\J U)
  (λj d hd a U l=>by
   let(k,i):=l;let(c,b,m,n,o,p):=step d (xH hd) U i;refine#[c,keep d,b,m,n,λhk=>?_,λhk=>#[?_,p hk]]
   .let(v,f,q,r,s):=o hk;refine#[v,f,q, ?_,s];rw[k,r,aW,hd];simp[iP,hk]
   .rw[k,aW,hd]
    simp[iP,hk]) [] U #[by simp,h]
 refine#[g, ?_,i];rw[e,rP]
def aA6{F:List Int}{i:Int}(b:0<=i)(c:i<F.length):∃q,GD (aA (.l (F.map D.int))) (.int i)=aA (.i q)/\q∈F:=by
 obtain⟨j,rfl⟩:∃j:Nat,i=(j:Int):=#[i.toNat,by lia]
 have a:j<F.length:=by lia
 exact#[F[j],DU (by rw[ND,OC a];rfl),dW a]
def xCa{F:List Int}:PB .NotEq (.l (F.map D.int)) (.l [])=aA (!F.isEmpty):=by
 have a:eC 20 (.l (F.map D.int))=bA:=WU (n:=19);have b:eC 20 (.l [])=bA:=rfl;show(if eC 20 (.l (F.map D.int))&&eC 20 (.l []) then aA (!uG (.l (F.map D.int)) (.l [])) else eA)=_;rw[a,b];cases F<;>rfl
section
variable{k s:Int}
def iAa(H:HD e no ba m f a)(c:wK a b=bA)(d:qC a b q=bA):wK a (b++[q])=bA:=by
 let(oc,fs,rs,rfl,H):=H;rw[hAa λp hp=>(H.hp p hp).pre,c,QH];show(nC 1).all _=bA;rw[List.range_one,DC,u7,mW,Y6,RD];exact d
def Tv(H:HD a no ba m d b)(c:In no (xs++[q])):"h"|||n+4|||[.sh a,II (xs++[q])]|||.b (qC b xs q):=by
 let(oc,fs,rs,rfl,H):=H;exact ia H.wL H.hp c
abbrev xG(k s:Int):Sl:=.p (.l [.int k,.int s])
theorem some_of(H:HD a no ba m f c)(l:Ln no c xs)(u:xs.length<=900) :
  ∃d,nE (MC T.cA (run T W (n+4)) [(.call "h" [(.v 0),(.wA .Add (.v 1) (.l [(.v 3)]))])]) (ev T.cA (run T W (n+4)) dA DT) (eB bA [3]) (rg f) [] [.sh a,II xs,.un,.un]=some (.ok ((WC f (qC c xs)).map D.int),d)/\∃t,d=[.sh a,II xs,.un,t]/\SA t=bA:=by
 have hk:=H.hk
 let(d,e,h):=sr (tests:=MC T.cA (run T W (n+4)) [(.call "h" [(.v 0),(.wA .Add (.v 1) (.l [(.v 3)]))])]) (lC:=ev T.cA (run T W (n+4)) dA DT) (bind:=eB bA [3]) (ds:=rg f) (λx=>match x with | .int q=>qC c xs q | _=>dA) id (λU=>∃t,U=[.sh a,II xs,.un,t]/\SA t=bA)
  (λx hx U o=>by
   let(t,rfl,p):=o;let(j,i,rfl):=pE.mp hx;have i:=GJ.mp i;have r:=Tv (W:=W) (n:=n) (xs:=xs) (q:=(j:Int)) H (l.hx.app (In.one #[by lia,by lia]))
   have v:kC .Add (.l (xs.map D.int)) (.l [.int j])=aA (.ow (.l ((xs++[(j:Int)]).map D.int))):=by(rw[zM (YE (by simp;lia)),aQ])
   refine#[_,[.sh a,II xs,.un,.i j],by erw[iC,LB p]<;>rfl, ?_,λ_=>#[.i j,[.sh a,II xs,.un,.i j], ?_,rfl,_,rfl,rfl],λ_=>#[_,rfl,rfl]]
   .dsimp only
    unfold II at *
    exists qC c xs (j:Int),b
    exists (xs++[(j:Int)]).map D.int,Y
    exists (j:Int),y
    exists xs.map D.int,X
    fail "!pA"
   .unfold DT
    fail "!pA") (U:=[.sh a,II xs,.un,.un]) #[_,rfl,rfl]
 refine#[d, ?_,h];rw[e,List.map_id,U6]
 congr 3
 exact T9 (ok:=qC c xs)
end
section
variable{k s:Int}
theorem cTa(H:HD y no ba m b c)(l:Ln no c a)(v:a.length<=900)(Q:SA I=bA) :
  ∃x J z,JA T.cA (run T W (n+4)) W jQ [.sh y,xG k s,.i M,.o (.l (a.map D.int)),.sh d4,I]=aA (.nx,[.sh y,xG k J,.i M,.o (.l (x.map D.int)),.sh d4,z])/\SA z=bA/\Ln no c x/\x.length<=a.length+1:=by
 have hk:=H.hk;have k7:=H.k7;have i0:=H.i0;let(R,e,t,rfl,A):=some_of (W:=W) (n:=n) H l v;have B:∀{U:Env},aAb .IB [.val (.i no)] U=aA (rg b,eA):=λ{U}=>by rw[hk];exact WM ()
 have g:(WC b (qC c a)).length<=7:=dD uL k7;have h:=xCa (F:=WC b (qC c a));have K:fB ((WC b (qC c a)).map D.int).length=bA:=UB (by rw[pA];lia)
 cases eF:(WC b (qC c a)).isEmpty with
 |true =>
  rw[eF] at h;refine#[a,s,.o (.l ((WC b (qC c a)).map D.int)), ?_,rfl,l,by lia]
  unfold II at *
  exists (WC b (qC c a)).map D.int,F
  exists (rg b),N
  exists a.map D.int,X
  unfold jQ;clear H l hk k7 g eF v A
  fail "!pA"
  rw[mF B]
  fail "!pA"
 |false =>
  rw[eF] at h
  have p:0<(WC b (qC c a)).length:=by
   cases e0:WC b (qC c a) with
   |nil=>rw[e0] at eF;cases eF
   |cons=>simp
  have O:=YX (W:=W) (n:=n+3) (k:=k) (s:=s) (m:=((WC b (qC c a)).length:Int)) () ();let(q,Y,d):=aA6 (F:=WC b (qC c a)) (i:=EH k s ((WC b (qC c a)).length:Int)) (XX ()) (WX ());have r:=U9 d
  have u:qC c a q=bA:=by(unfold WC at d;let(j,P,rfl):=pE.mp d;exact(vN.mp P).2)
  refine#[a++[q],IM k s ((WC b (qC c a)).length:Int),.o (.l ((WC b (qC c a)).map D.int)), ?_,rfl,#[l.hx.app (In.one #[r.1,by lia]),by simp;lia,iAa H l.hb u],by simp];have Z:fB ((a.map D.int).length+1)=bA:=UB (by rw[pA];lia);have C:(((WC b (qC c a)).map D.int).length:Int)=((WC b (qC c a)).length:Int):=by rw[pA]
  rw[<- aQ]
  unfold II at *
  exists EH k s ((WC b (qC c a)).length:Int),dv
  exists IM k s ((WC b (qC c a)).length:Int),ds
  exists ((WC b (qC c a)).length:Int),fl
  exists (WC b (qC c a)).map D.int,F
  exists (rg b),N
  exists a.map D.int,X
  unfold jQ;clear H l hk k7 g eF v A r u p d
  fail "!pA"
  rw[mF B]
  fail "!pA"
theorem dTa(H:HD h no ba m J u)(M:0<=a)(N:a<=80):∃b f,run T W (n+5) "R" [.sh h,xG k s,.i a]=some (.ok (.ow (.l (b.map D.int))),[.sh h,xG k f,.i a])/\Ln no u b/\b.length<=80:=by
 have y:=YX (W:=W) (n:=n+3) (k:=k) (s:=s) (m:=a+1) () ();obtain⟨c,v⟩:∃c:Nat,EH k s (a+1)=(c:Int):=#[(EH k s (a+1)).toNat,by have:=XX (k:=k) (s:=s) (m:=a+1) ();lia]
 have p:c<=80:=by have:=WX (k:=k) (s:=s) (m:=a+1) ();lia
 have K:∀{U:Env},aAb .IB [.val (.i (EH k s (a+1)))] U=aA (rg c,eA):=λ{U}=>by rw[v];exact WM ()
 let(O,e,b,f,i,j,rfl,q,r,l,g):=lH (bind:=eB bA [4]) (body:=JA T.cA (run T W (n+4)) W jQ)
  (λpre U=>∃b f i j,U=[.sh h,xG k f,.i a,.o (.l (b.map D.int)),i,j]/\SA i=bA/\SA j=bA/\Ln no u b/\b.length<=pre.length)
  (ds:=rg c) (λpre d post t U z=>by
   let(b,f,i,j,rfl,q,r,l,g):=z;let(rfl,P):=hV t;let(A,B,Q,e,C,F,Y):=cTa (W:=W) (n:=n) (k:=k) (s:=f) (d4:=.int pre.length) H l () r
   exact#[_,by erw[iC,LB q]<;>rfl,_,e,A,B,_,_,rfl,rfl,C,F,by rw[RC,qN];lia])
  (U:=[.sh h,xG k (IM k s (a+1)),.i a,.o (.l []),.un,.un]) #[[],_,_,_,rfl,rfl,rfl,#[λx g=>(by cases g),by simp,rfl],by simp]
 refine#[b,f, ?_,l,by rw[pA,TK] at g;lia]
 exists OY
 exists (rg c),Z
 exists EH k s (a+1),dv
 exists IM k s (a+1),ds
 exists b.map D.int,X
 clear H l g q r v p
 fail "!pA"
end
def dPa{c:Nat}:nN (aA (.t a)) eA (aA (.int c))=aA (.sh (.t (a.take c))):=by
 show aA (RV.sh (.t (aAz a eA (aA (c:Int)))))=_;unfold aAz;rw[HT.mV,HT.i4,X6,Nat.sub_zero];by_cases h:c<=a.length
 .rw[qS h]
 .rw[Nat.min_eq_right (),bL (uB _),bL ()]
def sPa{k s:Int}:∃Q no ba oc fs rs,run T W (n+4) "M" [.p (.l [.int k,.int s])]=some (.ok (.sh ∅),[.p (.l [.int k,.int Q])])/\VG no ba oc fs/\rs.length<=8/\∀d∈rs,ZG no ba oc (fs.length:Int) d:=by
 rw[DR (fn:=tL) rfl rfl rfl];have e:=@XN W (n+2) k;let(g0,Y,w0,d0):=e (s:=s) (m:=9) ();by_cases hg:g0=0
 .subst hg;let(Q,no,ba,oc,fs,rs,eh,ho,g,l):=Dx (k:=k) (s:=Y);refine#[Q,no,ba,oc,fs,rs.take 4, ?_,ho,by rw[SJ];lia,λd hd=>l d (j6 hd)];have hsl:nN (aA ∅) eA (aA (.int 4))=aA (.sh (.t [.int no,.int ba,.int oc,.t (fs.map toD)])):=rfl;have j4:GD (aA ∅) (.int 4)=aA (.sh (.t rs)):=Gb;have lU:nN (aA (.t rs)) eA (aA (.int 4))=aA (.sh (.t (rs.take 4))):=dPa (c:=4);have qUa:aH .Add (.val (.sh (.t [.int no,.int ba,.int oc,.t (fs.map toD)]))) (aA (.t [.int no,.int ba,.int oc,.t (fs.map toD)])) (aA (.t [.t (rs.take 4)]))=aA (.sh (rO no ba oc fs (rs.take 4))):=l8 (UB (by simp));have c0:decide ((0:Int)=0)=bA:=rfl;replace eh:run T W (n+3) "A" [.p (.l [.int k,.int Y])]=some (.ok (.sh ∅),[.p (.l [.int k,.int Q])]):=eh;unfold tL
  exists rO no ba oc fs (rs.take 4),h2
  exists ∅,h1
  exists D.t (rs.take 4),r2
  exists [D.int no,.int ba,.int oc,.t (fs.map toD)],h4
  clear ho g l e w0
  right
 .let(v1,s2,w1,d1):=e (s:=Y) (m:=4) ();let(R,s3,w2,d2):=e (s:=s2) (m:=3) ();let(X,s4,w3,d3):=e (s:=s3) (m:=12) ();let(v4,Z,w4,d4):=e (s:=s4) (m:=3) ();have c0:decide (g0=0)=dA:=dB hg
  have hA:JA T.cA (run T W (n+3)) W (tL.body.take 6) ([.p (.l [.int k,.int s])]++qB tL.nl .un)=aA (.nx,[.p (.l [.int k,.int Z]),.un,.i (1+v1),.i (1+R),.i (1+X),.i (1+v4),.o (.l []),.un,.un]):=by
   unfold tL
   right
  rw[JT hA];have y:1<=1+v1/\1+v1<=7:=by lia
  have B:1<=1+R/\1+R<=4:=by lia
  have C:1<=1+X/\1+X<=12:=by lia
  have n4:1<=1+v4/\1+v4<=3:=by lia
  exists 1+v1,no
  exists 1+R,ba
  exists 1+X,oc
  exists 1+v4,ma
  have px:aAb .IB [.slot 5] [.p (.l [.int k,.int Z]),.un,.i no,.i ba,.i oc,.i ma,.o (.l []),.un,.un]=aA (rg ma.toNat,eA):=HI rfl () ()
  let(U1,aY,H,fs,i,rfl,x,g,I):=lH (bind:=eB bA [7]) (body:=JA T.cA (run T W (n+3)) W mX)
   (λpre U=>∃H fs i,U=[.p (.l [.int k,.int H]),.un,.i no,.i ba,.i oc,.i ma,.o (.l (fs.map toD)),i,.un]/\SA i=bA/\fs.length=pre.length/\∀f∈fs,0<=f.1/\f.1<=4/\-12<=f.2.1/\f.2.1<=12)
   (ds:=rg ma.toNat) (λpre d post j U hU=>by
    let(H,fs,i,rfl,x,g,I):=hU
    have r:pre.length<ma.toNat:=by
     have:=congrArg GG j
     simp at this
     lia
    refine#[_,by erw[iC,LB x]<;>rfl, ?_];have qK:fB ((fs.map toD).length+1)=bA:=UB (by simp;lia);let(a,u1,ha,c1):=e (s:=H) (m:=3) ();let(b,u2,hb,c2):=e (s:=u1) (m:=25) ();let(t,u3,_,c3):=e (s:=u2) (m:=4) ();refine#[[.p (.l [.int k,.int u3]),.un,.i no,.i ba,.i oc,.i ma,.o (.l ((fs++[(a,b-12,decide (t=0))]).map toD)),.sh d,.un], ?_,_,_,_,rfl,rfl,by simp[g],λf J=>?_]
    .unfold mX
     right
     erw[iD,vB,LJ,toD]
    .rcases QE.mp J with J | J
     .exact I f J
     .rw[qD.mp J]
      refine#[ha.1, ?_, ?_, ?_]<;>simp only<;>lia)
   (U:=[.p (.l [.int k,.int Z]),.un,.i no,.i ba,.i oc,.i ma,.o (.l []),.un,.un]) #[_,[],_,rfl,rfl,rfl,λf h=>nomatch h]
  have g:fs.length=ma.toNat:=by rw[g];simp
  let(v,s7,hv,d5):=e (s:=H) (m:=6) ();have FQ:∀U,aAb .IB [.val (.i v)] U=aA (rg v.toNat,eA):=λU=>HI rfl () ()
  let(U2,Fs,K,rs,t7',rfl,CZ,N,l):=lH (bind:=eB bA [7]) (body:=JA T.cA (run T W (n+3)) W nX)
   (λpre U=>∃K rs i,U=[.p (.l [.int k,.int K]),.un,.i no,.i ba,.i oc,.i ma,.o (.l (fs.map toD)),i,.o (.l rs)]/\SA i=bA/\rs.length=pre.length/\∀d∈rs,ZG no ba oc ma d)
   (ds:=rg v.toNat) (λpre d post j U hU=>by
    let(K,rs,i,rfl,x,g,l):=hU
    have r:pre.length<v.toNat:=by
     have:=congrArg GG j
     simp at this
     lia
    refine#[_,by erw[iC,LB x]<;>rfl, ?_];have qK:fB (rs.length+1)=bA:=UB ();let(s9,dr,er,O):=Wf (W:=W) (n:=n+1) (k:=k) (s0:=K) #[#[y,B],C,n4];refine#[[.p (.l [.int k,.int s9]),.un,.i no,.i ba,.i oc,.i ma,.o (.l (fs.map toD)),.sh d,.o (.l (rs++[dr]))], ?_,_,_,_,rfl,rfl,by simp[g],λd hd=>(QE.mp hd).elim (l d) λq=>by rw[qD.mp q];exact O];unfold nX;clear l O I j r g px aY FQ hv d5 y B C n4 e
    right)
   (U:=[.p (.l [.int k,.int s7]),.un,.i no,.i ba,.i oc,.i ma,.o (.l (fs.map toD)),i,.o (.l [])]) #[_,[],_,rfl,x,rfl,λ_ z=>nomatch z]
  have u:rs.length<=8:=by rw[N];simp;lia
  have P:(fs.length:Int)=ma:=by lia
  refine#[K,no,ba,oc,fs,rs, ?_,#[y.1,y.2,B.1,B.2,C.1,C.2,by lia,by lia,I],u,by rw[P];exact l];unfold tL rO
  exists fs.map toD,F
  exists (rg ma.toNat),L1
  exists (rg v.toNat),L2
  clear I g N l u P y B C n4 hv x CZ e
  right
theorem E9:∀{a:List Int},JM (a.map D.int) (a.map D.int)=bA
 |[]=>rfl
 |x::a=>by(show(x==x&&JM (a.map D.int) (a.map D.int))=bA;rw[ZL,E9];rfl)
def aAW{xs:List Int}:PB .NotEq (.l (xs.map D.int)) (.l (xs.map D.int))=aA dA:=by
 have a:eC 20 (.l (xs.map D.int))=bA:=WU (n:=19);show(if eC 20 (.l (xs.map D.int))&&eC 20 (.l (xs.map D.int)) then aA (!JM (xs.map D.int) (xs.map D.int)) else eA)=_;rw[a,E9];rfl
def rPa(h:In 5 c)(a:b<c.length):EF 12 c b=dA:=by
 match b,a with
 | 0,a=>rfl
 |b+1,a =>
  have d:=h _ (mO a);have e:=h _ (mO (show b<c.length by lia));refine dB ?_;unfold XB
  split<;>lia
def iHa(i:-12<=a)(j:a<=12):VG 5 1 12 [(2,a,t)]/\∃e,HD (rO 5 1 12 [(2,a,t)] [.t [.str "leap",.int 12]]) 5 1 3 5 e/\∀c,In 5 c->wK e c=bA:=by
 have g:VG 5 1 12 [(2,a,t)]:=#[by decide,by decide,by decide,by decide,by decide,by decide,uB 1,show 1<=3 by decide,λf k=>by rw[qD.mp k];exact#[by show(0:Int)<=2;decide,by show(2:Int)<=4;decide,i,j]]
 refine#[g,[(.t [.str "leap",.int 12],.ins "Leap" ["most"] [.int 12],λc b=>XC (EF 12 c b))],#[12,[(2,a,t)],[.t [.str "leap",.int 12]],rfl,g,rfl,by decide,by decide,rfl,rfl,λp l=>?_,by decide],λc m=>bF.mpr λb d=>zB ?_]
 .rw[qD.mp l];exact#[#[_,_,_,_,dA,rfl,Ed,X7,λW n c h d _=>Zc (n:=n+3) d],λW n=>Vf,λW n c h d _=>E8 (n:=n+1) (show 1<=1000 by decide) d,w9 (by decide),bf,λc h=>YU]
 .unfold HE;show(((XC (EF 12 c b)).length+0:Nat):Int)=0;rw[rPa m (GJ.mp d)];rfl
section
variable{W n:Nat}{s0 s1 s2 s3 s4 s5:Sl}{hA z d:D}{X:List D}
def cg{r:Out RV}(e:run T W n "b" [.sh hA,.sh (.l X),.sh z]=aA (r,[.sh hA,.sh (.l X),.sh z]))(f:RO jK (run T W n "g") [.sh (.l X),.sh hA,.sh z] (aA (r,[.sh (.l X),.sh hA,.sh z]))=some (.ok (.ow d),[.sh (.l X),.sh hA,.sh z])) :
  ev T.cA (run T W n) dA (.ER "g" jK "b" [(.v 1),(.v 0),(.v 2)] [6,7,8]) [s0,s1,s2,s3,s4,s5,.o (.l X),.sh hA,.sh z]=some (.ok (.ow d),[s0,s1,s2,s3,s4,s5,.sh (.l X),.sh hA,.sh z]):=by
 have h:HC (T.cA "b") (run T W n "b") [.slot 1,.slot 0,.slot 2] [.sh (.l X),.sh hA,.sh z]=aA (r,[.sh (.l X),.sh hA,.sh z]):=by
  rw[dn];show(match run T W n "b" [.sh hA,.sh (.l X),.sh z] with | none=>eA | some (o,a)=>(aAg _ _ a _ _).map λc=>(o,c))=_;rw[e];rfl
 show(match RO jK (run T W n "g") [.sh (.l X),.sh hA,.sh z] (HC (T.cA "b") (run T W n "b") [.slot 1,.slot 0,.slot 2] [.sh (.l X),.sh hA,.sh z]) with | none=>eA | some (o,a)=>(aAg [dA,dA,dA] [.slot 6,.slot 7,.slot 8] a _ [s0,s1,s2,s3,s4,s5,.sh (.l X),.sh hA,.sh z]).map λc=>(o,c))=_;rw[h,f];rfl
end
def yCa:PB .NotEq (.l [.str "told",.int z]) (.l [.str "told",.int z])=aA dA:=by
 show aA (!(("told":fA)==("told":fA)&&(z==z&&bA)))=_;rw[ZL,ZL];rfl
section
variable{k s:Int}
def kTa:"T"|||n+1|||[.i z]|||.b bA:=by
 exists QY
 fail "!WI IJ"
theorem M'(H:HD B no ba m kn ps)(l:Ln no ps xs)(Y:xs.length<=900){L:List L2.xB}{f:L2.xB->D}(b:150<L.length/\sM m ba kn ps (ZC m ba xs)\/UD no ba m kn ps (ZC m ba xs) L/\mD L f=oC m ba kn ps L){N:Nat}(u:N<=40){s0 s1 s4 q C:Sl}(v:s4=.o (mD L f)\/s4=.sh (mD L f))(Z:SA q=bA)(o6:SA C=bA) :
  ∃y F I,JA T.cA (run T (W+1300) 29) (W+1300) kQ [s0,s1,.o (.l (xs.map D.int)),.sh (vA (ZC m ba xs)),s4,q,C,.sh B,.i N]=aA (.nx,[s0,s1,.o (.l (xs.map D.int)),.sh (vA (ZC m ba xs)),y,F,I,.sh B,.i N])/\(y=.o (mD L f)\/y=.sh (mD L f))/\SA F=bA/\SA I=bA:=by
 have K:=aAW (xs:=xs);have h2:WD .len [mD L f]=aA (.i L.length):=by unfold mD;rw[AX,pA]
 have i:decide ((150:Int)<(L.length:Int))=decide (150<L.length):=by rw[rS,decide_eq_true_iff,decide_eq_true_iff];lia
 rcases b with ⟨J,t⟩ | ⟨c,hd⟩
 .rw[zB J] at i;rcases i9 (W:=W) (n:=20) H l u with ⟨ks,c,_⟩ | ⟨_,a⟩
  .exact absurd t (c.Q9 .start)
  let(d,p):=fOa (W:=W+1300) (n:=28) (x:=eA)
  have M:=cg (n:=29) (d:=.l [.str "many",d]) (s0:=s0) (s1:=s1) (s2:=.o (.l (xs.map D.int))) (s3:=.sh (vA (ZC m ba xs))) (s4:=s4) (s5:=q) a (by
   show(if(jK).contains ("TooMany":fA)=bA then JL _ (run T (W+1300) 29 "g" [.sh (.zC ("TooMany":fA) eA),.sh .lA]) else eA)=_;rw[RA (by left),p]
   rfl)
  refine#[s4,.o (.l [.str "many",d]),.sh (.l (xs.map D.int)), ?_,v,rfl,rfl];clear a p J t l H
  exists (L.length:Int),O
  exists mD L f,P
  exists (N:Int),z
  exists vA (ZC m ba xs),Q
  exists xs.map D.int,X
  unfold kQ;rcases v with rfl | rfl
  .fail "!WI IJ"
  .fail "!WI IJ"
 .have A:=c.le;rw[dB (by lia:¬ 150<L.length)] at i;rcases i9 (W:=W) (n:=20) H l u with ⟨ks,_,a⟩ | ⟨t,_⟩
  case inr=>exact absurd t (c.Q9 .start)
  have p:=jOa (W:=W+1300) (n:=28) (d:=.int (aAf m ba kn ps N (ZC m ba xs):Nat))
  have M:=cg (n:=29) (d:=.l [.str "told",.int (aAf m ba kn ps N (ZC m ba xs):Nat)]) (s0:=s0) (s1:=s1) (s2:=.o (.l (xs.map D.int))) (s3:=.sh (vA (ZC m ba xs))) (s4:=s4) (s5:=q) a (by
   show JL _ (run T (W+1300) 29 "g" [.sh .lA,.i (aAf m ba kn ps N (ZC m ba xs):Nat)])=_;rw[p]
   rfl)
  have R:=zr (W:=W+1300) (n:=27) c H.k7 u;have c6:=DU (X3 (m:=m) (ba:=ba) (kn:=kn) (ps:=ps) (ks:=L) (N:=N+1) (j:=N) ());have c7:=CU (r:=aAf m ba kn ps N) c.s0;have hw:=kTa (W:=W+1300) (n:=28) (z:=(aAf m ba kn ps N (ZC m ba xs):Nat));have U:=yCa (z:=(aAf m ba kn ps N (ZC m ba xs):Nat));rw[<- hd] at R;refine#[.sh (mD L f),.o (.l [.str "told",.int (aAf m ba kn ps N (ZC m ba xs):Nat)]),.sh (.l (xs.map D.int)), ?_,.inr rfl,rfl,rfl];clear a p A l H hd c
  exists wB L (aAf m ba kn ps N),d1
  exists wD m ba kn ps L (N+1),R1
  exists (aAf m ba kn ps N (ZC m ba xs):Int),cv
  exists (L.length:Int),O
  exists mD L f,P
  exists (N:Int),z
  exists vA (ZC m ba xs),Q
  exists xs.map D.int,X
  unfold kQ;rcases v with rfl | rfl
  .fail "!WI IJ"
  .fail "!WI IJ"
theorem L'(H:HD h no ba m kn C)(l:Ln no C c)(F:c.length<=900)(I:run T (W+1300) 29 "j" [.sh h,~~~c]=some (.ok (.sh (vA (ZC m ba c))),[.sh h,~~~c])) :
  ∃A,JA T.cA (run T (W+1300) 29) (W+1300) (yI.body.drop 4) [s0,.o (.l [.int k,.int s]),.o (.l (c.map D.int)),.un,.un,.un,.un,.sh h,.un]=aA (.rt (.b bA),A):=by
 let(L,f,ec,g):=rr (W:=W) (n:=23) H (H.next l.hx);have B:=@XN (W+1300) 28 k;let(a,s1,r,d1):=B (s:=s) (m:=41) ();let(b,i,J,d2):=B (s:=s1) (m:=6) ()
 let(A,e,t,u,v,K,rfl,_):=vd (bind:=eB bA [8]) (body:=JA T.cA (run T (W+1300) 29) (W+1300) kQ)
  (λU=>∃q x y z,U=[s0,.o (.l [.int k,.int i]),.o (.l (c.map D.int)),.sh (vA (ZC m ba c)),q,x,y,.sh h,z]/\(q=.o (mD L f)\/q=.sh (mD L f))/\SA x=bA/\SA y=bA/\SA z=bA)
  (ds:=[.int a,.int b]) (λd hd U M=>by
   let(q,x,y,z,rfl,O,P,Q,R):=M
   obtain⟨N,Y,rfl⟩:∃N:Nat,N<=40/\d=.int N:=by
    rcases jD.mp hd with rfl | hd
    .exact#[a.toNat,by lia,by rw[WV r.1]]
    .rw[qD.mp hd];exact#[b.toNat,by lia,by rw[WV J.1]]
   let(t,u,v,e,Z,g5,g6):=M' (s1:=.o (.l [.int k,.int i])) H l F g Y O P Q
   exact#[_,by erw[iC,LB R]<;>rfl,_,e,t,u,v,_,rfl,Z,g5,g6,rfl])
  (U:=[s0,.o (.l [.int k,.int i]),.o (.l (c.map D.int)),.sh (vA (ZC m ba c)),.o (mD L f),.un,.un,.sh h,.un]) #[_,_,_,_,rfl,.inl rfl,rfl,rfl,rfl]
 have hi:∀{U:Env},aAb .of [.val (.ow (.l [.int a,.int b]))] U=aA ([.int a,.int b],eA):=λ{U}=>rfl
 unfold yI
 exists mD L f,dM
 exists vA (ZC m ba c),dk
 exists c.map D.int,X
 refine#[[s0,.o (.l [.int k,.int i]),.o (.l X),.sh dk,t,u,v,.sh h,K], ?_]
 fail "!WI IJ"
theorem Es(y:v<=100):∃a b t,nE (MC T.cA (run T W (n+1)) []) (ev T.cA (run T W (n+1)) dA ET) (eB bA [2]) (rg v) [] [xG k s,.un,.un]=some (.ok (a.map D.int),[xG k b,.un,t])/\In 5 a/\a.length=v:=by
 obtain⟨c,A,e,⟨a,b,t,rfl,f,g,rfl,_⟩,_⟩:=gK (tests:=MC T.cA (run T W (n+1)) []) (lC:=ev T.cA (run T W (n+1)) dA ET) (bind:=eB bA [2]) (ds:=rg v) (λj c U=>∃a b t,c=a.map D.int/\In 5 a/\a.length=j/\U=[xG k b,.un,t]/\SA t=bA)
  (λj d hd c U i=>by
   let(a,b,t,l,f,g,m,o):=i;subst m;let(q,h,w,B):=@XN W n k b 5 ();refine#[[xG k b,.un,.sh d],bA,[xG k b,.un,.sh d],by erw[iC,LB o]<;>rfl,qJ,λ_=>#[.i q,[xG k h,.un,.sh d], ?_,a++[q],h,.sh d, ?_,f.app (In.one w),by simp[g],rfl,rfl],λz=>nomatch z]
   .unfold ET
    fail "!WI IJ"
   .rw[l,iD]
    rfl) [] [xG k s,.un,.un] #[[],s,.un,rfl,λx u=>(by cases u),rfl,rfl,rfl]
 exact#[a,b,t,e,f,by rw[g,pA,TK]]
theorem law_spec(W:Nat)(ns:List Int)(hn:ns.length<=63):∃u,run T (W+1300) 30 "law" [.sh (.l (ns.map .int))]=some (.ok (.b bA),u):=by
 rw[DR (fn:=yI) rfl rfl rfl];have J:=Pe (W:=W+1300) (n:=28) (ns:=ns) (k:=1) hn ();have K:=Pe (W:=W+1300) (n:=28) (ns:=ns) (k:=2) hn ();rw[show((1:Nat):Int)=1 from rfl] at J;rw[show((2:Nat):Int)=2 from rfl] at K;let(s1,no,ba,oc,fs,rs,eh,d,M,hR):=sPa (W:=W+1300) (n:=25) (k:=(bG ns 1).1) (s:=(bG ns 1).2);let(m,N,h3,h5):=cBa d;let(h,O,P):=ag d N h3 rs hR;have H:HD ∅ no ba m no.toNat h:=#[_,_,_,rfl,d,N,h3,h5,(WV (by have:=d.n1;lia)).symm,O,P,M]
 have Q:=λxs=>O1 (W:=W+1300) (n:=27) (rs:=rs) (xs:=xs) d N
 obtain⟨c,fr,x⟩:∃c fr,fs=c::fr:=by
  cases fs with
  |nil=>exact absurd d.l1 (by simp)
  |cons a r=>exact#[a,r,rfl]
 have y:=d.f c (by rw[x];exact OF);have j3:GD (aA ∅) (.int 3)=aA (.sh (.t (fs.map toD))):=rfl
 have j0:GD (aA (.t (fs.map toD))) (.int 0)=aA (.sh (.t [.int c.1,.int c.2.1,.bl c.2.2])):=by
  have:=L2.bK (xs:=fs.map toD) (j:=0) (v:=toD c) (by rw[x];rfl)
  show(L2.sC (fs.map toD) ((0:Nat):Int)).map RV.sh=_;rw[this];rfl
 exists fs.map toD,F
 exists ∅,hA
 exists no.toNat,A
 exists (bG ns 1).1,k1
 exists (bG ns 1).2,k2
 exists (bG ns 2).1,k
 exists (bG ns 2).2,k4
 have R:=@XN (W+1300) 28 k;let(v0,s2,i,d0):=R (s:=k4) (m:=8) ()
 obtain⟨B,hmo,m1,m2⟩:∃B,GD (aA (.l [.int 8,.int 8,.int 8,.int 80,.int 8,.int 8,.int 8,.int 8])) (.int v0)=aA (.i B)/\0<=B/\B<=80:=by
  rcases(by lia:v0=0\/v0=1\/v0=2\/v0=3\/v0=4\/v0=5\/v0=6\/v0=7) with e | e | e | e | e | e | e | e<;>rw[e]<;>exact#[_,rfl,by decide,by decide]
 let(xs,s3,ew,l,lx):=dTa (W:=W+1300) (n:=24) (k:=k) (s:=s2) H m1 m2;let(v1,s4,q,d1):=R (s:=s3) (m:=8) ();show ∃u,WQ [.sh (.l (ns.map .int))] (JA T.cA (run T (W+1300) 29) (W+1300) yI.body [.sh (.l (ns.map .int)),.un,.un,.un,.un,.un,.un,.un,.un])=_
 have g:∃g no ba A m h b z,JA T.cA (run T (W+1300) 29) (W+1300) (yI.body.take 4) [.sh (.l (ns.map .int)),.un,.un,.un,.un,.un,.un,.un,.un]=aA (.nx,[.sh (.l (ns.map .int)),.o (.l [.int k,.int z]),.o (.l (b.map D.int)),.un,.un,.un,.un,.sh g,.un])/\HD g no ba m A h/\Ln no h b/\b.length<=900/\run T (W+1300) 29 "j" [.sh g,~~~b]=some (.ok (.sh (vA (ZC m ba b))),[.sh g,~~~b]):=by
  by_cases h1:v1=0
  .subst h1;let(C,s5,w2,d2):=R (s:=s4) (m:=4) ();let(Z,ps2,H2,Nw):=iHa (a:=c.2.1) (t:=c.2.2) y.2.2.1 y.2.2.2;let(b,z,t,ed,hi,hl):=Es (W:=W+1300) (n:=28) (k:=k) (s:=s5) (v:=C.toNat) ();refine#[_,_,_,_,_,ps2,b,z, ?_,H2,#[hi,by lia,Nw b hi],by lia,O1 (m:=3) Z rfl];have hr:∀{U:Env},aAb .IB [.val (.i C)] U=aA (rg C.toNat,eA):=λ{U}=>HI rfl () ()
   have qK:fB (b.map D.int).length=bA:=UB (by rw[pA];lia);have c0:decide ((0:Int)=0)=bA:=rfl;unfold rO toD
   unfold yI xG at *
   exists b.map D.int,Y2
   exists xs.map D.int,X
   exists ns.map D.int,Y
   exists (rg C.toNat),L2
   fail "!WI IJ"
   rw[mF hr]
   fail "!WI IJ"
  .have I:=Q xs;rw[zPa] at I;refine#[hA,no,ba,A,m,h,xs,s4, ?_,H,l,by lia,I];have c0:decide (v1=0)=dA:=dB h1
   unfold yI xG at *
   exists xs.map D.int,X
   exists ns.map D.int,Y
   fail "!WI IJ"
 let(g,no,ba,A,m,h,b,z,e,H,l,lx,I):=g;rw[JT e];let(U',er):=L' (s:=z) (s0:=.sh (.l (ns.map .int))) H l lx I;rw[er];exact#[_,rfl]
end
end Mx
namespace PySem.W.Fast
local macro_rules | `(command|universe $x)=>do let l:=x.getId.toString.toList;let c←(List.range (l.length/11)).toArray.mapM λi=>(do let n:=Lean.mkIdent (.mkSimple s!"tw{((l.drop (1+11*i)).take 11).foldl (fun n d=>62*n+(d.toNat-if d<'A' then 48 else if d<'a' then 55 else 61)) 0}");`(command|def $n:ident:=True));return Lean.mkNullNode (c.map (·.raw))
universe x1Cdv9rhuaiWC91lHm2BOF7C9uXV446RUcCCkQNVPeuXVCFv2Wy6muqZCGwSNGBPZO01EPkeKpWrUYCOk4xvUFGnOCaYuvKkAiQ5Cdll0GNH8laCfNGOxqOQIZCh7m1uN1pFUCjzO4zV8sN0CnKbxPiGnU3CoCyHAMLss01HWaNdyY00dCpRTh2Edw0gCrl7bri3f6t07z1cLzI251D2G1ESSfsPb1IsQ50mL4XID9j2mkcKB6WDA0zFL6eE4jDCZ8ULFgV0NDDa7M322lVCDE5CrzYfLj5DGAIvCDOzdA1Ke8S2A6PjaDQMuCY5WJLQDSgZsAhFu5mDdJ9KHEBC81Dgv8v3koLR1Dk0FtFfTlnNDlzX8n92E8VDovwrXVSaTdDrYUoOSlj6wDy2w3S30oNXE5mEbUBqpdKEA3hc4VKRNkECnhFxVsJSbEFsbKwooi3DELzixKzfF8500tKDmRKmRKEQ7a8zUFdBKEQkGEOyENFlESGPoNvzDb6EYjjSnpbv0tEagOrKoGWiG1SaEnIBGsnqEfOD8DP7ZSfEhioOi6ZFqN1TNTVc5Hh5WEou4ZJH6ANLErag91pixluEs5S7diR4KOEvaCnnHzR2lEwOjn6Y1GMmF2DdOkrP7L0F5IiYwAAzmSFBWg9V8KhhGFDhHGVPUo3GFIQulvvArrjFK0AjcFCaIZFWBgoxWrRH9FZ00l7QRffXFd5KC0Fj9AM1Z1wQ48NTF9Fk5oD2N9mrkFp8e3ByowolFqEXhmSiCr7FrBNCiBLtCbFs6wNSTrJ8NFttt9vQhqncFuJzyHKUmODFuxgZtR45KqFykGPCGMIbMFzY3mjXVPBeG2F3nhdmizYG2wUzXB0j9OG4NyPzV7ZY4G5LKy3ZtEjxGBo3CLNQkNSGDGf1k1vhYEGEovWn8eEGM0A9QqweLWICGNWHlQWwZbsGPeGVXbFjykGQDULwpJsSmGVvx6pxMsMzGYdrPMPr07gGaATt8TD1xXGaCHCObigEeGagBXnWGJcsGcxdZdBrzAiGef4aEE1twWGiWbmsd0I1KGkSJqOUMJY5Gpu9j2wV4D1GqUD5CUVcaIGs8BPGk5HrDGtB37dbfaBOGvcH8laZLl6GwEYDcqXsAIGxS4sXKNMDqGykvEXyR9UwGyuiZd3bVSQH2GtmuTt520H3EUNYeG6ZNH6V2FvZFzOrHBJR5iAqfqlHCUaWoHH4W9HDbfM6D31fqHFYhleWQYTsHFi8sHADExuHH2MgRuzyVsHHpGmCWf7R5HKGiwy5QzGEHKW5CU1DxakHMK6eOd4KtfHNI6Vtkpmg8HNucYORGrbHHdea5qHjRFyHi53nymLnQ71lulPBeER3tHjarFMuxflXHpLUSlBE7RIHqhRfz6PsN9HwavmFjwkqhHydYOe3UVScHyedligTetII9CKwQfAEOHIDpEuEwn7ZSIE1O5zjrlZ2IFAS1CqoWO41p8ST6EBI6fIUX9udIWGzzIaKf0bOzEp6IcxMBVw6BZqIoU54xatOf81sfMPKPzvoZIrKcHklVmgDIwx4IMNhJnoIyxLIrLeg9sJ3yIyPMGoXOJDCWs0nndn1JFPgkbuYUrZJIonu1zAn3O1vkMqjH8O74JM7x6ZrkhmjJNgmOjWR40JJTPG4Z1c0SoJXWBJCdvZJKJZK7N2bavSoJZQd1MkTxx0JZVuyLNaxBXJZrqDIlqYjM1xewou6jpvcJd9mfksMp80JnsJVm5WiHBJpbkSmOoRi5Jt81UURiS36JvO3Iw0xlvwJvdLc9fQ1WpK5Jpj47iJPRK97YI3MSiuTKBZ1R23KXh6KCMdPQJRs27KHWGoRVu3vOKIp3wlKX1kFKJFN6YSjYHaKKVikkyMZD3KNB029m8RNiKNo65acrBvYKQmiibcUhq1KSNIes0dqr3KSruIejwC7IKWWFNseNVPaKdGkn6i84YwKfn7OzYMla5KiBlmhQl2w9KkDJ3bbivqyKkgcEaoDhycKksWkejWNxqKqViXYEdFUzKs4ttI108BSKtNRpcR3ZAqKuRH7x0qLgCKv4BiVZVWDF26GL3oqvVJxL1PoYGIl5Qh26T6laNWv7DL3MQfmJYTI526extQRfkr2L7GFYHmzKAuL7oeJYZDmCtL9GIU6a9K2LL9SDDnemMI4LBOHyrJxrqBLEuBULW0tUQLIrIuIJpsloLLKb2x5jO4ALLMiILZOq8ELPOpQV8dWdtLQfVPzze9BeLTj7hcFXqNCLa0ReqIEb1QLapmQWVgRv6Ldl8mBxFBZeLfGvNc8nG3GLh4A1zjN9d3Lia6w5qg8VCLkCUh5ArVwfLkCfVCt3KdELl6uOlH9iy7LwiKDISTRxe0E46tT5hDlU2JeLqR62hv82Kvk9ChLoUU2MoN36FFQFJ2RxpcxXnNbf0FNVy7f6xV02YxFo74NPNq2aRgfPUOF5b2au0RWmtwCe2bkdYopOBbl2gVMYrQOsEQ2loViOdO2Qd2pqmLvM4acB2vJunIbc2G32yHNWswTkKm2yiX87H3ykn2zqgLxaHrik363YthpUWdZ0JnmuG9nqDC3HIMnwbhqkr3JZh7TYXOa93KUYU5Ey8Ax3XYe3UNn8YU3Xs5AXopUAC3aontxVOTek3cb37TGtN9b3ehZPUVR3Rq3hQsID3RGwv0Mxbs4MOLHS3k7HRmMMuyT3l2fqOU43Xi3m7Y51jcViA3msxXy1R5L63o21RlIEaen3oMrjPCT3QU3pw83w6Zamz3rsF6orveDM3t5jBktEjeQ3veC7knCeJ23xJx9LeB7D13zZTYJW9nrc42RT4wGz4s449ENWfPXJq44Aj3apZMogD4BIhjFZOVOT4DpwLJNfbLU4EN0q5VqMpA4EbI4XOVuGj4J7K9LCl1gv4MoxrnsPqRl4OdICb07QwZ0RGtX5eyH624QFCsxGcbg94QUDvG8U9AM4Z8lOmBLbQz4bvTiJWn8J34fcXEVvYAVq4hS4ubd4b1V4lGaiof4pp54lN1r4lmLw44lmzFndtvFO4mGfxFUZdCA4mYhRQw6Zg04s3P6S4G0yU4sTngFZk1PO4tHQkwCF1Ge0ULDx4uOh7D4vMuoVYCTEP4xjp7RH96uc0UyH5BLiNxx50pvMXgLWyg54rGxJIFEtS55EYtrn5YEE5HoJiW5TxZg5TqfbG61HOl5Xz6ONeKhYH5cxw6iFx1yO5e3K9LRL3PI5isiOIPiSzw5mn6mciLlZ35pvM6vSTVRt5wTyMO0Zc0U62Wu9SjsPuX63GG3xLQE3B64sEwV4C7P3685e7dZkhAF6ABSXa8HAtr6Ci2cOTj7AP6DXEc9jFEWh6F2Tn8yiPfD6LrKbAsbQjl0dWcsrfxUL86O7gBvV8YBA6OjrtKJwETR6PAw3wF1SZu6UjBJhevjHv6ff3IBqBVdc6hDIpHHlI9n6iPH4oMgeOF6ji4qqGs9Xd6jtvaeTCpp36pwMfBaTjQd6rBUpi63WmC6tyXkTdYU9n0gtLrreNJSG6w3Q3xK40Z06x4HqbUCwuS6zjtvQrGMei6znlyolQJy4752ImO3ndy278g4ZMLXyW579JhWNTefyL7F6KCWkmhqy7FmIxRDLBGr7HlhIkzixNX7NDT431MNuo7NjbaosPfXU7NsPgMsY5qe7OhGWQYCGcC7Q5apoNDh2U0k0dIS3D3Wq7SDUCvW2cF77VlprTixPeR7VtmBcXQ3xw7W1n7DQjr5g7dg7ZawyhFR7eFENN5yfEm7eZybJ9byMw7ek3wtpeH337jMqFcmOArj7jg7vYP4s4n7kuqA75CHR97o7I1xwtomy7rQnFprFE4V0mwOEGR6AI47xKmi9qEHbE0nSCbiLPovs7ypok1ypgUL7yzIUIzRVwO8Gkm66K7Zox8OPmb5elo6Q8OwCFpqB0B48Qiz6A87K7F8SOterqAJQk0qTiqiMrgA10qs3YtnkyzV8WnkQzm9YEP8XTmqFDsqHc8cWHJUgilPT8gxhBehjoUS8j8trfuOLk18qX54ASNi5U8qgTr37Qk4P8uwcp30b3gt8v89kxWGkFE90iO2thNJTl941cBngVmux962CKqWihZr97PSIUpMBur9APZBmZOx3F9FJVoN2aT5P9MNVmTb9LP80wjWOJrx5Yj0x4iqD8bZS49XJSCPQFCwN9dhmZOfet9n9gMLc4j6Ags9huVJdELCtE9jpHnFYhPzi0yvuQLgFOh4A23gBnosX3pA3pkNLsoPtaA4DIL4TLV02A4mWrtgiBj3A4tMl8da4laA5DtMOLu3frAEvbJFa5PT0AGDGpWQiNMjAIcpzqIyndoAJ5QkARTOo0AOMinTJZJoDARyFqQeC6wLATZ4Gmx4a5GAWEd0VqOFRfAXA3JjYea7DAXF4QrhXqX7Ab1ZjRooDCVAcGrcJpNLfs13qGqxcW9dYAfnJwCPc3SsAg0ZnrKGpCtAjumYmSBGkB14okNvx75VZAnh1IV5qOKmAva2tKuM8pFB4X1ApELty9B5D7z3CPe3NB7Q8NL7IgFKBAGWhX4lyNwBCzMeJtfZqNBFsA8UgJyfsBJd1EOXCN6fBNBhtkcgdBWBPsVi4NZweEBRUx8v5FuPrBS35uKo5dhsBW04OXKerHyBWyKXdmAG9TBXOsTokYmxuBXzP4FLpTzqBf24YohQ6BwBfJvv5h7tabBfej1jcLRyyBh8DaMOb3otBmuG76sNkCDBo1G52A0q5l
end PySem.W.Fast
open PySem PySem.W PyProof.Rows
local macro_rules | `(tactic| exists $n,$b,$f)=>`(tactic| refine CI.Hv $(Lean.mkIdent `KX) $(Lean.mkIdent `G) (show CI.gL _ (Tx.top $n) _ $f from CI.dI $b) ?_)
set_option maxRecDepth 100000 in
set_option maxHeartbeats 0 in
theorem PySem.Challenge.cw_canonwright_k41_lists_counted_holds : PySem.Challenge.rw_canonwright_k41_lists_counted.Holds := by
 w_on;o_law;k_head;(case hw=>w_witness2)
 k_fill
 refine' CI.O' (l:=PySem.Challenge.rw_canonwright_k41_lists_counted) (T:=Tx.T) (L:=Tx.L) (st:=Tx.top 89) (fn:=Tx.yI) (W:=1000000) (n:=29) (x:="law") (p:="_law_script") (f:="law") (y:="_law_said") (sk:="g") (cs:=Tx.jK) rfl rfl #[rfl,by decide,by decide,rfl] rfl Tx.Wn Tx.eFa (by left) (λw h Y=>PySem.W.km_in_of Y) rfl ?rRa ?sRa ?Gv ?aBa
 case sRa=>exact λw=>by kernel_rfl
 case rRa =>
  intro w
  refine' CI.tRa ?a ?l ?h ?b ?v;(case a | l=>k_is);(case h=>rfl);(case b=>k_is);(case v=>rfl)
 case aBa=>exact Mx.law_spec _
 case Gv =>
  intro w mg h KX G;have r:CI.ClsAt (L2.NB KX) "Span":=by refine' CI.DM ?a ?pg ?hd ?po ?sa ?mk ?kp;(case a | pg | hd | po | sa | mk | kp=>dsimp only[L2.NB];k_is)
  have F:CI.ClsAt (L2.NB KX) "Leap":=by refine' CI.DM ?a ?pg ?hd ?po ?sa ?mk ?kp;(case a | pg | hd | po | sa | mk | kp=>dsimp only[L2.NB];k_is)
  have H:CI.ClsAt (L2.NB KX) "Back":=by refine' CI.DM ?a ?pg ?hd ?po ?sa ?mk ?kp;(case a | pg | hd | po | sa | mk | kp=>dsimp only[L2.NB];k_is)
  have u:CI.ClsAt (L2.NB KX) "Again":=by refine' CI.DM ?a ?pg ?hd ?po ?sa ?mk ?kp;(case a | pg | hd | po | sa | mk | kp=>dsimp only[L2.NB];k_is)
  have j:CI.ClsAt (L2.NB KX) "Range":=by refine' CI.DM ?a ?pg ?hd ?po ?sa ?mk ?kp;(case a | pg | hd | po | sa | mk | kp=>dsimp only[L2.NB];k_is)
  have B:CI.ClsAt (L2.NB KX) "Above":=by refine' CI.DM ?a ?pg ?hd ?po ?sa ?mk ?kp;(case a | pg | hd | po | sa | mk | kp=>dsimp only[L2.NB];k_is)
  have C:CI.ClsAt (L2.NB KX) "Never":=by refine' CI.DM ?a ?pg ?hd ?po ?sa ?mk ?kp;(case a | pg | hd | po | sa | mk | kp=>dsimp only[L2.NB];k_is)
  have D_law:CI.oM (L2.NB KX) "law" (Tx.top 89):=by refine' CI.UX ?a ?l ?c ?k;(case a | l | c | k=>dsimp only[L2.NB];k_is)
  have #[Ql,Pl,_]:CI.TH w.params (L2.NB KX) mg Tx.T (CI.eD Tx.L) ("LEADER",.c (.t [(.int 0),(.int 0),(.bl dA)]))/\CI.TH w.params (L2.NB KX) mg Tx.T (CI.eD Tx.L) ("BY_THE_LINE",.c (.t []))/\True:=by
   iterate 2 refine#[by refine' CI.yr KX G ?a ?l ?c ?z;(case a | l=>dsimp only[L2.NB];k_is);(case c=>first | rfl | left);(case z=>rfl), ?_]
   trivial
  have #[bo,Zn,Yn,_]:CI.JN (L2.NB KX) "TooMany"/\CI.JN (L2.NB KX) "NoNumber"/\CI.JN (L2.NB KX) "CanonError"/\True:=by
   iterate 3 refine#[by refine' CI.Su ?a ?xq ?ga ?no ?cl ?gt ?tk ?mo ?mb ?mv;(case a | ga | no | cl | gt | tk | mo | mb | mv=>dsimp only[L2.NB];k_is);(case xq=>dsimp only[L2.NB];k_exc), ?_]
   trivial
  have I:CI.oM (L2.NB KX) "_law_said" (Tx.top 87):=by refine' CI.UX ?a ?l ?c ?k;(case a | l | c | k=>dsimp only[L2.NB];k_is)
  refine#[#[D_law,CI.gOa KX G I Tx.dEa Tx.hOa], ?_];unfold Tx.L
  iterate 8 refine CI.fc (by refine' CI.f9 KX G ?a;(case a=>k_is)) ?_
  refine CI.fc (Ql) ?_;refine CI.fc (Pl) ?_
  iterate 6 refine CI.fc (by refine' CI.f9 KX G ?a;(case a=>k_is)) ?_
  exists 22,CI.sG,Tx.eZ
  exists 23,CI.bH,Tx.fZ
  exists 25,CI.mE,Tx.lZ
  exists 26,CI.mE,Tx.oZ
  exists 27,CI.wI,Tx.uZ
  exists 28,CI.bH,Tx.qZ
  exists 29,CI.bH,Tx.bZ
  exists 32,CI.sG,Tx.pZ
  exists 33,CI.bH,Tx.iZ
  exists 42,CI.sG,Tx.oK
  exists 44,CI.sG,Tx.nZ
  exists 45,CI.wI,Tx.YY
  exists 46,CI.mE,Tx.dZ
  exists 47,CI.mE,Tx.ZY
  exists 54,CI.sG,Tx.hZ
  exists 55,CI.mE,Tx.wZ
  exists 56,CI.mE,Tx.rZ
  exists 57,CI.sG,Tx.gZ
  exists 58,CI.mE,Tx.jZ
  exists 59,CI.bH,Tx.XY
  exists 60,CI.mE,Tx.tZ
  exists 61,CI.mE,Tx.sZ
  exists 64,CI.sG,Tx.aZ
  exists 65,CI.mE,Tx.vZ
  exists 66,CI.mE,Tx.mZ
  exists 67,CI.bH,Tx.cZ
  exists 69,CI.mE,Tx.KY
  exists 70,CI.mE,Tx.FY
  exists 71,CI.Lp,Tx.LY
  exists 72,CI.sG,Tx.LM
  exists 73,CI.sG,Tx.tL
  exists 74,CI.bH,Tx.HY
  exists 75,CI.bH,Tx.vQ
  exists 76,CI.bH,Tx.JY
  exists 77,CI.Mp,Tx.OT
  exists 78,CI.wI,Tx.nK
  exists 79,CI.sG,Tx.IY
  exists 80,CI.mE,Tx.NY
  exists 81,CI.sG,Tx.CY
  exists 82,CI.mE,Tx.GY
  exists 83,CI.mE,Tx.PY
  exists 84,CI.mE,Tx.DY
  exists 85,CI.bH,Tx.OY
  exists 86,CI.mE,Tx.EY
  exists 87,CI.sG,Tx.MY
  exists 88,CI.sG,Tx.QY
  refine CI.fc (CI.EM KX G r (by refine' CI.aG ?a ?b ?i ?l ?c ?k;(case a | b | i | l | c | k=>(try dsimp only[L2.NB]);k_is)) Tx.iy (by(repeat refine CI.fc (by refine' CI.dN ?a ?b;(case a | b=>(try dsimp only[L2.NB]);k_is)) ?_);exact λ_ h=>nomatch h)) ?_;refine CI.fc (CI.EM KX G F (by refine' CI.aG ?a ?b ?i ?l ?c ?k;(case a | b | i | l | c | k=>(try dsimp only[L2.NB]);k_is)) Tx.ey (by(repeat refine CI.fc (by refine' CI.dN ?a ?b;(case a | b=>(try dsimp only[L2.NB]);k_is)) ?_);exact λ_ h=>nomatch h)) ?_;refine CI.fc (CI.EM KX G H (by refine' CI.aG ?a ?b ?i ?l ?c ?k;(case a | b | i | l | c | k=>(try dsimp only[L2.NB]);k_is)) Tx.dy (by(repeat refine CI.fc (by refine' CI.dN ?a ?b;(case a | b=>(try dsimp only[L2.NB]);k_is)) ?_);exact λ_ h=>nomatch h)) ?_;refine CI.fc (CI.EM KX G u (by refine' CI.aG ?a ?b ?i ?l ?c ?k;(case a | b | i | l | c | k=>(try dsimp only[L2.NB]);k_is)) Tx.cy (by(repeat refine CI.fc (by refine' CI.dN ?a ?b;(case a | b=>(try dsimp only[L2.NB]);k_is)) ?_);exact λ_ h=>nomatch h)) ?_;refine CI.fc (CI.EM KX G j (by refine' CI.aG ?a ?b ?i ?l ?c ?k;(case a | b | i | l | c | k=>(try dsimp only[L2.NB]);k_is)) Tx.gy (by(repeat refine CI.fc (by refine' CI.dN ?a ?b;(case a | b=>(try dsimp only[L2.NB]);k_is)) ?_);exact λ_ h=>nomatch h)) ?_;refine CI.fc (CI.EM KX G B (by refine' CI.aG ?a ?b ?i ?l ?c ?k;(case a | b | i | l | c | k=>(try dsimp only[L2.NB]);k_is)) Tx.ay (by(repeat refine CI.fc (by refine' CI.dN ?a ?b;(case a | b=>(try dsimp only[L2.NB]);k_is)) ?_);exact λ_ h=>nomatch h)) ?_;refine CI.fc (CI.EM KX G C (by refine' CI.aG ?a ?b ?i ?l ?c ?k;(case a | b | i | l | c | k=>(try dsimp only[L2.NB]);k_is)) Tx.fy (by(repeat refine CI.fc (by refine' CI.dN ?a ?b;(case a | b=>(try dsimp only[L2.NB]);k_is)) ?_);exact λ_ h=>nomatch h)) ?_;refine i6.mpr #[#["broken",rfl,by unfold Tx.NI;exact CI.fc (CI.zK r (by refine' CI.aG ?a ?b ?i ?l ?c ?k;(case a | b | i | l | c | k=>(try dsimp only[L2.NB]);k_is)) Tx.iEa rfl) (CI.fc (CI.zK F (by refine' CI.aG ?a ?b ?i ?l ?c ?k;(case a | b | i | l | c | k=>(try dsimp only[L2.NB]);k_is)) Tx.eEa rfl) (CI.fc (CI.zK H (by refine' CI.aG ?a ?b ?i ?l ?c ?k;(case a | b | i | l | c | k=>(try dsimp only[L2.NB]);k_is)) Tx.cEa rfl) (CI.fc (CI.zK u (by refine' CI.aG ?a ?b ?i ?l ?c ?k;(case a | b | i | l | c | k=>(try dsimp only[L2.NB]);k_is)) Tx.bEa rfl) (CI.fc (CI.zK j (by refine' CI.aG ?a ?b ?i ?l ?c ?k;(case a | b | i | l | c | k=>(try dsimp only[L2.NB]);k_is)) Tx.gEa rfl) (CI.fc (CI.zK B (by refine' CI.aG ?a ?b ?i ?l ?c ?k;(case a | b | i | l | c | k=>(try dsimp only[L2.NB]);k_is)) Tx.aEa rfl) (CI.fc (CI.zK C (by refine' CI.aG ?a ?b ?i ?l ?c ?k;(case a | b | i | l | c | k=>(try dsimp only[L2.NB]);k_is)) Tx.fEa rfl) nofun))))))], ?_];refine i6.mpr #[#["forbids",rfl,by unfold Tx.OL;exact CI.fc (CI.zK r (by refine' CI.aG ?a ?b ?i ?l ?c ?k;(case a | b | i | l | c | k=>(try dsimp only[L2.NB]);k_is)) Tx.jEa rfl) (CI.fc (CI.zK j (by refine' CI.aG ?a ?b ?i ?l ?c ?k;(case a | b | i | l | c | k=>(try dsimp only[L2.NB]);k_is)) Tx.hEa rfl) nofun)], ?_]
  iterate 16 refine CI.fc (by refine' CI.Kp KX G ?a;(case a=>k_is)) ?_
  refine CI.fc (CI.N9 KX G bo) ?_;refine CI.fc (CI.N9 KX G Zn) ?_
  iterate 10 refine CI.fc (by refine CI.nQa KX G ?s ?y ?n;(case s=>refine' CI.R_ ?a;(case a=>k_is));(case y=>(repeat refine CI.fc (by refine' CI.P_ ?a ?b ?k;(case a | b | k=>k_is)) ?_);exact t6 _);(case n=>(repeat refine CI.fc (by refine' CI.Q_ ?a ?b ?k;(case a | b=>k_is);(case k=>kin_no)) ?_);exact t6 _)) ?_
  refine CI.fc (CI.gv KX G Yn (by(repeat refine CI.fc (by refine' CI.lBa ?a ?b ?m;(case a | b | m=>k_is)) ?_);exact t6 _)) ?_
  exact λ_ h=>nomatch h
