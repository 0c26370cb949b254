import PyProof.Rows.All
import Wide.All
import OpenK.AllK
import PySem.Challenge.RW_canonwright_k70_rows_refused
open PySem.Str renaming ofString->kA,join->DG,ofString_eq_toList->EY
open PySem.W renaming Frag->fA,nsIn->fB,findIn->QD,keepIn->xF,mroIn->dH,hasDictIn->HK,fnOf->zH,emptyDict->EL,hideAll_none->uO,mg_of->yJ,callWith_K->zO,instObj->UM,kia_one->VM,plainGet->LQ,codeIn->CO,of_hideAll->gU,hideAll->NQ,kin_not->GO,kitAny->uU,looks_findIn->vU,methodCall_KW->aa,makesIn->PY,hideAll_get->ua,plainGet_of->xa,isFn->zU,isIn->BU,lookIn->VY,typeIn->WY,isNs_of_in->Ia,methodObj->La,plainOver->Ma,specialIn->Qa,OpenLaw->EU,cellsFrom_some->vq,takerIn->Ya,takesIn->lb,looks_mroIn->eZ,looks_clsIn->Ab,excIn->Gb,clsIn->Hb,tail_of_in->Pq,handedIn->qr,KeysLit->Gr,WalkO->Wb,set_plain->Rr,Looks->cR
open PySem renaming Str->bA,wpAny_bind->BA,Value->dA,mainGlobals->VA,Addr->eA,Shared->zA,wpAny_pure->GB,wpAny->wA,starEach->zB,Expr->vA,Stmt->WA,wpAny_mono->DE,foldedSetIterable->GJ,compareOp->QE,wpAny_field->ZG,wpAny_loadPart_at->FL,binaryOp->AE,behindInMarks->xJ,wpAny_truthy_bool->SM,FuncData->gF,Program->nE,backTo->nD,assignEach->AH,wpAny_Call_Name_kw->yO,Heap->HB,wpAny_holding->HL,wpAny_standAt->IL,World->VC,bootBuiltins->JL,codeAny_mono->KL,wpAny_newObj_type->KQ,codeAny_call_builtin->cU,mem_of_lookup->eU,wpAny_isSubtype_exc->fU,sizeLine_eq->ML,wpAny_setField_rec->iU,ExceptHandler->FO,wpAny_pyIter_list->jU,Around->JF,Env->DK,NameKind->AJ,wpAny_passesOwn->oU,wpAny_callSpecial?_slot->V9,Obj->rB,intText?->tU,plainObj_wpAny_Assign_Attribute->gq,PassesOwn->YM,wpAny_call->MO,codeAny->BJ,wpAny_execs_nil->OY,Scope->kG,typeIs_str->WQ,call_meets->XQ,Operator->ZM,wpAny_pyIter_enum->Pa,IsEnum->CJ,wpAny_execs_cons->Ra,noFill_tuple_add->Sa,wpAny_call_entry->Ta,DictEntry->ZQ,CmpOp->BH,concat_meets->bZ,IsPart->FK,Pos->BC,wpAny_loadPart->vb,wpAny_setField->wb,seq_tuple_add->Eb,wpAny_attempt->Ib,Within->Lb,wpAny_assign_Name->Xq,seqIndex_neg->Ob,slot_list_getitem->Zq,ExcBaseFacts->Pb,wpAny_Call_ofName->br,seqIndex_of->Vb,JoinOk->GU,OwnTail->HU,wpAny_Name->Xb,call->Zb,BindsTo->fZ,Keyword->gZ,Params->IU,MulOk->iZ,Reads->eR
open Bool renaming and_eq_true->qA,false_ne_true->EJ,false_eq_true->FJ,or_eq_true->RI,and_true->zJ,or_eq_false_iff->dU,true_and->XM,not_eq_true'->kU,not_eq_true->mU,and_false->sU,casesOn->AU,false_and->UY,or_false->Fb,or_true->Qb,eq_iff_iff->Jr
open List renaming length_map->YA,getElem?_eq_some_iff->LD,length_cons->fC,getElem?_eq_getElem->MD,all_cons->PB,mem_cons_of_mem->OD,getElem?_cons_zero->OE,getElem?_set_ne->gE,replicate->FC,mem_map->kC,casesOn->sC,size_toArray->PD,mem_cons_self->BE,mem_cons->eD,length_append->iF,getElem?_cons_succ->aH,map_cons->pD,mem_singleton->uF,all_eq_true->jF,range->KC,set_cons_zero->lG,set_cons_succ->mG,mem_append_right->CH,getElem?_set_self->gI,length_set->kF,lookup_cons->LF,getElem?_append_left->aN,map_map->oG,mem_append->iI,append_nil->jI,length_take->QI,mem_of_getElem?->OL,take_of_length_le->bN,length_drop->IJ,getElem?_map->IK,mem_append_left->cN,lookup->CG,getLast?_eq_some_getLast->YT,getElem?_eq_none->sO,getElem?_append_right->ZT,map_eq_nil_iff->wO,map_congr_left->xO,zip_cons_cons->AO,any_cons->AK,all_nil->CK,drop_of_length_le->aU,contains_cons->IQ,filter_append->JQ,drop_eq_getElem_cons->zY,mem_filter->OQ,length_singleton->FY,mem_range->QQ,map_nil->JO,cons_append->nU,map_drop->RQ,nil_append->pU,getElem?_replicate->T9,length_eq_zero_iff->W9,append_cancel_left->Y9,all_map->TQ,length_filter_le->ja,getElem_mem->LY,isEmpty_iff->MY,take_nil->wU,forall_mem_cons->la,map_id->VQ,mem_of_mem_drop->oa,mem_of_mem_take->qa,nodup_cons->QY,length_nil->RY,map_append->TY,filterMap_cons->wa,take_succ_cons->ya,drop_succ_cons->za,filter_eq_self->Aa,forall_mem_nil->Ba,mem_filterMap->Ea,getD_eq_getElem?_getD->oq,take_zero->YY,getLastD_eq_getLast?->rq,length->CU,drop_length->Va,getLast_mem->Xa,filter_eq_nil_iff->Aq,of_mem_zip->Za,range_succ->pb,foldl_cons->qb,take_append_drop->Fq,drop_zero->yb,mem_of_mem_tail->Gq,length_pos_iff->Kq,sum_cons->Jb,map_take->Kb,filterMap_map->Nq,getElem?_take->Qq,getElem?_drop->Vq,map_singleton->Wq,length_range->ir,take_add_one->lr,take_length->Ar,filter_cons->Br,length_tail->Cr,any_eq_true->Dr,forIn_cons->Hr,all_append->Kr,take_succ->Mr,foldl_nil->Nr
open PySem.Heap renaming get?_push_of_some->NC,lt_size->rC,get?_push_size->EG,get?_update_other->rO,get?_none_of_le->vO,SameBut->BK,get?_update_self->bU,size_push->XY,MadeExcOf->xb,get?_update_ne->Iq,get?_push_at->ar
open Option.some renaming injEq->WB,inj->wF
open PySem.Txt renaming split->kB,join->lC,slice->RD,mul->NI,startswith->BO
open Nat renaming le_refl->JB,lt_of_lt_of_le->iE,le_trans->lD,ne_of_lt->kE,pow_le_pow_right->QL,lt_succ_self->zK,lt_irrefl->DO,lt_trans->KO,min_eq_left->qU,le_succ->LO,min_eq_right->NY,zero_le->UQ,not_lt_zero->SY,ne_of_gt->yU,isDigit_of_mem_toDigits->lq,log2_lt->DU,le_of_not_lt->Ua,le_of_eq->ZY,le_of_lt->Mb,sub_self->Sb,succ_ne_self->xr
open PySem.PyData renaming strOk->jC,canLay0->GL,depth->LL,eqv->YQ,canLayAll0->Oa,depthAll->jb,eqvAll->Tr
open LawfulBEq renaming eq_of_beq->uB
open Option renaming bind_some->oE,map_some->jE,map_eq_some_iff->GK,casesOn->DH,bind_eq_some_iff->QO,getD_none->sr
open Prod.mk renaming injEq->SD
open Array renaming length_toList->bH,all_eq_true'->OI,getElem?_eq_some_iff->GQ,toList_inj->MQ,toList_append->HY,getElem?_setIfInBounds_ne->iq,toList->xU,find?_toList->Ga,getElem?_toList->Dq,all_eq_true->jr
open PySem.Builtin renaming bitOr->cH,bitAnd->lU
open False renaming elim->pE
open PySem.StrLaws renaming glued_eq_join->NL,join_split->Sq,split_free->Tq
open PySem.Expr renaming casesOn->nG
open PySem.F renaming excBase_ValueError->NO,plainAttrs_str->DY,slot_enumerate_next->GY,args_tuple_add_2->R9,entry_tuple_add->U9,plainAttrs_list->X9,slot_str_split->JY,slot_tuple_add->Z9,args_str_split_2->Ja,called_enumerate->Ka,entry_str_split->Na,args_enumerate_next_1->tq,slot_list_index->uq,entry_enumerate_next->yq,slot_list_append->Bq,slot_list_extend->Cq
open Int renaming toNat_natCast->HJ,fdiv_eq_ediv_of_nonneg->mq,emod_lt_of_pos->Rq,natAbs_natCast->Uq,natCast_ediv->zr,emod_nonneg->Ir
open PySem.Builtin.Int renaming intBits->OO
open PySem.NumText renaming digitsVal->RL,AllDigits->nr
open PySem.Builtin.Str renaming occurrences->HQ,strSliceIndices->P9,partsBetween->sq,strKind->Jq
open Ne renaming symm->KD
open PyProof.Rows renaming slot_tuple_getitem->wY,callWith_type1->xY,AllBare->EK,subscriptTail_builtinR->wq,split_pos->zq,IntsAre->aR
open PySem.Builtin.Slice renaming slicePlaces->yY,sliceAdjust->Q9,sliceApplied->nq
open PySem.Value renaming isStrOf->WM
open PySem.Builtin.Tuple renaming tupleExact->AY,tupleHashOf->pq
open PySem.AutoSeq1 renaming wpAny_loadPart'->BY
open List.cons renaming injEq->PQ
open PySem.Obj renaming mapFields->EO,isFreed_of_fields->ia,data_mapFields->Ha,mapSeq->FU
open PySem.Builtin.SmallTypes renaming ownedTupleHandOut->dq,ownedTupleIsFree->fq,fitsIndex->jq
open PySem.Builtin.List renaming listTooLong->S9
open PySem.Code renaming quiet_builtin->IY,isGuard->aZ,isFrame->Nb,guards->Tb
open PySem.Around renaming under->SQ,deeper->Bb
open Function renaming comp_def->KY
open PySem.Env renaming kindOf->Wa
open PySem.Stmt renaming casesOn->cZ
open PySem.Flow renaming casesOn->dZ
open PySem.W.KIN renaming signs_num->ub
open PySem.EntryCells renaming newEntry->Hq
open PySem.SeqAt.EqAt renaming int_str->Lq,str_int->Mq
open PySem.SeqAt renaming notIn_listAt->Oq,eqAt_reads->ur,in_listAt->Er,EqAt->Yb
open PySem.Heap.Ns1 renaming of_empty->Yq
open Nat.succ renaming inj->Rb
open PySem.PassesOwn renaming looking->kr
open PySem.Operator renaming casesOn->yr
open PySem.Within renaming cons->Lr
open PySem.Paired renaming length->Qr
open PySem.Value.ref renaming inj->Sr
open PyProof.Rows.IsTup renaming new->bc
open PyProof.Rows.SCL renaming upper->u3a
open PySem.Heap.IsSliceOf renaming new->v3a
open PySem.W.WShape renaming has->Ur
set_option Elab.async false
set_option linter.all false
set_option maxRecDepth 100000
theorem zC:type_of% @decide_eq_false:=@decide_eq_false
theorem FA.{u}:type_of% @if_pos.{u}:=@if_pos.{u}
theorem WC.{u}:type_of% @beq_self_eq_true.{u}:=@beq_self_eq_true.{u}
theorem GC:type_of% @decide_eq_true:=@decide_eq_true
theorem vF:type_of% @decide_eq_true_eq:=@decide_eq_true_eq
theorem vB.{u}:type_of% @if_neg.{u}:=@if_neg.{u}
theorem vD.{u}:type_of% @beq_iff_eq.{u}:=@beq_iff_eq.{u}
theorem DJ.{u}:type_of% @beq_eq_false_iff_ne.{u}:=@beq_eq_false_iff_ne.{u}
theorem TM:type_of% @of_decide_eq_true:=@of_decide_eq_true
theorem CY:type_of% @decide_eq_false_iff_not:=@decide_eq_false_iff_not
local macro_rules|`(tactic|left)=>`(tactic|decide +kernel)
set_option compiler.extract_closed false
set_option genSizeOf false
set_option bootstrap.genMatcherCode false
noncomputable section
namespace L2
open PySem PySem.Spec PyProof.Rows
abbrev Key:=Sum Int bA
noncomputable def Ai:Key->dA->Bool
 |.inl k,v=>Value.isInt k v
 |.inr x,v=>WM x v
noncomputable def kIa(w:VC):Key->Int
 |.inl k=>hashInt k
 |.inr x=>hashStr w x
theorem qL:∀{k:Key} {v:dA},Ai k v=true->(∃i t,k=Sum.inl i/\v=Value.int i t)\/(∃x t,k=Sum.inr x/\v=Value.str x t)
 |.inl i,v,h=>by
  obtain⟨t,e⟩:=Value.isInt_shape (k:=i) h;exact .inl ⟨i,t,rfl,e⟩
 |.inr x,v,h=>by(obtain⟨t,e⟩:=Value.isStrOf_shape h;exact .inr ⟨x,t,rfl,e⟩)
def mIa(a b:Int):decide ((Sum.inl a:Key)=Sum.inl b)=(a==b):=by
 by_cases e:a=b
 ·subst e;simp
 ·have h:¬(Sum.inl a:Key)=Sum.inl b:=λq=>e (Sum.inl.inj q)
  rw[zC h];exact(DJ.mpr e).symm
def pIa(a b:bA):decide ((Sum.inr a:Key)=Sum.inr b)=decide (a=b):=by
 by_cases e:a=b
 ·subst e;simp
 ·have h:¬(Sum.inr a:Key)=Sum.inr b:=λq=>e (Sum.inr.inj q)
  rw[zC h,zC e]
def nIa(a:Int)(b:bA):decide ((Sum.inl a:Key)=Sum.inr b)=false:=zC (λq=>nomatch q)
def oIa(a:bA)(b:Int):decide ((Sum.inr a:Key)=Sum.inl b)=false:=zC (λq=>nomatch q)
def Vi(prog:nE)(w:VC):PySem.KeyKind prog w Key where
 is:=Ai
 hash:=kIa w
 inj:=λv a b ha hb=>by
  rcases qL ha with ⟨i,t,rfl,rfl⟩ | ⟨x,t,rfl,rfl⟩
  ·rcases qL hb with ⟨j,u,rfl,e⟩ | ⟨y,u,rfl,e⟩
   ·injection e with e1 _;rw[e1]
   ·exact nomatch e
  ·rcases qL hb with ⟨j,u,rfl,e⟩ | ⟨y,u,rfl,e⟩
   ·exact nomatch e
   ·injection e with e1 _;rw[e1]
 byValue:=λk v h=>by
  rcases qL h with ⟨i,t,rfl,rfl⟩ | ⟨x,t,rfl,rfl⟩<;>rfl
 pyHash:=λhv h=>by
  rcases qL hv with ⟨i,t,rfl,rfl⟩ | ⟨x,t,rfl,rfl⟩
  ·exact wpAny_pyHash_int h
  ·exact wpAny_pyHash_str h
 eqBool:=λhu hv h=>by
  rcases qL hu with ⟨i,t,rfl,rfl⟩ | ⟨x,t,rfl,rfl⟩
  ·rcases qL hv with ⟨j,u,rfl,rfl⟩ | ⟨y,u,rfl,rfl⟩
   ·rw[mIa] at h;exact wpAny_eqBool_int h
   ·rw[nIa] at h;exact Lq i t y u _ _ _ _ h
  ·rcases qL hv with ⟨j,u,rfl,rfl⟩ | ⟨y,u,rfl,rfl⟩
   ·rw[oIa] at h;exact Mq x t j u _ _ _ _ h
   ·rw[pIa] at h;exact wpAny_eqBool_str h
 «strs»:=λk x t v h=>by
  rcases qL h with ⟨i,u,rfl,e⟩ | ⟨y,u,rfl,e⟩
  ·exact nomatch e
  ·injection e with e1 _
   subst e1;cases v<;>rfl
inductive V where
 |rA
 |bl (b:Bool)
 |int (i:Int)
 |str (x:bA)
 |ref (a:eA)
 |ty (n:String)
instance (x:V):Decidable (x=.rA):=by cases x<;>first | exact isTrue rfl | exact isFalse (λh=>nomatch h)
def aAf:V->dA->Prop
 |.rA,u=>u=Value.none
 |.bl b,u=>u=Value.bool b
 |.int i,u=>∃t,u=Value.int i t
 |.str x,u=>∃t,u=Value.str x t
 |.ref a,u=>u=Value.ref a
 |.ty n,u=>u=Value.type n
abbrev aAe:List V->List dA->Prop:=Paired aAf
theorem aAe.length(r:aAe xs us):xs.length=us.length:=Qr r
def aAe.get{i:Nat}(h:aAe xs us)(e:xs[i]?=some x):∃u,us[i]?=some u/\aAf x u:=by
 induction h generalizing i with
 |nil=>cases e
 |cons r t ih =>
  cases i with
  |zero=>cases e;exact⟨_,rfl,r⟩
  |succ i=>exact ih e
theorem aAe.set(r:aAf x u)(i:Nat)(h:aAe xs us):aAe (xs.set i x) (us.set i u):=by
 induction h generalizing i with
 |nil=>exact .nil
 |cons q t ih =>
  cases i with
  |zero=>exact .cons r t
  |succ i=>exact .cons q (ih i)
def aAe.append(h:aAe xs us)(s:aAe ys ws):aAe (xs++ys) (us++ws):=by
 induction h with
 |nil=>exact s
 |cons r t ih=>exact .cons r ih
theorem aAe.take(n:Nat)(h:aAe xs us):aAe (xs.take n) (us.take n):=by
 induction h generalizing n with
 |nil=>cases n<;>exact .nil
 |cons r t ih =>
  cases n with
  |zero=>exact .nil
  |succ n=>exact .cons r (ih n)
theorem aAe.drop(n:Nat)(h:aAe xs us):aAe (xs.drop n) (us.drop n):=by
 induction h generalizing n with
 |nil=>cases n<;>exact .nil
 |cons r t ih =>
  cases n with
  |zero=>exact .cons r t
  |succ n=>exact ih n
def lI:Option V->Option dA->Prop
 |some v,some u=>aAf v u
 |none,none=>True
 |_,_=>False
def KV:List (J×V)->List (J×dA)->Prop:=Paired λ(p:J×V) (q:J×dA)=>p.1=q.1/\aAf p.2 q.2
noncomputable def kV:Key->V
 |.inl i=>.int i
 |.inr x=>.str x
inductive HO where
 |l (xs:List V)
 |t (xs:List V)
 |dK (JE:List (Key×V))
 |set (S:Int->Bool) (n:Nat)
 |ins (C dx:eA) (fs:List (bA×V))
 |own (x:eA)
 |xd (fs:List (bA×V))
 |met (f x:eA)
 |eE (lo hi:Int)
 |CF (o:rB) (u:HO)
 |NM (ps:Array dA)
 |ext (φ:HB->Prop)
abbrev Hp:=eA->Option HO
noncomputable def sA(H:Hp)(a:eA)(o:HO):Hp:=λb=>if b=a then some o else H b
def eC:sA H a o a=some o:=by unfold sA;rw[FA rfl]
def dB(h:b≠a):sA H a o b=H b:=by unfold sA;rw[vB h]
def F9:sA (sA H a o) a u=sA H a u:=by
 funext b;unfold sA;split<;>rfl
def dF{H:Hp}(h:H a=some o)(h':H b=none):a≠b:=by
 intro e;subst e;rw[h] at h';cases h'
section
variable(P:nE)(w:VC)
def XE(H:Hp)(h:HB)(a:eA):HO->Prop
 |.l xs=>xs.length<=sizeLine/\∃(gA:List dA) (n:Nat),aAe xs gA/\h.get? a=some { cls:=.type "list",data:=.seq gA.toArray n }
 |.t xs=>xs.length<=sizeLine/\∃gA:List dA,aAe xs gA/\IsTup h a gA.toArray
 |.dK JE=>JE.length<=sizeLine/\(a==sysModules)=false/\∃vs,KV JE vs/\h.DictOf (Vi P w) a vs
 |.set S n=>h.SetOf (intKind P w) a S n
 |.ins C dx fs=>H dx=some (.own a)/\fs.length<=1000/\dx≠a/\h.get? a=some (UM C dx) /\
   ∃mA,h.Ns1 dx mA/\(∀f,lI (fs.lookup f) (mA f))/\Lb mA (fs.map (·.1))
 |.own _=>∃o,h.get? a=some o
 |.xd fs=>∃mA,h.Ns1 a mA/\∀f,lI (fs.lookup f) (mA f)
 |.eE lo hi=>∃t u v,h.get? a=some { cls:=.type "range",data:=.fields #[.int lo t,.int hi u,.int 1 v] }
 |.CF o u=>h.get? a=some o/\XE H h a u
 |.NM ps=>h.get? a=some { cls:=.none,data:=.fields ps }
 |.met f x=>h.get? a=some (La (.ref f) (.ref x))
 |.ext φ=>φ h/\(∃o,h.get? a=some o)/\∀h1 h2:HB,φ h1->(∀o,h1.get? a=some o->h2.get? a=some o)->φ h2
def wD(H:Hp)(h:HB):Prop:=∀a o,H a=some o->XE P w H h a o
end
section
variable{o:HO}
theorem XE.lt(x:XE P w H h a o):a<h.objs.size:=by
 cases o with
 |l xs=>obtain⟨_,_,_,_,e⟩:=x;exact rC e
 |t xs=>obtain⟨_,_,_,p⟩:=x;exact p.lt
 |dK JE=>obtain⟨_,_,_,_,o,_,_,e,_⟩:=x;exact rC e
 |set S n=>obtain⟨o,_,_,_,e,_⟩:=x;exact rC e
 |ins C dx fs=>obtain⟨_,_,_,e,_⟩:=x;exact rC e
 |own y=>obtain⟨_,e⟩:=x;exact rC e
 |xd fs=>obtain⟨_,⟨_,_,_,e,_⟩,_⟩:=x;exact rC e
 |eE lo hi=>obtain⟨_,_,_,e⟩:=x;exact rC e
 |CF ob u=>obtain⟨e,_⟩:=x;exact rC e
 |NM ps=>exact rC (show h.get? a=some _ from x)
 |met f y=>exact rC (show h.get? a=some _ from x)
 |ext φ=>obtain⟨_,⟨_,e⟩,_⟩:=x;exact rC e
def XE.sJ(x:XE P w H h a o)(k:∀b u,(b=a\/H b=some (.own a))->h.get? b=some u->h'.get? b=some u)
  (ho:∀b,H b=some (.own a)->H' b=some (.own a)) (ht:∀b xs,H b=some (.t xs)->H' b=some (.t xs)):XE P w H' h' a o:=by
 induction o with
 |l xs=>obtain⟨z,gA,n,r,e⟩:=x;exact⟨z,gA,n,r,k _ _ (.inl rfl) e⟩
 |t xs=>obtain⟨z,gA,r,ob,e,c⟩:=x;exact⟨z,gA,r,ob,k _ _ (.inl rfl) e,c⟩
 |dK JE=>obtain⟨z,y,vs,r,ob,es,ep,e,c⟩:=x;exact⟨z,y,vs,r,ob,es,ep,k _ _ (.inl rfl) e,c⟩
 |set S n=>obtain⟨ob,es,ep,t,e,c⟩:=x;exact⟨ob,es,ep,t,k _ _ (.inl rfl) e,c⟩
 |ins C dx fs =>
  obtain⟨d,z,ne,e,mA,⟨od,es,ep,e2,c⟩,r⟩:=x;exact⟨ho _ d,z,ne,k _ _ (.inl rfl) e,mA,⟨od,es,ep,k _ _ (.inr d) e2,c⟩,r⟩
 |own y=>obtain⟨ob,e⟩:=x;exact⟨ob,k _ _ (.inl rfl) e⟩
 |xd fs=>obtain⟨mA,⟨od,es,ep,e,c⟩,r⟩:=x;exact⟨mA,⟨od,es,ep,k _ _ (.inl rfl) e,c⟩,r⟩
 |eE lo hi=>obtain⟨t,u,v,e⟩:=x;exact⟨t,u,v,k _ _ (.inl rfl) e⟩
 |CF ob u ih=>obtain⟨e,q⟩:=x;exact⟨k _ _ (.inl rfl) e,ih q⟩
 |NM ps =>
  have e:h.get? a=some { cls:=.none,data:=.fields ps }:=x;show h'.get? a=some { cls:=.none,data:=.fields ps };exact k a _ (.inl rfl) e
 |met f y =>
  have e:h.get? a=some (La (.ref f) (.ref y)):=x;show h'.get? a=some (La (.ref f) (.ref y));exact k a _ (.inl rfl) e
 |ext φ=>obtain⟨p,⟨o,e⟩,st⟩:=x;exact⟨st _ _ p λo q=>k _ _ (.inl rfl) q,⟨o,k _ _ (.inl rfl) e⟩,st⟩
theorem wD.lt(x:wD P w H h)(e:H a=some o):a<h.objs.size:=(x a o e).lt
def wD.fresh(x:wD P w H h)(e:h.objs.size<=a):H a=none:=by
 cases q:H a with
 |none=>rfl
 |some u=>exact absurd (iE (x.lt q) e) (DO _)
def wD.kept(x:wD P w H h)(k:∀b u,h.get? b=some u->h'.get? b=some u):wD P w H h':=λa o e =>
 (x a o e).sJ (λb u _ q=>k b u q) (λ_ q=>q) λ_ _ q=>q
def wD.laid(x:wD P w H h)(k:∀b u,h.get? b=some u->h'.get? b=some u)(hp:h.objs.size<=a)(new:XE P w (sA H a o) h' a o):wD P w (sA H a o) h':=λb u e=>by
 have hn:=x.fresh hp;by_cases hb:b=a
 ·subst hb;rw[eC] at e;cases e;exact new
 ·rw[dB hb] at e;exact(x b u e).sJ (λc v _ q=>k c v q) (λc q=>by rw[dB (dF q hn)];exact q) λc xs q=>by rw[dB (dF q hn)];exact q
end
def Rd(H:Hp)(a:eA)(u:HO):Prop:=H a=some u\/∃o,H a=some (.CF o u)
def Rd.ok(r:Rd H a u)(x:wD P w H h):XE P w H h a u:=by
 rcases r with r | ⟨o,r⟩
 ·exact x a u r
 ·obtain⟨_,q⟩:=x a _ r;exact q
def QU:Option HO->Prop
 |some (.l _)=>True
 |some (.dK _)=>True
 |some (.set _ _)=>True
 |some (.ins _ _ _)=>True
 |some (.ext _)=>True
 |_=>False
section
variable{P:nE}{w:VC}{H:Hp}{h h':HB}{x e:eA}{o':HO}
def wD.write(ok:wD P w H h)(mu:QU (H x))(he:e=x\/H e=some (.own x))(k:∀b u,b≠e->h.get? b=some u->h'.get? b=some u)(GP:∃u,h'.get? e=some u)
  (new:XE P w (sA H x o') h' x o'):wD P w (sA H x o') h':=λb u q=>by
 have j8:∀c y,H c=some (.own y)->c≠x:=λc y r z=>by subst z;rw[r] at mu;exact mu
 have bNa:∀c xs,H c=some (.t xs)->c≠x:=λc xs r z=>by subst z;rw[r] at mu;exact mu
 by_cases hb:b=x
 ·subst hb;rw[eC] at q;cases q;exact new
 ·rw[dB hb] at q;by_cases gL:b=e
  ·have q':H b=some (.own x):=by
    rcases he with z | z
    ·exact absurd (gL.trans z) hb
    ·rw[gL];exact z
   rw[q] at q';cases q';obtain⟨v,hv⟩:=GP;exact⟨v,by rw[gL];exact hv⟩
  ·refine(ok b u q).sJ (λc v hc r=>k c v ?_ r) (λc r=>by rw[dB (j8 c b r)];exact r) λc xs r=>by rw[dB (bNa c xs r)];exact r
   rcases hc with rfl | hc
   ·exact gL
   ·rintro rfl
    rcases he with z | z
    ·exact j8 c b hc z
    ·rw[hc] at z;cases z;exact hb rfl
end
structure Un(fs ex:List eA)(H H':Hp)(h h':HB):Prop where
 keep:∀b o,h.get? b=some o->H b=none->b ∉ fs->b ∉ ex->h'.get? b=some o
 slot:∀b o,h.get? b=some o->H b=none->b∈fs->b ∉ ex->∃sl,h'.get? b=some { o with slots:=sl }
 free:∀b o,h.get? b=some o->H b=none->b ∉ ex->H' b=none
 there:∀b o,h.get? b=some o->b ∉ ex->∃o',h'.get? b=some o'
 wJ:∀b xs,H b=some (.t xs)->H' b=some (.t xs)
 tI:∀b o u,H b=some (.CF o u)->H' b=some (.CF o u)
 uJ:∀b ps,H b=some (.NM ps)->∃more,H' b=some (.NM (ps++more))
section
variable{o:HO}
def Un.any(u:Un fs ex H H1 h h1)(q:h.get? b=some ob)(n:H b=none)(hx:b ∉ ex):∃sl,h1.get? b=some { ob with slots:=sl }:=by
 by_cases hb:b∈fs
 ·exact u.slot b ob q n hb hx
 ·exact⟨ob.slots,u.keep b ob q n hb hx⟩
def Un.kept(k:∀b u,h.get? b=some u->h'.get? b=some u):Un fs ex H H h h' :=
 ⟨λb ob q _ _ _=>k b ob q,λb ob q _ _ _=>⟨ob.slots,k b ob q⟩,λ_ _ _ n _=>n,λb ob q _=>⟨ob,k b ob q⟩,λ_ _ q=>q,λ_ _ _ q=>q,λ_ ps q=>⟨#[],by rw[q];simp⟩⟩
def Un.refl:Un fs ex H H h h:=Un.kept λ_ _ q=>q
def Un.laid(k:∀b u,h.get? b=some u->h'.get? b=some u)(hp:h.objs.size<=a)(hn:H a=none):Un fs ex H (sA H a o) h h' where
 keep:=λb u q _ _ _=>k b u q
 slot:=λb u q _ _ _=>⟨u.slots,k b u q⟩
 free:=λb u q n _=>by rw[dB (kE (iE (rC q) hp))];exact n
 there:=λb u q _=>⟨u,k b u q⟩
 wJ:=λb xs q=>by rw[dB (dF q hn)];exact q
 tI:=λb u xs q=>by rw[dB (dF q hn)];exact q
 uJ:=λb ps q=>⟨#[],by rw[dB (dF q hn),q];simp⟩
def Un.write(mu:QU (H x))(he:e=x\/H e=some (.own x))(k:∀b u,b≠e->h.get? b=some u->h'.get? b=some u)(GP:∃u,h'.get? e=some u):Un fs ex H (sA H x o) h h':=by
 have hx:∀b,H b=none->b≠x:=λb n z=>by subst z;rw[n] at mu;exact mu
 have hb:∀b,H b=none->b≠e:=λb n z=>by
  subst z;rcases he with r | r
  ·exact hx b n r
  ·rw[n] at r;cases r
 have hm:∀b u,H b=some u->¬QU (some u)->b≠x:=λb u q nm z=>by subst z;rw[q] at mu;exact nm mu
 refine⟨λb u q n _ _=>k b u (hb b n) q,λb u q n _ _=>⟨u.slots,k b u (hb b n) q⟩,λb u q n _=>by rw[dB (hx b n)];exact n,λb u q _=>?_,
  λb xs q=>by rw[dB (hm b _ q λz=>z)];exact q,λb u xs q=>by rw[dB (hm b _ q λz=>z)];exact q,λb ps q=>⟨#[],by rw[dB (hm b _ q λz=>z),q];simp⟩⟩
 by_cases gL:b=e
 ·subst gL;exact GP
 ·exact⟨u,k b u gL q⟩
end
noncomputable def nY(h:HB)(H:Hp):List eA:=(KC h.objs.size).filter λa=>(H a).isSome
def jL(h:HB)(H:Hp):HB:=NQ h (nY h H)
def lBa(h:HB)(H:Hp):(jL h H).objs.size=h.objs.size:=PySem.W.hideAll_size _ _
def kBa(e:h.get? b=some o)(n:H b=none):(jL h H).get? b=some o :=
 ua _ e λhm=>by(have q:(H b).isSome=true:=(OQ.mp hm).2;rw[n] at q;simp at q)
def kNa(e:(jL h H).get? b=some o):h.get? b=some o/\H b=none:=by
 have e':h.get? b=some o:=gU (nY h H) e;refine⟨e', ?_⟩
 cases q:H b with
 |none=>rfl
 |some x =>
  have hm:b∈nY h H:=OQ.mpr ⟨QQ.mpr (rC e'),by simp[q]⟩;have z:(jL h H).get? b=none:=uO (nY h H) hm;rw[z] at e;cases e
noncomputable def Iu(g h:HB)(L:eA):List (eA×rB):=(KC h.objs.size).filterMap λa=>if a=L\/(g.get? a).isSome=true then none else(h.get? a).map λo=>(a,o)
def aAj(g h:HB)(L d:eA):List (eA×rB):=(Iu g h L).filter λp=>decide (p.1≠d)
structure Mod(K:fA)(mg:bA->Option dA)(base:HB):Prop where
 kin:K.In base
 glob:base.Ns VA mg
 BB:∃mb,base.Ns builtinsNs mb/\∀x:bA,x≠"__name__"->mb x=JL x
 nolimit:base.NoLimit
structure Cx where
 prog:nE
 w:VC
 K:fA
 mg:bA->Option dA
 base:HB
 A:JF
 N:List bA
 s₀:zA
 H₀:Hp
 env:Env
 outer:List Env
 stack:List Env
 ex:List eA
 fn:bA->Bool
 calm:Bool
 pn:List (eA×rB)
 xe:dA->zA->Prop
def aE(l:List Env):List eA:=l.filterMap (·.frame)
abbrev Cx.fs(X:Cx):List eA:=aE X.outer
def aP(sc:kG)(x:bA):Prop:=sc.names.lookup x=some .local\/sc.names.lookup x=some .cell\/sc.names.lookup x=some .free
def Loc(sc:kG)(x:bA):Prop:=sc.names.lookup x=some .local\/sc.names.lookup x=some .cell
def aA5(env:Env)(h:HB)(m:bA->Option dA)(x:bA)(u:dA):Prop :=
 (env.kindOf x=some .local/\m x=some u)\/((env.kindOf x=some .cell\/env.kindOf x=some .free)/\∃c,env.cells.lookup x=some c/\h.IsCell c (some u))
structure Cx.Ok(X:Cx):Prop where
 mod:Mod X.K X.mg X.base
 kind:X.env.scope.kind=.function
 glob:X.env.globals=VA
 BB:X.env.builtins=builtinsNs
 above:X.s₀.heap.objs.size<=X.env.locals
 inj:∀x y c,X.env.cells.lookup x=some c->X.env.cells.lookup y=some c->x=y
 has:∀x,(X.env.kindOf x=some .cell\/X.env.kindOf x=some .free)->∃c,X.env.cells.lookup x=some c
 RK:∀x c,X.fn x=true->X.env.cells.lookup x=some c->X.s₀.heap.objs.size<=c
 hd:X.calm=true->X.A.handled=none
 frames:X.A.frames=some X.stack
 cD:X.stack=X.outer\/(X.stack=X.env::X.outer/\X.env.frame=some X.env.locals)
 pP:∀b∈X.ex,b≠X.env.locals/\∀x c,X.env.cells.lookup x=some c->c≠b
 bs:∀b o,X.base.get? b=some o->X.s₀.heap.get? b=some o/\X.H₀ b=none
 nI:X.base.objs.size<=X.s₀.heap.objs.size
 wL:∀b o,X.base.get? b=some o->b ∉ X.ex
 nM:∀b∈X.ex,b ∉ X.fs
 TF:X.s₀.heap.FunFrames X.base X.outer
 dJ:∀b∈X.fs,X.H₀ b=none
structure cA(X:Cx)(aA:List (eA×rB))(Y:List (Option V))(H:Hp)(s:zA):Prop where
 ok:X.Ok
 os:s.os=X.s₀.os
 bare:EK s.gens
 base:Un X.fs X.ex X.H₀ H X.s₀.heap s.heap
 loc:∃m,s.heap.Ns X.env.locals m/\∀(i:Nat) (x:bA) (v:V),X.N[i]?=some x->Y[i]?=some (some v)->aP X.env.scope x->∃u,aAf v u/\aA5 X.env s.heap m x u
 cell:∀x c,X.env.cells.lookup x=some c->∃v,s.heap.IsCell c v
 free:H X.env.locals=none
 aF:∀x c,X.env.cells.lookup x=some c->H c=none
 pin:∀p∈X.pn++aA,s.heap.get? p.1=some p.2/\H p.1=none/\p.1≠X.env.locals/\p.1 ∉ X.fs/\∀v,p.2.data≠.cell v
 IA:wD X.prog X.w H s.heap
 len:Y.length=X.N.length
section
variable{X:Cx}
def Cx.Ok.sMa(ok:X.Ok)(e:X.base.get? b=some o):b ∉ X.fs:=λhb=>by
 have:=(ok.TF.mem hb).1
 rw[e] at this;cases this
theorem cA.bs(I:cA X aA Y H s):∀b o,X.base.get? b=some o->s.heap.get? b=some o/\H b=none:=λb o e =>
 ⟨I.base.keep b o (I.ok.bs b o e).1 (I.ok.bs b o e).2 (I.ok.sMa e) (I.ok.wL b o e),I.base.free b o (I.ok.bs b o e).1 (I.ok.bs b o e).2 (I.ok.wL b o e)⟩
def cA.bk(I:cA X aA Y H s):∀b o,X.base.get? b=some o->s.heap.get? b=some o:=λb o e=>(I.bs b o e).1
theorem cA.mod(I:cA X aA Y H s):Mod X.K X.mg X.base:=I.ok.mod
def cA.wC(I:cA X aA Y H s):X.K.In s.heap:=I.ok.mod.kin.keeps I.bk
theorem cA.lt(I:cA X aA Y H s):X.env.locals<s.heap.objs.size:=let ⟨_,hn,_⟩:=I.loc;hn.lt
def cA.sz(I:cA X aA Y H s):X.s₀.heap.objs.size<=s.heap.objs.size:=lD I.ok.above (Mb I.lt)
def cA.uMa(I:cA X aA Y H s)(h:s.heap.objs.size<=a):a ∉ X.fs:=λhb=>by
 obtain⟨_,o,ho,_⟩:=I.ok.TF.mem hb;exact absurd (iE (rC ho) (lD I.sz h)) (DO _)
def cA.SK(I:cA X aA Y H s):∀x c,X.env.cells.lookup x=some c->c≠X.env.locals:=λx c e z=>by
 obtain⟨v,o,ho,hd⟩:=I.cell x c e;obtain⟨m,⟨o',es,ep,lJ,vI,_⟩,_⟩:=I.loc;rw[z,lJ] at ho;cases ho;rw[vI] at hd;cases hd
theorem cA.TF(I:cA X aA Y H s):s.heap.FunFrames X.base X.outer:=by
 have all:∀(l:List Env),(∀b∈aE l,b∈X.fs)->X.s₀.heap.FunFrames X.base l->s.heap.FunFrames X.base l:=by
  intro l
  induction l with
  |nil=>intro _ _;trivial
  |cons env r ih =>
   intro hs hl;obtain⟨hk,⟨L,o,hf,hn,ho,hd⟩,hr⟩:=hl;have hL:L∈X.fs:=hs L (by unfold aE;rw[wa,hf];exact BE);obtain⟨sl,e⟩:=I.base.slot L o ho (I.ok.dJ L hL) hL λz=>I.ok.nM L z hL
   exact⟨hk,⟨L,_,hf,hn,e,hd⟩,ih (λb hb=>hs b (by unfold aE;rw[wa,hf];exact OD _ hb)) hr⟩
 exact all X.outer (λ_ hb=>hb) I.ok.TF
theorem cA.stack(I:cA X aA Y H s):s.heap.FunFrames X.base X.stack:=by
 rcases I.ok.cD with e | ⟨e,hf⟩
 ·rw[e];exact I.TF
 ·rw[e];obtain⟨m,hn,_⟩:=I.loc;refine .cons (by rw[I.ok.kind];decide) hf hn ?_ I.TF;exact vO (lD I.ok.nI I.ok.above)
def cA.fY(I:cA X aA Y H s):∀b∈aE X.stack,b∈X.env.locals::X.fs:=λb hb=>by
 rcases I.ok.cD with e | ⟨e,hf⟩
 ·rw[e] at hb;exact OD _ hb
 ·rw[e] at hb;unfold aE at hb;rw[wa,hf] at hb;exact hb
def cA.Z8(I:cA X aA Y H s):∀b∈aE X.stack,H b=none:=λb hb=>by
 rcases eD.mp (I.fY b hb) with e | hb
 ·rw[e];exact I.free
 ·obtain⟨_,o,ho,_⟩:=I.ok.TF.mem hb;exact I.base.free b o ho (I.ok.dJ b hb) λz=>I.ok.nM b z hb
def cA.step{ch:List eA}(I:cA X aA Y H s)
  (bK:∀b∈ch,(b∈X.ex\/X.s₀.heap.get? b=none)/\b≠X.env.locals/\(∀x c,X.env.cells.lookup x=some c->c≠b)/\∀p∈X.pn++aA,p.1≠b)
  (keep:∀b o,b≠X.env.locals->b ∉ X.fs->b ∉ ch->s.heap.get? b=some o->H b=none->h'.get? b=some o)
  (slot:∀b o,b≠X.env.locals->b∈X.fs->b ∉ ch->s.heap.get? b=some o->H b=none->∃sl,h'.get? b=some { o with slots:=sl }) (free:∀b o,b ∉ ch->s.heap.get? b=some o->H b=none->H' b=none)
  (there:∀b o,b ∉ ch->s.heap.get? b=some o->∃o',h'.get? b=some o')
  (wJ:∀b xs,H b=some (.t xs)->H' b=some (.t xs)) (tI:∀b o u,H b=some (.CF o u)->H' b=some (.CF o u)) (uJ:∀b ps,H b=some (.NM ps)->∃more,H' b=some (.NM (ps++more)))
  (ns:∀m,s.heap.Ns X.env.locals m->h'.Ns X.env.locals m) (IA:wD X.prog X.w H' h') (hg:EK g') :
  cA X aA Y H' { s with heap:=h',gens:=g',drawn:=d',toks:=t' }:=by
 have kj:∀b o,X.s₀.heap.get? b=some o->b≠X.env.locals:=λb o e=>kE (iE (rC e) I.ok.above)
 have lX:∀b o,X.s₀.heap.get? b=some o->b ∉ X.ex->b ∉ ch:=λb o e hx hb=>by
  rcases(bK b hb).1 with z | z
  ·exact hx z
  ·rw[z] at e;cases e
 have cellK:∀x c,X.env.cells.lookup x=some c->∀v,s.heap.IsCell c v->h'.IsCell c v:=λx c e v hz=>by
  obtain⟨o,ho,hd⟩:=hz;have MS:c ∉ ch:=λz=>(bK c z).2.2.1 x c e rfl
  by_cases hc:c∈X.fs
  ·obtain⟨sl,q⟩:=slot c o (I.SK x c e) hc MS ho (I.aF x c e);exact⟨_,q,hd⟩
  ·exact⟨o,keep c o (I.SK x c e) hc MS ho (I.aF x c e),hd⟩
 refine⟨I.ok,I.os,hg,⟨λb o e n hb hx=>?_,λb o e n hb hx=>?_,λb o e n hx=>?_,λb o e hx=>?_,λb xs e=>wJ b xs (I.base.wJ b xs e),λb o xs e=>tI b o xs (I.base.tI b o xs e),λb ps e=>?_⟩, ?_,λx c e=>?_, ?_,λx c e=>?_,λp hp=>?_,IA,I.len⟩
 ·exact keep b o (kj b o e) hb (lX b o e hx) (I.base.keep b o e n hb hx) (I.base.free b o e n hx)
 ·obtain⟨sl,e1⟩:=I.base.slot b o e n hb hx;obtain⟨dm,e2⟩:=slot b _ (kj b o e) hb (lX b o e hx) e1 (I.base.free b o e n hx);exact⟨dm,e2⟩
 ·obtain⟨o',e1⟩:=I.base.there b o e hx;exact free b o' (lX b o e hx) e1 (I.base.free b o e n hx)
 ·obtain⟨o',e1⟩:=I.base.there b o e hx;exact there b o' (lX b o e hx) e1
 ·obtain⟨m1,e1⟩:=I.base.uJ b ps e;obtain⟨m2,e2⟩:=uJ b _ e1;exact⟨m1++m2,by rw[e2,Array.append_assoc]⟩
 ·obtain⟨m,hn,hl⟩:=I.loc;refine⟨m,ns m hn,λi x v e1 e2 e3=>?_⟩;obtain⟨u,r,l⟩:=hl i x v e1 e2 e3;refine⟨u,r, ?_⟩;rcases l with l | ⟨k,c,e,z⟩
  ·exact .inl l
  ·exact .inr ⟨k,c,e,cellK x c e _ z⟩
 ·obtain⟨v,z⟩:=I.cell x c e;exact⟨v,cellK x c e v z⟩
 ·obtain⟨m,⟨o,_,_,ho,_⟩,_⟩:=I.loc;exact free _ o (λz=>(bK _ z).2.1 rfl) ho I.free
 ·obtain⟨v,o,ho,hd⟩:=I.cell x c e;exact free c o (λz=>(bK c z).2.2.1 x c e rfl) ho (I.aF x c e)
 ·obtain⟨e,n,ne,nf,d⟩:=I.pin p hp;have MS:p.1 ∉ ch:=λz=>(bK p.1 z).2.2.2 p hp rfl
  exact⟨keep p.1 p.2 ne nf MS e n,free p.1 p.2 MS e n,ne,nf,d⟩
def cA.un{t':Nat}(I:cA X aA Y H s)(u:Un X.fs [] H H' s.heap h')(IA:wD X.prog X.w H' h'):cA X aA Y H' { s with heap:=h',toks:=t' }:=by
 obtain⟨m,⟨o,es,ep,ho,r⟩,_⟩:=id I.loc;obtain⟨sl,hL⟩:=u.any ho I.free (by simp)
 exact I.step (g':=s.gens) (d':=s.drawn) (ch:=[]) (λ_ z=>nomatch z) (λb o _ hb _ e n=>u.keep b o e n hb (by simp)) (λb o _ hb _ e n=>u.slot b o e n hb (by simp)) (λb o _ e n=>u.free b o e n (by simp)) (λb o _ e=>u.there b o e (by simp)) u.wJ u.tI u.uJ (λm' hm=>by
  obtain⟨o',KR,C2,lJ,r'⟩:=hm;rw[ho] at lJ;cases lJ
  exact⟨_,KR,C2,hL,r'⟩) IA I.bare
def cA.call(I:cA X aA Y H s)(u:Un (aE X.stack) ch H H' s.heap h')(IA:wD X.prog X.w H' h')(hg:EK g')
  (bK:∀b∈ch,(b∈X.ex\/X.s₀.heap.get? b=none)/\b≠X.env.locals/\(∀x c,X.env.cells.lookup x=some c->c≠b)/\∀p∈X.pn++aA,p.1≠b) :
  cA X aA Y H' { s with heap:=h',gens:=g',drawn:=d',toks:=t' }:=by
 obtain⟨m,⟨o,es,ep,ho,r⟩,_⟩:=id I.loc;obtain⟨sl,hL⟩:=u.any ho I.free λz=>(bK _ z).2.1 rfl
 exact I.step bK (λb o hL hb hc e n=>u.keep b o e n (λz=>(eD.mp (I.fY b z)).elim hL hb) hc) (λb o _ _ hc e n=>u.any e n hc) (λb o hc e n=>u.free b o e n hc) (λb o hc e=>u.there b o e hc) u.wJ u.tI u.uJ (λm' hm=>by
  obtain⟨o',KR,C2,lJ,r'⟩:=hm;rw[ho] at lJ;cases lJ
  exact⟨_,KR,C2,hL,r'⟩) IA hg
def cA.turned{it:eA}(I:cA X aA Y H s)(k:∀b o,b≠it->s.heap.get? b=some o->h'.get? b=some o)(hn:H it=none)(hL:it≠X.env.locals)
  (h1:it∈X.ex\/X.s₀.heap.get? it=none) (h2:∀x c,X.env.cells.lookup x=some c->c≠it) (h3:∀p∈X.pn++aA,p.1≠it):cA X aA Y H { s with heap:=h',toks:=t' }:=by
 have mj:∀b u,H b=some u->b≠it:=λb u e z=>by rw[z,hn] at e;cases e
 refine I.step (g':=s.gens) (d':=s.drawn) (ch:=[it]) (λb hb=>?_) (λb o _ _ hc e _=>k b o (λz=>hc (by simp[z])) e) (λb o _ _ hc e _=>⟨o.slots,k b o (λz=>hc (by simp[z])) e⟩) (λ_ _ _ _ n=>n)
  (λb o hc e=>⟨o,k b o (λz=>hc (by simp[z])) e⟩) (λ_ _ e=>e) (λ_ _ _ e=>e) (λb ps e=>⟨#[],by rw[e];simp⟩) (λm hm=>?_) (λb u e=>?_) I.bare
 ·have e:b=it:=by simpa using hb
  subst e;exact⟨h1,hL,h2,h3⟩
 ·obtain⟨o,es,ep,ho,r⟩:=hm;exact⟨o,es,ep,k _ o (KD hL) ho,r⟩
 ·refine(I.IA b u e).sJ (λc v hc q=>k c v ?_ q) (λ_ q=>q) λ_ _ q=>q
  rcases hc with z | z
  ·rw[z];exact mj b u e
  ·exact mj c _ z
def cA.tok(I:cA X aA Y H s)(t:Nat):cA X aA Y H { s with toks:=t }:=I.un (h':=s.heap) (t':=t) Un.refl I.IA
theorem cA.kept(I:cA X aA Y H s)(k:∀b u,s.heap.get? b=some u->h'.get? b=some u):cA X aA Y H { s with heap:=h',toks:=t' }:=I.un (Un.kept k) (I.IA.kept k)
theorem cA.laid(I:cA X aA Y H s)(k:∀b u,s.heap.get? b=some u->h'.get? b=some u)(hp:s.heap.objs.size<=a)(new:XE X.prog X.w (sA H a o) h' a o) :
  cA X aA Y (sA H a o) { s with heap:=h',toks:=t' }:=I.un (Un.laid k hp (I.IA.fresh hp)) (I.IA.laid k hp new)
theorem cA.write(I:cA X aA Y H s)(mu:QU (H x))(he:e=x\/H e=some (.own x))(k:∀b u,b≠e->s.heap.get? b=some u->h'.get? b=some u)(GP:∃u,h'.get? e=some u)
  (new:XE X.prog X.w (sA H x o) h' x o):cA X aA Y (sA H x o) { s with heap:=h',toks:=t' }:=I.un (Un.write mu he k GP) (I.IA.write mu he k GP new)
def cA.vk(I:cA X aA Y H s)(h:∀p∈kD,s.heap.get? p.1=some p.2/\H p.1=none/\p.1≠X.env.locals/\p.1 ∉ X.fs/\∀v,p.2.data≠.cell v):cA X kD Y H s :=
 ⟨I.ok,I.os,I.bare,I.base,I.loc,I.cell,I.free,I.aF,λp hp=>(iI.mp hp).elim (λz=>I.pin p (cN _ z)) (h p),I.IA,I.len⟩
def d8{N:List bA}(hN:N.Nodup){i j:Nat}(a:N[i]?=some x)(b:N[j]?=some x):i=j:=by
 obtain⟨h1,e1⟩:=LD.mp a;obtain⟨h2,e2⟩:=LD.mp b;exact(List.getElem_inj hN).mp (e1.trans e2.symm)
def Jm(I:cA X aA Y H s)(hN:X.N.Nodup)(hi:X.N[i]?=some x)(hx:Loc X.env.scope x)(r:aAf v u)
  (h:∀s',cA X aA (Y.set i (some v)) H s'->(∃a,BK a s.heap s'.heap/\(a=X.env.locals\/X.env.cells.lookup x=some a))->Q () s') (hf:X.fn x=true\/X.env.scope.names.lookup x=some .local:=by first | exact .inl rfl | exact .inr rfl | assumption):wA M A (storeName X.env x u) Q E s:=by
 obtain⟨m,hn,hl⟩:=id I.loc;have vAa:(X.env.scope.kind==.class||(X.env.scope.kind==.module&&X.env.locals != X.env.globals))=false:=by rw[I.ok.kind];rfl
 have Jf:i<Y.length:=by rw[I.len];exact(LD.mp hi).1
 have SK:=I.SK
 have tracked:∀{a:eA} {h':HB},(∃o,s.heap.get? a=some o/\H a=none)->BK a s.heap h'->wD X.prog X.w H h':=λ{a h'} ha hs b ob e=>by
  obtain⟨_,_,Ef⟩:=ha;refine(I.IA b ob e).sJ (λc w' hc q=>(hs.2 c ?_).trans q) (λ_ q=>q) λ_ _ q=>q
  rintro rfl
  rcases hc with rfl | hc
  ·rw[Ef] at e;cases e
  ·rw[Ef] at hc;cases hc
 rcases hx with hk | hk
 ·refine wpAny_storeName_local hk hn (λh' NP hs=>?_) vAa;obtain⟨oL,_,_,Tf,_⟩:=id hn;refine h _ ⟨I.ok,I.os,I.bare,⟨λb o e n hb hx=>?_,λb o e n hb hx=>?_,I.base.free,λb o e hx=>?_,I.base.wJ,I.base.tI,I.base.uJ⟩,⟨_,NP,λj y v' e1 e2 e3=>?_⟩,λy c e=>?_,I.free,I.aF,λp hp=>?_,tracked ⟨oL,Tf,I.free⟩ hs,by simpa using I.len⟩ ⟨_,hs,.inl rfl⟩
  ·exact(hs.2 b (kE (iE (rC e) I.ok.above))).trans (I.base.keep b o e n hb hx)
  ·obtain⟨sl,e1⟩:=I.base.slot b o e n hb hx;exact⟨sl,(hs.2 b (kE (iE (rC e) I.ok.above))).trans e1⟩
  ·obtain⟨o',e1⟩:=I.base.there b o e hx;exact⟨o',(hs.2 b (kE (iE (rC e) I.ok.above))).trans e1⟩
  ·by_cases hj:j=i
   ·subst hj;rw[hi] at e1;cases e1;rw[gI Jf] at e2;cases e2;exact⟨u,r,.inl ⟨hk,by simp⟩⟩
   ·rw[gE (KD hj)] at e2;obtain⟨u',r',q⟩:=hl j y v' e1 e2 e3;refine⟨u',r', ?_⟩;rcases q with ⟨k,e⟩ | ⟨k,c,e,z⟩
    ·refine .inl ⟨k, ?_⟩
     have:y≠x:=λe=>hj (d8 hN e1 (e ▸ hi))
     simp[this,e]
    ·exact .inr ⟨k,c,e,z.sameBut hs (SK y c e)⟩
  ·obtain⟨w',z⟩:=I.cell y c e;exact⟨w',z.sameBut hs (SK y c e)⟩
  ·obtain⟨e,n,ne,nf,d⟩:=I.pin p hp;exact⟨(hs.2 p.1 ne).trans e,n,ne,nf,d⟩
 ·have TB:X.fn x=true:=by
   rcases hf with z | z
   ·exact z
   ·rw[z] at hk;cases hk
  obtain⟨c,hc⟩:=I.ok.has x (.inl hk);obtain⟨w',z⟩:=I.cell x c hc;refine wpAny_storeName_cell I.ok.kind hk hc z (λh' PH hs=>?_);obtain⟨oc,zW,cCa⟩:=id z;refine h { s with heap:=h' } ⟨I.ok,I.os,I.bare,⟨λb o e n hb hx=>?_,λb o e n hb hx=>?_,I.base.free,λb o e hx=>?_,I.base.wJ,I.base.tI,I.base.uJ⟩,⟨m,hn.sameBut hs (KD (SK x c hc)),λj y v' e1 e2 e3=>?_⟩,λy c' e=>?_,I.free,I.aF,λp hp=>?_,tracked ⟨oc,zW,I.aF x c hc⟩ hs,by simpa using I.len⟩ ⟨c,hs,.inr hc⟩
  ·exact(hs.2 b (kE (iE (rC e) (I.ok.RK x c TB hc)))).trans (I.base.keep b o e n hb hx)
  ·obtain⟨sl,e1⟩:=I.base.slot b o e n hb hx;exact⟨sl,(hs.2 b (kE (iE (rC e) (I.ok.RK x c TB hc)))).trans e1⟩
  ·obtain⟨o',e1⟩:=I.base.there b o e hx;exact⟨o',(hs.2 b (kE (iE (rC e) (I.ok.RK x c TB hc)))).trans e1⟩
  ·by_cases hj:j=i
   ·subst hj;rw[hi] at e1;cases e1;rw[gI Jf] at e2;cases e2;exact⟨u,r,.inr ⟨.inl hk,c,hc,PH⟩⟩
   ·rw[gE (KD hj)] at e2;obtain⟨u',r',q⟩:=hl j y v' e1 e2 e3;refine⟨u',r', ?_⟩;rcases q with q | ⟨k,c',e,z'⟩
    ·exact .inl q
    ·refine .inr ⟨k,c',e,z'.sameBut hs ?_⟩
     rintro rfl
     exact hj (d8 hN e1 (I.ok.inj _ _ _ e hc ▸ hi))
  ·by_cases vM:c'=c
   ·subst vM;exact⟨_,PH⟩
   ·obtain⟨w2,z2⟩:=I.cell y c' e;exact⟨w2,z2.sameBut hs vM⟩
  ·obtain⟨e,n,ne,nf,d⟩:=I.pin p hp;refine⟨(hs.2 p.1 ?_).trans e,n,ne,nf,d⟩;intro q;rw[q,zW] at e;have q':oc=p.2:=wF e;exact d w' (by rw[<- q'];exact cCa)
def a9(I:cA X aA Y H s)(hN:X.N.Nodup)(hi:X.N[i]?=some x)(hx:Loc X.env.scope x)(r:aAf v u)
  (h:∀s',cA X aA (Y.set i (some v)) H s'->Q () s') (hf:X.fn x=true\/X.env.scope.names.lookup x=some .local:=by first | exact .inl rfl | exact .inr rfl | assumption):wA M A (storeName X.env x u) Q E s :=
 Jm I hN hi hx r (λs' I' _=>h s' I') hf
def cA.Ad(I:cA X aA Y H s)(ho:s'.os=s.os)(u:Un (aE X.stack) ch H H' s.heap s'.heap)(IA:wD X.prog X.w H' s'.heap)(hg:EK s'.gens)
  (bK:∀b∈ch,(b∈X.ex\/X.s₀.heap.get? b=none)/\b≠X.env.locals/\(∀x c,X.env.cells.lookup x=some c->c≠b)/\∀p∈X.pn++aA,p.1≠b):cA X aA Y H' s':=by
 obtain⟨h',g',d',t',o'⟩:=s';have e:o'=s.os:=ho;subst e;exact I.call u IA hg bK
end
abbrev XK:=dA->Option eA×Bool->Hp->Prop
abbrev St:=List (Option V)
abbrev VK:=V->Hp->Prop
abbrev TE:=St->Hp->VK->Prop
abbrev TT:=St->Hp->(Bool->Hp->Prop)->Prop
abbrev TA:=St->Hp->(List V->Hp->Prop)->Prop
structure Ends where
 nx:St->Hp->Prop
 rt:VK
 bk:St->Hp->Prop:=λ_ _=>False
 ct:St->Hp->Prop:=λ_ _=>False
abbrev TS:=Ends->St->Hp->Prop
def EP(X:Cx)(aA:List (eA×rB))(Y:St)(Q:VK)(u:dA)(s':zA):Prop:=∃v H',cA X aA Y H' s'/\aAf v u/\Q v H'
def TP(X:Cx)(aA:List (eA×rB))(Y:St)(Q:Bool->Hp->Prop)(b:Bool)(s':zA):Prop:=∃H',cA X aA Y H' s'/\Q b H'
def AP(X:Cx)(aA:List (eA×rB))(Y:St)(Q:List V->Hp->Prop)(us:List dA)(s':zA):Prop:=∃vs H',cA X aA Y H' s'/\aAe vs us/\Q vs H'
def SP(X:Cx)(aA:List (eA×rB))(D:Ends)(f:Flow)(s':zA):Prop :=
 match f with
 |.next=>∃Y' H',cA X aA Y' H' s'/\D.nx Y' H'
 |.brk=>∃Y' H',cA X aA Y' H' s'/\D.bk Y' H'
 |.cont=>∃Y' H',cA X aA Y' H' s'/\D.ct Y' H'
 |.ret u=>∃v Y' H',cA X aA Y' H' s'/\aAf v u/\D.rt v H'
def PE(X:Cx)(e:vA)(t:TE):Prop :=
 ∀(aA:List (eA×rB)) (s:zA) (Y:St) (H:Hp) (Q:VK),cA X aA Y H s->t Y H Q->wA (model X.prog X.w) X.A (eval e X.env) (EP X aA Y Q) X.xe s
def PT(X:Cx)(e:vA)(t:TT):Prop :=
 ∀(aA:List (eA×rB)) (s:zA) (Y:St) (H:Hp) (Q:Bool->Hp->Prop),cA X aA Y H s->t Y H Q->wA (model X.prog X.w) X.A (isTrue e X.env (eval e X.env)) (TP X aA Y Q) X.xe s
def PW(X:Cx)(e:vA)(t:TT):Prop :=
 ∀(whole:Sem dA) (aA:List (eA×rB)) (s:zA) (Y:St) (H:Hp) (Q:Bool->Hp->Prop),cA X aA Y H s->t Y H Q->wA (model X.prog X.w) X.A (isTrue e X.env whole) (TP X aA Y Q) X.xe s
def PW.pt(h:PW X e t):PT X e t:=h _
def PA(X:Cx)(es:List vA)(t:TA):Prop :=
 ∀(pos:BC) (aA:List (eA×rB)) (s:zA) (Y:St) (H:Hp) (Q:List V->Hp->Prop),cA X aA Y H s->t Y H Q->wA (model X.prog X.w) X.A (spliced (nD pos (zB es X.env))) (AP X aA Y Q) X.xe s
def PS(X:Cx)(st:WA)(t:TS):Prop :=
 ∀(aA:List (eA×rB)) (s:zA) (Y:St) (H:Hp) (D:Ends),cA X aA Y H s->t D Y H->wA (model X.prog X.w) X.A (exec st X.env) (SP X aA D) X.xe s
def LC(X:Cx)(st:List WA)(t:TS):Prop :=
 ∀(aA:List (eA×rB)) (s:zA) (Y:St) (H:Hp) (D:Ends),cA X aA Y H s->t D Y H->wA (model X.prog X.w) X.A (execs st X.env) (SP X aA D) X.xe s
def RA(h:wA M A t Q E s)(hQ:∀a s,Q a s->Q' a s):wA M A t Q' E s:=DE h hQ λ_ _ x=>x
section
variable{X:Cx}
def dI(i:Nat):TE:=λY H Q=>∃v,Y[i]?=some (some v)/\Q v H
def tC(v:V):TE:=λ_ H Q=>Q v H
def lQ(hN:X.N[i]?=some x)(hv:aP X.env.scope x)(hd:(x==("__debug__":bA))=false:=by decide)(QG:(x==("__classdict__":bA))=false:=by decide):PE X (.Name x pos) (dI i):=by
 intro aA s Y H Q I h;obtain⟨v,e,h⟩:=h;obtain⟨m,hn,hl⟩:=I.loc;obtain⟨u,r,l⟩:=hl i x v hN e hv;have fin:EP X aA Y Q u s:=⟨v,H,I,r,h⟩
 rcases l with ⟨hk,hm⟩ | ⟨hk,c,hc,gJ⟩
 ·exact Xb (wpAny_loadName_local I.ok.kind hk hn hm fin) hd
 ·rcases hk with hk | hk
  ·exact Xb (wpAny_loadName_cell I.ok.kind hk hc gJ fin) hd
  ·exact Xb (wpAny_loadName_free I.ok.kind hk hc gJ fin QG) hd
def Xj{i j pos}:PE X (.Constant (.int i) j pos) (tC (.int i)):=λ_ _ _ H _ I h=>wpAny_Constant_int ⟨.int i,H,I.tok _,⟨_,rfl⟩,h⟩
def Tj{b j pos}:PE X (.Constant (.bool b) j pos) (tC (.bl b)):=λ_ _ _ H _ I h=>Constant_bool ⟨.bl b,H,I,rfl,h⟩
def xRa{j pos}:PE X (.Constant .none j pos) (tC .rA):=λ_ _ _ H _ I h=>Constant_none ⟨.rA,H,I,rfl,h⟩
def YS{x j pos}:PE X (.Constant (.str x) j pos) (tC (.str x)):=λ_ _ _ H _ I h=>Calls.Constant_str ⟨.str x,H,I.tok _,⟨_,rfl⟩,h⟩
def Gl(X:Cx)(x:bA):Prop:=X.env.kindOf x=some .globalImplicit
def tL(I:cA X aA Y H s)(hg:Gl X x)(hm:X.mg x=some u)(h:Q u s)
  (hd:(x==("__debug__":bA))=false:=by decide):wA (model X.prog X.w) X.A (eval (.Name x pos) X.env) Q E s :=
 Calls.Name_function_global I.ok.kind hg (Calls.loadGlobal_global (by rw[I.ok.glob];exact I.mod.glob.keeps I.bk) hm h) hd
def QN(I:cA X aA Y H s)(hg:Gl X x)(hm:X.mg x=none)(hv:JL x=some u)(h:Q u s)
  (hn:x≠"__name__":=by decide) (hd:(x==("__debug__":bA))=false:=by decide):wA (model X.prog X.w) X.A (eval (.Name x pos) X.env) Q E s:=by
 obtain⟨mb,h1,h2⟩:=I.mod.BB;exact Calls.Name_function_global I.ok.kind hg (Calls.loadGlobal_builtin (by rw[I.ok.glob];exact I.mod.glob.keeps I.bk) hm (by rw[I.ok.BB];exact h1.keeps I.bk) ((h2 x hn).trans hv) h) hd
def XS(hg:Gl X x)(hm:X.mg x=some u)(r:aAf v u)(hd:(x==("__debug__":bA))=false:=by decide):PE X (.Name x pos) (tC v) :=
 λ_ _ _ H _ I h=>tL I hg hm ⟨v,H,I,r,h⟩ hd
def jQ(hg:Gl X x)(hm:X.mg x=none)(hv:JL x=some u)(r:aAf v u)(hn:x≠"__name__":=by decide)(hd:(x==("__debug__":bA))=false:=by decide):PE X (.Name x pos) (tC v) :=
 λ_ _ _ H _ I h=>QN I hg hm hv ⟨v,H,I,r,h⟩ hn hd
variable{pos:BC}
variable{aAj:List vA}
def Fo(t u:TT):TT:=λY H Q=>t Y H λc H1=>if c=true then u Y H1 Q else Q false H1
def Io(t u:TT):TT:=λY H Q=>t Y H λc H1=>if c=true then Q true H1 else u Y H1 Q
def z0a(t:TT):TT:=λY H Q=>t Y H λc H1=>Q (!c) H1
def aAX(ha:PT X a tA):PW X (.BoolOp .And [a] pos) tA:=by
 intro wh aA s Y H Q I h;refine isTrue_and (RA (ha aA s Y H Q I h) λc s1 e=>?_)
 cases c with
 |true=>exact isTrue_and_nil e
 |false=>exact e
def aAZ(ha:PT X a tA):PW X (.BoolOp .Or [a] pos) tA:=by
 intro wh aA s Y H Q I h;refine isTrue_or (RA (ha aA s Y H Q I h) λc s1 e=>?_)
 cases c with
 |false=>exact isTrue_or_nil e
 |true=>exact e
def aA1(ha:PT X a tA)(hb:PW X (.BoolOp .And (b::aAj) pos) g9):PW X (.BoolOp .And (a::b::aAj) pos) (Fo tA g9):=by
 intro wh aA s Y H Q I h;refine isTrue_and (RA (ha aA s Y H _ I h) λc s1 hz=>?_);obtain⟨H1,I1,q1⟩:=hz
 cases c with
 |true=>exact hb wh aA s1 Y H1 Q I1 q1
 |false=>exact⟨H1,I1,q1⟩
def aA4(ha:PT X a tA)(hb:PW X (.BoolOp .Or (b::aAj) pos) g9):PW X (.BoolOp .Or (a::b::aAj) pos) (Io tA g9):=by
 intro wh aA s Y H Q I h;refine isTrue_or (RA (ha aA s Y H _ I h) λc s1 hz=>?_);obtain⟨H1,I1,q1⟩:=hz
 cases c with
 |true=>exact⟨H1,I1,q1⟩
 |false=>exact hb wh aA s1 Y H1 Q I1 q1
def sUa(ha:PT X a tA):PT X (.UnaryOp .Not a pos) (z0a tA):=by
 intro aA s Y H Q I h;exact isTrue_not (ha aA s Y H (λc H1=>Q (!c) H1) I h)
def Ho(ta tb:TE):TE:=λY H Q=>ta Y H λx H1=>∃c,x=.bl c/\if c=true then tb Y H1 Q else Q (.bl false) H1
def Jo(ta tb:TE):TE:=λY H Q=>ta Y H λx H1=>∃c,x=.bl c/\if c=true then Q (.bl true) H1 else tb Y H1 Q
def Zj{op}(h:PE X a t):PE X (.BoolOp op [a] pos) t:=λaA s Y H Q I hw=>BoolOp_one (h aA s Y H Q I hw)
def kRa(ha:PE X a ta)(hb:PE X (.BoolOp .And (b::aAj) pos) tb):PE X (.BoolOp .And (a::b::aAj) pos) (Ho ta tb):=by
 intro aA s Y H Q I h;refine BoolOp_and (RA (ha aA s Y H _ I h) λv s1 hz=>?_);obtain⟨x,H1,I1,r1,q1⟩:=hz;obtain⟨c,rfl,q1⟩:=q1;cases r1;refine SM ?_
 cases c with
 |true=>exact hb aA s1 Y H1 Q I1 q1
 |false=>exact⟨.bl false,H1,I1,rfl,q1⟩
def FX(ha:PE X a ta)(hb:PE X (.BoolOp .Or (b::aAj) pos) tb):PE X (.BoolOp .Or (a::b::aAj) pos) (Jo ta tb):=by
 intro aA s Y H Q I h;refine BoolOp_or (RA (ha aA s Y H _ I h) λv s1 hz=>?_);obtain⟨x,H1,I1,r1,q1⟩:=hz;obtain⟨c,rfl,q1⟩:=q1;cases r1;refine SM ?_
 cases c with
 |false=>exact hb aA s1 Y H1 Q I1 q1
 |true=>exact⟨.bl true,H1,I1,rfl,q1⟩
noncomputable def tIf(t:TT)(ta tb:TE):TE:=λY H Q=>t Y H λc H1=>if c=true then ta Y H1 Q else tb Y H1 Q
def qRa(hc:PT X c tA)(ha:PE X a ta)(hb:PE X b tb):PE X (.IfExp c a b pos) (tIf tA ta tb):=by
 intro aA s Y H Q I h;refine wpAny_IfExp (RA (hc aA s Y H _ I h) λd s1 hz=>?_);obtain⟨H1,I1,q1⟩:=hz
 cases d with
 |true=>exact ha aA s1 Y H1 Q I1 q1
 |false=>exact hb aA s1 Y H1 Q I1 q1
end
def DB(K:fA)(H:Hp)(a:eA)(xs:List V):Prop :=
 Rd H a (.l xs) \/
  ∃(o:rB) (gA:Array dA) (n:Nat),K.lookup a=some o/\o.cls=.type "list"/\o.dict=none/\o.data=.seq gA n/\gA.size<=sizeLine/\aAe xs gA.toList
def OC(K:fA)(H:Hp)(a:eA)(xs:List V):Prop :=
 Rd H a (.t xs) \/
  ∃(o:rB) (gA:Array dA) (n:Nat),K.lookup a=some o/\o.cls=.type "tuple"/\o.data=.seq gA n/\gA.size<=sizeLine/\aAe xs gA.toList
noncomputable def Cu:dA->Option V
 |.none=>some .rA
 |.bool b=>some (.bl b)
 |.int i _=>some (.int i)
 |.str x _=>some (.str x)
 |.ref a=>some (.ref a)
 |.type n=>some (.ty n)
 |_=>none
def aAf.abs(r:aAf x u):Cu u=some x:=by
 cases x with
 |rA=>cases r;rfl
 |bl _=>cases r;rfl
 |int _=>obtain⟨t,rfl⟩:=r;rfl
 |str _=>obtain⟨t,rfl⟩:=r;rfl
 |ref _=>cases r;rfl
 |ty _=>cases r;rfl
theorem aAf.inj(r:aAf x u)(q:aAf y u):x=y:=wF (r.abs.symm.trans q.abs)
theorem aAe.inj{xs ys:List V}{us:List dA}(h:aAe xs us)(h':aAe ys us):xs=ys:=by
 induction h generalizing ys with
 |nil=>cases h';rfl
 |cons r t ih=>cases h' with | cons r' t'=>rw[r.inj r',ih t']
section
variable{xs ys:List V}
def DB.of{K:fA}(h:H a=some (.l xs)):DB K H a xs:=.inl (.inl h)
def OC.of{K:fA}(h:H a=some (.t xs)):OC K H a xs:=.inl (.inl h)
def cA.list(I:cA X aA Y H s)(h:DB X.K H a xs):∃gA:List dA,aAe xs gA/\PlainL s.heap a gA.toArray/\xs.length<=sizeLine:=by
 rcases h with h | ⟨o,gA,n,hk,hc,hd,hs,hz,r⟩
 ·obtain⟨z,gA,n,r,e⟩:=h.ok I.IA;exact⟨gA,r,⟨_,n,e,rfl,rfl,rfl⟩,z⟩
 ·refine⟨gA.toList,r,⟨o,n,I.wC a o hk,hc,hd,by simpa using hs⟩, ?_⟩;have e:=r.length;simp only[bH] at e
  lia
def cA.tuple(I:cA X aA Y H s)(h:OC X.K H a xs):∃gA:List dA,aAe xs gA/\IsTup s.heap a gA.toArray/\xs.length<=sizeLine:=by
 rcases h with h | ⟨o,gA,n,hk,hc,hs,hz,r⟩
 ·obtain⟨z,gA,r,p⟩:=h.ok I.IA;exact⟨gA,r,p,z⟩
 ·refine⟨gA.toList,r,⟨o,I.wC a o hk,hc,n,by simpa using hs⟩, ?_⟩;have e:=r.length;simp only[bH] at e
  lia
def cA.Ii(I:cA X aA Y H s)(h:DB X.K H a xs)(h':DB X.K H a ys):xs=ys:=by
 obtain⟨gA,r,⟨o,n,e,_,_,d⟩,_⟩:=I.list h;obtain⟨its',r',⟨o',n',e',_,_,d'⟩,_⟩:=I.list h';rw[e] at e';cases e';rw[d] at d'
 injection d' with d1 _
 have:gA=its':=by simpa using congrArg xU d1
 subst this;exact r.inj r'
def cA.y1a(I:cA X aA Y H s)(h:OC X.K H a xs)(h':OC X.K H a ys):xs=ys:=by
 obtain⟨gA,r,⟨o,e,_,n,d⟩,_⟩:=I.tuple h;obtain⟨its',r',⟨o',e',_,n',d'⟩,_⟩:=I.tuple h';rw[e] at e';cases e';rw[d] at d'
 injection d' with d1 _
 have:gA=its':=by simpa using congrArg xU d1
 subst this;exact r.inj r'
end
abbrev Cx.yK(X:Cx)(E:dA->zA->Prop):Cx:={ X with xe:=E }
abbrev Cx.EM(X:Cx):Cx:=X.yK λ_ _=>False
theorem Cx.Ok.yK{X:Cx}(ok:X.Ok)(E:dA->zA->Prop):(X.yK E).Ok :=
 ⟨ok.mod,ok.kind,ok.glob,ok.BB,ok.above,ok.inj,ok.has,ok.RK,ok.hd,ok.frames,ok.cD,ok.pP,ok.bs,ok.nI,ok.wL,ok.nM,ok.TF,ok.dJ⟩
def Cx.Ok.QM{X:Cx}(ok:(X.yK E).Ok):X.Ok :=
 ⟨ok.mod,ok.kind,ok.glob,ok.BB,ok.above,ok.inj,ok.has,ok.RK,ok.hd,ok.frames,ok.cD,ok.pP,ok.bs,ok.nI,ok.wL,ok.nM,ok.TF,ok.dJ⟩
section
variable{E:dA->zA->Prop}
theorem cA.yK(I:cA X aA Y H s)(E:dA->zA->Prop):cA (X.yK E) aA Y H s:=⟨I.ok.yK E,I.os,I.bare,I.base,I.loc,I.cell,I.free,I.aF,I.pin,I.IA,I.len⟩
theorem cA.QM(I:cA (X.yK E) aA Y H s):cA X aA Y H s:=⟨I.ok.QM,I.os,I.bare,I.base,I.loc,I.cell,I.free,I.aF,I.pin,I.IA,I.len⟩
theorem SP.QM(h:SP (X.yK E) aA D f s'):SP X aA D f s':=by
 cases f with
 |next=>obtain⟨Y',H',I,q⟩:=h;exact⟨Y',H',I.QM,q⟩
 |brk=>obtain⟨Y',H',I,q⟩:=h;exact⟨Y',H',I.QM,q⟩
 |cont=>obtain⟨Y',H',I,q⟩:=h;exact⟨Y',H',I.QM,q⟩
 |ret u=>obtain⟨v,Y',H',I,r,q⟩:=h;exact⟨v,Y',H',I.QM,r,q⟩
theorem LC.EM{st:List WA}(h:LC X.EM st t):LC X st t:=λaA s Y H D I hw =>
 DE (h aA s Y H D (I.yK _) hw) (λ_ _ q=>q.QM) λ_ _ z=>pE z
end
section
variable{st:WA}{aAj:List WA}
def n9:TS:=λD Y H=>D.nx Y H
def g1a(t u:TS):TS:=λD Y H=>t { D with nx:=u D } Y H
def D8:LC X [] n9:=λ_ _ Y H _ I h=>OY ⟨Y,H,I,h⟩
def LX(h1:PS X st t)(h2:LC X aAj u):LC X (st::aAj) (g1a t u):=by
 intro aA s Y H D I h;refine Ra (RA (h1 aA s Y H { D with nx:=u D } I h) λf s1 q=>?_)
 cases f with
 |next =>
  obtain⟨Y',H',I',q⟩:=q;exact h2 aA s1 Y' H' D I' q
 |ret v=>exact q
 |brk=>exact q
 |cont=>exact q
def oUa(h1:PS X st t):LC X [st] t:=by
 intro aA s Y H D I h;refine Ra (RA (h1 aA s Y H D I h) λf s1 q=>?_)
 cases f with
 |next=>exact OY q
 |ret v=>exact q
 |brk=>exact q
 |cont=>exact q
def l0a:TS:=λD Y H=>D.bk Y H
def o0a:TS:=λD Y H=>D.ct Y H
def tTa:PS X (.Pass pos) n9:=λ_ _ Y H _ I h=>wpAny_Pass ⟨Y,H,I,h⟩
def lTa:PS X (.Break pos) l0a:=λ_ _ Y H _ I h=>wpAny_Break ⟨Y,H,I,h⟩
def pTa:PS X (.Continue pos) o0a:=λ_ _ Y H _ I h=>wpAny_Continue ⟨Y,H,I,h⟩
def cA.quiet(I:cA X aA Y H s):interactive X.env=false:=by simp[interactive,I.ok.kind]
def p0a(te:TE):TS:=λD Y H=>te Y H λ_ H1=>D.nx Y H1
def zk(he:PE X e te)(hs:swapsWith e none pos.line X.env=pure false:=by rfl):PS X (.Expr e pos) (p0a te):=by
 intro aA s Y H D I h;exact wpAny_Expr_any (RA (he aA s Y H _ I h) λv s1 hz=>(by obtain⟨x,H1,I1,r1,q1⟩:=hz;exact⟨Y,H1,I1,q1⟩)) I.quiet hs
def e1a(te:TE):TS:=λD Y H=>te Y H D.rt
def C8(he:PE X e te):PS X (.Return (some e) pos) (e1a te):=by
 intro aA s Y H D I h;exact wpAny_Return_some (RA (he aA s Y H _ I h) λv s1 hz=>(by obtain⟨x,H1,I1,r1,q1⟩:=hz;exact⟨x,Y,H1,I1,r1,q1⟩))
def f1a:TS:=λD _ H=>D.rt .rA H
def xTa:PS X (.Return none pos) f1a:=λ_ _ Y H _ I h=>wpAny_Return_none ⟨.rA,Y,H,I,rfl,h⟩
def v0a(c:TT)(t u:TS):TS:=λD Y H=>c Y H λb H1=>if b=true then t D Y H1 else u D Y H1
def Bk(hc:PT X c tc)(ha:LC X a t)(hb:LC X b u):PS X (.If c a b pos) (v0a tc t u):=by
 intro aA s Y H D I h;refine wpAny_If (RA (hc aA s Y H _ I h) λd s1 hz=>?_);obtain⟨H1,I1,q1⟩:=hz
 cases d with
 |true=>exact ha aA s1 Y H1 D I1 q1
 |false=>exact hb aA s1 Y H1 D I1 q1
end
abbrev TG:=V->St->Hp->(St->Hp->Prop)->Prop
abbrev ZO:=List V->St->Hp->(St->Hp->Prop)->Prop
def PG(X:Cx)(target:vA)(t:TG):Prop :=
 ∀(aA:List (eA×rB)) (s:zA) (Y:St) (H:Hp) (v:V) (u:dA) (Q:St->Hp->Prop),cA X aA Y H s->aAf v u->t v Y H Q ->
  wA (model X.prog X.w) X.A (assign target X.env u) (λ_ s'=>∃Y' H',cA X aA Y' H' s'/\Q Y' H') X.xe s
def LK(X:Cx)(ts:List vA)(t:ZO):Prop :=
 ∀(aA:List (eA×rB)) (s:zA) (Y:St) (H:Hp) (vs:List V) (us:List dA) (Q:St->Hp->Prop),cA X aA Y H s->aAe vs us->t vs Y H Q ->
  wA (model X.prog X.w) X.A (assignInOrder ((AH ts X.env).map (·.2)) us) (λ_ s'=>∃Y' H',cA X aA Y' H' s'/\Q Y' H') X.xe s
abbrev UU:=V->V->V->Hp->(Hp->Prop)->Prop
def wZ(X:Cx)(t:UU):Prop :=
 ∀(aA:List (eA×rB)) (s:zA) (Y:St) (H:Hp) (o i v:V) (ov iv u:dA) (Q:Hp->Prop),cA X aA Y H s->aAf o ov->aAf i iv->aAf v u->t o i v H Q ->
  wA (model X.prog X.w) X.A (setItem ov iv u) (λ_ s'=>∃H',cA X aA Y H' s'/\Q H') X.xe s
section
variable{pos:BC}
def zN(i:Nat):TG:=λv Y H Q=>Q (Y.set i (some v)) H
def ek(hN:X.N.Nodup)(hi:X.N[i]?=some x)(hx:Loc X.env.scope x)(hf:X.fn x=true\/X.env.scope.names.lookup x=some .local:=by first | exact .inl rfl | exact .inr rfl | assumption):PG X (.Name x pos) (zN i):=by
 intro aA s Y H v u Q I r h;exact Xq (a9 I hN hi hx r (λs' I'=>⟨_,H,I',h⟩) hf)
def T_:ZO:=λvs Y H Q=>vs=[]/\Q Y H
def S_(t:TG)(u:ZO):ZO:=λvs Y H Q=>∃v r,vs=v::r/\t v Y H λY' H'=>u r Y' H' Q
def jSa:LK X [] T_:=by
 intro aA s Y H vs us Q I r h;obtain⟨e,h⟩:=h;subst e;cases r;exact assignInOrder_nil ⟨Y,H,I,h⟩
def hSa(h1:PG X e t)(h2:LK X es u)
  (hs:(AH (e::es) X.env).map (·.2)=assign e X.env::(AH es X.env).map (·.2):=by rfl):LK X (e::es) (S_ t u):=by
 intro aA s Y H vs us Q I r h;obtain⟨v,vr,e1,h⟩:=h;subst e1
 cases r with
 |cons r rr =>
  rw[hs];refine assignInOrder_cons (RA (h1 aA s Y H _ _ _ I r h) λ_ s1 hz=>?_);obtain⟨Y1,H1,I1,q1⟩:=hz;exact h2 aA s1 Y1 H1 _ _ Q I1 rr q1
def V_(K:fA)(n:Nat)(t:ZO):TG:=λv Y H Q=>∃a xs,v=.ref a/\OC K H a xs/\xs.length=n/\t xs Y H Q
def gSa(hc:X.calm=true)(h:LK X es t)
  (hn:(AH es X.env).length=n:=by rfl) (RH:(AH es X.env).findIdx? (·.1)=none:=by rfl):PG X (.Tuple es k pos) (V_ X.K n t):=by
 intro aA s Y H v u Q I r hw;obtain⟨a,xs,e1,hq,hl,hw⟩:=hw;subst e1;cases r;obtain⟨gA,rv,ht,hz⟩:=I.tuple hq;refine assign_Tuple_tuple (I.ok.hd hc) ht (by simp[hn,<- hl,rv.length]) RH λh' hx=>?_
 have I1:cA X aA Y H { s with heap:=h' }:=I.kept (t':=s.toks) λb o e=>hx b o (kE (rC e)) e
 exact h aA _ Y H xs _ Q I1 (by simpa using rv) hw
def U_(to ti:TE)(t:UU):TG:=λv Y H Q=>to Y H λo H1=>ti Y H1 λi H2=>t o i v H2 λH3=>Q Y H3
def fSa(ho:PE X o to)(hi:PE X i ti)(hs:wZ X t)
  (ha:∀v,assign (.Subscript o i pos) X.env v=(do
   let ov <- holding [v] (eval o X.env)
   let iv <- holding [v,ov] (eval i X.env)
   standAt pos
   holding [v,ov,iv] (setItem ov iv v)
   release [v,ov,iv] []):=by intro _;rfl):PG X (.Subscript o i pos) (U_ to ti t):=by
 intro aA s Y H v u Q I r h;rw[ha];refine BA (HL (RA (ho aA s Y H _ I h) λov s1 hz=>?_));obtain⟨x,H1,I1,r1,q1⟩:=hz;refine BA (HL (RA (hi aA s1 Y H1 _ I1 q1) λiv s2 hz=>?_));obtain⟨y,H2,I2,r2,q2⟩:=hz;refine BA (IL (BA (HL (RA (hs aA s2 Y H2 x y v ov iv u _ I2 r1 r2 r q2) λ_ s3 hz=>?_))));obtain⟨H3,I3,q3⟩:=hz;exact wpAny_release ⟨Y,H3,I3,q3⟩
def jY(te:TE)(g:TG):TS:=λD Y H=>te Y H λx H1=>g x Y H1 D.nx
def JX(he:PE X e te)(hg:PG X tg g)(hs:swapsWithSole [tg] e pos.line X.env=pure false:=by rfl)(hw:swappedStores [tg] e X.env=pure none:=by rfl)
  (h1:(AH [tg] X.env).map (·.2)=[assign tg X.env]:=by rfl):PS X (.Assign [tg] e pos) (jY te g):=by
 intro aA s Y H D I h;refine wpAny_Assign_stores (RA (he aA s Y H _ I h) λv s1 hz=>?_) hs hw;obtain⟨x,H1,I1,r1,q1⟩:=hz;rw[h1];exact RA (hg aA s1 Y H1 x v _ I1 r1 q1) λ_ s2 q=>q
def Ck(hN:X.N.Nodup)(hi:X.N[i]?=some x)(hx:Loc X.env.scope x)(he:PE X e te)(hs:swapsWith e (some (.Name x pos')) pos.line X.env=pure false:=by rfl)(hf:X.fn x=true\/X.env.scope.names.lookup x=some .local:=by first | exact .inl rfl | exact .inr rfl | assumption) :
  PS X (.Assign [.Name x pos'] e pos) (jY te (zN i)):=by
 intro aA s Y H D I h;refine wpAny_Assign_Name (RA (he aA s Y H _ I h) λv s1 hz=>?_) hs;obtain⟨y,H1,I1,r1,q1⟩:=hz;exact a9 I1 hN hi hx r1 (λs2 I2=>⟨_,H1,I2,q1⟩) hf
end
structure It where
 go:Nat->Hp->Prop
 vY:Nat->Hp->V->Hp->Prop
 stop:Nat->Hp->Prop
def uC(X:Cx)(aA:List (eA×rB))(H:Hp)(b:eA):Prop :=
 H b=none/\b≠X.env.locals/\b ∉ X.fs/\(b∈X.ex\/X.s₀.heap.get? b=none)/\(∀x c,X.env.cells.lookup x=some c->c≠b)/\∀p∈X.pn++aA,p.1≠b
def cA.qM(I:cA X aA Y H s)(hb:s.heap.objs.size<=b)(hn:H' b=none):uC X aA H' b:=by
 refine⟨hn,yU (iE I.lt hb),I.uMa hb,.inr (vO (lD I.sz hb)),λx c e z=>?_,λp hp z=>?_⟩
 ·obtain⟨v,q⟩:=I.cell x c e;exact absurd (iE q.lt (by rw[z];exact hb)) (DO _)
 ·exact absurd (iE (rC (I.pin p hp).1) (by rw[z];exact hb)) (DO _)
structure Turn(P:nE)(w:VC)(K:fA)(tg:vA)(J:It)(fp:List eA)(it:eA)(tn:Nat->HB->Prop):Prop where
 mem:it∈fp
 obj:∀i h,tn i h->∀b∈fp,∃o,h.get? b=some o/\∀v,o.data≠.cell v
 keep:∀i h h',tn i h->(∀b∈fp,∀o,h.get? b=some o->h'.get? b=some o)->tn i h'
 item:∀(X:Cx),X.prog=P->X.w=w->X.K=K->X.calm=true->∀(i:Nat) (aA:List (eA×rB)) (s:zA) (Y:St) (H:Hp) (E:dA->zA->Prop),cA X aA Y H s->(∀b∈fp,uC X aA H b)->tn i s.heap->J.go i H ->
  wA (model P w) X.A (pyNext (.ref it)) (λr s1=>∃u,r=some u /\
   wA (model P w) X.A (letOwnedTupleGo tg (.ref it) u) (λ_ s2=>∃x H',cA X aA Y H' s2/\aAf x u/\J.vY i H x H'/\tn (i+1) s2.heap/\∀b∈fp,H' b=none) E s1) E s
 done:∀(X:Cx),X.prog=P->X.w=w->X.K=K->X.calm=true->∀(i:Nat) (aA:List (eA×rB)) (s:zA) (Y:St) (H:Hp) (E:dA->zA->Prop),cA X aA Y H s->(∀b∈fp,uC X aA H b)->tn i s.heap->J.stop i H ->
  wA (model P w) X.A (pyNext (.ref it)) (λr s1=>r=none/\cA X aA Y H s1) E s
 self:∀(A:JF) (i:Nat) (s:zA) (Q:dA->zA->Prop) (E:dA->zA->Prop),tn i s.heap->Q (.ref it) s->wA (model P w) A (pyIter (.ref it)) Q E s
abbrev TI:=St->Hp->(It->Hp->Prop)->Prop
def Dc(X:Cx)(aA:List (eA×rB))(Y:St)(tg:vA)(R:It->Hp->Prop)(M6:dA)(s2:zA):Prop :=
 ∃(it:eA) (fp:List eA) (tn:Nat->HB->Prop) (J:It) (H':Hp),M6=.ref it/\cA X aA Y H' s2/\Turn X.prog X.w X.K tg J fp it tn/\tn 0 s2.heap/\(∀b∈fp,uC X aA H' b)/\R J H'
def PI(X:Cx)(tg iter:vA)(wi:TI):Prop :=
 ∀(aA:List (eA×rB)) (s:zA) (Y:St) (H:Hp) (R:It->Hp->Prop),cA X aA Y H s->wi Y H R ->
  wA (model X.prog X.w) X.A (eval iter X.env) (λv s1=>wA (model X.prog X.w) X.A (pyIter v) (Dc X aA Y tg R) X.xe s1) X.xe s
def jW(ho:s.heap.get? it=some o)(hc:o.cls=.type n)(hd:o.data=.fields vs)
  (hn:["enumerate","zip","dict_itemiterator","dict_reverseitemiterator","odict_iterator","itertools.zip_longest","itertools.pairwise"].contains n=false) (hQ:Q () s):wA M A (letOwnedTupleGo tg (.ref it) u) Q E s:=by
 unfold letOwnedTupleGo
 cases tg<;>first
  |exact GB hQ
  | (cases u<;>first
    |exact GB hQ
    | (refine BA (wpAny_load ho ?_)
       rw[hc,hd];show wA M A (if(["enumerate","zip","dict_itemiterator","dict_reverseitemiterator","odict_iterator","itertools.zip_longest","itertools.pairwise"].contains n&&vs[0]? == some (rawInt _))=true then _ else _) Q E s;rw[vB (by intro h;rw[hn,UY] at h;cases h)]
       exact GB hQ))
noncomputable def nZ(K:fA)(a:eA):It :=
 ⟨λi H=>∃xs x,DB K H a xs/\xs[i]?=some x,λi H x H'=>H'=H/\∀xs,DB K H a xs->xs[i]?=some x,λi H=>∃xs,DB K H a xs/\xs.length<=i⟩
noncomputable def pZ(K:fA)(a:eA):It :=
 ⟨λi H=>∃xs x,OC K H a xs/\xs[i]?=some x,λi H x H'=>H'=H/\∀xs,OC K H a xs->xs[i]?=some x,λi H=>∃xs,OC K H a xs/\xs.length<=i⟩
noncomputable def rR(lo:Int)(n:Nat):It:=⟨λi _=>i<n,λi H x H'=>H'=H/\x=.int (lo+i),λi _=>n<=i⟩
def z1a{K:fA}(a it:eA):Turn P w K tg (nZ K a) [it] it (λi h=>h.IsListIter it a i) where
 mem:=by simp
 obj:=λi h st b hb=>by
  have e:b=it:=by simpa using hb
  subst e;obtain⟨o,e,c,d⟩:=st;exact⟨o,e,λv z=>by rw[d] at z;cases z⟩
 keep:=λi h h' st k=>st.at λo e=>k it (by simp) o e
 item:=by
  intro X hP hw hK hc i aA s Y H E I hf st hg;subst hP hw hK;obtain⟨xs,x,hq,hx⟩:=hg;obtain⟨gA,rv,p,hz⟩:=I.list hq;obtain⟨u,hu,ru⟩:=rv.get hx;obtain⟨f0,f1,f2,f3,f4,f5⟩:=hf it (by simp);refine wpAny_pyNext_list_item st p.isList (x:=u) (by simpa using hu) λh' LI sb=>?_
  have I1:cA X aA Y H { s with heap:=h' }:=I.turned (t':=s.toks) (λb o hb e=>(sb.2 b hb).trans e) f0 f1 f3 f4 f5;obtain⟨o,e,c,d⟩:=id LI;exact⟨u,rfl,jW (s:={ s with heap:=h' }) e c d (by decide) ⟨x,H,I1,ru,⟨rfl,λys hy=>by rw[I.Ii hy hq];exact hx⟩,LI,λb hb=>(hf b hb).1⟩⟩
 done:=by(intro X hP hw hK hc i aA s Y H E I hf st hg;subst hP hw hK;obtain⟨xs,hq,hx⟩:=hg;obtain⟨gA,rv,p,hz⟩:=I.list hq;obtain⟨f0,f1,f2,f3,f4,f5⟩:=hf it (by simp);have hl:=rv.length;exact wpAny_pyNext_list_end (I.ok.hd hc) st p.isList (by simp;lia) λh' eb=>⟨rfl,I.turned (t':=s.toks) (λb o hb e=>eb b o hb e) f0 f1 f3 f4 f5⟩)
 self:=λ_ _ _ _ _ st h=>wpAny_pyIter_listiter st h
def c2a{K:fA}(a it:eA):Turn P w K tg (pZ K a) [it] it (λi h=>h.IsTupleIter it a i) where
 mem:=by simp
 obj:=λi h st b hb=>by
  have e:b=it:=by simpa using hb
  subst e;obtain⟨o,e,c,d⟩:=st;exact⟨o,e,λv z=>by rw[d] at z;cases z⟩
 keep:=λi h h' st k=>st.at λo e=>k it (by simp) o e
 item:=by
  intro X hP hw hK hc i aA s Y H E I hf st hg;subst hP hw hK;obtain⟨xs,x,hq,hx⟩:=hg;obtain⟨gA,rv,p,hz⟩:=I.tuple hq;obtain⟨u,hu,ru⟩:=rv.get hx;obtain⟨f0,f1,f2,f3,f4,f5⟩:=hf it (by simp);refine wpAny_pyNext_tuple_item st (show s.heap.IsTuple a gA.toArray from p) (x:=u) (by simpa using hu) λh' LI sb=>?_
  have I1:cA X aA Y H { s with heap:=h' }:=I.turned (t':=s.toks) (λb o hb e=>(sb.2 b hb).trans e) f0 f1 f3 f4 f5;obtain⟨o,e,c,d⟩:=id LI;exact⟨u,rfl,jW (s:={ s with heap:=h' }) e c d (by decide) ⟨x,H,I1,ru,⟨rfl,λys hy=>by rw[I.y1a hy hq];exact hx⟩,LI,λb hb=>(hf b hb).1⟩⟩
 done:=by(intro X hP hw hK hc i aA s Y H E I hf st hg;subst hP hw hK;obtain⟨xs,hq,hx⟩:=hg;obtain⟨gA,rv,p,hz⟩:=I.tuple hq;obtain⟨f0,f1,f2,f3,f4,f5⟩:=hf it (by simp);have hl:=rv.length;exact wpAny_pyNext_tuple_end (I.ok.hd hc) st (show s.heap.IsTuple a gA.toArray from p) (by simp;lia) λh' eb=>⟨rfl,I.turned (t':=s.toks) (λb o hb e=>eb b o hb e) f0 f1 f3 f4 f5⟩)
 self:=λ_ _ _ _ _ st h=>wpAny_pyIter_tupleiter st h
def a2a{K:fA}(it:eA)(lo:Int)(n:Nat):Turn P w K tg (rR lo n) [it] it (λi h=>IsRangeIter h it (lo+(i:Nat)*1) ((n:Int)-(i:Nat)) 1) where
 mem:=by simp
 obj:=λi h st b hb=>by
  have e:b=it:=by simpa using hb
  subst e
  exact⟨_,st,λv z=>by
   have z':Data.fields _=Data.cell v:=z
   cases z'⟩
 keep:=λi h h' st k=>k it (by simp) _ st
 item:=by
  intro X hP hw hK hc i aA s Y H E I hf st hg;subst hP hw hK;obtain⟨f0,f1,f2,f3,f4,f5⟩:=hf it (by simp);have W:=Walks.range (prog:=X.prog) (w:=X.w) (I.ok.hd hc) it lo 1 n;refine W.item i s _ _ hg st λv h' tk hv LI kk=>?_
  obtain⟨t,rfl⟩:=hv;have I1:cA X aA Y H { s with heap:=h',toks:=tk }:=I.turned (λb o hb e=>kk b o (by simpa using hb) e) f0 f1 f3 f4 f5;refine⟨_,rfl,jW (s:={ s with heap:=h',toks:=tk }) (n:="range_iterator") LI rfl rfl (by decide) ⟨.int (lo+i),H,I1,⟨t, ?_⟩,⟨rfl,rfl⟩,LI,λb hb=>(hf b hb).1⟩⟩;rw[Int.mul_one]
 done:=by(intro X hP hw hK hc i aA s Y H E I hf st hg;subst hP hw hK;obtain⟨f0,f1,f2,f3,f4,f5⟩:=hf it (by simp);exact wpAny_pyNext_range_end (I.ok.hd hc) st (by have:n<=i:=hg;lia) λh' eb=>⟨rfl,I.turned (t':=s.toks) (λb o hb e=>eb b o hb e) f0 f1 f3 f4 f5⟩)
 self:=λ_ _ _ _ _ st h=>wpAny_pyIter_rangeiter st h
section
variable{tg:vA}
def U5(K:fA)(tl:TE):TI:=λY H R=>tl Y H λx H1=>∃a,x=.ref a/\(∃xs,DB K H1 a xs)/\R (nZ K a) H1
def V5(K:fA)(tl:TE):TI:=λY H R=>tl Y H λx H1=>∃a,x=.ref a/\(∃xs,OC K H1 a xs)/\R (pZ K a) H1
def ik(hl:PE X l tl):PI X tg l (U5 X.K tl):=by
 intro aA s Y H R I h;refine RA (hl aA s Y H _ I h) λv s1 hz=>?_
 obtain⟨x,H1,I1,r1,q1⟩:=hz;obtain⟨a,e,⟨xs,hq⟩,q⟩:=q1;subst e;cases r1;obtain⟨gA,rv,p,hz⟩:=I1.list hq;refine jU p.isList ?_;refine⟨s1.heap.objs.size,[s1.heap.objs.size],_,_,H1,rfl,I1.kept (t':=s1.toks) λb o e=>NC _ e,z1a a _,⟨_,EG _ rfl,rfl,rfl⟩,λb hb=>?_,q⟩;have e:b=s1.heap.objs.size:=by simpa using hb
 subst e;exact I1.qM (JB _) (I1.IA.fresh (JB _))
def uk(hl:PE X l tl):PI X tg l (V5 X.K tl):=by
 intro aA s Y H R I h;refine RA (hl aA s Y H _ I h) λv s1 hz=>?_
 obtain⟨x,H1,I1,r1,q1⟩:=hz;obtain⟨a,e,⟨xs,hq⟩,q⟩:=q1;subst e;cases r1;obtain⟨gA,rv,p,hz⟩:=I1.tuple hq;refine wpAny_pyIter_tuple (show s1.heap.IsTuple a gA.toArray from p) ?_;refine⟨s1.heap.objs.size,[s1.heap.objs.size],_,_,H1,rfl,I1.kept (t':=s1.toks) λb o e=>NC _ e,c2a a _,⟨_,EG _ rfl,rfl,rfl⟩,λb hb=>?_,q⟩;have e:b=s1.heap.objs.size:=by simpa using hb
 subst e;exact I1.qM (JB _) (I1.IA.fresh (JB _))
def Wk{lo hi:Int}(I:cA X aA Y H s)(h1:-(2 ^ 62)<=lo)(h2:lo<2 ^ 62)(h3:-(2 ^ 62)<=hi)(h4:hi<2 ^ 62)
  (q:R (rR lo (hi-lo).toNat) H):wA (model X.prog X.w) X.A (pyIter (.ref s.heap.objs.size)) (Dc X aA Y tg R) E { s with heap:=s.heap.push { cls:=.type "range",data:=.fields #[.int lo t,.int hi u,.int 1 v] },toks:=tk }:=by
 refine wpAny_pyIter_range (IsRange.new ..) (small_one h1 h2 h3 h4) ?_;have I1:cA X aA Y H { s with heap:=s.heap.push { cls:=.type "range",data:=.fields #[.int lo t,.int hi u,.int 1 v] },toks:=tk }:=I.kept λb o e=>NC _ e
 refine⟨(s.heap.push { cls:=.type "range",data:=.fields #[.int lo t,.int hi u,.int 1 v] }).objs.size,[(s.heap.push { cls:=.type "range",data:=.fields #[.int lo t,.int hi u,.int 1 v] }).objs.size],_,_,H,rfl,
  I1.kept (t':=tk) λb o e=>NC _ e,a2a _ lo (hi-lo).toNat, ?_,λb hb=>?_,q⟩
 ·have e1:lo+((0:Nat):Int)*1=lo:=by simp
  have e2:(((hi-lo).toNat:Nat):Int)-((0:Nat):Int)=Builtin.Range.rangeSize lo hi 1:=by rw[rangeSize_one];split<;>lia
  show IsRangeIter _ _ (lo+((0:Nat):Int)*1) ((((hi-lo).toNat:Nat):Int)-((0:Nat):Int)) 1;rw[e1,e2];exact EG _ rfl
 ·have e:b=(s.heap.push { cls:=.type "range",data:=.fields #[.int lo t,.int hi u,.int 1 v] }).objs.size:=by simpa using hb
  subst e;exact I1.qM (JB _) (I1.IA.fresh (JB _))
def wg(ta:TA):TI:=λY H R=>ta Y H λvs H1=>∃j:Int,vs=[.int j]/\-(2 ^ 62)<=j/\j<2 ^ 62/\R (rR 0 j.toNat) H1
def xg(ta:TA):TI:=λY H R=>ta Y H λvs H1=>∃i j:Int,vs=[.int i,.int j]/\(-(2 ^ 62)<=i/\i<2 ^ 62/\-(2 ^ 62)<=j/\j<2 ^ 62)/\R (rR i (j-i).toNat) H1
def jk{p pos:BC}(hg:Gl X "range")(hm:X.mg "range"=none)(ha:PA X [a] ta)(hs:zB [a] X.env=[(false,eval a X.env)]:=by rfl):PI X tg (.Call (.Name "range" p) [a] [] pos) (wg ta):=by
 intro aA s Y H R I h;refine Call_ (QN I hg hm boot_range (xY (RA (ha pos aA s Y H _ I h) λus s1 hz=>?_) hs rfl));obtain⟨vs,H1,I1,r1,q1⟩:=hz;obtain⟨j,e,q1,q2,q⟩:=q1;subst e
 cases r1 with
 |cons r rr =>
  cases rr;obtain⟨t,rfl⟩:=r;exact call_range_1 (Wk I1 (by lia) (by lia) q1 q2 (by simpa using q))
def rk(hg:Gl X "range")(hm:X.mg "range"=none)(ha:PA X [a,b] ta)(hs:zB [a,b] X.env=[(false,eval a X.env),(false,eval b X.env)]:=by rfl)(zI:zB [b] X.env=[(false,eval b X.env)]:=by rfl) :
  PI X tg (.Call (.Name "range" p) [a,b] [] pos) (xg ta):=by
 intro aA s Y H R I h;refine Call_ (QN I hg hm boot_range (xY (RA (ha pos aA s Y H _ I h) λus s1 hz=>?_) (by rw[hs,zI]) (by rw[zI];rfl)));obtain⟨vs,H1,I1,r1,q1⟩:=hz;obtain⟨i,j,e,⟨q1,q2,q3,q4⟩,q⟩:=q1;subst e
 cases r1 with
 |cons r rr =>
  cases rr with
  |cons r' rr =>
   cases rr;obtain⟨t,rfl⟩:=r;obtain⟨t',rfl⟩:=r';exact call_range_2 (Wk I1 q1 q2 q3 q4 q)
def s0a(wi:TI)(g:TG)(tb:TS):TS:=λD Y H=>wi Y H λJ H1=>∃W:Nat->Nat->St->Hp->Prop,(∃m,W 0 m Y H1)/\∀i m Y H,W i m Y H ->
 (J.stop i H/\D.nx Y H)\/(J.go i H/\∃N:St->Hp->Prop,(∀Y' H',N Y' H'->∃m',m'<m/\W (i+1) m' Y' H')/\∀x H',J.vY i H x H'->g x Y H' λY2 H2=>tb { D with nx:=N,ct:=N,bk:=D.nx } Y2 H2)
noncomputable def ZS(fp:List eA)(h:HB):List (eA×rB):=fp.filterMap λb=>(h.get? b).map λo=>(b,o)
def hX(hb:b∈fp)(e:h.get? b=some o):(b,o)∈ZS fp h:=Ea.mpr ⟨b,hb,by rw[e];rfl⟩
def lNa(hp:p∈ZS fp h):p.1∈fp/\h.get? p.1=some p.2:=by
 obtain⟨b,hb,e⟩:=Ea.mp hp
 cases q:h.get? b with
 |none=>rw[q] at e;cases e
 |some o =>
  rw[q] at e;have e':(b,o)=p:=wF e;subst e';exact⟨hb,q⟩
def cA.pinned(I:cA X aA Y H s)(hf:∀b∈fp,uC X aA H b)(ho:∀b∈fp,∃o,s.heap.get? b=some o/\∀v,o.data≠.cell v):cA X (aA++ZS fp s.heap) Y H s :=
 I.vk λp hp=>(iI.mp hp).elim (λz=>I.pin p (CH _ z)) λz=>by(obtain⟨hb,e⟩:=lNa z;obtain⟨f0,f1,f2,_⟩:=hf p.1 hb;obtain⟨o,e',d⟩:=ho p.1 hb;rw[e] at e';cases e';exact⟨e,f0,f1,f2,d⟩)
def cA.sY(I:cA X (aA++pl) Y H s):cA X aA Y H s:=I.vk λp hp=>I.pin p (CH _ (cN _ hp))
def Ak(hp:YM (model X.prog X.w) X.A X.env X.xe)(hc:X.calm=true)(hi:PI X tg iter wi)(hg:PG X tg g)(hb:LC X body tb)
  (hs:∀x,GJ iter X.env x=pure x:=by intro _;rfl):PS X (.For tg iter body [] pos) (s0a wi g tb):=by
 intro aA s Y H D I h;refine wpAny_For (RA (hi aA s Y H _ I h) λv s1 h1=>RA h1 λM6 s2 h2=>?_) hs;obtain⟨it,fp,tn,J,H2,e,I2,T,eY,f2,W,⟨m0,w0⟩,turn⟩:=h2;subst e
 -- yp stays true of fF g5a objects through fF loop
 have nO:∀{H':Hp},(∀b∈fp,H' b=none)->∀b∈fp,uC X aA H' b:=λhn b hb=>⟨hn b hb,(f2 b hb).2⟩
 refine codeAny_forLoop_any (λn s'=>∃i Y' H',cA X aA Y' H' s'/\tn i s'.heap/\(∀b∈fp,H' b=none)/\W i n Y' H') ?_ m0 ⟨0,Y,H2,I2,eY,λb hb=>(f2 b hb).1,w0⟩
 rintro n s3 ⟨i,Y3,H3,I3,vm,df,w3⟩
 rcases turn i n Y3 H3 w3 with ⟨stop,qn⟩ | ⟨go,N,hN,step⟩
 ·refine oU hp (RA (T.done X rfl rfl rfl hc i aA s3 Y3 H3 X.xe I3 (nO df) vm stop) λr s4 hz=>?_);obtain⟨hr,I4⟩:=hz;subst hr;exact OY ⟨Y3,H3,I4,qn⟩
 ·refine oU hp (RA (T.item X rfl rfl rfl hc i aA s3 Y3 H3 X.xe I3 (nO df) vm go) λr s4 hz=>?_);obtain⟨u,hr,h4⟩:=hz;subst hr;refine oU hp (RA h4 λ_ s5 hz=>?_);obtain⟨x,H5,I5,r5,y5,wQ,cW⟩:=hz;have Hs:=I5.pinned (nO cW) (T.obj _ _ wQ);refine oU hp (RA (hg _ s5 Y3 H5 x u _ Hs r5 (step x H5 y5)) λ_ s6 hz=>?_);obtain⟨Y6,H6,I6,q6⟩:=hz;refine oU hp (RA (hb _ s6 Y6 H6 _ I6 q6) λf s7 q7=>?_)
  have again:∀{Y7:St} {H7:Hp},cA X (aA++ZS fp s5.heap) Y7 H7 s7->N Y7 H7->∃m,m<n/\∃i Y' H',cA X aA Y' H' s7/\tn i s7.heap/\(∀b∈fp,H' b=none)/\W i m Y' H':=λ{Y7 H7} I7 n7=>by(obtain⟨m',hm,w7⟩:=hN Y7 H7 n7;refine⟨m',hm,i+1,Y7,H7,I7.sY,T.keep _ _ _ wQ λb hb o e=>(I7.pin (b,o) (CH _ (CH _ (hX hb e)))).1,λb hb=>?_,w7⟩;obtain⟨o,e,d⟩:=T.obj _ _ wQ b hb;exact(I7.pin (b,o) (CH _ (CH _ (hX hb e)))).2.1)
  cases f with
  |next=>obtain⟨Y7,H7,I7,n7⟩:=q7;exact again I7 n7
  |cont=>obtain⟨Y7,H7,I7,n7⟩:=q7;exact again I7 n7
  |brk=>obtain⟨Y7,H7,I7,q7⟩:=q7;exact⟨Y7,H7,I7.sY,q7⟩
  |ret v=>obtain⟨x7,Y7,H7,I7,r7,q7⟩:=q7;exact⟨x7,Y7,H7,I7.sY,r7,q7⟩
end
abbrev R2:=V->V->Hp->VK->Prop
def aC(X:Cx)(f:dA->dA->Sem dA)(r:R2):Prop :=
 ∀(aA:List (eA×rB)) (s:zA) (Y:St) (H:Hp) (x y:V) (v u:dA) (Q:VK),cA X aA Y H s->aAf x v->aAf y u->r x y H Q ->
  wA (model X.prog X.w) X.A (f v u) (EP X aA Y Q) X.xe s
def zZ(X:Cx)(f:dA->Sem dA)(r:V->Hp->VK->Prop):Prop :=
 ∀(aA:List (eA×rB)) (s:zA) (Y:St) (H:Hp) (x:V) (v:dA) (Q:VK),cA X aA Y H s->aAf x v->r x H Q ->
  wA (model X.prog X.w) X.A (f v) (EP X aA Y Q) X.xe s
def MF(X:Cx)(f:dA)(r:List V->Hp->VK->Prop):Prop :=
 ∀(aA:List (eA×rB)) (s:zA) (Y:St) (H:Hp) (xs:List V) (us:List dA) (Q:VK),cA X aA Y H s->aAe xs us->r xs H Q ->
  wA (model X.prog X.w) X.A (call f us) (EP X aA Y Q) X.xe s
def ku(X:Cx)(r:V->Hp->(Bool->Hp->Prop)->Prop):Prop :=
 ∀(aA:List (eA×rB)) (s:zA) (Y:St) (H:Hp) (x:V) (v:dA) (Q:Bool->Hp->Prop),cA X aA Y H s->aAf x v->r x H Q ->
  wA (model X.prog X.w) X.A (truthy v) (TP X aA Y Q) X.xe s
def DQ(r:R2)(ta tb:TE):TE:=λY H Q=>ta Y H λx H1=>tb Y H1 λy H2=>r x y H2 Q
def tUn(r:V->Hp->VK->Prop)(ta:TE):TE:=λY H Q=>ta Y H λx H1=>r x H1 Q
def rI(C:Int->Int->Prop)(g:Int->Int->V):R2:=λx y H Q=>∃i j,x=.int i/\y=.int j/\C i j/\Q (g i j) H
def pJ(g:Int->Int->V):R2:=λx y H Q=>∃i j,x=.int i/\y=.int j/\Q (g i j) H
def rU(g:Int->V):V->Hp->VK->Prop:=λx H Q=>∃i,x=.int i/\Q (g i) H
section
variable{pos:BC}
def WZ(ha:PE X a ta)(hb:PE X b tb){R:V->V->Hp->Prop}(I:cA X aA Y H s)
  (h:ta Y H λx H1=>tb Y H1 λy H2=>R x y H2) {f:dA->dA->Sem dA}
  (hf:∀v u s2 x y H2,cA X aA Y H2 s2->aAf x v->aAf y u->R x y H2->wA (model X.prog X.w) X.A (f v u) Q X.xe s2) :
  wA (model X.prog X.w) X.A (eval a X.env) (λv s₁=>wA (model X.prog X.w) X.A (eval b X.env) (λu s₂=>wA (model X.prog X.w) X.A (f v u) Q X.xe s₂) X.xe s₁) X.xe s:=by
 refine RA (ha aA s Y H _ I h) λv s1 hz=>?_
 obtain⟨x,H1,I1,r1,q1⟩:=hz;refine RA (hb aA s1 Y H1 _ I1 q1) λu s2 hz=>?_
 obtain⟨y,H2,I2,r2,q2⟩:=hz;exact hf v u s2 x y H2 I2 r1 r2 q2
def zRa(ho:aC X (AE op) r)(ha:PE X a ta)(hb:PE X b tb):PE X (.BinOp a op b pos) (DQ r ta tb):=by
 intro aA s Y H Q I h;exact wpAny_BinOp (WZ ha hb I h λv u s2 x y H2 I2 rx ry q=>ho aA s2 Y H2 x y v u Q I2 rx ry q)
def bSa(ho:zZ X (unaryOp op) r)(ha:PE X a ta):PE X (.UnaryOp op a pos) (tUn r ta):=by
 intro aA s Y H Q I h;exact UnaryOp_ (RA (ha aA s Y H _ I h) λv s1 hz=>(by obtain⟨x,H1,I1,r1,q1⟩:=hz;exact ho aA s1 Y H1 x v Q I1 r1 q1))
def iQ{g:Int->Int->Int}
  (rule:∀(i j:Int) (t u:Tok) (s:zA) (Q:dA->zA->Prop) (E:dA->zA->Prop),C i j->Q (.int (g i j) s.toks) { s with toks:=s.toks+1 }->wA (model X.prog X.w) X.A (f (.int i t) (.int j u)) Q E s) :
  aC X f (rI C λi j=>.int (g i j)):=by
 intro aA s Y H x y v u Q I rx ry h;obtain⟨i,j,rfl,rfl,hc,q⟩:=h;obtain⟨t,rfl⟩:=rx;obtain⟨t',rfl⟩:=ry;exact rule i j t t' s _ _ hc ⟨.int (g i j),H,I.tok _,⟨_,rfl⟩,q⟩
def AX{g:Int->Int->Int}
  (rule:∀(i j:Int) (t u:Tok) (s:zA) (Q:dA->zA->Prop) (E:dA->zA->Prop),Q (.int (g i j) s.toks) { s with toks:=s.toks+1 }->wA (model X.prog X.w) X.A (f (.int i t) (.int j u)) Q E s) :
  aC X f (pJ λi j=>.int (g i j)):=by
 intro aA s Y H x y v u Q I rx ry h;obtain⟨i,j,rfl,rfl,q⟩:=h;obtain⟨t,rfl⟩:=rx;obtain⟨t',rfl⟩:=ry;exact rule i j t t' s _ _ ⟨.int (g i j),H,I.tok _,⟨_,rfl⟩,q⟩
def zX{g:Int->Int->Bool}
  (rule:∀(i j:Int) (t u:Tok) (s:zA) (Q:dA->zA->Prop) (E:dA->zA->Prop),Q (.bool (g i j)) s->wA (model X.prog X.w) X.A (f (.int i t) (.int j u)) Q E s) :
  aC X f (pJ λi j=>.bl (g i j)):=by
 intro aA s Y H x y v u Q I rx ry h;obtain⟨i,j,rfl,rfl,q⟩:=h;obtain⟨t,rfl⟩:=rx;obtain⟨t',rfl⟩:=ry;exact rule i j t t' s _ _ ⟨.bl (g i j),H,I,rfl,q⟩
def KU(i j:Int):Prop:=0<=j/\j<=1000000/\i.natAbs<2 ^ 64
def jZ(i j:Int):Prop:=(-(2 ^ 64)<i/\i<2 ^ 64)\/(-(2 ^ 64)<j/\j<2 ^ 64)
def jZ.ok(h:jZ i j):IntMulOk i j:=by
 rcases h with ⟨h1,h2⟩ | ⟨h1,h2⟩
 ·exact .of_left (intBits_le_64 h1 h2)
 ·exact .of_right (intBits_le_64 h1 h2)
def d2a(k:Nat):(0:Int)<=2 ^ k:=by
 rw[two_pow_cast];exact Int.natCast_nonneg _
def mPa:aC X (AE .Add) (pJ λi j=>.int (i+j)):=AX λ_ _ _ _ _ _ _ q=>add_int q
def hQa:aC X (AE .Sub) (pJ λi j=>.int (i-j)):=AX λ_ _ _ _ _ _ _ q=>sub_int q
def aQa:aC X (AE .Mult) (rI jZ λi j=>.int (i*j)):=iQ λ_ _ _ _ _ _ _ hc q=>mul_int q hc.ok
def zPa:aC X (AE .Mod) (rI (λ_ j=>0<j) λi j=>.int (i % j)):=iQ λi j _ _ _ _ _ hc q=>by
 have h1:(0:Int)<j:=hc;exact mod_int' (by lia) (by rw[Int.fmod_eq_emod_of_nonneg i (by lia)];exact q)
def eQa:aC X (AE .Pow) (rI KU λi j=>.int (i ^ j.toNat)):=iQ λ_ _ _ _ _ _ _ hc q=>pow_int_small hc.1 hc.2.1 hc.2.2 q
def fQa:aC X (AE .LShift) (rI KU λi j=>.int (i*2 ^ j.toNat)):=iQ λ_ _ _ _ _ _ _ hc q=>lshift_int_small hc.1 hc.2.1 hc.2.2 q
def gQa:aC X (AE .RShift) (rI (λ_ j=>0<=j) λi j=>.int (i / 2 ^ j.toNat)):=iQ λi j _ _ _ _ _ hc q =>
 rshift_int hc (by rw[mq i (d2a _)];exact q)
def oPa:aC X (AE .BitAnd) (pJ λi j=>.int (lU i j)):=AX λ_ _ _ _ _ _ _ q=>and_int q
def dQa:aC X (AE .BitOr) (pJ λi j=>.int (cH i j)):=AX λ_ _ _ _ _ _ _ q=>or_int q
def unI{g:Int->Int}
  (rule:∀(i:Int) (t:Tok) (s:zA) (Q:dA->zA->Prop) (E:dA->zA->Prop),Q (.int (g i) s.toks) { s with toks:=s.toks+1 }->wA (model X.prog X.w) X.A (f (.int i t)) Q E s) :
  zZ X f (rU λi=>.int (g i)):=by
 intro aA s Y H x v Q I rx h;obtain⟨i,rfl,q⟩:=h;obtain⟨t,rfl⟩:=rx;exact rule i t s _ _ ⟨.int (g i),H,I.tok _,⟨_,rfl⟩,q⟩
def i2a:zZ X (unaryOp .USub) (rU λi=>.int (-i)):=unI λ_ _ _ _ _ q=>neg_int q
end
section
variable{pos:BC}
def O2(I:cA X aA Y H s)(q:Q (.bl k) H)(e:k=k'):EP X aA Y Q (.bool k') s:=by
 subst e;exact⟨.bl k,H,I,rfl,q⟩
def yPa:aC X (QE .Lt) (pJ λi j=>.bl (decide (i<j))):=zX λ_ _ _ _ _ _ _ q=>lt_int q
def xPa:aC X (QE .LtE) (pJ λi j=>.bl (decide (i<=j))):=zX λ_ _ _ _ _ _ _ q=>le_int q
def uPa:aC X (QE .Gt) (pJ λi j=>.bl (decide (j<i))):=zX λ_ _ _ _ _ _ _ q=>gt_int q
def tPa:aC X (QE .GtE) (pJ λi j=>.bl (decide (j<=i))):=zX λ_ _ _ _ _ _ _ q=>ge_int q
def vPa:aC X (QE .In) (λx y H Q=>∃i j,x=.str i/\y=.str j/\Q (.bl (!(HQ j i 0 j.length 1).isEmpty)) H):=by
 intro aA s Y H x y v u Q I rx ry h;obtain⟨i,j,rfl,rfl,q⟩:=h;obtain⟨t,rfl⟩:=rx;obtain⟨t',rfl⟩:=ry;exact in_str (O2 I q rfl)
def wPa:aC X (QE .Is) (λx y H Q=>y=.rA/\Q (.bl (decide (x=.rA))) H):=by
 intro aA s Y H x y v u Q I rx ry h;obtain⟨rfl,q⟩:=h;cases ry;refine is_none_gen (O2 I q ?_)
 cases x<;>first
  | (cases rx;rfl)
  | (obtain⟨t,rfl⟩:=rx;rfl)
def cQa:aC X (QE .IsNot) (λx y H Q=>y=.rA/\Q (.bl (!decide (x=.rA))) H):=by
 intro aA s Y H x y v u Q I rx ry h;obtain⟨rfl,q⟩:=h;cases ry;refine isnot_none_gen (O2 I q ?_)
 cases x<;>first
  | (cases rx;rfl)
  | (obtain⟨t,rfl⟩:=rx;rfl)
def Wj(ho:aC X (QE op) r)(ha:PE X a ta)(hb:PE X b tb)(hm:xJ op b=false):PE X (.Compare a [op] [b] pos) (DQ r ta tb):=by
 intro aA s Y H Q I h;exact wpAny_Compare1 (WZ ha hb I h λv u s2 x y H2 I2 rx ry q=>ho aA s2 Y H2 x y v u Q I2 rx ry q) hm
def Ko(t:TE):TT:=λY H Q=>t Y H λx H'=>∃k,x=.bl k/\Q k H'
def Dk(ho:aC X (QE op) r)(ha:PE X a ta)(hb:PE X b tb)(hm:xJ op b=false):PT X (.Compare a [op] [b] pos) (Ko (DQ r ta tb)):=by
 intro aA s Y H Q I h
 refine wpAny_isTrue_Compare1 (RA (ha aA s Y H _ I h) λv s1 ⟨x,H1,I1,r1,q1⟩=>RA (hb aA s1 Y H1 _ I1 q1) λu s2 ⟨y,H2,I2,r2,q2⟩ =>
  RA (ho aA s2 Y H2 x y v u _ I2 r1 r2 q2) λc s3 ⟨z,H3,I3,r3,k,e,q3⟩=>?_) hm
 subst e;cases r3;exact SM ⟨H3,I3,q3⟩
def j9(r r':R2)(ta tb tc:TE):TE:=λY H Q=>ta Y H λx H1=>tb Y H1 λy H2=>r x y H2 λz H3=>∃k,z=.bl k /\
 (if k=true then tc Y H3 λw' H4=>r' y w' H4 Q else Q (.bl false) H3)
def nRa(ho:aC X (QE op) r)(lJ:aC X (QE xC) r')(ha:PE X a ta)(hb:PE X b tb)(hc:PE X c tc)
  (hm:lastMarks [op,xC] [b,c]=false:=by with_unfolding_all rfl):PE X (.Compare a [op,xC] [b,c] pos) (j9 r r' ta tb tc):=by
 intro aA s Y H Q I h
 refine Compare_chain (RA (ha aA s Y H _ I h) λv s1 ⟨x,H1,I1,r1,q1⟩=>chain_link (RA (hb aA s1 Y H1 _ I1 q1) λu s2 ⟨y,H2,I2,r2,q2⟩ =>
  RA (ho aA s2 Y H2 x y v u _ I2 r1 r2 q2) λd s3 ⟨z,H3,I3,r3,k,e,q3⟩=>?_)) hm
 subst e;cases r3;refine SM ?_
 cases k with
 |false=>exact ite_ff ⟨.bl false,H3,I3,rfl,q3⟩
 |true=>exact ite_tt (chain_last (RA (hc aA s3 Y H3 _ I3 q3) λw' s4 hz=>(by obtain⟨z',H4,I4,r4,q4⟩:=hz;exact lJ aA s4 Y H4 y z' u w' Q I4 r2 r4 q4)))
def qUa(ho:aC X (QE op) r)(lJ:aC X (QE xC) r')(ha:PE X a ta)(hb:PE X b tb)(hc:PE X c tc)
  (hm:lastMarks [op,xC] [b,c]=false:=by with_unfolding_all rfl):PT X (.Compare a [op,xC] [b,c] pos) (Ko (j9 r r' ta tb tc)):=by
 intro aA s Y H Q I h
 refine isTrue_chain (RA (ha aA s Y H _ I h) λv s1 ⟨x,H1,I1,r1,q1⟩=>test_link (RA (hb aA s1 Y H1 _ I1 q1) λu s2 ⟨y,H2,I2,r2,q2⟩ =>
  RA (ho aA s2 Y H2 x y v u _ I2 r1 r2 q2) λd s3 ⟨z,H3,I3,r3,k,e,q3⟩=>?_)) hm
 subst e;cases r3;refine SM ?_
 cases k with
 |false =>
  obtain⟨k',e',q'⟩:=q3;cases e';exact ite_ff ⟨H3,I3,q'⟩
 |true =>
  refine ite_tt (test_last (RA (hc aA s3 Y H3 _ I3 q3) λw' s4 ⟨z',H4,I4,r4,q4⟩=>RA (lJ aA s4 Y H4 y z' u w' _ I4 r2 r4 q4) λd' s5 hz=>?_));obtain⟨z2,H5,I5,r5,k2,e2,q5⟩:=hz;subst e2;cases r5;exact SM ⟨H5,I5,q5⟩
def VU(K:fA)(x:V)(H:Hp)(k:Bool):Prop :=
 match x with
 |.rA=>k=false
 |.bl b=>k=b
 |.int i=>k=(i != 0)
 |.str y=>y.length<=sizeLine/\k=((y.length:Int) != 0)
 |.ref p=>(∃xs,DB K H p xs/\k=!xs.isEmpty)\/(∃xs,OC K H p xs/\k=!xs.isEmpty)\/∃JE,H p=some (.dK JE)/\k=!JE.isEmpty
 |_=>False
def uEa(r:KV JE vs):(!vs.isEmpty)=!JE.isEmpty:=by
 cases r<;>rfl
def Mg(r:aAe xs gA):(!gA.toArray.isEmpty)=!xs.isEmpty:=by
 cases r<;>simp
def SN:(sizeLine:Nat)<2 ^ 63:=by rw[ML];decide
def Po:ku X (λx H Q=>∃k,VU X.K x H k/\Q k H):=by
 intro aA s Y H x v Q I rx h;obtain⟨k,e,q⟩:=h;have hl:=SN;have hs:sizeLine=16777216:=ML
 cases x with
 |rA =>
  cases rx;have e':k=false:=e;subst e';exact truthy_none ⟨H,I,q⟩
 |bl b =>
  cases rx;have e':k=b:=e;subst e';exact SM ⟨H,I,q⟩
 |int i =>
  obtain⟨t,rfl⟩:=rx;have e':k=(i != 0):=e;subst e';exact PySem.P.truthy_int ⟨H,I,q⟩
 |str y =>
  obtain⟨t,rfl⟩:=rx;obtain⟨hy,e'⟩:y.length<=sizeLine/\k=((y.length:Int) != 0):=e;subst e';exact PySem.P.truthy_str (by lia) ⟨H,I.tok _,q⟩
 |ref p =>
  cases rx;have e':(∃xs,DB X.K H p xs/\k=!xs.isEmpty)\/(∃xs,OC X.K H p xs/\k=!xs.isEmpty)\/∃JE,H p=some (.dK JE)/\k=!JE.isEmpty:=e
  rcases e' with ⟨xs,hx,e'⟩ | ⟨xs,hx,e'⟩ | ⟨JE,hx,e'⟩
  ·subst e';obtain⟨gA,r,pl,hz⟩:=I.list hx;have cC:=r.length;exact wpAny_truthy_list pl.isList (by simp only[PD];lia) ⟨H,I.tok _,by rw[Mg r];exact q⟩
  ·subst e';obtain⟨gA,r,pl,hz⟩:=I.tuple hx;have cC:=r.length;exact truthy_tuple pl (by simp only[PD];lia) ⟨H,I.tok _,by rw[Mg r];exact q⟩
  ·subst e';obtain⟨hz,hS,vs,r,m⟩:JE.length<=sizeLine/\(p==sysModules)=false/\∃vs,KV JE vs/\s.heap.DictOf (Vi X.prog X.w) p vs:=I.IA p _ hx
   have cC:JE.length=vs.length:=Qr r;exact wpAny_truthy_dict hS m (by lia) ⟨H,I.tok _,by rw[uEa r];exact q⟩
 |_=>exact(show False from e).elim
def Ek(ha:PE X a ta)(he:∀whole,isTrue a X.env whole=(do let v <- whole;standAt a.pos;holding [v] (truthy v))) :
  PT X a (λY H Q=>ta Y H λx H'=>∃k,VU X.K x H' k/\Q k H'):=by
 intro aA s Y H Q I h;exact isTrue_plain (RA (ha aA s Y H _ I h) λv s1 hz=>(by obtain⟨x,H1,I1,r1,q1⟩:=hz;exact Po aA s1 Y H1 x v Q I1 r1 q1)) (he _)
def nPa:aC X (AE .Add) (λx y H Q=>∃i j,x=.str i/\y=.str j/\i.length+j.length<=sizeLine/\Q (.str (i++j)) H):=by
 intro aA s Y H x y v u Q I rx ry h;obtain⟨i,j,rfl,rfl,hz,q⟩:=h;obtain⟨t,rfl⟩:=rx;obtain⟨t',rfl⟩:=ry;exact add_str (λt' tk=>⟨.str (i++j),H,I.tok _,⟨_,rfl⟩,q⟩) hz
def aAA(r:aAe [x] us):∃u,us=[u]/\aAf x u:=by
 cases r with
 |cons r1 r2=>cases r2;exact⟨_,rfl,r1⟩
def aAP(r:aAe [x,y] us):∃u w',us=[u,w']/\aAf x u/\aAf y w':=by
 cases r with
 |cons r1 r2 =>
  cases r2 with
  |cons r3 r4=>cases r4;exact⟨_,_,rfl,r1,r3⟩
def Bd:MF X (.type "int") (λxs H Q=>(∃i,xs=[.int i]/\Q (.int i) H)\/∃k,xs=[.bl k]/\Q (.int (if k then 1 else 0)) H):=by
 intro aA s Y H xs us Q I r h;rcases h with ⟨i,rfl,q⟩ | ⟨k,rfl,q⟩
 ·obtain⟨u,rfl,t,rfl⟩:=aAA r;exact call_int_int ⟨.int i,H,I,⟨_,rfl⟩,q⟩
 ·obtain⟨u,rfl,r1⟩:=aAA r;cases r1;exact call_int_bool ⟨.int (if k then 1 else 0),H,I.tok _,⟨_,rfl⟩,q⟩
def Yw:MF X (.type "str") (λxs H Q=>∃i,xs=[.int i]/\i.natAbs.log2<1920/\Q (.str (toString i)) H):=by
 intro aA s Y H xs us Q I r h;obtain⟨i,rfl,hz,q⟩:=h;obtain⟨u,rfl,t,rfl⟩:=aAA r;exact PySem.P.str_of_int hz ⟨.str _,H,I.tok _,⟨_,rfl⟩,q⟩
end
structure jN(h:HB)(x dx C:eA)(mA:bA->Option dA):Prop where
 obj:h.get? x=some (UM C dx)
 ns:h.Ns1 dx mA
 ne:dx≠x
def fKa{h:HB}(n:h.Ns1 dx mA):∃od,h.get? dx=some od/\∀name,VY name od=some (mA name):=by
 obtain⟨o,es,ep,ho,hd,hk,_,hm⟩:=n;refine⟨o,ho,λname=>?_⟩;have e:=hm name;unfold nsFind findBy at e;rw[<- Ga] at e;unfold VY;rw[hd];dsimp only;split
 ·rename_i y q;rw[q] at e;exact congrArg some e
 ·rename_i q;rw[q] at e
  have a:es.toList.any (·.refKey)=false:=by(rw[List.any_eq_false];intro y hy;obtain⟨z,t,rBa⟩:=hk y (Array.mem_toList_iff.mp hy);simp[DictEntry.refKey,rBa])
  have a':¬es.toList.any (·.refKey)=true:=by rw[a];exact EJ
  rw[vB a'];exact congrArg some e
def jN.look(I:jN h x dx C mA):∃od,PySem.W.InstAt h x (UM C dx) C (some od)/\∀name,VY name od=some (mA name) :=
 let ⟨od,ho,hl⟩:=fKa I.ns
 ⟨od,⟨I.obj,rfl,rfl,ho⟩,hl⟩
section
variable{K:fA}
def aAY(X:K.In s.heap)(I:jN s.heap x dx C mA)(hg:LQ K C name=true)(hh:HK K C=true)
  (ha:QD K (.ref C) name=some none) (hv:mA name=some v) (hv':qr v=true) (h:Q v { s with toks:=s.toks+1 }) :
  wA (model prog w) A (getAttr (.ref x) name expr) Q E s:=by
 obtain⟨od,J,hl⟩:=I.look;exact PySem.W.get_value X J (xa hg).1 (PySem.W.findObj_own hh ha rfl (by rw[hl,hv])) hv' h
def Z'(X:K.In s.heap)(I:jN s.heap x dx C mA)(hg:LQ K C name=true)
  (hf:QD K (.ref C) name=some (some (.ref f))) (ht:zU K (.ref f)=true) (hv:mA name=none) (h:Q (.ref f,[.ref x]) s) :
  wA (model prog w) A (getMethod (.ref x) name pl) Q E s:=by
 obtain⟨od,J,hl⟩:=I.look;exact PySem.W.method_fn X J (xa hg).1 (xa hg).2 hf (vD.mp ht) (by show(VY name od).map (·.isSome)=some false;rw[hl,hv];rfl) h
def aYa(X:K.In s.heap)(I:jN s.heap x dx C mA)
  (hs:QD K (.ref C) "__setattr__"=some (some (.builtin "object.__setattr__"))) (hp:Ma K C=true) (ht:Ya K C name=some none) (hh:HK K C=true)
  (hw:Lb mA ns) (wB:ns.length<=sizeLine)
  (h:∀h',jN h' x dx C (λy=>if y=name then some v else mA y)->BK dx s.heap h'->Q () { s with heap:=h',toks:=s.toks+2 }) :
  wA (model prog w) A (setAttr (.ref x) name v) Q E s:=by
 obtain⟨od,J,hl⟩:=I.look;refine Rr X J hs (PySem.W.osa_open (s:={ s with toks:=s.toks+1 }) (r:=none) X J hp ht λb=>?_);obtain⟨cd,hc,vI⟩:=PySem.W.any_some hh;have hx:s.heap.get? x=some ⟨.ref C,some dx,.plain,#[]⟩:=I.obj;refine BA (GB (BA (BA (vb hx (BA (PySem.W.Looks.here (s:={ s with toks:=s.toks+1 }) (Ab X hc) ?_))))));rw[vI];refine GB (a:=some dx) (BA (GB (BA ?_)));refine wpAny_nsSet1 (s:={ s with toks:=s.toks+1 }) I.ns λh' yW zI=>?_
 obtain⟨oD,Py,xy,C5,P4,O4⟩:=yW.count (Lr name v hw);refine BA (wpAny_lookBehind C5 (by rw[P4];exact pastItsLine_dict (lD O4 (by rw[fC];lia))) ?_);exact GB (h _ ⟨(zI.2 _ (KD I.ne)).trans I.obj,yW,I.ne⟩ zI)
def Qi(X:K.In s.heap)(hm:PY K C=true)
  (hi:QD K (.ref C) "__init__"=some (some (.ref f))) (hf:WY K (.ref f)=some (.type "function"))
  (h:BJ (model prog w) (A.under (.builtin "type.__call__" ⟨.ref C::vs,kw⟩)) (.call (.ref f) ⟨.ref (s.heap.objs.size+1)::vs,kw⟩) (PySem.W.InitBack (s.heap.objs.size+1) R)
   { s with heap:=(s.heap.push EL).push (UM C s.heap.objs.size) }) :
  BJ (model prog w) A (.call (.ref C) ⟨vs,kw⟩) R s:=by
 obtain⟨hh,g,d,t,os⟩:=s;exact PySem.W.make_core (PySem.W.makes_of X hm) (vU X hi) (λself=>PySem.W.bind_fn X self hf) (.inl rfl) h
end
noncomputable def eF(f:bA)(v:V):List (bA×V)->List (bA×V)
 |[]=>[(f,v)]
 | (g,x)::r=>if g=f then(g,v)::r else(g,x)::eF f v r
theorem Ki(f g:bA)(v:V):∀fs:List (bA×V),(eF f v fs).lookup g=if g=f then some v else fs.lookup g
 |[]=>by
  show CG g [(f,v)]=_;by_cases h:g=f
  ·have hb:(g==f)=true:=vD.mpr h;simp only[CG,hb,FA h]
  ·have hb:(g==f)=false:=DJ.mpr h;simp only[CG,hb,vB h]
 | (k,x)::r=>by
  have ih:=Ki f g v r;rw[show eF f v ((k,x)::r)=(if k=f then(k,v)::r else(k,x)::eF f v r) from rfl];by_cases hk:k=f
  ·rw[FA hk];by_cases h:g=k
   ·have hb:(g==k)=true:=vD.mpr h;simp only[CG,hb,FA (h.trans hk)]
   ·have hb:(g==k)=false:=DJ.mpr h;simp only[CG,hb,vB (λe:g=f=>h (e.trans hk.symm))]
  ·rw[vB hk];by_cases h:g=k
   ·have hb:(g==k)=true:=vD.mpr h;simp only[CG,hb,vB (λe:g=f=>hk (h.symm.trans e))]
   ·have hb:(g==k)=false:=DJ.mpr h;simp only[CG,hb];exact ih
theorem u7(f:bA)(v:V):∀fs:List (bA×V),f∈(eF f v fs).map (·.1)/\∀g,g∈fs.map (·.1)->g∈(eF f v fs).map (·.1)
 |[]=>⟨by simp[eF],λg h=>by simp at h⟩
 | (k,x)::r=>by
  obtain⟨i1,i2⟩:=u7 f v r;rw[show eF f v ((k,x)::r)=(if k=f then(k,v)::r else(k,x)::eF f v r) from rfl];by_cases hk:k=f
  ·rw[FA hk];subst hk;exact⟨by simp,λg h=>by simpa using h⟩
  ·rw[vB hk];refine⟨?_,λg h=>?_⟩
   ·rw[pD];exact OD _ i1
   ·rw[pD] at h ⊢;rcases eD.mp h with e | e
    ·exact eD.mpr (.inl e)
    ·exact OD _ (i2 g e)
theorem Gi(f:bA)(v:V):∀fs:List (bA×V),(eF f v fs).length<=fs.length+1
 |[]=>by simp[eF]
 | (k,x)::r=>by
  have ih:=Gi f v r;rw[show eF f v ((k,x)::r)=(if k=f then(k,v)::r else(k,x)::eF f v r) from rfl];by_cases hk:k=f
  ·rw[FA hk,fC,fC];lia
  ·rw[vB hk,fC,fC];lia
def lI.some_of(r:lI (some v) o):∃u,o=some u/\aAf v u:=by
 cases o with
 |none=>exact(show False from r).elim
 |some u=>exact⟨u,rfl,r⟩
def lI.none_of(r:lI none o):o=none:=by
 cases o with
 |none=>rfl
 |some u=>exact(show False from r).elim
def oAa(r:aAf v u):qr u=true:=by
 cases v with
 |rA=>cases (show u=Value.none from r);rfl
 |bl b=>cases (show u=Value.bool b from r);rfl
 |int i=>obtain⟨t,e⟩:=(show ∃t,u=Value.int i t from r);cases e;rfl
 |str x=>obtain⟨t,e⟩:=(show ∃t,u=Value.str x t from r);cases e;rfl
 |ref a=>cases (show u=Value.ref a from r);rfl
 |ty n=>cases (show u=Value.type n from r);rfl
section
variable{fs fs':List (bA×V)}
def i6(IA:wD P w H h)(e:H a=some (.ins C dx fs)):∃mA,jN h a dx C mA/\(∀f,lI (fs.lookup f) (mA f))/\Lb mA (fs.map (·.1))/\fs.length<=1000/\H dx=some (.own a):=by
 obtain⟨d,z,ne,ob,mA,n,r,q⟩:=(show XE P w H h a (.ins C dx fs) from IA a _ e)
 exact⟨mA,⟨ob,n,ne⟩,r,q,z,d⟩
end
structure UE(K:fA)(C:eA):Prop where
 pg:LQ K C Str.empty=true
 hd:HK K C=true
 po:Ma K C=true
 sa:QD K (.ref C) "__setattr__"=some (some (.builtin "object.__setattr__"))
def UE.get{K:fA}(c:UE K C)(f:bA):LQ K C f=true:=c.pg
def fH(K:fA)(C:eA)(f:bA):Prop:=QD K (.ref C) f=some none
def fH.m1a{K:fA}(n:fH K C f):Ya K C f=some none:=by
 unfold Ya;rw[show QD K (.ref C) f=some none from n];rfl
structure Meth(K:fA)(C:eA)(m:bA)(f:eA):Prop where
 at_:QD K (.ref C) m=some (some (.ref f))
 fn:zU K (.ref f)=true
 kp:xF K (.ref f)=true
section
variable{E:dA->zA->Prop}
def aAa(I:cA X aA Y H s)(e:H a=some (.ins C dx fs))(c:UE X.K C)(n:fH X.K C f)(l:fs.lookup f=some v)
  (h:∀u s',cA X aA Y H s'->aAf v u->Q u s'):wA (model X.prog X.w) A (getAttr (.ref a) f b) Q E s:=by
 obtain⟨mA,O,r,_,_,_⟩:=i6 I.IA e;obtain⟨u,hu,ru⟩:=lI.some_of (o:=mA f) (by rw[<- l];exact r f);exact aAY I.wC O (c.get f) c.hd n hu (oAa ru) (h u _ (I.tok _) ru)
def j4(I:cA X aA Y H s)(e:H a=some (.ins C dx fs))(c:UE X.K C)(k:Meth X.K C m g)(l:fs.lookup m=none)
  (h:Q (.ref g,[.ref a]) s):wA (model X.prog X.w) A (getMethod (.ref a) m pl) Q E s:=by
 obtain⟨mA,O,r,_,_,_⟩:=i6 I.IA e;have hn:mA m=none:=lI.none_of (by rw[<- l];exact r m);exact Z' I.wC O (c.get m) k.at_ k.fn hn h
def bYa(I:cA X aA Y H s)(e:H a=some (.ins C dx fs))(c:UE X.K C)(n:fH X.K C f)(hl:fs.length<1000)(ry:aAf y u)
  (h:∀s',cA X aA Y (sA H a (.ins C dx (eF f y fs))) s'->Q () s'):wA (model X.prog X.w) A (setAttr (.ref a) f u) Q E s:=by
 obtain⟨mA,O,r,wi,_,ho⟩:=i6 I.IA e;have hz:(fs.map (·.1)).length<=sizeLine:=by rw[YA,ML];lia
 refine aYa I.wC O c.sa c.po n.m1a c.hd wi hz λh' O' sb=>h _ ?_
 have hd:∃o,h'.get? dx=some o:=let ⟨o,_,_,e',_⟩:=O'.ns;⟨o,e'⟩
 refine I.write (x:=a) (e:=dx) (by rw[e];exact True.intro) (.inr ho) (λb q hb z=>(sb.2 b hb).trans z) hd ?_;refine⟨by rw[dB O.ne];exact ho, ?_,O.ne,O'.obj,_,O'.ns,λg=>?_,λg hg=>?_⟩
 ·have:=Gi f y fs;lia
 ·show lI ((eF f y fs).lookup g) (if g=f then some u else mA g);rw[Ki];by_cases q:g=f
  ·rw[FA q,FA q];exact ry
  ·rw[vB q,vB q];exact r g
 ·by_cases q:g=f
  ·rw[q];exact(u7 f y fs).1
  ·refine(u7 f y fs).2 g (wi g λz=>hg ?_);show(if g=f then some u else mA g)=none;rw[vB q];exact z
def cA.made(I:cA X aA Y H s):cA X aA Y (sA (sA H s.heap.objs.size (.own (s.heap.objs.size+1))) (s.heap.objs.size+1) (.ins C s.heap.objs.size []))
  { s with heap:=(s.heap.push EL).push (UM C s.heap.objs.size) }:=by
 have e1:(s.heap.push EL).get? s.heap.objs.size=some EL:=EG s.heap rfl
 have e2:((s.heap.push EL).push (UM C s.heap.objs.size)).get? (s.heap.objs.size+1)=some (UM C s.heap.objs.size):=by
  have:=EG (s.heap.push EL) (o:=UM C s.heap.objs.size) rfl
  rwa[XY] at this
 have e3:(s.heap.push EL).Ns s.heap.objs.size (λ_=>none):=⟨EL,#[],_,e1,rfl,(λe he=>absurd he (by simp)),λ_=>rfl⟩
 have I1:=I.laid (a:=s.heap.objs.size) (o:=.own (s.heap.objs.size+1)) (h':=s.heap.push EL) (t':=s.toks) (λb u q=>NC _ q) (JB _) ⟨_,e1⟩;refine I1.laid (a:=s.heap.objs.size+1) (o:=.ins C s.heap.objs.size []) (t':=s.toks) (λb u q=>NC _ q) (ZY (XY _ _)) ?_;have ne:s.heap.objs.size≠s.heap.objs.size+1:=kE (zK _);refine⟨by rw[dB ne,eC],UQ _,ne,e2,λ_=>none,(Yq e3).at λo q=>NC _ q,λ_=>True.intro,λy hy=>absurd rfl hy⟩
def Yu(hb:attributeBase e f env (eval e env)=eval e env)
  (h:wA (model prog w) A (eval e env) (λo s₁=>wA (model prog w) A (getAttr o f true) Q E s₁) E s):wA (model prog w) A (eval (.Attribute e f pos) env) Q E s :=
 Attribute_any_ h (by rw[arm_eval_Attribute,hb])
end
def r0a(K:fA)(ta:TE)(f:bA):TE:=λY H Q=>ta Y H λx H1=>∃a C dx fs v,x=.ref a/\H1 a=some (.ins C dx fs)/\UE K C/\fH K C f/\fs.lookup f=some v/\Q v H1
def eXa(K:fA)(ta tv:TE)(f:bA):TS:=λD Y H=>tv Y H λy H1=>ta Y H1 λx H2=>∃a C dx fs,x=.ref a/\H2 a=some (.ins C dx fs)/\UE K C/\fH K C f/\fs.length<1000 /\
 D.nx Y (sA H2 a (.ins C dx (eF f y fs)))
section
variable{ta tv:TE}
def pRa(he:PE X e ta)(hb:attributeBase e f X.env (eval e X.env)=eval e X.env):PE X (.Attribute e f pos) (r0a X.K ta f):=by
 intro aA s Y H Q I h;refine Yu hb (RA (he aA s Y H _ I h) λu s1 hz=>?_);obtain⟨x,H1,I1,rx,a,C,dx,fs,v,ex,ea,c,n,l,q⟩:=hz;subst ex;obtain rfl:u=Value.ref a:=rx;exact aAa I1 ea c n l λu' s2 I2 ru=>⟨v,H1,I2,ru,q⟩
def B8(ha:PE X o ta)(hv:PE X value tv)(hs:swapsWith value (some (.Attribute o f pos')) pos.line X.env=pure false):PS X (.Assign [.Attribute o f pos'] value pos) (eXa X.K ta tv f):=by
 intro aA s Y H D I h;refine gq (RA (hv aA s Y H _ I h) λu s1 ⟨y,H1,I1,ry,q⟩=>RA (ha aA s1 Y H1 _ I1 q) λov s2 hz=>?_) hs;obtain⟨x,H2,I2,rx,a,C,dx,fs,ex,ea,c,n,l,q2⟩:=hz;subst ex;obtain rfl:ov=Value.ref a:=rx;exact bYa I2 ea c n l ry λs3 I3=>⟨Y,_,I3,q2⟩
end
structure XB(k:Nat)(A:JF):Prop where
 hd:A.handled=none
 dp:A.depth+3*k+5<recursionLimit
 un:A.units+16*k+200<cLine
 gs:A.guards=some []
def XB.mono(r:XB k A)(h:j<=k):XB j A:=⟨r.hd,by have:=r.dp;lia,by have:=r.un;lia,by first | exact r.gs | simpa[Bb,SQ,Tb,aZ,pushGuards,guardIds] using r.gs⟩
theorem XB.deeper(r:XB (k+1) A)(env:Env):XB k (A.deeper env) :=
 ⟨r.hd,by have:=r.dp;show A.depth+1+3*k+5<_;lia,by have:=r.un;show A.units+3+16*k+200<_;lia,by first | exact r.gs | simpa[Bb,SQ,Tb,aZ,pushGuards,guardIds] using r.gs⟩
def pKa{A:JF}:(A.under (.builtin "type.__call__" ⟨.ref C::us,kw⟩)).depth=A.depth+1:=by
 first | rfl | simp[SQ,Code.weight,Code.isCreation,aZ,Code.isCaller,Code.frames,Nb,guardIds]
def qKa{A:JF}:(A.under (.builtin "type.__call__" ⟨.ref C::us,kw⟩)).units=A.units+1:=by
 first | rfl | simp[SQ,Code.cUnits,Code.frames,Nb]
def XB.make(r:XB (k+1) A)(C:eA)(us:List dA)(kw:List (bA×dA)):XB k (A.under (.builtin "type.__call__" ⟨.ref C::us,kw⟩)) :=
 ⟨r.hd,by have:=r.dp;rw[pKa];lia,by have:=r.un;rw[qKa];lia,by first | exact r.gs | simpa[Bb,SQ,Tb,aZ,pushGuards,guardIds] using r.gs⟩
theorem XB.depth(r:XB k A):A.depth<recursionLimit:=by have:=r.dp;lia
theorem XB.units(r:XB k A):A.units+64<cLine:=by have:=r.un;lia
def cI:TA:=λ_ H Q=>Q [] H
def WG(ta:TE)(tr:TA):TA:=λY H Q=>ta Y H λx H1=>tr Y H1 λxs H2=>Q (x::xs) H2
section
variable{pos:BC}
def XH:PA X [] cI:=λ_ _ _ _ H Q I h=>Calls.spliced_nil ⟨[],H,I,.nil,h⟩
def GF(ha:PE X e te)(hr:PA X es t)(hs:zB (e::es) X.env=(false,eval e X.env)::zB es X.env:=by rfl):PA X (e::es) (WG te t):=by
 intro pos aA s Y H Q I h;rw[hs];show wA _ _ (spliced ((false,eval e X.env)::nD pos (zB es X.env))) _ _ s;refine Calls.spliced_cons (RA (ha aA s Y H _ I h) λu s1 hz=>?_);obtain⟨x,H1,I1,r1,q1⟩:=hz;exact RA (hr pos aA s1 Y H1 _ I1 q1) λus s2 hz=>(by obtain⟨xs,H2,I2,r2,q2⟩:=hz;exact⟨x::xs,H2,I2,.cons r1 r2,q2⟩)
def Lo(t:TA):TE:=λY H Q=>t Y H λxs H1=>xs.length<=sizeLine/\∀p,H1 p=none->Q (.ref p) (sA H1 p (.t xs))
def w0a(t:TA):TE:=λY H Q=>t Y H λxs H1=>xs.length<=sizeLine/\∀p,H1 p=none->Q (.ref p) (sA H1 p (.l xs))
def v8{x1}(h:PA X es t):PE X (.Tuple es x1 pos) (Lo t):=by
 intro aA s Y H Q I hq;refine wpAny_Tuple_spliced (RA (h pos aA s Y H _ I hq) λus s1 ⟨xs,H1,I1,r,z,q⟩=>⟨by rw[<- r.length];exact z, ?_⟩);have hf:H1 s1.heap.objs.size=none:=I1.IA.fresh (JB _);refine⟨.ref s1.heap.objs.size,sA H1 s1.heap.objs.size (.t xs),I1.laid (t':=s1.toks) (λb u e=>NC _ e) (JB _) ?_,rfl,q _ hf⟩;exact⟨z,us,r,⟨_,EG _ rfl,rfl,_,rfl⟩⟩
def rRa(h:PA X es t):PE X (.List es pos) (w0a t):=by
 intro aA s Y H Q I hq;refine wpAny_List_spliced (RA (h pos aA s Y H _ I hq) λus s1 ⟨xs,H1,I1,r,z,q⟩=>⟨by rw[<- r.length];exact z, ?_⟩);have hf:H1 s1.heap.objs.size=none:=I1.IA.fresh (JB _);refine⟨.ref s1.heap.objs.size,sA H1 s1.heap.objs.size (.l xs),I1.laid (t':=s1.toks) (λb u e=>NC _ e) (JB _) ?_,rfl,q _ hf⟩;exact⟨z,us,0,r,EG _ rfl⟩
end
abbrev Sp:=List V->Hp->VK->XK->Prop
abbrev UL:=List Env->Hp->zA->XK->dA->zA->Prop
structure gN(P:nE)(w:VC)(K:fA)(mg:bA->Option dA)(base:HB)(A:JF)(outer:List Env)(s:zA)(H:Hp):Prop where
 frames:A.frames=some outer
 mod:Mod K mg base
 bs:∀b o,base.get? b=some o->s.heap.get? b=some o/\H b=none
 nI:base.objs.size<=s.heap.objs.size
 TF:s.heap.FunFrames base outer
 dJ:∀b∈aE outer,H b=none
 IA:wD P w H s.heap
 bare:EK s.gens
def CE(outer:List Env)(P:nE)(w:VC)(H:Hp)(s:zA)(Q:VK)(u:dA)(s':zA):Prop :=
 ∃v H',s'.os=s.os/\EK s'.gens/\Un (aE outer) [] H H' s.heap s'.heap/\wD P w H' s'.heap/\aAf v u/\Q v H'
def CR(CX:UL)(outer:List Env)(P:nE)(w:VC)(H:Hp)(s:zA)(Q:VK)(E:XK)(r:Result)(s':zA):Prop :=
 match r with
 |.ok (.ret u)=>CE outer P w H s Q u s'
 |.ok _=>False
 |.error e=>CX outer H s E e s'
structure ZC(P:nE)(w:VC)(K:fA)(mg:bA->Option dA)(base:HB)(CX:UL)(k:Nat)(f:eA)(fd:gF)(ps:List bA)(sp:Sp):Prop where
 len:∀vs H Q E,sp vs H Q E->vs.length=ps.length
 run:∀(A:JF) (outer:List Env) (s:zA) (H:Hp) (args:Args) (us:List dA) (vs:List V) (Q:VK) (E:XK),XB k A->gN P w K mg base A outer s H->fZ s fd args (ps.zip us)->aAe vs us->sp vs H Q E ->
  BJ (model P w) A (.call (.ref f) args) (CR CX outer P w H s Q E) s
def gN.make{K:fA}(e:gN P w K mg base A outer s H)(C:eA)(us:List dA)(kw:List (bA×dA)) :
  gN P w K mg base (A.under (.builtin "type.__call__" ⟨.ref C::us,kw⟩)) outer s H:=⟨by first | exact e.frames | (simpa[SQ,Code.envs,Nb,pushEnvs] using e.frames),e.mod,e.bs,e.nI,e.TF,e.dJ,e.IA,e.bare⟩
section
variable{X:Cx}{aA:List (eA×rB)}{Y:St}{H:Hp}{s s':zA}
def cA.kH(I:cA X aA Y H s):gN X.prog X.w X.K X.mg X.base X.A X.stack s H :=
 ⟨I.ok.frames,I.ok.mod,I.bs,lD I.ok.nI I.sz,I.stack,I.Z8,I.IA,I.bare⟩
def cA.after(I:cA X aA Y H s)(h:CE X.stack X.prog X.w H s Q u s'):EP X aA Y Q u s':=by
 obtain⟨v,H',os,bare,un,IA,r,q⟩:=h;obtain⟨hh,g,d,t,os'⟩:=s';obtain rfl:os'=s.os:=os;exact⟨v,H',I.call (h':=hh) (g':=g) (d':=d) (t':=t) (ch:=[]) un IA bare (λb z=>absurd z (by simp)),r,q⟩
end
def m0a(sp:Sp)(FE:List V)(E:XK)(t:TA):TE:=λY H Q=>t Y H λvs H1=>sp (vs++FE) H1 Q E
def m9(C:eA)(m:bA)(sp:Sp)(FE:List V)(E:XK)(ta:TE)(t:TA):TE:=λY H Q=>ta Y H λx H1=>∃a dx fs,x=.ref a/\H1 a=some (.ins C dx fs)/\fs.lookup m=none /\
 t Y H1 λvs H2=>sp (x::(vs++FE)) H2 Q E
def x0a(C:eA)(sp:Sp)(FE:List V)(E:XK)(t:TA):TE:=λY H Q=>t Y H λvs H1=>∀x dx,H1 x=none->H1 dx=none->dx≠x ->
 sp (.ref x::(vs++FE)) (sA (sA H1 dx (.own x)) x (.ins C dx [])) (λv H2=>v=.rA/\Q (.ref x) H2) E
def aAn(K:fA)(fd:gF)(ps:List bA)(ds:List dA):Prop :=
 ∀(s:zA) (us:List dA),K.In s.heap->(us++ds).length=ps.length->fZ s fd ⟨us,[]⟩ (ps.zip (us++ds))
def aAn.all{K:fA}(h:∀us:List dA,us.length=ps.length->bindArgs fd ⟨us,[]⟩=pure (ps.zip us)):aAn K fd ps []:=λs us _ hl=>by
 rw[jI] at hl ⊢;exact .of_eq (h us hl)
def aAC(CX:UL)(X:Cx)(E:XK):Prop:=∀(aA:List (eA×rB)) (Y:St) (H:Hp) (s:zA) (e:dA) (s':zA),cA X aA Y H s->CX X.stack H s E e s'->X.xe e s'
section
variable{X:Cx}{CX:UL}{k:Nat}{f C:eA}{fd:gF}{ps:List bA}{sp:Sp}{FE:List V}{ds:List dA}{E:XK}{x m:bA}{p pos NA:BC}{e o:vA}{es:List vA}{ta:TE}{t:TA}
def M8(F:ZC X.prog X.w X.K X.mg X.base CX k f fd ps sp)(hr:XB k X.A)(hb:aAn X.K fd ps ds)(hd:aAe FE ds)(hx:aAC CX X E)
  (I:cA X aA Y H s) (r:aAe vs us) (h:sp (vs++FE) H Q E):wA (model X.prog X.w) X.A (call (.ref f) us) (EP X aA Y Q) X.xe s:=by
 have r2:aAe (vs++FE) (us++ds):=r.append hd;have hl:(us++ds).length=ps.length:=by rw[<- r2.length];exact F.len _ _ _ _ h
 refine MO (KL (F.run X.A X.stack s H ⟨us,[]⟩ (us++ds) (vs++FE) Q E hr I.kH (hb s us I.wC hl) r2 h) λr s' hq=>?_)
 cases r with
 |error e=>exact hx aA Y H s e s' I hq
 |ok fl =>
  cases fl with
  |ret u=>exact I.after hq
  |next=>exact pE hq
  |brk=>exact pE hq
  |cont=>exact pE hq
def lRa(F:ZC X.prog X.w X.K X.mg X.base CX k f fd ps sp)(hr:XB k X.A)(hg:Gl X x)(hm:X.mg x=some (.ref f))(hk:xF X.K (.ref f)=true)(hb:aAn X.K fd ps ds)(hd:aAe FE ds)(hx:aAC CX X E)
  (ha:PA X (e::es) t) (VF:(x==("__debug__":bA))=false:=by decide) (he:zB (e::es) X.env=(false,eval e X.env)::zB es X.env:=by rfl) (yD:(nD pos (zB es X.env)).any (·.1)=false:=by rfl) :
  PE X (.Call (.Name x p) (e::es) [] pos) (m0a sp FE E t):=by
 intro aA s Y H Q I h;refine yO (tL I hg hm ?_ VF);refine zO (h₀:=X.base) I.ok.mod.kin hk (RA (ha pos aA s Y H _ I h) λus s1 ⟨vs,H1,I1,r,q⟩=>⟨I1.wC, ?_⟩) he yD;exact M8 F hr hb hd hx I1 r q
def uRa(he:PE X o ta)(c:UE X.K C)(hm:Meth X.K C m f)(F:ZC X.prog X.w X.K X.mg X.base CX k f fd ps sp)(hr:XB k X.A)(hb:aAn X.K fd ps ds)(hd:aAe FE ds)(hx:aAC CX X E)(ha:PA X (e::es) t)
  (RH:zB (e::es) X.env=(false,eval e X.env)::zB es X.env:=by rfl) (yD:(nD pos (zB es X.env)).any (·.1)=false:=by rfl)
  (ht:eval (.Call (.Attribute o m NA) (e::es) [] pos) X.env=(do
   let ov <- eval o X.env
   standAt NA.atName
   let (f,first) <- holding [ov] (getMethod ov m pl)
   callWith pos f first (nD pos (zB (e::es) X.env)) (backToKw pos (keywordEach [] X.env))):=by rfl) :
  PE X (.Call (.Attribute o m NA) (e::es) [] pos) (m9 C m sp FE E ta t):=by
 intro aA s Y H Q I h;refine aa (RA (he aA s Y H _ I h) λu s1 hz=>?_) ht;obtain⟨x,H1,I1,rx,a,dx,fs,ex,ea,l,q⟩:=hz;subst ex;obtain rfl:u=Value.ref a:=rx;refine j4 I1 ea c hm l ?_;refine zO (first:=[.ref a]) (h₀:=X.base) I.ok.mod.kin hm.kp (RA (ha pos aA s1 Y H1 _ I1 q) λus s2 ⟨vs,H2,I2,r,q2⟩=>⟨I2.wC, ?_⟩) RH yD;exact M8 (us:=.ref a::us) (vs:=.ref a::vs) F hr hb hd hx I2 (.cons rfl r) q2
def vRa(he:PE X o ta)(c:UE X.K C)(hm:Meth X.K C m f)(F:ZC X.prog X.w X.K X.mg X.base CX k f fd ps sp)(hr:XB k X.A)(hb:aAn X.K fd ps ds)(hd:aAe FE ds)(hx:aAC CX X E)
  (ht:eval (.Call (.Attribute o m NA) [] [] pos) X.env=(do
   let ov <- eval o X.env
   standAt NA.atName
   let (f,first) <- holding [ov] (getMethod ov m pl)
   callWith pos f first (nD pos (zB [] X.env)) (backToKw pos (keywordEach [] X.env))):=by rfl) :
  PE X (.Call (.Attribute o m NA) [] [] pos) (m9 C m sp FE E ta cI):=by
 intro aA s Y H Q I h;refine aa (RA (he aA s Y H _ I h) λu s1 hz=>?_) ht;obtain⟨x,H1,I1,rx,a,dx,fs,ex,ea,l,q⟩:=hz;subst ex;obtain rfl:u=Value.ref a:=rx;refine j4 I1 ea c hm l ?_;exact PySem.W.callWith_K0 (first:=[.ref a]) I1.wC hm.kp (M8 (us:=[.ref a]) (vs:=[.ref a]) F hr hb hd hx I1 (.cons rfl .nil) q)
structure Mk(K:fA)(C f:eA):Prop where
 makes:PY K C=true
 init:QD K (.ref C) "__init__"=some (some (.ref f))
 fn:zU K (.ref f)=true
 kp:xF K (.ref C)=true
def yWa(M:Mk X.K C f)(F:ZC X.prog X.w X.K X.mg X.base CX k f fd ps sp)(hr:XB (k+1) X.A)(hb:aAn X.K fd ps ds)(hd:aAe FE ds)
  (hx:aAC CX X E) (I:cA X aA Y H s) (r:aAe vs us)
  (h:∀x dx,H x=none->H dx=none->dx≠x->sp (.ref x::(vs++FE)) (sA (sA H dx (.own x)) x (.ins C dx [])) (λv H2=>v=.rA/\Q (.ref x) H2) E) :
  wA (model X.prog X.w) X.A (call (.ref C) us) (EP X aA Y Q) X.xe s:=by
 have hq:=h (s.heap.objs.size+1) s.heap.objs.size (I.IA.fresh (LO _)) (I.IA.fresh (JB _)) (kE (zK _));have I2:=cA.made (C:=C) I;have r2:aAe (V.ref (s.heap.objs.size+1)::(vs++FE)) (Value.ref (s.heap.objs.size+1)::(us++ds)):=.cons rfl (r.append hd)
 have hl:(Value.ref (s.heap.objs.size+1)::us++ds).length=ps.length:=by(have e:=r2.length;rw[F.len _ _ _ _ hq] at e;exact e.symm)
 refine MO (Qi I.wC M.makes M.init (vD.mp M.fn) (KL (F.run _ X.stack _ _ ⟨Value.ref (s.heap.objs.size+1)::us,[]⟩ (Value.ref (s.heap.objs.size+1)::(us++ds)) _ _ E (hr.make C us [])
  (I2.kH.make C us []) (hb _ (Value.ref (s.heap.objs.size+1)::us) I2.wC hl) r2 hq) λr s' YF=>?_))
 cases r with
 |error e=>exact hx aA Y _ _ e s' I2 YF
 |ok fl =>
  cases fl with
  |ret u =>
   obtain⟨v,H',I3,rv,ev,q3⟩:=I2.after YF;subst ev;exact⟨rv,⟨V.ref (s.heap.objs.size+1),H',I3,rfl,q3⟩⟩
  |next=>exact pE YF
  |brk=>exact pE YF
  |cont=>exact pE YF
def sRa(M:Mk X.K C f)(F:ZC X.prog X.w X.K X.mg X.base CX k f fd ps sp)(hr:XB (k+1) X.A)(hg:Gl X x)(hm:X.mg x=some (.ref C))(hb:aAn X.K fd ps ds)(hd:aAe FE ds)(hx:aAC CX X E)
  (ha:PA X (e::es) t) (VF:(x==("__debug__":bA))=false:=by decide) (he:zB (e::es) X.env=(false,eval e X.env)::zB es X.env:=by rfl) (yD:(nD pos (zB es X.env)).any (·.1)=false:=by rfl) :
  PE X (.Call (.Name x p) (e::es) [] pos) (x0a C sp FE E t):=by
 intro aA s Y H Q I h;refine yO (tL I hg hm ?_ VF);refine zO (h₀:=X.base) I.ok.mod.kin M.kp (RA (ha pos aA s Y H _ I h) λus s1 ⟨vs,H1,I1,r,q⟩=>⟨I1.wC, ?_⟩) he yD;exact yWa M F hr hb hd hx I1 r q
end
def PK(X:Cx)(lK:List gZ)(t:TA):Prop :=
 ∀(pos:BC) (aA:List (eA×rB)) (s:zA) (Y:St) (H:Hp) (Q:List V->Hp->Prop),cA X aA Y H s->t Y H Q->wA (model X.prog X.w) X.A (evalAll ((backToKw pos (keywordEach lK X.env)).map (·.2))) (AP X aA Y Q) X.xe s
section
variable{nm:Option bA}
def rSa:PK X [] cI:=λ_ _ _ _ H Q I h=>wpAny_evalAll_nil ⟨[],H,I,.nil,h⟩
def qSa(ha:PE X e te)(hr:PK X lK t):PK X (⟨nm,e,kpos⟩::lK) (WG te t):=by
 intro pos aA s Y H Q I h;show wA _ _ (evalAll ((do let v <- eval e X.env;standAt pos;pure v)::(backToKw pos (keywordEach lK X.env)).map (·.2))) _ _ s;refine wpAny_evalAll_cons (BA (RA (ha aA s Y H _ I h) λu s1 ⟨x,H1,I1,r1,q1⟩=>BA (IL (GB ?_))));exact RA (hr pos aA s1 Y H1 _ I1 q1) λus s2 hz=>(by obtain⟨xs,H2,I2,r2,q2⟩:=hz;exact⟨x::xs,H2,I2,.cons r1 r2,q2⟩)
variable{g:List dA->List dA->List dA}{gV:List V->List V->List V}
end
structure JJ(N P:List bA)(sc:kG):Prop where
 kind:sc.kind=.function
 co:sc.isCoroutine=false
 gen:sc.isGenerator=false
 nd:N.Nodup
 pre:N.take P.length=P
 par:∀x∈P,sc.names.lookup x=some .local\/sc.names.lookup x=some .cell
 tMa:∀y∈sc.names,y.2≠.free
theorem kd{kindOf:bA->Option AJ}:∀{binds:List (bA×dA)} {m:bA->Option dA},(∀v,(x,v) ∉ binds)->bindL kindOf binds m x=m x
 |[],_,_=>rfl
 | (n,v)::r,m,h=>by
  unfold bindL;rw[kd λw hw=>h w (OD _ hw)];split
  ·have:x≠n:=by rintro rfl;exact h v BE
   simp[this]
  ·rfl
theorem Zc{kindOf:bA->Option AJ}:∀{binds:List (bA×dA)} {m:bA->Option dA},(∀v,(x,v) ∉ binds)->bindC kindOf binds m x=m x
 |[],_,_=>rfl
 | (n,v)::r,m,h=>by
  unfold bindC;rw[Zc λw hw=>h w (OD _ hw)];split
  ·rfl
  ·have:x≠n:=by rintro rfl;exact h v BE
   simp[this]
theorem jd{kindOf:bA->Option AJ}:∀{P:List bA} {vs:List dA} {i:Nat} {m:bA->Option dA},P.Nodup->P[i]?=some x->vs[i]?=some v->kindOf x=some .local ->
  bindL kindOf (P.zip vs) m x=some v
 |[],_,_,_,_,h,_,_=>by simp at h
 |_::_,[],_,_,_,_,h,_=>by simp at h
 |p::P,w::vs,0,m,nd,h1,h2,hk=>by
  simp at h1 h2;subst h1;subst h2;show bindL kindOf ((p,w)::P.zip vs) m p=_;unfold bindL;rw[kd λv hv=>(QY.mp nd).1 (Za hv).1,FA hk];simp
 |p::P,w::vs,i+1,m,nd,h1,h2,hk=>by(show bindL kindOf ((p,w)::P.zip vs) m x=_;unfold bindL;exact jd (QY.mp nd).2 (by simpa using h1) (by simpa using h2) hk)
theorem Yc{kindOf:bA->Option AJ}:∀{P:List bA} {vs:List dA} {i:Nat} {m:bA->Option dA},P.Nodup->P[i]?=some x->vs[i]?=some v->kindOf x≠some .local ->
  bindC kindOf (P.zip vs) m x=some v
 |[],_,_,_,_,h,_,_=>by simp at h
 |_::_,[],_,_,_,_,h,_=>by simp at h
 |p::P,w::vs,0,m,nd,h1,h2,hk=>by
  simp at h1 h2;subst h1;subst h2;show bindC kindOf ((p,w)::P.zip vs) m p=_;unfold bindC;rw[Zc λv hv=>(QY.mp nd).1 (Za hv).1,vB hk];simp
 |p::P,w::vs,i+1,m,nd,h1,h2,hk=>by(show bindC kindOf ((p,w)::P.zip vs) m x=_;unfold bindC;exact Yc (QY.mp nd).2 (by simpa using h1) (by simpa using h2) hk)
noncomputable def start(N:List bA)(vs:List V):St:=vs.map some++FC (N.length-vs.length) none
noncomputable def PF(CX:UL)(P:nE)(w:VC)(K:fA)(mg:bA->Option dA)(base:HB)(N:List bA)(UA:bA)(scope:kG)(f:eA)(cd:dA)(A:JF)(outer:List Env)(s:zA)(H:Hp)(E:XK):Cx where
 prog:=P
 w:=w
 K:=K
 mg:=mg
 base:=base
 A:=A.deeper (envOfC UA scope s.heap.objs.size f cd)
 N:=N
 s₀:=s
 H₀:=H
 env:=envOfC UA scope s.heap.objs.size f cd
 outer:=outer
 stack:=envOfC UA scope s.heap.objs.size f cd::outer
 ex:=[]
 calm:=true
 fn:=λ_=>true
 pn:=[]
 xe:=λe s'=>wA (model P w) (A.deeper (envOfC UA scope s.heap.objs.size f cd)) (leaving (envOfC UA scope s.heap.objs.size f cd) e) (λ_ O8=>CX outer H s E e O8) (λe' O8=>CX outer H s E e' O8) s'
def Jd{sc:kG}(h:sc.names.lookup x=some .cell):∃c,(cellsFrom n sc.names []).lookup x=some c:=by
 have q:=vq sc.names n [] (.inl h);exact Option.isSome_iff_exists.mp q
def tDa{K:fA}
  (S:JJ N ps scope) (hd:A.handled=none) (e0:gN P w K mg base A outer s H) (hl:vs.length=ps.length) (r:aAe vs us)
  (x:InCallC s s.heap.objs.size (bindL (envOfC UA scope s.heap.objs.size f cd).kindOf (ps.zip us) λ_=>none) (cellsFrom (s.heap.objs.size+1) scope.names []) (bindC (envOfC UA scope s.heap.objs.size f cd).kindOf (ps.zip us) λ_=>none) s1) :
  cA (PF CX P w K mg base N UA scope f cd A outer s H E) [] (start N vs) H s1:=by
 have yD:ps.length<=N.length:=by have:=congrArg CU S.pre;rw[QI] at this;lia
 obtain⟨h1,tk,rfl,hk⟩:=x.done;have QS:∀b:eA,b ∉ (PF CX P w K mg base N UA scope f cd A outer s H E).ex:=λb z=>absurd (show b∈([]:List eA) from z) (by simp)
 refine⟨⟨e0.mod,S.kind,rfl,rfl,JB _,λy z c h1 h2=>?_,λy hy=>?_,λy c _ h=>?_,λ_=>hd,Around.frames_deeper e0.frames,.inr ⟨rfl,rfl⟩,λb z=>absurd z (QS b),e0.bs,e0.nI,λb _ _=>QS b,λb z=>absurd z (QS b),e0.TF,e0.dJ⟩,
  rfl,e0.bare,Un.kept hk,⟨_,x.toInCall.ns,λi y v h1 h2 h3=>?_⟩,λy c h=>⟨_,x.cell y c h⟩,e0.IA.fresh (JB _),λy c h=>?_,λp hp=>absurd (show p∈([]:List (eA×rB)) from hp) (by simp),e0.IA.kept hk, ?_⟩
 ·exact name_of_addr x.apart (eU h1) (eU h2)
 ·have hy:scope.names.lookup y=some .cell\/scope.names.lookup y=some .free:=hy;rcases hy with hy | hy
  ·exact Jd hy
  ·exact absurd rfl (S.tMa _ (eU hy))
 ·exact Mb (x.above y c (eU h))
 ·have hi:i<vs.length:=by
   unfold start at h2;by_cases hi:i<vs.length
   ·exact hi
   ·rw[ZT (by simpa using hi)] at h2;rw[T9] at h2;split at h2<;>cases h2
  have ha:vs[i]?=some v:=by
   unfold start at h2;rw[aN (by simpa using hi),IK] at h2
   cases e:vs[i]? with
   |none=>rw[e] at h2;cases h2
   |some a=>rw[e] at h2;cases h2;rfl
  obtain⟨u,hu,rv⟩:=r.get ha
  have hp:ps[i]?=some y:=by(rw[<- S.pre,List.getElem?_take_of_lt (by lia)];exact h1)
  have ij:ps.Nodup:=by rw[<- S.pre];exact S.nd.sublist (List.take_sublist _ _)
  refine⟨u,rv, ?_⟩;rcases S.par y (OL hp) with k | k
  ·exact .inl ⟨k,jd ij hp hu k⟩
  ·obtain⟨c,e⟩:=Jd (n:=s.heap.objs.size+1) k;refine .inr ⟨.inl k,c,e, ?_⟩;have q:=x.cell y c e;rw[Yc ij hp hu (by show scope.names.lookup y≠_;rw[k];decide)] at q;exact q
 ·exact e0.IA.fresh (Mb (x.above y c (eU h)))
 ·unfold start;show _=N.length;rw[iF,YA,List.length_replicate]
  lia
def Te{K:fA}{dV kV doc pm XA ct oc:dA}{an od:Option eA}(lk:K.lookup f=some ⟨oc,od,.func (zH name UA params body scope dV kV doc pm an XA ct),yE⟩)(QG:CO K XA UA=true)(S:JJ N ps scope)
  (len:∀vs H Q E,sp vs H Q E->vs.length=ps.length)
  (M4:∀(A:JF) (outer:List Env) (s:zA) (H:Hp) (vs:List V) (Q:VK) (E:XK),XB k (A.deeper (envOfC UA scope s.heap.objs.size f XA))->sp vs H Q E ->
   ∃t,LC (PF CX P w K mg base N UA scope f XA A outer s H E) body t/\t { nx:=λ_ H'=>Q .rA H',rt:=Q } (start N vs) H) :
  ZC P w K mg base CX (k+1) f (zH name UA params body scope dV kV doc pm an XA ct) ps sp:=by
 refine⟨len,λA outer s H args us vs Q E hr e0 hb r xG=>?_⟩;have hl:=len _ _ _ _ xG;have KX:K.In s.heap:=e0.mod.kin.keeps λb o e=>(e0.bs b o e).1
 have lim:s.heap.NoLimit:=e0.mod.nolimit.keeps λb o e=>(e0.bs b o e).1
 have jJ:∀y∈ps.zip us,scope.names.lookup y.1=some .local\/(scope.names.lookup y.1=some .cell/\((cellsFrom (s.heap.objs.size+1) scope.names []).lookup y.1).isSome=true):=λ⟨n,v⟩ hy=>by
  rcases S.par n (Za hy).1 with q | q
  ·exact .inl q
  ·exact .inr ⟨q,vq _ _ _ (.inl q)⟩
 refine codeAny_call_function hr.depth (KX _ _ lk) rfl S.co S.gen rfl (PySem.W.codeRec_of KX QG) (hb _ _ _ _ ?_);refine wpAny_newFunctionEnv_cells S.kind jJ λenv he s1 x=>?_
 subst he;refine⟨lim.keeps x.toInCall.keep,codeAny_func ?_⟩;obtain⟨t,ht,hq⟩:=M4 A outer s H vs Q E (hr.deeper _) xG;have I:cA (PF CX P w K mg base N UA scope f XA A outer s H E) [] (start N vs) H s1:=tDa S hr.hd e0 hl r x;refine DE (ht [] s1 (start N vs) H _ I hq) (λfl s' hs=>?_) λe s' hs=>hs
 have fin:∀{Y':St} {H':Hp} {v:V} {u:dA},cA (PF CX P w K mg base N UA scope f XA A outer s H E) [] Y' H' s'->aAf v u->Q v H'->CE outer P w H s Q u s' :=
  λ{Y' H' v u} J rv q=>⟨v,H',J.os,J.bare,J.base,J.IA,rv,q⟩
 cases fl with
 |ret u =>
  obtain⟨v,Y',H',J,rv,q⟩:=hs;exact fin J rv q
 |next =>
  obtain⟨Y',H',J,q⟩:=hs;exact fin (v:=V.rA) (u:=Value.none) J rfl q
 |brk =>
  obtain⟨_,_,_,q⟩:=hs;exact pE q
 |cont =>
  obtain⟨_,_,_,q⟩:=hs;exact pE q
section
variable{id T:String}
def i9(r:List V->Hp->VK->Prop)(t:TA):TE:=λY H Q=>t Y H λvs H1=>r vs H1 Q
def EX(hc:MF X (.builtin id) r)(hg:Gl X x)(hm:X.mg x=none)(hv:JL x=some (.builtin id))(ha:PA X (e::es) t)(hn:x≠"__name__":=by decide)(VF:(x==("__debug__":bA))=false:=by decide)
  (he:zB (e::es) X.env=(false,eval e X.env)::zB es X.env:=by rfl) (yD:(nD pos (zB es X.env)).any (·.1)=false:=by rfl):PE X (.Call (.Name x p) (e::es) [] pos) (i9 r t):=by
 intro aA s Y H Q I h;refine yO (QN I hg hm hv ?_ hn VF);exact PyProof.Rows.callWith_builtin1 (RA (ha pos aA s Y H _ I h) λus s1 hz=>(by obtain⟨vs,H1,I1,r1,q1⟩:=hz;exact hc aA s1 Y H1 vs us Q I1 r1 q1)) he yD
def mRa(hc:MF X (.type T) r)(hg:Gl X x)(hm:X.mg x=none)(hv:JL x=some (.type T))(ha:PA X (e::es) t)(hn:x≠"__name__":=by decide)(VF:(x==("__debug__":bA))=false:=by decide)
  (he:zB (e::es) X.env=(false,eval e X.env)::zB es X.env:=by rfl) (yD:(nD pos (zB es X.env)).any (·.1)=false:=by rfl):PE X (.Call (.Name x p) (e::es) [] pos) (i9 r t):=by
 intro aA s Y H Q I h;refine yO (QN I hg hm hv ?_ hn VF);exact xY (RA (ha pos aA s Y H _ I h) λus s1 hz=>(by obtain⟨vs,H1,I1,r1,q1⟩:=hz;exact hc aA s1 Y H1 vs us Q I1 r1 q1)) he yD
end
end L2
namespace HT
open PySem PyProof.Rows
section
variable{s:zA}
def gx(ht:IsTup s.heap t vs.toArray)(hb:IsTup s.heap b ws.toArray)(hv:vs≠[])
  (h1:ws=[]->Q (.ref t) s) (h2:ws≠[]->Q (.ref s.heap.objs.size) { s with heap:=s.heap.push { cls:=.type "tuple",data:=.seq (vs++ws).toArray } })
  (wB:vs.length+ws.length<=sizeLine):wA (model prog w) A (AE .Add (.ref t) (.ref b)) Q E s:=by
 obtain⟨⟨cls,dd,data,sl⟩,ho,hc,n,hd⟩:=id ht;obtain⟨⟨Md,lP,data2,uQ⟩,eK,uM,n2,hd2⟩:=id hb;simp only at hc hd uM hd2;subst hc hd uM hd2;have e:vs.toArray++ws.toArray=(vs++ws).toArray:=by simp
 by_cases hw:ws=[]
 ·exact bZ ⟨_,ho,rfl⟩ ⟨_,eK,rfl⟩ Sa Eb Z9 U9 (R9 _ _)
   (tuple_addW1 t b vs.toArray ws.toArray n n2 dd lP sl uQ (by simpa using hv) (by simp[hw])) ⟨ho,eK,h1 hw⟩
 ·refine bZ ⟨_,ho,rfl⟩ ⟨_,eK,rfl⟩ Sa Eb Z9 U9 (R9 _ _)
   (tuple_addW2 t b vs.toArray ws.toArray n n2 dd lP sl uQ (by simpa using hv) (by simpa using hw) (by rw[PD,PD];exact wB)) ⟨ho,eK, ?_⟩
  rw[e];exact h2 hw
noncomputable def pB(n d:Nat):Option Int->Nat
 |none=>d
 |some v=>if v<0 then(v+(n:Int)).toNat else min v.toNat n
theorem P8(n d:Nat):pB n d none=d:=rfl
def jT(n d k:Nat):pB n d (some (k:Int))=min k n:=by
 show(if(k:Int)<0 then((k:Int)+(n:Int)).toNat else min (k:Int).toNat n)=min k n;rw[vB (by lia),HJ]
def fXa(n d:Nat)(hd:d<=n)(o:Option Int):pB n d o<=n:=by
 cases o with
 |none=>exact hd
 |some v =>
  show(if v<0 then(v+(n:Int)).toNat else min v.toNat n)<=n;by_cases hv:v<0
  ·rw[FA hv];lia
  ·rw[vB hv];exact Nat.min_le_right _ _
def Ld(v:Int)(n d:Nat):(if v<0 then max (v+(n:Int)) 0 else min v (n:Int))=((pB n d (some v):Nat):Int):=by
 show(if v<0 then max (v+(n:Int)) 0 else min v (n:Int))=(((if v<0 then(v+(n:Int)).toNat else min v.toNat n):Nat):Int);by_cases hv:v<0
 ·simp only[FA hv];lia
 ·simp only[vB hv];lia
def Du(lo hi:Option Int)(n:Nat):Q9 lo hi 1 (n:Int)=(((pB n 0 lo:Nat):Int),((pB n n hi:Nat):Int)):=by
 have h1:¬((1:Int)<0):=by lia
 unfold Q9;simp only[h1,if_false];refine Prod.ext ?_ ?_
 ·cases lo with
  |none=>rfl
  |some v=>exact Ld v n 0
 ·cases hi with
  |none=>rfl
  |some v=>exact Ld v n n
def sSa(i j:Nat):yY (i:Int) (j:Int) 1=j-i:=by
 unfold yY;have h1:(1:Int) > 0:=by lia
 simp only[h1,if_true,Int.ediv_one]
 split<;>lia
def gm(p:FK v o)(h:Q o s):wA (model prog w) A (Builtin.Slice.slicePartIndex v) Q E s:=by
 cases p with
 |none=>exact slicePart_none h
 |int i t=>exact slicePart_int h
def pYa{lo hi:Option Int}{Q:Int×Int×Nat->zA->Prop}(hs:s.heap.IsSliceOf sl vl vu .none)(pl:FK vl lo)(pu:FK vu hi)
  (h:Q (((pB n 0 lo:Nat):Int),1,pB n n hi-pB n 0 lo) s):wA (model prog w) A (nq (.ref sl) (pure (n:Int))) Q E s:=by
 obtain⟨os,iS,pW,XF⟩:=id hs;unfold nq Builtin.Slice.sliceFields;refine BA (BA (ZG iS XF (x:=vl) rfl (BA (ZG iS XF (x:=vu) rfl (BA (ZG iS XF (x:=.none) rfl (GB ?_)))))));refine BA (slicePart_none ?_);show wA _ _ (if((1:Int)==0)=true then _ else _) _ _ s;rw[vB (by decide)];refine BA (gm pl (BA (gm pu (BA (GB ?_)))));show wA _ _ (match Q9 lo hi 1 (n:Int) with | (lo,hi)=>pure (lo,(1:Int),yY lo hi 1)) _ _ s;rw[Du lo hi n];show wA _ _ (pure (((pB n 0 lo:Nat):Int),(1:Int),yY ((pB n 0 lo:Nat):Int) ((pB n n hi:Nat):Int) 1)) _ _ s;rw[sSa];exact GB h
def nSa(xs:Array dA)(i k:Nat):((KC k).filterMap λ(m:Nat)=>xs[((i:Int)+(m:Int)*1).toNat]?).toArray=((xs.toList.drop i).take k).toArray:=by
 have e:(λ(m:Nat)=>xs[((i:Int)+(m:Int)*1).toNat]?)=λm=>xs[i+m]?:=by
  funext m
  have:((i:Int)+(m:Int)*1).toNat=i+m:=by lia
  rw[this]
 rw[e]
 have:=pick_run xs i k
 rw[Nq] at this;have e2:((λx=>xs[x]?) ∘ λx=>i+x)=λm=>xs[i+m]?:=rfl
 rw[e2] at this;rw[this]
def W'{lo hi:Option Int}(ht:IsTup s.heap t items)(hs:s.heap.IsSliceOf sl vl vu .none)(pl:FK vl lo)(pu:FK vu hi)
  (hw:¬(pB items.size 0 lo=0/\pB items.size items.size hi=items.size))
  (h:Q (.ref s.heap.objs.size) { s with heap:=s.heap.push { cls:=.type "tuple",data:=.seq ((items.toList.drop (pB items.size 0 lo)).take (pB items.size items.size hi-pB items.size 0 lo)).toArray } })
  (wB:items.size<=sizeLine):wA (model prog w) A (getItem (.ref t) (.ref sl)) Q E s:=by
 have HW:sizeOk (.seq ((items.toList.drop (pB items.size 0 lo)).take (pB items.size items.size hi-pB items.size 0 lo)).toArray):=by
  show((items.toList.drop (pB items.size 0 lo)).take (pB items.size items.size hi-pB items.size 0 lo)).toArray.size<=sizeLine;rw[PD,QI,IJ,bH]
  lia
 have hj:pB items.size items.size hi<=items.size:=fXa _ _ (JB _) hi;obtain⟨os,iS,pW,XF⟩:=id hs;have hTs:s.TypeIs (.ref sl) "slice":=⟨os,iS,pW⟩
 unfold getItem
 try with_reducible refine HL ?_
 first | refine BA (GB ?_) | skip
 refine BA (wpAny_sequenceKey ht.typeIs (by decide) ?_)
 refine BA (V9 (name:=kA "__getitem__") ht.typeIs wY
  (Ta wY ht.typeIs entry_tuple_getitem ?_ (args_tuple_getitem _ _)))
 show wA _ _ (Builtin.Tuple.tupleItemsOf (.ref t)>>=_) _ _ s;refine BA (tupleItemsOf_ ht ?_);refine BA (wpAny_typeOf hTs ?_);rw[FA (by decide)];refine BA (pYa hs pl pu ?_)
 have B5:¬((((pB items.size 0 lo:Nat):Int)==0&&(1:Int)==1&&(pB items.size items.size hi-pB items.size 0 lo)==items.size)=true):=by(intro q;rw[qA,qA] at q;have q1:((pB items.size 0 lo:Nat):Int)=0:=uB q.1.1;have q2:pB items.size items.size hi-pB items.size 0 lo=items.size:=uB q.2;exact hw ⟨by lia,by lia⟩)
 show wA _ _ (if(((pB items.size 0 lo:Nat):Int)==0&&(1:Int)==1&&(pB items.size items.size hi-pB items.size 0 lo)==items.size)=true then _ else _) _ _ s;rw[vB B5,nSa]
 first
  |exact BA (m:=AY _) (KQ (GB ⟨_,rfl,GB h⟩) HW)
  |exact BA (m:=AY _) (KQ (BA (GB (GB ⟨_,rfl,GB h⟩))) HW)
  |exact BA (BA (m:=AY _) (KQ (GB (GB ⟨_,rfl,GB h⟩)) HW))
  |exact BA (BA (m:=AY _) (KQ (GB ⟨_,rfl,GB h⟩) HW))
end
end HT
namespace L2
open PySem PySem.Spec PyProof.Rows
abbrev TO:=St->Hp->(Option Int->Hp->Prop)->Prop
def PO(X:Cx)(e:Option vA)(t:TO):Prop :=
 ∀(aA:List (eA×rB)) (s:zA) (Y:St) (H:Hp) (Q:Option Int->Hp->Prop),cA X aA Y H s->t Y H Q ->
  wA (model X.prog X.w) X.A (evalPart e X.env) (λu s'=>∃o H',cA X aA Y H' s'/\FK u o/\Q o H') X.xe s
def y0a:TO:=λ_ H Q=>Q none H
def a1a(t:TE):TO:=λY H Q=>t Y H λx H1=>∃i,x=.int i/\Q (some i) H1
section
variable{lo hi:Option vA}
def tSa:PO X none y0a:=by
 intro aA s Y H Q I h;rw[evalPart_none];exact GB ⟨none,H,I,.none,h⟩
def vSa(h:PE X e te):PO X (some e) (a1a te):=by
 intro aA s Y H Q I hw;rw[evalPart_some];refine RA (h aA s Y H _ I hw) λu s1 hz=>?_
 obtain⟨x,H1,I1,r1,q1⟩:=hz;obtain⟨i,rfl,q⟩:=q1;obtain⟨t,rfl⟩:=r1;exact⟨some i,H1,I1,.int i t,q⟩
def OJ(X:Cx)(r:V->Option Int->Option Int->Hp->VK->Prop):Prop :=
 ∀(aA:List (eA×rB)) (s:zA) (Y:St) (H:Hp) (x:V) (v vl vu:dA) (lo hi:Option Int) (sl:eA) (Q:VK),cA X aA Y H s->aAf x v->s.heap.IsSliceOf sl vl vu .none->FK vl lo->FK vu hi->r x lo hi H Q ->
  ∃T id,typeLookup (.type T) "__getitem__"=pure (some (.builtin id))/\s.TypeIs v T/\wA (model X.prog X.w) X.A (getItem v (.ref sl)) (EP X aA Y Q) X.xe s
def OJ.or(h:OJ X r)(h':OJ X r'):OJ X (λx lo hi H Q=>r x lo hi H Q\/r' x lo hi H Q):=by
 intro aA s Y H x v vl vu lo hi sl Q I rx hs pl pu q;rcases q with q | q
 ·exact h aA s Y H x v vl vu lo hi sl Q I rx hs pl pu q
 ·exact h' aA s Y H x v vl vu lo hi sl Q I rx hs pl pu q
def tSl(r:V->Option Int->Option Int->Hp->VK->Prop)(te:TE)(tl th:TO):TE:=λY H Q=>te Y H λx H1=>tl Y H1 λl H2=>th Y H2 λu H3=>r x l u H3 Q
def aSa(hr:OJ X r)(he:PE X e te)(hl:PO X lo tl)(hu:PO X hi th):PE X (.Subscript e (.Slice lo hi none p2) pos) (tSl r te tl th):=by
 intro aA s Y H Q I h;refine Subscript_ (RA (he aA s Y H _ I h) λv s1 hz=>?_);obtain⟨x,H1,I1,r1,q1⟩:=hz;refine wpAny_Slice (RA (hl aA s1 Y H1 _ I1 q1) λvl s2 ⟨l,H2,I2,pl,q2⟩=>RA (hu aA s2 Y H2 _ I2 q2) λvu s3 hz=>?_);obtain⟨u,H3,I3,pu,q3⟩:=hz;rw[evalPart_none];refine GB ?_;have I4:cA X aA Y H3 { s3 with heap:=s3.heap.push { cls:=.type "slice",data:=.fields #[vl,vu,.none] } }:=I3.kept (t':=s3.toks) λb ob q=>NC _ q
 obtain⟨T,id,hT,ht,hg⟩:=hr aA { s3 with heap:=s3.heap.push { cls:=.type "slice",data:=.fields #[vl,vu,.none] } } Y H3 x v vl vu l u s3.heap.objs.size Q I4 r1 (v3a ..) pl pu q3;show wA (model X.prog X.w) X.A (subscriptTail e (.Slice lo hi none p2) v (.ref s3.heap.objs.size)) (EP X aA Y Q) X.xe { s3 with heap:=s3.heap.push { cls:=.type "slice",data:=.fields #[vl,vu,.none] } };exact tail_any (ops:=[.ref s3.heap.objs.size,v]) ht hT hg (by with_unfolding_all rfl)
def jM(xs:List V)(lo hi:Option Int):List V:=(xs.drop (HT.pB xs.length 0 lo)).take (HT.pB xs.length xs.length hi-HT.pB xs.length 0 lo)
def Vd(xs:List V)(lo hi:Option Int):(jM xs lo hi).length<=xs.length:=by
 unfold jM;rw[QI,IJ]
 lia
def pVa(K:fA):V->Option Int->Option Int->Hp->VK->Prop:=λx lo hi H Q=>∃a xs,x=.ref a/\OC K H a xs /\
 ¬(HT.pB xs.length 0 lo=0/\HT.pB xs.length xs.length hi=xs.length)/\∀p,H p=none->Q (.ref p) (sA H p (.t (jM xs lo hi)))
def oYa:OJ X (pVa X.K):=by
 intro aA s Y H x v vl vu lo hi sl Q I rx hs pl pu h;obtain⟨a,xs,rfl,hx,hw,q⟩:=h;cases rx;obtain⟨gA,r,ht,hz⟩:=I.tuple hx;have cC:gA.toArray.size=xs.length:=by rw[PD];exact r.length.symm
 refine⟨"tuple",_,wY.lookup,ht.typeIs, ?_⟩;refine HT.W' ht hs pl pu (by rw[cC];exact hw) ?_ (by rw[cC];exact hz);rw[cC];refine⟨.ref s.heap.objs.size,_,I.laid (t':=s.toks) (o:=.t (jM xs lo hi)) (λb ob q=>NC _ q) (JB _) ?_,rfl,q _ (I.IA.fresh (JB _))⟩;exact⟨lD (Vd xs lo hi) hz,_,(r.drop (HT.pB xs.length 0 lo)).take (HT.pB xs.length xs.length hi-HT.pB xs.length 0 lo),bc _ _⟩
def fVa(K:fA):R2:=λx y H Q=>∃a b xs ys,x=.ref a/\y=.ref b/\OC K H a xs/\OC K H b ys/\xs≠[]/\xs.length+ys.length<=sizeLine /\
 (ys=[]->Q (.ref a) H)/\(ys≠[]->∀p,H p=none->Q (.ref p) (sA H p (.t (xs++ys))))
def aAe.nX(r:aAe xs us):us=[]↔xs=[]:=by
 cases r with
 |nil=>simp
 |cons _ _=>simp
def rPa:aC X (AE .Add) (fVa X.K):=by
 intro aA s Y H x y v u Q I rx ry h;obtain⟨a,b,xs,ys,rfl,rfl,ha,hb,hx,hz,q1,q2⟩:=h;cases rx;cases ry;obtain⟨gA,r1,p1,_⟩:=I.tuple ha;obtain⟨nJ,r2,p2,_⟩:=I.tuple hb;refine HT.gx p1 p2 (λz=>hx (r1.nX.mp z)) (λz=>⟨.ref a,H,I,rfl,q1 (r2.nX.mp z)⟩) (λz=>?_) (by rw[<- r1.length,<- r2.length];exact hz);refine⟨.ref s.heap.objs.size,_,I.laid (t':=s.toks) (o:=.t (xs++ys)) (λb ob q=>NC _ q) (JB _) ?_,rfl,q2 (λw=>z (r2.nX.mpr w)) _ (I.IA.fresh (JB _))⟩;exact⟨by rw[iF];exact hz,_,r1.append r2,bc _ _⟩
end
noncomputable def mE(n:Nat)(i:Int):Option Nat:=if 0<=i then(if i<n then some i.toNat else none) else if -(n:Int)<=i then some (i+n).toNat else none
def aD(xs:List O)(i:Int):Option O:=(mE xs.length i).bind λj=>xs[j]?
def Tg(h:mE n i=some j):seqIndex? i n=some j/\j<n/\-(n:Int)<=i/\i<n:=by
 unfold mE at h;by_cases h0:0<=i
 ·rw[FA h0] at h;by_cases h1:i<n
  ·rw[FA h1] at h;have e:i.toNat=j:=wF h;exact⟨by rw[Vb h0 h1,e],by lia,by lia,h1⟩
  ·rw[vB h1] at h;cases h
 ·rw[vB h0] at h;by_cases h1:-(n:Int)<=i
  ·rw[FA h1] at h;have e:(i+n).toNat=j:=wF h;exact⟨by rw[Ob (by lia) h1,e],by lia,h1,by lia⟩
  ·rw[vB h1] at h;cases h
def FZ(h:aD xs i=some v):∃j,seqIndex? i xs.length=some j/\xs[j]?=some v/\j<xs.length/\-(xs.length:Int)<=i/\i<xs.length:=by
 unfold aD at h
 cases e:mE xs.length i with
 |none=>rw[e] at h;cases h
 |some j =>
  rw[e] at h;obtain⟨h1,h2,h3,h4⟩:=Tg e;exact⟨j,h1,h,h2,h3,h4⟩
def Nc{j:Nat}(h:xs[j]?=some v):aD xs (j:Int)=some v:=by
 have hj:j<xs.length:=(LD.mp h).1
 have e:mE xs.length (j:Int)=some j:=by(unfold mE;rw[FA (by lia),FA (by lia)];simp)
 unfold aD;rw[e];exact h
def wR(b:vA):Prop:=∀o i,subscripted b false o i=operate [o,i] (getItem o i)
def NF(X:Cx)(r:R2):Prop :=
 ∀(value slice:vA) (aA:List (eA×rB)) (s:zA) (Y:St) (H:Hp) (x y:V) (v u:dA) (Q:VK),cA X aA Y H s->aAf x v->aAf y u->r x y H Q ->
  subscripted slice false v u=operate [v,u] (getItem v u)->wA (model X.prog X.w) X.A (subscriptTail value slice v u) (EP X aA Y Q) X.xe s
def UO(X:Cx)(id:String)(r:V->List V->Hp->VK->Prop):Prop :=
 ∀(aA:List (eA×rB)) (s:zA) (Y:St) (H:Hp) (x:V) (xs:List V) (v:dA) (us:List dA) (Q:VK),cA X aA Y H s->aAf x v->aAe xs us->r x xs H Q ->
  wA (model X.prog X.w) X.A (call (.builtin id) (v::us)) (EP X aA Y Q) X.xe s
section
variable{pos:BC}
def NF.or(h:NF X r)(h':NF X r'):NF X (λx y H Q=>r x y H Q\/r' x y H Q):=by
 intro value slice aA s Y H x y v u Q I rx ry q hs;rcases q with q | q
 ·exact h value slice aA s Y H x y v u Q I rx ry q hs
 ·exact h' value slice aA s Y H x y v u Q I rx ry q hs
def Yj(hr:NF X r)(ha:PE X a ta)(hb:PE X b tb)(hs:wR b):PE X (.Subscript a b pos) (DQ r ta tb):=by
 intro aA s Y H Q I h;exact Subscript_ (WZ ha hb I h λv u s2 x y H2 I2 rx ry q=>hr a b aA s2 Y H2 x y v u Q I2 rx ry q (hs _ _))
def Qk(K:fA):R2:=λx y H Q=>∃p xs i v,x=.ref p/\y=.int i/\DB K H p xs/\aD xs i=some v/\Q v H
def Rk(K:fA):R2:=λx y H Q=>∃p xs i v,x=.ref p/\y=.int i/\OC K H p xs/\aD xs i=some v/\Q v H
def MX:R2:=λx y H Q=>∃z i c,x=.str z/\y=.int i/\z.length<=sizeLine/\aD z.cps.toList i=some c/\Q (.str ⟨#[c]⟩) H
def vFa:NF X (Qk X.K):=by
 intro value slice aA s Y H x y v u Q I rx ry h hs;obtain⟨p,xs,i,z,rfl,rfl,hq,he,q⟩:=h;cases rx;obtain⟨t,rfl⟩:=ry;obtain⟨gA,r,pl,hz⟩:=I.list hq;obtain⟨j,h1,h2,h3,h4,h5⟩:=FZ he;obtain⟨w,ew,qJ⟩:=r.get h2;have hl:=r.length;have hn:=SN;have fin:EP X aA Y Q w s:=⟨z,H,I,qJ,q⟩
 by_cases h0:0<=i
 ·have hj:i.toNat=j:=by
   rw[Vb h0 h5] at h1;exact wF h1
  exact item_listR pl.isList h0 (by lia) (by rw[hj];simpa using ew) fin hs
 ·have hj:(i+(gA.toArray.size:Int)).toNat=j:=by
   rw[Ob (by lia) h4] at h1;rw[PD,<- hl];exact wF h1
  exact wq (x:=w) pl.isList.typeIs Zq.lookup
   (wpAny_getItem_list_neg (Q:=λr s'=>r=w/\EP X aA Y Q r s') pl.isList (by lia) (by rw[PD]<;>lia) (by lia) (by rw[hj];simpa using ew) ⟨rfl,fin⟩) hs
def zFa:NF X (Rk X.K):=by
 intro value slice aA s Y H x y v u Q I rx ry h hs;obtain⟨p,xs,i,z,rfl,rfl,hq,he,q⟩:=h;cases rx;obtain⟨t,rfl⟩:=ry;obtain⟨gA,r,pl,hz⟩:=I.tuple hq;obtain⟨j,h1,h2,h3,h4,h5⟩:=FZ he;obtain⟨w,ew,qJ⟩:=r.get h2;have hl:=r.length;have hn:=SN;have fin:EP X aA Y Q w s:=⟨z,H,I,qJ,q⟩
 exact wq (x:=w) pl.typeIs wY.lookup
  (getItem_tuple (j:=j) (Q:=λr s'=>r=w/\EP X aA Y Q r s') pl (by lia) (by lia) (by rw[PD,<- hl];exact h1) (by simpa using ew) ⟨rfl,fin⟩) hs
def yFa:NF X MX:=by
 intro value slice aA s Y H x y v u Q I rx ry h hs;obtain⟨z,i,c,rfl,rfl,hz,he,q⟩:=h;obtain⟨t,rfl⟩:=rx;obtain⟨t',rfl⟩:=ry;obtain⟨j,h1,h2,h3,h4,h5⟩:=FZ he;have hl:z.cps.toList.length=z.length:=by simp[Str.length]
 rw[hl] at h1 h4 h5;have hn:=SN
 exact tail_any (WQ s z t) slot_str_getitem.lookup (getItem_str (by
  have e1:decide (i < -(2 ^ 63:Int))=false:=zC (by lia);have e2:decide (i >= 2 ^ 63)=false:=zC (by lia)
  rw[e1,e2,Fb]) (by rw[h1];simpa using h2) ⟨.str ⟨#[c]⟩,H,I.tok _,⟨_,rfl⟩,q⟩) hs
def rIx(K:fA):R2:=λx y H Q=>Qk K x y H Q\/Rk K x y H Q\/MX x y H Q
def xFa:NF X (rIx X.K):=vFa.or (zFa.or yFa)
def rKa(gA:List dA)(n j:Nat)(u:dA):FU (·.setIfInBounds j u) { cls:=.type "list",data:=.seq gA.toArray n }={ cls:=.type "list",data:=.seq (gA.set j u).toArray n }:=by
 simp[FU]
theorem cA.l(I:cA X aA Y H s)(h:H p=some (.l xs)) :
  ∃(gA:List dA) (n:Nat),aAe xs gA/\s.heap.get? p=some { cls:=.type "list",data:=.seq gA.toArray n }/\xs.length<=sizeLine:=by
 obtain⟨z,gA,n,r,e⟩:=I.IA p _ h;exact⟨gA,n,r,e,z⟩
def cA.kKa{gA its':List dA}(I:cA X aA Y H s)(h:H p=some (.l xs))
  (ho:s.heap.get? p=some { cls:=.type "list",data:=.seq gA.toArray n }) (hf:f { cls:=.type "list",data:=.seq gA.toArray n }={ cls:=.type "list",data:=.seq its'.toArray n' }) (r:aAe ys its') (hz:ys.length<=sizeLine) (t:Nat) :
  cA X aA Y (sA H p (.l ys)) { s with heap:=s.heap.update p f,toks:=t }:=by
 have e:(s.heap.update p f).get? p=some { cls:=.type "list",data:=.seq its'.toArray n' }:=by(rw[bU f ho (by rw[hf]<;>rfl),hf])
 refine I.write (x:=p) (e:=p) (by rw[h];trivial) (.inl rfl) (λb u hb q=>(rO _ _ (KD hb)).trans q) ⟨_,e⟩ ?_;exact⟨hz,its',n',r,e⟩
def Uk:V->V->V->Hp->(Hp->Prop)->Prop:=λo i v H Q=>∃p xs k j,o=.ref p/\i=.int k/\H p=some (.l xs)/\mE xs.length k=some j/\Q (sA H p (.l (xs.set j v)))
def aAU:wZ X Uk:=by
 intro aA s Y H o i v ov iv u Q I ro ri rv h;obtain⟨p,xs,k,j,rfl,rfl,hp,hj,q⟩:=h;cases ro;obtain⟨t,rfl⟩:=ri;obtain⟨gA,n,r,ho,hz⟩:=I.l hp;obtain⟨h1,h2,h3,h4⟩:=Tg hj;have hl:=r.length;have hn:=SN
 have I':cA X aA Y (sA H p (.l (xs.set j v))) { s with heap:=s.heap.update p (FU (·.setIfInBounds j u)) } :=
  I.kKa hp ho (rKa gA n j u) (r.set rv j) (by rw[kF];exact hz) s.toks
 by_cases h0:0<=k
 ·have hk:k.toNat=j:=by
   rw[Vb h0 h4] at h1;exact wF h1
  exact PySem.W.ki_setAt ho h0 (by lia) (by rw[PD,<- hl];exact h4) (by rw[hk];exact⟨_,I',q⟩)
 ·have hk:(k+(gA.toArray.size:Int)).toNat=j:=by
   rw[Ob (by lia) h3] at h1;rw[PD,<- hl];exact wF h1
  exact PySem.W.ki_setBack ho (by lia) (by rw[PD,<- hl];exact h3) (by lia) (by rw[hk];exact⟨_,I',q⟩)
def rYa(lo hi:Option Int)(n:Nat):(sliceBounds lo hi none n).1=((HT.pB n 0 lo:Nat):Int)/\(sliceBounds lo hi none n).2.1=((HT.pB n n hi:Nat):Int)/\(sliceBounds lo hi none n).2.2=1:=by
 refine⟨?_, ?_,rfl⟩
 ·cases lo with
  |none=>simp[sliceBounds,HT.pB]
  |some i =>
   simp only[sliceBounds,HT.pB,sr,show(1:Int) > 0 by decide,if_true];by_cases h:i<0
   ·simp only[h,if_true]<;>lia
   ·simp only[h,if_false]<;>lia
 ·cases hi with
  |none=>simp[sliceBounds,HT.pB]
  |some i =>
   simp only[sliceBounds,HT.pB,sr,show(1:Int) > 0 by decide,if_true];by_cases h:i<0
   ·simp only[h,if_true]<;>lia
   ·simp only[h,if_false]<;>lia
def qYa(gA:List dA)(lo hi:Option Int):slicePick gA.toArray lo hi none=((gA.drop (HT.pB gA.length 0 lo)).take (HT.pB gA.length gA.length hi-HT.pB gA.length 0 lo)).toArray:=by
 obtain⟨h1,h2,h3⟩:=rYa lo hi gA.toArray.size;unfold slicePick;rw[h1,h2,h3];simp only[sliceRange_one,pick_run,PD]<;>rfl
def nVa(K:fA):V->Option Int->Option Int->Hp->VK->Prop:=λx lo hi H Q=>∃a xs,x=.ref a/\DB K H a xs/\∀p,H p=none->Q (.ref p) (sA H p (.l (jM xs lo hi)))
def lYa:OJ X (nVa X.K):=by
 intro aA s Y H x v vl vu lo hi sl Q I rx hs pl pu h;obtain⟨a,xs,rfl,hx,q⟩:=h;cases rx;obtain⟨gA,r,ht,hz⟩:=I.list hx;have cC:=r.length;refine⟨"list",_,Zq.lookup,ht.isList.typeIs, ?_⟩;refine wpAny_getItem_list_slice ht.isList hs pl pu .none (by simp) ?_ (by rw[PD]<;>lia);rw[qYa,<- cC];refine⟨.ref s.heap.objs.size,_,I.laid (t':=s.toks) (o:=.l (jM xs lo hi)) (λb ob q=>NC _ q) (JB _) ?_,rfl,q _ (I.IA.fresh (JB _))⟩;exact⟨lD (Vd xs lo hi) hz,_,0,(r.drop (HT.pB xs.length 0 lo)).take (HT.pB xs.length xs.length hi-HT.pB xs.length 0 lo),EG _ rfl⟩
noncomputable def XJ:V->Bool
 |.rA=>true
 |.bl _=>true
 |.int _=>true
 |.str _=>true
 |_=>false
noncomputable def WK:V->V->Bool
 |.rA,.rA=>true
 |.bl a,.bl b=>a==b
 |.bl a,.int b=>(if a then 1 else 0)==b
 |.int a,.bl b=>a==(if b then 1 else 0)
 |.int a,.int b=>a==b
 |.str a,.str b=>a==b
 |_,_=>false
def yy(ry:aAf y u)(rx:aAf x v)(fy:XJ y=true)(fx:XJ x=true):Yb A s u v (WK y x):=by
 cases y with
 |rA =>
  cases ry
  cases x with
  |rA=>cases rx;exact SeqAt.EqAt.same _
  |bl b=>cases rx;exact SeqAt.EqAt.none_bool b
  |int b=>obtain⟨t,rfl⟩:=rx;exact SeqAt.EqAt.none_int b t
  |str b=>obtain⟨t,rfl⟩:=rx;exact SeqAt.EqAt.none_str b t
  |_=>exact absurd (show false=true from fx) EJ
 |bl a =>
  cases ry
  cases x with
  |rA=>cases rx;exact SeqAt.EqAt.bool_none a
  |bl b=>cases rx;exact SeqAt.EqAt.bool_bool a b
  |int b=>obtain⟨t,rfl⟩:=rx;exact SeqAt.EqAt.bool_int a b t
  |str b=>obtain⟨t,rfl⟩:=rx;exact SeqAt.EqAt.bool_str a b t
  |_=>exact absurd (show false=true from fx) EJ
 |int a =>
  obtain⟨t',rfl⟩:=ry
  cases x with
  |rA=>cases rx;exact SeqAt.EqAt.int_none a t'
  |bl b=>cases rx;exact SeqAt.EqAt.int_bool a t' b
  |int b=>obtain⟨t,rfl⟩:=rx;exact SeqAt.EqAt.int_int a t' b t
  |str b=>obtain⟨t,rfl⟩:=rx;exact Lq a t' b t
  |_=>exact absurd (show false=true from fx) EJ
 |str a =>
  obtain⟨t',rfl⟩:=ry
  cases x with
  |rA=>cases rx;exact SeqAt.EqAt.str_none a t'
  |bl b=>cases rx;exact SeqAt.EqAt.str_bool a t' b
  |int b=>obtain⟨t,rfl⟩:=rx;exact Mq a t' b t
  |str b=>obtain⟨t,rfl⟩:=rx;exact SeqAt.EqAt.str_str a t' b t
  |_=>exact absurd (show false=true from fx) EJ
 |_=>exact absurd (show false=true from fy) EJ
def MG(x:V)(u:dA):Bool:=match u with
 |.none=>WK .rA x
 |.bool b=>WK (.bl b) x
 |.int i _=>WK (.int i) x
 |.str z _=>WK (.str z) x
 |_=>false
def ze(r:aAf y u)(f:XJ y=true):MG x u=WK y x:=by
 cases y with
 |rA=>cases r;rfl
 |bl b=>cases r;rfl
 |int i=>obtain⟨t,rfl⟩:=r;rfl
 |str z=>obtain⟨t,rfl⟩:=r;rfl
 |_=>exact absurd (show false=true from f) EJ
def YU(h:aAe xs us)(f:xs.all XJ=true):us.any (MG x)=xs.any λy=>WK y x:=by
 induction h with
 |nil=>rfl
 |cons r t ih =>
  rw[PB,qA] at f;rw[AK,AK,ze r f.1,ih f.2]
def gX(rx:aAf x v)(fx:XJ x=true)(h:aAe xs us)(f:xs.all XJ=true):∀u∈us,Yb A s u v (MG x u):=by
 induction h with
 |nil=>exact λu hu=>nomatch hu
 |cons r t ih =>
  intro u' hu;rw[PB,qA] at f;rcases eD.mp hu with rfl | hu
  ·rw[ze r f.1];exact yy r rx f.1 fx
  ·exact ih f.2 u' hu
def NW(x:V)(xs:List V):Bool:=xs.any λy=>WK y x
def Pk(K:fA)(neg:Bool):R2:=λx y H Q=>∃p xs,y=.ref p/\(DB K H p xs\/OC K H p xs)/\XJ x=true/\xs.all XJ=true/\Q (.bl (if neg then !NW x xs else NW x xs)) H
def Mj:aC X (QE .In) (Pk X.K false):=by
 intro aA s Y H x y v u Q I rx ry h;obtain⟨p,xs,rfl,hq,fx,fs,q⟩:=h;cases ry;rcases hq with hq | hq
 ·obtain⟨gA,r,pl,hz⟩:=I.list hq;refine Er (MG x) pl.isList (λw hw=>gX rx fx r fs w (by simpa using hw)) ⟨.bl _,H,I,rfl, ?_⟩;rw[show gA.toArray.any (MG x)=gA.any (MG x) by simp,YU r fs];exact q
 ·obtain⟨gA,r,pl,hz⟩:=I.tuple hq;refine SeqAt.in_tupleAt (MG x) pl (λw hw=>gX rx fx r fs w (by simpa using hw)) ⟨.bl _,H,I,rfl, ?_⟩;rw[show gA.toArray.any (MG x)=gA.any (MG x) by simp,YU r fs];exact q
def Nj:aC X (QE .NotIn) (Pk X.K true):=by
 intro aA s Y H x y v u Q I rx ry h;obtain⟨p,xs,rfl,hq,fx,fs,q⟩:=h;cases ry;rcases hq with hq | hq
 ·obtain⟨gA,r,pl,hz⟩:=I.list hq;refine Oq (MG x) pl.isList (λw hw=>gX rx fx r fs w (by simpa using hw)) ⟨.bl _,H,I,rfl, ?_⟩;rw[show gA.toArray.any (MG x)=gA.any (MG x) by simp,YU r fs];exact q
 ·obtain⟨gA,r,pl,hz⟩:=I.tuple hq;refine SeqAt.notIn_tupleAt (MG x) pl (λw hw=>gX rx fx r fs w (by simpa using hw)) ⟨.bl _,H,I,rfl, ?_⟩;rw[show gA.toArray.any (MG x)=gA.any (MG x) by simp,YU r fs];exact q
def Dd:MF X (.builtin "len") (λxs H Q=>∃p ys,xs=[.ref p]/\(DB X.K H p ys\/OC X.K H p ys)/\Q (.int ys.length) H):=by
 intro aA s Y H xs us Q I r h;obtain⟨p,ys,rfl,hq,q⟩:=h;obtain⟨u,rfl,rx⟩:=aAA r;cases rx;have hn:=SN;rcases hq with hq | hq
 ·obtain⟨gA,r',pl,hz⟩:=I.list hq;have cC:=r'.length;exact Calls.call_len_list pl.isList (by simp only[PD]<;>lia) ⟨.int ys.length,H,I.tok _,⟨s.toks+1,by rw[PD,cC]⟩,q⟩
 ·obtain⟨gA,r',pl,hz⟩:=I.tuple hq;have cC:=r'.length;exact len_tuple pl (by simp only[PD]<;>lia) ⟨.int ys.length,H,I.tok _,⟨s.toks+1,by rw[PD,cC]⟩,q⟩
def Xw:MF X (.builtin "len") (λxs H Q=>∃z,xs=[.str z]/\z.length<=sizeLine/\Q (.int z.length) H):=by
 intro aA s Y H xs us Q I r h;obtain⟨z,rfl,hz,q⟩:=h;obtain⟨u,rfl,t,rfl⟩:=aAA r;have hn:=SN;exact len_str (by lia) ⟨.int z.length,H,I.tok _,⟨_,rfl⟩,q⟩
def Ed:MF X (.type "tuple") (λxs H Q=>∃p ys,xs=[.ref p]/\((DB X.K H p ys/\∀l,H l=none->Q (.ref l) (sA H l (.t ys)))\/(OC X.K H p ys/\Q (.ref p) H))):=by
 intro aA s Y H xs us Q I r h;obtain⟨p,ys,rfl,h⟩:=h;obtain⟨u,rfl,rx⟩:=aAA r;cases rx;rcases h with ⟨hq,q⟩ | ⟨hq,q⟩
 ·obtain⟨gA,r',pl,hz⟩:=I.list hq;have cC:=r'.length;refine call_tuple_list pl.isList (λh' kp=>?_) (by simp only[PD]<;>lia);have I1:cA X aA Y H { s with heap:=h' }:=I.kept (t':=s.toks) kp
  have I2:cA X aA Y (sA H h'.objs.size (.t ys)) { s with heap:=h'.push { cls:=.type "tuple",data:=.seq gA.toArray } } :=
   I1.laid (t':=s.toks) (λb o e=>NC _ e) (JB _) (show XE X.prog X.w _ _ _ (.t ys) from⟨hz,gA,r',bc _ _⟩)
  exact⟨.ref h'.objs.size,_,I2,rfl,q _ (I1.IA.fresh (JB _))⟩
 ·obtain⟨gA,r',pl,hz⟩:=I.tuple hq;exact call_tuple_same pl ⟨.ref p,H,I,rfl,q⟩
def D9(K:fA)(T:String)(x:V)(H:Hp):Prop:=match x with
 |.str _=>T="str"
 |.int _=>T="int"
 |.ref p=>(T="list"/\∃xs,DB K H p xs)\/(T="tuple"/\∃o,K.lookup p=some o/\o.cls=.type "tuple"/\o.dict=none) \/
   (T="dict"/\∃JE,H p=some (.dK JE))\/(T="set"/\∃S n,H p=some (.set S n))
 |_=>False
def Xo(I:cA X aA Y H s)(r:aAf x v)(ty:D9 X.K T x H) :
  s.TypeIs v T/\∀a,v=.ref a->∃ob,s.heap.get? a=some ob/\ob.dict=none:=by
 cases x with
 |str z =>
  obtain⟨t,rfl⟩:=r;cases (show T="str" from ty);exact⟨WQ s z t,λ_ e=>nomatch e⟩
 |int i =>
  obtain⟨t,rfl⟩:=r;cases (show T="int" from ty);exact⟨typeIs_int s i t,λ_ e=>nomatch e⟩
 |ref p =>
  cases r;rcases ty with ⟨rfl,xs,hq⟩ | ⟨rfl,o,hk,hc,hd⟩ | ⟨rfl,hk⟩ | ⟨rfl,S,n,hk⟩
  ·obtain⟨gA,_,pl,_⟩:=I.list hq;refine⟨pl.isList.typeIs,λa e=>?_⟩;cases e;obtain⟨o,n,e,c,hd,_⟩:=pl;exact⟨o,e,hd⟩
  ·refine⟨⟨o,I.wC p o hk,hc⟩,λa e=>?_⟩;cases e;exact⟨o,I.wC _ o hk,hd⟩
  ·have z:∃o,s.heap.get? p=some o/\o.ExactDict:=by
    obtain⟨JE,hk⟩:=hk;obtain⟨_,_,_,_,o,_,_,e,ex,_⟩:=I.IA p _ hk;exact⟨o,e,ex⟩
   obtain⟨o,e,ex⟩:=z;refine⟨⟨o,e,ex.1⟩,λa e2=>?_⟩;cases e2;exact⟨o,e,ex.2.1⟩
  ·obtain⟨o,_,_,_,e,ex,_⟩:=I.IA p _ hk;refine⟨⟨o,e,ex.1⟩,λa e2=>?_⟩;cases e2;exact⟨o,e,ex.2.1⟩
 |_=>exact pE ty
def k0a(K:fA)(T:String)(r:V->List V->Hp->VK->Prop)(to:TE):TE:=λY H Q=>to Y H λx H1=>D9 K T x H1/\r x [] H1 Q
def tBM(K:fA)(T:String)(r:V->List V->Hp->VK->Prop)(to:TE)(t:TA):TE:=λY H Q=>to Y H λx H1=>D9 K T x H1/\t Y H1 λxs H2=>r x xs H2 Q
variable{T id:String}
def Uj(pa:PlainAttrs T)(slot:Slot T name id)(lS:typeOf (.builtin id)=pure (.type "method_descriptor"))(hm:UO X id r)(ho:PE X o to)
  (fL:attributeBase o name X.env (eval o X.env)=eval o X.env:=by rfl) (j5:(NA.endLine==aB.line)=true:=by rfl):PE X (.Call (.Attribute o name NA) [] [] aB) (k0a X.K T r to):=by
 intro aA s Y H Q I h;refine wpAny_Call_method0_late fL j5 (RA (ho aA s Y H _ I h) λv s1 hz=>?_);obtain⟨x,H1,I1,r1,ty,q1⟩:=hz;obtain⟨h1,h2⟩:=Xo I1 r1 ty;exact⟨T,id,pa,slot,lS,h1,h2,Calls.callWith_builtin rfl (PySem.evalArgs_none (hm aA s1 Y H1 x [] v [] Q I1 r1 .nil q1))⟩
def kQ(pa:PlainAttrs T)(slot:Slot T name id)(lS:typeOf (.builtin id)=pure (.type "method_descriptor"))(hm:UO X id r)(ho:PE X o to)(ha:PA X (e::es) t)
  (fL:attributeBase o name X.env (eval o X.env)=eval o X.env:=by rfl)
  (zAa:((nD aB (zB (e::es) X.env)).all (λx=>!x.1)&&(backToKw aB (keywordEach [] X.env)).all (λx=>x.1.isSome)
   && decide ((e::es).length+([]:List gZ).length+(if([]:List gZ).isEmpty then 0 else 1)<30))=true:=by rfl)
  (j5:(NA.endLine==aB.line)=true:=by rfl) (hs:zB (e::es) X.env=(false,eval e X.env)::zB es X.env:=by rfl) (K5:(nD aB (zB es X.env)).any (·.1)=false:=by rfl) :
  PE X (.Call (.Attribute o name NA) (e::es) [] aB) (tBM X.K T r to t):=by
 intro aA s Y H Q I h;refine wpAny_Call_method_late fL zAa j5 rfl (RA (ho aA s Y H _ I h) λv s1 hz=>?_);obtain⟨x,H1,I1,r1,ty,q1⟩:=hz;obtain⟨h1,h2⟩:=Xo I1 r1 ty;refine⟨T,id,pa,slot,lS,h1,h2, ?_⟩;have hA:=ha aB aA s1 Y H1 _ I1 q1;rw[hs] at hA ⊢;refine Calls.callWith_builtin (by show(false||(nD aB (zB es X.env)).any (·.1))=false;rw[K5]<;>rfl) (Calls.evalArgs_plain ?_);exact RA hA λus s2 hz=>(by obtain⟨vs,H2,I2,r2,q2⟩:=hz;exact hm aA s2 Y H2 x vs v us Q I2 r1 r2 q2)
end
def vR(X:Cx)(id:String)(r:V->List V->Hp->VK->Prop):Prop :=
 ∀(aA:List (eA×rB)) (s:zA) (Y:St) (H:Hp) (x:V) (xs:List V) (v:dA) (us:List dA) (Q:VK),cA X aA Y H s->aAf x v->aAe xs us->r x xs H Q ->
  wA (model X.prog X.w) X.A (call (.builtin id) (v::us)) (EP X aA Y Q) X.xe s
def aAe.one{x:V}{us:List dA}(h:aAe [x] us):∃u,us=[u]/\aAf x u:=by
 cases h with | cons r t=>cases t;exact⟨_,rfl,r⟩
section
variable{X:Cx}{aA:List (eA×rB)}{Y:St}{H:Hp}{s:zA}{l b:eA}{xs ys zs:List V}
def cA.Mi{gA its':List dA}(I:cA X aA Y H s)(hH:H l=some (.l xs))
  (e:s.heap.get? l=some { cls:=.type "list",data:=.seq gA.toArray n }) (hf:f gA.toArray=its'.toArray) (hv:aAe ys its') (hz:ys.length<=sizeLine) :
  cA X aA Y (sA H l (.l ys)) { s with heap:=s.heap.update l (FU f),toks:=t' }:=by
 have q:=PySem.IsL.update e f;rw[hf] at q;refine I.write (x:=l) (e:=l) (by rw[hH];exact trivial) (.inl rfl) (λb' u hb hu=>(rO s.heap (FU f) (KD hb)).trans hu) ⟨_,q⟩ ?_;exact⟨hz,its',_,hv,q⟩
def cA.Ji(I:cA X aA Y H s)(hv:aAe ys gA)(hz:ys.length<=sizeLine) :
  cA X aA Y (sA H s.heap.objs.size (.l ys)) { s with heap:=s.heap.push { cls:=.type "list",data:=.seq gA.toArray },toks:=t' } :=
 I.laid (λ_ _ q=>NC _ q) (JB _) ⟨hz,gA,0,hv,EG _ rfl⟩
theorem cA.fresh(I:cA X aA Y H s):H s.heap.objs.size=none:=I.IA.fresh (JB _)
def cA.M7(I:cA X aA Y H s)(hH:H l=some (.l xs)):xs.length<=sizeLine/\∃(gA:List dA) (n:Nat),aAe xs gA/\xs.length=gA.length/\s.heap.get? l=some { cls:=.type "list",data:=.seq gA.toArray n }:=by
 obtain⟨z,gA,n,r,e⟩:=I.IA l _ hH;exact⟨z,gA,n,r,r.length,e⟩
def vMa(h:n<=sizeLine):S9 n=false:=by
 unfold S9;exact zC (by lia)
end
section
variable{X:Cx}
def cVa:V->List V->Hp->VK->Prop:=λx vs H Q=>∃l xs y,x=.ref l/\vs=[y]/\H l=some (.l xs)/\xs.length<sizeLine/\Q .rA (sA H l (.l (xs++[y])))
def Zi:vR X "list.append" cVa:=by
 intro aA s Y H x vs v us Q I rx rv h;obtain⟨l,xs,y,rfl,rfl,hH,hz,q⟩:=h;cases rx;obtain⟨u,rfl,ru⟩:=rv.one;obtain⟨z,gA,n,r,hl,e⟩:=I.M7 hH;refine XQ Bq ⟨_,e,rfl⟩ F.entry_list_append (F.args_list_append_2 _ _) (PySem.list_append l gA.toArray n u (by rw[PD];lia)) ⟨e, ?_⟩;refine⟨.rA,_,I.Mi (its':=gA++[u]) hH e (by simp) (r.append (.cons ru .nil)) ?_,rfl,q⟩;rw[iF,FY]
 lia
def gVa:V->List V->Hp->VK->Prop:=λx vs H Q=>∃l b xs zs,x=.ref l/\vs=[.ref b]/\H l=some (.l xs)/\H b=some (.l zs)/\xs.length+zs.length<=sizeLine/\Q .rA (sA H l (.l (xs++zs)))
def bLa:vR X "list.extend" gVa:=by
 intro aA s Y H x vs v us Q I rx rv h;obtain⟨l,b,xs,zs,rfl,rfl,hH,hB,hz,q⟩:=h;cases rx;obtain⟨u,rfl,ru⟩:=rv.one;cases ru;obtain⟨z,gA,n,r,hl,e⟩:=I.M7 hH;obtain⟨z2,nJ,n2,r2,Z4,e2⟩:=I.M7 hB;have wB:gA.toArray.size+nJ.toArray.size<=sizeLine:=by rw[PD,PD];lia
 have uBa:¬(!gA.toArray.isEmpty&&S9 (gA.toArray.size+nJ.toArray.size))=true:=by(rw[vMa wB,sU];exact EJ)
 refine XQ Cq ⟨_,e,rfl⟩ F.entry_list_extend (F.args_list_extend_2 _ _)
  (AutoSeq1.list_extend_list_list_0 l gA.toArray n b nJ.toArray n2 uBa (by rw[PD];lia) (by lia)) ⟨e,e2, ?_⟩
 refine⟨.rA,_,I.Mi (its':=gA++nJ) hH e (by simp) (r.append r2) ?_,rfl,q⟩;rw[iF]
 lia
end
end L2
namespace Att
open PySem PySem.W PySem.Calls PyProof.Rows
def nDa:∀(ns:List Int) (vs:List dA),WellAll P h vs (ns.map WData.int)->aR vs ns:=by
 intro ns
 induction ns with
 |nil =>
  intro vs w;rw[JO] at w;cases w;exact .nil
 |cons n ns ih =>
  intro vs w;rw[pD] at w
  cases w with
  |cons a b =>
   cases a;exact .cons _ _ (ih _ b)
def tXa{l:EU}(hn:l.most=some n)
  (CW:l.row.toRowW.claim.pre args=true) (AM:WellAll P h vals args) :
  ∃a vs ns,vals=[Value.ref a]/\args=[WData.list (ns.map WData.int)]/\h.get? a=some { cls:=.type "list",data:=.seq vs.toArray }/\aR vs ns/\ns.length<=n:=by
 have hsh:WShape.hasAll [] args [.list .int]=true:=(pre_splitW CW).1;have hc:l.pre.holds [] { args:=args }=true:=(pre_splitW CW).2;obtain⟨d,r,rfl,h1,h2⟩:=hasAllW_cons hsh;obtain rfl:=hasAllW_nil h2;obtain⟨xs,rfl,h3⟩:=hasW_list h1;obtain⟨ns,rfl⟩:=items_int h3
 have cC:ns.length<=n:=by
  unfold OpenLaw.pre at hc
  have h4:(WTm.not (.lt (.lit (.int (n:Int))) (.len (.arg 0)))).holds [] { args:=[.list (ns.map .int)] }=true:=by(have h4:=(holds_andW hc).1;rw[hn] at h4;exact h4)
  have h5:=condW_of h4 (w_not (w_lt w_lit (w_len_list (w_arg rfl))));rw[YA] at h5;refine Ua λq=>?_
  have q':(n:Int)<((ns.length:Nat):Int):=by lia
  first
   | (rw[GC q'] at h5;exact absurd h5 (by decide))
   | (simp at h5;lia)
 cases AM with
 |cons w1 w2 =>
  cases w2
  cases w1 with
  |list ho eL=>exact⟨_,_,ns,rfl,rfl,ho,nDa ns _ eL,cC⟩
def ySa(l:EU)(args:List WData):l.row.toRowW.claim.post args (.bool true) args=true :=
 postW_of (r:=l.row.toRowW) (X:=(true==true))
  (show Ur [] (.bool true) .bool=true by first | rfl | decide | simp[Ur,WShape.arms,WShape.armsAll])
  (show(WTm.eq .res (.lit (.bool true))).value [] { args:=args,res:=some (.bool true),after:=args }=some (.bool (true==true)) from w_eq_bool (w_res rfl) w_lit) rfl
def Xu{l:EU}
  (hn:l.most=some n) (aS:d.params.defaults=[])
  (call:∀(w:VC) (s₀ s₁:zA) (mg mb:bA->Option dA) (fa:eA) (o:rB) (pm cd doc:dA) (a:eA) (vs:List dA) (ns:List Int),
   Ground q loose [] XP w s₀ mg mb s₁.heap->YP w s₁.heap ->
   s₁.heap.get? fa=some o->o.data=.func (docDef d.name d.params d.body d.scope pm cd doc)->s₁.heap.CodeRec cd d.name->mg d.name=some (.ref fa) ->
   s₁.heap.get? a=some { cls:=.type "list",data:=.seq vs.toArray }->aR vs ns->ns.length<=n->s₁.gens=#[] ->
   BJ (model l.prog w) callerA (.call (.ref fa) ⟨[.ref a],[]⟩) (λr s'=>r=.ok (.ret (.bool true))/\OldK s₁.heap s'.heap/\s'.os=s₁.os/\EK s'.gens) s₁) :
  Wb q loose XP YP l.row.toRowW d [] (λf vs=>Zb f vs):=by
 intro w s₀ s₁ mg mb G Y fa o pm cd doc dV kV ho hd QG hD MP hg args vals as CW n4a M5 AM hlo;obtain rfl:dV=.none:=Dflts.none hD aS;obtain rfl:kV=.none:=Dflts.noKw hD;obtain⟨a,vs,ns,rfl,rfl,E5,hints,cC⟩:=tXa hn CW AM;refine enter_call (KL (call w s₀ s₁ mg mb fa o pm cd doc a vs ns G Y ho (fd_plain hd) QG MP E5 hints cC hg) λr s' hq=>?_);obtain⟨rfl,h2,h3,h4⟩:=hq;exact⟨.inl ⟨.bool true,.bool true,[],rfl,λ_=>rfl,.bool true,ySa l _,λ_=>⟨List.Pairwise.nil,λ_ hm=>(nomatch hm)⟩⟩,h2,h3,h4⟩
end Att
namespace L2
open PySem PySem.Spec PyProof.Rows
def o2a(h:aR vs ns):aAe (ns.map V.int) vs:=by
 induction h with
 |nil=>exact .nil
 |cons n t h ih=>exact .cons ⟨t,rfl⟩ ih
def vZ(H:Hp):Prop:=∀b,H b=none\/∃o xs,H b=some (.CF o (.l xs))
def kJa{K:fA}
  (KX:K.In s₁.heap) (yI:s₁.heap.Ns VA mg) (hb:s₁.heap.Ns builtinsNs mb) (hbb:∀x:bA,x≠"__name__"->mb x=JL x) (tBa:s₁.heap.NoLimit) (hg:s₁.gens=#[])
  (ha:s₁.heap.get? a=some { cls:=.type "list",data:=.seq vs.toArray }) (hi:aR vs ns) (hl:ns.length<=sizeLine) (hr:XB k callerA)
  (F:∀base:HB,K.In base->base.Ns VA mg->ZC P w K mg base CX k fa fd [x] sp) (rAa:∀(s:zA) (u:dA),fZ s fd ⟨[u],[]⟩ [(x,u)])
  (xG:∀H:Hp,vZ H->DB K H a (ns.map V.int)->sp [.ref a] H (λv _=>v=.bl true) λ_ _ _=>False)
  (J4:∀H e s',CX [] H s₁ (λ_ _ _=>False) e s'->False) :
  BJ (model P w) callerA (.call (.ref fa) ⟨[.ref a],[]⟩) (λr s'=>r=.ok (.ret (.bool true))/\OldK s₁.heap s'.heap/\s'.os=s₁.os/\EK s'.gens) s₁:=by
 have rv:=o2a hi;have aKa:=hi.length
 -- from an abstract heap in i6a nothing but fF script may be tracked
 have core:∀H:Hp,vZ H->DB K H a (ns.map V.int)->wD P w H s₁.heap->(∀b,H b≠none->b=a)->(H a≠none->K.lookup a=none) ->
   BJ (model P w) callerA (.call (.ref fa) ⟨[.ref a],[]⟩) (λr s'=>r=.ok (.ret (.bool true))/\OldK s₁.heap s'.heap/\s'.os=s₁.os/\EK s'.gens) s₁:=by
  intro H hO hS IA hA hK;have base_of:∀{b:eA} {o:rB},s₁.heap.get? b=some o->H b=none->(jL s₁.heap H).get? b=some o:=λe n=>kBa e n
  have QS:∀{b:eA} {o:rB} {es:Array ZQ} {ep:Nat},s₁.heap.get? b=some o->o.data=.dict es ep->H b=none:=λ{b o es ep} e d=>by
   cases q:H b with
   |none=>rfl
   |some u =>
    have e':b=a:=hA b (by rw[q];simp);subst e';rw[ha] at e;cases e;have d':Data.seq vs.toArray _=Data.dict es ep:=d;cases d'
  have vX:∀{b:eA} {m:bA->Option dA},s₁.heap.Ns b m->(jL s₁.heap H).Ns b m:=λ{b m} ⟨o,es,ep,e,d,r⟩=>⟨o,es,ep,base_of e (QS e d),d,r⟩
  have zf:K.In (jL s₁.heap H):=λb o e=>base_of (KX b o e) (by
   cases q:H b with
   |none=>rfl
   |some u =>
    have e':b=a:=hA b (by rw[q];simp);subst e'
    rw[hK (by rw[q];simp)] at e;cases e)
  have hM:Mod K mg (jL s₁.heap H):=⟨zf,vX yI,⟨mb,vX hb,hbb⟩,let ⟨mc,h1,h2⟩:=tBa;⟨mc,vX h1,h2⟩⟩
  have e0:gN P w K mg (jL s₁.heap H) callerA [] s₁ H:=⟨rfl,hM,λb o e=>kNa e,ZY (lBa _ _),trivial,λb hb=>absurd (show b∈([]:List eA) from hb) (by simp),IA,.of_eq hg⟩
  refine KL ((F _ zf (vX yI)).run callerA [] s₁ H ⟨[.ref a],[]⟩ [.ref a] [.ref a] _ _ hr e0 (rAa s₁ (.ref a)) (.cons rfl .nil) (xG H hO hS)) λr s' h=>?_
  cases r with
  |error e=>exact(J4 H e s' h).elim
  |ok fl =>
   cases fl with
   |next=>exact pE h
   |brk=>exact pE h
   |cont=>exact pE h
   |ret u =>
    obtain⟨v,H',os,bare,un,dCa,r',q⟩:=h;have q':v=.bl true:=q;subst q';obtain rfl:u=Value.bool true:=r';refine⟨rfl,OldK.of_keep λb o e=>?_,os,bare⟩
    cases q:H b with
    |none=>exact un.keep b o e q (by intro z;exact absurd (show b∈([]:List eA) from z) (by simp)) (by simp)
    |some u =>
     rcases hO b with z | ⟨ob,xs,z⟩
     ·rw[q] at z;cases z
     ·have z2:=un.tI b ob _ z;obtain⟨e1,_⟩:=IA b _ z;obtain⟨e2,_⟩:=dCa b _ z2;rw[e] at e1;cases e1;exact e2
 cases hk:K.lookup a with
 |some o =>
  -- fF script is one of fF yKa own objects
  have e:=KX a o hk;rw[ha] at e;cases e;refine core (λ_=>none) (λ_=>.inl rfl) (.inr ⟨_,vs.toArray,_,hk,rfl,rfl,rfl,by rw[PD,aKa];exact hl,by simpa using rv⟩) (λb u z=>by have z':(none:Option HO)=some u:=z;cases z') (λb z=>absurd rfl z) λz=>absurd rfl z
 |none =>
  refine core (λb=>if b=a then some (.CF { cls:=.type "list",data:=.seq vs.toArray } (.l (ns.map V.int))) else none) (λb=>?_) (.inl (.inr ⟨{ cls:=.type "list",data:=.seq vs.toArray },FA rfl⟩)) (λb u z=>?_) (λb z=>?_) λ_=>hk
  ·by_cases hb:b=a
   ·exact .inr ⟨_,_,FA hb⟩
   ·exact .inl (vB hb)
  ·by_cases hb:b=a
   ·have z':=(FA hb).symm.trans z;cases z';subst hb;exact⟨ha,by rw[YA];exact hl,vs,_,rv,ha⟩
   ·have z':=(vB hb).symm.trans z;cases z'
  ·by_cases hb:b=a
   ·exact hb
   ·exact absurd (vB hb) z
abbrev fD{K:fA}{h:HB}(_:K.In h):fA:=K
def q2a{l:EU}{K:IU->fA}{CX:VC->UL}{sp:VC->Sp}{x:bA}
  (hn:l.most=some n) (yW:n<=sizeLine) (aS:d.params.defaults=[]) (hr:XB k callerA)
  (hY:∀(w:VC) (h:HB),YP w h->(K w.params).In h)
  (F:∀(w:VC) (mg:bA->Option dA) (fa:eA) (h:HB),(K w.params).In h->h.Ns VA mg->mg d.name=some (.ref fa) ->
   ∃fd:gF,(∀(s:zA) (u:dA),fZ s fd ⟨[u],[]⟩ [(x,u)]) /\
    ∀base:HB,(K w.params).In base->base.Ns VA mg->ZC l.prog w (K w.params) mg base (CX w) k fa fd [x] (sp w))
  (xG:∀(w:VC) (H:Hp) (a:eA) (ns:List Int),ns.length<=n->vZ H->DB (K w.params) H a (ns.map V.int)->sp w [.ref a] H (λv _=>v=.bl true) λ_ _ _=>False)
  (J4:∀(w:VC) (H:Hp) (s:zA) (e:dA) (s':zA),CX w [] H s (λ_ _ _=>False) e s'->False) :
  Wb q loose XP YP l.row.toRowW d [] (λf vs=>Zb f vs):=by
 refine Att.Xu hn aS λw s₀ s₁ mg mb fa o pm cd doc a vs ns G Y ho hd QG MP E5 hints cC hg=>?_
 have KX:=hY w _ Y;obtain⟨fd,hb,hF⟩:=F w mg fa _ KX G.T.g MP;exact kJa KX G.T.g G.T.b G.T.builtins G.T.nolimit hg E5 hints (lD cC yW) hr hF hb (λH hO hS=>xG w H a ns cC hO hS) λH e s'=>J4 w H s₁ e s'
noncomputable def LH(s:WA):Arguments:=match s with
 |.FunctionDef _ a _ _ _ _ _ _ _ _=>a
 |_=>{ posonlyargs:=[],args:=[],vararg:=none,kwonlyargs:=[],kw_defaults:=[],kwarg:=none,defaults:=[] }
noncomputable def tD(s:WA):List WA:=match s with
 |.FunctionDef _ _ b _ _ _ _ _ _ _=>b
 |_=>[]
noncomputable def OB(s:WA):kG:=match s with
 |.FunctionDef _ _ _ _ _ _ sc _ _ _=>sc
 |_=>{ kind:=.function,names:=[],isGenerator:=false,isCoroutine:=false }
abbrev SE:UL:=λ_ _ _ _ _ _=>False
abbrev E0:XK:=λ_ _ _=>False
def DX:aAC SE X E0:=λ_ _ _ _ _ _ _ h=>h.elim
structure UI(K:fA)(x UA:bA)(st:WA)(f:eA)(fd:gF):Prop where
 ex:∃(oc:dA) (od:Option eA) (kV doc pm:dA) (an:Option eA) (XA ct:dA) (yE:Array (Option dA)),
  fd=zH x UA (LH st) (tD st) (OB st) .none kV doc pm an XA ct/\K.lookup f=some ⟨oc,od,.func fd,yE⟩/\CO K XA UA=true
 kp:xF K (.ref f)=true
section
variable{P:nE}{w:VC}{K:fA}{mg:bA->Option dA}{base:HB}
def UI.ok{st:WA}(F:UI K x UA st f fd)(S:JJ N ps (OB st))(len:∀vs H Q E,sp vs H Q E->vs.length=ps.length)
  (M4:∀(XA:dA) (A:JF) (outer:List Env) (s:zA) (H:Hp) (vs:List V) (Q:VK) (E:XK),XB k (A.deeper (envOfC UA (OB st) s.heap.objs.size f XA))->sp vs H Q E ->
   ∃t,LC (PF SE P w K mg base N UA (OB st) f XA A outer s H E).EM (tD st) t/\t { nx:=λ_ H'=>Q .rA H',rt:=Q } (start N vs) H):ZC P w K mg base SE (k+1) f fd ps sp:=by
 obtain⟨oc,od,kV,doc,pm,an,XA,ct,yE,rfl,lk,QG⟩:=F.ex;refine Te lk QG S len λA outer s H vs Q E hr xG=>?_
 obtain⟨t,h,q⟩:=M4 XA A outer s H vs Q E hr xG;exact⟨t,h.EM,q⟩
def UI.binds{st:WA}(F:UI K x UA st f fd)
  (h:∀(kV doc pm:dA) (an:Option eA) (XA ct:dA) (us:List dA),us.length=ps.length->bindArgs (zH x UA (LH st) (tD st) (OB st) .none kV doc pm an XA ct) ⟨us,[]⟩=pure (ps.zip us)):aAn K fd ps []:=by
 obtain⟨oc,od,kV,doc,pm,an,XA,ct,yE,rfl,lk,QG⟩:=F.ex;exact .all (h kV doc pm an XA ct)
def WR{st:WA}{kV doc pm XA ct:dA}(l:K.lookup f=some ⟨oc,od,.func (zH x UA (LH st) (tD st) (OB st) .none kV doc pm an XA ct),yE⟩)
  (c:CO K XA UA=true) (k:xF K (.ref f)=true):UI K x UA st f (zH x UA (LH st) (tD st) (OB st) .none kV doc pm an XA ct):=⟨⟨oc,od,kV,doc,pm,an,XA,ct,yE,rfl,l,c⟩,k⟩
end
def MN{A B:Prop}(h:B):if false=true then A else B:=by
 rw[vB EJ];exact h
def NN{A B:Prop}(h:A):if true=true then A else B:=by
 rw[FA rfl];exact h
def ZA(H H':Hp):Prop:=∀b o,H b=some o->H' b=some o
def ZA.refl(H:Hp):ZA H H:=λ_ _ h=>h
def ZA.trans(a:ZA H H1)(b:ZA H1 H2):ZA H H2:=λc o h=>b c o (a c o h)
def ZA.free(e:ZA H H')(h:H' l=Option.none):H l=Option.none:=by
 cases q:H l with
 |none=>rfl
 |some o =>
  rw[e l o q] at h;cases h
def ZA.seq{K:fA}(e:ZA H H')(h:DB K H a xs):DB K H' a xs:=by
 rcases h with (h | ⟨o,h⟩) | h
 ·exact .inl (.inl (e _ _ h))
 ·exact .inl (.inr ⟨o,e _ _ h⟩)
 ·exact .inr h
end L2
set_option maxHeartbeats 4000000
namespace L2
open PySem PySem.Spec PyProof.Rows
abbrev yR:=Int×List Int
section
variable{P:nE}{w:VC}{A:JF}{E:dA->zA->Prop}{s:zA}{h:HB}
abbrev iN:=yR ⊕ Empty
noncomputable def gk:iN->yR:=Sum.elim id Empty.elim
end
abbrev xZ:=List (iN×eA×dA)
noncomputable def hS1(k:yR):Int:=reduceHash (pq [hashInt k.1,reduceHash (pq (k.2.map hashInt))])
def hS(k:iN):Int:=hS1 (gk k)
def sy(x:iN×eA×dA):ZQ:={ hash:=hS x.1,key:=.ref x.2.1,val:=x.2.2 }
def As(a:eA)(xs:xZ)(ep:Nat)(h:HB):Prop:=∃o es,h.get? a=some o/\o.ExactDict/\o.data=.dict es ep/\es.toList=xs.map sy
def js(H:Hp)(a:eA)(xs:xZ):Prop:=∃ep,H a=some (.ext (As a xs ep))
def gu(K:fA)(H:Hp)(k:yR)(b:eA):Prop:=∃c,OC K H b [.int k.1,.ref c]/\OC K H c (k.2.map V.int)
def Ms(K:fA)(H:Hp)(k:iN)(b:eA):Prop:=gu K H (gk k) b
structure DS(K:fA)(H:Hp)(a:eA)(xs:xZ):Prop where
 at_:js H a xs
 nd:(xs.map (·.1)).Nodup
 len:xs.length<=sizeLine
 sm:(a==sysModules)=false
 keys:∀x∈xs,Ms K H x.1 x.2.1
end L2
namespace CI
open PySem PySem.Spec PyProof.Rows L2
section
variable{h':HB}
def gNa(x:XE P w H h b o):∃ob,h.get? b=some ob:=by
 cases o with
 |l xs=>obtain⟨_,_,_,_,e⟩:=x;exact⟨_,e⟩
 |t xs=>obtain⟨_,_,_,ob,e,_⟩:=x;exact⟨_,e⟩
 |dK JE=>obtain⟨_,_,_,_,o,_,_,e,_⟩:=x;exact⟨_,e⟩
 |set S n=>obtain⟨o,_,_,_,e,_⟩:=x;exact⟨_,e⟩
 |ins C dx fs=>obtain⟨_,_,_,e,_⟩:=x;exact⟨_,e⟩
 |own y=>obtain⟨_,e⟩:=x;exact⟨_,e⟩
 |xd fs=>obtain⟨_,⟨_,_,_,e,_⟩,_⟩:=x;exact⟨_,e⟩
 |eE lo hi=>obtain⟨_,_,_,e⟩:=x;exact⟨_,e⟩
 |CF ob u=>obtain⟨e,_⟩:=x;exact⟨_,e⟩
 |NM ps=>exact⟨_,show h.get? b=some _ from x⟩
 |met f y=>exact⟨_,show h.get? b=some _ from x⟩
 |ext φ=>obtain⟨_,⟨_,e⟩,_⟩:=x;exact⟨_,e⟩
def yN(I:cA X aA Y H s)(hb:s.heap.get? b=none)(hn:H' b=none):uC X aA H' b:=by
 refine⟨hn,λz=>?_,λz=>?_, ?_,λx c e z=>?_,λp hp z=>?_⟩
 ·obtain⟨m,⟨o,_,_,ho,_⟩,_⟩:=I.loc;rw[<- z,hb] at ho;cases ho
 ·obtain⟨_,o,ho,_⟩:=I.TF.mem z;rw[hb] at ho;cases ho
 ·by_cases hx:b∈X.ex
  ·exact .inl hx
  ·refine .inr ?_
   cases q:X.s₀.heap.get? b with
   |none=>rfl
   |some o =>
    obtain⟨o',e⟩:=I.base.there b o q hx;rw[hb] at e;cases e
 ·obtain⟨v,o,ho,_⟩:=I.cell x c e;rw[z,hb] at ho;cases ho
 ·have:=(I.pin p hp).1
  rw[z,hb] at this;cases this
def dW(I:cA X aA Y H s)(hb:s.heap.get? b=none):H b=none:=by
 cases q:H b with
 |none=>rfl
 |some u =>
  obtain⟨ob,e⟩:=gNa (I.IA b u q);rw[hb] at e;cases e
def QW(I:cA X aA Y H s)(fp:∀b∈as,uC X aA H b)(k:(NQ s.heap (as++aE X.stack)).StaysIn h')
  (sl:∀b o,s.heap.get? b=some o->(∀vs,o.data≠.fields vs)->∃sl,h'.get? b=some { o with slots:=sl }):cA X aA Y H { s with heap:=h' }:=by
 have kp:∀b o,b ∉ as->b ∉ aE X.stack->s.heap.get? b=some o->h'.get? b=some o:=λb o h1 h2 e=>k b o (ua _ e (by simp[h1,h2]))
 have tr:∀b u,H b=some u->b ∉ as/\b ∉ aE X.stack:=λb u e=>⟨(λz=>by rw[(fp b z).1] at e;cases e),(λz=>by rw[I.Z8 b z] at e;cases e)⟩
 have fr:∀b∈aE X.stack,∀o,s.heap.get? b=some o->∃sl,h'.get? b=some { o with slots:=sl }:=λb hb o e=>by(obtain⟨_,o',e',nf⟩:=I.stack.mem hb;rw[e] at e';cases e';exact sl b o e nf)
 have IA:wD X.prog X.w H h':=λb u e=>(I.IA b u e).sJ (λc v hc q=>by
  have z:c ∉ as/\c ∉ aE X.stack:=by
   rcases hc with rfl | hc
   ·exact tr _ u e
   ·exact tr c _ hc
  exact kp c v z.1 z.2 q) (λ_ q=>q) λ_ _ q=>q
 have u:Un (aE X.stack) as H H s.heap h':=⟨λb o e n hf hx=>kp b o hx hf e,λb o e n hf hx=>fr b hf o e,λb o e n hx=>n,λb o e hx=>by
  by_cases hf:b∈aE X.stack
  ·obtain⟨_,z⟩:=fr b hf o e;exact⟨_,z⟩
  ·exact⟨o,kp b o hx hf e⟩,λ_ _ e=>e,λ_ _ _ e=>e,λb ps e=>⟨#[],by rw[e];simp⟩⟩
 exact I.call (g':=s.gens) (t':=s.toks) (d':=s.drawn) (ch:=as) u IA I.bare λb hb=>⟨(fp b hb).2.2.2.1,(fp b hb).2.1,(fp b hb).2.2.2.2.1,(fp b hb).2.2.2.2.2⟩
abbrev PX:=Option eA×Bool
def NK(vs:Array dA)(a0:dA)(b:Bool):Prop:=vs[0]?=some a0/\(b=true->vs[2]?=some .none)
def NK.vXa(h:NK vs a0 b):NK (vs.setIfInBounds 1 v) a0 b :=
 ⟨by rw[iq (by decide)];exact h.1,λz=>by rw[iq (by decide)];exact h.2 z⟩
def mI(X:Cx)(aA:List (eA×rB))(H:Hp)(h:HB)(a C:eA)(p:PX)(fl:dA):Prop :=
 ∃oe vs a0 T oT ts,h.get? a=some oe/\(oe.cls=.ref C/\oe.dict=p.1)/\oe.data=.fields vs/\NK vs a0 p.2/\uC X aA H T/\vs[1]?=some (.ref T)/\T≠a/\h.get? T=some oT/\oT.data=.fields ts/\ts[3]?=some fl
def uR(h:HB)(a C:eA)(p:PX):Prop:=∃oe vs a0,h.get? a=some oe/\(oe.cls=.ref C/\oe.dict=p.1)/\oe.data=.fields vs/\NK vs a0 p.2/\vs[1]?=some .none
def GG(X:Cx)(aA:List (eA×rB))(H:Hp)(h:HB)(a C:eA)(p:PX):Prop:=uC X aA H a/\(uR h a C p\/∃fl,mI X aA H h a C p fl)
def kMa(I:cA X aA Y H s)(fp:∀b∈as,uC X aA H b)(hB:(NQ s.heap (as++aE X.stack)).get? T=none)(hT:h'.get? T=some oT)(hd:oT.data=.fields ts)
  (sl:∀b o,s.heap.get? b=some o->(∀vs,o.data≠.fields vs)->∃sl,h'.get? b=some { o with slots:=sl }):uC X aA H T:=by
 by_cases h1:T∈as
 ·exact fp T h1
 ·by_cases h2:T∈aE X.stack
  ·obtain⟨_,o,e,nf⟩:=I.stack.mem h2;obtain⟨dm,e'⟩:=sl T o e nf;rw[hT] at e';cases e';exact absurd hd (nf ts)
  ·have hn:s.heap.get? T=none:=by
    cases q:s.heap.get? T with
    |none=>rfl
    |some o=>rw[ua _ q (by simp[h1,h2])] at hB;cases hB
   exact yN I hn (dW I hn)
def jf(I:cA X aA Y H s)(as:List eA):s.heap.FunFrames (NQ s.heap (as++aE X.stack)) X.stack :=
 PySem.W.funFrames_hide I.stack λenv he b hb=>CH _ (Ea.mpr ⟨env,he,hb⟩)
def yZ(h base:HB)(e:eA)(cls:dA)(p:PX)(a0 fl:dA):Prop :=
 ∃oe vs T oT ts,h.get? e=some oe/\((oe.cls=cls/\oe.dict=p.1)/\NK vs a0 p.2)/\oe.data=.fields vs/\vs[1]?=some (.ref T)/\base.get? T=none/\T≠e/\h.get? T=some oT/\oT.data=.fields ts/\ts[3]?=some fl
def Bc(base:HB)(e:eA)(cls:dA)(p:PX)(a0 fl:dA)(h h':HB):Prop:=base.StaysIn h'/\yZ h' base e cls p a0 fl/\∀b o,h.get? b=some o->(∀vs,o.data≠.fields vs)->∃sl,h'.get? b=some { o with slots:=sl }
def Wx(f:Array dA->Array dA)(o:rB):(EO f o).dict=o.dict:=by obtain⟨_,_,dt,_⟩:=o;cases dt<;>rfl
def Oo(I:cA X aA Y H s)(fp:∀b∈as,uC X aA H b)(t:yZ h' (NQ s.heap (as++aE X.stack)) a (.ref C) p a0 fl)
  (sl:∀b o,s.heap.get? b=some o->(∀vs,o.data≠.fields vs)->∃sl,h'.get? b=some { o with slots:=sl }):mI X aA H h' a C p fl:=by
 obtain⟨oe,vs,T,oT,ts,he,⟨hc,h0⟩,hd,h1,hB,jD,hT,qF,h3⟩:=t;exact⟨oe,vs,a0,T,oT,ts,he,hc,hd,h0,kMa I fp hB hT qF sl,h1,jD,hT,qF,h3⟩
variable{M:Model}{A:JF}{E:dA->zA->Prop}{Q:Unit->zA->Prop}
def we(yM:A.frames=some (env::outer))(hl:s.heap.FunFrames base (env::outer))(hf:env.frame=some L)
  (he:s.heap.get? e=some oe) (Y4:base.StaysIn s.heap) (Q4:base.get? e=none) (hd:oe.data=.fields vs) (wB:1<vs.size) (h0:NK vs a0 b0)
  (h:∀h',Bc base e oe.cls (oe.dict,b0) a0 (rawInt L) s.heap h'->Q () { s with heap:=h' }) :
  wA M A (do let a <- frameOf env;let pl <- entryPlaceOf L nx;let b <- Hq head a .none (rawInt L) .none pl;setField (.ref e) 1 b) Q E s:=by
 have vj:∀b o,s.heap.get? b=some o->(∀vs,o.data≠.fields vs)->b≠e:=λb o hb nf z=>by rw[z,he] at hb;cases hb;exact nf vs hd
 have yAa:e ∉ (env::outer).filterMap (·.frame):=λhm=>by obtain⟨_,o,ho,nf⟩:=hl.mem hm;exact vj e o ho nf rfl
 refine BA (wpAny_frameOf_fun yM hl hf λh₁ hs₁=>BA (wpAny_entryPlaceOf λpl yD=>?_));have he₁:h₁.get? e=some oe:=(hs₁.2.1 e yAa).trans he;have kb₁:base.StaysIn h₁:=λb o uI=>(hs₁.2.1 b λhm=>by rw[(hl.mem hm).1] at uI;cases uI).trans (Y4 b o uI)
 unfold Hq newFields;refine BA (KQ ?_ (yD.sizeOk5 _ _ _ _ _));generalize hoT:({ cls:=.type "traceback",dict:=none,data:=.fields ([head,.ref L,.none,rawInt L,.none]++(if pl.isEmpty then FC 6 Value.none else pl)).toArray }:rB)=oT;have Bf:oT.data=.fields ([head,.ref L,.none,rawInt L,.none]++(if pl.isEmpty then FC 6 Value.none else pl)).toArray:=by rw[<- hoT]
 have he₂:=NC (h:=h₁) oT he₁;refine wb he₂ hd wB (h _ ?_);have lW:h₁.objs.size≠e:=yU (rC he₁);have hd₃:=Ha hd (·.setIfInBounds 1 (Value.ref h₁.objs.size));have keep:∀b o,b≠e->h₁.get? b=some o->((h₁.push oT).update e (EO (·.setIfInBounds 1 (Value.ref h₁.objs.size)))).get? b=some o:=λb o gL hb=>(rO _ _ (KD gL)).trans (NC _ hb)
 refine⟨λb o uI=>keep b o (λq=>by rw[q,Q4] at uI;cases uI) (kb₁ b o uI), ?_,λb o hb cK=>?_⟩
 ·exact⟨_,_,h₁.objs.size,_,_,bU _ he₂ (ia hd₃),⟨⟨Obj.cls_mapFields _ _,Wx _ _⟩,h0.vXa⟩,hd₃,by simp[wB],kb₁.fresh,lW,(rO _ _ (KD lW)).trans (EG h₁ (ia Bf)),Bf,by first | (simp;done) | (rcases yD with rfl | ⟨_,_,_,_,_,_,_,rfl⟩<;>simp)⟩
 ·obtain⟨sl,hs⟩:=hs₁.2.2 b o hb;exact⟨sl,keep b _ (vj b o hb cK) hs⟩
def xMa(yM:A.frames=some (env::outer))(hl:s.heap.FunFrames base (env::outer))(hf:env.frame=some L)(ht:yZ s.heap base e cls p a0 fl)(hn:¬(fl==rawInt L)=true)(Y4:base.StaysIn s.heap)(Q4:base.get? e=none)
  (h:∀h',Bc base e cls p a0 (rawInt L) s.heap h'->Q () { s with heap:=h' }):wA M A (noteFrame (.ref e) env) Q E s:=by
 obtain⟨p1,p2⟩:=p;obtain⟨oe,vs,T,oT,ts,he,⟨⟨rfl,rfl⟩,h0⟩,hd,h1,hnT,lW,hT,qF,h3⟩:=ht;unfold noteFrame;simp only[hf];refine BA (ZG he hd h1 ?_);rw[FA (show(Value.ref T != Value.none)=true from by simp)];refine BA (ZG hT qF h3 ?_);rw[vB hn];refine BA (wb hT qF (GQ.mp h3).1 ?_);have other:∀b,b≠T->(s.heap.update T (EO (·.setIfInBounds 3 Value.none))).get? b=s.heap.get? b:=λb hb=>rO _ _ (KD hb)
 have rj:∀b o,s.heap.get? b=some o->(∀vs,o.data≠.fields vs)->b≠T:=λb o hb cK q=>by
  rw[q,hT] at hb;injection hb with hb;subst hb;exact cK ts qF
 refine we yM (hl.of_keeps λb o hb cK=>⟨o,(other b (rj b o hb cK)).trans hb,rfl⟩) hf ((other e (KD lW)).trans he)
  (λb o uI=>(other b λq=>by rw[q,hnT] at uI;cases uI).trans (Y4 b o uI)) Q4 hd (GQ.mp h1).1 h0
  λh' hz=>(by obtain⟨x1,x3,x4⟩:=hz;exact h h' ⟨x1,x3,λb o hb cK=>x4 b o ((other b (rj b o hb cK)).trans hb) cK⟩)
def i8(I:cA X aA Y H s)(hs:X.stack=env::outer)(hf:env.frame=some L)(F:GG X aA H s.heap a C p)
  (h:∀h',cA X aA Y H { s with heap:=h' }->mI X aA H h' a C p (rawInt L)->Q () { s with heap:=h' }):wA M X.A (noteFrame (.ref a) env) Q E s:=by
 have yM:X.A.frames=some (env::outer):=by rw[<- hs];exact I.ok.frames
 obtain⟨fa,F⟩:=F;rcases F with ⟨oe,vs,a0,he,hc,hd,h0,h1⟩ | ⟨fl,oe,vs,a0,T,oT,ts,he,hc,hd,h0,fT,h1,jD,hT,qF,h3⟩
 ·have fp:∀b∈[a],uC X aA H b:=λb hb=>by rw[uF.mp hb];exact fa
  have hl:=jf I [a];rw[hs] at hl;unfold noteFrame;simp only[hf];refine BA (ZG he hd h1 ?_);rw[vB (by decide)];refine we yM hl hf he (λb o e=>gU _ e) (uO _ (by simp)) hd (GQ.mp h1).1 h0 λh' N=>?_
  obtain⟨k1,k3,k4⟩:=N;rw[<- hs] at k1 k3;rw[hc.1,show(oe.dict,p.2)=p by rw[hc.2]] at k3;exact h h' (QW I fp k1 k4) (Oo I fp k3 k4)
 ·have fp:∀b∈[a,T],uC X aA H b:=λb hb=>by
   rcases eD.mp hb with rfl | hb
   ·exact fa
   ·rw[uF.mp hb];exact fT
  have hl:=jf I [a,T];rw[hs] at hl;by_cases IP:(fl==rawInt L)=true
  ·have IP:=uB IP;subst IP;exact wpAny_noteFrame_againW (base:=NQ s.heap ([a,T]++aE (env::outer))) hf ⟨oe,vs,T,oT,ts,he,⟨hc.1,h0.1⟩,hd,h1,uO _ (by simp),jD,hT,qF,h3⟩ (h s.heap I ⟨oe,vs,a0,T,oT,ts,he,hc,hd,h0,fT,h1,jD,hT,qF,h3⟩)
  refine xMa yM hl hf ⟨oe,vs,T,oT,ts,he,⟨hc,h0⟩,hd,h1,uO _ (by simp),jD,hT,qF,h3⟩ IP (λb o e=>gU _ e) (uO _ (by simp)) λh' N=>?_
  obtain⟨k1,k3,k4⟩:=N;rw[<- hs] at k1 k3;exact h h' (QW I fp k1 k4) (Oo I fp k3 k4)
def Qe(I:cA X aA Y H s)(fa:uC X aA H a)(F:mI X aA H s.heap a C p fl)
  (h:∀h',cA X aA Y H { s with heap:=h' }->mI X aA H h' a C p (f.elim Value.none λf=>rawInt f)->Q () { s with heap:=h' }):wA M A (setFlight (.ref a) f) Q E s:=by
 obtain⟨oe,vs,a0,T,oT,ts,he,hc,hd,h0,fT,h1,jD,hT,qF,h3⟩:=F
 have fp:∀b∈[a,T],uC X aA H b:=λb hb=>by
  rcases eD.mp hb with rfl | hb
  ·exact fa
  ·rw[uF.mp hb];exact fT
 have cg:3<ts.size:=(GQ.mp h3).1;unfold setFlight;refine BA (ZG he hd h1 ?_);rw[FA (show(Value.ref T != Value.none)=true from by simp)];refine wb hT qF cg ?_;have other:∀b,b≠T->(s.heap.update T (EO (·.setIfInBounds 3 (f.elim Value.none λf=>rawInt f)))).get? b=s.heap.get? b:=λb hb=>rO _ _ (KD hb)
 refine h _ (QW I fp (λb o e=>?_) λb o e nf=>⟨o.slots, ?_⟩) ⟨oe,vs,a0,T,_,_,(other a (KD jD)).trans he,hc,hd,h0,fT,h1,jD,bU _ hT (ia (Ha qF _)),Ha qF _,by simp[cg]⟩
 ·have hb:b≠T:=λz=>by rw[z,uO _ (by simp)] at e;cases e
  exact(other b hb).trans (gU _ e)
 ·have hb:b≠T:=λz=>by rw[z,hT] at e;cases e;exact nf ts qF
  exact(other b hb).trans e
def NV(I:cA X aA Y H s)(fa:uC X aA H a)(F:mI X aA H s.heap a C p fl)
  (h:∀h',cA X aA Y H { s with heap:=h' }->mI X aA H h' a C p .none->Q () { s with heap:=h' }):wA M A (setFlight (.ref a) none) Q E s:=Qe I fa F h
def sJa(I:cA X aA Y H s)(hs:X.stack=X.env::X.outer)(hf:X.env.frame=some X.env.locals)(F:GG X aA H s.heap a C p)
  (h:∀h',cA X aA Y H { s with heap:=h' }->mI X aA H h' a C p .none->Q () { s with heap:=h' }):wA M X.A (leaving X.env (.ref a)) Q E s:=by
 unfold leaving;exact BA (i8 I hs hf F λh1 I1 F1=>NV I1 F.1 F1 λh2 I2 F2=>h h2 I2 F2)
end
def qG(P:nE)(w:VC):UL:=λouter H s E v s'=>∃a C p H',v=.ref a/\s'.os=s.os/\EK s'.gens/\Un (aE outer) [] H H' s.heap s'.heap/\wD P w H' s'.heap/\s.heap.get? a=none/\H' a=none /\
 (∃oe vs a0 T oT ts,s'.heap.get? a=some oe/\(oe.cls=.ref C/\oe.dict=p.1)/\oe.data=.fields vs/\NK vs a0 p.2/\s.heap.get? T=none/\H' T=none/\vs[1]?=some (.ref T)/\T≠a/\s'.heap.get? T=some oT/\oT.data=.fields ts/\ts[3]?=some .none)/\E (.ref C) p H'
def Ox{K:fA}(I:cA (PF (qG P w) P w K mg base N UA scope f cd A outer s₀ H₀ E) aA Y H s)(F:GG (PF (qG P w) P w K mg base N UA scope f cd A outer s₀ H₀ E) aA H s.heap a C p)(h:E (.ref C) p H) :
  (PF (qG P w) P w K mg base N UA scope f cd A outer s₀ H₀ E).xe (.ref a) s:=by
 refine sJa I rfl rfl F λh' I2 F2=>?_
 obtain⟨oe,vs,a0,T,oT,ts,he,hc,hd,h0,fT,h1,jD,hT,qF,h3⟩:=F2
 have nn:∀b,uC (PF (qG P w) P w K mg base N UA scope f cd A outer s₀ H₀ E) aA H b->s₀.heap.get? b=none:=λb fb=>by
  rcases fb.2.2.2.1 with z | z
  ·exact absurd (show b∈([]:List eA) from z) (by simp)
  ·exact z
 exact⟨a,C,p,H,rfl,I2.os,I2.bare,I2.base,I2.IA,nn a F.1,F.1.1,⟨oe,vs,a0,T,oT,ts,he,hc,hd,h0,nn T fT,fT.1,h1,jD,hT,qF,h3⟩,h⟩
section
variable{X:Cx}{aA:List (eA×rB)}{Y:L2.St}{H:Hp}{s s':zA}
def Yd(I:cA X aA Y H s)(h:qG X.prog X.w X.stack H s E v s'):∃a C p H',v=.ref a/\cA X aA Y H' s'/\GG X aA H' s'.heap a C p/\E (.ref C) p H':=by
 obtain⟨a,C,p,H',rfl,os,bare,un,IA,na,ha,⟨oe,vs,a0,T,oT,ts,he,hc,hd,h0,nT,hT0,h1,jD,hT,qF,h3⟩,e⟩:=h;refine⟨a,C,p,H',rfl,I.Ad (ch:=[]) os un IA bare (λb z=>absurd z (by simp)),⟨yN I na ha,.inr ⟨_,oe,vs,a0,T,oT,ts,he,hc,hd,h0,yN I nT hT0,h1,jD,hT,qF,h3⟩⟩,e⟩
def Nl(F:ZC X.prog X.w X.K X.mg X.base (qG X.prog X.w) k f fd ps sp)(hr:XB k X.A)(hb:aAn X.K fd ps [])
  (I:cA X aA Y H s) (r:aAe vs us) (h:sp vs H Q E) (hx:∀aA a C p H' s',cA X aA Y H' s'->GG X aA H' s'.heap a C p->E (.ref C) p H'->X.xe (.ref a) s'):wA (model X.prog X.w) X.A (call (.ref f) us) (EP X aA Y Q) X.xe s:=by
 have hl:us.length=ps.length:=by rw[<- r.length];exact F.len _ _ _ _ h
 have DF:=hb s us I.wC (by rw[jI];exact hl);rw[jI] at DF;refine MO (KL (F.run X.A X.stack s H ⟨us,[]⟩ us vs Q E hr I.kH DF r h) λr s' hq=>?_)
 cases r with
 |error e =>
  obtain⟨a,C,p,H',rfl,I',F',e'⟩:=Yd I hq;exact hx aA a C p H' s' I' F' e'
 |ok fl =>
  cases fl with
  |ret u=>exact I.after hq
  |next=>exact pE hq
  |brk=>exact pE hq
  |cont=>exact pE hq
def n0a(X:Cx)(sp:Sp)(t:TA):TE:=λY H Q=>t Y H λvs H1=>∃E:XK,sp vs H1 Q E/\∀aA a C p H' s',cA X aA Y H' s'->GG X aA H' s'.heap a C p->E (.ref C) p H'->X.xe (.ref a) s'
def Vj(F:ZC X.prog X.w X.K X.mg X.base (qG X.prog X.w) k f fd ps sp)(hr:XB k X.A)(hg:Gl X x)(hm:X.mg x=some (.ref f))(hk:xF X.K (.ref f)=true)(hb:aAn X.K fd ps [])
  (ha:PA X (e::es) t) (VF:(x==("__debug__":bA))=false) (he:zB (e::es) X.env=(false,eval e X.env)::zB es X.env) (yD:(nD pos (zB es X.env)).any (·.1)=false) :
  PE X (.Call (.Name x p) (e::es) [] pos) (n0a X sp t):=by
 intro aA s Y H Q I h;refine yO (tL I hg hm ?_ VF);refine zO (h₀:=X.base) I.ok.mod.kin hk (RA (ha pos aA s Y H _ I h) λus s1 ⟨vs,H1,I1,r,E,q,hx⟩=>⟨I1.wC, ?_⟩) he yD;exact Nl F hr hb I1 r q hx
def aXa(M:Mk X.K C f)(F:ZC X.prog X.w X.K X.mg X.base (qG X.prog X.w) k f fd ps sp)(hr:XB (k+1) X.A)(hb:aAn X.K fd ps [])(I:cA X aA Y H s)(r:aAe vs us)
  (h:∀x dx,H x=none->H dx=none->dx≠x->sp (.ref x::vs) (sA (sA H dx (.own x)) x (.ins C dx [])) (λ_ _=>False) E) (hx:∀aA a C p H' s',cA X aA Y H' s'->GG X aA H' s'.heap a C p->E (.ref C) p H'->X.xe (.ref a) s') :
  wA (model X.prog X.w) X.A (call (.ref C) us) (EP X aA Y Q) X.xe s:=by
 have hq:=h (s.heap.objs.size+1) s.heap.objs.size (I.IA.fresh (LO _)) (I.IA.fresh (JB _)) (kE (zK _));have I2:=cA.made (C:=C) I;have r2:aAe (V.ref (s.heap.objs.size+1)::vs) (Value.ref (s.heap.objs.size+1)::us):=.cons rfl r
 have hl:(Value.ref (s.heap.objs.size+1)::us++[]).length=ps.length:=by(have e:=r2.length;rw[F.len _ _ _ _ hq] at e;rw[jI];exact e.symm)
 have DF:=hb _ (Value.ref (s.heap.objs.size+1)::us) I2.wC hl;rw[jI] at DF;refine MO (Qi I.wC M.makes M.init (vD.mp M.fn) (KL (F.run _ X.stack _ _ ⟨Value.ref (s.heap.objs.size+1)::us,[]⟩ (Value.ref (s.heap.objs.size+1)::us) _ _ E (hr.make C us []) (I2.kH.make C us []) DF r2 hq) λr s' YF=>?_))
 cases r with
 |error e =>
  obtain⟨a,C',p,H',rfl,I',F',e'⟩:=Yd I2 YF;exact hx _ a C' p H' s' I' F' e'
 |ok fl =>
  cases fl with
  |ret u =>
   obtain⟨v,H',I3,rv,z⟩:=I2.after YF;exact z.elim
  |next=>exact pE YF
  |brk=>exact pE YF
  |cont=>exact pE YF
def tRa(M:Mk X.K C f)(F:ZC X.prog X.w X.K X.mg X.base (qG X.prog X.w) k f fd ps sp)(hr:XB (k+1) X.A)(hg:Gl X x)(hm:X.mg x=some (.ref C))(hb:aAn X.K fd ps [])
  (ha:PA X (e::es) t) (VF:(x==("__debug__":bA))=false) (he:zB (e::es) X.env=(false,eval e X.env)::zB es X.env) (yD:(nD pos (zB es X.env)).any (·.1)=false) :
  PE X (.Call (.Name x p) (e::es) [] pos) (λY H Q=>t Y H λvs H1=>∃E,(∀y dx,H1 y=none->H1 dx=none->dx≠y->sp (.ref y::vs) (sA (sA H1 dx (.own y)) y (.ins C dx [])) (λ_ _=>False) E)/\∀aA a C p H' s',cA X aA Y H' s'->GG X aA H' s'.heap a C p->E (.ref C) p H'->X.xe (.ref a) s'):=by
 intro aA s Y H Q I h;refine yO (tL I hg hm ?_ VF);refine zO (h₀:=X.base) I.ok.mod.kin M.kp (RA (ha pos aA s Y H _ I h) λus s1 ⟨vs,H1,I1,r,E,q,hx⟩=>⟨I1.wC, ?_⟩) he yD;exact aXa M F hr hb I1 r q hx
def wRa(he:PE X o ta)(c:UE X.K C)(hm:Meth X.K C m f)(F:ZC X.prog X.w X.K X.mg X.base (qG X.prog X.w) k f fd ps sp)(hr:XB k X.A)(hb:aAn X.K fd ps [])(ha:PA X (e::es) t)
  (RH:zB (e::es) X.env=(false,eval e X.env)::zB es X.env) (yD:(nD pos (zB es X.env)).any (·.1)=false)
  (ht:eval (.Call (.Attribute o m NA) (e::es) [] pos) X.env=(do
   let ov <- eval o X.env
   standAt NA.atName
   let (f,first) <- holding [ov] (getMethod ov m pl)
   callWith pos f first (nD pos (zB (e::es) X.env)) (backToKw pos (keywordEach [] X.env)))) :
  PE X (.Call (.Attribute o m NA) (e::es) [] pos) (λY H Q=>ta Y H λx H1=>∃a dx fs,x=.ref a/\H1 a=some (.ins C dx fs)/\fs.lookup m=none /\
   t Y H1 λvs H2=>∃E,sp (x::vs) H2 Q E/\∀aA a C p H' s',cA X aA Y H' s'->GG X aA H' s'.heap a C p->E (.ref C) p H'->X.xe (.ref a) s'):=by
 intro aA s Y H Q I h;refine aa (RA (he aA s Y H _ I h) λu s1 hz=>?_) ht;obtain⟨x,H1,I1,rx,a,dx,fs,ex,ea,l,q⟩:=hz;subst ex;obtain rfl:u=Value.ref a:=rx;refine j4 I1 ea c hm l ?_;refine zO (first:=[.ref a]) (h₀:=X.base) I.ok.mod.kin hm.kp (RA (ha pos aA s1 Y H1 _ I1 q) λus s2 ⟨vs,H2,I2,r,E,q2,hx⟩=>⟨I2.wC, ?_⟩) RH yD;exact Nl (us:=.ref a::us) (vs:=.ref a::vs) F hr hb I2 (.cons rfl r) q2 hx
end
abbrev RJ:List dA:=[.type "ValueError",.type "Exception",.type "BaseException",.type "object"]
def FG(K:fA)(C:eA)(i:Option dA):Prop:=∃(tl:List dA) (N:eA),(∀v,dH K C v=some ((Value.ref C::tl).contains v)) /\
  ∀{h:HB},K.In h->∃(nm qn:bA) (bs:List dA) (hd:Bool) (sn:List bA) (sub:List dA) (ab:Bool) (col:Option Bool) (dd:Option eA) (k0 k1 k2 k3 k5:Option dA),
   h.get? C=some (excClassObj nm qn C N bs tl hd sn sub ab col dd k0 k1 k2 k3 k5 "ValueError.__new__")/\h.Ns N (h.nsMap N)/\h.nsMap N "__init__"=i/\HU h RJ tl
def Ie{K:fA}(q:Gb K C RJ "ValueError.__new__"=true):FG K C none:=by
 unfold Gb at q;split at q
 ·rename_i dd cd sl lk;rcases e1:cd.mro with _ | ⟨m0,tl⟩<;>rw[e1] at q
  ·cases q
  cases m0<;>try (cases q;done)
  rename_i C'
  rcases e2:sl.toList with _ | ⟨k0,_ | ⟨k1,_ | ⟨k2,_ | ⟨k3,_ | ⟨_ | n',_ | ⟨k5,_ | ⟨k6,r⟩⟩⟩⟩⟩⟩⟩<;>rw[e2] at q<;>try (cases q;done)
  all_goals (cases n'<;>try (cases q;done))
  rename_i n'
  try dsimp only at q
  rw[qA,qA,qA,qA,qA] at q;obtain⟨⟨⟨⟨⟨q1,q2⟩,q3⟩,q4⟩,q5⟩,q6⟩:=q;have q1:=vD.mp q1;have q2:=vD.mp q2;have q6:=vD.mp q6;subst q1 q2;refine⟨tl,cd.ns,λv=>?_,λ{h} X=>?_⟩
  ·unfold dH Hb;rw[lk];simp only[oE];rw[e1,vB (by simp)]
  ·refine⟨cd.name,cd.qualname,cd.bases,cd.hasDict,cd.slotNames,cd.subclasses,cd.abstract,cd.collection,dd,k0,k1,k2,k3,k5, ?_,.of_isNs (Ia X q5),PySem.W.nsMap_none_of_in X q5 q6,Pq X q4⟩;rw[X _ _ lk];have e3:sl=#[k0,k1,k2,k3,some (.builtin "ValueError.__new__"),k5]:=MQ.mp e2;rw[e3];obtain⟨c1,c2,c3,c4,c5,c6,c7,c8,c9,xw,yw⟩:=cd;simp only[kU] at q3;simp only at e1;subst e1 q3;rfl
 ·cases q
noncomputable def J2(K:fA)(C:eA)(iV:dA):Bool:=match K.lookup C with
 |some o=>(match o.data,o.slots.toList with
  |.cls cd,[_,_,_,_,some n,_]=>o.cls==.type "type" && cd.mro.head? == some (.ref C)&&n==.builtin "ValueError.__new__" && !cd.hasDel&&PySem.W.tailIn K RJ cd.mro.tail&&PySem.W.nsOkIn K cd.ns&&fB K cd.ns "__init__" == some (some iV)
  |_,_=>false)
 |none=>false
def yMa{K:fA}(X:K.In h)(G:h.Ns N mg)(e:fB K N n=some (some v)):mg n=some v:=by
 obtain⟨o,es,ep,ho,hd,_,hf⟩:=G;unfold fB at e;split at e
 ·rename_i c d KR n' sl q
  have:=X _ _ q
  rw[ho] at this;cases this;cases hd;split at e
  ·rename_i he;cases e;rw[<- hf];unfold nsFind findBy;rw[<- Ga,he];rfl
  ·split at e<;>cases e
 ·cases e
def Je{K:fA}(q:J2 K C iV=true):FG K C (some iV):=by
 unfold J2 at q;split at q
 ·rename_i o lk;obtain⟨oc,od,Fj,sl⟩:=o
  cases Fj<;>try (exact Bool.noConfusion (show false=true from q))
  rename_i cd;dsimp only at q
  rcases e2:sl.toList with _ | ⟨k0,_ | ⟨k1,_ | ⟨k2,_ | ⟨k3,_ | ⟨_ | n,_ | ⟨k5,_ | ⟨k6,r⟩⟩⟩⟩⟩⟩⟩<;>rw[e2] at q<;>try (cases q;done)
  try dsimp only at q
  rw[qA,qA,qA,qA,qA,qA] at q;obtain⟨⟨⟨⟨⟨⟨q0,q1⟩,q2⟩,q3⟩,q4⟩,q5⟩,q6⟩:=q;have q0:=vD.mp q0;have q1:=vD.mp q1;have q2:=vD.mp q2;have q6:=vD.mp q6;subst q0 q2
  obtain⟨tl,hm⟩:∃tl,cd.mro=.ref C::tl:=by
   cases q:cd.mro with
   |nil=>rw[q] at q1;cases q1
   |cons v tl=>rw[q] at q1;cases q1;exact⟨tl,rfl⟩
  rw[hm] at q4;have e3:sl=#[k0,k1,k2,k3,some (.builtin "ValueError.__new__"),k5]:=MQ.mp e2;subst e3;refine⟨tl,cd.ns,λv=>?_,λ{h} X=>?_⟩
  ·unfold dH Hb;rw[lk];simp only[oE];rw[hm,vB (by simp)]
  ·refine⟨cd.name,cd.qualname,cd.bases,cd.hasDict,cd.slotNames,cd.subclasses,cd.abstract,cd.collection,od,k0,k1,k2,k3,k5, ?_,.of_isNs (Ia X q5),yMa X (.of_isNs (Ia X q5)) q6,Pq X q4⟩;rw[X _ _ lk];obtain⟨c1,c2,c3,c4,c5,c6,c7,c8,c9,xw,yw⟩:=cd;simp only[kU] at q3;simp only at hm;subst hm q3;rfl
 ·cases q
section
variable{X:Cx}{aA:List (eA×rB)}{Y:L2.St}{H:Hp}{s:zA}{h':HB}{a C:eA}
def b1a(X:Cx)(C:eA)(t:TA):TS:=λ_ Y H=>t Y H λvs H1=>vs.length<=sizeLine/\∀aA a s',cA X aA Y H1 s'->GG X aA H1 s'.heap a C (none,true)->X.xe (.ref a) s'
def vTa(hh:X.A.handled=none)(hg:Gl X x)(hm:X.mg x=some (.ref C))(q:FG X.K C none)(ha:PA X (e::es) t)
  (VF:(x==("__debug__":bA))=false) (he:zB (e::es) X.env=(false,eval e X.env)::zB es X.env) (yD:(nD aB (zB es X.env)).any (·.1)=false) :
  PS X (.Raise (some (.Call (.Name x np) (e::es) [] aB)) none pos) (b1a X C t):=by
 intro aA s Y H D I h;obtain⟨tl,N,_,k⟩:=q;obtain⟨nm,qn,bs,hd,sn,sub,ab,col,dd,k0,k1,k2,k3,k5,hC,hN,QP,T⟩:=k I.ok.mod.kin
 refine wpAny_Raise_call_subT (nm:=nm) (q:=qn) (N:=N) (bs:=bs) (bm:=tl) (hdct:=hd) (sn:=sn) (sub:=sub) (ab:=ab) (col:=col) (dd:=dd) (k0:=k0) (k1:=k1) (k2:=k2) (k3:=k3) (k5:=k5)
  NO (mN:=X.base.nsMap N) (T.hasType NO.hasBase) hh (by rw[he];unfold nD at *;rw[pD,AK,yD];rfl) QP (tL I hg hm ⟨rfl, ?_⟩ VF)
 have h2:=ha aB aA s Y H _ I h;rw[he] at h2 ⊢;refine Calls.evalArgs_plain (DE h2 (λus s2 h3=>?_) λ_ _ y=>y);obtain⟨vs,H1,I1,r,hl,hx⟩:=h3;refine⟨rfl,by rw[<- r.length];exact hl,I1.bk _ _ hC,hN.keeps I1.bk,T.keeps I1.bk,λh' e hM=>?_⟩;obtain⟨t0,FP,_,_⟩:=hM.there;have I2:cA X aA Y H1 { s2 with heap:=h' }:=I1.kept (t':=s2.toks) hM.keeps;exact hx aA e _ I2 ⟨yN I1 hM.new (dW I1 hM.new),.inl ⟨_,_,_,FP,⟨rfl,rfl⟩,rfl,⟨rfl,λ_=>rfl⟩,rfl⟩⟩
def h_{K:fA}(X:K.In s.heap)(qC:FG K C i)(qD:FG K D j)
  (hm:dH K C (.ref D)=some true) (he:s.heap.get? a=some oe) (hc:oe.cls=.ref C) (h:Q true s):wA M A (excMatches (.ref a) (.ref D)) Q E s:=by
 obtain⟨tl,N,m1,k⟩:=qC;obtain⟨nm,qn,bs,hd,sn,sub,ab,col,dd,k0,k1,k2,k3,k5,hC,hN,QP,T⟩:=k X;obtain⟨tl',N',m1',k'⟩:=qD;obtain⟨nm',qn',lV,vI,sn',d6a,ab',b4a,dd',k0',k1',k2',k3',k5',hD,hN',t4a,T'⟩:=k' X;have b1:(Value.ref C::tl).contains (.ref D)=true:=wF ((m1 _).symm.trans hm);have b2:(Value.ref D::tl').contains (.type "BaseException")=true:=by rw[IQ,T'.hasType (X:="BaseException") (b:=true) (by decide)];rfl
 obtain⟨hp,g,d,tk,os⟩:=s;have f:=tc_notTuple;unfold excMatches
 repeat (first | (with_reducible refine FL he ?_;rw[hc]) | with_reducible refine FL hD ?_ | (with_reducible refine fU hC ?_;rw[b1]) | (with_reducible refine fU hD ?_;rw[b2]) | wp_step)
 exact h
def l6(I:cA X aA Y H s)(fa:uC X aA H a)(ok:XE X.prog X.w (sA H a o) s.heap a o):cA X aA Y (sA H a o) s:=by
 have ne:∀{b:eA} {u:HO},H b=some u->b≠a:=λq=>dF q fa.1
 have e1:∀{b:eA} {u:HO},H b=some u->sA H a o b=some u:=λq=>by rw[dB (ne q)];exact q
 have e0:∀{b:eA},b≠a->H b=none->sA H a o b=none:=λn q=>by rw[dB n];exact q
 refine⟨I.ok,I.os,I.bare,⟨I.base.keep,I.base.slot,λb ob e n hx=>e0 (λz=>?_) (I.base.free b ob e n hx),I.base.there,λb xs e=>e1 (I.base.wJ b xs e),λb ob u e=>e1 (I.base.tI b ob u e),λb ps e=>?_⟩,I.loc,I.cell,e0 (KD fa.2.1) I.free,
  λx c e=>e0 (fa.2.2.2.2.1 x c e) (I.aF x c e),λp hp=>?_,λb u e=>?_,I.len⟩
 ·rcases fa.2.2.2.1 with w | w
  ·exact hx (z ▸ w)
  ·rw[z,w] at e;cases e
 ·obtain⟨more,z⟩:=I.base.uJ b ps e;exact⟨more,e1 z⟩
 ·obtain⟨h1,h2,h3⟩:=I.pin p hp;exact⟨h1,e0 (fa.2.2.2.2.2 p hp) h2,h3⟩
 ·by_cases hb:b=a
  ·subst hb;rw[eC] at e;cases e;exact ok
  ·rw[dB hb] at e;exact(I.IA b u e).sJ (λ_ _ _ q=>q) (λ_ q=>e1 q) λ_ _ q=>e1 q
def eAa(I:cA X aA Y H s)(hN:X.N.Nodup)(hi:X.N[i]?=some x)(hx:X.env.kindOf x=some .local)
  (h:∀s',cA X aA (Y.set i none) H s'->Q () s'):wA M A (do bindName X.env x .none;unbindBehindTheSuite X.env x pos) Q E s:=by
 obtain⟨m,hn,hl⟩:=id I.loc;refine wpAny_nameGoes_keeps hx hn (by rw[I.ok.kind];rfl) λh' v NP sb=>h _ ?_
 obtain⟨oL,es,ep,Tf,_⟩:=id hn;have N7:∀b ob,X.s₀.heap.get? b=some ob->b≠X.env.locals:=λb ob e=>kE (iE (rC e) I.ok.above)
 have kp:∀{b:eA} {ob:rB},b≠X.env.locals->s.heap.get? b=some ob->h'.get? b=some ob:=λn e=>(sb.2 _ n).trans e
 refine⟨I.ok,I.os,I.bare,⟨λb ob e n h1 h2=>kp (N7 b ob e) (I.base.keep b ob e n h1 h2),λb ob e n h1 h2=>?_,I.base.free,λb ob e h2=>?_,I.base.wJ,I.base.tI,I.base.uJ⟩,⟨_,NP,λj y w e1 e2 e3=>?_⟩,λy c e=>?_,I.free,I.aF,λp hp=>?_,λb u e=>?_,by rw[kF];exact I.len⟩
 ·obtain⟨sl,z⟩:=I.base.slot b ob e n h1 h2;exact⟨sl,kp (N7 b ob e) z⟩
 ·obtain⟨o',z⟩:=I.base.there b ob e h2;exact⟨o',kp (N7 b ob e) z⟩
 ·by_cases hj:j=i
  ·subst hj;by_cases TC:j<Y.length
   ·rw[gI TC] at e2;cases e2
   ·rw[sO (by rw[kF];lia)] at e2;cases e2
  ·rw[gE (KD hj)] at e2;obtain⟨u,r,lk⟩:=hl j y w e1 e2 e3;refine⟨u,r, ?_⟩;rcases lk with ⟨k1,k2⟩ | ⟨k1,c,k2,oc,k3,k4⟩
   ·refine .inl ⟨k1, ?_⟩;have ny:y≠x:=λz=>hj (d8 hN e1 (z ▸ hi))
    simp[ny,k2]
   ·exact .inr ⟨k1,c,k2,oc,kp (I.SK y c k2) k3,k4⟩
 ·obtain⟨w,oc,k3,k4⟩:=I.cell y c e;exact⟨w,oc,kp (I.SK y c e) k3,k4⟩
 ·obtain⟨k1,k2,k3,k4⟩:=I.pin p hp;exact⟨kp k3 k1,k2,k3,k4⟩
 ·have nl:∀c w,H c=some w->c≠X.env.locals:=λc w z z'=>by rw[z',I.free] at z;cases z
  refine(I.IA b u e).sJ (λc w hc q=>kp ?_ q) (λ_ q=>q) λ_ _ q=>q
  rcases hc with rfl | hc
  ·exact nl _ u e
  ·exact nl c _ hc
end
end CI
namespace CI
open PySem PySem.Spec PySem.Calls PyProof.Rows L2 PySem.W PySem.Builtin PySem.Builtin.ObjectAttr PySem.Builtin.Getset_descriptor
def FH(a C:eA)(p:Option eA)(h:HB):Prop:=∃oe vs,h.get? a=some oe/\(oe.cls=.ref C/\oe.dict=p)/\oe.data=.fields vs
def FH.ty(x:FH a C p h):cR M h (typeOf (.ref a)) (.ref C):=by
 obtain⟨oe,vs,e,c,_⟩:=x;rw[<- c.1];exact(Looks.ld e).andThen .now
structure lE(K:fA)(C:eA):Prop where
 q:∃i,FG K C i
 ga:findIn K (.ref C) "__getattribute__"=some (some (.builtin "BaseException.__getattribute__"))
 no:findIn K (.ref C) "__getattr__"=some none
 cl:findIn K (.ref C) "__class__"=some (some (.builtin "object.__class__"))
 gt:specialIn K (.builtin "object.__class__") "__get__"=some (some (.builtin "getset_descriptor.__get__"))
 tk:takesIn K (.builtin "object.__class__")=some true
 mo:mroIn K C (.type "object")=some true
 mb:mroIn K C (.type "BaseException")=some true
 mv:mroIn K C (.type "ValueError")=some true
section
variable{K:fA}
def m_(X:K.In s.heap)(G:lE K C)(x:FH a C p s.heap)(h:R (.ok (.ret (.ref C))) s) :
  BJ (model prog w) A (.call (.builtin "getset_descriptor.__get__") ⟨[.builtin "object.__class__",.ref a,tp],[]⟩) R s:=by
 obtain⟨hh,g,dr,t,os⟩:=s;have L0:=x.ty (M:=model prog w);have L1:=eZ (M:=model prog w) X G.mo;refine cU KF.slot_gs.plain KF.entry_gs (KF.slot_gs.check _ _ _ _ _ _ _ _ KF.type_class (KF.args_gs _ _ _) ?_);unfold Builtin.«getset_descriptor.__get__»;unfold descrGet;rw[dga_obj];refine BA (GB ?_);unfold descrGetter;unfold descrCheckInstance;unfold descrNameAndClass;unfold isInstance;simp only[KF.owner_class]
 repeat lk
 refine⟨IY _ (by left),codeAny_builtin KF.entry_class ?_⟩;unfold Builtin.«object.__class__»;unfold shownTypeOf
 repeat lk
 exact h
def l_(X:K.In h)(G:lE K C):cR M h (find (.ref a) (.ref C) "__class__") (.bind (.builtin "getset_descriptor.__get__") (.builtin "object.__class__")):=by
 have L3:=looks_takesIn (M:=M) X G.tk;refine(vU X G.cl).andThen ((looks_specialIn X G.gt).andThen ?_);exact(show cR M h (dataDescriptor? (some (.builtin "object.__class__")) (some (.builtin "getset_descriptor.__get__"))) (some (.builtin "getset_descriptor.__get__",.builtin "object.__class__")) from L3.andThen .now).andThen (Looks.tag .now)
def k_(X:K.In s.heap)(G:lE K C)(x:FH a C p s.heap)(h:Q (.done (.ret (.ref C))) s) :
  wA (model prog w) A (Builtin.«object.__getattribute__» ⟨[.ref a,.str "__class__" tk],[]⟩) Q E s:=by
 obtain⟨hh,g,dr,t,os⟩:=s;have L0:=x.ty (M:=model prog w);have L1:=l_ (M:=model prog w) (a:=a) X G
 repeat (any_goals (first | assumption | with_reducible refine Looks.at (by assumption) ?_ | wp_step))
 refine m_ X G x ?_
 repeat (any_goals (first | assumption | wp_step))
def i_(X:K.In s.heap)(G:lE K C)(x:FH a C p s.heap)(h:Q () s):wA (model prog w) A (checkBuiltinCall "BaseException.__getattribute__" ⟨[.ref a,v],[]⟩) Q E s:=by
 obtain⟨hh,g,dr,t,os⟩:=s;have L0:=x.ty (M:=model prog w);have L3:=eZ (M:=model prog w) X G.mb;have z:=PySem.F.args_bexc_ga (.ref a) v;simp only[checkBuiltinCall,show builtinKind "BaseException.__getattribute__"=some .slot from by left,show splitId "BaseException.__getattribute__"=some ("BaseException","__getattribute__") from by left];refine BA ?_;unfold isInstance
 repeat (any_goals (first | assumption | with_reducible refine Looks.at (by assumption) ?_ | wp_step))
def j_(X:K.In s.heap)(G:lE K C)(x:FH a C p s.heap)(h:Q (some (.ref C)) { s with toks:=s.toks+1 }):wA (model prog w) A (getAttr? (.ref a) "__class__") Q E s:=by
 obtain⟨hh,g,dr,t,os⟩:=s;have L0:=x.ty (M:=model prog w);have L1:=vU (M:=model prog w) X G.ga;have L2:=vU (M:=model prog w) X G.no;have L3:=eZ (M:=model prog w) X G.mb;have f3:=PySem.F.excAttr_ValueError.ga.bind (.ref a);unfold getAttr? getAttrBy? getAttrBy;refine BA (wpAny_mkText (BA (Ib (HL (BA (L0.at (BA (L1.at ?_))))))));have n1:(onTheHeap (Value.ref C)&&Value.builtin "BaseException.__getattribute__" == Value.builtin "object.__getattribute__")=false:=by rw[show(Value.builtin "BaseException.__getattribute__" == Value.builtin "object.__getattribute__")=false from by left,sU]
 dsimp only;rw[vB (by rw[n1];exact EJ)];unfold getAttrByItsOwn
 repeat (any_goals (first | assumption | with_reducible refine Looks.at (by assumption) ?_ | wp_step))
 refine cU PySem.F.attr_ValueError.ga.plain PySem.F.entry_bexc_ga (i_ (s:=⟨hh,g,dr,t+1,os⟩) X G x (k_ (s:=⟨hh,g,dr,t+1,os⟩) X G x ?_))
 repeat (any_goals (first | assumption | wp_step))
def v7(G:lE K C):KitX K (.ref a) (.ref C) (FH a C p) where
 ty:=λ_ _ _ x=>x.ty
 it:=λ_ _ X _=>by(obtain⟨_,tl,N,_,k⟩:=G.q;obtain⟨nm,qn,bs,hd,sn,sub,ab,col,dd,k0,k1,k2,k3,k5,hC,_⟩:=k X;intro A' Q' E' s' k' q;unfold isType loadHead;exact BA (vb (k' _ _ hC) (GB q)))
 ne:=λh tp dd gA n sl X jg=>by
  obtain⟨_,tl,N,_,k⟩:=G.q;obtain⟨nm,qn,bs,hd,sn,sub,ab,col,dd,k0,k1,k2,k3,k5,hC,_⟩:=k X;refine Bool.eq_false_iff.mpr λq=>?_
  have e:C=tp:=Sr (vD.mp q);subst e;rw[hC] at jg;have z:=congrArg Obj.data (wF jg);cases z
 ca:=λX x k=>j_ X G x k
def vIa(G:lE K C):kitOne K (.ref C) (.type "ValueError")=some true:=by
 unfold kitOne kitCls;rw[vB (by simp)];show(if kitMeta "ValueError"=true then subIn K (.ref C) (.type "ValueError") else none)=some true;rw[FA (by left)];exact G.mv
def uIa(e:GO K C D=true):kitOne K (.ref C) (.ref D)=some false:=by
 unfold GO at e;rw[qA,qA,qA] at e;obtain⟨⟨⟨e0,e1⟩,e2⟩,e3⟩:=e;unfold kitOne kitCls;rw[vB (λz=>TM e0 (Sr (vD.mp z)))];show(if((clsIn K D).isSome&&typeIn K (.ref D)==some (.type "type"))=true then subIn K (.ref C) (.ref D) else none)=some false;rw[FA (by rw[e1,e2];rfl)];exact vD.mp e3
def tIa(e:isIn K (.ref C) D=true):kitOne K (.ref C) (.ref D)=some true:=by
 unfold isIn at e;unfold kitOne kitCls;by_cases h:(Value.ref C==Value.ref D)=true
 ·rw[FA h]
 ·rw[vB h];rw[RI] at e;rcases e with e | e
  ·exact absurd e h
  ·rw[qA,qA,qA] at e;obtain⟨⟨⟨e1,e2⟩,_⟩,e3⟩:=e;show(if((clsIn K D).isSome&&typeIn K (.ref D)==some (.type "type"))=true then subIn K (.ref C) (.ref D) else none)=some true;rw[FA (by rw[e1,e2];rfl)];exact vD.mp e3
end
end CI
namespace CI
open PySem PySem.Spec PyProof.Rows L2
section
variable{prog:nE}{w:VC}{A:JF}{E:dA->zA->Prop}{h:HB}{g:Array GenState}{d:Drawn}{t:Nat}{os:OsState}
variable{nm q:bA}{C N:eA}{bs bm oN:List dA}{hdct:Bool}{sn:List bA}{sub:List dA}{ab:Bool}{col:Option Bool}{dd:Option eA}{k0 k1 k2 k3 k5:Option dA}{B Bn newId nid d6 inN:String}{aw:List dA}
def n1a(Fn:Pb Bn newId inN aw)(xf:oN.contains (.type Bn)=true)(F:Pb B nid d6 oN)(T:HU h oN bm){aAj:List dA}
  (hC:h.get? C=some (excClassObj nm q C N bs bm hdct sn sub ab col dd k0 k1 k2 k3 k5 newId)) (hn:h.Ns N mN) (hi:mN "__init__"=some (.ref fI)) (S4:h.get? fI=some oI) (T4:oI.cls=.type "function") (hrest:aAj.length<=sizeLine)
  (hq:∀h' e,xb h h' e (.ref C) aAj->wA (model prog w) A (call (.ref fI) (.ref e::aAj)) (λr s'=>r=.none/\Q (.done (.ret (.ref e))) s') E ⟨h',g,d,t,os⟩) :
  wA (model prog w) A (Builtin.«type.__call__» ⟨.ref C::aAj,[]⟩) Q E ⟨h,g,d,t,os⟩:=by
 repeat (first | with_reducible refine FL hC ?_ | with_reducible refine wpAny_madeBy_exc hC ?_ | wp_step)
 refine codeAny_call_builtin_code (IY _ Fn.quiet) (wpAny_check_new_subU Fn xf T hC (codeAny_exc_new_subU Fn xf F T hC ?_ hrest));show wA _ _ _ _ _ _;generalize hh:(h.push { cls:=.type "tuple",data:=.seq aAj.toArray }).push { cls:=.ref C,data:=.fields #[.ref h.objs.size,.none,.none,.none,.bool false,.none] }=h1;have kp:∀b o,h.get? b=some o->h1.get? b=some o:=λb o z=>by rw[<- hh];exact NC _ (NC _ z)
 have uW:h1.get? (h.objs.size+1)=some { cls:=.ref C,data:=.fields #[.ref h.objs.size,.none,.none,.none,.bool false,.none] }:=by rw[<- hh];heap_get
 have hcC:(Value.ref C::bm).contains (.ref C)=true:=by simp
 have yf:=kp _ _ hC;have u5:h1.Ns N mN:=let ⟨o,es,ep,e,r⟩:=hn;⟨o,es,ep,kp _ _ e,r⟩
 have T1:HU h1 oN bm:=T.keeps kp;unfold isInstance
 repeat (first | with_reducible refine FL uW ?_ | (with_reducible refine fU yf ?_;rw[hcC]) | wp_step)
 show wA _ _ (typeLookup (.ref C) _) _ _ _;refine wpAny_typeLookup_tail yf u5 T1 F.mroIs F.init.lookup ?_;rw[hi];refine HL (BA ?_);unfold bindSpecial;refine BA (wpAny_typeOf (T:="function") ⟨_,kp _ _ S4,T4⟩ ?_);rw[FA (by decide)];refine GB (BA (DE (hq h1 (h.objs.size+1) ⟨kp,vO (LO _),h.objs.size,uW,vO (JB _), ?_⟩) (λr s' hr=>?_) λ_ _ x=>x))
 ·rw[<- hh];exact NC _ (ar rfl rfl)
 ·obtain⟨rfl,hQ⟩:=hr
  wp_walk
  exact hQ
end
section
open PySem.W PySem.Builtin PySem.Builtin.ObjectAttr
variable{prog:nE}{w:VC}{A:JF}{E:dA->zA->Prop}{s:zA}{K:fA}{x C:eA}
noncomputable def QT:List dA->Bool
 |.ref _::r=>QT r
 |l=>l==RJ
theorem ml(self:dA):∀{l:List dA},QT l=true->refuseLoop self "__setattr__" l=pure ()
 |.ref c::r,e=>by rw[refuseLoop_ref];exact ml self (l:=r) e
 |[],e=>by cases e
 |.type n::r,e=>by rw[show(.type n::r:List dA)=RJ from vD.mp e];exact PySem.F.store_ValueError.passes self
 |.none::r,e | .bool _::r,e | .int _ _::r,e | .str _ _::r,e | .bytes _ _::r,e | .float _ _::r,e | .builtin _::r,e=>by cases (show(_:List dA)=RJ from vD.mp e)
theorem Pp:∀{l:List dA},QT l=true->l.contains (.type "object")=true
 |.ref c::r,e=>by rw[IQ,Pp (l:=r) e,Qb]
 |[],e=>by cases e
 |.type n::r,e=>by rw[show(.type n::r:List dA)=RJ from vD.mp e];decide
 |.none::r,e | .bool _::r,e | .int _ _::r,e | .str _ _::r,e | .bytes _ _::r,e | .float _ _::r,e | .builtin _::r,e=>by cases (show(_:List dA)=RJ from vD.mp e)
structure JK(K:fA)(C:eA)(f:bA):Prop where
 ov:(clsIn K C).any (λcd=>QT cd.mro&&cd.hasDict)=true
 sa:findIn K (.ref C) "__setattr__"=some (some (.builtin "object.__setattr__"))
 na:findIn K (.ref C) f=some none
def cRa(X:K.In s.heap)(S:JK K C f)(hx:s.heap.get? x=some ox)(hc:ox.cls=.ref C)(hn:ox.dict=none)(hd:ox.data=.fields vs)
  (h:∀h' tk,h'.get? x=some { ox with dict:=some s.heap.objs.size }->h'.Ns1 s.heap.objs.size (λy=>if y=f then some v else none)->(∀b o,b≠x->s.heap.get? b=some o->h'.get? b=some o)->R (.ok (.ret .none)) { s with heap:=h',toks:=tk }) :
  BJ (model prog w) A (.call (.builtin "object.__setattr__") ⟨[.ref x,.str f tk,v],[]⟩) R s:=by
 have I:InstAt s.heap x ox C none:=⟨hx,hc,by unfold notCls;rw[hd],by rw[hn];trivial⟩
 have SF:=PySem.F.store_object;obtain⟨cd,QG,ho⟩:=any_some S.ov;rw[qA] at ho;obtain⟨ho,hhd⟩:=ho
 have ne:cd.mro.isEmpty=false:=by cases q:cd.mro with | nil=>rw[q] at ho;cases ho | cons _ _=>rfl
 have sub:cR (model prog w) s.heap (isInstance (.ref x) (.type "object")) true:=I.type.andThen (eZ X (by unfold mroIn;rw[QG,oE,vB (by rw[ne];decide),Pp ho]));refine cU SF.slot.plain SF.entry (@check_slot (model prog w) _ _ s "object.__setattr__" "object" "__setattr__" (.ref x) [.str f tk,v] [] _ SF.kind SF.split sub (SF.args (.ref x) (.str f tk) v) ?_);have hm:cR (model prog w) s.heap (mroOf (.ref C)) cd.mro:=(Ab X QG).andThen .now;rw[osa_eq,refuse_eq];refine BA (BA (I.type.here (BA (hm.here ?_))));rw[ml _ ho];refine GB (BA (I.type.here (BA ((vU X S.na).here (BA ((show cR (model prog w) s.heap (storeTaker? none) none from .now).here ?_))))));have hx₁:(s.heap.push { cls:=.type "dict",data:=.dict #[] }).get? x=some ox:=NC _ hx;have nL:x≠s.heap.objs.size:=kE (rC hx);show wA _ _ (storeInOwnDict (.ref x) (.ref C) (.str f tk) f v _) _ _ s;obtain⟨oc,odi,Ej,yE⟩:=ox;dsimp only at hc hn hd;subst hc hn hd;refine BA (GB (BA (BA (vb hx (BA ((Ab X QG).here ?_))))));rw[hhd]
 have hgd:((s.heap.push { cls:=.type "dict",data:=.dict #[] }).update x λo=>{ cls:=o.cls,dict:=some s.heap.objs.size,data:=o.data,slots:=o.slots }).get? s.heap.objs.size=some { cls:=.type "dict",data:=.dict #[] } :=
  (Iq _ _ _ _ nL.symm).trans (ar rfl rfl)
 have lL:((s.heap.push { cls:=.type "dict",data:=.dict #[] }).update x λo=>{ cls:=o.cls,dict:=some s.heap.objs.size,data:=o.data,slots:=o.slots }).Ns s.heap.objs.size (λ_=>none) :=
  ⟨_,#[],_,hgd,rfl,λe he=>absurd he (by simp),λ_=>rfl⟩
 refine BA (wpAny_alloc' (BA (wpAny_update' hx₁ (GB ?_))));show wA _ _ (storeInDict s.heap.objs.size (.str f tk) f v) _ _ _;refine BA (GB (BA (wpAny_nsSet1 (Yq lL) λh' NP hs=>?_)));obtain⟨oD,Py,xy,C5,P4,O4⟩:=NP.count (Lr f v Within.nil);refine BA (wpAny_lookBehind C5 (by rw[P4];exact pastItsLine_dict (lD O4 (by rw[fC,RY,ML];lia))) ?_);refine GB (h h' _ ?_ NP λb o hb e=>?_)
 ·exact(hs.2 x nL).trans (bU _ hx₁ rfl)
 ·exact(hs.2 b (kE (rC e))).trans ((Iq _ _ _ _ hb).trans (NC _ e))
def g3a(X:K.In s.heap)(S:JK K C f)(hx:s.heap.get? x=some ox)(hc:ox.cls=.ref C)(hn:ox.dict=none)(hd:ox.data=.fields vs)
  (h:∀h' tk,h'.get? x=some { ox with dict:=some s.heap.objs.size }->h'.Ns1 s.heap.objs.size (λy=>if y=f then some v else none)->(∀b o,b≠x->s.heap.get? b=some o->h'.get? b=some o)->Q () { s with heap:=h',toks:=tk }) :
  wA (model prog w) A (setAttr (.ref x) f v) Q E s:=by
 have I:InstAt s.heap x ox C none:=⟨hx,hc,by unfold notCls;rw[hd],by rw[hn];trivial⟩
 exact Rr X I S.sa (cRa (s:={ s with toks:=s.toks+1 }) X S hx hc hn hd λh' tk k1 k2 k3=>h h' tk k1 k2 k3)
end
section
variable{prog:nE}{w:VC}{A:JF}{E:dA->zA->Prop}{h:HB}{g:Array GenState}{d:Drawn}{t:Nat}{os:OsState}
variable{nm q:bA}{C N:eA}{bs bm:List dA}{hdct:Bool}{sn:List bA}{sub:List dA}{ab:Bool}{col:Option Bool}{dd:Option eA}{k0 k1 k2 k3 k5:Option dA}
def d3a(T:HU h RJ bm){aAj:List dA}
  (hC:h.get? C=some (excClassObj nm q C N bs bm hdct sn sub ab col dd k0 k1 k2 k3 k5 "ValueError.__new__")) (hn:h.Ns N mN) (hi:mN "__init__"=some (.ref fI)) (S4:h.get? fI=some oI) (T4:oI.cls=.type "function") (hrest:aAj.length<=sizeLine)
  (hq:∀h' e,xb h h' e (.ref C) aAj->wA (model prog w) (A.under (.builtin "type.__call__" ⟨.ref C::aAj,[]⟩)) (call (.ref fI) (.ref e::aAj)) (λr s'=>r=.none/\Q (.ref e) s') E ⟨h',g,d,t,os⟩) :
  wA (model prog w) A (call (.ref C) aAj) Q E ⟨h,g,d,t,os⟩:=by
 have f1:=tc_lookup;have f2:=tc_bind (.ref C);have hT:(⟨h,g,d,t,os⟩:zA).TypeIs (.ref C) "type":=⟨_,hC,rfl⟩
 refine MO (codeAny_of_tree ?_);show wA _ _ (callAny (.ref C) _) _ _ _
 repeat (any_goals (first | assumption | with_reducible refine FL hC ?_ | wp_step))
 refine⟨rfl, ?_⟩;refine codeAny_call_builtin_at (IY _ (by left)) entry_typeCall (wpAny_check_type_call_sub hC (n1a NO (by decide) NO T hC hn hi S4 T4 hrest λh' e hm=>?_));exact hq h' e hm
def e3a(fL:bm.contains (.type "BaseException")=true)(hh:A.handled=none)
  (hx:wA M A x (λv s₁=>∃e p,v=.ref e/\s₁.heap.get? C=some (excClassObj nm q C N bs bm hdct sn sub ab col dd k0 k1 k2 k3 k5 "ValueError.__new__")/\uR s₁.heap e C p/\E (.ref e) s₁) E s) :
  wA M A (raiseStmt env (some x) none) Q E s:=by
 have N4:(Value.ref C::bm).contains (.type "BaseException")=true:=by rw[IQ,fL,Qb]
 unfold raiseStmt;refine BA (DE hx (λv s₁ h₁=>?_) λ_ _ x=>x);obtain⟨e,p,rfl,hC,⟨oe,vs,a0,he,⟨hc,hp⟩,hd,h0,h1⟩,hE⟩:=h₁;obtain⟨hpp,g,d,tk,os⟩:=s₁;obtain⟨oc,od,Fj,sl⟩:=oe;dsimp only at hc hp hd;subst hc hp hd
 repeat (first | with_reducible refine FL he ?_ | with_reducible refine FL hC ?_ | (with_reducible refine fU hC ?_;rw[N4]) | wp_step)
 rw[h1];refine GB ?_;rw[vB (by decide)];exact GB (wpAny_raiseNew_none hh hE)
end
section
variable{X:Cx}{aA:List (eA×rB)}{Y:L2.St}{H:Hp}{s:zA}{a C:eA}
abbrev eG(a C:eA)(p:PX):HO:=.ext λh=>uR h a C p
def Si{P:nE}{w:VC}{H':Hp}{h:HB}{p:PX}(x:uR h a C p):XE P w H' h a (eG a C p):=by
 refine⟨x, ?_,λh1 h2 x k=>?_⟩
 ·obtain⟨oe,_,_,e,_⟩:=x;exact⟨oe,e⟩
 ·obtain⟨oe,vs,a0,e,r⟩:=x;exact⟨oe,vs,a0,k _ e,r⟩
def k2a(h:b≠a):sA (sA H a o) b u=sA (sA H b u) a o:=by
 funext c
 by_cases h1:c=b
 ·subst h1;rw[eC,dB h,eC]
 ·rw[dB h1];by_cases h2:c=a
  ·subst h2;rw[eC,eC]
  ·rw[dB h2,dB h2,dB h1]
def qDa(I:cA X aA Y (sA H a (.ext φ)) s)(fa:uC X aA H a):cA X aA Y H s:=by
 have dn:∀{b:eA} {u:HO},H b=some u->sA H a (.ext φ) b=some u:=λq=>by rw[dB (dF q fa.1)];exact q
 have up:∀{b:eA} {u:HO},sA H a (.ext φ) b=some u->(∀ ψ,u≠.ext ψ)->H b=some u:=λ{b u} q n=>by
  by_cases hb:b=a
  ·subst hb;rw[eC] at q;cases q;exact absurd rfl (n φ)
  ·rwa[dB hb] at q
 have no:∀{b:eA},sA H a (.ext φ) b=none->H b=none:=λ{b} q=>by
  by_cases hb:b=a
  ·subst hb;rw[eC] at q;cases q
  ·rwa[dB hb] at q
 refine⟨I.ok,I.os,I.bare,⟨I.base.keep,I.base.slot,λb ob e n hx=>no (I.base.free b ob e n hx),I.base.there,λb xs e=>up (I.base.wJ b xs e) (λ_ z=>nomatch z),λb ob u e=>up (I.base.tI b ob u e) (λ_ z=>nomatch z),λb ps e=>?_⟩,I.loc,I.cell,no I.free,
  λx c e=>no (I.aF x c e),λp hp=>?_,λb u e=>?_,I.len⟩
 ·obtain⟨more,z⟩:=I.base.uJ b ps e;exact⟨more,up z (λ_ z=>nomatch z)⟩
 ·obtain⟨h1,h2,h3⟩:=I.pin p hp;exact⟨h1,no h2,h3⟩
 ·exact(I.IA b u (dn e)).sJ (λ_ _ _ q=>q) (λ_ q=>up q (λ_ z=>nomatch z)) λ_ _ q=>up q (λ_ z=>nomatch z)
noncomputable def sXF(K:fA)(ta tv:TE)(f:bA):TS:=λD Y H=>tv Y H λy H1=>ta Y H1 λx H2=>∃a C,x=.ref a/\H2 a=some (eG a C (none,true))/\JK K C f/\∀dx,H2 dx=none->D.nx Y (sA (sA H2 a (eG a C (some dx,true))) dx (.xd [(f,y)]))
def lUa(ha:PE X o ta)(hv:PE X value tv)(hs:swapsWith value (some (.Attribute o f pos')) pos.line X.env=pure false):PS X (.Assign [.Attribute o f pos'] value pos) (sXF X.K ta tv f):=by
 intro aA s Y H D I h;refine gq (RA (hv aA s Y H _ I h) λu s1 ⟨y,H1,I1,ry,q⟩=>RA (ha aA s1 Y H1 _ I1 q) λov s2 hz=>?_) hs;obtain⟨x,H2,I2,rx,a,C,ex,ea,S,q2⟩:=hz;subst ex;obtain rfl:ov=Value.ref a:=rx;obtain⟨⟨oe,vs,a0,he,⟨hc,hp⟩,hd,h0,h1⟩,_,_⟩:=(show XE X.prog X.w H2 s2.heap a (eG a C (none,true)) from I2.IA a _ ea)
 refine g3a I2.wC S he hc hp hd λh' tk k1 k2 k3=>?_
 have nd:H2 s2.heap.objs.size=none:=I2.IA.fresh (JB _);have ne:s2.heap.objs.size≠a:=yU (rC he);have J:=I2.write (x:=a) (e:=a) (o:=eG a C (some s2.heap.objs.size,true)) (t':=tk) (by rw[ea];exact True.intro) (.inl rfl) k3 ⟨_,k1⟩ (Si ⟨_,vs,a0,k1,⟨hc,rfl⟩,hd,h0,h1⟩);have nd':sA H2 a (eG a C (some s2.heap.objs.size,true)) s2.heap.objs.size=none:=by rw[dB ne];exact nd
 refine⟨Y,_,l6 (o:=.xd [(f,y)]) J (yN I2 (vO (JB _)) nd') ⟨_,k2,λg=>?_⟩,q2 _ nd⟩;by_cases q:g=f
 ·subst q;show lI (CG g [(g,y)]) (if g=g then some u else none);rw[FA rfl];simp only[CG,WC];exact ry
 ·show lI (CG g [(f,y)]) (if g=f then some u else none);rw[vB q];have hb:(g==f)=false:=DJ.mpr q;simp only[CG,hb];exact True.intro
noncomputable def V8(K:fA)(f:bA):Sp:=λvs H Q _=>∃a C y,vs=[.ref a,y]/\H a=some (eG a C (none,true))/\JK K C f/\∀dx,H dx=none->Q .rA (sA (sA H a (eG a C (some dx,true))) dx (.xd [(f,y)]))
def zWa(q:FG X.K C (some (.ref f)))(S:JK X.K C fl)(F:ZC X.prog X.w X.K X.mg X.base SE k f fd ps (V8 X.K fl))(hr:XB (k+1) X.A)(hb:aAn X.K fd ps [])
  (hf:WY X.K (.ref f)=some (.type "function")) (I:cA X aA Y H s) (ry:aAf y u)
  (h:∀a dx s',H dx=none->cA X aA Y (sA H dx (.xd [(fl,y)])) s'->uC X aA (sA H dx (.xd [(fl,y)])) a->uR s'.heap a C (some dx,true)->Q (.ref a) s'):wA (model X.prog X.w) X.A (call (.ref C) [u]) Q X.xe s:=by
 obtain⟨tl,N,_,kk⟩:=q;obtain⟨nm,qn,bs,hd,sn,sub,ab,col,dd,k0,k1,k2,k3,k5,hC,hN,hi,T⟩:=kk I.wC;obtain⟨oI,ho,zW⟩:=GK.mp hf;obtain⟨hh,g,d,t,os⟩:=s;refine d3a T hC hN hi (I.wC _ _ ho) zW (by rw[ML];simp) λh' e hM=>?_
 obtain⟨t0,FP,_,_⟩:=hM.there;have I2:cA X aA Y H ⟨h',g,d,t,os⟩:=I.kept (t':=t) hM.keeps;have fe:uC X aA H e:=yN I hM.new (dW I hM.new);have I3:=l6 (o:=eG e C (none,true)) I2 fe (Si ⟨_,_,_,FP,⟨rfl,rfl⟩,rfl,⟨rfl,λ_=>rfl⟩,rfl⟩)
 have hl:([Value.ref e,u]:List dA).length=ps.length:=by
  have:=F.len [.ref e,y] (sA H e (eG e C (none,true))) (λ_ _=>True) (λ_ _ _=>True) ⟨e,C,y,rfl,eC,S,λ_ _=>trivial⟩
  exact this
 have DF:=hb ⟨h',g,d,t,os⟩ [Value.ref e,u] I3.wC (by rw[jI];exact hl);rw[jI] at DF
 refine MO (KL (F.run _ X.stack _ _ ⟨[Value.ref e,u],[]⟩ [Value.ref e,u] [.ref e,y] (λv H2=>v=.rA/\∃dx,sA H e (eG e C (none,true)) dx=none/\H2=sA (sA (sA H e (eG e C (none,true))) e (eG e C (some dx,true))) dx (.xd [(fl,y)])) (λ_ _ _=>False) (hr.make C [u] [])
  (I3.kH.make C [u] []) DF (.cons rfl (.cons ry .nil)) ⟨e,C,y,rfl,eC,S,λdx wI=>⟨rfl,dx,wI,rfl⟩⟩) λr s' YF=>?_)
 cases r with
 |error e=>exact pE YF
 |ok E_ =>
  cases E_ with
  |ret v0 =>
   obtain⟨v,H',I4,rv,ev,dx,wI,rfl⟩:=I3.after YF;subst ev;obtain rfl:v0=Value.none:=rv;have V7:dx≠e:=λz=>by rw[z,eC] at wI;cases wI
   rw[dB V7] at wI
   have e1:sA (sA (sA H e (eG e C (none,true))) e (eG e C (some dx,true))) dx (.xd [(fl,y)])=sA (sA H dx (.xd [(fl,y)])) e (eG e C (some dx,true)):=by(rw[F9,k2a V7])
   rw[e1] at I4;have Me:uC X aA (sA H dx (.xd [(fl,y)])) e:=⟨by rw[dB (KD V7)];exact fe.1,fe.2⟩
   obtain⟨md,_,_⟩:=(show XE X.prog X.w _ s'.heap e (eG e C (some dx,true)) from I4.IA e _ eC)
   exact⟨rfl,h e dx s' wI (qDa I4 Me) Me md⟩
  |next=>exact pE YF
  |brk=>exact pE YF
  |cont=>exact pE YF
def xc(X:Cx)(C:eA)(fl:bA):Prop:=∃(f:eA) (fd:gF) (ps:List bA),FG X.K C (some (.ref f))/\JK X.K C fl/\ZC X.prog X.w X.K X.mg X.base SE 1 f fd ps (V8 X.K fl)/\aAn X.K fd ps []/\WY X.K (.ref f)=some (.type "function")/\xF X.K (.ref C)=true
noncomputable def d1a(X:Cx)(C:eA)(fl:bA)(t:TA):TS:=λ_ Y H=>t Y H λvs H1=>∃y,vs=[y]/\∀aA a dx s',H1 dx=none->cA X aA Y (sA H1 dx (.xd [(fl,y)])) s'->GG X aA (sA H1 dx (.xd [(fl,y)])) s'.heap a C (some dx,true)->X.xe (.ref a) s'
def wTa(hh:X.A.handled=none)(hr:XB 2 X.A)(hg:Gl X x)(hm:X.mg x=some (.ref C))(M:xc X C fl)(ha:PA X (e::es) t)
  (VF:(x==("__debug__":bA))=false) (he:zB (e::es) X.env=(false,eval e X.env)::zB es X.env) (yD:(nD aB (zB es X.env)).any (·.1)=false) :
  PS X (.Raise (some (.Call (.Name x np) (e::es) [] aB)) none pos) (d1a X C fl t):=by
 intro aA s Y H D I h;obtain⟨f,fd,ps,q,S,F,hb,hf,kp⟩:=M;obtain⟨tl,N,_,kk⟩:=id q;obtain⟨nm,qn,bs,hd,sn,sub,ab,col,dd,k0,k1,k2,k3,k5,hC,hN,hi,T⟩:=kk I.ok.mod.kin;rw[arm_exec_Raise];refine BA (IL (e3a (C:=C) (nm:=nm) (q:=qn) (N:=N) (bs:=bs) (bm:=tl) (hdct:=hd) (sn:=sn) (sub:=sub) (ab:=ab) (col:=col) (dd:=dd) (k0:=k0) (k1:=k1) (k2:=k2) (k3:=k3) (k5:=k5) (T.hasType NO.hasBase) hh ?_));refine BA (DE (br (tL I hg hm ?_ VF)) (λv s₃ h₃=>BA (IL (GB h₃))) λ_ _ x=>x);refine zO (h₀:=X.base) I.ok.mod.kin kp (RA (ha aB aA s Y H _ I h) λus s1 ⟨vs,H1,I1,r,y,hv,k⟩=>⟨I1.wC, ?_⟩) he yD;subst hv
 cases r with
 |cons ry r0 =>
  cases r0 with
  |nil=>exact zWa q S F hr hb hf I1 ry λa dx s' wI I' fa md=>⟨a,_,rfl,I'.bk _ _ hC,md,k aA a dx s' wI I' ⟨fa,.inl md⟩⟩
end
end CI
namespace L2
open PySem PySem.Spec PyProof.Rows
section
variable{prog:nE}{w:VC}{A:JF}{E:dA->zA->Prop}{s:zA}
def vy:entryFor table "proto.unchain"=some Builtin.«proto.unchain»:=entryFor_of_fast (by kernel_rfl)
def a3a{a:eA}{o:rB}{vs:Array dA}{i:Nat}{v:dA}{Q:Unit->zA->Prop}(ho:s.heap.get? a=some o)(hd:o.data=.fields vs)(hi:i<vs.size)(h:Q () { s with heap:=s.heap.update a (EO (·.setIfInBounds i v)) }):wA (model prog w) A (updateField a i v) Q E s:=by
 unfold updateField;refine BA (wpAny_load ho ?_);rw[hd];dsimp only;rw[FA hi];exact wpAny_update ho h
def tVa{O:Type}{e h:eA}{oh oe:rB}{fh fe:Array dA}{Q:O->zA->Prop}(hh:A.handled=some (.ref h))(ne:h≠e)(eh:s.heap.get? h=some oh)(dh:oh.data=.fields fh)(ch:fh[2]?=some .none)(ee:s.heap.get? e=some oe)(de:oe.data=.fields fe)(z:2<fe.size)
  (q:E (.ref e) { s with heap:=s.heap.update e (EO (·.setIfInBounds 2 (.ref h))) }):wA (model prog w) A (raiseNew (.ref e):Sem O) Q E s:=by
 unfold raiseNew;refine BA (wpAny_handled ?_);rw[hh];dsimp only
 have hb:(Value.ref h != Value.ref e)=true:=by(rw[bne_iff_ne];exact λz=>ne (by cases z;rfl))
 rw[FA hb];refine BA (HL (runValue_entry vy ?_));unfold Builtin.«proto.unchain»;refine BA (ZG eh dh ch ?_);refine GB ⟨_,rfl, ?_⟩;exact BA (a3a ee de z (wpAny_throw q))
variable{nm q:bA}{C N:eA}{bs bm:List dA}{hdct:Bool}{sn:List bA}{sub:List dA}{ab:Bool}{col:Option Bool}{dd:Option eA}{k0 k1 k2 k3 k5:Option dA}{B newId d6:String}{oN:List dA}{env:DK}{hx:eA}
def dc(h:HB)(a:eA):Prop:=∃o vs,h.get? a=some o/\o.data=.fields vs/\vs[2]?=some .none
abbrev pV(h:HB)(e a:eA):HB:=h.update e (EO (·.setIfInBounds 2 (.ref a)))
def uVa{x:Sem dA}{Q:Flow->zA->Prop}(fL:bm.contains (.type "BaseException")=true)(hh:A.handled=some (.ref hx))
  (h:wA (model prog w) A x (λv s₁=>∃e t,v=.ref e/\s₁.heap.get? C=some (excClassObj nm q C N bs bm hdct sn sub ab col dd k0 k1 k2 k3 k5 newId) /\
   s₁.heap.get? e=some { cls:=.ref C,data:=.fields #[.ref t,.none,.none,.none,.bool false,.none] }/\dc s₁.heap hx/\hx≠e/\E (.ref e) { s₁ with heap:=pV s₁.heap e hx }) E s) :
  wA (model prog w) A (raiseStmt env (some x) none) Q E s:=by
 have N4:(Value.ref C::bm).contains (.type "BaseException")=true:=by rw[IQ,fL,Qb]
 unfold raiseStmt;refine BA (DE h (λv s₁ h₁=>?_) λ_ _ x=>x);obtain⟨e,t,rfl,hC,he,⟨o,vs,b1,b2,b3⟩,ne,hE⟩:=h₁;obtain⟨hp,g,d,tk,os⟩:=s₁
 repeat (first | with_reducible refine FL he ?_ | with_reducible refine FL hC ?_ | (with_reducible refine fU hC ?_;rw[N4]) | wp_step)
 exact tVa hh ne b1 b2 b3 he rfl (show 2<6 by decide) hE
def vVa(F:Pb B newId d6 oN){mN:bA->Option dA}{x:bA}{np aB pos:BC}{args:List vA}{Q:Flow->zA->Prop}
  (fL:bm.contains (.type "BaseException")=true) (hh:A.handled=some (.ref hx)) (K5:(nD aB (zB args env)).any (·.1)=false) (QP:mN "__init__"=none)
  (h:wA (model prog w) A (eval (.Name x np) env) (λf s₁=>f=.ref C/\wA (model prog w) A (evalArgs (.ref C) true (nD aB (zB args env)) [])
   (λa s₂=>a.kw=[]/\a.pos.length<=sizeLine/\s₂.heap.get? C=some (excClassObj nm q C N bs bm hdct sn sub ab col dd k0 k1 k2 k3 k5 newId)/\s₂.heap.Ns N mN/\HU s₂.heap oN bm/\dc s₂.heap hx /\
    ∀h' e,xb s₂.heap h' e (.ref C) a.pos->E (.ref e) { s₂ with heap:=pV h' e hx }) E s₁) E s) :
  wA (model prog w) A (exec (.Raise (some (.Call (.Name x np) args [] aB)) none pos) env) Q E s:=by
 rw[arm_exec_Raise];refine BA (IL (uVa (C:=C) (nm:=nm) (q:=q) (N:=N) (bs:=bs) (bm:=bm) (hdct:=hdct) (sn:=sn) (sub:=sub) (ab:=ab) (col:=col) (dd:=dd) (k0:=k0) (k1:=k1) (k2:=k2) (k3:=k3) (k5:=k5) (newId:=newId) fL hh ?_));refine BA (DE (br (DE h (λf s₁ h₁=>?_) λ_ _ x=>x)) (λv s₃ h₃=>BA (IL (GB h₃))) λ_ _ x=>x);obtain⟨rfl,h₁⟩:=h₁;unfold callWith;refine BA (HL (DE h₁ (λa s₂ h₂=>BA (IL ?_)) λ_ _ x=>x));obtain⟨NA,Hu⟩:=a;obtain⟨hkw,cC,hC,hn,T,⟨o,vs,b1,b2,b3⟩,h₂⟩:=h₂;obtain rfl:Hu=[]:=hkw;obtain⟨hp,g,d,tk,os⟩:=s₂;simp only[K5];refine BA (wpAny_keeperOf_exc hC ?_);refine BA (wpAny_call_exc_subT (hrest:=cC) F T hC hn QP λh' e hm=>BA (HL (wpAny_point (GB ?_))));obtain⟨t,ht,_,_⟩:=hm.there;exact⟨e,t,rfl,hm.keeps _ _ hC,ht,⟨o,vs,hm.keeps _ _ b1,b2,b3⟩,(λz=>by rw[z] at b1;rw[hm.new] at b1;cases b1),h₂ h' e hm⟩
end
end L2
namespace CI
open PySem PySem.Spec PyProof.Rows L2
section
variable{X:Cx}{aA:List (eA×rB)}{Y:L2.St}{H:Hp}{s:zA}{C hx:eA}
noncomputable def c1a(X:Cx)(C:eA)(t:TA):TS:=λ_ Y H=>t Y H λvs H1=>vs.length<=sizeLine/\∀aA a s',cA X aA Y H1 s'->GG X aA H1 s'.heap a C (none,false)->X.xe (.ref a) s'
def sVa{x:bA}{np aB pos:BC}{e:vA}{es:List vA}{t:TA}{D:Ends}{oh:rB}{fh:Array dA}{Q:Flow->zA->Prop}(hh:X.A.handled=some (.ref hx))(hg:Gl X x)(hm:X.mg x=some (.ref C))(q:FG X.K C none)(ha:PA X (e::es) t)
  (VF:(x==("__debug__":bA))=false) (he:zB (e::es) X.env=(false,eval e X.env)::zB es X.env) (yD:(nD aB (zB es X.env)).any (·.1)=false)
  (I:cA X aA Y H s) (fa:uC X aA H hx) (eh:s.heap.get? hx=some oh) (dh:oh.data=.fields fh) (ch:fh[2]?=some .none) (h:c1a X C t D Y H) :
  wA (model X.prog X.w) X.A (exec (.Raise (some (.Call (.Name x np) (e::es) [] aB)) none pos) X.env) Q X.xe s:=by
 have I0:cA X ((hx,oh)::aA) Y H s:=⟨I.ok,I.os,I.bare,I.base,I.loc,I.cell,I.free,I.aF,λp hp=>by
  rcases iI.mp hp with z | z
  ·exact I.pin p (cN _ z)
  ·rcases eD.mp z with rfl | z
   ·exact⟨eh,fa.1,fa.2.1,fa.2.2.1,λv z=>by rw[dh] at z;cases z⟩
   ·exact I.pin p (CH _ z),I.IA,I.len⟩
 obtain⟨tl,N,_,k⟩:=q;obtain⟨nm,qn,bs,hd,sn,sub,ab,col,dd,k0,k1,k2,k3,k5,hC,hN,QP,T⟩:=k I.ok.mod.kin
 refine vVa (C:=C) (nm:=nm) (q:=qn) (N:=N) (bs:=bs) (bm:=tl) (hdct:=hd) (sn:=sn) (sub:=sub) (ab:=ab) (col:=col) (dd:=dd) (k0:=k0) (k1:=k1) (k2:=k2) (k3:=k3) (k5:=k5)
  NO (mN:=X.base.nsMap N) (T.hasType NO.hasBase) hh (by rw[he];unfold nD at *;rw[pD,AK,yD];rfl) QP (tL I0 hg hm ⟨rfl, ?_⟩ VF)
 have h2:=ha aB ((hx,oh)::aA) s Y H _ I0 h;rw[he] at h2 ⊢;refine Calls.evalArgs_plain (DE h2 (λus s2 h3=>?_) λ_ _ y=>y);obtain⟨vs,H1,I1,r,hl,EN⟩:=h3;have pn:=I1.pin (hx,oh) (CH _ (BE ..));refine⟨rfl,by rw[<- r.length];exact hl,I1.bk _ _ hC,hN.keeps I1.bk,T.keeps I1.bk,⟨oh,fh,pn.1,dh,ch⟩,λh' e hM=>?_⟩;obtain⟨t0,FP,_,_⟩:=hM.there;have I2:cA X ((hx,oh)::aA) Y H1 { s2 with heap:=h' }:=I1.kept (t':=s2.toks) hM.keeps;have fe:uC X ((hx,oh)::aA) H1 e:=yN I1 hM.new (dW I1 hM.new);have other:∀b,b≠e->(pV h' e hx).get? b=h'.get? b:=λb hb=>rO _ _ (KD hb)
 have I3:cA X ((hx,oh)::aA) Y H1 { s2 with heap:=pV h' e hx }:=QW (as:=[e]) (s:={ s2 with heap:=h' }) I2 (λb hb=>by rw[uF.mp hb];exact fe) (λb o z=>by
   have hb:b≠e:=λw=>by rw[w,uO _ (by simp)] at z;cases z
   exact(other b hb).trans (gU _ z)) λb o z nf=>⟨o.slots,by
   have hb:b≠e:=λw=>by rw[w,FP] at z;cases z;exact nf _ rfl
   exact(other b hb).trans z⟩
 exact EN _ e _ I3 ⟨fe,.inl ⟨_,_,_,bU _ FP rfl,⟨rfl,rfl⟩,rfl,⟨rfl,λz=>nomatch z⟩,rfl⟩⟩
end
end CI
namespace L2
open PySem PySem.Spec PyProof.Rows
noncomputable def oZ(x:bA):It:=⟨λi _=>i<x.cps.size,λi H v H'=>H'=H/\∃c,x.cps[i]?=some c/\v=.str ⟨#[c]⟩,λi _=>x.cps.size<=i⟩
def b2a{K:fA}(it:eA)(x:bA)(t:Tok):Turn P w K tg (oZ x) [it] it (λi h=>h.IsStrIter it "str_ascii_iterator" x t i) where
 mem:=uF.mpr rfl
 obj:=λi h st b hb=>by(obtain rfl:=uF.mp hb;obtain⟨o,e,c,d⟩:=st;exact⟨o,e,λv z=>by rw[d] at z;cases z⟩)
 keep:=λi h h' st k=>let ⟨o,ho,r⟩:=st;⟨o,k it (uF.mpr rfl) o ho,r⟩
 item:=by
  intro X hP hw hK hc i aA s Y H E I hf st hg;subst hP hw hK;obtain⟨f0,f1,f2,f3,f4,f5⟩:=hf it (uF.mpr rfl);have hg:i<x.cps.size:=hg;have hx:x.cps[i]?=some x.cps[i]:=Array.getElem?_eq_getElem hg;refine wpAny_pyNext_ascii_item st hx λh' LI sb=>?_
  have I1:cA X aA Y H { s with heap:=h',toks:=s.toks+1 }:=I.turned (λb o hb e=>(sb.2 b hb).trans e) f0 f1 f3 f4 f5;obtain⟨o,e,c,d⟩:=id LI;exact⟨_,rfl,jW (s:={ s with heap:=h',toks:=s.toks+1 }) e c d (by decide) ⟨.str ⟨#[x.cps[i]]⟩,H,I1,⟨_,rfl⟩,⟨rfl,_,hx,rfl⟩,LI,λb hb=>(hf b hb).1⟩⟩
 done:=by(intro X hP hw hK hc i aA s Y H E I hf st hg;subst hP hw hK;obtain⟨f0,f1,f2,f3,f4,f5⟩:=hf it (uF.mpr rfl);have hg:x.cps.size<=i:=hg;exact wpAny_pyNext_ascii_end (I.ok.hd hc) st (Array.getElem?_eq_none hg) λh' eb=>⟨rfl,I.turned (t':=s.toks) (λb o hb e=>eb b o hb e) f0 f1 f3 f4 f5⟩)
 self:=λ_ _ _ _ _ st h=>wpAny_pyIter_striter_ascii st h
section
variable{tg:vA}
def yg(tl:TE):TI:=λY H R=>tl Y H λv H1=>∃x,v=.str x/\x.cps.all (·<128)=true/\R (oZ x) H1
def mSa{tl:TE}(hl:PE X l tl):PI X tg l (yg tl):=by
 intro aA s Y H R I h;refine RA (hl aA s Y H _ I h) λv s1 hz=>?_
 obtain⟨y,H1,I1,r1,q1⟩:=hz;obtain⟨x,rfl,ha,q⟩:=q1;obtain⟨t,rfl⟩:=r1;refine wpAny_pyIter_ascii ha ?_;refine⟨s1.heap.objs.size,[s1.heap.objs.size],_,_,H1,rfl,I1.kept (t':=s1.toks) λb o e=>NC _ e,b2a _ x t,⟨_,EG _ rfl,rfl,rfl⟩,λb hb=>?_,q⟩;obtain rfl:=uF.mp hb;exact I1.qM (JB _) (I1.IA.fresh (JB _))
def Tw:MF X (.type "int") (λxs H Q=>∃x n,xs=[.str x]/\tU x=some n/\x.length<=640/\Q (.int n) H):=by
 intro aA s Y H xs us Q I r h;obtain⟨x,n,rfl,h1,h2,q⟩:=h;obtain⟨u,rfl,t,rfl⟩:=aAA r;exact PySem.W.KIN.call_text h1 h2 ⟨.int n,H,I.tok _,⟨_,rfl⟩,q⟩
def Zw:MF X (.type "str") (λxs H Q=>∃x,xs=[.str x]/\Q (.str x) H):=by
 intro aA s Y H xs us Q I r h;obtain⟨x,rfl,q⟩:=h;obtain⟨u,rfl,t,rfl⟩:=aAA r;exact P.str_of_str ⟨.str x,H,I,⟨_,rfl⟩,q⟩
theorem ip:∀{ts:List bA} {us:List dA},aAe (ts.map V.str) us->∃l:List (bA×Tok),us=strValues l/\l.map (·.1)=ts
 |[],_,h=>by cases h;exact⟨[],rfl,rfl⟩
 |t::ts,_,h=>by
  cases h with
  |cons r rr =>
   obtain⟨k,rfl⟩:=r;obtain⟨l,rfl,rfl⟩:=ip rr;exact⟨(t,k)::l,rfl,rfl⟩
theorem Om:∀l:List (bA×Tok),aAe ((l.map (·.1)).map V.str) (strValues l)
 |[]=>.nil
 | (x,t)::l=>.cons ⟨t,rfl⟩ (Om l)
def aA3(K:fA):V->List V->Hp->VK->Prop:=λx vs H Q=>∃sep p texts,x=.str sep/\vs=[.ref p]/\DB K H p (texts.map V.str)/\GU sep texts=true/\Q (.str (lC sep texts)) H
def dLa:vR X "str.join" (aA3 X.K):=by
 intro aA s Y H x vs v us Q I rx rv h;obtain⟨sep,p,texts,rfl,rfl,hq,IA,q⟩:=h;obtain⟨t,rfl⟩:=rx;obtain⟨u,rfl,ru⟩:=rv.one;cases ru;obtain⟨gA,r',pl,hz⟩:=I.list hq;obtain⟨l,rfl,ht⟩:=ip r';exact SC.join pl.isList ht IA λt' k=>⟨.str _,H,I.kept (t':=k) λb o e=>e,⟨_,rfl⟩,q⟩
def rVa:V->List V->Hp->VK->Prop:=λx vs H Q=>∃y z,x=.str y/\vs=[.str z]/\Q (.bl (BO y z)) H
def fLa:vR X "str.startswith" rVa:=by
 intro aA s Y H x vs v us Q I rx rv h;obtain⟨y,z,rfl,rfl,q⟩:=h;obtain⟨t,rfl⟩:=rx;obtain⟨u,rfl,k,rfl⟩:=rv.one;exact SC.startswith ⟨.bl _,H,I,rfl,q⟩
def qVa:V->List V->Hp->VK->Prop:=λx vs H Q=>∃y z,x=.str y/\vs=[.str z]/\(z.length==0)=false/\y.length<=1000000/\∀l,H l=none->Q (.ref l) (sA H l (.l ((kB y z).map V.str)))
def eLa:vR X "str.split" qVa:=by
 intro aA s Y H v0 vs v us Q I rx rv h;obtain⟨x,y,rfl,rfl,hy,hx,q⟩:=h;obtain⟨t,rfl⟩:=rx;obtain⟨u0,rfl,u,rfl⟩:=rv.one;have hle:=split_le x y;have P5:(1000002:Nat)<=sizeLine:=by decide
 have fin:∀(l:List (bA×Tok)) (tk:Nat),l.map (·.1)=kB x y->EP X aA Y Q (.ref s.heap.objs.size) { s with heap:=s.heap.push { cls:=.type "list",data:=.seq (strValues l).toArray },toks:=tk }:=λl tk e=>by(refine⟨.ref s.heap.objs.size,_,I.laid (t':=tk) (o:=.l ((kB x y).map V.str)) (λb ob z=>NC _ z) (JB _) ?_,rfl,q _ (I.IA.fresh (JB _))⟩;refine⟨by rw[YA];lia,_,0, ?_,EG _ rfl⟩;rw[<- e];exact Om l)
 have sz1:x.length<=sizeLine:=by lia
 cases c1:(decide (x.length<y.length)||decide (Jq x<Jq y)) with
 |true =>
  have e:[(x,t)].map (·.1)=kB x y:=by unfold kB;rw[FA c1];rfl
  exact XQ JY (WQ _ _ _) Na (Ja _ _) (meets_str_split_cannot_occur x y t u c1) (fin [(x,t)] s.toks e)
 |false =>
  cases c2:(HQ x y 0 x.length (x.length+1)).isEmpty with
  |true =>
   have e:[(x,t)].map (·.1)=kB x y:=by unfold kB;rw[c1,c2];rfl
   exact XQ JY (WQ _ _ _) Na (Ja _ _) (meets_str_split_not_found x y t u c1 hy c2) (fin [(x,t)] s.toks e)
  |false =>
   have es:kB x y=sq x (HQ x y 0 x.length (x.length+1)) y.length:=by unfold kB;rw[c1,c2];rfl
   have sz2:(sq x (HQ x y 0 x.length (x.length+1)) y.length).length<=sizeLine:=by rw[<- es];lia
   refine XQ JY (WQ _ _ _) Na (Ja _ _) (meets_str_split_sep x y t u c1 hy c2 sz1 sz2) ?_
   have:=fin (numbered s.toks (kB x y)) (s.toks+(kB x y).length) (numbered_texts _ _)
   rw[es] at this;rw[<- strsFrom_eq] at this;exact this
def oVa:V->Option Int->Option Int->Hp->VK->Prop:=λx lo hi H Q=>∃y,x=.str y/\y.length<=1000000/\Q (.str (RD y lo hi)) H
def aAO(h:FK v o):∃l:Option (Int×Tok),v=partValue l/\o=l.map (·.1):=by
 cases h with
 |none=>exact⟨none,rfl,rfl⟩
 |int i t=>exact⟨some (i,t),rfl,rfl⟩
def nYa:OJ X oVa:=by
 intro aA s Y H x v vl vu lo hi sl Q I rx hs pl pu h;obtain⟨y,rfl,hz,q⟩:=h;obtain⟨t,rfl⟩:=rx;obtain⟨l,rfl,rfl⟩:=aAO pl;obtain⟨u,rfl,rfl⟩:=aAO pu;have P5:(1000000:Nat)<=sizeLine:=by decide
 exact⟨"str",_,F.slot_str_getitem.lookup,WQ _ _ _,wpAny_getItem_str_slice (st:=none) hs rfl (post_val_or_str ⟨lD (Txt.slice_le y _ _) (lD hz P5),λt' k=>⟨.str _,H,I.kept (t':=k) λb o e=>e,⟨_,rfl⟩,q⟩⟩)⟩
def bQa:aC X (AE .Mult) (λx y H Q=>∃i n,x=.str i/\y=.int n/\iZ i n/\Q (.str (NI i n)) H):=by
 intro aA s Y H x y v u Q I rx ry h;obtain⟨i,n,rfl,rfl,hm,q⟩:=h;obtain⟨t,rfl⟩:=rx;obtain⟨t',rfl⟩:=ry;exact SB.mul hm λt' k=>⟨.str _,H,I.kept (t':=k) λb o e=>e,⟨_,rfl⟩,q⟩
end
end L2
namespace CI
open PySem
inductive D where
 |rA
 |bl (b:Bool)
 |int (i:Int)
 |str (x:bA)
 |t (ds:List D)
 |l (ds:List D)
 |ins (c:bA) (ns:List bA) (ds:List D)
 |CB (c:bA) (n:Option Int)
 deriving Inhabited
inductive RV where
 |sh (d:D) | ow (d:D) | od (d:D)
noncomputable def RV.d:RV->D
 |.sh d=>d
 |.ow d=>d
 |.od d=>d
noncomputable def RV.low:RV->RV
 |.od d=>.ow d
 |v=>v
inductive Sl where
 |un | mv | sh (d:D) | ow (d:D) (pin lk:Bool)
noncomputable def Sl.get:Sl->Option D
 |.un=>none
 |.mv=>none
 |.sh d=>some d
 |.ow d _ _=>some d
structure Exc where
 cls:bA
 num:Option Int
inductive Out(O:Type) where
 |ok (a:O) | ex (e:Exc)
abbrev Env:=List Sl
abbrev uA(O:Type):=Option (Out O×Env)
noncomputable def uA.bind(r:uA O)(f:O->Env->uA N):uA N :=
 match r with
 |none=>none
 |some (.ex e,U)=>some (.ex e,U)
 |some (.ok a,U)=>f a U
inductive Hd where
 |slot (i:Nat) | val (v:RV)
noncomputable def Hd.get(h:Hd)(U:Env):Option D :=
 match h with
 |.slot i=>(U[i]?).bind Sl.get
 |.val v=>some v.d
noncomputable def getAll:List Hd->Env->Option (List D)
 |[],_=>some []
 |h::r,U=>(h.get U).bind λd=>(getAll r U).map (d :: ·)
inductive Ty where
 |int | bool | str | list | tuple | dict | cls (c:Nat) | MT
inductive BI where
 |len
 |int
 |list
 |tuple
 |all
 |str
 |sum
 deriving DecidableEq
inductive WE where
 |eE | of | enum (lo:Int) | sig | key | rdn
 deriving DecidableEq
set_option genSizeOf false
set_option genInjectivity false
inductive E where
 |jA
 |xE
 |v (i:Nat)
 |c (d:D)
 |t (es:List E)
 |l (es:List E)
 |EA (op:ZM) (a b:E)
 |neg (a:E)
 |not (a:E)
 |QA (op:BH) (a b:E)
 |ZI (op xC:BH) (a b c:E)
 |and (a b:E)
 |or (a b:E)
 |ite (c a b:E)
 |ix (a i:E)
 |sl (a lo hi:E)
 |rev (a:E)
 |call (f:String) (args:List E)
 |bif (f:BI) (args:List E)
 |ZF (a:E) (ts:List Ty)
 |pL (a:E) (sn:List (List bA×List bA))
 |app (i:Nat) (a:E)
 |ext (i:Nat) (a:E)
 |xSa (i:Nat)
 |CF (i:Nat)
 |eM (a:E)
 |wKa (a:E)
 |zMa (a:E)
 |zG (s:bA) (a:E)
 |bI (i:Nat) (s:bA)
 |qT (i:Nat) (s:bA)
 |fld (a:E) (f:bA)
 |make (c:bA) (ns:List bA) (args:List E)
 |FF (c:bA) (f:String) (args:List E)
 |IT (i:Nat)
 |oS (i:Nat)
 |rM (ks:List bA) (a:E)
 |AN (ks:List bA) (vs:List Int) (a:E)
 |fG (i:Nat) (m:bA) (tb:List (bA×String)) (args:List E)
 |comp (JA:E) (tg:List Nat) (k:WE) (gA:List E) (cond:List E) (imp:List Nat) (nl:Nat)
inductive S where
 |jA
 |pass
 |brk
 |cnt
 |nB (i:Nat) (e:E)
 |cM (is:List Nat) (e:E)
 |set (i:Nat) (k e:E)
 |expr (e:E)
 |ret (e:E)
 |OX
 |eWa (h e:E)
 |DA (c:E) (a b:List S)
 |for (tg:List Nat) (one:Bool) (k:WE) (gA:List E) (body:List S)
 |whl (c:E) (body:List S)
 |ME (c:bA) (args:List E)
 |aO (c:bA) (args:List E)
 |oO (body:List S) (cs:List bA) (i j:Nat)
 |pO (body:List S) (cs:List bA)
 |Xl (i j:Nat) (e c:E)
 |rK (i:Nat) (f:bA) (cs:List bA) (e:E)
set_option genInjectivity true
noncomputable def pC:Nat->D->Bool
 |_,.rA=>true
 |_,.bl _=>true
 |_,.int _=>true
 |_,.str _=>true
 |n+1,.t ds=>ds.all (pC n)
 |n+1,.l ds=>ds.all (pC n)
 |_,_=>false
mutual
noncomputable def qI:D->D->Bool
 |.rA,.rA=>true
 |.bl a,.bl b=>a==b
 |.bl a,.int b=>(if a then 1 else 0)==b
 |.int a,.bl b=>a==(if b then 1 else 0)
 |.int a,.int b=>a==b
 |.str a,.str b=>a==b
 |.t a,.t b=>rN a b
 |.l a,.l b=>rN a b
 |_,_=>false
noncomputable def rN:List D->List D->Bool
 |[],[]=>true
 |a::as,b::bs=>qI a b&&rN as bs
 |_,_=>false
end
noncomputable def cl(p:Prop):Decidable p:=Classical.propDecidable p
noncomputable section
def xK:D->Option Bool
 |.rA=>some false
 |.bl b=>some b
 |.int i=>some (i != 0)
 |.str x=>@ite _ (x.length<=1000000) (cl _) (some ((x.length:Int) != 0)) none
 |.t ds=>some (!ds.isEmpty)
 |.l ds=>some (!ds.isEmpty)
 |_=>none
def yB(n:Nat):Bool:=@decide (n<=1000000) (cl _)
def IB:ZM->D->D->Option RV
 |.Add,.int i,.int j=>some (.sh (.int (i+j)))
 |.Sub,.int i,.int j=>some (.sh (.int (i-j)))
 |.Mult,.int i,.int j=>@ite _ ((-(2 ^ 64)<i/\i<2 ^ 64)\/(-(2 ^ 64)<j/\j<2 ^ 64)) (cl _) (some (.sh (.int (i*j)))) none
 |.FloorDiv,.int i,.int j=>@ite _ (0<j/\j<100000000000000000000000000000000000000000000000000000000000000000000000000000000) (cl _) (some (.sh (.int (i / j)))) none
 |.Mod,.int i,.int j=>@ite _ (0<j) (cl _) (some (.sh (.int (i % j)))) none
 |.Pow,.int i,.int j=>@ite _ (0<=j/\j<=1000/\i.natAbs<2 ^ 64) (cl _) (some (.sh (.int (i ^ j.toNat)))) none
 |.LShift,.int i,.int j=>@ite _ (0<=j/\j<=1000/\i.natAbs<2 ^ 64) (cl _) (some (.sh (.int (i*2 ^ j.toNat)))) none
 |.RShift,.int i,.int j=>@ite _ (0<=j) (cl _) (some (.sh (.int (i / 2 ^ j.toNat)))) none
 |.BitAnd,.int i,.int j=>some (.sh (.int (lU i j)))
 |.BitOr,.int i,.int j=>some (.sh (.int (cH i j)))
 |.Add,.l xs,.l ys=>if yB (xs.length+ys.length) then some (.ow (.l (xs++ys))) else none
 |.Add,.t [],.t ys=>some (.sh (.t ys))
 |.Add,.t (x::xs),.t ys=>if yB (xs.length+1+ys.length) then some (.sh (.t (x::xs++ys))) else none
 |.Add,.str x,.str y=>@ite _ (x.length+y.length<=1000000) (cl _) (some (.sh (.str (x++y)))) none
 |.Mult,.str x,.int n=>@ite _ (iZ x n/\jC (NI x n)=true) (cl _) (some (.sh (.str (NI x n)))) none
 |_,_,_=>none
noncomputable def xD:D->Bool
 |.rA=>true | .bl _=>true | .int _=>true | .str _=>true
 |_=>false
def inD(x:D)(ds:List D):Bool:=ds.any λy=>qI y x
noncomputable def iK:List D->Option (List Int)
 |[]=>some []
 |.int i::r=>(iK r).map (i :: ·)
 |_=>none
def sk1:D->Option L2.yR
 |.t [.int t,.t ds]=>(iK ds).map λns=>(t,ns)
 |_=>none
def jYa(d:D):Option L2.iN:=(sk1 d).map .inl
noncomputable def g8:D->Bool
 |.rA=>true
 |_=>false
noncomputable def n6(b:Bool):D->Option Bool
 |.bl a=>some (a==b)
 |_=>none
def isD(x:D):D->Option Bool
 |.rA=>some (g8 x)
 |.bl b=>n6 b x
 |_=>none
def bFa(x:D):D->Option Bool
 |.rA=>some (!g8 x)
 |_=>none
def mC:BH->D->D->Option Bool
 |.Eq,x,y=>if pC 20 x&&pC 20 y then some (qI x y) else none
 |.NotEq,x,y=>if pC 20 x&&pC 20 y then some (!qI x y) else none
 |.Lt,.int i,.int j=>some (decide (i<j))
 |.LtE,.int i,.int j=>some (decide (i<=j))
 |.Gt,.int i,.int j=>some (decide (j<i))
 |.GtE,.int i,.int j=>some (decide (j<=i))
 |.Is,x,y=>isD x y
 |.IsNot,x,y=>bFa x y
 |.In,x,.t ds=>if xD x&&ds.all xD then some (inD x ds) else none
 |.In,x,.l ds=>if xD x&&ds.all xD then some (inD x ds) else if pC 19 x&&ds.all (pC 19) then some (inD x ds) else none
 |.In,.str x,.str y=>some (!(HQ y x 0 y.length 1).isEmpty)
 |.NotIn,x,.t ds=>if xD x&&ds.all xD then some (!inD x ds) else none
 |.NotIn,x,.l ds=>if xD x&&ds.all xD then some (!inD x ds) else if pC 19 x&&ds.all (pC 19) then some (!inD x ds) else none
 |_,_,_=>none
def WI(ds:List D)(i:Int):Option D:=L2.aD ds i
def zS:D->D->Option D
 |.t ds,.int i=>WI ds i
 |.l ds,.int i=>WI ds i
 |.str x,.int i=>@ite _ (x.length<=1000000) (cl _) ((L2.aD x.cps.toList i).map λc=>.str ⟨#[c]⟩) none
 |_,_=>none
def aAw(ds:List D)(lo hi:Option Int):List D:=(ds.drop (HT.pB ds.length 0 lo)).take (HT.pB ds.length ds.length hi-HT.pB ds.length 0 lo)
noncomputable def HM:Option D->Option (Option Int)
 |none=>some none
 |some (.int i)=>some (some i)
 |_=>none
def iO:D->Option Int->Option Int->Option RV
 |.l ds,lo,hi=>some (.ow (.l (aAw ds lo hi)))
 |.t ds,lo,hi=>if HT.pB ds.length 0 lo=0/\HT.pB ds.length ds.length hi=ds.length then none else some (.sh (.t (aAw ds lo hi)))
 |.str x,lo,hi=>@ite _ (x.length<=1000000/\jC (RD x lo hi)=true) (cl _) (some (.sh (.str (RD x lo hi)))) none
 |_,_,_=>none
noncomputable def hWa:D->Option RV
 |.t ds=>some (.sh (.t ds.reverse))
 |.l ds=>some (.ow (.l ds.reverse))
 |_=>none
noncomputable def jH:List D->Option (List Bool)
 |[]=>some []
 |.bl b::r=>(jH r).map (b :: ·)
 |_=>none
mutual
noncomputable def UC:D->PyData
 |.rA=>.none
 |.bl b=>.bool b
 |.int i=>.int i
 |.str x=>.str x
 |.t ds=>.tuple (vH ds)
 |.l ds=>.list (vH ds)
 |.ins _ _ _=>.none
 |.CB _ _=>.none
noncomputable def vH:List D->List PyData
 |[]=>[]
 |d::ds=>UC d::vH ds
end
def rD:BI->List D->Option RV
 |.len,[.l ds]=>some (.sh (.int ds.length))
 |.len,[.t ds]=>some (.sh (.int ds.length))
 |.len,[.str x]=>@ite _ (x.length<=1000000) (cl _) (some (.sh (.int x.length))) none
 |.int,[.int i]=>some (.sh (.int i))
 |.int,[.bl b]=>some (.sh (.int (if b then 1 else 0)))
 |.int,[.str x]=>@ite _ (x.length<=640) (cl _) ((tU x).map λn=>.sh (.int n)) none
 |.str,[.int i]=>@ite _ (i.natAbs.log2<1920/\jC (kA (toString i))=true) (cl _) (some (.sh (.str (kA (toString i))))) none
 |.str,[.str x]=>some (.sh (.str x))
 |.tuple,[.l ds]=>some (.sh (.t ds))
 |.tuple,[.t ds]=>some (.sh (.t ds))
 |.all,[.l ds]=>(jH ds).map λbs=>.sh (.bl (bs.all id))
 |.sum,[.l ds]=>(iK ds).map λns=>.sh (.int ns.sum)
 |_,_=>none
noncomputable def B6:Ty->D->Option Bool
 |.int,d=>match d with
  |.int _=>some true | .bl _=>some true | .rA=>some false | .str _=>some false | .t _=>some false | .l _=>some false
  |_=>none
 |.bool,d=>match d with
  |.bl _=>some true | .int _=>some false | .rA=>some false | .str _=>some false | .t _=>some false | .l _=>some false
  |_=>none
 |.str,d=>match d with
  |.str _=>some true | .bl _=>some false | .int _=>some false | .rA=>some false | .t _=>some false | .l _=>some false
  |_=>none
 |.list,d=>match d with
  |.l _=>some true | .bl _=>some false | .int _=>some false | .rA=>some false | .t _=>some false | .str _=>some false
  |_=>none
 |.tuple,d=>match d with
  |.t _=>some true | .bl _=>some false | .int _=>some false | .rA=>some false | .l _=>some false | .str _=>some false
  |_=>none
 |.MT,d=>match d with
  |.CB _ _=>some true
  |_=>none
 |_,_=>none
def uS:List Ty->D->Option Bool
 |[],_=>some false
 |t::r,d=>(B6 t d).bind λb=>(uS r d).map λc=>b||c
noncomputable def KN(c:bA):List (List bA×List bA)->Option Bool
 |[]=>some false
 | (s,n)::r=>if s.contains c then some true else if n.contains c then KN c r else none
def C6(sn:List (List bA×List bA)):D->Option RV
 |.CB c _=>(KN c sn).map λb=>.sh (.bl b)
 |_=>none
noncomputable def YZ:D->Option RV
 |.int i=>some (.sh (.int (OO i)))
 |_=>none
def aNa:D->Option RV
 |.l ds=>match iK ds with
  |some is=>@ite _ (is.length<=1000) (cl _) (some (.sh (.int (PyProof.Rows.firstMet (λi=>is.getD i 0) is.length).length))) none
  |none=>none
 |_=>none
noncomputable def Q2:D->bA->Option D
 |.ins _ ns ds,f=>(ns.zip ds).lookup f
 |_,_=>none
noncomputable def oH(c:bA)(ns:List bA)(m:bA)(tb:List (bA×String)):Option String:=if ns.contains m then none else tb.lookup c
noncomputable def aAx(f:bA):List bA->List bA
 |[]=>[f]
 |n::r=>if n=f then n::r else n::aAx f r
noncomputable def UG(f:bA)(d:O):List bA->List O->List O
 |[],_=>[d]
 |n::r,xs=>match xs with
  |[]=>[]
  |x::t=>if n=f then d::t else x::UG f d r t
noncomputable def iW(ks:List bA):D->Option RV
 |.str x=>some (.sh (.bl (!ks.contains x)))
 |_=>none
noncomputable def A4(ks:List bA)(vs:List Int):D->Option RV
 |.str x=>((ks.zip vs).lookup x).map λi=>.sh (.int i)
 |_=>none
def G9:Sl->Option RV
 |.sh (.str x)=>@ite _ (x.length<=1000/\(∀c∈x.cps.toList,97<=c/\c<=122)) (cl _) (some (.sh (.str ⟨x.cps.map (· - 32)⟩))) none
 |_=>none
noncomputable def JW:List D->Option Nat
 |[]=>none
 |.bl true::_=>some 0
 |.bl false::r=>(JW r).map (·+1)
 |_=>none
noncomputable def qd:D->Bool
 |.bl _=>true
 |_=>false
def KW(ds:List D):Option RV:=if ds.length<=1000/\ds.all qd=true then(JW ds).map λ(n:Nat)=>RV.sh (.int (n:Int)) else none
def X5:Sl->Option RV
 |.ow (.l ds) _ _=>KW ds
 |.sh (.l ds)=>KW ds
 |_=>none
def aAg(t:Bool)(r:uA RV):uA RV :=
 match t with
 |false=>r
 |true=>r.bind λv U=>(xK v.d).map λb=>(.ok (.sh (.bl b)),U)
noncomputable def hd(e:E)(r:uA RV)(U:Env):uA Hd :=
 match e with
 |.v i=>if((U[i]?).bind Sl.get).isSome then some (.ok (.slot i),U) else none
 |_=>r.bind λv U'=>some (.ok (.val v.low),U')
noncomputable def r6:E->Bool
 |.xE=>true
 |_=>false
def aAK(e:E)(r:uA RV)(U:Env):uA (Option D) :=
 if r6 e then some (.ok none,U) else r.bind λv U'=>some (.ok (some v.d),U')
noncomputable def eQ(op:ZM)(x:Hd)(d:D):Bool :=
 match op,d with
 |.Mult,.l _=>match x with
  |.val (.ow _)=>true
  |_=>false
 |_,_=>true
noncomputable def mJ(U:Env)(i:Nat):Bool :=
 match U[i]? with
 |some (.ow (.l _) _ _)=>true
 |_=>false
noncomputable def qEa(U:Env)(i:Nat):Bool :=
 match U[i]? with
 |_=>false
noncomputable def nEa(U:Env)(i:Nat):Bool :=
 match U[i]? with
 |_=>false
noncomputable def aAJ(i:Nat)(U:Env):uA RV :=
 match U[i]? with
 |some (.sh d)=>some (.ok (.sh d),U)
 |some (.ow d false false)=>some (.ok (.sh d),U.set i (.sh d))
 |_=>none
noncomputable def done(o:Option RV)(U:Env):uA RV:=o.map λv=>(.ok v,U)
noncomputable def store(i:Nat)(v:RV)(U:Env):Option Env :=
 match U[i]? with
 |none=>none
 |some (.ow _ true _)=>none
 |some (.ow _ _ true)=>none
 |some _=>match v with
  |.sh d=>some (U.set i (.sh d))
  |.ow d=>some (U.set i (.ow d false false))
  |.od _=>none
def aAo:List Nat->List D->Env->Option Env
 |[],[],U=>some U
 |i::is,d::ds,U=>(store i (.sh d) U).bind (aAo is ds)
 |_,_,_=>none
def bB(one:Bool)(tg:List Nat)(d:D)(U:Env):Option Env :=
 match one,tg,d with
 |true,[i],d=>store i (.sh d) U
 |false,is,.t ds=>aAo is ds U
 |_,_,_=>none
abbrev Calls:=String->List Sl->uA RV
noncomputable def UN(U:Env):uA RV->uA RV
 |some (.ok (.sh .rA),.ow (.ins c ns ds) true false::_)=>some (.ok (.ow (.ins c ns ds)),U)
 |_=>none
noncomputable def aAi(aA:List Bool)(hs:List Hd)(U:Env):Option (List Sl×Env) :=
 match aA,hs with
 |[],[]=>some ([],U)
 |p::ps,.val (.sh d)::r=>(aAi ps r U).map λ(as,U')=>(.sh d::as,U')
 |p::ps,.val (.ow d)::r=>(aAi ps r U).map λ(as,U')=>((if p then .ow d true false else .sh d)::as,U')
 |p::ps,.slot i::r =>
  match U[i]? with
  |some (.sh d)=>(aAi ps r U).map λ(as,U')=>(.sh d::as,U')
  |some (.ow d pin lk) =>
   match p with
   |true=>(aAi ps r (U.set i .un)).map λ(as,U')=>(.ow d true lk::as,U')
   |false=>if pin||lk then none else(aAi ps r (U.set i (.sh d))).map λ(as,U')=>(.sh d::as,U')
  |_=>none
 |_,_=>none
noncomputable def aAh(aA:List Bool)(hs:List Hd)(as:List Sl)(U0 U:Env):Option Env :=
 match aA,hs,as with
 |[],[],[]=>some U
 |true::ps,.slot i::r,a::as =>
  match U0[i]?,a with
  |some (.ow _ pin lk),.ow d _ _=>aAh ps r as U0 (U.set i (.ow d pin lk))
  |some (.ow _ _ _),_=>none
  |_,_=>aAh ps r as U0 U
 |_::ps,_::r,_::as=>aAh ps r as U0 U
 |_,_,_=>none
def XC(aA:List Bool)(f:List Sl->uA RV)(hs:List Hd)(U:Env):uA RV :=
 match aAi aA hs U with
 |none=>none
 |some (as,U1) =>
  match f as with
  |none=>none
  |some (o,OA)=>(aAh aA hs OA U U1).map λU'=>(o,U')
noncomputable def gD(lo:Int)(ds:List D):List D:=(KC ds.length).map λ(j:Nat)=>.t [.int (lo+(j:Int)),ds.getD j .rA]
noncomputable def vK(x:bA):List D:=x.cps.toList.map λc=>.str ⟨#[c]⟩
noncomputable def tJ:List D->Option (List bA)
 |[]=>some []
 |.str x::r=>(tJ r).map (x :: ·)
 |_=>none
def Q6(s:bA):D->Option RV
 |.l ds=>match tJ ds with
  |some ts=>@ite _ (GU s ts=true/\jC (lC s ts)=true) (cl _) (some (.sh (.str (lC s ts)))) none
  |none=>none
 |_=>none
def tK(s:bA)(U:Env)(o:Option Sl):uA RV:=match o with
 |some (.sh (.str x))=>@ite _ ((s.length==0)=false/\x.length<=1000000/\(kB x s).all jC=true) (cl _) (some (.ok (.ow (.l ((kB x s).map D.str))),U)) none
 |_=>none
noncomputable def rT(s:bA)(U:Env)(o:Option Sl):uA RV:=match o with
 |some (.sh (.str x))=>some (.ok (.sh (.bl (BO x s))),U)
 |_=>none
def aAb(k:WE)(hs:List Hd)(U:Env):Option (List D×Option Nat) :=
 match k,hs with
 |.eE,[a]=>match a.get U with
  |some (.int n)=>@ite _ (-1000000<=n/\n<=1000000) (cl _) (some ((KC n.toNat).map λ(j:Nat)=>.int (j:Int),none)) none
  |_=>none
 |.eE,[a,b]=>match a.get U,b.get U with
  |some (.int m),some (.int n)=>@ite _ ((-1000000<=m/\m<=1000000)/\(-1000000<=n/\n<=1000000)) (cl _) (some ((KC (n-m).toNat).map λ(j:Nat)=>.int (m+(j:Int)),none)) none
  |_,_=>none
 |.enum lo,[.slot i]=>match U[i]? with
  |some (.ow (.l ds) _ _)=>some (gD lo ds,some i)
  |some (.sh (.l ds))=>some (gD lo ds,none)
  |_=>none
 |.enum lo,[.val v]=>match v.d with
  |.l ds=>some (gD lo ds,none)
  |_=>none
 |.of,[.slot i]=>match U[i]? with
  |some (.ow (.l ds) _ _)=>some (ds,some i)
  |some (.sh (.l ds))=>some (ds,none)
  |some (.sh (.t ds))=>some (ds,none)
  |_=>none
 |.of,[.val v]=>match v.d with
  |.l ds=>some (ds,none)
  |.t ds=>some (ds,none)
  |_=>none
 |.sig,[a]=>match a.get U with
  |some (.str x)=>@ite _ (x.cps.all (·<128)=true/\jC x=true) (cl _) (some (vK x,none)) none
  |_=>none
 |_,_=>none
noncomputable def aAd(o:Option Nat)(U:Env):Env :=
 match o with
 |none=>U
 |some i=>U.set i .un
noncomputable def aAl(o:Option Nat)(U0 U:Env):Option Env :=
 match o with
 |none=>some U
 |some i=>match U[i]?,U0[i]? with
  |some .un,some sl=>some (U.set i sl)
  |_,_=>none
noncomputable def XD(tests:Env->uA RV)(JA:Env->uA RV)(bind:D->Env->Option Env):List D->List D->Env->uA (List D)
 |[],iB,U=>some (.ok iB,U)
 |d::ds,iB,U=>match bind d U with
  |none=>none
  |some U1=>(tests U1).bind λc U2=>match c with
   |.sh (.bl true)=>(JA U2).bind λv U3=>XD tests JA bind ds (iB++[v.d]) U3
   |.sh (.bl false)=>XD tests JA bind ds iB U2
   |_=>none
noncomputable def back:List Sl->Env->List Sl
 |.ow _ _ _::as,b::bs=>b::back as bs
 |a::as,_::bs=>a::back as bs
 |_,_=>[]
noncomputable def oK:Sl->Bool
 |.ow _ p _=>p
 |.sh _=>true
 |_=>false
def pI(tests:Env->uA RV)(JA:Env->uA RV)(bind:D->Env->Option Env)(ds:List D)(nl:Nat)(as:List Sl):uA RV :=
 if as.all oK=true then(XD tests JA bind ds [] (as++FC nl .un)).bind λiB Ui =>
  if yB iB.length then some (.ok (.ow (.l iB)),back as Ui) else none
 else none
def aAq(o:Option Nat)(U1:Env)(v:RV)(U2:Env):uA RV:=(aAl o U1 U2).map λU'=>(.ok v,U')
structure Fn where
 aA:List Bool
 nl:Nat
 body:List S
 rs:Bool
abbrev SA:=String->List Bool
mutual
noncomputable def ev(P:SA)(C:Calls)(t:Bool):E->Env->uA RV
 |.jA,_=>none
 |.xE,_=>none
 |.v i,U=>match t with
  |true=>aAg true (((U[i]?).bind Sl.get).map λd=>(.ok (.sh d),U))
  |false=>aAJ i U
 |.c d,U=>aAg t (some (.ok (.sh d),U))
 |.t es,U=>aAg t ((uD P C es U).bind λds U'=>if yB ds.length then some (.ok (.sh (.t ds)),U') else none)
 |.l es,U=>aAg t ((uD P C es U).bind λds U'=>if yB ds.length then some (.ok (.ow (.l ds)),U') else none)
 |.EA op a b,U=>aAg t ((hd a (ev P C false a U) U).bind λx U1=>(hd b (ev P C false b U1) U1).bind λy U2 =>
   done ((x.get U2).bind λd=>(y.get U2).bind λe=>if eQ op x d then IB op d e else none) U2)
 |.neg a,U=>aAg t ((ev P C false a U).bind λv U1=>match v.d with
  |.int i=>some (.ok (.sh (.int (-i))),U1)
  |_=>none)
 |.not a,U=>match t with
  |true=>(ev P C true a U).bind λv U1=>match v with
   |.sh (.bl b)=>some (.ok (.sh (.bl (!b))),U1)
   |_=>none
  |false=>(hd a (ev P C false a U) U).bind λx U1=>done ((x.get U1).bind λd=>(xK d).map λb=>.sh (.bl (!b))) U1
 |.QA op a b,U=>(hd a (ev P C false a U) U).bind λx U1=>(hd b (ev P C false b U1) U1).bind λy U2 =>
   done ((x.get U2).bind λd=>(y.get U2).bind λe=>(mC op d e).map λb=>.sh (.bl b)) U2
 |.ZI op xC a b c,U=>(hd a (ev P C false a U) U).bind λx U1=>(hd b (ev P C false b U1) U1).bind λy U2 =>
   match (x.get U2).bind λd=>(y.get U2).bind λe=>mC op d e with
   |none=>none
   |some false=>some (.ok (.sh (.bl false)),U2)
   |some true=>(hd c (ev P C false c U2) U2).bind λz U3 =>
    done ((y.get U3).bind λd=>(z.get U3).bind λe=>(mC xC d e).map λb=>.sh (.bl b)) U3
 |.and a b,U=>(ev P C t a U).bind λv U1=>match v with
  |.sh (.bl true)=>ev P C t b U1
  |.sh (.bl false)=>some (.ok (.sh (.bl false)),U1)
  |_=>none
 |.or a b,U=>(ev P C t a U).bind λv U1=>match v with
  |.sh (.bl true)=>some (.ok (.sh (.bl true)),U1)
  |.sh (.bl false)=>ev P C t b U1
  |_=>none
 |.ite c a b,U=>(ev P C true c U).bind λv U1=>match v with
  |.sh (.bl true)=>ev P C t a U1
  |.sh (.bl false)=>ev P C t b U1
  |_=>none
 |.ix a i,U=>aAg t ((hd a (ev P C false a U) U).bind λx U1=>(ev P C false i U1).bind λk U2 =>
   done ((x.get U2).bind λd=>(zS d k.d).map .sh) U2)
 |.sl a lo hi,U=>aAg t ((hd a (ev P C false a U) U).bind λx U1 =>
   (aAK lo (ev P C false lo U1) U1).bind λl U2=>(aAK hi (ev P C false hi U2) U2).bind λh U3 =>
   done ((x.get U3).bind λd=>(HM l).bind λl=>(HM h).bind λh=>iO d l h) U3)
 |.rev a,U=>aAg t ((hd a (ev P C false a U) U).bind λx U1=>done ((x.get U1).bind hWa) U1)
 |.call f es,U=>aAg t ((VB P C es U).bind λhs U1=>XC (P f) (C f) hs U1)
 |.bif f es,U=>aAg t ((VB P C es U).bind λhs U1=>done ((getAll hs U1).bind (rD f)) U1)
 |.ZF a ts,U=>aAg t ((hd a (ev P C false a U) U).bind λx U1 =>
   done ((x.get U1).bind λd=>(uS ts d).map λb=>.sh (.bl b)) U1)
 |.pL a sn,U=>aAg t ((hd a (ev P C false a U) U).bind λx U1=>done ((x.get U1).bind (C6 sn)) U1)
 |.app i a,U=>aAg t (if mJ U i then(ev P C false a U).bind λv U1=>match U1[i]? with
  |some (.ow (.l ds) p false)=>if yB (ds.length+1) then some (.ok (.sh .rA),U1.set i (.ow (.l (ds++[v.d])) p false)) else none
  |_=>none
  else none)
 |.xSa _,_=>none
 |.ext i a,U=>aAg t (if mJ U i then(ev P C false a U).bind λv U1=>match U1[i]?,v with
  |some (.ow (.l ds) p false),.ow (.l es)=>if yB (ds.length+es.length) then some (.ok (.sh .rA),U1.set i (.ow (.l (ds++es)) p false)) else none
  |_,_=>none
  else none)
 |.CF i,U=>aAg t (aAJ i U)
 |.eM a,U=>aAg t ((hd a (ev P C false a U) U).bind λx U1=>done ((x.get U1).bind YZ) U1)
 |.wKa _,_=>none
 |.zG s a,U=>aAg t ((hd a (ev P C false a U) U).bind λx U1=>done ((x.get U1).bind (Q6 s)) U1)
 |.bI i s,U=>aAg t (tK s U U[i]?)
 |.qT i s,U=>aAg t (rT s U U[i]?)
 |.zMa a,U=>aAg t ((hd a (ev P C false a U) U).bind λx U1=>done ((x.get U1).bind aNa) U1)
 |.fld a f,U=>aAg t ((hd a (ev P C false a U) U).bind λx U1=>done ((x.get U1).bind λd=>(Q2 d f).map .sh) U1)
 |.make c ns es,U=>aAg t ((uD P C es U).bind λds U1=>if ds.length=ns.length then some (.ok (.sh (.ins c ns ds)),U1) else none)
 |.FF c f es,U=>aAg t ((uD P C es U).bind λds U1=>if(P f).length=ds.length+1 then UN U1 (C f (.ow (.ins c [] []) true false::ds.map .sh)) else none)
 |.rM ks a,U=>aAg t ((hd a (ev P C false a U) U).bind λx U1=>done ((x.get U1).bind (iW ks)) U1)
 |.AN ks vs a,U=>aAg t ((hd a (ev P C false a U) U).bind λx U1=>done ((x.get U1).bind (A4 ks vs)) U1)
 |.IT i,U=>aAg t (done ((U[i]?).bind G9) U)
 |.oS i,U=>aAg t (done ((U[i]?).bind X5) U)
 |.fG i m tb es,U=>aAg t (match U[i]? with
  |some (.sh (.ins c ns ds))=>(match oH c ns m tb with
   |some f=>(VB P C es U).bind λhs U1=>XC (P f) (C f) (.val (.sh (.ins c ns ds))::hs) U1
   |none=>none)
  |some (.ow (.ins c ns ds) p l)=>(match oH c ns m tb with
   |some f=>(VB P C es U).bind λhs U1=>XC (P f) (C f) (.slot i::hs) U1
   |none=>none)
  |_=>none)
 |.comp JA tg k gA cond imp nl,U=>aAg t ((VB P C gA U).bind λhs U1 =>
   match aAb k hs U1 with
   |none=>none
   |some (ds,o)=>(XC (imp.map λ_=>true) (pI (IC P C cond) (ev P C false JA) (bB (tg.length==1) tg) ds nl) (imp.map Hd.slot) (aAd o U1)).bind (aAq o U1))
noncomputable def uD(P:SA)(C:Calls):List E->Env->uA (List D)
 |[],U=>some (.ok [],U)
 |e::es,U=>(ev P C false e U).bind λv U1=>(uD P C es U1).bind λds U2=>some (.ok (v.d::ds),U2)
noncomputable def VB(P:SA)(C:Calls):List E->Env->uA (List Hd)
 |[],U=>some (.ok [],U)
 |e::es,U=>(hd e (ev P C false e U) U).bind λv U1=>(VB P C es U1).bind λds U2=>some (.ok (v::ds),U2)
noncomputable def IC(P:SA)(C:Calls):List E->Env->uA RV
 |[],U=>some (.ok (.sh (.bl true)),U)
 |e::es,U=>(ev P C true e U).bind λv U1=>match v with
  |.sh (.bl true)=>IC P C es U1
  |.sh (.bl false)=>some (.ok (.sh (.bl false)),U1)
  |_=>none
end
mutual
noncomputable def ED(P:SA)(C:Calls):E->Env->Option (Exc×Env)
 |.call f es,U=>match VB P C es U with
  |some (.ok hs,U1)=>match XC (P f) (C f) hs U1 with
   |some (.ex x,U')=>some (x,U')
   |_=>none
  |_=>UJ P C es U
 |.fG i m tb (e0::es),U=>(match U[i]? with
  |some (.ow (.ins c ns ds) p l)=>(match oH c ns m tb with
   |some f=>(match VB P C (e0::es) U with
    |some (.ok hs,U1)=>(match XC (P f) (C f) (.slot i::hs) U1 with
     |some (.ex x,U')=>some (x,U')
     |_=>none)
    |_=>none)
   |none=>none)
  |_=>none)
 |.FF c f es,U=>(match uD P C es U with
  |some (.ok ds,U1)=>if(P f).length=ds.length+1 then(match C f (.ow (.ins c [] []) true false::ds.map .sh) with
   |some (.ex x,_)=>some (x,U1)
   |_=>none) else none
  |_=>none)
 |.t es,U=>YK P C es U
 |_,_=>none
noncomputable def UJ(P:SA)(C:Calls):List E->Env->Option (Exc×Env)
 |[],_=>none
 |e::es,U=>match hd e (ev P C false e U) U with
  |some (.ok _,U1)=>UJ P C es U1
  |_=>ED P C e U
noncomputable def YK(P:SA)(C:Calls):List E->Env->Option (Exc×Env)
 |[],_=>none
 |e::es,U=>match ev P C false e U with
  |some (.ok _,U1)=>YK P C es U1
  |_=>ED P C e U
end
inductive Fl where
 |nx | bk | ct | rt (v:RV) | ex (e:Exc)
abbrev Run:=Option (Fl×Env)
noncomputable def uA.vC(r:uA O)(f:O->Env->Run):Run :=
 match r with
 |none=>none
 |some (.ex e,U)=>some (.ex e,U)
 |some (.ok a,U)=>f a U
noncomputable def Run.next(r:Run)(f:Env->Run):Run :=
 match r with
 |some (.nx,U)=>f U
 |r=>r
def Run.restore(r:Run)(o:Option Nat)(U0:Env):Run :=
 match r with
 |none=>none
 |some (fl,U)=>(aAl o U0 U).map λU'=>(fl,U')
noncomputable def OH(o:Option Env):Run:=o.map λU=>(.nx,U)
noncomputable def dE(bind:D->Env->Option Env)(body:Env->Run):List D->Env->Run
 |[],U=>some (.nx,U)
 |d::ds,U=>match bind d U with
  |none=>none
  |some U1=>match body U1 with
   |some (.nx,U2)=>dE bind body ds U2
   |some (.ct,U2)=>dE bind body ds U2
   |some (.bk,U2)=>some (.nx,U2)
   |r=>r
noncomputable def K7(test:Env->uA RV)(body:Env->Run):Nat->Env->Run
 | 0,_=>none
 |n+1,U=>(test U).vC λv U1=>match v with
  |.sh (.bl true)=>match body U1 with
   |some (.nx,U2)=>K7 test body n U2
   |some (.ct,U2)=>K7 test body n U2
   |some (.bk,U2)=>some (.nx,U2)
   |r=>r
  |.sh (.bl false)=>some (.nx,U1)
  |_=>none
noncomputable def nH(bind:D->Env->Option Env)(body:Env->Run)(bx:Env->Option (Exc×Env)):List D->Env->Option (Exc×Env)
 |[],_=>none
 |d::ds,U=>match bind d U with
  |none=>none
  |some U1=>match body U1 with
   |some (.nx,U2)=>nH bind body bx ds U2
   |some (.ct,U2)=>nH bind body bx ds U2
   |_=>bx U1
def pK(o:Option Nat)(U0:Env):Option (Exc×Env)->Option (Exc×Env)
 |some (x,U)=>(aAl o U0 U).map λU'=>(x,U')
 |none=>none
noncomputable def yXa(i:Nat)(U:Env)(o:Option Sl)(k:Option L2.iN)(v:RV):Run :=
 match o,k with
 |_,_=>none
def XX(i:Nat)(f:bA)(cs:List bA)(v:RV)(U:Env):Run:=match U[i]? with
 |some (.ow (.ins c ns ds) p false)=>if cs.contains c/\ns.length<900 then some (.nx,U.set i (.ow (.ins c (aAx f ns) (UG f v.d ns ds)) p false)) else none
 |_=>none
def De(P:SA)(C:Calls)(JA:Env->uA RV)(tg:List Nat)(k:WE)(gA cond:List E)(imp:List Nat)(nl:Nat)(U:Env):uA RV :=
 (VB P C gA U).bind λhs U1 =>
   match aAb k hs U1 with
   |none=>none
   |some (ds,o)=>(XC (imp.map λ_=>true) (pI (IC P C cond) JA (bB (tg.length==1) tg) ds nl) (imp.map Hd.slot) (aAd o U1)).bind (aAq o U1)
noncomputable def mMa(U:Env):Bool:=U.all λs=>match s with | .ow _ _ _=>false | _=>true
noncomputable def R_(n:Nat)(U:Env):Env :=
 match U[n]? with
 |some (.ow d false false)=>U.set n (.sh d)
 |_=>U
def CF:Nat->Env->Env
 | 0,U=>U
 |n+1,U=>R_ n (CF n U)
def qXa(i j:Nat)(U:Env)(e c:Env->uA RV):Run :=
 match e (CF U.length U) with
 |some (.ok (.od (.l ds)),U1)=>@ite _ (U1=CF U.length U/\mMa U1=true/\ds.length<=1000/\i<U1.length/\j<U1.length/\c (U1.set i (.sh (.l ds)))=some (.ok (.sh (.bl false)),U1.set i (.sh (.l ds)))) (cl _) (some (.nx,(U1.set i .mv).set j .mv)) none
 |_=>none
def SJ(cs:List bA)(i j:Nat)(o:Option (Exc×Env)):Run :=
 match o with
 |none=>none
 |some (x,U1)=>if cs.contains x.cls/\i≠j then(store i (.sh (.CB x.cls x.num)) U1).bind λU2=>(store j (.sh (.CB x.cls x.num)) U2).map λU3=>(.nx,U3.set i .mv) else none
noncomputable def iP(cs:List bA)(o:Option (Exc×Env)):Option (Exc×Env) :=
 match o with
 |none=>none
 |some (x,U1)=>if cs.contains x.cls/\x.cls≠("NoText":bA) then some (⟨"NoText",none⟩,U1) else none
mutual
noncomputable def ex(P:SA)(C:Calls)(W:Nat):S->Env->Run
 |.jA,_=>none
 |.pass,U=>some (.nx,U)
 |.brk,U=>some (.bk,U)
 |.cnt,U=>some (.ct,U)
 |.nB i e,U=>(ev P C false e U).vC λv U1=>OH (store i v U1)
 |.cM is e,U=>(ev P C false e U).vC λv U1=>OH (bB false is v.d U1)
 |.set i k e,U=>(ev P C false e U).vC λv U1=>if mJ U1 i then(ev P C false k U1).vC λj U2=>match U2[i]?,j.d with
  |some (.ow (.l ds) p false),.int n=>OH ((L2.mE ds.length n).map λm=>U2.set i (.ow (.l (ds.set m v.d)) p false))
  |_,_=>none
  else none
 |.expr e,U=>(ev P C false e U).vC λ_ U1=>some (.nx,U1)
 |.ret e,U=>match e with
  |.v i=>match U[i]? with
   |some (.ow d false _)=>some (.rt (.ow d),U.set i .mv)
   |some (.sh d)=>some (.rt (.sh d),U)
   |_=>none
  |e=>(ev P C false e U).vC λv U1=>some (.rt v,U1)
 |.OX,U=>some (.rt (.sh .rA),U)
 |.eWa _ _,_=>none
 |.DA c a b,U=>(ev P C true c U).vC λv U1=>match v with
  |.sh (.bl true)=>MA P C W a U1
  |.sh (.bl false)=>MA P C W b U1
  |_=>none
 |.for tg one k gA body,U=>(VB P C gA U).vC λhs U1 =>
  match aAb k hs U1 with
  |none=>none
  |some (ds,o)=>(dE (bB one tg) (MA P C W body) ds (aAd o U1)).restore o U1
 |.whl c body,U=>K7 (ev P C true c) (MA P C W body) W U
 |.ME _ _,_=>none
 |.aO _ _,_=>none
 |.Xl i j e c,U=>qXa i j U (ev P C false e) (ev P C true c)
 |.rK i f cs e,U=>(ev P C false e U).vC λv U1=>XX i f cs v U1
 |.oO body cs i j,U=>match MA P C W body U with
  |some (.nx,U1)=>some (.nx,U1)
  |_=>SJ cs i j (DC P C W body U)
 |.pO body _,U=>MA P C W body U
noncomputable def MA(P:SA)(C:Calls)(W:Nat):List S->Env->Run
 |[],U=>some (.nx,U)
 |s::r,U=>(ex P C W s U).next (MA P C W r)
noncomputable def oF(P:SA)(C:Calls)(W:Nat):S->Env->Option (Exc×Env)
 |.nB _ e,U=>ED P C e U
 |.expr e,U=>ED P C e U
 |.ret e,U=>ED P C e U
 |.rK _ _ _ e,U=>ED P C e U
 |.ME c es,U=>match uD P C es U with
  |some (.ok _,U1)=>some (⟨c,none⟩,U1)
  |_=>none
 |.aO c es,U=>match uD P C es U with
  |some (.ok [.int n],U1)=>some (⟨c,some n⟩,U1)
  |_=>none
 |.for tg one k gA body,U=>match VB P C gA U with
  |some (.ok hs,U1)=>(match aAb k hs U1 with
   |some (ds,o)=>pK o U1 (nH (bB one tg) (MA P C W body) (DC P C W body) ds (aAd o U1))
   |none=>none)
  |_=>none
 |.DA c a b,U=>match ev P C true c U with
  |some (.ok (.sh (.bl true)),U1)=>DC P C W a U1
  |some (.ok (.sh (.bl false)),U1)=>DC P C W b U1
  |_=>none
 |.pO body cs,U=>iP cs (DC P C W body U)
 |_,_=>none
noncomputable def DC(P:SA)(C:Calls)(W:Nat):List S->Env->Option (Exc×Env)
 |[],_=>none
 |s::r,U=>match ex P C W s U with
  |some (.nx,U1)=>DC P C W r U1
  |_=>oF P C W s U
end
abbrev Tab:=String->Option Fn
noncomputable def Tab.aA(T:Tab):SA:=λf=>match T f with
 |some fn=>fn.aA
 |none=>[]
def run(T:Tab)(W:Nat):Nat->Calls
 | 0=>λ_ _=>none
 |n+1=>λf as=>match T f with
  |none=>none
  |some fn=>if as.length=fn.aA.length/\as.all oK=true then
    match MA T.aA (run T W n) W fn.body (as++FC fn.nl .un) with
    |some (.nx,U)=>some (.ok (.sh .rA),back as U)
    |some (.rt v,U)=>some (.ok v,back as U)
    |_=>if fn.rs then match DC T.aA (run T W n) W fn.body (as++FC fn.nl .un) with
     |some (x,U)=>some (.ex x,back as U)
     |none=>none
     else none
   else none
end
end CI
namespace CI
open PySem PySem.Spec PyProof.Rows L2
abbrev St:=L2.St
abbrev Sm(G G':Hp):Prop:=ZA G G'
def Sm.of(s:ZA G G'):Sm G G':=s
theorem Sm.refl(G:Hp):Sm G G:=ZA.refl G
theorem Sm.trans(a:Sm G G1)(b:Sm G1 G2):Sm G G2:=ZA.trans a b
theorem Sm.seq{K:fA}(e:Sm G G')(h:DB K G a xs):DB K G' a xs:=ZA.seq e h
def Sm.app(s:Sm G G')(n:∀x,o≠.own x)(h:G b=some o):G' b=some o:=s b o h
structure eN(K:fA)(C:eA)(ns:List bA):Prop where
 cl:UE K C
 no:∀f∈ns,fH K C f
def MK(K:fA)(G:Hp)(C:eA)(p:Option eA)(n:Option Int):Prop:=True
def MK.mono{K:fA}(s:Sm G G'){n:Option Int}(h:MK K G C p n):MK K G' C p n:=trivial
def jRa{K:fA}(e:G dx=some (.xd [(("number":bA),.int n)]))(S:JK K C "number")(h:HK K C=true):MK K G C (some dx) (some n):=trivial
def NJ(K:fA)(G:Hp)(C:eA)(p:PX)(x:Exc):Prop:=MK K G C p.1 x.num/\(x.cls≠("NoText":bA)->p.2=true)
def NJ.pay{K:fA}(h:NJ K G C p x):MK K G C p.1 x.num:=h.1
def Sj{K:fA}(h:MK K G C q x.num):NJ K G C (q,true) x:=⟨h,λ_=>rfl⟩
mutual
def iA(K:fA)(G:Hp):D->V->Prop
 |.rA,v=>v=.rA
 |.bl b,v=>v=.bl b
 |.int i,v=>v=.int i
 |.str x,v=>v=.str x/\jC x=true
 |.t ds,v=>∃a vs,v=.ref a/\OC K G a vs/\nA K G ds vs
 |.l ds,v=>∃a vs,v=.ref a/\DB K G a vs/\nA K G ds vs
 |.ins c ns ds,v=>∃a C dx vs,v=.ref a/\fB K VA c=some (some (.ref C))/\G a=some (.ins C dx (ns.zip vs))/\nA K G ds vs/\eN K C ns/\ns.length=vs.length
 |.CB c n,v=>∃a C p,v=.ref a/\fB K VA c=some (some (.ref C))/\lE K C/\G a=some (.ext (FH a C p))/\MK K G C p n
def nA(K:fA)(G:Hp):List D->List V->Prop
 |[],vs=>vs=[]
 |d::ds,vs=>∃v r,vs=v::r/\iA K G d v/\nA K G ds r
end
def AL{K:fA}(s:Sm G G')(h:OC K G a vs):OC K G' a vs:=by
 rcases h with (h | ⟨o,h⟩) | h
 ·exact .inl (.inl (s.app (λ_ z=>nomatch z) h))
 ·exact .inl (.inr ⟨o,s.app (λ_ z=>nomatch z) h⟩)
 ·exact .inr h
mutual
theorem iA.mono{K:fA}(s:Sm G G'):∀(d:D) {v:V},iA K G d v->iA K G' d v
 |.rA,_,h=>by simpa[iA] using h
 |.bl _,_,h=>by simpa[iA] using h
 |.int _,_,h=>by simpa[iA] using h
 |.str _,_,h=>by simpa[iA] using h
 |.t ds,_,h=>by
  simp only[iA] at h ⊢;obtain⟨a,vs,e,h1,h2⟩:=h;exact⟨a,vs,e,AL s h1,nA.mono s ds h2⟩
 |.l ds,_,h=>by
  simp only[iA] at h ⊢;obtain⟨a,vs,e,h1,h2⟩:=h;exact⟨a,vs,e,s.seq h1,nA.mono s ds h2⟩
 |.ins c ns ds,_,h=>by
  simp only[iA] at h ⊢;obtain⟨a,C,dx,vs,e,h1,h2,h3,h4,h5⟩:=h;exact⟨a,C,dx,vs,e,h1,s.app (λ_ z=>nomatch z) h2,nA.mono s ds h3,h4,h5⟩
 |.CB c n,_,h=>by
  simp only[iA] at h ⊢;obtain⟨a,C,p,e,h1,h2,h3,h4⟩:=h;exact⟨a,C,p,e,h1,h2,s.app (λ_ z=>nomatch z) h3,h4.mono s⟩
theorem nA.mono{K:fA}(s:Sm G G'):∀(ds:List D) {vs:List V},nA K G ds vs->nA K G' ds vs
 |[],_,h=>by simpa[nA] using h
 |d::ds,_,h=>by(simp only[nA] at h ⊢;obtain⟨v,r,e,h1,h2⟩:=h;exact⟨v,r,e,iA.mono s d h1,nA.mono s ds h2⟩)
end
theorem nA.len{K:fA}:∀{ds:List D} {vs:List V},nA K G ds vs->vs.length=ds.length
 |[],_,h=>by simp only[nA] at h;subst h;rfl
 |d::ds,_,h=>by(simp only[nA] at h;obtain⟨v,r,rfl,_,h2⟩:=h;simp[nA.len h2])
def nA.nil{K:fA}:nA K G [] []:=by simp[nA]
def nA.cons{K:fA}(h:iA K G d v)(t:nA K G ds vs):nA K G (d::ds) (v::vs):=by
 simp only[nA];exact⟨v,vs,rfl,h,t⟩
theorem nA.app{K:fA}:∀{ds es:List D} {vs ws:List V},nA K G ds vs->nA K G es ws->nA K G (ds++es) (vs++ws)
 |[],_,_,_,h,h'=>by simp only[nA] at h;subst h;exact h'
 |d::ds,_,_,_,h,h'=>by(simp only[nA] at h;obtain⟨v,r,rfl,h1,h2⟩:=h;exact nA.cons h1 (nA.app h2 h'))
theorem nA.get{K:fA}:∀{ds:List D} {vs:List V} {i:Nat} {d:D},nA K G ds vs->ds[i]?=some d->∃v,vs[i]?=some v/\iA K G d v
 |[],_,_,_,_,e=>by simp at e
 |d::ds,_,0,_,h,e=>by
  simp only[nA] at h;obtain⟨v,r,rfl,h1,h2⟩:=h;simp at e;subst e;exact⟨v,rfl,h1⟩
 |d::ds,_,i+1,_,h,e=>by
  simp only[nA] at h;obtain⟨v,r,rfl,h1,h2⟩:=h
  have:=nA.get h2 (by simpa using e)
  simpa using this
theorem nA.set{K:fA}(hv:iA K G d v):∀{ds:List D} {vs:List V} (i:Nat),nA K G ds vs->nA K G (ds.set i d) (vs.set i v)
 |[],_,_,h=>by simp only[nA] at h;subst h;simp[nA]
 |e::ds,_,0,h=>by
  simp only[nA] at h;obtain⟨u,r,rfl,h1,h2⟩:=h;exact nA.cons hv h2
 |e::ds,_,i+1,h=>by(simp only[nA] at h;obtain⟨u,r,rfl,h1,h2⟩:=h;exact nA.cons h1 (nA.set hv i h2))
theorem nA.take{K:fA}:∀{ds:List D} {vs:List V} (n:Nat),nA K G ds vs->nA K G (ds.take n) (vs.take n)
 |_,_,0,_=>by simp[nA]
 |[],_,_+1,h=>by simp only[nA] at h;subst h;simp[nA]
 |e::ds,_,n+1,h=>by(simp only[nA] at h;obtain⟨u,r,rfl,h1,h2⟩:=h;exact nA.cons h1 (nA.take n h2))
theorem nA.drop{K:fA}:∀{ds:List D} {vs:List V} (n:Nat),nA K G ds vs->nA K G (ds.drop n) (vs.drop n)
 |_,_,0,h=>h
 |[],_,_+1,h=>by simp only[nA] at h;subst h;simp[nA]
 |e::ds,_,n+1,h=>by(simp only[nA] at h;obtain⟨u,r,rfl,h1,h2⟩:=h;exact nA.drop n h2)
def HG(K:fA)(H G:Hp)(a:eA):D->Prop
 |.l ds=>∃vs,H a=some (.l vs)/\nA K G ds vs
 |.ins c ns ds=>∃C dx vs,fB K VA c=some (some (.ref C))/\H a=some (.ins C dx (ns.zip vs))/\nA K G ds vs/\eN K C ns/\ns.length=vs.length
 |_=>False
def xA(U:Env)(Y:St)(a:eA):Prop:=∃(i:Nat) (d:D) (p l:Bool),U[i]?=some (.ow d p l)/\Y[i]?=some (some (.ref a))
structure CA(K:fA)(U:Env)(Y:St)(H G:Hp):Prop where
 len:U.length=Y.length
 sub:ZA G H
 sh:∀(i:Nat) (d:D),U[i]?=some (.sh d)->∃v,Y[i]?=some (some v)/\iA K G d v
 ow:∀(i:Nat) (d:D) (p l:Bool),U[i]?=some (.ow d p l)->∃a,Y[i]?=some (some (.ref a))/\G a=none/\HG K H G a d
 inj:∀(i j:Nat) (d:D) (p l:Bool) (d':D) (p' l':Bool) (a:eA),U[i]?=some (.ow d p l)->U[j]?=some (.ow d' p' l')->Y[i]?=some (some (.ref a))->Y[j]?=some (some (.ref a))->i=j
structure Ext(own:eA->Prop)(H G H' G':Hp):Prop where
 gg:Sm G G'
 hh:∀a o,H a=some o->¬own a->H' a=some o
 hx:∀a,H' a=none->H a=none
 gn:∀a,H a≠none->G a=none->¬own a->G' a=none
theorem Ext.refl:Ext own H G H G:=⟨Sm.refl _,λ_ _ h _=>h,λ_ h=>h,λ_ _ h _=>h⟩
theorem Ext.trans(a:Ext own H G H1 G1)(w:∀x,dRa x->own x\/H x=none)(b:Ext dRa H1 G1 H2 G2):Ext own H G H2 G2:=by
 refine⟨a.gg.trans b.gg,λx o h n=>?_,λx h=>a.hx x (b.hx x h),λx h g n=>?_⟩
 ·refine b.hh x o (a.hh x o h n) λz=>?_
  rcases w x z with z | z
  ·exact n z
  ·rw[h] at z;cases z
 ·have h1:H1 x≠none:=λz=>h (a.hx x z)
  refine b.gn x h1 (a.gn x h g n) λz=>?_
  rcases w x z with z | z
  ·exact n z
  ·exact h z
def Ext.weaken(a:Ext own H G H1 G1)(w:∀x,own x->rF x):Ext rF H G H1 G1 :=
 ⟨a.gg,λx o h n=>a.hh x o h λz=>n (w x z),a.hx,λx h g n=>a.gn x h g λz=>n (w x z)⟩
def kN(H:Hp)(own new:eA->Prop)(vs:List V):Prop:=∀x∈vs,∃b ws,x=.ref b/\H b=some (.l ws)/\ws.length<=1000/\¬own b/\new b
def Rows(H:Hp)(own new:eA->Prop)(a:eA):Prop:=∃vs,H a=some (.l vs)/\kN H own (λb=>new b/\b≠a) vs
def kN.step(h:kN H own new vs)(e:∀b o,H b=some o->¬own b->H' b=some o)(w:∀b,rF b->own b\/H b=none):kN H' rF new vs:=λx hx=>by
 obtain⟨b,ws,h1,h2,h3,h4,h5⟩:=h x hx;refine⟨b,ws,h1,e b _ h2 h4,h3,λz=>?_,h5⟩;rcases w b z with z | z
 ·exact h4 z
 ·rw[h2] at z;cases z
theorem kN.new{own new new':eA->Prop}(h:kN H own new vs)(w:∀b,new b->new' b):kN H own new' vs:=λx hx=>let ⟨b,ws,h1,h2,h3,h4,h5⟩:=h x hx;⟨b,ws,h1,h2,h3,h4,w b h5⟩
def EC(K:fA)(H G:Hp)(own:eA->Prop)(new:eA->Prop):RV->V->Prop
 |.sh d,v=>iA K G d v
 |.ow d,v=>∃a,v=.ref a/\G a=none/\HG K H G a d/\¬own a/\new a
 |.od d,v=>∃a,v=.ref a/\G a=none/\HG K H G a d/\¬own a/\new a/\Rows H own new a
def LB(K:fA)(H G:Hp)(d:D)(v:V):Prop:=iA K G d v\/∃a,v=.ref a/\HG K H G a d
def VE(K:fA)(H G:Hp)(own:eA->Prop)(new:eA->Prop)(Y:St):Hd->V->Prop
 |.slot i,v=>Y[i]?=some (some v)
 |.val (.od _),_=>False
 |.val r,v=>EC K H G own new r v
section
variable{K:fA}{own rF new new':eA->Prop}
theorem HG.mono(h:HG K H G a d)(s:Sm G G')(e:∀o,H a=some o->H' a=some o):HG K H' G' a d:=by
 induction d using D.casesOn with
 |l ds =>
  obtain⟨vs,h1,h2⟩:=h;exact⟨vs,e _ h1,nA.mono s _ h2⟩
 |ins c ns ds=>obtain⟨C,dx,vs,h0,h1,h2,h3⟩:=h;exact⟨C,dx,vs,h0,e _ h1,nA.mono s ds h2,h3⟩
 |_=>exact h
def HG.put(h:HG K H G a d):∃o,H a=some o/\∀G',Sm G G'->G' a=some o->iA K G' d (.ref a):=by
 induction d using D.casesOn with
 |l ds =>
  obtain⟨vs,h1,h2⟩:=h;exact⟨_,h1,λG' s e=>by simp only[iA];exact⟨a,vs,rfl,DB.of e,nA.mono s ds h2⟩⟩
 |ins c ns ds=>obtain⟨C,dx,vs,h0,h1,h2,h3⟩:=h;exact⟨_,h1,λG' s e=>by simp only[iA];exact⟨a,C,dx,vs,rfl,h0,e,nA.mono s ds h2,h3⟩⟩
 |_=>exact h.elim
def HG.there(h:HG K H G a d):∃o,H a=some o:=let ⟨o,h,_⟩:=h.put;⟨o,h⟩
def CA.owned(r:CA K U Y H G)(o:xA U Y a):H a≠none/\G a=none:=by
 obtain⟨i,d,p,l,h1,h2⟩:=o;obtain⟨b,e,g,h⟩:=r.ow i d p l h1;rw[h2] at e;cases e;obtain⟨vs,h⟩:=h.there;exact⟨by rw[h];simp,g⟩
def EC.wait(h:EC K H G own new v x)(e:Ext own H G H' G')(w:∀a,rF a->own a\/H a=none):EC K H' G' rF new v x:=by
 induction v using RV.casesOn with
 |sh d=>exact iA.mono e.gg d h
 |ow d =>
  obtain⟨a,rfl,g,o,n,m⟩:=h;obtain⟨vs,hv⟩:=o.there;have ne:H a≠none:=by rw[hv];simp
  refine⟨a,rfl,e.gn a ne g n,o.mono e.gg λo' h'=>e.hh a o' h' n,λz=>?_,m⟩;rcases w a z with z | z
  ·exact n z
  ·exact ne z
 |od d =>
  obtain⟨a,rfl,g,o,n,m,vs,hv,hr⟩:=h;have ne:H a≠none:=by rw[hv];simp
  refine⟨a,rfl,e.gn a ne g n,o.mono e.gg λo' h'=>e.hh a o' h' n,λz=>?_,m,vs,e.hh a _ hv n,hr.step e.hh w⟩;rcases w a z with z | z
  ·exact n z
  ·exact ne z
theorem VE.wait(h:VE K H G own new Y v x)(e:Ext own H G H' G')(w:∀a,rF a->own a\/H a=none):VE K H' G' rF new Y v x:=by
 induction v using Hd.casesOn with
 |slot i=>exact h
 |val r=>cases r with
  |od d=>exact h.elim
  |sh d=>exact iA.mono e.gg d h
  |ow d=>exact EC.wait (v:=.ow d) h e w
def EC.VH(h:EC K H G own new v x)(w:∀a,new a->new' a):EC K H G own new' v x:=by
 induction v using RV.casesOn with
 |sh d=>exact h
 |ow d =>
  obtain⟨a,rfl,g,o,n,m⟩:=h;exact⟨a,rfl,g,o,n,w a m⟩
 |od d =>
  obtain⟨a,rfl,g,o,n,m,vs,hv,hr⟩:=h;exact⟨a,rfl,g,o,n,w a m,vs,hv,hr.new λb z=>⟨w b z.1,z.2⟩⟩
theorem EC.low(h:EC K H G own new v x):EC K H G own new v.low x:=by
 induction v using RV.casesOn with
 |sh d=>exact h
 |ow d=>exact h
 |od d =>
  obtain⟨a,rfl,g,o,n,m,_⟩:=h;exact⟨a,rfl,g,o,n,m⟩
def VE.of(h:EC K H G own new v x):VE K H G own new Y (.val v.low) x:=by
 have:=h.low
 cases v<;>exact this
theorem VE.VH(h:VE K H G own new Y v x)(w:∀a,new a->new' a):VE K H G own new' Y v x:=by
 induction v using Hd.casesOn with
 |slot i=>exact h
 |val r=>cases r with
  |od d=>exact h.elim
  |sh d=>exact h
  |ow d=>exact EC.VH (v:=.ow d) h w
def EC.oQ(h:EC K H G own new v x):LB K H G v.d x:=by
 induction v using RV.casesOn with
 |sh d=>exact .inl h
 |ow d =>
  obtain⟨a,rfl,g,o,n,m⟩:=h;exact .inr ⟨a,rfl,o⟩
 |od d =>
  obtain⟨a,rfl,g,o,n,m,_⟩:=h;exact .inr ⟨a,rfl,o⟩
theorem CA.get(r:CA K U Y H G){i:Nat}(h:(U[i]?).bind Sl.get=some d)(hx:Y[i]?=some (some x)):LB K H G d x:=by
 cases e:U[i]? with
 |none=>rw[e] at h;cases h
 |some sl =>
  rw[e] at h
  induction sl using Sl.casesOn with
  |un=>cases h
  |mv=>cases h
  |sh d' =>
   cases h;obtain⟨v,h1,h2⟩:=r.sh i _ e;rw[hx] at h1;cases h1;exact .inl h2
  |ow d' p l =>
   cases h;obtain⟨a,h1,_,h2⟩:=r.ow i _ p l e;rw[hx] at h1;cases h1;exact .inr ⟨a,rfl,h2⟩
def VE.read(h:VE K H G own new Y v x)(r:CA K U Y H G)(e:v.get U=some d):LB K H G d x:=by
 induction v using Hd.casesOn with
 |slot i=>exact r.get e h
 |val u =>
  simp only[Hd.get,WB] at e;subst e
  induction u using RV.casesOn with
  |od d=>exact h.elim
  |sh d=>exact .inl h
  |ow d=>exact EC.oQ (v:=.ow d) h
def CA.bound(r:CA K U Y H G){i:Nat}(h:((U[i]?).bind Sl.get).isSome=true):∃v,Y[i]?=some (some v):=by
 cases e:U[i]? with
 |none=>rw[e] at h;cases h
 |some sl =>
  rw[e] at h
  induction sl using Sl.casesOn with
  |un=>cases h
  |mv=>cases h
  |sh d' =>
   obtain⟨v,h1,h2⟩:=r.sh i _ e;exact⟨v,h1⟩
  |ow d' p l =>
   obtain⟨a,h1,_,h2⟩:=r.ow i _ p l e;exact⟨_,h1⟩
theorem LB.l(s:ZA G H)(h:LB K H G (.l ds) x):∃a vs,x=.ref a/\DB K H a vs/\nA K G ds vs:=by
 rcases h with h | ⟨a,rfl,h⟩
 ·simp only[iA] at h;obtain⟨a,vs,e,h1,h2⟩:=h;exact⟨a,vs,e,s.seq h1,h2⟩
 ·obtain⟨vs,h1,h2⟩:=h;exact⟨a,vs,rfl,DB.of h1,h2⟩
theorem LB.t{ds:List D}(s:ZA G H)(h:LB K H G (.t ds) x):∃a vs,x=.ref a/\OC K H a vs/\nA K G ds vs:=by
 rcases h with h | ⟨a,rfl,h⟩
 ·simp only[iA] at h;obtain⟨a,vs,e,h1,h2⟩:=h;exact⟨a,vs,e,AL s h1,h2⟩
 ·exact h.elim
theorem LB.ins(s:ZA G H)(h:LB K H G (.ins c ns ds) x):∃a C dx vs,x=.ref a/\fB K VA c=some (some (.ref C))/\H a=some (.ins C dx (ns.zip vs))/\nA K G ds vs/\eN K C ns/\ns.length=vs.length:=by
 rcases h with h | ⟨a,rfl,h⟩
 ·simp only[iA] at h;obtain⟨a,C,dx,vs,e,h1,h2,h3⟩:=h;exact⟨a,C,dx,vs,e,h1,s _ _ h2,h3⟩
 ·obtain⟨C,dx,vs,h⟩:=h;exact⟨a,C,dx,vs,rfl,h⟩
theorem LB.int(h:LB K H G (.int i) x):x=.int i:=by
 rcases h with h | ⟨a,rfl,h⟩
 ·simpa[iA] using h
 ·exact h.elim
theorem LB.bl(h:LB K H G (.bl i) x):x=.bl i:=by
 rcases h with h | ⟨a,rfl,h⟩
 ·simpa[iA] using h
 ·exact h.elim
theorem LB.str(h:LB K H G (.str i) x):x=.str i/\jC i=true:=by
 rcases h with h | ⟨a,rfl,h⟩
 ·simpa[iA] using h
 ·exact h.elim
theorem LB.rA(h:LB K H G .rA x):x=.rA:=by
 rcases h with h | ⟨a,rfl,h⟩
 ·simpa[iA] using h
 ·exact h.elim
def eT(h:iA K G (.bl i) x):x=.bl i:=by simpa[iA] using h
def ZA.laid(h:H a=none):ZA H (sA H a o):=λb u e=>by rw[dB (dF e h)];exact e
theorem Sm.laid(h:H a=none):Sm H (sA H a o):=Sm.of (ZA.laid h)
def Sm.put(h:H a=none):Sm H (sA H a o):=Sm.laid h
def CA.rL(r:CA K U Y H G)(h:H a=none):CA K U Y (sA H a o) (sA G a o):=by
 have hg:G a=none:=ZA.free r.sub h;refine⟨r.len,λb u e=>?_,λi d e=>?_,λi d p l e=>?_,r.inj⟩
 ·by_cases hb:b=a
  ·subst hb;rw[eC] at e ⊢;exact e
  ·rw[dB hb] at e ⊢;exact r.sub b u e
 ·obtain⟨v,h1,h2⟩:=r.sh i d e;exact⟨v,h1,iA.mono (Sm.laid hg) d h2⟩
 ·obtain⟨b,h1,h2,h3⟩:=r.ow i d p l e;obtain⟨vs,hv⟩:=h3.there;have hb:b≠a:=dF hv h;refine⟨b,h1,by rw[dB hb];exact h2,h3.mono (Sm.laid hg) λo' h'=>by rw[dB hb];exact h'⟩
def Ext.rL(s:ZA G H)(h:H a=none):Ext own H G (sA H a o) (sA G a o):=by
 have hg:G a=none:=ZA.free s h;refine⟨Sm.laid hg,λb u e _=>ZA.laid h b u e,λb e=>?_,λb e g _=>?_⟩
 ·by_cases hb:b=a
  ·subst hb;exact h
  ·rwa[dB hb] at e
 ·by_cases hb:b=a
  ·subst hb;exact absurd h e
  ·rw[dB hb];exact g
def CA.sL(r:CA K U Y H G)(h:H a=none):CA K U Y (sA H a o) G:=by
 refine⟨r.len,r.sub.trans (ZA.laid h),r.sh,λi d p l e=>?_,r.inj⟩;obtain⟨b,h1,h2,h3⟩:=r.ow i d p l e;obtain⟨vs,hv⟩:=h3.there;have hb:b≠a:=dF hv h;exact⟨b,h1,h2,h3.mono (Sm.refl _) λo' h'=>by rw[dB hb];exact h'⟩
def Ext.sL(h:H a=none):Ext own H G (sA H a o) G:=by
 refine⟨Sm.refl _,λb u e _=>ZA.laid h b u e,λb e=>?_,λb e g _=>g⟩;by_cases hb:b=a
 ·subst hb;exact h
 ·rwa[dB hb] at e
def CA.sX(r:CA K U Y H G)(h:H a=none):¬xA U Y a:=λo=>(r.owned o).1 h
def ZA.put(h:G a=none):ZA G (sA G a o):=ZA.laid h
def EC.share(h:EC K H G (xA U Y) new v x)(r:CA K U Y H G)(hn:∀a,new a->own a\/new' a) :
  ∃G',CA K U Y H G'/\ZA G G'/\(∀a,G' a≠none->G a≠none\/new a)/\iA K G' v.d x:=by
 have main:∀d,EC K H G (xA U Y) new (.ow d) x->∃G',CA K U Y H G'/\ZA G G'/\(∀a,G' a≠none->G a≠none\/new a)/\iA K G' d x:=by
  intro d h;obtain⟨a,rfl,g,o,n,m⟩:=h;obtain⟨ob,hv,hr⟩:=o.put;refine⟨sA G a ob,⟨r.len,λb u e=>?_,λi d e=>?_,λi d p l e=>?_,r.inj⟩,ZA.put g,λb z=>?_, ?_⟩
  ·by_cases hb:b=a
   ·subst hb;rw[eC] at e;rw[hv];exact e
   ·rw[dB hb] at e;exact r.sub b u e
  ·obtain⟨v,h1,h2⟩:=r.sh i d e;exact⟨v,h1,iA.mono (Sm.put g) d h2⟩
  ·obtain⟨b,h1,h2,h3⟩:=r.ow i d p l e;have hb:b≠a:=λz=>by subst z;exact n ⟨i,d,p,l,e,h1⟩
   exact⟨b,h1,by rw[dB hb];exact h2,h3.mono (Sm.put g) λ_ z=>z⟩
  ·by_cases hb:b=a
   ·subst hb;exact .inr m
   ·rw[dB hb] at z;exact .inl z
  ·exact hr _ (Sm.put g) eC
 induction v using RV.casesOn with
 |sh d=>exact⟨G,r,ZA.refl _,λa z=>.inl z,h⟩
 |ow d=>exact main d h
 |od d=>exact main d h.low
end
def OF:Option Sl->Option Sl->Prop
 |some (.ow _ p l),some (.ow _ p' l')=>p=p'/\l=l'
 |some (.ow _ p _),some (.sh _)=>p=false
 |some .un,some .un=>True
 |some .mv,some .mv=>True
 |some (.sh _),some (.sh _)=>True
 |none,none=>True
 |_,_=>False
def OF.refl(a:Option Sl):OF a a:=by
 cases a with
 |none=>trivial
 |some s=>cases s<;>first | trivial | exact⟨rfl,rfl⟩
theorem OF.trans(h:OF a b)(h':OF b c):OF a c:=by
 cases a with
 |none =>
  cases b with
  |none=>exact h'
  |some t=>cases t<;>exact h.elim
 |some s =>
  cases b with
  |none=>cases s<;>exact h.elim
  |some t =>
   cases c with
   |none=>cases t<;>exact h'.elim
   |some u=>cases s<;>cases t<;>first | exact h.elim | (cases u<;>first | exact h'.elim | trivial | exact⟨h.1.trans h'.1,h.2.trans h'.2⟩ | exact h.1.trans h' | exact h)
def OF.Pj(h:OF a (some (.ow d p l))):∃d',a=some (.ow d' p l):=by
 cases a with
 |none=>exact h.elim
 |some s=>cases s<;>first | exact h.elim | (obtain⟨rfl,rfl⟩:=h;exact⟨_,rfl⟩)
def EE(U U':Env):Prop:=∀i:Nat,OF U[i]? U'[i]?
theorem EE.refl(U:Env):EE U U:=λ_=>OF.refl _
theorem EE.trans(h:EE a b)(h':EE b c):EE a c:=λi=>(h i).trans (h' i)
def EE.own(h:EE U U')(a:eA)(o:xA U' Y a):xA U Y a:=by
 obtain⟨i,d,p,l,h1,h2⟩:=o
 have:=h i
 rw[h1] at this;obtain⟨d',e⟩:=this.Pj;exact⟨i,d',p,l,e,h2⟩
theorem EE.set(h:OF U[i]? (some s)):EE U (U.set i s):=λj=>by
 by_cases xI:j=i
 ·subst xI;by_cases hl:j<U.length
  ·rw[gI hl];exact h
  ·rw[sO (by lia)] at h;cases s<;>exact h.elim
 ·rw[gE (λz=>xI z.symm)];exact OF.refl _
structure AA(K:fA)(U:Env)(Y:St)(H G:Hp)(U':Env)(H' G':Hp):Prop where
 pA:CA K U' Y H' G'
 ext:Ext (xA U Y) H G H' G'
 VJ:EE U U'
section
variable{K:fA}
theorem AA.own(a:AA K U Y H G U' H' G'):∀a,xA U' Y a->xA U Y a:=λx h=>a.VJ.own x h
theorem AA.refl(r:CA K U Y H G):AA K U Y H G U H G:=⟨r,Ext.refl,EE.refl _⟩
theorem AA.trans(a:AA K U Y H G U1 H1 G1)(b:AA K U1 Y H1 G1 U2 H2 G2):AA K U Y H G U2 H2 G2 :=
 ⟨b.pA,a.ext.trans (λx h=>.inl (a.own x h)) b.ext,a.VJ.trans b.VJ⟩
abbrev UD(H:Hp):eA->Prop:=λa=>H a=none
def AA.fresh(a:AA K U Y H G U1 H1 G1)(h:H1 x=none):H x=none:=a.ext.hx x h
def AA.cYa(a:AA K U Y H G U' H' G')(h:EC K H' G' (xA U' Y) (UD H) v x):∃G2,AA K U Y H G U' H' G2/\iA K G2 v.d x/\ZA G' G2:=by
 obtain⟨G2,r2,s2,n2,h2⟩:=h.share (own:=λ_=>False) (new':=UD H) a.pA (λ_ z=>.inr z);refine⟨G2,⟨r2,⟨a.ext.gg.trans s2,a.ext.hh,a.ext.hx,λb hb gb nb=>?_⟩,a.VJ⟩,h2,s2⟩
 cases e:G2 b with
 |none=>rfl
 |some o =>
  rcases n2 b (by rw[e];simp) with z | z
  ·exact absurd (a.ext.gn b hb gb nb) z
  ·exact absurd z hb
def AA.share(a:AA K U Y H G U' H' G')(h:EC K H' G' (xA U' Y) (UD H) v x):∃G2,AA K U Y H G U' H' G2/\iA K G2 v.d x:=let ⟨G2,h1,h2,_⟩:=a.cYa h;⟨G2,h1,h2⟩
theorem AA.rL(a:AA K U Y H G U' H' G')(h:H' p=none):AA K U Y H G U' (sA H' p o) (sA G' p o) :=
 a.trans ⟨a.pA.rL h,Ext.rL a.pA.sub h,EE.refl _⟩
theorem AA.sL(a:AA K U Y H G U' H' G')(h:H' p=none):AA K U Y H G U' (sA H' p o) G' :=
 a.trans ⟨a.pA.sL h,Ext.sL h,EE.refl _⟩
def AA.r8(a:AA K U Y H G U' H' G')(h:H' p=none)(r:nA K G' ds vs) :
  AA K U Y H G U' (sA H' p (.l vs)) G'/\EC K (sA H' p (.l vs)) G' (xA U' Y) (UD H) (.ow (.l ds)) (.ref p) :=
 ⟨a.sL h,p,rfl,ZA.free a.pA.sub h,⟨vs,eC,r⟩,a.pA.sX h,a.fresh h⟩
def AA.To(a:AA K U Y H G U' H' G')(h:H' p=none)(r:nA K G' ds vs) :
  AA K U Y H G U' (sA H' p (.t vs)) (sA G' p (.t vs))/\EC K (sA H' p (.t vs)) (sA G' p (.t vs)) (xA U' Y) (UD H) (.sh (.t ds)) (.ref p):=by
 refine⟨a.rL h, ?_⟩;show iA K _ (.t ds) _;simp only[iA];exact⟨p,vs,rfl,OC.of eC,nA.mono (Sm.laid (ZA.free a.pA.sub h)) ds r⟩
end
def JG:List Hd->List V->eA->Prop
 |.val (.ow _)::hs,x::xs,a=>x=.ref a\/JG hs xs a
 |_::hs,_::xs,a=>JG hs xs a
 |_,_,_=>False
def VD(K:fA)(H G:Hp)(own new:eA->Prop)(Y:St):List Hd->List V->Prop
 |[],xs=>xs=[]
 |h::hs,xs=>∃x r,xs=x::r/\VE K H G own new Y h x/\VD K H G own new Y hs r/\∀d a,h=.val (.ow d)->x=.ref a->¬JG hs r a
section
variable(K:fA)(P:SA)(C:Calls)
def tE(c:E):TE:=λY H Q=>∃(U:Env) (G:Hp) (v:RV) (U':Env),CA K U Y H G/\ev P C false c U=some (.ok v,U') /\
 ∀x H' G',AA K U Y H G U' H' G'->EC K H' G' (xA U' Y) (UD H) v x->Q x H'
def tT(c:E):TT:=λY H Q=>∃(U:Env) (G:Hp) (b:Bool) (U':Env),CA K U Y H G/\ev P C true c U=some (.ok (.sh (.bl b)),U') /\
 ∀H' G',AA K U Y H G U' H' G'->Q b H'
def tH(c:E):TE:=λY H Q=>∃(U:Env) (G:Hp) (h:Hd) (U':Env),CA K U Y H G/\hd c (ev P C false c U) U=some (.ok h,U') /\
 ∀x H' G',AA K U Y H G U' H' G'->VE K H' G' (xA U' Y) (UD H) Y h x->Q x H'
def LM(cs:List E):TA:=λY H Q=>∃(U:Env) (G:Hp) (ds:List D) (U':Env),CA K U Y H G/\uD P C cs U=some (.ok ds,U') /\
 ∀xs H' G',AA K U Y H G U' H' G'->nA K G' ds xs->Q xs H'
def sH(cs:List E):TA:=λY H Q=>∃(U:Env) (G:Hp) (hs:List Hd) (U':Env),CA K U Y H G/\VB P C cs U=some (.ok hs,U') /\
 ∀xs H' G',AA K U Y H G U' H' G'->VD K H' G' (xA U' Y) (UD H) Y hs xs->Q xs H'
end
def TE.MC(h:PE X e t)(w:∀Y H Q,u Y H Q->t Y H Q):PE X e u:=λaA s Y H Q I q=>h aA s Y H Q I (w Y H Q q)
def TT.GN(h:PT X e t)(w:∀Y H Q,u Y H Q->t Y H Q):PT X e u:=λaA s Y H Q I q=>h aA s Y H Q I (w Y H Q q)
def TA.FN(h:PA X e t)(w:∀Y H Q,u Y H Q->t Y H Q):PA X e u:=λpos aA s Y H Q I q=>h pos aA s Y H Q I (w Y H Q q)
def mB{r:uA O}(h:r.bind f=some (.ok b,U)):∃a U1,r=some (.ok a,U1)/\f a U1=some (.ok b,U):=by
 unfold uA.bind at h;split at h
 ·cases h
 ·cases h
 ·exact⟨_,_,rfl,h⟩
def mF(h:done o U=some (.ok v,U')):o=some v/\U'=U:=by
 unfold done at h
 cases o with
 |none=>cases h
 |some u=>simp only[jE,WB,SD,Out.ok.injEq] at h;exact⟨by rw[h.1],h.2.symm⟩
def N9{r:uA RV}{U':Env}(h:aAg true r=some (.ok v,U')):∃u b,r=some (.ok u,U')/\xK u.d=some b/\v=.sh (.bl b):=by
 obtain⟨u,U1,h1,h2⟩:=mB h
 cases e:xK u.d with
 |none=>rw[e] at h2;cases h2
 |some b =>
  rw[e] at h2;simp only[jE,WB,SD,Out.ok.injEq] at h2;obtain⟨h3,h4⟩:=h2;subst h4;exact⟨u,b,h1,e,h3.symm⟩
section
variable{K:fA}{P:SA}{C:Calls}{Y:St}{H:Hp}
def MM{X:Cx}{c:E}(h:PE X e (tE K P C c))(n:∀i,c≠.v i):PE X e (tH K P C c):=by
 refine TE.MC h λY H Q q=>?_
 obtain⟨U,G,vI,U',r,e1,k⟩:=q
 have:hd c (ev P C false c U) U=(ev P C false c U).bind λv U'=>some (.ok (.val v.low),U'):=by
  cases c<;>first | rfl | exact absurd rfl (n _)
 rw[this] at e1;obtain⟨v,U1,e2,e3⟩:=mB e1;cases e3;exact⟨U,G,v,_,r,e2,λx H' G' a hv=>k x H' G' a (VE.of hv)⟩
def cSa(h:PE X e (dI i)):PE X e (tE K P C (.v i)):=by
 refine TE.MC h λY H Q q=>?_
 obtain⟨U,G,v,U',r,e1,k⟩:=q;replace e1:aAJ i U=_:=e1;unfold aAJ at e1;split at e1
 ·rename_i d hd;cases e1;obtain⟨x,h1,h2⟩:=r.sh i d hd;exact⟨x,h1,k x H G (AA.refl r) h2⟩
 ·rename_i d hd;cases e1;obtain⟨a,h1,g,o⟩:=r.ow i d _ _ hd;refine⟨.ref a,h1, ?_⟩;obtain⟨ob,hv,hr⟩:=o.put;have li:i<U.length:=(LD.mp hd).1
  have zD:∀(j:Nat) (sl:Sl),(U.set i (.sh d))[j]?=some sl->(j=i/\sl=.sh d)\/(j≠i/\U[j]?=some sl):=λj sl hj=>by
   by_cases xI:j=i
   ·subst xI;rw[gI li] at hj;exact .inl ⟨rfl,(wF hj).symm⟩
   ·rw[gE (λz=>xI z.symm)] at hj;exact .inr ⟨xI,hj⟩
  have rF:∀b,xA (U.set i (.sh d)) Y b->xA U Y b:=λb hz=>by
   obtain⟨j,d',p,l,h3,h4⟩:=hz;rcases zD j _ h3 with ⟨_,z⟩ | ⟨_,z⟩
   ·cases z
   ·exact⟨j,d',p,l,z,h4⟩
  refine k (.ref a) H (sA G a ob) ⟨⟨?_,λb u z=>?_,λj d' hj=>?_,λj d' p l hj=>?_,λj k' d1 p1 l1 d2 p2 l2 b h3 h4 h5 h6=>?_⟩,⟨Sm.put g,λ_ _ z _=>z,λ_ z=>z,λb h3 h4 h5=>?_⟩,EE.set (by rw[hd];rfl)⟩ ?_
  ·rw[kF];exact r.len
  ·by_cases hb:b=a
   ·subst hb;rw[eC] at z;rw[hv];exact z
   ·rw[dB hb] at z;exact r.sub b u z
  ·rcases zD j _ hj with ⟨rfl,z⟩ | ⟨_,z⟩
   ·cases z;exact⟨_,h1,hr _ (Sm.put g) eC⟩
   ·obtain⟨x,h3,h4⟩:=r.sh j d' z;exact⟨x,h3,iA.mono (Sm.put g) d' h4⟩
  ·rcases zD j _ hj with ⟨_,z⟩ | ⟨ne,z⟩
   ·cases z
   ·obtain⟨b,h3,h4,h5⟩:=r.ow j d' p l z;have hb:b≠a:=λe=>by subst e;exact ne (r.inj _ _ _ _ _ _ _ _ _ z hd h3 h1)
    exact⟨b,h3,by rw[dB hb];exact h4,h5.mono (Sm.put g) λ_ z=>z⟩
  ·rcases zD j _ h3 with ⟨_,z⟩ | ⟨_,z⟩
   ·cases z
   ·rcases zD k' _ h4 with ⟨_,z'⟩ | ⟨_,z'⟩
    ·cases z'
    ·exact r.inj _ _ _ _ _ _ _ _ _ z z' h5 h6
  ·by_cases hb:b=a
   ·subst hb;exact absurd ⟨i,_,_,_,hd,h1⟩ h5
   ·rw[dB hb];exact h4
  ·exact hr _ (Sm.put g) eC
 ·cases e1
def dSa(h:PE X e (dI i)):PE X e (tH K P C (.v i)):=by
 refine TE.MC h λY H Q q=>?_
 obtain⟨U,G,vI,U',r,e1,k⟩:=q;simp only[hd] at e1;split at e1
 ·rename_i hb;cases e1;obtain⟨x,hx⟩:=r.bound hb;exact⟨x,hx,k x H G (AA.refl r) hx⟩
 ·cases e1
def y9(s:ZA G H)(h:LB K H G d x)(e:xK d=some b):VU K x H b:=by
 cases d<;>simp only[xK,WB,reduceCtorEq] at e
 ·have:=h.rA;subst this;exact e.symm
 ·have:=h.bl;subst this;exact e.symm
 ·have:=h.int;subst this;exact e.symm
 ·split at e
  ·rename_i hz;obtain⟨rfl,_⟩:=h.str;exact⟨lD hz (by decide),(wF e).symm⟩
  ·cases e
 ·obtain⟨a,vs,rfl,h1,h2⟩:=h.t s;refine .inr (.inl ⟨vs,h1, ?_⟩);rw[<- e]
  have:=h2.len
  cases vs<;>cases ‹List D›<;>simp_all
 ·obtain⟨a,vs,rfl,h1,h2⟩:=h.l s;refine .inl ⟨vs,h1, ?_⟩;rw[<- e]
  have:=h2.len
  cases vs<;>cases ‹List D›<;>simp_all
def tUa(hK:X.K=K)(h:PE X e (tE K P C c))(hw:∀U,ev P C true c U=aAg true (ev P C false c U))
  (he:∀whole,isTrue e X.env whole=(do let v <- whole;standAt e.pos;holding [v] (truthy v))):PT X e (tT K P C c):=by
 refine TT.GN (Ek h he) λY H Q q=>?_
 obtain⟨U,G,b,U',r,e1,k⟩:=q;rw[hw] at e1;obtain⟨u,b',e2,e3,e4⟩:=N9 e1;cases e4;refine⟨U,G,u,U',r,e2,λx H' G' a hv=>⟨b, ?_,k H' G' a⟩⟩;rw[hK];exact y9 a.pA.sub hv.oQ e3
end
mutual
theorem D2:∀(n:Nat) (d e:D),pC n d=true->pC n e=true->YQ (UC d) (UC e)=qI d e
 |n,.rA,e,_,h=>by cases e<;>first | (cases n<;>cases h;done) | rfl
 |n,.bl b,e,_,h=>by cases e<;>first | (cases n<;>cases h;done) | rfl
 |n,.int b,e,_,h=>by cases e<;>first | (cases n<;>cases h;done) | rfl
 |n,.str b,e,_,h=>by cases e<;>first | (cases n<;>cases h;done) | rfl
 |n+1,.t ds,e,h,h'=>by
  induction e using D.casesOn with
  |t es =>
   exact E2 n ds es (jF.mp h) (jF.mp h')
  |ins=>cases h'
  |CB=>cases h'
  |_=>rfl
 |n+1,.l ds,e,h,h'=>by
  induction e using D.casesOn with
  |l es =>
   exact E2 n ds es (jF.mp h) (jF.mp h')
  |ins=>cases h'
  |CB=>cases h'
  |_=>rfl
 | 0,.t ds,e,h,_=>by cases h
 | 0,.l ds,e,h,_=>by cases h
 |n,.ins _ _ _,_,h,_=>by cases n<;>cases h
 |n,.CB _ _,_,h,_=>by cases n<;>cases h
theorem E2:∀(n:Nat) (ds es:List D),(∀d∈ds,pC n d=true)->(∀d∈es,pC n d=true)->Tr (vH ds) (vH es)=rN ds es
 |n,[],[],_,_=>rfl
 |n,[],_::_,_,_=>rfl
 |n,_::_,[],_,_=>rfl
 |n,d::ds,e::es,h,h'=>by(show(YQ (UC d) (UC e)&&Tr (vH ds) (vH es))=(qI d e&&rN ds es);rw[D2 n d e (h d (by simp)) (h' e (by simp)),E2 n ds es (λx hx=>h x (by simp[hx])) (λx hx=>h' x (by simp[hx]))])
end
section
variable{K:fA}
mutual
theorem F8(I:cA X aA Y H s)(hK:X.K=K)(sub:ZA G H):∀(n:Nat) (d:D) (x:V) (u:dA),pC n d=true->iA K G d x->aAf x u->∃as,eR s.heap u (UC d) as/\GL (UC d)=true/\LL (UC d)<=n
 |n,.rA,x,u,_,h,r=>by
  simp only[iA] at h;subst h;cases r;exact⟨_,Reads.none,by simp[UC,GL],by simp[UC,LL]⟩
 |n,.bl b,x,u,_,h,r=>by
  simp only[iA] at h;subst h;cases r;exact⟨_,Reads.bool b,by simp[UC,GL],by simp[UC,LL]⟩
 |n,.int b,x,u,_,h,r=>by
  simp only[iA] at h;subst h;obtain⟨t,rfl⟩:=r;exact⟨_,Reads.int b t,by simp[UC,GL],by simp[UC,LL]⟩
 |n,.str b,x,u,_,h,r=>by
  simp only[iA] at h;obtain⟨rfl,hs⟩:=h;obtain⟨t,rfl⟩:=r;exact⟨_,Reads.str b t,by simpa[UC,GL] using hs,by simp[UC,LL]⟩
 |n+1,.t ds,x,u,ok,h,r=>by
  simp only[iA] at h;obtain⟨a,vs,rfl,h1,h2⟩:=h;cases r;obtain⟨gA,rv,⟨o,ho,hc,m,hd⟩,hz⟩:=I.tuple (show OC X.K H a vs from hK ▸ AL sub h1);obtain⟨as,r1,r2,r3⟩:=NX I hK sub n ds vs gA (jF.mp ok) h2 rv;exact⟨_,Reads.tuple ho hc hd (by simpa using r1),by simpa[UC,GL] using r2,by simp[UC,LL];lia⟩
 |n+1,.l ds,x,u,ok,h,r=>by
  simp only[iA] at h;obtain⟨a,vs,rfl,h1,h2⟩:=h;cases r;obtain⟨gA,rv,⟨o,m,ho,hc,hn,hd⟩,hz⟩:=I.list (show DB X.K H a vs from hK ▸ sub.seq h1);obtain⟨as,r1,r2,r3⟩:=NX I hK sub n ds vs gA (jF.mp ok) h2 rv;exact⟨_,Reads.list ho hc hd (by simpa using r1),by simpa[UC,GL] using r2,by simp[UC,LL];lia⟩
 | 0,.t ds,_,_,h,_,_=>by cases h
 | 0,.l ds,_,_,h,_,_=>by cases h
 |n,.ins _ _ _,_,_,h,_,_=>by cases n<;>cases h
 |n,.CB _ _,_,_,h,_,_=>by cases n<;>cases h
theorem NX(I:cA X aA Y H s)(hK:X.K=K)(sub:ZA G H):∀(n:Nat) (ds:List D) (xs:List V) (us:List dA),(∀d∈ds,pC n d=true)->nA K G ds xs->aAe xs us->∃as,ReadsAll s.heap us (vH ds) as/\Oa (vH ds)=true/\jb (vH ds)<=n
 |n,[],xs,us,_,h,r=>by
  simp only[nA] at h;subst h;cases r;exact⟨_,ReadsAll.nil,by simp[vH,Oa],by simp[vH,jb]⟩
 |n,d::ds,xs,us,ok,h,r=>by
  simp only[nA] at h;obtain⟨v,r',rfl,h1,h2⟩:=h
  cases r with
  |cons ra rb =>
   obtain⟨as,a1,a2,a3⟩:=F8 I hK sub n d v _ (ok d (by simp)) h1 ra;obtain⟨bs,b1,b2,b3⟩:=NX I hK sub n ds r' _ (λx hx=>ok x (by simp[hx])) h2 rb;exact⟨_,ReadsAll.cons a1 b1,by simp[vH,Oa,a2,b2],by simp[vH,jb];lia⟩
end
def cT(I:cA X aA Y H s)(hK:X.K=K)(sub:ZA G H)(n:Nat)(d:D)(x:V)(u:dA)(ok:pC n d=true)(h:LB K H G d x)(r:aAf x u):∃as,eR s.heap u (UC d) as/\GL (UC d)=true/\LL (UC d)<=n:=by
 rcases h with h | ⟨a,rfl,h⟩
 ·exact F8 I hK sub n d x u ok h r
 ·cases r
  cases d<;>first | exact h.elim | skip
  case ins=>cases n<;>cases ok
  rename_i ds;obtain⟨vs,h1,h2⟩:=h
  cases n with
  |zero=>cases ok
  |succ n =>
   obtain⟨gA,rv,⟨o,m,ho,hc,hn,hd⟩,hz⟩:=I.list (DB.of h1);obtain⟨as,r1,r2,r3⟩:=NX I hK sub n ds vs gA (jF.mp ok) h2 rv;exact⟨_,Reads.list ho hc hd (by simpa using r1),by simpa[UC,GL] using r2,by simp[UC,LL];lia⟩
def Made(K:fA)(H G:Hp)(v:RV)(x:V)(H':Hp):Prop :=
 (∃d,v=.sh d/\iA K G d x/\H'=H) \/
 (∃ds vs p,v=.ow (.l ds)/\H p=none/\nA K G ds vs/\x=.ref p/\H'=sA H p (.l vs)) \/
 (∃ds vs p,v=.sh (.t ds)/\H p=none/\nA K G ds vs/\x=.ref p/\H'=sA H p (.t vs))
def O7(h:∃ds vs p,v=.sh (.t ds)/\H p=none/\nA K G ds vs/\x=.ref p/\H'=sA H p (.t vs)):Made K H G v x H' :=
 .inr (.inr h)
def AA.made(a:AA K U Y H0 G0 U' H G)(m:Made K H G v x H2) :
  ∃G2,AA K U Y H0 G0 U' H2 G2/\EC K H2 G2 (xA U' Y) (UD H0) v x:=by
 rcases m with ⟨d,rfl,h,rfl⟩ | ⟨ds,vs,p,rfl,h,r,rfl,rfl⟩ | ⟨ds,vs,p,rfl,h,r,rfl,rfl⟩
 ·exact⟨G,a,h⟩
 ·exact⟨_,a.r8 h r⟩
 ·exact⟨_,a.To h r⟩
def dVa(K:fA)(op:ZM):R2:=λx y H Q=>∃G d e v,ZA G H/\LB K H G d x/\LB K H G e y/\(op=.Mult->∀ds,d=.l ds->∃a vs,x=.ref a/\H a=some (.l vs)/\nA K G ds vs)/\IB op d e=some v/\∀z H',Made K H G v z H'->Q z H'
def aAr:Made K H G (.sh (.int i)) (.int i) H:=.inl ⟨_,rfl,by simp[iA],rfl⟩
def nKa:Made K H G (.sh (.bl i)) (.bl i) H:=.inl ⟨_,rfl,by simp[iA],rfl⟩
def jO(h:yB n=true):n<=sizeLine:=lD (@TM _ (cl _) h) (by decide)
def dY(I:cA X aA Y H s)(h:DB X.K H a vs):∃(gA:List dA),aAe vs gA/\s.heap.IsList a gA.toArray/\vs.length<=sizeLine:=by
 obtain⟨gA,r,p,z⟩:=I.list h;exact⟨gA,r,p.isList,z⟩
def eVa(K:fA):R2:=λx y H Q=>∃l b xs zs,x=.ref l/\y=.ref b/\DB K H l xs/\DB K H b zs/\xs.length+zs.length<=sizeLine/\∀p,H p=none->Q (.ref p) (sA H p (.l (xs++zs)))
def qPa:aC X (AE .Add) (eVa X.K):=by
 intro aA s Y H x y v u Q I rx ry h;obtain⟨l,b,xs,zs,rfl,rfl,hH,hB,hz,q⟩:=h;cases rx;cases ry;obtain⟨gA,r,hl,z⟩:=dY I hH;obtain⟨nJ,r2,Z4,z2⟩:=dY I hB;have e1:=r.length;have e2:=r2.length;obtain⟨⟨cls,dd,data,sl⟩,ho,hc,n,hd⟩:=id hl;obtain⟨⟨Md,lP,data2,uQ⟩,eK,uM,n2,hd2⟩:=id Z4;simp only at hc hd uM hd2;subst hc hd uM hd2;refine bZ ⟨_,ho,rfl⟩ ⟨_,eK,rfl⟩ noFill_list_add seq_list_add PySem.F.slot_list_add PySem.F.entry_list_add (PySem.F.args_list_add_2 _ _) (list_addW l b gA.toArray nJ.toArray n n2 dd lP sl uQ (by simp;lia)) ⟨ho,eK, ?_⟩;have ea:gA.toArray++nJ.toArray=(gA++nJ).toArray:=by simp
 rw[ea];exact⟨.ref _,_,I.Ji (t':=s.toks) (r.append r2) (by rw[iF];lia),rfl,q _ I.fresh⟩
def sPa:aC X (AE .FloorDiv) (rI (λ_ j=>0<j/\j<100000000000000000000000000000000000000000000000000000000000000000000000000000000) λi j=>.int (i / j)):=iQ λi j _ _ _ _ _ hc q=>by
 have h1:(0:Int)<j:=hc.1;have h2:j<100000000000000000000000000000000000000000000000000000000000000000000000000000000:=hc.2;have h3:j.natAbs<2 ^ 300:=iE (by lia:j.natAbs<100000000000000000000000000000000000000000000000000000000000000000000000000000000) (by decide);have h4:j.natAbs.log2<300:=(DU (by lia)).mpr h3;exact PyProof.Rows.floordiv_int (by lia) (by rw[mq i (by lia)];exact q) (.inl (PyProof.noPylong_of_log2 (by lia)))
def xB(e:none=some v):False:=nomatch e
def pPa:aC X (AE .Add) (λx y H Q=>∃a b ys,x=.ref a/\y=.ref b/\OC X.K H a []/\OC X.K H b ys/\Q (.ref b) H):=by
 intro aA s Y H x y v u Q I rx ry h;obtain⟨a,b,ys,rfl,rfl,ha,hb,q⟩:=h;cases rx;cases ry;obtain⟨gA,r1,p1,_⟩:=I.tuple ha;obtain⟨nJ,r2,p2,_⟩:=I.tuple hb;have e0:gA=[]:=r1.nX.mpr rfl;subst e0;obtain⟨⟨cls,dd,data,sl⟩,ho,hc,n,hd⟩:=id p1;obtain⟨⟨Md,lP,data2,uQ⟩,eK,uM,n2,hd2⟩:=id p2;simp only at hc hd uM hd2;subst hc hd uM hd2
 exact bZ ⟨_,ho,rfl⟩ ⟨_,eK,rfl⟩ Sa Eb Z9 U9 (R9 _ _)
  (tuple_addW0 a b [].toArray nJ.toArray n n2 dd lP sl uQ rfl) ⟨ho,eK,⟨.ref b,H,I,rfl,q⟩⟩
def uZa(h1:jC x=true)(h2:jC y=true):jC (x++y)=true:=by
 show(x.cps++y.cps).all _=true;rw[Array.all_append,qA];exact⟨h1,h2⟩
def Ov(h:IB .Sub d e=some w):∃i j,d=.int i/\e=.int j/\w=.sh (.int (i-j)):=by
 induction d using D.casesOn with
 |int=>induction e using D.casesOn with
  |int=>cases h;exact⟨_,_,rfl,rfl,rfl⟩
  |_=>exact(xB h).elim
 |_=>exact(xB h).elim
def Jv(h:IB .FloorDiv d e=some w):∃i j,d=.int i/\e=.int j/\(0<j/\j<100000000000000000000000000000000000000000000000000000000000000000000000000000000)/\w=.sh (.int (i / j)):=by
 induction d using D.casesOn with
 |int=>induction e using D.casesOn with
  |int =>
   change @ite _ _ (cl _) _ none=_ at h;split at h
   ·rename_i hc;cases h;exact⟨_,_,rfl,rfl,hc,rfl⟩
   ·cases h
  |_=>exact(xB h).elim
 |_=>exact(xB h).elim
def Lv(h:IB .Mod d e=some w):∃i j,d=.int i/\e=.int j/\0<j/\w=.sh (.int (i % j)):=by
 induction d using D.casesOn with
 |int=>induction e using D.casesOn with
  |int =>
   change @ite _ _ (cl _) _ none=_ at h;split at h
   ·rename_i hc;cases h;exact⟨_,_,rfl,rfl,hc,rfl⟩
   ·cases h
  |_=>exact(xB h).elim
 |_=>exact(xB h).elim
def Mv(h:IB .Pow d e=some w):∃i j,d=.int i/\e=.int j/\KU i j/\w=.sh (.int (i ^ j.toNat)):=by
 induction d using D.casesOn with
 |int=>induction e using D.casesOn with
  |int =>
   change @ite _ _ (cl _) _ none=_ at h;split at h
   ·rename_i hc;cases h;exact⟨_,_,rfl,rfl,⟨hc.1,by lia,hc.2.2⟩,rfl⟩
   ·cases h
  |_=>exact(xB h).elim
 |_=>exact(xB h).elim
def Kv(h:IB .LShift d e=some w):∃i j,d=.int i/\e=.int j/\KU i j/\w=.sh (.int (i*2 ^ j.toNat)):=by
 induction d using D.casesOn with
 |int=>induction e using D.casesOn with
  |int =>
   change @ite _ _ (cl _) _ none=_ at h;split at h
   ·rename_i hc;cases h;exact⟨_,_,rfl,rfl,⟨hc.1,by lia,hc.2.2⟩,rfl⟩
   ·cases h
  |_=>exact(xB h).elim
 |_=>exact(xB h).elim
def Nv(h:IB .RShift d e=some w):∃i j,d=.int i/\e=.int j/\0<=j/\w=.sh (.int (i / 2 ^ j.toNat)):=by
 induction d using D.casesOn with
 |int=>induction e using D.casesOn with
  |int =>
   change @ite _ _ (cl _) _ none=_ at h;split at h
   ·rename_i hc;cases h;exact⟨_,_,rfl,rfl,hc,rfl⟩
   ·cases h
  |_=>exact(xB h).elim
 |_=>exact(xB h).elim
def Hv(h:IB .BitAnd d e=some w):∃i j,d=.int i/\e=.int j/\w=.sh (.int (lU i j)):=by
 induction d using D.casesOn with
 |int=>induction e using D.casesOn with
  |int=>cases h;exact⟨_,_,rfl,rfl,rfl⟩
  |_=>exact(xB h).elim
 |_=>exact(xB h).elim
def Iv(h:IB .BitOr d e=some w):∃i j,d=.int i/\e=.int j/\w=.sh (.int (cH i j)):=by
 induction d using D.casesOn with
 |int=>induction e using D.casesOn with
  |int=>cases h;exact⟨_,_,rfl,rfl,rfl⟩
  |_=>exact(xB h).elim
 |_=>exact(xB h).elim
def FR{f:Int->Int->Int}(h:aC X (AE op) (rI P λi j=>.int (f i j)))(I:cA X aA Y H s)(rx:aAf x v)(ry:aAf y u)(hx:LB X.K H G d x)(hy:LB X.K H G e y)(k:∀z H',Made X.K H G w z H'->Q z H')(z:∃i j,d=.int i/\e=.int j/\P i j/\w=.sh (.int (f i j))) :
  wA (model X.prog X.w) X.A (AE op v u) (EP X aA Y Q) X.xe s:=by
 obtain⟨i,j,rfl,rfl,hp,rfl⟩:=z;exact h aA s Y H x y v u Q I rx ry ⟨i,j,hx.int,hy.int,hp,k _ _ aAr⟩
def XZ{f:Int->Int->Int}(h:aC X (AE op) (pJ λi j=>.int (f i j)))(I:cA X aA Y H s)(rx:aAf x v)(ry:aAf y u)(hx:LB X.K H G d x)(hy:LB X.K H G e y)(k:∀z H',Made X.K H G w z H'->Q z H')(z:∃i j,d=.int i/\e=.int j/\w=.sh (.int (f i j))) :
  wA (model X.prog X.w) X.A (AE op v u) (EP X aA Y Q) X.xe s:=by
 obtain⟨i,j,rfl,rfl,rfl⟩:=z;exact h aA s Y H x y v u Q I rx ry ⟨i,j,hx.int,hy.int,k _ _ aAr⟩
def Tv(hK:X.K=K)(op:ZM):aC X (AE op) (dVa K op):=by
 intro aA s Y H x y v u Q I rx ry h;obtain⟨G,d,e,w,sub,hx,hy,hm,eb,k⟩:=h;subst hK
 cases op with
 |Add =>
  induction d using D.casesOn with
  |int =>
   induction e using D.casesOn with
   |int =>
    cases hx.int;cases hy.int;change some _=_ at eb;cases eb;exact mPa aA s Y H _ _ _ _ Q I rx ry ⟨_,_,rfl,rfl,k _ _ aAr⟩
   |_=>exact(xB eb).elim
  |l xs =>
   induction e using D.casesOn with
   |l ys =>
    change (if yB (xs.length+ys.length) then some _ else none)=_ at eb;split at eb
    ·rename_i hz;cases eb;obtain⟨a,vs,rfl,h1,h2⟩:=hx.l sub;obtain⟨b,ws,rfl,h3,h4⟩:=hy.l sub;refine qPa aA s Y H _ _ _ _ Q I rx ry ⟨a,b,vs,ws,rfl,rfl,h1,h3, ?_,λp hp=>k _ _ (.inr (.inl ⟨_,_,p,rfl,hp,h2.app h4,rfl,rfl⟩))⟩;rw[h2.len,h4.len];exact jO hz
    ·cases eb
   |_=>exact(xB eb).elim
  |str x0 =>
   induction e using D.casesOn with
   |str y0 =>
    change @ite _ (x0.length+y0.length<=1000000) (cl _) _ none=_ at eb;split at eb
    ·rename_i hz;cases eb;obtain⟨rfl,o1⟩:=hx.str;obtain⟨rfl,o2⟩:=hy.str;exact nPa aA s Y H _ _ _ _ Q I rx ry ⟨_,_,rfl,rfl,lD hz (by decide),k _ _ (.inl ⟨_,rfl,by unfold iA;exact⟨rfl,uZa o1 o2⟩,rfl⟩)⟩
    ·cases eb
   |_=>exact(xB eb).elim
  |t xs =>
   cases xs with
   |nil =>
    induction e using D.casesOn with
    |t O9 =>
     change some _=_ at eb;cases eb;have mS:=hy;obtain⟨a,vs,rfl,h1,h2⟩:=hx.t sub;obtain⟨b,ws,rfl,h3,h4⟩:=hy.t sub;have e1:vs=[]:=W9.mp h2.len;subst e1;refine pPa aA s Y H _ _ _ _ Q I rx ry ⟨a,b,ws,rfl,rfl,h1,h3, ?_⟩;rcases mS with mS | ⟨_,_,mS⟩
     ·exact k _ _ (.inl ⟨_,rfl,mS,rfl⟩)
     ·exact mS.elim
    |_=>exact(xB eb).elim
   |cons x0 xs0 =>
    induction e using D.casesOn with
    |t O9 =>
     change (if yB (xs0.length+1+O9.length) then some _ else none)=_ at eb;split at eb
     ·rename_i hz;cases eb;have EN:=hx;obtain⟨a,vs,rfl,h1,h2⟩:=hx.t sub;obtain⟨b,ws,rfl,h3,h4⟩:=hy.t sub;have e1:=h2.len;have e2:=h4.len;refine rPa aA s Y H _ _ _ _ Q I rx ry ⟨a,b,vs,ws,rfl,rfl,h1,h3, ?_, ?_,λhw=>?_,λhw p hp=>?_⟩
      ·intro z;subst z;simp at e1
      ·rw[e1,e2];exact jO hz
      ·subst hw;have e3:O9=[]:=W9.mp e2.symm;subst e3;rcases EN with EN | ⟨_,_,EN⟩
       ·exact k _ _ (.inl ⟨_,rfl,by simpa using EN,rfl⟩)
       ·exact EN.elim
      ·exact k _ _ (O7 ⟨_,_,p,rfl,hp,h2.app h4,rfl,rfl⟩)
     ·cases eb
    |_=>exact(xB eb).elim
  |_=>exact(xB eb).elim
 |Sub=>exact XZ hQa I rx ry hx hy k (Ov eb)
 |Mult =>
  induction d using D.casesOn with
  |int =>
   induction e using D.casesOn with
   |int =>
    cases hx.int;cases hy.int;change @ite _ _ (cl _) _ none=_ at eb;split at eb
    ·cases eb;exact aQa aA s Y H _ _ _ _ Q I rx ry ⟨_,_,rfl,rfl,‹_›,k _ _ aAr⟩
    ·cases eb
   |_=>exact(xB eb).elim
  |str x0 =>
   induction e using D.casesOn with
   |int n0 =>
    change @ite _ (iZ x0 n0/\jC (NI x0 n0)=true) (cl _) _ none=_ at eb;split at eb
    ·rename_i hz;cases eb;obtain⟨rfl,o1⟩:=hx.str;cases hy.int;exact bQa aA s Y H _ _ _ _ Q I rx ry ⟨_,_,rfl,rfl,hz.1,k _ _ (.inl ⟨_,rfl,by unfold iA;exact⟨rfl,hz.2⟩,rfl⟩)⟩
    ·cases eb
   |_=>exact(xB eb).elim
  |_=>exact(xB eb).elim
 |FloorDiv=>exact FR sPa I rx ry hx hy k (Jv eb)
 |Mod=>exact FR zPa I rx ry hx hy k (Lv eb)
 |Pow=>exact FR eQa I rx ry hx hy k (Mv eb)
 |LShift=>exact FR fQa I rx ry hx hy k (Kv eb)
 |RShift=>exact FR gQa I rx ry hx hy k (Nv eb)
 |BitAnd=>exact XZ oPa I rx ry hx hy k (Hv eb)
 |BitOr=>exact XZ dQa I rx ry hx hy k (Iv eb)
 |_=>exact(xB eb).elim
def bT(K:fA)(op:BH):R2:=λx y H Q=>∃G d e b,ZA G H/\LB K H G d x/\LB K H G e y/\mC op d e=some b/\Q (.bl b) H
def uP(h:iA K G d x)(f:xD d=true):XJ x=true/\∀(e:D) (y:V),iA K G e y->xD e=true->WK y x=qI e d:=by
 cases d<;>simp only[xD,FJ] at f<;>simp only[iA] at h
 ·subst h;refine⟨rfl,λe y hy fe=>?_⟩;cases e<;>simp only[xD,FJ] at fe<;>simp only[iA] at hy<;>(first | subst hy | (obtain⟨rfl,_⟩:=hy))<;>rfl
 ·subst h;refine⟨rfl,λe y hy fe=>?_⟩;cases e<;>simp only[xD,FJ] at fe<;>simp only[iA] at hy<;>(first | subst hy | (obtain⟨rfl,_⟩:=hy))<;>rfl
 ·subst h;refine⟨rfl,λe y hy fe=>?_⟩;cases e<;>simp only[xD,FJ] at fe<;>simp only[iA] at hy<;>(first | subst hy | (obtain⟨rfl,_⟩:=hy))<;>rfl
 ·obtain⟨rfl,_⟩:=h;refine⟨rfl,λe y hy fe=>?_⟩;cases e<;>simp only[xD,FJ] at fe<;>simp only[iA] at hy<;>(first | subst hy | (obtain⟨rfl,_⟩:=hy))<;>rfl
def LB.flat(h:LB K H G d x)(f:xD d=true):iA K G d x:=by
 rcases h with h | ⟨a,rfl,h⟩
 ·exact h
 ·cases d<;>first | exact h.elim | cases f
theorem qS(h:iA K G d x)(f:xD d=true):∀{ds:List D} {vs:List V},nA K G ds vs->ds.all xD=true->vs.all XJ=true/\NW x vs=inD d ds
 |[],vs,h2,_=>by simp only[nA] at h2;subst h2;exact⟨rfl,rfl⟩
 |e::ds,vs,h2,fs=>by
  simp only[nA] at h2;obtain⟨y,r,rfl,h3,h4⟩:=h2;rw[PB,qA] at fs;obtain⟨a1,a2⟩:=qS h f h4 fs.2;obtain⟨b1,_⟩:=uP h3 fs.1;have b2:=(uP h f).2 e y h3 fs.1;refine⟨by rw[PB,b1,a1];rfl, ?_⟩
  unfold NW inD at *
  rw[AK,AK,a2,b2]
def Xk(I:cA X aA Y H s)(hK:X.K=K)(sub:ZA G H)(hu:A.units+20<cLine)(od:pC 20 d=true)(oe:pC 20 e=true)(hx:LB K H G d x)(hy:LB K H G e y)(rx:aAf x v)(ry:aAf y u) :
  SeqAt.RcAt A s v u (qI d e)/\SeqAt.RcNeAt A s v u (!qI d e):=by
 obtain⟨as,a1,a2,a3⟩:=cT I hK sub 20 d x v od hx rx;obtain⟨bs,b1,b2,b3⟩:=cT I hK sub 20 e y u oe hy ry;rw[<- D2 20 d e od oe];exact⟨SeqAt.rcAt_reads a1 b1 a2 b2 (by lia),SeqAt.rcNeAt_reads a1 b1 a2 b2 (by lia)⟩
theorem Kc(I:cA X aA Y H s)(hK:X.K=K)(sub:ZA G H)(he:∀y da as,eR s.heap y da as->da.canLay0=true->e y=YQ da (UC d))(od:pC 19 d=true) :
  ∀{ds:List D} {vs:List V} {gA:List dA},nA K G ds vs->aAe vs gA->ds.all (pC 19)=true->gA.any e=inD d ds/\∀y∈gA,∃dj as,pC 19 dj=true/\eR s.heap y (UC dj) as/\(UC dj).canLay0=true/\(UC dj).depth<=19
 |[],_,_,h,r,_=>by
  cases (show _=[] from h);cases r;exact⟨rfl,λy hy=>nomatch hy⟩
 |dj::ds,_,_,h,r,o=>by
  obtain⟨x,vs',rfl,h1,h2⟩:=h;rw[PB,qA] at o
  cases r with
  |cons ra rb =>
   rename_i u us;obtain⟨as,a1,a2,a3⟩:=F8 I hK sub 19 dj x u o.1 h1 ra;obtain⟨k1,k2⟩:=Kc I hK sub he od h2 rb o.2;refine⟨?_,λy hy=>?_⟩
   ·unfold inD at k1 ⊢;rw[AK,AK,k1,he u _ _ a1 a2,D2 19 dj d o.1 od]
   ·rcases eD.mp hy with rfl | hy
    ·exact⟨dj,as,o.1,a1,a2,a3⟩
    ·exact k2 y hy
def Eg(I:cA X aA Y H s)(hK:X.K=K)(sub:ZA G H)(hu:X.A.units+40<cLine)(od:pC 19 d=true)(os:ds.all (pC 19)=true)(hx:LB K H G d x)(rx:aAf x v)(hl:DB K H a vs)(hr:nA K G ds vs){E:dA->zA->Prop} :
  (Q (.bool (inD d ds)) s->wA (model X.prog X.w) X.A (QE .In v (.ref a)) Q E s)/\(Q (.bool (!inD d ds)) s->wA (model X.prog X.w) X.A (QE .NotIn v (.ref a)) Q E s):=by
 obtain⟨gA,r,pl,hz⟩:=I.list (show DB X.K H a vs from hK ▸ hl);obtain⟨as,a1,a2,a3⟩:=cT I hK sub 19 d x v od hx rx
 have he:∃e:dA->Bool,∀y da bs,eR s.heap y da bs->da.canLay0=true->e y=YQ da (UC d):=by
  refine⟨λy=>@ite _ (∃da bs,eR s.heap y da bs/\da.canLay0=true/\YQ da (UC d)=true) (cl _) true false,λy da bs h1 h2=>?_⟩
  cases q:YQ da (UC d) with
  |true=>exact FA ⟨da,bs,h1,h2,q⟩
  |false =>
   refine vB λhz=>?_
   obtain⟨Ux,lV,h3,h4,h5⟩:=hz;rw[SeqAt.Reads.unique da Ux y bs lV h2 h1 h3,h5] at q;cases q
 obtain⟨e,he⟩:=he;obtain⟨k1,k2⟩:=Kc I hK sub he od hr r os
 have nW:∀y,y∈gA.toArray->Yb X.A.in1 s y v (e y):=λy hy=>by(obtain⟨dj,bs,oj,b1,b2,b3⟩:=k2 y (by simpa using hy);rw[he y _ _ b1 b2];have hun:X.A.in1.units=X.A.units+1:=rfl;exact ur _ _ _ _ _ _ _ _ b1 a1 b2 a2 (by lia))
 have ha:gA.toArray.any e=inD d ds:=by rw[show gA.toArray.any e=gA.any e by simp,k1]
 exact⟨λk=>Er e pl.isList nW (by rw[ha];exact k),λk=>Oq e pl.isList nW (by rw[ha];exact k)⟩
def xl(h:LB K H G d x):decide (x=.rA)=g8 d:=by
 rcases h with h | ⟨a,rfl,h⟩
 ·induction d using D.casesOn with
  |rA=>simp only[iA] at h;subst h;rfl
  |bl=>simp only[iA] at h;subst h;rfl
  |int=>simp only[iA] at h;subst h;rfl
  |str=>simp only[iA] at h;rw[h.1];rfl
  |t=>simp only[iA] at h;obtain⟨a,_,rfl,_⟩:=h;rfl
  |l=>simp only[iA] at h;obtain⟨a,_,rfl,_⟩:=h;rfl
  |_=>simp only[iA] at h;first | exact h.elim | (obtain⟨_,h⟩:=h;first | (obtain⟨rfl,_⟩:=h;rfl) | (obtain⟨_,h⟩:=h;first | (obtain⟨rfl,_⟩:=h;rfl) | (obtain⟨_,h⟩:=h;first | (obtain⟨rfl,_⟩:=h;rfl) | (obtain⟨_,rfl,_⟩:=h;rfl))))
 ·induction d using D.casesOn with
  |rA=>exact h.elim
  |_=>rfl
def lEa(h:n6 q d=some b):∃p,d=.bl p/\b=(p==q):=by
 induction d using D.casesOn with
 |bl p=>cases h;exact⟨p,rfl,rfl⟩
 |_=>exact(xB h).elim
def mKa(h:mC .Lt d e=some b):∃i j,d=.int i/\e=.int j/\b=decide (i<j):=by
 cases d with
 |int=>cases e with
  |int=>cases h;exact⟨_,_,rfl,rfl,rfl⟩
  |_=>exact(xB h).elim
 |_=>exact(xB h).elim
def rJa(h:mC .LtE d e=some b):∃i j,d=.int i/\e=.int j/\b=decide (i<=j):=by
 cases d with
 |int=>cases e with
  |int=>cases h;exact⟨_,_,rfl,rfl,rfl⟩
  |_=>exact(xB h).elim
 |_=>exact(xB h).elim
def fAa(h:mC .Gt d e=some b):∃i j,d=.int i/\e=.int j/\b=decide (j<i):=by
 induction d using D.casesOn with
 |int=>induction e using D.casesOn with
  |int=>cases h;exact⟨_,_,rfl,rfl,rfl⟩
  |_=>exact(xB h).elim
 |_=>exact(xB h).elim
def V'(h:mC .GtE d e=some b):∃i j,d=.int i/\e=.int j/\b=decide (j<=i):=by
 induction d using D.casesOn with
 |int=>induction e using D.casesOn with
  |int=>cases h;exact⟨_,_,rfl,rfl,rfl⟩
  |_=>exact(xB h).elim
 |_=>exact(xB h).elim
def rV{f:Int->Int->Bool}(h:aC X (QE op) (λx y H Q=>∃i j,x=.int i/\y=.int j/\Q (.bl (f i j)) H))(I:cA X aA Y H s)(rx:aAf x v)(ry:aAf y u)(hx:LB K H G d x)(hy:LB K H G e y)(k:Q (.bl b) H)(z:∃i j,d=.int i/\e=.int j/\b=f i j) :
  wA (model X.prog X.w) X.A (QE op v u) (EP X aA Y Q) X.xe s:=by
 obtain⟨i,j,rfl,rfl,rfl⟩:=z;exact h aA s Y H x y v u Q I rx ry ⟨i,j,hx.int,hy.int,k⟩
def jP(hK:X.K=K)(hu:X.A.units+64<cLine)(op:BH):aC X (QE op) (bT K op):=by
 intro aA s Y H x y v u Q I rx ry h;obtain⟨G,d,e,b,sub,hx,hy,eb,k⟩:=h
 cases op with
 |Eq =>
  change (if pC 20 d&&pC 20 e then some _ else none)=_ at eb;split at eb
  ·rename_i hc;cases eb;rw[qA] at hc;exact(Xk I hK sub (by lia) hc.1 hc.2 hx hy rx ry).1 _ _ _ _ ⟨.bl _,H,I,rfl,k⟩
  ·cases eb
 |NotEq =>
  change (if pC 20 d&&pC 20 e then some _ else none)=_ at eb;split at eb
  ·rename_i hc;cases eb;rw[qA] at hc;exact(Xk I hK sub (by lia) hc.1 hc.2 hx hy rx ry).2 _ _ _ _ ⟨.bl _,H,I,rfl,k⟩
  ·cases eb
 |Lt =>
  exact rV yPa I rx ry hx hy k (mKa eb)
 |LtE =>
  exact rV xPa I rx ry hx hy k (rJa eb)
 |Gt=>exact rV uPa I rx ry hx hy k (fAa eb)
 |GtE=>exact rV tPa I rx ry hx hy k (V' eb)
 |Is =>
  induction e using D.casesOn with
  |rA =>
   cases hy.rA;change some _=_ at eb;cases eb;refine wPa aA s Y H _ _ _ _ Q I rx ry ⟨rfl, ?_⟩;rw[xl hx];exact k
  |bl q =>
   obtain⟨p,rfl,rfl⟩:=lEa (show n6 q d=_ from eb);cases hx.bl;cases hy.bl;cases rx;cases ry;exact is_bool ⟨.bl _,H,I,rfl,k⟩
  |_=>exact(xB eb).elim
 |IsNot =>
  induction e using D.casesOn with
  |rA =>
   cases hy.rA;change some _=_ at eb;cases eb;refine cQa aA s Y H _ _ _ _ Q I rx ry ⟨rfl, ?_⟩;rw[xl hx];exact k
  |_=>exact(xB eb).elim
 |In =>
  induction e using D.casesOn with
  |t ds =>
   change (if xD d&&ds.all xD then some _ else none)=_ at eb;split at eb
   ·rename_i hc;cases eb;rw[qA] at hc;obtain⟨a,vs,rfl,h1,h2⟩:=hy.t sub;obtain⟨i1,i2⟩:=qS (hx.flat hc.1) hc.1 h2 hc.2;refine Mj aA s Y H _ _ _ _ Q I rx ry ⟨a,vs,rfl,.inr (hK ▸ h1),(uP (hx.flat hc.1) hc.1).1,i1, ?_⟩;simpa[i2] using k
   ·cases eb
  |l ds =>
   change (if xD d&&ds.all xD then some _ else if pC 19 d&&ds.all (pC 19) then some _ else none)=_ at eb;split at eb
   ·rename_i hc;cases eb;rw[qA] at hc;obtain⟨a,vs,rfl,h1,h2⟩:=hy.l sub;obtain⟨i1,i2⟩:=qS (hx.flat hc.1) hc.1 h2 hc.2;refine Mj aA s Y H _ _ _ _ Q I rx ry ⟨a,vs,rfl,.inl (hK ▸ h1),(uP (hx.flat hc.1) hc.1).1,i1, ?_⟩;simpa[i2] using k
   ·split at eb
    ·rename_i hc;cases eb;rw[qA] at hc;obtain⟨a,vs,rfl,h1,h2⟩:=hy.l sub;cases ry;exact(Eg I hK sub (by lia) hc.1 hc.2 hx rx h1 h2).1 ⟨.bl _,H,I,rfl,k⟩
    ·cases eb
  |str y0 =>
   induction d using D.casesOn with
   |str x0 =>
    change some _=_ at eb;cases eb;obtain⟨rfl,_⟩:=hx.str;obtain⟨rfl,_⟩:=hy.str;exact vPa aA s Y H _ _ _ _ Q I rx ry ⟨_,_,rfl,rfl,k⟩
   |_=>exact(xB eb).elim
  |_=>exact(xB eb).elim
 |NotIn =>
  induction e using D.casesOn with
  |t ds =>
   change (if xD d&&ds.all xD then some _ else none)=_ at eb;split at eb
   ·rename_i hc;cases eb;rw[qA] at hc;obtain⟨a,vs,rfl,h1,h2⟩:=hy.t sub;obtain⟨i1,i2⟩:=qS (hx.flat hc.1) hc.1 h2 hc.2;refine Nj aA s Y H _ _ _ _ Q I rx ry ⟨a,vs,rfl,.inr (hK ▸ h1),(uP (hx.flat hc.1) hc.1).1,i1, ?_⟩;simpa[i2] using k
   ·cases eb
  |l ds =>
   change (if xD d&&ds.all xD then some _ else if pC 19 d&&ds.all (pC 19) then some _ else none)=_ at eb;split at eb
   ·rename_i hc;cases eb;rw[qA] at hc;obtain⟨a,vs,rfl,h1,h2⟩:=hy.l sub;obtain⟨i1,i2⟩:=qS (hx.flat hc.1) hc.1 h2 hc.2;refine Nj aA s Y H _ _ _ _ Q I rx ry ⟨a,vs,rfl,.inl (hK ▸ h1),(uP (hx.flat hc.1) hc.1).1,i1, ?_⟩;simpa[i2] using k
   ·split at eb
    ·rename_i hc;cases eb;rw[qA] at hc;obtain⟨a,vs,rfl,h1,h2⟩:=hy.l sub;cases ry;exact(Eg I hK sub (by lia) hc.1 hc.2 hx rx h1 h2).2 ⟨.bl _,H,I,rfl,k⟩
    ·cases eb
  |_=>exact(xB eb).elim
end
section
variable{X:Cx}{K:fA}{aA:List (eA×rB)}{Y:St}{H G:Hp}{s:zA}
def Tc(h:nA K G ds vs)(e:aD ds i=some d):∃v,aD vs i=some v/\iA K G d v:=by
 unfold aD at e ⊢;rw[h.len]
 cases q:mE ds.length i with
 |none=>rw[q] at e;cases e
 |some j =>
  rw[q] at e;exact h.get e
def iVa(K:fA):R2:=λx y H Q=>∃G d e r,ZA G H/\LB K H G d x/\LB K H G e y/\zS d e=some r/\∀z,iA K G r z->Q z H
def NF.imp(h:NF X r)(w:∀x y H Q,r' x y H Q->r x y H Q):NF X r':=λva sl aA s Y H x y v u Q I rx ry q hs=>h va sl aA s Y H x y v u Q I rx ry (w x y H Q q) hs
def vZa(h:jC x=true)(e:aD x.cps.toList i=some c):jC ⟨#[c]⟩=true:=by
 unfold jC at *
 have hm:c∈x.cps.toList:=by
  unfold aD at e
  cases q:mE x.cps.toList.length i with
  |none=>rw[q] at e;cases e
  |some j=>rw[q] at e;exact OL e
 have:=OI.mp h c (by simpa using hm)
 simpa using this
def Ug:NF X (λ_ _ _ _=>False):=λ_ _ _ _ _ _ _ _ _ _ _ _ _ _ h _=>h.elim
def MX(K:fA):R2:=λ_ _ _ _=>False
def uFa(hu:X.A.units+11<cLine):NF X (MX X.K):=Ug
def wFa(hK:X.K=K)(hu:X.A.units+11<cLine):NF X (iVa K):=by
 refine NF.imp ((xFa.or Ug).or (uFa hu)) λx y H Q h=>?_
 obtain⟨G,d,e,r,sub,hx,hy,er,k⟩:=h;subst hK;unfold zS at er;split at er
 ·cases hy.int;obtain⟨a,vs,rfl,h1,h2⟩:=hx.t sub;obtain⟨v,h3,h4⟩:=Tc h2 er;exact .inl (.inl (.inr (.inl ⟨a,vs,_,v,rfl,rfl,h1,h3,k v h4⟩)))
 ·cases hy.int;obtain⟨a,vs,rfl,h1,h2⟩:=hx.l sub;obtain⟨v,h3,h4⟩:=Tc h2 er;exact .inl (.inl (.inl ⟨a,vs,_,v,rfl,rfl,h1,h3,k v h4⟩))
 ·split at er
  ·rename_i hz;cases hy.int;obtain⟨rfl,ok⟩:=hx.str
   cases q:aD ‹bA›.cps.toList ‹Int› with
   |none=>rw[q] at er;cases er
   |some c =>
    rw[q] at er;cases er;exact .inl (.inl (.inr (.inr ⟨_,_,c,rfl,rfl,lD hz (by decide),q,k _ (show iA X.K G (.str _) _ by simp only[iA];exact⟨trivial,vZa ok q⟩)⟩)))
  ·cases er
 ·cases er
def aAI(h:jC x=true):Made K H G (.sh (.str x)) (.str x) H:=.inl ⟨_,rfl,by simp[iA,h],rfl⟩
def Xd{lo hi:Option Int}(h:nA K G ds vs):nA K G (aAw ds lo hi) (jM vs lo hi):=by
 unfold aAw jM;rw[h.len];exact(h.drop _).take _
def mVa(K:fA):V->Option Int->Option Int->Hp->VK->Prop:=λx lo hi H Q=>∃G d v,ZA G H/\LB K H G d x/\iO d lo hi=some v/\∀z H',Made K H G v z H'->Q z H'
def mYa(hK:X.K=K):OJ X (mVa K):=by
 intro aA s Y H x v vl vu lo hi sl Q I rx hs pl pu h;obtain⟨G,d,r,sub,hx,er,k⟩:=h;subst hK;by_cases RH:∃y,d=.str y
 ·obtain⟨y,rfl⟩:=RH;change @ite _ (y.length<=1000000/\jC (RD y lo hi)=true) (cl _) _ none=_ at er;split at er
  ·rename_i hz;cases er;obtain⟨rfl,_⟩:=hx.str;exact nYa aA s Y H _ v vl vu lo hi sl Q I rx hs pl pu ⟨_,rfl,hz.1,k _ _ (aAI hz.2)⟩
  ·cases er
 refine OJ.or lYa oYa aA s Y H x v vl vu lo hi sl Q I rx hs pl pu ?_;unfold iO at er;split at er
 ·cases er;obtain⟨a,vs,rfl,h1,h2⟩:=hx.l sub;exact .inl ⟨a,vs,rfl,h1,λp hp=>k _ _ (.inr (.inl ⟨_,_,p,rfl,hp,Xd h2,rfl,rfl⟩))⟩
 ·split at er
  ·cases er
  ·rename_i hw;cases er;obtain⟨a,vs,rfl,h1,h2⟩:=hx.t sub;exact .inr ⟨a,vs,rfl,h1,by rw[h2.len];exact hw,λp hp=>k _ _ (O7 ⟨_,_,p,rfl,hp,Xd h2,rfl,rfl⟩)⟩
 ·exact absurd ⟨_,rfl⟩ RH
 ·cases er
def RU(K:fA)(H G:Hp):List D->List V->Prop
 |[],xs=>xs=[]
 |d::ds,xs=>∃x r,xs=x::r/\LB K H G d x/\RU K H G ds r
def HI(h:RU K H G [d] xs):∃x,xs=[x]/\LB K H G d x:=by
 obtain⟨x,r,rfl,h1,h2⟩:=h;cases (show r=[] from h2);exact⟨x,rfl,h1⟩
def Nk(K:fA)(f:BI):List V->Hp->VK->Prop:=λxs H Q=>∃G ds v,ZA G H/\RU K H G ds xs/\rD f ds=some v/\∀z H',Made K H G v z H'->Q z H'
noncomputable def UZ:BI->dA
 |.len=>.builtin "len"
 |.int=>.type "int"
 |.list=>.type "list"
 |.tuple=>.type "tuple"
 |.all=>.builtin "all"
 |.str=>.type "str"
 |.sum=>.builtin "sum"
theorem sd:∀{ds:List D} {vs:List V} {us:List dA} {bs:List Bool},nA K G ds vs->aAe vs us->jH ds=some bs->LSm.BoolsAre us bs
 |[],_,_,_,h,r,e=>by
  simp only[nA] at h;subst h;cases r;cases e;exact .nil
 |d::ds,_,_,_,h,r,e=>by
  simp only[nA] at h;obtain⟨v,r',rfl,h1,h2⟩:=h
  cases r with
  |cons ra rb =>
   cases d<;>simp only[jH,reduceCtorEq] at e;rename_i b
   cases q:jH ds with
   |none=>rw[q] at e;cases e
   |some lV =>
    rw[q] at e;cases e;simp only[iA] at h1;subst h1;cases ra;exact .cons b (sd h2 rb q)
def Sw(hc:X.A.handled=none):MF X (.builtin "all") (λxs H Q=>∃a vs ds bs G,xs=[.ref a]/\DB X.K H a vs/\nA X.K G ds vs/\jH ds=some bs/\Q (.bl (bs.all id)) H):=by
 intro aA s Y H xs us Q I r h;obtain⟨a,vs,ds,bs,G,rfl,h1,h2,h3,q⟩:=h;obtain⟨u,rfl,rx⟩:=aAA r;cases rx;obtain⟨gA,rv,hl,z⟩:=dY I h1;have hb:=sd h2 rv h3;have TC:a<s.heap.objs.size:=by obtain⟨_,e,_⟩:=hl;exact rC e
 refine call_all_walk (jU hl ?_)
 refine⟨s.heap.objs.size,[s.heap.objs.size,a],[s.heap.objs.size],gA.toArray.size,_,_,λi=>(bs[i]?).getD true,rfl,Walks.list (A:=X.A.in1) hc _ a (kE TC) gA.toArray,
  ⟨⟨_,EG _ rfl,rfl,rfl⟩,hl.push _⟩,λi v s' Q' E' hP hQ=>?_,λh' tk hk=>?_⟩
 ·obtain⟨b,e,rfl⟩:=hb.get i v (by simpa using hP);simp only[e,Option.getD_some] at hQ;exact SM hQ
 ·have e:((KC gA.toArray.size).all λi=>(bs[i]?).getD true)=bs.all id:=by
   rw[PD,hb.length];exact LSm.range_all bs
  rw[e];exact⟨.bl _,H,I.kept (t':=tk) (LSm.kept_iter hk),rfl,q⟩
theorem Ig:∀{ds:List D} {vs:List V} {us:List dA} {is:List Int},nA K G ds vs->aAe vs us->iK ds=some is->aR us is
 |[],_,_,_,h,r,e=>by
  simp only[nA] at h;subst h;cases r;cases e;exact .nil
 |d::ds,_,_,_,h,r,e=>by
  simp only[nA] at h;obtain⟨v,r',rfl,h1,h2⟩:=h
  cases r with
  |cons ra rb =>
   cases d<;>simp only[iK,reduceCtorEq] at e;rename_i b
   cases q:iK ds with
   |none=>rw[q] at e;cases e
   |some lV =>
    rw[q] at e;cases e;simp only[iA] at h1;subst h1;obtain⟨t,rfl⟩:=ra;exact .cons _ _ (Ig h2 rb q)
def ax(hc:X.calm=true):MF X (.builtin "sum") (λxs H Q=>∃a vs ds ns G,xs=[.ref a]/\DB X.K H a vs/\nA X.K G ds vs/\iK ds=some ns/\Q (.int ns.sum) H):=by
 intro aA s Y H xs us Q I r h;obtain⟨a,vs,ds,ns,G,rfl,h1,h2,h3,q⟩:=h;obtain⟨u,rfl,rx⟩:=aAA r;cases rx;obtain⟨gA,rv,hl,z⟩:=dY I h1;have hi:=Ig h2 rv h3;obtain⟨xs,e⟩:=hi.allInts.items
 have yI:ns=xs.toList.map (·.1):=by(rw[<- hi.numsOf,<- nums_intItems,<- e])
 rw[e] at hl;refine sum_intListG (I.ok.hd hc) hl λh' tk t' hk=>⟨.int _,H,I.kept hk,⟨t',rfl⟩, ?_⟩
 rw[preSum_eq,bN (by simp),<- yI];exact q
def aLa:UO X "int.bit_length" (λx xs H Q=>∃i,x=.int i/\xs=[]/\Q (.int (OO i)) H):=by
 intro aA s Y H x xs v us Q I rx r h;obtain⟨i,rfl,rfl,q⟩:=h;cases r;obtain⟨t,rfl⟩:=rx;exact call_int_bit_length ⟨.int _,H,I.tok _,⟨_,rfl⟩,q⟩
def Qv(hK:X.K=K)(hc:X.calm=true)(hh:X.A.handled=none)(rm:XB 2 X.A)(f:BI):MF X (UZ f) (Nk K f):=by
 intro aA s Y H xs us Q I r h;obtain⟨G,ds,v,sub,hx,e,k⟩:=h;subst hK
 induction f using BI.casesOn with
 |len =>
  obtain _ | ⟨d,_ | ⟨_,_⟩⟩:=ds
  ·exact(xB e).elim
  ·induction d using D.casesOn with
   |l =>
    change some _=_ at e;cases e;obtain⟨x,rfl,h1⟩:=HI hx;obtain⟨a,vs,rfl,h2,h3⟩:=h1.l sub;exact Dd aA s Y H _ us Q I r ⟨a,vs,rfl,.inl h2,by rw[h3.len];exact k _ _ aAr⟩
   |t =>
    change some _=_ at e;cases e;obtain⟨x,rfl,h1⟩:=HI hx;obtain⟨a,vs,rfl,h2,h3⟩:=h1.t sub;exact Dd aA s Y H _ us Q I r ⟨a,vs,rfl,.inr h2,by rw[h3.len];exact k _ _ aAr⟩
   |str x =>
    change @ite _ (x.length<=1000000) (cl _) _ none=_ at e;split at e
    ·rename_i hz;cases e;obtain⟨x,rfl,h1⟩:=HI hx;obtain⟨rfl,_⟩:=h1.str;exact Xw aA s Y H _ us Q I r ⟨_,rfl,lD hz (by decide),k _ _ aAr⟩
    ·cases e
   |_=>exact(xB e).elim
  ·cases d<;>exact(xB e).elim
 |int =>
  obtain _ | ⟨d,_ | ⟨_,_⟩⟩:=ds
  ·exact(xB e).elim
  ·induction d using D.casesOn with
   |int =>
    change some _=_ at e;cases e;obtain⟨x,rfl,h1⟩:=HI hx;cases h1.int;exact Bd aA s Y H _ us Q I r (.inl ⟨_,rfl,k _ _ aAr⟩)
   |bl =>
    change some _=_ at e;cases e;obtain⟨x,rfl,h1⟩:=HI hx;cases h1.bl;exact Bd aA s Y H _ us Q I r (.inr ⟨_,rfl,k _ _ aAr⟩)
   |str x =>
    change @ite _ (x.length<=640) (cl _) ((tU x).map _) none=_ at e;split at e
    ·rename_i hz
     cases q:tU x with
     |none=>rw[q] at e;cases e
     |some n =>
      rw[q] at e;cases e;obtain⟨x,rfl,h1⟩:=HI hx;obtain⟨rfl,_⟩:=h1.str;exact Tw aA s Y H _ us Q I r ⟨_,n,rfl,q,hz,k _ _ aAr⟩
    ·cases e
   |_=>exact(xB e).elim
  ·cases d<;>exact(xB e).elim
 |list=>exact(xB e).elim
 |tuple =>
  obtain _ | ⟨d,_ | ⟨_,_⟩⟩:=ds
  ·exact(xB e).elim
  ·induction d using D.casesOn with
   |l =>
    change some _=_ at e;cases e;obtain⟨x,rfl,h1⟩:=HI hx;obtain⟨a,vs,rfl,h2,h3⟩:=h1.l sub;exact Ed aA s Y H _ us Q I r ⟨a,vs,rfl,.inl ⟨h2,λp hp=>k _ _ (O7 ⟨_,_,p,rfl,hp,h3,rfl,rfl⟩)⟩⟩
   |t =>
    change some _=_ at e;cases e;obtain⟨x,rfl,h1⟩:=HI hx;have mH:=h1;obtain⟨a,vs,rfl,h2,h3⟩:=h1.t sub;refine Ed aA s Y H _ us Q I r ⟨a,vs,rfl,.inr ⟨h2, ?_⟩⟩;rcases mH with mH | ⟨_,_,mH⟩
    ·exact k _ _ (.inl ⟨_,rfl,mH,rfl⟩)
    ·exact mH.elim
   |_=>exact(xB e).elim
  ·cases d<;>exact(xB e).elim
 |sum =>
  obtain _ | ⟨d,_ | ⟨_,_⟩⟩:=ds
  ·exact(xB e).elim
  ·induction d using D.casesOn with
   |l ds =>
    change (iK ds).map _=_ at e
    cases q:iK ds with
    |none=>rw[q] at e;cases e
    |some ns =>
     rw[q] at e;cases e;obtain⟨x,rfl,h1⟩:=HI hx;obtain⟨a,vs,rfl,h2,h3⟩:=h1.l sub;exact ax hc aA s Y H _ us Q I r ⟨a,vs,ds,ns,G,rfl,h2,h3,q,k _ _ aAr⟩
   |_=>exact(xB e).elim
  ·cases d<;>exact(xB e).elim
 |all =>
  obtain _ | ⟨d,_ | ⟨_,_⟩⟩:=ds
  ·exact(xB e).elim
  ·induction d using D.casesOn with
   |l ds =>
    change (jH ds).map _=_ at e
    cases q:jH ds with
    |none=>rw[q] at e;cases e
    |some bs =>
     rw[q] at e;cases e;obtain⟨x,rfl,h1⟩:=HI hx;obtain⟨a,vs,rfl,h2,h3⟩:=h1.l sub;exact Sw hh aA s Y H _ us Q I r ⟨a,vs,ds,bs,G,rfl,h2,h3,q,k _ _ nKa⟩
   |_=>exact(xB e).elim
  ·cases d<;>exact(xB e).elim
 |str =>
  obtain _ | ⟨d,_ | ⟨_,_⟩⟩:=ds
  ·exact(xB e).elim
  ·cases d with
   |int i =>
    change @ite _ (i.natAbs.log2<1920/\jC (kA (toString i))=true) (cl _) _ none=_ at e;split at e
    ·rename_i hz;cases e;obtain⟨x,rfl,h1⟩:=HI hx;cases h1.int;exact Yw aA s Y H _ us Q I r ⟨_,rfl,hz.1,k _ _ (aAI hz.2)⟩
    ·cases e
   |str y =>
    change some _=_ at e;cases e;obtain⟨x,rfl,h1⟩:=HI hx;obtain⟨rfl,hy⟩:=h1.str;exact Zw aA s Y H _ us Q I r ⟨_,rfl,k _ _ (aAI hy)⟩
   |_=>exact(xB e).elim
  ·cases d<;>exact(xB e).elim
noncomputable def rY:Ty->V
 |.int=>.ty "int"
 |.bool=>.ty "bool"
 |.str=>.ty "str"
 |.list=>.ty "list"
 |.tuple=>.ty "tuple"
 |.dict=>.ty "dict"
 |.cls _=>.ty "dict"
 |.MT=>.ty "ValueError"
theorem LB.CB(sub:ZA G H)(h:LB K H G (.CB c n) x):∃a C p,x=.ref a/\fB K VA c=some (some (.ref C))/\lE K C/\H a=some (.ext (FH a C p))/\MK K H C p n:=by
 rcases h with h | ⟨a,rfl,h⟩
 ·simp only[iA] at h;obtain⟨a,C,p,e,h1,h2,h3,h4⟩:=h;exact⟨a,C,p,e,h1,h2,sub _ _ h3,h4.mono sub⟩
 ·exact h.elim
def tyW(t:Ty):dA:=match rY t with
 |.ty x=>.type x
 |_=>.none
def aFa(hK:X.K=K)(t:Ty):MF X (.builtin "isinstance") (λxs H Q=>∃G d x b,ZA G H/\xs=[x,rY t]/\LB K H G d x/\B6 t d=some b/\Q (.bl b) H):=by
 intro aA s Y H xs us Q I r h;obtain⟨G,d,x,b,sub,rfl,hx,e,q⟩:=h;subst hK;obtain⟨u,w,rfl,rx,qJ⟩:=aAP r;have fin:∀tk,EP X aA Y Q (.bool b) { s with toks:=tk }:=λtk=>⟨.bl b,H,I.tok tk,rfl,q⟩
 obtain rfl:w=tyW t:=by cases t<;>exact qJ
 cases d<;>first
   | (cases hx.rA;cases (show u=Value.none from rx);refine VM PySem.W.kitx_none I.wC True.intro ?_ (λz=>nomatch z) fin)
   | (cases hx.bl;cases (show u=Value.bool _ from rx);refine VM PySem.W.kitx_bool I.wC True.intro ?_ (λz=>nomatch z) fin)
   | (cases hx.int;obtain⟨_,q'⟩:=(show ∃t,u=Value.int _ t from rx);cases q';refine VM PySem.W.kitx_int I.wC True.intro ?_ (λz=>nomatch z) fin)
   | (obtain⟨rfl,_⟩:=hx.str;obtain⟨_,q'⟩:=(show ∃t,u=Value.str _ t from rx);cases q';refine VM PySem.W.kitx_str I.wC True.intro ?_ (λz=>nomatch z) fin)
   | (obtain⟨a,vs,rfl,h2,h3⟩:=hx.l sub;cases (show u=Value.ref a from rx);obtain⟨gA,_,⟨o,n,h4,h5,_⟩,_⟩:=I.list h2;refine VM PySem.W.kitx_list I.wC ⟨o,h4,h5⟩ ?_ (λz=>nomatch z) fin)
   | (obtain⟨a,vs,rfl,h2,h3⟩:=hx.t sub;cases (show u=Value.ref a from rx);obtain⟨gA,_,⟨o,h4,h5,_⟩,_⟩:=I.tuple h2;refine VM PySem.W.kitx_tuple I.wC ⟨o,h4,h5⟩ ?_ (λz=>nomatch z) fin)
   | (obtain⟨a,C,p,rfl,h2,h3,h4,_⟩:=hx.CB sub;cases (show u=Value.ref a from rx);cases t<;>cases e;exact VM (v7 h3) I.wC (I.IA a _ h4).1 (vIa h3) (λz=>nomatch z) fin)
   |skip
 all_goals (cases t<;>first | exact e | cases e)
end
section
variable{X:Cx}{aA:List (eA×rB)}{Y:L2.St}{H:Hp}{s:zA}{h':HB}
def pDa(I:cA X aA Y H s)(k:∀b u,b≠e->b≠it->s.heap.get? b=some u->h'.get? b=some u)(fe:uC X aA H e)(fi:uC X aA H it)(hp:s.heap.objs.size<=p)
  (new:XE X.prog X.w (sA H p o) h' p o):cA X aA Y (sA H p o) { s with heap:=h',toks:=t' }:=by
 have hn:H p=none:=I.IA.fresh hp;have ne:∀{b:eA} {u:HO},H b=some u->b≠e/\b≠it:=λq=>⟨dF q fe.1,dF q fi.1⟩
 have nc:∀{b:eA},b ∉ [e,it]->b≠e/\b≠it:=λhc=>⟨λz=>hc (by simp[z]),λz=>hc (by simp[z])⟩
 refine I.step (g':=s.gens) (d':=s.drawn) (ch:=[e,it]) (λb hb=>?_) (λb o _ _ hc q _=>k b o (nc hc).1 (nc hc).2 q) (λb o _ _ hc q _=>⟨o.slots,k b o (nc hc).1 (nc hc).2 q⟩)
  (λb o _ q n=>by rw[dB (kE (iE (rC q) hp))];exact n)
  (λb o hc q=>⟨o,k b o (nc hc).1 (nc hc).2 q⟩) (λb xs q=>by rw[dB (dF q hn)];exact q) (λb o u q=>by rw[dB (dF q hn)];exact q) (λb ps q=>⟨#[],by rw[dB (dF q hn),q];simp⟩) (λm hm=>?_) (λb u q=>?_) I.bare
 ·have hb:b=e\/b=it:=by simpa using hb
  rcases hb with rfl | rfl
  ·exact⟨fe.2.2.2.1,fe.2.1,fe.2.2.2.2.1,fe.2.2.2.2.2⟩
  ·exact⟨fi.2.2.2.1,fi.2.1,fi.2.2.2.2.1,fi.2.2.2.2.2⟩
 ·obtain⟨o,es,ep,ho,r⟩:=hm;exact⟨o,es,ep,k _ o (KD fe.2.1) (KD fi.2.1) ho,r⟩
 ·by_cases hb:b=p
  ·subst hb;rw[eC] at q;cases q;exact new
  ·rw[dB hb] at q;refine(I.IA b u q).sJ (λc v hc z=>?_) (λc q=>by rw[dB (dF q hn)];exact q) λc xs q=>by rw[dB (dF q hn)];exact q
   have PH:c≠e/\c≠it:=by
    rcases hc with w | w
    ·rw[w];exact ne q
    ·exact ne w
   exact k c v PH.1 PH.2 z
def uDa(I:cA X aA Y H s)(k:∀b u,b≠e->b≠it->s.heap.get? b=some u->h'.get? b=some u)(fe:uC X aA H e)(fi:uC X aA H it):cA X aA Y H { s with heap:=h',toks:=t' }:=by
 have ne:∀{b:eA} {u:HO},H b=some u->b≠e/\b≠it:=λq=>⟨dF q fe.1,dF q fi.1⟩
 have nc:∀{b:eA},b ∉ [e,it]->b≠e/\b≠it:=λhc=>⟨λz=>hc (by simp[z]),λz=>hc (by simp[z])⟩
 refine I.step (g':=s.gens) (d':=s.drawn) (ch:=[e,it]) (λb hb=>?_) (λb o _ _ hc q _=>k b o (nc hc).1 (nc hc).2 q) (λb o _ _ hc q _=>⟨o.slots,k b o (nc hc).1 (nc hc).2 q⟩)
  (λ_ _ _ _ n=>n) (λb o hc q=>⟨o,k b o (nc hc).1 (nc hc).2 q⟩) (λ_ _ q=>q) (λ_ _ _ q=>q) (λb ps q=>⟨#[],by rw[q];simp⟩) (λm hm=>?_) (λb u q=>?_) I.bare
 ·have hb:b=e\/b=it:=by simpa using hb
  rcases hb with rfl | rfl
  ·exact⟨fe.2.2.2.1,fe.2.1,fe.2.2.2.2.1,fe.2.2.2.2.2⟩
  ·exact⟨fi.2.2.2.1,fi.2.1,fi.2.2.2.2.1,fi.2.2.2.2.2⟩
 ·obtain⟨o,es,ep,ho,r⟩:=hm;exact⟨o,es,ep,k _ o (KD fe.2.1) (KD fi.2.1) ho,r⟩
 ·refine(I.IA b u q).sJ (λc v hc z=>?_) (λ_ q=>q) λ_ _ q=>q
  have PH:c≠e/\c≠it:=by
   rcases hc with w | w
   ·rw[w];exact ne q
   ·exact ne w
  exact k c v PH.1 PH.2 z
end
section
variable{prog:nE}{w:VC}{A:JF}{E:dA->zA->Prop}{s:zA}
def jy{Q:dA->zA->Prop}(q1:CJ s.heap e it c old)(q2:s.heap.IsListIter it l i)(q3:s.heap.IsList l us)(q4:us[i]?=some u)(ne:e≠it)
  (k:∀g,IsEnumOut g e it (c+1) u s.heap.objs.size->g.IsListIter it l (i+1)->g.get? s.heap.objs.size=some { cls:=.type "tuple",data:=.seq #[.int c s.toks,u] }->(∀b o,b≠e->b≠it->s.heap.get? b=some o->g.get? b=some o)->Q (.ref s.heap.objs.size) { s with heap:=g,toks:=s.toks+1 }) :
  wA (model prog w) A (Builtin.«enumerate.__next__» ⟨[.ref e],[]⟩) (λfin s'=>∃v,fin=.done (.ret v)/\Q v s') E s:=by
 obtain⟨m0,ge,dr,tk,os⟩:=s;refine BA (m:=field (.ref e) 2) (ZG q1 rfl (x:=.ref it) rfl (BA (wpAny_nextOf_list_item q2 q3 q4 λm1 t1 b1=>?_)));have b1:BK it m0 m1:=b1;have e1:CJ m1 e it c old:=(b1.2 e ne).trans q1;refine BA (m:=field (.ref e) 3) (ZG e1 rfl (x:=rawInt c) rfl (BA (m:=field (.ref e) 4) (ZG e1 rfl (x:=.none) rfl (BA (m:=mkInt c) (wpAny_mkInt ?_)))));refine BA (m:=setField (.ref e) 3 (rawInt (c+1))) (iU e1 (by simp) λm2 e2 b2=>?_);have b2:BK e m1 m2:=b2;have e2:CJ m2 e it (c+1) old:=e2;refine BA (m:=setField (.ref e) 4 .none) (iU e2 (by simp) λm3 e3 b3=>?_);have b3:BK e m2 m3:=b3;have e3:CJ m3 e it (c+1) old:=e3;refine BA (m:=newTuple [.int c tk,u]) (wpAny_newTuple ?_);have n3:m3.objs.size=m0.objs.size:=by rw[b3.1,b2.1,b1.1]
 have lt:e<m0.objs.size:=rC q1;obtain⟨m4,z4⟩:∃m4,m3.push { cls:=.type "tuple",data:=.seq #[.int c tk,u] }=m4:=⟨_,rfl⟩
 have e4:CJ m4 e it (c+1) old:=z4 ▸ NC _ e3;have p4:m4.get? m0.objs.size=some { cls:=.type "tuple",data:=.seq #[.int c tk,u] }:=z4 ▸ n3 ▸ EG _ rfl;have k4:∀b o,b≠e->b≠it->m0.get? b=some o->m4.get? b=some o:=λb o x y q=>z4 ▸ NC _ (b3.extBut b o x (b2.extBut b o x (b1.extBut b o y q)))
 have t4:m4.IsListIter it l (i+1):=by(obtain⟨o,ho,r⟩:=(t1.extBut b2.extBut ne.symm).extBut b3.extBut ne.symm;exact⟨o,z4 ▸ NC _ ho,r⟩)
 rw[n3,z4];refine BA (m:=fq (.ref e)) ?_;unfold fq;refine BA (ZG e4 rfl (x:=.none) rfl (GB ?_));simp only[if_true];refine BA (wpAny_rule (BA (ZG e4 rfl (x:=old) rfl (BA (iU e4 (by simp) λm5 e5 b5=>?_)))));have b5:BK e m4 m5:=b5;have e5:CJ m5 e it (c+1) u:=e5;refine BA (m:=dq (.ref e) (.ref m0.objs.size)) ?_;unfold dq;refine BA (iU e5 (by simp) λm6 e6 b6=>?_);have b6:BK e m5 m6:=b6;have e6:IsEnumOut m6 e it (c+1) u m0.objs.size:=e6;refine iU e6 (by simp) λm7 e7 b7=>?_
 have b7:BK e m6 m7:=b7;have st:∀b o,b≠e->m4.get? b=some o->m7.get? b=some o:=λb o x q=>b7.extBut b o x (b6.extBut b o x (b5.extBut b o x q))
 refine BA (wpAny_letGo (GB ⟨_,rfl,k m7 e7 ?_ (st _ _ (yU lt) p4) λb o x y q=>st b o x (k4 b o x y q)⟩));exact((t4.extBut b5.extBut ne.symm).extBut b6.extBut ne.symm).extBut b7.extBut ne.symm
def my(q1:CJ s.heap e it c old)(q2:s.heap.IsListIter it l i)(q3:s.heap.IsList l us)(q4:us[i]?=some u)(ne:e≠it)
  (k:∀g,IsEnumOut g e it (c+1) u s.heap.objs.size->g.IsListIter it l (i+1)->g.get? s.heap.objs.size=some { cls:=.type "tuple",data:=.seq #[.int c s.toks,u] }->(∀b o,b≠e->b≠it->s.heap.get? b=some o->g.get? b=some o)->Q (some (.ref s.heap.objs.size)) { s with heap:=g,toks:=s.toks+1 }) :
  wA (model prog w) A (pyNext (.ref e)) Q E s :=
 have ty:s.TypeIs (.ref e) "enumerate":=⟨_,q1,rfl⟩
 BA (Ib (V9 (name:=kA "__next__") ty GY (Ta GY ty yq (jy q1 q2 q3 q4 ne λg a b c d=>GB (k g a b c d)) (tq _))))
def oy(hh:A.handled=none)(q1:CJ s.heap e it c old)(q2:s.heap.IsListIter it l i)(q3:s.heap.IsList l us)(q4:us[i]?=none)
  (k:∀g,Heap.ExtBut it s.heap g->Q none { s with heap:=g }):wA (model prog w) A (pyNext (.ref e)) Q E s:=by
 have ty:s.TypeIs (.ref e) "enumerate":=⟨_,q1,rfl⟩
 refine BA (Ib (V9 (name:=kA "__next__") ty GY (Ta GY ty yq ?_ (tq _))));refine BA (m:=field (.ref e) 2) (ZG q1 rfl (x:=.ref it) rfl (BA (wpAny_nextOf_list_end hh q2 q3 q4 λg x ex px=>?_)));obtain⟨o,ho,hc⟩:=px;exact BA (wpAny_isInstance (T:="StopIteration") (b:=true) ⟨o,ho,hc⟩ isSubtype_stop (GB (k _ ex)))
end
def iy(l:eA)(us:Array dA)(n:Nat)(C1:Option eA)(sl:Array (Option dA))(c:Int)(t:Tok)(hc:jq c=true) :
  Meets (Builtin.«enumerate.__new__» ⟨[.type "enumerate",.ref l],[("start",.int c t)]⟩) (λ_ R s=>s.heap.get? l=some { cls:=.type "list",dict:=C1,data:=.seq us n,slots:=sl } /\
   R (.ok (.ret (.ref (s.heap.push { cls:=.type "list_iterator",data:=.fields #[.ref l,.int 0 0] }).objs.size)))
    { s with heap:=(s.heap.push { cls:=.type "list_iterator",data:=.fields #[.ref l,.int 0 0] }).push { cls:=.type "enumerate",data:=.fields #[.none,.bool false,.ref s.heap.objs.size,rawInt c,.none,.none] } }) :=
 .of_wp λprog w A R s h=>by
  obtain⟨hp,g,d,tk,os⟩:=s;obtain⟨hl,h⟩:=h;have sb:=sub_enumerate;have D6:Heap.IsList (Shared.heap ⟨hp,g,d,tk,os⟩) l us:=⟨_,hl,rfl,n,rfl⟩
  wp_walk using BY hl
  refine wpAny_stack_any λst=>GB ?_
  split
  ·rename_i v _ _ _ _ _;cases (v==Value.type "enumerate")
   ·wp_walk using BY hl,jU D6
    exact⟨_,rfl,h⟩
   ·wp_walk using BY hl,jU D6
    exact⟨_,rfl,h⟩
  ·wp_walk using BY hl,jU D6
   exact⟨_,rfl,h⟩
def dy(a:dA)(c:Int)(t:Tok):checkTypeCall "enumerate" ⟨[a],[("start",.int c t)]⟩=pure ():=by kernel_rfl
def ey(a:dA)(c:Int)(t:Tok):checkBuiltinCall "enumerate.__new__" ⟨[.type "enumerate",a],[("start",.int c t)]⟩=pure ():=by kernel_rfl
def gy:Meets (Builtin.«object.__init__» ⟨[a,b],kw⟩) (λ_ R s=>s.TypeIs a "enumerate"/\R (.ok (.ret .none)) s):=by
 refine Meets.of_wp λprog w A R s hs=>?_
 obtain⟨ty,hq⟩:=hs;have hl:typeLookup (.type "enumerate") "__init__"=pure (some (.builtin "object.__init__")):=Ka.init.lookup;have hm:=Ka.made;have jD:(some "enumerate.__new__" != some "object.__new__")=true:=by decide
 repeat (any_goals (first | assumption | wp_step))
 exact⟨_,rfl,hq⟩
def cy(a b:dA)(c:Int)(t:Tok):argsOk "object.__init__" ⟨[a,b],[("start",.int c t)]⟩:=by
 unfold argsOk;rw[signature?_of (id:="object.__init__") (n:="__init__".toList.reverse) (o:="object".toList.reverse) (by kernel_rfl) F.owner_object]
 kernel_rfl
section
variable{prog:nE}{w:VC}{A:JF}{E:dA->zA->Prop}{s:zA}
def qy(hc:jq c=true)(q:s.heap.IsList l us)
  (k:∀g,CJ g (s.heap.objs.size+1) s.heap.objs.size c .none->g.IsListIter s.heap.objs.size l 0->(∀b o,s.heap.get? b=some o->g.get? b=some o)->Q (.ref (s.heap.objs.size+1)) { s with heap:=g }) :
  wA (model prog w) A (call (.type "enumerate") [.ref l] [("start",.int c t)]) Q E s:=by
 have ft:=Ka;obtain⟨c0,tl,s4a⟩:=ft.mro;have r4a:=ft.made;have w4a:=ft.sub;obtain⟨⟨cl,C1,dt,sl⟩,hl,RC,n,hd⟩:=q;have RC:cl=.type "list":=RC;have hd:dt=.seq us n:=hd;subst RC hd;refine MO (codeAny_of_tree ?_);change wA _ _ (callAny (.type "enumerate") _) _ _ _;refine GB ⟨IY _ (by left),codeAny_builtin F.entry_type_call ?_⟩;rw[Around.under_plain (weight_type_call_type "enumerate" _ _) (units_type_call_type "enumerate" _ _)];have h1:=ft.notType;have h2:=ft.canCreate;have h3:=dy (.ref l) c t
 repeat (any_goals (first | assumption | wp_step))
 refine KL (cU ft.plain F.entry_enumerate_new (wpAny_of_eq (ey (.ref l) c t) (iy l us n C1 sl c t hc prog w A.in1 (wants (λobj s1=>s1.TypeIs obj "enumerate"/\Q obj s1) E) s ⟨hl, ?_⟩))) λr s1 hr=>?_
 ·have hz:(s.heap.push { cls:=.type "list_iterator",data:=.fields #[.ref l,.int 0 0] }).objs.size=s.heap.objs.size+1:=XY ..;change _/\_;rw[hz]
  have he:CJ ((s.heap.push { cls:=.type "list_iterator",data:=.fields #[.ref l,.int 0 0] }).push { cls:=.type "enumerate",data:=.fields #[.none,.bool false,.ref s.heap.objs.size,rawInt c,.none,.none] }) (s.heap.objs.size+1) s.heap.objs.size c .none:=by
   have x:=EG (s.heap.push { cls:=.type "list_iterator",data:=.fields #[.ref l,.int 0 0] }) (o:={ cls:=.type "enumerate",data:=.fields #[.none,.bool false,.ref s.heap.objs.size,rawInt c,.none,.none] }) rfl
   rwa[hz] at x
  exact⟨⟨_,he,rfl⟩,k _ he ⟨_,NC _ (EG _ rfl),rfl,rfl⟩ λb o x=>NC _ (NC _ x)⟩
 ·cases r with
  |error e=>exact hr
  |ok fl =>
   cases fl with
   |ret obj =>
    have hT:s1.TypeIs obj "enumerate":=hr.1;have hli:=ft.init.lookup;have hbi:=ft.init.bind obj
    repeat (any_goals (first | assumption | wp_step))
    refine KL (cU ft.init.plain F.entry_object_init (ft.init.check _ _ _ _ _ _ _ _ hT (cy obj (.ref l) c t) (gy prog w A.in1 (wants (λr s2=>r=.none/\Q obj s2) E) s1 ⟨hT,rfl,hr.2⟩))) λr2 s2 QH=>?_
    cases r2 with
    |error e=>exact QH
    |ok F_ =>
     cases F_ with
     |ret r =>
      obtain⟨rfl,hq⟩:=QH
      repeat (any_goals (first | assumption | wp_step))
     |_=>exact QH.elim
   |_=>exact hr.elim
end
noncomputable def mZ(K:fA)(a:eA)(lo:Int):It :=
 ⟨λi H=>∃xs x,DB K H a xs/\xs[i]?=some x,λi H x H'=>∃p y,H p=none/\x=.ref p/\H'=sA H p (.t [.int (lo+(i:Int)),y])/\∀xs,DB K H a xs->xs[i]?=some y,λi H=>∃xs,DB K H a xs/\xs.length<=i⟩
def Uo{K:fA}(a e it:eA)(lo:Int)(Df:e≠it):Turn P w K (.Tuple elts k0 pos) (mZ K a lo) [e,it] e (λi h=>(∃old,CJ h e it (lo+(i:Int)) old)/\h.IsListIter it a i) where
 mem:=by simp
 obj:=λi h st b hb=>by
  obtain⟨⟨old,h1⟩,o,h2,c,d⟩:=st;have hb:b=e\/b=it:=by simpa using hb
  rcases hb with rfl | rfl
  ·exact⟨_,h1,λv z=>by
    have z':Data.fields _=Data.cell v:=z
    cases z'⟩
  ·exact⟨o,h2,λv z=>by rw[d] at z;cases z⟩
 keep:=λi h h' st k=>by(obtain⟨⟨old,h1⟩,h2⟩:=st;exact⟨⟨old,k e (by simp) _ h1⟩,h2.at λo q=>k it (by simp) o q⟩)
 item:=by
  intro X hP hw hK hc i aA s Y H E I hf st hg;subst hP hw hK;obtain⟨xs,x,hq,hx⟩:=hg;obtain⟨gA,rv,p,hz⟩:=I.list hq;obtain⟨u,hu,ru⟩:=rv.get hx;obtain⟨⟨old,he⟩,hit⟩:=st;have fe:=hf e (by simp);have fi:=hf it (by simp);refine my he hit p.isList (by simpa using hu) Df λh' ho pBa hT hk=>?_
  refine⟨_,rfl,wpAny_letOwnedTupleGo_enum ho λh2 he2 zI=>?_⟩;have sW:e<s.heap.objs.size:=rC he;have nBa:it<s.heap.objs.size:=by obtain⟨_,q,_⟩:=hit;exact rC q
  have ke:∀b u,b≠e->b≠it->s.heap.get? b=some u->h2.get? b=some u:=λb u n1 n2 q=>(zI.2 b n1).trans (hk b u n1 n2 q)
  have hT2:h2.get? s.heap.objs.size=some { cls:=.type "tuple",data:=.seq #[.int (lo+(i:Int)) s.toks,u] }:=(zI.2 _ (yU sW)).trans hT;have yM:H s.heap.objs.size=none:=I.IA.fresh (JB _);have I2:cA X aA Y (sA H s.heap.objs.size (.t [.int (lo+(i:Int)),x])) { s with heap:=h2,toks:=s.toks+1 }:=pDa I ke fe fi (JB _) ⟨by rw[ML];simp,[.int (lo+(i:Int)) s.toks,u],.cons ⟨_,rfl⟩ (.cons ru .nil),⟨_,hT2,rfl,_,rfl⟩⟩;refine⟨.ref s.heap.objs.size,sA H s.heap.objs.size (.t [.int (lo+(i:Int)),x]),I2,rfl,⟨s.heap.objs.size,x,yM,rfl,rfl,λys hy=>by rw[I.Ii hy hq];exact hx⟩,⟨⟨_,by rw[Int.natCast_add,Int.natCast_one,<- Int.add_assoc];exact he2⟩,pBa.at λo q=>(zI.2 it Df.symm).trans q⟩,λb hb=>?_⟩
  ·have hb:b=e\/b=it:=by simpa using hb
   rcases hb with rfl | rfl
   ·rw[dB (kE sW)];exact fe.1
   ·rw[dB (kE nBa)];exact fi.1
 done:=by(intro X hP hw hK hc i aA s Y H E I hf st hg;subst hP hw hK;obtain⟨xs,hq,hx⟩:=hg;obtain⟨gA,rv,p,hz⟩:=I.list hq;obtain⟨⟨old,he⟩,hit⟩:=st;have hl:=rv.length;exact oy (I.ok.hd hc) he hit p.isList (by simp;lia) λh' eb=>⟨rfl,uDa (t':=s.toks) I (λb o _ n2 q=>eb b o n2 q) (hf e (by simp)) (hf it (by simp))⟩)
 self:=λ_ _ _ _ _ st h=>by(obtain⟨⟨old,he⟩,_⟩:=st;exact Pa he h)
section
variable{X:Cx}
def T5(K:fA)(lo:Int)(ta:TA):TI:=λY H R=>ta Y H λvs H1=>∃a,vs=[.ref a]/\(∃xs,DB K H1 a xs)/\R (mZ K a lo) H1
def td:JL "enumerate"=some (.type "enumerate"):=by left
def fk{ta:TA}(hg:Gl X "enumerate")(hm:X.mg "enumerate"=none)(ha:PA X [a] ta)(hs:zB [a] X.env=[(false,eval a X.env)]:=by rfl):PI X (.Tuple elts k0 v1a) (.Call (.Name "enumerate" p) [a] [] pos) (T5 X.K 0 ta):=by
 intro aA s Y H R I h;refine Call_ (QN I hg hm td (xY (RA (ha pos aA s Y H _ I h) λus s1 hz=>?_) hs rfl));obtain⟨vs,H1,I1,r1,q1⟩:=hz;obtain⟨l,e,⟨xs,hq⟩,q⟩:=q1;subst e
 cases r1 with
 |cons r rr =>
  cases rr;cases r;obtain⟨gA,rv,p,hz⟩:=I1.list hq;refine call_enumerate_list p.isList λh' he hit wB hk=>?_
  have I2:cA X aA Y H1 { s1 with heap:=h' }:=I1.kept (t':=s1.toks) hk;refine Pa he ?_;refine⟨s1.heap.objs.size+1,[s1.heap.objs.size+1,s1.heap.objs.size],_,_,H1,rfl,I2,Uo l _ _ 0 (xr _),⟨⟨_,by simpa using he⟩,hit⟩,λb hb=>?_,q⟩;have hb:b=s1.heap.objs.size+1\/b=s1.heap.objs.size:=by simpa using hb
  rcases hb with rfl | rfl
  ·exact I1.qM (LO _) (I1.IA.fresh (LO _))
  ·exact I1.qM (JB _) (I1.IA.fresh (JB _))
def lSa{j:Nat}(hg:Gl X "enumerate")(hm:X.mg "enumerate"=none)(ha:PA X [a] ta)(hs:zB [a] X.env=[(false,eval a X.env)]:=by rfl) :
  PI X (.Tuple elts k0 v1a) (.Call (.Name "enumerate" p) [a] [⟨some "start",.Constant (.int 1) j kq,kp⟩] pos) (T5 X.K 1 ta):=by
 intro aA s Y H R I h;refine yO (QN I hg hm td ?_);refine PySem.W.callWith_of (P:=λ_=>True) (by rw[hs];rfl) (λ_ _=>⟨.machine,.inr (.inl rfl),PySem.W.Looks.now⟩) (evalArgs_kw2 rfl (RA (ha pos aA s Y H _ I h) λus s1 hz=>?_) hs);obtain⟨vs,H1,I1,r1,q1⟩:=hz;obtain⟨l,e,⟨xs,hq⟩,q⟩:=q1;subst e
 cases r1 with
 |cons r rr =>
  cases rr;cases r;refine RA (qSa (nm:=some "start") (kpos:=kp) (Xj (i:=1) (pos:=kq)) rSa pos aA s1 Y H1 (λzs H2=>zs=[.int 1]/\H2=H1) I1 ⟨rfl,rfl⟩) λws s2 ⟨zs,H2,I2,rz,ez,eh⟩=>⟨trivial, ?_⟩
  subst ez eh
  cases rz with
  |cons rz rn =>
   cases rn;obtain⟨t,rfl⟩:=rz;obtain⟨gA,rv,p,hz⟩:=I2.list hq;refine qy (c:=1) (by decide) p.isList λh' he hit hk=>?_
   have I3:cA X aA Y H2 { s2 with heap:=h' }:=I2.kept (t':=s2.toks) hk;refine Pa he ?_;refine⟨s2.heap.objs.size+1,[s2.heap.objs.size+1,s2.heap.objs.size],_,_,H2,rfl,I3,Uo l _ _ 1 (xr _),⟨⟨_,by simpa using he⟩,hit⟩,λb hb=>?_,q⟩;have hb:b=s2.heap.objs.size+1\/b=s2.heap.objs.size:=by simpa using hb
   rcases hb with rfl | rfl
   ·exact I2.qM (LO _) (I2.IA.fresh (LO _))
   ·exact I2.qM (JB _) (I2.IA.fresh (JB _))
end
end CI
namespace CI
open PySem PySem.Spec PyProof.Rows L2
section
variable{K:fA}{U U1:Env}
def rH{l:List O}(h:(l.set i a)[j]?=some b):(j=i/\b=a/\i<l.length)\/(j≠i/\l[j]?=some b):=by
 by_cases xI:j=i
 ·subst xI;by_cases hl:j<l.length
  ·rw[gI hl] at h;exact .inl ⟨rfl,(wF h).symm,hl⟩
  ·rw[sO (by rw[kF];lia)] at h;cases h
 ·rw[gE (λz=>xI z.symm)] at h;exact .inr ⟨xI,h⟩
def CA.unset(r:CA K U Y H G)(i:Nat):CA K (U.set i .un) Y H G:=by
 refine⟨by rw[kF];exact r.len,r.sub,λj d h=>?_,λj d p l h=>?_,λj k d p l d' p' l' a h1 h2 h3 h4=>?_⟩
 ·rcases rH h with ⟨_,z,_⟩ | ⟨_,z⟩
  ·cases z
  ·exact r.sh j d z
 ·rcases rH h with ⟨_,z,_⟩ | ⟨_,z⟩
  ·cases z
  ·exact r.ow j d p l z
 ·rcases rH h1 with ⟨_,z,_⟩ | ⟨_,z⟩
  ·cases z
  ·rcases rH h2 with ⟨_,z',_⟩ | ⟨_,z'⟩
   ·cases z'
   ·exact r.inj _ _ _ _ _ _ _ _ _ z z' h3 h4
def xA.unset{i:Nat}{a:eA}(h:xA (U.set i .un) Y a):xA U Y a:=by
 obtain⟨j,d,p,l,h1,h2⟩:=h;rcases rH h1 with ⟨_,z,_⟩ | ⟨_,z⟩
 ·cases z
 ·exact⟨j,d,p,l,z,h2⟩
def CA.FQ(r:CA K U Y H G){d:D}(h:U[i]?=some (.ow d p l))(hx:Y[i]?=some (some (.ref a))):¬xA (U.set i .un) Y a:=by
 rintro⟨j,d',p',l',h1,h2⟩
 rcases rH h1 with ⟨_,z,_⟩ | ⟨ne,z⟩
 ·cases z
 ·exact ne (r.inj _ _ _ _ _ _ _ _ _ z h h2 hx)
def CA.grow(r:CA K U Y H G)(hv:H a=some ob)(g:G a=none)(no:¬xA U Y a):CA K U Y H (sA G a ob):=by
 refine⟨r.len,λb u e=>?_,λi d e=>?_,λi d p l e=>?_,r.inj⟩
 ·by_cases hb:b=a
  ·subst hb;rw[eC] at e;rw[hv];exact e
  ·rw[dB hb] at e;exact r.sub b u e
 ·obtain⟨v,h1,h2⟩:=r.sh i d e;exact⟨v,h1,iA.mono (Sm.put g) d h2⟩
 ·obtain⟨b,h1,h2,h3⟩:=r.ow i d p l e;have hb:b≠a:=λz=>by subst z;exact no ⟨i,d,p,l,e,h1⟩
  exact⟨b,h1,by rw[dB hb];exact h2,h3.mono (Sm.put g) λ_ z=>z⟩
def CA.nQ(r:CA K (U.set i .un) Y H G){d:D}{v:V}(hx:Y[i]?=some (some v))(hr:iA K G d v):CA K (U.set i (.sh d)) Y H G:=by
 have key:∀(j:Nat) (sl:Sl),(U.set i (.sh d))[j]?=some sl->(j=i/\sl=.sh d)\/(U.set i .un)[j]?=some sl:=λj sl h=>by
  rcases rH h with ⟨e,z,_⟩ | ⟨ne,z⟩
  ·exact .inl ⟨e,z⟩
  ·exact .inr (by rw[gE (λq=>ne q.symm)];exact z)
 refine⟨by have:=r.len;rw[kF] at this ⊢;exact this,r.sub,λj d' h=>?_,λj d' p l h=>?_,λj k d1 p l d2 p' l' a h1 h2 h3 h4=>?_⟩
 ·rcases key j _ h with ⟨rfl,z⟩ | z
  ·cases z;exact⟨v,hx,hr⟩
  ·exact r.sh j d' z
 ·rcases key j _ h with ⟨rfl,z⟩ | z
  ·cases z
  ·exact r.ow j d' p l z
 ·rcases key j _ h1 with ⟨rfl,z⟩ | z
  ·cases z
  ·rcases key k _ h2 with ⟨rfl,z'⟩ | z'
   ·cases z'
   ·exact r.inj _ _ _ _ _ _ _ _ _ z z' h3 h4
def CA.XN(r:CA K (U.set i .un) Y H G){d:D}{a:eA}(hx:Y[i]?=some (some (.ref a)))(g:G a=none)(ho:HG K H G a d)(no:¬xA (U.set i .un) Y a):CA K (U.set i (.ow d p l)) Y H G:=by
 have key:∀(j:Nat) (sl:Sl),(U.set i (.ow d p l))[j]?=some sl->(j=i/\sl=.ow d p l)\/(U.set i .un)[j]?=some sl:=λj sl h=>by
  rcases rH h with ⟨e,z,_⟩ | ⟨ne,z⟩
  ·exact .inl ⟨e,z⟩
  ·exact .inr (by rw[gE (λq=>ne q.symm)];exact z)
 refine⟨by have:=r.len;rw[kF] at this ⊢;exact this,r.sub,λj d' h=>?_,λj d' p' l' h=>?_,λj k d1 p1 l1 d2 p2 l2 b h1 h2 h3 h4=>?_⟩
 ·rcases key j _ h with ⟨rfl,z⟩ | z
  ·cases z
  ·exact r.sh j d' z
 ·rcases key j _ h with ⟨rfl,z⟩ | z
  ·cases z;exact⟨a,hx,g,ho⟩
  ·exact r.ow j d' p' l' z
 ·rcases key j _ h1 with ⟨rfl,z⟩ | z
  ·rcases key k _ h2 with ⟨rfl,z'⟩ | z'
   ·rfl
   ·rw[hx] at h3;cases h3;exact absurd ⟨k,_,_,_,z',h4⟩ no
  ·rcases key k _ h2 with ⟨rfl,z'⟩ | z'
   ·rw[hx] at h4;cases h4;exact absurd ⟨j,_,_,_,z,h3⟩ no
   ·exact r.inj _ _ _ _ _ _ _ _ _ z z' h3 h4
def xA.nQ{i:Nat}{a:eA}(h:xA (U.set i (.sh d)) Y a):xA (U.set i .un) Y a:=by
 obtain⟨j,d',p,l,h1,h2⟩:=h;rcases rH h1 with ⟨_,z,_⟩ | ⟨ne,z⟩
 ·cases z
 ·exact⟨j,d',p,l,by rw[gE (λq=>ne q.symm)];exact z,h2⟩
def xA.XN{d:D}(hx:Y[i]?=some (some (.ref b)))(h:xA (U.set i (.ow d p l)) Y a):a=b\/xA (U.set i .un) Y a:=by
 obtain⟨j,d',p',l',h1,h2⟩:=h;rcases rH h1 with ⟨rfl,z,_⟩ | ⟨ne,z⟩
 ·rw[hx] at h2;cases h2;exact .inl rfl
 ·exact .inr ⟨j,d',p',l',by rw[gE (λq=>ne q.symm)];exact z,h2⟩
def VE.grow(r:VE K H G own new Y h x)(s:ZA G G2)(k:∀a d,h=.val (.ow d)->x=.ref a->G2 a=none)(w:∀a,rF a->own a):VE K H G2 rF new Y h x:=by
 induction h using Hd.casesOn with
 |slot i=>exact r
 |val v =>
  induction v using RV.casesOn with
  |sh d=>exact iA.mono s d r
  |ow d =>
   obtain⟨a,rfl,g,o,n,m⟩:=r;exact⟨a,rfl,k a d rfl rfl,o.mono s λ_ z=>z,λz=>n (w a z),m⟩
  |od d=>exact r.elim
theorem VD.OM:∀{hs:List Hd} {xs:List V} {a:eA},VD K H G own new Y hs xs->JG hs xs a->¬own a/\new a/\H a≠none/\G a=none
 |[],_,_,h,t=>by cases (show _=[] from h);exact t.elim
 |h::hs,_,a,r,t=>by
  obtain⟨x,r',rfl,h1,h2,h3⟩:=r;have tl:JG hs r' a->¬own a/\new a/\H a≠none/\G a=none:=λt=>VD.OM h2 t
  induction h using Hd.casesOn with
  |slot i=>exact tl t
  |val v =>
   induction v using RV.casesOn with
   |sh d=>exact tl t
   |ow d =>
    rcases t with rfl | t
    ·obtain⟨b,e,g,o,n,m⟩:=h1;cases e;obtain⟨vs,hv⟩:=o.there;exact⟨n,m,by rw[hv];simp,g⟩
    ·exact tl t
   |od d=>exact h1.elim
theorem VD.grow:∀{hs:List Hd} {xs:List V},VD K H G own new Y hs xs->∀{G2:Hp},ZA G G2->(∀a,JG hs xs a->G2 a=none)->(∀a,rF a->own a)->VD K H G2 rF new Y hs xs
 |[],_,h,_,_,_,_=>h
 |h::hs,_,r,G2,s,k,w=>by
  obtain⟨x,r',rfl,h1,h2,h3⟩:=r;refine⟨x,r',rfl,h1.grow s (λa d e1 e2=>k a (by subst e1;exact .inl e2)) w,VD.grow h2 s (λa t=>k a ?_) w,h3⟩
  induction h using Hd.casesOn with
  |slot i=>exact t
  |val v =>
   induction v using RV.casesOn with
   |sh d=>exact t
   |ow d=>exact .inr t
   |od d=>exact h1.elim
def CA.nil(s:ZA G H):CA K [] [] H G:=⟨rfl,s,λi d h=>by simp at h,λi d p l h=>by simp at h,λi j d p l d' p' l' a h=>by simp at h⟩
def CA.kP(r:CA K as τ H G)(h:iA K G d x):CA K (.sh d::as) (some x :: τ) H G:=by
 refine⟨by simp[r.len],r.sub,λi d' e=>?_,λi d' p l e=>?_,λi j d1 p l d2 p' l' a h1 h2 h3 h4=>?_⟩
 ·cases i with
  |zero=>simp at e;subst e;exact⟨x,rfl,h⟩
  |succ i=>simpa using r.sh i d' (by simpa using e)
 ·cases i with
  |zero=>simp at e
  |succ i=>simpa using r.ow i d' p l (by simpa using e)
 ·cases i with
  |zero=>simp at h1
  |succ i =>
   cases j with
   |zero=>simp at h2
   |succ j=>exact congrArg (·+1) (r.inj i j d1 p l d2 p' l' a (by simpa using h1) (by simpa using h2) (by simpa using h3) (by simpa using h4))
def CA.B1(r:CA K as τ H G)(g:G a=none)(o:HG K H G a d)(n:¬xA as τ a):CA K (.ow d p l::as) (some (.ref a) :: τ) H G:=by
 refine⟨by simp[r.len],r.sub,λi d' e=>?_,λi d' p l e=>?_,λi j d1 p1 l1 d2 p' l' b h1 h2 h3 h4=>?_⟩
 ·cases i with
  |zero=>simp at e
  |succ i=>simpa using r.sh i d' (by simpa using e)
 ·cases i with
  |zero =>
   simp only[OE,WB,Sl.ow.injEq] at e;obtain⟨rfl,_,_⟩:=e;exact⟨a,rfl,g,o⟩
  |succ i=>simpa using r.ow i d' p l (by simpa using e)
 ·cases i with
  |zero =>
   simp only[OE,WB,V.ref.injEq] at h3;subst h3
   cases j with
   |zero=>rfl
   |succ j=>exact absurd ⟨j,d2,p',l',by simpa using h2,by simpa using h4⟩ n
  |succ i =>
   cases j with
   |zero =>
    simp only[OE,WB,V.ref.injEq] at h4;subst h4;exact absurd ⟨i,d1,p1,l1,by simpa using h1,by simpa using h3⟩ n
   |succ j=>exact congrArg (·+1) (r.inj i j d1 p1 l1 d2 p' l' b (by simpa using h1) (by simpa using h2) (by simpa using h3) (by simpa using h4))
def xA.cons{as:List Sl}{τ:St}{sl:Sl}{v:Option V}{a:eA}(h:xA (sl::as) (v :: τ) a):(∃d p l,sl=.ow d p l/\v=some (.ref a))\/xA as τ a:=by
 obtain⟨i,d,p,l,h1,h2⟩:=h
 cases i with
 |zero=>exact .inl ⟨d,p,l,by simpa using h1,by simpa using h2⟩
 |succ i=>exact .inr ⟨i,d,p,l,by simpa using h1,by simpa using h2⟩
structure Qs(K:fA)(U:Env)(Y:St)(H G:Hp)(hs:List Hd)(xs:List V)(as:List Sl)(U1:Env)(G2:Hp):Prop where
 gg:ZA G G2
 gn:∀a,G2 a≠none->G a≠none\/xA U Y a\/JG hs xs a
 ra:CA K as (xs.map some) H G2
 rc:CA K U1 Y H G2
 ao:∀a,xA as (xs.map some) a->xA U Y a\/JG hs xs a
 an:∀a,xA as (xs.map some) a->¬xA U1 Y a
 ro:∀a,xA U1 Y a->xA U Y a
section
variable{p:Bool}{ps:List Bool}{hs:List Hd}{d:D}{U:Env}{i:Nat}
theorem dKa:aAi (p::ps) (.val (.sh d)::hs) U=(aAi ps hs U).map λ(as,U')=>(.sh d::as,U'):=rfl
theorem cKa:aAi (p::ps) (.val (.ow d)::hs) U=(aAi ps hs U).map λ(as,U')=>((if p then .ow d true false else .sh d)::as,U'):=rfl
theorem cX:aAi (p::ps) (.slot i::hs) U=(match U[i]? with
  |some (.sh d)=>(aAi ps hs U).map λ(as,U')=>(.sh d::as,U')
  |some (.ow d pin lk) =>
   match p with
   |true=>(aAi ps hs (U.set i .un)).map λ(as,U')=>(.ow d true lk::as,U')
   |false=>if pin||lk then none else(aAi ps hs (U.set i (.sh d))).map λ(as,U')=>(.sh d::as,U')
  |_=>none):=rfl
end
theorem RN:∀(hs:List Hd) (aA:List Bool) (U:Env) (G:Hp) (xs:List V) (as:List Sl) (U1:Env),CA K U Y H G->VD K H G (xA U Y) new Y hs xs->aAi aA hs U=some (as,U1) ->
  ∃G2,Qs K U Y H G hs xs as U1 G2
 |[],aA,U,G,xs,as,U1,r,h,e=>by
  cases (show xs=[] from h)
  induction aA using sC with
  |cons p ps=>cases e
  |nil =>
   replace e:some ([],U)=some (as,U1):=e;simp only[WB,SD] at e;obtain⟨rfl,rfl⟩:=e;exact⟨G,ZA.refl _,λa z=>.inl z,CA.nil r.sub,r,λa ⟨i,d,p,l,z,_⟩=>by simp at z,λa ⟨i,d,p,l,z,_⟩=>by simp at z,λ_ z=>z⟩
 |.val (.sh d)::hs,aA,U,G,xs,as,U1,r,h,e=>by
  obtain⟨x,r',rfl,h1,h2,h3⟩:=h
  induction aA using sC with
  |nil=>cases e
  |cons p ps =>
   rw[dKa] at e
   cases q:aAi ps hs U with
   |none=>rw[q] at e;cases e
   |some y =>
    obtain⟨OA,U'⟩:=y;rw[q] at e;simp only[jE,WB,SD] at e;obtain⟨rfl,rfl⟩:=e;obtain⟨G2,L⟩:=RN hs ps U G r' OA U' r h2 q;refine⟨G2,L.gg,L.gn,L.ra.kP (iA.mono L.gg d h1),L.rc,λa z=>?_,λa z=>?_,L.ro⟩
    ·rcases z.cons with ⟨_,_,_,z,_⟩ | z
     ·cases z
     ·exact L.ao a z
    ·rcases z.cons with ⟨_,_,_,z,_⟩ | z
     ·cases z
     ·exact L.an a z
 |.val (.ow d)::hs,aA,U,G,xs,as,U1,r,h,e=>by
  obtain⟨x,r',rfl,h1,h2,h3⟩:=h;obtain⟨b,rfl,g,o,n,m⟩:=h1;have nt:¬JG hs r' b:=h3 d b rfl rfl
  induction aA using sC with
  |nil=>cases e
  |cons p ps =>
   rw[cKa] at e
   cases q:aAi ps hs U with
   |none=>rw[q] at e;cases e
   |some y =>
    obtain⟨OA,U'⟩:=y;rw[q] at e;simp only[jE,WB,SD] at e;obtain⟨rfl,rfl⟩:=e
    induction p using AU with
    |true =>
     obtain⟨G2,L⟩:=RN hs ps U G r' OA U' r h2 q
     have g2:G2 b=none:=by
      cases w:G2 b with
      |none=>rfl
      |some o' =>
       rcases L.gn b (by rw[w];simp) with z | z | z
       ·exact absurd g z
       ·exact absurd z n
       ·exact absurd z nt
     have nb:¬xA OA (r'.map some) b:=λz=>by
      rcases L.ao b z with z | z
      ·exact n z
      ·exact nt z
     refine⟨G2,L.gg,λa z=>?_,L.ra.B1 g2 (o.mono L.gg λ_ z=>z) nb,L.rc,λa z=>?_,λa z=>?_,L.ro⟩
     ·rcases L.gn a z with z | z | z
      ·exact .inl z
      ·exact .inr (.inl z)
      ·exact .inr (.inr (.inr z))
     ·rcases z.cons with ⟨_,_,_,_,z⟩ | z
      ·cases z;exact .inr (.inl rfl)
      ·rcases L.ao a z with z | z
       ·exact .inl z
       ·exact .inr (.inr z)
     ·rcases z.cons with ⟨_,_,_,_,z⟩ | z
      ·cases z;exact λw=>n (L.ro _ w)
      ·exact L.an a z
    |false =>
     obtain⟨ob,hv,hr⟩:=o.put
     have tb:∀a,JG hs r' a->(sA G b ob) a=none:=λa z=>by
      have hb:a≠b:=λw=>by subst w;exact nt z
      rw[dB hb];exact(h2.OM z).2.2.2
     obtain⟨G2,L⟩:=RN hs ps U (sA G b ob) r' OA U' (r.grow hv g n) (h2.grow (ZA.put g) tb λ_ z=>z) q;refine⟨G2,(ZA.put g).trans L.gg,λa z=>?_,L.ra.kP ?_,L.rc,λa z=>?_,λa z=>?_,L.ro⟩
     ·by_cases hb:a=b
      ·subst hb;exact .inr (.inr (.inl rfl))
      ·rcases L.gn a z with z | z | z
       ·rw[dB hb] at z;exact .inl z
       ·exact .inr (.inl z)
       ·exact .inr (.inr (.inr z))
     ·exact hr _ (Sm.of ((ZA.put g).trans L.gg)) (L.gg _ _ eC)
     ·rcases z.cons with ⟨_,_,_,z,_⟩ | z
      ·simp at z
      ·rcases L.ao a z with z | z
       ·exact .inl z
       ·exact .inr (.inr z)
     ·rcases z.cons with ⟨_,_,_,z,_⟩ | z
      ·simp at z
      ·exact L.an a z
 |.slot i::hs,aA,U,G,xs,as,U1,r,h,e=>by
  obtain⟨x,r',rfl,h1,h2,h3⟩:=h;have h1:Y[i]?=some (some x):=h1
  induction aA using sC with
  |nil=>cases e
  |cons p ps =>
   rw[cX] at e;split at e
   ·rename_i d hd
    cases q:aAi ps hs U with
    |none=>rw[q] at e;cases e
    |some y =>
     obtain⟨OA,U'⟩:=y;rw[q] at e;simp only[jE,WB,SD] at e;obtain⟨rfl,rfl⟩:=e;obtain⟨G2,L⟩:=RN hs ps U G r' OA U' r h2 q;obtain⟨v,h4,h5⟩:=r.sh i d hd;rw[h1] at h4;cases h4;refine⟨G2,L.gg,L.gn,L.ra.kP (iA.mono L.gg d h5),L.rc,λa z=>?_,λa z=>?_,L.ro⟩
     ·rcases z.cons with ⟨_,_,_,z,_⟩ | z
      ·cases z
      ·exact L.ao a z
     ·rcases z.cons with ⟨_,_,_,z,_⟩ | z
      ·cases z
      ·exact L.an a z
   ·rename_i d pin lk hd;obtain⟨b,h4,g,o⟩:=r.ow i d pin lk hd;rw[h1] at h4;cases h4;have RP:xA U Y b:=⟨i,d,pin,lk,hd,h1⟩
    have nt:¬JG hs r' b:=λz=>(h2.OM z).1 RP
    have nu:¬xA (U.set i .un) Y b:=r.FQ hd h1
    induction p using AU with
    |true =>
     simp only at e
     cases q:aAi ps hs (U.set i .un) with
     |none=>rw[q] at e;cases e
     |some y =>
      obtain⟨OA,U'⟩:=y;rw[q] at e;simp only[jE,WB,SD] at e;obtain⟨rfl,rfl⟩:=e;obtain⟨G2,L⟩:=RN hs ps (U.set i .un) G r' OA U' (r.unset i) (h2.grow (ZA.refl _) (λa z=>(h2.OM z).2.2.2) λa z=>z.unset) q
      have g2:G2 b=none:=by
       cases w:G2 b with
       |none=>rfl
       |some o' =>
        rcases L.gn b (by rw[w];simp) with z | z | z
        ·exact absurd g z
        ·exact absurd z nu
        ·exact absurd z nt
      have nb:¬xA OA (r'.map some) b:=λz=>by
       rcases L.ao b z with z | z
       ·exact nu z
       ·exact nt z
      refine⟨G2,L.gg,λa z=>?_,L.ra.B1 g2 (o.mono L.gg λ_ z=>z) nb,L.rc,λa z=>?_,λa z=>?_,λa z=>(L.ro a z).unset⟩
      ·rcases L.gn a z with z | z | z
       ·exact .inl z
       ·exact .inr (.inl z.unset)
       ·exact .inr (.inr z)
      ·rcases z.cons with ⟨_,_,_,_,z⟩ | z
       ·cases z;exact .inl RP
       ·rcases L.ao a z with z | z
        ·exact .inl z.unset
        ·exact .inr z
      ·rcases z.cons with ⟨_,_,_,_,z⟩ | z
       ·cases z;exact λw=>nu (L.ro _ w)
       ·exact L.an a z
    |false =>
     simp only at e;split at e
     ·cases e
     ·cases q:aAi ps hs (U.set i (.sh d)) with
      |none=>rw[q] at e;cases e
      |some y =>
       obtain⟨OA,U'⟩:=y;rw[q] at e;simp only[jE,WB,SD] at e;obtain⟨rfl,rfl⟩:=e;obtain⟨ob,hv,hr⟩:=o.put
       have tb:∀a,JG hs r' a->(sA G b ob) a=none:=λa z=>by
        have hb:a≠b:=λw=>by subst w;exact nt z
        rw[dB hb];exact(h2.OM z).2.2.2
       have rb:∀G2,ZA (sA G b ob) G2->iA K G2 d (.ref b):=λG2 s2=>hr _ (Sm.of ((ZA.put g).trans s2)) (s2 _ _ eC)
       obtain⟨G2,L⟩:=RN hs ps (U.set i (.sh d)) (sA G b ob) r' OA U' (((r.unset i).grow hv g nu).nQ h1 (rb _ (ZA.refl _)))
        (h2.grow (ZA.put g) tb λa z=>z.nQ.unset) q
       refine⟨G2,(ZA.put g).trans L.gg,λa z=>?_,L.ra.kP (rb G2 L.gg),L.rc,λa z=>?_,λa z=>?_,λa z=>(L.ro a z).nQ.unset⟩
       ·by_cases hb:a=b
        ·subst hb;exact .inr (.inl RP)
        ·rcases L.gn a z with z | z | z
         ·rw[dB hb] at z;exact .inl z
         ·exact .inr (.inl z.nQ.unset)
         ·exact .inr (.inr z)
       ·rcases z.cons with ⟨_,_,_,z,_⟩ | z
        ·cases z
        ·rcases L.ao a z with z | z
         ·exact .inl z.nQ.unset
         ·exact .inr z
       ·rcases z.cons with ⟨_,_,_,z,_⟩ | z
        ·cases z
        ·exact L.an a z
   ·cases e
end
section
variable{K:fA}
def CA.keep(r:CA K U Y H G)(e:Ext own H G H' G')(n:∀a,xA U Y a->¬own a)(s:ZA G' H'):CA K U Y H' G':=by
 refine⟨r.len,s,λi d h=>?_,λi d p l h=>?_,r.inj⟩
 ·obtain⟨v,h1,h2⟩:=r.sh i d h;exact⟨v,h1,iA.mono e.gg d h2⟩
 ·obtain⟨a,h1,g,o⟩:=r.ow i d p l h;have na:=n a ⟨i,d,p,l,h,h1⟩;obtain⟨vs,hv⟩:=o.there;exact⟨a,h1,e.gn a (by rw[hv];simp) g na,o.mono e.gg λo' h'=>e.hh a o' h' na⟩
def CA.tail(r:CA K (a::as) (v :: τ) H G):CA K as τ H G:=by
 refine⟨by have:=r.len;simpa using this,r.sub,λi d h=>?_,λi d p l h=>?_,λi j d p l d' p' l' b h1 h2 h3 h4=>?_⟩
 ·simpa using r.sh (i+1) d (by simpa using h)
 ·simpa using r.ow (i+1) d p l (by simpa using h)
 ·have:=r.inj (i+1) (j+1) d p l d' p' l' b (by simpa using h1) (by simpa using h2) (by simpa using h3) (by simpa using h4)
  lia
def xA.tail(h:xA as τ b):xA (a::as) (v :: τ) b:=by
 obtain⟨i,d,p,l,h1,h2⟩:=h;exact⟨i+1,d,p,l,by simpa using h1,by simpa using h2⟩
def mf{i:Nat}{ps:List Bool}{hs:List Hd}{a:Sl}{as:List Sl}{U0 U U':Env}(e:aAh (true::ps) (.slot i::hs) (a::as) U0 U=some U') :
  (∃d0 pin lk d p' l',U0[i]?=some (.ow d0 pin lk)/\a=.ow d p' l'/\aAh ps hs as U0 (U.set i (.ow d pin lk))=some U')\/(∀d p l,U0[i]?≠some (.ow d p l))/\aAh ps hs as U0 U=some U':=by
 replace e:(match (generalizing:=false) U0[i]?,a with
  |some (.ow _ pin lk),.ow d _ _=>aAh ps hs as U0 (U.set i (.ow d pin lk))
  |some (.ow _ _ _),_=>none
  |_,_=>aAh ps hs as U0 U)=some U':=e
 generalize U0[i]?=o at e ⊢
 induction o using DH with
 |none=>exact .inr ⟨λ_ _ _ z=>(nomatch z),e⟩
 |some s=>cases s with
  |ow d0 pin lk=>cases a with
   |ow d p' l'=>exact .inl ⟨_,_,_,_,_,_,rfl,rfl,e⟩
   |_=>exact nomatch (show(none:Option Env)=some U' from e)
  |_=>exact .inr ⟨λ_ _ _ z=>(nomatch z),e⟩
theorem y4:∀(hs:List Hd) (aA:List Bool) (as:List Sl) (xs:List V) (U U':Env),CA K as (xs.map some) H G->CA K U Y H G->(∀a,xA as (xs.map some) a->¬xA U Y a)->VD K H0 G0 own new Y hs xs ->
  aAh aA hs as U0 U=some U'->CA K U' Y H G/\∀a,xA U' Y a->xA U Y a\/xA U0 Y a
 |[],aA,as,xs,U,U',ra,r,n,h,e=>by
  induction aA using sC with
  |nil =>
   induction as using sC with
   |nil =>
    cases e;exact⟨r,λ_ z=>.inl z⟩
   |cons a as=>cases e
  |cons p ps=>cases p<;>cases as<;>cases e
 |h::hs,aA,as,xs,U,U',ra,r,n,hh,e=>by
  obtain⟨x,r',rfl,h1,h2,h3⟩:=hh
  induction aA using sC with
  |nil=>cases e
  |cons p ps =>
   induction as using sC with
   |nil=>cases p<;>cases h<;>cases e
   |cons a OA =>
    have skip:aAh ps hs OA U0 U=some U'->CA K U' Y H G/\∀a,xA U' Y a->xA U Y a\/xA U0 Y a:=λe' =>
     y4 hs ps OA r' U U' ra.tail r (λb z=>n b z.tail) h2 e'
    induction p using AU with
    |false=>cases h<;>exact skip e
    |true =>
     induction h using Hd.casesOn with
     |val v=>exact skip e
     |slot i =>
      have h1:Y[i]?=some (some x):=h1;rcases mf e with ⟨_,pin,lk,d,p',l',hi,rfl,eg⟩ | ⟨_,eg⟩
      ·replace e:=eg;obtain⟨b,hb,g,o⟩:=ra.ow 0 d p' l' rfl;simp only[pD,OE,WB] at hb;subst hb;have nb:¬xA U Y b:=n b ⟨0,d,p',l',rfl,rfl⟩;have r2:CA K (U.set i (.ow d pin lk)) Y H G:=(r.unset i).XN h1 g o λz=>nb z.unset
       obtain⟨r3,r4⟩:=y4 hs ps OA r' (U.set i (.ow d pin lk)) U' ra.tail r2 (λc z w=>by
        rcases w.XN h1 with rfl | w
        ·obtain⟨j,d2,p2,l2,z1,z2⟩:=z
         have:=ra.inj 0 (j+1) d p' l' d2 p2 l2 c rfl (by simpa using z1) rfl (by simpa using z2)
         lia
        ·exact n c z.tail w.unset) h2 e
       refine⟨r3,λc z=>?_⟩;rcases r4 c z with z | z
       ·rcases z.XN h1 with rfl | z
        ·exact .inr ⟨i,_,pin,lk,hi,h1⟩
        ·exact .inl z.unset
       ·exact .inr z
      ·exact skip eg
def KJ(aA:List Bool)(hs:List Hd)(i:Nat):Prop:=∃j:Nat,aA[j]?=some true/\hs[j]?=some (.slot i)
def KJ.cons{p:Bool}{ps:List Bool}{h:Hd}{hs:List Hd}{i:Nat}(l:KJ ps hs i):KJ (p::ps) (h::hs) i:=by
 obtain⟨j,h1,h2⟩:=l;exact⟨j+1,by simpa using h1,by simpa using h2⟩
theorem Fi:∀(hs:List Hd) (aA:List Bool) (U:Env) (as:List Sl) (U1:Env),aAi aA hs U=some (as,U1)->∀i:Nat,OF U[i]? U1[i]?\/(KJ aA hs i/\∃d p l,U[i]?=some (.ow d p l))
 |[],aA,U,as,U1,e,i=>by
  cases aA<;>cases e;exact .inl (OF.refl _)
 |h::hs,aA,U,as,U1,e,i=>by
  induction aA using sC with
  |nil=>cases h with
   |slot i=>cases e
   |val v=>cases v<;>cases e
  |cons p ps =>
   have fin:∀{U':Env} {g:Sl},(aAi ps hs U').map (λ(as,U')=>(g::as,U'))=some (as,U1)->OF U'[i]? U1[i]?\/(KJ ps hs i/\∃d p l,U'[i]?=some (.ow d p l)):=by
    intro U' g e
    cases q:aAi ps hs U' with
    |none=>rw[q] at e;cases e
    |some y =>
     obtain⟨OA,U2⟩:=y;rw[q] at e;simp only[jE,WB,SD] at e;obtain⟨_,rfl⟩:=e;exact Fi hs ps U' OA U2 q i
   have same:∀{g:Sl},(aAi ps hs U).map (λ(as,U')=>(g::as,U'))=some (as,U1)->OF U[i]? U1[i]?\/(KJ (p::ps) (h::hs) i/\∃d p l,U[i]?=some (.ow d p l)):=by
    intro g e;rcases fin e with z | ⟨z,w⟩
    ·exact .inl z
    ·exact .inr ⟨z.cons,w⟩
   induction h using Hd.casesOn with
   |val v=>cases v<;>first | exact same e | cases e
   |slot i0 =>
    rw[cX] at e;split at e
    ·exact same e
    ·rename_i d pin lk hd
     induction p using AU with
     |true =>
      simp only at e;by_cases hi:i=i0
      ·subst hi;exact .inr ⟨⟨0,rfl,rfl⟩,d,pin,lk,hd⟩
      ·have:=fin e
       rw[gE (λz=>hi z.symm)] at this;rcases this with z | ⟨z,w⟩
       ·exact .inl z
       ·exact .inr ⟨z.cons,w⟩
     |false =>
      simp only at e;split at e
      ·cases e
      ·rename_i hp;simp only[RI,not_or,mU] at hp;have Ce:EE U (U.set i0 (.sh d)):=EE.set (by rw[hd];exact hp.1);rcases fin e with z | ⟨z,d',p',l',w⟩
       ·exact .inl ((Ce i).trans z)
       ·have:=Ce i
        rw[w] at this;obtain⟨d2,e2⟩:=this.Pj;exact .inr ⟨z.cons,d2,p',l',e2⟩
    ·cases e
theorem u4:∀(hs:List Hd) (aA:List Bool) (as:List Sl) (U U':Env),aAh aA hs as U0 U=some U'->∀i:Nat,(U'[i]?=U[i]?\/∃d d' p l,U0[i]?=some (.ow d p l)/\U'[i]?=some (.ow d' p l)) /\
  (KJ aA hs i->(∃d p l,U0[i]?=some (.ow d p l))->i<U.length->∃d d' p l,U0[i]?=some (.ow d p l)/\U'[i]?=some (.ow d' p l))
 |[],aA,as,U,U',e,i=>by
  induction aA using sC with
  |nil =>
   induction as using sC with
   |nil =>
    cases e;exact⟨.inl rfl,λ⟨j,h,_⟩=>by simp at h⟩
   |cons a as=>cases e
  |cons p ps=>cases p<;>cases as<;>cases e
 |h::hs,aA,as,U,U',e,i=>by
  induction aA using sC with
  |nil=>cases e
  |cons p ps =>
   induction as using sC with
   |nil=>cases p<;>cases h<;>cases e
   |cons a OA =>
    have Yo:¬(p=true/\h=.slot i)->KJ (p::ps) (h::hs) i->KJ ps hs i:=λn hz=>by
     obtain⟨j,h1,h2⟩:=hz
     cases j with
     |zero =>
      simp only[OE,WB] at h1 h2;exact absurd ⟨h1,h2⟩ n
     |succ j=>exact⟨j,by simpa using h1,by simpa using h2⟩
    have skip:¬(p=true/\h=.slot i)\/¬(∃d p l,U0[i]?=some (.ow d p l))->aAh ps hs OA U0 U=some U'->(U'[i]?=U[i]?\/∃d d' p l,U0[i]?=some (.ow d p l)/\U'[i]?=some (.ow d' p l)) /\
      (KJ (p::ps) (h::hs) i->(∃d p l,U0[i]?=some (.ow d p l))->i<U.length->∃d d' p l,U0[i]?=some (.ow d p l)/\U'[i]?=some (.ow d' p l)):=λn e'=>by
     obtain⟨h1,h2⟩:=u4 hs ps OA U U' e' i;refine⟨h1,λl o=>?_⟩;rcases n with n | n
     ·exact h2 (Yo n l) o
     ·exact absurd o n
    induction p using AU with
    |false=>cases h<;>exact skip (.inl (by simp)) e
    |true =>
     induction h using Hd.casesOn with
     |val v=>exact skip (.inl (by simp)) e
     |slot i0 =>
      rcases mf e with ⟨d0,pin,lk,d,p',l',hi,rfl,eg⟩ | ⟨u5,eg⟩
      ·replace e:=eg;obtain⟨h1,h2⟩:=u4 hs ps OA _ U' e i;by_cases KP:i=i0
       ·subst KP;refine⟨?_,λl o hl=>?_⟩
        ·rcases h1 with h1 | h1
         ·by_cases hl:i<U.length
          ·rw[gI hl] at h1;exact .inr ⟨_,_,_,_,hi,h1⟩
          ·exact .inl (by rw[h1,sO (by rw[kF];lia),sO (by lia)])
         ·exact .inr h1
        ·rcases h1 with h1 | h1
         ·rw[gI hl] at h1;exact⟨_,_,_,_,hi,h1⟩
         ·exact h1
       ·rw[gE (λz=>KP z.symm)] at h1;refine⟨h1,λl o hl=>h2 (Yo (λz=>KP (by have:=z.2;simp at this;exact this.symm)) l) o (by rw[kF];exact hl)⟩
      ·refine skip ?_ eg;by_cases KP:i=i0
       ·subst KP;refine .inr λhz=>?_
        obtain⟨d,p,l,z⟩:=hz;exact u5 d p l z
       ·exact .inl λz=>KP (by have:=z.2;simp at this;exact this.symm)
def tV(a:AA K U0 Y H0 G0 U H G)(h:VD K H G (xA U Y) (UD H0) Y hs xs)(e:XC aA f hs U=some (.ok v,U')) :
  ∃as G2 OA,CA K as (xs.map some) H G2/\as.length=aA.length/\f as=some (.ok v,OA)/\(ZA G G2/\∀c,xA as (xs.map some) c->xA U Y c\/JG hs xs c)/\∀x H' G',AA K as (xs.map some) H G2 OA H' G'->EC K H' G' (xA OA (xs.map some)) (UD H) v x ->
   AA K U0 Y H0 G0 U' H' G'/\EC K H' G' (xA U' Y) (UD H0) v x:=by
 unfold XC at e
 cases q:aAi aA hs U with
 |none=>rw[q] at e;cases e
 |some y =>
  obtain⟨as,U1⟩:=y;rw[q] at e;simp only at e
  cases q2:f as with
  |none=>rw[q2] at e;cases e
  |some y =>
   obtain⟨o,OA⟩:=y;rw[q2] at e;simp only at e
   cases q3:aAh aA hs OA U U1 with
   |none=>rw[q3] at e;cases e
   |some U2 =>
    rw[q3] at e;simp only[jE,WB,SD] at e;obtain⟨rfl,rfl⟩:=e;obtain⟨G2,L⟩:=RN hs aA U G xs as U1 a.pA h q;refine⟨as,G2,OA,L.ra, ?_,q2,⟨L.gg,L.ao⟩,λx H' G' b hv=>?_⟩
    ·have:∀(hs:List Hd) (aA:List Bool) (U:Env) (as:List Sl) (U1:Env),aAi aA hs U=some (as,U1)->as.length=aA.length:=by
      intro hs
      induction hs with
      |nil =>
       intro aA U as U1 e;cases aA<;>cases e;rfl
      |cons h hs ih =>
       intro aA U as U1 e
       induction aA using sC with
       |nil=>cases h with
        |slot i=>cases e
        |val v=>cases v<;>cases e
       |cons p ps =>
        have fin:∀{o:Option (List Sl×Env)} {g:Sl},(o.map λ(as,U')=>(g::as,U'))=some (as,U1)->(∀OA U',o=some (OA,U')->OA.length=ps.length)->as.length=(p::ps).length:=by
         intro o g e k
         induction o using DH with
         |none=>cases e
         |some y =>
          obtain⟨OA,U'⟩:=y;simp only[jE,WB,SD] at e;rw[<- e.1,fC,fC,k OA U' rfl]
        induction h using Hd.casesOn with
        |slot i =>
         rw[cX] at e;split at e
         ·exact fin e λOA U' z=>ih _ _ _ _ z
         ·split at e
          ·exact fin e λOA U' z=>ih _ _ _ _ z
          ·split at e
           ·cases e
           ·exact fin e λOA U' z=>ih _ _ _ _ z
         ·cases e
        |val v =>
         induction v using RV.casesOn with
         |sh d=>exact fin e λOA U' z=>ih _ _ _ _ z
         |ow d=>exact fin e λOA U' z=>ih _ _ _ _ z
         |od d=>cases e
     exact this hs aA U as U1 q
    ·have own_there:∀c,xA as (xs.map some) c->H c≠none:=λc z=>(L.ra.owned z).1
     have rc:CA K U1 Y H' G':=L.rc.keep b.ext (λc z w=>L.an c w z) b.pA.sub;obtain⟨r3,r4⟩:=y4 hs aA OA xs U1 U2 b.pA rc (λc z w=>L.an c (b.own c z) w) h q3
     have p8:∀c,xA U2 Y c->xA U Y c:=λc z=>by
      rcases r4 c z with z | z
      ·exact L.ro c z
      ·exact z
     have RP:∀c,xA as (xs.map some) c->xA U0 Y c\/H0 c=none:=λc z=>by
      rcases L.ao c z with z | z
      ·exact .inl (a.own c z)
      ·exact .inr (h.OM z).2.1
     have Iz:EE U U2:=λi=>by
      obtain⟨g1,g2⟩:=u4 hs aA OA U1 U2 q3 i;rcases Fi hs aA U as U1 q i with z | ⟨z,o⟩
      ·rcases g1 with g1 | ⟨d,d',p,l,w1,w2⟩
       ·rw[g1];exact z
       ·rw[w1,w2];exact⟨rfl,rfl⟩
      ·have hl:i<U1.length:=by
        obtain⟨d,p,l,o⟩:=o;rw[L.rc.len,<- a.pA.len];exact(LD.mp o).1
       obtain⟨d,d',p,l,w1,w2⟩:=g2 z o hl;rw[w1,w2];exact⟨rfl,rfl⟩
     refine⟨⟨r3,⟨a.ext.gg.trans ((Sm.of L.gg).trans b.ext.gg),λc o hc nc=>?_,λc z=>a.ext.hx c (b.ext.hx c z),λc hc gc nc=>?_⟩,a.VJ.trans Iz⟩, ?_⟩
     ·refine b.ext.hh c o (a.ext.hh c o hc nc) λz=>?_
      rcases RP c z with z | z
      ·exact nc z
      ·rw[hc] at z;cases z
     ·have PH:H c≠none:=λz=>hc (a.ext.hx c z)
      have g1:G c=none:=a.ext.gn c hc gc nc
      have g2:G2 c=none:=by
       cases w:G2 c with
       |none=>rfl
       |some o =>
        rcases L.gn c (by rw[w];simp) with z | z | z
        ·exact absurd g1 z
        ·exact absurd (a.own c z) nc
        ·exact absurd (h.OM z).2.1 hc
      refine b.ext.gn c PH g2 λz=>?_
      rcases RP c z with z | z
      ·exact nc z
      ·exact hc z
     ·induction v using RV.casesOn with
      |sh d=>exact hv
      |ow d =>
       obtain⟨c,rfl,g,o,n,m⟩:=hv;exact⟨c,rfl,g,o,λz=>(a.pA.owned (p8 c z)).1 m,a.ext.hx c m⟩
      |od d =>
       obtain⟨c,rfl,g,o,n,m,vs,hv,hr⟩:=hv;exact⟨c,rfl,g,o,λz=>(a.pA.owned (p8 c z)).1 m,a.ext.hx c m,vs,hv,λx hx=>let ⟨b,ws,h1,h2,h3,h4,h5,h6⟩:=hr x hx;⟨b,ws,h1,h2,h3,λz=>(a.pA.owned (p8 b z)).1 h5,a.ext.hx b h5,h6⟩⟩
def yX(x:Exc)(o:uA RV):uA RV :=
 match o with
 |some (Out.ex y,OA)=>@ite _ (y=x) (cl _) (some (Out.ok (.sh .rA),OA)) none
 |_=>none
def sNa(h:yX x o=some (.ok v,OA)):o=some (.ex x,OA):=by
 unfold yX at h;split at h
 ·split at h
  ·rename_i hy;cases h;rw[hy]
  ·cases h
 ·cases h
def ie(a:AA K U0 Y H0 G0 U H G)(h:VD K H G (xA U Y) (UD H0) Y hs xs)(e:XC aA f hs U=some (.ex x,U')) :
  ∃as G2 OA,CA K as (xs.map some) H G2/\as.length=aA.length/\f as=some (.ex x,OA)/\∀H' G',AA K as (xs.map some) H G2 OA H' G'->AA K U0 Y H0 G0 U' H' G':=by
 have e':XC aA (λas=>yX x (f as)) hs U=some (.ok (.sh .rA),U'):=by
  unfold XC at e ⊢
  cases q:aAi aA hs U with
  |none=>rw[q] at e;cases e
  |some y =>
   obtain⟨as,U1⟩:=y;rw[q] at e;simp only at e ⊢
   cases q2:f as with
   |none=>rw[q2] at e;cases e
   |some y =>
    obtain⟨o,OA⟩:=y;rw[q2] at e;simp only at e
    cases q3:aAh aA hs OA U U1 with
    |none=>rw[q3] at e;cases e
    |some U2 =>
     rw[q3] at e;simp only[jE,WB,SD] at e;obtain⟨rfl,rfl⟩:=e;have z:yX x (some (.ex x,OA))=some (.ok (.sh .rA),OA):=FA rfl;rw[z];simp only[q3,jE]
 obtain⟨as,G2,OA,h1,h2,h3,_,h4⟩:=tV a h e';exact⟨as,G2,OA,h1,h2,sNa h3,λH' G' b=>(h4 .rA H' G' b (by show iA K G' .rA _;simp[iA])).1⟩
end
inductive GV where
 |no | c (d:D) | fn (f:String) | BB | cls (ns:List bA) | uE (tb:List (bA×String)) | sub (s n:List bA) | CD (s n:List bA) | exc | NG | MA (cs:List bA) | obj (f:String) | BF (cs:List bA) | aK (ks:List bA) (vs:List Int)
structure CC where
 N:List bA
 names:List (bA×AJ)
 gl:bA->GV
 top:Bool
noncomputable def CC.rS(Z:CC)(x:bA):Bool:=Z.names.lookup x==some .globalImplicit
noncomputable def CC.Pg(Z:CC)(x:bA):Bool:=Z.names.lookup x==some .local||Z.names.lookup x==some .cell||Z.names.lookup x==some .free
noncomputable def YE(x:bA):Bool:=x==("__debug__":bA)||x==("__classdict__":bA)||x==("__name__":bA)
def CC.slot(Z:CC)(x:bA):Option Nat:=if YE x then none else if Z.Pg x then Z.N.idxOf? x else none
def CC.glob(Z:CC)(x:bA):GV:=if YE x then .no else if Z.rS x then Z.gl x else .no
def QK(Z:CC)(x:bA):E :=
 match Z.slot x with
 |some i=>.v i
 |none=>match Z.glob x with
  |.c d=>.c d
  |_=>.jA
noncomputable def nV:Const->E
 |.none=>.c .rA
 |.bool b=>.c (.bl b)
 |.int i=>.c (.int i)
 |.str s=>if jC s then .c (.str s) else .jA
 |_=>.jA
noncomputable def TZ(f:bA):Option BI :=
 if f=("len":bA) then some .len else if f=("int":bA) then some .int else if f=("list":bA) then some .list
 else if f=("tuple":bA) then some .tuple else if f=("all":bA) then some .all else if f=("str":bA) then some .str else none
def cV(f:bA):Option BI:=if f=("sum":bA) then some .sum else TZ f
def qY(Z:CC):vA->Option Ty
 |.Name x _=>match Z.glob x with
  |.BB=>if x=("int":bA) then some .int else if x=("bool":bA) then some .bool else if x=("str":bA) then some .str else if x=("list":bA) then some .list else if x=("tuple":bA) then some .tuple else if x=("ValueError":bA) then some .MT else none
  |_=>none
 |_=>none
def bC{p:Prop}(h:false=true):p:=nomatch h
def gG{p:Prop}(h:none=some a):p:=nomatch h
noncomputable def aAu:vA->Option bA
 |.Name x _=>some x
 |_=>none
noncomputable def a8:E->E
 |.xE=>.jA
 |c=>c
noncomputable def aAc:vA->Bool
 |.Starred _ _=>false
 |_=>true
noncomputable def col(x:bA):bA:=⟨#[58]++x.cps⟩
def CC.gW(Z:CC)(x:bA):GV:=if YE x then .no else if Z.rS x then Z.gl (col x) else .no
def yQ(Z:CC):List vA->Option (List (List bA×List bA))
 |[]=>some []
 |.Name x _::es=>(match Z.gW x with
  |.CD s n=>(yQ Z es).map ((s,n) :: ·)
  |_=>none)
 |_=>none
noncomputable def cat(x:bA):bA:=⟨#[94]++x.cps⟩
def CC.bL(Z:CC)(x:bA):GV:=if YE x then .no else if Z.rS x then Z.gl (cat x) else .no
def sT(Z:CC)(x:bA)(a:E):E:=match Z.gW x with
 |.sub s n=>.jA
 |.CD s n=>.pL a [(s,n)]
 |_=>.jA
def uT(Z:CC)(es:List vA)(a:E):E:=match yQ Z es with
 |some sn=>if es.length<=100 then .pL a sn else .jA
 |none=>.jA
def d9(Z:CC)(t:vA)(a:E):E:=match t with
 |.Name x _=>sT Z x a
 |.Tuple es _ _=>uT Z es a
 |_=>.jA
def BM(Z:CC)(args:List vA)(cs:List E):E :=
 match args,cs with
 |[_,t],[a,_]=>(match qY Z t with | some ty=>.ZF a [ty] | none=>d9 Z t a)
 |_,_=>.jA
noncomputable def aAT:vA->Option Int
 |.Constant (.int a) _ _=>some a
 |_=>none
noncomputable def ae(ks:List (Option vA))(vs:List vA)(cs es:List E):E:=.jA
noncomputable def tEa(Z:CC):Bool:=false
noncomputable def J1(z:Bool)(ks:List (Option vA))(vs:List vA)(c:E):E:=c
noncomputable def dot(m:bA):bA:=⟨#[46]++m.cps⟩
noncomputable def lM(x:bA):bA:=⟨#[61]++x.cps⟩
def JT(Z:CC)(x m:bA)(NA aB:BC):E:=if(NA.endLine==aB.line)&&(m==("upper":bA)) then(match Z.slot x with | some i=>.IT i | none=>.jA) else .jA
noncomputable def A6:vA->Bool
 |.Constant (.bool b) _ _=>b
 |_=>false
def nS(Z:CC)(x m:bA)(NA aB:BC)(a:vA):E:=if A6 a&&(NA.endLine==aB.line)&&(m==("index":bA)) then(match Z.slot x with | some i=>.oS i | none=>.jA) else .jA
noncomputable def Mm:vA->Option bA
 |.Constant (.str s) _ _=>if jC s then some s else none
 |_=>none
def FT(Z:CC)(x m:bA)(NA aB:BC)(a:vA):E :=
 match Mm a,Z.slot x with
 |some s,some i=>if(NA.endLine==aB.line)&&(m==("split":bA)) then .bI i s else if(NA.endLine==aB.line)&&(m==("startswith":bA)) then .qT i s else .jA
 |_,_=>nS Z x m NA aB a
noncomputable def E1(ks:List (Option vA))(vs:List vA)(es:List E)(c:E):E:=c
def AR(Z:CC)(x m:bA)(NA aB:BC)(a:vA)(c:E):E :=
 if aAc a&&(NA.endLine==aB.line)&&(m==("append":bA)) then(match Z.slot x with | some i=>.app i c | none=>.jA) else if aAc a&&(NA.endLine==aB.line)&&(m==("extend":bA)) then(match Z.slot x with | some i=>.ext i c | none=>.jA) else if aAc a&&(NA.endLine==aB.line)&&(m==("pop":bA)) then .jA else FT Z x m NA aB a
def zR(Z:CC)(x m:bA)(NA aB:BC):E:=if(NA.endLine==aB.line)&&(m==("bit_length":bA)) then .eM (QK Z x) else
 JT Z x m NA aB
def JZ(Z:CC)(x m:bA)(NA aB:BC)(args:List vA)(cs:List E):E:=match args,cs with
 |[a],[c]=>AR Z x m NA aB a c
 |[],[]=>zR Z x m NA aB
 |_,_=>.jA
def dP(Z:CC)(x m:bA)(NA aB:BC)(args:List vA)(cs:List E):E :=
 match Z.gl (dot m) with
 |.uE tb=>if args.all aAc&&(NA.endLine==aB.line)&&decide (args.length<29) then(match Z.slot x with | some i=>.fG i m tb cs | none=>.jA) else .jA
 |_=>JZ Z x m NA aB args cs
def KS(Z:CC)(m:bA)(NA aB:BC)(args:List vA)(a:E)(cs:List E):E :=
 match Z.gl (dot m) with
 |.uE tb=>if args.all aAc&&(NA.endLine==aB.line)&&decide (args.length<29) then .jA else .jA
 |_=>.jA
noncomputable def C7(args:List vA)(cs:List E):E:=.bif .len cs
noncomputable def aA0(cs:List E):E:=.jA
noncomputable def D7(args:List vA)(cs:List E):E:=.bif .list cs
def fM(f:bA)(args:List vA)(cs:List E):E :=
 if f=("len":bA) then C7 args cs else if f=("set":bA) then aA0 cs else if f=("range":bA) then .jA else if f=("list":bA) then D7 args cs else(match cV f with | some b=>.bif b cs | none=>.jA)
noncomputable def sS:vA->Bool
 |.ListComp _ _ _ _=>true
 |_=>false
noncomputable def HD:vA->Bool
 |.ListComp _ _ _ _=>false
 |.SetComp _ _ _ _=>false
 |.DictComp _ _ _ _ _=>false
 |_=>true
noncomputable def uX:vA->Bool
 |.Slice _ _ _ _=>false
 |_=>true
noncomputable def tX:vA->Bool
 |.Set _ _ _=>false
 |_=>true
noncomputable def RS:vA->Bool
 |.Tuple _ _ _=>false
 |_=>true
noncomputable def CC.JN(Z:CC)(x:bA):Bool:=Z.names.lookup x==some .local||(Z.top&&Z.names.lookup x==some .cell)
def CC.tF(Z:CC)(x:bA):Option Nat:=if Z.JN x then Z.slot x else none
def o9(Z:CC):vA->Option Nat
 |.Name x _=>Z.tF x
 |_=>none
def wK(Z:CC):List vA->Option (List Nat)
 |[]=>some []
 |e::es=>(o9 Z e).bind λi=>(wK Z es).map (i :: ·)
def uH(Z:CC):vA->Option (Bool×List Nat)
 |.Name x _=>(Z.tF x).map λi=>(true,[i])
 |.Tuple es _ _=>(wK Z es).map λis=>(false,is)
 |_=>none
noncomputable def oX:vA->Option (bA×BC)
 |.Name f p=>some (f,p)
 |_=>none
def xS:vA->Option ((bA×BC)×List vA×BC)
 |.Call fn args lK pos=>(match lK with
  |[]=>(oX fn).map λq=>(q,args,pos)
  |_::_=>none)
 |_=>none
noncomputable def aAV:List O->Option O
 |[]=>none
 |a::r=>(match r with | []=>some a | _::_=>none)
def E6:vA->Option (bA×vA×bA×Int)
 |.Call fn args lK _=>(oX fn).bind λq=>(aAV args).bind λa=>(aAV lK).bind λk=>k.arg.bind λx=>(aAT k.value).map λc=>(q.1,a,x,c)
 |_=>none
def jK(Z:CC)(e:vA):Option (WE×List vA):=match xS e with
 |some x=>if(x.1.1==("range":bA)) then
   (match Z.glob x.1.1 with
   |.BB=>if x.2.1.all aAc&&(x.2.1.length==1||x.2.1.length==2) then some (.eE,x.2.1) else none
   |_=>none)
  else if(x.1.1==("enumerate":bA)) then
   (match Z.glob x.1.1 with
   |.BB=>if x.2.1.all aAc&&(x.2.1.length==1) then some (.enum 0,x.2.1) else none
   |_=>none)
  else some (.of,[e])
 |none=>(match E6 e with
  |some x=>if x.1==("enumerate":bA)&&x.2.2.1==("start":bA)&&aAc x.2.1&&x.2.2.2==1 then
    (match Z.glob x.1 with
    |.BB=>some (.enum 1,[x.2.1])
    |_=>none)
   else none
  |none=>if tX e then some (.of,[e]) else none)
def pj(h:oX e=some x):e=.Name x.1 x.2:=by
 unfold oX at h;split at h
 ·cases h;rfl
 ·cases h
def RW(h:xS e=some ((f,p),args,pos)):e=.Call (.Name f p) args [] pos:=by
 unfold xS at h;split at h
 ·rename_i fn as lK ps
  cases lK with
  |nil =>
   obtain⟨q,hq,h⟩:=GK.mp h;cases h;rw[pj hq]
  |cons=>cases h
 ·cases h
def Bw(h:aAT e=some a):∃j q,e=.Constant (.int a) j q:=by
 unfold aAT at h;split at h
 ·cases h;exact⟨_,_,rfl⟩
 ·cases h
def Lj(h:aAV l=some a):l=[a]:=by
 cases l with
 |nil=>cases h
 |cons b r =>
  cases r with
  |nil=>cases h;rfl
  |cons=>cases h
def cFa(h:E6 e=some (f,a,x,c)):∃p j q kp pos,e=.Call (.Name f p) [a] [⟨some x,.Constant (.int c) j q,kp⟩] pos:=by
 unfold E6 at h;split at h
 ·obtain⟨q,hq,h⟩:=QO.mp h;obtain⟨b,hb,h⟩:=QO.mp h;obtain⟨k,hk,h⟩:=QO.mp h;obtain⟨y,hy,h⟩:=QO.mp h;obtain⟨d,hd,h⟩:=GK.mp h;cases h;obtain⟨j,z,e⟩:=Bw hd;obtain⟨ka,kv,kp⟩:=k;cases hy;cases e;rw[pj hq,Lj hb,Lj hk];exact⟨_,_,_,_,_,rfl⟩
 ·cases h
noncomputable def y6:vA->Bool
 |.Slice none none (some (.UnaryOp .USub (.Constant (.int i) _ _) _)) _=>i==1
 |_=>false
noncomputable def aAt(scope:kG):List bA:=(scope.names.filter λp=>p.2==NameKind.free).map (·.1)
noncomputable def aAs(scope:kG):List bA:=(scope.names.filter λp=>p.2==NameKind.local).map (·.1)
def CC.inner(Z:CC)(scope:kG):CC :=
 ⟨aAt scope++aAs scope,scope.names.map λ(n,k)=>if(k==NameKind.free&&Z.names.lookup n==some .cell) then(n,NameKind.cell) else(n,k),Z.gl,false⟩
noncomputable def CC.gK(Z:CC):List bA->Option (List Nat)
 |[]=>some []
 |x::xs=>(Z.N.idxOf? x).bind λi=>(Z.gK xs).map (i :: ·)
def CC.Q8(Z:CC)(scope:kG):Bool:=(scope.kind==ScopeKind.function)&&(scope.names.all λp=>p.2 != NameKind.cell)&&(scope.names.all λp=>p.2 != NameKind.local||scope.names.lookup p.1==some NameKind.local) &&
 (scope.names.all λp=>p.2 != NameKind.free||(scope.names.lookup p.1==some NameKind.free&&(Z.names.lookup p.1==some NameKind.cell||Z.names.lookup p.1==some NameKind.free)))&&decide (aAt scope++aAs scope).Nodup
noncomputable def Sg(k:WE)(ci:E)(KG:List E):List E:=match k with
 |.of=>[ci]
 |_=>KG
noncomputable def vJ(k:WE)(one:Bool):Bool:=match k with
 |.enum _=>!one
 |_=>true
noncomputable def dYa:vA->Bool
 |.Name x _=>x==("figures":bA)
 |_=>false
noncomputable def lIa(Z:CC)(iter:vA):Option Nat:=none
def KH(Z:CC)(scope:kG)(tg iter:vA)(ci:E)(KG cond:List E)(ce:E):E :=
 if Z.Q8 scope then
  match Z.gK (aAt scope),uH (Z.inner scope) tg,jK Z iter with
  |some imp,some (one,is),some (k,_)=>if dYa iter then(if one==(is.length==1) then .comp ce is .sig [ci] cond imp (aAs scope).length else .jA) else match lIa Z iter with | some i=>(if one==(is.length==1) then .comp ce is .key [.CF i] cond imp (aAs scope).length else .jA) | none=>if one==(is.length==1)&&vJ k one&&k != .enum 1 then .comp ce is k (Sg k ci KG) cond imp (aAs scope).length else .jA
  |_,_,_=>.jA
 else .jA
def AS(s m:bA)(NA aB:BC)(a:vA)(c:E):E:=if aAc a&&(NA.endLine==aB.line)&&(m==("join":bA))&&jC s then .zG s c else .jA
def fW(Z:CC):vA->Option (bA×List bA×List Int)
 |.Name g _=>(match Z.glob g with | .aK ks vs=>some (g,ks,vs) | _=>none)
 |_=>none
def BN(Z:CC)(op:BH)(b:vA)(ca c:E):E:=match op with
 |.NotIn=>(match fW Z b with | some q=>.rM q.2.1 ca | none=>c)
 |_=>c
def yP(Z:CC)(a:vA)(ci c:E):E:=match fW Z a with
 |some q=>.AN q.2.1 q.2.2 ci
 |none=>c
mutual
noncomputable def cE(Z:CC):vA->E
 |.Name x _=>QK Z x
 |.Constant c _ _=>nV c
 |.Tuple es _ _=>if es.all aAc then .t (eB Z es) else .jA
 |.List es _=>if es.all aAc then .l (eB Z es) else .jA
 |.Dict ks vs _=>E1 ks vs (eB Z vs) (J1 (tEa Z) ks vs (ae ks vs (Q0 Z ks) (eB Z vs)))
 |.BinOp a op b _=>.EA op (cE Z a) (cE Z b)
 |.UnaryOp .Not a _=>.not (cE Z a)
 |.UnaryOp .USub a _=>.neg (cE Z a)
 |.Compare a [op] [b] _=>if xJ op b then .jA else BN Z op b (cE Z a) (.QA op (cE Z a) (cE Z b))
 |.Compare a [op,xC] [b,c] _=>if xJ xC c then .jA else .ZI op xC (cE Z a) (cE Z b) (cE Z c)
 |.BoolOp .And (a::b::r) _=>.and (cE Z a) (M0 Z (b::r))
 |.BoolOp .Or (a::b::r) _=>.or (cE Z a) (P0 Z (b::r))
 |.IfExp c a b _=>.ite (cE Z c) (cE Z a) (cE Z b)
 |.Subscript a (.Slice lo hi none _) _=>.sl (cE Z a) (cO Z lo) (cO Z hi)
 |.Subscript a i _=>if y6 i then .jA else yP Z a (cE Z i) (.ix (cE Z a) (cE Z i))
 |.Call (.Name f _) args [] _=>if args.all aAc&&decide (args≠[]) then
   match Z.glob f with
   |.fn g=>.call g (eB Z args)
   |.cls ns=>.jA
   |.BB=>if f=("isinstance":bA) then BM Z args (eB Z args)
     else fM f args (eB Z args)
   |.obj g=>.FF f g (eB Z args)
   |_=>.jA
  else .jA
 |.Call (.Attribute (.Name x _) m NA) args [] aB=>dP Z x m NA aB args (eB Z args)
 |.Call (.Attribute (.Constant (.str s) k p) m NA) [a] [] aB=>AS s m NA aB a (cE Z a)
 |.Call (.Attribute (.Call g (a0::PJ) kw p) m NA) args [] aB=>KS Z m NA aB args (cE Z (.Call g (a0::PJ) kw p)) (eB Z args)
 |.Attribute (.Name x _) f _=>.fld (QK Z x) f
 |.ListComp JA [⟨tg,iter,[],0⟩] scope _=>KH Z scope tg iter (cE Z iter) (iM Z iter) [] (cE (Z.inner scope) JA)
 |.ListComp JA [⟨tg,iter,[c],0⟩] scope _=>KH Z scope tg iter (cE Z iter) (iM Z iter) [cE (Z.inner scope) c] (cE (Z.inner scope) JA)
 |_=>.jA
noncomputable def iM(Z:CC):vA->List E
 |.Call _ args _ _=>eB Z args
 |_=>[]
noncomputable def eB(Z:CC):List vA->List E
 |[]=>[]
 |e::es=>cE Z e::eB Z es
noncomputable def Q0(Z:CC):List (Option vA)->List E
 |[]=>[]
 |o::os=>cO Z o::Q0 Z os
noncomputable def M0(Z:CC):List vA->E
 |[]=>.jA
 |[a]=>cE Z a
 |a::b::r=>.and (cE Z a) (M0 Z (b::r))
noncomputable def P0(Z:CC):List vA->E
 |[]=>.jA
 |[a]=>cE Z a
 |a::b::r=>.or (cE Z a) (P0 Z (b::r))
noncomputable def cO(Z:CC):Option vA->E
 |none=>.xE
 |some e=>a8 (cE Z e)
end
def kO(K:fA)(n:Nat)(run:List Sl->uA RV):Sp:=λvs H Q _=>vs.length=n/\∃(as:List Sl) (G:Hp) (v:RV) (OA:List Sl),CA K as (vs.map some) H G/\as.length=n/\run as=some (.ok v,OA) /\
 ∀x H' G',AA K as (vs.map some) H G OA H' G'->EC K H' G' (xA OA (vs.map some)) (UD H) v x->Q x H'
structure FnAt(X:Cx)(K:fA)(x:bA)(n:Nat)(run:List Sl->uA RV):Prop where
 ex:∃(fa:eA) (fd:gF) (ps:List bA) (k:Nat),ZC X.prog X.w X.K X.mg X.base SE k fa fd ps (kO K n run)/\XB k X.A/\X.mg x=some (.ref fa)/\xF X.K (.ref fa)=true/\aAn X.K fd ps []
def mm(K:fA)(ns:List bA):Sp:=λvs H Q _=>∃a C dx xs,vs=.ref a::xs/\xs.length=ns.length/\H a=some (.ins C dx [])/\eN K C ns/\Q .rA (sA H a (.ins C dx (ns.zip xs)))
structure rZ(X:Cx)(K:fA)(x:bA)(ns:List bA):Prop where
 ex:∃(Ca fa:eA) (fd:gF) (ps:List bA),fB K VA x=some (some (.ref Ca))/\X.mg x=some (.ref Ca)/\Mk X.K Ca fa/\eN K Ca ns/\ZC X.prog X.w X.K X.mg X.base SE 1 fa fd ps (mm K ns)/\aAn X.K fd ps []
structure MethAt(X:Cx)(K:fA)(c m:bA)(n:Nat)(run:List Sl->uA RV):Prop where
 ex:∃(Ca fa:eA) (fd:gF) (ps:List bA) (k:Nat),fB K VA c=some (some (.ref Ca))/\Meth X.K Ca m fa/\ZC X.prog X.w X.K X.mg X.base SE k fa fd ps (kO K n run)/\XB k X.A/\aAn X.K fd ps []/\UE K Ca
structure Ss(K:fA)(D C:eA):Prop where
 a:GO K D C=true
 b:LQ K D "__class__"=true
 c:HK K D=true
 d:QD K (.ref D) "__class__"=some (some (.builtin "object.__class__"))
 e:Qa K (.builtin "object.__class__") "__get__"=some (some (.builtin "getset_descriptor.__get__"))
 f:lb K (.builtin "object.__class__")=some true
 g:dH K D (.type "object")=some true
structure SU(K:fA)(mg:bA->Option dA)(x:bA)(s n:List bA):Prop where
 ex:∃C,mg x=some (.ref C)/\(∀c∈s,∀Ca,fB K VA c=some (some (.ref Ca))->BU K (.ref Ca) C=true)/\∀c∈n,∀Ca,fB K VA c=some (some (.ref Ca))->Ss K Ca C
def mT(K:fA)(n:Nat)(run:List Sl->uA RV):Sp:=λvs H _ E=>vs.length=n/\∃(as:List Sl) (G:Hp) (x:Exc) (OA:List Sl),CA K as (vs.map some) H G/\as.length=n/\run as=some (.ex x,OA) /\
 ∀H' G' C p,AA K as (vs.map some) H G OA H' G'->fB K VA x.cls=some (some (.ref C))->lE K C->NJ K G' C p x->E (.ref C) p H'
structure kZ(X:Cx)(K:fA)(x:bA)(n:Nat)(run:List Sl->uA RV):Prop where
 ex:∃(fa:eA) (fd:gF) (ps:List bA) (k:Nat),ZC X.prog X.w X.K X.mg X.base (qG X.prog X.w) k fa fd ps (mT K n run)/\XB k X.A/\X.mg x=some (.ref fa)/\xF X.K (.ref fa)=true/\aAn X.K fd ps []
structure tZ(X:Cx)(K:fA)(x:bA)(n:Nat)(run:List Sl->uA RV):Prop where
 ex:∃(Ca fa:eA) (fd:gF) (ps:List bA) (k:Nat),fB K VA x=some (some (.ref Ca))/\X.mg x=some (.ref Ca)/\Mk X.K Ca fa/\UE K Ca/\ZC X.prog X.w X.K X.mg X.base SE k fa fd ps (kO K n run)/\ZC X.prog X.w X.K X.mg X.base (qG X.prog X.w) k fa fd ps (mT K n run)/\XB (k+1) X.A/\aAn X.K fd ps []
structure qZ(X:Cx)(K:fA)(c m:bA)(n:Nat)(run:List Sl->uA RV):Prop where
 ex:∃(Ca fa:eA) (fd:gF) (ps:List bA) (k:Nat),fB K VA c=some (some (.ref Ca))/\Meth X.K Ca m fa/\ZC X.prog X.w X.K X.mg X.base (qG X.prog X.w) k fa fd ps (mT K n run)/\XB k X.A/\aAn X.K fd ps []/\UE K Ca
structure ExcAt(K:fA)(mg:bA->Option dA)(x:bA):Prop where
 ex:∃C,fB K VA x=some (some (.ref C))/\mg x=some (.ref C)/\lE K C/\FG K C none
structure LU(X:Cx)(K:fA)(x:bA):Prop where
 ex:∃C,fB K VA x=some (some (.ref C))/\X.mg x=some (.ref C)/\lE K C/\xc X C "number"/\HK K C=true
structure jR(K:fA)(mg:bA->Option dA)(x:bA)(cs:List bA):Prop where
 ex:∃D,mg x=some (.ref D)/\(∃i,FG K D i)/\∀c∈cs,∀C,fB K VA c=some (some (.ref C))->dH K C (.ref D)=some true
structure TU(K:fA)(mg:bA->Option dA)(x:bA)(s n:List bA):Prop where
 ex:∃D,mg x=some (.ref D)/\(∀c∈s,∀C,fB K VA c=some (some (.ref C))->BU K (.ref C) D=true)/\∀c∈n,∀C,fB K VA c=some (some (.ref C))->GO K C D=true
def oR:Option dA->Option Int->Prop
 |some v,some i=>∃t,v=.int i t
 |none,none=>True
 |_,_=>False
structure mR(pr:IU)(mg:bA->Option dA)(K:fA)(x:bA)(ks:List bA)(vs:List Int):Prop where
 ex:∃(a:eA) (es:Array ZQ) (n:Nat),mg x=some (.ref a)/\(a==sysModules)=false/\K.lookup a=some { cls:=.type "dict",data:=.dict es n }/\Gr pr es.toList/\ks.length=vs.length/\∀k:bA,oR (findBy WM es k) ((ks.zip vs).lookup k)
structure QB(q:Bool)(X:Cx)(K:fA)(P:SA)(C:Calls)(Z:CC):Prop where
 nC:X.K=K
 UH:X.N=Z.N
 nm:X.env.scope.names=Z.names
 nd:Z.N.Nodup
 c:∀x d,Z.gl x=.c d->∃u v,X.mg x=some u/\aAf v u/\∀G,iA K G d v
 BB:∀x,Z.gl x=.BB->X.mg x=none
 sub:∀x s n,Z.gl (col x)=.sub s n->SU K X.mg x s n
 CD:∀x s n,Z.gl (col x)=.CD s n->TU K X.mg x s n
 BF:(∀f cs,Z.gl (lM f)=.BF cs->∀c∈cs,∀Ca,fB K VA c=some (some (.ref Ca))->fH K Ca f)/\∀x ks vs,Z.gl x=.aK ks vs->mR X.w.params X.mg K x ks vs
 cond:q=true->X.calm=true/\X.A.handled=none/\X.A.units+64<cLine/\(∀x f,Z.gl x=.fn f->FnAt X K x (P f).length (C f))/\(∀x ns,Z.gl x=.cls ns->rZ X K x ns) /\
  (∀m tb c f,Z.gl (dot m)=.uE tb->tb.lookup c=some f->MethAt X K c m (P f).length (C f))/\XB 2 X.A/\((∀x,Z.gl x=.exc->ExcAt K X.mg x)/\∀x,Z.gl x=.NG->LU X K x)/\(∀x cs,Z.gl (cat x)=.MA cs->jR K X.mg x cs)/\((∀x f,Z.gl x=.fn f->kZ X K x (P f).length (C f))/\(∀x f,Z.gl x=.obj f->tZ X K x (P f).length (C f))/\∀m tb c f,Z.gl (dot m)=.uE tb->tb.lookup c=some f->qZ X K c m (P f).length (C f))/\∃kH VS L,X.stack=kH::VS/\kH.frame=some L/\X.env.frame=some L
abbrev KA(X:Cx)(K:fA)(P:SA)(C:Calls)(Z:CC):Prop:=QB true X K P C Z
section
variable{X:Cx}{K:fA}{P:SA}{C:Calls}{Z:CC}
theorem QB.calm(o:QB true X K P C Z):X.calm=true:=(o.cond rfl).1
def QB.hh(o:QB true X K P C Z):X.A.handled=none:=(o.cond rfl).2.1
def QB.hu(o:QB true X K P C Z):X.A.units+64<cLine:=(o.cond rfl).2.2.1
theorem QB.fn(o:QB true X K P C Z):∀x f,Z.gl x=.fn f->FnAt X K x (P f).length (C f):=(o.cond rfl).2.2.2.1
theorem QB.cls(o:QB true X K P C Z):∀x ns,Z.gl x=.cls ns->rZ X K x ns:=(o.cond rfl).2.2.2.2.1
theorem QB.uE(o:QB true X K P C Z):∀m tb c f,Z.gl (dot m)=.uE tb->tb.lookup c=some f->MethAt X K c m (P f).length (C f):=(o.cond rfl).2.2.2.2.2.1
def QB.rm(o:QB true X K P C Z):XB 2 X.A:=(o.cond rfl).2.2.2.2.2.2.1
theorem QB.exc(o:QB true X K P C Z):∀x,Z.gl x=.exc->ExcAt K X.mg x:=(o.cond rfl).2.2.2.2.2.2.2.1.1
theorem QB.NG(o:QB true X K P C Z):∀x,Z.gl x=.NG->LU X K x:=(o.cond rfl).2.2.2.2.2.2.2.1.2
theorem QB.MA(o:QB true X K P C Z):∀x cs,Z.gl (cat x)=.MA cs->jR K X.mg x cs:=(o.cond rfl).2.2.2.2.2.2.2.2.1
def QB.fnX(o:QB true X K P C Z):∀x f,Z.gl x=.fn f->kZ X K x (P f).length (C f):=(o.cond rfl).2.2.2.2.2.2.2.2.2.1.1
theorem QB.obj(o:QB true X K P C Z):∀x f,Z.gl x=.obj f->tZ X K x (P f).length (C f):=(o.cond rfl).2.2.2.2.2.2.2.2.2.1.2.1
def QB.R7(o:QB true X K P C Z):∀m tb c f,Z.gl (dot m)=.uE tb->tb.lookup c=some f->qZ X K c m (P f).length (C f):=(o.cond rfl).2.2.2.2.2.2.2.2.2.1.2.2
def QB.tp(o:QB true X K P C Z):∃kH VS L,X.stack=kH::VS/\kH.frame=some L/\X.env.frame=some L:=(o.cond rfl).2.2.2.2.2.2.2.2.2.2
def KA.of(nC:X.K=K)(UH:X.N=Z.N)(nm:X.env.scope.names=Z.names)(nd:Z.N.Nodup)(calm:X.calm=true)(hh:X.A.handled=none)(hu:X.A.units+64<cLine)
  (c:∀x d,Z.gl x=.c d->∃u v,X.mg x=some u/\aAf v u/\∀G,iA K G d v) (BB:∀x,Z.gl x=.BB->X.mg x=none) (fn:∀x f,Z.gl x=.fn f->FnAt X K x (P f).length (C f)) (cls:∀x ns,Z.gl x=.cls ns->rZ X K x ns)
  (uE:∀m tb c f,Z.gl (dot m)=.uE tb->tb.lookup c=some f->MethAt X K c m (P f).length (C f)) (rm:XB 2 X.A) (sub:∀x s n,Z.gl (col x)=.sub s n->SU K X.mg x s n) (CD:∀x s n,Z.gl (col x)=.CD s n->TU K X.mg x s n) (BF:(∀f cs,Z.gl (lM f)=.BF cs->∀c∈cs,∀Ca,fB K VA c=some (some (.ref Ca))->fH K Ca f)/\∀x ks vs,Z.gl x=.aK ks vs->mR X.w.params X.mg K x ks vs)
  (exc:(∀x,Z.gl x=.exc->ExcAt K X.mg x)/\∀x,Z.gl x=.NG->LU X K x) (MA:∀x cs,Z.gl (cat x)=.MA cs->jR K X.mg x cs) (fnX:(∀x f,Z.gl x=.fn f->kZ X K x (P f).length (C f))/\(∀x f,Z.gl x=.obj f->tZ X K x (P f).length (C f))/\∀m tb c f,Z.gl (dot m)=.uE tb->tb.lookup c=some f->qZ X K c m (P f).length (C f)) (tp:∃kH VS L,X.stack=kH::VS/\kH.frame=some L/\X.env.frame=some L):KA X K P C Z :=
 ⟨nC,UH,nm,nd,c,BB,sub,CD,BF,λ_=>⟨calm,hh,hu,fn,cls,uE,rm,exc,MA,fnX,tp⟩⟩
end
structure HA(X:Cx)(K:fA)(P:SA)(C:Calls)(e:vA)(c:E):Prop where
 v:PE X e (tE K P C c)
 t:PT X e (tT K P C c)
 h:PE X e (tH K P C c)
section
variable{X:Cx}{K:fA}{P:SA}{C:Calls}{Z:CC}
def Cv(h:∀t U,ev P C t c U=none)(n:∀i,c≠.v i):HA X K P C e c:=by
 have v:PE X e (tE K P C c):=λaA s Y H Q I hz=>by obtain⟨U,G,w,U',r,z,k⟩:=hz;rw[h] at z;cases z
 exact⟨v,(λaA s Y H Q I ⟨U,G,w,U',r,z,k⟩=>by rw[h] at z;cases z),MM v n⟩
def jB:HA X K P C e .jA:=Cv (λt U=>rfl) λi z=>nomatch z
def GD(xo:QB q X K P C Z)(h:PE X e (tE K P C c))(n:∀i,c≠.v i:=by exact λi z=>nomatch z)(hw:∀U,ev P C true c U=aAg true (ev P C false c U):=by exact λU=>rfl)
  (he:∀whole,isTrue e X.env whole=(do let v <- whole;standAt e.pos;holding [v] (truthy v)):=by exact λ_=>rfl):HA X K P C e c:=⟨h,tUa xo.nC h hw he,MM h n⟩
def LW[BEq O][LawfulBEq O]{l:List O}(h:l.idxOf? x=some i):l[i]?=some x:=by
 rw[List.idxOf?,List.findIdx?_eq_some_iff_getElem] at h;obtain⟨h1,h2,_⟩:=h;rw[MD h1];exact congrArg some (uB h2)
def CC.KI(xo:QB q X K P C Z)(h:Z.slot x=some i):PE X (.Name x pos) (dI i):=by
 unfold CC.slot at h;split at h
 ·cases h
 ·rename_i hb;split at h
  ·rename_i hv;simp only[YE,RI,not_or,mU] at hb;refine lQ (by rw[xo.UH];exact LW h) ?_ hb.1.1 hb.1.2;unfold CC.Pg at hv;simp only[RI,vD] at hv;unfold aP;rw[xo.nm];rcases hv with (h | h) | h
   ·exact .inl h
   ·exact .inr (.inl h)
   ·exact .inr (.inr h)
  ·cases h
def CC.uf(xo:QB q X K P C Z)(h:Z.gW x=g)(hg:g≠.no):Gl X x/\Z.gl (col x)=g/\(x==("__debug__":bA))=false/\x≠"__name__":=by
 unfold CC.gW at h;split at h
 ·exact absurd h.symm hg
 ·rename_i hb;split at h
  ·rename_i hv;simp only[YE,RI,not_or,mU] at hb;refine⟨?_,h,hb.1.1,λz=>?_⟩
   ·unfold Gl Env.kindOf;rw[xo.nm];unfold CC.rS at hv;simpa using hv
   ·have:=hb.2
    rw[z] at this;simp at this
  ·exact absurd h.symm hg
def CC.bF(xo:QB q X K P C Z)(h:Z.glob x=g)(hg:g≠.no):Gl X x/\Z.gl x=g/\(x==("__debug__":bA))=false/\x≠"__name__":=by
 unfold CC.glob at h;split at h
 ·exact absurd h.symm hg
 ·rename_i hb;split at h
  ·rename_i hv;simp only[YE,RI,not_or,mU] at hb;refine⟨?_,h,hb.1.1,λz=>?_⟩
   ·unfold Gl Env.kindOf;rw[xo.nm];unfold CC.rS at hv;simpa using hv
   ·have:=hb.2
    rw[z] at this;simp at this
  ·exact absurd h.symm hg
def US(xo:QB q X K P C Z)(h:PE X e (tC v))(r:∀G,iA K G d v)(he:∀whole,isTrue e X.env whole=(do let v <- whole;standAt e.pos;holding [v] (truthy v))):HA X K P C e (.c d):=by
 refine GD xo (TE.MC h λY H Q q=>?_) (λi z=>nomatch z) (λU=>rfl) he;obtain⟨U,G,w,U',r',z,k⟩:=q;cases z;exact k v H G (AA.refl r') (r G)
def o8(xo:QB q X K P C Z)(x:bA)(pos:BC):HA X K P C (.Name x pos) (QK Z x):=by
 unfold QK;split
 ·rename_i i hi;have hp:=CC.KI xo hi (pos:=pos);refine⟨cSa hp, ?_,dSa hp⟩
  -- a test of a local: looked at
  refine TT.GN (Ek hp λ_=>rfl) λY H Q q=>?_
  obtain⟨U,G,b,U',r,e1,k⟩:=q;obtain⟨u,b',e2,e3,e4⟩:=N9 e1;cases e4
  cases w:(U[i]?).bind Sl.get with
  |none=>rw[w] at e2;cases e2
  |some d =>
   rw[w] at e2;simp only[jE,WB,SD,Out.ok.injEq] at e2;obtain⟨rfl,rfl⟩:=e2;obtain⟨x,hx⟩:=r.bound (by rw[w];rfl);exact⟨x,hx,b,by rw[xo.nC];exact y9 r.sub (r.get w hx) e3,k H G (AA.refl r)⟩
 ·split
  ·rename_i d hd;obtain⟨h1,h2,h3,h4⟩:=CC.bF xo hd (λz=>nomatch z);obtain⟨u,v,hm,hr,N5⟩:=xo.c x d h2;exact US xo (XS h1 hm hr h3) N5 λ_=>rfl
  ·exact jB
def gOa(xo:QB q X K P C Z)(c:Const)(k:Nat)(pos:BC):HA X K P C (.Constant c k pos) (nV c):=by
 cases c with
 |none=>exact US xo xRa (λG=>by simp[iA]) λ_=>rfl
 |bool b=>exact US xo Tj (λG=>by simp[iA]) λ_=>rfl
 |int i=>exact US xo Xj (λG=>by simp[iA]) λ_=>rfl
 |str s =>
  simp only[nV];split
  ·rename_i h;exact US xo YS (λG=>by simp only[iA];exact⟨trivial,h⟩) λ_=>rfl
  ·exact jB
 |_=>exact jB
def dC(h:aAc e=true)(es:List vA)(env:DK):zB (e::es) env=(false,eval e env)::zB es env:=by
 cases e<;>first | rfl | cases h
def gRa:PA X [] (LM K P C []):=by
 refine TA.FN XH λY H Q q=>?_
 obtain⟨U,G,ds,U',r,e,k⟩:=q;simp only[uD,WB,SD,Out.ok.injEq] at e;obtain⟨rfl,rfl⟩:=e;exact k [] H G (AA.refl r) nA.nil
def eRa(h:HA X K P C e c)(t:PA X es (LM K P C cs))(ns:aAc e=true):PA X (e::es) (LM K P C (c::cs)):=by
 refine TA.FN (GF h.v t (dC ns _ _)) λY H Q q=>?_
 obtain⟨U,G,ds,U',r,e,k⟩:=q;rw[uD] at e;obtain⟨v,U1,e1,e2⟩:=mB e;obtain⟨LG,U2,e3,e4⟩:=mB e2;cases e4;refine⟨U,G,v,U1,r,e1,λx H1 G1 a1 hx=>?_⟩;obtain⟨Cs,Ic,rx⟩:=a1.share hx;refine⟨U1,Cs,LG,_,Ic.pA,e3,λxs H2 G2 a2 nL=>?_⟩;exact k (x::xs) H2 G2 (Ic.trans a2) (nA.cons (iA.mono a2.ext.gg _ rx) nL)
def hRa:PA X [] (sH K P C []):=by
 refine TA.FN XH λY H Q q=>?_
 obtain⟨U,G,ds,U',r,e,k⟩:=q;simp only[VB,WB,SD,Out.ok.injEq] at e;obtain⟨rfl,rfl⟩:=e;exact k [] H G (AA.refl r) rfl
theorem VD.VH(w:∀a,new a->new' a):∀{hs:List Hd} {xs:List V},VD K H G own new Y hs xs->VD K H G own new' Y hs xs
 |[],_,h=>h
 |h::hs,_,r=>by(obtain⟨x,r',rfl,h1,h2,h3⟩:=r;exact⟨x,r',rfl,h1.VH w,VD.VH w h2,h3⟩)
def fRa(h:HA X K P C e c)(t:PA X es (sH K P C cs))(ns:aAc e=true):PA X (e::es) (sH K P C (c::cs)):=by
 refine TA.FN (GF h.h t (dC ns _ _)) λY H Q q=>?_
 obtain⟨U,G,ds,U',r,e,k⟩:=q;rw[VB] at e;obtain⟨v,U1,e1,e2⟩:=mB e;obtain⟨LG,U2,e3,e4⟩:=mB e2;cases e4;refine⟨U,G,v,U1,r,e1,λx H1 G1 a1 hx=>⟨U1,G1,LG,_,a1.pA,e3,λxs H2 G2 a2 nL=>?_⟩⟩;refine k (x::xs) H2 G2 (a1.trans a2) ⟨x,xs,rfl,hx.wait a2.ext λa z=>.inl (a2.own a z),nL.VH λa z=>a1.ext.hx a z,λd a hd ha ht=>?_⟩;subst hd;obtain⟨b,e5,g,o,n,m⟩:=hx;rw[ha] at e5;cases e5;obtain⟨vs,hv⟩:=o.there
 have:=(nL.OM ht).2.1
 rw[show H1 a=none from this] at hv;cases hv
theorem VD.getAll(r:CA K U Y H G):∀{hs:List Hd} {xs:List V} {ds:List D},VD K H G own new Y hs xs->getAll hs U=some ds->RU K H G ds xs
 |[],_,_,h,e=>by cases (show _=[] from h);cases e;rfl
 |h::hs,_,ds,hh,e=>by
  obtain⟨x,r',rfl,h1,h2,h3⟩:=hh;simp only[CI.getAll] at e
  cases q:h.get U with
  |none=>rw[q] at e;cases e
  |some d =>
   rw[q] at e
   cases q2:CI.getAll hs U with
   |none=>rw[q2] at e;cases e
   |some LG =>
    rw[q2] at e;cases e;exact⟨x,r',rfl,h1.read r q,VD.getAll r h2 q2⟩
def aOa(xo:KA X K P C Z)(ha:HA X K P C a ca)(hb:HA X K P C b cb):HA X K P C (.BinOp a op b pos) (.EA op ca cb):=by
 refine GD xo (TE.MC (zRa (Tv xo.nC op) ha.h hb.h) λY H Q q=>?_);obtain⟨U,G,v,U',r,e,k⟩:=q;obtain⟨hx,U1,e1,e⟩:=mB e;obtain⟨hy,U2,e2,e⟩:=mB e;obtain⟨e3,rfl⟩:=mF e;refine⟨U,G,hx,U1,r,e1,λx H1 G1 a1 rx=>⟨U1,G1,hy,U',a1.pA,e2,λy H2 G2 a2 ry=>?_⟩⟩
 cases q1:hx.get U' with
 |none=>rw[q1] at e3;cases e3
 |some d =>
  cases q2:hy.get U' with
  |none=>rw[q1,q2] at e3;cases e3
  |some d2 =>
   rw[q1,q2] at e3;simp only[oE] at e3;split at e3
   ·rename_i hm;have tQ:=rx.wait a2.ext λa z=>.inl (a2.own a z)
    refine⟨G2,d,d2,v,a2.pA.sub,tQ.read a2.pA q1,ry.read a2.pA q2,λho ds hd=>?_,e3,λz H3 hm3=>?_⟩
    ·subst ho;subst hd
     induction hx using Hd.casesOn with
     |slot i=>simp[eQ] at hm
     |val w =>
      induction w using RV.casesOn with
      |sh _=>simp[eQ] at hm
      |od _=>simp[eQ] at hm
      |ow w =>
       simp only[Hd.get,RV.d,WB] at q1;subst q1;obtain⟨c,e5,g,⟨vs,o1,o2⟩,n,m⟩:=tQ;exact⟨c,vs,e5,o1,o2⟩
    ·obtain⟨G3,a3,v3⟩:=(a1.trans a2).made hm3;exact k z H3 G3 a3 v3
   ·cases e3
def bPa(xo:KA X K P C Z)(ha:HA X K P C a ca):HA X K P C (.UnaryOp .USub a pos) (.neg ca):=by
 refine GD xo (TE.MC (bSa i2a ha.v) λY H Q q=>?_);obtain⟨U,G,v,U',r,e,k⟩:=q;obtain⟨w,U1,e1,e⟩:=mB e;split at e
 ·rename_i i hi;cases e;refine⟨U,G,w,_,r,e1,λx H1 G1 a1 rx=>?_⟩
  have:=rx.oQ
  rw[hi] at this;cases this.int;exact⟨i,rfl,k _ H1 G1 a1 (by show iA K G1 (.int (-i)) _;simp[iA])⟩
 ·cases e
def yRa(ha:PE X a ta):PE X (.UnaryOp .Not a pos) (λY H Q=>ta Y H λx H'=>∃k,VU X.K x H' k/\Q (.bl (!k)) H'):=by
 intro aA s Y H Q I h;refine UnaryOp_ (RA (ha aA s Y H _ I h) λv s1 hz=>?_);obtain⟨x,H1,I1,r1,q1⟩:=hz;exact not_of (RA (Po aA s1 Y H1 x v (λk H'=>Q (.bl (!k)) H') I1 r1 q1) λb s2 hz=>(by obtain⟨H2,I2,q2⟩:=hz;exact⟨.bl (!b),H2,I2,rfl,q2⟩))
def cPa(xo:KA X K P C Z)(ha:HA X K P C a ca):HA X K P C (.UnaryOp .Not a pos) (.not ca):=by
 have v:PE X (.UnaryOp .Not a pos) (tE K P C (.not ca)):=by
  refine TE.MC (yRa ha.h) λY H Q q=>?_
  obtain⟨U,G,v,U',r,e,k⟩:=q;obtain⟨w,U1,e1,e⟩:=mB e;obtain⟨e2,rfl⟩:=mF e;refine⟨U,G,w,U',r,e1,λx H1 G1 a1 rx=>?_⟩
  cases q:w.get U' with
  |none=>rw[q] at e2;cases e2
  |some d =>
   rw[q] at e2;simp only[oE] at e2
   cases q2:xK d with
   |none=>rw[q2] at e2;cases e2
   |some b =>
    rw[q2] at e2;cases e2;refine⟨b, ?_,k _ H1 G1 a1 (by show iA K G1 (.bl _) _;simp[iA])⟩;rw[xo.nC];exact y9 a1.pA.sub (rx.read a1.pA q) q2
 refine⟨v, ?_,MM v λi z=>nomatch z⟩;refine TT.GN (sUa ha.t) λY H Q q=>?_
 obtain⟨U,G,b,U',r,e,k⟩:=q;obtain⟨w,U1,e1,e⟩:=mB e;split at e
 ·rename_i b';cases e;exact⟨U,G,b',_,r,e1,λH1 G1 a1=>k H1 G1 a1⟩
 ·cases e
def qV(a1:AA K U Y H G U1 H1 G1)(rx:VE K H1 G1 (xA U1 Y) (UD H) Y hx x)(a2:AA K U1 Y H1 G1 U2 H2 G2)(ry:VE K H2 G2 (xA U2 Y) (UD H1) Y hy y)
  (e:((hx.get U2).bind λd=>(hy.get U2).bind λe=>mC op d e)=some b) (Q:VK) (q:Q (.bl b) H2):bT K op x y H2 Q:=by
 cases q1:hx.get U2 with
 |none=>rw[q1] at e;cases e
 |some d =>
  cases q2:hy.get U2 with
  |none=>rw[q1,q2] at e;cases e
  |some d2 =>
   rw[q1,q2] at e;exact⟨G2,d,d2,b,a2.pA.sub,(rx.wait a2.ext λa z=>.inl (a2.own a z)).read a2.pA q1,ry.read a2.pA q2,e,q⟩
def sKa(e:(o.map λb=>RV.sh (.bl b))=some v):∃b,o=some b/\v=.sh (.bl b):=by
 induction o using DH with
 |none=>cases e
 |some b=>cases e;exact⟨b,rfl,rfl⟩
def fV{x y:Option D}{f:D->D->Option Bool}(e:(x.bind λd=>y.bind λe=>(f d e).map λb=>RV.sh (.bl b))=some v):∃b,(x.bind λd=>y.bind λe=>f d e)=some b/\v=.sh (.bl b):=by
 induction x using DH with
 |none=>cases e
 |some d =>
  induction y using DH with
  |none=>cases e
  |some d2=>exact sKa e
def dOa(xo:KA X K P C Z)(ha:HA X K P C a ca)(hb:HA X K P C b cb)(hm:xJ op b=false):HA X K P C (.Compare a [op] [b] pos) (.QA op ca cb):=by
 have core:∀Y H (Q:VK),(∃(U:Env) (G:Hp) (b:Bool) (U':Env),CA K U Y H G/\ev P C false (.QA op ca cb) U=some (.ok (.sh (.bl b)),U')/\∀H' G',AA K U Y H G U' H' G'->Q (.bl b) H') ->
   DQ (bT K op) (tH K P C ca) (tH K P C cb) Y H Q:=λY H Q q=>by
  obtain⟨U,G,b,U',r,e,k⟩:=q;obtain⟨hx,U1,e1,e⟩:=mB e;obtain⟨hy,U2,e2,e⟩:=mB e;obtain⟨e3,rfl⟩:=mF e;obtain⟨b',e4,e5⟩:=fV e3;cases e5;exact⟨U,G,hx,U1,r,e1,λx H1 G1 a1 rx=>⟨U1,G1,hy,U',a1.pA,e2,λy H2 G2 a2 ry=>qV a1 rx a2 ry e4 Q (k H2 G2 (a1.trans a2))⟩⟩
 have v:PE X (.Compare a [op] [b] pos) (tE K P C (.QA op ca cb)):=by
  refine TE.MC (Wj (jP xo.nC xo.hu op) ha.h hb.h hm) λY H Q q=>core Y H Q ?_
  obtain⟨U,G,v,U',r,e,k⟩:=q;have e0:=e;obtain⟨hx,U1,e1,e⟩:=mB e;obtain⟨hy,U2,e2,e⟩:=mB e;obtain⟨e3,rfl⟩:=mF e;obtain⟨b',e4,rfl⟩:=fV e3;exact⟨U,G,b',U',r,e0,λH' G' a=>k _ H' G' a (by show iA K G' (.bl _) _;simp[iA])⟩
 refine⟨v, ?_,MM v λi z=>nomatch z⟩;refine TT.GN (Dk (jP xo.nC xo.hu op) ha.h hb.h hm) λY H Q q=>core Y H _ ?_
 obtain⟨U,G,b',U',r,e,k⟩:=q;exact⟨U,G,b',U',r,e,λH' G' a=>⟨b',rfl,k H' G' a⟩⟩
def eOa(xo:KA X K P C Z)(ha:HA X K P C a ca)(hb:HA X K P C b cb)(hc:HA X K P C c cc)(hm:xJ xC c=false):HA X K P C (.Compare a [op,xC] [b,c] pos) (.ZI op xC ca cb cc):=by
 have core:∀Y H (Q:VK),(∃(U:Env) (G:Hp) (b:Bool) (U':Env),CA K U Y H G/\ev P C false (.ZI op xC ca cb cc) U=some (.ok (.sh (.bl b)),U')/\∀H' G',AA K U Y H G U' H' G'->Q (.bl b) H') ->
   j9 (bT K op) (bT K xC) (tH K P C ca) (tH K P C cb) (tH K P C cc) Y H Q:=λY H Q q=>by
  obtain⟨U,G,b,U',r,e,k⟩:=q;obtain⟨hx,U1,e1,e⟩:=mB e;obtain⟨hy,U2,e2,e⟩:=mB e;refine⟨U,G,hx,U1,r,e1,λx H1 G1 a1 rx=>⟨U1,G1,hy,U2,a1.pA,e2,λy H2 G2 a2 ry=>?_⟩⟩;split at e
  ·cases e
  ·rename_i e4;cases e;refine qV a1 rx a2 ry e4 _ ⟨false,rfl, ?_⟩;rw[vB EJ];exact k H2 G2 (a1.trans a2)
  ·rename_i e4;obtain⟨hz,U3,e5,e⟩:=mB e;obtain⟨e6,rfl⟩:=mF e;obtain⟨b',e7,e8⟩:=fV e6;cases e8;refine qV a1 rx a2 ry e4 _ ⟨true,rfl, ?_⟩;rw[FA rfl];exact⟨U2,G2,hz,U',a2.pA,e5,λz H3 G3 a3 rz=>qV (a1.trans a2) (ry.VH λa z=>a1.ext.hx a z) a3 rz e7 Q (k H3 G3 ((a1.trans a2).trans a3))⟩
 have hl:lastMarks [op,xC] [b,c]=false:=hm
 have v:PE X (.Compare a [op,xC] [b,c] pos) (tE K P C (.ZI op xC ca cb cc)):=by
  refine TE.MC (nRa (jP xo.nC xo.hu op) (jP xo.nC xo.hu xC) ha.h hb.h hc.h hl) λY H Q q=>core Y H Q ?_
  obtain⟨U,G,v,U',r,e,k⟩:=q;have e0:=e
  have:∃b,v=.sh (.bl b):=by
   obtain⟨hx,U1,e1,e⟩:=mB e;obtain⟨hy,U2,e2,e⟩:=mB e;split at e
   ·cases e
   ·cases e;exact⟨_,rfl⟩
   ·obtain⟨hz,U3,e5,e⟩:=mB e;obtain⟨e6,rfl⟩:=mF e;obtain⟨b',e7,e8⟩:=fV e6;exact⟨b',e8⟩
  obtain⟨b',rfl⟩:=this;exact⟨U,G,b',U',r,e0,λH' G' a=>k _ H' G' a (by show iA K G' (.bl _) _;simp[iA])⟩
 refine⟨v, ?_,MM v λi z=>nomatch z⟩;refine TT.GN (qUa (jP xo.nC xo.hu op) (jP xo.nC xo.hu xC) ha.h hb.h hc.h hl) λY H Q q=>core Y H _ ?_
 obtain⟨U,G,b',U',r,e,k⟩:=q;exact⟨U,G,b',U',r,e,λH' G' a=>⟨b',rfl,k H' G' a⟩⟩
end
section
variable{K:fA}
def PW.imp(h:PW X e t)(w:∀Y H Q,u Y H Q->t Y H Q):PW X e u:=λwh aA s Y H Q I q=>h wh aA s Y H Q I (w Y H Q q)
def Mu(q:tE K P C (.and ca cb) Y H Q):Ho (tE K P C ca) (tE K P C cb) Y H Q:=by
 obtain⟨U,G,v,U',r,e,k⟩:=q;obtain⟨w,U1,e1,e⟩:=mB e;refine⟨U,G,w,U1,r,e1,λx H1 G1 a1 rx=>?_⟩;split at e
 ·refine⟨true,eT (K:=K) (G:=G1) rx, ?_⟩;refine NN ?_;exact⟨U1,G1,v,U',a1.pA,e,λy H2 G2 a2 ry=>k y H2 G2 (a1.trans a2) (ry.VH λa z=>a1.ext.hx a z)⟩
 ·refine⟨false,eT (K:=K) (G:=G1) rx, ?_⟩;refine MN ?_;cases e;exact k _ H1 G1 a1 (by show iA K G1 (.bl _) _;simp[iA])
 ·cases e
def Lu(q:tT K P C (.and ca cb) Y H Q):Fo (tT K P C ca) (tT K P C cb) Y H Q:=by
 obtain⟨U,G,b,U',r,e,k⟩:=q;obtain⟨w,U1,e1,e⟩:=mB e;split at e
 ·refine⟨U,G,true,U1,r,e1,λH1 G1 a1=>?_⟩;refine NN ?_;exact⟨U1,G1,b,U',a1.pA,e,λH2 G2 a2=>k H2 G2 (a1.trans a2)⟩
 ·refine⟨U,G,false,U1,r,e1,λH1 G1 a1=>?_⟩;refine MN ?_;cases e;exact k H1 G1 a1
 ·cases e
def aRa(q:tE K P C (.or ca cb) Y H Q):Jo (tE K P C ca) (tE K P C cb) Y H Q:=by
 obtain⟨U,G,v,U',r,e,k⟩:=q;obtain⟨w,U1,e1,e⟩:=mB e;refine⟨U,G,w,U1,r,e1,λx H1 G1 a1 rx=>?_⟩;split at e
 ·refine⟨true,eT (K:=K) (G:=G1) rx, ?_⟩;refine NN ?_;cases e;exact k _ H1 G1 a1 (by show iA K G1 (.bl _) _;simp[iA])
 ·refine⟨false,eT (K:=K) (G:=G1) rx, ?_⟩;refine MN ?_;exact⟨U1,G1,v,U',a1.pA,e,λy H2 G2 a2 ry=>k y H2 G2 (a1.trans a2) (ry.VH λa z=>a1.ext.hx a z)⟩
 ·cases e
def zQa(q:tT K P C (.or ca cb) Y H Q):Io (tT K P C ca) (tT K P C cb) Y H Q:=by
 obtain⟨U,G,b,U',r,e,k⟩:=q;obtain⟨w,U1,e1,e⟩:=mB e;split at e
 ·refine⟨U,G,true,U1,r,e1,λH1 G1 a1=>?_⟩;refine NN ?_;cases e;exact k H1 G1 a1
 ·refine⟨U,G,false,U1,r,e1,λH1 G1 a1=>?_⟩;refine MN ?_;exact⟨U1,G1,b,U',a1.pA,e,λH2 G2 a2=>k H2 G2 (a1.trans a2)⟩
 ·cases e
structure LJ(X:Cx)(K:fA)(P:SA)(C:Calls)(op:BoolOp)(vs:List vA)(c:E):Prop where
 v:∀pos,PE X (.BoolOp op vs pos) (tE K P C c)
 w:∀pos,PW X (.BoolOp op vs pos) (tT K P C c)
def oNa(h:HA X K P C a c):LJ X K P C .And [a] c:=⟨λ_=>Zj h.v,λ_=>aAX h.t⟩
def pNa(h:HA X K P C a c):LJ X K P C .Or [a] c:=⟨λ_=>Zj h.v,λ_=>aAZ h.t⟩
def Hj(h:HA X K P C a ca)(t:LJ X K P C .And (b::r) cb):LJ X K P C .And (a::b::r) (.and ca cb) :=
 ⟨λpos=>TE.MC (kRa h.v (t.v pos)) λ_ _ _ q=>Mu q,λpos=>PW.imp (aA1 h.t (t.w pos)) λ_ _ _ q=>Lu q⟩
def Ij(h:HA X K P C a ca)(t:LJ X K P C .Or (b::r) cb):LJ X K P C .Or (a::b::r) (.or ca cb) :=
 ⟨λpos=>TE.MC (FX h.v (t.v pos)) λ_ _ _ q=>aRa q,λpos=>PW.imp (aA4 h.t (t.w pos)) λ_ _ _ q=>zQa q⟩
def LJ.Jj(h:LJ X K P C op vs c)(n:∀i,c≠.v i):HA X K P C (.BoolOp op vs pos) c:=⟨h.v pos,(h.w pos).pt,MM (h.v pos) n⟩
def rUa(hc:PT X c tc)(ha:PT X a ta)(hb:PT X b tb):PT X (.IfExp c a b pos) (λY H Q=>tc Y H λk H1=>if k=true then ta Y H1 Q else tb Y H1 Q):=by
 intro aA s Y H Q I h;show wA _ _ (do if <- isTrue c X.env (eval c X.env) then isTrue a X.env (eval a X.env) else isTrue b X.env (eval b X.env)) _ _ s;refine BA (RA (hc aA s Y H _ I h) λk s1 hz=>?_);obtain⟨H1,I1,q1⟩:=hz
 cases k with
 |true =>
  simp only[if_true] at q1 ⊢;exact ha aA s1 Y H1 Q I1 q1
 |false =>
  simp only[FJ,if_false] at q1 ⊢;exact hb aA s1 Y H1 Q I1 q1
def sOa(hc:HA X K P C c cc)(ha:HA X K P C a ca)(hb:HA X K P C b cb):HA X K P C (.IfExp c a b pos) (.ite cc ca cb):=by
 have v:PE X (.IfExp c a b pos) (tE K P C (.ite cc ca cb)):=by
  refine TE.MC (qRa hc.t ha.v hb.v) λY H Q q=>?_
  obtain⟨U,G,v,U',r,e,k⟩:=q;obtain⟨w,U1,e1,e⟩:=mB e;split at e
  ·refine⟨U,G,true,U1,r,e1,λH1 G1 a1=>?_⟩;refine NN ?_;exact⟨U1,G1,v,U',a1.pA,e,λy H2 G2 a2 ry=>k y H2 G2 (a1.trans a2) (ry.VH λa z=>a1.ext.hx a z)⟩
  ·refine⟨U,G,false,U1,r,e1,λH1 G1 a1=>?_⟩;refine MN ?_;exact⟨U1,G1,v,U',a1.pA,e,λy H2 G2 a2 ry=>k y H2 G2 (a1.trans a2) (ry.VH λa z=>a1.ext.hx a z)⟩
  ·cases e
 refine⟨v, ?_,MM v λi z=>nomatch z⟩;refine TT.GN (rUa hc.t ha.t hb.t) λY H Q q=>?_
 obtain⟨U,G,b,U',r,e,k⟩:=q;obtain⟨w,U1,e1,e⟩:=mB e;split at e
 ·refine⟨U,G,true,U1,r,e1,λH1 G1 a1=>?_⟩;refine NN ?_;exact⟨U1,G1,b,U',a1.pA,e,λH2 G2 a2=>k H2 G2 (a1.trans a2)⟩
 ·refine⟨U,G,false,U1,r,e1,λH1 G1 a1=>?_⟩;refine MN ?_;exact⟨U1,G1,b,U',a1.pA,e,λH2 G2 a2=>k H2 G2 (a1.trans a2)⟩
 ·cases e
def hPa{q:Bool}(xo:QB q X K P C Z){es:List vA}{cs:List E}{k0:Nat}{pos:BC}(h:PA X es (LM K P C cs)):HA X K P C (.Tuple es k0 pos) (.t cs):=by
 refine GD xo (TE.MC (v8 h) λY H Q q=>?_);obtain⟨U,G,v,U',r,e,k⟩:=q;obtain⟨ds,U1,e1,e⟩:=mB e;split at e
 ·rename_i hz;cases e;refine⟨U,G,ds,_,r,e1,λxs H1 G1 a1 rx=>⟨by rw[rx.len];exact jO hz,λp hp=>?_⟩⟩;obtain⟨a2,v2⟩:=a1.To hp rx;exact k _ _ _ a2 v2
 ·cases e
def xOa(xo:QB q X K P C Z)(h:PA X es (LM K P C cs)):HA X K P C (.List es pos) (.l cs):=by
 refine GD xo (TE.MC (rRa h) λY H Q q=>?_);obtain⟨U,G,v,U',r,e,k⟩:=q;obtain⟨ds,U1,e1,e⟩:=mB e;split at e
 ·rename_i hz;cases e;refine⟨U,G,ds,_,r,e1,λxs H1 G1 a1 rx=>⟨by rw[rx.len];exact jO hz,λp hp=>?_⟩⟩;obtain⟨a2,v2⟩:=a1.r8 hp rx;exact k _ _ _ a2 v2
 ·cases e
def tOa(xo:KA X K P C Z)(ha:HA X K P C a ca)(hb:HA X K P C b cb)(hs:wR b):HA X K P C (.Subscript a b pos) (.ix ca cb):=by
 refine GD xo (TE.MC (Yj (wFa xo.nC (by have:=xo.hu;lia)) ha.h hb.v hs) λY H Q q=>?_);obtain⟨U,G,v,U',r,e,k⟩:=q;obtain⟨hx,U1,e1,e⟩:=mB e;obtain⟨w,U2,e2,e⟩:=mB e;obtain⟨e3,rfl⟩:=mF e;refine⟨U,G,hx,U1,r,e1,λx H1 G1 a1 rx=>⟨U1,G1,w,U',a1.pA,e2,λy H2 G2 a2 ry=>?_⟩⟩
 cases q1:hx.get U' with
 |none=>rw[q1] at e3;cases e3
 |some d =>
  rw[q1] at e3;simp only[oE] at e3
  cases q2:zS d w.d with
  |none=>rw[q2] at e3;cases e3
  |some d2 =>
   rw[q2] at e3;cases e3;exact⟨G2,d,w.d,d2,a2.pA.sub,(rx.wait a2.ext λa z=>.inl (a2.own a z)).read a2.pA q1,ry.oQ,q2,λz hz=>k z H2 G2 (a1.trans a2) hz⟩
def tO(K:fA)(P:SA)(C:Calls)(c:E):TO:=λY H Q=>∃(U:Env) (G:Hp) (o:Option D) (U':Env),CA K U Y H G/\aAK c (ev P C false c U) U=some (.ok o,U')/\∃i,HM o=some i/\∀H' G',AA K U Y H G U' H' G'->Q i H'
def uSa:PO X none (tO K P C .xE):=λaA s Y H Q I hz=>by
 obtain⟨U,G,o,U',r,e,i,e2,k⟩:=hz;simp only[aAK,r6,if_true,WB,SD,Out.ok.injEq] at e;obtain⟨rfl,rfl⟩:=e;cases e2;exact tSa aA s Y H Q I (k H G (AA.refl r))
def wSa(h:HA X K P C e c):PO X (some e) (tO K P C (a8 c)):=λaA s Y H Q I hz=>by
 obtain⟨U,G,o,U',r,e1,i,e2,k⟩:=hz
 have key:∀c',a8 c=c'->r6 c'=false->(∀U,ev P C false c' U=ev P C false c U\/ev P C false c' U=none)->wA (model X.prog X.w) X.A (evalPart (some e) X.env) (λu s'=>∃o H',cA X aA Y H' s'/\FK u o/\Q o H') X.xe s:=λc' e0 B5 he=>by
  rw[e0] at e1;simp only[aAK,B5,FJ,if_false] at e1;obtain⟨w,U1,e3,e4⟩:=mB e1;cases e4;rcases he U with he | he
  ·rw[he] at e3;refine vSa h.v aA s Y H Q I ⟨U,G,w,_,r,e3,λx H1 G1 a1 rx=>?_⟩;cases q:w.d<;>rw[q] at e2<;>simp only[HM,reduceCtorEq,WB] at e2;subst e2
   have:=rx.oQ
   rw[q] at this;exact⟨_,this.int,k H1 G1 a1⟩
  ·rw[he] at e3;cases e3
 cases c with
 |xE=>exact key .jA rfl rfl λU=>.inr (rfl)
 |_=>exact key _ rfl rfl λU=>.inl rfl
def ePa(xo:KA X K P C Z){lo hi:Option vA}{ca cl ch:E}(ha:HA X K P C a ca)(hl:PO X lo (tO K P C cl))(hh:PO X hi (tO K P C ch)):HA X K P C (.Subscript a (.Slice lo hi none p2) pos) (.sl ca cl ch):=by
 refine GD xo (TE.MC (aSa (mYa xo.nC) ha.h hl hh) λY H Q q=>?_);obtain⟨U,G,v,U',r,e,k⟩:=q;obtain⟨hx,U1,e1,e⟩:=mB e;obtain⟨l,U2,e2,e⟩:=mB e;obtain⟨h,U3,e3,e⟩:=mB e;obtain⟨e4,rfl⟩:=mF e
 cases q1:hx.get U' with
 |none=>rw[q1] at e4;cases e4
 |some d =>
  cases q2:HM l with
  |none=>rw[q1,q2] at e4;cases e4
  |some l' =>
   cases q3:HM h with
   |none=>rw[q1,q2,q3] at e4;cases e4
   |some h' =>
    rw[q1,q2,q3] at e4;simp only[oE] at e4;refine⟨U,G,hx,U1,r,e1,λx H1 G1 a1 rx=>⟨U1,G1,l,U2,a1.pA,e2,l',q2,λH2 G2 a2=>⟨U2,G2,h,U',a2.pA,e3,h',q3,λH3 G3 a3=>?_⟩⟩⟩;have AZ:=a2.trans a3;refine⟨G3,d,v,a3.pA.sub,(rx.wait AZ.ext λa z=>.inl (AZ.own a z)).read a3.pA q1,e4,λz H4 hm=>?_⟩;obtain⟨G4,a4,v4⟩:=(a1.trans AZ).made hm;exact k z H4 G4 a4 v4
def AG(h:es.all aAc=true)(env:DK)(pos:BC):(nD pos (zB es env)).any (·.1)=false/\(nD pos (zB es env)).all (λx=>!x.1)=true:=by
 induction es with
 |nil=>exact⟨rfl,rfl⟩
 |cons e es ih =>
  rw[PB,qA] at h;rw[dC h.1];obtain⟨i1,i2⟩:=ih h.2
  unfold nD at *
  refine⟨?_, ?_⟩
  ·rw[pD,AK,i1];rfl
  ·rw[pD,PB,i2];rfl
def cOa(xo:KA X K P C Z)(hf:Z.glob f=.fn g)(ns:(e::es).all aAc=true)(ha:PA X (e::es) (sH K P C cs)):HA X K P C (.Call (.Name f p) (e::es) [] pos) (.call g cs):=by
 obtain⟨h1,h2,h3,h4⟩:=CC.bF xo hf (λz=>nomatch z);obtain⟨fa,fd,ps,k0,F,hr,hm,hk,hb⟩:=(xo.fn f g h2).ex;rw[PB,qA] at ns;refine GD xo (TE.MC (lRa F hr h1 hm hk hb .nil DX ha h3 (dC ns.1 _ _) (AG ns.2 _ _).1) λY H Q q=>?_);obtain⟨U,G,v,U',r,e,k⟩:=q;obtain⟨hs,U1,e1,e⟩:=mB e;refine⟨U,G,hs,U1,r,e1,λxs H1 G1 a1 rx=>?_⟩;obtain⟨as,G2,OA,d1,d2,d3,_,d4⟩:=tV a1 rx e;rw[jI];refine⟨?_,as,G2,v,OA,d1,d2,d3,λx H' G' a hv=>?_⟩
 ·have:=d1.len
  rw[YA] at this
  lia
 ·obtain⟨a5,v5⟩:=d4 x H' G' a hv;exact k x H' G' a5 v5
def Fv{f:bA}{b:BI}(h:TZ f=some b):JL f=some (UZ b):=by
 unfold TZ at h
 repeat (split at h;· (rename_i hf;cases h;subst hf;first | exact PySem.boot_len | left | rfl))
 cases h
def Gv(h:cV f=some b):JL f=some (UZ b):=by
 unfold cV at h;split at h
 ·rename_i hf;cases h;subst hf;left
 ·exact Fv h
def n8(xo:KA X K P C Z)(hf:Z.glob f=.BB)(hb:cV f=some b)(ns:(e::es).all aAc=true)(ha:PA X (e::es) (sH K P C cs)):HA X K P C (.Call (.Name f p) (e::es) [] pos) (.bif b cs):=by
 obtain⟨h1,h2,h3,h4⟩:=CC.bF xo hf (λz=>nomatch z);have hm:=xo.BB f h2;have hv:=Gv hb;rw[PB,qA] at ns
 have hp:PE X (.Call (.Name f p) (e::es) [] pos) (i9 (Nk K b) (sH K P C cs)):=by
  have hc:=Qv xo.nC xo.calm xo.hh xo.rm b
  cases b<;>first
   |exact EX hc h1 hm hv ha h4 h3 (dC ns.1 _ _) (AG ns.2 _ _).1
   |exact mRa hc h1 hm hv ha h4 h3 (dC ns.1 _ _) (AG ns.2 _ _).1
 refine GD xo (TE.MC hp λY H Q q=>?_);obtain⟨U,G,v,U',r,e,k⟩:=q;obtain⟨hs,U1,e1,e⟩:=mB e;obtain⟨e2,rfl⟩:=mF e;refine⟨U,G,hs,U',r,e1,λxs H1 G1 a1 rx=>?_⟩
 cases q1:getAll hs U' with
 |none=>rw[q1] at e2;cases e2
 |some ds =>
  rw[q1] at e2;refine⟨G1,ds,v,a1.pA.sub,rx.getAll a1.pA q1,e2,λz H' hm=>?_⟩;obtain⟨G2,a2,v2⟩:=a1.made hm;exact k z H' G2 a2 v2
end
section
variable{K:fA}
def u6(h:mJ U i=true):∃ds p l,U[i]?=some (.ow (.l ds) p l):=by
 unfold mJ at h;split at h
 ·rename_i d p l e;exact⟨d,p,l,e⟩
 ·cases h
def CA.Ap(r:CA K U Y H G)(h:U[i]?=some (.ow d p l))(hx:Y[i]?=some (some (.ref a)))(hr:HG K (sA H a ob) G a d') :
  AA K U Y H G (U.set i (.ow d' p l)) (sA H a ob) G:=by
 obtain⟨b,h1,g,o⟩:=r.ow i d p l h;rw[hx] at h1;cases h1;have hn:H a≠none:=(r.owned ⟨i,d,p,l,h,hx⟩).1
 have r0:CA K (U.set i .un) Y (sA H a ob) G:=by
  have ru:=r.unset i;have nu:=r.FQ h hx;refine⟨ru.len,λb u e=>?_,ru.sh,λj d' p' l' hj=>?_,ru.inj⟩
  ·have:b≠a:=λz=>by subst z;rw[g] at e;cases e
   rw[dB this];exact ru.sub b u e
  ·obtain⟨b,h3,h4,h5⟩:=ru.ow j d' p' l' hj;have hb:b≠a:=λz=>by subst z;exact nu ⟨j,d',p',l',hj,h3⟩
   exact⟨b,h3,h4,h5.mono (Sm.refl _) λ_ z=>by rw[dB hb];exact z⟩
 refine⟨r0.XN hx g hr (r.FQ h hx),⟨Sm.refl _,λb u e nb=>?_,λb e=>?_,λb e g' _=>g'⟩,EE.set (by rw[h];exact⟨rfl,rfl⟩)⟩
 ·have:b≠a:=λz=>by subst z;exact nb ⟨i,d,p,l,h,hx⟩
  rw[dB this];exact e
 ·by_cases hb:b=a
  ·subst hb;rw[eC] at e;cases e
  ·rwa[dB hb] at e
def CA.write(r:CA K U Y H G)(h:U[i]?=some (.ow d p l))(hx:Y[i]?=some (some (.ref a)))(hr:nA K G ds vs) :
  AA K U Y H G (U.set i (.ow (.l ds) p l)) (sA H a (.l vs)) G:=r.Ap h hx ⟨vs,eC,hr⟩
def zNa(xo:KA X K P C Z)(hi:Z.slot x=some i)(hl:(NA.endLine==aB.line)=true)(ns:aAc a=true)(ha:HA X K P C a ca) :
  HA X K P C (.Call (.Attribute (.Name x p) ("append":bA) NA) [a] [] aB) (.app i ca):=by
 have hp:PE X (.Name x p) (dI i):=CC.KI xo hi;have rE:PA X [a] (WG (tE K P C ca) cI):=GF ha.v XH (dC ns _ _);have eL:[a].all aAc=true:=by rw[PB,ns];rfl
 refine GD xo (TE.MC (kQ X9 Bq PySem.F.type_list_append Zi hp rE rfl (by
   rw[qA,qA];exact⟨⟨(AG eL _ _).2,rfl⟩,rfl⟩) hl (dC ns _ _) rfl) λY H Q q=>?_)
 obtain⟨U,G,v,U',r,e,k⟩:=q;replace e:(if mJ U i then _ else none)=_:=e;split at e
 ·rename_i ho;obtain⟨d0,p0,l0,h0⟩:=u6 ho;obtain⟨b,hb,g0,o0⟩:=r.ow i _ p0 l0 h0;obtain⟨w,U1,e1,e⟩:=mB e;refine⟨.ref b,hb,.inl ⟨rfl, ?_⟩,U,G,w,U1,r,e1,λy H1 G1 a1 ry=>?_⟩
  ·obtain⟨vs,hv,_⟩:=o0;exact⟨vs,DB.of hv⟩
  ·split at e
   ·rename_i ds p1 h1;split at e
    ·rename_i hz;cases e;obtain⟨G2,a2,r2⟩:=a1.share ry;obtain⟨b',DF,g1,vs,hv,hr⟩:=a2.pA.ow i _ _ _ h1;rw[hb] at DF;cases DF
     have:=hr.len
     refine⟨b,vs,y,rfl,rfl,hv, ?_, ?_⟩
     ·have:=jO hz
      lia
     ·have a3:=a2.pA.write h1 hb (hr.app (nA.cons r2 nA.nil));exact k _ _ _ (a2.trans a3) (by show iA K G2 .rA _;simp[iA])
    ·cases e
   ·cases e
 ·cases e
def iOa(xo:KA X K P C Z)(hi:Z.slot x=some i)(hl:(NA.endLine==aB.line)=true)(ns:aAc a=true)(ha:HA X K P C a ca) :
  HA X K P C (.Call (.Attribute (.Name x p) ("extend":bA) NA) [a] [] aB) (.ext i ca):=by
 have hp:PE X (.Name x p) (dI i):=CC.KI xo hi;have rE:PA X [a] (WG (tE K P C ca) cI):=GF ha.v XH (dC ns _ _);have eL:[a].all aAc=true:=by rw[PB,ns];rfl
 refine GD xo (TE.MC (kQ X9 Cq PySem.F.type_list_extend bLa hp rE rfl (by
   rw[qA,qA];exact⟨⟨(AG eL _ _).2,rfl⟩,rfl⟩) hl (dC ns _ _) rfl) λY H Q q=>?_)
 obtain⟨U,G,v,U',r,e,k⟩:=q;replace e:(if mJ U i then _ else none)=_:=e;split at e
 ·rename_i ho;obtain⟨d0,p0,l0,h0⟩:=u6 ho;obtain⟨b,hb,g0,o0⟩:=r.ow i _ p0 l0 h0;obtain⟨w,U1,e1,e⟩:=mB e;refine⟨.ref b,hb,.inl ⟨rfl, ?_⟩,U,G,w,U1,r,e1,λy H1 G1 a1 ry=>?_⟩
  ·obtain⟨vs,hv,_⟩:=o0;exact⟨vs,DB.of hv⟩
  ·split at e
   ·rename_i ds p1 es h1;split at e
    ·rename_i hz;cases e;obtain⟨c,rfl,gc,⟨zs,hc,vg⟩,j8,new⟩:=ry;obtain⟨b',DF,g1,vs,hv,hr⟩:=a1.pA.ow i _ _ _ h1;rw[hb] at DF;cases DF;have l1:=hr.len;have l2:=vg.len;refine⟨b,c,vs,zs,rfl,rfl,hv,hc, ?_, ?_⟩
     ·have:=jO hz
      lia
     ·exact k _ _ _ (a1.trans (a1.pA.write h1 hb (hr.app vg))) (by show iA K G1 .rA _;simp[iA])
    ·cases e
   ·cases e
 ·cases e
def F9:sA (sA H p a) p b=sA H p b:=by
 funext q
 by_cases h:q=p
 ·subst h;rw[eC,eC]
 ·rw[dB h,dB h,dB h]
def CA.y8(r:CA K U Y H G)(g:G a=none)(n:¬xA U Y a):CA K U Y (sA H a o) G:=by
 refine⟨r.len,λb u e=>?_,r.sh,λj d' p' l' hj=>?_,r.inj⟩
 ·have:b≠a:=λz=>by subst z;rw[g] at e;cases e
  rw[dB this];exact r.sub b u e
 ·obtain⟨b,h3,h4,h5⟩:=r.ow j d' p' l' hj;have hb:b≠a:=λz=>by subst z;exact n ⟨j,d',p',l',hj,h3⟩
  exact⟨b,h3,h4,h5.mono (Sm.refl _) λ_ z=>by rw[dB hb];exact z⟩
def f2a(xo:QB q X K P C Z)(h:qY Z t=some ty):PE X t (tC (rY ty))/\aAc t=true:=by
 cases t<;>simp only[qY,reduceCtorEq] at h;rename_i x pos;split at h
 ·rename_i hg;obtain⟨h1,h2,h3,h4⟩:=CC.bF xo hg (λz=>nomatch z);have hm:=xo.BB x h2;refine⟨?_,rfl⟩;split at h
  ·rename_i hx;cases h;subst hx;exact jQ h1 hm (u:=.type "int") (by left) rfl
  ·split at h
   ·rename_i hx;cases h;subst hx;exact jQ h1 hm (u:=.type "bool") (by left) rfl
   ·split at h
    ·rename_i hx;cases h;subst hx;exact jQ h1 hm (u:=.type "str") (by left) rfl
    ·split at h
     ·rename_i hx;cases h;subst hx;exact jQ h1 hm (u:=.type "list") (by left) rfl
     ·split at h
      ·rename_i hx;cases h;subst hx;exact jQ h1 hm (u:=.type "tuple") (by left) rfl
      ·split at h
       ·rename_i hx;cases h;subst hx;exact jQ h1 hm (u:=.type "ValueError") (by left) rfl
       ·cases h
 ·cases h
def rOa(xo:QB q X K P C Z)(hf:Z.glob ("isinstance":bA)=.BB)(ht:qY Z t=some ty)(ns:aAc a=true)(ha:HA X K P C a ca) :
  HA X K P C (.Call (.Name ("isinstance":bA) p) [a,t] [] pos) (.ZF ca [ty]):=by
 obtain⟨h1,h2,h3,h4⟩:=CC.bF xo hf (λz=>nomatch z);have hm:=xo.BB _ h2;obtain⟨pt,nt⟩:=f2a xo ht;have rE:PA X [a,t] (WG (tH K P C ca) (WG (tC (rY ty)) cI)):=GF ha.h (GF pt XH (dC nt _ _)) (dC ns _ _);have eL:[t].all aAc=true:=by rw[PB,nt];rfl
 have hp:=EX (p:=p) (pos:=pos) (aFa xo.nC ty) h1 hm (by left) rE h4 h3 (dC ns _ _) (AG eL _ _).1;refine GD xo (TE.MC hp λY H Q q=>?_);obtain⟨U,G,v,U',r,e,k⟩:=q;obtain⟨hx,U1,e1,e⟩:=mB e;obtain⟨e2,rfl⟩:=mF e;refine⟨U,G,hx,U',r,e1,λx H1 G1 a1 rx=>?_⟩
 cases q1:hx.get U' with
 |none=>rw[q1] at e2;cases e2
 |some d =>
  rw[q1] at e2;simp only[oE,uS] at e2
  cases q2:B6 ty d with
  |none=>rw[q2] at e2;cases e2
  |some b =>
   rw[q2] at e2;simp only[oE,jE,Fb,WB] at e2;subst e2;exact⟨G1,d,x,b,a1.pA.sub,rfl,rx.read a1.pA q1,q2,k _ H1 G1 a1 (by show iA K G1 (.bl _) _;simp[iA])⟩
def wk(h:∀lo hi p,b≠.Slice lo hi none p):wR b:=λo i=>by
 cases b<;>first
  |rfl
  | (rename_i lo hi st p;cases st with
    |none=>exact absurd rfl (h lo hi p)
    |some s=>rfl)
end
section
variable{K:fA}
def bOa(xo:KA X K P C Z)(hl:(NA.endLine==aB.line)=true):HA X K P C (.Call (.Attribute (.Name x p) "bit_length" NA) [] [] aB) (.eM (QK Z x)):=by
 have ha:=o8 xo x p;refine GD xo (TE.MC (Uj PySem.F.plainAttrs_int slot_int_bit_length type_int_bit_length aLa ha.h rfl hl) λY H Q q=>?_);obtain⟨U,G,v,U',r,e,k⟩:=q;obtain⟨hx,U1,e1,e⟩:=mB e;obtain⟨e3,rfl⟩:=mF e;refine⟨U,G,hx,U',r,e1,λx H1 G1 a1 rx=>?_⟩
 cases q1:hx.get U' with
 |none=>rw[q1] at e3;cases e3
 |some d =>
  rw[q1] at e3;simp only[oE] at e3;cases d<;>simp only[YZ,reduceCtorEq] at e3;cases e3;cases (rx.read a1.pA q1).int;exact⟨rfl,_,rfl,rfl,k _ H1 G1 a1 (by show iA K G1 (.int _) _;simp[iA])⟩
theorem Li:∀{ns:List bA} {ds:List D} {vs:List V} {d:D},nA K G ds vs->(ns.zip ds).lookup f=some d->f∈ns/\∃v,(ns.zip vs).lookup f=some v/\iA K G d v
 |[],_,_,_,_,h=>by simp at h
 |n::ns,[],_,_,_,h=>by simp at h
 |n::ns,d0::ds,vs,d,r,h=>by
  simp only[nA] at r;obtain⟨v,r',rfl,h1,h2⟩:=r;rw[AO,LF] at h ⊢
  cases q:(f==n) with
  |true =>
   rw[q] at h;cases h;exact⟨by rw[uB q];simp,v,rfl,h1⟩
  |false =>
   rw[q] at h;obtain⟨z1,v',z2,z3⟩:=Li h2 h;exact⟨OD _ z1,v',z2,z3⟩
def jOa(xo:KA X K P C Z):HA X K P C (.Attribute (.Name x p) f pos) (.fld (QK Z x) f):=by
 have ha:=o8 xo x p;refine GD xo (TE.MC (pRa ha.h rfl) λY H Q q=>?_);obtain⟨U,G,v,U',r,e,k⟩:=q;obtain⟨hx,U1,e1,e⟩:=mB e;obtain⟨e3,rfl⟩:=mF e;refine⟨U,G,hx,U',r,e1,λx H1 G1 a1 rx=>?_⟩
 cases q1:hx.get U' with
 |none=>rw[q1] at e3;cases e3
 |some d =>
  rw[q1] at e3;simp only[oE] at e3;have hK:=xo.nC;cases d<;>simp only[Q2,reduceCtorEq,Option.map_none] at e3
  case ins c ns ds =>
   cases q2:(ns.zip ds).lookup f with
   |none=>rw[q2] at e3;cases e3
   |some d' =>
    rw[q2] at e3;cases e3;obtain⟨a,Ca,dx,vs,rfl,h1,h2,h3,h4,h5⟩:=(rx.read a1.pA q1).ins a1.pA.sub;obtain⟨z1,v',z2,z3⟩:=Li h3 q2;exact⟨a,Ca,dx,_,v',rfl,h2,by rw[hK];exact h4.cl,by rw[hK];exact h4.no f z1,z2,k v' H1 G1 a1 z3⟩
def Vw(hK:X.K=K):MF X (.builtin "isinstance") (λxs H Q=>∃a Ca Da b,xs=[.ref a,.ref Da]/\(∃pp,H a=some (.ext (FH a Ca pp)))/\lE K Ca/\PySem.W.kitOne K (.ref Ca) (.ref Da)=some b/\Q (.bl b) H):=by
 intro aA s Y H xs us Q I r h;obtain⟨a,Ca,Da,b,rfl,⟨pp,ha⟩,g,e,q⟩:=h;subst hK;obtain⟨u,w,rfl,ru,qJ⟩:=aAP r;cases ru;cases qJ;exact VM (v7 g) I.wC (I.IA a _ ha).1 e (λz=>nomatch z) λtk=>⟨.bl b,H,I.tok tk,rfl,q⟩
theorem gp:∀{Ds:List eA} {us:List dA},aAe (Ds.map V.ref) us->us=Ds.map Value.ref
 |[],_,.nil=>rfl
 |_::_,_,.cons r t=>by rw[pD,<- gp t];cases (show _=_ from r);rfl
def Ww(hK:X.K=K):MF X (.builtin "isinstance") (λxs H Q=>∃(a Ca p:eA) (Ds:List eA) (b:Bool),xs=[.ref a,.ref p]/\(∃pp,H a=some (.ext (FH a Ca pp)))/\lE K Ca/\H p=some (.t (Ds.map V.ref))/\uU K (.ref Ca) (Ds.map Value.ref)=some b/\Q (.bl b) H):=by
 intro aA s Y H xs us Q I r h;obtain⟨a,Ca,p,Ds,b,rfl,⟨pp,ha⟩,g,hp,e,q⟩:=h;subst hK;obtain⟨u,w,rfl,ru,qJ⟩:=aAP r;cases ru;cases qJ;obtain⟨_,gA,rv,⟨oc,od,Ej,yE⟩,h4,h5,n,h6⟩:=I.IA p _ hp;cases (show oc=_ from h5);cases (show Ej=_ from h6);obtain rfl:=gp rv;exact PySem.W.kia_tup (v7 g) I.wC (I.IA a _ ha).1 h4 e (λz=>nomatch z) λtk=>⟨.bl b,H,I.tok tk,rfl,q⟩
inductive bP(K:PySem.W.Frag):List (List Str×List Str)->List Addr->Prop
 |nil:bP K [] []
 |cons {s n:List bA} {D:eA} {sn:List (List bA×List bA)} {Ds:List eA} (hs:∀c∈s,∀C,fB K VA c=some (some (.ref C))->BU K (.ref C) D=true)
   (hn:∀c∈n,∀C,fB K VA c=some (some (.ref C))->GO K C D=true) (t:bP K sn Ds):bP K ((s,n)::sn) (D::Ds)
theorem Bp(hc:fB K VA c=some (some (.ref Ca))):∀{sn:List (List bA×List bA)} {Ds:List eA} {b:Bool},bP K sn Ds->KN c sn=some b->uU K (.ref Ca) (Ds.map Value.ref)=some b
 |_,_,b,.nil,e=>by cases e;rfl
 |_,_,b,.cons hs hn t,e=>by
  simp only[KN] at e;rw[pD];unfold uU;split at e
  ·rename_i h1;cases e;rw[tIa (hs c (by simpa using h1) Ca hc)]
  ·split at e
   ·rename_i h2;rw[uIa (hn c (by simpa using h2) Ca hc)];exact Bp hc t e
   ·cases e
theorem Rj(xo:QB q X K P C Z):∀{es:List vA} {sn:List (List bA×List bA)},yQ Z es=some sn->∃Ds,bP K sn Ds/\PA X es (λY H Q=>Q (Ds.map V.ref) H)/\Ds.length=es.length
 |[],_,h=>by
  simp only[yQ,WB] at h;subst h;exact⟨[],.nil,XH,rfl⟩
 |e::es,sn,h=>by
  unfold yQ at h;split at h
  ·cases h;simp_all
  ·rename_i x p KR heq;cases heq;split at h
   ·rename_i s n hx
    cases q:yQ Z es with
    |none=>rw[q] at h;cases h
    |some sn' =>
     rw[q] at h;cases h;obtain⟨Ds,h1,h2,h3⟩:=Rj xo q;obtain⟨x1,x2,x3,x4⟩:=CC.uf xo hx (λz=>nomatch z);obtain⟨D,d1,d2,d3⟩:=(xo.CD x s n x2).ex;exact⟨D::Ds,.cons d2 d3 h1,TA.FN (GF (XS x1 d1 (v:=.ref D) rfl x3) h2 rfl) λY H Q q=>q,by rw[fC,fC,h3]⟩
   ·cases h
  ·cases h
def Qg(xo:QB qq X K P C Z)(q:tE K P C (.pL ca sn) Y H Q):tH K P C ca Y H λx H1=>∃a Ca b G1,x=.ref a/\ZA G1 H1/\(∃pp,H1 a=some (.ext (FH a Ca pp)))/\lE K Ca/\(∀{Ds:List eA},bP K sn Ds->uU K (.ref Ca) (Ds.map Value.ref)=some b)/\Q (.bl b) H1/\∀p o,H1 p=none->Q (.bl b) (sA H1 p o):=by
 obtain⟨U,G,v,U',r,e,k⟩:=q;obtain⟨hx,U1,e1,e⟩:=mB e;obtain⟨e2,rfl⟩:=mF e;refine⟨U,G,hx,U',r,e1,λy H1 G1 a1 rx=>?_⟩
 cases q1:hx.get U' with
 |none=>rw[q1] at e2;cases e2
 |some d =>
  rw[q1] at e2;simp only[oE] at e2;cases d<;>simp only[C6,reduceCtorEq] at e2;rename_i c _
  cases q2:KN c sn with
  |none=>rw[q2] at e2;cases e2
  |some b =>
   rw[q2] at e2;cases e2;obtain⟨a,Ca,pp,rfl,g1,g2,g3,_⟩:=(rx.read a1.pA q1).CB a1.pA.sub;exact⟨a,Ca,b,G1,rfl,a1.pA.sub,⟨pp,g3⟩,g2,λt=>Bp g1 t q2,k _ H1 G1 a1 (by show iA K G1 (.bl b) _;simp[iA]),λp o hp=>k _ _ G1 (a1.sL hp) (by show iA K G1 (.bl b) _;simp[iA])⟩
def qOa(xo:QB q X K P C Z)(hf:Z.glob ("isinstance":bA)=.BB)(ns:aAc a=true)(ha:HA X K P C a ca):HA X K P C (.Call (.Name ("isinstance":bA) p) [a,t] [] pos) (d9 Z t ca):=by
 induction t using nG with
 |Name x p2 =>
  show HA X K P C _ (sT Z x ca);unfold sT;split
  ·rename_i s n hx;exact jB
  ·rename_i s n hx;obtain⟨h1,h2,h3,h4⟩:=CC.bF xo hf (λz=>nomatch z);have hm:=xo.BB _ h2;obtain⟨x1,x2,x3,x4⟩:=CC.uf xo hx (λz=>nomatch z);obtain⟨Da,d1,d2,d3⟩:=(xo.CD x s n x2).ex;have rE:PA X [a,.Name x p2] (WG (tH K P C ca) (WG (tC (.ref Da)) cI)):=GF ha.h (GF (XS x1 d1 rfl x3) XH rfl) (dC ns _ _);have hp:=EX (p:=p) (pos:=pos) (Vw xo.nC) h1 hm (by left) rE h4 h3 (dC ns _ _) rfl;refine GD xo (TE.MC hp λY H Q q=>?_);obtain⟨U,G,vI,U',r,e1,k⟩:=Qg xo q;refine⟨U,G,vI,U',r,e1,λy H1 G1 a1 rx=>?_⟩;obtain⟨a',Ca,b,G2,rfl,_,g3,g2,ky,q1,_⟩:=k y H1 G1 a1 rx;refine⟨a',Ca,Da,b,rfl,g3,g2, ?_,q1⟩;have z:=ky (.cons d2 d3 .nil);simp only[pD,JO,uU] at z;split at z
   ·rename_i z1;rw[z1];exact z
   ·rename_i z1;rw[z1];exact z
   ·cases z
  ·exact jB
 |Tuple es k0 p2 =>
  show HA X K P C _ (uT Z es ca);unfold uT;split
  ·rename_i sn hsn;split
   case isFalse=>exact jB
   rename_i hle;obtain⟨h1,h2,h3,h4⟩:=CC.bF xo hf (λz=>nomatch z);have hm:=xo.BB _ h2;obtain⟨Ds,x1,x2,x3⟩:=Rj xo hsn;have rE:PA X [a,.Tuple es k0 p2] (WG (tH K P C ca) (WG (Lo λY H Q=>Q (Ds.map V.ref) H) cI)):=GF ha.h (GF (v8 x2) XH rfl) (dC ns _ _);have hp:=EX (p:=p) (pos:=pos) (Ww xo.nC) h1 hm (by left) rE h4 h3 (dC ns _ _) rfl;refine GD xo (TE.MC hp λY H Q q=>?_);obtain⟨U,G,vI,U',r,e1,k⟩:=Qg xo q;refine⟨U,G,vI,U',r,e1,λy H1 G1 a1 rx=>?_⟩;obtain⟨a',Ca,b,G2,rfl,_,⟨pp,g3⟩,g2,ky,_,q2⟩:=k y H1 G1 a1 rx;refine⟨?_,λt ht=>?_⟩
   ·rw[YA,x3,ML];lia
   ·refine⟨a',Ca,t,Ds,b,rfl,⟨pp,by rw[dB (dF g3 ht)];exact g3⟩,g2,eC,ky x1,q2 t _ ht⟩
  ·exact jB
 |_=>exact jB
def sf(xo:KA X K P C Z)(g:mR X.w.params X.mg K x ks vs):∃a es,X.mg x=some (.ref a)/\(a==sysModules)=false/\(∀k:bA,oR (findBy WM es k) ((ks.zip vs).lookup k))/\∀{aA:List (eA×rB)} {Y:St} {H:Hp} {s:zA},cA X aA Y H s->s.TypeIs (.ref a) "dict"/\Heap.MapOf (strKind X.prog X.w) s.heap a λk=>findBy WM es k:=by
 obtain⟨a,es,n,h1,h2,h3,h4,_,h5⟩:=g.ex;refine⟨a,es,h1,h2,h5,λI=>?_⟩;rw[<- xo.nC] at h3;exact⟨⟨_,I.wC a _ h3,rfl⟩,PySem.W.mapOf_K I.wC h3 h4⟩
theorem cq:∀{ks:List bA} {vs:List Int},ks.length=vs.length->((ks.zip vs).lookup x).isSome=ks.contains x
 |[],_,_=>rfl
 |_::_,[],h=>nomatch h
 |k::ks,v::vs,h=>by
  rw[AO,LF,IQ]
  cases (x==k) with
  |true=>rfl
  |false=>exact cq (Rb h)
def S'(h:oR o p):o.isSome=p.isSome:=by
 cases o<;>cases p<;>first | rfl | exact h.elim
def mOa(xo:KA X K P C Z)(hf:Z.glob g=.aK ks vs)(ha:HA X K P C a ca):HA X K P C (.Compare a [.NotIn] [.Name g p] pos) (.rM ks ca):=by
 obtain⟨h1,h2,h3,h4⟩:=CC.bF xo hf (λz=>nomatch z);have gd:=xo.BF.2 g ks vs h2;obtain⟨_,_,_,_,_,_,_,cC,_⟩:=gd.ex;obtain⟨a0,es,m1,m2,m3,m4⟩:=sf xo gd
 have ho:aC X (QE .NotIn) (λx y H Q=>∃k,x=.str k/\y=.ref a0/\Q (.bl (!ks.contains k)) H):=by
  intro aA s Y H x y v u Q I rx ry h;obtain⟨k,rfl,rfl,q⟩:=h;obtain⟨t,rfl⟩:=(show ∃t,v=Value.str k t from rx)
  cases ry;refine wpAny_notIn_of (show WM k (.str k t)=true from WC k) m2 (m4 I).2 ⟨.bl _,H,I.tok _,rfl, ?_⟩;rw[S' (m3 k),cq cC];exact q
 have core:∀Y H (Q:VK),(∃(U:Env) (G:Hp) (b:Bool) (U':Env),CA K U Y H G/\ev P C false (.rM ks ca) U=some (.ok (.sh (.bl b)),U')/\∀H' G',AA K U Y H G U' H' G'->Q (.bl b) H') ->
   DQ (λx y H Q=>∃k,x=.str k/\y=.ref a0/\Q (.bl (!ks.contains k)) H) (tH K P C ca) (tC (.ref a0)) Y H Q:=λY H Q q=>by
  obtain⟨U,G,b,U',r,e,k⟩:=q;obtain⟨hx,U1,e1,e⟩:=mB e;obtain⟨e3,rfl⟩:=mF e;refine⟨U,G,hx,U',r,e1,λx H1 G1 a1 rx=>?_⟩
  cases q1:hx.get U' with
  |none=>rw[q1] at e3;cases e3
  |some d =>
   rw[q1] at e3;cases d<;>simp only[oE,iW,reduceCtorEq] at e3;cases e3;exact⟨_,(rx.read a1.pA q1).str.1,rfl,k H1 G1 a1⟩
 have bl:∀{U U':Env} {v:RV},ev P C false (.rM ks ca) U=some (.ok v,U')->∃b,v=.sh (.bl b):=λ{U U' v} e=>by
  obtain⟨hx,U1,e1,e⟩:=mB e;obtain⟨e3,rfl⟩:=mF e
  cases q1:hx.get U' with
  |none=>rw[q1] at e3;cases e3
  |some d =>
   rw[q1] at e3;cases d<;>simp only[oE,iW,reduceCtorEq] at e3;cases e3;exact⟨_,rfl⟩
 have hm:xJ .NotIn (.Name g p)=false:=rfl;have hb:PE X (.Name g p) (tC (.ref a0)):=XS h1 m1 rfl h3
 have v:PE X (.Compare a [.NotIn] [.Name g p] pos) (tE K P C (.rM ks ca)):=by
  refine TE.MC (Wj ho ha.h hb hm) λY H Q q=>core Y H Q ?_
  obtain⟨U,G,v,U',r,e,k⟩:=q;obtain⟨b,rfl⟩:=bl e;exact⟨U,G,_,U',r,e,λH' G' a=>k _ H' G' a (by show iA K G' (.bl _) _;simp[iA])⟩
 refine⟨v, ?_,MM v λi z=>nomatch z⟩;refine TT.GN (Dk ho ha.h hb hm) λY H Q q=>core Y H _ ?_
 obtain⟨U,G,b',U',r,e,k⟩:=q;obtain⟨u,b2,e2,e3,e4⟩:=N9 e;obtain⟨b,rfl⟩:=bl e2;cases e3;cases e4;exact⟨U,G,_,U',r,e2,λH' G' a=>⟨_,rfl,k H' G' a⟩⟩
def kOa(xo:KA X K P C Z)(hf:Z.glob g=.aK ks vs)(hi:HA X K P C i ci)(hs:wR i):HA X K P C (.Subscript (.Name g p) i pos) (.AN ks vs ci):=by
 obtain⟨h1,h2,h3,h4⟩:=CC.bF xo hf (λz=>nomatch z);obtain⟨a0,es,m1,m2,m3,m4⟩:=sf xo (xo.BF.2 g ks vs h2)
 have ho:NF X (λx y H Q=>∃k n,x=.ref a0/\y=.str k/\(ks.zip vs).lookup k=some n/\Q (.int n) H):=by
  intro value slice aA s Y H x y v u Q I rx ry h hs;obtain⟨k,n,rfl,rfl,hl,q⟩:=h;cases rx;obtain⟨t,rfl⟩:=(show ∃t,u=Value.str k t from ry)
  obtain⟨hT,hM⟩:=m4 I;have hv:=m3 k;rw[hl] at hv
  cases qv:findBy WM es k with
  |none=>rw[qv] at hv;exact hv.elim
  |some w =>
   rw[qv] at hv;obtain⟨t',rfl⟩:=hv;unfold subscriptTail;refine BA ?_;rw[getitemInPython_of_ne hT.not_modules];refine BA (wpAny_specialOf hT PySem.F.slot_dict_getitem.lookup ?_)
   have fin:wA (model X.prog X.w) X.A (subscripted slice false (.ref a0) (.str k t)) (λr s₃=>wA (model X.prog X.w) X.A (letTemporaryGo value (.ref a0) r>>=λ_=>pure r) (EP X aA Y Q) X.xe s₃) X.xe s:=by(rw[hs];exact wpAny_operating (wpAny_getItem_of (show WM k (.str k t)=true from WC k) hM qv (BA (wpAny_letTemporaryGo (GB ⟨.int n,H,I.tok _,⟨_,rfl⟩,q⟩)))))
   first
    |exact GB (BA fin)
    |exact BA (GB (BA fin))
    |exact BA fin
 refine GD xo (TE.MC (Yj ho (XS (v:=.ref a0) h1 m1 rfl h3) hi.h hs) λY H Q q=>?_);obtain⟨U,G,v,U',r,e,k⟩:=q;obtain⟨hx,U1,e1,e⟩:=mB e;obtain⟨e3,rfl⟩:=mF e;refine⟨U,G,hx,U',r,e1,λx H1 G1 a1 rx=>?_⟩
 cases q1:hx.get U' with
 |none=>rw[q1] at e3;cases e3
 |some d =>
  rw[q1] at e3;cases d<;>simp only[oE,A4,reduceCtorEq] at e3;obtain⟨n,hn,rfl⟩:=GK.mp e3;exact⟨_,n,rfl,(rx.read a1.pA q1).str.1,hn,k _ H1 G1 a1 (by show iA K G1 (.int n) _;simp[iA])⟩
theorem ql(sm:ZA G H):∀{ds:List D} {xs:List V},nA K G ds xs->CA K (ds.map .sh) (xs.map some) H G
 |[],xs,h=>by
  simp only[nA] at h;subst h;exact CA.nil sm
 |d::ds,xs,h=>by(simp only[nA] at h;obtain⟨v,r,rfl,h1,h2⟩:=h;exact(ql sm h2).kP h1)
def cm{ds:List D}(h:xA (ds.map .sh) τ a):False:=by
 obtain⟨i,d,p,l,h1,_⟩:=h;rw[IK] at h1
 cases q:ds[i]? with
 |none=>rw[q] at h1;cases h1
 |some d'=>rw[q] at h1;cases h1
def Yi(a1:AA K U Y H G U1 H1 G1)(rx:nA K G1 ds xs)(hn:fB K VA f=some (some (.ref Ca)))(cl:UE K Ca)(nx:H1 x=none)(uL:H1 dx=none)(ne:dx≠x) :
  CA K (.ow (.ins f [] []) true false::ds.map .sh) ((V.ref x::xs).map some) (sA (sA H1 dx (.own x)) x (.ins Ca dx [])) G1:=by
 have l8:(sA H1 dx (.own x)) x=none:=by rw[dB (KD ne)];exact nx
 exact(ql (a1.pA.sub.trans ((ZA.laid uL).trans (ZA.laid l8))) rx).B1 (ZA.free a1.pA.sub nx) ⟨Ca,dx,[],hn,eC,rfl,⟨cl,λf h=>nomatch h⟩,rfl⟩ cm
def Xi{ds:List D}(a1:AA K U Y H G U1 H1 G1)(nx:H1 x=none)(uL:H1 dx=none)(ne:dx≠x)
  (b:AA K (.ow (.ins f [] []) true false::ds.map .sh) ((V.ref x::xs).map some) (sA (sA H1 dx (.own x)) x (.ins Ca dx [])) G1 OA H' G'):AA K U Y H G U1 H' G':=by
 have l8:(sA H1 dx (.own x)) x=none:=by rw[dB (KD ne)];exact nx
 have a2:=(a1.sL (o:=.own x) uL).sL (o:=.ins Ca dx []) l8
 have own:∀c,xA (.ow (.ins f [] []) true false::ds.map .sh) ((V.ref x::xs).map some) c->c=x:=λc hz=>by
  obtain⟨i,d,p,l,h1,h2⟩:=hz
  cases i with
  |zero=>cases h2;rfl
  |succ i=>exact(cm (τ:=xs.map some) ⟨i,d,p,l,h1,h2⟩).elim
 exact⟨a2.pA.keep b.ext (λc z w=>a1.pA.sX nx (own c w ▸ z)) b.pA.sub,a2.ext.trans (λc z=>.inr (own c z ▸ a1.fresh nx)) b.ext,a1.VJ⟩
def aPa(xo:KA X K P C Z)(hf:Z.glob f=.obj g)(st:(e::es).all aAc=true)(ha:PA X (e::es) (LM K P C cs)):HA X K P C (.Call (.Name f p) (e::es) [] pos) (.FF f g cs):=by
 obtain⟨h1,h2,h3,h4⟩:=CC.bF xo hf (λz=>nomatch z);obtain⟨Ca,fa,fd,ps,k0,hn,hm,M,cl,F,_,hr,hb⟩:=(xo.obj f g h2).ex;rw[PB,qA] at st;refine GD xo (TE.MC (sRa M F hr h1 hm hb .nil DX ha h3 (dC st.1 _ _) (AG st.2 _ _).1) λY H Q q=>?_);obtain⟨U,G,v,U',r,e,k⟩:=q;obtain⟨ds,U1,e1,e⟩:=mB e;split at e
 case isFalse=>cases e
 rename_i hl;unfold UN at e;split at e
 case h_2=>cases e
 rename_i c' ns LG aAj q1;cases e;refine⟨U,G,ds,_,r,e1,λxs H1 G1 a1 rx x dx nx uL ne=>?_⟩;rw[jI];refine⟨by rw[fC,rx.len,hl],_,G1,.sh .rA,_,Yi a1 rx hn cl nx uL ne,by rw[fC,YA,hl],q1,λy H' G' b hv=>⟨?_, ?_⟩⟩
 ·simpa[EC,iA] using hv
 ·obtain⟨a,z1,z2,z3⟩:=b.pA.ow 0 _ _ _ rfl;cases z1;exact k _ H' G' (Xi a1 nx uL ne b) ⟨x,rfl,z2,z3,a1.pA.sX nx,a1.fresh nx⟩
theorem E7:∀{ns:List bA} {vs:List O},ns.contains f=false->(ns.zip vs).lookup f=none
 |[],_,_=>by simp
 |n::ns,[],_=>by simp
 |n::ns,v::vs,h=>by(rw[IQ,dU] at h;rw[AO,LF,h.1];exact E7 h.2)
def P7(st:es.all aAc=true)(zM:(NA.endLine==pos.line)=true)(dS:es.length<29)(env:DK)(hb:attributeBase o m env (eval o env)=eval o env:=by rfl):eval (.Call (.Attribute o m NA) es [] pos) env=(do
   let ov <- eval o env
   standAt NA.atName
   let (f,first) <- holding [ov] (getMethod ov m (do return (<- importBound o env).getD true))
   callWith pos f first (nD pos (zB es env)) (backToKw pos (keywordEach [] env))):=by
 rw[arm_eval_Call]
 have cBa:methodCallForm (es.length+([]:List gZ).length) (nD pos (zB es env)) (backToKw pos (keywordEach [] env))=true:=by
  unfold methodCallForm;rw[(AG st env pos).2];simp only[XM]
  have:(backToKw pos (keywordEach [] env))=[]:=rfl
  rw[this];simp
  lia
 have kS:methodCallPos true o env NA pos=pure pos:=by unfold methodCallPos;simp[zM]
 unfold methodCall;rw[cBa];unfold calleeOf;simp only[if_true,kS,hb];rfl
def uKa(SH:Y[i]?=some (some (.ref a)))(hH:H a=some (.ins Ca dx fs))(hl:fs.lookup m=none)(r:CA K U Y H G)(e1:VB P C cs U=some (.ok wM,U1))(e:XC (P f) (C f) (h0::wM) U1=some (.ok v,U'))
  (L5:∀H1 G1,AA K U Y H G U1 H1 G1->VE K H1 G1 (xA U1 Y) (UD H) Y h0 (.ref a)) (xW:∀d,h0≠.val (.ow d)) (k:∀x H1 G1,AA K U Y H G U' H1 G1->EC K H1 G1 (xA U' Y) (UD H) v x->Q x H1) (t:TA) (ht:∀Y H Q,sH K P C cs Y H Q->t Y H Q) :
  m9 Ca m (kO K (P f).length (C f)) [] (λ_ _ _=>False) (dI i) t Y H Q:=by
 refine⟨.ref a,SH,a,dx,_,rfl,hH,hl,ht _ _ _ ⟨U,G,wM,U1,r,e1,λxs H1 G1 a1 rx=>?_⟩⟩;have tQ:VD K H1 G1 (xA U1 Y) (UD H) Y (h0::wM) (.ref a::xs):=⟨.ref a,xs,rfl,L5 H1 G1 a1,rx,λd b z=>absurd z (xW _)⟩
 obtain⟨as,G2,OA,d1,d2,d3,_,d4⟩:=tV a1 tQ e;dsimp only;rw[jI];refine⟨?_,as,G2,v,OA,d1,d2,d3,λx H' G' a hv=>?_⟩
 ·have:=d1.len
  rw[YA] at this
  lia
 ·obtain⟨a5,v5⟩:=d4 x H' G' a hv;exact k x H' G' a5 v5
def zOa(xo:KA X K P C Z)(hi:Z.slot x=some i)(hm:Z.gl (dot m)=.uE tb)(st:es.all aAc=true)(zM:(NA.endLine==pos.line)=true)(dS:es.length<29)(ha:PA X es (sH K P C cs))(hz:es=[]->cs=[]):HA X K P C (.Call (.Attribute (.Name x p) m NA) es [] pos) (.fG i m tb cs):=by
 have hp:=CC.KI xo hi (pos:=p);refine GD xo (λaA s Y H Q I q=>?_);obtain⟨U,G,v,U',r,e,k⟩:=q
 have main:∀{c:bA} {ns:List bA} {ds:List D} {h0:Hd} {a Ca dx:eA} {vs:List V},(match oH c ns m tb with | some f=>(VB P C cs U).bind λhs U1=>XC (P f) (C f) (h0::hs) U1 | none=>none)=some (.ok v,U')->Y[i]?=some (some (.ref a))->H a=some (.ins Ca dx (ns.zip vs))->fB K VA c=some (some (.ref Ca))->eN K Ca ns ->
   (∀U1 H1 G1,AA K U Y H G U1 H1 G1->VE K H1 G1 (xA U1 Y) (UD H) Y h0 (.ref a))->(∀d,h0≠.val (.ow d))->wA (model X.prog X.w) X.A (eval (.Call (.Attribute (.Name x p) m NA) es [] pos) X.env) (EP X aA Y Q) X.xe s:=by
  intro c ns ds h0 a Ca dx vs e SH hH h1 h4 L5 xW;split at e
  ·rename_i f kL;unfold oH at kL;split at kL
   ·cases kL
   ·rename_i yI;obtain⟨Cb,fa,fd,ps,k0,hn,M,F,hr,hb,RC⟩:=(xo.uE m tb c f hm kL).ex;rw[hn] at h1;cases h1;obtain⟨wM,U1,e1,e⟩:=mB e;have hK:=xo.nC;have Kd:UE X.K Ca:=by rw[hK];exact h4.cl
    have fin:=uKa SH hH (E7 (by simpa using yI)) r e1 e (L5 U1) xW k
    induction es using sC with
    |nil =>
     cases hz rfl;refine vRa hp Kd M F hr hb .nil DX (P7 st zM dS _) aA s Y H Q I (fin _ λY' H' Q' z=>?_);obtain⟨U2,G2,zI,U3,r2,e2,k2⟩:=z;rw[VB] at e2;cases e2;exact k2 [] H' G2 (AA.refl r2) rfl
    |cons e0 es0 =>
     have st0:=st;rw[PB,qA] at st;exact uRa hp Kd M F hr hb .nil DX ha (dC st.1 _ _) (AG st.2 _ _).1 (P7 st0 zM dS _) aA s Y H Q I (fin _ λ_ _ _ z=>z)
  ·cases e
 replace e:(match U[i]? with | some (.sh (.ins c ns ds))=>(match oH c ns m tb with | some f=>(VB P C cs U).bind λhs U1=>XC (P f) (C f) (.val (.sh (.ins c ns ds))::hs) U1 | none=>none) | some (.ow (.ins c ns ds) _ _)=>(match oH c ns m tb with | some f=>(VB P C cs U).bind λhs U1=>XC (P f) (C f) (.slot i::hs) U1 | none=>none) | _=>none)=some (.ok v,U'):=e;split at e
 ·rename_i c ns ds hs;obtain⟨x0,SH,N8⟩:=r.sh i _ hs;have rx1:=N8;simp only[iA] at N8;obtain⟨a,Cb,dx,vs,rfl,h1,h2,h3,h4,h5⟩:=N8
  exact main (ds:=ds) e SH (r.sub _ _ h2) h1 h4 (λ_ H1 G1 a1=>iA.mono a1.ext.gg _ rx1) λd z=>nomatch z
 ·rename_i c ns ds _ _ hs;obtain⟨a,SH,_,Cb,dx,vs,h1,h2,h3,h4,h5⟩:=r.ow i _ _ _ hs
  exact main (ds:=ds) e SH h2 h1 h4 (λ_ H1 G1 a1=>SH) λd z=>nomatch z
 ·cases e
end
section
variable{X:Cx}{K:fA}{P:SA}{C:Calls}{Z:CC}
def gLa:UO X "str.upper" (λx xs H Q=>∃y,x=.str y/\xs=[]/\y.length<=1000/\Q (.str (Txt.upper y)) H):=by
 intro aA s Y H x xs v us Q I rx r h;obtain⟨y,rfl,rfl,hy,q⟩:=h;cases r;obtain⟨t,rfl⟩:=rx;exact u3a (by lia) λ_=>⟨.str _,H,I.tok _,⟨_,rfl⟩,q⟩
def m2a(h:∀c∈x.cps.toList,97<=c/\c<=122):Txt.upper x=⟨x.cps.map (· - 32)⟩:=by
 rw[upper_ascii λc hc=>by have:=h c hc;lia];congr 1;refine Array.map_congr_left λc hc=>?_
 unfold up1;rw[FA (h c (by simpa using hc))]
def n2a{x:bA}(h:∀c∈x.cps.toList,97<=c/\c<=122):jC ⟨x.cps.map (· - 32)⟩=true:=by
 unfold jC;rw[Array.all_eq_true_iff_forall_mem];intro c hc;obtain⟨b,hb,rfl⟩:=Array.mem_map.mp hc
 have:=h b (by simpa using hb)
 exact GC (by lia)
def kPa(xo:KA X K P C Z)(hi:Z.slot x=some i)(hl:(NA.endLine==aB.line)=true) :
  HA X K P C (.Call (.Attribute (.Name x p) ("upper":bA) NA) [] [] aB) (.IT i):=by
 have hp:PE X (.Name x p) (dI i):=CC.KI xo hi;refine GD xo (TE.MC (Uj DY PySem.F.slot_str_upper PySem.F.type_str_upper gLa hp rfl hl) λY H Q q=>?_);obtain⟨U,G,v,U',r,e,k⟩:=q;obtain⟨e,rfl⟩:=mF e
 cases q1:U'[i]? with
 |none=>rw[q1] at e;cases e
 |some sl =>
  rw[q1,oE] at e;unfold G9 at e;split at e
  ·rename_i y;split at e
   ·rename_i hc;cases e;obtain⟨w,h1,h2⟩:=r.sh i _ q1;obtain⟨rfl,_⟩:=LB.str (H:=H) (.inl h2);refine⟨_,h1,rfl,y,rfl,rfl,hc.1, ?_⟩;rw[m2a hc.2];exact k _ _ _ (AA.refl r) (by show iA K G (.str _) _;unfold iA;exact⟨rfl,n2a hc.2⟩)
   ·cases e
  ·cases e
theorem Ag:∀{ds:List D} {n:Nat},JW ds=some n->ds[n]?=some (.bl true)/\∀m,m<n->ds[m]?=some (.bl false)
 |[],_,h=>nomatch h
 |.bl true::r,n,h=>by
  cases h;exact⟨rfl,λm hm=>absurd hm (SY _)⟩
 |.bl false::r,n,h=>by
  obtain⟨m,hm,rfl⟩:=GK.mp (show(JW r).map (·+1)=some n from h);obtain⟨h1,h2⟩:=Ag hm;refine⟨h1,λj hj=>?_⟩
  cases j with
  |zero=>rfl
  |succ j=>exact h2 j (by lia)
theorem yl:∀{ds:List D} {vs:List V},nA K G ds vs->ds.all qd=true->(∀v∈vs,∃b,v=V.bl b)/\∀(j:Nat) (b:Bool),ds[j]?=some (.bl b)->vs[j]?=some (V.bl b)
 |[],vs,r,_=>by
  have:=r.len
  cases vs with
  |nil=>exact⟨λv hv=>(nomatch hv),λj b h=>(nomatch h)⟩
  |cons=>cases this
 |d::ds,vs,r,h=>by
  rw[PB,qA] at h;simp only[nA] at r;obtain⟨v,r',rfl,h1,h2⟩:=r;obtain⟨k1,k2⟩:=yl h2 h.2
  cases d with
  |bl b =>
   have h1:iA K G (.bl b) v:=h1;simp only[iA] at h1;subst h1;refine⟨λw hw=>?_,λj b' hj=>?_⟩
   ·rcases eD.mp hw with rfl | hw
    ·exact⟨b,rfl⟩
    ·exact k1 w hw
   ·cases j with
    |zero=>cases hj;rfl
    |succ j=>exact k2 j b' hj
  |_=>exact nomatch h.1
def Bg(hr:nA K G ds vs)(e:KW ds=some v):∃n:Nat,v=.sh (.int n)/\vs[n]?=some (V.bl true)/\(∀m,m<n->vs[m]?=some (V.bl false))/\(∀v∈vs,∃b,v=V.bl b)/\n<=1000:=by
 unfold KW at e;split at e
 ·rename_i hc;obtain⟨n,hn,rfl⟩:=GK.mp e;obtain⟨k1,k2⟩:=yl hr hc.2;obtain⟨h1,h2⟩:=Ag hn;obtain⟨h3,_⟩:=LD.mp h1;exact⟨n,rfl,k2 n true h1,λm hm=>k2 m false (h2 m hm),k1,by lia⟩
 ·cases e
def cLa(hu:X.A.units+40<cLine):UO X "list.index" (λx xs H Q=>∃a vs,∃n:Nat,x=.ref a/\xs=[.bl true]/\DB X.K H a vs/\vs[n]?=some (V.bl true)/\(∀m,m<n->vs[m]?=some (V.bl false))/\(∀v∈vs,∃b,v=V.bl b)/\n<=1000/\Q (.int n) H):=by
 intro aA s Y H x xs v us Q I rx r h;obtain⟨a,vs,n,rfl,rfl,hs,h1,h2,hb,hn,q⟩:=h;cases rx;obtain⟨u,rfl,ru⟩:=r.one;cases ru;obtain⟨gA,rv,pl,hz⟩:=I.list hs;obtain⟨⟨cls,dd,data,sl⟩,ho,hc,k,hd⟩:=pl.isList;simp only at hc hd;subst hc hd
 have hg:∀{j:Nat} {b:Bool},vs[j]?=some (.bl b)->gA[j]?=some (.bool b):=λh=>by(obtain⟨w,hw,qJ⟩:=rv.get h;cases qJ;exact hw)
 have hi:∀y∈gA,∃b,y=Value.bool b:=λy hy=>by(obtain⟨j,hj⟩:=List.getElem?_of_mem hy;obtain⟨W4,_⟩:=LD.mp hj;have hl:=rv.length;have hv:vs[j]?=some vs[j]:=MD (by lia);obtain⟨b,e⟩:=hb vs[j] (LY _);rw[e] at hv;rw[hg hv] at hj;exact⟨b,(wF hj).symm⟩)
 have mH:=hg h1;obtain⟨TC,uW⟩:=LD.mp mH
 refine XQ uq ⟨_,ho,rfl⟩ PySem.F.entry_list_index (PySem.F.args_list_index_2 _ _)
  (SeqAt.list_indexAt a gA.toArray k dd sl (.bool true) (λv=>match v with | .bool b=>b | _=>false) n (by simpa using TC) (by lia) ?_ ?_) ⟨ho,λy hy=>?_,⟨.int n,H,I.tok _,⟨_,rfl⟩,q⟩⟩
 ·rw[show gA.toArray[n]=Value.bool true by simpa using uW]
 ·intro m hm hmn;obtain⟨_,gBa⟩:=LD.mp (hg (h2 m hmn));rw[show gA.toArray[m]=Value.bool false by simpa using gBa]
 ·obtain⟨b,rfl⟩:=hi y (by simpa using hy);obtain⟨as,a1,a2,a3⟩:=cT I rfl (ZA.refl H) 0 (.bl b) (.bl b) (.bool b) rfl (.inl (by simp[iA])) rfl;obtain⟨bs,b1,b2,_⟩:=cT I rfl (ZA.refl H) 0 (.bl true) (.bl true) (.bool true) rfl (.inl (by simp[iA])) rfl;have hun:X.A.in1.units=X.A.units+1:=rfl
  have:=ur _ _ X.A.in1 _ _ _ _ _ a1 b1 a2 b2 (by lia)
  cases b<;>exact this
def pOa(xo:KA X K P C Z)(hi:Z.slot x=some i)(hl:(NA.endLine==aB.line)=true) :
  HA X K P C (.Call (.Attribute (.Name x p) ("index":bA) NA) [.Constant (.bool true) j q] [] aB) (.oS i):=by
 have hp:PE X (.Name x p) (dI i):=CC.KI xo hi;have rE:PA X [.Constant (.bool true) j q] (WG (tC (.bl true)) cI):=GF Tj XH rfl;have hu:=xo.hu;refine GD xo (TE.MC (kQ X9 uq PySem.F.type_list_index (cLa (by lia)) hp rE rfl (by rfl) hl rfl rfl) λY H Q q=>?_);obtain⟨U,G,v,U',r,e,k⟩:=q;obtain⟨e,rfl⟩:=mF e
 cases q1:U'[i]? with
 |none=>rw[q1] at e;cases e
 |some sl =>
  rw[q1,oE] at e;have hK:=xo.nC;unfold X5 at e;split at e
  ·obtain⟨b,hb,_,vs,hv,hr⟩:=r.ow i _ _ _ q1;obtain⟨n,rfl,z1,z2,z3,z4⟩:=Bg hr e;have hs:DB K H b vs:=DB.of hv;exact⟨_,hb,.inl ⟨rfl,vs,hK ▸ hs⟩,b,vs,n,rfl,rfl,hK ▸ hs,z1,z2,z3,z4,k _ _ _ (AA.refl r) (by show iA K G (.int _) _;simp[iA])⟩
  ·obtain⟨w,h1,h2⟩:=r.sh i _ q1;obtain⟨b,vs,rfl,hs,hr⟩:=LB.l r.sub (.inl h2);obtain⟨n,rfl,z1,z2,z3,z4⟩:=Bg hr e;exact⟨_,h1,.inl ⟨rfl,vs,hK ▸ hs⟩,b,vs,n,rfl,rfl,hK ▸ hs,z1,z2,z3,z4,k _ _ _ (AA.refl r) (by show iA K G (.int _) _;simp[iA])⟩
  ·cases e
def lPa(xo:KA X K P C Z):HA X K P C (.Call (.Attribute (.Name x p) m NA) [] [] aB) (JT Z x m NA aB):=by
 unfold JT;split
 ·rename_i hc;rw[qA] at hc;have hm:=uB hc.2;subst hm;split
  ·exact kPa xo ‹_› hc.1
  ·exact jB
 ·exact jB
def yEa(h:A6 e=true):∃j p,e=.Constant (.bool true) j p:=by
 unfold A6 at h;split at h
 ·subst h;exact⟨_,_,rfl⟩
 ·cases h
def oOa(xo:KA X K P C Z):HA X K P C (.Call (.Attribute (.Name x p) m NA) [a] [] aB) (nS Z x m NA aB a):=by
 unfold nS;split
 ·rename_i hc;rw[qA,qA] at hc;obtain⟨j,q,rfl⟩:=yEa hc.1.1;have hm:=uB hc.2;subst hm;split
  ·exact pOa xo ‹_› hc.1.2
  ·exact jB
 ·exact jB
end
section
variable{X:Cx}{K:fA}{P:SA}{C:Calls}{Z:CC}
theorem Nm:∀{ds:List D} {vs:List V} {ts:List bA},nA K G ds vs->tJ ds=some ts->vs=ts.map V.str
 |[],vs,ts,h,e=>by
  simp only[nA] at h;subst h;cases e;rfl
 |d::ds,vs,ts,h,e=>by
  simp only[nA] at h;obtain⟨v,r,rfl,h1,h2⟩:=h
  cases d with
  |str x =>
   change (tJ ds).map (x :: ·)=_ at e
   cases q:tJ ds with
   |none=>rw[q] at e;cases e
   |some ts' =>
    rw[q] at e;cases e;obtain⟨rfl,_⟩:=LB.str (H:=G) (.inl h1);rw[Nm h2 q];rfl
  |_=>cases e
theorem Bl:∀{ts:List bA},ts.all jC=true->nA K G (ts.map D.str) (ts.map V.str)
 |[],_=>nA.nil
 |t::ts,h=>by(rw[PB,qA] at h;exact nA.cons (by unfold iA;exact⟨rfl,h.1⟩) (Bl h.2))
def uOa(xo:KA X K P C Z)(hl:(NA.endLine==aB.line)=true)(ns:aAc a=true)(ha:HA X K P C a ca) :
  HA X K P C (.Call (.Attribute (.Constant (.str s) j p) ("join":bA) NA) [a] [] aB) (.zG s ca):=by
 have rE:PA X [a] (WG (tH K P C ca) cI):=GF ha.h XH (dC ns _ _);have eL:[a].all aAc=true:=by rw[PB,ns];rfl
 refine GD xo (TE.MC (kQ DY PySem.F.slot_str_join PySem.F.type_str_join dLa YS rE rfl (by
   rw[qA,qA];exact⟨⟨(AG eL _ _).2,rfl⟩,rfl⟩) hl (dC ns _ _) rfl) λY H Q q=>?_)
 obtain⟨U,G,v,U',r,e,k⟩:=q;obtain⟨x,U1,e1,e⟩:=mB e;obtain⟨e2,rfl⟩:=mF e;refine⟨rfl,U,G,x,_,r,e1,λy H1 G1 a1 ry=>?_⟩
 cases q:x.get U' with
 |none=>rw[q] at e2;cases e2
 |some d =>
  rw[q] at e2;have hr:=ry.read a1.pA q;change Q6 s d=some v at e2
  cases d with
  |l ds =>
   change (match tJ ds with | some ts=>_ | none=>none)=_ at e2
   cases qs:tJ ds with
   |none=>rw[qs] at e2;cases e2
   |some ts =>
    rw[qs] at e2;simp only at e2;split at e2
    ·rename_i hc;cases e2;obtain⟨b,vs,rfl,h1,h2⟩:=hr.l a1.pA.sub
     have:=Nm h2 qs
     subst this;exact⟨s,b,ts,rfl,rfl,by rw[xo.nC];exact h1,hc.1,k _ _ _ a1 (by show iA K G1 (.str _) _;unfold iA;exact⟨rfl,hc.2⟩)⟩
    ·cases e2
  |_=>cases e2
def fPa(xo:KA X K P C Z)(hi:Z.slot x=some i)(hl:(NA.endLine==aB.line)=true) :
  HA X K P C (.Call (.Attribute (.Name x p) ("split":bA) NA) [.Constant (.str s) j q] [] aB) (.bI i s):=by
 have hp:PE X (.Name x p) (dI i):=CC.KI xo hi;have rE:PA X [.Constant (.str s) j q] (WG (tC (.str s)) cI):=GF YS XH rfl;refine GD xo (TE.MC (kQ DY JY PySem.F.type_str_split eLa hp rE rfl (by rfl) hl rfl rfl) λY H Q q=>?_);obtain⟨U,G,v,U',r,e,k⟩:=q;replace e:tK s U U[i]?=_:=e;unfold tK at e;split at e
 ·rename_i y hy;split at e
  ·rename_i hc;cases e;obtain⟨w,h1,h2⟩:=r.sh i _ hy;obtain⟨rfl,_⟩:=LB.str (H:=H) (.inl h2);refine⟨_,h1,rfl,y,s,rfl,rfl,hc.1,hc.2.1,λl hl=>?_⟩;obtain⟨a2,v2⟩:=(AA.refl r).r8 hl (Bl hc.2.2);exact k _ _ _ a2 v2
  ·cases e
 ·cases e
def gPa(xo:KA X K P C Z)(hi:Z.slot x=some i)(hl:(NA.endLine==aB.line)=true) :
  HA X K P C (.Call (.Attribute (.Name x p) ("startswith":bA) NA) [.Constant (.str s) j q] [] aB) (.qT i s):=by
 have hp:PE X (.Name x p) (dI i):=CC.KI xo hi;have rE:PA X [.Constant (.str s) j q] (WG (tC (.str s)) cI):=GF YS XH rfl;refine GD xo (TE.MC (kQ DY PySem.F.slot_str_startswith PySem.F.type_str_startswith fLa hp rE rfl (by rfl) hl rfl rfl) λY H Q q=>?_);obtain⟨U,G,v,U',r,e,k⟩:=q;replace e:rT s U U[i]?=_:=e;unfold rT at e;split at e
 ·rename_i y hy;cases e;obtain⟨w,h1,h2⟩:=r.sh i _ hy;obtain⟨rfl,_⟩:=LB.str (H:=H) (.inl h2);exact⟨_,h1,rfl,y,s,rfl,rfl,k _ _ _ (AA.refl r) (by show iA K G (.bl _) _;simp[iA])⟩
 ·cases e
def tZa(h:Mm e=some s):∃j p,e=.Constant (.str s) j p:=by
 cases e with
 |Constant c j p =>
  cases c with
  |str x =>
   change (if jC x then some x else none)=_ at h;split at h
   ·cases h;exact⟨_,_,rfl⟩
   ·exact gG h
  |_=>exact gG h
 |_=>exact gG h
def iPa(xo:KA X K P C Z):HA X K P C (.Call (.Attribute (.Name x p) m NA) [a] [] aB) (FT Z x m NA aB a):=by
 unfold FT;split
 ·rename_i s i h1 h2;obtain⟨j,q,rfl⟩:=tZa h1;split
  ·rename_i hc;rw[qA] at hc;have hm:=uB hc.2;subst hm;exact fPa xo h2 hc.1
  ·split
   ·rename_i hc;rw[qA] at hc;have hm:=uB hc.2;subst hm;exact gPa xo h2 hc.1
   ·exact jB
 ·exact oOa xo
def vOa(xo:KA X K P C Z)(ha:HA X K P C a ca):HA X K P C (.Call (.Attribute (.Constant (.str s) j p) m NA) [a] [] aB) (AS s m NA aB a ca):=by
 unfold AS;split
 ·rename_i hc;rw[qA,qA,qA] at hc;have hm:=uB hc.1.2;subst hm;exact uOa xo hc.1.1.2 hc.1.1.1 ha
 ·exact jB
end
section
variable{X:Cx}{K:fA}{P:SA}{C:Calls}{Z:CC}
def hOa(xo:KA X K P C Z)(hv:∀v∈vs,HA X K P C v (cE Z v))(hc:HA X K P C (.Dict ks vs pos) c):HA X K P C (.Dict ks vs pos) (E1 ks vs (eB Z vs) c):=hc
end
structure NB(K:fA)(U:Env)(Y:St)(H G:Hp)(U':Env)(Y':St)(H' G':Hp):Prop where
 pA:CA K U' Y' H' G'
 ext:Ext (xA U Y) H G H' G'
 own:∀a,xA U' Y' a->xA U Y a\/H a=none
 un:∀i:Nat,U'[i]?=some .un->U[i]?=some .un/\Y'[i]?=Y[i]?
 pin:∀(i:Nat) d l,U[i]?=some (.ow d true l)->Y'[i]?=Y[i]?/\∃d',U'[i]?=some (.ow d' true l)
 len:U'.length=U.length
section
variable{K:fA}
theorem NB.refl(r:CA K U Y H G):NB K U Y H G U Y H G:=⟨r,Ext.refl,λ_ h=>.inl h,λ_ h=>⟨h,rfl⟩,λ_ d _ h=>⟨rfl,d,h⟩,rfl⟩
theorem AA.s(r:CA K U Y H G)(a:AA K U Y H G U' H' G'):NB K U Y H G U' Y H' G':=by
 refine⟨a.pA,a.ext,λx h=>.inl (a.own x h),λi h=>⟨?_,rfl⟩,λi d l h=>⟨rfl, ?_⟩, ?_⟩
 ·have:=a.VJ i
  rw[h] at this
  cases e:U[i]? with
  |none=>rw[e] at this;exact this.elim
  |some s=>rw[e] at this;cases s<;>first | rfl | exact this.elim
 ·have:=a.VJ i
  rw[h] at this
  cases e:U'[i]? with
  |none=>rw[e] at this;exact this.elim
  |some s =>
   rw[e] at this
   cases s with
   |ow d' p' l'=>obtain⟨rfl,rfl⟩:=this;exact⟨d',rfl⟩
   |sh d'=>exact absurd (show true=false from this) (by simp)
   |_=>exact this.elim
 ·rw[a.pA.len,r.len]
theorem NB.trans(a:NB K U Y H G U1 Y1 H1 G1)(b:NB K U1 Y1 H1 G1 U2 Y2 H2 G2):NB K U Y H G U2 Y2 H2 G2:=by
 refine⟨b.pA,a.ext.trans a.own b.ext,λx h=>?_,λi h=>?_,λi d l h=>?_,b.len.trans a.len⟩
 ·rcases b.own x h with z | z
  ·exact a.own x z
  ·exact .inr (a.ext.hx x z)
 ·obtain⟨h1,h2⟩:=b.un i h;obtain⟨h3,h4⟩:=a.un i h1;exact⟨h3,h2.trans h4⟩
 ·obtain⟨h1,d',h2⟩:=a.pin i d l h;obtain⟨h3,h4⟩:=b.pin i d' l h2;exact⟨h3.trans h1,h4⟩
def eH(K:fA)(U:Env)(Y:St)(H G:Hp)(U':Env)(D:Ends):Fl->Prop
 |.nx=>∀Y' H' G',NB K U Y H G U' Y' H' G'->D.nx Y' H'
 |.bk=>∀Y' H' G',NB K U Y H G U' Y' H' G'->D.bk Y' H'
 |.ct=>∀Y' H' G',NB K U Y H G U' Y' H' G'->D.ct Y' H'
 |.rt v=>∀x Y' H' G',NB K U Y H G U' Y' H' G'->EC K H' G' (xA U' Y') (λa=>xA U Y a\/H a=none) v x->D.rt x H'
 |.ex _=>False
def eH.pre{D:Ends}(a:NB K U Y H G U1 Y1 H1 G1)(h:eH K U Y H G U' D fl):eH K U1 Y1 H1 G1 U' D fl:=by
 induction fl using Fl.casesOn with
 |nx=>exact λY' H' G' b=>h Y' H' G' (a.trans b)
 |bk=>exact λY' H' G' b=>h Y' H' G' (a.trans b)
 |ct=>exact λY' H' G' b=>h Y' H' G' (a.trans b)
 |rt v=>exact λx Y' H' G' b hv=>h x Y' H' G' (a.trans b) (hv.VH λc z=>by
   rcases z with z | z
   ·exact a.own c z
   ·exact .inr (a.ext.hx c z))
 |ex e=>exact h
end
def tS(K:fA)(P:SA)(C:Calls)(W:Nat)(c:S):TS:=λD Y H=>∃(U:Env) (G:Hp) (fl:Fl) (U':Env),CA K U Y H G/\ex P C W c U=some (fl,U')/\eH K U Y H G U' D fl
def IF(K:fA)(P:SA)(C:Calls)(W:Nat)(c:List S):TS:=λD Y H=>∃(U:Env) (G:Hp) (fl:Fl) (U':Env),CA K U Y H G/\MA P C W c U=some (fl,U')/\eH K U Y H G U' D fl
def TS.HE(h:PS X e t)(w:∀D Y H,u D Y H->t D Y H):PS X e u:=λaA s Y H D I q=>h aA s Y H D I (w D Y H q)
def TS.Z5(h:LC X e t)(w:∀D Y H,u D Y H->t D Y H):LC X e u:=λaA s Y H D I q=>h aA s Y H D I (w D Y H q)
section
variable{X:Cx}{K:fA}
def YJ{r:uA O}(h:r.vC f=some (fl,U))(n:∀e,fl≠.ex e):∃a U1,r=some (.ok a,U1)/\f a U1=some (fl,U):=by
 unfold uA.vC at h;split at h
 ·cases h
 ·cases h;exact absurd rfl (n _)
 ·exact⟨_,_,rfl,h⟩
def eH.ne{D:Ends}(h:eH K U Y H G U' D fl):∀e,fl≠.ex e:=λe z=>by subst z;exact h
def nUa:LC X [] (IF K P C W []):=TS.Z5 D8 λD Y H hz=>by
 obtain⟨U,G,fl,U',r,e,k⟩:=hz;simp only[MA,WB,SD] at e;obtain⟨rfl,rfl⟩:=e;exact k Y H G (NB.refl r)
def mUa{st:WA}{aAj:List WA}(h1:PS X st (tS K P C W c))(h2:LC X aAj (IF K P C W cs)):LC X (st::aAj) (IF K P C W (c::cs)):=by
 refine TS.Z5 (LX h1 h2) λD Y H hz=>?_
 obtain⟨U,G,fl,U',r,e,k⟩:=hz;rw[MA] at e
 cases q:ex P C W c U with
 |none=>rw[q] at e;cases e
 |some y =>
  obtain⟨qP,U1⟩:=y;rw[q] at e;refine⟨U,G,qP,U1,r,q, ?_⟩
  induction qP using Fl.casesOn with
  |nx=>exact λY1 H1 G1 a1=>⟨U1,G1,fl,U',a1.pA,e,k.pre a1⟩
  |bk=>cases e;exact k
  |ct=>cases e;exact k
  |rt v=>cases e;exact k
  |ex x=>cases e;exact k
def CA.sZa(r:CA K U Y H G)(e:store i v U=some U')(h:EC K H G (xA U Y) new v x) :
  CA K U' (Y.set i (some x)) H G/\(∀a,xA U' (Y.set i (some x)) a->xA U Y a\/new a)/\(∀j:Nat,U'[j]?=some .un->U[j]?=some .un/\(Y.set i (some x))[j]?=Y[j]?) /\
  (∀(j:Nat) d l,U[j]?=some (.ow d true l)->(Y.set i (some x))[j]?=Y[j]?/\∃d',U'[j]?=some (.ow d' true l))/\U'.length=U.length:=by
 have key:∃sl,i<U.length/\U'=U.set i sl/\(∀d l,U[i]?≠some (.ow d true l))/\((∃d,v=.sh d/\sl=.sh d)\/∃d,v=.ow d/\sl=.ow d false false):=by
  unfold store at e;split at e
  ·cases e
  ·cases e
  ·cases e
  ·rename_i s h1 h2 h3;have Sf:∀d l,U[i]?≠some (.ow d true l):=λd l z=>by rw[h3] at z;cases z;exact h1 _ _ rfl
   have TC:=(LD.mp h3).1
   induction v using RV.casesOn with
   |sh d=>cases e;exact⟨_,TC,rfl,Sf,.inl ⟨d,rfl,rfl⟩⟩
   |ow d=>cases e;exact⟨_,TC,rfl,Sf,.inr ⟨d,rfl,rfl⟩⟩
   |od d=>cases e
 obtain⟨sl,hi,rfl,np,hs⟩:=key;have his:i<Y.length:=by rw[<- r.len];exact hi
 have hx:(Y.set i (some x))[i]?=some (some x):=gI his;have ne:∀j:Nat,j≠i->(Y.set i (some x))[j]?=Y[j]?:=λj h=>gE (λz=>h z.symm)
 have zD:∀(j:Nat) s,(U.set i sl)[j]?=some s->(j=i/\s=sl)\/(j≠i/\U[j]?=some s):=λj s h=>by
  rcases rH h with ⟨h1,h2,_⟩ | h
  ·exact .inl ⟨h1,h2⟩
  ·exact .inr h
 refine⟨⟨by rw[kF,kF];exact r.len,r.sub,λj d h1=>?_,λj d p l h1=>?_,λj k d p l d' p' l' a h1 h2 h3 h4=>?_⟩,λa ⟨j,d,p,l,h1,h2⟩=>?_,λj h1=>?_,λj d l h1=>?_,by rw[kF]⟩
 ·rcases zD j _ h1 with ⟨rfl,z⟩ | ⟨nj,z⟩
  ·rcases hs with ⟨d0,rfl,rfl⟩ | ⟨d0,rfl,rfl⟩
   ·cases z;exact⟨x,hx,h⟩
   ·cases z
  ·rw[ne j nj];exact r.sh j d z
 ·rcases zD j _ h1 with ⟨rfl,z⟩ | ⟨nj,z⟩
  ·rcases hs with ⟨d0,rfl,rfl⟩ | ⟨d0,rfl,rfl⟩
   ·cases z
   ·cases z;obtain⟨a,rfl,g,o,_,_⟩:=h;exact⟨a,hx,g,o⟩
  ·rw[ne j nj];exact r.ow j d p l z
 ·rcases zD j _ h1 with ⟨rfl,z⟩ | ⟨nj,z⟩
  ·rcases zD k _ h2 with ⟨rfl,z'⟩ | ⟨nk,z'⟩
   ·rfl
   ·rcases hs with ⟨d0,rfl,rfl⟩ | ⟨d0,rfl,rfl⟩
    ·cases z
    ·obtain⟨b,rfl,g,o,no,_⟩:=h;rw[hx] at h3;cases h3;rw[ne k nk] at h4;exact absurd ⟨k,_,_,_,z',h4⟩ no
  ·rcases zD k _ h2 with ⟨rfl,z'⟩ | ⟨nk,z'⟩
   ·rcases hs with ⟨d0,rfl,rfl⟩ | ⟨d0,rfl,rfl⟩
    ·cases z'
    ·obtain⟨b,rfl,g,o,no,_⟩:=h;rw[hx] at h4;cases h4;rw[ne j nj] at h3;exact absurd ⟨j,_,_,_,z,h3⟩ no
   ·rw[ne j nj] at h3;rw[ne k nk] at h4;exact r.inj _ _ _ _ _ _ _ _ _ z z' h3 h4
 ·rcases zD j _ h1 with ⟨rfl,z⟩ | ⟨nj,z⟩
  ·rcases hs with ⟨d0,rfl,rfl⟩ | ⟨d0,rfl,rfl⟩
   ·cases z
   ·obtain⟨b,rfl,g,o,no,m⟩:=h;rw[hx] at h2;cases h2;exact .inr m
  ·rw[ne j nj] at h2;exact .inl ⟨j,d,p,l,z,h2⟩
 ·rcases zD j _ h1 with ⟨rfl,z⟩ | ⟨nj,z⟩
  ·rcases hs with ⟨d0,rfl,rfl⟩ | ⟨d0,rfl,rfl⟩<;>cases z
  ·exact⟨z,ne j nj⟩
 ·by_cases hj:j=i
  ·subst hj;exact absurd h1 (np d l)
  ·exact⟨ne j hj,d,by rw[gE (λz=>hj z.symm)];exact h1⟩
theorem AA.store(r:CA K U Y H G)(a:AA K U Y H G U1 H1 G1)(e:store i v U1=some U')(h:EC K H1 G1 (xA U1 Y) (UD H) v x):NB K U Y H G U' (Y.set i (some x)) H1 G1:=by
 obtain⟨h1,h2,h3,h4,h5⟩:=a.pA.sZa e h;have s:=AA.s r a;refine⟨h1,a.ext,λb z=>?_,λj z=>?_,λj d l z=>?_,h5.trans s.len⟩
 ·rcases h2 b z with z | z
  ·exact s.own b z
  ·exact .inr z
 ·obtain⟨z1,z2⟩:=h3 j z;obtain⟨z3,z4⟩:=s.un j z1;exact⟨z3,z2⟩
 ·obtain⟨_,d',z2⟩:=s.pin j d l z;exact h4 j d' l z2
def CA.gY(r:CA K U Y H G)(e:store i (.sh d) U=some U')(h:iA K G d x):NB K U Y H G U' (Y.set i (some x)) H G :=
 AA.store r (AA.refl r) e h
def gB(K:fA)(one:Bool)(is:List Nat):TG:=λv Y H Q=>∃(U:Env) (G:Hp) (d:D) (U':Env),CA K U Y H G/\iA K G d v/\bB one is d U=some U'/\∀Y',NB K U Y H G U' Y' H G->Q Y' H
def XR(K:fA)(is:List Nat):ZO:=λvs Y H Q=>∃(U:Env) (G:Hp) (ds:List D) (U':Env),CA K U Y H G/\nA K G ds vs/\aAo is ds U=some U'/\∀Y',NB K U Y H G U' Y' H G->Q Y' H
def eSa(h:PG X tg (zN i)):PG X tg (gB K true [i]):=by
 intro aA s Y H v u Q I rv h0;obtain⟨U,G,d,U',r,hd,e,k⟩:=h0;exact h aA s Y H v u Q I rv (k _ (r.gY (by simpa only[bB] using e) hd))
def kSa:LK X [] (XR K []):=λaA s Y H vs us Q I rv hz=>by
 obtain⟨U,G,ds,U',r,hd,e,k⟩:=hz
 induction ds using sC with
 |nil =>
  simp only[aAo,WB] at e;subst e;simp only[nA] at hd;subst hd;exact jSa aA s Y H [] us Q I rv ⟨rfl,k Y (NB.refl r)⟩
 |cons d ds=>simp[aAo] at e
def iSa(h:PG X e (zN i))(t:LK X es (XR K is))(hs:(AH (e::es) X.env).map (·.2)=assign e X.env::(AH es X.env).map (·.2)):LK X (e::es) (XR K (i::is)) :=
 λaA s Y H vs us Q I rv hz=>by
  obtain⟨U,G,ds,U',r,hd,e,k⟩:=hz
  induction ds using sC with
  |nil=>simp[aAo] at e
  |cons d ds =>
   simp only[aAo] at e
   cases q:store i (.sh d) U with
   |none=>rw[q] at e;cases e
   |some U1 =>
    rw[q] at e;simp only[nA] at hd;obtain⟨v,r',rfl,h1,h2⟩:=hd;have a1:=r.gY q h1;exact hSa h t hs aA s Y H (v::r') us Q I rv ⟨v,r',rfl,U1,G,ds,U',a1.pA,h2,e,λY' a2=>k Y' (a1.trans a2)⟩
theorem Lm:∀{is:List Nat} {ds:List D} {U U':Env},aAo is ds U=some U'->ds.length=is.length
 |[],[],_,_,_=>rfl
 |[],_::_,_,_,e=>by simp[aAo] at e
 |_::_,[],_,_,e=>by simp[aAo] at e
 |i::is,d::ds,U,U',e=>by
  simp only[aAo] at e
  cases q:store i (.sh d) U with
  |none=>rw[q] at e;cases e
  |some U1=>rw[q] at e;simp[Lm e]
def dk(xo:KA X K P C Z)(t:LK X es (XR K is))(hn:(AH es X.env).length=is.length)(RH:(AH es X.env).findIdx? (·.1)=none):PG X (.Tuple es k0 pos) (gB K false is) :=
 λaA s Y H v u Q I rv hz=>by
  obtain⟨U,G,d,U',r,hd,e,k⟩:=hz
  induction d using D.casesOn with
  |t ds =>
   simp only[bB] at e;simp only[iA] at hd;obtain⟨a,vs,rfl,h1,h2⟩:=hd;refine gSa xo.calm t hn RH aA s Y H (.ref a) u Q I rv ⟨a,vs,rfl, ?_, ?_,U,G,ds,U',r,h2,e,k⟩
   ·rw[xo.nC];exact AL r.sub h1
   ·rw[h2.len];exact Lm e
  |_=>simp only[bB,reduceCtorEq] at e
end
noncomputable def UP(Z:CC)(it:vA)(body:List WA)(cs:List E):List E:=cs
def TX(Z:CC)(x:bA)(args:List vA):S:=if args.all aAc&&(decide (args≠[])&&decide (args.length<=100)) then(match Z.glob x with | .exc=>.ME x (eB Z args) | .NG=>.aO x (eB Z args) | _=>.jA) else .jA
def gT(Z:CC)(e:vA):S:=match xS e with
 |some x=>TX Z x.1.1 x.2.1
 |none=>.jA
def lL:List FO->Option (bA×bA×List WA)
 |[.ExceptHandler (some c) (some n) body _]=>(aAu c).map λx=>(x,n,body)
 |_=>none
def fQ(h:aAu e=some x):∃p,e=.Name x p:=by
 cases e<;>first | exact gG h | exact⟨_,congrArg (λy=>Expr.Name y _) (wF h)⟩
def aCa(h:lL hs=some (x,n,body)):∃p q,hs=[.ExceptHandler (some (.Name x p)) (some n) body q]:=by
 obtain _ | ⟨⟨ty,nm,bd,p2⟩,_ | ⟨_,_⟩⟩:=hs
 ·exact gG h
 ·obtain _ | c:=ty
  ·exact gG h
  ·obtain _ | n':=nm
   ·exact gG h
   ·replace h:(aAu c).map (λx=>(x,n',bd))=some (x,n,body):=h
    cases hc:aAu c with
    |none=>rw[hc] at h;exact gG h
    |some y =>
     rw[hc] at h;cases h;obtain⟨p,rfl⟩:=fQ hc;exact⟨_,_,rfl⟩
 ·obtain _ | c:=ty<;>obtain _ | n':=nm<;>exact gG h
def EZ:List WA->Option (bA×bA)
 |[.Assign [t] v _]=>(aAu t).bind λy=>(aAu v).map λn=>(y,n)
 |_=>none
def Vr(ss:List WA)(y n:bA):Prop:=∃p q r,ss=[.Assign [.Name y p] (.Name n q) r]
def Qu(h:EZ ss=some (y,n)):Vr ss y n:=by
 obtain _ | ⟨st,_ | ⟨_,_⟩⟩:=ss
 ·exact gG h
 ·induction st using cZ with
  |Assign ts v r =>
   obtain _ | ⟨t,_ | ⟨_,_⟩⟩:=ts
   ·exact gG h
   ·replace h:((aAu t).bind λy=>(aAu v).map λn=>(y,n))=some (y,n):=h
    cases h1:aAu t with
    |none=>rw[h1] at h;exact gG h
    |some y' =>
     rw[h1] at h
     cases h2:aAu v with
     |none=>rw[h2] at h;exact gG h
     |some n' =>
      rw[h2] at h;cases h;obtain⟨p,rfl⟩:=fQ h1;obtain⟨q,rfl⟩:=fQ h2;exact Exists.intro _ ⟨_,_,rfl⟩
   ·exact gG h
  |_=>exact gG h
 ·induction st using cZ with
  |Assign ts v r=>obtain _ | ⟨t,_ | ⟨_,_⟩⟩:=ts<;>exact gG h
  |_=>exact gG h
def z9(Z:CC)(cb:List S)(x n:bA)(body:List WA):S:=match EZ body with
 |some (y,n')=>if n'==n then(match Z.bL x,Z.tF n,Z.tF y with
  |.MA cs,some i,some j=>.oO cb cs i j
  |_,_,_=>.jA) else .jA
 |none=>.jA
noncomputable def Qo(Z:CC)(cb:List S)(x n:bA)(body:List WA):S:=.jA
def kEa(n:bA)(body:List WA):Bool:=match EZ body with
 |some (_,n')=>n'==n
 |none=>false
noncomputable def oY(cb:List S)(hs:List FO)(o f:List WA):S:=.jA
noncomputable def Og:vA->Bool
 |.Constant (.str _) _ _=>true
 |_=>false
def QX:WA->Bool
 |.Raise (some e) none _=>(match xS e with
  |some q=>(match q.2.1 with
   |[a]=>Og a&&q.1.1==("NoText":bA)
   |_=>false)
  |none=>false)
 |_=>false
def A5(l:List FO):Option bA:=match l with
 |[]=>none
 |x::r=>match r with
  |_::_=>none
  |[]=>match x with
   |.ExceptHandler o n b _=>match n with
    |some _=>none
    |none=>match b with
     |[]=>none
     |a::r=>match r with
      |_::_=>none
      |[]=>match o with
       |none=>none
       |some c=>if QX a then aAu c else none
def nWa{st:WA}(h:QX st=true):∃p m k p1 p2 p3,st=.Raise (some (.Call (.Name "NoText" p) [.Constant (.str m) k p1] [] p2)) none p3:=by
 unfold QX at h;split at h
 ·rename_i e p3;split at h
  ·rename_i q hq;split at h
   ·rename_i a ha;rw[qA] at h;obtain⟨⟨f,p⟩,args,pos⟩:=q
    have:=RW hq
    subst this;have h2:f="NoText":=uB h.2;have ha:args=[a]:=ha;subst h2 ha;have h1:=h.1;unfold Og at h1;split at h1
    ·exact⟨_,_,_,_,_,_,rfl⟩
    ·cases h1
   ·cases h
  ·cases h
 ·cases h
def Rf(h:A5 hs=some x):∃np st q,hs=[.ExceptHandler (some (.Name x np)) none [st] q]/\QX st=true:=by
 obtain _ | ⟨⟨o,n,b,q⟩,_ | ⟨_,_⟩⟩:=hs
 ·cases h
 ·cases n with
  |some=>cases h
  |none=>
   obtain _ | ⟨a,_ | ⟨_,_⟩⟩:=b
   ·cases h
   ·cases o with
    |none=>cases h
    |some c=>
     replace h:(if QX a then aAu c else none)=_:=h;split at h
     ·obtain⟨p,rfl⟩:=fQ h;exact⟨_,_,_,rfl,‹_›⟩
     ·cases h
   ·cases h
 ·cases h
def ET(Z:CC)(cb:List S)(hs:List FO):S:=match A5 hs with
 |some x=>(match Z.bL x,Z.glob ("NoText":bA) with
  |.MA cs,.exc=>.pO cb cs
  |_,_=>.jA)
 |none=>oY cb hs [] []
def A9(Z:CC)(cb:List S)(hs:List FO):S:=ET Z cb hs
def B9(Z:CC)(cb:List S)(hs:List FO):S:=A9 Z cb hs
def DT(Z:CC)(cb:List S)(hs:List FO)(o f:List WA):S :=
 if o.isEmpty&&f.isEmpty then(match lL hs with
  |some (x,n,body)=>if(Z.names.lookup n==some .local)&&Z.top then(if kEa n body then z9 Z cb x n body else if body.isEmpty then .jA else Qo Z cb x n body) else .jA
  |none=>if Z.top then B9 Z cb hs else .jA) else .jA
noncomputable def dWa(Z:CC)(e:vA)(c:S):S:=c
noncomputable def J8(e:vA)(c:E):S:=.ret c
noncomputable def rXa(Z:CC)(s:WA)(r:List WA):Option (Nat×Nat×E×E):=none
noncomputable def sXa(o:Option (Nat×Nat×E×E))(c:S)(cs:List S):List S :=
 match o with
 |none=>c::cs
 |some (i,j,ce,cc)=>.Xl i j ce cc::cs.drop 3
noncomputable def kT(i:Nat)(k:vA)(ck ce:E):S:=.set i ck ce
noncomputable def vT(Z:CC)(ts:List vA)(e:vA)(ce:E):S:=.jA
def ZH(Z:CC)(a:vA)(f:bA)(e:vA):S:=match aAu a,Z.gl (lM f) with
 |some x,.BF cs=>(match Z.slot x with
  |some i=>if HD e then .rK i f cs (cE Z e) else .jA
  |none=>.jA)
 |_,_=>.jA
mutual
noncomputable def cS(Z:CC):WA->S
 |.Pass _=>.pass
 |.Break _=>.brk
 |.Continue _=>.cnt
 |.Return (some e) _=>dWa Z e (J8 e (cE Z e))
 |.Return none _=>.OX
 |.Expr e _=>if HD e then .expr (cE Z e) else .jA
 |.If c a b _=>.DA (cE Z c) (mD Z a) (mD Z b)
 |.While c body [] _=>.jA
 |.For tg it body [] _=>match uH Z tg,jK Z it with
  |some (one,is),some (k,gA)=>if vJ k one then .for is one k (UP Z it body (eB Z gA)) (mD Z body) else .jA
  |_,_=>.jA
 |.Assign [.Name x _] e _=>match Z.tF x with
  |some i=>if HD e||sS e then .nB i (cE Z e) else .jA
  |none=>.jA
 |.Assign [.Tuple ts _ _] e _=>match wK Z ts with
  |some is=>if HD e&&RS e then .cM is (cE Z e) else .jA
  |none=>vT Z ts e (cE Z e)
 |.Assign [.Subscript (.Name x _) k _] e _=>match Z.slot x with
  |some i=>if HD e&&uX k then kT i k (cE Z k) (cE Z e) else .jA
  |none=>.jA
 |.Assign [.Attribute a f _] e _=>ZH Z a f e
 |.AugAssign (.Name x _) .Add e _=>(match Z.tF x with
  |some i=>if HD e then .jA else .jA
  |none=>.jA)
 |.Raise (some e) none _=>gT Z e
 |.Try body hs o f _=>DT Z (mD Z body) hs o f
 |_=>.jA
noncomputable def mD(Z:CC):List WA->List S
 |[]=>[]
 |s::r=>sXa (rXa Z s r) (cS Z s) (mD Z r)
end
abbrev kI(X:Cx)(Z:CC):Prop:=∀x,Z.JN x=true->X.fn x=true\/X.env.scope.names.lookup x=some .local
section
variable{K:fA}
def zQ(h:HD e=true)(t:Option vA)(line:Nat)(env:DK):swapsWith e t line env=pure false:=by
 cases e<;>first | rfl | cases h
def e9(h:HD e=true)(t:vA)(line:Nat)(env:DK):swapsWithSole [t] e line env=pure false:=zQ h _ _ _
def A8{st:WA}(h:∀U,ex P C W c U=none):PS X st (tS K P C W c):=λaA s Y H D I hz=>by obtain⟨U,G,fl,U',r,e,k⟩:=hz;rw[h] at e;cases e
def YB{st:WA}:PS X st (tS K P C W .jA):=A8 λU=>rfl
def uTa:PS X (.Pass pos) (tS K P C W .pass):=TS.HE tTa λD Y H hz=>by
 obtain⟨U,G,fl,U',r,e,k⟩:=hz;cases e;exact k Y H G (NB.refl r)
def mTa:PS X (.Break pos) (tS K P C W .brk):=TS.HE lTa λD Y H hz=>by
 obtain⟨U,G,fl,U',r,e,k⟩:=hz;cases e;exact k Y H G (NB.refl r)
def nTa:PS X (.Continue pos) (tS K P C W .cnt):=TS.HE pTa λD Y H hz=>by
 obtain⟨U,G,fl,U',r,e,k⟩:=hz;cases e;exact k Y H G (NB.refl r)
def qTa(h:HA X K P C e c)(n:HD e=true):PS X (.Expr e pos) (tS K P C W (.expr c)):=by
 refine TS.HE (zk h.v (zQ n _ _ _)) λD Y H hz=>?_
 obtain⟨U,G,fl,U',r,e,k⟩:=hz;obtain⟨v,U1,e1,e2⟩:=YJ e k.ne;cases e2;exact⟨U,G,v,_,r,e1,λx H' G' a hv=>k Y H' G' (AA.s r a)⟩
def yTa:PS X (.Return none pos) (tS K P C W .OX):=TS.HE xTa λD Y H hz=>by
 obtain⟨U,G,fl,U',r,e,k⟩:=hz;cases e;exact k .rA Y H G (NB.refl r) (by show iA K G .rA _;simp[iA])
def CA.give(r:CA K U Y H G)(h:U[i]?=some (.ow d false l))(hx:Y[i]?=some (some (.ref a))) :
  NB K U Y H G (U.set i .mv) Y H G/\EC K H G (xA (U.set i .mv) Y) (λa=>xA U Y a\/H a=none) (.ow d) (.ref a):=by
 have key:∀(j:Nat) (sl:Sl),(U.set i .mv)[j]?=some sl->(j=i/\sl=.mv)\/(j≠i/\U[j]?=some sl):=λj sl z=>by
  rcases rH z with ⟨e,z,_⟩ | z
  ·exact .inl ⟨e,z⟩
  ·exact .inr z
 obtain⟨b,h1,g,o⟩:=r.ow i d false l h;rw[hx] at h1;cases h1
 have rF:∀c,xA (U.set i .mv) Y c->xA U Y c/\c≠a:=λc hz=>by
  obtain⟨j,d',p',l',z,w⟩:=hz;rcases key j _ z with ⟨_,q⟩ | ⟨nj,q⟩
  ·cases q
  ·refine⟨⟨j,d',p',l',q,w⟩,λz=>?_⟩;subst z;exact nj (r.inj _ _ _ _ _ _ _ _ _ q h w hx)
 refine⟨⟨⟨by rw[kF];exact r.len,r.sub,λj d' z=>?_,λj d' p' l' z=>?_,λj k d1 p1 l1 d2 p2 l2 c z1 z2 z3 z4=>?_⟩,Ext.refl,λc z=>.inl (rF c z).1,λj z=>?_,λj d' l' z=>⟨rfl,d', ?_⟩,by rw[kF]⟩,a,rfl,g,o,λz=>(rF a z).2 rfl,.inl ⟨i,d,false,l,h,hx⟩⟩
 ·rcases key j _ z with ⟨_,q⟩ | ⟨nj,q⟩
  ·cases q
  ·exact r.sh j d' q
 ·rcases key j _ z with ⟨_,q⟩ | ⟨nj,q⟩
  ·cases q
  ·exact r.ow j d' p' l' q
 ·rcases key j _ z1 with ⟨_,q⟩ | ⟨nj,q⟩
  ·cases q
  ·rcases key k _ z2 with ⟨_,q'⟩ | ⟨nk,q'⟩
   ·cases q'
   ·exact r.inj _ _ _ _ _ _ _ _ _ q q' z3 z4
 ·rcases key j _ z with ⟨_,q⟩ | ⟨nj,q⟩
  ·cases q
  ·exact⟨q,rfl⟩
 ·have nj:j≠i:=λw=>by subst w;rw[h] at z;cases z
  rw[gE (λw=>nj w.symm)];exact z
def zTa(h:HA X K P C e c):PS X (.Return (some e) pos) (tS K P C W (.ret c)):=by
 by_cases hv:∃i,c=.v i
 ·obtain⟨i,rfl⟩:=hv;refine TS.HE (C8 h.h) λD Y H hz=>?_
  obtain⟨U,G,fl,U',r,e,k⟩:=hz;replace e:(match U[i]? with | some (.ow d false _)=>some (.rt (.ow d),U.set i .mv) | some (.sh d)=>some (.rt (.sh d),U) | _=>none)=some (fl,U'):=e;split at e
  ·rename_i d l hd;cases e;obtain⟨a,h1,g,o⟩:=r.ow i d false l hd;refine⟨U,G,.slot i,U,r,by simp[hd,hd,Sl.get,CI.hd],λx H' G' a1 hx=>?_⟩;obtain⟨a',mH,g',o'⟩:=a1.pA.ow i d false l hd;have hx:Y[i]?=some (some x):=hx;rw[hx] at mH;cases mH;obtain⟨s1,v1⟩:=a1.pA.give hd hx;exact(k.pre (AA.s r a1)) _ Y H' G' s1 v1
  ·rename_i d hd;cases e;obtain⟨v,h1,h2⟩:=r.sh i d hd;refine⟨U,G,.slot i,U,r,by simp[hd,Sl.get,CI.hd],λx H' G' a1 hx=>?_⟩;obtain⟨v',mH,h2'⟩:=a1.pA.sh i d hd;have hx:Y[i]?=some (some x):=hx;rw[hx] at mH;cases mH;exact k x Y H' G' (AA.s r a1) h2'
  ·cases e
 ·refine TS.HE (C8 h.v) λD Y H hz=>?_
  obtain⟨U,G,fl,U',r,e,k⟩:=hz
  have e':(ev P C false c U).vC (λv U1=>some (.rt v,U1))=some (fl,U'):=by
   cases c<;>first | exact absurd ⟨_,rfl⟩ hv | exact e
  obtain⟨v,U1,e1,e2⟩:=YJ e' k.ne;cases e2;exact⟨U,G,v,_,r,e1,λx H' G' a hv=>k x Y H' G' (AA.s r a) (hv.VH λa z=>.inr z)⟩
def rTa(hc:HA X K P C c cc)(ha:LC X a (IF K P C W ca))(hb:LC X b (IF K P C W cb)):PS X (.If c a b pos) (tS K P C W (.DA cc ca cb)):=by
 refine TS.HE (Bk hc.t ha hb) λD Y H hz=>?_
 obtain⟨U,G,fl,U',r,e,k⟩:=hz;obtain⟨v,U1,e1,e2⟩:=YJ e k.ne;split at e2
 ·refine⟨U,G,true,U1,r,e1,λH1 G1 a1=>?_⟩;refine NN ?_;exact⟨U1,G1,fl,U',a1.pA,e2,k.pre (AA.s r a1)⟩
 ·refine⟨U,G,false,U1,r,e1,λH1 G1 a1=>?_⟩;refine MN ?_;exact⟨U1,G1,fl,U',a1.pA,e2,k.pre (AA.s r a1)⟩
 ·cases e2
def U8(xo:QB qq X K P C Z)(TB:kI X Z)(h:Z.tF x=some i):PG X (.Name x pos) (zN i):=by
 unfold CC.tF at h;split at h
 ·rename_i hl
  have hN:X.N[i]?=some x:=by
   unfold CC.slot at h;split at h
   ·cases h
   ·split at h
    ·rw[xo.UH];exact LW h
    ·cases h
  refine ek (by rw[xo.UH];exact xo.nd) hN ?_ (TB x hl);unfold L2.Loc;rw[xo.nm];unfold CC.JN at hl;rw[RI,qA] at hl;rcases hl with hl | hl
  ·exact .inl (uB hl)
  ·exact .inr (uB hl.2)
 ·cases h
def iTa(xo:QB qq X K P C Z)(TB:kI X Z)(hi:Z.tF x=some i)(h:HA X K P C e c)(n:HD e=true):PS X (.Assign [.Name x p] e pos) (tS K P C W (.nB i c)):=by
 refine TS.HE (JX h.v (U8 xo TB hi) (e9 n _ _ _)) λD Y H hz=>?_
 obtain⟨U,G,fl,U',r,e,k⟩:=hz;obtain⟨v,U1,e1,e2⟩:=YJ e k.ne;unfold OH at e2
 cases q:store i v U1 with
 |none=>rw[q] at e2;cases e2
 |some U2 =>
  rw[q] at e2;cases e2;exact⟨U,G,v,U1,r,e1,λx H' G' a hv=>k _ H' G' (AA.store r a q hv)⟩
theorem p9(xo:KA X K P C Z)(TB:kI X Z):∀{ts:List vA} {is:List Nat},wK Z ts=some is->LK X ts (XR K is)/\(AH ts X.env).length=is.length/\(AH ts X.env).findIdx? (·.1)=none/\ts.length=is.length
 |[],is,h=>by cases h;exact⟨kSa,rfl,rfl,rfl⟩
 |e::es,is,h=>by
  simp only[wK] at h
  cases q:o9 Z e with
  |none=>rw[q] at h;cases h
  |some i =>
   rw[q] at h;simp only[oE] at h
   cases q2:wK Z es with
   |none=>rw[q2] at h;cases h
   |some Lg =>
    rw[q2] at h;cases h;obtain⟨h1,h2,h3,h4⟩:=p9 xo TB q2;cases e<;>simp only[o9,reduceCtorEq] at q;refine⟨iSa (U8 xo TB q) h1 rfl, ?_, ?_,by simp[h4]⟩
    ·show(AH es X.env).length+1=Lg.length+1;rw[h2]
    ·show((false,_)::AH es X.env).findIdx? (·.1)=none;rw[List.findIdx?_cons,h3];rfl
def e0a(h:RS e=true)(env:DK):swappedStores [.Tuple ts k0 p] e env=pure none:=by
 cases e<;>first | rfl | cases h
def jTa(xo:KA X K P C Z)(TB:kI X Z)(hi:wK Z ts=some is)(h:HA X K P C e c)(n:HD e=true)(n2:RS e=true):PS X (.Assign [.Tuple ts k0 p] e pos) (tS K P C W (.cM is c)):=by
 obtain⟨h1,h2,h3,h4⟩:=p9 xo TB hi;refine TS.HE (JX h.v (dk xo h1 h2 h3) (e9 n _ _ _) (e0a n2 _)) λD Y H hz=>?_
 obtain⟨U,G,fl,U',r,e,k⟩:=hz;obtain⟨v,U1,e1,e2⟩:=YJ e k.ne;unfold OH at e2
 cases q:bB false is v.d U1 with
 |none=>rw[q] at e2;cases e2
 |some U2 =>
  rw[q] at e2;cases e2;refine⟨U,G,v,U1,r,e1,λx H' G' a hv=>?_⟩;obtain⟨G2,a2,r2⟩:=a.share hv;exact⟨U1,G2,v.d,_,a2.pA,r2,q,λY' b=>k Y' H' G2 ((AA.s r a2).trans b)⟩
def kVa(K:fA):UU:=λ_ _ _ _ _=>False
def lVa:UU:=λ_ _ _ _ _=>False
def zXa(hu:X.A.units+11<cLine):wZ X (λo i v H Q=>Uk o i v H Q\/lVa o i v H Q\/kVa X.K o i v H Q):=by
 intro aA s Y H o i v ov iv u Q I ro ri rv h;rcases h with h | h | h
 ·exact aAU aA s Y H o i v ov iv u Q I ro ri rv h
 ·exact h.elim
 ·exact h.elim
theorem Jk:∀{ns:List bA} {vs:List V},ns.length=vs.length->eF f y (ns.zip vs)=(aAx f ns).zip (UG f y ns vs)/\(aAx f ns).length=(UG f y ns vs).length
 |[],[],_=>⟨rfl,rfl⟩
 |[],_::_,h=>nomatch h
 |_::_,[],h=>nomatch h
 |n::ns,v::vs,h=>by
  obtain⟨h1,h2⟩:=Jk (Rb h);simp only[AO,eF,aAx,UG];split
  ·exact⟨rfl,congrArg (·+1) (Rb h)⟩
  ·exact⟨by rw[AO,h1],by rw[fC,fC,h2]⟩
theorem Lk(hy:iA K G d y):∀{ns:List bA} {ds:List D} {vs:List V},nA K G ds vs->nA K G (UG f d ns ds) (UG f y ns vs)
 |[],ds,vs,h=>nA.cons hy nA.nil
 |n::ns,[],vs,h=>by
  simp only[nA] at h;subst h;exact nA.nil
 |n::ns,e::ds,vs,h=>by
  simp only[nA] at h;obtain⟨v,r,rfl,h1,h2⟩:=h;simp only[UG];split
  ·exact nA.cons hy h2
  ·exact nA.cons h1 (Lk hy h2)
theorem Kk:∀{ns:List bA},g∈aAx f ns->g=f\/g∈ns
 |[],h=>.inl (uF.mp h)
 |n::ns,h=>by
  unfold aAx at h;split at h
  ·exact .inr h
  ·rcases eD.mp h with h | h
   ·exact .inr (h ▸ BE)
   ·exact(Kk h).imp id (OD _)
def bUa(xo:KA X K P C Z)(hi:Z.slot x=some i)(hf:Z.gl (lM f)=.BF cs)(h:HA X K P C e c)(n:HD e=true):PS X (.Assign [.Attribute (.Name x p) f p2] e pos) (tS K P C W (.rK i f cs c)):=by
 have hp:PE X (.Name x p) (dI i):=CC.KI xo hi;refine TS.HE (B8 hp h.v (zQ n _ _ _)) λD Y H hz=>?_
 obtain⟨U,G,fl,U',r,e,k⟩:=hz;obtain⟨v,U1,e1,e2⟩:=YJ e k.ne;unfold XX at e2;split at e2
 case h_2=>cases e2
 rename_i c0 ns ds p1 hs;split at e2
 case isFalse=>cases e2
 rename_i hc;cases e2;refine⟨U,G,v,U1,r,e1,λy H1 G1 a1 hv=>?_⟩;obtain⟨G3,a3,r3⟩:=a1.share hv;obtain⟨b,hb,g0,Ca,dx,vs,z1,z2,z3,z4,z5⟩:=a3.pA.ow i _ _ _ hs;have na:fH K Ca f:=xo.BF.1 f cs hf c0 (by simpa using hc.1) Ca z1;obtain⟨q1,q2⟩:=Jk z5;have hK:=xo.nC;refine⟨.ref b,hb,b,Ca,dx,_,rfl,z2,by rw[hK];exact z4.cl,by rw[hK];exact na, ?_, ?_⟩
 ·rw[List.length_zip];lia
 ·rw[q1];have a4:=a3.pA.Ap (ob:=.ins Ca dx ((aAx f ns).zip (UG f y ns vs))) (d':=.ins c0 (aAx f ns) (UG f v.d ns ds)) hs hb ⟨Ca,dx,_,z1,eC,Lk r3 z3,⟨z4.cl,λg hg=>(Kk hg).elim (λz=>z ▸ na) (z4.no g)⟩,q2⟩;exact k Y _ _ (AA.s r (a3.trans a4))
def dUa(xo:KA X K P C Z)(hi:Z.slot x=some i)(h:HA X K P C e c)(hj:HA X K P C j cj)(n:HD e=true)
  (ha:∀v,assign (.Subscript (.Name x p) j p2) X.env v=(do
   let ov <- holding [v] (eval (.Name x p) X.env)
   let iv <- holding [v,ov] (eval j X.env)
   standAt p2
   holding [v,ov,iv] (setItem ov iv v)
   release [v,ov,iv] [])):PS X (.Assign [.Subscript (.Name x p) j p2] e pos) (tS K P C W (.set i cj c)):=by
 have hp:PE X (.Name x p) (dI i):=CC.KI xo hi;refine TS.HE (JX h.v (fSa hp hj.v (xo.nC ▸ zXa (by have:=xo.hu;lia)) ha) (e9 n _ _ _)) λD Y H hz=>?_
 obtain⟨U,G,fl,U',r,e,k⟩:=hz;obtain⟨v,U1,e1,e2⟩:=YJ e k.ne;split at e2
 ·rename_i ho;obtain⟨w,U2,e3,e4⟩:=YJ e2 k.ne;split at e4
  ·rename_i ds p1 nn hs hw;unfold OH at e4
   cases q:mE ds.length nn with
   |none=>rw[q] at e4;cases e4
   |some m =>
    rw[q] at e4;cases e4;refine⟨U,G,v,U1,r,e1,λy H1 G1 a1 hv=>?_⟩;obtain⟨d0,p0,l0,h0⟩:=u6 ho;obtain⟨b,hb,g0,o0⟩:=a1.pA.ow i _ p0 l0 h0;refine⟨.ref b,hb,U1,G1,w,U2,a1.pA,e3,λz H2 G2 a2 hz=>?_⟩;have hv2:=hv.wait a2.ext λa z=>.inl (a2.own a z)
    obtain⟨G3,a3,r3⟩:=(a1.trans a2).share hv2;obtain⟨b',DF,g1,vs,R5,hr⟩:=a3.pA.ow i _ _ _ hs;rw[hb] at DF;cases DF;have ug:=hz.oQ;rw[hw] at ug;cases ug.int;have a4:=a3.pA.write hs hb (hr.set r3 m);exact .inl ⟨b,vs,nn,m,rfl,rfl,R5,by rw[hr.len];exact q,k Y _ _ (AA.s r (a3.trans a4))⟩
  ·cases e4
 ·cases e2
end
section
variable{X:Cx}{K:fA}{P:SA}{C:Calls}{W:Nat}{Z:CC}
def zT(r:CA K U Y H G):CA K (aAd o U) Y H G/\∀a,xA (aAd o U) Y a->xA U Y a:=by
 induction o using DH with
 |none=>exact⟨r,λ_ z=>z⟩
 |some i=>exact⟨r.unset i,λ_ z=>z.unset⟩
def mQ(r:CA K U1 Y H1 G1)(ho:∀i,o=some i->∃d p l,U1[i]?=some (.ow d p l))(e:aAl o U1 Uf=some U')(a:NB K (aAd o U1) Y H1 G1 Uf Yf Hf Gf) :
  NB K U1 Y H1 G1 U' Yf Hf Gf/\∀c,xA U' Yf c->xA Uf Yf c\/(xA U1 Y c/\¬xA (aAd o U1) Y c):=by
 induction o using DH with
 |none =>
  simp only[aAl,WB] at e;subst e;exact⟨a,λ_ z=>.inl z⟩
 |some i =>
  obtain⟨d,p,l,hi⟩:=ho i rfl;obtain⟨b,hb,g,ob⟩:=r.ow i d p l hi;have D5:xA U1 Y b:=⟨i,d,p,l,hi,hb⟩
  have rX:¬xA (U1.set i .un) Y b:=r.FQ hi hb;have jD:H1 b≠none:=(r.owned D5).1;simp only[aAl] at e;split at e
  ·rename_i sl hf hs;rw[hi] at hs;cases hs;cases e;obtain⟨hu1,kg⟩:=a.un i hf;have hx:Yf[i]?=some (some (.ref b)):=kg.trans hb;have gb:Gf b=none:=a.ext.gn b jD g rX;have of:HG K Hf Gf b d:=ob.mono a.ext.gg λo' h'=>a.ext.hh b o' h' rX
   have nf:¬xA Uf Yf b:=λz=>by
    rcases a.own b z with z | z
    ·exact rX z
    ·exact jD z
   have rf:CA K (Uf.set i (.ow d p l)) Yf Hf Gf:=(a.pA.unset i).XN hx gb of λz=>nf z.unset
   have rF:∀c,xA (Uf.set i (.ow d p l)) Yf c->c=b\/xA Uf Yf c:=λc z=>by
    rcases z.XN hx with z | z
    ·exact .inl z
    ·exact .inr z.unset
   refine⟨⟨rf,a.ext.weaken λc z=>z.unset,λc z=>?_,λj z=>?_,λj d' l' z=>?_,by rw[kF,a.len];exact kF⟩,λc z=>?_⟩
   ·rcases rF c z with rfl | z
    ·exact .inl D5
    ·rcases a.own c z with z | z
     ·exact .inl z.unset
     ·exact .inr z
   ·rcases rH z with ⟨_,w,_⟩ | ⟨nj,w⟩
    ·cases w
    ·obtain⟨w1,w2⟩:=a.un j w;have lp:(U1.set i .un)[j]?=some .un:=w1;rw[gE (λq=>nj q.symm)] at lp;exact⟨lp,w2⟩
   ·by_cases hj:j=i
    ·subst hj;rw[hi] at z;cases z;refine⟨kg,d, ?_⟩;rw[gI (LD.mp hf).1]
    ·have z':(aAd (some i) U1)[j]?=some (.ow d' true l'):=by
      show(U1.set i .un)[j]?=_;rw[gE (λq=>hj q.symm)];exact z
     obtain⟨w1,d2,w2⟩:=a.pin j d' l' z';exact⟨w1,d2,by rw[gE (λq=>hj q.symm)];exact w2⟩
   ·rcases rF c z with rfl | z
    ·exact .inr ⟨D5,rX⟩
    ·exact .inl z
  ·cases e
def eH.restore{D:Ends}(r:CA K U1 Y H1 G1)(ho:∀i,o=some i->∃d p l,U1[i]?=some (.ow d p l))(e:aAl o U1 Uf=some U')(k:eH K U1 Y H1 G1 U' D fl) :
  eH K (aAd o U1) Y H1 G1 Uf D fl:=by
 induction fl using Fl.casesOn with
 |nx=>exact λY' H' G' b=>k Y' H' G' (mQ r ho e b).1
 |bk=>exact λY' H' G' b=>k Y' H' G' (mQ r ho e b).1
 |ct=>exact λY' H' G' b=>k Y' H' G' (mQ r ho e b).1
 |rt v =>
  refine λx Y' H' G' b hv=>?_
  obtain⟨b1,b2⟩:=mQ r ho e b;refine k x Y' H' G' b1 ?_
  induction v using RV.casesOn with
  |sh d=>exact hv
  |ow d =>
   obtain⟨c,rfl,g,oo,n,m⟩:=hv;refine⟨c,rfl,g,oo,λz=>?_, ?_⟩
   ·rcases b2 c z with z | ⟨z1,z2⟩
    ·exact n z
    ·rcases m with m | m
     ·exact z2 m
     ·exact(r.owned z1).1 m
   ·rcases m with m | m
    ·exact .inl ((zT r).2 c m)
    ·exact .inr m
  |od d =>
   obtain⟨c,rfl,g,oo,n,m,vs,R5,hr⟩:=hv
   have key:∀c,¬xA Uf Y' c->(xA (aAd o U1) Y c\/H1 c=none)->¬xA U' Y' c/\(xA U1 Y c\/H1 c=none):=λc n m=>by
    refine⟨λz=>?_, ?_⟩
    ·rcases b2 c z with z | ⟨z1,z2⟩
     ·exact n z
     ·rcases m with m | m
      ·exact z2 m
      ·exact(r.owned z1).1 m
    ·rcases m with m | m
     ·exact .inl ((zT r).2 c m)
     ·exact .inr m
   exact⟨c,rfl,g,oo,(key c n m).1,(key c n m).2,vs,R5,λx hx=>let ⟨b,ws,h1,h2,h3,h4,h5,h6⟩:=hr x hx;⟨b,ws,h1,h2,h3,(key b h4 h5).1,(key b h4 h5).2,h6⟩⟩
 |ex x=>exact k
def sR(K:fA)(P:SA)(C:Calls)(W:Nat)(one:Bool)(tg:List Nat)(cb:List S)(U0:Env)(Y0:St)(H0 G0:Hp)(fl:Fl)(Uf:Env)(ds:List D)(i:Nat):St->Hp->Prop:=λY H =>
 ∃U G,NB K U0 Y0 H0 G0 U Y H G/\dE (bB one tg) (MA P C W cb) (ds.drop i) U=some (fl,Uf)
def jKa(hk:eH K U0 Y0 H0 G0 Uf D0 fl)(hd:ds[i]?=some d)
  (h:∃U G,NB K U0 Y0 H0 G0 U Y H G/\iA K G d x/\dE (bB one tg) (MA P C W cb) (ds.drop i) U=some (fl,Uf)) :
  gB K one tg x Y H λY2 H2=>IF K P C W cb { D0 with nx:=sR K P C W one tg cb U0 Y0 H0 G0 fl Uf ds (i+1),ct:=sR K P C W one tg cb U0 Y0 H0 G0 fl Uf ds (i+1),bk:=D0.nx } Y2 H2:=by
 obtain⟨U,G,a,hx,e⟩:=h;have hl:i<ds.length:=(LD.mp hd).1
 have ed:ds.drop i=d::ds.drop (i+1):=by(rw[zY hl];congr 1;rw[MD hl] at hd;exact wF hd)
 rw[ed] at e;simp only[dE] at e
 cases q:bB one tg d U with
 |none=>rw[q] at e;cases e
 |some U1 =>
  rw[q] at e;simp only at e;refine⟨U,G,d,U1,a.pA,hx,q,λY1 a1=>?_⟩;have VI:=a.trans a1
  cases q2:MA P C W cb U1 with
  |none=>rw[q2] at e;cases e
  |some y =>
   obtain⟨qP,U2⟩:=y;rw[q2] at e;refine⟨U1,G,qP,U2,a1.pA,q2, ?_⟩
   induction qP using Fl.casesOn with
   |nx=>exact λY2 H2 G2 a2=>⟨U2,G2,VI.trans a2,e⟩
   |ct=>exact λY2 H2 G2 a2=>⟨U2,G2,VI.trans a2,e⟩
   |bk=>cases e;exact λY2 H2 G2 a2=>hk Y2 H2 G2 (VI.trans a2)
   |rt v=>cases e;exact hk.pre VI
   |ex x=>cases e;exact hk
def A2{lo:Int}:(gD lo ds).length=ds.length:=by unfold gD;simp
def BV{lo:Int}{i:Nat}(h:ds[i]?=some d):(gD lo ds)[i]?=some (.t [.int (lo+(i:Int)),d]):=by
 have hl:i<ds.length:=(LD.mp h).1;unfold gD;rw[IK,List.getElem?_range hl,jE,oq,h];rfl
def wy(hg:G p=none)(h:iA K G d y):iA K (sA G p (.t [.int i,y])) (.t [.int i,d]) (.ref p):=by
 simp only[iA];exact⟨p,_,rfl,OC.of eC,nA.cons (by simp[iA]) (nA.cons (iA.mono (Sm.laid hg) d h) nA.nil)⟩
def iKa(hk:eH K U0 Y0 H0 G0 Uf D0 fl)(h:sR K P C W one tg cb U0 Y0 H0 G0 fl Uf ds ds.length Y H):D0.nx Y H:=by
 obtain⟨U,G,a,e⟩:=h;rw[Va] at e;simp only[dE,WB,SD] at e;obtain⟨rfl,rfl⟩:=e;exact hk Y H G a
def Src(K:fA)(U:Env)(Y:St)(H G:Hp)(a:eA)(vs:List V):Prop:=DB K G a vs\/(H a=some (.l vs)/\G a=none/\¬xA U Y a)
def kc(K:fA)(U0:Env)(Y0:St)(H1 G2:Hp)(ds:List D)(J:It):Prop:=∀i H' Uc Y' Gc,NB K U0 Y0 H1 G2 Uc Y' H' Gc->(i=ds.length->J.stop i H')/\(i<ds.length->J.go i H')/\∀d x H2,ds[i]?=some d->J.vY i H' x H2->∃Gd,AA K Uc Y' H' Gc Uc H2 Gd/\iA K Gd d x
def bM(K:fA)(U:Env)(Y:St)(H1 G1:Hp)(ds:List D)(J:It):Prop:=∀{U0:Env} {Y0:St} {G2:Hp},ZA G1 G2->(∀c,xA U0 Y0 c->xA U Y c)->kc K U0 Y0 H1 G2 ds J
section
variable{U U0 Uc:Env}{Y Y0 Y':St}{H1 G1 G2 H' Gc:Hp}{ds:List D}{a:eA}{vs:List V}
def Src.at(h:Src K U Y H1 G1 a vs)(OG:ZA G1 G2)(own:∀c,xA U0 Y0 c->xA U Y c)(af:NB K U0 Y0 H1 G2 Uc Y' H' Gc):DB K H' a vs:=by
 rcases h with h | ⟨h1,h2,h3⟩
 ·exact af.pA.sub.seq (af.ext.gg.seq (OG.seq h))
 ·exact DB.of (af.ext.hh a _ h1 λz=>h3 (own a z))
def OT(Q5:Src K U Y H1 G1 a vs)(hr:nA K G1 ds vs):bM K U Y H1 G1 ds (nZ K a):=by
 intro U0 Y0 G2 OG own i H' Uc Y' Gc af;have kJ:=Q5.at OG own af;refine⟨λhi=>⟨vs,kJ,by rw[hr.len];lia⟩,λhi=>?_,λd x H2 hd hy=>?_⟩
 ·obtain⟨x',h1,h2⟩:=hr.get (MD hi);exact⟨vs,x',kJ,h1⟩
 ·obtain⟨rfl,hy⟩:=hy;obtain⟨x',h1,h2⟩:=hr.get hd
  have:=hy vs kJ
  rw[h1] at this;cases this;exact⟨_,AA.refl af.pA,iA.mono af.ext.gg d (iA.mono OG d h2)⟩
def xp(ht:OC K G1 a vs)(hr:nA K G1 ds vs):bM K U Y H1 G1 ds (pZ K a):=by
 intro U0 Y0 G2 OG own i H' Uc Y' Gc af;have kJ:OC K H' a vs:=AL af.pA.sub (AL af.ext.gg (AL OG ht));refine⟨λhi=>⟨vs,kJ,by rw[hr.len];lia⟩,λhi=>?_,λd x H2 hd hy=>?_⟩
 ·obtain⟨x',h1,h2⟩:=hr.get (MD hi);exact⟨vs,x',kJ,h1⟩
 ·obtain⟨rfl,hy⟩:=hy;obtain⟨x',h1,h2⟩:=hr.get hd
  have:=hy vs kJ
  rw[h1] at this;cases this;exact⟨_,AA.refl af.pA,iA.mono af.ext.gg d (iA.mono OG d h2)⟩
def qp{lo:Int}{n:Nat}:bM K U Y H1 G1 ((KC n).map λ(j:Nat)=>D.int (lo+(j:Int))) (rR lo n):=by
 intro U0 Y0 G2 OG own i H' Uc Y' Gc af;rw[YA,ir];refine⟨λhi=>by show n<=i;lia,λhi=>hi,λd x H2 hd hy=>?_⟩;obtain⟨rfl,rfl⟩:=hy;rw[IK] at hd;obtain⟨j,hj,rfl⟩:=GK.mp hd;obtain⟨hl,rfl⟩:=LD.mp hj;exact⟨_,AA.refl af.pA,by simp[iA]⟩
def tY{lo:Int}(Q5:Src K U Y H1 G1 a vs)(hr:nA K G1 ds vs):bM K U Y H1 G1 (gD lo ds) (mZ K a lo):=by
 intro U0 Y0 G2 OG own i H' Uc Y' Gc af;have kJ:=Q5.at OG own af;rw[A2];refine⟨λhi=>⟨vs,kJ,by rw[hr.len];lia⟩,λhi=>?_,λd x H2 hd hy=>?_⟩
 ·obtain⟨x',h1,h2⟩:=hr.get (MD hi);exact⟨vs,x',kJ,h1⟩
 ·obtain⟨p0,y0,hn,rfl,rfl,hy⟩:=hy;have hl:i<ds.length:=by rw[<- A2 (lo:=lo)];exact(LD.mp hd).1
  obtain⟨x',h1,h2⟩:=hr.get (MD hl);have hy:=hy vs kJ;rw[h1] at hy;cases hy;rw[BV (MD hl)] at hd;cases hd;exact⟨_,(AA.refl af.pA).rL hn,wy (ZA.free af.pA.sub hn) (iA.mono af.ext.gg _ (iA.mono OG _ h2))⟩
def p2a{x:bA}(IA:jC x=true):bM K U Y H1 G1 (vK x) (oZ x):=by
 intro U0 Y0 G2 OG own i H' Uc Y' Gc af;rw[show(vK x).length=x.cps.size by simp[vK]];refine⟨λhi=>by show x.cps.size<=i;lia,λhi=>hi,λd v H2 hd hy=>?_⟩;obtain⟨rfl,c,hc,rfl⟩:=hy;unfold vK at hd;rw[IK,Dq,hc] at hd;cases hd;refine⟨_,AA.refl af.pA, ?_⟩;simp only[iA];refine⟨trivial, ?_⟩;unfold jC at IA ⊢
 have:=jr.mp IA i (GQ.mp hc).1
 rw[(GQ.mp hc).2] at this;simpa using this
end
def SI(K:fA)(P:SA)(C:Calls)(k0:WE)(gA:List E)(Y:St)(H:Hp)(R:It->Hp->Prop):Prop:=∃(U:Env) (G:Hp) (hs:List Hd) (U1:Env) (ds:List D) (o:Option Nat),CA K U Y H G/\VB P C gA U=some (.ok hs,U1)/\aAb k0 hs U1=some (ds,o) /\
 ∀H1 G1,AA K U Y H G U1 H1 G1->(∀i,o=some i->∃d p l,U1[i]?=some (.ow d p l))->∀J,bM K (aAd o U1) Y H1 G1 ds J->R J H1
def M_(po:YM (model X.prog X.w) X.A X.env X.xe)(xo:KA X K P C Z){tg it:vA}{body:List WA}{pos:BC}{one:Bool}{is:List Nat}{k0:WE}{gA:List E}{cb:List S}{wi:TI}(hg:PG X tg (gB K one is))(hb:LC X body (IF K P C W cb))
  (hs:∀x,GJ it X.env x=pure x) (hi:PI X tg it wi)
  (hw:∀Y H (R:It->Hp->Prop),SI K P C k0 gA Y H R->wi Y H R) :
  PS X (.For tg it body [] pos) (tS K P C W (.for is one k0 gA cb)):=by
 refine TS.HE (Ak po xo.calm hi hg hb hs) λD Y H hz=>?_
 obtain⟨U,G,fl,U',r,e,k⟩:=hz;obtain⟨hs,U1,e1,e2⟩:=YJ e k.ne
 cases q:aAb k0 hs U1 with
 |none=>rw[q] at e2;cases e2
 |some y =>
  obtain⟨ds,o⟩:=y;rw[q] at e2;simp only at e2
  cases q2:dE (bB one is) (MA P C W cb) ds (aAd o U1) with
  |none=>rw[q2] at e2;cases e2
  |some y =>
   obtain⟨qP,Uf⟩:=y;rw[q2] at e2;simp only[Run.restore] at e2
   cases q3:aAl o U1 Uf with
   |none=>rw[q3] at e2;cases e2
   |some U2 =>
    rw[q3] at e2;cases e2;refine hw Y H _ ⟨U,G,hs,U1,ds,o,r,e1,q,λH1 G1 a1 ho J wj=>?_⟩;have k1:eH K (aAd o U1) Y H1 G1 Uf D fl:=eH.restore a1.pA ho q3 (k.pre (AA.s r a1));refine⟨λi m Y2 H2=>m=ds.length-i/\i<=ds.length/\sR K P C W one is cb (aAd o U1) Y H1 G1 fl Uf ds i Y2 H2,⟨_,rfl,UQ _,aAd o U1,G1,NB.refl (zT a1.pA).1,q2⟩, ?_⟩
    rintro i m Y2 H2 ⟨rfl,hi,hp⟩
    obtain⟨U2,G2,b,e2⟩:=id hp;obtain⟨j1,j2,j3⟩:=wj (ZA.refl _) (λ_ h=>h) i H2 U2 Y2 G2 b;by_cases TC:i<ds.length
    ·refine .inr ⟨j2 TC,sR K P C W one is cb (aAd o U1) Y H1 G1 fl Uf ds (i+1),λY' H' p'=>⟨ds.length-(i+1),by lia,rfl,TC,p'⟩,λx H' y=>?_⟩;obtain⟨Gd,af,rp⟩:=j3 _ x H' (MD TC) y;exact jKa k1 (MD TC) ⟨U2,Gd,b.trans (AA.s b.pA af),rp,e2⟩
    ·obtain rfl:i=ds.length:=by lia
     exact .inl ⟨j1 rfl,iKa k1 hp⟩
end
section
variable{X:Cx}{K:fA}
def PI.or(h:PI X tg it w)(h':PI X tg it w'):PI X tg it (λY H R=>w Y H R\/w' Y H R):=λaA s Y H R I q=>by
 rcases q with q | q
 ·exact h aA s Y H R I q
 ·exact h' aA s Y H R I q
def MR(e:VB P C [c] U=some (.ok hs,U1)):∃h,hs=[h]/\hd c (ev P C false c U) U=some (.ok h,U1):=by
 rw[VB] at e;obtain⟨h,U2,e1,e2⟩:=mB e;rw[VB] at e2;simp only[uA.bind] at e2;cases e2;exact⟨h,rfl,e1⟩
def Gj(hK:X.K=K)(Y:St)(H:Hp)(R:It->Hp->Prop)(q:SI K P C .of [c] Y H R) :
  U5 X.K (tH K P C c) Y H R\/V5 X.K (tH K P C c) Y H R:=by
 obtain⟨U,G,hs,U1,ds,o,r,e,ei,k⟩:=q;obtain⟨h,rfl,e1⟩:=MR e;rw[hK]
 induction h using Hd.casesOn with
 |slot i =>
  (unfold aAb at ei;dsimp only at ei)
  split at ei
  ·rename_i LG p l hi;cases ei;refine .inl ⟨U,G,.slot i,U1,r,e1,λx H1 G1 a1 hx=>?_⟩;have hx:Y[i]?=some (some x):=hx;obtain⟨b,h1,g,vs,hv,hr⟩:=a1.pA.ow i _ _ _ hi;rw[hx] at h1;cases h1;exact⟨b,rfl,⟨vs,DB.of hv⟩,k H1 G1 a1 (λj z=>by cases z;exact⟨_,_,_,hi⟩) _ (OT (.inr ⟨hv,g,a1.pA.FQ hi hx⟩) hr)⟩
  ·rename_i LG hi;cases ei;refine .inl ⟨U,G,.slot i,U1,r,e1,λx H1 G1 a1 hx=>?_⟩;have hx:Y[i]?=some (some x):=hx;obtain⟨v,h1,h2⟩:=a1.pA.sh i _ hi;rw[hx] at h1;cases h1;simp only[iA] at h2;obtain⟨b,vs,rfl,h3,h4⟩:=h2;exact⟨b,rfl,⟨vs,a1.pA.sub.seq h3⟩,k H1 G1 a1 (λj z=>by cases z) _ (OT (.inl h3) h4)⟩
  ·rename_i LG hi;cases ei;refine .inr ⟨U,G,.slot i,U1,r,e1,λx H1 G1 a1 hx=>?_⟩;have hx:Y[i]?=some (some x):=hx;obtain⟨v,h1,h2⟩:=a1.pA.sh i _ hi;rw[hx] at h1;cases h1;simp only[iA] at h2;obtain⟨b,vs,rfl,h3,h4⟩:=h2;exact⟨b,rfl,⟨vs,AL a1.pA.sub h3⟩,k H1 G1 a1 (λj z=>by cases z) _ (xp h3 h4)⟩
  ·cases ei
 |val v =>
  (unfold aAb at ei;dsimp only at ei)
  split at ei
  ·rename_i LG hd;cases ei;refine .inl ⟨U,G,.val v,U1,r,e1,λx H1 G1 a1 hx=>?_⟩
   induction v using RV.casesOn with
   |sh d =>
    simp only[RV.d] at hd;subst hd;have hx:iA K G1 (.l ds) x:=hx;simp only[iA] at hx;obtain⟨b,vs,rfl,h3,h4⟩:=hx;exact⟨b,rfl,⟨vs,a1.pA.sub.seq h3⟩,k H1 G1 a1 (λj z=>by cases z) _ (OT (.inl h3) h4)⟩
   |ow d =>
    simp only[RV.d] at hd;subst hd;obtain⟨b,rfl,g,⟨vs,hv,hr⟩,n,m⟩:=hx;exact⟨b,rfl,⟨vs,DB.of hv⟩,k H1 G1 a1 (λj z=>by cases z) _ (OT (.inr ⟨hv,g,n⟩) hr)⟩
   |od d=>exact hx.elim
  ·rename_i LG hd;cases ei;refine .inr ⟨U,G,.val v,U1,r,e1,λx H1 G1 a1 hx=>?_⟩
   induction v using RV.casesOn with
   |sh d =>
    simp only[RV.d] at hd;subst hd;have hx:iA K G1 (.t ds) x:=hx;simp only[iA] at hx;obtain⟨b,vs,rfl,h3,h4⟩:=hx;exact⟨b,rfl,⟨vs,AL a1.pA.sub h3⟩,k H1 G1 a1 (λj z=>by cases z) _ (xp h3 h4)⟩
   |ow d =>
    simp only[RV.d] at hd;subst hd;obtain⟨b,rfl,g,o,n,m⟩:=hx;exact o.elim
   |od d=>exact hx.elim
  ·cases ei
def Dl(Y:St)(H:Hp)(R:It->Hp->Prop)(q:SI K P C .eE [c] Y H R) :
  wg (sH K P C [c]) Y H R:=by
 obtain⟨U,G,hs,U1,ds,o,r,e,ei,k⟩:=q;refine⟨U,G,hs,U1,r,e,λxs H1 G1 a1 hx=>?_⟩;obtain⟨h,rfl,e1⟩:=MR e;obtain⟨x,r',rfl,h1,h2,_⟩:=hx;cases (show r'=[] from h2)
 (unfold aAb at ei;dsimp only at ei)
 split at ei
 ·rename_i n hn;split at ei
  ·rename_i hb;cases ei;cases (h1.read a1.pA hn).int;refine⟨n,rfl,by lia,by lia,k H1 G1 a1 (λj z=>by cases z) _ ?_⟩;rw[show(λ(j:Nat)=>D.int (j:Int))=λ(j:Nat)=>D.int (0+(j:Int)) from funext λj=>by rw[Int.zero_add]];exact qp
  ·cases ei
 ·cases ei
def El(Y:St)(H:Hp)(R:It->Hp->Prop)(q:SI K P C .eE [c,c2] Y H R) :
  xg (sH K P C [c,c2]) Y H R:=by
 obtain⟨U,G,hs,U1,ds,o,r,e,ei,k⟩:=q;refine⟨U,G,hs,U1,r,e,λxs H1 G1 a1 hx=>?_⟩;rw[VB] at e;obtain⟨h,U2,e1,e2⟩:=mB e;obtain⟨O5,U3,e3,e4⟩:=mB e2;obtain⟨h',rfl,e5⟩:=MR e3;cases e4;obtain⟨x,r',rfl,h1,h2,_⟩:=hx;obtain⟨y,r'',rfl,h3,h4,_⟩:=h2;cases (show r''=[] from h4)
 (unfold aAb at ei;dsimp only at ei)
 split at ei
 ·rename_i m n hm hn;split at ei
  ·rename_i hb;cases ei;cases (h1.read a1.pA hm).int;cases (h3.read a1.pA hn).int;exact⟨m,n,rfl,by lia,k H1 G1 a1 (λj z=>by cases z) _ qp⟩
  ·cases ei
 ·cases ei
def B2(hK:X.K=K){lo:Int}(Y:St)(H:Hp)(R:It->Hp->Prop)(q:SI K P C (.enum lo) [c] Y H R) :
  T5 X.K lo (sH K P C [c]) Y H R:=by
 obtain⟨U,G,hs,U1,ds,o,r,e,ei,k⟩:=q;rw[hK];refine⟨U,G,hs,U1,r,e,λxs H1 G1 a1 nL=>?_⟩;obtain⟨h,rfl,e1⟩:=MR e;obtain⟨x,r',rfl,hx,h2,_⟩:=nL;cases (show r'=[] from h2)
 induction h using Hd.casesOn with
 |slot i =>
  (unfold aAb at ei;dsimp only at ei)
  have hx:Y[i]?=some (some x):=hx;split at ei
  ·rename_i LG p l hi;cases ei;obtain⟨b,h1,g,vs,hv,hr⟩:=a1.pA.ow i _ _ _ hi;rw[hx] at h1;cases h1;exact⟨b,rfl,⟨vs,DB.of hv⟩,k H1 G1 a1 (λj z=>by cases z;exact⟨_,_,_,hi⟩) _ (tY (.inr ⟨hv,g,a1.pA.FQ hi hx⟩) hr)⟩
  ·rename_i LG hi;cases ei;obtain⟨v,h1,h2⟩:=a1.pA.sh i _ hi;rw[hx] at h1;cases h1;simp only[iA] at h2;obtain⟨b,vs,rfl,h3,h4⟩:=h2;exact⟨b,rfl,⟨vs,a1.pA.sub.seq h3⟩,k H1 G1 a1 (λj z=>by cases z) _ (tY (.inl h3) h4)⟩
  ·cases ei
 |val v =>
  (unfold aAb at ei;dsimp only at ei)
  split at ei
  ·rename_i LG hd;cases ei
   induction v using RV.casesOn with
   |sh d =>
    simp only[RV.d] at hd;subst hd;have hx:iA K G1 (.l LG) x:=hx;simp only[iA] at hx;obtain⟨b,vs,rfl,h3,h4⟩:=hx;exact⟨b,rfl,⟨vs,a1.pA.sub.seq h3⟩,k H1 G1 a1 (λj z=>by cases z) _ (tY (.inl h3) h4)⟩
   |ow d =>
    simp only[RV.d] at hd;subst hd;obtain⟨b,rfl,g,⟨vs,hv,hr⟩,n,m⟩:=hx;exact⟨b,rfl,⟨vs,DB.of hv⟩,k H1 G1 a1 (λj z=>by cases z) _ (tY (.inr ⟨hv,g,n⟩) hr)⟩
   |od d=>exact hx.elim
  ·cases ei
def X3(h:tX e=true)(env:DK):∀x,GJ e env x=pure x:=λx=>by
 cases e<;>first | rfl | cases h
def u9(xo:KA X K P C Z)(TB:kI X Z){tg:vA}{one:Bool}{is:List Nat}(h:uH Z tg=some (one,is)):PG X tg (gB K one is):=by
 cases tg<;>simp only[uH,reduceCtorEq] at h
 ·rename_i x pos
  cases q:Z.tF x with
  |none=>rw[q] at h;cases h
  |some i=>rw[q] at h;cases h;exact eSa (U8 xo TB q)
 ·rename_i es k0 pos
  cases q:wK Z es with
  |none=>rw[q] at h;cases h
  |some Lg =>
   rw[q] at h;cases h;obtain⟨h1,h2,h3,h4⟩:=p9 xo TB q;exact dk xo h1 h2 h3
end
section
variable{K:fA}{Y Y':St}{H G H' G':Hp}
def WS(h:(as++FC n Sl.un)[i]?=some s):(as[i]?=some s)\/(as.length<=i/\s=.un):=by
 by_cases hl:i<as.length
 ·rw[aN hl] at h;exact .inl h
 ·rw[ZT (by lia),T9] at h;split at h
  ·cases h;exact .inr ⟨by lia,rfl⟩
  ·cases h
def pT(h:i<vs.length):(L2.start N vs)[i]?=(vs.map some)[i]?:=by
 unfold L2.start;rw[aN (by rw[YA];exact h)]
def CA.pad(r:CA K as (vs.map some) H G)(hn:N.length=as.length+n):CA K (as++FC n .un) (L2.start N vs) H G/\∀a,xA (as++FC n .un) (L2.start N vs) a->xA as (vs.map some) a:=by
 have hl:as.length=vs.length:=by have:=r.len;rwa[YA] at this
 have st:∀i:Nat,i<as.length->(L2.start N vs)[i]?=(vs.map some)[i]?:=λi h=>pT (by lia)
 have lt:∀{i:Nat} {s:Sl},as[i]?=some s->i<as.length:=λh=>(LD.mp h).1
 refine⟨⟨by unfold L2.start;simp;lia,r.sub,λi d h=>?_,λi d p l h=>?_,λi j d p l d' p' l' a h1 h2 h3 h4=>?_⟩,λa ⟨i,d,p,l,h1,h2⟩=>?_⟩
 ·rcases WS h with h | ⟨_,h⟩
  ·rw[st i (lt h)];exact r.sh i d h
  ·cases h
 ·rcases WS h with h | ⟨_,h⟩
  ·rw[st i (lt h)];exact r.ow i d p l h
  ·cases h
 ·rcases WS h1 with h1 | ⟨_,h1⟩
  ·rcases WS h2 with h2 | ⟨_,h2⟩
   ·rw[st i (lt h1)] at h3;rw[st j (lt h2)] at h4;exact r.inj _ _ _ _ _ _ _ _ _ h1 h2 h3 h4
   ·cases h2
  ·cases h1
 ·rcases WS h1 with h1 | ⟨_,h1⟩
  ·rw[st i (lt h1)] at h2;exact⟨i,d,p,l,h1,h2⟩
  ·cases h1
theorem DR:∀{as:List Sl} {U:Env} (i:Nat),as.length<=U.length->(back as U)[i]?=(as[i]?).bind λa=>match a with | .ow _ _ _=>U[i]? | a=>some a
 |[],U,i,_=>by cases U<;>rfl
 |a::as,[],i,h=>by simp at h
 |a::as,b::U,i,h=>by
  have ih:=λj=>DR (as:=as) (U:=U) j (by simpa using h)
  cases i with
  |zero=>cases a<;>rfl
  |succ i=>cases a<;>exact ih i
def aV(r:CA K as (vs.map some) H G)(hp:as.all oK=true)(hn:N.length=as.length+n)
  (a:NB K (as++FC n .un) (L2.start N vs) H G U' Y' H' G'):AA K as (vs.map some) H G (back as U') H' G'/\∀c,xA (back as U') (vs.map some) c->xA U' Y' c:=by
 have hl:as.length=vs.length:=by have:=r.len;rwa[YA] at this
 have lt:∀{i:Nat} {s:Sl},as[i]?=some s->i<as.length:=λh=>(LD.mp h).1
 have st:∀i:Nat,i<as.length->(L2.start N vs)[i]?=(vs.map some)[i]?:=λi h=>pT (by lia)
 have cC:as.length<=U'.length:=by rw[a.len,iF];lia
 have Ru:∀{i:Nat} {s:Sl},as[i]?=some s->(as++FC n .un)[i]?=some s:=λh=>by rw[aN (lt h)];exact h
 have pin:∀(i:Nat) d p l,as[i]?=some (.ow d p l)->p=true/\Y'[i]?=(vs.map some)[i]?/\∃d',U'[i]?=some (.ow d' true l):=λi d p l h=>by(have h1:=jF.mp hp _ (OL h);simp only[oK] at h1;subst h1;obtain⟨h2,d',h3⟩:=a.pin i d l (Ru h);exact⟨rfl,h2.trans (st i (lt h)),d',h3⟩)
 have zD:∀{i:Nat} {s:Sl},(back as U')[i]?=some s->(∃d d' l,as[i]?=some (.ow d true l)/\s=.ow d' true l/\U'[i]?=some s/\Y'[i]?=(vs.map some)[i]?)\/(as[i]?=some s/\∀d p l,s≠.ow d p l):=λ{i s} h=>by
  rw[DR i cC] at h
  cases e:as[i]? with
  |none=>rw[e] at h;cases h
  |some b =>
   rw[e] at h
   cases b with
   |ow d p l =>
    obtain⟨rfl,h1,d',h2⟩:=pin i d p l e;simp only[oE] at h;rw[h2] at h;cases h;exact .inl ⟨d,d',l,rfl,rfl,h2,h1⟩
   |un=>cases h;exact .inr ⟨rfl,λd p l z=>nomatch z⟩
   |mv=>cases h;exact .inr ⟨rfl,λd p l z=>nomatch z⟩
   |sh d=>cases h;exact .inr ⟨rfl,λd p l z=>nomatch z⟩
 have Yv:(back as U').length=as.length:=by
  apply Nat.le_antisymm
  ·refine Ua λz=>?_
   have:=DR (U:=U') as.length cC
   rw[MD z,sO (JB _)] at this;cases this
  ·refine Ua λz=>?_
   have h1:=DR (U:=U') (back as U').length cC;rw[sO (JB _),MD z] at h1
   cases e:as[(back as U').length] with
   |ow d p l =>
    have e':as[(back as U').length]?=some (.ow d p l):=by rw[MD z,e]
    obtain⟨_,_,d',h2⟩:=pin _ d p l e';rw[e] at h1;simp only[oE] at h1;rw[h2] at h1;cases h1
   |un=>rw[e] at h1;cases h1
   |mv=>rw[e] at h1;cases h1
   |sh d=>rw[e] at h1;cases h1
 refine⟨⟨⟨by rw[Yv];exact r.len,a.pA.sub,λi d h=>?_,λi d p l h=>?_,λi j d p l d' p' l' c h1 h2 h3 h4=>?_⟩,a.ext.weaken λc z=>(r.pad hn).2 c z,λi=>?_⟩,λc ⟨i,d,p,l,h1,h2⟩=>?_⟩
 ·rcases zD h with ⟨_,_,_,_,z,_,_⟩ | ⟨z,_⟩
  ·cases z
  ·obtain⟨v,h1,h2⟩:=r.sh i d z;exact⟨v,h1,iA.mono a.ext.gg d h2⟩
 ·rcases zD h with ⟨d0,d',l',h1,h2,h3,h4⟩ | ⟨_,z⟩
  ·rw[<- h4];exact a.pA.ow i d p l h3
  ·exact absurd rfl (z d p l)
 ·rcases zD h1 with ⟨_,_,_,_,_,z3,z4⟩ | ⟨_,z⟩
  ·rcases zD h2 with ⟨_,_,_,_,_,w3,w4⟩ | ⟨_,w⟩
   ·rw[<- z4] at h3;rw[<- w4] at h4;exact a.pA.inj _ _ _ _ _ _ _ _ _ z3 w3 h3 h4
   ·exact absurd rfl (w _ _ _)
  ·exact absurd rfl (z _ _ _)
 ·rw[DR i cC]
  cases e:as[i]? with
  |none=>trivial
  |some b =>
   cases b with
   |ow d p l =>
    obtain⟨rfl,_,d',h2⟩:=pin i d p l e;simp only[oE];rw[h2];exact⟨rfl,rfl⟩
   |un=>trivial
   |mv=>trivial
   |sh d=>trivial
 ·rcases zD h1 with ⟨_,_,_,_,_,z3,z4⟩ | ⟨_,z⟩
  ·rw[<- z4] at h2;exact⟨i,d,p,l,z3,h2⟩
  ·exact absurd rfl (z _ _ _)
end
end CI
namespace L2
open PySem PySem.Spec PyProof.Rows
theorem aAp[BEq O][LawfulBEq O]:∀{l:List (O×N)} {x:O} {k:N},l.lookup x=some k->(x,k)∈l
 |[],x,k,h=>by simp at h
 | (y,k')::r,x,k,h=>by
  rw[LF] at h;split at h
  ·rename_i e;have e:=uB e;subst e;cases h;exact BE
  ·exact OD _ (aAp h)
def Bx(h:∀p∈scope.names,p.2=.free->∃c,env.cells.lookup p.1=some c) :
  ∃cl,closureFor scope env=pure cl/\(∀x c,cl.lookup x=some c->env.cells.lookup x=some c)/\∀p∈scope.names,p.2=.free->∃c,cl.lookup p.1=some c:=by
 have key:∀(names:List (bA×AJ)) (iB:List (bA×eA)),(∀p∈names,p.2=.free->∃c,env.cells.lookup p.1=some c)->(∀x c,iB.lookup x=some c->env.cells.lookup x=some c) ->
   ∃cl,(forIn names iB λ(p:bA×AJ) (cs:List (bA×eA))=>(if(p.2==NameKind.free)=true then do let a <- cellOf env p.1;pure (ForInStep.yield ((p.1,a)::cs)) else pure (ForInStep.yield cs):Sem _))=pure cl /\
    (∀x c,cl.lookup x=some c->env.cells.lookup x=some c)/\(∀p∈names,p.2=.free->∃c,cl.lookup p.1=some c)/\∀x c,iB.lookup x=some c->∃c',cl.lookup x=some c':=by
  intro names
  induction names with
  |nil=>intro iB _ h2;exact⟨iB,by simp,h2,λp hp=>(nomatch hp),λx c e=>⟨c,e⟩⟩
  |cons p r ih =>
   intro iB h1 h2;by_cases hp:p.2=.free
   ·obtain⟨c,hc⟩:=h1 p BE hp;have e:cellOf env p.1=pure c:=by unfold cellOf;rw[hc]
    obtain⟨cl,q1,q2,q3,q4⟩:=ih ((p.1,c)::iB) (λq hq=>h1 q (OD _ hq)) (λx c' z=>by
     rw[LF] at z;split at z
     ·rename_i w;rw[uB w,hc];exact z
     ·exact h2 x c' z)
    refine⟨cl, ?_,q2,λq hq hf=>?_,λx c' z=>?_⟩
    ·rw[Hr];have hb:(p.2==NameKind.free)=true:=by rw[hp];rfl
     rw[FA hb,e];simp only[pure_bind];exact q1
    ·rcases eD.mp hq with w | w
     ·subst w;exact q4 q.1 c (by rw[LF];simp)
     ·exact q3 q w hf
    ·by_cases w:x=p.1
     ·subst w;exact q4 p.1 c (by rw[LF];simp)
     ·refine q4 x c' ?_;rw[LF]
      have:(x==p.1)=false:=DJ.mpr w
      rw[this];exact z
   ·obtain⟨cl,q1,q2,q3,q4⟩:=ih iB (λq hq=>h1 q (OD _ hq)) h2;refine⟨cl, ?_,q2,λq hq hf=>?_,q4⟩
    ·rw[Hr];have hb:¬(p.2==NameKind.free)=true:=by simpa using hp
     rw[vB hb];simp only[pure_bind];exact q1
    ·rcases eD.mp hq with w | w
     ·subst w;exact absurd hf hp
     ·exact q3 q w hf
 obtain⟨cl,q1,q2,q3,_⟩:=key scope.names [] h (λx c e=>by simp at e);refine⟨cl, ?_,q2,q3⟩;unfold closureFor
 have:(forIn scope.names ([]:List (bA×eA)) λ(x:bA×AJ) (r:List (bA×eA))=>(match x with | (name,kind)=>if(kind==NameKind.free)=true then do let a <- cellOf env name;pure (ForInStep.yield ((name,a)::r)) else pure (ForInStep.yield r):Sem _))=pure cl:=q1
 simp only[this,pure_bind,bind_pure]
 first | rfl | (rw[this];rfl) | skip
theorem G8{env:DK}:∀{names:List (bA×AJ)} {x:bA} {k':AJ},
  (names.map λ(n,k)=>if(k==NameKind.free&&env.scope.kind==.function&&env.kindOf n==some .cell) then(n,NameKind.cell) else(n,k)).lookup x=some k'->∃k,names.lookup x=some k/\(k'=k\/(k=.free/\k'=.cell))
 |[],x,k',h=>by simp at h
 | (n,k)::r,x,k',h=>by
  have ih:=@G8 env r x k';have h':CG x ((if(k==NameKind.free&&env.scope.kind==.function&&env.kindOf n==some .cell)=true then(n,NameKind.cell) else(n,k))::(r.map λ(n,k)=>if(k==NameKind.free&&env.scope.kind==.function&&env.kindOf n==some .cell) then(n,NameKind.cell) else(n,k)))=some k':=h;by_cases hc:(k==NameKind.free&&env.scope.kind==.function&&env.kindOf n==some .cell)=true
  ·rw[FA hc] at h';rw[LF] at h' ⊢
   cases hx:x==n with
   |true=>rw[hx] at h';cases h';simp only[qA,vD] at hc;exact⟨k,rfl,.inr ⟨hc.1.1,rfl⟩⟩
   |false=>rw[hx] at h';exact ih h'
  ·rw[vB hc] at h';rw[LF] at h' ⊢
   cases hx:x==n with
   |true=>rw[hx] at h';cases h';exact⟨k,rfl,.inl rfl⟩
   |false=>rw[hx] at h';exact ih h'
theorem rl{env:DK}:∀{names:List (bA×AJ)} {x:bA},names.lookup x=some .free ->
  (names.map λ(n,k)=>if(k==NameKind.free&&env.scope.kind==.function&&env.kindOf n==some .cell) then(n,NameKind.cell) else(n,k)).lookup x=some .cell \/
  (names.map λ(n,k)=>if(k==NameKind.free&&env.scope.kind==.function&&env.kindOf n==some .cell) then(n,NameKind.cell) else(n,k)).lookup x=some .free
 |[],x,h=>by simp at h
 | (n,k)::r,x,h=>by
  have ih:=@rl env r x;show CG x ((if(k==NameKind.free&&env.scope.kind==.function&&env.kindOf n==some .cell)=true then(n,NameKind.cell) else(n,k))::_)=_\/CG x ((if(k==NameKind.free&&env.scope.kind==.function&&env.kindOf n==some .cell)=true then(n,NameKind.cell) else(n,k))::_)=_;rw[LF] at h;by_cases hc:(k==NameKind.free&&env.scope.kind==.function&&env.kindOf n==some .cell)=true
  ·rw[FA hc,LF]
   cases hx:x==n with
   |true=>exact .inl rfl
   |false=>rw[hx] at h;exact ih h
  ·rw[vB hc,LF]
   cases hx:x==n with
   |true=>rw[hx] at h;exact .inr h
   |false=>rw[hx] at h;exact ih h
theorem Hx(I:Nat->zA->Prop)
  (turn:∀n s,I n s->wA (model prog w) A (pyNext it) (λr s₁=>match r with
   |none=>R (.ok .next) s₁
   |some v=>wA (model prog w) A (letOwnedTupleGo target it v) (λ_ s₁=>wA (model prog w) A (assign target env v) (λ_ s₂ =>
     wA (model prog w) A (forIn DA true λc r=>if r=true then do let ok <- isTrue c env (eval c env);pure (ForInStep.yield ok) else pure (ForInStep.yield r)) (λok s₃ =>
      if ok=true then wA (model prog w) A (eval JA env) (λx s₄ =>
       wA (model prog w) A (call (.builtin "list.append") [iB,x]) (λ_ s₅=>∃m,m<n/\I m s₅) (notedBy (model prog w) A env λe s'=>R (.error e) s') s₄) (notedBy (model prog w) A env λe s'=>R (.error e) s') s₃
      else ∃m,m<n/\I m s₃) (notedBy (model prog w) A env λe s'=>R (.error e) s') s₂) (notedBy (model prog w) A env λe s'=>R (.error e) s') s₁) (notedBy (model prog w) A env λe s'=>R (.error e) s') s₁) (notedBy (model prog w) A env λe s'=>R (.error e) s') s)
  (n:Nat) (h:I n s):BJ (model prog w) A (.compLoop (.ListComp JA [⟨target,iter,DA,0⟩] scope pos) 0 it iB env) R s:=by
 refine codeAny_loop rfl I (λn s hI=>?_) n h;show wA _ A ((compTurn (.ListComp JA [⟨target,iter,DA,0⟩] scope pos) 0 it iB env).onRaise (λx=>do noteFrame x env;theTreesLotGoes x)) _ _ s;refine wpAny_noted ?_;rw[compTurn_list];refine BA (IL (BA (DE (turn n s hI) (λr s₁ h₁=>?_) λ_ _ h'=>h')))
 cases r with
 |none=>exact GB h₁
 |some v =>
  refine BA (DE h₁ (λ_ s₁' h₁'=>?_) λ_ _ h'=>h');refine BA (DE h₁' (λ_ s₂ h₂=>BA (DE h₂ (λok s₃ h₃=>?_) λ_ _ h'=>h')) λ_ _ h'=>h')
  cases ok with
  |false=>exact GB ⟨rfl,h₃⟩
  |true =>
   exact BA (BA (DE h₃ (λx s₄ h₄=>BA (DE h₄ (λ_ s₅ h₅=>GB (GB ⟨rfl,h₅⟩)) λ_ _ h'=>h')) λ_ _ h'=>h'))
def hV(X:Cx)(scope:kG)(cl:List (bA×eA))(C:eA)(N':List bA)(s₃:zA)(H₃:Hp)(fp:List eA)(xe:dA->zA->Prop):Cx :=
 { X with N:=N',s₀:=s₃,H₀:=H₃,env:=compEnvC scope cl C X.env,outer:=X.stack,stack:=X.stack,ex:=fp,fn:=λ_=>false,pn:=[],xe:=xe }
def pG(X:Cx)(scope:kG)(N':List bA)(X':Cx):Prop:=∃cl C s₃ H₃ fp xe,X'=hV X scope cl C N' s₃ H₃ fp xe
section
variable{s:zA}
def rZa{i:Nat}(h:(start N vs)[i]?=some (some v)):vs[i]?=some v:=by
 unfold start at h;by_cases hl:i<vs.length
 ·rw[aN (by rw[YA];exact hl),IK,MD hl] at h;rw[MD hl];simpa using h
 ·rw[ZT (by rw[YA];lia),T9] at h;split at h
  ·cases h
  ·cases h
def cA.block(I:cA X aA Y H s)
  (jJ:scope.kind=.function) (gJ:∀y∈scope.names,y.2≠.cell) (sub:∀x c,cl.lookup x=some c->X.env.cells.lookup x=some c) (mW:∀p∈scope.names,p.2=.free->∃c,cl.lookup p.1=some c)
  (iJ:∀p∈scope.names,p.2=.free->X.env.kindOf p.1=some .cell\/X.env.kindOf p.1=some .free)
  (hf:∀b∈fp,uC X aA H b) (hfo:∀b∈fp,b<s.heap.objs.size) (lg:vs.length<=N'.length)
  (himp:∀(i:Nat) x v,N'[i]?=some x->vs[i]?=some v->∃j:Nat,X.N[j]?=some x/\Y[j]?=some (some v)/\scope.names.lookup x=some .free)
  (m:bA->Option dA) (yI:h₄.Ns s.heap.objs.size m) (hsb:BK s.heap.objs.size (s.heap.push ob) h₄) :
  cA (hV X scope cl s.heap.objs.size N' s H fp xe) [] (start N' vs) H { s with heap:=h₄,toks:=tk }:=by
 have old:∀b o,s.heap.get? b=some o->h₄.get? b=some o:=λb o e=>(hsb.2 b (kE (rC e))).trans (NC _ e)
 have freeOf:∀x,(relabel scope X.env).names.lookup x=some .cell\/(relabel scope X.env).names.lookup x=some .free->scope.names.lookup x=some .free:=λx hx=>by
  rcases hx with hx | hx
  ·obtain⟨k,h1,h2⟩:=G8 (env:=X.env) hx;rcases h2 with h2 | ⟨h2,_⟩
   ·subst h2;exact absurd rfl (gJ _ (aAp h1))
   ·subst h2;exact h1
  ·obtain⟨k,h1,h2⟩:=G8 (env:=X.env) hx;rcases h2 with h2 | ⟨_,h2⟩
   ·subst h2;exact h1
   ·cases h2
 have ok:(hV X scope cl s.heap.objs.size N' s H fp xe).Ok:=by
  refine⟨I.ok.mod,jJ,I.ok.glob,I.ok.BB,JB _,λx y c h1 h2=>I.ok.inj x y c (sub x c h1) (sub y c h2),λx hx=>?_,λx c h=>(nomatch h),I.ok.hd,I.ok.frames,.inl rfl,λb hb=>⟨kE (hfo b hb),λx c e=>(hf b hb).2.2.2.2.1 x c (sub x c e)⟩,λb o e=>I.bs b o e,lD I.ok.nI I.sz,λb o e hb=>?_,λb hb z=>?_,I.stack,I.Z8⟩
  ·exact mW (x,.free) (aAp (freeOf x hx)) rfl
  ·rcases(hf b hb).2.2.2.1 with z | z
   ·exact I.ok.wL b o e z
   ·rw[(I.ok.bs b o e).1] at z;cases z
  ·rcases eD.mp (I.fY b z) with z | z
   ·exact(hf b hb).2.1 z
   ·exact(hf b hb).2.2.1 z
 refine⟨ok,rfl,I.bare,Un.kept old,⟨m,yI,λi x v e1 e2 e3=>?_⟩,λx c e=>?_,I.IA.fresh (JB _),λx c e=>I.aF x c (sub x c e),λp hp=>(nomatch hp),I.IA.kept old, ?_⟩
 ·obtain⟨j,h1,h2,h3⟩:=himp i x v e1 (rZa e2);have hk:=iJ (x,.free) (aAp h3) rfl;obtain⟨m0,xW,hl⟩:=I.loc;obtain⟨u,r,lk⟩:=hl j x v h1 h2 (.inr hk);refine⟨u,r, ?_⟩;rcases lk with ⟨k,_⟩ | ⟨k,c,e,z⟩
  ·rcases hk with hk | hk
   ·rw[hk] at k;cases k
   ·rw[hk] at k;cases k
  ·obtain⟨c',PH⟩:=mW (x,.free) (aAp h3) rfl;have ec:=sub x c' PH;rw[e] at ec;cases ec;obtain⟨o,ho,hd⟩:=z;exact .inr ⟨rl (env:=X.env) h3,c,PH,o,old c o ho,hd⟩
 ·obtain⟨v,o,ho,hd⟩:=I.cell x c (sub x c e);exact⟨v,o,old c o ho,hd⟩
 ·show(start N' vs).length=N'.length;unfold start;simp
  lia
def MJ(X:Cx)(DA:List vA)(t:TT):Prop:=∀(aA:List (eA×rB)) (s:zA) (Y:St) (H:Hp) (Q:Bool->Hp->Prop),cA X aA Y H s->t Y H Q ->
 wA (model X.prog X.w) X.A (forIn DA true λc r=>if r=true then do let ok <- isTrue c X.env (eval c X.env);pure (ForInStep.yield ok) else pure (ForInStep.yield r)) (TP X aA Y Q) X.xe s
def uUa:MJ X [] (λY H Q=>Q true H):=λaA s Y H Q I h=>wpAny_tests_nil ⟨H,I,h⟩
def vUa(h:PT X c t):MJ X [c] t:=λaA s Y H Q I q=>wpAny_tests_one (h aA s Y H Q I q)
def k9(N:List bA)(scope:kG)(N':List bA)(g:TG)(tt:TT)(te:TE)(Y:St)(Q:VK)(J:It)(H1:Hp):Prop:=∃vs:List V,vs.length<=N'.length /\
 (∀(i:Nat) x v,N'[i]?=some x->vs[i]?=some v->∃j:Nat,N[j]?=some x/\Y[j]?=some (some v)/\scope.names.lookup x=some .free) /\
 ∀D,H1 D=none->∃(n:Nat) (LP:Nat->St->Hp->Prop),LP 0 (start N' vs) (sA H1 D (.l []))/\∀i Y' H',LP i Y' H' ->
  (J.stop i H'/\Q (.ref D) H')\/(i<n/\J.go i H'/\∀x H2,J.vY i H' x H2->g x Y' H2 λY2 H3=>tt Y2 H3 λb H4 =>
   if b=true then te Y2 H4 λy H5=>∃ys,H5 D=some (.l ys)/\ys.length<sizeLine/\LP (i+1) Y2 (sA H5 D (.l (ys++[y]))) else LP (i+1) Y2 H4)
def CQ(N:List bA)(scope:kG)(N':List bA)(wi:TI)(g:TG)(tt:TT)(te:TE):TE:=λY H Q=>wi Y H (k9 N scope N' g tt te Y Q)
def Od(hc:X.calm=true)(hi:PI X tg iter wi)(hs:∀x,GJ iter X.env x=pure x)
  (jJ:scope.kind=.function) (gJ:∀y∈scope.names,y.2≠.cell) (fS:∀x∈scope.names,x.2=.local->scope.names.lookup x.1=some .local)
  (iJ:∀p∈scope.names,p.2=.free->X.env.kindOf p.1=some .cell\/X.env.kindOf p.1=some .free)
  (hg:∀X',pG X scope N' X'->PG X' tg g) (ht:∀X',pG X scope N' X'->MJ X' DA tt) (he:∀X',pG X scope N' X'->PE X' JA te) (I:cA X aA Y H s) (h:CQ X.N scope N' wi g tt te Y H Q)
  (fin:∀(D C:eA) (H':Hp) (s':zA),cA X aA Y H' s'->Q (.ref D) H'->H' C=none->X.s₀.heap.objs.size<=C->C≠X.env.locals->(∀x c,X.env.cells.lookup x=some c->c≠C)->(∀p∈X.pn++aA,p.1≠C)->(∃m,s'.heap.Ns C m) ->
   compPost (model X.prog X.w) X.A X.xe use QF (.ref D) C (.ok .next) s') :
  wA (model X.prog X.w) X.A (comprehension (.ListComp JA [⟨tg,iter,DA,0⟩] scope pos) scope X.env ps (newList []) false (eval iter X.env) use) QF X.xe s:=by
 obtain⟨cl,uAa,sub,mW⟩:=Bx (env:=X.env) λp hp hf=>I.ok.has p.1 (iJ p hp hf)
 refine wpAny_comprehension_free rfl hs uAa jJ fS (RA (hi aA s Y H _ I h) λv s1 h1=>RA h1 λM6 s2 h2=>?_);obtain⟨it,fp,tn,J,H2,e,I2,T,eY,f2,vs,lg,himp,hD⟩:=h2;subst e
 have bf:∀b∈fp,b<s2.heap.objs.size:=λb hb=>by(obtain⟨o,e,_⟩:=T.obj _ _ eY b hb;exact rC e)
 refine KQ (wpAny_newFunctionEnv gJ (by intro y hy;simp at hy) (λh₁ hns₁ hsb₁=>?_) jJ);dsimp only at hns₁ hsb₁ ⊢;have I3:cA X aA Y (sA H2 s2.heap.objs.size (.l [])) { s2 with heap:=s2.heap.push { cls:=.type "list",dict:=none,data:=.seq ([]:List dA).toArray } }:=I2.Ji (gA:=[]) (t':=s2.toks) .nil (UQ _);obtain⟨n,LP,l0,turn⟩:=hD s2.heap.objs.size I2.fresh;generalize bg:({ s2 with heap:=s2.heap.push { cls:=.type "list",dict:=none,data:=.seq ([]:List dA).toArray } }:zA)=s3 at I3;have V4:s3.heap=s2.heap.push { cls:=.type "list",dict:=none,data:=.seq ([]:List dA).toArray }:=by rw[<- bg]
 rw[<- V4] at hns₁ hsb₁ ⊢;have f3:∀b∈fp,uC X aA (sA H2 s2.heap.objs.size (.l [])) b:=λb hb=>⟨by rw[dB (kE (bf b hb))];exact(f2 b hb).1,(f2 b hb).2⟩
 have cf:∀b∈fp,b<s3.heap.objs.size:=λb hb=>by rw[V4,XY];exact Nat.lt_succ_of_lt (bf b hb)
 let R:Result->zA->Prop:=compPost (model X.prog X.w) X.A X.xe use QF (.ref s2.heap.objs.size) s3.heap.objs.size
 let X':Cx:=hV X scope cl s3.heap.objs.size N' s3 (sA H2 s2.heap.objs.size (.l [])) fp (notedBy (model X.prog X.w) X.A (compEnvC scope cl s3.heap.objs.size X.env) λe s'=>R (.error e) s')
 have L4:pG X scope N' X':=⟨_,_,_,_,_,_,rfl⟩
 have I4:∀tk,cA X' [] (start N' vs) (sA H2 s2.heap.objs.size (.l [])) { s3 with heap:=h₁,toks:=tk }:=λtk=>I3.block jJ gJ sub mW iJ f3 cf lg himp _ hns₁ hsb₁
 have old:∀b o,s3.heap.get? b=some o->h₁.get? b=some o:=λb o e=>(hsb₁.2 b (kE (rC e))).trans (NC _ e)
 have wm:tn 0 h₁:=T.keep _ _ _ eY λb hb o e=>old b o (by rw[V4];exact NC _ e)
 have nO:∀{H':Hp},(∀b∈fp,H' b=none)->∀b∈fp,uC X' [] H' b:=λhn b hb=>⟨hn b hb,kE (cf b hb),λz=>by
  rcases eD.mp (I3.fY b z) with z | z
  ·exact(f2 b hb).2.1 z
  ·exact(f2 b hb).2.2.1 z,.inl hb,λx c e=>(f2 b hb).2.2.2.2.1 x c (sub x c e),λp hp=>(nomatch hp)⟩
 have loop:∀tk,BJ (model X.prog X.w) X.A (.compLoop (.ListComp JA [⟨tg,iter,DA,0⟩] scope pos) 0 (.ref it) (.ref s2.heap.objs.size) (compEnvC scope cl s3.heap.objs.size X.env)) R { s3 with heap:=h₁,toks:=tk }:=by
  intro tk;refine Hx (λm s'=>∃i Y' H',m=n-i/\cA X' [] Y' H' s'/\tn i s'.heap/\(∀b∈fp,H' b=none)/\LP i Y' H') ?_ n ⟨0,_,_,by simp,I4 tk,wm,λb hb=>(f3 b hb).1,l0⟩
  rintro m s5 ⟨i,Y5,H5,rfl,I5,wQ,cW,w5⟩
  rcases turn i Y5 H5 w5 with ⟨stop,qn⟩ | ⟨Lf,go,step⟩
  ·refine RA (T.done X' rfl rfl rfl hc i [] s5 Y5 H5 _ I5 (nO cW) wQ stop) λr s6 hz=>?_
   obtain⟨hr,I6⟩:=hz;subst hr;obtain⟨m6,hn6,_⟩:=I6.loc;have IX:cA X aA Y H5 s6:=I3.Ad (s':=s6) (ch:=fp) I6.os I6.base I6.IA I6.bare λb hb=>⟨(f2 b hb).2.2.2.1,(f2 b hb).2.1,(f2 b hb).2.2.2.2.1,(f2 b hb).2.2.2.2.2⟩
   refine fin _ _ H5 s6 IX qn I6.free I3.sz (λz=>DO _ (iE I3.lt (ZY z))) (λx c e z=>?_) (λp hp z=>?_) ⟨m6,hn6⟩
   ·obtain⟨v,o,ho,hd⟩:=I3.cell x c e;rw[z] at ho;exact DO _ (rC ho)
   ·have:=(I3.pin p hp).1
    rw[z] at this;exact DO _ (rC this)
  ·refine RA (T.item X' rfl rfl rfl hc i [] s5 Y5 H5 _ I5 (nO cW) wQ go) λr s6 hz=>?_
   obtain⟨u,hr,h6⟩:=hz;subst hr;refine RA h6 λ_ s7 hz=>?_
   obtain⟨x,H7,I7,r7,y7,X8,O_⟩:=hz;have Js:=I7.pinned (nO O_) (T.obj _ _ X8)
   have again:∀{Y8:St} {H8:Hp} {s8:zA},cA X' ([]++ZS fp s7.heap) Y8 H8 s8->LP (i+1) Y8 H8->∃m,m<n-i/\∃i Y' H',m=n-i/\cA X' [] Y' H' s8/\tn i s8.heap/\(∀b∈fp,H' b=none)/\LP i Y' H':=λ{Y8 H8 s8} I8 w8=>by(refine⟨n-(i+1),by lia,i+1,Y8,H8,rfl,I8.sY,T.keep _ _ _ X8 λb hb o e=>(I8.pin (b,o) (CH _ (CH _ (hX hb e)))).1,λb hb=>?_,w8⟩;obtain⟨o,e,d⟩:=T.obj _ _ X8 b hb;exact(I8.pin (b,o) (CH _ (CH _ (hX hb e)))).2.1)
   refine RA (hg X' L4 _ s7 Y5 H7 x u _ Js r7 (step x H7 y7)) λ_ s8 hz=>?_
   obtain⟨Y8,H8,I8,q8⟩:=hz;refine RA (ht X' L4 _ s8 Y8 H8 _ I8 q8) λb s9 hz=>?_
   obtain⟨H9,I9,q9⟩:=hz
   cases b with
   |false=>exact again I9 q9
   |true =>
    refine RA (he X' L4 _ s9 Y8 H9 _ I9 q9) λy s10 hz=>?_
    obtain⟨yv,Es,Fs,r10,ys,hy,hz,q10⟩:=hz;refine RA (Zi (X:=X') _ s10 Y8 Es (.ref s2.heap.objs.size) [yv] (.ref s2.heap.objs.size) [y] (λ_ H'=>LP (i+1) Y8 H') Fs rfl (.cons r10 .nil) ⟨_,ys,yv,rfl,rfl,hy,hz,q10⟩) λ_ s11 hz=>?_
    obtain⟨_,H11,Gs,_,q11⟩:=hz;exact again Gs q11
 subst bg;exact codeAny_compStart_list (loop _) (T.self _ 0 _ _ _ wm (loop _))
def oRa(hc:X.calm=true)(hi:PI X tg iter wi)(hs:∀x,GJ iter X.env x=pure x)
  (jJ:scope.kind=.function) (gJ:∀y∈scope.names,y.2≠.cell) (fS:∀x∈scope.names,x.2=.local->scope.names.lookup x.1=some .local)
  (iJ:∀p∈scope.names,p.2=.free->X.env.kindOf p.1=some .cell\/X.env.kindOf p.1=some .free)
  (hg:∀X',pG X scope N' X'->PG X' tg g) (ht:∀X',pG X scope N' X'->MJ X' DA tt) (he:∀X',pG X scope N' X'->PE X' JA te) :
  PE X (.ListComp JA [⟨tg,iter,DA,0⟩] scope pos) (CQ X.N scope N' wi g tt te):=by
 intro aA s Y H Q I h;rw[eval_ListComp];refine Od (use:=none) (QF:=EP X aA Y Q) hc hi hs jJ gJ fS iJ hg ht he I h λD C H' s' I' q hC hz hL RC hp hm=>?_
 obtain⟨m,hm⟩:=hm;refine⟨m,hm,λh' sb=>⟨.ref D,H',I'.turned (t':=s'.toks) (λb o hb e=>(sb.2 b hb).trans e) hC hL (.inr (vO hz)) RC hp,rfl,q⟩⟩
def oTa(hsw:swapsWith (.ListComp JA [⟨tg,iter,DA,0⟩] scope pos) (some (.Name y py)) W8.line X.env=pure true)
  (hN:X.N.Nodup) (hy:X.N[i]?=some y) (hx:Loc X.env.scope y) (hf:X.fn y=true\/X.env.scope.names.lookup y=some .local) (hc:X.calm=true) (hi:PI X tg iter wi) (hs:∀x,GJ iter X.env x=pure x)
  (jJ:scope.kind=.function) (gJ:∀y∈scope.names,y.2≠.cell) (fS:∀x∈scope.names,x.2=.local->scope.names.lookup x.1=some .local)
  (iJ:∀p∈scope.names,p.2=.free->X.env.kindOf p.1=some .cell\/X.env.kindOf p.1=some .free)
  (hg:∀X',pG X scope N' X'->PG X' tg g) (ht:∀X',pG X scope N' X'->MJ X' DA tt) (he:∀X',pG X scope N' X'->PE X' JA te) :
  PS X (.Assign [.Name y py] (.ListComp JA [⟨tg,iter,DA,0⟩] scope pos) W8) (jY (CQ X.N scope N' wi g tt te) (zN i)):=by
 intro aA s Y H D0 I h;rw[exec_Assign_Name_used _ _ _ _ hsw];refine BA (IL (BA ?_));show wA _ X.A (do let _ <- comprehension (.ListComp JA [⟨tg,iter,DA,0⟩] scope pos) scope X.env _ (newList []) false (eval iter X.env) (some (assign (.Name y py) X.env))) _ _ s;refine BA (DE (Od (use:=some (assign (.Name y py) X.env)) (QF:=λ_ s'=>SP X aA D0 .next s') hc hi hs jJ gJ fS iJ hg ht he I h λD C H' s' I' q hC hz hL RC hp hm=>?_) (λ_ s' hq=>GB (GB hq)) λ_ _ e=>e);obtain⟨m,hm⟩:=hm;refine Xq (Jm I' hN hy hx (v:=.ref D) rfl (λs2 I2 hz=>?_) hf);obtain⟨a,sb,ha⟩:=hz
 have jD:a≠C:=by
  rcases ha with rfl | ha
  ·exact KD hL
  ·exact RC _ _ ha
 refine⟨m,hm.sameBut sb (KD jD),λh' sb2=>⟨_,H',I2.turned (t':=s2.toks) (λb o hb e=>(sb2.2 b hb).trans e) hC hL (.inr (vO hz)) RC hp,q⟩⟩
end
end L2
namespace CI
open PySem PySem.Spec PyProof.Rows L2
section
variable{X:Cx}{K:fA}{P:SA}{C:Calls}{Z:CC}
theorem KA.inner(xo:KA X K P C Z)(hk:X.env.scope.kind=.function)(nd:(aAt scope++aAs scope).Nodup)(b:pG X scope (Z.inner scope).N X'):KA X' K P C (Z.inner scope):=by
 obtain⟨cl,C0,s₃,H₃,fp,xe,rfl⟩:=b;refine KA.of xo.nC rfl ?_ nd xo.calm xo.hh xo.hu xo.c xo.BB (λx f h=>?_) (λx ns h=>?_) (λm tb c f h1 h2=>?_) xo.rm xo.sub xo.CD xo.BF ⟨xo.exc,λx h=>?_⟩ xo.MA ⟨λx f h=>?_,λx f h=>?_,λm tb c f h1 h2=>?_⟩ xo.tp
 ·show(relabel scope X.env).names=(Z.inner scope).names;unfold relabel CC.inner;simp only;congr 1
  funext p
  obtain⟨n,k⟩:=p;have e:X.env.kindOf n=Z.names.lookup n:=by unfold Wa;rw[xo.nm]
  simp only[hk,e];simp
 ·obtain⟨fa,fd,ps,k,h1,h2,h3,h4,h5⟩:=(xo.fn x f h).ex;exact⟨⟨fa,fd,ps,k,h1,h2,h3,h4,h5⟩⟩
 ·obtain⟨Ca,fa,fd,ps,h1,h2,h3,h4,h5,h6⟩:=(xo.cls x ns h).ex;exact⟨⟨Ca,fa,fd,ps,h1,h2,h3,h4,h5,h6⟩⟩
 ·obtain⟨Ca,fa,fd,ps,k,z1,z2,z3,z4,z5,z6⟩:=(xo.uE m tb c f h1 h2).ex;exact⟨⟨Ca,fa,fd,ps,k,z1,z2,z3,z4,z5,z6⟩⟩
 ·obtain⟨Ca,h1,h2,h3,h4,h5⟩:=(xo.NG x h).ex;exact⟨⟨Ca,h1,h2,h3,h4,h5⟩⟩
 ·obtain⟨fa,fd,ps,k,h1,h2,h3,h4,h5⟩:=(xo.fnX x f h).ex;exact⟨⟨fa,fd,ps,k,h1,h2,h3,h4,h5⟩⟩
 ·obtain⟨Ca,fa,fd,ps,k,h1,h2,h3,h4,h5,h6,h7,h8⟩:=(xo.obj x f h).ex;exact⟨⟨Ca,fa,fd,ps,k,h1,h2,h3,h4,h5,h6,h7,h8⟩⟩
 ·obtain⟨Ca,fa,fd,ps,k,z1,z2,z3,z4,z5,z6⟩:=(xo.R7 m tb c f h1 h2).ex;exact⟨⟨Ca,fa,fd,ps,k,z1,z2,z3,z4,z5,z6⟩⟩
def CL(K:fA)(P:SA)(C:Calls)(cs:List E):TT:=λY H Q=>∃(U:Env) (G:Hp) (b:Bool) (U':Env),CA K U Y H G/\IC P C cs U=some (.ok (.sh (.bl b)),U') /\
 ∀H' G',AA K U Y H G U' H' G'->Q b H'
def Gk:MJ X [] (CL K P C []):=λaA s Y H Q I hz=>by
 obtain⟨U,G,b,U',r,e,k⟩:=hz;rw[IC] at e;cases e;exact uUa aA s Y H Q I (k H G (AA.refl r))
def Hk(h:HA X K P C c cc):MJ X [c] (CL K P C [cc]):=λaA s Y H Q I hz=>by
 obtain⟨U,G,b,U',r,e,k⟩:=hz;refine vUa h.t aA s Y H Q I ?_;rw[IC] at e;obtain⟨v,U1,e1,e2⟩:=mB e;split at e2
 ·rw[IC] at e2;cases e2;exact⟨U,G,true,_,r,e1,k⟩
 ·cases e2;exact⟨U,G,false,_,r,e1,k⟩
 ·cases e2
theorem NB.y8(b:NB K U Y H G U' Y' H' G')(h:H a=none)(g:G' a=none)(n:¬xA U' Y' a):NB K U Y H G U' Y' (sA H' a o) G':=by
 refine⟨b.pA.y8 g n,⟨b.ext.gg,λc u e nc=>?_,λc e=>?_,b.ext.gn⟩,b.own,b.un,b.pin,b.len⟩
 ·have:c≠a:=λz=>by subst z;rw[h] at e;cases e
  rw[dB this];exact b.ext.hh c u e nc
 ·by_cases hc:c=a
  ·subst hc;rw[eC] at e;cases e
  ·rw[dB hc] at e;exact b.ext.hx c e
theorem X0{bind:D->Env->Option Env}:∀{ds iB sG:List D} {U U':Env},XD tests JA bind ds iB U=some (.ok sG,U')->iB.length<=sG.length
 |[],iB,sG,U,U',e=>by simp only[XD,WB,SD,Out.ok.injEq] at e;rw[e.1];exact JB _
 |d::ds,iB,sG,U,U',e=>by
  simp only[XD] at e;split at e
  ·cases e
  ·obtain⟨c,U2,e1,e2⟩:=mB e;split at e2
   ·obtain⟨v,U3,e3,e4⟩:=mB e2
    have:=X0 e4
    simp at this
    lia
   ·exact X0 e2
   ·cases e2
theorem jm:∀(imp:List Nat) (U:Env) (as:List Sl) (U1:Env),CA K U Y H G->aAi (imp.map λ_=>true) (imp.map Hd.slot) U=some (as,U1) ->
  ∃xs,VD K H G own new Y (imp.map Hd.slot) xs/\xs.length=imp.length/\(∀a,¬JG (imp.map Hd.slot) xs a)/\∀(j:Nat) v,xs[j]?=some v->∃i:Nat,imp[j]?=some i/\Y[i]?=some (some v)
 |[],U,as,U1,r,e=>⟨[],rfl,rfl,λa z=>z,λj v h=>by simp at h⟩
 |i::imp,U,as,U1,r,e=>by
  have go:∀(U2:Env) (CZ:List Sl) (U3:Env),CA K U2 Y H G->aAi (imp.map λ_=>true) (imp.map Hd.slot) U2=some (CZ,U3)->(∃v,Y[i]?=some (some v)) ->
    ∃xs,VD K H G own new Y ((i::imp).map Hd.slot) xs/\xs.length=(i::imp).length/\(∀a,¬JG ((i::imp).map Hd.slot) xs a)/\∀(j:Nat) v,xs[j]?=some v->∃i':Nat,(i::imp)[j]?=some i'/\Y[i']?=some (some v):=by
   intro U2 CZ U3 r2 e2 ⟨v,hv⟩;obtain⟨xs,h1,h2,h3,h4⟩:=jm imp U2 CZ U3 r2 e2;refine⟨v::xs,⟨v,xs,rfl,hv,h1,λd a z=>(nomatch z)⟩,by simp[h2],λa z=>h3 a z,λj w hw=>?_⟩
   cases j with
   |zero=>simp only[OE,WB] at hw;subst hw;exact⟨i,rfl,hv⟩
   |succ j=>exact h4 j w (by simpa using hw)
  rw[pD,pD,cX] at e;split at e
  ·rename_i d hi
   cases q:aAi (imp.map λ_=>true) (imp.map Hd.slot) U with
   |none=>rw[q] at e;cases e
   |some y=>exact go U y.1 y.2 r q (r.bound (by rw[hi];rfl))
  ·rename_i d p l hi
   cases q:aAi (imp.map λ_=>true) (imp.map Hd.slot) (U.set i .un) with
   |none=>rw[q] at e;cases e
   |some y=>exact go _ y.1 y.2 (r.unset i) q (r.bound (by rw[hi];rfl))
  ·cases e
def wUa(ho:∀i,o=some i->∃d p l,U1[i]?=some (.ow d p l))(e:aAl o U1 U2=some U')(h:EE (aAd o U1) U2):EE U1 U':=by
 cases o with
 |none=>simp only[aAl,WB] at e;subst e;exact h
 |some i =>
  obtain⟨d,p,l,hi⟩:=ho i rfl;simp only[aAl] at e;split at e
  ·rename_i sl hf hs;rw[hi] at hs;cases hs;cases e;intro j;by_cases hj:j=i
   ·subst hj;rw[hi,gI (LD.mp hf).1];exact OF.refl _
   ·have:=h j
    rw[gE (λz=>hj z.symm)]
    have e2:(aAd (some i) U1)[j]?=U1[j]?:=by(show(U1.set i .un)[j]?=_;rw[gE (λz=>hj z.symm)])
    rw[e2] at this;exact this
  ·cases e
theorem Dg{Z:CC}:∀{xs:List bA} {imp:List Nat},Z.gK xs=some imp->imp.length=xs.length/\∀(j:Nat) x i,xs[j]?=some x->imp[j]?=some i->Z.N[i]?=some x
 |[],imp,h=>by simp only[CC.gK,WB] at h;subst h;exact⟨rfl,λj x i z=>by simp at z⟩
 |x::xs,imp,h=>by
  simp only[CC.gK] at h
  cases q:Z.N.idxOf? x with
  |none=>rw[q] at h;cases h
  |some i =>
   rw[q] at h;simp only[oE] at h
   cases q2:Z.gK xs with
   |none=>rw[q2] at h;cases h
   |some r =>
    rw[q2] at h;simp only[jE,WB] at h;subst h;obtain⟨h1,h2⟩:=Dg q2;refine⟨by simp[h1],λj y k hy hk=>?_⟩
    cases j with
    |zero =>
     simp only[OE,WB] at hy hk;subst hy hk;exact LW q
    |succ j=>exact h2 j y k (by simpa using hy) (by simpa using hk)
structure YO(Z:CC)(scope:kG):Prop where
 kind:scope.kind=.function
 cell:∀y∈scope.names,y.2≠.cell
 names:∀x∈scope.names,x.2=.local->scope.names.lookup x.1=some .local
 free:∀x∈scope.names,x.2=.free->scope.names.lookup x.1=some .free
 out:∀p∈scope.names,p.2=.free->Z.names.lookup p.1=some .cell\/Z.names.lookup p.1=some .free
 nd:(aAt scope++aAs scope).Nodup
def pXa(h:Z.Q8 scope=true):YO Z scope:=by
 unfold CC.Q8 at h;simp only[qA,jF,vF,vD,bne_iff_ne,RI,ne_eq] at h;obtain⟨⟨⟨⟨h1,h2⟩,h3⟩,h4⟩,h5⟩:=h;refine⟨h1,h2,λx hx hl=>?_,λx hx hf=>?_,λx hx hf=>?_,h5⟩
 ·rcases h3 x hx with z | z
  ·exact absurd hl z
  ·exact z
 ·rcases h4 x hx with z | z
  ·exact absurd hf z
  ·exact z.1
 ·rcases h4 x hx with z | z
  ·exact absurd hf z
  ·exact z.2
def P_(sc:YO Z scope)(h:x∈aAt scope):scope.names.lookup x=some .free:=by
 unfold aAt at h;obtain⟨p,hp,rfl⟩:=kC.mp h;obtain⟨h1,h2⟩:=OQ.mp hp;exact sc.free p h1 (uB h2)
def eYa(Y:St)(H:Hp)(R:It->Hp->Prop)(q:SI K P C .sig [c] Y H R):yg (tH K P C c) Y H R:=by
 obtain⟨U,G,hs,U1,ds,o,r,e,ei,k⟩:=q;simp only[VB] at e;obtain⟨h,U2,e1,e2⟩:=mB e;simp only[uA.bind,WB,SD,Out.ok.injEq] at e2;obtain⟨rfl,rfl⟩:=e2;refine⟨U,G,h,_,r,e1,λv H1 G1 a1 hv=>?_⟩
 (unfold aAb at ei;dsimp only at ei)
 cases q:h.get U2 with
 |none=>rw[q] at ei;cases ei
 |some d =>
  rw[q] at ei
  cases d with
  |str x =>
   simp only at ei;split at ei
   ·rename_i hc;cases ei;obtain⟨rfl,_⟩:=(hv.read a1.pA q).str;exact⟨x,rfl,hc.1,k H1 G1 a1 (λi z=>nomatch z) _ (p2a hc.2)⟩
   ·cases ei
  |_=>cases ei
structure Wr(K:fA)(P:SA)(C:Calls)(cond:List E)(JA:Env->uA RV)(is:List Nat)(U0:Env)(Y0:St)(H1 G2:Hp)(ds iB:List D)(Ui:Env)(D:eA)(i:Nat)(Y':St)(H':Hp):Prop where
 le:i<=ds.length
 ex:∃Uc Gc ac ys,NB K U0 Y0 H1 G2 Uc Y' H' Gc/\H' D=some (.l ys)/\Gc D=none/\¬xA Uc Y' D/\nA K Gc ac ys/\XD (IC P C cond) JA (bB (is.length==1) is) (ds.drop i) ac Uc=some (.ok iB,Ui)
def Jx(xo:KA X K P C Z){gA cond:List E}(sW:∀U v U',JA U=some (.ok v,U')->ev P C false ce U=some (.ok v,U'))(sc:YO Z scope)(himp:Z.gK (aAt scope)=some imp)
  (hw:∀Y H (R:It->Hp->Prop),SI K P C k0 gA Y H R->wi Y H R)
  {Y:St} {H:Hp} {Q:VK} (h:∃(U:Env) (G:Hp) (v:RV) (U':Env),CA K U Y H G/\De P C JA is k0 gA cond imp (aAs scope).length U=some (.ok v,U')/\∀x H' G',AA K U Y H G U' H' G'->EC K H' G' (xA U' Y) (UD H) v x->Q x H'):CQ X.N scope (Z.inner scope).N wi (gB K (is.length==1) is) (CL K P C cond) (tE K P C ce) Y H Q:=by
 obtain⟨U,G,v,U',r,e,k⟩:=h;unfold De at e;obtain⟨O5,U1,e1,e2⟩:=mB e
 have body:∀ds o,(XC (imp.map λ_=>true) (pI (IC P C cond) JA (bB (is.length==1) is) ds (aAs scope).length) (imp.map Hd.slot) (aAd o U1)).bind (aAq o U1)=some (.ok v,U')->∀H1 G1,AA K U Y H G U1 H1 G1->(∀i,o=some i->∃d p l,U1[i]?=some (.ow d p l))->∀J,bM K (aAd o U1) Y H1 G1 ds J->k9 X.N scope (Z.inner scope).N (gB K (is.length==1) is) (CL K P C cond) (tE K P C ce) Y Q J H1:=by
  intro ds o e2 H1 G1 a1 ho;obtain⟨v',U2,e3,e4⟩:=mB e2;unfold aAq at e4
  cases q3:aAl o U1 U2 with
  |none=>rw[q3] at e4;cases e4
  |some U3 =>
   rw[q3] at e4;simp only[jE,WB,SD,Out.ok.injEq] at e4;obtain⟨rfl,rfl⟩:=e4;have R0:=(zT (o:=o) a1.pA).1
   have wW:∃as U4,aAi (imp.map λ_=>true) (imp.map Hd.slot) (aAd o U1)=some (as,U4):=by
    unfold XC at e3
    cases q4:aAi (imp.map λ_=>true) (imp.map Hd.slot) (aAd o U1) with
    |none=>rw[q4] at e3;cases e3
    |some y=>exact⟨y.1,y.2,rfl⟩
   obtain⟨PJ,U4,wW⟩:=wW;obtain⟨xs,og,IW,qg,rg⟩:=jm (own:=xA (aAd o U1) Y) (new:=UD H1) imp _ _ _ R0 wW;obtain⟨as,G2,OA,ra,tM,ef,⟨OG,Lc⟩,kk⟩:=tV (AA.refl R0) og e3;unfold pI at ef;split at ef
   ·rename_i hp;obtain⟨iB,Ui,e5,e6⟩:=mB ef;split at e6
    ·rename_i hz;simp only[WB,SD,Out.ok.injEq] at e6;obtain⟨rfl,rfl⟩:=e6;obtain⟨il,ig⟩:=Dg himp
     have kW:(Z.inner scope).N.length=as.length+(aAs scope).length:=by(show(aAt scope++aAs scope).length=_;rw[iF,tM,YA,il])
     obtain⟨rp,op⟩:=ra.pad kW;have wB:=jO hz
     -- fF z3a turns
     have turns:∀(J:It),kc K (as++FC (aAs scope).length .un) (start (Z.inner scope).N xs) H1 G2 ds J->k9 X.N scope (Z.inner scope).N (gB K (is.length==1) is) (CL K P C cond) (tE K P C ce) Y Q J H1:=by
      intro J hJ;refine Exists.intro xs ⟨by rw[kW,IW,tM,YA];lia,λi x v hN hv=>?_,λD hD=>?_⟩
      ·obtain⟨j,hj,hY⟩:=rg i v hv
       have TC:i<(aAt scope).length:=by(rw[<- il];exact(LD.mp hj).1)
       have Ff:(aAt scope)[i]?=some x:=by
        have:(aAt scope++aAs scope)[i]?=some x:=hN
        rwa[aN TC] at this
       exact⟨j,by rw[xo.UH];exact ig i x j Ff hj,hY,P_ sc (OL Ff)⟩
      ·have fin:∀Y' H' Gc ys,NB K (as++FC (aAs scope).length .un) (start (Z.inner scope).N xs) H1 G2 Ui Y' H' Gc->H' D=some (.l ys)->Gc D=none->¬xA Ui Y' D->nA K Gc iB ys->Q (.ref D) H':=by
        intro Y' H' Gc ys a fJ CN OP hr;obtain⟨b1,b2⟩:=aV ra hp kW a;obtain⟨c1,c2⟩:=kk (.ref D) H' Gc b1 ⟨D,rfl,CN,⟨ys,fJ,hr⟩,λz=>OP (b2 D z),hD⟩;obtain⟨d1,d2⟩:=mQ a1.pA ho q3 (AA.s R0 c1);have a2:AA K U1 Y H1 G1 U3 H' Gc:=⟨d1.pA,d1.ext,wUa ho q3 c1.VJ⟩
        obtain⟨D',e',g',o',n',f'⟩:=c2;cases e';refine k _ _ _ (a1.trans a2) ⟨D,rfl,g',o',λz=>?_,a1.fresh hD⟩;rcases d2 D z with z | ⟨z,_⟩
        ·exact n' z
        ·exact(a1.pA.owned z).1 hD
       clear kk k q3 R0 ho a1 hp kW ra tM OG Lc og IW qg rg wW e3 e1 r himp il ig op;refine⟨ds.length,Wr K P C cond JA is (as++FC (aAs scope).length .un) (start (Z.inner scope).N xs) H1 G2 ds iB Ui D, ?_, ?_⟩
       ·have g2:G2 D=none:=by
         cases z:G2 D with
         |none=>rfl
         |some u=>have:=rp.sub D u z;rw[hD] at this;cases this
        exact⟨UQ _,_,G2,[],[],AA.s rp ((AA.refl rp).sL hD),eC,g2,rp.sX hD,nA.nil,e5⟩
       ·rintro i Y' H' ⟨hil,Uc,Gc,ac,ys,a,fJ,CN,OP,hr,ec⟩
        obtain⟨j1,j2,j3⟩:=hJ i H' Uc Y' Gc a;by_cases TC:i<ds.length
        ·refine .inr ⟨TC,j2 TC,λx H2 hy=>?_⟩;have hd:ds[i]?=some ds[i]:=MD TC;obtain⟨Gd,XU,N5⟩:=j3 _ x H2 hd hy;have CN:=XU.ext.gn D (by rw[fJ];simp) CN OP;have fJ:=XU.ext.hh D _ fJ OP;have hr:=nA.mono XU.ext.gg _ hr;have a:=a.trans (AA.s a.pA XU);rw[zY TC] at ec;simp only[XD] at ec;split at ec
         ·cases ec
         ·rename_i Ub hb;obtain⟨c,Ut,et,ec⟩:=mB ec;refine⟨Uc,Gd,ds[i],Ub,a.pA,N5,hb,λY1 ab=>?_⟩;have VI:=a.trans ab
          have nb:¬xA Ub Y1 D:=λz=>by
           rcases ab.own D z with z | z
           ·exact OP z
           ·rw[fJ] at z;cases z
          split at ec
          ·obtain⟨w,Ue,ee,ec⟩:=mB ec;refine⟨Ub,Gd,true,Ut,ab.pA,et,λH3 G3 GH=>?_⟩;have h3:H3 D=some (.l ys):=GH.ext.hh D _ fJ nb;have g3:G3 D=none:=GH.ext.gn D (by rw[fJ];simp) CN nb;have n3:¬xA Ut Y1 D:=λz=>nb (GH.own D z)
           dsimp only;rw[FA rfl];refine⟨Ut,G3,w,Ue,GH.pA,sW _ _ _ ee,λy H4 G4 a4 ry=>?_⟩;obtain⟨G5,a5,ry5⟩:=a4.share ry;have h4:H4 D=some (.l ys):=a5.ext.hh D _ h3 n3;have g5:G5 D=none:=a5.ext.gn D (by rw[h3];simp) g3 n3;have n5:¬xA Ue Y1 D:=λz=>n3 (a5.own D z)
           have cC:=X0 ec;have hyl:=hr.len;rw[iF] at cC;simp only[fC,RY] at cC;have Bu:=(VI.trans (AA.s ab.pA GH)).trans (AA.s GH.pA a5);refine⟨ys,h4,by lia,TC,Ue,G5,ac++[w.d],ys++[y],Bu.y8 hD g5 n5,eC,g5,n5, ?_,ec⟩;exact(nA.mono a5.ext.gg _ (nA.mono GH.ext.gg _ hr)).app (nA.cons ry5 nA.nil)
          ·refine⟨Ub,Gd,false,Ut,ab.pA,et,λH3 G3 GH=>?_⟩;have h3:H3 D=some (.l ys):=GH.ext.hh D _ fJ nb;have g3:G3 D=none:=GH.ext.gn D (by rw[fJ];simp) CN nb;have n3:¬xA Ut Y1 D:=λz=>nb (GH.own D z)
           dsimp only;rw[vB (by decide)];exact⟨TC,Ut,G3,ac,ys,VI.trans (AA.s ab.pA GH),h3,g3,n3,nA.mono GH.ext.gg _ hr,ec⟩
          ·cases ec
        ·have Kf:i=ds.length:=by lia
         refine .inl ⟨j1 Kf, ?_⟩;subst Kf;rw[Va] at ec;simp only[XD,WB,SD,Out.ok.injEq] at ec;obtain⟨rfl,rfl⟩:=ec;exact fin _ _ _ _ a fJ CN OP hr
     have nMa:∀c,xA as (xs.map some) c->xA (aAd o U1) Y c:=λc z=>by
      rcases Lc c z with z | z
      ·exact z
      ·exact absurd z (qg c)
     exact λJ wj=>turns J (wj OG λc z=>nMa c (op c z))
    ·cases e6
   ·cases ef
 unfold CQ
 cases q:aAb k0 O5 U1 with
 |none =>
  rw[q] at e2;cases e2
 |some y =>
  obtain⟨ds,o⟩:=y;rw[q] at e2;exact hw Y H _ ⟨U,G,O5,U1,ds,o,r,e1,q,body ds o e2⟩
def Pd(xo:KA X K P C Z){gA cond:List E}(sc:YO Z scope)(himp:Z.gK (aAt scope)=some imp)
  (hw:∀Y H (R:It->Hp->Prop),SI K P C k0 gA Y H R->wi Y H R) (h:tE K P C (.comp ce is k0 gA cond imp (aAs scope).length) Y H Q):CQ X.N scope (Z.inner scope).N wi (gB K (is.length==1) is) (CL K P C cond) (tE K P C ce) Y H Q:=by
 obtain⟨U,G,v,U',r,e,k⟩:=h;exact Jx xo (JA:=ev P C false ce) (λ_ _ _ z=>z) sc himp hw ⟨U,G,v,U',r,e,λx H' G' a hv=>k x H' G' a hv⟩
def l9(K:fA)(P:SA)(C:Calls)(c:E):TE:=λY H Q=>False
def XO(X:Cx)(K:fA)(P:SA)(C:Calls)(e:vA)(c:E):Prop:=∀(x:bA) (i:Nat) (p pos:BC),X.N.Nodup->X.N[i]?=some x->Loc X.env.scope x->(X.fn x=true\/X.env.scope.names.lookup x=some .local) ->
 PS X (.Assign [.Name x p] e pos) (jY (tE K P C c) (zN i))
def gQ:XO X K P C e .jA:=λx i p pos _ _ _ _ aA s Y H D I h=>by
 obtain⟨U,G,v,U',r,e,k⟩:=h;cases e
def fOa(xo:KA X K P C Z){gA cond:List E}(sc:YO Z scope)(himp:Z.gK (aAt scope)=some imp)(htg:uH (Z.inner scope) tg=some (is.length==1,is))
  (hi:PI X tg iter wi) (hs:∀x,GJ iter X.env x=pure x)
  (hw:∀Y H (R:It->Hp->Prop),SI K P C k0 gA Y H R->wi Y H R)
  (he:∀X',KA X' K P C (Z.inner scope)->HA X' K P C JA ce) (ht:∀X',KA X' K P C (Z.inner scope)->MJ X' DA (CL K P C cond)) :
  HA X K P C (.ListComp JA [⟨tg,iter,DA,0⟩] scope pos) (.comp ce is k0 gA cond imp (aAs scope).length)/\XO X K P C (.ListComp JA [⟨tg,iter,DA,0⟩] scope pos) (.comp ce is k0 gA cond imp (aAs scope).length)/\PE X (.ListComp JA [⟨tg,iter,DA,0⟩] scope pos) (l9 K P C (.comp ce is k0 gA cond imp (aAs scope).length)):=by
 have all:X.env.scope.kind=.function->(∀X',pG X scope (Z.inner scope).N X'->PG X' tg (gB K (is.length==1) is))/\(∀X',pG X scope (Z.inner scope).N X'->MJ X' DA (CL K P C cond))/\∀X',pG X scope (Z.inner scope).N X'->PE X' JA (tE K P C ce):=by
  intro hk;have xi:∀X',pG X scope (Z.inner scope).N X'->KA X' K P C (Z.inner scope):=λX' b=>xo.inner hk sc.nd b
  have TB:∀X',pG X scope (Z.inner scope).N X'->∀x,(Z.inner scope).JN x=true->X'.fn x=true\/X'.env.scope.names.lookup x=some .local:=λX' b x hx=>by
   rw[(xi X' b).nm];unfold CC.JN at hx;rw[RI,qA] at hx;rcases hx with hx | hx
   ·exact .inr (uB hx)
   ·exact absurd hx.1 (by simp[CC.inner])
  exact⟨λX' b=>u9 (xi X' b) (TB X' b) htg,λX' b=>ht X' (xi X' b),λX' b=>(he X' (xi X' b)).v⟩
 have iJ:∀p∈scope.names,p.2=.free->X.env.kindOf p.1=some .cell\/X.env.kindOf p.1=some .free:=λp hp hf=>by unfold Wa;rw[xo.nm];exact sc.out p hp hf
 have Af:PE X (.ListComp JA [⟨tg,iter,DA,0⟩] scope pos) (tE K P C (.comp ce is k0 gA cond imp (aAs scope).length)):=λaA s Y H Q I h=>by(obtain⟨h1,h2,h3⟩:=all I.ok.kind;exact oRa (N':=(Z.inner scope).N) xo.calm hi hs sc.kind sc.cell sc.names iJ h1 h2 h3 aA s Y H Q I (Pd xo sc himp hw h))
 refine⟨GD xo Af,λx i p W8 hN hx hl hf=>?_,λaA s Y H Q I h=>?_⟩
 case refine_2 =>
  obtain⟨h1,h2,h3⟩:=all I.ok.kind
  cases cond with
  |nil=>exact h.elim
  |cons _ _=>exact h.elim
 obtain⟨b,hb⟩:∃b:Bool,swapsWith (.ListComp JA [⟨tg,iter,DA,0⟩] scope pos) (some (.Name x p)) W8.line X.env=pure b:=⟨_,rfl⟩
 cases b with
 |false=>exact JX Af (ek hN hx hl hf) hb
 |true =>
  intro aA s Y H D I h;obtain⟨h1,h2,h3⟩:=all I.ok.kind;exact oTa hb hN hx hl hf xo.calm hi hs sc.kind sc.cell sc.names iJ h1 h2 h3 aA s Y H D I (Pd xo sc himp hw h)
end
structure JU(X:Cx)(K:fA)(P:SA)(C:Calls)(e:vA)(cs:List E):Prop where
 h:∀(f:bA) (p:BC) (args:List vA) (kw:List _) (pos:BC),e=.Call (.Name f p) args kw pos->args.all aAc=true->PA X args (sH K P C cs)/\cs.length=args.length
theorem N0:∀(es:List vA),(eB Z es).length=es.length
 |[]=>by rw[eB];rfl
 |e::es=>by rw[eB,fC,fC,N0 es]
section
variable{K:fA}
def r9(h:uH Z tg=some (one,is))(n:one=false):∃elts k p,tg=.Tuple elts k p:=by
 cases tg<;>simp only[uH,reduceCtorEq] at h
 ·rename_i x pos
  cases q:Z.tF x with
  |none=>rw[q] at h;cases h
  |some i=>rw[q] at h;cases h;cases n
 ·exact⟨_,_,_,rfl⟩
def aAQ(xo:KA X K P C Z){KG cond:List E}(ZR:HA X K P C iter ci)(oW:JU X K P C iter KG){Φ:E->Prop}(jA:Φ .jA)
  (good:∀{k0:WE} {gA:List E} {imp is:List Nat} {wi:TI},YO Z scope->Z.gK (aAt scope)=some imp->uH (Z.inner scope) tg=some (is.length==1,is)->PI X tg iter wi->(∀x,GJ iter X.env x=pure x) ->
   (∀Y H (R:It->Hp->Prop),SI K P C k0 gA Y H R->wi Y H R)->Φ (.comp ce is k0 gA cond imp (aAs scope).length)) :
  Φ (KH Z scope tg iter ci KG cond ce):=by
 unfold KH;split
 ·rename_i hsc;have sc:=pXa hsc;split
  ·rename_i imp one is k0 L6 q1 q2 q3;split
   ·rename_i hsg;split
    ·rename_i fK;have fK:=uB fK;subst fK;exact good sc q1 q2 (mSa ZR.h) (X3 (by cases iter<;>first | rfl | cases hsg) _) (λY H R q=>eYa Y H R q)
    ·exact jA
   split
   ·rename_i hk;exact nomatch hk
   split
   ·rename_i fK;rw[qA,qA] at fK;obtain⟨⟨fK,HP⟩,yI⟩:=fK;have fK:=uB fK;subst fK
    have gen:∀e:vA,iter=e->tX e=true->some (WE.of,[e])=some (k0,L6)->Φ (.comp ce is k0 (Sg k0 ci KG) cond imp (aAs scope).length):=λe he' hn hq=>by(subst he';cases hq;exact good sc q1 q2 (PI.or (ik ZR.h) (uk ZR.h)) (X3 hn _) (λY H R q=>Gj xo.nC Y H R q))
    unfold jK at q3;split at q3
    ·rename_i x hx;obtain⟨⟨f,p⟩,args,pos'⟩:=x;obtain rfl:=RW hx;dsimp only at q3;split at q3
     ·rename_i hf;have hf:=uB hf;subst hf;split at q3
      ·rename_i iL;split at q3
       ·rename_i hc;cases q3;rw[qA] at hc;obtain⟨h1,h2,h3,h4⟩:=CC.bF xo iL (λz=>nomatch z);have hm:=xo.BB _ h2;obtain⟨rE,RC⟩:=oW.h _ _ _ _ _ rfl hc.1;obtain _ | ⟨a,_ | ⟨b,_ | ⟨_,_⟩⟩⟩:=L6
        ·simp at hc
        ·obtain _ | ⟨c1,_ | ⟨_,_⟩⟩:=KG
         ·simp at RC
         ·have ns:=hc.1;rw[PB,qA] at ns;exact good sc q1 q2 (jk h1 hm rE (by rw[dC ns.1];rfl)) (λ_=>rfl) (λY H R q=>Dl Y H R q)
         ·simp at RC
        ·obtain _ | ⟨c1,_ | ⟨c2,_ | ⟨_,_⟩⟩⟩:=KG
         ·simp at RC
         ·simp at RC
         ·have ns:=hc.1;rw[PB,qA,PB,qA] at ns;exact good sc q1 q2 (rk h1 hm rE (by rw[dC ns.1,dC ns.2.1];rfl) (by rw[dC ns.2.1];rfl)) (λ_=>rfl) (λY H R q=>El Y H R q)
         ·simp at RC
        ·simp at hc
       ·cases q3
      ·cases q3
     ·split at q3
      ·rename_i hf;have hf:=uB hf;subst hf;split at q3
       ·rename_i iL;split at q3
        ·rename_i hc;cases q3;rw[qA] at hc;obtain⟨h1,h2,h3,h4⟩:=CC.bF xo iL (λz=>nomatch z);have hm:=xo.BB _ h2;obtain⟨rE,RC⟩:=oW.h _ _ _ _ _ rfl hc.1;obtain _ | ⟨a,_ | ⟨_,_⟩⟩:=L6
         ·simp at hc
         ·obtain _ | ⟨c1,_ | ⟨_,_⟩⟩:=KG
          ·simp at RC
          ·have ns:=hc.1;rw[PB,qA] at ns;obtain⟨elts,kk,tp,rfl⟩:=r9 q2 (by simpa[vJ] using HP);exact good sc q1 q2 (fk h1 hm rE (by rw[dC ns.1];rfl)) (λ_=>rfl) (λY H R q=>B2 xo.nC Y H R q)
          ·simp at RC
         ·simp at hc
        ·cases q3
       ·cases q3
      ·exact gen _ rfl rfl q3
    ·split at q3
     ·rename_i hx;split at q3
      ·split at q3
       ·cases q3;exact absurd yI (by decide)
       ·cases q3
      ·cases q3
     ·split at q3
      ·exact gen _ rfl ‹_› q3
      ·cases q3
   ·exact jA
  ·exact jA
 ·exact jA
def sV(xo:KA X K P C Z){KG cond:List E}(ZR:HA X K P C iter ci)(oW:JU X K P C iter KG)
  (he:∀X',KA X' K P C (Z.inner scope)->HA X' K P C JA ce) (ht:∀X',KA X' K P C (Z.inner scope)->MJ X' DA (CL K P C cond)) :
  HA X K P C (.ListComp JA [⟨tg,iter,DA,0⟩] scope pos) (KH Z scope tg iter ci KG cond ce)/\XO X K P C (.ListComp JA [⟨tg,iter,DA,0⟩] scope pos) (KH Z scope tg iter ci KG cond ce)/\PE X (.ListComp JA [⟨tg,iter,DA,0⟩] scope pos) (l9 K P C (KH Z scope tg iter ci KG cond ce)) :=
 aAQ xo ZR oW (Φ:=λc=>HA X K P C (.ListComp JA [⟨tg,iter,DA,0⟩] scope pos) c/\XO X K P C (.ListComp JA [⟨tg,iter,DA,0⟩] scope pos) c/\PE X (.ListComp JA [⟨tg,iter,DA,0⟩] scope pos) (l9 K P C c)) ⟨jB,gQ,λaA s Y H Q I h=>h.elim⟩ λsc q1 q2 hi hs hw=>fOa xo sc q1 q2 hi hs hw he ht
end
def fu(i:vA):Prop:=∃k p1 p2 p3,i=.Slice none none (some (.UnaryOp .USub (.Constant (.int 1) k p1) p2)) p3
def xEa(h:y6 i=true):fu i:=by
 cases i with
 |Slice lo hi st q =>
  obtain _ | _:=lo
  ·obtain _ | _:=hi
   ·obtain _ | st:=st
    ·exact bC h
    ·cases st with
     |UnaryOp op a p =>
      cases op with
      |USub =>
       induction a using nG with
       |Constant c k p1 =>
        cases c with
        |int n =>
         have h:=uB (show(n==1)=true from h);subst h;exact Exists.intro _ ⟨_,_,_,rfl⟩
        |_=>exact bC h
       |_=>exact bC h
      |_=>exact bC h
     |_=>exact bC h
   ·exact bC h
  ·exact bC h
 |_=>exact bC h
def qf(h:fW Z b=some q):∃p,b=.Name q.1 p/\Z.glob q.1=.aK q.2.1 q.2.2:=by
 unfold fW at h;split at h
 ·split at h
  ·cases h;exact⟨_,rfl,‹_›⟩
  ·cases h
 ·cases h
def nOa{K:fA}(xo:KA X K P C Z)(ha:HA X K P C a ca)(h:HA X K P C (.Compare a [op] [b] pos) c):HA X K P C (.Compare a [op] [b] pos) (BN Z op b ca c):=by
 unfold BN;split
 ·split
  ·rename_i q hq;obtain⟨p,rfl,hg⟩:=qf hq;exact mOa xo hg ha
  ·exact h
 ·exact h
def lOa{K:fA}(xo:KA X K P C Z)(hi:HA X K P C i ci)(hs:wR i)(h:HA X K P C (.Subscript a i pos) c):HA X K P C (.Subscript a i pos) (yP Z a ci c):=by
 unfold yP;split
 ·rename_i q hq;obtain⟨p,rfl,hg⟩:=qf hq;exact kOa xo hg hi hs
 ·exact h
def Vg(Z:CC)(a i:vA)(p:BC):(∃lo hi q,i=.Slice lo hi none q)\/((∀lo hi q,i≠.Slice lo hi none q)/\cE Z (.Subscript a i p)=if y6 i then .jA else yP Z a (cE Z i) (.ix (cE Z a) (cE Z i))):=by
 cases i with
 |Slice lo hi st q =>
  induction st using DH with
  |none=>exact .inl ⟨_,_,_,rfl⟩
  |some _=>exact .inr ⟨λ_ _ _ z=>(by cases z),rfl⟩
 |_=>exact .inr ⟨λ_ _ _ z=>Expr.noConfusion z,rfl⟩
def WL(K:fA)(P:SA)(C:Calls)(n:Nat):Prop:=∀(X:Cx) (Z:CC),KA X K P C Z->∀e:vA,sizeOf e<n->HA X K P C e (cE Z e)
def eX(h:a<b)(k:b<n+1):a<n:=iE h (Nat.le_of_lt_succ k)
def AB(k:b<n+1)(h:a<b:=by simp;lia):a<n:=eX h k
section
variable{K:fA}
def JM{r:List vA}(h:sizeOf (e::r)<n):sizeOf e<n:=KO (by simp;lia) h
def AQ{r:List vA}(h:sizeOf (e::r)<n):sizeOf r<n:=KO (by simp;lia) h
theorem LR(ih:WL K P C n)(xo:KA X K P C Z):∀es:List vA,sizeOf es<n->es.all aAc=true->PA X es (LM K P C (eB Z es))
 |[],_,_=>gRa
 |e::r,hs,h=>by(rw[PB,qA] at h;exact eRa (ih _ _ xo e (JM hs)) (LR ih xo r (AQ hs) h.2) h.1)
theorem mM(ih:WL K P C n)(xo:KA X K P C Z):∀es:List vA,sizeOf es<n->es.all aAc=true->PA X es (sH K P C (eB Z es))
 |[],_,_=>hRa
 |e::r,hs,h=>by(rw[PB,qA] at h;exact fRa (ih _ _ xo e (JM hs)) (mM ih xo r (AQ hs) h.2) h.1)
theorem Jc(ih:WL K P C n)(xo:KA X K P C Z):∀vs:List vA,sizeOf vs<n->vs≠[]->LJ X K P C .And vs (M0 Z vs)
 |[],_,h=>absurd rfl h
 |[a],hs,_=>oNa (ih _ _ xo a (JM hs))
 |a::b::r,hs,_=>Hj (ih _ _ xo a (JM hs)) (Jc ih xo (b::r) (AQ hs) (λz=>nomatch z))
theorem Oj(ih:WL K P C n)(xo:KA X K P C Z):∀vs:List vA,sizeOf vs<n->vs≠[]->LJ X K P C .Or vs (P0 Z vs)
 |[],_,h=>absurd rfl h
 |[a],hs,_=>pNa (ih _ _ xo a (JM hs))
 |a::b::r,hs,_=>Ij (ih _ _ xo a (JM hs)) (Oj ih xo (b::r) (AQ hs) (λz=>nomatch z))
theorem Dj(ih:WL K P C n)(xo:KA X K P C Z):∀o:Option vA,sizeOf o<n->PO X o (tO K P C (cO Z o))
 |none,_=>uSa
 |some e,hs=>wSa (ih _ _ xo e (KO (by simp) hs))
def BZ(ih:WL K P C n)(xo:KA X K P C Z)(e:vA)(hs:sizeOf e<n):JU X K P C e (iM Z e):=by
 cases e<;>first
  | (rename_i f args kw pos;exact⟨λf' p' Ou kw' pos' z ns=>by cases z;exact⟨mM ih xo args (KO (by simp;lia) hs) ns,N0 args⟩⟩)
  |exact⟨λf' p' Ou kw' pos' z ns=>by cases z⟩
end
def Aw{X:Cx}{K:fA}(ih:WL K P C n)(xo:KA X K P C Z)(e:vA)(wB:sizeOf e<n+1):HA X K P C e (cE Z e):=by
 induction e using nG with
 |Name x p =>
  exact o8 xo _ _
 |Constant c k p =>
  exact gOa xo _ _ _
 |Tuple es k p =>
  show HA X K P C _ (if es.all aAc then .t (eB Z es) else .jA);split
  ·exact hPa xo (LR ih xo _ (AB wB) ‹_›)
  ·exact jB
 |List es p =>
  show HA X K P C _ (if es.all aAc then .l (eB Z es) else .jA);split
  ·exact xOa xo (LR ih xo _ (AB wB) ‹_›)
  ·exact jB
 |Dict ks vs p=>exact hOa xo (λv hv=>ih _ _ xo v (eX (by have:=List.sizeOf_lt_of_mem hv;simp;lia) wB)) jB
 |BinOp a op b p =>
  exact aOa xo (ih _ _ xo _ (AB wB)) (ih _ _ xo _ (AB wB))
 |UnaryOp op a p =>
  cases op with
  |Not =>
   exact cPa xo (ih _ _ xo _ (AB wB))
  |USub =>
   exact bPa xo (ih _ _ xo _ (AB wB))
  |_=>exact jB
 |Compare a ops cs p =>
  obtain _ | ⟨op,_ | ⟨xC,_ | ⟨_,_⟩⟩⟩:=ops
  ·exact jB
  ·obtain _ | ⟨b,_ | ⟨_,_⟩⟩:=cs
   ·exact jB
   ·show HA X K P C _ (if xJ op b then .jA else BN Z op b (cE Z a) (.QA op (cE Z a) (cE Z b)));split
    ·exact jB
    ·refine nOa xo (ih _ _ xo _ (AB wB)) ?_;exact dOa xo (ih _ _ xo _ (AB wB)) (ih _ _ xo _ (AB wB)) (by rename_i h;simpa using h)
   ·exact jB
  ·obtain _ | ⟨b,_ | ⟨c,_ | ⟨_,_⟩⟩⟩:=cs
   ·exact jB
   ·exact jB
   ·show HA X K P C _ (if xJ xC c then .jA else .ZI op xC (cE Z a) (cE Z b) (cE Z c));split
    ·exact jB
    ·exact eOa xo (ih _ _ xo _ (AB wB)) (ih _ _ xo _ (AB wB)) (ih _ _ xo _ (AB wB)) (by rename_i h;simpa using h)
   ·exact jB
  ·exact jB
 |BoolOp op vs p =>
  obtain _ | ⟨a,_ | ⟨b,r⟩⟩:=vs
  ·cases op<;>exact jB
  ·cases op<;>exact jB
  ·cases op with
   |And =>
    exact(Hj (ih _ _ xo _ (AB wB)) (Jc ih xo _ (AB wB) (by simp))).Jj λi z=>nomatch z
   |Or =>
    exact(Ij (ih _ _ xo _ (AB wB)) (Oj ih xo _ (AB wB) (by simp))).Jj λi z=>nomatch z
 |IfExp c a b p =>
  exact sOa (ih _ _ xo _ (AB wB)) (ih _ _ xo _ (AB wB)) (ih _ _ xo _ (AB wB))
 |Subscript a i p =>
  rcases Vg Z a i p with ⟨lo,hi,q,rfl⟩ | ⟨hn,e⟩
  ·exact ePa xo (ih _ _ xo _ (AB wB)) (Dj ih xo _ (AB wB)) (Dj ih xo _ (AB wB))
  ·rw[e];split
   ·rename_i hr;obtain⟨k,p1,p2,p3,rfl⟩:=xEa hr;exact jB
   ·exact lOa xo (ih _ _ xo _ (AB wB)) (wk hn) (tOa xo (ih _ _ xo _ (AB wB)) (ih _ _ xo _ (AB wB)) (wk hn))
 |Call fn args kw pos =>
  induction fn using nG with
  |Name f p =>
   induction kw using sC with
   |nil =>
    show HA X K P C _ (if args.all aAc&&decide (args≠[]) then(match Z.glob f with | .fn g=>.call g (eB Z args) | .cls ns=>.jA | .BB=>if f=("isinstance":bA) then BM Z args (eB Z args) else fM f args (eB Z args) | .obj g=>.FF f g (eB Z args) | _=>.jA) else .jA);split
    ·rename_i hc;rw[qA] at hc;obtain⟨ns,ne⟩:=hc
     induction args using sC with
     |nil=>simp at ne
     |cons a r =>
      split
      ·rename_i g hg;exact cOa xo hg ns (mM ih xo _ (AB wB) ns)
      ·rename_i g hg;exact jB
      ·rename_i hg;split
       ·rename_i hf;subst hf;unfold BM;split
        ·rename_i t a' _ e1 e2;split
         ·rename_i ty lS;simp only[eB,PQ] at e1 e2;obtain⟨rfl,rfl⟩:=e1;obtain⟨rfl,_⟩:=e2;rw[PB,qA] at ns;exact rOa xo hg lS ns.1 (ih _ _ xo _ (AB wB))
         ·simp only[eB,PQ] at e1 e2;obtain⟨rfl,rfl⟩:=e1;obtain⟨rfl,_⟩:=e2;rw[PB,qA] at ns;exact qOa xo hg ns.1 (ih _ _ xo _ (AB wB))
        ·exact jB
       ·unfold fM;split
        ·rename_i R4;subst R4;exact n8 xo hg (b:=.len) rfl ns (mM ih xo _ (AB wB) ns)
        ·split
         ·exact jB
         ·split
          ·exact jB
          ·split
           ·rename_i R4;subst R4;exact n8 xo hg (b:=.list) rfl ns (mM ih xo _ (AB wB) ns)
           ·split
            ·rename_i b hb;exact n8 xo hg hb ns (mM ih xo _ (AB wB) ns)
            ·exact jB
      ·rename_i g hg;exact aPa xo hg ns (LR ih xo _ (AB wB) ns)
      ·exact jB
    ·exact jB
   |cons _ _=>exact jB
  |Attribute o m NA =>
   induction o using nG with
   |Name x p =>
    induction kw using sC with
    |nil =>
     have hD:HA X K P C (.Call (.Attribute (.Name x p) m NA) args [] pos) (JZ Z x m NA pos args (eB Z args)):=by
      induction args using sC with
      |nil =>
       show HA X K P C _ (zR Z x m NA pos);unfold zR;split
       ·rename_i hc;rw[qA] at hc;obtain⟨hl,hm⟩:=hc;have hm:=uB hm;subst hm;exact bOa xo hl
       ·exact lPa xo
      |cons a as =>
       induction as using sC with
       |nil =>
        show HA X K P C _ (AR Z x m NA pos a (cE Z a));unfold AR;split
        ·rename_i hc;rw[qA,qA] at hc;obtain⟨⟨ns,hl⟩,hm⟩:=hc;have hm:=uB hm;subst hm;split
         ·exact zNa xo ‹_› hl ns (ih _ _ xo _ (AB wB))
         ·exact jB
        ·split
         ·rename_i hc;rw[qA,qA] at hc;obtain⟨⟨ns,hl⟩,hm⟩:=hc;have hm:=uB hm;subst hm;split
          ·exact iOa xo ‹_› hl ns (ih _ _ xo _ (AB wB))
          ·exact jB
         ·split
          ·rename_i hc;rw[qA,qA] at hc;obtain⟨⟨ns,hl⟩,hm⟩:=hc;have hm:=uB hm;subst hm;exact jB
          ·exact iPa xo
       |cons b as=>exact jB
     show HA X K P C _ (dP Z x m NA pos args (eB Z args));unfold dP;split
     ·rename_i tb hm;split
      ·rename_i hc;rw[qA,qA] at hc;obtain⟨⟨ns,hl⟩,hf⟩:=hc;split
       ·exact zOa xo ‹_› hm ns hl (TM hf) (mM ih xo _ (AB wB) ns) λz=>by rw[z,eB]
       ·exact jB
      ·exact jB
     ·exact hD
    |cons _ _=>exact jB
   |Constant c0 j0 p0 =>
    cases c0 with
    |str s0 =>
     obtain _ | ⟨a0,_ | ⟨_,_⟩⟩:=args
     ·cases kw<;>exact jB
     ·induction kw using sC with
      |nil=>exact vOa xo (ih _ _ xo _ (AB wB))
      |cons _ _=>exact jB
     ·cases kw<;>exact jB
    |_=>exact jB
   |Call g as kw2 p2 =>
    induction as using sC with
    |nil=>exact jB
    |cons a0 PJ =>
     induction kw using sC with
     |nil =>
      show HA X K P C _ (KS Z m NA pos args (cE Z (.Call g (a0::PJ) kw2 p2)) (eB Z args));unfold KS;split
      ·rename_i tb hm;split
       ·rename_i hc;rw[qA,qA] at hc;exact jB
       ·exact jB
      ·exact jB
     |cons _ _=>exact jB
   |_=>exact jB
  |_=>exact jB
 |Attribute o f p =>
  induction o using nG with
  |Name x q =>
   exact jOa xo
  |_=>exact jB
 |ListComp JA gs scope pos =>
  obtain _ | ⟨⟨tg,iter,DA,m⟩,_ | ⟨_,_⟩⟩:=gs
  ·exact jB
  ·obtain _ | ⟨c,_ | ⟨_,_⟩⟩:=DA<;>obtain(_ | _) | _:=m
   ·exact(sV xo (ih _ _ xo _ (AB wB)) (BZ ih xo _ (AB wB)) (λX' eI=>ih _ _ eI _ (AB wB)) (λX' eI=>Gk)).1
   ·exact jB
   ·exact jB
   ·exact(sV xo (ih _ _ xo _ (AB wB)) (BZ ih xo _ (AB wB)) (λX' eI=>ih _ _ eI _ (AB wB)) (λX' eI=>Hk (ih _ _ eI _ (AB wB)))).1
   all_goals exact jB
  ·obtain _ | ⟨c,_ | ⟨_,_⟩⟩:=DA<;>obtain(_ | _) | _:=m<;>exact jB
 |_=>exact jB
theorem pS{K:fA}:∀n:Nat,WL K P C n
 | 0=>λ_ _ _ _ h=>absurd h (SY _)
 |n+1=>λ_ _ xo e h=>Aw (pS n) xo e h
section
variable{K:fA}
def zF(xo:KA X K P C Z)(e:vA):HA X K P C e (cE Z e):=pS _ _ _ xo e (zK _)
def ud(xo:KA X K P C Z)(e:vA):JU X K P C e (iM Z e):=BZ (pS _) xo e (zK _)
def O0(xo:KA X K P C Z)(es:List vA)(h:es.all aAc=true):PA X es (LM K P C (eB Z es)):=LR (pS _) xo es (zK _) h
def fP(xo:KA X K P C Z)(es:List vA)(h:es.all aAc=true):PA X es (sH K P C (eB Z es)):=mM (pS _) xo es (zK _) h
end
def wNa{K:fA}(xo:KA X K P C Z)(e:vA)(h:sS e=true):XO X K P C e (cE Z e):=by
 cases e<;>simp only[sS,FJ] at h;rename_i JA gs scope pos;obtain _ | ⟨⟨tg,iter,DA,n⟩,_ | ⟨_,_⟩⟩:=gs
 ·exact gQ
 ·obtain _ | ⟨c,_ | ⟨_,_⟩⟩:=DA<;>obtain(_ | _) | _:=n
  ·exact(sV xo (zF xo iter) (ud xo iter) (λX' eI=>zF eI JA) (λX' eI=>Gk)).2.1
  ·exact gQ
  ·exact gQ
  ·exact(sV xo (zF xo iter) (ud xo iter) (λX' eI=>zF eI JA) (λX' eI=>Hk (zF eI c))).2.1
  all_goals exact gQ
 ·obtain _ | ⟨c,_ | ⟨_,_⟩⟩:=DA<;>obtain(_ | _) | _:=n<;>exact gQ
section
variable{X:Cx}{K:fA}{P:SA}{C:Calls}{W:Nat}{Z:CC}
def gH(X:Cx)(K:fA)(U:Env)(Y:St)(H G:Hp)(U':Env)(x:Exc):Prop:=∀aA Y' H' G' s' a Ca p,NB K U Y H G U' Y' H' G'->cA X aA Y' H' s'->GG X aA H' s'.heap a Ca p->fB K VA x.cls=some (some (.ref Ca))->lE K Ca->NJ K G' Ca p x->X.xe (.ref a) s'
def gH.pre(a:NB K U Y H G U1 Y1 H1 G1)(h:gH X K U Y H G U' x):gH X K U1 Y1 H1 G1 U' x:=λaA Y' H' G' s' b Ca p q=>h aA Y' H' G' s' b Ca p (a.trans q)
def kY(X:Cx)(K:fA)(P:SA)(C:Calls)(c:E):TE:=λY H _=>∃U G x U',CA K U Y H G/\ED P C c U=some (x,U')/\gH X K U Y H G U' x
def t0a(X:Cx)(K:fA)(P:SA)(C:Calls)(cs:List E):TA:=λY H _=>∃U G x U',CA K U Y H G/\UJ P C cs U=some (x,U')/\gH X K U Y H G U' x
def JD(X:Cx)(K:fA)(P:SA)(C:Calls)(W:Nat)(c:S):TS:=λ_ Y H=>∃U G x U',CA K U Y H G/\oF P C W c U=some (x,U')/\gH X K U Y H G U' x
def XG(X:Cx)(K:fA)(P:SA)(C:Calls)(W:Nat)(c:List S):TS:=λ_ Y H=>∃U G x U',CA K U Y H G/\DC P C W c U=some (x,U')/\gH X K U Y H G U' x
def pUa(h1:LC X b t)(h2:LC X b u):LC X b (λD Y H=>t D Y H\/u D Y H):=λaA s Y H D I q=>q.elim (h1 aA s Y H D I) (h2 aA s Y H D I)
def gH.restore(r:CA K U1 Y H1 G1)(ho:∀i,o=some i->∃d p l,U1[i]?=some (.ow d p l))(e:aAl o U1 Uf=some U')(k:gH X K U1 Y H1 G1 U' x):gH X K (aAd o U1) Y H1 G1 Uf x :=
 λaA Y' H' G' s' a Ca p b=>k aA Y' H' G' s' a Ca p (mQ r ho e b).1
def tR(K:fA)(P:SA)(C:Calls)(W:Nat)(one:Bool)(tg:List Nat)(cb:List S)(U0:Env)(Y0:St)(H0 G0:Hp)(x:Exc)(Uf:Env)(ds:List D)(i:Nat):St->Hp->Prop:=λY H =>
 ∃U G,NB K U0 Y0 H0 G0 U Y H G/\nH (bB one tg) (MA P C W cb) (DC P C W cb) (ds.drop i) U=some (x,Uf)
def hKa{D0:Ends}(hk:gH X K U0 Y0 H0 G0 Uf x)(hd:ds[i]?=some d)
  (h:∃U G,NB K U0 Y0 H0 G0 U Y H G/\iA K G d v/\nH (bB one tg) (MA P C W cb) (DC P C W cb) (ds.drop i) U=some (x,Uf)) :
  gB K one tg v Y H λY2 H2=>(λD Y H=>IF K P C W cb D Y H\/XG X K P C W cb D Y H) { D0 with nx:=tR K P C W one tg cb U0 Y0 H0 G0 x Uf ds (i+1),ct:=tR K P C W one tg cb U0 Y0 H0 G0 x Uf ds (i+1),bk:=D0.nx } Y2 H2:=by
 obtain⟨U,G,a,hx,e⟩:=h;have hl:i<ds.length:=(LD.mp hd).1
 have ed:ds.drop i=d::ds.drop (i+1):=by(rw[zY hl];congr 1;rw[MD hl] at hd;exact wF hd)
 rw[ed] at e;unfold nH at e;split at e
 ·cases e
 ·rename_i U1 q;refine⟨U,G,d,U1,a.pA,hx,q,λY1 a1=>?_⟩;have VI:=a.trans a1;split at e
  ·rename_i U2 q2;exact .inl ⟨U1,G,.nx,U2,a1.pA,q2,λY2 H2 G2 a2=>⟨U2,G2,VI.trans a2,e⟩⟩
  ·rename_i U2 q2;exact .inl ⟨U1,G,.ct,U2,a1.pA,q2,λY2 H2 G2 a2=>⟨U2,G2,VI.trans a2,e⟩⟩
  ·exact .inr ⟨U1,G,x,Uf,a1.pA,e,hk.pre VI⟩
def gKa(h:tR K P C W one tg cb U0 Y0 H0 G0 x Uf ds ds.length Y H):False:=by
 obtain⟨U,G,a,e⟩:=h;rw[Va] at e;cases e
def L_(po:YM (model X.prog X.w) X.A X.env X.xe)(xo:KA X K P C Z){tg it:vA}{body:List WA}{pos:BC}{one:Bool}{is:List Nat}{k0:WE}{gA:List E}{cb:List S}{wi:TI}(hg:PG X tg (gB K one is))(hb:LC X body (IF K P C W cb))(cF:LC X body (XG X K P C W cb))
  (hs:∀x,GJ it X.env x=pure x) (hi:PI X tg it wi) (hw:∀Y H (R:It->Hp->Prop),SI K P C k0 gA Y H R->wi Y H R):PS X (.For tg it body [] pos) (JD X K P C W (.for is one k0 gA cb)):=by
 refine TS.HE (Ak po xo.calm hi hg (pUa hb cF) hs) λD Y H hz=>?_
 obtain⟨U,G,x,U',r,e,k⟩:=hz;replace e:(match VB P C gA U with | some (.ok hs,U1)=>(match aAb k0 hs U1 with | some (ds,o)=>pK o U1 (nH (bB one is) (MA P C W cb) (DC P C W cb) ds (aAd o U1)) | none=>none) | _=>none)=some (x,U'):=e;split at e
 case h_2=>cases e
 rename_i hs U1 e1;split at e
 case h_2=>cases e
 rename_i ds o q
 cases q2:nH (bB one is) (MA P C W cb) (DC P C W cb) ds (aAd o U1) with
 |none=>rw[q2] at e;cases e
 |some y =>
  obtain⟨x1,Uf⟩:=y;rw[q2] at e
  cases q3:aAl o U1 Uf with
  |none=>unfold pK at e;simp only[q3] at e;cases e
  |some U2 =>
   unfold pK at e;simp only[q3] at e;cases e;refine hw Y H _ ⟨U,G,hs,U1,ds,o,r,e1,q,λH1 G1 a1 ho J wj=>?_⟩;have k1:gH X K (aAd o U1) Y H1 G1 Uf x:=gH.restore a1.pA ho q3 (k.pre (AA.s r a1));refine⟨λi m Y2 H2=>m=ds.length-i/\i<=ds.length/\tR K P C W one is cb (aAd o U1) Y H1 G1 x Uf ds i Y2 H2,⟨_,rfl,UQ _,aAd o U1,G1,NB.refl (zT a1.pA).1,q2⟩, ?_⟩
   rintro i m Y2 H2 ⟨rfl,hi,hp⟩
   obtain⟨U2,G2,b,e2⟩:=id hp;obtain⟨j1,j2,j3⟩:=wj (ZA.refl _) (λ_ h=>h) i H2 U2 Y2 G2 b;by_cases TC:i<ds.length
   ·refine .inr ⟨j2 TC,tR K P C W one is cb (aAd o U1) Y H1 G1 x Uf ds (i+1),λY' H' p'=>⟨ds.length-(i+1),by lia,rfl,TC,p'⟩,λv H' y=>?_⟩;obtain⟨Gd,af,rp⟩:=j3 _ v H' (MD TC) y;exact hKa k1 (MD TC) ⟨U2,Gd,b.trans (AA.s b.pA af),rp,e2⟩
   ·obtain rfl:i=ds.length:=by lia
    exact(gKa hp).elim
def FX(h1:PE X e t)(h2:PE X e u):PE X e (λY H Q=>t Y H Q\/u Y H Q):=λaA s Y H Q I q=>q.elim (h1 aA s Y H Q I) (h2 aA s Y H Q I)
def sTa{st:WA}(h1:PS X st t)(h2:PS X st u):PS X st (λD Y H=>t D Y H\/u D Y H):=λaA s Y H D I q=>q.elim (h1 aA s Y H D I) (h2 aA s Y H D I)
end
section
variable{X:Cx}{K:fA}{P:SA}{C:Calls}{Z:CC}
def Ts(X:Cx)(K:fA)(P:SA)(C:Calls)(e:vA)(c:E):Prop:=∀(W:Nat) (x:bA) (i:Nat) (p pos:BC),X.N.Nodup->X.N[i]?=some x->Loc X.env.scope x->(X.fn x=true\/X.env.scope.names.lookup x=some .local) ->
 PS X (.Assign [.Name x p] e pos) (JD X K P C W (.nB i c))
end
section
variable{X:Cx}{K:fA}{P:SA}{C:Calls}{W:Nat}{Z:CC}
noncomputable def gC:E->Bool
 |.call _ _=>true
 |.fG _ _ _ _=>true
 |.FF _ _ _=>true
 |.t _=>true
 |_=>false
def fMa:gC (QK Z x)=false:=by unfold QK;split;rfl;split<;>rfl
def tLa:gC (nV c)=false:=by
 cases c<;>first | rfl | (show gC (if _ then _ else _)=false;split<;>rfl)
def wLa(h:gC c=false):gC (J1 z ks vs c)=false:=by unfold J1;first | exact h | (split<;>first | rfl | exact h)
def vLa(h:gC c=false):gC (E1 ks vs es c)=false:=by
 exact h
theorem uLa:gC (ae ks vs cs es)=false:=by
 rfl
def iMa:gC (JT Z x m p q)=false:=by unfold JT;(repeat' split)<;>rfl
def zLa:gC (nS Z x m p q a)=false:=by unfold nS;(repeat' split)<;>rfl
def hMa:gC (FT Z x m p q a)=false:=by
 unfold FT;(repeat' split)<;>first | rfl | exact zLa
def bMa:gC (AS s m p q a c)=false:=by unfold AS;split<;>rfl
def qLa:gC (AR Z x m p q a c)=false:=by unfold AR;repeat' split<;>first | rfl | exact hMa | skip
def pLa:gC (zR Z x m p q)=false:=by unfold zR;(repeat' split)<;>first | rfl | exact iMa
def rLa:gC (JZ Z x m p q as cs)=false:=by
 rcases as with _ | ⟨a,_ | _⟩<;>rcases cs with _ | ⟨c,_ | _⟩<;>first | rfl | exact pLa (Z:=Z) (x:=x) | exact qLa
def eMa:gC (KS Z m p q as a cs)=false:=by unfold KS;repeat' split<;>try rfl
def gMa:gC (d9 Z t a)=false:=by
 induction t using nG with
 |Name x _=>show gC (sT Z x a)=false;unfold sT;split<;>rfl
 |Tuple es _ _=>show gC (uT Z es a)=false;unfold uT;repeat' split<;>try rfl
 |_=>rfl
def aMa:gC (BM Z as cs)=false:=by
 unfold BM;split
 ·split
  ·rfl
  ·exact gMa
 ·rfl
def cMa:gC (C7 as cs)=false:=by unfold C7;first | rfl | (repeat' split<;>try rfl)
def dMa:gC (D7 as cs)=false:=by unfold D7;first | rfl | (repeat' split<;>try rfl)
def sLa:gC (fM f as cs)=false:=by
 unfold fM aA0;split
 ·exact cMa
 ·split
  ·(repeat' split)<;>rfl
  ·split
   ·rfl
   ·split
    ·exact dMa
    ·split<;>rfl
def LS[Decidable b](h1:gC a=false)(h2:gC c=false):gC (if b then a else c)=false:=by split<;>assumption
def Cc(Z:CC)(e:vA):Prop:=(∃f p a r pos g,e=.Call (.Name f p) (a::r) [] pos/\Z.glob f=.obj g/\(a::r).all aAc=true/\cE Z e=.FF f g (eB Z (a::r))) \/
 (∃x p m NA as pos tb i,e=.Call (.Attribute (.Name x p) m NA) as [] pos/\Z.gl (dot m)=.uE tb/\Z.slot x=some i/\as.all aAc=true/\(NA.endLine==pos.line)=true/\as.length<29/\cE Z e=.fG i m tb (eB Z as)) \/
 ∃es k p,e=.Tuple es k p/\es.all aAc=true/\cE Z e=.t (eB Z es)
def yLa:gC (BN Z op b ca (.QA op x y))=false:=by unfold BN;(repeat' split)<;>rfl
def xLa:gC (yP Z a ci (.ix x y))=false:=by unfold yP;split<;>rfl
def MF(Z:CC)(e:vA):Prop:=((∃f p a r pos g,e=.Call (.Name f p) (a::r) [] pos/\Z.glob f=.fn g/\(a::r).all aAc=true/\cE Z e=.call g (eB Z (a::r)))\/Cc Z e)\/∃JA tg iter DA sc pos,e=.ListComp JA [⟨tg,iter,DA,0⟩] sc pos/\(DA=[]\/∃c1,DA=[c1])
def Cd(h:gC (cE Z e)=true):MF Z e:=by
 induction e using nG with
 |Name x p=>exact bC ((fMa (x:=x)).symm.trans h)
 |Constant c _ _=>exact bC ((tLa (c:=c)).symm.trans h)
 |Tuple es k p =>
  have h':gC (if es.all aAc then E.t (eB Z es) else .jA)=true:=h;split at h'
  ·rename_i hn;exact Or.inl (.inr (.inr (.inr ⟨es,k,p,rfl,hn,by show(if es.all aAc then E.t (eB Z es) else .jA)=_;rw[FA hn]⟩)))
  ·cases h'
 |List es _=>exact bC ((LS (b:=es.all aAc=true) (a:=.l (eB Z es)) (c:=.jA) rfl rfl).symm.trans h)
 |Dict ks vs _=>exact bC ((vLa (wLa (uLa (ks:=ks) (vs:=vs) (cs:=Q0 Z ks) (es:=eB Z vs)))).symm.trans h)
 |BinOp a op b _=>exact bC h
 |UnaryOp op a _=>cases op<;>exact bC h
 |Compare a ops bs _ =>
  obtain _ | ⟨o1,_ | ⟨o2,_ | ⟨o3,_⟩⟩⟩:=ops<;>obtain _ | ⟨b1,_ | ⟨b2,_ | ⟨b3,_⟩⟩⟩:=bs<;>first
   |exact bC h
   |exact bC ((LS (b:=xJ o1 b1=true) (a:=.jA) (c:=BN Z o1 b1 (cE Z a) (.QA o1 (cE Z a) (cE Z b1))) rfl yLa).symm.trans h)
   |exact bC ((LS (b:=xJ o2 b2=true) (a:=.jA) (c:=.ZI o1 o2 (cE Z a) (cE Z b1) (cE Z b2)) rfl rfl).symm.trans h)
 |BoolOp op es _ =>
  cases op<;>obtain _ | ⟨a,_ | ⟨b,r⟩⟩:=es<;>exact bC h
 |IfExp c a b _=>exact bC h
 |Subscript a i _ =>
  rcases Vg Z a i ‹BC› with ⟨lo,hi,q,rfl⟩ | ⟨_,z⟩
  ·exact bC h
  ·rw[z] at h;exact bC ((LS rfl xLa).symm.trans h)
 |Attribute o f _=>cases o<;>exact bC h
 |ListComp JA gens sc _ =>
  obtain _ | ⟨⟨tg,it,DA,n⟩,_ | ⟨_,_⟩⟩:=gens
  ·exact bC h
  ·obtain _ | ⟨c1,_ | ⟨_,_⟩⟩:=DA<;>obtain(_ | _) | _:=n<;>first
    |exact Or.inr ⟨JA,tg,it,[],sc,_,rfl,.inl rfl⟩
    |exact Or.inr ⟨JA,tg,it,[c1],sc,_,rfl,.inr ⟨c1,rfl⟩⟩
    |exact bC h
  ·obtain _ | ⟨c1,_ | ⟨_,_⟩⟩:=DA<;>obtain(_ | _) | _:=n<;>exact bC h
 |Call fn args kw pos =>
  induction fn using nG with
  |Name f p =>
   induction kw using sC with
   |nil =>
    change gC (if args.all aAc&&decide (args≠[]) then(match Z.glob f with | .fn g=>.call g (eB Z args) | .cls ns=>.jA | .BB=>if f=("isinstance":bA) then BM Z args (eB Z args) else fM f args (eB Z args) | .obj g=>.FF f g (eB Z args) | _=>.jA) else .jA)=true at h;split at h
    ·rename_i hc;split at h
     ·rename_i g hg;rw[qA] at hc
      induction args using sC with
      |nil=>simp at hc
      |cons a r =>
       refine Or.inl (.inl ⟨f,p,a,r,pos,g,rfl,hg,hc.1, ?_⟩);show(if(a::r).all aAc&&decide ((a::r)≠[]) then(match Z.glob f with | .fn g=>E.call g (eB Z (a::r)) | .cls ns=>E.jA | .BB=>if f=("isinstance":bA) then BM Z (a::r) (eB Z (a::r)) else fM f (a::r) (eB Z (a::r)) | .obj g=>E.FF f g (eB Z (a::r)) | _=>.jA) else .jA)=_;rw[FA (by rw[hc.1];simp),hg]
     ·cases h
     ·rw[LS aMa sLa] at h;cases h
     ·rename_i g hg;rw[qA] at hc
      cases args with
      |nil=>simp at hc
      |cons a r =>
       refine Or.inl (.inr (.inl ⟨f,p,a,r,pos,g,rfl,hg,hc.1, ?_⟩));show(if(a::r).all aAc&&decide ((a::r)≠[]) then(match Z.glob f with | .fn g=>E.call g (eB Z (a::r)) | .cls ns=>E.jA | .BB=>if f=("isinstance":bA) then BM Z (a::r) (eB Z (a::r)) else fM f (a::r) (eB Z (a::r)) | .obj g=>E.FF f g (eB Z (a::r)) | _=>.jA) else .jA)=_;rw[FA (by rw[hc.1];simp),hg]
     ·cases h
    ·cases h
   |cons _ _=>exact bC h
  |Attribute o m NA =>
   induction kw using sC with
   |nil =>
    induction o using nG with
    |Name x p =>
     have h':gC (dP Z x m NA pos args (eB Z args))=true:=h;have e':cE Z (.Call (.Attribute (.Name x p) m NA) args [] pos)=dP Z x m NA pos args (eB Z args):=rfl;unfold dP at h' e';split at h'
     ·rename_i tb hm;rw[hm] at e';dsimp only at e';split at h'
      ·rename_i hc;rw[FA hc] at e';split at h'
       ·rename_i i hi;rw[hi] at e';rw[qA,qA] at hc;exact Or.inl (.inr (.inr (.inl ⟨x,p,m,NA,args,pos,tb,i,rfl,hm,hi,hc.1.1,hc.1.2,TM hc.2,e'⟩)))
       ·cases h'
      ·cases h'
     ·exact bC (rLa.symm.trans h')
    |Call g PJ Bi p0 =>
     induction PJ using sC with
     |nil=>exact bC h
     |cons a0 r0=>exact bC ((eMa (m:=m) (p:=NA) (q:=pos) (as:=args) (a:=cE Z (.Call g (a0::r0) Bi p0)) (cs:=eB Z args)).symm.trans h)
    |Constant c0 j0 p0 =>
     cases c0 with
     |str s0 =>
      obtain _ | ⟨a0,_ | ⟨_,_⟩⟩:=args
      ·exact bC h
      ·exact bC ((bMa (s:=s0) (m:=m) (p:=NA) (q:=pos) (a:=a0) (c:=cE Z a0)).symm.trans h)
      ·exact bC h
     |_=>exact bC h
    |_=>exact bC h
   |cons _ _ =>
    induction o using nG with
    |Call g PJ Bi p0=>cases PJ<;>exact bC h
    |Constant c0 j0 p0 =>
     cases c0 with
     |str s0=>obtain _ | ⟨a0,_ | ⟨_,_⟩⟩:=args<;>exact bC h
     |_=>exact bC h
    |_=>exact bC h
  |_=>exact bC h
 |_=>exact bC h
def Uw(h:gC (cE Z e)=true):HD e=true\/∃JA tg iter DA sc pos,e=.ListComp JA [⟨tg,iter,DA,0⟩] sc pos/\(DA=[]\/∃c1,DA=[c1]):=(Cd h).imp (λz=>by
 rcases z with ⟨_,_,_,_,_,_,rfl,_⟩ | ⟨_,_,_,_,_,_,rfl,_⟩ | ⟨_,_,_,_,_,_,_,_,rfl,_⟩ | ⟨_,_,_,rfl,_⟩<;>rfl) id
def mP(h:ED P C c U=some (x,U')):gC c=true:=by
 cases c<;>first | rfl | cases (show(none:Option (Exc×Env))=some _ from h)
def RX{sc:kG}{tg it:vA}{ci:E}{as cs:List E}{ce:E}(h:gC (KH Z sc tg it ci as cs ce)=true):False:=by
 unfold KH at h
 (repeat' split at h)<;>cases h
def qR(K:fA)(P:SA)(C:Calls)(n:Nat):Prop:=∀(X:Cx) (Z:CC),KA X K P C Z->∀e:vA,sizeOf e<n->PE X e (kY X K P C (cE Z e))
theorem Be(ih:qR K P C n)(xo:KA X K P C Z):∀es:List vA,sizeOf es<n->es.all aAc=true->PA X es (t0a X K P C (eB Z es))
 |[],_,_=>by
  intro pos aA s Y H Q I ⟨U,G,x,U',r,e0,k⟩;simp only[eB,UJ] at e0;cases e0
 |e::es,hs,ns=>by
  have ID:=ns;rw[PB,qA] at ID;refine TA.FN (GF (FX (zF xo e).h (ih _ _ xo e (JM hs))) (Be ih xo es (AQ hs) ID.2) (dC ID.1 _ _)) λY H Q hz=>?_
  obtain⟨U,G,x,U',r,e0,k⟩:=hz;simp only[eB,UJ] at e0;split at e0
  ·rename_i v U1 q1;exact .inl ⟨U,G,v,U1,r,q1,λy H1 G1 a1 _=>⟨U1,G1,x,U',a1.pA,e0,k.pre (AA.s r a1)⟩⟩
  ·exact .inr ⟨U,G,x,U',r,e0,k⟩
theorem Uy:ED P C (.call f es) U=(match VB P C es U with
  |some (.ok hs,U1)=>match XC (P f) (C f) hs U1 with
   |some (.ex x,U')=>some (x,U')
   |_=>none
  |_=>UJ P C es U):=rfl
def q0a(X:Cx)(K:fA)(P:SA)(C:Calls)(cs:List E):TA:=λY H _=>∃U G x U',CA K U Y H G/\YK P C cs U=some (x,U')/\gH X K U Y H G U' x
theorem Ae(ih:qR K P C n)(xo:KA X K P C Z):∀es:List vA,sizeOf es<n->es.all aAc=true->PA X es (q0a X K P C (eB Z es))
 |[],_,_=>by
  intro pos aA s Y H Q I ⟨U,G,x,U',r,e0,k⟩;simp only[eB,YK] at e0;cases e0
 |e::es,hs,ns=>by
  have ID:=ns;rw[PB,qA] at ID;refine TA.FN (GF (FX (zF xo e).v (ih _ _ xo e (JM hs))) (Ae ih xo es (AQ hs) ID.2) (dC ID.1 _ _)) λY H Q hz=>?_
  obtain⟨U,G,x,U',r,e0,k⟩:=hz;simp only[eB,YK] at e0;split at e0
  ·rename_i v U1 q1;exact .inl ⟨U,G,v,U1,r,q1,λy H1 G1 a1 _=>⟨U1,G1,x,U',a1.pA,e0,k.pre (AA.s r a1)⟩⟩
  ·exact .inr ⟨U,G,x,U',r,e0,k⟩
theorem Ee:ED P C (.FF c f es) U=(match uD P C es U with | some (.ok ds,U1)=>if(P f).length=ds.length+1 then(match C f (.ow (.ins c [] []) true false::ds.map .sh) with | some (.ex x,_)=>some (x,U1) | _=>none) else none | _=>none):=rfl
theorem Fe:ED P C (.fG i m tb (e0::es)) U=(match U[i]? with | some (.ow (.ins c ns ds) p l)=>(match oH c ns m tb with | some f=>(match VB P C (e0::es) U with | some (.ok hs,U1)=>(match XC (P f) (C f) (.slot i::hs) U1 with | some (.ex x,U')=>some (x,U') | _=>none) | _=>none) | none=>none) | _=>none):=rfl
def eNa(ih:qR K P C n)(xo:KA X K P C Z)(e:vA)(wB:sizeOf e<n+1)(h:Cc Z e):PE X e (kY X K P C (cE Z e)):=by
 intro aA s Y H Q I ⟨U,G,x,U',r,e0,k⟩;rcases h with ⟨f,p,a,aAj,pos,g,rfl,hf,ns,hc⟩ | ⟨x1,p,m,NA,as,pos,tb,i,rfl,hm,hi,ns,zM,dS,hc⟩ | ⟨es,k0,p,rfl,ns,hc⟩
 ·rw[hc] at e0;obtain⟨h1,h2,h3,h4⟩:=CC.bF xo hf (λz=>nomatch z);obtain⟨Ca,fa,fd,ps,k0,hn,hm,M,cl,_,F,hr,hb⟩:=(xo.obj f g h2).ex;have ID:=ns;rw[PB,qA] at ID;rw[Ee] at e0;split at e0
  case h_2=>cases e0
  rename_i ds U1 q1;split at e0
  case isFalse=>cases e0
  rename_i hl;split at e0
  case h_2=>cases e0
  rename_i x' OA q2;cases e0;refine tRa M F hr h1 hm hb (O0 xo (a::aAj) ns) h3 (dC ID.1 _ _) (AG ID.2 _ _).1 aA s Y H Q I ⟨U,G,ds,_,r,q1,λxs H1 G1 a1 rx=>?_⟩;refine⟨λv p H'=>∃Ca G',v=.ref Ca/\AA K U Y H G U' H' G'/\fB K VA x.cls=some (some (.ref Ca))/\lE K Ca/\NJ K G' Ca p x,λy dx ny uL ne=>⟨by rw[fC,rx.len,hl],_,G1,x,OA,Yi a1 rx hn cl ny uL ne,by rw[fC,YA,hl],q2,λH' G' Ca p b hn hg hp=>⟨Ca,G',rfl,Xi a1 ny uL ne b,hn,hg,hp⟩⟩,λkD b Cb p H' s' I' F' hz=>?_⟩;obtain⟨Ca,G',z,b1,b2,b3,b4⟩:=hz;cases z;exact k kD Y H' G' s' b Cb p (AA.s r b1) I' F' b2 b3 b4
 ·rw[hc] at e0
  cases as with
  |nil=>cases (show(none:Option (Exc×Env))=some _ from e0)
  |cons a0 PJ =>
   have hp:=CC.KI xo hi (pos:=p);have ID:=ns;rw[PB,qA] at ID;replace e0:=Fe.symm.trans e0;split at e0
   case h_2=>cases e0
   rename_i c ns0 ds _ _ hs;split at e0
   case h_2=>cases e0
   rename_i f kL;split at e0
   case h_2=>cases e0
   rename_i wM U1 q1;split at e0
   case h_2=>cases e0
   rename_i x' U2 q2;cases e0;unfold oH at kL;split at kL
   ·cases kL
   rename_i yI;obtain⟨Ca,fa,fd,ps,k0,hn,M,F,hr,hb,RC⟩:=(xo.R7 m tb c f hm kL).ex;obtain⟨a,SH,_,Cb,dx,vs,h1,h2,h3,h4,h5⟩:=r.ow i _ _ _ hs;rw[hn] at h1;cases h1;have hK:=xo.nC;refine wRa hp (by rw[hK];exact h4.cl) M F hr hb (fP xo (a0::PJ) ns) (dC ID.1 _ _) (AG ID.2 _ _).1 (P7 ns zM dS _) aA s Y H Q I ⟨.ref a,SH,a,dx,_,rfl,h2,E7 (by simpa using yI),U,G,wM,U1,r,q1,λxs H1 G1 a1 rx=>?_⟩;have tQ:VD K H1 G1 (xA U1 Y) (UD H) Y (.slot i::wM) (.ref a::xs):=⟨.ref a,xs,rfl,SH,rx,λd b z=>nomatch z⟩
   obtain⟨as,G2,OA,d1,d2,d3,d4⟩:=ie a1 tQ q2;refine⟨λv p H'=>∃Ca G',v=.ref Ca/\AA K U Y H G U' H' G'/\fB K VA x.cls=some (some (.ref Ca))/\lE K Ca/\NJ K G' Ca p x,⟨?_,as,G2,x,OA,d1,d2,d3,λH' G' Ca p b hn hg hp=>⟨Ca,G',rfl,d4 H' G' b,hn,hg,hp⟩⟩,λkD b Cb p H' s' I' F' ⟨Ca,G',z,b1,b2,b3,b4⟩=>?_⟩
   ·have:=d1.len
    rw[YA] at this
    lia
   ·cases z;exact k kD Y H' G' s' b Cb p (AA.s r b1) I' F' b2 b3 b4
 ·rw[hc] at e0;exact v8 (Ae ih xo es (eX (by simp;lia) wB) ns) aA s Y H Q I ⟨U,G,x,U',r,e0,k⟩
def zw(ih:qR K P C n)(xo:KA X K P C Z)(e:vA)(wB:sizeOf e<n+1):PE X e (kY X K P C (cE Z e)):=by
 intro aA s Y H Q I ⟨U,G,x,U',r,e0,k⟩;rcases Cd (mP e0) with (⟨f,p,a,aAj,pos,g,rfl,hf,ns,hc⟩ | ob) | ⟨JA,tg,iter,DA,sc,pos,rfl,rfl | ⟨c1,rfl⟩⟩
 case inl.inr=>exact eNa ih xo e wB ob aA s Y H Q I ⟨U,G,x,U',r,e0,k⟩
 case inr.inl=>exact(RX (show gC (KH Z sc tg iter (cE Z iter) (iM Z iter) [] (cE (Z.inner sc) JA))=true from mP e0)).elim
 case inr.inr=>exact(RX (show gC (KH Z sc tg iter (cE Z iter) (iM Z iter) [cE (Z.inner sc) c1] (cE (Z.inner sc) JA))=true from mP e0)).elim
 rw[hc] at e0;obtain⟨h1,h2,h3,h4⟩:=CC.bF xo hf (λz=>nomatch z);obtain⟨fa,fd,ps,k0,F,hr,hm,hk,hb⟩:=(xo.fnX f g h2).ex;have ID:=ns;rw[PB,qA] at ID;rw[Uy] at e0
 have Pu:UJ P C (eB Z (a::aAj)) U=some (x,U')->wA (model X.prog X.w) X.A (eval (.Call (.Name f p) (a::aAj) [] pos) X.env) (EP X aA Y Q) X.xe s:=λz =>
  Vj F hr h1 hm hk hb (Be ih xo (a::aAj) (eX (by simp;lia) wB) ns) h3 (dC ID.1 _ _) (AG ID.2 _ _).1 aA s Y H Q I ⟨U,G,x,U',r,z,k⟩
 split at e0
 ·rename_i hs U1 q1;split at e0
  ·rename_i x' U2 q2;cases e0;refine Vj F hr h1 hm hk hb (fP xo (a::aAj) ns) h3 (dC ID.1 _ _) (AG ID.2 _ _).1 aA s Y H Q I ⟨U,G,hs,U1,r,q1,λxs H1 G1 a1 rx=>?_⟩;obtain⟨as,G2,OA,d1,d2,d3,d4⟩:=ie a1 rx q2;refine⟨λv p H'=>∃Ca G',v=.ref Ca/\AA K U Y H G U' H' G'/\fB K VA x.cls=some (some (.ref Ca))/\lE K Ca/\NJ K G' Ca p x,⟨?_,as,G2,x,OA,d1,d2,d3,λH' G' Ca p b hn hg hp=>⟨Ca,G',rfl,d4 H' G' b,hn,hg,hp⟩⟩,λkD b Cb p H' s' I' F' ⟨Ca,G',z,b1,b2,b3,b4⟩=>?_⟩
   ·have:=d1.len
    rw[YA] at this
    lia
   ·cases z;exact k kD Y H' G' s' b Cb p (AA.s r b1) I' F' b2 b3 b4
  ·cases e0
 ·exact Pu e0
theorem Cg:∀n:Nat,qR K P C n
 | 0=>λ_ _ _ _ h=>absurd h (SY _)
 |n+1=>λ_ _ xo e h=>zw (Cg n) xo e h
def oV(xo:KA X K P C Z)(e:vA):PE X e (kY X K P C (cE Z e)):=Cg _ _ _ xo e (zK _)
def Hw(xo:KA X K P C Z)(h:DA=[]\/∃c1,DA=[c1]):Ts X K P C (.ListComp JA [⟨tg,iter,DA,0⟩] sc pos) (cE Z (.ListComp JA [⟨tg,iter,DA,0⟩] sc pos)):=by
 intro W x i p pos _ _ _ _ aA s Y H D I ⟨U,G,x0,U',r,e0,k⟩;rcases h with rfl | ⟨c1,rfl⟩
 ·exact(RX (show gC (KH Z sc tg iter (cE Z iter) (iM Z iter) [] (cE (Z.inner sc) JA))=true from mP (P:=P) (C:=C) e0)).elim
 ·exact(RX (show gC (KH Z sc tg iter (cE Z iter) (iM Z iter) [cE (Z.inner sc) c1] (cE (Z.inner sc) JA))=true from mP (P:=P) (C:=C) e0)).elim
end
section
variable{X:Cx}{K:fA}{P:SA}{C:Calls}{W:Nat}{Z:CC}{aA kD:List (eA×rB)}{Y:St}{H G:Hp}{s:zA}
abbrev Cx.re(X:Cx)(E:dA->zA->Prop)(pn:List (eA×rB)):Cx:={ X with xe:=E,pn:=pn }
abbrev RE(X:Cx)(b:List WA)(t:Cx->TS):Prop:=∀E pn,YM (model X.prog X.w) X.A X.env E->LC (Cx.re X E pn) b (t (Cx.re X E pn))
abbrev Cx.ma(X:Cx)(v:dA):Cx:={ X with A:=X.A.mark (some v),calm:=false,xe:=λ_ _=>False }
def dPa{E:dA->zA->Prop}(o:X.Ok):(Cx.re X E pn).Ok :=
 ⟨o.mod,o.kind,o.glob,o.BB,o.above,o.inj,o.has,o.RK,o.hd,o.frames,o.cD,o.pP,o.bs,o.nI,o.wL,o.nM,o.TF,o.dJ⟩
def jPa{E:dA->zA->Prop}(o:(Cx.re X E pn).Ok):X.Ok :=
 ⟨o.mod,o.kind,o.glob,o.BB,o.above,o.inj,o.has,o.RK,o.hd,o.frames,o.cD,o.pP,o.bs,o.nI,o.wL,o.nM,o.TF,o.dJ⟩
def yOa(o:X.Ok):(Cx.ma X v).Ok :=
 ⟨o.mod,o.kind,o.glob,o.BB,o.above,o.inj,o.has,o.RK,(λz=>nomatch z),o.frames,o.cD,o.pP,o.bs,o.nI,o.wL,o.nM,o.TF,o.dJ⟩
def Jg{E:dA->zA->Prop}(I:cA X aA Y H s):cA (Cx.re X E (X.pn++aA)) [] Y H s :=
 ⟨dPa I.ok,I.os,I.bare,I.base,I.loc,I.cell,I.free,I.aF,λp hp=>I.pin p (by simpa using hp),I.IA,I.len⟩
def Kg{E:dA->zA->Prop}(I:cA (Cx.re X E (X.pn++aA)) kD Y H s):cA X aA Y H s :=
 ⟨jPa I.ok,I.os,I.bare,I.base,I.loc,I.cell,I.free,I.aF,λp hp=>I.pin p (cN _ hp),I.IA,I.len⟩
def j6(I:cA X aA Y H s):cA (Cx.ma X v) aA Y H s :=
 ⟨yOa I.ok,I.os,I.bare,I.base,I.loc,I.cell,I.free,I.aF,I.pin,I.IA,I.len⟩
def oDa{E:dA->zA->Prop}(o:X.Ok)(I:cA (Cx.ma (Cx.re X E (X.pn++aA)) v) kD Y H s):cA X aA Y H s :=
 ⟨o,I.os,I.bare,I.base,I.loc,I.cell,I.free,I.aF,λp hp=>I.pin p (cN _ hp),I.IA,I.len⟩
theorem KA.re{E:dA->zA->Prop}(xo:KA X K P C Z):KA (Cx.re X E pn) K P C Z :=
 KA.of xo.nC xo.UH xo.nm xo.nd xo.calm xo.hh xo.hu xo.c xo.BB (λx f h=>⟨(xo.fn x f h).ex⟩) (λx ns h=>⟨(xo.cls x ns h).ex⟩) (λm tb c f h1 h2=>⟨(xo.uE m tb c f h1 h2).ex⟩) xo.rm xo.sub xo.CD xo.BF ⟨xo.exc,λx h=>⟨(xo.NG x h).ex⟩⟩ xo.MA ⟨λx f h=>⟨(xo.fnX x f h).ex⟩,λx f h=>⟨(xo.obj x f h).ex⟩,λm tb c f h1 h2=>⟨(xo.R7 m tb c f h1 h2).ex⟩⟩ xo.tp
def Gu(r:CA K U Y H G)(h:U[i]?=some (.sh d)):NB K U Y H G (U.set i .mv) (Y.set i none) H G:=by
 have zD:∀{j:Nat} {sl:Sl},(U.set i .mv)[j]?=some sl->(j=i/\sl=.mv)\/(j≠i/\U[j]?=some sl/\(Y.set i none)[j]?=Y[j]?):=λ{j sl} q=>by
  rcases rH q with ⟨h1,h2,_⟩ | ⟨h1,h2⟩
  ·exact .inl ⟨h1,h2⟩
  ·exact .inr ⟨h1,h2,gE (λz=>h1 z.symm)⟩
 refine⟨⟨by rw[kF,kF];exact r.len,r.sub,λj d' q=>?_,λj d' p l q=>?_,λj k d1 p1 l1 d2 p2 l2 a q1 q2 q3 q4=>?_⟩,Ext.refl,λa ⟨j,d',p,l,q1,q2⟩=>?_,λj q=>?_,λj d' l q=>?_,by rw[kF]⟩
 ·rcases zD q with ⟨_,z⟩ | ⟨_,z,z2⟩
  ·cases z
  ·rw[z2];exact r.sh j d' z
 ·rcases zD q with ⟨_,z⟩ | ⟨_,z,z2⟩
  ·cases z
  ·rw[z2];exact r.ow j d' p l z
 ·rcases zD q1 with ⟨_,z⟩ | ⟨_,z,z2⟩
  ·cases z
  ·rcases zD q2 with ⟨_,w⟩ | ⟨_,w,w2⟩
   ·cases w
   ·rw[z2] at q3;rw[w2] at q4;exact r.inj _ _ _ _ _ _ _ _ _ z w q3 q4
 ·rcases zD q1 with ⟨_,z⟩ | ⟨_,z,z2⟩
  ·cases z
  ·rw[z2] at q2;exact .inl ⟨j,d',p,l,z,q2⟩
 ·rcases zD q with ⟨_,z⟩ | ⟨_,z,z2⟩
  ·cases z
  ·exact⟨z,z2⟩
 ·have hj:j≠i:=λz=>by rw[z,h] at q;cases q
  exact⟨gE (λz=>hj z.symm),d',by rw[gE (λz=>hj z.symm)];exact q⟩
def Km(h:store i (.sh d) U=some U'):U'=U.set i (.sh d)/\i<U.length:=by
 unfold store at h;split at h
 ·cases h
 ·cases h
 ·cases h
 ·rename_i q;cases h;exact⟨rfl,(LD.mp q).1⟩
def Eu(a0:NB K U Y H G U1 Y1 H1 G1)(rep:iA K G1 c v)(e2:store i (.sh c) U1=some U2)(e3:store j (.sh c) U2=some U3)(xI:i≠j) :
  NB K U Y H G (U3.set i .mv) (((Y1.set i (some v)).set j (some v)).set i none) H1 G1:=by
 have b2:=a0.pA.gY e2 rep;have b3:=b2.pA.gY e3 rep;obtain⟨q1,l1⟩:=Km e2;obtain⟨q2,l2⟩:=Km e3;refine a0.trans (b2.trans (b3.trans (Gu b3.pA (d:=c) ?_)));rw[q2,gE (λz=>xI z.symm),q1,gI l1]
def p_(xo:KA X K P C Z)(hx:Z.bL x=.MA cs)(hc:c∈cs)(RC:fB K VA c=some (some (.ref Ca))):∃D0,X.mg x=some (.ref D0)/\(∃i,FG K D0 i)/\dH K Ca (.ref D0)=some true/\Gl X x/\(x==("__debug__":bA))=false:=by
 unfold CC.bL at hx;split at hx
 ·cases hx
 ·rename_i DP;split at hx
  ·rename_i hig;obtain⟨D0,d1,d2,d3⟩:=(xo.MA x cs hx).ex;refine⟨D0,d1,d2,d3 _ hc Ca RC, ?_, ?_⟩
   ·unfold Gl Wa;rw[xo.nm];exact uB hig
   ·simp only[YE,mU,dU] at DP;exact DP.1.1
  ·cases hx
abbrev Z7:Ends:={ nx:=λ_ _=>False,rt:=λ_ _=>False }
def SP.no(h:SP X aA Z7 f s):False:=by
 induction f using dZ with
 |ret u=>obtain⟨_,_,_,_,_,z⟩:=h;exact z
 |_=>obtain⟨_,_,_,z⟩:=h;exact z
def SP.un{E:dA->zA->Prop}{D:Ends}(h:SP (Cx.re X E (X.pn++aA)) kD D f s):SP X aA D f s:=by
 induction f using dZ with
 |ret u=>obtain⟨v,Y',H',J,z⟩:=h;exact⟨v,Y',H',Kg J,z⟩
 |_=>obtain⟨Y',H',J,z⟩:=h;exact⟨Y',H',Kg J,z⟩
def So{D:Ends}(hb:RE X body λ_=>t)(I:cA X aA Y H s)(h:t D Y H) :
  wA (model X.prog X.w) X.A (exec (.Try body [h0] [] [] pos) X.env) (SP X aA D) X.xe s :=
 wpAny_Try_except (DE (hb _ (X.pn++aA) kr [] s Y H D (Jg I) h) (λf s1 h1=>by
  have h1:=SP.un h1
  induction f using dZ with
  |next=>exact OY h1
  |_=>exact h1) λ_ _ z=>z)
theorem mI.c{a c:eA}(F:mI X aA H h a c p fl):∃oe vs a0,h.get? a=some oe/\(oe.cls=.ref c/\oe.dict=p.1)/\oe.data=.fields vs/\NK vs a0 p.2:=by
 obtain⟨oe,vs,a0,T,oT,ts,he,vM,hd,h0,_⟩:=F;exact⟨oe,vs,a0,he,vM,hd,h0⟩
theorem Ro(xo:KA X K P C Z)(cD:X.stack=X.env::X.outer)(fr:X.env.frame=some X.env.locals){D:Ends}{nm:Option bA}
  (cF:RE X body λX=>XG X K P C W cb) (hx:Z.bL x=.MA cs) (I:cA X aA Y H s) (r:CA K U Y H G) (q:DC P C W cb U=some (x0,U1)) (hc:cs.contains x0.cls=true)
  (h:∀{E kD Y' H' G' s' a Ca p},NB K U Y H G U1 Y' H' G'->cA (Cx.re X E (X.pn++aA)) kD Y' H' s'->uC (Cx.re X E (X.pn++aA)) kD H' a->mI (Cx.re X E (X.pn++aA)) kD H' s'.heap a Ca p .none ->
   fB K VA x0.cls=some (some (.ref Ca))->lE K Ca->NJ K G' Ca p x0->BJ (model X.prog X.w) (X.A.mark (some (.ref a))) (.handlers (.ref a) [.ExceptHandler none nm su hp] X.env) (λr s₂=>match r with
    |.ok f=>(match nm with
     |none=>SP X aA D f s₂
     |some n=>wA (model X.prog X.w) X.A (do bindName X.env n .none;unbindBehindTheSuite X.env n hp) (λ_ s₃=>SP X aA D f s₃) X.xe s₂)
    |.error x=>cameBackBy (model X.prog X.w) X.A X.env X.xe x s₂) s') :
  wA (model X.prog X.w) X.A (exec (.Try body [.ExceptHandler (some (.Name x np)) nm su hp] [] [] pos) X.env) (SP X aA D) X.xe s:=by
 refine wpAny_Try_except (DE (cF _ (X.pn++aA) kr [] s Y H Z7 (Jg I) ⟨U,G,x0,U1,r,q,λkD Y' H' G' s' a Ca pp iH I' F RC hg mL=>?_⟩) (λf s1 h1=>(SP.no h1).elim) λ_ _ z=>z);refine i8 (X:=Cx.re X _ (X.pn++aA)) I' cD fr F λh1 I1 F1=>NV (X:=Cx.re X _ (X.pn++aA)) I1 F.1 F1 λh2 I2 F2=>?_
 obtain⟨D0,d1,d2,d3,d4,d5⟩:=p_ xo hx (c:=x0.cls) (by simpa using hc) RC;have hK:=xo.nC;subst hK;obtain⟨oe,_,_,he,vM,_⟩:=F2.c;refine wpAny_handleBy_cons (codeAny_handlers_test (tL (X:=Cx.ma (Cx.re X _ (X.pn++aA)) (.ref a)) (j6 I2) d4 d1 ?_ d5)) (by intro z;cases z);exact h_ (j6 (v:=.ref a) I2).wC hg.q.choose_spec d2.choose_spec d3 he vM.1 (h iH I2 F.1 F2 RC hg mL)
def w1a(xo:KA X K P C Z)(cD:X.stack=X.env::X.outer)(fr:X.env.frame=some X.env.locals){np hp pos:BC}{D:Ends}{i:Nat}{st:WA}
  (cF:RE X body λX=>XG X K P C W cb) (hx:Z.bL x=.MA cs) (I:cA X aA Y H s) (r:CA K U Y H G) (q:DC P C W cb U=some (x0,U1)) (hc:cs.contains x0.cls=true) (hi:X.N[i]?=some n) (hn:X.env.scope.names.lookup n=some .local)
  (h:∀{E F kD Y' H' G' s' a},NB K U Y H G U1 Y' H' G'->iA K G' (.CB x0.cls x0.num) (.ref a)->cA (Cx.ma (Cx.re X E (X.pn++aA)) (.ref a)) kD (Y'.set i (some (.ref a))) H' s' ->
   wA (model X.prog X.w) (X.A.mark (some (.ref a))) (execs (st::su) X.env) (λf s₃=>wA (model X.prog X.w) X.A (do bindName X.env n .none;unbindBehindTheSuite X.env n hp) (λ_ s₃=>SP X aA D f s₃) X.xe s₃) F s') :
  wA (model X.prog X.w) X.A (exec (.Try body [.ExceptHandler (some (.Name x np)) (some n) (st::su) hp] [] [] pos) X.env) (SP X aA D) X.xe s:=by
 refine Ro xo cD fr cF hx I r q hc λiH I2 fa F2 RC hg mL=>codeAny_handlers_suite_as (NV I2 fa F2 λh3 I3 F3=>?_)
 obtain⟨oe,vs,_,he,vM,hd,_⟩:=F3.c
 refine a9 (X:=Cx.ma (Cx.re X _ (X.pn++aA)) _) (v:=.ref _) (j6 (l6 (o:=.ext (FH _ _ _)) I3 fa ⟨⟨oe,vs,he,vM,hd⟩,⟨oe,he⟩,λh4 h5 z w=>by
  obtain⟨o1,v1,z1,z2,z3⟩:=z
  exact⟨o1,v1,w o1 z1,z2,z3⟩⟩)) (by rw[xo.UH];exact xo.nd) hi (.inl hn) rfl (λs5 I5=>h (iH.trans ⟨iH.pA.rL fa.1,Ext.rL iH.pA.sub fa.1,λ_ h=>.inl h,λ_ h=>⟨h,rfl⟩,λ_ d _ h=>⟨rfl,d,h⟩,rfl⟩) ?_ I5) (.inr hn)
 simp only[iA];exact⟨_,_,_,rfl,RC,hg,eC,mL.pay.mono (Sm.laid (ZA.free iH.pA.sub fa.1))⟩
def jUa(xo:KA X K P C Z)(cD:X.stack=X.env::X.outer)(fr:X.env.frame=some X.env.locals){x n y:bA}
  (hb:RE X body λ_=>IF K P C W cb) (cF:RE X body λX=>XG X K P C W cb)
  (hx:Z.bL x=.MA cs) (hi:X.N[i]?=some n) (hn:X.env.scope.names.lookup n=some .local) (gS:YE n=false) (hj:X.N[j]?=some y) (hy:L2.Loc X.env.scope y) (hyf:X.fn y=true\/X.env.scope.names.lookup y=some .local) :
  PS X (.Try body [.ExceptHandler (some (.Name x np)) (some n) [.Assign [.Name y p3] (.Name n p4) p5] hp] [] [] pos) (tS K P C W (.oO cb cs i j)):=by
 intro aA s Y H D I ⟨U,G,fl,U',r,e,k⟩;replace e:(match MA P C W cb U with | some (.nx,U1)=>some (.nx,U1) | _=>SJ cs i j (DC P C W cb U))=some (fl,U'):=e;split at e
 ·rename_i U1 q;cases e;exact So hb I ⟨U,G,.nx,U',r,q,k⟩
 ·unfold SJ at e;split at e
  ·cases e
  ·rename_i x0 U1 q;split at e
   ·rename_i hc
    cases q2:store i (.sh (.CB x0.cls x0.num)) U1 with
    |none=>rw[q2] at e;cases e
    |some U2 =>
     rw[q2] at e;simp only[oE] at e
     cases q3:store j (.sh (.CB x0.cls x0.num)) U2 with
     |none=>rw[q3] at e;cases e
     |some U3 =>
      rw[q3] at e;cases e;simp only[YE,dU] at gS;have hN:X.N.Nodup:=by rw[xo.UH];exact xo.nd
      refine w1a xo cD fr cF hx I r q hc.1 hi hn λ{E F kD Y' H' G' s' a} iH rep I5=>?_
      have il:i<(Y'.set i (some (.ref a))).length:=by rw[I5.len];exact(LD.mp hi).1
      refine DE (oUa (Ck (X:=Cx.ma (Cx.re X E (X.pn++aA)) (.ref a)) (pos:=p5) (pos':=p3) (i:=j) hN hj hy (lQ (pos:=p4) hi (.inl hn) gS.1.1 gS.1.2) rfl hyf) kD s' _ _ { Z7 with nx:=λY6 H6=>Y6=(Y'.set i (some (.ref a))).set j (some (.ref a))/\H6=H' } I5 ⟨.ref a,gI (by simpa using il),rfl,rfl⟩) (λf s6 h6=>?_) λ_ _ z=>z.elim
      induction f using dZ with
      |next =>
       obtain⟨Y6,H6,J,rfl,rfl⟩:=h6;exact eAa (oDa I.ok J) hN hi hn λs7 J7=>⟨_,_,J7,k _ _ _ (Eu iH rep q2 q3 hc.2)⟩
      |ret u=>obtain⟨_,_,_,_,_,z⟩:=h6;exact z.elim
      |_=>obtain⟨_,_,_,z⟩:=h6;exact z.elim
   ·cases e
def fUa(hc:∀U,ex P C W c U=MA P C W cb U)
  (hb:RE X body λ_=>IF K P C W cb):PS X (.Try body [h0] [] [] pos) (tS K P C W c) :=
 λaA s Y H D I hz=>(by obtain⟨U,G,fl,U',r,e,k⟩:=hz;exact So hb I ⟨U,G,fl,U',r,(hc U).symm.trans e,k⟩)
def x1a(xo:KA X K P C Z)(cD:X.stack=X.env::X.outer)(fr:X.env.frame=some X.env.locals){D:Ends}{st:WA}
  (cF:RE X body λX=>XG X K P C W cb) (hx:Z.bL x=.MA cs) (I:cA X aA Y H s) (r:CA K U Y H G) (q:DC P C W cb U=some (x0,U1)) (hc:cs.contains x0.cls=true)
  (h:∀{E kD Y' H' G' s' a Ca p},NB K U Y H G U1 Y' H' G'->cA (Cx.re X E (X.pn++aA)) kD Y' H' s'->uC (Cx.re X E (X.pn++aA)) kD H' a->mI (Cx.re X E (X.pn++aA)) kD H' s'.heap a Ca p .none->NJ K G' Ca p x0 ->
   wA (model X.prog X.w) (X.A.mark (some (.ref a))) (execs (st::su) X.env) (SP X aA D) (notedBy (model X.prog X.w) (X.A.mark (some (.ref a))) X.env (cameBackBy (model X.prog X.w) X.A X.env X.xe)) s') :
  wA (model X.prog X.w) X.A (exec (.Try body [.ExceptHandler (some (.Name x np)) none (st::su) hp] [] [] pos) X.env) (SP X aA D) X.xe s :=
 Ro xo cD fr cF hx I r q hc λiH I2 fa F2 _ _ mL=>codeAny_handlers_suite (NV I2 fa F2 λh3 I3 F3=>h iH I3 fa F3 mL)
def hUa
  (hb:RE X body λ_=>IF K P C W cb):PS X (.Try body hs o f pos) (tS K P C W (oY cb hs o f)):=YB
def yk{st:WA}(h:∀U,oF P C W c U=none):PS X st (JD X K P C W c):=λaA s Y H D I hz=>by obtain⟨U,G,x,U',r,e,k⟩:=hz;rw[h] at e;cases e
def eTa:PS X (.Try body hs o f pos) (JD X K P C W (oY cb hs o f)):=by
 unfold oY
 (repeat' split)<;>exact yk λU=>rfl
abbrev Cx.mr(X:Cx)(v:dA)(E:dA->zA->Prop):Cx:={ X with A:=X.A.mark (some v),calm:=false,xe:=E }
def rDa{E:dA->zA->Prop}(I:cA X aA Y H s):cA (Cx.mr X v E) aA Y H s :=
 ⟨⟨I.ok.mod,I.ok.kind,I.ok.glob,I.ok.BB,I.ok.above,I.ok.inj,I.ok.has,I.ok.RK,(λz=>nomatch z),I.ok.frames,I.ok.cD,I.ok.pP,I.ok.bs,I.ok.nI,I.ok.wL,I.ok.nM,I.ok.TF,I.ok.dJ⟩,I.os,I.bare,I.base,I.loc,I.cell,I.free,I.aF,I.pin,I.IA,I.len⟩
def sDa{E E':dA->zA->Prop}(o:X.Ok)(I:cA (Cx.mr (Cx.re X E (X.pn++aA)) v E') kD Y H s):cA X aA Y H s :=
 ⟨o,I.os,I.bare,I.base,I.loc,I.cell,I.free,I.aF,λp hp=>I.pin p (cN _ hp),I.IA,I.len⟩
def Ze{E E':dA->zA->Prop}(f:uC (Cx.mr (Cx.re X E (X.pn++aA)) v E') kD H b):uC X aA H b:=⟨f.1,f.2.1,f.2.2.1,f.2.2.2.1,f.2.2.2.2.1,λp hp=>f.2.2.2.2.2 p (cN _ hp)⟩
def KZ{E E':dA->zA->Prop}(cD:X.stack=X.env::X.outer)(fr:X.env.frame=some X.env.locals)(o:X.Ok)(I:cA (Cx.mr (Cx.re X E (X.pn++aA)) (.ref a) E') kD Y H s)(F:GG (Cx.mr (Cx.re X E (X.pn++aA)) (.ref a) E') kD H s.heap b c p)
  (h:∀s',cA X aA Y H s'->GG X aA H s'.heap b c p->X.xe (.ref b) s'):notedBy (model X.prog X.w) (X.A.mark (some (.ref a))) X.env (cameBackBy (model X.prog X.w) X.A X.env X.xe) (.ref b) s:=by
 refine i8 (X:=Cx.mr (Cx.re X _ (X.pn++aA)) (.ref a) _) I cD fr F λh5 I5 F5=>?_
 obtain⟨oe,vs,_,T,_,_,he,_,hd,_,_,h1,_⟩:=id F5;unfold cameBackBy;refine BA (ZG he hd h1 ?_);rw[vB (show ¬((Value.ref T==Value.none)=true) from by simp)];refine Qe I5 F.1 F5 λh6 I6 F6=>?_
 obtain⟨oe,vs,a6,T,oT,ts,he,hc,hd,h0,fT,hr⟩:=F6;exact h _ (sDa o I6) ⟨Ze F.1,.inr ⟨_,oe,vs,a6,T,oT,ts,he,hc,hd,h0,Ze fT,hr⟩⟩
def fTa(xo:KA X K P C Z)(cD:X.stack=X.env::X.outer)(fr:X.env.frame=some X.env.locals)
  (cF:RE X body λX=>XG X K P C W cb) (hx:Z.bL x=.MA cs) (hy:Z.glob ("NoText":bA)=.exc) :
  PS X (.Try body [.ExceptHandler (some (.Name x np)) none [.Raise (some (.Call (.Name "NoText" p) [.Constant (.str m) k1 p1] [] p2)) none p3] hp] [] [] pos) (JD X K P C W (.pO cb cs)):=by
 intro aA s Y H D I ⟨U,G,x1,U',r,e,k⟩;replace e:iP cs (DC P C W cb U)=some (x1,U'):=e;unfold iP at e;split at e
 ·cases e
 ·rename_i x0 U1 q;split at e
  ·rename_i hc;cases e;have hK:=xo.nC;subst hK;obtain⟨g1,g2,g3,g4⟩:=CC.bF xo hy (λz=>nomatch z);obtain⟨Cn,c1,c2,c3,c4⟩:=(xo.exc "NoText" g2).ex;refine x1a xo cD fr cF hx I r q hc.1 λiH I3 fa F3 mL=>?_
   obtain⟨oe,vs,a0,he,_,hd,h0⟩:=F3.c
   exact Ra (sVa (X:=Cx.mr (Cx.re X _ (X.pn++aA)) (.ref _) _) (t:=WG (tC (.str m)) cI) (D:=D) rfl g1 c2 c4 (GF YS XH rfl) g3 rfl rfl (rDa I3) ⟨fa.1,fa.2⟩ he hd (h0.2 (mL.2 hc.2))
    ⟨by rw[ML];simp,λpn2 b s4 I4 F4=>KZ cD fr I.ok I4 F4 λs6 I6 F6=>k aA _ _ _ s6 b Cn (none,false) iH I6 F6 c1 c3 ⟨trivial,λz=>absurd rfl z⟩⟩)
  ·cases e
def iUa
  (hb:RE X body λ_=>IF K P C W cb):PS X (.Try body hs [] [] pos) (tS K P C W (ET Z cb hs)):=by
 unfold ET;split
 ·rename_i x hh;obtain⟨np,st,q,rfl,_⟩:=Rf hh;split
  ·exact fUa (λU=>rfl) hb
  ·exact YB
 ·exact hUa hb
def gTa(xo:KA X K P C Z)(cD:X.stack=X.env::X.outer)(fr:X.env.frame=some X.env.locals)
  (cF:RE X body λX=>XG X K P C W cb):PS X (.Try body hs [] [] pos) (JD X K P C W (ET Z cb hs)):=by
 unfold ET;split
 ·rename_i x hh;obtain⟨np,st,q,rfl,hr⟩:=Rf hh;obtain⟨p,m,k,p1,p2,p3,rfl⟩:=nWa hr;split
  ·exact fTa xo cD fr cF ‹_› ‹_›
  ·exact yk λU=>rfl
 ·exact eTa
def gUa(xo:KA X K P C Z)(cD:X.stack=X.env::X.outer)(fr:X.env.frame=some X.env.locals)
  (hb:RE X body λ_=>IF K P C W cb) (cF:RE X body λX=>XG X K P C W cb):PS X (.Try body hs [] [] pos) (tS K P C W (A9 Z cb hs)):=iUa hb
def dTa(xo:KA X K P C Z)(cD:X.stack=X.env::X.outer)(fr:X.env.frame=some X.env.locals)
  (cF:RE X body λX=>XG X K P C W cb):PS X (.Try body hs [] [] pos) (JD X K P C W (A9 Z cb hs)):=gTa xo cD fr cF
def kUa(xo:KA X K P C Z)(cD:X.stack=X.env::X.outer)(fr:X.env.frame=some X.env.locals)(TB:kI X Z)
  (hb:RE X body λ_=>IF K P C W cb) (cF:RE X body λX=>XG X K P C W cb):PS X (.Try body hs [] [] pos) (tS K P C W (B9 Z cb hs)):=gUa xo cD fr hb cF
def hTa(xo:KA X K P C Z)(cD:X.stack=X.env::X.outer)(fr:X.env.frame=some X.env.locals)
  (cF:RE X body λX=>XG X K P C W cb):PS X (.Try body hs [] [] pos) (JD X K P C W (B9 Z cb hs)):=dTa xo cD fr cF
def aUa(xo:KA X K P C Z)(hi:Z.slot x=some i)(n:HD e=true)(n2:uX k=true):PS X (.Assign [.Subscript (.Name x p) k p2] e pos) (tS K P C W (kT i k (cE Z k) (cE Z e))):=by
 have h:PS X (.Assign [.Subscript (.Name x p) k p2] e pos) (tS K P C W (.set i (cE Z k) (cE Z e))):=dUa xo hi (zF xo _) (zF xo _) n λv=>by cases k<;>first | rfl | cases n2
 exact h
def eUa(xo:KA X K P C Z):PS X (.Assign [.Tuple ts k p] e pos) (tS K P C W (vT Z ts e (cE Z e))):=by
 exact YB
end
section
variable{K:fA}
def aY(xo:KA X K P C Z)(h:Z.tF x=some i):X.N[i]?=some x/\L2.Loc X.env.scope x/\Z.JN x=true:=by
 unfold CC.tF at h;split at h
 ·rename_i hl
  have hN:X.N[i]?=some x:=by
   unfold CC.slot at h;split at h
   ·cases h
   ·split at h
    ·rw[xo.UH];exact LW h
    ·cases h
  refine⟨hN, ?_,hl⟩;unfold L2.Loc;rw[xo.nm];unfold CC.JN at hl;rw[RI,qA] at hl;rcases hl with hl | hl
  ·exact .inl (uB hl)
  ·exact .inr (uB hl.2)
 ·cases h
def cUa(xo:KA X K P C Z):PS X (.Assign [.Attribute a f p2] e pos) (tS K P C W (ZH Z a f e)):=by
 unfold ZH;split
 ·rename_i x cs hx hf;obtain⟨p,rfl⟩:=fQ hx;split
  ·split
   ·exact bUa xo ‹_› hf (zF xo e) ‹_›
   ·exact YB
  ·exact YB
 ·exact YB
def cTa(xo:KA X K P C Z):PS X (.Assign [.Attribute a f p2] e pos) (JD X K P C W (ZH Z a f e)):=by
 have jA:PS X (.Assign [.Attribute a f p2] e pos) (JD X K P C W .jA):=λaA s Y H D I hz=>(by obtain⟨U,G,x,U',r,e0,k⟩:=hz;exact nomatch e0)
 unfold ZH;split
 ·rename_i x cs hx hf;obtain⟨p,rfl⟩:=fQ hx;split
  ·split
   ·exact TS.HE (B8 (CC.KI xo ‹_›) (oV xo e) (zQ ‹_› _ _ _)) λD Y H hz=>(by obtain⟨U,G,x,U',r,e0,k⟩:=hz;exact⟨U,G,x,U',r,e0,k⟩)
   ·exact jA
  ·exact jA
 ·exact jA
def kTa(xo:KA X K P C Z)(TB:kI X Z)(hi:Z.tF x=some i)(h:XO X K P C e c):PS X (.Assign [.Name x p] e pos) (tS K P C W (.nB i c)):=by
 obtain⟨h1,h2,h3⟩:=aY xo hi;refine TS.HE (h x i p pos (by rw[xo.UH];exact xo.nd) h1 h2 (TB x h3)) λD Y H hz=>?_
 obtain⟨U,G,fl,U',r,e,k⟩:=hz;obtain⟨v,U1,e1,e2⟩:=YJ e k.ne;unfold OH at e2
 cases q:store i v U1 with
 |none=>rw[q] at e2;cases e2
 |some U2 =>
  rw[q] at e2;cases e2;exact⟨U,G,v,U1,r,e1,λx H' G' a hv=>k _ H' G' (AA.store r a q hv)⟩
def N_(xo:KA X K P C Z)(TB:kI X Z){Φ:List E->Prop}
  (ht:uH Z tg=some (one,is)) (hi:jK Z it=some (k0,gA)) (HP:vJ k0 one=true) (fin:∀{wi:TI} {its':List E},(∀x,GJ it X.env x=pure x)->PI X tg it wi->(∀Y H (R:It->Hp->Prop),SI K P C k0 its' Y H R->wi Y H R)->Φ its'):Φ (eB Z gA):=by
 have gen:∀e:vA,it=e->tX e=true->some (WE.of,[e])=some (k0,gA)->Φ (eB Z gA):=λe he hn hq=>by(subst he;cases hq;exact fin (X3 hn _) (PI.or (ik (zF xo it).h) (uk (zF xo it).h)) λY H R q=>Gj xo.nC Y H R q)
 unfold jK at hi;split at hi
 ·rename_i x hx;obtain⟨⟨f,p⟩,args,pos'⟩:=x;obtain rfl:=RW hx;dsimp only at hi;split at hi
  ·rename_i hf;have hf:=uB hf;subst hf;split at hi
   ·rename_i iL;split at hi
    ·rename_i hc;cases hi;rw[qA] at hc;obtain⟨h1,h2,h3,h4⟩:=CC.bF xo iL (λz=>nomatch z);have hm:=xo.BB _ h2;obtain _ | ⟨a,_ | ⟨b,_ | ⟨_,_⟩⟩⟩:=gA
     ·simp at hc
     ·have ns:=hc.1;rw[PB,qA] at ns;exact fin (λ_=>rfl) (jk h1 hm (fP xo [a] hc.1) (by rw[dC ns.1];rfl)) λY H R q=>Dl Y H R q
     ·have ns:=hc.1;rw[PB,qA,PB,qA] at ns;exact fin (λ_=>rfl) (rk h1 hm (fP xo [a,b] hc.1) (by rw[dC ns.1,dC ns.2.1];rfl) (by rw[dC ns.2.1];rfl)) λY H R q=>El Y H R q
     ·simp at hc
    ·cases hi
   ·cases hi
  ·split at hi
   ·rename_i hf;have hf:=uB hf;subst hf;split at hi
    ·rename_i iL;split at hi
     ·rename_i hc;cases hi;rw[qA] at hc;obtain⟨h1,h2,h3,h4⟩:=CC.bF xo iL (λz=>nomatch z);have hm:=xo.BB _ h2;obtain _ | ⟨a,_ | ⟨_,_⟩⟩:=gA
      ·simp at hc
      ·have ns:=hc.1;rw[PB,qA] at ns;obtain⟨elts,kk,tp,rfl⟩:=r9 ht (by simpa[vJ] using HP);exact fin (λ_=>rfl) (fk h1 hm (fP xo [a] hc.1) (by rw[dC ns.1];rfl)) λY H R q=>B2 xo.nC Y H R q
      ·simp at hc
     ·cases hi
    ·cases hi
   ·exact gen _ rfl rfl hi
 ·split at hi
  ·rename_i x h0;obtain⟨f,a,x,c⟩:=x;obtain⟨p,jj,qq,kp,pos',rfl⟩:=cFa h0;clear h0;dsimp only at hi;split at hi
   ·rename_i hc;rw[qA,qA,qA] at hc;obtain⟨⟨⟨hf,hx⟩,ns⟩,h1⟩:=hc;have hf:=uB hf;have hx:=uB hx;have h1:=uB h1;subst hf hx h1;split at hi
    ·rename_i iL;cases hi;obtain⟨h1,h2,h3,h4⟩:=CC.bF xo iL (λz=>nomatch z);have hm:=xo.BB _ h2;obtain⟨elts,kk,tp,rfl⟩:=r9 ht (by simpa[vJ] using HP);exact fin (λ_=>rfl) (lSa h1 hm (fP xo [_] (by rw[PB,ns];rfl)) (by rw[dC ns];rfl)) λY H R q=>B2 xo.nC Y H R q
    ·cases hi
   ·cases hi
  ·split at hi
   ·exact gen _ rfl ‹_› hi
   ·cases hi
def Ye(xo:KA X K P C Z)(TB:kI X Z){gA:List vA}{Φ:List E->Prop}
  (ht:uH Z tg=some (one,is)) (hi:jK Z it=some (k0,gA)) (HP:vJ k0 one=true) (fin:∀{wi:TI} {its':List E},(∀x,GJ it X.env x=pure x)->PI X tg it wi->(∀Y H (R:It->Hp->Prop),SI K P C k0 its' Y H R->wi Y H R)->Φ its'):Φ (UP Z it body (eB Z gA)):=by
 exact N_ xo TB ht hi HP fin
theorem He:∀{cs:List E} {ds:List D} {U U':Env},uD P C cs U=some (.ok ds,U')->ds.length=cs.length
 |[],_,_,_,h=>by simp only[uD] at h;cases h;rfl
 |c::cs,ds,U,U',h=>by(simp only[uD] at h;obtain⟨v,U1,_,h⟩:=mB h;obtain⟨LG,U2,h2,h⟩:=mB h;cases h;rw[fC,fC,He h2])
structure aM(X:Cx)(K:fA)(P:SA)(C:Calls)(Z:CC):Prop where
 po:YM (model X.prog X.w) X.A X.env X.xe
 xo:KA X K P C Z
 TB:kI X Z
 sk:Z.top=true->X.stack=X.env::X.outer/\X.env.frame=some X.env.locals
def pR(K:fA)(P:SA)(C:Calls)(W:Nat)(Z:CC)(n:Nat):Prop:=∀X:Cx,aM X K P C Z->∀BD:List WA,sizeOf BD<n ->
 LC X BD (IF K P C W (mD Z BD))/\LC X BD (XG X K P C W (mD Z BD))
theorem aM.re{E:dA->zA->Prop}(c:aM X K P C Z)(po:YM (model X.prog X.w) X.A X.env E):aM (Cx.re X E pn) K P C Z:=⟨po,c.xo.re,c.TB,c.sk⟩
def vd(ih:pR K P C W Z n)(cx:aM X K P C Z)(st:WA)(hZ:sizeOf st<n+1):PS X st (tS K P C W (cS Z st)):=by
 obtain⟨po,xo,TB,sk⟩:=id cx
 induction st using cZ with
 |Pass _=>exact uTa
 |Break _=>exact mTa
 |Continue _=>exact nTa
 |Return e rp0 =>
  induction e using DH with
  |some e =>
   have hR:PS X (.Return (some e) rp0) (tS K P C W (J8 e (cE Z e))):=zTa (zF xo e);exact hR
  |none=>exact yTa
 |Expr e _ =>
  show PS X _ (tS K P C W (if HD e then .expr (cE Z e) else .jA));split
  ·exact qTa (zF xo _) ‹_›
  ·exact YB
 |If c a b _=>exact rTa (zF xo _) (ih _ cx a (AB hZ)).1 (ih _ cx b (AB hZ)).1
 |While c b o _ =>
  induction o using sC with
  |nil=>exact YB
  |cons _ _=>exact YB
 |For tg it b o Z3 =>
  induction o using sC with
  |nil =>
   have hF:PS X (.For tg it b [] Z3) (tS K P C W (match uH Z tg,jK Z it with
    |some (one,is),some (k,gA)=>if vJ k one then .for is one k (UP Z it b (eB Z gA)) (mD Z b) else .jA
    |_,_=>.jA)):=by
    cases h1:uH Z tg with
    |none=>exact YB
    |some t =>
     cases h2:jK Z it with
     |none=>exact YB
     |some u =>
      show PS X _ (tS K P C W (if vJ u.1 t.1 then .for t.2 t.1 u.1 (UP Z it b (eB Z u.2)) (mD Z b) else .jA));split
      ·exact Ye xo TB h1 h2 ‹_› (Φ:=λits'=>PS X (.For tg it b [] _) (tS K P C W (.for t.2 t.1 u.1 its' (mD Z b)))) λhs hi hw=>M_ po xo (u9 xo TB h1) (ih _ cx b (AB hZ)).1 hs hi hw
      ·exact YB
   exact hF
  |cons _ _=>exact YB
 |Assign ts e _ =>
  obtain _ | ⟨t,_ | ⟨_,_⟩⟩:=ts
  ·exact YB
  ·induction t using nG with
   |Name x p =>
    show PS X _ (tS K P C W (match Z.tF x with | some i=>if HD e||sS e then .nB i (cE Z e) else .jA | none=>.jA));split
    ·split
     ·rename_i hc;rw[RI] at hc;rcases hc with hc | hc
      ·exact iTa xo TB ‹_› (zF xo _) hc
      ·exact kTa xo TB ‹_› (wNa xo _ hc)
     ·exact YB
    ·exact YB
   |Tuple ts _ _ =>
    show PS X _ (tS K P C W (match wK Z ts with | some is=>if HD e&&RS e then .cM is (cE Z e) else .jA | none=>vT Z ts e (cE Z e)));split
    ·split
     ·rename_i h;rw[qA] at h;exact jTa xo TB ‹_› (zF xo _) h.1 h.2
     ·exact YB
    ·exact eUa xo
   |Subscript a k _ =>
    cases a with
    |Name x p =>
     show PS X _ (tS K P C W (match Z.slot x with | some i=>if HD e&&uX k then kT i k (cE Z k) (cE Z e) else .jA | none=>.jA));split
     ·split
      ·rename_i h;rw[qA] at h;exact aUa xo ‹_› h.1 h.2
      ·exact YB
     ·exact YB
    |_=>exact YB
   |Attribute a f _=>exact cUa xo
   |_=>exact YB
  ·induction t using nG with
   |Subscript a _ _=>cases a<;>exact YB
   |_=>exact YB
 |AugAssign t op e _ =>
  induction t using nG with
  |Name x p =>
   induction op using yr with
   |Add =>
    show PS X _ (tS K P C W (match Z.tF x with | some i=>if HD e then .jA else .jA | none=>.jA));split
    ·split
     ·exact YB
     ·exact YB
    ·exact YB
   |_=>exact YB
  |_=>exact YB
 |Raise e c _ =>
  induction e using DH with
  |none=>exact YB
  |some e =>
   induction c using DH with
   |none =>
    show PS X _ (tS K P C W (gT Z e));unfold gT TX;split
    ·split
     ·split
      ·exact A8 λU=>rfl
      ·exact A8 λU=>rfl
      ·exact YB
     ·exact YB
    ·exact YB
   |some _=>exact YB
 |Try body hs o f _ =>
  show PS X _ (tS K P C W (DT Z (mD Z body) hs o f));unfold DT;split
  ·rename_i DN;rw[qA] at DN;obtain rfl:=MY.mp DN.1;obtain rfl:=MY.mp DN.2;split
   ·rename_i x n bd hh;obtain⟨np,hp,rfl⟩:=aCa hh;split
    ·rename_i hc;rw[qA] at hc;obtain⟨h2,h3⟩:=hc;have h2:=uB h2;obtain⟨s1,s2⟩:=sk h3;split
     ·unfold z9;split
      ·rename_i y n' ha;obtain⟨p3,p4,p5,rfl⟩:=Qu ha;split
       ·rename_i h1;have h1:=uB h1;subst h1;split
        ·rename_i cs i j e1 e2 e3;obtain⟨a1,a2,a3⟩:=aY xo e2;obtain⟨b1,b2,b3⟩:=aY xo e3
         have gS:YE n'=false:=by
          cases z:YE n' with
          |false=>rfl
          |true =>
           have w:Z.slot n'=none:=by unfold CC.slot;rw[FA z]
           unfold CC.tF at e2;rw[w] at e2;simp at e2
         exact jUa xo s1 s2 (λE pn yL=>(ih _ (cx.re yL) body (AB hZ)).1) (λE pn yL=>(ih _ (cx.re yL) body (AB hZ)).2) e1 a1 (by rw[xo.nm];exact h2) gS b1 b2 (TB y b3)
        ·exact YB
       ·exact YB
      ·exact YB
     ·split
      ·exact YB
      ·exact YB
    ·exact YB
   ·split
    ·obtain⟨s1,s2⟩:=sk ‹_›;exact kUa xo s1 s2 TB (λE pn yL=>(ih _ (cx.re yL) body (AB hZ)).1) (λE pn yL=>(ih _ (cx.re yL) body (AB hZ)).2)
    ·exact YB
  ·exact YB
 |_=>exact YB
def Gw(ih:pR K P C W Z n)(cx:aM X K P C Z)(BD:List WA)(hZ:sizeOf BD<n+1):LC X BD (IF K P C W (mD Z BD)):=by
 obtain⟨po,xo,TB,sk⟩:=id cx
 induction BD using sC with
 |nil=>exact nUa
 |cons s r=>exact mUa (vd ih cx s (KO (by simp;lia) hZ)) (ih _ cx r (AB hZ)).1
theorem Pz:oF P C W (.DA c a b) U=(match ev P C true c U with | some (.ok (.sh (.bl true)),U1)=>DC P C W a U1 | some (.ok (.sh (.bl false)),U1)=>DC P C W b U1 | _=>none):=rfl
theorem o_:DC P C W (s::r) U=(match ex P C W s U with | some (.nx,U1)=>DC P C W r U1 | _=>oF P C W s U):=rfl
theorem Sz:oF P C W (.ME c es) U=(match uD P C es U with | some (.ok _,U1)=>some (⟨c,none⟩,U1) | _=>none):=rfl
def Cw(ih:pR K P C W Z n)(cx:aM X K P C Z)(st:WA)(hZ:sizeOf st<n+1):PS X st (JD X K P C W (cS Z st)):=by
 obtain⟨po,xo,TB,sk⟩:=id cx;have no:∀{st:WA} (c:S),(∀U,oF P C W c U=none)->PS X st (JD X K P C W c):=λc h aA s Y H D I hz=>by obtain⟨U,G,x,U',r,e,k⟩:=hz;rw[h] at e;cases e
 have jA:∀{st:WA},PS X st (JD X K P C W .jA):=no .jA λU=>rfl
 induction st using cZ with
 |Pass _=>exact no .pass λU=>rfl
 |Break _=>exact no .brk λU=>rfl
 |Continue _=>exact no .cnt λU=>rfl
 |Return e lWa =>
  induction e using DH with
  |none=>exact no .OX λU=>rfl
  |some e =>
   have hR:PS X (.Return (some e) lWa) (JD X K P C W (J8 e (cE Z e))):=by(exact TS.HE (C8 (oV xo e)) λD Y H hz=>(by obtain⟨U,G,x,U',r,e0,k⟩:=hz;exact⟨U,G,x,U',r,(show oF P C W (.ret (cE Z e)) U=some (x,U') from e0),k⟩))
   exact hR
 |Expr e _ =>
  show PS X _ (JD X K P C W (if HD e then .expr (cE Z e) else .jA));split
  ·exact TS.HE (zk (oV xo e) (zQ ‹_› _ _ _)) λD Y H hz=>(by obtain⟨U,G,x,U',r,e0,k⟩:=hz;exact⟨U,G,x,U',r,e0,k⟩)
  ·exact jA
 |If c a b _ =>
  refine TS.HE (Bk (zF xo c).t (ih _ cx a (AB hZ)).2 (ih _ cx b (AB hZ)).2) λD Y H hz=>?_
  obtain⟨U,G,x,U',r,e0,k⟩:=hz;replace e0:oF P C W (.DA (cE Z c) (mD Z a) (mD Z b)) U=some (x,U'):=e0;replace e0:=(Pz (a:=mD Z a)).symm.trans e0;split at e0
  ·rename_i U1 q;exact⟨U,G,true,U1,r,q,λH1 G1 a1=>⟨U1,G1,x,U',a1.pA,e0,k.pre (AA.s r a1)⟩⟩
  ·rename_i U1 q;exact⟨U,G,false,U1,r,q,λH1 G1 a1=>⟨U1,G1,x,U',a1.pA,e0,k.pre (AA.s r a1)⟩⟩
  ·cases e0
 |While c b o _ =>
  induction o using sC with
  |nil=>exact jA
  |cons _ _=>exact jA
 |For tg it b o Z3 =>
  induction o using sC with
  |nil =>
   have hF:PS X (.For tg it b [] Z3) (JD X K P C W (match uH Z tg,jK Z it with
    |some (one,is),some (k,gA)=>if vJ k one then .for is one k (UP Z it b (eB Z gA)) (mD Z b) else .jA
    |_,_=>.jA)):=by
    cases h1:uH Z tg with
    |none=>exact jA
    |some t =>
     cases h2:jK Z it with
     |none=>exact jA
     |some u =>
      show PS X _ (JD X K P C W (if vJ u.1 t.1 then .for t.2 t.1 u.1 (UP Z it b (eB Z u.2)) (mD Z b) else .jA));split
      ·exact Ye xo TB h1 h2 ‹_› (Φ:=λits'=>PS X (.For tg it b [] _) (JD X K P C W (.for t.2 t.1 u.1 its' (mD Z b)))) λhs hi hw=>L_ po xo (u9 xo TB h1) (ih _ cx b (AB hZ)).1 (ih _ cx b (AB hZ)).2 hs hi hw
      ·exact jA
   exact hF
  |cons _ _=>exact jA
 |Assign ts e _ =>
  obtain _ | ⟨t,_ | ⟨_,_⟩⟩:=ts
  ·exact jA
  ·induction t using nG with
   |Name x p =>
    show PS X _ (JD X K P C W (match Z.tF x with | some i=>if HD e||sS e then .nB i (cE Z e) else .jA | none=>.jA));split
    ·rename_i i hi;split
     ·intro aA s Y H D I ⟨U,G,x0,U',r,e0,k⟩;replace e0:ED P C _ U=some (x0,U'):=e0;obtain⟨h1,h2,h3⟩:=aY xo hi;rcases Uw (mP e0) with hnc | ⟨JA,tg,iter,DA,sc,pos',rfl,hq⟩
      case inr=>exact Hw xo hq W x i p _ (by rw[xo.UH];exact xo.nd) h1 h2 (TB x h3) aA s Y H D I ⟨U,G,x0,U',r,e0,k⟩
      exact Ck (by rw[xo.UH];exact xo.nd) h1 h2 (oV xo _) (zQ hnc _ _ _) (TB x h3) aA s Y H D I ⟨U,G,x0,U',r,e0,k⟩
     ·exact jA
    ·exact jA
   |Tuple ts _ _ =>
    show PS X _ (JD X K P C W (match wK Z ts with | some is=>if HD e&&RS e then .cM is (cE Z e) else .jA | none=>vT Z ts e (cE Z e)));split
    ·split
     ·exact no (.cM _ _) λU=>rfl
     ·exact jA
    ·unfold vT
     (repeat' split)<;>first | exact jA | exact no (.swp _ _ _ _) λU=>rfl
   |Subscript a k _ =>
    cases a with
    |Name x p =>
     show PS X _ (JD X K P C W (match Z.slot x with | some i=>if HD e&&uX k then kT i k (cE Z k) (cE Z e) else .jA | none=>.jA));split
     ·split
      ·unfold kT;(repeat' split)<;>first | exact no (.set _ _ _) λU=>rfl | exact no (.c6a _ _ _) λU=>rfl
      ·exact jA
     ·exact jA
    |_=>exact jA
   |Attribute a f _=>exact cTa xo
   |_=>exact jA
  ·induction t using nG with
   |Subscript a _ _=>cases a<;>exact jA
   |_=>exact jA
 |AugAssign t op e _ =>
  induction t using nG with
  |Name x p =>
   induction op using yr with
   |Add =>
    show PS X _ (JD X K P C W (match Z.tF x with | some i=>if HD e then .jA else .jA | none=>.jA));split
    ·split
     ·exact jA
     ·exact jA
    ·exact jA
   |_=>exact jA
  |_=>exact jA
 |Raise e c _ =>
  induction e using DH with
  |none=>exact jA
  |some e =>
   induction c using DH with
   |none =>
    show PS X _ (JD X K P C W (gT Z e));unfold gT;split
    ·rename_i x0 SH;obtain⟨⟨x,np⟩,args,aB⟩:=x0;obtain rfl:=RW SH;show PS X _ (JD X K P C W (TX Z x args));unfold TX;split
     ·rename_i hc;split
      ·rename_i hg;rw[qA] at hc;obtain⟨h1,h2,h3,h4⟩:=CC.bF xo hg (λz=>nomatch z);obtain⟨Ca,c1,c2,c3,c4⟩:=(xo.exc x h2).ex;have hK:=xo.nC;obtain _ | ⟨a,aAj⟩:=args
       ·simp at hc
       ·have ns:=hc.1;rw[PB,qA] at ns;refine TS.HE (vTa xo.hh h1 c2 (by rw[hK];exact c4) (O0 xo (a::aAj) hc.1) h3 (dC ns.1 _ _) (AG ns.2 _ _).1) λD Y H hz=>?_
        obtain⟨U,G,x0,U',r,e0,k⟩:=hz;replace e0:=(Sz (P:=P) (C:=C) (W:=W)).symm.trans e0;split at e0
        ·rename_i ds U1 q;cases e0;refine⟨U,G,ds,_,r,q,λxs H1 G1 a1 rx=>⟨?_,λaA b s' I' F=>k aA Y H1 G1 s' b Ca (none,true) (AA.s r a1) I' F c1 c3 (Sj trivial)⟩⟩;rw[rx.len,He q,N0,ML]
         have:=hc.2
         simp at this;simp
         lia
        ·cases e0
      ·rename_i hg;rw[qA] at hc;obtain⟨h1,h2,h3,h4⟩:=CC.bF xo hg (λz=>nomatch z);obtain⟨Ca,c1,c2,c3,c4,c5⟩:=(xo.NG x h2).ex;have hK:=xo.nC;obtain _ | ⟨a,aAj⟩:=args
       ·simp at hc
       ·have ns:=hc.1;rw[PB,qA] at ns;refine TS.HE (wTa xo.hh xo.rm h1 c2 c4 (O0 xo (a::aAj) hc.1) h3 (dC ns.1 _ _) (AG ns.2 _ _).1) λD Y H hz=>?_
        obtain⟨U,G,x0,U',r,e0,k⟩:=hz;replace e0:(match uD P C (eB Z (a::aAj)) U with | some (.ok [.int n],U1)=>some (⟨x,some n⟩,U1) | _=>none)=some (x0,U'):=e0;split at e0
        ·rename_i n U1 q;cases e0;refine⟨U,G,_,_,r,q,λxs H1 G1 a1 rx=>?_⟩;obtain⟨v,r',rfl,z1,z2⟩:=rx;cases z2;simp only[iA] at z1;subst z1;obtain⟨_,_,_,_,S,_⟩:=c4;refine⟨_,rfl,λaA b dx s' wI I' F=>k aA Y _ (sA G1 dx (.xd [(("number":bA),.int n)])) s' b Ca (some dx,true) (AA.s r (a1.rL wI)) I' F c1 c3 (Sj (jRa eC (by rw[<- hK];exact S) c5))⟩
        ·cases e0
      ·exact jA
     ·exact jA
    ·exact jA
   |some _=>exact jA
 |Try body hs o f _ =>
  show PS X _ (JD X K P C W (DT Z (mD Z body) hs o f));unfold DT z9 Qo;split
  ·rename_i DN;rw[qA] at DN;obtain rfl:=MY.mp DN.1;obtain rfl:=MY.mp DN.2;split
   ·split
    ·split
     ·split
      ·split
       ·split
        ·exact no (.oO _ _ _ _) λU=>rfl
        ·exact jA
       ·exact jA
      ·exact jA
     ·split
      ·exact jA
      ·exact jA
    ·exact jA
   ·split
    ·obtain⟨s1,s2⟩:=sk ‹_›;exact hTa xo s1 s2 λE pn yL=>(ih _ (cx.re yL) body (AB hZ)).2
    ·exact jA
  ·exact jA
 |_=>exact jA
def Ew(ih:pR K P C W Z n)(cx:aM X K P C Z)(BD:List WA)(hZ:sizeOf BD<n+1):LC X BD (XG X K P C W (mD Z BD)):=by
 obtain⟨po,xo,TB,sk⟩:=id cx
 induction BD using sC with
 |nil=>exact λaA s Y H D I hz=>(by obtain⟨U,G,x,U',r,e,k⟩:=hz;exact nomatch (show(none:Option (Exc×Env))=some (x,U') from e))
 |cons st aAj =>
  have pW:mD Z (st::aAj)=cS Z st::mD Z aAj:=by first | rfl | (show o5a (n5a Z st aAj) _ _=_;rw[qk];rfl)
  rw[pW];refine TS.Z5 (LX (sTa (vd ih cx st (KO (by simp;lia) hZ)) (Cw ih cx st (KO (by simp;lia) hZ))) (ih _ cx aAj (AB hZ)).2) λD Y H hz=>?_
  obtain⟨U,G,x,U',r,e0,k⟩:=hz;replace e0:DC P C W (cS Z st::mD Z aAj) U=some (x,U'):=e0;rw[o_] at e0;split at e0
  ·rename_i U1 q;exact .inl ⟨U,G,.nx,U1,r,q,λY1 H1 G1 a1=>⟨U1,G1,x,U',a1.pA,e0,k.pre a1⟩⟩
  ·exact .inr ⟨U,G,x,U',r,e0,k⟩
theorem MW:∀n:Nat,pR K P C W Z n
 | 0,_,_,_,h=>absurd h (SY _)
 |n+1,_,c,BD,h=>⟨Gw (MW n) c BD h,Ew (MW n) c BD h⟩
def Fw(po:YM (model X.prog X.w) X.A X.env X.xe)(xo:KA X K P C Z)(TB:kI X Z)(sk:Z.top=true->X.stack=X.env::X.outer/\X.env.frame=some X.env.locals)(BD:List WA):LC X BD (IF K P C W (mD Z BD)):=(MW _ X ⟨po,xo,TB,sk⟩ BD (zK _)).1
def Dw(po:YM (model X.prog X.w) X.A X.env X.xe)(xo:KA X K P C Z)(TB:kI X Z)(sk:Z.top=true->X.stack=X.env::X.outer/\X.env.frame=some X.env.locals)(BD:List WA):LC X BD (XG X K P C W (mD Z BD)):=(MW _ X ⟨po,xo,TB,sk⟩ BD (zK _)).2
end
noncomputable def pX:vA->Option bA
 |.Name s _=>some s
 |_=>none
def GZ:vA->Option (bA×bA)
 |.Attribute e f _=>(pX e).map λs=>(s,f)
 |_=>none
def ZU:WA->Option (bA×bA×bA)
 |.Assign ts v _=>(match ts with
  |[]=>none
  |t::r=>(match r with
   |_::_=>none
   |[]=>(GZ t).bind λp=>(pX v).map λq=>(p.1,p.2,q)))
 |_=>none
def qj(h:pX e=some s):∃p,e=.Name s p:=by
 unfold pX at h;split at h
 ·cases h;exact⟨_,rfl⟩
 ·cases h
def Su(h:GZ e=some x):∃p1 p2,e=.Attribute (.Name x.1 p1) x.2 p2:=by
 unfold GZ at h;split at h
 ·obtain⟨s,hs,rfl⟩:=GK.mp h;obtain⟨_,rfl⟩:=qj hs;exact⟨_,_,rfl⟩
 ·cases h
def Mc{st:WA}(h:ZU st=some x):∃p1 p2 p3 p4,st=.Assign [.Attribute (.Name x.1 p1) x.2.1 p2] (.Name x.2.2 p3) p4:=by
 unfold ZU at h;split at h
 ·rename_i ts v _
  induction ts using sC with
  |nil=>cases h
  |cons t r =>
   induction r using sC with
   |cons=>cases h
   |nil =>
    obtain⟨p,hp,h⟩:=QO.mp h;obtain⟨q,hq,rfl⟩:=GK.mp h;obtain⟨_,_,rfl⟩:=Su hp;obtain⟨_,rfl⟩:=qj hq;exact⟨_,_,_,_,rfl⟩
 ·cases h
def HN(ps:List bA):Nat->List WA->Option (List bA)
 |j,[]=>if j=ps.length then some [] else none
 |j,st::r=>(ZU st).bind λx=>if ps[0]?=some x.1/\ps[j]?=some x.2.2/\YE x.1=false/\YE x.2.2=false then(HN ps (j+1) r).map (x.2.1 :: ·) else none
theorem Ik:∀{fs:List (bA×V)},f ∉ fs.map (·.1)->eF f y fs=fs++[(f,y)]
 |[],_=>rfl
 | (g,x)::r,h=>by(rw[pD,eD,not_or] at h;rw[eF,vB (λz=>h.1 z.symm),Ik h.2];rfl)
def j2a(h:H a=some o):sA H a o=H:=by
 funext b
 unfold sA;split
 ·rename_i z;rw[z,h]
 ·rfl
theorem Fg{K:fA}(hK:X.K=K)(hN:∀(i:Nat) x,ps[i]?=some x->X.N[i]?=some x/\aP X.env.scope x)(hl:xs.length+1=ps.length)(cl:UE K Ca):∀(r:List WA) (j:Nat) (ns:List bA),HN ps j r=some ns->1<=j ->
  ∃t,LC X r t/\∀(D:Ends) (Y:L2.St) (H:Hp) (fs:List (bA×V)),(∀(i:Nat) v,(V.ref a::xs)[i]?=some v->Y[i]?=some (some v))->H a=some (.ins Ca dx fs)->(∀f∈ns,fH K Ca f)->(fs.map (·.1)++ns).Nodup->fs.length+ns.length<1000 ->
   D.nx Y (sA H a (.ins Ca dx (fs++ns.zip (xs.drop (j-1)))))->t D Y H
 |[],j,ns,h,hj=>by
  unfold HN at h;split at h
  ·rename_i hje;cases h;refine⟨n9,D8,λD Y H fs _ ha _ _ _ q=>?_⟩;simp only[List.zip_nil_left,jI] at q;rw[j2a ha] at q;exact q
  ·cases h
 |st::r,j,ns,h,hj=>by
  unfold HN at h;obtain⟨x,hx,h2⟩:=QO.mp h;obtain⟨p1,p2,p3,p4,rfl⟩:=Mc hx;obtain⟨s,f,q⟩:=x;replace h:=h2;dsimp only at h;split at h
  ·rename_i hc;obtain⟨c1,c2,c3,c4⟩:=hc
   cases q1:HN ps (j+1) r with
   |none=>rw[q1] at h;cases h
   |some ID =>
    rw[q1] at h;cases h;obtain⟨t,ht,k⟩:=Fg hK hN hl cl r (j+1) ID q1 (by lia);simp only[YE,dU] at c3 c4;have v0:=lQ (pos:=p1) (hN 0 s c1).1 (hN 0 s c1).2 c3.1.1 c3.1.2;have v1:=lQ (pos:=p3) (hN j q c2).1 (hN j q c2).2 c4.1.1 c4.1.2;refine⟨_,LX (B8 v0 v1 rfl) ht,λD Y H fs hY ha hn lL TC qq=>?_⟩;have hj2:j<ps.length:=(LD.mp c2).1;obtain⟨j',rfl⟩:∃j',j=j'+1:=⟨j-1,by lia⟩
    have sg:j'<xs.length:=by lia
    have hx:(V.ref a::xs)[j'+1]?=some xs[j']:=by simp[sg]
    have cK:f ∉ fs.map (·.1):=λz=>by
     have:=(List.nodup_append.mp lL).2.2 f z f (by simp)
     exact this rfl
    refine⟨_,hY _ _ hx,.ref a,hY 0 _ rfl,a,Ca,dx,fs,rfl,ha,by rw[hK];exact cl,by rw[hK];exact hn f (by simp),by simp at TC;lia, ?_⟩;rw[Ik cK];refine k D Y _ _ hY eC (λg hg=>hn g (OD _ hg)) ?_ ?_ ?_
    ·simpa using lL
    ·simp at TC ⊢;lia
    ·rw[F9]
     have e:fs++(f::ID).zip (xs.drop (j'+1-1))=fs++[(f,xs[j'])]++ID.zip (xs.drop (j'+1+1-1)):=by(rw[show j'+1-1=j' from rfl,show j'+1+1-1=j'+1 from rfl,zY sg,AO,List.append_assoc];rfl)
     rw[<- e];exact qq
  ·cases h
def f6{K:fA}{mg:bA->Option dA}{st:WA}{fa:eA}(F:UI K y UA st fa fd)(S:JJ N ps (OB st))(hb:HN ps 1 (tD st)=some ns)(hp:ps.length=ns.length+1)(lL:ns.Nodup)(TC:ns.length<1000) :
  ZC Pr w K mg base SE 1 fa fd ps (mm K ns):=by
 refine F.ok S (λvs H Q E h=>?_) λXA A outer s H vs Q E hr h=>?_
 ·obtain⟨a,Ca,dx,xs,rfl,h1,_⟩:=h;rw[fC,h1,hp]
 ·obtain⟨a,Ca,dx,xs,rfl,h1,h2,h3,q⟩:=h
  have BP:∀(i:Nat) x,ps[i]?=some x->N[i]?=some x/\aP (OB st) x:=λi x hx=>by
   have hm:x∈ps:=OL hx;refine⟨?_, ?_⟩
   ·have:=S.pre
    rw[<- this,Qq] at hx;split at hx
    ·exact hx
    ·cases hx
   ·rcases S.par x hm with z | z
    ·exact .inl z
    ·exact .inr (.inl z)
  obtain⟨t,ht,k⟩:=Fg (X:=(PF SE Pr w K mg base N UA (OB st) fa XA A outer s H E).EM) (xs:=xs) (a:=a) rfl BP (by lia) h3.cl (tD st) 1 ns hb (JB _)
  ·refine⟨t,ht,k _ _ H [] (λi v hv=>?_) h2 h3.no (by simpa using lL) (by simpa using TC) ?_⟩
   ·have hl:i<(V.ref a::xs).length:=(LD.mp hv).1;rw[pT hl,IK,hv];rfl
   ·simpa using q
def OW(ps:List bA):List WA->Option bA
 |[]=>none
 |st::r=>(match r with
  |_::_=>none
  |[]=>(ZU st).bind λx=>if ps=[x.1,x.2.2]/\YE x.1=false/\YE x.2.2=false then some x.2.1 else none)
def kDa{K:fA}{st:WA}(F:UI K y UA st fa fd)(S:JJ N ps (OB st))(hb:OW ps (tD st)=some f) :
  ZC Pr w K mg base SE 1 fa fd ps (V8 K f):=by
 have DP:∃s0 p1 p2 q0 p3 p4,tD st=[.Assign [.Attribute (.Name s0 p1) f p2] (.Name q0 p3) p4]/\ps=[s0,q0]/\YE s0=false/\YE q0=false:=by
  cases q:tD st with
  |nil=>rw[q] at hb;cases hb
  |cons t r =>
   rw[q] at hb
   induction r using sC with
   |cons=>cases hb
   |nil =>
    obtain⟨x,hx,hb⟩:=QO.mp hb;split at hb
    case isFalse=>cases hb
    cases hb;obtain⟨p1,p2,p3,p4,rfl⟩:=Mc hx;exact⟨_,_,_,_,_,_,rfl,‹_›⟩
 obtain⟨s0,p1,p2,q0,p3,p4,DP,rfl,c3,c4⟩:=DP;refine F.ok S (λvs H Q E h=>?_) λXA A outer s H vs Q E hr h=>?_
 ·obtain⟨a,Ca,y,rfl,_⟩:=h;rfl
 ·obtain⟨a,Ca,y,rfl,h2,h3,q⟩:=h
  have BP:∀(i:Nat) x,[s0,q0][i]?=some x->N[i]?=some x/\aP (OB st) x:=λi x hx=>by
   have hm:x∈[s0,q0]:=OL hx;refine⟨?_, ?_⟩
   ·have:=S.pre
    rw[<- this,Qq] at hx;split at hx
    ·exact hx
    ·cases hx
   ·rcases S.par x hm with z | z
    ·exact .inl z
    ·exact .inr (.inl z)
  simp only[YE,dU] at c3 c4;have v0:=lQ (X:=(PF SE Pr w K mg base N UA (OB st) fa XA A outer s H E).EM) (pos:=p1) (BP 0 s0 rfl).1 (BP 0 s0 rfl).2 c3.1.1 c3.1.2;have v1:=lQ (X:=(PF SE Pr w K mg base N UA (OB st) fa XA A outer s H E).EM) (pos:=p3) (BP 1 q0 rfl).1 (BP 1 q0 rfl).2 c4.1.1 c4.1.2;rw[DP];refine⟨_,LX (lUa v0 v1 rfl) D8, ?_⟩;have g0:(start N [V.ref a,y])[0]?=some (some (.ref a)):=by rw[pT (by simp)];rfl
  have g1:(start N [V.ref a,y])[1]?=some (some y):=by rw[pT (by simp)];rfl
  exact⟨_,g1,.ref a,g0,a,Ca,rfl,h2,h3,λdx wI=>q dx wI⟩
structure MU(K:fA)(mg:bA->Option dA)(x:bA):Prop where
 ex:∃(Ca fa:eA) (fd:gF) (ps:List bA) (y UA:bA) (st:WA) (N:List bA),fB K VA x=some (some (.ref Ca))/\mg x=some (.ref Ca)/\lE K Ca/\FG K Ca (some (.ref fa))/\JK K Ca "number" /\
  WY K (.ref fa)=some (.type "function")/\xF K (.ref Ca)=true/\HK K Ca=true/\UI K y UA st fa fd/\JJ N ps (OB st)/\OW ps (tD st)=some "number"/\aAn K fd ps []
def MU.at{K:fA}(hK:X.K=K)(e:MU K X.mg x):LU X K x:=by
 subst hK;obtain⟨Ca,fa,fd,ps,y,UA,st,N,h1,h2,h3,h4,h5,h6,h7,h8,h9,C4,D4,h12⟩:=e.ex;exact⟨Ca,h1,h2,h3,⟨fa,fd,ps,h4,h5,kDa h9 C4 D4,h12,h6,h7⟩,h8⟩
structure RO(K:fA)(T:Tab)(gl:bA->GV)(f:String)(fa:eA)(fd:gF)(ps:List bA):Prop where
 bd:aAn K fd ps []
 ex:∃(y UA:bA) (st:WA) (N:List bA) (fn:Fn),UI K y UA st fa fd/\JJ N ps (OB st)/\N.Nodup/\T f=some fn/\fn.body=mD ⟨N,(OB st).names,gl,true⟩ (tD st)/\N.length=fn.aA.length+fn.nl/\ps.length=fn.aA.length
structure Entry(K:fA)(mg:bA->Option dA)(T:Tab)(gl:bA->GV)(x:bA)(f:String)(fa:eA)(fd:gF)(ps:List bA):Prop where
 Ti:mg x=some (.ref fa)
 kp:xF K (.ref fa)=true
 b:RO K T gl f fa fd ps
structure ic(K:fA)(mg:bA->Option dA)(x:bA)(ns:List bA):Prop where
 ex:∃(Ca fa:eA) (fd:gF) (ps:List bA) (y UA:bA) (st:WA) (N:List bA),fB K VA x=some (some (.ref Ca))/\mg x=some (.ref Ca)/\Mk K Ca fa/\eN K Ca ns /\
  UI K y UA st fa fd/\JJ N ps (OB st)/\HN ps 1 (tD st)=some ns/\ps.length=ns.length+1/\ns.Nodup/\ns.length<1000/\aAn K fd ps []
structure sZ(K:fA)(T:Tab)(gl:bA->GV)(c m:bA)(f:String):Prop where
 ex:∃(Ca fa:eA) (fd:gF) (ps:List bA),fB K VA c=some (some (.ref Ca))/\Meth K Ca m fa/\RO K T gl f fa fd ps/\UE K Ca
structure uZ(K:fA)(mg:bA->Option dA)(T:Tab)(gl:bA->GV)(x:bA)(f:String):Prop where
 ex:∃(Ca fa:eA) (fd:gF) (ps:List bA),fB K VA x=some (some (.ref Ca))/\mg x=some (.ref Ca)/\Mk K Ca fa/\UE K Ca/\RO K T gl f fa fd ps
structure lZ(pr:IU)(K:fA)(mg:bA->Option dA)(T:Tab)(gl:bA->GV):Prop where
 c:∀x d,gl x=.c d->∃u v,mg x=some u/\aAf v u/\∀G,iA K G d v
 BB:∀x,gl x=.BB->mg x=none
 fn:∀x f,gl x=.fn f->∃fa fd ps,Entry K mg T gl x f fa fd ps
 cls:∀x ns,gl x=.cls ns->ic K mg x ns
 uE:∀m tb c f,gl (dot m)=.uE tb->tb.lookup c=some f->sZ K T gl c m f
 sub:∀x s n,gl (col x)=.sub s n->SU K mg x s n
 CD:∀x s n,gl (col x)=.CD s n->TU K mg x s n
 exc:∀x,gl x=.exc->ExcAt K mg x
 NG:∀x,gl x=.NG->MU K mg x
 MA:∀x cs,gl (cat x)=.MA cs->jR K mg x cs
 obj:∀x f,gl x=.obj f->uZ K mg T gl x f
 BF:(∀f cs,gl (lM f)=.BF cs->∀c∈cs,∀Ca,fB K VA c=some (some (.ref Ca))->fH K Ca f)/\∀x ks vs,gl x=.aK ks vs->mR pr mg K x ks vs
def SX{b:Bool}{o:Option (Exc×Env)}{as OA:List Sl}{v:RV}(h:(if b=true then(match o with | some (x,U)=>(some (Out.ex x,back as U):uA RV) | none=>none) else none)=some (.ok v,OA)):False:=by
 split at h
 ·split at h<;>cases h
 ·cases h
abbrev Bs(Pr:nE)(w:VC)(K:fA)(mg:bA->Option dA)(base:HB)(T:Tab)(gl:bA->GV)(W d:Nat):Prop:=∀(f:String) (fa:eA) (fd:gF) (ps:List bA),RO K T gl f fa fd ps->ZC Pr w K mg base SE (2*d+2) fa fd ps (kO K (T.aA f).length (run T W d f))/\ZC Pr w K mg base (qG Pr w) (2*d+2) fa fd ps (mT K (T.aA f).length (run T W d f))
def Np{K:fA}{mg:bA->Option dA}{UA:bA}{st:WA}{H:Hp}{E:XK}{xe:dA->zA->Prop}(g:lZ w.params K mg T gl)(ih:Bs Pr w K mg base T gl W d)(nd:N.Nodup)(hr:XB (2*d+3) (PF SE Pr w K mg base N UA (OB st) fa XA A outer s H E).A) :
  KA { PF SE Pr w K mg base N UA (OB st) fa XA A outer s H E with xe:=xe } K T.aA (run T W d) ⟨N,(OB st).names,gl,true⟩:=by
 refine KA.of rfl rfl rfl nd rfl hr.hd hr.units g.c g.BB (λx' f' hx=>?_) (λx' ns hx=>?_) (λm tb c f' h1 h2=>?_) (hr.mono (by lia)) g.sub g.CD g.BF ⟨g.exc,λx hx=>(g.NG x hx).at rfl⟩ g.MA ⟨λx' f' hx=>?_,λx' f' hx=>?_,λm tb c f' h1 h2=>?_⟩ ⟨_,_,_,rfl,rfl,rfl⟩
 ·obtain⟨AF,RF,iG,e'⟩:=g.fn x' f' hx;exact⟨AF,RF,iG,2*d+2,(ih f' AF RF iG e'.b).1,hr.mono (by lia),e'.Ti,e'.kp,e'.b.bd⟩
 ·obtain⟨Ca,AF,RF,iG,y',y5a,LI,N',h1,h2,h3,h4,h5,h6,h7,h8,h9,C4,D4⟩:=(g.cls x' ns hx).ex;exact⟨Ca,AF,RF,iG,h1,h2,h3,h4,f6 h5 h6 h7 h8 h9 C4,D4⟩
 ·obtain⟨Ca,AF,RF,iG,h3,h4,e',RC⟩:=(g.uE m tb c f' h1 h2).ex;exact⟨Ca,AF,RF,iG,2*d+2,h3,h4,(ih f' AF RF iG e').1,hr.mono (by lia),e'.bd,RC⟩
 ·obtain⟨AF,RF,iG,e'⟩:=g.fn x' f' hx;exact⟨AF,RF,iG,2*d+2,(ih f' AF RF iG e'.b).2,hr.mono (by lia),e'.Ti,e'.kp,e'.b.bd⟩
 ·obtain⟨Ca,AF,RF,iG,h3,h4,h5,h6,e'⟩:=(g.obj x' f' hx).ex;exact⟨Ca,AF,RF,iG,2*d+2,h3,h4,h5,h6,(ih f' AF RF iG e').1,(ih f' AF RF iG e').2,hr,e'.bd⟩
 ·obtain⟨Ca,AF,RF,iG,h3,h4,e',RC⟩:=(g.uE m tb c f' h1 h2).ex;exact⟨Ca,AF,RF,iG,2*d+2,h3,h4,(ih f' AF RF iG e').2,hr.mono (by lia),e'.bd,RC⟩
theorem V3{Pr:nE}{w:VC}{K:fA}(W:Nat)(g:lZ w.params K mg T gl):∀(d:Nat) (f:String) (fa:eA) (fd:gF) (ps:List bA),
  RO K T gl f fa fd ps->ZC Pr w K mg base SE (2*d+2) fa fd ps (kO K (T.aA f).length (run T W d f))/\ZC Pr w K mg base (qG Pr w) (2*d+2) fa fd ps (mT K (T.aA f).length (run T W d f))
 | 0,f,fa,fd,ps,e=>⟨⟨λvs H Q E h=>by obtain⟨_,as,G,v,OA,_,_,z,_⟩:=h;simp[run] at z,λA outer s H args us vs Q E _ _ _ _ h=>by obtain⟨_,as,G,v,OA,_,_,z,_⟩:=h;simp[run] at z⟩,
  ⟨λvs H Q E h=>by obtain⟨_,as,G,v,OA,_,_,z,_⟩:=h;simp[run] at z,λA outer s H args us vs Q E _ _ _ _ h=>by obtain⟨_,as,G,v,OA,_,_,z,_⟩:=h;simp[run] at z⟩⟩
 |d+1,f,fa,fd,ps,e=>by
  obtain⟨y,UA,st,N,fn,F,S,nd,hT,hb,hN,Xf⟩:=e.ex;have Wf:T.aA f=fn.aA:=by unfold Tab.aA;rw[hT]
  refine⟨F.ok S (λvs H Q E h=>by rw[h.1,Wf,Xf]) λXA A outer s H vs Q E hr h=>?_, ?_⟩
  ·obtain⟨hl,as,G,v,OA,pA,tM,er,k⟩:=h
   let X:Cx:=(PF SE Pr w K mg base N UA (OB st) fa XA A outer s H E).EM
   let Z:CC:=⟨N,(OB st).names,gl,true⟩
   have xo:KA X K T.aA (run T W d) Z:=Np (E:=E) g (V3 W g d) nd hr;refine⟨_,Fw (W:=W) (X:=X) (Z:=Z) PassesOwn.never xo (λ_ _=>.inl rfl) (λ_=>⟨rfl,rfl⟩) (tD st), ?_⟩;simp only[run,hT] at er;split at er
   ·rename_i hc;rw[hb] at er;have CP:N.length=as.length+fn.nl:=by rw[hN,hc.1]
    have BW:=pA.pad CP
    cases q:MA T.aA (run T W d) W (mD ⟨N,(OB st).names,gl,true⟩ (tD st)) (as++FC fn.nl .un) with
    |none=>rw[q] at er;exact(SX er).elim
    |some y =>
     obtain⟨fl,U'⟩:=y;rw[q] at er;refine⟨as++FC fn.nl .un,G,fl,U',BW.1,q, ?_⟩
     induction fl using Fl.casesOn with
     |nx =>
      cases er;intro Y' H' G' a;obtain⟨b1,b2⟩:=aV pA hc.2 CP a;exact k .rA H' G' b1 (by show iA K G' .rA _;simp[iA])
     |rt v' =>
      cases er;intro x' Y' H' G' a hv;obtain⟨b1,b2⟩:=aV pA hc.2 CP a;refine k x' H' G' b1 ?_
      have key:∀c,¬xA U' Y' c->(xA (as++FC fn.nl .un) (start N vs) c\/H c=none)->H c=none:=λc nc mc=>by
       rcases mc with mc | mc
       ·have:=BW.2 c mc
        obtain⟨i,d1,p1,l1,h1,h2⟩:=this;refine absurd ?_ nc
        apply b2 c
        have hp:=jF.mp hc.2 _ (OL h1);simp only[oK] at hp;subst hp
        have:=b1.VJ i
        rw[h1] at this
        cases q3:(back as U')[i]? with
        |none=>rw[q3] at this;exact this.elim
        |some s =>
         rw[q3] at this
         induction s using Sl.casesOn with
         |ow d2 p2 l2=>exact⟨i,d2,p2,l2,q3,h2⟩
         |sh d2=>exact absurd (show true=false from this) (by simp)
         |un=>exact this.elim
         |mv=>exact this.elim
       ·exact mc
      induction v using RV.casesOn with
      |sh d0=>exact hv
      |ow d0 =>
       obtain⟨c,rfl,gc,oc,nc,mc⟩:=hv;exact⟨c,rfl,gc,oc,λz=>nc (b2 c z),key c nc mc⟩
      |od d0 =>
       obtain⟨c,rfl,gc,oc,nc,mc,ys,hy,hr⟩:=hv;exact⟨c,rfl,gc,oc,λz=>nc (b2 c z),key c nc mc,ys,hy,λx hx=>let ⟨b,ws,h1,h2,h3,h4,h5,h6⟩:=hr x hx;⟨b,ws,h1,h2,h3,λz=>h4 (b2 b z),key b h4 h5,h6⟩⟩
     |bk=>exact(SX er).elim
     |ct=>exact(SX er).elim
     |ex x'=>exact(SX er).elim
   ·cases er
  ·obtain⟨oc,od,kV,doc,pm,an,XA,ct,yE,rfl,lk,QG⟩:=F.ex;refine Te lk QG S (λvs H Q E h=>by rw[h.1,Wf,Xf]) λA outer s H vs Q E hr h=>?_
   obtain⟨hl,as,G,x0,OA,pA,tM,er,k⟩:=h
   let X:Cx:=PF (qG Pr w) Pr w K mg base N UA (OB st) fa XA A outer s H E
   let Z:CC:=⟨N,(OB st).names,gl,true⟩
   have xo:KA X K T.aA (run T W d) Z:=Np (E:=E) g (V3 W g d) nd hr;refine⟨_,Dw (W:=W) (X:=X) (Z:=Z) PassesOwn.leaving xo (λ_ _=>.inl rfl) (λ_=>⟨rfl,rfl⟩) (tD st), ?_⟩;simp only[run,hT] at er;split at er
   ·rename_i hc;rw[hb] at er;have CP:N.length=as.length+fn.nl:=by rw[hN,hc.1]
    have BW:=pA.pad CP;split at er
    ·cases er
    ·cases er
    ·split at er
     ·split at er
      ·rename_i x1 U' q;cases er;refine⟨as++FC fn.nl .un,G,x0,U',BW.1,q,λkD Y' H' G' s' a Ca p iH I' F' RC hg mL=>?_⟩;obtain⟨b1,b2⟩:=aV pA hc.2 CP iH;exact Ox I' F' (k H' G' Ca p b1 RC hg mL)
      ·cases er
     ·cases er
   ·cases er
def bD(st:WA):List bA:=(LH st).args.map (·.arg)
def oJ(st:WA):List bA:=bD st++(((OB st).names.filter λy=>(y.2==.local||y.2==.cell) && !(bD st).contains y.1).map (·.1))
def Ud(gl:bA->GV)(st:WA):List S:=mD ⟨oJ st,(OB st).names,gl,true⟩ (tD st)
structure VO(K:fA)(x m UA:bA)(st:WA):Prop where
 ex:∃(Ca f:eA) (oc:dA) (od an:Option eA) (kV doc pm XA ct:dA) (yE:Array (Option dA)),fB K VA x=some (some (.ref Ca))/\QD K (.ref Ca) m=some (some (.ref f))/\zU K (.ref f)=true /\
  K.lookup f=some ⟨oc,od,.func (zH m UA (LH st) (tD st) (OB st) .none kV doc pm an XA ct),yE⟩/\CO K XA UA=true/\xF K (.ref f)=true
def Q7{K:fA}{st:WA}{kV doc pm XA ct:dA}(a:fB K VA x=some (some (.ref Ca)))(b:QD K (.ref Ca) m=some (some (.ref f)))(i:zU K (.ref f)=true)
  (l:K.lookup f=some ⟨oc,od,.func (zH m UA (LH st) (tD st) (OB st) .none kV doc pm an XA ct),yE⟩) (c:CO K XA UA=true) (k:xF K (.ref f)=true):VO K x m UA st :=
 ⟨Ca,f,oc,od,an,kV,doc,pm,XA,ct,yE,a,b,i,l,c,k⟩
structure ClsAt(K:fA)(x:bA):Prop where
 ex:∃Ca:eA,fB K VA x=some (some (.ref Ca))/\UE K Ca/\PY K Ca=true/\xF K (.ref Ca)=true
def Ex{K:fA}(a:fB K VA x=some (some (.ref Ca)))(pg:LQ K Ca Str.empty=true)(hd:HK K Ca=true)(po:Ma K Ca=true)
  (sa:QD K (.ref Ca) "__setattr__"=some (some (.builtin "object.__setattr__"))) (mk:PY K Ca=true) (kp:xF K (.ref Ca)=true):ClsAt K x:=⟨Ca,a,⟨pg,hd,po,sa⟩,mk,kp⟩
def Ac(K:fA)(x f:bA):Prop:=∃Ca:eA,fB K VA x=some (some (.ref Ca))/\QD K (.ref Ca) f=some none
def sj{K:fA}(a:fB K VA x=some (some (.ref Ca)))(b:QD K (.ref Ca) f=some none):Ac K x f:=⟨Ca,a,b⟩
structure gR(K:fA)(x:bA)(st:WA):Prop where
 ex:∃(f:eA) (oc:dA) (od an:Option eA) (kV doc pm XA ct:dA) (yE:Array (Option dA)),fB K VA x=some (some (.ref f)) /\
  K.lookup f=some ⟨oc,od,.func (zH x x (LH st) (tD st) (OB st) .none kV doc pm an XA ct),yE⟩/\CO K XA x=true/\xF K (.ref f)=true
def Zd{K:fA}{st:WA}{kV doc pm XA ct:dA}(a:fB K VA x=some (some (.ref f)))
  (l:K.lookup f=some ⟨oc,od,.func (zH x x (LH st) (tD st) (OB st) .none kV doc pm an XA ct),yE⟩) (c:CO K XA x=true) (k:xF K (.ref f)=true):gR K x st :=
 ⟨f,oc,od,an,kV,doc,pm,XA,ct,yE,a,l,c,k⟩
structure fN(gl:bA->GV)(st:WA)(x UA:bA)(fn:Fn):Prop where
 sc:JJ (oJ st) (bD st) (OB st)
 body:fn.body=Ud gl st
 len:(oJ st).length=fn.aA.length+fn.nl
 pl:(bD st).length=fn.aA.length
 bind:∀(kV doc pm:dA) (an:Option eA) (XA ct:dA) (us:List dA),us.length=(bD st).length->bindArgs (zH x UA (LH st) (tD st) (OB st) .none kV doc pm an XA ct) ⟨us,[]⟩=pure ((bD st).zip us)
abbrev iR(gl:bA->GV)(st:WA)(x:bA)(fn:Fn):Prop:=fN gl st x x fn
def AV{K:fA}{st:WA}(F:UI K x UA st fa fd)(O:fN gl st x UA fn)(hT:T f=some fn):RO K T gl f fa fd (bD st) :=
 ⟨F.binds O.bind,x,UA,st,oJ st,fn,F,O.sc,O.sc.nd,hT,O.body,O.len,O.pl⟩
def hLa{K:fA}{st:WA}(A:ClsAt K x)(D:VO K x m UA st)(O:fN gl st m UA fn)(hT:T f=some fn):sZ K T gl x m f:=by
 obtain⟨Ca,fa,oc,od,an,kV,doc,pm,XA,ct,yE,a,b,i,l,c,k⟩:=D.ex;obtain⟨Cb,a',cl,_,_⟩:=A.ex;rw[a] at a';cases a';exact⟨Ca,fa,_,bD st,a,⟨b,i,k⟩,AV (WR l c k) O hT,cl⟩
def fNa{K:fA}{st:WA}(X:K.In h)(G:h.Ns VA mg)(A:ClsAt K x)(D:VO K x "__init__" UA st)(O:fN gl st "__init__" UA fn)(hT:T f=some fn):uZ K mg T gl x f:=by
 obtain⟨Ca,a,cl,mk,kp⟩:=A.ex;obtain⟨Cb,fa,oc,od,an,kV,doc,pm,XA,ct,yE,a',b,i,l,c,k⟩:=D.ex;rw[a] at a';cases a';exact⟨Ca,fa,_,bD st,a,yJ X G a,⟨mk,b,i,kp⟩,cl,AV (WR l c k) O hT⟩
def Pe{K:fA}{cs:List bA}(h:∀c∈cs,Ac K c f):∀c∈cs,∀Ca,fB K VA c=some (some (.ref Ca))->fH K Ca f:=λc hc Ca hn=>by
 obtain⟨Cb,a,b⟩:=h c hc;rw[hn] at a;cases a;exact b
def uy{K:fA}{st:WA}(X:K.In h)(G:h.Ns VA mg)(D:gR K x st)(O:iR gl st x fn)(hT:T f=some fn):∃fa fd ps,Entry K mg T gl x f fa fd ps:=by
 obtain⟨fa,oc,od,an,kV,doc,pm,XA,ct,yE,a,l,c,k⟩:=D.ex;have F:=WR l c k;exact⟨fa,_,bD st,yJ X G a,k,AV F O hT⟩
noncomputable def MH(L:List (bA×GV))(x:bA):GV:=(L.lookup x).getD .no
theorem aAp[BEq O][LawfulBEq O]:∀{L:List (O×N)} {x:O} {v:N},L.lookup x=some v->(x,v)∈L
 |[],_,_,h=>by simp at h
 | (y,w)::L,x,v,h=>by
  rw[LF] at h;split at h
  ·rename_i hb;cases h;rw[uB hb];exact BE
  ·exact OD _ (aAp h)
def NH(h:MH L x=v)(n:v≠.no):(x,v)∈L:=by
 unfold MH at h
 cases q:L.lookup x with
 |none=>rw[q] at h;exact absurd h.symm n
 |some w =>
  rw[q] at h;cases h;exact aAp q
def rG(pr:IU)(K:fA)(mg:bA->Option dA)(T:Tab)(gl:bA->GV):bA×GV->Prop
 | (x,.cls ns)=>ic K mg x ns
 | (x,.uE tb)=>∃m,x=dot m/\∀p∈tb,sZ K T gl p.1 m p.2
 | (x,.c d)=>∃u v,mg x=some u/\aAf v u/\∀G,iA K G d v
 | (x,.BB)=>mg x=none
 | (x,.fn f)=>∃fa fd ps,Entry K mg T gl x f fa fd ps
 | (x,.sub s n)=>∃m,x=col m/\SU K mg m s n
 | (x,.CD s n)=>∃m,x=col m/\TU K mg m s n
 | (x,.exc)=>ExcAt K mg x
 | (x,.NG)=>MU K mg x
 | (x,.MA cs)=>∃m,x=cat m/\jR K mg m cs
 | (x,.obj f)=>uZ K mg T gl x f
 | (x,.aK ks vs)=>mR pr mg K x ks vs
 | (x,.BF cs)=>∃m,x=lM m/\∀c∈cs,∀Ca,fB K VA c=some (some (.ref Ca))->fH K Ca m
 | (_,.no)=>True
def z8{x y:bA}(h:(⟨p++x.cps⟩:bA)=⟨p++y.cps⟩):x=y:=by
 have e6:=congrArg xU (congrArg Str.cps h);simp only[HY] at e6;have e5:=MQ.mp (Y9 e6);cases x;cases y;simp only at e5;rw[e5]
def cAa{K:fA}(h:∀p∈L,rG pr K mg T (MH L) p):lZ pr K mg T (MH L) :=
 ⟨λx d e=>h _ (NH e (λz=>nomatch z)),λx e=>h _ (NH e (λz=>nomatch z)),λx f e=>h _ (NH e (λz=>nomatch z)),λx ns e=>h _ (NH e (λz=>nomatch z)),λm tb c f e e2=>by
  obtain⟨m',e3,k⟩:=h _ (NH e (λz=>nomatch z))
  have:m'=m:=by
   unfold dot at e3;have e4:(#[46]++m.cps:Array Nat)=#[46]++m'.cps:=congrArg Str.cps e3
   have e5:m.cps=m'.cps:=by(have e6:=congrArg xU e4;rw[HY,HY] at e6;exact MQ.mp (Y9 e6))
   cases m;cases m';simp only at e5;rw[e5]
  subst this;exact k _ (aAp e2),λx s n e=>by
  obtain⟨m',e3,k⟩:=h _ (NH e (λz=>nomatch z))
  have:m'=x:=by
   unfold col at e3
   have e5:x.cps=m'.cps:=by(have e6:=congrArg xU (congrArg Str.cps e3);simp only[HY] at e6;exact MQ.mp (Y9 e6))
   cases x;cases m';simp only at e5;rw[e5]
  subst this;exact k,λx s n e=>by
  obtain⟨m',e3,k⟩:=h _ (NH e (λz=>nomatch z));rw[z8 e3];exact k,λx e=>h _ (NH e (λz=>nomatch z)),λx e=>h _ (NH e (λz=>nomatch z)),λx cs e=>by
  obtain⟨m',e3,k⟩:=h _ (NH e (λz=>nomatch z));rw[z8 e3]
  exact k,λx f e=>h _ (NH e (λz=>nomatch z)),⟨λf cs e=>by
  obtain⟨m',e3,k⟩:=h _ (NH e (λz=>nomatch z));rw[z8 e3]
  exact k,λx ks vs e=>h _ (NH e (λz=>nomatch z))⟩⟩
def A1{K:fA}(X:K.In h)(G:h.Ns VA mg)(a:fB K VA x=some (some (.int i t))):rG pr K mg T gl (x,.c (.int i)) :=
 ⟨_,.int i,yJ X G a,⟨t,rfl⟩,λG=>by simp[iA]⟩
def Zv{K:fA}(X:K.In h)(G:h.Ns VA mg)(a:fB K VA x=some none):rG pr K mg T gl (x,.BB):=PySem.W.mg_none_of X G a
noncomputable def eW:List ZQ->Option (List bA×List Int)
 |[]=>some ([],[])
 | ⟨_,.str k _,.int i _⟩::r=>(eW r).map λq=>(k::q.1,i::q.2)
 |_=>none
theorem pf(k:bA):∀{l:List ZQ} {ks:List bA} {vs:List Int},eW l=some (ks,vs)->oR ((l.find? λe=>WM k e.key).map (·.val)) ((ks.zip vs).lookup k)
 |[],_,_,h=>by cases h;exact True.intro
 |e::r,ks,vs,h=>by
  unfold eW at h;split at h
  ·cases h;simp_all
  ·rename_i hs k' t i t' r' heq;cases heq;obtain⟨q,hq,e2⟩:=GK.mp h;cases e2;rw[List.find?_cons,AO,LF];show oR ((match k'==k with | true=>_ | false=>_:Option ZQ).map _) _
   cases q1:(k'==k) with
   |true =>
    have:=uB q1
    subst this;rw[WC];exact⟨t',rfl⟩
   |false =>
    have:(k==k')=false:=by
     cases q2:(k==k') with
     |false=>rfl
     |true=>rw[uB q2,WC] at q1;cases q1
    rw[this];exact pf k hq
  ·cases h
def R'{K:fA}(X:K.In h)(G:h.Ns VA mg)(ha:fB K VA x=some (some (.ref a)))(hn:(a==sysModules)=false)
  (hl:K.lookup a=some { cls:=.type "dict",data:=.dict es n }) (hk:Gr pr es.toList) (hz:ks.length=vs.length) (hg:eW es.toList=some (ks,vs)):rG pr K mg T gl (x,.aK ks vs) :=
 ⟨a,es,n,yJ X G ha,hn,hl,hk,hz,λk=>by
  unfold findBy;rw[<- Ga]
  exact pf k hg⟩
structure vc(K:fA)(c x:bA):Prop where
 ex:∃Ca C:eA,fB K VA c=some (some (.ref Ca))/\fB K VA x=some (some (.ref C))/\GO K Ca C=true
structure uc(K:fA)(c x:bA):Prop where
 ex:∃Ca C:eA,fB K VA c=some (some (.ref Ca))/\fB K VA x=some (some (.ref C))/\BU K (.ref Ca) C=true
structure wc(K:fA)(x:bA):Prop where
 ex:∃C:eA,fB K VA x=some (some (.ref C))
def rIa{K:fA}(a:fB K VA c=some (some (.ref Ca)))(b:fB K VA x=some (some (.ref C)))(k:GO K Ca C=true):vc K c x:=⟨Ca,C,a,b,k⟩
def qIa{K:fA}(a:fB K VA c=some (some (.ref Ca)))(b:fB K VA x=some (some (.ref C)))(k:BU K (.ref Ca) C=true):uc K c x:=⟨Ca,C,a,b,k⟩
def sIa{K:fA}(a:fB K VA x=some (some (.ref C))):wc K x:=⟨C,a⟩
structure VL(K:fA)(x:bA):Prop where
 ex:∃C:eA,fB K VA x=some (some (.ref C))/\lE K C/\FG K C none
def g_{K:fA}(a:fB K VA x=some (some (.ref C)))(q:Gb K C RJ "ValueError.__new__"=true)(ga:QD K (.ref C) "__getattribute__"=some (some (.builtin "BaseException.__getattribute__")))(no:QD K (.ref C) "__getattr__"=some none)
  (cl:QD K (.ref C) "__class__"=some (some (.builtin "object.__class__"))) (gt:Qa K (.builtin "object.__class__") "__get__"=some (some (.builtin "getset_descriptor.__get__"))) (tk:lb K (.builtin "object.__class__")=some true)
  (mo:dH K C (.type "object")=some true) (mb:dH K C (.type "BaseException")=some true) (mv:dH K C (.type "ValueError")=some true):VL K x:=⟨C,a,⟨⟨_,Ie q⟩,ga,no,cl,gt,tk,mo,mb,mv⟩,Ie q⟩
structure NU(K:fA)(x:bA):Prop where
 ex:∃C f:eA,fB K VA x=some (some (.ref C))/\QD K (.ref C) "__init__"=some (some (.ref f))/\lE K C/\FG K C (some (.ref f))/\JK K C "number"/\HK K C=true/\xF K (.ref C)=true
def n_{K:fA}(a:fB K VA x=some (some (.ref C)))(b:QD K (.ref C) "__init__"=some (some (.ref f)))(q:J2 K C (.ref f)=true)(ga:QD K (.ref C) "__getattribute__"=some (some (.builtin "BaseException.__getattribute__")))(no:QD K (.ref C) "__getattr__"=some none)
  (cl:QD K (.ref C) "__class__"=some (some (.builtin "object.__class__"))) (gt:Qa K (.builtin "object.__class__") "__get__"=some (some (.builtin "getset_descriptor.__get__"))) (tk:lb K (.builtin "object.__class__")=some true)
  (mo:dH K C (.type "object")=some true) (mb:dH K C (.type "BaseException")=some true) (mv:dH K C (.type "ValueError")=some true)
  (ov:((Hb K C).any λcd=>QT cd.mro&&cd.hasDict)=true) (sa:QD K (.ref C) "__setattr__"=some (some (.builtin "object.__setattr__"))) (na:QD K (.ref C) "number"=some none) (hd:HK K C=true) (kp:xF K (.ref C)=true):NU K x :=
 ⟨C,f,a,b,⟨⟨_,Je q⟩,ga,no,cl,gt,tk,mo,mb,mv⟩,Je q,⟨ov,sa,na⟩,hd,kp⟩
structure PU(st:WA)(UA:bA):Prop where
 sc:JJ (oJ st) (bD st) (OB st)
 body:OW (bD st) (tD st)=some "number"
 bind:∀(kV doc pm:dA) (an:Option eA) (XA ct:dA) (us:List dA),us.length=(bD st).length->bindArgs (zH "__init__" UA (LH st) (tD st) (OB st) .none kV doc pm an XA ct) ⟨us,[]⟩=pure ((bD st).zip us)
def Ke{K:fA}{st:WA}(X:K.In h)(G:h.Ns VA mg)(A:NU K x)(D:VO K x "__init__" UA st)(O:PU st UA):rG pr K mg T gl (x,.NG):=by
 obtain⟨C,f,a,b,g,p,s,hd,kp⟩:=A.ex;obtain⟨Cb,fa,oc,od,an,kV,doc,pm,XA,ct,yE,a',b',i,l,c,k⟩:=D.ex;rw[a] at a';cases a';rw[b] at b';cases b';have F:=WR l c k;exact⟨C,f,_,bD st,"__init__",UA,st,oJ st,a,yJ X G a,g,p,s,vD.mp i,kp,hd,F,O.sc,O.body,F.binds O.bind⟩
structure yc(K:fA)(c x:bA):Prop where
 ex:∃C D:eA,fB K VA c=some (some (.ref C))/\fB K VA x=some (some (.ref D))/\dH K C (.ref D)=some true
def zKa{K:fA}{C D:eA}(a:fB K VA c=some (some (.ref C)))(b:fB K VA x=some (some (.ref D)))(m:dH K C (.ref D)=some true):yc K c x:=⟨C,D,a,b,m⟩
def JV{K:fA}(X:K.In h)(G:h.Ns VA mg)(A:VL K x):rG pr K mg T gl (x,.exc):=by
 obtain⟨C,a,g,p⟩:=A.ex;exact⟨C,a,yJ X G a,g,p⟩
def q_{K:fA}(X:K.In h)(G:h.Ns VA mg)(A:VL K x)(M:∀c∈cs,yc K c x):rG pr K mg T gl (cat x,.MA cs):=by
 obtain⟨D,a,g,_⟩:=A.ex;refine⟨x,rfl,D,yJ X G a,g.q,λc hc C e=>?_⟩;obtain⟨C',D',e1,e2,k⟩:=(M c hc).ex;rw[e] at e1;cases e1;rw[a] at e2;cases e2;exact k
def c0a{K:fA}(X:K.In h)(G:h.Ns VA mg)(A:wc K x)(S:∀c∈s,uc K c x)(N:∀c∈n,vc K c x):rG pr K mg T gl (col x,.CD s n):=by
 obtain⟨C,a⟩:=A.ex;refine⟨x,rfl,C,yJ X G a,λc hc Ca e=>?_,λc hc Ca e=>?_⟩
 ·obtain⟨Cb,C',e1,e2,k⟩:=(S c hc).ex;rw[e] at e1;cases e1;rw[a] at e2;cases e2;exact k
 ·obtain⟨Cb,C',e1,e2,k⟩:=(N c hc).ex;rw[e] at e1;cases e1;rw[a] at e2;cases e2;exact k
def lJa{l:EU}{q:nE}{K:IU->fA}{T:Tab}{L:List (bA×GV)}{st:WA}{fn:Fn}
  (hn:l.most=some 63) (aS:d.params.defaults=[]) (hr:XB (2*n+2) callerA) (hx:d.name=x) (hT:T f=some fn) (O:iR (MH L) st x fn) (hp:bD st=[p])
  (hY:∀(w:VC) (h:HB),YP w h->(K w.params).In h)
  (F:∀(w:VC) (mg:bA->Option dA) (h:HB),(K w.params).In h->h.Ns VA mg->gR (K w.params) x st/\∀p∈L,rG w.params (K w.params) mg T (MH L) p)
  (M:∀ns:List Int,ns.length<=63->∃OA,run T W n f [.sh (.l (ns.map .int))]=some (.ok (.sh (.bl true)),OA)) :
  Wb q loose XP YP l.row.toRowW d [] (λf vs=>Zb f vs):=by
 refine L2.q2a (n:=63) (k:=2*n+2) (x:=p) (CX:=λ_=>SE) (sp:=λw=>kO (K w.params) 1 (run T W n f)) hn (by decide) aS hr hY (λw mg fa h KX G MP=>?_) (λw H a ns hl hO hS=>?_) λ_ _ _ _ _ z=>z
 ·obtain⟨D,hG⟩:=F w mg h KX G;have g:=cAa hG;obtain⟨AF,oc,od,an,kV,doc,pm,XA,ct,yE,a,lk,c,k⟩:=D.ex;have hm:=yJ KX G a;rw[hx,hm] at MP;cases MP;have Fu:=WR lk c k;have E:Entry (K w.params) mg T (MH L) x f fa _ (bD st):=⟨hm,k,AV Fu O hT⟩
  have oCa:(T.aA f).length=1:=by(unfold Tab.aA;rw[hT];show fn.aA.length=1;rw[<- O.pl,hp];rfl)
  refine⟨zH x x (LH st) (tD st) (OB st) .none kV doc pm an XA ct,λs u=>?_,λbase kb nb=>?_⟩
  rotate_left
  ·have:=(V3 (Pr:=l.prog) (w:=w) (base:=base) W g n f fa _ (bD st) E.b).1
   rw[oCa] at this;rw[hp] at this;exact this
  ·have:=O.bind kV doc pm an XA ct [u] (by rw[hp];rfl)
   rw[hp] at this;exact .of_eq this
 ·obtain⟨OA,e⟩:=M ns hl
  have hr1:nA (K w.params) H (ns.map .int) (ns.map V.int):=by
   induction ns with
   |nil=>exact nA.nil
   |cons i r ih=>exact nA.cons (by simp[iA]) (by
     clear e hS hl ih
     induction r with
     |nil=>exact nA.nil
     |cons i r ih=>exact nA.cons (by simp[iA]) ih)
  refine⟨rfl,[.sh (.l (ns.map .int))],H,.sh (.bl true),OA,CA.kP (CA.nil (ZA.refl _)) ?_,rfl,e,λx H' G' _ hv=>eT (K:=K w.params) (G:=G') hv⟩;simp only[iA];exact⟨a,_,rfl,hS,hr1⟩
end CI
namespace CI
open PySem (Operator CmpOp)
noncomputable section
variable{U U1 U2:Env}
theorem dAa:OH (some U)=some (.nx,U):=rfl
noncomputable def bR{O N:Type}(f:O->Env->uA N)(r:uA O):uA N:=r.bind f
theorem Zu{r:uA O}{f:O->Env->uA N}:r.bind f=bR f r:=rfl
theorem cv{a:O}{f:O->Env->uA N}:bR f (some (.ok a,U))=f a U:=rfl
theorem av{x:Exc}{f:O->Env->uA N}:bR f (some (.ex x,U))=some (.ex x,U):=rfl
noncomputable def fR{O:Type}(f:O->Env->Run)(r:uA O):Run:=r.vC f
theorem s_{r:uA O}{f:O->Env->Run}:r.vC f=fR f r:=rfl
theorem u_{a:O}{f:O->Env->Run}:fR f (some (.ok a,U))=f a U:=rfl
theorem t_{x:Exc}{f:O->Env->Run}:fR f (some (.ex x,U))=some (.ex x,U):=rfl
noncomputable def nR(f:Env->Run)(r:Run):Run:=r.next f
theorem nR_{r:Run}{f:Env->Run}:r.next f=nR f r:=rfl
theorem lLa{f:Env->Run}:nR f (some (.nx,U))=f U:=rfl
theorem mLa{f:Env->Run}{v:RV}:nR f (some (.rt v,U))=some (.rt v,U):=rfl
theorem jLa{x:Exc}{f:Env->Run}:nR f (some (.ex x,U))=some (.ex x,U):=rfl
theorem kLa{f:Env->Run}:nR f none=none:=rfl
noncomputable def dR(U:Env)(o:Option RV):uA RV:=done o U
theorem Px{o:Option RV}:done o U=dR U o:=rfl
theorem Qx{v:RV}:dR U (some v)=some (.ok v,U):=rfl
theorem Sx:(RV.sh d).d=d:=rfl
theorem Rx:(RV.ow d).d=d:=rfl
theorem X_:(Sl.sh d).get=some d:=rfl
theorem W_:(Sl.ow d p l).get=some d:=rfl
theorem eBa:(Hd.val v).get U=some v.d:=rfl
theorem dBa:(Hd.slot i).get U=(U[i]?).bind Sl.get:=rfl
noncomputable def ui(U:Env)(o:Option Bool):uA RV:=o.map λb=>(.ok (.sh (.bl b)),U)
theorem eIa:ui U (some b)=some (.ok (.sh (.bl b)),U):=rfl
theorem b3a:aAg false r=r:=rfl
theorem c3a:aAg true (some (.ok v,U))=ui U (xK v.d):=rfl
noncomputable def Jh(i:Nat)(U:Env):Option Sl->uA RV
 |some (.sh d)=>some (.ok (.sh d),U)
 |some (.ow d false false)=>some (.ok (.sh d),U.set i (.sh d))
 |_=>none
theorem vGa:Jh i U (some (.sh d))=some (.ok (.sh d),U):=rfl
theorem Hz:ev P C false (.v i) U=Jh i U U[i]?:=rfl
theorem kz:ev P C t (.c d) U=aAg t (some (.ok (.sh d),U)):=rfl
noncomputable def IS(b:Bool)(v:RV)(U:Env):uA RV:=if b then some (.ok v,U) else none
theorem dIa:IS true v U=some (.ok v,U):=rfl
def rJ(h:n<=1000000):yB n=true:=@GC _ (cl _) h
theorem sYa:yB 0=true:=rJ (by decide)
theorem tYa:yB 1=true:=rJ (by decide)
theorem vYa:yB 2=true:=rJ (by decide)
theorem wYa:yB 3=true:=rJ (by decide)
theorem xYa:yB 4=true:=rJ (by decide)
theorem yYa:yB 5=true:=rJ (by decide)
theorem zYa:yB 7=true:=rJ (by decide)
theorem aZa:yB 8=true:=rJ (by decide)
theorem uYa:yB 11=true:=rJ (by decide)
def yi(ds:List D)(U:Env):uA RV:=IS (yB ds.length) (.sh (.t ds)) U
def Th(ds:List D)(U:Env):uA RV:=IS (yB ds.length) (.ow (.l ds)) U
theorem Gz:ev P C t (.t es) U=aAg t ((uD P C es U).bind yi):=rfl
theorem vz:ev P C t (.l es) U=aAg t ((uD P C es U).bind Th):=rfl
theorem Kz:uD P C [] U=some (.ok [],U):=rfl
noncomputable def Eh(v:RV)(ds:List D)(U:Env):uA (List D):=some (.ok (v.d::ds),U)
def Dh(P:SA)(C:Calls)(es:List E)(v:RV)(U:Env):uA (List D):=(uD P C es U).bind (Eh v)
theorem Jz:uD P C (e::es) U=(ev P C false e U).bind (Dh P C es):=rfl
theorem Ry:VB P C [] U=some (.ok [],U):=rfl
noncomputable def Nh(v:Hd)(ds:List Hd)(U:Env):uA (List Hd):=some (.ok (v::ds),U)
def Mh(P:SA)(C:Calls)(es:List E)(v:Hd)(U:Env):uA (List Hd):=(VB P C es U).bind (Nh v)
def iC(P:SA)(C:Calls)(e:E)(U:Env):uA Hd:=hd e (ev P C false e U) U
noncomputable def dG(v:RV)(U:Env):uA Hd:=some (.ok (.val v.low),U)
theorem jIa:dG (.sh d) U=some (.ok (.val (.sh d)),U):=rfl
theorem iIa:dG (.ow d) U=some (.ok (.val (.ow d)),U):=rfl
def qi(i:Nat)(U:Env)(b:Bool):uA Hd:=if b then some (.ok (.slot i),U) else none
theorem cIa:qi i U true=some (.ok (.slot i),U):=rfl
theorem xQa:iC P C (.v i) U=qi i U ((U[i]?).bind Sl.get).isSome:=rfl
theorem oQa:iC P C (.c d) U=some (.ok (.val (.sh d)),U):=rfl
theorem sQa:iC P C (.l es) U=(ev P C false (.l es) U).bind dG:=rfl
theorem jQa:iC P C (.EA op a b) U=(ev P C false (.EA op a b) U).bind dG:=rfl
theorem uQa:iC P C (.neg a) U=(ev P C false (.neg a) U).bind dG:=rfl
theorem mQa:iC P C (.QA op a b) U=(ev P C false (.QA op a b) U).bind dG:=rfl
theorem rQa:iC P C (.ix a b) U=(ev P C false (.ix a b) U).bind dG:=rfl
theorem vQa:iC P C (.sl a b c) U=(ev P C false (.sl a b c) U).bind dG:=rfl
theorem lQa:iC P C (.call f es) U=(ev P C false (.call f es) U).bind dG:=rfl
theorem iQa:iC P C (.bif f es) U=(ev P C false (.bif f es) U).bind dG:=rfl
theorem qQa:iC P C (.ZF a ts) U=(ev P C false (.ZF a ts) U).bind dG:=rfl
theorem nQa{gA cond:List E}:iC P C (.comp JA tg k gA cond imp nl) U=(ev P C false (.comp JA tg k gA cond imp nl) U).bind dG:=rfl
theorem Qy:VB P C (e::es) U=(iC P C e U).bind (Mh P C es):=rfl
def uG(op:ZM)(x:Hd)(a b:Option D):Option RV:=a.bind λd=>b.bind λe=>if eQ op x d then IB op d e else none
def nh(op:ZM)(x y:Hd)(U:Env):uA RV:=done (uG op x (x.get U) (y.get U)) U
def mh(P:SA)(C:Calls)(op:ZM)(b:E)(x:Hd)(U:Env):uA RV:=(iC P C b U).bind (nh op x)
theorem cz:ev P C t (.EA op a b) U=aAg t ((iC P C a U).bind (mh P C op b)):=rfl
def Rv:uG op x (some (.int i)) (some e)=IB op (.int i) e:=by
 unfold uG eQ;cases op<;>rfl
theorem Sv:uG .Add x (some (.l ds)) (some e)=IB .Add (.l ds) e:=rfl
theorem bw{x:Hd}{i j:Int}:uG .Add x (some (.int i)) (some (.int j))=some (.sh (.int (i+j))):=rfl
theorem qw{x:Hd}{i j:Int}:uG .Sub x (some (.int i)) (some (.int j))=some (.sh (.int (i-j))):=rfl
theorem jw{x:Hd}{i:Int}{e:D}:uG .Mult x (some (.int i)) (some e)=IB .Mult (.int i) e:=rfl
theorem fw{x:Hd}{i:Int}{e:D}:uG .FloorDiv x (some (.int i)) (some e)=IB .FloorDiv (.int i) e:=rfl
theorem iw{x:Hd}{i:Int}{e:D}:uG .Mod x (some (.int i)) (some e)=IB .Mod (.int i) e:=rfl
theorem gw{x:Hd}{i:Int}{e:D}:uG .LShift x (some (.int i)) (some e)=IB .LShift (.int i) e:=rfl
theorem mw{x:Hd}{i:Int}{e:D}:uG .RShift x (some (.int i)) (some e)=IB .RShift (.int i) e:=rfl
theorem cw{x:Hd}{i:Int}{e:D}:uG .BitAnd x (some (.int i)) (some e)=IB .BitAnd (.int i) e:=rfl
theorem dw{x:Hd}{i:Int}{e:D}:uG .BitOr x (some (.int i)) (some e)=IB .BitOr (.int i) e:=rfl
theorem uw{x:Hd}{s:bA}{e:D}:uG .Add x (some (.str s)) (some e)=IB .Add (.str s) e:=rfl
theorem vw{x:Hd}{s:bA}{e:D}:uG .Mult x (some (.str s)) (some e)=IB .Mult (.str s) e:=rfl
def Wc(h:(-(2 ^ 64)<i/\i<2 ^ 64)\/(-(2 ^ 64)<j/\j<2 ^ 64)):IB .Mult (.int i) (.int j)=some (.sh (.int (i*j))):=FA h
theorem uv(h1:-18446744073709551616<j)(h2:j<18446744073709551616):IB .Mult (.int i) (.int j)=some (.sh (.int (i*j))):=Wc (.inr ⟨h1,h2⟩)
theorem sv(h1:-18446744073709551616<i)(h2:i<18446744073709551616):IB .Mult (.int i) (.int j)=some (.sh (.int (i*j))):=Wc (.inl ⟨h1,h2⟩)
theorem fv(h:0<j/\j<100000000000000000000000000000000000000000000000000000000000000000000000000000000):IB .FloorDiv (.int i) (.int j)=some (.sh (.int (i / j))):=FA h
theorem jv(h:0<j):IB .Mod (.int i) (.int j)=some (.sh (.int (i % j))):=FA h
def xv(h:0<=j/\j<=1000/\i.natAbs<2 ^ 64):IB .Pow (.int i) (.int j)=some (.sh (.int (i ^ j.toNat))):=FA h
theorem zv(h:0<=j)(h2:j<=1000):IB .LShift (.int 1) (.int j)=some (.sh (.int (2 ^ j.toNat))):=by
 show @ite _ _ (cl _) _ _=_;rw[FA ⟨h,h2,by decide⟩,Int.one_mul]
theorem Av(h:0<=j):IB .RShift (.int i) (.int j)=some (.sh (.int (i / 2 ^ j.toNat))):=FA h
theorem vv:IB .BitOr (.int i) (.int j)=some (.sh (.int (cH i j))):=rfl
theorem dv:IB .BitAnd (.int i) (.int j)=some (.sh (.int (lU i j))):=rfl
theorem XI(h:yB (xs.length+ys.length)=true):IB .Add (.l xs) (.l ys)=some (.ow (.l (xs++ys))):=FA h
noncomputable def Vh(v:RV)(U:Env):uA RV:=match v.d with
 |.int i=>some (.ok (.sh (.int (-i))),U)
 |_=>none
theorem nHa:Vh (.sh (.int i)) U=some (.ok (.sh (.int (-i))),U):=rfl
theorem zz:ev P C t (.neg a) U=aAg t ((ev P C false a U).bind Vh):=rfl
noncomputable def Xh(v:RV)(U:Env):uA RV:=match v with
 |.sh (.bl b)=>some (.ok (.sh (.bl (!b))),U)
 |_=>none
theorem oHa:Xh (.sh (.bl b)) U=some (.ok (.sh (.bl (!b))),U):=rfl
theorem Bz:ev P C true (.not a) U=(ev P C true a U).bind Xh:=rfl
def xj(o:Option D):Option RV:=o.bind λd=>(xK d).map λb=>.sh (.bl (!b))
def Wh(x:Hd)(U:Env):uA RV:=done (xj (x.get U)) U
theorem wMa:xj (some (.bl b))=some (.sh (.bl (!b))):=rfl
theorem Az:ev P C false (.not a) U=(iC P C a U).bind Wh:=rfl
def V0(op:BH)(a b:Option D):Option RV:=a.bind λd=>b.bind λe=>(mC op d e).map λb=>.sh (.bl b)
theorem Gx:V0 op (some d) (some e)=(mC op d e).map λb=>.sh (.bl b):=rfl
def Nd(op:BH)(a b:Option D):Option Bool:=a.bind λd=>b.bind λe=>mC op d e
theorem Fx:Nd op (some d) (some e)=mC op d e:=rfl
def Ah(op:BH)(x y:Hd)(U:Env):uA RV:=done (V0 op (x.get U) (y.get U)) U
def zh(P:SA)(C:Calls)(op:BH)(b:E)(x:Hd)(U:Env):uA RV:=(iC P C b U).bind (Ah op x)
theorem gz:ev P C t (.QA op a b) U=(iC P C a U).bind (zh P C op b):=rfl
def XW(op:BH)(y z:Hd)(U:Env):uA RV:=done (V0 op (y.get U) (z.get U)) U
def WW(P:SA)(C:Calls)(xC:BH)(y:Hd)(c:E)(U:Env):Option Bool->uA RV
 |none=>none
 |some false=>some (.ok (.sh (.bl false)),U)
 |some true=>(iC P C c U).bind (XW xC y)
theorem mGa:WW P C xC y c U (some false)=some (.ok (.sh (.bl false)),U):=rfl
theorem nGa:WW P C xC y c U (some true)=(iC P C c U).bind (XW xC y):=rfl
theorem lGa:WW P C xC y c U (some b)=if b=true then(iC P C c U).bind (XW xC y) else some (.ok (.sh (.bl false)),U):=by cases b<;>rfl
def vh(P:SA)(C:Calls)(op xC:BH)(c:E)(x y:Hd)(U:Env):uA RV:=WW P C xC y c U (Nd op (x.get U) (y.get U))
def uh(P:SA)(C:Calls)(op xC:BH)(b c:E)(x:Hd)(U:Env):uA RV:=(iC P C b U).bind (vh P C op xC c x)
theorem iz:ev P C t (.ZI op xC a b c) U=(iC P C a U).bind (uh P C op xC b c):=rfl
theorem Pw:mC .Lt (.int i) (.int j)=some (decide (i<j)):=rfl
theorem Ow:mC .LtE (.int i) (.int j)=some (decide (i<=j)):=rfl
theorem Mw:mC .Gt (.int i) (.int j)=some (decide (j<i)):=rfl
theorem Lw:mC .GtE (.int i) (.int j)=some (decide (j<=i)):=rfl
theorem Jw:mC .Eq (.int i) (.int j)=some (decide (i=j)):=rfl
theorem Qw:mC .NotEq (.int i) (.int j)=some (!decide (i=j)):=rfl
def Iw(h1:pC 20 d=true)(h2:pC 20 e=true):mC .Eq d e=some (qI d e):=by
 show(if(pC 20 d&&pC 20 e)=true then some (qI d e) else none)=_;rw[h1,h2];rfl
theorem Kw:mC .Eq (.str a) (.str b)=some (a==b):=rfl
theorem Rw:mC .NotEq (.str a) (.str b)=some (!(a==b)):=rfl
theorem j1a:xK (.bl b)=some b:=rfl
def VW(P:SA)(C:Calls)(t:Bool)(b:E)(v:RV)(U:Env):uA RV:=match v with
 |.sh (.bl true)=>ev P C t b U
 |.sh (.bl false)=>some (.ok (.sh (.bl false)),U)
 |_=>none
def j7(P:SA)(C:Calls)(t:Bool)(b:E)(v:RV)(U:Env):uA RV:=match v with
 |.sh (.bl true)=>some (.ok (.sh (.bl true)),U)
 |.sh (.bl false)=>ev P C t b U
 |_=>none
def d7(P:SA)(C:Calls)(t:Bool)(a b:E)(v:RV)(U:Env):uA RV:=match v with
 |.sh (.bl true)=>ev P C t a U
 |.sh (.bl false)=>ev P C t b U
 |_=>none
theorem Zy:ev P C t (.and a b) U=(ev P C t a U).bind (VW P C t b):=rfl
theorem Cz:ev P C t (.or a b) U=(ev P C t a U).bind (j7 P C t b):=rfl
theorem pz:ev P C t (.ite c a b) U=(ev P C true c U).bind (d7 P C t a b):=rfl
theorem gGa:VW P C t b (.sh (.bl true)) U=ev P C t b U:=rfl
theorem fGa:VW P C t b (.sh (.bl false)) U=some (.ok (.sh (.bl false)),U):=rfl
theorem qHa:j7 P C t b (.sh (.bl true)) U=some (.ok (.sh (.bl true)),U):=rfl
theorem pHa:j7 P C t b (.sh (.bl false)) U=ev P C t b U:=rfl
theorem fHa:d7 P C t a b (.sh (.bl true)) U=ev P C t a U:=rfl
theorem eHa:d7 P C t a b (.sh (.bl false)) U=ev P C t b U:=rfl
theorem eGa:VW P C t b (.sh (.bl x)) U=if x=true then ev P C t b U else some (.ok (.sh (.bl false)),U):=by cases x<;>rfl
def bE(a:Option D)(k:D):Option RV:=a.bind λd=>(zS d k).map .sh
def Rh(x:Hd)(k:RV)(U:Env):uA RV:=done (bE (x.get U) k.d) U
def Qh(P:SA)(C:Calls)(i:E)(x:Hd)(U:Env):uA RV:=(ev P C false i U).bind (Rh x)
theorem qz:ev P C t (.ix a i) U=aAg t ((iC P C a U).bind (Qh P C i)):=rfl
def fFa(h:L2.aD ds i=some d):bE (some (.l ds)) (.int i)=some (.sh d):=by
 show(L2.aD ds i).map RV.sh=_;rw[h];rfl
theorem hFa:bE (some (.t ds)) (.int i)=(L2.aD ds i).map RV.sh:=rfl
theorem gFa:bE (some (.l ds)) (.int i)=(L2.aD ds i).map RV.sh:=rfl
def IZ:L2.aD xs (OfNat.ofNat n)=xs[n]?:=by
 show L2.aD xs ((n:Nat):Int)=_
 cases h:xs[n]? with
 |some v=>exact L2.Nc h
 |none =>
  unfold L2.aD L2.mE
  have:=List.getElem?_eq_none_iff.mp h
  rw[FA (by lia),vB (by lia)];rfl
theorem Oc:L2.aD xs 0=xs[0]?:=IZ (n:=0)
theorem Tu:L2.aD xs 1=xs[1]?:=IZ (n:=1)
theorem Uu:L2.aD xs 2=xs[2]?:=IZ (n:=2)
def N6:bE (some (.l (a::l))) (.int 0)=some (.sh a):=fFa (by rw[Oc];rfl)
def zE(a l h:Option D):Option RV:=a.bind λd=>(HM l).bind λl=>(HM h).bind λh=>iO d l h
def oi(x:Hd)(l h:Option D)(U:Env):uA RV:=done (zE (x.get U) l h) U
def aT(P:SA)(C:Calls)(e:E)(U:Env):uA (Option D):=aAK e (ev P C false e U) U
def ni(P:SA)(C:Calls)(hi:E)(x:Hd)(l:Option D)(U:Env):uA RV:=(aT P C hi U).bind (oi x l)
def mi(P:SA)(C:Calls)(lo hi:E)(x:Hd)(U:Env):uA RV:=(aT P C lo U).bind (ni P C hi x)
theorem bTa:aT P C .xE U=some (.ok none,U):=rfl
noncomputable def Yh(v:RV)(U:Env):uA (Option D):=some (.ok (some v.d),U)
theorem zSa:aT P C (.c d) U=some (.ok (some d),U):=rfl
theorem Dz:ev P C t (.sl a lo hi) U=aAg t ((iC P C a U).bind (mi P C lo hi)):=rfl
def ES(P:SA)(C:Calls)(f:String)(hs:List Hd)(U:Env):uA RV:=XC (P f) (C f) hs U
theorem fz:ev P C t (.call f es) U=aAg t ((VB P C es U).bind (ES P C f)):=rfl
def R6(aA:List Bool)(hs:List Hd)(U U1:Env):uA RV->uA RV
 |none=>none
 |some (o,OA)=>(aAh aA hs OA U U1).map λU'=>(o,U')
def xh(aA:List Bool)(f:List Sl->uA RV)(hs:List Hd)(U:Env):Option (List Sl×Env)->uA RV
 |none=>none
 |some (as,U1)=>R6 aA hs U U1 (f as)
theorem Yx:XC aA f hs U=xh aA f hs U (aAi aA hs U):=rfl
theorem oGa:xh aA f hs U (some (as,U1))=R6 aA hs U U1 (f as):=rfl
noncomputable def yh(o:Out RV)(x:Option Env):uA RV:=x.map λU'=>(o,U')
theorem qGa:yh o (some U)=some (o,U):=rfl
theorem pGa:R6 aA hs U U1 (some (o,OA))=yh o (aAh aA hs OA U U1):=rfl
noncomputable def kK(a:Sl)(o:Option (List Sl×Env)):Option (List Sl×Env):=o.map λ(as,U')=>(a::as,U')
theorem gHa:kK a (some (as,U))=some (a::as,U):=rfl
theorem mJa:aAi [] [] U=some ([],U):=rfl
theorem pJa:aAi (p::ps) (.val (.sh d)::r) U=kK (.sh d) (aAi ps r U):=rfl
theorem oJa:aAi (true::ps) (.val (.ow d)::r) U=kK (.ow d true false) (aAi ps r U):=rfl
theorem nJa:aAi (false::ps) (.val (.ow d)::r) U=kK (.sh d) (aAi ps r U):=rfl
def aX(p:Bool)(ps:List Bool)(i:Nat)(r:List Hd)(U:Env):Option Sl->Option (List Sl×Env)
 |some (.sh d)=>kK (.sh d) (aAi ps r U)
 |some (.ow d pin lk)=>match p with
  |true=>kK (.ow d true lk) (aAi ps r (U.set i .un))
  |false=>if pin||lk then none else kK (.sh d) (aAi ps r (U.set i (.sh d)))
 |_=>none
theorem qJa:aAi (p::ps) (.slot i::r) U=aX p ps i r U U[i]?:=rfl
theorem jHa:aX p ps i r U (some (.sh d))=kK (.sh d) (aAi ps r U):=rfl
theorem iHa:aX true ps i r U (some (.ow d pin lk))=kK (.ow d true lk) (aAi ps r (U.set i .un)):=rfl
theorem hHa:aX false ps i r U (some (.ow d false false))=kK (.sh d) (aAi ps r (U.set i (.sh d))):=rfl
theorem L':aAh [] [] [] U0 U=some U:=rfl
theorem J':aAh (false::ps) (.slot i::hs) (a::as) U0 U=aAh ps hs as U0 U:=rfl
theorem K':aAh (false::ps) (.val v::hs) (a::as) U0 U=aAh ps hs as U0 U:=rfl
theorem P':aAh (true::ps) (.val v::hs) (a::as) U0 U=aAh ps hs as U0 U:=rfl
def V6(ps:List Bool)(i:Nat)(hs:List Hd)(a:Sl)(as:List Sl)(U0 U:Env)(o:Option Sl):Option Env :=
  match o,a with
  |some (.ow _ pin lk),.ow d _ _=>aAh ps hs as U0 (U.set i (.ow d pin lk))
  |some (.ow _ _ _),_=>none
  |_,_=>aAh ps hs as U0 U
theorem M':aAh (true::ps) (.slot i::hs) (a::as) U0 U=V6 ps i hs a as U0 U U0[i]?:=rfl
theorem wGa:V6 ps i hs (.ow d p l) as U0 U (some (.ow d' p' l'))=aAh ps hs as U0 (U.set i (.ow d p' l')):=rfl
theorem xGa:V6 ps i hs a as U0 U (some (.sh d))=aAh ps hs as U0 U:=rfl
def lh(f:BI)(hs:List Hd)(U:Env):uA RV:=done ((getAll hs U).bind (rD f)) U
theorem bz:ev P C t (.bif f es) U=aAg t ((VB P C es U).bind (lh f)):=rfl
theorem B':getAll [] U=some []:=rfl
noncomputable def kf(a:Option D)(b:Option (List D)):Option (List D):=a.bind λd=>b.map (d :: ·)
theorem Y_:kf (some d) (some ds)=some (d::ds):=rfl
theorem Z_:getAll (h::r) U=kf (h.get U) (getAll r U):=rfl
theorem z_:rD .len [.l ds]=some (.sh (.int ds.length)):=rfl
theorem A_:rD .len [.t ds]=some (.sh (.int ds.length)):=rfl
theorem x_:rD .int [.bl b]=some (.sh (.int (if b then 1 else 0))):=rfl
theorem B_:rD .tuple [.l ds]=some (.sh (.t ds)):=rfl
def sE(ts:List Ty):Option D->Option RV
 |some d=>(uS ts d).map λb=>.sh (.bl b)
 |none=>none
def a7(ts:List Ty)(x:Hd)(U:Env):uA RV:=done (sE ts (x.get U)) U
theorem oz:ev P C t (.ZF a ts) U=aAg t ((iC P C a U).bind (a7 ts)):=by
 show aAg t ((iC P C a U).bind λx U1=>done ((x.get U1).bind λd=>(uS ts d).map λb=>.sh (.bl b)) U1)=_
 congr 2
 funext x U1
 unfold a7;cases x.get U1<;>rfl
theorem aEa:sE [.int] (some (.rA))=some (.sh (.bl false)):=rfl
theorem xDa:sE [.int] (some (.bl b))=some (.sh (.bl true)):=rfl
theorem yDa:sE [.int] (some (.int i))=some (.sh (.bl true)):=rfl
theorem bEa:sE [.int] (some (.str x))=some (.sh (.bl false)):=rfl
theorem cEa:sE [.int] (some (.t ds))=some (.sh (.bl false)):=rfl
theorem zDa:sE [.int] (some (.l ds))=some (.sh (.bl false)):=rfl
theorem vDa:sE [.bool] (some (.bl b))=some (.sh (.bl true)):=rfl
theorem wDa:sE [.bool] (some (.int i))=some (.sh (.bl false)):=rfl
theorem gEa:sE [.str] (some (.rA))=some (.sh (.bl false)):=rfl
theorem dEa:sE [.str] (some (.bl b))=some (.sh (.bl false)):=rfl
theorem eEa:sE [.str] (some (.int i))=some (.sh (.bl false)):=rfl
theorem hEa:sE [.str] (some (.str x))=some (.sh (.bl true)):=rfl
theorem iEa:sE [.str] (some (.t ds))=some (.sh (.bl false)):=rfl
theorem fEa:sE [.str] (some (.l ds))=some (.sh (.bl false)):=rfl
theorem jEa:sE [.tuple] (some (.t ds))=some (.sh (.bl true)):=rfl
def bh(i:Nat)(d:D)(U:Env)(o:Option Sl):uA RV:=match o with
 |some (.ow (.l ds) p false)=>if yB (ds.length+1) then some (.ok (.sh .rA),U.set i (.ow (.l (ds++[d])) p false)) else none
 |_=>none
def gh(i:Nat)(v:RV)(U:Env):uA RV:=bh i v.d U U[i]?
theorem hGa:bh i d U (some (.ow (.l ds) p false))=IS (yB (ds.length+1)) (.sh .rA) (U.set i (.ow (.l (ds++[d])) p false)):=rfl
noncomputable def Z6(r:uA RV)(b:Bool):uA RV:=if b then r else none
theorem aHa:Z6 r true=r:=rfl
theorem az:ev P C t (.app i a) U=aAg t (Z6 ((ev P C false a U).bind (gh i)) (mJ U i)):=rfl
noncomputable def Ng:Option Sl->Bool
 |some (.ow (.l _) _ _)=>true
 |_=>false
theorem wEa:mJ U i=Ng U[i]?:=rfl
theorem vEa:Ng (some (.ow (.l ds) p l))=true:=rfl
def jh(i:Nat)(v:RV)(U:Env):Run:=OH (store i v U)
theorem Vz:ex P C W (.nB i e) U=(ev P C false e U).vC (jh i):=rfl
noncomputable def xQ(i:Nat)(v:RV)(U:Env)(o:Option Sl):Option Env:=match o with
 |none=>none
 |some (.ow _ true _)=>none
 |some (.ow _ _ true)=>none
 |some _=>match v with
  |.sh d=>some (U.set i (.sh d))
  |.ow d=>some (U.set i (.ow d false false))
  |.od _=>none
theorem IM{i:Nat}{v:RV}:store i v U=xQ i v U U[i]?:=rfl
theorem qZa:xQ i (.sh d) U (some .un)=some (U.set i (.sh d)):=rfl
theorem pZa:xQ i (.ow d) U (some .un)=some (U.set i (.ow d false false)):=rfl
theorem oZa:xQ i (.sh d) U (some (.sh d'))=some (U.set i (.sh d)):=rfl
theorem nZa:xQ i (.ow d) U (some (.ow d' false false))=some (U.set i (.ow d false false)):=rfl
noncomputable def UB:Sl->Bool
 |.un=>true
 |.mv=>true
 |.sh _=>true
 |.ow _ false false=>true
 |_=>false
theorem JC(h:UB s=true):xQ i (.sh d) U (some s)=some (U.set i (.sh d)):=by
 cases s with
 |ow d p l=>cases p<;>cases l<;>first | rfl | cases h
 |_=>rfl
theorem vNa:UB .un=true:=rfl
theorem uNa:UB (.sh d)=true:=rfl
theorem tNa:UB (.ow d false false)=true:=rfl
def kh(is:List Nat)(v:RV)(U:Env):Run:=OH (bB false is v.d U)
theorem Wz:ex P C W (.cM is e) U=(ev P C false e U).vC (kh is):=rfl
theorem mV{i:Nat}{d:D}:bB true [i] d U=store i (.sh d) U:=rfl
theorem pN{i:Nat}{is:List Nat}{ds:List D}:bB false (i::is) (.t ds) U=aAo (i::is) ds U:=rfl
theorem mO:aAo [] [] U=some U:=rfl
def si(is:List Nat)(ds:List D)(o:Option Env):Option Env:=o.bind (aAo is ds)
theorem lO{i:Nat}{is:List Nat}{d:D}{ds:List D}:aAo (i::is) (d::ds) U=si is ds (store i (.sh d) U):=rfl
theorem PN{is:List Nat}{ds:List D}:si is ds (some U)=aAo is ds U:=rfl
def YX(i:Nat)(v:D)(U:Env):Option Sl->D->Run
 |some (.ow (.l ds) p false),.int n=>OH ((L2.mE ds.length n).map λm=>U.set i (.ow (.l (ds.set m v)) p false))
 |_,_=>none
def ki(i:Nat)(v:RV)(j:RV)(U:Env):Run:=YX i v.d U U[i]? j.d
noncomputable def xUa(i:Nat)(v j:RV)(U:Env):Option Sl->Run
 |o=>match o,j,v with
  |_,_,_=>none
def sHa(i:Nat)(v:RV)(j:RV)(U:Env):Run:=xUa i v j U U[i]?
noncomputable def oEa:Option Sl->Bool
 |_=>false
theorem pEa:nEa U i=oEa U[i]?:=rfl
noncomputable def Oh(r r':Run)(b:Bool):Run:=if b then r else r'
theorem bHa:Oh r r' true=r:=rfl
def kPS(i:Nat)(v:RV)(j:RV)(U:Env):Run:=yXa i U U[i]? (jYa j.d) v
noncomputable def rEa:Option Sl->Bool
 |_=>false
theorem sEa:qEa U i=rEa U[i]?:=rfl
noncomputable def Zh(P:SA)(C:Calls)(i:Nat)(k:E)(v:RV)(U:Env):Run:=none
def ji(P:SA)(C:Calls)(i:Nat)(k:E)(v:RV)(U:Env):Run:=Oh ((ev P C false k U).vC (ki i v)) (Zh P C i k v U) (mJ U i)
theorem d_:ex P C W (.set i k e) U=(ev P C false e U).vC (ji P C i k):=rfl
def eFa:L2.mE (n+2) 1=some 1:=by unfold L2.mE;rw[FA (by lia),FA (by lia)];rfl
theorem xXa:YX i v U (some (.ow (.l (a::b::ds)) p false)) (.int 1)=some (.nx,U.set i (.ow (.l (a::v::ds)) p false)):=by
 show OH ((L2.mE (ds.length+2) 1).map _)=_;rw[eFa];rfl
def wXa(h:L2.mE ds.length n=some m):YX i v U (some (.ow (.l ds) p false)) (.int n)=some (.nx,U.set i (.ow (.l (ds.set m v)) p false)):=by
 show OH ((L2.mE ds.length n).map _)=_;rw[h];rfl
noncomputable def Fh(v:RV)(U:Env):Run:=some (.nx,U)
theorem Xz:ex P C W (.expr e) U=(ev P C false e U).vC Fh:=rfl
noncomputable def K8(i:Nat)(U:Env):Option Sl->Run
 |some (.ow d false _)=>some (.rt (.ow d),U.set i .mv)
 |some (.sh d)=>some (.rt (.sh d),U)
 |_=>none
theorem fWa:K8 i U (some (.ow d false l))=some (.rt (.ow d),U.set i .mv):=rfl
theorem gWa:K8 i U (some (.sh d))=some (.rt (.sh d),U):=rfl
noncomputable def SG(v:RV)(U:Env):Run:=some (.rt v,U)
theorem a_:ex P C W (.ret (.v i)) U=K8 i U U[i]?:=rfl
theorem Hy:ex P C W (.ret (.c d)) U=(ev P C false (.c d) U).vC SG:=rfl
theorem Oy:ex P C W (.ret (.t es)) U=(ev P C false (.t es) U).vC SG:=rfl
theorem Ly:ex P C W (.ret (.l es)) U=(ev P C false (.l es) U).vC SG:=rfl
theorem Dy:ex P C W (.ret (.EA op a b)) U=(ev P C false (.EA op a b) U).vC SG:=rfl
theorem Fy:ex P C W (.ret (.QA op a b)) U=(ev P C false (.QA op a b) U).vC SG:=rfl
theorem By:ex P C W (.ret (.and a b)) U=(ev P C false (.and a b) U).vC SG:=rfl
theorem Iy:ex P C W (.ret (.ite a b c)) U=(ev P C false (.ite a b c) U).vC SG:=rfl
theorem Jy:ex P C W (.ret (.ix a b)) U=(ev P C false (.ix a b) U).vC SG:=rfl
theorem My:ex P C W (.ret (.sl a b c)) U=(ev P C false (.sl a b c) U).vC SG:=rfl
theorem Ey:ex P C W (.ret (.call f es)) U=(ev P C false (.call f es) U).vC SG:=rfl
theorem Cy:ex P C W (.ret (.bif f es)) U=(ev P C false (.bif f es) U).vC SG:=rfl
theorem Gy{gA cond:List E}:ex P C W (.ret (.comp JA tg k gA cond imp nl)) U=(ev P C false (.comp JA tg k gA cond imp nl) U).vC SG:=rfl
def X6(P:SA)(C:Calls)(W:Nat)(a b:List S)(v:RV)(U:Env):Run:=match v with
 |.sh (.bl true)=>MA P C W a U
 |.sh (.bl false)=>MA P C W b U
 |_=>none
theorem dHa:X6 P C W a b (.sh (.bl true)) U=MA P C W a U:=rfl
theorem cHa:X6 P C W a b (.sh (.bl false)) U=MA P C W b U:=rfl
theorem Zz:ex P C W (.DA c a b) U=(ev P C true c U).vC (X6 P C W a b):=rfl
def Xe(P:SA)(C:Calls)(W:Nat)(tg:List Nat)(one:Bool)(body:List S)(U:Env):Option (List D×Option Nat)->Run
 |none=>none
 |some (ds,o)=>(dE (bB one tg) (MA P C W body) ds (aAd o U)).restore o U
theorem K_:Xe P C W tg one body U (some (ds,o))=(dE (bB one tg) (MA P C W body) ds (aAd o U)).restore o U:=rfl
def aA2(P:SA)(C:Calls)(W:Nat)(tg:List Nat)(one:Bool)(k:WE)(body:List S)(hs:List Hd)(U:Env):Run:=Xe P C W tg one body U (aAb k hs U)
theorem Yz:ex P C W (.for tg one k gA body) U=(VB P C gA U).vC (aA2 P C W tg one k body):=rfl
theorem OR:MA P C W [] U=some (.nx,U):=rfl
theorem LV:MA P C W (s::r) U=(ex P C W s U).next (MA P C W r):=rfl
theorem oWa{r:Run}:r.restore none U0=r:=by cases r with | none=>rfl | some y=>obtain⟨fl,U⟩:=y;rfl
theorem u1a:aAd none U=U:=rfl
def J6(h:a.get U=some (.int n))(h1:-1000000<=n)(h2:n<=1000000):aAb .eE [a] U=some ((KC n.toNat).map λ(j:Nat)=>.int (j:Int),none):=by
 (unfold aAb;simp only[h]);exact FA ⟨h1,h2⟩
def LN(h:v.d=.l ds):aAb .of [.val v] U=some (ds,none):=by(unfold aAb;simp only[h])
def K6(h:v.d=.t ds):aAb .of [.val v] U=some (ds,none):=by(unfold aAb;simp only[h])
def Rg(h:U[i]?=some (.sh (.l ds))):aAb .of [.slot i] U=some (ds,none):=by(unfold aAb;simp only[h])
def VP(h:U[i]?=some (.sh (.t ds))):aAb .of [.slot i] U=some (ds,none):=by(unfold aAb;simp only[h])
def G6(h:U[i]?=some (.ow (.l ds) p l)):aAb .of [.slot i] U=some (ds,some i):=by(unfold aAb;simp only[h])
def cQ{bind:D->Env->Option Env}(I:Env->Prop)(h:∀d∈ds,∀U,I U->∃U1,bind d U=some U1/\∃U2,body U1=some (.nx,U2)/\I U2):∀{U:Env},I U->∃U',dE bind body ds U=some (.nx,U')/\I U':=by
 induction ds with
 |nil=>exact λhU=>⟨_,rfl,hU⟩
 |cons d ds ih =>
  intro U hU;obtain⟨U1,e1,U2,e2,h2⟩:=h d (by simp) U hU;obtain⟨U',e3,h3⟩:=ih (λd' vI=>h d' (by simp[vI])) h2;exact⟨U',by simp only[dE,e1,e2,e3],h3⟩
def dX{bind:D->Env->Option Env}(I:List D->Env->Prop)(h:∀pre d post,ds=pre++d::post->∀U,I pre U->∃U1,bind d U=some U1/\∃U2,body U1=some (.nx,U2)/\I (pre++[d]) U2)(h0:I [] U):∃U',dE bind body ds U=some (.nx,U')/\I ds U':=by
 have key:∀(post pre:List D) (U:Env),ds=pre++post->I pre U->∃U',dE bind body post U=some (.nx,U')/\I ds U':=by
  intro post
  induction post with
  |nil=>intro pre U e hp;rw[jI] at e;subst e;exact⟨U,rfl,hp⟩
  |cons d post ih =>
   intro pre U e hp;obtain⟨U1,e1,U2,e2,h2⟩:=h pre d post e U hp;obtain⟨U',e3,h3⟩:=ih (pre++[d]) U2 (by rw[e];simp) h2;exact⟨U',by simp only[dE,e1,e2,e3],h3⟩
 exact key ds [] U rfl h0
noncomputable def gi(as:List Sl):Run->uA RV
 |some (.nx,U)=>some (.ok (.sh .rA),back as U)
 |some (.rt v,U)=>some (.ok v,back as U)
 |_=>none
theorem yHa:gi as (some (.rt v,U))=some (.ok v,back as U):=rfl
def qK(hT:T f=some fn)(h1:as.length=fn.aA.length)(h2:as.all oK=true)(h3:fn.rs=false:=by rfl):run T W (n+1) f as=gi as (MA T.aA (run T W n) W fn.body (as++FC fn.nl .un)):=by
 simp only[run,hT];rw[FA ⟨h1,h2⟩,h3];generalize MA T.aA (run T W n) W fn.body (as++FC fn.nl .un)=r;obtain _ | ⟨fl,U⟩:=r
 ·rfl
 ·cases fl<;>rfl
def aAD(T:Tab)(W n:Nat)(fn:Fn)(as:List Sl):Option (Exc×Env):=DC T.aA (run T W n) W fn.body (as++FC fn.nl .un)
def HS(as:List Sl)(r:Run)(o:Option (Exc×Env)):uA RV:=match r with
 |some (.nx,U)=>some (.ok (.sh .rA),back as U)
 |some (.rt v,U)=>some (.ok v,back as U)
 |_=>match o with
  |some (x,U)=>some (.ex x,back as U)
  |none=>none
theorem wHa:HS as (some (.nx,U)) o=some (.ok (.sh .rA),back as U):=rfl
theorem xHa:HS as (some (.rt v,U)) o=some (.ok v,back as U):=rfl
theorem vHa:HS as none o=(match o with | some (x,U)=>some (.ex x,back as U) | none=>none):=rfl
def sQ(hT:T f=some fn)(h1:as.length=fn.aA.length)(h2:as.all oK=true)(h3:fn.rs=true:=by rfl):run T W (n+1) f as=HS as (MA T.aA (run T W n) W fn.body (as++FC fn.nl .un)) (aAD T W n fn as):=by
 simp only[run,hT];rw[FA ⟨h1,h2⟩,h3];unfold aAD;generalize MA T.aA (run T W n) W fn.body (as++FC fn.nl .un)=r;obtain _ | ⟨fl,U⟩:=r
 ·rfl
 ·cases fl<;>rfl
end
end CI
namespace CI
open PySem PySem.Spec PyProof.Rows L2
noncomputable def Sd:D->dA->Bool
 |.rA,.none=>true
 |.bl a,.bool b=>a==b
 |.int i,.int j _=>i==j
 |.str x,.str y _=>x==y&&jC x
 |_,_=>false
def Z0:List D->List dA->Bool
 |[],[]=>true
 |d::ds,v::vs=>Sd d v&&Z0 ds vs
 |_,_=>false
def Kx{K:fA}(h:Sd d u=true):∃v,aAf v u/\∀G,iA K G d v:=by
 cases d<;>cases u<;>try exact nomatch (show false=true from h)
 ·exact⟨.rA,rfl,λG=>by simp[iA]⟩
 ·exact⟨.bl _,rfl,λG=>by simp[iA,uB (show(_==_)=true from h)]⟩
 ·rename_i i j t;exact⟨.int i,⟨t,by rw[uB (show(i==j)=true from h)]⟩,λG=>by simp[iA]⟩
 ·rename_i x y t;replace h:=(qA _ _).mp h;exact⟨.str x,⟨t,by rw[uB h.1]⟩,λG=>by simp[iA,h.2]⟩
theorem Td{K:fA}:∀{ds:List D} {us:List dA},Z0 ds us=true->∃vs,aAe vs us/\∀G,nA K G ds vs
 |[],[],_=>⟨[],.nil,λG=>nA.nil⟩
 |d::ds,u::us,h=>by
  replace h:=(qA _ _).mp h;obtain⟨v,h1,h2⟩:=Kx h.1;obtain⟨vs,h3,h4⟩:=Td h.2;exact⟨v::vs,.cons h1 h3,λG=>nA.cons (h2 G) (h4 G)⟩
 |[],_::_,h=>nomatch (show false=true from h)
 |_::_,[],h=>nomatch (show false=true from h)
def Nx{K:fA}{sl}(X:K.In h)(G:h.Ns VA mg)
  (ha:fB K VA x=some (some (.ref a))) (hl:K.lookup a=some ⟨.type "tuple",dd,.seq gA n,sl⟩) (hc:Z0 ds gA.toList=true) (hz:decide (gA.size<=1000)=true):rG pr K mg T gl (x,.c (.t ds)):=by
 obtain⟨vs,h1,h2⟩:=Td hc;refine⟨_,.ref a,yJ X G ha,rfl,λG=>?_⟩;simp only[iA];exact⟨a,vs,rfl,.inr ⟨_,gA,n,hl,rfl,rfl,lD (TM hz) (by decide),h1⟩,h2 G⟩
noncomputable section
variable{U U1:Env}
def GS(P:SA)(C:Calls)(JA:E)(tg:List Nat)(k:WE)(cond:List E)(imp:List Nat)(nl:Nat)(hs:List Hd)(U1:Env):uA RV :=
 match aAb k hs U1 with
 |none=>none
 |some (ds,o)=>(XC (imp.map λ_=>true) (pI (IC P C cond) (ev P C false JA) (bB (tg.length==1) tg) ds nl) (imp.map Hd.slot) (aAd o U1)).bind (aAq o U1)
theorem jz{gA cond:List E}:ev P C t (.comp JA tg k gA cond imp nl) U=aAg t ((VB P C gA U).bind (GS P C JA tg k cond imp nl)):=rfl
def IE{cond:List E}(h:aAb k hs U1=some (ds,none)) :
  GS P C JA tg k cond imp nl hs U1=(XC (imp.map λ_=>true) (pI (IC P C cond) (ev P C false JA) (bB (tg.length==1) tg) ds nl) (imp.map Hd.slot) U1).bind (aAq none U1):=by
 unfold GS;rw[h];rfl
theorem bAa:aAq none U1 v U2=some (.ok v,U2):=rfl
def Bh{cond:List E}(h:aAb k hs U1=some (ds,some i)) :
  GS P C JA tg k cond imp nl hs U1=(XC (imp.map λ_=>true) (pI (IC P C cond) (ev P C false JA) (bB (tg.length==1) tg) ds nl) (imp.map Hd.slot) (aAd (some i) U1)).bind (aAq (some i) U1):=by
 unfold GS;rw[h]
def S6(as:List Sl)(iB:List D)(Ui:Env):uA RV:=if yB iB.length then some (.ok (.ow (.l iB)),back as Ui) else none
theorem WD{bind:D->Env->Option Env}(h:as.all oK=true):pI tests JA bind ds nl as=(XD tests JA bind ds [] (as++FC nl .un)).bind (S6 as):=by
 unfold pI;rw[FA h];rfl
theorem rGa(h:yB iB.length=true):S6 as iB Ui=some (.ok (.ow (.l iB)),back as Ui):=by unfold S6;rw[FA h]
theorem DV:IC P C [] U=some (.ok (.sh (.bl true)),U):=rfl
def vi(P:SA)(C:Calls)(es:List E)(v:RV)(U1:Env):uA RV:=match v with
 |.sh (.bl true)=>IC P C es U1
 |.sh (.bl false)=>some (.ok (.sh (.bl false)),U1)
 |_=>none
theorem Sy:IC P C (e::es) U=(ev P C true e U).bind (vi P C es):=rfl
theorem hIa:vi P C [] (.sh (.bl b)) U1=some (.ok (.sh (.bl b)),U1):=by
 cases b
 ·rfl
 ·show IC P C [] U1=_;exact DV
theorem oSa:oK (.ow d true l)=true:=rfl
theorem pSa:oK (.sh d)=true:=rfl
def W0{bind:D->Env->Option Env}(I:Nat->List D->Env->Prop)
  (step:∀(j:Nat) (d:D),ds[j]?=some d->∀iB U,I j iB U->∃U1 c U2,bind d U=some U1/\tests U1=some (.ok (.sh (.bl c)),U2)/\(c=true->∃v U3,JA U2=some (.ok v,U3)/\I (j+1) (iB++[v.d]) U3)/\(c=false->I (j+1) iB U2)) :
  ∀iB U,I 0 iB U->∃sG U',XD tests JA bind ds iB U=some (.ok sG,U')/\I ds.length sG U'/\sG.length<=iB.length+ds.length:=by
 have key:∀(es:List D) (j:Nat),ds.drop j=es->∀iB U,I j iB U->∃sG U',XD tests JA bind es iB U=some (.ok sG,U')/\I (j+es.length) sG U'/\sG.length<=iB.length+es.length:=by
  intro es
  induction es with
  |nil=>intro j _ iB U h;exact⟨iB,U,rfl,h,by simp⟩
  |cons d es ih =>
   intro j hj iB U h
   have hd:ds[j]?=some d:=by
    have:(ds.drop j)[0]?=some d:=by rw[hj];rfl
    simpa using this
   have W4:ds.drop (j+1)=es:=by
    have:(ds.drop j).drop 1=es:=by rw[hj];rfl
    rw[List.drop_drop] at this;exact this
   obtain⟨U1,c,U2,h1,h2,h3,h4⟩:=step j d hd iB U h;simp only[XD,h1,h2,uA.bind]
   cases c with
   |false =>
    obtain⟨sG,U',e1,e2,e3⟩:=ih (j+1) W4 iB U2 (h4 rfl);refine⟨sG,U',e1, ?_,by simp only[fC];lia⟩
    have:j+(d::es).length=j+1+es.length:=by simp only[fC];lia
    rw[this];exact e2
   |true =>
    obtain⟨v,U3,h5,h6⟩:=h3 rfl;obtain⟨sG,U',e1,e2,e3⟩:=ih (j+1) W4 (iB++[v.d]) U3 h6;simp only[h5];refine⟨sG,U',e1, ?_,by simp only[iF,fC,RY] at e3 ⊢;lia⟩
    have:j+(d::es).length=j+1+es.length:=by simp only[fC];lia
    rw[this];exact e2
 intro iB U h
 have:=key ds 0 rfl iB U h
 simpa using this
def yC(h:n<=1000000):yB n=true:=rJ h
end
end CI
namespace CI
open PySem (Operator CmpOp Str)
noncomputable section
variable{U U1 U2:Env}
def EF(sn:List (List bA×List bA))(o:Option D):Option RV:=o.bind (C6 sn)
def Ph(sn:List (List bA×List bA))(x:Hd)(U:Env):uA RV:=done (EF sn (x.get U)) U
theorem nz:ev P C t (.pL a sn) U=aAg t ((iC P C a U).bind (Ph sn)):=rfl
def k7(cs:List bA)(i j:Nat)(r:Run)(o:Option (Exc×Env)):Run:=match r with
 |some (.nx,U1)=>some (.nx,U1)
 |_=>SJ cs i j o
theorem e_:ex P C W (.oO b cs i j) U=k7 cs i j (MA P C W b U) (DC P C W b U):=rfl
noncomputable def ah(r:uA Hd)(f:Env->Option (Exc×Env))(o:Option (Exc×Env)):Option (Exc×Env):=match r with
 |some (.ok _,U1)=>f U1
 |_=>o
theorem Yy:UJ P C (e::es) U=ah (iC P C e U) (UJ P C es) (ED P C e U):=rfl
theorem dGa:ah (some (.ok h,U)) f o=f U:=rfl
theorem b_:ex P C W (.ME c es) U=none:=rfl
noncomputable def bX(r:Run)(f:Env->Option (Exc×Env))(o:Option (Exc×Env)):Option (Exc×Env):=match r with
 |some (.nx,U1)=>f U1
 |_=>o
theorem Le:DC P C W (s::r) U=bX (ex P C W s U) (DC P C W r) (oF P C W s U):=rfl
theorem bIa:bX (some (.nx,U)) f o=f U:=rfl
theorem aIa:bX none f o=o:=rfl
theorem zHa:bX (some (.ex x,U)) f o=o:=rfl
noncomputable def W6(r:uA RV)(f g:Env->Option (Exc×Env)):Option (Exc×Env):=match r with
 |some (.ok (.sh (.bl true)),U1)=>f U1
 |some (.ok (.sh (.bl false)),U1)=>g U1
 |_=>none
theorem Oz:oF P C W (.DA c a b) U=W6 (ev P C true c U) (DC P C W a) (DC P C W b):=rfl
theorem zGa:W6 (some (.ok (.sh (.bl true)),U)) f g=f U:=rfl
theorem yGa:W6 (some (.ok (.sh (.bl false)),U)) f g=g U:=rfl
noncomputable def di(c:bA)(r:uA (List D)):Option (Exc×Env):=match r with
 |some (.ok _,U1)=>some (⟨c,none⟩,U1)
 |_=>none
theorem Rz:oF P C W (.ME c es) U=di c (uD P C es U):=rfl
theorem uHa:di c (some (.ok ds,U))=some (⟨c,none⟩,U):=rfl
theorem c_:ex P C W (.aO c es) U=none:=rfl
noncomputable def ai(c:bA)(r:uA (List D)):Option (Exc×Env):=match r with
 |some (.ok [.int n],U1)=>some (⟨c,some n⟩,U1)
 |_=>none
theorem Tz:oF P C W (.aO c es) U=ai c (uD P C es U):=rfl
theorem tHa:ai c (some (.ok [.int n],U))=some (⟨c,some n⟩,U):=rfl
def aW(P:SA)(C:Calls)(W:Nat)(tg:List Nat)(one:Bool)(body:List S)(U:Env):Option (List D×Option Nat)->Option (Exc×Env)
 |some (ds,o)=>pK o U (nH (bB one tg) (MA P C W body) (DC P C W body) ds (aAd o U))
 |none=>none
theorem G_:aW P C W tg one body U (some (ds,o))=pK o U (nH (bB one tg) (MA P C W body) (DC P C W body) ds (aAd o U)):=rfl
def U6(P:SA)(C:Calls)(W:Nat)(tg:List Nat)(one:Bool)(k:WE)(body:List S)(r:uA (List Hd)):Option (Exc×Env):=match r with
 |some (.ok hs,U1)=>aW P C W tg one body U1 (aAb k hs U1)
 |_=>none
theorem Nz:oF P C W (.for tg one k gA body) U=U6 P C W tg one k body (VB P C gA U):=by
 show(match VB P C gA U with | some (.ok hs,U1)=>(match aAb k hs U1 with | some (ds,o)=>pK o U1 (nH (bB one tg) (MA P C W body) (DC P C W body) ds (aAd o U1)) | none=>none) | _=>none)=_;unfold U6 aW
 split<;>first | rfl | (split<;>rfl)
theorem uGa:U6 P C W tg one k body (some (.ok hs,U))=aW P C W tg one body U (aAb k hs U):=rfl
theorem F7{bind:D->Env->Option Env}(I:Env->Prop){J:Env->Prop}:∀{pre:List D},(∀e∈pre,∀U,I U->∃U1,bind e U=some U1/\∃U2,body U1=some (.nx,U2)/\I U2) ->
  (∀U,I U->∃U1,bind d U=some U1/\body U1=none/\∃U2,bx U1=some (x,U2)/\J U2)->∀U,I U->∃U2,nH bind body bx (pre++d::post) U=some (x,U2)/\J U2
 |[],_,hd,U,hi=>by
  obtain⟨U1,e1,e2,U2,e3,h3⟩:=hd U hi;exact⟨U2,by simp only[pU,nH,e1,e2,e3],h3⟩
 |a::pre,h,hd,U,hi=>by(obtain⟨U1,e1,U2,e2,h2⟩:=h a (by simp) U hi;obtain⟨U3,e3,h3⟩:=F7 (post:=post) I (λe he=>h e (OD _ he)) hd U2 h2;exact⟨U3,by simp only[nU,nH,e1,e2,e3],h3⟩)
theorem Lz:oF P C W (.nB i e) U=ED P C e U:=rfl
theorem Mz:oF P C W (.expr e) U=ED P C e U:=rfl
theorem Qz:oF P C W (.ret e) U=ED P C e U:=rfl
def T6(r:uA RV):Option (Exc×Env):=match r with
 |some (.ex x,U')=>some (x,U')
 |_=>none
theorem sGa:T6 (some (.ex x,U))=some (x,U):=rfl
def qh(P:SA)(C:Calls)(f:String)(r:uA (List Hd))(o:Option (Exc×Env)):Option (Exc×Env):=match r with
 |some (.ok hs,U1)=>T6 (XC (P f) (C f) hs U1)
 |_=>o
theorem Vy:ED P C (.call f es) U=qh P C f (VB P C es U) (UJ P C es U):=rfl
theorem iGa:qh P C f (some (.ok hs,U)) o=T6 (XC (P f) (C f) hs U):=rfl
theorem fIa:k7 cs i j (some (.ex x,U)) o=SJ cs i j o:=rfl
theorem gIa:k7 cs i j none o=SJ cs i j o:=rfl
def CS(i j:Nat)(d:D)(o:Option Env):Run:=o.bind λU2=>(store j (.sh d) U2).map λU3=>(.nx,U3.set i .mv)
def jx(h:cs.contains x.cls=true)(h':i≠j):SJ cs i j (some (x,U))=CS i j (.CB x.cls x.num) (store i (.sh (.CB x.cls x.num)) U):=by
 show(if cs.contains x.cls=true/\i≠j then _ else none)=_;rw[FA ⟨h,h'⟩];rfl
noncomputable def rh(i:Nat)(o:Option Env):Run:=o.map λU3=>(.nx,U3.set i .mv)
theorem jGa:CS i j d (some U)=rh i (store j (.sh d) U):=rfl
theorem kGa:rh i (some U)=some (.nx,U.set i .mv):=rfl
def AI(h:KN c sn=some b):EF sn (some (.CB c m))=some (.sh (.bl b)):=by
 show(KN c sn).map _=_;rw[h];rfl
theorem kQa:iC P C (.eM a) U=(ev P C false (.eM a) U).bind dG:=rfl
theorem pQa:iC P C (.fld a f) U=(ev P C false (.fld a f) U).bind dG:=rfl
theorem tQa:iC P C (.fG i m tb es) U=(ev P C false (.fG i m tb es) U).bind dG:=rfl
theorem aTa:aT P C (.neg a) U=(ev P C false (.neg a) U).bind Yh:=rfl
def ZZ(o:Option D):Option RV:=o.bind YZ
theorem Uv:ZZ (some (.int i))=some (.sh (.int (OO i))):=rfl
def ph(x:Hd)(U:Env):uA RV:=done (ZZ (x.get U)) U
theorem dz:ev P C t (.eM a) U=aAg t ((iC P C a U).bind ph):=rfl
def S2(o:Option D)(f:bA):Option RV:=o.bind λd=>(Q2 d f).map .sh
def Ih(f:bA)(x:Hd)(U:Env):uA RV:=done (S2 (x.get U) f) U
theorem mz:ev P C t (.fld a f) U=aAg t ((iC P C a U).bind (Ih f)):=rfl
def mHa(P:SA)(C:Calls)(f:String)(d:D)(hs:List Hd)(U:Env):uA RV:=ES P C f (.val (.sh d)::hs) U
def lHa(P:SA)(C:Calls)(d:D)(es:List E)(U:Env):Option String->uA RV
 |some f=>(VB P C es U).bind (mHa P C f d)
 |none=>none
def i7(P:SA)(C:Calls)(f:String)(i:Nat)(hs:List Hd)(U:Env):uA RV:=ES P C f (.slot i::hs) U
theorem bG:i7 P C f i hs U=ES P C f (.slot i::hs) U:=rfl
def g7(P:SA)(C:Calls)(i:Nat)(es:List E)(U:Env):Option String->uA RV
 |some f=>(VB P C es U).bind (i7 P C f i)
 |none=>none
theorem aG:g7 P C i es U (some f)=(VB P C es U).bind (i7 P C f i):=rfl
def Uh(P:SA)(C:Calls)(m:bA)(tb:List (bA×String))(es:List E)(U:Env)(i:Nat):Option Sl->uA RV
 |some (.sh (.ins c ns ds))=>lHa P C (.ins c ns ds) es U (oH c ns m tb)
 |some (.ow (.ins c ns ds) _ _)=>g7 P C i es U (oH c ns m tb)
 |_=>none
theorem cG:Uh P C m tb es U i (some (.ow (.ins c ns ds) p l))=g7 P C i es U (oH c ns m tb):=rfl
theorem wz:ev P C t (.fG i m tb es) U=aAg t (Uh P C m tb es U i U[i]?):=rfl
def f7(P:SA)(C:Calls)(c:bA)(f:String)(ds:List D)(U:Env):uA RV:=if(P f).length=ds.length+1 then UN U (C f (.ow (.ins c [] []) true false::ds.map .sh)) else none
theorem Ge:ev P C t (.FF c f es) U=aAg t ((uD P C es U).bind (f7 P C c f)):=rfl
theorem vKa:UN U (some (.ok (.sh .rA),.ow (.ins c ns ds) true false::r))=some (.ok (.ow (.ins c ns ds)),U):=rfl
theorem tN:ex P C W (.rK i f cs e) U=(ev P C false e U).vC (XX i f cs):=rfl
theorem wQa:iC P C (.bI i x) U=(ev P C false (.bI i x) U).bind dG:=rfl
def UW(x:bA)(o:Option D):Option RV:=o.bind (Q6 x)
def Sh(x:bA)(h:Hd)(U:Env):uA RV:=done (UW x (h.get U)) U
theorem uz:ev P C t (.zG x a) U=aAg t ((iC P C a U).bind (Sh x)):=rfl
theorem Ez:ev P C t (.bI i x) U=aAg t (tK x U U[i]?):=rfl
theorem Fz:ev P C t (.qT i x) U=aAg t (rT x U U[i]?):=rfl
theorem a0a:rT x U (some (.sh (.str y)))=some (.ok (.sh (.bl (BO y x))),U):=rfl
theorem Ky:ex P C W (.ret (.zG x a)) U=(ev P C false (.zG x a) U).vC SG:=rfl
theorem Ny:ex P C W (.ret (.bI i x)) U=(ev P C false (.bI i x) U).vC SG:=rfl
def aGa(h:tJ ds=some ts)(h1:GU x ts=true)(h2:jC (lC x ts)=true):UW x (some (.l ds))=some (.sh (.str (lC x ts))):=by
 show(match tJ ds with | some ts=>_ | none=>none)=_;rw[h];exact FA ⟨h1,h2⟩
def kZa(h1:(x.length==0)=false)(h2:y.length<=1000000)(h3:(kB y x).all jC=true):tK x U (some (.sh (.str y)))=some (.ok (.ow (.l ((kB y x).map D.str))),U):=FA ⟨h1,h2,h3⟩
def QJ(h:x.length+y.length<=1000000):IB .Add (.str x) (.str y)=some (.sh (.str (x++y))):=FA h
def Xc(h1:iZ x n)(h2:jC (NI x n)=true):IB .Mult (.str x) (.int n)=some (.sh (.str (NI x n))):=FA ⟨h1,h2⟩
theorem WJ:rD .str [.str x]=some (.sh (.str x)):=rfl
def MV(h1:i.natAbs.log2<1920)(h2:jC (kA (toString i))=true):rD .str [.int i]=some (.sh (.str (kA (toString i)))):=FA ⟨h1,h2⟩
def y_(h1:x.length<=640)(h2:tU x=some n):rD .int [.str x]=some (.sh (.int n)):=by
 show @ite _ _ (cl _) _ none=_;rw[FA h1,h2];rfl
def S8(h1:x.length<=1000000)(h2:jC (RD x lo hi)=true):iO (.str x) lo hi=some (.sh (.str (RD x lo hi))):=FA ⟨h1,h2⟩
def dFa(h:a.get U=some (.str x))(h1:x.cps.all (·<128)=true)(h2:jC x=true):aAb .sig [a] U=some (vK x,none):=by
 show(match a.get U with | some (.str x)=>_ | _=>none)=_;rw[h];exact FA ⟨h1,h2⟩
theorem zg0:(a::l)[0]?=some a:=rfl
theorem zg1:(a::l)[n+1]?=l[n]?:=rfl
theorem zs0:(a::l).set 0 b=b::l:=rfl
theorem zs1:(a::l).set (n+1) b=a::l.set n b:=rfl
theorem zb:(some a).bind f=f a:=rfl
theorem zm:(some a).map f=some (f a):=rfl
theorem zi:(some a).isSome=true:=rfl
theorem zc:(a::l)++m=a::(l++m):=rfl
theorem zn:[]++l=l:=rfl
theorem zr0:FC 0 a=[]:=rfl
theorem zr1:FC (n+1) a=a::FC n a:=rfl
theorem zl0:([]:List O).length=0:=rfl
theorem zl1:(a::l).length=l.length+1:=rfl
theorem znt:(!true)=false:=rfl
theorem znf:(!false)=true:=rfl
theorem zko:back (.ow d p l::as) (b::bs)=b::back as bs:=rfl
theorem zks:back (.sh d::as) (b::bs)=.sh d::back as bs:=rfl
theorem zkn:back [] bs=[]:=rfl
end
def tJa{Q:List O->Prop}(h:∀a0,Q [a0])(us:List O)(hl:us.length=1):Q us:=by
 obtain _ | ⟨a0,r0⟩:=us
 ·simp at hl
 obtain _ | ⟨x,y⟩:=r0
 ·exact h a0
 ·simp at hl
def uJa{Q:List O->Prop}(h:∀a0 a1,Q [a0,a1])(us:List O)(hl:us.length=2):Q us:=by
 obtain _ | ⟨a0,r0⟩:=us
 ·simp at hl
 obtain _ | ⟨a1,r1⟩:=r0
 ·simp at hl
 obtain _ | ⟨x,y⟩:=r1
 ·exact h a0 a1
 ·simp at hl
def wJa{Q:List O->Prop}(h:∀a0 a1 a2,Q [a0,a1,a2])(us:List O)(hl:us.length=3):Q us:=by
 obtain _ | ⟨a0,r0⟩:=us
 ·simp at hl
 obtain _ | ⟨a1,r1⟩:=r0
 ·simp at hl
 obtain _ | ⟨a2,r2⟩:=r1
 ·simp at hl
 obtain _ | ⟨x,y⟩:=r2
 ·exact h a0 a1 a2
 ·simp at hl
def yJa{Q:List O->Prop}(h:∀a0 a1 a2 a3,Q [a0,a1,a2,a3])(us:List O)(hl:us.length=4):Q us:=by
 obtain _ | ⟨a0,r0⟩:=us
 ·simp at hl
 obtain _ | ⟨a1,r1⟩:=r0
 ·simp at hl
 obtain _ | ⟨a2,r2⟩:=r1
 ·simp at hl
 obtain _ | ⟨a3,r3⟩:=r2
 ·simp at hl
 obtain _ | ⟨x,y⟩:=r3
 ·exact h a0 a1 a2 a3
 ·simp at hl
def zJa{Q:List O->Prop}(h:∀a0 a1 a2 a3 a4,Q [a0,a1,a2,a3,a4])(us:List O)(hl:us.length=5):Q us:=by
 obtain _ | ⟨a0,r0⟩:=us
 ·simp at hl
 obtain _ | ⟨a1,r1⟩:=r0
 ·simp at hl
 obtain _ | ⟨a2,r2⟩:=r1
 ·simp at hl
 obtain _ | ⟨a3,r3⟩:=r2
 ·simp at hl
 obtain _ | ⟨a4,r4⟩:=r3
 ·simp at hl
 obtain _ | ⟨x,y⟩:=r4
 ·exact h a0 a1 a2 a3 a4
 ·simp at hl
open PySem PySem.Spec PyProof.Rows L2 in
def BQ(x UA:bA)(st:WA)(kV doc pm:dA)(an:Option eA)(XA ct:dA)(us:List dA):Prop:=PySem.bindArgs (zH x UA (LH st) (tD st) (OB st) .none kV doc pm an XA ct) ⟨us,[]⟩=pure ((bD st).zip us)
def fc{P:O->Prop}(h:P a)(t:∀x∈l,P x):∀x∈a::l,P x:=la.mpr ⟨h,t⟩
section
open PySem PySem.Spec PyProof.Rows L2
def D_{K:fA}{st:WA}(X:K.In h)(G:h.Ns VA mg)(O:iR gl st x fn)(t:∀e∈r,rG pr K mg T gl e)(hT:T f=some fn:=by rfl)(D:gR K x st:=by refine' CI.Zd ?a ?l ?c ?k;(case a | l | c | k=>k_is)):∀e∈(x,GV.fn f)::r,rG pr K mg T gl e:=fc (uy X G D O hT) t
abbrev Fc(st:WA):Prop:=(oJ st).Nodup/\(oJ st).take (bD st).length=bD st/\(∀x∈bD st,(OB st).names.lookup x=some .local\/(OB st).names.lookup x=some .cell)/\∀y∈(OB st).names,y.2≠.free
abbrev dN(x UA:bA)(st:WA):Prop:=∀(kV doc pm:dA) (an:Option eA) (XA ct:dA) (us:List dA),us.length=(bD st).length->BQ x UA st kV doc pm an XA ct us
def iX{st:WA}(q:dN x UA st)(h1:(OB st).kind=.function:=by rfl)(h2:(OB st).isCoroutine=false:=by rfl)(h3:(OB st).isGenerator=false:=by rfl)(h:Fc st/\(oJ st).length=fn.aA.length+fn.nl/\(bD st).length=fn.aA.length:=by left)(b:fn.body=Ud gl st:=by kernel_rfl):fN gl st x UA fn :=
 ⟨⟨h1,h2,h3,h.1.1,h.1.2.1,h.1.2.2.1,h.1.2.2.2⟩,b,h.2.1,h.2.2,q⟩
def Wi{st:WA}{UA:bA}(q:dN "__init__" UA st)(h1:(OB st).kind=.function:=by rfl)(h2:(OB st).isCoroutine=false:=by rfl)(h3:(OB st).isGenerator=false:=by rfl)(h:Fc st:=by left)(b:OW (bD st) (tD st)=some "number":=by kernel_rfl):PU st UA :=
 ⟨⟨h1,h2,h3,h.1,h.2.1,h.2.2.1,h.2.2.2⟩,b,q⟩
variable{st:WA}
def sD(hn:(bD st).length=1:=by rfl)(h:∀kV doc pm an XA ct a0,BQ x UA st kV doc pm an XA ct [a0]:=by intros;exact rfl):dN x UA st:=λkV doc pm an XA ct us hl=>tJa (h kV doc pm an XA ct) us (hl.trans hn)
def gM(hn:(bD st).length=2:=by rfl)(h:∀kV doc pm an XA ct a0 a1,BQ x UA st kV doc pm an XA ct [a0,a1]:=by intros;exact rfl):dN x UA st:=λkV doc pm an XA ct us hl=>uJa (h kV doc pm an XA ct) us (hl.trans hn)
def F0(hn:(bD st).length=3:=by rfl)(h:∀kV doc pm an XA ct a0 a1 a2,BQ x UA st kV doc pm an XA ct [a0,a1,a2]:=by intros;exact rfl):dN x UA st:=λkV doc pm an XA ct us hl=>wJa (h kV doc pm an XA ct) us (hl.trans hn)
def jV(hn:(bD st).length=4:=by rfl)(h:∀kV doc pm an XA ct a0 a1 a2 a3,BQ x UA st kV doc pm an XA ct [a0,a1,a2,a3]:=by intros;exact rfl):dN x UA st:=λkV doc pm an XA ct us hl=>yJa (h kV doc pm an XA ct) us (hl.trans hn)
def J0(hn:(bD st).length=5:=by rfl)(h:∀kV doc pm an XA ct a0 a1 a2 a3 a4,BQ x UA st kV doc pm an XA ct [a0,a1,a2,a3,a4]:=by intros;exact rfl):dN x UA st:=λkV doc pm an XA ct us hl=>zJa (h kV doc pm an XA ct) us (hl.trans hn)
end
def Gh(i:Nat)(v:RV)(U:Env)(o:Option Sl):uA RV:=match o,v with
 |some (.ow (.l ds) p false),.ow (.l es)=>if yB (ds.length+es.length) then some (.ok (.sh .rA),U.set i (.ow (.l (ds++es)) p false)) else none
 |_,_=>none
def Hh(i:Nat)(v:RV)(U:Env):uA RV:=Gh i v U U[i]?
theorem tGa:Gh i (.ow (.l es)) U (some (.ow (.l ds) p false))=IS (yB (ds.length+es.length)) (.sh .rA) (U.set i (.ow (.l (ds++es)) p false)):=rfl
theorem lz:ev P C t (.ext i a) U=aAg t (Z6 ((ev P C false a U).bind (Hh i)) (mJ U i)):=rfl
theorem f_:ex P C W (.pO b cs) U=MA P C W b U:=rfl
theorem Uz:oF P C W (.pO b cs) U=iP cs (DC P C W b U):=rfl
def S0(h:cs.contains x.cls=true)(h':x.cls≠kA "NoText"):iP cs (some (x,U))=some (⟨"NoText",none⟩,U):=FA ⟨h,h'⟩
open PySem in
def Lx(X:K.In h)(G:h.Ns VA mg)(a:fB K VA x=some (some (.str y t)))(ok:jC y=true):rG pr K mg T gl (x,.c (.str y)) :=
 ⟨_,.str y,yJ X G a,⟨t,rfl⟩,λG=>by simp only[iA];exact⟨trivial,ok⟩⟩
end CI
namespace Tx
noncomputable abbrev _root_.CI.E.n(d:Int):CI.E:=.c (.int d)
noncomputable abbrev _root_.CI.E.s(d:bA):CI.E:=.c (.str d)
noncomputable abbrev _root_.CI.E.b(d:Bool):CI.E:=.c (.bl d)
open PySem PySem.Spec PyProof.Rows L2 CI
noncomputable def top(i:Nat):WA:=PySem.Challenge.pw_canonwright_k70_rows_refused.main.body.getD i (.Pass ⟨0,0,0,0⟩)
noncomputable def Qp:List bA:=[]
noncomputable def Cp:List bA:=["NoHouse","NoVoice","NoRule","NoText","NoRow","NoNote"]
noncomputable def Rp:List bA:=["NoHouse"]
noncomputable def Dp:List bA:=["NoVoice","NoRule","NoText","NoRow","NoNote"]
noncomputable def Up:List bA:=[]
noncomputable def Fp:List bA:=["NoHouse","NoVoice","NoRule","NoText","NoRow","NoNote"]
noncomputable def Xp:List bA:=["NoRule"]
noncomputable def Ip:List bA:=["NoHouse","NoVoice","NoText","NoRow","NoNote"]
noncomputable def Zp:List bA:=["NoVoice"]
noncomputable def Kp:List bA:=["NoHouse","NoRule","NoText","NoRow","NoNote"]
noncomputable def aq:List bA:=[]
noncomputable def Lp:List bA:=["NoHouse","NoVoice","NoRule","NoText","NoRow","NoNote"]
noncomputable def bq:List bA:=[]
noncomputable def Mp:List bA:=["NoHouse","NoVoice","NoRule","NoText","NoRow","NoNote"]
noncomputable def Tp:List bA:=["NoNote"]
noncomputable def Ep:List bA:=["NoHouse","NoVoice","NoRule","NoText","NoRow"]
noncomputable def Vp:List bA:=["NoRow"]
noncomputable def Gp:List bA:=["NoHouse","NoVoice","NoRule","NoText","NoNote"]
noncomputable def Yp:List bA:=["NoText"]
noncomputable def Jp:List bA:=["NoHouse","NoVoice","NoRule","NoRow","NoNote"]
noncomputable def vG:List bA:=["NoHouse","NoVoice","NoRule","NoText","NoRow","NoNote"]
def UT:List (List bA×List bA):=[(Qp,Cp),(Rp,Dp),(Up,Fp),(Xp,Ip),(Zp,Kp),(aq,Lp),(bq,Mp)]
def VT:List (List bA×List bA):=[(Tp,Ep)]
def WT:List (List bA×List bA):=[(Vp,Gp)]
def XT:List (List bA×List bA):=[(Yp,Jp)]
noncomputable def DL:List (bA×String):=[("Desk","b")]
noncomputable def sP:List bA:=["Desk"]
noncomputable def tP:List bA:=["Desk"]
noncomputable def pF:List bA:=["sing","back","line","house","next","broken","onward","count","nth","needed","less","without","over"]
noncomputable def cL:List Int:=[1,0,0,0,0,0,0,1,2,1,1,1,0]
def L:List (bA×GV):=("WAYS",.c (.t [(.str ("like":bA)),(.str ("against":bA)),(.str ("aside":bA)),(.str ("any":bA))]))::("NOTES",.c (.int 0))::("BAR",.c (.int 1))::("OCTAVE",.c (.int 2))::("VOICES",.c (.int 3))::("RULES",.c (.int 4))::("LATE",.c (.int 0))::("SHIFT",.c (.int 1))::("TURNED",.c (.int 2))::("FIGURES",.c (.str ("0123456789":bA)))::("MOST_FIGURES",.c (.int 60))::("GREATEST_SPAN",.c (.int 11))::("CHANGING",.c (.t [(.str ("sing":bA)),(.str ("back":bA)),(.str ("less":bA)),(.str ("without":bA)),(.str ("over":bA))]))::("MOST_SUNG",.c (.int 60))::("is_whole",.fn "w")::("is_within",.fn "f")::("are_within",.fn "n")::("is_follower",.fn "D")::("is_way",.fn "E")::("are_spans",.fn "F")::("is_rule",.fn "d")::("check_frame",.fn "x")::("house_of",.fn "e")::("show_row",.fn "c")::("show_follower",.fn "G")::("show_spans",.fn "H")::("show_rule",.fn "y")::("show_house",.fn "q")::("show_line",.fn "u")::("read_number",.fn "I")::("read_numbers",.fn "h")::("read_spans",.fn "J")::("read_follower",.fn "K")::("read_rule",.fn "L")::("made_of",.fn "r")::("read_house",.fn "g")::("words_of",.fn "j")::("numbers_behind",.fn "k")::("answer",.fn "v")::("sing",.fn "s")::("take_back",.fn "t")::("changed",.fn "o")::("_law_pen",.fn "z")::("_law_draw",.fn "a")::("_law_rule",.fn "M")::("_law_house",.fn "A")::("_law_rule_text",.fn "B")::("_law_text",.fn "N")::("_law_told",.fn "p")::("_law_odd_row",.fn "O")::("_law_said",.fn "i")::("_law_word",.fn "m")::("_law_no_desk",.fn "C")::("law",.fn "law")::(dot "say",.uE DL)::("Desk",.obj "l")::(lM "house",.BF sP)::(lM "line",.BF tP)::("NUMBERS",.aK pF cL)::("ValueError",.BB)::("all",.BB)::("bool",.BB)::("enumerate",.BB)::("int",.BB)::("isinstance",.BB)::("len",.BB)::("range",.BB)::("str",.BB)::("sum",.BB)::("tuple",.BB)::("NoHouse",.exc)::("NoVoice",.NG)::("NoRule",.NG)::("NoText",.exc)::("NoRow",.exc)::("NoNote",.exc)::(col "Broken",.CD Qp Cp)::(col "NoHouse",.CD Rp Dp)::(col "NoNumber",.CD Up Fp)::(col "NoRule",.CD Xp Ip)::(col "NoVoice",.CD Zp Kp)::(col "TooMany",.CD aq Lp)::(col "Unlike",.CD bq Mp)::(col "NoNote",.CD Tp Ep)::(col "NoRow",.CD Vp Gp)::(col "NoText",.CD Yp Jp)::(cat "CanonError",.MA vG)::[]
noncomputable def Dx:WA->List WA
 |.ClassDef _ _ _ body _ _ _ _ _ _ _=>body
 |_=>[]
def dQ(i j:Nat):WA:=(Dx (top i)).getD j (.Pass ⟨0,0,0,0⟩)
noncomputable def N1:E:=(.call "f" [.v 3,.v 1,.v 0])
noncomputable def ve:E:=(.bif .str [.v 1])
noncomputable def Z1:E:=(.bif .str [.v 2])
noncomputable def V1:E:=(.call "G" [.v 1])
noncomputable def X1:E:=(.call "y" [.v 1])
def zV:E:=(.QA .In (.v 1) (.s "0123456789"))
noncomputable def R1:E:=(.call "I" [.v 1])
noncomputable def S1:E:=(.call "J" [.v 1])
def yV:E:=(.ix (.v 1) (.neg (.n 1)))
noncomputable def P1:E:=(.call "K" [.v 1])
noncomputable def Q1:E:=(.call "L" [.v 1])
noncomputable def ue:E:=(.bI 1 (" ":bA))
noncomputable def wV:E:=(.bif .str [.v 1])
noncomputable def xV:E:=(.bif .str [.v 2])
noncomputable def K1:E:=(.call "B" [.v 1])
noncomputable def qe:E:=(.bif .int [.v 1])
def O1:E:=(.call "a" [.v 1,.ix (.v 0) (.n 0)])
noncomputable def se:E:=(.bif .str [.v 1])
noncomputable def OK:List S:=[.DA (.not (.call "D" [.v 6])) [.aO "NoVoice" [.v 5]] []]
noncomputable def dM:List S:=[.DA (.not (.call "d" [.v 1,.v 2,.bif .len [.v 3],.v 6])) [.aO "NoRule" [.v 5]] []]
def nN:List S:=[.DA (.not (.call "f" [.v 2,.n 0,.n 11])) [.ret (.c .rA)] [],.nB 1 (.EA .BitOr (.v 1) (.EA .LShift (.n 1) (.v 2)))]
def LZ:List S:=[.nB 8 (.call "a" [.v 0,.ix (.l [.n 2,.n 5]) (.bif .int [.v 1])]),.expr (.app 6 (.t [.v 8,.EA .Sub (.call "a" [.v 0,.n 25]) (.n 12),.QA .Eq (.call "a" [.v 0,.n 4]) (.n 0)]))]
noncomputable def MZ:List S:=[.expr (.app 9 (.call "M" [.v 0,.v 2,.v 3,.v 4,.v 5]))]
def NZ:List S:=[.expr (.app 6 (.EA .Add (.EA .Add (.EA .Add (.EA .Add (.s "voice ") (.bif .str [.v 7])) (.s " ")) (.bif .str [.v 8])) (.ix (.l [.s "",.s " turned"]) (.bif .int [.v 9]))))]
def OZ:List S:=[.DA (.QA .NotEq (.fG 4 "say" DL [.EA .Add (.s "sing ") (.bif .str [.v 7])]) (.s "ok")) [.ret (.b false)] []]
def PZ:List S:=[.DA (.or (.QA .NotEq (.call "i" [.v 4,.call "O" [.v 2]]) (.s "row")) (.not (.call "p" [.v 4,.s "line",.v 8]))) [.ret (.b false)] []]
def QZ:List S:=[.DA (.or (.QA .NotEq (.call "i" [.v 4,.EA .Add (.s "sing ") (.bif .str [.v 7])]) (.s "note")) (.not (.call "p" [.v 4,.s "line",.v 8]))) [.ret (.b false)] []]
def RZ:List S:=[.DA (.not (.call "C" [.v 9])) [.ret (.b false)] []]
def xm:S:=(.nB 5 (.call "a" [.v 0,.n 9]))
def ym:S:=(.DA (.QA .Lt (.v 5) (.n 2)) [.ret (.t [.s "span",.call "a" [.v 0,.v 2],.call "a" [.v 0,.EA .LShift (.n 1) (.v 3)]])] [])
def Am:S:=(.DA (.QA .Eq (.v 5) (.n 2)) [.ret (.t [.s "span",.call "a" [.v 0,.v 2],.EA .Sub (.EA .Sub (.EA .LShift (.n 1) (.v 3)) (.n 1)) (.EA .LShift (.n 1) (.call "a" [.v 0,.v 3]))])] [])
def Bm:S:=(.DA (.QA .Eq (.v 5) (.n 3)) [.ret (.t [.s "leap",.call "a" [.v 0,.ix (.l [.n 13,.EA .Add (.v 1) (.n 1)]) (.call "a" [.v 0,.n 2])]])] [])
def Cm:S:=(.DA (.QA .Eq (.v 5) (.n 4)) [.ret (.t [.s "back",.EA .Add (.n 1) (.call "a" [.v 0,.n 12]),.EA .Add (.n 1) (.call "a" [.v 0,.n 12])])] [])
def Dm:S:=(.DA (.QA .Eq (.v 5) (.n 5)) [.ret (.t [.s "again",.EA .Add (.n 1) (.call "a" [.v 0,.n 3])])] [])
def Em:S:=(.DA (.QA .Eq (.v 5) (.n 6)) [.nB 6 (.ix (.l [.EA .Sub (.call "a" [.v 0,.n 121]) (.n 60),.EA .Sub (.call "a" [.v 0,.n 20]) (.n 12)]) (.call "a" [.v 0,.n 2])),.ret (.t [.s "range",.v 6,.EA .Add (.v 6) (.call "a" [.v 0,.EA .Sub (.n 61) (.v 6)])])] [])
def Gm:S:=(.DA (.QA .Eq (.v 5) (.n 7)) [.nB 7 (.call "a" [.v 0,.EA .Add (.v 4) (.n 1)]),.ret (.t [.s "above",.v 7,.EA .Mod (.EA .Add (.EA .Add (.v 7) (.n 1)) (.call "a" [.v 0,.v 4])) (.EA .Add (.v 4) (.n 1))])] [])
def Hm:S:=(.nB 8 (.t [.s "like",.s "against",.s "aside",.s "any"]))
def Im:S:=(.ret (.t [.s "never",.call "a" [.v 0,.v 3],.call "a" [.v 0,.v 3],.ix (.v 8) (.call "a" [.v 0,.n 4])]))
noncomputable def J3:Fn:=⟨[true],0,[.ret (.and (.ZF (.v 0) [.int]) (.not (.ZF (.v 0) [.bool])))],false⟩
noncomputable def K3:Fn:=⟨[true,true,true],0,[.ret (.and (.call "w" [.v 0]) (.ZI .LtE .LtE (.v 1) (.v 0) (.v 2)))],false⟩
def C3:Fn:=⟨[true,true,true,true],0,[.ret (.and (.QA .Eq (.bif .len [.v 0]) (.v 1)) (.bif .all [.comp N1 [3] .of [.v 0] [] [3,2] 2]))],false⟩
def QV:Fn:=⟨[true],0,[.DA (.or (.not (.ZF (.v 0) [.tuple])) (.QA .NotEq (.bif .len [.v 0]) (.n 3))) [.ret (.b false)] [],.ret (.and (.call "f" [.ix (.v 0) (.n 0),.n 0,.n 4]) (.and (.call "f" [.ix (.v 0) (.n 1),.neg (.n 12),.n 12]) (.ZF (.ix (.v 0) (.n 2)) [.bool])))],false⟩
noncomputable def E3:Fn:=⟨[true],0,[.ret (.and (.ZF (.v 0) [.str]) (.QA .In (.v 0) (.c (.t [.str "like",.str "against",.str "aside",.str "any"]))))],false⟩
def B3:Fn:=⟨[true,true],0,[.ret (.and (.call "w" [.v 0]) (.and (.QA .GtE (.v 0) (.n 0)) (.QA .LtE (.eM (.v 0)) (.v 1))))],false⟩
def pM:Fn:=⟨[true,true,true,true],2,[.DA (.or (.not (.ZF (.v 3) [.tuple])) (.or (.QA .Eq (.bif .len [.v 3]) (.n 0)) (.not (.ZF (.ix (.v 3) (.n 0)) [.str])))) [.ret (.b false)] [],.nB 4 (.ix (.v 3) (.n 0)),.nB 5 (.sl (.v 3) (.n 1) .xE),.DA (.QA .Eq (.v 4) (.s "span")) [.ret (.and (.QA .Eq (.bif .len [.v 5]) (.n 2)) (.and (.call "f" [.ix (.v 5) (.n 0),.n 0,.EA .Sub (.v 0) (.n 1)]) (.call "F" [.ix (.v 5) (.n 1),.v 1])))] [],.DA (.QA .Eq (.v 4) (.s "leap")) [.ret (.call "n" [.v 5,.n 1,.n 0,.n 12])] [],.DA (.QA .Eq (.v 4) (.s "back")) [.ret (.call "n" [.v 5,.n 2,.n 1,.n 12])] [],.DA (.QA .Eq (.v 4) (.s "again")) [.ret (.call "n" [.v 5,.n 1,.n 1,.n 3])] [],.DA (.QA .Eq (.v 4) (.s "range")) [.ret (.and (.call "n" [.v 5,.n 2,.neg (.n 60),.n 60]) (.QA .LtE (.ix (.v 5) (.n 0)) (.ix (.v 5) (.n 1))))] [],.DA (.QA .Eq (.v 4) (.s "above")) [.ret (.and (.call "n" [.v 5,.n 2,.n 0,.v 2]) (.QA .NotEq (.ix (.v 5) (.n 0)) (.ix (.v 5) (.n 1))))] [],.DA (.QA .Eq (.v 4) (.s "never")) [.ret (.and (.QA .Eq (.bif .len [.v 5]) (.n 3)) (.and (.call "n" [.sl (.v 5) .xE (.n 2),.n 2,.n 0,.EA .Sub (.v 1) (.n 1)]) (.call "E" [.ix (.v 5) (.n 2)])))] [],.ret (.b false)],false⟩
def D3:Fn:=⟨[true,true,true,true,true],0,[.DA (.not (.call "f" [.v 0,.n 1,.n 7])) [.ME "NoHouse" [.s "notes are from 1 to 7"]] [],.DA (.not (.call "f" [.v 1,.n 1,.n 4])) [.ME "NoHouse" [.s "a bar has from 1 to 4 beats"]] [],.DA (.not (.call "f" [.v 2,.n 1,.n 12])) [.ME "NoHouse" [.s "an octave is from 1 to 12"]] [],.DA (.not (.ZI .LtE .LtE (.n 1) (.bif .len [.v 3]) (.n 3))) [.ME "NoHouse" [.s "followers are one to three"]] [],.DA (.QA .Gt (.bif .len [.v 4]) (.n 8)) [.ME "NoHouse" [.s "rules are at most eight"]] []],true⟩
def xP:Fn:=⟨[false,false,false,true,true],2,[.expr (.call "x" [.v 0,.v 1,.v 2,.v 3,.v 4]),.for [5,6] false (.enum 1) [.v 3] OK,.for [5,6] false (.enum 0) [.v 4] dM,.ret (.t [.v 0,.v 1,.v 2,.bif .tuple [.v 3],.bif .tuple [.v 4]])],true⟩
def TV:Fn:=⟨[false],0,[.ret (.zG (" ":bA) (.comp ve [1] .of [.v 0] [] [] 2))],false⟩
def Q3:Fn:=⟨[true],1,[.nB 1 (.call "c" [.l [.s "voice",.ix (.v 0) (.n 0),.ix (.v 0) (.n 1)]]),.ret (.ite (.ix (.v 0) (.n 2)) (.EA .Add (.v 1) (.s " turned")) (.v 1))],false⟩
def T3:Fn:=⟨[true],0,[.DA (.QA .Eq (.v 0) (.n 0)) [.ret (.s "-")] [],.ret (.zG (",":bA) (.comp Z1 [2] .eE [.eM (.v 0)] [.QA .Eq (.EA .BitAnd (.EA .RShift (.v 0) (.v 2)) (.n 1)) (.n 1)] [0] 2))],false⟩
def VR:Fn:=⟨[false],0,[.DA (.QA .Eq (.ix (.v 0) (.n 0)) (.s "span")) [.ret (.call "c" [.l [.s "span",.ix (.v 0) (.n 1),.call "H" [.ix (.v 0) (.n 2)]]])] [],.ret (.call "c" [.v 0])],false⟩
def R3:Fn:=⟨[true],1,[.nB 1 (.l [.call "c" [.l [.s "notes",.ix (.v 0) (.n 0)]],.call "c" [.l [.s "bar",.ix (.v 0) (.n 1)]],.call "c" [.l [.s "octave",.ix (.v 0) (.n 2)]]]),.expr (.ext 1 (.comp V1 [1] .of [.ix (.v 0) (.n 3)] [] [] 2)),.expr (.ext 1 (.comp X1 [1] .of [.ix (.v 0) (.n 4)] [] [] 2)),.ret (.zG ("\n":bA) (.v 1))],false⟩
noncomputable def S3:Fn:=⟨[false],0,[.ret (.call "c" [.v 0])],false⟩
def ZJ:Fn:=⟨[false],2,[.nB 1 (.ite (.qT 0 ("-":bA)) (.sl (.v 0) (.n 1) .xE) (.v 0)),.DA (.or (.not (.ZI .LtE .LtE (.n 1) (.bif .len [.v 1]) (.n 60))) (.not (.bif .all [.comp zV [1] .sig [.v 1] [] [] 2]))) [.ret (.c .rA)] [],.nB 2 (.bif .int [.v 0]),.ret (.ite (.QA .Eq (.bif .str [.v 2]) (.v 0)) (.v 2) (.c .rA))],false⟩
def N3:Fn:=⟨[false],0,[.ret (.comp R1 [1] .of [.v 0] [] [] 2)],false⟩
def SV:Fn:=⟨[false],2,[.DA (.QA .Eq (.v 0) (.s "-")) [.ret (.n 0)] [],.nB 1 (.n 0),.for [2] true .of [.call "h" [.bI 0 (",":bA)]] nN,.ret (.v 1)],false⟩
def M3:Fn:=⟨[false],0,[.ret (.bif .tuple [.EA .Add (.call "h" [.sl (.v 0) (.n 1) (.n 3)]) (.l [.QA .Eq (.sl (.v 0) (.n 3) .xE) (.l [.s "turned"])])])],false⟩
def O3:Fn:=⟨[false],0,[.DA (.QA .Eq (.ix (.v 0) (.n 0)) (.s "span")) [.ret (.bif .tuple [.EA .Add (.EA .Add (.l [.s "span"]) (.call "h" [.sl (.v 0) (.n 1) (.n 2)])) (.comp S1 [1] .of [.sl (.v 0) (.n 2) .xE] [] [] 2)])] [],.DA (.QA .Eq (.ix (.v 0) (.n 0)) (.s "never")) [.ret (.bif .tuple [.EA .Add (.EA .Add (.l [.s "never"]) (.call "h" [.sl (.v 0) (.n 1) (.n 3)])) (.sl (.v 0) (.n 3) .xE)])] [],.ret (.bif .tuple [.EA .Add (.sl (.v 0) .xE (.n 1)) (.call "h" [.sl (.v 0) (.n 1) .xE])])],false⟩
def ZK:Fn:=⟨[false],3,[.nB 1 (.call "h" [.comp yV [1] .of [.sl (.v 0) .xE (.n 3)] [] [] 2]),.nB 2 (.comp P1 [1] .of [.sl (.v 0) (.n 3) .xE] [.QA .Eq (.ix (.v 1) (.n 0)) (.s "voice")] [] 2),.nB 3 (.comp Q1 [1] .of [.sl (.v 0) (.n 3) .xE] [.QA .NotEq (.ix (.v 1) (.n 0)) (.s "voice")] [] 2),.pO [.ret (.call "e" [.ix (.v 1) (.n 0),.ix (.v 1) (.n 1),.ix (.v 1) (.n 2),.v 2,.v 3])] vG],true⟩
def sI:Fn:=⟨[true],2,[.DA (.not (.ZF (.v 0) [.str])) [.ME "NoText" [.s "a house is read from a text"]] [],.nB 1 (.comp ue [1] .of [.bI 0 ("\n":bA)] [] [] 2),.DA (.QA .Lt (.bif .len [.v 1]) (.n 3)) [.ME "NoText" [.s "a house is written in more lines"]] [],.nB 2 (.call "r" [.v 1]),.DA (.QA .NotEq (.call "q" [.v 2]) (.v 0)) [.ME "NoText" [.s "a house is written otherwise"]] [],.ret (.v 2)],true⟩
def ZV:Fn:=⟨[true],0,[.DA (.not (.ZF (.v 0) [.str])) [.ME "NoRow" [.s "a row is a text"]] [],.ret (.bI 0 (" ":bA))],true⟩
def UR:Fn:=⟨[false],1,[.DA (.rM pF (.ix (.v 0) (.n 0))) [.ME "NoRow" [.s "no row begins with this word"]] [],.DA (.QA .NotEq (.EA .Sub (.bif .len [.v 0]) (.n 1)) (.AN pF cL (.ix (.v 0) (.n 0)))) [.ME "NoRow" [.s "the row has too few words or too many"]] [],.nB 1 (.call "h" [.sl (.v 0) (.n 1) .xE]),.DA (.QA .In (.c .rA) (.v 1)) [.ME "NoRow" [.s "a number of the row is written otherwise"]] [],.ret (.v 1)],true⟩
def PV:Fn:=⟨[true,false,false,true],0,[.DA (.QA .Eq (.v 2) (.s "line")) [.ret (.call "u" [.v 1])] [],.DA (.QA .Eq (.v 2) (.s "house")) [.ret (.call "q" [.v 0])] [],.DA (.QA .Eq (.v 2) (.s "next")) [.ret .jA] [],.DA (.QA .Eq (.v 2) (.s "broken")) [.ret .jA] [],.DA (.QA .Eq (.v 2) (.s "onward")) [.ret .jA] [],.DA (.QA .Eq (.v 2) (.s "count")) [.ret (.bif .str [.jA])] [],.DA (.QA .Eq (.v 2) (.s "nth")) [.ret (.call "u" [.jA])] [],.ret .jA],false⟩
def WV:Fn:=⟨[true,false,false],0,[.DA (.not (.call "f" [.v 2,.n 0,.EA .Sub (.ix (.v 0) (.n 0)) (.n 1)])) [.ME "NoNote" [.s "the house hasn't this note"]] [],.DA (.QA .Eq (.bif .len [.v 1]) (.n 60)) [.ME "NoNote" [.s "the line has sixty notes already"]] [],.ret (.EA .Add (.v 1) (.l [.v 2]))],true⟩
def YV:Fn:=⟨[false],0,[.DA (.QA .Eq (.bif .len [.v 0]) (.n 0)) [.ME "NoNote" [.s "the line has no notes"]] [],.ret (.sl (.v 0) .xE (.neg (.n 1)))],true⟩
def vP:Fn:=⟨[false,false,false,true],0,[.DA (.QA .Eq (.v 2) (.s "sing")) [.ret (.t [.v 0,.call "s" [.v 0,.v 1,.ix (.v 3) (.n 0)]])] [],.DA (.QA .Eq (.v 2) (.s "back")) [.ret (.t [.v 0,.call "t" [.v 1]])] [],.DA (.QA .Eq (.v 2) (.s "less")) [.ret (.t [.jA,.v 1])] [],.DA (.QA .Eq (.v 2) (.s "without")) [.ret (.t [.jA,.v 1])] [],.ret (.t [.jA,.jA])],true⟩
def OV:Fn:=⟨[true,true],0,[.rK 0 "house" sP (.call "g" [.v 1]),.rK 0 "line" tP (.l [])],true⟩
def vN:Fn:=⟨[true,true],3,[.nB 2 (.call "j" [.v 1]),.nB 3 (.call "k" [.v 2]),.DA (.QA .NotIn (.ix (.v 2) (.n 0)) (.c (.t [.str "sing",.str "back",.str "less",.str "without",.str "over"]))) [.ret (.call "v" [.fld (.v 0) "house",.fld (.v 0) "line",.ix (.v 2) (.n 0),.v 3])] [],.nB 4 (.call "o" [.fld (.v 0) "house",.fld (.v 0) "line",.ix (.v 2) (.n 0),.v 3]),.rK 0 "house" sP (.ix (.v 4) (.n 0)),.rK 0 "line" tP (.ix (.v 4) (.n 1)),.ret (.s "ok")],true⟩
def W2:Fn:=⟨[true,false],1,[.DA (.and (.QA .Lt (.v 1) (.bif .len [.v 0])) (.QA .Eq (.EA .Mod (.ix (.v 0) (.n 0)) (.n 2)) (.n 0))) [.ret (.l [.n 0,.ix (.v 0) (.v 1)])] [],.nB 2 (.EA .Add (.EA .Mult (.n 30011) (.v 1)) (.n 7)),.DA (.QA .Gt (.bif .len [.v 0]) (.n 0)) [.nB 2 (.EA .Mod (.ix (.v 0) (.EA .Mod (.v 1) (.bif .len [.v 0]))) (.n 2147483587)),.nB 2 (.EA .Add (.EA .Add (.v 2) (.EA .Mult (.n 48611) (.EA .FloorDiv (.v 1) (.bif .len [.v 0])))) (.EA .Mult (.n 3) (.v 1)))] [],.ret (.l [.n 1,.EA .Mod (.EA .Add (.EA .Add (.EA .Mult (.v 2) (.n 48271)) (.EA .Mult (.n 11) (.v 1))) (.n 1)) (.n 2147483647)])],false⟩
def T2:Fn:=⟨[true,true],3,[.DA (.QA .Eq (.ix (.v 0) (.n 0)) (.n 0)) [.nB 2 (.EA .Mod (.ix (.v 0) (.n 1)) (.v 1)),.set 0 (.n 1) (.EA .FloorDiv (.ix (.v 0) (.n 1)) (.v 1)),.ret (.v 2)] [],.set 0 (.n 1) (.EA .Mod (.EA .Add (.EA .Mult (.ix (.v 0) (.n 1)) (.n 69621)) (.n 7)) (.n 2147483629)),.nB 3 (.EA .Mod (.ix (.v 0) (.n 1)) (.n 65521)),.nB 4 (.EA .FloorDiv (.ix (.v 0) (.n 1)) (.n 65521)),.ret (.EA .Mod (.EA .FloorDiv (.EA .Mod (.EA .Mult (.EA .Add (.EA .Add (.EA .Mult (.v 3) (.n 40503)) (.v 4)) (.n 1)) (.n 16807)) (.n 2147483647)) (.n 13)) (.v 1))],false⟩
def X2:Fn:=⟨[true,true,true,true,true],4,[xm,ym,Am,Bm,Cm,Dm,Em,Gm,Hm,Im],false⟩
def wN:Fn:=⟨[true],9,[.nB 1 (.QA .Eq (.call "a" [.v 0,.n 2]) (.n 0)),.nB 2 (.EA .Add (.n 1) (.call "a" [.v 0,.ix (.l [.n 4,.n 7]) (.bif .int [.v 1])])),.nB 3 (.EA .Add (.n 1) (.call "a" [.v 0,.ix (.l [.n 2,.n 4]) (.bif .int [.v 1])])),.nB 4 (.EA .Add (.n 1) (.call "a" [.v 0,.n 12])),.nB 5 (.EA .Add (.n 1) (.call "a" [.v 0,.ix (.l [.n 2,.n 3]) (.bif .int [.v 1])])),.nB 6 (.l []),.for [7] true .eE [.v 5] LZ,.nB 9 (.l []),.for [7] true .eE [.call "a" [.v 0,.n 9]] MZ,.ret (.t [.v 2,.v 3,.v 4,.bif .tuple [.v 6],.bif .tuple [.v 9]])],false⟩
def oM:Fn:=⟨[true],1,[.nB 1 (.comp wV [1] .of [.v 0] [] [] 2),.DA (.QA .Eq (.ix (.v 0) (.n 0)) (.s "span")) [.set 1 (.n 2) (.zG (",":bA) (.comp xV [2] .eE [.n 12] [.QA .Eq (.EA .Mod (.EA .FloorDiv (.ix (.v 0) (.n 2)) (.EA .LShift (.n 1) (.v 2))) (.n 2)) (.n 1)] [0] 2)),.DA (.QA .Eq (.ix (.v 1) (.n 2)) (.s "")) [.set 1 (.n 2) (.s "-")] []] [],.ret (.zG (" ":bA) (.v 1))],false⟩
def xN:Fn:=⟨[false],9,[.cM [1,2,3,4,5] (.v 0),.nB 6 (.l [.EA .Add (.s "notes ") (.bif .str [.v 1]),.EA .Add (.s "bar ") (.bif .str [.v 2]),.EA .Add (.s "octave ") (.bif .str [.v 3])]),.for [7,8,9] false .of [.v 4] NZ,.ret (.zG ("\n":bA) (.EA .Add (.v 6) (.comp K1 [1] .of [.v 5] [] [] 2)))],false⟩
def y3:Fn:=⟨[true,true,true],1,[.nB 3 (.fG 0 "say" DL [.v 1]),.ret (.and (.ZF (.v 3) [.str]) (.QA .Eq (.v 3) (.v 2)))],false⟩
def cJ:Fn:=⟨[true],4,[.nB 1 (.ix (.l [.s "back",.s "line",.s "house",.s "next",.s "broken",.s "onward",.s "over"]) (.call "a" [.v 0,.n 7])),.nB 2 (.ix (.l [.s "sing",.s "count",.s "needed",.s "less",.s "without"]) (.call "a" [.v 0,.n 5])),.nB 3 (.ix (.l [.s "01",.s "-0",.s "+1",.s "1.0",.s "",.s "x",.EA .Mult (.s "1") (.n 61),.EA .Add (.s "-") (.EA .Mult (.s "9") (.n 61)),.s "--1",.s "1_0",.s "one"]) (.call "a" [.v 0,.n 11])),.nB 4 (.l [.EA .Add (.v 1) (.s " "),.EA .Add (.s " ") (.v 1),.EA .Add (.v 1) (.s " 1"),.IT 1,.EA .Add (.v 1) (.s "s"),.v 2,.EA .Add (.v 2) (.s " "),.EA .Add (.EA .Add (.v 2) (.s " ")) (.v 3)]),.nB 4 (.EA .Add (.v 4) (.l [.EA .Add (.v 2) (.s " 1 1"),.s "nth 1",.s "nth 1 2 3",.EA .Add (.s "nth 1 ") (.v 3),.EA .Add (.EA .Add (.s "nth ") (.v 3)) (.s " 1"),.s "nth  1 1",.s "",.s " "])),.ret (.ix (.EA .Add (.v 4) (.l [.c .rA,.n 7,.l [.s "back"],.s "sing\t1",.s "back\n"])) (.call "a" [.v 0,.n 21]))],false⟩
def Z2:Fn:=⟨[true,true],2,[.nB 2 (.c .rA),.oO [.expr (.fG 0 "say" DL [.v 1])] vG 3 2,.ret (.call "m" [.v 2])],false⟩
def A3:Fn:=⟨[true],1,[.DA (.pL (.v 0) UT) [.ret (.s "other")] [],.nB 1 (.l [.pL (.v 0) VT,.pL (.v 0) WT,.pL (.v 0) XT]),.DA (.or (.not (.ZF (.v 0) [.MT])) (.QA .NotEq (.bif .sum [.comp qe [1] .of [.v 1] [] [] 2]) (.n 1))) [.ret (.s "other")] [],.ret (.ix (.l [.s "note",.s "row",.s "text"]) (.oS 1))],false⟩
def V2:Fn:=⟨[false],2,[.nB 1 (.c .rA),.oO [.expr (.FF "Desk" "l" [.v 0])] vG 2 1,.ret (.QA .Eq (.call "m" [.v 1]) (.s "text"))],false⟩
def ZD:Fn:=⟨[true],9,[.nB 1 (.call "A" [.call "z" [.v 0,.n 1]]),.nB 2 (.call "z" [.v 0,.n 2]),.nB 3 (.call "N" [.v 1]),.nB 4 (.FF "Desk" "l" [.v 3]),.DA (.QA .NotEq (.call "i" [.v 4,.s "back"]) (.s "note")) [.ret (.b false)] [],.nB 6 (.comp O1 [3] .eE [.ix (.l [.call "a" [.v 2,.n 9],.n 60]) (.bif .int [.QA .Eq (.call "a" [.v 2,.n 8]) (.n 0)])] [] [1,2] 2),.for [7] true .of [.v 6] OZ,.nB 8 (.zG (" ":bA) (.comp se [1] .of [.v 6] [] [] 2)),.for [5] true .eE [.EA .Add (.n 1) (.call "a" [.v 2,.n 10])] PZ,.for [7] true .of [.l [.ix (.v 1) (.n 0),.neg (.n 1),.EA .Add (.ix (.v 1) (.n 0)) (.call "a" [.v 2,.EA .Pow (.n 10) (.n 59)]),.EA .Sub (.neg (.n 1)) (.call "a" [.v 2,.EA .Pow (.n 10) (.n 59)])]] QZ,.DA (.QA .Eq (.bif .len [.v 6]) (.n 60)) [.DA (.or (.QA .NotEq (.call "i" [.v 4,.s "sing 0"]) (.s "note")) (.or (.QA .NotEq (.fG 4 "say" DL [.s "back"]) (.s "ok")) (.QA .NotEq (.fG 4 "say" DL [.s "sing 0"]) (.s "ok")))) [.ret (.b false)] []] [],.for [9] true .of [.l [.c .rA,.n 7,.l [.v 3],.s "",.EA .Add (.v 3) (.s "\n"),.EA .Add (.v 3) (.s " "),.sl (.v 3) (.n 1) .xE,.EA .Add (.s "notes 8") (.sl (.v 3) (.n 7) .xE)]] RZ,.ret (.call "p" [.v 4,.s "house",.v 3])],false⟩
def TL:List (String×Fn):=[("w",J3),("f",K3),("n",C3),("D",QV),("E",E3),("F",B3),("d",pM),("x",D3),("e",xP),("c",TV),("G",Q3),("H",T3),("y",VR),("q",R3),("u",S3),("I",ZJ),("h",N3),("J",SV),("K",M3),("L",O3),("r",ZK),("g",sI),("j",ZV),("k",UR),("v",PV),("s",WV),("t",YV),("o",vP),("l",OV),("b",vN),("z",W2),("a",T2),("M",X2),("A",wN),("B",oM),("N",xN),("p",y3),("O",cJ),("i",Z2),("m",A3),("C",V2),("law",ZD)]
def T:Tab:=λf=>TL.lookup f
theorem Ec:T.aA "w"=[true]:=rfl
theorem Jt:T.aA "f"=[true,true,true]:=rfl
theorem zt:T.aA "n"=[true,true,true,true]:=rfl
theorem Et:T.aA "D"=[true]:=rfl
theorem Ht:T.aA "E"=[true]:=rfl
theorem yt:T.aA "F"=[true,true]:=rfl
theorem Ft:T.aA "d"=[true,true,true,true]:=rfl
theorem Ct:T.aA "x"=[true,true,true,true,true]:=rfl
theorem Dt:T.aA "e"=[false,false,false,true,true]:=rfl
theorem ju:T "c"=some TV:=rfl
theorem Yt:T.aA "c"=[false]:=rfl
theorem Vt:T.aA "G"=[true]:=rfl
theorem au:T.aA "H"=[true]:=rfl
theorem Zt:T.aA "y"=[false]:=rfl
theorem Wt:T.aA "q"=[true]:=rfl
theorem Xt:T.aA "u"=[false]:=rfl
theorem Pt:T.aA "I"=[false]:=rfl
theorem Qt:T.aA "h"=[false]:=rfl
theorem Tt:T.aA "J"=[false]:=rfl
theorem Nt:T.aA "K"=[false]:=rfl
theorem Rt:T.aA "L"=[false]:=rfl
theorem Kt:T.aA "r"=[false]:=rfl
theorem Ot:T.aA "g"=[true]:=rfl
theorem du:T.aA "j"=[true]:=rfl
theorem Mt:T.aA "k"=[false]:=rfl
theorem xt:T.aA "v"=[true,false,false,true]:=rfl
theorem bu:T.aA "s"=[true,false,false]:=rfl
theorem cu:T.aA "t"=[false]:=rfl
theorem Bt:T.aA "o"=[false,false,false,true]:=rfl
theorem Us:T.aA "b"=[true,true]:=rfl
theorem Zs:T.aA "z"=[true,false]:=rfl
theorem Vs:T.aA "a"=[true,true]:=rfl
theorem bt:T.aA "M"=[true,true,true,true,true]:=rfl
theorem Ws:T.aA "A"=[true]:=rfl
theorem jt:T.aA "B"=[true]:=rfl
theorem qt:T.aA "N"=[false]:=rfl
theorem vt:T.aA "p"=[true,true,true]:=rfl
theorem Ys:T.aA "O"=[true]:=rfl
theorem ot:T.aA "i"=[true,true]:=rfl
theorem wt:T.aA "m"=[true]:=rfl
theorem Xs:T.aA "C"=[false]:=rfl
theorem iu:T "law"=some ZD:=rfl
def mDa:PU (dQ 3 0) "NoVoice.__init__":=Wi gM
def lDa:PU (dQ 4 0) "NoRule.__init__":=Wi gM
def kFa{m:Option Int}:EF UT (some (.CB "NoText" m))=some (.sh (.bl false)):=AI (by left)
def jFa{m:Option Int}:EF UT (some (.CB "NoRow" m))=some (.sh (.bl false)):=AI (by left)
def iFa{m:Option Int}:EF UT (some (.CB "NoNote" m))=some (.sh (.bl false)):=AI (by left)
def nFa{m:Option Int}:EF VT (some (.CB "NoText" m))=some (.sh (.bl false)):=AI (by left)
def mFa{m:Option Int}:EF VT (some (.CB "NoRow" m))=some (.sh (.bl false)):=AI (by left)
def lFa{m:Option Int}:EF VT (some (.CB "NoNote" m))=some (.sh (.bl true)):=AI (by left)
def qFa{m:Option Int}:EF WT (some (.CB "NoText" m))=some (.sh (.bl false)):=AI (by left)
def pFa{m:Option Int}:EF WT (some (.CB "NoRow" m))=some (.sh (.bl true)):=AI (by left)
def oFa{m:Option Int}:EF WT (some (.CB "NoNote" m))=some (.sh (.bl false)):=AI (by left)
def tFa{m:Option Int}:EF XT (some (.CB "NoText" m))=some (.sh (.bl true)):=AI (by left)
def sFa{m:Option Int}:EF XT (some (.CB "NoRow" m))=some (.sh (.bl false)):=AI (by left)
def rFa{m:Option Int}:EF XT (some (.CB "NoNote" m))=some (.sh (.bl false)):=AI (by left)
def kx:vG.contains (kA "NoHouse")=true:=by left
def wx:vG.contains (kA "NoVoice")=true:=by left
def ux:vG.contains (kA "NoRule")=true:=by left
def vx:vG.contains (kA "NoText")=true:=by left
def qx:vG.contains (kA "NoRow")=true:=by left
def mx:vG.contains (kA "NoNote")=true:=by left
def xNa:fN (MH L) (dQ 139 0) "__init__" "Desk.__init__" OV:=iX gM
def yNa:fN (MH L) (dQ 139 1) "say" "Desk.say" vN:=iX gM
def wOa:iR (MH L) (top 152) "law" ZD:=iX sD
end Tx
namespace Mx
open CI Tx
local macro_rules|`($f|||$n|||$a|||$v)=>`(run T $(Lean.mkIdent `W) ($n) $f $a=some (.ok ($v),$a))
local macro_rules|`($f&&&$n&&&$a&&&$v)=>`(run T $(Lean.mkIdent `W) ($n) $f $a=some (.ex ($v),$a))
open PySem hiding Entry Env Loc Made Run run start
abbrev _root_.CI.Sl.o(d:CI.D):CI.Sl:=.ow d false false
abbrev _root_.CI.Sl.p(d:CI.D):CI.Sl:=.ow d true false
abbrev _root_.CI.Sl.i(d:Int):CI.Sl:=.sh (.int d)
abbrev _root_.CI.RV.i(d:Int):CI.RV:=.sh (.int d)
abbrev _root_.CI.Sl.s(d:bA):CI.Sl:=.sh (.str d)
abbrev _root_.CI.RV.s(d:bA):CI.RV:=.sh (.str d)
abbrev _root_.CI.Sl.b(d:Bool):CI.Sl:=.sh (.bl d)
abbrev _root_.CI.RV.b(d:Bool):CI.RV:=.sh (.bl d)
local macro_rules | `(tactic| exists $x:ident)=>`(tactic| ((first | rw[qK (fn:=$x) rfl rfl rfl] | (rw[sQ (fn:=$x) rfl rfl rfl];unfold aAD));unfold $x))
def YC:(if false=true then a else b)=b:=vB (by decide)
set_option compiler.extract_closed false
local macro_rules | `(tactic| walk_at $s:str) => do if !s.getString.startsWith "!" then Lean.Macro.throwUnsupported else `(tactic| simp only[↓Zu, ↓s_, ↓nR_, ↓Px, ↓b3a, ↓nGa, ↓mGa, ↓gGa, ↓fGa, ↓qHa, ↓pHa, ↓fHa, ↓eHa, ↓dHa, ↓cHa, $[$((("bw qw jw fw iw gw mw cw dw uw vw cv av u_ t_ lLa mLa jLa kLa Qx vv dAa Sx Rx X_ W_ eBa dBa eIa c3a vGa Hz kz dIa sYa tYa vYa wYa xYa yYa zYa aZa uYa yi Th Gz vz Kz Eh Dh Jz Ry Nh Mh jIa iIa cIa xQa oQa sQa jQa uQa mQa rQa vQa lQa iQa qQa nQa Qy nh mh cz Sv uv sv fv jv zv Av dv XI nHa zz oHa Bz Wh wMa Az Gx Fx Ah zh gz XW lGa vh uh iz Pw Ow Mw Lw Jw Qw Kw Rw j1a Zy Cz pz eGa Rh Qh qz hFa gFa Oc Tu Uu oi ni mi bTa Yh zSa Dz ES Yx oGa qGa pGa gHa mJa pJa oJa nJa qJa jHa iHa hHa L' J' K' P' M' wGa xGa lh bz B' Y_ Z_ z_ A_ x_ B_ a7 oz aEa xDa yDa bEa cEa zDa vDa wDa gEa dEa eEa hEa iEa fEa jEa gh hGa aHa az wEa vEa jh Vz IM qZa pZa oZa nZa JC vNa uNa tNa kh Wz mV pN mO lO PN ki ji d_ xXa Fh Xz fWa gWa SG a_ Hy Oy Ly Dy Fy By Iy Jy My Ey Cy Gy Zz K_ aA2 Yz OR LV oWa u1a yHa jz bAa Sy oSa pSa kQa pQa tQa aTa Uv ph dz Ih mz wz zg0 zg1 zs0 zs1 zb zm zi zc zn zr0 zr1 zl0 zl1 znt znf zko zks zkn fz Hh tGa lz sHa pEa bHa Ph nz b_ Le bIa aIa zHa Oz zGa yGa Rz uHa Lz Mz Qz sGa Vy iGa fIa gIa e_ jGa kGa wHa xHa vHa Yy dGa kPS sEa Zh wQa Sh uz Ez Fz a0a Ky Ny c_ Tz tHa Nz uGa G_ f_ Uz Ec Jt zt Et Ht yt Ft Ct Dt Yt Vt au Zt Wt Xt Pt Qt Tt Nt Rt Kt Ot du Mt xt bu cu Bt Us Zs Vs bt Ws jt qt vt Ys ot wt Xs if_true if_false FJ decide_true decide_false Bool.true_eq_false not_true_eq_false not_false_eq_true and_self and_true true_and or_true true_or iF reduceIte Int.reduceLT Int.reduceLE Int.reduceGT Int.reduceNeg Nat.reduceAdd Nat.reduceLT Nat.reduceLeDiff Int.reduceEq Int.reduceNe Nat.reduceBEq pD JO PB CK zJ XM UY sU RY fC WC WD rGa hIa ya YY za yb".splitOn " ")++(((s.getString.drop 1).toString.replace "%" "List.length_map").replace "&" "Bool.or_false Bool.false_or Bool.or_true Bool.true_or" |>.splitOn " ")).filter (· ≠ "") |>.toArray.map λx => Lean.mkIdent x.toName):term],*, *])
local macro_rules|`(tactic|exfalso)=>`(tactic|all_goals (first | done | (rw[WD rfl];walk_at "!")))
local macro_rules|`(tactic|right)=>`(tactic|walk_at "!")
theorem qE:type_of% (And.intro @mV (And.intro @IM (And.intro @OE.{0} (And.intro @aH.{0} (And.intro @lG.{0} (And.intro @mG.{0} (And.intro @pN (And.intro @lO (And.intro @mO @PN))))))))):=(And.intro @mV (And.intro @IM (And.intro @OE.{0} (And.intro @aH.{0} (And.intro @lG.{0} (And.intro @mG.{0} (And.intro @pN (And.intro @lO (And.intro @mO @PN)))))))))
def kM(k s m:Int):Int:=if k=0 then s / m else(s*69621+7) % 2147483629
def YD(k s m:Int):Int:=if k=0 then s % m else((((s*69621+7) % 2147483629) % 65521*40503+((s*69621+7) % 2147483629) / 65521+1)*16807 % 2147483647) / 13 % m
def TJ(h1:0<m)(h2:m<100000000000000000000000000000000000000000000000000000000000000000000000000000000):run T W (n+1) "a" [.p (.l [.int k,.int s]),.i m]=some (.ok (.i (YD k s m)),[.p (.l [.int k,.int (kM k s m)]),.i m]):=by
 exists T2
 by_cases hk:k=0
 ·subst hk;unfold kM YD
  right
 ·unfold kM YD
  right
def vV(h:0<m):0<=YD k s m:=by unfold YD;split<;>exact Ir _ (by lia)
def uV(h:0<m):YD k s m<m:=by unfold YD;split<;>exact Rq _ h
def dr(h1:0<m)(h2:m<100000000000000000000000000000000000000000000000000000000000000000000000000000000):∃v s':Int,(0<=v/\v<m)/\run T W (n+1) "a" [.p (.l [.int k,.int s]),.i m]=some (.ok (.i v),[.p (.l [.int k,.int s']),.i m]):=⟨_,_,⟨vV h1,uV h1⟩,TJ h1 h2⟩
def je{W n:Nat}{k s m:Int}(h:0<m/\m<5000):∃v s':Int,(0<=v/\v<m)/\run T W (n+1) "a" [.p (.l [.int k,.int s]),.i m]=some (.ok (.i v),[.p (.l [.int k,.int s']),.i m]):=dr h.1 (Int.lt_trans h.2 (by decide))
noncomputable def fE:D->Bool
 |.rA=>true | .bl _=>true | .int _=>true | .str _=>true | .t _=>true | .l _=>true
 |_=>false
noncomputable def RM:D->Bool
 |.int _=>true
 |_=>false
theorem vS(h:fE d=true):"w"|||n+1|||[.sh d]|||.b (RM d):=by
 exists J3
 cases d<;>first | (simp only[fE,FJ] at h;done) | (right;rfl) | (right;done)
noncomputable def qB(lo hi:Int):D->Bool
 |.int i=>decide (lo<=i)&&decide (i<=hi)
 |_=>false
def YG(h:fE d=true):"f"|||n+2|||[.sh d,.i lo,.i hi]|||.b (qB lo hi d):=by
 exists K3
 right
 try (simp only[Ec];right)
 simp only[vS h]
 right
 by_cases hw:RM d=true
 ·obtain⟨i,rfl⟩:∃i,d=.int i:=by cases d<;>first | exact⟨_,rfl⟩ | cases hw
  simp only[RM]
  right
  simp only[qB];by_cases h1:lo<=i<;>by_cases h2:i<=hi<;>simp only[h1,h2]<;>right<;>rfl
 ·have hw:RM d=false:=by cases e:RM d;rfl;exact absurd e hw
  have hv:qB lo hi d=false:=by cases d<;>first | rfl | cases hw
  simp only[hw,hv]
  right
noncomputable def sF(ns:List Int)(k:Nat):Int×Int :=
 if k<ns.length/\ns.headD 0 % 2=0 then(0,ns.getD k 0)
 else(1,((if 0<ns.length then ns.getD (k % ns.length) 0 % 2147483587+48611*((k / ns.length:Nat):Int)+3*(k:Int) else 30011*(k:Int)+7)*48271+11*(k:Int)+1) % 2147483647)
def Rc{ns:List Int}(h:k<ns.length):L2.aD (ns.map D.int) (k:Int)=some (.int (ns.getD k 0)):=by
 apply L2.Nc
 rw[IK,MD h];simp[h]
def ak{k:Nat}(hn:ns.length<=63)(hk:k<=100000):"z"|||n+1|||[.sh (.l (ns.map .int)),.i (k:Int)]|||.ow (.l [.int (sF ns k).1,.int (sF ns k).2]):=by
 exists W2
 by_cases h0:ns=[]
 ·subst h0;have hb:decide ((k:Int)<((0:Nat):Int))=false:=zC (by lia);have DF:decide (((0:Nat):Int) > 0)=false:=rfl;have hb2:decide (0<((0:Nat):Int))=false:=rfl;have hb3:decide ((k:Int)<0)=false:=zC (by lia)
  have ev:sF [] k=(1,((30011*(k:Int)+7)*48271+11*(k:Int)+1) % 2147483647):=by(unfold sF;rw[vB (by simp),vB (by simp)])
  walk_at "!YA"
 ·have kS:0<ns.length:=Kq.mpr h0;have hb2:decide (0<(ns.length:Int))=true:=GC (by lia)
  have e0:(ns.map D.int)[0]?=some (.int (ns.headD 0)):=by cases ns with | nil=>exact absurd rfl h0 | cons a r=>rfl
  have e1:(0:Int)<(ns.length:Int):=by lia
  have e2:(ns.length:Int)<100000000000000000000000000000000000000000000000000000000000000000000000000000000:=by lia
  have e3:(k:Int) / (ns.length:Int)=((k / ns.length:Nat):Int):=by rw[zr]
  have e4:(k:Int) % (ns.length:Int)=((k % ns.length:Nat):Int):=by rw[Int.natCast_emod]
  have e5:=Rc (k:=k % ns.length) (Nat.mod_lt _ kS);by_cases X4:k<ns.length
  ·have hb:decide ((k:Int)<(ns.length:Int))=true:=GC (by lia);have e6:=Rc X4;by_cases hm:ns.headD 0 % 2=0
   ·have ev:sF ns k=(0,ns.getD k 0):=by unfold sF;rw[FA ⟨X4,hm⟩]
    walk_at "!YA"
   ·have hm':decide (ns.headD 0 % 2=0)=false:=zC hm
    have ev:sF ns k=(1,((ns.getD (k % ns.length) 0 % 2147483587+48611*((k / ns.length:Nat):Int)+3*(k:Int))*48271+11*(k:Int)+1) % 2147483647):=by(unfold sF;rw[vB (λz=>hm z.2),FA kS])
    walk_at "!YA"
  ·have hb:decide ((k:Int)<(ns.length:Int))=false:=zC (by lia)
   have ev:sF ns k=(1,((ns.getD (k % ns.length) 0 % 2147483587+48611*((k / ns.length:Nat):Int)+3*(k:Int))*48271+11*(k:Int)+1) % 2147483647):=by(unfold sF;rw[vB (λz=>X4 z.1),FA kS])
   walk_at "!YA"
def zo:((kA "span")==(kA "leap"))=false:=by left
def yo:((kA "span")==(kA "back"))=false:=by left
def vo:((kA "span")==(kA "again"))=false:=by left
def Bo:((kA "span")==(kA "range"))=false:=by left
def uo:((kA "span")==(kA "above"))=false:=by left
def Ao:((kA "span")==(kA "never"))=false:=by left
def Ln:mC .In (.str (kA "span")) (.t [.str (kA "leap"),.str (kA "back"),.str (kA "again")])=some false:=(rfl)
def Sn:((kA "leap")==(kA "span"))=false:=by left
def Pn:((kA "leap")==(kA "back"))=false:=by left
def Nn:((kA "leap")==(kA "again"))=false:=by left
def Rn:((kA "leap")==(kA "range"))=false:=by left
def Mn:((kA "leap")==(kA "above"))=false:=by left
def Qn:((kA "leap")==(kA "never"))=false:=by left
def Hn:mC .In (.str (kA "leap")) (.t [.str (kA "leap"),.str (kA "back"),.str (kA "again")])=some true:=(rfl)
def An:((kA "back")==(kA "span"))=false:=by left
def vn:((kA "back")==(kA "leap"))=false:=by left
def mn:((kA "back")==(kA "again"))=false:=by left
def yn:((kA "back")==(kA "range"))=false:=by left
def kn:((kA "back")==(kA "above"))=false:=by left
def xn:((kA "back")==(kA "never"))=false:=by left
def Gn:mC .In (.str (kA "back")) (.t [.str (kA "leap"),.str (kA "back"),.str (kA "again")])=some true:=(rfl)
def jn:((kA "again")==(kA "span"))=false:=by left
def Zm:((kA "again")==(kA "leap"))=false:=by left
def Ym:((kA "again")==(kA "back"))=false:=by left
def en:((kA "again")==(kA "range"))=false:=by left
def Xm:((kA "again")==(kA "above"))=false:=by left
def cn:((kA "again")==(kA "never"))=false:=by left
def En:mC .In (.str (kA "again")) (.t [.str (kA "leap"),.str (kA "back"),.str (kA "again")])=some true:=(rfl)
def qo:((kA "range")==(kA "span"))=false:=by left
def jo:((kA "range")==(kA "leap"))=false:=by left
def fo:((kA "range")==(kA "back"))=false:=by left
def eo:((kA "range")==(kA "again"))=false:=by left
def bo:((kA "range")==(kA "above"))=false:=by left
def ko:((kA "range")==(kA "never"))=false:=by left
def Kn:mC .In (.str (kA "range")) (.t [.str (kA "leap"),.str (kA "back"),.str (kA "again")])=some false:=(rfl)
def Wm:((kA "above")==(kA "span"))=false:=by left
def Rm:((kA "above")==(kA "leap"))=false:=by left
def Qm:((kA "above")==(kA "back"))=false:=by left
def Pm:((kA "above")==(kA "again"))=false:=by left
def Vm:((kA "above")==(kA "range"))=false:=by left
def Um:((kA "above")==(kA "never"))=false:=by left
def Dn:mC .In (.str (kA "above")) (.t [.str (kA "leap"),.str (kA "back"),.str (kA "again")])=some false:=(rfl)
def Zn:((kA "never")==(kA "span"))=false:=by left
def Xn:((kA "never")==(kA "leap"))=false:=by left
def Wn:((kA "never")==(kA "back"))=false:=by left
def Vn:((kA "never")==(kA "again"))=false:=by left
def Yn:((kA "never")==(kA "range"))=false:=by left
def Tn:((kA "never")==(kA "above"))=false:=by left
def Jn:mC .In (.str (kA "never")) (.t [.str (kA "leap"),.str (kA "back"),.str (kA "again")])=some false:=(rfl)
def MI:type_of% (And.intro @zo (And.intro @yo (And.intro @vo (And.intro @Bo (And.intro @uo (And.intro @Ao (And.intro @Ln (And.intro @Sn (And.intro @Pn (And.intro @Nn (And.intro @Rn (And.intro @Mn (And.intro @Qn (And.intro @Hn (And.intro @An (And.intro @vn (And.intro @mn (And.intro @yn (And.intro @kn (And.intro @xn (And.intro @Gn (And.intro @jn (And.intro @Zm (And.intro @Ym (And.intro @en (And.intro @Xm (And.intro @cn (And.intro @En (And.intro @qo (And.intro @jo (And.intro @fo (And.intro @eo (And.intro @bo (And.intro @ko (And.intro @Kn (And.intro @Wm (And.intro @Rm (And.intro @Qm (And.intro @Pm (And.intro @Vm (And.intro @Um (And.intro @Dn (And.intro @Zn (And.intro @Xn (And.intro @Wn (And.intro @Vn (And.intro @Yn (And.intro @Tn @Jn)))))))))))))))))))))))))))))))))))))))))))))))):=(And.intro @zo (And.intro @yo (And.intro @vo (And.intro @Bo (And.intro @uo (And.intro @Ao (And.intro @Ln (And.intro @Sn (And.intro @Pn (And.intro @Nn (And.intro @Rn (And.intro @Mn (And.intro @Qn (And.intro @Hn (And.intro @An (And.intro @vn (And.intro @mn (And.intro @yn (And.intro @kn (And.intro @xn (And.intro @Gn (And.intro @jn (And.intro @Zm (And.intro @Ym (And.intro @en (And.intro @Xm (And.intro @cn (And.intro @En (And.intro @qo (And.intro @jo (And.intro @fo (And.intro @eo (And.intro @bo (And.intro @ko (And.intro @Kn (And.intro @Wm (And.intro @Rm (And.intro @Qm (And.intro @Pm (And.intro @Vm (And.intro @Um (And.intro @Dn (And.intro @Zn (And.intro @Xn (And.intro @Wn (And.intro @Vn (And.intro @Yn (And.intro @Tn @Jn))))))))))))))))))))))))))))))))))))))))))))))))
def HC(k lo hi:Int)(ps:List D):Bool:=decide ((ps.length:Int)=k)&&ps.all (qB lo hi)
def qO:D->Bool
 |.str x=>inD (.str x) [.str (kA "like"),.str (kA "against"),.str (kA "aside"),.str (kA "any")]
 |_=>false
def zL(ba oc:Int):List D->Bool
 |[a,b]=>qB 0 (ba-1) a&&qB 0 (2 ^ oc.toNat-1) b
 |_=>false
noncomputable def JS:List D->Bool
 |[.int i,.int j]=>decide (i<=j)
 |_=>false
noncomputable def NS:List D->Bool
 |[.int i,.int j]=>!decide (i=j)
 |_=>false
def mK(oc:Int):List D->Bool
 |[a,b,c]=>qB 0 (oc-1) a&&(qB 0 (oc-1) b&&qO c)
 |_=>false
def vJa(h:l.length=2):∃a b,l=[a,b]:=by
 rcases l with _ | ⟨a,_ | ⟨b,_ | ⟨c,r⟩⟩⟩<;>first | exact⟨_,_,rfl⟩ | (simp at h;done)
def qm(ps:List D):(∃a b,ps=[a,b])\/zL ba oc ps=false:=by
 rcases ps with _ | ⟨a,_ | ⟨b,_ | ⟨c,r⟩⟩⟩<;>first | exact .inr rfl | exact .inl ⟨_,_,rfl⟩
def lj(ps:List D):(∃a b c,ps=[a,b,c])\/mK oc ps=false:=by
 rcases ps with _ | ⟨a,_ | ⟨b,_ | ⟨c,_ | ⟨d,r⟩⟩⟩⟩<;>first | exact .inr rfl | exact .inl ⟨_,_,_,rfl⟩
def xJa(h:l.length=3):∃a b c,l=[a,b,c]:=by
 rcases l with _ | ⟨a,_ | ⟨b,_ | ⟨c,_ | ⟨d,r⟩⟩⟩⟩<;>first | exact⟨_,_,_,rfl⟩ | (simp at h;done)
def QR{Z:List D}:rD .all [.l (Z.map λz=>.bl (p z))]=some (.b (Z.all p)):=by
 have h:jH (Z.map λz=>.bl (p z))=some (Z.map p):=by
  induction Z with
  |nil=>rfl
  |cons z Z ih=>simp[jH,ih]
 show(jH _).map _=_;rw[h];simp[TQ]
def xH(h:qB lo hi d=true):∃i,d=.int i/\lo<=i/\i<=hi:=by
 cases d with
 |int i =>
  simp only[qB,qA,vF] at h;exact⟨i,rfl,h.1,h.2⟩
 |_=>cases h
def t2a(h:RM d=false):qB lo hi d=false:=by cases d<;>first | rfl | cases h
def s2a(h:RM d=true):∃i,d=.int i:=by cases d<;>first | exact⟨_,rfl⟩ | cases h
def cP(hl:ps.length<=1000000)(hy:ps.all fE=true) :
  "n"|||n+3|||[.sh (.t ps),.i k,.i lo,.i hi]|||.b (HC k lo hi ps):=by
 exists C3
 have hi':aAb .of [.slot 0] [.sh (.t ps),.i k,.i lo,.i hi]=some (ps,none):=VP rfl
 obtain⟨iB,Ui,e,⟨t1,rfl,EW,rfl⟩,_⟩:=W0 (tests:=IC T.aA (run T W (n+2)) []) (JA:=ev T.aA (run T W (n+2)) false N1) (bind:=bB true [3]) (ds:=ps)
  (λj iB U=>∃(t1:Sl),U=[.i hi,.i lo,.un,t1]/\UB t1=true/\iB=(ps.take j).map λy=>.bl (qB lo hi y))
  (λj d hd iB U hU=>by
   obtain⟨t1,rfl,EW,rfl⟩:=hU;have hw:=YG (W:=W) (n:=n) (lo:=lo) (hi:=hi) (jF.mp hy d (OL hd));refine⟨_,true,_,by simp only[qE,JC EW]<;>rfl,DV,λ_=>?_,λz=>nomatch z⟩;refine⟨.b (qB lo hi d),[.i hi,.i lo,.un,.sh d], ?_,_,rfl,rfl,by rw[Mr,hd,TY];rfl⟩;unfold N1
   walk_at "!YG QR YA")
  [] [.i hi,.i lo,.un,.un] ⟨_,rfl,rfl,rfl⟩
 rw[Ar] at e;have wG:yB ps.length=true:=yC (by lia);cases c:decide ((ps.length:Int)=k)
 ·have hv:HC k lo hi ps=false:=by unfold HC;rw[c];rfl
  walk_at "!YG QR YA"
 ·have hv:HC k lo hi ps=ps.all (qB lo hi):=by unfold HC;rw[c];rfl
  walk_at "!YG QR YA"
  rw[IE hi']
  walk_at "!YG QR YA"
  all_goals (rw[WD rfl];walk_at "!YG QR YA")
def iZa(h0:0<=i)(h1:0<=oc):decide ((OO i:Int)<=oc)=decide (i<=2 ^ oc.toNat-1):=by
 apply decide_eq_decide.mpr
 obtain⟨m,rfl⟩:∃m:Nat,oc=m:=⟨oc.toNat,by lia⟩
 have h:=PySem.intBits_le_iff (m:=m) (x:=i);have e:((2 ^ m:Nat):Int)=(2:Int) ^ m:=by norm_cast
 rw[HJ,<- e];constructor
 ·intro q
  have:=h.mp (by lia)
  lia
 ·intro q
  have:=h.mpr (by lia)
  lia
def Nu(h1:0<=oc)(hd:fE d=true) :
  "F"|||n+2|||[.sh d,.i oc]|||.b (qB 0 (2 ^ oc.toNat-1) d):=by
 exists B3
 have hw:=vS (W:=W) (n:=n) hd;cases c:RM d
 ·rw[t2a c];rw[c] at hw
  walk_at "!vS"
 ·obtain⟨i,rfl⟩:=s2a c;rw[c] at hw;by_cases c1:0<=i
  ·have K0:decide (0<=i)=true:=GC c1;have hs:=iZa c1 h1
   have hv:qB 0 (2 ^ oc.toNat-1) (.int i)=decide (i<=2 ^ oc.toNat-1):=by(show(decide (0<=i)&&_)=_;rw[K0,XM])
   rw[hv,<- hs]
   walk_at "!vS"
  ·have K0:decide (0<=i)=false:=zC c1
   have hv:qB 0 (2 ^ oc.toNat-1) (.int i)=false:=by(show(decide (0<=i)&&_)=_;rw[K0,UY])
   walk_at "!vS"
def yd:mC .In (.str x) (.t [.str (kA "like"),.str (kA "against"),.str (kA "aside"),.str (kA "any")])=some (qO (.str x)):=(rfl)
def zEa(hd:fE d=true):"E"|||n+1|||[.sh d]|||.b (qO d):=by
 exists E3
 cases d<;>first | (simp only[fE,FJ] at hd;done) | (clear hd;walk_at "!yd";rfl) | (clear hd;walk_at "!yd";done)
def JI:zE (some (.t (a::ps))) (some (.int 1)) none=some (.sh (.t ps)):=by
 show iO (.t (a::ps)) (some 1) none=_
 have e:HT.pB (a::ps).length 0 (some 1)=1:=by
  have h:=HT.jT (a::ps).length 0 1;rw[show((1:Nat):Int)=1 from rfl] at h;rw[h,fC]
  lia
 first
  |show some (RV.sh (.t (aAw (a::ps) (some 1) none)))=_
  | (show(if HT.pB (a::ps).length 0 (some 1)=0/\HT.pB (a::ps).length (a::ps).length none=(a::ps).length then none else some (RV.sh (.t (aAw (a::ps) (some 1) none))))=_;rw[e,vB (λz=>absurd z.1 (by decide))])
 unfold aAw;rw[e,HT.P8,List.drop_one,List.tail_cons,bN (by simp)]
def II:zE (some (.t [a,b,c])) none (some (.int 2))=some (.sh (.t [a,b])):=(rfl)
def BR(h:HC 2 lo hi ps=true):∃i j,ps=[.int i,.int j]/\lo<=i/\i<=hi/\lo<=j/\j<=hi:=by
 unfold HC at h;simp only[qA,vF] at h
 match ps,h with
 |[a,b],h =>
  simp only[PB,CK,zJ,qA] at h;obtain⟨i,rfl,i1,i2⟩:=xH h.2.1;obtain⟨j,rfl,j1,j2⟩:=xH h.2.2;exact⟨i,j,rfl,i1,i2,j1,j2⟩
 |[],h=>simp at h
 |[_],h=>simp at h
 |_::_::_::_,h=>simp only[fC] at h;lia
def FI:decide (((2:Nat):Int)=2)=true:=(rfl)
def GI:decide (((3:Nat):Int)=3)=true:=(rfl)
def EI:decide (((2:Nat):Int)=0)=false:=(rfl)
def rQ(hl:ps.length<=1000000)(hy:ps.all fE=true) :
  ("d"|||n+4|||[.sh ba,.sh oc,.sh ma,.sh (.t (.str (kA "leap")::ps))]|||.b (HC 1 0 12 ps)) /\
  ("d"|||n+4|||[.sh ba,.sh oc,.sh ma,.sh (.t (.str (kA "back")::ps))]|||.b (HC 2 1 12 ps)) /\
  ("d"|||n+4|||[.sh ba,.sh oc,.sh ma,.sh (.t (.str (kA "again")::ps))]|||.b (HC 1 1 3 ps)):=by
 have l0:decide (((ps.length+1:Nat):Int)=0)=false:=zC (by lia);have h1:=cP (W:=W) (n:=n) (k:=1) (lo:=0) (hi:=12) hl hy;have h2:=cP (W:=W) (n:=n) (k:=2) (lo:=1) (hi:=12) hl hy;have h3:=cP (W:=W) (n:=n) (k:=1) (lo:=1) (hi:=3) hl hy;clear hl hy;refine⟨?_, ?_, ?_⟩
 all_goals
  exists pM
  walk_at "!MI JI II FI GI EI"
def Ml(ho:0<=oc)(hy:ps.all fE=true) :
  "d"|||n+4|||[.i ba,.i oc,.sh ma,.sh (.t (.str (kA "span")::ps))]|||.b (zL ba oc ps):=by
 have l0:decide (((ps.length+1:Nat):Int)=0)=false:=zC (by lia)
 exists pM
 by_cases c:∃a b,ps=[a,b]
 ·obtain⟨a,b,rfl⟩:=c;simp only[PB,CK,zJ,qA] at hy;have h1:=YG (W:=W) (n:=n+1) (lo:=0) (hi:=ba-1) hy.1;have h2:=Nu (W:=W) (n:=n+1) ho hy.2;have l3:decide (((3:Nat):Int)=0)=false:=rfl;have hv:zL ba oc [a,b]=(qB 0 (ba-1) a&&qB 0 (2 ^ oc.toNat-1) b):=rfl;cases c1:qB 0 (ba-1) a
  ·rw[c1] at h1 hv;have hv:zL ba oc [a,b]=false:=hv
   walk_at "!MI JI II FI GI EI"
  ·rw[c1] at h1 hv;have hv:zL ba oc [a,b]=qB 0 (2 ^ oc.toNat-1) b:=hv
   walk_at "!MI JI II FI GI EI"
 ·have l2:decide ((ps.length:Int)=2)=false:=zC λz=>c (vJa (by lia))
  have hv:zL ba oc ps=false:=(qm ps).resolve_left c
  walk_at "!MI JI II FI GI EI"
def VX(hl:ps.length<=1000000)(hy:ps.all fE=true) :
  ("d"|||n+4|||[.sh ba,.sh oc,.i ma,.sh (.t (.str (kA "range")::ps))]|||.b (HC 2 (-60) 60 ps&&JS ps)) /\
  ("d"|||n+4|||[.sh ba,.sh oc,.i ma,.sh (.t (.str (kA "above")::ps))]|||.b (HC 2 0 ma ps&&NS ps)):=by
 have l0:decide (((ps.length+1:Nat):Int)=0)=false:=zC (by lia);have h1:=cP (W:=W) (n:=n) (k:=2) (lo:=-60) (hi:=60) hl hy;have h2:=cP (W:=W) (n:=n) (k:=2) (lo:=0) (hi:=ma) hl hy;clear hl hy;have l3:decide (((3:Nat):Int)=0)=false:=rfl;constructor
 ·exists pM
  walk_at "!MI JI II FI GI EI"
  cases c:HC 2 (-60) 60 ps
  ·right
   all_goals rfl
  ·clear h1;obtain⟨i,j,rfl,_⟩:=BR c;have hv:(true&&JS [.int i,.int j])=decide (i<=j):=rfl
   walk_at "!MI JI II FI GI EI"
 ·exists pM
  walk_at "!MI JI II FI GI EI"
  cases c:HC 2 0 ma ps
  ·right
   all_goals rfl
  ·clear h2;obtain⟨i,j,rfl,_⟩:=BR c;have hv:(true&&NS [.int i,.int j])=!decide (i=j):=rfl
   walk_at "!MI JI II FI GI EI"
def Kl(hy:ps.all fE=true) :
  "d"|||n+4|||[.sh ba,.i oc,.sh ma,.sh (.t (.str (kA "never")::ps))]|||.b (mK oc ps):=by
 have l0:decide (((ps.length+1:Nat):Int)=0)=false:=zC (by lia)
 exists pM
 by_cases c:∃a b d,ps=[a,b,d]
 ·obtain⟨a,b,d,rfl⟩:=c;simp only[PB,CK,zJ,qA] at hy;have h1:=cP (W:=W) (n:=n) (k:=2) (lo:=0) (hi:=oc-1) (ps:=[a,b]) (by simp) (by simp[hy.1,hy.2.1]);have h2:=zEa (W:=W) (n:=n+2) hy.2.2;have l4:decide (((4:Nat):Int)=0)=false:=rfl
  have hv:mK oc [a,b,d]=(HC 2 0 (oc-1) [a,b]&&qO d):=by(unfold mK HC;simp[Bool.and_assoc])
  cases c1:HC 2 0 (oc-1) [a,b]
  ·rw[c1] at h1 hv;have hv:mK oc [a,b,d]=false:=hv
   walk_at "!MI JI II FI GI EI"
  ·rw[c1] at h1 hv;have hv:mK oc [a,b,d]=qO d:=hv
   walk_at "!MI JI II FI GI EI"
 ·have l2:decide ((ps.length:Int)=3)=false:=zC λz=>c (xJa (by lia))
  have hv:mK oc ps=false:=(lj ps).resolve_left c
  walk_at "!MI JI II FI GI EI"
def vWa(w1:(w==kA "span")=false)(w2:(w==kA "leap")=false)(w3:(w==kA "back")=false)(w4:(w==kA "again")=false)(w5:(w==kA "range")=false)(w6:(w==kA "above")=false)(w7:(w==kA "never")=false) :
  "d"|||n+4|||[.sh ba,.sh oc,.sh ma,.sh (.t (.str w::ps))]|||.b false:=by
 have l0:decide (((ps.length+1:Nat):Int)=0)=false:=zC (by lia)
 exists pM
 walk_at "!MI JI II FI GI EI"
def pw{j:Int}(h1:0<=j)(h2:j<=12):(0:Int)<2 ^ j.toNat/\(2:Int) ^ j.toNat<100000000000000000000000000000000000000000000000000000000000000000000000000000000:=by
 have h:j.toNat<=12:=by lia
 generalize j.toNat=q at h;have h3:2 ^ q<=2 ^ 12:=QL (by decide) h;have h4:(2:Int) ^ q<=4096:=by exact_mod_cast h3
 exact⟨Int.pow_pos (by decide),Int.lt_of_le_of_lt h4 (by decide)⟩
inductive IG(no ba oc ma:Int):D->Prop
 |span (a b:Int) (h1:0<=a) (h2:a<ba) (h3:0<=b) (h4:b<2 ^ oc.toNat):IG no ba oc ma (.t [.str "span",.int a,.int b])
 |leap (a:Int) (h1:0<=a) (h2:a<=12):IG no ba oc ma (.t [.str "leap",.int a])
 |back (a b:Int) (h1:1<=a) (h2:a<=12) (h3:1<=b) (h4:b<=12):IG no ba oc ma (.t [.str "back",.int a,.int b])
 |again (a:Int) (h1:1<=a) (h2:a<=3):IG no ba oc ma (.t [.str "again",.int a])
 |range (a b:Int) (h1:-60<=a) (h2:a<=b) (h3:b<=60):IG no ba oc ma (.t [.str "range",.int a,.int b])
 |above (v w:Nat) (h1:(v:Int)<=ma) (h2:(w:Int)<=ma) (h3:v≠w):IG no ba oc ma (.t [.str "above",.int (v:Int),.int (w:Int)])
 |never (a b:Int) (x:bA) (h1:0<=a) (h2:a<oc) (h3:0<=b) (h4:b<oc) (h5:x="like"\/x="against"\/x="aside"\/x="any"):IG no ba oc ma (.t [.str "never",.int a,.int b,.str x])
def Vo(h:0<=v/\v<2):∃q,bE (some (.l [.int a,.int b])) (.int v)=some (.i q)/\(q=a\/q=b):=by
 rcases(by lia:v=0\/v=1) with rfl | rfl
 ·exact⟨a,rfl,.inl rfl⟩
 ·exact⟨b,rfl,.inr rfl⟩
def wWa{W n:Nat}{k s0 no ba oc ma:Int}(hN:((1<=no/\no<=7)/\1<=ba/\ba<=4)/\(1<=oc/\oc<=12)/\1<=ma/\ma<=3) :
  ∃s' d,run T W (n+2) "M" [.p (.l [.int k,.int s0]),.i no,.i ba,.i oc,.i ma]=some (.ok (.sh d),[.p (.l [.int k,.int s']),.i no,.i ba,.i oc,.i ma])/\IG no ba oc ma d:=by
 exists X2
 unfold xm ym Am Bm Cm Dm Em Gm Hm Im;have g5:0<=oc:=by lia
 have g6:oc<=1000:=by lia
 have g0:0<ma+1:=by lia
 have dn:=@je W n k;obtain⟨w,s,hw,d0⟩:=dn (s:=s0) (m:=9) (by lia);obtain⟨a,s1,ha,d1⟩:=dn (s:=s) (m:=ba) (by lia);by_cases c:w<2
 ·have c':decide (w<2)=true:=GC c;obtain⟨b,s2,hb,d2⟩:=dr (W:=W) (n:=n) (k:=k) (s:=s1) (pw g5 hN.2.1.2).1 (pw g5 hN.2.1.2).2;refine⟨s2,_, ?_,.span a b ha.1 ha.2 hb.1 hb.2⟩;clear dn hN hw ha hb c g0
  right
 rcases(by lia:w=2\/w=3\/w=4\/w=5\/w=6\/w=7\/w=8) with rfl | rfl | rfl | rfl | rfl | rfl | rfl
 ·obtain⟨e,s2,he,d2⟩:=dn (s:=s1) (m:=oc) (by lia);have x3:e<=1000:=by lia
  have x4:=he.1;have h4:(2:Int) ^ (e.toNat+1)<=2 ^ oc.toNat:=by exact_mod_cast QL (by decide) (show e.toNat+1<=oc.toNat by lia)
  rw[Int.pow_succ] at h4;have h5:(0:Int)<2 ^ e.toNat:=Int.pow_pos (by decide);refine⟨s2,_, ?_,.span a (2 ^ oc.toNat-1-2 ^ e.toNat) ha.1 ha.2 (by lia) (by lia)⟩;clear dn hN hw ha he c g0 h4 h5
  right
 all_goals clear d1 ha a s1
 ·obtain⟨v,s1,hv,d1⟩:=dn (s:=s) (m:=2) (by lia);obtain⟨q,hq,h⟩:=Vo (a:=13) (b:=no+1) hv;obtain⟨a,s2,ha,d2⟩:=dn (s:=s1) (m:=q) (by lia);refine⟨s2,_, ?_,.leap a ha.1 (by lia)⟩;clear dn hN hw ha hv h c g0
  right
 ·obtain⟨a,s1,ha,d1⟩:=dn (s:=s) (m:=12) (by lia);obtain⟨b,s2,hb,d2⟩:=dn (s:=s1) (m:=12) (by lia);refine⟨s2,_, ?_,.back (1+a) (1+b) (by lia) (by lia) (by lia) (by lia)⟩;clear dn hN hw ha hb c g0
  right
 ·obtain⟨a,s1,ha,d1⟩:=dn (s:=s) (m:=3) (by lia);refine⟨s1,_, ?_,.again (1+a) (by lia) (by lia)⟩;clear dn hN hw ha c g0
  right
 ·obtain⟨a,s1,ha,d1⟩:=dn (s:=s) (m:=121) (by lia);obtain⟨b,s2,hb,d2⟩:=dn (s:=s1) (m:=20) (by lia);obtain⟨v,s3,hv,d3⟩:=dn (s:=s2) (m:=2) (by lia);obtain⟨q,hq,h⟩:=Vo (a:=a-60) (b:=b-12) hv;obtain⟨r,s4,hr,d4⟩:=dn (s:=s3) (m:=61-q) (by lia);refine⟨s4,_, ?_,.range q (q+r) (by lia) (by lia) (by lia)⟩;clear dn hN hw ha hb hv hr h c g0
  right
 ·obtain⟨a,s1,ha,d1⟩:=dn (s:=s) (m:=ma+1) (by lia);obtain⟨b,s2,hb,d2⟩:=dn (s:=s1) (m:=ma) (by lia);obtain⟨i,rfl⟩:∃i:Nat,a=(i:Int):=⟨a.toNat,by lia⟩
  have e1:=Ir ((i:Int)+1+b) (show ma+1≠0 by lia);have e2:=Rq ((i:Int)+1+b) g0;obtain⟨j,hj⟩:∃j:Nat,((i:Int)+1+b) % (ma+1)=(j:Int):=⟨(((i:Int)+1+b) % (ma+1)).toNat,by lia⟩
  refine⟨s2,_, ?_,.above i j (by lia) (by lia) ?_⟩
  ·clear dn hN hw ha hb c e1 e2
   right
  ·rintro rfl
   have e3:=Int.emod_add_mul_ediv ((i:Int)+1+b) (ma+1);rw[hj] at e3;have e4:((i:Int)+1+b) / (ma+1)=0\/1<=((i:Int)+1+b) / (ma+1):=by have:=Int.ediv_nonneg (show 0<=(i:Int)+1+b by lia) (show 0<=ma+1 by lia);lia
   generalize ((i:Int)+1+b) / (ma+1)=z at *
   rcases e4 with rfl | e4
   ·lia
   ·have:=Int.mul_le_mul_of_nonneg_left e4 (show 0<=ma+1 by lia)
    lia
 ·obtain⟨a,s1,ha,d1⟩:=dn (s:=s) (m:=oc) (by lia);obtain⟨b,s2,hb,d2⟩:=dn (s:=s1) (m:=oc) (by lia);obtain⟨v,s3,hv,d3⟩:=dn (s:=s2) (m:=4) (by lia)
  obtain⟨x,hq,hx⟩:∃x:bA,bE (some (.t [.str "like",.str "against",.str "aside",.str "any"])) (.int v)=some (.s x)/\(x="like"\/x="against"\/x="aside"\/x="any"):=by
   rcases(by lia:v=0\/v=1\/v=2\/v=3) with rfl | rfl | rfl | rfl<;>exact⟨_,rfl,by simp⟩
  refine⟨s3,_, ?_,.never a b x ha.1 ha.2 hb.1 hb.2 hx⟩;clear dn hN hw ha hb hv hx c g0
  right
theorem ZE:∀{j:Nat} {l:List S} {U:Env},MA P C W (l.take j) U=some (.nx,U')->MA P C W l U=MA P C W (l.drop j) U'
 | 0,l,U,h=>by
  rw[YY,OR] at h;cases h;rfl
 |j+1,[],U,h=>by
  rw[wU,OR] at h;cases h;rfl
 |j+1,s::l,U,h=>by
  rw[ya,LV] at h;rw[LV,za]
  generalize ex P C W s U=r at *
  obtain _ | ⟨fl,U1⟩:=r
  ·cases h
  ·cases fl with
   |nx=>exact ZE h
   |_=>cases h
noncomputable def toD(f:Int×Int×Bool):D:=.t [.int f.1,.int f.2.1,.bl f.2.2]
def ib(a b:Int):∃q,bE (some (.l [.int a,.int b])) (.int (if g=true then 1 else 0))=some (.i q)/\(q=a\/q=b):=by
 cases g
 ·exact⟨a,rfl,.inl rfl⟩
 ·exact⟨b,rfl,.inr rfl⟩
structure jc(no ba oc:Int)(fs:List (Int×Int×Bool)):Prop where
 n1:1<=no
 n2:no<=7
 b1:1<=ba
 b2:ba<=4
 o1:1<=oc
 o2:oc<=12
 l1:1<=fs.length
 l2:fs.length<=3
 f:∀f∈fs,0<=f.1/\f.1<=4/\-12<=f.2.1/\f.2.1<=12
def jCa{W n:Nat}{k s:Int}:∃s' no ba oc fs rs,run T W (n+3) "A" [.p (.l [.int k,.int s])]=some (.ok (.sh (.t [.int no,.int ba,.int oc,.t (fs.map toD),.t rs])),[.p (.l [.int k,.int s'])])/\jc no ba oc fs/\rs.length<=8/\∀d∈rs,IG no ba oc (fs.length:Int) d:=by
 rw[qK (fn:=wN) rfl rfl rfl];have dn:=@je W (n+1) k;obtain⟨g0,s1,_,d0⟩:=dn (s:=s) (m:=2) (by lia);obtain⟨g,hg⟩:∃g,decide (g0=0)=g:=⟨_,rfl⟩
 obtain⟨q1,e1,h1⟩:=ib (g:=g) 4 7;obtain⟨v1,s2,w1,d1⟩:=dn (s:=s1) (m:=q1) (by lia);obtain⟨q2,e2,h2⟩:=ib (g:=g) 2 4;obtain⟨v2,s3,w2,d2⟩:=dn (s:=s2) (m:=q2) (by lia);obtain⟨v3,s4,w3,d3⟩:=dn (s:=s3) (m:=12) (by lia);obtain⟨q4,e4,h4⟩:=ib (g:=g) 2 3;obtain⟨v4,s5,w4,d4⟩:=dn (s:=s4) (m:=q4) (by lia)
 have hA:MA T.aA (run T W (n+2)) W (wN.body.take 6) ([.p (.l [.int k,.int s])]++FC wN.nl .un)=some (.nx,[.p (.l [.int k,.int s5]),.b g,.i (1+v1),.i (1+v2),.i (1+v3),.i (1+v4),.o (.l []),.un,.un,.un]):=by
  unfold wN;clear h1 h2 h4 w1 w2 w3 w4 dn
  right
 rw[ZE hA];clear hA d0 d1 d2 d3 d4 hg e1 e2 e4;have n1:1<=1+v1/\1+v1<=7:=by lia
 have n2:1<=1+v2/\1+v2<=4:=by lia
 have n3:1<=1+v3/\1+v3<=12:=by lia
 have n4:1<=1+v4/\1+v4<=3:=by lia
 clear h1 h2 h4 w1 w2 w3 w4
 generalize 1+v1=no at *
 generalize 1+v2=ba at *
 generalize 1+v3=oc at *
 generalize 1+v4=ma at *
 have eS:aAb .eE [.slot 5] [.p (.l [.int k,.int s5]),.b g,.i no,.i ba,.i oc,.i ma,.o (.l []),.un,.un,.un]=some ((KC ma.toNat).map λ(j:Nat)=>.int (j:Int),none):=J6 rfl (by lia) (by lia)
 obtain⟨U1,Zx,s6,fs,t7,t8,rfl,h7,h8,hl,hf⟩:=dX (bind:=bB true [7]) (body:=MA T.aA (run T W (n+2)) W LZ)
  (λpre U=>∃s6 fs t7 t8,U=[.p (.l [.int k,.int s6]),.b g,.i no,.i ba,.i oc,.i ma,.o (.l (fs.map toD)),t7,t8,.un]/\UB t7=true/\UB t8=true/\fs.length=pre.length/\∀f∈fs,0<=f.1/\f.1<=4/\-12<=f.2.1/\f.2.1<=12)
  (ds:=(KC ma.toNat).map λ(j:Nat)=>.int (j:Int)) (λpre d post XF U hU=>by
   obtain⟨s6,fs,t7,t8,rfl,h7,h8,hl,hf⟩:=hU
   have cC:pre.length<ma.toNat:=by
    have:=congrArg CU XF
    simp at this
    lia
   refine⟨_,by simp only[qE,JC h7]<;>rfl, ?_⟩;have wG:yB ((fs.map toD).length+1)=true:=yC (by simp;lia);obtain⟨q,e,hq⟩:=ib (g:=g) 2 5;obtain⟨a,u1,ha,c1⟩:=dn (s:=s6) (m:=q) (by lia);obtain⟨b,u2,hb,c2⟩:=dn (s:=u1) (m:=25) (by lia);obtain⟨t,u3,_,c3⟩:=dn (s:=u2) (m:=4) (by lia);refine⟨[.p (.l [.int k,.int u3]),.b g,.i no,.i ba,.i oc,.i ma,.o (.l ((fs++[(a,b-12,decide (t=0))]).map toD)),.sh d,.i a,.un], ?_,_,_,_,_,rfl,rfl,rfl,by simp[hl],λf hm=>?_⟩
   ·unfold LZ;clear hf XF cC hl eS n1 n2 n3 n4 dn hq ha hb
    right
    simp only[TY,pD,JO,toD]
   ·rcases iI.mp hm with hm | hm
    ·exact hf f hm
    ·rw[uF.mp hm]
     refine⟨ha.1, ?_, ?_, ?_⟩<;>simp only<;>lia)
  (U:=[.p (.l [.int k,.int s5]),.b g,.i no,.i ba,.i oc,.i ma,.o (.l []),.un,.un,.un]) ⟨_,[],_,_,rfl,rfl,rfl,rfl,λf h=>nomatch h⟩
 have hl:fs.length=ma.toNat:=by rw[hl];simp
 obtain⟨v,s7,hv,d5⟩:=dn (s:=s6) (m:=9) (by lia);have JP:∀U,aAb .eE [.val (.i v)] U=some ((KC v.toNat).map λ(j:Nat)=>.int (j:Int),none):=λU=>J6 rfl (by lia) (by lia)
 obtain⟨U2,el2,s8,rs,f9,rfl,h7',Of,hR⟩:=dX (bind:=bB true [7]) (body:=MA T.aA (run T W (n+2)) W MZ)
  (λpre U=>∃s8 rs t7,U=[.p (.l [.int k,.int s8]),.b g,.i no,.i ba,.i oc,.i ma,.o (.l (fs.map toD)),t7,t8,.o (.l rs)]/\UB t7=true/\rs.length=pre.length/\∀d∈rs,IG no ba oc ma d)
  (ds:=(KC v.toNat).map λ(j:Nat)=>.int (j:Int)) (λpre d post XF U hU=>by
   obtain⟨s8,rs,t7,rfl,h7,hl,hR⟩:=hU
   have cC:pre.length<v.toNat:=by
    have:=congrArg CU XF
    simp at this
    lia
   refine⟨_,by simp only[qE,JC h7]<;>rfl, ?_⟩;have wG:yB (rs.length+1)=true:=yC (by lia);obtain⟨s9,dr,er,M5⟩:=wWa (W:=W) (n:=n) (k:=k) (s0:=s8) ⟨⟨n1,n2⟩,n3,n4⟩;refine⟨[.p (.l [.int k,.int s9]),.b g,.i no,.i ba,.i oc,.i ma,.o (.l (fs.map toD)),.sh d,t8,.o (.l (rs++[dr]))], ?_,_,_,_,rfl,rfl,by simp[hl],λd hd=>(iI.mp hd).elim (hR d) λq=>by rw[uF.mp q];exact M5⟩;unfold MZ;clear hR M5 hf XF cC hl eS Zx JP hv d5 n1 n2 n3 n4 dn
   right)
  (U:=[.p (.l [.int k,.int s7]),.b g,.i no,.i ba,.i oc,.i ma,.o (.l (fs.map toD)),t7,t8,.o (.l [])]) ⟨_,[],_,rfl,h7,rfl,λ_ z=>nomatch z⟩
 have Pf:rs.length<=8:=by rw[Of];simp;lia
 have Nf:(fs.length:Int)=ma:=by lia
 refine⟨s8,no,ba,oc,fs,rs, ?_,⟨n1.1,n1.2,n2.1,n2.2,n3.1,n3.2,by lia,by lia,hf⟩,Pf,by rw[Nf];exact hR⟩;clear hf n1 n2 n3 n4 hl Of hv hR Pf Nf dn h7 h8 h7';unfold wN
 right
def AW(no ba oc:Int)(fs:List (Int×Int×Bool))(rs:List D):D:=.t [.int no,.int ba,.int oc,.t (fs.map toD),.t rs]
set_option hygiene false in
local macro_rules | `(())=>`(AW no ba oc fs rs)
def SW{k:Nat}(h:k<=1000):aAb .eE [.val (.i (k:Int))] U=some ((KC k).map λ(j:Nat)=>.int (j:Int),none):=by
 refine Eq.trans (J6 (n:=(k:Int)) rfl (by lia) (by lia)) ?_;rw[HJ]
def mWa(no ba oc ma:Int)(rs:List D):Prop:=rs.length<=8/\∀d∈rs,IG no ba oc ma d
def ye(h:d∈gD lo ds):∃(j:Int) (x:D),d=.t [.int j,x]/\x∈ds:=by
 unfold gD at h;obtain⟨j,hj,rfl⟩:=kC.mp h;have hj:j<ds.length:=QQ.mp hj;exact⟨_,_,rfl,by rw[oq,MD hj];exact LY hj⟩
def yS(h:U[i]?=some (.ow (.l ds) p l)):aAb (.enum lo) [.slot i] U=some (gD lo ds,some i):=by(unfold aAb;simp only[h])
def JR{bind:D->Env->Option Env}{xs:List O}(f:O->D)(keep:O->Bool)(g:O->D)(J:Env->Prop)
  (step:∀x∈xs,∀U,J U->∃U1 U2,bind (f x) U=some U1/\tests U1=some (.ok (.b (keep x)),U2)/\(keep x=true->∃v U3,JA U2=some (.ok v,U3)/\v.d=g x/\J U3)/\(keep x=false->J U2)) (h:J U) :
  ∃U',XD tests JA bind (xs.map f) [] U=some (.ok ((xs.filter keep).map g),U')/\J U':=by
 obtain⟨iB,U',e,⟨rfl,hJ⟩,_⟩:=W0 (ds:=xs.map f) (λj iB U=>iB=((xs.take j).filter keep).map g/\J U)
  (λj d hd iB U hz=>by
   obtain⟨ha,hJ⟩:=hz;rw[IK] at hd
   cases hq:xs[j]? with
   |none=>rw[hq] at hd;cases hd
   |some x =>
    rw[hq] at hd;cases hd;obtain⟨U1,U2,h1,h2,h3,h4⟩:=step x (OL hq) U hJ;refine⟨U1,keep x,U2,h1,h2,λhk=>?_,λhk=>⟨?_,h4 hk⟩⟩
    ·obtain⟨v,U3,h5,h6,h7⟩:=h3 hk;refine⟨v,U3,h5, ?_,h7⟩;rw[ha,h6,lr,hq];simp[JQ,hk]
    ·rw[ha,lr,hq]
     simp[JQ,hk]) [] U ⟨by simp,h⟩
 refine⟨U', ?_,hJ⟩;rw[e,YA,Ar]
def TK{bind:D->Env->Option Env}{xs:List O}(f g:O->D)(J:Env->Prop)
  (step:∀x∈xs,∀U,J U->∃U1 v U3,bind (f x) U=some U1/\JA U1=some (.ok v,U3)/\v.d=g x/\J U3) (h:J U) :
  ∃U',XD (IC P C []) JA bind (xs.map f) [] U=some (.ok (xs.map g),U')/\J U':=by
 obtain⟨U',e,hJ⟩:=JR (tests:=IC P C []) f (λ_=>true) g J (λx hx U hU=>by
  obtain⟨U1,v,U3,h1,h2,h3,h4⟩:=step x hx U hU
  exact⟨U1,U1,h1,DV,λ_=>⟨v,U3,h2,h3,h4⟩,λz=>nomatch z⟩) h
 refine⟨U', ?_,hJ⟩;rw[e,Aa.mpr λ_ _=>rfl]
def jS(c:Nat):List (List Nat)->List Nat
 |[]=>[]
 |[a]=>a
 |a::b::r=>a++c::jS c (b::r)
def P6(h:a≠[]):jS c (a::r)≠[]:=by
 cases r with
 |nil=>exact h
 |cons b r=>exact λz=>absurd z (by show a++c::jS c (b::r)≠[];simp)
theorem CM(c:Nat):∀ws:List bA,(DG ⟨#[c]⟩ ws).cps.toList=jS c (ws.map λw=>w.cps.toList)
 |[]=>rfl
 |[a]=>rfl
 |a::b::r=>by(have ih:=CM c (b::r);show((a++(⟨#[c]⟩:bA))++DG ⟨#[c]⟩ (b::r)).cps.toList=a.cps.toList++c::jS c ((b::r).map λw=>w.cps.toList);rw[<- ih];show(a.cps ++ #[c]++(DG ⟨#[c]⟩ (b::r)).cps).toList=_;simp)
theorem Wd:∀{a a' s s':List Nat},c ∉ a->c ∉ a'->a++c::s=a'++c::s'->a=a'/\s=s'
 |[],[],s,s',_,_,h=>by simpa using h
 |[],x::a',s,s',_,h2,h=>by
  simp only[pU,nU,PQ] at h;exact absurd (by rw[h.1];exact BE) h2
 |x::a,[],s,s',h1,_,h=>by
  simp only[pU,nU,PQ] at h;exact absurd (by rw[h.1];exact BE) h1
 |x::a,y::a',s,s',h1,h2,h=>by(simp only[nU,PQ] at h;obtain⟨e1,e2⟩:=Wd (λz=>h1 (OD _ z)) (λz=>h2 (OD _ z)) h.2;exact⟨by rw[h.1,e1],e2⟩)
theorem Xg:∀{as bs:List (List Nat)},as≠[]->bs≠[]->(∀a∈as,c ∉ a)->(∀b∈bs,c ∉ b)->jS c as=jS c bs->as=bs
 |[],_,h,_,_,_,_=>absurd rfl h
 |_,[],_,h,_,_,_=>absurd rfl h
 |[a],[b],_,_,_,_,h=>by rw[show a=b from h]
 |[a],b::b2::r,_,_,ha,_,h=>by
  have h:a=b++c::jS c (b2::r):=h;exact absurd (by rw[h];simp) (ha a BE)
 |a::a2::r,[b],_,_,_,hb,h=>by
  have h:a++c::jS c (a2::r)=b:=h;exact absurd (by rw[<- h];simp) (hb b BE)
 |a::a2::r,b::b2::r',_,_,ha,hb,h=>by(obtain⟨rfl,e⟩:=Wd (ha a BE) (hb b BE) h;rw[Xg (by simp) (by simp) (λx hx=>ha x (OD _ hx)) (λx hx=>hb x (OD _ hx)) e])
def aAz{a b:bA}(h:a.cps.toList=b.cps.toList):a=b:=by
 cases a;cases b;simp only[MQ] at h;rw[h]
theorem Ri:∀{as bs:List bA},(as.map λw=>w.cps.toList)=(bs.map λw=>w.cps.toList)->as=bs
 |[],[],_=>rfl
 |[],_::_,h=>nomatch h
 |_::_,[],h=>nomatch h
 |a::as,b::bs,h=>by(simp only[pD,PQ] at h;rw[aAz h.1,Ri h.2])
def cY(hs:s=⟨#[c]⟩)(hn:ws≠[])(hf:∀w∈ws,c ∉ w.cps.toList):kB (lC s ws) s=ws:=by
 subst hs;have ej:lC ⟨#[c]⟩ ws=DG ⟨#[c]⟩ ws:=NL _ _;rw[ej];have h1:=Sq (DG ⟨#[c]⟩ ws) ⟨#[c]⟩;have h2:=Tq (DG ⟨#[c]⟩ ws) c;have h3:=zq (DG ⟨#[c]⟩ ws) ⟨#[c]⟩
 generalize kB (DG ⟨#[c]⟩ ws) ⟨#[c]⟩=ps at *
 have e:=congrArg (λx:bA=>x.cps.toList) h1;simp only[CM] at e;refine Ri (Xg ?_ ?_ ?_ ?_ e)
 ·intro z;rw[wO] at z;subst z;simp at h3
 ·intro z;exact hn (wO.mp z)
 ·intro a ha;obtain⟨w,hw,rfl⟩:=kC.mp ha;exact h2 w hw
 ·intro a ha;obtain⟨w,hw,rfl⟩:=kC.mp ha;exact hf w hw
structure TG(n:Nat)(w:bA):Prop where
 len:w.length<=n
 asc:w.cps.all (·<128)=true
def nK(h:w.cps.all (·<128)=true):jC w=true:=by
 unfold jC;rw[jr] at h ⊢;intro i hi
 have:=h i hi
 simp only[vF] at this ⊢
 lia
theorem Zg:∀{as:List (List Nat)} {x:Nat},x∈jS c as->x=c\/∃a∈as,x∈a
 |[],x,h=>nomatch h
 |[a],x,h=>.inr ⟨a,BE,h⟩
 |a::b::r,x,h=>by
  have h:x∈a++c::jS c (b::r):=h;rcases iI.mp h with h | h
  ·exact .inr ⟨a,BE,h⟩
  ·rcases eD.mp h with h | h
   ·exact .inl h
   ·rcases Zg h with h | ⟨d,hd,h⟩
    ·exact .inl h
    ·exact .inr ⟨d,OD _ hd,h⟩
def BS(hs:s=⟨#[c]⟩)(h:x∈(lC s ws).cps.toList):x=c\/∃w∈ws,x∈w.cps.toList:=by
 subst hs;rw[show lC ⟨#[c]⟩ ws=DG ⟨#[c]⟩ ws from NL _ _,CM] at h;rcases Zg h with h | ⟨a,ha,h⟩
 ·exact .inl h
 ·obtain⟨w,hw,rfl⟩:=kC.mp ha;exact .inr ⟨w,hw,h⟩
def ZP(hs:s=⟨#[c]⟩)(hc:c<128)(h:∀w∈ws,TG B w)(hl:ws.length*(B+1)<=N)(hN:N<=1000000) :
  TG N (lC s ws)/\GU s ws=true:=by
 have h1:s.length=1:=by rw[hs];rfl
 have h2:ws.length*(B+1)=ws.length*B+ws.length:=Nat.mul_succ _ _;refine⟨⟨?_, ?_⟩, ?_⟩
 ·rw[show lC s ws=DG s ws from NL _ _];refine lD (StrLaws.join_length_le _ _) ?_
  have h3:(ws.map (·.length)).sum<=ws.length*B:=by
   clear hl h2
   induction ws with
   |nil=>simp
   |cons a r ih =>
    have h4:=(h a BE).len;have h5:=ih λw hw=>h w (OD _ hw)
    have h6:(r.length+1)*B=r.length*B+B:=Nat.succ_mul _ _;simp only[pD,Jb,fC]
    lia
  rw[h1]
  lia
 ·rw[OI];intro x hx;rcases BS hs (by simpa using hx) with rfl | ⟨w,hw,hx⟩
  ·exact GC hc
  ·have h4:=(h w hw).asc;rw[OI] at h4;exact h4 x (by simpa using hx)
 ·unfold GU;rw[kU];refine StrLaws.joinFits (λy hy=>(h y hy).len) ?_;rw[h1]
  lia
def aAR:tJ (ts.map D.str)=some ts:=by
 induction ts with
 |nil=>rfl
 |cons a r ih =>
  show(tJ (r.map D.str)).map (a :: ·)=_;rw[ih];rfl
def yF:(" ":bA)=⟨#[32]⟩:=by left
def DM:("\n":bA)=⟨#[10]⟩:=by left
def aJ:(",":bA)=⟨#[44]⟩:=by left
def ON(hs:s=⟨#[c]⟩)(hc:c<128)(h:∀w∈ws,TG B w)(hl:ws.length*(B+1)<=N)(hN:N<=1000000):UW s (some (.l (ws.map D.str)))=some (.s (lC s ws)):=by
 obtain⟨h1,h2⟩:=ZP hs hc h hl hN;exact aGa aAR h2 (nK h1.asc)
noncomputable def lH(c:Nat):Bool:=!(HQ ("0123456789":bA) ⟨#[c]⟩ 0 ("0123456789":bA).length 1).isEmpty
noncomputable def num(i:Int):bA:=kA (toString i)
noncomputable def EB(w:bA):bA:=if BO w "-"=true then RD w (some 1) none else w
def b9(i:Int):Bool:=decide (i.natAbs.log2<1920)&&jC (num i)
noncomputable def GX(w:bA):Bool:=w.cps.all λc=>decide (c<128)&&(decide (c≠32)&&(decide (c≠10)&&decide (c≠44)))
def k8(i:Int):Bool:=b9 i&&(decide ((num i).length<=3)&&(GX (num i)&&(decide (1<=(EB (num i)).length)&&(decide ((EB (num i)).length<=3)&&((EB (num i)).cps.all (·<128)&&((EB (num i)).cps.toList.all lH&&decide (intText? (num i)=some i)))))))
def cNa:(KC 121).all (λn=>k8 ((n:Int)-60))=true:=by left
structure YL(i:Int):Prop where
 s:rD .str [.int i]=some (.s (num i))
 tg:TG 3 (num i)
 uN:32 ∉ (num i).cps.toList
 PR:10 ∉ (num i).cps.toList
 r_:44 ∉ (num i).cps.toList
 l1:1<=(EB (num i)).length
 l2:(EB (num i)).length<=3
 fa:(EB (num i)).cps.all (·<128)=true
 ff:(EB (num i)).cps.toList.all lH=true
 it:intText? (num i)=some i
def xk(h:GX w=true):w.cps.all (·<128)=true/\32 ∉ w.cps.toList/\10 ∉ w.cps.toList/\44 ∉ w.cps.toList:=by
 unfold GX at h;rw[OI] at h;have h:∀x∈w.cps,x<128/\x≠32/\x≠10/\x≠44:=λx hx=>by simpa using h x hx
 refine⟨by rw[OI];exact λx hx=>GC (h x hx).1,λz=>(h 32 (by simpa using z)).2.1 rfl,λz=>(h 10 (by simpa using z)).2.2.1 rfl,λz=>(h 44 (by simpa using z)).2.2.2 rfl⟩
def yZa(h:b9 i=true):rD .str [.int i]=some (.s (num i)):=by
 unfold b9 at h;rw[qA,vF] at h;exact MV h.1 h.2
def vE(h1:-60<=i)(h2:i<=60):YL i:=by
 have h:k8 i=true:=by
  have:=jF.mp cNa (i+60).toNat (QQ.mpr (by lia))
  rwa[show(((i+60).toNat:Int)-60)=i by lia] at this
 unfold k8 at h;simp only[qA,vF] at h;obtain⟨a,b,c,d,e,f,g,k⟩:=h;obtain⟨p1,p2,p3,p4⟩:=xk c;exact⟨yZa a,⟨b,p1⟩,p2,p3,p4,d,e,f,g,k⟩
def S7(n:Nat):(num (n:Int)).cps.all (·<128)=true:=by
 unfold num;rw[EY,OI];intro x hx;have hx:x∈(toString (n:Int)).toList.map Char.toNat:=by simpa using hx
 obtain⟨c,hc,rfl⟩:=kC.mp hx
 have hc:c∈Nat.toDigits 10 n:=by
  have e:(toString (n:Int)).toList=Nat.toDigits 10 n:=String.toList_ofList
  rwa[e] at hc
 have hd:=lq (by decide) (by decide) hc;unfold Char.isDigit at hd;rw[qA,vF,vF] at hd;have h2:c.val.toNat<=57:=hd.2;exact GC (show c.val.toNat<128 by lia)
def wZa(h1:0<=b)(h2:b<4096):rD .str [.int b]=some (.s (num b)):=by
 obtain⟨n,rfl⟩:∃n:Nat,b=(n:Int):=⟨b.toNat,by lia⟩
 refine MV ?_ (nK (S7 n));rw[Uq];by_cases h0:n=0
 ·subst h0;decide
 ·rw[DU h0];exact iE (show n<2 ^ 12 by lia) (QL (i:=12) (j:=1920) (by decide) (by decide))
noncomputable def p2(k:Nat):Int:=((2 ^ k:Nat):Int)
def Qj(k:Nat):(2:Int) ^ k=p2 k:=by unfold p2;rw[Int.natCast_pow];rfl
def IH(n k:Nat):Bool:=decide (n / 2 ^ k % 2=1)
def JH(n:Nat):List Nat:=(KC 12).filter (IH n)
def Xx(n k:Nat):(n:Int) / 2 ^ k=((n / 2 ^ k:Nat):Int):=by rw[Qj,zr];rfl
def Mo(n k:Nat):decide ((n:Int) / 2 ^ k % 2=1)=IH n k:=by
 rw[Xx];unfold IH;rw[Jr,vF,vF]
 lia
def o1a(n k:Nat):decide (lU ((n:Int) / 2 ^ k) 1=1)=IH n k:=by rw[PyProof.Rows.bitAnd_m1,Mo]
theorem Vk(h:∀k,m<=k->p k=false):∀d,(KC (m+d)).filter p=(KC m).filter p
 | 0=>rfl
 |d+1=>by rw[show m+(d+1)=(m+d)+1 by lia,pb,JQ,Vk h d,Br,h (m+d) (by lia)];simp
def Wv{n:Nat}(h0:n≠0):OO (n:Int)=n.log2+1:=by
 unfold OO;rw[vB (by simpa using h0),Uq]
def aAL(h:n<4096):n.log2+1<=12:=by
 by_cases h0:n=0
 ·subst h0;decide
 ·have:=(DU h0 (k:=12)).mpr h
  lia
def Xv(h:n<4096):(KC (n.log2+1)).filter (IH n)=JH n:=by
 unfold JH
 have e:=Vk (p:=IH n) (m:=n.log2+1) (λk hk=>by
  unfold IH;have h1:n<2 ^ k:=iE Nat.lt_log2_self (QL (by decide) hk);rw[Nat.div_eq_of_lt h1]
  rfl) (12-(n.log2+1))
 rw[show n.log2+1+(12-(n.log2+1))=12 by have:=aAL h;lia] at e;exact e.symm
def yQa(a k:Nat)(h:a<2 ^ k):cH (a:Int) (p2 k)=((a+2 ^ k:Nat):Int):=by
 unfold p2
 have e:a &&& 2 ^ k=0:=Nat.eq_of_testBit_eq λi=>by
  rw[Nat.testBit_and,Nat.testBit_two_pow,Nat.zero_testBit];by_cases c:k=i
  ·subst c;rw[Nat.testBit_lt_two_pow h];rfl
  ·rw[zC c,sU]
 rw[PyProof.Rows.bitOr_and,PyProof.Rows.bitAnd_pp (by lia) (by lia),HJ,HJ,e]
 lia
theorem We(n:Nat):∀m,((KC m).filter (IH n)).foldl (λa k=>cH a (p2 k)) 0=((n % 2 ^ m:Nat):Int)
 | 0=>by simp[Nat.mod_one]
 |m+1=>by
  rw[pb,JQ,List.foldl_append,We n m,Br,Nat.mod_pow_succ]
  cases h:IH n m with
  |true =>
   have h:n / 2 ^ m % 2=1:=TM h;rw[h];simp only[if_true,List.filter_nil,qb,Nr];rw[yQa _ _ (Nat.mod_lt _ (Nat.pow_pos (by decide))),Nat.mul_one]
  |false =>
   have h:¬n / 2 ^ m % 2=1:=of_decide_eq_false h;rw[show n / 2 ^ m % 2=0 by lia];simp
def pd(h:n<4096):(JH n).foldl (λa k=>cH a (p2 k)) 0=(n:Int):=by
 unfold JH;rw[We,Nat.mod_eq_of_lt (show n<2 ^ 12 from h)]
def B0(h:n<4096)(h0:n≠0):JH n≠[]:=λz=>by
 have:=pd h
 rw[z] at this;simp only[Nr] at this
 lia
def QC(n:Nat):List bA:=(JH n).map λ(k:Nat)=>num (k:Int)
def AD(n:Nat):bA:=if n=0 then("-":bA) else lC "," (QC n)
def A0(h:k∈JH b):k<12:=by
 unfold JH at h;exact QQ.mp (OQ.mp h).1
def Vv(b:Nat):(JH b).length<=12:=by
 unfold JH;exact lD (ja _ _) (by simp)
def wd:D->bA
 |.int i=>num i
 |.str x=>x
 |_=>("":bA)
structure WO(w:bA):Prop where
 tg:TG 60 w
 uN:32 ∉ w.cps.toList
 PR:10 ∉ w.cps.toList
 ne:w.cps.toList≠[]
def TG.up(h:TG n w)(k:n<=m):TG m w:=⟨lD h.len k,h.asc⟩
def yj{i:Int}(h:YL i):(num i).cps.toList≠[]:=λz=>by
 have h1:=h.l1;rw[show num i=⟨#[]⟩ from aAz z] at h1;exact absurd h1 (by left)
def WH(h1:-60<=i)(h2:i<=60):WO (num i):=have h:=vE h1 h2;⟨h.tg.up (by decide),h.uN,h.PR,yj h⟩
noncomputable def LA(ws:List bA):bA:=lC " " ws
def iY{el:E}(qW:el=.bif .str [.v 1]){ds:List D}(hd:∀d∈ds,rD .str [d]=some (.s (wd d))) :
  ∃t,XD (IC T.aA (run T W n) []) (ev T.aA (run T W n) false el) (bB true [1]) ds [] [.un,.un]=some (.ok ((ds.map wd).map D.str),[.un,t]):=by
 obtain⟨U',e,t,rfl,ht⟩:=TK (P:=T.aA) (C:=run T W n) (JA:=ev T.aA (run T W n) false el) (bind:=bB true [1]) (xs:=ds) id (λd=>D.str (wd d)) (λU=>∃t,U=[.un,t]/\UB t=true)
  (λd hm U hU=>by
   obtain⟨t,rfl,ht⟩:=hU;have hs:=hd d hm;refine⟨[.un,.sh d],.s (wd d),[.un,.sh d],by simp only[qE,JC ht]<;>rfl, ?_,rfl,_,rfl,rfl⟩;rw[qW]
   generalize wd d=w at *
   clear hm hd ht qW
   right) (U:=[.un,.un]) ⟨_,rfl,rfl⟩
 refine⟨t, ?_⟩;rw[VQ] at e;rw[e,oG];rfl
def Hl(hw:∀w∈ws,WO w)(hl:ws.length<=20):TG 2000 (LA ws)/\10 ∉ (LA ws).cps.toList:=by
 refine⟨(ZP yF (by decide) (λw h=>(hw w h).tg) (by lia) (by decide)).1,λz=>?_⟩;rcases BS yF z with h | ⟨w,h1,h2⟩
 ·cases h
 ·exact(hw w h1).PR h2
def Il(hs:s=.sh (.l ds)\/s=.sh (.t ds))(hd:∀d∈ds,rD .str [d]=some (.s (wd d)))(hw:∀w∈ds.map wd,WO w)(hl:ds.length<=60) :
  "c"|||n+1|||[s]|||.s (LA (ds.map wd)):=by
 rw[qK ju rfl (by rcases hs with rfl | rfl<;>rfl)];unfold TV;obtain⟨t,e⟩:=iY (W:=W) (n:=n) (el:=ve) rfl hd;have ho:=ON yF (by decide) (B:=60) (N:=4000) (ws:=ds.map wd) (λw h=>(hw w h).tg) (by rw[YA];lia) (by decide);have wG:yB ((ds.map wd).map D.str).length=true:=yC (by simp;lia)
 have hi:aAb .of [.slot 0] [s]=some (ds,none):=by
  rcases hs with rfl | rfl
  ·exact Rg rfl
  ·exact VP rfl
 unfold LA
 generalize (ds.map wd).map D.str=L at *
 generalize lC _ (ds.map wd)=tx at *
 rcases hs with rfl | rfl
 ·right
  rw[IE hi]
  right
  exfalso
 ·right
  rw[IE hi]
  right
  exfalso
def qQ(hs:s=.sh (.l ds)\/s=.sh (.t ds))(hd:∀d∈ds,rD .str [d]=some (.s (wd d)))(hw:∀w∈ds.map wd,WO w)(hl:ds.length<=20) :
  "c"|||n+1|||[s]|||.s (LA (ds.map wd)):=Il hs hd hw (lD hl (by decide))
def tG{x y:bA}:(x++y).cps.toList=x.cps.toList++y.cps.toList:=by
 show(x.cps++y.cps).toList=_;simp
def pQ(ws:List bA):(LA ws).cps.toList=jS 32 (ws.map λw=>w.cps.toList):=by
 unfold LA;rw[yF,show lC ⟨#[32]⟩ ws=DG ⟨#[32]⟩ ws from NL _ _,CM]
def vW(f:Int×Int×Bool):List bA:=("voice":bA)::num f.1::num f.2.1::(if f.2.2=true then [("turned":bA)] else [])
def Di:(" turned":bA).cps.toList=32::("turned":bA).cps.toList:=by left
def Ei:("voice ":bA).cps.toList=("voice":bA).cps.toList++[32]:=by left
def eJa:("notes ":bA).cps.toList=("notes":bA).cps.toList++[32]:=by left
def yIa:("bar ":bA).cps.toList=("bar":bA).cps.toList++[32]:=by left
def fJa:("octave ":bA).cps.toList=("octave":bA).cps.toList++[32]:=by left
def A7:(" ":bA).cps.toList=[32]:=by left
theorem B7:("":bA).cps.toList=[]:=by left
def k1a:LA [a,b,c]++(" turned":bA)=LA [a,b,c,("turned":bA)]:=aAz (by
 rw[tG,pQ,pQ,Di]
 simp[jS])
def yT(h:p.cps.toList=q.cps.toList++[32]):p++a=LA [q,a]:=aAz (by
 rw[tG,pQ,h]
 simp[jS])
def l1a(c:Bool):((((("voice ":bA)++a)++(" ":bA))++b)++(if c=true then(" turned":bA) else("":bA)))=LA (("voice":bA)::a::b::(if c=true then [("turned":bA)] else [])):=aAz (by
 cases c
 ·rw[YC,YC,tG,tG,tG,tG,pQ,Ei,A7,B7];simp[jS]
 ·rw[FA rfl,FA rfl,tG,tG,tG,tG,pQ,Ei,A7,Di]
  simp[jS])
def yH(h:(decide (w.length<=60/\w.cps.toList≠[])&&GX w)=true):WO w:=by
 rw[qA,vF] at h;obtain⟨h1,h2,h3,_⟩:=xk h.2;exact⟨⟨h.1.1,h1⟩,h2,h3,h.1.2⟩
def K9:WO "voice":=yH (by left)
def v2a:WO "turned":=yH (by left)
def zp:WO "notes"/\WO "bar"/\WO "octave":=⟨yH (by left),yH (by left),yH (by left)⟩
def kR(f:Int×Int×Bool):Prop:=0<=f.1/\f.1<=4/\-12<=f.2.1/\f.2.1<=12
def bp(h:kR f):(∀w∈vW f,WO w)/\(vW f).length<=20:=by
 obtain⟨a,b,c⟩:=f;obtain⟨h1,h2,h3,h4⟩:=h;have n1:=WH (i:=a) (by simp at h1;lia) (by simp at h2;lia);have n2:=WH (i:=b) (by simp at h3;lia) (by simp at h4;lia);unfold vW;cases c
 ·refine⟨?_,by simp⟩;dsimp only;rw[YC];exact fc K9 (fc n1 (fc n2 λ_ h=>nomatch h))
 ·refine⟨?_,by simp⟩;dsimp only;rw[FA rfl];exact fc K9 (fc n1 (fc n2 (fc v2a λ_ h=>nomatch h)))
def J_(h:kR f):"G"|||n+2|||[.sh (toD f)]|||.s (LA (vW f)):=by
 exists Q3
 obtain⟨a,b,c⟩:=f;obtain⟨h1,h2,h3,h4⟩:=h;have k1:=vE (i:=a) (by simp at h1;lia) (by simp at h2;lia);have k2:=vE (i:=b) (by simp at h3;lia) (by simp at h4;lia);have w1:=WH (i:=a) (by simp at h1;lia) (by simp at h2;lia);have w2:=WH (i:=b) (by simp at h3;lia) (by simp at h4;lia);have ng:∀w∈[D.str "voice",.int a,.int b].map wd,WO w:=fc K9 (fc w1 (fc w2 λ_ h=>nomatch h))
 have hr:=qQ (W:=W) (n:=n) (s:=.sh (.l [.str "voice",.int a,.int b])) (.inl rfl) (fc WJ (fc k1.s (fc k2.s λ_ h=>nomatch h))) ng (by simp);have ht:=(Hl ng (by simp)).1.len;replace hr:"c"|||n+1|||[.sh (.l [.str "voice",.int a,.int b])]|||.s (LA ["voice",num a,num b]):=hr;replace ht:(LA ["voice",num a,num b]).length<=2000:=ht;unfold toD vW;cases c
 ·dsimp only;rw[YC]
  generalize LA _=r at *
  right
 ·dsimp only;rw[FA rfl,<- k1a];have cC:((" turned":bA)).length=7:=by left
  have hb:=QJ (x:=LA ["voice",num a,num b]) (y:=" turned") (by lia)
  generalize LA _=r at *
  right
def lT(h0:n≠0):AD n=lC "," (QC n):=by unfold AD;rw[vB h0]
def eP(h:w∈QC n):∃k:Nat,k<12/\w=num (k:Int):=by
 unfold QC at h;obtain⟨k,hk,rfl⟩:=kC.mp h;exact⟨k,A0 hk,rfl⟩
def z0:∀w∈QC n,TG 3 w:=λw h=>by
 obtain⟨k,hk,rfl⟩:=eP h;exact(vE (by lia) (by lia)).tg
def GR(n:Nat):(QC n).length<=12:=by unfold QC;rw[YA];exact Vv n
def fZa(hn:n<4096):WO (AD n):=by
 by_cases h0:n=0
 ·subst h0;exact yH (w:=AD 0) (by left)
 ·rw[lT h0];have hl:=GR n;refine⟨(ZP aJ (by decide) z0 (by lia) (by decide)).1.up (JB 60),λz=>?_,λz=>?_,λz=>?_⟩
  ·rcases BS aJ z with h | ⟨w,h1,h2⟩
   ·cases h
   ·obtain⟨k,hk,rfl⟩:=eP h1;exact(vE (i:=(k:Int)) (by lia) (by lia)).uN h2
  ·rcases BS aJ z with h | ⟨w,h1,h2⟩
   ·cases h
   ·obtain⟨k,hk,rfl⟩:=eP h1;exact(vE (i:=(k:Int)) (by lia) (by lia)).PR h2
  ·rw[aJ,show lC ⟨#[44]⟩ (QC n)=DG ⟨#[44]⟩ (QC n) from NL _ _,CM] at z
   cases q:JH n with
   |nil=>exact B0 hn h0 q
   |cons k r =>
    unfold QC at z;rw[q] at z;have hk:k<12:=A0 (by rw[q];exact BE);exact P6 (yj (vE (i:=(k:Int)) (by lia) (by lia))) z
def jZa{W m n:Nat}(hn:n<4096):"H"|||m+1|||[.i (n:Int)]|||.s (AD n):=by
 exists T3
 by_cases h0:n=0
 ·subst h0;have e:decide (((0:Nat):Int)=0)=true:=rfl;have e2:AD 0="-":=rfl;rw[e2];clear hn e2
  right
 ·have e:decide ((n:Int)=0)=false:=zC (by lia)
  obtain⟨U',ec,t,rfl,ht⟩:=JR (tests:=IC T.aA (run T W m) [(.QA .Eq (.EA .BitAnd (.EA .RShift (.v 0) (.v 2)) (.c (.int 1))) (.c (.int 1)))]) (JA:=ev T.aA (run T W m) false Z1) (bind:=bB true [2]) (xs:=KC (n.log2+1))
   (λ(k:Nat)=>D.int (k:Int)) (IH n) (λ(k:Nat)=>D.str (num (k:Int))) (λU=>∃t,U=[.i (n:Int),.un,t]/\UB t=true)
   (λk hk U hU=>by
    obtain⟨t,rfl,ht⟩:=hU;have hk:k<n.log2+1:=QQ.mp hk;have hb:=aAL hn;have h1:(0:Int)<=(k:Int):=by lia
    have h2:=o1a n k;have h3:((k:Int)).toNat=k:=HJ k;have hs:=(vE (i:=(k:Int)) (by lia) (by lia)).s;refine⟨[.i (n:Int),.un,.i (k:Int)],[.i (n:Int),.un,.i (k:Int)],by simp only[qE,JC ht]<;>rfl, ?_,λ_=>⟨.s (num (k:Int)),[.i (n:Int),.un,.i (k:Int)], ?_,rfl,_,rfl,rfl⟩,λ_=>⟨_,rfl,rfl⟩⟩
    ·generalize IH n k=b at *
     clear hs hk hb e h0 hn ht;cases b<;>right
    ·unfold Z1
     generalize num (k:Int)=w at *
     right) (U:=[.i (n:Int),.un,.un]) ⟨_,rfl,rfl⟩
  have sAa:=Xv hn;rw[sAa] at ec;have l5:(JH n).map (λ(k:Nat)=>D.str (num (k:Int)))=(QC n).map D.str:=by unfold QC;rw[oG];rfl
  rw[l5] at ec;have hbl:=aAL hn;have hi:∀U,aAb .eE [.val (.i ((n.log2+1:Nat):Int))] U=some ((KC (n.log2+1)).map λ(j:Nat)=>.int (j:Int),none):=λU=>SW (by lia)
  have uI:ZZ (some (.int (n:Int)))=some (.i ((n.log2+1:Nat):Int)):=by(show some (RV.sh (.int ((OO (n:Int):Nat):Int)))=_;rw[Wv h0])
  have ho:=ON aJ (by decide) (B:=3) (N:=60) (ws:=QC n) z0 (by have:=GR n;lia) (by decide);have wG:yB ((QC n).map D.str).length=true:=yC (by rw[YA];have:=GR n;lia);rw[lT h0]
  generalize (QC n).map D.str=L at *
  generalize lC _ (QC n)=tx at *
  generalize n.log2+1=q at *
  right
  rw[IE (hi _)]
  right
  exfalso
noncomputable def yA(ws:List bA):D:=.l (ws.map D.str)
def om:List D->List bA
 |[.int a,.int b]=>[num a,AD b.toNat]
 |_=>[]
def rW:D->List bA
 |.t (.str x::ps)=>x::(if(x==("span":bA))=true then om ps else ps.map wd)
 |_=>[]
structure RT(d:D):Prop where
 sh:∀W n,"y"|||n+2|||[.sh d]|||.s (LA (rW d))
 tx:∀W n,"B"|||n+1|||[.sh d]|||.s (LA (rW d))
 wo:∀w∈rW d,WO w
 ln:(rW d).length<=20
 nv:∃x r,rW d=x::r/\(x==("voice":bA))=false
def Ll(hx:(x==("span":bA))=false)(hd:∀d∈D.str x::ps,rD .str [d]=some (.s (wd d)))(hw:∀w∈x::ps.map wd,WO w)(hl:ps.length<=10) :
  rW (.t (.str x::ps))=x::ps.map wd/\(∀W n,"y"|||n+2|||[.sh (.t (.str x::ps))]|||.s (LA (x::ps.map wd))) /\
  ∀W n,"B"|||n+1|||[.sh (.t (.str x::ps))]|||.s (LA (x::ps.map wd)):=by
 have AM:((D.str x::ps).map wd)=x::ps.map wd:=rfl;refine⟨?_,λW n=>?_,λW n=>?_⟩
 ·show x::(if(x == "span")=true then om ps else ps.map wd)=_;rw[hx,YC]
 ·exists VR
  have hr:=qQ (W:=W) (n:=n) (s:=.sh (.t (.str x::ps))) (.inr rfl) hd hw (by simp;lia);rw[AM] at hr
  generalize LA _=t at *
  right
 ·exists oM
  obtain⟨t,e⟩:=iY (W:=W) (n:=n) (el:=wV) rfl hd;have ho:=ON yF (by decide) (B:=60) (N:=2000) (ws:=(D.str x::ps).map wd) (λw h=>(hw w h).tg) (by rw[YA,fC];lia) (by decide);have wG:yB (((D.str x::ps).map wd).map D.str).length=true:=yC (by simp;lia);have hi:aAb .of [.slot 0] [.sh (.t (.str x::ps)),.un]=some (.str x::ps,none):=VP rfl;rw[<- AM];unfold LA
  generalize ((D.str x::ps).map wd).map D.str=L at *
  generalize lC _ ((D.str x::ps).map wd)=tx at *
  right
  rw[IE hi]
  right
  exfalso
def iT{is:List Int}(hx:(x==("span":bA))=false)(hz:(x==("voice":bA))=false)(hwx:WO x)(hi:∀i∈is,-60<=i/\i<=60)(hl:is.length<=10):RT (.t (.str x::is.map D.int)):=by
 have Qf:(is.map D.int).map wd=is.map num:=by rw[oG];rfl
 have hw:∀w∈x::(is.map D.int).map wd,WO w:=fc hwx (by
  rw[Qf];intro w hw;obtain⟨i,h,rfl⟩:=kC.mp hw
  exact WH (hi i h).1 (hi i h).2)
 obtain⟨h1,h2,h3⟩:=Ll (ps:=is.map D.int) hx (fc WJ λd hd=>by
  obtain⟨i,h,rfl⟩:=kC.mp hd
  exact(vE (hi i h).1 (hi i h).2).s) hw (by simpa using hl)
 rw[Qf] at h1 h2 h3 hw;exact⟨λW n=>by rw[h1];exact h2 W n,λW n=>by rw[h1];exact h3 W n,by rw[h1];exact hw,by rw[h1];simp;lia,⟨_,_,h1,hz⟩⟩
def pWa(ha:-60<=a/\a<=60)(hb:-60<=b/\b<=60)(hx:WO x):RT (.t [.str "never",.int a,.int b,.str x]):=by
 have k1:=vE ha.1 ha.2;have k2:=vE hb.1 hb.2;have w1:=WH ha.1 ha.2;have w2:=WH hb.1 hb.2;have n1:(("never":bA)==("span":bA))=false:=by left
 have hw:∀w∈("never":bA)::[D.int a,.int b,.str x].map wd,WO w:=fc (yH (by left)) (fc w1 (fc w2 (fc hx λ_ h=>nomatch h)))
 obtain⟨h1,h2,h3⟩:=Ll (x:="never") (ps:=[.int a,.int b,.str x]) n1 (fc WJ (fc k1.s (fc k2.s (fc WJ λ_ h=>nomatch h)))) hw (by simp);exact⟨λW n=>by rw[h1];exact h2 W n,λW n=>by rw[h1];exact h3 W n,by rw[h1];exact hw,by rw[h1];simp,⟨_,_,h1,by left⟩⟩
def ay:lC "," []=("":bA):=by left
def dNa{k:Nat}(h:k<12):(num (k:Int)).cps.toList≠[]:=by
 have:∀k<12,(num ((k:Nat):Int)).cps.toList.isEmpty=false:=by left
 intro z
 have:=this k h
 rw[z] at this;cases this
def cGa(hn:n<4096)(h0:n≠0):(lC "," (QC n)==("":bA))=false:=by
 rw[DJ];intro z;have e:=congrArg (λx:bA=>x.cps.toList) z;simp only[B7] at e;rw[aJ,show lC ⟨#[44]⟩ (QC n)=DG ⟨#[44]⟩ (QC n) from NL _ _,CM] at e
 cases hb:QC n with
 |nil=>exact B0 hn h0 (wO.mp hb)
 |cons w r =>
  obtain⟨k,hk,rfl⟩:=eP (by rw[hb];exact BE);rw[hb] at e
  cases r with
  |nil=>exact dNa hk e
  |cons v r =>
   have e:(num (k:Int)).cps.toList++44::jS 44 ((v::r).map λw=>w.cps.toList)=[]:=e;simp at e
def jJa{W m n:Nat}(hn:n<4096):∃t,XD (IC T.aA (run T W m) [(.QA .Eq (.EA .Mod (.EA .FloorDiv (.ix (.v 0) (.c (.int 2))) (.EA .LShift (.c (.int 1)) (.v 2))) (.c (.int 2))) (.c (.int 1)))]) (ev T.aA (run T W m) false xV) (bB true [2]) ((KC 12).map λ(j:Nat)=>.int (j:Int)) [] [.sh (.t [.str "span",.int a,.int (n:Int)]),.un,.un]=some (.ok ((QC n).map D.str),[.sh (.t [.str "span",.int a,.int (n:Int)]),.un,t]):=by
 obtain⟨U',ec,t,rfl,ht⟩:=JR (tests:=IC T.aA (run T W m) [(.QA .Eq (.EA .Mod (.EA .FloorDiv (.ix (.v 0) (.c (.int 2))) (.EA .LShift (.c (.int 1)) (.v 2))) (.c (.int 2))) (.c (.int 1)))]) (JA:=ev T.aA (run T W m) false xV) (bind:=bB true [2]) (xs:=KC 12)
   (λ(k:Nat)=>D.int (k:Int)) (IH n) (λ(k:Nat)=>D.str (num (k:Int))) (λU=>∃t,U=[.sh (.t [.str "span",.int a,.int (n:Int)]),.un,t]/\UB t=true)
   (λk hk U hU=>by
    obtain⟨t,rfl,ht⟩:=hU;have hk:k<12:=QQ.mp hk;have h1:(0:Int)<=(k:Int):=by lia
    have mH:(k:Int)<=1000:=by lia
    have h2:=Mo n k;have h3:((k:Int)).toNat=k:=HJ k;obtain⟨h4,h5⟩:=pw (j:=(k:Int)) h1 (by lia);rw[h3] at h4 h5;have hs:=(vE (i:=(k:Int)) (by lia) (by lia)).s;refine⟨[.sh (.t [.str "span",.int a,.int (n:Int)]),.un,.i (k:Int)],[.sh (.t [.str "span",.int a,.int (n:Int)]),.un,.i (k:Int)],by simp only[qE,JC ht]<;>rfl, ?_,λ_=>⟨.s (num (k:Int)),[.sh (.t [.str "span",.int a,.int (n:Int)]),.un,.i (k:Int)], ?_,rfl,_,rfl,rfl⟩,λ_=>⟨_,rfl,rfl⟩⟩
    ·generalize IH n k=b at *
     cases b<;>right
    ·unfold xV
     generalize num (k:Int)=w at *
     right) (U:=[.sh (.t [.str "span",.int a,.int (n:Int)]),.un,.un]) ⟨_,rfl,rfl⟩
 refine⟨t, ?_⟩;rw[ec];unfold QC JH;rw[oG];rfl
def Yl:YX i v U (some (.ow (.l (a::b::c::ds)) p false)) (.int 2)=some (.nx,U.set i (.ow (.l (a::b::v::ds)) p false)):=by
 refine wXa (m:=2) ?_;show L2.mE (ds.length+3) 2=some 2;unfold L2.mE;simp
 lia
def rWa{n:Nat}(ha:-60<=a/\a<=60)(hn:n<4096):RT (.t [.str "span",.int a,.int (n:Int)]):=by
 have k1:=vE ha.1 ha.2;have w1:=WH ha.1 ha.2;have n1:(("span":bA)==("span":bA))=true:=WC _
 have h1:rW (.t [.str "span",.int a,.int (n:Int)])=[("span":bA),num a,AD n]:=by(show("span":bA)::(if(("span":bA)==("span":bA))=true then [num a,AD ((n:Int)).toNat] else _)=_;rw[n1,FA rfl,HJ])
 have hw:∀w∈[("span":bA),num a,AD n],WO w:=fc (yH (by left)) (fc w1 (fc (fZa hn) λ_ h=>nomatch h))
 rw[show(["span",num a,AD n]:List bA)=[D.str "span",.int a,.str (AD n)].map wd from rfl] at hw;refine⟨λW m=>?_,λW m=>?_,by rw[h1];exact hw,by rw[h1];simp,⟨_,_,h1,by left⟩⟩
 ·rw[h1,qK (fn:=VR) rfl rfl rfl];unfold VR;have hr:=qQ (W:=W) (n:=m) (s:=.sh (.l [.str "span",.int a,.str (AD n)])) (.inl rfl) (fc WJ (fc k1.s (fc WJ λ_ h=>nomatch h))) hw (by simp);replace hr:"c"|||m+1|||[.sh (.l [.str "span",.int a,.str (AD n)])]|||.s (LA ["span",num a,AD n]):=hr;have hs:=jZa (W:=W) (m:=m) hn
  generalize LA _=t at *
  generalize AD n=p at *
  clear h1 hw ha hn k1 w1
  right
 ·rw[h1,qK (fn:=oM) rfl rfl rfl];obtain⟨t,e⟩:=iY (W:=W) (n:=m) (el:=wV) (ds:=[.str "span",.int a,.int (n:Int)]) rfl (fc WJ (fc k1.s (fc (wZa (by lia) (by lia)) λ_ h=>nomatch h)));replace e:XD (IC T.aA (run T W m) []) (ev T.aA (run T W m) false wV) (bB true [1]) [.str "span",.int a,.int (n:Int)] [] [.un,.un]=some (.ok [.str "span",.str (num a),.str (num (n:Int))],[.un,t]):=e;have hi:aAb .of [.slot 0] [.sh (.t [.str "span",.int a,.int (n:Int)]),.un]=some ([.str "span",.int a,.int (n:Int)],none):=VP rfl
  have hA:MA T.aA (run T W m) W (oM.body.take 1) ([.sh (.t [.str "span",.int a,.int (n:Int)])]++FC oM.nl .un)=some (.nx,[.sh (.t [.str "span",.int a,.int (n:Int)]),.o (.l [.str "span",.str (num a),.str (num (n:Int))])]):=by
   unfold oM
   right
   rw[IE hi]
   right
   exfalso
  rw[ZE hA];obtain⟨t2,e2⟩:=jJa (W:=W) (m:=m) (n:=n) (a:=a) hn;have JP:aAb .eE [.val (.i 12)] [.sh (.t [.str "span",.int a,.int (n:Int)]),.o (.l [.str "span",.str (num a),.str (num (n:Int))])]=some ((KC 12).map λ(j:Nat)=>.int (j:Int),none):=SW (k:=12) (by decide);have ho:=ON aJ (by decide) (B:=3) (N:=60) (ws:=QC n) z0 (by have:=GR n;lia) (by decide);have wG:yB ((QC n).map D.str).length=true:=yC (by rw[YA];have:=GR n;lia);have DW:=ON yF (by decide) (B:=60) (N:=2000) (ws:=[("span":bA),num a,AD n]) (λw h=>(hw w h).tg) (by simp) (by decide);have i2:∀{x y z:D},bE (some (.l [x,y,z])) (.int 2)=some (.sh z):=λ{_ _ _}=>rfl
  unfold oM LA;by_cases h0:n=0
  ·subst h0;have e3:QC 0=[]:=by left
   rw[e3] at ho e2 wG;rw[ay] at ho;have e4:AD 0="-":=rfl;rw[e4] at DW ⊢;have e5:(("":bA)==("":bA))=true:=WC _;have e6:([]:List bA).map D.str=[]:=rfl;have e7:[("span":bA),num a,("-":bA)].map D.str=[.str "span",.str (num a),.str "-"]:=rfl;rw[e6] at e2 ho wG;rw[e7] at DW
   generalize lC _ [("span":bA),num a,("-":bA)]=tx at *
   generalize num a=p at *
   generalize (KC 12).map (λ(j:Nat)=>D.int (j:Int))=R at *
   generalize num ((0:Nat):Int)=q at *
   have zI:=@Yl
   right
   rw[IE JP]
   right
   exfalso
  ·have e3:=cGa hn h0;have e4:=lT h0;rw[e4] at DW ⊢;have e7:[("span":bA),num a,lC "," (QC n)].map D.str=[.str "span",.str (num a),.str (lC "," (QC n))]:=rfl;rw[e7] at DW
   generalize lC _ [("span":bA),num a,lC "," (QC n)]=tx at *
   generalize lC "," (QC n)=ty at *
   generalize (QC n).map D.str=L at *
   generalize num a=p at *
   generalize (KC 12).map (λ(j:Nat)=>D.int (j:Int))=R at *
   generalize num (n:Int)=q at *
   have zI:=@Yl
   right
   rw[IE JP]
   right
   exfalso
def qWa(o2:oc<=12)(b2:ba<=4)(m2:ma<=3)(h:IG no ba oc ma d):RT d:=by
 cases h with
 |span a b h1 h2 h3 h4 =>
  obtain⟨n,rfl⟩:∃n:Nat,b=(n:Int):=⟨b.toNat,by lia⟩
  have hp:(2:Int) ^ oc.toNat<=4096:=by
   have h:oc.toNat<=12:=by lia
   have h3:2 ^ oc.toNat<=2 ^ 12:=QL (by decide) h
   exact_mod_cast h3
  exact rWa ⟨by lia,by lia⟩ (by lia)
 |leap a h1 h2=>exact iT (x:="leap") (is:=[a]) (by left) (by left) (yH (by left)) (fc ⟨by lia,by lia⟩ λ_ h=>nomatch h) (by simp)
 |back a b h1 h2 h3 h4=>exact iT (x:="back") (is:=[a,b]) (by left) (by left) (yH (by left)) (fc ⟨by lia,by lia⟩ (fc ⟨by lia,by lia⟩ λ_ h=>nomatch h)) (by simp)
 |again a h1 h2=>exact iT (x:="again") (is:=[a]) (by left) (by left) (yH (by left)) (fc ⟨by lia,by lia⟩ λ_ h=>nomatch h) (by simp)
 |range a b h1 h2 h3=>exact iT (x:="range") (is:=[a,b]) (by left) (by left) (yH (by left)) (fc ⟨by lia,by lia⟩ (fc ⟨by lia,by lia⟩ λ_ h=>nomatch h)) (by simp)
 |above v w h1 h2 h3=>exact iT (x:="above") (is:=[(v:Int),(w:Int)]) (by left) (by left) (yH (by left)) (fc ⟨by lia,by lia⟩ (fc ⟨by lia,by lia⟩ λ_ h=>nomatch h)) (by simp)
 |never a b x h1 h2 h3 h4 h5 =>
  refine pWa ⟨by lia,by lia⟩ ⟨by lia,by lia⟩ ?_;rcases h5 with rfl | rfl | rfl | rfl<;>exact yH (by left)
def xM(no ba oc:Int):List (List bA):=[[("notes":bA),num no],[("bar":bA),num ba],[("octave":bA),num oc]]
abbrev FD:=(Int×Int×Bool) ⊕ D
def NT:FD->List bA
 |.inl f=>vW f
 |.inr d=>rW d
noncomputable def RR(fs:List (Int×Int×Bool))(rs:List D):List FD:=fs.map .inl++rs.map .inr
def hW(no ba oc:Int)(fs:List (Int×Int×Bool))(rs:List D):List (List bA):=xM no ba oc++(RR fs rs).map NT
def RB(no ba oc:Int)(fs:List (Int×Int×Bool))(rs:List D):bA:=lC "\n" ((hW no ba oc fs rs).map LA)
structure HX(no ba oc:Int)(fs:List (Int×Int×Bool))(rs:List D):Prop where
 ho:jc no ba oc fs
 rr:mWa no ba oc fs.length rs
def HX.r(h:HX no ba oc fs rs):∀d∈rs,RT d:=λd hd=>qWa h.ho.o2 h.ho.b2 (by have:=h.ho.l2;lia) (h.rr.2 d hd)
theorem HX.hd(h:HX no ba oc fs rs):YL no/\YL ba/\YL oc/\WO (num no)/\WO (num ba)/\WO (num oc):=by
 obtain⟨n1,n2,b1,b2,o1,o2,_⟩:=h.ho;exact⟨vE (by lia) (by lia),vE (by lia) (by lia),vE (by lia) (by lia),WH (by lia) (by lia),WH (by lia) (by lia),WH (by lia) (by lia)⟩
theorem HX.wo(h:HX no ba oc fs rs):∀ws∈hW no ba oc fs rs,(∀w∈ws,WO w)/\ws.length<=20/\ws≠[]:=by
 obtain⟨_,_,_,w1,w2,w3⟩:=h.hd;obtain⟨l1,l2,l3⟩:=zp;intro ws hm;rcases iI.mp hm with hm | hm
 ·unfold xM at hm;simp only[eD,List.not_mem_nil,or_false] at hm;rcases hm with rfl | rfl | rfl
  ·exact⟨fc l1 (fc w1 λ_ h=>nomatch h),by simp,by simp⟩
  ·exact⟨fc l2 (fc w2 λ_ h=>nomatch h),by simp,by simp⟩
  ·exact⟨fc l3 (fc w3 λ_ h=>nomatch h),by simp,by simp⟩
 ·obtain⟨x,hx,rfl⟩:=kC.mp hm;rcases iI.mp hx with hx | hx
  ·obtain⟨f,hf,rfl⟩:=kC.mp hx;exact⟨(bp (h.ho.f f hf)).1,(bp (h.ho.f f hf)).2,by unfold NT vW;simp⟩
  ·obtain⟨d,hd,rfl⟩:=kC.mp hx;obtain⟨x,r,e,_⟩:=(h.r d hd).nv;exact⟨(h.r d hd).wo,(h.r d hd).ln,by show rW d≠[];rw[e];simp⟩
def HX.row(h:HX no ba oc fs rs):∀w∈(hW no ba oc fs rs).map LA,TG 2000 w/\10 ∉ w.cps.toList:=λw hw=>by
 obtain⟨ws,hm,rfl⟩:=kC.mp hw;exact Hl (h.wo ws hm).1 (h.wo ws hm).2.1
def HX.len(h:HX no ba oc fs rs):(hW no ba oc fs rs).length=3+(fs.length+rs.length)/\fs.length<=3/\rs.length<=8:=by
 refine⟨?_,h.ho.l2,h.rr.1⟩;unfold hW xM RR;simp
 lia
def HX.zG(h:HX no ba oc fs rs):UW "\n" (some (.l (((hW no ba oc fs rs).map LA).map D.str)))=some (.s (RB no ba oc fs rs))/\jC (RB no ba oc fs rs)=true:=by
 obtain⟨l1,l2,l3⟩:=h.len;refine⟨ON DM (by decide) (B:=2000) (N:=100000) (λw hw=>(h.row w hw).1) (by rw[YA,l1];lia) (by decide), ?_⟩;exact nK (ZP DM (by decide) (B:=2000) (N:=100000) (λw hw=>(h.row w hw).1) (by rw[YA,l1];lia) (by decide)).1.asc
def J5(h:HX no ba oc fs rs) :
  "q"|||n+3|||[.sh ()]|||.s (RB no ba oc fs rs):=by
 exists R3
 obtain⟨k1,k2,k3,w1,w2,w3⟩:=h.hd;obtain⟨v1,v2,v3⟩:=zp;obtain⟨l1,l2,l3⟩:=h.len;have r1:=qQ (W:=W) (n:=n+1) (s:=.sh (.l [.str "notes",.int no])) (.inl rfl) (fc WJ (fc k1.s λ_ h=>nomatch h)) (fc v1 (fc w1 λ_ h=>nomatch h)) (by simp);have r2:=qQ (W:=W) (n:=n+1) (s:=.sh (.l [.str "bar",.int ba])) (.inl rfl) (fc WJ (fc k2.s λ_ h=>nomatch h)) (fc v2 (fc w2 λ_ h=>nomatch h)) (by simp);have r3:=qQ (W:=W) (n:=n+1) (s:=.sh (.l [.str "octave",.int oc])) (.inl rfl) (fc WJ (fc k3.s λ_ h=>nomatch h)) (fc v3 (fc w3 λ_ h=>nomatch h)) (by simp)
 obtain⟨U1,e1,t1,rfl,EW⟩:=TK (P:=T.aA) (C:=run T W (n+2)) (JA:=ev T.aA (run T W (n+2)) false V1) (bind:=bB true [1]) (xs:=fs) toD (λf=>D.str (LA (vW f))) (λU=>∃t,U=[.un,t]/\UB t=true)
  (λf hf U hU=>by
   obtain⟨t,rfl,ht⟩:=hU;have hr:=J_ (W:=W) (n:=n) (h.ho.f f hf);refine⟨[.un,.sh (toD f)],.s (LA (vW f)),[.un,.sh (toD f)],by simp only[qE,JC ht]<;>rfl, ?_,rfl,_,rfl,rfl⟩;unfold V1
   generalize LA _=p at *
   generalize toD f=q at *
   right) (U:=[.un,.un]) ⟨_,rfl,rfl⟩
 obtain⟨U2,e2,t2,rfl,dg⟩:=TK (P:=T.aA) (C:=run T W (n+2)) (JA:=ev T.aA (run T W (n+2)) false X1) (bind:=bB true [1]) (xs:=rs) id (λd=>D.str (LA (rW d))) (λU=>∃t,U=[.un,t]/\UB t=true)
  (λd hd U hU=>by
   obtain⟨t,rfl,ht⟩:=hU;have hr:=(h.r d hd).sh W n;refine⟨[.un,.sh d],.s (LA (rW d)),[.un,.sh d],by simp only[qE,JC ht]<;>rfl, ?_,rfl,_,rfl,rfl⟩;unfold X1
   generalize LA _=p at *
   right) (U:=[.un,.un]) ⟨_,rfl,rfl⟩
 rw[VQ] at e2;have K4:=h.zG.1
 have xG:((hW no ba oc fs rs).map LA).map D.str=D.str (LA ["notes",num no])::.str (LA ["bar",num ba])::.str (LA ["octave",num oc])::(fs.map (λf=>D.str (LA (vW f)))++rs.map (λd=>D.str (LA (rW d)))):=by(unfold hW xM RR;simp[NT,KY])
 rw[xG] at K4;have i3:∀U,aAb .of [.val (.sh (.t (fs.map toD)))] U=some (fs.map toD,none):=λU=>K6 rfl
 have i4:∀U,aAb .of [.val (.sh (.t rs))] U=some (rs,none):=λU=>K6 rfl
 have x0:bE (some ()) (.int 0)=some (.i no):=rfl;have x1:bE (some ()) (.int 1)=some (.i ba):=rfl;have x2:bE (some ()) (.int 2)=some (.i oc):=rfl;have x3:bE (some ()) (.int 3)=some (.sh (.t (fs.map toD))):=rfl;have x4:bE (some ()) (.int 4)=some (.sh (.t rs)):=rfl;have m1:yB (fs.map (λf=>D.str (LA (vW f)))).length=true:=yC (by rw[YA];lia);have m2:yB (rs.map (λd=>D.str (LA (rW d)))).length=true:=yC (by rw[YA];lia);replace r1:"c"|||n+1+1|||[.sh (.l [.str "notes",.int no])]|||.s (LA ["notes",num no]):=r1;replace r2:"c"|||n+1+1|||[.sh (.l [.str "bar",.int ba])]|||.s (LA ["bar",num ba]):=r2;replace r3:"c"|||n+1+1|||[.sh (.l [.str "octave",.int oc])]|||.s (LA ["octave",num oc]):=r3
 generalize hF:fs.map (λf=>D.str (LA (vW f)))=F at *
 generalize hR:rs.map (λd=>D.str (LA (rW d)))=R at *
 have lF:F.length<=3:=by rw[<- hF,YA];exact l2
 have lR:R.length<=8:=by rw[<- hR,YA];exact l3
 generalize LA ["notes",num no]=q1 at *
 generalize LA ["bar",num ba]=q2 at *
 generalize LA ["octave",num oc]=q3 at *
 have m3:yB (3+F.length)=true:=yC (by lia);have m4:yB (([D.str q1,.str q2,.str q3]++F).length+R.length)=true:=yC (by simp;lia);have m5:yB (3+F.length+R.length)=true:=yC (by lia);have m6:yB (F.length+3+R.length)=true:=yC (by lia)
 generalize RB no ba oc fs rs=tt at *
 generalize ()=hh at *
 generalize fs.map toD=V at *
 right
 rw[IE (i3 _)]
 right
 exfalso
 all_goals (try (rw[IE (i4 _)];right))
 exfalso
def TN:D->D
 |.t [.int a,.int b,.bl c]=>.str (LA (vW (a,b,c)))
 |_=>.rA
def Vu:L2.aD [a,b] (if c=true then 1 else 0)=some (if c=true then b else a):=by cases c<;>rfl
def hDa:(if c=true then D.str x else D.str y)=.str (if c=true then x else y):=by cases c<;>rfl
def SS(h:YL i):(num i).length<=3:=h.tg.len
def aAH{x y:bA}:(x++y).length=x.length+y.length:=by
 show(x.cps++y.cps).size=_;simp;rfl
def bKa:("voice ":bA).length=6/\(" ":bA).length=1/\(" turned":bA).length=7/\("":bA).length=0/\("notes ":bA).length=6/\("bar ":bA).length=4/\("octave ":bA).length=7:=by left
def p1a(h:HX no ba oc fs rs) :
  "N"|||n+2|||[.sh ()]|||.s (RB no ba oc fs rs):=by
 rw[qK (fn:=xN) rfl rfl rfl];obtain⟨k1,k2,k3,w1,w2,w3⟩:=h.hd;obtain⟨l1,l2,l3⟩:=h.len;obtain⟨z1,z2,z3,z4,z5,z6,z7⟩:=bKa
 have hA:MA T.aA (run T W (n+1)) W (xN.body.take 2) ([.sh ()]++FC xN.nl .un)=some (.nx,[.sh (),.i no,.i ba,.i oc,.sh (.t (fs.map toD)),.sh (.t rs),.o (.l [.str (LA ["notes",num no]),.str (LA ["bar",num ba]),.str (LA ["octave",num oc])]),.un,.un,.un]):=by
  unfold xN AW;have s1:=k1.s;have s2:=k2.s;have s3:=k3.s;have b1:=QJ (x:="notes ") (y:=num no) (by have:=SS k1;lia);have b2:=QJ (x:="bar ") (y:=num ba) (by have:=SS k2;lia);have b3:=QJ (x:="octave ") (y:=num oc) (by have:=SS k3;lia);rw[yT eJa] at b1;rw[yT yIa] at b2;rw[yT fJa] at b3
  generalize LA ["notes",num no]=q1 at *
  generalize LA ["bar",num ba]=q2 at *
  generalize LA ["octave",num oc]=q3 at *
  right
 rw[ZE hA]
 generalize hq1:D.str (LA ["notes",num no])=q1 at *
 generalize hq2:D.str (LA ["bar",num ba])=q2 at *
 generalize hq3:D.str (LA ["octave",num oc])=q3 at *
 obtain⟨U1,el,t7,t8,t9,rfl,ht7,ht8,ht9⟩:=dX (bind:=bB false [7,8,9]) (body:=MA T.aA (run T W (n+1)) W NZ)
  (λpre U=>∃t7 t8 t9,U=[.sh (),.i no,.i ba,.i oc,.sh (.t (fs.map toD)),.sh (.t rs),.o (.l (q1::q2::q3::pre.map TN)),t7,t8,t9]/\UB t7=true/\UB t8=true/\UB t9=true)
  (ds:=fs.map toD) (λpre d post XF U hU=>by
   obtain⟨t7,t8,t9,rfl,h7,h8,h9⟩:=hU
   have yD:pre.length<=3:=by
    have:=congrArg CU XF
    simp at this
    lia
   obtain⟨f,hf,rfl⟩:∃f∈fs,toD f=d:=kC.mp (by rw[XF];simp)
   obtain⟨a,b,c⟩:=f;obtain⟨f1,f2,f3,f4⟩:=h.ho.f _ hf;have j1:=vE (i:=a) (by simp at f1;lia) (by simp at f2;lia);have j2:=vE (i:=b) (by simp at f3;lia) (by simp at f4;lia);have s1:=j1.s;have s2:=j2.s;have g1:=SS j1;have g2:=SS j2;refine⟨[.sh (),.i no,.i ba,.i oc,.sh (.t (fs.map toD)),.sh (.t rs),.o (.l (q1::q2::q3::pre.map TN)),.i a,.i b,.b c],by unfold toD;simp only[qE,JC h7,JC h8,JC h9]<;>rfl, ?_⟩;have b1:=QJ (x:="voice ") (y:=num a) (by lia);have e1:("voice " ++ num a).length<=9:=by rw[aAH];lia
   have b2:=QJ (x:="voice " ++ num a) (y:=" ") (by lia);have e2:(("voice " ++ num a) ++ " ").length<=10:=by rw[aAH];lia
   have b3:=QJ (x:=("voice " ++ num a) ++ " ") (y:=num b) (by lia);have e3:((("voice " ++ num a) ++ " ")++num b).length<=13:=by rw[aAH];lia
   have e4:(if c=true then(" turned":bA) else("":bA)).length<=7:=by cases c<;>simp<;>lia
   have b4:=QJ (x:=(("voice " ++ num a) ++ " ")++num b) (y:=if c=true then(" turned":bA) else("":bA)) (by lia);rw[l1a] at b4;have zM:TN (toD (a,b,c))=.str (LA (vW (a,b,c))):=rfl;have hvw:LA (("voice":bA)::num a::num b::(if c=true then [("turned":bA)] else []))=LA (vW (a,b,c)):=rfl;rw[hvw] at b4;rw[TY,pD,JO,zM];have nW:=Vu (a:=D.str "") (b:=D.str " turned") (c:=c);rw[hDa] at nW;have wG:yB ((q1::q2::q3::pre.map TN).length+1)=true:=yC (by simp;lia);have v4a:yB ((pre.map TN).length+4)=true:=yC (by simp;lia)
   generalize (if c=true then(" turned":bA) else("":bA))=tu at *
   generalize ((("voice " ++ num a) ++ " ")++num b)=x4 at *
   generalize (("voice " ++ num a) ++ " ")=x3 at *
   generalize ("voice " ++ num a)=x2 at *
   generalize num a=na at *
   generalize num b=nb at *
   generalize LA (vW (a,b,c))=rw1 at *
   generalize pre.map TN=PL at *
   generalize ()=hh at *
   generalize fs.map toD=V at *
   unfold NZ
   right
   exact⟨_,rfl,_,_,_,rfl,rfl,rfl,rfl⟩)
  (U:=[.sh (),.i no,.i ba,.i oc,.sh (.t (fs.map toD)),.sh (.t rs),.o (.l [q1,q2,q3]),.un,.un,.un]) ⟨_,_,_,rfl,rfl,rfl,rfl⟩
 have l5:(fs.map toD).map TN=fs.map λf=>D.str (LA (vW f)):=by rw[oG];rfl
 rw[l5] at el
 obtain⟨U2,e2,t2,rfl,dg⟩:=TK (P:=T.aA) (C:=run T W (n+1)) (JA:=ev T.aA (run T W (n+1)) false K1) (bind:=bB true [1]) (xs:=rs) id (λd=>D.str (LA (rW d))) (λU=>∃t,U=[.un,t]/\UB t=true)
  (λd hd U hU=>by
   obtain⟨t,rfl,ht⟩:=hU;have hr:=(h.r d hd).tx W n;refine⟨[.un,.sh d],.s (LA (rW d)),[.un,.sh d],by simp only[qE,JC ht]<;>rfl, ?_,rfl,_,rfl,rfl⟩;unfold K1
   generalize LA _=p at *
   right) (U:=[.un,.un]) ⟨_,rfl,rfl⟩
 rw[VQ] at e2;have K4:=h.zG.1
 have xG:((hW no ba oc fs rs).map LA).map D.str=D.str (LA ["notes",num no])::.str (LA ["bar",num ba])::.str (LA ["octave",num oc])::(fs.map (λf=>D.str (LA (vW f)))++rs.map (λd=>D.str (LA (rW d)))):=by(unfold hW xM RR;simp[NT,KY])
 rw[xG,hq1,hq2,hq3] at K4;have m2:yB (rs.map (λd=>D.str (LA (rW d)))).length=true:=yC (by rw[YA];lia);have m3:yB ((q1::q2::q3::fs.map (λf=>D.str (LA (vW f)))).length+(rs.map (λd=>D.str (LA (rW d)))).length)=true:=yC (by simp;lia);have b5:=XI m3;have i4:∀U,aAb .of [.val (.sh (.t (fs.map toD)))] U=some (fs.map toD,none):=λU=>K6 rfl
 have i4':aAb .of [.slot 4] [.sh (),.i no,.i ba,.i oc,.sh (.t (fs.map toD)),.sh (.t rs),.o (.l [q1,q2,q3]),.un,.un,.un]=some (fs.map toD,none):=VP rfl;have i5:aAb .of [.slot 5] [.sh (),.i no,.i ba,.i oc,.sh (.t (fs.map toD)),.sh (.t rs),.o (.l (q1::q2::q3::fs.map λf=>D.str (LA (vW f)))),t7,t8,t9]=some (rs,none):=VP rfl
 generalize fs.map (λf=>D.str (LA (vW f)))=F at *
 generalize rs.map (λd=>D.str (LA (rW d)))=R at *
 generalize RB no ba oc fs rs=tt at *
 generalize ()=hh at *
 generalize fs.map toD=V at *
 unfold xN
 right
 rw[IE i5]
 right
 exfalso
theorem Se{l:List Nat}:∀m,a+m<=l.length->(KC m).filterMap (λk=>l[a+k]?)=(l.drop a).take m
 | 0,_=>rfl
 |m+1,h=>by(have e:l[a+m]?=some (l[a+m]'(by lia)):=MD (by lia);rw[pb,List.filterMap_append,Se m (by lia),Mr,Vq];simp[e])
def tnI{x L:Nat}:(if(x:Int)<L then((L:Int)-x+1-1) / 1 else 0).toNat=L-x:=by
 rw[Int.add_sub_cancel,Int.ediv_one]
 split<;>lia
def mmI{a L:Nat}:max 0 (min (a:Int) L)=((min a L:Nat):Int):=by lia
def ZX{a:Nat}:(RD w (some (a:Int)) none).cps.toList=w.cps.toList.drop a:=by
 have hl:w.cps.toList.length=w.length:=bH
 have e:P9 (some (a:Int)) none 1 w.length=(KC (w.length-min a w.length)).map (min a w.length+·):=by
  unfold P9 sliceRange;simp only[show(1:Int) > 0 by decide,if_true,vB (show ¬(a:Int)<0 by lia)];rw[mmI,tnI];refine xO λk _=>?_
  generalize min a w.length=x
  lia
 have k:((P9 (some (a:Int)) none 1 w.length).filterMap (w.cps[·]?))=w.cps.toList.drop a:=by
  rw[e,Nq]
  have:=Se (l:=w.cps.toList) (a:=min a w.length) (w.length-min a w.length) (by lia)
  simp only[Dq] at this;refine Eq.trans this ?_;by_cases h:a<=w.length
  ·rw[qU h,bN (by rw[IJ];lia)]
  ·rw[NY (by lia),aU (by lia),aU (by lia),wU]
 unfold RD;split
 ·rename_i h;rw[qA,vD] at h;have h2:=uB h.2;rw[e,YA,ir] at h2;by_cases h3:w.length=0
  ·rw[W9.mp (hl.trans h3),List.drop_nil]
  ·rw[show a=0 by lia];rfl
 ·exact k
noncomputable def aAE:List Nat->Bool
 |c::_=>c==45
 |[]=>false
def iD(l:List Nat):List Nat:=if aAE l then l.drop 1 else l
def b0a:BO w "-"=aAE w.cps.toList:=by
 obtain⟨⟨l⟩⟩:=w;have e:("-":bA)=⟨#[45]⟩:=by left
 rw[e];unfold BO Builtin.Str.subAt
 cases l with
 |nil=>rfl
 |cons c r =>
  have h:(0+(⟨#[45]⟩:bA).length<=(⟨⟨c::r⟩⟩:bA).length):=by show 0+1<=r.length+1;lia
  rw[GC h,XM];show((⟨c::r⟩:Array Nat).extract 0 1 == #[45])=(c==45)
  have:(⟨c::r⟩:Array Nat).extract 0 1=#[c]:=by simp
  rw[this];by_cases q:c=45
  ·subst q;rfl
  ·rw[DJ.mpr q,DJ.mpr (λz=>q (by simpa using z))]
def bJ:(EB w).cps.toList=iD w.cps.toList:=by
 unfold EB iD;rw[b0a];split
 ·exact ZX (a:=1)
 ·rfl
def Oe:∀c<128,lH c=(decide (48<=c)&&decide (c<=57)):=by left
def DI(l:List Nat):Bool:=decide (1<=l.length)&&(decide (l.length<=60)&&l.all lH)
def vL(l:List Nat):Int:=if aAE l then -((RL (iD l):Nat):Int) else((RL (iD l):Nat):Int)
def YH(w:bA):Option Int:=if DI (iD w.cps.toList)=true then(if num (vL w.cps.toList)=w then some (vL w.cps.toList) else none) else none
def GA(w:bA):D:=match YH w with
 |some n=>.int n
 |none=>.rA
def wVa(h:YH w=some n):num n=w:=by
 unfold YH at h;split at h
 ·split at h
  ·cases h;assumption
  ·cases h
 ·cases h
def lN{w:bA}(h:w.cps.all (·<128)=true):∀c∈w.cps.toList,c<128:=λc hc=>by
 rw[OI] at h;exact TM (h c (by simpa using hc))
def N2(h:c∈iD l):c∈l:=by
 unfold iD at h;split at h
 ·exact oa h
 ·exact h
def K2:(iD l).length<=l.length/\l.length<=(iD l).length+1:=by
 unfold iD;split
 ·rw[IJ];lia
 ·lia
def Kj(ha:∀c∈l,c<128)(h:DI l=true):nr l/\l≠[]/\l.length<=60:=by
 unfold DI at h;simp only[qA,vF] at h;refine⟨λc hc=>?_,λz=>?_,h.2.1⟩
 ·have:=jF.mp h.2.2 c hc
  rw[Oe c (ha c hc)] at this;simpa using this
 ·rw[z] at h;simp at h
def Hg(ha:w.cps.all (·<128)=true)(h:DI (iD w.cps.toList)=true):intText? w=some (vL w.cps.toList)/\intText? (EB w)=some ((RL (iD w.cps.toList):Nat):Int):=by
 obtain⟨h1,h2,h3⟩:=Kj (λc hc=>lN ha c (N2 hc)) h;have hl:w.cps.toList.length=w.length:=bH;have hf:(EB w).cps.toList.length=(EB w).length:=bH;have l1:=K2 (l:=w.cps.toList)
 have i2:intText? (EB w)=some ((RL (iD w.cps.toList):Nat):Int):=by
  have:=intText_digits (x:=EB w) (by rw[bJ];exact h1) (by rw[bJ];exact h2) (by rw[<- hf,bJ];lia)
  rwa[bJ] at this
 refine⟨?_,i2⟩
 cases hn:aAE w.cps.toList with
 |false =>
  have e:iD w.cps.toList=w.cps.toList:=by unfold iD;rw[hn];rfl
  have e2:EB w=w:=aAz (by rw[bJ,e]);rw[e2] at i2;rw[i2];unfold vL;rw[hn];rfl
 |true =>
  have e:iD w.cps.toList=w.cps.toList.drop 1:=by unfold iD;rw[hn];rfl
  have e3:w.cps.toList=45::w.cps.toList.drop 1:=by
   cases q:w.cps.toList with
   |nil=>rw[q] at hn;cases hn
   |cons c r=>rw[q] at hn;rw[uB (show(c==45)=true from hn)];rfl
  rw[e] at h1 h2;rw[intText_neg e3 h1 h2 (by lia)];unfold vL;rw[hn,e];rfl
theorem me:∀(l:List Nat) (a:Nat),nr l->l.foldl (λiB c=>iB*10+(c-48)) a<(a+1)*10 ^ l.length
 |[],a,_=>by simp
 |c::l,a,h=>by(have h1:=h.head;have ih:=me l (a*10+(c-48)) h.tail;rw[qb,fC];refine iE ih ?_;rw[Nat.pow_succ,Nat.mul_comm (10 ^ l.length) 10,<- Nat.mul_assoc];exact Nat.mul_le_mul_right _ (by lia))
def zj(n:Nat):num (Int.negSucc n)=kA "-" ++ num ((n+1:Nat):Int):=by
 refine aAz ?_;unfold num;rw[tG,EY,EY,EY];simp only[List.toList_toArray];rw[show(toString (Int.negSucc n)).toList='-'::(toString ((n+1:Nat):Int)).toList from ?_]
 ·rfl
 ·show("-" ++ (n+1).repr).toList=_;rw[String.toList_append];rfl
def wX(i:Int):(num i).cps.all (·<128)=true:=by
 cases i with
 |ofNat n=>exact S7 n
 |negSucc n =>
  have e:=zj n;rw[OI];intro x hx;have hx:x∈(num (Int.negSucc n)).cps.toList:=by simpa using hx
  rw[e,tG] at hx;rcases iI.mp hx with hx | hx
  ·have e2:(kA "-").cps.toList=[45]:=by left
   rw[e2] at hx;rw[uF.mp hx];decide
  ·have:=lN (S7 (n+1)) x hx
   exact GC this
def zZa{w:bA}(ha:w.cps.all (·<128)=true)(h:DI (iD w.cps.toList)=true):rD .str [.int (vL w.cps.toList)]=some (.s (num (vL w.cps.toList))):=by
 obtain⟨h1,h2,h3⟩:=Kj (λc hc=>lN ha c (N2 hc)) h;refine MV ?_ (nK (wX _));have e:(vL w.cps.toList).natAbs=RL (iD w.cps.toList):=by unfold vL;split<;>lia
 rw[e];have hb:=me _ 0 h1;have hp:10 ^ (iD w.cps.toList).length<=10 ^ 60:=QL (by decide) h3;have hb:RL (iD w.cps.toList)<10 ^ 60:=by unfold RL;lia
 by_cases h0:RL (iD w.cps.toList)=0
 ·rw[h0];decide
 ·rw[DU h0];exact iE hb (lD (show 10 ^ 60<=2 ^ 200 by decide) (QL (i:=200) (j:=1920) (by decide) (by decide)))
def jl(h:YL i):YH (num i)=some i:=by
 have h1:DI (iD (num i).cps.toList)=true:=by
  have:=h.l1
  have:=h.l2
  have hf:(EB (num i)).cps.toList.length=(EB (num i)).length:=bH;rw[bJ] at hf;have h4:=h.ff;rw[bJ] at h4;unfold DI;rw[h4,GC (by lia),GC (by lia)];rfl
 have h2:=(Hg h.tg.asc h1).1;rw[h.it] at h2;have h2:=wF h2;unfold YH;rw[FA h1,<- h2,FA rfl]
theorem Nw:mC .In (.str ⟨#[c]⟩) (.str "0123456789")=some (lH c):=rfl
def w_{Z:List Nat}:rD .all [.l (Z.map λz=>.bl (p z))]=some (.b (Z.all p)):=by
 have h:jH (Z.map λz=>D.bl (p z))=some (Z.map p):=by
  induction Z with
  |nil=>rfl
  |cons a r ih =>
   show(jH (r.map λz=>D.bl (p z))).map (p a :: ·)=_;rw[ih];rfl
 show(jH _).map _=_;rw[h];simp[TQ,KY]
def fYa:∃t,XD (IC T.aA (run T W n) []) (ev T.aA (run T W n) false zV) (bB true [1]) (vK fg) [] [.un,.un]=some (.ok (fg.cps.toList.map λc=>.bl (lH c)),[.un,t]):=by
 obtain⟨U',e,t,rfl,ht⟩:=TK (P:=T.aA) (C:=run T W n) (JA:=ev T.aA (run T W n) false zV) (bind:=bB true [1]) (xs:=fg.cps.toList) (λc=>D.str ⟨#[c]⟩) (λc=>D.bl (lH c)) (λU=>∃t,U=[.un,t]/\UB t=true)
  (λc hc U hU=>by
   obtain⟨t,rfl,ht⟩:=hU;have Lf:=Nw (c:=c);refine⟨[.un,.s (⟨#[c]⟩)],.b (lH c),[.un,.s (⟨#[c]⟩)],by simp only[qE,JC ht]<;>rfl, ?_,rfl,_,rfl,rfl⟩;unfold zV
   right) (U:=[.un,.un]) ⟨_,rfl,rfl⟩
 exact⟨t,e⟩
def Q_(hw:TG N w):TG N (EB w):=by
 have h1:(EB w).cps.toList.length=(EB w).length:=bH;have h2:w.cps.toList.length=w.length:=bH;have h3:=K2 (l:=w.cps.toList);rw[bJ] at h1;refine⟨by have:=hw.len;lia, ?_⟩;rw[OI];intro x hx;have hx:x∈(EB w).cps.toList:=by simpa using hx
 rw[bJ] at hx;exact GC (lN hw.asc x (N2 hx))
def zVa(hw:TG 1000000 w):"I"|||n+1|||[.s w]|||.sh (GA w):=by
 rw[qK (fn:=ZJ) rfl rfl rfl];have hf:=Q_ hw;have AM:=hw.len;have IP:=hf.len
 have hA:MA T.aA (run T W n) W (ZJ.body.take 1) ([.s w]++FC ZJ.nl .un)=some (.nx,[.s w,.s (EB w),.un]):=by
  unfold ZJ
  cases hb:BO w "-" with
  |true =>
   have tW:RD w (some 1) none=EB w:=by unfold EB;rw[hb];rfl
   have P5:zE (some (.str w)) (some (.int 1)) none=some (.s (EB w)):=by(show iO (.str w) (some 1) none=_;rw[<- tW];exact S8 AM (by rw[tW];exact nK hf.asc))
   right
  |false =>
   have tW:EB w=w:=by unfold EB;rw[hb];rfl
   rw[tW]
   right
 rw[ZE hA];have Mf:(EB w).cps.toList.length=(EB w).length:=bH
 have IA:DI (iD w.cps.toList)=(decide (1<=(EB w).length)&&(decide ((EB w).length<=60)&&(EB w).cps.toList.all lH)):=by(unfold DI;rw[<- bJ,Mf])
 have cC:rD .len [.str (EB w)]=some (.i ((EB w).length:Int)):=FA IP;by_cases c1:1<=(EB w).length
 case neg =>
  have e1:decide ((1:Int)<=((EB w).length:Int))=false:=zC (by lia);have hr:GA w=.rA:=by unfold GA YH;rw[IA,zC c1];rfl
  rw[hr]
  generalize EB w=fg at *
  unfold ZJ
  right
 have e1:decide ((1:Int)<=((EB w).length:Int))=true:=GC (by lia);by_cases c2:(EB w).length<=60
 case neg =>
  have e2:decide (((EB w).length:Int)<=60)=false:=zC (by lia);have hr:GA w=.rA:=by unfold GA YH;rw[IA,zC c2,UY,sU];rfl
  rw[hr]
  generalize EB w=fg at *
  unfold ZJ
  right
 have e2:decide (((EB w).length:Int)<=60)=true:=GC (by lia);obtain⟨t1,hc⟩:=fYa (W:=W) (n:=n) (fg:=EB w);have hi:aAb .sig [.slot 1] [.s w,.s (EB w),.un]=some (vK (EB w),none):=dFa rfl hf.asc (nK hf.asc);have tM:=w_ (Z:=(EB w).cps.toList) (p:=lH);have wG:yB ((EB w).cps.toList.map λc=>D.bl (lH c)).length=true:=yC (by rw[YA,Mf];lia);rw[GC c1,GC c2,XM,XM] at IA
 cases c3:(EB w).cps.toList.all lH with
 |false =>
  rw[c3] at tM IA;have hr:GA w=.rA:=by unfold GA YH;rw[IA];rfl
  rw[hr]
  generalize ((EB w).cps.toList.map λc=>D.bl (lH c))=L at *
  generalize vK (EB w)=M at *
  generalize EB w=fg at *
  unfold ZJ
  right
  rw[IE hi]
  right
  exfalso
 |true =>
  rw[c3] at tM IA
  have iAa:w.length<=640:=by
   have h2:w.cps.toList.length=w.length:=bH;have h3:=K2 (l:=w.cps.toList);rw[<- bJ] at h3
   lia
  have Lf:=y_ iAa (Hg hw.asc IA).1;have RH:=zZa hw.asc IA
  have hr:GA w=if num (vL w.cps.toList)=w then .int (vL w.cps.toList) else .rA:=by
   unfold GA YH;rw[FA IA]
   split<;>(rename_i q;split at q<;>first | cases q | skip)<;>simp_all
  rw[hr]
  generalize ((EB w).cps.toList.map λc=>D.bl (lH c))=L at *
  generalize vK (EB w)=M at *
  generalize EB w=fg at *
  generalize vL w.cps.toList=m at *
  unfold ZJ;by_cases hq:num m=w
  ·have hqe:(num m==w)=true:=by rw[hq];exact WC w
   rw[FA hq]
   generalize num m=nm at *
   right
   rw[IE hi]
   right
   exfalso
  ·have hqe:(num m==w)=false:=by simpa using hq
   rw[vB hq]
   generalize num m=nm at *
   right
   rw[IE hi]
   right
   exfalso
def ZN(h:∀w∈ws,TG 1000000 w)(hl:ws.length<=1000000):"h"|||n+2|||[.sh (yA ws)]|||.ow (.l (ws.map GA)):=by
 exists N3
 obtain⟨U',e,t,rfl,ht⟩:=TK (P:=T.aA) (C:=run T W (n+1)) (JA:=ev T.aA (run T W (n+1)) false R1) (bind:=bB true [1]) (xs:=ws) D.str GA (λU=>∃t,U=[.un,t]/\UB t=true)
  (λw hw U hU=>by
   obtain⟨t,rfl,ht⟩:=hU;have hr:=zVa (W:=W) (n:=n) (h w hw);refine⟨[.un,.s w],.sh (GA w),[.un,.s w],by simp only[qE,JC ht]<;>rfl, ?_,rfl,_,rfl,rfl⟩;unfold R1
   generalize GA w=d at *
   right) (U:=[.un,.un]) ⟨_,rfl,rfl⟩
 have hi:aAb .of [.slot 0] [.sh (yA ws)]=some (ws.map D.str,none):=Rg rfl;have wG:yB (ws.map GA).length=true:=yC (by rw[YA];exact hl)
 unfold yA at *
 generalize ws.map D.str=A at *
 generalize ws.map GA=B at *
 right
 rw[IE hi]
 right
 exfalso
def dD:GA w=.rA\/∃i,GA w=.int i:=by
 unfold GA
 cases YH w with
 |none=>exact .inl rfl
 |some n=>exact .inr ⟨n,rfl⟩
def UK:fE (GA w)=true:=by rcases dD with h | ⟨i,h⟩<;>rw[h]<;>rfl
def VG(b:Bool)(d:D):Prop:=∀(W n:Nat),"D"|||n+3|||[.sh d]|||.b b
def RG(ba oc ma:Int)(b:Bool)(d:D):Prop:=∀(W n:Nat),"d"|||n+4|||[.i ba,.i oc,.i ma,.sh d]|||.b b
def OU(no ba oc:Int)(vs rs:List D):Prop:=∀(W n:Nat),"x"|||n+3|||[.i no,.i ba,.i oc,.p (.l vs),.p (.l rs)]|||.sh .rA
def gf(ha:fE a=true)(hb:fE b=true)(hc:fE c=true) :
  run T W (n+3) "x" [.sh a,.sh b,.sh c,.p (.l vs),.p (.l rs)]=some ((if qB 1 7 a&&(qB 1 4 b&&(qB 1 12 c&&(decide ((1:Int)<=vs.length)&&(decide ((vs.length:Int)<=3) && !decide ((8:Int)<rs.length))))) then .ok (.sh .rA) else .ex ⟨"NoHouse",none⟩),[.sh a,.sh b,.sh c,.p (.l vs),.p (.l rs)]):=by
 exists D3
 have h1:=YG (W:=W) (n:=n) (lo:=1) (hi:=7) ha;have h2:=YG (W:=W) (n:=n) (lo:=1) (hi:=4) hb;have h3:=YG (W:=W) (n:=n) (lo:=1) (hi:=12) hc
 generalize qB 1 7 a=r1 at *
 generalize qB 1 4 b=r2 at *
 generalize qB 1 12 c=r3 at *
 clear ha hb hc;cases r1
 ·right
 cases r2
 ·right
 cases r3
 ·right
 cases q1:decide ((1:Int)<=vs.length)
 ·right
 cases q2:decide ((vs.length:Int)<=3)
 ·right
 cases q3:decide ((8:Int)<rs.length)<;>right
abbrev nF(no ba oc:Int)(a b:Sl)(t5 t6:Sl):Env:=[.i no,.i ba,.i oc,a,b,t5,t6]
def fX(hv:∀x∈pre,VG true x):∀d∈gD 1 pre,∀U,(∃t5 t6,U=nF no ba oc .un (.p (.l rs)) t5 t6/\UB t5=true/\UB t6=true) ->
  ∃U1,bB false [5,6] d U=some U1/\∃U2,MA T.aA (run T W (n+4)) W OK U1=some (.nx,U2)/\∃t5 t6,U2=nF no ba oc .un (.p (.l rs)) t5 t6/\UB t5=true/\UB t6=true:=λd hd U hU=>by
 obtain⟨t5,t6,rfl,h5,h6⟩:=hU;obtain⟨j,x,rfl,hx⟩:=ye hd;refine⟨_,by simp only[nF,pN,lO,mO,PN,IM,OE,aH,JC h5,JC h6,lG,mG]<;>rfl, ?_⟩;have hw:=hv x hx W (n+1);unfold OK
 right
 refine⟨_,rfl,_,_,rfl,rfl,rfl⟩
def L7(hv:∀x∈pre,RG ba oc vs.length true x):∀d∈gD 0 pre,∀U,(∃t5 t6,U=nF no ba oc (.p (.l vs)) .un t5 t6/\UB t5=true/\UB t6=true) ->
  ∃U1,bB false [5,6] d U=some U1/\∃U2,MA T.aA (run T W (n+4)) W dM U1=some (.nx,U2)/\∃t5 t6,U2=nF no ba oc (.p (.l vs)) .un t5 t6/\UB t5=true/\UB t6=true:=λd hd U hU=>by
 obtain⟨t5,t6,rfl,h5,h6⟩:=hU;obtain⟨j,x,rfl,hx⟩:=ye hd;refine⟨_,by simp only[nF,pN,lO,mO,PN,IM,OE,aH,JC h5,JC h6,lG,mG]<;>rfl, ?_⟩;have hw:=hv x hx W n;unfold dM
 right
 refine⟨_,rfl,_,_,rfl,rfl,rfl⟩
def Vf(bS:OU no ba oc vs rs)(hv:∀x∈vs,VG true x)(hR:∀x∈rs,RG ba oc vs.length true x) :
  "e"|||n+5|||[.i no,.i ba,.i oc,.p (.l vs),.p (.l rs)]|||.sh (.t [.int no,.int ba,.int oc,.t vs,.t rs]):=by
 exists xP
 have hf:=bS W (n+1);have eS:aAb (.enum 1) [.slot 3] [.i no,.i ba,.i oc,.p (.l vs),.p (.l rs),.un,.un]=some (gD 1 vs,some 3):=yS rfl;obtain⟨U1,e1,t5,t6,rfl,FW,GW⟩:=cQ (bind:=bB false [5,6]) (body:=MA T.aA (run T W (n+4)) W OK) _ (ds:=gD 1 vs) (fX hv) (U:=nF no ba oc .un (.p (.l rs)) .un .un) ⟨_,_,rfl,rfl,rfl⟩;have JP:aAb (.enum 0) [.slot 4] [.i no,.i ba,.i oc,.p (.l vs),.p (.l rs),t5,t6]=some (gD 0 rs,some 4):=yS rfl;obtain⟨U2,e2,t5',t6',rfl,y4a,z4a⟩:=cQ (bind:=bB false [5,6]) (body:=MA T.aA (run T W (n+4)) W dM) _ (ds:=gD 0 rs) (L7 hR) (U:=nF no ba oc (.p (.l vs)) .un t5 t6) ⟨_,_,rfl,FW,GW⟩
 right
 simp only[aAd,lG,mG,e1,Run.restore,aAl,OE,aH,jE]
 right
 simp only[aAd,lG,mG,e2,Run.restore,aAl,OE,aH,jE]
 right
theorem G7{bind:D->Env->Option Env}(I:Env->Prop):∀{pre:List D},(∀e∈pre,∀U,I U->∃U1,bind e U=some U1/\∃U2,body U1=some (.nx,U2)/\I U2) ->
  (∀U,I U->∃U1,bind d U=some U1/\body U1=none)->∀U,I U->dE bind body (pre++d::post) U=none
 |[],_,hd,U,hi=>by
  obtain⟨U1,e1,e2⟩:=hd U hi;simp only[pU,dE,e1,e2]
 |a::pre,h,hd,U,hi=>by(obtain⟨U1,e1,U2,e2,h2⟩:=h a (by simp) U hi;have e3:=G7 (post:=post) I (λe he=>h e (OD _ he)) hd U2 h2;simp only[nU,dE,e1,e2,e3])
def CV:gD lo (pre++d::post)=gD lo pre++.t [.int (lo+(pre.length:Int)),d]::(gD lo (pre++d::post)).drop (pre.length+1):=by
 have hl:(gD lo pre).length=pre.length:=A2
 apply List.ext_getElem?
 intro i;by_cases h1:i<pre.length
 ·rw[aN (by rw[hl];exact h1),BV (d:=pre[i]) (by rw[aN h1,MD h1]),BV (d:=pre[i]) (MD h1)]
 ·rw[ZT (by rw[hl];lia),hl];by_cases h2:i=pre.length
  ·subst h2;rw[BV (by rw[ZT (JB _),Sb];rfl),Sb];rfl
  ·obtain⟨k,rfl⟩:∃k,i=pre.length+1+k:=⟨i-(pre.length+1),by lia⟩
   rw[show pre.length+1+k-pre.length=k+1 by lia,aH,Vq]
def gCa(bS:OU no ba oc (pre++d::post) rs)(hv:∀x∈pre,VG true x)(hd:VG false d) :
  "e"&&&n+5&&&[.i no,.i ba,.i oc,.p (.l (pre++d::post)),.p (.l rs)]&&&⟨"NoVoice",some (1+(pre.length:Int))⟩:=by
 exists xP
 have hf:=bS W (n+1);have eS:aAb (.enum 1) [.slot 3] [.i no,.i ba,.i oc,.p (.l (pre++d::post)),.p (.l rs),.un,.un]=some (gD 1 (pre++d::post),some 3):=yS rfl
 have jA:∀U,(∃t5 t6,U=nF no ba oc .un (.p (.l rs)) t5 t6/\UB t5=true/\UB t6=true)->∃U1,bB false [5,6] (.t [.int (1+(pre.length:Int)),d]) U=some U1/\MA T.aA (run T W (n+4)) W OK U1=none /\
   ∃U2,DC T.aA (run T W (n+4)) W OK U1=some (⟨"NoVoice",some (1+(pre.length:Int))⟩,U2)/\∃t5 t6,U2=nF no ba oc .un (.p (.l rs)) t5 t6:=λU hU=>by
  obtain⟨t5,t6,rfl,h5,h6⟩:=hU;refine⟨_,by simp only[nF,pN,lO,mO,PN,IM,OE,aH,JC h5,JC h6,lG,mG]<;>rfl, ?_⟩;have hw:=hd W (n+1);unfold OK;refine⟨by right, ?_⟩
  right
  exact⟨_,rfl,_,_,rfl⟩
 have e1:dE (bB false [5,6]) (MA T.aA (run T W (n+4)) W OK) (gD 1 (pre++d::post)) (nF no ba oc .un (.p (.l rs)) .un .un)=none:=by(rw[CV];exact G7 _ (fX hv) (λU h=>let ⟨U1,a,b,_⟩:=jA U h;⟨U1,a,b⟩) _ ⟨_,_,rfl,rfl,rfl⟩)
 obtain⟨U2,e2,t5,t6,rfl⟩:=F7 (post:=(gD 1 (pre++d::post)).drop (pre.length+1)) _ (fX hv) jA (nF no ba oc .un (.p (.l rs)) .un .un) ⟨_,_,rfl,rfl,rfl⟩;rw[<- CV] at e2
 right
 simp only[aAd,lG,mG,e1,e2,Run.restore,pK,aAl,OE,aH,jE]
 right
def fCa(bS:OU no ba oc vs (pre++d::post))(hv:∀x∈vs,VG true x)(hR:∀x∈pre,RG ba oc vs.length true x)(hd:RG ba oc vs.length false d) :
  "e"&&&n+5&&&[.i no,.i ba,.i oc,.p (.l vs),.p (.l (pre++d::post))]&&&⟨"NoRule",some (0+(pre.length:Int))⟩:=by
 exists xP
 have hf:=bS W (n+1);have eS:aAb (.enum 1) [.slot 3] [.i no,.i ba,.i oc,.p (.l vs),.p (.l (pre++d::post)),.un,.un]=some (gD 1 vs,some 3):=yS rfl;obtain⟨U1,e1,t5,t6,rfl,FW,GW⟩:=cQ (bind:=bB false [5,6]) (body:=MA T.aA (run T W (n+4)) W OK) _ (ds:=gD 1 vs) (fX (rs:=pre++d::post) hv) (U:=nF no ba oc .un (.p (.l (pre++d::post))) .un .un) ⟨_,_,rfl,rfl,rfl⟩;have JP:aAb (.enum 0) [.slot 4] [.i no,.i ba,.i oc,.p (.l vs),.p (.l (pre++d::post)),t5,t6]=some (gD 0 (pre++d::post),some 4):=yS rfl
 have jA:∀U,(∃t5 t6,U=nF no ba oc (.p (.l vs)) .un t5 t6/\UB t5=true/\UB t6=true)->∃U1,bB false [5,6] (.t [.int (0+(pre.length:Int)),d]) U=some U1/\MA T.aA (run T W (n+4)) W dM U1=none /\
   ∃U2,DC T.aA (run T W (n+4)) W dM U1=some (⟨"NoRule",some (0+(pre.length:Int))⟩,U2)/\∃t5 t6,U2=nF no ba oc (.p (.l vs)) .un t5 t6:=λU hU=>by
  obtain⟨t5,t6,rfl,h5,h6⟩:=hU;refine⟨_,by simp only[nF,pN,lO,mO,PN,IM,OE,aH,JC h5,JC h6,lG,mG]<;>rfl, ?_⟩;have hw:=hd W n;unfold dM;refine⟨by right, ?_⟩
  right
  exact⟨_,rfl,_,_,rfl⟩
 have e3:dE (bB false [5,6]) (MA T.aA (run T W (n+4)) W dM) (gD 0 (pre++d::post)) (nF no ba oc (.p (.l vs)) .un t5 t6)=none:=by(rw[CV];exact G7 _ (L7 hR) (λU h=>let ⟨U1,a,b,_⟩:=jA U h;⟨U1,a,b⟩) _ ⟨_,_,rfl,FW,GW⟩)
 obtain⟨U2,e2,t5',t6',rfl⟩:=F7 (post:=(gD 0 (pre++d::post)).drop (pre.length+1)) _ (L7 hR) jA (nF no ba oc (.p (.l vs)) .un t5 t6) ⟨_,_,rfl,FW,GW⟩;rw[<- CV] at e2
 right
 simp only[aAd,lG,mG,e1,Run.restore,pK,aAl,OE,aH,jE]
 right
 simp only[aAd,lG,mG,e2,e3,Run.restore,pK,aAl,OE,aH,jE]
 right
theorem P2{P Q:D->Prop}:∀{l:List D},(∀x∈l,P x\/Q x)->(∀x∈l,P x)\/∃pre d post,l=pre++d::post/\(∀x∈pre,P x)/\Q d
 |[],_=>.inl λ_ h=>nomatch h
 |a::l,h=>by
  rcases h a (.head _) with ha | ha
  ·rcases P2 λx hx=>h x (.tail _ hx) with hl | ⟨pre,d,post,rfl,h1,h2⟩
   ·exact .inl λx hx=>by rcases eD.mp hx with rfl | hx;exact ha;exact hl x hx
   ·exact .inr ⟨a::pre,d,post,rfl,λx hx=>by rcases eD.mp hx with rfl | hx;exact ha;exact h1 x hx,h2⟩
  ·exact .inr ⟨[],a,l,rfl,(λ_ h=>nomatch h),ha⟩
def HR(x:Exc):Prop:=x=⟨"NoHouse",none⟩\/(∃m,x=⟨"NoVoice",m⟩)\/∃m,x=⟨"NoRule",m⟩
def eCa(ha:fE a=true)(hb:fE b=true)(hc:fE c=true)(hv:∀x∈vs,∃b,VG b x)(hr:∀(ba oc:Int),1<=oc->∀x∈rs,∃b,RG ba oc vs.length b x) :
  (∃x,HR x/\∀W n,"e"&&&n+5&&&[.sh a,.sh b,.sh c,.p (.l vs),.p (.l rs)]&&&x) \/
  ∃no ba oc:Int,a=.int no/\b=.int ba/\c=.int oc/\(1<=no/\no<=7/\1<=ba/\ba<=4/\1<=oc/\oc<=12/\1<=vs.length/\vs.length<=3/\rs.length<=8)/\(∀x∈vs,VG true x)/\(∀x∈rs,RG ba oc vs.length true x) /\
   ∀W n,"e"|||n+5|||[.sh a,.sh b,.sh c,.p (.l vs),.p (.l rs)]|||.sh (.t [a,b,c,.t vs,.t rs]):=by
 have hf:=λW n=>gf (W:=W) (n:=n) (vs:=vs) (rs:=rs) ha hb hc
 cases q:(qB 1 7 a&&(qB 1 4 b&&(qB 1 12 c&&(decide ((1:Int)<=vs.length)&&(decide ((vs.length:Int)<=3) && !decide ((8:Int)<rs.length))))))
 ·refine .inl ⟨_,.inl rfl,λW n=>?_⟩;have hg:=hf W (n+1);rw[q,YC] at hg
  exists xP
  right
  rfl
 ·simp only[qA,vF,kU,CY] at q;obtain⟨q1,q2,q3,q4,q5,q6⟩:=q
  have hq:(qB 1 7 a&&(qB 1 4 b&&(qB 1 12 c&&(decide ((1:Int)<=vs.length)&&(decide ((vs.length:Int)<=3) && !decide ((8:Int)<rs.length))))))=true:=by(rw[q1,q2,q3,GC q4,GC q5,zC q6];rfl)
  obtain⟨no,rfl,n1,n2⟩:=xH q1;obtain⟨ba,rfl,b1,b2⟩:=xH q2;obtain⟨oc,rfl,o1,o2⟩:=xH q3
  have hf:OU no ba oc vs rs:=λW n=>by
   have:=hf W n
   rw[hq] at this;exact this
  have bb:∀{p:Bool->D->Prop} {x:D},(∃b,p b x)->p true x\/p false x:=λ{p x} ⟨b,h⟩=>by cases b;exact .inr h;exact .inl h
  rcases P2 (λx hx=>bb (hv x hx)) with gv | ⟨pre,d,post,rfl,h1,h2⟩
  ·rcases P2 (λx hx=>bb (p:=RG ba oc vs.length) (hr ba oc o1 x hx)) with gr | ⟨pre,d,post,rfl,h1,h2⟩
   ·exact .inr ⟨no,ba,oc,rfl,rfl,rfl,⟨n1,n2,b1,b2,o1,o2,by lia,by lia,by lia⟩,gv,gr,λW n=>Vf hf gv gr⟩
   ·exact .inl ⟨_,.inr (.inr ⟨_,rfl⟩),λW n=>fCa hf gv h1 h2⟩
  ·exact .inl ⟨_,.inr (.inl ⟨_,rfl⟩),λW n=>gCa hf h1 h2⟩
def fm{L:List D}{c:Nat}:zE (some (.l L)) none (some (.int (c:Int)))=some (.ow (.l (L.take c))):=by
 show some (RV.ow (.l (aAw L none (some (c:Int)))))=_;unfold aAw;rw[HT.jT,HT.P8,yb,Nat.sub_zero];by_cases h:c<=L.length
 ·rw[qU h]
 ·rw[NY (by lia),bN (JB _),bN (by lia)]
def vQ{L:List D}{c:Nat}:zE (some (.l L)) (some (.int (c:Int))) none=some (.ow (.l (L.drop c))):=by
 show some (RV.ow (.l (aAw L (some (c:Int)) none)))=_;unfold aAw;rw[HT.jT,HT.P8];by_cases h:c<=L.length
 ·rw[qU h,bN (by rw[IJ];lia)]
 ·rw[NY (by lia),Sb,YY,aU (by lia)]
theorem Yg:∀{as:List (List Nat)},as≠[]->(jS c as).length+1=(as.map λa=>a.length+1).sum
 |[],h=>absurd rfl h
 |[a],_=>by simp[jS]
 |a::b::r,_=>by
  have ih:=Yg (c:=c) (as:=b::r) (by simp);show(a++c::jS c (b::r)).length+1=_;rw[pD,Jb,<- ih,iF,fC]
  lia
theorem Wg:∀{as:List (List Nat)} {a:List Nat} {x:Nat},a∈as->x∈a->x∈jS c as
 |[a],_,_,h,hx=>by rw[uF.mp h] at hx;exact hx
 |a::b::r,_,x,h,hx=>by
  show x∈a++c::jS c (b::r);rcases eD.mp h with rfl | h
  ·exact cN _ hx
  ·exact CH _ (OD _ (Wg h hx))
noncomputable def BL(ws:List bA):Nat:=(ws.map λw=>w.length+1).sum
def Co:BL (a::b)=a.length+1+BL b:=by unfold BL;rw[pD,Jb]
theorem xT:∀{ws:List bA},ws.length<=BL ws
 |[]=>UQ _
 |a::r=>by have:=xT (ws:=r);rw[Co,fC];lia
theorem Eo:∀{ws:List bA} {w:bA},w∈ws->w.length+1<=BL ws
 |a::r,w,h=>by
  rw[Co];rcases eD.mp h with rfl | h
  ·lia
  ·have:=Eo h;lia
def bGa(hs:s=⟨#[c]⟩):(lC s ws).cps.toList=jS c (ws.map λw=>w.cps.toList):=by
 subst hs;rw[show lC ⟨#[c]⟩ ws=DG ⟨#[c]⟩ ws from NL _ _,CM]
def d0a(ws:List bA):((ws.map λw=>w.cps.toList).map λa=>a.length+1).sum=BL ws:=by
 unfold BL;rw[oG];rfl
def uK(hs:s=⟨#[c]⟩)(h:TG N t):(∀p∈kB t s,TG N p/\c ∉ p.cps.toList)/\BL (kB t s)=t.length+1/\kB t s≠[]/\lC s (kB t s)=t:=by
 subst hs
 have h1:lC ⟨#[c]⟩ (kB t ⟨#[c]⟩)=t:=by(rw[show lC ⟨#[c]⟩ (kB t ⟨#[c]⟩)=DG ⟨#[c]⟩ (kB t ⟨#[c]⟩) from NL _ _];exact Sq t ⟨#[c]⟩)
 have h2:=Tq t c;have h3:=zq t ⟨#[c]⟩;have jD:kB t ⟨#[c]⟩≠[]:=λz=>by rw[z] at h3;simp at h3
 have hj:=bGa (c:=c) rfl (ws:=kB t ⟨#[c]⟩);rw[h1] at hj;have hl:t.cps.toList.length=t.length:=bH
 have hz:BL (kB t ⟨#[c]⟩)=t.length+1:=by
  have:=Yg (c:=c) (as:=(kB t ⟨#[c]⟩).map λw=>w.cps.toList) (λz=>jD (wO.mp z))
  rw[d0a,<- hj] at this
  lia
 refine⟨λp hp=>⟨⟨?_, ?_⟩,h2 p hp⟩,hz,jD,h1⟩
 ·have:=Eo hp
  have:=h.len
  lia
 ·rw[OI];intro x hx;have IW:x∈t.cps.toList:=by rw[hj];exact Wg (kC.mpr ⟨p,hp,rfl⟩) (by simpa using hx)
  have ha:=h.asc;rw[OI] at ha;exact ha x (by simpa using IW)
def bY(hs:s=⟨#[c]⟩)(h:TG N t)(hN:N<=1000000):tK s U (some (.s t))=some (.ok (.ow (.l ((kB t s).map D.str))),U):=by
 refine kZa (by rw[hs];rfl) (lD h.len hN) ?_;rw[jF];exact λw hw=>nK ((uK hs h).1 w hw).1.asc
def T8{L:List D}{a b:Nat}(h:a<=b):zE (some (.l L)) (some (.int (a:Int))) (some (.int (b:Int)))=some (.ow (.l ((L.drop a).take (b-a)))):=by
 show some (RV.ow (.l (aAw L (some (a:Int)) (some (b:Int)))))=_;unfold aAw;rw[HT.jT,HT.jT]
 congr 3
 by_cases h1:a<=L.length
 ·rw[qU h1];by_cases h2:b<=L.length
  ·rw[qU h2]
  ·rw[NY (by lia),bN (by rw[IJ];lia),bN (by rw[IJ];lia)]
 ·rw[aU (by lia),aU (by lia),wU,wU]
def aI:List bA->Int->D
 |[],a=>.int a
 |w::r,a=>match GA w with
  |.int n=>if 0<=n/\n<=11 then aI r (cH a (2 ^ n.toNat)) else .rA
  |_=>.rA
def jG(w:bA):D:=if(w==("-":bA))=true then .int 0 else aI (kB w ",") 0
theorem um:∀(ws:List bA) (a:Int) (t:Sl),UB t=true ->
  (∃b t',aI ws a=.int b/\dE (bB true [2]) (MA T.aA (run T W (n+2)) W nN) (ws.map GA) [x,.i a,t]=some (.nx,[x,.i b,t'])) \/
  (aI ws a=.rA/\∃y z,dE (bB true [2]) (MA T.aA (run T W (n+2)) W nN) (ws.map GA) [x,.i a,t]=some (.rt (.sh .rA),[x,y,z]))
 |[],a,t,_=>.inl ⟨a,t,rfl,rfl⟩
 |w::ws,a,t,ht=>by
  have hb:bB true [2] (GA w) [x,.i a,t]=some [x,.i a,.sh (GA w)]:=by simp only[qE,JC ht]<;>rfl
  have hw:=YG (W:=W) (n:=n) (d:=GA w) (lo:=0) (hi:=11) UK;rw[pD];by_cases c:qB 0 11 (GA w)=true
  ·obtain⟨i,hi,h1,h2⟩:=xH c
   have e2:aI (w::ws) a=aI ws (cH a (2 ^ i.toNat)):=by
    show(match GA w with | .int n=>if 0<=n/\n<=11 then aI ws (cH a (2 ^ n.toNat)) else .rA | _=>.rA)=_;rw[hi];exact FA ⟨h1,h2⟩
   rw[e2];rw[c] at hw;rw[hi] at hb hw ⊢;have h3:i<=1000:=by lia
   have e3:MA T.aA (run T W (n+2)) W nN [x,.i a,.i i]=some (.nx,[x,.i (cH a (2 ^ i.toNat)),.i i]):=by
    unfold nN
    right
   have ih:=um (W:=W) (n:=n) (x:=x) ws (cH a (2 ^ i.toNat)) (.i i) rfl;simp only[dE,hb,e3];exact ih
  ·have c:qB 0 11 (GA w)=false:=by simpa using c
   have e2:aI (w::ws) a=.rA:=by
    show(match GA w with | .int n=>if 0<=n/\n<=11 then aI ws (cH a (2 ^ n.toNat)) else .rA | _=>.rA)=_;rcases dD with h | ⟨i,h⟩
    ·rw[h]
    ·rw[h] at c ⊢;refine vB λz=>?_
     simp only[qB,Bool.and_eq_false_iff,CY] at c
     lia
   rw[c] at hw
   generalize GA w=d at *
   have e3:MA T.aA (run T W (n+2)) W nN [x,.i a,.sh d]=some (.rt (.sh .rA),[x,.i a,.sh d]):=by
    unfold nN
    right
   refine .inr ⟨e2,.i a,.sh d, ?_⟩;simp only[dE,hb,e3]
def up1(h:TG N w)(hN:N<=500000):TG 1000000 w:=h.up (by lia)
def hZa(h:TG 500000 w):"J"|||n+3|||[.s w]|||.sh (jG w):=by
 rw[qK (fn:=SV) rfl rfl rfl];unfold jG SV;cases c:w == "-"
 ·obtain⟨h1,h2,h3,h4⟩:=uK aJ h;have xG:∀U,tK "," U (some (.s w))=some (.ok (.ow (.l ((kB w ",").map D.str))),U):=λU=>bY aJ h (by decide)
  have hl:=xT (ws:=kB w ",");have hr:=ZN (W:=W) (n:=n) (ws:=kB w ",") (λp hp=>up1 (h1 p hp).1 (by decide)) (by have:=h.len;lia);have hi:∀U,aAb .of [.val (.ow (.l ((kB w ",").map GA)))] U=some ((kB w ",").map GA,none):=λU=>LN rfl
  rw[YC];unfold yA at hr;rcases um (W:=W) (n:=n) (x:=.s w) (kB w ",") 0 .un rfl with ⟨b,t',e1,e2⟩ | ⟨e1,y,z,e2⟩
  ·rw[e1]
   generalize (kB w ",").map GA=L at *
   generalize (kB w ",").map D.str=M at *
   right
  ·rw[e1]
   generalize (kB w ",").map GA=L at *
   generalize (kB w ",").map D.str=M at *
   right
   all_goals (first | done | rfl)
 ·rw[FA rfl]
  right
def lZa:fE (jG w)=true:=by
 have:∀(ws:List bA) (a:Int),fE (aI ws a)=true:=by
  intro ws
  induction ws with
  |nil=>intro a;rfl
  |cons w r ih =>
   intro a;unfold aI;split
   ·split
    ·exact ih _
    ·rfl
   ·rfl
 unfold jG;split
 ·rfl
 ·exact this _ _
def zy:qI (.str a) (.str b)=(a==b):=(rfl)
def Ay{xs ys:List bA}:mC .Eq (.l (xs.map D.str)) (.l (ys.map D.str))=some (decide (xs=ys)):=by
 have ok:∀zs:List bA,pC 20 (.l (zs.map D.str))=true:=λzs=>by(show(zs.map D.str).all (pC 19)=true;rw[TQ,jF];intro w _;rfl)
 rw[Iw (ok xs) (ok ys)];congr 1;show rN (xs.map D.str) (ys.map D.str)=_
 induction xs generalizing ys with
 |nil=>cases ys<;>rfl
 |cons a r ih =>
  cases ys with
  |nil=>rfl
  |cons b s =>
   show((a==b)&&rN (r.map D.str) (s.map D.str))=_;rw[ih,Jr];simp
noncomputable def PM(r:List bA):Bool:=decide (r.drop 2=[("turned":bA)])
def aL(r:List bA):D:=.t ((r.take 2).map GA++[.bl (PM r)])
def H_(h:∀x∈r,TG 1000000 x):"K"|||n+3|||[.sh (yA (w::r))]|||.sh (aL r):=by
 exists M3
 unfold aL;have hr:=ZN (W:=W) (n:=n) (ws:=r.take 2) (λx hx=>h x (qa hx)) (by rw[QI];lia)
 have s1:zE (some (yA (w::r))) (some (.int 1)) (some (.int 3))=some (.ow (yA (r.take 2))):=by
  have:=T8 (L:=(w::r).map D.str) (a:=1) (b:=3) (by decide)
  rw[<- RQ,<- Kb] at this;exact this
 have s2:zE (some (yA (w::r))) (some (.int 3)) none=some (.ow (yA (r.drop 2))):=by
  have:=vQ (L:=(w::r).map D.str) (c:=3)
  rw[<- RQ] at this;exact this
 have e:mC .Eq (yA (r.drop 2)) (.l [.str "turned"])=some (PM r):=Ay (xs:=r.drop 2) (ys:=[("turned":bA)]);have wG:yB ((r.take 2).map GA).length=true:=yC (by rw[YA,QI];lia);have hb:IB .Add (.l ((r.take 2).map GA)) (.l [.bl (PM r)])=some (.ow (.l ((r.take 2).map GA++[.bl (PM r)]))):=XI (yC (by rw[YA,QI];simp;lia))
 unfold yA at *
 generalize (r.take 2).map GA=L at *
 generalize (r.take 2).map D.str=A at *
 generalize (r.drop 2).map D.str=B at *
 generalize (w::r).map D.str=C at *
 generalize PM r=b at *
 right
def rP(w:bA)(r:List bA):List D:=if(w==("span":bA))=true then(r.take 1).map GA++(r.drop 1).map jG else if(w==("never":bA))=true then(r.take 2).map GA++(r.drop 2).map D.str else r.map GA
def Sk:(rP w r).all fE=true:=by
 unfold rP;split
 ·rw[Kr,qA]
  refine⟨?_, ?_⟩<;>(rw[TQ,jF];intro x _)<;>first | exact UK | exact lZa
 ·split
  ·rw[Kr,qA]
   refine⟨?_, ?_⟩<;>(rw[TQ,jF];intro x _)<;>first | exact UK | rfl
  ·rw[TQ,jF];intro x _;exact UK
def jVa:(rP w r).length=r.length:=by
 unfold rP;split
 ·rw[iF,YA,YA,<- iF,Fq]
 ·split
  ·rw[iF,YA,YA,<- iF,Fq]
  ·rw[YA]
def uWa(h:∀x∈r,TG 500000 x)(hl:r.length<=500001):"L"|||n+4|||[.sh (yA (w::r))]|||.sh (.t (.str w::rP w r)):=by
 exists O3
 have hx:bE (some (yA (w::r))) (.int 0)=some (.s w):=N6;cases c1:w == "span"
 ·cases c2:w == "never"
  ·have hr:=ZN (W:=W) (n:=n+1) (ws:=r) (λx hx=>up1 (h x hx) (by decide)) (by lia);have s1:zE (some (yA (w::r))) none (some (.int 1))=some (.ow (.l [.str w])):=fm (L:=(w::r).map D.str) (c:=1);have s2:zE (some (yA (w::r))) (some (.int 1)) none=some (.ow (yA r)):=vQ (L:=(w::r).map D.str) (c:=1);have hb:IB .Add (.l [.str w]) (.l (r.map GA))=some (.ow (.l (.str w::r.map GA))):=XI (yC (by rw[YA];simp;lia));have e:rP w r=r.map GA:=by unfold rP;rw[c1,c2];rfl
   rw[e]
   unfold yA at *
   generalize r.map GA=L at *
   generalize r.map D.str=A at *
   generalize (w::r).map D.str=C at *
   clear h hl e
   right
  ·have ew:=uB c2;subst ew;have hr:=ZN (W:=W) (n:=n+1) (ws:=r.take 2) (λx hx=>up1 (h x (qa hx)) (by decide)) (by rw[QI];lia)
   have s1:zE (some (yA (("never":bA)::r))) (some (.int 1)) (some (.int 3))=some (.ow (yA (r.take 2))):=by
    have:=T8 (L:=(("never":bA)::r).map D.str) (a:=1) (b:=3) (by decide)
    rw[<- RQ,<- Kb] at this;exact this
   have s2:zE (some (yA (("never":bA)::r))) (some (.int 3)) none=some (.ow (yA (r.drop 2))):=by
    have:=vQ (L:=(("never":bA)::r).map D.str) (c:=3)
    rw[<- RQ] at this;exact this
   have b1:IB .Add (.l [.str "never"]) (.l ((r.take 2).map GA))=some (.ow (.l (.str "never" :: (r.take 2).map GA))):=XI (yC (by rw[YA,QI];simp;lia));have b2:IB .Add (.l (.str "never" :: (r.take 2).map GA)) (yA (r.drop 2))=some (.ow (.l (.str "never" :: ((r.take 2).map GA++(r.drop 2).map D.str)))):=XI (yC (by rw[fC,YA,YA,QI,IJ];lia));have e:rP ("never":bA) r=(r.take 2).map GA++(r.drop 2).map D.str:=by unfold rP;rw[c1,c2];rfl
   rw[e]
   unfold yA at *
   generalize (r.take 2).map GA++(r.drop 2).map D.str=R at *
   generalize (r.take 2).map GA=L at *
   generalize (r.take 2).map D.str=A at *
   generalize (r.drop 2).map D.str=B at *
   generalize (("never":bA)::r).map D.str=C at *
   right
 ·have ew:=uB c1;subst ew;have hr:=ZN (W:=W) (n:=n+1) (ws:=r.take 1) (λx hx=>up1 (h x (qa hx)) (by decide)) (by rw[QI];lia)
  have s1:zE (some (yA (("span":bA)::r))) (some (.int 1)) (some (.int 2))=some (.ow (yA (r.take 1))):=by
   have:=T8 (L:=(("span":bA)::r).map D.str) (a:=1) (b:=2) (by decide)
   rw[<- RQ,<- Kb] at this;exact this
  have s2:zE (some (yA (("span":bA)::r))) (some (.int 2)) none=some (.ow (yA (r.drop 1))):=by
   have:=vQ (L:=(("span":bA)::r).map D.str) (c:=2)
   rw[<- RQ] at this;exact this
  obtain⟨U',ec,t,rfl,ht⟩:=TK (P:=T.aA) (C:=run T W (n+3)) (JA:=ev T.aA (run T W (n+3)) false S1) (bind:=bB true [1]) (xs:=r.drop 1) D.str jG (λU=>∃t,U=[.un,t]/\UB t=true)
   (λx hx U hU=>by
    obtain⟨t,rfl,ht⟩:=hU;have hs:=hZa (W:=W) (n:=n) (h x (oa hx));refine⟨[.un,.s x],.sh (jG x),[.un,.s x],by simp only[qE,JC ht]<;>rfl, ?_,rfl,_,rfl,rfl⟩;unfold S1
    generalize jG x=p at *
    right) (U:=[.un,.un]) ⟨_,rfl,rfl⟩
  have hi:∀U,aAb .of [.val (.ow (.l ((r.drop 1).map D.str)))] U=some ((r.drop 1).map D.str,none):=λU=>LN rfl
  have wG:yB ((r.drop 1).map jG).length=true:=yC (by rw[YA,IJ];lia);have b1:IB .Add (.l [.str "span"]) (.l ((r.take 1).map GA))=some (.ow (.l (.str "span" :: (r.take 1).map GA))):=XI (yC (by rw[YA,QI];simp;lia));have b2:IB .Add (.l (.str "span" :: (r.take 1).map GA)) (.l ((r.drop 1).map jG))=some (.ow (.l (.str "span" :: ((r.take 1).map GA++(r.drop 1).map jG)))):=XI (yC (by rw[fC,YA,YA,QI,IJ];lia));have e:rP ("span":bA) r=(r.take 1).map GA++(r.drop 1).map jG:=by unfold rP;rw[c1];rfl
  rw[e]
  unfold yA at *
  generalize (r.take 1).map GA++(r.drop 1).map jG=R at *
  generalize (r.take 1).map GA=L at *
  generalize (r.take 1).map D.str=A at *
  generalize (r.drop 1).map D.str=B at *
  generalize (r.drop 1).map jG=E at *
  generalize (("span":bA)::r).map D.str=C at *
  right
  rw[IE (hi _)]
  right
  exfalso
def ou(h:VG b d)(k:VG c d):b=c:=by
 have:=(h 0 0).symm.trans (k 0 0)
 simp only[WB,SD,Out.ok.injEq,RV.sh.injEq,D.bl.injEq,and_true] at this;exact this
def eu(h:RG ba oc ma b d)(k:RG ba oc ma c d):b=c:=by
 have:=(h 0 0).symm.trans (k 0 0)
 simp only[WB,SD,Out.ok.injEq,RV.sh.injEq,D.bl.injEq,and_true] at this;exact this
def Hc(h:ds.length≠3):VG false (.t ds):=λW n=>by
 exists QV
 have e:decide ((ds.length:Int)=3)=false:=zC (by lia)
 right
def lu(ha:fE a=true)(hb:fE b=true):VG (qB 0 4 a&&qB (-12) 12 b) (.t [a,b,.bl c]):=λW n=>by
 exists QV
 have h1:=YG (W:=W) (n:=n) (lo:=0) (hi:=4) ha;have h2:=YG (W:=W) (n:=n) (lo:=-12) (hi:=12) hb;have e6:decide (((3:Nat):Int)=3)=true:=rfl
 generalize qB 0 4 a=r1 at *
 generalize qB (-12) 12 b=r2 at *
 cases r1<;>cases r2<;>right
def bW:List bA->Bool
 |a::b::_=>qB 0 4 (GA a)&&qB (-12) 12 (GA b)
 |_=>false
theorem W3:∀r:List bA,VG (bW r) (aL r)
 |[]=>Hc (by simp)
 |[a]=>Hc (by simp)
 |a::b::s=>lu (c:=PM (a::b::s)) UK UK
def Yk(h:GA w=.int i):num i=w:=by
 unfold GA at h
 cases q:YH w with
 |none=>rw[q] at h;cases h
 |some n=>rw[q] at h;cases h;exact wVa q
def YN(h1:-60<=i)(h2:i<=60):GA (num i)=.int i:=by
 unfold GA;rw[jl (vE h1 h2)]
theorem I_:∀{r:List bA},bW r=true->∃f,kR f/\aL r=toD f/\∃s,r=num f.1::num f.2.1::s/\f.2.2=PM r
 |a::b::s,h=>by
  unfold bW at h;rw[qA] at h;obtain⟨i,hi,i1,i2⟩:=xH h.1;obtain⟨j,hj,j1,j2⟩:=xH h.2;refine⟨(i,j,PM (a::b::s)),⟨i1,i2,j1,j2⟩, ?_,s, ?_,rfl⟩
  ·show D.t [GA a,GA b,.bl _]=_;rw[hi,hj];rfl
  ·rw[Yk hi,Yk hj]
def Ve(h:kR f):aL (num f.1::num f.2.1::(if f.2.2=true then [("turned":bA)] else []))=toD f/\bW (num f.1::num f.2.1::(if f.2.2=true then [("turned":bA)] else []))=true:=by
 obtain⟨a,b,c⟩:=f;obtain⟨h1,h2,h3,h4⟩:=h;simp only at h1 h2 h3 h4;have e1:=YN (i:=a) (by lia) (by lia);have e2:=YN (i:=b) (by lia) (by lia);refine⟨?_, ?_⟩
 ·show D.t [GA (num a),GA (num b),.bl (decide ((if c=true then [("turned":bA)] else [])=[("turned":bA)]))]=_;rw[e1,e2];cases c<;>rfl
 ·show(qB 0 4 (GA (num a))&&qB (-12) 12 (GA (num b)))=true;rw[e1,e2];simp only[qB,qA,vF];exact⟨⟨h1,h2⟩,h3,h4⟩
def UX(ba oc ma:Int)(w:bA)(ps:List D):Bool :=
 if(w == "span")=true then zL ba oc ps else if(w == "leap")=true then HC 1 0 12 ps else if(w == "back")=true then HC 2 1 12 ps else if(w == "again")=true then HC 1 1 3 ps
 else if(w == "range")=true then HC 2 (-60) 60 ps&&JS ps else if(w == "above")=true then HC 2 0 ma ps&&NS ps else if(w == "never")=true then mK oc ps else false
def Jl(ho:0<=oc)(hl:ps.length<=1000000)(hy:ps.all fE=true):RG ba oc ma (UX ba oc ma w ps) (.t (.str w::ps)):=λW n=>by
 unfold UX;cases c1:w == "span"
 case true=>rw[uB c1];exact Ml ho hy
 rw[YC];cases c2:w == "leap"
 case true=>rw[uB c2];exact(rQ hl hy).1
 rw[YC];cases c3:w == "back"
 case true=>rw[uB c3];exact(rQ hl hy).2.1
 rw[YC];cases c4:w == "again"
 case true=>rw[uB c4];exact(rQ hl hy).2.2
 rw[YC];cases c5:w == "range"
 case true=>rw[uB c5];exact(VX hl hy).1
 rw[YC];cases c6:w == "above"
 case true=>rw[uB c6];exact(VX hl hy).2
 rw[YC];cases c7:w == "never"
 case true=>rw[uB c7];exact Kl hy
 rw[YC];exact vWa c1 c2 c3 c4 c5 c6 c7
def Vc(h:HC 1 lo hi ps=true):∃i,ps=[.int i]/\lo<=i/\i<=hi:=by
 unfold HC at h;simp only[qA,vF] at h
 match ps,h with
 |[a],h =>
  simp only[PB,CK,zJ] at h;obtain⟨i,rfl,i1,i2⟩:=xH h.2;exact⟨i,rfl,i1,i2⟩
 |[],h=>simp at h
 |_::_::_,h=>simp only[fC] at h;lia
def tWa(o1:1<=oc)(h:UX ba oc ma w ps=true):IG no ba oc ma (.t (.str w::ps)):=by
 unfold UX at h;cases c1:w == "span"
 case true =>
  rw[c1,FA rfl] at h;rw[uB c1];rcases qm ps with ⟨a,b,rfl⟩ | e
  ·have h:(qB 0 (ba-1) a&&qB 0 (2 ^ oc.toNat-1) b)=true:=h;rw[qA] at h;obtain⟨i,rfl,i1,i2⟩:=xH h.1;obtain⟨j,rfl,j1,j2⟩:=xH h.2;exact .span i j i1 (by lia) j1 (by lia)
  ·rw[e] at h;cases h
 rw[c1,YC] at h;cases c2:w == "leap"
 case true =>
  rw[c2,FA rfl] at h;obtain⟨i,rfl,i1,i2⟩:=Vc h;rw[uB c2];exact .leap i i1 i2
 rw[c2,YC] at h;cases c3:w == "back"
 case true =>
  rw[c3,FA rfl] at h;obtain⟨i,j,rfl,i1,i2,j1,j2⟩:=BR h;rw[uB c3];exact .back i j i1 i2 j1 j2
 rw[c3,YC] at h;cases c4:w == "again"
 case true =>
  rw[c4,FA rfl] at h;obtain⟨i,rfl,i1,i2⟩:=Vc h;rw[uB c4];exact .again i i1 i2
 rw[c4,YC] at h;cases c5:w == "range"
 case true =>
  rw[c5,FA rfl,qA] at h;obtain⟨i,j,rfl,i1,i2,j1,j2⟩:=BR h.1;rw[uB c5];exact .range i j i1 (TM h.2) j2
 rw[c5,YC] at h;cases c6:w == "above"
 case true =>
  rw[c6,FA rfl,qA] at h;obtain⟨i,j,rfl,i1,i2,j1,j2⟩:=BR h.1;have h2:(!decide (i=j))=true:=h.2;rw[kU,CY] at h2;have e1:((i.toNat:Nat):Int)=i:=by lia
  have e2:((j.toNat:Nat):Int)=j:=by lia
  rw[uB c6,<- e1,<- e2];exact .above i.toNat j.toNat (by lia) (by lia) (by lia)
 rw[c6,YC] at h;cases c7:w == "never"
 case true =>
  rw[c7,FA rfl] at h;rw[uB c7];rcases lj ps with ⟨a,b,c,rfl⟩ | e
  ·have h:(qB 0 (oc-1) a&&(qB 0 (oc-1) b&&qO c))=true:=h;rw[qA,qA] at h;obtain⟨i,rfl,i1,i2⟩:=xH h.1;obtain⟨j,rfl,j1,j2⟩:=xH h.2.1
   cases c with
   |str x =>
    refine .never i j x i1 (by lia) j1 (by lia) ?_;have hw:inD (.str x) [.str (kA "like"),.str (kA "against"),.str (kA "aside"),.str (kA "any")]=true:=h.2.2;simp only[inD,AK,List.any_nil,zy,RI,vD,Fb] at hw;rcases hw with hw | hw | hw | hw
    ·exact .inl hw.symm
    ·exact .inr (.inl hw.symm)
    ·exact .inr (.inr (.inl hw.symm))
    ·exact .inr (.inr (.inr hw.symm))
   |_=>cases h.2.2
  ·rw[e] at h;cases h
 rw[c7,YC] at h;cases h
def oJ(f:Nat->Bool):Nat->Nat
 | 0=>0
 |m+1=>oJ f m+(if f m=true then 2 ^ m else 0)
theorem km:∀(ks:List Nat) (a:Int),(∀k∈ks,k<12)->aI (ks.map λ(k:Nat)=>num (k:Int)) a=.int (ks.foldl (λa k=>cH a (p2 k)) a)
 |[],a,_=>rfl
 |k::ks,a,h=>by
  have hk:=h k (.head _);rw[pD,qb,<- km ks _ λj hj=>h j (.tail _ hj)];show(match GA (num (k:Int)) with | .int n=>if 0<=n/\n<=11 then aI _ (cH a (2 ^ n.toNat)) else .rA | _=>.rA)=_;rw[YN (by lia) (by lia)];simp only;rw[FA ⟨by lia,by lia⟩,HJ,Qj]
def rMa{k:Nat}(h:k<12):45 ∉ (num (k:Int)).cps.toList:=by
 have:∀k<12,(num ((k:Nat):Int)).cps.toList.contains 45=false:=by left
 intro z
 have:=this k h
 rw[List.contains_eq_mem,CY] at this;exact this z
def dZa{n:Nat}(h0:n≠0):(AD n==("-":bA))=false:=by
 rw[DJ];intro z;have vf:45∈(AD n).cps.toList:=by rw[z];left
 rw[lT h0] at vf;rcases BS aJ vf with h | ⟨w,h1,h2⟩
 ·cases h
 ·obtain⟨k,hk,rfl⟩:=eP h1;exact rMa hk h2
def eZa(hn:n<4096)(h0:n≠0):kB (AD n) ","=QC n:=by
 rw[lT h0];refine cY aJ (λz=>B0 hn h0 (wO.mp z)) λw hw=>?_
 obtain⟨k,hk,rfl⟩:=eP hw;exact(vE (i:=(k:Int)) (by lia) (by lia)).r_
def cZa(hn:n<4096):jG (AD n)=.int (n:Int):=by
 unfold jG;by_cases h0:n=0
 ·subst h0;rfl
 ·rw[dZa h0,YC,eZa hn h0];unfold QC;rw[km _ _ λk hk=>A0 hk,pd hn]
def sWa(b2:ba<=4)(o2:oc<=12)(m2:ma<=3)(h:IG no ba oc ma d)(e:rW d=w::r):D.t (.str w::rP w r)=d:=by
 have pl:∀{x:bA} {is:List Int},(x == "span")=false->(x == "never")=false->(∀i∈is,-60<=i/\i<=60)->rW (.t (.str x::is.map D.int))=w::r->D.t (.str w::rP w r)=.t (.str x::is.map D.int):=λ{x is} h1 h2 h3 e=>by
  have e1:rW (.t (.str x::is.map D.int))=x::is.map num:=by(show x::(if(x == "span")=true then _ else(is.map D.int).map wd)=_;rw[h1,YC,oG];rfl)
  rw[e1] at e;cases e;unfold rP;rw[h1,h2,YC,YC,oG]
  congr 2
  exact xO λi hi=>YN (h3 i hi).1 (h3 i hi).2
 cases h with
 |span a b h1 h2 h3 h4 =>
  obtain⟨n,rfl⟩:∃n:Nat,b=(n:Int):=⟨b.toNat,by lia⟩
  have hp:(2:Int) ^ oc.toNat<=4096:=by
   have h3:2 ^ oc.toNat<=2 ^ 12:=QL (by decide) (by lia:oc.toNat<=12)
   exact_mod_cast h3
  have e1:rW (.t [.str "span",.int a,.int (n:Int)])=[("span":bA),num a,AD n]:=by(show("span":bA)::(if(("span":bA)==("span":bA))=true then [num a,AD ((n:Int)).toNat] else _)=_;rw[FA (WC _),HJ])
  rw[e1] at e;cases e;unfold rP;rw[FA (WC _)];show D.t [.str "span",GA (num a),jG (AD n)]=_;rw[YN (by lia) (by lia),cZa (by lia)]
 |leap a h1 h2=>exact pl (is:=[a]) (by left) (by left) (fc ⟨by lia,by lia⟩ λ_ h=>nomatch h) e
 |back a b h1 h2 h3 h4=>exact pl (is:=[a,b]) (by left) (by left) (fc ⟨by lia,by lia⟩ (fc ⟨by lia,by lia⟩ λ_ h=>nomatch h)) e
 |again a h1 h2=>exact pl (is:=[a]) (by left) (by left) (fc ⟨by lia,by lia⟩ λ_ h=>nomatch h) e
 |range a b h1 h2 h3=>exact pl (is:=[a,b]) (by left) (by left) (fc ⟨by lia,by lia⟩ (fc ⟨by lia,by lia⟩ λ_ h=>nomatch h)) e
 |above v w' h1 h2 h3=>exact pl (is:=[(v:Int),(w':Int)]) (by left) (by left) (fc ⟨by lia,by lia⟩ (fc ⟨by lia,by lia⟩ λ_ h=>nomatch h)) e
 |never a b x h1 h2 h3 h4 h5 =>
  have e0:(("never":bA)==("span":bA))=false:=by left
  have e1:rW (.t [.str "never",.int a,.int b,.str x])=[("never":bA),num a,num b,x]:=by(show("never":bA)::(if(("never":bA)==("span":bA))=true then _ else [num a,num b,x])=_;rw[e0,YC])
  rw[e1] at e;cases e;unfold rP;rw[e0,YC,FA (WC _)];show D.t [.str "never",GA (num a),GA (num b),.str x]=_;rw[YN (by lia) (by lia),YN (by lia) (by lia)]
def Pc{L:List D}:bE (some (.l (a::b::c::L))) (.int 2)=some (.sh c):=by
 show(WI (a::b::c::L) 2).map RV.sh=_
 have:WI (a::b::c::L) 2=some c:=by(unfold WI L2.aD L2.mE;rw[FA (by decide),FA (by simp;lia)];rfl)
 rw[this];rfl
noncomputable def aAk(t:bA):List (List bA):=(kB t "\n").map λl=>kB l " "
noncomputable def hd(r:List bA):bA:=r.headD ("":bA)
theorem ht(h:r≠[]):r=hd r::r.tail:=by
 cases r with
 |nil=>exact absurd rfl h
 |cons a s=>rfl
structure xR(R:List (List bA)):Prop where
 ne:∀r∈R,r≠[]
 tg:∀r∈R,∀w∈r,TG 500000 w
 ln:∀r∈R,r.length<=500001
 all:R.length<=500001
def L8(h:TG 500000 t):xR (aAk t)/\aAk t≠[]/\t=lC "\n" ((aAk t).map LA):=by
 obtain⟨h1,h2,h3,h4⟩:=uK DM h;have hl:=xT (ws:=kB t "\n");have hz:=h.len;refine⟨⟨λr hr=>?_,λr hr=>?_,λr hr=>?_, ?_⟩, ?_, ?_⟩
 ·obtain⟨l,hl,rfl⟩:=kC.mp hr;exact(uK yF (h1 l hl).1).2.2.1
 ·obtain⟨l,hl,rfl⟩:=kC.mp hr;exact λw hw=>((uK yF (h1 l hl).1).1 w hw).1
 ·obtain⟨l,hl,rfl⟩:=kC.mp hr
  have:=xT (ws:=kB l " ")
  have:=(uK yF (h1 l hl).1).2.1
  have:=(h1 l hl).1.len
  lia
 ·unfold aAk;rw[YA]
  lia
 ·exact λz=>h3 (wO.mp z)
 ·unfold aAk LA;rw[oG,show(kB t "\n").map ((lC " ") ∘ λl=>kB l " ")=kB t "\n" from ?_,h4];refine(xO λl hl=>?_).trans (VQ _);exact(uK yF (h1 l hl).1).2.2.2
def iWa(qW:el=.bI 1 (" ":bA))(h:TG 500000 t):∃s,XD (IC T.aA (run T W n) []) (ev T.aA (run T W n) false el) (bB true [1]) ((kB t "\n").map D.str) [] [.un,.un]=some (.ok ((aAk t).map yA),[.un,s]):=by
 obtain⟨h1,h2,h3,h4⟩:=uK DM h
 obtain⟨U',e,t',rfl,ht⟩:=TK (P:=T.aA) (C:=run T W n) (JA:=ev T.aA (run T W n) false el) (bind:=bB true [1]) (xs:=kB t "\n") D.str (λl=>yA (kB l " ")) (λU=>∃t,U=[.un,t]/\UB t=true)
  (λl hl U hU=>by
   obtain⟨s,rfl,hs⟩:=hU;have xG:∀U,tK " " U (some (.s l))=some (.ok (.ow (yA (kB l " "))),U):=λU=>bY yF (h1 l hl).1 (by decide)
   refine⟨[.un,.s l],.ow (yA (kB l " ")),[.un,.s l],by simp only[qE,JC hs]<;>rfl, ?_,rfl,_,rfl,rfl⟩;subst qW
   generalize yA _=d at *
   right) (U:=[.un,.un]) ⟨_,rfl,rfl⟩
 refine⟨t', ?_⟩;rw[e];unfold aAk;rw[oG];rfl
noncomputable def yG(r:List bA):Bool:=hd r == "voice"
def jWa(h:HX no ba oc fs rs):aAk (RB no ba oc fs rs)=hW no ba oc fs rs:=by
 have jD:(hW no ba oc fs rs).map LA≠[]:=by unfold hW xM;simp
 unfold aAk RB;rw[cY DM jD λw hw=>(h.row w hw).2,oG];refine(xO λws hm=>?_).trans (VQ _);obtain⟨h1,h2,h3⟩:=h.wo ws hm;exact cY yF h3 λw hw=>(h1 w hw).uN
def Cf:hW no ba oc fs rs=[("notes":bA),num no]::[("bar":bA),num ba]::[("octave":bA),num oc]::(fs.map vW++rs.map rW):=by
 unfold hW xM RR;simp[NT,KY]
theorem Hi{P:O->Prop}:∀{l:List N},(∀r∈l,∃f,P f/\r=g f)->∃fs:List O,(∀f∈fs,P f)/\l=fs.map g
 |[],_=>⟨[],(λ_ h=>nomatch h),rfl⟩
 |r::l,h=>by
  obtain⟨f,h1,h2⟩:=h r (.head _);obtain⟨fs,h3,h4⟩:=Hi λx hx=>h x (.tail _ hx)
  exact⟨f::fs,λx hx=>by rcases eD.mp hx with rfl | hx;exact h1;exact h3 x hx,by rw[h4,h2];rfl⟩
def xWa{d:D}(o1:1<=oc)(h:IG no ba oc ma d):"d"|||n+4|||[.i ba,.i oc,.i ma,.sh d]|||.b true:=by
 have dt:∀{p:Prop} [Decidable p],p->decide p=true:=λh=>GC h
 cases h with
 |span a b h1 h2 h3 h4 =>
  have e:=Ml (W:=W) (n:=n) (ba:=ba) (oc:=oc) (ma:=.int ma) (ps:=[.int a,.int b]) (by lia) rfl
  rwa[show zL ba oc [.int a,.int b]=true by simp only[zL,qB,qA];exact⟨⟨dt h1,dt (by lia)⟩,dt h3,dt (by lia)⟩] at e
 |leap a h1 h2 =>
  have e:=(rQ (W:=W) (n:=n) (ba:=.int ba) (oc:=.int oc) (ma:=.int ma) (ps:=[.int a]) (by simp) rfl).1
  rwa[show HC 1 0 12 [.int a]=true by simp only[HC,qB,PB,CK,zJ,qA];exact⟨rfl,dt h1,dt h2⟩] at e
 |back a b h1 h2 h3 h4 =>
  have e:=(rQ (W:=W) (n:=n) (ba:=.int ba) (oc:=.int oc) (ma:=.int ma) (ps:=[.int a,.int b]) (by simp) rfl).2.1
  rwa[show HC 2 1 12 [.int a,.int b]=true by simp only[HC,qB,PB,CK,zJ,qA];exact⟨rfl,⟨dt h1,dt h2⟩,dt h3,dt h4⟩] at e
 |again a h1 h2 =>
  have e:=(rQ (W:=W) (n:=n) (ba:=.int ba) (oc:=.int oc) (ma:=.int ma) (ps:=[.int a]) (by simp) rfl).2.2
  rwa[show HC 1 1 3 [.int a]=true by simp only[HC,qB,PB,CK,zJ,qA];exact⟨rfl,dt h1,dt h2⟩] at e
 |range a b h1 h2 h3 =>
  have e:=(VX (W:=W) (n:=n) (ba:=.int ba) (oc:=.int oc) (ma:=ma) (ps:=[.int a,.int b]) (by simp) rfl).1
  rwa[show(HC 2 (-60) 60 [.int a,.int b]&&JS [.int a,.int b])=true by simp only[HC,JS,qB,PB,CK,zJ,qA];exact⟨⟨rfl,⟨dt h1,dt (by lia)⟩,dt (by lia),dt h3⟩,dt h2⟩] at e
 |above v w h1 h2 h3 =>
  have e:=(VX (W:=W) (n:=n) (ba:=.int ba) (oc:=.int oc) (ma:=ma) (ps:=[.int v,.int w]) (by simp) rfl).2
  rwa[show(HC 2 0 ma [.int v,.int w]&&NS [.int v,.int w])=true by simp only[HC,NS,qB,PB,CK,zJ,qA];exact⟨⟨rfl,⟨dt (by lia),dt h1⟩,dt (by lia),dt h2⟩,by rw[zC (by lia)];rfl⟩] at e
 |never a b x h1 h2 h3 h4 h5 =>
  have e:=Kl (W:=W) (n:=n) (ba:=.int ba) (ma:=.int ma) (oc:=oc) (ps:=[.int a,.int b,.str x]) rfl
  have hx:qO (.str x)=true:=by rcases h5 with rfl | rfl | rfl | rfl<;>left
  rwa[show mK oc [.int a,.int b,.str x]=true by simp only[mK,qB,hx,zJ,qA];exact⟨⟨dt h1,dt (by lia)⟩,dt h3,dt (by lia)⟩] at e
theorem NR:∀{j:Nat} {l:List S} {U:Env},MA P C W (l.take j) U=some (.nx,U')->DC P C W l U=DC P C W (l.drop j) U'
 | 0,l,U,h=>by
  rw[YY,OR] at h;cases h;rfl
 |j+1,[],U,h=>by
  rw[wU,OR] at h;cases h;rfl
 |j+1,s::l,U,h=>by
  rw[ya,LV] at h;rw[Le,za]
  generalize ex P C W s U=r at *
  obtain _ | ⟨fl,U1⟩:=r
  ·cases h
  ·cases fl with
   |nx=>exact NR h
   |_=>cases h
noncomputable def MB(r:List bA):bA:=r.getLastD ("":bA)
def Wu(h:r≠[]):bE (some (yA r)) (.int (-1))=some (.s (MB r)):=by
 have hl:0<r.length:=Kq.mpr h;show(WI (r.map D.str) (-1)).map RV.sh=_
 have:WI (r.map D.str) (-1)=some (.str (MB r)):=by(unfold WI L2.aD L2.mE;rw[vB (by  decide),YA,FA (by lia)];show(r.map D.str)[((-1:Int)+r.length).toNat]?=_;rw[IK,show((-1:Int)+r.length).toNat=r.length-1 by lia,<- List.getLast?_eq_getElem?,YT h];unfold MB;rw[rq,YT h];rfl)
 rw[this];rfl
def lKa(h:r≠[]):MB r∈r:=by
 unfold MB;rw[rq,YT h];exact Xa h
def wH(S:List (List bA)):List D:=(S.filter yG).map λr=>aL r.tail
def qH(S:List (List bA)):List D:=(S.filter λr=>!yG r).map λr=>D.t (.str (hd r)::rP (hd r) r.tail)
def Ni{S:List (List bA)}(ok:xR (r0::r1::r2::S)) :
  MA T.aA (run T W (n+5)) W (ZK.body.take 3) ([.sh (.l ((r0::r1::r2::S).map yA))]++FC ZK.nl .un)=some (.nx,[.sh (.l ((r0::r1::r2::S).map yA)),.o (.l [GA (MB r0),GA (MB r1),GA (MB r2)]),.o (.l (wH S)),.o (.l (qH S))]):=by
 have s1:zE (some (.l ((r0::r1::r2::S).map yA))) none (some (.int 3))=some (.ow (.l ([r0,r1,r2].map yA))):=fm (L:=(r0::r1::r2::S).map yA) (c:=3);have s3:zE (some (.l ((r0::r1::r2::S).map yA))) (some (.int 3)) none=some (.ow (.l (S.map yA))):=vQ (L:=(r0::r1::r2::S).map yA) (c:=3)
 have h3:∀r∈[r0,r1,r2],r∈r0::r1::r2::S:=λr hr=>by
  rcases eD.mp hr with rfl | hr
  ·exact .head _
  ·rcases eD.mp hr with rfl | hr
   ·exact .tail _ (.head _)
   ·rw[uF.mp hr];exact .tail _ (.tail _ (.head _))
 have hS:∀r∈S,r∈r0::r1::r2::S:=λr hr=>.tail _ (.tail _ (.tail _ hr))
 obtain⟨U1,c1,t1,rfl,EW⟩:=TK (P:=T.aA) (C:=run T W (n+5)) (JA:=ev T.aA (run T W (n+5)) false yV) (bind:=bB true [1]) (xs:=[r0,r1,r2]) yA (λr=>D.str (MB r)) (λU=>∃t,U=[.un,t]/\UB t=true)
  (λr hr U hU=>by
   obtain⟨s,rfl,hs⟩:=hU;have hx:=Wu (ok.ne r (h3 r hr));refine⟨[.un,.sh (yA r)],.s (MB r),[.un,.sh (yA r)],by simp only[qE,JC hs]<;>rfl, ?_,rfl,_,rfl,rfl⟩;unfold yV
   generalize yA r=d at *
   right) (U:=[.un,.un]) ⟨_,rfl,rfl⟩
 obtain⟨U2,c2,t2,rfl,dg⟩:=JR (tests:=IC T.aA (run T W (n+5)) [(.QA .Eq (.ix (.v 1) (.c (.int 0))) (.c (.str "voice")))]) (JA:=ev T.aA (run T W (n+5)) false P1) (bind:=bB true [1]) (xs:=S) yA yG (λr=>aL r.tail) (λU=>∃t,U=[.un,t]/\UB t=true)
  (λr hr U hU=>by
   obtain⟨s,rfl,hs⟩:=hU;have jD:=ok.ne r (hS r hr);have hx:bE (some (yA r)) (.int 0)=some (.s (hd r)):=by rw[ht jD];exact N6
   have hf:=H_ (W:=W) (n:=n+2) (w:=hd r) (r:=r.tail) (λx hx=>up1 (ok.tg r (hS r hr) x (Gq hx)) (by decide));rw[<- ht jD] at hf;have ev:(hd r == "voice")=yG r:=rfl;refine⟨[.un,.sh (yA r)],[.un,.sh (yA r)],by simp only[qE,JC hs]<;>rfl, ?_,λ_=>⟨.sh (aL r.tail),[.un,.sh (yA r)], ?_,rfl,_,rfl,rfl⟩,λ_=>⟨_,rfl,rfl⟩⟩
   ·generalize yA r=d at *
    generalize hd r=w at *
    generalize yG r=b at *
    cases b<;>right
   ·unfold P1
    generalize yA r=d at *
    generalize aL r.tail=f at *
    right) (U:=[.un,.un]) ⟨_,rfl,rfl⟩
 obtain⟨U3,c3,t3,rfl,ht3⟩:=JR (tests:=IC T.aA (run T W (n+5)) [(.QA .NotEq (.ix (.v 1) (.c (.int 0))) (.c (.str "voice")))]) (JA:=ev T.aA (run T W (n+5)) false Q1) (bind:=bB true [1]) (xs:=S) yA (λr=>!yG r) (λr=>D.t (.str (hd r)::rP (hd r) r.tail)) (λU=>∃t,U=[.un,t]/\UB t=true)
  (λr hr U hU=>by
   obtain⟨s,rfl,hs⟩:=hU;have jD:=ok.ne r (hS r hr);have hx:bE (some (yA r)) (.int 0)=some (.s (hd r)):=by rw[ht jD];exact N6
   have hf:=uWa (W:=W) (n:=n+1) (w:=hd r) (r:=r.tail) (λx hx=>ok.tg r (hS r hr) x (Gq hx)) (by have:=ok.ln r (hS r hr);rw[Cr];lia);rw[<- ht jD] at hf;have ev:(hd r == "voice")=yG r:=rfl;refine⟨[.un,.sh (yA r)],[.un,.sh (yA r)],by simp only[qE,JC hs]<;>rfl, ?_,λ_=>⟨.sh (.t (.str (hd r)::rP (hd r) r.tail)),[.un,.sh (yA r)], ?_,rfl,_,rfl,rfl⟩,λ_=>⟨_,rfl,rfl⟩⟩
   ·generalize yA r=d at *
    generalize hd r=w at *
    generalize yG r=b at *
    cases b<;>right
    all_goals (first | done | rfl)
   ·unfold Q1
    generalize yA r=d at *
    generalize D.t (.str (hd r)::rP (hd r) r.tail)=f at *
    right) (U:=[.un,.un]) ⟨_,rfl,rfl⟩
 have hr:=ZN (W:=W) (n:=n+3) (ws:=[MB r0,MB r1,MB r2]) (λw hw=>by
  have:∃r∈[r0,r1,r2],w=MB r:=by
   rcases eD.mp hw with rfl | hw
   ·exact⟨r0,by simp,rfl⟩
   ·rcases eD.mp hw with rfl | hw
    ·exact⟨r1,by simp,rfl⟩
    ·exact⟨r2,by simp,uF.mp hw⟩
  obtain⟨r,hr,rfl⟩:=this
  exact up1 (ok.tg r (h3 r hr) _ (lKa (ok.ne r (h3 r hr)))) (by decide)) (by simp)
 replace hr:"h"|||n+5|||[.sh (.l [.str (MB r0),.str (MB r1),.str (MB r2)])]|||.ow (.l [GA (MB r0),GA (MB r1),GA (MB r2)]):=hr;replace c1:XD (IC T.aA (run T W (n+5)) []) (ev T.aA (run T W (n+5)) false yV) (bB true [1]) [yA r0,yA r1,yA r2] [] [.un,.un]=some (.ok [.str (MB r0),.str (MB r1),.str (MB r2)],[.un,t1]):=c1;have hl:S.length<=500001:=by have:=ok.all;simp only[fC] at this;lia
 have m2:yB (wH S).length=true:=yC (by unfold wH;rw[YA];have:=ja yG S;lia);have m3:yB (qH S).length=true:=yC (by unfold qH;rw[YA];have:=ja (λr=>!yG r) S;lia);have i1:∀U,aAb .of [.val (.ow (.l [yA r0,yA r1,yA r2]))] U=some ([yA r0,yA r1,yA r2],none):=λU=>LN rfl
 have i2:∀U,aAb .of [.val (.ow (.l (S.map yA)))] U=some (S.map yA,none):=λU=>LN rfl
 replace s1:zE (some (.l ((r0::r1::r2::S).map yA))) none (some (.int 3))=some (.ow (.l [yA r0,yA r1,yA r2])):=s1;replace c2:XD _ _ _ (S.map yA) [] [.un,.un]=some (.ok (wH S),_):=c2;replace c3:XD _ _ _ (S.map yA) [] [.un,.un]=some (.ok (qH S),_):=c3
 generalize wH S=V at *
 generalize qH S=Q at *
 generalize (r0::r1::r2::S).map yA=A at *
 generalize S.map yA=B at *
 generalize yA r0=w0 at *
 generalize yA r1=w1 at *
 generalize yA r2=w2 at *
 generalize GA (MB r0)=x0 at *
 generalize GA (MB r1)=x1 at *
 generalize GA (MB r2)=x2 at *
 generalize MB r0=y0 at *
 generalize MB r1=y1 at *
 generalize MB r2=y2 at *
 unfold ZK
 right
 rw[IE (i1 _)]
 right
 exfalso
 all_goals (try (rw[IE (i2 _)];right))
 exfalso
 all_goals (try (rw[IE (i2 _)];right))
 exfalso
abbrev eJ(r0 r1 r2:List bA)(S:List (List bA)):List Sl:=[.sh (GA (MB r0)),.sh (GA (MB r1)),.sh (GA (MB r2)),.p (.l (wH S)),.p (.l (qH S))]
def oKa{W n:Nat}{r0 r1 r2:List bA}{S:List (List bA)}{x:Exc}(ok:xR (r0::r1::r2::S))(hx:HR x)(h:run T W (n+5) "e" (eJ r0 r1 r2 S)=some (.ex x,eJ r0 r1 r2 S)) :
  "r"&&&n+6&&&[.sh (.l ((r0::r1::r2::S).map yA))]&&&⟨"NoText",none⟩:=by
 rw[sQ (fn:=ZK) rfl rfl rfl];unfold aAD;have hA:=Ni (W:=W) (n:=n) ok;rw[ZE hA,NR hA];clear hA ok;unfold eJ at h
 have hc:∀U,iP vG (some (x,U))=some (⟨"NoText",none⟩,U):=λU=>by
  rcases hx with rfl | ⟨m,rfl⟩ | ⟨m,rfl⟩
  ·exact S0 kx (by left)
  ·exact S0 wx (by show kA "NoVoice"≠_;left)
  ·exact S0 ux (by show kA "NoRule"≠_;left)
 unfold ZK
 generalize (r0::r1::r2::S).map yA=A at *
 generalize GA (MB r0)=x0 at *
 generalize GA (MB r1)=x1 at *
 generalize GA (MB r2)=x2 at *
 generalize wH S=V at *
 generalize qH S=Q at *
 have i2:=@Pc;clear hx
 right
 all_goals (first | done | rfl)
def Oi{W n:Nat}{S:List (List bA)}(ok:xR (r0::r1::r2::S))(h:run T W (n+5) "e" (eJ r0 r1 r2 S)=some (.ok (.sh d),eJ r0 r1 r2 S)) :
  "r"|||n+6|||[.sh (.l ((r0::r1::r2::S).map yA))]|||.sh d:=by
 rw[sQ (fn:=ZK) rfl rfl rfl];rw[ZE (Ni ok)];unfold eJ at h;unfold ZK
 generalize (r0::r1::r2::S).map yA=A at *
 generalize GA (MB r0)=x0 at *
 generalize GA (MB r1)=x1 at *
 generalize GA (MB r2)=x2 at *
 generalize wH S=V at *
 generalize qH S=Q at *
 have i2:=@Pc
 right
def iCa{S:List (List bA)}(ok:xR (r0::r1::r2::S)) :
  (∃x,HR x/\∀W n,run T W (n+5) "e" (eJ r0 r1 r2 S)=some (.ex x,eJ r0 r1 r2 S)) \/
  ∃no ba oc fs rs,HX no ba oc fs rs/\∀W n,run T W (n+5) "e" (eJ r0 r1 r2 S)=some (.ok (.sh ()),eJ r0 r1 r2 S):=by
 have hS:∀r∈S,r∈r0::r1::r2::S:=λr hr=>.tail _ (.tail _ (.tail _ hr))
 have Zf:∀r∈S,(rP (hd r) r.tail).length<=1000000:=λr hr=>by rw[jVa,Cr];have:=ok.ln r (hS r hr);lia
 rcases eCa (a:=GA (MB r0)) (b:=GA (MB r1)) (c:=GA (MB r2)) (vs:=wH S) (rs:=qH S) UK UK UK
  (λx hx=>by
   obtain⟨r,_,rfl⟩:=kC.mp hx
   exact⟨_,W3 _⟩)
  (λba oc o1 x hx=>by
   obtain⟨r,hr,rfl⟩:=kC.mp hx
   exact⟨_,Jl (by lia) (Zf r (OQ.mp hr).1) Sk⟩) with h | ⟨no,ba,oc,ha,hb,hc,⟨n1,n2,b1,b2,o1,o2,l1,l2,l3⟩,hv,hr,h⟩
 ·exact .inl h
 ·obtain⟨fs,f1,f2⟩:=Hi (l:=wH S) (P:=kR) (g:=toD) λx hx=>by
   have h1:=hv x hx;obtain⟨r,_,rfl⟩:=kC.mp hx;obtain⟨f,hf,e,_⟩:=I_ (ou (W3 r.tail) h1);exact⟨f,hf,e⟩
  have l4:(wH S).length=fs.length:=by rw[f2,YA]
  refine .inr ⟨no,ba,oc,fs,qH S,⟨⟨n1,n2,b1,b2,o1,o2,by lia,by lia,f1⟩,l3,λx hx=>?_⟩,λW n=>?_⟩
  ·have h1:=hr x hx;obtain⟨r,QH,rfl⟩:=kC.mp hx;rw[<- l4];exact tWa o1 (eu (Jl (by lia) (Zf r (OQ.mp QH).1) Sk) h1)
  ·have e:D.t [GA (MB r0),GA (MB r1),GA (MB r2),.t (wH S),.t (qH S)]=AW no ba oc fs (qH S):=by rw[ha,hb,hc,f2];rfl
   rw[h W n,e]
def hCa(h:HX no ba oc fs rs):wH (fs.map vW++rs.map rW)=fs.map toD/\qH (fs.map vW++rs.map rW)=rs:=by
 have hv:∀f,yG (vW f)=true:=λf=>WC (("voice":bA))
 have hr:∀d∈rs,yG (rW d)=false:=λd hd=>by(obtain⟨x,r,e,hx⟩:=(h.r d hd).nv;rw[e];exact hx)
 have q1:(fs.map vW).filter yG=fs.map vW:=Aa.mpr λr QH=>by obtain⟨f,_,rfl⟩:=kC.mp QH;exact hv f
 have q2:(rs.map rW).filter yG=[]:=Aq.mpr λr QH=>by obtain⟨d,hd,rfl⟩:=kC.mp QH;rw[hr d hd];decide
 have q3:(fs.map vW).filter (λr=>!yG r)=[]:=Aq.mpr λr QH=>by obtain⟨f,_,rfl⟩:=kC.mp QH;rw[hv f];decide
 have q4:(rs.map rW).filter (λr=>!yG r)=rs.map rW:=Aa.mpr λr QH=>by obtain⟨d,hd,rfl⟩:=kC.mp QH;rw[hr d hd];rfl
 refine⟨?_, ?_⟩
 ·unfold wH;rw[JQ,q1,q2,jI,oG];exact xO λf hf=>(Ve (h.ho.f f hf)).1
 ·unfold qH;rw[JQ,q3,q4,pU,oG];refine(xO λd hd2=>?_).trans (VQ _);obtain⟨x,r,e,hx⟩:=(h.r d hd2).nv
  have:=sWa h.ho.b2 h.ho.o2 (by have:=h.ho.l2;lia) (h.rr.2 d hd2) e
  show D.t (.str (hd (rW d))::rP (hd (rW d)) (rW d).tail)=d;rw[e];exact this
def lCa(h:HX no ba oc fs rs)(W n:Nat):"e"|||n+5|||[.i no,.i ba,.i oc,.p (.l (fs.map toD)),.p (.l rs)]|||.sh ():=by
 obtain⟨n1,n2,b1,b2,o1,o2,l1,l2,hf⟩:=h.ho;obtain⟨q1,q2⟩:=h.rr;have wi:∀{i lo hi:Int},lo<=i->i<=hi->qB lo hi (.int i)=true:=λh1 h2=>by simp only[qB,qA,vF];exact⟨h1,h2⟩
 refine Vf (λW n=>?_) (λx hx=>?_) λx hx=>?_
 ·have:=gf (W:=W) (n:=n) (a:=.int no) (b:=.int ba) (c:=.int oc) (vs:=fs.map toD) (rs:=rs) rfl rfl rfl
  rw[wi n1 n2,wi b1 b2,wi o1 o2,GC (by rw[YA];lia),GC (by rw[YA];lia),zC (by lia)] at this;exact this
 ·obtain⟨f,hff,rfl⟩:=kC.mp hx;obtain⟨e1,e2⟩:=Ve (hf f hff)
  have:=W3 (num f.1::num f.2.1::(if f.2.2=true then [("turned":bA)] else []))
  rwa[e1,e2] at this
 ·rw[YA];exact λW n=>xWa o1 (q2 x hx)
def E8(h:TG 500000 t):MA T.aA (run T W n) W (sI.body.take 2) ([.s t]++FC sI.nl .un)=some (.nx,[.s t,.o (.l ((aAk t).map yA)),.un]):=by
 obtain⟨ok,ne,hj⟩:=L8 h;clear hj;obtain⟨s0,hc⟩:=iWa (W:=W) (n:=n) (el:=ue) rfl h;have xG:∀U,tK "\n" U (some (.s t))=some (.ok (.ow (.l ((kB t "\n").map D.str))),U):=λU=>bY DM h (by decide)
 have hi0:∀U,aAb .of [.val (.ow (.l ((kB t "\n").map D.str)))] U=some ((kB t "\n").map D.str,none):=λU=>LN rfl
 have wG:yB ((aAk t).map yA).length=true:=yC (by rw[YA];have:=ok.all;lia);unfold sI
 generalize (kB t "\n").map D.str=M at *
 generalize (aAk t).map yA=L at *
 clear h ok ne
 right
 rw[IE (hi0 _)]
 right
 exfalso
abbrev VN(t:D):uA RV:=some (.ex ⟨"NoText",none⟩,[.sh t])
def yVa(h:TG 500000 t)(hl:(aAk t).length<3):run T W (n+7) "g" [.s t]=VN (.str t):=by
 rw[sQ (fn:=sI) rfl rfl rfl];unfold aAD;have hA:=E8 (W:=W) (n:=n+6) h;rw[ZE hA,NR hA];have e:decide (((aAk t).map yA).length<(3:Int))=true:=GC (by rw[YA];lia);unfold sI
 generalize (aAk t).map yA=L at *
 right
def xVa(h:TG 500000 t)(hl:3<=(aAk t).length)(hm:"r"&&&n+6&&&[.sh (.l ((aAk t).map yA))]&&&⟨"NoText",none⟩):run T W (n+7) "g" [.s t]=VN (.str t):=by
 rw[sQ (fn:=sI) rfl rfl rfl];unfold aAD;have hA:=E8 (W:=W) (n:=n+6) h;rw[ZE hA,NR hA];have e:decide (((aAk t).map yA).length<(3:Int))=false:=zC (by rw[YA];lia);unfold sI
 generalize (aAk t).map yA=L at *
 right
 all_goals (first | done | rfl)
def ll(h:TG 500000 t)(hl:3<=(aAk t).length)(hm:"r"|||n+6|||[.sh (.l ((aAk t).map yA))]|||.sh d)(hs:"q"|||n+6|||[.sh d]|||.s x) :
  run T W (n+7) "g" [.s t]=if(x==t)=true then some (.ok (.sh d),[.s t]) else VN (.str t):=by
 rw[sQ (fn:=sI) rfl rfl rfl];unfold aAD;have hA:=E8 (W:=W) (n:=n+6) h;rw[ZE hA,NR hA];have e:decide (((aAk t).map yA).length<(3:Int))=false:=zC (by rw[YA];lia);unfold sI
 generalize (aAk t).map yA=L at *
 cases c:x==t
 ·right
 ·right
def aWa(W n:Nat)(h:TG 500000 t):run T W (n+7) "g" [.s t]=VN (.str t)\/∃no ba oc fs rs,HX no ba oc fs rs/\RB no ba oc fs rs=t/\"g"|||n+7|||[.s t]|||.sh ():=by
 obtain⟨ok,ne,hj⟩:=L8 h;by_cases c:(aAk t).length<3
 ·exact .inl (yVa h c)
 obtain⟨r0,r1,r2,S,hR⟩:∃r0 r1 r2 S,aAk t=r0::r1::r2::S:=by
  match aAk t,c with
  |r0::r1::r2::S,_=>exact⟨_,_,_,_,rfl⟩
  |[],c=>simp at c
  |[_],c=>simp at c
  |[_,_],c=>simp at c
 rw[hR] at ok;rcases iCa ok with ⟨x,hx,he⟩ | ⟨no,ba,oc,fs,rs,hh,he⟩
 ·refine .inl (xVa h (by lia) ?_);rw[hR];exact oKa ok hx (he W n)
 ·have hm:=Oi ok (he W n);rw[<- hR] at hm;have hs:=ll h (by lia) hm (J5 (n:=n+3) hh);cases q:RB no ba oc fs rs==t
  ·rw[q,YC] at hs;exact .inl hs
  ·rw[q,FA rfl] at hs;exact .inr ⟨no,ba,oc,fs,rs,hh,uB q,hs⟩
def C9(h:HX no ba oc fs rs):TG 30000 (RB no ba oc fs rs):=by
 obtain⟨l1,l2,l3⟩:=h.len;exact(ZP DM (by decide) (B:=2000) (N:=30000) (λw hw=>(h.row w hw).1) (by rw[YA,l1];lia) (by decide)).1
def bWa(h:HX no ba oc fs rs)(W n:Nat):"g"|||n+7|||[.s (RB no ba oc fs rs)]|||.sh ():=by
 have ht:=(C9 h).up (m:=500000) (by decide);obtain⟨ok,ne,hj⟩:=L8 ht;have hR:=jWa h;rw[Cf] at hR;rw[hR] at ok;obtain⟨e1,e2⟩:=hCa h;obtain⟨k1,k2,k3,_⟩:=h.hd;have hv:=lCa h W n
 have hl:∀{x:bA} {i:Int},YL i->GA (MB [x,num i])=.int i:=λ{x i} hn=>by(show GA (num i)=_;unfold GA;rw[jl hn])
 have hm:=Oi ok (d:=()) (by
  unfold eJ;rw[hl k1,hl k2,hl k3,e1,e2]
  exact hv)
 rw[<- hR] at hm;have hs:=ll ht (by rw[hR];simp) hm (J5 (n:=n+3) h)
 rwa[WC,FA rfl] at hs
def cWa(W n:Nat)(hd:sE [.str] (some d)=some (.b false)):run T W (n+7) "g" [.sh d]=VN d:=by
 exists sI
 right
section
variable{P:SA}{C:Calls}{W:Nat}{U:Env}{t:Bool}{ks:List bA}{vs:List Int}
def zP(ks:List bA)(o:Option D):Option RV:=o.bind (iW ks)
theorem B4:zP ks (some (.str x))=some (.b (!ks.contains x)):=rfl
def Lh(ks:List bA)(x:Hd)(U:Env):uA RV:=done (zP ks (x.get U)) U
theorem ZW:Lh ks x U=done (zP ks (x.get U)) U:=rfl
theorem FV:ev P C t (.rM ks a) U=aAg t ((iC P C a U).bind (Lh ks)):=rfl
def YR(ks:List bA)(vs:List Int)(o:Option D):Option RV:=o.bind (A4 ks vs)
theorem tf:YR ks vs (some (.str x))=((ks.zip vs).lookup x).map λi=>.i i:=rfl
def Kh(ks:List bA)(vs:List Int)(x:Hd)(U:Env):uA RV:=done (YR ks vs (x.get U)) U
theorem YW:Kh ks vs x U=done (YR ks vs (x.get U)) U:=rfl
theorem EV:ev P C t (.AN ks vs a) U=aAg t ((iC P C a U).bind (Kh ks vs)):=rfl
theorem BX:iC P C (.AN ks vs a) U=(ev P C false (.AN ks vs a) U).bind dG:=rfl
def Zo(o:Option Sl):Option RV:=o.bind G9
theorem IV:ev P C t (.IT i) U=aAg t (done (Zo U[i]?) U):=rfl
def zg(o:Option Sl):Option RV:=o.bind X5
theorem HV:ev P C t (.oS i) U=aAg t (done (zg U[i]?) U):=rfl
theorem sN:oF P C W (.rK i f cs e) U=ED P C e U:=rfl
end
def hYa{r L:List D}(h0:0<=i)(h1:i<=no-1)(hl:L.length<60):"s"|||n+3|||[.sh (.t (.int no::r)),.sh (.l L),.i i]|||.ow (.l (L++[.int i])):=by
 have hw:=YG (W:=W) (n:=n) (d:=.int i) (lo:=0) (hi:=no-1) rfl;have c:qB 0 (no-1) (.int i)=true:=by simp only[qB,qA,vF];exact⟨h0,h1⟩
 rw[c] at hw;have e:decide ((L.length:Int)=60)=false:=zC (by lia);have hb:IB .Add (.l L) (.l [.int i])=some (.ow (.l (L++[.int i]))):=XI (rJ (by show L.length+1<=_;lia))
 exists WV
 clear c h0 h1 hl
 right
def gYa{r L:List D}(h:¬(0<=i/\i<=no-1)\/L.length=60):"s"&&&n+3&&&[.sh (.t (.int no::r)),.sh (.l L),.i i]&&&⟨"NoNote",none⟩:=by
 have hw:=YG (W:=W) (n:=n) (d:=.int i) (lo:=0) (hi:=no-1) rfl
 exists WV
 cases q:qB 0 (no-1) (.int i) with
 |false =>
  rw[q] at hw;clear h q
  right
 |true =>
  obtain⟨j,e,k⟩:=xH q;cases e;have e:decide ((L.length:Int)=60)=true:=GC (by rcases h with h | h;exact absurd k h;lia);rw[q] at hw;clear h q k
  right
def Bv:"t"&&&n+1&&&[.sh (.l [])]&&&⟨"NoNote",none⟩:=by
 exists YV
 have e:decide (((0:Nat):Int)=0)=true:=rfl
 right
def z2a(hd:sE [.str] (some d)=some (.b false)):"j"&&&n+1&&&[.sh d]&&&⟨"NoRow",none⟩:=by
 exists ZV
 right
def M9(h:TG 500000 t):"j"|||n+1|||[.s t]|||.ow (yA (kB t " ")):=by
 have xG:∀U,tK " " U (some (.s t))=some (.ok (.ow (yA (kB t " "))),U):=λU=>bY yF h (by decide)
 exists ZV
 right
def oLa(h:pF.contains w=false):"k"&&&n+3&&&[.sh (yA (w::r))]&&&⟨"NoRow",none⟩:=by
 have e:zP pF (some (.str w))=some (.b true):=by rw[B4,h];rfl
 exists UR
 unfold yA;rw[pD];generalize r.map D.str=R
 walk_at "!FV ZW EV YW BX"
def nLa(h:pF.contains w=true)(hk:(pF.zip cL).lookup w=some k)(hl:(r.length:Int)≠k):"k"&&&n+3&&&[.sh (yA (w::r))]&&&⟨"NoRow",none⟩:=by
 have e:zP pF (some (.str w))=some (.b false):=by rw[B4,h];rfl
 have e1:YR pF cL (some (.str w))=some (.i k):=by rw[tf,hk];rfl
 have e2:decide ((((r.map D.str).length+1:Nat):Int)-1=k)=false:=zC (by rw[YA];lia)
 exists UR
 unfold yA;rw[pD]
 generalize r.map D.str=R at *
 walk_at "!FV ZW EV YW BX"
def jDa(h:∀d∈ds,d=.rA\/∃i,d=.int i):∃b,mC .In .rA (.l ds)=some b/\(b=true↔.rA∈ds):=by
 refine⟨inD .rA ds,FA ?_, ?_⟩
 ·rw[qA];exact⟨rfl,jF.mpr λd hd=>by rcases h d hd with rfl | ⟨i,rfl⟩<;>rfl⟩
 ·unfold inD;rw[Dr];constructor
  ·rintro⟨y,hy,e⟩
   rcases h y hy with rfl | ⟨i,rfl⟩
   ·exact hy
   ·cases e
  ·intro hm;exact⟨_,hm,rfl⟩
def U7(h:pF.contains w=true)(hk:(pF.zip cL).lookup w=some (r.length:Int))(ht:∀x∈r,TG 1000000 x)(hl:r.length<=1000000)(hb:mC .In .rA (.l (r.map GA))=some b) :
  run T W (n+3) "k" [.sh (yA (w::r))]=if b=true then some (.ex ⟨"NoRow",none⟩,[.sh (yA (w::r))]) else some (.ok (.ow (.l (r.map GA))),[.sh (yA (w::r))]):=by
 have e:zP pF (some (.str w))=some (.b false):=by rw[B4,h];rfl
 have e1:YR pF cL (some (.str w))=some (.i (r.length:Int)):=by rw[tf,hk];rfl
 have e2:decide ((((r.map D.str).length+1:Nat):Int)-1=(r.length:Int))=true:=GC (by rw[YA];lia);have s2:zE (some (yA (w::r))) (some (.int 1)) none=some (.ow (yA r)):=vQ (L:=(w::r).map D.str) (c:=1);have hr:=ZN (W:=W) (n:=n) ht hl
 exists UR
 unfold yA;unfold yA at s2 hr;rw[pD] at s2;rw[pD]
 generalize r.map D.str=R at *
 generalize r.map GA=N at *
 generalize (r.length:Int)=k at *
 cases b
 ·rw[YC]
  walk_at "!FV ZW EV YW BX"
 ·rw[FA rfl]
  walk_at "!FV ZW EV YW BX"
section
variable{P:SA}{C:Calls}{W:Nat}{U:Env}{t p:Bool}{v:RV}{a b:D}{i:Nat}
def ZH(i:Nat)(f:bA)(cs:List bA)(v:RV)(U:Env)(o:Option Sl):Run:=match o with
 |some (.ow (.ins c ns ds) p false)=>if cs.contains c/\ns.length<900 then some (.nx,U.set i (.ow (.ins c (aAx f ns) (UG f v.d ns ds)) p false)) else none
 |_=>none
theorem gO:XX i f cs v U=ZH i f cs v U U[i]?:=rfl
def WX(h:cs.contains c=true/\ns.length<900):ZH i f cs v U (some (.ow (.ins c ns ds) p false))=some (.nx,U.set i (.ow (.ins c (aAx f ns) (UG f v.d ns ds)) p false)):=by
 unfold ZH;exact FA h
def fh:sP.contains "Desk"=true:=by left
def fl:tP.contains "Desk"=true:=by left
theorem hl:¬kA "house"=kA "line":=by left
def bO:ZH i "house" sP v U (some (.ow (.ins "Desk" [] []) p false))=some (.nx,U.set i (.ow (.ins "Desk" ["house"] [v.d]) p false)):=WX ⟨fh,by decide⟩
def eO:ZH i "line" tP v U (some (.ow (.ins "Desk" ["house"] [a]) p false))=some (.nx,U.set i (.ow (.ins "Desk" ["house","line"] [a,v.d]) p false)):=by
 rw[WX ⟨fl,by decide⟩];simp only[aAx,UG,vB hl]
def dO:ZH i "house" sP v U (some (.ow (.ins "Desk" ["house","line"] [a,b]) p false))=some (.nx,U.set i (.ow (.ins "Desk" ["house","line"] [v.d,b]) p false)):=by
 rw[WX ⟨fh,by simp⟩];simp only[aAx,UG,if_true]
def fO:ZH i "line" tP v U (some (.ow (.ins "Desk" ["house","line"] [a,b]) p false))=some (.nx,U.set i (.ow (.ins "Desk" ["house","line"] [a,v.d]) p false)):=by
 rw[WX ⟨fl,by simp⟩];simp only[aAx,UG,vB hl,if_true]
theorem TH:HS as (some (.ex x,U)) (some (y,U'))=some (.ex y,back as U'):=rfl
end
def cB(h:D)(L:List D):D:=.ins "Desk" ["house","line"] [h,.l L]
def f6(hr:"g"|||n+7|||[.sh d]|||.sh h):run T W (n+8) "l" [.p (.ins "Desk" [] []),.sh d]=some (.ok (.sh .rA),[.p (cB h []),.sh d]):=by
 exists OV
 unfold cB
 walk_at "!TH tN gO bO eO dO fO sN"
def Gg(hr:run T W (n+7) "g" [.sh d]=VN d):"l"&&&n+8&&&[.p (.ins "Desk" [] []),.sh d]&&&⟨"NoText",none⟩:=by
 unfold VN at hr
 exists OV
 walk_at "!TH tN gO bO eO dO fO sN"
def SR{L:List D}:S2 (some (.ins "Desk" ["house","line"] [h,.l L])) "house"=some (.sh h):=by
 show(CG ("house":bA) [(kA "house",h),(kA "line",D.l L)]).map RV.sh=_;rw[LF,WC];rfl
def TR{L:List D}:S2 (some (.ins "Desk" ["house","line"] [h,.l L])) "line"=some (.sh (.l L)):=by
 show(CG ("line":bA) [(kA "house",h),(kA "line",D.l L)]).map RV.sh=_;rw[LF,show(("line":bA) == "house")=false by left,LF,WC];rfl
def mXa{L:List D}(hw:"j"&&&n+4&&&[.sh d]&&&x):"b"&&&n+5&&&[.p (cB h L),.sh d]&&&x:=by
 exists vN
 unfold cB
 walk_at "!TH tN gO bO eO dO fO sN SR TR"
def lXa{L:List D}(hw:"j"|||n+4|||[.sh d]|||.ow (yA ws))(hn:"k"&&&n+4&&&[.sh (yA ws)]&&&x) :
  "b"&&&n+5&&&[.p (cB h L),.sh d]&&&x:=by
 exists vN
 unfold cB;unfold yA at hw hn
 generalize ws.map D.str=V at *
 walk_at "!TH tN gO bO eO dO fO sN SR TR"
noncomputable def gP:D:=.t [.str "sing",.str "back",.str "less",.str "without",.str "over"]
def WN(W n:Nat)(d:D)(w:bA)(r:List bA)(N:List D):Prop:="j"|||n+4|||[.sh d]|||.ow (.l (.str w::r.map D.str))/\"k"|||n+4|||[.sh (.l (.str w::r.map D.str))]|||.ow (.l N)
def Pl{L N:List D}{w:bA}{r:List bA}(hq:WN W n d w r N)(hc:mC .NotIn (.str w) gP=some true)(ha:"v"|||n+4|||[.sh h,.sh (.l L),.s w,.p (.l N)]|||.sh a) :
  "b"|||n+5|||[.p (cB h L),.sh d]|||.sh a:=by
 exists vN
 unfold cB;obtain⟨hw,hn⟩:=hq;unfold gP at hc
 generalize r.map D.str=V at *
 walk_at "!TH tN gO bO eO dO fO sN SR TR"
def Ql{L N L2:List D}{w:bA}{r:List bA}(hq:WN W n d w r N)(hc:mC .NotIn (.str w) gP=some false)(ha:"o"|||n+4|||[.sh h,.sh (.l L),.s w,.p (.l N)]|||.sh (.t [h2,.l L2])) :
  run T W (n+5) "b" [.p (cB h L),.sh d]=some (.ok (.s "ok"),[.p (cB h2 L2),.sh d]):=by
 exists vN
 unfold cB;obtain⟨hw,hn⟩:=hq;unfold gP at hc
 generalize r.map D.str=V at *
 walk_at "!TH tN gO bO eO dO fO sN SR TR"
def Rl{L N:List D}(hq:WN W n d w r N)(hc:mC .NotIn (.str w) gP=some false)(ha:"o"&&&n+4&&&[.sh h,.sh (.l L),.s w,.p (.l N)]&&&x) :
  "b"&&&n+5&&&[.p (cB h L),.sh d]&&&x:=by
 exists vN
 unfold cB;obtain⟨hw,hn⟩:=hq;unfold gP at hc
 generalize r.map D.str=V at *
 walk_at "!TH tN gO bO eO dO fO sN SR TR"
section
variable{P:SA}{C:Calls}{W:Nat}{U:Env}
theorem nP:ED P C (.t es) U=YK P C es U:=rfl
def l7(P:SA)(C:Calls)(es:List E)(e:E)(U:Env)(r:uA RV):Option (Exc×Env):=match r with
 |some (.ok _,U1)=>YK P C es U1
 |_=>ED P C e U
theorem oP:YK P C (e::es) U=l7 P C es e U (ev P C false e U):=rfl
theorem bQ:l7 P C es e U (some (.ok v,U1))=YK P C es U1:=rfl
theorem aQ:l7 P C es e U (some (.ex x,U1))=ED P C e U:=rfl
end
def zx{L L2:List D}(hs:"s"|||n+3|||[.sh h,.sh (.l L),.i i]|||.ow (.l L2)) :
  "o"|||n+4|||[.sh h,.sh (.l L),.s "sing",.p (.l [.int i])]|||.sh (.t [h,.l L2]):=by
 exists vP
 have e:(("sing":bA) == "sing")=true:=WC _
 walk_at "!TH nP oP bQ aQ"
def xx{L L2:List D}(hs:"t"|||n+3|||[.sh (.l L)]|||.ow (.l L2)) :
  "o"|||n+4|||[.sh h,.sh (.l L),.s "back",.p (.l [])]|||.sh (.t [h,.l L2]):=by
 exists vP
 have e:(("back":bA) == "sing")=false:=by left
 have e1:(("back":bA) == "back")=true:=WC _
 walk_at "!TH nP oP bQ aQ"
def Ku{L N:List D}(hs:"u"|||n+3|||[.sh (.l L)]|||.s t) :
  "v"|||n+4|||[.sh h,.sh (.l L),.s "line",.p (.l N)]|||.s t:=by
 exists PV
 have e:(("line":bA) == "line")=true:=WC _
 walk_at "!TH nP oP bQ aQ"
def Ju{L N:List D}(hs:"q"|||n+3|||[.sh h]|||.s t) :
  "v"|||n+4|||[.sh h,.sh (.l L),.s "house",.p (.l N)]|||.s t:=by
 exists PV
 have e:(("house":bA) == "line")=false:=by left
 have e1:(("house":bA) == "house")=true:=WC _
 walk_at "!TH nP oP bQ aQ"
def Ax{L:List D}(hs:"s"&&&n+3&&&[.sh h,.sh (.l L),.i i]&&&x) :
  "o"&&&n+4&&&[.sh h,.sh (.l L),.s "sing",.p (.l [.int i])]&&&x:=by
 exists vP
 have e:(("sing":bA) == "sing")=true:=WC _
 walk_at "!TH nP oP bQ aQ"
def yx{L:List D}(hs:"t"&&&n+3&&&[.sh (.l L)]&&&x) :
  "o"&&&n+4&&&[.sh h,.sh (.l L),.s "back",.p (.l [])]&&&x:=by
 exists vP
 have e:(("back":bA) == "sing")=false:=by left
 have e1:(("back":bA) == "back")=true:=WC _
 walk_at "!TH nP oP bQ aQ"
section
variable{P:SA}{C:Calls}{W:Nat}{U:Env}{t p l:Bool}
def HF:oH "Desk" ["house","line"] "say" DL=some "b":=by left
def Xy(h1:U[i]?=some (.ow (.ins c ns ds) p l))(h2:oH c ns m tb=some f)(h3:VB P C (e0::es) U=some (.ok hs,U1))(h4:XC (P f) (C f) (.slot i::hs) U1=some (.ex x,U2)) :
  ED P C (.fG i m tb (e0::es)) U=some (x,U2):=by
 rw[Fe,h1];simp only[h2,h3,h4]
end
def aAS{L:List D}{due:bA}{w:bA}(hs:"b"|||n+5|||[.p (cB h L),.sh d]|||.s w) :
  "p"|||n+6|||[.p (cB h L),.sh d,.s due]|||.b (w==due):=by
 exists y3
 unfold cB;unfold cB at hs
 walk_at "!cG aG bG HF"
def zd(h:vG.contains c=true)(hi:i≠j):SJ vG i j (some (⟨c,none⟩,U))=CS i j (.CB c none) (store i (.sh (.CB c none)) U):=jx (x:=⟨c,none⟩) h hi
def Ol{L:List D}(hc:vG.contains c=true)(hs:"b"&&&n+5&&&[.p (cB h L),.sh d]&&&⟨c,none⟩)
  (hw:"m"|||n+5|||[.sh (.CB c none)]|||.s w) :
  "i"|||n+6|||[.p (cB h L),.sh d]|||.s w:=by
 have hk:∀U,SJ vG 3 2 (some (⟨c,none⟩,U))=CS 3 2 (.CB c none) (store 3 (.sh (.CB c none)) U):=λU=>zd hc (by decide)
 have hx:ED T.aA (run T W (n+5)) (.fG 0 "say" DL [.v 1]) [.p (cB h L),.sh d,.sh .rA,.un]=some (⟨c,none⟩,[.p (cB h L),.sh d,.sh .rA,.un]):=by
  refine Xy (hs:=[.slot 1]) (U1:=[.p (cB h L),.sh d,.sh .rA,.un]) rfl HF rfl ?_
  walk_at "!cG aG bG HF"
 exists Z2
 unfold cB at hs hx ⊢
 walk_at "!cG aG bG HF"
section
variable{p l:Bool}
def L9(x0:EF UT (some (.CB c none))=some (.b false))(x1:EF VT (some (.CB c none))=some (.b a))(x2:EF WT (some (.CB c none))=some (.b b))(x3:EF XT (some (.CB c none))=some (.b d))
  (hc:∃t,XD (IC T.aA (run T W n) []) (ev T.aA (run T W n) false qe) (bB true [1]) [.bl a,.bl b,.bl d] [] [.un,.un]=some (.ok [.int e1,.int e2,.int e3],[.un,t])) (hb:rD .sum [.l [.int e1,.int e2,.int e3]]=some (.i 1))
  (hi:∀p l,zg (some (.ow (.l [.bl a,.bl b,.bl d]) p l))=some (.i i)) (hx:bE (some (.l [.str "note",.str "row",.str "text"])) (.int i)=some (.s w)) :
  "m"|||n+1|||[.sh (.CB c none)]|||.s w:=by
 exists A3
 have hv:sE [.MT] (some (.CB c none))=some (.b true):=rfl;obtain⟨t,hc⟩:=hc
 walk_at "!HV"
 rw[Bh (G6 rfl)];simp only[aAd,lG,mG]
 walk_at "!HV"
 rw[WD rfl]
 walk_at "!HV"
 simp only[aAq,aAl,OE,aH,lG,mG,jE]
 walk_at "!HV"
def w2a:"m"|||n+1|||[.sh (.CB "NoNote" none)]|||.s "note":=L9 iFa lFa oFa rFa ⟨_,rfl⟩ rfl (λ_ _=>rfl) rfl
def x2a:"m"|||n+1|||[.sh (.CB "NoRow" none)]|||.s "row":=L9 jFa mFa pFa sFa ⟨_,rfl⟩ rfl (λ_ _=>rfl) rfl
def y2a:"m"|||n+1|||[.sh (.CB "NoText" none)]|||.s "text":=L9 kFa nFa qFa tFa ⟨_,rfl⟩ rfl (λ_ _=>rfl) rfl
end
section
variable{P:SA}{C:Calls}{W:Nat}{U:Env}
def Wy(h1:uD P C es U=some (.ok ds,U1))(h2:(P f).length=ds.length+1)(h3:C f (.p (.ins c [] [])::ds.map .sh)=some (.ex x,U2)):ED P C (.FF c f es) U=some (x,U1):=by
 rw[Ee,h1];simp only[h2,h3,if_true]
def yz(h1:uD P C es U=some (.ok ds,U1))(h2:(P f).length=ds.length+1)(h3:C f (.p (.ins c [] [])::ds.map .sh)=some (.ex x,U2)):ev P C false (.FF c f es) U=none:=by
 rw[Ge,h1];show(if(P f).length=ds.length+1 then UN U1 (C f (.p (.ins c [] [])::ds.map .sh)) else none)=_;rw[FA h2,h3];rfl
end
theorem v_:fR k none=none:=rfl
def tj(hr:"l"&&&n+8&&&[.p (.ins "Desk" [] []),.sh d]&&&⟨"NoText",none⟩) :
  "C"|||n+9|||[.sh d]|||.b true:=by
 have hw:=y2a (W:=W) (n:=n+7);have hk:∀U,SJ vG 2 1 (some (⟨"NoText",none⟩,U))=CS 2 1 (.CB "NoText" none) (store 2 (.sh (.CB "NoText" none)) U):=λU=>zd vx (by decide)
 have hx:ED T.aA (run T W (n+8)) (.FF "Desk" "l" [.v 0]) [.sh d,.sh .rA,.un]=some (⟨"NoText",none⟩,[.sh d,.sh .rA,.un]):=Wy (ds:=[d]) rfl rfl hr;have hy:ev T.aA (run T W (n+8)) false (.FF "Desk" "l" [.v 0]) [.sh d,.sh .rA,.un]=none:=yz (ds:=[d]) rfl rfl hr;have e:(("text":bA) == "text")=true:=WC _;have hw:"m"|||n+8|||[.sh (.CB "NoText" none)]|||.s "text":=hw
 exists V2
 clear hr
 walk_at "!v_"
def kYa{L:List D}:zE (some (.l (L++[x]))) none (some (.int (-1)))=some (.ow (.l L)):=by
 show some (RV.ow (.l (aAw (L++[x]) none (some (-1)))))=_
 have:aAw (L++[x]) none (some (-1))=L:=by(unfold aAw HT.pB;simp only[iF,FY,yb,Nat.sub_zero];rw[FA (by decide),show((-1:Int)+((L.length+1:Nat):Int)).toNat=L.length by lia,List.take_left])
 rw[this]
def KZ{L:List D}:"t"|||n+1|||[.sh (.l (L++[x]))]|||.ow (.l L):=by
 exists YV
 have hs:=kYa (L:=L) (x:=x);have e:decide (((L++[x]).length:Int)=0)=false:=zC (by rw[iF,FY];lia)
 generalize L++[x]=M at *
 right
def kX{m:Nat}:∀c∈(num (m:Int)).cps.toList,48<=c/\c<=57:=λc hc=>by
 unfold num at hc;rw[ub] at hc;obtain⟨ch,h,rfl⟩:=kC.mp hc;exact PyProof.Rows.digit_range (lq (by decide) (by decide) h)
def gj{m:Nat}:RL (num (m:Int)).cps.toList=m:=by
 unfold num;rw[ub,W.KIN.val_back]
def T7{m:Nat}(h:m<10 ^ 60):1<=(num (m:Int)).cps.toList.length/\(num (m:Int)).cps.toList.length<=60:=by
 unfold num;rw[ub,YA];exact⟨Nat.length_toDigits_pos,(Nat.length_toDigits_le_iff (by decide) (by decide)).mpr h⟩
def fj{m:Nat}(h:m<10 ^ 60):DI (num (m:Int)).cps.toList=true:=by
 have:=T7 h
 unfold DI;rw[GC this.1,GC this.2,XM,XM,jF];intro c hc
 have:=kX c hc
 rw[Oe c (by lia),GC this.1,GC this.2];rfl
def mX{m:Nat}:(num (Int.negSucc m)).cps.toList=45::(num ((m+1:Nat):Int)).cps.toList:=by
 rw[zj,tG,show("-":bA).cps.toList=[45] by left];rfl
def bj{m:Nat}:aAE (num (m:Int)).cps.toList=false:=by
 cases q:(num (m:Int)).cps.toList with
 |nil=>rfl
 |cons c r =>
  have:=kX (m:=m) c (by rw[q];exact BE)
  exact DJ.mpr (by lia)
def Zk(h:DI (iD w.cps.toList)=true)(hv:vL w.cps.toList=i)(hn:num i=w):GA w=.int i:=by
 unfold GA YH;rw[FA h,hv,FA hn]
def v9(h:w.cps.toList.length<=N)(ha:w.cps.all (·<128)=true):TG N w:=⟨lD (ZY bH.symm) h,ha⟩
structure EH(i:Int):Prop where
 rd:GA (num i)=.int i
 tg:TG 61 (num i)
 uN:32 ∉ (num i).cps.toList
 s:rD .str [.int i]=some (.s (num i))
def xZa(h:i.natAbs<10 ^ 60):rD .str [.int i]=some (.s (num i)):=by
 refine MV ?_ (nK (wX _));by_cases h0:i.natAbs=0
 ·rw[h0];decide
 ·rw[DU h0];exact iE h (lD (show 10 ^ 60<=2 ^ 200 by decide) (QL (i:=200) (j:=1920) (by decide) (by decide)))
def VZ{i:Int}(h:i.natAbs<10 ^ 60):EH i:=by
 have hs:=xZa h
 cases i with
 |ofNat m =>
  have h:m<10 ^ 60:=h;have hl:=T7 h;have e:iD (num (Int.ofNat m)).cps.toList=(num (m:Int)).cps.toList:=by unfold iD;rw[show aAE (num (Int.ofNat m)).cps.toList=false from bj];rfl
  refine⟨Zk (by rw[e];exact fj h) ?_ rfl,v9 (lD hl.2 (by decide)) (wX _),λz=>?_,hs⟩
  ·unfold vL;rw[e,show aAE (num (Int.ofNat m)).cps.toList=false from bj,gj];rfl
  ·have:=kX (m:=m) 32 z
   lia
 |negSucc m =>
  have h:m+1<10 ^ 60:=h;have hl:=T7 h;have q:aAE (num (Int.negSucc m)).cps.toList=true:=by rw[mX];rfl
  have e:iD (num (Int.negSucc m)).cps.toList=(num ((m+1:Nat):Int)).cps.toList:=by unfold iD;rw[q,mX];rfl
  refine⟨Zk (by rw[e];exact fj h) ?_ rfl,v9 (by rw[mX,fC];lia) (wX _),λz=>?_,hs⟩
  ·unfold vL;rw[e,q,gj];rfl
  ·rw[mX] at z;rcases eD.mp z with z | z
   ·cases z
   ·have:=kX (m:=m+1) 32 z
    lia
abbrev DS(h:D)(L:List D):Sl:=.p (cB h L)
def Ci:("sing ":bA).cps.toList=("sing":bA).cps.toList++[32]:=by left
def gZa(h:EH i):kB (("sing ":bA)++num i) (" ":bA)=[("sing":bA),num i]:=by
 rw[yT Ci];exact cY yF (by simp) (fc (by left) (fc h.uN λ_ z=>nomatch z))
def q1a(h:EH i):TG 500000 (("sing ":bA)++num i):=by
 rw[yT Ci];exact(ZP yF (by decide) (B:=61) (ws:=[("sing":bA),num i]) (fc ⟨by left,by left⟩ (fc h.tg λ_ z=>nomatch z)) (show 2*62<=500000 by decide) (by decide)).1
def vp(h:EH i):"j"|||n+1|||[.s (("sing ":bA)++num i)]|||.ow (yA [("sing":bA),num i]):=by
 have:=M9 (W:=W) (n:=n) (q1a h)
 rwa[gZa h] at this
def aj(h:EH i):"k"|||n+3|||[.sh (yA [("sing":bA),num i])]|||.ow (.l [.int i]):=by
 have:=U7 (W:=W) (n:=n) (w:="sing") (r:=[num i]) (b:=false) (by left) (show _=some 1 by left) (fc (h.tg.up (by decide)) λ_ z=>nomatch z) (show 1<=1000000 by decide) (by rw[Wq,h.rd];rfl)
 rwa[Wq,h.rd,YC] at this
def Vl{r L:List D}(h:EH i)(h0:0<=i)(h1:i<=no-1)(hl:L.length<60) :
  run T W (n+5) "b" [DS (.t (.int no::r)) L,.s (("sing ":bA)++num i)]=some (.ok (.s "ok"),[DS (.t (.int no::r)) (L++[.int i]),.s (("sing ":bA)++num i)]) :=
 Ql ⟨vp h,aj h⟩ (by left) (zx (hYa h0 h1 hl))
def Wl{no i:Int}{r L:List D}(h:EH i)(hi:¬(0<=i/\i<=no-1)\/L.length=60) :
  "b"&&&n+5&&&[DS (.t (.int no::r)) L,.s (("sing ":bA)++num i)]&&&⟨"NoNote",none⟩ :=
 Rl ⟨vp h,aj h⟩ (by left) (Ax (gYa hi))
def one(w:bA):Prop:=TG 500000 w/\kB w " "=[w]/\pF.contains w=true/\(pF.zip cL).lookup w=some 0
def uY(h:one w):"j"|||n+1|||[.s w]|||.ow (yA [w]):=by
 have:=M9 (W:=W) (n:=n) h.1
 rwa[h.2.1] at this
def jX(h:one w):"k"|||n+3|||[.sh (yA [w])]|||.ow (.l []):=by
 have:=U7 (W:=W) (n:=n) (r:=[]) (b:=false) h.2.2.1 h.2.2.2 (λ_ z=>nomatch z) (by decide) rfl
 rwa[JO,YC] at this
def xX:one "back":=⟨⟨by left,by left⟩,by left,by left,by left⟩
def Cj:one "line":=⟨⟨by left,by left⟩,by left,by left,by left⟩
def Bj:one "house":=⟨⟨by left,by left⟩,by left,by left,by left⟩
def jXa{h x:D}{L:List D}:run T W (n+5) "b" [DS h (L++[x]),.s "back"]=some (.ok (.s "ok"),[DS h L,.s "back"]) :=
 Ql ⟨uY xX,jX xX⟩ (by left) (xx KZ)
def iXa:"b"&&&n+5&&&[DS h [],.s "back"]&&&⟨"NoNote",none⟩ :=
 Rl ⟨uY xX,jX xX⟩ (by left) (yx Bv)
def eKa{xs:List Int}(hx:∀x∈xs,0<=x/\x<=60)(hl:xs.length<=60):"u"|||n+2|||[.sh (.l (xs.map D.int))]|||.s (LA (xs.map num)):=by
 have hr:=Il (W:=W) (n:=n) (s:=.sh (.l (xs.map D.int))) (ds:=xs.map D.int) (.inl rfl) (λd hd=>by
  obtain⟨x,hm,rfl⟩:=kC.mp hd
  have:=hx x hm
  exact(vE (by lia) (by lia)).s) (λw hw=>by
  rw[oG] at hw;obtain⟨x,hm,rfl⟩:=kC.mp hw
  have:=hx x hm
  exact WH (by lia) (by lia)) (by rw[YA];exact hl)
 rw[oG,show(wd ∘ D.int)=num from rfl] at hr
 exists S3
 generalize xs.map D.int=L at *
 generalize LA _=t at *
 right
def Ul{xs:List Int}(hx:∀x∈xs,0<=x/\x<=60)(hl:xs.length<=60):"b"|||n+5|||[DS h (xs.map D.int),.s "line"]|||.s (LA (xs.map num)) :=
 Pl ⟨uY Cj,jX Cj⟩ (by left) (Ku (eKa hx hl))
def kXa{fs:List (Int×Int×Bool)}{rs L:List D}(h:HX no ba oc fs rs):"b"|||n+5|||[DS () L,.s "house"]|||.s (RB no ba oc fs rs) :=
 Pl ⟨uY Bj,jX Bj⟩ (by left) (Ju (J5 h))
def bV(t:bA):Bool:=match kB t " " with
 |[]=>false
 |w::r=>match pF.contains w with
  |false=>true
  |true=>match (pF.zip cL).lookup w with
   |none=>false
   |some k=>!decide ((r.length:Int)=k)||r.any λx=>(YH x).isNone
def hXa{L:List D}(ht:TG 500000 t)(hb:bV t=true):"b"&&&n+5&&&[DS h L,.s t]&&&⟨"NoRow",none⟩:=by
 have hw:=M9 (W:=W) (n:=n+3) ht;have hs:=(uK yF ht).1;have hz:=xT (ws:=kB t " ");have hq:=(uK yF ht).2.1;have hl:=ht.len;refine lXa hw ?_;unfold bV at hb
 cases q:kB t " " with
 |nil=>rw[q] at hb;cases hb
 |cons w r =>
  rw[q] at hb hs hz hq;dsimp only at hb
  cases c:pF.contains w with
  |false=>exact oLa c
  |true =>
   rw[c] at hb;dsimp only at hb
   cases e:(pF.zip cL).lookup w with
   |none=>rw[e] at hb;cases hb
   |some k =>
    rw[e] at hb;dsimp only at hb;by_cases f:(r.length:Int)=k
    ·subst f;rw[GC rfl,Bool.not_true,Bool.false_or,Dr] at hb;obtain⟨x,hx,hn⟩:=hb
     obtain⟨b,b1,b2⟩:=jDa (ds:=r.map GA) (λd hd=>by
      obtain⟨y,_,rfl⟩:=kC.mp hd
      exact dD)
     have hm:b=true:=b2.mpr (kC.mpr ⟨x,hx,by unfold GA;rw[Option.isNone_iff_eq_none.mp hn]⟩);subst hm
     have:=U7 (W:=W) (n:=n+1) c e (λy hy=>(hs y (OD _ hy)).1.up (by decide)) (by rw[fC] at hz;lia) b1
     rwa[FA rfl] at this
    ·exact nLa c e f
def ZL(d:D):Prop:=sE [.str] (some d)=some (.b false)\/∃t,d=.str t/\TG 500000 t/\bV t=true
def nXa{L:List D}(ho:ZL d):"b"&&&n+5&&&[DS h L,.sh d]&&&⟨"NoRow",none⟩:=by
 rcases ho with e | ⟨t,rfl,h1,h2⟩
 ·exact mXa (z2a e)
 ·exact hXa h1 h2
noncomputable def W7:List bA:=["back","line","house","next","broken","onward","over"]
noncomputable def W5:List bA:=["sing","count","needed","less","without"]
noncomputable def WU:List bA:=[("01":bA),("-0":bA),("+1":bA),("1.0":bA),("":bA),("x":bA),NI "1" 61,("-":bA)++NI "9" 61,("--1":bA),("1_0":bA),("one":bA)]
noncomputable def E9(w:bA):bA:=⟨w.cps.map (· - 32)⟩
def pH(t:bA):Bool:=decide (t.length<=200)&&(t.cps.all (·<128)&&bV t)
def od(h:pH t=true):ZL (.str t):=by
 unfold pH at h;rw[qA,qA,vF] at h;exact .inr ⟨t,rfl,⟨lD h.1 (by decide),h.2.1⟩,h.2.2⟩
def ok7:∀w∈W7,(w.length<=10/\w.cps.all (·<128)=true)/\(∀c∈w.cps.toList,97<=c/\c<=122)/\pH (w++(" ":bA))=true/\pH ((" ":bA)++w)=true/\pH (w++(" 1":bA))=true/\pH (E9 w)=true/\pH (w++("s":bA))=true:=by left
def ok5:∀m∈W5,(m.length<=10/\m.cps.all (·<128)=true)/\pH m=true/\pH (m++(" ":bA))=true/\pH (m++(" 1 1":bA))=true/\∀z∈WU,pH ((m++(" ":bA))++z)=true:=by left
def nNa:∀z∈WU,(z.length<=62/\z.cps.all (·<128)=true)/\pH (("nth 1 ":bA)++z)=true/\pH ((("nth ":bA)++z)++(" 1":bA))=true:=by left
def ok0:∀t∈[("nth 1":bA),("nth 1 2 3":bA),("nth  1 1":bA),("":bA),(" ":bA),("sing\t1":bA),("back\n":bA)],pH t=true:=by left
def qN(h:0<m/\m<100000000000000000000000000000000000000000000000000000000000000000000000000000000):∃(v:Nat) (s':Int),(v:Int)<m/\∀W n,run T W (n+1) "a" [.p (.l [.int k,.int s]),.i m]=some (.ok (.i (v:Int)),[.p (.l [.int k,.int s']),.i m]):=by
 have d1:=vV (k:=k) (s:=s) h.1;have d2:=uV (k:=k) (s:=s) h.1;have e:(((YD k s m).toNat:Nat):Int)=YD k s m:=by lia
 exact⟨(YD k s m).toNat,kM k s m,by lia,λW n=>by rw[e];exact TJ h.1 h.2⟩
def DZ{w:bA}(h:∀c∈w.cps.toList,c<128):w.cps.all (·<128)=true:=by
 rw[OI];intro x hx;exact GC (h x (by simpa using hx))
def lY(h:TG A x)(k:TG B y):TG (A+B) (x++y):=by
 refine⟨?_,DZ λc hc=>?_⟩
 ·rw[aAH]
  have:=h.len
  have:=k.len
  lia
 ·rw[tG] at hc;rcases iI.mp hc with hc | hc
  ·exact lN h.asc c hc
  ·exact lN k.asc c hc
def aAv(h:TG A x)(k:TG B y)(hN:A+B<=1000000:=by decide):IB .Add (.str x) (.str y)=some (.s (x++y)):=QJ (by have:=h.len;have:=k.len;lia)
def Qc{k:Nat}(h:k<ds.length):bE (some (.l ds)) (.int (k:Int))=some (.sh ds[k]):=by
 show(WI ds (k:Int)).map RV.sh=_
 have:WI ds (k:Int)=some ds[k]:=by(unfold WI L2.aD L2.mE;rw[FA (by lia),FA (by lia),HJ];exact MD h)
 rw[this];rfl
def HZ{ws:List bA}{k:Nat}(h:k<ws.length):∃w∈ws,bE (some (.l (ws.map D.str))) (.int (k:Int))=some (.s w) :=
 ⟨ws[k],LY h,by rw[Qc (by rw[YA];exact h),List.getElem_map]⟩
def m8(h:sE [.str] (some d)=some (.b false)):ZL d:=.inl h
def BG(h:(decide (w.length<=10)&&w.cps.all (·<128))=true:=by left):TG 10 w:=by
 rw[qA,vF] at h;exact⟨h.1,h.2⟩
def X7{P:D->Prop}:∀d∈([]:List D),P d:=λ_ z=>nomatch z
def l2a(h1:w.length<=10)(h2:∀c∈w.cps.toList,97<=c/\c<=122):Zo (some (.s w))=some (.s (E9 w)):=FA ⟨by lia,h2⟩
def oA(w m z:bA):List D:=[.str (w++(" ":bA)),.str ((" ":bA)++w),.str (w++(" 1":bA)),.str (E9 w),.str (w++("s":bA)),.str m,.str (m++(" ":bA)),.str ((m++(" ":bA))++z)]
noncomputable def oB(m z:bA):List D:=[.str (m++(" 1 1":bA)),.str "nth 1",.str "nth 1 2 3",.str (("nth 1 ":bA)++z),.str ((("nth ":bA)++z)++(" 1":bA)),.str "nth  1 1",.str "",.str " "]
noncomputable def oC:List D:=[.rA,.int 7,.l [.str "back"],.str "sing\t1",.str "back\n"]
def iNa{k s:Int}:∃(s':Int) (d:D),run T W (n+2) "O" [.p (.l [.int k,.int s])]=some (.ok (.sh d),[.p (.l [.int k,.int s'])])/\ZL d:=by
 rw[qK (fn:=cJ) rfl rfl rfl];obtain⟨v1,s1,w1,d1⟩:=qN (k:=k) (s:=s) (m:=7) (by decide);obtain⟨v2,s2,w2,d2⟩:=qN (k:=k) (s:=s1) (m:=5) (by decide);obtain⟨v3,s3,w3,d3⟩:=qN (k:=k) (s:=s2) (m:=11) (by decide);obtain⟨v4,s4,w4,d4⟩:=qN (k:=k) (s:=s3) (m:=21) (by decide);obtain⟨w,hw,a1⟩:=HZ (ws:=W7) (k:=v1) (by show v1<7;lia);obtain⟨m,hm,a2⟩:=HZ (ws:=W5) (k:=v2) (by show v2<5;lia);obtain⟨z,hz,a3⟩:=HZ (ws:=WU) (k:=v3) (by show v3<11;lia);obtain⟨p1,p2,p3,p4,p5,p6,p7⟩:=ok7 w hw;obtain⟨q1,q2,q3,q4,q5⟩:=ok5 m hm;obtain⟨r1,r2,r3⟩:=nNa z hz;have q5:=q5 z hz;have d1:=d1 W n;have d2:=d2 W n;have d3:=d3 W n;have d4:=d4 W n;have tw:TG 10 w:=⟨p1.1,p1.2⟩
 have tm:TG 10 m:=⟨q1.1,q1.2⟩
 have tz:TG 62 z:=⟨r1.1,r1.2⟩
 have hA:MA T.aA (run T W (n+1)) W (cJ.body.take 3) ([.p (.l [.int k,.int s])]++FC cJ.nl .un)=some (.nx,[.p (.l [.int k,.int s3]),.s w,.s m,.s z,.un]):=by
  have m1:IB .Mult (.str "1") (.int 61)=some (.s (NI "1" 61)):=Xc ⟨by decide,λ_ _=>by left,λ_ _=>by left⟩ (by left);have m2:IB .Mult (.str "9") (.int 61)=some (.s (NI "9" 61)):=Xc ⟨by decide,λ_ _=>by left,λ_ _=>by left⟩ (by left);have m3:IB .Add (.str "-") (.str (NI "9" 61))=some (.s ("-" ++ NI "9" 61)):=QJ (by left);unfold cJ;simp only[W7,W5,WU,pD,JO] at a1 a2 a3;clear w1 w2 w3 w4 d4 hw hm hz p1 p2 p3 p4 p5 p6 p7 q1 q2 q3 q4 q5 r1 r2 r3 tw tm tz
  walk_at "!IV"
 rw[ZE hA];clear hA a1 a2 a3 d1 d2 d3 w1 w2 w3;have e1:=aAv tw (BG (w:=" "));have e2:=aAv (BG (w:=" ")) tw;have e3:=aAv tw (BG (w:=" 1"));have e4:=l2a p1.1 p2;have e5:=aAv tw (BG (w:="s"));have t6:=lY tm (BG (w:=" "));have e6:=aAv tm (BG (w:=" "));have e7:=aAv t6 tz
 have hB:MA T.aA (run T W (n+1)) W ((cJ.body.drop 3).take 1) [.p (.l [.int k,.int s3]),.s w,.s m,.s z,.un]=some (.nx,[.p (.l [.int k,.int s3]),.s w,.s m,.s z,.o (.l (oA w m z))]):=by
  unfold cJ oA;clear w4 d4 hw hm hz p1 p2 p3 p4 p5 p6 p7 q1 q2 q3 q4 q5 r1 r2 r3 tw tm tz t6
  walk_at "!IV"
 rw[ZE hB];have hA:∀d∈oA w m z,ZL d:=fc (od p3) (fc (od p4) (fc (od p5) (fc (od p6) (fc (od p7) (fc (od q2) (fc (od q3) (fc (od q5) X7)))))))
 have lA:(oA w m z).length=8:=rfl;clear hB e1 e2 e3 e4 e5 e6 e7 p1 p2 p3 p4 p5 p6 p7 q2 q3 q5 t6 tw
 generalize oA w m z=A at *
 have e1:=aAv tm (BG (w:=" 1 1"));have e2:=aAv (BG (w:="nth 1 ")) tz;have t3:=lY (BG (w:="nth ")) tz;have e3:=aAv (BG (w:="nth ")) tz;have e4:=aAv t3 (BG (w:=" 1"));have o0:=ok0;simp only[la] at o0;obtain⟨o1,o2,o3,o4,o5,o6,o7,_⟩:=o0;have hB:∀d∈oB m z,ZL d:=fc (od q4) (fc (od o1) (fc (od o2) (fc (od r2) (fc (od r3) (fc (od o3) (fc (od o4) (fc (od o5) X7)))))))
 have hC:∀d∈oC,ZL d:=fc (m8 rfl) (fc (m8 rfl) (fc (m8 rfl) (fc (od o6) (fc (od o7) X7))))
 have b1:IB .Add (.l A) (.l (oB m z))=some (.ow (.l (A++oB m z))):=XI (yC (by rw[lA];exact(show 8+8<=1000000 by decide)))
 have hE:MA T.aA (run T W (n+1)) W (((cJ.body.drop 3).drop 1).take 1) [.p (.l [.int k,.int s3]),.s w,.s m,.s z,.o (.l A)]=some (.nx,[.p (.l [.int k,.int s3]),.s w,.s m,.s z,.o (.l (A++oB m z))]):=by
  unfold cJ
  generalize hQ:oB m z=B at *
  unfold oB at hQ;have sB:yB B.length=true:=by rw[<- hQ];exact yC (show 8<=1000000 by decide)
  clear w4 d4 hw hm hz q1 q4 r1 r2 r3 tm tz t3 hA hB hC o1 o2 o3 o4 o5 o6 o7 lA
  walk_at "!IV"
 rw[ZE hE];have hD:∀d∈(A++oB m z)++oC,ZL d:=λd hd=>(iI.mp hd).elim (λhd=>(iI.mp hd).elim (hA d) (hB d)) (hC d)
 have lB:(A++oB m z).length=16:=by rw[iF,lA];rfl
 clear hE b1 hA hB hC lA e1 e2 e3 e4 t3 q1 q4 r1 r2 r3 tm tz
 generalize A++oB m z=A at *
 have b2:IB .Add (.l A) (.l oC)=some (.ow (.l (A++oC))):=XI (yC (by rw[lB];exact(show 16+5<=1000000 by decide)));have hv:v4<(A++oC).length:=by rw[iF,lB];show v4<21;lia
 have b3:=Qc hv;have Aj:=hD _ (LY hv)
 generalize (A++oC)[v4]=d at *
 refine⟨s4,d, ?_,Aj⟩;clear Aj hv hD lB w4 o1 o2 o3 o4 o5 o6 o7 hw hm hz
 generalize A++oC=Z at *
 unfold cJ;unfold oC at b2
 walk_at "!IV"
theorem O6:∀{as:List (List Nat)},as≠[]->(∀a∈as,a≠[])->∃a∈as,(jS c as).getLast?=a.getLast?
 |[],h,_=>absurd rfl h
 |[a],_,_=>⟨a,BE,rfl⟩
 |a::b::r,_,h=>by
  obtain⟨x,hx,e⟩:=O6 (as:=b::r) (by simp) λy hy=>h y (OD _ hy)
  refine⟨x,OD _ hx, ?_⟩;show(a++c::jS c (b::r)).getLast?=_;rw[<- e]
  cases q:jS c (b::r) with
  |nil=>exact absurd q (P6 (h b (by simp)))
  |cons y z =>
   rw[List.getLast?_append,List.getLast?_cons_cons,YT (by simp)];rfl
def Wo:(RB no ba oc fs rs).cps.toList=jS 10 ((hW no ba oc fs rs).map λr=>jS 32 (r.map λw=>w.cps.toList)):=by
 unfold RB;rw[DM,show lC ⟨#[10]⟩ ((hW no ba oc fs rs).map LA)=DG ⟨#[10]⟩ ((hW no ba oc fs rs).map LA) from NL _ _,CM,oG];exact congrArg _ (xO λr _=>pQ r)
section
variable{no ba oc:Int}{fs:List (Int×Int×Bool)}{rs:List D}
def e2a(h:HX no ba oc fs rs):∃x,(RB no ba oc fs rs).cps.toList.getLast?=some x/\x≠32/\x≠10:=by
 rw[Wo]
 have hr:∀r∈hW no ba oc fs rs,(r.map λw:bA=>w.cps.toList)≠[]/\∀a∈(r.map λw:bA=>w.cps.toList),a≠[]:=λr hr=>by(obtain⟨h1,_,h3⟩:=h.wo r hr;refine⟨λz=>h3 (wO.mp z),λa ha=>?_⟩;obtain⟨w,hw,rfl⟩:=kC.mp ha;exact(h1 w hw).ne)
 obtain⟨a,ha,e⟩:=O6 (c:=10) (as:=(hW no ba oc fs rs).map λr=>jS 32 (r.map λw=>w.cps.toList)) (by unfold hW xM;simp) (λa ha=>by
  obtain⟨r,hm,rfl⟩:=kC.mp ha;obtain⟨h1,h2⟩:=hr r hm
  cases q:r.map λw:bA=>w.cps.toList with
  |nil=>exact absurd q h1
  |cons b s=>rw[q] at h2;exact P6 (h2 b BE))
 obtain⟨r,hm,rfl⟩:=kC.mp ha;obtain⟨b,hb,e2⟩:=O6 (c:=32) (hr r hm).1 (hr r hm).2;obtain⟨w,hw,rfl⟩:=kC.mp hb;have hw:=(h.wo r hm).1 w hw;refine⟨w.cps.toList.getLast hw.ne, ?_,λz=>hw.uN ?_,λz=>hw.PR ?_⟩
 ·rw[e,e2,YT hw.ne]
 ·rw[<- z];exact Xa hw.ne
 ·rw[<- z];exact Xa hw.ne
theorem pY(h:HX no ba oc fs rs):∃c l,(RB no ba oc fs rs).cps.toList=110::111::116::101::115::32::c::l/\c<=55:=by
 have h1:=h.ho.n1;have h2:=h.ho.n2;have k:∀m:Nat,m<7->(num ((m:Int)+1)).cps.toList=[m+49]:=by left
 have k:=k (no-1).toNat (by lia);rw[show(((no-1).toNat:Int)+1)=no by lia] at k;rw[Wo,Cf];refine⟨(no-1).toNat+49, ?_, ?_,by lia⟩
 rotate_left
 ·show jS 32 [("notes":bA).cps.toList,(num no).cps.toList]++10::_=_;rw[k,show("notes":bA).cps.toList=[110,111,116,101,115] by left];rfl
end
def ND(W n:Nat)(d:D):Prop:="C"|||n+9|||[.sh d]|||.b true
def qX(h:TG 500000 t)(hn:∀{no ba oc:Int} {fs:List (Int×Int×Bool)} {rs:List D},HX no ba oc fs rs->RB no ba oc fs rs≠t):ND W n (.str t):=by
 refine tj (Gg ?_);rcases aWa W n h with h | ⟨_,_,_,_,_,h1,h2,_⟩
 ·exact h
 ·exact absurd h2 (hn h1)
def b8(hd:sE [.str] (some d)=some (.b false)):ND W n d:=tj (Gg (cWa W n hd))
def CT{N a:Nat}(h:TG N t):TG N (RD t (some (a:Int)) none):=by
 have hl:(RD t (some (a:Int)) none).cps.toList.length=(RD t (some (a:Int)) none).length:=bH;have Z4:t.cps.toList.length=t.length:=bH;rw[ZX,IJ] at hl;refine⟨by have:=h.len;lia,DZ λc hc=>?_⟩;rw[ZX] at hc;exact lN h.asc c (oa hc)
section
variable{W n:Nat}{no ba oc:Int}{fs:List (Int×Int×Bool)}{rs:List D}
def pMa:ND W n (.str ""):=qX ⟨by left,by left⟩ λh z=>by
 obtain⟨c,l,e,_⟩:=pY h;rw[z,B7] at e;cases e
theorem uj(ht:TG 30000 t)(hx:x.cps.toList=[c])(hc:c=32\/c=10):ND W n (.str (t++x)):=qX ((lY ht (B:=1) (v9 (by rw[hx];exact JB 1) (DZ λy hy=>by rw[hx] at hy;rw[uF.mp hy];lia))).up (by decide)) λh z=>by
 obtain⟨y,e,h1,h2⟩:=e2a h;rw[z,tG,hx,List.getLast?_concat] at e;cases e
 lia
def qMa(h:HX no ba oc fs rs)(e:RB no ba oc fs rs=t):ND W n (.str (RD t (some 1) none)):=qX (CT (a:=1) ((e ▸ C9 h).up (by decide))) λh' z=>by
 obtain⟨c,l,q,_⟩:=pY h;obtain⟨c',l',q',_⟩:=pY h';rw[z,show(RD t (some 1) none).cps.toList=t.cps.toList.drop 1 from ZX,<- e,q] at q';cases q'
theorem oMa(h:TG 30000 t):ND W n (.str (("notes 8":bA)++RD t (some 7) none)):=qX ((lY (BG (w:=("notes 8":bA))) (CT (a:=7) h)).up (by decide)) λh' z=>by
 obtain⟨c',l',q',k⟩:=pY h';rw[z,tG,show("notes 8":bA).cps.toList=[110,111,116,101,115,32,56] by left] at q'
 injection q' with _ q'
 injection q' with _ q'
 injection q' with _ q'
 injection q' with _ q'
 injection q' with _ q'
 injection q' with _ q'
 injection q' with q' _
 lia
end
noncomputable abbrev lx(W:Nat):=MA T.aA (run T W 29) W
def R8{L:List D}(hs:"b"&&&n+5&&&[DS h L,.sh d]&&&⟨"NoNote",none⟩):"i"|||n+6|||[DS h L,.sh d]|||.s "note":=Ol mx hs w2a
def uXa{L:List D}(hs:"b"&&&n+5&&&[DS h L,.sh d]&&&⟨"NoRow",none⟩):"i"|||n+6|||[DS h L,.sh d]|||.s "row":=Ol qx hs x2a
noncomputable def kHa(h1:(P f).length=ds.length+1)(h:UN U (C f (.p (.ins c [] [])::ds.map .sh))=some (.ok v,U')):f7 P C c f ds U=some (.ok v,U'):=(FA h1).trans h
def cJa{ns:List Int}(hn:ns.length<=63):∃no ba oc fs rs pk ps,HX no ba oc fs rs/\lx W (ZD.body.take 5) ([.sh (.l (ns.map .int))]++FC ZD.nl .un)=some (.nx,[.sh (.l (ns.map .int)),.sh (),.o (.l [.int pk,.int ps]),.s (RB no ba oc fs rs),.o (cB () []),.un,.un,.un,.un,.un]):=by
 obtain⟨s1,no,ba,oc,fs,rs,h1,ho,hr⟩:=jCa (W:=W) (n:=26) (k:=(sF ns 1).1) (s:=(sF ns 1).2);have h:HX no ba oc fs rs:=⟨ho,hr⟩
 replace h1:run T W (26+3) "A" [.p (.l [.int (sF ns 1).1,.int (sF ns 1).2])]=some (.ok (.sh ()),[.p (.l [.int (sF ns 1).1,.int s1])]):=h1;have hp1:=ak (W:=W) (n:=28) (ns:=ns) (k:=1) hn (by lia);have hp2:=ak (W:=W) (n:=28) (ns:=ns) (k:=2) hn (by lia);rw[show((1:Nat):Int)=1 from rfl] at hp1;rw[show((2:Nat):Int)=2 from rfl] at hp2;have ht:=p1a (W:=W) (n:=27) h
 generalize (sF ns 1).1=p1 at *
 generalize (sF ns 1).2=p2 at *
 generalize (sF ns 2).1=k at *
 generalize (sF ns 2).2=s at *
 refine⟨no,ba,oc,fs,rs,k,s,h, ?_⟩;have hi:=f6 (W:=W) (n:=21) (bWa h W 21);have hs:=R8 (W:=W) (n:=23) (iXa (h:=()))
 have hk:∀U,f7 T.aA (run T W 29) "Desk" "l" [.str (RB no ba oc fs rs)] U=some (.ok (.ow (cB () [])),U):=λU=>kHa rfl (by
  show UN U (run T W (21+8) "l" _)=_;rw[show List.map Sl.sh [D.str (RB no ba oc fs rs)]=[.s (RB no ba oc fs rs)] from rfl,hi]
  rfl)
 have e0:(("note":bA) == "note")=true:=WC _
 generalize RB no ba oc fs rs=tx at *
 generalize ()=HH at *
 generalize ns.map D.int=N at *
 unfold lx ZD;unfold DS at hs;clear h hn ho hr hi
 generalize cB HH []=DD at *
 walk_at "!TJ Ge vKa"
def bJa{x0 x3 x4:Sl}(h:HX no ba oc fs rs):∃(s':Int) (xs:List Int),lx W ((ZD.body.drop 5).take 1) [x0,.sh (),.o (.l [.int k,.int s]),x3,x4,.un,.un,.un,.un,.un]=some (.nx,[x0,.sh (),.o (.l [.int k,.int s']),x3,x4,.un,.o (.l (xs.map D.int)),.un,.un,.un])/\xs.length<=60/\∀x∈xs,0<=x/\x<no:=by
 have n1:=h.ho.n1;have n2:=h.ho.n2;have v1:=vV (k:=k) (s:=s) (m:=9) (by decide);have v2:=uV (k:=k) (s:=s) (m:=9) (by decide);generalize ag:kM k s 9=s1
 obtain⟨mo,hix,m1,m2⟩:∃mo:Nat,bE (some (.l [.int (YD k s 9),.int 60])) (.int (if YD k s1 8=0 then 1 else 0))=some (.i (mo:Int))/\mo<=60/\True:=by
  by_cases c:YD k s1 8=0
  ·rw[FA c];exact⟨60,rfl,by decide,trivial⟩
  ·rw[vB c];exact⟨(YD k s 9).toNat,by rw[show((YD k s 9).toNat:Int)=YD k s 9 by lia];rfl,by lia,trivial⟩
 have hb:rD .int [.bl (decide (YD k s1 8=0))]=some (.i (if YD k s1 8=0 then 1 else 0)):=by
  by_cases c:YD k s1 8=0
  ·rw[FA c,GC c];rfl
  ·rw[vB c,zC c];rfl
 generalize (if YD k s1 8=0 then(1:Int) else 0)=ii at *
 have hi:∀U,aAb .eE [.val (.i (mo:Int))] U=some ((KC mo).map λ(j:Nat)=>.int (j:Int),none):=λU=>SW (k:=mo) (by lia)
 obtain⟨iB,Ui,e,⟨s6,xs,t3,rfl,E4,rfl,hl,hx⟩,hz⟩:=W0 (tests:=IC T.aA (run T W 29) []) (JA:=ev T.aA (run T W 29) false O1) (bind:=bB true [3]) (ds:=(KC mo).map λ(j:Nat)=>.int (j:Int))
  (λj iB U=>∃(s6:Int) (xs:List Int) (t3:Sl),U=[.sh (),.p (.l [.int k,.int s6]),.un,t3]/\UB t3=true/\iB=xs.map D.int/\xs.length=j/\∀x∈xs,0<=x/\x<no)
  (λj d hd iB U hU=>by
   obtain⟨s6,xs,t3,rfl,E4,rfl,hl,hx⟩:=hU;have g1:0<no:=by lia
   have g2:no<100000000000000000000000000000000000000000000000000000000000000000000000000000000:=by lia
   refine⟨_,true,_,by simp only[mV,IM,OE,aH,JC E4,lG,mG]<;>rfl,DV,λ_=>?_,λz=>nomatch z⟩;refine⟨.i (YD k s6 no),[.sh (),.p (.l [.int k,.int (kM k s6 no)]),.un,.sh d], ?_,_,xs++[YD k s6 no],_,rfl,rfl,by simp[RV.d],by simp[hl],λx hm=>?_⟩
   ·have wM:=TJ (W:=W) (n:=28) (k:=k) (s:=s6) g1 g2;unfold O1 AW;clear hx hd hl v1 v2 hi hb hix h n1 n2 m1 m2 E4
    walk_at "!TJ"
   ·rcases iI.mp hm with hm | hm
    ·exact hx x hm
    ·rw[uF.mp hm];exact⟨vV g1,uV g1⟩)
  [] [.sh (),.p (.l [.int k,.int (kM k s1 8)]),.un,.un] ⟨_,[],_,rfl,rfl,rfl,rfl,λx h=>nomatch h⟩
 have hl:xs.length=mo:=by rw[hl];simp
 refine⟨s6,xs, ?_,by lia,hx⟩;have wG:yB (xs.map D.int).length=true:=yC (by simp;lia);have d1:=TJ (W:=W) (n:=28) (k:=k) (s:=s) (m:=9) (by decide) (by decide);rw[ag] at d1;have d2:=TJ (W:=W) (n:=28) (k:=k) (s:=s1) (m:=8) (by decide) (by decide)
 generalize YD k s 9=q1 at *
 generalize YD k s1 8=q2 at *
 generalize kM k s1 8=s2 at *
 generalize ()=HH at *
 generalize xs.map D.int=X at *
 unfold lx ZD;clear hx hz hl v1 v2 h n1 n2 m1 m2 ag
 walk_at "!TJ"
 rw[IE (hi _)]
 walk_at "!TJ"
 all_goals (first | done | (rw[WD rfl];walk_at "!TJ"))
def eV(h:x.natAbs<1000):EH x:=VZ (iE h (by decide))
def Fd(h:EH i):IB .Add (.str "sing ") (.str (num i))=some (.s (("sing ":bA)++num i)):=aAv (BG (w:=("sing ":bA))) h.tg
def iJa{xs:List Int}{x0 x2 x3:Sl}(h:HX no ba oc fs rs)(hl:xs.length<=60)(hx:∀x∈xs,0<=x/\x<no):∃t7,lx W (((ZD.body.drop 5).drop 1).take 1) [x0,.sh (),x2,x3,.o (cB () []),.un,.o (.l (xs.map D.int)),.un,.un,.un]=some (.nx,[x0,.sh (),x2,x3,.o (cB () (xs.map D.int)),.un,.o (.l (xs.map D.int)),t7,.un,.un])/\UB t7=true:=by
 have n2:=h.ho.n2;have hi:aAb .of [.slot 6] [x0,.sh (),x2,x3,.o (cB () []),.un,.o (.l (xs.map D.int)),.un,.un,.un]=some (xs.map D.int,some 6):=G6 rfl
 obtain⟨U',e,t7,rfl,h7⟩:=dX (bind:=bB true [7]) (body:=MA T.aA (run T W 29) W OZ)
  (λpre U=>∃t7:Sl,U=[x0,.sh (),x2,x3,.o (cB () pre),.un,.un,t7,.un,.un]/\UB t7=true)
  (ds:=xs.map D.int) (λpre d post XF U hU=>by
   obtain⟨t7,rfl,h7⟩:=hU;obtain⟨x,hm,rfl⟩:=kC.mp (show d∈xs.map D.int from by rw[XF];simp)
   have hp:pre.length<60:=by
    have:=congrArg CU XF
    simp at this
    lia
   obtain⟨q1,q2⟩:=hx x hm;have hb:EH x:=eV (by lia);have RH:=hb.s;have hc:=Fd hb;have hs:run T W 29 "b" [.p (cB () pre),.s ("sing " ++ num x)]=some (.ok (.s "ok"),[.p (cB () (pre++[.int x])),.s ("sing " ++ num x)]):=Vl (W:=W) (n:=24) hb q1 (by lia) hp;have e0:(("ok":bA) == "ok")=true:=WC _;refine⟨_,by simp only[qE,JC h7]<;>rfl,[x0,.sh (),x2,x3,.o (cB () (pre++[.int x])),.un,.un,.i x,.un,.un], ?_,_,rfl,rfl⟩;clear XF hm hp q1 q2 hb h7 hx hl hi h n2
   generalize ()=HH at *
   generalize "sing " ++ num x=sx at *
   generalize num x=nx at *
   generalize pre++[.int x]=pr at *
   unfold OZ
   unfold cB at *
   walk_at "!cG aG bG HF") (U:=[x0,.sh (),x2,x3,.o (cB () []),.un,.un,.un,.un,.un]) ⟨_,rfl,rfl⟩
 refine⟨t7, ?_,h7⟩
 generalize ()=HH at *
 generalize xs.map D.int=X at *
 generalize cB HH []=D0 at *
 generalize cB HH X=D1 at *
 unfold lx ZD;clear h hl hx h7 n2
 walk_at "!cG aG bG HF"
 simp only[aAd,mG,lG];rw[e];rfl
def hJa{W:Nat}{xs:List Int}{x0 x1 x2 x3 x4 x5 x7:Sl}(hl:xs.length<=60)(hx:∀x∈xs,0<=x/\x<=60):lx W ((((ZD.body.drop 5).drop 1).drop 1).take 1) [x0,x1,x2,x3,x4,x5,.o (.l (xs.map D.int)),x7,.un,.un]=some (.nx,[x0,x1,x2,x3,x4,x5,.o (.l (xs.map D.int)),x7,.s (LA (xs.map num)),.un]):=by
 obtain⟨t,e⟩:=iY (W:=W) (n:=29) (el:=se) (ds:=xs.map D.int) rfl (λd hd=>by
  obtain⟨x,hm,rfl⟩:=kC.mp hd
  have:=hx x hm
  exact(vE (by lia) (by lia)).s)
 rw[show(xs.map D.int).map wd=xs.map num from by rw[oG];rfl] at e
 have ho:=ON yF (by decide) (B:=60) (N:=4000) (ws:=xs.map num) (λw h=>by
  obtain⟨x,hm,rfl⟩:=kC.mp h
  have:=hx x hm
  exact(WH (by lia) (by lia)).tg) (by rw[YA];lia) (by decide)
 have wG:yB ((xs.map num).map D.str).length=true:=yC (by simp;lia);unfold LA
 generalize (xs.map num).map D.str=L at *
 generalize lC _ (xs.map num)=tx at *
 generalize xs.map D.int=X at *
 unfold lx ZD;clear hx hl
 walk_at "!cG aG bG HF"
 rw[Bh (G6 rfl)];simp only[aAd,lG,mG]
 walk_at "!cG aG bG HF"
 all_goals (first | done | (rw[WD rfl];walk_at "!cG aG bG HF"))
 all_goals (first | done | (simp only[aAq,aAl,OE,aH,lG,mG,jE];walk_at "!cG aG bG HF"))
def gJa{xs:List Int}{x0 x3 x7 x9:Sl}(hl:xs.length<=60)(hx:∀x∈xs,0<=x/\x<=60):∃(s':Int) (t5:Sl),lx W (((((ZD.body.drop 5).drop 1).drop 1).drop 1).take 1) [x0,.sh HH,.o (.l [.int k,.int s]),x3,.o (cB HH (xs.map D.int)),.un,.o (.l (xs.map D.int)),x7,.s (LA (xs.map num)),x9]=some (.nx,[x0,.sh HH,.o (.l [.int k,.int s']),x3,.o (cB HH (xs.map D.int)),t5,.o (.l (xs.map D.int)),x7,.s (LA (xs.map num)),x9]):=by
 obtain⟨v,s1,v1,d1⟩:=qN (k:=k) (s:=s) (m:=10) (by decide);have d1:=d1 W 28
 have hi:∀U,aAb .eE [.val (.i (1+(v:Int)))] U=some ((KC (1+v)).map λ(j:Nat)=>.int (j:Int),none):=λU=>by(rw[show(1+(v:Int))=((1+v:Nat):Int) by lia];exact SW (k:=1+v) (by lia))
 have ht:run T W 29 "p" [.p (cB HH (xs.map D.int)),.s "line",.s (LA (xs.map num))]=_:=aAS (W:=W) (n:=23) (due:=LA (xs.map num)) (Ul (h:=HH) hx hl);rw[WC] at ht
 generalize xs.map D.int=X at *
 generalize LA _=tx at *
 obtain⟨U',e,s2,t5,rfl,h5⟩:=cQ (bind:=bB true [5]) (body:=MA T.aA (run T W 29) W PZ)
  (λU=>∃(s2:Int) (t5:Sl),U=[x0,.sh HH,.o (.l [.int k,.int s2]),x3,.o (cB HH X),t5,.o (.l X),x7,.s tx,x9]/\UB t5=true)
  (ds:=(KC (1+v)).map λ(j:Nat)=>.int (j:Int)) (λd hd U hU=>by
   obtain⟨s2,t5,rfl,h5⟩:=hU;obtain⟨s3,w,ho,hw⟩:=iNa (W:=W) (n:=27) (k:=k) (s:=s2);have hs:=uXa (W:=W) (n:=23) (nXa (h:=HH) (L:=X) hw);have e0:(("row":bA) == "row")=true:=WC _;refine⟨_,by simp only[qE,JC h5]<;>rfl,[x0,.sh HH,.o (.l [.int k,.int s3]),x3,.o (cB HH X),.sh d,.o (.l X),x7,.s tx,x9], ?_,s3,_,rfl,rfl⟩;clear hd h5 hw hi hx hl v1 d1;unfold DS at hs
   generalize cB HH X=DD at *
   unfold PZ
   walk_at "!cG aG bG HF") (U:=[x0,.sh HH,.o (.l [.int k,.int s1]),x3,.o (cB HH X),.un,.o (.l X),x7,.s tx,x9]) ⟨_,_,rfl,rfl⟩
 refine⟨s2,t5, ?_⟩;clear hx hl v1 ht h5
 generalize cB HH X=DD at *
 generalize ((KC (1+v)).map λ(j:Nat)=>D.int (j:Int))=R at *
 unfold lx ZD
 walk_at "!cG aG bG HF"
def dJa{W:Nat}{no ba oc k s:Int}{fs:List (Int×Int×Bool)}{rs:List D}{xs:List Int}{x0 x3 x5 x7 x9:Sl}(h:HX no ba oc fs rs)(h7:UB x7=true)(hl:xs.length<=60)(hx:∀x∈xs,0<=x/\x<=60):∃(s':Int) (t7:Sl),lx W ((((((ZD.body.drop 5).drop 1).drop 1).drop 1).drop 1).take 1) [x0,.sh (),.o (.l [.int k,.int s]),x3,.o (cB () (xs.map D.int)),x5,.o (.l (xs.map D.int)),x7,.s (LA (xs.map num)),x9]=some (.nx,[x0,.sh (),.o (.l [.int k,.int s']),x3,.o (cB () (xs.map D.int)),x5,.o (.l (xs.map D.int)),t7,.s (LA (xs.map num)),x9]):=by
 have n1:=h.ho.n1;have n2:=h.ho.n2;obtain⟨v,s1,v1,d1⟩:=qN (k:=k) (s:=s) (m:=100000000000000000000000000000000000000000000000000000000000) (by decide);obtain⟨u,s2,u1,d2⟩:=qN (k:=k) (s:=s1) (m:=100000000000000000000000000000000000000000000000000000000000) (by decide);have d1:=d1 W 28;have d2:=d2 W 28;have hp:∀x,uG .Pow x (some (.int 10)) (some (.int 59))=some (.i 100000000000000000000000000000000000000000000000000000000000):=λx=>Rv.trans (xv (i:=10) (j:=59) (by decide))
 have ht:run T W 29 "p" [.p (cB () (xs.map D.int)),.s "line",.s (LA (xs.map num))]=_:=aAS (W:=W) (n:=23) (due:=LA (xs.map num)) (Ul (h:=()) hx hl);rw[WC] at ht
 have hn:∀d∈[D.int no,.int (-1),.int (no+(v:Int)),.int (-1-(u:Int))],∃i,d=.int i/\EH i/\¬(0<=i/\i<=no-1) :=
  fc ⟨_,rfl,eV (by lia),by lia⟩ (fc ⟨_,rfl,eV (by decide),by lia⟩ (fc ⟨_,rfl,VZ (by lia),by lia⟩ (fc ⟨_,rfl,VZ (by lia),by lia⟩ λ_ z=>nomatch z)))
 generalize hM:[D.int no,.int (-1),.int (no+(v:Int)),.int (-1-(u:Int))]=M at hn;have sM:yB M.length=true:=by rw[<- hM];exact yC (show 4<=1000000 by decide)
 have hS:∀i,EH i->¬(0<=i/\i<=no-1)->"i"|||29|||[.p (cB () (xs.map D.int)),.s ("sing " ++ num i)]|||.s "note":=λi hb hi=>R8 (W:=W) (n:=23) (Wl hb (.inl hi))
 generalize xs.map D.int=X at *
 generalize LA _=tx at *
 generalize hD:cB () X=DD at *
 have h0:bE (some ()) (.int 0)=some (.i no):=rfl
 generalize ()=HH at *
 obtain⟨U',e,t7,rfl,h5⟩:=cQ (bind:=bB true [7]) (body:=MA T.aA (run T W 29) W QZ)
  (λU=>∃(t7:Sl),U=[x0,.sh HH,.o (.l [.int k,.int s2]),x3,.ow DD false false,x5,.o (.l X),t7,.s tx,x9]/\UB t7=true)
  (ds:=M) (λd hd U hU=>by
   obtain⟨t7,rfl,h5⟩:=hU;obtain⟨i,rfl,hb,hi⟩:=hn d hd;have hs:=hS i hb hi;have RH:=hb.s;have hc:=Fd hb;have e0:(("note":bA) == "note")=true:=WC _;refine⟨_,by simp only[qE,JC h5]<;>rfl,[x0,.sh HH,.o (.l [.int k,.int s2]),x3,.ow DD false false,x5,.o (.l X),.i i,.s tx,x9], ?_,_,rfl,rfl⟩;clear hM sM hd h5 hS hn hi hb hx hl v1 u1 d1 d2 hD h h7 hp h0 n1 n2
   generalize "sing " ++ num i=sx at *
   generalize num i=nx at *
   unfold QZ
   walk_at "!cG aG bG HF") (U:=[x0,.sh HH,.o (.l [.int k,.int s2]),x3,.ow DD false false,x5,.o (.l X),x7,.s tx,x9]) ⟨_,rfl,h7⟩
 refine⟨s2,t7, ?_⟩;have hi:∀U,aAb .of [.val (.ow (.l M))] U=some (M,none):=λU=>LN rfl
 clear hx hl v1 u1 ht h5 hS hn hD h h7 n1 n2;unfold lx ZD
 walk_at "!cG aG bG HF"
def Zl:("sing 0":bA)=("sing ":bA)++num 0:=by left
def aJa{W:Nat}{no ba oc:Int}{fs:List (Int×Int×Bool)}{rs:List D}{xs:List Int}{x0 x1 x2 x3 x5 x7 x8 x9:Sl}(h:HX no ba oc fs rs):∃L,lx W (((((((ZD.body.drop 5).drop 1).drop 1).drop 1).drop 1).drop 1).take 1) [x0,x1,x2,x3,.o (cB () (xs.map D.int)),x5,.o (.l (xs.map D.int)),x7,x8,x9]=some (.nx,[x0,x1,x2,x3,.o (cB () L),x5,.o (.l (xs.map D.int)),x7,x8,x9]):=by
 have n1:=h.ho.n1;by_cases c:xs.length=60
 ·have hb:EH 0:=eV (by decide);have hc:decide ((xs.length:Int)=60)=true:=GC (by lia);obtain⟨ys,y,rfl⟩:∃ys y,xs=ys++[y]:=⟨xs.dropLast,xs.getLast (by intro z;rw[z] at c;cases c),(List.dropLast_concat_getLast _).symm⟩
  have ly:ys.length=59:=by rw[iF,FY] at c;lia
  have hs:"i"|||29|||[.p (cB () ((ys++[y]).map D.int)),.s "sing 0"]|||.s "note":=by(rw[Zl];exact R8 (W:=W) (n:=23) (Wl hb (.inr (by rw[YA];exact c))))
  have h2:run T W 29 "b" [.p (cB () ((ys++[y]).map D.int)),.s "back"]=some (.ok (.s "ok"),[.p (cB () (ys.map D.int)),.s "back"]):=by(rw[TY];exact jXa (W:=W) (n:=24))
  have h3:run T W 29 "b" [.p (cB () (ys.map D.int)),.s "sing 0"]=some (.ok (.s "ok"),[.p (cB () (ys.map D.int++[.int 0])),.s "sing 0"]):=by(rw[Zl];exact Vl (W:=W) (n:=24) hb (by decide) (by lia) (by rw[YA];lia))
  have e0:(("note":bA) == "note")=true:=WC _;have e1:(("ok":bA) == "ok")=true:=WC _
  have cC:rD .len [.l ((ys++[y]).map D.int)]=some (.i (60:Int)):=by(show some (RV.sh (.int (((ys++[y]).map D.int).length:Int)))=_;rw[YA,c];rfl)
  refine⟨ys.map D.int++[.int 0], ?_⟩
  generalize (ys++[y]).map D.int=X at *
  generalize ys.map D.int++[.int 0]=Z at *
  generalize ys.map D.int=Y at *
  generalize ()=HH at *
  clear c hc hb ly h n1;unfold lx ZD
  unfold cB at *
  walk_at "!cG aG bG HF"
 ·have hc:decide ((xs.length:Int)=60)=false:=zC (by lia)
  have cC:rD .len [.l (xs.map D.int)]=some (.i (xs.length:Int)):=by(show some (RV.sh (.int ((xs.map D.int).length:Int)))=_;rw[YA])
  refine⟨xs.map D.int, ?_⟩
  generalize xs.map D.int=X at *
  generalize cB () X=DD at *
  clear c h n1;unfold lx ZD
  walk_at "!cG aG bG HF"
def zIa{rs L:List D}(h:HX no ba oc fs rs):∃U,lx W (((((((ZD.body.drop 5).drop 1).drop 1).drop 1).drop 1).drop 1).drop 1) [x0,x1,x2,.s (RB no ba oc fs rs),.o (cB () L),x5,x6,x7,x8,.un]=some (.rt (.b true),U):=by
 have tg:=C9 h;have q1:("\n":bA).cps.toList=[10]:=by left
 have b1:=aAv tg (BG (w:="\n"));have b2:=aAv tg (BG (w:=" "));have b3:zE (some (.str (RB no ba oc fs rs))) (some (.int 1)) none=some (.s (RD (RB no ba oc fs rs) (some 1) none)):=S8 (by have:=tg.len;lia) (nK (CT (a:=1) tg).asc);have b4:zE (some (.str (RB no ba oc fs rs))) (some (.int 7)) none=some (.s (RD (RB no ba oc fs rs) (some 7) none)):=S8 (by have:=tg.len;lia) (nK (CT (a:=7) tg).asc);have b5:=aAv (BG (w:="notes 8")) (CT (a:=7) tg);replace b5:IB .Add (.str "notes 8") (.str (RD (RB no ba oc fs rs) (some 7) none))=some (.s ("notes 8" ++ RD (RB no ba oc fs rs) (some 7) none)):=b5
 have hn:∀d∈[D.rA,.int 7,.l [.str (RB no ba oc fs rs)],.str "",.str (RB no ba oc fs rs ++ "\n"),.str (RB no ba oc fs rs ++ " "),.str (RD (RB no ba oc fs rs) (some 1) none),.str ("notes 8" ++ RD (RB no ba oc fs rs) (some 7) none)],ND W 20 d :=
  fc (b8 rfl) (fc (b8 rfl) (fc (b8 rfl) (fc pMa (fc (uj tg q1 (.inr rfl)) (fc (uj tg A7 (.inl rfl)) (fc (qMa h rfl) (fc (oMa tg) λ_ z=>nomatch z)))))))
 have ht:run T W 29 "p" [.p (cB () L),.s "house",.s (RB no ba oc fs rs)]=_:=aAS (n:=23) (due:=RB no ba oc fs rs) (kXa h);rw[WC] at ht
 generalize RB no ba oc fs rs=tx at *
 generalize RD tx (some 1) none=t1 at *
 generalize "notes 8" ++ RD tx (some 7) none=t8 at *
 generalize RD tx (some 7) none=t7 at *
 generalize tx ++ "\n"=ta at *
 generalize tx ++ " "=tb at *
 generalize cB () L=DD at *
 generalize hM:[D.rA,.int 7,.l [.str tx],.str "",.str ta,.str tb,.str t1,.str t8]=M at hn;have sM:yB M.length=true:=by rw[<- hM];exact yC (show 8<=1000000 by decide)
 have hi:∀U,aAb .of [.val (.ow (.l M))] U=some (M,none):=λU=>LN rfl
 obtain⟨U',e,t9,rfl,h9⟩:=cQ (bind:=bB true [9]) (body:=MA T.aA (run T W 29) W RZ)
  (λU=>∃(t9:Sl),U=[x0,x1,x2,.s tx,.ow DD false false,x5,x6,x7,x8,t9]/\UB t9=true)
  (ds:=M) (λd hd U hU=>by
   obtain⟨t9,rfl,h9⟩:=hU;have hs:=hn d hd;unfold ND at hs;refine⟨_,by simp only[qE,JC h9]<;>rfl,[x0,x1,x2,.s tx,.ow DD false false,x5,x6,x7,x8,.sh d], ?_,_,rfl,rfl⟩;unfold RZ
   walk_at "!cG aG bG HF") (U:=[x0,x1,x2,.s tx,.ow DD false false,x5,x6,x7,x8,.un]) ⟨_,rfl,rfl⟩
 refine⟨[x0,x1,x2,.s tx,.ow DD false false,x5,x6,x7,x8,t9], ?_⟩;unfold lx ZD
 walk_at "!cG aG bG HF"
def law_spec(W:Nat)(ns:List Int)(hn:ns.length<=63):∃OA,run T W 30 "law" [.sh (.l (ns.map .int))]=some (.ok (.b true),OA):=by
 rw[qK (fn:=ZD) rfl rfl rfl];obtain⟨no,ba,oc,fs,rs,pk,ps,h,hA⟩:=cJa hn;have n2:=h.ho.n2;rw[ZE hA];obtain⟨s1,xs,hB,hl,hx⟩:=bJa (k:=pk) (s:=ps) (x0:=.sh (.l (ns.map .int))) (x3:=.s (RB no ba oc fs rs)) (x4:=.o (cB () [])) h;rw[ZE hB];have S5:∀x∈xs,0<=x/\x<=60:=λx hm=>⟨(hx x hm).1,by have:=(hx x hm).2;lia⟩
 obtain⟨t7,hC,h7⟩:=iJa (x0:=.sh (.l (ns.map .int))) (x2:=.o (.l [.int pk,.int s1])) (x3:=.s (RB no ba oc fs rs)) h hl hx;rw[ZE hC];rw[ZE (hJa hl S5)];obtain⟨s2,t5,hE⟩:=gJa (k:=pk) (s:=s1) (HH:=()) (x0:=.sh (.l (ns.map .int))) (x3:=.s (RB no ba oc fs rs)) (x7:=t7) (x9:=.un) hl S5;rw[ZE hE];obtain⟨s3,f9,hF⟩:=dJa (k:=pk) (s:=s2) (x0:=.sh (.l (ns.map .int))) (x3:=.s (RB no ba oc fs rs)) (x5:=t5) (x9:=.un) h h7 hl S5;rw[ZE hF];obtain⟨L,hG⟩:=aJa (x0:=.sh (.l (ns.map .int))) (x1:=.sh ()) (x2:=.o (.l [.int pk,.int s3])) (x3:=.s (RB no ba oc fs rs)) (x5:=t5) (x7:=f9) (x8:=.s (LA (xs.map num))) (x9:=.un) h;rw[ZE hG];obtain⟨U,hH⟩:=zIa (x0:=.sh (.l (ns.map .int))) (x1:=.sh ()) (x2:=.o (.l [.int pk,.int s3])) (x5:=t5) (x6:=.o (.l (xs.map D.int))) (x7:=f9) (x8:=.s (LA (xs.map num))) h;unfold lx at hH;rw[hH];exact⟨_,rfl⟩
end Mx
namespace PySem.W.Fast
local macro_rules | `(command|universe $x)=>do let l:=x.getId.toString.toList;let c←(List.range (l.length/11)).toArray.mapM λi=>(do let n:=Lean.mkIdent (.mkSimple s!"tw{((l.drop (1+11*i)).take 11).foldl (fun n d=>62*n+(d.toNat-if d<'A' then 48 else if d<'a' then 55 else 61)) 0}");`(command|def $n:ident:=True));return Lean.mkNullNode (c.map (·.raw))
universe xBy0xdsOzPbYBzk4PfVFpySC2P4eR8efW807TlzPuAdEhC4FEkTJ0vkJC8NSWhsQaU6C949xocRgyICBOk8HKNfqe1DXjby9P0LxCCWoSCR9IXYCG8NniKEIYZCMf3ICB4dfvCPO3TfFw7ppCVS5HeeQSW8CXEjYWkgaA1Cafp11dIrQ2CbVqNMuH86i1GKsBS6zFzACfl2O5EKUN0CgTjpMtgQMpCiDrns3brChCn5wbuxiugPCpm84zFbrNcCptmVImkO3K1HeOGhOrlK2CtbFUZjgEjACvBbaChJNX5CyODGnUwJ2hD0GGwUEHcdFD1WYhAebxw5D8KrKJLYN3jD8eLHEdEfQLDBpNJAZGzIoDEjqo9l6huMDHr5Rd0FLd3DLYrRV2M32ODQeSdjTElVzDT69iqbAj6mDVI46KqJLTxDXsTLGC3AWwDfJGkE0pdIaDldBwiF9eH0DqccMTWiA7PDqjb0ntbGJzDrQD8ZYhDqpDtZqd82L8lbDtkxot6ZLMhDuSVAjk2qrtDxJkLbu7PkXDzhobX46cNCE0Fjf8KmXNIE24MowCVQjUE4t2LsKXdSrE6i4iB1xwap1PWUL0m7jbPE98EkM055PbEAvf3bNREVeEG9oCnRBeX2EKN6eB1X7wMEQ4V6XUnhq0EYh8ezjWEhoEfYaWsiD9iaEhKMSvfBMq9ElqtapsPks0Eocm5YoGgEm1TvwnxZ5lQQEpjCbNR1sA2ErSWyG8A4Y6EtAc4EjrXc6EttXWLUCpPvEuW7fEPF9rqEuxXpD0QMmR1UXEDKMgM91F3ougkObSHJ1VOISprVmHf09MyE1DwBJIF832Xirt8pn1VpKliD1OubFBT2Fz8ZxMjFBvt3hz8nrmFI9v60oexGSFLAVvgMgHWbFMBdx7Bz4RgFR6b2iwsOKuFVdz7u7cwHoFWQa2fYwNWbFWdZCjWNUm2FWrsbMWZErYFXCtvM712lAFZ3WBzhnRhiFZDrAWgU7S3FZLaFeAadvtFbZN0LRDc0c1YoKK5wUixAFdZVl6fskQHFg7UO0SubfEFhhFYnm7rSeFho0moO8Thi1ZdgP1DAoj8Fl29B9YbwxqFmJ0ai4TFSvFmSWCubUTeqFmi3nkGNUVJFo3PfRAa8dEFomtExKuOGUFpfrsSNydFxFr7TM9JKTZWFscbF254ZI6FvEUhT7uqFNFyanhxmNrBoG3g2X3SxVHnG5C05GqrjcsG5MT3k1T8XuG5RYxxtyM0eG7A6Niu7fcpG8raffdt0Rp1c8iOrtHn55GAKURGONKPtGBTYY9EWLRXGDmbtSfpy11GDoWIQYzFTtGEOT9yPdvHxGFQdAGKtKNw1cqj4a8DsDWGJHrzJ6sCRXGKMPgpPXuvVGLWQPe4DF6aGLgmDQk6wrDGLxv8gnycbjGNqp0mHF3wfGQFly8VVsY3GRqQJo5HNIrGUiBmfoshLUGWC9TurWpZuGWqekbmfhwaGX28VjyFc0vGXZskwrwN0eGYzmj4jCZBuGZLUQxX7vIGGaqMPP5YMHWGaxhfx0G5gWGeRtgcBXbicGij1InpffPZGk3ugLyBIfOGmXBex5H5BD1gFIWyiBO2sGpN1fhmQ9CpGsehTdHywDMGuynG8RAnzoGxezH9fIQwfGz71IohOetAGzuxBkSxHRe1hPETbNyP2VH9ExAPszEjd1j1OOIqzk4dHGzeZeDxMkC1jHUfwqCq2NHKPTuaseCaoHKWZUNOeXRLHML1WLj6ZDtHPKvvwaJ61KHPnUq6g94E6HQBwGLpEJVPHQEEIH7sjDnHVngue9pz1kHW0G9fWBkKqHYdruztLM4FHat6f4kZe3S1lH2x2Pcz4sHfAfDjfRmfmHmL3ENZSichHmpCxWlsqSTHnaFKlxjzMCHoXgSO3BwBg1mkTTBMOTGXHrfls2Gt46KHwCAXSAM7wpHygnSW2Re89HzLcoOxBcqDI1wvSeyn1JxI5enT8KbxvdI6NxueLbYfxI7pyNzImPMWIDKbRHm7quTIEErVuiXzyvIErwKmDYcakIFPbftSmxaIIHTJv80IL7mIIImuKRalkXIK5XYLL66Ro1qGJ8SeuNFDIQwmT7oHMvh1qIXXzTePpKIR1eLzH8OZFISeWfyyvKDJ0BSAl6Q0GItIV7EziHeXQVIXcbb7RERfeIZhrPxeJemvIZtDwAb37XTIZttnhhfg8gIa05OZzi8e6Ib6VPKJlg2WIcfuyZzEJOYIlJX9OS5IpnIloQ7Rn1grGIoTSEQiB4xpIq8A2PZcraL1t5a4FBR8gxItHXUjfXMf8IyBt6VWhStyIzgXT3ZqWxHJ1inBAdfnGHJ3Vs8H3cUGXJ81C9cOFkdXJ9dKwGOH3CpJEFMUQMNQPWJIxSkwKwmVnJJ3jOBlQF57JJnzwAHrMldJKJP7BhPIFxJOjTnsptIWXJQi1RRcjlmkJSr5AYD5ZXgJT57rdMFtrEJX9fPCvTjbN1xIx8Q8hx08JZoXVvTzmkfJbvLnbBWTWnJcBa8Jjr5wX1xvlUoFFRZPJgXnDp7pe1IJiEqTsqmiWTJjIAEkVhOXIJkc4yJBbJJpJl7hVOyzqQ2Jn1yR4BUNSnJnrak65rZjOJsnsvswUSp7JwFPnYywwZXJwTkDLDanG7Jy6F9KQHs1LJyihlls7h0e20HeGfZJlsQK3jE7XXYBQyK5MVRPpbhlV20ePpynxUrTK6XaGwiup9UK7GANoQEjXD21G0CYs7bEiKEL6qqRmq1sKEY7HvgD4STKHYlINWFLmlKIHT2PtOI74KJhAfe3fk2CKOeXEHzoZXU22bldcW1nCwKRJ4Nz0uibhKRhCLzGuktSKSCs4Gcb1OUKTDkpBk0TQyKTbTsKyalmFKUnjaneHFmcKc1YdjTpEq1Ke1ejxN5JXVKewIvBb2Nl1KhaCCoMXu7KKjhTKELO4NlKmc63527M06Kn2iOovrcoZKnZyXSqb0vHKnzGrKltRjJKqiV3PvhGVeKr30Jkso88OKsJXqGKtrQu25UN5PQCikpKwmLhETh2SaKzAOkpqhrxTL0Evdvwu6mtL1WDBDFx3Q8L1giyZBXD20L3PF477kYr4L3zxcL4p3WGLAF6daD1E8hLERmHsMt3pM27eDm5fjJYiLEUshrWEzcXLIvyooaF9qILJAyOBz4LIfLPMaSYNt8qOLQTGoWmzt9TLVmaNQsI4gZLXNW8BOhoBhLXO5hPZAOvRLZPQ7SScM0329tgZEqEpbxLbzbEuLA0hjLcsJ7Be2IvCLcugpaRnPiHLfVzLnbmqVO2AQVZofVhQxLgWLTQJmjd12ASuzMJj9u02Ah0yJSIi8BLkb6O6CeGT9LqHmdueA8EhLr5bh9yMlM3LsgOoix1VvO2Bj1KOTeaCjLv7z6t1M9plLw30CK4dbZ5Lx2KV78oDP52FHFagnrmyG2FLF3Nh1FCl2Fokjn4Z1HZ0E3WW3Se50l2IAJQEFXjEo2InkqAT5dxS2ItVOs2Wjy82J9lRqTx1HJ2NhcwZcinO12P16y5AQ9sL2PBCkAOeAW10FRxxXYO8da0Fux5RERH362Zv230QeKF22Zv3UkpwSTP2aCbUU8YRPP2allWMSCaFz2bjuHrkTe9D2cfuHeFURDg2jXsTrmxoJg2kxRqwtLmkj2m5hVtipUxx2ngIWCxC7eW2tx655xNxs72uSgxFoB2hw2w4e0imSpTy2xdmU0Gei4L2z6GnhKfJVQ0IbMKN5CksS31s5Pap1adC33ZKZSVexwo37J7glM4t423IJamDtnqBm3KDO4XkfhDP3LVubKgnutB3LepiZiWbNA3NVeVnxLpnz3OAJfBFZoWq3P3mjc2L0As3RxAwriDLz53S0A45zWHDe3Sn9C7pODtq3UNFeAEo6oy3VB7ZvlVvDQ3Vl8j0DuU9O3YrBrVVBl613aXExrJFL703cKJ3CqjdhU3me5I9dIIp73o788bWOBdj3qbVkh0s2443rTfEHz9lZI3s4CS6W4BCU3uOXn5pUYmJ3uUzMGk2err3zA0pku1UHQ3zbEOwxWadT02UMjRHlLxl499RvGM52CA4FFGjIDqCOE4ITEPYQ88Xd4K9PTyivMNn4KopHIIEhG14P4EhLphhSM4SFW04N6jgb4SjMbtlHuy84TGEUQXtLqr4Uht2pMfCSN4XzUY1LSIwm4Zt3UP7Q9H24aEwE53Jn9g4fnYDstLOlS4i5KpeAVwje4i68mbNtt3i4lJBZhrfajP0Tc5aiT58st4mFlHqcTFZt4mX1YYylmws4oJsJBnxiFT4petHv1OyNo4qhSuZjg0bP4yFoa1ymzky4yLnUsVFvao50PwlKWxVDG51326fb7ECa0VLfQSMMbJq551FgMrHBVP0VnuxJeXNGn5CF37JLYGBt5Ghp10lA1NH5HaEhMuzLLM5J0NaSfitcG5KnWhOQuRJS5NIcnQqizfd5V8CdrnzTAa5Ws3iGdVFn85Yjbw9XMTDe5bmGDXpgZ3F5c5lY6fzqop5d6DHRnCf9w5eC3Q8X2ae95gqc3cHxyOg5hdAjWgwedk5hjojXEQKVg5k9NgaZjbuU5m2w5WMBfvi5mmv4VAV7Vx5tuLCGhgVkb5uzF1mKxr7n5xJTLoLKry70b7NXeF8rEG5znWa1yzyRl61zMVSrfJxT631qQesPpJ265DTO8RWKBa68O23cYJadZ68jahxvcWhd68vlnlzhnH36AAn8Rc1Rhq6AxvMTEvXLA6BBhvI2F8mR6D0DaIDHGtO6EawSGjJ0MZ6FRTyAzpSKh6HAcQcLYyDH6IOiWdJyV3C0dU3gdyDDeI6NeTrIvd86M6Rqt37ezjJ86UCg8BAWVTw0eKh0ye64N96aDwnKv7dh16b4LWTo4ehD6gA3AYtXmeR0fRH9F3nFPi6hEGmKEqer40fXsAmHg2np6o66pZNE2LD6pwINZrpvPR6rlpeeRLYBc6ufFhEh6bsi6vSQXT9UvLW04MEVwlYqws72KNUX5wKNf75WLfb53ETF77lwrvP7b39794CAigHaSu7AU5fk07yfp7CYzCiQkfp804TKfRRfPGk0immrG0wvGp0inEan8ssIw7Eo6kPpKJI27GYRMhsTYbT7I0uVYQTmNQ7JlepImVYtn7Kh6XByPE7J04YV8k9vlkR7Mm1I0Tb36Y7NOemNfApXD7OluV0JIkh27PnaWZEAmfe7S7bbiTtzw87W9d9qBLUKw7WDQUDF6JFK7aV5z2WZkeW0l7HYlYjEaS04iSS1JOahC7ckYBHx9TMf7f7i5MMVikW7ikvPeVYEr07ldkpxscxmk7nfCsej2Bh47ocMUcaRjP77qYyaSVpDp37sO4OLZNEWq7wpJBlFnK8r80cweUYGMrC80vgmShJDKd85UFAPW6Wsq85WtbD5D9DL85bCaRd3gU585uvo7brD8K8B2EE9CWwVp8BS830TL82a8KLMyLPQXF48MIauM0EI108NR2B23HKkp8PkMdtT2McW8RUl1vdVaEA8YYItk5cIEw8ZZxdk3mUdF8c1MQ7Opup88cSjJqwG6SQ8cWwktqvFFL8dFcfHvRNdz8dV8BTnHs5g8daOoJWk4WU8fjj5iT01Yz8guPilLOL9b8h08LBiA2Hj8hpMLVHMhNp8i4Mh3x0JQO8iDQFhtq00m8oTuEsyhP948owwuCvRvJN8pdKfGBfoIe8psU8oFpnFb8qFOjIGOavN8tPqUnPxGrB8woDgq242J88zSEK4VHz7595Od5yZVDNc0uMizJoe7EM99q2s5Hty6T9BRhvESQhMG9CknxuPJ45q9FwLS6n7LFa9GWjS7hgAJL9JHghJ1LXFN9NObYBU5KP19OH4ltJSI6m9SdpXXLt53q9U40TNfPUff9V9KdSLWaAH9VG73TbUmAh9VIbVwvRSJd9VXx68H2ksV9WJdrZ9w0LA9X6lnsw89jJ9ZqMiTFSJqZ9aFyYdHmK3B9bVenwpAAWN9bkO2Dfje1q9bkovAH2T0a9chG1Wv2dqP9lo9JV1mGck9oNuAjdMzYl9rPYLIo3bmF9uTAlBBhSI5068ydOwJ4vV9vkZBgvjc7L9vvk3UtnciR9zgmHwDhbhNA0eWRtMOarhA2Zey4C3HkIA3UeYG38otZA4bQpgTqtVwA85DlZz9JNWA9j9kkerijxACiaMbhma3sAElmgkUpxyZAHc0lxLHq1YAJLPXjZlRGcAJqkRqGg4fVANU88DOkZLTAUosrQU4HQrAV2gU68B6ikAVOF0X0jkiRAbciY9LZxq7AdmuO9bBxtq147IoF0XWQ5AfF6BD3dW8LAi2dH4v05QiAmeiQATzLk2AmymjvUectmAoRMMsEkjmZAp543uftp6WAp94lM4zv3EAs8H6G58RC1AsblUTkHqUAAsg1qkFkeejAuWHJB19Em806lZ4yHAwmPAwnpway7qdjAyo6Z3UTb8bB1hqLs1YKBXB5JTCFA52NkB8W3MxL96bT174OYxaCfFfBB7gqG4CvrVBCgOdEE9K8vBEA4MS6lxlkBF8Hr6Vq17JBGRkKnjkJR5BGiTwvcPc7DBIH0ec39Og5BIpiq1CgWdBBKOvXo6Db9h18JgSu61UUE00hpdocQCGiBRmX9idgfc2BTFnzdRnCX4BZqgUrMQ7loBeqz5wLm4YtBhxIxgVPyxWBj7yq2f4fyJBjiPRzZBNukBmQeBqP8QSc1B3xOmPrOYzBoj7dBnqRoOBtixlmxQ0T0BuJVh62DHzp
end PySem.W.Fast
open PySem PySem.W PyProof.Rows
local macro_rules | `(tactic| exists $n,$b,$f)=>`(tactic| refine CI.D_ $(Lean.mkIdent `KX) $(Lean.mkIdent `G) (show CI.iR _ (Tx.top $n) _ $f from CI.iX $b) ?_)
set_option maxRecDepth 100000 in
set_option maxHeartbeats 0 in
theorem PySem.Challenge.cw_canonwright_k70_rows_refused_holds : PySem.Challenge.rw_canonwright_k70_rows_refused.Holds := by
 w_on;o_law;k_head;(case hw=>w_witness2)
 k_fill
 refine CI.lJa (l:=PySem.Challenge.rw_canonwright_k70_rows_refused) (T:=Tx.T) (L:=Tx.L) (st:=Tx.top 152) (fn:=Tx.ZD) (W:=1000000) (n:=30) (x:="law") (p:="_law_script") (f:="law") rfl rfl ⟨rfl,by decide,by decide,rfl⟩ rfl Tx.iu Tx.wOa (by left) (λw h Y=>PySem.W.kIn_of Y) ?C_ ?tKa
 case tKa=>exact Mx.law_spec _
 case C_ =>
  intro w mg h KX G;have qc:CI.ClsAt (L2.fD KX) "Desk":=by refine' CI.Ex ?a ?pg ?hd ?po ?sa ?mk ?kp;(case a | pg | hd | po | sa | mk | kp=>dsimp only[L2.fD];k_is)
  have D_law:CI.gR (L2.fD KX) "law" (Tx.top 152):=by refine' CI.Zd ?a ?l ?c ?k;(case a | l | c | k=>dsimp only[L2.fD];k_is)
  have ⟨Zr,Xr,_⟩:CI.rG w.params (L2.fD KX) mg Tx.T (CI.MH Tx.L) ("WAYS",.c (.t [(.str ("like":bA)),(.str ("against":bA)),(.str ("aside":bA)),(.str ("any":bA))]))/\CI.rG w.params (L2.fD KX) mg Tx.T (CI.MH Tx.L) ("CHANGING",.c (.t [(.str ("sing":bA)),(.str ("back":bA)),(.str ("less":bA)),(.str ("without":bA)),(.str ("over":bA))]))/\True:=by
   iterate 2 refine⟨by refine' CI.Nx KX G ?a ?l ?c ?z;(case a | l=>dsimp only[L2.fD];k_is);(case c=>first | rfl | left);(case z=>rfl), ?_⟩
   trivial
  have Yr:CI.rG w.params (L2.fD KX) mg Tx.T (CI.MH Tx.L) ("FIGURES",.c (.str ("0123456789":bA))):=by
   refine' CI.Lx KX G ?a ?ok
   (case a=>dsimp only[L2.fD];k_is)
   (case ok=>left)
  have ⟨Au,yu,_⟩:CI.NU (L2.fD KX) "NoVoice"/\CI.NU (L2.fD KX) "NoRule"/\True:=by
   iterate 2 refine⟨by refine' CI.n_ ?a ?b ?xq ?ga ?no ?cl ?gt ?tk ?mo ?mb ?mv ?ov ?sa ?na ?hd ?kp;(case a | b | ga | no | cl | gt | tk | mo | mb | mv | sa | na | hd | kp=>dsimp only[L2.fD];k_is);(case xq | ov=>dsimp only[L2.fD];kernel_rfl), ?_⟩
   trivial
  have ⟨Ls,Ks,_⟩:CI.VO (L2.fD KX) "NoVoice" "__init__" "NoVoice.__init__" (Tx.dQ 3 0)/\CI.VO (L2.fD KX) "NoRule" "__init__" "NoRule.__init__" (Tx.dQ 4 0)/\True:=by
   iterate 2 refine⟨by refine' CI.Q7 ?a ?b ?i ?l ?c ?k;(case a | b | i | l | c | k=>dsimp only[L2.fD];k_is), ?_⟩
   trivial
  have ⟨uu,zu,xu,wu,qu,_⟩:CI.VL (L2.fD KX) "NoHouse"/\CI.VL (L2.fD KX) "NoText"/\CI.VL (L2.fD KX) "NoRow"/\CI.VL (L2.fD KX) "NoNote"/\CI.VL (L2.fD KX) "CanonError"/\True:=by
   iterate 5 refine⟨by refine' CI.g_ ?a ?xq ?ga ?no ?cl ?gt ?tk ?mo ?mb ?mv;(case a | ga | no | cl | gt | tk | mo | mb | mv=>dsimp only[L2.fD];k_is);(case xq=>dsimp only[L2.fD];k_exc), ?_⟩
   trivial
  refine⟨D_law, ?_⟩;unfold Tx.L;refine CI.fc (Zr) ?_
  iterate 8 refine CI.fc (by refine' CI.A1 KX G ?a;(case a=>k_is)) ?_
  refine CI.fc (Yr) ?_
  iterate 2 refine CI.fc (by refine' CI.A1 KX G ?a;(case a=>k_is)) ?_
  refine CI.fc (Xr) ?_
  iterate 1 refine CI.fc (by refine' CI.A1 KX G ?a;(case a=>k_is)) ?_
  exists 23,CI.sD,Tx.J3
  exists 24,CI.F0,Tx.K3
  exists 25,CI.jV,Tx.C3
  exists 26,CI.sD,Tx.QV
  exists 27,CI.sD,Tx.E3
  exists 28,CI.gM,Tx.B3
  exists 29,CI.jV,Tx.pM
  exists 30,CI.J0,Tx.D3
  exists 31,CI.J0,Tx.xP
  exists 112,CI.sD,Tx.TV
  exists 113,CI.sD,Tx.Q3
  exists 114,CI.sD,Tx.T3
  exists 115,CI.sD,Tx.VR
  exists 116,CI.sD,Tx.R3
  exists 117,CI.sD,Tx.S3
  exists 118,CI.sD,Tx.ZJ
  exists 119,CI.sD,Tx.N3
  exists 120,CI.sD,Tx.SV
  exists 121,CI.sD,Tx.M3
  exists 122,CI.sD,Tx.O3
  exists 123,CI.sD,Tx.ZK
  exists 124,CI.sD,Tx.sI
  exists 129,CI.sD,Tx.ZV
  exists 130,CI.sD,Tx.UR
  exists 135,CI.jV,Tx.PV
  exists 136,CI.F0,Tx.WV
  exists 137,CI.sD,Tx.YV
  exists 138,CI.jV,Tx.vP
  exists 141,CI.gM,Tx.W2
  exists 142,CI.gM,Tx.T2
  exists 143,CI.J0,Tx.X2
  exists 144,CI.sD,Tx.wN
  exists 145,CI.sD,Tx.oM
  exists 146,CI.sD,Tx.xN
  exists 147,CI.F0,Tx.y3
  exists 148,CI.sD,Tx.cJ
  exists 149,CI.gM,Tx.Z2
  exists 150,CI.sD,Tx.A3
  exists 151,CI.sD,Tx.V2
  exists 152,CI.sD,Tx.ZD
  refine la.mpr ⟨⟨"say",rfl,by unfold Tx.DL;exact CI.fc (CI.hLa qc (by refine' CI.Q7 ?a ?b ?i ?l ?c ?k;(case a | b | i | l | c | k=>(try dsimp only[L2.fD]);k_is)) Tx.yNa rfl) (λ_ h=>nomatch h)⟩, ?_⟩;refine CI.fc (CI.fNa KX G qc (by refine' CI.Q7 ?a ?b ?i ?l ?c ?k;(case a | b | i | l | c | k=>(try dsimp only[L2.fD]);k_is)) Tx.xNa rfl) ?_;refine CI.fc ⟨"house",rfl,CI.Pe (by(repeat refine CI.fc (by refine' CI.sj ?a ?b;(case a | b=>(try dsimp only[L2.fD]);k_is)) ?_);exact λ_ h=>nomatch h)⟩ ?_;refine CI.fc ⟨"line",rfl,CI.Pe (by(repeat refine CI.fc (by refine' CI.sj ?a ?b;(case a | b=>(try dsimp only[L2.fD]);k_is)) ?_);exact λ_ h=>nomatch h)⟩ ?_;refine CI.fc (by refine' CI.R' KX G ?a ?n ?l ?kl ?z ?g;(case a=>(try dsimp only[L2.fD]);k_is);(case l=>(try dsimp only[L2.fD]);k_is);(case n=>decide);(case kl=>k_keys);(case z=>rfl);(case g=>kernel_rfl)) ?_
  iterate 11 refine CI.fc (by refine' CI.Zv KX G ?a;(case a=>k_is)) ?_
  refine CI.fc (CI.JV KX G uu) ?_;refine CI.fc (CI.Ke KX G Au Ls Tx.mDa) ?_;refine CI.fc (CI.Ke KX G yu Ks Tx.lDa) ?_;refine CI.fc (CI.JV KX G zu) ?_;refine CI.fc (CI.JV KX G xu) ?_;refine CI.fc (CI.JV KX G wu) ?_
  iterate 10 refine CI.fc (by refine CI.c0a KX G ?s ?y ?n;(case s=>refine' CI.sIa ?a;(case a=>k_is));(case y=>(repeat refine CI.fc (by refine' CI.qIa ?a ?b ?k;(case a | b | k=>k_is)) ?_);exact Ba _);(case n=>(repeat refine CI.fc (by refine' CI.rIa ?a ?b ?k;(case a | b=>k_is);(case k=>kin_no)) ?_);exact Ba _)) ?_
  refine CI.fc (CI.q_ KX G qu (by(repeat refine CI.fc (by refine' CI.zKa ?a ?b ?m;(case a | b | m=>k_is)) ?_);exact Ba _)) ?_
  exact λ_ h=>nomatch h
