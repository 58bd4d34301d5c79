import PyProof.Rows.All
import Wide.All
import OpenK.AllK
import Wide.FinOn
import Lean
import PyProof.EqAt
import PyProof.EqKinds
import PyProof.TupleCall
import PyProof.MeetsSeq
import KE.KLam
import KE.KMinKey
import KE.KRevIter
import PySem.Challenge.RW_tietable_k91_whole_one_table_tells_all
open PySem renaming Value->A_,Addr->BJ,Shared->BK,wpAny->BL,starEach->BP,Str->BR,model->BV,Program->BW,Expr->B_,sizeLine_eq->CG,wpAny_newObj_type->CJ,compareOp->CN,Heap->CP,World->CQ,Stmt->CT,eval->CV,wpAny_call_entry->CZ,rawInt->C_,attributeBase->DG,wpAny_callSpecial?_slot->DP,wpAny_truthy_bool->DR,wpAny_field->DW,FuncData->DX,wpAny_setField_rec->DY,Around->D_,foldedSetIterable->E_,swapsWith->FJ,cellsFrom->FN,behindInMarks->FP,sysModules->FQ,cLine->FW,binaryOp->FZ,wpAny_seqItems->GC,assignEach->GD,keywordEach->GF,wpAny_setField->GJ,wpAny_mono->GK,NameKind->GP,Obj->GR,codeAny_builtin->GZ,bootBuiltins->G_,wpAny_holding->HB,wpAny_typeNameOfWhole_itemiter->HD,DictEntry->HF,Keyword->HN,wpAny_passesOwn->HQ,valueAt->HR,Builtin->HS,mainGlobals->HW,Pos->HY,wpAny_typeNameOf_itemiter->H_,backTo->IK,wpAny_comprehension_free->IV,wpAny_attempt->IW,backToKw->JC,intKind->JD,typeIs_str->JF,pyNext->JG,Scope->JH,wpAny_setState_of->JL,wpAny_pyIter_list->JM,fits_of_scanBound->JP,firstArgMember->JQ,codeAny_mono->JR,codeAny->JS,wpAny_isInstance->JW,scanBound->JX,IsItemIter->JZ,pushCells_keeps->KH,IsPair->KJ,wpAny_Call_Name_kw->KY,tupleKind_room_in1->KZ,wpAny_pyIter_enum->LC,Env->LK,plainId_quiet->LQ,tupleKind->L_,pushCells->MF,bindArgs->MN,wpAny_isOneOf_itemiter->MP,call_meets->NK,wpAny_loadPart'->NQ,wpAny_execs_nil->NT,letOwnedTupleGo->NZ,Model->OD,CmpOp->O_,wpAny_updateSeq_pair->PB,wpAny_newTuple->PJ,wpAny_fieldsOf->PK,relayAll->PL,lastMarks->P_,getMethod->QB,getItem->QC,callerA->QD,wpAny_setEntries_of->QF,wpAny_onRaise->QH,comprehension->QJ,IsPart->QK,wpAny_typeOf->QM,wpAny_pyIter_slot->QQ,wpAny_dictEntries->QR,relabel->QS,holding->QV,concat_meets->QW,IsZip->QX,wpAny_eqBool_int->RC,wpAny_askSetting->RD,noFill_tuple_add->RG,wpAny_of_eq->RL,wpAny_letGo->RM,subscripted->RN,wpAny_ite_split->RV,wpAny_dictEpoch->RW,standAt->SN,newList->SQ,hashInt->TJ,ElemsOf->TQ,BindsTo->TV,wpAny_runValue->TX,wpAny_letOwnedTupleGo_enum->TY,pyIter->T_,isSubtype_type->UL,isSubtype_stop->UT,evalEach->UW,builtinsNs->U_,atKey->VB,ZipApart->VF,Paired->VG,wpAny_standAt->VL,wpAny_handled->VM,seq_tuple_add->VP,IsItemIterOut->V_,pickOrder->WN,field->WT,bindL->WW,bindC->WX,PassesOwn->WY,wpAny_Assign_Subscript->W_,newExc->XN,isTrue->XX,firstIterPos->X3,codeAny_compStart_list->X_,call_meetsIn->YB,callType_new->YC,assign->YD,argsOk->YF,Result->YG,wpAny_isTrue_Compare1->YH,builtinLookup_eq_fast->YM,wpAny_throw->YQ,sliceBounds->YS,setField->YT,callWith->ZS,GenState->ZV,wpAny_tupleItemsOf->aG,wpAny_load->aH,wpAny_call->aJ,wpAny_Name->aK,typeLookup->aL,setEntries->aM,intKind_is->bJ,closureFor->bK,wpAny_storeSet_of->bQ,wpAny_assign_Name->bR,unaryOp->bT,setNext->bU,collect->cU,wpAny_pyIter_zip->cX,wpAny_getItem_of->cY,wpAny_execs_cons->cZ,wpAny_Dict_empty->dB,small_one->dC,wpAny_updateSeq->fP,wpAny_specialOf->fQ,typeLookup_type->gM,codeAny_of_tree->jD,wpAny_notIn_of->jW,typeOf->jX,sliceRange_one->jY,recursionLimit->j4,pick_run->j5,newTuple->j6,newFunctionEnv->j7,layNew->j8,entryFor_alias->nH,entryFor->nJ,compPost->nM,cellOf->nO,Params->nQ,Operator->nR,IsEnum->nT,Drawn->nU
open PySem.W renaming Frag->BZ,kas_item->DQ,kasC_bind->KR,kas_rev->XQ,kas_sort->lC
open PyProof.Rows renaming SortSt->CK,IntsAre->F_,envOfC->HJ,SortKind->JT,Keyed->JV,seqObj->KC,slot_tupleiter_next->KN,AllBare->NP,IsTup->OJ,IsTupIter->RK,get?_update_seq->SM,minRun'->SX,subscriptTail->VN,listUpdate_at->VR,subscriptTail_builtinR->XM,seqEpoch_at->YW,oneType'->YX,entry_tupleiter_next->ZR,args_tupleiter_next->aF,iter_tuple->bI,chain_link->bL,boot_range->bM,Subscript_->bN,KeyOrd->bO,arrOf->cV,slicePart_none->jZ,ite_tt->nD,ite_ff->nF,failedOf->nG,bubble->nP
open PySem renaming wpAny_bind->BX,wpAny_pure->EY
open PySem.W (Frag)
open List renaming length_map->GQ,mem_cons_of_mem->JB,map_cons->HH,getElem?_eq_getElem->LR,mem_cons_self->J_,getElem?_eq_some_iff->NB,mem_map->I_,mem_cons->JN,size_toArray->MK,mem_singleton->PX,map_map->KQ,map_append->N_,getD_eq_getElem?_getD->TF,length_cons->PQ,getElem?_set_ne->QT,mem_range->MT,all_eq_true->QL,getElem?_map->RB,map_congr_left->SJ,mem_append_right->UJ,nodup_cons->R_,mem_of_getElem?->WR,mem_append->S_,getElem?_set_self->YL,sum_cons->RP,length_range->WQ,zip_cons_cons->XS,toArray->RZ,length_append->YK,sum_append->XR,drop_eq_getElem_cons->fO,find?_cons->ZL,mem_filter->aC,append_nil->aB,drop_eq_nil_of_le->fM,getElem?_eq_none->fL,all_cons->ZG,ext_getElem->aZ,length_filter_le->fK,eq_nil_of_length_eq_zero->nC,length_take->cP,length_drop->cO,cons_append->cN,getElem?_append_right->nA,perm_ext_iff_of_nodup->m_,mem_append_left->jC,getElem_mem->fH,nil_append->fG,take_of_length_le->mZ,pairwise_map->i_,take_add_one->iZ,map_nil->cL,mem_iff_getElem->mX,not_mem_nil->iY,getElem?_append_left->uP,pairwise_iff_getElem->uO,getElem?_zip_eq_some->uN,length_pos_iff->mW,forIn_cons->iV,filter_cons_of_neg->uM,filter_cons_of_pos->uL,nodup_nil->iT,take_length->mU,take_append_drop->uJ,of_mem_zip->mR,range_succ->mQ,foldl_cons->mO,filterMap_cons->uF,forIn_nil->mK,filter_append->uE,set_cons_succ->uC,set_cons_zero->uB,length_eraseIdx_of_lt->jFd,any_cons->mJ,append_assoc->t_,extract_eq_take_drop->jFi,filter_congr->t8,map_take->mG,map_drop->mF,mem_take_iff_getElem->jFm,mem_drop_iff_getElem->jFn,range'_succ->t7,zipIdx_cons->tZ,filter_cons->tY,perm_middle->tW,length_eq_zero_iff->jFx,pairwise_lt_range->jFy,length_zip->tV,length_set->tU,getElem?_zipWith->jGb,range'->lY,range_eq_range'->jGg,mem_erase_of_ne->jGi,perm_singleton->jGj,map_eq_nil_iff->jGo,mem_filterMap->jGp,any_eq_false->jGr,take_sublist->jGs,getElem?_set->jGt,mapM_toArray->jGw,foldl_append->jGx,flatMap_cons->jGy,getElem_map->jHa,length_nil->jHf,zipIdx_nil->jHg,filter_map->jHh,take_drop->jHm,range_add->jHn
open PySem.Heap renaming get?_push_of_some->JK,get?_push_size->K_,lt_size->HX,size_push->Q_,get?_update_self->bG,get?_update_other->m5,ExtBut->lZ
open Nat renaming le_refl->GX,ne_of_lt->MJ,lt_of_lt_of_le->RJ,lt_of_le_of_lt->RT,le_trans->QG,zero_le->RX,zero_add->UG,ne_of_gt->VV,min_eq_left->ZM,lt_irrefl->ZJ,min_eq_right->bB,lt_succ_of_lt->cR,lt_trans->ZF,le_of_lt->aA,pow_le_pow_right->jB,lt_succ_self->fJ,toDigits_of_lt_base->m6,mul_le_mul->fC,toDigits->cJ,blt->YJ,min_le_right->mV,sub_succ_lt_self->uI,mul_le_mul_right->uG,max_eq_left->mL,le_total->iR,toDigits_append_toDigits->jEv,le_succ->iQ,max_eq_right->tX,le_of_eq->mD,pow_succ->l_,mod_lt->lX,blt_eq->lW,mul_assoc->tQ,pow_le_pow_left->jGn,le_of_succ_le->jGu,log2_lt->tO,succ_ne_self->jHb,div_eq_of_lt->jHd,two_pow_pos->jHi,div_add_mod->jHj
open Bool renaming and_eq_true->M_,false_eq_true->VJ,not_eq_true'->ZP,eq_iff_iff->ZK,false_ne_true->cT,or_eq_true->cM,not_true->mH,false_and->tR,and_false->jHk,not_false->jHl
open Array renaming getElem?_eq_getElem->ZQ,length_toList->bD,all_eq_true_iff_forall_mem->jEh,getElem?_toList->uK,toArray_toList->uH,getD_eq_getD_getElem?->jEx,ext'->iM,getElem_toList->jGf,toList_extract->jGh,toList_push->jGv
open Option renaming bind_eq_some_iff->aD,map_eq_some_iff->bH,getD_some->a_,isSome_iff_exists->m7,isSome_map->uA,isSome_some->jGq
open Int renaming toNat_of_nonneg->bF,toNat_natCast->bC,pow_succ->aY,emod_lt_of_pos->jA,mul_one->aX,natAbs_mul->fD,mul_assoc->fB,emod_nonneg->iU,mul_comm->e_,natAbs_natCast->uD,le_trans->mC,min_eq_left->jHe
open Classical renaming choose_spec->mY,byContradiction->uQ,choose->jHc
noncomputable section
namespace Xe
variable {a P:Prop}
def gH{p0 p1:Prop}(k:p0->p1->a->P)(h:p0/\p1/\a):P:=h.elim λe h=>h.elim λc b=>k e c b
def vK{p0 p1 e c b:Prop}(k:p0->p1->a->e->c->b->P)(h:p0/\p1/\a/\e/\c/\b):P:=h.elim λm h=>h.elim λl h=>h.elim λj h=>h.elim λi h=>h.elim λg f=>k m l j i g f
def Aw{c:Type}{p0 p1:c->Prop}(k:∀b,p0 b->p1 b->P)(h:∃b,p0 b/\p1 b):P:=h.elim λb h=>h.elim λf e=>k b f e
def Gx{c:Type}{p0 p1 a:c->Prop}(k:∀b,p0 b->p1 b->a b->P)(h:∃b,p0 b/\p1 b/\a b):P:=h.elim λb h=>h.elim λg h=>h.elim λf e=>k b g f e
def vJ{c:Type}{p0 p1 a e:c->Prop}(k:∀b,p0 b->p1 b->a b->e b->P)(h:∃b,p0 b/\p1 b/\a b/\e b):P:=h.elim λb h=>h.elim λj h=>h.elim λi h=>h.elim λg f=>k b j i g f
def Ce{f e:Type}{p0 p1:f->e->Prop}(k:∀c b,p0 c b->p1 c b->P)(h:∃c b,p0 c b/\p1 c b):P:=h.elim λc h=>h.elim λb h=>h.elim λi g=>k c b i g
def Bo{f e:Type}{p0 p1 a:f->e->Prop}(k:∀c b,p0 c b->p1 c b->a c b->P)(h:∃c b,p0 c b/\p1 c b/\a c b):P:=h.elim λc h=>h.elim λb h=>h.elim λj h=>h.elim λi g=>k c b j i g
def b_{f e:Type}{p0 p1 a g:f->e->Prop}(k:∀c b,p0 c b->p1 c b->a c b->g c b->P)(h:∃c b,p0 c b/\p1 c b/\a c b/\g c b):P:=h.elim λc h=>h.elim λb h=>h.elim λm h=>h.elim λl h=>h.elim λj i=>k c b m l j i
def zj6{f e:Type}{p0 p1 a i g:f->e->Prop}(k:∀c b,p0 c b->p1 c b->a c b->i c b->g c b->P)(h:∃c b,p0 c b/\p1 c b/\a c b/\i c b/\g c b):P:=h.elim λc h=>h.elim λb h=>h.elim λo h=>h.elim λn h=>h.elim λm h=>h.elim λl j=>k c b o n m l j
def oN{f e:Type}{p0 p1 a j i g:f->e->Prop}(k:∀c b,p0 c b->p1 c b->a c b->j c b->i c b->g c b->P)(h:∃c b,p0 c b/\p1 c b/\a c b/\j c b/\i c b/\g c b):P:=h.elim λc h=>h.elim λb h=>h.elim λq h=>h.elim λp h=>h.elim λo h=>h.elim λn h=>h.elim λm l=>k c b q p o n m l
def vI{i g f:Type}{p0:i->g->f->Prop}(k:∀e c b,p0 e c b->P)(h:∃e c b,p0 e c b):P:=h.elim λe h=>h.elim λc h=>h.elim λb h=>k e c b h
def dR{i g f:Type}{p0 p1:i->g->f->Prop}(k:∀e c b,p0 e c b->p1 e c b->P)(h:∃e c b,p0 e c b/\p1 e c b):P:=h.elim λe h=>h.elim λc h=>h.elim λb h=>h.elim λl j=>k e c b l j
def gG{i g f:Type}{p0 p1 a:i->g->f->Prop}(k:∀e c b,p0 e c b->p1 e c b->a e c b->P)(h:∃e c b,p0 e c b/\p1 e c b/\a e c b):P:=h.elim λe h=>h.elim λc h=>h.elim λb h=>h.elim λm h=>h.elim λl j=>k e c b m l j
def oM{i g f:Type}{p0 p1 a l j:i->g->f->Prop}(k:∀e c b,p0 e c b->p1 e c b->a e c b->l e c b->j e c b->P)(h:∃e c b,p0 e c b/\p1 e c b/\a e c b/\l e c b/\j e c b):P:=h.elim λe h=>h.elim λc h=>h.elim λb h=>h.elim λq h=>h.elim λp h=>h.elim λo h=>h.elim λn m=>k e c b q p o n m
def zj7{i g f:Type}{p0 p1 a o n m l j:i->g->f->Prop}(k:∀e c b,p0 e c b->p1 e c b->a e c b->o e c b->n e c b->m e c b->l e c b->j e c b->P)(h:∃e c b,p0 e c b/\p1 e c b/\a e c b/\o e c b/\n e c b/\m e c b/\l e c b/\j e c b):P:=h.elim λe h=>h.elim λc h=>h.elim λb h=>h.elim λx h=>h.elim λw h=>h.elim λv h=>h.elim λu h=>h.elim λs h=>h.elim λr h=>h.elim λq p=>k e c b x w v u s r q p
def zj8{i g f:Type}{p0 p1 a p o n m l j:i->g->f->Prop}(k:∀e c b,p0 e c b->p1 e c b->a e c b->p e c b->o e c b->n e c b->m e c b->l e c b->j e c b->P)(h:∃e c b,p0 e c b/\p1 e c b/\a e c b/\p e c b/\o e c b/\n e c b/\m e c b/\l e c b/\j e c b):P:=h.elim λe h=>h.elim λc h=>h.elim λb h=>h.elim λz h=>h.elim λy h=>h.elim λx h=>h.elim λw h=>h.elim λv h=>h.elim λu h=>h.elim λs h=>h.elim λr q=>k e c b z y x w v u s r q
def vH{l j i g:Type}{p0 p1 a m:l->j->i->g->Prop}(k:∀f e c b,p0 f e c b->p1 f e c b->a f e c b->m f e c b->P)(h:∃f e c b,p0 f e c b/\p1 f e c b/\a f e c b/\m f e c b):P:=h.elim λf h=>h.elim λe h=>h.elim λc h=>h.elim λb h=>h.elim λq h=>h.elim λp h=>h.elim λo n=>k f e c b q p o n
def zj9{l j i g:Type}{p0 p1 a n m:l->j->i->g->Prop}(k:∀f e c b,p0 f e c b->p1 f e c b->a f e c b->n f e c b->m f e c b->P)(h:∃f e c b,p0 f e c b/\p1 f e c b/\a f e c b/\n f e c b/\m f e c b):P:=h.elim λf h=>h.elim λe h=>h.elim λc h=>h.elim λb h=>h.elim λs h=>h.elim λr h=>h.elim λq h=>h.elim λp o=>k f e c b s r q p o
def vG{l j i g:Type}{p0 p1 a p o n m:l->j->i->g->Prop}(k:∀f e c b,p0 f e c b->p1 f e c b->a f e c b->p f e c b->o f e c b->n f e c b->m f e c b->P)(h:∃f e c b,p0 f e c b/\p1 f e c b/\a f e c b/\p f e c b/\o f e c b/\n f e c b/\m f e c b):P:=h.elim λf h=>h.elim λe h=>h.elim λc h=>h.elim λb h=>h.elim λx h=>h.elim λw h=>h.elim λv h=>h.elim λu h=>h.elim λs h=>h.elim λr q=>k f e c b x w v u s r q
def vD{n m l j i:Type}{p0 p1 a q p o:n->m->l->j->i->Prop}(k:∀g f e c b,p0 g f e c b->p1 g f e c b->a g f e c b->q g f e c b->p g f e c b->o g f e c b->P)(h:∃g f e c b,p0 g f e c b/\p1 g f e c b/\a g f e c b/\q g f e c b/\p g f e c b/\o g f e c b):P:=h.elim λg h=>h.elim λf h=>h.elim λe h=>h.elim λc h=>h.elim λb h=>h.elim λx h=>h.elim λw h=>h.elim λv h=>h.elim λu h=>h.elim λs r=>k g f e c b x w v u s r
def gF{n m l j i:Type}{p0 p1 a r q p o:n->m->l->j->i->Prop}(k:∀g f e c b,p0 g f e c b->p1 g f e c b->a g f e c b->r g f e c b->q g f e c b->p g f e c b->o g f e c b->P)(h:∃g f e c b,p0 g f e c b/\p1 g f e c b/\a g f e c b/\r g f e c b/\q g f e c b/\p g f e c b/\o g f e c b):P:=h.elim λg h=>h.elim λf h=>h.elim λe h=>h.elim λc h=>h.elim λb h=>h.elim λz h=>h.elim λy h=>h.elim λx h=>h.elim λw h=>h.elim λv h=>h.elim λu s=>k g f e c b z y x w v u s
end Xe
open Xe
set_option Elab.async false
set_option linter.all false
set_option maxRecDepth 100000
namespace L2
open PySem PySem.Spec PyProof.Rows
abbrev Zs(n : LK)(e : B_)(es : List B_): Prop:= BP (e::es) n=(false, CV e n)::BP es n
abbrev Zd(x : BR): Prop:= (x == ("__debug__" : BR))=false
abbrev Zp(n : LK)(p : HY)(es : List B_): Prop:= (IK p (BP es n)).any (·.1)=false
abbrev Key:=Sum Int BR
def eO:Key->A_->Bool
 | .inl k,v=>Value.isInt k v
 | .inr x,v=>Value.isStrOf x v
def jL(w:CQ):Key->Int
 | .inl k=>TJ k
 | .inr x=>hashStr w x
def Cy:∀{k:Key}{v:A_},eO k v=true->(∃i t,k=Sum.inl i/\v=Value.int i t)\/(∃x t,k=Sum.inr x/\v=Value.str x t)
 | .inl i,v,h=>by obtain⟨t,e⟩:=Value.isInt_shape (k:=i) (v:=v) h;exact .inl ⟨i,t,rfl,e⟩
 | .inr x,v,h=>by obtain⟨t,e⟩:=Value.isStrOf_shape (x:=x) (v:=v) h;exact .inr ⟨x,t,rfl,e⟩
def kt2(i:Int)(t:Tok):eO (.inl i) (.int i t)=true:=by simp[eO,Value.isInt]
def kt3(x:BR)(t:Tok):eO (.inr x) (.str x t)=true:=by simp[eO,Value.isStrOf]
theorem ym6(a b:Int):decide ((Sum.inl a:Key)=Sum.inl b)=(a == b):=by lia
theorem ym9(a b:BR):decide ((Sum.inr a:Key)=Sum.inr b)=decide (a=b):=by lia
def ym7(a:Int)(b:BR):decide ((Sum.inl a:Key)=Sum.inr b)=false:=decide_eq_false (λq=>nomatch q)
def ym8(a:BR)(b:Int):decide ((Sum.inr a:Key)=Sum.inl b)=false:=decide_eq_false (λq=>nomatch q)
def Bv(prog:BW)(w:CQ):PySem.KeyKind prog w Key where
 is:=eO
 hash:=jL w
 inj:=λv a b ha hb=>by
  rcases Cy ha with ⟨i,t,rfl,rfl⟩ | ⟨x,t,rfl,rfl⟩
  ·rcases Cy hb with ⟨j,u,rfl,e⟩ | ⟨y,u,rfl,e⟩
   ·injection e with e1 _;rw[e1]
   ·exact nomatch e
  ·rcases Cy hb with ⟨j,u,rfl,e⟩ | ⟨y,u,rfl,e⟩
   ·exact nomatch e
   ·injection e with e1 _;rw[e1]
 byValue:=λk v h=>by rcases Cy h with ⟨i,t,rfl,rfl⟩ | ⟨x,t,rfl,rfl⟩<;>rfl
 pyHash:=λhv h=>by
  rcases Cy hv with ⟨i,t,rfl,rfl⟩ | ⟨x,t,rfl,rfl⟩
  ·exact wpAny_pyHash_int h
  ·exact wpAny_pyHash_str h
 eqBool:=λhu hv h=>by
  rcases Cy hu with ⟨i,t,rfl,rfl⟩ | ⟨x,t,rfl,rfl⟩
  ·rcases Cy hv with ⟨j,u,rfl,rfl⟩ | ⟨y,u,rfl,rfl⟩
   ·rw[ym6]at h;exact RC h
   ·rw[ym7]at h;exact SeqAt.EqAt.int_str i t y u _ _ _ _ h
  ·rcases Cy hv with ⟨j,u,rfl,rfl⟩ | ⟨y,u,rfl,rfl⟩
   ·rw[ym8]at h;exact SeqAt.EqAt.str_int x t j u _ _ _ _ h
   ·rw[ym9]at h;exact wpAny_eqBool_str h
 «strs»:=λk x t v h=>by
  rcases Cy h with ⟨i,u,rfl,e⟩ | ⟨y,u,rfl,e⟩
  ·exact nomatch e
  ·injection e with e1 _;subst e1;cases v<;>rfl
def jv5(prog:BW)(w:CQ)(i:Int)(t:Tok):(Bv prog w).is (.inl i) (.int i t)=true:=kt2 i t
def K1(prog:BW)(w:CQ)(x:BR)(t:Tok):(Bv prog w).is (.inr x) (.str x t)=true:=kt3 x t
inductive V where
 |non |bl (b:Bool) |int (i:Int) |str (x:BR) |byt (b:Array UInt8) |flt (b:UInt64) |ref (a:BJ) |ty (n:String)
 deriving DecidableEq
def RelV:V->A_->Prop
 | .non,u=>u=Value.none
 | .bl b,u=>u=Value.bool b
 | .int i,u=>∃t,u=Value.int i t
 | .str x,u=>∃t,u=Value.str x t
 | .byt b,u=>∃t,u=Value.bytes b t
 | .flt b,u=>∃t,u=Value.float b t
 | .ref a,u=>u=Value.ref a
 | .ty n,u=>u=Value.type n
abbrev Vals:List V->List A_->Prop:=VG RelV
variable {xs:List V}{us:List A_}
def Vals.length(r:Vals xs us):xs.length=us.length:=Paired.length r
theorem Vals.get:∀{xs:List V}{us:List A_}{i:Nat}{x:V},Vals xs us->xs[i]? = some x->∃u,us[i]? = some u/\RelV x u
 |_,_,_,_,.nil,e=>by simp at e
 |_,_,0,_,.cons r _,e=>by simp at e;subst e;exact⟨_,rfl,r⟩
 |_,_,i+1,x,.cons _ t,e=>by obtain⟨u,b,a⟩:=Vals.get (i:=i) (x:=x) t (by simpa using e);simp_all
variable {ys:List V}
def Vals.append{ws:List A_}(h:Vals xs us)(s:Vals ys ws):Vals (xs++ys) (us++ws):=by
 induction h with
 |nil=>exact s
 |cons r t a=>exact .cons r a
def Vals.take:∀{xs:List V}{us:List A_}(n:Nat),Vals xs us->Vals (xs.take n) (us.take n)
 |_,_,0,_=>.nil
 |_,_,_+1,.nil=>.nil
 |_,_,n+1,.cons r t=>.cons r (Vals.take n t)
def Vals.drop:∀{xs:List V}{us:List A_}(n:Nat),Vals xs us->Vals (xs.drop n) (us.drop n)
 |_,_,0,r=>r
 |_,_,_+1,.nil=>.nil
 |_,_,n+1,.cons _ t=>Vals.drop n t
def Oh:Option V->Option A_->Prop
 |some v,some u=>RelV v u
 |none,none=>True
 |_,_=>False
def KV{a:Type}:List (a×V)->List (a×A_)->Prop:=VG λ(p:a×V)(q:a×A_)=>p.1=q.1/\RelV p.2 q.2
def kV:Key->V
 | .inl i=>.int i
 | .inr x=>.str x
inductive HO where
 |lst (xs:List V)
 |tup (xs:List V)
 |dK (kvs:List (Key×V)) |dT (kvs:List (List Key×V))
 |set (S:Int->Bool) (n:Nat)
 |ins (C dx:BJ) (fs:List (BR×V))
 |own (x:BJ)
 |xd (fs:List (BR×V))
 |met (f x:BJ)
 |rng (lo hi:Int)
 |frz (o:GR) (u:HO)
 |tbl (ps:Array A_)
 |ext (φ:CP->Prop)
abbrev Hp:=BJ->Option HO
def upd(H:Hp)(a:BJ)(o:HO):Hp:=λb=>if b=a then some o else H b
theorem Ak{H:Hp}{a:BJ}{o:HO}:upd H a o a=some o:=by unfold upd;rw[if_pos rfl]
theorem Ae{H:Hp}{a b:BJ}{o:HO}(h:b≠a):upd H a o b=H b:=by unfold upd;rw[if_neg h]
theorem za6{H:Hp}{a b:BJ}{o u:HO}(h:H a=some o)(h':H b=some u)(d:o≠u):a≠b:=by lia
theorem Bs{H:Hp}{a b:BJ}{o:HO}(h:H a=some o)(h':H b=none):a≠b:=by lia
section
variable (P:BW)(w:CQ)
def Cg(H:Hp)(h:CP)(a:BJ):HO->Prop
 | .lst xs=>xs.length<=sizeLine/\∃(its:List A_)(n:Nat),Vals xs its/\h.get? a=some {cls:=.type "list",data:=.seq its.toArray n}
 | .tup xs=>xs.length<=sizeLine/\∃its:List A_,Vals xs its/\OJ h a its.toArray
 | .dK e=>e.length<=sizeLine/\(a == FQ)=false/\∃vs,KV e vs/\h.DictOf (Bv P w) a vs
 | .dT e=>e.length<=sizeLine/\(a == FQ)=false/\∃xs:List (List Key×BJ×A_),
   VG (λ(p:List Key×V)(q:List Key×BJ×A_)=>p.1=q.1/\H q.2.1=some (.tup (p.1.map kV))/\RelV p.2 q.2.2) e xs /\
   ∃o z E,h.get? a=some o/\o.ExactDict/\o.data=.dict z E/\z.toList=xs.map (entryOfKey (L_ (Bv P w)))/\(xs.map (·.1)).Nodup
 | .set S n=>h.SetOf (JD P w) a S n
 | .ins C j i=>H j=some (.own a)/\i.length<=1000/\j≠a/\h.get? a=some (W.instObj C j) /\
   ∃g,h.Ns1 j g/\(∀f,Oh (i.lookup f) (g f))/\PySem.Within g (i.map (·.1))
 | .own _=>∃o,h.get? a=some o
 | .xd i=>∃g,h.Ns1 a g/\∀f,Oh (i.lookup f) (g f)
 | .rng A B=>∃t u v,h.get? a=some {cls:=.type "range",data:=.fields #[.int A t,.int B u,.int 1 v] }
 | .frz o u=>h.get? a=some o/\Cg H h a u
 | .tbl ps=>∃r:Array A_,h.get? a=some {cls:=.none,data:=.fields r}/\(r = #[]\/∃(l c:A_)(q:BR)(t:Tok)(b:BJ)(o:GR)(vs:Array A_)(t':Tok),ps = #[l,c,.str q t]/\r = #[l,c,.ref b]/\H b=some (.frz o (.own a))/\o.data=.fields vs/\vs[1]? = some (.str q t'))
 | .met f x=>h.get? a=some (W.methodObj (.ref f) (.ref x))
 | .ext m=>m h/\(∃o,h.get? a=some o)/\∀y s:CP,m y->(∀o,y.get? a=some o->s.get? a=some o)->m s
def HOk(H:Hp)(h:CP):Prop:=∀a o,H a=some o->Cg P w H h a o
end
variable {a:BJ}{o:HO}{h h':CP}{H H':Hp}{P:BW}{w:CQ}
def Cg.lt(x:Cg P w H h a o):a<h.objs.size:=by
 cases o with
 |lst xs=>obtain⟨_,_,_,_,e⟩:=x;exact HX e
 |tup xs=>obtain⟨_,_,_,p⟩:=x;exact p.lt
 |dK b=>obtain⟨_,_,_,_,o,_,_,e,_⟩:=x;exact HX e
 |dT b=>obtain⟨_,_,_,_,o,_,_,e,_⟩:=x;exact HX e
 |set S n=>obtain⟨o,_,_,_,e,_⟩:=x;exact HX e
 |ins C m c=>obtain⟨_,_,_,e,_⟩:=x;exact HX e
 |own y=>obtain⟨_,e⟩:=x;exact HX e
 |xd c=>obtain⟨_,⟨_,_,_,e,_⟩,_⟩:=x;exact HX e
 |rng j l=>obtain⟨_,_,_,e⟩:=x;exact HX e
 |frz i u=>obtain⟨e,_⟩:=x;exact HX e
 |tbl ps=>obtain⟨_,e,_⟩:=x;exact HX e
 |met f y=>exact HX (show h.get? a=some _ from x)
 |ext g=>obtain⟨_,⟨_,e⟩,_⟩:=x;exact HX e
def Paired.mapP{e c:Type}{F G:e->c->Prop}{l₁:List e}{l₂:List c}(h:VG F l₁ l₂)(f:∀a b,F a b->G a b):VG G l₁ l₂:=by
 induction h with
 |nil=>exact .nil
 |cons r t g=>exact .cons (f _ _ r) g
theorem Cg.stay(x:Cg P w H h a o)(k:∀b u,(b=a\/H b=some (.own a))->h.get? b=some u->h'.get? b=some u)
  (M:∀b,H b=some (.own a)->H' b=some (.own a))(L:∀b xs,H b=some (.tup xs)->H' b=some (.tup xs))
  (O:∀b o y,H b=some (.frz o (.own y))->H' b=some (.frz o (.own y)):=by first |exact λ_ _ _ q=>q | (intro b o y q;rw[Ae (Bs q (by assumption))];exact q)):Cg P w H' h' a o:=by
 induction o with
 |lst xs=>obtain⟨z,m,n,r,e⟩:=x;exact⟨z,m,n,r,k _ _ (.inl rfl) e⟩
 |tup xs=>obtain⟨z,m,r,g,e,c⟩:=x;exact⟨z,m,r,g,k _ _ (.inl rfl) e,c⟩
 |dK E=>obtain⟨z,y,s,r,g,i,j,e,c⟩:=x;exact⟨z,y,s,r,g,i,j,k _ _ (.inl rfl) e,c⟩
 |dT E=>obtain⟨z,y,xs,r,g,i,j,e,c⟩:=x;exact⟨z,y,xs,Paired.mapP r λp q z=>⟨z.1,L _ _ z.2.1,z.2.2⟩,g,i,j,k _ _ (.inl rfl) e,c⟩
 |set S n=>obtain⟨g,i,j,t,e,c⟩:=x;exact⟨g,i,j,t,k _ _ (.inl rfl) e,c⟩
 |ins C Z Q=>obtain⟨d,z,ne,e,B,⟨A,i,j,F,c⟩,r⟩:=x;exact⟨M _ d,z,ne,k _ _ (.inl rfl) e,B,⟨A,i,j,k _ _ (.inr d) F,c⟩,r⟩
 |own y=>obtain⟨g,e⟩:=x;exact⟨g,k _ _ (.inl rfl) e⟩
 |xd Q=>obtain⟨B,⟨A,i,j,e,c⟩,r⟩:=x;exact⟨B,⟨A,i,j,k _ _ (.inl rfl) e,c⟩,r⟩
 |rng X Y=>obtain⟨t,u,v,e⟩:=x;exact⟨t,u,v,k _ _ (.inl rfl) e⟩
 |frz g u K=>obtain⟨e,q⟩:=x;exact⟨k _ _ (.inl rfl) e,K q⟩
 |tbl ps=>obtain⟨J,e,z⟩:=x;exact⟨J,k _ _ (.inl rfl) e,z.imp id λ⟨l,c,q,t,b,o,s,I,T,F,d,r⟩=>⟨l,c,q,t,b,o,s,I,T,F,O _ _ _ d,r⟩⟩
 |met f y=>have e:h.get? a=some (W.methodObj (.ref f) (.ref y)):=x;show h'.get? a=some (W.methodObj (.ref f) (.ref y));exact k a _ (.inl rfl) e
 |ext U=>obtain⟨p,⟨o,e⟩,G⟩:=x;exact⟨G _ _ p λo q=>k _ _ (.inl rfl) q,⟨o,k _ _ (.inl rfl) e⟩,G⟩
def HOk.lt(x:HOk P w H h)(e:H a=some o):a<h.objs.size:=(x a o e).lt
def HOk.fresh(x:HOk P w H h)(e:h.objs.size<=a):H a=none:=by
 cases q:H a with
 |none=>rfl
 |some u=>exact absurd (RJ (x.lt q) e) (ZJ _)
def HOk.kept(x:HOk P w H h)(k:∀b u,h.get? b=some u->h'.get? b=some u):HOk P w H h':=λa o e =>
 (x a o e).stay (λb u _ q=>k b u q) (λ_ q=>q) λ_ _ q=>q
theorem HOk.laid(x:HOk P w H h)(k:∀b u,h.get? b=some u->h'.get? b=some u)(g:h.objs.size<=a)(new:Cg P w (upd H a o) h' a o):HOk P w (upd H a o) h':=λb u e=>by
 have f:=x.fresh g;by_cases i:b=a
 ·grind [Ak]
 ·rw[Ae i]at e;exact(x b u e).stay (λc v _ q=>k c v q) (λc q=>by rw[Ae (Bs q f)];exact q) λc xs q=>by rw[Ae (Bs q f)];exact q
def Rd(H:Hp)(a:BJ)(u:HO):Prop:=H a=some u\/∃o,H a=some (.frz o u)
def Rd.ok{u:HO}(r:Rd H a u)(x:HOk P w H h):Cg P w H h a u:=by
 rcases r with r | ⟨o,r⟩
 ·exact x a u r
 ·obtain⟨_,q⟩:=x a _ r;exact q
def Mut:Option HO->Prop
 |some (.lst _)=>True
 |some (.dK _)=>True
 |some (.dT _)=>True
 |some (.set _ _)=>True
 |some (.ins _ _ _)=>True
 |some (.ext _)=>True
 |_=>False
variable {x:BJ}
section
variable {e:BJ}{o':HO}
theorem HOk.write(ok:HOk P w H h)(g:Mut (H x))(A:e=x\/H e=some (.own x))(k:∀b u,b≠e->h.get? b=some u->h'.get? b=some u)(m:∃u,h'.get? e=some u)
  (new:Cg P w (upd H x o') h' x o'):HOk P w (upd H x o') h':=λb u q=>by
 have f:∀c y,H c=some (.own y)->c≠x:=λc y r z=>by subst z;rw[r]at g;exact g
 have i:∀c xs,H c=some (.tup xs)->c≠x:=λc xs r z=>by subst z;rw[r]at g;exact g
 by_cases n:b=x
 ·subst n;rw[Ak]at q;cases q;exact new
 ·rw[Ae n]at q;by_cases j:b=e
  ·have p:H b=some (.own x):=by lia
   rw[q]at p;cases p;obtain⟨v,s⟩:=m;exact⟨v,by rw[j];exact s⟩
  ·refine(ok b u q).stay (λc v l r=>k c v ?_ r) (λc r=>by rw[Ae (f c b r)];exact r) (λc xs r=>by rw[Ae (i c xs r)];exact r) λc o y r=>by rw[Ae (λz=>by subst z;rw[r]at g;exact g)];exact r
   rcases l with rfl |l
   ·exact j
   ·rintro rfl;rcases A with z |z
    ·exact f c b l z
    ·rw[l]at z;cases z;exact n rfl
end
structure Un(fs ex:List BJ)(H H':Hp)(h h':CP):Prop where
 keep:∀b o,h.get? b=some o->H b=none->b∉fs->b∉ex->h'.get? b=some o
 slot:∀b o,h.get? b=some o->H b=none->b∈fs->b∉ex->∃sl,h'.get? b=some {o with slots:=sl}
 free:∀b o,h.get? b=some o->H b=none->b∉ex->H' b=none
 there:∀b o,h.get? b=some o->b∉ex->∃o',h'.get? b=some o'
 tups:∀b xs,H b=some (.tup xs)->H' b=some (.tup xs)
 frzs:∀b o u,H b=some (.frz o u)->H' b=some (.frz o u)
 tbls:∀b ps,H b=some (.tbl ps)->∃more,H' b=some (.tbl (ps++more))
section
variable {fs b ex c:List BJ}{f i:Hp}{h1 g:CP}{e:BJ}
def Un.any(u:Un fs ex H f h h1){b:BJ}{j:GR}(q:h.get? b=some j)(n:H b=none)(l:b∉ex):∃p,h1.get? b=some {j with slots:=p}:=by
 by_cases m:b∈fs
 ·exact u.slot b j q n m l
 ·exact⟨j.slots,u.keep b j q n m l⟩
def Un.kept(k:∀b u,h.get? b=some u->h'.get? b=some u):Un fs ex H H h h':=
 ⟨λb j q _ _ _=>k b j q,λb j q _ _ _=>⟨j.slots,k b j q⟩,λ_ _ _ n _=>n,λb j q _=>⟨j,k b j q⟩,λ_ _ q=>q,λ_ _ _ q=>q,λ_ ps q=>⟨#[],by rw[q];simp⟩⟩
def Un.refl:Un fs ex H H h h:=Un.kept λ_ _ q=>q
def Un.laid(k:∀b u,h.get? b=some u->h'.get? b=some u)(hp:h.objs.size<=a)(hn:H a=none):Un fs ex H (upd H a o) h h' where
 keep:=λb u q _ _ _=>k b u q
 slot:=λb u q _ _ _=>⟨u.slots,k b u q⟩
 free:=λb u q n _=>by rw[Ae (MJ (RJ (HX q) hp))];exact n
 there:=λb u q _=>⟨u,k b u q⟩
 tups:=λb xs q=>by rw[Ae (Bs q hn)];exact q
 frzs:=λb u xs q=>by rw[Ae (Bs q hn)];exact q
 tbls:=λb ps q=>⟨#[],by rw[Ae (Bs q hn),q];simp⟩
theorem Un.write(j:Mut (H x))(s:e=x\/H e=some (.own x))(k:∀b u,b≠e->h.get? b=some u->h'.get? b=some u)(r:∃u,h'.get? e=some u):Un fs ex H (upd H x o) h h':=by
 have p:∀b,H b=none->b≠x:=λb n z=>by subst z;rw[n]at j;exact j
 have m:∀b,H b=none->b≠e:=λb n z=>by lia
 have l:∀b u,H b=some u->¬ Mut (some u)->b≠x:=λb u q nm z=>by subst z;rw[q]at j;exact nm j
 refine⟨λb u q n _ _=>k b u (m b n) q,λb u q n _ _=>⟨u.slots,k b u (m b n) q⟩,λb u q n _=>by rw[Ae (p b n)];exact n,λb u q _=>?_,
  λb xs q=>by rw[Ae (l b _ q λz=>z)];exact q,λb u xs q=>by rw[Ae (l b _ q λz=>z)];exact q,λb ps q=>⟨#[],by rw[Ae (l b _ q λz=>z),q];simp⟩⟩
 grind
end
def trk(h:CP)(H:Hp):List BJ:=(List.range h.objs.size).filter λa=>(H a).isSome
def ZX(h:CP)(H:Hp):CP:=W.hideAll h (trk h H)
def kr9(h:CP)(H:Hp):(ZX h H).objs.size=h.objs.size:=W.hideAll_size _ _
theorem we4{b:BJ}{o:GR}(e:h.get? b=some o)(n:H b=none):(ZX h H).get? b=some o:=
 W.hideAll_get _ e λc=>by have q:(H b).isSome=true:=(aC.mp c).2;simp_all
theorem wy0{b:BJ}{o:GR}(e:(ZX h H).get? b=some o):h.get? b=some o/\H b=none:=by
 have c:h.get? b=some o:=W.of_hideAll (trk h H) e;refine⟨c,?_⟩;cases q:H b with
 |none=>rfl
 |some x=>have f:b∈trk h H:=aC.mpr ⟨MT.mpr (HX c),by simp[q]⟩;have z:(ZX h H).get? b=none:=W.hideAll_none (trk h H) f;lia
structure Mod(K:BZ)(mg:BR->Option A_)(base:CP):Prop where
 kin:K.In base
 glob:base.Ns HW mg
 blt:∃mb,base.Ns U_ mb/\∀x:BR,x ≠ "__name__"->mb x=G_ x
 nolimit:base.NoLimit
structure Cx where
 prog:BW
 w:CQ
 K:BZ
 mg:BR->Option A_
 base:CP
 A:D_
 N:List BR
 s₀:BK
 H₀:Hp
 env:LK
 outer:List LK
 stack:List LK
 ex:List BJ
 fn:BR->Bool
 calm:Bool
 pn:List (BJ×GR)
 xe:A_->BK->Prop
def frs(l:List LK):List BJ:=l.filterMap (·.frame)
abbrev Cx.fs(X:Cx):List BJ:=frs X.outer
def Vis(sc:JH)(x:BR):Prop:=sc.names.lookup x=some .local\/sc.names.lookup x=some .cell\/sc.names.lookup x=some .free
def Loc(sc:JH)(x:BR):Prop:=sc.names.lookup x=some .local\/sc.names.lookup x=some .cell
def Look(env:LK)(h:CP)(m:BR->Option A_)(x:BR)(u:A_):Prop:=
 (env.kindOf x=some .local/\m x=some u)\/((env.kindOf x=some .cell\/env.kindOf x=some .free)/\∃c,env.cells.lookup x=some c/\h.IsCell c (some u))
structure Cx.Ok(X:Cx):Prop where
 mod:Mod X.K X.mg X.base
 kind:X.env.scope.kind=.function
 glob:X.env.globals=HW
 blt:X.env.builtins=U_
 above:X.s₀.heap.objs.size<=X.env.locals
 inj:∀x y c,X.env.cells.lookup x=some c->X.env.cells.lookup y=some c->x=y
 has:∀x,(X.env.kindOf x=some .cell\/X.env.kindOf x=some .free)->∃c,X.env.cells.lookup x=some c
 cab:∀x c,X.fn x=true->X.env.cells.lookup x=some c->X.s₀.heap.objs.size<=c
 hd:X.calm=true->X.A.handled=none
 frames:X.A.frames=some X.stack
 stk:X.stack=X.outer\/(X.stack=X.env::X.outer/\X.env.frame=some X.env.locals)
 exf:∀b∈X.ex,b≠X.env.locals/\∀x c,X.env.cells.lookup x=some c->c≠b
 bs:∀b o,X.base.get? b=some o->X.s₀.heap.get? b=some o/\X.H₀ b=none
 bsz:X.base.objs.size<=X.s₀.heap.objs.size
 noex:∀b o,X.base.get? b=some o->b∉X.ex
 exfs:∀b∈X.ex,b∉X.fs
 funs:X.s₀.heap.FunFrames X.base X.outer
 frf:∀b∈X.fs,X.H₀ b=none
structure Inv(X:Cx)(pins:List (BJ×GR))(σ:List (Option V))(H:Hp)(s:BK):Prop where
 ok:X.Ok
 os:s.os=X.s₀.os
 bare:NP s.gens
 base:Un X.fs X.ex X.H₀ H X.s₀.heap s.heap
 loc:∃m,s.heap.Ns X.env.locals m/\∀(i:Nat)(x:BR)(v:V),X.N[i]? = some x->σ[i]? = some (some v)->Vis X.env.scope x->∃u,RelV v u/\Look X.env s.heap m x u
 cell:∀x c,X.env.cells.lookup x=some c->∃v,s.heap.IsCell c v
 free:H X.env.locals=none
 freeC:∀x c,X.env.cells.lookup x=some c->H c=none
 pin:∀p∈X.pn++pins,s.heap.get? p.1=some p.2/\H p.1=none/\p.1≠X.env.locals/\p.1∉X.fs/\∀v,p.2.data≠.cell v
 hok:HOk X.prog X.w H s.heap
 len:σ.length=X.N.length
variable {X:Cx}{pins:List (BJ×GR)}{s:BK}
variable {u:A_}{t' i j:Nat}{it:BJ}{v:V}{s':BK}
section
variable {σ:List (Option V)}
theorem Cx.Ok.nofr(ok:X.Ok){b:BJ}{o:GR}(e:X.base.get? b=some o):b∉X.fs:=λc=>by have:=(ok.funs.mem c).1;lia
def Inv.bs(I:Inv X pins σ H s):∀b o,X.base.get? b=some o->s.heap.get? b=some o/\H b=none:=λb o e =>
 ⟨I.base.keep b o (I.ok.bs b o e).1 (I.ok.bs b o e).2 (I.ok.nofr e) (I.ok.noex b o e),I.base.free b o (I.ok.bs b o e).1 (I.ok.bs b o e).2 (I.ok.noex b o e)⟩
def Inv.bk(I:Inv X pins σ H s):∀b o,X.base.get? b=some o->s.heap.get? b=some o:=λb o e=>(I.bs b o e).1
def Inv.mod(I:Inv X pins σ H s):Mod X.K X.mg X.base:=I.ok.mod
def Inv.QZ(I:Inv X pins σ H s):X.K.In s.heap:=I.ok.mod.kin.keeps I.bk
def Inv.lt(I:Inv X pins σ H s):X.env.locals<s.heap.objs.size:=let ⟨_,b,_⟩:=I.loc;b.lt
def Inv.sz(I:Inv X pins σ H s):X.s₀.heap.objs.size<=s.heap.objs.size:=QG I.ok.above (aA I.lt)
def Inv.nofs(I:Inv X pins σ H s)(h:s.heap.objs.size<=a):a∉X.fs:=λc=>by obtain⟨_,o,b,_⟩:=I.ok.funs.mem c;exact absurd (RJ (HX b) (QG I.sz h)) (ZJ _)
theorem Inv.cne(I:Inv X pins σ H s):∀x c,X.env.cells.lookup x=some c->c≠X.env.locals:=λx c e z=>by obtain⟨v,o,l,n⟩:=I.cell x c e;obtain⟨m,⟨g,p,q,b,f,_⟩,_⟩:=I.loc;lia
def Inv.funs(I:Inv X pins σ H s):s.heap.FunFrames X.base X.outer:=by
 have all:∀(l:List LK),(∀b∈frs l,b∈X.fs)->X.s₀.heap.FunFrames X.base l->s.heap.FunFrames X.base l:=by
  intro l;induction l with
  |nil=>intro _ _;trivial
  |cons env r n=>intro m A;obtain⟨B,⟨L,o,c,y,q,C⟩,p⟩:=A;have g:L∈X.fs:=m L (by unfold frs;rw[uF,c];exact J_);obtain⟨E,e⟩:=I.base.slot L o q (I.ok.frf L g) g λz=>I.ok.exfs L z g;exact⟨B,⟨L,_,c,y,e,C⟩,n (λb f=>m b (by unfold frs;rw[uF,c];exact JB _ f)) p⟩
 exact all X.outer (λ_ f=>f) I.ok.funs
def Inv.stack(I:Inv X pins σ H s):s.heap.FunFrames X.base X.stack:=by
 rcases I.ok.stk with e | ⟨e,c⟩
 ·rw[e];exact I.funs
 ·rw[e];obtain⟨m,b,_⟩:=I.loc;refine .cons (by rw[I.ok.kind];decide) c b ?_ I.funs;exact Heap.get?_none_of_le (QG I.ok.bsz I.ok.above)
theorem Inv.stkSub(I:Inv X pins σ H s):∀b∈frs X.stack,b∈X.env.locals::X.fs:=λb c=>by
 rcases I.ok.stk with e | ⟨e,f⟩
 ·simp_all
 ·rw[e]at c;unfold frs at c;rw[uF,f]at c;exact c
def Inv.stkFree(I:Inv X pins σ H s):∀b∈frs X.stack,H b=none:=λb c=>by
 rcases JN.mp (I.stkSub b c) with e |c
 ·rw[e];exact I.free
 ·obtain⟨_,o,f,_⟩:=I.ok.funs.mem c;exact I.base.free b o f (I.ok.frf b c) λz=>I.ok.exfs b z c
def Inv.step{g':Array ZV}{d':nU}{ch:List BJ}(I:Inv X pins σ H s)
  (y:∀b∈ch,(b∈X.ex\/X.s₀.heap.objs.size<=b)/\b≠X.env.locals/\(∀x c,X.env.cells.lookup x=some c->c≠b)/\∀p∈X.pn++pins,p.1≠b)
  (keep:∀b o,b≠X.env.locals->b∉X.fs->b∉ch->s.heap.get? b=some o->H b=none->h'.get? b=some o)
  (slot:∀b o,b≠X.env.locals->b∈X.fs->b∉ch->s.heap.get? b=some o->H b=none->∃O,h'.get? b=some {o with slots:=O})(free:∀b o,b∉ch->s.heap.get? b=some o->H b=none->H' b=none)
  (there:∀b o,b∉ch->s.heap.get? b=some o->∃G,h'.get? b=some G)
  (tups:∀b xs,H b=some (.tup xs)->H' b=some (.tup xs))(K:∀b o u,H b=some (.frz o u)->H' b=some (.frz o u))(F:∀b ps,H b=some (.tbl ps)->∃more,H' b=some (.tbl (ps++more)))
  (ns:∀m,s.heap.Ns X.env.locals m->h'.Ns X.env.locals m)(Q:HOk X.prog X.w H' h')(hg:NP g'):
  Inv X pins σ H' {s with heap:=h',gens:=g',drawn:=d',toks:=t'}:=by
 have J:∀b o,X.s₀.heap.get? b=some o->b≠X.env.locals:=λb o e=>MJ (RJ (HX e) I.ok.above);have A:∀b o,X.s₀.heap.get? b=some o->b∉X.ex->b∉ch:=λb o e f C=>by
  rcases(y b C).1 with z |z
  ·exact f z
  ·exact absurd (RJ (HX e) z) (ZJ _)
 have cellK:∀x c,X.env.cells.lookup x=some c->∀v,s.heap.IsCell c v->h'.IsCell c v:=λx c e v ⟨o,E,T⟩=>by
  have g:c∉ch:=λz=>(y c z).2.2.1 x c e rfl;by_cases Z:c∈X.fs
  ·obtain⟨O,q⟩:=slot c o (I.cne x c e) Z g E (I.freeC x c e);exact⟨_,q,T⟩
  ·exact⟨o,keep c o (I.cne x c e) Z g E (I.freeC x c e),T⟩
 refine⟨I.ok,I.os,hg,⟨λb o e n C f=>?_,λb o e n C f=>?_,λb o e n f=>?_,λb o e f=>?_,λb xs e=>tups b xs (I.base.tups b xs e),λb o xs e=>K b o xs (I.base.frzs b o xs e),λb ps e=>?_⟩,?_,λx c e=>?_,?_,λx c e=>?_,λp Y=>?_,Q,I.len⟩
 ·exact keep b o (J b o e) C (A b o e f) (I.base.keep b o e n C f) (I.base.free b o e n f)
 ·obtain⟨O,B⟩:=I.base.slot b o e n C f;obtain⟨M,L⟩:=slot b _ (J b o e) C (A b o e f) B (I.base.free b o e n f);exact⟨M,L⟩
 ·obtain⟨G,B⟩:=I.base.there b o e f;exact free b G (A b o e f) B (I.base.free b o e n f)
 ·obtain⟨G,B⟩:=I.base.there b o e f;exact there b G (A b o e f) B
 ·obtain⟨m1,B⟩:=I.base.tbls b ps e;obtain⟨m2,L⟩:=F b _ B;exact⟨m1++m2,by rw[L,Array.append_assoc]⟩
 ·obtain⟨m,hn,hl⟩:=I.loc;refine⟨m,ns m hn,λi x v B L e3=>?_⟩;obtain⟨u,r,l⟩:=hl i x v B L e3;refine⟨u,r,?_⟩;rcases l with l | ⟨k,c,e,z⟩
  ·exact .inl l
  ·exact .inr ⟨k,c,e,cellK x c e _ z⟩
 ·obtain⟨v,z⟩:=I.cell x c e;exact⟨v,cellK x c e v z⟩
 ·obtain⟨m,⟨o,_,_,E,_⟩,_⟩:=I.loc;exact free _ o (λz=>(y _ z).2.1 rfl) E I.free
 ·obtain⟨v,o,E,T⟩:=I.cell x c e;exact free c o (λz=>(y c z).2.2.1 x c e rfl) E (I.freeC x c e)
 ·obtain⟨e,n,ne,U,d⟩:=I.pin p Y;have g:p.1∉ch:=λz=>(y p.1 z).2.2.2 p Y rfl;exact⟨keep p.1 p.2 ne U g e n,free p.1 p.2 g e n,ne,U,d⟩
def Inv.un(I:Inv X pins σ H s)(u:Un X.fs [] H H' s.heap h')(f:HOk X.prog X.w H' h'):Inv X pins σ H' {s with heap:=h',toks:=t'}:=by
 obtain⟨m,⟨o,F,J,q,r⟩,_⟩:=id I.loc;obtain⟨B,A⟩:=u.any q I.free (by simp);exact I.step (g':=s.gens) (d':=s.drawn) (ch:=[]) (λ_ z=>nomatch z) (λb o _ g _ e n=>u.keep b o e n g (by simp)) (λb o _ g _ e n=>u.slot b o e n g (by simp)) (λb o _ e n=>u.free b o e n (by simp)) (λb o _ e=>u.there b o e (by simp)) u.tups u.frzs u.tbls (λE y=>by
  obtain⟨C,l,p,c,G⟩:=y;rw[q]at c;cases c;exact⟨_,l,p,A,G⟩) f I.bare
def Inv.call{g':Array ZV}{d':nU}{ch:List BJ}(I:Inv X pins σ H s)(u:Un (frs X.stack) ch H H' s.heap h')(q:HOk X.prog X.w H' h')(F:NP g')
  (l:∀b∈ch,(b∈X.ex\/X.s₀.heap.objs.size<=b)/\b≠X.env.locals/\(∀x c,X.env.cells.lookup x=some c->c≠b)/\∀p∈X.pn++pins,p.1≠b):
  Inv X pins σ H' {s with heap:=h',gens:=g',drawn:=d',toks:=t'}:=by
 obtain⟨m,⟨o,O,Q,C,r⟩,_⟩:=id I.loc;obtain⟨K,y⟩:=u.any C I.free λz=>(l _ z).2.1 rfl;exact I.step (ch:=ch) l (λb o y J f e n=>u.keep b o e n (λz=>(JN.mp (I.stkSub b z)).elim y J) f) (λb o _ _ f e n=>u.any e n f) (λb o f e n=>u.free b o e n f) (λb o f e=>u.there b o e f) u.tups u.frzs u.tbls (λM E=>by
  obtain⟨L,A,B,g,G⟩:=E;rw[C]at g;cases g;exact⟨_,A,B,y,G⟩) q F
def Inv.turned(I:Inv X pins σ H s)(k:∀b o,b≠it->s.heap.get? b=some o->h'.get? b=some o)(A:H it=none)(l:it≠X.env.locals)
  (h1:it∈X.ex\/X.s₀.heap.objs.size<=it)(F:∀x c,X.env.cells.lookup x=some c->c≠it)(E:∀p∈X.pn++pins,p.1≠it):Inv X pins σ H {s with heap:=h',toks:=t'}:=by
 have g:∀b u,H b=some u->b≠it:=λb u e z=>by rw[z,A]at e;cases e
 refine I.step (g':=s.gens) (d':=s.drawn) (ch:=[it]) (λb C=>?_) (λb o _ _ f e _=>k b o (λz=>f (by simp[z])) e) (λb o _ _ f e _=>⟨o.slots,k b o (λz=>f (by simp[z])) e⟩) (λ_ _ _ _ n=>n)
  (λb o f e=>⟨o,k b o (λz=>f (by simp[z])) e⟩) (λ_ _ e=>e) (λ_ _ _ e=>e) (λb ps e=>⟨#[],by rw[e];simp⟩) (λm B=>?_) (λb u e=>?_) I.bare
 ·have e:b=it:=by simpa using C
  subst e;exact⟨h1,l,F,E⟩
 ·obtain⟨o,G,J,y,r⟩:=B;exact⟨o,G,J,k _ o (Ne.symm l) y,r⟩
 ·refine(I.hok b u e).stay (λc v f q=>k c v ?_ q) (λ_ q=>q) λ_ _ q=>q;rcases f with z |z
  ·rw[z];exact g b u e
  ·exact g c _ z
def Inv.tok(I:Inv X pins σ H s)(t:Nat):Inv X pins σ H {s with toks:=t}:=I.un (h':=s.heap) (t':=t) Un.refl I.hok
def Inv.kept(I:Inv X pins σ H s)(k:∀b u,s.heap.get? b=some u->h'.get? b=some u):Inv X pins σ H {s with heap:=h',toks:=t'}:=I.un (Un.kept k) (I.hok.kept k)
def Inv.laid(I:Inv X pins σ H s)(k:∀b u,s.heap.get? b=some u->h'.get? b=some u)(c:s.heap.objs.size<=a)(new:Cg X.prog X.w (upd H a o) h' a o):
  Inv X pins σ (upd H a o) {s with heap:=h',toks:=t'}:=I.un (Un.laid k c (I.hok.fresh c)) (I.hok.laid k c new)
def Inv.write{e:BJ}(I:Inv X pins σ H s)(f:Mut (H x))(g:e=x\/H e=some (.own x))(k:∀b u,b≠e->s.heap.get? b=some u->h'.get? b=some u)(c:∃u,h'.get? e=some u)
  (new:Cg X.prog X.w (upd H x o) h' x o):Inv X pins σ (upd H x o) {s with heap:=h',toks:=t'}:=I.un (Un.write f g k c) (I.hok.write f g k c new)
def Inv.pins_of{b:List (BJ×GR)}(I:Inv X pins σ H s)(h:∀p∈b,s.heap.get? p.1=some p.2/\H p.1=none/\p.1≠X.env.locals/\p.1∉X.fs/\∀v,p.2.data≠.cell v):Inv X b σ H s:=
 ⟨I.ok,I.os,I.bare,I.base,I.loc,I.cell,I.free,I.freeC,λp c=>(S_.mp c).elim (λz=>I.pin p (jC _ z)) (h p),I.hok,I.len⟩
def jv7{N:List BR}(c:N.Nodup){x:BR}(a:N[i]? = some x)(b:N[j]? = some x):i=j:=by obtain⟨l,f⟩:=NB.mp a;obtain⟨g,e⟩:=NB.mp b;exact(List.getElem_inj c).mp (f.trans e.symm)
theorem jj2{M:OD}{A:D_}{E:A_->BK->Prop}{x:BR}{Q:Unit->BK->Prop}(I:Inv X pins σ H s)(hN:X.N.Nodup)(Y:X.N[i]? = some x)(l:Loc X.env.scope x)(r:RelV v u)
  (h:∀s',Inv X pins (σ.set i (some v)) H s'->(∃a,Heap.SameBut a s.heap s'.heap/\(a=X.env.locals\/X.env.cells.lookup x=some a))->Q () s')(hf:X.fn x=true\/X.env.scope.names.lookup x=some .local:=by first |exact .inl rfl |exact .inr rfl |assumption):BL M A (storeName X.env x u) Q E s:=by
 obtain⟨m,hn,hl⟩:=id I.loc;have Z:(X.env.scope.kind == .class || (X.env.scope.kind == .module && X.env.locals != X.env.globals))=false:=by rw[I.ok.kind];rfl
 have F:i<σ.length:=by rw[I.len];exact(NB.mp Y).1
 have cne:=I.cne;have tracked:∀{a:BJ}{h':CP},(∃o,s.heap.get? a=some o/\H a=none)->Heap.SameBut a s.heap h'->HOk X.prog X.w H h':=λ{a h'} ha f b ob e=>by obtain⟨_,_,ag⟩:=ha;refine(I.hok b ob e).stay (λc w' B q=>(f.2 c ?_).trans q) (λ_ q=>q) λ_ _ q=>q;lia
 rcases l with O |O
 ·refine wpAny_storeName_local O hn (λh' af f=>?_) Z;obtain⟨oL,_,_,ae,_⟩:=id hn;refine h _ ⟨I.ok,I.os,I.bare,⟨λb o e n L l=>?_,λb o e n L l=>?_,I.base.free,λb o e l=>?_,I.base.tups,I.base.frzs,I.base.tbls⟩,⟨_,af,λj y v' g C e3=>?_⟩,λy c e=>?_,I.free,I.freeC,λp hp=>?_,tracked ⟨oL,ae,I.free⟩ f,by simpa using I.len⟩ ⟨_,f,.inl rfl⟩
  ·exact(f.2 b (MJ (RJ (HX e) I.ok.above))).trans (I.base.keep b o e n L l)
  ·obtain⟨sl,g⟩:=I.base.slot b o e n L l;exact⟨sl,(f.2 b (MJ (RJ (HX e) I.ok.above))).trans g⟩
  ·obtain⟨o',g⟩:=I.base.there b o e l;exact⟨o',(f.2 b (MJ (RJ (HX e) I.ok.above))).trans g⟩
  ·by_cases J:j=i
   ·subst J;rw[Y]at g;cases g;rw[YL F]at C;cases C;exact⟨u,r,.inl ⟨O,by simp⟩⟩
   ·rw[QT (Ne.symm J)]at C;obtain⟨u',G,q⟩:=hl j y v' g C e3;refine⟨u',G,?_⟩;rcases q with ⟨k,e⟩ | ⟨k,c,e,z⟩
    ·refine .inl ⟨k,?_⟩;have:y≠x:=λe=>J (jv7 hN g (e ▸ Y));simp[this,e]
    ·exact .inr ⟨k,c,e,z.sameBut f (cne y c e)⟩
  ·obtain⟨w',z⟩:=I.cell y c e;exact⟨w',z.sameBut f (cne y c e)⟩
  ·obtain⟨e,n,ne,nf,d⟩:=I.pin p hp;exact⟨(f.2 p.1 ne).trans e,n,ne,nf,d⟩
 ·have K:X.fn x=true:=by lia
  obtain⟨c,B⟩:=I.ok.has x (.inl O);obtain⟨w',z⟩:=I.cell x c B;refine wpAny_storeName_cell I.ok.kind O B z (λh' ab f=>?_);obtain⟨oc,U,T⟩:=id z;refine h {s with heap:=h'} ⟨I.ok,I.os,I.bare,⟨λb o e n L l=>?_,λb o e n L l=>?_,I.base.free,λb o e l=>?_,I.base.tups,I.base.frzs,I.base.tbls⟩,⟨m,hn.sameBut f (Ne.symm (cne x c B)),λj y v' g C e3=>?_⟩,λy c' e=>?_,I.free,I.freeC,λp hp=>?_,tracked ⟨oc,U,I.freeC x c B⟩ f,by simpa using I.len⟩ ⟨c,f,.inr B⟩
  ·exact(f.2 b (MJ (RJ (HX e) (I.ok.cab x c K B)))).trans (I.base.keep b o e n L l)
  ·obtain⟨sl,g⟩:=I.base.slot b o e n L l;exact⟨sl,(f.2 b (MJ (RJ (HX e) (I.ok.cab x c K B)))).trans g⟩
  ·obtain⟨o',g⟩:=I.base.there b o e l;exact⟨o',(f.2 b (MJ (RJ (HX e) (I.ok.cab x c K B)))).trans g⟩
  ·by_cases J:j=i
   ·subst J;rw[Y]at g;cases g;rw[YL F]at C;cases C;exact⟨u,r,.inr ⟨.inl O,c,B,ab⟩⟩
   ·rw[QT (Ne.symm J)]at C;obtain⟨u',G,q⟩:=hl j y v' g C e3;refine⟨u',G,?_⟩;rcases q with q | ⟨k,c',e,z'⟩
    ·exact .inl q
    ·refine .inr ⟨k,c',e,z'.sameBut f ?_⟩;rintro rfl;exact J (jv7 hN g (I.ok.inj _ _ _ e B ▸ Y))
  ·by_cases aa:c'=c
   ·subst aa;exact⟨_,ab⟩
   ·obtain⟨w2,z2⟩:=I.cell y c' e;exact⟨w2,z2.sameBut f aa⟩
  ·obtain⟨e,n,ne,nf,d⟩:=I.pin p hp;refine⟨(f.2 p.1 ?_).trans e,n,ne,nf,d⟩;intro q;rw[q,U]at e;have q':oc=p.2:=Option.some.inj e;exact d w' (by rw[<-q'];exact T)
theorem jy2{M:OD}{A:D_}{E:A_->BK->Prop}{x:BR}{Q:Unit->BK->Prop}(I:Inv X pins σ H s)(f:X.N.Nodup)(c:X.N[i]? = some x)(b:Loc X.env.scope x)(r:RelV v u)
  (h:∀s',Inv X pins (σ.set i (some v)) H s'->Q () s')(e:X.fn x=true\/X.env.scope.names.lookup x=some .local:=by first |exact .inl rfl |exact .inr rfl |assumption):BL M A (storeName X.env x u) Q E s:=
 jj2 I f c b r (λs' g _=>h s' g) e
def Inv.call'{ch:List BJ}(I:Inv X pins σ H s)(m:s'.os=s.os)(u:Un (frs X.stack) ch H H' s.heap s'.heap)(f:HOk X.prog X.w H' s'.heap)(n:NP s'.gens)
  (g:∀b∈ch,(b∈X.ex\/X.s₀.heap.objs.size<=b)/\b≠X.env.locals/\(∀x c,X.env.cells.lookup x=some c->c≠b)/\∀p∈X.pn++pins,p.1≠b):Inv X pins σ H' s':=by
 obtain⟨h',g',d',t',l⟩:=s';have e:l=s.os:=m;subst e;exact I.call (g':=g') (t':=t') (d':=d') u f n g
end
abbrev XK:=A_->Option BJ->Hp->Prop
abbrev St:=List (Option V)
abbrev VK:=V->Hp->Prop
abbrev TE:=St->Hp->VK->Prop
abbrev TT:=St->Hp->(Bool->Hp->Prop)->Prop
abbrev TA:=St->Hp->(List V->Hp->Prop)->Prop
structure Ends where
 nx:St->Hp->Prop
 rt:VK
 bk:St->Hp->Prop:=λ_ _=>False
 ct:St->Hp->Prop:=λ_ _=>False
abbrev TS:=Ends->St->Hp->Prop
def EP(X:Cx)(pins:List (BJ×GR))(b:St)(Q:VK)(u:A_)(s':BK):Prop:=∃v H',Inv X pins b H' s'/\RelV v u/\Q v H'
def TP(X:Cx)(pins:List (BJ×GR))(c:St)(Q:Bool->Hp->Prop)(b:Bool)(s':BK):Prop:=∃H',Inv X pins c H' s'/\Q b H'
def AP(X:Cx)(pins:List (BJ×GR))(c:St)(Q:List V->Hp->Prop)(us:List A_)(s':BK):Prop:=∃b H',Inv X pins c H' s'/\Vals b us/\Q b H'
def SP(X:Cx)(pins:List (BJ×GR))(D:Ends)(f:Flow)(s':BK):Prop:=
 match f with
 | .next=>∃b H',Inv X pins b H' s'/\D.nx b H'
 | .brk=>∃b H',Inv X pins b H' s'/\D.bk b H'
 | .cont=>∃b H',Inv X pins b H' s'/\D.ct b H'
 | .ret u=>∃v b H',Inv X pins b H' s'/\RelV v u/\D.rt v H'
def PE(X:Cx)(e:B_)(t:TE):Prop:=
 ∀(pins:List (BJ×GR))(s:BK)(b:St)(H:Hp)(Q:VK),Inv X pins b H s->t b H Q->BL (BV X.prog X.w) X.A (CV e X.env) (EP X pins b Q) X.xe s
def PT(X:Cx)(e:B_)(t:TT):Prop:=
 ∀(pins:List (BJ×GR))(s:BK)(b:St)(H:Hp)(Q:Bool->Hp->Prop),Inv X pins b H s->t b H Q->BL (BV X.prog X.w) X.A (XX e X.env (CV e X.env)) (TP X pins b Q) X.xe s
def PW(X:Cx)(e:B_)(t:TT):Prop:=
 ∀(whole:Sem A_)(pins:List (BJ×GR))(s:BK)(b:St)(H:Hp)(Q:Bool->Hp->Prop),Inv X pins b H s->t b H Q->BL (BV X.prog X.w) X.A (XX e X.env whole) (TP X pins b Q) X.xe s
def PW.pt{e:B_}{t:TT}(h:PW X e t):PT X e t:=h _
def PA(X:Cx)(es:List B_)(t:TA):Prop:=
 ∀(pos:HY)(pins:List (BJ×GR))(s:BK)(b:St)(H:Hp)(Q:List V->Hp->Prop),Inv X pins b H s->t b H Q->BL (BV X.prog X.w) X.A (spliced (IK pos (BP es X.env))) (AP X pins b Q) X.xe s
def PS(X:Cx)(st:CT)(t:TS):Prop:=
 ∀(pins:List (BJ×GR))(s:BK)(b:St)(H:Hp)(D:Ends),Inv X pins b H s->t D b H->BL (BV X.prog X.w) X.A (exec st X.env) (SP X pins D) X.xe s
def PSs(X:Cx)(st:List CT)(t:TS):Prop:=
 ∀(pins:List (BJ×GR))(s:BK)(b:St)(H:Hp)(D:Ends),Inv X pins b H s->t D b H->BL (BV X.prog X.w) X.A (execs st X.env) (SP X pins D) X.xe s
def thn{b:Type}{t:Sem b}{Q c:b->BK->Prop}{M:OD}{A:D_}{E:A_->BK->Prop}(h:BL M A t Q E s)(e:∀a s,Q a s->c a s):BL M A t c E s:=GK h e λ_ _ x=>x
def thG{e b:Type}{t:Sem b}{c:St}{R:e->b->Prop}{Q:e->Hp->Prop}{f:b->BK->Prop}{M:OD}{A:D_}{E:A_->BK->Prop}
  (h:BL M A t (λu s'=>∃v H',Inv X pins c H' s'/\R v u/\Q v H') E s)(k:∀u s' v H',Inv X pins c H' s'->R v u->Q v H'->f u s'):BL M A t f E s:=GK h (λu s' q=>let ⟨v,H',I,r,z⟩:=q;k u s' v H' I r z) λ_ _ x=>x
variable {b:B_}{pos:HY}{B:TE}
variable {Q:A_->BK->Prop}
section
def jF(i:Nat):TE:=λc H Q=>∃v,c[i]? = some (some v)/\Q v H
def tC(v:V):TE:=λ_ H Q=>Q v H
def yp6{x:BR}(G:X.N[i]? = some x)(A:Vis X.env.scope x)(p:Zd x:=by decide)(q:(x == ("__classdict__" : BR))=false:=by decide):PE X (.Name x pos) (jF i):=by
 intro pins s z H Q I h;obtain⟨v,e,h⟩:=h;obtain⟨m,C,F⟩:=I.loc;obtain⟨u,r,l⟩:=F i x v G e A;have n:EP X pins z Q u s:=⟨v,H,I,r,h⟩;rcases l with ⟨g,E⟩ | ⟨g,c,y,f⟩
 ·exact aK (wpAny_loadName_local I.ok.kind g C E n) p
 ·rcases g with g |g
  ·exact aK (wpAny_loadName_cell I.ok.kind g y f n) p
  ·exact aK (wpAny_loadName_free I.ok.kind g y f n q) p
def yp2{i j pos}:PE X (.Constant (.int i) j pos) (tC (.int i)):=λ_ _ _ H _ I h=>wpAny_Constant_int ⟨.int i,H,I.tok _,⟨_,rfl⟩,h⟩
def zd2{b j pos}:PE X (.Constant (.bool b) j pos) (tC (.bl b)):=λ_ _ _ H _ I h=>Constant_bool ⟨.bl b,H,I,rfl,h⟩
def yp4{j pos}:PE X (.Constant .none j pos) (tC .non):=λ_ _ _ H _ I h=>Constant_none ⟨.non,H,I,rfl,h⟩
def lF{x j pos}:PE X (.Constant (.str x) j pos) (tC (.str x)):=λ_ _ _ H _ I h=>Calls.Constant_str ⟨.str x,H,I.tok _,⟨_,rfl⟩,h⟩
def Gl(X:Cx)(x:BR):Prop:=X.env.kindOf x=some .globalImplicit
def Xq{E:A_->BK->Prop}{c:St}{x:BR}(I:Inv X pins c H s)(f:Gl X x)(e:X.mg x=some u)(h:Q u s)
  (g:Zd x:=by decide):BL (BV X.prog X.w) X.A (CV (.Name x pos) X.env) Q E s:=
 Calls.Name_function_global I.ok.kind f (Calls.loadGlobal_global (by rw[I.ok.glob];exact I.mod.glob.keeps I.bk) e h) g
def Vg{E:A_->BK->Prop}{c:St}{x:BR}(I:Inv X pins c H s)(l:Gl X x)(g:X.mg x=none)(e:G_ x=some u)(h:Q u s)
  (f:x ≠ "__name__":=by decide)(m:Zd x:=by decide):BL (BV X.prog X.w) X.A (CV (.Name x pos) X.env) Q E s:=by
 obtain⟨q,p,n⟩:=I.mod.blt;exact Calls.Name_function_global I.ok.kind l (Calls.loadGlobal_builtin (by rw[I.ok.glob];exact I.mod.glob.keeps I.bk) g (by rw[I.ok.blt];exact p.keeps I.bk) ((n x f).trans e) h) m
def rK{x:BR}(e:Gl X x)(c:X.mg x=some u)(r:RelV v u)(f:Zd x:=by decide):PE X (.Name x pos) (tC v):=
 λ_ _ _ H _ I h=>Xq I e c ⟨v,H,I,r,h⟩ f
def wy8{x:BR}(g:Gl X x)(f:X.mg x=none)(c:G_ x=some u)(r:RelV v u)(e:x ≠ "__name__":=by decide)(l:Zd x:=by decide):PE X (.Name x pos) (tC v):=
 λ_ _ _ H _ I h=>Vg I g f c ⟨v,H,I,r,h⟩ e l
variable {a:B_}{tb:TE}
def PC(X:Cx)(g:O_)(a b:B_)(t:TE):Prop:=
 ∀(pins:List (BJ×GR))(s:BK)(f:St)(H:Hp)(Q:VK),Inv X pins f H s->t f H Q ->
  BL (BV X.prog X.w) X.A (CV a X.env) (λv e=>BL (BV X.prog X.w) X.A (CV b X.env) (λu c=>BL (BV X.prog X.w) X.A (CN g v u) (EP X pins f Q) X.xe c) X.xe e) X.xe s
def tB(t:TE):TT:=λe H Q=>t e H λx f=>∃c,x=.bl c/\Q c f
def yI{e:O_}{t:TE}(h:PC X e a b t)(h1:FP e b=false:=by first |exact nobehind _ (by decide) (by decide) |rfl):PT X (.Compare a [e] [b] pos) (tB t):=by intro pins s f H Q I m;refine YH (thn (h pins s f H _ I m) λv A h1=>thn h1 λu z n=>thn n λc y ⟨x,r,p,g,l⟩=>?_) h1;obtain⟨d,rfl,q⟩:=l;cases g;exact DR ⟨r,p,q⟩
variable {tA e:TT}{rest:List B_}
def zo6(t u:TT):TT:=λf H Q=>t f H λc g=>if c=true then u f g Q else Q false g
def tOr(t u:TT):TT:=λf H Q=>t f H λc g=>if c=true then Q true g else u f g Q
def zp9(t:TT):TT:=λf H Q=>t f H λc g=>Q (!c) g
def ya2(g:PT X a tA):PW X (.BoolOp .And [a] pos) tA:=by
 intro l pins s f H Q I h;refine isTrue_and (thn (g pins s f H Q I h) λc m e=>?_);cases c with
 |true=>exact isTrue_and_nil e
 |false=>exact e
def pY(g:PT X a tA):PW X (.BoolOp .Or [a] pos) tA:=by
 intro l pins s f H Q I h;refine isTrue_or (thn (g pins s f H Q I h) λc m e=>?_);cases c with
 |false=>exact isTrue_or_nil e
 |true=>exact e
def yq5(y:PT X a tA)(r:PW X (.BoolOp .And (b::rest) pos) e):PW X (.BoolOp .And (a::b::rest) pos) (zo6 tA e):=by
 intro p pins s g H Q I h;refine isTrue_and (thn (y pins s g H _ I h) λc q f=>?_);obtain⟨n,m,l⟩:=f;cases c with
 |true=>exact r p pins q g n Q m l
 |false=>exact⟨n,m,l⟩
def oY(y:PT X a tA)(r:PW X (.BoolOp .Or (b::rest) pos) e):PW X (.BoolOp .Or (a::b::rest) pos) (tOr tA e):=by
 intro p pins s g H Q I h;refine isTrue_or (thn (y pins s g H _ I h) λc q f=>?_);obtain⟨n,m,l⟩:=f;cases c with
 |true=>exact⟨n,m,l⟩
 |false=>exact r p pins q g n Q m l
def yq2(g:PT X a tA):PT X (.UnaryOp .Not a pos) (zp9 tA):=by intro pins s f H Q I h;exact isTrue_not (g pins s f H (λc l=>Q (!c) l) I h)
def zg1(B tb:TE):TE:=λf H Q=>B f H λx g=>∃c,x=.bl c/\if c=true then tb f g Q else Q (.bl false) g
def zq0(B tb:TE):TE:=λf H Q=>B f H λx g=>∃c,x=.bl c/\if c=true then Q (.bl true) g else tb f g Q
def yp5{op}{t:TE}(h:PE X a t):PE X (.BoolOp op [a] pos) t:=λpins s c H Q I f=>BoolOp_one (h pins s c H Q I f)
def yp1(r:PE X a B)(q:PE X (.BoolOp .And (b::rest) pos) tb):PE X (.BoolOp .And (a::b::rest) pos) (zg1 B tb):=by
 intro pins s g H Q I h;refine BoolOp_and (thG (r pins s g H _ I h) λv n x m l p f=>?_);obtain⟨c,rfl,f⟩:=f;cases p;refine DR ?_;cases c with
 |true=>exact q pins n g m Q l f
 |false=>exact⟨.bl false,m,l,rfl,f⟩
def zd5(r:PE X a B)(q:PE X (.BoolOp .Or (b::rest) pos) tb):PE X (.BoolOp .Or (a::b::rest) pos) (zq0 B tb):=by
 intro pins s g H Q I h;refine BoolOp_or (thG (r pins s g H _ I h) λv n x m l p f=>?_);obtain⟨c,rfl,f⟩:=f;cases p;refine DR ?_;cases c with
 |false=>exact q pins n g m Q l f
 |true=>exact⟨.bl true,m,l,rfl,f⟩
def tIf(t:TT)(B tb:TE):TE:=λf H Q=>t f H λc g=>if c=true then B f g Q else tb f g Q
def wk3{c:B_}(q:PT X c tA)(y:PE X a B)(r:PE X b tb):PE X (.IfExp c a b pos) (tIf tA B tb):=by
 intro pins s f H Q I h;refine wpAny_IfExp (thn (q pins s f H _ I h) λd l g=>?_);obtain⟨p,n,m⟩:=g;cases d with
 |true=>exact y pins l f p Q n m
 |false=>exact r pins l f p Q n m
end
def SqL(K:BZ)(H:Hp)(a:BJ)(xs:List V):Prop:=
 Rd H a (.lst xs) \/
  ∃(o:GR)(its:Array A_)(n:Nat),K.lookup a=some o/\o.cls=.type "list"/\o.dict=none/\o.data=.seq its n/\its.size<=sizeLine/\Vals xs its.toList
def SqT(K:BZ)(H:Hp)(a:BJ)(xs:List V):Prop:=
 Rd H a (.tup xs) \/
  ∃(o:GR)(its:Array A_)(n:Nat),K.lookup a=some o/\o.cls=.type "tuple"/\o.data=.seq its n/\its.size<=sizeLine/\Vals xs its.toList
def zj1:A_->Option V
 | .none=>some .non
 | .bool b=>some (.bl b)
 | .int i _=>some (.int i)
 | .str x _=>some (.str x)
 | .bytes b _=>some (.byt b)
 | .float b _=>some (.flt b)
 | .ref a=>some (.ref a)
 | .type n=>some (.ty n)
 |_=>none
def RelV.abs{x:V}(r:RelV x u):zj1 u=some x:=by
 cases x with
 |non=>cases r;rfl
 |bl _=>cases r;rfl
 |int _=>obtain⟨t,rfl⟩:=r;rfl
 |str _=>obtain⟨t,rfl⟩:=r;rfl
 |byt _=>obtain⟨t,rfl⟩:=r;rfl
 |flt _=>obtain⟨t,rfl⟩:=r;rfl
 |ref _=>cases r;rfl
 |ty _=>cases r;rfl
variable {y:V}
def RelV.inj{x:V}(r:RelV x u)(q:RelV y u):x=y:=Option.some.inj (r.abs.symm.trans q.abs)
def Vals.inj(h:Vals xs us):Vals ys us->xs=ys:=by
 induction h generalizing ys with
 |nil=>intro c;cases c;rfl
 |cons r t e =>
  intro c;cases c with
  |cons G t'=>rw[r.inj G,e t']
variable {σ:St}
variable {K:BZ}
section
variable {xs ys:List V}
def SqL.of(h:H a=some (.lst xs)):SqL K H a xs:=.inl (.inl h)
theorem Inv.list(I:Inv X pins σ H s)(h:SqL X.K H a xs):∃c:List A_,Vals xs c/\PlainL s.heap a c.toArray/\xs.length<=sizeLine:=by
 rcases h with h | ⟨o,c,n,g,m,l,f,p,r⟩
 ·obtain⟨z,c,n,r,e⟩:=h.ok I.hok;exact⟨c,r,⟨_,n,e,rfl,rfl,rfl⟩,z⟩
 ·refine⟨c.toList,r,⟨o,n,I.QZ a o g,m,l,by simpa using f⟩,?_⟩;have e:=r.length;simp_all
theorem Inv.tuple(I:Inv X pins σ H s)(h:SqT X.K H a xs):∃c:List A_,Vals xs c/\OJ s.heap a c.toArray/\xs.length<=sizeLine:=by
 rcases h with h | ⟨o,c,n,g,l,f,m,r⟩
 ·obtain⟨z,c,r,p⟩:=h.ok I.hok;exact⟨c,r,p,z⟩
 ·refine⟨c.toList,r,⟨o,I.QZ a o g,l,n,by simpa using f⟩,?_⟩;have e:=r.length;simp_all
def Inv.list_inj(I:Inv X pins σ H s)(h:SqL X.K H a xs)(h':SqL X.K H a ys):xs=ys:=by
 obtain⟨f,r,⟨o,n,e,_,_,d⟩,_⟩:=I.list h;obtain⟨c,G,⟨p,q,g,_,_,l⟩,_⟩:=I.list h';rw[e]at g;cases g;rw[d]at l;injection l with m _;have:f=c:=by simpa using congrArg Array.toList m
 subst this;exact r.inj G
def Inv.tuple_inj(I:Inv X pins σ H s)(h:SqT X.K H a xs)(h':SqT X.K H a ys):xs=ys:=by
 obtain⟨f,r,⟨o,e,_,n,d⟩,_⟩:=I.tuple h;obtain⟨c,G,⟨p,g,_,q,l⟩,_⟩:=I.tuple h';rw[e]at g;cases g;rw[d]at l;injection l with m _;have:f=c:=by simpa using congrArg Array.toList m
 subst this;exact r.inj G
end
abbrev Cx.wish(X:Cx)(E:A_->BK->Prop):Cx:={X with xe:=E}
abbrev Cx.nox(X:Cx):Cx:=X.wish λ_ _=>False
def Cx.Ok.wish(ok:X.Ok)(E:A_->BK->Prop):(X.wish E).Ok:=
 ⟨ok.mod,ok.kind,ok.glob,ok.blt,ok.above,ok.inj,ok.has,ok.cab,ok.hd,ok.frames,ok.stk,ok.exf,ok.bs,ok.bsz,ok.noex,ok.exfs,ok.funs,ok.frf⟩
def Cx.Ok.unwish{E:A_->BK->Prop}(ok:(X.wish E).Ok):X.Ok:=
 ⟨ok.mod,ok.kind,ok.glob,ok.blt,ok.above,ok.inj,ok.has,ok.cab,ok.hd,ok.frames,ok.stk,ok.exf,ok.bs,ok.bsz,ok.noex,ok.exfs,ok.funs,ok.frf⟩
variable {E:A_->BK->Prop}
def Inv.wish(I:Inv X pins σ H s)(E:A_->BK->Prop):Inv (X.wish E) pins σ H s:=⟨I.ok.wish E,I.os,I.bare,I.base,I.loc,I.cell,I.free,I.freeC,I.pin,I.hok,I.len⟩
def Inv.unwish(I:Inv (X.wish E) pins σ H s):Inv X pins σ H s:=⟨I.ok.unwish,I.os,I.bare,I.base,I.loc,I.cell,I.free,I.freeC,I.pin,I.hok,I.len⟩
def SP.unwish{D:Ends}{f:Flow}(h:SP (X.wish E) pins D f s'):SP X pins D f s':=by
 cases f with
 |next=>obtain⟨c,H',I,q⟩:=h;exact⟨c,H',I.unwish,q⟩
 |brk=>obtain⟨c,H',I,q⟩:=h;exact⟨c,H',I.unwish,q⟩
 |cont=>obtain⟨c,H',I,q⟩:=h;exact⟨c,H',I.unwish,q⟩
 |ret u=>obtain⟨v,c,H',I,r,q⟩:=h;exact⟨v,c,H',I.unwish,r,q⟩
def PSs.nox{st:List CT}{t:TS}(h:PSs X.nox st t):PSs X st t:=λpins s σ H D I c =>
 GK (h pins s σ H D (I.wish _) c) (λ_ _ q=>q.unwish) λ_ _ z=>False.elim z
variable {e:B_}{q:TE}
section
variable {st:CT}{rest:List CT}{t u:TS}
def zg8:TS:=λD σ H=>D.nx σ H
def zq3(t u:TS):TS:=λD σ H=>t {D with nx:=u D} σ H
def Xv:PSs X [] zg8:=λ_ _ σ H _ I h=>NT ⟨σ,H,I,h⟩
def Gu(h1:PS X st t)(l:PSs X rest u):PSs X (st::rest) (zq3 t u):=by
 intro pins s σ H D I h;refine cZ (thn (h1 pins s σ H {D with nx:=u D} I h) λf g q=>?_);cases f with
 |next=>obtain⟨c,H',m,q⟩:=q;exact l pins g c H' D m q
 |ret v=>exact q
 |brk=>exact q
 |cont=>exact q
def Qx(h1:PS X st t):PSs X [st] t:=by
 intro pins s σ H D I h;refine cZ (thn (h1 pins s σ H D I h) λf c q=>?_);cases f with
 |next=>exact NT q
 |ret v=>exact q
 |brk=>exact q
 |cont=>exact q
def Inv.quiet(I:Inv X pins σ H s):interactive X.env=false:=by simp[interactive,I.ok.kind]
def zg4(q:TE):TS:=λD σ H=>q σ H λ_ c=>D.nx σ c
def rH(f:PE X e q)(hs:FJ e none pos.line X.env=pure false:=by rfl):PS X (.Expr e pos) (zg4 q):=by intro pins s σ H D I h;exact wpAny_Expr_any (thG (f pins s σ H _ I h) λv m x l g n c=>⟨σ,l,g,c⟩) I.quiet hs
def zq1(q:TE):TS:=λD σ H=>q σ H D.rt
def Z6(g:PE X e q):PS X (.Return (some e) pos) (zq1 q):=by intro pins s σ H D I h;exact wpAny_Return_some (thG (g pins s σ H _ I h) λv n x m l c f=>⟨x,σ,m,l,c,f⟩)
def zp3(c:TT)(t u:TS):TS:=λD σ H=>c σ H λb f=>if b=true then t D σ f else u D σ f
def gZ{c:B_}{a b:List CT}{J:TT}(p:PT X c J)(z:PSs X a t)(r:PSs X b u):PS X (.If c a b pos) (zp3 J t u):=by
 intro pins s σ H D I h;refine wpAny_If (thn (p pins s σ H _ I h) λd g f=>?_);obtain⟨n,m,l⟩:=f;cases d with
 |true=>exact z pins g σ n D m l
 |false=>exact r pins g σ n D m l
def ys7:TS:=λ_ _ _=>False
def wk8:PS X st ys7:=λ_ _ _ _ _ _ h=>h.elim
end
abbrev TG:=V->St->Hp->(St->Hp->Prop)->Prop
abbrev TGs:=List V->St->Hp->(St->Hp->Prop)->Prop
def PG(X:Cx)(target:B_)(t:TG):Prop:=
 ∀(pins:List (BJ×GR))(s:BK)(σ:St)(H:Hp)(v:V)(u:A_)(Q:St->Hp->Prop),Inv X pins σ H s->RelV v u->t v σ H Q ->
  BL (BV X.prog X.w) X.A (YD target X.env u) (λ_ s'=>∃c H',Inv X pins c H' s'/\Q c H') X.xe s
def PGs(X:Cx)(ts:List B_)(t:TGs):Prop:=
 ∀(pins:List (BJ×GR))(s:BK)(σ:St)(H:Hp)(vs:List V)(us:List A_)(Q:St->Hp->Prop),Inv X pins σ H s->Vals vs us->t vs σ H Q ->
  BL (BV X.prog X.w) X.A (assignInOrder ((GD ts X.env).map (·.2)) us) (λ_ s'=>∃c H',Inv X pins c H' s'/\Q c H') X.xe s
def wO(i:Nat):TG:=λv σ H Q=>Q (σ.set i (some v)) H
theorem km0{x:BR}(l:X.N.Nodup)(f:X.N[i]? = some x)(c:Loc X.env.scope x)(g:X.fn x=true\/X.env.scope.names.lookup x=some .local:=by first |exact .inl rfl |exact .inr rfl |assumption):PG X (.Name x pos) (wO i):=by intro pins s σ H v u Q I r h;exact bR (jy2 I l f c r (λs' m=>⟨_,H,m,h⟩) g)
def zl6:TGs:=λc σ H Q=>c=[]/\Q σ H
def yz0(t:TG)(u:TGs):TGs:=λf σ H Q=>∃v r,f=v::r/\t v σ H λc H'=>u r c H' Q
def wz2:PGs X [] zl6:=by intro pins s σ H c us Q I r h;obtain⟨e,h⟩:=h;subst e;cases r;exact assignInOrder_nil ⟨σ,H,I,h⟩
def wk5{es:List B_}{t:TG}{u:TGs}(h1:PG X e t)(n:PGs X es u)
  (hs:(GD (e::es) X.env).map (·.2)=YD e X.env::(GD es X.env).map (·.2):=by rfl):PGs X (e::es) (yz0 t u):=by
 intro pins s σ H C us Q I r h;obtain⟨v,F,p,h⟩:=h;subst p;cases r with
 |cons r l=>rw[hs];refine assignInOrder_cons (thn (h1 pins s σ H _ _ _ I r h) λ_ g f=>?_);obtain⟨c,A,z,m⟩:=f;exact n pins g c A _ _ Q z l m
def zl7(K:BZ)(n:Nat)(t:TGs):TG:=λv σ H Q=>∃a xs,v=.ref a/\SqT K H a xs/\xs.length=n/\t xs σ H Q
variable {n:Nat}
def yp7{es:List B_}{k:Nat}{t:TGs}(F:X.calm=true)(h:PGs X es t)
  (A:(GD es X.env).length=n:=by rfl)(f:(GD es X.env).findIdx? (·.1)=none:=by rfl):PG X (.Tuple es k pos) (zl7 X.K n t):=by
 intro pins s σ H v u Q I r c;obtain⟨a,xs,G,z,C,c⟩:=c;subst G;cases r;obtain⟨l,g,p,L⟩:=I.tuple z;refine assign_Tuple_tuple (I.ok.hd F) p (by simp[A,<-C,g.length]) f λh' m=>?_;have J:Inv X pins σ H {s with heap:=h'}:=I.kept (t':=s.toks) λb o e=>m b o (MJ (HX e)) e;exact h pins _ σ H xs _ Q J (by simpa using g) c
def zo7(q:TE)(g:TG):TS:=λD σ H=>q σ H λx c=>g x σ c D.nx
theorem pZ{x:BR}{pos':HY}(r:X.N.Nodup)(l:X.N[i]? = some x)(g:Loc X.env.scope x)(p:PE X e q)(hs:FJ e (some (.Name x pos')) pos.line X.env=pure false:=by rfl)(m:X.fn x=true\/X.env.scope.names.lookup x=some .local:=by first |exact .inl rfl |exact .inr rfl |assumption):
  PS X (.Assign [.Name x pos'] e pos) (zo7 q (wO i)):=by
 intro pins s σ H D I h;refine wpAny_Assign_Name (thG (p pins s σ H _ I h) λv G y C A c f=>?_) hs;exact jy2 A r l g c (λF z=>⟨_,C,z,f⟩) m
def ys9(c:TT)(tb:TS):TS:=λD σ H=>∃W:Nat->St->Hp->Prop,(∃m,W m σ H)/\∀m σ H,W m σ H ->
 c σ H λb l=>if b=true then ∃N:St->Hp->Prop,(∀f H',N f H'->∃g,g<m/\W g f H')/\tb {D with nx:=N,ct:=N,bk:=D.nx} σ l else D.nx σ l
variable {F:List CT}
def wk9{c:B_}{J:TT}{tb:TS}(U:WY (BV X.prog X.w) X.A X.env X.xe)(hc:PT X c J)(hb:PSs X F tb):PS X (.While c F [] pos) (ys9 J tb):=by
 intro pins s σ H D I h;obtain⟨W,⟨m0,w0⟩,turn⟩:=h;refine wpAny_While (codeAny_whileLoop (λn s'=>∃m H',Inv X pins m H' s'/\W n m H') ?_ m0 ⟨σ,H,I,w0⟩);rintro n s1 ⟨l,H1,I1,w1⟩;refine HQ U (thn (hc pins s1 l H1 _ I1 (turn n l H1 w1)) λb s2 C=>?_);obtain⟨H2,Z,z⟩:=C;cases b with
 |true =>
  obtain⟨N,Y,z⟩:=z;rw[if_pos rfl];refine HQ U (thn (hb pins s2 l H2 _ Z z) λf s3 r=>?_);cases f with
  |next=>obtain⟨g,p,T,L⟩:=r;obtain⟨M,O,G⟩:=Y g p L;exact⟨M,O,g,p,T,G⟩
  |cont=>obtain⟨g,p,T,L⟩:=r;obtain⟨M,O,G⟩:=Y g p L;exact⟨M,O,g,p,T,G⟩
  |brk=>exact r
  |ret v=>exact r
 |false=>rw[if_neg cT];exact NT ⟨l,H2,Z,z⟩
structure It where
 go:Nat->Hp->Prop
 yld:Nat->Hp->V->Hp->Prop
 stop:Nat->Hp->Prop
def Q5(X:Cx)(pins:List (BJ×GR))(H:Hp)(b:BJ):Prop:=
 H b=none/\b≠X.env.locals/\b∉X.fs/\(b∈X.ex\/X.s₀.heap.objs.size<=b)/\(∀x c,X.env.cells.lookup x=some c->c≠b)/\∀p∈X.pn++pins,p.1≠b
def Inv.fpOk{b:BJ}(I:Inv X pins σ H s)(f:s.heap.objs.size<=b)(l:H' b=none):Q5 X pins H' b:=by
 refine⟨l,VV (RJ I.lt f),I.nofs f,.inr (QG I.sz f),λx c e z=>?_,λp g z=>?_⟩
 ·obtain⟨v,q⟩:=I.cell x c e;exact absurd (RJ q.lt (by rw[z];exact f)) (ZJ _)
 ·exact absurd (RJ (HX (I.pin p g).1) (by rw[z];exact f)) (ZJ _)
structure Turn(P:BW)(w:CQ)(K:BZ)(tg:B_)(J:It)(fp:List BJ)(it:BJ)(tn:Nat->CP->Prop):Prop where
 mem:it∈fp
 obj:∀i h,tn i h->∀b∈fp,∃o,h.get? b=some o/\∀v,o.data≠.cell v
 keep:∀i h h',tn i h->(∀b∈fp,∀o,h.get? b=some o->h'.get? b=some o)->tn i h'
 item:∀(X:Cx),X.prog=P->X.w=w->X.K=K->X.calm=true->∀(i:Nat)(pins:List (BJ×GR))(s:BK)(σ:St)(H:Hp)(E:A_->BK->Prop),Inv X pins σ H s->(∀b∈fp,Q5 X pins H b)->tn i s.heap->J.go i H ->
  BL (BV P w) X.A (JG (.ref it)) (λr s1=>∃u,r=some u /\
   BL (BV P w) X.A (NZ tg (.ref it) u) (λ_ s2=>∃x H',Inv X pins σ H' s2/\RelV x u/\J.yld i H x H'/\tn (i+1) s2.heap/\∀b∈fp,H' b=none) E s1) E s
 done:∀(X:Cx),X.prog=P->X.w=w->X.K=K->X.calm=true->∀(i:Nat)(pins:List (BJ×GR))(s:BK)(σ:St)(H:Hp)(E:A_->BK->Prop),Inv X pins σ H s->(∀b∈fp,Q5 X pins H b)->tn i s.heap->J.stop i H ->
  BL (BV P w) X.A (JG (.ref it)) (λr s1=>r=none/\Inv X pins σ H s1) E s
 self:∀(A:D_)(i:Nat)(s:BK)(Q:A_->BK->Prop)(E:A_->BK->Prop),tn i s.heap->Q (.ref it) s->BL (BV P w) A (T_ (.ref it)) Q E s
abbrev TI:=St->Hp->(It->Hp->Prop)->Prop
def PIE(X:Cx)(pins:List (BJ×GR))(σ:St)(l:B_)(R:It->Hp->Prop)(c:A_)(f:BK):Prop:=
 ∃(it:BJ)(g:List BJ)(tn:Nat->CP->Prop)(J:It)(H':Hp),c=.ref it/\Inv X pins σ H' f/\Turn X.prog X.w X.K l J g it tn/\tn 0 f.heap/\(∀b∈g,Q5 X pins H' b)/\R J H'
def PI(X:Cx)(f iter:B_)(c:TI):Prop:=
 ∀(pins:List (BJ×GR))(s:BK)(σ:St)(H:Hp)(R:It->Hp->Prop),Inv X pins σ H s->c σ H R ->
  BL (BV X.prog X.w) X.A (CV iter X.env) (λv g=>BL (BV X.prog X.w) X.A (T_ v) (PIE X pins σ f R) X.xe g) X.xe s
variable {tg:B_}
def kW{M:OD}{A:D_}{o:GR}{n:String}{vs:Array A_}{Q:Unit->BK->Prop}(f:s.heap.get? it=some o)(m:o.cls=.type n)(l:o.data=.fields vs)
  (g:["enumerate","zip","dict_itemiterator","dict_reverseitemiterator","odict_iterator","itertools.zip_longest","itertools.pairwise"].contains n=false)(c:Q () s):BL M A (NZ tg (.ref it) u) Q E s:=by
 unfold NZ;cases tg<;>first
  |exact EY c
  | (cases u<;>first
    |exact EY c
    | (refine BX (aH f ?_)
       rw[m,l];show BL M A (if(["enumerate","zip","dict_itemiterator","dict_reverseitemiterator","odict_iterator","itertools.zip_longest","itertools.pairwise"].contains n && vs[0]? == some (C_ _))=true then _ else _) Q E s;rw[if_neg (by intro h;rw[g,tR]at h;cases h)];exact EY c))
def Itl(K:BZ)(a:BJ):It:=
 ⟨λi H=>∃xs x,SqL K H a xs/\xs[i]? = some x,λi H x H'=>H'=H/\∀xs,SqL K H a xs->xs[i]? = some x,λi H=>∃xs,SqL K H a xs/\xs.length<=i⟩
def Itt(K:BZ)(a:BJ):It:=
 ⟨λi H=>∃xs x,SqT K H a xs/\xs[i]? = some x,λi H x H'=>H'=H/\∀xs,SqT K H a xs->xs[i]? = some x,λi H=>∃xs,SqT K H a xs/\xs.length<=i⟩
def Itr(c:Int)(n:Nat):It:=⟨λi _=>i<n,λi H x H'=>H'=H/\x=.int (c+i),λi _=>n<=i⟩
theorem kx7(a it:BJ):Turn P w K tg (Itl K a) [it] it (λi h=>h.IsListIter it a i) where
 mem:=by simp
 obj:=λi h st b hb=>by
  have e:b=it:=by simpa using hb
  subst e;obtain⟨o,e,c,d⟩:=st;simp_all
 keep:=λi h h' st k=>st.at λo e=>k it (by simp) o e
 item:=by intro X hP hw hK hc i pins s σ H E I hf st hg;subst hP hw hK;obtain⟨xs,x,hq,hx⟩:=hg;obtain⟨its,rv,p,hz⟩:=I.list hq;obtain⟨u,hu,ru⟩:=rv.get hx;obtain⟨f0,f1,f2,f3,f4,f5⟩:=hf it (by simp);refine wpAny_pyNext_list_item st p.isList (x:=u) (by simpa using hu) λh' st' sb=>?_;have I1:Inv X pins σ H {s with heap:=h'}:=I.turned (t':=s.toks) (λb o hb e=>(sb.2 b hb).trans e) f0 f1 f3 f4 f5;obtain⟨o,e,c,d⟩:=id st';exact⟨u,rfl,kW (s:={s with heap:=h'}) e c d (by decide) ⟨x,H,I1,ru,⟨rfl,λys hy=>by rw[I.list_inj hy hq];exact hx⟩,st',λb hb=>(hf b hb).1⟩⟩
 done:=by intro X hP hw hK hc i pins s σ H E I hf st hg;subst hP hw hK;obtain⟨xs,hq,hx⟩:=hg;obtain⟨its,rv,p,hz⟩:=I.list hq;obtain⟨f0,f1,f2,f3,f4,f5⟩:=hf it (by simp);have hl:=rv.length;exact wpAny_pyNext_list_end (I.ok.hd hc) st p.isList (by simp;lia) λh' eb=>⟨rfl,I.turned (t':=s.toks) (λb o hb e=>eb b o hb e) f0 f1 f3 f4 f5⟩
 self:=λ_ _ _ _ _ st h=>wpAny_pyIter_listiter st h
theorem kh5(a it:BJ):Turn P w K tg (Itt K a) [it] it (λi h=>h.IsTupleIter it a i) where
 mem:=by simp
 obj:=λi h st b hb=>by
  have e:b=it:=by simpa using hb
  subst e;obtain⟨o,e,c,d⟩:=st;simp_all
 keep:=λi h h' st k=>st.at λo e=>k it (by simp) o e
 item:=by intro X hP hw hK hc i pins s σ H E I hf st hg;subst hP hw hK;obtain⟨xs,x,hq,hx⟩:=hg;obtain⟨its,rv,p,hz⟩:=I.tuple hq;obtain⟨u,hu,ru⟩:=rv.get hx;obtain⟨f0,f1,f2,f3,f4,f5⟩:=hf it (by simp);refine wpAny_pyNext_tuple_item st (show s.heap.IsTuple a its.toArray from p) (x:=u) (by simpa using hu) λh' st' sb=>?_;have I1:Inv X pins σ H {s with heap:=h'}:=I.turned (t':=s.toks) (λb o hb e=>(sb.2 b hb).trans e) f0 f1 f3 f4 f5;obtain⟨o,e,c,d⟩:=id st';exact⟨u,rfl,kW (s:={s with heap:=h'}) e c d (by decide) ⟨x,H,I1,ru,⟨rfl,λys hy=>by rw[I.tuple_inj hy hq];exact hx⟩,st',λb hb=>(hf b hb).1⟩⟩
 done:=by intro X hP hw hK hc i pins s σ H E I hf st hg;subst hP hw hK;obtain⟨xs,hq,hx⟩:=hg;obtain⟨its,rv,p,hz⟩:=I.tuple hq;obtain⟨f0,f1,f2,f3,f4,f5⟩:=hf it (by simp);have hl:=rv.length;exact wpAny_pyNext_tuple_end (I.ok.hd hc) st (show s.heap.IsTuple a its.toArray from p) (by simp;lia) λh' eb=>⟨rfl,I.turned (t':=s.toks) (λb o hb e=>eb b o hb e) f0 f1 f3 f4 f5⟩
 self:=λ_ _ _ _ _ st h=>wpAny_pyIter_tupleiter st h
theorem kh4(it:BJ)(lo:Int)(n:Nat):Turn P w K tg (Itr lo n) [it] it (λi h=>IsRangeIter h it (lo+(i:Nat) * 1) ((n:Int) - (i:Nat)) 1) where
 mem:=by simp
 obj:=λi h st b hb=>by simp_all
 keep:=λi h h' st k=>k it (by simp) _ st
 item:=by intro X hP hw hK hc i pins s σ H E I hf st hg;subst hP hw hK;obtain⟨f0,f1,f2,f3,f4,f5⟩:=hf it (by simp);have W:=Walks.range (prog:=X.prog) (w:=X.w) (I.ok.hd hc) it lo 1 n;refine W.item i s _ _ hg st λv h' tk hv st' kk=>?_;obtain⟨t,rfl⟩:=hv;have I1:Inv X pins σ H {s with heap:=h',toks:=tk}:=I.turned (λb o hb e=>kk b o (by simpa using hb) e) f0 f1 f3 f4 f5;refine⟨_,rfl,kW (s:={s with heap:=h',toks:=tk}) (n:="range_iterator") st' rfl rfl (by decide) ⟨.int (lo+i),H,I1,⟨t,?_⟩,⟨rfl,rfl⟩,st',λb hb=>(hf b hb).1⟩⟩;rw[aX]
 done:=by intro X hP hw hK hc i pins s σ H E I hf st hg;subst hP hw hK;obtain⟨f0,f1,f2,f3,f4,f5⟩:=hf it (by simp);exact wpAny_pyNext_range_end (I.ok.hd hc) st (by have:n<=i:=hg;lia) λh' eb=>⟨rfl,I.turned (t':=s.toks) (λb o hb e=>eb b o hb e) f0 f1 f3 f4 f5⟩
 self:=λ_ _ _ _ _ st h=>wpAny_pyIter_rangeiter st h
variable {fp:List BJ}
section
variable {tg:B_}
theorem wl4{R:It->Hp->Prop}{c f:Int}{t u v:Tok}{g:Nat}(I:Inv X pins σ H s)(h1:-(2 ^ 62)<=c)(z:c<2 ^ 62)(r:-(2 ^ 62)<=f)(p:f<2 ^ 62)
  (q:R (Itr c (f - c).toNat) H):BL (BV X.prog X.w) X.A (T_ (.ref s.heap.objs.size)) (PIE X pins σ tg R) E {s with heap:=s.heap.push {cls:=.type "range",data:=.fields #[.int c t,.int f u,.int 1 v] },toks:=g}:=by
 refine wpAny_pyIter_range (IsRange.new ..) (dC h1 z r p) ?_;have l:Inv X pins σ H {s with heap:=s.heap.push {cls:=.type "range",data:=.fields #[.int c t,.int f u,.int 1 v] },toks:=g}:=I.kept λb o e=>JK _ e;refine⟨(s.heap.push {cls:=.type "range",data:=.fields #[.int c t,.int f u,.int 1 v] }).objs.size,[(s.heap.push {cls:=.type "range",data:=.fields #[.int c t,.int f u,.int 1 v] }).objs.size],_,_,H,rfl,
  l.kept (t':=g) λb o e=>JK _ e,kh4 _ c (f - c).toNat,?_,λb m=>?_,q⟩
 ·have G:c+((0:Nat):Int) * 1=c:=by simp
  have C:(((f - c).toNat:Nat):Int) - ((0:Nat):Int)=Builtin.Range.rangeSize c f 1:=by rw[rangeSize_one];split<;>lia
  show IsRangeIter _ _ (c+((0:Nat):Int) * 1) ((((f - c).toNat:Nat):Int) - ((0:Nat):Int)) 1;rw[G,C];exact K_ _ rfl
 ·have e:b=(s.heap.push {cls:=.type "range",data:=.fields #[.int c t,.int f u,.int 1 v] }).objs.size:=by simpa using m
  subst e;exact l.fpOk (GX _) (l.hok.fresh (GX _))
def yz4(B:TA):TI:=λσ H R=>B σ H λc f=>∃j:Int,c=[.int j]/\-(2 ^ 62)<=j/\j<2 ^ 62/\R (Itr 0 j.toNat) f
theorem jh9{a:B_}{B:TA}{p:HY}(z:Gl X "range")(m:X.mg "range" = none)(A:PA X [a] B)(hs:BP [a] X.env=[(false,CV a X.env)]:=by rfl):PI X tg (.Call (.Name "range" p) [a] [] pos) (yz4 B):=by
 intro pins s σ H R I h;refine Call_ (Vg I z m bM (PyProof.Rows.callWith_type1 (thG (A pos pins s σ H _ I h) λus J G L C g c=>?_) hs rfl));obtain⟨j,e,c,l,q⟩:=c;subst e;cases g with
 |cons r f=>cases f;obtain⟨t,rfl⟩:=r;exact call_range_1 (wl4 C (by lia) (by lia) c l (by simpa using q))
def zp0(p:TI)(g:TG)(tb:TS):TS:=λD σ H=>p σ H λJ z=>∃W:Nat->Nat->St->Hp->Prop,(∃m,W 0 m σ z)/\∀i m σ H,W i m σ H ->
 (J.stop i H/\D.nx σ H)\/(J.go i H/\∃N:St->Hp->Prop,(∀c H',N c H'->∃l,l<m/\W (i+1) l c H')/\∀x H',J.yld i H x H'->g x σ H' λf r=>tb {D with nx:=N,ct:=N,bk:=D.nx} f r)
def Vn(fp:List BJ)(h:CP):List (BJ×GR):=fp.filterMap λb=>(h.get? b).map λo=>(b,o)
def Hf{b:BJ}{o:GR}(c:b∈fp)(e:h.get? b=some o):(b,o)∈Vn fp h:=jGp.mpr ⟨b,c,by rw[e];rfl⟩
theorem kv0{p:BJ×GR}(c:p∈Vn fp h):p.1∈fp/\h.get? p.1=some p.2:=by
 obtain⟨b,f,e⟩:=jGp.mp c;cases q:h.get? b with
 |none=>rw[q]at e;cases e
 |some o=>grind
theorem Inv.pinned(I:Inv X pins σ H s)(l:∀b∈fp,Q5 X pins H b)(g:∀b∈fp,∃o,s.heap.get? b=some o/\∀v,o.data≠.cell v):Inv X (pins++Vn fp s.heap) σ H s:=
 I.pins_of λp f=>(S_.mp f).elim (λz=>I.pin p (UJ _ z)) λz=>by obtain⟨c,e⟩:=kv0 z;obtain⟨f0,r,m,_⟩:=l p.1 c;obtain⟨o,A,d⟩:=g p.1 c;simp_all
def Inv.unpinned{pl:List (BJ×GR)}(I:Inv X (pins++pl) σ H s):Inv X pins σ H s:=I.pins_of λp c=>I.pin p (UJ _ (jC _ c))
def nn0{p:Prop}(h:(p->False)->False):p:=uQ h
inductive LpI(X:Cx)(pins:List (BJ×GR))(tn:Nat->CP->Prop)(fp:List BJ)(W:Nat->Nat->St->Hp->Prop)(n:Nat)(s:BK):Prop
 |mk (i:Nat) (σ:St) (H:Hp) (I:Inv X pins σ H s) (st:tn i s.heap) (fr:∀b∈fp,H b=none) (w:W i n σ H):LpI X pins tn fp W n s
def yq1{iter:B_}{wi:TI}{g:TG}{tb:TS}(hp:WY (BV X.prog X.w) X.A X.env X.xe)(hc:X.calm=true)(hi:PI X tg iter wi)(hg:PG X tg g)(z:PSs X F tb)
  (hs:∀x,E_ iter X.env x=pure x:=by intro _;rfl):PS X (.For tg iter F [] pos) (zp0 wi g tb):=by
 intro pins s σ H D I h;refine wpAny_For (thn (hi pins s σ H _ I h) λv s1 h1=>thn h1 λaf s2 h2=>?_) hs;refine nn0 λL=>?_;obtain⟨it,fp,tn,J,H2,e,I2,T,Y,f2,W,⟨m0,w0⟩,turn⟩:=h2;subst e;refine L (codeAny_forLoop_any (LpI X pins tn fp W) ?_ m0 (.mk 0 σ H2 I2 Y (λb z=>(f2 b z).1) w0));clear L;have p:∀{H':Hp},(∀b∈fp,H' b=none)->∀b∈fp,Q5 X pins H' b:=λhn b z=>⟨hn b z,(f2 b z).2⟩;clear f2 I2 Y w0 h;intro n s3 q;refine nn0 λL=>?_;obtain⟨i,l,H3,I3,U,aa,w3⟩:=q;rcases turn i n l H3 w3 with ⟨stop,qn⟩ | ⟨go,N,hN,step⟩
 ·refine L (HQ hp (thn (T.done X rfl rfl rfl hc i pins s3 l H3 X.xe I3 (p aa) U stop) λr s4 q=>?_));obtain⟨rfl,I4⟩:=q;exact NT ⟨l,H3,I4,qn⟩
 ·refine L (HQ hp (thn (T.item X rfl rfl rfl hc i pins s3 l H3 X.xe I3 (p aa) U go) λr s4 q=>?_));clear L;obtain⟨u,rfl,h4⟩:=q;refine HQ hp (thn h4 λ_ s5 q=>?_);refine nn0 λL=>?_;obtain⟨x,H5,I5,r5,y5,O,ae⟩:=q;refine L (HQ hp (thn (hg _ s5 l H5 x u _ (I5.pinned (p ae) (T.obj _ _ O)) r5 (step x H5 y5)) λ_ s6 q=>?_));clear L;obtain⟨ab,H6,I6,q6⟩:=q;refine HQ hp (thn (z _ s6 ab H6 _ I6 q6) λf s7 M=>?_);clear I6 q6 I5 y5 step w3 I3 go;have again:∀{c:St}{G:Hp},Inv X (pins++Vn fp s5.heap) c G s7->N c G->∃m,m<n/\LpI X pins tn fp W m s7:=λ{c G} C Z=>by obtain⟨m',hm,w7⟩:=hN c G Z;refine⟨m',hm,.mk (i+1) c G C.unpinned (T.keep _ _ _ O λb z o e=>(C.pin (b,o) (UJ _ (UJ _ (Hf z e)))).1) (λb z=>?_) w7⟩;obtain⟨o,e,d⟩:=T.obj _ _ O b z;exact(C.pin (b,o) (UJ _ (UJ _ (Hf z e)))).2.1
  cases f with
  |next=>obtain⟨c,G,C,Z⟩:=M;exact again C Z
  |cont=>obtain⟨c,G,C,Z⟩:=M;exact again C Z
  |brk=>obtain⟨c,G,C,M⟩:=M;exact⟨c,G,C.unpinned,M⟩
  |ret v=>obtain⟨x7,c,G,C,r7,M⟩:=M;exact⟨x7,c,G,C.unpinned,r7,M⟩
end
abbrev R2:=V->V->Hp->VK->Prop
def OpR(X:Cx)(f:A_->A_->Sem A_)(r:R2):Prop:=
 ∀(pins:List (BJ×GR))(s:BK)(σ:St)(H:Hp)(x y:V)(v u:A_)(Q:VK),Inv X pins σ H s->RelV x v->RelV y u->r x y H Q ->
  BL (BV X.prog X.w) X.A (f v u) (EP X pins σ Q) X.xe s
def UnR(X:Cx)(f:A_->Sem A_)(r:V->Hp->VK->Prop):Prop:=
 ∀(pins:List (BJ×GR))(s:BK)(σ:St)(H:Hp)(x:V)(v:A_)(Q:VK),Inv X pins σ H s->RelV x v->r x H Q ->
  BL (BV X.prog X.w) X.A (f v) (EP X pins σ Q) X.xe s
def Dh(X:Cx)(f:A_)(r:List V->Hp->VK->Prop):Prop:=
 ∀(pins:List (BJ×GR))(s:BK)(σ:St)(H:Hp)(xs:List V)(us:List A_)(Q:VK),Inv X pins σ H s->Vals xs us->r xs H Q ->
  BL (BV X.prog X.w) X.A (call f us) (EP X pins σ Q) X.xe s
def zj0(X:Cx)(r:V->Hp->(Bool->Hp->Prop)->Prop):Prop:=
 ∀(pins:List (BJ×GR))(s:BK)(σ:St)(H:Hp)(x:V)(v:A_)(Q:Bool->Hp->Prop),Inv X pins σ H s->RelV x v->r x H Q ->
  BL (BV X.prog X.w) X.A (truthy v) (TP X pins σ Q) X.xe s
def tOp(r:R2)(B tb:TE):TE:=λσ H Q=>B σ H λx f=>tb σ f λy c=>r x y c Q
def tUn(r:V->Hp->VK->Prop)(B:TE):TE:=λσ H Q=>B σ H λx c=>r x c Q
def rI(C:Int->Int->Prop)(g:Int->Int->V):R2:=λx y H Q=>∃i j,x=.int i/\y=.int j/\C i j/\Q (g i j) H
def rI0(g:Int->Int->V):R2:=λx y H Q=>∃i j,x=.int i/\y=.int j/\Q (g i j) H
def rU(g:Int->V):V->Hp->VK->Prop:=λx H Q=>∃i,x=.int i/\Q (g i) H
variable {c:B_}{J:TE}
variable {g:Int->Int->Int}{r:R2}
section
variable {a:B_}{tb:TE}
def oU(Z:PE X a B)(Y:PE X b tb){R:V->V->Hp->Prop}(I:Inv X pins σ H s)
  (h:B σ H λx C=>tb σ C λy l=>R x y l){f:A_->A_->Sem A_}
  (U:∀v u z x y l,Inv X pins σ l z->RelV x v->RelV y u->R x y l->BL (BV X.prog X.w) X.A (f v u) Q X.xe z):
  BL (BV X.prog X.w) X.A (CV a X.env) (λv p=>BL (BV X.prog X.w) X.A (CV b X.env) (λu m=>BL (BV X.prog X.w) X.A (f v u) Q X.xe m) X.xe p) X.xe s:=by
 refine thG (Z pins s σ H _ I h) λv G x C I1 M T=>?_;refine thG (Y pins G σ C _ I1 T) λu z y l I2 L O=>?_;exact U v u z x y l I2 M L O
def zd4{f:nR}(z:OpR X (FZ f) r)(C:PE X a B)(A:PE X b tb):PE X (.BinOp a f b pos) (tOp r B tb):=by intro pins s σ H Q I h;exact wpAny_BinOp (oU C A I h λv u l x y L G p m q=>z pins l σ L x y v u Q G p m q)
def zd6{f:UnaryOp}{r:V->Hp->VK->Prop}(z:UnR X (bT f) r)(A:PE X a B):PE X (.UnaryOp f a pos) (tUn r B):=by intro pins s σ H Q I h;exact UnaryOp_ (thG (A pins s σ H _ I h) λv l x G C m p=>z pins l σ G x v Q C m p)
def opI{f:A_->A_->Sem A_}{C:Int->Int->Prop}
  (rule:∀(i j:Int)(t u:Tok)(s:BK)(Q:A_->BK->Prop)(E:A_->BK->Prop),C i j->Q (.int (g i j) s.toks) {s with toks:=s.toks+1}->BL (BV X.prog X.w) X.A (f (.int i t) (.int j u)) Q E s):
  OpR X f (rI C λi j=>.int (g i j)):=by
 intro pins s σ H x y v u Q I m l h;obtain⟨i,j,rfl,rfl,p,q⟩:=h;obtain⟨t,rfl⟩:=m;obtain⟨t',rfl⟩:=l;exact rule i j t t' s _ _ p ⟨.int (g i j),H,I.tok _,⟨_,rfl⟩,q⟩
def uZ{f:A_->A_->Sem A_}
  (rule:∀(i j:Int)(t u:Tok)(s:BK)(Q:A_->BK->Prop)(E:A_->BK->Prop),Q (.int (g i j) s.toks) {s with toks:=s.toks+1}->BL (BV X.prog X.w) X.A (f (.int i t) (.int j u)) Q E s):
  OpR X f (rI0 λi j=>.int (g i j)):=by
 intro pins s σ H x y v u Q I m l h;obtain⟨i,j,rfl,rfl,q⟩:=h;obtain⟨t,rfl⟩:=m;obtain⟨t',rfl⟩:=l;exact rule i j t t' s _ _ ⟨.int (g i j),H,I.tok _,⟨_,rfl⟩,q⟩
def jH{f:A_->A_->Sem A_}{g:Int->Int->Bool}
  (rule:∀(i j:Int)(t u:Tok)(s:BK)(Q:A_->BK->Prop)(E:A_->BK->Prop),Q (.bool (g i j)) s->BL (BV X.prog X.w) X.A (f (.int i t) (.int j u)) Q E s):
  OpR X f (rI0 λi j=>.bl (g i j)):=by
 intro pins s σ H x y v u Q I m l h;obtain⟨i,j,rfl,rfl,q⟩:=h;obtain⟨t,rfl⟩:=m;obtain⟨t',rfl⟩:=l;exact rule i j t t' s _ _ ⟨.bl (g i j),H,I,rfl,q⟩
def zi8(i j:Int):Prop:=0<=j/\j<=1000000/\i.natAbs<2 ^ 64
def yo7:OpR X (FZ .Add) (rI0 λi j=>.int (i+j)):=uZ λ_ _ _ _ _ _ _ q=>add_int q
def yp0:OpR X (FZ .Sub) (rI0 λi j=>.int (i - j)):=uZ λ_ _ _ _ _ _ _ q=>sub_int q
theorem yo8:OpR X (FZ .Mod) (rI (λ_ j=>0<j) λi j=>.int (i % j)):=opI λi j _ _ _ _ _ f q=>by have l:(0:Int)<j:=f;exact mod_int' (by lia) (by rw[Int.fmod_eq_emod_of_nonneg i (by lia)];exact q)
def yo9:OpR X (FZ .Pow) (rI zi8 λi j=>.int (i ^ j.toNat)):=opI λ_ _ _ _ _ _ _ f q=>pow_int_small f.1 f.2.1 f.2.2 q
def unI{f:A_->Sem A_}{g:Int->Int}
  (rule:∀(i:Int)(t:Tok)(s:BK)(Q:A_->BK->Prop)(E:A_->BK->Prop),Q (.int (g i) s.toks) {s with toks:=s.toks+1}->BL (BV X.prog X.w) X.A (f (.int i t)) Q E s):
  UnR X f (rU λi=>.int (g i)):=by
 intro pins s σ H x v Q I l h;obtain⟨i,rfl,q⟩:=h;obtain⟨t,rfl⟩:=l;exact rule i t s _ _ ⟨.int (g i),H,I.tok _,⟨_,rfl⟩,q⟩
def yu2:UnR X (bT .USub) (rU λi=>.int (-i)):=unI λ_ _ _ _ _ q=>neg_int q
end
variable {G:R2}
section
variable {a:B_}{tb:TE}
def yl0{Q:VK}{k f:Bool}(I:Inv X pins σ H s)(q:Q (.bl k) H)(e:k=f):EP X pins σ Q (.bool f) s:=by subst e;exact⟨.bl k,H,I,rfl,q⟩
def zd0:OpR X (CN .Lt) (rI0 λi j=>.bl (decide (i<j))):=jH λ_ _ _ _ _ _ _ q=>lt_int q
def zc9:OpR X (CN .LtE) (rI0 λi j=>.bl (decide (i<=j))):=jH λ_ _ _ _ _ _ _ q=>le_int q
def zc8:OpR X (CN .Gt) (rI0 λi j=>.bl (decide (j<i))):=jH λ_ _ _ _ _ _ _ q=>gt_int q
def zc7:OpR X (CN .GtE) (rI0 λi j=>.bl (decide (j<=i))):=jH λ_ _ _ _ _ _ _ q=>ge_int q
def kv1:OpR X (CN .In) (λx y H Q=>∃i j,x=.str i/\y=.str j/\Q (.bl (!(Builtin.Str.occurrences j i 0 j.length 1).isEmpty)) H):=by intro pins s σ H x y v u Q I l f h;obtain⟨i,j,rfl,rfl,q⟩:=h;obtain⟨t,rfl⟩:=l;obtain⟨t',rfl⟩:=f;exact in_str (yl0 I q rfl)
def Nh(b:B_){f:O_}(h:f≠.In:=by decide)(l:f≠.NotIn:=by decide):FP f b=false:=by
 have p:(f == CmpOp.In)=false:=by cases f<;>first |rfl |exact absurd rfl h
 have m:(f == CmpOp.NotIn)=false:=by cases f<;>first |rfl |exact absurd rfl l
 cases b<;>simp[FP,p,m]
def wy9{f:O_}(z:OpR X (CN f) r)(L:PE X a B)(C:PE X b tb)(A:FP f b=false):PE X (.Compare a [f] [b] pos) (tOp r B tb):=by intro pins s σ H Q I h;exact wpAny_Compare1 (oU L C I h λv u l x y O M p m q=>z pins l σ O x y v u Q M p m q) A
def vU(t:TE):TT:=λσ H Q=>t σ H λx H'=>∃k,x=.bl k/\Q k H'
def rG{f:O_}(T:OpR X (CN f) r)(Z:PE X a B)(Y:PE X b tb)(U:FP f b=false):PT X (.Compare a [f] [b] pos) (vU (tOp r B tb)):=by
 intro pins s σ H Q I h;refine YH (thG (Z pins s σ H _ I h) λv m x H1 I1 C O=>thn (Y pins m σ H1 _ I1 O) λu l ⟨y,H2,I2,A,M⟩ =>
  thn (T pins l σ H2 x y v u _ I2 C A M) λc s3 ⟨z,H3,I3,p,k,e,L⟩=>?_) U
 subst e;cases p;exact DR ⟨H3,I3,L⟩
def pU(r G:R2)(B tb J:TE):TE:=λσ H Q=>B σ H λx A=>tb σ A λy p=>r x y p λz f=>∃k,z=.bl k /\
 (if k=true then J σ f λl m=>G y l m Q else Q (.bl false) f)
def wj8{l f:O_}(ho:OpR X (CN l) r)(m:OpR X (CN f) G)(ha:PE X a B)(hb:PE X b tb)(hc:PE X c J)
  (hm:P_ [l,f] [b,c]=false:=by with_unfolding_all rfl):PE X (.Compare a [l,f] [b,c] pos) (pU r G B tb J):=by
 intro pins s σ H Q I h;refine Compare_chain (thG (ha pins s σ H _ I h) λv Z x H1 I1 r1 q1=>bL (thn (hb pins Z σ H1 _ I1 q1) λu Y ⟨y,H2,I2,p,q2⟩ =>
  thn (ho pins Y σ H2 x y v u _ I2 r1 p q2) λd U ⟨z,L,C,r3,k,e,A⟩=>?_)) hm
 subst e;cases r3;refine DR ?_;cases k with
 |false=>exact nF ⟨.bl false,L,C,rfl,A⟩
 |true=>exact nD (chain_last (thG (hc pins U σ L _ C A) λO T M H4 I4 r4 q4=>m pins T σ H4 y M u O Q I4 p r4 q4))
def wl0{m l:O_}(ho:OpR X (CN m) r)(p:OpR X (CN l) G)(ha:PE X a B)(hb:PE X b tb)(hc:PE X c J)
  (hm:P_ [m,l] [b,c]=false:=by with_unfolding_all rfl):PT X (.Compare a [m,l] [b,c] pos) (vU (pU r G B tb J)):=by
 intro pins s σ H Q I h;refine isTrue_chain (thG (ha pins s σ H _ I h) λv s1 x H1 I1 r1 q1=>test_link (thn (hb pins s1 σ H1 _ I1 q1) λu Z ⟨y,H2,I2,A,q2⟩ =>
  thn (ho pins Z σ H2 x y v u _ I2 r1 A q2) λd Y ⟨z,M,L,r3,k,e,C⟩=>?_)) hm
 subst e;cases r3;refine DR ?_;cases k with
 |false=>obtain⟨k',e',q'⟩:=C;cases e';exact nF ⟨M,L,q'⟩
 |true=>refine nD (test_last (thG (hc pins Y σ M _ L C) λT U O H4 I4 r4 q4=>thG (p pins U σ H4 y O u T _ I4 A r4 q4) λd' s5 z2 H5 I5 r5 f=>?_));obtain⟨k2,e2,q5⟩:=f;subst e2;cases r5;exact DR ⟨H5,I5,q5⟩
def vO(K:BZ)(x:V)(H:Hp)(k:Bool):Prop:=
 match x with
 | .non=>k=false
 | .bl b=>k=b
 | .int i=>k=(i != 0)
 | .str y=>y.length<=sizeLine/\k=((y.length:Int) != 0)
 | .byt y=>y.size<=sizeLine/\k=((y.size:Int) != 0)
 | .ref p=>(∃xs,SqL K H p xs/\k = !xs.isEmpty)\/(∃xs,SqT K H p xs/\k = !xs.isEmpty)\/∃f,H p=some (.dK f)/\k = !f.isEmpty
 |_=>False
def kd0{l:Type}{f:List (l×V)}{vs:List (l×A_)}(r:KV f vs):(!vs.isEmpty) = !f.isEmpty:=by cases r<;>rfl
def Zm{its:List A_}(r:Vals xs its):(!its.toArray.isEmpty) = !xs.isEmpty:=by cases r<;>simp
def Vi:(sizeLine:Nat)<2 ^ 63:=by rw[CG];decide
theorem yt6:zj0 X (λx H Q=>∃k,vO X.K x H k/\Q k H):=by
 intro pins s σ H x v Q I A h;obtain⟨k,e,q⟩:=h;have Z:=Vi;have Y:sizeLine=16777216:=CG;cases x with
 |non=>cases A;have f:k=false:=e;subst f;exact truthy_none ⟨H,I,q⟩
 |bl b=>cases A;have f:k=b:=e;subst f;exact DR ⟨H,I,q⟩
 |int i=>obtain⟨t,rfl⟩:=A;have f:k=(i != 0):=e;subst f;exact PySem.P.truthy_int ⟨H,I,q⟩
 |str y=>obtain⟨t,rfl⟩:=A;obtain⟨T,f⟩:y.length<=sizeLine/\k=((y.length:Int) != 0):=e;subst f;exact PySem.P.truthy_str (by lia) ⟨H,I.tok _,q⟩
 |byt y=>obtain⟨t,rfl⟩:=A;obtain⟨T,f⟩:y.size<=sizeLine/\k=((y.size:Int) != 0):=e;subst f;exact W.truthy_bytes (by lia) ⟨H,I.tok _,q⟩
 |ref p =>
  cases A;have f:(∃xs,SqL X.K H p xs/\k = !xs.isEmpty)\/(∃xs,SqT X.K H p xs/\k = !xs.isEmpty)\/∃l,H p=some (.dK l)/\k = !l.isEmpty:=e;rcases f with ⟨xs,C,f⟩ | ⟨xs,C,f⟩ | ⟨l,C,f⟩
  ·subst f;obtain⟨M,r,pl,O⟩:=I.list C;have z:=r.length;exact wpAny_truthy_list pl.isList (by simp only[MK];lia) ⟨H,I.tok _,by rw[Zm r];exact q⟩
  ·subst f;obtain⟨M,r,pl,O⟩:=I.tuple C;have z:=r.length;exact truthy_tuple pl (by simp only[MK];lia) ⟨H,I.tok _,by rw[Zm r];exact q⟩
  ·subst f;obtain⟨O,U,L,r,m⟩:l.length<=sizeLine/\(p == FQ)=false/\∃L,KV l L/\s.heap.DictOf (Bv X.prog X.w) p L:=I.hok p _ C;have z:l.length=L.length:=Paired.length r;exact wpAny_truthy_dict U m (by lia) ⟨H,I.tok _,by rw[kd0 r];exact q⟩
 |_=>exact(show False from e).elim
def wl2(z:PE X a B)(p:∀whole,XX a X.env whole=(do let v <-whole;SN a.pos;QV [v] (truthy v))):
  PT X a (λσ H Q=>B σ H λx H'=>∃k,vO X.K x H' k/\Q k H'):=by
 intro pins s σ H Q I h;exact isTrue_plain (thG (z pins s σ H _ I h) λv f x C A l m=>yt6 pins f σ C x v Q A l m) (p _)
def kf2:OpR X (FZ .Add) (λx y H Q=>∃i j,x=.str i/\y=.str j/\i.length+j.length<=sizeLine/\Q (.str (i++j)) H):=by intro pins s σ H x y v u Q I l f h;obtain⟨i,j,rfl,rfl,m,q⟩:=h;obtain⟨t,rfl⟩:=l;obtain⟨t',rfl⟩:=f;exact add_str (λt' p=>⟨.str (i++j),H,I.tok _,⟨_,rfl⟩,q⟩) m
def vals1{x:V}(r:Vals [x] us):∃u,us=[u]/\RelV x u:=by
 cases r with
 |cons l f=>cases f;exact⟨_,rfl,l⟩
def vals2{x:V}(r:Vals [x,y] us):∃u f,us=[u,f]/\RelV x u/\RelV y f:=by
 cases r with
 |cons z p =>
  cases p with
  |cons m l=>cases l;exact⟨_,_,rfl,z,m⟩
def kq2(l:X.calm=true):Dh X (.builtin "max") (λxs H Q=>∃i j,xs=[.int i,.int j]/\Q (.int (if j>i then j else i)) H):=by
 intro pins s σ H xs us Q I r h;obtain⟨i,j,rfl,q⟩:=h;obtain⟨u,m,rfl,⟨t,rfl⟩,⟨t',rfl⟩⟩:=vals2 r;refine max_two_ints (I.ok.hd l) λh' p k=>⟨_,H,I.kept k,?_,q⟩;by_cases f:j>i
 ·rw[if_pos f,if_pos f];exact⟨_,rfl⟩
 ·rw[if_neg f,if_neg f];exact⟨_,rfl⟩
def kq3(l:X.calm=true):Dh X (.builtin "min") (λxs H Q=>∃i j,xs=[.int i,.int j]/\Q (.int (if j<i then j else i)) H):=by
 intro pins s σ H xs us Q I r h;obtain⟨i,j,rfl,q⟩:=h;obtain⟨u,m,rfl,⟨t,rfl⟩,⟨t',rfl⟩⟩:=vals2 r;refine min_two_ints (I.ok.hd l) λh' p k=>⟨_,H,I.kept k,?_,q⟩;by_cases f:j<i
 ·rw[if_pos f,if_pos f];exact⟨_,rfl⟩
 ·rw[if_neg f,if_neg f];exact⟨_,rfl⟩
def jl2:Dh X (.type "str") (λxs H Q=>∃i,xs=[.int i]/\i.natAbs.log2<1920/\Q (.str (toString i)) H):=by intro pins s σ H xs us Q I r h;obtain⟨i,rfl,f,q⟩:=h;obtain⟨u,rfl,t,rfl⟩:=vals1 r;exact PySem.P.str_of_int f ⟨.str _,H,I.tok _,⟨_,rfl⟩,q⟩
end
structure cC(h:CP)(x dx C:BJ)(mA:BR->Option A_):Prop where
 obj:h.get? x=some (W.instObj C dx)
 ns:h.Ns1 dx mA
 ne:dx≠x
variable {mA:BR->Option A_}
theorem ku2{m:BJ}(n:h.Ns1 m mA):∃l,h.get? m=some l/\∀name,W.lookIn name l=some (mA name):=by
 obtain⟨o,M,O,A,L,I,_,C⟩:=n;refine⟨o,A,λname=>?_⟩;have e:=C name;unfold nsFind findBy at e;rw[<-Array.find?_toList]at e;unfold W.lookIn;rw[L];dsimp only;split
 ·simp_all
 ·rename_i q;rw[q]at e;have a:M.toList.any (·.refKey)=false:=by rw[jGr];intro y p;obtain⟨z,t,f⟩:=I y (Array.mem_toList_iff.mp p);simp[DictEntry.refKey,f]
  simp_all
def cC.look{l C:BJ}(I:cC h x l C mA):∃f,W.InstAt h x (W.instObj C l) C (some f)/\∀name,W.lookIn name f=some (mA name):=
 let ⟨f,m,p⟩:=ku2 I.ns
 ⟨f,⟨I.obj,rfl,rfl,m⟩,p⟩
variable {C dx f:BJ}{A:D_}
variable {I:List (BR×A_)}
section
variable {prog:BW}{K:BZ}{mA:BR->Option A_}{name:BR}{v:A_}
def get_map{expr:Bool}(X:K.In s.heap)(I:cC s.heap x dx C mA)(L:W.plainGet K C name=true)(z:W.hasDictIn K C=true)
  (M:W.findIn K (.ref C) name=some none)(m:mA name=some v)(l:W.handedIn v=true)(h:Q v {s with toks:=s.toks+1}):
  BL (BV prog w) A (getAttr (.ref x) name expr) Q E s:=by
 obtain⟨O,J,p⟩:=I.look;exact W.get_value X J (W.plainGet_of L).1 (W.findObj_own z M rfl (by rw[p,m])) l h
def we3{pl:Sem Bool}{Q:A_×List A_->BK->Prop}(X:K.In s.heap)(I:cC s.heap x dx C mA)(l:W.plainGet K C name=true)
  (M:W.findIn K (.ref C) name=some (some (.ref f)))(z:W.isFn K (.ref f)=true)(p:mA name=none)(h:Q (.ref f,[.ref x]) s):
  BL (BV prog w) A (QB (.ref x) name pl) Q E s:=by
 obtain⟨m,J,L⟩:=I.look;exact W.method_fn X J (W.plainGet_of l).1 (W.plainGet_of l).2 M (beq_iff_eq.mp z) (by show(W.lookIn name m).map (·.isSome)=some false;rw[L,p];rfl) h
theorem yb3{ns:List BR}{Q:Unit->BK->Prop}(X:K.In s.heap)(I:cC s.heap x dx C mA)
  (hs:W.findIn K (.ref C) "__setattr__" = some (some (.builtin "object.__setattr__")))(Y:W.plainOver K C=true)(U:W.takerIn K C name=some none)(Z:W.hasDictIn K C=true)
  (T:PySem.Within mA ns)(hsz:ns.length<=sizeLine)
  (h:∀h',cC h' x dx C (λy=>if y=name then some v else mA y)->Heap.SameBut dx s.heap h'->Q () {s with heap:=h',toks:=s.toks+2}):
  BL (BV prog w) A (setAttr (.ref x) name v) Q E s:=by
 obtain⟨od,J,hl⟩:=I.look;refine W.set_plain X J hs (W.osa_open (s:={s with toks:=s.toks+1}) (r:=none) X J Y U λb=>?_);obtain⟨cd,hc,L⟩:=W.any_some Z;have O:s.heap.get? x=some ⟨.ref C,some dx,.plain,#[]⟩:=I.obj;refine BX (EY (BX (BX (wpAny_loadPart O (BX (W.Looks.here (s:={s with toks:=s.toks+1}) (W.looks_clsIn X hc) ?_))))));rw[L];refine EY (a:=some dx) (BX (EY (BX ?_)));refine wpAny_nsSet1 (s:={s with toks:=s.toks+1}) I.ns λh' m l=>?_;obtain⟨oD,aa,ab,p,z,M⟩:=m.count (PySem.Within.cons name v T);refine BX (wpAny_lookBehind p (by rw[z];exact pastItsLine_dict (QG M (by rw[PQ];lia))) ?_);exact EY (h _ ⟨(l.2 _ (Ne.symm I.ne)).trans I.obj,m,I.ne⟩ l)
def wh8{R:YG->BK->Prop}{vs:List A_}(X:K.In s.heap)(l:W.makesIn K C=true)
  (m:W.findIn K (.ref C) "__init__" = some (some (.ref f)))(p:W.typeIn K (.ref f)=some (.type "function"))
  (h:JS (BV prog w) (A.under (.builtin "type.__call__" ⟨.ref C::vs,I⟩)) (.call (.ref f) ⟨.ref (s.heap.objs.size+1)::vs,I⟩) (W.InitBack (s.heap.objs.size+1) R)
   {s with heap:=(s.heap.push W.emptyDict).push (W.instObj C s.heap.objs.size)}):
  JS (BV prog w) A (.call (.ref C) ⟨vs,I⟩) R s:=by
 obtain⟨L,g,d,t,z⟩:=s;exact W.make_core (W.makes_of X l) (W.looks_findIn X m) (λself=>W.bind_fn X self p) (.inl rfl) h
end
def Q6(f:BR)(v:V):List (BR×V)->List (BR×V)
 | []=>[(f,v)]
 | (g,x)::r=>if g=f then(g,v)::r else(g,x)::Q6 f v r
theorem Wm(f g:BR)(v:V):∀l:List (BR×V),(Q6 f v l).lookup g=if g=f then some v else l.lookup g
 | []=>by show List.lookup g [(f,v)]=_;grind
 | (k,x)::r=>by have m:=Wm f g v r;rw[show Q6 f v ((k,x)::r)=(if k=f then(k,v)::r else(k,x)::Q6 f v r) from rfl];grind
theorem Ve(f:BR)(v:V):∀l:List (BR×V),f∈(Q6 f v l).map (·.1)/\∀g,g∈l.map (·.1)->g∈(Q6 f v l).map (·.1)
 | []=>⟨by simp[Q6],λg h=>by simp at h⟩
 | (k,x)::r=>by obtain⟨p,m⟩:=Ve f v r;rw[show Q6 f v ((k,x)::r)=(if k=f then(k,v)::r else(k,x)::Q6 f v r) from rfl];grind
theorem Wk(f:BR)(v:V):∀l:List (BR×V),(Q6 f v l).length<=l.length+1
 | []=>by simp[Q6]
 | (k,x)::r=>by have m:=Wk f v r;rw[show Q6 f v ((k,x)::r)=(if k=f then(k,v)::r else(k,x)::Q6 f v r) from rfl];grind
def Oh.some_of{o:Option A_}(r:Oh (some v) o):∃u,o=some u/\RelV v u:=by
 cases o with
 |none=>exact(show False from r).elim
 |some u=>exact⟨u,rfl,r⟩
def Oh.none_of{o:Option A_}(r:Oh none o):o=none:=by
 cases o with
 |none=>rfl
 |some u=>exact(show False from r).elim
def kr8(r:RelV v u):W.handedIn u=true:=by
 cases v with
 |non=>cases(show u=Value.none from r);rfl
 |bl b=>cases(show u=Value.bool b from r);rfl
 |int i=>obtain⟨t,e⟩:=(show ∃t,u=Value.int i t from r);cases e;rfl
 |str x=>obtain⟨t,e⟩:=(show ∃t,u=Value.str x t from r);cases e;rfl
 |byt b=>obtain⟨t,e⟩:=(show ∃t,u=Value.bytes b t from r);cases e;rfl
 |flt b=>obtain⟨t,e⟩:=(show ∃t,u=Value.float b t from r);cases e;rfl
 |ref a=>cases(show u=Value.ref a from r);rfl
 |ty n=>cases(show u=Value.type n from r);rfl
section
variable {fs l:List (BR×V)}
def rR(m:HOk P w H h)(e:H a=some (.ins C dx fs)):∃mA,cC h a dx C mA/\(∀f,Oh (fs.lookup f) (mA f))/\PySem.Within mA (fs.map (·.1))/\fs.length<=1000/\H dx=some (.own a):=by obtain⟨d,z,ne,p,mA,n,r,q⟩:=(show Cg P w H h a (.ins C dx fs) from m a _ e);exact⟨mA,⟨p,n,ne⟩,r,q,z,d⟩
end
structure Cls(K:BZ)(C:BJ):Prop where
 pg:W.plainGet K C Str.empty=true
 hd:W.hasDictIn K C=true
 po:W.plainOver K C=true
 sa:W.findIn K (.ref C) "__setattr__" = some (some (.builtin "object.__setattr__"))
def Cls.get(c:Cls K C)(f:BR):W.plainGet K C f=true:=c.pg
def Rx(K:BZ)(C:BJ)(f:BR):Prop:=W.findIn K (.ref C) f=some none
def Rx.taker{f:BR}(n:Rx K C f):W.takerIn K C f=some none:=by unfold W.takerIn;rw[show W.findIn K (.ref C) f=some none from n];rfl
structure Meth(K:BZ)(C:BJ)(m:BR)(f:BJ):Prop where
 at_:W.findIn K (.ref C) m=some (some (.ref f))
 fn:W.isFn K (.ref f)=true
 kp:W.keepIn K (.ref f)=true
section
variable {fs:List (BR×V)}{f:BR}{v:V}
def kc6{b:Bool}(I:Inv X pins σ H s)(e:H a=some (.ins C dx fs))(c:Cls X.K C)(n:Rx X.K C f)(l:fs.lookup f=some v)
  (h:∀u s',Inv X pins σ H s'->RelV v u->Q u s'):BL (BV X.prog X.w) A (getAttr (.ref a) f b) Q E s:=by
 obtain⟨mA,O,r,_,_,_⟩:=rR I.hok e;obtain⟨u,p,m⟩:=Oh.some_of (v:=v) (o:=mA f) (by rw[<-l];exact r f);exact get_map I.QZ O (c.get f) c.hd n p (kr8 m) (h u _ (I.tok _) m)
def kc7{m:BR}{g:BJ}{pl:Sem Bool}{Q:A_×List A_->BK->Prop}(I:Inv X pins σ H s)(e:H a=some (.ins C dx fs))(c:Cls X.K C)(k:Meth X.K C m g)(l:fs.lookup m=none)
  (h:Q (.ref g,[.ref a]) s):BL (BV X.prog X.w) A (QB (.ref a) m pl) Q E s:=by
 obtain⟨mA,O,r,_,_,_⟩:=rR I.hok e;have p:mA m=none:=Oh.none_of (by rw[<-l];exact r m);exact we3 I.QZ O (c.get m) k.at_ k.fn p h
theorem kg1{Q:Unit->BK->Prop}(I:Inv X pins σ H s)(e:H a=some (.ins C dx fs))(c:Cls X.K C)(n:Rx X.K C f)(hl:fs.length<1000)(M:RelV y u)
  (h:∀s',Inv X pins σ (upd H a (.ins C dx (Q6 f y fs))) s'->Q () s'):BL (BV X.prog X.w) A (setAttr (.ref a) f u) Q E s:=by
 obtain⟨mA,O,r,m,_,p⟩:=rR I.hok e;have T:(fs.map (·.1)).length<=sizeLine:=by rw[GQ,CG];lia
 refine yb3 I.QZ O c.sa c.po n.taker c.hd m T λh' l L=>h _ ?_;have Y:∃o,h'.get? dx=some o:=let ⟨o,_,_,e',_⟩:=l.ns; ⟨o,e'⟩;refine I.write (x:=a) (e:=dx) (by rw[e];exact True.intro) (.inr p) (λb q Z z=>(L.2 b Z).trans z) Y ?_;refine⟨by rw[Ae O.ne];exact p,?_,O.ne,l.obj,_,l.ns,λg=>?_,λg U=>?_⟩
 ·have:=Wk f y fs;lia
 ·show Oh ((Q6 f y fs).lookup g) (if g=f then some u else mA g);rw[Wm];by_cases q:g=f
  ·rw[if_pos q,if_pos q];exact M
  ·rw[if_neg q,if_neg q];exact r g
 ·by_cases q:g=f
  ·rw[q];exact(Ve f y fs).1
  ·refine(Ve f y fs).2 g (m g λz=>U ?_);show(if g=f then some u else mA g)=none;rw[if_neg q];exact z
theorem Inv.made(I:Inv X pins σ H s):Inv X pins σ (upd (upd H s.heap.objs.size (.own (s.heap.objs.size+1))) (s.heap.objs.size+1) (.ins C s.heap.objs.size []))
  {s with heap:=(s.heap.push W.emptyDict).push (W.instObj C s.heap.objs.size)}:=by
 have l:(s.heap.push W.emptyDict).get? s.heap.objs.size=some W.emptyDict:=K_ s.heap rfl;have L:((s.heap.push W.emptyDict).push (W.instObj C s.heap.objs.size)).get? (s.heap.objs.size+1)=some (W.instObj C s.heap.objs.size):=by have:=K_ (s.heap.push W.emptyDict) (o:=W.instObj C s.heap.objs.size) rfl;simp_all
 have z:(s.heap.push W.emptyDict).Ns s.heap.objs.size (λ_=>none):=⟨W.emptyDict,#[],_,l,rfl,(λe p=>absurd p (by simp)),λ_=>rfl⟩;have M:=I.laid (a:=s.heap.objs.size) (o:=.own (s.heap.objs.size+1)) (h':=s.heap.push W.emptyDict) (t':=s.toks) (λb u q=>JK _ q) (GX _) ⟨_,l⟩;refine M.laid (a:=s.heap.objs.size+1) (o:=.ins C s.heap.objs.size []) (t':=s.toks) (λb u q=>JK _ q) (mD (Q_ _ _)) ?_;have ne:s.heap.objs.size≠s.heap.objs.size+1:=MJ (fJ _);refine⟨by rw[Ae ne,Ak],RX _,ne,L,λ_=>none,(Heap.Ns1.of_empty z).at λo q=>JK _ q,λ_=>True.intro,λy m=>absurd rfl m⟩
def wr2{prog:BW}{env:LK}{f:BR}(m:DG e f env (CV e env)=CV e env)
  (h:BL (BV prog w) A (CV e env) (λo l=>BL (BV prog w) A (getAttr o f true) Q E l) E s):BL (BV prog w) A (CV (.Attribute e f pos) env) Q E s:=
 Attribute_any_ h (by rw[arm_eval_Attribute,m])
end
def zo9(K:BZ)(B:TE)(f:BR):TE:=λσ H Q=>B σ H λx m=>∃a C dx l v,x=.ref a/\m a=some (.ins C dx l)/\Cls K C/\Rx K C f/\l.lookup f=some v/\Q v m
def zo1(K:BZ)(B p:TE)(f:BR):TS:=λD σ H=>p σ H λy z=>B σ z λx m=>∃a C dx l,x=.ref a/\m a=some (.ins C dx l)/\Cls K C/\Rx K C f/\l.length<1000 /\
 D.nx σ (upd m a (.ins C dx (Q6 f y l)))
section
variable {o m:B_}{f:BR}{p l:HY}{z:TE}
def p8(T:PE X e B)(U:DG e f X.env (CV e X.env)=CV e X.env):PE X (.Attribute e f pos) (zo9 X.K B f):=by intro pins s σ H Q I h;refine wr2 U (thG (T pins s σ H _ I h) λu s1 x H1 I1 M L=>?_);obtain⟨a,C,dx,fs,v,Y,Z,c,n,l,q⟩:=L;subst Y;obtain rfl:u=Value.ref a:=M;exact kc6 I1 Z c n l λu' s2 I2 O=>⟨v,H1,I2,O,q⟩
def yq0(Z:PE X o B)(Y:PE X m z)(hs:FJ m (some (.Attribute o f p)) pos.line X.env=pure false):PS X (.Assign [.Attribute o f p] m pos) (zo1 X.K B z f):=by intro pins s σ H D I h;refine plainObj_wpAny_Assign_Attribute (thG (Y pins s σ H _ I h) λu L y H1 I1 M q=>thn (Z pins L σ H1 _ I1 q) λU s2 ⟨x,H2,I2,O,a,C,dx,fs,ex,ea,c,n,l,T⟩=>?_) hs;subst ex;obtain rfl:U=Value.ref a:=O;exact kg1 I2 ea c n l M λs3 I3=>⟨σ,_,I3,T⟩
end
structure Ed(k:Nat)(A:D_):Prop where
 hd:A.handled=none
 dp:A.depth+3 * k+5<j4
 un:A.units+16 * k+200<FW
 gd:A.guards=some []
theorem Ed.mono{k:Nat}(r:Ed k A)(h:j<=k):Ed j A:=⟨r.hd,by have:=r.dp;lia,by have:=r.un;lia,r.gd⟩
theorem Ed.deeper{k:Nat}(r:Ed (k+1) A)(env:LK):Ed k (A.deeper env):=
 ⟨r.hd,by have:=r.dp;show A.depth+1+3 * k+5<_;lia,by have:=r.un;show A.units+3+16 * k+200<_;lia,r.gd⟩
def ke2:(A.under (.builtin "type.__call__" ⟨.ref C::us,I⟩)).depth=A.depth+1:=by rfl
def ke3:(A.under (.builtin "type.__call__" ⟨.ref C::us,I⟩)).units=A.units+1:=by rfl
theorem Ed.make{k:Nat}(r:Ed (k+1) A)(C:BJ)(us:List A_)(I:List (BR×A_)):Ed k (A.under (.builtin "type.__call__" ⟨.ref C::us,I⟩)):=
 ⟨r.hd,by have:=r.dp;rw[ke2];lia,by have:=r.un;rw[ke3];lia,(by first |exact r.gd | (show(Around.under _ _).guards=_;simp[Around.under,Code.isGuard,guardIds];exact r.gd))⟩
theorem Ed.depth{k:Nat}(r:Ed k A):A.depth<j4:=by have:=r.dp;lia
def n7:TA:=λ_ H Q=>Q [] H
def vV(B:TE)(tr:TA):TA:=λσ H Q=>B σ H λx m=>tr σ m λxs l=>Q (x::xs) l
variable {es:List B_}
section
variable {t:TA}
def Jf:PA X [] n7:=λ_ _ _ _ H Q I h=>Calls.spliced_nil ⟨[],H,I,.nil,h⟩
def Eb(O:PE X e q)(M:PA X es t)(hs:Zs X.env e es:=by rfl):PA X (e::es) (vV q t):=by intro pos pins s σ H Q I h;rw[hs];show BL _ _ (spliced ((false,CV e X.env)::IK pos (BP es X.env))) _ _ s;refine Calls.spliced_cons (thG (O pins s σ H _ I h) λu l x Z U p L=>?_);exact thG (M pos pins l σ Z _ U L) λus s2 xs Y T m z=>⟨x::xs,Y,T,.cons p m,z⟩
def zq4(t:TA):TE:=λσ H Q=>t σ H λxs l=>xs.length<=sizeLine/\∀p,l p=none->Q (.ref p) (upd l p (.tup xs))
def zp6(t:TA):TE:=λσ H Q=>t σ H λxs l=>xs.length<=sizeLine/\∀p,l p=none->Q (.ref p) (upd l p (.lst xs))
def p7{x1}(h:PA X es t):PE X (.Tuple es x1 pos) (zq4 t):=by intro pins s σ H Q I L;refine wpAny_Tuple_spliced (thn (h pos pins s σ H _ I L) λus l ⟨xs,p,m,r,z,q⟩=>⟨by rw[<-r.length];exact z,?_⟩);have M:p l.heap.objs.size=none:=m.hok.fresh (GX _);refine⟨.ref l.heap.objs.size,upd p l.heap.objs.size (.tup xs),m.laid (t':=l.toks) (λb u e=>JK _ e) (GX _) ?_,rfl,q _ M⟩;exact⟨z,us,r,⟨_,K_ _ rfl,rfl,_,rfl⟩⟩
def yp3(h:PA X es t):PE X (.List es pos) (zp6 t):=by intro pins s σ H Q I L;refine wpAny_List_spliced (thn (h pos pins s σ H _ I L) λus l ⟨xs,p,m,r,z,q⟩=>⟨by rw[<-r.length];exact z,?_⟩);have M:p l.heap.objs.size=none:=m.hok.fresh (GX _);refine⟨.ref l.heap.objs.size,upd p l.heap.objs.size (.lst xs),m.laid (t':=l.toks) (λb u e=>JK _ e) (GX _) ?_,rfl,q _ M⟩;exact⟨z,us,0,r,K_ _ rfl⟩
end
abbrev Sp:=List V->Hp->VK->XK->Prop
abbrev CXT:=List LK->Hp->BK->XK->A_->BK->Prop
structure cF(P:BW)(w:CQ)(K:BZ)(mg:BR->Option A_)(base:CP)(A:D_)(outer:List LK)(s:BK)(H:Hp):Prop where
 frames:A.frames=some outer
 mod:Mod K mg base
 bs:∀b o,base.get? b=some o->s.heap.get? b=some o/\H b=none
 bsz:base.objs.size<=s.heap.objs.size
 funs:s.heap.FunFrames base outer
 frf:∀b∈frs outer,H b=none
 hok:HOk P w H s.heap
 bare:NP s.gens
def CE(l:List LK)(P:BW)(w:CQ)(H:Hp)(s:BK)(Q:VK)(u:A_)(s':BK):Prop:=
 ∃v H',s'.os=s.os/\NP s'.gens/\Un (frs l) [] H H' s.heap s'.heap/\HOk P w H' s'.heap/\RelV v u/\Q v H'
def CR(CX:CXT)(l:List LK)(P:BW)(w:CQ)(H:Hp)(s:BK)(Q:VK)(E:XK)(r:YG)(s':BK):Prop:=
 match r with
 | .ok (.ret u)=>CE l P w H s Q u s'
 | .ok _=>False
 | .error e=>CX l H s E e s'
structure Ec(P:BW)(w:CQ)(K:BZ)(mg:BR->Option A_)(base:CP)(CX:CXT)(k:Nat)(f:BJ)(fd:DX)(ps:List BR)(sp:Sp):Prop where
 len:∀vs H Q E,sp vs H Q E->vs.length=ps.length
 run:∀(A:D_)(outer:List LK)(s:BK)(H:Hp)(args:Args)(us:List A_)(vs:List V)(Q:VK)(E:XK),Ed k A->cF P w K mg base A outer s H->TV s fd args (ps.zip us)->Vals vs us->sp vs H Q E ->
  JS (BV P w) A (.call (.ref f) args) (CR CX outer P w H s Q E) s
variable {mg:BR->Option A_}{base:CP}
def cF.make{l:List LK}(e:cF P w K mg base A l s H)(C:BJ)(us:List A_)(I:List (BR×A_)):
  cF P w K mg base (A.under (.builtin "type.__call__" ⟨.ref C::us,I⟩)) l s H:=⟨by first |exact e.frames | (simpa[Around.under,Code.envs,Code.isFrame,pushEnvs] using e.frames),e.mod,e.bs,e.bsz,e.funs,e.frf,e.hok,e.bare⟩
section
variable {s':BK}
def Inv.env0(I:Inv X pins σ H s):cF X.prog X.w X.K X.mg X.base X.A X.stack s H:=
 ⟨I.ok.frames,I.ok.mod,I.bs,QG I.ok.bsz I.sz,I.stack,I.stkFree,I.hok,I.bare⟩
def Inv.after{Q:VK}(I:Inv X pins σ H s)(h:CE X.stack X.prog X.w H s Q u s'):EP X pins σ Q u s':=by obtain⟨v,H',p,bare,un,m,r,q⟩:=h;obtain⟨L,g,d,t,l⟩:=s';obtain rfl:l=s.os:=p;exact⟨v,H',I.call (h':=L) (g':=g) (d':=d) (t':=t) (ch:=[]) un m bare (λb z=>absurd z (by simp)),r,q⟩
end
def zg2(sp:Sp)(dvs:List V)(E:XK)(t:TA):TE:=λσ H Q=>t σ H λl m=>sp (l++dvs) m Q E
def zg7(C:BJ)(m:BR)(sp:Sp)(dvs:List V)(E:XK)(B:TE)(t:TA):TE:=λσ H Q=>B σ H λx p=>∃a dx l,x=.ref a/\p a=some (.ins C dx l)/\l.lookup m=none /\
 t σ p λz L=>sp (x::(z++dvs)) L Q E
def zg6(C:BJ)(sp:Sp)(dvs:List V)(E:XK)(t:TA):TE:=λσ H Q=>t σ H λm l=>∀x dx,l x=none->l dx=none->dx≠x ->
 sp (.ref x::(m++dvs)) (upd (upd l dx (.own x)) x (.ins C dx [])) (λv p=>v=.non/\Q (.ref x) p) E
def Binds(K:BZ)(l:DX)(ps:List BR)(ds:List A_):Prop:=
 ∀(s:BK)(us:List A_),K.In s.heap->(us++ds).length=ps.length->TV s l ⟨us,[]⟩ (ps.zip (us++ds))
def Binds.all{m:DX}{ps:List BR}(h:∀us:List A_,us.length=ps.length->MN m ⟨us,[]⟩=pure (ps.zip us)):Binds K m ps []:=λs us _ l=>by rw[aB]at l ⊢;exact .of_eq (h us l)
def Passes(CX:CXT)(X:Cx)(E:XK):Prop:=∀(pins:List (BJ×GR))(σ:St)(H:Hp)(s:BK)(e:A_)(s':BK),Inv X pins σ H s->CX X.stack H s E e s'->X.xe e s'
variable {p:HY}
variable {vs:List V}
section
variable {CX:CXT}{k:Nat}{fd:DX}{ps:List BR}{sp:Sp}{dvs:List V}{ds:List A_}{E:XK}{x m:BR}{apos:HY}{o:B_}{t:TA}
def yH{Q:VK}(F:Ec X.prog X.w X.K X.mg X.base CX k f fd ps sp)(M:Ed k X.A)(U:Binds X.K fd ps ds)(T:Vals dvs ds)(L:Passes CX X E)
  (I:Inv X pins σ H s)(r:Vals vs us)(h:sp (vs++dvs) H Q E):BL (BV X.prog X.w) X.A (call (.ref f) us) (EP X pins σ Q) X.xe s:=by
 have z:Vals (vs++dvs) (us++ds):=r.append T;have O:(us++ds).length=ps.length:=by rw[<-z.length];exact F.len _ _ _ _ h
 refine aJ (JR (F.run X.A X.stack s H ⟨us,[]⟩ (us++ds) (vs++dvs) Q E M I.env0 (U s us I.QZ O) z h) λr s' l=>?_);cases r with
 |error e=>exact L pins σ H s e s' I l
 |ok Y =>
  cases Y with
  |ret u=>exact I.after l
  |next=>exact False.elim l
  |brk=>exact False.elim l
  |cont=>exact False.elim l
def kl9(F:Ec X.prog X.w X.K X.mg X.base CX k f fd ps sp)(O:Ed k X.A)(Y:Gl X x)(T:X.mg x=some (.ref f))(U:W.keepIn X.K (.ref f)=true)(hb:Binds X.K fd ps ds)(hd:Vals dvs ds)(M:Passes CX X E)
  (ha:PA X (e::es) t)(z:Zd x:=by decide)(Z:Zs X.env e es:=by rfl)(l:Zp X.env pos es:=by rfl):
  PE X (.Call (.Name x p) (e::es) [] pos) (zg2 sp dvs E t):=by
 intro pins s σ H Q I h;refine KY (Xq I Y T ?_ z);refine W.callWith_K (h₀:=X.base) I.ok.mod.kin U (thG (ha pos pins s σ H _ I h) λus s1 vs H1 L r q=>⟨L.QZ,?_⟩) Z l;exact yH F O hb hd M L r q
def rJ{pl:Sem Bool}(he:PE X o B)(c:Cls X.K C)(O:Meth X.K C m f)(F:Ec X.prog X.w X.K X.mg X.base CX k f fd ps sp)(hr:Ed k X.A)(hb:Binds X.K fd ps ds)(hd:Vals dvs ds)(hx:Passes CX X E)(ha:PA X (e::es) t)
  (z:Zs X.env e es:=by rfl)(L:Zp X.env pos es:=by rfl)
  (ht:CV (.Call (.Attribute o m apos) (e::es) [] pos) X.env=(do
   let M <-CV o X.env
   SN apos.atName
   let (f,first) <-QV [M] (QB M m pl)
   ZS pos f first (IK pos (BP (e::es) X.env)) (JC pos (GF [] X.env))):=by rfl):
  PE X (.Call (.Attribute o m apos) (e::es) [] pos) (zg7 C m sp dvs E B t):=by
 intro pins s σ H Q I h;refine W.methodCall_KW (pl:=pl) (thn (he pins s σ H _ I h) λu Y ⟨x,H1,U,Z,a,dx,fs,ex,ea,l,q⟩=>?_) ht;subst ex;obtain rfl:u=Value.ref a:=Z;refine kc7 U ea c O l ?_;refine W.callWith_K (first:=[.ref a]) (h₀:=X.base) I.ok.mod.kin O.kp (thG (ha pos pins Y σ H1 _ U q) λus s2 vs H2 T r q2=>⟨T.QZ,?_⟩) z L;exact yH (us:=.ref a::us) (vs:=.ref a::vs) F hr hb hd hx T (.cons rfl r) q2
structure Mk(K:BZ)(C f:BJ):Prop where
 makes:W.makesIn K C=true
 init:W.findIn K (.ref C) "__init__" = some (some (.ref f))
 fn:W.isFn K (.ref f)=true
 kp:W.keepIn K (.ref C)=true
def wl9{Q:VK}(M:Mk X.K C f)(F:Ec X.prog X.w X.K X.mg X.base CX k f fd ps sp)(Z:Ed (k+1) X.A)(hb:Binds X.K fd ps ds)(hd:Vals dvs ds)
  (Y:Passes CX X E)(I:Inv X pins σ H s)(r:Vals vs us)
  (h:∀x dx,H x=none->H dx=none->dx≠x->sp (.ref x::(vs++dvs)) (upd (upd H dx (.own x)) x (.ins C dx [])) (λv H2=>v=.non/\Q (.ref x) H2) E):
  BL (BV X.prog X.w) X.A (call (.ref C) us) (EP X pins σ Q) X.xe s:=by
 have O:=h (s.heap.objs.size+1) s.heap.objs.size (I.hok.fresh (iQ _)) (I.hok.fresh (GX _)) (MJ (fJ _));have z:=Inv.made (C:=C) I;have L:Vals (V.ref (s.heap.objs.size+1)::(vs++dvs)) (Value.ref (s.heap.objs.size+1)::(us++ds)):=.cons rfl (r.append hd);have hl:(Value.ref (s.heap.objs.size+1)::us++ds).length=ps.length:=by have e:=L.length;rw[F.len _ _ _ _ O]at e;exact e.symm
 refine aJ (wh8 (f:=f) I.QZ M.makes M.init (beq_iff_eq.mp M.fn) (JR (F.run _ X.stack _ _ ⟨Value.ref (s.heap.objs.size+1)::us,[]⟩ (Value.ref (s.heap.objs.size+1)::(us++ds)) _ _ E (Z.make C us [])
  (z.env0.make C us []) (hb _ (Value.ref (s.heap.objs.size+1)::us) z.QZ hl) L O) λr s' l=>?_))
 cases r with
 |error e=>exact Y pins σ _ _ e s' z l
 |ok fl =>
  cases fl with
  |ret u=>obtain⟨v,H',I3,T,ev,U⟩:=z.after l;subst ev;exact⟨T,⟨V.ref (s.heap.objs.size+1),H',I3,rfl,U⟩⟩
  |next=>exact False.elim l
  |brk=>exact False.elim l
  |cont=>exact False.elim l
def wk4(M:Mk X.K C f)(F:Ec X.prog X.w X.K X.mg X.base CX k f fd ps sp)(L:Ed (k+1) X.A)(T:Gl X x)(O:X.mg x=some (.ref C))(Y:Binds X.K fd ps ds)(U:Vals dvs ds)(z:Passes CX X E)
  (l:Zd x:=by decide):PE X (.Call (.Name x p) [] [] pos) (zg6 C sp dvs E n7):=by
 intro pins s σ H Q I h;refine KY (Xq I T O ?_ l);exact W.callWith_K0 I.QZ M.kp (wl9 (us:=[]) M F L Y U z I .nil h)
end
structure Bt(N P:List BR)(sc:JH):Prop where
 kind:sc.kind=.function
 co:sc.isCoroutine=false
 gen:sc.isGenerator=false
 nd:N.Nodup
 pre:N.take P.length=P
 par:∀x∈P,sc.names.lookup x=some .local\/sc.names.lookup x=some .cell
 nofree:∀y∈sc.names,y.2≠.free
theorem jf0{kindOf:BR->Option GP}{x:BR}:∀{binds:List (BR×A_)}{m:BR->Option A_},(∀v,(x,v)∉binds)->WW kindOf binds m x=m x
 | [],_,_=>rfl
 | (n,v)::r,m,h=>by
  unfold WW;rw[jf0 λw l=>h w (JB _ l)];split
  ·have:x≠n:=by rintro rfl;exact h v J_
   simp[this]
  ·rfl
theorem je8{kindOf:BR->Option GP}{x:BR}:∀{binds:List (BR×A_)}{m:BR->Option A_},(∀v,(x,v)∉binds)->WX kindOf binds m x=m x
 | [],_,_=>rfl
 | (n,v)::r,m,h=>by
  unfold WX;rw[je8 λw l=>h w (JB _ l)];split
  ·rfl
  ·have:x≠n:=by rintro rfl;exact h v J_
   simp[this]
theorem je9{kindOf:BR->Option GP}{x:BR}{v:A_}:∀{P:List BR}{vs:List A_}{i:Nat}{m:BR->Option A_},P.Nodup->P[i]? = some x->vs[i]? = some v->kindOf x=some .local ->
  WW kindOf (P.zip vs) m x=some v
 | [],_,_,_,_,h,_,_=>by simp at h
 |_::_,[],_,_,_,_,h,_=>by simp at h
 |p::P,w::vs,0,m,L,z,l,M=>by simp at z l;subst z;subst l;show WW kindOf ((p,w)::P.zip vs) m p=_;unfold WW;rw[jf0 λv O=>(R_.mp L).1 (mR O).1,if_pos M];simp
 |p::P,w::vs,i+1,m,L,z,l,M=>by show WW kindOf ((p,w)::P.zip vs) m x=_;unfold WW;exact je9 (i:=i) (R_.mp L).2 (by simpa using z) (by simpa using l) M
theorem je7{kindOf:BR->Option GP}{x:BR}{v:A_}:∀{P:List BR}{vs:List A_}{i:Nat}{m:BR->Option A_},P.Nodup->P[i]? = some x->vs[i]? = some v->kindOf x≠some .local ->
  WX kindOf (P.zip vs) m x=some v
 | [],_,_,_,_,h,_,_=>by simp at h
 |_::_,[],_,_,_,_,h,_=>by simp at h
 |p::P,w::vs,0,m,L,z,l,M=>by simp at z l;subst z;subst l;show WX kindOf ((p,w)::P.zip vs) m p=_;unfold WX;rw[je8 λv O=>(R_.mp L).1 (mR O).1,if_neg M];simp
 |p::P,w::vs,i+1,m,L,z,l,M=>by show WX kindOf ((p,w)::P.zip vs) m x=_;unfold WX;exact je7 (i:=i) (R_.mp L).2 (by simpa using z) (by simpa using l) M
def start(N:List BR)(vs:List V):St:=vs.map some++List.replicate (N.length - vs.length) none
def W7(CX:CXT)(P:BW)(w:CQ)(K:BZ)(mg:BR->Option A_)(base:CP)(N:List BR)(qual:BR)(scope:JH)(f:BJ)(cd:A_)(A:D_)(outer:List LK)(s:BK)(H:Hp)(E:XK):Cx where
 prog:=P
 w:=w
 K:=K
 mg:=mg
 base:=base
 A:=A.deeper (HJ qual scope s.heap.objs.size f cd)
 N:=N
 s₀:=s
 H₀:=H
 env:=HJ qual scope s.heap.objs.size f cd
 outer:=outer
 stack:=HJ qual scope s.heap.objs.size f cd::outer
 ex:=[]
 calm:=true
 fn:=λ_=>true
 pn:=[]
 xe:=λe s'=>BL (BV P w) (A.deeper (HJ qual scope s.heap.objs.size f cd)) (leaving (HJ qual scope s.heap.objs.size f cd) e) (λ_ s''=>CX outer H s E e s'') (λe' s''=>CX outer H s E e' s'') s'
def js4{sc:JH}{x:BR}(h:sc.names.lookup x=some .cell):∃c,(FN n sc.names []).lookup x=some c:=by have q:=W.cellsFrom_some sc.names n [] (.inl h);exact m7.mp q
variable {CX:CXT}{qual:BR}
theorem ks1{N ps:List BR}{l:JH}{cd:A_}{m:List LK}{s1:BK}{E:XK}
  (S:Bt N ps l)(hd:A.handled=none)(M:cF P w K mg base A m s H)(hl:vs.length=ps.length)(r:Vals vs us)
  (x:InCallC s s.heap.objs.size (WW (HJ qual l s.heap.objs.size f cd).kindOf (ps.zip us) λ_=>none) (FN (s.heap.objs.size+1) l.names []) (WX (HJ qual l s.heap.objs.size f cd).kindOf (ps.zip us) λ_=>none) s1):
  Inv (W7 CX P w K mg base N qual l f cd A m s H E) [] (start N vs) H s1:=by
 have aa:ps.length<=N.length:=by have:=congrArg List.length S.pre;rw[cP]at this;lia
 obtain⟨h1,tk,rfl,hk⟩:=x.done;have O:∀b:BJ,b∉(W7 CX P w K mg base N qual l f cd A m s H E).ex:=λb z=>absurd (show b∈([]:List BJ) from z) (by simp);refine⟨⟨M.mod,S.kind,rfl,rfl,GX _,λy z c h1 L=>?_,λy T=>?_,λy c _ h=>?_,λ_=>hd,Around.frames_deeper M.frames,.inr ⟨rfl,rfl⟩,λb z=>absurd z (O b),M.bs,M.bsz,λb _ _=>O b,λb z=>absurd z (O b),M.funs,M.frf⟩,
  rfl,M.bare,Un.kept hk,⟨_,x.toInCall.ns,λi y v h1 L h3=>?_⟩,λy c h=>⟨_,x.cell y c h⟩,M.hok.fresh (GX _),λy c h=>?_,λp Y=>absurd (show p∈([]:List (BJ×GR)) from Y) (by simp),M.hok.kept hk,?_⟩
 ·exact name_of_addr x.apart (PySem.mem_of_lookup h1) (PySem.mem_of_lookup L)
 ·have T:l.names.lookup y=some .cell\/l.names.lookup y=some .free:=T;rcases T with T |T
  ·exact js4 T
  ·exact absurd rfl (S.nofree _ (PySem.mem_of_lookup T))
 ·exact aA (x.above y c (PySem.mem_of_lookup h))
 ·have Z:i<vs.length:=by
   unfold start at L;by_cases Z:i<vs.length
   ·exact Z
   ·rw[nA (by simpa using Z)]at L;rw[List.getElem?_replicate]at L;split at L<;>cases L
  have ha:vs[i]? = some v:=by
   unfold start at L;rw[uP (by simpa using Z),RB]at L;cases e:vs[i]? with
   |none=>rw[e]at L;cases L
   |some a=>rw[e]at L;cases L;rfl
  obtain⟨u,hu,rv⟩:=r.get ha;have Y:ps[i]? = some y:=by rw[<-S.pre,List.getElem?_take_of_lt (by lia)];exact h1
  have U:ps.Nodup:=by rw[<-S.pre];exact S.nd.sublist (jGs _ _)
  refine⟨u,rv,?_⟩;rcases S.par y (WR Y) with k |k
  ·exact .inl ⟨k,je9 U Y hu k⟩
  ·obtain⟨c,e⟩:=js4 (n:=s.heap.objs.size+1) k;refine .inr ⟨.inl k,c,e,?_⟩;have q:=x.cell y c e;rw[je7 U Y hu (by show l.names.lookup y≠_;rw[k];decide)]at q;exact q
 ·exact M.hok.fresh (aA (x.above y c (PySem.mem_of_lookup h)))
 ·unfold start;show _=N.length;rw[YK,GQ,List.length_replicate];lia
def yy9{k:Nat}{name:BR}{params:Arguments}{l:JH}{dV kV aa pm z ct oc:A_}{an od:Option BJ}
  {ab:Array (Option A_)}{N ps:List BR}{sp:Sp}(lk:K.lookup f=some ⟨oc,od,.func (W.fnOf name qual params F l dV kV aa pm an z ct),ab⟩)(ae:W.codeIn K z qual=true)(S:Bt N ps l)
  (len:∀vs H Q E,sp vs H Q E->vs.length=ps.length)
  (O:∀(A:D_)(m:List LK)(s:BK)(H:Hp)(vs:List V)(Q:VK)(E:XK),Ed k (A.deeper (HJ qual l s.heap.objs.size f z))->sp vs H Q E ->
   ∃t,PSs (W7 CX P w K mg base N qual l f z A m s H E) F t/\t {nx:=λ_ H'=>Q .non H',rt:=Q} (start N vs) H):
  Ec P w K mg base CX (k+1) f (W.fnOf name qual params F l dV kV aa pm an z ct) ps sp:=by
 refine⟨len,λA m s H args us vs Q E hr Z hb r U=>?_⟩;have hl:=len _ _ _ _ U;have KX:K.In s.heap:=Z.mod.kin.keeps λb o e=>(Z.bs b o e).1;have lim:s.heap.NoLimit:=Z.mod.nolimit.keeps λb o e=>(Z.bs b o e).1;have M:∀y∈ps.zip us,l.names.lookup y.1=some .local\/(l.names.lookup y.1=some .cell/\((FN (s.heap.objs.size+1) l.names []).lookup y.1).isSome=true):=λ⟨n,v⟩ hy=>by
  rcases S.par n (mR hy).1 with q |q
  ·exact .inl q
  ·exact .inr ⟨q,W.cellsFrom_some _ _ _ (.inl q)⟩
 refine codeAny_call_function hr.depth (KX _ _ lk) rfl S.co S.gen rfl (W.codeRec_of KX ae) (hb _ _ _ _ ?_);refine wpAny_newFunctionEnv_cells S.kind M λenv he s1 x=>?_;subst he;refine⟨lim.keeps x.toInCall.keep,codeAny_func ?_⟩;obtain⟨t,ht,hq⟩:=O A m s H vs Q E (hr.deeper _) U;have I:Inv (W7 CX P w K mg base N qual l f z A m s H E) [] (start N vs) H s1:=ks1 S hr.hd Z hl r x;refine GK (ht [] s1 (start N vs) H _ I hq) (λfl s' T=>?_) λe s' T=>T;have Y:∀{L:St}{H':Hp}{v:V}{u:A_},Inv (W7 CX P w K mg base N qual l f z A m s H E) [] L H' s'->RelV v u->Q v H'->CE m P w H s Q u s':=
  λ{L H' v u} J rv q=>⟨v,H',J.os,J.bare,J.base,J.hok,rv,q⟩
 cases fl with
 |ret u=>obtain⟨v,L,H',J,rv,q⟩:=T;exact Y J rv q
 |next=>obtain⟨L,H',J,q⟩:=T;exact Y (v:=V.non) (u:=Value.none) J rfl q
 |brk=>obtain⟨_,_,_,q⟩:=T;exact False.elim q
 |cont=>obtain⟨_,_,_,q⟩:=T;exact False.elim q
section
variable {x:BR}{t:TA}{l T:String}{r:List V->Hp->VK->Prop}
def tCB(r:List V->Hp->VK->Prop)(t:TA):TE:=λσ H Q=>t σ H λvs m=>r vs m Q
def Ma(hc:Dh X (.builtin l) r)(hg:Gl X x)(Z:X.mg x=none)(U:G_ x=some (.builtin l))(ha:PA X (e::es) t)(Y:x ≠ "__name__":=by decide)(z:Zd x:=by decide)
  (he:Zs X.env e es:=by rfl)(m:Zp X.env pos es:=by rfl):PE X (.Call (.Name x p) (e::es) [] pos) (tCB r t):=by
 intro pins s σ H Q I h;refine KY (Vg I hg Z U ?_ Y z);exact PyProof.Rows.callWith_builtin1 (thG (ha pos pins s σ H _ I h) λus L vs H1 I1 M O=>hc pins L σ H1 vs us Q I1 M O) he m
def Hi(hc:Dh X (.type T) r)(hg:Gl X x)(Z:X.mg x=none)(U:G_ x=some (.type T))(ha:PA X (e::es) t)(Y:x ≠ "__name__":=by decide)(z:Zd x:=by decide)
  (he:Zs X.env e es:=by rfl)(m:Zp X.env pos es:=by rfl):PE X (.Call (.Name x p) (e::es) [] pos) (tCB r t):=by
 intro pins s σ H Q I h;refine KY (Vg I hg Z U ?_ Y z);exact PyProof.Rows.callWith_type1 (thG (ha pos pins s σ H _ I h) λus L vs H1 I1 M O=>hc pins L σ H1 vs us Q I1 M O) he m
end
end L2
namespace HT
open PySem PyProof.Rows
variable {Q:A_->BK->Prop}{sl:BJ}{b a:A_}{lo hi:Option Int}
section
variable {prog:BW}{w:CQ}{A:D_}{E:A_->BK->Prop}{s:BK}
def wr8{t b:BJ}{vs ws:List A_}(u:OJ s.heap t vs.toArray)(v:OJ s.heap b ws.toArray)(m:vs≠[])
  (h1:ws=[]->Q (.ref t) s)(x:ws≠[]->Q (.ref s.heap.objs.size) {s with heap:=s.heap.push {cls:=.type "tuple",data:=.seq (vs++ws).toArray} })
  (hsz:vs.length+ws.length<=sizeLine):BL (BV prog w) A (FZ .Add (.ref t) (.ref b)) Q E s:=by
 obtain⟨⟨cls,q,data,sl⟩,j,p,n,o⟩:=id u;obtain⟨⟨r,h,data2,f⟩,c,g,l,hd2⟩:=id v;simp only at p o g hd2;subst p o g hd2;have e:vs.toArray++ws.toArray=(vs++ws).toArray:=by simp
 by_cases i:ws=[]
 ·exact QW ⟨_,j,rfl⟩ ⟨_,c,rfl⟩ RG VP PySem.F.slot_tuple_add PySem.F.entry_tuple_add (PySem.F.args_tuple_add_2 _ _)
   (tuple_addW1 t b vs.toArray ws.toArray n l q h sl f (by simpa using m) (by simp[i])) ⟨j,c,h1 i⟩
 ·refine QW ⟨_,j,rfl⟩ ⟨_,c,rfl⟩ RG VP PySem.F.slot_tuple_add PySem.F.entry_tuple_add (PySem.F.args_tuple_add_2 _ _)
   (tuple_addW2 t b vs.toArray ws.toArray n l q h sl f (by simpa using m) (by simpa using i) (by rw[MK,MK];exact hsz)) ⟨j,c,?_⟩
  rw[e];exact x i
def sIx(n d:Nat):Option Int->Nat
 |none=>d
 |some v=>if v<0 then(v+(n:Int)).toNat else min v.toNat n
def Ke(n d:Nat):sIx n d none=d:=rfl
def K4(n d k:Nat):sIx n d (some (k:Int))=min k n:=by rfl
theorem yr2(n d:Nat)(e:d<=n)(o:Option Int):sIx n d o<=n:=by
 cases o with
 |none=>exact e
 |some v =>
  show(if v<0 then(v+(n:Int)).toNat else min v.toNat n)<=n;by_cases c:v<0
  ·rw[if_pos c];lia
  ·rw[if_neg c];exact mV _ _
def zm9(a b:Nat):((min a b:Nat):Int)=min (a:Int) b:=by
 rcases iR a b with h |h
 ·rw[ZM h,jHe (Int.ofNat_le.mpr h)]
 ·rw[bB h,Int.min_eq_right (Int.ofNat_le.mpr h)]
theorem sJ(v:Int)(n d:Nat):(if v<0 then max (v+(n:Int)) 0 else min v (n:Int))=((sIx n d (some v):Nat):Int):=by
 show(if v<0 then max (v+(n:Int)) 0 else min v (n:Int))=(((if v<0 then(v+(n:Int)).toNat else min v.toNat n):Nat):Int);by_cases c:v<0
 ·lia
 ·rw[if_neg c,if_neg c,zm9,bF (Int.not_lt.mp c)]
def js5(v:Int)(n d:Nat):max 0 (min (if v<0 then v+(n:Int) else v) (n:Int))=((sIx n d (some v):Nat):Int):=by
 rw[<-sJ v n d];by_cases c:v<0
 ·rw[if_pos c,if_pos c,Int.max_comm,jHe (mC (Int.add_le_add_right (Int.le_of_lt c) _) (Int.le_of_eq (Int.zero_add _)))]
 ·rw[if_neg c,if_neg c,Int.max_eq_right (Int.le_min.mpr ⟨Int.not_lt.mp c,Int.natCast_nonneg n⟩)]
theorem ka0(lo hi:Option Int)(n:Nat):Builtin.Slice.sliceAdjust lo hi 1 (n:Int)=(((sIx n 0 lo:Nat):Int),((sIx n n hi:Nat):Int)):=by
 have c:¬ ((1:Int)<0):=by lia
 unfold Builtin.Slice.sliceAdjust;simp only[c,if_false];refine Prod.ext ?_ ?_
 ·cases lo with
  |none=>rfl
  |some v=>exact sJ v n 0
 ·cases hi with
  |none=>rfl
  |some v=>exact sJ v n n
theorem kf5(i j:Nat):Builtin.Slice.slicePlaces (i:Int) (j:Int) 1=j - i:=by unfold Builtin.Slice.slicePlaces;lia
def jb4{v:A_}{o:Option Int}{Q:Option Int->BK->Prop}(p:QK v o)(h:Q o s):BL (BV prog w) A (Builtin.Slice.slicePartIndex v) Q E s:=by
 cases p with
 |none=>exact jZ h
 |int i t=>exact slicePart_int h
def Vu{n:Nat}{Q:Int×Int×Nat->BK->Prop}(hs:s.heap.IsSliceOf sl b a .none)(pl:QK b lo)(f:QK a hi)
  (h:Q (((sIx n 0 lo:Nat):Int),1,sIx n n hi - sIx n 0 lo) s):BL (BV prog w) A (Builtin.Slice.sliceApplied (.ref sl) (pure (n:Int))) Q E s:=by
 obtain⟨i,c,g,e⟩:=id hs;unfold Builtin.Slice.sliceApplied Builtin.Slice.sliceFields;refine BX (BX (DW c e (x:=b) rfl (BX (DW c e (x:=a) rfl (BX (DW c e (x:=.none) rfl (EY ?_)))))));refine BX (jZ ?_);show BL _ _ (if((1:Int) == 0)=true then _ else _) _ _ s;rw[if_neg (by decide)];refine BX (jb4 pl (BX (jb4 f (BX (EY ?_)))));show BL _ _ (match Builtin.Slice.sliceAdjust lo hi 1 (n:Int) with | (lo,hi)=>pure (lo,(1:Int),Builtin.Slice.slicePlaces lo hi 1)) _ _ s;rw[ka0 lo hi n];show BL _ _ (pure (((sIx n 0 lo:Nat):Int),(1:Int),Builtin.Slice.slicePlaces ((sIx n 0 lo:Nat):Int) ((sIx n n hi:Nat):Int) 1)) _ _ s;rw[kf5];exact EY h
theorem wk6(xs:Array A_)(i k:Nat):((List.range k).filterMap λ(m:Nat)=>xs[((i:Int)+(m:Int) * 1).toNat]?).toArray=((xs.toList.drop i).take k).toArray:=by
 have e:(λ(m:Nat)=>xs[((i:Int)+(m:Int) * 1).toNat]?)=λm=>xs[i+m]?:=by grind
 rw[e];have:=j5 xs i k;rw[List.filterMap_map]at this;have c:((λx=>xs[x]?)∘λx=>i+x)=λm=>xs[i+m]?:=rfl;rw[c]at this;rw[this]
theorem Tw{t:BJ}{items:Array A_}(e:OJ s.heap t items)(hs:s.heap.IsSliceOf sl b a .none)(pl:QK b lo)(l:QK a hi)
  (p:¬ (sIx items.size 0 lo=0/\sIx items.size items.size hi=items.size))
  (h:Q (.ref s.heap.objs.size) {s with heap:=s.heap.push {cls:=.type "tuple",data:=.seq ((items.toList.drop (sIx items.size 0 lo)).take (sIx items.size items.size hi - sIx items.size 0 lo)).toArray} })
  (hsz:items.size<=sizeLine):BL (BV prog w) A (QC (.ref t) (.ref sl)) Q E s:=by
 have c:sizeOk (.seq ((items.toList.drop (sIx items.size 0 lo)).take (sIx items.size items.size hi - sIx items.size 0 lo)).toArray):=by show((items.toList.drop (sIx items.size 0 lo)).take (sIx items.size items.size hi - sIx items.size 0 lo)).toArray.size<=sizeLine;rw[MK,cP,cO,bD];exact QG (QG (mV _ _) (Nat.sub_le _ _)) hsz
 have q:sIx items.size items.size hi<=items.size:=yr2 _ _ (GX _) hi;obtain⟨n,f,i,o⟩:=id hs;have j:s.TypeIs (.ref sl) "slice":=⟨n,f,i⟩;unfold QC
 try with_reducible refine HB ?_
 first |refine BX (EY ?_) |skip
 refine BX (wpAny_sequenceKey e.typeIs (by decide) ?_);refine BX (DP (name:=Str.ofString "__getitem__") e.typeIs PyProof.Rows.slot_tuple_getitem
  (CZ PyProof.Rows.slot_tuple_getitem e.typeIs entry_tuple_getitem ?_ (args_tuple_getitem _ _)))
 show BL _ _ (Builtin.Tuple.tupleItemsOf (.ref t) >>= _) _ _ s;refine BX (tupleItemsOf_ e ?_);refine BX (QM j ?_);rw[if_pos (by decide)];refine BX (Vu hs pl l ?_);have g:¬ ((((sIx items.size 0 lo:Nat):Int) == 0 && (1:Int) == 1 && (sIx items.size items.size hi - sIx items.size 0 lo) == items.size)=true):=by lia
 show BL _ _ (if(((sIx items.size 0 lo:Nat):Int) == 0 && (1:Int) == 1 && (sIx items.size items.size hi - sIx items.size 0 lo) == items.size)=true then _ else _) _ _ s;rw[if_neg g,wk6]
 first
  |exact BX (m:=Builtin.Tuple.tupleExact _) (CJ (EY ⟨_,rfl,EY h⟩) c)
  |exact BX (m:=Builtin.Tuple.tupleExact _) (CJ (BX (EY (EY ⟨_,rfl,EY h⟩))) c)
  |exact BX (BX (m:=Builtin.Tuple.tupleExact _) (CJ (EY (EY ⟨_,rfl,EY h⟩)) c))
  |exact BX (BX (m:=Builtin.Tuple.tupleExact _) (CJ (EY ⟨_,rfl,EY h⟩) c))
end
end HT
namespace L2
open PySem PySem.Spec PyProof.Rows
abbrev TO:=St->Hp->(Option Int->Hp->Prop)->Prop
def PO(X:Cx)(e:Option B_)(t:TO):Prop:=
 ∀(a:List (BJ×GR))(s:BK)(b:St)(H:Hp)(Q:Option Int->Hp->Prop),Inv X a b H s->t b H Q ->
  BL (BV X.prog X.w) X.A (evalPart e X.env) (λu f=>∃o c,Inv X a b c f/\QK u o/\Q o c) X.xe s
def yc2:TO:=λ_ H Q=>Q none H
def zg9(t:TE):TO:=λa H Q=>t a H λx b=>∃i,x=.int i/\Q (some i) b
variable {X:Cx}{e:B_}{pos:HY}
variable {r:V->Option Int->Option Int->Hp->VK->Prop}{xs:List V}{us:List A_}
section
variable {a:TE}{lo hi:Option B_}{c f:TO}{g:HY}
def wz5:PO X none yc2:=by intro b s i H Q I h;rw[evalPart_none];exact EY ⟨none,H,I,.none,h⟩
def wz6(h:PE X e a):PO X (some e) (zg9 a):=by intro b s j H Q I n;rw[evalPart_some];refine thG (h b s j H _ I n) λu v x p o l m=>?_;obtain⟨i,rfl,q⟩:=m;obtain⟨t,rfl⟩:=l;exact⟨some i,p,o,.int i t,q⟩
def SlR(X:Cx)(r:V->Option Int->Option Int->Hp->VK->Prop):Prop:=
 ∀(b:List (BJ×GR))(s:BK)(h:St)(H:Hp)(x:V)(v j i:A_)(lo hi:Option Int)(l:BJ)(Q:VK),Inv X b h H s->RelV x v->s.heap.IsSliceOf l j i .none->QK j lo->QK i hi->r x lo hi H Q ->
  ∃T m,aL (.type T) "__getitem__" = pure (some (.builtin m))/\s.TypeIs v T/\BL (BV X.prog X.w) X.A (QC v (.ref l)) (EP X b h Q) X.xe s
def SlR.or{o:V->Option Int->Option Int->Hp->VK->Prop}(h:SlR X r)(h':SlR X o):SlR X (λx lo hi H Q=>r x lo hi H Q\/o x lo hi H Q):=by
 intro b s i H x v l j lo hi m Q I n u pl p q;rcases q with q |q
 ·exact h b s i H x v l j lo hi m Q I n u pl p q
 ·exact h' b s i H x v l j lo hi m Q I n u pl p q
def tSl(r:V->Option Int->Option Int->Hp->VK->Prop)(a:TE)(c f:TO):TE:=λb H Q=>a b H λx j=>c b j λl i=>f b i λu h=>r x l u h Q
def jw0(L:SlR X r)(P:PE X e a)(M:PO X lo c)(J:PO X hi f):PE X (.Subscript e (.Slice lo hi none g) pos) (tSl r a c f):=by intro i s m H Q I h;refine bN (thG (P i s m H _ I h) λv z x H1 I1 B F=>?_);refine wpAny_Slice (thG (M i z m H1 _ I1 F) λo y l H2 I2 pl E=>thG (J i y m H2 _ I2 E) λn j u p Z G C=>?_);rw[evalPart_none];refine EY ?_;have Y:Inv X i m p {j with heap:=j.heap.push {cls:=.type "slice",data:=.fields #[o,n,.none] } }:=Z.kept (t':=j.toks) λb ob q=>JK _ q;obtain⟨T,id,U,K,O⟩:=L i {j with heap:=j.heap.push {cls:=.type "slice",data:=.fields #[o,n,.none] } } m p x v o n l u j.heap.objs.size Q Y B (Heap.IsSliceOf.new ..) pl G C;show BL (BV X.prog X.w) X.A (VN e (.Slice lo hi none g) v (.ref j.heap.objs.size)) (EP X i m Q) X.xe {j with heap:=j.heap.push {cls:=.type "slice",data:=.fields #[o,n,.none] } };exact tail_any (ops:=[.ref j.heap.objs.size,v]) K U O (by with_unfolding_all rfl)
def aR(xs:List V)(lo hi:Option Int):List V:=(xs.drop (HT.sIx xs.length 0 lo)).take (HT.sIx xs.length xs.length hi - HT.sIx xs.length 0 lo)
def V7(xs:List V)(lo hi:Option Int):(aR xs lo hi).length<=xs.length:=by unfold aR;rw[cP,cO];exact QG (mV _ _) (Nat.sub_le _ _)
def zn9(K:BZ):V->Option Int->Option Int->Hp->VK->Prop:=λx lo hi H Q=>∃a xs,x=.ref a/\SqT K H a xs /\
 ¬ (HT.sIx xs.length 0 lo=0/\HT.sIx xs.length xs.length hi=xs.length)/\∀p,H p=none->Q (.ref p) (upd H p (.tup (aR xs lo hi)))
def yr6:SlR X (zn9 X.K):=by
 intro l s A H x v C B lo hi E Q I p z pl u h;obtain⟨a,xs,rfl,w,y,q⟩:=h;cases p;obtain⟨j,r,n,m⟩:=I.tuple w;have i:j.toArray.size=xs.length:=by rw[MK];exact r.length.symm
 refine⟨"tuple",_,PyProof.Rows.slot_tuple_getitem.lookup,n.typeIs,?_⟩;refine HT.Tw n z pl u (by rw[i];exact y) ?_ (by rw[i];exact m);rw[i];refine⟨.ref s.heap.objs.size,_,I.laid (t':=s.toks) (o:=.tup (aR xs lo hi)) (λb F q=>JK _ q) (GX _) ?_,rfl,q _ (I.hok.fresh (GX _))⟩;exact⟨QG (V7 xs lo hi) m,_,(r.drop (HT.sIx xs.length 0 lo)).take (HT.sIx xs.length xs.length hi - HT.sIx xs.length 0 lo),IsTup.new _ _⟩
def zd7(K:BZ):R2:=λx y H Q=>∃a b xs h,x=.ref a/\y=.ref b/\SqT K H a xs/\SqT K H b h/\xs≠[]/\xs.length+h.length<=sizeLine /\
 (h=[]->Q (.ref a) H)/\(h≠[]->∀p,H p=none->Q (.ref p) (upd H p (.tup (xs++h))))
def Vals.nil_iff(r:Vals xs us):us=[]↔xs=[]:=by
 cases r with
 |nil=>simp
 |cons _ _=>simp
def wy5:OpR X (FZ .Add) (zd7 X.K):=by intro l s M H x y v u Q I B A h;obtain⟨a,b,xs,p,rfl,rfl,L,J,G,n,E,C⟩:=h;cases B;cases A;obtain⟨F,j,p1,_⟩:=I.tuple L;obtain⟨m,i,g,_⟩:=I.tuple J;refine HT.wr8 p1 g (λz=>G (j.nil_iff.mp z)) (λz=>⟨.ref a,H,I,rfl,E (i.nil_iff.mp z)⟩) (λz=>?_) (by rw[<-j.length,<-i.length];exact n);refine⟨.ref s.heap.objs.size,_,I.laid (t':=s.toks) (o:=.tup (xs++p)) (λb O q=>JK _ q) (GX _) ?_,rfl,C (λw=>z (i.nil_iff.mpr w)) _ (I.hok.fresh (GX _))⟩;exact⟨by rw[YK];exact n,_,j.append i,IsTup.new _ _⟩
end
def ixN(n:Nat)(i:Int):Option Nat:=if 0<=i then(if i<n then some i.toNat else none) else if -(n:Int)<=i then some (i+n).toNat else none
def atI{a:Type}(xs:List a)(i:Int):Option a:=(ixN xs.length i).bind λj=>xs[j]?
variable {n j:Nat}{i:Int}
theorem wv1(h:ixN n i=some j):seqIndex? i n=some j/\j<n/\-(n:Int)<=i/\i<n:=by
 unfold ixN at h;by_cases b:0<=i
 ·rw[if_pos b]at h;by_cases a:i<n
  ·rw[if_pos a]at h;have e:i.toNat=j:=Option.some.inj h;exact⟨by rw[seqIndex_of b a,e],by lia,by lia,a⟩
  ·rw[if_neg a]at h;cases h
 ·rw[if_neg b]at h;by_cases a:-(n:Int)<=i
  ·rw[if_pos a]at h;have e:(i+n).toNat=j:=Option.some.inj h;exact⟨by rw[seqIndex_neg (by lia) a,e],by lia,a,by lia⟩
  ·rw[if_neg a]at h;cases h
def sS{a:Type}{xs:List a}{v:a}(h:atI xs i=some v):∃j,seqIndex? i xs.length=some j/\xs[j]? = some v/\j<xs.length/\-(xs.length:Int)<=i/\i<xs.length:=by
 unfold atI at h;cases e:ixN xs.length i with
 |none=>rw[e]at h;cases h
 |some j=>rw[e]at h;obtain⟨g,f,c,b⟩:=wv1 e;exact⟨j,g,h,f,c,b⟩
theorem wr1{a:Type}{xs:List a}{v:a}(h:xs[j]? = some v):atI xs (j:Int)=some v:=by
 have b:j<xs.length:=(NB.mp h).1;have e:ixN xs.length (j:Int)=some j:=by unfold ixN;simp_all
 unfold atI;rw[e];exact h
def kh7(b:B_):Prop:=∀o i,RN b false o i=operate [o,i] (QC o i)
def IxR(X:Cx)(r:R2):Prop:=
 ∀(value slice:B_)(a:List (BJ×GR))(s:BK)(b:St)(H:Hp)(x y:V)(v u:A_)(Q:VK),Inv X a b H s->RelV x v->RelV y u->r x y H Q ->
  RN slice false v u=operate [v,u] (QC v u)->BL (BV X.prog X.w) X.A (VN value slice v u) (EP X a b Q) X.xe s
def MtR(X:Cx)(c:String)(r:V->List V->Hp->VK->Prop):Prop:=
 ∀(a:List (BJ×GR))(s:BK)(b:St)(H:Hp)(x:V)(xs:List V)(v:A_)(us:List A_)(Q:VK),Inv X a b H s->RelV x v->Vals xs us->r x xs H Q ->
  BL (BV X.prog X.w) X.A (call (.builtin c) (v::us)) (EP X a b Q) X.xe s
variable {x:V}
section
variable {a b:B_}{g tb:TE}
def zd3{r:R2}(p:IxR X r)(z:PE X a g)(w:PE X b tb)(hs:kh7 b):PE X (.Subscript a b pos) (tOp r g tb):=by intro c s f H Q I h;exact bN (oU z w I h λv u l x y B A o m q=>p a b c l f B x y v u Q A o m q (hs _ _))
def zn4(K:BZ):R2:=λx y H Q=>∃p xs i v,x=.ref p/\y=.int i/\SqL K H p xs/\atI xs i=some v/\Q v H
def zn6(K:BZ):R2:=λx y H Q=>∃p xs i v,x=.ref p/\y=.int i/\SqT K H p xs/\atI xs i=some v/\Q v H
def zn5:R2:=λx y H Q=>∃z i c,x=.str z/\y=.int i/\z.length<=sizeLine/\atI z.cps.toList i=some c/\Q (.str ⟨#[c]⟩) H
theorem wv2:IxR X (zn4 X.K):=by
 intro value slice c s B H x y v u Q I L J h C;obtain⟨p,xs,i,z,rfl,rfl,M,O,q⟩:=h;cases L;obtain⟨t,rfl⟩:=J;obtain⟨m,r,pl,Y⟩:=I.list M;obtain⟨j,A,U,h3,T,P⟩:=sS O;obtain⟨w,F,l⟩:=r.get U;have hl:=r.length;have Z:=Vi;have f:EP X c B Q w s:=⟨z,H,I,l,q⟩;by_cases E:0<=i
 ·have o:i.toNat=j:=by rw[seqIndex_of E P]at A;exact Option.some.inj A
  exact item_listR pl.isList E (by lia) (by rw[o];simpa using F) f C
 ·have o:(i+(m.toArray.size:Int)).toNat=j:=by rw[seqIndex_neg (by lia) T]at A;simp_all
  exact XM (x:=w) pl.isList.typeIs slot_list_getitem.lookup
   (wpAny_getItem_list_neg (Q:=λr G=>r=w/\EP X c B Q r G) pl.isList (by lia) (by rw[MK]<;>lia) (by lia) (by rw[o];simpa using F) ⟨rfl,f⟩) C
theorem ym5:IxR X (zn6 X.K):=by
 intro value slice c s m H x y v u Q I B A h E;obtain⟨p,xs,i,z,rfl,rfl,F,J,q⟩:=h;cases B;obtain⟨t,rfl⟩:=A;obtain⟨C,r,pl,P⟩:=I.tuple F;obtain⟨j,M,L,Z,Y,U⟩:=sS J;obtain⟨w,O,f⟩:=r.get L;have G:=r.length;have T:=Vi;have l:EP X c m Q w s:=⟨z,H,I,f,q⟩;exact XM (x:=w) pl.typeIs slot_tuple_getitem.lookup
  (getItem_tuple (j:=j) (Q:=λr o=>r=w/\EP X c m Q r o) pl (by lia) (by lia) (by rw[MK,<-G];exact M) (by simpa using O) ⟨rfl,l⟩) E
theorem ym4:IxR X zn5:=by
 intro value slice f s J H x y v u Q I o m h p;obtain⟨z,i,c,rfl,rfl,L,A,q⟩:=h;obtain⟨t,rfl⟩:=o;obtain⟨K,rfl⟩:=m;obtain⟨j,l,E,O,C,B⟩:=sS A;have w:z.cps.toList.length=z.length:=by simp[Str.length]
 rw[w]at l C B;have M:=Vi;exact tail_any (JF s z t) slot_str_getitem.lookup (getItem_str (c:=c) (by
  have G:decide (i < -(2 ^ 63:Int))=false:=decide_eq_false (by lia);have F:decide (i≥2 ^ 63)=false:=decide_eq_false (by lia);rw[G,F,Bool.or_false]) (by rw[l];simpa using E) ⟨.str ⟨#[c]⟩,H,I.tok _,⟨_,rfl⟩,q⟩) p
def jp5(c f:Option Int)(n:Nat):(YS c f none n).1=((HT.sIx n 0 c:Nat):Int)/\(YS c f none n).2.1=((HT.sIx n n f:Nat):Int)/\(YS c f none n).2.2=1:=by
 refine⟨?_,?_,rfl⟩
 ·cases c with
  |none=>rfl
  |some i=>exact HT.js5 i n 0
 ·cases f with
  |none=>rfl
  |some i=>exact HT.js5 i n n
def jd8(its:List A_)(c f:Option Int):slicePick its.toArray c f none=((its.drop (HT.sIx its.length 0 c)).take (HT.sIx its.length its.length f - HT.sIx its.length 0 c)).toArray:=by obtain⟨m,l,h⟩:=jp5 c f its.toArray.size;unfold slicePick;rw[m,l,h];simp only[jY,j5,MK]<;>rfl
def zn7(K:BZ):V->Option Int->Option Int->Hp->VK->Prop:=λx c f H Q=>∃a xs,x=.ref a/\SqL K H a xs/\∀p,H p=none->Q (.ref p) (upd H p (.lst (aR xs c f)))
theorem yb7:SlR X (zn7 X.K):=by intro m s C H x v F E f l G Q I u B pl w h;obtain⟨a,xs,rfl,A,q⟩:=h;cases u;obtain⟨y,r,p,z⟩:=I.list A;have c:=r.length;refine⟨"list",_,slot_list_getitem.lookup,p.isList.typeIs,?_⟩;refine wpAny_getItem_list_slice p.isList B pl w .none (by simp) ?_ (by rw[MK]<;>lia);rw[jd8,<-c];refine⟨.ref s.heap.objs.size,_,I.laid (t':=s.toks) (o:=.lst (aR xs f l)) (λb J q=>JK _ q) (GX _) ?_,rfl,q _ (I.hok.fresh (GX _))⟩;exact⟨QG (V7 xs f l) z,_,0,(r.drop (HT.sIx xs.length 0 f)).take (HT.sIx xs.length xs.length l - HT.sIx xs.length 0 f),K_ _ rfl⟩
theorem Tf:Dh X (.builtin "len") (λxs H Q=>∃p f,xs=[.ref p]/\(SqL X.K H p f\/SqT X.K H p f)/\Q (.int f.length) H):=by
 intro v s z H xs us Q I r h;obtain⟨p,f,rfl,l,q⟩:=h;obtain⟨u,rfl,w⟩:=vals1 r;cases w;have A:=Vi;rcases l with l |l
 ·obtain⟨o,m,pl,y⟩:=I.list l;have c:=m.length;exact Calls.call_len_list pl.isList (by simp only[MK]<;>lia) ⟨.int f.length,H,I.tok _,⟨s.toks+1,by rw[MK,c]⟩,q⟩
 ·obtain⟨o,m,pl,y⟩:=I.tuple l;have c:=m.length;exact len_tuple pl (by simp only[MK]<;>lia) ⟨.int f.length,H,I.tok _,⟨s.toks+1,by rw[MK,c]⟩,q⟩
theorem jl1:Dh X (.builtin "len") (λxs H Q=>∃z,xs=[.str z]/\z.length<=sizeLine/\Q (.int z.length) H):=by intro c s f H xs us Q I r h;obtain⟨z,rfl,l,q⟩:=h;obtain⟨u,rfl,t,rfl⟩:=vals1 r;have m:=Vi;exact len_str (by lia) ⟨.int z.length,H,I.tok _,⟨_,rfl⟩,q⟩
theorem Rb:Dh X (.type "tuple") (λxs H Q=>∃p m,xs=[.ref p]/\((SqL X.K H p m/\∀l,H l=none->Q (.ref l) (upd H l (.tup m)))\/(SqT X.K H p m/\Q (.ref p) H))):=by
 intro c s A H xs us Q I r h;obtain⟨p,m,rfl,h⟩:=h;obtain⟨u,rfl,F⟩:=vals1 r;cases F;rcases h with ⟨z,q⟩ | ⟨z,q⟩
 ·obtain⟨f,y,pl,B⟩:=I.list z;have C:=y.length;refine call_tuple_list pl.isList (λv G=>?_) (by simp only[MK]<;>lia);have E:Inv X c A H {s with heap:=v}:=I.kept (t':=s.toks) G;have J:Inv X c A (upd H v.objs.size (.tup m)) {s with heap:=v.push {cls:=.type "tuple",data:=.seq f.toArray} }:=
   E.laid (t':=s.toks) (λb o e=>JK _ e) (GX _) (show Cg X.prog X.w _ _ _ (.tup m) from⟨B,f,y,IsTup.new _ _⟩)
  exact⟨.ref v.objs.size,_,J,rfl,q _ (E.hok.fresh (GX _))⟩
 ·obtain⟨f,y,pl,B⟩:=I.tuple z;exact call_tuple_same pl ⟨.ref p,H,I,rfl,q⟩
def tyV(K:BZ)(T:String)(x:V)(H:Hp):Prop:=match x with
 | .str _=>T = "str"
 | .int _=>T = "int"
 | .ref p=>(T = "list"/\∃xs,SqL K H p xs)\/(T = "tuple"/\∃o,K.lookup p=some o/\o.cls=.type "tuple"/\o.dict=none) \/
   (T = "dict"/\((∃c,H p=some (.dK c))\/∃c,H p=some (.dT c)))\/(T = "set"/\∃S n,H p=some (.set S n))
 |_=>False
def yu1{l:List (BJ×GR)}{y:St}{H:Hp}{s:BK}{T:String}{v:A_}(I:Inv X l y H s)(r:RelV x v)(ty:tyV X.K T x H):
  s.TypeIs v T/\∀a,v=.ref a->∃w,s.heap.get? a=some w/\w.dict=none:=by
 cases x with
 |str z=>obtain⟨t,rfl⟩:=r;cases(show T = "str" from ty);exact⟨JF s z t,λ_ e=>nomatch e⟩
 |int i=>obtain⟨t,rfl⟩:=r;cases(show T = "int" from ty);exact⟨typeIs_int s i t,λ_ e=>nomatch e⟩
 |ref p =>
  cases r;rcases ty with ⟨rfl,xs,B⟩ | ⟨rfl,o,f,C,q⟩ | ⟨rfl,f⟩ | ⟨rfl,S,n,f⟩
  ·obtain⟨A,_,pl,_⟩:=I.list B;refine⟨pl.isList.typeIs,λa e=>?_⟩;cases e;obtain⟨o,n,e,c,q,_⟩:=pl;exact⟨o,e,q⟩
  ·refine⟨⟨o,I.QZ p o f,C⟩,λa e=>?_⟩;cases e;exact⟨o,I.QZ _ o f,q⟩
  ·have z:∃o,s.heap.get? p=some o/\o.ExactDict:=by
    rcases f with ⟨m,f⟩ | ⟨m,f⟩
    ·obtain⟨_,_,_,_,o,_,_,e,h,_⟩:=I.hok p _ f;exact⟨o,e,h⟩
    ·obtain⟨_,_,_,_,o,_,_,e,h,_⟩:=I.hok p _ f;exact⟨o,e,h⟩
   obtain⟨o,e,h⟩:=z;refine⟨⟨o,e,h.1⟩,λa u=>?_⟩;cases u;exact⟨o,e,h.2.1⟩
  ·obtain⟨o,_,_,_,e,h,_⟩:=I.hok p _ f;refine⟨⟨o,e,h.1⟩,λa u=>?_⟩;cases u;exact⟨o,e,h.2.1⟩
 |_=>exact False.elim ty
def tBM(K:BZ)(T:String)(r:V->List V->Hp->VK->Prop)(c:TE)(t:TA):TE:=λf H Q=>c f H λx h=>tyV K T x h/\t f h λxs l=>r x xs l Q
variable {o:B_}{es:List B_}{c:TE}{t:TA}{name:BR}{apos cpos:HY}{T f:String}{r:V->List V->Hp->VK->Prop}
def eF(O:PlainAttrs T)(slot:Slot T name f)(z:jX (.builtin f)=pure (.type "method_descriptor"))(U:MtR X f r)(P:PE X o c)(Y:PA X (e::es) t)
  (u:DG o name X.env (CV o X.env)=CV o X.env:=by rfl)
  (w:((IK cpos (BP (e::es) X.env)).all (λx=>!x.1) && (JC cpos (GF [] X.env)).all (λx=>x.1.isSome)
   && decide ((e::es).length+([]:List HN).length+(if([]:List HN).isEmpty then 0 else 1)<30))=true:=by rfl)
  (q:(apos.endLine == cpos.line)=true:=by rfl)(hs:Zs X.env e es:=by rfl)(m:Zp X.env cpos es:=by rfl):
  PE X (.Call (.Attribute o name apos) (e::es) [] cpos) (tBM X.K T r c t):=by
 intro l s y H Q I h;refine wpAny_Call_method_late u w q rfl (thG (P l s y H _ I h) λv G x H1 C A p=>?_);obtain⟨ty,M⟩:=p;obtain⟨h1,Z⟩:=yu1 C A ty;refine⟨T,f,O,slot,z,h1,Z,?_⟩;have B:=Y cpos l G y H1 _ C M;rw[hs]at B ⊢;refine Calls.callWith_builtin (by show(false || (IK cpos (BP es X.env)).any (·.1))=false;rw[m]<;>rfl) (Calls.evalArgs_plain ?_);exact thn B λus F ⟨E,H2,I2,J,L⟩=>U l F y H2 x E v us Q I2 A J L
end
def MtM(X:Cx)(c:String)(r:V->List V->Hp->VK->Prop):Prop:=
 ∀(a:List (BJ×GR))(s:BK)(b:St)(H:Hp)(x:V)(xs:List V)(v:A_)(us:List A_)(Q:VK),Inv X a b H s->RelV x v->Vals xs us->r x xs H Q ->
  BL (BV X.prog X.w) X.A (call (.builtin c) (v::us)) (EP X a b Q) X.xe s
def Vals.zero:∀{us:List A_},Vals [] us->us=[]
 |_,.nil=>rfl
def Vals.unc(h:Vals (x::xs) us):∃u a,us=u::a/\RelV x u/\Vals xs a:=by
 cases h with
 |cons r t=>exact⟨_,_,rfl,r,t⟩
def Vals.one(h:Vals [x] us):∃u,us=[u]/\RelV x u:=by obtain⟨u,a,rfl,r,t⟩:=h.unc;exact⟨u,by rw[t.zero],r⟩
def Vals.two{y:V}(h:Vals [x,y] us):∃u v,us=[u,v]/\RelV x u/\RelV y v:=by obtain⟨u,a,rfl,r,t⟩:=h.unc;obtain⟨v,rfl,q⟩:=t.one;exact⟨u,v,rfl,r,q⟩
variable {its:List A_}{t':Nat}
section
variable {pins:List (BJ×GR)}{σ:St}{H:Hp}{s:BK}{l b:BJ}{xs ys zs:List V}
def Inv.lset{its':List A_}{f:Array A_->Array A_}(I:Inv X pins σ H s)(o:H l=some (.lst xs))
  (e:s.heap.get? l=some {cls:=.type "list",data:=.seq its.toArray n})(h:f its.toArray=its'.toArray)(c:Vals ys its')(a:ys.length<=sizeLine):
  Inv X pins σ (upd H l (.lst ys)) {s with heap:=s.heap.update l (Obj.mapSeq f),toks:=t'}:=by
 have q:=PySem.IsL.update e f;rw[h]at q;refine I.write (x:=l) (e:=l) (by rw[o];exact trivial) (.inl rfl) (λp u m g=>(m5 s.heap (Obj.mapSeq f) (Ne.symm m)).trans g) ⟨_,q⟩ ?_;exact⟨a,its',_,c,q⟩
def Inv.lnew(I:Inv X pins σ H s)(c:Vals ys its)(a:ys.length<=sizeLine):
  Inv X pins σ (upd H s.heap.objs.size (.lst ys)) {s with heap:=s.heap.push {cls:=.type "list",data:=.seq its.toArray},toks:=t'}:=
 I.laid (λ_ _ q=>JK _ q) (GX _) ⟨a,its,0,c,K_ _ rfl⟩
def Inv.fresh(I:Inv X pins σ H s):H s.heap.objs.size=none:=I.hok.fresh (GX _)
def Inv.lstM(I:Inv X pins σ H s)(a:H l=some (.lst xs)):xs.length<=sizeLine/\∃(its:List A_)(n:Nat),Vals xs its/\xs.length=its.length/\s.heap.get? l=some {cls:=.type "list",data:=.seq its.toArray n}:=by obtain⟨z,its,n,r,e⟩:=I.hok l _ a;exact⟨z,its,n,r,r.length,e⟩
theorem wj2(h:n<=sizeLine):Builtin.List.listTooLong n=false:=by unfold Builtin.List.listTooLong;lia
end
def ya4:V->List V->Hp->VK->Prop:=λx a H Q=>∃l xs y,x=.ref l/\a=[y]/\H l=some (.lst xs)/\xs.length<sizeLine/\Q .non (upd H l (.lst (xs++[y])))
theorem Vl:MtM X "list.append" ya4:=by intro a s m H x o v us Q I c f h;obtain⟨l,xs,y,rfl,rfl,b,p,q⟩:=h;cases c;obtain⟨u,rfl,g⟩:=f.one;obtain⟨z,its,n,r,w,e⟩:=I.lstM b;refine NK F.slot_list_append ⟨_,e,rfl⟩ F.entry_list_append (F.args_list_append_2 _ _) (PySem.list_append l its.toArray n u (by rw[MK];lia)) ⟨e,?_⟩;refine⟨.non,_,I.lset (its':=its++[u]) b e (by simp) (r.append (.cons g .nil)) ?_,rfl,q⟩;grind
def ya5:V->List V->Hp->VK->Prop:=λx c H Q=>∃l b xs a,x=.ref l/\c=[.ref b]/\H l=some (.lst xs)/\H b=some (.lst a)/\xs.length+a.length<=sizeLine/\Q .non (upd H l (.lst (xs++a)))
theorem ku8:MtM X "list.extend" ya5:=by
 intro g s G H x L v us Q I o p h;obtain⟨l,b,xs,J,rfl,rfl,m,C,M,q⟩:=h;cases o;obtain⟨u,rfl,w⟩:=p.one;cases w;obtain⟨z,its,n,r,O,e⟩:=I.lstM m;obtain⟨K,a,A,y,B,E⟩:=I.lstM C;have f:its.toArray.size+a.toArray.size<=sizeLine:=by rw[MK,MK];lia
 have c:¬ (!its.toArray.isEmpty && Builtin.List.listTooLong (its.toArray.size+a.toArray.size))=true:=by rw[wj2 f,jHk];lia
 refine NK F.slot_list_extend ⟨_,e,rfl⟩ F.entry_list_extend (F.args_list_extend_2 _ _)
  (AutoSeq1.list_extend_list_list_0 l its.toArray n b a.toArray A c (by rw[MK];lia) (by lia)) ⟨e,E,?_⟩
 refine⟨.non,_,I.lset (its':=its++a) m e (by simp) (r.append y) ?_,rfl,q⟩;simp_all
end L2
namespace Att
open PySem PySem.W PySem.Calls PyProof.Rows
variable {h:CP}
def Xa{P:nQ}:∀(ns:List Int)(vs:List A_),WellAll P h vs (ns.map WData.int)->F_ vs ns:=by
 intro ns;induction ns with
 |nil=>intro vs w;rw[cL]at w;cases w;exact .nil
 |cons n ns c =>
  intro vs w;rw[HH]at w;cases w with
  |cons a b=>cases a;exact .cons _ _ (c _ b)
variable {n:Nat}
theorem kw4{l:OpenLaw}(u:l.most=some n){P:nQ}{args:List WData}{vals:List A_}
  (c:l.row.toRowW.claim.pre args=true)(i:WellAll P h vals args):
  ∃a m b,vals=[Value.ref a]/\args=[WData.list (b.map WData.int)]/\h.get? a=some {cls:=.type "list",data:=.seq m.toArray}/\F_ m b/\b.length<=n:=by
 have j:WShape.hasAll [] args [.list .int]=true:=(pre_splitW c).1;have o:l.pre.holds [] {args:=args}=true:=(pre_splitW c).2;obtain⟨d,r,rfl,x,w⟩:=hasAllW_cons j;obtain rfl:=hasAllW_nil w;obtain⟨y,rfl,v⟩:=hasW_list x;obtain⟨b,rfl⟩:=items_int v;have e:b.length<=n:=by
  unfold OpenLaw.pre at o;have g:(WTm.not (.lt (.lit (.int (n:Int))) (.len (.arg 0)))).holds [] {args:=[.list (b.map .int)] }=true:=by have g:=(holds_andW o).1;rw[u]at g;exact g
  have z:=condW_of g (w_not (w_lt w_lit (w_len_list (w_arg rfl))));simp_all
 cases i with
 |cons q p =>
  cases p;cases q with
  |list s f=>exact⟨_,_,b,rfl,rfl,s,Xa b _ f,e⟩
def kv9(l:OpenLaw)(args:List WData):l.row.toRowW.claim.post args (.bool true) args=true:=
 postW_of (r:=l.row.toRowW) (X:=(true == true))
  (show WShape.has [] (.bool true) .bool=true by first |rfl |decide |simp[WShape.has,WShape.arms,WShape.armsAll])
  (show(WTm.eq .res (.lit (.bool true))).value [] {args:=args,res:=some (.bool true),after:=args}=some (.bool (true == true)) from w_eq_bool (w_res rfl) w_lit) rfl
def jr7{l:OpenLaw}{q:BW}{loose:List BR}{H:(BR->Option A_)->CP->Prop}{F:CQ->CP->Prop}{d:DefRec}
  (L:l.most=some n)(A:d.params.defaults=[])
  (call:∀(w:CQ)(c b:BK)(s x:BR->Option A_)(m:BJ)(o:GR)(v u e:A_)(a:BJ)(vs:List A_)(ns:List Int),
   Ground q loose [] H w c s x b.heap->F w b.heap ->
   b.heap.get? m=some o->o.data=.func (docDef d.name d.params d.body d.scope v u e)->b.heap.CodeRec u d.name->s d.name=some (.ref m) ->
   b.heap.get? a=some {cls:=.type "list",data:=.seq vs.toArray}->F_ vs ns->ns.length<=n->b.gens = #[] ->
   JS (BV l.prog w) QD (.call (.ref m) ⟨[.ref a],[]⟩) (λr p=>r=.ok (.ret (.bool true))/\OldK b.heap p.heap/\p.os=b.os/\NP p.gens) b):
  WalkO q loose H F l.row.toRowW d [] (λf vs=>PySem.call f vs):=by
 intro w c b s x G Y m o v u e Z kV K Q B E z P args vals as g C I y O;obtain rfl:Z=.none:=Dflts.none E A;obtain rfl:kV=.none:=Dflts.noKw E;obtain⟨a,vs,ns,rfl,rfl,i,hints,j⟩:=kw4 L g y;refine enter_call (JR (call w c b s x m o v u e a vs ns G Y K (fd_plain Q) B z i hints j P) λr p J=>?_);obtain⟨rfl,X,U,T⟩:=J;exact⟨.inl ⟨.bool true,.bool true,[],rfl,λ_=>rfl,.bool true,kv9 l _,λ_=>⟨List.Pairwise.nil,λ_ M=>(nomatch M)⟩⟩,X,U,T⟩
end Att
namespace L2
open PySem PySem.Spec PyProof.Rows
variable {vs:List A_}{ns:List Int}
def J3(h:F_ vs ns):Vals (ns.map V.int) vs:=by
 induction h with
 |nil=>exact .nil
 |cons n t h a=>exact .cons ⟨t,rfl⟩ a
def Only(H:Hp):Prop:=∀b,H b=none\/∃o a,H b=some (.frz o (.lst a))
variable {fd:DX}{x:BR}{sp:Sp}
theorem wh0{P:BW}{w:CQ}{K:BZ}{p L:BR->Option A_}{CX:CXT}{k:Nat}{X a:BJ}{c:BK}
  (KX:K.In c.heap)(C:c.heap.Ns HW p)(l:c.heap.Ns U_ L)(Q:∀x:BR,x ≠ "__name__"->L x=G_ x)(E:c.heap.NoLimit)(hg:c.gens = #[])
  (T:c.heap.get? a=some {cls:=.type "list",data:=.seq vs.toArray})(hi:F_ vs ns)(Z:ns.length<=sizeLine)(hr:Ed k QD)
  (F:∀base:CP,K.In base->base.Ns HW p->Ec P w K p base CX k X fd [x] sp)(j:∀(s:BK)(u:A_),TV s fd ⟨[u],[]⟩ [(x,u)])
  (M:∀H:Hp,Only H->SqL K H a (ns.map V.int)->sp [.ref a] H (λv _=>v=.bl true) λ_ _ _=>False)
  (U:∀H e g,CX [] H c (λ_ _ _=>False) e g->False):
  JS (BV P w) QD (.call (.ref X) ⟨[.ref a],[]⟩) (λr g=>r=.ok (.ret (.bool true))/\OldK c.heap g.heap/\g.os=c.os/\NP g.gens) c:=by
 have Y:=J3 hi;have y:=hi.length;have core:∀H:Hp,Only H->SqL K H a (ns.map V.int)->HOk P w H c.heap->(∀b,H b≠none->b=a)->(H a≠none->K.lookup a=none) ->
   JS (BV P w) QD (.call (.ref X) ⟨[.ref a],[]⟩) (λr g=>r=.ok (.ret (.bool true))/\OldK c.heap g.heap/\g.os=c.os/\NP g.gens) c:=by
  intro H hO hS B hA hK;have f:∀{b:BJ}{o:GR},c.heap.get? b=some o->H b=none->(ZX c.heap H).get? b=some o:=λe n=>we4 e n;have J:∀{b:BJ}{o:GR}{es:Array HF}{ep:Nat},c.heap.get? b=some o->o.data=.dict es ep->H b=none:=λ{b o es ep} e d=>by
   cases q:H b with
   |none=>rfl
   |some u=>grind
  have i:∀{b:BJ}{m:BR->Option A_},c.heap.Ns b m->(ZX c.heap H).Ns b m:=λ{b m} ⟨o,es,ep,e,d,r⟩=>⟨o,es,ep,f e (J e d),d,r⟩;have G:K.In (ZX c.heap H):=λb o e=>f (KX b o e) (by
   cases q:H b with
   |none=>rfl
   |some u =>
    have e':b=a:=hA b (by rw[q];simp);subst e';rw[hK (by rw[q];simp)]at e;cases e)
  have hM:Mod K p (ZX c.heap H):=⟨G,i C,⟨L,i l,Q⟩,let ⟨mc,h1,h2⟩:=E; ⟨mc,i h1,h2⟩⟩;have e0:cF P w K p (ZX c.heap H) QD [] c H:=⟨rfl,hM,λb o e=>wy0 e,mD (kr9 _ _),trivial,λb l=>absurd (show b∈([]:List BJ) from l) (by simp),B,.of_eq hg⟩;refine JR ((F _ G (i C)).run QD [] c H ⟨[.ref a],[]⟩ [.ref a] [.ref a] _ _ hr e0 (j c (.ref a)) (.cons rfl .nil) (M H hO hS)) λr g h=>?_;cases r with
  |error e=>exact(U H e g h).elim
  |ok fl =>
   cases fl with
   |next=>exact False.elim h
   |brk=>exact False.elim h
   |cont=>exact False.elim h
   |ret u =>
    obtain⟨v,H',os,bare,un,A,r',q⟩:=h;have q':v=.bl true:=q;subst q';obtain rfl:u=Value.bool true:=r';refine⟨rfl,OldK.of_keep λb o e=>?_,os,bare⟩;cases q:H b with
    |none=>exact un.keep b o e q (by intro z;exact absurd (show b∈([]:List BJ) from z) (by simp)) (by simp)
    |some u =>
     rcases hO b with z | ⟨ob,xs,z⟩
     ·lia
     ·have z2:=un.frzs b ob _ z;obtain⟨e1,_⟩:=B b _ z;obtain⟨e2,_⟩:=A b _ z2;lia
 cases O:K.lookup a with
 |some o=>have e:=KX a o O;rw[T]at e;cases e;refine core (λ_=>none) (λ_=>.inl rfl) (.inr ⟨_,vs.toArray,_,O,rfl,rfl,rfl,by rw[MK,y];exact Z,by simpa using Y⟩) (λb u z=>by have I:(none:Option HO)=some u:=z;cases I) (λb z=>absurd rfl z) λz=>absurd rfl z
 |none =>
  refine core (λb=>if b=a then some (.frz {cls:=.type "list",data:=.seq vs.toArray} (.lst (ns.map V.int))) else none) (λb=>?_) (.inl (.inr ⟨{cls:=.type "list",data:=.seq vs.toArray},if_pos rfl⟩)) (λb u z=>?_) (λb z=>?_) λ_=>O
  ·grind
  ·by_cases l:b=a
   ·have I:=(if_pos l).symm.trans z;cases I;subst l;exact⟨T,by rw[GQ];exact Z,vs,_,Y,T⟩
   ·lia
  ·lia
def yd1{l:W.OpenLaw}{n k:Nat}{q:BW}{loose:List BR}{XP:(BR->Option A_)->CP->Prop}{I:CQ->CP->Prop}{d:DefRec}{K:nQ->BZ}{CX:CQ->CXT}{sp:CQ->Sp}
  (M:l.most=some n)(z:n<=sizeLine)(B:d.params.defaults=[])(L:Ed k QD)
  (U:∀(w:CQ)(h:CP),I w h->(K w.params).In h)
  (F:∀(w:CQ)(i:BR->Option A_)(p:BJ)(h:CP),(K w.params).In h->h.Ns HW i->i d.name=some (.ref p) ->
   ∃fd:DX,(∀(s:BK)(u:A_),TV s fd ⟨[u],[]⟩ [(x,u)]) /\
    ∀base:CP,(K w.params).In base->base.Ns HW i->Ec l.prog w (K w.params) i base (CX w) k p fd [x] (sp w))
  (y:∀(w:CQ)(H:Hp)(a:BJ)(ns:List Int),ns.length<=n->Only H->SqL (K w.params) H a (ns.map V.int)->sp w [.ref a] H (λv _=>v=.bl true) λ_ _ _=>False)
  (C:∀(w:CQ)(H:Hp)(s:BK)(e:A_)(r:BK),CX w [] H s (λ_ _ _=>False) e r->False):
  W.WalkO q loose XP I l.row.toRowW d [] (λf vs=>PySem.call f vs):=by
 refine Att.jr7 M B λw E j i mb p o pm cd aa a vs ns G Y ho hd P A m hints c O=>?_;have J:=U w _ Y;obtain⟨fd,Q,hF⟩:=F w i p _ J G.T.g A;exact wh0 J G.T.g G.T.b G.T.builtins G.T.nolimit O m hints (QG c z) L hF Q (λH Z X=>y w H a ns c Z X) λH e r=>C w H j e r
def Dp(s:CT):Arguments:=match s with
 | .FunctionDef _ a _ _ _ _ _ _ _ _=>a
 |_=>{posonlyargs:=[],args:=[],vararg:=none,kwonlyargs:=[],kw_defaults:=[],kwarg:=none,defaults:=[] }
def Br(s:CT):List CT:=match s with
 | .FunctionDef _ _ b _ _ _ _ _ _ _=>b
 |_=>[]
def Ag(s:CT):JH:=match s with
 | .FunctionDef _ _ _ _ _ _ sc _ _ _=>sc
 |_=>{kind:=.function,names:=[],isGenerator:=false,isCoroutine:=false}
abbrev CX0:CXT:=λ_ _ _ _ _ _=>False
abbrev E0:XK:=λ_ _ _=>False
def zd1{X:Cx}:Passes CX0 X E0:=λ_ _ _ _ _ _ _ h=>h.elim
structure Fun(K:BZ)(x qual:BR)(st:CT)(f:BJ)(fd:DX):Prop where
 ex:∃(oc:A_)(od:Option BJ)(kV doc pm:A_)(an:Option BJ)(cdv ct:A_)(osl:Array (Option A_)),
  fd=W.fnOf x qual (Dp st) (Br st) (Ag st) .none kV doc pm an cdv ct/\K.lookup f=some ⟨oc,od,.func fd,osl⟩/\W.codeIn K cdv qual=true
 kp:W.keepIn K (.ref f)=true
variable {P:BW}{w:CQ}
variable {qual:BR}{st:CT}{f:BJ}
section
variable {K:BZ}{mg:BR->Option A_}{base:CP}
def Fun.ok{N ps:List BR}{k:Nat}(F:Fun K x qual st f fd)(S:Bt N ps (Ag st))(len:∀vs H Q E,sp vs H Q E->vs.length=ps.length)
  (c:∀(b:A_)(A:D_)(a:List LK)(s:BK)(H:Hp)(vs:List V)(Q:VK)(E:XK),Ed k (A.deeper (HJ qual (Ag st) s.heap.objs.size f b))->sp vs H Q E ->
   ∃t,PSs (W7 CX0 P w K mg base N qual (Ag st) f b A a s H E).nox (Br st) t/\t {nx:=λ_ m=>Q .non m,rt:=Q} (start N vs) H):Ec P w K mg base CX0 (k+1) f fd ps sp:=by
 obtain⟨p,o,kV,l,n,an,b,ct,i,rfl,lk,g⟩:=F.ex;refine yy9 lk g S len λA a s H vs Q E j e=>?_;obtain⟨t,h,q⟩:=c b A a s H vs Q E j e;exact⟨t,h.nox,q⟩
def Fun.binds{ps:List BR}(F:Fun K x qual st f fd)
  (h:∀(kV a c:A_)(an:Option BJ)(b ct:A_)(us:List A_),us.length=ps.length->MN (W.fnOf x qual (Dp st) (Br st) (Ag st) .none kV a c an b ct) ⟨us,[]⟩=pure (ps.zip us)):Binds K fd ps []:=by
 obtain⟨j,i,kV,a,c,an,b,ct,e,rfl,lk,g⟩:=F.ex;exact .all (h kV a c an b ct)
def lQ{h:A_}{od an:Option BJ}{e:Array (Option A_)}{kV b g a ct:A_}(l:K.lookup f=some ⟨h,od,.func (W.fnOf x qual (Dp st) (Br st) (Ag st) .none kV b g an a ct),e⟩)
  (c:W.codeIn K a qual=true)(k:W.keepIn K (.ref f)=true):Fun K x qual st f (W.fnOf x qual (Dp st) (Br st) (Ag st) .none kV b g an a ct):=⟨⟨h,od,kV,b,g,an,a,ct,e,rfl,l,c⟩,k⟩
end
variable {X:Cx}
def pv(i:Nat){pos:HY}(e:X.N[i]? = some x:=by rfl)(b:Vis X.env.scope x:=by first |exact Or.inl rfl |exact Or.inr (Or.inl rfl) |exact Or.inr (Or.inr rfl))(c:Zd x:=by decide)
  (a:(x == ("__classdict__" : BR))=false:=by decide):PE X (.Name x pos) (jF i):=yp6 e b c a
def Ad(H H':Hp):Prop:=∀b o,H b=some o->H' b=some o
def Ad.refl(H:Hp):Ad H H:=λ_ _ h=>h
def Ad.trans{H g e:Hp}(a:Ad H g)(b:Ad g e):Ad H e:=λc o h=>b c o (a c o h)
variable {H':Hp}
def Ad.free{H:Hp}(e:Ad H H'){l:BJ}(h:H' l=Option.none):H l=Option.none:=by
 cases q:H l with
 |none=>rfl
 |some o=>rw[e l o q]at h;cases h
section
variable {κ:Type}[DecidableEq κ]
def P0(a:List (κ×V))(k:κ):Option V:=(a.find? λb=>decide (b.1=k)).map (·.2)
def putK(a:List (κ×V))(k:κ)(v:V):List (κ×V):=
 if(a.any λb=>decide (b.1=k))=true then a.map (λb=>if b.1=k then(b.1,v) else b) else a++[(k,v)]
theorem Qc{p:κ×V}{r:List (κ×V)}{k:κ}(e:p.1=k):P0 (p::r) k=some p.2:=by simp[P0,ZL,e]
theorem Qa{p:κ×V}{r:List (κ×V)}{k:κ}(e:¬ p.1=k):P0 (p::r) k=P0 r k:=by simp[P0,ZL,e]
theorem jy7(k:κ):∀a:List (κ×V),(a.any λb=>decide (b.1=k))=(P0 a k).isSome
 | []=>rfl
 |p::r=>by
  rw[mJ];by_cases e:p.1=k
  ·simp_all [Qc,Bool.true_or,jGq]
  ·simp_all [Qa,Bool.false_or,jy7]
theorem Wl(a:List (κ×V))(k:κ)(v:V):(putK a k v).length<=a.length+1:=by unfold putK;grind
def Oh.isSome_eq{o:Option V}{u:Option A_}(r:Oh o u):o.isSome=u.isSome:=by
 cases o with
 |none=>cases u with
  |none=>rfl
  |some _=>exact(show False from r).elim
 |some _=>cases u with
  |none=>exact(show False from r).elim
  |some _=>rfl
def Oh.getD{o:Option V}{u:Option A_}{d:V}{d':A_}(r:Oh o u)(a:RelV d d'):RelV (o.getD d) (u.getD d'):=by
 cases o with
 |none=>cases u with
  |none=>exact a
  |some _=>exact(show False from r).elim
 |some _=>cases u with
  |none=>exact(show False from r).elim
  |some _=>exact r
def KV.val{a:List (κ×V)}{vs:List (κ×A_)}(r:KV a vs)(k:κ):Oh (P0 a k) (HR vs k):=by
 unfold KV at r;induction r with
 |nil=>exact True.intro
 | @cons p q ps c h t j =>
  obtain⟨i,l⟩:=h;by_cases e:p.1=k
  ·have g:q.1=k:=i.symm.trans e;have b:HR (q::c) k=some q.2:=by simp[HR,ZL,g]
   rw[Qc e,b];exact l
  ·have g:¬ q.1=k:=λz=>e (i.trans z);have b:HR (q::c) k=HR c k:=by simp[HR,ZL,g]
   rw[Qa e,b];exact j
def KV.any{a:List (κ×V)}{vs:List (κ×A_)}(r:KV a vs)(k:κ):(a.any λb=>decide (b.1=k))=vs.any λb=>decide (b.1=k):=by
 unfold KV at r;induction r with
 |nil=>rfl
 |cons h t c=>rw[mJ,mJ,c,h.1]
theorem KV.repl{b:List (κ×V)}{vs:List (κ×A_)}(r:KV b vs)(k:κ){y:V}{u:A_}(e:RelV y u):
  KV (b.map λa=>if a.1=k then(a.1,y) else a) (vs.map λa=>if a.1=k then(a.1,u) else a):=by
 unfold KV at r ⊢;induction r with
 |nil=>exact .nil
 | @cons p q ps g h t c=>rw[HH,HH];refine .cons ?_ c;lia
def KV.put{a:List (κ×V)}{vs:List (κ×A_)}(r:KV a vs)(k:κ){y:V}{u:A_}(b:RelV y u):KV (putK a k y) (stored vs k u):=by
 unfold putK stored;rw[r.any k];by_cases e:(vs.any λc=>decide (c.1=k))=true
 ·rw[if_pos e,if_pos e];exact r.repl k b
 ·rw[if_neg e,if_neg e];exact Paired.snoc r ⟨rfl,b⟩
def KV.length{a:List (κ×V)}{vs:List (κ×A_)}(r:KV a vs):a.length=vs.length:=Paired.length r
end
def g8{k:Key}{u:A_}(r:RelV (kV k) u):(Bv P w).is k u=true:=by
 cases k with
 |inl i=>obtain⟨t,e⟩:=(show ∃t,u=Value.int i t from r);subst e;exact jv5 P w i t
 |inr x=>obtain⟨t,e⟩:=(show ∃t,u=Value.str x t from r);subst e;exact K1 P w x t
theorem jh2{P:BW}{w:CQ}:∀{ks:List Key}{us:List A_},Vals (ks.map kV) us->ItemsAre (Bv P w) ks us
 | [],_,r=>by rw[cL]at r;cases r;exact .nil
 |k::ks,_,r=>by
  rw[HH]at r;cases r with
  |cons h t=>exact .cons (g8 h) (jh2 t)
abbrev KT(H:Hp):List (List Key×V)->List (List Key×BJ×A_)->Prop:=VG λp q=>p.1=q.1/\H q.2.1=some (.tup (p.1.map kV))/\RelV p.2 q.2.2
variable {kvs:List (List Key×V)}{xs:List (List Key×BJ×A_)}
def KT.val{H:Hp}(r:KT H kvs xs)(k:List Key):Oh (P0 kvs k) ((VB xs k).map (·.2)):=by
 induction r with
 |nil=>exact True.intro
 | @cons p q ps a h t i =>
  obtain⟨g,_,j⟩:=h;by_cases e:p.1=k
  ·have c:q.1=k:=g.symm.trans e;have b:VB (q::a) k=some q.2:=by simp[VB,ZL,c]
   rw[Qc e,b];exact j
  ·have c:¬ q.1=k:=λz=>e (g.trans z);have b:VB (q::a) k=VB a k:=by simp[VB,ZL,c]
   rw[Qa e,b];exact i
theorem KT.repl{H:Hp}(r:KT H kvs xs)(k:List Key){y:V}{u:A_}(c:RelV y u):
  KT H (kvs.map λa=>if a.1=k then(a.1,y) else a) (xs.map (putAt k u)):=by
 induction r with
 |nil=>exact .nil
 | @cons p q ps j h t g =>
  rw[HH,HH];refine .cons ?_ g;obtain⟨b,i,l⟩:=h;unfold putAt;by_cases e:p.1=k
  ·rw[if_pos e,if_pos (b.symm.trans e)];exact⟨b,i,c⟩
  ·lia
variable {b:BJ}
def KT.put{H:Hp}(r:KT H kvs xs)(k:List Key){y:V}{u:A_}(g:H b=some (.tup (k.map kV)))(a:RelV y u):
  KT H (putK kvs k y) (storedH xs k b u):=by
 have e:(kvs.any λc=>decide (c.1=k))=(VB xs k).isSome:=by rw[jy7,(r.val k).isSome_eq,uA]
 unfold putK storedH;rw[e];by_cases q:(VB xs k).isSome=true
 ·rw[if_pos q,if_pos q];exact r.repl k a
 ·rw[if_neg q,if_neg q];exact Paired.snoc r ⟨rfl,g,a⟩
def KT.keeps{H:Hp}(r:KT H kvs xs)(c:∀b a,H b=some (.tup a)->H' b=some (.tup a)):KT H' kvs xs:=
 Paired.mapP r λ_ _ z=>⟨z.1,c _ _ z.2.1,z.2.2⟩
variable {a:BJ}{H:Hp}
section
variable {h:CP}
def v5{u:HO}(ok:HOk P w H h)(e:Rd H a u):Cg P w H h a u:=e.ok ok
def eX{kvs:List (Key×V)}(ok:HOk P w H h)(e:Rd H a (.dK kvs)):kvs.length<=sizeLine/\(a == FQ)=false/\∃vs,KV kvs vs/\h.DictOf (Bv P w) a vs:=
 show Cg P w H h a (.dK kvs) from v5 ok e
def yx0{kvs:List (Key×V)}(ok:HOk P w H h)(e:H a=some (.dK kvs)):kvs.length<=sizeLine/\(a == FQ)=false/\∃vs,KV kvs vs/\h.DictOf (Bv P w) a vs:=eX ok (.inl e)
def Zn{ks:List Key}(ok:HOk P w H h)(e:H a=some (.tup (ks.map kV))):(L_ (Bv P w)).is h ks a:=by obtain⟨_,c,r,o,j,i,n,g⟩:=(show Cg P w H h a (.tup (ks.map kV)) from ok a _ e);exact⟨o,c.toArray,n,j,i,g,by simpa using jh2 r⟩
def eV(ok:HOk P w H h)(e:Rd H a (.dT kvs)):kvs.length<=sizeLine/\(a == FQ)=false /\
  ∃xs,KT H kvs xs/\h.DictOfH (L_ (Bv P w)) a xs:=by
 obtain⟨z,y,xs,r,o,A,B,v,u,s,n,j⟩:=(show Cg P w H h a (.dT kvs) from v5 ok e);refine⟨z,y,xs,r,o,A,B,v,u,s,n,λx c=>?_,j⟩;have all:∀{l:List (List Key×V)}{m:List (List Key×BJ×A_)},KT H l m->∀x∈m,(L_ (Bv P w)).is h x.1 x.2.1:=by
  intro l m q;induction q with
  |nil=>intro x c;exact nomatch c
  | @cons p q ps C g t i =>
   intro x c;rcases JN.mp c with e |c
   ·subst e;exact Zn ok (by rw[<-g.1];exact g.2.1)
   ·exact i x c
 exact all r x c
def yx3(ok:HOk P w H h)(e:H a=some (.dT kvs)):kvs.length<=sizeLine/\(a == FQ)=false /\
  ∃xs,KT H kvs xs/\h.DictOfH (L_ (Bv P w)) a xs:=eV ok (.inl e)
end
def X6(H:Hp)(a:BJ)(y:V)(r:Option V):Prop:=
 (∃kvs k,Rd H a (.dK kvs)/\y=kV k/\r=P0 kvs k)\/∃kvs k b,Rd H a (.dT kvs)/\y=.ref b/\H b=some (.tup (k.map kV))/\r=P0 kvs k
def aV(H:Hp)(a:BJ)(y v:V)(H':Hp):Prop:=
 (∃kvs k,H a=some (.dK kvs)/\y=kV k/\kvs.length<sizeLine/\H'=upd H a (.dK (putK kvs k v))) \/
 ∃kvs k b,H a=some (.dT kvs)/\y=.ref b/\H b=some (.tup (k.map kV))/\kvs.length<sizeLine/\H'=upd H a (.dT (putK kvs k v))
theorem X6.k{kvs:List (Key×V)}{k:Key}(e:H a=some (.dK kvs)):X6 H a (kV k) (P0 kvs k):=.inl ⟨kvs,k,.inl e,rfl,rfl⟩
variable {v:V}
theorem aV.k{kvs:List (Key×V)}{k:Key}(e:H a=some (.dK kvs))(c:kvs.length<sizeLine):aV H a (kV k) v (upd H a (.dK (putK kvs k v))):=.inl ⟨kvs,k,e,rfl,c,rfl⟩
def aV.t{k:List Key}(e:H a=some (.dT kvs))(g:H b=some (.tup (k.map kV)))(c:kvs.length<sizeLine):
  aV H a (.ref b) v (upd H a (.dT (putK kvs k v))):=.inr ⟨kvs,k,b,e,rfl,g,c,rfl⟩
variable {A:D_}{pins:List (BJ×GR)}{o:Option V}{s:BK}{σ:St}{y:V}{r u:A_}{E:A_->BK->Prop}
variable {Q:A_->BK->Prop}{h':CP}
section
variable {v:V}
def Inv.big(I:Inv X pins σ H s):FQ<s.heap.objs.size:=by have h:HW<s.heap.objs.size:=(I.mod.glob.keeps I.bk).lt;exact ZF (by decide) h
def kq8(F:A.units+1<FW)(I:Inv X pins σ H s)(g:X6 H a y (some v))(C:RelV y u)(h:∀i B,Inv X pins σ H B->RelV v i->Q i B):
  BL (BV X.prog X.w) A (QC (.ref a) u) Q E s:=by
 rcases g with ⟨kvs,k,e,n,l⟩ | ⟨kvs,k,b,e,n,K,l⟩
 ·subst n;obtain⟨z,J,vs,rel,q⟩:=eX I.hok e;obtain⟨i,j,c⟩:=Oh.some_of (v:=v) (o:=HR vs k) (by rw[l];exact rel.val k);exact cY (g8 C) q.mapOf j (h i _ (I.tok _) c)
 ·subst n;cases(show u=Value.ref b from C);obtain⟨z,J,xs,rel,q⟩:=eV I.hok e;obtain⟨i,j,c⟩:=Oh.some_of (v:=v) (o:=(VB xs k).map (·.2)) (by rw[l];exact rel.val k);obtain⟨p,G,m⟩:=bH.mp j;refine wpAny_getItem_heap (KZ F) (Zn I.hok K) q G ?_;rw[m];exact h i _ (I.tok _) c
def ws6(p:A.units+1<FW)(I:Inv X pins σ H s)(g:X6 H a y o)(n:RelV y u)(h:∀m,Inv X pins σ H m->Q (.bool (!o.isSome)) m):
  BL (BV X.prog X.w) A (CN .NotIn u (.ref a)) Q E s:=by
 rcases g with ⟨kvs,k,e,i,l⟩ | ⟨kvs,k,b,e,i,B,l⟩
 ·subst i;obtain⟨z,c,vs,rel,j⟩:=eX I.hok e;refine jW (g8 n) c j.mapOf ?_;rw[<-(rel.val k).isSome_eq,<-l];exact h _ (I.tok _)
 ·subst i;cases(show u=Value.ref b from n);obtain⟨z,c,xs,rel,j⟩:=eV I.hok e;refine wpAny_notIn_heap (KZ p) (Zn I.hok B) c j ?_;have q:=(rel.val k).isSome_eq;rw[uA]at q;rw[<-q,<-l];exact h _ (I.tok _)
def kj5{t':Nat}{c:HO}(I:Inv X pins σ H s)(g:Mut (H a))(hs:Heap.SameBut a s.heap h')(h:∃q,h'.get? a=some q)(new:Cg X.prog X.w (upd H a c) h' a c):
  Inv X pins σ (upd H a c) {s with heap:=h',toks:=t'}:=
 I.write (x:=a) (e:=a) g (.inl rfl) (λb q i z=>(hs.2 b i).trans z) h new
def yj7{kvs:List (Key×V)}{vs:List (Key×A_)}(z:kvs.length<=sizeLine)(c:(a == FQ)=false)(rel:KV kvs vs)(e:h'.DictOf (Bv P w) a vs):
  Cg P w H' h' a (.dK kvs):=⟨z,c,vs,rel,e⟩
theorem jf3{Q:Unit->BK->Prop}(T:A.units+1<FW)(I:Inv X pins σ H s)(g:aV H a y v H')(K:RelV y u)(L:RelV v r)(h:∀J,Inv X pins σ H' J->Q () J):
  BL (BV X.prog X.w) A (setItem (.ref a) u r) Q E s:=by
 rcases g with ⟨kvs,k,e,C,l,F⟩ | ⟨kvs,k,b,e,C,O,l,F⟩
 ·subst C F;obtain⟨z,B,vs,rel,G⟩:=yx0 I.hok e;have m:vs.length<=sizeLine:=by rw[<-rel.length];exact z
  have p:(putK kvs k v).length<=sizeLine:=by have:=Wl kvs k v;lia
  refine wpAny_setItem_pairs (hsz:=m) (g8 K) G λh' i n=>h _ ?_;have U:∃q,h'.get? a=some q:=let ⟨q,_,_,j,_⟩:=i; ⟨q,j⟩;exact kj5 I (by rw[e];exact True.intro) n U (yj7 p B (rel.put k L) i)
 ·subst C F;cases(show u=Value.ref b from K);obtain⟨z,B,xs,rel,G⟩:=yx3 I.hok e;have m:xs.length<=sizeLine:=by rw[<-Paired.length rel];exact z
  have p:(putK kvs k v).length<=sizeLine:=by have:=Wl kvs k v;lia
  refine wpAny_setItem_heap (hsz:=m) (KZ T) (Zn I.hok O) G λh' i n=>h _ ?_;obtain⟨q,es,ep,j,h2,h3,Z,_,Y⟩:=i;refine kj5 I (by rw[e];exact True.intro) n ⟨q,j⟩ ⟨p,B,_,(rel.put k O L).keeps λc ys M=>?_,q,es,ep,j,h2,h3,Z,Y⟩;rw[Ae (za6 M e (λz=>nomatch z))];exact M
end
def gU(i:B_):Prop:=∀c e,RN i false c e=operate [c,e] (QC c e)
def zZ{prog:BW}{env:LK}{value slice:B_}{pos:HY}{T q:String}
  (z:aL (.type T) "__getitem__" = pure (some (.builtin q)))(hs:gU slice)
  (h:BL (BV prog w) A (CV value env) (λo j=>BL (BV prog w) A (CV slice env) (λi c=>c.TypeIs o T/\BL (BV prog w) A (QC o i) Q E c) E j) E s):
  BL (BV prog w) A (CV (.Subscript value slice pos) env) Q E s:=by
 refine bN (GK h (λo j n=>GK n (λi c e=>?_) λ_ _ x=>x) λ_ _ x=>x);obtain⟨p,e⟩:=e;unfold VN;refine BX ?_;rw[getitemInPython_of_ne p.not_modules];refine BX (fQ p z ?_);have l:BL (BV prog w) A (RN slice false o i) (λr g=>BL (BV prog w) A (letTemporaryGo value o r >>= λ_=>pure r) Q E g) E c:=by rw[hs o i];exact wpAny_operating (GK e (λr g m=>BX (wpAny_letTemporaryGo (EY m))) λ_ _ x=>x)
 first
  |exact EY (BX l)
  |exact BX (EY (BX l))
  |exact BX l
def jt2(I:Inv X pins σ H s)(g:X6 H a y o):s.TypeIs (.ref a) "dict":=by
 rcases g with ⟨kvs,k,e,_,_⟩ | ⟨kvs,k,b,e,_,_,_⟩
 ·obtain⟨_,_,vs,_,c⟩:=eX I.hok e;exact c.typeIs
 ·obtain⟨_,_,xs,_,c⟩:=eV I.hok e;exact c.typeIs
def zg3(td ty:TE):TE:=λσ H Q=>td σ H λx e=>ty σ e λy c=>∃a v,x=.ref a/\X6 c a y (some v)/\Q v c
def yc1(ty td:TE):TE:=λσ H Q=>ty σ H λy e=>td σ e λx c=>∃a o,x=.ref a/\X6 c a y o/\Q (.bl (!o.isSome)) c
def ze8(td ty e:TE):TS:=λD σ H=>e σ H λv i=>td σ i λx h=>ty σ h λy g=>∃a c,x=.ref a/\aV g a y v c/\D.nx σ c
variable {e:B_}{pos:HY}{td ty:TE}
section
variable {o i c:B_}{j g:HY}{l:TE}
def wz0(J:X.A.units+1<FW)(K:PE X o td)(L:PE X i ty)(hs:gU i):PE X (.Subscript o i pos) (zg3 td ty):=by intro pins s σ H Q I h;refine zZ PySem.F.slot_dict_getitem.lookup hs (thn (K pins s σ H _ I h) λu q ⟨x,Y,T,B,G⟩=>thn (L pins q σ Y _ T G) λiv s2 m=>?_);obtain⟨y,U,p,z,a,v,M,g,C⟩:=m;subst M;obtain rfl:u=Value.ref a:=B;exact⟨jt2 p g,kq8 J p g z λZ s3 O n=>⟨v,U,O,n,C⟩⟩
def kv4(F:X.A.units+1<FW)(J:PE X i ty)(G:PE X o td):PC X .NotIn i o (yc1 ty td):=by intro pins s σ H Q I h;refine thn (J pins s σ H _ I h) λiv n ⟨y,U,O,p,B⟩=>thn (G pins n σ U _ O B) λu Z m=>?_;obtain⟨x,T,M,q,a,C,K,g,z⟩:=m;subst K;obtain rfl:u=Value.ref a:=q;exact ws6 F M g p λY L=>⟨.bl (!C.isSome),T,L,rfl,z⟩
def km1(J:X.A.units+1<FW)(K:PE X o td)(L:PE X i ty)(G:PE X c l)(hs:FJ c (some (.Subscript o i j)) pos.line X.env=pure false):
  PS X (.Assign [.Subscript o i j] c pos) (ze8 td ty l):=by
 intro pins s σ H D I h;refine W_ (thn (G pins s σ H _ I h) λr n ⟨v,H1,Y,z,F⟩=>thn (K pins n σ H1 _ Y F) λu m ⟨x,H2,U,q,C⟩=>thn (L pins m σ H2 _ U C) λiv s3 ⟨y,H3,T,p,a,Z,M,g,B⟩=>?_) hs;subst M;obtain rfl:u=Value.ref a:=q;exact jf3 J T g p z λs4 O=>⟨σ,Z,O,B⟩
end
def wb7(h:CP)(c:FQ<h.objs.size):Cg P w H (h.push {cls:=.type "dict",data:=.dict #[] }) h.objs.size (.dK []):=
 ⟨RX _,beq_eq_false_iff_ne.mpr (Ne.symm (MJ c)),[],.nil,Heap.DictOf.new h⟩
def wc0(h:CP)(c:FQ<h.objs.size):Cg P w H (h.push {cls:=.type "dict",data:=.dict #[] }) h.objs.size (.dT []):=
 ⟨RX _,beq_eq_false_iff_ne.mpr (Ne.symm (MJ c)),[],.nil,_,#[],0,K_ _ rfl,⟨rfl,rfl,rfl⟩,rfl,rfl,iT⟩
def ys5:TE:=λ_ H Q=>∀p,H p=none->Q (.ref p) (upd H p (.dK []))
def ys6:TE:=λ_ H Q=>∀p,H p=none->Q (.ref p) (upd H p (.dT []))
def wk1:PE X (.Dict [] [] pos) ys5:=λpins s σ H Q I h =>
 dB ⟨.ref s.heap.objs.size,_,I.laid (a:=s.heap.objs.size) (o:=.dK []) (t':=s.toks) (λ_ _ q=>JK _ q) (GX _) (wb7 s.heap I.big),rfl,h _ (I.hok.fresh (GX _))⟩
def wk2:PE X (.Dict [] [] pos) ys6:=λpins s σ H Q I h =>
 dB ⟨.ref s.heap.objs.size,_,I.laid (a:=s.heap.objs.size) (o:=.dT []) (t':=s.toks) (λ_ _ q=>JK _ q) (GX _) (wc0 s.heap I.big),rfl,h _ (I.hok.fresh (GX _))⟩
structure M2(X:Cx)(o:B_)(m:BR)(apos:HY)(e f:B_)(cpos:HY):Prop where
 base:DG o m X.env (CV o X.env)=CV o X.env
 few:((IK cpos (BP [e,f] X.env)).all (λx=>!x.1) && (JC cpos (GF [] X.env)).all (λx=>x.1.isSome)
  && decide (([e,f]:List B_).length+([]:List HN).length+(if([]:List HN).isEmpty then 0 else 1)<30))=true
 line:(apos.endLine == cpos.line)=true
 trees:IK cpos (BP [e,f] X.env)=[(false,CV e X.env),(false,CV f X.env)]
def IsD(H:Hp)(a:BJ):Prop:=(∃kvs,Rd H a (.dK kvs))\/∃kvs,Rd H a (.dT kvs)
def yU(I:Inv X pins σ H s)(d:IsD H a):
  s.TypeIs (.ref a) "dict"/\(∀b,Value.ref a=.ref b->∃c,s.heap.get? b=some c/\c.dict=none)/\(a == FQ)=false:=by
 rcases d with ⟨kvs,e⟩ | ⟨kvs,e⟩
 ·obtain⟨_,h,vs,_,g⟩:=eX I.hok e;refine⟨g.typeIs,λb q=>?_,h⟩;cases q;obtain⟨c,_,_,j,i,_⟩:=g;exact⟨c,j,i.2.1⟩
 ·obtain⟨_,h,xs,_,g⟩:=eV I.hok e;refine⟨g.typeIs,λb q=>?_,h⟩;cases q;obtain⟨c,_,_,j,i,_⟩:=g;exact⟨c,j,i.2.1⟩
section
variable {d:V}
def yj5(B:A.units+1<FW)(I:Inv X pins σ H s)(g:X6 H a y o)(p:RelV y u)(q:RelV d r)(h:∀m n,Inv X pins σ H n->RelV (o.getD d) m->Q m n):
  BL (BV X.prog X.w) A (call (.builtin "dict.get") [.ref a,u,r]) Q E s:=by
 rcases g with ⟨kvs,k,e,j,l⟩ | ⟨kvs,k,b,e,j,C,l⟩
 ·subst j;obtain⟨z,i,vs,rel,c⟩:=eX I.hok e;refine YB PySem.F.slot_dict_get c.typeIs PySem.F.entry_dict_get (PySem.F.args_dict_get_3 _ _ _) (meets_dict_get_default (Bv X.prog X.w) a (g8 p) i r) ⟨_,c.mapOf,h _ _ (I.tok _) ?_⟩;rw[l];exact(rel.val k).getD q
 ·subst j;cases(show u=Value.ref b from p);obtain⟨z,i,xs,rel,c⟩:=eV I.hok e;refine YB PySem.F.slot_dict_get c.typeIs PySem.F.entry_dict_get (PySem.F.args_dict_get_3 _ _ _) (meetsH_dict_get_default (L_ (Bv X.prog X.w)) a b i r) ⟨KZ B,k,xs,Zn I.hok C,c,h _ _ (I.tok _) ?_⟩;rw[l];exact(rel.val k).getD q
end
def ys4(td ty tx:TE):TE:=λσ H Q=>td σ H λx g=>∃a,x=.ref a/\IsD g a/\ty σ g λy h=>tx σ h λz c=>∃o,X6 c a y o/\Q (o.getD z) c
section
variable {o f:B_}{apos cpos:HY}{tx:TE}
def wj9(M:X.A.units+1<FW)(O:PE X o td)(U:PE X e ty)(T:PE X f tx)(m:M2 X o "get" apos e f cpos):PE X (.Call (.Attribute o "get" apos) [e,f] [] cpos) (ys4 td ty tx):=by
 intro pins s σ H Q I h;refine wpAny_Call_method m.base m.few m.line PySem.F.plainAttrs_dict PySem.F.slot_dict_get PySem.F.type_dict_get (thn (O pins s σ H _ I h) λu q c=>?_);obtain⟨x,H1,j,G,a,Y,d,L⟩:=c;subst Y;obtain rfl:u=Value.ref a:=G;obtain⟨n,l,_⟩:=yU j d;refine⟨n,l,?_⟩;rw[m.trees];refine Calls.callWith_builtin rfl (Calls.evalArgs_plain (Calls.spliced_cons (thn (U pins q σ H1 _ j L) λiv p ⟨y,H2,I2,C,K⟩ =>
  Calls.spliced_cons (thn (T pins p σ H2 _ I2 K) λfv s3 ⟨z,H3,I3,B,ov,g,J⟩=>Calls.spliced_nil ?_))))
 exact yj5 M I3 g C B λw' s4 Z i=>⟨_,H3,Z,i,J⟩
end
end L2
set_option maxHeartbeats 4000000
namespace PD
open PySem PySem.Spec PyProof.Rows L2
abbrev St:=L2.St
inductive D where
 |non |bl (b:Bool) |int (i:Int) |str (x:BR) |tup (xs:List D) |lst (xs:List D) |exc (c:BR) (ks:List D) (fs:List D)
def nr{c:Type}{a b:c}(h:a=b):a=b:=h
inductive R(α:Type) where
 |ok (a:α) |exc (e:D) |bad
noncomputable def R.bind{c b:Type}:R c->(c->R b)->R b
 | .ok a,f=>f a
 | .exc e,_=>.exc e
 | .bad,_=>.bad
instance:Monad R where
 pure:=R.ok
 bind:=R.bind
@[simp] theorem R.ok_bind{b c:Type}(a:b)(f:b->R c):(R.ok a).bind f=f a:=nr rfl
def RQ{b:Type}(r:R b)(q:b->Prop)(e:D->Prop):Prop:=
 match r with
 | .ok a=>q a
 | .exc x=>e x
 | .bad=>False
def RQ.bind{c b:Type}{r:R c}{f:c->R b}{q:b->Prop}{e:D->Prop}:RQ (r.bind f) q e↔RQ r (λa=>RQ (f a) q e) e:=by cases r<;>exact Iff.rfl
variable {e':D->Prop}
def RQ.mono{b:Type}{r:R b}{q c:b->Prop}{e:D->Prop}(h:RQ r q e)(f:∀a,q a->c a)(g:∀x,e x->e' x):RQ r c e':=by
 cases r with
 |ok a=>exact f a h
 |exc x=>exact g x h
 |bad=>exact h
abbrev AS:=Option BJ->Prop
def fresh(H:Hp):AS:=λo=>∃a,o=some a/\H a=none
def AS.plus(S:AS)(H:Hp):AS:=λo=>S o\/fresh H o
def AS.but(S:AS)(a:BJ):AS:=λo=>S o/\o≠some a
def RoL(K:BZ)(H:Hp)(a:BJ)(vs:List V):Prop:=
 (∃o,H a=some (.frz o (.lst vs))) \/
  ∃(o:GR)(its:Array A_)(n:Nat),K.lookup a=some o/\o.cls=.type "list"/\o.dict=none/\o.data=.seq its n/\its.size<=sizeLine/\Vals vs its.toList
def LsR(K:BZ)(H:Hp)(S:AS)(a:BJ)(vs:List V):Prop:=(H a=some (.lst vs)/\S (some a))\/(RoL K H a vs/\S none)
variable {vs:List V}
def LsR.sq{K:BZ}{H:Hp}{S:AS}{a:BJ}(h:LsR K H S a vs):SqL K H a vs:=by
 rcases h with ⟨h,_⟩ | ⟨⟨o,h⟩ |h,_⟩
 ·exact .inl (.inl h)
 ·exact .inl (.inr ⟨o,h⟩)
 ·exact .inr h
def SqL.ls{K:BZ}{H:Hp}{a:BJ}{S:AS}(h:SqL K H a vs)(h1:S (some a))(b:S none):LsR K H S a vs:=by
 rcases h with (h | ⟨o,h⟩) |h
 ·exact .inl ⟨h,h1⟩
 ·exact .inr ⟨.inl ⟨o,h⟩,b⟩
 ·exact .inr ⟨.inr h,b⟩
def kyD:Key->D
 | .inl i=>.int i
 | .inr x=>.str x
def W3(H:Hp)(c:BR)(ks:List D)(a:BJ)(vs:List V):Prop:=
 (c = "dict"/\∃kk:List (List Key),ks=kk.map (λk=>D.tup (k.map kyD))/\kk.length=vs.length/\kk.Nodup/\∃o,H a=some (.frz o (.dT (kk.zip vs)))) \/
  (c = "dictK"/\∃kk:List Key,ks=kk.map kyD/\kk.length=vs.length/\kk.Nodup/\∃o,H a=some (.frz o (.dK (kk.zip vs))))
abbrev idn(a:BJ):BR:=⟨#[1114112+a]⟩
def dkN(c:BR):Bool:=decide (c = "Desk") ||c.cps.any (λk=>decide (1114112<=k))
def Oz{c:BR}{a:BJ}(h:c = "Desk"\/c=idn a):dkN c=true:=by
 rcases h with rfl |rfl
 ·rfl
 ·simp[dkN,idn]
theorem rT{a b:BJ}(h:idn a=idn b):a=b:=by lia
abbrev KD(c:BR):Prop:=c = "dictK"\/dkN c=true
structure EC(K:BZ)(c:BR)(C W:BJ):Prop where
 at_:PySem.W.nsIn K PySem.mainGlobals c=some (some (.ref C))
 top:PySem.W.nsIn K PySem.mainGlobals "WebError" = some (some (.ref W))
 cls:∃cd,PySem.W.clsIn K C=some cd/\cd.name=c/\cd.hasDict=true/\cd.mro=[.ref C,.ref W,.type "ValueError",.type "Exception",.type "BaseException",.type "object"]
 wcl:∃cd,PySem.W.clsIn K W=some cd/\cd.name = "WebError"/\cd.mro=[.ref W,.type "ValueError",.type "Exception",.type "BaseException",.type "object"]
 gets:PySem.W.findIn K (.ref C) "__getattribute__" = some (some (.builtin "BaseException.__getattribute__"))
 geta:PySem.W.findIn K (.ref C) "__getattr__" = some none
 cla:PySem.W.findIn K (.ref C) "__class__" = some (some (.builtin "object.__class__"))
 nd:c ≠ "dict"/\¬ KD c
def xF(C a:BJ)(od:Option BJ):CP->Prop:=λh=>∃vs b,h.get? a=some ⟨.ref C,od,.fields vs,b⟩/\vs[2]? = some Value.none
def cD(K:BZ)(H:Hp)(c:BR)(ks:List D)(a:BJ)(vs:List V):Prop:=∃C W,EC K c C W /\
 ((ks=[]/\vs=[]/\H a=some (.ext (xF C a none)))\/∃f v b,ks=[.str f]/\vs=[v]/\PySem.W.findIn K (.ref C) f=some none/\H a=some (.ext (xF C a (some b)))/\H b=some (.xd [(f,v)]))
def cD.same{K:BZ}{H H':Hp}{c:BR}{ks:List D}{a:BJ}(e:Ad H H')(h:cD K H c ks a vs):cD K H' c ks a vs:=
 let ⟨C,W,g,b⟩:=h; ⟨C,W,g,b.imp (λ⟨x,y,z⟩=>⟨x,y,e _ _ z⟩) λ⟨f,v,i,x,y,n,z,t⟩=>⟨f,v,i,x,y,n,e _ _ z,e _ _ t⟩⟩
variable {o o':HO}
def cD.ne{K:BZ}{H:Hp}{c:BR}{ks:List D}{a l:BJ}(i:H l=some o)(h1:∀e,o≠.ext e)(m:∀z,o≠.xd z)(h:cD K H c ks a vs):cD K (upd H l o') c ks a vs:=by
 revert h;refine Ce λC W Y J=>?_;have g:∀{b e},H b=some (.ext e)->b≠l:=λq z=>by rw[z,i]at q;exact h1 _ (Option.some.inj q)
 have j:∀{b e},H b=some (.xd e)->b≠l:=λq z=>by rw[z,i]at q;exact m _ (Option.some.inj q)
 exact⟨C,W,Y,J.imp (λ⟨x,y,z⟩=>⟨x,y,by rw[Ae (g z)];exact z⟩) λ⟨f,v,p,x,y,n,z,t⟩=>⟨f,v,p,x,y,n,by rw[Ae (g z)];exact z,by rw[Ae (j t)];exact t⟩⟩
def aU(K:BZ)(H:Hp)(c:BR)(ks:List D)(a:BJ)(vs:List V):Prop:=
 (c = "Desk"\/c=idn a)/\∃C b q,∃kk:List Key,W.nsIn K PySem.mainGlobals "Desk" = some (some (.ref C))/\ks=kk.map kyD/\kk.length=vs.length/\kk.Nodup/\H a=some (.ins C b [("webs",.ref q)])/\H q=some (.dK (kk.zip vs))
def aU.same{K:BZ}{H H':Hp}{c:BR}{ks:List D}{a:BJ}(e:Ad H H')(h:aU K H c ks a vs):aU K H' c ks a vs:=
 let ⟨b,C,n,q,kk,m,l,j,i,g,f⟩:=h; ⟨b,C,n,q,kk,m,l,j,i,e _ _ g,e _ _ f⟩
def aU.ne{K:BZ}{H:Hp}{c:BR}{ks:List D}{a l:BJ}(g:H l=some o)(h1:∀C f s,o≠.ins C f s)(j:∀z,o≠.dK z)(h:aU K H c ks a vs):aU K (upd H l o') c ks a vs:=
 let ⟨i,C,f,q,kk,r,p,n,m,e,b⟩:=h; ⟨i,C,f,q,kk,r,p,n,m,by rw[Ae (λz=>by rw[z,g]at e;exact h1 _ _ _ (Option.some.inj e))];exact e,by rw[Ae (λz=>by rw[z,g]at b;exact j _ (Option.some.inj b))];exact b⟩
def XAt(K:BZ)(H:Hp)(S:AS)(c:BR)(ks:List D)(a:BJ)(vs:List V):Prop:=(W3 H c ks a vs/\S (some a))\/cD K H c ks a vs\/aU K H c ks a vs
def W3.same{H H':Hp}{c:BR}{ks:List D}{a:BJ}(e:Ad H H')(h:W3 H c ks a vs):W3 H' c ks a vs:=
 h.imp (λ⟨f,kk,j,i,b,o,g⟩=>⟨f,kk,j,i,b,o,e _ _ g⟩) λ⟨f,kk,j,i,b,o,g⟩=>⟨f,kk,j,i,b,o,e _ _ g⟩
theorem W3.has{H:Hp}{c:BR}{ks:List D}{a:BJ}(h:W3 H c ks a vs):∃o,H a=some o/\∀b,o≠.lst b:=by
 rcases h with ⟨_,kk,_,_,_,_,h⟩ | ⟨_,kk,_,_,_,_,h⟩
 ·simp_all
 ·simp_all
def W3.ne{H:Hp}{c:BR}{ks:List D}{a l:BJ}(j:l≠a)(h:W3 H c ks a vs):W3 (upd H l o) c ks a vs:=
 h.imp (λ⟨e,kk,i,g,b,x,f⟩=>⟨e,kk,i,g,b,x,by rw[Ae (Ne.symm j)];exact f⟩) λ⟨e,kk,i,g,b,x,f⟩=>⟨e,kk,i,g,b,x,by rw[Ae (Ne.symm j)];exact f⟩
variable {S':AS}
def XAt.same{K:BZ}{H H':Hp}{S:AS}{c:BR}{ks:List D}{a:BJ}(e:Ad H H')(b:∀o,S o->S' o)(h:XAt K H S c ks a vs):XAt K H' S' c ks a vs:=h.imp (λh=>⟨h.1.same e,b _ h.2⟩) λh=>h.imp (λh=>h.same e) λh=>h.same e
variable {ws ys:List V}
def XAt.wr{K:BZ}{H:Hp}{S:AS}{c:BR}{ks:List D}{a l:BJ}(b:H l=some (.lst ws))(h:XAt K H S c ks a vs):XAt K (upd H l (.lst ys)) S c ks a vs:=
 h.imp (λh=>⟨h.1.ne (λz=>by obtain⟨o,e,n⟩:=h.1.has;rw[<-z,b]at e;exact n ws (Option.some.inj e).symm),h.2⟩) λh=>h.imp (λh=>h.ne b (λ_ z=>by cases z) (λ_ z=>by cases z)) λh=>h.ne b (λ_ _ _ z=>by cases z) (λ_ z=>by cases z)
def XAt.wrD{K:BZ}{H:Hp}{S:AS}{c:BR}{ks:List D}{a l:BJ}(b:H l=some o)(h1:∀e,o≠.ext e)(j:∀z,o≠.xd z)(i:∀C n m,o≠.ins C n m)(g:∀z,o≠.dK z)(f:¬ S (some l))(h:XAt K H S c ks a vs):XAt K (upd H l o') S c ks a vs:=
 h.imp (λh=>⟨h.1.ne (λz=>f (z ▸ h.2)),h.2⟩) λh=>h.imp (λh=>h.ne b h1 j) λh=>h.ne b i g
def XAt.avoid{K:BZ}{H:Hp}{S:AS}{c:BR}{ks:List D}{a p:BJ}(b:H p=none)(h:XAt K H S c ks a vs):XAt K H (AS.but S p) c ks a vs:=
 h.imp (λh=>⟨h.1,h.2,λz=>by cases z;obtain⟨o,e,_⟩:=h.1.has;rw[b]at e;cases e⟩) λh=>h
def XAt.dsk{K:BZ}{H:Hp}{S:AS}{c:BR}{ks:List D}{a:BJ}(b:dkN c=true)(h:XAt K H S c ks a vs):aU K H c ks a vs:=
 (h.resolve_left λ⟨q,_⟩=>q.elim (λz=>by rw[z.1]at b;exact absurd b (by decide +kernel)) λz=>by rw[z.1]at b;exact absurd b (by decide +kernel)).resolve_left λ⟨C,W,e,_⟩=>e.nd.2 (.inr b)
def TpR(K:BZ)(H:Hp)(a:BJ)(xs:List V):Prop:=H a=some (.tup xs) \/
  ∃(o:GR)(its:Array A_)(n:Nat),K.lookup a=some o/\o.cls=.type "tuple"/\o.data=.seq its n/\its.size<=sizeLine/\Vals xs its.toList
def TpR.of{K:BZ}{H:Hp}{a:BJ}{xs:List V}(h:H a=some (.tup xs)):TpR K H a xs:=.inl h
def TpR.same{K:BZ}{H H':Hp}{a:BJ}{xs:List V}(e:Ad H H')(h:TpR K H a xs):TpR K H' a xs:=h.imp (e _ _) id
def TpR.sq{K:BZ}{H:Hp}{a:BJ}{xs:List V}(h:TpR K H a xs):SqT K H a xs:=h.imp .inl id
mutual
def Rep(K:BZ)(H:Hp)(S:AS):D->V->Prop
 | .non,v=>v=.non
 | .bl b,v=>v=.bl b
 | .int i,v=>v=.int i
 | .str x,v=>v=.str x
 | .tup e,v=>∃a vs,v=.ref a/\TpR K H a vs/\Al K H S e vs
 | .lst e,v=>∃a vs,v=.ref a/\LsR K H S a vs/\Al K H S e vs
 | .exc c ks f,v=>∃a vs,v=.ref a/\XAt K H S c ks a vs/\Al K H S f vs
def Al(K:BZ)(H:Hp)(S:AS):List D->List V->Prop
 | [],vs=>vs=[]
 |d::ds,vs=>∃v r,vs=v::r/\Rep K H S d v/\Al K H S ds r
end
variable {H H':Hp}{K:BZ}
variable {v:V}{ds:List D}
section
variable {b a:Hp}{S S':AS}
def Ad.sqT{a:BJ}{xs:List V}(e:Ad H H')(h:SqT K H a xs):SqT K H' a xs:=by
 rcases h with (h | ⟨o,h⟩) |h
 ·exact .inl (.inl (e _ _ h))
 ·exact .inl (.inr ⟨o,e _ _ h⟩)
 ·exact .inr h
def RoL.same{a:BJ}(e:Ad H H')(h:RoL K H a vs):RoL K H' a vs:=by
 rcases h with ⟨o,h⟩ |h
 ·exact .inl ⟨o,e _ _ h⟩
 ·exact .inr h
mutual
theorem Pg(g:∀a vs,TpR K H a vs->TpR K H' a vs)(i:∀a vs,LsR K H S a vs->LsR K H' S' a vs)(f:∀c ks a vs,XAt K H S c ks a vs->XAt K H' S' c ks a vs):∀(d:D)(v:V),Rep K H S d v->Rep K H' S' d v
 | .non,_,h=>h
 | .bl _,_,h=>h
 | .int _,_,h=>h
 | .str _,_,h=>h
 | .tup ds,v,h=>by revert h;refine Bo λa vs e q r=>?_;exact⟨a,vs,e,g a vs q,Ga g i f ds vs r⟩
 | .lst ds,v,h=>by revert h;refine Bo λa vs e q r=>?_;exact⟨a,vs,e,i a vs q,Ga g i f ds vs r⟩
 | .exc c ks j,v,h=>by revert h;refine Bo λa vs e q r=>?_;exact⟨a,vs,e,f c ks a vs q,Ga g i f j vs r⟩
theorem Ga(g:∀a vs,TpR K H a vs->TpR K H' a vs)(i:∀a vs,LsR K H S a vs->LsR K H' S' a vs)(f:∀c ks a vs,XAt K H S c ks a vs->XAt K H' S' c ks a vs):∀(ds:List D)(vs:List V),Al K H S ds vs->Al K H' S' ds vs
 | [],_,h=>h
 |d::ds,vs,h=>by revert h;refine Bo λv r e l j=>?_;exact⟨v,r,e,Pg g i f d v l,Ga g i f ds r j⟩
end
def LsR.same{a:BJ}(e:Ad H H')(c:∀o,S o->S' o)(h:LsR K H S a vs):LsR K H' S' a vs:=by
 rcases h with ⟨h,z⟩ | ⟨h,z⟩
 ·exact .inl ⟨e _ _ h,c _ z⟩
 ·exact .inr ⟨h.same e,c _ z⟩
def Rep.mono{d:D}(h:Rep K H S d v)(e:Ad H H')(c:∀o,S o->S' o):Rep K H' S' d v:=
 Pg (λ_ _ q=>TpR.same e q) (λ_ _ q=>q.same e c) (λ_ _ _ _ q=>q.same e c) d v h
def Al.mono(h:Al K H S ds vs)(e:Ad H H')(c:∀o,S o->S' o):Al K H' S' ds vs:=
 Ga (λ_ _ q=>TpR.same e q) (λ_ _ q=>q.same e c) (λ_ _ _ _ q=>q.same e c) ds vs h
theorem yr9{a l:BJ}(c:H l=some (.lst ws))(h:SqT K H a vs):SqT K (upd H l (.lst ys)) a vs:=by
 have ne:∀u,H a=some u->(∀z,u≠.lst z)->upd H l (.lst ys) a=some u:=λu e n=>by grind [Option.some.inj,Ae]
 rcases h with (h | ⟨o,h⟩) |h
 ·exact .inl (.inl (ne _ h (λz q=>by cases q)))
 ·exact .inl (.inr ⟨o,ne _ h (λz q=>by cases q)⟩)
 ·exact .inr h
def xR{a l:BJ}(c:H l=some (.lst ws))(h:TpR K H a vs):TpR K (upd H l (.lst ys)) a vs:=
 h.imp (λh=>by rw[Ae (λz=>by rw[z,c]at h;cases h)];exact h) id
def LsR.wr{a l:BJ}(e:H l=some (.lst ws))(c:¬ S (some l))(h:LsR K H S a vs):LsR K (upd H l (.lst ys)) S a vs:=by
 rcases h with ⟨h,z⟩ | ⟨⟨o,h⟩ |h,z⟩
 ·have:a≠l:=by rintro rfl;exact c z
  exact .inl ⟨by rw[Ae this];exact h,z⟩
 ·have:a≠l:=by rintro rfl;rw[e]at h;cases h
  exact .inr ⟨.inl ⟨o,by rw[Ae this];exact h⟩,z⟩
 ·exact .inr ⟨.inr h,z⟩
def Rep.wr{d:D}{l:BJ}(h:Rep K H S d v)(c:H l=some (.lst ws))(e:¬ S (some l)):Rep K (upd H l (.lst ys)) S d v:=
 Pg (λ_ _ q=>xR c q) (λ_ _ q=>q.wr c e) (λ_ _ _ _ q=>q.wr c) d v h
def Al.wr{l:BJ}(h:Al K H S ds vs)(c:H l=some (.lst ws))(e:¬ S (some l)):Al K (upd H l (.lst ys)) S ds vs:=
 Ga (λ_ _ q=>xR c q) (λ_ _ q=>q.wr c e) (λ_ _ _ _ q=>q.wr c) ds vs h
def yb9{a l:BJ}(e:H l=some o)(f:∀z,o≠.tup z)(c:∀x z,o≠.frz x (.tup z))(h:SqT K H a vs):SqT K (upd H l o') a vs:=by
 rcases h with (h | ⟨x,h⟩) |h
 ·exact .inl (.inl (by rw[Ae (λz=>by rw[z,e]at h;exact f _ (Option.some.inj h))];exact h))
 ·exact .inl (.inr ⟨x,by rw[Ae (λz=>by rw[z,e]at h;exact c _ _ (Option.some.inj h))];exact h⟩)
 ·exact .inr h
def zW{a l:BJ}(e:H l=some o)(c:∀z,o≠.tup z)(h:TpR K H a vs):TpR K (upd H l o') a vs:=
 h.imp (λh=>by rw[Ae (λz=>by rw[z,e]at h;exact c _ (Option.some.inj h))];exact h) id
def LsR.wrD{a l:BJ}(g:H l=some o)(c:∀x z,o≠.frz x (.lst z))(f:¬ S (some l))(h:LsR K H S a vs):LsR K (upd H l o') S a vs:=by
 rcases h with ⟨h,z⟩ | ⟨⟨x,h⟩ |h,z⟩
 ·exact .inl ⟨by rw[Ae (λ(e:a=l)=>f (e ▸ z))];exact h,z⟩
 ·exact .inr ⟨.inl ⟨x,by rw[Ae (λe=>by rw[e,g]at h;exact c _ _ (Option.some.inj h))];exact h⟩,z⟩
 ·exact .inr ⟨.inr h,z⟩
def Xb:HO->Bool
 | .frz _ (.dT _)=>true
 | .frz _ (.dK _)=>true
 |_=>false
def Zk(h:Xb o=true):∀z,o≠.tup z:=λz e=>by subst e;cases h
def wf3(h:Xb o=true):∀x z,o≠.frz x (.tup z):=λx z e=>by subst e;cases h
def ju6(h:Xb o=true):∀z,o≠.ext z:=λz e=>by subst e;cases h
def kl1(h:Xb o=true):∀z,o≠.xd z:=λz e=>by subst e;cases h
def Zj(h:Xb o=true):∀x z,o≠.frz x (.lst z):=λx z e=>by subst e;cases h
def ju7(h:Xb o=true):∀C f c,o≠.ins C f c:=λ_ _ _ e=>by subst e;cases h
def kl0(h:Xb o=true):∀z,o≠.dK z:=λz e=>by subst e;cases h
def Rep.wrD{d:D}{l:BJ}(h:Rep K H S d v)(e:H l=some o)(c:Xb o=true)(f:¬ S (some l)):Rep K (upd H l o') S d v:=
 Pg (λ_ _ q=>zW e (Zk c) q) (λ_ _ q=>q.wrD e (Zj c) f) (λ_ _ _ _ q=>q.wrD e (ju6 c) (kl1 c) (ju7 c) (kl0 c) f) d v h
def Al.wrD{l:BJ}(h:Al K H S ds vs)(e:H l=some o)(c:Xb o=true)(f:¬ S (some l)):Al K (upd H l o') S ds vs:=
 Ga (λ_ _ q=>zW e (Zk c) q) (λ_ _ q=>q.wrD e (Zj c) f) (λ_ _ _ _ q=>q.wrD e (ju6 c) (kl1 c) (ju7 c) (kl0 c) f) ds vs h
def LsR.avoid{a p:BJ}(c:H p=none)(h:LsR K H S a vs):LsR K H (AS.but S p) a vs:=by
 rcases h with ⟨h,z⟩ | ⟨h,z⟩
 ·exact .inl ⟨h,z,λe=>by cases e;rw[c]at h;cases h⟩
 ·exact .inr ⟨h,z,λe=>by cases e⟩
def Rep.avoid{d:D}{p:BJ}(h:Rep K H S d v)(c:H p=none):Rep K H (AS.but S p) d v:=
 Pg (λ_ _ q=>q) (λ_ _ q=>q.avoid c) (λ_ _ _ _ q=>q.avoid c) d v h
def Al.avoid{p:BJ}(h:Al K H S ds vs)(c:H p=none):Al K H (AS.but S p) ds vs:=
 Ga (λ_ _ q=>q) (λ_ _ q=>q.avoid c) (λ_ _ _ _ q=>q.avoid c) ds vs h
mutual
def D.imm:D->Bool
 | .lst _=>false
 | .tup ds=>Ft ds
 | .exc _ _ _=>false
 |_=>true
def Ft:List D->Bool
 | []=>true
 |d::ds=>d.imm && Ft ds
end
mutual
theorem ya7:∀(d:D)(v:V),d.imm=true->Rep K H S d v->Rep K H S' d v
 | .non,_,_,h=>h
 | .bl _,_,_,h=>h
 | .int _,_,_,h=>h
 | .str _,_,_,h=>h
 | .tup ds,v,i,h=>by revert h;refine Bo λa vs e q r=>?_;exact⟨a,vs,e,q,Ui ds vs i r⟩
 | .lst ds,v,i,h=>by cases i
 | .exc c ks f,v,i,h=>by cases i
theorem Ui:∀(ds:List D)(vs:List V),Ft ds=true->Al K H S ds vs->Al K H S' ds vs
 | [],_,_,h=>h
 |d::ds,vs,i,h=>by revert h;refine Bo λv r e g f=>?_;have c:(d.imm && Ft ds)=true:=i;rw[M_]at c;exact⟨v,r,e,ya7 d v c.1 g,Ui ds r c.2 f⟩
end
def Al.length:∀{ds:List D}{vs:List V},Al K H S ds vs->ds.length=vs.length
 | [],_,h=>by rw[show _=_ from h];rfl
 |d::ds,vs,h=>by revert h;refine Bo λv r c _ e=>?_;obtain rfl:=c;have:=Al.length e;simp[this]
def Al.nil:Al K H S [] []:=rfl
def Al.cons{d:D}{v:V}{ds:List D}{vs:List V}(h:Rep K H S d v)(r:Al K H S ds vs):Al K H S (d::ds) (v::vs):=⟨v,vs,rfl,h,r⟩
def Al.append:∀{ds es:List D}{vs ws:List V},Al K H S ds vs->Al K H S es ws->Al K H S (ds++es) (vs++ws)
 | [],_,_,_,h,r=>by rw[show _=_ from h];exact r
 |d::ds,_,_,_,h,r=>by revert h;refine Bo λv t c f e=>?_;obtain rfl:=c;exact⟨v,_,rfl,f,Al.append e r⟩
theorem Al.get:∀{ds:List D}{vs:List V}{i:Nat}{d:D},Al K H S ds vs->ds[i]? = some d->∃v,vs[i]? = some v/\Rep K H S d v
 | [],_,_,_,_,e=>by simp at e
 |x::ds,_,0,d,h,e=>by revert h;refine Bo λv t g j f=>?_;simp_all
 |x::ds,_,i+1,d,h,e=>by revert h;refine Bo λv t c j f=>?_;obtain rfl:=c;refine Aw (λw Y J=>?_) (Al.get (i:=i) f (by simpa using e));simp_all
def Al.take:∀(n:Nat){ds:List D}{vs:List V},Al K H S ds vs->Al K H S (ds.take n) (vs.take n)
 |0,_,_,_=>by simp;exact Al.nil
 |n+1,[],_,h=>by rw[show _=_ from h];exact Al.nil
 |n+1,d::ds,_,h=>by revert h;refine Bo λv t c f e=>?_;obtain rfl:=c;exact⟨v,_,rfl,f,Al.take n e⟩
def Al.drop:∀(n:Nat){ds:List D}{vs:List V},Al K H S ds vs->Al K H S (ds.drop n) (vs.drop n)
 |0,_,_,h=>h
 |n+1,[],_,h=>by rw[show _=_ from h];exact Al.nil
 |n+1,d::ds,_,h=>by revert h;refine Bo λv t c f e=>?_;obtain rfl:=c;exact Al.drop n e
def Al.one{d:D}(h:Al K H S [d] vs):∃v,vs=[v]/\Rep K H S d v:=by revert h;refine Bo λv r c f e=>?_;obtain rfl:=c;exact⟨v,by rw[show r=[] from e],f⟩
def Al.two{d e:D}(h:Al K H S [d,e] vs):∃v u,vs=[v,u]/\Rep K H S d v/\Rep K H S e u:=by revert h;refine Bo λv r f j i=>?_;obtain rfl:=f;refine Aw (λu c g=>?_) (i.one);obtain rfl:=c;exact⟨v,u,rfl,j,g⟩
end
abbrev Ev:=List (Option D)
structure DC where
 H0:Hp
 S0:AS
 O:List Nat
 Ex:D->V->Hp->Prop
 Z:List BJ
def DC.S(c:DC):AS:=λo=>c.S0 o\/∃a,o=some a/\c.H0 a=none/\a∉c.Z
def live(ρ:Ev)(i:Nat):Prop:=∃d,ρ[i]? = some (some d)
def owned(c:DC)(ρ:Ev)(b:St)(a:BJ):Prop:=∃i,i∈c.O/\live ρ i/\b[i]? = some (some (.ref a))
def DC.N(c:DC)(ρ:Ev)(b:St):AS:=λo=>c.S o/\∀a,o=some a->¬ owned c ρ b a
abbrev Hd:=Hp->AS->Prop
structure W4(P:Hd):Prop where
 mono:∀{H H':Hp}{S S':AS},Ad H H'->(∀o,S o->S' o)->P H S->P H' S'
 wr:∀{H:Hp}{S:AS}{l:BJ}{ws ys:List V},H l=some (.lst ws)->¬ S (some l)->P H S->P (upd H l (.lst ys)) S
 wrD:∀{H:Hp}{S:AS}{l:BJ}{o o':HO},H l=some o->Xb o=true->¬ S (some l)->P H S->P (upd H l o') S
 avoid:∀{H:Hp}{S:AS}{p:BJ},H p=none->P H S->P H (AS.but S p)
def Dr(K:BZ)(H:Hp)(S:AS)(d:D)(a:BJ):Prop:=
 (∃vs ds,d=.lst ds/\H a=some (.lst vs)/\Al K H S ds vs)\/∃vs cc ks b,d=.exc cc ks b/\W3 H cc ks a vs/\Al K H S b vs
def Dr.has{S:AS}{d:D}{a:BJ}(h:Dr K H S d a):∃o,H a=some o:=by
 rcases h with ⟨vs,ds,_,h,_⟩ | ⟨vs,cc,ks,b,_,h,_⟩
 ·exact⟨_,h⟩
 ·obtain⟨o,e,_⟩:=h.has;exact⟨o,e⟩
def Dr.mono{S:AS}{d:D}{a:BJ}(h:Dr K H S d a)(e:Ad H H')(b:∀o,S o->S' o):Dr K H' S' d a:=
 h.imp (λ⟨vs,ds,Y,J,Z⟩=>⟨vs,ds,Y,e _ _ J,Z.mono e b⟩) λ⟨vs,cc,ks,c,Y,J,Z⟩=>⟨vs,cc,ks,c,Y,J.same e,Z.mono e b⟩
def Dr.avoid{S:AS}{d:D}{a p:BJ}(h:Dr K H S d a)(b:H p=none):Dr K H (AS.but S p) d a:=
 h.imp (λ⟨vs,ds,Y,J,Z⟩=>⟨vs,ds,Y,J,Z.avoid b⟩) λ⟨vs,cc,ks,c,Y,J,Z⟩=>⟨vs,cc,ks,c,Y,J,Z.avoid b⟩
def Dr.wr{S:AS}{d:D}{a l:BJ}(h:Dr K H S d a)(e:H l=some (.lst ws))(c:¬ S (some l))(b:a≠l):Dr K (upd H l (.lst ys)) S d a:=
 h.imp (λ⟨vs,ds,Y,J,Z⟩=>⟨vs,ds,Y,by rw[Ae b];exact J,Z.wr e c⟩) λ⟨vs,cc,ks,f,Y,J,Z⟩=>⟨vs,cc,ks,f,Y,J.ne (Ne.symm b),Z.wr e c⟩
def Dr.wrD{S:AS}{d:D}{a l:BJ}(h:Dr K H S d a)(f:H l=some o)(c:Xb o=true)(e:¬ S (some l))(b:a≠l):Dr K (upd H l o') S d a:=
 h.imp (λ⟨vs,ds,Y,J,Z⟩=>⟨vs,ds,Y,by rw[Ae b];exact J,Z.wrD f c e⟩) λ⟨vs,cc,ks,g,Y,J,Z⟩=>⟨vs,cc,ks,g,Y,J.ne (Ne.symm b),Z.wrD f c e⟩
def Dr.rep{S:AS}{d:D}{a:BJ}(h:Dr K H S d a)(b:S' (some a))(c:∀o,S o->S' o):Rep K H S' d (.ref a):=by
 rcases h with ⟨vs,ds,rfl,J,Z⟩ | ⟨vs,cc,ks,e,rfl,J,Z⟩
 ·exact⟨a,vs,rfl,.inl ⟨J,b⟩,Z.mono (Ad.refl _) c⟩
 ·exact⟨a,vs,rfl,.inl ⟨J,b⟩,Z.mono (Ad.refl _) c⟩
theorem Dr.lst{S:AS}{a:BJ}(h:Dr K H S (.lst ds) a):∃vs,H a=some (.lst vs)/\Al K H S ds vs:=by
 rcases h with ⟨vs,b,e,J,Z⟩ | ⟨vs,cc,ks,c,e,_⟩
 ·simp_all
 ·cases e
def Dr.dct{S:AS}{cc:BR}{ks fs:List D}{a:BJ}(h:Dr K H S (.exc cc ks fs) a):∃vs,W3 H cc ks a vs/\Al K H S fs vs:=by
 rcases h with ⟨vs,f,e,_⟩ | ⟨vs,g,b,c,e,J,Z⟩
 ·cases e
 ·cases e;exact⟨vs,J,Z⟩
structure Ar(K:BZ)(c:DC)(hs:List Hd)(ρ:Ev)(σ:St)(H:Hp):Prop where
 same:Ad c.H0 H
 len:ρ.length=σ.length
 own:∀i d,i∈c.O->ρ[i]? = some (some d)->∃a,σ[i]? = some (some (.ref a))/\(c.H0 a=none/\a∉c.Z)/\Dr K H (c.N ρ σ) d a
 apart:∀i j a,i∈c.O->j∈c.O->live ρ i->live ρ j->σ[i]? = some (some (.ref a))->σ[j]? = some (some (.ref a))->i=j
 oth:∀i d,i∉c.O->ρ[i]? = some (some d)->∃v,σ[i]? = some (some v)/\Rep K H (c.N ρ σ) d v
 held:∀P∈hs,W4 P/\P H (c.N ρ σ)
 excl:∀a∈c.Z,H a≠none
variable {c:DC}{ρ:Ev}{hs:List Hd}{σ:St}
def Ar.mono(h:Ar K c hs ρ σ H)(e:Ad H H'):Ar K c hs ρ σ H' where
 same:=h.same.trans e
 len:=h.len
 own:=λi d hi hd=>by refine Gx (λa J e4 e5=>?_) (h.own i d hi hd);exact⟨a,J,e4,e5.mono e λ_ q=>q⟩
 apart:=h.apart
 oth:=λi d hi hd=>by refine Aw (λv Y J=>?_) (h.oth i d hi hd);exact⟨v,Y,J.mono e λ_ q=>q⟩
 held:=λP hp=>⟨(h.held P hp).1,(h.held P hp).1.mono e (λ_ q=>q) (h.held P hp).2⟩
 excl:=λa ha z=>h.excl a ha (e.free z)
def Ar.ownd(h:Ar K c hs ρ σ H){a:BJ}(o:owned c ρ σ a):∃o,H a=some o:=by revert o;refine Gx λi f b e=>?_;obtain⟨d,g⟩:=b;refine Gx (λj J _ Z=>?_) (h.own i d f g);rw[e]at J;cases J;exact Z.has
def Ar.ownL(h:Ar K c hs ρ σ H)(i:Nat)(ds:List D)(e:i∈c.O)(f:ρ[i]? = some (some (.lst ds))):∃a vs b,D.lst ds=.lst b/\σ[i]? = some (some (.ref a))/\H a=some (.lst vs)/\(c.H0 a=none/\a∉c.Z)/\Al K H (c.N ρ σ) b vs:=by refine Gx (λa J m l=>?_) (h.own i _ e f);refine Aw (λvs j g=>?_) (l.lst);exact⟨a,vs,ds,rfl,J,j,m,g⟩
theorem Ar.freshN(h:Ar K c hs ρ σ H){o:Option BJ}(q:fresh H o):c.N ρ σ o:=by revert q;refine Aw λa f e=>?_;obtain rfl:=f;refine⟨.inr ⟨a,rfl,h.same.free e,λg=>h.excl a g e⟩,λb j i=>?_⟩;cases j;obtain⟨vs,e'⟩:=h.ownd i;lia
inductive Lv where
 |fr |no |any
def lvS(c:DC)(ρ:Ev)(σ:St)(H:Hp):Lv->AS
 | .fr=>fresh H
 | .no=>c.N ρ σ
 | .any=>c.S
def Lv.le:Lv->Lv->Bool
 | .fr,_=>true
 | .no,.fr=>false
 | .no,_=>true
 | .any,.any=>true
 | .any,_=>false
def Xu(h:Ar K c hs ρ σ H){l l':Lv}(a:l.le l'=true){o:Option BJ}(q:lvS c ρ σ H l o):lvS c ρ σ H l' o:=by
 cases l with
 |fr =>
  cases l' with
  |fr=>exact q
  |no=>exact h.freshN q
  |any=>exact(h.freshN q).1
 |no =>
  cases l' with
  |fr=>cases a
  |no=>exact q
  |any=>exact q.1
 |any =>
  cases l' with
  |fr=>cases a
  |no=>cases a
  |any=>exact q
def Dj(e:Ad H H'){l:Lv}{o:Option BJ}(q:lvS c ρ σ H' l o):lvS c ρ σ H l o:=by
 cases l with
 |fr=>obtain⟨a,rfl,z⟩:=q;exact⟨a,rfl,e.free z⟩
 |no=>exact q
 |any=>exact q
def Uc(h:Ar K c hs ρ σ H){l:Lv}{o:Option BJ}(q:fresh H o):lvS c ρ σ H l o:=Xu h (l:=.fr) (by cases l<;>rfl) q
def M9(h:Ar K c hs ρ σ H)(e:Ad H H'){l:Lv}{o:Option BJ}(q:AS.plus (lvS c ρ σ H l) H' o):lvS c ρ σ H l o:=by
 rcases q with q | ⟨a,rfl,z⟩
 ·exact q
 ·exact Uc h ⟨a,rfl,e.free z⟩
section
variable (K:BZ)(c:DC)
def tD(l:Lv)(f:Ev->R D):TE:=λσ H Q=>∃hs ρ,Ar K c hs ρ σ H/\RQ (f ρ) (λd=>∀v H',Ad H H'->Rep K H' (lvS c ρ σ H l) d v->Q v H') (λe=>∀v H',Ad H H'->Rep K H' (lvS c ρ σ H .any) e v->c.Ex e v H')
def tF(l:Lv)(f:Ev->R D):TE:=λσ H Q=>∃hs ρ,Ar K c hs ρ σ H/\RQ (f ρ) (λd=>∀a vs ds H',d=.lst ds->Ad H H'->H a=none->H' a=some (.lst vs)->Al K H' (AS.but (lvS c ρ σ H l) a) ds vs->Q (.ref a) H') (λe=>∀v H',Ad H H'->Rep K H' (lvS c ρ σ H .any) e v->c.Ex e v H')
def tDT(f:Ev->R Bool):TT:=λσ H Q=>∃hs ρ,Ar K c hs ρ σ H/\RQ (f ρ) (λb=>∀H',Ad H H'->Q b H') (λe=>∀v H',Ad H H'->Rep K H' (lvS c ρ σ H .any) e v->c.Ex e v H')
def tDA(n:Nat)(l:Lv)(f:Ev->R (List D)):TA:=λσ H Q=>∃hs ρ,Ar K c hs ρ σ H/\RQ (f ρ) (λds=>∀vs H',Ad H H'->Al K H' (lvS c ρ σ H l) ds vs->ds.length=n->Q vs H') (λe=>∀v H',Ad H H'->Rep K H' (lvS c ρ σ H .any) e v->c.Ex e v H')
end
inductive Fl where
 |nx (ρ:Ev) |rt (d:D) |bk (ρ:Ev) |ct (ρ:Ev)
def Fl.ends(K:BZ)(c:DC)(hs:List Hd)(E:Ends):Fl->Prop
 | .nx ρ=>∀a H',Ar K c hs ρ a H'->E.nx a H'
 | .bk ρ=>∀a H',Ar K c hs ρ a H'->E.bk a H'
 | .ct ρ=>∀a H',Ar K c hs ρ a H'->E.ct a H'
 | .rt d=>∀v H',Ad c.H0 H'->Rep K H' c.S d v->E.rt v H'
def Y4(K:BZ)(c:DC)(e:D):Prop:=∀v H',Ad c.H0 H'->Rep K H' c.S e v->c.Ex e v H'
def tDS(K:BZ)(c:DC)(g:Ev->R Fl):TS:=λE σ H=>∃hs ρ,Ar K c hs ρ σ H/\RQ (g ρ) (Fl.ends K c hs E) (Y4 K c)
abbrev PEd(X:Cx)(c:DC)(l:Lv)(e:B_)(f:Ev->R D):Prop:=PE X e (tD X.K c l f)
abbrev PEf(X:Cx)(c:DC)(l:Lv)(e:B_)(f:Ev->R D):Prop:=PE X e (tF X.K c l f)
abbrev PTd(X:Cx)(c:DC)(e:B_)(f:Ev->R Bool):Prop:=PT X e (tDT X.K c f)
abbrev PAd(X:Cx)(c:DC)(l:Lv)(es:List B_)(f:Ev->R (List D)):Prop:=PA X es (tDA X.K c es.length l f)
abbrev PSd(X:Cx)(c:DC)(st:CT)(g:Ev->R Fl):Prop:=PS X st (tDS X.K c g)
abbrev ZD(X:Cx)(c:DC)(a:List CT)(g:Ev->R Fl):Prop:=PSs X a (tDS X.K c g)
def PE.imp{X:Cx}{e:B_}{t t':TE}(h:PE X e t)(i:∀σ H Q,t' σ H Q->t σ H Q):PE X e t':=λa s σ H Q I q=>h a s σ H Q I (i σ H Q q)
def PT.imp{X:Cx}{e:B_}{t t':TT}(h:PT X e t)(i:∀σ H Q,t' σ H Q->t σ H Q):PT X e t':=λa s σ H Q I q=>h a s σ H Q I (i σ H Q q)
def PW.imp{X:Cx}{e:B_}{t t':TT}(h:PW X e t)(i:∀σ H Q,t' σ H Q->t σ H Q):PW X e t':=λb a s σ H Q I q=>h b a s σ H Q I (i σ H Q q)
def PA.imp{X:Cx}{es:List B_}{t t':TA}(h:PA X es t)(i:∀σ H Q,t' σ H Q->t σ H Q):PA X es t':=λpos a s σ H Q I q=>h pos a s σ H Q I (i σ H Q q)
variable {st:CT}
def PS.imp{X:Cx}{t t':TS}(h:PS X st t)(i:∀E σ H,t' E σ H->t E σ H):PS X st t':=λa s σ H E I q=>h a s σ H E I (i E σ H q)
def PSs.imp{X:Cx}{st:List CT}{t t':TS}(h:PSs X st t)(i:∀E σ H,t' E σ H->t E σ H):PSs X st t':=λa s σ H E I q=>h a s σ H E I (i E σ H q)
variable {l:Lv}
def Bf{e:D}{a:Hp}(h:∀v H',Ad H H'->Rep K H' (lvS c ρ σ H .any) e v->c.Ex e v H')(s:Ad H a):∀v H',Ad a H'->Rep K H' (lvS c ρ σ a .any) e v->c.Ex e v H':=
 λv H' b r=>h v H' (s.trans b) r
variable {f:Ev->R D}
def Aq{Q:VK}(E:Ar K c hs ρ σ H)
  (h:RQ (f ρ) (λd=>∀v H',Ad H H'->Ar K c hs ρ σ H'->Rep K H' (lvS c ρ σ H l) d v->Q v H') (λe=>∀v H',Ad H H'->Rep K H' (lvS c ρ σ H .any) e v->c.Ex e v H')):tD K c l f σ H Q:=
 ⟨hs,ρ,E,h.mono (λd q v H' s r=>q v H' s (E.mono s) r) λ_ q=>q⟩
variable {Q:List V->Hp->Prop}
def Ck{n:Nat}{f:Ev->R (List D)}(E:Ar K c hs ρ σ H)
  (h:RQ (f ρ) (λds=>∀vs H',Ad H H'->Ar K c hs ρ σ H'->Al K H' (lvS c ρ σ H l) ds vs->ds.length=n->Q vs H') (λe=>∀v H',Ad H H'->Rep K H' (lvS c ρ σ H .any) e v->c.Ex e v H')):tDA K c n l f σ H Q:=
 ⟨hs,ρ,E,h.mono (λd q v H' s r a=>q v H' s (E.mono s) r a) λ_ q=>q⟩
def Fd{f:Ev->R Bool}{Q:Bool->Hp->Prop}(E:Ar K c hs ρ σ H)
  (h:RQ (f ρ) (λb=>∀H',Ad H H'->Ar K c hs ρ σ H'->Q b H') (λe=>∀v H',Ad H H'->Rep K H' (lvS c ρ σ H .any) e v->c.Ex e v H')):tDT K c f σ H Q:=
 ⟨hs,ρ,E,h.mono (λd q H' s=>q H' s (E.mono s)) λ_ q=>q⟩
def R.of{b:Type}:Option b->R b
 |some a=>.ok a
 |none=>.bad
@[simp] def R.of_some{b:Type}(a:b):R.of (some a)=.ok a:=nr rfl
def RQ.of{b:Type}{o:Option b}{q:b->Prop}{e:D->Prop}(h:RQ (R.of o) q e):∃a,o=some a/\q a:=by
 cases o with
 |none=>exact h.elim
 |some a=>exact⟨a,rfl,h⟩
def Dy{g e:Type}{r:R g}{f:g->R e}{b:e}(h:r.bind f=.ok b):∃a,r=.ok a/\f a=.ok b:=by
 cases r with
 |ok a=>exact⟨a,rfl,h⟩
 |exc _=>cases h
 |bad=>cases h
def inv1{a:Type}{g:List D->Option a}{d:a}(e:g ds=some d)(h:g []=none)(b:∀x y l,g (x::y::l)=none):∃x,ds=[x]:=by
 cases ds with
 |nil=>exact nomatch h.symm.trans e
 |cons x l =>
  cases l with
  |nil=>exact⟨x,rfl⟩
  |cons y l=>exact nomatch (b x y l).symm.trans e
def inv2{a:Type}{g:List D->Option a}{d:a}(e:g ds=some d)(h:g []=none)(h1:∀x,g [x]=none)(b:∀x y z l,g (x::y::z::l)=none):∃x y,ds=[x,y]:=by
 cases ds with
 |nil=>exact nomatch h.symm.trans e
 |cons x l =>
  cases l with
  |nil=>exact nomatch (h1 x).symm.trans e
  |cons y l =>
   cases l with
   |nil=>exact⟨x,y,rfl⟩
   |cons z l=>exact nomatch (b x y z l).symm.trans e
def nos{a:Type}{d:a}{P:Prop}(h:(none:Option a)=some d):P:=nomatch h
theorem Bg{p:Prop}[Decidable p]{a:Type}{x y:a}(h:(if p then some x else none)=some y):p/\x=y:=by lia
def rD(K:BZ)(g:D->D->Option D):R2:=λx y H Q=>∃S b a d,Rep K H S b x/\Rep K H S a y/\g b a=some d/\∀z H',Ad H H'->Rep K H' (AS.plus S H) d z->Q z H'
def rDF(K:BZ)(g:D->D->Option D):R2:=λx y H Q=>∃S e b d,Rep K H S e x/\Rep K H S b y/\g e b=some d /\
 ∀a vs ds H',d=.lst ds->Ad H H'->H a=none->H' a=some (.lst vs)->Al K H' (AS.but S a) ds vs->Q (.ref a) H'
def rU1(K:BZ)(g:D->Option D):V->Hp->VK->Prop:=λx H Q=>∃S a d,Rep K H S a x/\g a=some d/\∀z H',Ad H H'->Rep K H' (AS.plus S H) d z->Q z H'
def b2(f1 f2:Ev->R D)(g:D->D->Option D):Ev->R D:=λρ=>(f1 ρ).bind λx=>(f2 ρ).bind λy=>R.of (g x y)
def b1(f1:Ev->R D)(g:D->Option D):Ev->R D:=λρ=>(f1 ρ).bind λx=>R.of (g x)
variable {g:D->D->Option D}{g1:D->Option D}
section
variable {f1 f2:Ev->R D}{Q:VK}
def kI(h:tD K c l (b2 f1 f2 g) σ H Q):tOp (rD K g) (tD K c l f1) (tD K c l f2) σ H Q:=by revert h;refine Ce λhs ρ E q=>?_;have q:=RQ.bind.mp q;refine Aq E (q.mono (λw i x C a A p=>?_) λ_ z=>z);have i:=RQ.bind.mp i;refine Aq A (i.mono (λu s y B b F n=>?_) λe z=>Bf z a);refine Aw (λd e r=>?_) (s.of);refine⟨lvS c ρ σ H l,w,u,d,p.mono b (λ_ z=>z),n.mono (Ad.refl _) (λ_ z=>Dj a z),e,λz H' j m=>?_⟩;exact r z H' ((a.trans b).trans j) (m.mono (Ad.refl _) λ_ z=>M9 E (a.trans b) z)
def zf9(h:tD K c l (b1 f1 g1) σ H Q):tUn (rU1 K g1) (tD K c l f1) σ H Q:=by revert h;refine Ce λhs ρ E q=>?_;have q:=RQ.bind.mp q;refine Aq E (q.mono (λp n x r a s j=>?_) λ_ z=>z);refine Aw (λd e m=>?_) (n.of);refine⟨lvS c ρ σ H l,p,d,j,e,λz H' b i=>?_⟩;exact m z H' (a.trans b) (i.mono (Ad.refl _) λ_ z=>M9 E a z)
def zg5(i:∀ρ d,f ρ=.ok d->∃ds,d=.lst ds)(h:tD K c l f σ H Q):tF K c l f σ H Q:=by
 revert h;refine Ce λhs ρ E q=>?_;refine⟨hs,ρ,E,?_⟩;cases e:f ρ with
 |ok d=>rw[e]at q;obtain⟨ds,rfl⟩:=i ρ d e;intro a vs n H' m s j b r;cases m;exact q (.ref a) H' s ⟨a,vs,rfl,.inl ⟨b,Uc E ⟨a,rfl,j⟩⟩,r.mono (Ad.refl _) λ_ z=>z.1⟩
 |exc e'=>rw[e]at q;exact q
 |bad=>rw[e]at q;exact q
end
variable {X:Cx}{a b:B_}{l':Lv}{pos:HY}
section
variable {f f1 f2:Ev->R D}
def dX(e:nR)(i:OpR X (FZ e) (rD X.K g))(m:PEd X c l a f1)(j:PEd X c l b f2):PEd X c l (.BinOp a e b pos) (b2 f1 f2 g):=PE.imp (zd4 i m j) λ_ _ _ h=>kI h
def oO{e:O_}(i:OpR X (CN e) (rD X.K g))(n:PEd X c l a f1)(m:PEd X c l b f2)(j:FP e b=false):PEd X c l (.Compare a [e] [b] pos) (b2 f1 f2 g):=PE.imp (wy9 i n m j) λ_ _ _ h=>kI h
def un_{e:UnaryOp}(i:UnR X (bT e) (rU1 X.K g1))(j:PEd X c l a f1):PEd X c l (.UnaryOp e a pos) (b1 f1 g1):=PE.imp (zd6 i j) λ_ _ _ h=>zf9 h
def PEd.up(h:PEd X c l a f)(e:l.le l'=true:=by rfl):PEd X c l' a f:=PE.imp h λσ H Q ⟨hs,ρ,E,q⟩ =>
 ⟨hs,ρ,E,q.mono (λd q v H' s r=>q v H' s (r.mono (Ad.refl _) λ_ z=>Xu E e z)) λ_ z=>z⟩
def PEf.up(h:PEf X c l a f)(i:l.le l'=true:=by rfl):PEf X c l' a f:=PE.imp h λσ H Q ⟨hs,ρ,E,q⟩ =>
 ⟨hs,ρ,E,q.mono (λd q a vs ds H' m s j e r=>q a vs ds H' m s j e (r.mono (Ad.refl _) λ_ z=>⟨Xu E i z.1,z.2⟩)) λ_ z=>z⟩
theorem PEf.d(h:PEf X c l a f)(e:∀ρ d,f ρ=.ok d->∃ds,d=.lst ds):PEd X c l a f:=PE.imp h λ_ _ _ h=>zg5 e h
def gv(i:Nat):Ev->R D:=λρ=>match ρ[i]? with
 |some (some d)=>.ok d
 |_=>.bad
def wL{i:Nat}{d:D}(h:ρ[i]? = some (some d)):gv i ρ=.ok d:=by unfold gv;rw[h]
theorem Zg{i:Nat}{q:D->Prop}{e:D->Prop}(h:RQ (gv i ρ) q e):∃d,ρ[i]? = some (some d)/\q d:=by
 unfold gv at h;split at h
 ·rename_i d e;exact⟨d,e,h⟩
 ·exact h.elim
def zh7{i:Nat}(j:c.O.contains i=false){Q:VK}(h:tD K c .no (gv i) σ H Q):jF i σ H Q:=by revert h;refine Ce λhs ρ E q=>?_;refine Aw (λd e q=>?_) (Zg q);refine Aw (λv Y r=>?_) (E.oth i d (by simpa using j) e);exact⟨v,Y,q v H (Ad.refl H) r⟩
def yt8{i:Nat}{Q:VK}(h:tD K c .any (gv i) σ H Q):jF i σ H Q:=by
 revert h;refine Ce λhs ρ E q=>?_;refine Aw (λd e q=>?_) (Zg q);by_cases j:i∈c.O
 ·refine Gx (λp Y Z r=>?_) (E.own i d j e);exact⟨_,Y,q (.ref p) H (Ad.refl H) (r.rep (.inr ⟨p,rfl,Z.1,Z.2⟩) λ_ z=>z.1)⟩
 ·refine Aw (λv Y r=>?_) (E.oth i d j e);exact⟨v,Y,q v H (Ad.refl H) (r.mono (Ad.refl _) λ_ z=>z.1)⟩
def nv(i:Nat){x:BR}(m:c.O.contains i=false:=by rfl)(p:X.N[i]? = some x:=by rfl)(j:Vis X.env.scope x:=by first |exact Or.inl rfl |exact Or.inr (Or.inl rfl) |exact Or.inr (Or.inr rfl))(n:Zd x:=by decide)
  (e:(x == ("__classdict__" : BR))=false:=by decide):PEd X c .no (.Name x pos) (gv i):=PE.imp (pv i p j n e) λ_ _ _ h=>zh7 m h
def av(i:Nat){x:BR}(n:X.N[i]? = some x:=by rfl)(j:Vis X.env.scope x:=by first |exact Or.inl rfl |exact Or.inr (Or.inl rfl) |exact Or.inr (Or.inr rfl))(m:Zd x:=by decide)
  (e:(x == ("__classdict__" : BR))=false:=by decide):PEd X c .any (.Name x pos) (gv i):=PE.imp (pv i n j m e) λ_ _ _ h=>yt8 h
def kd(d:D):Ev->R D:=λ_=>.ok d
def d9{d:D}(e:∀H S,Rep K H S d v){Q:VK}(h:tD K c l (kd d) σ H Q):tC v σ H Q:=by revert h;refine Ce λhs ρ E q=>?_;exact q v H (Ad.refl H) (e _ _)
def ki{i:Int}{j}:PEd X c .fr (.Constant (.int i) j pos) (kd (.int i)):=PE.imp yp2 λ_ _ _ h=>d9 (d:=.int i) (v:=.int i) (λ_ _=>rfl) h
def kb{b:Bool}{j}:PEd X c .fr (.Constant (.bool b) j pos) (kd (.bl b)):=PE.imp zd2 λ_ _ _ h=>d9 (d:=.bl b) (v:=.bl b) (λ_ _=>rfl) h
def kn{j}:PEd X c .fr (.Constant .none j pos) (kd .non):=PE.imp yp4 λ_ _ _ h=>d9 (d:=.non) (v:=.non) (λ_ _=>rfl) h
def ks{x:BR}{j}:PEd X c .fr (.Constant (.str x) j pos) (kd (.str x)):=PE.imp lF λ_ _ _ h=>d9 (d:=.str x) (v:=.str x) (λ_ _=>rfl) h
def kg{x:BR}{i:Int}{t:Tok}(e:X.mg x=some (.int i t))(j:Gl X x:=by rfl)(m:Zd x:=by decide):PEd X c .fr (.Name x pos) (kd (.int i)):=
 PE.imp (rK (v:=.int i) j e ⟨t,rfl⟩ m) λ_ _ _ h=>d9 (d:=.int i) (v:=.int i) (λ_ _=>rfl) h
def vN:D->D->Option D
 | .int i,.int j=>some (.int (i+j))
 | .str x,.str y=>if x.length+y.length<=16777216 then some (.str (x++y)) else none
 | .tup e,.tup ys=>if e.length+ys.length<=16777216 then some (.tup (e++ys)) else none
 |_,_=>none
def n_:D->D->Option D
 | .int i,.int j=>some (.int (i - j))
 |_,_=>none
def Hw:D->D->Option D
 | .int i,.int j=>if(-(2 ^ 64)<i/\i<2 ^ 64)\/(-(2 ^ 64)<j/\j<2 ^ 64)\/(i.natAbs<2 ^ 2048/\j.natAbs<2 ^ 2048) then some (.int (i * j)) else none
 |_,_=>none
def Ln:D->D->Option D
 | .int i,.int j=>if 0<j/\j<4611686018427387904 then some (.int (i / j)) else none
 |_,_=>none
def Nf:D->D->Option D
 | .int i,.int j=>if 0<j then some (.int (i % j)) else none
 |_,_=>none
def bY:D->D->Option D
 | .int i,.int j=>if 0<=j/\j<=1000000/\i.natAbs<2 ^ 64 then some (.int (i ^ j.toNat)) else none
 |_,_=>none
def oR:D->D->Option D
 | .lst e,.lst ys=>if e.length+ys.length<=16777216 then some (.lst (e++ys)) else none
 |_,_=>none
def b7:D->Option D
 | .int i=>some (.int (-i))
 |_=>none
def lG{f:A_->A_->Sem A_}{C:Int->Int->Prop}{h:Int->Int->V}(G:OpR X f (rI C h))
  (J:∀p n d,g p n=some d->∃i j,p=.int i/\n=.int j/\C i j/\∀H S,Rep X.K H S d (h i j)):OpR X f (rD X.K g):=by
 rintro m s σ H x y v u Q I A z ⟨S,p,n,d,E,B,e,q⟩;refine b_ (λi j w r L F=>?_) (J p n d e);obtain rfl:=w;obtain rfl:=r;exact G m s σ H x y v u Q I A z ⟨i,j,E,B,L,q _ H (Ad.refl _) (F _ _)⟩
def kl8{f:A_->A_->Sem A_}{h:Int->Int->V}(F:OpR X f (rI0 h))
  (G:∀p n d,g p n=some d->∃i j,p=.int i/\n=.int j/\∀H S,Rep X.K H S d (h i j)):OpR X f (rD X.K g):=by
 rintro m s σ H x y v u Q I A z ⟨S,p,n,d,C,B,e,q⟩;refine Bo (λi j w r E=>?_) (G p n d e);obtain rfl:=w;obtain rfl:=r;exact F m s σ H x y v u Q I A z ⟨i,j,C,B,q _ H (Ad.refl _) (E _ _)⟩
def zc5:OpR X (FZ .Sub) (rD X.K n_):=kl8 yp0 λi h d e=>by cases i<;>first |exact nos e | (cases h<;>first |exact nos e | (cases e;exact⟨_,_,rfl,rfl,λ_ _=>rfl⟩))
def wy6:OpR X (FZ .Mult) (rI (λi j=>(-(2 ^ 64)<i/\i<2 ^ 64)\/(-(2 ^ 64)<j/\j<2 ^ 64)\/(i.natAbs<2 ^ 2048/\j.natAbs<2 ^ 2048)) λi j=>.int (i * j)):=opI λi j _ _ _ _ _ e q=>mul_int q (by
 rcases e with h |h | ⟨n,m⟩
 ·exact .of_left (intBits_le_64 h.1 h.2)
 ·exact .of_right (intBits_le_64 h.1 h.2)
 ·exact IntMulOk.of_le (intBits_le_iff.mpr n) (intBits_le_iff.mpr m) (by decide))
def zc1:OpR X (FZ .Mult) (rD X.K Hw):=lG wy6 λj i d e=>by cases j<;>first |exact nos e | (cases i<;>first |exact nos e | (obtain⟨h,rfl⟩:=Bg e;exact⟨_,_,rfl,rfl,h,λ_ _=>rfl⟩))
theorem wj6:OpR X (FZ .FloorDiv) (rI (λ_ j=>0<j/\j<4611686018427387904) λi j=>.int (i / j)):=opI λi j _ _ _ _ _ e q=>by
 have p:(0:Int)<j:=e.1;have m:j<4611686018427387904:=e.2;refine floordiv_int (by omega) (by rw[Int.fdiv_eq_ediv_of_nonneg i (by omega)];exact q) (.inl (PyProof.noPylong_of_log2 ?_));have h:j.natAbs<2 ^ 62:=by lia
 have:=(tO (n:=j.natAbs) (k:=62) (by omega)).mpr h;omega
def yo5:OpR X (FZ .FloorDiv) (rD X.K Ln):=lG wj6 λj i d e=>by cases j<;>first |exact nos e | (cases i<;>first |exact nos e | (obtain⟨h,rfl⟩:=Bg e;exact⟨_,_,rfl,rfl,h,λ_ _=>rfl⟩))
def zc0:OpR X (FZ .Mod) (rD X.K Nf):=lG yo8 λj i d e=>by cases j<;>first |exact nos e | (cases i<;>first |exact nos e | (obtain⟨h,rfl⟩:=Bg e;exact⟨_,_,rfl,rfl,h,λ_ _=>rfl⟩))
def zc4:OpR X (FZ .Pow) (rD X.K bY):=lG yo9 λj i d e=>by cases j<;>first |exact nos e | (cases i<;>first |exact nos e | (obtain⟨h,rfl⟩:=Bg e;exact⟨_,_,rfl,rfl,h,λ_ _=>rfl⟩))
def zc2:UnR X (bT .USub) (rU1 X.K b7):=by rintro h s σ H x v Q I i ⟨S,m,d,j,e,q⟩;cases m<;>first |exact nos e | (cases e;exact yu2 h s σ H x v Q I i ⟨_,j,q _ H (Ad.refl _) rfl⟩)
end
def Av{p:BJ}(h:H p=none)(o:HO):Ad H (upd H p o):=λb u e=>by rw[Ae (Bs e h)];exact e
section
variable {f f1 f2:Ev->R D}
def Hu{n:Nat}(h:n<=16777216):n<=sizeLine:=by rw[CG];exact h
def wj5:OpR X (FZ .Add) (λx y H Q=>∃a b ys,x=.ref a/\y=.ref b/\SqT X.K H a []/\SqT X.K H b ys/\Q (.ref b) H):=by
 intro r s σ H x y v u Q I G E h;obtain⟨a,b,ys,rfl,rfl,T,P,q⟩:=h;cases G;cases E;obtain⟨O,J,p1,_⟩:=I.tuple T;obtain⟨e,Y,L,_⟩:=I.tuple P;cases J;obtain⟨⟨cls,U,data,C⟩,w,A,n,z⟩:=id p1;obtain⟨⟨B,p,data2,m⟩,i,j,M,hd2⟩:=id L;simp only at A z j hd2;subst A z j hd2;exact QW ⟨_,w,rfl⟩ ⟨_,i,rfl⟩ RG VP PySem.F.slot_tuple_add PySem.F.entry_tuple_add (PySem.F.args_tuple_add_2 _ _)
   (tuple_addW0 a b ([]:List A_).toArray e.toArray n M U p C m (by simp)) ⟨w,i,⟨.ref b,H,I,rfl,q⟩⟩
theorem zb6:OpR X (FZ .Add) (rD X.K vN):=by
 rintro h s σ H x y v u Q I A w ⟨S,dx,J,d,n,m,e,q⟩;cases dx with
 |int i =>
  cases J with
  |int j=>cases e;exact yo7 h s σ H x y v u Q I A w ⟨i,j,n,m,q _ H (Ad.refl _) rfl⟩
  |_=>exact nos e
 |str p =>
  cases J with
  |str r=>obtain⟨L,rfl⟩:=Bg e;exact kf2 h s σ H x y v u Q I A w ⟨p,r,n,m,Hu L,q _ H (Ad.refl _) rfl⟩
  |_=>exact nos e
 |tup P =>
  cases J with
  |tup ys =>
   obtain⟨L,rfl⟩:=Bg e;revert n;refine Bo λa vs C G n=>?_;obtain rfl:=C;revert m;refine Bo λb ws B F m=>?_;obtain rfl:=B;have U:=n.length;have T:=m.length;by_cases O:vs=[]
   ·subst O;have Z:P=[]:=nC U;subst Z;exact wj5 h s σ H _ _ v u Q I A w ⟨a,b,ws,rfl,rfl,(TpR.sq G),(TpR.sq F),q _ H (Ad.refl _) ⟨b,ws,rfl,F,m.mono (Ad.refl _) λ_ z=>.inl z⟩⟩
   ·refine wy5 h s σ H _ _ v u Q I A w ⟨a,b,vs,ws,rfl,rfl,(TpR.sq G),(TpR.sq F),O,Hu (by lia),λM=>?_,λM p E=>?_⟩
    ·subst M;have Y:ys=[]:=nC T;subst Y;exact q _ H (Ad.refl _) ⟨a,vs,rfl,G,by rw[aB];exact n.mono (Ad.refl _) λ_ z=>.inl z⟩
    ·exact q _ _ (Av E _) ⟨p,_,rfl,TpR.of Ak,(n.mono (Av E _) λ_ z=>.inl z).append (m.mono (Av E _) λ_ z=>.inl z)⟩
  |_=>exact nos e
 |_=>exact nos e
theorem wy4:OpR X (FZ .Add) (λx y H Q=>∃l b A z,x=.ref l/\y=.ref b/\SqL X.K H l A/\SqL X.K H b z/\A.length+z.length<=sizeLine/\∀p,H p=none->Q (.ref p) (upd H p (.lst (A++z)))):=by
 intro J s σ H x y v u Q I Y U h;obtain⟨l,b,A,z,rfl,rfl,hH,hB,hz,q⟩:=h;cases Y;cases U;obtain⟨j,r,pl,_⟩:=I.list hH;obtain⟨i,G,C,_⟩:=I.list hB;obtain⟨⟨cls,dd,data,T⟩,L,O,n,M⟩:=pl.isList;obtain⟨⟨P,E,data2,B⟩,m,w,Z,hd2⟩:=C.isList;simp only at O M w hd2;subst O M w hd2;have hl:=r.length;have aa:=G.length;have e:j.toArray++i.toArray=(j++i).toArray:=by simp
 refine QW ⟨_,L,rfl⟩ ⟨_,m,rfl⟩ noFill_list_add seq_list_add PySem.F.slot_list_add PySem.F.entry_list_add (PySem.F.args_list_add_2 _ _) (list_addW l b j.toArray i.toArray n Z dd E T B (by rw[MK,MK];lia)) ⟨L,m,?_⟩;rw[e];exact⟨.ref _,_,I.lnew (t':=s.toks) (r.append G) (by rw[YK];lia),rfl,q _ I.fresh⟩
theorem zb7:OpR X (FZ .Add) (rDF X.K oR):=by
 rintro i s σ H x y v u Q I A w ⟨S,F,E,d,r,n,e,q⟩;cases F with
 |lst G =>
  cases E with
  |lst ys=>obtain⟨M,rfl⟩:=Bg e;revert r;refine Bo λa vs m C r=>?_;obtain rfl:=m;revert n;refine Bo λb ws j B n=>?_;obtain rfl:=j;have L:=r.length;have J:=n.length;refine wy4 i s σ H _ _ v u Q I A w ⟨a,b,vs,ws,rfl,rfl,C.sq,B.sq,Hu (by lia),λp h=>?_⟩;exact q p _ _ _ rfl (Av h _) h Ak (((r.avoid h).mono (Av h _) λ_ z=>z).append ((n.avoid h).mono (Av h _) λ_ z=>z))
  |_=>exact nos e
 |_=>exact nos e
def wr7{f1 f2:Ev->R D}{d:D}(h:b2 f1 f2 oR ρ=.ok d):∃ds,d=.lst ds:=by
 refine Aw (λx _ h=>?_) (Dy h);refine Aw (λy _ h=>?_) (Dy h);cases e:oR x y with
 |none=>rw[e]at h;cases h
 |some i=>rw[e]at h;cases h;cases x<;>first |exact nos e | (cases y<;>first |exact nos e | (obtain⟨_,rfl⟩:=Bg e;exact⟨_,rfl⟩))
def sub(h:PEd X c l a f1)(e:PEd X c l b f2):PEd X c l (.BinOp a .Sub b pos) (b2 f1 f2 n_):=dX .Sub zc5 h e
def mul(h:PEd X c l a f1)(e:PEd X c l b f2):PEd X c l (.BinOp a .Mult b pos) (b2 f1 f2 Hw):=dX .Mult zc1 h e
def fdiv(h:PEd X c l a f1)(e:PEd X c l b f2):PEd X c l (.BinOp a .FloorDiv b pos) (b2 f1 f2 Ln):=dX .FloorDiv yo5 h e
def mod(h:PEd X c l a f1)(e:PEd X c l b f2):PEd X c l (.BinOp a .Mod b pos) (b2 f1 f2 Nf):=dX .Mod zc0 h e
def pow(h:PEd X c l a f1)(e:PEd X c l b f2):PEd X c l (.BinOp a .Pow b pos) (b2 f1 f2 bY):=dX .Pow zc4 h e
def neg(e:PEd X c l a f1):PEd X c l (.UnaryOp .USub a pos) (b1 f1 b7):=un_ zc2 e
end
mutual
def D.py:D->PyData
 | .non=>.none
 | .bl b=>.bool b
 | .int i=>.int i
 | .str x=>.str x
 | .tup e=>.tuple (Gv e)
 | .lst e=>.list (Gv e)
 | .exc _ _ _=>.none
def Gv:List D->List PyData
 | []=>[]
 |d::ds=>d.py::Gv ds
end
mutual
def D.cok:Nat->D->Bool
 |n,.tup e=>match n with |0=>false |n+1=>Cw n e
 |n,.lst e=>match n with |0=>false |n+1=>Cw n e
 |_,.str x=>PyData.strOk x
 |_,.exc _ _ _=>false
 |_,_=>true
def Cw:Nat->List D->Bool
 |_,[]=>true
 |n,d::ds=>d.cok n && Cw n ds
end
mutual
theorem Jt:∀(n:Nat)(d:D),d.cok n=true->d.py.canLay0=true/\d.py.depth<=n
 |n,.non,_=>by simp[D.py,PyData.canLay0,PyData.depth]
 |n,.bl _,_=>by simp[D.py,PyData.canLay0,PyData.depth]
 |n,.int _,_=>by simp[D.py,PyData.canLay0,PyData.depth]
 |n,.str x,h=>by
  have i:PyData.strOk x=true:=by simpa[D.cok] using h
  simp[D.py,PyData.canLay0,PyData.depth,i]
 |0,.tup e,h=>by simp[D.cok]at h
 |0,.lst e,h=>by simp[D.cok]at h
 |n+1,.tup e,h=>by
  have i:Cw n e=true:=by simpa[D.cok] using h
  have:=Fp n e i;simp only[D.py,PyData.canLay0,PyData.depth];lia
 |n+1,.lst e,h=>by
  have i:Cw n e=true:=by simpa[D.cok] using h
  have:=Fp n e i;simp only[D.py,PyData.canLay0,PyData.depth];exact⟨this.1,by lia⟩
 |n,.exc _ _ _,h=>by simp[D.cok]at h
theorem Fp:∀(n:Nat)(ds:List D),Cw n ds=true->PyData.canLayAll0 (Gv ds)=true/\PyData.depthAll (Gv ds)<=n
 |n,[],_=>by simp[Gv,PyData.canLayAll0,PyData.depthAll]
 |n,d::ds,h=>by
  have e:d.cok n=true/\Cw n ds=true:=by simpa[Cw] using h
  have j:=Jt n d e.1;have i:=Fp n ds e.2;simp only[Gv,PyData.canLayAll0,PyData.depthAll,j.1,i.1,Bool.and_self,true_and];lia
end
variable {pins:List (BJ×GR)}{s:BK}
section
variable {S:AS}
mutual
theorem Dl(I:Inv X pins σ H s):∀(n:Nat)(d:D)(v:V)(u:A_),d.cok n=true->Rep X.K H S d v->RelV v u->∃G,Reads s.heap u d.py G
 |n,.non,v,u,_,h,r=>by cases(show v=.non from h);cases(show u=Value.none from r);exact⟨_,by simp only[D.py];exact .none⟩
 |n,.bl b,v,u,_,h,r=>by cases(show v=.bl b from h);cases(show u=Value.bool b from r);exact⟨_,by simp only[D.py];exact .bool b⟩
 |n,.int i,v,u,_,h,r=>by cases(show v=.int i from h);obtain⟨t,e⟩:=(show ∃t,u=Value.int i t from r);cases e;exact⟨_,by simp only[D.py];exact .int i t⟩
 |n,.str x,v,u,_,h,r=>by cases(show v=.str x from h);obtain⟨t,e⟩:=(show ∃t,u=Value.str x t from r);cases e;exact⟨_,by simp only[D.py];exact .str x t⟩
 |0,.tup j,v,u,k,h,r=>by simp[D.cok]at k
 |0,.lst j,v,u,k,h,r=>by simp[D.cok]at k
 |n+1,.tup j,v,u,k,h,r=>by
  obtain⟨a,vs,rfl,q,z⟩:=h;cases(show u=Value.ref a from r);obtain⟨w,y,p,_⟩:=I.tuple (TpR.sq q);have B:Cw n j=true:=by simpa[D.cok] using k
  obtain⟨G,A⟩:=Pb I n j vs w B z y;obtain⟨o,C,F,m,E⟩:=p;exact⟨_,by simp only[D.py];exact .tuple C F E (by simpa using A)⟩
 |n+1,.lst j,v,u,k,h,r=>by
  obtain⟨a,vs,rfl,q,z⟩:=h;cases(show u=Value.ref a from r);obtain⟨w,y,p,_⟩:=I.list q.sq;have B:Cw n j=true:=by simpa[D.cok] using k
  obtain⟨G,A⟩:=Pb I n j vs w B z y;obtain⟨o,C,F,m,E⟩:=p.isList;exact⟨_,by simp only[D.py];exact .list C F E (by simpa using A)⟩
 |n,.exc _ _ _,v,u,k,h,r=>by simp[D.cok]at k
theorem Pb(I:Inv X pins σ H s):∀(n:Nat)(ds:List D)(vs:List V)(us:List A_),Cw n ds=true->Al X.K H S ds vs->Vals vs us->∃m,ReadsAll s.heap us (Gv ds) m
 |n,[],vs,us,_,h,r=>by cases(show vs=[] from h);cases r;exact⟨_,by simp only[Gv];exact .nil⟩
 |n,d::ds,vs,us,k,h,r=>by
  revert h;refine Bo λv e i y x=>?_;obtain rfl:=i;cases r with
  |cons q p =>
   have j:d.cok n=true/\Cw n ds=true:=by simpa[Cw] using k
   obtain⟨m,w⟩:=Dl I n d v _ j.1 y q;obtain⟨bs,u⟩:=Pb I n ds e _ j.2 x p;exact⟨_,by simp only[Gv];exact .cons w u⟩
end
end
def D.eqb(x y:D):Bool:=PyData.eqv x.py y.py
def eqD(x y:D):Option D:=if x.cok 60 && y.cok 60 then some (.bl (x.eqb y)) else none
def neD(x y:D):Option D:=if x.cok 60 && y.cok 60 then some (.bl (!x.eqb y)) else none
def inD:D->D->Option D
 |x,.lst ys=>if x.cok 60 && Cw 60 ys then some (.bl (ys.any λy=>y.eqb x)) else none
 |x,.tup ys=>if x.cok 60 && Cw 60 ys then some (.bl (ys.any λy=>y.eqb x)) else none
 |_,_=>none
def dH:D->D->Option D
 |x,.lst ys=>if x.cok 60 && Cw 60 ys then some (.bl (!ys.any λy=>y.eqb x)) else none
 |x,.tup ys=>if x.cok 60 && Cw 60 ys then some (.bl (!ys.any λy=>y.eqb x)) else none
 |_,_=>none
section
variable {f f1 f2:Ev->R D}
theorem Yh(x:D):∀ys:List D,((Gv ys).any λy=>PyData.eqv y x.py)=ys.any λy=>y.eqb x
 | []=>by simp[Gv]
 |y::ys=>by simp only[Gv,mJ,Yh x ys];rfl
theorem u0(E:X.A.units+70<FW):OpR X (CN .Eq) (rD X.K eqD):=by rintro pins s σ H x y v u Q I n m ⟨S,j,i,d,z,w,e,q⟩;obtain⟨h,rfl⟩:=Bg e;rw[M_]at h;obtain⟨F,r⟩:=Dl I 60 j x v h.1 z n;obtain⟨bs,p⟩:=Dl I 60 i y u h.2 w m;have C:=Jt 60 j h.1;have B:=Jt 60 i h.2;exact SeqAt.compareEq_reads r p C.1 B.1 (by lia) ⟨.bl _,H,I,rfl,q _ H (Ad.refl _) rfl⟩
theorem jJ(E:X.A.units+70<FW):OpR X (CN .NotEq) (rD X.K neD):=by rintro pins s σ H x y v u Q I n m ⟨S,j,i,d,z,w,e,q⟩;obtain⟨h,rfl⟩:=Bg e;rw[M_]at h;obtain⟨F,r⟩:=Dl I 60 j x v h.1 z n;obtain⟨bs,p⟩:=Dl I 60 i y u h.2 w m;have C:=Jt 60 j h.1;have B:=Jt 60 i h.2;exact SeqAt.compareNe_reads r p C.1 B.1 (by lia) ⟨.bl _,H,I,rfl,q _ H (Ad.refl _) rfl⟩
theorem zn2(G:X.A.units+70<FW):OpR X (CN .In) (rD X.K inD):=by
 rintro pins s σ H x y v u Q I z w ⟨S,j,E,d,C,B,e,q⟩;cases E with
 |lst ys=>obtain⟨h,rfl⟩:=Bg e;rw[M_]at h;have r:(D.lst ys).cok 61=true:=h.2;obtain⟨F,m⟩:=Dl I 60 j x v h.1 C z;obtain⟨bs,i⟩:=Dl I 61 _ y u r B w;have p:=Jt 60 j h.1;have n:=Fp 60 ys h.2;simp only[D.py]at i;exact SeqAt.in_list_reads i m n.1 p.1 (by lia) ⟨.bl _,H,I,rfl,by rw[Yh];exact q _ H (Ad.refl _) rfl⟩
 |tup ys=>obtain⟨h,rfl⟩:=Bg e;rw[M_]at h;have r:(D.tup ys).cok 61=true:=h.2;obtain⟨F,m⟩:=Dl I 60 j x v h.1 C z;obtain⟨bs,i⟩:=Dl I 61 _ y u r B w;have p:=Jt 60 j h.1;have n:=Fp 60 ys h.2;simp only[D.py]at i;exact SeqAt.in_tuple_reads i m n.1 p.1 (by lia) ⟨.bl _,H,I,rfl,by rw[Yh];exact q _ H (Ad.refl _) rfl⟩
 |_=>exact nos e
theorem zc3(G:X.A.units+70<FW):OpR X (CN .NotIn) (rD X.K dH):=by
 rintro pins s σ H x y v u Q I z w ⟨S,j,E,d,C,B,e,q⟩;cases E with
 |lst ys=>obtain⟨h,rfl⟩:=Bg e;rw[M_]at h;have r:(D.lst ys).cok 61=true:=h.2;obtain⟨F,m⟩:=Dl I 60 j x v h.1 C z;obtain⟨bs,i⟩:=Dl I 61 _ y u r B w;have p:=Jt 60 j h.1;have n:=Fp 60 ys h.2;simp only[D.py]at i;exact SeqAt.notIn_list_reads i m n.1 p.1 (by lia) ⟨.bl _,H,I,rfl,by rw[Yh];exact q _ H (Ad.refl _) rfl⟩
 |tup ys=>obtain⟨h,rfl⟩:=Bg e;rw[M_]at h;have r:(D.tup ys).cok 61=true:=h.2;obtain⟨F,m⟩:=Dl I 60 j x v h.1 C z;obtain⟨bs,i⟩:=Dl I 61 _ y u r B w;have p:=Jt 60 j h.1;have n:=Fp 60 ys h.2;simp only[D.py]at i;exact SeqAt.notIn_tuple_reads i m n.1 p.1 (by lia) ⟨.bl _,H,I,rfl,by rw[Yh];exact q _ H (Ad.refl _) rfl⟩
 |_=>exact nos e
def gK(p:Int->Int->Bool):D->D->Option D
 | .int i,.int j=>some (.bl (p i j))
 |_,_=>none
abbrev ltD:=gK λi j=>decide (i<j)
abbrev leD:=gK λi j=>decide (i<=j)
abbrev gtD:=gK λi j=>decide (j<i)
abbrev geD:=gK λi j=>decide (j<=i)
def lJ{h:O_}{p:Int->Int->Bool}(m:OpR X (CN h) (rI0 λi j=>.bl (p i j))):OpR X (CN h) (rD X.K (gK p)):=kl8 m λq n d e=>by cases q<;>first |exact nos e | (cases n<;>first |exact nos e | (cases e;exact⟨_,_,rfl,rfl,λ_ _=>rfl⟩))
def oF:OpR X (CN .Lt) (rD X.K ltD):=lJ zd0
def bZ:OpR X (CN .LtE) (rD X.K leD):=lJ zc9
def zn1:OpR X (CN .Gt) (rD X.K gtD):=lJ zc8
def zn0:OpR X (CN .GtE) (rD X.K geD):=lJ zc7
def ixD:D->D->Option D
 | .lst e,.int i=>atI e i
 | .tup e,.int i=>atI e i
 | .str z,.int i=>if z.length<=16777216 then(atI z.cps.toList i).map λk=>.str ⟨#[k]⟩ else none
 |_,_=>none
def ki6{S:AS}{i:Int}{d:D}(r:Al K H S ds vs)(e:atI ds i=some d):∃v,atI vs i=some v/\Rep K H S d v:=by
 unfold atI at e ⊢;rw[<-r.length];cases k:ixN ds.length i with
 |none=>rw[k]at e;cases e
 |some j=>rw[k]at e;exact r.get e
theorem zn3:IxR X (rD X.K ixD):=by
 rintro value slice pins s σ H x y v u Q I A r ⟨S,G,E,d,m,B,e,q⟩ hs;cases G with
 |lst F =>
  cases E with
  |int i=>revert m;refine Bo λa vs p C m=>?_;obtain rfl:=p;refine Aw (λw Y j=>?_) (ki6 m e);exact wv2 value slice pins s σ H _ y v u Q I A r ⟨a,vs,i,w,rfl,B,C.sq,Y,q _ H (Ad.refl _) (j.mono (Ad.refl _) λ_ z=>.inl z)⟩ hs
  |_=>exact nos e
 |tup F =>
  cases E with
  |int i=>revert m;refine Bo λa vs n C m=>?_;obtain rfl:=n;refine Aw (λw Y j=>?_) (ki6 m e);exact ym5 value slice pins s σ H _ y v u Q I A r ⟨a,vs,i,w,rfl,B,(TpR.sq C),Y,q _ H (Ad.refl _) (j.mono (Ad.refl _) λ_ z=>.inl z)⟩ hs
  |_=>exact nos e
 |str z =>
  cases E with
  |int i =>
   obtain⟨h,e⟩:z.length<=16777216/\(atI z.cps.toList i).map (λk=>D.str ⟨#[k]⟩)=some d:=by have e:(if z.length<=16777216 then(atI z.cps.toList i).map (λk=>D.str ⟨#[k]⟩) else none)=some d:=e;lia
   cases k:atI z.cps.toList i with
   |none=>rw[k]at e;cases e
   |some ch=>rw[k]at e;cases e;exact ym4 value slice pins s σ H _ y v u Q I A r ⟨z,i,ch,m,B,Hu h,k,q _ H (Ad.refl _) rfl⟩ hs
  |_=>exact nos e
 |_=>exact nos e
def ix(i:PEd X c l a f1)(e:PEd X c l b f2)(hs:kh7 b:=by exact λ_ _=>rfl):PEd X c l (.Subscript a b pos) (b2 f1 f2 ixD):=PE.imp (zd3 zn3 i e hs) λ_ _ _ h=>kI h
def eq_(e:X.A.units+70<FW)(i:PEd X c l a f1)(h:PEd X c l b f2):PEd X c l (.Compare a [.Eq] [b] pos) (b2 f1 f2 eqD):=oO (u0 e) i h (Nh _)
def ne_(e:X.A.units+70<FW)(i:PEd X c l a f1)(h:PEd X c l b f2):PEd X c l (.Compare a [.NotEq] [b] pos) (b2 f1 f2 neD):=oO (jJ e) i h (Nh _)
end
def a0:Ev->R (List D):=λ_=>.ok []
def zv(f:Ev->R D)(fs:Ev->R (List D)):Ev->R (List D):=λρ=>(f ρ).bind λx=>(fs ρ).bind λe=>.ok (x::e)
def Gz(xs:List D):Option D:=if xs.length<=16777216 then some (.tup xs) else none
def Ub(xs:List D):Option D:=if xs.length<=16777216 then some (.lst xs) else none
def bA(fs:Ev->R (List D))(g:List D->Option D):Ev->R D:=λρ=>(fs ρ).bind λe=>R.of (g e)
def rC(K:BZ)(g:List D->Option D):List V->Hp->VK->Prop:=λe H Q=>∃S ds d,Al K H S ds e/\g ds=some d/\∀z H',Ad H H'->Rep K H' (AS.plus S H) d z->Q z H'
def rCF(K:BZ)(g:List D->Option D):List V->Hp->VK->Prop:=λh H Q=>∃S ds d,Al K H S ds h/\g ds=some d/\∀a vs e H',d=.lst e->Ad H H'->H a=none->H' a=some (.lst vs)->Al K H' (AS.but S a) e vs->Q (.ref a) H'
section
variable {f:Ev->R D}{fs:Ev->R (List D)}{g:List D->Option D}
def tA0(h:tDA K c 0 l a0 σ H Q):n7 σ H Q:=by revert h;refine Ce λhs ρ E q=>?_;exact q [] H (Ad.refl _) Al.nil rfl
def tA1{n:Nat}(h:tDA K c (n+1) l (zv f fs) σ H Q):vV (tD K c l f) (tDA K c n l fs) σ H Q:=by revert h;refine Ce λhs ρ E q=>?_;refine Aq E ((RQ.bind.mp q).mono (λC w x F i B r=>?_) λ_ z=>z);refine Ck B ((RQ.bind.mp w).mono (λds u m A j G p y=>?_) λe z=>Bf z i);exact u (x::m) A (i.trans j) (.cons (r.mono j λ_ z=>z) (p.mono (Ad.refl _) λ_ z=>Dj i z)) (by simp[y])
def tAg{n:Nat}{Q:VK}(h:tD K c l (bA fs g) σ H Q):tCB (rC K g) (tDA K c n l fs) σ H Q:=by revert h;refine Ce λhs ρ E q=>?_;refine Ck E ((RQ.bind.mp q).mono (λds u w y i A p x=>?_) λ_ z=>z);refine Aw (λd e r=>?_) (u.of);exact⟨lvS c ρ σ H l,ds,d,p,e,λz H' j m=>r z H' (i.trans j) (m.mono (Ad.refl _) λ_ z=>M9 E i z)⟩
def zo5{n:Nat}{Q:VK}(h:tF K c l (bA fs g) σ H Q):tCB (rCF K g) (tDA K c n l fs) σ H Q:=by revert h;refine Ce λhs ρ E q=>?_;refine Ck E ((RQ.bind.mp q).mono (λds u B F i G p C=>?_) λ_ z=>z);refine Aw (λd e r=>?_) (u.of);exact⟨lvS c ρ σ H l,ds,d,p,e,λa vs y H' A j x w m=>r a vs y H' A (i.trans j) (i.free x) w m⟩
end
variable {e:B_}{es:List B_}
variable {g':D->D->Option D}
section
variable {d:B_}{rest:List B_}{f f1 f2 i:Ev->R D}{fs:Ev->R (List D)}{g:List D->Option D}
def an:PAd X c l [] a0:=PA.imp Jf λ_ _ _ h=>tA0 h
def ac(m:PEd X c l e f)(j:PAd X c l es fs)(hs:Zs X.env e es:=by rfl):PAd X c l (e::es) (zv f fs):=PA.imp (Eb m j hs) λ_ _ _ h=>tA1 h
def tup{x1}(h:PAd X c l es fs):PEd X c l (.Tuple es x1 pos) (bA fs Gz):=PE.imp (p7 h) λσ H Q q=>by revert q;refine Ce λhs ρ E q=>?_;refine Ck E ((RQ.bind.mp q).mono (λds w n A r B j y=>?_) λ_ z=>z);refine Aw (λd e u=>?_) (w.of);obtain⟨x,rfl⟩:=Bg e;refine⟨Hu (by rw[<-j.length];exact x),λp m=>u _ _ (r.trans (Av m _)) ⟨p,n,rfl,TpR.of Ak,j.mono (Av m _) λ_ z=>z⟩⟩
def jK(h:PAd X c l es fs):PEf X c l (.List es pos) (bA fs Ub):=PE.imp (yp3 h) λσ H Q q=>by revert q;refine Ce λhs ρ E q=>?_;refine Ck E ((RQ.bind.mp q).mono (λds w r A m B n y=>?_) λ_ z=>z);refine Aw (λd e u=>?_) (w.of);obtain⟨x,rfl⟩:=Bg e;exact⟨Hu (by rw[<-n.length];exact x),λp j=>u p r ds _ rfl (m.trans (Av j _)) (m.free j) Ak ((n.avoid j).mono (Av j _) λ_ z=>z)⟩
theorem kl4{d:D}(h:bA fs Ub ρ=.ok d):∃ds,d=.lst ds:=by
 unfold bA at h;cases Y:fs ρ<;>rw[Y]at h<;>try cases h
 rename_i j;simp only[R.ok_bind,Ub]at h;split at h
 ·cases h;exact⟨_,rfl⟩
 ·cases h
def lst(h:PAd X c l es fs):PEd X c l (.List es pos) (bA fs Ub):=PEf.d (jK h) λ_ _ h=>kl4 h
def iC{x:BR}{p:HY}{n:String}(z:Dh X (.builtin n) (rC X.K g))(q:G_ x=some (.builtin n))(u:X.mg x=none)(A:PAd X c l (e::es) fs)(w:Gl X x:=by rfl)(r:x ≠ "__name__":=by decide)(m:Zd x:=by decide)
  (y:Zs X.env e es:=by rfl)(j:Zp X.env pos es:=by rfl):PEd X c l (.Call (.Name x p) (e::es) [] pos) (bA fs g):=
 PE.imp (Ma z w u q A r m y j) λ_ _ _ h=>tAg h
def zJ{x:BR}{p:HY}{n:String}(z:Dh X (.builtin n) (rCF X.K g))(q:G_ x=some (.builtin n))(u:X.mg x=none)(A:PAd X c l (e::es) fs)(w:Gl X x:=by rfl)(r:x ≠ "__name__":=by decide)(m:Zd x:=by decide)
  (y:Zs X.env e es:=by rfl)(j:Zp X.env pos es:=by rfl):PEf X c l (.Call (.Name x p) (e::es) [] pos) (bA fs g):=
 PE.imp (Ma z w u q A r m y j) λ_ _ _ h=>zo5 h
def pL{x:BR}{p:HY}{T:String}(y:Dh X (.type T) (rC X.K g))(n:G_ x=some (.type T))(r:X.mg x=none)(z:PAd X c l (e::es) fs)(u:Gl X x:=by rfl)(q:x ≠ "__name__":=by decide)(m:Zd x:=by decide)
  (w:Zs X.env e es:=by rfl)(j:Zp X.env pos es:=by rfl):PEd X c l (.Call (.Name x p) (e::es) [] pos) (bA fs g):=
 PE.imp (Hi y u r n z q m w j) λ_ _ _ h=>tAg h
def Cv:List D->Option D
 | [.lst h]=>some (.int h.length)
 | [.tup h]=>some (.int h.length)
 | [.str z]=>if z.length<=16777216 then some (.int z.length) else none
 |_=>none
def yv8:Dh X (.builtin "len") (rC X.K Cv):=by
 rintro pins s σ H y h Q I r ⟨S,ds,d,j,e,q⟩;obtain⟨p,rfl⟩:=inv1 e rfl (λx _ _=>by cases x<;>rfl);cases p with
 |lst ys=>cases e;obtain⟨v,rfl,a,vs,rfl,n,m⟩:=j.one;have:=m.length;exact Tf pins s σ H _ h Q I r ⟨a,vs,rfl,.inl n.sq,q _ H (Ad.refl _) (by rw[<-this];rfl)⟩
 |tup ys=>cases e;obtain⟨v,rfl,a,vs,rfl,n,m⟩:=j.one;have:=m.length;exact Tf pins s σ H _ h Q I r ⟨a,vs,rfl,.inr (TpR.sq n),q _ H (Ad.refl _) (by rw[<-this];rfl)⟩
 |str z=>obtain⟨w,rfl⟩:=Bg e;obtain⟨v,rfl,u⟩:=j.one;cases(show v=.str z from u);exact jl1 pins s σ H _ h Q I r ⟨z,rfl,Hu w,q _ H (Ad.refl _) rfl⟩
 |_=>exact nos e
def pR:List D->Option D
 | [.lst h]=>some (.tup h)
 | [.tup h]=>some (.tup h)
 |_=>none
def wr6:Dh X (.type "tuple") (rC X.K pR):=by
 rintro pins s σ H y m Q I r ⟨S,ds,d,n,e,q⟩;obtain⟨w,rfl⟩:=inv1 e rfl (λx _ _=>by cases x<;>rfl);cases w with
 |lst ys=>cases e;obtain⟨v,rfl,a,vs,rfl,h,j⟩:=n.one;exact Rb pins s σ H _ m Q I r ⟨a,vs,rfl,.inl ⟨h.sq,λp u=>q _ _ (Av u _) ⟨p,vs,rfl,TpR.of Ak,j.mono (Av u _) λ_ z=>.inl z⟩⟩⟩
 |tup ys=>cases e;obtain⟨v,rfl,a,vs,rfl,h,j⟩:=n.one;exact Rb pins s σ H _ m Q I r ⟨a,vs,rfl,.inr ⟨(TpR.sq h),q _ H (Ad.refl _) ⟨a,vs,rfl,h,j.mono (Ad.refl _) λ_ z=>.inl z⟩⟩⟩
 |_=>exact nos e
def minD:List D->Option D
 | [.int i,.int j]=>some (.int (if j<i then j else i))
 |_=>none
def maxD:List D->Option D
 | [.int i,.int j]=>some (.int (if j>i then j else i))
 |_=>none
def yw0(B:X.calm=true):Dh X (.builtin "min") (rC X.K minD):=by
 rintro pins s σ H C p Q I r ⟨S,ds,d,w,e,q⟩;obtain⟨n,m,rfl⟩:=inv2 e rfl (λx=>by cases x<;>rfl) (λx y _ _=>by cases x<;>first |rfl | (cases y<;>rfl));cases n with
 |int i =>
  cases m with
  |int j=>cases e;refine Bo (λv u h A z=>?_) (w.two);obtain rfl:=h;cases(show v=.int i from A);cases(show u=.int j from z);exact kq3 B pins s σ H _ p Q I r ⟨i,j,rfl,q _ H (Ad.refl _) rfl⟩
  |_=>exact nos e
 |_=>exact nos e
def yv9(B:X.calm=true):Dh X (.builtin "max") (rC X.K maxD):=by
 rintro pins s σ H C p Q I r ⟨S,ds,d,w,e,q⟩;obtain⟨n,m,rfl⟩:=inv2 e rfl (λx=>by cases x<;>rfl) (λx y _ _=>by cases x<;>first |rfl | (cases y<;>rfl));cases n with
 |int i =>
  cases m with
  |int j=>cases e;refine Bo (λv u h A z=>?_) (w.two);obtain rfl:=h;cases(show v=.int i from A);cases(show u=.int j from z);exact kq2 B pins s σ H _ p Q I r ⟨i,j,rfl,q _ H (Ad.refl _) rfl⟩
  |_=>exact nos e
 |_=>exact nos e
def u5(j:X.mg "len" = none){p:HY}(q:PAd X c l (e::es) fs)(m:Gl X "len":=by rfl)(n:Zs X.env e es:=by rfl)(h:Zp X.env pos es:=by rfl):
  PEd X c l (.Call (.Name "len" p) (e::es) [] pos) (bA fs Cv):=iC yv8 PySem.boot_len j q m (by decide) (by decide) n h
def nY:D->Option Bool
 | .bl k=>some k
 | .int i=>some (i != 0)
 | .non=>some false
 | .tup h=>some (!h.isEmpty)
 | .lst h=>some (!h.isEmpty)
 | .str x=>if x.length<=16777216 then some ((x.length:Int) != 0) else none
 | .exc _ _ _=>none
def Y_:D->Option Bool
 | .bl k=>some k
 |_=>none
def tt(f:Ev->R D):Ev->R Bool:=λρ=>(f ρ).bind λd=>R.of (nY d)
def tb(f:Ev->R D):Ev->R Bool:=λρ=>(f ρ).bind λd=>R.of (Y_ d)
theorem T4{S:AS}(r:Al K H S ds vs):(!ds.isEmpty) = !vs.isEmpty:=by have:=r.length;grind
def tst(C:PEd X c l a f)(B:∀whole,XX a X.env whole=(do let v <-whole;SN a.pos;QV [v] (truthy v)):=by intro _;rfl):PTd X c a (tt f):=PT.imp (wl2 C B) λσ H Q q=>by
 revert q;refine Ce λhs ρ E q=>?_;refine Aq E ((RQ.bind.mp q).mono (λF y x G u I h=>?_) λ_ z=>z);refine Aw (λk e w=>?_) (y.of);refine⟨k,?_,w G u⟩;cases F with
 |non=>cases(show x=.non from h);cases e;rfl
 |bl b=>cases(show x=.bl b from h);cases e;rfl
 |int i=>cases(show x=.int i from h);cases e;rfl
 |str z=>cases(show x=.str z from h);obtain⟨A,rfl⟩:=Bg e;exact⟨Hu A,rfl⟩
 |tup ys=>revert h;refine Bo λp vs m r n=>?_;obtain rfl:=m;cases e;exact .inr (.inl ⟨vs,(TpR.sq r),T4 n⟩)
 |lst ys=>revert h;refine Bo λp vs j r n=>?_;obtain rfl:=j;cases e;exact .inl ⟨vs,r.sq,T4 n⟩
 |exc _ _ _=>cases e
def vW{t:TE}{Q:Bool->Hp->Prop}(i:∀Q,tD K c l f σ H Q->t σ H Q)(h:tDT K c (tb f) σ H Q):t σ H λx H'=>∃k,x=.bl k/\Q k H':=by apply i;revert h;refine Ce λhs ρ E q=>?_;refine Aq E ((RQ.bind.mp q).mono (λr p x u j w m=>?_) λ_ z=>z);refine Aw (λk e n=>?_) (p.of);cases r<;>first | (cases e;exact⟨k,m,n u j⟩) |cases e
def bV{j:O_}{g:D->D->Option D}(m:OpR X (CN j) (rD X.K g))(r:PEd X c l a f1)(p:PEd X c l b f2)(n:FP j b=false):PTd X c (.Compare a [j] [b] pos) (tb (b2 f1 f2 g)):=
 PT.imp (rG m r p n) λσ H Q q=>vW (λQ h=>kI h) q
def teq(h:X.A.units+70<FW)(m:PEd X c l a f1)(j:PEd X c l b f2):PTd X c (.Compare a [.Eq] [b] pos) (tb (b2 f1 f2 eqD)):=bV (u0 h) m j (Nh _)
def tne(h:X.A.units+70<FW)(m:PEd X c l a f1)(j:PEd X c l b f2):PTd X c (.Compare a [.NotEq] [b] pos) (tb (b2 f1 f2 neD)):=bV (jJ h) m j (Nh _)
def tlt(j:PEd X c l a f1)(h:PEd X c l b f2):PTd X c (.Compare a [.Lt] [b] pos) (tb (b2 f1 f2 ltD)):=bV oF j h (Nh _)
def tgt(j:PEd X c l a f1)(h:PEd X c l b f2):PTd X c (.Compare a [.Gt] [b] pos) (tb (b2 f1 f2 gtD)):=bV zn1 j h (Nh _)
def tge(j:PEd X c l a f1)(h:PEd X c l b f2):PTd X c (.Compare a [.GtE] [b] pos) (tb (b2 f1 f2 geD)):=bV zn0 j h (Nh _)
def tin(h:X.A.units+70<FW)(n:PEd X c l a f1)(m:PEd X c l b f2)(j:FP .In b=false:=by with_unfolding_all rfl):PTd X c (.Compare a [.In] [b] pos) (tb (b2 f1 f2 inD)):=bV (zn2 h) n m j
def uV(h:X.A.units+70<FW)(n:PEd X c l a f1)(m:PEd X c l b f2)(j:FP .NotIn b=false:=by with_unfolding_all rfl):PTd X c (.Compare a [.NotIn] [b] pos) (tb (b2 f1 f2 dH)):=bV (zc3 h) n m j
def ch(f1 f2 i:Ev->R D)(g g':D->D->Option D):Ev->R D:=λρ=>(f1 ρ).bind λx=>(f2 ρ).bind λy=>(R.of (g x y)).bind λz=>(R.of (Y_ z)).bind λk=>if k then(i ρ).bind λw=>R.of (g' y w) else .ok (.bl false)
def xX{g:D->D->Option D}{Q:VK}(h:tD K c l (ch f1 f2 i g g') σ H Q):pU (rD K g) (rD K g') (tD K c l f1) (tD K c l f2) (tD K c l i) σ H Q:=by
 revert h;refine Ce λhs ρ E q=>?_;refine Aq E ((RQ.bind.mp q).mono (λdx Y x H1 u E1 M=>?_) λ_ z=>z);refine Aq E1 ((RQ.bind.mp Y).mono (λB U y H2 A E2 L=>?_) λe z=>Bf z u);refine Aw (λdz e T=>?_) ((RQ.bind.mp U).of);refine Aw (λk J p=>?_) ((RQ.bind.mp T).of);have n:=L.mono (Ad.refl _) (λ_ z=>Dj u z:∀o,lvS c ρ σ H1 l o->lvS c ρ σ H l o);refine⟨lvS c ρ σ H l,dx,B,dz,M.mono A (λ_ z=>z),n,e,λz H3 m I=>?_⟩;cases dz<;>try cases J
 refine⟨k,I,?_⟩;have j:=u.trans A;have E3:=E2.mono m;cases k with
 |false=>rw[if_neg (by decide)]at p ⊢;exact p _ H3 (j.trans m) rfl
 |true=>rw[if_pos rfl]at p ⊢;refine Aq E3 ((RQ.bind.mp p).mono (λdw P w H4 r E4 G=>?_) λe z=>Bf z (j.trans m));refine Aw (λd Z O=>?_) (P.of);refine⟨lvS c ρ σ H l,B,dw,d,n.mono (m.trans r) (λ_ z=>z),G.mono (Ad.refl _) (λ_ z=>Dj (j.trans m) z),Z,λz H' C F=>?_⟩;exact O z H' (((j.trans m).trans r).trans C) (F.mono (Ad.refl _) λ_ z=>M9 E ((j.trans m).trans r) z)
def chain{m j:O_}{g:D->D->Option D}(p:OpR X (CN m) (rD X.K g))(n:OpR X (CN j) (rD X.K g'))(w:PEd X c l a f1)(u:PEd X c l b f2)(r:PEd X c l d i)
  (q:P_ [m,j] [b,d]=false:=by with_unfolding_all rfl):PEd X c l (.Compare a [m,j] [b,d] pos) (ch f1 f2 i g g'):=PE.imp (wj8 p n w u r q) λ_ _ _ h=>xX h
def xW{m j:O_}{g:D->D->Option D}(p:OpR X (CN m) (rD X.K g))(n:OpR X (CN j) (rD X.K g'))(x:PEd X c l a f1)(w:PEd X c l b f2)(u:PEd X c l d i)
  (r:P_ [m,j] [b,d]=false:=by with_unfolding_all rfl):PTd X c (.Compare a [m,j] [b,d] pos) (tb (ch f1 f2 i g g')):=PT.imp (wl0 p n x w u r) λσ H Q q=>vW (λQ h=>xX h) q
def nt(f:Ev->R Bool):Ev->R Bool:=λρ=>(f ρ).bind λk=>.ok (!k)
def tan(f g:Ev->R Bool):Ev->R Bool:=λρ=>(f ρ).bind λk=>if k then g ρ else .ok false
def tor(f g:Ev->R Bool):Ev->R Bool:=λρ=>(f ρ).bind λk=>if k then .ok true else g ρ
variable {t u:Ev->R Bool}
abbrev PWd(X:Cx)(c:DC)(e:B_)(f:Ev->R Bool):Prop:=PW X e (tDT X.K c f)
def jE(m:PTd X c a t):PTd X c (.UnaryOp .Not a pos) (nt t):=PT.imp (yq2 m) λσ H Q q=>by revert q;refine Ce λhs ρ E q=>?_;exact Fd E ((RQ.bind.mp q).mono (λk j n h _=>j n h) λ_ z=>z)
def vR(h:PTd X c a t):PWd X c (.BoolOp .And [a] pos) t:=ya2 h
def uU(h:PTd X c a t):PWd X c (.BoolOp .Or [a] pos) t:=pY h
def nZ(r:PTd X c a t)(p:PWd X c (.BoolOp .And (b::rest) pos) u):PWd X c (.BoolOp .And (a::b::rest) pos) (tan t u):=PW.imp (yq5 r p) λσ H Q q=>by
 revert q;refine Ce λhs ρ E q=>?_;refine Fd E ((RQ.bind.mp q).mono (λk j x h y=>?_) λ_ z=>z);cases k with
 |false=>rw[if_neg (by decide)];exact j x h
 |true=>rw[if_pos rfl];exact Fd y ((show RQ (u ρ) _ _ from j).mono (λk n w m _=>n w (h.trans m)) λe z=>Bf z h)
def fV(r:PTd X c a t)(p:PWd X c (.BoolOp .Or (b::rest) pos) u):PWd X c (.BoolOp .Or (a::b::rest) pos) (tor t u):=PW.imp (oY r p) λσ H Q q=>by
 revert q;refine Ce λhs ρ E q=>?_;refine Fd E ((RQ.bind.mp q).mono (λk j x h y=>?_) λ_ z=>z);cases k with
 |true=>rw[if_pos rfl];exact j x h
 |false=>rw[if_neg (by decide)];exact Fd y ((show RQ (u ρ) _ _ from j).mono (λk n w m _=>n w (h.trans m)) λe z=>Bf z h)
def d_(h:PWd X c e t):PTd X c e t:=h.pt
def va(f g:Ev->R D):Ev->R D:=λρ=>(f ρ).bind λd=>(R.of (Y_ d)).bind λk=>if k then g ρ else .ok (.bl false)
def vo(f g:Ev->R D):Ev->R D:=λρ=>(f ρ).bind λd=>(R.of (Y_ d)).bind λk=>if k then .ok (.bl true) else g ρ
def v1{op}(h:PEd X c l a f):PEd X c l (.BoolOp op [a] pos) f:=yp5 h
def uR(A:PEd X c l a f1)(y:PEd X c l (.BoolOp .And (b::rest) pos) f2):PEd X c l (.BoolOp .And (a::b::rest) pos) (va f1 f2):=PE.imp (yp1 A y) λσ H Q q=>by
 revert q;refine Ce λhs ρ E q=>?_;refine Aq E ((RQ.bind.mp q).mono (λB w x F h G p=>?_) λ_ z=>z);refine Aw (λk e j=>?_) ((RQ.bind.mp w).of);cases B<;>try cases e
 refine⟨k,p,?_⟩;cases k with
 |false=>rw[if_neg (by decide)]at j ⊢;exact j _ F h rfl
 |true=>rw[if_pos rfl]at j ⊢;exact Aq G (j.mono (λd r v C m I n=>r v C (h.trans m) (n.mono (Ad.refl _) λ_ z=>Dj h z)) λe z=>Bf z h)
def vor(A:PEd X c l a f1)(y:PEd X c l (.BoolOp .Or (b::rest) pos) f2):PEd X c l (.BoolOp .Or (a::b::rest) pos) (vo f1 f2):=PE.imp (zd5 A y) λσ H Q q=>by
 revert q;refine Ce λhs ρ E q=>?_;refine Aq E ((RQ.bind.mp q).mono (λB w x F h G p=>?_) λ_ z=>z);refine Aw (λk e j=>?_) ((RQ.bind.mp w).of);cases B<;>try cases e
 refine⟨k,p,?_⟩;cases k with
 |true=>rw[if_pos rfl]at j ⊢;exact j _ F h rfl
 |false=>rw[if_neg (by decide)]at j ⊢;exact Aq G (j.mono (λd r v C m I n=>r v C (h.trans m) (n.mono (Ad.refl _) λ_ z=>Dj h z)) λe z=>Bf z h)
def ife(t:Ev->R Bool)(f g:Ev->R D):Ev->R D:=λρ=>(t ρ).bind λk=>if k then f ρ else g ρ
def ifx{d:B_}(x:PTd X c d t)(A:PEd X c l a f1)(y:PEd X c l b f2):PEd X c l (.IfExp d a b pos) (ife t f1 f2):=PE.imp (wk3 x A y) λσ H Q q=>by
 revert q;refine Ce λhs ρ E q=>?_;refine Fd E ((RQ.bind.mp q).mono (λk j C h w=>?_) λ_ z=>z);cases k with
 |true=>rw[if_pos rfl]at j ⊢;exact Aq w (j.mono (λd p v r m B n=>p v r (h.trans m) (n.mono (Ad.refl _) λ_ z=>Dj h z)) λe z=>Bf z h)
 |false=>rw[if_neg (by decide)]at j ⊢;exact Aq w (j.mono (λd p v r m B n=>p v r (h.trans m) (n.mono (Ad.refl _) λ_ z=>Dj h z)) λe z=>Bf z h)
end
def tDO(K:BZ)(c:DC)(f:Ev->R (Option Int)):TO:=λσ H Q=>∃hs ρ,Ar K c hs ρ σ H/\RQ (f ρ) (λo=>∀H',Ad H H'->Q o H') (λe=>∀v H',Ad H H'->Rep K H' (lvS c ρ σ H .any) e v->c.Ex e v H')
abbrev POd(X:Cx)(c:DC)(e:Option B_)(f:Ev->R (Option Int)):Prop:=PO X e (tDO X.K c f)
def PO.imp{e:Option B_}{t t':TO}(h:PO X e t)(i:∀σ H Q,t' σ H Q->t σ H Q):PO X e t':=λpins s σ H Q I q=>h pins s σ H Q I (i σ H Q q)
def p0:Ev->R (Option Int):=λ_=>.ok none
def isI:D->Option (Option Int)
 | .int i=>some (some i)
 |_=>none
def p1(f:Ev->R D):Ev->R (Option Int):=λρ=>(f ρ).bind λd=>R.of (isI d)
def cutD(xs:List D)(h i:Option Int):List D:=(xs.drop (HT.sIx xs.length 0 h)).take (HT.sIx xs.length xs.length i - HT.sIx xs.length 0 h)
def bS(f:Ev->R D)(h m:Ev->R (Option Int))(g:D->Option Int->Option Int->Option D):Ev->R D:=λρ=>(f ρ).bind λx=>(h ρ).bind λi=>(m ρ).bind λj=>R.of (g x i j)
variable {p2:HY}
section
variable {lo hi:Option B_}{f:Ev->R D}{h i:Ev->R (Option Int)}
def pn:POd X c none p0:=PO.imp wz5 λσ H Q ⟨hs,ρ,E,q⟩=>q H (Ad.refl _)
def ps(h:PEd X c l e f):POd X c (some e) (p1 f):=PO.imp (wz6 h) λσ H Q q=>by
 revert q;refine Ce λhs ρ E q=>?_;refine Aq E ((RQ.bind.mp q).mono (λr p x u j w m=>?_) λ_ z=>z);refine Aw (λk e n=>?_) (p.of);cases r<;>try cases e
 exact⟨_,m,n u j⟩
def Al.cut{S:AS}(r:Al K H S ds vs)(lo hi:Option Int):Al K H S (cutD ds lo hi) (aR vs lo hi):=by unfold cutD aR;rw[r.length];exact(r.drop _).take _
def Us{j:Ev->R (Option Int)}{Q:Option Int->Hp->Prop}(E:Ar K c hs ρ σ H)
  (h:RQ (j ρ) (λb=>∀H',Ad H H'->Ar K c hs ρ σ H'->Q b H') (λe=>∀v H',Ad H H'->Rep K H' (lvS c ρ σ H .any) e v->c.Ex e v H')):tDO K c j σ H Q:=
 ⟨hs,ρ,E,h.mono (λd q H' s=>q H' s (E.mono s)) λ_ q=>q⟩
end
variable {i:Nat}
variable {j:Nat}
section
variable {d:D}{v:V}
def Dc{o:Option D}(h:j≠i):live (ρ.set i o) j↔live ρ j:=by unfold live;rw[QT (Ne.symm h)]
def kv2(p:i∉c.O){o:Option D}{w:Option V}{a:BJ}:owned c (ρ.set i o) (σ.set i w) a↔owned c ρ σ a:=by
 unfold owned;constructor
 ·rintro⟨j,m,n,e⟩;have h:j≠i:=λz=>p (z ▸ m);rw[Dc h]at n;rw[QT (Ne.symm h)]at e;exact⟨j,m,n,e⟩
 ·rintro⟨j,m,n,e⟩;have h:j≠i:=λz=>p (z ▸ m);refine⟨j,m,(Dc h).mpr n,?_⟩;rw[QT (Ne.symm h)];exact e
def lB(h:i∉c.O){o:Option D}{w:Option V}:c.N (ρ.set i o) (σ.set i w)=c.N ρ σ:=by funext x;unfold DC.N;simp only[kv2 h]
theorem Ar.set(E:Ar K c hs ρ σ H)(hi:i∉c.O)(r:Rep K H (c.N ρ σ) d v):Ar K c hs (ρ.set i (some d)) (σ.set i (some v)) H where
 same:=E.same
 len:=by simp[E.len]
 own:=λj d' hj hd=>by have hne:j≠i:=λz=>hi (z ▸ hj);rw[QT (Ne.symm hne)]at hd ⊢;rw[lB hi];exact E.own j d' hj hd
 apart:=λj k a hj hk lj lk Y J=>by have hj':j≠i:=λz=>hi (z ▸ hj);have hk':k≠i:=λz=>hi (z ▸ hk);rw[QT (Ne.symm hj')]at Y;rw[QT (Ne.symm hk')]at J;exact E.apart j k a hj hk ((Dc hj').mp lj) ((Dc hk').mp lk) Y J
 oth:=λj d' hj hd=>by
  rw[lB hi];by_cases hne:j=i
  ·subst hne;by_cases hlt:j<ρ.length
   ·rw[YL hlt]at hd;cases hd;exact⟨v,by rw[YL (by rw[<-E.len];exact hlt)],r⟩
   ·simp_all
  ·rw[QT (Ne.symm hne)]at hd ⊢;exact E.oth j d' hj hd
 held:=λp hp=>by rw[lB hi];exact E.held p hp
 excl:=E.excl
theorem Ar.setW{a:BJ}{d:D}(E:Ar K c hs ρ σ H)(L:i∈c.O)(s:Ad H H')(A:H a=none)(r:Dr K H' (AS.but (c.N ρ σ) a) d a):
  Ar K c hs (ρ.set i (some d)) (σ.set i (some (.ref a))) H':=by
 have sub:∀o,AS.but (c.N ρ σ) a o->c.N (ρ.set i (some d)) (σ.set i (some (.ref a))) o:=λo ⟨⟨T,M⟩,h3⟩=>by
  refine⟨T,λb F ⟨j,q,B,e⟩=>?_⟩
  by_cases m:j=i
  ·subst m
   rw[jGt]at e
   lia
  ·rw[QT (Ne.symm m)]at e
   exact M b F ⟨j,q,(Dc m).mp B,e⟩
 have conv:∀{x v},Rep K H (c.N ρ σ) x v->Rep K H' (c.N (ρ.set i (some d)) (σ.set i (some (.ref a)))) x v:=λh=>(h.avoid A).mono s sub
 refine⟨E.same.trans s,by simp[E.len],λj x q u=>?_,λj k b q G B lk Y J=>?_,λj x q u=>?_,λP C=>⟨(E.held P C).1,(E.held P C).1.mono s sub ((E.held P C).1.avoid A (E.held P C).2)⟩,λb F z=>E.excl b F (s.free z)⟩
 ·by_cases m:j=i
  ·subst m
   by_cases y:j<ρ.length
   ·rw[YL y]at u
    cases u
    exact⟨a,by rw[YL (by rw[<-E.len];exact y)],⟨E.same.free A,λI=>E.excl a I A⟩,r.mono (Ad.refl _) sub⟩
   ·rw[fL (by simpa using y)]at u
    cases u
  ·rw[QT (Ne.symm m)]at u ⊢
   refine Gx (λb J e4 U=>?_) (E.own j x q u)
   exact⟨b,J,e4,(U.avoid A).mono s sub⟩
 ·have hold:∀j,j∈c.O->j≠i->live (ρ.set i (some d)) j->(σ.set i (some (.ref a)))[j]? = some (some (.ref b))->∃o,H b=some o:=λj q m B e=>by
   rw[QT (Ne.symm m)]at e
   obtain⟨x,u⟩:=(Dc m).mp B
   refine Gx (λb' J _ Z=>?_) (E.own j x q u)
   rw[e]at J;cases J
   exact Z.has
  have self:∀j,j=i->(σ.set i (some (.ref a)))[j]? = some (some (.ref b))->b=a:=λj m e=>by
   subst m
   rw[jGt]at e
   lia
  by_cases p:j=i
  ·by_cases n:k=i
   ·rw[p,n]
   ·have:=self j p Y
    subst this
    obtain⟨ws,e⟩:=hold k G n lk J
    rw[A]at e;cases e
  ·by_cases n:k=i
   ·have:=self k n J
    subst this
    obtain⟨ws,e⟩:=hold j q p B Y
    rw[A]at e;cases e
   ·rw[QT (Ne.symm p)]at Y
    rw[QT (Ne.symm n)]at J
    exact E.apart j k b q G ((Dc p).mp B) ((Dc n).mp lk) Y J
 ·have m:j≠i:=λz=>q (z ▸ L)
  rw[QT (Ne.symm m)]at u ⊢
  refine Aw (λw Y J=>?_) (E.oth j x q u)
  exact⟨w,Y,conv J⟩
def Ar.setO{a:BJ}(E:Ar K c hs ρ σ H)(m:i∈c.O)(s:Ad H H')(n:H a=none)(h:H' a=some (.lst vs))(r:Al K H' (AS.but (c.N ρ σ) a) ds vs):
  Ar K c hs (ρ.set i (some (.lst ds))) (σ.set i (some (.ref a))) H':=E.setW m s n (.inl ⟨vs,ds,rfl,h,r⟩)
theorem Ar.writeW{a:BJ}{d d':D}(E:Ar K c hs ρ σ H)(C:i∈c.O)(F:ρ[i]? = some (some d))(q:σ[i]? = some (some (.ref a)))
  (conv:∀d v,Rep K H (c.N ρ σ) d v->Rep K (upd H a o') (c.N ρ σ) d v)(A:∀d b,b≠a->Dr K H (c.N ρ σ) d b->Dr K (upd H a o') (c.N ρ σ) d b)(y:∀P,W4 P->P H (c.N ρ σ)->P (upd H a o') (c.N ρ σ))
  (r:Dr K (upd H a o') (c.N ρ σ) d' a):Ar K c hs (ρ.set i (some d')) σ (upd H a o'):=by
 have U:owned c ρ σ a:=⟨i,C,⟨_,F⟩,q⟩
 have L:i<ρ.length:=(NB.mp F).1
 have n:∀j,live (ρ.set i (some d')) j↔live ρ j:=λj=>by
  by_cases h:j=i
  ·subst h
   unfold live
   simp_all
  ·exact Dc h
 have T:c.N (ρ.set i (some d')) σ=c.N ρ σ:=by
  funext x
  unfold DC.N owned
  simp only[n]
 have B:c.H0 a=none/\a∉c.Z:=by
  refine Gx (λb J e4 _=>?_) (E.own i _ C F)
  lia
 refine⟨λb o e=>?_,by simp[E.len],λj d' u m=>?_,λj k b u hk lj lk Y J=>?_,λj d' u m=>?_,λp I=>?_,λb G z=>?_⟩
 ·rw[Ae (Bs e B.1)]
  exact E.same b o e
 ·rw[T]
  by_cases h:j=i
  ·subst h
   rw[YL L]at m
   cases m
   exact⟨a,q,B,r⟩
  ·rw[QT (Ne.symm h)]at m
   refine Gx (λb J e4 e5=>?_) (E.own j d' u m)
   have G:b≠a:=λz=>h (E.apart j i a u C ⟨_,m⟩ ⟨_,F⟩ (z ▸ J) q)
   exact⟨b,J,e4,A _ _ G e5⟩
 ·exact E.apart j k b u hk ((n j).mp lj) ((n k).mp lk) Y J
 ·rw[T]
  have h:j≠i:=λz=>u (z ▸ C)
  rw[QT (Ne.symm h)]at m
  refine Aw (λw Y J=>?_) (E.oth j d' u m)
  exact⟨w,Y,conv _ _ J⟩
 ·rw[T]
  exact⟨(E.held p I).1,y p (E.held p I).1 (E.held p I).2⟩
 ·have M:b≠a:=λe=>B.2 (e ▸ G)
  rw[Ae M]at z
  exact E.excl b G z
def Ar.notN{a:BJ}{d:D}(E:Ar K c hs ρ σ H)(m:i∈c.O)(n:ρ[i]? = some (some d))(h:σ[i]? = some (some (.ref a))):¬ c.N ρ σ (some a):=λz=>z.2 a rfl ⟨i,m,⟨_,n⟩,h⟩
def Ar.write{a:BJ}{es:List D}(E:Ar K c hs ρ σ H)(q:i∈c.O)(u:ρ[i]? = some (some (.lst ds)))(m:σ[i]? = some (some (.ref a)))(p:H a=some (.lst vs))(r:Al K H (c.N ρ σ) es ws):
  Ar K c hs (ρ.set i (some (.lst es))) σ (upd H a (.lst ws)):=by
 have n:=E.notN q u m;exact E.writeW q u m (λ_ _ h=>h.wr p n) (λ_ _ w h=>h.wr p n w) (λ_ st h=>st.wr p n h) (.inl ⟨ws,es,rfl,Ak,r.wr p n⟩)
def Ar.writeD{a:BJ}{d:D}{cc:BR}{ks fs:List D}(E:Ar K c hs ρ σ H)(u:i∈c.O)(w:ρ[i]? = some (some d))(m:σ[i]? = some (some (.ref a)))(q:H a=some o)(n:Xb o=true)(x:W3 (upd H a o') cc ks a ws)(r:Al K H (c.N ρ σ) fs ws):
  Ar K c hs (ρ.set i (some (.exc cc ks fs))) σ (upd H a o'):=by
 have p:=E.notN u w m;exact E.writeW u w m (λ_ _ h=>h.wrD q n p) (λ_ _ y h=>h.wrD q n p y) (λ_ st h=>st.wrD q n p h) (.inr ⟨ws,cc,ks,fs,rfl,x,r.wrD q n p⟩)
def Ar.hold{P:Hd}(E:Ar K c hs ρ σ H)(st:W4 P)(h:P H (c.N ρ σ)):Ar K c (P::hs) ρ σ H:=
 ⟨E.same,E.len,E.own,E.apart,E.oth,λx m=>(JN.mp m).elim (λe=>by subst e;exact⟨st,h⟩) (E.held x),E.excl⟩
def Ar.unhold{P:Hd}(E:Ar K c (P::hs) ρ σ H):Ar K c hs ρ σ H:=
 ⟨E.same,E.len,E.own,E.apart,E.oth,λx h=>E.held x (JB _ h),E.excl⟩
end
def sq(g m:Ev->R Fl):Ev->R Fl:=λρ=>(g ρ).bind λn=>match n with
 | .nx h=>m h
 |o=>.ok o
def nop:Ev->R Fl:=λρ=>.ok (.nx ρ)
def asg(i:Nat)(f:Ev->R D):Ev->R Fl:=λρ=>(f ρ).bind λd=>.ok (.nx (ρ.set i (some d)))
def Uj(f:Ev->R D):Ev->R Fl:=λρ=>(f ρ).bind λd=>.ok (.rt d)
def ifS(t:Ev->R Bool)(g1 h:Ev->R Fl):Ev->R Fl:=λρ=>(t ρ).bind λk=>if k then g1 ρ else h ρ
def drp(f:Ev->R D):Ev->R Fl:=λρ=>(f ρ).bind λ_=>.ok (.nx ρ)
def dY(i:Nat)(f:Ev->R D):Ev->R Fl:=λρ=>match ρ[i]? with
 |some (some (.lst ds))=>(f ρ).bind λd=>if ds.length<16777216 then .ok (.nx (ρ.set i (some (.lst (ds++[d]))))) else .bad
 |_=>.bad
variable {pos' apos cpos:HY}
section
variable {st:CT}{rest:List CT}{f:Ev->R D}{g h m:Ev->R Fl}{t:Ev->R Bool}
def Hb(E:Ar K c hs ρ σ H){x:D}(h:Y4 K c x):∀v H',Ad H H'->Rep K H' (lvS c ρ σ H .any) x v->c.Ex x v H':=
 λv H' s r=>h v H' (E.same.trans s) r
def sn:ZD X c [] nop:=PSs.imp Xv λD σ H ⟨hs,ρ,E,q⟩=>q σ H E
def sc(h1:PSd X c st h)(u:ZD X c rest m):ZD X c (st::rest) (sq h m):=PSs.imp (Gu h1 u) λD σ H q=>by
 revert q;refine Ce λhs ρ E q=>?_;refine⟨hs,ρ,E,(RQ.bind.mp q).mono (λw p=>?_) λ_ z=>z⟩;cases w with
 |nx n=>exact λr H' x=>⟨hs,n,x,p⟩
 |rt d=>exact p
 |bk n=>exact p
 |ct n=>exact p
def s1(h1:PSd X c st h):ZD X c [st] h:=Qx h1
def Xc(i:Nat){x:BR}(r:X.N.Nodup)(A:PEd X c .no e f)(w:c.O.contains i=false:=by rfl)(B:X.N[i]? = some x:=by rfl)(u:Loc X.env.scope x:=by first |exact Or.inl rfl |exact Or.inr rfl)(hs:FJ e (some (.Name x pos')) pos.line X.env=pure false:=by rfl)
  (y:X.fn x=true\/X.env.scope.names.lookup x=some .local:=by first |exact .inl rfl |exact .inr rfl):PSd X c (.Assign [.Name x pos'] e pos) (asg i f):=PS.imp (pZ (i:=i) r B u A hs y) λD σ H q=>by
 revert q;refine Ce λhs ρ E q=>?_;refine Aq E ((RQ.bind.mp q).mono (λd p v C G F n=>?_) λx z=>Hb E z);exact p _ C (F.set (by simpa using w) n)
theorem oX(i:Nat){x:BR}(p:X.N.Nodup)(B:PEf X c .no e f)(z:c.O.contains i=true:=by rfl)(F:X.N[i]? = some x:=by rfl)(u:Loc X.env.scope x:=by first |exact Or.inl rfl |exact Or.inr rfl)(hs:FJ e (some (.Name x pos')) pos.line X.env=pure false:=by rfl)
  (A:X.fn x=true\/X.env.scope.names.lookup x=some .local:=by first |exact .inl rfl |exact .inr rfl)(y:∀ρ d,f ρ=.ok d->∃ds,d=.lst ds:=by intros;first |exact kl4 (by assumption) |exact wr7 (by assumption) |exact slL_lst (by assumption)):PSd X c (.Assign [.Name x pos'] e pos) (asg i f):=PS.imp (pZ (i:=i) p F u B hs A) λD σ H q=>by
 revert q;refine Ce λhs ρ E q=>?_;refine⟨hs,ρ,E,?_⟩;have q:=RQ.bind.mp q;cases n:f ρ with
 |ok d=>rw[n]at q;obtain⟨ds,rfl⟩:=y ρ d n;intro a vs I H' G s C w r;cases G;exact q _ H' (E.setO (by simpa using z) s C w r)
 |exc x=>rw[n]at q;exact Hb E q
 |bad=>rw[n]at q;exact q
def Gy(r:PEd X c .any e f):PSd X c (.Return (some e) pos) (Uj f):=PS.imp (Z6 r) λD σ H q=>by revert q;refine Ce λhs ρ E q=>?_;refine Aq E ((RQ.bind.mp q).mono (λd p v u y w n=>?_) λx z=>Hb E z);exact p v u w.same n
def if_{d:B_}{p bs:List CT}(u:PTd X c d t)(y:ZD X c p h)(w:ZD X c bs m):PSd X c (.If d p bs pos) (ifS t h m):=PS.imp (gZ u y w) λD σ H q=>by
 revert q;refine Ce λhs ρ E q=>?_;refine Fd E ((RQ.bind.mp q).mono (λk n B A r=>?_) λx z=>Hb E z);cases k with
 |true=>rw[if_pos rfl]at n ⊢;exact⟨hs,ρ,r,n⟩
 |false=>rw[if_neg (by decide)]at n ⊢;exact⟨hs,ρ,r,n⟩
def ex_(p:PEd X c .any e f)(hs:FJ e none pos.line X.env=pure false:=by rfl):PSd X c (.Expr e pos) (drp f):=PS.imp (rH p hs) λD σ H q=>by revert q;refine Ce λhs ρ E q=>?_;refine Aq E ((RQ.bind.mp q).mono (λd n v r w u y=>?_) λx z=>Hb E z);exact n σ r u
theorem vM(i:Nat){x:BR}{p:HY}(he:PEd X c .no e f)(U:c.O.contains i=true:=by rfl)(hN:X.N[i]? = some x:=by rfl)(T:Vis X.env.scope x:=by first |exact Or.inl rfl |exact Or.inr (Or.inl rfl) |exact Or.inr (Or.inr rfl))(C:Zd x:=by decide)
  (L:(x == ("__classdict__" : BR))=false:=by decide)(w:DG (.Name x p) "append" X.env (CV (.Name x p) X.env)=CV (.Name x p) X.env:=by rfl)
  (A:((IK cpos (BP [e] X.env)).all (λx=>!x.1) && (JC cpos (GF [] X.env)).all (λx=>x.1.isSome)
   && decide ([e].length+([]:List HN).length+(if([]:List HN).isEmpty then 0 else 1)<30))=true:=by rfl)
  (u:(apos.endLine == cpos.line)=true:=by rfl)(hs:BP [e] X.env=(false,CV e X.env)::BP [] X.env:=by rfl)(n:Zp X.env cpos []:=by rfl)
  (I:FJ (.Call (.Attribute (.Name x p) "append" apos) [e] [] cpos) none pos.line X.env=pure false:=by rfl):
  PSd X c (.Expr (.Call (.Attribute (.Name x p) "append" apos) [e] [] cpos) pos) (dY i f):=
 PS.imp (rH (eF PySem.F.plainAttrs_list PySem.F.slot_list_append PySem.F.type_list_append Vl (pv i hN T C L) (Eb he Jf hs) w A u hs n) I) λD σ H q=>by
 revert q;refine Ce λhs ρ E q=>?_;have y:i∈c.O:=by simpa using U
 unfold dY at q;split at q
 ·rename_i ds C;refine oM (λa vs aa e0 Y J Z r=>?_) (E.ownL i _ y C);cases e0;refine⟨.ref a,Y,.inl ⟨rfl,vs,SqL.of J⟩,?_⟩;refine Aq E ((RQ.bind.mp q).mono (λd B v H1 G E1 P=>?_) λx z=>Hb E z);by_cases M:ds.length<16777216
  ·rw[if_pos M]at B;have l:=r.length;refine⟨a,vs,v,rfl,rfl,G _ _ J,by rw[CG];omega,?_⟩;exact B σ _ (E1.write y C Y (G _ _ J) ((r.mono G λ_ z=>z).append (.cons P Al.nil)))
  ·rw[if_neg M]at B;exact B.elim
 ·exact q.elim
end
def tDG(K:BZ)(c:DC)(g:D->Ev->R Ev):TG:=λv σ H Q=>∃hs ρ d,Ar K c hs ρ σ H/\Rep K H (c.N ρ σ) d v/\RQ (g d ρ) (λm=>∀h,Ar K c hs m h H->Q h H) (λ_=>False)
def zo8(K:BZ)(c:DC)(g:List D->Ev->R Ev):TGs:=λvs σ H Q=>∃hs ρ ds,Ar K c hs ρ σ H/\Al K H (c.N ρ σ) ds vs/\RQ (g ds ρ) (λm=>∀h,Ar K c hs m h H->Q h H) (λ_=>False)
abbrev PGd(X:Cx)(c:DC)(t:B_)(g:D->Ev->R Ev):Prop:=PG X t (tDG X.K c g)
abbrev d7(X:Cx)(c:DC)(ts:List B_)(g:List D->Ev->R Ev):Prop:=PGs X ts (zo8 X.K c g)
def PG.imp{t t':TG}(h:PG X e t)(i:∀v σ H Q,t' v σ H Q->t v σ H Q):PG X e t':=λpins s σ H v u Q I r q=>h pins s σ H v u Q I r (i v σ H Q q)
variable {is:List Nat}
section
variable {f:Ev->R D}
def gN(i:Nat):D->Ev->R Ev:=λd ρ=>.ok (ρ.set i (some d))
def Fb:List Nat->List D->Ev->R Ev
 | [],[],ρ=>.ok ρ
 |i::is,d::ds,ρ=>Fb is ds (ρ.set i (some d))
 |_,_,_=>.bad
def gT(is:List Nat):D->Ev->R Ev:=λd ρ=>match d with
 | .tup ds=>Fb is ds ρ
 | .lst ds=>Fb is ds ρ
 |_=>.bad
def tn(i:Nat){x:BR}(h:X.N.Nodup)(n:c.O.contains i=false:=by rfl)(u:X.N[i]? = some x:=by rfl)(m:Loc X.env.scope x:=by first |exact Or.inl rfl |exact Or.inr rfl)(p:X.fn x=true\/X.env.scope.names.lookup x=some .local:=by first |exact .inl rfl |exact .inr rfl):
  PGd X c (.Name x pos) (gN i):=PG.imp (km0 h u m p) λv σ H Q q=>by
 revert q;refine gG λhs ρ d E r q=>?_;exact q _ (E.set (by simpa using n) r)
def tsn:d7 X c [] (Fb []):=λpins s σ H vs h Q I r q=>by
 revert q;refine gG λhs ρ ds E m q=>?_;cases ds with
 |nil=>refine wz2 pins s σ H vs h Q I r ⟨m,q σ E⟩
 |cons d ds=>exact q.elim
def tsc(i:Nat){x:BR}{p:HY}(B:X.N.Nodup)(L:d7 X c es (Fb is))(F:c.O.contains i=false:=by rfl)(J:X.N[i]? = some x:=by rfl)(C:Loc X.env.scope x:=by first |exact Or.inl rfl |exact Or.inr rfl)(G:X.fn x=true\/X.env.scope.names.lookup x=some .local:=by first |exact .inl rfl |exact .inr rfl)
  (hs:(GD (.Name x p::es) X.env).map (·.2)=YD (.Name x p) X.env::(GD es X.env).map (·.2):=by rfl):d7 X c (.Name x p::es) (Fb (i::is)):=λpins s σ H vs w Q I r q=>by
 revert q;refine gG λu ρ ds E A q=>?_;cases ds with
 |nil=>exact q.elim
 |cons d ds =>
  revert A;refine Bo λv h n z y=>?_;obtain rfl:=n;refine wk5 (km0 B J C G) L hs pins s σ H _ w Q I r ⟨v,h,rfl,?_⟩;have m:i∉c.O:=by simpa using F
  exact⟨u,_,ds,E.set m z,by rw[lB m];exact y,q⟩
def yz1(K:BZ)(n:Nat)(t:TGs):TG:=λv σ H Q=>∃a h,v=.ref a/\(SqT K H a h\/SqL K H a h)/\h.length=n/\t h σ H Q
def wz1{k:Nat}{t:TGs}{n:Nat}(C:X.calm=true)(h:PGs X es t)
  (A:(GD es X.env).length=n:=by rfl)(m:(GD es X.env).findIdx? (·.1)=none:=by rfl):PG X (.Tuple es k pos) (yz1 X.K n t):=by
 intro pins s σ H v u Q I r w;revert w;refine b_ λa y Y q B w=>?_;rcases q with q |q
 ·exact yp7 C h A m pins s σ H v u Q I r ⟨a,y,Y,q,B,w⟩
 subst Y;cases r;refine Gx (λx z p J=>?_) (I.list q);rw[assign_Tuple];refine BX (VL ?_);unfold unpack;rw[show(GD es X.env).length=x.toArray.size by simp[A,<-B,z.length],m];refine BX (HB (W.kun_itemsOf (I.ok.hd C) p.isList λF E=>?_));have G:Inv X pins σ H {s with heap:=F}:=I.kept (t':=s.toks) λb o e=>E b o (MJ (HX e)) e;exact h pins _ σ H y _ Q G (by simpa using z) w
theorem Vt{Q:Ev->Prop}{e:D->Prop}:∀(is:List Nat)(ds:List D)(ρ:Ev)(q:RQ (Fb is ds ρ) Q e),is.length=ds.length
 | [],[],_,_=>rfl
 | [],_::_,_,q=>q.elim
 |_::_,[],_,q=>q.elim
 |i::is,d::ds,ρ,q=>by have:is.length=ds.length:=Vt is ds _ q;simp[this]
def tT{k n:Nat}(A:X.calm=true)(h:d7 X c es (Fb is))(y:is.length=n:=by rfl)(z:(GD es X.env).length=n:=by rfl)(w:(GD es X.env).findIdx? (·.1)=none:=by rfl):PGd X c (.Tuple es k pos) (gT is):=
 PG.imp (wz1 (n:=n) A h z w) λv σ H Q q=>by
 revert q;refine gG λhs ρ d E r q=>?_;cases d with
 |tup ds=>revert r;refine Bo λa vs u x m=>?_;obtain rfl:=u;have:=Vt is ds ρ q;exact⟨a,vs,rfl,.inl (TpR.sq x),by rw[<-m.length,<-this,y],hs,ρ,ds,E,m,q⟩
 |lst ds=>revert r;refine Bo λa vs p x m=>?_;obtain rfl:=p;have:=Vt is ds ρ q;exact⟨a,vs,rfl,.inr x.sq,by rw[<-m.length,<-this,y],hs,ρ,ds,E,m,q⟩
 |_=>exact q.elim
def RQ.noex{m:Type}{r:R m}{q:m->Prop}{e:D->Prop}(h:RQ r q e)(n:∀x,r≠.exc x):RQ r q e':=by
 cases r with
 |ok a=>exact h
 |exc x=>exact absurd rfl (n x)
 |bad=>exact h
theorem ji8:∀(is:List Nat)(ds:List D)(ρ:Ev)(x:D),Fb is ds ρ≠.exc x
 | [],[],_,_=>by simp[Fb]
 |i::is,d::ds,ρ,x=>by rw[Fb];exact ji8 is ds _ x
 | [],_::_,_,_=>by simp[Fb]
 |_::_,[],_,_=>by simp[Fb]
def yl9(is:List Nat):∀(d:D)(ρ:Ev)(x:D),gT is d ρ≠.exc x:=λd ρ x=>by
 cases d<;>simp[gT]
 all_goals exact ji8 is _ ρ x
def yl8(i:Nat):∀(d:D)(ρ:Ev)(x:D),gN i d ρ≠.exc x:=λd ρ x=>by simp[gN]
end
structure ItD(K:BZ)(J:It)(ds:List D)(P:Hd):Prop where
 stab:W4 P
 go:∀(i:Nat)(H:Hp)(S:AS),i<ds.length->P H S->J.go i H
 yld:∀(i:Nat)(H:Hp)(S:AS)(x:V)(H':Hp),P H S->J.yld i H x H'->Ad H H'/\∀d,ds[i]? = some d->Rep K H' S d x
 stop:∀(i:Nat)(H:Hp)(S:AS),ds.length<=i->P H S->J.stop i H
def tDI(K:BZ)(c:DC)(l:Lv)(f:Ev->R (List D)):TI:=λσ H Q=>∃hs ρ,Ar K c hs ρ σ H/\RQ (f ρ) (λds=>∀J P H',Ad H H'->ItD K J ds P->P H' (lvS c ρ σ H l)->Q J H') (λe=>∀v H',Ad H H'->Rep K H' (lvS c ρ σ H .any) e v->c.Ex e v H')
abbrev PId(X:Cx)(c:DC)(l:Lv)(h e:B_)(f:Ev->R (List D)):Prop:=PI X h e (tDI X.K c l f)
def PI.imp{m:B_}{t t':TI}(h:PI X m e t)(i:∀σ H Q,t' σ H Q->t σ H Q):PI X m e t':=λpins s σ H Q I q=>h pins s σ H Q I (i σ H Q q)
def Jy:D->Option (List D)
 | .lst ds=>some ds
 | .tup ds=>some ds
 |_=>none
def itS(f:Ev->R D):Ev->R (List D):=λρ=>(f ρ).bind λd=>R.of (Jy d)
def cI:List D->Option (List D)
 | [.int j]=>if -(2 ^ 62)<=j/\j<2 ^ 62 then some ((List.range j.toNat).map λ(k:Nat)=>.int (0+(k:Int))) else none
 |_=>none
def itR(h:List D->Option (List D))(fs:Ev->R (List D)):Ev->R (List D):=λρ=>(fs ρ).bind λm=>R.of (h m)
variable {tg:B_}
variable {lo:Int}
section
variable {f:Ev->R D}{fs:Ev->R (List D)}
def zl8(K:BZ)(n:TE):TI:=λσ H R=>n σ H λx h=>∃a,x=.ref a/\(((∃m,SqL K h a m)/\R (Itl K a) h)\/((∃m,SqT K h a m)/\R (Itt K a) h))
theorem yp8{z:TE}(G:PE X e z):PI X tg e (zl8 X.K z):=by
 intro pins s σ H R I h;refine thG (G pins s σ H _ I h) λv n x A m E u=>?_;revert u;refine Aw λa w u=>?_;obtain rfl:=w;cases E;rcases u with ⟨⟨B,y⟩,q⟩ | ⟨⟨B,y⟩,q⟩
 ·refine Gx (λr C p F=>?_) (m.list y);refine JM p.isList ?_;refine⟨n.heap.objs.size,[n.heap.objs.size],_,_,A,rfl,m.kept (t':=n.toks) λb o e=>JK _ e,kx7 a _,⟨_,K_ _ rfl,rfl,rfl⟩,λb J=>?_,q⟩;simp_all [m.fpOk,GX,m.hok.fresh]
 ·refine Gx (λr C p F=>?_) (m.tuple y);refine wpAny_pyIter_tuple (show n.heap.IsTuple a r.toArray from p) ?_;refine⟨n.heap.objs.size,[n.heap.objs.size],_,_,A,rfl,m.kept (t':=n.toks) λb o e=>JK _ e,kh5 a _,⟨_,K_ _ rfl,rfl,rfl⟩,λb J=>?_,q⟩;simp_all [m.fpOk,GX,m.hok.fresh]
def tK{a:BJ}:W4 λH S=>LsR K H S a vs/\Al K H S ds vs:=
 ⟨λs r h=>⟨h.1.same s r,h.2.mono s r⟩,λn m h=>⟨h.1.wr n m,h.2.wr n m⟩,λn q m h=>⟨h.1.wrD n (Zj q) m,h.2.wrD n q m⟩,λp h=>⟨h.1.avoid p,h.2.avoid p⟩⟩
def tH{a:BJ}:W4 λH S=>SqT K H a vs/\Al K H S ds vs:=
 ⟨λs r h=>⟨Ad.sqT s h.1,h.2.mono s r⟩,λm p h=>⟨yr9 m h.1,h.2.wr m p⟩,λm n p h=>⟨yb9 m (Zk n) (wf3 n) h.1,h.2.wrD m n p⟩,λq h=>⟨h.1,h.2.avoid q⟩⟩
theorem wu7{a:BJ}:ItD K (Itl K a) ds λH S=>LsR K H S a vs/\Al K H S ds vs where
 stab:=tK
 go:=λi H S hi h=>by refine Aw (λv hv _=>?_) (h.2.get (LR hi));exact⟨vs,v,h.1.sq,hv⟩
 yld:=λi H S x H' h y=>by obtain⟨rfl,y⟩:=y;refine⟨Ad.refl _,λd hd=>?_⟩;refine Aw (λv hv rv=>?_) (h.2.get hd);have:=y vs h.1.sq;lia
 stop:=λi H S hi h=>⟨vs,h.1.sq,by rw[<-h.2.length];exact hi⟩
theorem wu9{a:BJ}:ItD K (Itt K a) ds λH S=>SqT K H a vs/\Al K H S ds vs where
 stab:=tH
 go:=λi H S hi h=>by refine Aw (λv hv _=>?_) (h.2.get (LR hi));exact⟨vs,v,h.1,hv⟩
 yld:=λi H S x H' h y=>by obtain⟨rfl,y⟩:=y;refine⟨Ad.refl _,λd hd=>?_⟩;refine Aw (λv hv rv=>?_) (h.2.get hd);simp_all
 stop:=λi H S hi h=>⟨vs,h.1,by rw[<-h.2.length];exact hi⟩
def kl2{n:Nat}:ItD K (Itr lo n) ((List.range n).map λ(k:Nat)=>.int (lo+(k:Int))) λ_ _=>True where
 stab:=⟨λ_ _ h=>h,λ_ _ h=>h,λ_ _ _ h=>h,λ_ h=>h⟩
 go:=λi H S hi _=>by
  have this:i<n:=by simpa using hi
  exact this
 yld:=λi H S x H' _ y=>by
  obtain⟨rfl,rfl⟩:=y;refine⟨Ad.refl _,λd hd=>?_⟩;rw[RB]at hd;cases e:(List.range n)[i]? with
  |none=>rw[e]at hd;cases hd
  |some k=>rw[e]at hd;cases hd;obtain⟨h1,h2⟩:=NB.mp e;simp at h2;subst h2;rfl
 stop:=λi H S hi _=>by
  have this:n<=i:=by simpa using hi
  exact this
def T6(B:PEd X c l e f):PId X c l tg e (itS f):=PI.imp (yp8 B) λσ H Q q=>by
 revert q;refine Ce λhs ρ E q=>?_;refine Aq E ((RQ.bind.mp q).mono (λd A v y u C w=>?_) λ_ z=>z);refine Aw (λds e x=>?_) (A.of);cases d with
 |lst r=>cases e;revert w;refine Bo λa vs m n p=>?_;obtain rfl:=m;exact⟨a,rfl,.inl ⟨⟨vs,n.sq⟩,x _ _ y u wu7 ⟨n,p⟩⟩⟩
 |tup r=>cases e;revert w;refine Bo λa vs h n p=>?_;obtain rfl:=h;exact⟨a,rfl,.inr ⟨⟨vs,(TpR.sq n)⟩,x _ _ y u wu9 ⟨(TpR.sq n),p⟩⟩⟩
 |_=>cases e
def wI{p:HY}(G:X.mg "range" = none)(I:PAd X c l [a] fs)(n:Gl X "range":=by rfl)(m:BP [a] X.env=[(false,CV a X.env)]:=by rfl):PId X c l tg (.Call (.Name "range" p) [a] [] p2) (itR cI fs):=
 PI.imp (jh9 n G I m) λσ H Q q=>by
 revert q;refine Ce λhs ρ E q=>?_;refine Ck E ((RQ.bind.mp q).mono (λds C vs J w L A F=>?_) λ_ z=>z);refine Aw (λes e B=>?_) (C.of);obtain⟨u,rfl⟩:=inv1 e rfl (λx _ _=>by cases x<;>rfl);cases u with
 |int j=>obtain⟨r,rfl⟩:=Bg e;refine Aw (λv h y=>?_) (A.one);obtain rfl:=h;cases(show v=.int j from y);exact⟨j,rfl,r.1,r.2,B _ _ J w kl2 trivial⟩
 |_=>exact nos e
end
def Fy:List D->(D->Ev->R Ev)->(Ev->R Fl)->Ev->R Fl
 | [],_,_,ρ=>.ok (.nx ρ)
 |d::ds,g,b,ρ=>(g d ρ).bind λm=>(b m).bind λn=>match n with
  | .nx h=>Fy ds g b h
  | .ct h=>Fy ds g b h
  | .bk h=>.ok (.nx h)
  | .rt d=>.ok (.rt d)
def jO(f:Ev->R (List D))(g:D->Ev->R Ev)(b:Ev->R Fl):Ev->R Fl:=λρ=>(f ρ).bind λds=>Fy ds g b ρ
section
variable {f:Ev->R (List D)}{g:D->Ev->R Ev}{b:Ev->R Fl}{h:List CT}
theorem for_(hp:WY (BV X.prog X.w) X.A X.env X.xe)(hc:X.calm=true)(hg:PGd X c tg g)(he:PId X c .no tg e f)(hb:ZD X c h b)(hn:∀d ρ x,g d ρ≠.exc x:=by first |exact yl9 _ |exact yl8 _)
  (hs:∀x,E_ e X.env x=pure x:=by intro _;rfl):PSd X c (.For tg e h [] pos) (jO f g b):=PS.imp (yq1 hp hc he hg hb hs) λZ σ H q=>by
 revert q;refine Ce λhs ρ E q=>?_;refine⟨hs,ρ,E,(RQ.bind.mp q).mono (λds q1 J P H1 s1 T p1=>?_) λx z=>Hb E z⟩;have E1:=(E.mono s1).hold T.stab p1;refine⟨λi m σ H=>m=ds.length - i/\i<=ds.length/\∃ρ,Ar X.K c (P::hs) ρ σ H/\RQ (Fy (ds.drop i) g b ρ) (Fl.ends X.K c hs Z) (Y4 X.K c),⟨ds.length,by simp,RX _,ρ,E1,q1⟩,?_⟩;rintro i m L I ⟨rfl,hi,C,Y,G⟩;have p2:=(Y.held P J_).2;by_cases u:i<ds.length
 ·refine .inr ⟨T.go i I _ u p2,λn H'=>∃r,Ar X.K c (P::hs) r n H'/\RQ (Fy (ds.drop (i+1)) g b r) (Fl.ends X.K c hs Z) (Y4 X.K c),λn H' ⟨r,B,q'⟩=>⟨ds.length - (i+1),by omega,rfl,u,r,B,q'⟩,λx H' y=>?_⟩;obtain⟨s3,O⟩:=T.yld i I _ x H' p2 y;have O:=O ds[i] (LR u);rw[fO u,Fy]at G;refine⟨P::hs,C,ds[i],Y.mono s3,O,((RQ.bind.mp G).mono (λM q3 aa E3=>?_) λ_ z=>z).noex (hn ds[i] C)⟩;refine⟨P::hs,M,E3,(RQ.bind.mp q3).mono (λfl F=>?_) λ_ z=>z⟩;cases fl with
  |nx p=>exact λn H' B=>⟨p,B,F⟩
  |ct p=>exact λn H' B=>⟨p,B,F⟩
  |bk p=>exact λn H' B=>F n H' B.unhold
  |rt d=>exact F
 ·have U:i=ds.length:=by omega
  subst U;rw[fM (GX _)]at G;exact .inl ⟨T.stop _ I _ (GX _) p2,G L I Y.unhold⟩
end
def gC:R Fl->R D
 | .ok (.rt d)=>.ok d
 | .ok (.nx _)=>.ok .non
 | .ok _=>.bad
 | .exc e=>.exc e
 | .bad=>.bad
def Aa(n:Nat)(ds:List D):Ev:=ds.map some++List.replicate (n - ds.length) none
def Bh(n:Nat)(g:Ev->R Fl)(ds:List D):R D:=gC (g (Aa n ds))
def sp0(K:BZ)(n:Nat)(m:List D->R D):Sp:=λvs H Q _=>vs.length=n/\∃S ds,Al K H S ds vs/\RQ (m ds) (λr=>∀v H',Ad H H'->Rep K H' (AS.plus S H) r v->Q v H') (λ_=>False)
def R.nox{h:Type}:R h->R h
 | .ok a=>.ok a
 |_=>.bad
@[simp] def R.nox_ok{h:Type}(a:h):(R.ok a).nox=.ok a:=nr rfl
def Dq:D->V->Hp->Prop:=λ_ _ _=>False
variable {w:CQ}
section
variable {P:BW}{mg:BR->Option A_}{base:CP}
theorem Qp{S:AS}{O:List Nat}{E:D->V->Hp->Prop}{N:List BR}(r:Al K H S ds vs)(F:∀i∈O,vs.length<=i):Ar K ⟨H,S,O,E,[]⟩ [] (Aa N.length ds) (L2.start N vs) H:=by
 have A:=r.length;have get:∀(i:Nat)(d:D),(Aa N.length ds)[i]? = some (some d)->ds[i]? = some d:=λi d h=>by unfold Aa at h;grind
 have m:∀i,i∈O->¬ live (Aa N.length ds) i:=λi n ⟨d,p⟩=>by grind
 refine⟨Ad.refl _,by simp[Aa,L2.start,A],λi d n p=>absurd ⟨d,p⟩ (m i n),λi j a n _ x=>absurd x (m i n),λi d n p=>?_,(λP y=>by cases y),(λa C=>by cases C)⟩;refine Aw (λv e q=>?_) (r.get (get i d p));refine⟨v,?_,q.mono (Ad.refl _) λo z=>⟨.inl z,λa _ ⟨j,B,u,_⟩=>m j B u⟩⟩;unfold L2.start;have n:i<vs.length:=(NB.mp e).1;rw[uP (by simpa using n),RB,e];rfl
theorem eQ{x qual:BR}{f:BJ}{C:DX}{N ps:List BR}{k:Nat}{O:List Nat}{g:Ev->R Fl}(F:Fun K x qual st f C)(S:Bt N ps (Ag st))(M:O.all (λi=>decide (ps.length<=i))=true)
  (u:∀(n:A_)(A:D_)(m:List LK)(s:BK)(H:Hp)(E:XK)(y:AS),Ed k (A.deeper (HJ qual (Ag st) s.heap.objs.size f n))->(A.deeper (HJ qual (Ag st) s.heap.objs.size f n)).units+70<FW ->
   ZD (W7 CX0 P w K mg base N qual (Ag st) f n A m s H E).nox ⟨H,y,O,Dq,[]⟩ (Br st) g):
  Ec P w K mg base CX0 (k+1) f C ps (sp0 K ps.length (Bh N.length g)):=by
 refine F.ok S (λvs H Q E h=>h.1) (λn A m s H vs Q E B h=>?_);obtain⟨I,y,ds,r,q⟩:=h;refine⟨_,u n A m s H E y B (by have:=B.un;lia),[],Aa N.length ds,Qp r (λi L=>?_),?_⟩
 ·have:=QL.mp M i L;rw[I];exact of_decide_eq_true this
 ·have p:RQ (gC (g (Aa N.length ds))) _ _:=q;cases e:g (Aa N.length ds) with
  |ok T =>
   rw[e]at p;cases T with
   |nx ρ=>exact λG H' U=>p .non H' U.same rfl
   |rt d=>exact λv H' s r=>p v H' s (r.mono (Ad.refl _) λo z=>z.elim .inl λ⟨a,Y,J,_⟩=>.inr ⟨a,Y,J⟩)
   |bk ρ=>exact p.elim
   |ct ρ=>exact p.elim
  |exc x=>rw[e]at p;exact p.elim
  |bad=>rw[e]at p;exact p.elim
end
variable {n:Nat}{p:HY}{x:BR}
section
variable {fs:Ev->R (List D)}{k:Nat}{f:BJ}{fd:DX}{ps:List BR}{m:List D->R D}
def cl(fs:Ev->R (List D))(m:List D->R D):Ev->R D:=λρ=>(fs ρ).bind λds=>(m ds).nox
def yw4(F:Ec X.prog X.w X.K X.mg X.base CX0 k f fd ps (sp0 X.K n m))(J:Ed k X.A)(O:X.mg x=some (.ref f))(T:W.keepIn X.K (.ref f)=true)(Z:Binds X.K fd ps [])(ha:PAd X c l (e::es) fs)(M:(e::es).length=n:=by rfl)(L:ps.length=n:=by rfl)(U:Gl X x:=by rfl)
  (y:Zd x:=by decide)(Y:Zs X.env e es:=by rfl)(u:Zp X.env pos es:=by rfl):
  PEd X c l (.Call (.Name x p) (e::es) [] pos) (cl fs m):=PE.imp (kl9 F J U O T Z .nil zd1 ha y Y u) λσ H Q q=>by
 revert q;refine Ce λhs ρ E q=>?_;refine Ck E ((RQ.bind.mp q).mono (λds h vs H1 B E1 C P=>?_) λ_ z=>z);rw[aB];cases r:m ds with
 |ok d =>
  rw[r]at h;refine⟨?_,lvS c ρ σ H l,ds,C,?_⟩
  ·rw[<-C.length,P,M]
  ·rw[r];exact λv H' G I=>h v H' (B.trans G) (I.mono (Ad.refl _) λ_ z=>M9 E B z)
 |exc x=>rw[r]at h;exact h.elim
 |bad=>rw[r]at h;exact h.elim
end
def Z_(env:LK):List (BR×GP)->List (BR×BJ)->List (BR×BJ)
 | [],h=>h
 | (n,k)::r,h=>Z_ env r (if k == .free then(match env.cells.lookup n with |some a=>(n,a)::h |none=>h) else h)
def W5(h:JH)(env:LK):List (BR×BJ):=Z_ env h.names []
def jd0{m:JH}{env:LK}(h:∀x∈m.names,x.2=.free->∃a,env.cells.lookup x.1=some a):bK m env=pure (W5 m env):=by
 have key:∀(l:List (BR×GP))(cs:List (BR×BJ)),(∀x∈l,x.2=.free->∃a,env.cells.lookup x.1=some a) ->
   (forIn l cs λ(x:BR×GP)(r:List (BR×BJ))=>if x.2 == .free then(do let a <-nO env x.1;pure (ForInStep.yield ((x.1,a)::r))) else pure (ForInStep.yield r))=(pure (Z_ env l cs):Sem _):=by
  intro l;induction l with
  |nil=>intro cs _;rfl
  |cons y r z =>
   obtain⟨n,k⟩:=y;intro cs u;rw[iV];by_cases A:k=.free
   ·subst A;obtain⟨a,B⟩:=u (n,.free) J_ rfl;have Y:nO env n=pure a:=by unfold nO;rw[B]
    simp only[beq_self_eq_true,if_true,Y,Z_,B];exact z _ λx q=>u x (JB _ q)
   ·have C:(k == NameKind.free)=false:=by simpa using A
    simp only[C,VJ,if_false,Z_];exact z _ λx q=>u x (JB _ q)
 have e:bK m env=((forIn m.names [] λ(x:BR×GP)(r:List (BR×BJ))=>if x.2 == .free then(do let a <-nO env x.1;pure (ForInStep.yield ((x.1,a)::r))) else pure (ForInStep.yield r)) >>= λcs=>pure cs):=rfl;rw[e,key m.names [] h];rfl
theorem zG{env:LK}{x:BR}{a:BJ}:∀{l:List (BR×GP)}{cs:List (BR×BJ)},(x,a)∈Z_ env l cs->env.cells.lookup x=some a\/(x,a)∈cs
 | [],_,h=>.inr h
 | (n,k)::r,cs,h=>by
  rw[Z_]at h;rcases zG h with h |h
  ·exact .inl h
  ·split at h
   ·grind
   ·exact .inr h
theorem Lh{env:LK}{x:BR}{a:BJ}(m:env.cells.lookup x=some a):∀{l:List (BR×GP)}{cs:List (BR×BJ)},((x,NameKind.free)∈l\/cs.lookup x=some a)->(Z_ env l cs).lookup x=some a
 | [],_,h=>by
  rcases h with h |h
  ·cases h
  ·exact h
 | (n,k)::r,cs,h=>by
  rw[Z_];by_cases q:x=n
  ·subst q;by_cases u:k=.free
   ·simp_all [Lh]
   ·have y:(k == NameKind.free)=false:=by simpa using u
    rw[y];refine Lh m ?_;grind
  ·refine Lh m ?_;grind
theorem qU{x:BR}{a:BJ}:∀{l:List (BR×GP)}{n:Nat}{acc:List (BR×BJ)},(x,a)∈FN n l acc->n<=a\/(x,a)∈acc
 | [],_,_,h=>.inr h
 | (y,k)::r,n,acc,h=>by
  unfold FN at h;split at h
  ·rcases qU h with h |h
   ·exact .inl (by lia)
   ·grind
  ·exact qU h
theorem qW{x y:BR}{a:BJ}:∀{l:List (BR×GP)}{n:Nat}{acc:List (BR×BJ)},(∀x y a,(x,a)∈acc->(y,a)∈acc->x=y)->(∀y∈acc,y.2<n)->(x,a)∈FN n l acc->(y,a)∈FN n l acc->x=y
 | [],_,_,h,_,A,m=>h _ _ _ A m
 | (z,k)::r,n,acc,h,C,A,m=>by
  unfold FN at A m;by_cases B:(k == NameKind.cell)=true
  ·rw[if_pos B]at A m;refine qW (λu w b p q=>?_) (λy E=>?_) A m
   ·grind
   ·grind
  ·rw[if_neg B]at A m;exact qW h C A m
theorem qT{x:BR}{a:BJ}{lo:Nat}:∀{l:List (BR×GP)}{n:Nat}{acc:List (BR×BJ)},lo<=n->(l.lookup x=some .cell\/∀a,acc.lookup x=some a->lo<=a)->(FN n l acc).lookup x=some a->lo<=a
 | [],_,_,_,h,e=>by
  rcases h with h |h
  ·cases h
  ·exact h a e
 | (z,k)::r,n,acc,m,h,e=>by
  unfold FN at e;by_cases q:(k == NameKind.cell)=true
  ·rw[if_pos q]at e;refine qT (Nat.le_succ_of_le m) ?_ e;cases u:x == z with
   |true=>simp_all
   |false=>grind
  ·rw[if_neg q]at e;refine qT m ?_ e;grind
theorem Yo{x:BR}:∀{l:List (BR×GP)}{n:Nat}{acc:List (BR×BJ)},(x,NameKind.cell)∉l->(FN n l acc).lookup x=acc.lookup x
 | [],_,_,_=>rfl
 | (z,k)::r,n,acc,h=>by
  unfold FN;by_cases m:(k == NameKind.cell)=true
  ·rw[if_pos m,Yo λq=>h (JB _ q),List.lookup_cons];grind
  ·rw[if_neg m];exact Yo λq=>h (JB _ q)
theorem sO{x:BR}{a:BJ}:∀{l:List (BR×GP)}{h:CP}{acc:List (BR×BJ)},(x,a)∈FN h.objs.size l acc->(x,a)∈acc\/(MF h l).IsCell a none
 | [],_,_,q=>.inl q
 | (z,k)::r,h,acc,q=>by
  unfold FN at q;unfold MF;by_cases m:(k == NameKind.cell)=true
  ·rw[if_pos m]at q ⊢;have u:(x,a)∈FN (h.push {cls:=.type "cell",data:=.cell none}).objs.size r ((z,h.objs.size)::acc):=by rw[Q_];exact q
   rcases sO u with q |q
   ·rcases JN.mp q with e |q
    ·cases e;exact .inr ⟨_,KH r _ _ _ (K_ _ rfl),rfl⟩
    ·exact .inl q
   ·exact .inr q
  ·rw[if_neg m]at q ⊢;exact sO q
theorem Uh{m:JH}{env:LK}:∀{k:GP},(QS m env).names.lookup x=some k->(m.names.lookup x=some k)\/(k=.cell/\m.names.lookup x=some .free):=by
 intro k h;have key:∀l:List (BR×GP),(l.map λ(n,k)=>if(k == NameKind.free && env.scope.kind == .function && env.kindOf n == some .cell) then(n,NameKind.cell) else(n,k)).lookup x=some k->(l.lookup x=some k)\/(k=.cell/\l.lookup x=some .free):=by
  intro l;induction l with
  |nil=>intro h;cases h
  |cons y r q=>grind
 exact key m.names h
def oK(scope:JH)(C:BJ)(env:LK):LK:={scope:=QS scope env,locals:=C,globals:=env.globals,cells:=FN (C+1) scope.names (W5 scope env),qual:=env.qual,func:=none,code:=env.code,frame:=env.frame,builtins:=env.builtins}
def cxB(X:Cx)(N:List BR)(h:JH)(C:BJ)(s:BK)(H:Hp)(ex:List BJ):Cx:=
 {X with N:=N,s₀:=s,H₀:=H,env:=oK h C X.env,outer:=X.stack,ex:=ex,fn:=λx=>h.names.lookup x == some .cell,pn:=[],xe:=λ_ _=>False}
variable {A:D_}{M:OD}{E:A_->BK->Prop}
def kl5{h:JH}{env:LK}{cl:List (BR×BJ)}{Q:LK->BK->Prop}
  (q:Q (newEnv h s.heap.objs.size env.globals (FN (s.heap.objs.size+1) h.names cl) env.qual none .none (some env) U_) {s with heap:=MF (s.heap.push {cls:=.type "dict",data:=.dict #[] }) h.names}):
  BL M A (j7 h env.globals cl [] env.qual none .none (some env)) Q E s:=by
 simp only[j7,jGq,if_true];refine BX (wpAny_alloc ?_);refine BX (wpAny_layCells _ (λname kind cells=>by cases m:kind == NameKind.cell<;>simp[m]) _ _ _ _ ?_);rw[show({s with heap:=s.heap.push {cls:=.type "dict",data:=.dict #[] } }:BK).heap.objs.size=s.heap.objs.size+1 from Q_ ..];exact BX (EY (EY q))
structure Jo(X:Cx)(scope:JH)(T:List BR)(caps:List Nat):Prop where
 kind:scope.kind=.function
 free:∀x∈scope.names,x.2=.free->X.env.kindOf x.1=some .cell\/X.env.kindOf x.1=some .free
 names:∀x∈scope.names,x.2=.local->scope.names.lookup x.1=some .local
 cap:∀j∈caps,∃x,X.N[j]? = some x/\scope.names.lookup x=some .free/\(x,NameKind.cell)∉scope.names/\(X.env.kindOf x=some .cell\/X.env.kindOf x=some .free)
def K9(sc osc:JH)(N:List BR)(caps:List Nat):Bool:=
 (sc.kind == .function) && sc.names.all (λx=>x.2 != .free || (osc.names.lookup x.1 == some .cell ||osc.names.lookup x.1 == some .free)) && sc.names.all (λx=>x.2 != .local ||sc.names.lookup x.1 == some .local)
  && caps.all (λj=>match N[j]? with
   |some x=>sc.names.lookup x == some .free && !(sc.names.any λy=>y.1 == x && y.2 == .cell) && (osc.names.lookup x == some .cell ||osc.names.lookup x == some .free)
   |none=>false)
theorem Jo.of{m:JH}{T:List BR}{caps:List Nat}(h:K9 m X.env.scope X.N caps=true):Jo X m T caps:=by
 simp only[K9,M_,QL,cM,beq_iff_eq,bne_iff_ne]at h;obtain⟨⟨⟨J,I⟩,L⟩,G⟩:=h;refine⟨J,λx q r=>?_,λx q r=>?_,λj F=>?_⟩
 ·rcases I x q with z |z
  ·exact absurd r z
  ·exact z
 ·grind
 ·have:=G j F;cases e:X.N[j]? with
  |none=>rw[e]at this;cases this
  |some x=>rw[e]at this;simp only[M_,cM,beq_iff_eq,ZP,jGr]at this;obtain⟨⟨B,y⟩,u⟩:=this;exact⟨x,rfl,B,λC=>y _ C ⟨rfl,rfl⟩,u⟩
def Dw(X:Cx)(T:List BR)(caps:List Nat):List BR:=T++caps.map λj=>(X.N[j]?).getD (Str.ofString "")
def Ov(T:List BR)(caps:List Nat)(σ:St):St:=T.map (λ_=>none)++caps.map λj=>(σ[j]?).join
def Et(n:Nat)(caps:List Nat)(ρ:Ev):Ev:=List.replicate n none++caps.map λj=>(ρ[j]?).join
variable {fp:List BJ}{caps:List Nat}{T:List BR}{scope:JH}
def Jo.clo(B:Jo X scope T caps)(I:Inv X pins σ H s):bK scope X.env=pure (W5 scope X.env):=jd0 λx h m=>I.ok.has x.1 (B.free x h m)
theorem jh1(B:Jo X scope T caps)(I:Inv X pins σ H s)(hf:∀b∈fp,Q5 X pins H b)(hl:∀b∈fp,b<s.heap.objs.size):
  Inv (cxB X (Dw X T caps) scope s.heap.objs.size s H fp) [] (Ov T caps σ) H {s with heap:=MF (s.heap.push {cls:=.type "dict",data:=.dict #[] }) scope.names}:=by
 have keep:∀b o,s.heap.get? b=some o->(MF (s.heap.push {cls:=.type "dict",data:=.dict #[] }) scope.names).get? b=some o:=λb o e=>KH _ _ b o (JK _ e);have G:∀{x a},(x,a)∈W5 scope X.env->X.env.cells.lookup x=some a:=λh=>(zG h).elim id λz=>by cases z
 have cut:∀{x a},(FN (s.heap.objs.size+1) scope.names (W5 scope X.env)).lookup x=some a->s.heap.objs.size+1<=a\/X.env.cells.lookup x=some a:=λh=>(qU (PySem.mem_of_lookup h)).elim .inl λz=>.inr (G z);have L:∀{x a},X.env.cells.lookup x=some a->a<s.heap.objs.size:=λh=>by obtain⟨v,z⟩:=I.cell _ _ h;exact z.lt
 refine⟨⟨I.ok.mod,B.kind,I.ok.glob,I.ok.blt,GX _,λx y a h1 P=>?_,λx hx=>?_,λx a hx h=>?_,I.ok.hd,I.ok.frames,.inl rfl,λb O=>⟨MJ (hl b O),λx a h e=>?_⟩,I.bs,QG I.ok.bsz I.sz,λb o e O=>?_,λb O hx=>?_,I.stack,I.stkFree⟩,
  rfl,I.bare,Un.kept keep,⟨λ_=>none,(Heap.Ns.new s.heap (.type "dict")).keeps (KH _ _),λi x v h1 P h3=>?_⟩,λx a h=>?_,I.hok.fresh (GX _),λx a h=>?_,λp hp=>absurd (show p∈([]:List (BJ×GR)) from hp) (by simp),I.hok.kept keep,?_⟩
 ·refine qW (λu w b p q=>I.ok.inj u w b (G p) (G q)) (λy hy=>?_) (PySem.mem_of_lookup h1) (PySem.mem_of_lookup P);exact cR (L (G hy))
 ·have U:(QS scope X.env).names.lookup x=some .cell\/(QS scope X.env).names.lookup x=some .free:=hx;have hk:scope.names.lookup x=some .cell\/scope.names.lookup x=some .free:=by grind [Uh]
  rcases hk with h |h
  ·exact m7.mp (W.cellsFrom_some scope.names _ _ (.inl h))
  ·obtain⟨a,ha⟩:=I.ok.has x (B.free (x,.free) (PySem.mem_of_lookup h) rfl);have:=Lh (cs:=[]) ha (.inl (PySem.mem_of_lookup h));exact m7.mp (W.cellsFrom_some scope.names _ _ (.inr (by unfold W5;rw[this];rfl)))
 ·have U:(scope.names.lookup x == some NameKind.cell)=true:=hx;exact jGu (qT (GX _) (.inl (by simpa using U)) h)
 ·rcases cut h with z |z
  ·exact absurd (RJ (hl b O) (e ▸ jGu z)) (ZJ _)
  ·exact(hf b O).2.2.2.2.1 x a z e
 ·rcases(hf b O).2.2.2.1 with z |z
  ·exact I.ok.noex b o e z
  ·have h1:=HX e;have P:=I.ok.bsz;exact absurd (RJ h1 (QG P z)) (ZJ _)
 ·rcases JN.mp (I.stkSub b hx) with z |z
  ·exact(hf b O).2.1 z
  ·exact(hf b O).2.2.1 z
 ·have hi:T.length<=i:=by
   by_cases hi:T.length<=i
   ·exact hi
   ·exfalso;have C:(Ov T caps σ)[i]? = some (some v):=P;unfold Ov at C;rw[uP (by simp;lia),RB]at C;cases e:T[i]? with
    |none=>rw[e]at C;cases C
    |some t=>rw[e]at C;cases C
  have C:(Ov T caps σ)[i]? = some (some v):=P;have F:(Dw X T caps)[i]? = some x:=h1;unfold Ov at C;unfold Dw at F;rw[nA (by simpa using hi),GQ,RB]at C;rw[nA hi,RB]at F;cases ej:caps[i - T.length]? with
  |none=>rw[ej]at C;cases C
  |some j =>
   rw[ej]at F C;refine vJ (λy hy m1 m2 m3=>?_) (B.cap j (WR ej));have F:some ((X.N[j]?).getD (Str.ofString ""))=some x:=F;rw[hy]at F;have Y:y=x:=Option.some.inj F;subst Y;have J:(σ[j]?).join=some v:=Option.some.inj C;have Z:σ[j]? = some (some v):=by
    cases q:σ[j]? with
    |none=>rw[q]at J;cases J
    |some o=>rw[q]at J;cases o with
     |none=>cases J
     |some w=>cases J;rfl
   refine Aw (λm hn ab=>?_) (I.loc);have aa:Vis X.env.scope y:=by rcases m3 with z |z;exact .inr (.inl z);exact .inr (.inr z)
   refine Aw (λu r lk=>?_) (ab j y v hy Z aa);refine⟨u,r,.inr ⟨?_,?_⟩⟩
   ·have ae:(QS scope X.env).names.lookup y=some .local\/(QS scope X.env).names.lookup y=some .cell\/(QS scope X.env).names.lookup y=some .free:=h3;rcases ae with z |z |z
    ·grind [Uh]
    ·exact .inl z
    ·exact .inr z
   ·rcases lk with ⟨k,_⟩ | ⟨k,a,ha,hc⟩
    ·lia
    ·refine⟨a,?_,hc.keeps keep⟩;show(FN (s.heap.objs.size+1) scope.names (W5 scope X.env)).lookup y=some a;rw[Yo m2];exact Lh ha (.inl (PySem.mem_of_lookup m1))
 ·have h':(x,a)∈FN (s.heap.push {cls:=.type "dict",data:=.dict #[] }).objs.size scope.names (W5 scope X.env):=by rw[Q_];exact PySem.mem_of_lookup h
  rcases sO h' with z |z
  ·obtain⟨v,q⟩:=I.cell x a (G z);exact⟨v,q.keeps keep⟩
  ·exact⟨none,z⟩
 ·rcases cut h with z |z
  ·exact I.hok.fresh (by lia)
  ·exact I.freeC x a z
 ·show(Ov T caps σ).length=(Dw X T caps).length;simp[Ov,Dw]
def Zi{N:List BR}{C:BJ}{m:BK}{r:St}(I:Inv X pins σ H s)(y:C=s.heap.objs.size)(q:∀b∈fp,Q5 X pins H b)(J:Inv (cxB X N scope C s H fp) [] r H' m)(h':CP)(hs:Heap.SameBut C m.heap h'):
  Inv X pins σ H' {m with heap:=h'}:=by
 have z:Inv X pins σ H' m:=I.call' (ch:=fp) J.os J.base J.hok J.bare λb h=>⟨(q b h).2.2.2.1,(q b h).2.1,(q b h).2.2.2.2.1,(q b h).2.2.2.2.2⟩;have u:s.heap.objs.size<=C:=mD y.symm;have F:=I.fpOk (H':=H') u J.free;have:=z.turned (t':=m.toks) (h':=h') (it:=C) (λb o h e=>(hs.2 b h).trans e) J.free F.2.1 F.2.2.2.1 F.2.2.2.2.1 F.2.2.2.2.2;exact this
variable {prog:BW}
section
variable {R:YG->BK->Prop}
def cNo:A_->BK->Prop:=λ_ _=>False
def thc{m:Type}{t:Sem m}{Q q:m->BK->Prop}{M:OD}(h:BL M A t Q cNo s)(r:∀a s,Q a s->q a s):BL M A t q E s:=GK h r λ_ _ z=>z.elim
def thx{m:Type}{t:Sem m}{Q q:m->BK->Prop}{M:OD}{y:A_->BK->Prop}(r:E=cNo)(h:BL M A t Q E s)(u:∀a s,Q a s->q a s):BL M A t q y s:=by subst r;exact thc h u
def nn{p:Prop}(h:(p->False)->False):p:=uQ h
def ct3(M:OD)(A:D_)(elt:B_)(acc:A_)(env:LK)(I:Nat->BK->Prop)(n:Nat)(ok:Bool)(s:BK):Prop:=
 if ok=true then BL M A (CV elt env) (λx q=>BL M A (call (.builtin "list.append") [acc,x]) (λ_ h=>∃m,m<n/\I m h) cNo q) cNo s else ∃m,m<n/\I m s
def ct2(M:OD)(A:D_)(ifs:List B_)(env:LK)(Q:Bool->BK->Prop)(_:Unit)(s:BK):Prop:=
 BL M A (forIn ifs true λc r=>if r=true then do let ok <-XX c env (CV c env);pure (ForInStep.yield ok) else pure (ForInStep.yield r)) Q cNo s
def ct1(M:OD)(A:D_)(target:B_)(env:LK)(v:A_)(Q:Unit->BK->Prop)(_:Unit)(s:BK):Prop:=BL M A (YD target env v) Q cNo s
def ct0(M:OD)(A:D_)(target:B_)(it:A_)(env:LK)(N:BK->Prop)(Q:Unit->BK->Prop)(r:Option A_)(s:BK):Prop:=
 r.elim (N s) λv=>BL M A (NZ target it v) (ct1 M A target env v Q) cNo s
def V5{elt target iter:B_}{ifs:List B_}{scope:JH}{it acc:A_}{env:LK}(I:Nat->BK->Prop)
  (turn:∀n s,I n s->BL (BV prog w) A (JG it) (ct0 (BV prog w) A target it env (R (.ok .next)) (ct2 (BV prog w) A ifs env (ct3 (BV prog w) A elt acc env I n))) cNo s)
  (n:Nat)(h:I n s):
  JS (BV prog w) A (.compLoop (.ListComp elt [⟨target,iter,ifs,0⟩] scope pos) 0 it acc env) R s:=by
 refine codeAny_loop rfl I (λn s L=>?_) n h;show BL _ A ((compTurn (.ListComp elt [⟨target,iter,ifs,0⟩] scope pos) 0 it acc env).onRaise (λx=>do noteFrame x env;theTreesLotGoes x)) _ _ s;refine wpAny_noted ?_;rw[compTurn_list];refine BX (VL (BX (thc (turn n s L) λr u m=>?_)));cases r with
 |none=>exact EY m
 |some v =>
  refine BX (thc m λ_ u m=>BX (thc m λ_ J B=>BX (thc B λok G q=>?_)));cases ok with
  |false=>exact EY ⟨rfl,q⟩
  |true=>exact BX (BX (thc q λx F z=>BX (thc z λ_ C y=>EY (EY ⟨rfl,y⟩))))
end
def TsD(X:Cx)(c:DC)(ifs:List B_)(t:Ev->R Bool):Prop:=
 ∀(pins:List (BJ×GR))(s:BK)(σ:St)(H:Hp)(Q:Bool->Hp->Prop),Inv X pins σ H s->tDT X.K c t σ H Q ->
  BL (BV X.prog X.w) X.A (forIn ifs true λc r=>if r=true then do let ok <-XX c X.env (CV c X.env);pure (ForInStep.yield ok) else pure (ForInStep.yield r)) (TP X pins σ Q) X.xe s
def yes:Ev->R Bool:=λ_=>.ok true
def ti0:TsD X c [] yes:=λpins s σ H Q I q=>by revert q;refine Ce λhs ρ E q=>?_;rw[mK];exact EY ⟨H,I,q H (Ad.refl _)⟩
def ti1{t:Ev->R Bool}(h:PTd X c e t):TsD X c [e] t:=λpins s σ H Q I q=>by rw[iV];simp only[if_true];refine BX (BX (thn (h pins s σ H Q I q) λk r m=>EY ?_));show BL _ _ (forIn [] k _) _ _ _;rw[mK];exact EY m
def Df(g:D->Ev->R Ev)(t:Ev->R Bool)(f:Ev->R D)(ρ:Ev):List D->R (List D)
 | []=>.ok []
 |d::ds=>(g d ρ).bind λh=>(t h).bind λk=>if k then(f h).bind λy=>(Df g t f ρ ds).bind λys=>.ok (y::ys) else Df g t f ρ ds
def Ci(it:Ev->R (List D))(n:Nat)(caps:List Nat)(g:D->Ev->R Ev)(t:Ev->R Bool)(f:Ev->R D):Ev->R D:=λρ=>(it ρ).bind λds=>((Df g t f (Et n caps ρ) ds).bind λh=>if h.length<=16777216 then .ok (.lst h) else .bad).nox
variable {it:Ev->R (List D)}
theorem kq5{g:D->Ev->R Ev}{t:Ev->R Bool}{d:D}(h:Ci it n caps g t f ρ=.ok d):∃ds,d=.lst ds:=by
 unfold Ci at h;cases Y:it ρ<;>rw[Y]at h<;>try cases h
 rename_i m;simp only[R.ok_bind]at h;cases J:Df g t f (Et n caps ρ) m with
 |ok ys =>
  rw[J]at h;simp only[R.ok_bind]at h;split at h
  ·cases h;exact⟨_,rfl⟩
  ·cases h
 |exc _=>rw[J]at h;cases h
 |bad=>rw[J]at h;cases h
def RQ.nox{m:Type}{r:R m}{q:m->Prop}{e:D->Prop}(h:RQ r.nox q e):∃a,r=.ok a/\q a:=by
 cases r with
 |ok a=>exact⟨a,rfl,h⟩
 |exc _=>exact h.elim
 |bad=>exact h.elim
def Ar.forget{m:Ev}(E:Ar K c hs ρ σ H)(y:c.O=[])(z:m.length=ρ.length)(h:∀(i:Nat) d,m[i]? = some (some d)->ρ[i]? = some (some d)):Ar K c hs m σ H:=by
 have u:∀r:Ev,c.N r σ=λo=>c.S o/\∀a:BJ,o=some a->True:=λr=>by funext o;unfold DC.N owned;rw[y];simp
 refine⟨E.same,z.trans E.len,(λi d q=>by rw[y]at q;cases q),(λi j a q=>by rw[y]at q;cases q),λi d q B=>?_,λP C=>?_,E.excl⟩
 ·rw[u,<-u ρ];exact E.oth i d q (h i d B)
 ·rw[u,<-u ρ];exact E.held P C
theorem Ar.wrZ{a:BJ}(E:Ar K c hs ρ σ H)(u:c.O=[])(C:c.H0 a=none)(y:¬ c.S (some a))(r:H a=some (.lst vs)):Ar K c hs ρ σ (upd H a (.lst ws)):=by
 have m:¬ c.N ρ σ (some a):=λz=>y z.1;refine⟨λb o e=>?_,E.len,(λi d h=>by rw[u]at h;cases h),(λi j a h=>by rw[u]at h;cases h),λi d h B=>?_,λP q=>⟨(E.held P q).1,(E.held P q).1.wr r m (E.held P q).2⟩,λb F z=>?_⟩
 ·rw[Ae (Bs e C)];exact E.same b o e
 ·refine Aw (λv Y J=>?_) (E.oth i d h B);exact⟨v,Y,J.wr r m⟩
 ·grind [Ak,Ae,E.excl]
def Ow(O:List Nat)(l:Lv)(caps:List Nat):Bool:=match l with
 | .any=>true
 | .no=>caps.all λj=>!O.contains j
 | .fr=>caps.isEmpty
theorem jx6(E:Ar K c hs ρ σ H)(h:Ow c.O l caps=true)(u:j∈caps){d:D}(q:ρ[j]? = some (some d)):
  ∃v,σ[j]? = some (some v)/\Rep K H (lvS c ρ σ H l) d v:=by
 cases l with
 |any =>
  by_cases m:j∈c.O
  ·refine Gx (λp Y Z r=>?_) (E.own j d m q);exact⟨_,Y,r.rep (.inr ⟨p,rfl,Z.1,Z.2⟩) λ_ z=>z.1⟩
  ·refine Aw (λv Y r=>?_) (E.oth j d m q);exact⟨v,Y,r.mono (Ad.refl _) λ_ z=>z.1⟩
 |no =>
  have:=QL.mp h j u;have m:j∉c.O:=by simpa using this
  exact E.oth j d m q
 |fr =>
  have:caps=[]:=by simpa[Ow] using h
  simp_all
def jr8(n:Nat)(caps:List Nat)(ρ:Ev):(Et n caps ρ).length=n+caps.length:=by simp[Et]
def js2(T:List BR)(caps:List Nat)(σ:St):(Ov T caps σ).length=T.length+caps.length:=by simp[Ov]
theorem Yk{d:D}(h:(Et n caps ρ)[i]? = some (some d)):n<=i/\∃j,caps[i - n]? = some j/\ρ[j]? = some (some d):=by unfold Et at h;grind
theorem jr9(m:T.length<=i)(h:caps[i - T.length]? = some j)(q:σ[j]? = some (some v)):(Ov T caps σ)[i]? = some (some v):=by unfold Ov;rw[nA (by simpa using m),GQ,RB,h];simp_all
variable {elt iter:B_}{ifs:List B_}
variable {xs:List D}{hs':List Hd}
section
variable {u:Ev->R (List D)}{g:D->Ev->R Ev}{t:Ev->R Bool}{f:Ev->R D}
inductive CI(Y:Cx)(c':DC)(P:Hd)(tn:Nat->CP->Prop)(fp:List BJ)(a:BJ)(ρ₀:Ev)(ds xs:List D)(L:List D->R (List D))(k:Nat)(s:BK):Prop
 |mk (i:Nat) (σ:St) (H:Hp) (acc:List D) (vs:List V) (ys:List D) (I:Inv Y [] σ H s) (st:tn i s.heap) (fr:∀b∈fp,H b=none) (hk:k=ds.length - i) (hi:i<=ds.length) (E:Ar Y.K c' [P] ρ₀ σ H)
   (hv:H a=some (.lst vs))(r:Al Y.K H c'.S acc vs)(ec:L (ds.drop i)=.ok ys)(ea:acc++ys=xs):CI Y c' P tn fp a ρ₀ ds xs L k s
theorem kq6{Y:Cx}{c':DC}{P:Hd}{tn:Nat->CP->Prop}{J:It}{it a:BJ}{h:Ev}{L:St}{I:Hp}{Rn:YG->BK->Prop}(hx:Y.xe=cNo)(hc:Y.calm=true)
  (hg:PGd Y c' tg g)(ht:TsD Y c' ifs t)(he:PEd Y c' .any elt f)(bq:∀d ak,g d h=.ok ak->ak.length=h.length/\∀(i:Nat) d',h[i]? = some (some d')->ak[i]? = h[i]?)
  (Z:∀{H':Hp}{aw:St}{bh:BK},Inv Y [] aw H' bh->(∀b∈fp,H' b=none)->∀b∈fp,Q5 Y [] H' b)
  (hO:c'.O=[])(h0:c'.H0 a=none)(hn:¬ c'.S (some a))
  (Tn:Turn Y.prog Y.w Y.K tg J fp it tn)(TD:ItD Y.K J ds P)(ex:Df g t f h ds=.ok xs)(hz:xs.length<=16777216)
  (br:∀s H σ vs,Inv Y [] σ H s->Ar Y.K c' [P] h σ H->H a=some (.lst vs)->Al Y.K H c'.S xs vs->Rn (.ok .next) s)
  (E0:Ar Y.K c' [P] h L I)(ha:I a=some (.lst []))(f0:∀b∈fp,I b=none){s4:BK}(J4:Inv Y [] L I s4)(bg:tn 0 s4.heap):
  JS (BV Y.prog Y.w) Y.A (.compLoop (.ListComp elt [⟨tg,iter,ifs,0⟩] scope pos) 0 (.ref it) (.ref a) Y.env) Rn s4:=by
 refine V5 (CI Y c' P tn fp a h ds xs (Df g t f h)) ?_ ds.length
  (.mk 0 _ _ [] [] xs J4 bg f0 rfl (RX _) E0 ha Al.nil ex rfl)
 intro n s5 q;refine nn λhG=>?_;obtain⟨i,af,H5,acc,vs,ys,I5,ay,bb,hk,bx,E5,au,r5,C,ea⟩:=q;have p5:=(E5.held P J_).2;by_cases B:i<ds.length
 ·rw[fO B,Df]at C;refine Aw (λag eg C=>?_) (Dy C);refine Aw (λk et C=>?_) (Dy C);have keep:=bq _ _ eg;have forget:∀{U:St}{H':Hp},Ar Y.K c' [P] ag U H'->Ar Y.K c' [P] h U H':=λE'=>E'.forget hO keep.1.symm λj d hd=>(keep.2 j d hd).trans hd;refine hG (thx (E:=cNo) rfl (Tn.item Y rfl rfl rfl hc i [] s5 af H5 cNo I5 (Z I5 bb) ay (TD.go i H5 _ B p5)) λr s6 q=>?_);clear hG;revert q;refine Aw λu hr h6=>?_;subst hr;refine thn h6 λ_ s7 q=>?_;refine nn λhG=>?_;revert q;refine zj6 λx H7 I7 r7 y7 ah ba=>?_;obtain⟨aj,G⟩:=TD.yld i H5 _ x H7 p5 y7;have G:=G ds[i] (LR B);have bc:=I7.pinned (Z I7 ba) (Tn.obj _ _ ah);have ab:∀{U:St}{H':Hp}{s':BK},Inv Y ([]++Vn fp s7.heap) U H' s'->tn (i+1) s'.heap/\∀b∈fp,H' b=none:=λ{U H' s'} J=>by refine⟨Tn.keep _ _ _ ah λb hb o e=>(J.pin (b,o) (UJ _ (UJ _ (Hf hb e)))).1,λb hb=>?_⟩;refine Aw (λo e _=>?_) (Tn.obj _ _ ah b hb);exact(J.pin (b,o) (UJ _ (UJ _ (Hf hb e)))).2.1
  refine hG (thx hx (hg _ s7 af H7 x u (λm H8=>H8=H7/\Ar Y.K c' [P] ag m H8) bc r7 ⟨[P],h,ds[i],E5.mono aj,G,by rw[eg];exact λm E8=>⟨rfl,E8⟩⟩) λ_ s8 q=>?_);clear hG;clear bc G y7 r7 ah ba I7 keep;revert q;refine Bo λm _ I8 bp E8=>?_;obtain rfl:=bp;refine thx hx (ht _ s8 m _ (λk' H9=>k'=k/\Ad _ H9) I8 ⟨[P],ag,E8,by rw[et];exact λH9 s9=>⟨rfl,s9⟩⟩) λk' s9 q=>?_;revert q;refine Gx λH9 I9 bo ai=>?_;obtain rfl:=bo;have az:=ai _ _ (aj _ _ au);have r9:=r5.mono (aj.trans ai) λ_ z=>z;have E9:=E8.mono ai;clear I8 E8 ai aj r5 au I5 E5 p5;cases k' with
  |false=>rw[if_neg cT]at C;obtain⟨q1,q2⟩:=ab I9;exact⟨ds.length - (i+1),hk ▸ uI _ _ B,.mk (i+1) m H9 acc vs ys I9.unpinned q1 q2 rfl B (forget E9) az r9 C ea⟩
  |true =>
   rw[if_pos rfl]at C;refine Aw (λdy ef C=>?_) (Dy C);refine Aw (λax ey C=>?_) (Dy C);cases C;refine thx hx (he _ s9 m H9 (λy F=>Ad H9 F/\Rep Y.K F c'.S dy y) I9 ⟨[P],ag,E9,by rw[ef];exact λy F ao ar=>⟨ao,ar⟩⟩) λw ao q=>?_;refine nn λhG=>?_;revert q;refine b_ λy F bt ar aa ry=>?_;have ae:F a=some (.lst vs):=aa _ _ az;have hl:=r9.length;have bw:xs.length=acc.length+(ax.length+1):=by rw[<-ea];simp
   refine hG (thx hx (Vl _ ao m F (.ref a) [y] (.ref a) [w] (λ_ H'=>H'=upd F a (.lst (vs++[y]))) bt rfl (.cons ar .nil) ⟨a,vs,y,rfl,rfl,ae,by rw[CG];lia,rfl⟩) λ_ bu q=>?_);clear hG;revert q;refine Bo λ_ _ bf _ bj=>?_;obtain rfl:=bj;obtain⟨q1,q2⟩:=ab bf;exact⟨ds.length - (i+1),hk ▸ uI _ _ B,.mk (i+1) m _ (acc++[dy]) (vs++[y]) ax bf.unpinned q1 q2 rfl B (forget ((E9.mono aa).wrZ hO h0 hn ae)) Ak (((r9.mono aa λ_ z=>z).append (.cons ry Al.nil)).wr ae hn) ey (by rw[<-ea,t_];rfl)⟩
 ·have e:ds.drop i=[]:=fM (by lia);rw[e,Df]at C;cases C;rw[aB]at ea;subst ea;refine hG (thx (E:=cNo) rfl (Tn.done Y rfl rfl rfl hc i [] s5 af H5 cNo I5 (Z I5 bb) ay (TD.stop i H5 _ (by lia) p5)) λr s6 q=>?_);obtain⟨rfl,I6⟩:=q;exact br s6 H5 af vs I6 E5 au r5
def Tb(H H':Hp):Prop:=∀b ps,H b=some (.tbl ps)->H' b=some (.tbl ps)
theorem jf1(B:Jo X scope T caps)(hc:X.calm=true)(hi:PId X c l tg iter u)
  (hg:∀(C:BJ)(s:BK)(H:Hp)(ex:List BJ)(L:Hp)(S0:AS)(Z:List BJ),Tb c.H0 L->PGd (cxB X (Dw X T caps) scope C s H ex) ⟨L,S0,[],Dq,Z⟩ tg g)
  (ht:∀(C:BJ)(s:BK)(H:Hp)(ex:List BJ)(L:Hp)(S0:AS)(Z:List BJ),Tb c.H0 L->TsD (cxB X (Dw X T caps) scope C s H ex) ⟨L,S0,[],Dq,Z⟩ ifs t)
  (he:∀(C:BJ)(s:BK)(H:Hp)(ex:List BJ)(L:Hp)(S0:AS)(Z:List BJ),Tb c.H0 L->PEd (cxB X (Dw X T caps) scope C s H ex) ⟨L,S0,[],Dq,Z⟩ .any elt f)
  (ag:∀d ρ q,g d ρ=.ok q->q.length=ρ.length/\∀i,T.length<=i->q[i]? = ρ[i]?)(ah:Ow c.O l caps=true){ae:HY}{use:Option (A_->Sem Unit)}{Q':A_->BK->Prop}(hs:∀x,E_ iter X.env x=pure x)
  (I:Inv X pins σ H s)(E:Ar X.K c hs' ρ σ H)(au:u ρ=.ok ds)(ex:Df g t f (Et T.length caps ρ) ds=.ok xs)(hz:xs.length<=16777216)
  (ar:∀(a:BJ)(vs:List V)(s3 s':BK)(H3 H':Hp)(fp:List BJ)(aj:St),Inv X pins σ H3 s3->(∀b∈fp,Q5 X pins H3 b)->Inv (cxB X (Dw X T caps) scope s3.heap.objs.size s3 H3 fp) [] aj H' s'->Ad H H'->H a=none->H' a=some (.lst vs) ->
   Al X.K H' (AS.but (lvS c ρ σ H l) a) xs vs->nM (BV X.prog X.w) X.A X.xe use Q' (.ref a) s3.heap.objs.size (.ok .next) s'):
  BL (BV X.prog X.w) X.A (QJ (.ListComp elt [⟨tg,iter,ifs,0⟩] scope pos) scope X.env ae (SQ []) false (CV iter X.env) use) Q' X.xe s:=by
 refine IV (cl:=W5 scope X.env) rfl hs (B.clo I) B.kind B.names ?_;have hR:=hi pins s σ H (λJ r=>∃P,Ad H r/\ItD X.K J ds P/\P r (lvS c ρ σ H l)) I ⟨hs',ρ,E,by rw[au];exact λJ P H' s1 T1 p1=>⟨P,s1,T1,p1⟩⟩;refine thn hR λv s1 h1=>thn h1 λaw m h2=>?_;refine nn λhG=>?_;obtain⟨it,fp,tn,J,r,rfl,I2,Tn,aa,f2,P,sm,TD,p2⟩:=h2;refine hG (CJ ?_);clear hG;have F:r m.heap.objs.size=none:=I2.fresh;have I3:=I2.lnew (t':=m.toks) (ys:=[]) (its:=[]) .nil (RX _);generalize hD:m.heap.objs.size=a at F I3;refine kl5 ?_;have G:∀b∈fp,b<m.heap.objs.size:=λb h=>by obtain⟨o,e,_⟩:=Tn.obj 0 _ aa b h;exact HX e
 have f3:∀b∈fp,Q5 X pins (upd r a (.lst [])) b:=λb h=>by obtain⟨z0,z⟩:=f2 b h;refine⟨?_,z⟩;rw[Ae (by rw[<-hD];exact MJ (G b h))];exact z0
 have U:Ad r (upd r a (.lst [])):=Av F _;have Ha:H a=none:=sm.free F;have af:∀b∈fp,b<(m.heap.push {cls:=.type "list",data:=.seq ([]:List A_).toArray}).objs.size:=λb h=>by rw[Q_];exact cR (G b h)
 have J0:=jh1 B I3 f3 af;let c':DC:=⟨r,AS.but (lvS c ρ σ H l) a,[],Dq,[a]⟩;have tb:Tb c.H0 c'.H0:=λb ps e=>sm _ _ (E.same _ _ e);have ab:¬ c'.S (some a):=by
  rintro(z | ⟨b,e,_,h⟩)
  ·exact z.2 rfl
  ·grind
 have E0:Ar X.K c' [P] (Et T.length caps ρ) (Ov T caps σ) (upd r a (.lst [])):=by
  have sub:∀o,AS.but (lvS c ρ σ H l) a o->c'.N (Et T.length caps ρ) (Ov T caps σ) o:=λo z=>⟨.inl z,λb _ ⟨j,hj,_⟩=>by cases hj⟩;refine⟨U,by rw[jr8,js2],(λi d hi=>by cases hi),(λi j a hi=>by cases hi),λi d hi hd=>?_,λP' ao=>?_,λb h=>?_⟩
  ·obtain⟨hn,j,ej,ed⟩:=Yk hd;obtain⟨v,ev,rv⟩:=jx6 E ah (WR ej) ed;exact⟨v,jr9 hn ej ev,(rv.avoid Ha).mono (sm.trans U) sub⟩
  ·have:P'=P:=by simpa using ao
   subst this;exact⟨TD.stab,TD.stab.mono U sub (TD.stab.avoid F p2)⟩
  ·grind [PX.mp,Ak]
 have y:tn 0 (MF ((m.heap.push {cls:=.type "list",data:=.seq ([]:List A_).toArray}).push {cls:=.type "dict",data:=.dict #[] }) scope.names):=Tn.keep _ _ _ aa λb h o e=>KH _ _ b o (JK _ (JK _ e));have loop:∀s4,Inv (cxB X (Dw X T caps) scope (m.heap.push {cls:=.type "list",data:=.seq ([]:List A_).toArray}).objs.size {m with heap:=m.heap.push {cls:=.type "list",data:=.seq ([]:List A_).toArray} } (upd r a (.lst [])) fp) [] (Ov T caps σ) (upd r a (.lst [])) s4->tn 0 s4.heap->JS (BV X.prog X.w) X.A (.compLoop (.ListComp elt [⟨tg,iter,ifs,0⟩] scope pos) 0 (.ref it) (.ref a) (oK scope (m.heap.push {cls:=.type "list",data:=.seq ([]:List A_).toArray}).objs.size X.env)) (nM (BV X.prog X.w) X.A X.xe use Q' (.ref a) (m.heap.push {cls:=.type "list",data:=.seq ([]:List A_).toArray}).objs.size) s4:=by
  intro s4 J0 y;refine kq6 (Y:=cxB X (Dw X T caps) scope (m.heap.push {cls:=.type "list",data:=.seq ([]:List A_).toArray}).objs.size {m with heap:=m.heap.push {cls:=.type "list",data:=.seq ([]:List A_).toArray} } (upd r a (.lst [])) fp) (c':=c') rfl hc (hg _ _ _ _ _ _ _ tb) (ht _ _ _ _ _ _ _ tb) (he _ _ _ _ _ _ _ tb) (λd q e=>⟨(ag d _ q e).1,λj d' hd=>(ag d _ q e).2 j (Yk hd).1⟩) (λJ hn b h=>?_) rfl F ab Tn TD ex hz (λs6 H5 ai vs I6 E5 ak r5=>?_) E0 Ak (λb h=>(f3 b h).1) J0 y
  ·exact⟨hn b h,(J.ok.exf b h).1,J.ok.exfs b h,.inl h,(J.ok.exf b h).2,λp hp=>absurd (show p∈([]:List (BJ×GR)) from hp) (by simp)⟩
  ·refine ar a vs _ s6 _ H5 fp ai I3 f3 I6 (sm.trans E5.same) Ha ak (r5.mono (Ad.refl _) λo z=>?_);rcases z with z | ⟨b,rfl,h,hz⟩
   ·exact z
   ·refine⟨Uc E ⟨b,rfl,sm.free h⟩,λe=>?_⟩;grind
 exact X_ (loop _ J0 y) (Tn.self _ 0 _ _ _ y (loop _ J0 y))
theorem rY(h:i<n):∀d ρ m,gN i d ρ=.ok m->m.length=ρ.length/\∀j,n<=j->m[j]? = ρ[j]?:=λd ρ m e=>by cases e;exact⟨by simp,λj q=>QT (by lia)⟩
theorem jb1{n:Nat}:∀{is:List Nat},(is.all λi=>decide (i<n))=true->∀ds ρ m,Fb is ds ρ=.ok m->m.length=ρ.length/\∀j,n<=j->m[j]? = ρ[j]?
 | [],_,ds,ρ,m,e=>by
  cases ds with
  |nil=>cases e;exact⟨rfl,λ_ _=>rfl⟩
  |cons _ _=>cases e
 |i::is,h,ds,ρ,m,e=>by
  cases ds with
  |nil=>cases e
  |cons d ds=>rw[Fb]at e;rw[ZG,M_]at h;have q:=of_decide_eq_true h.1;obtain⟨y,r⟩:=jb1 h.2 ds _ m e;grind
def Xn(h:(is.all λi=>decide (i<n))=true):∀d ρ m,gT is d ρ=.ok m->m.length=ρ.length/\∀j,n<=j->m[j]? = ρ[j]?:=λd ρ m e=>by cases d<;>first |exact jb1 h _ ρ m e |cases e
def yj1(ab:K9 scope X.env.scope X.N caps=true)(hc:X.calm=true)(hi:PId X c l tg iter u)
  (hg:∀(C:BJ)(s:BK)(H:Hp)(G:List BJ)(y:Hp)(U:AS)(Z:List BJ),Tb c.H0 y->PGd (cxB X (Dw X T caps) scope C s H G) ⟨y,U,[],Dq,Z⟩ tg g)
  (ht:∀(C:BJ)(s:BK)(H:Hp)(G:List BJ)(y:Hp)(U:AS)(Z:List BJ),Tb c.H0 y->TsD (cxB X (Dw X T caps) scope C s H G) ⟨y,U,[],Dq,Z⟩ ifs t)
  (he:∀(C:BJ)(s:BK)(H:Hp)(G:List BJ)(y:Hp)(U:AS)(Z:List BJ),Tb c.H0 y->PEd (cxB X (Dw X T caps) scope C s H G) ⟨y,U,[],Dq,Z⟩ .any elt f)
  (aa:∀d ρ F,g d ρ=.ok F->F.length=ρ.length/\∀i,T.length<=i->F[i]? = ρ[i]?)(P:Ow c.O l caps=true:=by rfl)(hs:∀x,E_ iter X.env x=pure x:=by intro _;rfl):
  PEf X c l (.ListComp elt [⟨tg,iter,ifs,0⟩] scope pos) (Ci u T.length caps g t f):=λpins s σ H Q I q=>by
 revert q;refine Ce λhs' ρ E q=>?_;have B:Jo X scope T caps:=.of ab;rw[eval_ListComp];show BL (BV X.prog X.w) X.A (QJ (.ListComp elt [⟨tg,iter,ifs,0⟩] scope pos) scope X.env (X3 [⟨tg,iter,ifs,0⟩] pos) (SQ []) false (CV iter X.env) none) (EP X pins σ Q) X.xe s;have q:=RQ.bind.mp q;cases h:u ρ with
 |ok ds =>
  rw[h]at q;refine Aw (λd L q=>?_) (RQ.nox q);refine Aw (λxs G L=>?_) (Dy L);by_cases Y:xs.length<=16777216
  ·rw[if_pos Y]at L;cases L;refine jf1 B hc hi hg ht he aa P hs I E h G Y λa vs s3 s' H3 H' fp ae I3 f3 J sm Ha hv r=>?_;refine Aw (λm hn _=>?_) (J.loc);exact⟨m,hn,λh' hb=>⟨.ref a,H',Zi I3 rfl f3 J h' hb,rfl,q a vs xs H' rfl sm Ha hv r⟩⟩
  ·rw[if_neg Y]at L;cases L
 |exc x=>rw[h]at q;refine IV (cl:=W5 scope X.env) rfl hs (B.clo I) B.kind B.names ?_;refine thn (hi pins s σ H (λ_ _=>False) I ⟨hs',ρ,E,by rw[h];exact q⟩) λv s1 h1=>thn h1 λaf s2 h2=>?_;refine nn λhG=>?_;clear hG;revert h2;refine vD λ_ _ _ _ _ _ _ _ _ _ z=>?_;exact z.elim
 |bad=>rw[h]at q;exact q.elim
def wX(B:K9 scope X.env.scope X.N caps=true)(L:X.calm=true)(G:PId X c l tg iter u)
  (I:∀(C:BJ)(s:BK)(H:Hp)(h:List BJ)(q:Hp)(m:AS)(Z:List BJ),PGd (cxB X (Dw X T caps) scope C s H h) ⟨q,m,[],Dq,Z⟩ tg g)
  (F:∀(C:BJ)(s:BK)(H:Hp)(h:List BJ)(q:Hp)(m:AS)(Z:List BJ),TsD (cxB X (Dw X T caps) scope C s H h) ⟨q,m,[],Dq,Z⟩ ifs t)
  (J:∀(C:BJ)(s:BK)(H:Hp)(h:List BJ)(q:Hp)(m:AS)(Z:List BJ),PEd (cxB X (Dw X T caps) scope C s H h) ⟨q,m,[],Dq,Z⟩ .any elt f)
  (z:∀d ρ r,g d ρ=.ok r->r.length=ρ.length/\∀i,T.length<=i->r[i]? = ρ[i]?)(y:Ow c.O l caps=true:=by rfl)(hs:∀x,E_ iter X.env x=pure x:=by intro _;rfl):
  PEf X c l (.ListComp elt [⟨tg,iter,ifs,0⟩] scope pos) (Ci u T.length caps g t f):=yj1 B L G (λC s H h q m Z _=>I C s H h q m Z) (λC s H h q m Z _=>F C s H h q m Z) (λC s H h q m Z _=>J C s H h q m Z) z y hs
def comp(F:K9 scope X.env.scope X.N caps=true)(P:X.calm=true)(I:PId X c l tg iter u)
  (J:∀(C:BJ)(s:BK)(H:Hp)(r:List BJ)(z:Hp)(y:AS)(Z:List BJ),PGd (cxB X (Dw X T caps) scope C s H r) ⟨z,y,[],Dq,Z⟩ tg g)
  (G:∀(C:BJ)(s:BK)(H:Hp)(r:List BJ)(z:Hp)(y:AS)(Z:List BJ),TsD (cxB X (Dw X T caps) scope C s H r) ⟨z,y,[],Dq,Z⟩ ifs t)
  (L:∀(C:BJ)(s:BK)(H:Hp)(r:List BJ)(z:Hp)(y:AS)(Z:List BJ),PEd (cxB X (Dw X T caps) scope C s H r) ⟨z,y,[],Dq,Z⟩ .any elt f)
  (B:∀d ρ m,g d ρ=.ok m->m.length=ρ.length/\∀i,T.length<=i->m[i]? = ρ[i]?)(q:Ow c.O l caps=true:=by rfl)(hs:∀x,E_ iter X.env x=pure x:=by intro _;rfl):
  PEd X c l (.ListComp elt [⟨tg,iter,ifs,0⟩] scope pos) (Ci u T.length caps g t f):=PEf.d (wX F P I J G L B q hs) λ_ _ h=>kq5 h
end
variable {Y J Z e4:B_}{g'':D->D->Option D}
section
variable {h:B_}{f f1 f2 r m:Ev->R D}{fs:Ev->R (List D)}
def Az:D->D->Option D
 | .lst xs,.lst ys=>if xs.length+ys.length<=16777216 then some (.lst (xs++ys)) else none
 |x,y=>vN x y
def yo4:OpR X (FZ .Add) (rD X.K Az):=by
 rintro pins s σ H x y v u Q I O L ⟨S,G,F,d,U,P,e,q⟩;by_cases h:∃xs ys,G=.lst xs/\F=.lst ys
 ·revert h;refine Ce λxs ys C B=>?_;obtain rfl:=C;obtain rfl:=B;obtain⟨hz,rfl⟩:=Bg e;refine zb7 pins s σ H x y v u Q I O L ⟨S,_,_,.lst (xs++ys),U,P,if_pos hz,λa vs ds H' ed s' ha hv r=>?_⟩;cases ed;exact q _ H' s' ⟨a,vs,rfl,.inl ⟨hv,.inr ⟨a,rfl,ha⟩⟩,r.mono (Ad.refl _) λ_ z=>.inl z.1⟩
 ·refine zb6 pins s σ H x y v u Q I O L ⟨S,G,F,d,U,P,?_,q⟩;cases G<;>first |exact e | (cases F<;>first |exact e |exact absurd ⟨_,_,rfl,rfl⟩ h)
def gQ(u:PEd X c l a f1)(q:PEd X c l b f2):PEd X c l (.BinOp a .Add b pos) (b2 f1 f2 Az):=dX .Add yo4 u q
def slA:D->Option Int->Option Int->Option D
 | .lst xs,lo,q=>some (.lst (cutD xs lo q))
 | .tup xs,lo,q=>if HT.sIx xs.length 0 lo=0/\HT.sIx xs.length xs.length q=xs.length then none else some (.tup (cutD xs lo q))
 |_,_,_=>none
theorem yC{lo hi:Option B_}{fl fh:Ev->R (Option Int)}(he:PEd X c l e f)(hl:POd X c lo fl)(hh:POd X c hi fh):PEd X c l (.Subscript e (.Slice lo hi none p2) pos) (bS f fl fh slA):=PE.imp (jw0 (SlR.or yb7 yr6) he hl hh) λσ H Q q=>by
 revert q;refine Ce λhs ρ E q=>?_;refine Aq E ((RQ.bind.mp q).mono (λdx q1 x H1 C E1 U=>?_) λ_ z=>z);refine Us E1 ((RQ.bind.mp q1).mono (λi q2 H2 u E2=>?_) λe z=>Bf z C);refine Us E2 ((RQ.bind.mp q2).mono (λj q3 H3 y E3=>?_) λe z=>Bf z (C.trans u));refine Aw (λd e q4=>?_) (q3.of);cases dx<;>try cases e
 ·rename_i xs;revert U;refine Bo λp vs L P G=>?_;obtain rfl:=L;have F:=G.length;have e:(if HT.sIx xs.length 0 i=0/\HT.sIx xs.length xs.length j=xs.length then none else some (D.tup (cutD xs i j)))=some d:=e;by_cases O:HT.sIx xs.length 0 i=0/\HT.sIx xs.length xs.length j=xs.length
  ·lia
  ·rw[if_neg O]at e;cases e;rw[F]at O;refine .inr ⟨p,vs,rfl,Ad.sqT (u.trans y) (TpR.sq P),O,λr B=>?_⟩;exact q4 _ _ (((C.trans u).trans y).trans (Av B _)) ⟨r,_,rfl,TpR.of Ak,((G.mono (u.trans y) λ_ z=>z).cut i j).mono (Av B _) λ_ z=>z⟩
 ·revert U;refine Bo λp vs I P G=>?_;obtain rfl:=I;refine .inl ⟨p,vs,rfl,(P.same (u.trans y) λ_ z=>z).sq,λr B=>?_⟩;exact q4 _ _ (((C.trans u).trans y).trans (Av B _)) ⟨r,_,rfl,.inl ⟨Ak,Uc E ⟨r,rfl,((C.trans u).trans y).free B⟩⟩,((G.mono (u.trans y) λ_ z=>z).cut i j).mono (Av B _) λ_ z=>z⟩
def ch3(f1 f2 r m:Ev->R D)(g g' g'':D->D->Option D):Ev->R D:=λρ=>(f1 ρ).bind λx=>(f2 ρ).bind λy=>(R.of (g x y)).bind λz=>(R.of (Y_ z)).bind λk =>
 if k then(r ρ).bind λw=>(R.of (g' y w)).bind λq=>(R.of (Y_ q)).bind λB=>if B then(m ρ).bind λu=>R.of (g'' w u) else .ok (.bl false) else .ok (.bl false)
def zY(r O q:R2)(L tb I td:TE):TE:=λσ H Q=>L σ H λx H1=>tb σ H1 λy H2=>r x y H2 λz F=>∃k,z=.bl k /\
 (if k=true then I σ F λw U=>O y w U λG C=>∃B,G=.bl B/\(if B=true then td σ C λu P=>q w u P Q else Q (.bl false) C) else Q (.bl false) F)
def kv5{L C q:O_}{r r' F:R2}{ta tb tc td:TE}(ho:OpR X (CN L) r)(O:OpR X (CN C) r')(G:OpR X (CN q) F)(ha:PE X Y ta)(hb:PE X J tb)(hc:PE X Z tc)(hd:PE X e4 td)
  (hm:P_ [L,C,q] [J,Z,e4]=false:=by with_unfolding_all rfl):PE X (.Compare Y [L,C,q] [J,Z,e4] pos) (zY r r' F ta tb tc td):=by
 intro pins s σ H Q I h;refine Compare_chain (thG (ha pins s σ H _ I h) λv s1 x H1 I1 r1 q1=>bL (thn (hb pins s1 σ H1 _ I1 q1) λu s2 ⟨y,H2,I2,r2,q2⟩ =>
  thn (ho pins s2 σ H2 x y v u _ I2 r1 r2 q2) λd s3 ⟨z,H3,I3,r3,k,e,q3⟩=>?_)) hm
 subst e;cases r3;refine DR ?_;cases k with
 |false=>exact nF ⟨.bl false,H3,I3,rfl,q3⟩
 |true =>
  refine nD (bL (thG (hc pins s3 σ H3 _ I3 q3) λU s4 P H4 I4 r4 q4=>thG (O pins s4 σ H4 y P u U _ I4 r2 r4 q4) λd' s5 z2 H5 I5 r5 B=>?_));obtain⟨k2,J,q5⟩:=B;subst J;cases r5;refine DR ?_;cases k2 with
  |false=>exact nF ⟨.bl false,H5,I5,rfl,q5⟩
  |true=>exact nD (chain_last (thG (hd pins s5 σ H5 _ I5 q5) λw2 s6 z3 H6 I6 r6 q6=>G pins s6 σ H6 P z3 U w2 Q I6 r4 r6 q6))
def yc4{Q:VK}(h:tD K c l (ch3 f1 f2 r m g g' g'') σ H Q):zY (rD K g) (rD K g') (rD K g'') (tD K c l f1) (tD K c l f2) (tD K c l r) (tD K c l m) σ H Q:=by
 revert h;refine Ce λhs ρ E q=>?_;refine Aq E ((RQ.bind.mp q).mono (λdx q1 x H1 s1 E1 r1=>?_) λ_ z=>z);refine Aq E1 ((RQ.bind.mp q1).mono (λdy q2 y H2 s2 E2 r2=>?_) λe z=>Bf z s1);refine Aw (λdz e q3=>?_) ((RQ.bind.mp q2).of);refine Aw (λk J O=>?_) ((RQ.bind.mp q3).of);have G:=r2.mono (Ad.refl _) (λ_ z=>Dj s1 z:∀o,lvS c ρ σ H1 l o->lvS c ρ σ H l o);refine⟨lvS c ρ σ H l,dx,dy,dz,r1.mono s2 (λ_ z=>z),G,e,λz H3 s3 r3=>?_⟩;cases dz<;>try cases J
 refine⟨k,r3,?_⟩;have ab:=s1.trans s2;have C:=ab.trans s3;have E3:=E2.mono s3;cases k with
 |false=>rw[if_neg (by decide)]at O ⊢;exact O _ H3 C rfl
 |true =>
  rw[if_pos rfl]at O ⊢;refine Aq E3 ((RQ.bind.mp O).mono (λdw q5 w H4 s4 E4 r4=>?_) λe z=>Bf z C);have aa:=C.trans s4;refine Aw (λI Z q6=>?_) ((RQ.bind.mp q5).of);refine Aw (λk' e4 L=>?_) ((RQ.bind.mp q6).of);have F:=r4.mono (Ad.refl _) (λ_ z=>Dj C z:∀o,lvS c ρ σ H3 l o->lvS c ρ σ H l o);refine⟨lvS c ρ σ H l,dy,dw,I,G.mono (s3.trans s4) (λ_ z=>z),F,Z,λz' H5 U r5=>?_⟩;cases I<;>try cases e4
  refine⟨k',r5,?_⟩;have B:=aa.trans U;have E5:=E4.mono U;cases k' with
  |false=>rw[if_neg (by decide)]at L ⊢;exact L _ H5 B rfl
  |true=>rw[if_pos rfl]at L ⊢;refine Aq E5 ((RQ.bind.mp L).mono (λdu q8 u H6 P E6 r6=>?_) λe z=>Bf z B);refine Aw (λd e5 q9=>?_) (q8.of);refine⟨lvS c ρ σ H l,dw,du,d,F.mono (U.trans P) (λ_ z=>z),r6.mono (Ad.refl _) (λ_ z=>Dj B z),e5,λz H' s7 r7=>?_⟩;exact q9 z H' ((B.trans P).trans s7) (r7.mono (Ad.refl _) λ_ z=>M9 E (B.trans P) z)
def yi9{z u q:O_}(C:OpR X (CN z) (rD X.K g))(B:OpR X (CN u) (rD X.K g'))(y:OpR X (CN q) (rD X.K g''))(O:PEd X c l Y f1)(L:PEd X c l J f2)(I:PEd X c l Z r)(G:PEd X c l e4 m)
  (F:P_ [z,u,q] [J,Z,e4]=false:=by with_unfolding_all rfl):PEd X c l (.Compare Y [z,u,q] [J,Z,e4] pos) (ch3 f1 f2 r m g g' g''):=PE.imp (kv5 C B y O L I G F) λ_ _ _ h=>yc4 h
end
def FnC(P:BW)(w:CQ)(K:BZ)(h:BR->Option A_)(base:CP)(k:Nat)(x:BR)(ps:List BR)(n:Nat)(m:List D->R D):Prop:=
 ∃(f:BJ)(q:DX),Ec P w K h base CX0 k f q ps (sp0 K n m)/\h x=some (.ref f)/\W.keepIn K (.ref f)=true/\Binds K q ps []
section
variable {f:Ev->R D}{fs:Ev->R (List D)}{k:Nat}{ps:List BR}{m:List D->R D}
def callC(F:FnC X.prog X.w X.K X.mg X.base k x ps n m)(u:Ed k X.A)(L:PAd X c l (e::es) fs)(y:(e::es).length=n:=by rfl)(h:ps.length=n:=by rfl)(C:Gl X x:=by rfl)
  (r:Zd x:=by decide)(G:Zs X.env e es:=by rfl)(q:Zp X.env pos es:=by rfl):
  PEd X c l (.Call (.Name x p) (e::es) [] pos) (cl fs m):=by
 revert F;refine b_ λf O F z B I=>?_;exact yw4 F u z B I L y h C r G q
def never:Ev->R Fl:=λ_=>.bad
def yq8:PSd X c st never:=PS.imp wk8 λD σ H ⟨hs,ρ,E,q⟩=>q
def pQ(q:X.mg "tuple" = none)(y:PAd X c l (e::es) fs)(r:Gl X "tuple":=by rfl)(u:Zs X.env e es:=by rfl)(h:Zp X.env pos es:=by rfl):
  PEd X c l (.Call (.Name "tuple" p) (e::es) [] pos) (bA fs pR):=pL wr6 PyProof.Rows.boot_tuple q y r (by decide) (by decide) u h
def zm8(y:X.calm=true)(q:X.mg "min" = none)(z:PAd X c l (e::es) fs)(r:Gl X "min":=by rfl)(u:Zs X.env e es:=by rfl)(h:Zp X.env pos es:=by rfl):
  PEd X c l (.Call (.Name "min" p) (e::es) [] pos) (bA fs minD):=iC (yw0 y) PyProof.Rows.boot_min q z r (by decide) (by decide) u h
def zm6(y:X.calm=true)(q:X.mg "max" = none)(z:PAd X c l (e::es) fs)(r:Gl X "max":=by rfl)(u:Zs X.env e es:=by rfl)(h:Zp X.env pos es:=by rfl):
  PEd X c l (.Call (.Name "max" p) (e::es) [] pos) (bA fs maxD):=iC (yv9 y) PyProof.Rows.boot_max q z r (by decide) (by decide) u h
end
def tyN:D->Option String
 | .non=>some "NoneType"
 | .bl _=>some "bool"
 | .int _=>some "int"
 | .str _=>some "str"
 | .tup _=>some "tuple"
 | .lst _=>some "list"
 | .exc _ _ _=>none
def dM(T:String)(t:String):Bool:=t == T || (t == "bool" && T == "int")
def gA(T:String)(d:D):Option D:=(tyN d).map λt=>.bl (dM T t)
def wv5{T t:String}(m:T∈["int","bool","tuple","list","str"])(h:t∈["NoneType","bool","int","str","tuple","list"]):W.kitOne K (.type t) (.type T)=some (dM T t):=by simp only[JN,PX,iY,or_false]at m h;rcases m with rfl |rfl |rfl |rfl |rfl<;>rcases h with rfl |rfl |rfl |rfl |rfl |rfl<;>rfl
variable {u:A_}
section
variable {S:AS}{Q:A_->BK->Prop}
def wu6{d:D}{T t:String}(I:Inv X pins σ H s)(r:Rep X.K H S d v)(m:RelV v u)(e:tyN d=some t)(k:W.kitOne X.K (.type t) (.type T)=some (dM T t))(h:∀y,Q (.bool (dM T t)) {s with toks:=y}):
  BL (BV X.prog X.w) A (call (.builtin "isinstance") [u,.type T]) Q E s:=by
 cases d with
 |non=>cases e;cases(show v=.non from r);cases(show u=Value.none from m);exact W.kia_one W.kitx_none I.QZ True.intro k (λz=>nomatch z) h
 |bl b=>cases e;cases(show v=.bl b from r);cases(show u=Value.bool b from m);exact W.kia_one W.kitx_bool I.QZ True.intro k (λz=>nomatch z) h
 |int i=>cases e;cases(show v=.int i from r);obtain⟨y,z⟩:=(show ∃t,u=Value.int i t from m);cases z;exact W.kia_one W.kitx_int I.QZ True.intro k (λz=>nomatch z) h
 |str x=>cases e;cases(show v=.str x from r);obtain⟨y,z⟩:=(show ∃t,u=Value.str x t from m);cases z;exact W.kia_one W.kitx_str I.QZ True.intro k (λz=>nomatch z) h
 |tup xs=>cases e;revert r;refine Bo λa vs F q _=>?_;obtain rfl:=F;cases(show u=Value.ref a from m);refine Gx (λB _ p _=>?_) (I.tuple (TpR.sq q));revert p;refine Gx λo L G _=>?_;exact W.kia_one W.kitx_tuple I.QZ ⟨o,L,G⟩ k (λz=>nomatch z) h
 |lst xs=>cases e;revert r;refine Bo λa vs C q _=>?_;obtain rfl:=C;cases(show u=Value.ref a from m);refine Gx (λB _ p _=>?_) (I.list q.sq);refine Gx (λo L G _=>?_) (p.isList);exact W.kia_one W.kitx_list I.QZ ⟨o,L,G⟩ k (λz=>nomatch z) h
 |exc _ _ _=>cases e
end
def yc8{d:D}{t:String}(h:tyN d=some t):t∈["NoneType","bool","int","str","tuple","list"]:=by cases d<;>first | (cases h;decide) |cases h
section
variable {f:Ev->R D}{fs:Ev->R (List D)}{m:HY}
def isi(T:String)(x:BR)(hT:T∈["int","bool","tuple","list","str"])(hv:G_ x=some (.type T))(hm:X.mg "isinstance" = none)(O:X.mg x=none)(ha:PEd X c l e f)(hg:Gl X "isinstance":=by rfl)(P:Gl X x:=by rfl)(L:x ≠ "__name__":=by decide)(aa:Zd x:=by decide)
  (he:BP [e,.Name x m] X.env=(false,CV e X.env)::BP [.Name x m] X.env:=by rfl)(U:BP [.Name x m] X.env=(false,CV (.Name x m) X.env)::BP [] X.env:=by rfl)(G:Zp X.env pos [.Name x m]:=by rfl):
  PEd X c .fr (.Call (.Name "isinstance" p) [e,.Name x m] [] pos) (b1 f (gA T)):=
 PE.imp (Ma (r:=λxs H Q=>∃S d v t,xs=[v,.ty T]/\Rep X.K H S d v/\tyN d=some t/\Q (.bl (dM T t)) H) (λpins s σ H xs us Q I r h=>by
   revert h;refine vH λS d v t F rv y q=>?_;obtain rfl:=F;refine Bo (λu1 u2 C B r2=>?_) (r.two);obtain rfl:=C;cases(show u2=Value.type T from r2);exact wu6 I rv B y (wv5 hT (yc8 y)) λtk=>⟨.bl (dM T t),H,I.tok _,rfl,q⟩) hg hm PyProof.Rows.boot_isinstance (Eb ha (Eb (wy8 (v:=.ty T) P O hv rfl L aa) Jf U) he) (by decide) (by decide) he G) λσ H Q q=>by
 revert q;refine Ce λhs ρ E q=>?_;refine Aq (l:=l) E ((RQ.bind.mp q).mono (λd q1 v H1 s1 E1 B=>?_) λ_ z=>z);refine Aw (λd' e' q2=>?_) (q1.of);unfold gA at e';cases y:tyN d with
 |none=>rw[y]at e';cases e'
 |some t=>rw[y]at e';cases e';exact⟨lvS c ρ σ H l,d,v,t,rfl,B,y,q2 _ H1 s1 rfl⟩
def ZC:List D->Option (List Bool)
 | []=>some []
 | .bl b::r=>(ZC r).map (b::·)
 |_::_=>none
def dZ:List D->Option D
 | [.lst xs]=>(ZC xs).map λbs=>.bl (bs.all id)
 |_=>none
theorem zK{K:BZ}{H:Hp}{S:AS}:∀{ds:List D}{vs:List V}{us:List A_}{bs:List Bool},Al K H S ds vs->Vals vs us->ZC ds=some bs->us=bs.map Value.bool
 | [],vs,us,bs,h,r,e=>by cases(show vs=[] from h);cases r;cases e;rfl
 |d::ds,vs,us,bs,h,r,e=>by
  revert h;refine Bo λv y q F C=>?_;obtain rfl:=q;cases r with
  |cons B z =>
   cases d with
   |bl b =>
    cases(show v=.bl b from F);cases(show _=Value.bool b from B);have e:(ZC ds).map (b::·)=some bs:=e;cases J:ZC ds with
    |none=>rw[J]at e;cases e
    |some G=>rw[J]at e;cases e;rw[zK C z J];rfl
   |_=>cases e
theorem w5(hc:X.calm=true):Dh X (.builtin "all") (rC X.K dZ):=by
 rintro pins s σ H xs us Q I r ⟨S,ds,d,rs,e,q⟩;obtain⟨x',rfl⟩:=inv1 e rfl (λx _ _=>by cases x<;>rfl);cases x' with
 |lst ys =>
  obtain⟨v,rfl,a,vs,rfl,ha,rr⟩:=rs.one;have e:(ZC ys).map (λbs=>D.bl (bs.all id))=some d:=e;cases O:ZC ys with
  |none=>rw[O]at e;cases e
  |some bs =>
   rw[O]at e;cases e;obtain⟨u,rfl,ru⟩:=vals1 r;cases ru;obtain⟨B,rv,pl,hz⟩:=I.list ha.sq;have U:=zK rr rv O;have F:=pl.isList;have C:a<s.heap.objs.size:=by obtain⟨_,z,_⟩:=F;exact HX z
   refine call_all_walk (JM F ?_);refine⟨s.heap.objs.size,[s.heap.objs.size,a],[s.heap.objs.size],B.toArray.size,_,_,λi=>(bs[i]?).getD true,rfl,Walks.list (A:=X.A.in1) (I.ok.hd hc) _ a (MJ C) B.toArray,
    ⟨⟨_,K_ _ rfl,rfl,rfl⟩,F.push _⟩,λi v s' Q' E' hP P=>?_,λh' tk hk=>?_⟩
   ·have y:B[i]? = some v:=by simpa using hP
    rw[U,RB]at y;cases L:bs[i]? with
    |none=>rw[L]at y;cases y
    |some b=>rw[L]at y;cases y;simp only[L,a_]at P;exact DR P
   ·have e:((List.range B.toArray.size).all λi=>(bs[i]?).getD true)=bs.all id:=by
     rw[MK,U,GQ];rw[ZK];simp only[QL,MT,id];constructor
     ·intro h b hb;obtain⟨i,G,e⟩:=mX.mp hb;simp_all
     ·intro h i G;rw[LR G,a_];exact h _ (fH G)
    rw[e];exact⟨.bl _,H,I.kept (λb x z=>hk b x (λhm=>by rw[PX.mp hm]at z;exact ZJ _ (HX z)) (JK _ z)),rfl,q _ H (Ad.refl _) rfl⟩
 |_=>exact nos e
def gP(z:X.calm=true)(q:X.mg "all" = none)(B:PAd X c l (e::es) fs)(r:Gl X "all":=by rfl)(y:Zs X.env e es:=by rfl)(h:Zp X.env pos es:=by rfl):
  PEd X c l (.Call (.Name "all" p) (e::es) [] pos) (bA fs dZ):=iC (w5 z) PyProof.Rows.boot_all q B r (by decide) (by decide) y h
end
variable {h':CP}
variable {t':Nat}
theorem Qt(I:Inv X pins σ H s)(y:∀b∈fp,Q5 X pins H b)(k:∀b o,b∉fp->s.heap.get? b=some o->h'.get? b=some o):Inv X pins σ H {s with heap:=h',toks:=t'}:=by
 refine I.step (g':=s.gens) (d':=s.drawn) (ch:=fp) (λb F=>?_) (λb o _ _ h e _=>k b o h e) (λb o _ _ h e _=>⟨o.slots,k b o h e⟩) (λ_ _ _ _ n=>n)
  (λb o h e=>⟨o,k b o h e⟩) (λ_ _ e=>e) (λ_ _ _ e=>e) (λb ps e=>⟨#[],by rw[e];simp⟩) (λm C=>?_) (λb u e=>?_) I.bare
 ·refine vK (λf0 P f2 O L G=>?_) (y b F);exact⟨O,P,L,G⟩
 ·revert C;refine dR λo es U B r=>?_;exact⟨o,es,U,k _ o (λz=>(y _ z).2.1 rfl) B,r⟩
 ·refine(I.hok b u e).stay (λc v h q=>k c v (λz=>?_) q) (λ_ q=>q) λ_ _ q=>q;have hn:=(y c z).1;lia
theorem Gs{a:BJ}{F:HO}(I:Inv X pins σ H s)(G:∀b∈fp,Q5 X pins H b)(k:∀b o,b∉fp->s.heap.get? b=some o->h'.get? b=some o)(L:s.heap.objs.size<=a)(new:Cg X.prog X.w (upd H a F) h' a F):
  Inv X pins σ (upd H a F) {s with heap:=h',toks:=t'}:=by
 have h:H a=none:=I.hok.fresh L;have ne:∀{b:BJ}{o:GR},s.heap.get? b=some o->b≠a:=λe z=>by have:=HX e;lia
 refine I.step (g':=s.gens) (d':=s.drawn) (ch:=fp) (λb C=>?_) (λb o _ _ B e _=>k b o B e) (λb o _ _ B e _=>⟨o.slots,k b o B e⟩) (λb o _ e n=>by rw[Ae (ne e)];exact n)
  (λb o B e=>⟨o,k b o B e⟩) (λb xs e=>by rw[Ae (Bs e h)];exact e) (λb o u e=>by rw[Ae (Bs e h)];exact e) (λb ps e=>⟨#[],by rw[Ae (Bs e h),e];simp⟩) (λm P=>?_) (λb u e=>?_) I.bare
 ·refine vK (λf0 f1 f2 f3 f4 U=>?_) (G b C);exact⟨f3,f1,f4,U⟩
 ·revert P;refine dR λo es ep O r=>?_;exact⟨o,es,ep,k _ o (λz=>(G _ z).2.1 rfl) O,r⟩
 ·by_cases C:b=a
  ·subst C;rw[Ak]at e;cases e;exact new
  ·rw[Ae C]at e;refine(I.hok b u e).stay (λc v B q=>k c v (λz=>?_) q) (λc q=>by rw[Ae (Bs q h)];exact q) λc xs q=>by rw[Ae (Bs q h)];exact q
   have h:=(G c z).1;rcases B with y |y
   ·rw[y,e]at h;cases h
   ·rw[y]at h;cases h
def Iel(K:BZ)(a:BJ):It:=
 ⟨λi H=>∃xs x,SqL K H a xs/\xs[i]? = some x,λi H x H'=>∃t v,x=.ref t/\H t=none/\H'=upd H t (.tup [.int (i:Int),v])/\∀xs,SqL K H a xs->xs[i]? = some v,λi H=>∃xs,SqL K H a xs/\xs.length<=i⟩
variable {P:BW}
theorem kx6{elts:List B_}{k:Nat}(a e it:BJ)(hne:e≠it):
  Turn P w K (.Tuple elts k pos) (Iel K a) [e,it] e (λi h=>(∃old,nT h e it (i:Int) old)/\h.IsListIter it a i) where
 mem:=by simp
 obj:=λi h st b hb=>by obtain⟨⟨old,he⟩,o,ho,hc,hd⟩:=st;grind
 keep:=λi h h' st kp=>⟨st.1.imp λold he=>kp e (by simp) _ he,st.2.at λo q=>kp it (by simp) o q⟩
 item:=by
  intro X hP hw hK hc i pins s σ H E I hf st hg;subst hP hw hK;obtain⟨xs,x,hq,hx⟩:=hg;obtain⟨its,rv,p,hz⟩:=I.list hq;obtain⟨u,hu,ru⟩:=rv.get hx;obtain⟨⟨old,he⟩,hit⟩:=st;refine wpAny_pyNext_enum_item he hit p.isList (x:=u) (by simpa using hu) hne λh1 heo hit1 ht1 hz1 hk1=>⟨_,rfl,?_⟩;refine TY heo λh2 he2 hs2=>?_;have hT:s.heap.objs.size≠e:=VV (HX he);have ht2:h2.get? s.heap.objs.size=some {cls:=.type "tuple",data:=.seq #[.int i s.toks,u] }:=(hs2.2 _ hT).trans ht1;have I2:Inv X pins σ (upd H s.heap.objs.size (.tup [.int (i:Int),x])) {s with heap:=h2,toks:=s.toks+1}:=
   Gs (t':=s.toks+1) I hf (λb o hb q=>by
    have hb':b≠e/\b≠it:=by simpa using hb
    exact(hs2.2 b hb'.1).trans (hk1 b o hb'.1 hb'.2 q)) (GX _)
    (show Cg X.prog X.w _ h2 _ (.tup [.int (i:Int),x]) from⟨by show 2<=sizeLine;rw[CG];lia,[.int i s.toks,u],.cons ⟨_,rfl⟩ (.cons ru .nil),⟨_,ht2,rfl,_,rfl⟩⟩)
  refine⟨.ref s.heap.objs.size,_,I2,rfl,⟨_,x,rfl,I.hok.fresh (GX _),rfl,λys hy=>by rw[I.list_inj hy hq];exact hx⟩,⟨⟨u,by simpa using he2⟩,?_⟩,λb hb=>?_⟩
  ·exact hit1.at λo q=>(hs2.2 it (Ne.symm hne)).trans q
  ·have hlt:b<s.heap.objs.size:=by
    obtain⟨oi,hoi,_⟩:=id hit;have hb':b=e\/b=it:=by simpa using hb
    rcases hb' with rfl |rfl
    ·exact HX he
    ·exact HX hoi
   rw[Ae (MJ hlt)];exact(hf b hb).1
 done:=by intro X hP hw hK hc i pins s σ H E I hf st hg;subst hP hw hK;obtain⟨xs,hq,hx⟩:=hg;obtain⟨its,rv,p,hz⟩:=I.list hq;obtain⟨⟨old,he⟩,hit⟩:=st;have hl:=rv.length;exact wpAny_pyNext_enum_end (I.ok.hd hc) he hit p.isList (by simp;lia) λh' eb=>⟨rfl,Qt (t':=s.toks) I hf λb o hb q=>eb b o (λz=>hb (by simp[z])) q⟩
 self:=λA i s Q E st h=>by obtain⟨⟨old,he⟩,_⟩:=st;exact LC he h
def Ky(ds:List D):List D:=(List.range ds.length).zipWith (λ(i:Nat) d=>.tup [.int (i:Int),d]) ds
def Qo(ds:List D):(Ky ds).length=ds.length:=by simp[Ky]
theorem jg0{d:D}(h:(Ky ds)[i]? = some d):∃e,ds[i]? = some e/\d=.tup [.int (i:Int),e]:=by
 unfold Ky at h;rw[jGb]at h;cases Y:(List.range ds.length)[i]? with
 |none=>rw[Y]at h;cases h
 |some j =>
  cases J:ds[i]? with
  |none=>rw[Y,J]at h;cases h
  |some e=>rw[Y,J]at h;cases h;have:=(NB.mp Y);simp_all
def wf7{a:BJ}:ItD K (Iel K a) (Ky ds) λH S=>LsR K H S a vs/\Al K H S ds vs where
 stab:=tK
 go:=λi H S hi h=>by rw[Qo]at hi;refine Aw (λv hv _=>?_) (h.2.get (LR hi));exact⟨vs,v,h.1.sq,hv⟩
 yld:=λi H S x H' h y=>by revert y;refine b_ λt v hz5 ht hz6 y=>?_;obtain rfl:=hz5;obtain rfl:=hz6;refine⟨Av ht _,λd hd=>?_⟩;refine Aw (λe he hz7=>?_) (jg0 hd);obtain rfl:=hz7;refine Aw (λw hw rw'=>?_) (h.2.get he);have ev:v=w:=Option.some.inj ((y vs h.1.sq).symm.trans hw);subst ev;exact⟨t,_,rfl,TpR.of Ak,.int (i:Int),[v],rfl,rfl,v,[],rfl,rw'.mono (Av ht _) (λ_ z=>z),rfl⟩
 stop:=λi H S hi h=>⟨vs,h.1.sq,by rw[<-h.2.length];rw[Qo]at hi;exact hi⟩
open PySem PySem.Spec PyProof.Rows L2 PySem.W
def okT{h:Type}(n:Nat)(lt:Nat->Nat->Bool):KasT h->(h->Prop)->Prop
 | .ret a,Q=>Q a
 | .ask i j k,Q=>i<n/\j<n/\okT n lt (k (lt i j)) Q
theorem Ly{q m:Type}{n:Nat}{lt:Nat->Nat->Bool}{f:q->KasT m}{Q:m->Prop}:∀(t:KasT q),okT n lt t (λa=>okT n lt (f a) Q)->okT n lt (t.bind f) Q
 | .ret _,h=>h
 | .ask i j k,h=>⟨h.1,h.2.1,Ly (k (lt i j)) h.2.2⟩
theorem jh3{r:Type}{n:Nat}{lt:Nat->Nat->Bool}{cmp:Nat->Nat->(Bool->BK->Prop)->BK->Prop}{s:BK}{Q:r->Prop}{B:r->BK->Prop}
  (z:∀i j (C:Bool->BK->Prop) (m:Nat),i<n->j<n->(∀q,C (lt i j) {s with toks:=q})->cmp i j C {s with toks:=m})
  (y:∀a m,Q a->B a {s with toks:=m}):∀(t:KasT r)(m:Nat),okT n lt t Q->t.kasWp cmp B {s with toks:=m}
 | .ret a,m,h=>y a m h
 | .ask i j k,m,h=>z i j _ m h.1 h.2.1 λq=>jh3 z y (k (lt i j)) q h.2.2
variable {O:bO}
variable {q:Array Nat}{nrem:Nat}
section
variable {key:Nat->O.α}{N:Nat}
def kk(key:Nat->O.α)(p:Array Nat)(i:Nat):O.α:=key ((p[i]?).getD 0)
def O8{p:Array Nat}(h:p[i]? = q[j]?):kk key p i=kk key q j:=by unfold kk;rw[h]
def Ht(key:Nat->O.α)(p:Array Nat)(i:Nat):key (p.getD i 0)=kk key p i:=by unfold kk;rw[jEx]
def Gd(key:Nat->O.α)(p:Array Nat)(k:Nat):Prop:=∀i j,i<=j->j<k->O.kle (kk key p i) (kk key p j)
def iH(key:Nat->O.α)(p:Array Nat)(k:Nat):Prop:=∀i j,i<=j->j<k->O.kle (kk key p j) (kk key p i)
def Ef(N:Nat)(p:Array Nat):Prop:=p.toList.Perm (List.range N)
def Ef.size{p:Array Nat}(h:Ef N p):p.size=N:=by have:=h.length_eq;simpa using this
theorem Ef.lt{p:Array Nat}(h:Ef N p)(r:0<N)(i:Nat):p.getD i 0<N:=by
 rw[jEx];by_cases m:i<p.size
 ·rw[ZQ m,a_];have:p[i]∈p.toList:=by simp
  exact MT.mp (h.mem_iff.mp this)
 ·simp_all
def Ef.perm{p:Array Nat}(h:Ef N p)(e:q.Perm p):Ef N q:=(Array.perm_iff_toList_perm.mp e).trans h
abbrev ltO(key:Nat->O.α):Nat->Nat->Bool:=λi j=>O.blt (key i) (key j)
theorem qC{p:Array Nat}{Q:Nat->Prop}(r:Ef N p)(C:0<N):∀(f n:Nat),1<=n->n+f<=N->Gd key p n->(∀m,n<=m->m<=n+f->Gd key p m->(m=n+f\/O.klt (kk key p m) (kk key p (m - 1)))->Q m)->okT N (ltO key) (kas_asc p f n) Q
 |0,n,L,I,hs,h=>h n (GX _) (by lia) hs (.inl rfl)
 |f+1,n,L,I,hs,h=>by
  refine⟨r.lt C n,r.lt C (n - 1),?_⟩;show okT N (ltO key) (if O.blt (key (p.getD n 0)) (key (p.getD (n - 1) 0))=true then _ else _) Q;rw[Ht key,Ht key];cases c:O.blt (kk key p n) (kk key p (n - 1)) with
  |true=>rw[if_pos rfl];exact h n (GX _) (by lia) hs (.inr c)
  |false =>
   rw[if_neg (by simp)];refine qC r C f (n+1) (by lia) (by lia) (λi j B hj=>?_) (λm h3 h4 G F=>h m (by lia) (by lia) G (F.imp (λz=>by lia) id));by_cases y:j<n
   ·exact hs i j B y
   ·have U:j=n:=by lia
    subst U;by_cases hi:i=j
    ·grind [KeyOrd.kle_refl]
    ·exact KeyOrd.kle_trans (hs i (j - 1) (by lia) (by lia)) c
def Uk(p:Array Nat)(i j:Nat):(XQ p i j).Perm p:=mirror_perm _ _ _ _
theorem qH{p:Array Nat}(m:j<=p.size)(k:Nat):kk key (XQ p i j) k=if i<=k/\k<j then kk key p (i+j - 1 - k) else kk key p k:=by
 have e:=getElem?_mirror_all (i:=i) m k;unfold XQ;split
 ·rename_i h;rw[if_pos h]at e;exact O8 e
 ·rename_i h;rw[if_neg h]at e;exact O8 e
theorem O9{p:Array Nat}{v:O.α}(m:j<=p.size)(h:∀k,i<=k->k<j->kk key p k=v)(k:Nat):kk key (XQ p i j) k=kk key p k:=by grind [qH]
theorem rN{Q:Array Nat×Nat×Nat->Prop}(B:0<N):∀(f:Nat)(p:Array Nat)(n q:Nat),Ef N p->1<=n->n+f<=N->q+1<=n->iH key p n->(∀i,n - (q+1)<=i->i<n->kk key p i=kk key p (n - 1)) ->
  (∀r m G,Ef N r->n<=m->m<=n+f->G+1<=m->iH key r m->(∀i,m - (G+1)<=i->i<m->kk key r i=kk key r (m - 1))->Q (r,m,G))->okT N (ltO key) (kas_desc f p n q) Q
 |0,p,n,q,y,h1,h2,h3,hs,C,h=>h p n q y (GX _) (by lia) h3 hs C
 |f+1,p,n,q,y,h1,h2,h3,hs,C,h=>by
  have aa:=y.size;refine⟨y.lt B n,y.lt B (n - 1),?_⟩;show okT N (ltO key) (if O.blt (key (p.getD n 0)) (key (p.getD (n - 1) 0))=true then _ else _) Q;rw[Ht key,Ht key];have grow:∀(r:Array Nat),(∀k,kk key r k=kk key p k)->O.kle (kk key p n) (kk key p (n - 1))->iH key r (n+1):=λr e c i j U hj=>by
   rw[e,e];by_cases L:j<n
   ·exact hs i j U L
   ·have ej:j=n:=by lia
    subst ej;by_cases hi:i=j
    ·grind [KeyOrd.kle_refl]
    ·exact KeyOrd.kle_trans c (hs i (j - 1) (by lia) (by lia))
  have z:∀r,(∀k,kk key r k=kk key p k)->Ef N r->O.kle (kk key p n) (kk key p (n - 1))->okT N (ltO key) (kas_desc f r (n+1) 0) Q:=λr e I c =>
   rN B f r (n+1) 0 I (by lia) (by lia) (by lia) (grow r e c) (λi h4 h5=>by rw[show i=n+1 - 1 by lia]) λp2 m F a1 a2 a3=>h p2 m F a1 (by lia) (by lia)
  cases c:O.blt (kk key p n) (kk key p (n - 1)) with
  |true =>
   rw[if_pos rfl];have c':O.kle (kk key p n) (kk key p (n - 1)):=KeyOrd.kle_of_klt c;by_cases hq:q>0
   ·rw[if_pos hq];exact z _ (O9 (by lia) λk h4 h5=>C k h4 h5) (y.perm (Uk _ _ _)) c'
   ·rw[if_neg hq];exact z p (λ_=>rfl) y c'
  |false =>
   rw[if_neg (by simp)];refine⟨y.lt B (n - 1),y.lt B n,?_⟩;show okT N (ltO key) (if O.blt (key (p.getD (n - 1) 0)) (key (p.getD n 0))=true then _ else _) Q;rw[Ht key,Ht key];cases d:O.blt (kk key p (n - 1)) (kk key p n) with
   |true=>rw[if_pos rfl];exact h p n q y (GX _) (by lia) h3 hs C
   |false=>rw[if_neg (by simp)];have eq:kk key p n=kk key p (n - 1):=O.total _ _ c d;refine rN B f p (n+1) (q+1) y (by lia) (by lia) (by lia) (grow p (λ_=>rfl) d) (λi h4 h5=>?_) λp2 m F a1 a2 a3=>h p2 m F a1 (by lia) (by lia);grind
theorem jv8{p:Array Nat}{Q:Nat×Array Nat->Prop}(F:0<N)(z:Ef N p)(h1:1<=n)(U:n<=nrem)(L:nrem<=N)(hs:iH key p n)(h:∀m y,Ef N y->1<=m->m<=nrem->Gd key y m->Q (m,y)):
  okT N (ltO key) (kas_tail3 n nrem p) Q:=by
 unfold kas_tail3;have r:Ef N (XQ p 0 n):=z.perm (Uk _ _ _);have B:=z.size;refine Ly _ (qC r F (nrem - n) n h1 (by lia) (λi j C I=>?_) λm a1 a2 G _=>h m _ r (by lia) (by lia) G);rw[qH (by lia),qH (by lia),if_pos (by lia),if_pos (by lia)];exact hs _ _ (by lia) (by lia)
theorem Wn{p:Array Nat}{Q:Nat×Array Nat->Prop}(z:0<N)(U:Ef N p)(h2:n+1<=nrem)(G:nrem<=N)(hs:iH key p (n+1))(h:∀m r,Ef N r->1<=m->m<=nrem->Gd key r m->Q (m,r)):
  okT N (ltO key) (kas_descPart n nrem p) Q:=by
 unfold kas_descPart;refine Ly _ (rN z _ p (n+1) 0 U (by lia) (by lia) (by lia) hs (λi h4 h5=>by rw[show i=n+1 - 1 by lia]) λr m C B a2 a3 a4 I a6=>?_);have L:=B.size;dsimp only;by_cases F:C>0
 ·rw[if_pos F];have e:=O9 (key:=key) (p:=r) (i:=m - (C+1)) (j:=m) (by lia) a6;exact jv8 z (B.perm (Uk _ _ _)) (by lia) (by lia) G (λi j y hj=>by rw[e,e];exact I i j y hj) h
 ·rw[if_neg F];exact jv8 z B (by lia) (by lia) G I h
theorem wj4{p:Array Nat}{Q:Nat×Array Nat->Prop}(B:0<N)(y:Ef N p)(h1:1<=nrem)(h3:nrem<=N)(h:∀m F,Ef N F->1<=m->m<=nrem->Gd key F m->Q (m,F)):okT N (ltO key) (kas_count nrem p) Q:=by
 unfold kas_count;have aa:=y.size;refine Ly _ (qC y B (nrem - 1) 1 (GX _) (by lia) (λi j z U=>by rw[show i=j by lia];exact KeyOrd.kle_refl _) λn a1 a2 C a4=>?_);by_cases L:n=nrem
 ·rw[if_pos (by simpa using L)];exact h n p y a1 (by lia) C
 ·rw[if_neg (by simpa using L)];have lt:O.klt (kk key p n) (kk key p (n - 1)):=a4.resolve_left (by lia);by_cases hg:n>1
  ·rw[if_pos hg];refine⟨y.lt B 0,y.lt B (n - 1),?_⟩;show okT N (ltO key) (if O.blt (key (p.getD 0 0)) (key (p.getD (n - 1) 0))=true then _ else _) Q;rw[Ht key,Ht key];cases c:O.blt (kk key p 0) (kk key p (n - 1)) with
   |true=>rw[if_pos rfl];exact h n p y a1 (by lia) C
   |false =>
    rw[if_neg (by simp)];have r:∀k,0<=k->k<n->kk key p k=kk key p (n - 1):=λk _ hk=>KeyOrd.kle_antisymm (C k (n - 1) (by lia) (by lia)) (KeyOrd.kle_trans c (C 0 k (by lia) hk));have e:=O9 (key:=key) (p:=p) (i:=0) (j:=n) (by lia) r;refine Wn B (y.perm (Uk _ _ _)) (by lia) h3 (λi j z U=>?_) h;rw[e,e];by_cases G:j<n
    ·rw[r i (by lia) (by lia),r j (by lia) G];exact KeyOrd.kle_refl _
    ·rw[show j=n by lia];by_cases I:i=n
     ·rw[I];exact KeyOrd.kle_refl _
     ·rw[r i (by lia) (by lia)];exact KeyOrd.kle_of_klt lt
  ·rw[if_neg hg];have Y:n=1:=by lia
   subst Y;refine Wn B y (by lia) h3 (λi j z U=>?_) h;by_cases I:i=j
   ·rw[I];exact KeyOrd.kle_refl _
   ·grind [KeyOrd.kle_of_klt]
theorem Zz{p:Array Nat}{k:Nat}{Q:Nat->Prop}(F:0<N)(B:Ef N p)(hs:Gd key p k):∀(f l r:Nat),r - l<=f->l<=r->r<=k->(∀i,i<l->O.kle (kk key p i) (kk key p k))->(∀i,r<=i->i<k->O.klt (kk key p k) (kk key p i)) ->
  (∀m,m<=k->(∀i,i<m->O.kle (kk key p i) (kk key p k))->(∀i,m<=i->i<k->O.klt (kk key p k) (kk key p i))->Q m)->okT N (ltO key) (kas_place p k f l r) Q
 |0,l,r,L,I,G,C,z,h=>h l (by lia) C λi a b=>z i (by lia) b
 |f+1,l,r,L,I,G,C,z,h=>by
  unfold kas_place;by_cases y:l≥r
  ·rw[if_pos y];exact h l (by lia) C λi a b=>z i (by lia) b
  ·rw[if_neg y];refine⟨B.lt F k,B.lt F _,?_⟩;show okT N (ltO key) (if O.blt (key (p.getD k 0)) (key (p.getD ((l+r) / 2) 0))=true then _ else _) Q;rw[Ht key,Ht key];cases c:O.blt (kk key p k) (kk key p ((l+r) / 2)) with
   |true=>rw[if_pos rfl];exact Zz F B hs f l ((l+r) / 2) (by lia) (by lia) (by lia) C (λi a b=>KeyOrd.klt_of_klt_of_kle c (hs _ _ (by lia) b)) h
   |false=>rw[if_neg (by simp)];exact Zz F B hs f ((l+r) / 2+1) r (by lia) (by lia) (by lia) (λi a=>KeyOrd.kle_trans (hs i ((l+r) / 2) (by lia) (by lia)) c) z h
def yP{p:Array Nat}{src d:Nat}(hs:src<p.size)(r:d<=src)(k:Nat):kk key (nP p src d) k=if k=src - d then kk key p src else if src - d<k/\k<=src then kk key p (k - 1) else kk key p k:=by
 have e:=getElem?_bubble hs d r k;by_cases m:k=src - d
 ·rw[if_pos m]at e ⊢;exact O8 e
 ·rw[if_neg m]at e ⊢;by_cases h:src - d<k/\k<=src
  ·rw[if_pos h]at e ⊢;exact O8 e
  ·rw[if_neg h]at e ⊢;exact O8 e
theorem yJ{Q:Array Nat->Prop}(I:0<N):∀(f:Nat)(p:Array Nat)(k:Nat),Ef N p->k+f=N->Gd key p k->(∀F,Ef N F->Gd key F N->Q F)->okT N (ltO key) (kas_bin f p k) Q
 |0,p,k,r,L,hs,h=>h p r (by rw[<-L];exact hs)
 |f+1,p,k,r,L,hs,h=>by
  have U:=r.size;unfold kas_bin;refine Ly _ (Zz I r hs k 0 k (by lia) (by lia) (by lia) (λi z=>by lia) (λi a b=>by lia) λm a1 a2 a3=>?_);refine yJ I f _ (k+1) (r.perm (bubble_perm _ _ _)) (by lia) (λi j G hj=>?_) h;rw[yP (by lia) (by lia),yP (by lia) (by lia),show k - (k - m)=m by lia];by_cases hi:i=m
  ·grind [KeyOrd.kle_refl,KeyOrd.kle_of_klt]
  ·rw[if_neg hi];by_cases B:j=m
   ·rw[if_pos B,if_neg (by lia)];exact a2 i (by lia)
   ·rw[if_neg B];by_cases C:m<i/\i<=k
    ·rw[if_pos C,if_pos (by lia)];exact hs _ _ (by lia) (by lia)
    ·rw[if_neg C];by_cases y:m<j/\j<=k
     ·rw[if_pos y];exact hs _ _ (by lia) (by lia)
     ·rw[if_neg y];exact hs _ _ G (by lia)
theorem wy2(h:0<N):okT N (ltO key) (lC N) λp=>Ef N p/\Gd key p N:=by
 unfold lC;refine Ly _ (wj4 h (show Ef N (RZ (List.range N)) from List.Perm.refl _) h (GX _) λm B z F C y=>?_);dsimp only;by_cases r:m<N
 ·rw[if_pos r,show max m 1=m by lia];exact yJ h _ B m z (by lia) y λp2 b1 b2=>⟨b1,b2⟩
 ·rw[if_neg r];exact⟨z,by rw[show N=m by lia];exact y⟩
end
variable {h2:CP}
section
variable {key:Nat->O.α}{κ:JT}{vs:List A_}{a:BJ}
def Bu(a:BJ)(h h':CP):Prop:=∀b o,b≠a->h.get? b=some o->h'.get? b=some o
def Bu.trans{h1 h:CP}(x:Bu a h1 h2)(y:Bu a h2 h):Bu a h1 h:=λb o n e=>y b o n (x b o n e)
def Bu.push(h:CP)(o:GR):Bu a h (h.push o):=λb u _ e=>JK _ e
def Bu.upd(h:CP)(f:GR->GR):Bu a h (h.update a f):=λb u n e=>(m5 _ _ (Ne.symm n)).trans e
structure Asks(prog:BW)(w:CQ)(A:D_)(s:BK)(a:BJ)(vs:List A_)(κ:JT)(key:Nat->O.α):Prop where
 kind:2<=vs.length->∀(s':BK)(Q:JT->BK->Prop),Bu a s.heap s'.heap->Q κ s'->BL (BV prog w) A (keyKind' vs.toArray) Q (λ_ _=>False) s'
 less:2<=vs.length->∀(i j:Nat)(s':BK)(Q:Bool->BK->Prop),i<vs.length->j<vs.length->Bu a s.heap s'.heap->(∀tk,Q (ltO key i j) {s' with toks:=tk})->BL (BV prog w) A (keyLt' κ (vs.getD i .none) (vs.getD j .none)) Q (λ_ _=>False) s'
def wj7(vs:List A_):((vs.toArray.zip vs.toArray).map (·.2))=vs.toArray:=by
 apply Array.ext
 ·simp
 ·intro i h h2;simp
theorem Z8(vs:List A_):((List.range vs.length).map λi=>vs.getD i .none)=vs:=by
 apply aZ
 ·simp
 ·simp_all
end
def Cz:List Int->List Int->Bool
 |_,[]=>false
 | [],_::_=>true
 |x::xs,y::ys=>if x=y then Cz xs ys else decide (x<y)
def Zu(xs:List Int):Cz xs []=false:=by cases xs<;>rfl
theorem Pa:∀xs,Cz xs xs=false
 | []=>rfl
 |x::xs=>by rw[Cz,if_pos rfl];exact Pa xs
theorem Su:∀xs ys m,Cz xs ys=true->Cz ys m=true->Cz xs m=true
 |_,[],_,h,_=>by rw[Zu]at h;cases h
 |_,_::_,[],_,h=>by rw[Zu]at h;cases h
 | [],_::_,_::_,_,_=>rfl
 |x::xs,y::ys,z::m,r,h2=>by
  rw[Cz]at r h2 ⊢;by_cases Y:x=y
  ·rw[if_pos Y]at r;by_cases J:y=z
   ·rw[if_pos J]at h2;rw[if_pos (Y.trans J)];exact Su xs ys m r h2
   ·rw[if_neg J]at h2;rw[if_neg (by rw[Y];exact J),Y];exact h2
  ·lia
theorem Zt:∀xs ys m,Cz xs m=true->Cz xs ys=true\/Cz ys m=true
 |_,_,[],h=>by rw[Zu]at h;cases h
 |_,[],_::_,_=>.inr rfl
 | [],_::_,_::_,_=>.inl rfl
 |x::xs,y::ys,z::m,h=>by
  rw[Cz]at h;rw[Cz,Cz];by_cases Y:x=y
  ·rw[if_pos Y];by_cases J:y=z
   ·simp_all [Zt]
   ·rw[if_neg J];rw[if_neg (by rw[Y];exact J)]at h;exact .inr (by rw[<-Y];exact h)
  ·lia
theorem Fv:∀xs ys,Cz xs ys=false->Cz ys xs=false->xs=ys
 | [],[],_,_=>rfl
 | [],_::_,h,_=>by cases h
 |_::_,[],_,h=>by cases h
 |x::xs,y::ys,m,h2=>by
  rw[Cz]at m h2;by_cases e:x=y
  ·rw[if_pos e]at m;rw[if_pos e.symm]at h2;rw[e,Fv xs ys m h2]
  ·lia
def Vh:bO:=⟨List Int,Cz,Pa,Su,Zt,Fv⟩
def Bj:List D->Option (List Int)
 | []=>some []
 | .int i::r=>(Bj r).map (i::·)
 |_::_=>none
def aP:D->Option (List Int)
 | .int i=>some [i]
 | .tup xs=>Bj xs
 |_=>none
def keyOf(d:D):List Int:=(aP d).getD []
def lM:D->Bool
 | .int _=>true
 |_=>false
def Sh:D->Bool
 | .tup (x::xs)=>(Bj (x::xs)).isSome
 |_=>false
theorem Vb:∀{xs ys:List D}{ns:List Int},Bj xs=some ns->Bj ys=some ns->xs=ys
 | [],[],_,_,_=>rfl
 | [],y::ys,ns,h,h2=>by cases h;cases y<;>first | (cases e:Bj ys<;>simp[Bj,e]at h2) |cases h2
 |x::xs,[],ns,h,h2=>by cases h2;cases x<;>first | (cases e:Bj xs<;>simp[Bj,e]at h) |cases h
 |x::xs,y::ys,ns,h,h2=>by
  cases x with
  |int i =>
   cases y with
   |int j =>
    cases Y:Bj xs with
    |none=>simp[Bj,Y]at h
    |some a =>
     cases J:Bj ys with
     |none=>simp[Bj,J]at h2
     |some b=>simp[Bj,Y]at h;simp[Bj,J]at h2;rw[<-h2]at h;obtain⟨rfl,rfl⟩:=List.cons.inj h;rw[Vb Y J]
   |_=>cases h2
  |_=>cases h
def Ea(xs:List D):Bool:=xs.all lM ||xs.all Sh
theorem rP(h:Ea xs=true){a b:D}(B:a∈xs)(z:b∈xs)(e:keyOf a=keyOf b):a=b:=by
 unfold Ea at h;rw[cM,QL,QL]at h;rcases h with h |h
 ·have r:=h a B;have h2:=h b z;cases a<;>cases b<;>simp[lM]at r h2;simp[keyOf,aP]at e;rw[e]
 ·have r:=h a B;have h2:=h b z;cases a with
  |tup x =>
   cases b with
   |tup y =>
    cases Y:Bj x with
    |none=>cases x<;>simp[Sh,Y]at r
    |some n =>
     cases J:Bj y with
     |none=>cases y<;>simp[Sh,J]at h2
     |some m=>simp[keyOf,aP,Y,J]at e;subst e;rw[Vb Y J]
   |_=>simp[Sh]at h2
  |_=>simp[Sh]at r
def Hc(a b:D):Bool:=!Cz (keyOf b) (keyOf a)
def srt(xs:List D):List D:=xs.mergeSort Hc
theorem Ek(xs:List D):(srt xs).Perm xs:=List.mergeSort_perm _ _
theorem kt8(a b c:D)(h1:Hc a b=true)(h2:Hc b c=true):Hc a c=true:=by
 unfold Hc at *;rw[ZP]at *;cases e:Cz (keyOf c) (keyOf a) with
 |false=>rfl
 |true=>grind [Zt]
def kt7(a b:D):(Hc a b ||Hc b a)=true:=by
 unfold Hc;cases e:Cz (keyOf b) (keyOf a) with
 |false=>rfl
 |true =>
  cases J:Cz (keyOf a) (keyOf b) with
  |false=>rfl
  |true=>have:=Su _ _ _ e J;rw[Pa]at this;cases this
def El(xs:List D):(srt xs).Pairwise λa b=>Hc a b=true:=List.pairwise_mergeSort (λa b c=>kt8 a b c) (λa b=>kt7 a b) xs
theorem eq_of_sorted{h:Type}{le:h->h->Prop}:∀{xs ys:List h},xs.Perm ys->xs.Pairwise le->ys.Pairwise le->(∀a∈xs,∀b∈xs,le a b->le b a->a=b)->xs=ys
 | [],ys,p,_,_,_=>(List.nil_perm.mp p).symm
 |x::xs,[],p,_,_,_=>by have:=p.length_eq;simp at this
 |x::xs,y::ys,p,B,h2,m=>by
  have C:x=y:=by grind [J_,JN.mp,List.rel_of_pairwise_cons]
  subst C;rw[eq_of_sorted (List.Perm.cons_inv p) B.of_cons h2.of_cons λa z b r=>m a (JB _ z) b (JB _ r)]
theorem jb9{p:Array Nat}{key:Nat->Vh.α}(z:xs.length<2\/Ea xs=true)(y:∀i d,xs[i]? = some d->key i=keyOf d)(B:Ef xs.length p)(hs:Gd key p xs.length):
  p.toList.map (λi=>xs.getD i .non)=if xs.length<2 then xs else srt xs:=by
 have perm:(p.toList.map λi=>xs.getD i .non).Perm xs:=by
  have h1:=B.map λi=>xs.getD i D.non;refine h1.trans (List.Perm.of_eq ?_);apply aZ
  ·simp
  ·simp_all
 by_cases h2:xs.length<2
 ·rw[if_pos h2]
  match xs,h2,perm with
  | [],_,perm=>exact List.perm_nil.mp perm
  | [x],_,perm=>exact jGj.mp perm
 ·rw[if_neg h2];have C:Ea xs=true:=z.resolve_left h2;refine eq_of_sorted (le:=λa b=>Hc a b=true) (perm.trans (Ek xs).symm) ?_ (El xs) λa ha b hb I G=>?_
  ·rw[uO];intro i j U L F;simp only[GQ,bD]at U L;have aa:=B.size;have h:∀(k:Nat)(z:k<p.size),keyOf (xs.getD p[k] .non)=kk key p k:=λk z=>by
    have hm:p[k]∈p.toList:=by simp
    have r:p[k]<xs.length:=MT.mp (B.mem_iff.mp hm);unfold kk;rw[ZQ z,a_,y p[k] xs[p[k]] (LR r)];simp[r]
   have:=hs i j (aA F) (by omega);simp only[jHa,jGf];unfold Hc;rw[h i U,h j L];have m:Cz (kk key p j) (kk key p i)=false:=this;rw[m];rfl
  ·unfold Hc at I G;rw[ZP]at I G;exact rP C (perm.mem_iff.mp ha) (perm.mem_iff.mp hb) (Fv _ _ G I)
variable {h:CP}{ns:List Int}{us:List A_}
section
variable {a:BJ}
def rQ{vs:List A_}(h:F_ vs ns)(m:i<vs.length):∃t,vs.getD i .none=.int (ns.getD i 0) t:=by obtain⟨t,e⟩:=IntsAre.int_at h i vs[i] (LR m);exact⟨t,by rw[<-e];simp[m]⟩
def je6{vs:List A_}(h:F_ vs ns):Asks (O:=Vh) prog w A s a vs YX λi=>[ns.getD i 0] where
 kind:=λh2 s' Q _ q=>by
  match vs,h2,h with
  |v1::v2::r,_,h=>rw[keyKind_ints h];exact EY q
 less:=λ_ i j s' Q hi hj _ q=>by
  obtain⟨t,Y⟩:=rQ h hi;obtain⟨u,J⟩:=rQ h hj;rw[Y,J];refine kat_lt_int ?_;have e:ltO (O:=Vh) (λi=>[ns.getD i 0]) i j=decide (ns.getD i 0<ns.getD j 0):=by
   show Cz [ns.getD i 0] [ns.getD j 0]=_;rw[Cz];by_cases z:ns.getD i 0=ns.getD j 0
   ·rw[if_pos z,z];simp[Cz]
   ·rw[if_neg z]
  rw[e]at q;exact q s'.toks
def cA(h:CP)(a:BJ)(u:A_)(ns:List Int):Prop:=∃b us,u=.ref b/\b≠a/\OJ h b (RZ us)/\F_ us ns
def cA.keep(x:cA h a u ns)(k:Bu a h h'):cA h' a u ns:=by revert x;refine b_ λb us y z m C=>?_;obtain rfl:=y;revert m;refine Aw λo B r=>?_;exact⟨b,us,rfl,z,⟨o,k b o z B,r⟩,C⟩
inductive Jh(h:CP)(a:BJ):List A_->List (List Int)->Prop
 |nil:Jh h a [] []
 |cons {u:A_} {ns:List Int} {us:List A_} {nss:List (List Int)}:cA h a u ns->ns≠[]->Jh h a us nss->Jh h a (u::us) (ns::nss)
def Jh.keep{h h':CP}(k:Bu a h h'):∀{us:List A_}{m:List (List Int)},Jh h a us m->Jh h' a us m
 |_,_,.nil=>.nil
 |_,_,.cons x n r=>.cons (x.keep k) n (Jh.keep k r)
def Jh.get:∀{us:List A_}{m:List (List Int)},Jh h a us m->∀{i:Nat},i<us.length->cA h a (us.getD i .none) (m.getD i [])
 |_,_,.cons x _ r,0,_=>by simpa using x
 |_,_,.cons _ _ r,i+1,y=>by simpa using r.get (i:=i) (by simpa using y)
theorem Jh.tups:∀{us:List A_}{B:List (List Int)},Jh h a us B->∃y,KatTups h us y/\y.length=us.length/\∀v∈y,∃i t,v=Value.int i t
 |_,_,.nil=>⟨[],KatTups.nil,rfl,λ_ z=>nomatch z⟩
 |_,_,.cons (ns:=ns) x hn r=>by
  obtain⟨y,k,F,hf⟩:=r.tups;obtain⟨b,us,rfl,hb,⟨o,C,L,n,I⟩,G⟩:=x;cases G with
  |nil=>exact absurd rfl hn
  |cons m t hr=>refine⟨.int m t::y,KatTups.cons C L I rfl k,by simp[F],λv U=>?_⟩;grind
def wv8{B:Bool}{Q:Bool->BK->Prop}:∀{us vs:List A_}{ns F:List Int}(i:Nat)(y:Nat),F_ us ns->F_ vs F->(ns.length=F.length->B=false)->(ns.length<F.length->B=true)->(F.length<ns.length->B=false) ->
  (∀y,Q (Cz ns F) {s with toks:=y})->KatLex prog w A true B Q (us.zip vs) i {s with toks:=y}:=by
 intro us vs ns F i y hu;induction hu generalizing vs F i y with
 |nil =>
  intro G Y J Z q;cases G with
  |nil=>have:=Y rfl;subst this;exact q y
  |cons m u r=>have:=J (by simp);subst this;exact q y
 |cons n t r U =>
  intro G Y J Z q;cases G with
  |nil=>have:=Z (by simp);subst this;exact q y
  |cons m u L =>
   refine kat_cons (RC ?_);by_cases e:n=m
   ·rw[show(n == m)=true from beq_iff_eq.mpr e];refine kat_yes (U (i+1) y L (λz=>Y (by simp[z])) (λz=>J (by simpa using z)) (λz=>Z (by simpa using z)) λC=>?_);have:=q C;rw[Cz,if_pos e]at this;exact this
   ·rw[show(n == m)=false from beq_eq_false_iff_ne.mpr e];refine kat_no ?_;have I:∀y,Q (decide (n<m)) {s with toks:=y}:=λC=>by have:=q C;rw[Cz,if_neg e]at this;exact this
    cases hi:(true && i == 0) with
    |true=>exact oneLt_int (I y)
    |false=>exact kat_one _ _ (lt_int (I y))
def Tz(h:F_ us ns):us.length=ns.length:=IntsAre.length h
theorem kp9{vs:List A_}{nss:List (List Int)}(h:Jh s.heap a vs nss):Asks (O:=Vh) prog w A s a vs (tuples' true) λi=>nss.getD i [] where
 kind:=λh2 s' Q k q=>by obtain⟨fs,t,hl,hf⟩:=(h.keep k).tups;refine kat_kind (T:=.type "int") t (by lia) (λv hv=>?_) (by rfl) q;obtain⟨i,tk,rfl⟩:=hf v hv;exact Looks.of_pure rfl
 less:=λ_ i j s' Q hi hj k q=>by
  obtain⟨b,us,Y,_,⟨o,ho,hc,n,hd⟩,h1⟩:=(h.keep k).get hi;obtain⟨b',us',J,_,⟨o',ho',hc',n',hd'⟩,h2⟩:=(h.keep k).get hj;rw[Y,J];refine kat_lt ho hd ho' hd' ?_;have l1:=Tz h1;have l2:=Tz h2;refine wv8 (s:=s') 0 s'.toks h1 h2 (λz=>?_) (λz=>?_) (λz=>?_) q
  ·simp;lia
  ·simp;lia
  ·simp;lia
end
variable {items:Array A_}
section
variable {u:A_}{G:List A_->Prop}
def aW(prog:BW)(w:CQ)(A:D_)(s:BK)(u:A_)(G:List A_->Prop):Prop:=∀(Q:List A_->BK->Prop)(E:A_->BK->Prop),
 (∀vs h' m r,(∀b o,s.heap.get? b=some o->h'.get? b=some o)->vs.length<=sizeLine->G vs->Q vs {s with heap:=h',drawn:=r,toks:=m})->BL (BV prog w) A (cU u) Q E s
def js6{a:BJ}{T:String}{o:GR}(B:T = "list"\/T = "tuple")(r:s.heap.get? a=some o)(z:o.cls=.type T)(y:o.data=.seq items n)(m:items.size<=sizeLine):
  aW prog w A s (.ref a) λvs=>vs=items.toList:=λQ E q=>wpAny_collect_seq a B r z y (λh' k=>q _ h' s.toks s.drawn k (by simpa using m) rfl) m
end
def Qq{d':nU}(I:Inv X pins σ H s)(k:∀b o,s.heap.get? b=some o->h'.get? b=some o):Inv X pins σ H {s with heap:=h',drawn:=d',toks:=t'}:=by
 refine I.step (g':=s.gens) (d':=d') (ch:=[]) (λb C=>nomatch C) (λb o _ _ y e _=>k b o e) (λb o _ _ y e _=>⟨o.slots,k b o e⟩) (λ_ _ _ _ n=>n)
  (λb o y e=>⟨o,k b o e⟩) (λ_ _ e=>e) (λ_ _ _ e=>e) (λb ps e=>⟨#[],by rw[e];simp⟩) (λm B=>?_) (I.hok.kept k) I.bare
 revert B;refine dR λo es F z r=>?_;exact⟨o,es,F,k _ o z,r⟩
theorem ints_of{K:BZ}{H:Hp}{S:AS}:∀{ds:List D}{vs:List V}{us:List A_}{ns:List Int},Al K H S ds vs->Vals vs us->Bj ds=some ns->F_ us ns
 | [],vs,us,ns,h,r,e=>by cases(show vs=[] from h);cases r;cases e;exact .nil
 |d::ds,vs,us,ns,h,r,e=>by
  revert h;refine Bo λv y m C h2=>?_;obtain rfl:=m;cases r with
  |cons B z =>
   cases d with
   |int i =>
    cases(show v=.int i from C);obtain⟨t,Y⟩:=(show ∃t,_=Value.int i t from B);subst Y;cases J:Bj ds with
    |none=>simp[Bj,J]at e
    |some F=>simp[Bj,J]at e;subst e;exact .cons i t (ints_of h2 z J)
   |_=>cases e
theorem ju5:∀{ds:List D},ds.all lM=true->∃ns,Bj ds=some ns/\ns.length=ds.length/\∀i d,ds[i]? = some d->[ns.getD i 0]=keyOf d
 | [],_=>⟨[],rfl,rfl,λi d h=>by simp at h⟩
 |d::ds,h=>by
  rw[ZG,M_]at h;refine Gx (λns e r y=>?_) (ju5 h.2);cases d with
  |int i =>
   refine⟨i::ns,by simp[Bj,e],by simp[r],λj x m=>?_⟩;cases j with
   |zero=>simp at m;subst m;simp[keyOf,aP]
   |succ j=>simpa using y j x (by simpa using m)
  |_=>simp[lM]at h
theorem kn1{X:Cx}{pins:List (BJ×GR)}{σ:St}{H:Hp}{s:BK}{S:AS}{a:BJ}(I:Inv X pins σ H s)(ha:s.heap.objs.size<=a):∀{ds:List D}{vs:List V}{us:List A_},ds.all Sh=true->Al X.K H S ds vs->Vals vs us ->
  ∃m,Jh s.heap a us m/\∀i d,ds[i]? = some d->m.getD i []=keyOf d
 | [],vs,us,_,h,r=>by cases(show vs=[] from h);cases r;exact⟨[],.nil,λi d h=>by simp at h⟩
 |d::ds,vs,us,G,h,r=>by
  rw[ZG,M_]at G;revert h;refine Bo λv U C h1 h2=>?_;obtain rfl:=C;cases r with
  |cons r1 r2 =>
   refine Aw (λm q hk=>?_) (kn1 I ha G.2 h2 r2)
   match d,G.1 with
   | .tup (x::xs),hd =>
    revert h1;refine Bo λb ws z hq rr=>?_;obtain rfl:=z;have Y:_=Value.ref b:=r1;subst Y;refine Gx (λB rv p _=>?_) (I.tuple (TpR.sq hq));cases e:Bj (x::xs) with
    |none=>simp[Sh,e]at hd
    |some ns =>
     have hi:=ints_of rr rv e;have L:ns≠[]:=by rintro rfl;cases x<;>first | (cases J:Bj xs<;>simp[Bj,J]at e) |cases e
     have hb:b≠a:=by revert p;refine Aw λo ho _=>?_;exact MJ (RJ (HX ho) ha)
     refine⟨ns::m,.cons ⟨b,B,rfl,hb,p,hi⟩ L q,λi y F=>?_⟩;cases i with
     |zero=>simp at F;subst F;simp[keyOf,aP,e]
     |succ i=>simpa using hk i y (by simpa using F)
def Jh.push{a:BJ}{o:GR}:∀{us:List A_}{m:List (List Int)},Jh h a us m->Jh (h.push o) a us m:=λx=>x.keep (Bu.push _ _)
def Jz:List D->Option D
 | [d]=>match Jy d with
  |some xs=>if xs.length<64/\(xs.length<2\/Ea xs=true) then some (.lst (if xs.length<2 then xs else srt xs)) else none
  |none=>none
 |_=>none
theorem Vals.getD(r:Vals vs us)(y:i<us.length):RelV (vs.getD i .non) (us.getD i .none):=by
 have m:i<vs.length:=by rw[r.length];exact y
 refine Aw (λu B z=>?_) (r.get (LR m));simp_all
theorem jy9{vs:List V}{us:List A_}(r:Vals vs us):∀(l:List Nat),(∀i∈l,i<us.length)->Vals (l.map λi=>vs.getD i .non) (l.map λi=>us.getD i .none)
 | [],_=>.nil
 |i::l,h=>.cons (Vals.getD r (h i J_)) (jy9 r l λj m=>h j (JB _ m))
theorem jw6{K:BZ}{H:Hp}{S:AS}{ds:List D}{vs:List V}(r:Al K H S ds vs):∀(l:List Nat),(∀i∈l,i<ds.length)->Al K H S (l.map λi=>ds.getD i .non) (l.map λi=>vs.getD i .non)
 | [],_=>Al.nil
 |i::l,h=>by have y:=h i J_;refine Aw (λv B z=>?_) (r.get (LR y));refine .cons ?_ (jw6 r l λj m=>h j (JB _ m));simp_all
section
variable {fs:Ev->R (List D)}
def Sy{S:AS}{Q:VK}{rw:Array Nat}{tk m:Nat}{d':nU}(U:Inv X pins σ H {s with heap:=h',drawn:=d',toks:=tk})
  (I:Al X.K H S xs vs)(G:Vals vs us)(hz:us.length<=sizeLine)(L:Ef us.length rw)(k2:∀b o,h'.get? b=some o->h2.get? b=some o)(J:∃e,h2.get? h'.objs.size=some (KC "list" (RZ (rw.toList.map λi=>us.getD i .none)) e))
  (q:∀a r H',Ad H H'->H a=none->H' a=some (.lst r)->Al X.K H' (AS.but S a) (rw.toList.map λi=>xs.getD i .non) r->Q (.ref a) H'):
  EP X pins σ Q (.ref h'.objs.size) {s with heap:=h2,drawn:=d',toks:=m}:=by
 have y:=I.length;have C:=G.length;have lt:∀i∈rw.toList,i<us.length:=λi F=>MT.mp (L.mem_iff.mp F);have B:H h'.objs.size=none:=U.hok.fresh (GX _);obtain⟨e,J⟩:=J;have I2:Inv X pins σ (upd H h'.objs.size (.lst (rw.toList.map λi=>vs.getD i .non))) {s with heap:=h2,drawn:=d',toks:=m}:=
  U.laid (t':=m) k2 (GX _) ⟨by rw[GQ,bD,L.size];exact hz,_,e,jy9 G _ lt,J⟩
 exact⟨.ref h'.objs.size,_,I2,rfl,q _ _ _ (Av B _) B Ak (((jw6 I _ λi F=>by rw[y,C];exact lt i F).avoid B).mono (Av B _) λ_ z=>z)⟩
end
def Ris(p:Array Nat):Prop:=p.toList.Pairwise (·<·)
theorem Ris.lt{p:Array Nat}(h:Ris p)(m:i<j)(r:j<p.size):p.getD i 0<p.getD j 0:=by have:=uO.mp h i j (by simp;omega) (by simpa using r) m;simpa[Array.getD,r,show i<p.size by omega] using this
def we2{p:Array Nat}(h:i<p.size)(d:Nat):p.getD i d=p.getD i 0:=by simp[Array.getD,h]
theorem Yi{p:Array Nat}{j:Nat}(h:Ris p):∀(f lo m:Nat),m - lo<=f->lo<=m->m<=p.size->(∀i,i<lo->p.getD i 0<j)->(∀i,m<=i->i<p.size->j<=p.getD i 0) ->
  SetTable.below.go p j f lo m<=p.size/\(∀i,i<SetTable.below.go p j f lo m->p.getD i 0<j)/\∀i,SetTable.below.go p j f lo m<=i->i<p.size->j<=p.getD i 0
 |0,lo,m,I,h2,B,z,y=>by
  have e:m=lo:=by omega
  subst e;exact⟨B,z,y⟩
 |f+1,lo,m,I,h2,B,z,y=>by
  unfold SetTable.below.go;by_cases r:lo<m
  ·rw[if_pos r];have C:(lo+m) / 2<p.size:=by omega
   dsimp only;rw[we2 C];by_cases c:p.getD ((lo+m) / 2) 0<j
   ·rw[if_pos c];refine Yi h f _ m (by omega) (by omega) B (λi F=>?_) y;by_cases e:i=(lo+m) / 2
    ·rw[e];exact c
    ·exact ZF (h.lt (by omega) C) c
   ·rw[if_neg c];refine Yi h f lo _ (by omega) (by omega) (by omega) z λi L G=>?_;by_cases e:i=(lo+m) / 2
    ·rw[e];omega
    ·have:=h.lt (i:=(lo+m) / 2) (j:=i) (by omega) G;omega
  ·rw[if_neg r];have e:m=lo:=by omega
   subst e;exact⟨B,z,y⟩
theorem Yj{p:Array Nat}(h:Ris p)(j:Nat):SetTable.below p j<=p.size/\(∀i,i<SetTable.below p j->p.getD i 0<j)/\∀i,SetTable.below p j<=i->i<p.size->j<=p.getD i 0:=
 Yi h p.size 0 p.size (by omega) (by omega) (GX _) (λi z=>by omega) λi m h2=>by omega
theorem yn3{p:Array Nat}{x:Nat}(h:x∈p.toList.take n):∃i,i<n/\i<p.size/\p.getD i 0=x:=by
 obtain⟨i,r,e⟩:=mX.mp h;have m:i<n/\i<p.size:=by simpa[Nat.lt_min] using r
 refine⟨i,m.1,m.2,?_⟩;simp_all
theorem wx0{p:Array Nat}{x:Nat}(h:x∈p.toList.drop n):∃i,n<=i/\i<p.size/\p.getD i 0=x:=by
 obtain⟨i,r,e⟩:=mX.mp h;have m:i<p.size - n:=by simpa using r
 refine⟨n+i,by omega,by omega,?_⟩;rw[<-e];simp[Array.getD,show n+i<p.size by omega]
theorem yb0{p:Array Nat}(h:Ris p)(L:p[SetTable.below p j]? ≠ some j):Ris (SetTable.insertAt p (SetTable.below p j) j):=by
 unfold Ris;rw[SetTable.toList_insertAt];refine gH (λh1 h2 h3=>?_) (Yj h j);rw[List.pairwise_append,List.pairwise_cons];have F:∀x∈p.toList.drop (SetTable.below p j),j<x:=λx C=>by
  refine Gx (λi B r e=>?_) (wx0 C);have:=h3 i B r;by_cases z:i=SetTable.below p j
  ·have m:SetTable.below p j<p.size:=by omega
   rw[ZQ m]at L;have:p.getD (SetTable.below p j) 0=p[SetTable.below p j]:=by simp[Array.getD,m]
   rw[<-e,z];have U:=h3 _ (GX _) m;rw[this]at U ⊢;exact Nat.lt_of_le_of_ne U λq=>L (by rw[<-q])
  ·have h5:=h.lt (i:=SetTable.below p j) (j:=i) (by omega) r;grind
 have G:∀x∈p.toList.take (SetTable.below p j),x<j:=λx C=>by refine Gx (λi B r e=>?_) (yn3 C);rw[<-e];exact h2 i B
 refine⟨h.sublist (jGs _ _),⟨F,h.sublist (List.drop_sublist _ _)⟩,λx C y I=>?_⟩;rcases JN.mp I with rfl |I
 ·exact G x C
 ·exact ZF (G x C) (F y I)
structure cB(t:SetTable):Prop where
 dm:t.dummies = #[]
 ris:t.plain=true->Ris t.place
theorem kk8(j:Nat):SetTable.has #[] j=false:=by unfold SetTable.has;simp
theorem jw3{t:SetTable}(y:t.dummies = #[]){z:Nat->Int}{h:Int}{j:Nat}{d:Option Nat}:∀(f:Nat)(p:SetTable.Probe),p.dummy=none->SetTable.probe.go t z h f p=some (.empty j d)->t.slot j=.empty/\d=none
 |0,p,_,e=>by simp[SetTable.probe.go]at e
 |f+1,p,r,e=>by
  unfold SetTable.probe.go at e;have m:(t.advance p).dummy=none:=by unfold SetTable.advance;split<;>exact r
  split at e
  ·lia
  ·grind [SetTable.slot,kk8]
  ·split at e
   ·cases e
   ·exact jw3 y f _ m e
theorem kg3{t:SetTable}(h:t.slot j=.empty):t.place[SetTable.below t.place j]? ≠ some j:=by grind [SetTable.slot]
def K7(t:SetTable)(n:Nat):cB (t.standIn n):=⟨rfl,λz=>by cases z⟩
theorem ke0{t:SetTable}(T:cB t)(es:Array (Int×A_))(h:Int)(x:A_):cB (j8 t es h x).2.1/\(j8 t es h x).2.1.led=t.led:=by
 unfold j8;split
 ·rename_i slot wd e;dsimp only;unfold SetTable.orStandIn;split
  ·unfold SetTable.freeSlot at e;split at e
   ·rename_i j d z;obtain⟨r,y⟩:=jw3 T.dm _ _ rfl z;subst y;injection e with e;injection e with Y J;have Y:j=slot:=Y;subst Y;refine⟨⟨?_,λm=>?_⟩,rfl⟩
    ·show(if SetTable.has t.dummies j=true then _ else t.dummies) = #[];rw[T.dm,kk8];rfl
    ·exact yb0 (T.ris m) (kg3 r)
   ·cases e
  ·exact⟨K7 _ _,rfl⟩
 ·exact⟨K7 _ _,rfl⟩
def wh5{r:Type}(f:Nat->Option r):∀(l:List Nat),l.Pairwise (·<·)->((l.filterMap λj=>(f j).map λb=>(j,b)).map (·.1)).Pairwise (·<·):=by
 have e:∀l:List Nat,((l.filterMap λj=>(f j).map λb=>(j,b)).map (·.1))=l.filter λj=>(f j).isSome:=by
  intro l;induction l with
  |nil=>rfl
  |cons a l m =>
   cases e:f a with
   |none=>rw[List.filterMap_cons_none (by simp[e]),uM (by simp[e]),m]
   |some b=>rw[List.filterMap_cons_some (by simp[e];rfl),uL (by simp[e]),HH,m]
 intro l y;rw[e];exact y.filter _
def kg0{t t':SetTable}{hs:Array Int}{o:Array Nat}(e:t.relaid hs n=some (t',o)):cB t'/\t'.led=t.led:=by
 unfold SetTable.relaid SetTable.laid at e;cases Y:SetTable.layClean (SetTable.sizeAbove n - 1) hs with
 |none=>rw[Y]at e;cases e
 |some m=>rw[Y]at e;have e:=Option.some.inj e;have J:=(Prod.mk.inj e).1;subst J;exact⟨⟨rfl,λ_=>wh5 _ _ jFy⟩,rfl⟩
theorem jp0{t:SetTable}(es:Array (Int×A_))(n:Nat):cB (PL t es n).2.1/\(PL t es n).2.1.led=t.led:=by
 unfold PL;split
 ·rename_i t' o e;dsimp only;split
  ·exact kg0 e
  ·exact⟨K7 _ _,rfl⟩
 ·exact⟨K7 _ _,rfl⟩
def intOf:A_->Int
 | .int i _=>i
 |_=>0
def Hz(es:Array (Int×A_)):List Int:=es.toList.map λe=>intOf e.2
def Ux(P:BW)(w:CQ)(ns:List Int)(o:GR):Prop:=∃es m t,o.ExactSet/\o.data=.set es m t/\TQ (JD P w) es.toList/\(Hz es).Nodup/\(∀k,k∈Hz es↔k∈ns)/\es.size<JX/\t.fits es.size=true/\cB t /\
 t.led = !w.params.followText "set-order"
theorem ju8{es:List (Int×A_)}(h:TQ (JD P w) es){k:Int}{e:Int×A_}(r:e∈es):(JD P w).is k e.2=true↔intOf e.2=k:=by
 obtain⟨⟨j,m,_⟩,_⟩:=h e r;obtain⟨t,y⟩:=Value.isInt_shape (k:=j) (v:=e.2) m;rw[y];show Value.isInt k (.int j t)=true↔j=k;constructor
 ·grind [Value.isInt_shape]
 ·rintro rfl;exact bJ P w j t
variable {es':Array (Int×A_)}{ep:Nat}
section
variable {a:BJ}
def jc4{es:Array (Int×A_)}(p:es'.toList.Perm es.toList):(Hz es').Perm (Hz es):=p.map _
def km3{o:GR}{es:Array (Int×A_)}{t t':SetTable}(r:s.heap.get? a=some o)(m:o.data=.set es ep t):(s.heap.update a (Obj.putSet es' t')).get? a=some {o with data:=.set es' (ep+1) t'}:=by have:=bG (Obj.putSet es' t') r (by rw[putSet_of es' t' m];rfl);rw[putSet_of es' t' m]at this;exact this
theorem set_tail{o:GR}{es m:Array (Int×A_)}{t y:SetTable}{wd:Bool}{g:Bool->Sem Unit}{R:Option Bool->BK->Prop}(hg:∀(b:Bool)(s1:BK)(Q':Unit->BK->Prop),Q' () s1->BL (BV prog w) A (g b) Q' E s1)
  (ho:s.heap.get? a=some o)(hex:o.ExactSet)(hd:o.data=.set es ep t)(aa:TQ (JD prog w) m.toList)(U:(Hz m).Nodup)(F:∀k,k∈Hz m↔k∈ns)(hb:m.size<JX)(hf:y.fits m.size=true)(hT:cB y)(G:y.led = !w.params.followText "set-order")
  (h:∀h' o',Heap.SameBut a s.heap h'->h'.get? a=some o'->Ux prog w ns o'->(∀C af t2,o'.data=.set C af t2->C.size=m.size)->R (some true) {s with heap:=h'}):
  BL (BV prog w) A (do
   storeSet a m y
   if(!wd && y.tooFull)=true then do
    g (PL y m (SetTable.grown m.size)).2.2
    storeSet a (PL y m (SetTable.grown m.size)).1 (PL y m (SetTable.grown m.size)).2.1
    pure (some true)
   else pure (some true)) R E s:=by
 refine BX (bQ ho hd ?_ (JP hb));have o1:=km3 (es':=m) (t':=y) ho hd;have I:=Heap.SameBut.update s.heap a (Obj.putSet m y);split
 ·have r:=relayAll_perm y m (SetTable.grown m.size);have z:=relayAll_fits y m (SetTable.grown m.size);have B:=jp0 (t:=y) m (SetTable.grown m.size);generalize PL y m (SetTable.grown m.size)=L at r z B ⊢;obtain⟨C,t2,ag⟩:=L;dsimp only at r z B ⊢;have hz:C.size=m.size:=by have:=r.length_eq;simpa using this
  refine BX (hg _ _ _ ?_);refine BX (bQ o1 rfl ?_ (JP (by lia)));refine EY (h _ _ (I.trans (Heap.SameBut.update _ a _)) (km3 (s:={s with heap:=s.heap.update a (Obj.putSet m y)}) o1 rfl) ⟨C,_,t2,hex,rfl,aa.perm r,(jc4 r).nodup_iff.mpr U,λk=>((jc4 r).mem_iff).trans (F k),by lia,z,B.1,B.2.trans G⟩ λab ae t3 e=>by cases e;exact hz)
 ·exact EY (h _ _ I o1 ⟨m,_,y,hex,rfl,aa,U,F,hb,hf,hT,G⟩ λab ae t3 e=>by cases e;rfl)
theorem yb2{k:Int}{U:Tok}{o:GR}{Q:Bool->BK->Prop}(ho:s.heap.get? a=some o)(hS:Ux prog w ns o)(ae:(∀es ep t,o.data=.set es ep t->es.size+1<JX))
  (h:∀b h' o',Heap.SameBut a s.heap h'->h'.get? a=some o'->Ux prog w (k::ns) o'->(∀es ep t es' ay t',o.data=.set es ep t->o'.data=.set es' ay t'->es'.size<=es.size+1)->Q b {s with heap:=h'}):
  BL (BV prog w) A (setAddHashed a (.int k U) (TJ k)) Q E s:=by
 obtain⟨es,ep,t,hex,hd,I,ai,F,hb,hf,hT,G⟩:=hS;have ba:=ae es ep t hd;have aa:(JD prog w).is k (.int k U)=true:=bJ prog w k U;unfold setAddHashed setAddHashedIn;refine HB (BX (JL ho hd hf ?_));dsimp only;rw[byScan_of (knd:=JD prog w) (x:=.int k U) rfl hb I];simp only[if_true];unfold setAddByScan;refine BX ?_;refine BX (wpAny_rule ?_);refine BX (wpAny_setScan_of (knd:=JD prog w) (k:=k) aa ho hd hf I ?_);cases hr:List.findIdx? (λe=>(JD prog w).is k e.2) es.toList with
 |some j =>
  dsimp only;obtain⟨hj,hp,_⟩:=List.findIdx?_eq_some_iff_getElem.mp hr;have ax:k∈Hz es:=I_.mpr ⟨_,fH hj,(ju8 I (fH hj)).mp hp⟩;refine EY (EY ?_);have:=h false s.heap o (Heap.SameBut.refl a s.heap) ho ⟨es,ep,t,hex,hd,I,ai,λk'=>(F k').trans ⟨JB _,λz=>(JN.mp z).elim (λq=>by rw[q];exact(F k).mp ax) id⟩,hb,hf,hT,G⟩ (λC bb t1 af aw t2 Y J=>by
   rw[Y]at J;cases J;lia)
  exact this
 |none =>
  dsimp only;have ah:k∉Hz es:=λz=>by obtain⟨e,he,q⟩:=I_.mp z;grind [List.findIdx,ju8]
  have m:=layNew_perm t es (TJ k) (.int k U);have B:=layNew_fits t es (TJ k) (.int k U);have r:=ke0 hT es (TJ k) (.int k U);generalize j8 t es (TJ k) (.int k U)=L at m B r ⊢;obtain⟨C,t1,wd,ar⟩:=L;dsimp only at m B r ⊢;rw[jGv]at m;have ab:TQ (JD prog w) C.toList:=(I.push (knd:=JD prog w) aa rfl).perm m;have ag:(Hz C).Perm (Hz es++[k]):=by have:=m.map λe:Int×A_=>intOf e.2;rw[N_]at this;exact this
  have aj:(Hz C).Nodup:=ag.nodup_iff.mpr (List.nodup_append.mpr ⟨ai,by simp,λx hx y hy=>by
   rw[PX]at hy;rintro rfl;exact ah (hy ▸ hx)⟩)
  have ak:∀k',k'∈Hz C↔k'∈k::ns:=λk'=>by rw[ag.mem_iff,S_,PX,JN,F,or_comm]
  have az:C.size=es.size+1:=by have:=m.length_eq;simpa using this
  have ao:C.size<JX:=by lia
  have hg:∀(b:Bool){s1:BK}{Q':Unit->BK->Prop},Q' () s1->BL (BV prog w) A (match b with |true=>rule "set.scan.the-table-gave-way" |false=>pure ()) Q' E s1:=λb s1 Q' hq=>by cases b<;>first |exact EY hq |exact wpAny_rule hq
  refine BX (hg ar ?_);have au:∀h' o',Heap.SameBut a s.heap h'->h'.get? a=some o'->Ux prog w (k::ns) o'->(∀af aw t2,o'.data=.set af aw t2->af.size=C.size)->Q true {s with heap:=h'}:=λh' o' x1 x2 x3 x4 =>
   h true h' o' x1 x2 x3 λY p1 q1 J p2 q2 y1 y2=>by simp_all
  split
  ·rw[hashByValue_scannable 8 (x:=.int k U) rfl];refine BX (EY ?_);simp only[plainKind,if_true];exact set_tail (ns:=k::ns) (λb s1 Q' hq=>by cases b<;>first |exact EY hq |exact wpAny_rule hq) ho hex hd ab aj ak ao B r.1 (r.2.trans G) λh' o' x1 x2 x3 x4=>EY (au h' o' x1 x2 x3 x4)
  ·refine BX (EY ?_);simp only[if_true];exact set_tail (ns:=k::ns) (λb s1 Q' hq=>by cases b<;>first |exact EY hq |exact wpAny_rule hq) ho hex hd ab aj ak ao B r.1 (r.2.trans G) λh' o' x1 x2 x3 x4=>EY (au h' o' x1 x2 x3 x4)
end
def Qz:Slot "set_iterator" "__next__" "set_iterator.__next__":=.of (owner:="set_iterator") (n:="__next__") (by rw[gM,YM];kernel_rfl) (by decide +kernel) (by decide +kernel) (by decide +kernel) (by first |exact .inl (by decide +kernel) |exact .inr (by decide +kernel)) (by rw[UL];kernel_rfl)
def Ur(a:A_):YF "set_iterator.__next__" ⟨[a],[]⟩:=by unfold YF;kernel_rfl
def jd6(a:A_):YF "set.__iter__" ⟨[a],[]⟩:=by unfold YF;kernel_rfl
def Rv:nJ table "set_iterator.__next__" = some HS.«set_iterator.__next__»:=entryFor_of_tree (by kernel_rfl)
def jb0:nJ table "set.__iter__" = some HS.«frozenset.__iter__» :=
 nH (id':="frozenset.__iter__") (by kernel_rfl) (by first |rfl |decide +kernel | (unfold String.splitOn;simp +decide [String.splitOnAux])) (by decide +kernel) (by kernel_rfl)
theorem R9{m:Type}:∀{xs:List m}{i:Nat}(h:i<xs.length),(xs[i]::xs.eraseIdx i).Perm xs
 |x::xs,0,_=>.refl _
 |x::xs,i+1,h=>by
  have h':i<xs.length:=by simpa using h
  show(xs[i]::x::xs.eraseIdx i).Perm (x::xs);exact(List.Perm.swap _ _ _).trans (.cons x (R9 h'))
def wp_choose{src:Source}{Q:Nat->BK->Prop}(m:0<n)(h:∀i r,i<n->Q i {s with drawn:=r}):BL M A (choose src n) Q E s:=
 λ_ _ _=>⟨VV m,h _ _ (lX _ m)⟩
theorem Uv{r:Type}:∀(n:Nat)(xs:List r){s:BK}{Q:List r->BK->Prop},n=xs.length->(∀ys y,ys.Perm xs->Q ys {s with drawn:=y})->BL M A (drawOrder n xs) Q E s
 |0,xs,s,Q,e,h=>by
  cases xs with
  |nil=>exact EY (h [] s.drawn (.refl _))
  |cons _ _=>simp at e
 |n+1,[],s,Q,e,h=>by simp at e
 |n+1,x::xs,s,Q,e,h=>by unfold drawOrder;refine BX (wp_choose (by simp) λi y m=>?_);have Y:(x::xs)[i]? = some (x::xs)[i]:=LR m;rw[Y];dsimp only;refine BX (Uv n _ (by rw[jFd m];lia) λys B z=>EY (h _ B ?_));exact(List.Perm.cons _ z).trans (R9 m)
def Vz{Q:Bool->BK->Prop}(h:Q (M.w.params.followText "set-order") s):BL M A setsByText Q E s:=BX (RD (EY h))
theorem ji0{r:Type}(f:Nat->Nat):∀(n k:Nat)(xs:List r)(out:Array r),n=xs.length->(pickOrder.go f n k xs out).toList.Perm (out.toList++xs)
 |0,k,xs,out,e=>by
  cases xs with
  |nil=>unfold pickOrder.go;simp
  |cons _ _=>simp at e
 |n+1,k,xs,out,e=>by unfold pickOrder.go;have m:f k % xs.length<xs.length:=lX _ (by lia);rw[LR m];dsimp only;refine(ji0 f n (k+1) _ _ (by rw[jFd m];lia)).trans ?_;rw[jGv,t_];exact List.Perm.append_left _ (R9 m)
def Z2{m:Type}(f:Nat->Nat)(xs:Array m):(WN f xs).toList.Perm xs.toList:=by have:=ji0 f xs.size 0 xs.toList #[] (by simp);simpa[WN] using this
def iG(w:CQ)(S:BJ)(es:Array (Int×A_))(ep:Nat)(t:SetTable)(h:CP)(first:A_)(i:Nat)(ord:List (Int×A_)):Prop:=
 (w.params.followText "set-order" = true/\(∃m:Nat,first=C_ m)/\ord=(WN (w.params.setOrder S ep) es).toList) \/
 (w.params.followText "set-order" = false/\((!t.plain && decide (es.size>1))=false/\t.led=true/\Ris t.place)/\ord=es.toList/\first=C_ ((if i=0 then 0 else t.place.getD (i - 1) 0+1:Nat):Int)) \/
 (w.params.followText "set-order" = false/\∃(T:BJ)(o:GR)(pl:List Nat)(n:Nat),first=.ref T/\h.get? T=some o/\o.data=.seq (RZ (pl.map λ(k:Nat)=>C_ (k:Int))) n/\pl.length=es.size/\(∀k∈pl,k<es.size)/\ord=pl.map λk=>es.getD k (0,.none))
def SIt(w:CQ)(S I:BJ)(fp:List BJ)(ord:List (Int×A_))(i:Nat)(s:BK):Prop:=∃o es ep t first,s.heap.get? S=some o/\o.data=.set es ep t/\t.fits es.size=true/\ord.length=es.size /\
 s.heap.get? I=some {cls:=.type "set_iterator",data:=.fields #[first,C_ (i:Int),.ref S,C_ (es.size:Int),C_ (ep:Int)] }/\iG w S es ep t s.heap first i ord/\(∀T,first=.ref T->T∈fp)
section
variable {S I:BJ}{r:List (Int×A_)}
theorem jc5{o:GR}{es:Array (Int×A_)}{t:SetTable}{first:A_}{slot:Nat}{Q:Option (A_×Nat)->BK->Prop}(hS:s.heap.get? S=some o)(hd:o.data=.set es ep t)(hf:t.fits es.size=true)(hl:r.length=es.size)(hi:i<=r.length)
  (hm:iG w S es ep t s.heap first i r)(hs:first=C_ (slot:Int))
  (h:∀next:Nat,(i<r.length->iG w S es ep t s.heap (C_ (next:Int)) (i+1) r)->Q ((r[i]?).map λe=>(e.2,next)) s):BL (BV prog w) A (bU S slot i ep) Q E s:=by
 unfold bU;refine BX (JL hS hd hf ?_);dsimp only;refine BX (Vz ?_);rcases hm with ⟨G,_,U⟩ | ⟨G,⟨aa,F,B⟩,U,C⟩ | ⟨G,T,o',pl,n,C,_⟩
 ·rw[show(BV prog w).w.params.followText "set-order" = true from G];simp only[if_true];have Y:(ep != ep)=false:=by simp
  rw[Y];simp only[VJ,if_false];unfold setWalk;refine BX (BX (JL hS hd hf ?_));dsimp only;refine BX (Vz ?_);rw[show(BV prog w).w.params.followText "set-order" = true from G];simp only[if_true];refine BX (RD (EY (EY ?_)));have:=h slot λ_=>.inl ⟨G,⟨slot,rfl⟩,U⟩;rw[U,uK]at this;exact this
 ·rw[show(BV prog w).w.params.followText "set-order" = false from G];simp only[VJ,if_false];show BL _ _ (if(!t.plain && decide (es.size>1))=true then _ else _) _ _ s;rw[aa];simp only[VJ,if_false];show BL _ _ ((if(!t.led && !es.isEmpty)=true then unsupported "set:maker-not-led" else pure ()) >>= _) _ _ s;rw[F];simp only[mH,tR,VJ,if_false];refine BX (EY (EY ?_));have ab:t.place.size=es.size:=by unfold SetTable.fits at hf;simp at hf;exact hf.1
  have m:slot=if i=0 then 0 else t.place.getD (i - 1) 0+1:=by
   rw[hs]at C;have:(slot:Int)=((if i=0 then 0 else t.place.getD (i - 1) 0+1:Nat):Int):=by injection C
   exact Int.ofNat.inj this
  have hb:SetTable.below t.place slot=i:=by
   refine gH (λb1 b2 b3=>?_) (Yj B slot);rcases Nat.lt_trichotomy (SetTable.below t.place slot) i with z |z |z
   ·grind
   ·exact z
   ·have y:=b2 i z;by_cases q:i=0
    ·rw[if_pos q]at m;lia
    ·rw[if_neg q]at m;have:=B.lt (i:=i - 1) (j:=i) (by lia) (by lia);lia
  rw[hb];have:=h (t.place.getD i 0+1) λL=>.inr (.inl ⟨G,⟨aa,F,B⟩,U,by simp⟩);rw[U]at this;by_cases L:i<es.size
  ·have hp:i<t.place.size:=by lia
   rw[ZQ L,ZQ hp];have Y:es.toList[i]? = some es[i]:=by simp[L]
   have J:t.place.getD i 0=t.place[i]:=by simp[Array.getD,hp]
   rw[Y,J]at this;exact this
  ·rw[Array.getElem?_eq_none (by lia)];have Y:es.toList[i]? = none:=by simp;lia
   rw[Y]at this;exact this
 ·rw[C]at hs;cases hs
theorem yb6{Q:Option A_->BK->Prop}(st:SIt w S I fp r i s)(hi:i<r.length)(af:S≠I)(ak:∀T∈fp,T≠I)
  (h:∀h',Heap.SameBut I s.heap h'->SIt w S I fp r (i+1) {s with heap:=h'}->Q (some r[i].2) {s with heap:=h'}):BL (BV prog w) A (JG (.ref I)) Q E s:=by
 revert st;refine gF λo es ep t first hS hd hf hl B hm aa=>?_
 have hT:s.TypeIs (.ref I) "set_iterator":=⟨_,B,rfl⟩;unfold JG;refine BX (IW (DP (name:=Str.ofString "__next__") hT Qz (CZ Qz hT Rv ?_ (Ur _))));show BL _ _ (fieldsOf (.ref I) >>= _) _ _ s;refine BX (PK B rfl ?_);show BL _ _ (aM S >>= _) _ _ s;refine BX (QF hS hd hf ?_);have e0:((es.size:Int) != (es.size:Int))=false:=by simp
 rw[e0];simp only[VJ,if_false];have ai:i<=r.length:=aA hi;by_cases y:∃T,first=.ref T
 ·obtain⟨T,rfl⟩:=y;rcases hm with ⟨_,⟨m,e⟩,_⟩ | ⟨_,_,_,e⟩ | ⟨hw,T',o',pl,n,e,ae,ab,L,G,ho⟩
  ·cases e
  ·cases e
  ·cases e;refine BX (GC ae ab ?_);dsimp only;have U:i<pl.length:=by lia
   have Y:(RZ (pl.map λ(k:Nat)=>C_ (k:Int)))[(i:Int).toNat]? = some (C_ (pl[i]:Int)):=by simp[U]
   rw[Y];show BL _ _ (setNextDrawn S (pl[i]:Int).toNat (ep:Int).toNat >>= _) _ _ s;simp only[bC];have hk:pl[i]<es.size:=G _ (fH U);unfold setNextDrawn;refine BX (BX (JL hS hd hf ?_));dsimp only;rw[show(ep != ep)=false by simp,ZQ hk];simp only[VJ,if_false];refine EY ?_;refine BX (GJ B rfl (by simp) ?_);have F:=Heap.SameBut.update s.heap I (Obj.mapFields (·.setIfInBounds 1 (C_ ((i:Int)+1))));refine EY ⟨_,rfl,EY ?_⟩;have eo:r[i].2=es[pl[i]].2:=by simp_all
   rw[<-eo];refine h _ F ⟨o,es,ep,t,.ref T,(F.2 S af).trans hS,hd,hf,hl,?_,.inr (.inr ⟨hw,T,o',pl,n,rfl,(F.2 T (ak T (aa T rfl))).trans ae,ab,L,G,ho⟩),aa⟩;have:=bG (Obj.mapFields (·.setIfInBounds 1 (C_ ((i:Int)+1)))) B rfl;simpa[Obj.mapFields] using this
 ·obtain⟨m,aj⟩:∃m:Nat,first=C_ (m:Int):=by
   rcases hm with ⟨_,e,_⟩ | ⟨_,_,_,e⟩ | ⟨_,T,_,_,_,e,_⟩
   ·exact e
   ·exact⟨_,e⟩
   ·exact absurd ⟨T,e⟩ y
  subst aj;show BL _ _ (bU S (m:Int).toNat (i:Int).toNat (ep:Int).toNat >>= _) _ _ s;simp only[bC];refine BX (jc5 hS hd hf hl ai hm rfl λnext z=>?_);rw[LR hi];show BL _ _ (YT (.ref I) 0 (C_ (next:Int)) >>= _) _ _ s;refine BX (GJ B rfl (by simp) ?_);have F:=Heap.SameBut.update s.heap I (Obj.mapFields (·.setIfInBounds 0 (C_ (next:Int))));have ag:=bG (Obj.mapFields (·.setIfInBounds 0 (C_ (next:Int)))) B rfl;refine BX (GJ (s:={s with heap:=s.heap.update I (Obj.mapFields (·.setIfInBounds 0 (C_ (next:Int))))}) ag rfl (by simp) ?_);have ah:=Heap.SameBut.update (s.heap.update I (Obj.mapFields (·.setIfInBounds 0 (C_ (next:Int))))) I (Obj.mapFields (·.setIfInBounds 1 (C_ ((i:Int)+1))));have ao:=bG (Obj.mapFields (·.setIfInBounds 1 (C_ ((i:Int)+1)))) ag rfl;refine EY ⟨_,rfl,EY ?_⟩;have C:=F.trans ah;refine h _ C ⟨o,es,ep,t,C_ (next:Int),(C.2 S af).trans hS,hd,hf,hl,?_,?_,λT e=>by cases e⟩
  ·simpa[Obj.mapFields] using ao
  ·rcases z hi with x |x | ⟨_,T,_,_,_,e,_⟩
   ·exact .inl x
   ·exact .inr (.inl x)
   ·cases e
theorem yb5{Q:Option A_->BK->Prop}(hh:A.handled=none)(st:SIt w S I fp r r.length s)(h:∀h',lZ I s.heap h'->Q none {s with heap:=h'}):BL (BV prog w) A (JG (.ref I)) Q E s:=by
 revert st;refine gF λo es ep t first hS hd hf hl z F ag=>?_
 have hT:s.TypeIs (.ref I) "set_iterator":=⟨_,z,rfl⟩;unfold JG;refine BX (IW (DP (name:=Str.ofString "__next__") hT Qz (CZ Qz hT Rv ?_ (Ur _))));show BL _ _ (fieldsOf (.ref I) >>= _) _ _ s;refine BX (PK z rfl ?_);show BL _ _ (aM S >>= _) _ _ s;refine BX (QF hS hd hf ?_);have e0:((es.size:Int) != (es.size:Int))=false:=by simp
 rw[e0];simp only[VJ,if_false];have stop:∀(h1:CP),Heap.SameBut I s.heap h1->BL (BV prog w) A.in1 (XN (.type "StopIteration") [] >>= λe=>(raiseNew e:Sem PySem.Fin)) (λab C=>∃v,ab=PySem.Fin.done (Flow.ret v)/\BL (BV prog w) A (pure (some v)) Q E C)
   (λe C=>BL (BV prog w) A (do if(<-isInstance e (.type "StopIteration"))=true then pure none else throw e) Q E C) {s with heap:=h1}:=λh1 B=>by
  refine BX ?_;simp only[XN,j6];refine BX (CJ ?_ (by size_fits));refine BX (m:=JQ _ _) (RL (a:=Value.none) (by first |rfl | (simp only[JQ];rfl)) ?_);refine CJ ?_ (by size_fits);simp only[raiseNew];refine BX (VM ?_);rw[show A.in1.handled=none from hh];refine BX (EY (YQ ?_));refine BX (JW (T:="StopIteration") (b:=true) ⟨_,K_ _ rfl,rfl⟩ UT ?_);exact EY (h _ ((B.extBut.push _).push _))
 by_cases y:∃T,first=.ref T
 ·obtain⟨T,rfl⟩:=y;rcases F with ⟨_,⟨m,e⟩,_⟩ | ⟨_,_,_,e⟩ | ⟨hw,T',o',pl,n,e,U,L,ae,af,ho⟩
  ·cases e
  ·cases e
  ·cases e;refine BX (GC U L ?_);dsimp only;have Y:(RZ (pl.map λ(k:Nat)=>C_ (k:Int)))[((r.length:Nat):Int).toNat]? = none:=by simp;lia
   rw[Y];refine BX (GJ z rfl (by simp) ?_);have B:=Heap.SameBut.update s.heap I (Obj.mapFields (·.setIfInBounds 0 (C_ 0)));have aa:=bG (Obj.mapFields (·.setIfInBounds 0 (C_ 0))) z rfl;refine BX (GJ (s:={s with heap:=s.heap.update I (Obj.mapFields (·.setIfInBounds 0 (C_ 0)))}) aa rfl (by simp) ?_);exact stop _ (B.trans (Heap.SameBut.update _ I _))
 ·obtain⟨m,G⟩:∃m:Nat,first=C_ (m:Int):=by
   rcases F with ⟨_,e,_⟩ | ⟨_,_,_,e⟩ | ⟨_,T,_,_,_,e,_⟩
   ·exact e
   ·exact⟨_,e⟩
   ·exact absurd ⟨T,e⟩ y
  subst G;show BL _ _ (bU S (m:Int).toNat ((r.length:Nat):Int).toNat (ep:Int).toNat >>= _) _ _ s;simp only[bC];refine BX (jc5 hS hd hf hl (GX _) F rfl λnext _=>?_);rw[fL (GX _)];show BL _ _ (YT (.ref I) 2 Value.none >>= _) _ _ s;refine BX (GJ z rfl (by simp) ?_);exact stop _ (Heap.SameBut.update _ I _)
end
def z8:Slot "set_iterator" "__iter__" "set_iterator.__iter__":=.of (owner:="set_iterator") (n:="__iter__") (by rw[gM,YM];kernel_rfl) (by decide +kernel) (by decide +kernel) (by decide +kernel) (by first |exact .inl (by decide +kernel) |exact .inr (by decide +kernel)) (by rw[UL];kernel_rfl)
def jp4(a:A_):YF "set_iterator.__iter__" ⟨[a],[]⟩:=by unfold YF;kernel_rfl
def jd7:nJ table "set_iterator.__iter__" = some HS.«dict_keyiterator.__iter__» :=
 nH (id':="dict_keyiterator.__iter__") (by kernel_rfl) (by first |rfl |decide +kernel | (unfold String.splitOn;simp +decide [String.splitOnAux])) (by decide +kernel) (by kernel_rfl)
def kr6{t:SetTable}(h:t.fits n=true):t.place.size=n:=by unfold SetTable.fits at h;simp at h;exact h.1
def kw2{p:Array Nat}(h:p.size<=1):Ris p:=by
 unfold Ris;obtain⟨l⟩:=p
 match l,h with
 | [],_=>exact .nil
 | [x],_=>simp
 |x::y::r,h=>simp at h
theorem jz1{S:BJ}{o:GR}{Q:A_->BK->Prop}(hS:s.heap.get? S=some o)(hD:Ux prog w ns o)
  (h:∀(h':CP) d' ord I fp es ep t,o.data=.set es ep t->ord.Perm es.toList->(∀b u,s.heap.get? b=some u->h'.get? b=some u)->s.heap.objs.size<=I->I<h'.objs.size->S≠I->(∀T∈fp,T≠I/\s.heap.objs.size<=T/\T<h'.objs.size)->SIt w S I fp ord 0 {s with heap:=h',drawn:=d'}->Q (.ref I) {s with heap:=h',drawn:=d'}):
  BL (BV prog w) A (T_ (.ref S)) Q E s:=by
 revert hD;refine zj8 λes ep t hex hd ao ak ai hb hf hT aa=>?_;have ab:s.TypeIs (.ref S) "set":=⟨o,hS,hex.1⟩;have af:S<s.heap.objs.size:=HX hS;refine QQ ab F.slot_set_iter (CZ F.slot_set_iter ab jb0 ?_ (jd6 _));show BL _ _ ((do return (<-aM S).size:Sem Nat) >>= _) _ _ s;refine BX (BX (QF hS hd hf (EY ?_)));refine BX (BX (JL hS hd hf ?_));dsimp only;refine BX (Vz (EY ?_));have mk:∀(h1:CP)(d':nU)(first:A_)(ord:List (Int×A_))(fp:List BJ),(∀b u,s.heap.get? b=some u->h1.get? b=some u)->s.heap.objs.size<=h1.objs.size->(∀T∈fp,s.heap.objs.size<=T/\T<h1.objs.size)->(∀T,first=.ref T->T∈fp)->ord.Perm es.toList ->
   (∀h2:CP,(∀b u,h1.get? b=some u->h2.get? b=some u)->iG w S es ep t h2 first 0 ord) ->
   BL (BV prog w) A.in1 (setEpoch S >>= λe=>newFields "set_iterator" [first,C_ 0,.ref S,C_ (es.size:Int),C_ (e:Int)] >>= λv=>ret v) (λah s'=>∃v,ah=PySem.Fin.done (Flow.ret v)/\∃T' r,s'.TypeIs v T'/\aL (.type T') "__next__" = pure (some r)/\Q v s') E {s with heap:=h1,drawn:=d'}:=by
  intro h1 d' first ord fp k1 hz U ag G hm
  refine BX (wpAny_setEpoch_of (k1 _ _ hS) hd hf ?_);unfold newFields;refine BX (CJ ?_ (by size_fits));have hI:(h1.push {cls:=.type "set_iterator",data:=.fields #[first,C_ 0,.ref S,C_ (es.size:Int),C_ (ep:Int)] }).get? h1.objs.size=some {cls:=.type "set_iterator",data:=.fields #[first,C_ 0,.ref S,C_ (es.size:Int),C_ (ep:Int)] }:=K_ _ rfl;refine EY ⟨_,rfl,"set_iterator",_,⟨_,hI,rfl⟩,Qz.lookup,?_⟩;have m:=G.length_eq;refine h _ d' ord h1.objs.size fp es ep t hd G (λb u e=>JK _ (k1 b u e)) hz (by rw[Q_];exact fJ _) (MJ (RJ af hz)) (λT B=>⟨MJ (U T B).2,(U T B).1,by rw[Q_];exact cR (U T B).2⟩) ?_;exact⟨o,es,ep,t,first,JK _ (k1 _ _ hS),hd,hf,by simpa using m,hI,hm _ λb u e=>JK _ e,ag⟩
 have aj:=kr6 hf;have C:w.params.followText "set-order" = false->(!t.plain && decide (es.size>1))=false->iG w S es ep t s.heap (C_ 0) 0 es.toList:=λL y=>.inr (.inl ⟨L,⟨y,by rw[aa,L];rfl,by
  cases G:t.plain with
  |true=>exact hT.ris G
  |false =>
   rw[G]at y;simp at y;exact kw2 (by lia)⟩,rfl,rfl⟩)
 cases L:w.params.followText "set-order" with
 |true=>rw[show(BV prog w).w.params.followText "set-order" = true from L];simp only[mH,tR,VJ,if_false];refine BX (EY ?_);exact mk s.heap s.drawn (C_ 0) (WN (w.params.setOrder S ep) es).toList [] (λ_ _ e=>e) (GX _) (λ_ z=>nomatch z) (λT e=>by cases e) (Z2 _ _) λh2 _=>.inl ⟨L,⟨0,rfl⟩,rfl⟩
 |false =>
  rw[show(BV prog w).w.params.followText "set-order" = false from L];show BL _ _ (if(!false && (!t.plain && decide (es.size>1)))=true then _ else _) _ _ s;cases y:(!t.plain && decide (es.size>1)) with
  |false =>
   simp only[jHk,VJ,if_false];refine BX (EY ?_);refine mk s.heap s.drawn (C_ 0) es.toList [] (λ_ _ e=>e) (GX _) (λ_ z=>nomatch z) (λT e=>by cases e) (.refl _) λh2 _=>?_;rcases C L y with x |x | ⟨_,T,_,_,_,e,_⟩
   ·exact .inl x
   ·exact .inr (.inl x)
   ·cases e
  |true =>
   simp only[jHl,Bool.and_self,if_true];refine BX (Uv es.size _ (by simp) λpl d' G=>?_);have m:pl.length=es.size:=by have:=G.length_eq;simpa using this
   have ae:∀k∈pl,k<es.size:=λk hk=>MT.mp (G.mem_iff.mp hk);refine BX (PJ ?_ (by rw[GQ,m];exact JP hb));refine mk _ d' (.ref s.heap.objs.size) (pl.map λk=>es.getD k (0,.none)) [s.heap.objs.size] (λb u e=>JK _ e) (by rw[Q_];exact iQ _) (λT B=>?_) (λT e=>by cases e;simp) ?_ λh2 k2=>.inr (.inr ⟨L,s.heap.objs.size,_,pl,_,rfl,k2 _ _ (K_ _ rfl),rfl,m,ae,rfl⟩)
   ·rw[PX.mp B,Q_];exact⟨GX _,fJ _⟩
   ·refine(G.map λk=>es.getD k (0,.none)).trans (List.Perm.of_eq ?_);apply aZ
    ·simp
    ·intro i h1 h2;have hi:i<es.size:=by simpa using h1
     simp[Array.getD,hi]
variable {I:BJ}
def wp5{S:BJ}{ord:List (Int×A_)}(hh:A.handled=none)(hSI:S≠I)(hIf:∀T∈fp,T≠I):
  WalksS prog w A I (I::S::fp) [I] (λa b=>b=a) ord.length (λi v=>(ord[i]?).map (·.2)=some v) (λi s=>SIt w S I fp ord i s) where
 sub:=λb hb=>by rw[PX.mp hb];exact J_ ..
 grefl:=λ_=>rfl
 gtrans:=λ_ _ _ h1 h2=>h2.trans h1
 frame:=λi s h' tk st _ k=>by
  revert st;refine gF λo es ep t first hS hd hf hl hI hm hfp=>?_
  refine⟨o,es,ep,t,first,k S (by simp) _ hS,hd,hf,hl,k I (by simp) _ hI,?_,hfp⟩;rcases hm with x |x | ⟨hw,T,o',pl,n,e,hT,r⟩
  ·exact .inl x
  ·exact .inr (.inl x)
  ·exact .inr (.inr ⟨hw,T,o',pl,n,e,k T (JB _ (JB _ (hfp T e))) _ hT,r⟩)
 item:=λi s Q E hi st h=>yb6 st hi hSI hIf λh' sb st'=>h _ _ (by rw[LR hi];rfl) st' ⟨λb o hb e=>sb.extBut b o (λz=>hb (by simp[z])) e,rfl,rfl,rfl,GX _⟩
 done:=λs Q E st h=>yb5 hh st λh' eb=>h _ ⟨λb o hb e=>eb b o (λz=>hb (by simp[z])) e,rfl,rfl,rfl,GX _⟩
 self:=λi s Q E st h=>by
  revert st;refine gF λo es ep t first hS hd hf hl hI hm hfp=>?_
  have hT:s.TypeIs (.ref I) "set_iterator":=⟨_,hI,rfl⟩;refine QQ hT z8 (CZ z8 hT jd7 ?_ (jp4 _));show BL _ _ (ret (.ref I)) _ _ s;exact EY ⟨_,rfl,"set_iterator",_,hT,Qz.lookup,h⟩
def xG(ns:List Int)(vs:List A_):Prop:=∃m:List Int,F_ vs m/\m.Nodup/\(∀k,k∈m↔k∈ns)/\vs.length<JX
def wf1{es:List (Int×A_)}(h:TQ (JD P w) es):F_ (es.map (·.2)) (es.map λe=>intOf e.2):=by
 induction es with
 |nil=>exact .nil
 |cons e es m=>obtain⟨⟨j,r,_⟩,_⟩:=h.head;obtain⟨t,y⟩:=Value.isInt_shape (k:=j) (v:=e.2) r;rw[HH,HH,y];exact .cons j t (m h.tail)
theorem wb2{S:BJ}{o:GR}(hh:A.handled=none)(hS:s.heap.get? S=some o)(hD:Ux prog w ns o):aW prog w A s (.ref S) (xG ns):=by
 intro Q E q;have bf:s.TypeIs (.ref S) "set":=by obtain⟨es,ep,t,hex,_⟩:=hD;exact⟨o,hS,hex.1⟩
 have ay:S<s.heap.objs.size:=HX hS;unfold cU;refine BX (TX (GZ F.entry_proto_collect ?_));rw[Around.under_plainId F.plain_proto_collect _];show BL _ A.in1 (SQ [] >>= λl=>again (.builtin "list.__iadd__" ⟨[l,.ref S],[]⟩)) _ _ s;refine BX (CJ ?_);refine EY ⟨LQ F.plain_list_iadd _,GZ F.entry_list_iadd ?_⟩;rw[Around.under_plainId F.plain_list_iadd _];generalize eh:s.heap.push {cls:=.type "list",data:=.seq ([]:List A_).toArray}=h1;have k1:∀b u,s.heap.get? b=some u->h1.get? b=some u:=λb u e=>by rw[<-eh];exact JK _ e
 have aw:h1.objs.size=s.heap.objs.size+1:=by rw[<-eh,Q_]
 have hL:h1.get? s.heap.objs.size=some {cls:=.type "list",data:=.seq #[] 0}:=by rw[<-eh];exact K_ _ rfl
 have bg:s.heap.objs.size≠S:=VV ay;show BL _ A.in1 (Builtin.List.listExtendWith (.ref s.heap.objs.size) (.ref S) (.ref s.heap.objs.size)) _ _ {s with heap:=h1};unfold Builtin.List.listExtendWith;have G:Shared.TypeIs {s with heap:=h1} (.ref S) "set":=by obtain⟨o',L,U⟩:=bf;exact⟨o',k1 _ _ L,U⟩
 refine BX (QM G ?_);have Y:Builtin.List.listSameRef (.ref s.heap.objs.size) (.ref S)=false:=by simp[Builtin.List.listSameRef,bg]
 rw[if_neg (by rw[Y];decide)];refine BX (jz1 (s:={s with heap:=h1}) (k1 _ _ hS) hD λh2 d' ord I fp es ep t hd hp k2 bo bx bh ba st=>?_);have y:Shared.TypeIs {s with heap:=h2,drawn:=d'} (.ref S) "set":=by obtain⟨o',L,U⟩:=G;exact⟨o',k2 _ _ L,U⟩
 have ao:s.heap.objs.size+1<=I:=by rw[<-aw];exact bo
 refine BX (HB ?_);unfold Builtin.List.listLengthHint;refine BX (fQ y F.slot_set_len.lookup ?_);generalize af:("set.__len__" : String)=au
 wp_delta
 rw[show splitId au=some ("set","__len__") from by subst af;decide +kernel];subst af;refine BX (JW (b:=true) y (by rw[UL];kernel_rfl) ?_);refine RV (λz=>absurd z (by decide)) (λ_=>?_);refine RV (λ_=>?_) (λz=>absurd (by decide +kernel) z);refine BX (QM y (EY ?_));refine RV (λ_=>?_) (λz=>absurd (by decide +kernel) z);refine BX (wpAny_rule ?_);have ak:h2.get? s.heap.objs.size=some {cls:=.type "list",data:=.seq #[] 0}:=k2 _ _ hL;have bw:s.heap.objs.size≠I:=MJ (RJ (fJ _) ao);have ah:s.heap.objs.size∉I::S::fp:=λz=>by grind
 have hW:WalksS prog w A.in1 I (I::S::fp) [I] (λa b=>b=a) ord.length (λi v=>(ord[i]?).map (·.2)=some v) (λi s=>SIt w S I fp ord i s):=wp5 (A:=A.in1) (by simpa using hh) bh λT hT=>(ba T hT).1;refine BX ?_;show BL _ _ (updateSeq s.heap.objs.size (·.push .none) >>= λ_=>updateSeq s.heap.objs.size (·.pop)) _ _ _;refine BX (fP (s:={s with heap:=h2,drawn:=d'}) ak rfl ?_);have aj:=bG (Obj.mapSeq (·.push Value.none)) ak rfl;refine fP (s:={s with heap:=h2.update s.heap.objs.size (Obj.mapSeq (·.push Value.none)),drawn:=d'}) aj rfl ?_ (by show(#[]:Array A_).size+1<=_;rw[CG];simp) (by show 0<=_;exact RX _);have ai:=bG (Obj.mapSeq (·.pop)) aj rfl;generalize bp:(h2.update s.heap.objs.size (Obj.mapSeq (·.push Value.none))).update s.heap.objs.size (Obj.mapSeq (·.pop))=h3 at ai;have k3:∀b u,b≠s.heap.objs.size->h2.get? b=some u->h3.get? b=some u:=λb u n e=>by rw[<-bp];exact(m5 _ _ (Ne.symm n)).trans ((m5 _ _ (Ne.symm n)).trans e)
 have ar:SIt w S I fp ord 0 {s with heap:=h3,drawn:=d'}:=hW.frame 0 _ h3 s.toks st (GX _) λb hb u e=>k3 b u (λz=>ah (z ▸ hb)) e;obtain⟨es',cb,t',hex,bc,bb,ax,ae,hb,hf,hT,bq⟩:=hD;rw[bc]at hd;cases hd;have m:ord.length=es.size:=by simpa using hp.length_eq
 refine EY ⟨LQ F.plain_extend_loop _,codeAny_extend_loopS hW (by rw[m];exact JP hb) _ ah _ ord.length 0 _ _ _ rfl (RX _) ar ai (ItemsOf.nil _) λs' B c' hm bj r=>?_⟩;show BL _ A (load s.heap.objs.size >>= _) _ _ s';refine BX (aH bj ?_);have ev:B.toList=ord.map (·.2):=by
  apply List.ext_getElem?;intro i;by_cases hi:i<ord.length
  ·have az:i<B.size:=by rw[r.1];exact hi
   have:=r.2 i B[i] (ZQ az);simp_all
  ·rw[fL (by rw[bD,r.1];lia),fL (by rw[GQ];lia)]
 have aa:∀b u,s.heap.get? b=some u->s'.heap.get? b=some u:=λb u e=>by
  have C:b<s.heap.objs.size:=HX e;refine hm.heap b u (λz=>?_) (k3 b u (MJ C) (k2 _ _ (k1 b u e)));rcases JN.mp z with z |z
  ·exact MJ C z
  ·grind
 have eqs:s' = {s with heap:=s'.heap,drawn:=d',toks:=s'.toks}:=by obtain⟨_,hg,bu,ho,_⟩:=hm;obtain⟨h',g',d2,br,bt⟩:=s';lia
 refine EY ?_;rw[eqs,ev];have ag:TQ (JD prog w) ord:=bb.perm hp;have ab:(ord.map λe=>intOf e.2).Perm (Hz es):=hp.map _;exact q _ _ _ _ aa (by rw[GQ,m];exact JP hb) ⟨_,wf1 ag,ab.nodup_iff.mpr ax,λk=>ab.mem_iff.trans (ae k),by rw[GQ,m];exact hb⟩
def O3(led:Bool):GR:={cls:=.type "set",dict:=none,data:=.set #[] 0 (.fresh 0 0 led)}
def kc4:Ux prog w [] (O3 (!w.params.followText "set-order")):=
 ⟨#[],0,_,⟨rfl,rfl,rfl⟩,rfl,λe m=>by simp at m,by simp[Hz],λk=>by simp[Hz],by decide,(by show(SetTable.fresh 0 0 _).fits 0=true;cases w.params.followText "set-order" <;> decide),⟨rfl,λ_=>.nil⟩,rfl⟩
def wx4(a:A_){Q:A_->BK->Prop}(h:Q (.ref s.heap.objs.size) {s with heap:=s.heap.push (O3 (!w.params.followText "set-order"))}):
  JS (BV prog w) A (.call (.builtin "set.__new__") ⟨[.type "set",a],[]⟩) (wants Q E) s:=by
 refine jD ?_;show BL _ A.in1 (checkBuiltinCall "set.__new__" ⟨[.type "set",a],[]⟩ >>= λ_=>again (.builtin "set.__new__" ⟨[.type "set",a],[]⟩)) _ _ s;refine BX (RL (F.newCall_set_1 a) (EY ⟨LQ F.plain_set_new _,GZ F.entry_set_new ?_⟩));rw[Around.under_plainId F.plain_set_new _];unfold HS.«set.__new__» Builtin.Frozenset.newClass;have sub:=sub_set_self;obtain⟨y,g,d,m,r⟩:=s;dsimp only
 wp_walk
 refine RD (EY ?_);dsimp only;simp only[newObj];refine BX (wpAny_alloc (EY ?_));exact EY h
theorem wm2{R:YG->BK->Prop}{wr:List BJ}{G:Array ZV->Array ZV->Prop}{P:Nat->A_->Prop}{St:Nat->BK->Prop}(W:WalksS prog w A.in1 I fp wr G n P St)(S:BJ)(L:S∉fp)(val:Nat->Int)(y:∀i v,P i v->∃t,v=.int (val i) t)(r:n+1<JX):
  ∀(k i:Nat)(s:BK)(o:GR),n - i=k->i<=n->St i s->s.heap.get? S=some o->Ux prog w ((List.range i).map val).reverse o->(∀es ep t,o.data=.set es ep t->es.size<=i) ->
   (∀m o',Moved (S::wr) G s m->m.heap.get? S=some o'->Ux prog w ((List.range n).map val).reverse o'->R (.ok (.ret .none)) m)->JS (BV prog w) A (.builtin "set.update.loop" ⟨[.ref S,.ref I],[]⟩) R s:=by
 have C:S∉wr:=λh=>L (W.sub _ h);have sub:∀b∈wr,b∈S::wr:=λb r=>JB _ r;intro k;induction k with
 |zero =>
  intro i s o hk hi st ho U hz hR;have e:i=n:=by lia
  subst e;refine GZ PyProof.Rows.F.entry_set_update_loop ?_;rw[Around.under_plainId PyProof.Rows.F.plain_set_update_loop _];show BL _ A.in1 (JG (.ref I) >>= _) _ _ s;exact BX (W.done s _ _ st λm B=>EY (hR m o (B.mono sub) (B.heap S _ C ho) U))
 |succ k ih =>
  intro i s o hk hi st ho U hz hR;have lt:i<n:=by lia
  refine GZ PyProof.Rows.F.entry_set_update_loop ?_;rw[Around.under_plainId PyProof.Rows.F.plain_set_update_loop _];show BL _ A.in1 (JG (.ref I) >>= _) _ _ s;refine BX (W.item i s _ _ lt st λv m hP aa B=>?_);obtain⟨t,rfl⟩:=y i v hP;have af:=B.heap S _ C ho;show BL _ A.in1 (QV [Value.int (val i) t] (setAdd S (.int (val i) t)) >>= _) _ _ m;refine BX (HB ?_);unfold setAdd;refine HB (BX ((JD prog w).pyHash (k:=val i) (bJ _ _ _ _) ?_));refine yb2 (s:={m with toks:=m.toks+1}) af U (λes ep tb hd=>by have:=hz es ep tb hd;lia) λb h' o2 sb ae aj ak=>?_;have ai:Ux prog w ((List.range (i+1)).map val).reverse o2:=by rw[mQ,N_,List.reverse_append];exact aj
  refine EY ⟨LQ PyProof.Rows.F.plain_set_update_loop _,ih (i+1) _ o2 (by lia) lt (W.frame _ m _ _ aa (iQ _) λb r u e=>(sb.2 b λz=>L (z ▸ r)).trans e) ae ai (λes ep tb hd=>?_) λs2 o3 ag ab ah=>?_⟩
  ·revert U;refine gG λar au t0 _ ao _=>?_;grind
  ·refine hR s2 o3 (Moved.trans W.gtrans ((B.mono sub).then_heap (iQ _) λb u r e=>?_) ag) ab ah;exact(sb.2 b λz=>r (by rw[z];exact J_ ..)).trans e
theorem wa6{l:BJ}{Q:A_->BK->Prop}(hh:A.handled=none)(hl:s.heap.IsList l items)(hi:F_ items.toList ns)(hb:items.size+1<JX)
  (h:∀(h':CP)(tk:Nat)(o:GR),h'.get? s.heap.objs.size=some o->Ux prog w ns o->(∀b u,s.heap.get? b=some u->h'.get? b=some u)->Q (.ref s.heap.objs.size) {s with heap:=h',toks:=tk}):
  BL (BV prog w) A (call (.type "set") [.ref l]) Q E s:=by
 obtain⟨c,tl,ar⟩:=F.called_set.mro;have made:=F.called_set.made;have aw:=F.called_set.sub;refine aJ (jD ?_);show BL _ _ (callAny (.type "set") _) _ _ _;refine EY ⟨Code.quiet_builtin _ (by decide +kernel),GZ F.entry_type_call ?_⟩;rw[Around.under_plain (weight_type_call_type "set" [.ref l] []) rfl];have a1:=F.called_set.notType;have a2:=F.called_set.canCreate;have a3:=F.typeCall_set_1 (.ref l)
 repeat (any_goals (first |assumption |wp_step))
 refine JR (wx4 (.ref l) (E:=E) (Q:=λobj s1=>obj=.ref s.heap.objs.size/\s1 = {s with heap:=s.heap.push (O3 (!w.params.followText "set-order"))}) ⟨rfl,rfl⟩) λr s' hr=>?_;cases r with
 |error e=>exact hr
 |ok fl =>
  cases fl with
  |ret obj =>
   obtain⟨rfl,rfl⟩:=hr;generalize eh:s.heap.push (O3 (!w.params.followText "set-order"))=y;have k1:∀b u,s.heap.get? b=some u->y.get? b=some u:=λb u e=>by rw[<-eh];exact JK _ e
   have ah:y.objs.size=s.heap.objs.size+1:=by rw[<-eh,Q_]
   have g1:y.get? s.heap.objs.size=some (O3 (!w.params.followText "set-order")):=by rw[<-eh];exact K_ _ rfl
   have hT:Shared.TypeIs {s with heap:=y} (.ref s.heap.objs.size) "set":=⟨_,g1,rfl⟩;have b1:=F.called_set.init.lookup;have b2:=F.called_set.init.bind (.ref s.heap.objs.size);clear eh
   repeat (any_goals (first |assumption |wp_step))
   refine JR (codeAny_call_builtin (R:=wants (λr s2=>r=.none/\∃h' tk o,s2 = {s with heap:=h',toks:=tk}/\h'.get? s.heap.objs.size=some o/\Ux prog w ns o/\∀b u,s.heap.get? b=some u->h'.get? b=some u) E) F.called_set.init.plain F.entry_set_init (check_set_init_1 hT ?_)) λr2 s2 m=>?_
   ·obtain⟨ol,B,U,nl,L⟩:=hl;obtain⟨ao,af,ag,aa⟩:=ol;simp only at U L;subst U L;have z:=k1 _ _ B;have c1:=F.sub_list_set;have c2:=F.sub_list_frozenset;have c3:(Value.type "list" == Value.type "dict")=false:=by decide
    have G:y.IsList l items:=⟨_,z,rfl,nl,rfl⟩;unfold HS.«set.__init__» noKeywords Builtin.Frozenset.updateFrom;generalize ak:T_=PI
    wp_walk
    subst ak;refine JM G (BX (TX ?_));have aj:l<s.heap.objs.size:=HX B;have d1:A.in1.in1.in1.handled=none:=by simp[hh]
    have d2:l≠y.objs.size:=by rw[ah];exact MJ (cR aj)
    have d3:s.heap.objs.size∉[y.objs.size,l]:=by grind
    have d4:∀(i:Nat)(v:A_),items[i]? = some v->∃t,v=.int ((λi=>ns.getD i 0) i) t:=λi v hv=>IntsAre.int_at hi i v (by rw[uK];exact hv);refine wm2 ((Walks.list d1 _ l d2 items).toS) s.heap.objs.size d3 (λi=>ns.getD i 0) d4 hb (items.size - 0) 0 _ _ (by lia) (RX _) ⟨⟨_,K_ _ rfl,rfl,rfl⟩,G.push _⟩ (JK _ g1) kc4 (λes ep t e=>by cases e;exact RX _) λs' o' hm ai hD=>?_;have en:((List.range items.size).map λi=>ns.getD i 0)=ns:=by
     have C:ns.length=items.size:=by have:=IntsAre.length hi;simp_all
     rw[<-C];apply aZ
     ·simp
     ·simp_all
    rw[en]at hD;obtain⟨h',g',d',ab,ae⟩:=s';have x1:g'=s.gens:=hm.gens;have x2:d'=s.drawn:=hm.drawn;have x3:ae=s.os:=hm.os;subst x1 x2 x3;show BL _ _ _ _ _ _;refine EY ?_;show BL _ _ (ret Value.none) _ _ _;refine EY ⟨rfl,h',ab,o',rfl,ai,?_,λb u e=>?_⟩
    ·obtain⟨es,ep,t,Y,J,Z,e4,e5,e6⟩:=hD;exact⟨es,ep,t,Y,J,Z,e4,λk=>(e5 k).trans (by simp),e6⟩
    ·have au:b<s.heap.objs.size:=HX e;refine hm.heap b u ?_ (JK _ (k1 b u e));grind
   ·cases r2 with
    |error e=>exact m
    |ok f2 =>
     cases f2 with
     |ret r3 =>
      obtain⟨rfl,h',tk,o,rfl,g2,hD,k2⟩:=m
      repeat (any_goals (first |assumption |wp_step))
      exact h _ _ o g2 hD k2
     |_=>exact m.elim
  |_=>exact hr.elim
def eZ(P:BW)(w:CQ)(a:BJ)(ns:List Int)(h:CP):Prop:=∃o,h.get? a=some o/\Ux P w ns o
def K5:List D->Option (List Int)
 | [.lst xs]=>if xs.length<64 then Bj xs else none
 |_=>none
def Oi:List Int->List Int
 | []=>[]
 |x::xs=>if x∈xs then Oi xs else x::Oi xs
theorem Gm(k:Int):∀xs,k∈Oi xs↔k∈xs
 | []=>Iff.rfl
 |x::xs=>by
  unfold Oi;by_cases h:x∈xs
  ·rw[if_pos h,Gm k xs,JN];exact⟨.inr,λz=>z.elim (λe=>e ▸ h) id⟩
  ·rw[if_neg h,JN,JN,Gm k xs]
theorem G9:∀xs,(Oi xs).Nodup
 | []=>.nil
 |x::xs=>by
  unfold Oi;by_cases h:x∈xs
  ·rw[if_pos h];exact G9 xs
  ·rw[if_neg h];exact R_.mpr ⟨λz=>h ((Gm x xs).mp z),G9 xs⟩
theorem jt1:∀xs,(Oi xs).length<=xs.length
 | []=>GX _
 |x::xs=>by unfold Oi;have:=jt1 xs;grind
def dF(ns:List Int):List D:=srt ((Oi ns).map .int)
theorem Vc:∀r:List Int,Bj (r.map .int)=some r
 | []=>rfl
 |m::r=>by simp[Bj,Vc r]
theorem jg9:∀{xs:List D}{ns:List Int},Bj xs=some ns->ns.length=xs.length
 | [],ns,h=>by cases h;rfl
 |d::xs,ns,h=>by
  cases d with
  |int i =>
   cases e:Bj xs with
   |none=>simp[Bj,e]at h
   |some m=>simp[Bj,e]at h;subst h;simp[jg9 e]
  |_=>cases h
theorem Mg{K:BZ}{H:Hp}{S:AS}:∀r:List Int,Al K H S (r.map .int) (r.map V.int)
 | []=>Al.nil
 |m::r=>.cons rfl (Mg r)
theorem J3:∀{us:List A_}{m:List Int},F_ us m->Vals (m.map V.int) us
 |_,_,.nil=>.nil
 |_,_,.cons n t h=>.cons ⟨t,rfl⟩ (J3 h)
def Vf(m:List Int):Ea (m.map D.int)=true:=by unfold Ea;rw[cM];refine .inl ?_;rw[List.all_map];exact QL.mpr λ_ _=>rfl
theorem Wy{ys:List D}(r:Ea xs=true)(p:ys.Perm xs):srt ys=srt xs:=by refine eq_of_sorted (le:=λa b=>Hc a b=true) ((Ek ys).trans (p.trans (Ek xs).symm)) (El ys) (El xs) λa z b y m h2=>?_;unfold Hc at m h2;grind [ZP,rP,Ek,Fv]
theorem jj1(h:xs.length<2):srt xs=xs:=by
 match xs,h with
 | [],_=>exact List.mergeSort_nil
 | [x],_=>exact List.mergeSort_singleton x
def ze2(K:BZ)(P:BW)(w:CQ):List V->Hp->VK->Prop:=λxs H Q=>∃S ds ns,Al K H S ds xs/\K5 ds=some ns/\∀a,H a=none->Q (.ref a) (upd H a (.ext (eZ P w a ns)))
def ze3(K:BZ)(P:BW)(w:CQ):List V->Hp->VK->Prop:=λxs H Q=>∃a ns,xs=[.ref a]/\H a=some (.ext (eZ P w a ns))/\ns.length<64/\∀b ws H',Ad H H'->H b=none->H' b=some (.lst ws)->(∀S,Al K H' S (dF ns) ws)->Q (.ref b) H'
variable {pos2:HY}
section
variable {fs:Ev->R (List D)}
theorem wZ(hc:X.calm=true):Dh X (.type "set") (ze2 X.K X.prog X.w):=by
 rintro pins s σ H ys us Q I r ⟨S,ds,ns,rs,e,q⟩;obtain⟨U,rfl⟩:=inv1 e rfl (λx _ _=>by cases x<;>rfl);cases U with
 |lst xs =>
  have e':(if xs.length<64 then Bj xs else none)=some ns:=e;by_cases C:xs.length<64
  ·rw[if_pos C]at e';obtain⟨v,rfl,a,vs,rfl,ha,z⟩:=rs.one;obtain⟨u,rfl,ru⟩:=vals1 r;cases ru;obtain⟨aa,y,pl,_⟩:=I.list ha.sq;have l1:=z.length;have l2:=y.length;refine wa6 (I.ok.hd hc) pl.isList (ns:=ns) (by simpa using ints_of z y e') (by rw[MK];unfold JX;lia) λh' m o F hD k=>?_;have hf:H s.heap.objs.size=none:=I.hok.fresh (GX _);have I2:Inv X pins σ (upd H s.heap.objs.size (.ext (eZ X.prog X.w s.heap.objs.size ns))) {s with heap:=h',toks:=m}:=
    I.laid (t':=m) k (GX _) ⟨⟨o,F,hD⟩,⟨o,F⟩,λh1 h2 ⟨B,L,G⟩ kk=>⟨B,kk B L,G⟩⟩
   exact⟨.ref s.heap.objs.size,_,I2,rfl,q _ hf⟩
  ·rw[if_neg C]at e';cases e'
 |_=>exact nos e
def Dn(xs:List D):Option D:=(K5 xs).map λns=>.lst (dF ns)
def jd9{d:D}(h:bA fs Dn ρ=.ok d):∃ds,d=.lst ds:=by
 unfold bA at h;cases Y:fs ρ with
 |ok xs =>
  rw[Y]at h;simp only[R.ok_bind,Dn]at h;cases J:K5 xs with
  |none=>rw[J]at h;cases h
  |some ns=>rw[J]at h;cases h;exact⟨_,rfl⟩
 |exc _=>rw[Y]at h;cases h
 |bad=>rw[Y]at h;cases h
theorem kg4:∀ρ d,bA fs Jz ρ=.ok d->∃ds,d=.lst ds:=λρ d h=>by
 unfold bA at h;cases Y:fs ρ with
 |ok xs =>
  rw[Y]at h;simp only[R.ok_bind]at h
  match xs,h with
  | [x],h =>
   unfold Jz at h;dsimp only at h;cases J:Jy x with
   |none=>rw[J]at h;cases h
   |some ys =>
    rw[J]at h;dsimp only at h;split at h
    ·cases h;exact⟨_,rfl⟩
    ·cases h
  | [],h=>cases h
  |_::_::_,h=>cases h
 |exc _=>rw[Y]at h;cases h
 |bad=>rw[Y]at h;cases h
end
def YZ:List D->Option (Int×Int)
 | [.int j]=>if -(2 ^ 62)<=j/\j<2 ^ 62/\j<=16777216 then some (0,j) else none
 | [.int i,.int j]=>if -(2 ^ 62)<=i/\i<2 ^ 62/\-(2 ^ 62)<=j/\j<2 ^ 62/\j - i<=16777216 then some (i,j) else none
 |_=>none
def Vr(i j:Int):List Int:=(List.range (j - i).toNat).map λ(k:Nat)=>i+(k:Int)
def list_rangeD(xs:List D):Option D:=(YZ xs).map λq=>.lst ((Vr q.1 q.2).map .int)
def J1(xs:List D):Option D:=(YZ xs).map λq=>.tup ((Vr q.1 q.2).map .int)
theorem Zh{a:Int}{acc:Array A_}(h:ItemsOf (λi v=>∃t,v=.int (a+i * 1) t) acc n):F_ acc.toList ((List.range n).map λ(k:Nat)=>a+(k:Int)):=by
 have gen:∀(vs:List A_)(o:Nat),(∀i v,vs[i]? = some v->∃t,v=Value.int (a+((o+i:Nat):Int)) t)->F_ vs ((lY o vs.length).map λ(k:Nat)=>a+(k:Int)):=by
  intro vs;induction vs with
  |nil=>intro o _;exact .nil
  |cons v vs r =>
   intro o m;obtain⟨t,rfl⟩:=m 0 v rfl;rw[PQ,t7,HH];exact .cons _ t (r (o+1) λi u y=>by
    obtain⟨t',e⟩:=m (i+1) u (by simpa using y);exact⟨t',by rw[e,show o+(i+1)=o+1+i by lia]⟩)
 have:=gen acc.toList 0 λi v m=>by obtain⟨t,e⟩:=h.2 i v (by simpa using m);simp_all
 rw[bD,h.1,<-jGg]at this;exact this
theorem Z9{m:Int}:Builtin.Range.rangeSize lo m 1=(((m - lo).toNat:Nat):Int):=by rw[rangeSize_one];split<;>lia
theorem ka8{r:BJ}{z:Int}{t u v:Tok}(hh:A.handled=none)(hr:IsRange s.heap r lo z 1 t u v)(h1:-(2 ^ 62)<=lo)(h2:lo<2 ^ 62)(h3:-(2 ^ 62)<=z)(h4:z<2 ^ 62)(h5:z - lo<=16777216):
  aW prog w A s (.ref r) λvs=>F_ vs (Vr lo z):=by
 intro Q E q;unfold cU;refine BX (TX (GZ F.entry_proto_collect ?_));rw[Around.under_plainId F.plain_proto_collect _];show BL _ A.in1 (SQ [] >>= λl=>again (.builtin "list.__iadd__" ⟨[l,.ref r],[]⟩)) _ _ s;refine BX (CJ ?_);refine EY ⟨LQ F.plain_list_iadd _,GZ F.entry_list_iadd ?_⟩;rw[Around.under_plainId F.plain_list_iadd _];show BL _ A.in1 (Builtin.List.listExtendWith (.ref s.heap.objs.size) (.ref r) (.ref s.heap.objs.size)) _ _ _;have key:=wpAny_extend_range (prog:=prog) (w:=w) (A:=A) (s:={s with heap:=s.heap.push {cls:=.type "list",data:=.seq ([]:List A_).toArray} })
  (R:=λx y=>x=.ok (.ret (.ref s.heap.objs.size))/\∃(h':CP)(B:Nat)(acc:Array A_)(c:Nat),y = {s with heap:=h',toks:=B}/\(∀b o,s.heap.get? b=some o->h'.get? b=some o)/\h'.get? s.heap.objs.size=some {cls:=.type "list",dict:=none,data:=.seq acc c,slots:=#[] }/\ItemsOf (λi v=>∃t,v=.int (lo+i * 1) t) acc (z - lo).toNat)
  hh (JK _ hr) (dC h1 h2 h3 h4) (n:=(z - lo).toNat) Z9 (by lia) s.heap.objs.size (.ref s.heap.objs.size) 0 (K_ _ rfl) λh' B G c' k U m=>⟨rfl,h',B,G,c',rfl,λb o e=>k b o (MJ (HX e)) (JK _ e),U,m⟩
 have C:∀y,(∃(h':CP)(B:Nat)(acc:Array A_)(c:Nat),y = {s with heap:=h',toks:=B}/\(∀b o,s.heap.get? b=some o->h'.get? b=some o)/\h'.get? s.heap.objs.size=some {cls:=.type "list",dict:=none,data:=.seq acc c,slots:=#[] }/\ItemsOf (λi v=>∃t,v=.int (lo+i * 1) t) acc (z - lo).toNat) ->
   BL (BV prog w) A (load s.heap.objs.size >>= λo=>match o.data with | .seq xs _=>pure xs.toList |_=>unsupported "internal:collect") Q E y:=by
  rintro y ⟨h',B,acc,c,rfl,k,U,m⟩;refine BX (aH U ?_);exact EY (q _ _ B s.drawn k (by rw[bD,m.1,CG];lia) (Zh m))
 refine GK key (λf y h=>?_) (λe y h=>absurd h.1 (by simp));cases f with
 |done g=>obtain⟨e,h⟩:=h;cases e;exact C y h
 |again c'=>exact⟨h.1,JR h.2 λx s2 L=>by
   obtain⟨rfl,L⟩:=L;exact C s2 L⟩
variable {G:List A_->Prop}
def aW.use{Q:List A_->BK->Prop}(r:aW prog w A s u G)(h:∀vs h' m y,(∀b o,s.heap.get? b=some o->h'.get? b=some o)->vs.length<=sizeLine->G vs->Q vs {s with heap:=h',drawn:=y,toks:=m}):BL (BV prog w) A (cU u) Q E s:=r Q E h
def jv3{T:String}(hT:(Value.type T == Value.type "tuple")=false):Meets (HS.«tuple.__new__» ⟨[.type "tuple",u],[]⟩)
  (λA R s=>s.TypeIs u T/\(∀prog w,aW prog w A.in1 s u G)/\∀vs (h':CP) C B,(∀b o,s.heap.get? b=some o->h'.get? b=some o)->G vs->R (.ok (.ret (.ref h'.objs.size))) {s with heap:=h'.push {cls:=.type "tuple",data:=.seq vs.toArray},drawn:=B,toks:=C}):=
 .of_wp λprog w A R s h=>by
  obtain⟨z,hc,h⟩:=h;have F:=sub_tuple_self;have y:=init_tuple_lookup;have U:=madeHere_tuple;have m:=hc prog w;obtain⟨hp,g,d,C,os⟩:=s
  wp_walk using QM z,aW.use m
  intro vs h' r B k L gg;refine BX (EY ?_);show BL _ _ (Builtin.Tuple.tupleExact vs.toArray >>= λv=>ret v) _ _ _;unfold Builtin.Tuple.tupleExact;refine BX (CJ ?_ (by show vs.toArray.size<=sizeLine;rw[MK];exact L));exact EY ⟨_,rfl,h vs h' r B k gg⟩
def ze1:List V->Hp->VK->Prop:=λxs H Q=>∃i j:Int,((xs=[.int j]/\i=0)\/xs=[.int i,.int j])/\∀a,H a=none->Q (.ref a) (upd H a (.rng i j))
def pP(i j:Int):Prop:=-(2 ^ 62)<=i/\i<2 ^ 62/\-(2 ^ 62)<=j/\j<2 ^ 62/\j - i<=16777216
def zd9:List V->Hp->VK->Prop:=λxs H Q=>∃a i j,xs=[.ref a]/\H a=some (.rng i j)/\pP i j/\∀b,H b=none->Q (.ref b) (upd H b (.lst ((Vr i j).map V.int)))
def ze0:List V->Hp->VK->Prop:=λxs H Q=>∃a i j,xs=[.ref a]/\H a=some (.rng i j)/\pP i j/\∀b,H b=none->Q (.ref b) (upd H b (.tup ((Vr i j).map V.int)))
def jw7(i j:Int):(Vr i j).length=(j - i).toNat:=by simp[Vr]
section
variable {fs:Ev->R (List D)}
def kj1:Dh X (.type "range") ze1:=by
 rintro pins s σ H ys us Q I r ⟨i,j,y,q⟩;have m:H s.heap.objs.size=none:=I.hok.fresh (GX _);rcases y with ⟨rfl,rfl⟩ |rfl
 ·obtain⟨u,rfl,t,rfl⟩:=vals1 r;refine call_range_1 ⟨.ref s.heap.objs.size,_,I.laid (t':=s.toks+1+1) (λb o e=>JK _ e) (GX _) (show Cg X.prog X.w _ _ _ (.rng 0 j) from⟨_,_,_,K_ _ rfl⟩),rfl,q _ m⟩
 ·obtain⟨u1,z,rfl,⟨C,rfl⟩,⟨B,rfl⟩⟩:=r.two;refine call_range_2 ⟨.ref s.heap.objs.size,_,I.laid (t':=s.toks+1) (λb o e=>JK _ e) (GX _) (show Cg X.prog X.w _ _ _ (.rng i j) from⟨_,_,_,K_ _ rfl⟩),rfl,q _ m⟩
theorem wr5(L:X.calm=true):Dh X (.type "list") zd9:=by rintro pins s σ H ys us Q I r ⟨a,i,j,e,U,⟨h1,h2,h3,h4,h5⟩,q⟩;subst e;refine Aw (λu m B=>?_) (vals1 r);obtain rfl:=m;cases B;refine vI (λt u v C=>?_) (I.hok a _ U);refine call_list_range (I.ok.hd L) C (dC h1 h2 h3 h4) (n:=(j - i).toNat) Z9 (by lia) λh' z y c' k hS F=>?_;have hint:=Zh F;refine⟨.ref s.heap.objs.size,_,I.laid (t':=z) k (GX _) (show Cg X.prog X.w _ h' _ (.lst ((Vr i j).map V.int)) from⟨by rw[GQ,jw7,CG];lia,y.toList,c',J3 hint,by simpa using hS⟩),rfl,q _ (I.hok.fresh (GX _))⟩
theorem wa3(L:X.calm=true):Dh X (.type "tuple") ze0:=by rintro pins s σ H ys us Q I r ⟨a,i,j,e,U,⟨h1,h2,h3,h4,h5⟩,q⟩;subst e;refine Aw (λu m C=>?_) (vals1 r);obtain rfl:=m;cases C;refine vI (λt u v z=>?_) (I.hok a _ U);refine YC F.called_tuple (by decide) (F.typeCall_tuple_1 _) (F.newCall_tuple_1 _) (λobj=>F.args_object_init_2 obj _) F.entry_tuple_new (jv3 (T:="range") (by decide)) ⟨⟨_,z,rfl⟩,λprog w=>ka8 (by simpa using I.ok.hd L) z h1 h2 h3 h4 h5,λvs h' y d' k g=>⟨⟨_,K_ _ rfl,rfl⟩,?_⟩⟩;have B:Inv X pins σ H {s with heap:=h',drawn:=d',toks:=y}:=Qq I k;exact⟨.ref h'.objs.size,_,B.laid (t':=y) (λb o e=>JK _ e) (GX _) (show Cg X.prog X.w _ _ _ (.tup ((Vr i j).map V.int)) from⟨by rw[GQ,jw7,CG];lia,vs,J3 g,IsTup.new _ _⟩),rfl,q _ (B.hok.fresh (GX _))⟩
theorem kn0{S:AS}{i j:Int}(r:Al K H S ds vs)(h:YZ ds=some (i,j)):((vs=[.int j]/\i=0)\/vs=[.int i,.int j])/\pP i j:=by
 match ds,h with
 | [.int k],h=>have h':(if -(2 ^ 62)<=k/\k<2 ^ 62/\k<=16777216 then some ((0:Int),k) else none)=some (i,j):=h;obtain⟨B,e⟩:=Bg h';cases e;refine Aw (λv z C=>?_) (r.one);obtain rfl:=z;cases(show v=.int j from C);exact⟨.inl ⟨rfl,rfl⟩,by lia,by lia,B.1,B.2.1,by lia⟩
 | [.int k,.int m],h=>have h':(if -(2 ^ 62)<=k/\k<2 ^ 62/\-(2 ^ 62)<=m/\m<2 ^ 62/\m - k<=16777216 then some (k,m) else none)=some (i,j):=h;obtain⟨B,e⟩:=Bg h';cases e;refine Bo (λv u y C F=>?_) (r.two);obtain rfl:=y;cases(show v=.int i from C);cases(show u=.int j from F);exact⟨.inr rfl,B⟩
def jv1(hc:X.calm=true)(hm:X.mg "list" = none)(B:X.mg "range" = none)(F:PAd X c l (e::es) fs)(hg:Gl X "list":=by rfl)(C:Gl X "range":=by rfl)(he:Zs X.env e es:=by rfl)
  (y:Zp X.env pos2 es:=by rfl)(r:BP [.Call (.Name "range" p2) (e::es) [] pos2] X.env=(false,CV (.Call (.Name "range" p2) (e::es) [] pos2) X.env)::BP [] X.env:=by rfl)(m:Zp X.env pos []:=by rfl):
  PEf X c l (.Call (.Name "list" p) [.Call (.Name "range" p2) (e::es) [] pos2] [] pos) (bA fs list_rangeD):=
 PE.imp (Hi (wr5 hc) hg hm PyProof.Rows.boot_list (Eb (Hi kj1 C B bM F (by decide) (by decide) he y) Jf r) (by decide) (by decide) r m) λσ H Q q=>by
 revert q;refine Ce λhs ρ E q=>?_;refine Ck E ((RQ.bind.mp q).mono (λds q1 vs H1 U E1 r1 hn=>?_) λ_ z=>z);refine Aw (λd e' q2=>?_) (q1.of);unfold list_rangeD at e';cases L:YZ ds with
 |none=>rw[L]at e';cases e'
 |some ij=>obtain⟨i,j⟩:=ij;rw[L]at e';cases e';obtain⟨hv,ok⟩:=kn0 r1 L;refine⟨i,j,hv,λa F=>⟨a,i,j,rfl,Ak,ok,λb hb=>?_⟩⟩;have sn:=Av (o:=HO.rng i j) F;have sb:=Av (o:=HO.lst ((Vr i j).map V.int)) hb;exact q2 b _ _ _ rfl ((U.trans sn).trans sb) ((U.trans sn).free hb) Ak (Mg _)
def jd4{d:D}(h:bA fs list_rangeD ρ=.ok d):∃ds,d=.lst ds:=by
 unfold bA at h;cases Y:fs ρ with
 |ok xs =>
  rw[Y]at h;simp only[R.ok_bind,list_rangeD]at h;cases J:YZ xs with
  |none=>rw[J]at h;cases h
  |some ns=>rw[J]at h;cases h;exact⟨_,rfl⟩
 |exc _=>rw[Y]at h;cases h
 |bad=>rw[Y]at h;cases h
def list_range(U:X.calm=true)(C:X.mg "list" = none)(y:X.mg "range" = none)(ha:PAd X c l (e::es) fs)(F:Gl X "list":=by rfl)(z:Gl X "range":=by rfl)(L:Zs X.env e es:=by rfl)
  (r:Zp X.env pos2 es:=by rfl)(B:BP [.Call (.Name "range" p2) (e::es) [] pos2] X.env=(false,CV (.Call (.Name "range" p2) (e::es) [] pos2) X.env)::BP [] X.env:=by rfl)(m:Zp X.env pos []:=by rfl):
  PEd X c l (.Call (.Name "list" p) [.Call (.Name "range" p2) (e::es) [] pos2] [] pos) (bA fs list_rangeD):=PEf.d (jv1 U C y ha F z L r B m) λ_ _ h=>jd4 h
def tuple_range(hc:X.calm=true)(hm:X.mg "tuple" = none)(B:X.mg "range" = none)(F:PAd X c l (e::es) fs)(hg:Gl X "tuple":=by rfl)(C:Gl X "range":=by rfl)(he:Zs X.env e es:=by rfl)
  (y:Zp X.env pos2 es:=by rfl)(r:BP [.Call (.Name "range" p2) (e::es) [] pos2] X.env=(false,CV (.Call (.Name "range" p2) (e::es) [] pos2) X.env)::BP [] X.env:=by rfl)(m:Zp X.env pos []:=by rfl):
  PEd X c l (.Call (.Name "tuple" p) [.Call (.Name "range" p2) (e::es) [] pos2] [] pos) (bA fs J1):=
 PE.imp (Hi (wa3 hc) hg hm PyProof.Rows.boot_tuple (Eb (Hi kj1 C B bM F (by decide) (by decide) he y) Jf r) (by decide) (by decide) r m) λσ H Q q=>by
 revert q;refine Ce λhs ρ E q=>?_;refine Ck E ((RQ.bind.mp q).mono (λds q1 vs H1 s1 E1 r1 hn=>?_) λ_ z=>z);refine Aw (λd e' q2=>?_) (q1.of);unfold J1 at e';cases L:YZ ds with
 |none=>rw[L]at e';cases e'
 |some ij=>obtain⟨i,j⟩:=ij;rw[L]at e';cases e';obtain⟨hv,ok⟩:=kn0 r1 L;refine⟨i,j,hv,λa F=>⟨a,i,j,rfl,Ak,ok,λb hb=>?_⟩⟩;have sn:=Av (o:=HO.rng i j) F;have U:=Av (o:=HO.tup ((Vr i j).map V.int)) hb;exact q2 _ _ ((s1.trans sn).trans U) ⟨b,_,rfl,TpR.of Ak,Mg _⟩
end
variable {r:Ev}{o0 o1 o2 o3 o4 o5 o7 o8 o9:Option D}
section
variable {f f1 f2 F C:Ev->R D}{fs:Ev->R (List D)}{m B:Ev->R Fl}{t z y:Ev->R Bool}
@[simp] theorem gD:b2 f1 f2 g ρ=(f1 ρ).bind λx=>(f2 ρ).bind λy=>R.of (g x y):=nr rfl
@[simp] def zr9{g:D->Option D}:b1 f g ρ=(f ρ).bind λx=>R.of (g x):=nr rfl
@[simp] theorem aQ{d:D}:kd d ρ=.ok d:=nr rfl
@[simp] def zk0:a0 ρ=.ok []:=nr rfl
@[simp] def U8:zv f fs ρ=(f ρ).bind λx=>(fs ρ).bind λxs=>.ok (x::xs):=nr rfl
@[simp] def b8{g:List D->Option D}:bA fs g ρ=(fs ρ).bind λxs=>R.of (g xs):=nr rfl
@[simp] def vB:sq m B ρ=(m ρ).bind λU=>match U with | .nx L=>B L |o=>.ok o:=nr rfl
@[simp] def yy0:asg i f ρ=(f ρ).bind λd=>.ok (.nx (ρ.set i (some d))):=nr rfl
@[simp] def yk4:Uj f ρ=(f ρ).bind λd=>.ok (.rt d):=nr rfl
@[simp] def wR:ifS t m B ρ=(t ρ).bind λk=>if k then m ρ else B ρ:=nr rfl
@[simp] def yy1:drp f ρ=(f ρ).bind λ_=>.ok (.nx ρ):=nr rfl
@[simp] def zs8:tt f ρ=(f ρ).bind λd=>R.of (nY d):=nr rfl
@[simp] def jP:tb f ρ=(f ρ).bind λd=>R.of (Y_ d):=nr rfl
@[simp] def vC:nt t ρ=(t ρ).bind λk=>.ok (!k):=nr rfl
@[simp] def eU:tan z y ρ=(z ρ).bind λk=>if k then y ρ else .ok false:=nr rfl
@[simp] def zr6:tor z y ρ=(z ρ).bind λk=>if k then .ok true else y ρ:=nr rfl
@[simp] def zs9:va f1 f2 ρ=(f1 ρ).bind λd=>(R.of (Y_ d)).bind λk=>if k then f2 ρ else .ok (.bl false):=nr rfl
@[simp] def zt0:vo f1 f2 ρ=(f1 ρ).bind λd=>(R.of (Y_ d)).bind λk=>if k then .ok (.bl true) else f2 ρ:=nr rfl
@[simp] def iB:ife t f1 f2 ρ=(t ρ).bind λk=>if k then f1 ρ else f2 ρ:=nr rfl
@[simp] def jQ{m:List D->R D}:cl fs m ρ=(fs ρ).bind λds=>(m ds).nox:=nr rfl
@[simp] def zr3:itS f ρ=(f ρ).bind λd=>R.of (Jy d):=nr rfl
@[simp] def zr2{h:List D->Option (List D)}:itR h fs ρ=(fs ρ).bind λxs=>R.of (h xs):=nr rfl
@[simp] def yk2{g:D->Ev->R Ev}:jO it g m ρ=(it ρ).bind λds=>Fy ds g m ρ:=nr rfl
@[simp] def zs6:p0 ρ=.ok none:=nr rfl
@[simp] def zs7:p1 f ρ=(f ρ).bind λd=>R.of (isI d):=nr rfl
@[simp] def zs0{lo L:Ev->R (Option Int)}{g:D->Option Int->Option Int->Option D}:bS f lo L g ρ=(f ρ).bind λx=>(lo ρ).bind λi=>(L ρ).bind λj=>R.of (g x i j):=nr rfl
@[simp] def Yy{d:D}:gN i d ρ=.ok (ρ.set i (some d)):=nr rfl
@[simp] def zs1:gT is (.tup ds) ρ=Fb is ds ρ:=nr rfl
@[simp] def zi6:Fb [] [] ρ=.ok ρ:=nr rfl
@[simp] def zi7{d:D}:Fb (i::is) (d::ds) ρ=Fb is ds (ρ.set i (some d)):=nr rfl
@[simp] def gv0{d:D}:gv 0 (some d::r)=.ok d:=nr rfl
@[simp] def zt1{d:D}:gv 1 (o0::some d::r)=.ok d:=nr rfl
@[simp] def zt2{d:D}:gv 2 (o0::o1::some d::r)=.ok d:=nr rfl
@[simp] def zt3{d:D}:gv 3 (o0::o1::o2::some d::r)=.ok d:=nr rfl
@[simp] def zt4{d:D}:gv 4 (o0::o1::o2::o3::some d::r)=.ok d:=nr rfl
@[simp] def zt5{d:D}:gv 5 (o0::o1::o2::o3::o4::some d::r)=.ok d:=nr rfl
@[simp] def zt6{d:D}:gv 6 (o0::o1::o2::o3::o4::o5::some d::r)=.ok d:=nr rfl
@[simp] def zt7{o6:Option D}{d:D}:gv 7 (o0::o1::o2::o3::o4::o5::o6::some d::r)=.ok d:=nr rfl
@[simp] def zt8{o6:Option D}{d:D}:gv 8 (o0::o1::o2::o3::o4::o5::o6::o7::some d::r)=.ok d:=nr rfl
@[simp] def zt9{o6:Option D}{d:D}:gv 9 (o0::o1::o2::o3::o4::o5::o6::o7::o8::some d::r)=.ok d:=nr rfl
@[simp] def zr7{o6:Option D}{d:D}:gv 10 (o0::o1::o2::o3::o4::o5::o6::o7::o8::o9::some d::r)=.ok d:=nr rfl
@[simp] def zr8{o6 o10:Option D}{d:D}:gv 11 (o0::o1::o2::o3::o4::o5::o6::o7::o8::o9::o10::some d::r)=.ok d:=nr rfl
theorem wU{x:D}(h:ρ[i]? = some (some (.lst ds)))(U:f ρ=.ok x)(L:ds.length<16777216):dY i f ρ=.ok (.nx (ρ.set i (some (.lst (ds++[x]))))):=by unfold dY;simp_all
@[simp] def zk1{a b:Int}:Az (.int a) (.int b)=some (.int (a+b)):=nr rfl
@[simp] def zr5{a b:Int}:n_ (.int a) (.int b)=some (.int (a - b)):=nr rfl
@[simp] def zs5{a b:Int}:ltD (.int a) (.int b)=some (.bl (decide (a<b))):=nr rfl
@[simp] def zs4{a b:Int}:leD (.int a) (.int b)=some (.bl (decide (a<=b))):=nr rfl
@[simp] def zs3{a b:Int}:gtD (.int a) (.int b)=some (.bl (decide (b<a))):=nr rfl
@[simp] def zs2{a b:Int}:geD (.int a) (.int b)=some (.bl (decide (b<=a))):=nr rfl
@[simp] def yk3{k:Bool}:Y_ (.bl k)=some k:=nr rfl
@[simp] def zr1{a:Int}:isI (.int a)=some (some a):=nr rfl
@[simp] def zl1{k:Bool}:nY (.bl k)=some k:=nr rfl
@[simp] def zA:Cv [.lst xs]=some (.int xs.length):=nr rfl
@[simp] def zk5:Cv [.tup xs]=some (.int xs.length):=nr rfl
@[simp] def zk9:Jy (.lst xs)=some xs:=nr rfl
@[simp] def zl0:Jy (.tup xs)=some xs:=nr rfl
@[simp] def yy7:pR [.lst xs]=some (.tup xs):=nr rfl
@[simp] theorem zk7{a b:Int}:minD [.int a,.int b]=some (.int (min a b)):=by show some (D.int (if b<a then b else a))=_;lia
@[simp] theorem zk6{a b:Int}:maxD [.int a,.int b]=some (.int (max a b)):=by show some (D.int (if b>a then b else a))=_;grind
@[simp] def qO:Bh n m ds=gC (m (Aa n ds)):=nr rfl
@[simp] def zF:gC (.ok (.nx ρ))=.ok .non:=nr rfl
end
variable {g2:Ev->R Fl}
def Ao{g1:Ev->R Fl}{ρ1:Ev}{r:R Fl}(h:g1 ρ=.ok (.nx ρ1))(h2:g2 ρ1=r):sq g1 g2 ρ=r:=by rw[vB,h];exact h2
def zf3{g1:Ev->R Fl}{d:D}(h:g1 ρ=.ok (.rt d)):sq g1 g2 ρ=.ok (.rt d):=by rw[vB,h];rfl
def Ah{d:D}(h:f ρ=.ok d):asg i f ρ=.ok (.nx (ρ.set i (some d))):=by rw[yy0,h];rfl
def An{d:D}(h:f ρ=.ok d):Uj f ρ=.ok (.rt d):=by rw[yk4,h];rfl
def jM{t:Ev->R Bool}{g1:Ev->R Fl}(h:t ρ=.ok true):ifS t g1 g2 ρ=g1 ρ:=by rw[wR,h];rfl
def W9{t:Ev->R Bool}{g1:Ev->R Fl}(h:t ρ=.ok false):ifS t g1 g2 ρ=g2 ρ:=by rw[wR,h];rfl
def Gp{g:D->Ev->R Ev}{b:Ev->R Fl}{r:R Fl}(h:it ρ=.ok ds)(h2:Fy ds g b ρ=r):jO it g b ρ=r:=by rw[yk2,h];exact h2
def Am{g:Ev->R Fl}{d:D}(h:g (Aa n ds)=.ok (.rt d)):Bh n g ds=.ok d:=by rw[qO,h];rfl
def Yx{a b:Int}(h:0<b)(h2:b<4611686018427387904):Ln (.int a) (.int b)=some (.int (a / b)):=by show(if _ then _ else _)=_;rw[if_pos ⟨h,h2⟩]
def Rf{a b:Int}(h:0<b):Nf (.int a) (.int b)=some (.int (a % b)):=by show(if _ then _ else _)=_;rw[if_pos h]
def qM{a b:Int}(h:-(2 ^ 64)<a)(h2:a<2 ^ 64):Hw (.int a) (.int b)=some (.int (a * b)):=by show(if _ then _ else _)=_;rw[if_pos (.inl ⟨h,h2⟩)]
def Yz{a b:Int}(h:a.natAbs<2 ^ 2048)(h2:b.natAbs<2 ^ 2048):Hw (.int a) (.int b)=some (.int (a * b)):=by show(if _ then _ else _)=_;rw[if_pos (.inr (.inr ⟨h,h2⟩))]
def Yw{ys:List D}(h:xs.length+ys.length<=16777216):Az (.tup xs) (.tup ys)=some (.tup (xs++ys)):=by show(if _ then _ else _)=_;rw[if_pos h]
def U9{xs ys:List D}(h:xs.length+ys.length<=16777216):Az (.lst xs) (.lst ys)=some (.lst (xs++ys)):=by show(if _ then _ else _)=_;rw[if_pos h]
theorem Fx(h:xs.length<=16777216):Gz xs=some (.tup xs):=by unfold Gz;rw[if_pos h]
theorem Lk(h:xs.length<=16777216):Ub xs=some (.lst xs):=by unfold Ub;rw[if_pos h]
theorem h_{d:D}(h:xs[i]? = some d):ixD (.tup xs) (.int (i:Int))=some d:=by have m:i<xs.length:=(NB.mp h).1;show atI xs (i:Int)=some d;unfold L2.atI L2.ixN;simp_all
theorem Nx{d:D}(h:xs[i]? = some d):ixD (.lst xs) (.int (i:Int))=some d:=by have m:i<xs.length:=(NB.mp h).1;show atI xs (i:Int)=some d;unfold L2.atI L2.ixN;simp_all
@[simp] def Gn{x:D}:ixD (.tup (x::xs)) (.int 0)=some x:=h_ (i:=0) rfl
variable {y:D}
@[simp] def Ka{x:D}:ixD (.tup (x::y::xs)) (.int 1)=some y:=h_ (i:=1) rfl
@[simp] def qN{x:D}:ixD (.lst (x::xs)) (.int 0)=some x:=Nx (i:=0) rfl
@[simp] def zk4{x:D}:ixD (.lst (x::y::xs)) (.int 1)=some y:=Nx (i:=1) rfl
def yy5{a b:Int}(h:0<=b/\b<=1000000/\a.natAbs<2 ^ 64):bY (.int a) (.int b)=some (.int (a ^ b.toNat)):=by dsimp only[bY];rw[if_pos h]
def Ai(l:List Nat):List D:=l.map λ(x:Nat)=>.int (x:Int)
theorem Bb(l:List Nat):(Ai l).length=l.length:=by simp[Ai]
def Hh{l:List Nat}:(Ai l)[i]? = (l[i]?).map λ(x:Nat)=>D.int (x:Int):=by simp[Ai]
theorem Lx{l:List Nat}{d:D}:d∈Ai l↔∃x∈l,d=.int (x:Int):=by unfold Ai;grind
theorem jd2{l:List Nat}{k:Nat}:D.int (k:Int)∈Ai l↔k∈l:=by grind [Lx]
theorem Y0(h:n<2 ^ 62):cI [.int (n:Int)]=some (Ai (List.range n)):=by
 have h':-(2 ^ 62)<=(n:Int)/\(n:Int)<2 ^ 62:=by lia
 dsimp only[cI];rw[if_pos h',bC];simp[Ai]
theorem Ei{g:D->Ev->R Ev}{b:Ev->R Fl}(I:Nat->Ev->Prop):∀(ds:List D)(k:Nat)(ρ:Ev),I k ρ->(∀i d ρ,ds[i]? = some d->I (k+i) ρ->∃z m,g d ρ=.ok z/\(b z=.ok (.nx m)\/b z=.ok (.ct m))/\I (k+i+1) m) ->
  ∃B,Fy ds g b ρ=.ok (.nx B)/\I (k+ds.length) B
 | [],k,ρ,h,_=>⟨ρ,rfl,h⟩
 |d::ds,k,ρ,h,st=>by
  refine Bo (λz m Y J h2=>?_) (st 0 d ρ rfl h);obtain⟨B,Z,L⟩:=Ei I ds (k+1) m h2 λi d ρ F C=>by have:=st (i+1) d ρ (by simpa using F) (by rw[show k+(i+1)=k+1+i by lia];exact C);rwa [show k+(i+1)+1=k+1+i+1 by lia]at this
  refine⟨B,?_,by rw[PQ,show k+(ds.length+1)=k+1+ds.length by lia];exact L⟩;rw[Fy,Y];rcases J with J |J<;>simp[J,Z]
theorem comp_map{g:D->Ev->R Ev}{f:Ev->R D}{ρ:Ev}{h:D->D}:∀(ds:List D),(∀d∈ds,∃m,g d ρ=.ok m/\f m=.ok (h d))->Df g yes f ρ ds=.ok (ds.map h)
 | [],_=>rfl
 |d::ds,st=>by refine Aw (λm Y J=>?_) (st d J_);rw[Df,Y];simp[yes,J,comp_map ds λx z=>st x (JB _ z)]
theorem V6{g:D->Ev->R Ev}{t:Ev->R Bool}{f:Ev->R D}{ρ:Ev}{p:D->Bool}{h:D->D}:∀(ds:List D),(∀d∈ds,∃m,g d ρ=.ok m/\t m=.ok (p d)/\(p d=true->f m=.ok (h d)))->Df g t f ρ ds=.ok ((ds.filter p).map h)
 | [],_=>rfl
 |d::ds,st=>by
  refine Gx (λm Y J Z=>?_) (st d J_);have B:=V6 (g:=g) (t:=t) (f:=f) (ρ:=ρ) (p:=p) (h:=h) ds λx C=>st x (JB _ C);rw[Df,Y];simp only[R.ok_bind,J];cases z:p d with
  |true=>simp[Z z,B,z]
  |false=>simp[B,z]
theorem Cj{g:D->Ev->R Ev}{t:Ev->R Bool}(h1:it ρ=.ok ds)(h2:Df g t f (Et n caps ρ) ds=.ok xs)(m:xs.length<=16777216):Ci it n caps g t f ρ=.ok (.lst xs):=by unfold Ci;simp_all
mutual
def D.pl:Nat->D->Bool
 |_,.int _=>true
 |_,.non=>true
 |n,.tup xs=>match n with |0=>false |n+1=>Ez n xs
 |n,.lst xs=>match n with |0=>false |n+1=>Ez n xs
 |_,_=>false
def Ez:Nat->List D->Bool
 |_,[]=>true
 |n,d::ds=>d.pl n && Ez n ds
end
def Z5{i:Int}:(D.int i).pl n=true:=by simp[D.pl]
def wz4(l:List Nat):∀d∈Ai l,d.pl n=true:=λd z=>by refine Aw (λx _ m=>?_) (Lx.mp z);obtain rfl:=m;exact Z5
theorem Vo{n:Nat}:∀{ds:List D},Ez n ds=true↔∀d∈ds,d.pl n=true
 | []=>by simp[Ez]
 |d::ds=>by rw[Ez,M_,Vo];simp
mutual
theorem Sw:∀(n m:Nat)(d:D),n<=m->d.pl n=true->d.cok m=true
 |n,m,.int _,_,_=>by simp[D.cok]
 |n,m,.non,_,_=>by simp[D.cok]
 |n,m,.bl _,_,h=>by simp[D.pl]at h
 |n,m,.str _,_,h=>by simp[D.pl]at h
 |n,m,.exc _ _ _,_,h=>by simp[D.pl]at h
 |0,m,.tup xs,_,h=>by simp[D.pl]at h
 |0,m,.lst xs,_,h=>by simp[D.pl]at h
 |n+1,0,.tup xs,h,_=>by lia
 |n+1,0,.lst xs,h,_=>by lia
 |n+1,m+1,.tup xs,h,B=>by
  have z:Ez n xs=true:=by simpa[D.pl] using B
  simpa[D.cok] using Mf n m xs (by lia) z
 |n+1,m+1,.lst xs,h,B=>by
  have z:Ez n xs=true:=by simpa[D.pl] using B
  simpa[D.cok] using Mf n m xs (by lia) z
theorem Mf:∀(n m:Nat)(ds:List D),n<=m->Ez n ds=true->Cw m ds=true
 |n,m,[],_,_=>by simp[Cw]
 |n,m,d::ds,h,B=>by
  have z:d.pl n=true/\Ez n ds=true:=by simpa[Ez] using B
  simp[Cw,Sw n m d h z.1,Mf n m ds h z.2]
end
mutual
theorem kj9:∀(n:Nat)(x y:D),x.pl n=true->y.pl n=true->(PyData.eqv x.py y.py=true↔x=y)
 |n,.int i,.int j,_,_=>by simp[D.py,PyData.eqv]
 |n,.int i,.non,_,_=>by simp[D.py,PyData.eqv]
 |n,.non,.int j,_,_=>by simp[D.py,PyData.eqv]
 |n,.non,.non,_,_=>by simp[D.py,PyData.eqv]
 |n,.int i,.tup ys,_,_=>by simp[D.py,PyData.eqv]
 |n,.int i,.lst ys,_,_=>by simp[D.py,PyData.eqv]
 |n,.non,.tup ys,_,_=>by simp[D.py,PyData.eqv]
 |n,.non,.lst ys,_,_=>by simp[D.py,PyData.eqv]
 |n,.tup xs,.int j,_,_=>by simp[D.py,PyData.eqv]
 |n,.tup xs,.non,_,_=>by simp[D.py,PyData.eqv]
 |n,.tup xs,.lst ys,_,_=>by simp[D.py,PyData.eqv]
 |n,.lst xs,.int j,_,_=>by simp[D.py,PyData.eqv]
 |n,.lst xs,.non,_,_=>by simp[D.py,PyData.eqv]
 |n,.lst xs,.tup ys,_,_=>by simp[D.py,PyData.eqv]
 |0,.tup xs,.tup ys,h,_=>by simp[D.pl]at h
 |0,.lst xs,.lst ys,h,_=>by simp[D.pl]at h
 |n+1,.tup xs,.tup ys,B,h2=>by
  have z:Ez n xs=true:=by simpa[D.pl] using B
  have m:Ez n ys=true:=by simpa[D.pl] using h2
  simp only[D.py,PyData.eqv,D.tup.injEq];exact R8 n xs ys z m
 |n+1,.lst xs,.lst ys,B,h2=>by
  have z:Ez n xs=true:=by simpa[D.pl] using B
  have m:Ez n ys=true:=by simpa[D.pl] using h2
  simp only[D.py,PyData.eqv,D.lst.injEq];exact R8 n xs ys z m
 |n,.bl _,_,h,_=>by simp[D.pl]at h
 |n,.str _,_,h,_=>by simp[D.pl]at h
 |n,.exc _ _ _,_,h,_=>by simp[D.pl]at h
 |n,_,.bl _,_,h=>by simp[D.pl]at h
 |n,_,.str _,_,h=>by simp[D.pl]at h
 |n,_,.exc _ _ _,_,h=>by simp[D.pl]at h
theorem R8:∀(n:Nat)(xs ys:List D),Ez n xs=true->Ez n ys=true->(PyData.eqvAll (Gv xs) (Gv ys)=true↔xs=ys)
 |n,[],[],_,_=>by simp[Gv,PyData.eqvAll]
 |n,[],y::ys,_,_=>by simp[Gv,PyData.eqvAll]
 |n,x::xs,[],_,_=>by simp[Gv,PyData.eqvAll]
 |n,x::xs,y::ys,B,h2=>by
  have z:x.pl n=true/\Ez n xs=true:=by simpa[Ez] using B
  have m:y.pl n=true/\Ez n ys=true:=by simpa[Ez] using h2
  simp only[Gv,PyData.eqvAll,M_,List.cons.injEq];rw[kj9 n x y z.1 m.1,R8 n xs ys z.2 m.2]
end
theorem D.eqb_true{x:D}(z:x.pl n=true)(m:y.pl n=true):x.eqb y=true↔x=y:=kj9 n x y z m
def zk2{x:D}[Decidable (x=y)](B:n<=60)(z:x.pl n=true)(m:y.pl n=true):eqD x y=some (.bl (decide (x=y))):=by unfold eqD;rw[if_pos (by rw[Sw n 60 x B z,Sw n 60 y B m];rfl)];congr 2;rw[ZK,D.eqb_true z m,decide_eq_true_eq]
def zk8{x:D}[Decidable (x=y)](B:n<=60)(z:x.pl n=true)(m:y.pl n=true):neD x y=some (.bl (!decide (x=y))):=by unfold neD;rw[if_pos (by rw[Sw n 60 x B z,Sw n 60 y B m];rfl)];congr 3;rw[ZK,D.eqb_true z m,decide_eq_true_eq]
@[simp] def pF{a b:Int}:eqD (.int a) (.int b)=some (.bl (decide (a=b))):=by rfl
@[simp] def zr4{a b:Int}:neD (.int a) (.int b)=some (.bl (decide (a≠b))):=by
 show(if _ then _ else _)=_;rw[if_pos (by simp[D.cok])];have e:(!(D.int a).eqb (D.int b))=decide (a≠b):=by rw[ZK,ZP,decide_eq_true_eq,<-Bool.not_eq_true,D.eqb_true (n:=0) rfl rfl,D.int.injEq]
 rw[e]
theorem ki5{x:D}{ys:List D}(m:x.pl n=true)(z:∀y∈ys,y.pl n=true):(ys.any λy=>y.eqb x)=true↔x∈ys:=by
 rw[List.any_eq_true];constructor
 ·grind [D.eqb_true]
 ·intro h;exact⟨x,h,(D.eqb_true m m).mpr rfl⟩
def zk3{x d:D}{ys:List D}(m:Jy d=some ys){b:Bool}(C:n<=60)(B:x.pl n=true)(z:∀y∈ys,y.pl n=true)(L:b=true↔x∈ys):inD x d=some (.bl b):=by
 have e:(ys.any λy=>y.eqb x)=b:=by rw[ZK,ki5 B z,L]
 have c:(x.cok 60 && Cw 60 ys)=true:=by rw[Sw n 60 x C B,Mf n 60 ys C (Vo.mpr z)];rfl
 cases d with
 |lst F=>cases m;show(if _ then _ else _)=_;rw[if_pos c,e]
 |tup F=>cases m;show(if _ then _ else _)=_;rw[if_pos c,e]
 |_=>cases m
def yy3{x d:D}{ys:List D}(m:Jy d=some ys){b:Bool}(C:n<=60)(B:x.pl n=true)(z:∀y∈ys,y.pl n=true)(L:b=true↔x∈ys):dH x d=some (.bl (!b)):=by
 have e:(ys.any λy=>y.eqb x)=b:=by rw[ZK,ki5 B z,L]
 have c:(x.cok 60 && Cw 60 ys)=true:=by rw[Sw n 60 x C B,Mf n 60 ys C (Vo.mpr z)];rfl
 cases d with
 |lst F=>cases m;show(if _ then _ else _)=_;rw[if_pos c,e]
 |tup F=>cases m;show(if _ then _ else _)=_;rw[if_pos c,e]
 |_=>cases m
theorem ys0(z:Ea xs=true)(h:xs.Pairwise λa b=>Hc a b=true):srt xs=xs:=by refine eq_of_sorted (le:=λa b=>Hc a b=true) (Ek xs) (El xs) h λa C b B m h2=>?_;unfold Hc at m h2;grind [ZP,rP,Ek,Fv]
def kt4(l:List Nat):Ea (Ai l)=true:=by unfold Ea;rw[cM];refine .inl (QL.mpr λd z=>?_);refine Aw (λx _ m=>?_) (Lx.mp z);obtain rfl:=m;rfl
theorem yn1{a b:Nat}(h:a<=b):Hc (.int (a:Int)) (.int (b:Int))=true:=by
 show(!Cz [(b:Int)] [(a:Int)])=true;rw[Cz];by_cases e:(b:Int)=a
 ·rw[if_pos e];rfl
 ·lia
def jv6{l:List Nat}(h:l.Pairwise (·<·)):(Ai l).Pairwise λa b=>Hc a b=true:=by unfold Ai;rw[i_];exact h.imp λm=>yn1 (aA m)
def Sg(l:List Nat):Bj (Ai l)=some (l.map λ(x:Nat)=>(x:Int)):=by have:=Vc (l.map λ(x:Nat)=>(x:Int));rw[KQ]at this;exact this
theorem jp9{l m:List Nat}(B:l.length<64)(C:m.Pairwise (·<·))(h:∀k,k∈l↔k∈m):Dn [.lst (Ai l)]=some (.lst (Ai m)):=by
 have z:(Ai l).length<64:=by rw[Bb];exact B
 unfold Dn;have e:K5 [.lst (Ai l)]=some (l.map λ(x:Nat)=>(x:Int)):=by show(if(Ai l).length<64 then Bj (Ai l) else none)=_;rw[if_pos z,Sg]
 rw[e];show some (D.lst (dF _))=_;congr 2;unfold dF;have F:(m.map λ(x:Nat)=>(x:Int)).Nodup:=by grind
 have p:(Oi (l.map λ(x:Nat)=>(x:Int))).Perm (m.map λ(x:Nat)=>(x:Int)):=(m_ (G9 _) F).mpr λk=>by grind [Gm,I_]
 have J:(m.map λ(x:Nat)=>(x:Int)).map D.int=Ai m:=by rw[KQ];rfl
 rw[Wy (Vf _) (p.map D.int),J];exact ys0 (kt4 m) (jv6 C)
def jg1(l:List Nat):Ky (Ai l)=(List.range l.length).map λ(i:Nat)=>D.tup [.int (i:Int),.int ((l.getD i 0:Nat):Int)]:=by
 apply aZ
 ·simp[Ky,Bb]
 ·intro i z h2;have m:i<l.length:=by simpa using h2
  simp[Ky,Ai,m]
theorem kj0:∀bs:List Bool,ZC (bs.map .bl)=some bs
 | []=>rfl
 |b::bs=>by rw[HH,ZC,kj0 bs];rfl
def lU(bs:List Bool):dZ [.lst (bs.map .bl)]=some (.bl (bs.all id)):=by show(ZC (bs.map .bl)).map _=_;rw[kj0];rfl
theorem wj0{l:List Nat}{d:D}{k:Nat}{b:Bool}(m:Jy d=some (Ai l))(z:b=true↔k∈l):dH (.int (k:Int)) d=some (.bl (!b)):=
 yy3 (n:=0) m (by lia) Z5 (wz4 l) (by rw[z,jd2])
section
variable {apos L:HY}{U:Ev->R (List D)}{g:D->Ev->R Ev}{t:Ev->R Bool}{f:Ev->R D}
def kw5(i:Nat)(nd:X.N.Nodup)(ao:K9 scope X.env.scope X.N caps=true)(hc:X.calm=true)(hi:PId X c l tg iter U)
  (hg:∀(C:BJ)(s:BK)(H:Hp)(ex:List BJ)(H0:Hp)(S0:AS)(Z:List BJ),Tb c.H0 H0->PGd (cxB X (Dw X T caps) scope C s H ex) ⟨H0,S0,[],Dq,Z⟩ tg g)
  (ht:∀(C:BJ)(s:BK)(H:Hp)(ex:List BJ)(H0:Hp)(S0:AS)(Z:List BJ),Tb c.H0 H0->TsD (cxB X (Dw X T caps) scope C s H ex) ⟨H0,S0,[],Dq,Z⟩ ifs t)
  (he:∀(C:BJ)(s:BK)(H:Hp)(ex:List BJ)(H0:Hp)(S0:AS)(Z:List BJ),Tb c.H0 H0->PEd (cxB X (Dw X T caps) scope C s H ex) ⟨H0,S0,[],Dq,Z⟩ .any elt f)
  (ak:∀d ρ ab,g d ρ=.ok ab->ab.length=ρ.length/\∀i,T.length<=i->ab[i]? = ρ[i]?)(af:Ow c.O l caps=true)(hs:∀x,E_ iter X.env x=pure x)
  (hN:X.N[i]? = some x)(hx:Loc X.env.scope x)(ag:FJ (.ListComp elt [⟨tg,iter,ifs,0⟩] scope pos) (some (.Name x L)) apos.line X.env=pure true)(hf:X.fn x=true\/X.env.scope.names.lookup x=some .local)
  {D:Ends}(I:Inv X pins σ H s)(E:Ar X.K c hs' ρ σ H)
  (q:RQ (Ci U T.length caps g t f ρ) (λd=>∀a vs ds H',d=.lst ds->Ad H H'->H a=none->H' a=some (.lst vs)->Al X.K H' (AS.but (lvS c ρ σ H l) a) ds vs->D.nx (σ.set i (some (.ref a))) H') (λe=>∀v H',Ad H H'->Rep X.K H' (lvS c ρ σ H .any) e v->c.Ex e v H')):
  BL (BV X.prog X.w) X.A (exec (.Assign [.Name x L] (.ListComp elt [⟨tg,iter,ifs,0⟩] scope pos) apos) X.env) (SP X pins D) X.xe s:=by
 have B:Jo X scope T caps:=.of ao;rw[exec_Assign_Name_used x L _ apos ag];refine BX (VL (BX ?_));rw[arm_evalThenUse_ListComp];refine BX ?_;show BL (BV X.prog X.w) X.A (QJ (.ListComp elt [⟨tg,iter,ifs,0⟩] scope pos) scope X.env (X3 [⟨tg,iter,ifs,0⟩] pos) (SQ []) false (CV iter X.env) (some (YD (.Name x L) X.env))) _ _ _;have q:=RQ.bind.mp q;cases aa:U ρ with
 |ok ds =>
  rw[aa]at q;refine Aw (λd ed q=>?_) (RQ.nox q);refine Aw (λxs ex ed=>?_) (Dy ed);by_cases hz:xs.length<=16777216
  ·rw[if_pos hz]at ed;cases ed;refine jf1 B hc hi hg ht he ak af hs I E aa ex hz λa vs s3 s' H3 H' fp au I3 f3 J sm Ha hv r=>?_;have I1:Inv X pins σ H' s':=I3.call' (ch:=fp) J.os J.base J.hok J.bare λb hb=>⟨(f3 b hb).2.2.2.1,(f3 b hb).2.1,(f3 b hb).2.2.2.2.1,(f3 b hb).2.2.2.2.2⟩;have F:=I3.fpOk (H':=H') (GX s3.heap.objs.size) J.free;refine bR ?_
   ·refine jj2 (v:=.ref a) I1 nd hN hx rfl (λae I2 ah=>?_) hf;revert ah;refine Aw λb sb hb=>?_;refine Aw (λm hn _=>?_) (J.loc);have ai:s3.heap.objs.size≠b:=by
     rcases hb with rfl |hb
     ·exact F.2.1
     ·exact(F.2.2.2.2.1 x b hb).symm
    have aj:ae.heap.Ns s3.heap.objs.size m:=by revert hn;refine dR λo es ep ho rr=>?_;exact⟨o,es,ep,(sb.2 _ ai).trans ho,rr⟩
    refine⟨m,aj,λh' ar=>?_⟩;refine EY (EY ⟨σ.set i (some (.ref a)),H',?_,q a vs xs H' rfl sm Ha hv r⟩);exact I2.turned (t':=ae.toks) (h':=h') (it:=s3.heap.objs.size) (λb o hb e=>(ar.2 b hb).trans e) J.free F.2.1 F.2.2.2.1 F.2.2.2.2.1 F.2.2.2.2.2
  ·rw[if_neg hz]at ed;cases ed
 |exc y=>rw[aa]at q;refine IV (cl:=W5 scope X.env) rfl hs (B.clo I) B.kind B.names ?_;refine thn (hi pins s σ H (λ_ _=>False) I ⟨hs',ρ,E,by rw[aa];exact q⟩) λv s1 h1=>thn h1 λaw s2 h2=>?_;revert h2;refine vD λ_ _ _ _ _ _ _ _ _ _ z=>?_;exact z.elim
 |bad=>rw[aa]at q;exact q.elim
def setC(i:Nat)(nd:X.N.Nodup)(ah:K9 scope X.env.scope X.N caps=true)(hc:X.calm=true)(hi:PId X c l tg iter U)
  (hg:∀(C:BJ)(s:BK)(H:Hp)(m:List BJ)(F:Hp)(B:AS)(Z:List BJ),PGd (cxB X (Dw X T caps) scope C s H m) ⟨F,B,[],Dq,Z⟩ tg g)
  (ht:∀(C:BJ)(s:BK)(H:Hp)(m:List BJ)(F:Hp)(B:AS)(Z:List BJ),TsD (cxB X (Dw X T caps) scope C s H m) ⟨F,B,[],Dq,Z⟩ ifs t)
  (he:∀(C:BJ)(s:BK)(H:Hp)(m:List BJ)(F:Hp)(B:AS)(Z:List BJ),PEd (cxB X (Dw X T caps) scope C s H m) ⟨F,B,[],Dq,Z⟩ .any elt f)
  (ag:∀d ρ aa,g d ρ=.ok aa->aa.length=ρ.length/\∀i,T.length<=i->aa[i]? = ρ[i]?)(ab:Ow c.O l caps=true:=by rfl)(hs:∀x,E_ iter X.env x=pure x:=by intro _;rfl)
  (hl:l.le .no=true:=by rfl)(af:c.O.contains i=false:=by rfl)(hN:X.N[i]? = some x:=by rfl)(hx:Loc X.env.scope x:=by first |exact Or.inl rfl |exact Or.inr rfl)(ae:FJ (.ListComp elt [⟨tg,iter,ifs,0⟩] scope pos) (some (.Name x L)) apos.line X.env=pure true:=by rfl)
  (hf:X.fn x=true\/X.env.scope.names.lookup x=some .local:=by first |exact .inl rfl |exact .inr rfl):
  PSd X c (.Assign [.Name x L] (.ListComp elt [⟨tg,iter,ifs,0⟩] scope pos) apos) (asg i (Ci U T.length caps g t f)):=λpins s σ H D I q=>by
 revert q;refine Ce λhs' ρ E q=>?_;refine kw5 i nd ah hc hi (λC s H m F B Z _=>hg C s H m F B Z) (λC s H m F B Z _=>ht C s H m F B Z) (λC s H m F B Z _=>he C s H m F B Z) ag ab hs hN hx ae hf I E ((RQ.bind.mp q).mono (λd q1 a vs ds H' ed s1 ha hv r=>?_) λy z=>Hb E z);subst ed;refine q1 _ H' ((E.mono s1).set (by simpa using af) ⟨a,vs,rfl,.inl ⟨hv,?_⟩,r.mono (Ad.refl _) λo z=>?_⟩)
 ·exact E.freshN ⟨a,rfl,ha⟩
 ·exact Xu E hl z.1
end
def Xz(E:Ar K c hs ρ σ H)
  (h:RQ (f ρ) (λd=>∀v H',Ad H H'->Ar K c hs ρ σ H'->Rep K H' (lvS c ρ σ H l) d v->Q [v] H') (λe=>∀v H',Ad H H'->Rep K H' (lvS c ρ σ H .any) e v->c.Ex e v H')):tDA K c 1 l (zv f a0) σ H Q:=by
 refine⟨hs,ρ,E,RQ.bind.mpr (h.mono (λd q=>?_) λ_ z=>z)⟩;intro vs H' B r F;refine Aw (λv m C=>?_) (Al.one r);obtain rfl:=m;exact q v H' B (E.mono B) C
section
variable {o:B_}{f1 f2:Ev->R D}
def gB(i:Nat)(f:Ev->R D):Ev->R Fl:=λρ=>match ρ[i]? with
 |some (some (.lst ds))=>(f ρ).bind λd=>match d with
  | .lst es=>if ds.length+es.length<=16777216 then .ok (.nx (ρ.set i (some (.lst (ds++es))))) else .bad
  |_=>.bad
 |_=>.bad
theorem zl2(i:Nat)(he:PEf X c .no e f)(hi:c.O.contains i=true:=by rfl)(hN:X.N[i]? = some x:=by rfl)(hv:Vis X.env.scope x:=by first |exact Or.inl rfl |exact Or.inr (Or.inl rfl) |exact Or.inr (Or.inr rfl))(hd:Zd x:=by decide)
  (ae:(x == ("__classdict__" : BR))=false:=by decide)(C:DG (.Name x p) "extend" X.env (CV (.Name x p) X.env)=CV (.Name x p) X.env:=by rfl)
  (aa:((IK cpos (BP [e] X.env)).all (λx=>!x.1) && (JC cpos (GF [] X.env)).all (λx=>x.1.isSome)
   && decide ([e].length+([]:List HN).length+(if([]:List HN).isEmpty then 0 else 1)<30))=true:=by rfl)
  (B:(apos.endLine == cpos.line)=true:=by rfl)(hs:BP [e] X.env=(false,CV e X.env)::BP [] X.env:=by rfl)(m:Zp X.env cpos []:=by rfl)
  (ab:FJ (.Call (.Attribute (.Name x p) "extend" apos) [e] [] cpos) none pos.line X.env=pure false:=by rfl):
  PSd X c (.Expr (.Call (.Attribute (.Name x p) "extend" apos) [e] [] cpos) pos) (gB i f):=
 PS.imp (rH (eF PySem.F.plainAttrs_list PySem.F.slot_list_extend PySem.F.type_list_extend ku8 (pv i hN hv hd ae) (Eb he Jf hs) C aa B hs m) ab) λD σ H q=>by
 revert q;refine Ce λhs ρ E q=>?_;have U:i∈c.O:=by simpa using hi
 unfold gB at q;split at q
 ·rename_i ds hd;refine oM (λa vs af e0 Y J Z r=>?_) (E.ownL i _ U hd);cases e0;refine⟨.ref a,Y,.inl ⟨rfl,vs,SqL.of J⟩,?_⟩;refine⟨hs,ρ,E,(RQ.bind.mp q).mono (λd L b ws es H1 ed s1 hb hw r1=>?_) λx z=>Hb E z⟩;subst ed;have L:RQ (if ds.length+es.length<=16777216 then R.ok (Fl.nx (ρ.set i (some (PD.D.lst (ds++es))))) else R.bad) _ _:=L;by_cases hz:ds.length+es.length<=16777216
  ·rw[if_pos hz]at L;have l:=r.length;have l1:=r1.length;have E1:=E.mono s1;refine⟨a,b,vs,ws,rfl,rfl,s1 _ _ J,hw,by rw[CG];omega,?_⟩;exact L σ _ (E1.write U hd Y (s1 _ _ J) ((r.mono s1 λ_ z=>z).append (r1.mono (Ad.refl _) λ_ z=>z.1)))
  ·rw[if_neg hz]at L;exact L.elim
 ·exact q.elim
end
open PySem PySem.Spec PyProof.Rows L2
def Nm(t:Ev->R Bool)(b:Ev->R Fl):Nat->Ev->R Fl
 |0,_=>.bad
 |n+1,ρ=>(t ρ).bind λk=>if k then(b ρ).bind λz=>match z with
  | .nx m=>Nm t b n m
  | .ct m=>Nm t b n m
  | .bk m=>.ok (.nx m)
  | .rt d=>.ok (.rt d)
  else .ok (.nx ρ)
variable {X:Cx}{c:DC}{e:B_}{pos:HY}
section
variable {t:Ev->R Bool}{b:Ev->R Fl}{f:Ev->R D}{B:List CT}
def yu6(n:Nat)(hp:WY (BV X.prog X.w) X.A X.env X.xe)(he:PTd X c e t)(hb:ZD X c B b):PSd X c (.While e B [] pos) (Nm t b n):=PS.imp (wk9 hp he hb) λD0 σ H q=>by
 revert q;refine Ce λhs ρ E q=>?_;refine⟨λm σ H=>∃ρ,Ar X.K c hs ρ σ H/\RQ (Nm t b m ρ) (Fl.ends X.K c hs D0) (Y4 X.K c),⟨n,ρ,E,q⟩,?_⟩;rintro m aa H2 ⟨ab,E2,q2⟩;cases m with
 |zero=>exact(q2:False).elim
 |succ m =>
  refine Fd E2 ((RQ.bind.mp q2).mono (λk q3 H3 s3 E3=>?_) λx z=>Hb E2 z);cases k with
  |false=>exact q3 aa H3 E3
  |true =>
   rw[if_pos rfl];refine⟨λC H'=>∃L,Ar X.K c hs L C H'/\RQ (Nm t b m L) (Fl.ends X.K c hs D0) (Y4 X.K c),λC H' z=>⟨m,fJ m,z⟩,hs,ab,E3,?_⟩;refine(RQ.bind.mp q3).mono (λfl U=>?_) λ_ z=>z;cases fl with
   |nx F=>exact λC H' E'=>⟨F,E',U⟩
   |ct F=>exact λC H' E'=>⟨F,E',U⟩
   |bk F=>exact U
   |rt d=>exact U
end
open PySem PySem.Spec PyProof.Rows L2 PySem.W
def zd8(P:BW)(w:CQ):List V->Hp->VK->Prop:=λxs H Q=>∃a ns,xs=[.ref a]/\H a=some (.ext (eZ P w a ns))/\Q (.int ((Oi ns).length:Nat)) H
section
variable {l:Lv}{es:List B_}{fs:Ev->R (List D)}{p m B:HY}
theorem yi6:Dh X (.builtin "len") (zd8 X.prog X.w):=by
 rintro pins s σ H ys us Q I r ⟨a,ns,e,ha,q⟩;subst e;refine Aw (λu F U=>?_) (vals1 r);obtain rfl:=F;cases U;refine gH (λC _ _=>?_) (I.hok a _ ha);revert C;refine Aw λo ho hD=>?_;revert hD;refine zj7 λxs ep t h1 h2 h3 h4 h5 h6 h7 _=>?_;have z:xs.size=(Oi ns).length:=by
  have L:=(m_ h4 (G9 ns)).mpr λk=>(h5 k).trans (Gm k ns).symm;have z2:=L.length_eq;have z3:(Hz xs).length=xs.size:=by simp[Hz]
  lia
 refine call_len_set ho h1 h2 h7 (by unfold JX at h6;lia) ?_;exact⟨.int ((Oi ns).length:Nat),H,I.tok _,(show ∃t,_=Value.int ((Oi ns).length:Nat) t from⟨_,by rw[z]⟩),q⟩
def Ua(xs:List D):Option D:=(K5 xs).map λns=>.int ((Oi ns).length:Nat)
def wv7(hc:X.calm=true)(hm:X.mg "len" = none)(U:X.mg "set" = none)(ha:PAd X c l (e::es) fs)(hg:Gl X "len":=by rfl)(aa:Gl X "set":=by rfl)(he:Zs X.env e es:=by rfl)
  (L:Zp X.env m es:=by rfl)(F:BP [.Call (.Name "set" B) (e::es) [] m] X.env=(false,CV (.Call (.Name "set" B) (e::es) [] m) X.env)::BP [] X.env:=by rfl)(C:Zp X.env pos []:=by rfl):
  PEd X c l (.Call (.Name "len" p) [.Call (.Name "set" B) (e::es) [] m] [] pos) (bA fs Ua):=
 PE.imp (Ma yi6 hg hm PySem.boot_len (Eb (Hi (wZ hc) aa U PyProof.Rows.boot_set ha (by decide) (by decide) he L) Jf F) (by decide) (by decide) F C) λσ H Q q=>by
 revert q;refine Ce λhs ρ E q=>?_;refine Ck E ((RQ.bind.mp q).mono (λds q1 vs H1 s1 E1 r1 hn=>?_) λ_ z=>z);refine Aw (λd e' q2=>?_) (q1.of);unfold Ua at e';cases en:K5 ds with
 |none=>rw[en]at e';cases e'
 |some ns=>rw[en]at e';cases e';refine⟨_,ds,ns,r1,en,λa ha=>⟨a,ns,rfl,Ak,?_⟩⟩;exact q2 _ _ (s1.trans (Av (o:=HO.ext (eZ X.prog X.w a ns)) ha)) rfl
end
end PD
namespace PySem
open Sem (wp)
open AutoSeq1 (wpAny_loadPart')
open PyProof.Rows
variable {A:D_}{P:BW}{s:BK}{X:A_->BK->Prop}{w:CQ}
variable {it:BJ}{i:Nat}{items:Array A_}{Q:A_->BK->Prop}
def Oa{t:BJ}{x:A_}(a:PyProof.Rows.IsTupIter s.heap it t i)(j:PyProof.Rows.IsTup s.heap t items)(h:items[i]? = some x)
  (m:∀g,PyProof.Rows.IsTupIter g it t (i+1)->Heap.SameBut it s.heap g->Q x {s with heap:=g}):BL (BV P w) A (Builtin.SmallTypes.nextOf (.ref it)) Q X s:=by
 obtain⟨o,c,l,b⟩:=id a;obtain⟨n,e,_,p,f⟩:=j;unfold Builtin.SmallTypes.nextOf;refine BX (DP (name:=Str.ofString "__next__") a.typeIs KN (CZ KN a.typeIs ZR ?_ (aF _)));show BL _ _ (WT (.ref it) 0 >>= _) _ _ s;refine BX (DW c b (x:=.ref t) rfl ?_);show BL _ _ (if(Value.ref t == Value.none)=true then _ else _) _ _ s;rw[if_neg (show ¬ ((Value.ref t == Value.none)=true) from cT)];show BL _ _ (WT (.ref it) 1 >>= _) _ _ s;refine BX (DW c b (x:=.int i 0) rfl ?_);show BL _ _ (seqItems? (.ref t) >>= _) _ _ s;refine BX (GC e f ?_);simp only[bC,h];refine BX (GJ c b (by simp) (EY ⟨x,rfl,EY (m _ ?_ (Heap.SameBut.update ..))⟩));exact⟨_,bG _ c (Obj.isFreed_of_fields (Obj.data_mapFields b _)),(Obj.cls_mapFields ..).trans l,by rw[Obj.data_mapFields b];simp[C_]⟩
theorem Kd{t:BJ}(l:A.handled=none)(b:PyProof.Rows.IsTupIter s.heap it t i)(p:PyProof.Rows.IsTup s.heap t items)(n:items[i]? = none)
  (q:∀j e,lZ it s.heap j->(∃o,j.get? e=some o/\o.cls=.type "StopIteration")->X (.ref e) {s with heap:=j}):BL (BV P w) A (Builtin.SmallTypes.nextOf (.ref it)) Q X s:=by
 obtain⟨o,f,v,h⟩:=id b;obtain⟨r,c,_,u,g⟩:=p;unfold Builtin.SmallTypes.nextOf;refine BX (DP (name:=Str.ofString "__next__") b.typeIs KN (CZ KN b.typeIs ZR ?_ (aF _)));show BL _ _ (WT (.ref it) 0 >>= _) _ _ s;refine BX (DW f h (x:=.ref t) rfl ?_);show BL _ _ (if(Value.ref t == Value.none)=true then _ else _) _ _ s;rw[if_neg (show ¬ ((Value.ref t == Value.none)=true) from cT)];show BL _ _ (WT (.ref it) 1 >>= _) _ _ s;refine BX (DW f h (x:=.int i 0) rfl ?_);show BL _ _ (seqItems? (.ref t) >>= _) _ _ s;refine BX (GC c g ?_);simp only[bC,n];refine BX (wpAny_rule (BX (GJ f h (by simp) ?_)));show BL _ _ (XN (.type "StopIteration") [] >>= _) _ _ _;refine BX ?_;simp only[XN,j6];refine BX (CJ ?_ (by size_fits));refine BX (m:=JQ _ _) (RL (a:=Value.none) (by first |rfl | (simp only[JQ];rfl)) ?_);refine CJ ?_ (by size_fits);simp only[raiseNew];refine BX (VM ?_)
 first |rw[show A.in1.handled=none from l] |rw[l]
 refine BX (EY (YQ ?_));exact q _ _ (((Heap.SameBut.update ..).extBut.push _).push _) ⟨_,K_ _ rfl,rfl⟩
def kr2(hh:A.handled=none){t:BJ}(hne:t≠it):Draws P w A it [it,t] items.size (λi x=>items[i]? = some x) (λi h=>RK h it t i/\OJ h t items) where
 live:=λi h ⟨⟨o,ho,_⟩,_⟩=>⟨o,ho⟩
 frame:=λi h h' ⟨⟨o,ho,r⟩,o2,ho2,r2⟩ k=>⟨⟨o,k it (by simp) o ho,r⟩,o2,k t (by simp) o2 ho2,r2⟩
 item:=λi s Q E hi ⟨hit,ht⟩ hQ=>by refine Oa hit ht (ZQ hi) λh' h1 h2=>hQ _ h' s.toks (ZQ hi) ⟨h1,?_⟩ h2;revert ht;refine Aw λo ho r=>?_;exact⟨o,(h2.2 t hne).trans ho,r⟩
 done:=λs Q E ⟨hit,ht⟩ hE=>Kd hh hit ht (by simp) hE
theorem Zv(l:BJ)(items:Array A_)(n:Nat)(dct:Option BJ)(j:Array (Option A_)):Meets (HS.«enumerate.__new__» ⟨[.type "enumerate",.ref l],[]⟩) (λ_ R s=>s.heap.get? l=some {cls:=.type "tuple",dict:=dct,data:=.seq items n,slots:=j} /\
   R (.ok (.ret (.ref (s.heap.push {cls:=.type "tuple_iterator",data:=.fields #[.ref l,.int 0 0] }).objs.size))) {s with heap:=(s.heap.push {cls:=.type "tuple_iterator",data:=.fields #[.ref l,.int 0 0] }).push {cls:=.type "enumerate",data:=.fields #[.none,.bool false,.ref s.heap.objs.size,C_ 0,.none,.none] } }):=
 .of_wp λprog w A R s h=>by
  obtain⟨o,g,d,f,m⟩:=s;obtain⟨a,h⟩:=h;have b:=sub_enumerate;have e:OJ (Shared.heap ⟨o,g,d,f,m⟩) l items:=⟨_,a,rfl,n,rfl⟩
  wp_walk using NQ a
  refine wpAny_stack_any λp=>EY ?_;split
  ·rename_i c _ _ _ _ _;cases(c == Value.type "enumerate")<;>(wp_walk using NQ a,bI e;exact⟨_,rfl,h⟩)
  ·wp_walk using NQ a,bI e;exact⟨_,rfl,h⟩
def jc9{l:BJ}(q:OJ s.heap l items)
  (h:∀a,nT a (s.heap.objs.size+1) s.heap.objs.size 0 .none->RK a s.heap.objs.size l 0->a.objs.size=s.heap.objs.size+2->(∀b o,s.heap.get? b=some o->a.get? b=some o)->Q (.ref (s.heap.objs.size+1)) {s with heap:=a}):BL (BV P w) A (call (.type "enumerate") [.ref l]) Q X s:=by
 obtain⟨⟨c,dct,r,m⟩,p,g,n,f⟩:=q
 replace g:c=.type "tuple":=g;replace f:r=.seq items n:=f
 subst g f;refine YC F.called_enumerate (by decide) (F.typeCall_enumerate_1 _) (F.newCall_enumerate_1 _) (λobj=>F.args_object_init_2 obj _) F.entry_enumerate_new (Zv l items n dct m) ⟨p,?_⟩;have e:(s.heap.push {cls:=.type "tuple_iterator",data:=.fields #[.ref l,.int 0 0] }).objs.size=s.heap.objs.size+1:=Q_ ..;show _/\_;rw[e];have j:nT ((s.heap.push {cls:=.type "tuple_iterator",data:=.fields #[.ref l,.int 0 0] }).push {cls:=.type "enumerate",data:=.fields #[.none,.bool false,.ref s.heap.objs.size,C_ 0,.none,.none] }) (s.heap.objs.size+1) s.heap.objs.size 0 .none:=by have z:=K_ (s.heap.push {cls:=.type "tuple_iterator",data:=.fields #[.ref l,.int 0 0] }) (o:={cls:=.type "enumerate",data:=.fields #[.none,.bool false,.ref s.heap.objs.size,C_ 0,.none,.none] }) rfl;rw[e]at z;exact z
 exact⟨⟨_,j,rfl⟩,h _ j ⟨_,JK _ (K_ _ rfl),rfl,rfl⟩ (by rw[Q_,e]) λb o x=>JK _ (JK _ x)⟩
end PySem
namespace PD
open PySem PySem.Spec PyProof.Rows L2
variable {P:BW}{w:CQ}
theorem kr1{A:D_}{items:Array A_}(hh:A.handled=none){t it:BJ}{n:Nat}(hn:items[n]? = none):Draws P w A it [it,t] n (λ_ _=>True) (λj h=>(RK h it t j/\OJ h t items)/\j=n) where
 live:=λi h ⟨⟨⟨o,ho,_⟩,_⟩,_⟩=>⟨o,ho⟩
 frame:=λi h h' ⟨⟨⟨o,ho,r⟩,o2,ho2,r2⟩,e⟩ k=>⟨⟨⟨o,k it (by simp) o ho,r⟩,o2,k t (by simp) o2 ho2,r2⟩,e⟩
 item:=λi s Q E hi ⟨_,e⟩ hQ=>absurd hi (by lia)
 done:=λs Q E ⟨⟨hit,ht⟩,_⟩ hE=>Kd hh hit ht hn hE
def Iet(K:BZ)(a:BJ):It:=
 ⟨λi H=>∃b x,SqT K H a b/\b[i]? = some x,λi H x c=>∃t v,x=.ref t/\H t=none/\c=upd H t (.tup [.int (i:Int),v])/\∀b,SqT K H a b->b[i]? = some v,λi H=>∃b,SqT K H a b/\b.length<=i⟩
variable {K:BZ}
theorem kh2{elts:List B_}{k:Nat}{pos:HY}(a e it:BJ)(hne:e≠it)(hai:a≠it)(hea:e≠a):
  Turn P w K (.Tuple elts k pos) (Iet K a) [e,it] e (λi h=>(∃old,nT h e it (i:Int) old)/\RK h it a i) where
 mem:=by simp
 obj:=λi h st b hb=>by obtain⟨⟨old,he⟩,o,ho,hc,hd⟩:=st;grind
 keep:=λi h h' st kp=>⟨st.1.imp λold he=>kp e (by simp) _ he,let ⟨o,q,r⟩:=st.2; ⟨o,kp it (by simp) o q,r⟩⟩
 item:=by
  intro X hP hw hK hc i pins s σ H E I hf st hg;subst hP hw hK;obtain⟨xs,x,hq,hx⟩:=hg;obtain⟨its,rv,p,hz⟩:=I.tuple hq;obtain⟨u,hu,ru⟩:=rv.get hx;obtain⟨⟨old,he⟩,hit⟩:=st;have hD:=kr2 (P:=X.prog) (w:=X.w) (A:=X.A.in1) (items:=its.toArray) (by simpa using I.ok.hd hc) hai;have hlt:i<its.toArray.size:=by have:=(NB.mp hu).1;simp_all
  refine wpAny_pyNext_enum_itemD hD he ⟨hit,p⟩ hlt hne (by simp[hne,hea]) λx' h1 tk hx' heo hst ht1 hz1 hk1=>⟨_,rfl,?_⟩;have hxu:x'=u:=by simp_all
  subst hxu;refine TY heo λh2 he2 hs2=>?_;have hT:s.heap.objs.size≠e:=VV (HX he);have ht2:h2.get? s.heap.objs.size=some {cls:=.type "tuple",data:=.seq #[.int i tk,x'] }:=(hs2.2 _ hT).trans ht1;have I2:Inv X pins σ (upd H s.heap.objs.size (.tup [.int (i:Int),x])) {s with heap:=h2,toks:=tk+1}:=
   Gs (t':=tk+1) I hf (λb o hb q=>by
    have hb':b≠e/\b≠it:=by simpa using hb
    exact(hs2.2 b hb'.1).trans (hk1 b o hb'.1 hb'.2 q)) (GX _)
    (show Cg X.prog X.w _ h2 _ (.tup [.int (i:Int),x]) from⟨by show 2<=sizeLine;rw[CG];lia,[.int i tk,x'],.cons ⟨_,rfl⟩ (.cons ru .nil),⟨_,ht2,rfl,_,rfl⟩⟩)
  refine⟨.ref s.heap.objs.size,_,I2,rfl,⟨_,x,rfl,I.hok.fresh (GX _),rfl,λys hy=>by rw[I.tuple_inj hy hq];exact hx⟩,⟨⟨x',by simpa using he2⟩,?_⟩,λb hb=>?_⟩
  ·obtain⟨o,q,r⟩:=hst.1;exact⟨o,(hs2.2 it (Ne.symm hne)).trans q,r⟩
  ·have hlt:b<s.heap.objs.size:=by
    obtain⟨oi,hoi,_⟩:=id hit;have hb':b=e\/b=it:=by simpa using hb
    rcases hb' with rfl |rfl
    ·exact HX he
    ·exact HX hoi
   rw[Ae (MJ hlt)];exact(hf b hb).1
 done:=by intro X hP hw hK hc i pins s σ H E I hf st hg;subst hP hw hK;obtain⟨xs,hq,hx⟩:=hg;obtain⟨its,rv,p,hz⟩:=I.tuple hq;obtain⟨⟨old,he⟩,hit⟩:=st;have hl:=rv.length;exact wpAny_pyNext_enum_endD (kr1 (by simpa using I.ok.hd hc) (items:=its.toArray) (n:=i) (t:=a) (by simp;lia)) he ⟨⟨hit,p⟩,rfl⟩ λh' eb=>⟨rfl,Qt (t':=s.toks) I hf λb o hb q=>eb b o (λz=>hb (by simp[z])) q⟩
 self:=λA i s Q E st h=>by obtain⟨⟨old,he⟩,_⟩:=st;exact LC he h
variable {ds:List D}
def ks8{a:BJ}{vs:List V}:ItD K (Iet K a) (Ky ds) λH S=>SqT K H a vs/\Al K H S ds vs where
 stab:=tH
 go:=λi H S hi h=>by rw[Qo]at hi;refine Aw (λv hv _=>?_) (h.2.get (LR hi));exact⟨vs,v,h.1,hv⟩
 yld:=λi H S x H' h y=>by revert y;refine b_ λt v hz5 ht hz6 y=>?_;obtain rfl:=hz5;obtain rfl:=hz6;refine⟨Av ht _,λd hd=>?_⟩;refine Aw (λe he hz7=>?_) (jg0 hd);obtain rfl:=hz7;refine Aw (λw hw rw'=>?_) (h.2.get he);have ev:v=w:=Option.some.inj ((y vs h.1).symm.trans hw);subst ev;exact⟨t,_,rfl,TpR.of Ak,.int (i:Int),[v],rfl,rfl,v,[],rfl,rw'.mono (Av ht _) (λ_ z=>z),rfl⟩
 stop:=λi H S hi h=>⟨vs,h.1,by rw[<-h.2.length];rw[Qo]at hi;exact hi⟩
def fZ(f:Ev->R D):Ev->R (List D):=λa=>(f a).bind λd=>match d with
 | .lst ds=>.ok (Ky ds)
 | .tup ds=>.ok (Ky ds)
 |_=>.bad
variable {X:Cx}{c:DC}{e:B_}{l:Lv}{pos:HY}
section
variable {f:Ev->R D}{p i:HY}{g:List B_}{k:Nat}
theorem yW(hm:X.mg "enumerate" = none)(he:PEd X c l e f)(ae:Gl X "enumerate":=by rfl)(G:BP [e] X.env=[(false,CV e X.env)]:=by rfl):
  PId X c l (.Tuple g k pos) (.Call (.Name "enumerate" p) [e] [] i) (fZ f):=by
 intro n s σ H R I h;refine Call_ (Vg I ae hm boot_enumerate (PyProof.Rows.callWith_type1 (thG ((Eb he Jf G:PA X [e] _) i n s σ H (λr m=>∃a,r=[.ref a]/\(((∃A,SqL X.K m a A)/\R (Iel X.K a) m)\/((∃A,SqT X.K m a A)/\R (Iet X.K a) m))) I ?_) λus j r m y T B=>?_) G rfl))
 ·revert h;refine Ce λhs ρ E q=>?_;refine Aq E ((RQ.bind.mp q).mono (λd B v m j E1 T=>?_) λ_ z=>z);cases d with
  |lst ds=>revert T;refine Bo λa r aa M U=>?_;obtain rfl:=aa;exact⟨a,rfl,.inl ⟨⟨r,M.sq⟩,B _ _ m j wf7 ⟨M,U⟩⟩⟩
  |tup ds=>revert T;refine Bo λa r Z M U=>?_;obtain rfl:=Z;exact⟨a,rfl,.inr ⟨⟨r,(TpR.sq M)⟩,B _ _ m j ks8 ⟨(TpR.sq M),U⟩⟩⟩
  |_=>exact B.elim
 ·revert B;refine Aw λa F q=>?_;obtain rfl:=F;refine Aw (λu C ru=>?_) (vals1 T);obtain rfl:=C;cases ru;have Q:∀(h':CP),(∀b o,j.heap.get? b=some o->h'.get? b=some o)->(∀b,b∈[j.heap.objs.size+1,j.heap.objs.size]->Q5 X n m b):=λh' x b hb=>by
   have af:b=j.heap.objs.size+1\/b=j.heap.objs.size:=by simpa using hb
   have L:j.heap.objs.size<=b:=by lia
   exact y.fpOk L (y.hok.fresh L)
  rcases q with ⟨⟨A,hq⟩,q⟩ | ⟨⟨A,hq⟩,q⟩
  ·refine Gx (λY rv pl hz=>?_) (y.list hq);refine call_enumerate_list pl.isList λh' O hI ab x=>?_;refine LC O ?_;exact⟨j.heap.objs.size+1,[j.heap.objs.size+1,j.heap.objs.size],_,_,m,rfl,y.kept (t':=j.toks) x,kx6 a _ _ (jHb _),⟨⟨.none,by simpa using O⟩,hI⟩,Q h' x,q⟩
  ·refine Gx (λY rv pl hz=>?_) (y.tuple hq);have J:a<j.heap.objs.size:=let ⟨o,ho,_⟩:=pl;HX ho;refine jc9 pl λh' O hI ab x=>?_;refine LC O ?_;exact⟨j.heap.objs.size+1,[j.heap.objs.size+1,j.heap.objs.size],_,_,m,rfl,y.kept (t':=j.toks) x,kh2 a _ _ (jHb _) (MJ J) (VV (cR J)),⟨⟨.none,by simpa using O⟩,hI⟩,Q h' x,q⟩
end
def zE{f:Ev->R D}{ρ:Ev}(h:f ρ=.ok (.lst ds)):fZ f ρ=.ok (Ky ds):=by unfold fZ;rw[h];rfl
def n8:List D->Option D
 | [.lst a]=>(Bj a).map λb=>.int b.sum
 |_=>none
theorem preSum_eq(ns:List Int):∀j,preSum (λi=>ns.getD i 0) j=(ns.take j).sum
 |0=>by simp[preSum]
 |j+1=>by rw[preSum,preSum_eq ns j,iZ,XR,TF];cases ns[j]? <;> simp
section
variable {es:List B_}{fs:Ev->R (List D)}
theorem yw1(T:X.calm=true):Dh X (.builtin "sum") (rC X.K n8):=by
 rintro y s σ H xs us Q I r ⟨S,ds,d,G,e,q⟩;obtain⟨C,rfl⟩:=inv1 e rfl (λx _ _=>by cases x<;>rfl);cases C with
 |lst p =>
  obtain⟨v,rfl,a,vs,rfl,Z,J⟩:=G.one;have e:(Bj p).map (λg=>D.int g.sum)=some d:=e;cases o:Bj p with
  |none=>rw[o]at e;cases e
  |some g =>
   rw[o]at e;cases e;obtain⟨u,rfl,F⟩:=vals1 r;cases F;obtain⟨f,E,pl,hz⟩:=I.list Z.sq;have B:=ints_of J E o;have m:=pl.isList;have j:a<s.heap.objs.size:=by obtain⟨_,z,_⟩:=m;exact HX z
   have h:f.length=g.length:=IntsAre.length B;refine call_sum_walkG (JM m ?_);refine⟨s.heap.objs.size,[s.heap.objs.size,a],[s.heap.objs.size],f.toArray.size,_,_,λi=>g.getD i 0,rfl,Walks.list (A:=X.A.in1) (I.ok.hd T) _ a (MJ j) f.toArray,
    ⟨⟨_,K_ _ rfl,rfl,rfl⟩,m.push _⟩,λb Y=>?_,λi v hP=>?_,λh' tk t' M=>?_⟩
   ·have U:b=s.heap.objs.size\/b=a:=by simpa using Y
    rw[Q_];lia
   ·have n:f[i]? = some v:=by simpa using hP
    obtain⟨O,ev⟩:=NB.mp n;obtain⟨t,et⟩:=rQ B O;simp_all
   ·rw[preSum_eq,MK,h,mU];exact⟨.int g.sum,H,I.kept (λb x z=>M b x (λL=>by rw[PX.mp L]at z;exact ZJ _ (HX z)) (JK _ z)),(show ∃t,_=Value.int g.sum t from⟨_,rfl⟩),q _ H (Ad.refl _) rfl⟩
 |_=>exact nos e
def uX(h:X.calm=true)(b:X.mg "sum" = none){p:HY}(i:PAd X c l (e::es) fs)(f:Gl X "sum":=by rfl)(g:Zs X.env e es:=by rfl)(a:Zp X.env pos es:=by rfl):
  PEd X c l (.Call (.Name "sum" p) (e::es) [] pos) (bA fs n8):=iC (yw1 h) PyProof.Rows.boot_sum b i f (by decide) (by decide) g a
end
end PD
namespace PySem
open Sem (wp)
def kd6{P:BW}{w:CQ}(d:BJ)(b:(d == FQ)=false):
  MeetsIn P w (HS.«dict.items» ⟨[.ref d],[]⟩) (λ_ R s=>s.TypeIs (.ref d) "dict"/\R (.ok (.ret (.ref s.heap.objs.size))) {s with heap:=s.heap.push {cls:=.type "dict_items",data:=.fields #[.ref d] } }):=
 .of_wp λA R s ⟨a,h⟩=>by unfold HS.«dict.items» Builtin.Dict.noArgs;refine BX (BX (wpAny_notOrdered_dict a ?_));show BL _ _ (pure d) _ _ s;refine EY ?_;show BL _ _ (Builtin.Dict.showsAll d >>= _) _ _ s;unfold Builtin.Dict.showsAll;rw[if_neg (by rw[b];exact cT)];refine BX (EY (BX (CJ (EY ⟨_,rfl,h⟩))))
variable {od:GR}{ep i:Nat}{Q:Option A_->BK->Prop}{it:BJ}{c:A_}
section
variable {P:BW}{w:CQ}{A:D_}{E:A_->BK->Prop}{s:BK}
theorem kd5{v d:BJ}{es:Array HF}{Q:A_->BK->Prop}(e:s.heap.IsItemsView v d)(h:s.heap.get? d=some od)(a:od.data=.dict es ep)
  (l:Q (.ref s.heap.objs.size) {s with heap:=s.heap.push {cls:=.type "dict_itemiterator",data:=.fields #[.none,.bool false,.ref d,.int 0 0,.int es.size 0,.int ep 0,.none,.none] } }):BL (BV P w) A (T_ (.ref v)) Q E s:=by
 refine Gx (λc f j g=>?_) (id e);refine QQ e.typeIs F.slot_dict_items_iter (CZ F.slot_dict_items_iter e.typeIs F.entry_dict_items_iter ?_ (F.args_dict_items_iter_1 _));unfold HS.«dict_items.__iter__»;refine BX (EY ?_);refine BX ?_;unfold Builtin.Dict_items.dictOf;refine BX (DW f g (x:=.ref d) rfl (EY ?_));refine BX ?_;unfold Builtin.Dict_items.newIterator;refine BX (QR h a (BX (RW h a ?_)));have b:Builtin.Dict_items.ownsTuple "dict_itemiterator" = true:=(by decide);simp only[b,if_true];refine CJ (EY ⟨_,rfl,"dict_itemiterator",_,⟨_,K_ _ rfl,rfl⟩,F.slot_dict_itemiterator_next.lookup,?_⟩) (by simp only[sizeOk,Builtin.Dict_items.ownedTupleFields,MK,YK,PQ,jHf,CG];lia);simpa[C_,Builtin.Dict_items.ownedTupleFields] using l
theorem kd7{d:BJ}{es:Array HF}{e:HF}{ok:A_}(L:JZ s.heap it d i es.size ep ok c)(ab:s.heap.get? d=some od)(ae:od.data=.dict es ep)(hx:es[i]? = some e)
  (hQ:∀h',V_ h' it d (i+1) es.size ep e.key e.val s.heap.objs.size->h'.get? s.heap.objs.size=some {cls:=.type "tuple",data:=.seq #[e.key,e.val] }->h'.objs.size=s.heap.objs.size+1->(∀b o,b≠it->s.heap.get? b=some o->h'.get? b=some o)->Q (some (.ref s.heap.objs.size)) {s with heap:=h'}):
  BL (BV P w) A (JG (.ref it)) Q E s:=by
 obtain⟨K,g,dr,Z,os⟩:=s;have Y:Shared.TypeIs ⟨K,g,dr,Z,os⟩ (.ref it) "dict_itemiterator":=⟨_,L,rfl⟩;unfold JG;refine BX (IW (DP (name:=Str.ofString "__next__") Y F.slot_dict_itemiterator_next (CZ F.slot_dict_itemiterator_next Y F.entry_dict_itemiterator_next ?_ (F.args_dict_itemiterator_next_1 _))));refine BX (EY ?_);refine BX ?_;refine BX ?_
 first | (refine BX (HD Y (EY ?_))) | (refine BX (H_ Y (EY ?_)))
 refine BX (PK L rfl ?_);have aa:Builtin.Dict_items.ownsTuple "dict_itemiterator" = true:=(by decide);simp only[aa,if_true];show BL _ _ (if(Value.ref d == Value.none)=true then _ else _) _ _ _;rw[if_neg (show ¬ ((Value.ref d == Value.none)=true) from cT)];refine BX (EY ?_);refine BX (QR ab ae ?_);rw[if_neg (by simp)];refine BX (EY ?_);refine BX (RW ab ae ?_);rw[if_neg (by simp)];refine EY ?_;simp only[show ¬ ((i:Int)<0) from(by lia),if_false,bC,hx];refine BX ?_
 first | (refine BX (HD Y (EY ?_))) | (refine BX (H_ Y (EY ?_)))
 refine BX (MP Y ?_);show BL _ _ (YT (.ref it) 3 (C_ ((i:Int)+1)) >>= _) _ _ ⟨K,g,dr,Z,os⟩;refine BX (DY L (by simp) λa p m=>?_);replace m:Heap.SameBut it K a:=m
 replace p:JZ a it d (i+1) es.size ep ok c:=(by
  have e:((i+1:Nat):Int)=(i:Int)+1:=(by lia);unfold JZ;rw[e];simpa[C_] using p)
 have C:Shared.TypeIs ⟨a,g,dr,Z,os⟩ (.ref it) "dict_itemiterator":=⟨_,p,rfl⟩;refine BX (HB ?_);refine BX (MP C ?_);refine BX (MP C ?_);show BL _ _ (Builtin.Dict_items.pairFromOwner (.ref it) 6 e.key e.val) _ _ ⟨a,g,dr,Z,os⟩;unfold Builtin.Dict_items.pairFromOwner;refine BX (PJ ?_);have n:JZ (a.push {cls:=.type "tuple",data:=.seq #[e.key,e.val] }) it d (i+1) es.size ep ok c:=JK _ p;generalize r:a.push {cls:=.type "tuple",data:=.seq #[e.key,e.val] }=u at n;have q:a.objs.size=K.objs.size:=m.1;have M:it<K.objs.size:=HX L;have T:u.get? K.objs.size=some {cls:=.type "tuple",data:=.seq #[e.key,e.val] }:=(by rw[<-r,<-q];exact K_ _ rfl);have O:u.objs.size=K.objs.size+1:=(by rw[<-r,Q_,q]);have U:∀b o,b≠it->K.get? b=some o->u.get? b=some o:=λb o X e=>(by rw[<-r];exact JK _ (m.extBut b o X e));show BL _ _ (Builtin.Dict_items.ownedTupleIsFree (.ref it) >>= _) _ _ ⟨u,g,dr,Z,os⟩;rw[q];clear r p m C q a;refine BX ?_;unfold Builtin.Dict_items.ownedTupleIsFree;refine BX (DW n rfl (x:=.none) rfl (EY ?_));simp only[if_true];refine BX (DW n rfl (x:=ok) rfl (BX (DW n rfl (x:=c) rfl ?_)));refine BX (DY n (by simp) λJ B l=>?_);replace l:Heap.SameBut it u J:=l;replace B:JZ J it d (i+1) es.size ep e.key c:=B;refine BX (DY B (by simp) λI z j=>?_);replace j:Heap.SameBut it J I:=j;replace z:JZ I it d (i+1) es.size ep e.key e.val:=z;refine BX (DY z (by simp) λH y h=>?_);replace h:Heap.SameBut it I H:=h;replace y:V_ H it d (i+1) es.size ep e.key e.val K.objs.size:=y;refine BX (DY y (by simp) λG v f=>?_);replace f:Heap.SameBut it H G:=f;replace v:V_ G it d (i+1) es.size ep e.key e.val K.objs.size:=v;refine BX (RM (EY (EY ⟨_,rfl,EY (hQ G v ?_ ?_ ?_)⟩)))
 ·exact f.extBut _ _ (VV M) (h.extBut _ _ (VV M) (j.extBut _ _ (VV M) (l.extBut _ _ (VV M) T)))
 ·show G.objs.size=K.objs.size+1;rw[f.1,h.1,j.1,l.1,O]
 ·exact λb o X e=>(f.extBut b o X (h.extBut b o X (j.extBut b o X (l.extBut b o X (U b o X e)))))
theorem kd4{d:BJ}{es:Array HF}{ok:A_}(o:A.handled=none)(e:JZ s.heap it d i es.size ep ok c)(h:s.heap.get? d=some od)(j:od.data=.dict es ep)(n:es[i]? = none)
  (p:∀l,lZ it s.heap l->Q none {s with heap:=l}):BL (BV P w) A (JG (.ref it)) Q E s:=by
 have f:s.TypeIs (.ref it) "dict_itemiterator":=⟨_,e,rfl⟩;unfold JG;refine BX (IW (DP (name:=Str.ofString "__next__") f F.slot_dict_itemiterator_next (CZ F.slot_dict_itemiterator_next f F.entry_dict_itemiterator_next ?_ (F.args_dict_itemiterator_next_1 _))));refine BX (EY ?_);refine BX ?_;refine BX ?_
 first | (refine BX (HD f (EY ?_))) | (refine BX (H_ f (EY ?_)))
 refine BX (PK e rfl ?_);have g:Builtin.Dict_items.ownsTuple "dict_itemiterator" = true:=(by decide);simp only[g,if_true];show BL _ _ (if(Value.ref d == Value.none)=true then _ else _) _ _ s;rw[if_neg (show ¬ ((Value.ref d == Value.none)=true) from cT)];refine BX (EY ?_);refine BX (QR h j ?_);rw[if_neg (by simp)];refine BX (EY ?_);refine BX (RW h j ?_);rw[if_neg (by simp)];refine EY ?_;simp only[show ¬ ((i:Int)<0) from(by lia),if_false,bC,n];refine BX ?_
 first | (refine BX (HD f (EY ?_))) | (refine BX (H_ f (EY ?_)))
 show BL _ _ (YT (.ref it) 2 .none >>= _) _ _ s;refine BX (GJ e rfl (by simp) ?_);show BL _ _ (XN (.type "StopIteration") [] >>= _) _ _ _;refine BX ?_;simp only[XN,j6];refine BX (CJ ?_ (by size_fits));refine BX (m:=JQ _ _) (RL (a:=Value.none) (by first |rfl | (simp only[JQ];rfl)) ?_);refine CJ ?_ (by size_fits);simp only[raiseNew];refine BX (VM ?_);rw[show A.in1.handled=none from o];refine BX (EY (YQ ?_));refine BX (JW (T:="StopIteration") (b:=true) ⟨_,K_ _ rfl,rfl⟩ UT (EY (p _ (((Heap.SameBut.update ..).extBut.push _).push _))))
end
end PySem
namespace PD
open PySem PySem.Spec PyProof.Rows L2
variable {X:Cx}
variable {H:Hp}{a:BJ}{u v:HO}{P:BW}{w:CQ}{o:GR}
section
variable {pins:List (BJ×GR)}{σ:St}{H:Hp}{s:BK}{a:BJ}{o:GR}{u:HO}
theorem q_:upd (upd H a u) a v=upd H a v:=by grind [Ak,Ae]
theorem we6{h:CP}(ok:HOk P w H h)(p:H a=some u)(n:∀z,u≠.own z)(m:∀z,u≠.tup z)(l:∀x z,u≠.frz x (.own z))(new:Cg P w H h a v):HOk P w (upd H a v) h:=λb x q=>by
 have i:∀b o y,H b=some (.frz o (.own y))->upd H a v b=some (.frz o (.own y)):=λb o y e=>by grind [Ae,Option.some.inj]
 have g:∀b y,H b=some (.own y)->upd H a v b=some (.own y):=λb y e=>by grind [Ae,Option.some.inj]
 have f:∀b y,H b=some (.tup y)->upd H a v b=some (.tup y):=λb y e=>by grind [Ae,Option.some.inj]
 by_cases j:b=a
 ·subst j;rw[Ak]at q;cases q;exact new.stay (λ_ _ _ e=>e) (λc e=>g c _ e) f i
 ·rw[Ae j]at q;exact(ok b x q).stay (λ_ _ _ e=>e) (λc e=>g c _ e) f i
theorem Inv.swap(I:Inv X pins σ H s)(f:H a=some u)(j:∀z,u≠.own z)(i:∀z,u≠.tup z)(h:∀z,u≠.tbl z)(E:(∀x z,u≠.frz x z)\/X.H₀ a=none)(new:Cg X.prog X.w H s.heap a v)(g:∀x z,u≠.frz x (.own z):=by intro _ _ z;cases z):Inv X pins σ (upd H a v) s:=by
 have ne:∀b,H b=none->upd H a v b=none:=λb e=>by rw[Ae (λz=>by rw[z,f]at e;cases e)];exact e
 refine⟨I.ok,I.os,I.bare,⟨I.base.keep,I.base.slot,λb x q n l=>ne b (I.base.free b x q n l),I.base.there,λb C q=>?_,λb x y q=>?_,λb ps q=>?_⟩,I.loc,I.cell,ne _ I.free,λx c e=>ne _ (I.freeC x c e),λp m=>?_,we6 I.hok f j i g new,I.len⟩
 ·grind [I.base.tups,Ae,Option.some.inj]
 ·grind [I.base.frzs,Ae,Option.some.inj]
 ·obtain⟨more,e⟩:=I.base.tbls b ps q;exact⟨more,by rw[Ae (λz=>by rw[z,f]at e;exact h _ (Option.some.inj e))];exact e⟩
 ·refine gH (λB A r=>?_) (I.pin p m);exact⟨B,ne _ A,r⟩
def Inv.thaw(I:Inv X pins σ H s)(b:H a=some (.frz o v))(f:X.H₀ a=none)(c:∀z,v≠.own z:=by intro _ z;cases z):Inv X pins σ (upd H a v) s:=
 Inv.swap I b (λ_ z=>by cases z) (λ_ z=>by cases z) (λ_ z=>by cases z) (.inr f) (I.hok a _ b).2 λx z e=>by cases e;exact c _ rfl
def Inv.cold{b:List (List Key×V)}(I:Inv X pins σ H s)(g:H a=some (.dT b)):∃o,Inv X pins σ (upd H a (.frz o (.dT b))) s:=by obtain⟨z,y,h,r,f,i,j,e,c⟩:=(show Cg X.prog X.w H s.heap a (.dT b) from I.hok a _ g);exact⟨f,Inv.swap I g (λ_ z=>by cases z) (λ_ z=>by cases z) (λ_ z=>by cases z) (.inl λ_ _ z=>by cases z) ⟨e,z,y,h,r,f,i,j,e,c⟩⟩
end
variable {pos:HY}
section
variable {o i c f:B_}{td ty g tx:TE}{e apos cpos:HY}
def wk0:PE X (.Dict [] [] pos) (λ_ H Q=>∀p,H p=none->∀j,Q (.ref p) (upd H p (.frz j (.dT [])))):=λb s q H Q I h=>by refine GK (wk2 b s q H (λv n=>∃p,v=.ref p/\H p=none/\n=upd H p (.dT [])) I λp l=>⟨p,rfl,l,rfl⟩) (λu A x=>?_) λ_ _ z=>z;obtain⟨v,n,y,r,p,rfl,l,rfl⟩:=x;obtain⟨j,m⟩:=Inv.cold y Ak;rw[q_]at m;exact⟨_,_,m,r,h p l j⟩
def wk7(hu:X.A.units+1<FW)(ho:PE X o td)(hi:PE X i ty)(hv:PE X c g)(hs:FJ c (some (.Subscript o i e)) pos.line X.env=pure false):
  PS X (.Assign [.Subscript o i e] c pos) (λD l H=>g l H λv E=>td l E λx C=>ty l C λy p=>∃a F m k b,x=.ref a/\p a=some (.frz F (.dT m))/\X.H₀ a=none/\y=.ref b/\p b=some (.tup (k.map kV))/\m.length<sizeLine/\∀n,D.nx l (upd p a (.frz n (.dT (putK m k v))))):=by
 intro j s l H D I h;refine W_ (thG (hv j s l H _ I h) λr M v E I1 T Z=>thG (ho j M l E _ I1 Z) λu L x C I2 Q Y=>thG (hi j L l C _ I2 Y) λiv s3 y p I3 O K=>?_) hs;revert K;refine gF λa F m k b ex G h0 ey B hl U=>?_;subst ex;subst ey;obtain rfl:u=Value.ref a:=Q;have q:b≠a:=λz=>by rw[z,G]at B;cases B
 refine jf3 hu (Inv.thaw I3 G h0) (aV.t (k:=k) Ak (by rw[Ae q];exact B) hl) O T λs4 I4=>?_;obtain⟨n,J⟩:=Inv.cold I4 Ak;rw[q_,q_]at J;exact⟨l,_,J,U n⟩
end
def Idi(a:BJ)(o:GR)(c:List (List Key×V)):It:=
 ⟨λi H=>H a=some (.frz o (.dT c))/\i<c.length,λi H x e=>∃t b k v,x=.ref t/\H t=none/\e=upd H t (.tup [.ref b,v])/\c[i]? = some (k,v)/\H b=some (.tup (k.map kV)),λi H=>H a=some (.frz o (.dT c))/\c.length<=i⟩
theorem Z0{b c:Type}{F:b->c->Prop}:∀{l:List b}{m:List c}{i:Nat}{x:b},VG F l m->l[i]? = some x->∃y,m[i]? = some y/\F x y
 |_,_,i,x,.nil,h=>by simp at h
 |_,_,0,x,.cons r t,h=>by simp at h;subst h;exact⟨_,by simp,r⟩
 |_,_,i+1,x,.cons r t,h=>by refine Aw (λy e q=>?_) (Z0 (i:=i) t (by simpa using h));simp_all
variable {K:BZ}{B:List B_}
theorem kh3{k:Nat}(a it:BJ)(o:GR)(kvs:List (List Key×V))(hne:a≠it):
  Turn P w K (.Tuple B k pos) (Idi a o kvs) [it] it (λi h=>∃es ep ok ov,o.data=.dict es ep/\JZ h it a i es.size ep ok ov) where
 mem:=by simp
 obj:=λi h st b hb=>by grind
 keep:=λi h h' st kp=>by obtain⟨es,ep,ok,ov,hd,he⟩:=st;exact⟨es,ep,ok,ov,hd,kp it (by simp) _ he⟩
 item:=by
  intro X hP hw hK hc i pins s σ H E I hf st hg;subst hP hw hK;obtain⟨ha,hi⟩:=hg;obtain⟨es,ep,ok,ov,hd,he⟩:=st;obtain⟨ho,z,y,xs,r,ob,es',ep',e1,ex,e2,e3,nd⟩:=I.hok a _ ha;have eo:o=ob:=Option.some.inj (ho.symm.trans e1);subst eo;rw[hd]at e2;cases e2;obtain⟨q,hq,hq1,hq2,hq3⟩:=Z0 r (LR hi);have hes:es[i]? = some (entryOfKey (L_ (Bv X.prog X.w)) q):=by rw[entry_at e3,hq];rfl
  refine kd7 he ho hd hes λh1 heo ht1 hz1 hk1=>⟨_,rfl,?_⟩;refine wpAny_letOwnedTupleGo_items heo λh2 he2 hs2=>?_;have hT:s.heap.objs.size≠it:=VV (HX he);have ht2:h2.get? s.heap.objs.size=some {cls:=.type "tuple",data:=.seq #[.ref q.2.1,q.2.2] }:=(hs2.2 _ hT).trans ht1;have I2:Inv X pins σ (upd H s.heap.objs.size (.tup [.ref q.2.1,kvs[i].2])) {s with heap:=h2}:=
   Gs (t':=s.toks) I hf (λb o hb q=>by
    have hb':b≠it:=by simpa using hb
    exact(hs2.2 b hb').trans (hk1 b o hb' q)) (GX _)
    (show Cg X.prog X.w _ h2 _ (.tup [.ref q.2.1,kvs[i].2]) from⟨by show 2<=sizeLine;rw[CG];lia,[.ref q.2.1,q.2.2],.cons rfl (.cons hq3 .nil),⟨_,ht2,rfl,_,rfl⟩⟩)
  refine⟨.ref s.heap.objs.size,_,I2,rfl,⟨_,q.2.1,kvs[i].1,kvs[i].2,rfl,I.hok.fresh (GX _),rfl,LR hi,hq2⟩,⟨es,ep,_,_,hd,he2⟩,λb hb=>?_⟩;rw[PX.mp hb,Ae (Ne.symm hT)];exact(hf it (by simp)).1
 done:=by
  intro X hP hw hK hc i pins s σ H E I hf st hg;subst hP hw hK;obtain⟨ha,hi⟩:=hg;obtain⟨es,ep,ok,ov,hd,he⟩:=st;obtain⟨ho,z,y,xs,r,ob,es',ep',e1,ex,e2,e3,nd⟩:=I.hok a _ ha;have eo:o=ob:=Option.some.inj (ho.symm.trans e1);subst eo;rw[hd]at e2;cases e2;have hl:xs.length=kvs.length:=(Paired.length r).symm;have hes:es[i]? = none:=by rw[entry_at e3,fL (by lia)];rfl
  exact kd4 (by simpa using I.ok.hd hc) he ho hd hes λh' eb=>⟨rfl,Qt (t':=s.toks) I hf λb o hb q=>eb b o (λz=>hb (by simp[z])) q⟩
 self:=λA i s Q E st h=>by obtain⟨es,ep,ok,ov,hd,he⟩:=st;exact W.kcp_self he h
def Dz:List D->Option (List Key)
 | []=>some []
 | .int i::r=>(Dz r).map λk=>Sum.inl i::k
 | .str x::r=>(Dz r).map λk=>Sum.inr x::k
 |_=>none
theorem Vd:∀k:List Key,Dz (k.map kyD)=some k
 | []=>rfl
 | .inl i::r=>by rw[HH];show(Dz (r.map kyD)).map _=_;rw[Vd r];rfl
 | .inr x::r=>by rw[HH];show(Dz (r.map kyD)).map _=_;rw[Vd r];rfl
theorem Qu:∀{l:List D}{k:List Key},Dz l=some k->l=k.map kyD
 | [],k,h=>by cases h;rfl
 | .int i::r,k,h=>by
  cases e:Dz r with
  |none=>simp[Dz,e]at h
  |some b=>simp[Dz,e]at h;subst h;rw[Qu e];rfl
 | .str x::r,k,h=>by
  cases e:Dz r with
  |none=>simp[Dz,e]at h
  |some b=>simp[Dz,e]at h;subst h;rw[Qu e];rfl
 | .non::r,k,h=>by simp[Dz]at h
 | .bl _::r,k,h=>by simp[Dz]at h
 | .tup _::r,k,h=>by simp[Dz]at h
 | .lst _::r,k,h=>by simp[Dz]at h
 | .exc _ _ _::r,k,h=>by simp[Dz]at h
theorem tM{K:BZ}{H:Hp}{S:AS}:∀k:List Key,Al K H S (k.map kyD) (k.map kV)
 | []=>Al.nil
 | .inl i::r=>.cons (show Rep K H S (.int i) (.int i) from rfl) (tM r)
 | .inr x::r=>.cons (show Rep K H S (.str x) (.str x) from rfl) (tM r)
theorem T9{K:BZ}{H:Hp}{S:AS}:∀{k:List Key}{vs:List V},Al K H S (k.map kyD) vs->vs=k.map kV
 | [],vs,h=>h
 | .inl i::r,vs,h=>by revert h;refine Bo λv t c f e=>?_;obtain rfl:=c;rw[T9 e];cases(show v=.int i from f);rfl
 | .inr x::r,vs,h=>by revert h;refine Bo λv t b f e=>?_;obtain rfl:=b;rw[T9 e];cases(show v=.str x from f);rfl
def dU:D->Option (List Key)
 | .tup l=>Dz l
 |_=>none
def Rc:List D->List D->List Key->Option D
 |kd::ks,f::fs,k=>if dU kd=some k then some f else Rc ks fs k
 |_,_,_=>none
def dput:List D->List D->List Key->D->List D×List D
 |kd::ks,f::fs,k,v=>if dU kd=some k then(kd::ks,v::fs) else((kd::(dput ks fs k v).1),(f::(dput ks fs k v).2))
 |_,_,k,v=>([.tup (k.map kyD)],[v])
def O1(k:List Key):dU (.tup (k.map kyD))=some k:=Vd k
theorem jf4{K:BZ}{H:Hp}{S:AS}(k:List Key):∀{kk:List (List Key)}{fs:List D}{vs:List V},kk.length=vs.length->Al K H S fs vs ->
  (P0 (kk.zip vs) k=none/\Rc (kk.map λk=>D.tup (k.map kyD)) fs k=none)\/∃v f,P0 (kk.zip vs) k=some v/\Rc (kk.map λk=>D.tup (k.map kyD)) fs k=some f/\Rep K H S f v
 | [],fs,vs,b,r=>by
  have:vs=[]:=by cases vs<;>simp at b ⊢
  subst this;exact .inl ⟨rfl,by simp[Rc]⟩
 |q::kk,fs,[],b,r=>by simp at b
 |q::kk,fs,v::vs,b,r=>by
  have c:kk.length=vs.length:=by simpa using b
  cases fs with
  |nil=>cases(show v::vs=[] from r)
  |cons f fs =>
   revert r;refine Bo λl g e j i=>?_;cases e;rw[XS,HH];by_cases h:q=k
   ·exact .inr ⟨v,f,Qc h,by rw[Rc,if_pos (by rw[O1,h])],j⟩
   ·rw[Qa h,Rc,if_neg (by rw[O1];intro z;exact h (Option.some.inj z))];exact jf4 k c i
variable {q:List Key}{r:List (List Key×V)}
theorem jo8{k:List Key}{u v:V}(h:q=k)(f:¬ k∈r.map (·.1)):putK ((q,u)::r) k v=(q,v)::r:=by
 have e:r.map (λb=>if b.1=k then(b.1,v) else b)=r:=by refine(SJ λx c=>?_).trans (List.map_id r);grind
 unfold putK;simp_all
theorem jo9{k:List Key}{u v:V}(h:¬ q=k):putK ((q,u)::r) k v=(q,u)::putK r k v:=by unfold putK;grind
theorem jt3{K:BZ}{H:Hp}{S:AS}(k:List Key){d:D}{v:V}(m:Rep K H S d v):∀{kk:List (List Key)}{fs:List D}{vs:List V},kk.length=vs.length->kk.Nodup->Al K H S fs vs ->
  ∃(b:List (List Key))(c:List V),putK (kk.zip vs) k v=b.zip c/\b.length=c.length/\b.Nodup/\(∀x∈b,x∈kk\/x=k)/\(dput (kk.map λk=>D.tup (k.map kyD)) fs k d).1=b.map (λk=>D.tup (k.map kyD))/\Al K H S (dput (kk.map λk=>D.tup (k.map kyD)) fs k d).2 c
 | [],fs,vs,i,l,r=>by
  have:vs=[]:=by cases vs<;>simp at i ⊢
  subst this;refine⟨[k],[v],rfl,rfl,by simp,by simp,by simp[dput],?_⟩;simp only[cL,dput];exact .cons m Al.nil
 |q::kk,fs,[],i,l,r=>by simp at i
 |q::kk,fs,u::vs,i,l,r=>by
  have g:kk.length=vs.length:=by simpa using i
  obtain⟨s,n⟩:=R_.mp l;cases fs with
  |nil=>cases(show u::vs=[] from r)
  |cons f fs =>
   revert r;refine Bo λM c e C p=>?_;cases e;rw[XS,HH];by_cases h:q=k
   ·refine⟨q::kk,v::vs,?_,by simp[g],l,λx j=>.inl j,?_,?_⟩
    ·rw[jo8 h (λz=>by
      refine Aw (λx j e=>?_) (I_.mp z);exact s (h ▸ e ▸ (mR j).1)),XS]
    ·rw[dput,if_pos (by rw[O1,h])];rfl
    ·rw[dput,if_pos (by rw[O1,h])];exact .cons m p
   ·refine oN (λb A L J I G F E=>?_) (jt3 k m g n p);have y:¬ dU (.tup (q.map kyD))=some k:=by rw[O1];intro z;exact h (Option.some.inj z)
    refine⟨q::b,u::A,by rw[jo9 h,L,XS],by simp[J],R_.mpr ⟨λz=>(G q z).elim s (λz=>h z),I⟩,λx j=>?_,?_,?_⟩
    ·grind
    ·rw[dput,if_neg y];show _::_=_;rw[F];rfl
    ·rw[dput,if_neg y];exact .cons C E
def W8(ks fs:List D):D:=.exc "dict" ks fs
def pB:D->Option (List D×List D)
 | .exc c ks b=>if c = "dict" then some (ks,b) else none
 |_=>none
theorem ks4{d:D}{p:List D×List D}(h:pB d=some p):d=W8 p.1 p.2:=by
 cases d with
 |exc c ks b =>
  by_cases e:c = "dict"
  ·subst e;have h:(if("dict" : BR) = "dict" then some (ks,b) else none)=some p:=h;rw[if_pos rfl]at h;cases h;rfl
  ·have h:(if c = "dict" then some (ks,b) else none)=some p:=h;lia
 |_=>cases h
def ks3(ks fs:List D):pB (W8 ks fs)=some (ks,fs):=by rfl
def gvD(i:Nat):Ev->R (List D×List D):=λb=>(gv i b).bind λd=>R.of (pB d)
def kZ(i:Nat)(fks:Ev->R (List D))(f0:Ev->R D):Ev->R D:=λb=>(gvD i b).bind λp=>(fks b).bind λl=>if l.length<=16777216 then(f0 b).bind λz=>R.of ((Dz l).map λk=>(Rc p.1 p.2 k).getD z) else .bad
def kY(i:Nat)(fks:Ev->R (List D))(c:Ev->R D):Ev->R Fl:=λb=>(c b).bind λv=>(gvD i b).bind λp=>(fks b).bind λl=>if l.length<=16777216/\p.1.length<16777216 then(R.of (Dz l)).bind λk=>.ok (.nx (b.set i (some (W8 (dput p.1 p.2 k v).1 (dput p.1 p.2 k v).2)))) else .bad
def itI(i:Nat):Ev->R (List D):=λb=>(gvD i b).bind λp=>.ok ((p.1.zip p.2).map λq=>.tup [q.1,q.2])
variable {i:Nat}{ρ:Ev}
def rW{q:List D×List D->Prop}{e:D->Prop}(h:RQ (gvD i ρ) q e):∃p,ρ[i]? = some (some (W8 p.1 p.2))/\q p:=by refine Aw (λd b h=>?_) (Zg (RQ.bind.mp h));refine Aw (λp c h=>?_) (h.of);rw[ks4 c]at b;exact⟨p,b,h⟩
variable {c:DC}{f:Ev->R D}
variable {p y apos cpos j:HY}{x:BR}
section
variable {l:Lv}{e:B_}{es:List B_}{g f0:Ev->R D}{fks:Ev->R (List D)}
def rM{hs:List Hd}{b:St}{ks fs:List D}(E:Ar K c hs ρ b H)(h:i∈c.O)(m:ρ[i]? = some (some (W8 ks fs))):
  ∃(a:BJ)(vs:List V)(kk:List (List Key))(o:GR),b[i]? = some (some (.ref a))/\(c.H0 a=none/\a∉c.Z)/\ks=kk.map (λk=>D.tup (k.map kyD))/\kk.length=vs.length/\kk.Nodup/\H a=some (.frz o (.dT (kk.zip vs)))/\Al K H (c.N ρ b) fs vs:=by
 refine Gx (λa L J I=>?_) (E.own i _ h m);refine Aw (λvs G F=>?_) (I.dct);rcases G with ⟨_,kk,C,A,z,o,s⟩ | ⟨n,_⟩
 ·exact⟨a,vs,kk,o,L,J,C,A,z,s,F⟩
 ·exact absurd n (by decide)
def ze9(i:Nat)(m:X.N.Nodup)(s:c.O.contains i=true:=by rfl)(A:X.N[i]? = some x:=by rfl)(n:Loc X.env.scope x:=by first |exact Or.inl rfl |exact Or.inr rfl)(hs:FJ (.Dict [] [] p) (some (.Name x y)) pos.line X.env=pure false:=by rfl)
  (z:X.fn x=true\/X.env.scope.names.lookup x=some .local:=by first |exact .inl rfl |exact .inr rfl):PSd X c (.Assign [.Name x y] (.Dict [] [] p) pos) (asg i (kd (W8 [] []))):=PS.imp (pZ (i:=i) m A n wk0 hs z) λF C H q=>by
 revert q;refine Ce λhs ρ E q=>?_;intro a b h;exact q _ _ (E.setW (by simpa using s) (Av b _) b (.inr ⟨[],"dict",[],[],rfl,.inl ⟨rfl,[],rfl,rfl,iT,h,Ak⟩,Al.nil⟩))
theorem yz3(hu:X.A.units+70<FW)(i:Nat){x1}{f':B_}(he:PAd X c .no es fks)(Y:PEd X c .no f' f0)(hi:c.O.contains i=true:=by rfl)(hN:X.N[i]? = some x:=by rfl)(hv:Vis X.env.scope x:=by first |exact Or.inl rfl |exact Or.inr (Or.inl rfl) |exact Or.inr (Or.inr rfl))(Z:Zd x:=by decide)
  (aa:(x == ("__classdict__" : BR))=false:=by decide)(m:M2 X (.Name x p) "get" apos (.Tuple es x1 j) f' cpos:=by exact⟨rfl,rfl,rfl,rfl⟩):PEd X c .no (.Call (.Attribute (.Name x p) "get" apos) [.Tuple es x1 j,f'] [] cpos) (kZ i fks f0):=
 PE.imp (wj9 (by lia) (pv i hN hv Z aa) (p7 he) Y m) λσ H Q q=>by
 revert q;refine Ce λhs ρ E q=>?_;have U:i∈c.O:=by simpa using hi
 refine Aw (λpr Z q=>?_) (rW (RQ.bind.mp q));refine vG (λa vs kk o e1 e2 e3 e4 e5 e6 e7=>?_) (rM E U Z);refine⟨.ref a,e1,a,rfl,.inr ⟨_,.inr ⟨o,e6⟩⟩,?_⟩;refine Ck E ((RQ.bind.mp q).mono (λds G xs H1 s E1 r1 hn=>?_) λ_ z=>z);by_cases M:ds.length<=16777216
 ·rw[if_pos M]at G;refine⟨Hu (by rw[<-r1.length];exact M),λt ht=>?_⟩;have b:=Av ht (.tup xs);refine Aq (E1.mono b) ((RQ.bind.mp G).mono (λdz q2 vz J n E2 r2=>?_) λe z=>Bf z (s.trans b));refine Aw (λd I h=>?_) (q2.of);cases T:Dz ds with
  |none=>rw[T]at I;cases I
  |some k =>
   rw[T]at I;cases I;have ev:=T9 (by rw[<-Qu T];exact r1);subst ev;have F:J a=some (.frz o (.dT (kk.zip vs))):=n _ _ (b _ _ (s _ _ e6));have C:J t=some (.tup (k.map kV)):=n _ _ Ak;dsimp only at h;rw[e3]at h;rcases jf4 k e4 e7 with ⟨v1,L⟩ | ⟨v,f1,v1,L,v3⟩
   ·refine⟨none,.inr ⟨_,k,t,.inr ⟨o,F⟩,rfl,C,v1.symm⟩,?_⟩;rw[L]at h;exact h _ J ((s.trans b).trans n) (r2.mono (Ad.refl _) λ_ z=>z)
   ·refine⟨some v,.inr ⟨_,k,t,.inr ⟨o,F⟩,rfl,C,v1.symm⟩,?_⟩;rw[L]at h;exact h _ J ((s.trans b).trans n) (v3.mono ((s.trans b).trans n) λ_ z=>z)
 ·rw[if_neg M]at G;exact G.elim
theorem yx2(hu:X.A.units+70<FW)(i:Nat){x1}{value:B_}(hv:PEd X c .no value g)(he:PAd X c .no es fks)(hX:∀b,c.H0 b=none->X.H₀ b=none)(hi:c.O.contains i=true:=by rfl)(hN:X.N[i]? = some x:=by rfl)(h:Vis X.env.scope x:=by first |exact Or.inl rfl |exact Or.inr (Or.inl rfl) |exact Or.inr (Or.inr rfl))(G:Zd x:=by decide)
  (U:(x == ("__classdict__" : BR))=false:=by decide)(hs:FJ value (some (.Subscript (.Name x p) (.Tuple es x1 j) y)) pos.line X.env=pure false:=by rfl):PSd X c (.Assign [.Subscript (.Name x p) (.Tuple es x1 j) y] value pos) (kY i fks g):=
 PS.imp (wk7 (by lia) (pv i hN h G U) (p7 he) hv hs) λD0 Z H q=>by
 revert q;refine Ce λhs ρ E q=>?_;have n:i∈c.O:=by simpa using hi
 refine Aq E ((RQ.bind.mp q).mono (λd L v H1 s1 Y r1=>?_) λx z=>Hb E z);refine Aw (λpr G L=>?_) (rW (RQ.bind.mp L));refine vG (λa vs kk o e1 e2 e3 e4 e5 e6 e7=>?_) (rM Y n G);refine⟨.ref a,e1,?_⟩;refine Ck Y ((RQ.bind.mp L).mono (λds F xs H2 I E2 r2 hn=>?_) λx z=>Hb Y z);by_cases T:ds.length<=16777216/\pr.1.length<16777216
 ·rw[if_pos T]at F;refine⟨Hu (by rw[<-r2.length];exact T.1),λt ht=>?_⟩;have C:=Av ht (.tup xs);refine Aw (λk hk q3=>?_) ((RQ.bind.mp F).of);have ev:=T9 (by rw[<-Qu hk];exact r2);subst ev;have s:upd H2 t (.tup (k.map kV)) a=some (.frz o (.dT (kk.zip vs))):=C _ _ (I _ _ e6);have m:(kk.zip vs).length<sizeLine:=by
   have h1:pr.1.length=kk.length:=by rw[e3,GQ]
   rw[tV,CG];lia
  refine⟨a,o,_,k,t,rfl,s,hX a e2.1,rfl,Ak,m,λM=>?_⟩;have E3:=E2.mono C;have J:Rep X.K (upd H2 t (.tup (k.map kV))) (c.N ρ Z) d v:=r1.mono (I.trans C) λ_ z=>z;refine oN (λQ aa p1 p2 p3 _ p5 p6=>?_) (jt3 k J e4 e5 (e7.mono (I.trans C) λ_ z=>z));rw[p1];rw[<-e3]at p5 p6;exact q3 Z _ (E3.writeD (cc:="dict") n G e1 s rfl (.inl ⟨rfl,Q,p5,p2,p3,M,Ak⟩) p6)
 ·rw[if_neg T]at F;exact F.elim
theorem ks9{kk:List (List Key)}{vs:List V}{fs:List D}(hl:kk.length=vs.length):ItD K (Idi a o (kk.zip vs)) (((kk.map λk=>D.tup (k.map kyD)).zip fs).map λq=>.tup [q.1,q.2]) λH S=>(H a=some (.frz o (.dT (kk.zip vs)))/\S (some a))/\Al K H S fs vs where
 stab:=⟨λs hS h=>⟨⟨s _ _ h.1.1,hS _ h.1.2⟩,h.2.mono s hS⟩,λhl hn h=>⟨⟨by rw[Ae (λz=>by rw[z,hl]at h;cases h.1.1)];exact h.1.1,h.1.2⟩,h.2.wr hl hn⟩,
  λhl ho hn h=>⟨⟨by rw[Ae (λz=>hn (by rw[<-z];exact h.1.2))];exact h.1.1,h.1.2⟩,h.2.wrD hl ho hn⟩,λhp h=>⟨⟨h.1.1,h.1.2,λz=>by cases z;rw[hp]at h;cases h.1.1⟩,h.2.avoid hp⟩⟩
 go:=λi H S hi h=>by have:=h.2.length;refine⟨h.1.1,?_⟩;simp_all
 yld:=λi H S x H' h y=>by
  revert y;refine zj9 λt b k v hz1 ht hz2 hk hb=>?_;obtain rfl:=hz1;obtain rfl:=hz2;have s1:=Av ht (.tup [.ref b,v]);refine⟨s1,λd hd=>?_⟩;obtain⟨h1,h2⟩:=uN.mp hk;rw[RB]at hd;cases hz:((kk.map λk=>D.tup (k.map kyD)).zip fs)[i]? with
  |none=>rw[hz]at hd;cases hd
  |some q=>rw[hz]at hd;cases hd;obtain⟨h3,h4⟩:=uN.mp hz;rw[RB,h1]at h3;have e3:q.1=D.tup (k.map kyD):=(Option.some.inj h3).symm;refine Aw (λw hw rw'=>?_) (h.2.get h4);have ev:v=w:=Option.some.inj (h2.symm.trans hw);subst ev;show Rep K _ S (D.tup [q.1,q.2]) _;rw[e3];exact⟨t,_,rfl,TpR.of Ak,.cons ⟨b,_,rfl,TpR.of (s1 _ _ hb),tM k⟩ (.cons (rw'.mono s1 λ_ z=>z) Al.nil)⟩
 stop:=λi H S hi h=>by have:=h.2.length;refine⟨h.1.1,?_⟩;simp_all
def ym3(i:Nat){k:Nat}(hi:c.O.contains i=true:=by rfl)(hN:X.N[i]? = some x:=by rfl)(hv:Vis X.env.scope x:=by first |exact Or.inl rfl |exact Or.inr (Or.inl rfl) |exact Or.inr (Or.inr rfl))(hd:Zd x:=by decide)
  (aa:(x == ("__classdict__" : BR))=false:=by decide)(C:DG (.Name x p) "items" X.env (CV (.Name x p) X.env)=CV (.Name x p) X.env:=by rfl)(A:(apos.endLine == cpos.line)=true:=by rfl):
  PId X c .any (.Tuple B k j) (.Call (.Attribute (.Name x p) "items" apos) [] [] cpos) (itI i):=by
 intro G s σ H R I h;obtain⟨hs,ρ,E,q⟩:=h;have Y:i∈c.O:=by simpa using hi
 obtain⟨pr,Z,q⟩:=rW (RQ.bind.mp q);obtain⟨a,vs,kk,o,e1,e2,e3,e4,e5,e6,e7⟩:=rM E Y Z;refine wpAny_Call_method0_late C A (thG (pv i hN hv hd aa G s σ H (λv H'=>v=.ref a/\H'=H) I ⟨_,e1,rfl,rfl⟩) λv m x' H1 M r1 n=>?_);obtain⟨ex,eH⟩:=n;subst ex;subst eH;obtain rfl:v=Value.ref a:=r1;obtain⟨Q,t2,J⟩:=yU M (.inr ⟨_,.inr ⟨o,e6⟩⟩);refine⟨"dict","dict.items",PySem.F.plainAttrs_dict,PySem.F.slot_dict_items,PySem.F.type_dict_items,Q,t2,Calls.callWith_builtin rfl (PySem.evalArgs_none ?_)⟩;refine YB PySem.F.slot_dict_items Q PySem.F.entry_dict_items (PySem.F.args_dict_items_1 _) (kd6 a J) ⟨Q,?_⟩;obtain⟨T,z,y,xs,r,ob,es,ep,f1,f2,f3,f4,f5⟩:=M.hok a _ e6;have eo:o=ob:=Option.some.inj (T.symm.trans f1);subst eo;have U:a<m.heap.objs.size:=HX T;refine kd5 (od:=o) (es:=es) (ep:=ep) ⟨_,K_ _ rfl,rfl,rfl⟩ (JK _ T) f3 ?_;have hz:(m.heap.push {cls:=.type "dict_items",data:=.fields #[.ref a] }).objs.size=m.heap.objs.size+1:=Q_ ..;refine⟨(m.heap.push {cls:=.type "dict_items",data:=.fields #[.ref a] }).objs.size,[(m.heap.push {cls:=.type "dict_items",data:=.fields #[.ref a] }).objs.size],_,_,H1,rfl,M.kept (t':=m.toks) λb w e=>JK _ (JK _ e),kh3 a _ o (kk.zip vs) (by rw[hz];exact MJ (cR U)),⟨es,ep,.none,.none,f3,K_ _ rfl⟩,λb hb=>?_,?_⟩
 ·rw[PX.mp hb];have L:m.heap.objs.size<=(m.heap.push {cls:=.type "dict_items",data:=.fields #[.ref a] }).objs.size:=by rw[hz];exact iQ _
  exact M.fpOk L (M.hok.fresh L)
 ·have q:=q;rw[e3]at q;exact q _ _ H1 (Ad.refl _) (ks9 (a:=a) (o:=o) (fs:=pr.2) e4) ⟨⟨e6,.inr ⟨a,rfl,e2.1,e2.2⟩⟩,e7.mono (Ad.refl _) λ_ z=>z.1⟩
end
def yl1{l:BR->Option A_}{base:CP}{qual:BR}{st:CT}{f:BJ}{e:DX}{N ps:List BR}{k:Nat}(F:Fun K x qual st f e)(S:Bt N ps (Ag st)):
  Ec P w K l base CX0 (k+1) f e ps (sp0 K ps.length λ_=>.bad):=F.ok S (λg H Q E h=>h.1) (λm A b s H g Q E n h=>by
 obtain⟨_,C,z,r,q⟩:=h;exact q.elim)
def pC{ks fs:List D}(h:gv i ρ=.ok (W8 ks fs)):gvD i ρ=.ok (ks,fs):=by unfold gvD;rw[h,R.ok_bind,ks3];rfl
variable {l:List D}{fks:Ev->R (List D)}
def wt4{ks fs:List D}{f0:Ev->R D}{z:D}{k:List Key}(h:gv i ρ=.ok (W8 ks fs))(h1:fks ρ=.ok l)(b:l.length<=16777216)(g:f0 ρ=.ok z)(e:Dz l=some k):
  kZ i fks f0 ρ=.ok ((Rc ks fs k).getD z):=by
 unfold kZ;rw[pC h,R.ok_bind,h1,R.ok_bind,if_pos b,g,R.ok_bind,e];rfl
def wt5{ks fs:List D}{e:Ev->R D}{v:D}{k:List Key}(m:e ρ=.ok v)(h:gv i ρ=.ok (W8 ks fs))(h1:fks ρ=.ok l)(g:l.length<=16777216)(b:ks.length<16777216)(n:Dz l=some k):
  kY i fks e ρ=.ok (.nx (ρ.set i (some (W8 (dput ks fs k v).1 (dput ks fs k v).2)))):=by
 unfold kY;rw[m,R.ok_bind,pC h,R.ok_bind,h1,R.ok_bind,if_pos ⟨g,b⟩,n];rfl
def yy2{ks fs:List D}(h:gv i ρ=.ok (W8 ks fs)):itI i ρ=.ok ((ks.zip fs).map λq=>.tup [q.1,q.2]):=by unfold itI;rw[pC h];rfl
section
variable {a:B_}
def u1(h:PEd X c .fr a f):PEd X c .no a f:=h.up
def u3(h:PEd X c .no a f):PEd X c .any a f:=h.up
end
def ll0{b:Type}{P:List b->Prop}(h:P []):∀e:List b,e.length=0->P e
 | [],_=>h
def ll1{b:Type}{P:List b->Prop}(h:∀a,P [a])(us:List b)(e:us.length=1):P us:=by
 cases us with
 |nil=>cases e
 |cons a us=>exact ll0 (P:=λu=>P (a::u)) (h a) us (Nat.succ.inj e)
def ll2{g:Type}{P:List g->Prop}(h:∀a b,P [a,b])(us:List g)(e:us.length=2):P us:=by
 cases us with
 |nil=>cases e
 |cons a us=>exact ll1 (P:=λu=>P (a::u)) (h a) us (Nat.succ.inj e)
def ll3{g:Type}{P:List g->Prop}(h:∀a b c,P [a,b,c])(us:List g)(e:us.length=3):P us:=by
 cases us with
 |nil=>cases e
 |cons a us=>exact ll2 (P:=λu=>P (a::u)) (h a) us (Nat.succ.inj e)
def ll4{g:Type}{P:List g->Prop}(h:∀a b c d,P [a,b,c,d])(us:List g)(e:us.length=4):P us:=by
 cases us with
 |nil=>cases e
 |cons a us=>exact ll3 (P:=λu=>P (a::u)) (h a) us (Nat.succ.inj e)
def ll5{g:Type}{P:List g->Prop}(h:∀a b c d e,P [a,b,c,d,e])(us:List g)(e:us.length=5):P us:=by
 cases us with
 |nil=>cases e
 |cons a us=>exact ll4 (P:=λu=>P (a::u)) (h a) us (Nat.succ.inj e)
def FI(K:BZ)(x:BR)(st:CT):Prop:=∃(f:BJ)(b:DX),W.nsIn K PySem.mainGlobals x=some (some (.ref f))/\Fun K x x st f b/\W.keepIn K (.ref f)=true
section
variable {P:BW}{w:CQ}{K:BZ}{h:CP}{mg:BR->Option A_}{base:CP}{x:BR}{st:CT}{k n:Nat}{ps:List BR}{m:List D->R D}
def Bc{f:BJ}{z:A_}{od an:Option BJ}{e:Array (Option A_)}{kV g s b ct:A_}(a:W.nsIn K PySem.mainGlobals x=some (some (.ref f)))(l:K.lookup f=some ⟨z,od,.func (W.fnOf x x (Dp st) (Br st) (Ag st) .none kV g s an b ct),e⟩)
  (c:W.codeIn K b x=true)(k:W.keepIn K (.ref f)=true):FI K x st:=⟨f,_,a,lQ l c k,k⟩
def yy8(P:BW)(w:CQ)(base:CP)(X:K.In h)(G:h.Ns PySem.mainGlobals mg)(I:FI K x st)(e:∀a b,Fun K x x st a b->Ec P w K mg base CX0 k a b ps (sp0 K n m))
  (C:∀(kV g z:A_)(an:Option BJ)(s ct:A_)(us:List A_),us.length=ps.length->MN (W.fnOf x x (Dp st) (Br st) (Ag st) .none kV g z an s ct) ⟨us,[]⟩=pure (ps.zip us)):FnC P w K mg base k x ps n m:=by
 revert I;refine Bo λf b a F A=>?_;exact⟨f,b,e f b F,W.mg_of X G a,A,F.binds C⟩
def yk8(P:BW)(w:CQ)(base:CP)(X:K.In h)(G:h.Ns PySem.mainGlobals mg)(I:FI K x st)(e:∀a b,Fun K x x st a b->mg x=some (.ref a)->W.keepIn K (.ref a)=true->Binds K b ps []->Ec P w K mg base CX0 k a b ps (sp0 K n m))
  (C:∀(kV g E:A_)(an:Option BJ)(s ct:A_)(us:List A_),us.length=ps.length->MN (W.fnOf x x (Dp st) (Br st) (Ag st) .none kV g E an s ct) ⟨us,[]⟩=pure (ps.zip us)):FnC P w K mg base k x ps n m:=by
 revert I;refine Bo λf b a F z=>?_;have A:=W.mg_of X G a;exact⟨f,b,e f b F A z (F.binds C),A,z,F.binds C⟩
end
end PD
namespace PySem
open Sem (wp)
open PyProof.Rows
def Itr(h:CP)(b:Bool)(it l:BJ)(k:Nat):Prop:=match b with
 |true=>h.IsListIter it l k
 |false=>RK h it l k
def Sqc(h:CP)(b:Bool)(l:BJ)(xs:Array A_):Prop:=match b with
 |true=>h.IsList l xs
 |false=>OJ h l xs
variable {A:D_}{xs:Array A_}{P:BW}{s:BK}{X:A_->BK->Prop}{w:CQ}
variable {x:A_}{Q:A_->BK->Prop}
section
variable {h h':CP}{b:Bool}{it l:BJ}{k:Nat}
def Itr.up(x:Itr h b it l k)(e:∀o,h.get? it=some o->h'.get? it=some o):Itr h' b it l k:=by
 cases b with
 |true=>exact Heap.IsListIter.at x e
 |false=>obtain⟨o,a,r⟩:=x;exact⟨o,e o a,r⟩
def Sqc.up(x:Sqc h b l xs)(e:∀o,h.get? l=some o->h'.get? l=some o):Sqc h' b l xs:=by
 cases b with
 |true=>exact Heap.IsList.at x e
 |false=>obtain⟨o,a,r⟩:=x;exact⟨o,e o a,r⟩
def Itr.lv(x:Itr h b it l k):∃o,h.get? it=some o/\∀v,o.data≠.cell v:=by
 cases b with
 |true=>obtain⟨o,a,_,c⟩:=x;exact⟨o,a,λv z=>by rw[c]at z;cases z⟩
 |false=>obtain⟨o,a,_,c⟩:=x;exact⟨o,a,λv z=>by rw[c]at z;cases z⟩
def Itr.nx(c:Itr s.heap b it l k)(hs:Sqc s.heap b l xs)(a:xs[k]? = some x)(e:∀h',Itr h' b it l (k+1)->Heap.SameBut it s.heap h'->Q x {s with heap:=h'}):BL (BV P w) A (Builtin.SmallTypes.nextOf (.ref it)) Q X s:=by
 cases b with
 |true=>exact wpAny_nextOf_list_item c hs a e
 |false=>exact Oa c hs a e
def Itr.fin(f:A.handled=none)(c:Itr s.heap b it l k)(hs:Sqc s.heap b l xs)(a:xs[k]? = none)(g:∀h' e,lZ it s.heap h'->(∃o,h'.get? e=some o/\o.cls=.type "StopIteration")->X (.ref e) {s with heap:=h'}):BL (BV P w) A (Builtin.SmallTypes.nextOf (.ref it)) Q X s:=by
 cases b with
 |true=>exact wpAny_nextOf_list_end f c hs a g
 |false=>exact Kd f c hs a g
end
structure eY(h:CP)(z TI TO i1 i2 l1 l2:BJ)(b1 b2:Bool)(k:Nat):Prop where
 zp:QX h z TI TO .none
 ti:KJ h TI (.ref i1) (.ref i2)
 to_:∃a b,KJ h TO a b
 j1:Itr h b1 i1 l1 k
 j2:Itr h b2 i2 l2 k
variable {y:A_}
section
variable {z TI TO i1 i2 l1 l2:BJ}{b1 b2:Bool}{k:Nat}{ys:Array A_}
def kx9(D:VF z TI TO i1 i2 l1 l2)(S:eY s.heap z TI TO i1 i2 l1 l2 b1 b2 k)(m1:Sqc s.heap b1 l1 xs)(m2:Sqc s.heap b2 l2 ys)(hx:xs[k]? = some x)(hy:ys[k]? = some y)
  (hQ:∀r,QX r z TI TO (C_ s.heap.objs.size)->KJ r TI (.ref i1) (.ref i2)->KJ r TO x y->Itr r b1 i1 l1 (k+1)->Itr r b2 i2 l2 (k+1)->KJ r s.heap.objs.size x y->(∀c o,c∉[z,TI,TO,i1,i2]->s.heap.get? c=some o->r.get? c=some o)->Q (.ref s.heap.objs.size) {s with heap:=r}):
  BL (BV P w) A (HS.«zip.__next__» ⟨[.ref z],[]⟩) (λaf s'=>∃v,af=.done (.ret v)/\Q v s') X s:=by
 obtain⟨G,ti,⟨a,b,aa⟩,j1,j2⟩:=S;show BL _ _ (WT (.ref z) 2 >>= _) _ _ _;refine BX (DW G rfl (x:=.bool false) rfl ?_);show BL _ _ (WT (.ref z) 3 >>= _) _ _ _;refine BX (DW G rfl (x:=.ref TI) rfl (BX (GC ti rfl ?_)));show BL _ _ (Builtin.SmallTypes.ownedTupleIsFree (.ref z) >>= _) _ _ _;refine BX ?_;unfold Builtin.SmallTypes.ownedTupleIsFree;refine BX (DW G rfl (x:=.none) rfl (EY ?_));simp only[if_true];refine BX (wpAny_rule (BX (DW G rfl (x:=.ref TO) rfl (BX (DY G (by simp) λq B l=>?_)))))
 replace B:QX q z TI TO .ellipsis:=B;have n1:=l.1;replace l:=l.extBut
 refine BX ?_;simp only[tZ,jHg,iV,mK];refine BX (BX (QH ?_));show BL _ _ (Builtin.SmallTypes.nextOf (.ref i1) >>= _) _ _ _;refine BX (Itr.nx (s:={s with heap:=q}) (j1.up λo=>l _ o D.i1z) (m1.up λo=>l _ o D.l1z) hx λT ae n=>EY ?_);have n2:=n.1;replace n:=n.extBut;have to2:KJ T TO a b:=n _ _ D.TOi1 (l _ _ D.TOz aa);refine BX (GC to2 rfl (BX (PB to2 λp to3 m=>?_)))
 replace to3:KJ p TO x b:=to3;have n3:=m.1;replace m:=m.extBut
 refine BX (RM (EY ?_));refine BX (BX (QH ?_));show BL _ _ (Builtin.SmallTypes.nextOf (.ref i2) >>= _) _ _ _;refine BX (Itr.nx (s:={s with heap:=p}) (j2.up λo z1=>m _ o D.TOi2.symm (n _ o D.i12.symm (l _ o D.i2z z1))) (m2.up λo z1=>m _ o D.l2TO (n _ o D.l2i1 (l _ o D.l2z z1))) hy λO ab E=>EY ?_);have n4:=E.1;replace E:=E.extBut;have J:KJ O TO x b:=E _ _ D.TOi2 to3;refine BX (GC J rfl (BX (PB J λf j C=>?_)))
 replace j:KJ f TO x y:=j
 refine BX (RM (EY (EY ?_)));refine BX (GC j rfl (BX (PJ ?_)));have n5:=C.1;replace C:=C.extBut;have U:f.objs.size=s.heap.objs.size:=by rw[n5,n4,n3,n2,n1]
 have I:∀c o,c≠z->c≠TO->c≠i1->c≠i2->s.heap.get? c=some o->f.get? c=some o:=λc o Z c2 c3 c4 e=>C _ _ c2 (E _ _ c4 (m _ _ c2 (n _ _ c3 (l _ _ Z e))));have F:QX f z TI TO .ellipsis:=C _ _ D.TOz.symm (E _ _ D.i2z.symm (m _ _ D.TOz.symm (n _ _ D.i1z.symm B)));have L:Itr f b1 i1 l1 (k+1):=ae.up λo e=>C _ _ D.TOi1.symm (E _ _ D.i12 (m _ _ D.TOi1.symm e));have K:Itr f b2 i2 l2 (k+1):=ab.up λo e=>C _ _ D.TOi2.symm e;have H:z<f.objs.size:=HX F;show BL _ _ (Builtin.SmallTypes.ownedTupleHandOut (.ref z) (.ref f.objs.size) >>= _) _ _ _;refine BX ?_;unfold Builtin.SmallTypes.ownedTupleHandOut;refine BX (DY (show QX (f.push {cls:=.type "tuple",data:=.seq #[x,y] }) z TI TO .ellipsis from JK _ F) (by simp) λM u q7=>?_)
 replace u:QX M z TI TO (C_ f.objs.size):=u
 refine DY u (by simp) λg i q8=>?_
 replace i:QX g z TI TO (C_ f.objs.size):=i
 have h:∀c o,c≠z->f.get? c=some o->g.get? c=some o:=λc o Z e=>q8.extBut _ _ Z (q7.extBut _ _ Z (JK _ e));have pr:KJ g f.objs.size x y:=q8.extBut _ _ (VV H) (q7.extBut _ _ (VV H) (K_ _ rfl));rw[U]at i pr;refine EY ⟨_,rfl,?_⟩;show Q (.ref f.objs.size) _;rw[U];exact hQ g i (h _ _ D.TIz (I _ _ D.TIz D.TITO D.TIi1 D.TIi2 ti)) (h _ _ D.TOz j) (L.up λo e=>h _ o D.i1z e) (K.up λo e=>h _ o D.i2z e) pr λc o Y e=>h c o (λx=>Y (by simp[x])) (I c o (λx=>Y (by simp[x])) (λx=>Y (by simp[x])) (λx=>Y (by simp[x])) (λx=>Y (by simp[x])) e)
def wq2{Q:Fin->BK->Prop}(T:A.handled=none)(D:VF z TI TO i1 i2 l1 l2)(S:eY s.heap z TI TO i1 i2 l1 l2 b1 b2 k)(m1:Sqc s.heap b1 l1 xs)(m2:Sqc s.heap b2 l2 ys)(G:xs[k]? = none\/ys[k]? = none)
  (U:∀L e,(∀c o,c∉[z,TI,TO,i1,i2]->s.heap.get? c=some o->L.get? c=some o)->(∃o,L.get? e=some o/\o.cls=.type "StopIteration")->X (.ref e) {s with heap:=L}):BL (BV P w) A (HS.«zip.__next__» ⟨[.ref z],[]⟩) Q X s:=by
 obtain⟨C,ti,⟨a,b,H⟩,j1,j2⟩:=S;show BL _ _ (WT (.ref z) 2 >>= _) _ _ _;refine BX (DW C rfl (x:=.bool false) rfl ?_);show BL _ _ (WT (.ref z) 3 >>= _) _ _ _;refine BX (DW C rfl (x:=.ref TI) rfl (BX (GC ti rfl ?_)));show BL _ _ (Builtin.SmallTypes.ownedTupleIsFree (.ref z) >>= _) _ _ _;refine BX ?_;unfold Builtin.SmallTypes.ownedTupleIsFree;refine BX (DW C rfl (x:=.none) rfl (EY ?_));simp only[if_true];refine BX (wpAny_rule (BX (DW C rfl (x:=.ref TO) rfl (BX (DY C (by simp) λf m q=>?_)))))
 replace m:QX f z TI TO .ellipsis:=m;replace q:=q.extBut
 refine BX ?_;simp only[tZ,jHg,iV,mK];refine BX (BX (QH ?_));show BL _ _ (Builtin.SmallTypes.nextOf (.ref i1) >>= _) _ _ _;have Z:Itr f b1 i1 l1 k:=j1.up λo=>q _ o D.i1z;have Y:Sqc f b1 l1 xs:=m1.up λo=>q _ o D.l1z;cases J:xs[k]? with
 |none =>
  refine BX (Itr.fin (s:={s with heap:=f}) T Z Y J λi e l K=>?_);obtain⟨I,g,j⟩:=K;have B:QX i z TI TO .ellipsis:=l _ _ D.i1z.symm m;have r:e≠z:=λx=>by subst x;rw[B]at g;cases g;simp at j
  refine DY B (by simp) λh _ n=>U h e (λc o p x=>n.extBut _ _ (λx=>p (by simp[x])) (l _ _ (λx=>p (by simp[x])) (q _ _ (λx=>p (by simp[x])) x))) ⟨I,n.extBut _ _ r g,j⟩
 |some x =>
  have hy:ys[k]? = none:=G.resolve_left λu=>by rw[J]at u;cases u
  refine BX (Itr.nx (s:={s with heap:=f}) Z Y J λi aa l=>EY ?_)
  replace l:=l.extBut
  have to2:KJ i TO a b:=l _ _ D.TOi1 (q _ _ D.TOz H);refine BX (GC to2 rfl (BX (PB to2 λh to3 n=>?_)))
  replace n:=n.extBut
  refine BX (RM (EY ?_));refine BX (BX (QH ?_));show BL _ _ (Builtin.SmallTypes.nextOf (.ref i2) >>= _) _ _ _;refine BX (Itr.fin (s:={s with heap:=h}) T (j2.up λo u=>n _ o D.TOi2.symm (l _ o D.i12.symm (q _ o D.i2z u))) (m2.up λo u=>n _ o D.l2TO (l _ o D.l2i1 (q _ o D.l2z u))) hy λF e O K=>?_);obtain⟨I,g,j⟩:=K;have v:QX F z TI TO .ellipsis:=O _ _ D.i2z.symm (n _ _ D.TOz.symm (l _ _ D.i1z.symm m));have r:e≠z:=λx=>by subst x;rw[v]at g;cases g;simp at j
  refine DY v (by simp) λE _ M=>U E e (λc o p x=>M.extBut _ _ (λx=>p (by simp[x])) (O _ _ (λx=>p (by simp[x])) (n _ _ (λx=>p (by simp[x])) (l _ _ (λx=>p (by simp[x])) (q _ _ (λx=>p (by simp[x])) x))))) ⟨I,M.extBut _ _ r g,j⟩
def ky1{Q:Option A_->BK->Prop}(D:VF z TI TO i1 i2 l1 l2)(S:eY s.heap z TI TO i1 i2 l1 l2 b1 b2 k)(f:Sqc s.heap b1 l1 xs)(e:Sqc s.heap b2 l2 ys)(h:xs[k]? = some x)(g:ys[k]? = some y)
  (i:∀a,QX a z TI TO (C_ s.heap.objs.size)->KJ a TI (.ref i1) (.ref i2)->KJ a TO x y->Itr a b1 i1 l1 (k+1)->Itr a b2 i2 l2 (k+1)->KJ a s.heap.objs.size x y->(∀c o,c∉[z,TI,TO,i1,i2]->s.heap.get? c=some o->a.get? c=some o)->Q (some (.ref s.heap.objs.size)) {s with heap:=a}):
  BL (BV P w) A (JG (.ref z)) Q X s:=by
 have b:s.TypeIs (.ref z) "zip":=⟨_,S.zp,rfl⟩;unfold JG;exact BX (IW (DP (name:=Str.ofString "__next__") b F.slot_zip_next (CZ F.slot_zip_next b F.entry_zip_next (kx9 D S f e h g λa r q p n m l j=>EY (i a r q p n m l j)) (F.args_zip_next_1 _))))
def wq4{Q:Option A_->BK->Prop}(m:A.handled=none)(D:VF z TI TO i1 i2 l1 l2)(S:eY s.heap z TI TO i1 i2 l1 l2 b1 b2 k)(i:Sqc s.heap b1 l1 xs)(h:Sqc s.heap b2 l2 ys)(a:xs[k]? = none\/ys[k]? = none)
  (q:∀f,(∀c o,c∉[z,TI,TO,i1,i2]->s.heap.get? c=some o->f.get? c=some o)->Q none {s with heap:=f}):BL (BV P w) A (JG (.ref z)) Q X s:=by
 have g:s.TypeIs (.ref z) "zip":=⟨_,S.zp,rfl⟩;unfold JG;refine BX (IW (DP (name:=Str.ofString "__next__") g F.slot_zip_next (CZ F.slot_zip_next g F.entry_zip_next (wq2 m D S i h a λf e l n=>?_) (F.args_zip_next_1 _))));revert n;refine Aw λo j p=>?_;exact BX (JW (T:="StopIteration") (b:=true) ⟨o,j,p⟩ UT (EY (q _ l)))
end
abbrev Sq(b:Bool)(l:BJ):GR:=match b with
 |true=>{cls:=.type "list_iterator",data:=.fields #[.ref l,.int 0 0] }
 |false=>{cls:=.type "tuple_iterator",data:=.fields #[.ref l,.int 0 0] }
abbrev zH1(h:CP)(b1:Bool)(a:BJ):CP:=h.push (Sq b1 a)
abbrev zH2(h:CP)(b1 b2:Bool)(b a:BJ):CP:=(zH1 h b1 b).push (Sq b2 a)
abbrev zH3(h:CP)(b1 b2:Bool)(a b:BJ):CP:=(zH2 h b1 b2 a b).push {cls:=.type "tuple",data:=.seq #[.ref h.objs.size,.ref (zH1 h b1 a).objs.size] }
abbrev zH4(h:CP)(b1 b2:Bool)(b a:BJ):CP:=(zH3 h b1 b2 b a).push {cls:=.type "tuple",data:=.seq #[.none,.none] }
abbrev zH5(h:CP)(b1 b2:Bool)(b a:BJ):CP:=(zH4 h b1 b2 b a).push {cls:=.type "zip",data:=.fields #[.none,.bool false,.bool false,.ref (zH2 h b1 b2 b a).objs.size,.ref (zH3 h b1 b2 b a).objs.size] }
def wH{b:Bool}{l:BJ}(h:Sqc s.heap b l xs)(q:Q (.ref s.heap.objs.size) {s with heap:=s.heap.push (Sq b l)}):BL (BV P w) A (T_ (.ref l)) Q X s:=by
 cases b with
 |true=>exact JM h q
 |false=>exact bI h q
def ke4(b1 b2:Bool)(a b:BJ)(xs ys:Array A_):Meets (HS.«zip.__new__» ⟨[.type "zip",.ref a,.ref b],[]⟩) (λ_ R s=>Sqc s.heap b1 a xs/\Sqc s.heap b2 b ys/\R (.ok (.ret (.ref (zH4 s.heap b1 b2 a b).objs.size))) {s with heap:=zH5 s.heap b1 b2 a b}):=
 .of_wp λprog w A R s h=>by
  obtain⟨i,g,d,c,e⟩:=s;obtain⟨l,j,h⟩:=h;have f:=sub_zip;have m:Sqc (Shared.heap ⟨i,g,d,c,e⟩) b1 a xs:=l;have M2:Sqc (Shared.heap ⟨i.push (Sq b1 a),g,d,c,e⟩) b2 b ys:=j.up λo z=>JK _ z
  wp_walk using wH m,wH M2
  exact⟨_,rfl,h⟩
def kq4{b1 b2:Bool}{a f:BJ}{ys:Array A_}(E:Sqc s.heap b1 a xs)(C:Sqc s.heap b2 f ys)
  (h:∀n,eY n (s.heap.objs.size+4) (s.heap.objs.size+2) (s.heap.objs.size+3) s.heap.objs.size (s.heap.objs.size+1) a f b1 b2 0->(∀c o,s.heap.get? c=some o->n.get? c=some o)->Q (.ref (s.heap.objs.size+4)) {s with heap:=n}):BL (BV P w) A (call (.type "zip") [.ref a,.ref f]) Q X s:=by
 refine YC F.called_zip (by decide) (F.typeCall_zip_2 _ _) (F.newCall_zip_2 _ _) (λobj=>F.args_object_init_3 obj _ _) F.entry_zip_new (ke4 b1 b2 a f xs ys) ⟨E,C,?_⟩;have m:(zH1 s.heap b1 a).objs.size=s.heap.objs.size+1:=Q_ ..;have j:(zH2 s.heap b1 b2 a f).objs.size=s.heap.objs.size+2:=by rw[Q_,m]
 have i:(zH3 s.heap b1 b2 a f).objs.size=s.heap.objs.size+3:=by rw[Q_,j]
 have q:(zH4 s.heap b1 b2 a f).objs.size=s.heap.objs.size+4:=by rw[Q_,i]
 have p1:∀{g:CP}{o B:GR}{c:BJ},g.get? c=some o->(g.push B).get? c=some o:=λe=>JK _ e;have p:(zH5 s.heap b1 b2 a f).get? (zH4 s.heap b1 b2 a f).objs.size=some _:=K_ _ rfl;have u:(zH5 s.heap b1 b2 a f).get? (zH3 s.heap b1 b2 a f).objs.size=some _:=p1 (K_ _ rfl);have v:(zH5 s.heap b1 b2 a f).get? (zH2 s.heap b1 b2 a f).objs.size=some _:=p1 (p1 (K_ _ rfl));have z:(zH5 s.heap b1 b2 a f).get? (zH1 s.heap b1 a).objs.size=some (Sq b2 f):=p1 (p1 (p1 (K_ _ (by cases b2<;>rfl))));have G:(zH5 s.heap b1 b2 a f).get? s.heap.objs.size=some (Sq b1 a):=p1 (p1 (p1 (p1 (K_ _ (by cases b1<;>rfl)))));have r:∀(b:Bool){g:CP}{c l:BJ},g.get? c=some (Sq b l)->Itr g b c l 0:=λb {g c l} e=>by
  cases b with
  |true=>exact⟨_,e,rfl,rfl⟩
  |false=>exact⟨_,e,rfl,rfl⟩
 show _/\_;rw[j,i,q]at p;rw[m,j]at v;rw[i]at u;rw[m]at z;rw[q];exact⟨⟨_,p,rfl⟩,h _ ⟨p,v,⟨_,_,u⟩,r b1 G,r b2 z⟩ λc o x=>p1 (p1 (p1 (p1 (p1 x))))⟩
end PySem
namespace PD
open PySem PySem.Spec PyProof.Rows L2
def SqB(K:BZ)(H:Hp)(b:Bool)(a:BJ)(xs:List V):Prop:=match b with
 |true=>SqL K H a xs
 |false=>SqT K H a xs
variable {X:Cx}{pins:List (BJ×GR)}{σ:St}{H:Hp}{s:BK}{b:Bool}{a:BJ}{xs:List V}
def Qs(I:Inv X pins σ H s)(h:SqB X.K H b a xs):∃c:List A_,Vals xs c/\Sqc s.heap b a c.toArray:=by
 cases b with
 |true=>obtain⟨c,e,p,_⟩:=I.list h;exact⟨c,e,p.isList⟩
 |false=>obtain⟨c,e,p,_⟩:=I.tuple h;exact⟨c,e,p⟩
def Wi{ys:List V}(I:Inv X pins σ H s)(h:SqB X.K H b a xs)(h':SqB X.K H b a ys):xs=ys:=by
 cases b with
 |true=>exact I.list_inj h h'
 |false=>exact I.tuple_inj h h'
def xZ{h:CP}{xs:Array A_}(x:Sqc h b a xs):a<h.objs.size:=by
 cases b with
 |true=>obtain⟨o,c,_⟩:=x;exact HX c
 |false=>obtain⟨o,c,_⟩:=x;exact HX c
def Izp(K:BZ)(b1 b2:Bool)(e j:BJ):It:=
 ⟨λi H=>∃xs c x y,SqB K H b1 e xs/\SqB K H b2 j c/\xs[i]? = some x/\c[i]? = some y,
  λi H x g=>∃t v1 f,x=.ref t/\H t=none/\g=upd H t (.tup [v1,f])/\(∀xs,SqB K H b1 e xs->xs[i]? = some v1)/\∀c,SqB K H b2 j c->c[i]? = some f,
  λi H=>∃xs c,SqB K H b1 e xs/\SqB K H b2 j c/\(xs.length<=i\/c.length<=i)⟩
variable {K:BZ}{j:BJ}
theorem wo9{P:BW}{w:CQ}{elts:List B_}{k:Nat}{pos:HY}{z TI TO i1 i2 a1:BJ}{b1 b2:Bool}(D:VF z TI TO i1 i2 a1 j):
  Turn P w K (.Tuple elts k pos) (Izp K b1 b2 a1 j) [z,TI,TO,i1,i2] z (λi h=>eY h z TI TO i1 i2 a1 j b1 b2 i) where
 mem:=by simp
 obj:=λi h st b hb=>by
  have hb':b=z\/b=TI\/b=TO\/b=i1\/b=i2:=by simpa using hb
  obtain⟨zp,ti,⟨u,v,to_⟩,j1,j2⟩:=st;rcases hb' with rfl |rfl |rfl |rfl |rfl
  ·simp_all
  ·simp_all
  ·simp_all
  ·exact j1.lv
  ·exact j2.lv
 keep:=λi h h' st kp=>by obtain⟨zp,ti,⟨u,v,to_⟩,j1,j2⟩:=st;exact⟨kp z (by simp) _ zp,kp TI (by simp) _ ti,⟨u,v,kp TO (by simp) _ to_⟩,j1.up (kp i1 (by simp)),j2.up (kp i2 (by simp))⟩
 item:=by
  intro X hP hw hK hc i pins s σ H E I hf st hg;subst hP hw hK;obtain⟨xs,ys,x,y,hq1,hq2,hx,hy⟩:=hg;obtain⟨its1,rv1,p1⟩:=Qs I hq1;obtain⟨its2,rv2,p2⟩:=Qs I hq2;obtain⟨u1,hu1,ru1⟩:=rv1.get hx;obtain⟨u2,hu2,ru2⟩:=rv2.get hy;have zlt:z<s.heap.objs.size:=HX st.zp;have lts:∀b∈[z,TI,TO,i1,i2],b<s.heap.objs.size:=λb hb=>by
   have hb':b=z\/b=TI\/b=TO\/b=i1\/b=i2:=by simpa using hb
   obtain⟨zp,ti,⟨u,v,to_⟩,j1,j2⟩:=st;rcases hb' with rfl |rfl |rfl |rfl |rfl
   ·exact HX zp
   ·exact HX ti
   ·exact HX to_
   ·obtain⟨o,ho,_⟩:=j1.lv;exact HX ho
   ·obtain⟨o,ho,_⟩:=j2.lv;exact HX ho
  refine ky1 D st p1 p2 (x:=u1) (y:=u2) (by simpa using hu1) (by simpa using hu2) λh1 c1 c2 c3 c4 c5 c6 c7=>⟨_,rfl,?_⟩;refine wpAny_letOwnedTupleGo_zip c1 λh2 d1 d2=>?_;have hT:s.heap.objs.size≠z:=VV zlt;have up2:∀c o,c≠z->h1.get? c=some o->h2.get? c=some o:=λc o hc e=>(d2.2 c hc).trans e;have ht2:h2.get? s.heap.objs.size=some {cls:=.type "tuple",data:=.seq #[u1,u2] }:=up2 _ _ hT c6;have I2:Inv X pins σ (upd H s.heap.objs.size (.tup [x,y])) {s with heap:=h2,toks:=s.toks}:=
   Gs (t':=s.toks) I hf (λb o hb q=>up2 b o (λe=>hb (by simp[e])) (c7 b o hb q)) (GX _)
    (show Cg X.prog X.w _ h2 _ (.tup [x,y]) from⟨by show 2<=sizeLine;rw[CG];lia,[u1,u2],.cons ru1 (.cons ru2 .nil),⟨_,ht2,rfl,_,rfl⟩⟩)
  refine⟨.ref s.heap.objs.size,_,I2,rfl,⟨_,x,y,rfl,I.hok.fresh (GX _),rfl,λws hy=>by rw[Wi I hy hq1];exact hx,λws hy'=>by rw[Wi I hy' hq2];exact hy⟩,?_,λb hb=>?_⟩
  ·exact⟨d1,up2 _ _ D.TIz c2,⟨_,_,up2 _ _ D.TOz c3⟩,c4.up λo e=>up2 _ o D.i1z e,c5.up λo e=>up2 _ o D.i2z e⟩
  ·rw[Ae (MJ (lts b hb))];exact(hf b hb).1
 done:=by
  intro X hP hw hK hc i pins s σ H E I hf st hg;subst hP hw hK;obtain⟨xs,ys,hq1,hq2,hl⟩:=hg;obtain⟨its1,rv1,p1⟩:=Qs I hq1;obtain⟨its2,rv2,p2⟩:=Qs I hq2;have l1:=rv1.length;have l2:=rv2.length;refine wq4 (I.ok.hd hc) D st p1 p2 (hl.imp (λe=>?_) λe=>?_) λh' eb=>⟨rfl,Qt (t':=s.toks) I hf eb⟩
  ·simp;lia
  ·simp;lia
 self:=λA i s Q E st h=>cX st.zp h
def dD(ds es:List D):List D:=(ds.zip es).map λp=>.tup [p.1,p.2]
def jz2(ds es:List D):(dD ds es).length=min ds.length es.length:=by unfold dD;rw[GQ,tV]
variable {ds es:List D}
theorem wq3{i:Nat}{d:D}(h:(dD ds es)[i]? = some d):∃x y,ds[i]? = some x/\es[i]? = some y/\d=.tup [x,y]:=by
 unfold dD at h;rw[RB]at h;cases e:(ds.zip es)[i]? with
 |none=>rw[e]at h;cases h
 |some p=>rw[e]at h;obtain⟨f,c⟩:=uN.mp e;simp_all
def SqR(K:BZ)(b:Bool)(a:BJ)(vs:List V)(ds:List D):Hd:=match b with
 |true=>λH S=>LsR K H S a vs/\Al K H S ds vs
 |false=>λH S=>SqT K H a vs/\Al K H S ds vs
variable {vs:List V}
def SqR.sq{S:AS}(h:SqR K b a vs ds H S):SqB K H b a vs:=by
 cases b with
 |true=>exact h.1.sq
 |false=>exact h.1
def SqR.rp{S:AS}(h:SqR K b a vs ds H S):Al K H S ds vs:=by
 cases b with
 |true=>exact h.2
 |false=>exact h.2
def SqR.stab:W4 (SqR K b a vs ds):=by
 cases b with
 |true=>exact tK
 |false=>exact tH
def W4.and{P Q:Hd}(h:W4 P)(k:W4 Q):W4 λH S=>P H S/\Q H S:=
 ⟨λs i z=>⟨h.mono s i z.1,k.mono s i z.2⟩,λe c z=>⟨h.wr e c z.1,k.wr e c z.2⟩,λe g c z=>⟨h.wrD e g c z.1,k.wrD e g c z.2⟩,λf z=>⟨h.avoid f z.1,k.avoid f z.2⟩⟩
theorem wv0{b1 b2:Bool}{a1:BJ}{ws:List V}:ItD K (Izp K b1 b2 a1 j) (dD ds es) λH S=>SqR K b1 a1 vs ds H S/\SqR K b2 j ws es H S where
 stab:=W4.and SqR.stab SqR.stab
 go:=λi H S hi h=>by rw[jz2]at hi;refine Aw (λv hv _=>?_) (h.1.rp.get (LR (show i<ds.length by lia)));refine Aw (λw hw _=>?_) (h.2.rp.get (LR (show i<es.length by lia)));exact⟨vs,ws,v,w,h.1.sq,h.2.sq,hv,hw⟩
 yld:=λi H S x H' h y=>by revert y;refine oM λt v1 v2 hz4 ht hz5 y1 y2=>?_;obtain rfl:=hz4;obtain rfl:=hz5;refine⟨Av ht _,λd hd=>?_⟩;refine Bo (λp q hp hq hz6=>?_) (wq3 hd);obtain rfl:=hz6;refine Aw (λw1 hw1 rw1=>?_) (h.1.rp.get hp);refine Aw (λw2 hw2 rw2=>?_) (h.2.rp.get hq);have ev:v1=w1:=Option.some.inj ((y1 vs h.1.sq).symm.trans hw1);have ew:v2=w2:=Option.some.inj ((y2 ws h.2.sq).symm.trans hw2);subst ev ew;exact⟨t,_,rfl,TpR.of Ak,v1,[v2],rfl,rw1.mono (Av ht _) (λ_ z=>z),v2,[],rfl,rw2.mono (Av ht _) (λ_ z=>z),rfl⟩
 stop:=λi H S hi h=>⟨vs,ws,h.1.sq,h.2.sq,by
  rw[jz2]at hi;rw[<-h.1.rp.length,<-h.2.rp.length];lia⟩
def itZ(fs:Ev->R (List D)):Ev->R (List D):=λc=>(fs c).bind λxs=>match xs with
 | [x,y]=>match Jy x,Jy y with
  |some ds,some es=>.ok (dD ds es)
  |_,_=>.bad
 |_=>.bad
def km8{S:AS}{d:D}{v:V}(r:Rep K H S d v)(h:Jy d=some ds):∃b a vs,v=.ref a/\SqR K b a vs ds H S:=by
 cases d with
 |lst es=>have e:es=ds:=Option.some.inj h;subst e;revert r;refine Bo λa vs g i c=>?_;obtain rfl:=g;exact⟨true,a,vs,rfl,i,c⟩
 |tup es=>have e:es=ds:=Option.some.inj h;subst e;revert r;refine Bo λa vs f i c=>?_;obtain rfl:=f;exact⟨false,a,vs,rfl,(TpR.sq i),c⟩
 |_=>cases h
section
variable {X:Cx}{c:DC}{l:Lv}{g f:B_}{fs:Ev->R (List D)}{pos p i:HY}{e:List B_}{k:Nat}
theorem u6(hm:X.mg "zip" = none)(ha:PAd X c l [g,f] fs)(ag:Gl X "zip":=by rfl)(aa:BP [g,f] X.env=(false,CV g X.env)::BP [f] X.env:=by rfl)(af:Zp X.env i [f]:=by rfl):
  PId X c l (.Tuple e k pos) (.Call (.Name "zip" p) [g,f] [] i) (itZ fs):=by
 intro pins s σ H R I h;refine Call_ (Vg I ag hm boot_zip (PyProof.Rows.callWith_type1 (thG (ha i pins s σ H (λvs r=>∃u j b1 b2,vs=[.ref u,.ref j]/\(∃xs,SqB X.K r b1 u xs)/\(∃ys,SqB X.K r b2 j ys)/\R (Izp X.K b1 b2 u j) r) I ?_) λus n vs r O v m=>?_) aa af))
 ·revert h;refine Ce λhs ρ E q=>?_;refine⟨hs,ρ,E,(RQ.bind.mp q).mono (λds m vs r sm v o=>?_) λ_ z=>z⟩
  match ds,m,v,o with
  | [x,y],m,v,_ =>
   revert v;refine Bo λv1 ao Y rx r2=>?_;obtain rfl:=Y;revert r2;refine Bo λv2 Q L ry r3=>?_;obtain rfl:=L;cases P:Jy x with
   |none=>simp only[P]at m;exact m.elim
   |some ds =>
    cases Z:Jy y with
    |none=>simp only[P,Z]at m;exact m.elim
    |some es=>simp only[P,Z]at m;refine dR (λb1 u ak J z1=>?_) (km8 rx P);obtain rfl:=J;refine dR (λb2 j aj G z2=>?_) (km8 ry Z);obtain rfl:=G;have e3:Q=[]:=r3;subst e3;exact⟨u,j,b1,b2,rfl,⟨_,z1.sq⟩,⟨_,z2.sq⟩,m _ _ r sm wv0 ⟨z1,z2⟩⟩
  | [],m,_,o=>cases o
  | [_],m,_,o=>cases o
  |_::_::_::_,m,_,o=>cases o
 ·revert m;refine vH λu j b1 b2 F C B q=>?_;obtain rfl:=F;obtain⟨xs,ae⟩:=C;obtain⟨ys,ab⟩:=B;refine Bo (λu1 u2 A U T=>?_) (v.two);obtain rfl:=A;cases U;cases T;refine Aw (λai au p1=>?_) (Qs O ae);refine Aw (λah ar w=>?_) (Qs O ab);refine kq4 p1 w λh' st hk=>cX st.zp ?_;refine⟨n.heap.objs.size+4,[n.heap.objs.size+4,n.heap.objs.size+2,n.heap.objs.size+3,n.heap.objs.size,n.heap.objs.size+1],_,_,r,rfl,O.kept (t':=n.toks) hk,wo9 (zipApart_new (xZ p1) (xZ w)),st,λb hb=>?_,q⟩;have M:n.heap.objs.size<=b:=by grind
  exact O.fpOk M (O.hok.fresh M)
end
open PySem PySem.Spec PyProof.Rows L2
section
variable {X:Cx}{c:DC}{l:Lv}{e a b:B_}{f f1 f2:Ev->R D}{pos p:HY}{tg:B_}
def kyO:D->Option Key
 | .int i=>some (.inl i)
 | .str x=>some (.inr x)
 |_=>none
def rO{d:D}{k:Key}(h:kyO d=some k):d=kyD k:=by
 cases d with
 |int i=>cases h;rfl
 |str x=>cases h;rfl
 |_=>cases h
def Zo(k:Key):kyO (kyD k)=some k:=by cases k<;>rfl
def Fq:List D->List D->Key->Option D
 |kd::ks,f::fs,k=>if kyO kd=some k then some f else Fq ks fs k
 |_,_,_=>none
theorem R7{K:BZ}{H:Hp}{S:AS}(k:Key):∀{kk:List Key}{fs:List D}{vs:List V},kk.length=vs.length->Al K H S fs vs ->
  (P0 (kk.zip vs) k=none/\Fq (kk.map kyD) fs k=none)\/∃v f,P0 (kk.zip vs) k=some v/\Fq (kk.map kyD) fs k=some f/\Rep K H S f v
 | [],fs,vs,g,r=>by have:vs=[]:=nC g.symm;subst this;exact .inl ⟨rfl,by simp[Fq]⟩
 |q::kk,fs,[],g,r=>by simp at g
 |q::kk,fs,v::vs,g,r=>by
  have i:kk.length=vs.length:=by simpa using g
  cases fs with
  |nil=>cases(show v::vs=[] from r)
  |cons f fs =>
   revert r;refine Bo λu m e o n=>?_;cases e;rw[XS,HH];by_cases h:q=k
   ·exact .inr ⟨v,f,Qc h,by rw[Fq,if_pos (by rw[Zo,h])],o⟩
   ·rw[Qa h,Fq,if_neg (by rw[Zo];intro z;exact h (Option.some.inj z))];exact R7 k i n
end
variable {u v:V}
theorem wz9{c:Type}[DecidableEq c]{q k:c}{r:List (c×V)}(h:q=k)(i:¬ k∈r.map (·.1)):putK ((q,u)::r) k v=(q,v)::r:=by
 have e:r.map (λf=>if f.1=k then(f.1,v) else f)=r:=by refine(SJ λx g=>?_).trans (List.map_id r);rw[if_neg (λz=>i (I_.mpr ⟨x,g,z⟩))];rfl
 unfold putK;simp_all
theorem ya0{c:Type}[DecidableEq c]{q k:c}{r:List (c×V)}(h:¬ q=k):putK ((q,u)::r) k v=(q,u)::putK r k v:=by unfold putK;grind
def Jk:List D->List D->Key->D->List D×List D
 |kd::ks,f::fs,k,v=>if kyO kd=some k then(kd::ks,v::fs) else((kd::(Jk ks fs k v).1),(f::(Jk ks fs k v).2))
 |_,_,k,v=>([kyD k],[v])
theorem jf6{K:BZ}{H:Hp}{S:AS}(k:Key){d:D}{v:V}(o:Rep K H S d v):∀{kk:List Key}{fs:List D}{vs:List V},kk.length=vs.length->kk.Nodup->Al K H S fs vs ->
  ∃(g:List Key)(i:List V),putK (kk.zip vs) k v=g.zip i/\g.length=i.length/\g.Nodup/\(∀x∈g,x∈kk\/x=k)/\(Jk (kk.map kyD) fs k d).1=g.map kyD/\Al K H S (Jk (kk.map kyD) fs k d).2 i
 | [],fs,vs,n,l,r=>by
  have I:vs=[]:=nC n.symm;subst I;refine⟨[k],[v],rfl,rfl,by simp,by simp,?_,?_⟩
  ·simp[Jk]
  ·simp only[cL,Jk];exact .cons o Al.nil
 |q::kk,fs,[],n,l,r=>by simp at n
 |q::kk,fs,w::vs,n,l,r=>by
  have m:kk.length=vs.length:=by simpa using n
  rw[R_]at l;cases fs with
  |nil=>cases(show w::vs=[] from r)
  |cons f fs =>
   revert r;refine Bo λJ i e B p=>?_;cases e;rw[XS,HH,Jk];by_cases h:q=k
   ·have G:¬ k∈(kk.zip vs).map (·.1):=by rw[List.map_fst_zip (by lia),<-h];exact l.1
    refine⟨q::kk,v::vs,(wz9 h G).trans rfl,by simp[m],R_.mpr l,λx y=>.inl y,?_,?_⟩
    ·rw[if_pos (by rw[Zo,h])];rfl
    ·rw[if_pos (by rw[Zo,h])];exact .cons o p
   ·refine oN (λg A p1 F E M L C=>?_) (jf6 k o m l.2 p);have c:¬ kyO (kyD q)=some k:=by rw[Zo];intro z;exact h (Option.some.inj z)
    refine⟨q::g,w::A,by rw[ya0 h,p1];rfl,by simp[F],R_.mpr ⟨λz=>?_,E⟩,λx y=>?_,?_,?_⟩
    ·grind
    ·grind
    ·simp_all
    ·rw[if_neg c];exact .cons B C
open PySem PySem.Spec PyProof.Rows L2
open PySem PySem.Spec PyProof.Rows L2 PySem.W
def Ej(x y:BR):List BR:=if(decide (x.length<y.length) ||decide (Builtin.Str.strKind x<Builtin.Str.strKind y))=true then [x] else if(Builtin.Str.occurrences x y 0 x.length (x.length+1)).isEmpty=true then [x] else Builtin.Str.partsBetween x (Builtin.Str.occurrences x y 0 x.length (x.length+1)) y.length
def yq7:V->List V->Hp->VK->Prop:=λx xs H Q=>∃z y,x=.str z/\xs=[.str y]/\(y.length == 0)=false/\z.length<=sizeLine/\(Ej z y).length<=sizeLine/\∀p,H p=none->Q (.ref p) (upd H p (.lst ((Ej z y).map V.str)))
theorem jj9:∀(ws:List BR)(k:Nat),Vals (ws.map V.str) (strsFrom k ws)
 | [],_=>.nil
 |w::ws,k=>.cons ⟨k,rfl⟩ (jj9 ws (k+1))
theorem jk0:∀{ws:List BR}{us:List A_},Vals (ws.map V.str) us->∃l:List (BR×Tok),us=strValues l/\l.map (·.1)=ws
 | [],us,h=>by cases h;exact⟨[],rfl,rfl⟩
 |w::ws,us,h=>by
  cases h with
  |cons r t=>obtain⟨c,rfl⟩:=(show ∃t,_=Value.str w t from r);obtain⟨l,rfl,rfl⟩:=jk0 t;exact⟨(w,c)::l,rfl,rfl⟩
def rJoin(K:BZ):V->List V->Hp->VK->Prop:=λx xs H Q=>∃sep a c,x=.str sep/\xs=[.ref a]/\SqL K H a (c.map V.str)/\Builtin.Str.tooLong (c.toArray.foldl (·+·.length+sep.length) 0)=false/\(Builtin.Str.glued sep c).length<=sizeLine/\Q (.str (Builtin.Str.glued sep c)) H
variable {X:Cx}{c:DC}{f1 f2:Ev->R D}{a b e:B_}{es:List B_}{l:Lv}{pos:HY}
variable {cpos:HY}{x:BR}{n:Nat}
section
variable {o:B_}{f:Ev->R D}
theorem wi2:MtR X "str.split" yq7:=by
 intro pins s σ H x vs v J Q I A B h;obtain⟨z,y,rfl,rfl,w,E,m,q⟩:=h;obtain⟨t,rfl⟩:=(show ∃t,v=Value.str z t from A);obtain⟨u,rfl,C⟩:=B.one;obtain⟨t',rfl⟩:=(show ∃t,u=Value.str y t from C);have one:Ej z y=[z]->EP X pins σ Q (.ref s.heap.objs.size) {s with heap:=s.heap.push {cls:=.type "list",data:=.seq [Value.str z t].toArray} }:=λe=>by
  have G:Vals ((Ej z y).map V.str) [Value.str z t]:=by rw[e];exact .cons ⟨t,rfl⟩ .nil
  exact⟨.ref s.heap.objs.size,_,I.lnew (t':=s.toks) G (by rw[GQ];exact m),rfl,q _ I.fresh⟩
 by_cases i:(decide (z.length<y.length) ||decide (Builtin.Str.strKind z<Builtin.Str.strKind y))=true
 ·exact NK PySem.F.slot_str_split (JF s z t) PySem.F.entry_str_split (PySem.F.args_str_split_2 _ _) (meets_str_split_cannot_occur z y t t' i) (one (by unfold Ej;rw[if_pos i]))
 ·have g:(decide (z.length<y.length) ||decide (Builtin.Str.strKind z<Builtin.Str.strKind y))=false:=by simpa using i
  by_cases p:(Builtin.Str.occurrences z y 0 z.length (z.length+1)).isEmpty=true
  ·exact NK PySem.F.slot_str_split (JF s z t) PySem.F.entry_str_split (PySem.F.args_str_split_2 _ _) (meets_str_split_not_found z y t t' g w p) (one (by unfold Ej;rw[if_neg i,if_pos p]))
  ·have r:(Builtin.Str.occurrences z y 0 z.length (z.length+1)).isEmpty=false:=by simpa using p
   have e:Ej z y=Builtin.Str.partsBetween z (Builtin.Str.occurrences z y 0 z.length (z.length+1)) y.length:=by unfold Ej;rw[if_neg i,if_neg p]
   rw[e]at m q;exact NK PySem.F.slot_str_split (JF s z t) PySem.F.entry_str_split (PySem.F.args_str_split_2 _ _) (meets_str_split_sep z y t t' g w r E m) ⟨.ref s.heap.objs.size,_,I.lnew (jj9 _ _) (by rw[GQ];exact m),rfl,q _ I.fresh⟩
def wx3:MtR X "str.join" (rJoin X.K):=by
 intro pins s σ H x vs v C Q I i m h;obtain⟨sep,a,B,rfl,rfl,z,A,g,q⟩:=h;obtain⟨t,rfl⟩:=(show ∃t,v=Value.str sep t from i);obtain⟨u,rfl,w⟩:=m.one;cases(show u=Value.ref a from w);obtain⟨y,r,pl,E⟩:=I.list z;obtain⟨l,rfl,rfl⟩:=jk0 r;refine NK PySem.F.slot_str_join (JF s sep t) PySem.F.entry_str_join (PySem.F.args_str_join_2 _ _) (meets_str_join_list sep t a l A) ⟨pl.isList,?_⟩
 match l,g,q with
 | [],g,q=>exact⟨g,.str _,H,I.tok _,⟨_,rfl⟩,q⟩
 | [p],g,q=>exact⟨.str p.1,H,I,⟨_,rfl⟩,q⟩
 |p1::p2::r,g,q=>exact⟨g,.str _,H,I.tok _,⟨_,rfl⟩,q⟩
def Wz:List D->Option (List BR)
 | []=>some []
 | .str x::r=>(Wz r).map (x::·)
 |_::_=>none
theorem xY{K:BZ}{H:Hp}{S:AS}:∀{ds:List D}{xs:List V}{ws:List BR},Al K H S ds xs->Wz ds=some ws->xs=ws.map V.str
 | [],xs,ws,r,e=>by cases e;exact r
 |d::ds,xs,ws,r,e=>by
  obtain⟨v,t,rfl,i,h⟩:=r;cases d with
  |str x=>obtain⟨g,m,rfl⟩:=bH.mp e;cases(show v=.str x from i);rw[xY h m];rfl
  |_=>cases e
theorem jj4:∀g:List BR,Wz (g.map .str)=some g
 | []=>rfl
 |w::g=>by rw[HH,Wz,jj4 g];rfl
theorem Vq{K:BZ}{H:Hp}{S:AS}:∀g:List BR,Al K H S (g.map D.str) (g.map V.str)
 | []=>Al.nil
 |w::g=>Al.cons rfl (Vq g)
def aO(f1 f2:Ev->R D):Ev->R D:=λg=>(f1 g).bind λx=>match x with
 | .str z=>(f2 g).bind λy=>match y with
  | .str y=>if((y.length == 0)=false/\z.length<=16777216)/\(Ej z y).length<=16777216 then .ok (.lst ((Ej z y).map .str)) else .bad
  |_=>.bad
 |_=>.bad
theorem jx9:∀g d,aO f1 f2 g=.ok d->∃ds,d=.lst ds:=λg d h=>by
 unfold aO at h;obtain⟨x,m,h⟩:=Dy h;split at h
 ·obtain⟨y,i,h⟩:=Dy h;split at h
  ·split at h
   ·grind
   ·cases h
  ·cases h
 ·cases h
theorem x_{apos:HY}(P:PEd X c l o f1)(T:PEd X c l e f2)(r:DG o "split" X.env (CV o X.env)=CV o X.env:=by rfl)
  (A:((IK cpos (BP [e] X.env)).all (λx=>!x.1) && (JC cpos (GF [] X.env)).all (λx=>x.1.isSome)
   && decide ([e].length+([]:List HN).length+(if([]:List HN).isEmpty then 0 else 1)<30))=true:=by rfl)
  (m:(apos.endLine == cpos.line)=true:=by rfl)(hs:BP [e] X.env=(false,CV e X.env)::BP [] X.env:=by rfl)(g:Zp X.env cpos []:=by rfl):
  PEf X c l (.Call (.Attribute o "split" apos) [e] [] cpos) (aO f1 f2):=
 PE.imp (eF PySem.F.plainAttrs_str PySem.F.slot_str_split PySem.F.type_str_split wi2 P (ac T an hs) r A m hs g) λσ H Q h=>by
 obtain⟨O,ρ,E,q⟩:=h;refine Aq E ((RQ.bind.mp q).mono (λY I x H1 C Z M=>?_) λ_ z=>z);cases Y with
 |str z =>
  cases(show x=.str z from M);refine⟨rfl,Xz Z ((RQ.bind.mp I).mono (λU i y H2 G E2 L=>?_) λe z=>Bf z C)⟩;cases U with
  |str w =>
   cases(show y=.str w from L);have i:RQ (if((w.length == 0)=false/\z.length<=16777216)/\(Ej z w).length<=16777216 then R.ok (D.lst ((Ej z w).map .str)) else .bad) _ _:=i;by_cases B:((w.length == 0)=false/\z.length<=16777216)/\(Ej z w).length<=16777216
   ·rw[if_pos B]at i;exact⟨z,w,rfl,rfl,B.1.1,by rw[CG];exact B.1.2,by rw[CG];exact B.2,λp J=>i p _ _ _ rfl ((C.trans G).trans (Av J _)) ((C.trans G).free J) Ak (Vq _)⟩
   ·rw[if_neg B]at i;exact i.elim
  |_=>exact(i:False).elim
 |_=>exact(I:False).elim
def dJ(f1 f2:Ev->R D):Ev->R D:=λh=>(f1 h).bind λx=>match x with
 | .str z=>(f2 h).bind λy=>match y with
  | .lst ds=>(R.of (Wz ds)).bind λg=>if g.toArray.foldl (·+·.length+z.length) 0<=16777216/\(Builtin.Str.glued z g).length<=16777216 then .ok (.str (Builtin.Str.glued z g)) else .bad
  |_=>.bad
 |_=>.bad
theorem wG{apos:HY}(P:PEd X c l o f1)(U:PEd X c l e f2)(m:DG o "join" X.env (CV o X.env)=CV o X.env:=by rfl)
  (p:((IK cpos (BP [e] X.env)).all (λx=>!x.1) && (JC cpos (GF [] X.env)).all (λx=>x.1.isSome)
   && decide ([e].length+([]:List HN).length+(if([]:List HN).isEmpty then 0 else 1)<30))=true:=by rfl)
  (i:(apos.endLine == cpos.line)=true:=by rfl)(hs:BP [e] X.env=(false,CV e X.env)::BP [] X.env:=by rfl)(g:Zp X.env cpos []:=by rfl):
  PEd X c l (.Call (.Attribute o "join" apos) [e] [] cpos) (dJ f1 f2):=
 PE.imp (eF PySem.F.plainAttrs_str PySem.F.slot_str_join PySem.F.type_str_join wx3 P (ac U an hs) m p i hs g) λσ H Q h=>by
 obtain⟨M,ρ,E,q⟩:=h;refine Aq E ((RQ.bind.mp q).mono (λdx G x H1 B E1 L=>?_) λ_ z=>z);cases dx with
 |str z =>
  cases(show x=.str z from L);refine⟨rfl,Xz E1 ((RQ.bind.mp G).mono (λdy C y H2 I E2 J=>?_) λe z=>Bf z B)⟩;cases dy with
  |lst ds =>
   obtain⟨a,vs,rfl,T,O⟩:=J;obtain⟨w,Y,r⟩:=(RQ.bind.mp (show RQ ((R.of (Wz ds)).bind _) _ _ from C)).of;have Z:=xY O Y;subst Z;by_cases A:w.toArray.foldl (·+·.length+z.length) 0<=16777216/\(Builtin.Str.glued z w).length<=16777216
   ·rw[if_pos A]at r;refine⟨z,a,w,rfl,rfl,T.sq,?_,by rw[CG];exact A.2,r _ _ (B.trans I) rfl⟩;unfold Builtin.Str.tooLong;rw[CG];lia
   ·rw[if_neg A]at r;exact r.elim
  |_=>exact(C:False).elim
 |_=>exact(G:False).elim
def R4(z:BR)(g h:Option Int):BR:=if((Builtin.Str.strSliceIndices g h 1 z.length).length == z.length)=true then z else⟨((Builtin.Str.strSliceIndices g h 1 z.length).filterMap (z.cps[·]?)).toArray⟩
def zn8:V->Option Int->Option Int->Hp->VK->Prop:=λx g h H Q=>∃z,x=.str z/\(R4 z g h).length<=sizeLine/\Q (.str (R4 z g h)) H
def yr5:SlR X zn8:=by
 intro pins s σ H x v E C J L G Q I y B pl A h;obtain⟨z,rfl,w,q⟩:=h;obtain⟨t,rfl⟩:=(show ∃t,v=Value.str z t from y);have part:∀{v:A_}{o:Option Int},QK v o->∃p:Option (Int×Tok),v=partValue p/\p.map (·.1)=o:=λh=>by
  cases h with
  |none=>exact⟨none,rfl,rfl⟩
  |int i t=>exact⟨some (i,t),rfl,rfl⟩
 obtain⟨p1,rfl,rfl⟩:=part pl;obtain⟨g,rfl,rfl⟩:=part A;refine⟨"str",_,PySem.F.slot_str_getitem.lookup,JF s z t,wpAny_getItem_str_slice (l:=p1) (u:=g) (st:=none) B rfl ?_⟩;unfold sliceMade;by_cases r:((Builtin.Str.strSliceIndices (p1.map (·.1)) (g.map (·.1)) 1 z.length).length == z.length)=true
 ·have e:R4 z (p1.map (·.1)) (g.map (·.1))=z:=by unfold R4;rw[if_pos r]
  rw[e]at q;have m:((Option.map (λx=>x.fst) (none:Option (Int×Tok))).getD 1 == 1 && (slicePicked z p1 g none).length == z.length)=true:=r;rw[if_pos m];exact⟨.str z,H,I,⟨t,rfl⟩,q⟩
 ·have e:R4 z (p1.map (·.1)) (g.map (·.1))=⟨((Builtin.Str.strSliceIndices (p1.map (·.1)) (g.map (·.1)) 1 z.length).filterMap (z.cps[·]?)).toArray⟩:=by unfold R4;rw[if_neg r]
  rw[e]at q w;have m:¬ ((Option.map (λx=>x.fst) (none:Option (Int×Tok))).getD 1 == 1 && (slicePicked z p1 g none).length == z.length)=true:=r;rw[if_neg m];exact⟨w,.str _,H,I.tok _,⟨_,rfl⟩,q⟩
def slS:D->Option Int->Option Int->Option D
 | .str z,g,h=>if(R4 z g h).length<=16777216 then some (.str (R4 z g h)) else none
 |_,_,_=>none
def yr7{m p:Option B_}{r w:Ev->R (Option Int)}{I:HY}(M:PEd X c l e f)(J:POd X c m r)(L:POd X c p w):PEd X c l (.Subscript e (.Slice m p none I) pos) (bS f r w slS):=PE.imp (jw0 yr5 M J L) λσ H Q q=>by
 obtain⟨Z,Y,E,q⟩:=q;refine Aq E ((RQ.bind.mp q).mono (λP G x H1 g U A=>?_) λ_ z=>z);refine Us U ((RQ.bind.mp G).mono (λi F H2 h T=>?_) λe z=>Bf z g);refine Us T ((RQ.bind.mp F).mono (λj C H3 y E3=>?_) λe z=>Bf z (g.trans h));obtain⟨d,e,B⟩:=C.of;cases P with
 |str z=>cases(show x=.str z from A);obtain⟨O,rfl⟩:=Bg (show(if(R4 z i j).length<=16777216 then some (D.str (R4 z i j)) else none)=some d from e);exact⟨z,rfl,by rw[CG];exact O,B _ _ ((g.trans h).trans y) rfl⟩
 |_=>cases e
def ZW:List D->Option D
 | [.str x]=>if x.length<=640/\(PySem.intText? x).isSome=true then some (.int ((PySem.intText? x).getD 0)) else none
 |_=>none
def yi5:Dh X (.type "int") (rC X.K ZW):=by
 rintro pins s σ H xs y Q I r ⟨S,ds,d,m,e,q⟩
 match ds,e with
 | [.str x],e=>obtain⟨⟨p,w⟩,rfl⟩:=Bg e;obtain⟨n,g⟩:=m7.mp w;rw[g]at q;obtain⟨v,rfl,h⟩:=m.one;cases(show v=.str x from h);obtain⟨u,rfl,i⟩:=vals1 r;obtain⟨t,rfl⟩:=(show ∃t,u=Value.str x t from i);exact W.KIN.call_text g p ⟨.int n,H,I.tok _,⟨_,rfl⟩,q _ H (Ad.refl _) rfl⟩
def Oj:List D->Option D
 | [.int i]=>if i.natAbs.log2<1920 then some (.str (Str.ofString (toString i))) else none
 |_=>none
def yi7:Dh X (.type "str") (rC X.K Oj):=by
 rintro pins s σ H xs g Q I r ⟨S,ds,d,m,e,q⟩
 match ds,e with
 | [.int i],e=>obtain⟨p,rfl⟩:=Bg e;obtain⟨v,rfl,h⟩:=m.one;cases(show v=.int i from h);exact jl2 pins s σ H _ g Q I r ⟨i,rfl,p,q _ H (Ad.refl _) rfl⟩
variable {fs:Ev->R (List D)}{p:HY}
def yz7(h:X.mg "int" = none)(q:PAd X c l (e::es) fs)(i:Gl X "int":=by rfl)(m:Zs X.env e es:=by rfl)(g:Zp X.env pos es:=by rfl):
  PEd X c l (.Call (.Name "int" p) (e::es) [] pos) (bA fs ZW):=pL yi5 PyProof.Rows.boot_int h q i (by decide) (by decide) m g
def zf4(h:X.mg "str" = none)(q:PAd X c l (e::es) fs)(i:Gl X "str":=by rfl)(m:Zs X.env e es:=by rfl)(g:Zp X.env pos es:=by rfl):
  PEd X c l (.Call (.Name "str" p) (e::es) [] pos) (bA fs Oj):=pL yi7 PyProof.Rows.boot_str h q i (by decide) (by decide) m g
def inS:D->D->Option D
 | .str i,.str j=>some (.bl (!(Builtin.Str.occurrences j i 0 j.length 1).isEmpty))
 |_,_=>none
def zb9:OpR X (CN .In) (rD X.K inS):=by
 rintro pins s σ H x y v u Q I h g ⟨S,z,w,d,r,m,e,q⟩;cases z with
 |str i =>
  cases w with
  |str j=>cases e;cases(show x=.str i from r);cases(show y=.str j from m);exact kv1 pins s σ H _ _ v u Q I h g ⟨i,j,rfl,rfl,q _ H (Ad.refl _) rfl⟩
  |_=>cases e
 |_=>cases e
def zm1(i:PEd X c l a f1)(h:PEd X c l b f2)(g:FP .In b=false:=by with_unfolding_all rfl):PEd X c l (.Compare a [.In] [b] pos) (b2 f1 f2 inS):=oO zb9 i h g
def kgs{z:BR}{t:Tok}(g:X.mg x=some (.str z t))(i:Gl X x:=by rfl)(m:Zd x:=by decide):PEd X c .fr (.Name x pos) (kd (.str z)):=
 PE.imp (rK (v:=.str z) i g ⟨t,rfl⟩ m) λ_ _ _ h=>d9 (d:=.str z) (v:=.str z) (λ_ _=>rfl) h
def zl4:D->Option D
 | .int i=>if i.natAbs<2 ^ 200 then some (.str (Str.ofString (toString i))) else none
 |_=>none
def zl5(h:PEd X c l e f):PEd X c l (.FormattedValue e (-1) none pos) (b1 f zl4):=λpins s σ H Q I q=>by
 obtain⟨O,M,E,q⟩:=q;refine FormattedValue_plain (thn (h pins s σ H (λv m=>∃i:Int,v=.int i/\i.natAbs<2 ^ 200/\Q (.str (Str.ofString (toString i))) m) I (Aq E ((RQ.bind.mp q).mono (λd w v m A T r=>?_) λ_ z=>z))) λu A G=>?_)
 ·obtain⟨P,C,F⟩:=w.of;cases d with
  |int i=>obtain⟨y,rfl⟩:=Bg C;exact⟨i,r,y,F _ m A rfl⟩
  |_=>cases C
 ·obtain⟨v,m,L,r,i,J,y,w⟩:=G;subst J;obtain⟨t,rfl⟩:∃t,u=Value.int i t:=r;have g:i.natAbs.log2<1920:=by
   by_cases B:i.natAbs=0
   ·rw[B];decide
   ·exact ZF ((tO B).mpr y) (by decide)
  exact formatField_int_small g ⟨.str (toString i),m,(L.tok _).tok _,⟨_,rfl⟩,w⟩
def yc0(x:BR):x++Str.empty=x:=by rfl
def wx5(x:BR):Str.empty++x=x:=by show(⟨#[]++x.cps⟩:BR)=x;simp
def kx1(x y z:BR):x++y++z=x++(y++z):=by show(⟨x.cps++y.cps++z.cps⟩:BR)=⟨x.cps++(y.cps++z.cps)⟩;simp
def jN:Ev->R BR:=λ_=>.ok Str.empty
def jS(f:Ev->R D)(g:Ev->R BR):Ev->R BR:=λh=>(f h).bind λx=>match x with
 | .str z=>if z.length<=2000 then(g h).bind λw=>.ok (z++w) else .bad
 |_=>.bad
def jV(g:Ev->R BR):Ev->R D:=λh=>(g h).bind λw=>.ok (.str w)
def PJs(X:Cx)(c:DC)(n:Nat)(es:List B_)(g:Ev->R BR):Prop:=∀(acc:BR)(pins:List (BJ×GR))(s:BK)(σ:St)(H:Hp)(Q:VK),acc.length+n<=sizeLine->Inv X pins σ H s ->
 (∃m i,Ar X.K c m i σ H/\RQ (g i) (λw=>∀h,Ad H h->Q (.str (acc++w)) h) (λe=>∀v h,Ad H h->Rep X.K h (lvS c i σ H .any) e v->c.Ex e v h))->BL (BV X.prog X.w) X.A (joinParts acc (UW es X.env)) (EP X pins σ Q) X.xe s
def js0:PJs X c 0 [] jN:=λacc pins s σ H Q h I ⟨m,i,E,q⟩=>by have q:∀g,Ad H g->Q (.str (acc++Str.empty)) g:=q;rw[yc0]at q;exact joinParts_nil ⟨.str acc,H,I.tok _,⟨_,rfl⟩,q H (Ad.refl _)⟩ h
variable {g:Ev->R BR}
theorem iD(h:PEd X c l e f)(U:PJs X c n es g)(Y:UW (e::es) X.env=CV e X.env::UW es X.env:=by rfl):PJs X c (2000+n) (e::es) (jS f g):=λacc pins s σ H Q hz I q=>by
 obtain⟨O,C,E,q⟩:=q;rw[Y];refine joinParts_cons (thG (h pins s σ H (λv G=>∃x:BR,v=.str x/\x.length<=2000/\Ad H G/\Ar X.K c O C σ G/\RQ (g C) (λw=>∀i,Ad H i->Q (.str (acc++x++w)) i) (λe=>∀v i,Ad H i->Rep X.K i (lvS c C σ H .any) e v->c.Ex e v i)) I (Aq E ((RQ.bind.mp q).mono (λd m v G J M L=>?_) λ_ z=>z))) λu J v G I1 L P=>?_)
 ·cases d with
  |str z =>
   have m:RQ (if z.length<=2000 then(g C).bind λw=>.ok (z++w) else .bad) _ _:=m;by_cases B:z.length<=2000
   ·rw[if_pos B]at m;exact⟨z,L,B,J,M,(RQ.bind.mp m).mono (λw T i F=>by rw[kx1];exact T i F) λ_ z=>z⟩
   ·rw[if_neg B]at m;exact m.elim
  |_=>exact(m:False).elim
 ·obtain⟨x,Z,hx,A,M,m⟩:=P;subst Z;obtain⟨t,rfl⟩:∃t,u=Value.str x t:=L;have B:(acc++x).length=acc.length+x.length:=strLen_append _ _;refine⟨by rw[B];lia,U (acc++x) pins J σ G Q (by rw[B];lia) I1 ⟨O,C,M,m.mono (λ_ z i F=>z i (A.trans F)) λ_ z v i F r=>z v i (A.trans F) (r.mono (Ad.refl _) λ_ y=>Dj A y)⟩⟩
theorem js_{m i:B_}(h:PJs X c n (m::i::es) g)(F:n<=sizeLine:=by decide)(B:UW (m::i::es) X.env=CV m X.env::CV i X.env::UW es X.env:=by rfl):PEd X c l (.JoinedStr (m::i::es) pos) (jV g):=λpins s σ H Q I q=>by obtain⟨A,r,E,q⟩:=q;refine JoinedStr_many ?_;rw[<-B];exact h Str.empty pins s σ H Q (by have:Str.empty.length=0:=rfl;rw[this];lia) I ⟨A,r,E,(RQ.bind.mp q).mono (λw z C y=>by rw[wx5];exact z _ C y rfl) λ_ z=>z⟩
end
def tx(l:List Nat):BR:=⟨l.toArray⟩
theorem Dm(l:List Nat):(tx l).length=l.length:=by show l.toArray.size=_;simp
theorem yt9(a b:List Nat):tx a++tx b=tx (a++b):=by show(⟨a.toArray++b.toArray⟩:BR)=⟨(a++b).toArray⟩;simp
def xM{a b:List Nat}(h:tx a=tx b):a=b:=by have:=congrArg (λs:BR=>s.cps.toList) h;simpa[tx] using this
theorem kE{l:List Nat}(h:∀c∈l,c<128):PyData.strOk (tx l)=true:=by show l.toArray.all (·<0x110000)=true;rw[jEh];grind
theorem zV{l:List Nat}(h:∀c∈l,c<128):Builtin.Str.strKind (tx l)=1:=by unfold Builtin.Str.strKind;rw[if_pos];show l.toArray.all (·<256)=true;rw[jEh];grind
def Vp(c:Nat)(l:List Nat):List Nat:=(List.range l.length).filter λi=>decide (l[i]? = some c)
theorem subAt_one(l:List Nat)(c i:Nat):Builtin.Str.subAt (tx l) (tx [c]) i=decide (l[i]? = some c):=by
 unfold Builtin.Str.subAt;have e:(tx [c]).length=1:=rfl;rw[e,ZK,decide_eq_true_iff];show(l.toArray.extract i (i+1) == #[c])=true↔_;rw[beq_iff_eq];constructor
 ·intro h;have:=congrArg Array.toList h;rw[jGh]at this;have this:(l.take (i+1)).drop i=[c]:=by simpa[jFi,jHm] using this
  have g:=congrArg (λz:List Nat=>z[0]?) this;grind
 ·intro h;apply iM;rw[jGh];obtain⟨f,e⟩:=NB.mp h;have:(l.take (i+1)).drop i=[c]:=by rw[iZ,h];simp[ZM (aA f)]
  simpa[jFi,jHm] using this
theorem Zy(l:List Nat)(c:Nat):∀(m k free:Nat)(acc:Array Nat),k+m=l.length+1->free<=k->acc.size<=k ->
  (forIn (lY k m) (acc,free) (StrLaws.occBody (tx l) (tx [c]) l.length (l.length+1))).run.fst.toList=acc.toList++(lY k m).filter λi=>decide (l[i]? = some c)
 |0,k,free,acc,_,_,_=>by simp
 |m+1,k,free,acc,q,o,r=>by
  rw[t7,iV,tY];unfold StrLaws.occBody;have p:(tx [c]).length=1:=rfl;rw[subAt_one,p];by_cases h:l[k]? = some c
  ·have g:=(NB.mp h).1;rw[if_pos ⟨⟨⟨by show acc.size<_;lia,o⟩,by lia⟩,decide_eq_true h⟩,if_pos (decide_eq_true h)];have f:=Zy l c m (k+1) (k+1) (acc.push k) (by lia) (by lia) (by simp;lia);refine Eq.trans f ?_;simp
  ·rw[if_neg λz=>h (of_decide_eq_true z.2),if_neg λz=>h (of_decide_eq_true z)];exact Zy l c m (k+1) free acc (by lia) (by lia) (by lia)
theorem wx9(l:List Nat)(c:Nat):Builtin.Str.occurrences (tx l) (tx [c]) 0 (tx l).length ((tx l).length+1)=Vp c l:=by rw[Dm,StrLaws.occ_eq];have:=Zy l c (l.length+1) 0 0 #[] (by lia) (by lia) (by simp);rw[Nat.sub_zero];refine this.trans ?_;unfold Vp;rw[show(#[]:Array Nat).toList=[] from rfl,fG,<-jGg,mQ,uE];simp
def spl(c:Nat):List Nat->List (List Nat)
 | []=>[[]]
 |x::l=>if x=c then []::spl c l else match spl c l with
  |w::ws=>(x::w)::ws
  | []=>[[x]]
def jn(c:Nat):List (List Nat)->List Nat
 | []=>[]
 | [w]=>w
 |w::v::ws=>w++c::jn c (v::ws)
def sbl(l:List Nat)(i j:Nat):List Nat:=(l.take j).drop i
def jG(l:List Nat)(f:List Nat):List (List Nat):=((0::f.map (·+1)).zip (f++[l.length])).map λp=>sbl l p.1 p.2
theorem kv8(c x:Nat)(l:List Nat):Vp c (x::l)=(if x=c then [0] else [])++(Vp c l).map (·+1):=by
 unfold Vp;rw[PQ,List.range_succ_eq_map,tY,jHh];have e:((λi=>decide ((x::l)[i]? = some c))∘Nat.succ)=λi=>decide (l[i]? = some c):=funext λi=>by simp
 rw[e];by_cases h:x=c
 ·simp_all
 ·simp_all
theorem iJ(c:Nat):∀l:List Nat,spl c l≠[]
 | []=>by simp[spl]
 |x::l=>by
  unfold spl;split
  ·simp
  ·split<;>simp
theorem jh7(c:Nat):∀l:List Nat,jG l (Vp c l)=spl c l
 | []=>rfl
 |x::l=>by
  have m:=jh7 c l;rw[kv8];by_cases h:x=c
  ·rw[if_pos h,spl,if_pos h,<-m];unfold jG;rw[PQ];simp only[cN,fG,HH,XS,KQ];have i:sbl (x::l) 0 0=[]:=by simp[sbl]
   rw[i];congr 1;have g:((Vp c l).map (·+1)++[l.length+1])=(Vp c l++[l.length]).map (·+1):=by simp
   have f:((0+1)::(Vp c l).map ((λx=>x+1)∘λx=>x+1))=(0::(Vp c l).map (·+1)).map (·+1):=by simp
   rw[g,f,List.zip_map,KQ];rfl
  ·rw[if_neg h,fG,spl,if_neg h,<-m];unfold jG;rw[PQ];cases o:Vp c l with
   |nil=>simp[sbl]
   |cons p ps =>
    simp only[HH,cN,XS,KQ];have i:sbl (x::l) 0 (p+1)=x::sbl l 0 p:=by simp[sbl]
    rw[i];congr 1;have g:(ps.map (·+1)++[l.length+1])=(ps++[l.length]).map (·+1):=by simp
    have f:((p+1+1)::ps.map ((λx=>x+1)∘λx=>x+1))=((p+1)::ps.map (·+1)).map (·+1):=by simp
    rw[g,f,List.zip_map,KQ];rfl
theorem jj3(l:List Nat)(i j:Nat):Builtin.Str.strSub (tx l) i j=tx (sbl l i j):=by unfold Builtin.Str.strSub tx sbl;congr 1;grind
theorem wn1{l:List Nat}{c:Nat}(h:∀x∈l,x<128)(r:c<128):Ej (tx l) (tx [c])=(spl c l).map tx:=by
 have i:=zV h;have g:=zV (l:=[c]) λx m=>by rw[PX.mp m];exact r
 unfold Ej;rw[wx9,i,g,Dm];have w:(tx [c]).length=1:=rfl;rw[w];by_cases f:l=[]
 ·subst f;rfl
 ·have o:¬ l.length<1:=by have:=mW.mpr f;lia
  rw[if_neg (by simp[o])];have key:(Builtin.Str.partsBetween (tx l) (Vp c l) 1)=(spl c l).map tx:=by unfold Builtin.Str.partsBetween;rw[Dm,<-jh7];unfold jG;rw[KQ];exact SJ λp _=>jj3 l p.1 p.2
  split
  ·rename_i q;rw[<-key];have:Vp c l=[]:=by simpa using q
   rw[this];unfold Builtin.Str.partsBetween;simp only[cL,fG,XS,List.zip_nil_right,HH];rw[jj3,Dm];simp[sbl]
  ·exact key
theorem yQ(c:Nat):∀l:List Nat,jn c (spl c l)=l
 | []=>rfl
 |x::l=>by
  have f:=yQ c l;have i:=iJ c l;unfold spl;by_cases h:x=c
  ·rw[if_pos h];cases g:spl c l with
   |nil=>exact absurd g i
   |cons w m=>rw[g]at f;rw[jn,f,h];rfl
  ·rw[if_neg h];cases g:spl c l with
   |nil=>exact absurd g i
   |cons w m =>
    rw[g]at f;cases m with
    |nil=>rw[jn]at f;show x::w=_;rw[f]
    |cons v m=>rw[jn]at f;show x::w++c::jn c (v::m)=_;rw[cN,f]
theorem Xx{c:Nat}:∀{w:List Nat},c∉w->∀l,spl c (w++c::l)=w::spl c l
 | [],_,l=>by rw[fG,spl,if_pos rfl]
 |x::w,h,l=>by have f:=not_or.mp λz=>h (JN.mpr z);rw[cN,spl,if_neg (Ne.symm f.1),Xx f.2 l]
theorem z7{c:Nat}:∀{w:List Nat},c∉w->spl c w=[w]
 | [],_=>rfl
 |x::w,h=>by have f:=not_or.mp λz=>h (JN.mpr z);rw[spl,if_neg (Ne.symm f.1),z7 f.2]
theorem pX{c:Nat}:∀{ws:List (List Nat)},ws≠[]->(∀w∈ws,c∉w)->spl c (jn c ws)=ws
 | [],h,_=>absurd rfl h
 | [w],_,h=>z7 (h w J_)
 |w::v::ws,_,h=>by rw[jn,Xx (h w J_),pX (by simp) λx f=>h x (JB _ f)]
theorem Xy{c:Nat}:∀{l:List Nat}{w:List Nat},w∈spl c l->∀x∈w,x∈l
 | [],w,h,x,f=>by rw[spl,PX]at h;lia
 |y::l,w,h,x,f=>by
  rw[spl]at h;split at h
  ·rcases JN.mp h with rfl |h
   ·cases f
   ·exact JB _ (Xy h x f)
  ·cases g:spl c l with
   |nil=>exact absurd g (iJ c l)
   |cons v vs =>
    rw[g]at h;rcases JN.mp h with rfl |h
    ·rcases JN.mp f with rfl |f
     ·simp
     ·exact JB _ (Xy (w:=v) (by rw[g];exact J_) x f)
    ·exact JB _ (Xy (w:=w) (by rw[g];exact JB _ h) x f)
theorem jg8(c:Nat):∀(ws:List (List Nat))(acc:List Nat),(ws.map tx).foldl (λa (p:BR)=>a++(tx [c]).cps++p.cps) acc.toArray=(acc++ws.flatMap λw=>c::w).toArray
 | [],acc=>by simp
 |w::ws,acc=>by
  rw[HH,mO];have:acc.toArray++(tx [c]).cps++(tx w).cps=(acc++c::w).toArray:=by simp[tx]
  rw[this,jg8 c ws];simp
theorem Xp(c:Nat):∀(w:List Nat)(ws:List (List Nat)),jn c (w::ws)=w++ws.flatMap λv=>c::v
 |w,[]=>by simp[jn]
 |w,v::ws=>by rw[jn,Xp c v ws];simp
theorem wu3(c:Nat)(ws:List (List Nat)):Builtin.Str.glued (tx [c]) (ws.map tx)=tx (jn c ws):=by
 unfold Builtin.Str.glued;cases ws with
 |nil=>rfl
 |cons w ws=>rw[Xp];show(⟨((ws.map tx)).foldl (λa (p:BR)=>a++(tx [c]).cps++p.cps) w.toArray⟩:BR)=_;rw[jg8];rfl
theorem ws4{l:List Nat}{g i:Option Int}{a b:Nat}(h:Builtin.Str.strSliceIndices g i 1 l.length=sliceRange (a:Int) (b:Int) 1)(p:b<=l.length):R4 (tx l) g i=tx ((l.drop a).take (b - a)):=by
 unfold R4;rw[Dm,h,jY];split
 ·rename_i f;have f:b - a=l.length:=by simpa using f
  rw[f];by_cases o:l=[]
  ·simp_all
  ·have:=mW.mpr o;have m:a=0:=by omega
   rw[m];simp
 ·show(⟨(((List.range (b - a)).map (a+·)).filterMap (l.toArray[·]?)).toArray⟩:BR)=_;rw[j5];rfl
theorem qQ(l:List Nat)(a:Nat):R4 (tx l) (some (a:Int)) none=tx (l.drop a):=by
 rw[ws4 (a:=min a l.length) (b:=l.length) ?_ (GX _)]
 ·by_cases h:a<=l.length
  ·grind [ZM,mZ,cO]
  ·rw[bB (by omega),fM (GX _),fM (by omega)];simp
 ·unfold Builtin.Str.strSliceIndices;lia
variable {i:Nat}
theorem T7{l:List Nat}{c:Nat}(f:l.length<=10000)(h:l[i]? = some c):ixD (.str (tx l)) (.int (i:Int))=some (.str (tx [c])):=by
 show(if(tx l).length<=16777216 then(atI (tx l).cps.toList (i:Int)).map λk=>D.str ⟨#[k]⟩ else none)=_;rw[Dm,if_pos (by omega)];have:(tx l).cps.toList=l:=by simp[tx]
 rw[this,wr1 h];rfl
theorem qF{l:List Nat}(f:l.length<=10000):Cv [.str (tx l)]=some (.int (l.length:Int)):=by show(if(tx l).length<=16777216 then some (D.int ((tx l).length:Nat)) else none)=_;rw[Dm,if_pos (by omega)]
theorem Ew{a b:List Nat}(h:a.length+b.length<=10000):Az (.str (tx a)) (.str (tx b))=some (.str (tx (a++b))):=by show(if(tx a).length+(tx b).length<=16777216 then some (D.str (tx a++tx b)) else none)=_;grind [Dm,yt9]
def yz6(c:Nat)(l:List Nat):inS (.str (tx [c])) (.str (tx l))=some (.bl (decide (c∈l))):=by refine congrArg (λb=>some (D.bl b)) (Eq.trans (StrLaws.found_one (tx l) c) ?_);rfl
def vL:(List.range 10).all (λk=>decide (Str.ofString (toString (k:Int))=tx [48+k]) && decide (PySem.intText? (tx [48+k])=some (k:Int)))=true:=by decide +kernel
def wt1{k:Nat}(h:k<10):Str.ofString (toString (k:Int))=tx [48+k]:=by have:=QL.mp vL k (MT.mpr h);rw[M_]at this;exact of_decide_eq_true this.1
def wt0{k:Nat}(h:k<10):PySem.intText? (tx [48+k])=some (k:Int):=by have:=QL.mp vL k (MT.mpr h);rw[M_]at this;exact of_decide_eq_true this.2
theorem yV{k:Nat}(h:k<10):ZW [.str (tx [48+k])]=some (.int (k:Int)):=by show(if(tx [48+k]).length<=640/\(PySem.intText? (tx [48+k])).isSome=true then some (D.int ((PySem.intText? (tx [48+k])).getD 0)) else none)=_;rw[wt0 h,if_pos ⟨by rw[Dm];show 1<=640;decide,rfl⟩];rfl
theorem ku1{k:Nat}(h:k<10):((k:Int)).natAbs.log2<1920:=by grind [uD,Nat.log2_le_self]
def pW{k:Nat}(h:k<10):Oj [.int (k:Int)]=some (.str (tx [48+k])):=by show(if((k:Int)).natAbs.log2<1920 then some (D.str (Str.ofString (toString (k:Int)))) else none)=_;rw[if_pos (ku1 h),wt1 h]
theorem wQ{a b:List Nat}(g:∀c∈a,c<128)(f:∀c∈b,c<128):eqD (.str (tx a)) (.str (tx b))=some (.bl (decide (a=b))):=by
 unfold eqD;rw[if_pos (by simp[D.cok,kE g,kE f])];have:(tx a == tx b)=decide (a=b):=by rw[ZK,beq_iff_eq,decide_eq_true_iff];exact⟨xM,λh=>by rw[h]⟩
 simp[D.eqb,D.py,PyData.eqv,this]
def za7{a b:List Nat}(g:∀c∈a,c<128)(f:∀c∈b,c<128):neD (.str (tx a)) (.str (tx b))=some (.bl (!decide (a=b))):=by
 unfold neD;rw[if_pos (by simp[D.cok,kE g,kE f])];have:(tx a == tx b)=decide (a=b):=by rw[ZK,beq_iff_eq,decide_eq_true_iff];exact⟨xM,λh=>by rw[h]⟩
 simp[D.eqb,D.py,PyData.eqv,this]
def txs(ws:List (List Nat)):List D:=ws.map λw=>.str (tx w)
variable {ρ:Ev}
theorem qL{l:List Nat}{c:Nat}(h1:f1 ρ=.ok (.str (tx l)))(h:f2 ρ=.ok (.str (tx [c])))(f:∀x∈l,x<128)(g:c<128)(m:l.length<=10000)(o:(spl c l).length<=10000):aO f1 f2 ρ=.ok (.lst (txs (spl c l))):=by unfold aO;rw[h1,R.ok_bind];show(f2 ρ).bind _=_;rw[h,R.ok_bind];show(if(((tx [c]).length == 0)=false/\(tx l).length<=16777216)/\(Ej (tx l) (tx [c])).length<=16777216 then R.ok (D.lst ((Ej (tx l) (tx [c])).map .str)) else .bad)=_;rw[wn1 f g,if_pos ⟨⟨rfl,by rw[Dm];omega⟩,by rw[GQ];omega⟩,KQ];rfl
def kx3(ws:List (List Nat)):Wz (txs ws)=some (ws.map tx):=by
 have:txs ws=(ws.map tx).map .str:=by unfold txs;rw[KQ];rfl
 rw[this,jj4]
def tot(ws:List (List Nat)):Nat:=(ws.map λw=>w.length+1).sum
theorem jt9(z:Nat):∀(ws:List (List Nat))(a:Nat),(ws.map tx).foldl (λ(n:Nat)(s:BR)=>n+s.length+z) a=a+(ws.map λw=>w.length+z).sum
 | [],a=>by simp
 |w::ws,a=>by rw[HH,mO,jt9 z ws,Dm,HH,RP];omega
theorem yS(c:Nat):∀f:List (List Nat),(jn c f).length<=tot f
 | []=>by simp[jn,tot]
 |w::f=>by rw[Xp,YK];unfold tot;simp
theorem zB{c:Nat}{ws:List (List Nat)}(h1:f1 ρ=.ok (.str (tx [c])))(f:f2 ρ=.ok (.lst (txs ws)))(g:tot ws<=10000):dJ f1 f2 ρ=.ok (.str (tx (jn c ws))):=by
 unfold dJ;rw[h1,R.ok_bind];show(f2 ρ).bind _=_;rw[f,R.ok_bind];show(R.of (Wz (txs ws))).bind _=_;rw[kx3,R.of_some,R.ok_bind];have h:(ws.map tx).toArray.foldl (λ(n:Nat)(s:BR)=>n+s.length+(tx [c]).length) 0=tot ws:=by rw[List.foldl_toArray,jt9];unfold tot;rw[Dm];simp
 grind [yS,wu3,Dm]
def wu2:Bool->JV->Array JV->Nat->Nat->Nat->StateT CK Sem (Option Nat):=sortPriv% PySem.Builtin.gallop
def wh9:Array JV->Array JV->StateT CK Sem (Array JV):=sortPriv% PySem.Builtin.mergeLo
variable {A:D_}{it:Array JV}{O:bO}{prog:BW}{s:BK}{κ:JT}{E:A_->BK->Prop}{w:CQ}
section
variable {key:Nat->O.α}
def Tr(prog:BW)(w:CQ)(A:D_)(E:A_->BK->Prop)(s:BK){g:Type}(m:StateT CK Sem g)(st:CK)(R:g->CK->Prop):Prop:=
 ∀(o:Nat)(Q:g->CK->BK->Prop),(∀a f h,R a f->Q a f {s with toks:=h})->kasC (BV prog w) A E m Q st {s with toks:=o}
def sV{f:Type}{a:f}{st:CK}{R:f->CK->Prop}(h:R a st):Tr prog w A E s (pure a) st R:=λg Q q=>kasC_pure (q a st g h)
def wq7{o y:Type}{m:StateT CK Sem o}{f:o->StateT CK Sem y}{st:CK}{R:o->CK->Prop}{z:y->CK->Prop}(h:Tr prog w A E s m st R)(C:∀a g,R a g->Tr prog w A E s (f a) g z):Tr prog w A E s (m >>= f) st z:=
 λB Q q=>KR (h B _ λa g p r=>C a g r p Q q)
def wq8{o:Type}{m:StateT CK Sem o}{st:CK}{R p:o->CK->Prop}(h:Tr prog w A E s m st R)(z:∀a f,R a f->p a f):Tr prog w A E s m st p:=λy Q q=>h y Q λa f g r=>q a f g (z a f r)
def zP{g:Type}{f:CK->StateT CK Sem g}{st:CK}{R:g->CK->Prop}(h:Tr prog w A E s (f st) st R):Tr prog w A E s (get >>= f) st R:=λm Q q=>KR (kasC_get (h m Q q))
def qZ{m:Type}{g:CK->CK}{f:PUnit->StateT CK Sem m}{st:CK}{R:m->CK->Prop}(h:Tr prog w A E s (f ⟨⟩) (g st) R):Tr prog w A E s (modify g >>= f) st R:=λo Q q=>KR (kasC_modify (h o Q q))
def wq9{g:Type}{x:String}{f:PUnit->StateT CK Sem g}{st:CK}{R:g->CK->Prop}(h:Tr prog w A E s (f ⟨⟩) st R):Tr prog w A E s (liftM (rule x) >>= f) st R:=λm Q q=>KR (kasC_lift (wpAny_rule (h m Q q)))
def Bk(it:Array JV)(l:List Nat):Array JV:=(l.map (DQ it)).toArray
def kz7(l:List Nat)(i:Nat):(Bk it l)[i]? = (l[i]?).map (DQ it):=by unfold Bk;simp
def Qj(l:List Nat):(Bk it l).size=l.length:=by unfold Bk;simp
theorem Xf{g:Type}{l:List Nat}{k:Nat}{f:JV->StateT CK Sem g}{st:CK}{R:g->CK->Prop}(h:l[i]? = some k)(m:Tr prog w A E s (f (DQ it k)) st R):Tr prog w A E s (elem' (Bk it l) i >>= f) st R:=by rw[elem'_eq,kz7,h];simp_all
def Ans(prog:BW)(w:CQ)(A:D_)(s:BK)(κ:JT)(it:Array JV)(key:Nat->O.α)(n:Nat):Prop:=
 ∀(i j:Nat)(C:Bool->BK->Prop)(g:Nat),i<n->j<n->(∀f,C (ltO key i j) {s with toks:=f})->kas_cmp prog w A κ it i j C {s with toks:=g}
def pO{h:Type}{j:Nat}{f:Option Bool->StateT CK Sem h}{st:CK}{R:h->CK->Prop}(an:Ans prog w A s κ it key n)(y:i<n)(r:j<n)(p:kindOf st=κ)(C:Tr prog w A E s (f (some (ltO key i j))) st R):
  Tr prog w A E s (lt' (DQ it i) (DQ it j) >>= f) st R:=λm Q q=>by
 rw[lt'_eq];refine KR (KR (kasC_get ?_));refine KR (kasC_lift (IW (GK (show BL (BV prog w) A (keyLt' (kindOf st) (DQ it i).1 (DQ it j).1) (λc o=>kasC (BV prog w) A E (f (some c)) Q st o) (λ_ _=>False) {s with toks:=m} from ?_) (λc o z=>?_) λ_ _ B=>B.elim)))
 ·rw[p];exact an i j _ m y r λg=>C g Q q
 ·exact kasC_pure z
def bz(key:Nat->O.α)(left:Bool)(k x:Nat):Bool:=if left=true then ltO key x k else !ltO key k x
theorem yi3{p:Nat}{left:Bool}{k:Nat}{l:List Nat}{st:CK}{b:Bool}(an:Ans prog w A s κ it key p)(q:k<p)(m:kindOf st=κ){x:Nat}(B:l[i]? = some x)(o:x<p)(C:b=bz key left k x):
  Tr prog w A E s (elem' (Bk it l) i >>= λy=>if left=true then lt' y (DQ it k) else(lt' (DQ it k) y >>= λr=>pure (r.map λz=>!z))) st (λr g=>g=st/\r=some b):=by
 refine Xf B ?_;subst C;unfold bz;cases left with
 |true=>rw[if_pos rfl,if_pos rfl];have h:=pO (prog:=prog) (E:=E) (f:=λr=>pure r) (R:=λr g=>g=st/\r=some (ltO key x k)) an o q m (sV ⟨rfl,rfl⟩);simp_all
 |false=>rw[if_neg (by decide),if_neg (by decide)];exact pO an q o m (sV ⟨rfl,rfl⟩)
end
section
variable {key:Nat->O.α}
def kl(key:Nat->O.α)(x y:Nat):Prop:=O.kle (key x) (key y)
def kt5{x y:Nat}(h:ltO key y x=false):kl key x y:=h
def Qi(f:List Nat)(k:Nat):(Bk it f).push (DQ it k)=Bk it (f++[k]):=by unfold Bk;simp
def jr4(a b:List Nat):Bk it a++Bk it b=Bk it (a++b):=by unfold Bk;simp
theorem jr5(l:List Nat)(i:Nat):(Bk it l).extract i (Bk it l).size=Bk it (l.drop i):=by unfold Bk;apply iM;simp_all [mZ]
end
section
variable {key:Nat->O.α}
def wt2(h g f:List Nat)(o m:Nat):Bk it h++(Bk it g).extract o (Bk it g).size++(Bk it f).extract m (Bk it f).size=Bk it (h++g.drop o++f.drop m):=by rw[jr5,jr5,jr4,jr4]
def yx1(h g f:List Nat)(b o m:Nat):(Bk it h).push (DQ it b)++(Bk it g).extract o (Bk it g).size++(Bk it f).extract m (Bk it f).size=Bk it (h++[b]++g.drop o++f.drop m):=by rw[Qi,wt2]
end
section
variable {key:Nat->O.α}
def yh8{m:Type}{g:CK}{f:PUnit->StateT CK Sem m}{st:CK}{R:m->CK->Prop}(h:Tr prog w A E s (f ⟨⟩) g R):Tr prog w A E s (set g >>= f) st R:=λo Q q=>KR (by
 unfold kasC;rw[StateT.run_set];exact EY (h o Q q))
end
section
variable {key:Nat->O.α}
def bub(p:List Nat)(src d:Nat):List Nat:=(nP p.toArray src d).toList
theorem wr4(p:List Nat)(src d:Nat):nP (Bk it p) src d=Bk it (bub p src d):=by
 have e:Bk it p=p.toArray.map (DQ it):=by unfold Bk;simp
 have f:Bk it (bub p src d)=(nP p.toArray src d).map (DQ it):=by unfold Bk bub;apply iM;simp
 rw[e,f];exact kas_swaps_map (DQ it) (λk=>src - k) (λk=>src - k - 1) _ p.toArray
end
section
variable {key:Nat->O.α}
def mir(p:List Nat)(i j:Nat):List Nat:=(mirror p.toArray i j ((j - i) / 2)).toList
theorem wx1(p:List Nat)(i j:Nat):mirror (Bk it p) i j ((j - i) / 2)=Bk it (mir p i j):=by
 have e:Bk it p=p.toArray.map (DQ it):=by unfold Bk;simp
 have f:Bk it (mir p i j)=(mirror p.toArray i j ((j - i) / 2)).map (DQ it):=by unfold Bk mir;apply iM;simp
 rw[e,f];exact kas_swaps_map (DQ it) (λk=>i+k) (λk=>j - 1 - k) _ p.toArray
end
variable {vs:List A_}{h:CP}
section
variable {a:BJ}
def yt7{b c:BJ}{us:List A_}{ns G:List Int}{P:PySem.Fin->BK->Prop}(hx:OJ s.heap b (RZ us))(hy:OJ s.heap c (RZ vs))(Z:F_ us ns)(Y:F_ vs G)(h:P (.done (.ret (.bool (Cz ns G)))) s):
  BL (BV prog w) A (HS.«tuple.__lt__» ⟨[.ref b,.ref c],[]⟩) P E s:=by
 obtain⟨o,ho,hc,n,hd⟩:=hx;obtain⟨o',J,U,n',T⟩:=hy;show BL _ _ (isInstance (.ref c) (.type "tuple") >>= _) _ _ s;refine BX (JW ⟨o',J,U⟩ isSubtype_tuple_tuple ?_);simp only[mH,VJ,if_false];refine BX (aG ho hd ?_);refine BX (aG J T ?_);refine BX ?_;have l1:=Tz Z;have l2:=Tz Y;refine wpAny_forIn_list _
  (λC r M=>r.1=none/\M=s/\∃p g y z,C=List.zip p g/\F_ p y/\F_ g z/\Cz y z=Cz ns G/\(decide (p.length<g.length))=decide (us.length<vs.length))
  _ ?_ ?_ _ _ ⟨rfl,rfl,us,vs,ns,G,rfl,Z,Y,rfl,rfl⟩
 ·rintro⟨u,v⟩ C r M ⟨Q,rfl,p,g,y,z,I,F,B,f,q⟩;cases F with
  |nil=>simp at I
  |cons n t ru =>
   cases B with
   |nil=>simp at I
   |cons m t' rv =>
    simp only[XS,List.cons.injEq,Prod.mk.injEq]at I;obtain⟨⟨rfl,rfl⟩,rfl⟩:=I;refine BX (RC ?_);by_cases e:n=m
    ·rw[show(n == m)=true from beq_iff_eq.mpr e];simp only[mH,VJ,if_false];refine EY ⟨rfl,rfl,_,_,_,_,rfl,ru,rv,?_,by simpa using q⟩;rw[<-f,Cz,if_pos e]
    ·rw[show(n == m)=false from beq_eq_false_iff_ne.mpr e];simp only[jHl,if_true];refine BX (wpAny_rule ?_);have hq:Cz ns G=decide (n<m):=by rw[<-f,Cz,if_neg e]
     rw[hq]at h;refine BX (lt_int ?_);exact BX (EY (EY (EY h)))
 ·rintro⟨r1,r2⟩ M ⟨Q,rfl,p,g,y,z,I,F,B,f,q⟩;simp only at Q;subst Q;refine EY ?_;have L:decide (us.length<vs.length)=Cz ns G:=by
   rw[<-f,<-q];cases F with
   |nil =>
    cases B with
    |nil=>simp[Cz]
    |cons _ _ _=>simp[Cz]
   |cons _ _ _ =>
    cases B with
    |nil=>simp[Cz]
    |cons _ _ _=>simp at I
  rw[<-L]at h;show P (.done (.ret (.bool (decide (us.toArray.size<vs.toArray.size))))) M;rw[MK,MK];exact h
inductive Hv(h:CP)(a:BJ):List A_->List (List Int)->Prop
 |nil:Hv h a [] []
 |cons {u:A_} {ns:List Int} {us:List A_} {nss:List (List Int)}:cA h a u ns->Hv h a us nss->Hv h a (u::us) (ns::nss)
def Hv.keep{h h':CP}(k:Bu a h h'):∀{us:List A_}{f:List (List Int)},Hv h a us f->Hv h' a us f
 |_,_,.nil=>.nil
 |_,_,.cons x r=>.cons (x.keep k) (Hv.keep k r)
def Hv.get:∀{us:List A_}{f:List (List Int)},Hv h a us f->∀{i:Nat},i<us.length->cA h a (us.getD i .none) (f.getD i [])
 |_,_,.cons x r,0,_=>by simpa using x
 |_,_,.cons _ r,i+1,g=>by simpa using r.get (i:=i) (by simpa using g)
def Hv.firsts{M:OD}{A:D_}{E:A_->BK->Prop}{s:BK}:∀{us:List A_}{g:List (List Int)}{Q:List (Option A_)->BK->Prop},Hv s.heap a us g->(∀m:List (Option A_),m.length=us.length->(∀f,m[0]? = some f->g[0]? = some []->f=none)->Q m s)->BL M A (us.mapM firstOfTuple') Q E s
 |_,_,Q,.nil,h=>by rw[List.mapM_nil];exact EY (h [] rfl λf z=>by simp at z)
 |_,_,Q,.cons (ns:=ns) x r,h=>by obtain⟨b,vs,rfl,_,⟨o,p,G,n,F⟩,C⟩:=x;rw[List.mapM_cons];refine BX ?_;rw[kas_first_eq];refine BX (Looks.here (show Looks M s.heap (jX (.ref b)) o.cls from(Looks.ld p).andThen .now) ?_);rw[G,if_neg (by first |decide |simp)];refine BX (listItems_at p F (EY ?_));refine BX (Hv.firsts r λm B _=>EY (h _ (by simp[B]) λf y q=>?_));simp at y q;subst q;cases C;rw[<-y];rfl
def Hv.looks{M:OD}:∀{us:List A_}{g:List (List Int)},Hv h a us g->∀v∈us,Looks M h (jX v) (.type "tuple")
 |_,_,.nil,v,f=>nomatch f
 |_,_,.cons x r,v,f=>by
  rcases JN.mp f with rfl |f
  ·obtain⟨b,vs,rfl,_,⟨o,m,p,n,y⟩,q⟩:=x;have:Looks M h (jX (.ref b)) o.cls:=(Looks.ld m).andThen .now;rwa [p]at this
  ·exact r.looks v f
theorem ka1{nss:List (List Int)}(hu:A.units<FW)(h:Hv s.heap a vs ([]::nss)):Asks (O:=Vh) prog w A s a vs YX λi=>([]::nss).getD i [] where
 kind:=λh2 s' Q k q=>by
  have hk:=h.keep k;rw[kat_kind_eq,jGw,map_eq_pure_bind];refine BX (BX (hk.firsts λfs hl h0=>EY ?_));obtain⟨f,fr,rfl⟩:∃f fr,fs=f::fr:=by
   cases fs with
   |nil=>simp at hl;lia
   |cons f fr=>exact⟨f,fr,rfl⟩
  have:f=none:=h0 f rfl rfl;subst this;rw[if_neg (by simp),if_neg (by simp)];rw[oneTypeOnly'_eq,jGw,map_eq_pure_bind];refine BX (BX (BX (kas_mapM (r:=Value.type "tuple") _ (λv hv Q' hq=>(hk.looks v hv).here hq) (EY ?_))));cases vs with
  |nil=>simp at h2
  |cons v vs =>
   have hall:((List.map (λ_=>Value.type "tuple") (v::vs)).toArray.all λx=>x == Value.type "tuple")=true:=by simp
   have h0:(List.map (λ_=>Value.type "tuple") (v::vs)).toArray[0]? = some (Value.type "tuple"):=by simp
   rw[h0];simp only[hall,if_true];exact EY (EY q)
 less:=λ_ i j s' Q hi hj k q=>by obtain⟨b,us,e1,_,t1,h1⟩:=(h.keep k).get hi;obtain⟨b',us',e2,_,t2,h2⟩:=(h.keep k).get hj;rw[e1,e2,keyLt'_oneType,oneLt'_eq];simp only[if_true];refine BX (wpAny_cRoomFor hu ?_);have ty:∀{b:BJ}{us:List A_},OJ s'.heap b (RZ us)->∃o,s'.heap.get? b=some o/\o.cls=.type "tuple":=λ⟨o,ho,hc,_⟩=>⟨o,ho,hc⟩;refine BX (wpAny_callSpecialIfBound?_slot (ty t1) F.slot_tuple_lt (CZ F.slot_tuple_lt (ty t1) F.entry_tuple_lt (yt7 t1 t2 h1 h2 ⟨_,rfl,?_⟩) (F.args_tuple_lt_2 _ _)));exact DR (q s'.toks)
end
def Jd:D->Bool
 | .tup xs=>(Bj xs).isSome
 |_=>false
def cG:List D->Bool
 | .tup []::r=>r.all Jd
 |_=>false
variable {xs:List D}
theorem jk1(h:cG xs=true):xs.all Jd=true/\∃r,xs=.tup []::r:=by
 unfold cG at h;split at h
 ·exact⟨by rw[ZG,h];rfl,_,rfl⟩
 ·cases h
def jw8{a b:D}(h1:Jd a=true)(o:Jd b=true)(e:keyOf a=keyOf b):a=b:=by
 cases a with
 |tup x =>
  cases b with
  |tup y =>
   cases g:Bj x with
   |none=>simp[Jd,g]at h1
   |some n =>
    cases f:Bj y with
    |none=>simp[Jd,f]at o
    |some m=>simp[keyOf,aP,g,f]at e;subst e;rw[Vb g f]
  |_=>simp[Jd]at o
 |_=>simp[Jd]at h1
def wg6(h:cG xs=true){a b:D}(g:a∈xs)(f:b∈xs)(e:keyOf a=keyOf b):a=b:=by have h:=(jk1 h).1;rw[QL]at h;exact jw8 (h a g) (h b f) e
theorem jy1{p:Array Nat}{key:Nat->Vh.α}(q:xs.length<2\/cG xs=true)(o:∀i d,xs[i]? = some d->key i=keyOf d)(y:Ef xs.length p)(hs:Gd key p xs.length):
  p.toList.map (λi=>xs.getD i .non)=if xs.length<2 then xs else srt xs:=by
 have perm:(p.toList.map λi=>xs.getD i .non).Perm xs:=by
  have Q:=y.map λi=>xs.getD i D.non;refine Q.trans (List.Perm.of_eq ?_);apply aZ
  ·simp
  ·simp_all
 by_cases r:xs.length<2
 ·rw[if_pos r]
  match xs,r,perm with
  | [],_,perm=>exact List.perm_nil.mp perm
  | [x],_,perm=>exact jGj.mp perm
 ·rw[if_neg r];have z:cG xs=true:=q.resolve_left r;refine eq_of_sorted (le:=λa b=>Hc a b=true) (perm.trans (Ek xs).symm) ?_ (El xs) λa P b M F C=>?_
  ·rw[uO];intro i j I G B;simp only[GQ,bD]at I G;have J:=y.size;have f:∀(k:Nat)(q:k<p.size),keyOf (xs.getD p[k] .non)=kk key p k:=λk q=>by
    have L:p[k]∈p.toList:=by simp
    have m:p[k]<xs.length:=MT.mp (y.mem_iff.mp L);unfold kk;rw[ZQ q,a_,o p[k] xs[p[k]] (LR m)];simp[m]
   have:=hs i j (aA B) (by omega);simp only[jHa,jGf];unfold Hc;rw[f i I,f j G];have g:Cz (kk key p j) (kk key p i)=false:=this;rw[g];rfl
  ·unfold Hc at F C;rw[ZP]at F C;exact wg6 z (perm.mem_iff.mp P) (perm.mem_iff.mp M) (Fv _ _ C F)
theorem jw9{X:Cx}{pins:List (BJ×GR)}{σ:St}{H:Hp}{s:BK}{S:AS}{a:BJ}(I:Inv X pins σ H s)(G:s.heap.objs.size<=a):∀{ds:List D}{vs:List V}{us:List A_},ds.all Jd=true->Al X.K H S ds vs->Vals vs us ->
  ∃f,Hv s.heap a us f/\∀i d,ds[i]? = some d->f.getD i []=keyOf d
 | [],vs,us,_,h,r=>by cases(show vs=[] from h);cases r;exact⟨[],.nil,λi d h=>by simp at h⟩
 |d::ds,vs,us,C,h,r=>by
  rw[ZG,M_]at C;revert h;refine Bo λv F z h1 h2=>?_;obtain rfl:=z;cases r with
  |cons P M =>
   refine Aw (λf q Y=>?_) (jw9 I G C.2 h2 M)
   match d,C.1 with
   | .tup xs,hd =>
    revert h1;refine Bo λb ws g T L=>?_;obtain rfl:=g;have e1:_=Value.ref b:=P;subst e1;refine Gx (λm J p _=>?_) (I.tuple (TpR.sq T));cases e:Bj xs with
    |none=>simp[Jd,e]at hd
    |some Q =>
     have Z:=ints_of L J e;have hb:b≠a:=by revert p;refine Aw λo U _=>?_;exact MJ (RJ (HX U) G)
     refine⟨Q::f,.cons ⟨b,m,rfl,hb,p,Z⟩ q,λi y B=>?_⟩;cases i with
     |zero=>simp at B;subst B;simp[keyOf,aP,e]
     |succ i=>simpa using Y i y (by simpa using B)
def Bq{N P:List BR}{sc:JH}(h1:sc.kind=.function:=by rfl)(q:sc.isCoroutine=false:=by rfl)(p:sc.isGenerator=false:=by rfl)(o:N.Nodup:=by decide +kernel)(m:N.take P.length=P:=by rfl)(g:∀x∈P,sc.names.lookup x=some .local\/sc.names.lookup x=some .cell:=by decide +kernel)(f:∀y∈sc.names,y.2≠.free:=by decide +kernel):Bt N P sc:=⟨h1,q,p,o,m,g,f⟩
structure Bx where
 P:BW
 w:CQ
 K:BZ
 mg:BR->Option A_
 base:CP
 T:BJ
structure Wf(x:BR)(st:CT)(N k:Nat)(ps:List BR)(Y:Bx->Prop->Prop)(S:Nat->List BR->Bx->(List D->R D)->BJ->DX->Prop) where
 Ns:List BR
 sc:Bt Ns ps (Ag st)
 g:Ev->R Fl
 ok:∀{b a fd},Bt Ns ps (Ag st)->Fun b.K x x st a fd->Y b (S k ps b (Bh N g) a fd)
variable {g:Ev->R Fl}
abbrev gO{v:Ev->R Fl}(_:g=v):Ev->R Fl:=g
variable {st:CT}{Y:Bx->Prop->Prop}
def Wf.at{N k:Nat}{ps:List BR}{S:Nat->List BR->Bx->(List D->R D)->BJ->DX->Prop}(V:Wf x st N k ps Y S)(e:V.g=g){b:Bx}{a:BJ}{f:DX}(F:Fun b.K x x st a f):Y b (S k ps b (Bh N g) a f):=e ▸ V.ok V.sc F
abbrev Wb{N k:Nat}{ps:List BR}{S:Nat->List BR->Bx->(List D->R D)->BJ->DX->Prop}(_:Wf x st N k ps Y S)(F:Bx->Nat->BR->List BR->(List D->R D)->Prop)(m:List D->R D)(b:Bx):Prop:=F b k x ps m
abbrev Zc(x:BR)(b:Bx):Prop:=b.mg x=none
abbrev FB(b:Bx)(k:Nat)(x:BR)(ps:List BR)(m:List D->R D):Prop:=FnC b.P b.w b.K b.mg b.base k x ps ps.length m
abbrev So0(k:Nat)(ps:List BR)(b:Bx)(m:List D->R D)(a:BJ)(f:DX):Prop:=Ec b.P b.w b.K b.mg b.base CX0 k a f ps (sp0 b.K ps.length m)
def N8:D->Option (List D×List D)
 | .exc c ks f=>if dkN c=true then some (ks,f) else none
 |_=>none
def Lw{c:BR}(f:dkN c=true)(ks fs:List D):N8 (.exc c ks fs)=some (ks,fs):=if_pos f
variable {p:List D×List D}
theorem ks5{d:D}(h:N8 d=some p):∃c,dkN c=true/\d=.exc c p.1 p.2:=by
 cases d with
 |exc c ks f=>have m:(if dkN c=true then some (ks,f) else none)=some p:=h;grind
 |_=>cases h
structure DkC(K:BZ)(C:BJ):Prop where
 at_:W.nsIn K PySem.mainGlobals "Desk" = some (some (.ref C))
 cls:Cls K C
 no:Rx K C "webs"
def fX(x d:D):Option D:=(kyO x).bind λk=>(N8 d).map λp=>.bl (!(Fq p.1 p.2 k).isSome)
def oH(f1 f2:Ev->R D):Ev->R D:=λρ=>(f1 ρ).bind λd=>(R.of (N8 d)).bind λp=>(f2 ρ).bind λx=>R.of ((kyO x).bind (Fq p.1 p.2))
variable {apos:HY}
section
variable {s:B_}{C:BJ}
def Xm{K:BZ}{H:Hp}{S:AS}{d:D}{v:V}(M:DkC K C)(z:N8 d=some p)(r:Rep K H S d v):∃(t f q:BJ)(kk:List Key)(vs:List V),v=.ref t/\H t=some (.ins C f [("webs",.ref q)])/\H q=some (.dK (kk.zip vs))/\p.1=kk.map kyD/\kk.length=vs.length/\kk.Nodup/\Al K H S p.2 vs:=by obtain⟨c,B,rfl⟩:=ks5 z;obtain⟨t,vs,rfl,o,y⟩:=r;obtain⟨_,P,f,q,kk,m,L,J,I,G,F⟩:=o.dsk B;rw[M.at_]at m;cases m;exact⟨t,f,q,kk,vs,rfl,G,F,L,J,I,y⟩
theorem zh3(hu:X.A.units+70<FW)(r:DkC X.K C)(ha:PEd X c l a f1)(hb:PEd X c l s f2)(hm:FP .NotIn (.Attribute s "webs" apos)=false:=by with_unfolding_all rfl)
  (m:DG s "webs" X.env (CV s X.env)=CV s X.env:=by rfl):PTd X c (.Compare a [.NotIn] [.Attribute s "webs" apos] pos) (tb (b2 f1 f2 fX)):=
 PT.imp (yI (kv4 (by lia) ha (p8 hb m)) hm) λσ H Q q=>by
 obtain⟨hs,ρ,E,q⟩:=q;refine Aq (l:=l) E ((RQ.bind.mp (RQ.bind.mp q)).mono (λd1 T v1 H1 B E1 F=>?_) λ_ z=>z);refine Aq (l:=l) E1 ((RQ.bind.mp T).mono (λd2 P y H2 G E2 J=>?_) λ_ z=>Bf z B);obtain⟨d,e,M⟩:=P.of;obtain⟨k,hk,e⟩:=aD.mp e;obtain⟨p,U,rfl⟩:=bH.mp e;obtain⟨t,dx,w,kk,vs,rfl,h1,h2,h3,h4,h5,I⟩:=Xm r U J;refine⟨t,C,dx,_,.ref w,rfl,h1,r.cls,r.no,by simp[List.lookup],w,P0 (kk.zip vs) k,rfl,?_,?_⟩
 ·have ex:v1=kV k:=by rw[rO hk]at F;cases k<;>exact F
  rw[ex];exact X6.k h2
 ·have Z:(P0 (kk.zip vs) k).isSome=(Fq p.1 p.2 k).isSome:=by
   rw[h3];rcases R7 k h4 I with ⟨v1,y⟩ | ⟨v,f,v1,y,_⟩
   ·simp_all
   ·simp_all
  rw[Z];obtain⟨b,o,L⟩:=M.of;cases o;exact⟨_,rfl,L H2 (B.trans G)⟩
theorem zr0(hu:X.A.units+70<FW)(F:DkC X.K C)(hb:PEd X c l s f1)(ha:PEd X c l a f2)(B:gU a:=by intro _ _;rfl)
  (m:DG s "webs" X.env (CV s X.env)=CV s X.env:=by rfl):PEd X c l (.Subscript (.Attribute s "webs" apos) a pos) (oH f1 f2):=
 PE.imp (wz0 (by lia) (p8 hb m) ha B) λσ H Q q=>by
 obtain⟨hs,ρ,E,q⟩:=q;refine Aq (l:=l) E ((RQ.bind.mp q).mono (λd1 y v1 H1 G E1 P=>?_) λ_ z=>z);obtain⟨p,Z,y⟩:=(RQ.bind.mp y).of;obtain⟨t,dx,w,kk,vs,rfl,h1,h2,h3,h4,h5,M⟩:=Xm F Z P;refine⟨t,C,dx,_,.ref w,rfl,h1,F.cls,F.no,by simp[List.lookup],?_⟩;refine Aq (l:=l) E1 ((RQ.bind.mp y).mono (λd2 U J H2 r E2 I=>?_) λ_ z=>Bf z G);obtain⟨d,e,T⟩:=U.of;obtain⟨k,hk,e⟩:=aD.mp e;rw[h3]at e;rcases R7 k h4 M with ⟨v1,o⟩ | ⟨v,f,v1,o,L⟩
 ·rw[o]at e;cases e
 ·rw[o]at e;cases e;refine⟨w,v,rfl,?_,T _ _ (G.trans r) (L.mono r λ_ z=>z)⟩;have ex:J=kV k:=by rw[rO hk]at I;cases k<;>exact I
  rw[ex,<-v1];exact X6.k (r _ _ h2)
end
def MtC(P:BW)(w:CQ)(K:BZ)(q:BR->Option A_)(base:CP)(k:Nat)(x:BR)(ps:List BR)(n:Nat)(m:List D->R D):Prop:=
 ∃C f o,DkC K C/\Meth K C x f/\(x == ("webs" : BR))=false/\Ec P w K q base CX0 k f o ps (sp0 K n m)/\Binds K o ps []
def mtA(f:Ev->R D)(fs:Ev->R (List D)):Ev->R (List D):=λρ=>(f ρ).bind λd=>(R.of (N8 d)).bind λ_=>(fs ρ).bind λds=>.ok (d::ds)
section
variable {s:B_}{fs:Ev->R (List D)}{f:HY}{x:BR}{k n:Nat}{ps:List BR}{m:List D->R D}
def oZ{q:BJ}(h:(x == ("webs" : BR))=false):List.lookup x [(("webs" : BR),V.ref q)]=none:=by simp only[List.lookup,h]
def qX{pl:Sem Bool}(F:MtC X.prog X.w X.K X.mg X.base k x ps n m)(hr:Ed k X.A)(hs:PEd X c l s f1)(ha:PAd X c l (e::es) fs)(hn:(e::es).length+1=n:=by rfl)
  (G:Zs X.env e es:=by rfl)(I:Zp X.env pos es:=by rfl)
  (ht:CV (.Call (.Attribute s x apos) (e::es) [] pos) X.env=(do
   let P <-CV s X.env
   SN apos.atName
   let (f,first) <-QV [P] (QB P x pl)
   ZS pos f first (IK pos (BP (e::es) X.env)) (JC pos (GF [] X.env))):=by rfl):
  PEd X c l (.Call (.Attribute s x apos) (e::es) [] pos) (cl (mtA f1 fs) m):=by
 obtain⟨C,f,fd,T,hm,hw,F,hb⟩:=F;refine PE.imp (rJ (pl:=pl) (E:=λ_ _ _=>False) hs T.cls hm F hr hb .nil (λ_ _ _ _ _ _ _ z=>z.elim) ha G I ht) λσ H Q q=>?_;obtain⟨aa,ρ,E,q⟩:=q;refine Aq (l:=l) E ((RQ.bind.mp (RQ.bind.mp q)).mono (λU B v1 H1 o E1 M=>?_) λ_ z=>z);obtain⟨p,J,B⟩:=(RQ.bind.mp B).of;obtain⟨t,dx,w,kk,vs,rfl,h1,h2,h3,h4,h5,rr⟩:=Xm T J M;refine⟨t,dx,_,rfl,h1,oZ hw,?_⟩;refine Ck (l:=l) E1 ((RQ.bind.mp B).mono (λds y Z H2 r E2 L hl=>?_) λ_ z=>Bf z o);rw[aB];obtain⟨d,ed,y⟩:=RQ.nox (show RQ (m (U::ds)).nox _ _ from y);refine⟨?_,lvS c ρ σ H l,U::ds,⟨_,_,rfl,M.mono r λ_ z=>z,L.mono (Ad.refl _) λ_ z=>Dj o z⟩,?_⟩
 ·rw[PQ,<-L.length,hl,hn]
 ·rw[ed];exact λv H' s3 r3=>y v H' ((o.trans r).trans s3) (r3.mono (Ad.refl _) λ_ z=>M9 E (o.trans r) z)
end
end PD
namespace L2
open PySem PySem.Spec PyProof.Rows
def Its(x:BR):It:=⟨λi _=>i<x.cps.size,λi H v a=>a=H/\∃k,x.cps[i]? = some k/\v=.str ⟨#[k]⟩,λi _=>x.cps.size<=i⟩
variable {tg:B_}
theorem wo8{P:BW}{w:CQ}{K:BZ}(it:BJ)(x:BR)(t:Tok):Turn P w K tg (Its x) [it] it (λi h=>h.IsStrIter it "str_ascii_iterator" x t i) where
 mem:=by simp
 obj:=λi h st b hb=>by
  have e:b=it:=by simpa using hb
  subst e;obtain⟨o,e,c,d⟩:=st;simp_all
 keep:=λi h h' st k=>by obtain⟨o,e,c,d⟩:=st;exact⟨o,k it (by simp) o e,c,d⟩
 item:=by intro X hP hw hK hc i pins s σ H E I hf st hg;subst hP hw hK;obtain⟨f0,f1,f2,f3,f4,f5⟩:=hf it (by simp);have hg':i<x.cps.size:=hg;refine wpAny_pyNext_ascii_item st (c:=x.cps[i]) (by simp[hg']) λh' st' sb=>?_;have I1:Inv X pins σ H {s with heap:=h',toks:=s.toks+1}:=I.turned (λb o hb e=>(sb.2 b hb).trans e) f0 f1 f3 f4 f5;obtain⟨o,e,c,d⟩:=id st';exact⟨_,rfl,kW (s:={s with heap:=h',toks:=s.toks+1}) e c d (by decide) ⟨.str ⟨#[x.cps[i]]⟩,H,I1,⟨_,rfl⟩,⟨rfl,_,by simp[hg'],rfl⟩,st',λb hb=>(hf b hb).1⟩⟩
 done:=by intro X hP hw hK hc i pins s σ H E I hf st hg;subst hP hw hK;obtain⟨f0,f1,f2,f3,f4,f5⟩:=hf it (by simp);have hg':x.cps.size<=i:=hg;exact wpAny_pyNext_ascii_end (I.ok.hd hc) st (by simp[hg']) λh' eb=>⟨rfl,I.turned (t':=s.toks) (λb o hb e=>eb b o hb e) f0 f1 f3 f4 f5⟩
 self:=λ_ _ _ _ _ st h=>wpAny_pyIter_striter_ascii st h
def zl9(b:TE):TI:=λa H R=>b a H λv c=>∃x,v=.str x/\x.cps.all (·<128)=true/\R (Its x) c
theorem yp9{X:Cx}{l:B_}{g:TE}(n:PE X l g):PI X tg l (zl9 g):=by intro a s i H R I h;refine thG (n a s i H _ I h) λv c x r f j m=>?_;obtain⟨z,rfl,p,q⟩:=m;obtain⟨t,rfl⟩:=(show ∃t,v=Value.str z t from j);refine wpAny_pyIter_ascii p ?_;refine⟨c.heap.objs.size,[c.heap.objs.size],_,_,r,rfl,f.kept (t':=c.toks) λb o e=>JK _ e,wo8 _ z t,⟨_,K_ _ rfl,rfl,rfl⟩,λb u=>?_,q⟩;simp_all [f.fpOk,GX,f.hok.fresh]
end L2
namespace PD
open PySem PySem.Spec PyProof.Rows L2
def signs(x:BR):List D:=x.cps.toList.map λk=>.str ⟨#[k]⟩
def wu8{K:BZ}{x:BR}:ItD K (Its x) (signs x) λ_ _=>True where
 stab:=⟨λ_ _ h=>h,λ_ _ h=>h,λ_ _ _ h=>h,λ_ h=>h⟩
 go:=λi H S hi _=>by
  have this:i<x.cps.size:=by simpa[signs] using hi
  exact this
 yld:=λi H S v H' _ y=>by obtain⟨rfl,k,hk,rfl⟩:=y;refine⟨Ad.refl _,λd hd=>?_⟩;unfold signs at hd;rw[RB,uK,hk]at hd;cases hd;rfl
 stop:=λi H S hi _=>by
  have this:x.cps.size<=i:=by simpa[signs] using hi
  exact this
def itT(f:Ev->R D):Ev->R (List D):=λa=>(f a).bind λd=>match d with
 | .str x=>if x.cps.all (·<128)=true then .ok (signs x) else .bad
 |_=>.bad
def swF(f1 f2:Ev->R D):Ev->R D:=λa=>(f1 a).bind λx=>match x with
 | .str z=>(f2 a).bind λy=>match y with
  | .str w=>.ok (.bl (decide (0+w.length<=z.length) && Builtin.Str.subAt z w 0))
  |_=>.bad
 |_=>.bad
def nev{a:Type}:Ev->R a:=λ_=>.bad
variable {X:Cx}{c:DC}{f f1 f2:Ev->R D}{e:B_}{es:List B_}{l:Lv}{pos:HY}{st:CT}
section
variable {o tg:B_}{a:List CT}
def u_(j:PEd X c l e f):PId X c l tg e (itT f):=PI.imp (yp9 j) λn H Q q=>by
 obtain⟨r,p,E,q⟩:=q;refine Aq E ((RQ.bind.mp q).mono (λd b v m h s i=>?_) λ_ z=>z);cases d with
 |str x =>
  have b:RQ (if x.cps.all (·<128)=true then R.ok (signs x) else .bad) _ _:=b;by_cases g:x.cps.all (·<128)=true
  ·rw[if_pos g]at b;exact⟨x,i,g,b _ _ m h wu8 trivial⟩
  ·rw[if_neg g]at b;exact b.elim
 |_=>exact(b:False).elim
def fY:PEd X c l e nev:=λ_ _ _ _ _ _ q=>by obtain⟨_,_,_,z⟩:=q;exact z.elim
def rSw:V->List V->Hp->VK->Prop:=λx b H Q=>∃z y,x=.str z/\b=[.str y]/\Q (.bl (decide (0+y.length<=z.length) && Builtin.Str.subAt z y 0)) H
def za3:MtR X "str.startswith" rSw:=by intro b s m H x n v p Q I g i h;obtain⟨z,y,rfl,rfl,q⟩:=h;obtain⟨t,rfl⟩:=(show ∃t,v=Value.str z t from g);obtain⟨u,rfl,j⟩:=i.one;obtain⟨r,rfl⟩:=(show ∃t,u=Value.str y t from j);refine CZ PySem.F.slot_str_startswith (JF s z t) PySem.F.entry_str_startswith ?_ (PySem.F.args_str_startswith_2 _ _);show BL _ _ (ret (.bool (0+y.length<=min z.length z.length && Builtin.Str.subAt z y 0))) _ _ s;rw[Nat.min_self];exact EY ⟨_,rfl,⟨.bl _,H,I,rfl,q⟩⟩
def sw_{apos b:HY}(B:PEd X c l o f1)(C:PEd X c l e f2)(j:DG o "startswith" X.env (CV o X.env)=CV o X.env:=by rfl)
  (m:((IK b (BP [e] X.env)).all (λx=>!x.1) && (JC b (GF [] X.env)).all (λx=>x.1.isSome)
   && decide ([e].length+([]:List HN).length+(if([]:List HN).isEmpty then 0 else 1)<30))=true:=by rfl)
  (i:(apos.endLine == b.line)=true:=by rfl)(hs:BP [e] X.env=(false,CV e X.env)::BP [] X.env:=by rfl)(g:Zp X.env b []:=by rfl):
  PEd X c l (.Call (.Attribute o "startswith" apos) [e] [] b) (swF f1 f2):=
 PE.imp (eF PySem.F.plainAttrs_str PySem.F.slot_str_startswith PySem.F.type_str_startswith za3 B (ac C an hs) j m i hs g) λK H Q h=>by
 obtain⟨A,L,E,q⟩:=h;refine Aq E ((RQ.bind.mp q).mono (λI r x O n J v=>?_) λ_ z=>z);cases I with
 |str z =>
  cases(show x=.str z from v);refine⟨rfl,Xz J ((RQ.bind.mp r).mono (λG p y M s P u=>?_) λe z=>Bf z n)⟩;cases G with
  |str w=>cases(show y=.str w from u);exact⟨z,w,rfl,rfl,p _ _ (n.trans s) rfl⟩
  |_=>exact(p:False).elim
 |_=>exact(r:False).elim
end
def spD(C:BJ):Sp:=λb H Q _=>∃x a,b=[.ref x]/\H x=some (.ins C a [])/\∀q,H q=none->Q .non (upd (upd H q (.dK [])) x (.ins C a [("webs",.ref q)]))
structure DkM(P:BW)(w:CQ)(K:BZ)(mg:BR->Option A_)(base:CP)(k:Nat)(C f:BJ)(fd:DX):Prop where
 dk:DkC K C
 at_:mg "Desk" = some (.ref C)
 mks:Mk K C f
 fn:Ec P w K mg base CX0 k f fd ["self"] (spD C)
 bd:Binds K fd ["self"] []
def DkN(P:BW)(w:CQ)(K:BZ)(a:BR->Option A_)(base:CP)(k:Nat):Prop:=∃C f b,DkM P w K a base k C f b
variable {P:BW}{w:CQ}{mg:BR->Option A_}{base:CP}{qual:BR}{fd:DX}{M p3 p4:HY}
def wu5{K:BZ}{x:BR}{f C:BJ}{p1:HY}(F:Fun K x qual st f fd)(S:Bt ["self"] ["self"] (Ag st))(n:DkC K C)
  (u:Br st=[.Assign [.Attribute (.Name "self" p1) "webs" M] (.Dict [] [] p3) p4])(r:Vis (Ag st) "self")(b:∀env:LK,FJ (.Dict [] [] p3) (some (.Attribute (.Name "self" p1) "webs" M)) p4.line env=pure false):Ec P w K mg base CX0 1 f fd ["self"] (spD C):=by
 refine F.ok S (λo H Q E h=>by obtain⟨x,m,rfl,_⟩:=h;rfl) (λv A a s H o Q E y h=>?_);obtain⟨t,m,rfl,j,q⟩:=h;rw[u];refine⟨_,Qx (yq0 (pv 0 rfl r) wk1 (b _)),?_⟩;intro p i;have g:p≠t:=λz=>by rw[z,j]at i;cases i
 refine⟨.ref t,rfl,t,C,m,[],rfl,by rw[Ae (Ne.symm g)];exact j,n.cls,n.no,by decide,?_⟩;exact q p i
variable {p:HY}
section
variable {k:Nat}
theorem yn4(D:DkN X.prog X.w X.K X.mg X.base k)(j:Ed (k+1) X.A)(n:Gl X "Desk":=by rfl):PEd X c .fr (.Call (.Name "Desk" p) [] [] pos) (kd (.exc "Desk" [] [])):=by
 obtain⟨C,f,fd,D⟩:=D;refine PE.imp (wk4 (E:=λ_ _ _=>False) (dvs:=[]) D.mks D.fn j n D.at_ D.bd .nil (λ_ _ _ _ _ _ _ z=>z.elim) (by decide)) λs H Q q=>?_;obtain⟨y,u,E,q⟩:=q;intro x i v r m;refine⟨x,i,rfl,Ak,λt a=>⟨rfl,?_⟩⟩;have g:t≠x:=λz=>by rw[z,Ak]at a;cases a
 rw[Ae g]at a;have h:t≠i:=λz=>by rw[z,Ak]at a;cases a
 rw[Ae h]at a;refine q (.ref x) _ (λb o e=>?_) ⟨x,[],rfl,.inr (.inr ⟨.inl rfl,C,i,t,[],D.dk.at_,rfl,rfl,iT,Ak,?_⟩),rfl⟩
 ·grind [Ae]
 ·rw[Ae g];exact Ak
end
mutual
def Ng:D->Bool
 | .tup a=>Dt a
 | .lst a=>Dt a
 | .exc c _ b=>!dkN c && Dt b
 |_=>true
def Dt:List D->Bool
 | []=>true
 |d::ds=>Ng d && Dt ds
end
variable {K:BZ}
section
variable {H:Hp}{S:AS}{q:BJ}{kvs b:List (Key×V)}
mutual
theorem Xw(i:H q=some (.dK kvs)):∀(d:D)(v:V),Ng d=true->Rep K H S d v->Rep K (upd H q (.dK b)) S d v
 | .non,_,_,h=>h
 | .bl _,_,_,h=>h
 | .int _,_,_,h=>h
 | .str _,_,_,h=>h
 | .tup m,v,n,h=>by obtain⟨a,g,e,t,r⟩:=h;exact⟨a,g,e,t.imp (λh=>by rw[Ae (λz=>by rw[z,i]at h;cases h)];exact h) id,Mh i m g n r⟩
 | .lst m,v,n,h=>by
  obtain⟨a,g,e,t,r⟩:=h;refine⟨a,g,e,?_,Mh i m g n r⟩;rcases t with ⟨t,z⟩ | ⟨⟨o,t⟩ |t,z⟩
  ·exact .inl ⟨by rw[Ae (λz=>by rw[z,i]at t;cases t)];exact t,z⟩
  ·exact .inr ⟨.inl ⟨o,by rw[Ae (λz=>by rw[z,i]at t;cases t)];exact t⟩,z⟩
  ·exact .inr ⟨.inr t,z⟩
 | .exc c ks s,v,n,h=>by
  obtain⟨a,g,e,t,r⟩:=h;have j:(!dkN c && Dt s)=true:=n;rw[M_,ZP]at j;refine⟨a,g,e,?_,Mh i s g j.2 r⟩;rcases t with ⟨t,z⟩ |t |t
  ·refine .inl ⟨t.ne (λz=>?_),z⟩;rcases t with ⟨_,kk,_,_,_,o,t⟩ | ⟨_,kk,_,_,_,o,t⟩
   ·lia
   ·lia
  ·exact .inr (.inl (t.ne i (λ_ z=>by cases z) (λ_ z=>by cases z)))
  ·have:=Oz t.1;rw[j.1]at this;cases this
theorem Mh(g:H q=some (.dK kvs)):∀(ds:List D)(vs:List V),Dt ds=true->Al K H S ds vs->Al K (upd H q (.dK b)) S ds vs
 | [],_,_,h=>h
 |d::ds,vs,n,h=>by obtain⟨v,r,e,j,i⟩:=h;have a:(Ng d && Dt ds)=true:=n;rw[M_]at a;exact⟨v,r,e,Xw g d v a.1 j,Mh g ds r a.2 i⟩
end
end
def spW(K:BZ)(m:List D->R D):Sp:=λg H Q _=>g.length=2/\∃S ks b row t v,g=[.ref t,v]/\Rep K H S (.exc (idn t) ks b) (.ref t)/\Rep K H S row v /\
 RQ (m [.exc (idn t) ks b,row]) (λi=>∀(a:Hp)(C h q:BJ)(kk:List Key)(us:List V)(ks' ws':List D),i=.exc (idn t) ks' ws'->Ad H a->H t=some (.ins C h [("webs",.ref q)])->ks'=kk.map kyD->kk.length=us.length->kk.Nodup->Al K a (AS.plus S H) ws' us->Q (.str "ok") (upd a q (.dK (kk.zip us)))) (λ_=>False)
def MtW(P:BW)(w:CQ)(K:BZ)(mg:BR->Option A_)(base:CP)(k:Nat)(x:BR)(ps:List BR)(m:List D->R D):Prop:=
 ∃C f fd,DkC K C/\Meth K C x f/\(x == ("webs" : BR))=false/\Ec P w K mg base CX0 k f fd ps (spW K m)/\Binds K fd ps []
def gV(H:Hp):Prop:=∀b z,H b≠some (.dK z)
def K3(i:Nat)(ρ:Ev):Bool:=(ρ.set i none).all λo=>o.elim true Ng
open Classical in
def wrM(m:List D->R D)(ks ws:List D)(row:D):R (List D×List D):=if h:∃p:List D×List D,∀t,m [.exc (idn t) ks ws,row]=.ok (.exc (idn t) p.1 p.2) then .ok (jHc h) else .bad
variable {ws:List D}{row:D}
theorem zT{m:List D->R D}{ks:List D}{q:List D×List D->Prop}{e:D->Prop}(h:RQ (wrM m ks ws row) q e):∃p:List D×List D,(∀t,m [.exc (idn t) ks ws,row]=.ok (.exc (idn t) p.1 p.2))/\q p:=by
 unfold wrM at h;split at h
 ·exact⟨_,mY ‹_›,h⟩
 ·exact h.elim
def xK{m:List D->R D}{ks ks' ws':List D}(h:∀t,m [.exc (idn t) ks ws,row]=.ok (.exc (idn t) ks' ws')):wrM m ks ws row=.ok (ks',ws'):=by unfold wrM;have a:∃p:List D×List D,∀t,m [.exc (idn t) ks ws,row]=.ok (.exc (idn t) p.1 p.2):=⟨(ks',ws'),h⟩;rw[dif_pos a];have:=(mY a 0).symm.trans (h 0);injection this with this;injection this with _ g b;rw[<-g,<-b]
def wrS(i:Nat)(f:Ev->R D)(m:List D->R D):Ev->R Ev:=λa=>(gv i a).bind λd=>(R.of (N8 d)).bind λp=>(f a).bind λrow=>(wrM m p.1 p.2 row).bind λr=>if K3 i a=true/\Dt r.2=true then .ok (a.set i (some (.exc "Desk" r.1 r.2))) else .bad
def tWr(K:BZ)(c:DC)(f:Ev->R Ev):TE:=λb H Q=>∃g,Ar K c [] g b H/\RQ (f g) (λa=>∀h,Ar K c [] a b h->Q (.str "ok") h) (λ_=>False)
variable {i:Nat}{ρ:Ev}
def Vm{j:Nat}{d:D}(h:K3 i ρ=true)(a:j≠i)(b:ρ[j]? = some (some d)):Ng d=true:=by
 have e:(ρ.set i none)[j]? = some (some d):=by rw[QT (Ne.symm a)];exact b
 exact QL.mp h _ (WR e)
theorem Ar.wrW{m:St}{B:Hp}{t C Z q:BJ}{x:List (Key×V)}{kk:List Key}{us:List V}{ks:List D}{S:AS}(G:c.O=[])(hN:gV c.H0)(dk:DkC K C)(E:Ar K c [] ρ m B)(H:m[i]? = some (some (.ref t)))(L:B t=some (.ins C Z [("webs",.ref q)]))(F:B q=some (.dK x))(y:K3 i ρ=true)(U:ks=kk.map kyD)(hl:kk.length=us.length)(Q:kk.Nodup)(I:Dt ws=true)(hS:∀o,S o->c.N ρ m o)(r:Al K B S ws us):
  Ar K c [] (ρ.set i (some (.exc "Desk" ks ws))) m (upd B q (.dK (kk.zip us))):=by
 have Y:∀(ρ1 u:Ev) o,c.N ρ1 m o->c.N u m o:=λρ1 u o ⟨h1,_⟩=>⟨h1,λa _ ⟨j,g,_⟩=>by rw[G]at g;cases g⟩;have J:t≠q:=λz=>by rw[z,F]at L;cases L
 refine⟨λb o e=>?_,by rw[tU];exact E.len,(λj d g=>by rw[G]at g;cases g),(λj k a g=>by rw[G]at g;cases g),λj d g n=>?_,(λP hp=>by cases hp),λa ha=>?_⟩
 ·have s:=E.same _ _ e;rw[Ae (λz=>by rw[z]at e s;rw[F]at s;exact hN q x (by rw[e,<-s]))];exact s
 ·by_cases h:j=i
  ·subst h;have T:j<ρ.length:=by have:=(NB.mp n).1;simp_all
   rw[YL T]at n;cases n;refine⟨.ref t,H,t,us,rfl,.inr (.inr ⟨.inl rfl,C,Z,q,kk,dk.at_,U,hl,Q,by rw[Ae J];exact L,Ak⟩),?_⟩;exact Mh F ws us I (r.mono (Ad.refl _) λo z=>Y _ _ o (hS o z))
  ·rw[QT (Ne.symm h)]at n;obtain⟨v,s,e2⟩:=E.oth j d (by rw[G];simp) n;exact⟨v,s,(Xw F d v (Vm y h n) e2).mono (Ad.refl _) λo z=>Y _ _ o z⟩
 ·by_cases A:a=q
  ·subst A;rw[Ak];intro z;cases z
  ·rw[Ae A];exact E.excl a ha
variable {a b:B_}{m:List D->R D}{apos:HY}{x y:BR}
variable {as Q:List CT}{I U:Ev->R Fl}
section
variable {rest:List B_}{k:Nat}{ps:List BR}
def yw3{pl:Sem Bool}(i:Nat)(F:MtW X.prog X.w X.K X.mg X.base k x ps m)(ag:gV c.H0)(hr:Ed k X.A)(ha:PEd X c .no e f)(hO:c.O=[]:=by rfl)(hN:X.N[i]? = some y:=by rfl)(hv:Vis X.env.scope y:=by first |exact Or.inl rfl |exact Or.inr (Or.inl rfl) |exact Or.inr (Or.inr rfl))(hd:Zd y:=by decide)
  (af:(y == ("__classdict__" : BR))=false:=by decide)(G:BP [e] X.env=(false,CV e X.env)::BP [] X.env:=by rfl)(Z:Zp X.env pos []:=by rfl)
  (ht:CV (.Call (.Attribute (.Name y p) x apos) [e] [] pos) X.env=(do
   let ov <-CV (.Name y p) X.env
   SN apos.atName
   let (f,first) <-QV [ov] (QB ov x pl)
   ZS pos f first (IK pos (BP [e] X.env)) (JC pos (GF [] X.env))):=by rfl):
  PE X (.Call (.Attribute (.Name y p) x apos) [e] [] pos) (tWr X.K c (wrS i f m)):=by
 obtain⟨C,g,fd,J,hm,hw,F,hb⟩:=F;refine PE.imp (rJ (pl:=pl) (E:=λ_ _ _=>False) (pv i hN hv hd af) J.cls hm F hr hb .nil (λ_ _ _ _ _ _ _ z=>z.elim) (Eb ha Jf G) G Z ht) λσ H Q q=>?_;obtain⟨ρ,E,q⟩:=q;obtain⟨d,ae,q⟩:=Zg (RQ.bind.mp q);obtain⟨pr,Y,q⟩:=(RQ.bind.mp q).of;obtain⟨v,B,rv⟩:=E.oth i d (by rw[hO];simp) ae;obtain⟨t,dx,w,kk,vs,rfl,h1,h2,h3,h4,h5,rr⟩:=Xm J Y rv;refine⟨.ref t,B,t,dx,_,rfl,h1,oZ hw,?_⟩;refine Aq (l:=.no) E ((RQ.bind.mp q).mono (λrow s vr H1 u E1 r1=>?_) λ_ z=>z.elim);obtain⟨r,T,s⟩:=zT (RQ.bind.mp s);refine⟨rfl,c.N ρ σ,pr.1,pr.2,row,t,vr,rfl,⟨t,vs,rfl,.inr (.inr ⟨.inr rfl,C,dx,w,kk,J.at_,h3,h4,h5,u _ _ h1,u _ _ h2⟩),rr.mono u λ_ z=>z⟩,r1,?_⟩;rw[T t];intro H2 C' ao w' ak ai aj ah ed L n ab hl aa rws;injection ed with _ ek ew;have j:=u _ _ h1;rw[n]at j;cases j;by_cases h:K3 i ρ=true/\Dt r.2=true
 ·rw[if_pos h]at s;have E2:=E1.mono L;refine s _ (Ar.wrW hO ag J E2 B (L _ _ n) (L _ _ (u _ _ h2)) h.1 (ek.trans ab) hl aa h.2 (λo z=>?_) (ew ▸ rws));rcases z with z |z
  ·exact z
  ·exact E1.freshN z
 ·rw[if_neg h]at s;exact s.elim
def tTW(K:BZ)(c:DC)(f:Ev->R (Bool×Ev)):TT:=λg H Q=>∃ρ,Ar K c [] ρ g H/\RQ (f ρ) (λr=>∀h,Ar K c [] r.2 g h->Q r.1 h) (λ_=>False)
def neW(f:Ev->R Ev):Ev->R (Bool×Ev):=λρ=>(f ρ).bind λg=>.ok (false,g)
def plW(t:Ev->R Bool):Ev->R (Bool×Ev):=λρ=>(t ρ).nox.bind λb=>.ok (b,ρ)
def orW(t u:Ev->R (Bool×Ev)):Ev->R (Bool×Ev):=λρ=>(t ρ).bind λr=>if r.1 then .ok r else u r.2
def zq5{j pk}(s:X.A.units+70<FW){f:Ev->R Ev}(h:PE X e (tWr X.K c f)):PT X (.Compare e [.NotEq] [.Constant (.str "ok") j pk] pos) (tTW X.K c (neW f)):=
 PT.imp (rG (jJ s) h lF (Nh _)) λB H Q q=>by
 obtain⟨ρ,E,q⟩:=q;refine⟨ρ,E,(RQ.bind.mp q).mono (λg r C v=>?_) λ_ z=>z⟩;refine⟨λ_=>True,.str "ok",.str "ok",.bl false,rfl,rfl,?_,λz u n o=>⟨false,o,r u (v.mono n)⟩⟩;kernel_rfl
def zq8{t:Ev->R Bool}(h:PTd X c e t):PT X e (tTW X.K c (plW t)):=PT.imp h λn H Q q=>by obtain⟨ρ,E,q⟩:=q;obtain⟨b,g,q⟩:=RQ.nox (RQ.bind.mp q);exact⟨[],ρ,E,by rw[g];exact λj s=>q j (E.mono s)⟩
def zh6{t:Ev->R (Bool×Ev)}(h:PT X a (tTW X.K c t)):PW X (.BoolOp .Or [a] pos) (tTW X.K c t):=pY h
def zq7{t u:Ev->R (Bool×Ev)}(o:PT X a (tTW X.K c t))(n:PW X (.BoolOp .Or (b::rest) pos) (tTW X.K c u)):PW X (.BoolOp .Or (a::b::rest) pos) (tTW X.K c (orW t u)):=PW.imp (oY o n) λv H Q q=>by
 obtain⟨ρ,E,q⟩:=q;refine⟨ρ,E,(RQ.bind.mp q).mono (λr g s j=>?_) λ_ z=>z⟩;cases h:r.1 with
 |true=>rw[h,if_pos rfl]at g;rw[if_pos rfl];have:=g s j;rwa [h]at this
 |false=>rw[h,if_neg (by decide)]at g;rw[if_neg (by decide)];exact⟨r.2,j,g⟩
def aN(K:BZ)(c:DC)(g:Ev->R Fl):TS:=λE h H=>∃ρ,Ar K c [] ρ h H/\RQ (g ρ) (Fl.ends K c [] E) (Y4 K c)
def ifW(t:Ev->R (Bool×Ev)):Ev->R Fl:=λρ=>(t ρ).nox.bind λr=>if r.1 then .bad else .ok (.nx r.2)
def zm0{t:Ev->R (Bool×Ev)}(h:PT X e (tTW X.K c t)):PS X (.If e as [] pos) (aN X.K c (ifW t)):=
 PS.imp (gZ (t:=λ_ _ _=>False) h (λ_ _ _ _ _ _ z=>z.elim) Xv) λD j H q=>by
 obtain⟨ρ,E,q⟩:=q;obtain⟨r,n,q⟩:=RQ.nox (RQ.bind.mp q);refine⟨ρ,E,?_⟩;rw[n];intro o s;cases g:r.1 with
 |true=>rw[g,if_pos rfl]at q;exact q.elim
 |false=>rw[g,if_neg (by decide)]at q;rw[if_neg (by decide)];exact q j o s
def sc0(h1:PSd X c st I)(n:PSs X Q (aN X.K c U)):PSs X (st::Q) (aN X.K c (sq I U)):=PSs.imp (Gu h1 n) λD s H q=>by
 obtain⟨ρ,E,q⟩:=q;refine⟨[],ρ,E,(RQ.bind.mp q).mono (λo h=>?_) λ_ z=>z⟩;cases o with
 |nx g=>exact λj u r=>⟨g,r,h⟩
 |rt d=>exact h
 |bk g=>exact h
 |ct g=>exact h
def scW(h1:PS X st (aN X.K c I))(n:PSs X Q (aN X.K c U)):PSs X (st::Q) (aN X.K c (sq I U)):=PSs.imp (Gu h1 n) λD s H q=>by
 obtain⟨ρ,E,q⟩:=q;refine⟨ρ,E,(RQ.bind.mp q).mono (λo h=>?_) λ_ z=>z⟩;cases o with
 |nx g=>exact λj u r=>⟨g,r,h⟩
 |rt d=>exact h
 |bk g=>exact h
 |ct g=>exact h
end
def puS(i:Nat)(g Z:Ev->R D):Ev->R D:=λρ=>(Z ρ).nox.bind λv=>(gv i ρ).bind λd=>match d with
 | .exc c ks ws=>if dkN c=true/\c ≠ "Desk" then(g ρ).nox.bind λkd=>if ks.length<16777216 then(R.of (kyO kd)).bind λk=>.ok (.exc c (Jk ks ws k v).1 (Jk ks ws k v).2) else .bad else .bad
 |_=>.bad
def tW2(K:BZ)(c:DC)(g:Ev->R D):TS:=λr j H=>∃ρ,Ar K c [] ρ j H/\RQ (g ρ) (λo=>∀(h:Hp)(t C n q:BJ)(kk:List Key)(us:List V)(ks ws:List D),o=.exc (idn t) ks ws->Ad c.H0 h->h t=some (.ins C n [("webs",.ref q)])->ks=kk.map kyD->kk.length=us.length->kk.Nodup->Al K h c.S ws us->r.rt (.str "ok") (upd h q (.dK (kk.zip us)))) (λ_=>False)
def ifT(t:Ev->R Bool)(g:Ev->R D):Ev->R D:=λρ=>(t ρ).nox.bind λb=>if b then g ρ else .bad
def sqT(I:Ev->R Fl)(U:Ev->R D):Ev->R D:=λρ=>(I ρ).nox.bind λh=>match h with
 | .nx g=>U g
 |_=>.bad
variable {C:BJ}{fk Z:Ev->R D}{B:B_}{pk J:HY}
section
variable {key:B_}{rest:List CT}{t:Ev->R Bool}{g:Ev->R D}{h:Ev->R Fl}{rp:HY}{j}
theorem yq3(hu:X.A.units+70<FW)(i:Nat)(dk:DkC X.K C)(hv:PEd X c .any B Z)(hk:PEd X c .any key fk)(hO:c.O=[]:=by rfl)(hN:X.N[i]? = some y:=by rfl)(s:Vis X.env.scope y:=by first |exact Or.inl rfl |exact Or.inr (Or.inl rfl) |exact Or.inr (Or.inr rfl))(hd:Zd y:=by decide)
  (ah:(y == ("__classdict__" : BR))=false:=by decide)(o:DG (.Name y p) "webs" X.env (CV (.Name y p) X.env)=CV (.Name y p) X.env:=by rfl)(hs:FJ B (some (.Subscript (.Attribute (.Name y p) "webs" apos) key J)) pos.line X.env=pure false:=by rfl):
  PSs X [.Assign [.Subscript (.Attribute (.Name y p) "webs" apos) key J] B pos,.Return (some (.Constant (.str "ok") j pk)) rp] (tW2 X.K c (puS i fk Z)):=
 PSs.imp (Gu (km1 (by lia) (p8 (pv i hN s hd ah) o) hk hv hs) (Qx (Z6 lF))) λDe σ H q=>by
 obtain⟨ρ,E,q⟩:=q;obtain⟨v,ev,q⟩:=RQ.nox (RQ.bind.mp q);refine Aq (l:=.any) E ?_;rw[ev];intro vv H1 s1 E1 r1;obtain⟨d,ag,q⟩:=Zg (RQ.bind.mp q);obtain⟨u,ae,ru⟩:=E1.oth i d (by rw[hO];simp) ag;cases d with
 |exc r ks ws =>
  by_cases L:dkN r=true/\r ≠ "Desk"
  case neg=>have q:RQ (if dkN r=true/\r ≠ "Desk" then _ else R.bad) _ _:=q;rw[if_neg L]at q;exact q.elim
  have q:RQ (if dkN r=true/\r ≠ "Desk" then(fk ρ).nox.bind λkd=>if ks.length<16777216 then(R.of (kyO kd)).bind λk=>R.ok (D.exc r (Jk ks ws k v).1 (Jk ks ws k v).2) else .bad else .bad) _ _:=q;rw[if_pos L]at q;obtain⟨kd,ek,q⟩:=RQ.nox (RQ.bind.mp q);obtain⟨t,vs,rfl,xx,rr⟩:=ru;obtain⟨n,C',dx,w,kk,h,U,g3,g4,g5,g6⟩:=xx.dsk L.1;rw[dk.at_]at h;cases h;refine⟨.ref t,ae,t,C,dx,_,.ref w,rfl,g5,dk.cls,dk.no,by simp[List.lookup],?_⟩;refine Aq (l:=.any) E1 ?_;rw[ek];intro y H2 G E2 r2;by_cases hz:ks.length<16777216
  case neg=>rw[if_neg hz]at q;exact q.elim
  rw[if_pos hz]at q;obtain⟨k,af,q⟩:=(RQ.bind.mp q).of;have ey:y=kV k:=by rw[rO af]at r2;cases k<;>exact r2
  subst ey;have F:(kk.zip vs).length<sizeLine:=by
   have h1:ks.length=kk.length:=by rw[U,GQ]
   rw[tV,CG];lia
  refine⟨w,_,rfl,aV.k (G _ _ g6) F,?_⟩;have aa:Rep X.K H2 c.S v vv:=r1.mono G λ_ z=>z;have Y:Al X.K H2 c.S ws vs:=rr.mono G λ_ z=>z.1;obtain⟨ab,T,p1,M,p3,_,p5,p6⟩:=jf6 k aa g3 g4 Y;rw[p1];rw[<-U]at p5 p6;rcases n with n |n
  ·exact absurd n L.2
  ·exact q H2 t C dx w ab T _ _ (by rw[n]) E2.same (G _ _ g5) p5 M p3 p6
 |_=>exact(q:False).elim
def uT:PSs X Q (λ_ _ _=>False):=λ_ _ _ _ _ _ z=>z.elim
def yz5(j:PTd X c e t)(n:PSs X as (tW2 X.K c g)):PSs X (.If e as [] pos::rest) (tW2 X.K c (ifT t g)):=
 PSs.imp (Gu (gZ j n uT) uT) λz s H q=>by
 obtain⟨ρ,E,q⟩:=q;obtain⟨b,o,q⟩:=RQ.nox (RQ.bind.mp q);refine Fd E ?_;rw[o];intro v u r;cases b with
 |false=>rw[if_neg (by decide)]at q;exact q.elim
 |true=>rw[if_pos rfl]at q;rw[if_pos rfl];exact⟨ρ,r,q⟩
def scT(h1:PSd X c st h)(o:PSs X rest (tW2 X.K c g)):PSs X (st::rest) (tW2 X.K c (sqT h g)):=PSs.imp (Gu h1 o) λA v H q=>by
 obtain⟨ρ,E,q⟩:=q;obtain⟨r,s,q⟩:=RQ.nox (RQ.bind.mp q);refine⟨[],ρ,E,?_⟩;rw[s];cases r with
 |nx j=>exact λn z u=>⟨j,u,q⟩
 |_=>exact(q:False).elim
end
def dO:D->Option BR
 | .exc c _ _=>some c
 |_=>none
def jR(n:Nat)(g:Ev->R D):List D->R D
 |d::ds=>(g (Aa n (d::ds))).bind λh=>if dO h=dO d then .ok h else .bad
 | []=>.bad
variable {g:Ev->R D}
theorem yl4{f:BJ}{N ps:List BR}{k:Nat}(F:Fun K x qual st f fd)(S:Bt N ps (Ag st))(Y:ps.length=2)
  (u:∀(n:A_)(A:D_)(j:List LK)(s:BK)(H:Hp)(E:XK)(S0:AS),Ed k (A.deeper (HJ qual (Ag st) s.heap.objs.size f n))->(A.deeper (HJ qual (Ag st) s.heap.objs.size f n)).units+70<FW ->
   PSs (W7 CX0 P w K mg base N qual (Ag st) f n A j s H E).nox (Br st) (tW2 K ⟨H,S0,[],Dq,[]⟩ g)):
  Ec P w K mg base CX0 (k+1) f fd ps (spW K (jR N.length g)):=by
 refine F.ok S (λvs H Q E h=>h.1.trans Y.symm) (λn A j s H vs Q E hr h=>?_);obtain⟨hl,S0,ks,ws,row,t,v,rfl,rd,rr,q⟩:=h;refine⟨_,u n A j s H E S0 hr (by have:=hr.un;lia),Aa N.length [.exc (idn t) ks ws,row],Qp ⟨_,_,rfl,rd,_,_,rfl,rr,rfl⟩ (λi hi=>by cases hi),?_⟩;refine(RQ.bind.mp (show RQ ((g (Aa N.length [.exc (idn t) ks ws,row])).bind λd'=>if dO d'=dO (D.exc (idn t) ks ws) then R.ok d' else .bad) _ _ from q)).mono (λd' z H1 t' C dx p kk us L G ed sm O ae ab aa r=>?_) λ_ z=>z;subst ed;by_cases hn:dO (.exc (idn t') L G)=dO (.exc (idn t) ks ws)
 case neg=>rw[if_neg hn]at z;exact z.elim
 rw[if_pos hn]at z;have T:t'=t:=rT (Option.some.inj hn);subst T;obtain⟨t2,af,e2,xx,_⟩:=rd;cases e2;obtain⟨_,C2,ah,q2,ag,_,_,_,_,g5,_⟩:=xx.dsk (Oz (.inr rfl));have:=sm _ _ g5;rw[O]at this;cases this;exact z H1 C dx p kk us L G rfl sm g5 ae ab aa (r.mono (Ad.refl _) λo z=>z.elim .inl λ⟨a,e1,e2,_⟩=>.inr ⟨a,e1,e2⟩)
def HDk(K:BZ):Prop:=∃C,DkC K C
variable {n:Nat}
section
variable {s:B_}{fs:Ev->R (List D)}{h rp:HY}{k:Nat}{ps:List BR}{key:B_}{j}
def yt2(q:X.A.units+70<FW)(o:HDk X.K)(v:PEd X c l a f1)(u:PEd X c l s f2)(r:FP .NotIn (.Attribute s "webs" apos)=false:=by with_unfolding_all rfl)
  (j:DG s "webs" X.env (CV s X.env)=CV s X.env:=by rfl):PTd X c (.Compare a [.NotIn] [.Attribute s "webs" apos] pos) (tb (b2 f1 f2 fX)):=let ⟨_,o⟩:=o;zh3 q o v u r j
def vQ(r:X.A.units+70<FW)(q:HDk X.K)(u:PEd X c l s f1)(v:PEd X c l a f2)(o:gU a:=by intro _ _;rfl)
  (j:DG s "webs" X.env (CV s X.env)=CV s X.env:=by rfl):PEd X c l (.Subscript (.Attribute s "webs" apos) a pos) (oH f1 f2):=let ⟨_,q⟩:=q;zr0 r q u v o j
def ya1(z:X.A.units+70<FW)(i:Nat)(u:HDk X.K)(v:PEd X c .any B Z)(E:PEd X c .any key fk)(G:c.O=[]:=by rfl)(H:X.N[i]? = some y:=by rfl)(q:Vis X.env.scope y:=by first |exact Or.inl rfl |exact Or.inr (Or.inl rfl) |exact Or.inr (Or.inr rfl))(F:Zd y:=by decide)
  (r:(y == ("__classdict__" : BR))=false:=by decide)(o:DG (.Name y p) "webs" X.env (CV (.Name y p) X.env)=CV (.Name y p) X.env:=by rfl)(hs:FJ B (some (.Subscript (.Attribute (.Name y p) "webs" apos) key J)) pos.line X.env=pure false:=by rfl):
  PSs X [.Assign [.Subscript (.Attribute (.Name y p) "webs" apos) key J] B pos,.Return (some (.Constant (.str "ok") j pk)) rp] (tW2 X.K c (puS i fk Z)):=let ⟨_,u⟩:=u;yq3 z i u v E G H q F r o hs
def za8(Z:Ev->R D):Ev->R Fl:=λρ=>(Z ρ).bind λ_=>.bad
theorem yn9{o:B_}(L:X.A.units+70<FW)(j:PEd X c l B Z)(hs:FJ B (some (.Subscript o key J)) pos.line X.env=pure false:=by rfl):PSd X c (.Assign [.Subscript o key J] B pos) (za8 Z):=
 PS.imp (km1 (td:=λ_ _ _=>False) (ty:=λ_ _ _=>False) (by lia) (λ_ _ _ _ _ _ z=>z.elim) (λ_ _ _ _ _ _ z=>z.elim) j hs) λD u H q=>by
 obtain⟨r,ρ,E,q⟩:=q;exact Aq E ((RQ.bind.mp q).mono (λd z v O F T G=>(z:False).elim) λ_ z=>Hb E z)
end
def spL(K:BZ)(n:Nat)(m:List D->R D):Sp:=λh H Q E=>gV H/\sp0 K n m h H Q E
theorem yl3{f:BJ}{N ps:List BR}{k:Nat}{O:List Nat}{g:Ev->R Fl}(F:Fun K x qual st f fd)(S:Bt N ps (Ag st))(hO:O.all (λi=>decide (ps.length<=i))=true)
  (L:∀(u:A_)(A:D_)(j:List LK)(s:BK)(H:Hp)(E:XK)(Y:AS),gV H->Ed k (A.deeper (HJ qual (Ag st) s.heap.objs.size f u))->(A.deeper (HJ qual (Ag st) s.heap.objs.size f u)).units+70<FW ->
   PSs (W7 CX0 P w K mg base N qual (Ag st) f u A j s H E).nox (Br st) (aN K ⟨H,Y,O,Dq,[]⟩ g)):
  Ec P w K mg base CX0 (k+1) f fd ps (spL K ps.length (Bh N.length g)):=by
 refine F.ok S (λvs H Q E h=>h.2.1) (λu A j s H vs Q E hr h=>?_);obtain⟨hN,hl,Y,T,r,q⟩:=h;refine⟨_,L u A j s H E Y hN hr (by have:=hr.un;lia),Aa N.length T,Qp r (λi hi=>?_),?_⟩
 ·have:=QL.mp hO i hi;rw[hl];exact of_decide_eq_true this
 ·have G:RQ (gC (g (Aa N.length T))) _ _:=q;cases e:g (Aa N.length T) with
  |ok fl =>
   rw[e]at G;cases fl with
   |nx ρ=>exact λaa H' E'=>G .non H' E'.same rfl
   |rt d=>exact λv H' s r=>G v H' s (r.mono (Ad.refl _) λo z=>z.elim .inl λ⟨a,e1,e2,_⟩=>.inr ⟨a,e1,e2⟩)
   |bk ρ=>exact G.elim
   |ct ρ=>exact G.elim
  |exc x=>rw[e]at G;exact G.elim
  |bad=>rw[e]at G;exact G.elim
theorem kt6{l:W.OpenLaw}{q:BW}{loose:List BR}{XP:(BR->Option A_)->CP->Prop}{G:CQ->CP->Prop}{d:DefRec}{K:nQ->BZ}{k:Nat}(Y:∀j:List Int,j.length<=63->m [.lst (j.map .int)]=.ok (.bl true))(T:l.most=some 63)(A:d.params.defaults=[])(O:Ed k QD)
  (hY:∀(w:CQ)(h:CP),G w h->(K w.params).In h)
  (F:∀(w:CQ)(mg:BR->Option A_)(E:BJ)(h:CP),(K w.params).In h->h.Ns HW mg->mg d.name=some (.ref E) ->
   ∃fd:DX,(∀(s:BK)(u:A_),TV s fd ⟨[u],[]⟩ [(x,u)])/\∀base:CP,(K w.params).In base->base.Ns HW mg->Ec l.prog w (K w.params) mg base CX0 k E fd [x] (spL (K w.params) 1 m)):
  W.WalkO q loose XP G l.row.toRowW d [] (λf L=>PySem.call f L):=
 L2.yd1 (n:=63) (k:=k) (x:=x) (CX:=λ_=>CX0) (sp:=λw=>spL (K w.params) 1 m) T (by decide) A O hY F (λw H a j hl hO hS=>⟨(λb z e=>by
  rcases hO b with h | ⟨o,xs,h⟩
  ·lia
  ·rw[h]at e;cases e),rfl,λ_=>True,[.lst (j.map .int)],.cons ⟨a,_,rfl,SqL.ls hS trivial trivial,Mg j⟩ Al.nil,by
  rw[Y j hl];exact λv H' _ r=>r⟩) λ_ _ _ _ _ z=>z
open PySem PySem.Spec PyProof.Rows L2 PySem.W
def yw9(a:W.nsIn K PySem.mainGlobals "Desk" = some (some (.ref C)))(o:W.plainGet K C Str.empty=true)(q:W.hasDictIn K C=true)(j:W.plainOver K C=true)(h:W.findIn K (.ref C) "__setattr__" = some (some (.builtin "object.__setattr__")))(no:W.findIn K (.ref C) "webs" = some none):DkC K C:=⟨a,⟨o,q,j,h⟩,no⟩
def MI(K:BZ)(C:BJ)(x qual:BR)(st:CT):Prop:=∃f fd,Meth K C x f/\Fun K x qual st f fd
variable {oc doc pm cdv:A_}{od:Option BJ}{osl:Array (Option A_)}
def wB{f:BJ}{an:Option BJ}{kV ct:A_}(a:W.findIn K (.ref C) x=some (some (.ref f)))(h:W.isFn K (.ref f)=true)(k:W.keepIn K (.ref f)=true)
  (l:K.lookup f=some ⟨oc,od,.func (W.fnOf x qual (Dp st) (Br st) (Ag st) .none kV doc pm an cdv ct),osl⟩)(c:W.codeIn K cdv qual=true):MI K C x qual st:=⟨f,_,⟨a,h,k⟩,lQ l c k⟩
def DI(K:BZ)(C:BJ)(st:CT):Prop:=∃f fd,Mk K C f/\Fun K "__init__" "Desk.__init__" st f fd
def yw7{f:BJ}{an:Option BJ}{kV ct:A_}(m:W.makesIn K C=true)(a:W.findIn K (.ref C) "__init__" = some (some (.ref f)))(j:W.isFn K (.ref f)=true)(h:W.keepIn K (.ref C)=true)(k:W.keepIn K (.ref f)=true)
  (l:K.lookup f=some ⟨oc,od,.func (W.fnOf "__init__" "Desk.__init__" (Dp st) (Br st) (Ag st) .none kV doc pm an cdv ct),osl⟩)(c:W.codeIn K cdv "Desk.__init__" = true):DI K C st:=⟨f,_,⟨m,a,j,h⟩,lQ l c k⟩
section
variable {h:CP}{mg:BR->Option A_}{qual:BR}{k:Nat}{ps:List BR}
def yn6(P:BW)(w:CQ)(base:CP)(s:DkC K C)(I:MI K C x qual st)(j:∀a fd,Fun K x qual st a fd->Ec P w K mg base CX0 k a fd ps (spW K m))
  (r:∀(kV doc pm:A_)(an:Option BJ)(cdv ct:A_)(us:List A_),us.length=ps.length->MN (W.fnOf x qual (Dp st) (Br st) (Ag st) .none kV doc pm an cdv ct) ⟨us,[]⟩=pure (ps.zip us))(o:(x == ("webs" : BR))=false:=by decide):MtW P w K mg base k x ps m:=
 let ⟨f,fd,q,F⟩:=I; ⟨C,f,fd,s,q,o,j f fd F,F.binds r⟩
def yj8{p1:HY}(P:BW)(w:CQ)(base:CP)(X:K.In h)(G:h.Ns PySem.mainGlobals mg)(q:DkC K C)(I:DI K C st)(S:Bt ["self"] ["self"] (Ag st))(u:Br st=[.Assign [.Attribute (.Name "self" p1) "webs" M] (.Dict [] [] p3) p4])(r:Vis (Ag st) "self")(j:∀env:LK,FJ (.Dict [] [] p3) (some (.Attribute (.Name "self" p1) "webs" M)) p4.line env=pure false)
  (o:∀(kV doc pm:A_)(an:Option BJ)(cdv ct:A_)(us:List A_),us.length=(["self"]:List BR).length->MN (W.fnOf "__init__" "Desk.__init__" (Dp st) (Br st) (Ag st) .none kV doc pm an cdv ct) ⟨us,[]⟩=pure ((["self"]:List BR).zip us)):DkN P w K mg base 1:=
 let ⟨f,fd,s,F⟩:=I; ⟨C,f,fd,q,W.mg_of X G q.at_,s,wu5 F S q u r j,F.binds o⟩
end
structure WfM(x qual:BR)(st:CT)(N k:Nat)(ps:List BR)(Y:Bx->Prop->Prop)(S:Nat->List BR->Bx->(List D->R D)->BJ->DX->Prop) where
 Ns:List BR
 sc:Bt Ns ps (Ag st)
 g:Ev->R Fl
 ok:∀{b a fd},Bt Ns ps (Ag st)->Fun b.K x qual st a fd->Y b (S k ps b (Bh N g) a fd)
variable {Y:Bx->Prop->Prop}
def WfM.at{N k:Nat}{ps:List BR}{S:Nat->List BR->Bx->(List D->R D)->BJ->DX->Prop}(V:WfM x qual st N k ps Y S){g:Ev->R Fl}(e:V.g=g){b:Bx}{a:BJ}(F:Fun b.K x qual st a fd):Y b (S k ps b (Bh N g) a fd):=e ▸ V.ok V.sc F
structure WfW(x qual:BR)(st:CT)(N k:Nat)(ps:List BR)(Y:Bx->Prop->Prop) where
 Ns:List BR
 sc:Bt Ns ps (Ag st)
 g:Ev->R D
 ok:∀{b a fd},Bt Ns ps (Ag st)->Fun b.K x qual st a fd->Y b (Ec b.P b.w b.K b.mg b.base CX0 k a fd ps (spW b.K (jR N g)))
abbrev gOW{v:Ev->R D}(_:g=v):Ev->R D:=g
def WfW.at{N k:Nat}{ps:List BR}(V:WfW x qual st N k ps Y)(e:V.g=g){b:Bx}{a:BJ}(F:Fun b.K x qual st a fd):Y b (Ec b.P b.w b.K b.mg b.base CX0 k a fd ps (spW b.K (jR N g))):=e ▸ V.ok V.sc F
abbrev Sl0(k:Nat)(ps:List BR)(b:Bx)(m:List D->R D)(a:BJ)(fd:DX):Prop:=Ec b.P b.w b.K b.mg b.base CX0 k a fd ps (spL b.K ps.length m)
abbrev FMC(b:Bx)(k:Nat)(x:BR)(ps:List BR)(m:List D->R D):Prop:=MtC b.P b.w b.K b.mg b.base k x ps ps.length m
abbrev FMW(b:Bx)(k:Nat)(x:BR)(ps:List BR)(m:List D->R D):Prop:=MtW b.P b.w b.K b.mg b.base k x ps m
def vP{t:TT}(h:PW X e t):PT X e t:=h.pt
def lkF(v:List (BR×List BR))(x:BR):Option (List BR):=(v.find? λp=>decide (p.1=x)).map (·.2)
def oJ(v:List (BR×List BR)):D->Option D
 | .str x=>(lkF v x).map λws=>.tup (ws.map .str)
 |_=>none
def oG(v:List (BR×List BR)):D->Option D
 | .str x=>some (.bl (!(lkF v x).isSome))
 |_=>none
def TpK(K:BZ)(a:BJ)(xs:List V):Prop:=∃(o:GR)(its:Array A_)(n:Nat),K.lookup a=some o/\o.cls=.type "tuple"/\o.data=.seq its n/\its.size<=sizeLine/\Vals xs its.toList
def FRM(P:BW)(w:CQ)(K:BZ)(mg:BR->Option A_)(x:BR)(v:List (BR×List BR)):Prop:=∃a j,mg x=some (.ref a)/\(a == FQ)=false/\(∀h:CP,K.In h->h.DictOf (Bv P w) a j) /\
 ∀y,(lkF v y=none/\HR j (.inr y)=none)\/∃ws b,lkF v y=some ws/\HR j (.inr y)=some (.ref b)/\TpK K b (ws.map V.str)
section
variable {j:List (BR×List BR)}
theorem fixF(F:FRM X.prog X.w X.K X.mg x j)(he:PEd X c l e f)(hs:gU e:=by intro _ _;rfl)(hg:Gl X x:=by rfl)(hd:Zd x:=by decide):PEd X c .fr (.Subscript (.Name x p) e pos) (b1 f (oJ j)):=by
 obtain⟨a,vs,hm,L,hD,hT⟩:=F;intro o s σ H Q I q;obtain⟨ab,ρ,E,q⟩:=q;refine zZ PySem.F.slot_dict_getitem.lookup hs (Xq I hg hm ?_ hd);refine thn (he o s σ H (λy h=>∃z ws,y=.str z/\lkF j z=some ws/\∀v,Rep X.K h (fresh H) (.tup (ws.map .str)) v->Q v h) I (Aq E ((RQ.bind.mp q).mono (λd A v h G E1 r1=>?_) λ_ z=>z))) λiv G hh=>?_
 ·obtain⟨d',T,q2⟩:=A.of;cases d with
  |str z=>obtain⟨ws,u,rfl⟩:=bH.mp (show(lkF j z).map _=some d' from T);exact⟨z,ws,r1,u,λv r=>q2 v h G r⟩
  |_=>cases T
 ·obtain⟨y,h,I1,ry,z,ws,rfl,u,A⟩:=hh;obtain⟨t,rfl⟩:=(show ∃t,iv=Value.str z t from ry);have dd:=hD _ I1.QZ;rcases hT z with ⟨O,_⟩ | ⟨aa,b,O,h2,h3⟩
  ·lia
  ·rw[O]at u;cases u;refine⟨dd.typeIs,cY (K1 _ _ z t) dd.mapOf h2 ⟨.ref b,h,I1.tok _,rfl,A _ ⟨b,_,rfl,.inr h3,Vq ws⟩⟩⟩
theorem zh2(F:FRM X.prog X.w X.K X.mg x j)(he:PEd X c l e f)(hg:Gl X x:=by rfl)(hd:Zd x:=by decide)(hm:FP .NotIn (.Name x p)=false:=by with_unfolding_all rfl):PTd X c (.Compare e [.NotIn] [.Name x p] pos) (tb (b1 f (oG j))):=by
 obtain⟨a,vs,aa,G,hD,hT⟩:=F;have hc:PC X .NotIn e (.Name x p) (λA H Q=>tD X.K c l f A H λy r=>∃z,y=.str z/\Q (.bl (!(lkF j z).isSome)) r):=by intro o s A H Q I h;refine thn (he o s A H _ I h) λiv O ⟨y,r,I1,ry,T⟩=>thn (rK (v:=.ref a) hg aa rfl hd o O A r (λv H2=>v=.ref a/\H2=r) I1 ⟨rfl,rfl⟩) λu s2 L=>?_;obtain⟨v,H2,I2,rv,rfl,rfl⟩:=L;obtain rfl:u=Value.ref a:=rv;obtain⟨z,rfl,q⟩:=T;obtain⟨t,rfl⟩:=(show ∃t,iv=Value.str z t from ry);have dd:=hD _ I2.QZ;refine jW (K1 _ _ z t) G dd.mapOf ⟨.bl (!(HR vs (.inr z)).isSome),H2,I2.tok _,rfl,?_⟩;grind
 refine PT.imp (yI hc hm) λA H Q q=>?_;obtain⟨ab,ρ,E,q⟩:=q;refine Aq E ((RQ.bind.mp (RQ.bind.mp q)).mono (λd T v r O E1 r1=>?_) λ_ z=>z);obtain⟨d',e',q2⟩:=T.of;cases d with
 |str z=>cases e';obtain⟨b,hb,q3⟩:=q2.of;cases hb;exact⟨z,r1,_,rfl,q3 r O⟩
 |_=>cases e'
end
def DEn(w:CQ)(K:BZ)(e:HF)(p:BR×List BR):Prop:=(∃t,e.key=.str p.1 t)/\e.hash=jL w (.inr p.1)/\∃b,e.val=.ref b/\TpK K b (p.2.map V.str)
def DEs(w:CQ)(K:BZ):List HF->List (BR×List BR)->Prop
 | [],[]=>True
 |e::es,p::ps=>DEn w K e p/\DEs w K es ps
 |_,_=>False
def FRI(w:CQ)(K:BZ)(x:BR)(v:List (BR×List BR)):Prop:=∃a o es h,W.nsIn K PySem.mainGlobals x=some (some (.ref a))/\K.lookup a=some o/\o.ExactDict/\o.data=.dict es h/\(a == FQ)=false/\DEs w K es.toList v/\(v.map (·.1)).Nodup
def vsE:List HF->List (BR×List BR)->List (Key×A_)
 |e::es,p::ps=>(.inr p.1,e.val)::vsE es ps
 |_,_=>[]
def DEs.pairs{P:BW}{w:CQ}{K:BZ}:∀{es:List HF}{v:List (BR×List BR)},DEs w K es v->Pairs (Bv P w) es (vsE es v)/\(∀e∈es,∃k,(Bv P w).is k e.key=true/\e.hash=(Bv P w).hash k)/\(vsE es v).map (·.1)=v.map (λp=>Sum.inr p.1)
 | [],[],_=>⟨.nil,(λe h=>by cases h),rfl⟩
 |e::es,p::ps,h=>by
  obtain⟨⟨⟨t,A⟩,z,b,G,F⟩,u⟩:=h;obtain⟨s,r,q⟩:=DEs.pairs (P:=P) u;have o:(Bv P w).is (.inr p.1) e.key=true:=by rw[A];exact K1 _ _ _ _
  refine⟨.cons o rfl s,λE j=>?_,?_⟩
  ·rcases JN.mp j with rfl |j
   ·exact⟨_,o,z⟩
   ·exact r E j
  ·show _::_=_::_;rw[q]
 | [],_::_,h=>h.elim
 |_::_,[],h=>h.elim
def DEs.at{w:CQ}{K:BZ}(y:BR):∀{es:List HF}{v:List (BR×List BR)},DEs w K es v->(lkF v y=none/\HR (vsE es v) (.inr y)=none)\/∃ws b,lkF v y=some ws/\HR (vsE es v) (.inr y)=some (.ref b)/\TpK K b (ws.map V.str)
 | [],[],_=>.inl ⟨rfl,rfl⟩
 |e::es,p::ps,h=>by
  obtain⟨⟨_,_,b,r,q⟩,o⟩:=h;by_cases j:p.1=y
  ·refine .inr ⟨p.2,b,?_,?_,q⟩
   ·simp[lkF,ZL,j]
   ·simp[HR,vsE,ZL,j,r]
  ·have u:lkF (p::ps) y=lkF ps y:=by simp[lkF,ZL,j]
   have s:HR (vsE (e::es) (p::ps)) (.inr y)=HR (vsE es ps) (.inr y):=by simp[HR,vsE,ZL,j]
   rw[u,s];exact DEs.at y o
 | [],_::_,h=>h.elim
 |_::_,[],h=>h.elim
variable {v:List (BR×List BR)}
theorem yl7{h:CP}(P:BW)(X:K.In h)(G:h.Ns PySem.mainGlobals mg)(F:FRI w K x v):FRM P w K mg x v:=by obtain⟨a,o,es,E,A,z,u,s,r,j,H⟩:=F;obtain⟨p1,M,p3⟩:=DEs.pairs (P:=P) j;refine⟨a,vsE es.toList v,W.mg_of X G A,r,λL Y=>⟨o,es,E,Y _ _ z,u,s,λe q=>M e (by simpa using q),p1,?_⟩,λy=>DEs.at y j⟩;grind
def tpC(K:BZ)(v:A_)(ws:List BR):Bool:=match v with
 | .ref b=>match K.lookup b with
  |some o=>match o.data with
   | .seq h _=>decide (o.cls=.type "tuple") && decide (h.size<=1000) && decide (h.toList.length=ws.length) && (h.toList.zip ws).all λp=>match p.1 with
    | .str x _=>decide (x=p.2)
    |_=>false
   |_=>false
  |none=>false
 |_=>false
def enC(K:BZ):List HF->List (BR×List BR)->Bool
 | [],[]=>true
 |e::es,p::ps=>(match e.key with | .str x _=>decide (x=p.1) |_=>false) && tpC K e.val p.2 && enC K es ps
 |_,_=>false
def esO(o:GR):List HF:=match o.data with
 | .dict es _=>es.toList
 |_=>[]
def frC(K:BZ)(a:BJ)(o:GR)(v:List (BR×List BR)):Bool:=decide (o.cls=.type "dict") && decide (o.dict=none) && decide (o.slots.size=0) && (match o.data with | .dict _ _=>true |_=>false) && !(a == FQ) && enC K (esO o) v && decide (v.map (·.1)).Nodup
theorem jz0:∀{us:List A_}{ws:List BR},us.length=ws.length->((us.zip ws).all λp=>match p.1 with
    | .str x _=>decide (x=p.2)
    |_=>false)=true->Vals (ws.map V.str) us
 | [],[],_,_=>.nil
 |u::us,w::ws,j,h=>by
  rw[XS,ZG,M_]at h;refine .cons ?_ (jz0 (Nat.succ.inj j) h.2);have o:=h.1;cases u with
  |str x t=>exact⟨t,by rw[of_decide_eq_true o]⟩
  |_=>cases o
 | [],_::_,j,_=>by cases j
 |_::_,[],j,_=>by cases j
theorem yt4{v:A_}{ws:List BR}(h:tpC K v ws=true):∃b,v=.ref b/\TpK K b (ws.map V.str):=by
 unfold tpC at h;cases v with
 |ref b =>
  refine⟨b,rfl,?_⟩;cases r:K.lookup b with
  |none=>simp only[r]at h;cases h
  |some o =>
   simp only[r]at h;cases q:o.data with
   |seq j n=>simp only[q,M_,decide_eq_true_eq]at h;exact⟨o,j,n,r,h.1.1.1,q,by rw[CG];have:=h.1.1.2;omega,jz0 h.1.2 h.2⟩
   |_=>simp only[q]at h;cases h
 |_=>cases h
theorem y_{w:CQ}{K:BZ}:∀{es:List HF}{v:List (BR×List BR)},enC K es v=true->es.map (·.hash)=v.map (λp=>jL w (.inr p.1))->DEs w K es v
 | [],[],_,_=>trivial
 |e::es,p::ps,h,u=>by
  have o:((match e.key with | .str x _=>decide (x=p.1) |_=>false) && tpC K e.val p.2 && enC K es ps)=true:=h;rw[M_,M_]at o;rw[HH,HH]at u;injection u with r q;refine⟨⟨?_,r,yt4 o.1.2⟩,y_ o.2 q⟩;have j:=o.1.1;cases s:e.key with
  |str x t=>rw[s]at j;exact⟨t,by rw[of_decide_eq_true j]⟩
  |_=>rw[s]at j;cases j
 | [],_::_,h,_=>by cases h
 |_::_,[],h,_=>by cases h
def yl5{a:BJ}{o:GR}(h1:W.nsIn K PySem.mainGlobals x=some (some (.ref a)))(s:K.lookup a=some o)(j:frC K a o v=true)(r:(esO o).map (·.hash)=v.map (λp=>jL w (.inr p.1))):FRI w K x v:=by
 unfold frC at j;simp only[M_,decide_eq_true_eq,ZP]at j;obtain⟨⟨⟨⟨⟨⟨H,G⟩,F⟩,q⟩,E⟩,A⟩,z⟩:=j;cases h:o.data with
 |dict es u =>
  have e:esO o=es.toList:=by unfold esO;rw[h]
  exact⟨a,o,es,u,h1,s,⟨H,G,Array.eq_empty_of_size_eq_zero F⟩,h,E,e ▸ y_ A r,z⟩
 |_=>rw[h]at q;cases q
variable {xs:List B_}
section
variable {env:LK}{q:HY}{j:Nat}
def stC{k:Const}:BP (.Constant k j p::es) env=(false,CV (.Constant k j p) env)::BP es env:=rfl
def stN:BP (.Name x p::es) env=(false,CV (.Name x p) env)::BP es env:=rfl
def stT:BP (.Tuple xs j p::es) env=(false,CV (.Tuple xs j p) env)::BP es env:=rfl
def stK{ks:List HN}:BP (.Call a xs ks p::es) env=(false,CV (.Call a xs ks p) env)::BP es env:=rfl
def stB{o:nR}:BP (.BinOp a o b p::es) env=(false,CV (.BinOp a o b p) env)::BP es env:=rfl
def stS:BP (.Subscript a b p::es) env=(false,CV (.Subscript a b p) env)::BP es env:=rfl
def stL:BP (.List xs p::es) env=(false,CV (.List xs p) env)::BP es env:=rfl
end
def dI(f:B_->Option D):List B_->Option (List D)
 | []=>some []
 |e::es=>(f e).bind λd=>(dI f es).map λh=>d::h
def Z1:Nat->B_->Option D
 |0,_=>none
 |n+1,e=>match e with
  | .Constant k _ _=>match k with
   | .str x=>some (.str x)
   | .int i=>some (.int i)
   | .none=>some .non
   |_=>none
  | .Tuple es _ _=>if es.length<=1000 then(dI (Z1 n) es).map .tup else none
  | .List es _=>if es.length<=1000 then(dI (Z1 n) es).map .lst else none
  |_=>none
def PEd.congr{j:Ev->R D}(h:PEd X c l e f)(o:f=j):PEd X c l e j:=o ▸ h
def wn3{d:D}{env:LK}(h:Z1 n e=some d):Zs env e es:=by
 cases n with
 |zero=>cases h
 |succ n=>cases e<;>first |rfl |cases h
theorem sI{X:Cx}{c:DC}{n:Nat}(o:∀e d,Z1 n e=some d->PEd X c .fr e (kd d)):∀(es:List B_)(ds:List D),dI (Z1 n) es=some ds->PAd X c .fr es (λ_=>.ok ds)/\ds.length=es.length
 | [],ds,h=>by cases h;exact⟨an,rfl⟩
 |e::es,ds,h=>by obtain⟨d,q,h⟩:=aD.mp h;obtain⟨j,s,rfl⟩:=bH.mp h;obtain⟨p,r⟩:=sI o es j s;exact⟨ac (o e d q) p (wn3 q),by rw[PQ,r];rfl⟩
theorem qR{X:Cx}{c:DC}:∀(n:Nat)(e:B_)(d:D),Z1 n e=some d->PEd X c .fr e (kd d)
 |0,_,_,h=>by cases h
 |n+1,e,d,h=>by
  cases e with
  |Constant k _ _=>cases k<;>first | (cases h;exact ks) | (cases h;exact ki) | (cases h;exact kn) |cases h
  |Tuple es _ _ =>
   have h:(if es.length<=1000 then(dI (Z1 n) es).map D.tup else none)=some d:=h;by_cases j:es.length<=1000
   ·rw[if_pos j]at h;obtain⟨o,q,rfl⟩:=bH.mp h;obtain⟨p,r⟩:=sI (X:=X) (c:=c) (qR n) es o q;exact PEd.congr (tup p) (funext λρ=>by show R.of (Gz o)=_;unfold Gz;rw[if_pos (by omega)];rfl)
   ·rw[if_neg j]at h;cases h
  |List es _ =>
   have h:(if es.length<=1000 then(dI (Z1 n) es).map D.lst else none)=some d:=h;by_cases j:es.length<=1000
   ·rw[if_pos j]at h;obtain⟨o,q,rfl⟩:=bH.mp h;obtain⟨p,r⟩:=sI (X:=X) (c:=c) (qR n) es o q;exact PEd.congr (lst p) (funext λρ=>by show R.of (Ub o)=_;unfold Ub;rw[if_pos (by omega)];rfl)
   ·rw[if_neg j]at h;cases h
  |_=>cases h
def ZZ{d:D}(h:Z1 4 e=some d):PEd X c .fr e (kd d):=qR 4 e d h
open PySem PySem.Spec PyProof.Rows L2
def hmin(q:BJ)(H:Hp):Hp:=λb=>if b=q then none else H b
variable {q:BJ}{H:Hp}
theorem Va:hmin q H q=none:=if_pos rfl
theorem Xo{b:BJ}(h:b≠q):hmin q H b=H b:=if_neg h
theorem ks0:Ad (hmin q H) H:=λb o e=>by grind [Va,Xo]
theorem we5{H':Hp}{o:HO}(s:Ad (hmin q H) H')(h:H' q=some o):Ad (upd H q o) H':=λb u e=>by
 by_cases j:b=q
 ·grind [Ak]
 ·rw[Ae j]at e;exact s b u (by rw[Xo j];exact e)
def nmA(i:Nat)(ρ:Ev):Option BR:=match ρ[i]? with
 |some (some (.exc c _ _))=>some c
 |_=>none
variable {i:Nat}{ρ:Ev}
theorem kl6{nm:BR}(h:nmA i ρ=some nm):∃ks ws,ρ[i]? = some (some (.exc nm ks ws)):=by unfold nmA at h;grind
variable {ws:List D}
def wx6{nm:BR}{ks:List D}(h:i<ρ.length):nmA i (ρ.set i (some (.exc nm ks ws)))=some nm:=by unfold nmA;rw[YL h]
def d8(c:DC)(nm:BR):Prop:=∀(H:Hp)(t C j q:BJ)(h:List (Key×V)),(nm = "Desk"\/nm=idn t)->Ad c.H0 H->H t=some (.ins C j [("webs",.ref q)])->H q=some (.dK h)->c.H0 q=none
def wy1{c:DC}{nm:BR}(h:gV c.H0):d8 c nm:=λH t C u q j _ s _ r=>by
 cases e:c.H0 q with
 |none=>rfl
 |some o=>have:=s _ _ e;rw[r]at this;cases this;exact absurd e (h q j)
variable {K:BZ}{σ:St}{C:BJ}
theorem Ar.wrN{c:DC}{L:Hp}{t dx:BJ}{aa:List (Key×V)}{kk:List Key}{us:List V}{ks:List D}{S:AS}{nm:BR}(T:c.O=[])(ag:c.H0 q=none)(dk:DkC K C)(E:Ar K c [] ρ σ L)(ah:nm = "Desk"\/nm=idn t)(ab:σ[i]? = some (some (.ref t)))(ht:L t=some (.ins C dx [("webs",.ref q)]))(hq:L q=some (.dK aa))(F:K3 i ρ=true)(ak:ks=kk.map kyD)(hl:kk.length=us.length)(ai:kk.Nodup)(ae:Dt ws=true)(hS:∀o,S o->c.N ρ σ o)(r:Al K L S ws us):
  Ar K c [] (ρ.set i (some (.exc nm ks ws))) σ (upd L q (.dK (kk.zip us))):=by
 have eN:∀(ρ1 A:Ev) o,c.N ρ1 σ o->c.N A σ o:=λρ1 A o ⟨h1,_⟩=>⟨h1,λa _ ⟨j,h,_⟩=>by rw[T]at h;cases h⟩;have af:t≠q:=λz=>by rw[z,hq]at ht;cases ht
 refine⟨λb o e=>?_,by rw[tU];exact E.len,(λj d h=>by rw[T]at h;cases h),(λj k a h=>by rw[T]at h;cases h),λj d h u=>?_,(λP hp=>by cases hp),λa ha=>?_⟩
 ·rw[Ae (λz=>by rw[z,ag]at e;cases e)];exact E.same _ _ e
 ·by_cases s:j=i
  ·subst s;have aj:j<ρ.length:=by have:=(NB.mp u).1;simp_all
   rw[YL aj]at u;cases u;refine⟨.ref t,ab,t,us,rfl,.inr (.inr ⟨ah,C,dx,q,kk,dk.at_,ak,hl,ai,by rw[Ae af];exact ht,Ak⟩),?_⟩;exact Mh hq ws us ae (r.mono (Ad.refl _) λo z=>eN _ _ o (hS o z))
  ·rw[QT (Ne.symm s)]at u;obtain⟨v,e1,e2⟩:=E.oth j d (by rw[T];simp) u;exact⟨v,e1,(Xw hq d v (Vm F s u) e2).mono (Ad.refl _) λo z=>eN _ _ o z⟩
 ·by_cases G:a=q
  ·subst G;rw[Ak];intro z;cases z
  ·rw[Ae G];exact E.excl a ha
def Ar.dkAt{c:DC}{nm:BR}{ks:List D}(E:Ar K c [] ρ σ H)(A:c.O=[])(dk:DkC K C)(z:ρ[i]? = some (some (.exc nm ks ws)))(u:dkN nm=true):
  ∃(t o q:BJ)(kk:List Key)(vs:List V),σ[i]? = some (some (.ref t))/\(nm = "Desk"\/nm=idn t)/\H t=some (.ins C o [("webs",.ref q)])/\H q=some (.dK (kk.zip vs))/\ks=kk.map kyD/\kk.length=vs.length/\kk.Nodup/\Al K H (c.N ρ σ) ws vs:=by
 obtain⟨v,h,t,vs,rfl,r,s⟩:=E.oth i _ (by rw[A];simp) z;obtain⟨j,C',o,w,kk,I,U,T,L,G,F⟩:=r.dsk u;rw[dk.at_]at I;cases I;exact⟨t,o,w,kk,vs,h,j,G,F,U,T,L,s⟩
def wrN(i:Nat)(f:Ev->R D)(m:List D->R D):Ev->R Ev:=λρ=>match ρ[i]? with
 |some (some (.exc c ks ws))=>if dkN c=true then(f ρ).bind λrow=>(wrM m ks ws row).bind λr=>if K3 i ρ=true/\Dt r.2=true then .ok (ρ.set i (some (.exc c r.1 r.2))) else .bad else .bad
 |_=>.bad
def tWN(K:BZ)(c:DC)(i:Nat)(nm:BR)(f:Ev->R Ev):TE:=λσ H Q=>∃ρ,Ar K c [] ρ σ H/\nmA i ρ=some nm/\RQ (f ρ) (λh=>∀j,Ar K c [] h σ j->nmA i h=some nm->Q (.str "ok") j) (λ_=>False)
variable {X:Cx}{c:DC}{f:Ev->R D}{e:B_}{m:List D->R D}{l:Lv}{p pos:HY}{x y:BR}
section
variable {a b:B_}{rest:List B_}{apos:HY}{nm:BR}{k:Nat}{ps:List BR}
def wY{pl:Sem Bool}(i:Nat)(F:MtW X.prog X.w X.K X.mg X.base k x ps m)(ao:d8 c nm)(hr:Ed k X.A)(ha:PEd X c .no e f)(hO:c.O=[]:=by rfl)(hN:X.N[i]? = some y:=by rfl)(hv:Vis X.env.scope y:=by first |exact Or.inl rfl |exact Or.inr (Or.inl rfl) |exact Or.inr (Or.inr rfl))(hd:Zd y:=by decide)
  (ak:(y == ("__classdict__" : BR))=false:=by decide)(ab:BP [e] X.env=(false,CV e X.env)::BP [] X.env:=by rfl)(ag:Zp X.env pos []:=by rfl)
  (ht:CV (.Call (.Attribute (.Name y p) x apos) [e] [] pos) X.env=(do
   let ov <-CV (.Name y p) X.env
   SN apos.atName
   let (f,first) <-QV [ov] (QB ov x pl)
   ZS pos f first (IK pos (BP [e] X.env)) (JC pos (GF [] X.env))):=by rfl):
  PE X (.Call (.Attribute (.Name y p) x apos) [e] [] pos) (tWN X.K c i nm (wrN i f m)):=by
 obtain⟨C,g,fd,dk,hm,hw,F,hb⟩:=F;refine PE.imp (rJ (pl:=pl) (E:=λ_ _ _=>False) (pv i hN hv hd ak) dk.cls hm F hr hb .nil (λ_ _ _ _ _ _ _ z=>z.elim) (Eb ha Jf ab) ab ag ht) λσ H Q q=>?_;obtain⟨ρ,E,ah,q⟩:=q;obtain⟨ks,ws,u⟩:=kl6 ah;unfold wrN at q;rw[u]at q;by_cases G:dkN nm=true
 case neg=>have q:RQ (if dkN nm=true then _ else R.bad) _ _:=q;rw[if_neg G]at q;exact q.elim
 have q:RQ (if dkN nm=true then(f ρ).bind λrow=>(wrM m ks ws row).bind λr=>if K3 i ρ=true/\Dt r.2=true then R.ok (ρ.set i (some (.exc nm r.1 r.2))) else .bad else .bad) _ _:=q;rw[if_pos G]at q;obtain⟨t,dx,w,kk,vs,aa,ae,h1,h2,h3,h4,h5,rr⟩:=E.dkAt hO dk u G;refine⟨.ref t,aa,t,dx,_,rfl,h1,oZ hw,?_⟩;refine Aq (l:=.no) E ((RQ.bind.mp q).mono (λrow T vr H1 L E1 r1=>?_) λ_ z=>z.elim);obtain⟨r,af,T⟩:=zT (RQ.bind.mp T);refine⟨rfl,c.N ρ σ,ks,ws,row,t,vr,rfl,⟨t,vs,rfl,.inr (.inr ⟨.inr rfl,C,dx,w,kk,dk.at_,h3,h4,h5,L _ _ h1,L _ _ h2⟩),rr.mono L λ_ z=>z⟩,r1,?_⟩;rw[af t];intro H2 C' ay w' ax au aw ar ed sm s aj hl ai rws;injection ed with _ ek ew;have j:=L _ _ h1;rw[s]at j;cases j;by_cases h:K3 i ρ=true/\Dt r.2=true
 ·rw[if_pos h]at T;have E2:=E1.mono sm;have hi:i<ρ.length:=(NB.mp u).1;refine T _ (Ar.wrN hO (ao H2 t C dx w _ ae E2.same (sm _ _ s) (sm _ _ (L _ _ h2))) dk E2 ae aa (sm _ _ s) (sm _ _ (L _ _ h2)) h.1 (ek.trans aj) hl ai h.2 (λo z=>?_) (ew ▸ rws)) (wx6 hi);rcases z with z |z
  ·exact z
  ·exact E1.freshN z
 ·rw[if_neg h]at T;exact T.elim
def tTN(K:BZ)(c:DC)(i:Nat)(nm:BR)(f:Ev->R Ev):TT:=λσ H Q=>∃ρ,Ar K c [] ρ σ H/\nmA i ρ=some nm/\RQ (f ρ) (λr=>∀h,Ar K c [] r σ h->nmA i r=some nm->Q false h) (λ_=>False)
def orN(t u:Ev->R Ev):Ev->R Ev:=λρ=>(t ρ).bind u
def uW{j pk}(G:X.A.units+70<FW){f:Ev->R Ev}(h:PE X e (tWN X.K c i nm f)):PT X (.Compare e [.NotEq] [.Constant (.str "ok") j pk] pos) (tTN X.K c i nm f):=
 PT.imp (rG (jJ G) h lF (Nh _)) λσ H Q q=>by
 obtain⟨ρ,E,L,q⟩:=q;refine⟨ρ,E,L,q.mono (λr F H' T o=>?_) λ_ z=>z⟩;refine⟨λ_=>True,.str "ok",.str "ok",.bl false,rfl,rfl,?_,λz O s u=>⟨false,u,F O (T.mono s) o⟩⟩;kernel_rfl
def zh5{t:Ev->R Ev}(h:PT X a (tTN X.K c i nm t)):PW X (.BoolOp .Or [a] pos) (tTN X.K c i nm t):=pY h
def zq6{t u:Ev->R Ev}(A:PT X a (tTN X.K c i nm t))(s:PW X (.BoolOp .Or (b::rest) pos) (tTN X.K c i nm u)):PW X (.BoolOp .Or (a::b::rest) pos) (tTN X.K c i nm (orN t u)):=PW.imp (oY A s) λσ H Q q=>by obtain⟨ρ,E,o,q⟩:=q;exact⟨ρ,E,o,(RQ.bind.mp q).mono (λr j G F h=>by show(if false=true then _ else _);rw[if_neg (by decide)];exact⟨r,F,h,j⟩) λ_ z=>z⟩
end
def tA(K:BZ)(c:DC)(i:Nat)(nm:BR)(g:Ev->R (D×Ev)):TS:=λo σ H=>∃ρ,Ar K c [] ρ σ H/\nmA i ρ=some nm/\RQ (g ρ) (λr=>∀v h j,Ar K c [] r.2 h j->nmA i r.2=some nm->Rep K j c.S r.1 v->o.rt v j) (λ_=>False)
def dG(f:Ev->R D):Ev->R (D×Ev):=λρ=>(f ρ).nox.bind λd=>.ok (d,ρ)
def sqA(i:Nat)(I:Ev->R Fl)(U:Ev->R (D×Ev)):Ev->R (D×Ev):=λρ=>(I ρ).nox.bind λj=>match j with
 | .nx h=>if nmA i h=nmA i ρ then U h else .bad
 |_=>.bad
def ifA(t:Ev->R Bool)(f:Ev->R D)(g:Ev->R (D×Ev)):Ev->R (D×Ev):=λρ=>(t ρ).nox.bind λb=>if b then dG f ρ else g ρ
def sqN(t:Ev->R Ev)(g:Ev->R (D×Ev)):Ev->R (D×Ev):=λρ=>(t ρ).bind g
variable {M:HY}{st:CT}
section
variable {d:B_}{h o:List CT}{nm:BR}{i:Nat}{t:Ev->R Bool}{tw:Ev->R Ev}{j:Ev->R Fl}{g:Ev->R (D×Ev)}
def zj2(u:PEd X c .any e f):PSs X [.Return (some e) pos] (tA X.K c i nm (dG f)):=PSs.imp (Qx (Z6 u)) λL σ H q=>by obtain⟨ρ,E,s,q⟩:=q;obtain⟨v,z,q⟩:=RQ.nox (RQ.bind.mp q);refine Aq (l:=.any) E ?_;rw[z];exact λv A G F r=>q v σ A F s r
def asc(h1:PSd X c st j)(A:PSs X h (tA X.K c i nm g)):PSs X (st::h) (tA X.K c i nm (sqA i j g)):=PSs.imp (Gu h1 A) λT σ H q=>by
 obtain⟨ρ,E,z,q⟩:=q;obtain⟨F,G,q⟩:=RQ.nox (RQ.bind.mp q);refine⟨[],ρ,E,?_⟩;rw[G];cases F with
 |nx r =>
  have q:RQ (if nmA i r=nmA i ρ then g r else R.bad) _ _:=q;by_cases s:nmA i r=nmA i ρ
  ·rw[if_pos s]at q;exact λu O L=>⟨r,L,s.trans z,q⟩
  ·rw[if_neg s]at q;exact q.elim
 |_=>exact(q:False).elim
def aif(z:PTd X c d t)(A:PEd X c .any e f)(F:PSs X h (tA X.K c i nm g)):PSs X (.If d [.Return (some e) pos] [] M::h) (tA X.K c i nm (ifA t f g)):=
 PSs.imp (Gu (gZ z (Qx (Z6 A)) Xv) F) λDe σ H q=>by
 obtain⟨ρ,E,r,q⟩:=q;obtain⟨b,L,q⟩:=RQ.nox (RQ.bind.mp q);refine Fd E ?_;rw[L];intro H1 s1 s;cases b with
 |true=>rw[if_pos rfl]at q ⊢;obtain⟨v,G,q⟩:=RQ.nox (RQ.bind.mp q);refine Aq (l:=.any) s ?_;rw[G];exact λv O s2 T u=>q v σ O T r u
 |false=>rw[if_neg (by decide)]at q ⊢;exact⟨ρ,s,r,q⟩
def zj3(A:PT X d (tTN X.K c i nm tw))(G:PSs X h (tA X.K c i nm g)):PSs X (.If d o [] M::h) (tA X.K c i nm (sqN tw g)):=
 PSs.imp (Gu (gZ (t:=λ_ _ _=>False) A (λ_ _ _ _ _ _ z=>z.elim) Xv) G) λT σ H q=>by
 obtain⟨ρ,E,F,q⟩:=q;exact⟨ρ,E,F,(RQ.bind.mp q).mono (λr u O L s=>by show(if false=true then _ else _);rw[if_neg (by decide)];exact⟨r,L,s,u⟩) λ_ z=>z⟩
end
def spA(K:BZ)(n:Nat)(m:List D->R D):Sp:=λj H Q _=>j.length=n/\∃S ks ws h t o,j=.ref t::o/\Rep K H S (.exc (idn t) ks ws) (.ref t)/\Al K H S h o /\
 RQ (m (.exc (idn t) ks ws::h)) (λr=>∀(d:D)(ks' ws':List D)(v:V)(H':Hp)(C s q:BJ)(kk:List Key)(us:List V),r=.tup [d,.exc (idn t) ks' ws']->H t=some (.ins C s [("webs",.ref q)])->Ad (upd H q (.dK (kk.zip us))) H'->ks'=kk.map kyD->kk.length=us.length->kk.Nodup->Al K H' (AS.plus S (hmin q H)) ws' us->Rep K H' (AS.plus S (hmin q H)) d v->Q v H') (λ_=>False)
def gJ(n:Nat)(g:Ev->R (D×Ev)):List D->R D:=λh=>(g (Aa n h)).bind λr=>match r.2[0]? with
 |some (some j)=>.ok (.tup [r.1,j])
 |_=>.bad
theorem Ar.low{A:Hp}{u:AS}{Z:List BJ}(E:Ar K ⟨A,u,[],Dq,Z⟩ [] ρ σ H):Ar K ⟨hmin q A,u,[],Dq,Z⟩ [] ρ σ H:=by refine⟨ks0.trans E.same,E.len,(λi d s=>by cases s),(λi j a s=>by cases s),λj d r G=>?_,(λP F=>by cases F),E.excl⟩;obtain⟨v,O,L⟩:=E.oth j d r G;refine⟨v,O,L.mono (Ad.refl _) λo z=>⟨z.1.elim .inl λ⟨a,e,h,n⟩=>.inr ⟨a,e,?_,n⟩,λa _ ⟨j,r,_⟩=>by cases r⟩⟩;grind [Va,Xo]
variable {P:BW}{mg:BR->Option A_}{base:CP}{qual:BR}{fd:DX}
theorem yl2{w:CQ}{f:BJ}{N ps:List BR}{k:Nat}{g:Ev->R (D×Ev)}(F:Fun K x qual st f fd)(S:Bt N ps (Ag st))(dk:DkC K C)
  (L:∀(cdv:A_)(A:D_)(j:List LK)(s:BK)(H Hm:Hp)(E:XK)(O:AS)(nm:BR),d8 ⟨Hm,O,[],Dq,[]⟩ nm->Ed k (A.deeper (HJ qual (Ag st) s.heap.objs.size f cdv))->(A.deeper (HJ qual (Ag st) s.heap.objs.size f cdv)).units+70<FW ->
   PSs (W7 CX0 P w K mg base N qual (Ag st) f cdv A j s H E).nox (Br st) (tA K ⟨Hm,O,[],Dq,[]⟩ 0 nm g)):
  Ec P w K mg base CX0 (k+1) f fd ps (spA K ps.length (gJ N.length g)):=by
 refine F.ok S (λvs H Q E h=>h.1) (λcdv A j s H vs Q E hr h=>?_);obtain⟨hl,O,ks,ws,u,t,vr,rfl,rd,rr,q⟩:=h;obtain⟨t2,ar,e2,xx,au⟩:=id rd;cases e2;obtain⟨_,C',dx,G,kk,I,U,g3,g4,g5,g6⟩:=xx.dsk (Oz (.inr rfl));rw[dk.at_]at I;cases I;have ag:t≠G:=λz=>by rw[z,g6]at g5;cases g5
 have ai:∀{H':Hp},Ad (hmin G H) H'->H' t=some (.ins C dx [("webs",.ref G)]):=λs=>s _ _ (by rw[Xo ag];exact g5);have off:d8 ⟨hmin G H,O,[],Dq,[]⟩ (idn t):=λH' t' C' ak q' aw hn s hi hq=>by
  have et:t=t':=by
   rcases hn with z |z
   ·exact absurd (show(1:Nat)=4 from congrArg (λc:BR=>c.cps.size) z) (by decide)
   ·exact rT z
  grind [Va]
 refine⟨_,L cdv A j s H (hmin G H) E O (idn t) off hr (by have:=hr.un;lia),Aa N.length (.exc (idn t) ks ws::u),Ar.low (Qp ⟨_,_,rfl,rd,rr⟩ (λi hi=>by cases hi)),rfl,?_⟩;have q:RQ ((g (Aa N.length (.exc (idn t) ks ws::u))).bind λr=>match r.2[(0:Nat)]? with |some (some d')=>R.ok (D.tup [r.1,d']) |_=>.bad) _ _:=q;refine(RQ.bind.mp q).mono (λr z v ao H' E' ah rv=>?_) λ_ z=>z;obtain⟨ae,aa,T⟩:=kl6 ah;rw[T]at z;obtain⟨t',ak,q',af,ab,ax,aj,h1,h2,h3,h4,h5,h6⟩:=E'.dkAt rfl dk T (Oz (.inr rfl));have et:t=t':=by
  rcases aj with z |z
  ·exact absurd (show(1:Nat)=4 from congrArg (λc:BR=>c.cps.size) z) (by decide)
  ·exact rT z
 subst et;rw[ai E'.same]at h1;cases h1;have pl:∀o,(⟨hmin G H,O,[],Dq,[]⟩:DC).S o->AS.plus O (hmin G H) o:=λo z=>z.elim .inl λ⟨a,e1,e2,_⟩=>.inr ⟨a,e1,e2⟩;exact z r.1 ae aa v H' C dx G af ab rfl g5 (we5 E'.same h2) h3 h4 h5 (h6.mono (Ad.refl _) λo z=>pl o z.1) (rv.mono (Ad.refl _) pl)
open Classical in
def wrA(m:List D->R D)(ks ws rest:List D):R (D×List D×List D):=if h:∃p:D×List D×List D,∀t,m (.exc (idn t) ks ws::rest)=.ok (.tup [p.1,.exc (idn t) p.2.1 p.2.2]) then .ok (jHc h) else .bad
variable {rest:List D}
theorem yd5{ks:List D}{q:D×List D×List D->Prop}{e:D->Prop}(h:RQ (wrA m ks ws rest) q e):∃p:D×List D×List D,(∀t,m (.exc (idn t) ks ws::rest)=.ok (.tup [p.1,.exc (idn t) p.2.1 p.2.2]))/\q p:=by
 unfold wrA at h;split at h
 ·exact⟨_,mY ‹_›,h⟩
 ·exact h.elim
theorem yu8{ks ks' ws':List D}{d:D}(h:∀t,m (.exc (idn t) ks ws::rest)=.ok (.tup [d,.exc (idn t) ks' ws'])):wrA m ks ws rest=.ok (d,ks',ws'):=by unfold wrA;have j:∃p:D×List D×List D,∀t,m (.exc (idn t) ks ws::rest)=.ok (.tup [p.1,.exc (idn t) p.2.1 p.2.2]):=⟨(d,ks',ws'),h⟩;rw[dif_pos j];have:=(mY j 0).symm.trans (h 0);grind
def zm2:D->Option Bool
 | .bl b=>some b
 |_=>none
def clA(i:Nat)(fs:Ev->R (List D))(m:List D->R D):Ev->R (Bool×Ev):=λρ=>match ρ[i]? with
 |some (some (.exc c ks ws))=>if dkN c=true then(fs ρ).nox.bind λrest=>(wrA m ks ws rest).bind λr=>match zm2 r.1 with
   |some b=>if K3 i ρ=true/\Ft r.2.2=true then .ok (b,ρ.set i (some (.exc c r.2.1 r.2.2))) else .bad
   |none=>.bad
  else .bad
 |_=>.bad
def KpL(H H':Hp):Prop:=∀b h,H b=some (.lst h)->H' b=some (.lst h)
def tEA(K:BZ)(c:DC)(f:Ev->R (Bool×Ev)):TE:=λσ H Q=>∃ρ,Ar K c [] ρ σ H/\RQ (f ρ) (λr=>∀h,KpL H h->Ar K c [] r.2 σ h->Q (.bl r.1) h) (λ_=>False)
def FnA(P:BW)(w:CQ)(K:BZ)(mg:BR->Option A_)(base:CP)(k:Nat)(x:BR)(ps:List BR)(n:Nat)(m:List D->R D):Prop:=
 ∃(f:BJ)(fd:DX),Ec P w K mg base CX0 k f fd ps (spA K n m)/\mg x=some (.ref f)/\W.keepIn K (.ref f)=true/\Binds K fd ps []
variable {es:List B_}{n:Nat}
section
variable {s:B_}{fs:Ev->R (List D)}{p1:HY}{k:Nat}{ps:List BR}
theorem yw2(i:Nat)(F:FnA X.prog X.w X.K X.mg X.base k x ps n m)(bo:HDk X.K)(bj:∀nm,d8 c nm)(hr:Ed k X.A)(ha:PAd X c .no (s::es) fs)(hn:(s::es).length+1=n:=by rfl)(hO:c.O=[]:=by rfl)(hN:X.N[i]? = some y:=by rfl)(hv:Vis X.env.scope y:=by first |exact Or.inl rfl |exact Or.inr (Or.inl rfl) |exact Or.inr (Or.inr rfl))(hd:Zd y:=by decide)
  (bh:(y == ("__classdict__" : BR))=false:=by decide)(hg:Gl X x:=by rfl)(bg:Zd x:=by decide)(ak:BP (.Name y p1::s::es) X.env=(false,CV (.Name y p1) X.env)::BP (s::es) X.env:=by rfl)(ba:(IK pos (BP (s::es) X.env)).any (·.1)=false:=by rfl):
  PE X (.Call (.Name x p) (.Name y p1::s::es) [] pos) (tEA X.K c (clA i fs m)):=by
 obtain⟨f,fd,F,hm,hk,hb⟩:=F;obtain⟨C,dk⟩:=bo;refine PE.imp (kl9 (E:=λ_ _ _=>False) F hr hg hm hk hb .nil (λ_ _ _ _ _ _ _ z=>z.elim) (Eb (pv i hN hv hd bh) ha ak) bg ak ba) λσ H Q q=>?_;obtain⟨ρ,E,q⟩:=q;unfold clA at q;split at q
 case h_2=>exact q.elim
 rename_i nm ks ws ao;by_cases ah:dkN nm=true
 case neg=>rw[if_neg ah]at q;exact q.elim
 rw[if_pos ah]at q;obtain⟨t,dx,w,kk,vs,aj,ar,h1,h2,h3,h4,h5,rr⟩:=E.dkAt hO dk ao ah;obtain⟨rest,er,q⟩:=RQ.nox (RQ.bind.mp q);obtain⟨r,ay,q⟩:=yd5 (RQ.bind.mp q);split at q
 case h_2=>exact q.elim
 rename_i b aa;have ed:r.1=.bl b:=by
  cases h:r.1 with
  |bl b'=>rw[h]at aa;cases aa;rfl
  |_=>rw[h]at aa;cases aa
 by_cases G:K3 i ρ=true/\Ft r.2.2=true
 case neg=>rw[if_neg G]at q;exact q.elim
 rw[if_pos G]at q;refine⟨.ref t,aj,Ck (l:=.no) E ?_⟩;rw[er];intro vr H1 s1 E1 r1 hl;refine⟨?_,c.N ρ σ,ks,ws,rest,t,vr,by rw[aB],⟨t,vs,rfl,.inr (.inr ⟨.inr rfl,C,dx,w,kk,dk.at_,h3,h4,h5,s1 _ _ h1,s1 _ _ h2⟩),rr.mono s1 λ_ z=>z⟩,r1,?_⟩
 ·rw[aB,PQ,<-r1.length,hl,hn]
 rw[ay t];intro d br bp v H' C' bt q' ae ab ee u sm bf bc bb rws rv;injection ee with ee;injection ee with a1 ee;injection ee with ee _;injection ee with _ a2 a3;have L:=s1 _ _ h1;rw[u]at L;cases L;rw[<-a1,ed]at rv;cases(show v=.bl b from rv);have af:=s1 _ _ h2;have hi:i<ρ.length:=(NB.mp ao).1;have az:=bj nm H1 t C dx w _ ar E1.same u af;have E2:Ar X.K c [] (ρ.set i (some (.exc nm r.2.1 r.2.2))) σ H':=by
  have eN:∀(ρ1 ai:Ev) o,c.N ρ1 σ o->c.N ai σ o:=λρ1 ai o ⟨h1,_⟩=>⟨h1,λa _ ⟨j,T,_⟩=>by rw[hO]at T;cases T⟩;have ax:t≠w:=λz=>by rw[z,af]at u;cases u
  have aw:Ad c.H0 H':=λb o e=>sm b o (by rw[Ae (λz=>by rw[z,az]at e;cases e)];exact E1.same _ _ e);refine⟨aw,by rw[tU];exact E.len,(λj d T=>by rw[hO]at T;cases T),(λj k a T=>by rw[hO]at T;cases T),λj d T hd=>?_,(λP hp=>by cases hp),λa ha=>?_⟩
  ·by_cases ag:j=i
   ·subst ag;rw[YL hi]at hd;cases hd;refine⟨.ref t,aj,t,ab,rfl,.inr (.inr ⟨ar,C,dx,w,ae,dk.at_,a2.trans bf,bc,bb,sm _ _ (by rw[Ae ax];exact u),sm _ _ Ak⟩),?_⟩;grind [Ui]
   ·rw[QT (Ne.symm ag)]at hd;obtain⟨v,e1,s⟩:=E1.oth j d (by rw[hO];simp) hd;exact⟨v,e1,(Xw af d v (Vm G.1 ag hd) s).mono sm λo z=>eN _ _ o z⟩
  ·intro z;have:=E1.excl a ha;cases e:H1 a with
   |none=>exact this e
   |some o =>
    by_cases au:a=w
    ·subst au;have:=sm _ _ (Ak (H:=H1) (o:=.dK (ae.zip ab)));rw[z]at this;cases this
    ·have:=sm _ _ (show upd H1 w (.dK (ae.zip ab)) a=some o by rw[Ae au];exact e);rw[z]at this;cases this
 refine q H' (λb' bq hb=>sm _ _ ?_) E2;rw[Ae (λz=>by rw[z,h2]at hb;cases hb)];exact s1 _ _ hb
end
def W6(g:D->Ev->R Ev)(f:Ev->R (Bool×Ev)):List D->Ev->R (List Bool)
 | [],_=>.ok []
 |d::ds,ρ=>(g d ρ).bind λh=>(f h).bind λr=>(W6 g f ds r.2).bind λbs=>.ok (r.1::bs)
theorem jw5{K:BZ}{H:Hp}{S:AS}:∀bs:List Bool,Al K H S (bs.map .bl) (bs.map V.bl)
 | []=>rfl
 |b::bs=>⟨_,_,rfl,rfl,jw5 bs⟩
abbrev trP:Hd:=λ_ _=>True
inductive CW(Y:Cx)(c':DC)(tn:Nat->CP->Prop)(fp:List BJ)(a:BJ)(ds:List D)(bs:List Bool)(g:D->Ev->R Ev)(f:Ev->R (Bool×Ev))(k:Nat)(s:BK):Prop
 |mk (i:Nat) (σ:St) (H:Hp) (ρ:Ev) (acc ys:List Bool) (I:Inv Y [] σ H s) (st:tn i s.heap) (fr:∀b∈fp,H b=none) (hk:k=ds.length - i) (hi:i<=ds.length) (E:Ar Y.K c' [] ρ σ H)
   (hv:H a=some (.lst (acc.map V.bl)))(ec:W6 g f (ds.drop i) ρ=.ok ys)(ea:acc++ys=bs):CW Y c' tn fp a ds bs g f k s
variable {g:D->Ev->R Ev}{L F tg:B_}{scope:JH}
section
variable {f:Ev->R (Bool×Ev)}
theorem kb0{Y:Cx}{c':DC}{tn:Nat->CP->Prop}{J:It}{fp:List BJ}{it a:BJ}{j:Ev}{aa:St}{z:Hp}{ds:List D}{bs:List Bool}{Rn:YG->BK->Prop}(hx:Y.xe=cNo)(hc:Y.calm=true)
  (hg:PGd Y c' tg g)(he:PE Y L (tEA Y.K c' f))(hO:c'.O=[])(h0:c'.H0 a=none)(hn:¬ c'.S (some a))
  (ab:∀{H':Hp}{ao:St}{bh:BK},Inv Y [] ao H' bh->(∀b∈fp,H' b=none)->∀b∈fp,Q5 Y [] H' b)
  (Tn:Turn Y.prog Y.w Y.K tg J fp it tn)(TD:ItD Y.K J ds trP)(ex:W6 g f ds j=.ok bs)(hz:bs.length<=16777216)
  (br:∀s H σ,Inv Y [] σ H s->Ad c'.H0 H->H a=some (.lst (bs.map V.bl))->Rn (.ok .next) s)
  (E0:Ar Y.K c' [] j aa z)(ha:z a=some (.lst []))(f0:∀b∈fp,z b=none){s4:BK}(J4:Inv Y [] aa z s4)(bf:tn 0 s4.heap):
  JS (BV Y.prog Y.w) Y.A (.compLoop (.ListComp L [⟨tg,F,[],0⟩] scope pos) 0 (.ref it) (.ref a) Y.env) Rn s4:=by
 refine V5 (CW Y c' tn fp a ds bs g f) ?_ ds.length (.mk 0 _ _ j [] bs J4 bf f0 rfl (RX _) E0 ha ex rfl);intro n s5 q;refine nn λhG=>?_;obtain⟨i,G,H5,ag,acc,ys,I5,aw,bb,hk,cb,E5,ba,ec,ea⟩:=q;by_cases ae:i<ds.length
 ·rw[fO ae,W6]at ec;obtain⟨ah,eg,ec⟩:=Dy ec;obtain⟨r,ef,ec⟩:=Dy ec;obtain⟨au,ey,ec⟩:=Dy ec;cases ec;refine hG (thx (E:=cNo) rfl (Tn.item Y rfl rfl rfl hc i [] s5 G H5 cNo I5 (ab I5 bb) aw (TD.go i H5 (λ_=>True) ae trivial)) λr6 s6 q=>?_);clear hG;obtain⟨u,hr,h6⟩:=q;subst hr;refine thn h6 λ_ s7 q=>?_;refine nn λhG=>?_;obtain⟨x,H7,I7,r7,y7,ai,bq⟩:=q;obtain⟨ay,_⟩:=TD.yld i H5 (c'.N ag G) x H7 trivial y7;have az:=(TD.yld i H5 (c'.N ag G) x H7 trivial y7).2 ds[i] (LR ae);have bt:=I7.pinned (ab I7 bq) (Tn.obj _ _ ai);have aj:∀{ar:St}{H':Hp}{s':BK},Inv Y ([]++Vn fp s7.heap) ar H' s'->tn (i+1) s'.heap/\∀b∈fp,H' b=none:=λ{ar H' s'} J=>by refine⟨Tn.keep _ _ _ ai λb hb o e=>(J.pin (b,o) (UJ _ (UJ _ (Hf hb e)))).1,λb hb=>?_⟩;obtain⟨o,e,_⟩:=Tn.obj _ _ ai b hb;exact(J.pin (b,o) (UJ _ (UJ _ (Hf hb e)))).2.1
  refine hG (thx hx (hg _ s7 G H7 x u (λh H8=>H8=H7/\Ar Y.K c' [] ah h H8) bt r7 ⟨[],ag,ds[i],E5.mono ay,az,by rw[eg];exact λh E8=>⟨rfl,E8⟩⟩) λ_ s8 q=>?_);clear hG;obtain⟨h,H8,I8,rfl,E8⟩:=q;have bo:=ay _ _ ba;refine thx hx (ti0 (c:=c') _ s8 h _ (λk' H9=>k'=true/\Ad _ H9) I8 ⟨[],ah,E8,λH9 s9=>⟨rfl,s9⟩⟩) λk' s9 q=>?_;obtain⟨H9,I9,bp,ax⟩:=q;subst bp;refine thx hx (he _ s9 h H9 (λy T=>y=.bl r.1/\T a=some (.lst (acc.map V.bl))/\Ar Y.K c' [] r.2 h T) I9 ⟨ah,E8.mono ax,by rw[ef];exact λT kp ak=>⟨rfl,kp _ _ (ax _ _ bo),ak⟩⟩) λw bg q=>?_;refine nn λhG=>?_;obtain⟨y,T,bu,bj,rfl,af,ak⟩:=q;have bx:bs.length=acc.length+(au.length+1):=by rw[<-ea];simp
  refine hG (thx hx (Vl _ bg h T (.ref a) [.bl r.1] (.ref a) [w] (λ_ H'=>H'=upd T a (.lst (acc.map V.bl++[.bl r.1]))) bu rfl (.cons bj .nil) ⟨a,_,.bl r.1,rfl,rfl,af,by rw[CG,GQ];lia,rfl⟩) λ_ bw q=>?_);clear hG;obtain⟨_,_,bc,_,rfl⟩:=q;obtain⟨q1,q2⟩:=aj bc;exact⟨ds.length - (i+1),hk ▸ uI _ _ ae,.mk (i+1) h _ r.2 (acc++[r.1]) au bc.unpinned q1 q2 rfl ae (ak.wrZ hO h0 hn af) (by rw[N_];exact Ak) ey (by rw[<-ea,t_];rfl)⟩
 ·have e:ds.drop i=[]:=fM (by lia);rw[e,W6]at ec;cases ec;rw[aB]at ea;subst ea;refine hG (thx (E:=cNo) rfl (Tn.done Y rfl rfl rfl hc i [] s5 G H5 cNo I5 (ab I5 bb) aw (TD.stop i H5 (λ_=>True) (by lia) trivial)) λr s6 q=>?_);obtain⟨rfl,I6⟩:=q;exact br s6 H5 G I6 E5.same ba
end
section
variable {T:List BR}{caps:List Nat}{cpos j:HY}{f:Ev->R (Bool×Ev)}{h:Ev->R (List D)}
def tIW(K:BZ)(c:DC)(f:Ev->R (List D)):TI:=λσ H Q=>∃ρ,Ar K c [] ρ σ H/\RQ (f ρ) (λr=>∀J o,Ad H o->ItD K J r trP->Q J o) (λ_=>False)
def yz8{a:B_}{fs:Ev->R (List D)}(hm:X.mg "range" = none)(ha:PAd X c .no [a] fs)(s:Gl X "range":=by rfl)(r:BP [a] X.env=[(false,CV a X.env)]:=by rfl):PI X tg (.Call (.Name "range" p) [a] [] M) (tIW X.K c (λρ=>(itR cI fs ρ).nox)):=
 PI.imp (jh9 s hm ha r) λσ H Q q=>by
 obtain⟨ρ,E,q⟩:=q;obtain⟨ds,o,q⟩:=RQ.nox q;obtain⟨xs,ex,o⟩:=Dy o;refine Ck (l:=.no) E ?_;rw[ex];intro vs H1 A E1 O aa;cases e:cI xs with
 |none=>rw[e]at o;cases o
 |some es =>
  rw[e]at o;cases o;obtain⟨z,rfl⟩:=inv1 e rfl (λx _ _=>by cases x<;>rfl);cases z with
  |int j=>obtain⟨u,rfl⟩:=Bg e;obtain⟨v,rfl,G⟩:=O.one;cases(show v=.int j from G);exact⟨j,rfl,u.1,u.2,q _ H1 A kl2⟩
  |_=>exact nos e
def alR(h:Ev->R (List D))(n:Nat)(caps:List Nat)(g:D->Ev->R Ev)(f:Ev->R (Bool×Ev)):Ev->R Fl:=λρ=>(h ρ).nox.bind λo=>(W6 g f o (Et n caps ρ)).nox.bind λbs=>if bs.length<=16777216 then .ok (.rt (.bl (bs.all id))) else .bad
theorem yw6(ar:K9 scope X.env.scope X.N caps=true)(hc:X.calm=true)(hi:PI X tg F (tIW X.K c h))(hO:c.O=[])
  (hg:∀(C:BJ)(s:BK)(H:Hp)(ex:List BJ)(S0:AS)(Z:List BJ),PGd (cxB X (Dw X T caps) scope C s H ex) ⟨c.H0,S0,[],Dq,Z⟩ tg g)
  (he:∀(C:BJ)(s:BK)(H:Hp)(ex:List BJ)(S0:AS)(Z:List BJ),PE (cxB X (Dw X T caps) scope C s H ex) L (tEA X.K ⟨c.H0,S0,[],Dq,Z⟩ f))(aj:Ow c.O .no caps=true)(hs:∀x,E_ F X.env x=pure x):
  PE X (.ListComp L [⟨tg,F,[],0⟩] scope pos) (λσ H Q=>∃ρ,Ar X.K c [] ρ σ H/\∃ds bs,h ρ=.ok ds/\W6 g f ds (Et T.length caps ρ)=.ok bs/\bs.length<=16777216/\∀a H',Ad c.H0 H'->H' a=some (.lst (bs.map V.bl))->Q (.ref a) H'):=λG s σ H Q I q=>by
 obtain⟨ρ,E,ds,bs,ax,ex,hz,q⟩:=q;have B:Jo X scope T caps:=.of ar;rw[eval_ListComp];show BL (BV X.prog X.w) X.A (QJ (.ListComp L [⟨tg,F,[],0⟩] scope pos) scope X.env (X3 [⟨tg,F,[],0⟩] pos) (SQ []) false (CV F X.env) none) (EP X G σ Q) X.xe s;refine IV (cl:=W5 scope X.env) rfl hs (B.clo I) B.kind B.names ?_;have hR:=hi G s σ H (λJ H2=>Ad H H2/\ItD X.K J ds trP) I ⟨ρ,E,by rw[ax];exact λJ H' s1 T1=>⟨s1,T1⟩⟩;refine thn hR λv s1 h1=>thn h1 λaz u h2=>?_;refine nn λhG=>?_;obtain⟨it,fp,tn,J,H2,rfl,I2,Tn,af,f2,sm,TD⟩:=h2;refine hG (CJ ?_);clear hG;have ae:H2 u.heap.objs.size=none:=I2.fresh;have I3:=I2.lnew (t':=u.toks) (ys:=[]) (its:=[]) .nil (RX _);generalize hD:u.heap.objs.size=a at ae I3;refine kl5 ?_;have ab:∀b∈fp,b<u.heap.objs.size:=λb r=>by obtain⟨o,e,_⟩:=Tn.obj 0 _ af b r;exact HX e
 have f3:∀b∈fp,Q5 X G (upd H2 a (.lst [])) b:=λb r=>by obtain⟨z0,z⟩:=f2 b r;refine⟨?_,z⟩;rw[Ae (by rw[<-hD];exact MJ (ab b r))];exact z0
 have ag:Ad H2 (upd H2 a (.lst [])):=Av ae _;have Ha:H a=none:=sm.free ae;have ai:∀b∈fp,b<(u.heap.push {cls:=.type "list",data:=.seq ([]:List A_).toArray}).objs.size:=λb r=>by rw[Q_];exact cR (ab b r)
 have J0:=jh1 B I3 f3 ai;let c':DC:=⟨c.H0,AS.but (lvS c ρ σ H .no) a,[],Dq,[a]⟩;have ah:¬ c'.S (some a):=by
  rintro(z | ⟨b,e,_,r⟩)
  ·exact z.2 rfl
  ·grind
 have aw:c'.H0 a=none:=E.same.free Ha;have E0:Ar X.K c' [] (Et T.length caps ρ) (Ov T caps σ) (upd H2 a (.lst [])):=by
  have sub:∀o,AS.but (lvS c ρ σ H .no) a o->c'.N (Et T.length caps ρ) (Ov T caps σ) o:=λo z=>⟨.inl z,λb _ ⟨j,hj,_⟩=>by cases hj⟩;refine⟨(E.same.trans sm).trans ag,by rw[jr8,js2],(λi d hi=>by cases hi),(λi j a hi=>by cases hi),λi d hi hd=>?_,λP' au=>(by cases au),λb r=>?_⟩
  ·obtain⟨hn,j,ej,ed⟩:=Yk hd;obtain⟨v,ev,rv⟩:=jx6 E aj (WR ej) ed;exact⟨v,jr9 hn ej ev,(rv.avoid Ha).mono (sm.trans ag) sub⟩
  ·grind [PX.mp,Ak]
 have aa:tn 0 (MF ((u.heap.push {cls:=.type "list",data:=.seq ([]:List A_).toArray}).push {cls:=.type "dict",data:=.dict #[] }) scope.names):=Tn.keep _ _ _ af λb r o e=>KH _ _ b o (JK _ (JK _ e));have loop:∀s4,Inv (cxB X (Dw X T caps) scope (u.heap.push {cls:=.type "list",data:=.seq ([]:List A_).toArray}).objs.size {u with heap:=u.heap.push {cls:=.type "list",data:=.seq ([]:List A_).toArray} } (upd H2 a (.lst [])) fp) [] (Ov T caps σ) (upd H2 a (.lst [])) s4->tn 0 s4.heap->JS (BV X.prog X.w) X.A (.compLoop (.ListComp L [⟨tg,F,[],0⟩] scope pos) 0 (.ref it) (.ref a) (oK scope (u.heap.push {cls:=.type "list",data:=.seq ([]:List A_).toArray}).objs.size X.env)) (nM (BV X.prog X.w) X.A X.xe none (EP X G σ Q) (.ref a) (u.heap.push {cls:=.type "list",data:=.seq ([]:List A_).toArray}).objs.size) s4:=by
  intro s4 J0 aa;refine kb0 (Y:=cxB X (Dw X T caps) scope (u.heap.push {cls:=.type "list",data:=.seq ([]:List A_).toArray}).objs.size {u with heap:=u.heap.push {cls:=.type "list",data:=.seq ([]:List A_).toArray} } (upd H2 a (.lst [])) fp) (c':=c') rfl hc (hg _ _ _ _ _ _) (he _ _ _ _ _ _) rfl aw ah (λJ hn b r=>?_) Tn TD ex hz (λs6 H5 ay I6 ak ao=>?_) E0 Ak (λb r=>(f3 b r).1) J0 aa
  ·exact⟨hn b r,(J.ok.exf b r).1,J.ok.exfs b r,.inl r,(J.ok.exf b r).2,λp hp=>absurd (show p∈([]:List (BJ×GR)) from hp) (by simp)⟩
  ·obtain⟨m,hn,_⟩:=I6.loc;exact⟨m,hn,λh' r=>⟨.ref a,H5,Zi I3 rfl f3 I6 h' r,rfl,q a H5 ak ao⟩⟩
 exact X_ (loop _ J0 aa) (Tn.self _ 0 _ _ _ aa (loop _ J0 aa))
def yq9(G:X.mg "all" = none)(ab:K9 scope X.env.scope X.N caps=true)(hc:X.calm=true)(hi:PI X tg F (tIW X.K c h))
  (hg:∀(C:BJ)(s:BK)(H:Hp)(ex:List BJ)(S0:AS)(Z:List BJ),PGd (cxB X (Dw X T caps) scope C s H ex) ⟨c.H0,S0,[],Dq,Z⟩ tg g)
  (he:∀(C:BJ)(s:BK)(H:Hp)(ex:List BJ)(S0:AS)(Z:List BJ),PE (cxB X (Dw X T caps) scope C s H ex) L (tEA X.K ⟨c.H0,S0,[],Dq,Z⟩ f))(hO:c.O=[]:=by rfl)(r:Ow c.O .no caps=true:=by rfl)(hs:∀x,E_ F X.env x=pure x:=by intro _;rfl)(aa:Gl X "all":=by rfl)
  (o:BP [.ListComp L [⟨tg,F,[],0⟩] scope pos] X.env=(false,CV (.ListComp L [⟨tg,F,[],0⟩] scope pos) X.env)::BP [] X.env:=by rfl)(A:Zp X.env cpos []:=by rfl):
  PSs X [.Return (some (.Call (.Name "all" p) [.ListComp L [⟨tg,F,[],0⟩] scope pos] [] cpos)) j] (aN X.K c (alR h T.length caps g f)):=
 PSs.imp (Qx (Z6 (Ma (w5 hc) aa G PyProof.Rows.boot_all (Eb (yw6 ab hc hi hO hg he r hs) Jf o) (by decide) (by decide) o A))) λDe σ H q=>by
 obtain⟨ρ,E,q⟩:=q;unfold alR at q;obtain⟨ds,ae,q⟩:=RQ.nox (RQ.bind.mp q);obtain⟨bs,ec,q⟩:=RQ.nox (RQ.bind.mp q);by_cases u:bs.length<=16777216
 case neg=>rw[if_neg u]at q;exact q.elim
 rw[if_pos u]at q;refine⟨ρ,E,ds,bs,ae,ec,u,λa H' sm hv=>?_⟩;refine⟨λ_=>True,[.lst (bs.map .bl)],.bl (bs.all id),.cons ⟨a,_,rfl,.inl ⟨hv,trivial⟩,?_⟩ Al.nil,lU bs,λz H2 s2 rz=>?_⟩
 ·exact jw5 bs
 ·exact q z H2 (sm.trans s2) rz
end
def allIn(z y:BR):Bool:=decide (0<z.length) && z.cps.toList.all λk=>y.cps.contains k
def oA(f1 f2:Ev->R D):Ev->R D:=λρ=>(f1 ρ).bind λx=>match x with
 | .str z=>(f2 ρ).bind λy=>match y with
  | .str w=>if allIn z w=true/\z.length<=10000 then .ok (.str "") else .bad
  |_=>.bad
 |_=>.bad
theorem xO{j:Type}{p:j->Bool}:∀{l:List j},l.all p=true->l.takeWhile p=l
 | [],_=>rfl
 |a::l,h=>by rw[ZG,M_]at h;rw[List.takeWhile_cons,if_pos h.1,xO h.2]
theorem kx2{z:BR}(h:allIn z y=true):stripSame y.cps.contains true true z=false/\PySem.stripped y.cps.contains true true z = "":=by
 unfold allIn at h;rw[M_,decide_eq_true_eq]at h;have j:stripLo y.cps.contains true z=z.length:=by unfold stripLo;rw[if_pos rfl,xO h.2];rfl
 have o:stripHi y.cps.contains true z z.length=z.length:=by unfold stripHi;rw[if_pos rfl,fM (show z.cps.toList.length<=z.length from GX _)];rfl
 refine⟨?_,?_⟩
 ·unfold stripSame;lia
 ·unfold PySem.stripped;rw[j,o];show(⟨z.cps.extract z.length z.length⟩:BR)=⟨#[]⟩;rw[Array.extract_empty_of_stop_le_start (GX _)]
def rSt:V->List V->Hp->VK->Prop:=λx xs H Q=>∃z y,x=.str z/\xs=[.str y]/\allIn z y=true/\Q (.str "") H
section
variable {o:B_}{f1 f2:Ev->R D}
def za2:MtR X "str.strip" rSt:=by intro j s σ H x vs v us Q I A E h;obtain⟨z,y,rfl,rfl,O,q⟩:=h;obtain⟨t,rfl⟩:=(show ∃t,v=Value.str z t from A);obtain⟨u,rfl,G⟩:=E.one;obtain⟨r,rfl⟩:=(show ∃t,u=Value.str y t from G);obtain⟨h1,T⟩:=kx2 O;have g:=gives_str_strip_chars z y t r;rw[h1,T,if_neg (by decide)]at g;exact call_gives PySem.F.slot_str_strip (JF s z t) PySem.F.entry_str_strip (PySem.F.args_str_strip_2 _ _) g ⟨by decide,⟨.str "",H,I.tok _,⟨_,rfl⟩,q⟩⟩
def st_{apos j:HY}(ho:PEd X c l o f1)(he:PEd X c l e f2)(A:DG o "strip" X.env (CV o X.env)=CV o X.env:=by rfl)
  (G:((IK j (BP [e] X.env)).all (λx=>!x.1) && (JC j (GF [] X.env)).all (λx=>x.1.isSome)
   && decide ([e].length+([]:List HN).length+(if([]:List HN).isEmpty then 0 else 1)<30))=true:=by rfl)
  (u:(apos.endLine == j.line)=true:=by rfl)(hs:BP [e] X.env=(false,CV e X.env)::BP [] X.env:=by rfl)(r:Zp X.env j []:=by rfl):
  PEd X c l (.Call (.Attribute o "strip" apos) [e] [] j) (oA f1 f2):=
 PE.imp (eF PySem.F.plainAttrs_str PySem.F.slot_str_strip PySem.F.type_str_strip za2 ho (ac he an hs) A G u hs r) λσ H Q h=>by
 obtain⟨aa,ρ,E,q⟩:=h;refine Aq E ((RQ.bind.mp q).mono (λdx q1 x H1 T E1 r1=>?_) λ_ z=>z);cases dx with
 |str z =>
  cases(show x=.str z from r1);refine⟨rfl,Xz E1 ((RQ.bind.mp q1).mono (λdy s y H2 s2 E2 r2=>?_) λe z=>Bf z T)⟩;cases dy with
  |str w =>
   cases(show y=.str w from r2);have s:RQ (if allIn z w=true/\z.length<=10000 then R.ok (D.str "") else .bad) _ _:=s;by_cases O:allIn z w=true/\z.length<=10000
   ·rw[if_pos O]at s;exact⟨z,w,rfl,rfl,O.1,s _ _ (T.trans s2) rfl⟩
   ·rw[if_neg O]at s;exact s.elim
  |_=>exact(s:False).elim
 |_=>exact(q1:False).elim
end
section
variable {K:BZ}{h:CP}{mg:BR->Option A_}{ps:List BR}{k:Nat}
def yk7(P:BW)(w:CQ)(base:CP)(X:K.In h)(G:h.Ns PySem.mainGlobals mg)(I:FI K x st)(j:∀a fd,Fun K x x st a fd->Ec P w K mg base CX0 k a fd ps (spA K n m))
  (r:∀(kV doc pm:A_)(an:Option BJ)(cdv ct:A_)(us:List A_),us.length=ps.length->MN (W.fnOf x x (Dp st) (Br st) (Ag st) .none kV doc pm an cdv ct) ⟨us,[]⟩=pure (ps.zip us)):FnA P w K mg base k x ps n m:=by
 revert I;refine Bo λf fd a F o=>?_;exact⟨f,fd,j f fd F,W.mg_of X G a,o,F.binds r⟩
end
abbrev FAB(b:Bx)(k:Nat)(x:BR)(ps:List BR)(m:List D->R D):Prop:=FnA b.P b.w b.K b.mg b.base k x ps ps.length m
def wt9{w:CQ}{f:BJ}{N ps:List BR}{k:Nat}{g:Ev->R (D×Ev)}(F:Fun K x qual st f fd)(S:Bt N ps (Ag st))(o:HDk K)
  (j:∀(cdv:A_)(A:D_)(h:List LK)(s:BK)(H u:Hp)(E:XK)(r:AS)(nm:BR),d8 ⟨u,r,[],Dq,[]⟩ nm->Ed k (A.deeper (HJ qual (Ag st) s.heap.objs.size f cdv))->(A.deeper (HJ qual (Ag st) s.heap.objs.size f cdv)).units+70<FW ->
   PSs (W7 CX0 P w K mg base N qual (Ag st) f cdv A h s H E).nox (Br st) (tA K ⟨u,r,[],Dq,[]⟩ 0 nm g)):
  Ec P w K mg base CX0 (k+1) f fd ps (spA K ps.length (gJ N.length g)):=let ⟨_,o⟩:=o;yl2 F S o j
open PySem PySem.Spec PyProof.Rows L2 PySem.W
def yN{k:Nat}{ps:List BR}(P:BW)(w:CQ)(base:CP)(s:DkC K C)(I:MI K C x qual st)(h:∀a fd,Fun K x qual st a fd->Ec P w K mg base CX0 k a fd ps (sp0 K n m))
  (r:∀(kV doc pm:A_)(an:Option BJ)(cdv ct:A_)(us:List A_),us.length=ps.length->MN (W.fnOf x qual (Dp st) (Br st) (Ag st) .none kV doc pm an cdv ct) ⟨us,[]⟩=pure (ps.zip us))(j:(x == ("webs" : BR))=false:=by decide):MtC P w K mg base k x ps n m:=
 let ⟨f,fd,o,F⟩:=I; ⟨C,f,fd,s,o,j,h f fd F,F.binds r⟩
def rk6:List Nat:=[0,1,33,2,49,18,34,3,57,26,42,11,50,19,35,4,61,30,46,15,54,23,39,8,58,27,43,12,51,20,36,5,63,32,48,17,56,25,41,10,60,29,45,14,53,22,38,7,62,31,47,16,55,24,40,9,59,28,44,13,52,21,37,6]
def t6(i j:Nat):Bool:=YJ (rk6.getD i 0) (rk6.getD j 0)
abbrev Ab:=List Nat×List (Nat×Nat×Nat)×Nat
variable {A:D_}{it:Array JV}{O:bO}{prog:BW}{s:BK}{κ:JT}{α β:Type}{E:A_->BK->Prop}{w:CQ}
variable {j:Nat}
section
variable {key:Nat->O.α}
abbrev cS(κ:JT)(it:Array JV)(σ:Ab):CK:=SortSt.mk' κ (Bk it σ.1) σ.2.1.toArray σ.2.2 none
structure An6(prog:BW)(w:CQ)(A:D_)(s:BK)(κ:JT)(it:Array JV)(key:Nat->O.α):Prop where
 an:Ans prog w A s κ it key 64
 tk:∀i j,i<64->j<64->ltO key i j=t6 i j
def Sm(prog:BW)(w:CQ)(A:D_)(E:A_->BK->Prop)(s:BK)(κ:JT)(it:Array JV){α β:Type}(m:StateT CK Sem α)(e:β->α)(p:Ab->Option (β×Ab)):Prop:=
 ∀σ r,p σ=some r->∀R:α->CK->Prop,R (e r.1) (cS κ it r.2)->Tr prog w A E s m (cS κ it σ) R
variable {u o:Type}{e:β->α}{p q:Ab->Option (β×Ab)}
def Kg(b:β){a:α}(h:a=e b:=by rfl):Sm prog w A E s κ it (pure a) e (λσ=>some (b,σ)):=λσ r G R z=>by cases G;subst h;exact sV z
def Jg{m:StateT CK Sem u}{f:u->StateT CK Sem α}{z:o->u}{p1:Ab->Option (o×Ab)}{g:o->Ab->Option (β×Ab)}(h1:Sm prog w A E s κ it m z p1)(h2:∀b,Sm prog w A E s κ it (f (z b)) e (g b)):Sm prog w A E s κ it (m >>= f) e (λσ=>(p1 σ).bind λr=>g r.1 r.2):=λσ r h R hR=>by obtain⟨x,G,h⟩:=aD.mp h;exact wq7 (h1 σ x G (λa st=>a=z x.1/\st=cS κ it x.2) ⟨rfl,rfl⟩) λa st T=>by obtain⟨rfl,rfl⟩:=T;exact h2 x.1 x.2 r h R hR
def vX(an:An6 prog w A s κ it key){f:Option Bool->StateT CK Sem α}{g:Bool->Ab->Option (β×Ab)}(h:∀b,Sm prog w A E s κ it (f (some b)) e (g b)):
  Sm prog w A E s κ it (lt' (DQ it i) (DQ it j) >>= f) e (λσ=>if(YJ i 64 && YJ j 64)=true then g (t6 i j) σ else none):=λσ r z R hR=>by
 dsimp only at z;by_cases G:(YJ i 64 && YJ j 64)=true
 ·rw[if_pos G]at z;rw[M_]at G;have hi:=lW.mp G.1;have T:=lW.mp G.2;exact pO an.an hi T rfl (by rw[an.tk i j hi T];exact h _ σ r z R hR)
 ·rw[if_neg G]at z;cases z
def cH{l:List Nat}{f:JV->StateT CK Sem α}{g:Nat->Ab->Option (β×Ab)}(h:∀k,Sm prog w A E s κ it (f (DQ it k)) e (g k)):Sm prog w A E s κ it (elem' (Bk it l) i >>= f) e (λσ=>(l[i]?).bind λk=>g k σ):=λσ r z R T=>by obtain⟨k,G,z⟩:=aD.mp z;exact Xf G (h k σ r z R T)
def sm_get{f:CK->StateT CK Sem α}{g:Ab->Ab->Option (β×Ab)}(h:∀σ,Sm prog w A E s κ it (f (cS κ it σ)) e (g σ)):Sm prog w A E s κ it (get >>= f) e (λσ=>g σ σ):=λσ r z R G=>zP (h σ σ r z R G)
def eE(an:An6 prog w A s κ it key){f:Option Bool->StateT CK Sem α}{g:Bool->Ab->Option (β×Ab)}(h:∀b,Sm prog w A E s κ it (f (some b)) e (g b)):
  Sm prog w A E s κ it (ltAt' i j >>= f) e (λσ=>(σ.1[i]?).bind λx=>(σ.1[j]?).bind λy=>if(YJ x 64 && YJ y 64)=true then g (t6 x y) σ else none):=λσ r z R hR=>by
 obtain⟨x,T,z⟩:=aD.mp z;obtain⟨y,G,z⟩:=aD.mp z;rw[ltAt'_eq];simp only[bind_assoc];exact zP (Xf T (Xf G (vX an h σ r z R hR)))
def rE{x:String}{f:PUnit->StateT CK Sem α}(h:Sm prog w A E s κ it (f ⟨⟩) e p):Sm prog w A E s κ it (liftM (rule x) >>= f) e p:=λσ r z R G=>wq9 (h σ r z R G)
theorem zf1{f:PUnit->StateT CK Sem α}(h:Sm prog w A E s κ it (f ⟨⟩) e p):Sm prog w A E s κ it (moveDown' i j >>= f) e (λσ=>p (bub σ.1 i (i - j),σ.2)):=λσ r z R G=>by rw[moveDown'_eq];refine qZ ?_;have:=h _ r z R G;grind [wr4]
def Ca{c:Prop}[Decidable c]{x y:StateT CK Sem α}(h1:Sm prog w A E s κ it x e p)(T:Sm prog w A E s κ it y e q):Sm prog w A E s κ it (if c then x else y) e (λσ=>if c then p σ else q σ):=λσ r h R G=>by
 dsimp only at h;by_cases z:c
 ·rw[if_pos z]at h ⊢;exact h1 σ r h R G
 ·rw[if_neg z]at h ⊢;exact T σ r h R G
def Gb{m:StateT CK Sem α}:Sm prog w A E s κ it m e (λ_=>none):=λσ r h=>by cases h
def Vv(o:Option u){m:StateT CK Sem α}{p1:u->Ab->Option (β×Ab)}(h1:∀v,o=some v->Sm prog w A E s κ it m e (p1 v))(G:o=none->Sm prog w A E s κ it m e q):Sm prog w A E s κ it m e (λσ=>o.elim (q σ) λv=>p1 v σ):=λσ r h R z=>by
 cases o with
 |some v=>exact h1 v rfl σ r h R z
 |none=>exact G rfl σ r h R z
def eS(e:β->α):ForInStep β->ForInStep α
 | .done c=>.done (e c)
 | .yield c=>.yield (e c)
def Kf(c:β){a:ForInStep α}(h:a=.done (e c):=by rfl):Sm prog w A E s κ it (pure a) (eS e) (λσ=>some (.done c,σ)):=Kg (e:=eS e) (.done c) h
def Hx(c:β){a:ForInStep α}(h:a=.yield (e c):=by rfl):Sm prog w A E s κ it (pure a) (eS e) (λσ=>some (.yield c,σ)):=Kg (e:=eS e) (.yield c) h
def lpO(F:Nat->β->Ab->Option (ForInStep β×Ab)):Nat->Nat->β->Ab->Option (β×Ab)
 |_,0,c,σ=>some (c,σ)
 |i,n+1,c,σ=>(F i c σ).bind λr=>match r.1 with
  | .done h=>some (h,r.2)
  | .yield h=>lpO F (i+1) n h r.2
theorem Gw{a b:Nat}(e:β->α)(c:β){x:α}{f:Nat->α->StateT CK Sem (ForInStep α)}{F:Nat->β->Ab->Option (ForInStep β×Ab)}(h:∀i c,Sm prog w A E s κ it (f i (e c)) (eS e) (F i c))(hx:x=e c:=by rfl):Sm prog w A E s κ it (forIn [a:b] x f) e (λσ=>lpO F a (b - a) c σ):=by
 subst hx;have go:∀(n i:Nat)(c:β),Sm prog w A E s κ it (forIn (lY i n) (e c) f) e (λσ=>lpO F i n c σ):=by
  intro n;induction n with
  |zero=>intro i c σ r z R T;cases z;exact λtk Q q=>kasC_nil (q _ _ tk T)
  |succ n ih =>
   intro i c σ r z R T tk Q q;obtain⟨y,hy,z⟩:=aD.mp z;rw[t7];refine kasC_cons (h i c σ y hy (λa st=>a=eS e y.1/\st=cS κ it y.2) ⟨rfl,rfl⟩ tk _ λa st G ha=>?_);obtain⟨rfl,rfl⟩:=ha;obtain⟨y1,y2⟩:=y;cases y1 with
   |done c'=>cases z;exact q _ _ G T
   |yield c'=>exact ih (i+1) c' y2 r z R T G Q q
 simp_all
end
structure Rn{α β:Type}(m:Array JV->StateT CK Sem α)(e:Array JV->β->α) where
 p:Ab->Option (β×Ab)
 ok:∀{prog:BW}{w:CQ}{A:D_}{E:A_->BK->Prop}{s:BK}{κ:JT}{it:Array JV}{O:bO}{key:Nat->O.α},An6 prog w A s κ it key->Sm prog w A E s κ it (m it) (e it) p
def zj4(lo n ok:Nat):Rn (λ_=>binarySort' lo n ok) (λ_ (b:Bool)=>b):=⟨_,λan =>
 Jg (Gw (λ_:Unit=>(none,())) () λk _=>Jg (Gw (λc:Nat×Nat=>(none,c.1,c.2)) (0,k) λ_ c =>
  Ca (Kf c) (eE an λb=>Ca (Hx (c.1,(c.1+c.2) / 2)) (Hx ((c.1+c.2) / 2+1,c.2))))
  λc=>zf1 (Hx ())) λ_=>Kg true⟩
section
variable {key:Nat->O.α}
variable {e:β->α}{p:Ab->Option (β×Ab)}
theorem zf2{f:PUnit->StateT CK Sem α}(h:Sm prog w A E s κ it (f ⟨⟩) e p):Sm prog w A E s κ it (reverseSlice' i j >>= f) e (λσ=>p (mir σ.1 i j,σ.2)):=λσ r o R u=>by rw[reverseSlice'_eq];refine qZ ?_;have:=h _ r o R u;grind [wx1]
def iK(an:An6 prog w A s κ it key){left:Bool}{l:List Nat}{k:Nat}:Sm prog w A E s κ it (elem' (Bk it l) i >>= λy=>if left=true then lt' y (DQ it k) else(lt' (DQ it k) y >>= λr=>pure (r.map λz=>!z))) some (λσ=>(l[i]?).bind λx=>if(YJ x 64 && YJ k 64)=true then some ((if left=true then t6 x k else !t6 k x),σ) else none):=λσ r h R hR=>by
 obtain⟨x,T,h⟩:=aD.mp h;by_cases o:(YJ x 64 && YJ k 64)=true
 ·rw[if_pos o]at h;cases h;rw[M_]at o;have G:=lW.mp o.1;have u:=lW.mp o.2;refine wq8 (yi3 an.an u rfl T G rfl) λa st ha=>?_;obtain⟨rfl,rfl⟩:=ha;unfold bz;rw[an.tk x k G u,an.tk k x u G];exact hR
 ·rw[if_neg o]at h;cases h
end
def zj5(lo nrem:Nat):Rn (λ_=>countRun' lo nrem) (λ_ (b:Nat)=>some b):=⟨_,λan =>
 Jg (Gw (λn:Nat=>(none,n)) 1 λ_ n=>eE an λ_=>Ca (Kf n) (Hx (n+1))) λn =>
 Ca (Kg n) (Ca (eE an λ_=>Ca (Kg n) Gb) (rE (Jg (Gw (λc:Nat×Nat=>(none,c.1,c.2)) (n+1,0) λ_ c =>
  eE an λ_=>Ca (Ca Gb (Hx (c.1+1,0))) (eE an λ_=>Ca (Kf c) Gb)) λc =>
  Ca Gb (zf2 (Jg (Gw (λn:Nat=>(none,n)) c.1 λ_ n=>eE an λ_=>Ca (Kf n) (Hx (n+1))) λn=>Kg n)))))⟩
def vA(left:Bool)(k:Nat)(l:List Nat)(base n hint:Nat):Rn (λit=>wu2 left (DQ it k) (Bk it l) base n hint) (λ_ (b:Nat)=>some b):=⟨_,λan =>
 Jg (iK an) λ_=>Ca
  (Jg (Gw (λc:Nat×Nat=>(none,c.1,c.2)) (0,1) λ_ c=>Ca (Kf c) (Jg (iK an) λ_=>Ca (Kf c) (Hx (c.2,2 * c.2+1)))) λc =>
   Jg (Gw (λc:Nat×Nat=>(none,c.1,c.2)) (hint+c.1+1,hint+min c.2 (n - hint)) λ_ c=>Ca (Kf c) (Jg (iK an) λ_=>Ca (Hx (c.1+(c.2 - c.1) / 2+1,c.2)) (Hx (c.1,c.1+(c.2 - c.1) / 2)))) λc=>Kg c.2)
  (Jg (Gw (λc:Nat×Nat=>(none,c.1,c.2)) (0,1) λ_ c=>Ca (Kf c) (Jg (iK an) λ_=>Ca (Kf c) (Hx (c.2,2 * c.2+1)))) λc =>
   Jg (Gw (λc:Nat×Nat=>(none,c.1,c.2)) (hint+1 - min c.2 (hint+1),hint - c.1) λ_ c=>Ca (Kf c) (Jg (iK an) λ_=>Ca (Hx (c.1+(c.2 - c.1) / 2+1,c.2)) (Hx (c.1,c.1+(c.2 - c.1) / 2)))) λc=>Kg c.2)⟩
def zm7(a b:List Nat):Rn (λit=>wh9 (Bk it a) (Bk it b)) (λit (r:List Nat)=>Bk it r):=⟨_,λ{prog w A E s κ it O key} an=>by
  apply rE;dsimp only;simp only[Qj];apply cH;intro b0;apply Ca Gb;apply Ca Gb;apply sm_get;intro σ;apply Jg (Gw (λc:Option (List Nat)×List Nat×Nat×Nat×Nat=>(c.1.map (Bk it),Bk it c.2.1,c.2.2.1,c.2.2.2.1,c.2.2.2.2)) (none,[b0],0,1,σ.2.2) ?b1) ?k1
  case k1 =>
   intro c;refine Vv c.1 (p1:=λv σ=>some (v,σ)) (λv hv=>?_) λ_=>Gb;dsimp only;rw[hv];exact Kg v
  case b1 =>
   intro _ c;apply Jg (Gw (λd:Option (List Nat)×List Nat×Nat×Nat×Nat×Nat=>(d.1.map (Bk it),Bk it d.2.1,d.2.2.1,d.2.2.2.1,d.2.2.2.2.1,d.2.2.2.2.2)) (none,c.2.1,c.2.2.1,c.2.2.2.1,0,0) ?b2) ?k2
   case k2 =>
    intro d;refine Vv d.1 (p1:=λv σ=>some (ForInStep.done (some v,d.2.1,d.2.2.1,d.2.2.2.1,c.2.2.2.2),σ)) (λv hv=>?_) λ_=>Gb;dsimp only;rw[hv];exact Kf (some v,d.2.1,d.2.2.1,d.2.2.2.1,c.2.2.2.2)
   case b2 =>
    intro _ d;dsimp only;apply cH;intro y;apply cH;intro x;apply vX an;intro _;apply Ca ?x1 ?x2
    case x1 =>
     apply cH;intro z;apply Ca Gb;apply Ca Gb;exact Hx (none,d.2.1++[z],d.2.2.1,d.2.2.2.1+1,0,d.2.2.2.2.2+1) (by rw[Qi];rfl)
    case x2 =>
     apply cH;intro z;apply Ca ?y1 ?y2
     case y1=>exact Kf (some (d.2.1++[z]++b.drop d.2.2.2.1++a.drop (d.2.2.1+1)),d.2.1++[z],d.2.2.1+1,d.2.2.2.1,d.2.2.2.2.1+1,0) (by have h:=yx1 (it:=it) d.2.1 b a z d.2.2.2.1 (d.2.2.1+1);rw[Qj,Qj]at h;rw[h,Qi];rfl)
     case y2 =>
      apply Ca Gb;exact Hx (none,d.2.1++[z],d.2.2.1+1,d.2.2.2.1,d.2.2.2.2.1+1,0) (by rw[Qi];rfl)⟩
section
variable {key:Nat->O.α}
variable {e:β->α}{p:Ab->Option (β×Ab)}
def kO{g:CK->CK}(g':Ab->Ab){f:PUnit->StateT CK Sem α}(u:∀σ,g (cS κ it σ)=cS κ it (g' σ))(h:Sm prog w A E s κ it (f ⟨⟩) e p):Sm prog w A E s κ it (modify g >>= f) e (λσ=>p (g' σ)):=λσ r o R z=>qZ (by rw[u];exact h _ r o R z)
def yr8(u:Ab){o:CK}{f:PUnit->StateT CK Sem α}(G:o=cS κ it u)(h:Sm prog w A E s κ it (f ⟨⟩) e p):Sm prog w A E s κ it (set o >>= f) e (λ_=>p u):=λσ r z R T=>yh8 (by rw[G];exact h _ r z R T)
theorem km2(o:Nat):∀(M:List Nat)(n:Nat)(q:List Nat),(((M.map (DQ it)).zipIdx n).foldl (λa (x:JV×Nat)=>a.setIfInBounds (o+x.2) x.1) (Bk it q))=Bk it ((M.zipIdx n).foldl (λl x=>l.set (o+x.2) x.1) q)
 | [],n,q=>rfl
 |k::M,n,q=>by
  have h:(Bk it q).setIfInBounds (o+n) (DQ it k)=Bk it (q.set (o+n) k):=by unfold Bk;apply iM;simp
  simp_all [HH,tZ,mO,km2]
def je5(l:List Nat)(i j:Nat):(Bk it l).extract i j=Bk it ((l.drop i).take (j - i)):=by unfold Bk;simp
end
def atV(i:Nat):Rn (λ_=>mergeAt' i) (λ_ (b:Bool)=>b):=⟨_,λ{prog w A E s κ it O key} an=>by
  apply sm_get
  intro σ
  apply Vv (σ.2.1.toArray[i]?) ?a1 (λ_=>Gb)
  case a1 =>
   intro x hx
   apply Vv (σ.2.1.toArray[i+1]?) ?a2 (λ_=>Gb)
   case a2 =>
    intro y hy
    dsimp only
    rw[hx,hy]
    dsimp only
    apply yr8 (σ.1,((σ.2.1.toArray.setIfInBounds i (x.1,x.2.1+y.2.1,x.2.2)).eraseIdxIfInBounds (i+1)).toList,σ.2.2) (by simp)
    apply cH
    intro k0
    apply Jg ((vA false k0 σ.1 x.1 x.2.1 0).ok an) ?a3
    case a3 =>
     intro k
     dsimp only
     apply Ca Gb
     apply cH
     intro x1
     apply Jg ((vA true x1 σ.1 y.1 y.2.1 (y.2.1 - 1)).ok an) ?a4
     case a4 =>
      intro m
      dsimp only
      apply Ca Gb
      apply Ca ?a5 Gb
      case a5 =>
       rw[je5,je5]
       apply Jg ((zm7 ((σ.1.drop (x.1+k)).take (y.1 - (x.1+k))) ((σ.1.drop y.1).take (y.1+m - y.1))).ok an) ?a6
       case a6 =>
        intro M
        apply kO (λτ=>((M.zipIdx 0).foldl (λl z=>l.set (x.1+k+z.2) z.1) τ.1,τ.2)) (λτ=>?a7) ?a8
        case a7 =>
         show SortSt.mk' κ _ _ _ _=SortSt.mk' κ _ _ _ _
         congr 1
         have e:(Bk it M).toList=M.map (DQ it):=by unfold Bk;simp
         rw[e]
         exact km2 _ M 0 _
        case a8 =>
         apply sm_get
         intro τ
         exact Kg true⟩
def yb8{κ:JT}{it:Array JV}{α β:Type}{e:β->α}{p:Ab->Option (β×Ab)}{m:StateT CK Sem α}(c:Bool)(h:c=true->Sm prog w A E s κ it m e p):Sm prog w A E s κ it m e (λσ=>if c=true then p σ else none):=λσ r o R z=>by
 dsimp only at o;by_cases u:c=true
 ·rw[if_pos u]at o;exact h u σ r o R z
 ·rw[if_neg u]at o;cases o
def uY:Rn (λ_=>sortRuns') (λ_ (_:Unit)=>()):=⟨_,λ{prog w A E s κ it O key} an=>by
  rw[sortRuns'_eq];have sz:∀σ:Ab,(cV (cS κ it σ)).size=σ.1.length:=λσ=>Qj _;have pn:∀σ:Ab,pendingOf (cS κ it σ)=σ.2.1.toArray:=λ_=>rfl;have at':∀i,Sm prog w A E s κ it (mergeAt' i) (λb:Bool=>b) (atV i).p:=λi=>(atV i).ok an;apply sm_get;intro σ;simp only[sz];apply Jg (Gw (λlo:Nat=>(none,lo)) 0 ?b1) ?k1
  case b1 =>
   intro _ lo;dsimp only;apply Ca (Kf lo) ?c1
   case c1 =>
    apply Jg ((zj5 lo (σ.1.length - lo)).ok an) ?c2
    case c2 =>
     intro n;dsimp only;apply Ca ?c3 Gb
     case c3 =>
      apply rE;apply Jg ((zj4 lo (min (σ.1.length - lo) (SX σ.1.length σ.1.length 0)) n).ok an) ?c4
      case c4 =>
       intro ok;apply Ca Gb;apply sm_get;intro τ;simp only[pn];apply Vv (τ.2.1.toArray.back?) ?c5 ?c6
       case c6 =>
        intro h;rw[h];apply kO (λτ=>(τ.1,(τ.2.1.toArray.push (lo,min (σ.1.length - lo) (SX σ.1.length σ.1.length 0),0)).toList,τ.2.2)) (λτ=>congrArg (λz=>SortSt.mk' κ (Bk it τ.1) z τ.2.2 none) uH.symm) (Hx (lo+min (σ.1.length - lo) (SX σ.1.length σ.1.length 0)))
       case c5 =>
        intro x h;rw[h];dsimp only;apply Jg (Gw (λ_:Unit=>(none,())) () ?d1) ?d2
        case d1 =>
         intro _ _;apply sm_get;intro υ;simp only[pn];apply Vv (if υ.2.1.toArray.size>1 then υ.2.1.toArray[υ.2.1.toArray.size - 2]? else none) (λ_ _=>Gb) ?d3
         case d3 =>
          intro h2;rw[h2];exact Kf ()
        case d2 =>
         intro _;dsimp only;apply kO (λτ=>(τ.1,(τ.2.1.toArray.modify (τ.2.1.toArray.size - 1) λz=>(z.1,z.2.1,power' σ.1.length (2 * x.1+x.2.1) (2 * x.1+x.2.1+x.2.1+min (σ.1.length - lo) (SX σ.1.length σ.1.length 0)) σ.1.length)).toList,τ.2.2)) (λτ=>congrArg (λz=>SortSt.mk' κ (Bk it τ.1) z τ.2.2 none) uH.symm);apply kO (λτ=>(τ.1,(τ.2.1.toArray.push (lo,min (σ.1.length - lo) (SX σ.1.length σ.1.length 0),0)).toList,τ.2.2)) (λτ=>congrArg (λz=>SortSt.mk' κ (Bk it τ.1) z τ.2.2 none) uH.symm) (Hx (lo+min (σ.1.length - lo) (SX σ.1.length σ.1.length 0)))
  case k1 =>
   intro _;dsimp only;apply Jg (Gw (λ_:Unit=>(none,())) () ?e1) ?e0
   case e0 =>
    intro _;exact Kg ()
   case e1 =>
    intro _ _;apply sm_get;intro τ;simp only[pn];apply Ca (Kf ()) ?e2
    case e2 =>
     apply yb8 (decide (τ.2.1.length=2));intro h2;have h2:=of_decide_eq_true h2;simp only[MK,h2,Nat.sub_self,gt_iff_lt,ZJ,if_false,Option.any_none,VJ];apply Jg (at' 0) ?e3
     case e3 =>
      intro b;exact Ca Gb (Hx ())⟩
def o6:List Nat:=[0,1,3,7,15,31,63,47,23,55,39,11,27,59,43,19,51,35,5,13,29,61,45,21,53,37,9,25,57,41,17,49,33,2,6,14,30,62,46,22,54,38,10,26,58,42,18,50,34,4,12,28,60,44,20,52,36,8,24,56,40,16,48,32]
theorem zo0:(uY.p (List.range 64,[],7)).map (λr=>r.2.1)=some o6:=by decide +kernel
def fW(k:Nat):List Int:=((List.range 6).filter λt=>decide (k / 2 ^ t % 2=1)).map λ(t:Nat)=>(t:Int)
theorem zg0:∀i<64,∀j<64,Cz (fW i) (fW j)=t6 i j:=by decide +kernel
theorem wx7:o6.Perm (List.range 64):=by decide +kernel
theorem yo3:∀j<64,∀i<64,i<=j->t6 (o6.getD j 0) (o6.getD i 0)=false:=by decide +kernel
theorem v9:∀j<64,o6.getD j 0<64:=by decide +kernel
section
variable {key:Nat->O.α}{vs:List A_}{a:BJ}
theorem yn2{P:PySem.Fin->BK->Prop}(ho:s.heap.get? a=some (KC "list" vs.toArray n))(T:vs.length<64\/vs.length=64/\∀i j,i<64->j<64->ltO key i j=t6 i j)(q:Asks prog w A s a vs κ key)
  (h:∀(p:Array Nat)(h':CP)(G:Nat),Ef vs.length p->Gd key p vs.length->Bu a s.heap h'->(∃e,h'.get? a=some (KC "list" (RZ (p.toList.map λi=>vs.getD i .none)) e))->P (.done (.ret .none)) {s with heap:=h',toks:=G}):
  BL (BV prog w) A (HS.«list.sort» ⟨[.ref a],[]⟩) P E s:=by
 rw[list_sort_plain];have ax:a<s.heap.objs.size:=HX ho;have ay:vs.length<65:=by rcases T with h |h<;>lia
 have hz:vs.toArray.size=vs.length:=MK;refine BX (listItems_at ho rfl ?_);refine BX (VR ho rfl ?_ (by rw[hz,CG];lia) (RX _));obtain⟨e1,ae⟩:∃e1,(s.heap.update a (Obj.mapSeq λ_=>(#[]:Array A_))).get? a=some (KC "list" #[] e1):=⟨_,SM ho λ_=>#[]⟩;refine BX (YW ae rfl ?_);refine BX (PJ ?_ (by show vs.length<=_;rw[CG];lia));refine BX (wpAny_newList ?_ (RX _));refine HB ?_;generalize eh:((s.heap.update a (Obj.mapSeq λ_=>(#[]:Array A_))).push {cls:=.type "tuple",data:=.seq (vs.toArray.toList).toArray}).push {cls:=.type "list",data:=.seq ([]:List A_).toArray}=h1;have k1:Bu a s.heap h1:=by rw[<-eh];exact((Bu.upd _ _).trans (Bu.push _ _)).trans (Bu.push _ _)
 have I:h1.get? a=some (KC "list" #[] e1):=by rw[<-eh];exact JK _ (JK _ ae)
 show BL (BV prog w) A _ P E {s with heap:=h1};clear eh ae;dsimp only;by_cases h2:vs.length<2
 ·rw[if_pos (by rw[hz];exact h2),if_pos (by rw[hz];exact h2)];refine BX (EY ?_);rw[StateT.run_pure];refine BX (EY ?_);dsimp only;refine BX (YW I rfl ?_);have eo:(cV (SortSt.mk' general' (vs.toArray.zip vs.toArray) #[] 7 none)).map (·.2)=vs.toArray:=wj7 vs;rw[eo];refine BX (VR I rfl ?_ (RX _) (by show vs.toArray.size<=_;rw[hz,CG];lia));simp only[bne_self_eq_false,VJ,if_false];refine EY (h (RZ (List.range vs.length)) _ s.toks (List.Perm.refl _) (λi j ah hj=>by rw[show i=j by lia];exact KeyOrd.kle_refl _) (k1.trans (Bu.upd _ _)) ?_);rw[show(RZ (List.range vs.length)).toList=List.range vs.length from rfl,Z8];exact⟨_,SM I λ_=>vs.toArray⟩
 ·rw[if_neg (by rw[hz];exact h2),if_neg (by rw[hz];exact h2)];have ab:2<=vs.length:=by lia
  refine BX (GK (q.kind ab {s with heap:=h1} (λk s'=>k=κ/\s' = {s with heap:=h1}) k1 ⟨rfl,rfl⟩) (λk s' hk=>?_) λ_ _ z=>z.elim);obtain⟨rfl,rfl⟩:=hk;have run:BL (BV prog w) A (sortRuns'.run (SortSt.mk' k (vs.toArray.zip vs.toArray) #[] 7 none)) (λr s'=>∃p:Array Nat,cV r.2=p.map (DQ (vs.toArray.zip vs.toArray))/\nG r.2=none/\(Ef vs.length p/\Gd key p vs.length)/\∃G,s' = {s with heap:=h1,toks:=G}) E {s with heap:=h1}:=by
   rcases T with T | ⟨T,af⟩
   ·have go:(lC vs.length).kasWp (kas_ask prog w A k vs) (λp s'=>(Ef vs.length p/\Gd key p vs.length)/\∃G,s' = {s with heap:=h1,toks:=G}) {s with heap:=h1}:=
     jh3 (s:={s with heap:=h1}) (n:=vs.length) (lt:=ltO key) (λi j C G hi hj hC=>q.less ab i j {s with heap:=h1,toks:=G} C hi hj k1 λaa=>hC aa) (λp G hp=>⟨hp,G,rfl⟩) _ s.toks (wy2 (by lia))
    exact kat_run (Q:=λo s'=>∃p:Array Nat,cV o=p.map (DQ (vs.toArray.zip vs.toArray))/\nG o=none/\(Ef vs.length p/\Gd key p vs.length)/\∃G,s' = {s with heap:=h1,toks:=G}) rfl ab T (λp' o s' a1 a2 a3 a4=>⟨p',a2,a3,a4⟩) go
   ·have au:cV (SortSt.mk' k (vs.toArray.zip vs.toArray) #[] 7 none)=Bk (vs.toArray.zip vs.toArray) (List.range 64):=by have e:=kas_range (vs.toArray.zip vs.toArray);rw[show(vs.toArray.zip vs.toArray).size=64 by simp[T]]at e;refine Eq.trans e.symm ?_;unfold Bk;grind
    have aw:An6 (O:=O) prog w A {s with heap:=h1} k (vs.toArray.zip vs.toArray) key:=⟨λi j C G hi hj hC=>by
     unfold kas_cmp;rw[kat_item rfl,kat_item rfl];exact q.less ab i j {s with heap:=h1,toks:=G} C (by lia) (by lia) k1 λaa=>hC aa,af⟩
    obtain⟨r6,ao,ar⟩:=bH.mp zo0;have ak:SortSt.mk' k (vs.toArray.zip vs.toArray) #[] 7 none=cS k (vs.toArray.zip vs.toArray) (List.range 64,[],7):=congrArg (λz=>SortSt.mk' k z #[] 7 none) au;rw[ak];refine uY.ok aw _ r6 ao (λ_ o=>o=cS k (vs.toArray.zip vs.toArray) r6.2) rfl s.toks (λ_ o s'=>∃p:Array Nat,cV o=p.map (DQ (vs.toArray.zip vs.toArray))/\nG o=none/\(Ef vs.length p/\Gd key p vs.length)/\∃G,s' = {s with heap:=h1,toks:=G}) λu o aa hr=>?_;have gk:∀i,kk key o6.toArray i=key (o6.getD i 0):=λi=>by unfold kk;rw[List.getElem?_toArray,TF]
    refine⟨o6.toArray,by rw[hr];show Bk _ r6.2.1=_;rw[ar];unfold Bk;simp,by rw[hr],⟨by unfold Ef;rw[T];exact wx7,λi j ah hj=>?_⟩,aa,rfl⟩;rw[T]at hj;rw[gk,gk];exact kt5 (by rw[af _ _ (v9 j hj) (v9 i (by lia))];exact yo3 j hj i (by lia) ah)
  refine BX (GK run ?_ λ_ _ z=>z);rintro⟨⟨⟩,o⟩ s' ⟨p,aj,hf,⟨hp,hs⟩,G,rfl⟩;dsimp only;have ag:=kat_snds rfl aj;have ai:(RZ (p.toList.map λi=>vs.getD i Value.none)).size=vs.length:=by rw[MK,GQ,bD,hp.size]
  rw[ag];refine BX (YW I rfl ?_);refine BX (VR I rfl ?_ (RX _) (by show(RZ (p.toList.map λi=>vs.getD i Value.none)).size<=_;rw[ai,CG];lia));rw[hf];simp only[bne_self_eq_false,VJ,if_false];exact EY (h p _ G hp hs (k1.trans (Bu.upd _ _)) ⟨_,SM I λ_=>RZ (p.toList.map λi=>vs.getD i Value.none)⟩)
end
section
variable {u:A_}{G:List A_->Prop}
def Pu{Q:A_->BK->Prop}(hc:aW prog w A.in1 s u G)
  (ha:∀h (h':CP) tk T,(∀b o,s.heap.get? b=some o->h'.get? b=some o)->G h->∃κ key,(h.length<64\/h.length=64/\∀i j,i<64->j<64->ltO (O:=Vh) key i j=t6 i j)/\Asks (O:=Vh) prog w A.in1.in1 {s with heap:=h'.push (KC "list" h.toArray 0),drawn:=T,toks:=tk} h'.objs.size h κ key /\
   ∀(p:Array Nat)(z:CP) r,Ef h.length p->Gd key p h.length->(∀b o,h'.get? b=some o->z.get? b=some o)->(∃e,z.get? h'.objs.size=some (KC "list" (RZ (p.toList.map λi=>h.getD i .none)) e))->Q (.ref h'.objs.size) {s with heap:=z,drawn:=T,toks:=r}):
  BL (BV prog w) A (call (.builtin "sorted") [u]) Q E s:=by
 refine Calls.call_function_entry kind_sorted plain_sorted entry_sorted (args_sorted1 _) ?_;unfold HS.«sorted»;refine BX (m:=checkCount "sorted" 1 1 _) (EY ?_);refine BX (hc _ _ λh h' tk T k hz g=>?_);refine BX (wpAny_newList ?_ hz);obtain⟨κ,key,aa,q,ab⟩:=ha h h' tk T k g;have ho:(h'.push (KC "list" h.toArray 0)).get? h'.objs.size=some (KC "list" h.toArray 0):=K_ _ rfl;show BL _ _ _ _ _ {s with heap:=h'.push (KC "list" h.toArray 0),drawn:=T,toks:=tk};refine BX (HB (CZ slot_list_sort ⟨_,ho,rfl⟩ entry_list_sort ?_ (args_list_sort _)));refine yn2 ho aa q λp z r hp hs k2 e=>⟨_,rfl,?_⟩;refine EY ⟨_,rfl,ab p z r hp hs (λb o e=>?_) e⟩;exact k2 b o (MJ (HX e)) (JK _ e)
end
def Kh:List D->Option D
 | [d]=>match Jy d with
  |some xs=>if(xs.length<64\/xs.map keyOf=(List.range 64).map fW)/\(xs.length<2\/cG xs=true) then some (.lst (if xs.length<2 then xs else srt xs)) else none
  |none=>none
 |_=>none
section
variable {fs:Ev->R (List D)}
theorem ka3(hu:X.A.units+70<FW):Dh X (.builtin "sorted") (rCF X.K Kh):=by
 rintro ab s σ H ys us Q I r ⟨S,ds,d,rs,e,q⟩
 match ds,e with
 | [x],e =>
  obtain⟨v,rfl,rx⟩:=rs.one;obtain⟨u,rfl,ru⟩:=vals1 r;have go:∀(xs:List D)(a:BJ)(vs:List V)(its:List A_)(T:String)(o:GR)(n:Nat),Jy x=some xs->(T = "list"\/T = "tuple")->u=.ref a->s.heap.get? a=some o->o.cls=.type T->o.data=.seq its.toArray n->Vals vs its->Al X.K H S xs vs->vs.length<=sizeLine ->
    BL (BV X.prog X.w) X.A (call (.builtin "sorted") [u]) (EP X ab σ Q) X.xe s:=by
   intro xs a vs its T o n ex hT eu ho hc hd rv rr hz;subst eu;have hl:=rv.length;have ax:=rr.length;simp only[Kh,ex]at e;obtain⟨⟨aj,hk⟩,rfl⟩:=Bg e;have ba:xs.length<65:=aj.elim (λh=>by lia) λh=>by have:=congrArg List.length h;simp at this;lia
   refine Pu (G:=λws=>ws=its) (js6 hT ho hc hd (by rw[MK];lia)) λws h' tk d' k g=>?_;subst g;have I1:Inv X ab σ H {s with heap:=h',drawn:=d',toks:=tk}:=Qq I k;have ak:∀(key:Nat->Vh.α),(∀i d,xs[i]? = some d->key i=keyOf d)->∀(pr:Array Nat)(h2:CP) ag,Ef ws.length pr->Gd key pr ws.length->(∀b o,h'.get? b=some o->h2.get? b=some o)->(∃e,h2.get? h'.objs.size=some (KC "list" (RZ (pr.toList.map λi=>ws.getD i .none)) e)) ->
     EP X ab σ Q (.ref h'.objs.size) {s with heap:=h2,drawn:=d',toks:=ag}:=λkey aa pr h2 ag hp hs k2 e2=>by
    have en:ws.length=xs.length:=by lia
    have:=jy1 hk aa (by rw[<-en];exact hp) (by rw[<-en];exact hs);exact Sy I1 rr rv (by lia) hp k2 e2 λb ao H' s1 hb hv ar=>q b ao _ H' rfl s1 hb hv (by rw[<-this];exact ar)
   by_cases h2:xs.length<2
   ·have af:Asks (O:=Vh) X.prog X.w X.A.in1.in1 {s with heap:=h'.push (KC "list" ws.toArray 0),drawn:=d',toks:=tk} h'.objs.size ws YX (λi=>keyOf (xs.getD i .non)):=⟨λz=>by lia,λz=>by lia⟩;exact⟨_,_,.inl (by lia),af,ak _ λi d hd=>by rw[TF,hd];rfl⟩
   ·have ay:=hk.resolve_left h2;obtain⟨ai,r,er⟩:=jk1 ay;obtain⟨au,ae,aa⟩:=jw9 I1 (a:=h'.objs.size) (GX _) ai rr rv;have h0:∃ms,au=[]::ms:=by
     subst er;cases ae with
     |nil=>exact absurd (ax.trans hl) (by rw[PQ,jHf];exact Nat.succ_ne_zero _)
     |cons x r=>have:=aa 0 _ rfl;simp[keyOf,aP,Bj]at this;exact⟨_,by rw[this]⟩
    obtain⟨ms,rfl⟩:=h0;have aw:ws.length<64\/ws.length=64/\∀i j,i<64->j<64->ltO (O:=Vh) (λi=>(([]:List Int)::ms).getD i []) i j=t6 i j:=aj.imp (λh=>by lia) λah=>by
     have az:xs.length=64:=by have:=congrArg List.length ah;simpa using this
     refine⟨by lia,λi j hi hj=>?_⟩;have g:∀i,i<64->(([]:List Int)::ms).getD i []=fW i:=λi hi=>by have hx:xs[i]? = some xs[i]:=LR (by lia);rw[aa i _ hx];have:=congrArg (λl:List (List Int)=>l[i]?) ah;simpa[hx,hi] using this
     show Cz _ _=_;dsimp only;rw[g i hi,g j hj];exact zg0 i hi j hj
    exact⟨_,_,aw,ka1 (by show X.A.units+1+1<FW;lia) (Hv.keep (Bu.push _ _) ae),ak _ aa⟩
  cases x with
  |lst xs=>obtain⟨a,vs,rfl,ha,rr⟩:=rx;obtain⟨its,rv,pl,hz⟩:=I.list ha.sq;obtain⟨o,ho,hc,n,hd⟩:=pl.isList;exact go xs a vs its "list" o n rfl (.inl rfl) ru ho hc hd rv rr hz
  |tup xs=>obtain⟨a,vs,rfl,ha,rr⟩:=rx;obtain⟨its,rv,pl,hz⟩:=I.tuple (TpR.sq ha);obtain⟨o,ho,hc,n,hd⟩:=pl;exact go xs a vs its "tuple" o n rfl (.inr rfl) ru ho hc hd rv rr hz
  |_=>simp[Kh,Jy]at e
def kw7(o:X.A.units+70<FW)(r:X.mg "sorted" = none)(G:PAd X c l (e::es) fs)(u:Gl X "sorted":=by rfl)(z:Zs X.env e es:=by rfl)(h:Zp X.env pos es:=by rfl):
  PEf X c l (.Call (.Name "sorted" p) (e::es) [] pos) (bA fs Kh):=zJ (ka3 o) PyProof.Rows.boot_sorted r G u (by decide) (by decide) z h
theorem jp7:∀ρ d,bA fs Kh ρ=.ok d->∃u,d=.lst u:=λρ d h=>by
 unfold bA at h;cases o:fs ρ with
 |ok xs =>
  rw[o]at h;simp only[R.ok_bind]at h
  match xs,h with
  | [x],h =>
   unfold Kh at h;dsimp only at h;cases r:Jy x with
   |none=>rw[r]at h;cases h
   |some z =>
    rw[r]at h;dsimp only at h;split at h
    ·cases h;exact⟨_,rfl⟩
    ·cases h
  | [],h=>cases h
  |_::_::_,h=>cases h
 |exc _=>rw[o]at h;cases h
 |bad=>rw[o]at h;cases h
variable {r:HY}
theorem kq1:Dh X (.builtin "sorted") (rCF X.K Jz):=by
 rintro ab s σ H ys us Q I r ⟨S,ds,d,rs,e,q⟩
 match ds,e with
 | [x],e =>
  obtain⟨v,rfl,rx⟩:=rs.one;obtain⟨u,rfl,ru⟩:=vals1 r;have go:∀(xs:List D)(a:BJ)(vs:List V)(its:List A_)(T:String)(o:GR)(n:Nat),Jy x=some xs->(T = "list"\/T = "tuple")->u=.ref a->s.heap.get? a=some o->o.cls=.type T->o.data=.seq its.toArray n->Vals vs its->Al X.K H S xs vs->vs.length<=sizeLine ->
    BL (BV X.prog X.w) X.A (call (.builtin "sorted") [u]) (EP X ab σ Q) X.xe s:=by
   intro xs a vs its T o n ex hT eu ho hc hd rv rr hz;subst eu;have hl:=rv.length;have ao:=rr.length;simp only[Jz,ex]at e;obtain⟨⟨ar,hk⟩,rfl⟩:=Bg e;refine Pu (G:=λws=>ws=its) (js6 hT ho hc hd (by rw[MK];lia)) λws h' tk d' k g=>?_;subst g;have I1:Inv X ab σ H {s with heap:=h',drawn:=d',toks:=tk}:=Qq I k;have af:∀(key:Nat->Vh.α),(∀i d,xs[i]? = some d->key i=keyOf d)->∀(pr:Array Nat)(h2:CP) ah,Ef ws.length pr->Gd key pr ws.length->(∀b o,h'.get? b=some o->h2.get? b=some o)->(∃e,h2.get? h'.objs.size=some (KC "list" (RZ (pr.toList.map λi=>ws.getD i .none)) e)) ->
     EP X ab σ Q (.ref h'.objs.size) {s with heap:=h2,drawn:=d',toks:=ah}:=λkey h pr h2 ah hp hs k2 e2=>by
    have en:ws.length=xs.length:=by lia
    have:=jb9 hk h (by rw[<-en];exact hp) (by rw[<-en];exact hs);exact Sy I1 rr rv (by lia) hp k2 e2 λb ai H' s1 hb hv aj=>q b ai _ H' rfl s1 hb hv (by rw[<-this];exact aj)
   by_cases h2:xs.length<2
   ·have ag:Asks (O:=Vh) X.prog X.w X.A.in1.in1 {s with heap:=h'.push (KC "list" ws.toArray 0),drawn:=d',toks:=tk} h'.objs.size ws YX (λi=>keyOf (xs.getD i .non)):=⟨λz=>by lia,λz=>by lia⟩;exact⟨_,_,.inl (by lia),ag,af _ λi d hd=>by rw[TF,hd];rfl⟩
   ·have aa:=hk.resolve_left h2;unfold Ea at aa;rw[cM]at aa;rcases aa with aa |aa
    ·obtain⟨ns,e1,hn,h⟩:=ju5 aa;exact⟨_,_,.inl (by lia),je6 (ints_of rr rv e1),af _ h⟩
    ·obtain⟨ak,ae,h⟩:=kn1 I1 (a:=h'.objs.size) (GX _) aa rr rv;exact⟨_,_,.inl (by lia),kp9 ae.push,af _ h⟩
  cases x with
  |lst xs=>obtain⟨a,vs,rfl,ha,rr⟩:=rx;obtain⟨its,rv,pl,hz⟩:=I.list ha.sq;obtain⟨o,ho,hc,n,hd⟩:=pl.isList;exact go xs a vs its "list" o n rfl (.inl rfl) ru ho hc hd rv rr hz
  |tup xs=>obtain⟨a,vs,rfl,ha,rr⟩:=rx;obtain⟨its,rv,pl,hz⟩:=I.tuple (TpR.sq ha);obtain⟨o,ho,hc,n,hd⟩:=pl;exact go xs a vs its "tuple" o n rfl (.inr rfl) ru ho hc hd rv rr hz
  |_=>simp[Jz,Jy]at e
theorem ka2(hc:X.calm=true):Dh X (.builtin "sorted") (ze3 X.K X.prog X.w):=by
 rintro aa s σ H ys us Q I r ⟨a,ns,e,ha,hn,q⟩;subst e;refine Aw (λu ai ru=>?_) (vals1 r);obtain rfl:=ai;cases ru;refine gH (λah _ _=>?_) (I.hok a _ ha);revert ah;refine Aw λo ho hD=>?_;refine Pu (G:=xG ns) (wb2 (A:=X.A.in1) (by simpa using I.ok.hd hc) ho hD) λws h' tk d' k g=>?_;revert g;refine vJ λz hi aj ab _=>?_;have I1:Inv X aa σ H {s with heap:=h',drawn:=d',toks:=tk}:=Qq I k;have pm:z.Perm (Oi ns):=(m_ aj (G9 ns)).mpr λk=>(ab k).trans (Gm k ns).symm;have lm:z.length=ws.length:=(IntsAre.length hi).symm;have ao:ws.length<64:=by have h1:=pm.length_eq;have h2:=jt1 ns;lia
 refine⟨_,_,.inl (by lia),je6 hi,λpr h2 ak hp hs k2 e2=>?_⟩;refine Sy I1 (S:=λ_=>True) (Mg z) (J3 hi) (by rw[CG];lia) hp k2 e2 λb ae H' s1 hb hv af=>q b ae H' s1 hb hv λS=>?_;have ek:∀i d,(z.map D.int)[i]? = some d->[z.getD i 0]=keyOf d:=λi d T=>by
  rw[RB]at T;cases em:z[i]? with
  |none=>rw[em]at T;cases T
  |some m=>rw[em]at T;cases T;rw[TF,em];rfl
 have en:(z.map D.int).length=ws.length:=by rw[GQ,lm]
 have:=jb9 (xs:=z.map D.int) (p:=pr) (key:=λi=>[z.getD i 0]) (.inr (Vf z)) ek (by rw[en];exact hp) (by rw[en];exact hs);have e3:dF ns=pr.toList.map λi=>(z.map D.int).getD i .non:=by rw[this];unfold dF;rw[<-Wy (Vf _) (pm.map D.int)];simp_all [D.int,jj1]
 rw[e3];refine Ui _ _ ?_ af;have:∀ds:List D,(∀d∈ds,d.imm=true)->Ft ds=true:=λds=>by
  induction ds with
  |nil=>intro _;rfl
  |cons d ds ih=>intro h;rw[Ft,h d J_,ih λx hx=>h x (JB _ hx)];rfl
 refine this _ λd T=>?_;refine Aw (λi _ ag=>?_) (I_.mp T);obtain rfl:=ag;rw[TF,RB];cases z[i]? <;> rfl
theorem jp8(hc:X.calm=true)(hm:X.mg "sorted" = none)(ae:X.mg "set" = none)(ha:PAd X c l (e::es) fs)(hg:Gl X "sorted":=by rfl)(af:Gl X "set":=by rfl)(he:Zs X.env e es:=by rfl)
  (ab:Zp X.env r es:=by rfl)(aa:BP [.Call (.Name "set" M) (e::es) [] r] X.env=(false,CV (.Call (.Name "set" M) (e::es) [] r) X.env)::BP [] X.env:=by rfl)(G:Zp X.env pos []:=by rfl):
  PEf X c l (.Call (.Name "sorted" p) [.Call (.Name "set" M) (e::es) [] r] [] pos) (bA fs Dn):=
 PE.imp (Ma (ka2 hc) hg hm PyProof.Rows.boot_sorted (Eb (Hi (wZ hc) af ae PyProof.Rows.boot_set ha (by decide) (by decide) he ab) Jf aa) (by decide) (by decide) aa G) λσ H Q q=>by
 revert q;refine Ce λhs ρ E q=>?_;refine Ck E ((RQ.bind.mp q).mono (λds q1 vs H1 s1 E1 r1 hn=>?_) λ_ z=>z);refine Aw (λd e' q2=>?_) (q1.of);unfold Dn at e';cases h:K5 ds with
 |none=>rw[h]at e';cases e'
 |some u =>
  rw[h]at e';cases e';have T:u.length<64:=by
   obtain⟨x',rfl⟩:=inv1 h rfl (λx _ _=>by cases x<;>rfl);cases x' with
   |lst xs=>have ag:(if xs.length<64 then Bj xs else none)=some u:=h;grind [jg9]
   |_=>exact nos h
  refine⟨_,ds,u,r1,h,λa ha=>⟨a,u,rfl,Ak,T,λb ws H' s2 hb hv rr=>?_⟩⟩;have sn:=Av (o:=HO.ext (eZ X.prog X.w a u)) ha;exact q2 b ws _ H' rfl ((s1.trans sn).trans s2) ((s1.trans sn).free hb) hv (rr _)
def Ww(hc:X.calm=true)(hm:X.mg "sorted" = none)(z:X.mg "set" = none)(ha:PAd X c l (e::es) fs)(hg:Gl X "sorted":=by rfl)(G:Gl X "set":=by rfl)(he:Zs X.env e es:=by rfl)
  (u:Zp X.env r es:=by rfl)(T:BP [.Call (.Name "set" M) (e::es) [] r] X.env=(false,CV (.Call (.Name "set" M) (e::es) [] r) X.env)::BP [] X.env:=by rfl)(o:Zp X.env pos []:=by rfl):
  PEd X c l (.Call (.Name "sorted" p) [.Call (.Name "set" M) (e::es) [] r] [] pos) (bA fs Dn):=PEf.d (jp8 hc hm z ha hg G he u T o) λ_ _ h=>jd9 h
def wm9(o:X.mg "sorted" = none)(G:PAd X c l (e::es) fs)(u:Gl X "sorted":=by rfl)(z:Zs X.env e es:=by rfl)(h:Zp X.env pos es:=by rfl):
  PEf X c l (.Call (.Name "sorted" p) (e::es) [] pos) (bA fs Jz):=zJ kq1 PyProof.Rows.boot_sorted o G u (by decide) (by decide) z h
end
def aq{fs:Ev->R (List D)}(h1:PEd X c l e f)(o:PAd X c l es fs)(h:Zs X.env e es):PAd X c l (e::es) (zv f fs):=ac h1 o h
def uki{i:Int}:PEd X c .no (Expr.Constant (.int i) j pos) (kd (.int i)):=u1 ki
def uks:PEd X c .no (Expr.Constant (.str x) j pos) (kd (.str x)):=u1 ks
def cQ{fs:Ev->R (List D)}{k:Nat}{ps:List BR}(u:Ed j X.A)(F:FnC X.prog X.w X.K X.mg X.base k x ps n m)(ha:PAd X c l (e::es) fs)(G:Nat.ble k j=true:=by rfl)(z:(e::es).length=n:=by rfl)(h:ps.length=n:=by rfl)(T:Gl X x:=by rfl)
  (r:Zd x:=by decide)(he:Zs X.env e es:=by rfl)(o:Zp X.env pos es:=by rfl):
  PEd X c l (.Call (.Name x p) (e::es) [] pos) (cl fs m):=callC F (u.mono (Nat.le_of_ble_eq_true G)) ha z h T r he o
def fq{f:BJ}{N ps:List BR}{k:Nat}{g:Ev->R Fl}(F:Fun K x qual st f fd)(S:Bt N ps (Ag st))
  (h:∀{cdv:A_}{A:D_}{o:List LK}{s:BK}{H:Hp}{E:XK}{z:AS},Ed k (A.deeper (HJ qual (Ag st) s.heap.objs.size f cdv))->(A.deeper (HJ qual (Ag st) s.heap.objs.size f cdv)).units+70<FW->N.Nodup ->
   ZD (W7 CX0 P w K mg base N qual (Ag st) f cdv A o s H E).nox ⟨H,z,[],Dq,[]⟩ (Br st) g):
  Ec P w K mg base CX0 (k+1) f fd ps (sp0 K ps.length (Bh N.length g)):=eQ (O:=[]) F S rfl λ_ _ _ _ _ _ _ u r=>h u r S.nd
end PD
namespace Gr
abbrev Af:=List (Nat×Nat)
inductive Bl(es:Af):Nat->Nat->Prop
 |refl (i:Nat):Bl es i i
 |tie {a b:Nat}:(a,b)∈es->Bl es a b
 |symm {a b:Nat}:Bl es a b->Bl es b a
 |trans {a b c:Nat}:Bl es a b->Bl es b c->Bl es a c
variable {es:Af}{i j:Nat}
def Bl.mono{fs:Af}(h:∀e∈es,e∈fs)(c:Bl es i j):Bl fs i j:=by
 induction c with
 |refl i=>exact .refl i
 |tie m=>exact .tie (h _ m)
 |symm _ f=>exact f.symm
 |trans _ _ b a=>exact b.trans a
def Bl.closed{P:Nat->Prop}(h:∀a b,(a,b)∈es->(P a↔P b))(c:Bl es i j):P i↔P j:=by
 induction c with
 |refl i=>exact Iff.rfl
 |tie m=>exact h _ _ m
 |symm _ g=>exact g.symm
 |trans _ _ f e=>exact f.trans e
variable {a b:Nat}
def U5:Bl (es++[(a,b)]) i j↔Bl es i j\/(Bl es i a/\Bl es b j)\/(Bl es i b/\Bl es a j):=by
 have up:∀{x y},Bl es x y->Bl (es++[(a,b)]) x y:=λc=>c.mono λe r=>jC _ r;have tie:Bl (es++[(a,b)]) a b:=.tie (UJ _ (PX.mpr rfl));constructor
 ·intro c;induction c with
  |refl i=>exact .inl (.refl i)
  |tie m =>
   rcases S_.mp m with m |m
   ·exact .inl (.tie m)
   ·cases PX.mp m;exact .inr (.inl ⟨.refl _,.refl _⟩)
  |symm _ q =>
   rcases q with h | ⟨f,g⟩ | ⟨f,g⟩
   ·exact .inl h.symm
   ·exact .inr (.inr ⟨g.symm,f.symm⟩)
   ·exact .inr (.inl ⟨g.symm,f.symm⟩)
  |trans _ _ p o =>
   rcases p with h | ⟨f,g⟩ | ⟨f,g⟩<;>rcases o with k | ⟨n,l⟩ | ⟨n,l⟩
   ·exact .inl (h.trans k)
   ·exact .inr (.inl ⟨h.trans n,l⟩)
   ·exact .inr (.inr ⟨h.trans n,l⟩)
   ·exact .inr (.inl ⟨f,g.trans k⟩)
   ·exact .inr (.inl ⟨f,l⟩)
   ·exact .inl (f.trans l)
   ·exact .inr (.inr ⟨f,g.trans k⟩)
   ·exact .inl (f.trans l)
   ·exact .inr (.inr ⟨f,l⟩)
 ·rintro(h | ⟨f,g⟩ | ⟨f,g⟩)
  ·exact up h
  ·exact((up f).trans tie).trans (up g)
  ·exact((up f).trans tie.symm).trans (up g)
def Hg(l:List Nat)(x y:Nat):List Nat:=l.map λz=>if z=x\/z=y then min x y else z
def Dd(n:Nat)(es:Af):List Nat:=es.foldl (λl e=>Hg l (l.getD e.1 0) (l.getD e.2 0)) (List.range n)
def lab(n:Nat)(es:Af)(i:Nat):Nat:=(Dd n es).getD i 0
def Ss(n:Nat)(es:Af):(Dd n es).length=n:=by
 unfold Dd;have:∀(es:Af)(l:List Nat),(es.foldl (λl e=>Hg l (l.getD e.1 0) (l.getD e.2 0)) l).length=l.length:=by
  intro es;induction es with
  |nil=>intro l;rfl
  |cons e es c=>intro l;rw[mO,c];simp[Hg]
 rw[this,WQ]
def Wj(n:Nat)(es:Af)(e:Nat×Nat):Dd n (es++[e])=Hg (Dd n es) (lab n es e.1) (lab n es e.2):=by unfold Dd lab;rw[jGx];rfl
theorem Zq(n:Nat)(es:Af)(a b i:Nat)(g:i<n):lab n (es++[(a,b)]) i=if lab n es i=lab n es a\/lab n es i=lab n es b then min (lab n es a) (lab n es b) else lab n es i:=by
 have f:=Ss n es;show(Dd n (es++[(a,b)])).getD i 0=_;rw[Wj];have c:i<(Dd n es).length:=by lia
 unfold Hg;rw[TF,RB,LR c];have e:lab n es i=(Dd n es)[i]:=by unfold lab;rw[TF,LR c];rfl
 rw[e];rfl
def InW(n:Nat)(es:Af):Prop:=∀e∈es,e.1<n/\e.2<n
structure V0(n:Nat)(es:Af)(L:Nat->Nat):Prop where
 le:∀i,i<n->L i<=i
 idem:∀i,i<n->L (L i)=L i
 conn:∀i j,i<n->j<n->(L i=L j↔Bl es i j)
def Qv(n i:Nat)(c:i<n):lab n [] i=i:=by unfold lab Dd;simp[c]
def Th:Bl [] i j↔i=j:=by
 constructor
 ·intro c;have:=Bl.closed (es:=[]) (P:=λx=>x=i) (λa b h=>by cases h) c;exact(this.mp rfl).symm
 ·rintro rfl;exact .refl _
theorem M8(n:Nat):∀es:Af,InW n es->V0 n es (lab n es):=by
 have step:∀(es:Af)(a b:Nat),a<n->b<n->V0 n es (lab n es)->V0 n (es++[(a,b)]) (lab n (es++[(a,b)])):=by
  intro es a b q p L;have w:=L.le a q;have v:=L.le b p;have A:=L.idem a q;have z:=L.idem b p;have s:=Zq n es a b;generalize F:lab n es=f at L w v A z s;generalize E:lab n (es++[(a,b)])=g at s;refine⟨λi c=>?_,λi c=>?_,λi j c l=>?_⟩
  ·rw[s i c];have:=L.le i c;lia
  ·have C:g i<=i:=by
    rw[s i c];have:=L.le i c;split
    ·rename_i h;rcases h with h |h<;>lia
    ·exact this
   grind [iR,ZM,bB,L.idem]
  ·rw[U5,<-L.conn i j c l,<-L.conn i a c q,<-L.conn b j p l,<-L.conn i b c p,<-L.conn a j q l,s i c,s j l];lia
 intro es;have gen:∀k (es:Af),es.length=k->InW n es->V0 n es (lab n es):=by
  intro k;induction k with
  |zero =>
   intro es o _;cases es with
   |nil=>exact⟨λi c=>by rw[Qv n i c];exact GX _,λi c=>by rw[Qv n i c,Qv n i c],λi j c l=>by rw[Qv n i c,Qv n j l,Th]⟩
   |cons _ _=>simp at o
  |succ k y =>
   intro es o r;rcases List.eq_nil_or_concat es with rfl | ⟨u,e,rfl⟩
   ·simp at o
   ·rw[List.concat_eq_append]at o r ⊢;have m:u.length=k:=by simpa using o
    have:=r e (UJ _ (PX.mpr rfl));exact step u e.1 e.2 this.1 this.2 (y u m λx B=>r x (jC _ B))
 exact gen _ es rfl
variable {n:Nat}
theorem Zr{fs:Af}{L M:Nat->Nat}(g:V0 n es L)(e:V0 n fs M)(h:∀i j,i<n->j<n->(Bl es i j↔Bl fs i j))(f:i<n):L i=M i:=by
 have key:∀{es fs:Af}{L M:Nat->Nat},V0 n es L->V0 n fs M->(∀i j,i<n->j<n->(Bl es i j↔Bl fs i j))->L i<=M i:=by intro es fs L M g e h;have m:=e.le i f;have c:Bl fs (M i) i:=(e.conn (M i) i (by lia) f).mp (e.idem i f);have:=(g.conn (M i) i (by lia) f).mpr ((h _ _ (by lia) f).mpr c);have l:=g.le (M i) (by lia);lia
 exact Nat.le_antisymm (key g e h) (key e g λi j a b=>(h i j a b).symm)
def wg9{fs:Af}(f:InW n es)(h:∀e,e∈es↔e∈fs)(g:i<n):lab n es i=lab n fs i:=
 Zr (M8 n es f) (M8 n fs λe z=>f e ((h e).mpr z)) (λi j _ _=>⟨λc=>c.mono λe z=>(h e).mp z,λc=>c.mono λe z=>(h e).mpr z⟩) g
def Bw(n:Nat)(es:Af):List Nat:=(List.range n).filter λi=>lab n es i=i
def cls(n:Nat)(es:Af)(m:Nat):List Nat:=(List.range n).filter λi=>lab n es i=m
variable {m:Nat}
def Ds:m∈Bw n es↔m<n/\lab n es m=m:=by simp[Bw]
def qG(h:InW n es)(c:i<n):lab n es i<n:=RT ((M8 n es h).le i c) c
theorem Jx(h:InW n es)(c:i<n):lab n es i∈Bw n es:=Ds.mpr ⟨qG h c,(M8 n es h).idem i c⟩
def ku6{fs:Af}(f:InW n es)(h:∀e,e∈es↔e∈fs):Bw n es=Bw n fs:=by unfold Bw;apply t8;intro i c;rw[wg9 f h (MT.mp c)]
def Nb(n:Nat)(es:Af):(Bw n es).Nodup:=List.Pairwise.filter _ List.nodup_range
theorem ku7(h:InW n es)(o:a<n)(l:b<n):(Bw n (es++[(a,b)])).length<=(Bw n es).length/\(Bw n es).length<=(Bw n (es++[(a,b)])).length+1:=by
 have L:=M8 n es h;have s:=Zq n es a b;have sub:∀i∈Bw n (es++[(a,b)]),i∈Bw n es:=λi f=>by obtain⟨c,g⟩:=Ds.mp f;refine Ds.mpr ⟨c,?_⟩;rw[s i c]at g;grind [L.idem,iR,ZM,bB]
 have sup:∀i∈Bw n es,i∈max (lab n es a) (lab n es b)::Bw n (es++[(a,b)]):=λi f=>by
  obtain⟨c,g⟩:=Ds.mp f;by_cases e:i=max (lab n es a) (lab n es b)
  ·simp_all
  ·refine JB _ (Ds.mpr ⟨c,?_⟩);rw[s i c,g];lia
 exact⟨List.Nodup.length_le_of_subset (Nb _ _) sub,by
  have:=List.Nodup.length_le_of_subset (Nb n es) sup;simpa using this⟩
theorem ku5(h:InW n es)(r:a<n)(q:b<n)(c:Bl es a b):Bw n (es++[(a,b)])=Bw n es:=by
 have p:InW n (es++[(a,b)]):=λe f=>by
  rcases S_.mp f with f |f
  ·exact h e f
  ·simp_all
 unfold Bw;apply t8;intro i o;have:lab n (es++[(a,b)]) i=lab n es i:=Zr (M8 n _ p) (M8 n es h) (λi j _ _=>by
  rw[U5];constructor
  ·rintro(z | ⟨l,g⟩ | ⟨l,g⟩)
   ·exact z
   ·exact(l.trans c).trans g
   ·exact(l.trans c.symm).trans g
  ·exact .inl) (MT.mp o)
 rw[this]
theorem wi0(h:InW n es)(g:a<n)(f:b<n)(c:¬ Bl es a b):(Bw n (es++[(a,b)])).length+1=(Bw n es).length:=by
 have r:=ku7 h g f;have L:=M8 n es h;have s:=Zq n es a b;have ne:lab n es a≠lab n es b:=λz=>c ((L.conn a b g f).mp z);have q:max (lab n es a) (lab n es b)∈Bw n es:=by
  rcases iR (lab n es a) (lab n es b) with z |z
  ·rw[tX z];exact Jx h f
  ·rw[mL z];exact Jx h g
 have l:max (lab n es a) (lab n es b)∉Bw n (es++[(a,b)]):=λz=>by obtain⟨o,p⟩:=Ds.mp z;grind
 have sub:∀i∈max (lab n es a) (lab n es b)::Bw n (es++[(a,b)]),i∈Bw n es:=λi e=>by
  rcases JN.mp e with rfl |e
  ·exact q
  ·obtain⟨o,p⟩:=Ds.mp e;refine Ds.mpr ⟨o,?_⟩;rw[s i o]at p;grind [L.idem,iR,ZM,bB]
 have:=List.Nodup.length_le_of_subset (R_.mpr ⟨l,Nb n _⟩) sub;grind
def yv1(n:Nat)(es:Af):Prop:=es≠[]/\n<(Bw n es).length+es.length/\∀f e c,es=f++e::c->n=(Bw n (f++c)).length+(f++c).length
def cc(n:Nat)(es:Af):Nat:=(Bw n es).length
def Hr{fs:Af}(c:InW n es)(h:∀e,e∈es↔e∈fs):cc n es=cc n fs:=by unfold cc;rw[ku6 c h]
def R0(n:Nat):cc n []=n:=by unfold cc Bw;rw[List.filter_eq_self.mpr (λi c=>by simp[Qv n i (MT.mp c)]),WQ]
variable {e:Nat×Nat}
def Bd:InW n (e::es)↔(e.1<n/\e.2<n)/\InW n es:=
 ⟨λh=>⟨h e J_,λf c=>h f (JB _ c)⟩,λh f c=>(JN.mp c).elim (λz=>z ▸ h.1) (h.2 f)⟩
def jx7{f:Nat×Nat}:f∈e::es↔f∈es++[e]:=by simp[or_comm]
theorem V4(h:InW n ((a,b)::es))(c:Bl es a b):cc n ((a,b)::es)=cc n es:=by obtain⟨⟨o,l⟩,g⟩:=Bd.mp h;rw[Hr h (λf=>jx7)];unfold cc;rw[ku5 g o l c]
theorem M4(h:InW n ((a,b)::es))(c:¬ Bl es a b):cc n ((a,b)::es)+1=cc n es:=by obtain⟨⟨o,l⟩,g⟩:=Bd.mp h;rw[Hr h (λf=>jx7)];exact wi0 g o l c
theorem Yl(h:InW n (e::es)):cc n (e::es)<=cc n es/\cc n es<=cc n (e::es)+1:=by
 obtain⟨a,b⟩:=e;by_cases c:Bl es a b
 ·rw[V4 h c];lia
 ·have:=M4 h c;lia
theorem Ym(n:Nat):∀es:Af,InW n es->n<=es.length+cc n es
 | [],_=>by rw[R0];simp
 |e::es,h=>by have f:=Ym n es (Bd.mp h).2;have c:=Yl h;grind
theorem zH(n:Nat):∀(fs es:Af),InW n (fs++es)->cc n (fs++es)<=cc n es
 | [],_,_=>GX _
 |f::fs,es,h=>by rw[cN]at h ⊢;exact QG (Yl h).1 (zH n fs es (Bd.mp h).2)
def kj2{fs:Af}(h:InW n fs)(hs:∀e∈es,e∈fs):cc n fs<=cc n es:=by have g:InW n (fs++es):=λe c=>(S_.mp c).elim (h e) λz=>h e (hs e z);have e:cc n fs=cc n (fs++es):=Hr h λf=>⟨λz=>jC _ z,λz=>(S_.mp z).elim id (hs f)⟩;rw[e];exact zH n fs es g
def cp(a b p:Nat):Nat:=if p=b then a else if b<p then p - 1 else p
def ct(a b:Nat)(e:Nat×Nat):Nat×Nat:=(min (cp a b e.1) (cp a b e.2),max (cp a b e.1) (cp a b e.2))
def up(b p:Nat):Nat:=if p<b then p else p+1
theorem wW{p:Nat}(c:a<b)(g:b<n)(f:p<n):cp a b p<n - 1:=by unfold cp;split<;>(try split)<;>lia
theorem pJ(c:a<b)(l:b<n)(h:InW n es):InW (n - 1) (es.map (ct a b)):=λe o=>by obtain⟨f,g,rfl⟩:=I_.mp o;have q:=wW c l (h f g).1;have p:=wW c l (h f g).2;unfold ct;lia
theorem kj4{c d:Nat}(h:(c,d)∈es):Bl (es.map (ct a b)) (cp a b c) (cp a b d):=by
 have l:ct a b (c,d)∈es.map (ct a b):=I_.mpr ⟨_,h,rfl⟩;have f:Bl (es.map (ct a b)) (ct a b (c,d)).1 (ct a b (c,d)).2:=Bl.tie l;unfold ct at f;dsimp only at f;by_cases g:cp a b c<=cp a b d
 ·rw[ZM g,tX g]at f;exact f
 ·rw[bB (by lia),mL (by lia)]at f;exact f.symm
theorem ws3(o:a<b){x y:Nat}:Bl ((a,b)::es) x y↔Bl (es.map (ct a b)) (cp a b x) (cp a b y):=by
 have v:cp a b a=a:=by unfold cp;rw[if_neg (by lia),if_neg (by lia)]
 have u:cp a b b=a:=by unfold cp;rw[if_pos rfl]
 have back:∀x,Bl ((a,b)::es) x (up b (cp a b x)):=λx=>by
  by_cases h:x=b
  ·subst h;rw[u];have:up x a=a:=by unfold up;rw[if_pos o]
   rw[this];exact(Bl.tie J_).symm
  ·have:up b (cp a b x)=x:=by unfold cp up;rw[if_neg h];split<;>split<;>lia
   rw[this];exact Bl.refl _
 constructor
 ·intro c;refine(Bl.closed (P:=λj=>Bl (es.map (ct a b)) (cp a b x) (cp a b j)) (λc d g=>?_) c).mp (Bl.refl _);rcases JN.mp g with e |h
  ·lia
  ·exact⟨λz=>z.trans (kj4 h),λz=>z.trans (kj4 h).symm⟩
 ·intro c;have s:Bl ((a,b)::es) x (up b (cp a b y)):=by
   refine(Bl.closed (P:=λj=>Bl ((a,b)::es) x (up b j)) (λc d g=>?_) c).mp (back x);obtain⟨⟨p,q⟩,r,e⟩:=I_.mp g;have f:Bl ((a,b)::es) (up b (cp a b p)) (up b (cp a b q)):=(back p).symm.trans ((Bl.tie (JB _ r)).trans (back q));unfold ct at e;dsimp only at e;cases e;by_cases l:cp a b p<=cp a b q
   ·rw[ZM l,tX l];exact⟨λz=>z.trans f,λz=>z.trans f.symm⟩
   ·rw[bB (by lia),mL (by lia)];exact⟨λz=>z.trans f.symm,λz=>z.trans f⟩
  exact s.trans (back y).symm
theorem pK{n a b:Nat}(g:a<b)(l:b<n):∀es:Af,InW n es->cc (n - 1) (es.map (ct a b))=cc n ((a,b)::es)
 | [],_=>by
  have h:InW n [(a,b)]:=λe r=>by rw[PX.mp r];exact⟨by omega,l⟩
  have:=M4 (es:=[]) h (λc=>by have:=Th.mp c;omega);rw[R0]at this;rw[cL,R0];omega
 |f::es,h=>by
  have v:=pK g l es (Bd.mp h).2;have u:InW n ((a,b)::es):=Bd.mpr ⟨⟨by omega,l⟩,(Bd.mp h).2⟩;have s:InW n ((a,b)::f::es):=Bd.mpr ⟨⟨by omega,l⟩,h⟩;have x:InW n (f::(a,b)::es):=Bd.mpr ⟨(Bd.mp h).1,u⟩;rw[Hr s (λe=>by simp only[JN];exact⟨λz=>z.elim (λz=>.inr (.inl z)) λz=>z.elim .inl λz=>.inr (.inr z),λz=>z.elim (λz=>.inr (.inl z)) λz=>z.elim .inl λz=>.inr (.inr z)⟩:∀e,e∈(a,b)::f::es↔e∈f::(a,b)::es),HH];have w:InW (n - 1) (ct a b f::es.map (ct a b)):=by rw[<-HH];exact pJ g l h
  obtain⟨p,q⟩:=f;have key:Bl (es.map (ct a b)) (ct a b (p,q)).1 (ct a b (p,q)).2↔Bl ((a,b)::es) p q:=by
   rw[ws3 g];unfold ct;dsimp only;by_cases o:cp a b p<=cp a b q
   ·lia
   ·grind [bB,mL,Bl.symm]
  by_cases c:Bl ((a,b)::es) p q
  ·grind [V4]
  ·grind [M4]
def subs:Af->List Af
 | []=>[[]]
 |e::ts=>subs ts++(subs ts).map (e::·)
theorem Hy:∀(ts:Af)(A:Af),A∈subs ts->∀e∈A,e∈ts
 | [],A,h,e,c=>by rw[PX.mp h]at c;exact c
 |f::ts,A,h,e,c=>by
  rcases S_.mp h with h |h
  ·exact JB _ (Hy ts A h e c)
  ·obtain⟨B,g,rfl⟩:=I_.mp h;rcases JN.mp c with z |z
   ·simp_all
   ·exact JB _ (Hy ts B g e z)
theorem jy3(g:Nat×Nat->Nat×Nat):∀c:Af,subs (c.map g)=(subs c).map (·.map g)
 | []=>rfl
 |e::c=>by rw[HH,subs,subs,jy3 g c,N_,KQ,KQ];rfl
def term(n:Nat)(E:Af)(u v:Int)(A:Af):Int:=u ^ (cc n A - cc n E) * v ^ (A.length+cc n A - n)
def SS(n:Nat)(ts:Af)(u v:Int):Int:=((subs ts).map (term n ts u v)).sum
theorem Py{c:Type}(k:Int)(f:c->Int):∀l:List c,(l.map λx=>k * f x).sum=k * (l.map f).sum
 | []=>by simp
 |a::l=>by rw[HH,RP,Py k f l,HH,RP,Int.mul_add]
def Cu{c:Type}{f g:c->Int}{l:List c}(h:∀a∈l,f a=g a):(l.map f).sum=(l.map g).sum:=by rw[SJ h]
def yh7(n:Nat)(u v:Int):SS n [] u v=1:=by simp[SS,subs,term,R0]
def sZ(n:Nat)(e:Nat×Nat)(ts:Af)(u v:Int):SS n (e::ts) u v=((subs ts).map (term n (e::ts) u v)).sum+((subs ts).map λA=>term n (e::ts) u v (e::A)).sum:=by unfold SS;rw[subs,N_,XR,KQ];rfl
variable {ts:Af}
theorem kh9(h:InW n ((a,a)::ts))(u v:Int):SS n ((a,a)::ts) u v=(1+v) * SS n ts u v:=by
 have l:=(Bd.mp h).2;have c:∀A∈subs ts,InW n A:=λA c e o=>l e (Hy ts A c e o);have g:cc n ((a,a)::ts)=cc n ts:=V4 h (Bl.refl _);rw[sZ];have r:((subs ts).map (term n ((a,a)::ts) u v)).sum=SS n ts u v:=Cu λA _=>by unfold term;rw[g]
 have q:((subs ts).map λA=>term n ((a,a)::ts) u v ((a,a)::A)).sum=v * SS n ts u v:=by unfold SS;rw[<-Py];refine Cu λA f=>?_;have s:=Ym n A (c A f);have p:cc n ((a,a)::A)=cc n A:=V4 (Bd.mpr ⟨(Bd.mp h).1,c A f⟩) (Bl.refl _);unfold term;rw[g,p,PQ,show A.length+1+cc n A - n=(A.length+cc n A - n)+1 by lia,aY];grind
 rw[r,q,Int.add_mul,Int.one_mul]
theorem Xd(f:a<b)(h:InW n ((a,b)::ts))(u v:Int):((subs ts).map λA=>term n ((a,b)::ts) u v ((a,b)::A)).sum=SS (n - 1) (ts.map (ct a b)) u v:=by obtain⟨⟨q,c⟩,g⟩:=Bd.mp h;have c:b<n:=c;unfold SS;rw[jy3,KQ];refine Cu λA o=>?_;have l:InW n A:=λe p=>g e (Hy ts A o e p);have r:=Ym n _ (Bd.mpr ⟨⟨q,c⟩,l⟩:InW n ((a,b)::A));rw[PQ]at r;show term _ _ _ _ _=term (n - 1) (ts.map (ct a b)) u v (A.map (ct a b));unfold term;rw[pK f c A l,pK f c ts g,GQ,PQ,show A.length+1+cc n ((a,b)::A) - n=A.length+cc n ((a,b)::A) - (n - 1) by lia]
def kh8(f:a<b)(h:InW n ((a,b)::ts))(c:Bl ts a b)(u v:Int):SS n ((a,b)::ts) u v=SS n ts u v+SS (n - 1) (ts.map (ct a b)) u v:=by rw[sZ,Xd f h];congr 1;refine Cu λA _=>?_;unfold term;rw[V4 h c]
theorem zR(f:a<b)(h:InW n ((a,b)::ts))(c:¬ Bl ts a b)(u v:Int):SS n ((a,b)::ts) u v=(1+u) * SS (n - 1) (ts.map (ct a b)) u v:=by
 obtain⟨q,p⟩:=Bd.mp h;rw[sZ,Xd f h];have x:((subs ts).map (term n ((a,b)::ts) u v)).sum=u * SS (n - 1) (ts.map (ct a b)) u v:=by rw[<-Xd f h,<-Py];refine Cu λA r=>?_;have l:∀e∈A,e∈ts:=Hy ts A r;have s:InW n A:=λe o=>p e (l e o);have g:InW n ((a,b)::A):=Bd.mpr ⟨q,s⟩;have B:=M4 g (λz=>c (z.mono l));have w:=Ym n _ g;have y:cc n ((a,b)::ts)<=cc n ((a,b)::A):=kj2 h λe o=>(JN.mp o).elim (λz=>z ▸ J_) λz=>JB _ (l e z);rw[PQ]at w;unfold term;rw[PQ,show cc n A - cc n ((a,b)::ts)=(cc n ((a,b)::A) - cc n ((a,b)::ts))+1 by lia,show A.length+cc n A - n=A.length+1+cc n ((a,b)::A) - n by lia,aY];rw[e_ (u ^ _) u,fB]
 rw[x,Int.add_mul,Int.one_mul,Int.add_comm]
abbrev Tr:=Int×Int×Int
abbrev Kv:=(Int×Int)×Int
def val(x y:Int)(r:Tr):Int:=r.2.2 * x ^ r.1.toNat * y ^ r.2.1.toNat
def look:List Kv->Int×Int->Int
 | [],_=>0
 |p::r,k=>if p.1=k then p.2 else look r k
def put:List Kv->Int×Int->Int->List Kv
 | [],k,v=>[(k,v)]
 |p::r,k,v=>if p.1=k then(p.1,v)::r else p::put r k v
def step(l:List Kv)(r:Tr):List Kv:=put l (r.1,r.2.1) (look l (r.1,r.2.1)+r.2.2)
def acc(l:List Kv)(c:List Tr):List Kv:=c.foldl step l
theorem km6(f:Int×Int->Int)(k:Int×Int)(u:Int):∀l:List Kv,((put l k (look l k+u)).map λp=>p.2 * f p.1).sum=(l.map λp=>p.2 * f p.1).sum+u * f k
 | []=>by simp[put,look]
 |p::r=>by
  by_cases h:p.1=k
  ·rw[put,look,if_pos h,if_pos h,HH,RP,HH,RP];lia
  ·simp only[put,look,if_neg h,HH,RP,km6 f k u r];lia
theorem ki3(f:Int×Int->Int):∀(c:List Tr)(l:List Kv),((acc l c).map λp=>p.2 * f p.1).sum=(l.map λp=>p.2 * f p.1).sum+(c.map λr=>r.2.2 * f (r.1,r.2.1)).sum
 | [],l=>by simp[acc]
 |r::c,l=>by show((acc (step l r) c).map _).sum=_;rw[ki3 f c (step l r),step,km6,HH,RP];lia
theorem Z7{k:Int×Int}{v:Int}:∀{l:List Kv}{q:Int×Int},q∈(put l k v).map (·.1)↔q∈l.map (·.1)\/q=k
 | [],q=>by simp[put]
 |p::r,q=>by
  by_cases h:p.1=k
  ·simp only[put,if_pos h,HH,JN];exact⟨λz=>.inl z,λz=>z.elim id λz=>.inl (z.trans h.symm)⟩
  ·simp only[put,if_neg h,HH,JN,Z7 (l:=r)];lia
theorem ji2{k:Int×Int}{v:Int}:∀{l:List Kv},(l.map (·.1)).Nodup->((put l k v).map (·.1)).Nodup
 | [],_=>by simp[put]
 |p::r,h=>by
  rw[HH,R_]at h;by_cases c:p.1=k
  ·simp only[put,if_pos c,HH,R_];exact h
  ·simp only[put,if_neg c,HH,R_];exact⟨λz=>(Z7.mp z).elim h.1 c,ji2 h.2⟩
theorem U0:∀(c:List Tr){l:List Kv},(l.map (·.1)).Nodup->((acc l c).map (·.1)).Nodup
 | [],_,h=>h
 |r::c,l,h=>U0 c (l:=step l r) (ji2 h)
theorem Yg:∀(c:List Tr){l:List Kv}{q:Int×Int},q∈(acc l c).map (·.1)->q∈l.map (·.1)\/∃r∈c,q=(r.1,r.2.1)
 | [],_,_,h=>.inl h
 |r::c,l,q,h=>by
  rcases Yg c (l:=step l r) h with z | ⟨s,f,e⟩
  ·rcases Z7.mp z with z |z
   ·exact .inl z
   ·exact .inr ⟨r,J_,z⟩
  ·exact .inr ⟨s,JB _ f,e⟩
theorem jv2:∀{l:List Kv}{k:Int×Int},(∀p∈l,0<=p.2)->0<=look l k
 | [],_,_=>Int.le_refl _
 |p::r,k,h=>by
  unfold look;split
  ·exact h p J_
  ·exact jv2 λq c=>h q (JB _ c)
theorem km5{k:Int×Int}{v:Int}(f:0<=v):∀{l:List Kv},(∀p∈l,0<=p.2)->∀p∈put l k v,0<=p.2
 | [],_,p,c=>by rw[PX.mp c];exact f
 |q::r,h,p,c=>by
  unfold put at c;split at c
  ·rcases JN.mp c with z |z
   ·rw[z];exact f
   ·exact h p (JB _ z)
  ·rcases JN.mp c with z |z
   ·rw[z];exact h q J_
   ·exact km5 f (λq g=>h q (JB _ g)) p z
theorem ki2:∀(c:List Tr){l:List Kv},(∀r∈c,0<=r.2.2)->(∀p∈l,0<=p.2)->∀p∈acc l c,0<=p.2
 | [],_,_,h=>h
 |r::c,l,f,h=>ki2 c (l:=step l r) (λs g=>f s (JB _ g)) (km5 (by
   have q:=jv2 (k:=(r.1,r.2.1)) h;have o:=f r J_;lia) h)
def lA:List (Int×Int):=(List.range 10).flatMap λ(i:Nat)=>(List.range (10 - i)).map λ(j:Nat)=>((i:Int),(j:Int))
def kp5:lA.length=55:=by decide
theorem ku4{q:Int×Int}(h1:0<=q.1)(c:0<=q.2)(f:q.1+q.2<=9):q∈lA:=by unfold lA;rw[List.mem_flatMap];refine⟨q.1.toNat,MT.mpr (by lia),I_.mpr ⟨q.2.toNat,MT.mpr (by lia),?_⟩⟩;rw[bF h1,bF c]
theorem jh5{c:Type}[DecidableEq c]:∀{l m:List c},l.Nodup->(∀x∈l,x∈m)->l.length<=m.length
 | [],m,_,_=>RX _
 |a::l,m,h,g=>by obtain⟨p,o⟩:=R_.mp h;have q:=g a J_;have:=jh5 (l:=l) (m:=m.erase a) o λx f=>(jGi (λ(z:x=a)=>p (z ▸ f))).mpr (g x (JB _ f));grind
def few{l:List Kv}(g:(l.map (·.1)).Nodup)(h:∀p∈l,0<=p.1.1/\0<=p.1.2/\p.1.1+p.1.2<=9):l.length<=55:=by
 have:=jh5 g (m:=lA) λq f=>by obtain⟨p,c,rfl⟩:=I_.mp f;exact ku4 (h p c).1 (h p c).2.1 (h p c).2.2
 rw[GQ,kp5]at this;exact this
structure G4(m:Nat)(T:List Tr):Prop where
 few:T.length<=55
 pos:∀r∈T,0<=r.1/\0<=r.2.1/\r.1+r.2.1<=m
 tim:∀r∈T,0<=r.2.2
 all:(T.map (·.2.2)).sum<=2 ^ m
def zq9(r:Tr):val 1 1 r=r.2.2:=by unfold val;rw[Int.one_pow,Int.one_pow,aX,aX]
theorem S5:∀{l:List Int},(∀x∈l,0<=x)->0<=l.sum
 | [],_=>by simp
 |a::l,h=>by have g:=h a J_;have f:=S5 λx c=>h x (JB _ c);rw[RP];lia
theorem Zw:∀{l:List Int}{a:Int},(∀x∈l,0<=x)->a∈l->a<=l.sum
 |b::l,a,h,f=>by
  have o:=h b J_;have g:=S5 λx c=>h x (JB _ c);rw[RP];rcases JN.mp f with z |z
  ·rw[z];lia
  ·have:=Zw (λx c=>h x (JB _ c)) z;lia
variable {T:List Tr}
def G4.each(h:G4 m T):∀r∈T,r.2.2<=2 ^ m:=λr g =>
 mC (Zw (λx c=>by obtain⟨s,f,rfl⟩:=I_.mp c;exact h.tim s f) (I_.mpr ⟨r,g,rfl⟩)) h.all
def rowOf(p:Kv):Tr:=(p.1.1,p.1.2,p.2)
def kept(c:List Tr):List Tr:=((acc [] c).filter λp=>decide (p.2≠0)).map rowOf
theorem Px(f:Int×Int->Int):∀l:List Kv,((l.filter λp=>decide (p.2≠0)).map λp=>p.2 * f p.1).sum=(l.map λp=>p.2 * f p.1).sum
 | []=>rfl
 |p::l=>by
  by_cases h:p.2=0
  ·rw[uM (by simp[h]),HH,RP,Px f l,h];simp
  ·rw[uL (by simp[h]),HH,RP,Px f l,HH,RP]
def wg4(f:Int×Int->Int)(c:List Tr):((kept c).map λr=>r.2.2 * f (r.1,r.2.1)).sum=(c.map λr=>r.2.2 * f (r.1,r.2.1)).sum:=by
 unfold kept;rw[KQ];have e:(λr:Tr=>r.2.2 * f (r.1,r.2.1))∘rowOf=λp:Kv=>p.2 * f p.1:=by funext p;rfl
 rw[e,Px,ki3];simp
theorem Ue{o:Type}(f:o->Int){l m:List o}(h:l.Perm m):(l.map f).sum=(m.map f).sum:=by
 induction h with
 |nil=>rfl
 |cons a _ p=>simp only[HH,RP,p]
 |swap a b l=>simp only[HH,RP];lia
 |trans _ _ g c=>exact g.trans c
def jy8(x y:Int)(r:Tr):val x y r=r.2.2 * ((λq:Int×Int=>x ^ q.1.toNat * y ^ q.2.toNat) (r.1,r.2.1)):=by unfold val;rw[fB]
def T8(x y:Int)(c:List Tr):((kept c).map (val x y)).sum=(c.map (val x y)).sum:=by have:=wg4 (λq:Int×Int=>x ^ q.1.toNat * y ^ q.2.toNat) c;rw[SJ λr _=>jy8 x y r,SJ (l:=c) λr _=>jy8 x y r];exact this
variable {c:List Tr}{r:Tr}
def wg2(h:r∈kept c):∃s∈c,r.1=s.1/\r.2.1=s.2.1:=by
 obtain⟨p,f,rfl⟩:=I_.mp h;have f:=(aC.mp f).1;rcases Yg c (l:=[]) (I_.mpr ⟨p,f,rfl⟩) with z | ⟨s,g,e⟩
 ·simp at z
 ·exact⟨s,g,by rw[Prod.ext_iff]at e;exact⟨e.1,e.2⟩⟩
def wg5(h:∀r∈c,0<=r.2.2):∀r∈kept c,0<=r.2.2:=λr f=>by obtain⟨p,g,rfl⟩:=I_.mp f;exact ki2 c h (by simp) p (aC.mp g).1
def Xk(h:∀r∈c,0<=r.1/\0<=r.2.1/\r.1+r.2.1<=9):(acc [] c).length<=55:=
 Gr.few (U0 c (by simp)) λp g=>by
  rcases Yg c (l:=[]) (I_.mpr ⟨p,g,rfl⟩) with z | ⟨s,f,e⟩
  ·simp at z
  ·rw[e];exact h s f
theorem G4.of_rows(v:m<=9)(g:T.Perm (kept c))(h1:∀r∈c,0<=r.1/\0<=r.2.1/\r.1+r.2.1<=m)(p:∀r∈c,0<=r.2.2)(h:(c.map (·.2.2)).sum<=2 ^ m):G4 m T:=by
 refine⟨?_,λr f=>?_,λr f=>wg5 p r (g.mem_iff.mp f),?_⟩
 ·rw[g.length_eq];unfold kept;rw[GQ];exact QG (fK _ _) (Xk λr f=>by have:=h1 r f;lia)
 ·obtain⟨s,o,u,q⟩:=wg2 (g.mem_iff.mp f);rw[u,q];exact h1 s o
 ·have e:∀l:List Tr,(l.map (·.2.2)).sum=(l.map (val 1 1)).sum:=λl=>by rw[SJ λr _=>zq9 r]
  rw[e]at h ⊢;rw[Ue _ g,T8];exact h
def times(S T:List Tr):List Tr:=S.flatMap λr=>T.map λs=>(r.1+s.1,r.2.1+s.2.1,r.2.2 * s.2.2)
def Q3(S:List Tr)(s:Tr):times S [s]=S.map λr=>(r.1+s.1,r.2.1+s.2.1,r.2.2 * s.2.2):=by
 unfold times;induction S with
 |nil=>rfl
 |cons a l f=>rw[jGy,f];rfl
theorem zi3(x y:Int)(h:0<=r.2.1):val x y (r.1+0,r.2.1+1,r.2.2 * 1)=y * val x y r:=by unfold val;show r.2.2 * 1 * x ^ (r.1+0).toNat * y ^ (r.2.1+1).toNat=_;rw[aX,Int.add_zero,show(r.2.1+1).toNat=r.2.1.toNat+1 by lia,aY,<-fB,e_ _ y]
theorem zi2(x y:Int)(h:0<=r.1):val x y (r.1+1,r.2.1+0,r.2.2 * 1)=x * val x y r:=by unfold val;show r.2.2 * 1 * x ^ (r.1+1).toNat * y ^ (r.2.1+0).toNat=_;rw[aX,Int.add_zero,show(r.1+1).toNat=r.1.toNat+1 by lia,aY,<-fB,e_ _ x,fB x]
theorem xN:(2:Int) ^ m<=2 ^ (m+1):=by lia
variable {f:List Tr}
theorem kx0(l:G4 m T)(u:m+1<=9)(q:∀x y,(T.map (val x y)).sum=SS n ts (x - 1) (y - 1))(h:InW n ((a,a)::ts))(p:f.Perm (kept (times T [(0,1,1)]))):
  G4 (m+1) f/\∀x y,(f.map (val x y)).sum=SS n ((a,a)::ts) (x - 1) (y - 1):=by
 rw[Q3]at p;refine⟨G4.of_rows u p (λr g=>?_) (λr g=>?_) ?_,λx y=>?_⟩
 ·obtain⟨s,o,rfl⟩:=I_.mp g;have:=l.pos s o;dsimp only;lia
 ·obtain⟨s,o,rfl⟩:=I_.mp g;have:=l.tim s o;dsimp only;lia
 ·rw[KQ,SJ (λr _=>by show r.2.2 * 1=r.2.2;exact aX _)];exact mC l.all xN
 ·rw[Ue _ p,T8,KQ,kh9 h,<-q,SJ (λr g=>by show val x y (r.1+0,r.2.1+1,r.2.2 * 1)=y * val x y r;exact zi3 x y (l.pos r g).2.1),Py];congr 1;lia
theorem wn4(q:a<b)(l:G4 m T)(v:m+1<=9)(u:∀x y,(T.map (val x y)).sum=SS (n - 1) (ts.map (ct a b)) (x - 1) (y - 1))(h:InW n ((a,b)::ts))(c:¬ Bl ts a b)(p:f.Perm (kept (times T [(1,0,1)]))):
  G4 (m+1) f/\∀x y,(f.map (val x y)).sum=SS n ((a,b)::ts) (x - 1) (y - 1):=by
 rw[Q3]at p;refine⟨G4.of_rows v p (λr g=>?_) (λr g=>?_) ?_,λx y=>?_⟩
 ·obtain⟨s,o,rfl⟩:=I_.mp g;have:=l.pos s o;dsimp only;lia
 ·obtain⟨s,o,rfl⟩:=I_.mp g;have:=l.tim s o;dsimp only;lia
 ·rw[KQ,SJ (λr _=>by show r.2.2 * 1=r.2.2;exact aX _)];exact mC l.all xN
 ·rw[Ue _ p,T8,KQ,zR q h c,<-u,SJ (λr g=>by show val x y (r.1+1,r.2.1+0,r.2.2 * 1)=x * val x y r;exact zi2 x y (l.pos r g).1),Py];congr 1;lia
variable {U:List Tr}
theorem kw9(o:a<b)(s:G4 m T)(q:G4 m U)(v:m+1<=9)(u:∀x y,(T.map (val x y)).sum=SS n ts (x - 1) (y - 1))(g:∀x y,(U.map (val x y)).sum=SS (n - 1) (ts.map (ct a b)) (x - 1) (y - 1))(h:InW n ((a,b)::ts))(c:Bl ts a b)(p:f.Perm (kept (T++U))):
  G4 (m+1) f/\∀x y,(f.map (val x y)).sum=SS n ((a,b)::ts) (x - 1) (y - 1):=by
 refine⟨G4.of_rows v p (λr l=>?_) (λr l=>?_) ?_,λx y=>?_⟩
 ·rcases S_.mp l with z |z
  ·have:=s.pos r z;lia
  ·have:=q.pos r z;lia
 ·rcases S_.mp l with z |z
  ·exact s.tim r z
  ·exact q.tim r z
 ·rw[N_,XR,aY];have:=s.all;have:=q.all;lia
 ·rw[Ue _ p,T8,N_,XR,u,g,kh8 o h c]
theorem wn5(n:Nat):G4 0 [(0,0,1)]/\∀x y,(([(0,0,1)]:List Tr).map (val x y)).sum=SS n [] (x - 1) (y - 1):=by
 refine⟨⟨by simp,λr g=>?_,λr g=>?_,by simp⟩,λx y=>?_⟩
 ·simp_all
 ·simp_all
 ·rw[yh7];simp[val]
def key(r:Tr):Int×Int:=(r.1,r.2.1)
structure Red(T:List Tr):Prop where
 nd:(T.map key).Nodup
 nz:∀r∈T,r.2.2≠0
def Red.perm(p:T.Perm U)(h:Red U):Red T:=⟨(p.map key).nodup_iff.mpr h.nd,λr g=>h.nz r (p.mem_iff.mp g)⟩
def wg3(c:List Tr):Red (kept c):=by
 refine⟨?_,λr g=>?_⟩
 ·unfold kept;rw[KQ];have:(key∘rowOf)=λp:Kv=>p.1:=rfl;rw[this];exact(List.filter_sublist.map _).nodup (U0 c (l:=[]) iT)
 ·unfold kept at g;obtain⟨p,h,rfl⟩:=I_.mp g;have:=(aC.mp h).2;exact of_decide_eq_true this
def we9{fs:Af}(p:es.Perm fs)(h:InW n es):InW n fs:=λe g=>h e (p.mem_iff.mpr g)
def tG{A:Af}(h:InW n ts)(l:A∈subs ts):InW n A:=λe g=>h e (Hy ts A l e g)
variable {g:Af}
theorem kx4(p:ts.Perm g):InW n ts->∀f:Af->Int,(∀A B,A.Perm B->InW n A->f A=f B)->((subs ts).map f).sum=((subs g).map f).sum:=by
 induction p with
 |nil=>intro _ _ _;rfl
 | @cons a l F p x=>intro h f o;have s:=(Bd.mp h).2;rw[subs,subs,N_,XR,N_,XR,KQ,KQ,x s f o];congr 1;exact x s (λA=>f (a::A)) λA B y w=>o _ _ (y.cons a) (Bd.mpr ⟨(Bd.mp h).1,w⟩)
 |swap a b l =>
  intro h f o;obtain⟨z,E⟩:=Bd.mp h;obtain⟨C,s⟩:=Bd.mp E;have e:((subs l).map λA=>f (b::a::A)).sum=((subs l).map λA=>f (a::b::A)).sum:=Cu λA w=>o _ _ (.swap a b A) (Bd.mpr ⟨z,Bd.mpr ⟨C,tG s w⟩⟩);have H:((subs (b::a::l)).map f).sum=(((subs l).map f).sum+((subs l).map λA=>f (a::A)).sum)+(((subs l).map λA=>f (b::A)).sum+((subs l).map λA=>f (b::a::A)).sum):=by simp only[subs,N_,XR,KQ];rfl
  have G:((subs (a::b::l)).map f).sum=(((subs l).map f).sum+((subs l).map λA=>f (b::A)).sum)+(((subs l).map λA=>f (a::A)).sum+((subs l).map λA=>f (a::b::A)).sum):=by simp only[subs,N_,XR,KQ];rfl
  lia
 |trans p q v u=>intro h f o;rw[v h f o,u (we9 p h) f o]
def wq5(p:ts.Perm g)(h:InW n ts)(u v:Int):SS n ts u v=SS n g u v:=by unfold SS;rw[kx4 p h (term n ts u v) (λA B l o=>by unfold term;rw[Hr o λe=>l.mem_iff,l.length_eq])];refine Cu λA _=>?_;unfold term;rw[Hr h λe=>p.mem_iff]
theorem yh6(l:a<b)(h:InW n ((a,b)::ts))(c:¬ Bl ts a b)(u v:Int):SS n ts u v=SS (n - 1) (ts.map (ct a b)) u v:=by rw[<-Xd l h];obtain⟨w,q⟩:=Bd.mp h;refine Cu λA p=>?_;have s:∀e∈A,e∈ts:=Hy ts A p;have o:InW n ((a,b)::A):=Bd.mpr ⟨w,tG q p⟩;have y:=M4 o (λz=>c (z.mono s));have x:=M4 h c;unfold term;grind
def gW(n:Nat)(es:Af)(M:List Nat):Prop:=M.length=n/\∀i j,i<n->j<n->(M.getD i 0=M.getD j 0↔Bl es i j)
variable {M:List Nat}
theorem getD_map{f:Nat->Nat}(h:i<M.length):(M.map f).getD i 0=f (M.getD i 0):=by simp_all
theorem yn5(n:Nat):gW n [] (List.range n):=by refine⟨WQ,λi j l h=>?_⟩;rw[Th];simp_all
theorem wx2(h:gW n es M)(q:a<n)(p:b<n):gW n (es++[(a,b)]) (M.map λz=>if z=M.getD a 0 then M.getD b 0 else z):=by refine⟨by rw[GQ];exact h.1,λi j o l=>?_⟩;rw[U5,<-h.2 i j o l,<-h.2 i a o q,<-h.2 b j p l,<-h.2 i b o p,<-h.2 a j q l,getD_map (by rw[h.1];exact o),getD_map (by rw[h.1];exact l)];lia
def wi1{L:List Nat}(o:InW n es)(h:gW n es M)(E:L.Nodup)(G:∀z,z∈L↔z∈M):L.length=cc n es:=by
 have s:=M8 n es o;have mem:∀i,i<n->M.getD i 0∈M:=λi q=>by rw[TF,LR (by rw[h.1];exact q)];simp
 have p:L.Perm ((Bw n es).map λm=>M.getD m 0):=by
  refine(m_ E ?_).mpr λz=>?_
  ·unfold List.Nodup;rw[i_];refine List.Pairwise.imp_of_mem (λ{x y} C B u z=>u ?_) (Nb n es);obtain⟨w,I⟩:=Ds.mp C;obtain⟨v,H⟩:=Ds.mp B;have c:=(h.2 x y w v).mp z;rw[<-I,<-H];exact(s.conn x y w v).mpr c
  ·rw[G,I_];constructor
   ·intro A;obtain⟨i,q,e⟩:=List.getElem_of_mem A;have l:i<n:=by rw[<-h.1];exact q
    refine⟨lab n es i,Jx o l,?_⟩;have c:Bl es (lab n es i) i:=(s.conn _ _ (qG o l) l).mp (s.idem i l);rw[(h.2 _ _ (qG o l) l).mpr c,TF,LR q];exact e
   ·rintro⟨m,F,rfl⟩;exact mem m (Ds.mp F).1
 rw[p.length_eq,GQ];rfl
def sg(k:Nat):Int:=if k % 2=0 then 1 else -1
def Flw(n:Nat)(ts:Af)(H:Int):Int:=sg (ts.length+cc n ts - n) * SS n ts (-1) (-H)
def Pc(n:Nat)(ts:Af)(K:Int):Int:=sg (n - cc n ts) * (K ^ cc n ts * SS n ts (-K) (-1))
theorem Yn(n:Nat)(ts:Af):cc n ts<=n:=by unfold cc Bw;grind
def bits(m k:Nat):List Nat:=(List.range m).filter λt=>decide (k / 2 ^ t % 2=1)
def ki9{k:Nat}(h:k<2 ^ m):bits (m+1) k=bits m k:=by unfold bits;rw[mQ,uE,uM (by simp[jHd h]),List.filter_nil,aB]
theorem ki8{k:Nat}(h:k<2 ^ m):bits (m+1) (2 ^ m+k)=bits m k++[m]:=by
 unfold bits;rw[mQ,uE];congr 1
 ·refine t8 λt l=>?_;rw[MT]at l;rw[decide_eq_decide];have e:2 ^ m=2 ^ t * (2 * 2 ^ (m - t - 1)):=by rw[<-tQ,<-l_,<-Nat.pow_add];congr 1;lia
  rw[e,Nat.mul_add_div (jHi t)];lia
 ·rw[uL]
  ·rfl
  ·have:(2 ^ m+k) / 2 ^ m=1:=by rw[Nat.add_div_left _ (jHi m),jHd h]
   simp[this]
def Fz(ts:Af)(s:List Nat):Af:=s.map λk=>ts.getD k (0,0)
theorem Vx(f:Af->Int)(e:Nat×Nat):∀ts:Af,∀f:Af->Int,((subs (ts++[e])).map f).sum=((subs ts).map f).sum+((subs ts).map λA=>f (A++[e])).sum
 | [],f=>by simp[subs]
 |x::ts,f=>by rw[cN,subs,subs,N_,XR,KQ,N_,XR,N_,XR,KQ,KQ];have l:=Vx f e ts f;have h:=Vx f e ts (f∘λA=>x::A);rw[l,h];have o:(λA:Af=>(f∘λA=>x::A) (A++[e]))=(λA=>f (A++[e]))∘λA=>x::A:=rfl;lia
theorem ji1{s:List Nat}(h:∀k∈s,k<ts.length):Fz (ts++[e]) s=Fz ts s:=by unfold Fz;refine SJ λk l=>?_;grind
theorem masks:∀(m:Nat)(ts:Af),ts.length=m->∀f:Af->Int,((List.range (2 ^ m)).map λk=>f (Fz ts (bits m k))).sum=((subs ts).map f).sum
 |0,ts,h,f=>by have:ts=[]:=jFx.mp h;subst this;rfl
 |m+1,ts,h,f=>by
  have l:ts≠[]:=λz=>by rw[z]at h;simp at h
  obtain⟨g,e,rfl⟩:∃g e,ts=g++[e]:=⟨ts.dropLast,ts.getLast l,(List.dropLast_concat_getLast l).symm⟩;have o:g.length=m:=by simpa using h
  have q:∀k,∀t∈bits m k,t<g.length:=λk t s=>by rw[o];exact MT.mp (aC.mp s).1
  rw[Vx f e g f,<-masks m g o f,<-masks m g o (λA=>f (A++[e])),l_,Nat.mul_two,jHn,N_,XR,KQ];congr 1
  ·refine Cu λk p=>?_;rw[ki9 (MT.mp p),ji1 (q k)]
  ·refine Cu λk p=>?_;show f (Fz (g++[e]) (bits (m+1) (2 ^ m+k)))=_;rw[ki8 (MT.mp p)];have u:Fz (g++[e]) (bits m k++[m])=Fz g (bits m k)++[e]:=by rw[<-ji1 (e:=e) (q k)];unfold Fz;simp_all
   rw[u]
def v8(k:Nat):(0:Int) ^ k=if k=0 then 1 else 0:=by
 cases k with
 |zero=>rfl
 |succ k=>rw[aY];simp
end Gr
namespace Law
open PySem L2 PD
seal PE PT PA PS PSs PC PG PI PO PW PGs TsD
def top(i:Nat):CT:=PySem.Challenge.pw_tietable_k91_whole_one_table_tells_all.main.body.getD i (.Pass ⟨0,0,0,0⟩)
def FT:List (BR×List BR):=[("web",["new","text"]),("without",["new","name","number"]),("drawn",["new","name","number"]),("beside",["new","name","name"]),("joined",["new","name","number","name","number"]),("show",["name"]),("table",["name"]),("worth",["name","number","number"]),("forests",["name"]),("colours",["name","many"]),("flows",["name","number"]),("fewest",["name"]),("ringless",["name"]),("rounds",["name"]),("same",["name","name"])]
def k_(s:CT)(i:Nat):CT:=match s with
 | .ClassDef _ _ _ b _ _ _ _ _ _ _=>b.getD i (.Pass ⟨0,0,0,0⟩)
 |_=>.Pass ⟨0,0,0,0⟩
variable {i:Nat}
section
variable {X:Cx}{c:DC}{l:Lv}{pos b p:HY}{x:BR}{e tg a m:B_}{es j:List B_}{f:Ev->R D}{n caps:List Nat}{scope:JH}{T:List BR}{h:Ev->R (List D)}{g:D->Ev->R Ev}{t:Ev->R Bool}
def at_{N:List BR}(i:Nat)(h:N[i]? = some x):N[i]? = some x:=h
def nvq(u:X.N[i]? = some x:=by right)(q:c.O.contains i=false:=by rfl)(o:Vis X.env.scope x:=by first |exact .inl rfl |exact .inr (.inl rfl) |exact .inr (.inr rfl))(r:Zd x:=by decide)(s:(x == ("__classdict__" : BR))=false:=by decide):PEd X c .no (.Name x pos) (gv i):=nv i q u o r s
def avq(s:X.N[i]? = some x:=by right)(o:Vis X.env.scope x:=by first |exact .inl rfl |exact .inr (.inl rfl) |exact .inr (.inr rfl))(q:Zd x:=by decide)(r:(x == ("__classdict__" : BR))=false:=by decide):PEd X c .any (.Name x pos) (gv i):=av i s o q r
def zo2(o:X.N.Nodup)(u:PEd X c .no e f)(v:X.N[i]? = some x:=by right)(r:c.O.contains i=false:=by rfl)(q:Loc X.env.scope x:=by first |exact .inl rfl |exact .inr rfl)(hs:FJ e (some (Expr.Name x b)) pos.line X.env=pure false:=by rfl)(s:X.fn x=true\/X.env.scope.names.lookup x=some .local:=by first |exact .inl rfl |exact .inr rfl):PSd X c (Stmt.Assign [Expr.Name x b] e pos) (asg i f):=Xc i o u r v q hs s
def tnq(o:X.N.Nodup)(u:X.N[i]? = some x:=by right)(r:c.O.contains i=false:=by rfl)(q:Loc X.env.scope x:=by first |exact .inl rfl |exact .inr rfl)(s:X.fn x=true\/X.env.scope.names.lookup x=some .local:=by first |exact .inl rfl |exact .inr rfl):PGd X c (.Name x pos) (gN i):=tn i o r u q s
def tsq(o:X.N.Nodup)(v:d7 X c es (Fb n))(u:X.N[i]? = some x:=by right)(r:c.O.contains i=false:=by rfl)(q:Loc X.env.scope x:=by first |exact .inl rfl |exact .inr rfl)(s:X.fn x=true\/X.env.scope.names.lookup x=some .local:=by first |exact .inl rfl |exact .inr rfl)(hs:(GD (.Name x p::es) X.env).map (·.2)=YD (.Name x p) X.env::(GD es X.env).map (·.2):=by rfl):d7 X c (.Name x p::es) (Fb (i::n)):=tsc i o v r u q s hs
def cW(T:List BR)(caps:List Nat)(E:PId X c l tg a h)
  (F:∀(C:BJ)(s:BK)(H:Hp)(q:List BJ)(u:Hp)(r:AS)(Z:List BJ),(Dw X T caps).Nodup->PGd (cxB X (Dw X T caps) scope C s H q) ⟨u,r,[],Dq,Z⟩ tg g:=by intros;left)
  (B:∀(C:BJ)(s:BK)(H:Hp)(q:List BJ)(u:Hp)(r:AS)(Z:List BJ),TsD (cxB X (Dw X T caps) scope C s H q) ⟨u,r,[],Dq,Z⟩ j t:=by intros;left)
  (G:∀(C:BJ)(s:BK)(H:Hp)(q:List BJ)(u:Hp)(r:AS)(Z:List BJ),PEd (cxB X (Dw X T caps) scope C s H q) ⟨u,r,[],Dq,Z⟩ .any m f:=by intros;left)
  (z:K9 scope X.env.scope X.N caps=true:=by rfl)(I:X.calm=true:=by rfl)(A:decide ((Dw X T caps).Nodup)=true:=by kernel_rfl)
  (y:∀d w o,g d w=.ok o->o.length=w.length/\∀i,T.length<=i->o[i]? = w[i]?:=by first |exact rY (by decide) |exact Xn (by decide))(v:Ow c.O l caps=true:=by rfl)(hs:∀x,E_ a X.env x=pure x:=by intro _;rfl):
  PEd X c l (.ListComp m [⟨tg,a,j,0⟩] scope pos) (Ci h T.length caps g t f):=comp z I E (λC s H q u r Z=>F C s H q u r Z (of_decide_eq_true A)) B G y v hs
end
section
set_option hygiene false
local macro_rules | `(tactic| right)=>`(tactic| first | exact at_ 0 rfl | exact at_ 1 rfl | exact at_ 2 rfl | exact at_ 3 rfl | exact at_ 4 rfl | exact at_ 5 rfl | exact at_ 6 rfl | exact at_ 7 rfl | exact at_ 8 rfl | exact at_ 9 rfl | exact at_ 10 rfl | exact at_ 11 rfl)
local macro_rules | `(tactic| exists $t)=>`(tactic| (refine' $t<;>left))
local macro_rules | `(tactic| left)=>`(tactic| first
 |show Ev->_ |show D->Ev->_ |show List Nat |show Nat
 |exact an
 |exists aq ?_ ?_ (by first |exact stN |exact stC |exact stK |exact stS |rfl)
 | (show PEd _ _ .no (.Name _ _) _;first |exact nvq |exact u1 (kg ‹_›) |exact u1 (kgs ‹_›))
 | (show PEd _ _ .no _ _;first
  |exact uki |exact uks |exists ix ?_ ?_ |exists yC ?_ ?_ ?_ |exists zm1 ?_ ?_ |exists gQ ?_ ?_ |exists mul ?_ ?_ |exists sub ?_ ?_ |exists mod ?_ ?_ |exists fdiv ?_ ?_ |exists pow ?_ ?_ |exists neg ?_
  |exists tup ?_ |exists lst ?_ |exists ifx ?_ ?_ ?_ |exists uR ?_ ?_ |exists vor ?_ ?_ |exists v1 ?_ |exists eq_ ‹_› ?_ ?_ |exists ne_ ‹_› ?_ ?_
  |exists wv7 rfl ‹_› ‹_› ?_ |exists list_range rfl ‹_› ‹_› ?_ |exists tuple_range rfl ‹_› ‹_› ?_ |exists Ww rfl ‹_› ‹_› ?_ |exists wG ?_ ?_ |exists sw_ ?_ ?_ |exists st_ ?_ ?_
  |exists u5 ‹_› ?_ |exists pQ ‹_› ?_ |exists zf4 ‹_› ?_ |exists yz7 ‹_› ?_ |exists zm8 rfl ‹_› ?_ |exists zm6 rfl ‹_› ?_ |exists gP rfl ‹_› ?_ |exists uX rfl ‹_› ?_
  |exact u1 kb |exact u1 kn |exists zl5 ?_ |exists cQ ‹_› ‹_› ?_)
 | (show PEd _ _ .any _ _;first |exact avq |exists tup ?_ |exists lst ?_ |exists u3 ?_)
 |exists s1 ?_ |exists sc ?_ ?_ |exact sn
 |exists zo2 ‹_› ?_
 |exists Gy ?_ |exists if_ ?_ ?_ ?_ |exact yq8 (st:=.Raise _ _ _)
 | (show PSd _ _ (.For _ _ _ _ _) _;exists for_ PassesOwn.never rfl (by left) ?_ ?_) |exists ex_ ?_
 |exists wI ‹_› ?_ |exists yW ‹_› ?_ |exists u6 ‹_› ?_ |exists T6 ?_
 |exists jE ?_ |exists teq (l:=.no) ‹_› ?_ ?_ |exists tne (l:=.no) ‹_› ?_ ?_ |exists tlt (l:=.no) ?_ ?_ |exists tgt (l:=.no) ?_ ?_ |exists tge (l:=.no) ?_ ?_
 |exists d_ (nZ ?_ ?_) |exists d_ (fV ?_ ?_) |exists nZ ?_ ?_ |exists fV ?_ ?_ |exists vR ?_ |exists uU ?_
 |exists xW (l:=.no) bZ oF ?_ ?_ ?_ |exists xW (l:=.no) bZ bZ ?_ ?_ ?_
 |exact ti0 |exists ti1 ?_ |exact pn |exists ps (l:=.no) ?_ |exists tin (l:=.no) ‹_› ?_ ?_ |exists uV (l:=.no) ‹_› ?_ ?_
 |exact tnq ‹_› | (show PGd _ _ (.Tuple _ _ _) _;exact tT rfl (by left)) |exact tsn |exists tsq ‹_› ?_
 | (show PTd _ _ (.Call _ _ _ _) _;exists tst (l:=.no) ?_)
 | (intro b a d S F;intros;exists fq F S ?_)
 | (intro _;intros;left))
abbrev Wo:CT:=top 118
def Ko:Wf "_law_cell" Wo 2 1 ["_law_script","_law_k"] (λb q=>Zc "len" b->q) So0:=⟨["_law_script","_law_k"],Bq,_,by left⟩
def V9:=gO (v:=Ko.g) (by dsimp [Ko])
def Cp:=Bh 2 V9
abbrev Mi:CT:=top 120
def En:Wf "_law_by_digits" Mi 6 1 ["_law_number_here","_law_points","_law_many"] (λb q=>Zc "max" b->Zc "min" b->Zc "range" b->q) So0:=⟨["_law_number_here","_law_points","_law_many","_law_found","_law_k","_law_one"],Bq,_,λS F e c a =>
  eQ (O:=[3]) F S (by decide) λh A f s H E n m j =>
  have g:=S.nd
  (sc (oX 3 g (PEf.up (l:=.fr) (l':=.no) (jK an))) (sc (for_ PassesOwn.never rfl (tn 4 g) (by left) (sc (by left) (sc (by left) (sc (vM 3 (by left)) (by left))))) (by left)))⟩
def Lp:=gO (v:=En.g) (by dsimp [En])
def Li:=Bh 6 Lp
abbrev Wq:CT:=top 119
def Kp:Wf "_law_draw" Wq 4 1 ["_law_cell_here","_law_salt","_law_many"] (λb q=>q) So0:=⟨["_law_cell_here","_law_salt","_law_many","_law_number_here"],Bq,_,by left⟩
def Wa:=gO (v:=Kp.g) (by dsimp [Kp])
def Bp:=Bh 4 Wa
abbrev Ob:CT:=top 121
abbrev Kl:=Wb Ko FB Cp
abbrev Km:=Wb Kp FB Bp
def Fe:Wf "_law_by_cells" Ob 9 2 ["_law_script","_law_at","_law_points","_law_many"] (λb q=>Zc "max" b->Zc "min" b->Zc "range" b->Kl b->Km b->q) So0:=⟨["_law_script","_law_at","_law_points","_law_many","_law_found","_law_k","_law_cell_here","_law_one","_law_other"],Bq,_,λS F g f e c a =>
  eQ (O:=[4]) F S (by decide) λm A h s H E p o n =>
  have j:=S.nd
  (sc (oX 4 j (PEf.up (l:=.fr) (l':=.no) (jK an))) (sc (for_ PassesOwn.never rfl (tn 5 j) (by left) (sc (by left) (sc (by left) (sc (by left) (s1 (vM 4 (by left))))))) (by left)))⟩
def Ny:=gO (v:=Fe.g) (by dsimp [Fe])
def Ja:=Bh 9 Ny
abbrev ja2:CT:=top 122
abbrev Np:=Wb Fe FB Ja
abbrev Lb:=Wb En FB Li
def Mt:Wf "_law_web" ja2 6 3 ["_law_script","_law_most_points","_law_most_ties"] (λb q=>Zc "tuple" b->Np b->Lb b->Kl b->Km b->q) So0:=⟨["_law_script","_law_most_points","_law_most_ties","_law_number_here","_law_points","_law_many"],Bq,_,by left⟩
def Y5:=gO (v:=Mt.g) (by dsimp [Mt])
def Yp:=Bh 6 Y5
abbrev Pq:CT:=top 102
def Gi:Wf "words_behind" Pq 2 1 ["words","kinds"] (λb q=>Zc "len" b->q) So0:=⟨["words","kinds"],Bq,_,by left⟩
def O7:=gO (v:=Gi.g) (by dsimp [Gi])
def J9:=Bh 2 O7
abbrev Ws:CT:=top 104
def Kr:Wf "is_number" Ws 2 1 ["word"] (λb q=>Zc "all" b->Zc "len" b->∀{t:Tok},b.mg "FIGURES" = some (.str "0123456789" t)->∀{t:Tok},b.mg "MOST_FIGURES" = some (.int 10 t)->q) So0:=⟨["word","figures"],Bq,_,λ{_} {_} {_} S F c f {_} e {_} a =>
  fq F S λj h g =>
  (sc (Xc 1 g (ifx (tst (by left)) (yr7 (nv 0) (ps uki) pn) (nv 0))) (sc (if_ (d_ (fV (by left) (uU (jE (tst (gP rfl c (aq (cW ["sign"] [] (u_ (nv 1))) an rfl))))))) (by left) sn) (by left)))⟩
def Wd:=gO (v:=Kr.g) (by dsimp [Kr])
def V8:=Bh 2 Wd
abbrev ja8:CT:=top 103
abbrev V2:=Wb Kr FB V8
def M3:Wf "value_of" ja8 2 2 ["kind","word"] (λb q=>Zc "int" b->V2 b->q) So0:=⟨["kind","word"],Bq,_,λS F c a =>
  fq F S λg e f =>
  (sc (if_ (uV e (nv 0) (u1 (ZZ (d:=(.tup [(.str "number"),(.str "many")])) (by kernel_rfl)))) (by left) sn) (by left))⟩
def Zf:=gO (v:=M3.g) (by dsimp [M3])
def Eh:=Bh 2 Zf
abbrev Wu:CT:=top 101
abbrev Yd:=Wb M3 FB Eh
abbrev Ou:=Wb Gi FB J9
def Ks:Wf "read_line" Wu 4 3 ["row"] (λb q=>Zc "len" b->Zc "zip" b->Yd b->Ou b->FRM b.P b.w b.K b.mg "FORMS" FT->q) So0:=⟨["row","words","kinds","handed"],Bq,_,λS F f e c a h =>
  fq F S λl j g =>
  (sc (Xc 1 g (PEf.d (x_ (nv 0) uks) jx9)) (sc (if_ (zh2 h (by left)) (by left) sn) (sc (Xc 2 g (u1 (fixF h (by left)))) (sc (by left) (sc (by left) (s1 (Gy (u3 (tup (aq (by left) (aq (cW ["kind","word"] [] (u6 e (aq (nv 2) (aq (nv 3) an stN) stN))) an rfl) stS))))))))))⟩
def We:=gO (v:=Ks.g) (by dsimp [Ks])
def Be:=Bh 4 We
abbrev ji4:CT:=top 109
def Qf:Wf "is_name" ji4 1 1 ["word"] (λb q=>Zc "all" b->Zc "len" b->∀{t:Tok},b.mg "LETTERS" = some (.str "abcdefghijklmnopqrstuvwxyz" t)->∀{t:Tok},b.mg "MOST_LETTERS" = some (.int 8 t)->q) So0:=⟨["word"],Bq,_,λ{_} {_} {_} S F c f {_} e {_} a =>
  fq F S λj h g =>
  (s1 (Gy (u3 (uR (chain (bZ) (bZ) uki (by left) (by left)) (v1 (gP rfl c (aq (cW ["sign"] [] (u_ (nv 0))) an rfl)))))))⟩
def jg4:=gO (v:=Qf.g) (by dsimp [Qf])
def Qm:=Bh 1 jg4
abbrev Rt:CT:=k_ (top 108) 2
abbrev je2:=Wb Qf FB Qm
def K8:WfM "refuse_name" "Desk.refuse_name" Rt 3 2 ["self","kind","value"] (λb q=>je2 b->HDk b.K->q) So0:=⟨["self","kind","value"],Bq,_,λS F a e =>
  fq F S λg c f =>
  (sc (by left) (s1 (if_ (d_ (nZ (by left) (vR (yt2 c e (nv 2) (nv 0))))) (by left) sn)))⟩
def Dv:=gO (v:=K8.g) (by dsimp [K8])
def Cq:=Bh 3 Dv
abbrev Jm:CT:=top 94
def Dg:Wf "is_written_number" Jm 1 1 ["word"] (λb q=>Zc "len" b->∀{t:Tok},b.mg "FIGURES" = some (.str "0123456789" t)->q) So0:=⟨["word"],Bq,_,by left⟩
def Jl:=gO (v:=Dg.g) (by dsimp [Dg])
def Jj:=Bh 1 Jl
abbrev Mj:CT:=top 95
def Eo:Wf "is_written_tie" Mj 1 1 ["word"] (λb q=>Zc "len" b->∀{t:Tok},b.mg "FIGURES" = some (.str "0123456789" t)->q) So0:=⟨["word"],Bq,_,by left⟩
def Lq:=gO (v:=Eo.g) (by dsimp [Eo])
def G5:=Bh 1 Lq
abbrev Ml:CT:=top 34
def Ep:Wf "refuse_numbers" Ml 2 1 ["points","many"] (λb q=>∀{t:Tok},b.mg "MOST_POINTS" = some (.int 6 t)->∀{t:Tok},b.mg "MOST_TIES" = some (.int 9 t)->q) So0:=⟨["points","many"],Bq,_,by left⟩
def Eu:=gO (v:=Ep.g) (by dsimp [Ep])
def G7:=Bh 2 Eu
abbrev jx3:CT:=top 36
def Td:Wf "is_tie" jx3 2 1 ["thing","points"] (λb q=>Zc "isinstance" b->Zc "len" b->Zc "tuple" b->q) So0:=⟨["thing","points"],Bq,_,λS F a e c =>
  fq F S λh g f =>
  (sc (if_ (d_ (fV (jE (tst (u1 (isi "tuple" "tuple" (by decide) PyProof.Rows.boot_tuple a c (nv 0))))) (by left))) (by left) sn) (s1 (Gy (u3 (yi9 (bZ) (bZ) (oF) uki (by left) (by left) (nv 1))))))⟩
def ju3:=gO (v:=Td.g) (by dsimp [Td])
def Ys:=Bh 2 ju3
abbrev jx5:CT:=top 29
abbrev jr1:=Wb Td FB Ys
abbrev Le:=Wb Ep FB G7
def Te:Wf "web_of" jx5 4 2 ["points","ties"] (λb q=>Zc "enumerate" b->Zc "len" b->Zc "tuple" b->jr1 b->Le b->q) So0:=⟨["points","ties","place","thing"],Bq,_,by left⟩
def ju4:=gO (v:=Te.g) (by dsimp [Te])
def jt0:=Bh 4 ju4
abbrev ja7:CT:=top 92
abbrev Ji:=Wb Dg FB Jj
abbrev Ld:=Wb Eo FB G5
abbrev jr2:=Wb Te FB jt0
def Mz:Wf "read_web" ja7 3 3 ["text"] (λb q=>Zc "int" b->Ji b->Ld b->jr2 b->q) So0:=⟨["text","words","word"],Bq,_,λS F f a c e =>
  fq F S λh j g =>
  (sc (Xc 1 g (PEf.d (x_ (nv 0) uks) jx9)) (sc (by left) (sc (by left) (s1 (Gy (u3 (cQ h e (aq (by left) (aq (cW ["word"] [] (T6 (yC (nv 1) (ps uki) pn))) an rfl) stK))))))))⟩
def Zb:=gO (v:=Mz.g) (by dsimp [Mz])
def M6:=Bh 3 Zb
abbrev Up:CT:=top 35
def Jr:Wf "refuse_tie" Up 2 1 ["web","tie"] (λb q=>Zc "len" b->q) So0:=⟨["web","tie"],Bq,_,by left⟩
def Jw:=gO (v:=Jr.g) (by dsimp [Jr])
def Tp:=Bh 2 Jw
abbrev ji7:CT:=top 30
abbrev S7:=Wb Jr FB Tp
def Qh:Wf "without" ji7 3 2 ["web","tie"] (λb q=>S7 b->q) So0:=⟨["web","tie","ties"],Bq,_,by left⟩
def jg7:=gO (v:=Qh.g) (by dsimp [Qh])
def Du:=Bh 3 jg7
abbrev Uq:CT:=top 40
def Js:Wf "rising_tie" Uq 2 1 ["one","other"] (λb q=>Zc "max" b->Zc "min" b->q) So0:=⟨["one","other"],Bq,_,by left⟩
def Tv:=gO (v:=Js.g) (by dsimp [Js])
def M7:=Bh 2 Tv
abbrev Og:CT:=top 39
def Fj:Wf "number_as_one" Og 3 1 ["point","lesser","greater"] (λb q=>q) So0:=⟨["point","lesser","greater"],Bq,_,by left⟩
def N7:=gO (v:=Fj.g) (by dsimp [Fj])
def Fo:=Bh 3 N7
abbrev jx1:CT:=top 38
abbrev Nu:=Wb Fj FB Fo
abbrev S8:=Wb Js FB M7
def Tc:Wf "as_one" jx1 4 2 ["web","lesser","greater"] (λb q=>Zc "tuple" b->Nu b->S8 b->q) So0:=⟨["web","lesser","greater","ties"],Bq,_,λS F e a c =>
  fq F S λp o n =>
  (sc (setC (T:=["tie"]) (caps:=[1,2]) 3 n (by rfl) rfl (by left) (λm _ l f h g j=>(tn 0 (show List.Nodup (["tie","lesser","greater"]:List BR) by decide +kernel))) (λm _ l f h g j=>ti0) (λm _ l f h g j=>by left) (rY (by decide))) (by left))⟩
def ju2:=gO (v:=Tc.g) (by dsimp [Tc])
def js8:=Bh 4 ju2
abbrev kn4:CT:=top 31
abbrev jr0:=Wb Tc FB js8
abbrev Uy:=Wb Qh FB Du
def Xg:Wf "drawn" kn4 4 3 ["web","tie"] (λb q=>jr0 b->Uy b->q) So0:=⟨["web","tie","others","ends"],Bq,_,by left⟩
def kk3:=gO (v:=Xg.g) (by dsimp [Xg])
def Gk:=Bh 4 kk3
abbrev Pk:CT:=top 111
def Gg:Wf "refuse_point" Pk 2 1 ["web","point"] (λb q=>q) So0:=⟨["web","point"],Bq,_,by left⟩
def O5:=gO (v:=Gg.g) (by dsimp [Gg])
def Yt:=Bh 2 O5
abbrev ja6:CT:=top 110
abbrev ki0:=Wb Xg FB Gk
abbrev Yc:=Wb Mz FB M6
abbrev Oq:=Wb Gg FB Yt
def Mx:Wf "made_web" ja6 2 4 ["word","values"] (λb q=>ki0 b->Yc b->Oq b->Uy b->q) So0:=⟨["word","values"],Bq,_,λS F f c a e =>
  fq F S λj h g =>
  (sc (by left) (sc (by left) (sc (by left) (sc (if_ (by left) (s1 (Gy (u3 fY))) sn) (sc (by left) (sc (by left) (s1 (Gy (u3 fY)))))))))⟩
def Za:=gO (v:=Mx.g) (by dsimp [Mx])
def G6:=Bh 2 Za
abbrev Ru:CT:=top 97
def Hq:Wf "written_tie" Ru 3 1 ["tie"] (λb q=>q) So0:=⟨["tie","first","second"],Bq,_,λS F =>
  fq F S λe c a =>
  (sc (by left) (sc (by left) (s1 (Gy (u3 (js_ (iD (by left) (iD uks (iD (by left) js0)))))))))⟩
def Rk:=gO (v:=Hq.g) (by dsimp [Hq])
def jd1:=Bh 3 Rk
abbrev Mp:CT:=top 96
def Es:Wf "written_number" Mp 1 1 ["points"] (λb q=>q) So0:=⟨["points"],Bq,_,λS F =>
  fq F S λe c a =>
  (s1 (Gy (u3 (js_ (iD (by left) (iD uks js0))))))⟩
def Ls:=gO (v:=Es.g) (by dsimp [Es])
def U6:=Bh 1 Ls
abbrev Wv:CT:=top 93
abbrev Lg:=Wb Es FB U6
abbrev Ra:=Wb Hq FB jd1
def Ku:Wf "shown_web" Wv 2 2 ["web"] (λb q=>Lg b->Ra b->q) So0:=⟨["web","written"],Bq,_,λS F a c =>
  fq F S λo n m =>
  (sc (setC (T:=["tie"]) (caps:=[]) 1 m (by rfl) rfl (by left) (λl _ j e g f h=>(tn 0 (show List.Nodup (["tie"]:List BR) by decide +kernel))) (λl _ j e g f h=>ti0) (λl _ j e g f h=>by left) (rY (by decide))) (by left))⟩
def Wg:=gO (v:=Ku.g) (by dsimp [Ku])
def js9:=Bh 2 Wg
abbrev Ph:CT:=top 8
def Ge:Wf "put_together" Ph 3 1 ["leasts","one","other"] (λb q=>Zc "min" b->q) So0:=⟨["leasts","one","other"],Bq,_,λS F a =>
  fq F S λf e c =>
  (s1 (Gy (u3 (cW ["least"] [1,2] (T6 (nv 0))))))⟩
def O4:=gO (v:=Ge.g) (by dsimp [Ge])
def J7:=Bh 3 O4
abbrev Oe:CT:=top 7
abbrev Ol:=Wb Ge FB J7
def Fi:Wf "least_of_each" Oe 5 2 ["web","some"] (λb q=>Zc "list" b->Zc "range" b->Ol b->q) So0:=⟨["web","some","leasts","tie","ends"],Bq,_,by left⟩
def N6:=gO (v:=Fi.g) (by dsimp [Fi])
def Nv:=Bh 5 N6
abbrev ji6:CT:=top 9
def Qg:Wf "members" ji6 2 1 ["leasts","least"] (λb q=>Zc "enumerate" b->Zc "tuple" b->q) So0:=⟨["leasts","least"],Bq,_,λS F a c =>
  fq F S λg f e =>
  (s1 (Gy (u3 (pQ c (aq (cW ["point","other"] [1] (yW a (nv 0))) an rfl)))))⟩
def jg6:=gO (v:=Qg.g) (by dsimp [Qg])
def jf2:=Bh 2 jg6
abbrev kn5:CT:=top 1
abbrev Nt:=Wb Fi FB Nv
abbrev je3:=Wb Qg FB jf2
def Xh:Wf "parts" kn5 3 3 ["web","some"] (λb q=>Zc "set" b->Zc "sorted" b->Nt b->je3 b->q) So0:=⟨["web","some","leasts"],Bq,_,λS F e a c f =>
  fq F S λj h g =>
  (sc (by left) (s1 (Gy (u3 (cW ["least"] [2] (T6 (Ww rfl a e (aq (nv 2) an stN))))))))⟩
def kk4:=gO (v:=Xh.g) (by dsimp [Xh])
def sG:=Bh 3 kk4
abbrev yG:CT:=top 2
abbrev sX:=Wb Xh FB sG
def lV:Wf "rank" yG 2 4 ["web","some"] (λb q=>Zc "len" b->sX b->q) So0:=⟨["web","some"],Bq,_,by left⟩
def yX:=gO (v:=lV.g) (by dsimp [lV])
def M5:=Bh 2 yX
abbrev Od:CT:=top 10
def Fg:Wf "each_left_out" Od 1 1 ["some"] (λb q=>Zc "len" b->Zc "range" b->q) So0:=⟨["some"],Bq,_,λS F c a =>
  fq F S λg f e =>
  (s1 (Gy (u3 (cW ["place"] [0] (wI a (aq (u5 c (aq (nv 0) an stN)) an stK))))))⟩
def N5:=gO (v:=Fg.g) (by dsimp [Fg])
def Jc:=Bh 1 N5
abbrev ji5:CT:=top 3
abbrev Nr:=Wb Fg FB Jc
abbrev Yb:=Wb lV FB M5
def Uz:Wf "is_ring" ji5 2 5 ["web","some"] (λb q=>Zc "all" b->Zc "len" b->Nr b->Yb b->q) So0:=⟨["web","some"],Bq,_,λS F c f a e =>
  fq F S λg j h =>
  (sc (by left) (s1 (Gy (u3 (gP rfl c (aq (cW ["left"] [0] (T6 (cQ g a (aq (nv 1) an stN)))) an rfl))))))⟩
def jg5:=gO (v:=Uz.g) (by dsimp [Uz])
def Fw:=Bh 2 jg5
abbrev ja5:CT:=top 15
def Mw:Wf "gathered" ja5 5 1 ["tuples"] (λb q=>Zc "sorted" b->q) So0:=⟨["tuples","sums","i","j","times"],Bq,_,λS F a =>
  eQ (O:=[1]) F S (by decide) λg A c s H E l j e =>
  have f:=S.nd
  (sc (ze9 1 f) (sc (for_ PassesOwn.never rfl (by left) (by left) (s1 (yx2 e 1 (gQ (yz3 e 1 (by left) uki) (nv 4)) (by left) (λ_ h=>h)))) (s1 (Gy (PEf.d (wm9 a (aq (cW ["place","times"] [] (ym3 1)) an rfl)) kg4)))))⟩
def Y8:=gO (v:=Mw.g) (by dsimp [Mw])
def Yr:=Bh 5 Y8
abbrev Uo:CT:=top 14
abbrev Ry:=Wb Mw FB Yr
def My:Wf "multiplied" Uo 6 2 ["one","other"] (λb q=>Ry b->q) So0:=⟨["one","other","products","i","j","times"],Bq,_,λS F a =>
  eQ (O:=[2]) F S (by decide) λp A g s H E u o r =>
  have n:=S.nd
  (sc (oX 2 n (PEf.up (l:=.fr) (l':=.no) (jK an))) (sc (for_ PassesOwn.never rfl (by left) (by left) (s1 (zl2 2 (wX (T:=["more_i","more_j","more"]) (caps:=[3,4,5]) (by rfl) rfl (by left) (λm _ j c f e h=>(tT rfl (tsc 0 (show List.Nodup (["more_i","more_j","more","i","j","times"]:List BR) by decide +kernel) (tsc 1 (show List.Nodup (["more_i","more_j","more","i","j","times"]:List BR) by decide +kernel) (tsc 2 (show List.Nodup (["more_i","more_j","more","i","j","times"]:List BR) by decide +kernel) tsn))))) (λm _ j c f e h=>ti0) (λm _ j c f e h=>by left) (Xn (by decide)))))) (s1 (Gy (cQ o a (aq (av 2) an stN))))))⟩
def Tu:=gO (v:=My.g) (by dsimp [My])
def Cm:=Bh 6 Tu
abbrev ja4:CT:=top 5
def Mv:Wf "all_ties" ja4 1 1 ["web"] (λb q=>Zc "len" b->Zc "range" b->Zc "tuple" b->q) So0:=⟨["web"],Bq,_,by left⟩
def Y7:=gO (v:=Mv.g) (by dsimp [Mv])
def Yq:=Bh 1 Y7
abbrev jx2:CT:=top 4
abbrev G3:=Wb Mv FB Yq
def Ye:Wf "is_cut" jx2 5 5 ["web","some"] (λb q=>Zc "all" b->Zc "len" b->Zc "tuple" b->G3 b->Yb b->q) So0:=⟨["web","some","every","full","rest"],Bq,_,λS F e g a c f =>
  fq F S λl j h =>
  (sc (by left) (sc (by left) (sc (Xc 4 h (pQ a (aq (cW ["tie"] [1] (T6 (nv 2))) an rfl))) (sc (by left) (s1 (Gy (u3 (gP rfl e (aq (cW ["tie"] [0,4,3] (T6 (nv 1))) an rfl)))))))))⟩
def Y9:=gO (v:=Ye.g) (by dsimp [Ye])
def Lj:=Bh 5 Y9
abbrev kn3:CT:=top 13
def sU:Wf "added" kn3 2 2 ["one","other"] (λb q=>Ry b->q) So0:=⟨["one","other"],Bq,_,by left⟩
def kk1:=gO (v:=sU.g) (by dsimp [sU])
def Ti:=Bh 2 kk1
abbrev Sx:CT:=top 42
def Ze(a:List D->R D):Ev->R Fl:=(sq (ifS (tb (b2 (bA (zv (b2 (gv 0) (kd (.int 1)) ixD) a0) Cv) (kd (.int 0)) eqD)) (Uj (kd (.lst [(.tup [(.int 0),(.int 0),(.int 1)])]))) nop)
 (sq (ifS (tt (cl (zv (gv 0) (zv (kd (.tup [(.int 0)])) a0)) Fw)) (Uj (cl (zv (cl (zv (cl (zv (gv 0) (zv (kd (.int 0)) a0)) Du) a0) a) (zv (kd (.lst [(.tup [(.int 0),(.int 1),(.int 1)])])) a0)) Cm)) nop)
 (sq (ifS (tt (cl (zv (gv 0) (zv (kd (.tup [(.int 0)])) a0)) Lj)) (Uj (cl (zv (cl (zv (cl (zv (gv 0) (zv (kd (.int 0)) a0)) Gk) a0) a) (zv (kd (.lst [(.tup [(.int 1),(.int 0),(.int 1)])])) a0)) Cm)) nop)
 (Uj (cl (zv (cl (zv (cl (zv (gv 0) (zv (kd (.int 0)) a0)) Du) a0) a) (zv (cl (zv (cl (zv (gv 0) (zv (kd (.int 0)) a0)) Gk) a0) a) a0)) Ti)))))
def Cr:Nat->List D->R D
 |0=>λ_=>.bad
 |n+1=>Bh 1 (Ze (Cr n))
def R6:List D->R D:=Cr 12
def Pr:Bt ["web"] ["web"] (Ag Sx):=⟨rfl,rfl,rfl,by decide +kernel,rfl,by decide +kernel,by decide +kernel⟩
theorem Ud{P:BW}{w:CQ}{K:BZ}{m:BR->Option A_}{base:CP}{a:BJ}{p:DX}(F:Fun K "table_of" "table_of" Sx a p)(r:m "table_of" = some (.ref a))(u:W.keepIn K (.ref a)=true)(v:Binds K p ["web"] [])(o:m "len" = none)(j:FnC P w K m base 2 "added" ["one","other"] 2 Ti)(g:FnC P w K m base 3 "drawn" ["web","tie"] 2 Gk)(h:FnC P w K m base 5 "is_cut" ["web","some"] 2 Lj)(f:FnC P w K m base 5 "is_ring" ["web","some"] 2 Fw)(c:FnC P w K m base 2 "multiplied" ["one","other"] 2 Cm)(e:FnC P w K m base 2 "without" ["web","tie"] 2 Du):
  ∀n:Nat,Ec P w K m base CX0 (6+n) a p ["web"] (sp0 K 1 (Cr n))
 |0=>yl1 F Pr
 |n+1=>eQ (k:=6+n) (O:=[]) F Pr (by decide) λx A q s H E B l z =>
  have y:=Pr.nd;have b:FnC P w K m base (6+n) "table_of" ["web"] 1 (Cr n):=⟨a,p,Ud F r u v o j g h f c e n,r,u,v⟩
  (sc (if_ (by left) (s1 (Gy (u3 (u1 (ZZ (d:=(.lst [(.tup [(.int 0),(.int 0),(.int 1)])])) (by kernel_rfl)))))) sn) (sc (if_ (tst (callC f (l.mono (by omega)) (aq (nv 0) (aq (u1 (ZZ (d:=(.tup [(.int 0)])) (by kernel_rfl))) an stT) stN))) (s1 (Gy (u3 (callC c (l.mono (by omega)) (aq (callC b (l.mono (by omega)) (aq (callC e (l.mono (by omega)) (by left)) an stK)) (aq (u1 (ZZ (d:=(.lst [(.tup [(.int 0),(.int 1),(.int 1)])])) (by kernel_rfl))) an stL) stK))))) sn) (sc (if_ (tst (callC h (l.mono (by omega)) (aq (nv 0) (aq (u1 (ZZ (d:=(.tup [(.int 0)])) (by kernel_rfl))) an stT) stN))) (s1 (Gy (u3 (callC c (l.mono (by omega)) (aq (callC b (l.mono (by omega)) (aq (callC g (l.mono (by omega)) (by left)) an stK)) (aq (u1 (ZZ (d:=(.lst [(.tup [(.int 1),(.int 0),(.int 1)])])) (by kernel_rfl))) an stL) stK))))) sn) (s1 (Gy (u3 (callC j (l.mono (by omega)) (aq (callC b (l.mono (by omega)) (aq (callC e (l.mono (by omega)) (by left)) an stK)) (aq (callC b (l.mono (by omega)) (aq (callC g (l.mono (by omega)) (by left)) an stK)) an stK) stK))))))))
abbrev z_:CT:=top 16
def Xi:Wf "taken" z_ 3 1 ["number","often"] (λb q=>q) So0:=⟨["number","often","product"],Bq,_,λS F =>
  fq F S λe c a =>
  (sc (by left) (sc (yu6 100000 PassesOwn.never (by left) (by left)) (by left)))⟩
def kk5:=gO (v:=Xi.g) (by dsimp [Xi])
def Qn:=Bh 3 kk5
abbrev z9:CT:=top 12
abbrev sW:=Wb Xi FB Qn
def Xj:Wf "worth" z9 3 2 ["table","x","y"] (λb q=>Zc "sum" b->sW b->q) So0:=⟨["table","x","y"],Bq,_,λS F a c =>
  fq F S λg f e =>
  (s1 (Gy (u3 (uX rfl a (aq (cW ["i","j","times"] [1,2] (T6 (nv 0))) an rfl)))))⟩
def kk6:=gO (v:=Xj.g) (by dsimp [Xj])
def Xl:=Bh 3 kk6
abbrev ja3:CT:=top 6
def Mu:Wf "all_sets" ja3 3 2 ["web"] (λb q=>Zc "sorted" b->G3 b->q) So0:=⟨["web","sets","tie"],Bq,_,λS F a c =>
  fq F S λg f e =>
  (sc (Xc 1 e (u1 (ZZ (d:=(.lst [(.tup [])])) (by kernel_rfl)))) (sc (for_ PassesOwn.never rfl (tn 2 e) (by left) (s1 (Xc 1 e (gQ (nv 1) (cW ["some"] [2] (T6 (nv 1))))))) (s1 (Gy (u3 (PEf.d (kw7 f a (by left)) jp7))))))⟩
def Y6:=gO (v:=Mu.g) (by dsimp [Mu])
def R5:=Bh 3 Y6
abbrev ji3:CT:=top 86
abbrev X8:=Wb Mu FB R5
def Qe:Wf "forests" ji3 2 5 ["web"] (λb q=>Zc "len" b->X8 b->G3 b->Yb b->q) So0:=⟨["web","full"],Bq,_,λS F f a c e =>
  fq F S λg j h =>
  (sc (by left) (s1 (Gy (u3 (cW ["some"] [1,0] (T6 (cQ g a (aq (nv 0) an stN))))))))⟩
def jg3:=gO (v:=Qe.g) (by dsimp [Qe])
def Ql:=Bh 2 jg3
abbrev Oc:CT:=top 76
abbrev J6(b:Bx):Prop:=FB b 18 "table_of" ["web"] R6
abbrev Qd:=Wb Xj FB Xl
def Ff:Wf "colours_count" Oc 4 19 ["web","many"] (λb q=>Zc "len" b->G3 b->sX b->J6 b->sW b->Qd b->q) So0:=⟨["web","many","parted","count"],Bq,_,by left⟩
def Nz:=gO (v:=Ff.g) (by dsimp [Ff])
def Jb:=Bh 4 Nz
abbrev Pj:CT:=top 89
def Gf:Wf "refuse_hours" Pj 1 1 ["hours"] (λb q=>q) So0:=⟨["hours"],Bq,_,by left⟩
def Gq:=gO (v:=Gf.g) (by dsimp [Gf])
def Ox:=Bh 1 Gq
abbrev Rq:CT:=top 88
abbrev Oo:=Wb Gf FB Ox
def Hn:Wf "flows_count" Rq 4 19 ["web","hours"] (λb q=>Zc "len" b->G3 b->Yb b->Oo b->J6 b->Qd b->q) So0:=⟨["web","hours","every","count"],Bq,_,by left⟩
def Ri:=gO (v:=Hn.g) (by dsimp [Hn])
def La:=Bh 4 Ri
abbrev Mm:CT:=top 83
def Er:Wf "ringless_count" Mm 1 19 ["web"] (λb q=>J6 b->Qd b->q) So0:=⟨["web"],Bq,_,by left⟩
def Lr:=gO (v:=Er.g) (by dsimp [Er])
def G8:=Bh 1 Lr
abbrev Pn:CT:=top 84
def Gh:Wf "rounds_count" Pn 1 19 ["web"] (λb q=>J6 b->Qd b->q) So0:=⟨["web"],Bq,_,by left⟩
def O6:=gO (v:=Gh.g) (by dsimp [Gh])
def J8:=Bh 1 O6
abbrev Rr:CT:=top 113
abbrev Nq:=Wb Ff FB Jb
abbrev Q8:=Wb Hn FB La
abbrev je1:=Wb Qe FB Ql
abbrev Lf:=Wb Er FB G8
abbrev Ot:=Wb Gh FB J8
def Ho:Wf "number_told" Rr 2 20 ["word","values"] (λb q=>Zc "len" b->Nq b->Q8 b->je1 b->Lf b->Ot b->J6 b->Qd b->q) So0:=⟨["word","values"],Bq,_,by left⟩
def Rj:=gO (v:=Ho.g) (by dsimp [Ho])
def By:=Bh 2 Rj
abbrev jx0:CT:=top 112
abbrev Q9:=Wb Ho FB By
abbrev V3:=Wb Ku FB js9
def S9:Wf "answer" jx0 2 21 ["word","values"] (λb q=>Zc "str" b->Q9 b->V3 b->q) So0:=⟨["word","values"],Bq,_,λS F e a c =>
  fq F S λh g f =>
  (sc (by left) (sc (if_ (by left) (s1 (Gy (u3 fY))) sn) (sc (if_ (by left) (s1 (Gy (u3 fY))) sn) (sc (if_ (by left) (s1 (Gy (u3 fY))) sn) (by left)))))⟩
def ju1:=gO (v:=S9.g) (by dsimp [S9])
def Tj:=Bh 2 ju1
abbrev vY:CT:=k_ (top 108) 1
abbrev jq9:=Wb S9 FB Tj
abbrev Rz:=Wb Mx FB G6
abbrev Om:=Wb Ks FB Be
abbrev J5(b:Bx):Prop:=FMC b 2 "refuse_name" ["self","kind","value"] Cq
def pM:WfM "say" "Desk.say" vY 8 22 ["self","row"] (λb q=>jq9 b->Rz b->Om b->HDk b.K->J5 b->q) So0:=⟨["self","row","line","word","handed","kind","value","values"],Bq,_,λS F f e c s a =>
  fq F S λr l p =>
  (sc (by left) (sc (by left) (sc (by left) (sc (for_ PassesOwn.never rfl (by left) (by left) (s1 (ex_ (u3 (qX a (r.mono (by decide)) (nv 0) (ac (nv 5) (ac (nv 6) an))))))) (sc (setC (T:=["kind","value"]) (caps:=[0]) 7 p (by rfl) rfl (by left) (λo _ n g j h m=>(tT rfl (tsc 0 (show List.Nodup (["kind","value","self"]:List BR) by decide +kernel) (tsc 1 (show List.Nodup (["kind","value","self"]:List BR) by decide +kernel) tsn)))) (λo _ n g j h m=>ti0) (λo _ n g j h m=>(u3 (ifx (by left) (vQ l s (nv 2) (nv 1)) (nv 1)))) (Xn (by decide))) (sc (if_ (by left) (sc (yn9 l (by left)) (by left)) sn) (by left)))))))⟩
def wM:=gO (v:=pM.g) (by dsimp [pM])
def pI:=Bh 8 wM
abbrev Ul:CT:=top 123
def Jp:Wf "_law_parts" Ul 6 1 ["_law_points","_law_ties"] (λb q=>Zc "len" b->Zc "list" b->Zc "range" b->Zc "set" b->q) So0:=⟨["_law_points","_law_ties","_law_marks","_law_one","_law_other","_law_old"],Bq,_,λS F f c a e =>
  fq F S λj h g =>
  (sc (by left) (sc (for_ PassesOwn.never rfl (by left) (by left) (sc (by left) (s1 (Xc 2 g (cW ["_law_mark"] [5,2,4] (T6 (nv 2))))))) (by left)))⟩
def Tq:=gO (v:=Jp.g) (by dsimp [Jp])
def Ju:=Bh 6 Tq
abbrev Rp:CT:=top 125
abbrev zQ(b:Bx):Prop:=FMC b 22 "say" ["self","row"] pI
def Hl:Wf "_law_number" Rp 3 23 ["_law_desk","_law_row"] (λb q=>Zc "int" b->Zc "isinstance" b->Zc "str" b->zQ b->q) So0:=⟨["_law_desk","_law_row","_law_told"],Bq,_,λS F f a c e =>
  fq F S λh j g =>
  (sc (Xc 2 g (qX e (h.mono (by decide)) (nv 0) (ac (nv 1) an))) (sc (if_ (d_ (fV (jE (tst (u1 (isi "str" "str" (by decide) PyProof.Rows.boot_str a c (nv 2))))) (by left))) (by left) sn) (by left)))⟩
def Rh:=gO (v:=Hl.g) (by dsimp [Hl])
def Ba:=Bh 3 Rh
abbrev Um:CT:=top 126
abbrev Hj:=Wb Hl FB Ba
def Jq:Wf "_law_worth" Um 4 24 ["_law_desk","_law_name","_law_x","_law_y"] (λb q=>Zc "str" b->Hj b->q) So0:=⟨["_law_desk","_law_name","_law_x","_law_y"],Bq,_,by left⟩
def Tt:=gO (v:=Jq.g) (by dsimp [Jq])
def Ax:=Bh 4 Tt
abbrev Ro:CT:=top 127
abbrev Mr:=Wb Jp FB Ju
abbrev Ms:=Wb Jq FB Ax
def Hk:Wf "_law_counts" Ro 12 25 ["_law_desk","_law_web_here","_law_many"] (λb q=>Zc "len" b->Zc "range" b->Zc "str" b->Hj b->Mr b->Ms b->q) So0:=⟨["_law_desk","_law_web_here","_law_many","_law_several","_law_height","_law_colours","_law_part","_law_flows","_law_sets","_law_tie_here","_law_due","_law_found"],Bq,_,λS F h f g a e c =>
  fq F S λm l j =>
  (sc (by left) (sc (by left) (sc (by left) (sc (by left) (sc (by left) (sc (by left) (sc (by left) (sc (by left) (sc (Xc 10 j (gQ (nv 10) (lst (aq (mul (nv 5) (ix (lst (by left)) (by left))) (aq (mul (nv 7) (ix (lst (by left)) (by left))) an stB) stB)))) (by left))))))))))⟩
def Rg:=gO (v:=Hk.g) (by dsimp [Hk])
def Hs:=Bh 12 Rg
abbrev Wr:CT:=top 124
def Kq:Wf "_law_text" Wr 1 1 ["_law_web_here"] (λb q=>Zc "str" b->q) So0:=⟨["_law_web_here"],Bq,_,λS F a =>
  fq F S λf e c =>
  (s1 (Gy (u3 (wG uks (gQ (by left) (cW ["_law_one","_law_other"] [] (T6 (ix (nv 0) uki))))))))⟩
def Wc:=gO (v:=Kq.g) (by dsimp [Kq])
def Kw:=Bh 1 Wc
abbrev yr4:CT:=k_ (top 108) 1
def qY:WfW "say" "Desk.say" yr4 8 5 ["self","row"] (λb q=>Rz b->Om b->HDk b.K->J5 b->q):=⟨["self","row","line","word","handed","kind","value","values"],Bq,_,λS F e c o a =>
  yl4 F S rfl λv A j s H E w u l =>
  have r:=S.nd
  (scT (by left) (scT (by left) (scT (by left) (scT (for_ PassesOwn.never rfl (by left) (by left) (s1 (ex_ (u3 (qX a (u.mono (by decide)) (nv 0) (ac (nv 5) (ac (nv 6) an))))))) (scT (setC (T:=["kind","value"]) (caps:=[0]) 7 r (by rfl) rfl (by left) (λp _ n f h g m=>(tT rfl (tsc 0 (show List.Nodup (["kind","value","self"]:List BR) by decide +kernel) (tsc 1 (show List.Nodup (["kind","value","self"]:List BR) by decide +kernel) tsn)))) (λp _ n f h g m=>ti0) (λp _ n f h g m=>(u3 (ifx (by left) (vQ l o (nv 2) (nv 1)) (nv 1)))) (Xn (by decide))) (yz5 (by left) (ya1 l 0 o (by left) (by left))))))))⟩
def lO:Ev->R D:=gOW (v:=qY.g) (by dsimp [qY])
def Ey:List D->R D:=jR 8 lO
abbrev Nj:CT:=top 128
abbrev sY(b:Bx):Prop:=FMW b 5 "say" ["self","row"] Ey
def Sd:Ev->R (D×Ev):=(sqN (orN (wrN 0 (b2 (kd (.str "without b a ")) (bA (zv (gv 2) a0) Oj) Az) Ey) (wrN 0 (b2 (kd (.str "drawn c a ")) (bA (zv (gv 2) a0) Oj) Az) Ey))
 (sqA 0 (jO (itS (kd (.lst [(.str "b"),(.str "c")]))) (gN 5) (sq (asg 6 (bA (zv (cl (zv (gv 0) (zv (gv 5) (zv (kd (.int 2)) (zv (kd (.int 0)) a0)))) Ax) (zv (cl (zv (gv 0) (zv (gv 5) (zv (kd (.int 0)) (zv (kd (.int 2)) a0)))) Ax) (zv (cl (zv (gv 0) (zv (gv 5) (zv (kd (.int 1)) (zv (kd (.int 1)) a0)))) Ax) a0))) Ub))
 (ifS (tb (b2 (Ci (itS (kd (.lst [(.str "ringless "),(.str "rounds "),(.str "forests ")]))) 1 [0,5] (gN 0) yes (cl (zv (gv 1) (zv (b2 (gv 0) (gv 2) Az) a0)) Ba)) (gv 6) neD)) (Uj (kd (.bl false))) nop)))
 (sqA 0 (asg 7 (cl (zv (gv 0) (zv (kd (.str "a")) (zv (gv 3) (zv (gv 4) a0)))) Ax))
 (sqA 0 (asg 8 (cl (zv (gv 0) (zv (kd (.str "b")) (zv (gv 3) (zv (gv 4) a0)))) Ax))
 (sqA 0 (asg 9 (cl (zv (gv 0) (zv (kd (.str "c")) (zv (gv 3) (zv (gv 4) a0)))) Ax))
 (ifA (tb (b2 (b2 (b2 (b2 (gv 1) (kd (.int 1)) ixD) (gv 2) ixD) (kd (.int 0)) ixD) (b2 (b2 (b2 (gv 1) (kd (.int 1)) ixD) (gv 2) ixD) (kd (.int 1)) ixD) eqD)) (va (b2 (gv 7) (b2 (gv 4) (gv 8) Hw) eqD) (b2 (gv 8) (gv 9) eqD))
 (ifA (tb (b2 (cl (zv (b2 (gv 1) (kd (.int 0)) ixD) (zv (b2 (bS (b2 (gv 1) (kd (.int 1)) ixD) p0 (p1 (gv 2)) slA) (bS (b2 (gv 1) (kd (.int 1)) ixD) (p1 (b2 (gv 2) (kd (.int 1)) Az)) p0 slA) Az) a0)) Ju) (cl (zv (b2 (gv 1) (kd (.int 0)) ixD) (zv (b2 (gv 1) (kd (.int 1)) ixD) a0)) Ju) gtD)) (va (b2 (gv 7) (b2 (gv 3) (gv 9) Hw) eqD) (b2 (gv 8) (gv 9) eqD))
 (dG (b2 (gv 7) (b2 (gv 8) (gv 9) Az) eqD)))))))))
def Eg:List D->R D:=gJ 10 Sd
def jn9{b:Bx}{a:BJ}{o:DX}(F:Fun b.K "_law_tie" "_law_tie" Nj a o)(r:HDk b.K)(j:Zc "str" b)(e:Hj b)(g:Mr b)(f:Ms b)(c:sY b):Ec b.P b.w b.K b.mg b.base CX0 25 a o ["_law_desk","_law_web_here","_law_tie_here","_law_x","_law_y"] (spA b.K 5 Eg):=
 wt9 F (show Bt ["_law_desk","_law_web_here","_law_tie_here","_law_x","_law_y","_law_name","_law_due","_law_whole","_law_one","_law_other"] ["_law_desk","_law_web_here","_law_tie_here","_law_x","_law_y"] (Ag Nj) from Bq) r λq A l s H v E u nm h n m =>
  have p:=(show Bt ["_law_desk","_law_web_here","_law_tie_here","_law_x","_law_y","_law_name","_law_due","_law_whole","_law_one","_law_other"] ["_law_desk","_law_web_here","_law_tie_here","_law_x","_law_y"] (Ag Nj) from Bq).nd
  (zj3 (vP (zq6 (uW m (wY 0 c h (n.mono (by decide)) (by left))) (zh5 (uW m (wY 0 c h (n.mono (by decide)) (by left)))))) (asc (for_ PassesOwn.never rfl (tn 5 p) (T6 (u1 (ZZ (d:=(.lst [(.str "b"),(.str "c")])) (by kernel_rfl)))) (sc (by left) (s1 (if_ (tne m (cW ["_law_word"] [0,5] (T6 (u1 (ZZ (d:=(.lst [(.str "ringless "),(.str "rounds "),(.str "forests ")])) (by kernel_rfl))))) (nv 6)) (by left) sn)))) (asc (by left) (asc (by left) (asc (by left) (aif (by left) (by left) (aif (by left) (by left) (zj2 (by left)))))))))
abbrev Wt:CT:=top 129
abbrev Q7:=Wb Hk FB Hs
abbrev V1:=Wb Kq FB Kw
abbrev X7:=Wb Mt FB Yp
def pN:Wf "law" Wt 6 26 ["_law_script"] (λb q=>Zc "all" b->Zc "len" b->Zc "range" b->Kl b->Q7 b->Km b->V1 b->X7 b->HDk b.K->DkN b.P b.w b.K b.mg b.base 1->FAB b 25 "_law_tie" ["_law_desk","_law_web_here","_law_tie_here","_law_x","_law_y"] Eg->sY b->q) Sl0:=⟨["_law_script","_law_web_here","_law_x","_law_y","_law_many","_law_desk"],Bq,_,λS F l o a h c g f j I G m e =>
  yl3 (O:=[]) F S (by decide) λz A p s H E L n r y =>
  have x:=S.nd
  (sc0 (by left) (sc0 (by left) (sc0 (by left) (sc0 (by left) (sc0 (by left) (sc0 (Xc 5 x (u1 (yn4 G (r.mono (by decide))))) (scW (zm0 (vP (zq7 (zq5 y (yw3 5 e n (r.mono (by decide)) (by left))) (zh6 (zq8 (by left)))))) (yq9 l (T:=["_law_tie_here"]) (caps:=[5,1,2,3]) (by rfl) rfl (yz8 a (ac (by left) an)) (λJ _ C u v B=>(tn 0 (show List.Nodup (["_law_tie_here","_law_desk","_law_web_here","_law_x","_law_y"]:List BR) by decide +kernel))) (λJ _ C u v B=>(yw2 1 m I (λnm=>wy1 n) (r.mono (by decide)) (ac (by left) (ac (by left) (ac (by left) (ac (by left) an))))))))))))))⟩
def wN:Ev->R Fl:=gO (v:=pN.g) (by dsimp [pN])
def d_law:List D->R D:=Bh 6 wN
abbrev yr3:CT:=k_ (top 108) 0
end
def all_mk{l:W.OpenLaw}{w:CQ}{K:BZ}{h:CP}{mg:BR->Option A_}{fa:BJ}(X:K.In h)(G:h.Ns PySem.mainGlobals mg)(iu:mg "law" = some (.ref fa))
  (ee:FI K "_law_cell" Wo)
  (Y:FI K "_law_by_digits" Mi)
  (ed:FI K "_law_draw" Wq)
  (au:FI K "_law_by_cells" Ob)
  (er:FI K "_law_web" ja2)
  (br:FI K "words_behind" Pq)
  (eb:FI K "is_number" Ws)
  (ei:FI K "value_of" ja8)
  (ea:FI K "read_line" Wu)
  (fu:FI K "is_name" ji4)
  (B:FI K "is_written_number" Jm)
  (U:FI K "is_written_tie" Mj)
  (T:FI K "refuse_numbers" Ml)
  (gp:FI K "is_tie" jx3)
  (gn:FI K "web_of" jx5)
  (ek:FI K "read_web" ja7)
  (di:FI K "refuse_tie" Up)
  (fo:FI K "without" ji7)
  (dh:FI K "rising_tie" Uq)
  (aj:FI K "number_as_one" Og)
  (gr:FI K "as_one" jx1)
  (hj:FI K "drawn" kn4)
  (bu:FI K "refuse_point" Pk)
  (el:FI K "made_web" ja6)
  (cw:FI K "written_tie" Ru)
  (P:FI K "written_number" Mp)
  (dy:FI K "shown_web" Wv)
  (bx:FI K "put_together" Ph)
  (ak:FI K "least_of_each" Oe)
  (fp:FI K "members" ji6)
  (hi:FI K "parts" kn5)
  (hs:FI K "rank" yG)
  (ao:FI K "each_left_out" Od)
  (ft:FI K "is_ring" ji5)
  (en:FI K "gathered" ja5)
  (dj:FI K "multiplied" Uo)
  (eo:FI K "all_ties" ja4)
  (gq:FI K "is_cut" jx2)
  (hk:FI K "added" kn3)
  (ej:FI K "table_of" Sx)
  (hh:FI K "taken" z_)
  (hg:FI K "worth" z9)
  (ep:FI K "all_sets" ja3)
  (fv:FI K "forests" ji3)
  (ar:FI K "colours_count" Oc)
  (bw:FI K "refuse_hours" Pj)
  (cy:FI K "flows_count" Rq)
  (Q:FI K "ringless_count" Mm)
  (bt:FI K "rounds_count" Pn)
  (cx:FI K "number_told" Rr)
  (gs:FI K "answer" jx0)
  (dm:FI K "_law_parts" Ul)
  (cz:FI K "_law_number" Rp)
  (dk:FI K "_law_worth" Um)
  (da:FI K "_law_counts" Ro)
  (ec:FI K "_law_text" Wr)
  (es:FI K "_law_tie" Nj)
  {fl:BJ}{hq gi:Option BJ}{hp:Array (Option A_)}{hr gf gg gc dw gh:A_}(il:W.nsIn K PySem.mainGlobals "law" = some (some (.ref fl)))(ih:K.lookup fl=some ⟨hr,hq,.func (W.fnOf "law" "law" (Dp Wt) (Br Wt) (Ag Wt) .none gf gg gc gi dw gh),hp⟩)(ik:W.codeIn K dw "law" = true)(ij:W.keepIn K (.ref fl)=true)
  {Cd:BJ}(hn:DkC K Cd)(iv:DI K Cd yr3)(gk:MI K Cd "say" "Desk.say" vY)(bq:MI K Cd "refuse_name" "Desk.refuse_name" Rt)(FRI:FRI w K "FORMS" FT)(ic:W.nsIn K PySem.mainGlobals "len" = some none)(ib:W.nsIn K PySem.mainGlobals "max" = some none)(ia:W.nsIn K PySem.mainGlobals "min" = some none)(hc:W.nsIn K PySem.mainGlobals "range" = some none)(hb:W.nsIn K PySem.mainGlobals "tuple" = some none)(ig:W.nsIn K PySem.mainGlobals "all" = some none)(ie:W.nsIn K PySem.mainGlobals "int" = some none)(hv:W.nsIn K PySem.mainGlobals "zip" = some none)(dg:W.nsIn K PySem.mainGlobals "isinstance" = some none)(dt:W.nsIn K PySem.mainGlobals "enumerate" = some none)(ho:W.nsIn K PySem.mainGlobals "list" = some none)(hz:W.nsIn K PySem.mainGlobals "set" = some none)(gm:W.nsIn K PySem.mainGlobals "sorted" = some none)(hx:W.nsIn K PySem.mainGlobals "sum" = some none)(hy:W.nsIn K PySem.mainGlobals "str" = some none){fj:Tok}(fh:W.nsIn K PySem.mainGlobals "FIGURES" = some (some (.str "0123456789" fj))){bj:Tok}(bg:W.nsIn K PySem.mainGlobals "MOST_FIGURES" = some (some (.int 10 bj))){fi:Tok}(fg:W.nsIn K PySem.mainGlobals "LETTERS" = some (some (.str "abcdefghijklmnopqrstuvwxyz" fi))){bh:Tok}(bf:W.nsIn K PySem.mainGlobals "MOST_LETTERS" = some (some (.int 8 bh))){cu:Tok}(cq:W.nsIn K PySem.mainGlobals "MOST_POINTS" = some (some (.int 6 cu))){dv:Tok}(du:W.nsIn K PySem.mainGlobals "MOST_TIES" = some (some (.int 9 dv))):
  ∃fd:DX,(∀(s:BK)(v:A_),TV s fd ⟨[v],[]⟩ [("_law_script",v)])/\∀base:CP,K.In base->base.Ns PySem.mainGlobals mg->Ec l.prog w K mg base CX0 26 fa fd ["_law_script"] (spL K 1 d_law):=by
 have e:=iu.symm.trans (W.mg_of X G il);cases e;have f:=W.mg_none_of X G ic;have fe:=W.mg_none_of X G ib;have dr:=W.mg_none_of X G ia;have o:=W.mg_none_of X G hc;have r:=W.mg_none_of X G hb;have cn:=W.mg_none_of X G ig;have ff:=W.mg_none_of X G ie;have ht:=W.mg_none_of X G hv;have H:=W.mg_none_of X G dg;have O:=W.mg_none_of X G dt;have gb:=W.mg_none_of X G ho;have ha:=W.mg_none_of X G hz;have ai:=W.mg_none_of X G gm;have hu:=W.mg_none_of X G hx;have ah:=W.mg_none_of X G hy;have L:=W.mg_of X G fh;have bp:=W.mg_of X G bg;have fm:=W.mg_of X G fg;have bo:=W.mg_of X G bf;have cv:=W.mg_of X G cq;have dx:=W.mg_of X G du;have iq:=lQ (st:=Wt) ih ik ij;refine⟨W.fnOf "law" "law" (Dp Wt) (Br Wt) (Ag Wt) .none gf gg gc gi dw gh,λs v=>.of_eq rfl,λbase _ _=>?_⟩;let b:Bx:=⟨l.prog,w,K,mg,base,fa⟩;have DK:HDk K:=⟨_,hn⟩;have DN:=yj8 l.prog w base X G hn iv Bq rfl (Or.inl rfl) (λ_=>rfl) (λ_ _ _ _ _ _=>ll1 λ_=>rfl);have KF:=yl7 l.prog X G FRI;have j {x:BR} {st:CT} {k n:Nat} {ps:List BR} {m:List D->R D}:=yy8 (x:=x) (st:=st) (ps:=ps) (k:=k) (n:=n) (m:=m) l.prog w base X G;have z:Kl b:=j ee (λ_ _ F=>Ko.at (g:=V9) (by kernel_rfl) (b:=b) F f) (λ_ _ _ _ _ _=>ll2 λ_ _=>rfl);have ag:Lb b:=j Y (λ_ _ F=>En.at (g:=Lp) (by kernel_rfl) (b:=b) F fe dr o) (λ_ _ _ _ _ _=>ll3 λ_ _ _=>rfl);have y:Km b:=j ed (λ_ _ F=>Kp.at (g:=Wa) (by kernel_rfl) (b:=b) F) (λ_ _ _ _ _ _=>ll3 λ_ _ _=>rfl);have ba:Np b:=j au (λ_ _ F=>Fe.at (g:=Ny) (by kernel_rfl) (b:=b) F fe dr o z y) (λ_ _ _ _ _ _=>ll4 λ_ _ _ _=>rfl);have fc:X7 b:=j er (λ_ _ F=>Mt.at (g:=Y5) (by kernel_rfl) (b:=b) F r ba ag z y) (λ_ _ _ _ _ _=>ll3 λ_ _ _=>rfl);have cb:Ou b:=j br (λ_ _ F=>Gi.at (g:=O7) (by kernel_rfl) (b:=b) F f) (λ_ _ _ _ _ _=>ll2 λ_ _=>rfl);have eg:V2 b:=j eb (λ_ _ F=>Kr.at (g:=Wd) (by kernel_rfl) (b:=b) F cn f L bp) (λ_ _ _ _ _ _=>ll1 λ_=>rfl);have et:Yd b:=j ei (λ_ _ F=>M3.at (g:=Zf) (by kernel_rfl) (b:=b) F ff eg) (λ_ _ _ _ _ _=>ll2 λ_ _=>rfl);have ae:Om b:=j ea (λ_ _ F=>Ks.at (g:=We) (by kernel_rfl) (b:=b) F f ht et cb KF) (λ_ _ _ _ _ _=>ll1 λ_=>rfl);have fy:je2 b:=j fu (λ_ _ F=>Qf.at (g:=jg4) (by kernel_rfl) (b:=b) F cn f fm bo) (λ_ _ _ _ _ _=>ll1 λ_=>rfl);have A:J5 b:=yN l.prog w base hn bq (λ_ _ F=>K8.at (g:=Dv) (by kernel_rfl) (b:=b) F fy DK) (λ_ _ _ _ _ _=>ll3 λ_ _ _=>rfl);have E:Ji b:=j B (λ_ _ F=>Dg.at (g:=Jl) (by kernel_rfl) (b:=b) F f L) (λ_ _ _ _ _ _=>ll1 λ_=>rfl);have af:Ld b:=j U (λ_ _ F=>Eo.at (g:=Lq) (by kernel_rfl) (b:=b) F f L) (λ_ _ _ _ _ _=>ll1 λ_=>rfl);have ab:Le b:=j T (λ_ _ F=>Ep.at (g:=Eu) (by kernel_rfl) (b:=b) F cv dx) (λ_ _ _ _ _ _=>ll2 λ_ _=>rfl);have gw:jr1 b:=j gp (λ_ _ F=>Td.at (g:=ju3) (by kernel_rfl) (b:=b) F H f r) (λ_ _ _ _ _ _=>ll2 λ_ _=>rfl);have gu:jr2 b:=j gn (λ_ _ F=>Te.at (g:=ju4) (by kernel_rfl) (b:=b) F O f r gw ab) (λ_ _ _ _ _ _=>ll2 λ_ _=>rfl);have ew:Yc b:=j ek (λ_ _ F=>Mz.at (g:=Zb) (by kernel_rfl) (b:=b) F ff E af gu) (λ_ _ _ _ _ _=>ll1 λ_=>rfl);have dp:S7 b:=j di (λ_ _ F=>Jr.at (g:=Jw) (by kernel_rfl) (b:=b) F f) (λ_ _ _ _ _ _=>ll2 λ_ _=>rfl);have M:Uy b:=j fo (λ_ _ F=>Qh.at (g:=jg7) (by kernel_rfl) (b:=b) F dp) (λ_ _ _ _ _ _=>ll2 λ_ _=>rfl);have dn:S8 b:=j dh (λ_ _ F=>Js.at (g:=Tv) (by kernel_rfl) (b:=b) F fe dr) (λ_ _ _ _ _ _=>ll2 λ_ _=>rfl);have aw:Nu b:=j aj (λ_ _ F=>Fj.at (g:=N7) (by kernel_rfl) (b:=b) F) (λ_ _ _ _ _ _=>ll3 λ_ _ _=>rfl);have gy:jr0 b:=j gr (λ_ _ F=>Tc.at (g:=ju2) (by kernel_rfl) (b:=b) F r aw dn) (λ_ _ _ _ _ _=>ll3 λ_ _ _=>rfl);have ez:ki0 b:=j hj (λ_ _ F=>Xg.at (g:=kk3) (by kernel_rfl) (b:=b) F gy M) (λ_ _ _ _ _ _=>ll2 λ_ _=>rfl);have cg:Oq b:=j bu (λ_ _ F=>Gg.at (g:=O5) (by kernel_rfl) (b:=b) F) (λ_ _ _ _ _ _=>ll2 λ_ _=>rfl);have bb:Rz b:=j el (λ_ _ F=>Mx.at (g:=Za) (by kernel_rfl) (b:=b) F ez ew cg M) (λ_ _ _ _ _ _=>ll2 λ_ _=>rfl);have dc:Ra b:=j cw (λ_ _ F=>Hq.at (g:=Rk) (by kernel_rfl) (b:=b) F) (λ_ _ _ _ _ _=>ll1 λ_=>rfl);have Z:Lg b:=j P (λ_ _ F=>Es.at (g:=Ls) (by kernel_rfl) (b:=b) F) (λ_ _ _ _ _ _=>ll1 λ_=>rfl);have ef:V3 b:=j dy (λ_ _ F=>Ku.at (g:=Wg) (by kernel_rfl) (b:=b) F Z dc) (λ_ _ _ _ _ _=>ll1 λ_=>rfl);have ck:Ol b:=j bx (λ_ _ F=>Ge.at (g:=O4) (by kernel_rfl) (b:=b) F dr) (λ_ _ _ _ _ _=>ll3 λ_ _ _=>rfl);have ax:Nt b:=j ak (λ_ _ F=>Fi.at (g:=N6) (by kernel_rfl) (b:=b) F gb o ck) (λ_ _ _ _ _ _=>ll2 λ_ _=>rfl);have fw:je3 b:=j fp (λ_ _ F=>Qg.at (g:=jg6) (by kernel_rfl) (b:=b) F O r) (λ_ _ _ _ _ _=>ll2 λ_ _=>rfl);have ey:sX b:=j hi (λ_ _ F=>Xh.at (g:=kk4) (by kernel_rfl) (b:=b) F ha ai ax fw) (λ_ _ _ _ _ _=>ll2 λ_ _=>rfl);have cm:Yb b:=j hs (λ_ _ F=>lV.at (g:=yX) (by kernel_rfl) (b:=b) F f ey) (λ_ _ _ _ _ _=>ll2 λ_ _=>rfl);have ay:Nr b:=j ao (λ_ _ F=>Fg.at (g:=N5) (by kernel_rfl) (b:=b) F f o) (λ_ _ _ _ _ _=>ll1 λ_=>rfl);have fx:FB b 5 "is_ring" ["web","some"] Fw:=j ft (λ_ _ F=>Uz.at (g:=jg5) (by kernel_rfl) (b:=b) F cn f ay cm) (λ_ _ _ _ _ _=>ll2 λ_ _=>rfl);have bc:Ry b:=j en (λ_ _ F=>Mw.at (g:=Y8) (by kernel_rfl) (b:=b) F ai) (λ_ _ _ _ _ _=>ll1 λ_=>rfl);have dq:FB b 2 "multiplied" ["one","other"] Cm:=j dj (λ_ _ F=>My.at (g:=Tu) (by kernel_rfl) (b:=b) F bc) (λ_ _ _ _ _ _=>ll2 λ_ _=>rfl);have q:G3 b:=j eo (λ_ _ F=>Mv.at (g:=Y7) (by kernel_rfl) (b:=b) F f o r) (λ_ _ _ _ _ _=>ll1 λ_=>rfl);have gx:FB b 5 "is_cut" ["web","some"] Lj:=j gq (λ_ _ F=>Ye.at (g:=Y9) (by kernel_rfl) (b:=b) F cn f r q cm) (λ_ _ _ _ _ _=>ll2 λ_ _=>rfl);have hl:FB b 2 "added" ["one","other"] Ti:=j hk (λ_ _ F=>sU.at (g:=kk1) (by kernel_rfl) (b:=b) F bc) (λ_ _ _ _ _ _=>ll2 λ_ _=>rfl);have p:=yk8 l.prog w base X G ej (λ_ _ F a b c=>Ud F a b c f hl ez gx fx dq M 12) (λ_ _ _ _ _ _=>ll1 λ_=>rfl);have eu:sW b:=j hh (λ_ _ F=>Xi.at (g:=kk5) (by kernel_rfl) (b:=b) F) (λ_ _ _ _ _ _=>ll2 λ_ _=>rfl);have C:Qd b:=j hg (λ_ _ F=>Xj.at (g:=kk6) (by kernel_rfl) (b:=b) F hu eu) (λ_ _ _ _ _ _=>ll3 λ_ _ _=>rfl);have fb:X8 b:=j ep (λ_ _ F=>Mu.at (g:=Y6) (by kernel_rfl) (b:=b) F ai q) (λ_ _ _ _ _ _=>ll1 λ_=>rfl);have fz:je1 b:=j fv (λ_ _ F=>Qe.at (g:=jg3) (by kernel_rfl) (b:=b) F f fb q cm) (λ_ _ _ _ _ _=>ll1 λ_=>rfl);have az:Nq b:=j ar (λ_ _ F=>Ff.at (g:=Nz) (by kernel_rfl) (b:=b) F f q ey p eu C) (λ_ _ _ _ _ _=>ll2 λ_ _=>rfl);have cj:Oo b:=j bw (λ_ _ F=>Gf.at (g:=Gq) (by kernel_rfl) (b:=b) F) (λ_ _ _ _ _ _=>ll1 λ_=>rfl);have de:Q8 b:=j cy (λ_ _ F=>Hn.at (g:=Ri) (by kernel_rfl) (b:=b) F f q cm cj p C) (λ_ _ _ _ _ _=>ll2 λ_ _=>rfl);have aa:Lf b:=j Q (λ_ _ F=>Er.at (g:=Lr) (by kernel_rfl) (b:=b) F p C) (λ_ _ _ _ _ _=>ll1 λ_=>rfl);have cf:Ot b:=j bt (λ_ _ F=>Gh.at (g:=O6) (by kernel_rfl) (b:=b) F p C) (λ_ _ _ _ _ _=>ll1 λ_=>rfl);have dd:Q9 b:=j cx (λ_ _ F=>Ho.at (g:=Rj) (by kernel_rfl) (b:=b) F f az de fz aa cf p C) (λ_ _ _ _ _ _=>ll2 λ_ _=>rfl);have gz:jq9 b:=j gs (λ_ _ F=>S9.at (g:=ju1) (by kernel_rfl) (b:=b) F ah dd ef) (λ_ _ _ _ _ _=>ll2 λ_ _=>rfl);have ip:zQ b:=yN l.prog w base hn gk (λ_ _ F=>pM.at (g:=wM) (by kernel_rfl) (b:=b) F gz bb ae DK A) (λ_ _ _ _ _ _=>ll2 λ_ _=>rfl);have J:Mr b:=j dm (λ_ _ F=>Jp.at (g:=Tq) (by kernel_rfl) (b:=b) F f gb o ha) (λ_ _ _ _ _ _=>ll2 λ_ _=>rfl);have u:Hj b:=j cz (λ_ _ F=>Hl.at (g:=Rh) (by kernel_rfl) (b:=b) F ff H ah ip) (λ_ _ _ _ _ _=>ll2 λ_ _=>rfl);have I:Ms b:=j dk (λ_ _ F=>Jq.at (g:=Tt) (by kernel_rfl) (b:=b) F ah u) (λ_ _ _ _ _ _=>ll4 λ_ _ _ _=>rfl);have df:Q7 b:=j da (λ_ _ F=>Hk.at (g:=Rg) (by kernel_rfl) (b:=b) F f o ah u J I) (λ_ _ _ _ _ _=>ll3 λ_ _ _=>rfl);have eh:V1 b:=j ec (λ_ _ F=>Kq.at (g:=Wc) (by kernel_rfl) (b:=b) F ah) (λ_ _ _ _ _ _=>ll1 λ_=>rfl);have gj:sY b:=yn6 l.prog w base hn gk (λ_ _ F=>qY.at (g:=lO) (by kernel_rfl) (b:=b) F bb ae DK A) (λ_ _ _ _ _ _=>ll2 λ_ _=>rfl);have ir:FAB b 25 "_law_tie" ["_law_desk","_law_web_here","_law_tie_here","_law_x","_law_y"] Eg:=yk7 l.prog w base X G es (λ_ _ F=>jn9 (b:=b) F DK ah u J I gj) (λ_ _ _ _ _ _=>ll5 λ_ _ _ _ _=>rfl);exact pN.at (g:=wN) (by kernel_rfl) (b:=b) iq cn f o z df y eh fc DK DN ir gj
open PD L2 Gr
variable {o:Ev->R Fl}{ρ:Ev}
def skf{t:Ev->R Bool}{g:Ev->R Fl}{r:R Fl}(h:t ρ=.ok false)(a:o ρ=r):sq (ifS t g nop) o ρ=r:=Ao ((W9 h).trans rfl) a
variable {q:Ev->R Fl}
def skt{t:Ev->R Bool}{g:Ev->R Fl}{d:D}(h:t ρ=.ok true)(a:g ρ=.ok (.rt d)):sq (ifS t g q) o ρ=.ok (.rt d):=zf3 ((jM h).trans a)
def Ay(e:Nat×Nat):D:=.tup [.int (e.1:Int),.int (e.2:Int)]
def Aj(n:Nat)(ts:Af):D:=.tup [.int (n:Int),.tup (ts.map Ay)]
def Ac(s:List Nat):D:=.tup (Ai s)
theorem yq4(l:List Nat)(x y:Nat)(f:l.length<=1000):J7 [.lst (Ai l),.int (x:Int),.int (y:Int)]=.ok (.lst (Ai (Hg l x y))):=by
 refine Am (An (Cj (ds:=Ai l) (xs:=Ai (Hg l x y)) (by simp[Aa]) ?_ (by simp[Bb,Hg];lia)));have e:Ai (Hg l x y)=(Ai l).map λd=>match d with | .int z=>if z=(x:Int)\/z=(y:Int) then .int (min (x:Int) (y:Int)) else .int z |d=>d:=by simp only[Ai,Hg,KQ];apply SJ;lia
 rw[e];apply PD.comp_map;intro d b;obtain⟨z,_,rfl⟩:=Lx.mp b;refine⟨_,rfl,?_⟩;have a:inD (.int (z:Int)) (.tup [.int (x:Int),.int (y:Int)])=some (.bl (decide (z=x\/z=y))):=zk3 (n:=0) (ys:=[.int (x:Int),.int (y:Int)]) rfl (by lia) Z5 (λd b=>by
  rcases JN.mp b with rfl |b
  ·exact Z5
  ·rw[PX.mp b];exact Z5) (by
  simp only[JN,iY,or_false,D.int.injEq,decide_eq_true_eq];lia)
 by_cases h:z=x\/z=y
 ·have c:(z:Int)=x\/(z:Int)=y:=by lia
  simp[Aa,Et,Fx,a,h,c]
 ·have c:¬ ((z:Int)=x\/(z:Int)=y):=by lia
  simp[Aa,Et,Fx,a,h,c]
def pick(ts:Af)(s:List Nat):Af:=s.map λk=>ts.getD k (0,0)
variable {s:List Nat}
theorem wz3{n:Nat}{ts:Af}(h:∀e∈ts,e.1<=e.2/\e.2<n)(hs:∀k∈s,k<ts.length):InW n (pick ts s):=λe a=>by obtain⟨k,b,rfl⟩:=I_.mp a;grind
def ku0:Ev->R Fl:=(PD.sq (PD.asg 4 (PD.b2 (PD.b2 (PD.gv 0) (PD.kd (.int 1)) PD.ixD) (PD.gv 3) PD.ixD))
 (PD.asg 2 (PD.cl (zv (PD.gv 2) (zv (PD.b2 (PD.gv 2) (PD.b2 (PD.gv 4) (PD.kd (.int 0)) PD.ixD) PD.ixD) (zv (PD.b2 (PD.gv 2) (PD.b2 (PD.gv 4) (PD.kd (.int 1)) PD.ixD) PD.ixD) PD.a0))) J7)))
theorem range_list{n:Nat}(h:n<=16777216):list_rangeD [.int (n:Int)]=some (.lst (Ai (List.range n))):=by
 unfold list_rangeD;have e:YZ [.int (n:Int)]=some (0,(n:Int)):=by
  have a:-(2 ^ 62)<=(n:Int)/\(n:Int)<2 ^ 62/\(n:Int)<=16777216:=by lia
  dsimp only[YZ];rw[if_pos a]
 rw[e];simp[Vr,Ai]
theorem wh2{n:Nat}{ts:Af}(J:n<=1000)(h:∀e∈ts,e.1<=e.2/\e.2<n)(hs:∀k∈s,k<ts.length):Nv [Aj n ts,Ac s]=.ok (.lst (Ai (Dd n (pick ts s)))):=by
 obtain⟨p,E,A⟩:=Ei (g:=gN 3) (b:=ku0) (λi ρ=>∃c a,ρ=[some (Aj n ts),some (Ac s),some (.lst (Ai (Dd n (pick ts (s.take i))))),c,a]) (Ai s) 0
  [some (Aj n ts),some (Ac s),some (.lst (Ai (List.range n))),none,none] ⟨none,none,rfl⟩ (λi d ρ l C=>by
   obtain⟨c,a,rfl⟩:=C;have j:i<s.length:=by have:=(NB.mp l).1;rwa [Bb]at this
   rw[Hh,LR j]at l;have F:d=.int (s[i]:Int):=(Option.some.inj l).symm;subst F;have f:s[i]<ts.length:=hs _ (fH j);have I:=h ts[s[i]] (fH f);rw[UG];generalize m:Dd n (pick ts (s.take i))=L;have B:L.length=n:=by rw[<-m];exact Ss _ _
   have z:ixD (.tup (ts.map Ay)) (.int (s[i]:Int))=some (Ay ts[s[i]]):=h_ (by simp[f]);have y:ixD (.lst (Ai L)) (.int ((ts[s[i]]).1:Int))=some (.int ((L.getD (ts[s[i]]).1 0:Nat):Int)):=Nx (by rw[Hh,LR (by lia)];simp[show(ts[s[i]]).1<L.length by lia]);have x:ixD (.lst (Ai L)) (.int ((ts[s[i]]).2:Int))=some (.int ((L.getD (ts[s[i]]).2 0:Nat):Int)):=Nx (by rw[Hh,LR (by lia)];simp[show(ts[s[i]]).2<L.length by lia]);have w:=yq4 L (L.getD (ts[s[i]]).1 0) (L.getD (ts[s[i]]).2 0) (by lia);have r:Dd n (pick ts (s.take (i+1)))=Hg L (L.getD (ts[s[i]]).1 0) (L.getD (ts[s[i]]).2 0):=by
    have H:s.take (i+1)=s.take i++[s[i]]:=by rw[List.take_succ_eq_append_getElem j]
    have G:ts.getD s[i] (0,0)=ts[s[i]]:=by rw[TF,LR f];rfl
    rw[H];unfold pick;rw[N_,List.map_singleton,Wj,G];show Hg _ ((Dd n (pick ts (s.take i))).getD _ 0) ((Dd n (pick ts (s.take i))).getD _ 0)=_;rw[show(s.take i).map (λk=>ts.getD k (0,0))=pick ts (s.take i) from rfl,m]
   generalize L.getD (ts[s[i]]).1 0=u,L.getD (ts[s[i]]).2 0=v at *;refine⟨_,_,rfl,.inl (Ao (Ah (d:=Ay ts[s[i]]) (by simp[Aj,z])) (Ah (d:=.lst (Ai (Hg L u v))) (by simp[Ay,y,x,w]))),some (.int (s[i]:Int)),some (Ay ts[s[i]]),?_⟩;rw[r];rfl)
 obtain⟨c,a,rfl⟩:=A;refine Am (Ao (Ah (d:=.lst (Ai (List.range n))) (by simp[Aa,Aj,range_list (show n<=16777216 by lia)])) (Ao (Gp (ds:=Ai s) (by simp[Aa,Ac]) E) (An ?_)));simp[Bb]
theorem ke5(l:List Nat)(m:Nat)(b:l.length<=1000):jf2 [.lst (Ai l),.int (m:Int)]=.ok (.tup (Ai ((List.range l.length).filter λi=>l.getD i 0=m))):=by
 have e:Ci (fZ (gv 0)) 2 [1] (gT [0,1]) (tb (b2 (gv 1) (gv 2) eqD)) (gv 0) (Aa 2 [.lst (Ai l),.int (m:Int)])=.ok (.lst (Ai ((List.range l.length).filter λi=>l.getD i 0=m))):=by
  refine Cj (zE (ds:=Ai l) (by simp[Aa])) (xs:=Ai ((List.range l.length).filter λi=>l.getD i 0=m)) ?_ (by rw[Bb];have:=fK (λi=>decide (l.getD i 0=m)) (List.range l.length);rw[WQ]at this;lia);rw[V6 (p:=λd=>match d with | .tup [_,.int z]=>decide (z=(m:Int)) |_=>false) (h:=λd=>match d with | .tup [x,_]=>x |d=>d)]
  ·rw[jg1,jHh,KQ];congr 1;unfold Ai;have:((λd=>match d with |D.tup [_,.int z]=>decide (z=(m:Int)) |_=>false)∘λ(i:Nat)=>D.tup [.int (i:Int),.int ((l.getD i 0:Nat):Int)])=λi=>decide (l.getD i 0=m):=by grind
   rw[this];rfl
  ·intro d a;rw[jg1]at a;obtain⟨i,_,rfl⟩:=I_.mp a;exact⟨_,rfl,by simp[Aa,Et],λ_=>by simp[Aa,Et]⟩
 exact Am (An (by simp[e]))
def wl5(n:Nat)(p:Nat->Bool):((List.range n).filter p).Pairwise (·<·):=List.Pairwise.filter _ jFy
def Sv(n:Nat)(es:Af):List D:=(Bw n es).map λm=>.tup (Ai (cls n es m))
def Qw(n:Nat)(es:Af):(Bw n es).length<=n:=by have:=fK (λi=>decide (lab n es i=i)) (List.range n);simpa[Bw] using this
theorem jv9{n:Nat}{ts:Af}(u:n<=60)(h:∀e∈ts,e.1<=e.2/\e.2<n)(hs:∀k∈s,k<ts.length):sG [Aj n ts,Ac s]=.ok (.lst (Sv n (pick ts s))):=by
 have r:=wz3 h hs;have a:=Ss n (pick ts s);have p:Dn [.lst (Ai (Dd n (pick ts s)))]=some (.lst (Ai (Bw n (pick ts s)))):=jp9 (by lia) (wl5 _ _) λk=>by
  constructor
  ·intro b;obtain⟨i,c,e⟩:=mX.mp b;have:lab n (pick ts s) i=k:=by unfold lab;rw[TF,LR c,e];rfl
   grind [Jx]
  ·intro b;obtain⟨x,j⟩:=Ds.mp b;have w:k<(Dd n (pick ts s)).length:=by lia
   have:(Dd n (pick ts s))[k]=k:=by have g:=j;unfold lab at g;simp_all
   grind
 refine Am (Ao (Ah (d:=.lst (Ai (Dd n (pick ts s)))) (by simp[Aa,wh2 (show n<=1000 by lia) h hs])) (An (Cj (ds:=Ai (Bw n (pick ts s))) (xs:=Sv n (pick ts s)) (by simp[Aa,p]) ?_ (by unfold Sv;rw[GQ];have:=Qw n (pick ts s);lia))));have l:Sv n (pick ts s)=(Ai (Bw n (pick ts s))).map λd=>match d with | .int z=>.tup (Ai (cls n (pick ts s) z.toNat)) |d=>d:=by unfold Sv Ai;rw[KQ];rfl
 rw[l];apply PD.comp_map;intro d f;obtain⟨m,v,rfl⟩:=Lx.mp f;refine⟨_,rfl,?_⟩;have:=ke5 (Dd n (pick ts s)) m (by lia);rw[a]at this;simp[Aa,Et,this];rfl
def Ni{n:Nat}{ts:Af}(a:n<=60)(h:∀e∈ts,e.1<=e.2/\e.2<n)(hs:∀k∈s,k<ts.length):M5 [Aj n ts,Ac s]=.ok (.int ((n:Int) - ((Bw n (pick ts s)).length:Int))):=by have e:=jv9 a h hs;refine Am (An ?_);simp only[Aa];simp[Aj]at e ⊢;simp[e,Sv]
theorem Gj{b:Type}{enc:b->D}{out:b->D}{f:Ev->R D}{ρ:Ev}:∀(l:List b),(∀a∈l,f (ρ.set 0 (some (enc a)))=.ok (out a))->Df (gN 0) yes f ρ (l.map enc)=.ok (l.map out)
 | [],_=>rfl
 |a::l,c=>by have e:=c a J_;rw[HH,Df,Yy];simp[yes,e,Gj l λx g=>c x (JB _ g)]
theorem U4{b:Type}{enc:b->D}{out:b->D}{t:Ev->R Bool}{f:Ev->R D}{ρ:Ev}{p:b->Bool}:∀(l:List b),(∀a∈l,t (ρ.set 0 (some (enc a)))=.ok (p a)/\f (ρ.set 0 (some (enc a)))=.ok (out a))->Df (gN 0) t f ρ (l.map enc)=.ok ((l.filter p).map out)
 | [],_=>rfl
 |a::l,c=>by
  obtain⟨m,j⟩:=c a J_;have e:=U4 (t:=t) (f:=f) (ρ:=ρ) (p:=p) (enc:=enc) (out:=out) l λx h=>c x (JB _ h);rw[HH,Df,Yy];simp only[R.ok_bind,m];cases g:p a with
  |true=>simp[j,e,g]
  |false=>simp[e,g]
def zL{b:Type}(l:List b)(p:b->Bool):(l.map λa=>D.bl (p a))=(l.map p).map .bl:=by rw[KQ];rfl
theorem yj3(b:i<s.length):slA (Ac s) none (some (i:Int))=some (Ac (s.take i)):=by have a:=Bb s;show(if HT.sIx (Ai s).length 0 none=0/\HT.sIx (Ai s).length (Ai s).length (some (i:Int))=(Ai s).length then none else some (D.tup (cutD (Ai s) none (some (i:Int)))))=_;rw[HT.K4,HT.Ke,if_neg (by rw[a];lia)];unfold cutD Ac Ai;rw[HT.K4,HT.Ke,mG];simp
theorem qQ(b:i<s.length):slA (Ac s) (some ((i:Int)+1)) none=some (Ac (s.drop (i+1))):=by
 have a:=Bb s;show(if HT.sIx (Ai s).length 0 (some ((i:Int)+1))=0/\HT.sIx (Ai s).length (Ai s).length none=(Ai s).length then none else some (D.tup (cutD (Ai s) (some ((i:Int)+1)) none)))=_;have e:HT.sIx (Ai s).length 0 (some ((i:Int)+1))=i+1:=by rw[show((i:Int)+1)=((i+1:Nat):Int) by lia,HT.K4,a];lia
 rw[e,if_neg (by lia)];unfold cutD;rw[e,HT.Ke];unfold Ac Ai;simp_all [mF,mZ,cO,GX]
def leftOut(s:List Nat):List (List Nat):=(List.range s.length).map λi=>s.take i++s.drop (i+1)
theorem wv6(h:s.length<=60):Jc [Ac s]=.ok (.lst ((leftOut s).map Ac)):=by
 refine Am (An ?_);refine Cj (ds:=Ai (List.range s.length)) ?_ ?_ (by simp[leftOut];lia)
 ·have e:=Y0 (show s.length<2 ^ 62 by lia);have l:Cv [Ac s]=some (.int (s.length:Int)):=by show some (D.int _)=_;rw[Bb]
  simp[Aa,l,e]
 ·have e:(leftOut s).map Ac=(List.range s.length).map λi=>Ac (s.take i++s.drop (i+1)):=by unfold leftOut;rw[KQ];rfl
  rw[e];refine Gj (List.range s.length) λi a=>?_;have a:=MT.mp a;have b:Az (Ac (s.take i)) (Ac (s.drop (i+1)))=some (Ac (s.take i++s.drop (i+1))):=(Yw (by simp[Bb];lia)).trans (by simp[Ac,Ai]);simp[Et,Aa,yj3 a,qQ a,b]
def Ug(ts:Af)(s r:List Nat):pick ts (s++r)=pick ts s++pick ts r:=by unfold pick;rw[N_]
def Z4(ts:Af)(s:List Nat):(pick ts s).length=s.length:=by unfold pick;rw[GQ]
theorem ya9{n:Nat}{ts:Af}(v:n<=60)(h:∀e∈ts,e.1<=e.2/\e.2<n)(hs:∀k∈s,k<ts.length)(A:s.length<=60):∃b,Fw [Aj n ts,Ac s]=.ok (.bl b)/\(b=true↔yv1 n (pick ts s)):=by
 have x:=Ni v h hs;have l:Cv [Ac s]=some (.int (s.length:Int)):=by show some (D.int _)=_;rw[Bb]
 have G:=Qw n (pick ts s);have pl:=Z4 ts s;by_cases j:s.length=0
 ·refine⟨false,Am (skt ?_ (An (by simp))),?_⟩
  ·simp[Aa,l,j]
  ·rw[jFx]at j;subst j;exact⟨(λz=>nomatch z),λz=>absurd rfl z.1⟩
 ·by_cases w:n<(Bw n (pick ts s)).length+s.length
  ·refine⟨(leftOut s).all λr=>decide (((n:Int) - ((Bw n (pick ts r)).length:Int))=(r.length:Int)),Am (skf ?_ (An ?_)),?_⟩
   ·have p:s≠[]:=λz=>j (by rw[z];rfl);simp[Aa,l,x,p];lia
   ·have y:∀r∈leftOut s,∀k∈r,k<ts.length:=λr f k H=>by obtain⟨i,m,rfl⟩:=I_.mp f;grind
    have C:Ci (itS (cl (zv (gv 1) a0) Jc)) 1 [0] (gN 0) yes (b2 (cl (zv (gv 1) (zv (gv 0) a0)) M5) (bA (zv (gv 0) a0) Cv) eqD) [some (Aj n ts),some (Ac s)]=.ok (.lst (((leftOut s).map λr=>decide (((n:Int) - ((Bw n (pick ts r)).length:Int))=(r.length:Int))).map .bl)):=by
     refine Cj (ds:=(leftOut s).map Ac) (by simp[wv6 A]) ?_ (by simp[leftOut];lia);rw[<-zL];refine Gj (leftOut s) λr f=>?_;have c:=Ni v h (y r f);have a:Cv [Ac r]=some (.int (r.length:Int)):=by show some (D.int _)=_;rw[Bb]
     simp[Et,c,a]
    have I:=lU ((leftOut s).map λr=>decide (((n:Int) - ((Bw n (pick ts r)).length:Int))=(r.length:Int)));rw[show Aa 2 [Aj n ts,Ac s]=[some (Aj n ts),some (Ac s)] from rfl,b8,U8,C];simp_all
   ·rw[QL];constructor
    ·intro z;refine⟨λe=>j (by rw[<-pl,e];rfl),by rw[pl];exact w,λa e u B=>?_⟩;have g:a.length<s.length:=by rw[<-pl,B];simp
     have z:=z (s.take a.length++s.drop (a.length+1)) (I_.mpr ⟨a.length,MT.mpr g,rfl⟩);have c:pick ts (s.take a.length++s.drop (a.length+1))=a++u:=by
      rw[Ug];have F:pick ts (s.take a.length)=(pick ts s).take a.length:=by unfold pick;rw[mG]
      have E:pick ts (s.drop (a.length+1))=(pick ts s).drop (a.length+1):=by unfold pick;rw[mF]
      simp_all
     rw[c]at z;have J:(s.take a.length++s.drop (a.length+1)).length=(a++u).length:=by rw[<-c,Z4]
     lia
    ·rintro⟨_,_,z⟩ r f;obtain⟨i,m,rfl⟩:=I_.mp f;have m:=MT.mp m;have c:pick ts s=pick ts (s.take i)++ts.getD s[i] (0,0)::pick ts (s.drop (i+1)):=by
      have:s=s.take i++s[i]::s.drop (i+1):=by rw[<-fO m,uJ]
      rw[show pick ts s=pick ts (s.take i++s[i]::s.drop (i+1)) from congrArg (pick ts) this,Ug];rfl
     have:=z _ _ _ c;rw[<-Ug,Z4]at this;lia
  ·refine⟨false,Am (skt ?_ (An (by simp))),?_⟩
   ·simp[Aa,l,x];lia
   ·refine⟨(λz=>nomatch z),λz=>?_⟩;have:=z.2.1;rw[pl]at this;exact absurd this w
def restOf(m:Nat)(s:List Nat):List Nat:=(List.range m).filter λk=>!decide (k∈s)
def oW(n:Nat)(ts:Af)(s:List Nat):Prop:=s≠[]/\(Bw n (pick ts (List.range ts.length))).length<(Bw n (pick ts (restOf ts.length s))).length/\∀k∈s,(Bw n (pick ts (restOf ts.length s++[k]))).length=(Bw n (pick ts (List.range ts.length))).length
variable {m:Nat}
theorem kx5(h:m<=60):J1 [.int (m:Int)]=some (Ac (List.range m)):=by
 unfold J1;have e:YZ [.int (m:Int)]=some (0,(m:Int)):=by
  have a:-(2 ^ 62)<=(m:Int)/\(m:Int)<2 ^ 62/\(m:Int)<=16777216:=by lia
  dsimp only[YZ];rw[if_pos a]
 rw[e];simp[Vr,Ai,Ac]
def wl6(m:Nat)(s:List Nat):(restOf m s).length<=m:=by have:=fK (λk=>!decide (k∈s)) (List.range m);rw[WQ]at this;exact this
theorem km9{k:Nat}(h:k∈restOf m s):k<m:=by unfold restOf at h;simp_all
def Q4(n:Nat)(ts:Af):ixD (Aj n ts) (.int 1)=some (.tup (ts.map Ay)):=Ka
theorem all_eq(n:Nat)(ts:Af)(b:ts.length<=50):Yq [Aj n ts]=.ok (Ac (List.range ts.length)):=by have tr:=kx5 (m:=ts.length) (by lia);have a:=Q4 n ts;generalize Aj n ts=W at *;exact Am (An (by simp[Aa,a,tr]))
theorem yj2{n:Nat}{ts:Af}(g:n<=60)(f:ts.length<=50)(h:∀e∈ts,e.1<=e.2/\e.2<n)(hs:∀k∈s,k<ts.length)(P:s.length<=60):∃b,Lj [Aj n ts,Ac s]=.ok (.bl b)/\(b=true↔oW n ts s):=by
 have G:=Ni (s:=List.range ts.length) g h λk a=>MT.mp a;have U:=Ni (s:=restOf ts.length s) g h λk a=>km9 a;have l:Cv [Ac s]=some (.int (s.length:Int)):=by show some (D.int _)=_;rw[Bb]
 have I:=all_eq n ts f;have J:=wl6 ts.length s;have O:∀k∈s,M5 [Aj n ts,Ac (restOf ts.length s++[k])]=.ok (.int ((n:Int) - ((Bw n (pick ts (restOf ts.length s++[k]))).length:Int))):=λk a=>Ni g h λj c=>by
  rcases S_.mp c with c |c
  ·exact km9 c
  ·simp_all
 have M:=Qw n (pick ts (List.range ts.length));have L:=Qw n (pick ts (restOf ts.length s));have K:∀k,(Bw n (pick ts (restOf ts.length s++[k]))).length<=n:=λk=>Qw n _;generalize Q:Aj n ts=W at *;generalize w:(Bw n (pick ts (List.range ts.length))).length=A at *;generalize v:(Bw n (pick ts (restOf ts.length s))).length=B at *;have H:∀u,Ci (itS (gv 2)) 1 [1] (gN 0) (tb (b2 (gv 0) (gv 1) dH)) (gv 0) [some W,some (Ac s),some (Ac (List.range ts.length)),u,none]=.ok (.lst (Ai (restOf ts.length s))):=λu=>by refine Cj (ds:=Ai (List.range ts.length)) (by simp[Ac]) ?_ (by rw[Bb];lia);refine U4 (List.range ts.length) λk a=>?_;have y:dH (.int (k:Int)) (Ac s)=some (.bl (!decide (k∈s))):=wj0 rfl (by simp);exact⟨by simp[Et,y],by simp[Et]⟩
 have pre:∀{r:R Fl},(PD.sq (PD.ifS (PD.tor (PD.tb (PD.b2 (PD.bA (zv (PD.gv 1) PD.a0) PD.Cv) (PD.kd (.int 0)) PD.eqD)) (PD.tb (PD.b2 (PD.cl (zv (PD.gv 0) (zv (PD.gv 4) PD.a0)) M5) (PD.gv 3) PD.geD))) (PD.Uj (PD.kd (.bl false))) PD.nop)
  (PD.Uj (PD.bA (zv (PD.Ci (PD.itS (PD.gv 1)) 1 [0,4,3] (PD.gN 0) PD.yes (PD.b2 (PD.cl (zv (PD.gv 1) (zv (PD.b2 (PD.gv 2) (PD.bA (zv (PD.gv 0) PD.a0) PD.Gz) PD.Az) PD.a0)) M5) (PD.gv 3) PD.eqD)) PD.a0) PD.dZ))) [some W,some (Ac s),some (Ac (List.range ts.length)),some (.int ((n:Int) - (A:Int))),some (Ac (restOf ts.length s))]=r->Y9 (Aa 5 [W,Ac s])=r:=λC=>by
  refine Ao (ρ1:=[some W,some (Ac s),some (Ac (List.range ts.length)),none,none]) (Ah (d:=Ac (List.range ts.length)) (by simp[Aa,I])) ?_;refine Ao (ρ1:=[some W,some (Ac s),some (Ac (List.range ts.length)),some (.int ((n:Int) - (A:Int))),none]) (Ah (d:=.int ((n:Int) - (A:Int))) (by simp[G])) ?_;refine Ao (ρ1:=[some W,some (Ac s),some (Ac (List.range ts.length)),some (.int ((n:Int) - (A:Int))),some (Ac (restOf ts.length s))]) (Ah (d:=Ac (restOf ts.length s)) (by rw[b8,U8,H];simp[Ac])) C
 by_cases p:s=[]
 ·refine⟨false,Am (pre (skt ?_ (An (by simp)))),⟨(λz=>nomatch z),λz=>absurd p z.1⟩⟩;have x:Cv [Ac s]=some (.int 0):=by rw[p];rfl
  simp[x]
 ·by_cases E:A<B
  ·refine⟨s.all λk=>decide (((n:Int) - ((Bw n (pick ts (restOf ts.length s++[k]))).length:Int))=(n:Int) - (A:Int)),Am (pre (skf ?_ (An ?_))),?_⟩
   ·simp_all
   ·have T:Ci (itS (gv 1)) 1 [0,4,3] (gN 0) yes (b2 (cl (zv (gv 1) (zv (b2 (gv 2) (bA (zv (gv 0) a0) Gz) Az) a0)) M5) (gv 3) eqD) [some W,some (Ac s),some (Ac (List.range ts.length)),some (.int ((n:Int) - (A:Int))),some (Ac (restOf ts.length s))]=.ok (.lst ((s.map λk=>decide (((n:Int) - ((Bw n (pick ts (restOf ts.length s++[k]))).length:Int))=(n:Int) - (A:Int))).map .bl)):=by refine Cj (ds:=Ai s) (by simp[Ac]) ?_ (by rw[GQ,GQ];lia);rw[<-zL];refine Gj s λk a=>?_;have F:Az (Ac (restOf ts.length s)) (.tup [.int (k:Int)])=some (Ac (restOf ts.length s++[k])):=(Yw (by rw[Bb];simp;lia)).trans (by simp[Ac,Ai]);simp only[Et];simp_all [Fx]
    have F:=lU (s.map λk=>decide (((n:Int) - ((Bw n (pick ts (restOf ts.length s++[k]))).length:Int))=(n:Int) - (A:Int)));simp_all
   ·unfold oW;rw[QL,w,v];constructor
    ·intro z;refine⟨p,E,λk a=>?_⟩;have:=of_decide_eq_true (z k a);lia
    ·simp_all
  ·refine⟨false,Am (pre (skt ?_ (An (by simp)))),⟨(λz=>nomatch z),λz=>?_⟩⟩
   ·simp_all
   ·have:=z.2.1;rw[w,v]at this;lia
def trD(r:Tr):D:=.tup [.int r.1,.int r.2.1,.int r.2.2]
def k2D(k:Int×Int):D:=.tup [.int k.1,.int k.2]
def kD(l:List Kv):D:=W8 (l.map λp=>k2D p.1) (l.map λp=>.int p.2)
def wF(i j:Int):Dz [.int i,.int j]=some [.inl i,.inl j]:=rfl
theorem pH(k:Int×Int):dU (k2D k)=some [.inl k.1,.inl k.2]:=rfl
theorem key_ne{k:Int×Int}{i j:Int}(h:¬ k=(i,j)):¬ dU (k2D k)=some [.inl i,.inl j]:=λz=>by grind [pH,Option.some.inj,Prod.ext]
theorem Yv(i j:Int):∀l:List Kv,(Rc (l.map λp=>k2D p.1) (l.map λp=>D.int p.2) [.inl i,.inl j]).getD (.int 0)=.int (look l (i,j))
 | []=>rfl
 |p::r=>by
  rw[HH,HH,Rc,look];by_cases h:p.1=(i,j)
  ·rw[if_pos (by rw[pH,h]),if_pos h];rfl
  ·simp_all [key_ne,Yv]
theorem jf7(i j v:Int):∀l:List Kv,dput (l.map λp=>k2D p.1) (l.map λp=>D.int p.2) [.inl i,.inl j] (.int v)=((put l (i,j) v).map (λp=>k2D p.1),(put l (i,j) v).map λp=>D.int p.2)
 | []=>rfl
 |p::r=>by
  rw[HH,HH,dput,put];by_cases h:p.1=(i,j)
  ·rw[if_pos (by rw[pH,h]),if_pos h];rfl
  ·simp_all [key_ne,jf7]
def gaB:Ev->R Fl:=PD.kY 1 (zv (PD.gv 2) (zv (PD.gv 3) PD.a0)) (PD.b2 (PD.kZ 1 (zv (PD.gv 2) (zv (PD.gv 3) PD.a0)) (PD.kd (.int 0))) (PD.gv 4) PD.Az)
variable {o0:Option D}
theorem wu1{l:List Kv}{r:Tr}(a:l.length<1000):gaB [o0,some (kD l),some (.int r.1),some (.int r.2.1),some (.int r.2.2)]=.ok (.nx [o0,some (kD (step l r)),some (.int r.1),some (.int r.2.1),some (.int r.2.2)]):=by
 have h:gv 1 [o0,some (kD l),some (.int r.1),some (.int r.2.1),some (.int r.2.2)]=.ok (kD l):=by simp
 have e:=wt4 (i:=1) (ρ:=[o0,some (kD l),some (.int r.1),some (.int r.2.1),some (.int r.2.2)]) (fks:=zv (PD.gv 2) (zv (PD.gv 3) PD.a0)) (f0:=PD.kd (.int 0)) h (l:=[.int r.1,.int r.2.1]) (by simp) (by simp) (z:=.int 0) (by simp) (wF _ _);rw[Yv]at e;refine(wt5 (v:=.int (look l (r.1,r.2.1)+r.2.2)) ?_ h (l:=[.int r.1,.int r.2.1]) (by simp) (by simp) (by rw[GQ];lia) (wF _ _)).trans ?_
 ·simp_all
 ·rw[jf7];rfl
theorem km4{k:Int×Int}{v:Int}:∀l:List Kv,(put l k v).length<=l.length+1
 | []=>by simp[put]
 |p::r=>by
  unfold put;split
  ·simp
  ·simp_all [km4]
theorem ki1:∀(a:List Tr)(l:List Kv),(acc l a).length<=l.length+a.length
 | [],l=>by simp[acc]
 |r::a,l=>by have c:=ki1 a (step l r);have b:(step l r).length<=l.length+1:=km4 l;show(acc (step l r) a).length<=_;grind
def zi0{c p:Type}{f:c->p}:∀{l m:List p},l.Perm m->∀X:List c,m=X.map f->∃T:List c,T.Perm X/\l=T.map f:=by
 intro l m h;induction h with
 |nil=>intro X e;cases X with
  |nil=>exact⟨[],.refl _,rfl⟩
  |cons a X=>cases e
 | @cons a l m _ r=>intro X e;cases X with
  |nil=>cases e
  |cons x X=>cases e;obtain⟨T,n,rfl⟩:=r X rfl;exact⟨x::T,n.cons x,rfl⟩
 |swap a b l=>intro X e;match X,e with
  |x::y::X,e=>cases e;exact⟨y::x::X,.swap x y X,rfl⟩
  | [],e=>cases e
  | [_],e=>cases e
 |trans _ _ j g=>intro X e;obtain⟨T,n,rfl⟩:=g X e;obtain⟨U,u,rfl⟩:=j T rfl;exact⟨U,u.trans n,rfl⟩
def gR(T:List Tr):Prop:=(T.map trD).Pairwise λa b=>Hc a b=true
def PN(T X:List Tr):Prop:=T.Perm X/\gR T
variable {T:List Tr}
def jy0(h:(T.map trD).length<2):gR T:=by
 unfold gR
 match T,h with
 | [],_=>exact .nil
 | [a],_=>exact List.pairwise_singleton ..
 |a::b::T,h=>exact absurd h (by simp)
variable {X:List Tr}
theorem wm8(g:X.length<64):∃T:List Tr,PN T X/\Jz [.lst (X.map trD)]=some (.lst (T.map trD)):=by
 have j:Ea (X.map trD)=true:=by unfold Ea;rw[cM];refine .inr (QL.mpr λd c=>?_);obtain⟨r,h,rfl⟩:=I_.mp c;rfl
 have b:Jz [.lst (X.map trD)]=some (.lst (if(X.map trD).length<2 then X.map trD else srt (X.map trD))):=by unfold Jz;simp_all
 by_cases a:(X.map trD).length<2
 ·exact⟨X,⟨.refl _,jy0 a⟩,by rw[b,if_pos a]⟩
 ·obtain⟨T,f,e⟩:=zi0 (Ek (X.map trD)) X rfl;exact⟨T,⟨f,by unfold gR;rw[<-e];exact El _⟩,by rw[b,if_neg a,e]⟩
theorem Wh(a:List Tr)(F:a.length<1000)(A:(acc [] a).length<64):∃T:List Tr,PN T (kept a)/\Yr [.lst (a.map trD)]=.ok (.lst (T.map trD)):=by
 obtain⟨y,x,u⟩:=Ei (g:=gT [2,3,4]) (b:=gaB) (I:=λk ρ=>∃n j f,ρ=[some (.lst (a.map trD)),some (kD (acc [] (a.take k))),n,j,f])
  (a.map trD) 0 [some (.lst (a.map trD)),some (kD []),none,none,none] ⟨none,none,none,rfl⟩ (λi d ρ e u=>by
   rw[RB]at e;cases w:a[i]? with
   |none=>rw[w]at e;cases e
   |some r =>
    rw[w]at e;cases e;rw[UG]at u ⊢;obtain⟨n,j,f,rfl⟩:=u;have c:(acc [] (a.take i)).length<1000:=by grind [ki1,cP]
    have C:acc [] (a.take (i+1))=step (acc [] (a.take i)) r:=by unfold acc;rw[iZ,w,jGx];rfl
    exact⟨_,_,rfl,.inl (wu1 c),by rw[C];exact⟨_,_,_,rfl⟩⟩)
 obtain⟨n,j,f,rfl⟩:=u;rw[GQ,UG,mU]at x;have v:(kept a).length<64:=by unfold kept;rw[GQ];exact RT (fK _ _) A
 obtain⟨T,B,G⟩:=wm8 v;refine⟨T,B,Am (Ao (Ah (d:=kD []) (by simp[kD])) (Ao (Gp (ds:=a.map trD) (by simp[Aa]) x) (An ?_)))⟩;have E:∀(l:List Kv),Df (gT [0,1]) (tb (b2 (gv 1) (kd (.int 0)) neD)) (bA (zv (b2 (gv 0) (kd (.int 0)) ixD) (zv (b2 (gv 0) (kd (.int 1)) ixD) (zv (gv 1) a0))) Gz) [none,none] (((l.map λp=>k2D p.1).zip (l.map λp=>D.int p.2)).map λq=>.tup [q.1,q.2])=.ok (((l.filter λp=>decide (p.2≠0)).map rowOf).map trD):=by
  intro l;induction l with
  |nil=>rfl
  |cons p l z =>
   rw[HH,HH,XS,HH,Df,z];by_cases h:p.2=0
   ·simp[h]
   ·simp[h,k2D,trD,rowOf,Fx]
 have H:Ci (itI 1) 2 [] (gT [0,1]) (tb (b2 (gv 1) (kd (.int 0)) neD)) (bA (zv (b2 (gv 0) (kd (.int 0)) ixD) (zv (b2 (gv 0) (kd (.int 1)) ixD) (zv (gv 1) a0))) Gz) [some (.lst (a.map trD)),some (kD (acc [] a)),n,j,f]=.ok (.lst ((kept a).map trD)):=by refine Cj (yy2 (ks:=(acc [] a).map λ(p:Kv)=>k2D p.1) (fs:=(acc [] a).map λ(p:Kv)=>D.int p.2) (by simp[kD])) (E (acc [] a)) ?_;rw[GQ];lia
 simp_all
theorem kz4{S:List Tr}(g:S.length<400)(f:T.length<400)(a:(acc [] (S++T)).length<64):∃U:List Tr,PN U (kept (S++T))/\Ti [.lst (S.map trD),.lst (T.map trD)]=.ok (.lst (U.map trD)):=by obtain⟨U,b,e⟩:=Wh (S++T) (by rw[YK];lia) a;refine⟨U,b,Am (An ?_)⟩;have c:Az (.lst (S.map trD)) (.lst (T.map trD))=some (.lst ((S++T).map trD)):=(U9 (by rw[GQ,GQ];lia)).trans (by rw[N_]);generalize (S++T).map trD=X at *;simp[Aa,c,e]
variable {f:Ev->R D}{xs:List D}
theorem yk6{ds:List D}(h:ρ[i]? = some (some (.lst ds)))(b:f ρ=.ok (.lst xs))(a:ds.length+xs.length<=16777216):gB i f ρ=.ok (.nx (ρ.set i (some (.lst (ds++xs))))):=by unfold gB;simp_all
def kg9{S:List Tr}{r:Tr}(h:S[i]? = some r):times (S.take (i+1)) T=times (S.take i) T++T.map λs=>(r.1+s.1,r.2.1+s.2.1,r.2.2 * s.2.2):=by unfold times;rw[iZ,h,List.flatMap_append];simp
def jj7(S T:List Tr):(times S T).length=S.length * T.length:=by
 unfold times;induction S with
 |nil=>simp
 |cons a l b=>rw[jGy,YK,b,GQ,PQ,Nat.succ_mul,Nat.add_comm]
def Sml(T:List Tr):Prop:=∀r∈T,-18446744073709551616<r.2.2/\r.2.2<18446744073709551616
def muB:Ev->R Fl:=PD.gB 2 (PD.Ci (PD.itS (PD.gv 1)) 3 [3,4,5] (PD.gT [0,1,2]) PD.yes (PD.bA (zv (PD.b2 (PD.gv 3) (PD.gv 0) PD.Az) (zv (PD.b2 (PD.gv 4) (PD.gv 1) PD.Az) (zv (PD.b2 (PD.gv 5) (PD.gv 2) PD.Hw) PD.a0))) PD.Gz))
theorem Rm{S:List Tr}(C:Sml S)(B:S.length * T.length<1000)(H:T.length<1000)(y:(acc [] (times S T)).length<64):∃U:List Tr,PN U (kept (times S T))/\Cm [.lst (S.map trD),.lst (T.map trD)]=.ok (.lst (U.map trD)):=by
 obtain⟨U,z,e⟩:=Wh (times S T) (by rw[jj7];exact B) y;obtain⟨w,v,c⟩:=Ei (g:=gT [3,4,5]) (b:=muB) (I:=λk ρ=>k<=S.length->∃p n j,ρ=[some (.lst (S.map trD)),some (.lst (T.map trD)),some (.lst ((times (S.take k) T).map trD)),p,n,j])
  (S.map trD) 0 [some (.lst (S.map trD)),some (.lst (T.map trD)),some (.lst []),none,none,none] (λ_=>⟨none,none,none,by simp[times]⟩) (λi d ρ a c=>by
   rw[RB]at a;cases h:S[i]? with
   |none=>rw[h]at a;cases a
   |some r =>
    rw[h]at a;cases a;rw[UG]at c ⊢;have G:i<S.length:=(NB.mp h).1;obtain⟨p,n,j,rfl⟩:=c (by lia);have F:=C r (WR h);have E:∀(l:List Tr),Df (gT [0,1,2]) yes (bA (zv (b2 (gv 3) (gv 0) Az) (zv (b2 (gv 4) (gv 1) Az) (zv (b2 (gv 5) (gv 2) Hw) a0))) Gz) [none,none,none,some (.int r.1),some (.int r.2.1),some (.int r.2.2)] (l.map trD)=.ok ((l.map λs=>((r.1+s.1,r.2.1+s.2.1,r.2.2 * s.2.2):Tr)).map trD):=by
     intro l;induction l with
     |nil=>rfl
     |cons s l x=>have A:Hw (.int r.2.2) (.int s.2.2)=some (.int (r.2.2 * s.2.2)):=qM (by lia) (by lia);rw[HH,Df];simp[trD,yes,A,Fx,x]
    have u:(times (S.take i) T).length<=1000:=by rw[jj7,cP];have:min i S.length * T.length<=S.length * T.length:=uG _ (mV _ _);lia
    refine⟨[some (.lst (S.map trD)),some (.lst (T.map trD)),some (.lst ((times (S.take i) T).map trD)),some (.int r.1),some (.int r.2.1),some (.int r.2.2)],_,rfl,.inl (yk6 (ds:=(times (S.take i) T).map trD) (xs:=(T.map λs=>((r.1+s.1,r.2.1+s.2.1,r.2.2 * s.2.2):Tr)).map trD) rfl ?_ ?_),λ_=>?_⟩
    ·exact Cj (ds:=T.map trD) (by simp) (E T) (by rw[GQ,GQ];lia)
    ·grind
    ·rw[kg9 h,N_];exact⟨_,_,_,rfl⟩)
 rw[GQ,UG]at c;obtain⟨p,n,j,rfl⟩:=c (GX _);rw[mU]at v;generalize (times S T).map trD=X at *;exact⟨U,z,Am (Ao (Ah (d:=.lst []) (by simp[Lk])) (Ao (Gp (ds:=S.map trD) (by simp[Aa]) v) (An (by simp[e]))))⟩
structure jU(r:Tr):Prop where
 i0:0<=r.1
 i9:r.1<=9
 j0:0<=r.2.1
 j9:r.2.1<=9
 t0:-1000000000000<=r.2.2
 t9:r.2.2<=1000000000000
variable {x:Int}
def bW{n:Nat}(a:x.natAbs<=1099511627776)(b:n<=9):(x ^ n).natAbs<=1099511627776 ^ 9:=by rw[Int.natAbs_pow];exact QG (jGn a n) (jB (by decide) b)
def jT:(1099511627776:Nat) ^ 9<2 ^ 2048:=by decide +kernel
def yv5:(1099511627776:Nat) * 1099511627776 ^ 9<2 ^ 2048:=by decide +kernel
variable {b a:Nat}
def yM(c:x.natAbs<=1099511627776)(g:a<=9)(e:b<=9):Hw (.int (x ^ a)) (.int (x ^ b))=some (.int (x ^ (a+b))):=by rw[Yz (RT (bW c g) jT) (RT (bW c e) jT),Int.pow_add]
def tkT:Ev->R Bool:=tb (b2 (gv 1) (kd (.int 0)) gtD)
def tkB:Ev->R Fl:=(sq (ifS (tb (b2 (b2 (gv 1) (kd (.int 2)) Nf) (kd (.int 1)) eqD)) (asg 2 (b2 (gv 2) (gv 0) Hw)) nop)
 (sq (asg 1 (b2 (gv 1) (kd (.int 2)) Ln))
 (ifS (tb (b2 (gv 1) (kd (.int 0)) gtD)) (asg 0 (b2 (gv 0) (gv 0) Hw)) nop)))
theorem rA{x:Int}(j:x.natAbs<=1099511627776):∀(m o a b:Nat),o<=m->a * o+b<=9->a<=9->∃z w,Nm tkT tkB (m+1) [some (.int (x ^ a)),some (.int (o:Int)),some (.int (x ^ b))]=.ok (.nx [some z,some w,some (.int (x ^ (a * o+b)))])
 |m,0,a,b,_,_,_=>by
  refine⟨.int (x ^ a),.int 0,?_⟩;rw[Nm];have:tkT [some (.int (x ^ a)),some (.int ((0:Nat):Int)),some (.int (x ^ b))]=.ok false:=by simp[tkT]
  rw[this];simp
 |0,o+1,a,b,h,_,_=>by lia
 |m+1,o+1,a,b,h,L,l=>by
  have F:b<=9:=by lia
  have t:tkT [some (.int (x ^ a)),some (.int ((o+1:Nat):Int)),some (.int (x ^ b))]=.ok true:=by
   have n:(0:Int)<((o+1:Nat):Int):=by lia
   generalize ((o+1:Nat):Int)=M at n;simp[tkT,n]
  have y:Ln (.int ((o+1:Nat):Int)) (.int 2)=some (.int (((o+1) / 2:Nat):Int)):=by rfl
  have p:Nf (.int ((o+1:Nat):Int)) (.int 2)=some (.int (((o+1) % 2:Nat):Int)):=by rfl
  obtain⟨q,I⟩:∃q,q=(o+1) / 2:=⟨_,rfl⟩;obtain⟨r,err⟩:∃r,r=(o+1) % 2:=⟨_,rfl⟩;have u:o+1=2 * q+r:=by lia
  have K:r<2:=by lia
  rw[<-I]at y;rw[<-err]at p;obtain⟨N,J⟩:∃N:Int,N=((o+1:Nat):Int):=⟨_,rfl⟩;rw[<-J]at t y p ⊢;have hmul:a * (o+1)=2 * (a * q)+a * r:=by rw[u,Nat.mul_add,<-tQ,Nat.mul_comm a 2,tQ]
  obtain⟨c,e,C⟩:∃c,(a * (o+1)+b=2 * (a * q)+c)/\ifS (tb (b2 (b2 (gv 1) (kd (.int 2)) Nf) (kd (.int 1)) eqD)) (asg 2 (b2 (gv 2) (gv 0) Hw)) nop [some (.int (x ^ a)),some (.int N),some (.int (x ^ b))]=.ok (.nx [some (.int (x ^ a)),some (.int N),some (.int (x ^ c))]):=by
   by_cases H:r=1
   ·subst H;refine⟨b+a,by lia,(jM (by simp[p])).trans (Ah (d:=.int (x ^ (b+a))) (by simp[yM j F l]))⟩
   ·have n:r=0:=by lia
    subst n;exact⟨b,by lia,(W9 (by simp[p])).trans rfl⟩
  have g:asg 1 (b2 (gv 1) (kd (.int 2)) Ln) [some (.int (x ^ a)),some (.int N),some (.int (x ^ c))]=.ok (.nx [some (.int (x ^ a)),some (.int (q:Int)),some (.int (x ^ c))]):=Ah (d:=.int (q:Int)) (by simp[y]);by_cases E:q=0
  ·subst E;have A:tkB [some (.int (x ^ a)),some (.int N),some (.int (x ^ b))]=.ok (.nx [some (.int (x ^ a)),some (.int ((0:Nat):Int)),some (.int (x ^ c))]):=Ao C (Ao g ((W9 (by simp)).trans rfl));obtain⟨z,w,v⟩:=rA j m 0 a c (by lia) (by lia) l;refine⟨z,w,?_⟩;rw[Nm,t];simp only[R.ok_bind,if_true,A];rw[v,e];simp
  ·have G:2 * a<=9:=by have:a * 1<=a * q:=Nat.mul_le_mul_left a (by lia);lia
   have A:tkB [some (.int (x ^ a)),some (.int N),some (.int (x ^ b))]=.ok (.nx [some (.int (x ^ (a+a))),some (.int (q:Int)),some (.int (x ^ c))]):=by refine Ao C (Ao g ((jM ?_).trans (Ah (d:=.int (x ^ (a+a))) (by simp[yM j l l]))));simp;lia
   have B:(a+a) * q=2 * (a * q):=by rw[Nat.add_mul];lia
   obtain⟨z,w,v⟩:=rA j m q (a+a) c (by lia) (by lia) (by lia);refine⟨z,w,?_⟩;rw[Nm,t];simp only[R.ok_bind,if_true,A];rw[v,e,B]
theorem tE{n:Nat}(c:x.natAbs<=1099511627776)(g:n<=9):Qn [.int x,.int (n:Int)]=.ok (.int (x ^ n)):=by refine Am ?_;obtain⟨z,w,e⟩:=rA c 99999 n 1 0 (by lia) (by lia) (by lia);rw[Int.pow_one,Nat.one_mul,Nat.add_zero,Int.pow_zero]at e;exact Ao (Ah (d:=.int 1) (by simp)) (Ao e (An (by simp)))
variable {y:Int}
theorem wp4{r:Tr}(g:x.natAbs<=1099511627776)(e:y.natAbs<=1099511627776)(h:jU r):
  Hw (.int r.2.2) (.int (x ^ r.1.toNat))=some (.int (r.2.2 * x ^ r.1.toNat))/\Hw (.int (r.2.2 * x ^ r.1.toNat)) (.int (y ^ r.2.1.toNat))=some (.int (val x y r)):=by
 have w:=h.i9;have v:=h.j9;have u:=h.t0;have p:=h.t9;have l:=h.i0;have j:=h.j0;have b1:=bW (n:=r.1.toNat) g (by lia);have c:=bW (n:=r.2.1.toNat) e (by lia);refine⟨qM (by lia) (by lia),Yz ?_ (RT c jT)⟩;rw[fD];exact RT (fC (show r.2.2.natAbs<=1099511627776 by lia) b1) yv5
theorem wp7{c:List Tr}(v:x.natAbs<=1099511627776)(u:y.natAbs<=1099511627776)(g:∀r∈c,jU r)(C:c.length<=1000):Xl [.lst (c.map trD),.int x,.int y]=.ok (.int ((c.map (val x y)).sum)):=by
 refine Am (An ?_);have G:Ci (itS (gv 0)) 3 [1,2] (gT [0,1,2]) yes (b2 (b2 (gv 2) (cl (zv (gv 3) (zv (gv 0) a0)) Qn) Hw) (cl (zv (gv 4) (zv (gv 1) a0)) Qn) Hw) (Aa 3 [.lst (c.map trD),.int x,.int y])=.ok (.lst ((c.map (val x y)).map .int)):=by
  refine Cj (ds:=c.map trD) (by simp[Aa]) ?_ (by simpa using QG C (by decide));have H:∀(l:List Tr)(ρ:Ev),(∀r∈l,jU r)->ρ=[none,none,none,some (.int x),some (.int y)]->Df (gT [0,1,2]) yes (b2 (b2 (gv 2) (cl (zv (gv 3) (zv (gv 0) a0)) Qn) Hw) (cl (zv (gv 4) (zv (gv 1) a0)) Qn) Hw) ρ (l.map trD)=.ok ((l.map (val x y)).map .int):=by
   intro l ρ g e;induction l with
   |nil=>rfl
   |cons r l p=>have h:=g r (by simp);obtain⟨B,A⟩:=wp4 v u h;have J:=h.i9;have I:=h.j9;have F:=h.i0;have E:=h.j0;have z:=tE (x:=x) (n:=r.1.toNat) v (by lia);have w:=tE (x:=y) (n:=r.2.1.toNat) u (by lia);rw[bF F]at z;rw[bF E]at w;rw[HH,Df,e];rw[e]at p;simp[trD,yes,z,w,B,A,p λr j=>g r (JB _ j)]
  exact H c _ g (by simp[Aa,Et])
 rw[b8,U8,G];have K:n8 [.lst ((c.map (val x y)).map .int)]=some (.int ((c.map (val x y)).sum)):=by show(Bj _).map _=_;rw[Vc];rfl
 simp_all
theorem xP(c:i<xs.length):slA (.tup xs) none (some (i:Int))=some (.tup (xs.take i)):=by show(if HT.sIx xs.length 0 none=0/\HT.sIx xs.length xs.length (some (i:Int))=xs.length then none else some (D.tup (cutD xs none (some (i:Int)))))=_;rw[HT.K4,HT.Ke,if_neg (by lia)];unfold cutD;rw[HT.K4,HT.Ke,ZM (by lia)];simp
theorem xQ(c:i<xs.length):slA (.tup xs) (some ((i:Int)+1)) none=some (.tup (xs.drop (i+1))):=by
 show(if HT.sIx xs.length 0 (some ((i:Int)+1))=0/\HT.sIx xs.length xs.length none=xs.length then none else some (D.tup (cutD xs (some ((i:Int)+1)) none)))=_;have e:HT.sIx xs.length 0 (some ((i:Int)+1))=i+1:=by rw[show((i:Int)+1)=((i+1:Nat):Int) by lia,HT.K4];lia
 rw[e,if_neg (by lia)];unfold cutD;simp_all [HT.Ke,mZ,cO,GX]
theorem refuse_eq{n:Nat}{ts:Af}{t:Nat}(h:t<ts.length):Tp [Aj n ts,.int (t:Int)]=.ok .non:=by
 have g:=Q4 n ts;have j:(ts.map Ay).length=ts.length:=GQ ..;generalize Aj n ts=W at *;have c:ch (kd (.int 0)) (gv 1) (bA (zv (b2 (gv 0) (kd (.int 1)) ixD) a0) Cv) leD ltD (Aa 2 [W,.int (t:Int)])=.ok (.bl true):=by unfold ch;simp[Aa,g,h]
 have e:Jw (Aa 2 [W,.int (t:Int)])=.ok (.nx (Aa 2 [W,.int (t:Int)])):=(W9 (by rw[vC,jP,c];simp)).trans rfl;show Bh 2 Jw _=_;simp_all
def del(ts:Af)(t:Nat):Af:=ts.take t++ts.drop (t+1)
theorem S6{n:Nat}{ts:Af}{t:Nat}(e:t<ts.length)(r:ts.length<=1000):Du [Aj n ts,.int (t:Int)]=.ok (Aj n (del ts t)):=by
 have j:ixD (Aj n ts) (.int 0)=some (.int (n:Int)):=Gn;have g:=Q4 n ts;have h:=refuse_eq (n:=n) e;have c:t<(ts.map Ay).length:=by rw[GQ];exact e
 have p:=xP c;have l:=xQ c;have v:Az (.tup ((ts.map Ay).take t)) (.tup ((ts.map Ay).drop (t+1)))=some (.tup ((del ts t).map Ay)):=(Yw (by rw[cP,cO,GQ];lia)).trans (by rw[del,N_,mG,mF]);have u:Gz [.int (n:Int),.tup ((del ts t).map Ay)]=some (Aj n (del ts t)):=Fx (by simp);generalize Aj n ts=W,Aj n (del ts t)=w at *;refine Am (Ao (ρ1:=[some W,some (.int (t:Int)),none]) (by simp[Aa,h]) (Ao (ρ1:=[some W,some (.int (t:Int)),some (.tup (ts.map Ay))]) (Ah (d:=.tup (ts.map Ay)) (by simp[g])) (An ?_)));simp_all
theorem jr6(p a b:Nat):Fo [.int (p:Int),.int (a:Int),.int (b:Int)]=.ok (.int (cp a b p:Nat)):=by
 unfold cp;by_cases h:p=b
 ·subst h;rw[if_pos rfl];exact Am (skt (by simp[Aa]) (An (by simp[Aa])))
 ·rw[if_neg h];by_cases c:b<p
  ·rw[if_pos c];refine Am (skf (by simp[Aa];lia) (skt (by simp[Aa];lia) (An ?_)));simp[Aa];lia
  ·rw[if_neg c];exact Am (skf (by simp[Aa];lia) (skf (by simp[Aa];lia) (An (by simp[Aa]))))
theorem kw3(x y:Nat):M7 [.int (x:Int),.int (y:Int)]=.ok (Ay (min x y,max x y)):=by
 refine Am (An ?_);have e:min (x:Int) (y:Int)=((min x y:Nat):Int):=by lia
 have c:max (x:Int) (y:Int)=((max x y:Nat):Int):=by lia
 simp[Aa,Fx,Ay,e,c]
theorem kp8{n:Nat}{ts:Af}(v:1<=n)(h:ts.length<=1000):js8 [Aj n ts,.int (a:Int),.int (b:Int)]=.ok (Aj (n - 1) (ts.map (ct a b))):=by
 have g:ixD (Aj n ts) (.int 0)=some (.int (n:Int)):=Gn;have c:=Q4 n ts;have j:Gz [.int ((n:Int) - 1),.tup ((ts.map (ct a b)).map Ay)]=some (Aj (n - 1) (ts.map (ct a b))):=(Fx (by simp)).trans (by rw[Aj,show((n - 1:Nat):Int)=(n:Int) - 1 by lia]);have z:((ts.map (ct a b)).map Ay).length<=1000:=by rw[GQ,GQ];exact h
 generalize Aj n ts=W,Aj (n - 1) (ts.map (ct a b))=E at *;have l:Ci (itS (b2 (gv 0) (kd (.int 1)) ixD)) 1 [1,2] (gN 0) yes (cl (zv (cl (zv (b2 (gv 0) (kd (.int 0)) ixD) (zv (gv 1) (zv (gv 2) a0))) Fo) (zv (cl (zv (b2 (gv 0) (kd (.int 1)) ixD) (zv (gv 1) (zv (gv 2) a0))) Fo) a0)) M7) [some W,some (.int (a:Int)),some (.int (b:Int)),none]=.ok (.lst ((ts.map (ct a b)).map Ay)):=by refine Cj (ds:=ts.map Ay) (by simp[c]) ?_ (by lia);rw[KQ];refine Gj ts λe w=>?_;have u:ixD (Ay e) (.int 0)=some (.int (e.1:Int)):=Gn;have r:ixD (Ay e) (.int 1)=some (.int (e.2:Int)):=Ka;have C:=jr6 e.1 a b;have B:=jr6 e.2 a b;have A:=kw3 (cp a b e.1) (cp a b e.2);have p:(Ay∘ct a b) e=Ay (min (cp a b e.1) (cp a b e.2),max (cp a b e.1) (cp a b e.2)):=rfl;rw[p];generalize Ay e=TE,Ay (min (cp a b e.1) (cp a b e.2),max (cp a b e.1) (cp a b e.2))=F at *;simp only[Et];simp_all
 generalize (ts.map (ct a b)).map Ay=X at *;refine Am (Ao (ρ1:=[some W,some (.int (a:Int)),some (.int (b:Int)),some (.lst X)]) (Ah (d:=.lst X) (by simpa[Aa] using l)) (An ?_));simp[g,j]
theorem jt4{n:Nat}{ts:Af}{t:Nat}{e:Nat×Nat}(v:1<=n)(p:ts[t]? = some e)(w:ts.length<=1000):Gk [Aj n ts,.int (t:Int)]=.ok (if e.1=e.2 then Aj n (del ts t) else Aj (n - 1) ((del ts t).map (ct e.1 e.2))):=by
 have u:t<ts.length:=(NB.mp p).1;have r:=Q4 n ts;have B:=S6 (n:=n) u w;have A:ixD (.tup (ts.map Ay)) (.int (t:Int))=some (Ay e):=h_ (by rw[RB,p];rfl);have j:(del ts t).length<=1000:=by unfold del;rw[YK,cP,cO];lia
 have z:=kp8 (n:=n) (ts:=del ts t) (a:=e.1) (b:=e.2) v j;have g:ixD (Ay e) (.int 0)=some (.int (e.1:Int)):=Gn;have c:ixD (Ay e) (.int 1)=some (.int (e.2:Int)):=Ka;generalize Aj n ts=W,Aj n (del ts t)=l,Aj (n - 1) ((del ts t).map (ct e.1 e.2))=C,Ay e=TE at *;refine Am (Ao (ρ1:=[some W,some (.int (t:Int)),some l,none]) (Ah (d:=l) (by simp[Aa,B])) (Ao (ρ1:=[some W,some (.int (t:Int)),some l,some TE]) (Ah (d:=TE) (by simp[r,A])) ?_));by_cases h:e.1=e.2
 ·rw[if_pos h];exact skt (by simp[g,c,h]) (An (by simp))
 ·rw[if_neg h];exact skf (by simp[g,c];lia) (An (by simp[g,c,z]))
theorem rZ{ts:Af}{t:Nat}{e:Nat×Nat}(j:ts[t]? = some e)(f:Nat×Nat):f∈ts↔f∈e::del ts t:=by
 obtain⟨g,rfl⟩:=NB.mp j;have h:ts=ts.take t++ts[t]::ts.drop (t+1):=by rw[<-fO g,uJ]
 constructor
 ·intro c;rw[h]at c;unfold del;grind
 ·intro c;rcases JN.mp c with z |z
  ·grind
  ·unfold del at z;grind
theorem sE{ts:Af}{t:Nat}(c:t<ts.length):(del ts t).length+1=ts.length:=by unfold del;grind
theorem jw2{ts:Af}{t:Nat}{e:Nat×Nat}(c:ts[t]? = some e):pick ts [t]=[e]:=by unfold pick;simp_all
def Z3(ts:Af):pick ts (List.range ts.length)=ts:=by
 unfold pick;apply aZ
 ·simp
 ·intro i e c;simp[c]
theorem jv4{ts:Af}{t:Nat}{f:Nat×Nat}:f∈pick ts (restOf ts.length [t])↔f∈del ts t:=by
 unfold pick restOf del;rw[I_,S_];constructor
 ·rintro⟨k,c,rfl⟩;rw[aC,MT]at c;have e:k≠t:=by simpa using c.2
  rw[TF,LR c.1,a_];by_cases g:k<t
  ·exact .inl (jFm.mpr ⟨k,by lia,rfl⟩)
  ·refine .inr (jFn.mpr ⟨k - (t+1),by lia,?_⟩);congr 1;lia
 ·intro h;rcases h with h |h
  ·obtain⟨k,c,rfl⟩:=jFm.mp h;refine⟨k,aC.mpr ⟨MT.mpr (by lia),by simp;lia⟩,?_⟩;rw[TF,LR (by lia),a_]
  ·obtain⟨k,c,rfl⟩:=jFn.mp h;refine⟨t+1+k,aC.mpr ⟨MT.mpr (by lia),by simp;lia⟩,?_⟩;rw[TF,LR (by lia),a_]
theorem J2{n:Nat}{ts:Af}(h:∀e∈ts,e.1<=e.2/\e.2<n):InW n ts:=λe c=>by have:=h e c;lia
theorem wl7{n:Nat}{ts:Af}{t:Nat}{e:Nat×Nat}(A:n<=60)(h:∀e∈ts,e.1<=e.2/\e.2<n)(p:ts[t]? = some e):Fw [Aj n ts,Ac [t]]=.ok (.bl (decide (e.1=e.2))):=by
 obtain⟨z,C⟩:=NB.mp p;obtain⟨b,H,G⟩:=ya9 (n:=n) (ts:=ts) (s:=[t]) A h (by simpa using z) (by simp);suffices E:b=decide (e.1=e.2) by rw[H,E]
 rw[ZK,G,decide_eq_true_iff,jw2 p];have u:InW n [e]:=λf B=>by rw[PX.mp B];exact J2 h e (WR p)
 obtain⟨a,v⟩:=e;constructor
 ·intro r;by_cases g:a=v
  ·exact g
  ·have:=M4 (es:=[]) u (λc=>g (Th.mp c));rw[R0]at this;have F:=r.2.1;unfold cc at this;simp at F;lia
 ·intro g;have g:a=v:=g;subst g;have:=V4 (es:=[]) u (Bl.refl _);rw[R0]at this;refine⟨by simp,by unfold cc at this;rw[this];simp,λj f w l=>?_⟩;have:j=[]/\w=[]:=by
   cases j with
   |nil=>simp at l;exact⟨rfl,l.2⟩
   |cons x j=>simp at l
  rw[this.1,this.2];have:=R0 n;unfold cc at this;simp[this]
theorem ws5{n:Nat}{ts:Af}{t:Nat}{e:Nat×Nat}(u:n<=60)(j:ts.length<=50)(h:∀e∈ts,e.1<=e.2/\e.2<n)(c:ts[t]? = some e):∃b,Lj [Aj n ts,Ac [t]]=.ok (.bl b)/\(b=true↔¬ Bl (del ts t) e.1 e.2):=by
 obtain⟨r,w⟩:=NB.mp c;obtain⟨b,A,z⟩:=yj2 (n:=n) (ts:=ts) (s:=[t]) u j h (by simpa using r) (by simp);refine⟨b,A,z.trans ?_⟩;have g:=J2 h;have p:InW n (del ts t):=λf v=>g f ((rZ c f).mpr (JB _ v));have l:InW n (e::del ts t):=Bd.mpr ⟨g e (WR c),p⟩;have E:(Bw n (pick ts (List.range ts.length))).length=cc n (e::del ts t):=by rw[Z3];exact Hr g (rZ c)
 have C:(Bw n (pick ts (restOf ts.length [t]))).length=cc n (del ts t):=(Hr p λf=>jv4.symm).symm;have B:(Bw n (pick ts (restOf ts.length [t]++[t]))).length=cc n (e::del ts t):=(Hr l λf=>by
  rw[Ug,jw2 c,S_,jv4,JN,PX,or_comm]).symm
 unfold oW;grind [V4,M4,PX.mp]
theorem G4.sml(e:m<=9)(h:G4 m T):∀r∈T,0<=r.2.2/\r.2.2<=512:=λr c=>by
 have j:=h.each r c;have g:(2:Int) ^ m<=512:=by
  have:m=0\/m=1\/m=2\/m=3\/m=4\/m=5\/m=6\/m=7\/m=8\/m=9:=by lia
  rcases this with rfl |rfl |rfl |rfl |rfl |rfl |rfl |rfl |rfl |rfl<;>decide
 have:=h.tim r c;lia
theorem tr1(i j t:Int):D.tup [.int i,.int j,.int t]=trD (i,j,t):=rfl
structure oV(T:List Tr):Prop where
 red:Red T
 srt:gR T
def PN.nice(h:PN T (kept X)):oV T:=⟨(wg3 X).perm h.1,h.2⟩
def wi8:oV [(0,0,1)]:=⟨⟨by simp,by simp⟩,jy0 (by simp)⟩
theorem Nk:∀(m:Nat){n:Nat}{ts:Af},ts.length<m->ts.length<=9->1<=n->n<=60->(∀e∈ts,e.1<=e.2/\e.2<n) ->
  ∃T,oV T/\G4 ts.length T/\(∀x y,(T.map (val x y)).sum=SS n ts (x - 1) (y - 1))/\Cr m [Aj n ts]=.ok (.lst (T.map trD))
 |0,n,ts,h,_,_,_,_=>by lia
 |m+1,n,[],_,_,_,_,_=>by obtain⟨h1,h2⟩:=wn5 n;refine⟨[(0,0,1)],wi8,h1,h2,?_⟩;rfl
 |m+1,n,e::ts,I,h9,A,L,h=>by
  have B:ts.length<m:=by simpa using I
  have C:ts.length+1<=9:=by simpa using h9
  have G:∀f∈ts,f.1<=f.2/\f.2<n:=λf Z=>h f (JB _ Z);have K:InW n (e::ts):=J2 h;have he:(e::ts)[0]? = some e:=rfl;have ed:del (e::ts) 0=ts:=by simp[del]
  have P:=Q4 n (e::ts);have e1:=S6 (n:=n) (ts:=e::ts) (t:=0) (by simp) (by simp;lia);have e2:=jt4 (n:=n) (ts:=e::ts) (t:=0) A he (by simp;lia);have J:=wl7 (n:=n) (ts:=e::ts) (t:=0) L h he;obtain⟨b,e4,e5⟩:=ws5 (n:=n) (ts:=e::ts) (t:=0) L (by simp;lia) h he;rw[ed]at e1 e2 e5;have H:Ac [0]=.tup [.int 0]:=rfl;rw[H]at J e4;have f1:Du [Aj n (e::ts),.int 0]=.ok (Aj n ts):=e1;have f2:Gk [Aj n (e::ts),.int 0]=.ok (if e.1=e.2 then Aj n ts else Aj (n - 1) (ts.map (ct e.1 e.2))):=e2;clear e1 e2;have l0:Cv [.tup ((e::ts).map Ay)]=some (.int ((ts.length:Int)+1)):=by show some (D.int _)=_;rw[GQ,PQ];rfl
  have F:Gz [.int 0]=some (.tup [.int 0]):=Fx (by simp);have pre:∀{r:R Fl}{W:D},ixD W (.int 1)=some (.tup ((e::ts).map Ay))->(sq (ifS (tt (cl (zv (gv 0) (zv (bA (zv (kd (.int 0)) a0) Gz) a0)) Fw)) (Uj (cl (zv (cl (zv (cl (zv (gv 0) (zv (kd (.int 0)) a0)) Du) a0) (Cr m)) (zv (bA (zv (bA (zv (kd (.int 0)) (zv (kd (.int 1)) (zv (kd (.int 1)) a0))) Gz) a0) Ub) a0)) Cm)) nop)
    (sq (ifS (tt (cl (zv (gv 0) (zv (bA (zv (kd (.int 0)) a0) Gz) a0)) Lj)) (Uj (cl (zv (cl (zv (cl (zv (gv 0) (zv (kd (.int 0)) a0)) Gk) a0) (Cr m)) (zv (bA (zv (bA (zv (kd (.int 1)) (zv (kd (.int 0)) (zv (kd (.int 1)) a0))) Gz) a0) Ub) a0)) Cm)) nop)
    (Uj (cl (zv (cl (zv (cl (zv (gv 0) (zv (kd (.int 0)) a0)) Du) a0) (Cr m)) (zv (cl (zv (cl (zv (gv 0) (zv (kd (.int 0)) a0)) Gk) a0) (Cr m)) a0)) Ti)))) [some W]=r->Ze (Cr m) [some W]=r:=λ{r W} hW l=>by
   refine skf ?_ l;rw[jP,gD,b8,U8,gD];simp only[gv0,aQ,R.ok_bind,hW,R.of_some,zk0,l0,pF,yk3];have hz:¬ ((ts.length:Int)+1=0):=by lia
   simp[hz]
  obtain⟨a,c⟩:=e;have ae:a<=c:=(h (a,c) J_).1;have ab:c<n:=(h (a,c) J_).2;by_cases j:a=c
  ·subst j;obtain⟨T,_,v,Q,t3⟩:=Nk m B (by lia) A L G;have Y:=G4.sml (by lia) v;obtain⟨U,u1,w⟩:=Rm (S:=T) (T:=[(0,1,1)]) (λr l=>by have:=Y r l;lia) (by have:=v.few;simp;lia) (by simp) (RT (Xk λr l=>by
    rw[Q3]at l;obtain⟨s,H,rfl⟩:=I_.mp l;have:=v.pos s H;dsimp only;lia) (by decide))
   obtain⟨v1,E⟩:=kx0 v C Q K u1.1;refine⟨U,u1.nice,v1,E,Am (pre P ?_)⟩;have w:Cm [.lst (T.map trD),.lst [trD (0,1,1)]]=.ok (.lst (U.map trD)):=w;have O:Fw [Aj n ((a,a)::ts),.tup [.int 0]]=.ok (.bl true):=by rw[J];simp
   clear J f2;generalize Aj n ((a,a)::ts)=W at *;generalize Aj n ts=W',T.map trD=TD at *;refine skt (by simp[F,O]) (An ?_);simp_all [Fx,Lk,tr1]
  ·have p:a<c:=by lia
   have O:Fw [Aj n ((a,c)::ts),.tup [.int 0]]=.ok (.bl false):=by rw[J];simp[j]
   have f4:Gk [Aj n ((a,c)::ts),.int 0]=.ok (Aj (n - 1) (ts.map (ct a c))):=by rw[f2,if_neg j]
   clear J f2;have aa:∀f∈ts.map (ct a c),f.1<=f.2/\f.2<n - 1:=λf Z=>by obtain⟨g,hg,rfl⟩:=I_.mp Z;have:=pJ p ab (Bd.mp K).2 (ct a c g) (I_.mpr ⟨g,hg,rfl⟩);refine⟨?_,this.2⟩;unfold ct;lia
   obtain⟨V,_,u,x2,x3⟩:=Nk m (n:=n - 1) (ts:=ts.map (ct a c)) (by rw[GQ];exact B) (by rw[GQ];lia) (by lia) (by lia) aa;rw[GQ]at u;by_cases M:Bl ts a c
   ·have hb:b=false:=by
     cases b with
     |false=>rfl
     |true=>exact absurd M (e5.mp rfl)
    subst hb;obtain⟨T,_,v,Q,t3⟩:=Nk m B (by lia) A L G;obtain⟨U,u1,w⟩:=kz4 (S:=T) (T:=V) (by have:=v.few;lia) (by have:=u.few;lia) (RT (Xk λr l=>by
     rcases S_.mp l with z |z
     ·have:=v.pos r z;lia
     ·have:=u.pos r z;lia) (by decide))
    obtain⟨v1,E⟩:=kw9 p v u C Q x2 K M u1.1;refine⟨U,u1.nice,v1,E,Am (pre P ?_)⟩;generalize Aj n ((a,c)::ts)=W at *;generalize Aj n ts=W',Aj (n - 1) (ts.map (ct a c))=W2,T.map trD=TD,V.map trD=VD at *;refine skf (by simp[F,O]) (skf (by simp[F,e4]) (An ?_));simp_all
   ·have hb:b=true:=e5.mpr M;subst hb;have Y:=G4.sml (by lia) u;obtain⟨U,u1,w⟩:=Rm (S:=V) (T:=[(1,0,1)]) (λr l=>by have:=Y r l;lia) (by have:=u.few;simp;lia) (by simp) (RT (Xk λr l=>by
     rw[Q3]at l;obtain⟨s,H,rfl⟩:=I_.mp l;have:=u.pos s H;dsimp only;lia) (by decide))
    obtain⟨v1,E⟩:=wn4 p u C x2 K M u1.1;refine⟨U,u1.nice,v1,E,Am (pre P ?_)⟩;have w:Cm [.lst (V.map trD),.lst [trD (1,0,1)]]=.ok (.lst (U.map trD)):=w;generalize Aj n ((a,c)::ts)=W at *;generalize Aj (n - 1) (ts.map (ct a c))=W2,V.map trD=VD at *;refine skf (by simp[F,O]) (skt (by simp[F,e4]) (An ?_));simp[f4,x3,Fx,Lk,tr1,w]
def table_eq(m:Nat){n:Nat}{ts:Af}(h1:ts.length<m)(j:ts.length<=9)(h:1<=n)(g:n<=60)(c:∀e∈ts,e.1<=e.2/\e.2<n):
  ∃T,G4 ts.length T/\(∀x y,(T.map (val x y)).sum=SS n ts (x - 1) (y - 1))/\Cr m [Aj n ts]=.ok (.lst (T.map trD)):=by
 obtain⟨T,_,t⟩:=Nk m h1 j h g c;exact⟨T,t⟩
theorem G4.tr(e:m<=9)(h:G4 m T):∀r∈T,jU r:=λr c=>by have j:=h.pos r c;have g:=G4.sml e h r c;exact⟨by lia,by lia,by lia,by lia,by lia,by lia⟩
theorem rB{B:Nat}:∀{l:List Int},(∀z∈l,z.natAbs<=B)->l.sum.natAbs<=l.length * B
 | [],_=>by simp
 |a::l,h=>by have g:=h a J_;have e:=rB (l:=l) λz c=>h z (JB _ c);rw[RP,PQ,Nat.succ_mul];exact QG (Int.natAbs_add_le a l.sum) (QG (Nat.add_le_add g e) (mD (Nat.add_comm _ _)))
def yv6:55 * (1099511627776 * 1099511627776 ^ 9 * 1099511627776 ^ 9)<2 ^ 2048:=by decide +kernel
theorem Ut{n:Nat}{ts:Af}(w:ts.length<=9)(v:1<=n)(E:n<=60)(h:∀e∈ts,e.1<=e.2/\e.2<n):
  ∃A,R6 [Aj n ts]=.ok A/\(∀x y:Int,x.natAbs<=1099511627776->y.natAbs<=1099511627776->Xl [A,.int x,.int y]=.ok (.int (SS n ts (x - 1) (y - 1))))/\(∀x y:Int,0<=x->0<=y->0<=SS n ts (x - 1) (y - 1)) /\
   ∀x y:Int,x.natAbs<=1099511627776->y.natAbs<=1099511627776->(SS n ts (x - 1) (y - 1)).natAbs<2 ^ 2048:=by
 obtain⟨T,c,p,C⟩:=table_eq 12 (by lia) w v E h;refine⟨.lst (T.map trD),C,λx y j g=>?_,λx y j g=>?_,λx y j g=>?_⟩
 ·rw[wp7 j g (G4.tr w c) (by have:=c.few;lia),p]
 ·rw[<-p];refine S5 λz u=>?_;obtain⟨r,l,rfl⟩:=I_.mp u;unfold val;exact Int.mul_nonneg (Int.mul_nonneg (c.tim r l) (Int.pow_nonneg j)) (Int.pow_nonneg g)
 ·rw[<-p];refine RT (rB (B:=1099511627776 * 1099511627776 ^ 9 * 1099511627776 ^ 9) λz u=>?_) (RT (uG _ (by rw[GQ];exact c.few)) yv6);obtain⟨r,l,rfl⟩:=I_.mp u;have G:=c.pos r l;have F:=G4.sml w c r l;unfold val;rw[fD,fD];exact fC (fC (by lia) (bW j (by lia))) (bW g (by lia))
def kv3{n:Nat}{ts:Af}(g:n<=60)(h:∀e∈ts,e.1<=e.2/\e.2<n)(c:ts.length<=50):∃X,sG [Aj n ts,Ac (List.range ts.length)]=.ok (.lst X)/\Cv [.lst X]=some (.int (cc n ts:Nat)):=by refine⟨_,jv9 (s:=List.range ts.length) g h λk j=>MT.mp j,?_⟩;show some (D.int _)=_;unfold Sv;rw[GQ,Z3];rfl
def yw5{n:Nat}{ts:Af}:cc n ts<=n:=Qw n ts
structure Wb(n:Nat)(ts:Af):Prop where
 n1:1<=n
 n6:n<=6
 l9:ts.length<=9
 tie:∀e∈ts,e.1<=e.2/\e.2<n
def wb6{ts:Af}{t:Nat}{e:Nat×Nat}(g:ts[t]? = some e):ts.Perm (e::del ts t):=by
 obtain⟨c,rfl⟩:=NB.mp g;have h:ts.take t++ts[t]::ts.drop (t+1)=ts:=by rw[<-fO c,uJ]
 have:=tW (a:=ts[t]) (l₁:=ts.take t) (l₂:=ts.drop (t+1));rw[h]at this;exact this
theorem Vy{n:Nat}{ts:Af}{t:Nat}{e:Nat×Nat}(w:Wb n ts)(c:ts[t]? = some e):Wb n (del ts t):=
 ⟨w.n1,w.n6,by have:=sE (NB.mp c).1;have:=w.l9;lia,λf g=>w.tie f ((rZ c f).mpr (JB _ g))⟩
theorem yd2{n:Nat}{ts:Af}{t:Nat}{e:Nat×Nat}(w:Wb n ts)(h:ts[t]? = some e)(c:e.1<e.2):Wb (n - 1) ((del ts t).map (ct e.1 e.2)):=by have wd:=Vy w h;have p:=(w.tie e (WR h)).2;refine⟨by lia,by have:=w.n6;lia,by rw[GQ];exact wd.l9,λf l=>?_⟩;obtain⟨g,j,rfl⟩:=I_.mp l;have:=pJ c p (J2 wd.tie) (ct e.1 e.2 g) (I_.mpr ⟨g,j,rfl⟩);refine⟨?_,this.2⟩;unfold ct;lia
def O2{a b:Int}(h:-(2 ^ 64)<b)(c:b<2 ^ 64):Hw (.int a) (.int b)=some (.int (a * b)):=by show(if _ then _ else _)=_;rw[if_pos (.inr (.inl ⟨h,c⟩))]
variable {H:Int}
theorem we7(h:1<=H):Ox [.int H]=.ok .non:=by have e:Gq (Aa 1 [.int H])=.ok (.nx (Aa 1 [.int H])):=(W9 (by simp[Aa];lia)).trans rfl;show Bh 1 Gq _=_;simp_all
theorem we0{n:Nat}{ts:Af}(w:Wb n ts)(h1:1<=H)(F:H<=100000000000):La [Aj n ts,.int H]=.ok (.int (Flw n ts H)):=by
 obtain⟨I,u,r,_,_⟩:=Ut w.l9 w.n1 (by have:=w.n6;lia) w.tie;have v:=all_eq n ts (by have:=w.l9;lia);have e:=Ni (n:=n) (ts:=ts) (s:=List.range ts.length) (by have:=w.n6;lia) w.tie λk h=>MT.mp h;have l:(Bw n (pick ts (List.range ts.length))).length=cc n ts:=by rw[Z3];rfl
 rw[l]at e;have j:=we7 h1;have c:=r 0 (1 - H) (by decide) (by lia);have p:SS n ts (0 - 1) (1 - H - 1)=SS n ts (-1) (-H):=by rw[show(1 - H - 1:Int) = -H by lia,show(0 - 1:Int) = -1 by decide]
 rw[p]at c;have C:=Ym n ts (J2 w.tie);have ls:Cv [Ac (List.range ts.length)]=some (.int (ts.length:Nat)):=by show some (D.int _)=_;rw[Bb,WQ]
 have A:Nf (.int ((ts.length:Int) - ((n:Int) - (cc n ts:Nat)))) (.int 2)=some (.int (((ts.length:Int) - ((n:Int) - (cc n ts:Nat))) % 2)):=Rf (by decide);have G:∀z:Int,b7 (.int z)=some (.int (-z)):=λz=>rfl;unfold Flw sg;generalize Aj n ts=W,Ac (List.range ts.length)=E,SS n ts (-1) (-H)=Z at *;refine Am (Ao (ρ1:=[some W,some (.int H),none,none]) (by simp[Aa,j]) (Ao (ρ1:=[some W,some (.int H),some E,none]) (Ah (d:=E) (by simp[v])) (Ao (ρ1:=[some W,some (.int H),some E,some (.int Z)]) (Ah (d:=.int Z) (by simp[u,c])) (An ?_))));by_cases B:(ts.length+cc n ts - n) % 2=0
 ·have g:((ts.length:Int) - ((n:Int) - (cc n ts:Nat))) % 2=0:=by lia
  simp_all
 ·have g:¬ ((ts.length:Int) - ((n:Int) - (cc n ts:Nat))) % 2=0:=by lia
  simp_all
theorem cell_eq(ns:List Int)(k:Nat):Cp [.lst (ns.map .int),.int (k:Int)]=.ok (.int (ns.getD k 0)):=by
 refine Am (An ?_);by_cases e:k<ns.length
 ·have g:ixD (.lst (ns.map .int)) (.int (k:Int))=some (.int (ns.getD k 0)):=Nx (i:=k) (by simp[e]);generalize ns.getD k 0=z at *;simp[Aa,e,g]
 ·have h:ns.getD k 0=0:=by rw[TF,fL (by lia)];rfl
  rw[h];have c:¬ k<ns.length:=e;simp[Aa,c]
theorem Jv(c s:Int)(hs:0<=s)(v:s<=100)(m:Nat)(z:0<m):∃r:Nat,r<m/\Bp [.int c,.int s,.int (m:Int)]=.ok (.int (r:Int)):=by have u:Hw (.int 271) (.int s)=some (.int (271 * s)):=qM (by decide) (by decide);have p:Hw (.int (c+271 * s)) (.int 40503)=some (.int ((c+271 * s) * 40503)):=O2 (by decide) (by decide);have n:Nf (.int ((c+271 * s) * 40503)) (.int 1000081)=some (.int ((c+271 * s) * 40503 % 1000081)):=Rf (by decide);generalize (c+271 * s) * 40503 % 1000081=A at *;have l:Ln (.int c) (.int 997)=some (.int (c / 997)):=Yx (by decide) (by decide);have j:Hw (.int (A+c / 997+s)) (.int 30011)=some (.int ((A+c / 997+s) * 30011)):=O2 (by decide) (by decide);have h:Nf (.int ((A+c / 997+s) * 30011)) (.int 999671)=some (.int ((A+c / 997+s) * 30011 % 999671)):=Rf (by decide);generalize (A+c / 997+s) * 30011 % 999671=B at *;have g:Ln (.int B) (.int 3)=some (.int (B / 3)):=Yx (by decide) (by decide);have b1:=iU (B / 3) (b:=(m:Int)) (by lia);have w:=jA (B / 3) (b:=(m:Int)) (by lia);have e:Nf (.int (B / 3)) (.int (m:Int))=some (.int (B / 3 % m)):=Rf (by lia);refine⟨(B / 3 % (m:Int)).toNat,by lia,Am (Ao (ρ1:=[some (.int c),some (.int s),some (.int (m:Int)),some (.int A)]) (Ah (d:=.int A) (by simp[Aa,u,p,n])) (Ao (ρ1:=[some (.int c),some (.int s),some (.int (m:Int)),some (.int B)]) (Ah (d:=.int B) (by simp[l,j,h])) (An ?_)))⟩;rw[bF b1];simp[g,e]
theorem yZ(m:Nat)(l:1<=m)(u v:Int)(j:0<=u)(g:u<m)(h:0<=v)(c:v<m):∃e:Nat×Nat,e.1<=e.2/\e.2<m/\D.tup [.int (min u v),.int (max u v)]=Ay e:=by refine⟨((min u v).toNat,(max u v).toNat),by simp;lia,by simp;lia,?_⟩;simp only[Ay];rw[bF (by lia),bF (by lia)]
def dgB:Ev->R Fl:=(sq (asg 5 (b2 (gv 0) (gv 1) Nf))
 (sq (asg 0 (b2 (gv 0) (gv 1) Ln))
 (sq (dY 3 (bA (zv (bA (zv (gv 5) (zv (b2 (gv 0) (gv 1) Nf) a0)) minD) (zv (bA (zv (gv 5) (zv (b2 (gv 0) (gv 1) Nf) a0)) maxD) a0)) Gz))
 (asg 0 (b2 (gv 0) (gv 1) Ln)))))
variable {z:Int}{o2 o4 o5:Option D}
theorem ws9{ts:Af}(p:1<=m)(n:m<=100)(A:ts.length<100):∃(h:Int)(e:Nat×Nat)(j:Option D),e.1<=e.2/\e.2<m /\
  dgB [some (.int z),some (.int (m:Int)),o2,some (.lst (ts.map Ay)),o4,o5]=.ok (.nx [some (.int h),some (.int (m:Int)),o2,some (.lst ((ts++[e]).map Ay)),o4,j]):=by
 have g:∀z:Int,Ln (.int z) (.int (m:Int))=some (.int (z / m)):=λz=>Yx (by lia) (by lia);have c:∀z:Int,Nf (.int z) (.int (m:Int))=some (.int (z % m)):=λz=>Rf (by lia);obtain⟨e,w,v,u⟩:=yZ m p (z % m) (z / m % m) (iU _ (by lia)) (jA _ (by lia)) (iU _ (by lia)) (jA _ (by lia));refine⟨z / m / m,e,some (.int (z % m)),w,v,?_⟩;have r:dgB [some (.int z),some (.int (m:Int)),o2,some (.lst (ts.map Ay)),o4,o5]=.ok (.nx [some (.int (z / m / m)),some (.int (m:Int)),o2,some (.lst (ts.map Ay++[Ay e])),o4,some (.int (z % m))]):=by
  have l:(ts.map Ay).length<16777216:=by rw[GQ];lia
  generalize ts.map Ay=TS at *;exact Ao (Ah (d:=.int (z % m)) (by simp[c])) (Ao (Ah (d:=.int (z / m)) (by simp[g])) (Ao (wU (ds:=TS) (x:=Ay e) rfl (by simp[c,Fx,u]) l) ((Ah (d:=.int (z / m / m)) (by simp[g])).trans rfl)))
 rw[r,N_];rfl
theorem kq9(z:Int)(m k:Nat)(F:1<=m)(v:m<=100)(Q:k<=50):∃(ts:Af)(c:Int),ts.length=k/\(∀e∈ts,e.1<=e.2/\e.2<m)/\Li [.int z,.int (m:Int),.int (k:Int)]=.ok (.tup [.lst (ts.map Ay),.int c]):=by
 obtain⟨C,K,l⟩:=Ei (g:=gN 4) (b:=dgB) (I:=λj ρ=>j<=k->∃(ts:Af)(c:Int)(r p:Option D),ts.length=j/\(∀e∈ts,e.1<=e.2/\e.2<m)/\ρ=[some (.int c),some (.int (m:Int)),some (.int (k:Int)),some (.lst (ts.map Ay)),r,p])
  (Ai (List.range k)) 0 [some (.int z),some (.int (m:Int)),some (.int (k:Int)),some (.lst []),none,none] (λ_=>⟨[],z,none,none,rfl,by simp,rfl⟩) (λi d ρ h l=>by
   rw[Hh]at h;cases A:(List.range k)[i]? with
   |none=>rw[A]at h;cases h
   |some j =>
    rw[A]at h;cases h;obtain⟨J,B⟩:=NB.mp A;simp at B J;subst B;rw[UG]at l ⊢;obtain⟨ts,c,r,p,w,u,rfl⟩:=l (by lia);obtain⟨E,e,P,O,M,L⟩:=ws9 (z:=c) (m:=m) (o2:=some (.int (k:Int))) (o4:=some (.int (i:Int))) (o5:=p) (ts:=ts) F v (by lia);refine⟨_,_,Yy,.inl L,λ_=>⟨ts++[e],E,_,_,by simp[w],λf G=>?_,rfl⟩⟩;rcases S_.mp G with z |z
    ·exact u f z
    ·rw[PX.mp z];exact⟨O,M⟩)
 rw[Bb,WQ,UG]at l;obtain⟨ts,c,r,p,w,u,rfl⟩:=l (GX _);refine⟨ts,c,w,u,Am (Ao (Ah (d:=.lst []) (by simp[Lk])) (Ao (Gp (ds:=Ai (List.range k)) (by simp[Aa,Y0 (n:=k) (by lia)]) K) (An ?_)))⟩;rfl
def ceB:Ev->R Fl:=(sq (asg 6 (cl (zv (gv 0) (zv (b2 (gv 1) (gv 5) Az) a0)) Cp))
 (sq (asg 7 (cl (zv (gv 6) (zv (kd (.int 3)) (zv (gv 2) a0))) Bp))
 (sq (asg 8 (cl (zv (gv 6) (zv (kd (.int 5)) (zv (gv 2) a0))) Bp))
 (dY 4 (bA (zv (bA (zv (gv 7) (zv (gv 8) a0)) minD) (zv (bA (zv (gv 7) (zv (gv 8) a0)) maxD) a0)) Gz)))))
variable {o3 o7 o8:Option D}
theorem wr9{ns:List Int}{at_:Nat}{o6:Option D}{ts:Af}(r:1<=m)(J:ts.length<100):∃(e:Nat×Nat)(n l j:Option D),e.1<=e.2/\e.2<m /\
  ceB [some (.lst (ns.map .int)),some (.int (at_:Int)),some (.int (m:Int)),o3,some (.lst (ts.map Ay)),some (.int (i:Int)),o6,o7,o8]=.ok (.nx [some (.lst (ns.map .int)),some (.int (at_:Int)),some (.int (m:Int)),o3,some (.lst ((ts++[e]).map Ay)),some (.int (i:Int)),n,l,j]):=by
 have g:=cell_eq ns (at_+i);rw[show((at_+i:Nat):Int)=(at_:Int)+(i:Int) by lia]at g;generalize ns.getD (at_+i) 0=c,ns.map D.int=h at *;obtain⟨u,I,B⟩:=Jv c 3 (by decide) (by decide) m (by lia);obtain⟨v,G,A⟩:=Jv c 5 (by decide) (by decide) m (by lia);obtain⟨e,F,E,C⟩:=yZ m r (u:Int) (v:Int) (by lia) (by lia) (by lia) (by lia);refine⟨e,some (.int c),some (.int (u:Int)),some (.int (v:Int)),F,E,?_⟩;have w:ceB [some (.lst h),some (.int (at_:Int)),some (.int (m:Int)),o3,some (.lst (ts.map Ay)),some (.int (i:Int)),o6,o7,o8]=.ok (.nx [some (.lst h),some (.int (at_:Int)),some (.int (m:Int)),o3,some (.lst (ts.map Ay++[Ay e])),some (.int (i:Int)),some (.int c),some (.int (u:Int)),some (.int (v:Int))]):=by
  have p:(ts.map Ay).length<16777216:=by rw[GQ];lia
  generalize ts.map Ay=TS at *;exact Ao (Ah (d:=.int c) (by simp[g])) (Ao (Ah (d:=.int (u:Int)) (by simp[B])) (Ao (Ah (d:=.int (v:Int)) (by simp[A])) ((wU (ds:=TS) (x:=Ay e) rfl (by simp[Fx,C]) p).trans rfl)))
 rw[w,N_];rfl
theorem wa9(ns:List Int)(at_ m k:Nat)(E:1<=m)(U:k<=50):∃ts:Af,ts.length=k/\(∀e∈ts,e.1<=e.2/\e.2<m)/\Ja [.lst (ns.map .int),.int (at_:Int),.int (m:Int),.int (k:Int)]=.ok (.lst (ts.map Ay)):=by
 obtain⟨C,J,h⟩:=Ei (g:=gN 5) (b:=ceB) (I:=λj ρ=>j<=k->∃(ts:Af)(u r p l:Option D),ts.length=j/\(∀e∈ts,e.1<=e.2/\e.2<m)/\ρ=[some (.lst (ns.map .int)),some (.int (at_:Int)),some (.int (m:Int)),some (.int (k:Int)),some (.lst (ts.map Ay)),u,r,p,l])
  (Ai (List.range k)) 0 [some (.lst (ns.map .int)),some (.int (at_:Int)),some (.int (m:Int)),some (.int (k:Int)),some (.lst []),none,none,none,none] (λ_=>⟨[],none,none,none,none,rfl,by simp,rfl⟩) (λi d ρ c h=>by
   rw[Hh]at c;cases A:(List.range k)[i]? with
   |none=>rw[A]at c;cases c
   |some j =>
    rw[A]at c;cases c;obtain⟨G,B⟩:=NB.mp A;simp at B G;subst B;rw[UG]at h ⊢;obtain⟨ts,u,r,p,l,w,v,rfl⟩:=h (by lia);obtain⟨e,Q,P,O,M,L,K⟩:=wr9 (ns:=ns) (at_:=at_) (i:=i) (m:=m) (o3:=some (.int (k:Int))) (o6:=r) (o7:=p) (o8:=l) (ts:=ts) E (by lia);refine⟨_,_,Yy,.inl K,λ_=>⟨ts++[e],_,_,_,_,by simp[w],λf F=>?_,rfl⟩⟩;rcases S_.mp F with z |z
    ·exact v f z
    ·rw[PX.mp z];exact⟨M,L⟩)
 rw[Bb,WQ,UG]at h;obtain⟨ts,u,r,p,l,w,v,rfl⟩:=h (GX _);refine⟨ts,w,v,Am (Ao (Ah (d:=.lst []) (by simp[Lk])) (Ao (Gp (ds:=Ai (List.range k)) (by simp[Aa,Y0 (n:=k) (by lia)]) J) (An (by simp))))⟩
theorem ww9(ns:List Int):∃n ts,Wb n ts/\n<=6/\ts.length<=6/\Yp [.lst (ns.map .int),.int 6,.int 6]=.ok (Aj n ts):=by
 have A:Cp [.lst (ns.map .int),.int 1]=.ok (.int (ns.getD 1 0)):=cell_eq ns 1;have K:Cp [.lst (ns.map .int),.int 0]=.ok (.int (ns.getD 0 0)):=cell_eq ns 0;have O:bY (.int 10) (.int 18)=some (.int 1000000000000000000):=yy5 (by decide);have u:=λm k I l=>wa9 ns 2 m k I l;generalize ns.getD 1 0=z,ns.getD 0 0=v,ns.map D.int=e at *;have mk:∀(n:Nat)(ts:Af),Gz [.int (n:Int),.tup (ts.map Ay)]=some (Aj n ts):=λn ts=>Fx (by simp);by_cases h:0<=z/\z<1000000000000000000
 ·obtain⟨a,Q,r⟩:=Jv z 1 (by decide) (by decide) 6 (by decide);obtain⟨b,P,p⟩:=Jv v 2 (by decide) (by decide) 7 (by decide);obtain⟨ts,J,j,g⟩:=u (1+a) b (by lia) (by lia);refine⟨1+a,ts,⟨by lia,by lia,by lia,j⟩,by lia,by lia,?_⟩;have r:Bp [.int z,.int 1,.int 6]=.ok (.int (a:Int)):=r;have p:Bp [.int v,.int 2,.int 7]=.ok (.int (b:Int)):=p;have w:((1+a:Nat):Int)=1+(a:Int):=by lia
  have g:Ja [.lst e,.int 2,.int (1+(a:Int)),.int (b:Int)]=.ok (.lst (ts.map Ay)):=by rw[<-w];exact g
  have mk':=mk (1+a) ts;rw[w]at mk';generalize Aj (1+a) ts=W,ts.map Ay=TS at *;refine Am (Ao (ρ1:=[some (.lst e),some (.int 6),some (.int 6),some (.int z),none,none]) (Ah (d:=.int z) (by simp[Aa,A])) (skf ?_ (Ao (ρ1:=[some (.lst e),some (.int 6),some (.int 6),some (.int z),some (.int (1+(a:Int))),none]) (Ah (d:=.int (1+(a:Int))) (by simp[r])) (Ao (ρ1:=[some (.lst e),some (.int 6),some (.int 6),some (.int z),some (.int (1+(a:Int))),some (.int (b:Int))]) (Ah (d:=.int (b:Int)) (by simp[K,p])) (An ?_)))))
  ·have c:ch (kd (.int 0)) (gv 3) (b2 (kd (.int 10)) (kd (.int 18)) bY) leD ltD [some (.lst e),some (.int 6),some (.int 6),some (.int z),none,none]=.ok (.bl true):=by unfold ch;simp_all
   simp_all
  ·simp_all
 ·have b1:=iU z (b:=6) (by decide);have L:=jA z (b:=6) (by decide);have Y:=iU (z / 6) (b:=7) (by decide);have U:=jA (z / 6) (b:=7) (by decide);obtain⟨n,G⟩:∃n:Nat,(n:Int)=1+z % 6:=⟨(1+z % 6).toNat,by lia⟩;obtain⟨k,l⟩:∃k:Nat,(k:Int)=z / 6 % 7:=⟨(z / 6 % 7).toNat,by lia⟩;have F:Nf (.int z) (.int 6)=some (.int (z % 6)):=Rf (by decide);have E:Ln (.int z) (.int 6)=some (.int (z / 6)):=Yx (by decide) (by decide);have C:Nf (.int (z / 6)) (.int 7)=some (.int (k:Int)):=by rw[l];exact Rf (by decide)
  have B:Ln (.int (z / 6)) (.int 7)=some (.int (z / 6 / 7)):=Yx (by decide) (by decide);obtain⟨ts,M,J,j,g⟩:=kq9 (z / 6 / 7) n k (by lia) (by lia) (by lia);refine⟨n,ts,⟨by lia,by lia,by lia,j⟩,by lia,by lia,?_⟩;have mk':=mk n ts;generalize Aj n ts=W,ts.map Ay=TS at *;refine Am (Ao (ρ1:=[some (.lst e),some (.int 6),some (.int 6),some (.int z),none,none]) (Ah (d:=.int z) (by simp[Aa,A])) (skt ?_ (Ao (ρ1:=[some (.lst e),some (.int 6),some (.int 6),some (.int z),some (.int (n:Int)),none]) (Ah (d:=.int (n:Int)) (by simp[F,G])) (Ao (ρ1:=[some (.lst e),some (.int 6),some (.int 6),some (.int (z / 6)),some (.int (n:Int)),none]) (Ah (d:=.int (z / 6)) (by simp[E])) (Ao (ρ1:=[some (.lst e),some (.int 6),some (.int 6),some (.int (z / 6)),some (.int (n:Int)),some (.int (k:Int))]) (Ah (d:=.int (k:Int)) (by simp[C])) (An ?_))))))
  ·have c:ch (kd (.int 0)) (gv 3) (b2 (kd (.int 10)) (kd (.int 18)) bY) leD ltD [some (.lst e),some (.int 6),some (.int 6),some (.int z),none,none]=.ok (.bl false):=by unfold ch;simp_all
   simp_all
  ·simp[B,g,mk']
variable {K:Int}
theorem ka9{n:Nat}{ts:Af}(w:Wb n ts)(G:K.natAbs<=100000000000):Jb [Aj n ts,.int K]=.ok (.int (Pc n ts K)):=by
 obtain⟨J,E,C,_,B⟩:=Ut w.l9 w.n1 (by have:=w.n6;lia) w.tie;obtain⟨X,p1,p⟩:=kv3 (n:=n) (ts:=ts) (by have:=w.n6;lia) w.tie (by have:=w.l9;lia);have F:=all_eq n ts (by have:=w.l9;lia);have j:ixD (Aj n ts) (.int 0)=some (.int (n:Int)):=Gn;have e:cc n ts<=9:=QG yw5 (by have:=w.n6;lia);have l:=tE (x:=K) (n:=cc n ts) (by lia) e;have c:=C (1 - K) 0 (by lia) (by decide);have g:=B (1 - K) 0 (by lia) (by decide);have A:SS n ts (1 - K - 1) (0 - 1)=SS n ts (-K) (-1):=by rw[show(1 - K - 1:Int) = -K by lia,show(0 - 1:Int) = -1 by decide]
 rw[A]at c g;have u:Hw (.int (K ^ cc n ts)) (.int (SS n ts (-K) (-1)))=some (.int (K ^ cc n ts * SS n ts (-K) (-1))):=Yz (RT (bW (by lia) e) jT) g;have r:Nf (.int ((n:Int) - (cc n ts:Nat))) (.int 2)=some (.int (((n:Int) - (cc n ts:Nat)) % 2)):=Rf (by decide);have I:∀z:Int,b7 (.int z)=some (.int (-z)):=λz=>rfl;have v:cc n ts<=n:=Yn n ts;unfold Pc sg;generalize Aj n ts=W,K ^ cc n ts * SS n ts (-K) (-1)=Z at *
 skip
 generalize SS n ts (-K) (-1)=S,K ^ cc n ts=P at *;refine Am (Ao (ρ1:=[some W,some (.int K),some (.int (cc n ts:Nat)),none]) (Ah (d:=.int (cc n ts:Nat)) (by simp[Aa,F,p1,p])) (Ao (ρ1:=[some W,some (.int K),some (.int (cc n ts:Nat)),some (.int Z)]) (Ah (d:=.int Z) (by simp[l,E,c,u])) (An ?_)));by_cases h:((n:Int) - (cc n ts:Nat)) % 2=0
 ·rw[if_pos (by lia)];simp[j,r,h]
 ·rw[if_neg (by lia)];simp_all
def paB:Ev->R Fl:=(sq (asg 5 (b2 (gv 2) (gv 3) ixD)) (asg 2 (Ci (itS (gv 2)) 1 [5,2,4] (gN 0) yes (ife (tb (b2 (gv 0) (gv 1) eqD)) (b2 (gv 2) (gv 3) ixD) (gv 0)))))
variable {l:List Nat}
def kl3(h:i<l.length):ixD (.lst (Ai l)) (.int (i:Int))=some (.int (l.getD i 0:Nat)):=Nx (i:=i) (by
 rw[Hh,TF,LR h];rfl)
variable {o1:Option D}
theorem wy7{M:List Nat}(w:M.length<=100)(r:a<M.length)(p:b<M.length):∃g,paB [o0,o1,some (.lst (Ai M)),some (.int (a:Int)),some (.int (b:Int)),o5] =
  .ok (.nx [o0,o1,some (.lst (Ai (M.map λz=>if z=M.getD a 0 then M.getD b 0 else z))),some (.int (a:Int)),some (.int (b:Int)),g]):=by
 have n:=kl3 r;have j:=kl3 p;have e:=Bb M;refine⟨some (.int (M.getD a 0:Nat)),Ao (Ah (d:=.int (M.getD a 0:Nat)) (by simp[n])) ((Ah (d:=.lst (Ai (M.map λz=>if z=M.getD a 0 then M.getD b 0 else z))) ?_).trans rfl)⟩;refine Cj (ds:=Ai M) (by simp) ?_ (by rw[Bb,GQ];omega);unfold Ai;rw[KQ];refine Gj M λz v=>?_;have c:ixD (.lst (M.map λ(x:Nat)=>D.int (x:Int))) (.int (b:Int))=some (.int (M.getD b 0:Nat)):=j;generalize M.getD a 0=A,M.getD b 0=B at *;generalize (M.map λ(x:Nat)=>D.int (x:Int))=C at *;by_cases h:z=A
 ·simp[Et,h,c]
 ·have u:¬ (z:Int)=(A:Int):=by omega
  simp[Et,h,u]
theorem Vk{n:Nat}{ts:Af}(hn:n<=50)(h:∀e∈ts,e.1<=e.2/\e.2<n):Ju [.int (n:Int),.tup (ts.map Ay)]=.ok (.int (cc n ts:Nat)):=by
 have G:=J2 h;obtain⟨C,P,r⟩:=Ei (g:=gT [3,4]) (b:=paB) (I:=λk ρ=>∃M w v p,gW n (ts.take k) M/\ρ=[some (.int (n:Int)),some (.tup (ts.map Ay)),some (.lst (Ai M)),w,v,p])
  (ts.map Ay) 0 [some (.int (n:Int)),some (.tup (ts.map Ay)),some (.lst (Ai (List.range n))),none,none,none] ⟨List.range n,none,none,none,by rw[List.take_zero];exact yn5 n,rfl⟩ (λi d ρ j r=>by
   rw[RB]at j;cases u:ts[i]? with
   |none=>rw[u]at j;cases j
   |some e =>
    rw[u]at j;cases j;rw[UG]at r ⊢;obtain⟨M,w,v,p,c,rfl⟩:=r;have he:=h e (WR u);obtain⟨Y,Q⟩:=wy7 (o0:=some (.int (n:Int))) (o1:=some (.tup (ts.map Ay))) (o5:=p) (M:=M) (a:=e.1) (b:=e.2) (by rw[c.1];omega) (by rw[c.1];omega) (by rw[c.1];omega);refine⟨_,_,rfl,.inl Q,_,_,_,_,?_,rfl⟩;rw[iZ,u];exact wx2 c (by omega) (by omega))
 obtain⟨M,w,v,p,c,rfl⟩:=r;rw[GQ,UG,mU]at c;have E:=range_list (n:=n) (by omega);refine Am (Ao (Ah (d:=.lst (Ai (List.range n))) (by simp[Aa,E])) (Ao (Gp (ds:=ts.map Ay) (by simp[Aa]) P) (An ?_)));have hs:K5 [.lst (Ai M)]=some (M.map λ(x:Nat)=>(x:Int)):=by show(if(Ai M).length<64 then Bj (Ai M) else none)=_;rw[if_pos (by rw[Bb,c.1];omega),Sg]
 have hc:(Oi (M.map λ(x:Nat)=>(x:Int))).length=cc n ts:=by
  rw[<-wi1 (L:=(Oi (M.map λ(x:Nat)=>(x:Int))).map Int.toNat) G c ?_ λz=>?_,GQ]
  ·unfold List.Nodup;rw[i_];refine List.Pairwise.imp_of_mem (λ{x y} B Z A z=>A ?_) (G9 _);grind [I_.mp,Gm]
  ·rw[I_];constructor
   ·rintro⟨k,J,rfl⟩;obtain⟨U,B,rfl⟩:=I_.mp ((Gm k _).mp J);simpa using B
   ·intro F;exact⟨(z:Int),(Gm _ _).mpr (I_.mpr ⟨z,F,rfl⟩),by simp⟩
 have O:Ua [.lst (Ai M)]=some (.int (cc n ts:Nat)):=by unfold Ua;simp_all
 simp[O]
def Bm(m:Nat):List (List Nat):=(List.range (2 ^ m)).map (bits m)
theorem jb2(m:Nat):Bm (m+1)=Bm m++(Bm m).map (·++[m]):=by unfold Bm;rw[show 2 ^ (m+1)=2 ^ m+2 ^ m by rw[l_];lia,jHn,N_,KQ,KQ];rw[SJ λk c=>ki9 (MT.mp c)];refine congrArg _ (SJ λk c=>ki8 (MT.mp c))
def Qy(m:Nat):(Bm m).length=2 ^ m:=by unfold Bm;rw[GQ,WQ]
theorem ji9(h:s∈Bm m):s.length<=m/\∀k∈s,k<m:=by unfold Bm at h;obtain⟨k,_,rfl⟩:=I_.mp h;unfold bits;grind
def jb3:Bm 0=[[]]:=by decide
theorem kg2(m:Nat):∃r,Bm m=[]::r:=by
 induction m with
 |zero=>exact⟨[],jb3⟩
 |succ m c=>grind [jb2]
theorem jw1{g j:Type}{f:g->j}:∀{l:List j}{m:List g},l.Perm (m.map f)->∃c:List g,c.Perm m/\l=c.map f
 | [],m,h=>by have:=jGo.mp (List.nil_perm.mp h);subst this;exact⟨[],.nil,rfl⟩
 |b::l,m,h=>by obtain⟨a,p,rfl⟩:=I_.mp (h.mem_iff.mp J_);obtain⟨s,t,rfl⟩:=List.append_of_mem p;have r:(f a::l).Perm (f a::(s++t).map f):=h.trans (by rw[N_,N_,HH];exact tW);obtain⟨c,n,e⟩:=jw1 (List.Perm.cons_inv r);exact⟨a::c,(n.cons a).trans tW.symm,by rw[e];rfl⟩
theorem Vs(s:List Nat):Jd (Ac s)=true:=by show(Bj (Ai s)).isSome=true;rw[Sg];rfl
theorem zo4(n:m<=6):Kh [.lst ((Bm m).map Ac)]=some (.lst (srt ((Bm m).map Ac))):=by
 have h:((Bm m).map Ac).length<2\/cG ((Bm m).map Ac)=true:=by right;obtain⟨r,e⟩:=kg2 m;rw[e];show(r.map Ac).all Jd=true;grind [QL,I_.mp,Vs]
 have g:((Bm m).map Ac).length<64\/((Bm m).map Ac).map keyOf=(List.range 64).map fW:=by
  by_cases j:m<=5
  ·left;rw[GQ,Qy];exact RT (jB (by decide) j) (by decide)
  ·right;rw[show m=6 by lia];rfl
 generalize (Bm m).map Ac=L at *;show(if _ then _ else _)=_;rw[if_pos ⟨g,h⟩];by_cases c:L.length<2
 ·rw[if_pos c,jj1 c]
 ·rw[if_neg c]
theorem wh1{a b:List Nat}(h1:Hc (Ac a) (Ac b)=true)(c:Hc (Ac b) (Ac a)=true):Ac a=Ac b:=by unfold Hc at h1 c;rw[ZP]at h1 c;exact jw8 (Vs a) (Vs b) (Fv _ _ c h1)
theorem kw6(m:Nat):∃c:List (List Nat),c.Perm (Bm m)/\srt ((Bm m).map Ac)=c.map Ac/\∀p:List Nat->Bool,(c.filter p).map Ac=srt (((Bm m).filter p).map Ac):=by obtain⟨c,h,e⟩:=jw1 (f:=Ac) (Ek ((Bm m).map Ac));refine⟨c,h,e,λp=>?_⟩;have g:=El ((Bm m).map Ac);rw[e,i_]at g;refine eq_of_sorted (le:=λa b=>Hc a b=true) (((h.filter p).map Ac).trans (Ek _).symm) (i_.mpr (g.filter p)) (El _) λa n b j u r=>?_;grind [I_.mp,wh1]
def asB:Ev->R Fl:=asg 1 (b2 (gv 1) (Ci (itS (gv 1)) 1 [2] (gN 0) yes (b2 (gv 0) (bA (zv (gv 1) a0) Gz) Az)) Az)
theorem wr0(h:i<=6):asB [o0,some (.lst ((Bm i).map Ac)),some (.int (i:Int))]=.ok (.nx [o0,some (.lst ((Bm (i+1)).map Ac)),some (.int (i:Int))]):=by
 have r:2 ^ i<=64:=jB (n:=2) (by decide) h;have c:Ci (itS (gv 1)) 1 [2] (gN 0) yes (b2 (gv 0) (bA (zv (gv 1) a0) Gz) Az) [o0,some (.lst ((Bm i).map Ac)),some (.int (i:Int))]=.ok (.lst ((Bm i).map λs=>Ac (s++[i]))):=by refine Cj (ds:=(Bm i).map Ac) (by generalize (Bm i).map Ac=L;simp) ?_ (by rw[GQ,Qy];lia);refine Gj (Bm i) λs g=>?_;have p:=(ji9 g).1;have j:Az (Ac s) (.tup [.int (i:Int)])=some (Ac (s++[i])):=(Yw (by rw[Bb];simp;lia)).trans (by unfold Ac Ai;rw[N_];rfl);generalize Ac (s++[i])=u,Ac s=v at *;simp[Et,Fx,j]
 have e:Az (.lst ((Bm i).map Ac)) (.lst ((Bm i).map λs=>Ac (s++[i])))=some (.lst ((Bm (i+1)).map Ac)):=(U9 (by rw[GQ,GQ,Qy];lia)).trans (by rw[jb2,N_,KQ];rfl);generalize (Bm i).map Ac=A,(Bm (i+1)).map Ac=w,((Bm i).map λs=>Ac (s++[i]))=L2 at *;refine Ah ?_;simp_all
theorem yb4{n:Nat}{ts:Af}(A:ts.length<=6):R5 [Aj n ts]=.ok (.lst (srt ((Bm ts.length).map Ac))):=by
 have E:=all_eq n ts (by lia);have sz:=zo4 A;obtain⟨v,C,e⟩:=Ei (g:=gN 2) (b:=asB) (I:=λj ρ=>j<=ts.length->∃p,ρ=[some (Aj n ts),some (.lst ((Bm j).map Ac)),p])
  (Ai (List.range ts.length)) 0 [some (Aj n ts),some (.lst [Ac []]),none] (λ_=>⟨none,by rw[jb3];rfl⟩) (λi d ρ c e=>by
   rw[Hh]at c;cases r:(List.range ts.length)[i]? with
   |none=>rw[r]at c;cases c
   |some k =>
    rw[r]at c;cases c;obtain⟨B,u⟩:=NB.mp r;simp at u B;subst u;rw[UG]at e ⊢;obtain⟨p,rfl⟩:=e (by lia);exact⟨_,_,Yy,.inl (wr0 (by lia)),λ_=>⟨_,rfl⟩⟩)
 rw[Bb,WQ,UG]at e;obtain⟨p,rfl⟩:=e (GX _);have w:D.tup []=Ac []:=rfl;have h:Jy (Ac (List.range ts.length))=some (Ai (List.range ts.length)):=rfl;generalize Ai (List.range ts.length)=F,Ac (List.range ts.length)=G at *;generalize (Bm ts.length).map Ac=L at *;generalize srt L=J,Aj n ts=W at *;refine Am (Ao (Ah (d:=.lst [Ac []]) (by simp[Fx,Lk,w])) (Ao (Gp (ds:=F) (by simp[Aa,E,h]) C) (An (by simp[sz]))))
def isF(n:Nat)(ts:Af)(s:List Nat):Bool:=decide (((s.length:Nat):Int)=(n:Int) - (cc n ts:Nat)) && decide ((n:Int) - (cc n (Fz ts s):Nat)=(n:Int) - (cc n ts:Nat))
def kv7(ts:Af):Fz ts (List.range ts.length)=ts:=by
 unfold Fz;apply aZ
 ·simp
 ·intro i e c;simp[c]
def wh3(s:List Nat):Cv [Ac s]=some (.int (s.length:Nat)):=by show some (D.int _)=_;rw[Bb]
theorem wv3{n:Nat}{ts:Af}{L:List (List Nat)}{it:Ev->R (List D)}{caps:List Nat}{d:List D->R D}(h:it ρ=.ok (L.map Ac))(p:Et 1 caps ρ=[none,some (.int ((n:Int) - (cc n ts:Nat))),some (Aj n ts)])(j:∀s∈L,d [Aj n ts,Ac s]=.ok (.int ((n:Int) - (cc n (Fz ts s):Nat))))(A:L.length<=100000):
  Ci it 1 caps (gN 0) (tan (tb (b2 (bA (zv (gv 0) a0) Cv) (gv 1) eqD)) (tb (b2 (cl (zv (gv 2) (zv (gv 0) a0)) d) (gv 1) eqD))) (gv 0) ρ=.ok (.lst ((L.filter (isF n ts)).map Ac)):=by
 refine Cj h ?_ (by rw[GQ];exact QG (fK _ _) (by lia));rw[p];refine U4 L λs g=>⟨?_,by simp⟩;have e:=j s g;have c:=wh3 s;unfold isF;generalize Ac s=B,Aj n ts=W at *;generalize (n:Int) - (cc n ts:Nat)=w at *;generalize (n:Int) - (cc n (Fz ts s):Nat)=v at *;generalize r:((s.length:Nat):Int)=u at *;by_cases z:u=w
 ·simp[e,c,pF,z]
 ·simp[e,c,pF,z]
def vZ{n:Nat}{ts:Af}(c:n<=60)(h:∀e∈ts,e.1<=e.2/\e.2<n)(hs:∀k∈s,k<ts.length):M5 [Aj n ts,Ac s]=.ok (.int ((n:Int) - (cc n (Fz ts s):Nat))):=Ni c h hs
theorem kc3{n:Nat}{ts:Af}(C:n<=50)(v:ts.length<=6)(h:∀e∈ts,e.1<=e.2/\e.2<n):Ql [Aj n ts]=.ok (.lst (srt (((Bm ts.length).filter (isF n ts)).map Ac))):=by
 have B:=all_eq n ts (by lia);have r:=vZ (n:=n) (ts:=ts) (s:=List.range ts.length) (by lia) h λk A=>MT.mp A;rw[kv7]at r;have p:=yb4 (n:=n) v;obtain⟨j,u,e,k⟩:=kw6 ts.length;rw[e]at p;have g:j.length<=100000:=by rw[u.length_eq,Qy];exact QG (jB (by lia) v) (by decide)
 have c:=wv3 (n:=n) (ts:=ts) (L:=j) (it:=itS (cl (zv (gv 0) a0) R5)) (caps:=[1,0]) (ρ:=[some (Aj n ts),some (.int ((n:Int) - (cc n ts:Nat)))]) (d:=M5) (by
  generalize j.map Ac=F,Aj n ts=W at *;simp[p]) rfl (λs w=>vZ (by lia) h (ji9 (u.mem_iff.mp w)).2) g
 rw[k]at c;generalize srt (((Bm ts.length).filter (isF n ts)).map Ac)=SS,Ac (List.range ts.length)=E,Aj n ts=W at *;refine Am (Ao (Ah (d:=.int ((n:Int) - (cc n ts:Nat))) (by simp[Aa,B,r])) (An c))
open PD L2 PySem PySem.W PyProof.Rows
def dz(m:Nat):List Nat:=(cJ 10 m).map Char.toNat
def nz(z:Int):List Nat:=if z<0 then 45::dz z.natAbs else dz z.natAbs
def U7{c:Nat}(h:c∈dz m):48<=c/\c<=57:=by obtain⟨ch,e,rfl⟩:=I_.mp h;exact digit_range (Nat.isDigit_of_mem_toDigits (by decide) (by decide) e)
theorem pG(m:Nat):dz m≠[]:=λe=>by have h:=toDigits_len_ge 10 m;rw[jGo.mp e]at h;simp_all
theorem qP:∀(k m:Nat),m<10 ^ (k+1)->(dz m).length<=k+1
 |0,m,h=>by unfold dz;rw[m6 h];simp
 |k+1,m,h=>by
  by_cases g:m<10
  ·unfold dz;rw[m6 g];simp
  ·have c:m % 10<10:=lX m (by decide);have t:cJ 10 (m / 10)++cJ 10 (m % 10)=cJ 10 (10 * (m / 10)+m % 10):=jEv (by decide) (by omega) c;rw[jHj]at t;have e:=qP k (m / 10) (by rw[l_]at h;omega);unfold dz at e ⊢;rw[<-t,N_,YK,m6 c];simp_all
def Mq(l:List Nat):(tx l).cps.toList=l:=by simp[tx]
def zh9{s:BR}(h:s.cps.toList=l):s=tx l:=by subst h;rfl
theorem yo2(z:Int):Str.ofString (toString z)=tx (nz z):=by
 refine zh9 ?_;unfold nz;by_cases h:z<0
 ·rw[if_pos h];obtain⟨m,rfl⟩:∃m:Nat,z = -((m:Nat):Int):=⟨z.natAbs,by omega⟩;have c:0<m:=by omega
  obtain⟨k,rfl⟩:∃k,m=k+1:=⟨m - 1,by omega⟩;rw[signs_ofString];show("-" ++ Nat.repr (k+1)).toList.map Char.toNat=_;rw[String.toList_append,N_,Nat.toList_repr,Int.natAbs_neg,uD];rfl
 ·rw[if_neg h];obtain⟨m,rfl⟩:=Int.eq_ofNat_of_zero_le (by omega:0<=z);rw[KIN.signs_num,uD];rfl
theorem yo1(h:(nz z).length<=4000):PySem.intText? (tx (nz z))=some z:=by
 have e:=Dm (nz z);unfold nz at h e ⊢;by_cases j:z<0
 ·rw[if_pos j]at h e ⊢;rw[intText_neg (Mq _) (λc g=>U7 g) (pG _) (by rw[e];omega)];unfold dz;grind [KIN.val_back]
 ·rw[if_neg j]at h e ⊢;rw[intText_digits (by rw[Mq];exact λc g=>U7 g) (by rw[Mq];exact pG _) (by rw[e];omega),Mq];unfold dz;grind [KIN.val_back]
theorem lL{k:Nat}(h:z.natAbs<10 ^ (k+1)):(nz z).length<=k+2:=by have:=qP k z.natAbs h;unfold nz;grind
def qD{c:Nat}(h:c∈nz z):c=45\/48<=c/\c<=57:=by
 unfold nz at h;by_cases g:z<0
 ·rw[if_pos g]at h;rcases JN.mp h with e |h
  ·exact .inl e
  ·exact .inr (U7 h)
 ·rw[if_neg g]at h;exact .inr (U7 h)
theorem wA(z:Int):nz z≠[]:=by unfold nz;grind [pG]
abbrev Fit(z:Int):Prop:=z.natAbs<2 ^ 650
def Fit.len(h:Fit z):(nz z).length<=202:=lL (k:=200) (ZF h (by decide +kernel))
theorem Vw(h:Fit z):Oj [.int z]=some (.str (tx (nz z))):=by
 show(if z.natAbs.log2<1920 then some (D.str (Str.ofString (toString z))) else none)=_;rw[if_pos,yo2];by_cases c:z.natAbs=0
 ·rw[c];decide
 ·have:=(tO c).mpr h;omega
theorem qI(h:Fit z):ZW [.str (tx (nz z))]=some (.int z):=by have c:=h.len;show(if(tx (nz z)).length<=640/\(PySem.intText? (tx (nz z))).isSome=true then some (D.int ((PySem.intText? (tx (nz z))).getD 0)) else none)=_;grind [yo1,Dm]
theorem kz5(z:Int):allIn (tx (nz z)) "-0123456789" = true:=by
 unfold allIn;rw[M_,decide_eq_true_eq,Dm,Mq];refine⟨mW.mpr (wA z),QL.mpr λc g=>?_⟩;have h:c=45\/c=48\/c=49\/c=50\/c=51\/c=52\/c=53\/c=54\/c=55\/c=56\/c=57:=by have:=qD g;omega
 have e:(Str.ofString "-0123456789").cps = #[45,48,49,50,51,52,53,54,55,56,57]:=by decide +kernel
 simp_all
def pD(z:Int×Int):D:=.tup [.int z.1,.int z.2]
def dN:List Nat:=[48,49,50,51,52,53,54,55,56,57]
def zl3:("0123456789" : PySem.Str)=tx dN:=by decide +kernel
def blank:(" " : PySem.Str)=tx [32]:=by decide +kernel
theorem colon:(":" : PySem.Str)=tx [58]:=by decide +kernel
theorem dash:("-" : PySem.Str)=tx [45]:=by decide +kernel
def fig(c:Nat):Bool:=decide (c∈dN)
theorem wt8{c:Nat}(h:fig c=true):∃k,k<10/\c=48+k:=by have h:c∈dN:=of_decide_eq_true h;simp only[dN,JN,iY,or_false]at h;exact⟨c - 48,by omega,by omega⟩
theorem X4{k:Nat}(h:k<10):fig (48+k)=true:=by apply decide_eq_true;simp only[dN,JN,iY,or_false];omega
def eG(w:List Nat):Bool:=match w with
 | [a,b]=>fig a && decide (b=58)
 |_=>false
def Pz(w:List Nat):Bool:=match w with
 | [a,b,c]=>fig a && (decide (b=45) && fig c)
 |_=>false
def lN(c:Nat):inS (.str (tx [c])) (.str "0123456789")=some (.bl (fig c)):=by rw[zl3];exact yz6 c dN
theorem p_{c:Nat}(h:c<128):∀x∈[c],x<128:=λx e=>by rw[PX.mp e];exact h
theorem wd5{c:Nat}(h:c<128):eqD (.str (tx [c])) (.str ":")=some (.bl (decide (c=58))):=by simp_all [colon,wQ,p_]
theorem wt7{c:Nat}(h:c<128):eqD (.str (tx [c])) (.str "-")=some (.bl (decide (c=45))):=by simp_all [dash,wQ,p_]
variable {w:List Nat}
theorem yo0(u:∀c∈w,c<128)(j:w.length<=10000):Jj [.str (tx w)]=.ok (.bl (eG w)):=by
 have g:=qF j;by_cases p:w.length=2
 ·match w,p with
  | [a,b],_ =>
   have n:ixD (.str (tx [a,b])) (.int 0)=some (.str (tx [a])):=T7 (i:=0) j rfl;have r:ixD (.str (tx [a,b])) (.int 1)=some (.str (tx [b])):=T7 (i:=1) j rfl;have f:=lN a;have c:=wd5 (u b (by simp));have e:(([a,b]:List Nat).length:Int)=2:=rfl;rw[e]at g;unfold eG;generalize D.str (tx [a,b])=W,D.str (tx [a])=A,D.str (tx [b])=B at *;refine Am (An ?_);cases h:fig a with
   |true=>rw[h]at f;simp[Aa,g,n,r,f,c,h]
   |false=>rw[h]at f;simp[Aa,g,n,f,h]
 ·have e:eG w=false:=by
   unfold eG;split
   ·simp at p
   ·rfl
  rw[e];have v:¬ ((w.length:Int)=2):=by lia
  generalize D.str (tx w)=W at *;exact Am (An (by simp[Aa,g,v]))
theorem yt1(E:∀c∈w,c<128)(j:w.length<=10000):G5 [.str (tx w)]=.ok (.bl (Pz w)):=by
 have g:=qF j;by_cases u:w.length=3
 ·match w,u with
  | [a,b,c],_ =>
   have p:ixD (.str (tx [a,b,c])) (.int 0)=some (.str (tx [a])):=T7 (i:=0) j rfl;have r:ixD (.str (tx [a,b,c])) (.int 1)=some (.str (tx [b])):=T7 (i:=1) j rfl;have v:ixD (.str (tx [a,b,c])) (.int 2)=some (.str (tx [c])):=T7 (i:=2) j rfl;have f:=lN a;have G:=lN c;have d:=wt7 (E b (by simp));have e:(([a,b,c]:List Nat).length:Int)=3:=rfl;rw[e]at g;unfold Pz;generalize D.str (tx [a,b,c])=W,D.str (tx [a])=A,D.str (tx [b])=B,D.str (tx [c])=C at *;refine Am (An ?_);cases h:fig a with
   |true =>
    rw[h]at f;by_cases n:b=45
    ·rw[decide_eq_true n]at d;simp[Aa,g,p,r,v,f,d,G,h,n]
    ·rw[decide_eq_false n]at d;simp[Aa,g,p,r,f,d,h,n]
   |false=>rw[h]at f;simp[Aa,g,p,f,h]
 ·have e:Pz w=false:=by
   unfold Pz;split
   ·simp at u
   ·rfl
  rw[e];have F:¬ ((w.length:Int)=3):=by lia
  generalize D.str (tx w)=W at *;exact Am (An (by simp[Aa,g,F]))
def fU(w:List Nat):Int×Int:=(((w.getD 0 48 - 48:Nat):Int),((w.getD 2 48 - 48:Nat):Int))
theorem kk9{c:Nat}(h:fig c=true):ZW [.str (tx [c])]=some (.int ((c - 48:Nat):Int)):=by grind [wt8,yV]
theorem K6{c:Nat}:∀{l w:List Nat},w∈spl c l->w.length<=l.length
 | [],w,h=>by rw[spl,PX]at h;rw[h];exact GX _
 |y::l,w,h=>by
  rw[spl]at h;rw[PQ];split at h
  ·rcases JN.mp h with rfl |h
   ·simp
   ·have:=K6 h;omega
  ·cases e:spl c l with
   |nil=>exact absurd e (iJ c l)
   |cons v g =>
    rw[e]at h;rcases JN.mp h with rfl |h
    ·have:=K6 (l:=l) (w:=v) (by rw[e];exact J_);simp_all
    ·have:=K6 (l:=l) (w:=w) (by rw[e];exact JB _ h);omega
theorem Q0{c:Nat}:∀l:List Nat,(spl c l).length<=l.length+1
 | []=>by simp[spl]
 |y::l=>by have e:=Q0 (c:=c) l;rw[spl,PQ];grind
structure Tok(l:List Nat):Prop where
 asc:∀c∈l,c<128
 len:l.length<=5000
def Wok(w:List Nat):Prop:=(∀c∈w,c<128)/\w.length<=5000
def Tok.words(h:Tok l):∀w∈spl 32 l,Wok w:=λw e=>⟨λc g=>h.asc c (Xy e c g),QG (K6 e) h.len⟩
theorem wo1(h:Pz w=true):∃a c,w=[a,45,c]/\fig a=true/\fig c=true:=by unfold Pz at h;grind
theorem yD(x:D)(xs:List D):slA (.lst (x::xs)) (some 1) none=some (.lst xs):=by show some (D.lst (PD.cutD (x::xs) (some ((1:Nat):Int)) none))=_;unfold PD.cutD;rw[HT.K4,HT.Ke,PQ,show min 1 (xs.length+1)=1 by omega];simp
def bad(n:Int)(z:Int×Int):Bool:=decide (z.1<0) || (decide (z.2<z.1) ||decide (n<=z.2))
theorem ks6(n:Int)(z:Int×Int):Ys [pD z,.int n]=.ok (.bl !bad n z):=by
 obtain⟨a,b⟩:=z;have e:ixD (pD (a,b)) (.int 0)=some (.int a):=Gn;have c:ixD (pD (a,b)) (.int 1)=some (.int b):=Ka;have r:gA "tuple" (pD (a,b))=some (.bl true):=rfl;have p:Cv [pD (a,b)]=some (.int 2):=rfl;generalize pD (a,b)=Z at *;refine Am (skf (by simp[Aa,r,p]) (An ?_));unfold ch3 bad;by_cases g:a<0
 ·simp[Aa,e,c,g,show ¬ (0:Int)<=a by lia]
 ·by_cases h:b<a
  ·simp[Aa,e,c,g,show(0:Int)<=a by lia,h,show ¬ a<=b by lia]
  ·by_cases j:n<=b
   ·simp[Aa,e,c,g,show(0:Int)<=a by lia,h,show a<=b by lia,j,show ¬ b<n by lia]
   ·simp[Aa,e,c,g,show(0:Int)<=a by lia,h,show a<=b by lia,j,show b<n by lia]
theorem ya6{n m:Int}(h:1<=n)(g:n<=6)(c:¬ 9<m):G7 [.int n,.int m]=.ok .non:=by
 have e:Eu (Aa 2 [.int n,.int m])=.ok (.nx (Aa 2 [.int n,.int m])):=by refine skf ?_ ((W9 (by simp[Aa,c])).trans rfl);rw[vC,jP];unfold ch;simp[Aa,h,g]
 show Bh 2 Eu _=_;simp_all
def wbB:Ev->R Fl:=(ifS (nt (tt (cl (zv (gv 3) (zv (gv 0) a0)) Ys))) never nop)
theorem yd3{n:Int}{z:Int×Int}{Z:D}(c:bad n z=false):wbB [some (.int n),some Z,o2,some (pD z)]=.ok (.nx [some (.int n),some Z,o2,some (pD z)]):=by have e:=ks6 n z;rw[c]at e;generalize pD z=P at *;exact(W9 (by simp[e])).trans rfl
def nW(n:Int)(zs:List (Int×Int)):D:=.tup [.int n,.tup (zs.map pD)]
def ci(ts:Af):List (Int×Int):=ts.map λe=>((e.1:Int),(e.2:Int))
def yu5(n:Nat)(ts:Af):nW (n:Int) (ci ts)=Aj n ts:=by unfold nW Aj ci;rw[KQ];rfl
theorem wp6{n:Int}{zs:List (Int×Int)}(h1:1<=n)(F:n<=6)(E:¬ 9<(zs.length:Int))(B:∀z∈zs,bad n z=false):jt0 [.int n,.lst (zs.map pD)]=.ok (nW n zs):=by
 have v:Cv [.lst (zs.map pD)]=some (.int (zs.length:Int)):=by show some (D.int _)=_;rw[GQ]
 have u:=ya6 h1 F E;obtain⟨r,G,j,h,rfl⟩:=Ei (g:=gT [2,3]) (b:=wbB) (I:=λ_ ρ=>∃j h,ρ=[some (.int n),some (.lst (zs.map pD)),j,h]) (Ky (zs.map pD)) 0 [some (.int n),some (.lst (zs.map pD)),none,none] ⟨_,_,rfl⟩ (λi d ρ c C=>by
  obtain⟨j,h,rfl⟩:=C;have c:((List.range (zs.map pD).length).zipWith (λ(i:Nat) d=>D.tup [.int (i:Int),d]) (zs.map pD))[i]? = some d:=c;rw[jGb]at c;rw[RB]at c;cases p:zs[i]? with
  |none=>rw[p]at c;cases e:(List.range (zs.map pD).length)[i]? <;> rw[e]at c<;>cases c
  |some z =>
   rw[p]at c;cases e:(List.range (zs.map pD).length)[i]? with
   |none=>rw[e]at c;cases c
   |some k =>
    rw[e]at c;cases c;exact⟨[some (.int n),some (.lst (zs.map pD)),some (.int (k:Int)),some (pD z)],_,by simp,.inl (yd3 (B z (WR p))),_,_,rfl⟩)
 have v1:drp (cl (zv (gv 0) (zv (bA (zv (gv 1) a0) Cv) a0)) G7) (Aa 4 [.int n,.lst (zs.map pD)])=.ok (.nx [some (.int n),some (.lst (zs.map pD)),none,none]):=by generalize zs.map pD=Z at *;simp[Aa,v,u]
 have A:fZ (gv 1) [some (.int n),some (.lst (zs.map pD)),none,none]=.ok (Ky (zs.map pD)):=zE rfl;refine Am (Ao v1 (Ao (Gp A G) (An ?_)));rfl
def rwB:Ev->R Fl:=(ifS (nt (tt (cl (zv (gv 2) a0) G5))) never nop)
theorem kn2:∀(ws:List (List Nat))(o0 o1 o2:Option D),(∀w∈ws,Wok w)->ws.all Pz=true->∃g,Fy (txs ws) (gN 2) rwB [o0,o1,o2]=.ok (.nx [o0,o1,g])
 | [],o0,o1,o2,_,_=>⟨o2,rfl⟩
 |w::ws,o0,o1,o2,h,c=>by rw[ZG,M_]at c;have e:=h w J_;have t:=yt1 e.1 (by have:=e.2;omega);have n:txs (w::ws)=.str (tx w)::txs ws:=rfl;rw[c.1]at t;rw[n,Fy,Yy,R.ok_bind];simp only[uC,uB];generalize D.str (tx w)=W at *;have b:rwB [o0,o1,some W]=.ok (.nx [o0,o1,some W]):=(W9 (by simp[t])).trans rfl;rw[b];exact kn2 ws o0 o1 (some W) (λx j=>h x (JB _ j)) c.2
theorem km7:∀(ws:List (List Nat)),ws.all Pz=true->Df (gN 0) yes (bA (zv (bA (zv (b2 (gv 0) (kd (.int 0)) ixD) a0) ZW) (zv (bA (zv (b2 (gv 0) (kd (.int 2)) ixD) a0) ZW) a0)) Gz) [none] (txs ws)=.ok ((ws.map fU).map pD)
 | [],_=>rfl
 |w::ws,h=>by
  rw[ZG,M_]at h;have n:=km7 ws h.2;obtain⟨a,c,rfl,v,u⟩:=wo1 h.1;have e:([a,45,c]:List Nat).length<=10000:=by simp
  have r:ixD (.str (tx [a,45,c])) (.int 0)=some (.str (tx [a])):=T7 (i:=0) e rfl;have p:ixD (.str (tx [a,45,c])) (.int 2)=some (.str (tx [c])):=T7 (i:=2) e rfl;have j:=kk9 v;have g:=kk9 u;have E:Gz [.int ((a - 48:Nat):Int),.int ((c - 48:Nat):Int)]=some (pD (fU [a,45,c])):=Fx (by simp);have B:txs ([a,45,c]::ws)=.str (tx [a,45,c])::txs ws:=rfl;rw[B,Df,n,HH,HH];generalize D.str (tx [a,45,c])=W,D.str (tx [a])=A,D.str (tx [c])=C,pD (fU [a,45,c])=P at *;simp[yes,r,p,j,g,E]
def nw(n:Nat):List Nat:=[48+n,58]
def tw(e:Nat×Nat):List Nat:=[48+e.1,45,48+e.2]
def gd(n:Nat)(ts:Af):List Nat:=jn 32 (nw n::ts.map tw)
def zb5{n:Nat}(h:n<10):eG (nw n)=true:=by unfold eG nw;simp[X4 h]
def zh8{e:Nat×Nat}(h1:e.1<10)(c:e.2<10):Pz (tw e)=true:=by unfold Pz tw;simp[X4 h1,X4 c]
theorem yc9(e:Nat×Nat):fU (tw e)=((e.1:Int),(e.2:Int)):=by show(((48+e.1 - 48:Nat):Int),((48+e.2 - 48:Nat):Int))=_;lia
theorem yR{c:Nat}{ws:List (List Nat)}{x:Nat}(h:x∈jn c ws):x=c\/∃w∈ws,x∈w:=by
 cases ws with
 |nil=>cases h
 |cons w ws=>rw[Xp]at h;grind
theorem yt3(ts:Af):tot (ts.map tw)=4 * ts.length:=by
 induction ts with
 |nil=>rfl
 |cons e ts c=>unfold tot at c ⊢;rw[HH,HH,RP,c,PQ];show 3+1+_=_;omega
def xU(n:Nat)(ts:Af):tot (nw n::ts.map tw)=3+4 * ts.length:=by have:=yt3 ts;unfold tot at this ⊢;rw[HH,RP,this];rfl
structure Sm(n:Nat)(ts:Af):Prop where
 n:n<10
 len:ts.length<=9
 tie:∀e∈ts,e.1<10/\e.2<10
theorem kJ{n:Nat}{ts:Af}(h:Wb n ts):Sm n ts:=⟨by have:=h.n6;omega,h.l9,λe c=>by have:=h.tie e c;have:=h.n6;omega⟩
theorem ym0{n:Nat}{ts:Af}(h:Sm n ts){x:Nat}(c:x∈gd n ts):x=32\/45<=x/\x<59:=by
 rcases yR c with rfl | ⟨w,g,c⟩
 ·exact .inl rfl
 ·have:=h.n;rcases JN.mp g with rfl |g
  ·simp[nw]at c;omega
  ·obtain⟨e,j,rfl⟩:=I_.mp g;have:=h.tie e j;simp[tw]at c;omega
theorem qK{n:Nat}{ts:Af}(h:Sm n ts):(∀x∈gd n ts,x<128)/\(gd n ts).length<=39:=by refine⟨λx e=>by have:=ym0 h e;omega,?_⟩;have a:=yS 32 (nw n::ts.map tw);have b:=xU n ts;have c:=h.len;show(jn 32 (nw n::ts.map tw)).length<=39;omega
theorem ym1{n:Nat}{ts:Af}(h:Sm n ts):spl 32 (gd n ts)=nw n::ts.map tw:=pX (by simp) λw c g=>by
 have:=h.n;rcases JN.mp c with rfl |c
 ·simp[nw]at g;omega
 ·obtain⟨e,j,rfl⟩:=I_.mp c;have:=h.tie e j;simp[tw]at g;omega
theorem kw0{n:Nat}{ts:Af}(h:Wb n ts):M6 [.str (tx (gd n ts))]=.ok (Aj n ts):=by
 have s:=kJ h;have t:=qK s;have Q:=h.l9;have A:(ts.map tw).all Pz=true:=QL.mpr λw u=>by obtain⟨e,p,rfl⟩:=I_.mp u;exact zh8 (s.tie e p).1 (s.tie e p).2
 have J:(ts.map tw).map fU=ci ts:=by unfold ci;rw[KQ];exact SJ λe _=>yc9 e
 have B:=wp6 (n:=(n:Int)) (zs:=ci ts) (by have:=h.n1;omega) (by have:=h.n6;omega) (by unfold ci;rw[GQ];omega) (λz G=>by
  obtain⟨e,p,rfl⟩:=I_.mp G;have:=h.tie e p;unfold bad;simp;omega)
 rw[yu5]at B;have j:=ym1 s;have r:∀w∈ts.map tw,Wok w:=λw u=>Tok.words (l:=gd n ts) ⟨t.1,by omega⟩ w (by rw[j];exact JB _ u);generalize P:gd n ts=l at *;have v:aO (gv 0) (kd (.str " ")) [some (.str (tx l)),none,none]=.ok (.lst (txs (spl 32 l))):=qL (c:=32) rfl (by rw[aQ,blank]) t.1 (by decide) (by omega) (by have:=Q0 (c:=32) l;omega);rw[j]at v;have F:ixD (.lst (txs (nw n::ts.map tw))) (.int 0)=some (.str (tx (nw n))):=Nx (i:=0) rfl;have g:nw n=[48+n,58]:=rfl;have ne_:=yo0 (w:=nw n) (by rw[g];have:=s.n;intro c I;simp at I;omega) (by rw[g];simp);rw[zb5 s.n]at ne_;have C:slA (.lst (txs (nw n::ts.map tw))) (some 1) none=some (.lst (txs (ts.map tw))):=yD _ _;obtain⟨E,e⟩:=kn2 (ts.map tw) (some (.str (tx l))) (some (.lst (txs (nw n::ts.map tw)))) none r A;have O:ixD (.str (tx (nw n))) (.int 0)=some (.str (tx [48+n])):=T7 (i:=0) (by rw[g];simp) rfl;have M:=yV s.n;have U:Ci (itS (bS (gv 1) (p1 (kd (.int 1))) p0 slA)) 1 [] (gN 0) yes (bA (zv (bA (zv (b2 (gv 0) (kd (.int 0)) ixD) a0) ZW) (zv (bA (zv (b2 (gv 0) (kd (.int 2)) ixD) a0) ZW) a0)) Gz) [some (.str (tx l)),some (.lst (txs (nw n::ts.map tw))),E]=.ok (.lst ((ci ts).map pD)):=by rw[<-J];refine Cj (ds:=txs (ts.map tw)) ?_ (km7 _ A) (by rw[GQ,GQ,GQ];omega);simp_all
 generalize (ci ts).map pD=Z at *;generalize txs (nw n::ts.map tw)=Y at *;generalize txs (ts.map tw)=L,D.str (tx (nw n))=W,Aj n ts=WD at *;refine Am (Ao ((Ah v).trans rfl) (skf (by simp[F,ne_]) (Ao (Gp (ds:=L) (by simp[C]) e) (An ?_))));simp_all
theorem Tg{e:Type}{enc:e->D}{out:e->D}{g:D->Ev->R Ev}{f:Ev->R D}{ρ:Ev}:∀(l:List e),(∀a∈l,∃c,g (enc a) ρ=.ok c/\f c=.ok (out a))->Df g yes f ρ (l.map enc)=.ok (l.map out)
 | [],_=>rfl
 |a::l,h=>by obtain⟨c,p,n⟩:=h a J_;rw[HH,Df,p];simp[yes,n,Tg l λx j=>h x (JB _ j)]
def yu0(ts:Af):txs (ts.map tw)=ts.map λe=>D.str (tx (tw e)):=by unfold txs;rw[KQ];rfl
theorem yj9{n:Nat}{ts:Af}(h:Sm n ts):dJ (kd (.str " ")) (b2 (bA (zv (b2 (bA (zv (b2 (gv 0) (kd (.int 0)) ixD) a0) Oj) (kd (.str ":")) Az) a0) Ub) (Ci (itS (b2 (gv 0) (kd (.int 1)) ixD)) 2 [] (gT [0,1]) yes (b2 (b2 (bA (zv (gv 0) a0) Oj) (kd (.str "-")) Az) (bA (zv (gv 1) a0) Oj) Az)) Az) [some (Aj n ts)]=.ok (.str (tx (gd n ts))):=by
 have r:ixD (Aj n ts) (.int 0)=some (.int (n:Int)):=Gn;have p:ixD (Aj n ts) (.int 1)=some (.tup (ts.map Ay)):=Ka;have c:=Tg (enc:=Ay) (out:=λe=>D.str (tx (tw e))) (g:=gT [0,1]) (f:=b2 (b2 (bA (zv (gv 0) a0) Oj) (kd (.str "-")) Az) (bA (zv (gv 1) a0) Oj) Az) (ρ:=[none,none]) ts λe j=>by
  have v:=pW (h.tie e j).1;have u:=pW (h.tie e j).2;have E:Az (.str (tx [48+e.1])) (.str "-")=some (.str (tx [48+e.1,45])):=by rw[dash];exact Ew (by simp)
  have C:Az (.str (tx [48+e.1,45])) (.str (tx [48+e.2]))=some (.str (tx (tw e))):=Ew (by simp);refine⟨[some (.int (e.1:Int)),some (.int (e.2:Int))],by simp[Ay],?_⟩;simp_all
 rw[<-yu0]at c;have A:Ci (itS (b2 (gv 0) (kd (.int 1)) ixD)) 2 [] (gT [0,1]) yes (b2 (b2 (bA (zv (gv 0) a0) Oj) (kd (.str "-")) Az) (bA (zv (gv 1) a0) Oj) Az) [some (Aj n ts)]=.ok (.lst (txs (ts.map tw))):=by refine Cj (ds:=ts.map Ay) ?_ c (by have:=h.len;unfold txs;rw[GQ,GQ];omega);rfl
 have sn:=pW h.n;have an:Az (.str (tx [48+n])) (.str ":")=some (.str (tx (nw n))):=by rw[colon];exact Ew (by simp)
 have B:Az (.lst [.str (tx (nw n))]) (.lst (txs (ts.map tw)))=some (.lst (txs (nw n::ts.map tw))):=by rw[U9 (by have:=h.len;unfold txs;rw[GQ,GQ];simp;omega)];rfl
 refine zB (c:=32) (ws:=nw n::ts.map tw) (by rw[aQ,blank]) ?_ (by rw[xU];have:=h.len;omega);simp_all [gD,D.str,Lk]
def yc5{n:Nat}{ts:Af}(h:Sm n ts):Kw [Aj n ts]=.ok (.str (tx (gd n ts))):=Am (An (yj9 h))
def yj6:∀m<10,0<m->(Nat.digitChar m).toNat≠48:=by decide
theorem wc1(m:Nat)(r:0<m):∃c g,dz m=c::g/\c≠48:=by
 induction m using Nat.strongRecOn with
 |_ m j =>
  by_cases h:m<10
  ·refine⟨_,[],?_,yj6 m h r⟩;unfold dz;rw[m6 h];rfl
  ·have n:m % 10<10:=lX m (by decide);have t:cJ 10 (m / 10)++cJ 10 (m % 10)=cJ 10 (10 * (m / 10)+m % 10):=jEv (by decide) (by omega) n;rw[jHj]at t;obtain⟨c,g,e,p⟩:=j (m / 10) (by omega) (by omega);unfold dz at e ⊢;exact⟨c,_,by rw[<-t,N_,e];rfl,p⟩
theorem yk9{c:Nat}(h:c∈dz m):fig c=true:=by have:=U7 h;obtain⟨k,rfl⟩:∃k,c=48+k:=⟨c - 48,by omega⟩;grind [X4]
theorem zf7(h:gv 0 ρ=.ok (.str (tx l)))(c:l≠[]):swF (gv 0) (kd (.str "-")) ρ=.ok (.bl (decide (l[0]? = some 45))):=by unfold swF;rw[h,R.ok_bind];show(kd (.str "-") ρ).bind _=_;rw[aQ,R.ok_bind];show R.ok (D.bl (decide (0+PySem.Str.length "-"<=(tx l).length) && PySem.Builtin.Str.subAt (tx l) "-" 0))=_;rw[dash,subAt_one,Dm,Dm,decide_eq_true (by have:=mW.mpr c;show 0+1<=_;omega),Bool.true_and]
def wm5(l:List Nat):PD.signs (tx l)=l.map λc=>D.str (tx [c]):=by rfl
theorem T5(h:z.natAbs<10 ^ 9):V8 [.str (tx (nz z))]=.ok (.bl true):=by
 by_cases L:z=0
 ·subst L;rw[show nz 0=[48] by decide];kernel_rfl
 ·have P:(dz z.natAbs).length<=9:=qP 8 _ h;have O:(nz z).length<=10:=lL (k:=8) h;obtain⟨c,Y,p,I⟩:=wc1 z.natAbs (by omega);have n:∀x∈dz z.natAbs,48<=x/\x<=57:=λx g=>U7 g;have j:∀x∈dz z.natAbs,fig x=true:=λx g=>yk9 g;have c0:=n c (by rw[p];exact J_);have Q:1<=(dz z.natAbs).length:=by rw[p];simp
  have v:(ife (tt (swF (gv 0) (kd (.str "-")))) (bS (gv 0) (p1 (kd (.int 1))) p0 slS) (gv 0)) [some (.str (tx (nz z))),none]=.ok (.str (tx (dz z.natAbs))):=by
   have r:=zf7 (ρ:=[some (.str (tx (nz z))),none]) (l:=nz z) rfl (wA z);have M:slS (.str (tx (45::dz z.natAbs))) (some 1) none=some (.str (tx (dz z.natAbs))):=by have:=PD.qQ (45::dz z.natAbs) 1;show(if(R4 _ _ _).length<=16777216 then some (D.str (R4 _ _ _)) else none)=_;grind [Dm]
   unfold nz at r ⊢;by_cases G:z<0
   ·simp_all
   ·rw[if_neg G]at r ⊢;rw[show decide ((dz z.natAbs)[0]? = some 45)=false by rw[p];simp;omega]at r;simp_all
  generalize dz z.natAbs=a at *;have C:=qF (l:=a) (by omega);have U:tb (ch (kd (.int 1)) (bA (zv (gv 1) a0) Cv) (kd (.int 10)) leD leD) [some (.str (tx (nz z))),some (.str (tx a))]=.ok true:=by rw[jP];unfold ch;generalize D.str (tx a)=A at *;simp[C,show(1:Int)<=(a.length:Int) by omega,show(a.length:Int)<=10 by omega]
  have Z:Ci (itT (gv 1)) 1 [] (gN 0) yes (b2 (gv 0) (kd (.str "0123456789")) inS) [some (.str (tx (nz z))),some (.str (tx a))]=.ok (.lst ((a.map λ_=>true).map .bl)):=by
   refine Cj (ds:=a.map λc=>D.str (tx [c])) ?_ ?_ (by simp;omega)
   ·show(if(tx a).cps.all (·< 128)=true then R.ok (PD.signs (tx a)) else .bad)=_;rw[if_pos,wm5];show a.toArray.all (·<128)=true;grind
   ·rw[KQ];refine Gj a λx g=>?_;have e:=lN x;rw[j x g]at e;generalize D.str (tx [x])=X,D.str (PySem.Str.ofString "0123456789")=F at *;simp[Et,e]
  have ab:dZ [.lst ((a.map λ_=>true).map .bl)]=some (.bl true):=by
   rw[lU,show(a.map λ_=>true).all id=true from QL.mpr λb J=>by
    obtain⟨_,_,rfl⟩:=I_.mp J;rfl]
  have E:ixD (.str (tx a)) (.int 0)=some (.str (tx [c])):=T7 (i:=0) (by omega) (by rw[p];rfl);have B:neD (.str (tx [c])) (.str "0")=some (.bl true):=by rw[show("0" : PySem.Str)=tx [48] by decide +kernel,za7 (p_ (by omega)) (by decide)];simp[I]
  generalize (a.map λ_=>true).map D.bl=AL at *;have u:tor (PD.nt (tb (ch (kd (.int 1)) (bA (zv (gv 1) a0) Cv) (kd (.int 10)) leD leD))) (PD.nt (tt (bA (zv (Ci (itT (gv 1)) 1 [] (gN 0) yes (b2 (gv 0) (kd (.str "0123456789")) inS)) a0) dZ))) [some (.str (tx (nz z))),some (.str (tx a))]=.ok false:=by simp_all
  refine Am (Ao ((Ah v).trans rfl) (skf u (An ?_)));simp_all
def kx8(h:z.natAbs<10 ^ 9):Eh [.str "number",.str (tx (nz z))]=.ok (.int z):=by have e:=T5 h;have i:=qI (z:=z) (ZF h (by decide +kernel));refine Am (skf (by kernel_rfl) (skf (by simp[Aa,e]) (skf (by kernel_rfl) (An (by simp[Aa,i])))))
def yd0(c:0<=z)(h:z.natAbs<10 ^ 9):Eh [.str "many",.str (tx (nz z))]=.ok (.int z):=by have e:=T5 h;have i:=qI (z:=z) (ZF h (by decide +kernel));refine Am (skf (by kernel_rfl) (skf (by simp[Aa,e]) (skf ?_ (An (by simp[Aa,i])))));rw[eU,show tb (b2 (gv 0) (kd (.str "many")) eqD) (Aa 2 [.str "many",.str (tx (nz z))])=.ok true from by kernel_rfl,R.ok_bind,if_pos rfl];simp[Aa,i,c]
abbrev Wx:=Nat×Af
abbrev Std:=List (Nat×Wx)
def nmc:Nat->List Nat
 |0=>[97] |1=>[98] |2=>[99] |_=>[]
abbrev nm(i:Nat):PySem.Str:=tx (nmc i)
def yK:∀i<3,∀j<3,nm i=nm j->i=j:=by decide +kernel
def wD(w:Wx):D:=Aj w.1 w.2
def ksD(L:Std):List D:=L.map λx=>.str (nm x.1)
def wsD(L:Std):List D:=L.map λx=>wD x.2
def lk:Std->Nat->Option Wx
 | [],_=>none
 | (j,w)::r,i=>if j=i then some w else lk r i
def pt:Std->Nat->Wx->Std
 | [],i,w=>[(i,w)]
 | (j,u)::r,i,w=>if j=i then(j,w)::r else(j,u)::pt r i w
structure Di(L:Std):Prop where
 ky:∀x∈L,x.1<3
 wb:∀x∈L,Wb x.2.1 x.2.2
 nd:(L.map (·.1)).Nodup
theorem yL{c:Type}[DecidableEq c]:∀{l m:List c},l.Nodup->(∀x∈l,x∈m)->l.length<=m.length
 | [],m,_,_=>RX _
 |a::l,m,h,g=>by obtain⟨n,j⟩:=R_.mp h;have p:=g a J_;have:=yL (l:=l) (m:=m.erase a) j λx e=>(jGi (λ(z:x=a)=>n (z ▸ e))).mpr (g x (JB _ e));grind
def Di.len{L:Std}(h:Di L):L.length<=3:=by
 have g:(L.map (·.1)).length<=(List.range 3).length:=yL h.nd λx e=>by obtain⟨y,c,rfl⟩:=I_.mp e;exact MT.mpr (h.ky y c)
 simpa using g
theorem yO:∀{L:Std}{i:Nat}{w:Wx},lk L i=some w->(i,w)∈L
 | (j,u)::r,i,w,h=>by
  unfold lk at h;by_cases e:j=i
  ·rw[if_pos e]at h;cases h;rw[e];exact J_
  ·rw[if_neg e]at h;exact JB _ (yO h)
def Kc{L:Std}(h:Di L){w:Wx}(e:lk L i=some w):Wb w.1 w.2:=h.wb _ (yO e)
theorem Yu:∀{L:Std}{i:Nat},(∀x∈L,x.1<3)->i<3->Fq (ksD L) (wsD L) (.inr (nm i))=(lk L i).map wD
 | [],_,_,_=>rfl
 | (j,u)::r,i,c,g=>by
  show(if kyO (.str (nm j))=some (.inr (nm i)) then some (wD u) else Fq (ksD r) (wsD r) (.inr (nm i)))=_;unfold lk;by_cases e:j=i
  ·subst e;rw[if_pos (show kyO (.str (nm j))=some (.inr (nm j)) from rfl),if_pos rfl];rfl
  ·have:¬ kyO (.str (nm j))=some (.inr (nm i)):=λz=>e (yK j (c _ J_) i g (by injection (Option.some.inj z)));rw[if_neg this,if_neg e];exact Yu (λx h=>c x (JB _ h)) g
theorem kj8:∀{L:Std}{i:Nat}(w:Wx),(∀x∈L,x.1<3)->i<3->Jk (ksD L) (wsD L) (.inr (nm i)) (wD w)=(ksD (pt L i w),wsD (pt L i w))
 | [],_,_,_,_=>rfl
 | (j,u)::r,i,w,c,g=>by
  show Jk (.str (nm j)::ksD r) (wD u::wsD r) (.inr (nm i)) (wD w)=_;unfold Jk pt;by_cases e:j=i
  ·subst e;rw[if_pos (show kyO (.str (nm j))=some (.inr (nm j)) from rfl),if_pos rfl];rfl
  ·have:¬ kyO (.str (nm j))=some (.inr (nm i)):=λz=>e (yK j (c _ J_) i g (by injection (Option.some.inj z)));rw[if_neg this,if_neg e,kj8 w (λx h=>c x (JB _ h)) g];rfl
theorem lE:∀{L:Std}{i:Nat}{w:Wx}{x:Nat×Wx},x∈pt L i w->x∈L\/x=(i,w)
 | [],_,_,x,h=>.inr (PX.mp h)
 | (j,u)::r,i,w,x,h=>by
  unfold pt at h;by_cases e:j=i
  ·grind
  ·rw[if_neg e]at h;rcases JN.mp h with z |z
   ·simp_all
   ·exact(lE z).imp (JB _) id
def wz8:∀{L:Std}{i:Nat}{w:Wx}{k:Nat},k∈(pt L i w).map (·.1)->k∈L.map (·.1)\/k=i:=λ{L i w k} h=>by
 obtain⟨x,c,rfl⟩:=I_.mp h;rcases lE c with z |z
 ·exact .inl (List.mem_map_of_mem z)
 ·exact .inr (by rw[z])
theorem v7:∀{L:Std}{i:Nat}{w:Wx},(L.map (·.1)).Nodup->((pt L i w).map (·.1)).Nodup
 | [],_,_,_=>by simp[pt]
 | (j,u)::r,i,w,h=>by
  have c:=R_.mp h;unfold pt;by_cases e:j=i
  ·rw[if_pos e];exact h
  ·rw[if_neg e];refine R_.mpr ⟨λz=>?_,v7 c.2⟩;rcases wz8 z with z |z
   ·exact c.1 z
   ·exact e z
theorem Di.pt{L:Std}(h:Di L){w:Wx}(g:i<3)(e:Wb w.1 w.2):Di (pt L i w):=by
 refine⟨λx c=>?_,λx c=>?_,v7 h.nd⟩
 ·rcases lE c with z |z
  ·exact h.ky x z
  ·rw[z];exact g
 ·rcases lE c with z |z
  ·exact h.wb x z
  ·rw[z];exact e
def yn0(L:Std):(ksD L).length=L.length:=GQ ..
inductive Hnd where
 |new (i:Nat) |nam (i:Nat) |num (z:Int) |txt (l:List Nat) |mny (z:Int)
def kvD:Hnd->D
 | .new i=>.tup [.str "new",.str (nm i)]
 | .nam i=>.tup [.str "name",.str (nm i)]
 | .num z=>.tup [.str "number",.int z]
 | .txt l=>.tup [.str "text",.str (tx l)]
 | .mny z=>.tup [.str "many",.int z]
def knd:Hnd->D
 | .new _=>.str "new"
 | .nam _=>.str "name"
 | .num _=>.str "number"
 | .txt _=>.str "text"
 | .mny _=>.str "many"
def raw:Hnd->D
 | .new i=>.str (nm i)
 | .nam i=>.str (nm i)
 | .num z=>.int z
 | .txt l=>.str (tx l)
 | .mny z=>.int z
theorem o_(h:Hnd):kvD h=.tup [knd h,raw h]:=by cases h<;>rfl
def fnd(L:Std):Hnd->Bool
 | .nam i=>(lk L i).isSome
 |_=>true
def vlD(L:Std):Hnd->D
 | .nam i=>((lk L i).map wD).getD .non
 |h=>raw h
def hOk:Hnd->Bool
 | .new i=>decide (i<3)
 | .nam i=>decide (i<3)
 |_=>true
abbrev dkL(c:PySem.Str)(L:Std):D:=.exc c (ksD L) (wsD L)
def kd3:∀i<3,Qm [.str (nm i)]=.ok (.bl true):=λi c=>by
 match i,c with
 |0,_=>kernel_rfl
 |1,_=>kernel_rfl
 |2,_=>kernel_rfl
variable {h:Hnd}
theorem ze5{c:PySem.Str}(B:dkN c=true){L:Std}(r:∀x∈L,x.1<3)(n:hOk h=true)(v:fnd L h=true):Cq [dkL c L,knd h,raw h]=.ok .non:=by
 have A:=Lw B (ksD L) (wsD L);cases h with
 |new i =>
  have e:=kd3 i (of_decide_eq_true n);show Cq [dkL c L,.str "new",.str (nm i)]=.ok .non;have j:tan (tb (b2 (gv 1) (kd (.str "new")) eqD)) (PD.nt (tt (cl (zv (gv 2) a0) Qm))) [some (dkL c L),some (.str "new"),some (.str (nm i))]=.ok false:=by rw[eU,show tb (b2 (gv 1) (kd (.str "new")) eqD) [some (dkL c L),some (.str "new"),some (.str (nm i))]=.ok true from by kernel_rfl,R.ok_bind,if_pos rfl];simp_all
  have g:tan (tb (b2 (gv 1) (kd (.str "name")) eqD)) (tb (b2 (gv 2) (gv 0) fX)) [some (dkL c L),some (.str "new"),some (.str (nm i))]=.ok false:=by rw[eU,show tb (b2 (gv 1) (kd (.str "name")) eqD) [some (dkL c L),some (.str "new"),some (.str (nm i))]=.ok false from by kernel_rfl,R.ok_bind];rfl
  show Bh 3 Dv _=_;rw[qO,show Dv (Aa 3 [dkL c L,.str "new",.str (nm i)])=.ok (.nx (Aa 3 [dkL c L,.str "new",.str (nm i)])) from skf j ((W9 g).trans rfl),zF]
 |nam i =>
  have u:i<3:=of_decide_eq_true n;have C:=Yu r u;have j:tan (tb (b2 (gv 1) (kd (.str "new")) eqD)) (PD.nt (tt (cl (zv (gv 2) a0) Qm))) [some (dkL c L),some (.str "name"),some (.str (nm i))]=.ok false:=by rw[eU,show tb (b2 (gv 1) (kd (.str "new")) eqD) [some (dkL c L),some (.str "name"),some (.str (nm i))]=.ok false from by kernel_rfl,R.ok_bind];rfl
  have nw:fX (.str (nm i)) (dkL c L)=some (.bl false):=by show((kyO (.str (nm i))).bind λk=>(N8 (dkL c L)).map λp=>D.bl (!(Fq p.1 p.2 k).isSome))=_;rw[A];show some (D.bl (!(Fq (ksD L) (wsD L) (.inr (nm i))).isSome))=_;rw[C,uA,show(lk L i).isSome=true from v];rfl
  have g:tan (tb (b2 (gv 1) (kd (.str "name")) eqD)) (tb (b2 (gv 2) (gv 0) fX)) [some (dkL c L),some (.str "name"),some (.str (nm i))]=.ok false:=by rw[eU,show tb (b2 (gv 1) (kd (.str "name")) eqD) [some (dkL c L),some (.str "name"),some (.str (nm i))]=.ok true from by kernel_rfl,R.ok_bind,if_pos rfl];simp_all
  show Bh 3 Dv [dkL c L,.str "name",.str (nm i)]=_;rw[qO,show Dv (Aa 3 [dkL c L,.str "name",.str (nm i)])=.ok (.nx (Aa 3 [dkL c L,.str "name",.str (nm i)])) from skf j ((W9 g).trans rfl),zF]
 |num z=>exact(show Cq [dkL c L,.str "number",.int z]=.ok .non by kernel_rfl)
 |txt l=>exact(show Cq [dkL c L,.str "text",.str (tx l)]=.ok .non by kernel_rfl)
 |mny z=>exact(show Cq [dkL c L,.str "many",.int z]=.ok .non by kernel_rfl)
def lnD(w0:List Nat)(hs:List Hnd):D:=.tup [.str (tx w0),.lst (hs.map kvD)]
variable {c:PySem.Str}{L:Std}
theorem yr0(g:dkN c=true):mtA (gv 0) (zv (gv 5) (zv (gv 6) a0)) [some (dkL c L),o1,o2,o3,o4,some (knd h),some (raw h),o7]=.ok [dkL c L,knd h,raw h]:=by have e:N8 (dkL c L)=some (ksD L,wsD L):=Lw g (ksD L) (wsD L);generalize dkL c L=d at *;simp[mtA,e]
def yr1{o6:Option D}:gT [5,6] (kvD h) [o0,o1,o2,o3,o4,o5,o6,o7]=.ok [o0,o1,o2,o3,o4,some (knd h),some (raw h),o7]:=by rw[o_];rfl
theorem rF(g:dkN c=true)(n:∀x∈L,x.1<3):∀(hs:List Hnd)(o1 o2 o3 o4 o5 o6 o7:Option D),(∀h∈hs,hOk h=true)->hs.all (fnd L)=true ->
  ∃u p,Fy (hs.map kvD) (gT [5,6]) (drp (cl (mtA (gv 0) (zv (gv 5) (zv (gv 6) a0))) Cq)) [some (dkL c L),o1,o2,o3,o4,o5,o6,o7]=.ok (.nx [some (dkL c L),o1,o2,o3,o4,u,p,o7])
 | [],o1,o2,o3,o4,o5,o6,o7,_,_=>⟨o5,o6,rfl⟩
 |h::hs,o1,o2,o3,o4,o5,o6,o7,j,e=>by
  rw[ZG,M_]at e;have v:=rF g n hs o1 o2 o3 o4 (some (knd h)) (some (raw h)) o7 (λx A=>j x (JB _ A)) e.2;have r:=ze5 g n (j h J_) e.1;have b2:drp (cl (mtA (gv 0) (zv (gv 5) (zv (gv 6) a0))) Cq) [some (dkL c L),o1,o2,o3,o4,some (knd h),some (raw h),o7]=.ok (.nx [some (dkL c L),o1,o2,o3,o4,some (knd h),some (raw h),o7]):=by rw[yy1,jQ,yr0 g,R.ok_bind,r];rfl
  rw[HH,Fy,yr1,R.ok_bind,b2];exact v
variable {hs:List Hnd}
theorem zU(u:dkN c=true)(r:∀x∈L,x.1<3)(j:∀h∈hs,hOk h=true)(g:hs.all (fnd L)=true)(A:hs.length<=100){o6:Option D}:
  Ci (itS (gv 4)) 2 [0] (gT [0,1]) yes (ife (tb (b2 (gv 0) (kd (.str "name")) eqD)) (oH (gv 2) (gv 1)) (gv 1)) [some (dkL c L),o1,o2,o3,some (.lst (hs.map kvD)),o5,o6,o7]=.ok (.lst (hs.map (vlD L))):=by
 refine Cj (ds:=hs.map kvD) (by simp[Jy]) ?_ (by rw[GQ];omega);refine Tg hs λh n=>⟨[some (knd h),some (raw h),some (dkL c L)],by rw[o_];rfl,?_⟩;have j:=j h n;have g:=QL.mp g h n;cases h with
 |new i=>rw[iB,show tb (b2 (gv 0) (kd (.str "name")) eqD) [some (knd (.new i)),some (raw (.new i)),some (dkL c L)]=.ok false from by kernel_rfl];rfl
 |num z=>rw[iB,show tb (b2 (gv 0) (kd (.str "name")) eqD) [some (knd (.num z)),some (raw (.num z)),some (dkL c L)]=.ok false from by kernel_rfl];rfl
 |txt l=>rw[iB,show tb (b2 (gv 0) (kd (.str "name")) eqD) [some (knd (.txt l)),some (raw (.txt l)),some (dkL c L)]=.ok false from by kernel_rfl];rfl
 |mny z=>rw[iB,show tb (b2 (gv 0) (kd (.str "name")) eqD) [some (knd (.mny z)),some (raw (.mny z)),some (dkL c L)]=.ok false from by kernel_rfl];rfl
 |nam i =>
  rw[iB,show tb (b2 (gv 0) (kd (.str "name")) eqD) [some (knd (.nam i)),some (raw (.nam i)),some (dkL c L)]=.ok true from by kernel_rfl,R.ok_bind,if_pos rfl];have v:=Yu r (of_decide_eq_true j);show(R.of (N8 (dkL c L))).bind (λp=>R.of ((kyO (.str (nm i))).bind (Fq p.1 p.2)))=_;rw[Lw u,R.of_some,R.ok_bind];show R.of (Fq (ksD L) (wsD L) (.inr (nm i)))=.ok (((lk L i).map wD).getD .non);rw[v];have g:(lk L i).isSome=true:=g;cases e:lk L i with
  |none=>rw[e]at g;cases g
  |some w=>rfl
def Uw(w l:List Nat):List Nat:=[119,101,98,32]++(w++32::l)
def wq0(e:32∉w):spl 32 (Uw w l)=[119,101,98]::w::spl 32 l:=by unfold Uw;rw[show [119,101,98,32]++(w++32::l)=[119,101,98]++32::(w++32::l) from rfl,Xx (by decide),Xx e]
def knW:D:=.tup [.str "new",.str "text"]
def wC(w l:List Nat):D:=.tup [.str (tx [119,101,98]),.lst [.tup [.str "new",.str (tx w)],.tup [.str "text",.str (tx l)]]]
def zf0(x y:D)(xs:List D):slA (.lst (x::y::xs)) (some 1) (some 2)=some (.lst [y]):=by rfl
theorem zo3(x y:D)(xs:List D):slA (.lst (x::y::xs)) (some 2) none=some (.lst xs):=by show some (D.lst (PD.cutD (x::y::xs) (some 2) none))=_;unfold PD.cutD;simp_all [HT.sIx,HT.K4,ZM,D.lst]
theorem zX(c:Nat):∀l:List Nat,tot (spl c l)=l.length+1
 | []=>rfl
 |y::l=>by
  have e:=zX c l;rw[spl,PQ];split
  ·show 0+1+tot (spl c l)=_;omega
  ·cases hs:spl c l with
   |nil=>exact absurd hs (iJ c l)
   |cons v g=>rw[hs]at e;unfold tot at e ⊢;grind
theorem yu3(C:l.length<=2000):J9 [.lst (txs ([119,101,98]::w::spl 32 l)),knW]=.ok (.lst [.str (tx w),.str (tx l)]):=by
 have hs:=iJ 32 l;have p:(tan (tb (b2 (b2 (gv 1) (b1 (kd (.int 1)) b7) ixD) (kd (.str "text")) eqD)) (tb (b2 (bA (zv (gv 0) a0) Cv) (bA (zv (gv 1) a0) Cv) gtD))) [some (.lst (txs ([119,101,98]::w::spl 32 l))),some knW]=.ok true:=by
  have E:1<=(spl 32 l).length:=by
   cases h:spl 32 l with
   |nil=>exact absurd h hs
   |cons a b=>simp
  have j:tb (b2 (b2 (gv 1) (b1 (kd (.int 1)) b7) ixD) (kd (.str "text")) eqD) [some (.lst (txs ([119,101,98]::w::spl 32 l))),some knW]=.ok true:=by kernel_rfl
  have g:tb (b2 (bA (zv (gv 0) a0) Cv) (bA (zv (gv 1) a0) Cv) gtD) [some (.lst (txs ([119,101,98]::w::spl 32 l))),some knW]=.ok true:=by
   have r:Cv [.lst (txs ([119,101,98]::w::spl 32 l))]=some (.int ((spl 32 l).length+2:Nat)):=by rw[zA];congr 2;unfold txs;rw[GQ];rfl
   have e:Cv [knW]=some (.int 2):=by kernel_rfl
   generalize txs ([119,101,98]::w::spl 32 l)=A at *;generalize knW=B at *;simp[r,e];omega
  rw[eU,j];exact g
 have v:=zf0 (.str (tx [119,101,98])) (.str (tx w)) (txs (spl 32 l));have u:=zo3 (.str (tx [119,101,98])) (.str (tx w)) (txs (spl 32 l));have n:dJ (kd (.str " ")) (bS (gv 0) (p1 (bA (zv (gv 1) a0) Cv)) p0 slA) [some (.lst (txs ([119,101,98]::w::spl 32 l))),some knW]=.ok (.str (tx l)):=by
  have:=zB (f1:=kd (.str " ")) (f2:=bS (gv 0) (p1 (bA (zv (gv 1) a0) Cv)) p0 slA) (ρ:=[some (.lst (txs ([119,101,98]::w::spl 32 l))),some knW]) (c:=32) (ws:=spl 32 l) (by rw[aQ,blank]) ?_ (by rw[zX];omega)
  ·rwa [yQ]at this
  ·show bS (gv 0) (p1 (bA (zv (gv 1) a0) Cv)) p0 slA [some (.lst (.str (tx [119,101,98])::.str (tx w)::txs (spl 32 l))),some knW]=_;have e:Cv [knW]=some (.int 2):=by kernel_rfl
   simp_all
 refine Am (skt p (An ?_));show b2 (bS (gv 0) (p1 (kd (.int 1))) (p1 (bA (zv (gv 1) a0) Cv)) slA) (bA (zv (dJ (kd (.str " ")) (bS (gv 0) (p1 (bA (zv (gv 1) a0) Cv)) p0 slA)) a0) Ub) Az [some (.lst (txs ([119,101,98]::w::spl 32 l))),some knW]=_;rw[gD,b8,U8,n];rfl
theorem ww1(u:32∉w)(G:∀c∈w,c<128)(F:∀c∈l,c<128)(r:w.length<=20)(p:l.length<=2000):Be [.str (tx (Uw w l))]=.ok (wC w l):=by
 have asc:∀c∈Uw w l,c<128:=λc g=>by unfold Uw at g;simp only[S_,JN,iY,or_false]at g;grind
 have len:(Uw w l).length<=3000:=by unfold Uw;simp;omega
 have cnt:∀l:List Nat,(spl 32 l).length<=l.length+1:=λl=>Q0 l;have j:aO (gv 0) (kd (.str " ")) [some (.str (tx (Uw w l))),none,none,none]=.ok (.lst (txs (spl 32 (Uw w l)))):=qL (c:=32) rfl (by rw[aQ,blank]) asc (by decide) (by omega) (by have:=cnt (Uw w l);omega);rw[wq0 u]at j;have I:=yu3 (w:=w) (l:=l) p;have C:ixD (.lst (txs ([119,101,98]::w::spl 32 l))) (.int 0)=some (.str (tx [119,101,98])):=Nx (i:=0) rfl;have v:oG FT (.str (tx [119,101,98]))=some (.bl false):=by kernel_rfl
 have B:oJ FT (.str (tx [119,101,98]))=some knW:=by kernel_rfl
 have e:∀A:D,Ci (itZ (zv (gv 2) (zv (gv 3) a0))) 2 [] (gT [0,1]) yes (bA (zv (gv 0) (zv (cl (zv (gv 0) (zv (gv 1) a0)) Eh) a0)) Gz) [some (.str (tx (Uw w l))),some A,some knW,some (.lst [.str (tx w),.str (tx l)])]=.ok (.lst [.tup [.str "new",.str (tx w)],.tup [.str "text",.str (tx l)]]):=λA=>by kernel_rfl
 have n:tb (b2 (bA (zv (gv 3) a0) Cv) (bA (zv (gv 2) a0) Cv) neD) [some (.str (tx (Uw w l))),some (.lst (txs ([119,101,98]::w::spl 32 l))),some knW,some (.lst [.str (tx w),.str (tx l)])]=.ok false:=by kernel_rfl
 have e:=e (.lst (txs ([119,101,98]::w::spl 32 l)));generalize txs ([119,101,98]::w::spl 32 l)=A at *;refine Am (Ao ((Ah j).trans rfl) (skf ?_ (Ao (ρ1:=[some (.str (tx (Uw w l))),some (.lst A),some knW,none]) (Ah (d:=knW) ?_) (Ao (ρ1:=[some (.str (tx (Uw w l))),some (.lst A),some knW,some (.lst [.str (tx w),.str (tx l)])]) (Ah (d:=.lst [.str (tx w),.str (tx l)]) ?_) (skf n (An ?_))))))
 ·simp_all
 ·simp_all
 ·simp_all
 ·rw[b8,U8,U8,e];unfold wC;generalize D.lst [D.tup [D.str (PySem.Str.ofString "new"),D.str (tx w)],D.tup [D.str (PySem.Str.ofString "text"),D.str (tx l)]]=E at *;simp_all [D.str,Fx]
def iI{o:Ev->R D}{ρ1:Ev}{r:R D}(h:q ρ=.ok (.nx ρ1))(e:o ρ1=r):sqT q o ρ=r:=by unfold sqT;rw[h];exact e
def wd:Hnd->List Nat
 | .new i=>nmc i
 | .nam i=>nmc i
 | .num z=>nz z
 | .txt l=>l
 | .mny z=>nz z
def XD:Hnd->Bool
 | .new i=>decide (i<3)
 | .nam i=>decide (i<3)
 | .num z=>decide (z.natAbs<10 ^ 9)
 | .txt _=>false
 | .mny z=>decide (0<=z/\z.natAbs<10 ^ 9)
def Zx:∀i<3,(∀c∈nmc i,c<128)/\32∉nmc i/\(nmc i).length<=10:=by decide +kernel
theorem v_(h:z.natAbs<10 ^ 9):(∀c∈nz z,c<128)/\32∉nz z/\(nz z).length<=10:=⟨λc e=>by have:=qD e;omega,λe=>by have:=qD e;omega,lL (k:=8) h⟩
def j_(e:XD h=true):(∀c∈wd h,c<128)/\32∉wd h/\(wd h).length<=10:=by
 cases h with
 |new i=>exact Zx i (of_decide_eq_true e)
 |nam i=>exact Zx i (of_decide_eq_true e)
 |num z=>exact v_ (of_decide_eq_true e)
 |mny z=>exact v_ (of_decide_eq_true e).2
 |txt l=>cases e
def zi5(e:XD h=true):Eh [knd h,.str (tx (wd h))]=.ok (raw h):=by
 cases h with
 |new i=>exact(show Eh [.str "new",.str (tx (nmc i))]=.ok (.str (tx (nmc i))) by kernel_rfl)
 |nam i=>exact(show Eh [.str "name",.str (tx (nmc i))]=.ok (.str (tx (nmc i))) by kernel_rfl)
 |num z=>exact kx8 (of_decide_eq_true e)
 |mny z=>exact yd0 (of_decide_eq_true e).1 (of_decide_eq_true e).2
 |txt l=>cases e
theorem xT:∀(hs:List Hnd),(∀h∈hs,XD h=true)->(jn 32 (hs.map wd)).length<=11 * hs.length
 | [],_=>by simp[jn]
 | [h],e=>by have:=(j_ (e h J_)).2.2;simp[jn];omega
 |h::n::hs,e=>by have:=(j_ (e h J_)).2.2;have g:=xT (n::hs) λx j=>e x (JB _ j);simp only[HH,jn,YK,PQ]at g ⊢;omega
variable {w0:List Nat}
theorem Kz{h1:Hnd}(n:∀h∈h1::hs,XD h=true)(j:(∀c∈w0,c<128)/\32∉w0/\w0.length<=20:=by decide)(Q:hs.length<=8:=by simp)(C:oG FT (.str (tx w0))=some (.bl false):=by kernel_rfl)(I:oJ FT (.str (tx w0))=some (.tup ((h1::hs).map knd)):=by kernel_rfl)
  (P:J9 [.lst (txs (w0::(h1::hs).map wd)),.tup ((h1::hs).map knd)]=.ok (.lst (txs ((h1::hs).map wd))):=by kernel_rfl)(J:∀E A,itZ (zv (gv 2) (zv (gv 3) a0)) [E,A,some (.tup ((h1::hs).map knd)),some (.lst (txs ((h1::hs).map wd)))]=.ok ((h1::hs).map λh=>.tup [knd h,.str (tx (wd h))]):=by intros;kernel_rfl)
  (G:∀E A,tb (b2 (bA (zv (gv 3) a0) Cv) (bA (zv (gv 2) a0) Cv) neD) [E,A,some (.tup ((h1::hs).map knd)),some (.lst (txs ((h1::hs).map wd)))]=.ok false:=by intros;kernel_rfl):
  Be [.str (tx (jn 32 (w0::(h1::hs).map wd)))]=.ok (lnD w0 (h1::hs)):=by
 have wall:∀w∈w0::(h1::hs).map wd,(∀c∈w,c<128)/\32∉w:=λw g=>by
  rcases JN.mp g with rfl |g
  ·exact⟨j.1,j.2.1⟩
  ·obtain⟨h,p,rfl⟩:=I_.mp g;exact⟨(j_ (n h p)).1,(j_ (n h p)).2.1⟩
 have u:spl 32 (jn 32 (w0::(h1::hs).map wd))=w0::(h1::hs).map wd:=pX (by simp) λw g=>(wall w g).2;have asc:∀c∈jn 32 (w0::(h1::hs).map wd),c<128:=λc M=>by
  rcases yR M with rfl | ⟨w,j,g⟩
  ·decide
  ·exact(wall w j).1 c g
 have len:(jn 32 (w0::(h1::hs).map wd)).length<=200:=by have:=xT (h1::hs) n;simp only[HH,jn,YK,PQ]at this ⊢;lia
 generalize U:jn 32 (w0::(h1::hs).map wd)=row at *;have v:aO (gv 0) (kd (.str " ")) [some (.str (tx row)),none,none,none]=.ok (.lst (txs (spl 32 row))):=qL (c:=32) rfl (by rw[aQ,blank]) asc (by decide) (by omega) (by have:=Q0 (c:=32) row;omega);rw[u]at v;have r:ixD (.lst (txs (w0::(h1::hs).map wd))) (.int 0)=some (.str (tx w0)):=Nx (i:=0) rfl;have O:∀E A,Ci (itZ (zv (gv 2) (zv (gv 3) a0))) 2 [] (gT [0,1]) yes (bA (zv (gv 0) (zv (cl (zv (gv 0) (zv (gv 1) a0)) Eh) a0)) Gz) [E,A,some (.tup ((h1::hs).map knd)),some (.lst (txs ((h1::hs).map wd)))]=.ok (.lst ((h1::hs).map kvD)):=λE A=>by refine Cj (J E A) (Tg (enc:=λh=>.tup [knd h,.str (tx (wd h))]) (out:=kvD) (h1::hs) λh p=>⟨[some (knd h),some (.str (tx (wd h)))],rfl,?_⟩) (by simp;omega);have e:=zi5 (n h p);simp_all [o_,D.str,Fx]
 generalize txs (w0::(h1::hs).map wd)=A at *;generalize txs ((h1::hs).map wd)=B at *;generalize D.tup ((h1::hs).map knd)=K at *;refine Am (Ao ((Ah v).trans rfl) (skf ?_ (Ao (ρ1:=[some (.str (tx row)),some (.lst A),some K,none]) (Ah (d:=K) ?_) (Ao (ρ1:=[some (.str (tx row)),some (.lst A),some K,some (.lst B)]) (Ah (d:=.lst B) ?_) (skf (G _ _) (An ?_))))))
 ·generalize D.str (tx row)=E,D.str (tx w0)=F at *;simp[r,C,Aa]
 ·generalize D.str (tx row)=E,D.str (tx w0)=F at *;simp[r,I,Aa]
 ·simp[P]
 ·rw[b8,U8,U8,O];unfold lnD;generalize D.lst ((h1::hs).map kvD)=E at *;generalize D.str (tx w0)=F at *;simp[r,Fx]
def XC:List Nat:=[119,105,116,104,111,117,116]
def XH:List Nat:=[100,114,97,119,110]
variable {j:Nat}
def ww6{t:Int}(n:i<3)(g:j<3)(e:t.natAbs<1000000000):Be [.str (tx (jn 32 [XC,nmc i,nmc j,nz t]))]=.ok (lnD XC [.new i,.nam j,.num t]):=
 Kz (w0:=XC) (h1:=.new i) (hs:=[.nam j,.num t]) (by simp[XD,n,g,e])
def ww0{t:Int}(n:i<3)(g:j<3)(e:t.natAbs<1000000000):Be [.str (tx (jn 32 [XH,nmc i,nmc j,nz t]))]=.ok (lnD XH [.new i,.nam j,.num t]):=
 Kz (w0:=XH) (h1:=.new i) (hs:=[.nam j,.num t]) (by simp[XD,n,g,e])
def VH:List Nat:=[119,111,114,116,104]
def WM:List Nat:=[102,111,114,101,115,116,115]
def XJ:List Nat:=[99,111,108,111,117,114,115]
def XF:List Nat:=[102,108,111,119,115]
def WL:List Nat:=[114,105,110,103,108,101,115,115]
def WK:List Nat:=[114,111,117,110,100,115]
def ww7(n:i<3)(g:x.natAbs<1000000000)(e:y.natAbs<1000000000):Be [.str (tx (jn 32 [VH,nmc i,nz x,nz y]))]=.ok (lnD VH [.nam i,.num x,.num y]):=
 Kz (w0:=VH) (h1:=.nam i) (hs:=[.num x,.num y]) (by simp[XD,n,g,e])
def ww3(e:i<3):Be [.str (tx (jn 32 [WM,nmc i]))]=.ok (lnD WM [.nam i]):=
 Kz (w0:=WM) (h1:=.nam i) (hs:=[]) (by simp[XD,e])
def ww4(e:i<3):Be [.str (tx (jn 32 [WL,nmc i]))]=.ok (lnD WL [.nam i]):=
 Kz (w0:=WL) (h1:=.nam i) (hs:=[]) (by simp[XD,e])
def ww5(e:i<3):Be [.str (tx (jn 32 [WK,nmc i]))]=.ok (lnD WK [.nam i]):=
 Kz (w0:=WK) (h1:=.nam i) (hs:=[]) (by simp[XD,e])
def wv9(g:i<3)(n:0<=z)(e:z.natAbs<1000000000):Be [.str (tx (jn 32 [XJ,nmc i,nz z]))]=.ok (lnD XJ [.nam i,.mny z]):=
 Kz (w0:=XJ) (h1:=.nam i) (hs:=[.mny z]) (by simp[XD,g,n,e])
def ww2(g:i<3)(e:z.natAbs<1000000000):Be [.str (tx (jn 32 [XF,nmc i,nz z]))]=.ok (lnD XF [.nam i,.num z]):=
 Kz (w0:=XF) (h1:=.nam i) (hs:=[.num z]) (by simp[XD,g,e])
theorem wh4{n:Nat}{ts:Af}(e:i<3)(h:Sm n ts):Be [.str (tx (jn 32 [[119,101,98],nmc i,gd n ts]))]=.ok (lnD [119,101,98] [.new i,.txt (gd n ts)]):=by obtain⟨p,g,r⟩:=Zx i e;obtain⟨q,o⟩:=qK h;exact ww1 (w:=nmc i) (l:=gd n ts) g p q (by omega) (by omega)
variable {v:Int}
section
variable {row w0:List Nat}{hs:List Hnd}
theorem tL(r:dkN c=true)(O:c ≠ "Desk")(n:Di L)(hl:Be [.str (tx row)]=.ok (lnD w0 (.new i::hs)))(p:∀h∈Hnd.new i::hs,hOk h=true)(B:hs.all (fnd L)=true)(hz:hs.length<=50){w:Wx}
  (P:G6 [.str (tx w0),.lst (hs.map (vlD L))]=.ok (wD w)):Ey [dkL c L,.str (tx row)]=.ok (dkL c (pt L i w)):=by
 have Q:i<3:=of_decide_eq_true (p (.new i) J_);have Y:cl (zv (gv 1) a0) Be [some (dkL c L),some (.str (tx row)),none,none,none,none,none,none]=.ok (lnD w0 (.new i::hs)):=by simp_all
 have M:ixD (lnD w0 (.new i::hs)) (.int 0)=some (.str (tx w0)):=Gn;have J:ixD (lnD w0 (.new i::hs)) (.int 1)=some (.lst ((Hnd.new i::hs).map kvD)):=Ka;obtain⟨g,e,G⟩:=rF r n.ky (.new i::hs) (some (.str (tx row))) (some (lnD w0 (.new i::hs))) (some (.str (tx w0))) (some (.lst ((Hnd.new i::hs).map kvD))) none none none p B;have C:=zU (c:=c) (L:=L) r n.ky p B (by simp;omega) (o1:=some (.str (tx row))) (o2:=some (lnD w0 (.new i::hs))) (o3:=some (.str (tx w0))) (o5:=g) (o6:=e) (o7:=none);have E:tb (b2 (b2 (b2 (gv 4) (kd (.int 0)) ixD) (kd (.int 0)) ixD) (kd (.str "new")) eqD) [some (dkL c L),some (.str (tx row)),some (lnD w0 (.new i::hs)),some (.str (tx w0)),some (.lst ((Hnd.new i::hs).map kvD)),g,e,some (.lst ((Hnd.new i::hs).map (vlD L)))]=.ok true:=by
  have ae:ixD (.lst ((Hnd.new i::hs).map kvD)) (.int 0)=some (kvD (.new i)):=qN;have ab:ixD (kvD (.new i)) (.int 0)=some (.str "new"):=Gn;have aa:eqD (.str "new") (.str "new")=some (.bl true):=by kernel_rfl
  simp_all
 have s1:slA (.lst ((Hnd.new i::hs).map (vlD L))) (some 1) none=some (.lst (hs.map (vlD L))):=yD _ _;have k0:ixD (.lst ((Hnd.new i::hs).map (vlD L))) (.int 0)=some (.str (nm i)):=qN;have U:lO (Aa 8 [dkL c L,.str (tx row)])=.ok (dkL c (pt L i w)):=by
  have u:ifT (tb (b2 (b2 (b2 (gv 4) (kd (.int 0)) ixD) (kd (.int 0)) ixD) (kd (.str "new")) eqD)) (puS 0 (b2 (gv 7) (kd (.int 0)) ixD) (cl (zv (gv 3) (zv (bS (gv 7) (p1 (kd (.int 1))) p0 slA) a0)) G6)) [some (dkL c L),some (.str (tx row)),some (lnD w0 (.new i::hs)),some (.str (tx w0)),some (.lst ((Hnd.new i::hs).map kvD)),g,e,some (.lst ((Hnd.new i::hs).map (vlD L)))]=.ok (dkL c (pt L i w)):=by
   show(R.nox _).bind _=_;rw[E,R.nox_ok,R.ok_bind,if_pos rfl];have Z:(zv (gv 3) (zv (bS (gv 7) (p1 (kd (.int 1))) p0 slA) a0)) [some (dkL c L),some (.str (tx row)),some (lnD w0 (.new i::hs)),some (.str (tx w0)),some (.lst ((Hnd.new i::hs).map kvD)),g,e,some (.lst ((Hnd.new i::hs).map (vlD L)))]=.ok [.str (tx w0),.lst (hs.map (vlD L))]:=by simp_all
   have I:b2 (gv 7) (kd (.int 0)) ixD [some (dkL c L),some (.str (tx row)),some (lnD w0 (.new i::hs)),some (.str (tx w0)),some (.lst ((Hnd.new i::hs).map kvD)),g,e,some (.lst ((Hnd.new i::hs).map (vlD L)))]=.ok (.str (nm i)):=by simp_all
   have F:=kj8 w n.ky Q;unfold puS;rw[jQ,Z,R.ok_bind,P,R.nox_ok,R.nox_ok,R.ok_bind,wL (d:=dkL c L) rfl,R.ok_bind];show(if dkN c=true/\c ≠ "Desk" then _ else _)=_;rw[if_pos ⟨r,O⟩,I,R.nox_ok,R.ok_bind,if_pos (by rw[yn0];have:=n.len;omega)];show R.ok (D.exc c (Jk (ksD L) (wsD L) (.inr (nm i)) (wD w)).1 (Jk (ksD L) (wsD L) (.inr (nm i)) (wD w)).2)=_;rw[F]
  generalize lnD w0 (.new i::hs)=ln at *;generalize D.str (tx w0)=W0 at *;generalize (Hnd.new i::hs).map kvD=A at *;exact iI ((Ah Y).trans rfl) (iI (Ah (d:=W0) (by simp[M])) (iI (Ah (d:=.lst A) (by simp[J])) (iI (Gp (ds:=A) (by simp[Jy]) G) (iI ((Ah C).trans rfl) u))))
 show(lO (Aa 8 [dkL c L,.str (tx row)])).bind _=_;rw[U,R.ok_bind];exact if_pos rfl
theorem yb1(r:dkN c=true)(u:Di L)(hl:Be [.str (tx row)]=.ok (lnD w0 (.nam i::hs)))(n:∀h∈Hnd.nam i::hs,hOk h=true)(p:(Hnd.nam i::hs).all (fnd L)=true)(Z:hs.length<=50){v:D}
  (J:Tj [.str (tx w0),.lst ((Hnd.nam i::hs).map (vlD L))]=.ok v):pI [dkL c L,.str (tx row)]=.ok v:=by
 have M:cl (zv (gv 1) a0) Be [some (dkL c L),some (.str (tx row)),none,none,none,none,none,none]=.ok (lnD w0 (.nam i::hs)):=by simp_all
 have I:ixD (lnD w0 (.nam i::hs)) (.int 0)=some (.str (tx w0)):=Gn;have G:ixD (lnD w0 (.nam i::hs)) (.int 1)=some (.lst ((Hnd.nam i::hs).map kvD)):=Ka;obtain⟨g,e,F⟩:=rF r u.ky (.nam i::hs) (some (.str (tx row))) (some (lnD w0 (.nam i::hs))) (some (.str (tx w0))) (some (.lst ((Hnd.nam i::hs).map kvD))) none none none n p;have C:=zU (c:=c) (L:=L) r u.ky n p (by simp;omega) (o1:=some (.str (tx row))) (o2:=some (lnD w0 (.nam i::hs))) (o3:=some (.str (tx w0))) (o5:=g) (o6:=e) (o7:=none);have E:tb (b2 (b2 (b2 (gv 4) (kd (.int 0)) ixD) (kd (.int 0)) ixD) (kd (.str "new")) eqD) [some (dkL c L),some (.str (tx row)),some (lnD w0 (.nam i::hs)),some (.str (tx w0)),some (.lst ((Hnd.nam i::hs).map kvD)),g,e,some (.lst ((Hnd.nam i::hs).map (vlD L)))]=.ok false:=by
  have Q:ixD (.lst ((Hnd.nam i::hs).map kvD)) (.int 0)=some (kvD (.nam i)):=qN;have P:ixD (kvD (.nam i)) (.int 0)=some (.str "name"):=Gn;have O:eqD (.str "name") (.str "new")=some (.bl false):=by kernel_rfl
  simp_all
 generalize lnD w0 (.nam i::hs)=Y at *;generalize D.str (tx w0)=U at *;generalize (Hnd.nam i::hs).map kvD=A at *;generalize (Hnd.nam i::hs).map (vlD L)=B at *;refine Am (Ao ((Ah M).trans rfl) (Ao (Ah (d:=U) (by simp[I])) (Ao (Ah (d:=.lst A) (by simp[G])) (Ao (Gp (ds:=A) (by simp[Jy]) F) (Ao ((Ah C).trans rfl) (skf E (An ?_)))))));simp[J]
theorem yi0(p:dkN c=true)(e:Fit v)(h:pI [dkL c L,.str (tx row)]=.ok (.str (tx (nz v)))):Ba [dkL c L,.str (tx row)]=.ok (.int v):=by
 have n:N8 (dkL c L)=some (ksD L,wsD L):=Lw p (ksD L) (wsD L);have i:=qI e;have A:gA "str" (.str (tx (nz v)))=some (.bl true):=by kernel_rfl
 have u:oA (gv 2) (kd (.str "-0123456789")) [some (dkL c L),some (.str (tx row)),some (.str (tx (nz v)))]=.ok (.str ""):=by show(R.ok (D.str (tx (nz v)))).bind _=_;rw[R.ok_bind];show(R.ok (D.str "-0123456789")).bind _=_;rw[R.ok_bind];show(if allIn (tx (nz v)) "-0123456789" = true/\(tx (nz v)).length<=10000 then R.ok (D.str "") else .bad)=_;rw[if_pos ⟨kz5 v,by rw[Dm];have:=e.len;omega⟩]
 have g:tor (PD.nt (tt (b1 (gv 2) (gA "str")))) (tb (b2 (oA (gv 2) (kd (.str "-0123456789"))) (kd (.str "")) neD)) [some (dkL c L),some (.str (tx row)),some (.str (tx (nz v)))]=.ok false:=by
  have nn:neD (.str "") (.str "")=some (.bl false):=by kernel_rfl
  simp_all
 generalize dkL c L=K,D.str (tx (nz v))=V,D.str (tx row)=r at *;refine Am (Ao (ρ1:=[some K,some r,some V]) (Ah (d:=V) (by simp[Aa,mtA,n,h])) (skf g (An (by simp[i]))))
end
def b01(p:Bool):Int:=if p=true then 1 else 0
def f0(n:Nat)(E A:Af):Int:=b01 (decide (n=A.length+cc n A) && decide (cc n A=cc n E))
theorem xV{n:Nat}{ts A:Af}(e:InW n ts)(g:A∈subs ts):term n ts 0 0 A=f0 n ts A/\term n ts 1 1 A=1:=by
 have r:=Ym n A (tG e g);have p:cc n ts<=cc n A:=kj2 e (Hy ts A g);unfold term f0 b01;refine⟨?_,?_⟩
 ·rw[v8,v8];lia
 ·lia
def sums{n:Nat}{ts:Af}(e:InW n ts){f:Af->Int}{u:Int}(h:∀A∈subs ts,term n ts u v A=f A):((List.range (2 ^ ts.length)).map λk=>f (Fz ts (bits ts.length k))).sum=SS n ts u v:=by rw[masks ts.length ts rfl f];exact(Cu h).symm
theorem jy4:∀l:List Nat,(l.map λ_=>(1:Int)).sum=(l.length:Int)
 | []=>rfl
 |a::l=>by rw[HH,RP,jy4 l,PQ];lia
def zi9{n:Nat}{ts:Af}(e:InW n ts):SS n ts 1 1=2 ^ ts.length:=by
 rw[<-sums (f:=λ_=>1) e λA g=>(xV e g).2,jy4,WQ]
 norm_cast
theorem kk0{e:Type}(p:e->Bool):∀l:List e,((l.filter p).length:Int)=(l.map λa=>b01 (p a)).sum
 | []=>rfl
 |a::l=>by
  rw[tY,HH,RP,<-kk0 p l];cases h:p a with
  |true=>rw[if_pos rfl,PQ];unfold b01;rw[if_pos rfl];lia
  |false=>rw[if_neg (by decide)];unfold b01;rw[if_neg (by decide)];lia
def kv6(ts:Af)(s:List Nat):(Fz ts s).length=s.length:=by unfold Fz;rw[GQ]
theorem kr7{n:Nat}{ts:Af}(e:InW n ts):(((Bm ts.length).filter (isF n ts)).length:Int)=SS n ts 0 0:=by rw[kk0,<-sums (f:=f0 n ts) e λA g=>(xV e g).1];unfold Bm;rw[KQ];refine congrArg List.sum (SJ λk _=>?_);show b01 (isF n ts (bits ts.length k))=f0 n ts (Fz ts (bits ts.length k));unfold f0 isF;rw[kv6];have r:cc n ts<=n:=Yn n ts;have p:cc n (Fz ts (bits ts.length k))<=n:=Yn n _;generalize cc n (Fz ts (bits ts.length k))=u,cc n ts=v,(bits ts.length k).length=l at *;congr 1;lia
theorem ju0{n:Nat}{ts:Af}(w:Wb n ts)(e:ts.length<=6):∃X,Ql [Aj n ts]=.ok (.lst X)/\Cv [.lst X]=some (.int (SS n ts 0 0)):=by refine⟨_,kc3 (by have:=w.n6;lia) e w.tie,?_⟩;rw[zA,(Ek _).length_eq,GQ,kr7 (J2 w.tie)]
def oE{n:Nat}(e:x.natAbs<=1048576)(g:n<=9):(x ^ n).natAbs<=1048576 ^ 9:=by rw[Int.natAbs_pow];exact QG (jGn e n) (jB (by decide) g)
def yv7:55 * (1099511627776 * 1048576 ^ 9 * 1048576 ^ 9)<2 ^ 420:=by decide +kernel
theorem Em{n:Nat}{ts:Af}(w:Wb n ts)(E:x.natAbs<=1048576)(C:y.natAbs<=1048576):(SS n ts (x - 1) (y - 1)).natAbs<2 ^ 420:=by have p:=w.l9;obtain⟨T,e,u,F⟩:=table_eq 12 (by lia) p w.n1 (by have:=w.n6;lia) w.tie;rw[<-u];refine RT (rB (B:=1099511627776 * 1048576 ^ 9 * 1048576 ^ 9) λz A=>?_) (RT (uG _ (by rw[GQ];exact e.few)) yv7);obtain⟨r,g,rfl⟩:=I_.mp A;have G:=e.pos r g;have hs:=G4.sml p e r g;unfold val;rw[fD,fD];exact fC (fC (by lia) (oE E (by lia))) (oE C (by lia))
def lR(h:z.natAbs<2 ^ 420):Fit z:=ZF h (by decide +kernel)
theorem pA{S x:D}(h:xs[i]? = some x):b2 (gv 1) (kd (.int (i:Int))) ixD [some S,some (.lst xs)]=.ok x:=by simp_all [Nx,gD,aQ,R.ok_bind]
def zm3{S x:D}:b2 (gv 1) (kd (.int 0)) ixD [some S,some (.lst (x::xs))]=.ok x:=pA (i:=0) rfl
def zm4{S x y:D}:b2 (gv 1) (kd (.int 1)) ixD [some S,some (.lst (x::y::xs))]=.ok y:=pA (i:=1) rfl
def zm5{S x y z:D}:b2 (gv 1) (kd (.int 2)) ixD [some S,some (.lst (x::y::z::xs))]=.ok z:=pA (i:=2) rfl
variable {ts:Af}{n:Nat}
theorem zb4(w:Wb n ts)(p:x.natAbs<=1048576)(g:y.natAbs<=1048576):By [.str (tx VH),.lst [Aj n ts,.int x,.int y]]=.ok (.int (SS n ts (x - 1) (y - 1))):=by obtain⟨u,r,e,_,_⟩:=Ut w.l9 w.n1 (by have:=w.n6;lia) w.tie;have e:=e x y (by lia) (by lia);refine Am (skt (by kernel_rfl) (An ?_));show cl (zv (cl (zv (b2 (gv 1) (kd (.int 0)) ixD) a0) R6) (zv (b2 (gv 1) (kd (.int 1)) ixD) (zv (b2 (gv 1) (kd (.int 2)) ixD) a0))) Xl [some (.str (tx VH)),some (.lst [Aj n ts,.int x,.int y])]=_;rw[jQ,U8,U8,U8,zm4,zm5,jQ,U8,zm3];simp_all
theorem zb1(w:Wb n ts)(e:ts.length<=6):By [.str (tx WM),.lst [Aj n ts]]=.ok (.int (SS n ts 0 0)):=by obtain⟨X,p,g⟩:=ju0 w e;refine Am (skf (by kernel_rfl) (skt (by kernel_rfl) (An ?_)));show bA (zv (cl (zv (b2 (gv 1) (kd (.int 0)) ixD) a0) Ql) a0) Cv [some (.str (tx WM)),some (.lst [Aj n ts])]=_;simp_all
theorem za9(w:Wb n ts)(g:K.natAbs<=1048576):By [.str (tx XJ),.lst [Aj n ts,.int K]]=.ok (.int (Pc n ts K)):=by have e:=ka9 w (K:=K) (by lia);refine Am (skf (by kernel_rfl) (skf (by kernel_rfl) (skt (by kernel_rfl) (An ?_))));show cl (zv (b2 (gv 1) (kd (.int 0)) ixD) (zv (b2 (gv 1) (kd (.int 1)) ixD) a0)) Jb [some (.str (tx XJ)),some (.lst [Aj n ts,.int K])]=_;simp_all
theorem zb0(w:Wb n ts)(h1:1<=K)(g:K.natAbs<=1048576):By [.str (tx XF),.lst [Aj n ts,.int K]]=.ok (.int (Flw n ts K)):=by have e:=we0 w (H:=K) h1 (by lia);refine Am (skf (by kernel_rfl) (skf (by kernel_rfl) (skf (by kernel_rfl) (skt (by kernel_rfl) (An ?_)))));show cl (zv (b2 (gv 1) (kd (.int 0)) ixD) (zv (b2 (gv 1) (kd (.int 1)) ixD) a0)) La [some (.str (tx XF)),some (.lst [Aj n ts,.int K])]=_;simp_all
theorem ze4(w:Wb n ts):G8 [Aj n ts]=.ok (.int (SS n ts 1 (-1))):=by obtain⟨p,g,e,_,_⟩:=Ut w.l9 w.n1 (by have:=w.n6;lia) w.tie;have e:=e 2 0 (by decide) (by decide);rw[show(2:Int) - 1=1 by decide,show(0:Int) - 1 = -1 by decide]at e;generalize Aj n ts=W at *;exact Am (An (by simp[Aa,g,e]))
theorem ze6(w:Wb n ts):J8 [Aj n ts]=.ok (.int (SS n ts (-1) 1)):=by obtain⟨p,g,e,_,_⟩:=Ut w.l9 w.n1 (by have:=w.n6;lia) w.tie;have e:=e 0 2 (by decide) (by decide);rw[show(2:Int) - 1=1 by decide,show(0:Int) - 1 = -1 by decide]at e;generalize Aj n ts=W at *;exact Am (An (by simp[Aa,g,e]))
theorem zb2(w:Wb n ts):By [.str (tx WL),.lst [Aj n ts]]=.ok (.int (SS n ts 1 (-1))):=by have e:=ze4 w;refine Am (skf (by kernel_rfl) (skf (by kernel_rfl) (skf (by kernel_rfl) (skf (by kernel_rfl) (skt (by kernel_rfl) (An ?_))))));show cl (zv (b2 (gv 1) (kd (.int 0)) ixD) a0) G8 [some (.str (tx WL)),some (.lst [Aj n ts])]=_;simp_all
theorem zb3(w:Wb n ts):By [.str (tx WK),.lst [Aj n ts]]=.ok (.int (SS n ts (-1) 1)):=by have e:=ze6 w;refine Am (skf (by kernel_rfl) (skf (by kernel_rfl) (skf (by kernel_rfl) (skf (by kernel_rfl) (skf (by kernel_rfl) (An ?_))))));show cl (zv (b2 (gv 1) (kd (.int 0)) ixD) a0) J8 [some (.str (tx WK)),some (.lst [Aj n ts])]=_;simp_all
section
variable {w:Wx}
theorem U3{vs:D}(e:Fit v)(h:By [.str (tx w0),vs]=.ok (.int v))(h1:tb (b2 (gv 0) (kd (.str "show")) eqD) [some (.str (tx w0)),some vs]=.ok false:=by kernel_rfl)(r:tb (b2 (gv 0) (kd (.str "table")) eqD) [some (.str (tx w0)),some vs]=.ok false:=by kernel_rfl)
  (p:tb (b2 (gv 0) (kd (.str "same")) eqD) [some (.str (tx w0)),some vs]=.ok false:=by kernel_rfl)(g:tb (b2 (gv 0) (kd (.str "fewest")) eqD) [some (.str (tx w0)),some vs]=.ok false:=by kernel_rfl):Tj [.str (tx w0),vs]=.ok (.str (tx (nz v))):=by
 have s:=Vw e;refine Am (skf h1 (skf r (skf p (skf g (An ?_)))));show bA (zv (cl (zv (gv 0) (zv (gv 1) a0)) By) a0) Oj [some (.str (tx w0)),some vs]=_;generalize D.str (tx w0)=u,D.str (tx (nz v))=V at *;simp[h,s]
def nn:Hnd->Bool
 | .num _=>true
 | .mny _=>true
 |_=>false
def Qk{row:List Nat}(u:dkN c=true)(F:Di L)(E:i<3)(r:lk L i=some w)(G:Fit v)(C:Be [.str (tx row)]=.ok (lnD w0 (.nam i::hs)))(A:hs.length<=50)(p:∀h∈hs,nn h=true)(B:Tj [.str (tx w0),.lst (Aj w.1 w.2::hs.map raw)]=.ok (.str (tx (nz v)))):Ba [dkL c L,.str (tx row)]=.ok (.int v):=by
 refine yi0 u G (yb1 u F C (λh g=>?_) (QL.mpr λh g=>?_) A ?_)
 ·rcases JN.mp g with rfl |g
  ·exact decide_eq_true E
  ·have:=p h g;cases h<;>first |rfl |cases this
 ·rcases JN.mp g with rfl |g
  ·show(lk L i).isSome=true;rw[r];rfl
  ·have:=p h g;cases h<;>first |rfl |cases this
 ·have e:(Hnd.nam i::hs).map (vlD L)=Aj w.1 w.2::hs.map raw:=by
   rw[HH];congr 1
   ·show((lk L i).map wD).getD .non=_;rw[r];rfl
   ·refine SJ λh g=>?_;have:=p h g;cases h<;>first |rfl |cases this
  rw[e];exact B
theorem yi2(B:dkN c=true)(g:Di L)(u:i<3)(e:lk L i=some w)(r:x.natAbs<=1048576)(p:y.natAbs<=1048576):Ba [dkL c L,.str (tx (jn 32 [VH,nmc i,nz x,nz y]))]=.ok (.int (SS w.1 w.2 (x - 1) (y - 1))):=
 have A:=lR (Em (Kc g e) r p)
 Qk B g u e A (ww7 u (by lia) (by lia)) (by simp) (by simp[nn]) (U3 A (zb4 (Kc g e) r p))
theorem zO(u:dkN c=true)(g:Di L)(p:i<3)(e:lk L i=some w)(A:w.2.length<=6):Ba [dkL c L,.str (tx (jn 32 [WM,nmc i]))]=.ok (.int (SS w.1 w.2 0 0)):=
 have r:Fit (SS w.1 w.2 0 0):=lR (Em (Kc g e) (x:=1) (y:=1) (by decide) (by decide))
 Qk u g p e r (ww3 p) (by simp) (by simp) (U3 r (zb1 (Kc g e) A))
theorem zN(u:dkN c=true)(g:Di L)(p:i<3)(e:lk L i=some w):Ba [dkL c L,.str (tx (jn 32 [WL,nmc i]))]=.ok (.int (SS w.1 w.2 1 (-1))):=
 have r:Fit (SS w.1 w.2 1 (-1)):=lR (Em (Kc g e) (x:=2) (y:=0) (by decide) (by decide))
 Qk u g p e r (ww4 p) (by simp) (by simp) (U3 r (zb2 (Kc g e)))
theorem zM(u:dkN c=true)(g:Di L)(p:i<3)(e:lk L i=some w):Ba [dkL c L,.str (tx (jn 32 [WK,nmc i]))]=.ok (.int (SS w.1 w.2 (-1) 1)):=
 have r:Fit (SS w.1 w.2 (-1) 1):=lR (Em (Kc g e) (x:=0) (y:=2) (by decide) (by decide))
 Qk u g p e r (ww5 p) (by simp) (by simp) (U3 r (zb3 (Kc g e)))
theorem yF(k:Nat)(z:Int):(sg k * z).natAbs=z.natAbs:=by
 unfold sg;by_cases h:k % 2=0
 ·rw[if_pos h];lia
 ·rw[if_neg h];lia
theorem yh9(B:dkN c=true)(r:Di L)(p:i<3)(g:lk L i=some w)(E:0<=K)(F:K.natAbs<=1000000):Ba [dkL c L,.str (tx (jn 32 [XJ,nmc i,nz K]))]=.ok (.int (Pc w.1 w.2 K)):=by
 have e:=Kc r g;have A:Fit (Pc w.1 w.2 K):=by show(Pc w.1 w.2 K).natAbs<2 ^ 650;unfold Pc;rw[yF,fD];have u:=Em e (x:=1 - K) (y:=0) (by lia) (by decide);rw[show(1 - K - 1:Int) = -K by lia,show(0 - 1:Int) = -1 by decide]at u;have C:=oE (x:=K) (n:=cc w.1 w.2) (by lia) (QG (Yn _ _) (by have:=e.n6;lia));exact RT (fC C (aA u)) (by decide +kernel)
 exact Qk B r p g A (wv9 p E (by lia)) (by simp) (by simp[nn]) (U3 A (za9 e (by lia)))
theorem yi1(A:dkN c=true)(r:Di L)(p:i<3)(g:lk L i=some w)(B:1<=K)(C:K.natAbs<=1000000):Ba [dkL c L,.str (tx (jn 32 [XF,nmc i,nz K]))]=.ok (.int (Flw w.1 w.2 K)):=by
 have e:=Kc r g;have u:Fit (Flw w.1 w.2 K):=by show(Flw w.1 w.2 K).natAbs<2 ^ 650;unfold Flw;rw[yF];have E:=Em e (x:=0) (y:=1 - K) (by decide) (by lia);lia
 exact Qk A r p g u (ww2 p (by lia)) (by simp) (by simp[nn]) (U3 u (zb0 e B (by lia)))
def g_(h:z.natAbs<=1048576):Fit z:=RT h (by decide +kernel)
theorem gY(h:z.natAbs<=1048576):(nz z).length<=10:=lL (k:=8) (by lia)
theorem Je(u:dkN c=true)(A:Di L)(p:i<3)(r:lk L i=some w)(g:x.natAbs<=1048576)(e:y.natAbs<=1048576):Ax [dkL c L,.str (nm i),.int x,.int y]=.ok (.int (SS w.1 w.2 (x - 1) (y - 1))):=by
 have a:=yi2 u A p r g e;have F:=Vw (g_ g);have E:=Vw (g_ e);have I:=gY g;have G:=gY e;have M:=(Zx i p).2.2;have w0:("worth " : PySem.Str)=tx (VH++[32]):=by decide +kernel
 have J:VH.length=5:=rfl;have U:=Ew (a:=VH++[32]) (b:=nmc i) (by simp;omega);have Q:=Ew (a:=VH++[32]++nmc i) (b:=[32]) (by simp;omega);have P:=Ew (a:=VH++[32]++nmc i++[32]) (b:=nz x) (by simp;omega);have O:=Ew (a:=VH++[32]++nmc i++[32]++nz x) (b:=[32]) (by simp;omega);have C:=Ew (a:=VH++[32]++nmc i++[32]++nz x++[32]) (b:=nz y) (by simp;omega);have B:VH++[32]++nmc i++[32]++nz x++[32]++nz y=jn 32 [VH,nmc i,nz x,nz y]:=by simp[jn]
 rw[B]at C;refine Am (An ?_);show cl (zv (gv 0) (zv (b2 (b2 (b2 (b2 (b2 (kd (.str "worth ")) (gv 1) Az) (kd (.str " ")) Az) (bA (zv (gv 2) a0) Oj) Az) (kd (.str " ")) Az) (bA (zv (gv 3) a0) Oj) Az) a0)) Ba [some (dkL c L),some (.str (nm i)),some (.int x),some (.int y)]=_;rw[w0,blank];simp_all
end
def pwB:Ev->R Fl:=asg 5 (b2 (gv 5) (gv 2) Hw)
variable {o9 o10 o11:Option D}
theorem ya3{o6:Option D}{S:Int}(B:K.natAbs<=1048576)(p:Nat):∃e,Fy (Ai (List.range p)) (gN 6) pwB [o0,o1,some (.int K),o3,o4,some (.int S),o6,o7,o8,o9,o10,o11]=.ok (.nx [o0,o1,some (.int K),o3,o4,some (.int (S * K ^ p)),e,o7,o8,o9,o10,o11]):=by
 obtain⟨u,C,r⟩:=Ei (g:=gN 6) (b:=pwB) (I:=λj ρ=>∃e,ρ=[o0,o1,some (.int K),o3,o4,some (.int (S * K ^ j)),e,o7,o8,o9,o10,o11])
  (Ai (List.range p)) 0 [o0,o1,some (.int K),o3,o4,some (.int S),o6,o7,o8,o9,o10,o11] ⟨o6,by rw[Int.pow_zero,aX]⟩ (λi d ρ A r=>by
   rw[UG]at r ⊢;obtain⟨e,rfl⟩:=r;have m:=O2 (a:=S * K ^ i) (b:=K) (by lia) (by lia);refine⟨_,_,Yy,.inl ((Ah (d:=.int (S * K ^ i * K)) ?_).trans rfl),some d,by rw[aY,fB];rfl⟩;simp[m])
 simp_all [Bb,WQ,UG]
def dbB:Ev->R Fl:=asg 8 (b2 (gv 8) (kd (.int 2)) Hw)
theorem ws7{o6:Option D}(T:List D):∃e,Fy T (gN 9) dbB [o0,o1,o2,o3,o4,o5,o6,o7,some (.int 1),o9,o10,o11]=.ok (.nx [o0,o1,o2,o3,o4,o5,o6,o7,some (.int (2 ^ T.length)),e,o10,o11]):=by
 obtain⟨r,A,p⟩:=Ei (g:=gN 9) (b:=dbB) (I:=λj ρ=>∃e,ρ=[o0,o1,o2,o3,o4,o5,o6,o7,some (.int (2 ^ j)),e,o10,o11])
  T 0 [o0,o1,o2,o3,o4,o5,o6,o7,some (.int 1),o9,o10,o11] ⟨o9,rfl⟩ (λi d ρ u p=>by
   rw[UG]at p ⊢;obtain⟨e,rfl⟩:=p;have m:=O2 (a:=2 ^ i) (b:=2) (by decide) (by decide);refine⟨_,_,Yy,.inl ((Ah (d:=.int (2 ^ i * 2)) ?_).trans rfl),some d,by rw[aY];rfl⟩;simp[m])
 simp_all
theorem yE{r:Int}{k:Nat}(h:r % 2=(k:Int) % 2):ixD (.lst [.int 1,.int (-1)]) (.int (r % 2))=some (.int (sg k)):=by
 unfold sg;by_cases z:k % 2=0
 ·rw[if_pos z,show r % 2=0 by lia];exact Nx (i:=0) rfl
 ·rw[if_neg z,show r % 2=1 by lia];exact Nx (i:=1) rfl
theorem wd6(a b c d e f:Int):eqD (.lst [.int a,.int b,.int c,.int d,.int e,.int f]) (.lst [.int a,.int b,.int c,.int d,.int e,.int f])=some (.bl true):=by haveI:Decidable (D.lst [.int a,.int b,.int c,.int d,.int e,.int f]=D.lst [.int a,.int b,.int c,.int d,.int e,.int f]):=.isTrue rfl;rw[zk2 (n:=1) (by lia) rfl rfl,decide_eq_true rfl]
theorem kq7(u:dkN c=true)(p:Di L)(g:lk L 0=some (n,ts))(h6:ts.length<=6)(h0:0<=K)(hK:K<=999999):Hs [dkL c L,Aj n ts,.int K]=.ok (.bl true):=by
 have M:Wb n ts:=Kc p g;have n6:=M.n6;have iw:=J2 M.tie;have hp:=Vk (n:=n) (ts:=ts) (by lia) M.tie;have w0:ixD (Aj n ts) (.int 0)=some (.int (n:Int)):=Gn;have O:ixD (Aj n ts) (.int 1)=some (.tup (ts.map Ay)):=Ka;have lt:Cv [.tup (ts.map Ay)]=some (.int (ts.length:Int)):=by show some (D.int _)=_;rw[GQ]
 have A:("a" : PySem.Str)=nm 0:=by decide +kernel
 have u1:Ax [dkL c L,.str (nm 0),.int (1 - K),.int 0]=.ok (.int (SS n ts (-K) (-1))):=by have:=Je u p (i:=0) (by decide) g (x:=1 - K) (y:=0) (by lia) (by decide);lia
 have u2:Ax [dkL c L,.str (nm 0),.int 0,.int (-K)]=.ok (.int (SS n ts (-1) (-(K+1)))):=by have:=Je u p (i:=0) (by decide) g (x:=0) (y:=-K) (by decide) (by lia);lia
 have v1:Ax [dkL c L,.str (nm 0),.int 1,.int 1]=.ok (.int (SS n ts 0 0)):=by have e:=Je u p (i:=0) (by decide) g (x:=1) (y:=1) (by decide) (by decide);exact e
 have v2:Ax [dkL c L,.str (nm 0),.int 2,.int 0]=.ok (.int (SS n ts 1 (-1))):=by have e:=Je u p (i:=0) (by decide) g (x:=2) (y:=0) (by decide) (by decide);exact e
 have Z:Ax [dkL c L,.str (nm 0),.int 0,.int 2]=.ok (.int (SS n ts (-1) 1)):=by have e:=Je u p (i:=0) (by decide) g (x:=0) (y:=2) (by decide) (by decide);exact e
 have Y:Ax [dkL c L,.str (nm 0),.int 2,.int 2]=.ok (.int (SS n ts 1 1)):=by have e:=Je u p (i:=0) (by decide) g (x:=2) (y:=2) (by decide) (by decide);exact e
 have q1:Ba [dkL c L,.str "forests a"]=.ok (.int (SS n ts 0 0)):=by rw[show("forests a" : PySem.Str)=tx (jn 32 [WM,nmc 0]) by decide +kernel];simp_all [zO]
 have q2:Ba [dkL c L,.str "ringless a"]=.ok (.int (SS n ts 1 (-1))):=by rw[show("ringless a" : PySem.Str)=tx (jn 32 [WL,nmc 0]) by decide +kernel];simp_all [zN]
 have q3:Ba [dkL c L,.str "rounds a"]=.ok (.int (SS n ts (-1) 1)):=by rw[show("rounds a" : PySem.Str)=tx (jn 32 [WK,nmc 0]) by decide +kernel];simp_all [zM]
 have sK:=Vw (z:=K) (g_ (by lia));have sH:=Vw (z:=K+1) (g_ (by lia));have lK:=gY (z:=K) (by lia);have lH:=gY (z:=K+1) (by lia);have c4:Az (.str "colours a ") (.str (tx (nz K)))=some (.str (tx (jn 32 [XJ,nmc 0,nz K]))):=by have:=Ew (a:=XJ++[32]++nmc 0++[32]) (b:=nz K) (by simp[XJ,nmc];omega);rw[show XJ++[32]++nmc 0++[32]++nz K=jn 32 [XJ,nmc 0,nz K] by simp[jn]]at this;rw[show("colours a " : PySem.Str)=tx (XJ++[32]++nmc 0++[32]) by decide +kernel];exact this
 have c5:Az (.str "flows a ") (.str (tx (nz (K+1))))=some (.str (tx (jn 32 [XF,nmc 0,nz (K+1)]))):=by have:=Ew (a:=XF++[32]++nmc 0++[32]) (b:=nz (K+1)) (by simp[XF,nmc];omega);rw[show XF++[32]++nmc 0++[32]++nz (K+1)=jn 32 [XF,nmc 0,nz (K+1)] by simp[jn]]at this;rw[show("flows a " : PySem.Str)=tx (XF++[32]++nmc 0++[32]) by decide +kernel];exact this
 have q4:=yh9 u p (i:=0) (by decide) g h0 (by lia);have q5:=yi1 u p (i:=0) (by decide) g (K:=K+1) (by lia) (by lia);have ab:cc n ts<=n:=Yn n ts;have aa:=Ym n ts iw;have q:=yE (r:=(n:Int) - (cc n ts:Nat)) (k:=n - cc n ts) (by lia);have o:=yE (r:=(ts.length:Int) - ((n:Int) - (cc n ts:Nat))) (k:=ts.length+cc n ts - n) (by lia);have m1:=O2 (a:=SS n ts (-K) (-1) * K ^ cc n ts) (b:=sg (n - cc n ts)) (by unfold sg;by_cases z:(n - cc n ts) % 2=0<;>simp[z]) (by unfold sg;by_cases z:(n - cc n ts) % 2=0<;>simp[z]);have m2:=O2 (a:=SS n ts (-1) (-(K+1))) (b:=sg (ts.length+cc n ts - n)) (by unfold sg;by_cases z:(ts.length+cc n ts - n) % 2=0<;>simp[z]) (by unfold sg;by_cases z:(ts.length+cc n ts - n) % 2=0<;>simp[z]);have x1:SS n ts (-K) (-1) * K ^ cc n ts * sg (n - cc n ts)=Pc n ts K:=by unfold Pc;rw[e_,e_ (SS n ts (-K) (-1))]
 have x2:SS n ts (-1) (-(K+1)) * sg (ts.length+cc n ts - n)=Flw n ts (K+1):=by unfold Flw;rw[e_]
 rw[x1]at m1;rw[x2]at m2;have x3:(2:Int) ^ ts.length=SS n ts 1 1:=(zi9 iw).symm;have Q:Nf (.int ((n:Int) - (cc n ts:Nat))) (.int 2)=some (.int (((n:Int) - (cc n ts:Nat)) % 2)):=Rf (by decide);have P:Nf (.int ((ts.length:Int) - ((n:Int) - (cc n ts:Nat)))) (.int 2)=some (.int (((ts.length:Int) - ((n:Int) - (cc n ts:Nat))) % 2)):=Rf (by decide);have en:b7 (.int 1)=some (.int (-1)):=rfl;generalize af:SS n ts (-K) (-1)=I at *;generalize ag:SS n ts (-1) (-(K+1))=s2 at *;generalize ah:dkL c L=Dk at *;generalize hW:Aj n ts=W at *;obtain⟨p6,l1⟩:=ya3 (o0:=some Dk) (o1:=some W) (o3:=some (.int (cc n ts:Nat))) (o4:=some (.int ((n:Int) - (cc n ts:Nat)))) (o6:=none) (o7:=none) (o8:=none) (o9:=none) (o10:=none) (o11:=none) (K:=K) (S:=I) (by lia) (cc n ts);obtain⟨p9,l2⟩:=ws7 (o0:=some Dk) (o1:=some W) (o2:=some (.int K)) (o3:=some (.int (cc n ts:Nat))) (o4:=some (.int ((n:Int) - (cc n ts:Nat)))) (o5:=some (.int (I * K ^ cc n ts))) (o6:=p6) (o7:=some (.int s2)) (o9:=none) (o10:=none) (o11:=none) (ts.map Ay);rw[GQ,x3]at l2;have U:=wd6 (SS n ts 0 0) (SS n ts 1 (-1)) (SS n ts (-1) 1) (SS n ts 1 1) (Pc n ts K) (Flw n ts (K+1));generalize ts.map Ay=T,I * K ^ cc n ts=z1,SS n ts 0 0=E,SS n ts 1 (-1)=C,SS n ts (-1) 1=B,SS n ts 1 1=F,Pc n ts K=G,Flw n ts (K+1)=t6 at *;have B1:=@U9 [.int E,.int C,.int B,.int F] [.int G,.int t6] (by simp);have B2:=@U9 [.int E,.int C,.int B] [.int F,.int G] (by simp);have B3:=@U9 [.int E,.int C,.int B,.int F,.int G] [.int t6] (by simp);simp only[cN,fG]at B1 B2 B3;generalize ae:(cc n ts:Nat)=J at *;generalize hr:(n:Int) - (J:Nat)=rk at *;rw[<-A]at u1 u2 v1 v2 Z Y;refine Am (Ao (Ah (d:=.int (J:Nat)) (by simp[Aa,w0,O,hp]))
  (Ao (Ah (d:=.int rk) (by simp[Aa,w0,hr]))
  (Ao (Ah (d:=.int I) (by simp[Aa,u1]))
  (Ao (Gp (ds:=Ai (List.range J)) (by simp[Aa,Y0 (n:=J) (by lia)]) l1)
  (Ao (Ah (d:=.int s2) (by simp[Aa,u2]))
  (Ao (Ah (d:=.int 1) (by simp[Aa]))
  (Ao (Gp (ds:=T) (by simp[Aa,O]) l2)
  (Ao (Ah (d:=.lst [.int E,.int C,.int B,.int F]) (by simp[Aa,v1,v2,Z,Lk]))
  (Ao (Ah (d:=.lst [.int E,.int C,.int B,.int F,.int G,.int t6]) (by simp[Aa,en,Lk,Q,q,m1,O,lt,P,o,m2,B1]))
  (Ao (Ah (d:=.lst [.int E,.int C,.int B]) (by simp[Aa,q1,q2,q3,Lk]))
  (Ao (Ah (d:=.lst [.int E,.int C,.int B,.int F,.int G]) (by simp[Aa,Y,sK,c4,q4,Lk,B2]))
  (An (by simp[Aa,sH,c5,q5,Lk,B3,U])))))))))))))
theorem jj6:∀ts:Af,Dt (ts.map Ay)=true
 | []=>by simp[Dt]
 |e::ts=>by rw[HH,Dt,jj6 ts];rfl
def Uu(n:Nat)(ts:Af):Ng (Aj n ts)=true:=by show(Ng (.int (n:Int)) && (Ng (.tup (ts.map Ay)) && true))=true;rw[show Ng (.tup (ts.map Ay))=true from jj6 ts];rfl
theorem X5:∀L:Std,Dt (wsD L)=true
 | []=>by simp[wsD,Dt]
 |x::L=>by show(Ng (wD x.2) && Dt (wsD L))=true;rw[X5 L,show Ng (wD x.2)=true from Uu _ _];rfl
theorem jy6:∀ts:Af,Ft (ts.map Ay)=true
 | []=>by simp[Ft]
 |e::ts=>by rw[HH,Ft,jy6 ts];rfl
def yd4(n:Nat)(ts:Af):(Aj n ts).imm=true:=by show(D.imm (.int (n:Int)) && (D.imm (.tup (ts.map Ay)) && true))=true;rw[show D.imm (.tup (ts.map Ay))=true from jy6 ts];rfl
theorem xH:∀L:Std,Ft (wsD L)=true
 | []=>by simp[wsD,Ft]
 |x::L=>by show(D.imm (wD x.2) && Ft (wsD L))=true;rw[xH L,show D.imm (wD x.2)=true from yd4 _ _];rfl
def qJ(t:PySem.Addr):idn t ≠ "Desk":=λh=>by have e:(1:Nat)=(PySem.Str.ofString "Desk").cps.size:=congrArg (λs:PySem.Str=>s.cps.size) h;exact absurd e (by decide +kernel)
theorem Xr:∀{L:Std}{i:Nat}{w:Wx},lk (pt L i w) i=some w
 | [],i,w=>by simp[Law.pt,lk]
 | (j,u)::r,i,w=>by
  unfold Law.pt;by_cases e:j=i
  ·rw[if_pos e];unfold lk;rw[if_pos e]
  ·rw[if_neg e];unfold lk;rw[if_neg e];exact Xr
theorem Vj:∀{L:Std}{i k:Nat}{w:Wx},k≠i->lk (pt L i w) k=lk L k
 | [],i,k,w,h=>by unfold Law.pt lk;rw[if_neg (Ne.symm h)];rfl
 | (j,u)::r,i,k,w,h=>by
  unfold Law.pt;by_cases e:j=i
  ·rw[if_pos e];unfold lk;rw[e,if_neg (Ne.symm h),if_neg (Ne.symm h)]
  ·rw[if_neg e];unfold lk;simp_all [Vj]
theorem yn7{d:D}(h:M6 [.str (tx l)]=.ok d):G6 [.str (tx [119,101,98]),.lst [.str (tx l)]]=.ok d:=by refine Am (skt (by kernel_rfl) (An ?_));show cl (zv (b2 (gv 1) (kd (.int 0)) ixD) a0) M6 [some (.str (tx [119,101,98])),some (.lst [.str (tx l)])]=_;simp_all
theorem za5{x y d:D}(h:Du [x,y]=.ok d):G6 [.str (tx XC),.lst [x,y]]=.ok d:=by refine Am (skf (by kernel_rfl) (skt (by kernel_rfl) (An ?_)));show cl (zv (b2 (gv 1) (kd (.int 0)) ixD) (zv (b2 (gv 1) (kd (.int 1)) ixD) a0)) Du [some (.str (tx XC)),some (.lst [x,y])]=_;simp_all
theorem za4{x y d:D}(h:Gk [x,y]=.ok d):G6 [.str (tx XH),.lst [x,y]]=.ok d:=by refine Am (skf (by kernel_rfl) (skf (by kernel_rfl) (skt (by kernel_rfl) (An ?_))));show cl (zv (b2 (gv 1) (kd (.int 0)) ixD) (zv (b2 (gv 1) (kd (.int 1)) ixD) a0)) Gk [some (.str (tx XH)),some (.lst [x,y])]=_;simp_all
def dW(n:Nat)(ts:Af)(k:Nat)(e:Nat×Nat):Wx:=if e.1=e.2 then(n,del ts k) else(n - 1,(del ts k).map (ct e.1 e.2))
variable {e:Nat×Nat}
section
variable {k:Nat}
theorem zf8(B:dkN c=true)(u:c ≠ "Desk")(p:Di L)(g:lk L 0=some (n,ts))(A:k<ts.length):Ey [dkL c L,.str (tx (jn 32 [XC,nmc 1,nmc 0,nz (k:Int)]))]=.ok (dkL c (pt L 1 (n,del ts k))):=by
 have r:Wb n ts:=Kc p g;have E:=r.l9;refine tL B u p (ww6 (i:=1) (j:=0) (t:=(k:Int)) (by decide) (by decide) (by lia)) (by simp[hOk]) (by simp[fnd,g]) (by simp) (w:=(n,del ts k)) ?_;have C:[Hnd.nam 0,.num (k:Int)].map (vlD L)=[Aj n ts,.int (k:Int)]:=by simp[vlD,g,wD,raw]
 rw[C];exact za5 (S6 A (by lia))
theorem zf6(B:dkN c=true)(A:c ≠ "Desk")(u:Di L)(g:lk L 0=some (n,ts))(r:ts[k]? = some e):Ey [dkL c L,.str (tx (jn 32 [XH,nmc 2,nmc 0,nz (k:Int)]))]=.ok (dkL c (pt L 2 (dW n ts k e))):=by
 have p:Wb n ts:=Kc u g;have E:=p.l9;have F:=(NB.mp r).1;refine tL B A u (ww0 (i:=2) (j:=0) (t:=(k:Int)) (by decide) (by decide) (by lia)) (by simp[hOk]) (by simp[fnd,g]) (by simp) (w:=dW n ts k e) ?_;have C:[Hnd.nam 0,.num (k:Int)].map (vlD L)=[Aj n ts,.int (k:Int)]:=by simp[vlD,g,wD,raw]
 rw[C];have d:=jt4 p.n1 r (by lia);have x:(if e.1=e.2 then Aj n (del ts k) else Aj (n - 1) ((del ts k).map (ct e.1 e.2)))=wD (dW n ts k e):=by unfold dW wD;lia
 rw[x]at d;exact za4 d
theorem wV(g:Wb n ts)(p:ts[k]? = some e):Wb (dW n ts k e).1 (dW n ts k e).2:=by
 unfold dW;by_cases h:e.1=e.2
 ·rw[if_pos h];exact Vy g p
 ·rw[if_neg h];exact yd2 g p (by have:=(g.tie e (WR p)).1;lia)
theorem yj4(p:Wb n ts)(g:ts[k]? = some e):(dW n ts k e).2.length+1=ts.length:=by
 have d:=sE (NB.mp g).1;unfold dW;by_cases h:e.1=e.2
 ·rw[if_pos h];exact d
 ·simp_all
theorem yu7(E:Wb n ts)(I:ts[k]? = some e)(x y:Int):
  (e.1=e.2->SS n ts (x - 1) (y - 1)=y * SS n (del ts k) (x - 1) (y - 1)/\SS n (del ts k) (x - 1) (y - 1)=SS (dW n ts k e).1 (dW n ts k e).2 (x - 1) (y - 1)) /\
  (e.1≠e.2->cc n ts<cc n (del ts k)->SS n ts (x - 1) (y - 1)=x * SS (dW n ts k e).1 (dW n ts k e).2 (x - 1) (y - 1)/\SS n (del ts k) (x - 1) (y - 1)=SS (dW n ts k e).1 (dW n ts k e).2 (x - 1) (y - 1)) /\
  (e.1≠e.2->¬ cc n ts<cc n (del ts k)->SS n ts (x - 1) (y - 1)=SS n (del ts k) (x - 1) (y - 1)+SS (dW n ts k e).1 (dW n ts k e).2 (x - 1) (y - 1)):=by
 have B:=J2 E.tie;have p:=wb6 I;have u:InW n (e::del ts k):=λf J=>B f (p.mem_iff.mpr J);have A:=wq5 p B (x - 1) (y - 1);have g:=(E.tie e (WR I)).1;have C:cc n ts=cc n (e::del ts k):=Hr B λf=>p.mem_iff;obtain⟨a,b⟩:=e;unfold dW;refine⟨λh=>?_,λh G=>?_,λh G=>?_⟩
 ·have h:a=b:=h;subst h;rw[if_pos rfl];refine⟨?_,rfl⟩;rw[A,kh9 u,show(1+(y - 1):Int)=y by lia]
 ·have r:a<b:=by have h:a≠b:=h;have g:a<=b:=g;lia
  have F:¬ Bl (del ts k) a b:=λz=>by have:=V4 u z;rw[C,this]at G;lia
  rw[if_neg h];refine⟨?_,yh6 r u F _ _⟩;rw[A,zR r u F,show(1+(x - 1):Int)=x by lia]
 ·have r:a<b:=by have h:a≠b:=h;have g:a<=b:=g;lia
  have c:Bl (del ts k) a b:=uQ λz=>by have:=M4 u z;lia
  rw[if_neg h,A];exact kh8 r u c _ _
end
variable {ws ks' ws':List D}{row:D}
def xJ{ks:List D}(u:ρ[i]? = some (some (.exc c ks ws)))(B:dkN c=true)(A:f ρ=.ok row)(r:∀t,Ey [.exc (idn t) ks ws,row]=.ok (.exc (idn t) ks' ws'))(g:K3 i ρ=true)(p:Dt ws'=true):
  wrN i f Ey ρ=.ok (ρ.set i (some (.exc c ks' ws'))):=by
 unfold wrN;rw[u];show(if dkN c=true then _ else _)=_;rw[if_pos B,A,R.ok_bind,xK r,R.ok_bind,if_pos ⟨g,p⟩]
variable {r:R (D×Ev)}
theorem lD{o:Ev->R (D×Ev)}{g:Ev}(h:q ρ=.ok (.nx g))(p:nmA i g=nmA i ρ)(u:o g=r):sqA i q o ρ=r:=by unfold sqA;simp_all
variable {g:Ev->R (D×Ev)}
theorem wJ{t:Ev->R Bool}{d:D}(h:t ρ=.ok true)(p:f ρ=.ok d):ifA t f g ρ=.ok (d,ρ):=by unfold ifA dG;simp_all
theorem wK{t:Ev->R Bool}(h:t ρ=.ok false)(p:g ρ=r):ifA t f g ρ=r:=by unfold ifA;simp_all
theorem ya8{d:D}(p:f ρ=.ok d):dG f ρ=.ok (d,ρ):=by unfold dG;simp_all
theorem wi6(a b c:Int):neD (.lst [.int a,.int b,.int c]) (.lst [.int a,.int b,.int c])=some (.bl false):=by haveI:Decidable (D.lst [.int a,.int b,.int c]=D.lst [.int a,.int b,.int c]):=.isTrue rfl;rw[zk8 (n:=1) (by lia) rfl rfl,decide_eq_true rfl];rfl
def bcB:Ev->R Fl:=(sq (asg 6 (bA (zv (cl (zv (gv 0) (zv (gv 5) (zv (kd (.int 2)) (zv (kd (.int 0)) a0)))) Ax) (zv (cl (zv (gv 0) (zv (gv 5) (zv (kd (.int 0)) (zv (kd (.int 2)) a0)))) Ax) (zv (cl (zv (gv 0) (zv (gv 5) (zv (kd (.int 1)) (zv (kd (.int 1)) a0)))) Ax) a0))) Ub))
 (ifS (tb (b2 (Ci (itS (kd (.lst [(.str "ringless "),(.str "rounds "),(.str "forests ")]))) 1 [0,5] (gN 0) yes (cl (zv (gv 1) (zv (b2 (gv 0) (gv 2) Az) a0)) Ba)) (gv 6) neD)) (Uj (kd (.bl false))) nop))
section
variable {k:Nat}
theorem ki7(G:dkN c=true)(I:Di L){w:Wx}(E:i<3)(F:lk L i=some w)(h6:w.2.length<=6){o6:Option D}:∃p6,bcB [some (dkL c L),o1,o2,o3,o4,some (.str (nm i)),o6,o7,o8,o9]=.ok (.nx [some (dkL c L),o1,o2,o3,o4,some (.str (nm i)),p6,o7,o8,o9]):=by
 have v1:Ax [dkL c L,.str (nm i),.int 2,.int 0]=.ok (.int (SS w.1 w.2 1 (-1))):=Je G I E F (x:=2) (y:=0) (by decide) (by decide);have v2:Ax [dkL c L,.str (nm i),.int 0,.int 2]=.ok (.int (SS w.1 w.2 (-1) 1)):=Je G I E F (x:=0) (y:=2) (by decide) (by decide);have Z:Ax [dkL c L,.str (nm i),.int 1,.int 1]=.ok (.int (SS w.1 w.2 0 0)):=Je G I E F (x:=1) (y:=1) (by decide) (by decide);have q1:=zN G I E F;have q2:=zM G I E F;have q3:=zO G I E F h6;have ln:=(Zx i E).2.2;have c1:Az (.str "ringless ") (.str (nm i))=some (.str (tx (jn 32 [WL,nmc i]))):=by rw[show("ringless " : PySem.Str)=tx (WL++[32]) by decide +kernel,Ew (by simp[WL];omega),show WL++[32]++nmc i=jn 32 [WL,nmc i] by simp[jn]]
 have c2:Az (.str "rounds ") (.str (nm i))=some (.str (tx (jn 32 [WK,nmc i]))):=by rw[show("rounds " : PySem.Str)=tx (WK++[32]) by decide +kernel,Ew (by simp[WK];omega),show WK++[32]++nmc i=jn 32 [WK,nmc i] by simp[jn]]
 have c3:Az (.str "forests ") (.str (nm i))=some (.str (tx (jn 32 [WM,nmc i]))):=by rw[show("forests " : PySem.Str)=tx (WM++[32]) by decide +kernel,Ew (by simp[WM];omega),show WM++[32]++nmc i=jn 32 [WM,nmc i] by simp[jn]]
 generalize SS w.1 w.2 1 (-1)=B,SS w.1 w.2 (-1) 1=A,SS w.1 w.2 0 0=u,dkL c L=Y,D.str (nm i)=N,D.str (tx (jn 32 [WL,nmc i]))=R1,D.str (tx (jn 32 [WK,nmc i]))=R2,D.str (tx (jn 32 [WM,nmc i]))=R3 at *;generalize O:D.str (PySem.Str.ofString "ringless ")=U at *;generalize M:D.str (PySem.Str.ofString "rounds ")=Q at *;generalize J:D.str (PySem.Str.ofString "forests ")=P at *;have cm:Ci (itS (kd (.lst [U,Q,P]))) 1 [0,5] (gN 0) yes (cl (zv (gv 1) (zv (b2 (gv 0) (gv 2) Az) a0)) Ba) [some Y,o1,o2,o3,o4,some N,some (.lst [.int B,.int A,.int u]),o7,o8,o9]=.ok (.lst [.int B,.int A,.int u]):=by
  refine Cj (ds:=[U,Q,P]) (by simp) ?_ (by simp);refine Gj (enc:=λp:D×D=>p.1) (out:=λp=>p.2) [(U,.int B),(Q,.int A),(P,.int u)] λp C=>?_;rcases JN.mp C with rfl |C
  ·simp[Et,c1,q1]
  rcases JN.mp C with rfl |C
  ·simp[Et,c2,q2]
  rcases JN.mp C with rfl |C
  ·simp[Et,c3,q3]
  ·cases C
 have ns:=wi6 B A u;subst O M J;refine⟨some (.lst [.int B,.int A,.int u]),Ao (ρ1:=[some Y,o1,o2,o3,o4,some N,some (.lst [.int B,.int A,.int u]),o7,o8,o9]) (Ah (d:=.lst [.int B,.int A,.int u]) (by simp[v1,v2,Z,Lk])) ((W9 ?_).trans rfl)⟩;simp_all
def Lz(L:Std)(n:Nat)(ts:Af)(k:Nat)(e:Nat×Nat):Std:=pt (pt L 1 (n,del ts k)) 2 (dW n ts k e)
def w6(A:Di L)(p:Wb n ts)(u:ts[k]? = some e):Di (Lz L n ts k e):=(A.pt (by decide) (Vy p u)).pt (by decide) (wV p u)
def kl7{nm:PySem.Str}{ks:List D}{a b d:Int}:K3 0 [some (.exc nm ks ws),some (Aj n ts),some (.int a),some (.int b),some (.int d),none,none,none,none,none]=true:=by show(true && (Ng (Aj n ts) && true))=true;rw[Uu];rfl
theorem yc6(F:dkN c=true)(hL:Di L)(hw:lk L 0=some (n,ts))(h6:ts.length<=6)(B:ts[k]? = some e)(hx:x.natAbs<=1000000)(hy:y.natAbs<=1000000):
  Eg [dkL c L,Aj n ts,.int (k:Int),.int x,.int y]=.ok (.tup [.bl true,dkL c (Lz L n ts k e)]):=by
 have C:Wb n ts:=Kc hL hw;have hk:=(NB.mp B).1;have n6:=C.n6;have af:=hL.pt (i:=1) (w:=(n,del ts k)) (by decide) (Vy C B);have M:lk (pt L 1 (n,del ts k)) 0=some (n,ts):=by rw[Vj (by decide),hw]
 have A:=w6 hL C B;have ka:lk (Lz L n ts k e) 0=some (n,ts):=by unfold Lz;rw[Vj (by decide),M]
 have kb:lk (Lz L n ts k e) 1=some (n,del ts k):=by unfold Lz;rw[Vj (by decide),Xr]
 have kc:lk (Lz L n ts k e) 2=some (dW n ts k e):=by unfold Lz;rw[Xr]
 have sk:=Vw (z:=(k:Int)) (g_ (by lia));have ag:=gY (z:=(k:Int)) (by lia);have r1:Az (.str "without b a ") (.str (tx (nz (k:Int))))=some (.str (tx (jn 32 [XC,nmc 1,nmc 0,nz (k:Int)]))):=by rw[show("without b a " : PySem.Str)=tx (XC++[32]++nmc 1++[32]++nmc 0++[32]) by decide +kernel,Ew (by simp[XC,nmc];omega),show XC++[32]++nmc 1++[32]++nmc 0++[32]++nz (k:Int)=jn 32 [XC,nmc 1,nmc 0,nz (k:Int)] by simp[jn]]
 have r2:Az (.str "drawn c a ") (.str (tx (nz (k:Int))))=some (.str (tx (jn 32 [XH,nmc 2,nmc 0,nz (k:Int)]))):=by rw[show("drawn c a " : PySem.Str)=tx (XH++[32]++nmc 2++[32]++nmc 0++[32]) by decide +kernel,Ew (by simp[XH,nmc];omega),show XH++[32]++nmc 2++[32]++nmc 0++[32]++nz (k:Int)=jn 32 [XH,nmc 2,nmc 0,nz (k:Int)] by simp[jn]]
 have W1:wrN 0 (b2 (kd (.str "without b a ")) (bA (zv (gv 2) a0) Oj) Az) Ey [some (dkL c L),some (Aj n ts),some (.int (k:Int)),some (.int x),some (.int y),none,none,none,none,none]=.ok [some (dkL c (pt L 1 (n,del ts k))),some (Aj n ts),some (.int (k:Int)),some (.int x),some (.int y),none,none,none,none,none]:=by refine xJ (ks:=ksD L) (ws:=wsD L) (row:=.str (tx (jn 32 [XC,nmc 1,nmc 0,nz (k:Int)]))) rfl F ?_ (λt=>zf8 (Oz (.inr rfl)) (qJ t) hL hw hk) kl7 (X5 _);simp_all
 have W2:wrN 0 (b2 (kd (.str "drawn c a ")) (bA (zv (gv 2) a0) Oj) Az) Ey [some (dkL c (pt L 1 (n,del ts k))),some (Aj n ts),some (.int (k:Int)),some (.int x),some (.int y),none,none,none,none,none]=.ok [some (dkL c (Lz L n ts k e)),some (Aj n ts),some (.int (k:Int)),some (.int x),some (.int y),none,none,none,none,none]:=by refine xJ (ks:=ksD (pt L 1 (n,del ts k))) (ws:=wsD (pt L 1 (n,del ts k))) (row:=.str (tx (jn 32 [XH,nmc 2,nmc 0,nz (k:Int)]))) rfl F ?_ (λt=>zf6 (Oz (.inr rfl)) (qJ t) af M B) kl7 (X5 _);simp_all
 have dl:=sE hk;have ah:=yj4 C B;obtain⟨p6,b1⟩:=ki7 F A (i:=1) (by decide) kb (by show(del ts k).length<=6;lia) (o1:=some (Aj n ts)) (o2:=some (.int (k:Int))) (o3:=some (.int x)) (o4:=some (.int y)) (o6:=none) (o7:=none) (o8:=none) (o9:=none);obtain⟨q6,U⟩:=ki7 F A (i:=2) (by decide) kc (by lia) (o1:=some (Aj n ts)) (o2:=some (.int (k:Int))) (o3:=some (.int x)) (o4:=some (.int y)) (o6:=p6) (o7:=none) (o8:=none) (o9:=none);have nb:("b" : PySem.Str)=nm 1:=by decide +kernel
 have nc:("c" : PySem.Str)=nm 2:=by decide +kernel
 have na:("a" : PySem.Str)=nm 0:=by decide +kernel
 have lp:Fy [.str (nm 1),.str (nm 2)] (gN 5) bcB [some (dkL c (Lz L n ts k e)),some (Aj n ts),some (.int (k:Int)),some (.int x),some (.int y),none,none,none,none,none]=.ok (.nx [some (dkL c (Lz L n ts k e)),some (Aj n ts),some (.int (k:Int)),some (.int x),some (.int y),some (.str (nm 2)),q6,none,none,none]):=by rw[Fy,Yy,R.ok_bind];simp only[uC,uB];rw[b1];show Fy [.str (nm 2)] (gN 5) bcB [some (dkL c (Lz L n ts k e)),some (Aj n ts),some (.int (k:Int)),some (.int x),some (.int y),some (.str (nm 1)),p6,none,none,none]=_;rw[Fy,Yy,R.ok_bind];simp only[uC,uB];rw[U];rfl
 have u:x.natAbs<=1048576:=by lia
 have p:y.natAbs<=1048576:=by lia
 have u7:=Je F A (i:=0) (by decide) ka u p;have Z:=Je F A (i:=1) (by decide) kb u p;have u9:=Je F A (i:=2) (by decide) kc u p;have f8:=Em (Vy C B) u p;have f9:=Em (wV C B) u p;obtain⟨k1,k2,k3⟩:=yu7 C B x y;dsimp only at u7 Z;have w0:ixD (Aj n ts) (.int 0)=some (.int (n:Int)):=Gn;have Y:ixD (Aj n ts) (.int 1)=some (.tup (ts.map Ay)):=Ka;have et:ixD (.tup (ts.map Ay)) (.int (k:Int))=some (Ay e):=h_ (i:=k) (by rw[RB,B];rfl);have e0:ixD (Ay e) (.int 0)=some (.int (e.1:Int)):=Gn;have e1:ixD (Ay e) (.int 1)=some (.int (e.2:Int)):=Ka;have lo:=xP (xs:=ts.map Ay) (i:=k) (by rw[GQ];exact hk);have hi:=xQ (xs:=ts.map Ay) (i:=k) (by rw[GQ];exact hk);have ad:Az (.tup ((ts.map Ay).take k)) (.tup ((ts.map Ay).drop (k+1)))=some (.tup ((del ts k).map Ay)):=(Yw (by simp;lia)).trans (by unfold del;rw[N_,mG,mF]);have pa:=Vk (n:=n) (ts:=ts) (by lia) C.tie;have pb:=Vk (n:=n) (ts:=del ts k) (by lia) (Vy C B).tie;have m8:=Yz (a:=y) (b:=SS n (del ts k) (x - 1) (y - 1)) (RT hy (by decide +kernel)) (ZF f8 (by decide +kernel));have m9:=Yz (a:=x) (b:=SS (dW n ts k e).1 (dW n ts k e).2 (x - 1) (y - 1)) (RT hx (by decide +kernel)) (ZF f9 (by decide +kernel));rw[<-na]at u7;rw[<-nb]at Z;rw[<-nc]at u9;have J:itS (kd (.lst [.str "b",.str "c"])) [some (dkL c (Lz L n ts k e)),some (Aj n ts),some (.int (k:Int)),some (.int x),some (.int y),none,none,none,none,none]=.ok [.str (nm 1),.str (nm 2)]:=by rw[<-nb,<-nc];simp
 show gJ 10 Sd _=_;unfold gJ Sd sqN orN;rw[show Aa 10 [dkL c L,Aj n ts,.int (k:Int),.int x,.int y]=[some (dkL c L),some (Aj n ts),some (.int (k:Int)),some (.int x),some (.int y),none,none,none,none,none] from rfl,W1,R.ok_bind,W2,R.ok_bind];generalize Q:SS n ts (x - 1) (y - 1)=s7 at *;generalize P:SS n (del ts k) (x - 1) (y - 1)=s8 at *;generalize O:SS (dW n ts k e).1 (dW n ts k e).2 (x - 1) (y - 1)=s9 at *;clear W1 W2 b1 U;simp only[dkL]at u7 Z u9 lp J ⊢;generalize ksD (Lz L n ts k e)=ab,wsD (Lz L n ts k e)=aa,Aj n ts=W,(ts.map Ay).take k=T1,(ts.map Ay).drop (k+1)=T2,ts.map Ay=T,(del ts k).map Ay=T3,Ay e=E,D.str (nm 2)=N2 at *;unfold bcB at lp;refine(congrArg (λz=>R.bind z _) (?_:_=R.ok (D.bl true,[some (.exc c ab aa),some W,some (.int (k:Int)),some (.int x),some (.int y),some N2,q6,some (.int s7),some (.int s8),some (.int s9)]))).trans rfl;refine lD (Gp J lp) rfl (lD (Ah (d:=.int s7) (by simp[u7])) rfl (lD (Ah (d:=.int s8) (by simp[Z])) rfl (lD (Ah (d:=.int s9) (by simp[u9])) rfl ?_)));by_cases hl:e.1=e.2
 ·obtain⟨I,z2⟩:=k1 hl;clear k1 k2 k3 Q P O;subst z2 I;exact wJ (by simp[Y,et,e0,e1,hl]) (by simp[m8])
 ·have ae:¬ (e.1:Int)=(e.2:Int):=by lia
  refine wK (by simp[Y,et,e0,e1,ae]) ?_;by_cases hb:cc n ts<cc n (del ts k)
  ·obtain⟨I,z2⟩:=k2 hl hb;have G:(cc n ts:Int)<(cc n (del ts k):Int):=by lia
   clear k1 k2 k3 Q P O;subst z2 I;exact wJ (by simp[w0,Y,lo,hi,ad,pa,pb,G]) (by simp[m9])
  ·have I:=k3 hl hb;have G:¬ (cc n ts:Int)<(cc n (del ts k):Int):=by lia
   exact wK (by simp[w0,Y,lo,hi,ad,pa,pb,G]) (ya8 (by simp[I]))
end
theorem jh0:∀p:List Int,Dt (p.map .int)=true
 | []=>by simp[Dt]
 |n::p=>by rw[HH,Dt,jh0 p];rfl
def z6:Di []:=⟨λx p=>(by cases p),λx p=>(by cases p),iT⟩
def yu9{ks:List D}(B:ρ[i]? = some (some (.exc "Desk" ks ws)))(C:f ρ=.ok row)(A:∀t,Ey [.exc (idn t) ks ws,row]=.ok (.exc (idn t) ks' ws'))(p:K3 i ρ=true)(u:Dt ws'=true):
  wrS i f Ey ρ=.ok (ρ.set i (some (.exc "Desk" ks' ws'))):=by
 unfold wrS;rw[wL B,R.ok_bind,show N8 (.exc "Desk" ks ws)=some (ks,ws) from Lw (by kernel_rfl) ks ws];show(f ρ).bind _=_;rw[C,R.ok_bind];show(wrM Ey ks ws row).bind _=_;rw[xK A,R.ok_bind,if_pos ⟨p,u⟩]
section
variable {x y:Int}
def ws0{k:Nat}(C:Di L)(A:lk L 0=some (n,ts))(E:ts.length<=6)(B:ts[k]? = some e)(u:x.natAbs<=1000000)(p:y.natAbs<=1000000):
  clA 1 (zv (gv 2) (zv (gv 0) (zv (gv 3) (zv (gv 4) a0)))) Eg [some (.int (k:Int)),some (dkL "Desk" L),some (Aj n ts),some (.int x),some (.int y)]=.ok (true,[some (.int (k:Int)),some (dkL "Desk" (Lz L n ts k e)),some (Aj n ts),some (.int x),some (.int y)]):=by
 have wr:=yu8 (m:=Eg) (ks:=ksD L) (ws:=wsD L) (rest:=[Aj n ts,.int (k:Int),.int x,.int y]) (d:=.bl true) (ks':=ksD (Lz L n ts k e)) (ws':=wsD (Lz L n ts k e)) λt=>yc6 (c:=idn t) (Oz (.inr rfl)) C A E B u p;unfold clA;show(if dkN "Desk" = true then _ else _)=_;rw[if_pos (by kernel_rfl)];have F:(zv (gv 2) (zv (gv 0) (zv (gv 3) (zv (gv 4) a0)))) [some (.int (k:Int)),some (dkL "Desk" L),some (Aj n ts),some (.int x),some (.int y)]=.ok [Aj n ts,.int (k:Int),.int x,.int y]:=by rfl
 rw[F,R.nox_ok,R.ok_bind,wr,R.ok_bind];show(if K3 1 _=true/\Ft (wsD (Lz L n ts k e))=true then R.ok _ else _)=_;rw[if_pos ⟨by
  show(Ng (.int (k:Int)) && (true && (Ng (Aj n ts) && (Ng (.int x) && (Ng (.int y) && true)))))=true;rw[Uu];rfl,xH _⟩]
 rfl
theorem jr3(F:ts.length<=6)(B:x.natAbs<=1000000)(A:y.natAbs<=1000000):∀(l:List Nat)(L:Std)(o:Option D),(∀k∈l,k<ts.length)->Di L->lk L 0=some (n,ts) ->
  W6 (gN 0) (clA 1 (zv (gv 2) (zv (gv 0) (zv (gv 3) (zv (gv 4) a0)))) Eg) (Ai l) [o,some (dkL "Desk" L),some (Aj n ts),some (.int x),some (.int y)]=.ok (l.map λ_=>true)
 | [],L,o,_,_,_=>by unfold Ai;rw[cL,W6];rfl
 |k::l,L,o,C,u,p=>by have I:=C k J_;have E:ts[k]? = some ts[k]:=LR I;have G:Wb n ts:=Kc u p;have O:=jr3 F B A l (Lz L n ts k ts[k]) (some (.int (k:Int))) (λj J=>C j (JB _ J)) (w6 u G E) (by unfold Lz;rw[Vj (by decide),Vj (by decide),p]);have M:=ws0 u p F E B A;show W6 _ _ (.int (k:Int)::Ai l) _=_;rw[W6,Yy,R.ok_bind];simp_all
end
theorem law_true(ns:List Int)(hn:ns.length<=63):d_law [.lst (ns.map .int)]=.ok (.bl true):=by
 obtain⟨n,ts,A,_,h6,ew⟩:=ww9 ns;have aa:Cp [.lst (ns.map .int),.int 10]=.ok (.int (ns.getD 10 0)):=cell_eq ns 10;have Z:Cp [.lst (ns.map .int),.int 11]=.ok (.int (ns.getD 11 0)):=cell_eq ns 11;have u:Cp [.lst (ns.map .int),.int 12]=.ok (.int (ns.getD 12 0)):=cell_eq ns 12;obtain⟨a,ha,Y⟩:=Jv (ns.getD 10 0) 73 (by decide) (by decide) 999671 (by decide);obtain⟨b,hb,U⟩:=Jv (ns.getD 11 0) 79 (by decide) (by decide) 999671 (by decide);obtain⟨d,hd,Q⟩:=Jv (ns.getD 12 0) 83 (by decide) (by decide) 12 (by decide);obtain⟨f,hf,E⟩:=Jv (ns.getD 12 0) 89 (by decide) (by decide) 2 (by decide);obtain⟨g,hg,P⟩:=Jv (ns.getD 12 0) 97 (by decide) (by decide) 999671 (by decide);have Y:Bp [.int (ns.getD 10 0),.int 73,.int 999671]=.ok (.int (a:Int)):=Y;have U:Bp [.int (ns.getD 11 0),.int 79,.int 999671]=.ok (.int (b:Int)):=U;have Q:Bp [.int (ns.getD 12 0),.int 83,.int 12]=.ok (.int (d:Int)):=Q;have E:Bp [.int (ns.getD 12 0),.int 89,.int 2]=.ok (.int (f:Int)):=E;have P:Bp [.int (ns.getD 12 0),.int 97,.int 999671]=.ok (.int (g:Int)):=P;have nS:Ng (.lst (ns.map .int))=true:=jh0 ns;have m1:=O2 (a:=(a:Int)) (b:=2) (by decide) (by decide);have m2:=O2 (a:=(b:Int)) (b:=2) (by decide) (by decide);generalize D.lst (ns.map .int)=p,ns.getD 10 0=af,ns.getD 11 0=ae,ns.getD 12 0=ab at *;obtain⟨x,I,hx⟩:∃x:Int,(a:Int) * 2 - 999671=x/\x.natAbs<=1000000:=⟨_,rfl,by lia⟩;obtain⟨y,G,hy⟩:∃y:Int,(b:Int) * 2 - 999671=y/\y.natAbs<=1000000:=⟨_,rfl,by lia⟩;have F:∃K:Int,0<=K/\K<=999999/\ifS (tb (b2 (cl (zv (cl (zv (gv 0) (zv (kd (.int 12)) a0)) Cp) (zv (kd (.int 89)) (zv (kd (.int 2)) a0))) Bp) (kd (.int 1)) eqD)) (asg 4 (cl (zv (cl (zv (gv 0) (zv (kd (.int 12)) a0)) Cp) (zv (kd (.int 97)) (zv (kd (.int 999671)) a0))) Bp)) nop [some p,some (Aj n ts),some (.int x),some (.int y),some (.int (d:Int)),none]=.ok (.nx [some p,some (Aj n ts),some (.int x),some (.int y),some (.int K),none]):=by
  generalize Aj n ts=W at *;by_cases h:(f:Int)=1
  ·exact⟨(g:Int),by lia,by lia,(jM (by simp[u,E,h])).trans (Ah (d:=.int (g:Int)) (by simp[u,P]))⟩
  ·exact⟨(d:Int),by lia,by lia,(W9 (by simp[u,E,h])).trans rfl⟩
 obtain⟨K,M,J,F⟩:=F;have C:Di (pt [] 0 (n,ts)):=z6.pt (by decide) A;have B:lk (pt [] 0 (n,ts)) 0=some (n,ts):=Xr;have te:=yc5 (kJ A);have tk:=qK (kJ A);have ra:Az (.str "web a ") (.str (tx (gd n ts)))=some (.str (tx (jn 32 [[119,101,98],nmc 0,gd n ts]))):=by rw[show("web a " : PySem.Str)=tx ([119,101,98]++[32]++nmc 0++[32]) by decide +kernel,Ew (by simp[nmc];omega),show [119,101,98]++[32]++nmc 0++[32]++gd n ts=jn 32 [[119,101,98],nmc 0,gd n ts] by simp[jn]]
 have sw:∀t,Ey [.exc (idn t) (ksD []) (wsD []),.str (tx (jn 32 [[119,101,98],nmc 0,gd n ts]))]=.ok (.exc (idn t) (ksD (pt [] 0 (n,ts))) (wsD (pt [] 0 (n,ts)))):=λt =>
  tL (c:=idn t) (L:=[]) (Oz (.inr rfl)) (qJ t) z6 (wh4 (i:=0) (by decide) (kJ A)) (by simp[hOk]) (by simp[fnd]) (by simp) (w:=(n,ts)) (yn7 (kw0 A))
 have W1:wrS 5 (b2 (kd (.str "web a ")) (cl (zv (gv 1) a0) Kw) Az) Ey [some p,some (Aj n ts),some (.int x),some (.int y),some (.int K),some (.exc "Desk" [] [])]=.ok [some p,some (Aj n ts),some (.int x),some (.int y),some (.int K),some (dkL "Desk" (pt [] 0 (n,ts)))]:=by
  refine yu9 (ks:=ksD []) (ws:=wsD []) (row:=.str (tx (jn 32 [[119,101,98],nmc 0,gd n ts]))) rfl ?_ sw ?_ (X5 _)
  ·simp_all
  ·show(Ng p && (Ng (Aj n ts) && true))=true;rw[Uu,nS];rfl
 have ct:=kq7 (c:="Desk") (by kernel_rfl) C B h6 M J;have iW:ifW (orW (neW (wrS 5 (b2 (kd (.str "web a ")) (cl (zv (gv 1) a0) Kw) Az) Ey)) (plW (PD.nt (tt (cl (zv (gv 5) (zv (gv 1) (zv (gv 4) a0))) Hs))))) [some p,some (Aj n ts),some (.int x),some (.int y),some (.int K),some (.exc "Desk" [] [])]=.ok (.nx [some p,some (Aj n ts),some (.int x),some (.int y),some (.int K),some (dkL "Desk" (pt [] 0 (n,ts)))]):=by
  have t2:PD.nt (tt (cl (zv (gv 5) (zv (gv 1) (zv (gv 4) a0))) Hs)) [some p,some (Aj n ts),some (.int x),some (.int y),some (.int K),some (dkL "Desk" (pt [] 0 (n,ts)))]=.ok false:=by simp_all
  unfold ifW orW neW plW;simp_all
 have at_:=jr3 (n:=n) h6 hx hy (List.range ts.length) (pt [] 0 (n,ts)) none (λk hk=>MT.mp hk) C B;have lt:Cv [.tup (ts.map Ay)]=some (.int (ts.length:Int)):=by show some (D.int _)=_;rw[GQ]
 have w1:ixD (Aj n ts) (.int 1)=some (.tup (ts.map Ay)):=Ka;have O:alR (λρ=>(itR cI (zv (bA (zv (b2 (gv 1) (kd (.int 1)) ixD) a0) Cv) a0) ρ).nox) 1 [5,1,2,3] (gN 0) (clA 1 (zv (gv 2) (zv (gv 0) (zv (gv 3) (zv (gv 4) a0)))) Eg) [some p,some (Aj n ts),some (.int x),some (.int y),some (.int K),some (dkL "Desk" (pt [] 0 (n,ts)))]=.ok (.rt (.bl true)):=by
  have it:itR cI (zv (bA (zv (b2 (gv 1) (kd (.int 1)) ixD) a0) Cv) a0) [some p,some (Aj n ts),some (.int x),some (.int y),some (.int K),some (dkL "Desk" (pt [] 0 (n,ts)))]=.ok (Ai (List.range ts.length)):=by generalize dkL "Desk" (pt [] 0 (n,ts))=Dk,Aj n ts=W,ts.map Ay=T at *;simp[w1,lt,Y0 (n:=ts.length) (by lia)]
  unfold alR;dsimp only;rw[it,R.nox_ok,R.nox_ok,R.ok_bind];show R.bind (R.nox (W6 (gN 0) _ _ [none,some (dkL "Desk" (pt [] 0 (n,ts))),some (Aj n ts),some (.int x),some (.int y)])) _=_;rw[at_,R.nox_ok,R.ok_bind,if_pos (by rw[GQ,WQ];lia),show((List.range ts.length).map λ_=>true).all id=true from QL.mpr λb hb=>by
   obtain⟨_,_,rfl⟩:=I_.mp hb;rfl]
 generalize Aj n ts=W at *;exact Am (Ao (Ah (d:=W) (by simp[Aa,ew]))
  (Ao (Ah (d:=.int x) (by simp[Aa,aa,Y,m1,I]))
  (Ao (Ah (d:=.int y) (by simp[Aa,Z,U,m2,G]))
  (Ao (Ah (d:=.int (d:Int)) (by simp[Aa,u,Q]))
  (Ao F (Ao (Ah (d:=.exc "Desk" [] []) (by simp[Aa]))
  (Ao iW O)))))))
end Law
noncomputable def PySem.W.Fast.tw10877656153346997453 : PySem.Program := PySem.Challenge.pw_tietable_k91_whole_one_table_tells_all
theorem PySem.W.Fast.te10877656153346997453 : PySem.Challenge.pw_tietable_k91_whole_one_table_tells_all = PySem.W.Fast.tw10877656153346997453 := rfl
namespace PySem.W.Fast
def tw2998384378560122355:=0
def tw10279348379432712363:=0
def tw5312074974197652560:=0
def tw9217855518700981753:=0
def tw5249552998325465587:=0
def tw153898127082819274:=0
def tw3913847761215008195:=0
def tw7040922500314974764:=0
def tw9549556151977247644:=0
def tw6953351825449629444:=0
def tw12253328983441946185:=0
def tw14812064671710247374:=0
def tw10230103076970260159:=0
def tw10799181057280081449:=0
def tw8879911682069907817:=0
def tw16757158995392711170:=0
def tw12049676365309100880:=0
def tw3644477573248271155:=0
def tw4986652813442295584:=0
def tw3016190096084958885:=0
def tw1537457557665481180:=0
def tw2406676637754251148:=0
def tw12662199582061991950:=0
def tw1726393797259023545:=0
def tw3274701842224945204:=0
def tw14132092861904640289:=0
def tw10988513559351474262:=0
def tw2531368973374099650:=0
def tw16615659906454716984:=0
def tw114440324481865966:=0
def tw15596362163274484953:=0
def tw5933503513520041849:=0
def tw16468908022057041162:=0
def tw969183810211678567:=0
def tw13877736003515584973:=0
def tw7712471224471756892:=0
def tw1369031026944871904:=0
def tw12244281387888628599:=0
def tw5459915675641445224:=0
def tw17871705574133326337:=0
def tw10160876752934669482:=0
def tw16957111292147182225:=0
def tw9995372338788695146:=0
def tw17826249539492320419:=0
def tw11325742157700815387:=0
def tw13300257183429956608:=0
def tw12075094680743654086:=0
def tw8281607791122759535:=0
def tw741315888485124115:=0
def tw687635141647160671:=0
def tw16370891747708268867:=0
def tw6678633813165149587:=0
def tw5463672535487052674:=0
def tw15745708657360574572:=0
def tw13373860065442851012:=0
def tw12393259600760278994:=0
def tw13673062672335569538:=0
def tw17470182145413123280:=0
def tw5362437904650856788:=0
def tw10998521277854718315:=0
def tw454033930151211083:=0
def tw2514070464717360836:=0
def tw7208278846559406152:=0
def tw3408845841565102517:=0
def tw15325801684770312307:=0
def tw6832840190425250830:=0
def tw7711314496161400990:=0
def tw17200134140048019668:=0
def tw3356152430553055868:=0
def tw6832265249963096038:=0
def tw11884176447896486388:=0
def tw5740984840106843715:=0
def tw9852913089887245357:=0
def tw4841661477434407090:=0
def tw6865594273926633922:=0
def tw17020651823976539252:=0
def tw13167032781669073167:=0
def tw15503027583335461487:=0
def tw10985041532998871898:=0
def tw9759551565526312993:=0
def tw1414066333389499891:=0
def tw625596711167649857:=0
def tw7831895800060141005:=0
def tw16482442861345542584:=0
def tw9529665025095318713:=0
def tw12649955184508622008:=0
def tw7891378274767233815:=0
def tw12064822082302638080:=0
def tw14750522960996928557:=0
def tw2385547302883392021:=0
def tw10461012669105651712:=0
def tw14168026483283178363:=0
def tw9179131593550694756:=0
def tw830257738677211294:=0
def tw11426223268369237950:=0
def tw846245459609163144:=0
def tw11739907930224656762:=0
def tw15037231759423370112:=0
def tw1512428532507621720:=0
def tw6438494383924857355:=0
def tw13317182949046596115:=0
def tw11602498263583173064:=0
def tw3138777612430264638:=0
def tw14950345622418712209:=0
def tw17705964462894786156:=0
def tw5653661028839441492:=0
def tw1461464376921665300:=0
def tw4031277634755238331:=0
def tw12261438327162756348:=0
def tw1077623713218262815:=0
def tw5629885581532007111:=0
def tw13545874806013294931:=0
def tw9988347405534533171:=0
def tw18436623340142740208:=0
def tw13577030816888934651:=0
def tw13471091968227418928:=0
def tw2479111215035920783:=0
def tw12440057814678099519:=0
def tw4546378166281017941:=0
def tw688092484937408430:=0
def tw6795404772517107383:=0
def tw5401506574235157619:=0
def tw6458293087097816390:=0
def tw13442794039852445811:=0
def tw9173438342532673516:=0
def tw1436443779160814911:=0
def tw8518561489343905263:=0
def tw3798206409950173593:=0
def tw522364581241556718:=0
def tw9911061405640010898:=0
def tw11274374134231821410:=0
def tw1144923414958933036:=0
def tw4483814695302460353:=0
def tw12901101385672234887:=0
def tw16639902454511653488:=0
def tw2489037130315407456:=0
def tw5421711620736031790:=0
def tw12397464878833003842:=0
def tw1097505747549678865:=0
def tw15190743849067951678:=0
def tw14375921454099240801:=0
def tw9552339103128046796:=0
def tw9454271554863162522:=0
def tw16856284938591893470:=0
def tw16087261596762850326:=0
def tw11516016332954633876:=0
def tw14607283238517101998:=0
def tw7667345506752374498:=0
def tw1568146974389847971:=0
def tw4098081714907322370:=0
def tw1121674426931497056:=0
def tw31062318143537032:=0
def tw7176773194609144597:=0
def tw10362869859849753085:=0
def tw3116150426784345314:=0
def tw5162906912806098464:=0
def tw2613181179730110555:=0
def tw2914178913234121977:=0
def tw3704423805748014699:=0
def tw12101601838523011063:=0
def tw4902509339920357272:=0
def tw4041490271765133337:=0
def tw1708179152144419346:=0
def tw17914129284911127103:=0
def tw9637011456315800898:=0
def tw7226550687063620560:=0
def tw387078629940697184:=0
def tw14055991012277162560:=0
def tw15643376477836367260:=0
def tw10148789215205532942:=0
def tw13962897520764241110:=0
def tw1333507472509611261:=0
def tw16376004439105112752:=0
def tw15241382111080964573:=0
def tw2057023666841306671:=0
def tw10569575020308026078:=0
def tw17779630484178573001:=0
def tw13205047100566286038:=0
def tw15069856258408816181:=0
def tw13530106648494440565:=0
def tw17768550939516941019:=0
def tw11602000177085231925:=0
def tw12964509224090917439:=0
def tw17162364770648815201:=0
def tw4202870854818393496:=0
def tw8902842742148727395:=0
def tw4320070206002350386:=0
def tw11497108737906487064:=0
def tw11417924990588052652:=0
def tw9966385929485816128:=0
def tw16114309365258209862:=0
def tw7645913411177115868:=0
def tw5899447034944295825:=0
def tw5745028215571910993:=0
def tw12910888036950276742:=0
def tw2504512985635048280:=0
def tw6086699409773344659:=0
def tw2372222396674247027:=0
def tw148389845303275140:=0
def tw8749256268204714179:=0
def tw17063194661189270181:=0
def tw8633210098217569999:=0
def tw2963536538043267352:=0
def tw16088114611900442491:=0
def tw3172672181111231366:=0
def tw17251099160920848365:=0
def tw17988804488608881165:=0
def tw14420530122867350305:=0
def tw3180554728766557424:=0
def tw7769403610492703583:=0
def tw11524442301951896096:=0
def tw3850828626607994169:=0
def tw17673677878929568097:=0
def tw4835149646124639727:=0
def tw12760664065944039313:=0
def tw9944452157625263120:=0
def tw5928032647870812973:=0
def tw5582779799181944609:=0
def tw10332244251556587131:=0
def tw8295364836878574182:=0
def tw13695968541015147839:=0
def tw11771873536992831490:=0
def tw4377507252386615888:=0
def tw15798619171693570111:=0
def tw528126754026428562:=0
def tw13541352465776905343:=0
def tw2151190886826712304:=0
def tw908159088021436953:=0
def tw18367529752416499557:=0
def tw12250510352075682125:=0
def tw12303557595073256293:=0
def tw6979065325037909548:=0
def tw10555788783975600692:=0
def tw17723663446134602713:=0
def tw11833039497008638963:=0
def tw2704269103589324995:=0
def tw6897279963419902504:=0
def tw384471308029823054:=0
def tw17579313077175465264:=0
def tw9094498690813579780:=0
def tw3308720563829181028:=0
def tw13531986478300284000:=0
def tw1268675787259004608:=0
def tw12867222783765864165:=0
def tw2806566151925190020:=0
def tw16164912372183848685:=0
def tw2951208828459120561:=0
def tw2140182634495522065:=0
def tw11305977409034375087:=0
def tw6120708212323562144:=0
def tw4839769461485450709:=0
def tw251761269944060784:=0
def tw4672986505094621256:=0
def tw15693225533386605569:=0
def tw14874415040713164389:=0
def tw2960472204470439843:=0
def tw8295318669648389512:=0
def tw8723887071034202260:=0
def tw9705186443094205924:=0
def tw12805695422092266963:=0
def tw10626088506478901281:=0
def tw17212337133489231664:=0
def tw10882902134876813930:=0
def tw11840440928620783195:=0
def tw4312685523232406750:=0
def tw1210031904223937619:=0
def tw2858191002072014072:=0
def tw6992901770981079801:=0
def tw12520002617698703378:=0
def tw2446361875154654865:=0
def tw13132799089892957655:=0
def tw15616979177191268278:=0
def tw967211894391779969:=0
def tw4877202941011526949:=0
def tw5236232758285708795:=0
def tw10755260138205674266:=0
def tw2787034955428929228:=0
def tw5413051426935976880:=0
def tw2789406073756164345:=0
def tw6625119983036747732:=0
def tw11263561891282880864:=0
def tw2579968410347463806:=0
def tw309048832345436527:=0
def tw18209294239913905774:=0
end PySem.W.Fast
open PySem PySem.W PyProof.Rows
set_option maxRecDepth 100000 in
set_option maxHeartbeats 0 in
theorem PySem.Challenge.cw_tietable_k91_whole_one_table_tells_all_holds : PySem.Challenge.rw_tietable_k91_whole_one_table_tells_all.Holds := by
 w_on;o_law;k_head;(case hw=>w_witness2)
 k_fill
 refine PD.kt6 (l:=PySem.Challenge.rw_tietable_k91_whole_one_table_tells_all) (k:=26) (x:="_law_script") (m:=Law.d_law) Law.law_true rfl rfl ⟨rfl,by decide,by decide,rfl⟩ (λw h Y=>PySem.W.km_in_of Y) ?F
 case F =>
  intro w c e h b G a
  refine' Law.all_mk b G a (PD.Bc ?_ ?_ ?_ ?_) (PD.Bc ?_ ?_ ?_ ?_) (PD.Bc ?_ ?_ ?_ ?_) (PD.Bc ?_ ?_ ?_ ?_) (PD.Bc ?_ ?_ ?_ ?_) (PD.Bc ?_ ?_ ?_ ?_) (PD.Bc ?_ ?_ ?_ ?_) (PD.Bc ?_ ?_ ?_ ?_) (PD.Bc ?_ ?_ ?_ ?_) (PD.Bc ?_ ?_ ?_ ?_) (PD.Bc ?_ ?_ ?_ ?_) (PD.Bc ?_ ?_ ?_ ?_) (PD.Bc ?_ ?_ ?_ ?_) (PD.Bc ?_ ?_ ?_ ?_) (PD.Bc ?_ ?_ ?_ ?_) (PD.Bc ?_ ?_ ?_ ?_) (PD.Bc ?_ ?_ ?_ ?_) (PD.Bc ?_ ?_ ?_ ?_) (PD.Bc ?_ ?_ ?_ ?_) (PD.Bc ?_ ?_ ?_ ?_) (PD.Bc ?_ ?_ ?_ ?_) (PD.Bc ?_ ?_ ?_ ?_) (PD.Bc ?_ ?_ ?_ ?_) (PD.Bc ?_ ?_ ?_ ?_) (PD.Bc ?_ ?_ ?_ ?_) (PD.Bc ?_ ?_ ?_ ?_) (PD.Bc ?_ ?_ ?_ ?_) (PD.Bc ?_ ?_ ?_ ?_) (PD.Bc ?_ ?_ ?_ ?_) (PD.Bc ?_ ?_ ?_ ?_) (PD.Bc ?_ ?_ ?_ ?_) (PD.Bc ?_ ?_ ?_ ?_) (PD.Bc ?_ ?_ ?_ ?_) (PD.Bc ?_ ?_ ?_ ?_) (PD.Bc ?_ ?_ ?_ ?_) (PD.Bc ?_ ?_ ?_ ?_) (PD.Bc ?_ ?_ ?_ ?_) (PD.Bc ?_ ?_ ?_ ?_) (PD.Bc ?_ ?_ ?_ ?_) (PD.Bc ?_ ?_ ?_ ?_) (PD.Bc ?_ ?_ ?_ ?_) (PD.Bc ?_ ?_ ?_ ?_) (PD.Bc ?_ ?_ ?_ ?_) (PD.Bc ?_ ?_ ?_ ?_) (PD.Bc ?_ ?_ ?_ ?_) (PD.Bc ?_ ?_ ?_ ?_) (PD.Bc ?_ ?_ ?_ ?_) (PD.Bc ?_ ?_ ?_ ?_) (PD.Bc ?_ ?_ ?_ ?_) (PD.Bc ?_ ?_ ?_ ?_) (PD.Bc ?_ ?_ ?_ ?_) (PD.Bc ?_ ?_ ?_ ?_) (PD.Bc ?_ ?_ ?_ ?_) (PD.Bc ?_ ?_ ?_ ?_) (PD.Bc ?_ ?_ ?_ ?_) (PD.Bc ?_ ?_ ?_ ?_) (PD.Bc ?_ ?_ ?_ ?_) ?_ ?_ ?_ ?_ (PD.yw9 ?_ ?_ ?_ ?_ ?_ ?_) (PD.yw7 ?_ ?_ ?_ ?_ ?_ ?_ ?_) (PD.wB ?_ ?_ ?_ ?_ ?_) (PD.wB ?_ ?_ ?_ ?_ ?_) (PD.yl5 ?_ ?_ ?_ ?_) ?_ ?_ ?_ ?_ ?_ ?_ ?_ ?_ ?_ ?_ ?_ ?_ ?_ ?_ ?_ ?_ ?_ ?_ ?_ ?_ ?_
  any_goals k_is
  try any_goals with_reducible rfl
  try any_goals kernel_rfl
