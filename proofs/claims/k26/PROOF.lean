import PyProof.Rows.All
import Wide.All
import OpenK.AllK
import Wide.FinOn
import Lean
import PyProof.EqAt
import PyProof.EqKinds
import PyProof.TupleCall
import PyProof.MeetsSeq
import KE.KLam
import KE.KMinKey
import KE.KRevIter
import PySem.Challenge.RW_tietable_k26_no_forest_no_order
open PySem renaming Value->A_,Shared->BJ,Addr->BK,wpAny->BL,starEach->BP,model->BR,Str->BV,Program->BZ,wpAny_newObj_type->CG,rawInt->CK,Expr->CN,Heap->CP,sizeLine_eq->CQ,wpAny_holding->CT,World->CV,eval->CZ,wpAny_call_entry->C_,compareOp->DG,Around->DK,binaryOp->DN,FuncData->DQ,Stmt->DR,wpAny_callSpecial?_slot->DW,wpAny_setField->DX,wpAny_field->DY,wpAny_mono->D_,cellsFrom->EY,codeAny_builtin->E_,swapsWith->FJ,wpAny_truthy_bool->FN,foldedSetIterable->FP,bootBuiltins->FQ,Obj->FZ,assignEach->F_,plainId_quiet->GC,attributeBase->GD,NameKind->GF,sysModules->GK,behindInMarks->GP,Builtin->GR,wpAny_typeNameOfWhole_itemiter->GX,wpAny_seqItems->GZ,keywordEach->G_,wpAny_Call_Name_kw->HB,codeAny_mono->HD,wpAny_standAt->HH,backTo->HQ,Scope->HR,mainGlobals->HS,cLine->HX,wpAny_typeNameOf_itemiter->H_,wpAny_attempt->IK,wpAny_updateSeq->IV,intKind->IW,Keyword->JB,wpAny_setField_rec->JC,wpAny_call->JD,Pos->JG,wpAny_typeOf->JH,wpAny_tryCatch->JK,wpAny_setState_of->JL,wpAny_pyIter_list->JM,wpAny_loadPart_at->JN,pyNext->JP,fits_of_scanBound->JQ,firstArgMember->JR,codeAny->JS,Env->JT,builtinLookup_eq_fast->JX,wpAny_isInstance->JZ,scanBound->J_,builtinsNs->KD,IsItemIter->KH,codeAny_call_builtin->KN,backToKw->KQ,Model->KR,wpAny_passesOwn->KZ,wpAny_execs_nil->K_,typeLookup->MF,call_meets->MJ,wpAny_pyIter_enum->MK,wpAny_letGo->MN,excClassObj->MP,wpAny_comprehension_free->NK,wpAny_pyNext_tuple_item->OD,tupleKind->OJ,bindArgs->O_,wpAny_isOneOf_itemiter->PK,holding->PQ,wpAny_loadPart'->PX,typeLookup_type->P_,pushCells_keeps->QB,letOwnedTupleGo->QC,wpAny_of_eq->QL,wpAny_fieldsOf->QM,relayAll->QQ,isSubtype_type->QR,IsPart->QS,seqItems?->QT,pushCells->QV,Arguments->QZ,wpAny_setEntries_of->Q_,isInstance->RD,wpAny_pyIter_slot->RK,wpAny_dictEntries->RL,relabel->RM,getItem->RT,concat_meets->RV,callerA->RW,wpAny_execs_cons->RZ,wpAny_eqBool_int->R_,wpAny_askSetting->SJ,updateSeq->SM,setFlight->SN,noFill_tuple_add->SQ,DictEntry->TJ,wpAny_specialOf->TQ,wpAny_ite_split->TV,wpAny_dictEpoch->TX,codeAny_of_tree->UJ,valueAt->UL,standAt->UT,hashInt->VG,ElemsOf->VH,wpAny_runValue->VJ,wpAny_newTuple->VL,wpAny_letOwnedTupleGo_enum->VM,typeOf->VN,setField->VP,recursionLimit->VR,evalEach->WL,closureFor->WM,assign->WN,Result->WQ,Paired->WR,GenState->WT,wpAny_newList->W_,wpAny_handled->XC,seq_tuple_add->XD,comprehension->XJ,IsItemIterOut->XM,pickOrder->XN,bindL->YG,bindC->YH,atKey->YJ,CmpOp->YL,wpAny_pyNext_tuple_end->YM,pyIter->YS,newList->YT,newExc->YW,isTrue->Y_,call_meetsIn->ZC,argsOk->ZD,ExcBaseFacts->ZF,BindsTo->ZG,wpAny_throw->ZL,wpAny_alloc->ZM,sliceBounds->ZP,codeAny_extend_loopS->aA,callWith->aB,wpAny_isSubtype_exc->aD,wpAny_tupleItemsOf->bB,wpAny_pyIter_tuple->bC,wpAny_load->bD,wpAny_Name->bF,typeIs_int->bG,tupleKind_room_in1->bH,setEntries->bI,intKind_is->cI,wpAny_storeSet_of->cM,wpAny_sequenceKey->cO,wpAny_assign_Name->cQ,unaryOp->cR,setNext->cT,collect->dR,ItemsOf->dU,Drawn->dW,small_one->dY,onTheHeap->dZ,noteFrame->d7,newFields->d8,getMethod->fQ,wpAny_loadPart->iY,wpAny_Expr_any->iZ,refuseLoop_ref->jQ,newTuple->jR,newFunctionEnv->jT,layNew->jW,isSubtype_stop->mQ,entryFor_alias->mR,entryFor->mU,cellOf->mV,IsEnum->mX
open PyProof.Rows renaming SortSt->BW,pendingOf->CJ,IntsAre->FT,seqObj->HJ,failedOf->HW,get?_update_seq->I_,slot_tupleiter_next->LC,Keyed->LQ,arrOf->MT,AllBare->M_,IsTup->QG,SortKind->RX,listUpdate_at->XF,IsTupIter->YK,subscriptTail_builtinR->YQ,minRun'->YX,seqEpoch_at->ZQ,oneType'->ZR,entry_tupleiter_next->Z_,FormattedValue_plain->aC,entry_tuple_getitem->aZ,args_tupleiter_next->a_,boot_range->cJ,args_tuple_getitem->cL,slicePart_none->jP,mirror->jU,mergeAt'->jV,bubble->mW
open PySem.W renaming Frag->B_,kas_item->DP,kasC_bind->KC,kla_obj->UW,kasC_pure->eV
open PySem renaming wpAny_bind->BX,wpAny_pure->CW
open PySem.W (Frag)
open List renaming getElem?_eq_getElem->GJ,length_map->HN,mem_cons_of_mem->JW,getD_eq_getElem?_getD->NQ,mem_cons->HY,size_toArray->KJ,mem_cons_self->LK,mem_append_right->N_,mem_singleton->LR,getElem?_eq_some_iff->QK,mem_map->JF,mem_range->KY,length_append->PB,length_range->NZ,getElem?_set_ne->QJ,append_assoc->PL,mem_append->NT,mem_filter->QD,getElem?_map->QX,map_cons->NP,length_filter_le->TF,length_take->RC,length_cons->RB,all_eq_true->RJ,getElem_mem->RG,getElem?_append_right->YF,pairwise_append->WY,getElem?_append_left->ZK,take_append_drop->YB,map_append->UG,mem_append_left->X_,mem_of_getElem?->XX,nodup_cons->VF,mem_iff_getElem->YZ,length_drop->WX,getElem?_set_self->Z1,append_nil->WW,perm_ext_iff_of_nodup->cH,map_map->TY,drop_eq_getElem_cons->cG,pairwise_lt_range->aY,toArray->VB,getElem?_eq_none->aX,drop_eq_nil_of_le->cF,perm_append_comm->cD,idxOf_lt_length_of_mem->fP,pairwise_iff_getElem->fO,length_replicate->dO,lookup_cons->aW,pairwise_map->cC,filterMap_cons->dN,replicate_succ->dM,mem_reverse->cB,eq_nil_of_length_eq_zero->mO,getElem_take->dI,filter_cons_of_neg->iV,filter_cons_of_pos->iU,ext_getElem->dG,zip_cons_cons->fJ,flatten_cons->fH,nodup_append->fG,map_congr_left->iR,getElem?_replicate->mK,getElem_idxOf->iQ,find?_cons->fC,take_of_length_le->mJ,getElem_drop->iM,pairwise_reverse->mH,filter_congr->iK,mem_of_mem_take->mG,mem_of_mem_drop->mF,any_eq_true->iI,nodup_range->iH,any_cons->fB,foldl_cons->iG,length_nil->iD,length_zip->iC,getElem?_take_of_lt->qX,map_nil->eZ,nodup_nil->iB,reverse_cons->mD,all_cons->h_,not_mem_nil->l_,take_length->lX,of_mem_zip->lW,range_succ->lV,length_set->lU,length_reverse->qT,length_eraseIdx_of_lt->jFg,rel_of_pairwise_cons->jFk,getElem?_zip_eq_some->jFn,take_add_one->qM,length_erase_of_mem->jFp,getElem_map->qK,perm_middle->qI,not_of_lt_findIdx->jFv,length_pos_of_mem->jFw,length_singleton->jGa,set_append_right->jGc,eq_nil_or_concat->jGd,concat_eq_append->jGe,take_zero->p_,getElem_toArray->jGl,mem_erase_of_ne->jGm,perm_singleton->jGn,take_add->p8,map_drop->p7,map_take->pZ,filter_eq_self->jGs,mem_filterMap->jGt,pairwise_cons->jGw,getElem?_drop->jGx,filter_append->jGy,ne_nil_of_mem->jGz,any_eq_false->jHa,take_sublist->jHb,getElem?_set->jHc,ext_getElem?->jHe,reverse_perm->jHf,mapM_toArray->jHg,foldl_append->jHh,range'_succ->jHj,cons_append->z9,nil_append->zZ,forIn_cons->zY,idxOf_cons->zW,forIn_nil->zV
open PySem.Heap renaming get?_push_of_some->HF,lt_size->GQ,get?_push_size->L_,get?_update_self->YC,get?_update_other->ZJ,size_push->V_,ExtBut->lQ,get?_none_of_le->jGi,get?_update_ne->jGo
open Nat renaming le_refl->FW,ne_of_lt->JV,lt_of_lt_of_le->QF,le_trans->QW,ne_of_gt->S_,lt_irrefl->T_,zero_add->VV,zero_le->U_,lt_succ_of_lt->ZX,pow_le_pow_right->fL,lt_succ_self->dH,le_succ->ZV,le_of_lt->aU,min_eq_left->dF,min_eq_right->iJ,le_total->e_,add_sub_cancel_left->qW,lt_trans->g_,lt_of_le_of_lt->qQ,le_of_succ_le->qO,min_le_right->qL,succ_ne_self->qJ,sub_succ_lt_self->jGj,le_succ_of_le->jHd,le_of_not_lt->jHi,div_eq_of_lt->z8,two_pow_pos->zX,not_lt->pY
open Bool renaming and_eq_true->QH,false_eq_true->WK,not_eq_true'->XH,false_ne_true->XR,or_eq_true->ZW,eq_iff_iff->aV,eq_false_iff->dJ,not_true->lR,false_and->qD,and_false->qC,not_false->zU
open Array renaming getElem?_eq_getElem->YD,length_toList->ZZ,getElem?_toList->fM,ext'->ZS,getElem?_eq_some_iff->qY,append_assoc->qR,toList_setIfInBounds->jFh,perm_iff_toList_perm->jFi,toList_push->qN,getElem?_eq_none->jFu,getElem_toList->jGk,toList_inj->z_
open Option renaming getD_some->WD,bind_eq_some_iff->iT,isSome_iff_exists->mL,bind_some->fD,map_eq_some_iff->qU,map_some->qG,isSome_some->jGv
open Int renaming toNat_natCast->XQ,toNat_of_nonneg->fK,emod_lt_of_pos->qP,fdiv_eq_ediv_of_nonneg->jFf,emod_nonneg->qH,natCast_pow->qF,natCast_nonneg->jGu,natCast_ediv->z7,min_eq_left->z6
open Classical renaming byContradiction->iW
noncomputable section
namespace Xe
variable {a P:Prop}
def bY{p0 p1:Prop}(k:p0->p1->a->P)(h:p0/\p1/\a):P:=h.elim λe h=>h.elim λc b=>k e c b
variable {b:Prop}
def yk4{p0 p1:Prop}(k:p0->p1->a->b->P)(h:p0/\p1/\a/\b):P:=h.elim λg h=>h.elim λf h=>h.elim λe c=>k g f e c
variable {c:Prop}
def yk5{p0 p1:Prop}(k:p0->p1->a->b->c->P)(h:p0/\p1/\a/\b/\c):P:=h.elim λj h=>h.elim λi h=>h.elim λg h=>h.elim λf e=>k j i g f e
def rT{p0 p1 e:Prop}(k:p0->p1->a->b->c->e->P)(h:p0/\p1/\a/\b/\c/\e):P:=h.elim λm h=>h.elim λl h=>h.elim λj h=>h.elim λi h=>h.elim λg f=>k m l j i g f
def Am{f:Type}{p0 p1:f->Prop}(k:∀e,p0 e->p1 e->P)(h:∃e,p0 e/\p1 e):P:=h.elim λe h=>h.elim λi g=>k e i g
def Gk{f:Type}{p0 p1 a:f->Prop}(k:∀e,p0 e->p1 e->a e->P)(h:∃e,p0 e/\p1 e/\a e):P:=h.elim λe h=>h.elim λj h=>h.elim λi g=>k e j i g
def Yw{f:Type}{p0 p1 a b:f->Prop}(k:∀e,p0 e->p1 e->a e->b e->P)(h:∃e,p0 e/\p1 e/\a e/\b e):P:=h.elim λe h=>h.elim λl h=>h.elim λj h=>h.elim λi g=>k e l j i g
def nC{i g:Type}{p0:i->g->Prop}(k:∀f e,p0 f e->P)(h:∃f e,p0 f e):P:=h.elim λf h=>h.elim λe h=>k f e h
def Bm{i g:Type}{p0 p1:i->g->Prop}(k:∀f e,p0 f e->p1 f e->P)(h:∃f e,p0 f e/\p1 f e):P:=h.elim λf h=>h.elim λe h=>h.elim λl j=>k f e l j
def Bo{i g:Type}{p0 p1 a:i->g->Prop}(k:∀f e,p0 f e->p1 f e->a f e->P)(h:∃f e,p0 f e/\p1 f e/\a f e):P:=h.elim λf h=>h.elim λe h=>h.elim λm h=>h.elim λl j=>k f e m l j
def Vp{i g:Type}{p0 p1 a b:i->g->Prop}(k:∀f e,p0 f e->p1 f e->a f e->b f e->P)(h:∃f e,p0 f e/\p1 f e/\a f e/\b f e):P:=h.elim λf h=>h.elim λe h=>h.elim λn h=>h.elim λm h=>h.elim λl j=>k f e n m l j
def yk6{i g:Type}{p0 p1 a b c:i->g->Prop}(k:∀f e,p0 f e->p1 f e->a f e->b f e->c f e->P)(h:∃f e,p0 f e/\p1 f e/\a f e/\b f e/\c f e):P:=h.elim λf h=>h.elim λe h=>h.elim λo h=>h.elim λn h=>h.elim λm h=>h.elim λl j=>k f e o n m l j
def rR{i g:Type}{p0 p1 a b c j:i->g->Prop}(k:∀f e,p0 f e->p1 f e->a f e->b f e->c f e->j f e->P)(h:∃f e,p0 f e/\p1 f e/\a f e/\b f e/\c f e/\j f e):P:=h.elim λf h=>h.elim λe h=>h.elim λq h=>h.elim λp h=>h.elim λo h=>h.elim λn h=>h.elim λm l=>k f e q p o n m l
def rQ{l j i:Type}{p0:l->j->i->Prop}(k:∀g f e,p0 g f e->P)(h:∃g f e,p0 g f e):P:=h.elim λg h=>h.elim λf h=>h.elim λe h=>k g f e h
def cX{l j i:Type}{p0 p1:l->j->i->Prop}(k:∀g f e,p0 g f e->p1 g f e->P)(h:∃g f e,p0 g f e/\p1 g f e):P:=h.elim λg h=>h.elim λf h=>h.elim λe h=>h.elim λn m=>k g f e n m
def bW{l j i:Type}{p0 p1 a:l->j->i->Prop}(k:∀g f e,p0 g f e->p1 g f e->a g f e->P)(h:∃g f e,p0 g f e/\p1 g f e/\a g f e):P:=h.elim λg h=>h.elim λf h=>h.elim λe h=>h.elim λo h=>h.elim λn m=>k g f e o n m
def rP{l j i:Type}{p0 p1 a b c:l->j->i->Prop}(k:∀g f e,p0 g f e->p1 g f e->a g f e->b g f e->c g f e->P)(h:∃g f e,p0 g f e/\p1 g f e/\a g f e/\b g f e/\c g f e):P:=h.elim λg h=>h.elim λf h=>h.elim λe h=>h.elim λq h=>h.elim λp h=>h.elim λo h=>h.elim λn m=>k g f e q p o n m
def yk7{l j i:Type}{p0 p1 a b c o n m:l->j->i->Prop}(k:∀g f e,p0 g f e->p1 g f e->a g f e->b g f e->c g f e->o g f e->n g f e->m g f e->P)(h:∃g f e,p0 g f e/\p1 g f e/\a g f e/\b g f e/\c g f e/\o g f e/\n g f e/\m g f e):P:=h.elim λg h=>h.elim λf h=>h.elim λe h=>h.elim λx h=>h.elim λw h=>h.elim λv h=>h.elim λu h=>h.elim λs h=>h.elim λr h=>h.elim λq p=>k g f e x w v u s r q p
def yk8{l j i:Type}{p0 p1 a b c p o n m:l->j->i->Prop}(k:∀g f e,p0 g f e->p1 g f e->a g f e->b g f e->c g f e->p g f e->o g f e->n g f e->m g f e->P)(h:∃g f e,p0 g f e/\p1 g f e/\a g f e/\b g f e/\c g f e/\p g f e/\o g f e/\n g f e/\m g f e):P:=h.elim λg h=>h.elim λf h=>h.elim λe h=>h.elim λz h=>h.elim λy h=>h.elim λx h=>h.elim λw h=>h.elim λv h=>h.elim λu h=>h.elim λs h=>h.elim λr q=>k g f e z y x w v u s r q
def jL{n m l j:Type}{p0 p1 a b:n->m->l->j->Prop}(k:∀i g f e,p0 i g f e->p1 i g f e->a i g f e->b i g f e->P)(h:∃i g f e,p0 i g f e/\p1 i g f e/\a i g f e/\b i g f e):P:=h.elim λi h=>h.elim λg h=>h.elim λf h=>h.elim λe h=>h.elim λr h=>h.elim λq h=>h.elim λp o=>k i g f e r q p o
def yk9{n m l j:Type}{p0 p1 a b c:n->m->l->j->Prop}(k:∀i g f e,p0 i g f e->p1 i g f e->a i g f e->b i g f e->c i g f e->P)(h:∃i g f e,p0 i g f e/\p1 i g f e/\a i g f e/\b i g f e/\c i g f e):P:=h.elim λi h=>h.elim λg h=>h.elim λf h=>h.elim λe h=>h.elim λs h=>h.elim λr h=>h.elim λq h=>h.elim λp o=>k i g f e s r q p o
def rO{n m l j:Type}{p0 p1 a b c p o:n->m->l->j->Prop}(k:∀i g f e,p0 i g f e->p1 i g f e->a i g f e->b i g f e->c i g f e->p i g f e->o i g f e->P)(h:∃i g f e,p0 i g f e/\p1 i g f e/\a i g f e/\b i g f e/\c i g f e/\p i g f e/\o i g f e):P:=h.elim λi h=>h.elim λg h=>h.elim λf h=>h.elim λe h=>h.elim λx h=>h.elim λw h=>h.elim λv h=>h.elim λu h=>h.elim λs h=>h.elim λr q=>k i g f e x w v u s r q
def yl0{p o n m l:Type}{p0 p1 a b:p->o->n->m->l->Prop}(k:∀j i g f e,p0 j i g f e->p1 j i g f e->a j i g f e->b j i g f e->P)(h:∃j i g f e,p0 j i g f e/\p1 j i g f e/\a j i g f e/\b j i g f e):P:=h.elim λj h=>h.elim λi h=>h.elim λg h=>h.elim λf h=>h.elim λe h=>h.elim λu h=>h.elim λs h=>h.elim λr q=>k j i g f e u s r q
def yl1{p o n m l:Type}{p0 p1 a b c:p->o->n->m->l->Prop}(k:∀j i g f e,p0 j i g f e->p1 j i g f e->a j i g f e->b j i g f e->c j i g f e->P)(h:∃j i g f e,p0 j i g f e/\p1 j i g f e/\a j i g f e/\b j i g f e/\c j i g f e):P:=h.elim λj h=>h.elim λi h=>h.elim λg h=>h.elim λf h=>h.elim λe h=>h.elim λv h=>h.elim λu h=>h.elim λs h=>h.elim λr q=>k j i g f e v u s r q
def rN{p o n m l:Type}{p0 p1 a b c q:p->o->n->m->l->Prop}(k:∀j i g f e,p0 j i g f e->p1 j i g f e->a j i g f e->b j i g f e->c j i g f e->q j i g f e->P)(h:∃j i g f e,p0 j i g f e/\p1 j i g f e/\a j i g f e/\b j i g f e/\c j i g f e/\q j i g f e):P:=h.elim λj h=>h.elim λi h=>h.elim λg h=>h.elim λf h=>h.elim λe h=>h.elim λx h=>h.elim λw h=>h.elim λv h=>h.elim λu h=>h.elim λs r=>k j i g f e x w v u s r
def gJ{p o n m l:Type}{p0 p1 a b c r q:p->o->n->m->l->Prop}(k:∀j i g f e,p0 j i g f e->p1 j i g f e->a j i g f e->b j i g f e->c j i g f e->r j i g f e->q j i g f e->P)(h:∃j i g f e,p0 j i g f e/\p1 j i g f e/\a j i g f e/\b j i g f e/\c j i g f e/\r j i g f e/\q j i g f e):P:=h.elim λj h=>h.elim λi h=>h.elim λg h=>h.elim λf h=>h.elim λe h=>h.elim λz h=>h.elim λy h=>h.elim λx h=>h.elim λw h=>h.elim λv h=>h.elim λu s=>k j i g f e z y x w v u s
end Xe
open Xe
set_option Elab.async false
set_option linter.all false
set_option maxRecDepth 100000
namespace L2
open PySem PySem.Spec PyProof.Rows
abbrev Zs(n : JT)(e : CN)(es : List CN): Prop:= BP (e::es) n=(false, CZ e n)::BP es n
abbrev Zd(x : BV): Prop:= (x == ("__debug__" : BV))=false
abbrev Zp(n : JT)(p : JG)(es : List CN): Prop:= (HQ p (BP es n)).any (·.1)=false
abbrev Key:=Sum Int BV
def Z2:Key->A_->Bool
 | .inl k,v=>Value.isInt k v
 | .inr x,v=>Value.isStrOf x v
def yn0(w:CV):Key->Int
 | .inl k=>VG k
 | .inr x=>hashStr w x
def Cu:∀{k:Key}{v:A_},Z2 k v=true->(∃i t,k=Sum.inl i/\v=Value.int i t)\/(∃x t,k=Sum.inr x/\v=Value.str x t)
 | .inl i,v,h=>by have⟨t,e⟩:=Value.isInt_shape (k:=i) (v:=v) h;exact .inl ⟨i,t,rfl,e⟩
 | .inr x,v,h=>by have⟨t,e⟩:=Value.isStrOf_shape (x:=x) (v:=v) h;exact .inr ⟨x,t,rfl,e⟩
def kg2(i:Int)(t:Tok):Z2 (.inl i) (.int i t)=true:=by simp[Z2,Value.isInt]
def kg3(x:BV)(t:Tok):Z2 (.inr x) (.str x t)=true:=by simp[Z2,Value.isStrOf]
def ws6(a b:Int):decide ((Sum.inl a:Key)=Sum.inl b)=(a == b):=by
 by_cases e:a=b
 ·subst e;simp
 ·have h:¬ (Sum.inl a:Key)=Sum.inl b:=λq=>e (Sum.inl.inj q);rw[decide_eq_false h];exact(beq_eq_false_iff_ne.mpr e).symm
def ws9(a b:BV):decide ((Sum.inr a:Key)=Sum.inr b)=decide (a=b):=by
 by_cases e:a=b
 ·subst e;simp
 ·have h:¬ (Sum.inr a:Key)=Sum.inr b:=λq=>e (Sum.inr.inj q);rw[decide_eq_false h,decide_eq_false e]
def ws7(a:Int)(b:BV):decide ((Sum.inl a:Key)=Sum.inr b)=false:=decide_eq_false (λq=>nomatch q)
def ws8(a:BV)(b:Int):decide ((Sum.inr a:Key)=Sum.inl b)=false:=decide_eq_false (λq=>nomatch q)
def Cv(prog:BZ)(w:CV):PySem.KeyKind prog w Key where
 is:=Z2
 hash:=yn0 w
 inj:=λv a b ha hb=>by
  rcases Cu ha with ⟨i,t,rfl,rfl⟩ | ⟨x,t,rfl,rfl⟩
  ·rcases Cu hb with ⟨j,u,rfl,e⟩ | ⟨y,u,rfl,e⟩
   ·injection e with e1 _;rw[e1]
   ·exact nomatch e
  ·rcases Cu hb with ⟨j,u,rfl,e⟩ | ⟨y,u,rfl,e⟩
   ·exact nomatch e
   ·injection e with e1 _;rw[e1]
 byValue:=λk v h=>by rcases Cu h with ⟨i,t,rfl,rfl⟩ | ⟨x,t,rfl,rfl⟩<;>rfl
 pyHash:=λhv h=>by
  rcases Cu hv with ⟨i,t,rfl,rfl⟩ | ⟨x,t,rfl,rfl⟩
  ·exact wpAny_pyHash_int h
  ·exact wpAny_pyHash_str h
 eqBool:=λhu hv h=>by
  rcases Cu hu with ⟨i,t,rfl,rfl⟩ | ⟨x,t,rfl,rfl⟩
  ·rcases Cu hv with ⟨j,u,rfl,rfl⟩ | ⟨y,u,rfl,rfl⟩
   ·rw[ws6]at h;exact R_ h
   ·rw[ws7]at h;exact SeqAt.EqAt.int_str i t y u _ _ _ _ h
  ·rcases Cu hv with ⟨j,u,rfl,rfl⟩ | ⟨y,u,rfl,rfl⟩
   ·rw[ws8]at h;exact SeqAt.EqAt.str_int x t j u _ _ _ _ h
   ·rw[ws9]at h;exact wpAny_eqBool_str h
 «strs»:=λk x t v h=>by
  rcases Cu h with ⟨i,u,rfl,e⟩ | ⟨y,u,rfl,e⟩
  ·exact nomatch e
  ·injection e with e1 _;subst e1;cases v<;>rfl
def jl4(prog:BZ)(w:CV)(i:Int)(t:Tok):(Cv prog w).is (.inl i) (.int i t)=true:=kg2 i t
def jl5(prog:BZ)(w:CV)(x:BV)(t:Tok):(Cv prog w).is (.inr x) (.str x t)=true:=kg3 x t
inductive V where
 |non |bl (b:Bool) |int (i:Int) |str (x:BV) |byt (b:Array UInt8) |flt (b:UInt64) |ref (a:BK) |ty (n:String)
 deriving DecidableEq
def RelV:V->A_->Prop
 | .non,u=>u=Value.none
 | .bl b,u=>u=Value.bool b
 | .int i,u=>∃t,u=Value.int i t
 | .str x,u=>∃t,u=Value.str x t
 | .byt b,u=>∃t,u=Value.bytes b t
 | .flt b,u=>∃t,u=Value.float b t
 | .ref a,u=>u=Value.ref a
 | .ty n,u=>u=Value.type n
abbrev Vals:List V->List A_->Prop:=WR RelV
variable {xs:List V}{us:List A_}
def Vals.length(r:Vals xs us):xs.length=us.length:=Paired.length r
def Vals.get:∀{xs:List V}{us:List A_}{i:Nat}{x:V},Vals xs us->xs[i]? = some x->∃u,us[i]? = some u/\RelV x u
 |_,_,_,_,.nil,e=>by simp at e
 |_,_,0,_,.cons r _,e=>by simp at e;subst e;exact⟨_,rfl,r⟩
 |_,_,i+1,x,.cons _ t,e=>by obtain⟨u,b,a⟩:=Vals.get (i:=i) (x:=x) t (by simpa using e);exact⟨u,by simpa using b,a⟩
variable {ys:List V}
def Vals.append{a:List A_}(h:Vals xs us)(s:Vals ys a):Vals (xs++ys) (us++a):=by
 induction h with
 |nil=>exact s
 |cons r t b=>exact .cons r b
def Vals.take:∀{xs:List V}{us:List A_}(n:Nat),Vals xs us->Vals (xs.take n) (us.take n)
 |_,_,0,_=>.nil
 |_,_,_+1,.nil=>.nil
 |_,_,n+1,.cons r t=>.cons r (Vals.take n t)
def Vals.drop:∀{xs:List V}{us:List A_}(n:Nat),Vals xs us->Vals (xs.drop n) (us.drop n)
 |_,_,0,r=>r
 |_,_,_+1,.nil=>.nil
 |_,_,n+1,.cons _ t=>Vals.drop n t
def V7:Option V->Option A_->Prop
 |some v,some u=>RelV v u
 |none,none=>True
 |_,_=>False
def KV{a:Type}:List (a×V)->List (a×A_)->Prop:=WR λ(p:a×V)(q:a×A_)=>p.1=q.1/\RelV p.2 q.2
def kV:Key->V
 | .inl i=>.int i
 | .inr x=>.str x
inductive HO where
 |lst (xs:List V)
 |tup (xs:List V)
 |dK (kvs:List (Key×V)) |dT (kvs:List (List Key×V))
 |set (S:Int->Bool) (n:Nat)
 |ins (C dx:BK) (fs:List (BV×V))
 |own (x:BK)
 |xd (fs:List (BV×V))
 |met (f x:BK)
 |rng (lo hi:Int)
 |frz (o:FZ) (u:HO)
 |tbl (ps:Array A_)
 |ext (φ:CP->Prop)
abbrev Hp:=BK->Option HO
def upd(H:Hp)(a:BK)(o:HO):Hp:=λb=>if b=a then some o else H b
def Ah{H:Hp}{a:BK}{o:HO}:upd H a o a=some o:=by unfold upd;rw[if_pos rfl]
def Ad{H:Hp}{a b:BK}{o:HO}(h:b≠a):upd H a o b=H b:=by unfold upd;rw[if_neg h]
def ye8{H:Hp}{a b:BK}{o u:HO}(h:H a=some o)(h':H b=some u)(d:o≠u):a≠b:=by intro e;subst e;rw[h]at h';exact d (Option.some.inj h')
def Ay{H:Hp}{a b:BK}{o:HO}(h:H a=some o)(h':H b=none):a≠b:=by intro e;subst e;rw[h]at h';cases h'
section
variable (P:BZ)(w:CV)
def Bu(H:Hp)(h:CP)(a:BK):HO->Prop
 | .lst xs=>xs.length<=sizeLine/\∃(its:List A_)(n:Nat),Vals xs its/\h.get? a=some {cls:=.type "list",data:=.seq its.toArray n}
 | .tup xs=>xs.length<=sizeLine/\∃its:List A_,Vals xs its/\QG h a its.toArray
 | .dK e=>e.length<=sizeLine/\(a == GK)=false/\∃vs,KV e vs/\h.DictOf (Cv P w) a vs
 | .dT e=>e.length<=sizeLine/\(a == GK)=false/\∃xs:List (List Key×BK×A_),
   WR (λ(p:List Key×V)(q:List Key×BK×A_)=>p.1=q.1/\H q.2.1=some (.tup (p.1.map kV))/\RelV p.2 q.2.2) e xs /\
   ∃o y B,h.get? a=some o/\o.ExactDict/\o.data=.dict y B/\y.toList=xs.map (entryOfKey (OJ (Cv P w)))/\(xs.map (·.1)).Nodup
 | .set S n=>h.SetOf (IW P w) a S n
 | .ins C j i=>H j=some (.own a)/\i.length<=1000/\j≠a/\h.get? a=some (W.instObj C j) /\
   ∃g,h.Ns1 j g/\(∀f,V7 (i.lookup f) (g f))/\PySem.Within g (i.map (·.1))
 | .own _=>∃o,h.get? a=some o
 | .xd i=>∃g,h.Ns1 a g/\∀f,V7 (i.lookup f) (g f)
 | .rng z A=>∃t u v,h.get? a=some {cls:=.type "range",data:=.fields #[.int z t,.int A u,.int 1 v] }
 | .frz o u=>h.get? a=some o/\Bu H h a u
 | .tbl ps=>∃m:Array A_,h.get? a=some {cls:=.none,data:=.fields m}/\(m = #[]\/∃(l c:A_)(q:BV)(t:Tok)(b:BK)(o:FZ)(vs:Array A_)(t':Tok),ps = #[l,c,.str q t]/\m = #[l,c,.ref b]/\H b=some (.frz o (.own a))/\o.data=.fields vs/\vs[1]? = some (.str q t'))
 | .met f x=>h.get? a=some (W.methodObj (.ref f) (.ref x))
 | .ext k=>k h/\(∃o,h.get? a=some o)/\∀s r:CP,k s->(∀o,s.get? a=some o->r.get? a=some o)->k r
def HOk(H:Hp)(h:CP):Prop:=∀a o,H a=some o->Bu P w H h a o
end
variable {a:BK}{o:HO}{h h':CP}{H H':Hp}{P:BZ}{w:CV}
def Bu.lt(x:Bu P w H h a o):a<h.objs.size:=by
 cases o with
 |lst xs=>obtain⟨_,_,_,_,e⟩:=x;exact GQ e
 |tup xs=>obtain⟨_,_,_,p⟩:=x;exact p.lt
 |dK b=>obtain⟨_,_,_,_,o,_,_,e,_⟩:=x;exact GQ e
 |dT b=>obtain⟨_,_,_,_,o,_,_,e,_⟩:=x;exact GQ e
 |set S n=>obtain⟨o,_,_,_,e,_⟩:=x;exact GQ e
 |ins C l c=>obtain⟨_,_,_,e,_⟩:=x;exact GQ e
 |own y=>obtain⟨_,e⟩:=x;exact GQ e
 |xd c=>obtain⟨_,⟨_,_,_,e,_⟩,_⟩:=x;exact GQ e
 |rng j k=>obtain⟨_,_,_,e⟩:=x;exact GQ e
 |frz i u=>obtain⟨e,_⟩:=x;exact GQ e
 |tbl ps=>obtain⟨_,e,_⟩:=x;exact GQ e
 |met f y=>exact GQ (show h.get? a=some _ from x)
 |ext g=>obtain⟨_,⟨_,e⟩,_⟩:=x;exact GQ e
def Paired.mapP{e c:Type}{F G:e->c->Prop}{l₁:List e}{l₂:List c}(h:WR F l₁ l₂)(f:∀a b,F a b->G a b):WR G l₁ l₂:=by
 induction h with
 |nil=>exact .nil
 |cons r t g=>exact .cons (f _ _ r) g
theorem Bu.stay(x:Bu P w H h a o)(k:∀b u,(b=a\/H b=some (.own a))->h.get? b=some u->h'.get? b=some u)
  (L:∀b,H b=some (.own a)->H' b=some (.own a))(ht:∀b xs,H b=some (.tup xs)->H' b=some (.tup xs))
  (M:∀b o y,H b=some (.frz o (.own y))->H' b=some (.frz o (.own y)):=by first |exact λ_ _ _ q=>q | (intro b o y q;rw[Ad (Ay q (by assumption))];exact q)):Bu P w H' h' a o:=by
 induction o with
 |lst xs=>obtain⟨z,m,n,r,e⟩:=x;exact⟨z,m,n,r,k _ _ (.inl rfl) e⟩
 |tup xs=>obtain⟨z,m,r,g,e,c⟩:=x;exact⟨z,m,r,g,k _ _ (.inl rfl) e,c⟩
 |dK E=>obtain⟨z,y,s,r,g,i,j,e,c⟩:=x;exact⟨z,y,s,r,g,i,j,k _ _ (.inl rfl) e,c⟩
 |dT E=>obtain⟨z,y,xs,r,g,i,j,e,c⟩:=x;exact⟨z,y,xs,Paired.mapP r λp q z=>⟨z.1,ht _ _ z.2.1,z.2.2⟩,g,i,j,k _ _ (.inl rfl) e,c⟩
 |set S n=>obtain⟨g,i,j,t,e,c⟩:=x;exact⟨g,i,j,t,k _ _ (.inl rfl) e,c⟩
 |ins C Y O=>obtain⟨d,z,ne,e,B,⟨A,i,j,F,c⟩,r⟩:=x;exact⟨L _ d,z,ne,k _ _ (.inl rfl) e,B,⟨A,i,j,k _ _ (.inr d) F,c⟩,r⟩
 |own y=>obtain⟨g,e⟩:=x;exact⟨g,k _ _ (.inl rfl) e⟩
 |xd O=>obtain⟨B,⟨A,i,j,e,c⟩,r⟩:=x;exact⟨B,⟨A,i,j,k _ _ (.inl rfl) e,c⟩,r⟩
 |rng U X=>obtain⟨t,u,v,e⟩:=x;exact⟨t,u,v,k _ _ (.inl rfl) e⟩
 |frz g u K=>obtain⟨e,q⟩:=x;exact⟨k _ _ (.inl rfl) e,K q⟩
 |tbl ps=>obtain⟨J,e,z⟩:=x;exact⟨J,k _ _ (.inl rfl) e,z.imp id λ⟨l,c,q,t,b,o,s,I,Q,F,d,r⟩=>⟨l,c,q,t,b,o,s,I,Q,F,M _ _ _ d,r⟩⟩
 |met f y=>have e:h.get? a=some (W.methodObj (.ref f) (.ref y)):=x;show h'.get? a=some (W.methodObj (.ref f) (.ref y));exact k a _ (.inl rfl) e
 |ext T=>obtain⟨p,⟨o,e⟩,G⟩:=x;exact⟨G _ _ p λo q=>k _ _ (.inl rfl) q,⟨o,k _ _ (.inl rfl) e⟩,G⟩
def HOk.lt(x:HOk P w H h)(e:H a=some o):a<h.objs.size:=(x a o e).lt
def HOk.fresh(x:HOk P w H h)(e:h.objs.size<=a):H a=none:=by
 cases q:H a with
 |none=>rfl
 |some u=>exact absurd (QF (x.lt q) e) (T_ _)
def HOk.kept(x:HOk P w H h)(k:∀b u,h.get? b=some u->h'.get? b=some u):HOk P w H h':=λa o e =>
 (x a o e).stay (λb u _ q=>k b u q) (λ_ q=>q) λ_ _ q=>q
def HOk.laid(x:HOk P w H h)(k:∀b u,h.get? b=some u->h'.get? b=some u)(i:h.objs.size<=a)(new:Bu P w (upd H a o) h' a o):HOk P w (upd H a o) h':=λb u e=>by
 have f:=x.fresh i;by_cases g:b=a
 ·subst g;rw[Ah]at e;cases e;exact new
 ·rw[Ad g]at e;exact(x b u e).stay (λc v _ q=>k c v q) (λc q=>by rw[Ad (Ay q f)];exact q) λc xs q=>by rw[Ad (Ay q f)];exact q
def Rd(H:Hp)(a:BK)(u:HO):Prop:=H a=some u\/∃o,H a=some (.frz o u)
def Rd.ok{u:HO}(r:Rd H a u)(x:HOk P w H h):Bu P w H h a u:=by
 rcases r with r | ⟨o,r⟩
 ·exact x a u r
 ·have⟨_,q⟩:=x a _ r;exact q
def Mut:Option HO->Prop
 |some (.lst _)=>True
 |some (.dK _)=>True
 |some (.dT _)=>True
 |some (.set _ _)=>True
 |some (.ins _ _ _)=>True
 |some (.ext _)=>True
 |_=>False
variable {x:BK}
section
variable {e:BK}{o':HO}
def HOk.write(ok:HOk P w H h)(i:Mut (H x))(s:e=x\/H e=some (.own x))(k:∀b u,b≠e->h.get? b=some u->h'.get? b=some u)(n:∃u,h'.get? e=some u)
  (new:Bu P w (upd H x o') h' x o'):HOk P w (upd H x o') h':=λb u q=>by
 have g:∀c y,H c=some (.own y)->c≠x:=λc y r z=>by subst z;rw[r]at i;exact i
 have j:∀c xs,H c=some (.tup xs)->c≠x:=λc xs r z=>by subst z;rw[r]at i;exact i
 by_cases m:b=x
 ·subst m;rw[Ah]at q;cases q;exact new
 ·rw[Ad m]at q;by_cases f:b=e
  ·have p:H b=some (.own x):=by
    rcases s with z |z
    ·exact absurd (f.trans z) m
    ·rw[f];exact z
   rw[q]at p;cases p;obtain⟨v,A⟩:=n;exact⟨v,by rw[f];exact A⟩
  ·refine(ok b u q).stay (λc v l r=>k c v ?_ r) (λc r=>by rw[Ad (g c b r)];exact r) (λc xs r=>by rw[Ad (j c xs r)];exact r) λc o y r=>by rw[Ad (λz=>by subst z;rw[r]at i;exact i)];exact r
   rcases l with rfl |l
   ·exact f
   ·rintro rfl;rcases s with z |z
    ·exact g c b l z
    ·rw[l]at z;cases z;exact m rfl
end
structure Un(fs ex:List BK)(H H':Hp)(h h':CP):Prop where
 keep:∀b o,h.get? b=some o->H b=none->b∉fs->b∉ex->h'.get? b=some o
 slot:∀b o,h.get? b=some o->H b=none->b∈fs->b∉ex->∃sl,h'.get? b=some {o with slots:=sl}
 free:∀b o,h.get? b=some o->H b=none->b∉ex->H' b=none
 there:∀b o,h.get? b=some o->b∉ex->∃o',h'.get? b=some o'
 tups:∀b xs,H b=some (.tup xs)->H' b=some (.tup xs)
 frzs:∀b o u,H b=some (.frz o u)->H' b=some (.frz o u)
 tbls:∀b ps,H b=some (.tbl ps)->∃more,H' b=some (.tbl (ps++more))
section
variable {fs b ex c:List BK}{g j:Hp}{f i:CP}{e:BK}
def Un.any(u:Un fs ex H g h f){b:BK}{k:FZ}(q:h.get? b=some k)(n:H b=none)(l:b∉ex):∃p,f.get? b=some {k with slots:=p}:=by
 by_cases m:b∈fs
 ·exact u.slot b k q n m l
 ·exact⟨k.slots,u.keep b k q n m l⟩
def Un.trans(a:Un fs ex H g h f)(b:Un fs ex g j f i):Un fs ex H j h i where
 keep:=λc ob q n hc hx=>b.keep c ob (a.keep c ob q n hc hx) (a.free c ob q n hx) hc hx
 slot:=λc ob q n hc hx=>by have⟨sl,e1⟩:=a.slot c ob q n hc hx;have⟨sl',e2⟩:=b.slot c _ e1 (a.free c ob q n hx) hc hx;exact⟨sl',e2⟩
 free:=λc ob q n hx=>by have⟨o',e1⟩:=a.there c ob q hx;exact b.free c o' e1 (a.free c ob q n hx) hx
 there:=λc ob q hx=>by have⟨o',e1⟩:=a.there c ob q hx;exact b.there c o' e1 hx
 tups:=λc xs q=>b.tups c xs (a.tups c xs q)
 frzs:=λc ob xs q=>b.frzs c ob xs (a.frzs c ob xs q)
 tbls:=λc ps q=>by have⟨m1,e1⟩:=a.tbls c ps q;have⟨m2,e2⟩:=b.tbls c _ e1;exact⟨m1++m2,by rw[e2,qR]⟩
def Un.kept(k:∀b u,h.get? b=some u->h'.get? b=some u):Un fs ex H H h h':=
 ⟨λb l q _ _ _=>k b l q,λb l q _ _ _=>⟨l.slots,k b l q⟩,λ_ _ _ n _=>n,λb l q _=>⟨l,k b l q⟩,λ_ _ q=>q,λ_ _ _ q=>q,λ_ ps q=>⟨#[],by rw[q];simp⟩⟩
def Un.refl:Un fs ex H H h h:=Un.kept λ_ _ q=>q
def Un.laid(k:∀b u,h.get? b=some u->h'.get? b=some u)(hp:h.objs.size<=a)(hn:H a=none):Un fs ex H (upd H a o) h h' where
 keep:=λb u q _ _ _=>k b u q
 slot:=λb u q _ _ _=>⟨u.slots,k b u q⟩
 free:=λb u q n _=>by rw[Ad (JV (QF (GQ q) hp))];exact n
 there:=λb u q _=>⟨u,k b u q⟩
 tups:=λb xs q=>by rw[Ad (Ay q hn)];exact q
 frzs:=λb u xs q=>by rw[Ad (Ay q hn)];exact q
 tbls:=λb ps q=>⟨#[],by rw[Ad (Ay q hn),q];simp⟩
def Un.write(m:Mut (H x))(B:e=x\/H e=some (.own x))(k:∀b u,b≠e->h.get? b=some u->h'.get? b=some u)(s:∃u,h'.get? e=some u):Un fs ex H (upd H x o) h h':=by
 have v:∀b,H b=none->b≠x:=λb n z=>by subst z;rw[n]at m;exact m
 have y:∀b,H b=none->b≠e:=λb n z=>by
  subst z;rcases B with r |r
  ·exact v b n r
  ·rw[n]at r;cases r
 have p:∀b u,H b=some u->¬ Mut (some u)->b≠x:=λb u q A z=>by subst z;rw[q]at m;exact A m
 refine⟨λb u q n _ _=>k b u (y b n) q,λb u q n _ _=>⟨u.slots,k b u (y b n) q⟩,λb u q n _=>by rw[Ad (v b n)];exact n,λb u q _=>?_,
  λb xs q=>by rw[Ad (p b _ q λz=>z)];exact q,λb u xs q=>by rw[Ad (p b _ q λz=>z)];exact q,λb ps q=>⟨#[],by rw[Ad (p b _ q λz=>z),q];simp⟩⟩
 by_cases l:b=e
 ·subst l;exact s
 ·exact⟨u,k b u l q⟩
end
def trk(h:CP)(H:Hp):List BK:=(List.range h.objs.size).filter λa=>(H a).isSome
def Xb(h:CP)(H:Hp):CP:=W.hideAll h (trk h H)
def kf4(h:CP)(H:Hp):(Xb h H).objs.size=h.objs.size:=W.hideAll_size _ _
def kp2{b:BK}{o:FZ}(e:h.get? b=some o)(n:H b=none):(Xb h H).get? b=some o:=
 W.hideAll_get _ e λc=>by have q:(H b).isSome=true:=(QD.mp c).2;rw[n]at q;simp at q
def wh1{b:BK}{o:FZ}(e:(Xb h H).get? b=some o):h.get? b=some o/\H b=none:=by
 have c:h.get? b=some o:=W.of_hideAll (trk h H) e;refine⟨c,?_⟩;cases q:H b with
 |none=>rfl
 |some x=>have f:b∈trk h H:=QD.mpr ⟨KY.mpr (GQ c),by simp[q]⟩;have z:(Xb h H).get? b=none:=W.hideAll_none (trk h H) f;rw[z]at e;cases e
structure Mod(K:B_)(mg:BV->Option A_)(base:CP):Prop where
 kin:K.In base
 glob:base.Ns HS mg
 blt:∃mb,base.Ns KD mb/\∀x:BV,x ≠ "__name__"->mb x=FQ x
 nolimit:base.NoLimit
structure Cx where
 prog:BZ
 w:CV
 K:B_
 mg:BV->Option A_
 base:CP
 A:DK
 N:List BV
 s₀:BJ
 H₀:Hp
 env:JT
 outer:List JT
 stack:List JT
 ex:List BK
 fn:BV->Bool
 calm:Bool
 pn:List (BK×FZ)
 xe:A_->BJ->Prop
def frs(l:List JT):List BK:=l.filterMap (·.frame)
abbrev Cx.fs(X:Cx):List BK:=frs X.outer
def Vis(sc:HR)(x:BV):Prop:=sc.names.lookup x=some .local\/sc.names.lookup x=some .cell\/sc.names.lookup x=some .free
def Loc(sc:HR)(x:BV):Prop:=sc.names.lookup x=some .local\/sc.names.lookup x=some .cell
def Look(env:JT)(h:CP)(m:BV->Option A_)(x:BV)(u:A_):Prop:=
 (env.kindOf x=some .local/\m x=some u)\/((env.kindOf x=some .cell\/env.kindOf x=some .free)/\∃c,env.cells.lookup x=some c/\h.IsCell c (some u))
structure Cx.Ok(X:Cx):Prop where
 mod:Mod X.K X.mg X.base
 kind:X.env.scope.kind=.function
 glob:X.env.globals=HS
 blt:X.env.builtins=KD
 above:X.s₀.heap.objs.size<=X.env.locals
 inj:∀x y c,X.env.cells.lookup x=some c->X.env.cells.lookup y=some c->x=y
 has:∀x,(X.env.kindOf x=some .cell\/X.env.kindOf x=some .free)->∃c,X.env.cells.lookup x=some c
 cab:∀x c,X.fn x=true->X.env.cells.lookup x=some c->X.s₀.heap.objs.size<=c
 hd:X.calm=true->X.A.handled=none
 frames:X.A.frames=some X.stack
 stk:X.stack=X.outer\/(X.stack=X.env::X.outer/\X.env.frame=some X.env.locals)
 exf:∀b∈X.ex,b≠X.env.locals/\∀x c,X.env.cells.lookup x=some c->c≠b
 bs:∀b o,X.base.get? b=some o->X.s₀.heap.get? b=some o/\X.H₀ b=none
 bsz:X.base.objs.size<=X.s₀.heap.objs.size
 noex:∀b o,X.base.get? b=some o->b∉X.ex
 exfs:∀b∈X.ex,b∉X.fs
 funs:X.s₀.heap.FunFrames X.base X.outer
 frf:∀b∈X.fs,X.H₀ b=none
structure Inv(X:Cx)(pins:List (BK×FZ))(σ:List (Option V))(H:Hp)(s:BJ):Prop where
 ok:X.Ok
 os:s.os=X.s₀.os
 bare:M_ s.gens
 base:Un X.fs X.ex X.H₀ H X.s₀.heap s.heap
 loc:∃m,s.heap.Ns X.env.locals m/\∀(i:Nat)(x:BV)(v:V),X.N[i]? = some x->σ[i]? = some (some v)->Vis X.env.scope x->∃u,RelV v u/\Look X.env s.heap m x u
 cell:∀x c,X.env.cells.lookup x=some c->∃v,s.heap.IsCell c v
 free:H X.env.locals=none
 freeC:∀x c,X.env.cells.lookup x=some c->H c=none
 pin:∀p∈X.pn++pins,s.heap.get? p.1=some p.2/\H p.1=none/\p.1≠X.env.locals/\p.1∉X.fs/\∀v,p.2.data≠.cell v
 hok:HOk X.prog X.w H s.heap
 len:σ.length=X.N.length
variable {X:Cx}{pins:List (BK×FZ)}{s:BJ}
variable {u:A_}{t' i j:Nat}{it:BK}{A:DK}{v:V}{s':BJ}
section
variable {σ:List (Option V)}
def Cx.Ok.nofr(ok:X.Ok){b:BK}{o:FZ}(e:X.base.get? b=some o):b∉X.fs:=λc=>by have:=(ok.funs.mem c).1;rw[e]at this;cases this
def Inv.bs(I:Inv X pins σ H s):∀b o,X.base.get? b=some o->s.heap.get? b=some o/\H b=none:=λb o e =>
 ⟨I.base.keep b o (I.ok.bs b o e).1 (I.ok.bs b o e).2 (I.ok.nofr e) (I.ok.noex b o e),I.base.free b o (I.ok.bs b o e).1 (I.ok.bs b o e).2 (I.ok.noex b o e)⟩
def Inv.bk(I:Inv X pins σ H s):∀b o,X.base.get? b=some o->s.heap.get? b=some o:=λb o e=>(I.bs b o e).1
def Inv.mod(I:Inv X pins σ H s):Mod X.K X.mg X.base:=I.ok.mod
def Inv.RN(I:Inv X pins σ H s):X.K.In s.heap:=I.ok.mod.kin.keeps I.bk
def Inv.nolimit(I:Inv X pins σ H s):s.heap.NoLimit:=I.ok.mod.nolimit.keeps I.bk
def Inv.lt(I:Inv X pins σ H s):X.env.locals<s.heap.objs.size:=let ⟨_,b,_⟩:=I.loc;b.lt
def Inv.sz(I:Inv X pins σ H s):X.s₀.heap.objs.size<=s.heap.objs.size:=QW I.ok.above (aU I.lt)
def Inv.nofs(I:Inv X pins σ H s)(h:s.heap.objs.size<=a):a∉X.fs:=λc=>by have⟨_,o,b,_⟩:=I.ok.funs.mem c;exact absurd (QF (GQ b) (QW I.sz h)) (T_ _)
def Inv.cne(I:Inv X pins σ H s):∀x c,X.env.cells.lookup x=some c->c≠X.env.locals:=λx c e z=>by have⟨v,o,g,k⟩:=I.cell x c e;obtain⟨m,⟨l,n,p,b,f,_⟩,_⟩:=I.loc;rw[z,b]at g;cases g;rw[f]at k;cases k
def Inv.funs(I:Inv X pins σ H s):s.heap.FunFrames X.base X.outer:=by
 have all:∀(l:List JT),(∀b∈frs l,b∈X.fs)->X.s₀.heap.FunFrames X.base l->s.heap.FunFrames X.base l:=by
  intro l;induction l with
  |nil=>intro _ _;trivial
  |cons env r m=>intro k y;obtain⟨B,⟨L,o,c,q,p,C⟩,n⟩:=y;have g:L∈X.fs:=k L (by unfold frs;rw[dN,c];exact LK);have⟨E,e⟩:=I.base.slot L o p (I.ok.frf L g) g λz=>I.ok.exfs L z g;exact⟨B,⟨L,_,c,q,e,C⟩,m (λb f=>k b (by unfold frs;rw[dN,c];exact JW _ f)) n⟩
 exact all X.outer (λ_ f=>f) I.ok.funs
def Inv.stack(I:Inv X pins σ H s):s.heap.FunFrames X.base X.stack:=by
 rcases I.ok.stk with e | ⟨e,c⟩
 ·rw[e];exact I.funs
 ·rw[e];obtain⟨m,b,_⟩:=I.loc;refine .cons (by rw[I.ok.kind];decide) c b ?_ I.funs;exact jGi (QW I.ok.bsz I.ok.above)
def Inv.stkSub(I:Inv X pins σ H s):∀b∈frs X.stack,b∈X.env.locals::X.fs:=λb c=>by
 rcases I.ok.stk with e | ⟨e,f⟩
 ·rw[e]at c;exact JW _ c
 ·rw[e]at c;unfold frs at c;rw[dN,f]at c;exact c
def Inv.stkFree(I:Inv X pins σ H s):∀b∈frs X.stack,H b=none:=λb c=>by
 rcases HY.mp (I.stkSub b c) with e |c
 ·rw[e];exact I.free
 ·have⟨_,o,f,_⟩:=I.ok.funs.mem c;exact I.base.free b o f (I.ok.frf b c) λz=>I.ok.exfs b z c
def Inv.step{g':Array WT}{d':dW}{ch:List BK}(I:Inv X pins σ H s)
  (y:∀b∈ch,(b∈X.ex\/X.s₀.heap.objs.size<=b)/\b≠X.env.locals/\(∀x c,X.env.cells.lookup x=some c->c≠b)/\∀p∈X.pn++pins,p.1≠b)
  (keep:∀b o,b≠X.env.locals->b∉X.fs->b∉ch->s.heap.get? b=some o->H b=none->h'.get? b=some o)
  (slot:∀b o,b≠X.env.locals->b∈X.fs->b∉ch->s.heap.get? b=some o->H b=none->∃Q,h'.get? b=some {o with slots:=Q})(free:∀b o,b∉ch->s.heap.get? b=some o->H b=none->H' b=none)
  (there:∀b o,b∉ch->s.heap.get? b=some o->∃J,h'.get? b=some J)
  (tups:∀b xs,H b=some (.tup xs)->H' b=some (.tup xs))(L:∀b o u,H b=some (.frz o u)->H' b=some (.frz o u))(G:∀b ps,H b=some (.tbl ps)->∃more,H' b=some (.tbl (ps++more)))
  (ns:∀m,s.heap.Ns X.env.locals m->h'.Ns X.env.locals m)(T:HOk X.prog X.w H' h')(hg:M_ g'):
  Inv X pins σ H' {s with heap:=h',gens:=g',drawn:=d',toks:=t'}:=by
 have K:∀b o,X.s₀.heap.get? b=some o->b≠X.env.locals:=λb o e=>JV (QF (GQ e) I.ok.above);have B:∀b o,X.s₀.heap.get? b=some o->b∉X.ex->b∉ch:=λb o e f E=>by
  rcases(y b E).1 with z |z
  ·exact f z
  ·exact absurd (QF (GQ e) z) (T_ _)
 have cellK:∀x c,X.env.cells.lookup x=some c->∀v,s.heap.IsCell c v->h'.IsCell c v:=λx c e v ⟨o,F,U⟩=>by
  have g:c∉ch:=λz=>(y c z).2.2.1 x c e rfl;by_cases hc:c∈X.fs
  ·have⟨Q,q⟩:=slot c o (I.cne x c e) hc g F (I.freeC x c e);exact⟨_,q,U⟩
  ·exact⟨o,keep c o (I.cne x c e) hc g F (I.freeC x c e),U⟩
 refine⟨I.ok,I.os,hg,⟨λb o e n E f=>?_,λb o e n E f=>?_,λb o e n f=>?_,λb o e f=>?_,λb xs e=>tups b xs (I.base.tups b xs e),λb o xs e=>L b o xs (I.base.frzs b o xs e),λb ps e=>?_⟩,?_,λx c e=>?_,?_,λx c e=>?_,λp Z=>?_,T,I.len⟩
 ·exact keep b o (K b o e) E (B b o e f) (I.base.keep b o e n E f) (I.base.free b o e n f)
 ·have⟨Q,C⟩:=I.base.slot b o e n E f;have⟨O,M⟩:=slot b _ (K b o e) E (B b o e f) C (I.base.free b o e n f);exact⟨O,M⟩
 ·have⟨J,C⟩:=I.base.there b o e f;exact free b J (B b o e f) C (I.base.free b o e n f)
 ·have⟨J,C⟩:=I.base.there b o e f;exact there b J (B b o e f) C
 ·have⟨m1,C⟩:=I.base.tbls b ps e;have⟨m2,M⟩:=G b _ C;exact⟨m1++m2,by rw[M,qR]⟩
 ·obtain⟨m,hn,hl⟩:=I.loc;refine⟨m,ns m hn,λi x v C M e3=>?_⟩;have⟨u,r,l⟩:=hl i x v C M e3;refine⟨u,r,?_⟩;rcases l with l | ⟨k,c,e,z⟩
  ·exact .inl l
  ·exact .inr ⟨k,c,e,cellK x c e _ z⟩
 ·have⟨v,z⟩:=I.cell x c e;exact⟨v,cellK x c e v z⟩
 ·obtain⟨m,⟨o,_,_,F,_⟩,_⟩:=I.loc;exact free _ o (λz=>(y _ z).2.1 rfl) F I.free
 ·have⟨v,o,F,U⟩:=I.cell x c e;exact free c o (λz=>(y c z).2.2.1 x c e rfl) F (I.freeC x c e)
 ·have⟨e,n,ne,Y,d⟩:=I.pin p Z;have g:p.1∉ch:=λz=>(y p.1 z).2.2.2 p Z rfl;exact⟨keep p.1 p.2 ne Y g e n,free p.1 p.2 g e n,ne,Y,d⟩
def Inv.un(I:Inv X pins σ H s)(u:Un X.fs [] H H' s.heap h')(f:HOk X.prog X.w H' h'):Inv X pins σ H' {s with heap:=h',toks:=t'}:=by
 have⟨m,⟨o,G,J,p,r⟩,_⟩:=id I.loc;have⟨C,B⟩:=u.any p I.free (by simp);exact I.step (g':=s.gens) (d':=s.drawn) (ch:=[]) (λ_ z=>nomatch z) (λb o _ g _ e n=>u.keep b o e n g (by simp)) (λb o _ g _ e n=>u.slot b o e n g (by simp)) (λb o _ e n=>u.free b o e n (by simp)) (λb o _ e=>u.there b o e (by simp)) u.tups u.frzs u.tbls (λF y=>by
  obtain⟨E,k,l,c,q⟩:=y;rw[p]at c;cases c;exact⟨_,k,l,B,q⟩) f I.bare
def Inv.call{g':Array WT}{d':dW}{ch:List BK}(I:Inv X pins σ H s)(u:Un (frs X.stack) ch H H' s.heap h')(l:HOk X.prog X.w H' h')(G:M_ g')
  (k:∀b∈ch,(b∈X.ex\/X.s₀.heap.objs.size<=b)/\b≠X.env.locals/\(∀x c,X.env.cells.lookup x=some c->c≠b)/\∀p∈X.pn++pins,p.1≠b):
  Inv X pins σ H' {s with heap:=h',gens:=g',drawn:=d',toks:=t'}:=by
 have⟨m,⟨o,O,Q,C,r⟩,_⟩:=id I.loc;have⟨K,q⟩:=u.any C I.free λz=>(k _ z).2.1 rfl;exact I.step (ch:=ch) k (λb o q J f e n=>u.keep b o e n (λz=>(HY.mp (I.stkSub b z)).elim q J) f) (λb o _ _ f e n=>u.any e n f) (λb o f e n=>u.free b o e n f) (λb o f e=>u.there b o e f) u.tups u.frzs u.tbls (λM F=>by
  obtain⟨L,y,B,g,E⟩:=F;rw[C]at g;cases g;exact⟨_,y,B,q,E⟩) l G
def Inv.turned(I:Inv X pins σ H s)(k:∀b o,b≠it->s.heap.get? b=some o->h'.get? b=some o)(B:H it=none)(l:it≠X.env.locals)
  (J:it∈X.ex\/X.s₀.heap.objs.size<=it)(G:∀x c,X.env.cells.lookup x=some c->c≠it)(F:∀p∈X.pn++pins,p.1≠it):Inv X pins σ H {s with heap:=h',toks:=t'}:=by
 have g:∀b u,H b=some u->b≠it:=λb u e z=>by rw[z,B]at e;cases e
 refine I.step (g':=s.gens) (d':=s.drawn) (ch:=[it]) (λb E=>?_) (λb o _ _ f e _=>k b o (λz=>f (by simp[z])) e) (λb o _ _ f e _=>⟨o.slots,k b o (λz=>f (by simp[z])) e⟩) (λ_ _ _ _ n=>n)
  (λb o f e=>⟨o,k b o (λz=>f (by simp[z])) e⟩) (λ_ _ e=>e) (λ_ _ _ e=>e) (λb ps e=>⟨#[],by rw[e];simp⟩) (λm C=>?_) (λb u e=>?_) I.bare
 ·have e:b=it:=by simpa using E
  subst e;exact⟨J,l,G,F⟩
 ·obtain⟨o,K,L,y,r⟩:=C;exact⟨o,K,L,k _ o (Ne.symm l) y,r⟩
 ·refine(I.hok b u e).stay (λc v f q=>k c v ?_ q) (λ_ q=>q) λ_ _ q=>q;rcases f with z |z
  ·rw[z];exact g b u e
  ·exact g c _ z
def Inv.tok(I:Inv X pins σ H s)(t:Nat):Inv X pins σ H {s with toks:=t}:=I.un (h':=s.heap) (t':=t) Un.refl I.hok
def Inv.kept(I:Inv X pins σ H s)(k:∀b u,s.heap.get? b=some u->h'.get? b=some u):Inv X pins σ H {s with heap:=h',toks:=t'}:=I.un (Un.kept k) (I.hok.kept k)
def Inv.laid(I:Inv X pins σ H s)(k:∀b u,s.heap.get? b=some u->h'.get? b=some u)(c:s.heap.objs.size<=a)(new:Bu X.prog X.w (upd H a o) h' a o):
  Inv X pins σ (upd H a o) {s with heap:=h',toks:=t'}:=I.un (Un.laid k c (I.hok.fresh c)) (I.hok.laid k c new)
def Inv.write{e:BK}(I:Inv X pins σ H s)(f:Mut (H x))(g:e=x\/H e=some (.own x))(k:∀b u,b≠e->s.heap.get? b=some u->h'.get? b=some u)(c:∃u,h'.get? e=some u)
  (new:Bu X.prog X.w (upd H x o) h' x o):Inv X pins σ (upd H x o) {s with heap:=h',toks:=t'}:=I.un (Un.write f g k c) (I.hok.write f g k c new)
def Inv.pins_of{b:List (BK×FZ)}(I:Inv X pins σ H s)(h:∀p∈b,s.heap.get? p.1=some p.2/\H p.1=none/\p.1≠X.env.locals/\p.1∉X.fs/\∀v,p.2.data≠.cell v):Inv X b σ H s:=
 ⟨I.ok,I.os,I.bare,I.base,I.loc,I.cell,I.free,I.freeC,λp c=>(NT.mp c).elim (λz=>I.pin p (X_ _ z)) (h p),I.hok,I.len⟩
def Xu{N:List BV}(c:N.Nodup){x:BV}(a:N[i]? = some x)(b:N[j]? = some x):i=j:=by have⟨k,f⟩:=QK.mp a;have⟨g,e⟩:=QK.mp b;exact(List.getElem_inj c).mp (f.trans e.symm)
theorem zO{M:KR}{E:A_->BJ->Prop}{x:BV}{Q:Unit->BJ->Prop}(I:Inv X pins σ H s)(hN:X.N.Nodup)(hi:X.N[i]? = some x)(B:Loc X.env.scope x)(r:RelV v u)
  (h:∀s',Inv X pins (σ.set i (some v)) H s'->(∃a,Heap.SameBut a s.heap s'.heap/\(a=X.env.locals\/X.env.cells.lookup x=some a))->Q () s')(hf:X.fn x=true\/X.env.scope.names.lookup x=some .local:=by first |exact .inl rfl |exact .inr rfl |assumption):BL M A (storeName X.env x u) Q E s:=by
 have⟨m,hn,hl⟩:=id I.loc;have Y:(X.env.scope.kind == .class || (X.env.scope.kind == .module && X.env.locals != X.env.globals))=false:=by rw[I.ok.kind];rfl
 have J:i<σ.length:=by rw[I.len];exact(QK.mp hi).1
 have cne:=I.cne;have tracked:∀{a:BK}{h':CP},(∃o,s.heap.get? a=some o/\H a=none)->Heap.SameBut a s.heap h'->HOk X.prog X.w H h':=λ{a h'} ha f b ob e=>by
  obtain⟨_,_,C⟩:=ha;refine(I.hok b ob e).stay (λc w' l q=>(f.2 c ?_).trans q) (λ_ q=>q) λ_ _ q=>q;rintro rfl;rcases l with rfl |l
  ·rw[C]at e;cases e
  ·rw[C]at l;cases l
 rcases B with G |G
 ·refine wpAny_storeName_local G hn (λh' ae f=>?_) Y;have⟨oL,_,_,ab,_⟩:=id hn;refine h _ ⟨I.ok,I.os,I.bare,⟨λb o e n O B=>?_,λb o e n O B=>?_,I.base.free,λb o e B=>?_,I.base.tups,I.base.frzs,I.base.tbls⟩,⟨_,ae,λj y v' g F e3=>?_⟩,λy c e=>?_,I.free,I.freeC,λp hp=>?_,tracked ⟨oL,ab,I.free⟩ f,by simpa using I.len⟩ ⟨_,f,.inl rfl⟩
  ·exact(f.2 b (JV (QF (GQ e) I.ok.above))).trans (I.base.keep b o e n O B)
  ·have⟨sl,g⟩:=I.base.slot b o e n O B;exact⟨sl,(f.2 b (JV (QF (GQ e) I.ok.above))).trans g⟩
  ·have⟨o',g⟩:=I.base.there b o e B;exact⟨o',(f.2 b (JV (QF (GQ e) I.ok.above))).trans g⟩
  ·by_cases K:j=i
   ·subst K;rw[hi]at g;cases g;rw[Z1 J]at F;cases F;exact⟨u,r,.inl ⟨G,by simp⟩⟩
   ·rw[QJ (Ne.symm K)]at F;have⟨u',r',q⟩:=hl j y v' g F e3;refine⟨u',r',?_⟩;rcases q with ⟨k,e⟩ | ⟨k,c,e,z⟩
    ·refine .inl ⟨k,?_⟩;have:y≠x:=λe=>K (Xu hN g (e ▸ hi));simp[this,e]
    ·exact .inr ⟨k,c,e,z.sameBut f (cne y c e)⟩
  ·have⟨w',z⟩:=I.cell y c e;exact⟨w',z.sameBut f (cne y c e)⟩
  ·have⟨e,n,ne,nf,d⟩:=I.pin p hp;exact⟨(f.2 p.1 ne).trans e,n,ne,nf,d⟩
 ·have L:X.fn x=true:=by
   rcases hf with z |z
   ·exact z
   ·rw[z]at G;cases G
  have⟨c,l⟩:=I.ok.has x (.inl G);have⟨w',z⟩:=I.cell x c l;refine wpAny_storeName_cell I.ok.kind G l z (λh' aa f=>?_);have⟨oc,U,T⟩:=id z;refine h {s with heap:=h'} ⟨I.ok,I.os,I.bare,⟨λb o e n O B=>?_,λb o e n O B=>?_,I.base.free,λb o e B=>?_,I.base.tups,I.base.frzs,I.base.tbls⟩,⟨m,hn.sameBut f (Ne.symm (cne x c l)),λj y v' g F e3=>?_⟩,λy c' e=>?_,I.free,I.freeC,λp hp=>?_,tracked ⟨oc,U,I.freeC x c l⟩ f,by simpa using I.len⟩ ⟨c,f,.inr l⟩
  ·exact(f.2 b (JV (QF (GQ e) (I.ok.cab x c L l)))).trans (I.base.keep b o e n O B)
  ·have⟨sl,g⟩:=I.base.slot b o e n O B;exact⟨sl,(f.2 b (JV (QF (GQ e) (I.ok.cab x c L l)))).trans g⟩
  ·have⟨o',g⟩:=I.base.there b o e B;exact⟨o',(f.2 b (JV (QF (GQ e) (I.ok.cab x c L l)))).trans g⟩
  ·by_cases K:j=i
   ·subst K;rw[hi]at g;cases g;rw[Z1 J]at F;cases F;exact⟨u,r,.inr ⟨.inl G,c,l,aa⟩⟩
   ·rw[QJ (Ne.symm K)]at F;have⟨u',r',q⟩:=hl j y v' g F e3;refine⟨u',r',?_⟩;rcases q with q | ⟨k,c',e,z'⟩
    ·exact .inl q
    ·refine .inr ⟨k,c',e,z'.sameBut f ?_⟩;rintro rfl;exact K (Xu hN g (I.ok.inj _ _ _ e l ▸ hi))
  ·by_cases Z:c'=c
   ·subst Z;exact⟨_,aa⟩
   ·have⟨w2,z2⟩:=I.cell y c' e;exact⟨w2,z2.sameBut f Z⟩
  ·have⟨e,n,ne,nf,d⟩:=I.pin p hp;refine⟨(f.2 p.1 ?_).trans e,n,ne,nf,d⟩;intro q;rw[q,U]at e;have q':oc=p.2:=Option.some.inj e;exact d w' (by rw[<-q'];exact T)
theorem Yp{M:KR}{E:A_->BJ->Prop}{x:BV}{Q:Unit->BJ->Prop}(I:Inv X pins σ H s)(e:X.N.Nodup)(hi:X.N[i]? = some x)(b:Loc X.env.scope x)(r:RelV v u)
  (h:∀s',Inv X pins (σ.set i (some v)) H s'->Q () s')(c:X.fn x=true\/X.env.scope.names.lookup x=some .local:=by first |exact .inl rfl |exact .inr rfl |assumption):BL M A (storeName X.env x u) Q E s:=
 zO I e hi b r (λs' f _=>h s' f) c
def Inv.call'{ch:List BK}(I:Inv X pins σ H s)(l:s'.os=s.os)(u:Un (frs X.stack) ch H H' s.heap s'.heap)(f:HOk X.prog X.w H' s'.heap)(m:M_ s'.gens)
  (g:∀b∈ch,(b∈X.ex\/X.s₀.heap.objs.size<=b)/\b≠X.env.locals/\(∀x c,X.env.cells.lookup x=some c->c≠b)/\∀p∈X.pn++pins,p.1≠b):Inv X pins σ H' s':=by
 obtain⟨h',g',d',t',k⟩:=s';have e:k=s.os:=l;subst e;exact I.call (g':=g') (t':=t') (d':=d') u f m g
end
abbrev XK:=A_->Option BK->Hp->Prop
abbrev St:=List (Option V)
abbrev VK:=V->Hp->Prop
abbrev TE:=St->Hp->VK->Prop
abbrev TT:=St->Hp->(Bool->Hp->Prop)->Prop
abbrev TA:=St->Hp->(List V->Hp->Prop)->Prop
structure Ends where
 nx:St->Hp->Prop
 rt:VK
 bk:St->Hp->Prop:=λ_ _=>False
 ct:St->Hp->Prop:=λ_ _=>False
abbrev TS:=Ends->St->Hp->Prop
def EP(X:Cx)(pins:List (BK×FZ))(b:St)(Q:VK)(u:A_)(s':BJ):Prop:=∃v H',Inv X pins b H' s'/\RelV v u/\Q v H'
def TP(X:Cx)(pins:List (BK×FZ))(c:St)(Q:Bool->Hp->Prop)(b:Bool)(s':BJ):Prop:=∃H',Inv X pins c H' s'/\Q b H'
def AP(X:Cx)(pins:List (BK×FZ))(c:St)(Q:List V->Hp->Prop)(us:List A_)(s':BJ):Prop:=∃b H',Inv X pins c H' s'/\Vals b us/\Q b H'
def SP(X:Cx)(pins:List (BK×FZ))(D:Ends)(f:Flow)(s':BJ):Prop:=
 match f with
 | .next=>∃b H',Inv X pins b H' s'/\D.nx b H'
 | .brk=>∃b H',Inv X pins b H' s'/\D.bk b H'
 | .cont=>∃b H',Inv X pins b H' s'/\D.ct b H'
 | .ret u=>∃v b H',Inv X pins b H' s'/\RelV v u/\D.rt v H'
def PE(X:Cx)(e:CN)(t:TE):Prop:=
 ∀(pins:List (BK×FZ))(s:BJ)(b:St)(H:Hp)(Q:VK),Inv X pins b H s->t b H Q->BL (BR X.prog X.w) X.A (CZ e X.env) (EP X pins b Q) X.xe s
def PT(X:Cx)(e:CN)(t:TT):Prop:=
 ∀(pins:List (BK×FZ))(s:BJ)(b:St)(H:Hp)(Q:Bool->Hp->Prop),Inv X pins b H s->t b H Q->BL (BR X.prog X.w) X.A (Y_ e X.env (CZ e X.env)) (TP X pins b Q) X.xe s
def PW(X:Cx)(e:CN)(t:TT):Prop:=
 ∀(whole:Sem A_)(pins:List (BK×FZ))(s:BJ)(b:St)(H:Hp)(Q:Bool->Hp->Prop),Inv X pins b H s->t b H Q->BL (BR X.prog X.w) X.A (Y_ e X.env whole) (TP X pins b Q) X.xe s
def PW.pt{e:CN}{t:TT}(h:PW X e t):PT X e t:=h _
def PA(X:Cx)(es:List CN)(t:TA):Prop:=
 ∀(B:JG)(pins:List (BK×FZ))(s:BJ)(b:St)(H:Hp)(Q:List V->Hp->Prop),Inv X pins b H s->t b H Q->BL (BR X.prog X.w) X.A (spliced (HQ B (BP es X.env))) (AP X pins b Q) X.xe s
def PS(X:Cx)(st:DR)(t:TS):Prop:=
 ∀(pins:List (BK×FZ))(s:BJ)(b:St)(H:Hp)(D:Ends),Inv X pins b H s->t D b H->BL (BR X.prog X.w) X.A (exec st X.env) (SP X pins D) X.xe s
def PSs(X:Cx)(st:List DR)(t:TS):Prop:=
 ∀(pins:List (BK×FZ))(s:BJ)(b:St)(H:Hp)(D:Ends),Inv X pins b H s->t D b H->BL (BR X.prog X.w) X.A (execs st X.env) (SP X pins D) X.xe s
def thn{b:Type}{t:Sem b}{Q c:b->BJ->Prop}{M:KR}{E:A_->BJ->Prop}(h:BL M A t Q E s)(e:∀a s,Q a s->c a s):BL M A t c E s:=D_ h e λ_ _ x=>x
def thG{e b:Type}{t:Sem b}{c:St}{R:e->b->Prop}{Q:e->Hp->Prop}{f:b->BJ->Prop}{M:KR}{E:A_->BJ->Prop}
  (h:BL M A t (λu s'=>∃v H',Inv X pins c H' s'/\R v u/\Q v H') E s)(k:∀u s' v H',Inv X pins c H' s'->R v u->Q v H'->f u s'):BL M A t f E s:=D_ h (λu s' q=>let ⟨v,H',I,r,z⟩:=q;k u s' v H' I r z) λ_ _ x=>x
variable {b:CN}{B:JG}{F:TE}
variable {Q:A_->BJ->Prop}
section
def jB(i:Nat):TE:=λc H Q=>∃v,c[i]? = some (some v)/\Q v H
def tC(v:V):TE:=λ_ H Q=>Q v H
def Xw{x:BV}(J:X.N[i]? = some x)(z:Vis X.env.scope x)(n:Zd x:=by decide)(p:(x == ("__classdict__" : BV))=false:=by decide):PE X (.Name x B) (jB i):=by
 intro pins s y H Q I h;obtain⟨v,e,h⟩:=h;obtain⟨m,C,G⟩:=I.loc;have⟨u,r,l⟩:=G i x v J e z;have k:EP X pins y Q u s:=⟨v,H,I,r,h⟩;rcases l with ⟨g,E⟩ | ⟨g,c,q,f⟩
 ·exact bF (wpAny_loadName_local I.ok.kind g C E k) n
 ·rcases g with g |g
  ·exact bF (wpAny_loadName_cell I.ok.kind g q f k) n
  ·exact bF (wpAny_loadName_free I.ok.kind g q f k p) n
def wv7{i j B}:PE X (.Constant (.int i) j B) (tC (.int i)):=λ_ _ _ H _ I h=>wpAny_Constant_int ⟨.int i,H,I.tok _,⟨_,rfl⟩,h⟩
def yg8{b j B}:PE X (.Constant (.bool b) j B) (tC (.bl b)):=λ_ _ _ H _ I h=>Constant_bool ⟨.bl b,H,I,rfl,h⟩
def wv9{j B}:PE X (.Constant .none j B) (tC .non):=λ_ _ _ H _ I h=>Constant_none ⟨.non,H,I,rfl,h⟩
def ww1{x j B}:PE X (.Constant (.str x) j B) (tC (.str x)):=λ_ _ _ H _ I h=>Calls.Constant_str ⟨.str x,H,I.tok _,⟨_,rfl⟩,h⟩
def Gl(X:Cx)(x:BV):Prop:=X.env.kindOf x=some .globalImplicit
def Mf{E:A_->BJ->Prop}{c:St}{x:BV}(I:Inv X pins c H s)(f:Gl X x)(e:X.mg x=some u)(h:Q u s)
  (g:Zd x:=by decide):BL (BR X.prog X.w) X.A (CZ (.Name x B) X.env) Q E s:=
 Calls.Name_function_global I.ok.kind f (Calls.loadGlobal_global (by rw[I.ok.glob];exact I.mod.glob.keeps I.bk) e h) g
def T5{E:A_->BJ->Prop}{c:St}{x:BV}(I:Inv X pins c H s)(k:Gl X x)(g:X.mg x=none)(e:FQ x=some u)(h:Q u s)
  (f:x ≠ "__name__":=by decide)(l:Zd x:=by decide):BL (BR X.prog X.w) X.A (CZ (.Name x B) X.env) Q E s:=by
 obtain⟨p,n,m⟩:=I.mod.blt;exact Calls.Name_function_global I.ok.kind k (Calls.loadGlobal_builtin (by rw[I.ok.glob];exact I.mod.glob.keeps I.bk) g (by rw[I.ok.blt];exact n.keeps I.bk) ((m x f).trans e) h) l
def wi0{x:BV}(e:Gl X x)(c:X.mg x=some u)(r:RelV v u)(f:Zd x:=by decide):PE X (.Name x B) (tC v):=
 λ_ _ _ H _ I h=>Mf I e c ⟨v,H,I,r,h⟩ f
def wh8{x:BV}(g:Gl X x)(f:X.mg x=none)(c:FQ x=some u)(r:RelV v u)(e:x ≠ "__name__":=by decide)(k:Zd x:=by decide):PE X (.Name x B) (tC v):=
 λ_ _ _ H _ I h=>T5 I g f c ⟨v,H,I,r,h⟩ e k
variable {a:CN}{tb:TE}
variable {f e:TT}{rest:List CN}
def yo8(t u:TT):TT:=λg H Q=>t g H λc k=>if c=true then u g k Q else Q false k
def tOr(t u:TT):TT:=λg H Q=>t g H λc k=>if c=true then Q true k else u g k Q
def yp3(t:TT):TT:=λg H Q=>t g H λc k=>Q (!c) k
def wi9(k:PT X a f):PW X (.BoolOp .And [a] B) f:=by
 intro l pins s g H Q I h;refine isTrue_and (thn (k pins s g H Q I h) λc m e=>?_);cases c with
 |true=>exact isTrue_and_nil e
 |false=>exact e
def wx0(k:PT X a f):PW X (.BoolOp .Or [a] B) f:=by
 intro l pins s g H Q I h;refine isTrue_or (thn (k pins s g H Q I h) λc m e=>?_);cases c with
 |false=>exact isTrue_or_nil e
 |true=>exact e
def ww9(y:PT X a f)(r:PW X (.BoolOp .And (b::rest) B) e):PW X (.BoolOp .And (a::b::rest) B) (yo8 f e):=by
 intro p pins s k H Q I h;refine isTrue_and (thn (y pins s k H _ I h) λc q g=>?_);obtain⟨n,m,l⟩:=g;cases c with
 |true=>exact r p pins q k n Q m l
 |false=>exact⟨n,m,l⟩
def yh3(y:PT X a f)(r:PW X (.BoolOp .Or (b::rest) B) e):PW X (.BoolOp .Or (a::b::rest) B) (tOr f e):=by
 intro p pins s k H Q I h;refine isTrue_or (thn (y pins s k H _ I h) λc q g=>?_);obtain⟨n,m,l⟩:=g;cases c with
 |true=>exact⟨n,m,l⟩
 |false=>exact r p pins q k n Q m l
def ww7(k:PT X a f):PT X (.UnaryOp .Not a B) (yp3 f):=by intro pins s g H Q I h;exact isTrue_not (k pins s g H (λc l=>Q (!c) l) I h)
def yi7(F tb:TE):TE:=λg H Q=>F g H λx k=>∃c,x=.bl c/\if c=true then tb g k Q else Q (.bl false) k
def yp4(F tb:TE):TE:=λg H Q=>F g H λx k=>∃c,x=.bl c/\if c=true then Q (.bl true) k else tb g k Q
def ww0{op}{t:TE}(h:PE X a t):PE X (.BoolOp op [a] B) t:=λpins s c H Q I g=>BoolOp_one (h pins s c H Q I g)
def wv6(r:PE X a F)(q:PE X (.BoolOp .And (b::rest) B) tb):PE X (.BoolOp .And (a::b::rest) B) (yi7 F tb):=by
 intro pins s k H Q I h;refine BoolOp_and (thG (r pins s k H _ I h) λv n x m l p g=>?_);obtain⟨c,rfl,g⟩:=g;cases p;refine FN ?_;cases c with
 |true=>exact q pins n k m Q l g
 |false=>exact⟨.bl false,m,l,rfl,g⟩
def yh0(r:PE X a F)(q:PE X (.BoolOp .Or (b::rest) B) tb):PE X (.BoolOp .Or (a::b::rest) B) (yp4 F tb):=by
 intro pins s k H Q I h;refine BoolOp_or (thG (r pins s k H _ I h) λv n x m l p g=>?_);obtain⟨c,rfl,g⟩:=g;cases p;refine FN ?_;cases c with
 |false=>exact q pins n k m Q l g
 |true=>exact⟨.bl true,m,l,rfl,g⟩
def tIf(t:TT)(F tb:TE):TE:=λg H Q=>t g H λc k=>if c=true then F g k Q else tb g k Q
def ku7{c:CN}(q:PT X c f)(y:PE X a F)(r:PE X b tb):PE X (.IfExp c a b B) (tIf f F tb):=by
 intro pins s g H Q I h;refine wpAny_IfExp (thn (q pins s g H _ I h) λd l k=>?_);obtain⟨p,n,m⟩:=k;cases d with
 |true=>exact y pins l g p Q n m
 |false=>exact r pins l g p Q n m
end
def SqL(K:B_)(H:Hp)(a:BK)(xs:List V):Prop:=
 Rd H a (.lst xs) \/
  ∃(o:FZ)(its:Array A_)(n:Nat),K.lookup a=some o/\o.cls=.type "list"/\o.dict=none/\o.data=.seq its n/\its.size<=sizeLine/\Vals xs its.toList
def SqT(K:B_)(H:Hp)(a:BK)(xs:List V):Prop:=
 Rd H a (.tup xs) \/
  ∃(o:FZ)(its:Array A_)(n:Nat),K.lookup a=some o/\o.cls=.type "tuple"/\o.data=.seq its n/\its.size<=sizeLine/\Vals xs its.toList
def yk2:A_->Option V
 | .none=>some .non
 | .bool b=>some (.bl b)
 | .int i _=>some (.int i)
 | .str x _=>some (.str x)
 | .bytes b _=>some (.byt b)
 | .float b _=>some (.flt b)
 | .ref a=>some (.ref a)
 | .type n=>some (.ty n)
 |_=>none
def RelV.abs{x:V}(r:RelV x u):yk2 u=some x:=by
 cases x with
 |non=>cases r;rfl
 |bl _=>cases r;rfl
 |int _=>obtain⟨t,rfl⟩:=r;rfl
 |str _=>obtain⟨t,rfl⟩:=r;rfl
 |byt _=>obtain⟨t,rfl⟩:=r;rfl
 |flt _=>obtain⟨t,rfl⟩:=r;rfl
 |ref _=>cases r;rfl
 |ty _=>cases r;rfl
variable {y:V}
def RelV.inj{x:V}(r:RelV x u)(q:RelV y u):x=y:=Option.some.inj (r.abs.symm.trans q.abs)
def Vals.inj(h:Vals xs us):Vals ys us->xs=ys:=by
 induction h generalizing ys with
 |nil=>intro c;cases c;rfl
 |cons r t f =>
  intro c;cases c with
  |cons e t'=>rw[r.inj e,f t']
variable {σ:St}
variable {K:B_}
section
variable {xs ys:List V}
def SqL.of(h:H a=some (.lst xs)):SqL K H a xs:=.inl (.inl h)
def SqT.of(h:H a=some (.tup xs)):SqT K H a xs:=.inl (.inl h)
theorem Inv.list(I:Inv X pins σ H s)(h:SqL X.K H a xs):∃c:List A_,Vals xs c/\PlainL s.heap a c.toArray/\xs.length<=sizeLine:=by
 rcases h with h | ⟨o,c,n,g,l,k,f,m,r⟩
 ·have⟨z,c,n,r,e⟩:=h.ok I.hok;exact⟨c,r,⟨_,n,e,rfl,rfl,rfl⟩,z⟩
 ·refine⟨c.toList,r,⟨o,n,I.RN a o g,l,k,by simpa using f⟩,?_⟩;have e:=r.length;simp only[ZZ]at e;lia
theorem Inv.tuple(I:Inv X pins σ H s)(h:SqT X.K H a xs):∃c:List A_,Vals xs c/\QG s.heap a c.toArray/\xs.length<=sizeLine:=by
 rcases h with h | ⟨o,c,n,g,k,f,l,r⟩
 ·have⟨z,c,r,p⟩:=h.ok I.hok;exact⟨c,r,p,z⟩
 ·refine⟨c.toList,r,⟨o,I.RN a o g,k,n,by simpa using f⟩,?_⟩;have e:=r.length;simp only[ZZ]at e;lia
def Inv.list_inj(I:Inv X pins σ H s)(h:SqL X.K H a xs)(h':SqL X.K H a ys):xs=ys:=by
 have⟨f,r,⟨o,n,e,_,_,d⟩,_⟩:=I.list h;have⟨c,l,⟨p,q,g,_,_,k⟩,_⟩:=I.list h';rw[e]at g;cases g;rw[d]at k;injection k with m _;have:f=c:=by simpa using congrArg Array.toList m
 subst this;exact r.inj l
def Inv.tuple_inj(I:Inv X pins σ H s)(h:SqT X.K H a xs)(h':SqT X.K H a ys):xs=ys:=by
 have⟨f,r,⟨o,e,_,n,d⟩,_⟩:=I.tuple h;have⟨c,l,⟨p,g,_,q,k⟩,_⟩:=I.tuple h';rw[e]at g;cases g;rw[d]at k;injection k with m _;have:f=c:=by simpa using congrArg Array.toList m
 subst this;exact r.inj l
end
abbrev Cx.wish(X:Cx)(E:A_->BJ->Prop):Cx:={X with xe:=E}
abbrev Cx.nox(X:Cx):Cx:=X.wish λ_ _=>False
def Cx.Ok.wish(ok:X.Ok)(E:A_->BJ->Prop):(X.wish E).Ok:=
 ⟨ok.mod,ok.kind,ok.glob,ok.blt,ok.above,ok.inj,ok.has,ok.cab,ok.hd,ok.frames,ok.stk,ok.exf,ok.bs,ok.bsz,ok.noex,ok.exfs,ok.funs,ok.frf⟩
def Cx.Ok.unwish{E:A_->BJ->Prop}(ok:(X.wish E).Ok):X.Ok:=
 ⟨ok.mod,ok.kind,ok.glob,ok.blt,ok.above,ok.inj,ok.has,ok.cab,ok.hd,ok.frames,ok.stk,ok.exf,ok.bs,ok.bsz,ok.noex,ok.exfs,ok.funs,ok.frf⟩
variable {E:A_->BJ->Prop}
def Inv.wish(I:Inv X pins σ H s)(E:A_->BJ->Prop):Inv (X.wish E) pins σ H s:=⟨I.ok.wish E,I.os,I.bare,I.base,I.loc,I.cell,I.free,I.freeC,I.pin,I.hok,I.len⟩
def Inv.unwish(I:Inv (X.wish E) pins σ H s):Inv X pins σ H s:=⟨I.ok.unwish,I.os,I.bare,I.base,I.loc,I.cell,I.free,I.freeC,I.pin,I.hok,I.len⟩
def SP.unwish{D:Ends}{f:Flow}(h:SP (X.wish E) pins D f s'):SP X pins D f s':=by
 cases f with
 |next=>obtain⟨c,H',I,q⟩:=h;exact⟨c,H',I.unwish,q⟩
 |brk=>obtain⟨c,H',I,q⟩:=h;exact⟨c,H',I.unwish,q⟩
 |cont=>obtain⟨c,H',I,q⟩:=h;exact⟨c,H',I.unwish,q⟩
 |ret u=>obtain⟨v,c,H',I,r,q⟩:=h;exact⟨v,c,H',I.unwish,r,q⟩
def PSs.nox{st:List DR}{t:TS}(h:PSs X.nox st t):PSs X st t:=λpins s σ H D I c =>
 D_ (h pins s σ H D (I.wish _) c) (λ_ _ q=>q.unwish) λ_ _ z=>False.elim z
variable {e:CN}{G:TE}
section
variable {st:DR}{rest:List DR}{t u:TS}
def yj2:TS:=λD σ H=>D.nx σ H
def yp6(t u:TS):TS:=λD σ H=>t {D with nx:=u D} σ H
def wi7:PSs X [] yj2:=λ_ _ σ H _ I h=>K_ ⟨σ,H,I,h⟩
def x_(l:PS X st t)(k:PSs X rest u):PSs X (st::rest) (yp6 t u):=by
 intro pins s σ H D I h;refine RZ (thn (l pins s σ H {D with nx:=u D} I h) λf g q=>?_);cases f with
 |next=>obtain⟨c,H',m,q⟩:=q;exact k pins g c H' D m q
 |ret v=>exact q
 |brk=>exact q
 |cont=>exact q
def vV(c:PS X st t):PSs X [st] t:=by
 intro pins s σ H D I h;refine RZ (thn (c pins s σ H D I h) λf g q=>?_);cases f with
 |next=>exact K_ q
 |ret v=>exact q
 |brk=>exact q
 |cont=>exact q
def Inv.quiet(I:Inv X pins σ H s):interactive X.env=false:=by simp[interactive,I.ok.kind]
def yj0(G:TE):TS:=λD σ H=>G σ H λ_ c=>D.nx σ c
def V1(g:PE X e G)(f:FJ e none B.line X.env=pure false:=by rfl):PS X (.Expr e B) (yj0 G):=by intro pins s σ H D I h;exact iZ (thG (g pins s σ H _ I h) λv m x l k n c=>⟨σ,l,k,c⟩) I.quiet f
def yp5(G:TE):TS:=λD σ H=>G σ H D.rt
def ww6(g:PE X e G):PS X (.Return (some e) B) (yp5 G):=by intro pins s σ H D I h;exact wpAny_Return_some (thG (g pins s σ H _ I h) λv m x l k c f=>⟨x,σ,l,k,c,f⟩)
def yp1(c:TT)(t u:TS):TS:=λD σ H=>c σ H λb f=>if b=true then t D σ f else u D σ f
def yh2{c:CN}{a b:List DR}{q:TT}(n:PT X c q)(r:PSs X a t)(p:PSs X b u):PS X (.If c a b B) (yp1 q t u):=by
 intro pins s σ H D I h;refine wpAny_If (thn (n pins s σ H _ I h) λd g f=>?_);obtain⟨m,l,k⟩:=f;cases d with
 |true=>exact r pins g σ m D l k
 |false=>exact p pins g σ m D l k
end
abbrev TG:=V->St->Hp->(St->Hp->Prop)->Prop
abbrev TGs:=List V->St->Hp->(St->Hp->Prop)->Prop
def PG(X:Cx)(target:CN)(t:TG):Prop:=
 ∀(pins:List (BK×FZ))(s:BJ)(σ:St)(H:Hp)(v:V)(u:A_)(Q:St->Hp->Prop),Inv X pins σ H s->RelV v u->t v σ H Q ->
  BL (BR X.prog X.w) X.A (WN target X.env u) (λ_ s'=>∃c H',Inv X pins c H' s'/\Q c H') X.xe s
def PGs(X:Cx)(ts:List CN)(t:TGs):Prop:=
 ∀(pins:List (BK×FZ))(s:BJ)(σ:St)(H:Hp)(vs:List V)(us:List A_)(Q:St->Hp->Prop),Inv X pins σ H s->Vals vs us->t vs σ H Q ->
  BL (BR X.prog X.w) X.A (assignInOrder ((F_ ts X.env).map (·.2)) us) (λ_ s'=>∃c H',Inv X pins c H' s'/\Q c H') X.xe s
def sZ(i:Nat):TG:=λv σ H Q=>Q (σ.set i (some v)) H
theorem vX{x:BV}(g:X.N.Nodup)(hi:X.N[i]? = some x)(c:Loc X.env.scope x)(f:X.fn x=true\/X.env.scope.names.lookup x=some .local:=by first |exact .inl rfl |exact .inr rfl |assumption):PG X (.Name x B) (sZ i):=by intro pins s σ H v u Q I r h;exact cQ (Yp I g hi c r (λs' k=>⟨_,H,k,h⟩) f)
def ym2:TGs:=λc σ H Q=>c=[]/\Q σ H
def yd5(t:TG)(u:TGs):TGs:=λf σ H Q=>∃v r,f=v::r/\t v σ H λc H'=>u r c H' Q
def wi3:PGs X [] ym2:=by intro pins s σ H c us Q I r h;obtain⟨e,h⟩:=h;subst e;cases r;exact assignInOrder_nil ⟨σ,H,I,h⟩
def kv0{es:List CN}{t:TG}{u:TGs}(p:PG X e t)(n:PGs X es u)
  (m:(F_ (e::es) X.env).map (·.2)=WN e X.env::(F_ es X.env).map (·.2):=by rfl):PGs X (e::es) (yd5 t u):=by
 intro pins s σ H J us Q I r h;obtain⟨v,L,q,h⟩:=h;subst q;cases r with
 |cons r k=>rw[m];refine assignInOrder_cons (thn (p pins s σ H _ _ _ I r h) λ_ g f=>?_);obtain⟨c,C,z,l⟩:=f;exact n pins g c C _ _ Q z k l
def ym3(K:B_)(n:Nat)(t:TGs):TG:=λv σ H Q=>∃a xs,v=.ref a/\SqT K H a xs/\xs.length=n/\t xs σ H Q
variable {k n:Nat}
def ww2{es:List CN}{t:TGs}(J:X.calm=true)(h:PGs X es t)
  (z:(F_ es X.env).length=n:=by rfl)(f:(F_ es X.env).findIdx? (·.1)=none:=by rfl):PG X (.Tuple es k B) (ym3 X.K n t):=by
 intro pins s σ H v u Q I r c;obtain⟨a,xs,L,q,C,c⟩:=c;subst L;cases r;have⟨l,g,p,O⟩:=I.tuple q;refine assign_Tuple_tuple (I.ok.hd J) p (by simp[z,<-C,g.length]) f λh' m=>?_;have M:Inv X pins σ H {s with heap:=h'}:=I.kept (t':=s.toks) λb o e=>m b o (JV (GQ e)) e;exact h pins _ σ H xs _ Q M (by simpa using g) c
def q8(G:TE)(g:TG):TS:=λD σ H=>G σ H λx c=>g x σ c D.nx
variable {tg:CN}
def ww4{g:TG}(z:PE X e G)(r:PG X tg g)(p:swapsWithSole [tg] e B.line X.env=pure false:=by rfl)(m:swappedStores [tg] e X.env=pure none:=by rfl)
  (C:(F_ [tg] X.env).map (·.2)=[WN tg X.env]:=by rfl):PS X (.Assign [tg] e B) (q8 G g):=by
 intro pins s σ H D I h;refine wpAny_Assign_stores (thG (z pins s σ H _ I h) λv c x L J f l=>?_) p m;rw[C];exact thn (r pins c σ L x v _ J f l) λ_ M q=>q
theorem oK{x:BV}{pos':JG}(q:X.N.Nodup)(hi:X.N[i]? = some x)(g:Loc X.env.scope x)(p:PE X e G)(l:FJ e (some (.Name x pos')) B.line X.env=pure false:=by rfl)(m:X.fn x=true\/X.env.scope.names.lookup x=some .local:=by first |exact .inl rfl |exact .inr rfl |assumption):
  PS X (.Assign [.Name x pos'] e B) (q8 G (sZ i)):=by
 intro pins s σ H D I h;refine wpAny_Assign_Name (thG (p pins s σ H _ I h) λv L y C z c f=>?_) l;exact Yp z q hi g c (λJ r=>⟨_,C,r,f⟩) m
structure It where
 go:Nat->Hp->Prop
 yld:Nat->Hp->V->Hp->Prop
 stop:Nat->Hp->Prop
def Rb(X:Cx)(pins:List (BK×FZ))(H:Hp)(b:BK):Prop:=
 H b=none/\b≠X.env.locals/\b∉X.fs/\(b∈X.ex\/X.s₀.heap.objs.size<=b)/\(∀x c,X.env.cells.lookup x=some c->c≠b)/\∀p∈X.pn++pins,p.1≠b
def Inv.fpOk{b:BK}(I:Inv X pins σ H s)(f:s.heap.objs.size<=b)(l:H' b=none):Rb X pins H' b:=by
 refine⟨l,S_ (QF I.lt f),I.nofs f,.inr (QW I.sz f),λx c e z=>?_,λp g z=>?_⟩
 ·have⟨v,q⟩:=I.cell x c e;exact absurd (QF q.lt (by rw[z];exact f)) (T_ _)
 ·exact absurd (QF (GQ (I.pin p g).1) (by rw[z];exact f)) (T_ _)
structure Turn(P:BZ)(w:CV)(K:B_)(tg:CN)(J:It)(fp:List BK)(it:BK)(tn:Nat->CP->Prop):Prop where
 mem:it∈fp
 obj:∀i h,tn i h->∀b∈fp,∃o,h.get? b=some o/\∀v,o.data≠.cell v
 keep:∀i h h',tn i h->(∀b∈fp,∀o,h.get? b=some o->h'.get? b=some o)->tn i h'
 item:∀(X:Cx),X.prog=P->X.w=w->X.K=K->X.calm=true->∀(i:Nat)(pins:List (BK×FZ))(s:BJ)(σ:St)(H:Hp)(E:A_->BJ->Prop),Inv X pins σ H s->(∀b∈fp,Rb X pins H b)->tn i s.heap->J.go i H ->
  BL (BR P w) X.A (JP (.ref it)) (λr s1=>∃u,r=some u /\
   BL (BR P w) X.A (QC tg (.ref it) u) (λ_ s2=>∃x H',Inv X pins σ H' s2/\RelV x u/\J.yld i H x H'/\tn (i+1) s2.heap/\∀b∈fp,H' b=none) E s1) E s
 done:∀(X:Cx),X.prog=P->X.w=w->X.K=K->X.calm=true->∀(i:Nat)(pins:List (BK×FZ))(s:BJ)(σ:St)(H:Hp)(E:A_->BJ->Prop),Inv X pins σ H s->(∀b∈fp,Rb X pins H b)->tn i s.heap->J.stop i H ->
  BL (BR P w) X.A (JP (.ref it)) (λr s1=>r=none/\Inv X pins σ H s1) E s
 self:∀(A:DK)(i:Nat)(s:BJ)(Q:A_->BJ->Prop)(E:A_->BJ->Prop),tn i s.heap->Q (.ref it) s->BL (BR P w) A (YS (.ref it)) Q E s
abbrev TI:=St->Hp->(It->Hp->Prop)->Prop
def PIE(X:Cx)(pins:List (BK×FZ))(σ:St)(tg:CN)(R:It->Hp->Prop)(c:A_)(f:BJ):Prop:=
 ∃(it:BK)(g:List BK)(tn:Nat->CP->Prop)(J:It)(H':Hp),c=.ref it/\Inv X pins σ H' f/\Turn X.prog X.w X.K tg J g it tn/\tn 0 f.heap/\(∀b∈g,Rb X pins H' b)/\R J H'
def PI(X:Cx)(tg iter:CN)(c:TI):Prop:=
 ∀(pins:List (BK×FZ))(s:BJ)(σ:St)(H:Hp)(R:It->Hp->Prop),Inv X pins σ H s->c σ H R ->
  BL (BR X.prog X.w) X.A (CZ iter X.env) (λv f=>BL (BR X.prog X.w) X.A (YS v) (PIE X pins σ tg R) X.xe f) X.xe s
def nO{M:KR}{o:FZ}{n:String}{vs:Array A_}{Q:Unit->BJ->Prop}(f:s.heap.get? it=some o)(m:o.cls=.type n)(l:o.data=.fields vs)
  (g:["enumerate","zip","dict_itemiterator","dict_reverseitemiterator","odict_iterator","itertools.zip_longest","itertools.pairwise"].contains n=false)(c:Q () s):BL M A (QC tg (.ref it) u) Q E s:=by
 unfold QC;cases tg<;>first
  |exact CW c
  | (cases u<;>first
    |exact CW c
    | (refine BX (bD f ?_)
       rw[m,l];show BL M A (if(["enumerate","zip","dict_itemiterator","dict_reverseitemiterator","odict_iterator","itertools.zip_longest","itertools.pairwise"].contains n && vs[0]? == some (CK _))=true then _ else _) Q E s;rw[if_neg (by intro h;rw[g,qD]at h;cases h)];exact CW c))
def Itl(K:B_)(a:BK):It:=
 ⟨λi H=>∃xs x,SqL K H a xs/\xs[i]? = some x,λi H x H'=>H'=H/\∀xs,SqL K H a xs->xs[i]? = some x,λi H=>∃xs,SqL K H a xs/\xs.length<=i⟩
def Itt(K:B_)(a:BK):It:=
 ⟨λi H=>∃xs x,SqT K H a xs/\xs[i]? = some x,λi H x H'=>H'=H/\∀xs,SqT K H a xs->xs[i]? = some x,λi H=>∃xs,SqT K H a xs/\xs.length<=i⟩
def Itr(lo:Int)(n:Nat):It:=⟨λi _=>i<n,λi H x H'=>H'=H/\x=.int (lo+i),λi _=>n<=i⟩
theorem kj9(a it:BK):Turn P w K tg (Itl K a) [it] it (λi h=>h.IsListIter it a i) where
 mem:=by simp
 obj:=λi h st b hb=>by
  have e:b=it:=by simpa using hb
  subst e;obtain⟨o,e,c,d⟩:=st;exact⟨o,e,λv z=>by rw[d]at z;cases z⟩
 keep:=λi h h' st k=>st.at λo e=>k it (by simp) o e
 item:=by intro X hP hw hK hc i pins s σ H E I hf st hg;subst hP hw hK;obtain⟨xs,x,hq,hx⟩:=hg;have⟨its,rv,p,hz⟩:=I.list hq;have⟨u,hu,ru⟩:=rv.get hx;have⟨f0,f1,f2,f3,f4,f5⟩:=hf it (by simp);refine wpAny_pyNext_list_item st p.isList (x:=u) (by simpa using hu) λh' st' sb=>?_;have I1:Inv X pins σ H {s with heap:=h'}:=I.turned (t':=s.toks) (λb o hb e=>(sb.2 b hb).trans e) f0 f1 f3 f4 f5;have⟨o,e,c,d⟩:=id st';exact⟨u,rfl,nO (s:={s with heap:=h'}) e c d (by decide) ⟨x,H,I1,ru,⟨rfl,λys hy=>by rw[I.list_inj hy hq];exact hx⟩,st',λb hb=>(hf b hb).1⟩⟩
 done:=by intro X hP hw hK hc i pins s σ H E I hf st hg;subst hP hw hK;obtain⟨xs,hq,hx⟩:=hg;have⟨its,rv,p,hz⟩:=I.list hq;have⟨f0,f1,f2,f3,f4,f5⟩:=hf it (by simp);have hl:=rv.length;exact wpAny_pyNext_list_end (I.ok.hd hc) st p.isList (by simp;lia) λh' eb=>⟨rfl,I.turned (t':=s.toks) (λb o hb e=>eb b o hb e) f0 f1 f3 f4 f5⟩
 self:=λ_ _ _ _ _ st h=>wpAny_pyIter_listiter st h
theorem ju8(a it:BK):Turn P w K tg (Itt K a) [it] it (λi h=>h.IsTupleIter it a i) where
 mem:=by simp
 obj:=λi h st b hb=>by
  have e:b=it:=by simpa using hb
  subst e;obtain⟨o,e,c,d⟩:=st;exact⟨o,e,λv z=>by rw[d]at z;cases z⟩
 keep:=λi h h' st k=>st.at λo e=>k it (by simp) o e
 item:=by intro X hP hw hK hc i pins s σ H E I hf st hg;subst hP hw hK;obtain⟨xs,x,hq,hx⟩:=hg;have⟨its,rv,p,hz⟩:=I.tuple hq;have⟨u,hu,ru⟩:=rv.get hx;have⟨f0,f1,f2,f3,f4,f5⟩:=hf it (by simp);refine OD st (show s.heap.IsTuple a its.toArray from p) (x:=u) (by simpa using hu) λh' st' sb=>?_;have I1:Inv X pins σ H {s with heap:=h'}:=I.turned (t':=s.toks) (λb o hb e=>(sb.2 b hb).trans e) f0 f1 f3 f4 f5;have⟨o,e,c,d⟩:=id st';exact⟨u,rfl,nO (s:={s with heap:=h'}) e c d (by decide) ⟨x,H,I1,ru,⟨rfl,λys hy=>by rw[I.tuple_inj hy hq];exact hx⟩,st',λb hb=>(hf b hb).1⟩⟩
 done:=by intro X hP hw hK hc i pins s σ H E I hf st hg;subst hP hw hK;obtain⟨xs,hq,hx⟩:=hg;have⟨its,rv,p,hz⟩:=I.tuple hq;have⟨f0,f1,f2,f3,f4,f5⟩:=hf it (by simp);have hl:=rv.length;exact YM (I.ok.hd hc) st (show s.heap.IsTuple a its.toArray from p) (by simp;lia) λh' eb=>⟨rfl,I.turned (t':=s.toks) (λb o hb e=>eb b o hb e) f0 f1 f3 f4 f5⟩
 self:=λ_ _ _ _ _ st h=>wpAny_pyIter_tupleiter st h
theorem ju7(it:BK)(lo:Int)(n:Nat):Turn P w K tg (Itr lo n) [it] it (λi h=>IsRangeIter h it (lo+(i:Nat) * 1) ((n:Int) - (i:Nat)) 1) where
 mem:=by simp
 obj:=λi h st b hb=>by
  have e:b=it:=by simpa using hb
  subst e;exact⟨_,st,λv z=>by
   have z':Data.fields _=Data.cell v:=z;cases z'⟩
 keep:=λi h h' st k=>k it (by simp) _ st
 item:=by intro X hP hw hK hc i pins s σ H E I hf st hg;subst hP hw hK;have⟨f0,f1,f2,f3,f4,f5⟩:=hf it (by simp);have W:=Walks.range (prog:=X.prog) (w:=X.w) (I.ok.hd hc) it lo 1 n;refine W.item i s _ _ hg st λv h' tk hv st' kk=>?_;obtain⟨t,rfl⟩:=hv;have I1:Inv X pins σ H {s with heap:=h',toks:=tk}:=I.turned (λb o hb e=>kk b o (by simpa using hb) e) f0 f1 f3 f4 f5;refine⟨_,rfl,nO (s:={s with heap:=h',toks:=tk}) (n:="range_iterator") st' rfl rfl (by decide) ⟨.int (lo+i),H,I1,⟨t,?_⟩,⟨rfl,rfl⟩,st',λb hb=>(hf b hb).1⟩⟩;rw[Int.mul_one]
 done:=by intro X hP hw hK hc i pins s σ H E I hf st hg;subst hP hw hK;have⟨f0,f1,f2,f3,f4,f5⟩:=hf it (by simp);exact wpAny_pyNext_range_end (I.ok.hd hc) st (by have:n<=i:=hg;lia) λh' eb=>⟨rfl,I.turned (t':=s.toks) (λb o hb e=>eb b o hb e) f0 f1 f3 f4 f5⟩
 self:=λ_ _ _ _ _ st h=>wpAny_pyIter_rangeiter st h
variable {fp:List BK}{z:List DR}
section
variable {tg:CN}
theorem kv8{R:It->Hp->Prop}{lo hi:Int}{t u v:Tok}{tk:Nat}(I:Inv X pins σ H s)(p:-(2 ^ 62)<=lo)(m:lo<2 ^ 62)(l:-(2 ^ 62)<=hi)(g:hi<2 ^ 62)
  (q:R (Itr lo (hi - lo).toNat) H):BL (BR X.prog X.w) X.A (YS (.ref s.heap.objs.size)) (PIE X pins σ tg R) E {s with heap:=s.heap.push {cls:=.type "range",data:=.fields #[.int lo t,.int hi u,.int 1 v] },toks:=tk}:=by
 refine wpAny_pyIter_range (IsRange.new ..) (dY p m l g) ?_;have c:Inv X pins σ H {s with heap:=s.heap.push {cls:=.type "range",data:=.fields #[.int lo t,.int hi u,.int 1 v] },toks:=tk}:=I.kept λb o e=>HF _ e;refine⟨(s.heap.push {cls:=.type "range",data:=.fields #[.int lo t,.int hi u,.int 1 v] }).objs.size,[(s.heap.push {cls:=.type "range",data:=.fields #[.int lo t,.int hi u,.int 1 v] }).objs.size],_,_,H,rfl,
  c.kept (t':=tk) λb o e=>HF _ e,ju7 _ lo (hi - lo).toNat,?_,λb f=>?_,q⟩
 ·have C:lo+((0:Nat):Int) * 1=lo:=by simp
  have r:(((hi - lo).toNat:Nat):Int) - ((0:Nat):Int)=Builtin.Range.rangeSize lo hi 1:=by rw[rangeSize_one];split<;>lia
  show IsRangeIter _ _ (lo+((0:Nat):Int) * 1) ((((hi - lo).toNat:Nat):Int) - ((0:Nat):Int)) 1;rw[C,r];exact L_ _ rfl
 ·have e:b=(s.heap.push {cls:=.type "range",data:=.fields #[.int lo t,.int hi u,.int 1 v] }).objs.size:=by simpa using f
  subst e;exact c.fpOk (FW _) (c.hok.fresh (FW _))
def yd9(F:TA):TI:=λσ H R=>F σ H λc f=>∃j:Int,c=[.int j]/\-(2 ^ 62)<=j/\j<2 ^ 62/\R (Itr 0 j.toNat) f
theorem ki2{a:CN}{F:TA}{p:JG}(J:Gl X "range")(C:X.mg "range" = none)(L:PA X [a] F)(m:BP [a] X.env=[(false,CZ a X.env)]:=by rfl):PI X tg (.Call (.Name "range" p) [a] [] B) (yd9 F):=by
 intro pins s σ H R I h;refine Call_ (T5 I J C cJ (PyProof.Rows.callWith_type1 (thG (L B pins s σ H _ I h) λus T O U M g c=>?_) m rfl));obtain⟨j,e,c,l,q⟩:=c;subst e;cases g with
 |cons r f=>cases f;obtain⟨t,rfl⟩:=r;exact call_range_1 (kv8 M (by lia) (by lia) c l (by simpa using q))
def yp0(p:TI)(g:TG)(tb:TS):TS:=λD σ H=>p σ H λJ r=>∃W:Nat->Nat->St->Hp->Prop,(∃m,W 0 m σ r)/\∀i m σ H,W i m σ H ->
 (J.stop i H/\D.nx σ H)\/(J.go i H/\∃N:St->Hp->Prop,(∀c H',N c H'->∃l,l<m/\W (i+1) l c H')/\∀x H',J.yld i H x H'->g x σ H' λf q=>tb {D with nx:=N,ct:=N,bk:=D.nx} f q)
def Xz(fp:List BK)(h:CP):List (BK×FZ):=fp.filterMap λb=>(h.get? b).map λo=>(b,o)
def Mi{b:BK}{o:FZ}(c:b∈fp)(e:h.get? b=some o):(b,o)∈Xz fp h:=jGt.mpr ⟨b,c,by rw[e];rfl⟩
def ki0{p:BK×FZ}(c:p∈Xz fp h):p.1∈fp/\h.get? p.1=some p.2:=by
 have⟨b,f,e⟩:=jGt.mp c;cases q:h.get? b with
 |none=>rw[q]at e;cases e
 |some o=>rw[q]at e;have g:(b,o)=p:=Option.some.inj e;subst g;exact⟨f,q⟩
def Inv.pinned(I:Inv X pins σ H s)(m:∀b∈fp,Rb X pins H b)(l:∀b∈fp,∃o,s.heap.get? b=some o/\∀v,o.data≠.cell v):Inv X (pins++Xz fp s.heap) σ H s:=
 I.pins_of λp g=>(NT.mp g).elim (λz=>I.pin p (N_ _ z)) λz=>by have⟨c,e⟩:=ki0 z;have⟨C,r,q,_⟩:=m p.1 c;have⟨o,f,d⟩:=l p.1 c;rw[e]at f;cases f;exact⟨e,C,r,q,d⟩
def Inv.unpinned{pl:List (BK×FZ)}(I:Inv X (pins++pl) σ H s):Inv X pins σ H s:=I.pins_of λp c=>I.pin p (N_ _ (X_ _ c))
def nn0{p:Prop}(h:(p->False)->False):p:=iW h
inductive LpI(X:Cx)(pins:List (BK×FZ))(tn:Nat->CP->Prop)(fp:List BK)(W:Nat->Nat->St->Hp->Prop)(n:Nat)(s:BJ):Prop
 |mk (i:Nat) (σ:St) (H:Hp) (I:Inv X pins σ H s) (st:tn i s.heap) (fr:∀b∈fp,H b=none) (w:W i n σ H):LpI X pins tn fp W n s
def ww5{iter:CN}{wi:TI}{g:TG}{tb:TS}(hp:PassesOwn (BR X.prog X.w) X.A X.env X.xe)(hc:X.calm=true)(hi:PI X tg iter wi)(hg:PG X tg g)(C:PSs X z tb)
  (hs:∀x,FP iter X.env x=pure x:=by intro _;rfl):PS X (.For tg iter z [] B) (yp0 wi g tb):=by
 intro pins s σ H D I h;refine wpAny_For (thn (hi pins s σ H _ I h) λv s1 h1=>thn h1 λag s2 h2=>?_) hs;refine nn0 λO=>?_;obtain⟨it,fp,tn,J,H2,e,I2,T,aa,f2,W,⟨m0,w0⟩,turn⟩:=h2;subst e;refine O (codeAny_forLoop_any (LpI X pins tn fp W) ?_ m0 (.mk 0 σ H2 I2 aa (λb C=>(f2 b C).1) w0));clear O;have p:∀{H':Hp},(∀b∈fp,H' b=none)->∀b∈fp,Rb X pins H' b:=λhn b C=>⟨hn b C,(f2 b C).2⟩;clear f2 I2 aa w0 h;intro n s3 q;refine nn0 λO=>?_;obtain⟨i,l,H3,I3,Z,ab,w3⟩:=q;rcases turn i n l H3 w3 with ⟨stop,qn⟩ | ⟨go,N,hN,step⟩
 ·refine O (KZ hp (thn (T.done X rfl rfl rfl hc i pins s3 l H3 X.xe I3 (p ab) Z stop) λr s4 q=>?_));obtain⟨rfl,I4⟩:=q;exact K_ ⟨l,H3,I4,qn⟩
 ·refine O (KZ hp (thn (T.item X rfl rfl rfl hc i pins s3 l H3 X.xe I3 (p ab) Z go) λr s4 q=>?_));clear O;obtain⟨u,rfl,h4⟩:=q;refine KZ hp (thn h4 λ_ s5 q=>?_);refine nn0 λO=>?_;obtain⟨x,H5,I5,r5,y5,Y,af⟩:=q;refine O (KZ hp (thn (hg _ s5 l H5 x u _ (I5.pinned (p af) (T.obj _ _ Y)) r5 (step x H5 y5)) λ_ s6 q=>?_));clear O;obtain⟨ae,H6,I6,q6⟩:=q;refine KZ hp (thn (C _ s6 ae H6 _ I6 q6) λf s7 U=>?_);clear I6 q6 I5 y5 step w3 I3 go;have again:∀{c:St}{M:Hp},Inv X (pins++Xz fp s5.heap) c M s7->N c M->∃m,m<n/\LpI X pins tn fp W m s7:=λ{c M} L n7=>by have⟨m',hm,w7⟩:=hN c M n7;refine⟨m',hm,.mk (i+1) c M L.unpinned (T.keep _ _ _ Y λb C o e=>(L.pin (b,o) (N_ _ (N_ _ (Mi C e)))).1) (λb C=>?_) w7⟩;have⟨o,e,d⟩:=T.obj _ _ Y b C;exact(L.pin (b,o) (N_ _ (N_ _ (Mi C e)))).2.1
  cases f with
  |next=>obtain⟨c,M,L,n7⟩:=U;exact again L n7
  |cont=>obtain⟨c,M,L,n7⟩:=U;exact again L n7
  |brk=>obtain⟨c,M,L,U⟩:=U;exact⟨c,M,L.unpinned,U⟩
  |ret v=>obtain⟨x7,c,M,L,r7,U⟩:=U;exact⟨x7,c,M,L.unpinned,r7,U⟩
end
abbrev R2:=V->V->Hp->VK->Prop
def OpR(X:Cx)(f:A_->A_->Sem A_)(r:R2):Prop:=
 ∀(pins:List (BK×FZ))(s:BJ)(σ:St)(H:Hp)(x y:V)(v u:A_)(Q:VK),Inv X pins σ H s->RelV x v->RelV y u->r x y H Q ->
  BL (BR X.prog X.w) X.A (f v u) (EP X pins σ Q) X.xe s
def UnR(X:Cx)(f:A_->Sem A_)(r:V->Hp->VK->Prop):Prop:=
 ∀(pins:List (BK×FZ))(s:BJ)(σ:St)(H:Hp)(x:V)(v:A_)(Q:VK),Inv X pins σ H s->RelV x v->r x H Q ->
  BL (BR X.prog X.w) X.A (f v) (EP X pins σ Q) X.xe s
def Dc(X:Cx)(f:A_)(r:List V->Hp->VK->Prop):Prop:=
 ∀(pins:List (BK×FZ))(s:BJ)(σ:St)(H:Hp)(xs:List V)(us:List A_)(Q:VK),Inv X pins σ H s->Vals xs us->r xs H Q ->
  BL (BR X.prog X.w) X.A (call f us) (EP X pins σ Q) X.xe s
def yk1(X:Cx)(r:V->Hp->(Bool->Hp->Prop)->Prop):Prop:=
 ∀(pins:List (BK×FZ))(s:BJ)(σ:St)(H:Hp)(x:V)(v:A_)(Q:Bool->Hp->Prop),Inv X pins σ H s->RelV x v->r x H Q ->
  BL (BR X.prog X.w) X.A (truthy v) (TP X pins σ Q) X.xe s
def tOp(r:R2)(F tb:TE):TE:=λσ H Q=>F σ H λx f=>tb σ f λy c=>r x y c Q
def tUn(r:V->Hp->VK->Prop)(F:TE):TE:=λσ H Q=>F σ H λx c=>r x c Q
def rI(C:Int->Int->Prop)(g:Int->Int->V):R2:=λx y H Q=>∃i j,x=.int i/\y=.int j/\C i j/\Q (g i j) H
def rI0(g:Int->Int->V):R2:=λx y H Q=>∃i j,x=.int i/\y=.int j/\Q (g i j) H
def rU(g:Int->V):V->Hp->VK->Prop:=λx H Q=>∃i,x=.int i/\Q (g i) H
variable {c:CN}{q:TE}
variable {g:Int->Int->Int}{r:R2}
section
variable {a:CN}{tb:TE}
def nF(ha:PE X a F)(Z:PE X b tb){R:V->V->Hp->Prop}(I:Inv X pins σ H s)
  (h:F σ H λx J=>tb σ J λy l=>R x y l){f:A_->A_->Sem A_}
  (Y:∀v u C x y l,Inv X pins σ l C->RelV x v->RelV y u->R x y l->BL (BR X.prog X.w) X.A (f v u) Q X.xe C):
  BL (BR X.prog X.w) X.A (CZ a X.env) (λv p=>BL (BR X.prog X.w) X.A (CZ b X.env) (λu m=>BL (BR X.prog X.w) X.A (f v u) Q X.xe m) X.xe p) X.xe s:=by
 refine thG (ha pins s σ H _ I h) λv L x J I1 O U=>?_;refine thG (Z pins L σ J _ I1 U) λu C y l I2 M T=>?_;exact Y v u C x y l I2 O M T
def sU{f:Operator}(C:OpR X (DN f) r)(L:PE X a F)(J:PE X b tb):PE X (.BinOp a f b B) (tOp r F tb):=by intro pins s σ H Q I h;exact wpAny_BinOp (nF L J I h λv u l x y O M p m q=>C pins l σ O x y v u Q M p m q)
def yh1{f:UnaryOp}{r:V->Hp->VK->Prop}(C:UnR X (cR f) r)(J:PE X a F):PE X (.UnaryOp f a B) (tUn r F):=by intro pins s σ H Q I h;exact UnaryOp_ (thG (J pins s σ H _ I h) λv l x M L m p=>C pins l σ M x v Q L m p)
def opI{f:A_->A_->Sem A_}{C:Int->Int->Prop}
  (rule:∀(i j:Int)(t u:Tok)(s:BJ)(Q:A_->BJ->Prop)(E:A_->BJ->Prop),C i j->Q (.int (g i j) s.toks) {s with toks:=s.toks+1}->BL (BR X.prog X.w) X.A (f (.int i t) (.int j u)) Q E s):
  OpR X f (rI C λi j=>.int (g i j)):=by
 intro pins s σ H x y v u Q I m l h;obtain⟨i,j,rfl,rfl,p,q⟩:=h;obtain⟨t,rfl⟩:=m;obtain⟨t',rfl⟩:=l;exact rule i j t t' s _ _ p ⟨.int (g i j),H,I.tok _,⟨_,rfl⟩,q⟩
def m8{f:A_->A_->Sem A_}
  (rule:∀(i j:Int)(t u:Tok)(s:BJ)(Q:A_->BJ->Prop)(E:A_->BJ->Prop),Q (.int (g i j) s.toks) {s with toks:=s.toks+1}->BL (BR X.prog X.w) X.A (f (.int i t) (.int j u)) Q E s):
  OpR X f (rI0 λi j=>.int (g i j)):=by
 intro pins s σ H x y v u Q I m l h;obtain⟨i,j,rfl,rfl,q⟩:=h;obtain⟨t,rfl⟩:=m;obtain⟨t',rfl⟩:=l;exact rule i j t t' s _ _ ⟨.int (g i j),H,I.tok _,⟨_,rfl⟩,q⟩
def jE{f:A_->A_->Sem A_}{g:Int->Int->Bool}
  (rule:∀(i j:Int)(t u:Tok)(s:BJ)(Q:A_->BJ->Prop)(E:A_->BJ->Prop),Q (.bool (g i j)) s->BL (BR X.prog X.w) X.A (f (.int i t) (.int j u)) Q E s):
  OpR X f (rI0 λi j=>.bl (g i j)):=by
 intro pins s σ H x y v u Q I m l h;obtain⟨i,j,rfl,rfl,q⟩:=h;obtain⟨t,rfl⟩:=m;obtain⟨t',rfl⟩:=l;exact rule i j t t' s _ _ ⟨.bl (g i j),H,I,rfl,q⟩
def sH(i j:Int):Prop:=0<=j/\j<=1000000/\i.natAbs<2 ^ 64
def ju9(k:Nat):(0:Int)<=2 ^ k:=by rw[two_pow_cast];exact jGu _
def wu7:OpR X (DN .Add) (rI0 λi j=>.int (i+j)):=m8 λ_ _ _ _ _ _ _ q=>add_int q
def wv5:OpR X (DN .Sub) (rI0 λi j=>.int (i - j)):=m8 λ_ _ _ _ _ _ _ q=>sub_int q
theorem wv0:OpR X (DN .Mod) (rI (λ_ j=>0<j) λi j=>.int (i % j)):=opI λi j _ _ _ _ _ f q=>by have l:(0:Int)<j:=f;exact mod_int' (by lia) (by rw[Int.fmod_eq_emod_of_nonneg i (by lia)];exact q)
def wv1:OpR X (DN .Pow) (rI sH λi j=>.int (i ^ j.toNat)):=opI λ_ _ _ _ _ _ _ f q=>pow_int_small f.1 f.2.1 f.2.2 q
def wv3:OpR X (DN .LShift) (rI sH λi j=>.int (i * 2 ^ j.toNat)):=opI λ_ _ _ _ _ _ _ f q=>lshift_int_small f.1 f.2.1 f.2.2 q
def wv4:OpR X (DN .RShift) (rI (λ_ j=>0<=j) λi j=>.int (i / 2 ^ j.toNat)):=opI λi j _ _ _ _ _ f q =>
 rshift_int f (by rw[jFf i (ju9 _)];exact q)
def wu8:OpR X (DN .BitAnd) (rI0 λi j=>.int (Builtin.bitAnd i j)):=m8 λ_ _ _ _ _ _ _ q=>and_int q
def unI{f:A_->Sem A_}{g:Int->Int}
  (rule:∀(i:Int)(t:Tok)(s:BJ)(Q:A_->BJ->Prop)(E:A_->BJ->Prop),Q (.int (g i) s.toks) {s with toks:=s.toks+1}->BL (BR X.prog X.w) X.A (f (.int i t)) Q E s):
  UnR X f (rU λi=>.int (g i)):=by
 intro pins s σ H x v Q I l h;obtain⟨i,rfl,q⟩:=h;obtain⟨t,rfl⟩:=l;exact rule i t s _ _ ⟨.int (g i),H,I.tok _,⟨_,rfl⟩,q⟩
def wz7:UnR X (cR .USub) (rU λi=>.int (-i)):=unI λ_ _ _ _ _ q=>neg_int q
end
section
variable {a:CN}{tb:TE}
def wr5{Q:VK}{k f:Bool}(I:Inv X pins σ H s)(q:Q (.bl k) H)(e:k=f):EP X pins σ Q (.bool f) s:=by subst e;exact⟨.bl k,H,I,rfl,q⟩
def yg6:OpR X (DG .Lt) (rI0 λi j=>.bl (decide (i<j))):=jE λ_ _ _ _ _ _ _ q=>lt_int q
def yg5:OpR X (DG .LtE) (rI0 λi j=>.bl (decide (i<=j))):=jE λ_ _ _ _ _ _ _ q=>le_int q
def yg4:OpR X (DG .Gt) (rI0 λi j=>.bl (decide (j<i))):=jE λ_ _ _ _ _ _ _ q=>gt_int q
def yg3:OpR X (DG .GtE) (rI0 λi j=>.bl (decide (j<=i))):=jE λ_ _ _ _ _ _ _ q=>ge_int q
def wu9:OpR X (DG .Is) (λx y H Q=>y=.non/\Q (.bl (decide (x=.non))) H):=by
 intro pins s σ H x y v u Q I f l h;obtain⟨rfl,q⟩:=h;cases l;refine is_none_gen (wr5 I q ?_);cases x<;>first
  | (cases f;rfl)
  | (obtain⟨t,rfl⟩:=f;rfl)
def Mp(b:CN){f:YL}(h:f≠.In:=by decide)(l:f≠.NotIn:=by decide):GP f b=false:=by
 have p:(f == CmpOp.In)=false:=by cases f<;>first |rfl |exact absurd rfl h
 have m:(f == CmpOp.NotIn)=false:=by cases f<;>first |rfl |exact absurd rfl l
 cases b<;>simp[GP,p,m]
def wh9{f:YL}(C:OpR X (DG f) r)(M:PE X a F)(L:PE X b tb)(J:GP f b=false):PE X (.Compare a [f] [b] B) (tOp r F tb):=by intro pins s σ H Q I h;exact wpAny_Compare1 (nF M L I h λv u l x y T O p m q=>C pins l σ T x y v u Q O p m q) J
def sI(t:TE):TT:=λσ H Q=>t σ H λx H'=>∃k,x=.bl k/\Q k H'
def wi8{f:YL}(T:OpR X (DG f) r)(Z:PE X a F)(Y:PE X b tb)(U:GP f b=false):PT X (.Compare a [f] [b] B) (sI (tOp r F tb)):=by
 intro pins s σ H Q I h;refine wpAny_isTrue_Compare1 (thG (Z pins s σ H _ I h) λv m x H1 I1 J O=>thn (Y pins m σ H1 _ I1 O) λu l ⟨y,H2,I2,C,M⟩ =>
  thn (T pins l σ H2 x y v u _ I2 J C M) λc s3 ⟨z,H3,I3,p,k,e,L⟩=>?_) U
 subst e;cases p;exact FN ⟨H3,I3,L⟩
def tX(r m:R2)(F tb q:TE):TE:=λσ H Q=>F σ H λx I=>tb σ I λy C=>r x y C λz f=>∃k,z=.bl k /\
 (if k=true then q σ f λl p=>m y l p Q else Q (.bl false) f)
def kv4{m l:YL}{J:R2}(ho:OpR X (DG m) r)(p:OpR X (DG l) J)(ha:PE X a F)(hb:PE X b tb)(hc:PE X c q)
  (hm:lastMarks [m,l] [b,c]=false:=by with_unfolding_all rfl):PT X (.Compare a [m,l] [b,c] B) (sI (tX r J F tb q)):=by
 intro pins s σ H Q I h;refine isTrue_chain (thG (ha pins s σ H _ I h) λv s1 x H1 I1 r1 q1=>test_link (thn (hb pins s1 σ H1 _ I1 q1) λu s2 ⟨y,H2,I2,C,q2⟩ =>
  thn (ho pins s2 σ H2 x y v u _ I2 r1 C q2) λd Z ⟨z,O,M,r3,k,e,L⟩=>?_)) hm
 subst e;cases r3;refine FN ?_;cases k with
 |false=>obtain⟨k',e',q'⟩:=L;cases e';exact ite_ff ⟨O,M,q'⟩
 |true=>refine ite_tt (test_last (thG (hc pins Z σ O _ M L) λU Y T H4 I4 r4 q4=>thG (p pins Y σ H4 y T u U _ I4 C r4 q4) λd' s5 z2 H5 I5 r5 f=>?_));obtain⟨k2,e2,q5⟩:=f;subst e2;cases r5;exact FN ⟨H5,I5,q5⟩
def rZ(K:B_)(x:V)(H:Hp)(k:Bool):Prop:=
 match x with
 | .non=>k=false
 | .bl b=>k=b
 | .int i=>k=(i != 0)
 | .str y=>y.length<=sizeLine/\k=((y.length:Int) != 0)
 | .byt y=>y.size<=sizeLine/\k=((y.size:Int) != 0)
 | .ref p=>(∃xs,SqL K H p xs/\k = !xs.isEmpty)\/(∃xs,SqT K H p xs/\k = !xs.isEmpty)\/∃f,H p=some (.dK f)/\k = !f.isEmpty
 |_=>False
def jr9{l:Type}{f:List (l×V)}{vs:List (l×A_)}(r:KV f vs):(!vs.isEmpty) = !f.isEmpty:=by cases r<;>rfl
def Xj{its:List A_}(r:Vals xs its):(!its.toArray.isEmpty) = !xs.isEmpty:=by cases r<;>simp
def T6:(sizeLine:Nat)<2 ^ 63:=by rw[CQ];decide
theorem wz2:yk1 X (λx H Q=>∃k,rZ X.K x H k/\Q k H):=by
 intro pins s σ H x v Q I J h;obtain⟨k,e,q⟩:=h;have hl:=T6;have Z:sizeLine=16777216:=CQ;cases x with
 |non=>cases J;have f:k=false:=e;subst f;exact truthy_none ⟨H,I,q⟩
 |bl b=>cases J;have f:k=b:=e;subst f;exact FN ⟨H,I,q⟩
 |int i=>obtain⟨t,rfl⟩:=J;have f:k=(i != 0):=e;subst f;exact PySem.P.truthy_int ⟨H,I,q⟩
 |str y=>obtain⟨t,rfl⟩:=J;obtain⟨U,f⟩:y.length<=sizeLine/\k=((y.length:Int) != 0):=e;subst f;exact PySem.P.truthy_str (by lia) ⟨H,I.tok _,q⟩
 |byt y=>obtain⟨t,rfl⟩:=J;obtain⟨U,f⟩:y.size<=sizeLine/\k=((y.size:Int) != 0):=e;subst f;exact W.truthy_bytes (by lia) ⟨H,I.tok _,q⟩
 |ref p =>
  cases J;have f:(∃xs,SqL X.K H p xs/\k = !xs.isEmpty)\/(∃xs,SqT X.K H p xs/\k = !xs.isEmpty)\/∃l,H p=some (.dK l)/\k = !l.isEmpty:=e;rcases f with ⟨xs,L,f⟩ | ⟨xs,L,f⟩ | ⟨l,L,f⟩
  ·subst f;have⟨O,r,pl,T⟩:=I.list L;have C:=r.length;exact wpAny_truthy_list pl.isList (by simp only[KJ];lia) ⟨H,I.tok _,by rw[Xj r];exact q⟩
  ·subst f;have⟨O,r,pl,T⟩:=I.tuple L;have C:=r.length;exact truthy_tuple pl (by simp only[KJ];lia) ⟨H,I.tok _,by rw[Xj r];exact q⟩
  ·subst f;obtain⟨T,Y,M,r,m⟩:l.length<=sizeLine/\(p == GK)=false/\∃M,KV l M/\s.heap.DictOf (Cv X.prog X.w) p M:=I.hok p _ L;have C:l.length=M.length:=Paired.length r;exact wpAny_truthy_dict Y m (by lia) ⟨H,I.tok _,by rw[jr9 r];exact q⟩
 |_=>exact(show False from e).elim
def kv5(C:PE X a F)(p:∀whole,Y_ a X.env whole=(do let v <-whole;UT a.pos;PQ [v] (truthy v))):
  PT X a (λσ H Q=>F σ H λx H'=>∃k,rZ X.K x H' k/\Q k H'):=by
 intro pins s σ H Q I h;exact isTrue_plain (thG (C pins s σ H _ I h) λv f x L J l m=>wz2 pins f σ L x v Q J l m) (p _)
def jt6:OpR X (DN .Add) (λx y H Q=>∃i j,x=.str i/\y=.str j/\i.length+j.length<=sizeLine/\Q (.str (i++j)) H):=by intro pins s σ H x y v u Q I l f h;obtain⟨i,j,rfl,rfl,m,q⟩:=h;obtain⟨t,rfl⟩:=l;obtain⟨t',rfl⟩:=f;exact add_str (λt' p=>⟨.str (i++j),H,I.tok _,⟨_,rfl⟩,q⟩) m
def vals1{x:V}(r:Vals [x] us):∃u,us=[u]/\RelV x u:=by
 cases r with
 |cons l f=>cases f;exact⟨_,rfl,l⟩
def vals2{x:V}(r:Vals [x,y] us):∃u f,us=[u,f]/\RelV x u/\RelV y f:=by
 cases r with
 |cons C p =>
  cases p with
  |cons m l=>cases l;exact⟨_,_,rfl,C,m⟩
def kd4(l:X.calm=true):Dc X (.builtin "min") (λxs H Q=>∃i j,xs=[.int i,.int j]/\Q (.int (if j<i then j else i)) H):=by
 intro pins s σ H xs us Q I r h;obtain⟨i,j,rfl,q⟩:=h;obtain⟨u,m,rfl,⟨t,rfl⟩,⟨t',rfl⟩⟩:=vals2 r;refine min_two_ints (I.ok.hd l) λh' p k=>⟨_,H,I.kept k,?_,q⟩;by_cases f:j<i
 ·rw[if_pos f,if_pos f];exact⟨_,rfl⟩
 ·rw[if_neg f,if_neg f];exact⟨_,rfl⟩
end
theorem kh0{C:BK}{m:BV->Option A_}(n:h.Ns1 C m):∃l,h.get? C=some l/\∀name,W.lookIn name l=some (m name):=by
 obtain⟨o,p,U,J,O,M,_,L⟩:=n;refine⟨o,J,λname=>?_⟩;have e:=L name;unfold nsFind findBy at e;rw[<-Array.find?_toList]at e;unfold W.lookIn;rw[O];dsimp only;split
 ·rename_i y q;rw[q]at e;exact congrArg some e
 ·rename_i q;rw[q]at e;have a:p.toList.any (·.refKey)=false:=by rw[jHa];intro y I;have⟨z,t,f⟩:=M y (Array.mem_toList_iff.mp I);simp[DictEntry.refKey,f]
  have T:¬ p.toList.any (·.refKey)=true:=by rw[a];exact XR
  rw[if_neg T];exact congrArg some e
def V7.some_of{o:Option A_}(r:V7 (some v) o):∃u,o=some u/\RelV v u:=by
 cases o with
 |none=>exact(show False from r).elim
 |some u=>exact⟨u,rfl,r⟩
def kf3(r:RelV v u):W.handedIn u=true:=by
 cases v with
 |non=>cases(show u=Value.none from r);rfl
 |bl b=>cases(show u=Value.bool b from r);rfl
 |int i=>have⟨t,e⟩:=(show ∃t,u=Value.int i t from r);cases e;rfl
 |str x=>have⟨t,e⟩:=(show ∃t,u=Value.str x t from r);cases e;rfl
 |byt b=>have⟨t,e⟩:=(show ∃t,u=Value.bytes b t from r);cases e;rfl
 |flt b=>have⟨t,e⟩:=(show ∃t,u=Value.float b t from r);cases e;rfl
 |ref a=>cases(show u=Value.ref a from r);rfl
 |ty n=>cases(show u=Value.type n from r);rfl
variable {C:BK}
section
variable {dx:BK}{fs:List (BV×V)}{f:BV}{v:V}{A:DK}
def wa6{prog:BZ}{env:JT}{f:BV}(m:GD e f env (CZ e env)=CZ e env)
  (h:BL (BR prog w) A (CZ e env) (λo l=>BL (BR prog w) A (getAttr o f true) Q E l) E s):BL (BR prog w) A (CZ (.Attribute e f B) env) Q E s:=
 Attribute_any_ h (by rw[arm_eval_Attribute,m])
end
structure El(k:Nat)(A:DK):Prop where
 hd:A.handled=none
 dp:A.depth+3 * k+5<VR
 un:A.units+16 * k+200<HX
 gd:A.guards=some []
theorem El.mono(r:El k A)(h:j<=k):El j A:=⟨r.hd,by have:=r.dp;lia,by have:=r.un;lia,r.gd⟩
theorem El.deeper(r:El (k+1) A)(env:JT):El k (A.deeper env):=
 ⟨r.hd,by have:=r.dp;show A.depth+1+3 * k+5<_;lia,by have:=r.un;show A.units+3+16 * k+200<_;lia,r.gd⟩
theorem El.in1(r:El (k+1) A):El k A.in1:=
 ⟨r.hd,by have:=r.dp;show A.depth+3 * k+5<_;lia,by have:=r.un;show A.units+1+16 * k+200<_;lia,r.gd⟩
variable {I:List (BV×A_)}
def js9:(A.under (.builtin "type.__call__" ⟨.ref C::us,I⟩)).depth=A.depth+1:=by
 first |rfl |simp[Around.under,Code.weight,Code.isCreation,Code.isGuard,Code.isCaller,Code.frames,Code.isFrame,guardIds]
def jt0:(A.under (.builtin "type.__call__" ⟨.ref C::us,I⟩)).units=A.units+1:=by
 first |rfl |simp[Around.under,Code.cUnits,Code.frames,Code.isFrame]
theorem El.make(r:El (k+1) A)(C:BK)(us:List A_)(I:List (BV×A_)):El k (A.under (.builtin "type.__call__" ⟨.ref C::us,I⟩)):=
 ⟨r.hd,by have:=r.dp;rw[js9];lia,by have:=r.un;rw[jt0];lia,(by first |exact r.gd | (show(Around.under _ _).guards=_;simp[Around.under,Code.isGuard,guardIds];exact r.gd))⟩
theorem El.depth(r:El k A):A.depth<VR:=by have:=r.dp;lia
def q7:TA:=λ_ H Q=>Q [] H
def sJ(F:TE)(f:TA):TA:=λσ H Q=>F σ H λx m=>f σ m λxs l=>Q (x::xs) l
variable {es:List CN}
section
variable {t:TA}
def Ho:PA X [] q7:=λ_ _ _ _ H Q I h=>Calls.spliced_nil ⟨[],H,I,.nil,h⟩
def Df(O:PE X e G)(M:PA X es t)(L:Zs X.env e es:=by rfl):PA X (e::es) (sJ G t):=by intro B pins s σ H Q I h;rw[L];show BL _ _ (spliced ((false,CZ e X.env)::HQ B (BP es X.env))) _ _ s;refine Calls.spliced_cons (thG (O pins s σ H _ I h) λu f x Z U m J=>?_);exact thG (M B pins f σ Z _ U J) λus s2 xs Y T l p=>⟨x::xs,Y,T,.cons m l,p⟩
def yp7(t:TA):TE:=λσ H Q=>t σ H λxs f=>xs.length<=sizeLine/\∀p,f p=none->Q (.ref p) (upd f p (.tup xs))
def yp2(t:TA):TE:=λσ H Q=>t σ H λxs f=>xs.length<=sizeLine/\∀p,f p=none->Q (.ref p) (upd f p (.lst xs))
def oM{x1}(h:PA X es t):PE X (.Tuple es x1 B) (yp7 t):=by intro pins s σ H Q I p;refine wpAny_Tuple_spliced (thn (h B pins s σ H _ I p) λus f ⟨xs,m,l,r,z,q⟩=>⟨by rw[<-r.length];exact z,?_⟩);have J:m f.heap.objs.size=none:=l.hok.fresh (FW _);refine⟨.ref f.heap.objs.size,upd m f.heap.objs.size (.tup xs),l.laid (t':=f.toks) (λb u e=>HF _ e) (FW _) ?_,rfl,q _ J⟩;exact⟨z,us,r,⟨_,L_ _ rfl,rfl,_,rfl⟩⟩
def wv8(h:PA X es t):PE X (.List es B) (yp2 t):=by intro pins s σ H Q I p;refine wpAny_List_spliced (thn (h B pins s σ H _ I p) λus f ⟨xs,m,l,r,z,q⟩=>⟨by rw[<-r.length];exact z,?_⟩);have J:m f.heap.objs.size=none:=l.hok.fresh (FW _);refine⟨.ref f.heap.objs.size,upd m f.heap.objs.size (.lst xs),l.laid (t':=f.toks) (λb u e=>HF _ e) (FW _) ?_,rfl,q _ J⟩;exact⟨z,us,0,r,L_ _ rfl⟩
end
abbrev Sp:=List V->Hp->VK->XK->Prop
abbrev CXT:=List JT->Hp->BJ->XK->A_->BJ->Prop
structure dD(P:BZ)(w:CV)(K:B_)(mg:BV->Option A_)(base:CP)(A:DK)(outer:List JT)(s:BJ)(H:Hp):Prop where
 frames:A.frames=some outer
 mod:Mod K mg base
 bs:∀b o,base.get? b=some o->s.heap.get? b=some o/\H b=none
 bsz:base.objs.size<=s.heap.objs.size
 funs:s.heap.FunFrames base outer
 frf:∀b∈frs outer,H b=none
 hok:HOk P w H s.heap
 bare:M_ s.gens
def CE(outer:List JT)(P:BZ)(w:CV)(H:Hp)(s:BJ)(Q:VK)(u:A_)(s':BJ):Prop:=
 ∃v H',s'.os=s.os/\M_ s'.gens/\Un (frs outer) [] H H' s.heap s'.heap/\HOk P w H' s'.heap/\RelV v u/\Q v H'
def CR(f:CXT)(outer:List JT)(P:BZ)(w:CV)(H:Hp)(s:BJ)(Q:VK)(E:XK)(r:WQ)(s':BJ):Prop:=
 match r with
 | .ok (.ret u)=>CE outer P w H s Q u s'
 | .ok _=>False
 | .error e=>f outer H s E e s'
structure Hh(P:BZ)(w:CV)(K:B_)(mg:BV->Option A_)(base:CP)(CX:CXT)(k:Nat)(f:BK)(fd:DQ)(ps:List BV)(sp:Sp):Prop where
 len:∀vs H Q E,sp vs H Q E->vs.length=ps.length
 run:∀(A:DK)(outer:List JT)(s:BJ)(H:Hp)(args:Args)(us:List A_)(vs:List V)(Q:VK)(E:XK),El k A->dD P w K mg base A outer s H->ZG s fd args (ps.zip us)->Vals vs us->sp vs H Q E ->
  JS (BR P w) A (.call (.ref f) args) (CR CX outer P w H s Q E) s
variable {mg:BV->Option A_}
def dD.make{base:CP}{outer:List JT}(e:dD P w K mg base A outer s H)(C:BK)(us:List A_)(I:List (BV×A_)):
  dD P w K mg base (A.under (.builtin "type.__call__" ⟨.ref C::us,I⟩)) outer s H:=⟨by first |exact e.frames | (simpa[Around.under,Code.envs,Code.isFrame,pushEnvs] using e.frames),e.mod,e.bs,e.bsz,e.funs,e.frf,e.hok,e.bare⟩
section
variable {s':BJ}
def Inv.env0(I:Inv X pins σ H s):dD X.prog X.w X.K X.mg X.base X.A X.stack s H:=
 ⟨I.ok.frames,I.ok.mod,I.bs,QW I.ok.bsz I.sz,I.stack,I.stkFree,I.hok,I.bare⟩
def Inv.after{Q:VK}(I:Inv X pins σ H s)(h:CE X.stack X.prog X.w H s Q u s'):EP X pins σ Q u s':=by obtain⟨v,H',m,bare,un,l,r,q⟩:=h;obtain⟨p,g,d,t,f⟩:=s';obtain rfl:f=s.os:=m;exact⟨v,H',I.call (h':=p) (g':=g) (d':=d) (t':=t) (ch:=[]) un l bare (λb z=>absurd z (by simp)),r,q⟩
end
def yi9(m:Sp)(f:List V)(E:XK)(t:TA):TE:=λσ H Q=>t σ H λl p=>m (l++f) p Q E
def Binds(K:B_)(f:DQ)(ps:List BV)(ds:List A_):Prop:=
 ∀(s:BJ)(us:List A_),K.In s.heap->(us++ds).length=ps.length->ZG s f ⟨us,[]⟩ (ps.zip (us++ds))
def Binds.all{l:DQ}{ps:List BV}(h:∀us:List A_,us.length=ps.length->O_ l ⟨us,[]⟩=pure (ps.zip us)):Binds K l ps []:=λs us _ f=>by rw[WW]at f ⊢;exact .of_eq (h us f)
def Passes(f:CXT)(X:Cx)(E:XK):Prop:=∀(pins:List (BK×FZ))(σ:St)(H:Hp)(s:BJ)(e:A_)(s':BJ),Inv X pins σ H s->f X.stack H s E e s'->X.xe e s'
variable {p:JG}
variable {vs:List V}
section
variable {CX:CXT}{k:Nat}{f:BK}{fd:DQ}{ps:List BV}{sp:Sp}{l:List V}{ds:List A_}{E:XK}{x m:BV}{apos:JG}{o:CN}{t:TA}
def wx6{Q:VK}(F:Hh X.prog X.w X.K X.mg X.base CX k f fd ps sp)(O:El k X.A)(Y:Binds X.K fd ps ds)(U:Vals l ds)(M:Passes CX X E)
  (I:Inv X pins σ H s)(r:Vals vs us)(h:sp (vs++l) H Q E):BL (BR X.prog X.w) X.A (call (.ref f) us) (EP X pins σ Q) X.xe s:=by
 have L:Vals (vs++l) (us++ds):=r.append U;have T:(us++ds).length=ps.length:=by rw[<-L.length];exact F.len _ _ _ _ h
 refine JD (HD (F.run X.A X.stack s H ⟨us,[]⟩ (us++ds) (vs++l) Q E O I.env0 (Y s us I.RN T) L h) λr s' J=>?_);cases r with
 |error e=>exact M pins σ H s e s' I J
 |ok Z =>
  cases Z with
  |ret u=>exact I.after J
  |next=>exact False.elim J
  |brk=>exact False.elim J
  |cont=>exact False.elim J
def pG(F:Hh X.prog X.w X.K X.mg X.base CX k f fd ps sp)(T:El k X.A)(Z:Gl X x)(U:X.mg x=some (.ref f))(Y:W.keepIn X.K (.ref f)=true)(hb:Binds X.K fd ps ds)(hd:Vals l ds)(O:Passes CX X E)
  (ha:PA X (e::es) t)(L:Zd x:=by decide)(he:Zs X.env e es:=by rfl)(J:Zp X.env B es:=by rfl):
  PE X (.Call (.Name x p) (e::es) [] B) (yi9 sp l E t):=by
 intro pins s σ H Q I h;refine HB (Mf I Z U ?_ L);refine W.callWith_K (h₀:=X.base) I.ok.mod.kin Y (thG (ha B pins s σ H _ I h) λus s1 vs H1 M r q=>⟨M.RN,?_⟩) he J;exact wx6 F T hb hd O M r q
end
structure Ez(N P:List BV)(sc:HR):Prop where
 kind:sc.kind=.function
 co:sc.isCoroutine=false
 gen:sc.isGenerator=false
 nd:N.Nodup
 pre:N.take P.length=P
 par:∀x∈P,sc.names.lookup x=some .local\/sc.names.lookup x=some .cell
 nofree:∀y∈sc.names,y.2≠.free
theorem Zi{kindOf:BV->Option GF}{x:BV}:∀{binds:List (BV×A_)}{m:BV->Option A_},(∀v,(x,v)∉binds)->YG kindOf binds m x=m x
 | [],_,_=>rfl
 | (n,v)::r,m,h=>by
  unfold YG;rw[Zi λw f=>h w (JW _ f)];split
  ·have:x≠n:=by rintro rfl;exact h v LK
   simp[this]
  ·rfl
theorem Zg{kindOf:BV->Option GF}{x:BV}:∀{binds:List (BV×A_)}{m:BV->Option A_},(∀v,(x,v)∉binds)->YH kindOf binds m x=m x
 | [],_,_=>rfl
 | (n,v)::r,m,h=>by
  unfold YH;rw[Zg λw f=>h w (JW _ f)];split
  ·rfl
  ·have:x≠n:=by rintro rfl;exact h v LK
   simp[this]
def Zh{kindOf:BV->Option GF}{x:BV}{v:A_}:∀{P:List BV}{vs:List A_}{i:Nat}{m:BV->Option A_},P.Nodup->P[i]? = some x->vs[i]? = some v->kindOf x=some .local ->
  YG kindOf (P.zip vs) m x=some v
 | [],_,_,_,_,h,_,_=>by simp at h
 |_::_,[],_,_,_,_,h,_=>by simp at h
 |p::P,w::vs,0,m,nd,l,f,J=>by simp at l f;subst l;subst f;show YG kindOf ((p,w)::P.zip vs) m p=_;unfold YG;rw[Zi λv L=>(VF.mp nd).1 (lW L).1,if_pos J];simp
 |p::P,w::vs,i+1,m,nd,l,f,J=>by show YG kindOf ((p,w)::P.zip vs) m x=_;unfold YG;exact Zh (i:=i) (VF.mp nd).2 (by simpa using l) (by simpa using f) J
def Zf{kindOf:BV->Option GF}{x:BV}{v:A_}:∀{P:List BV}{vs:List A_}{i:Nat}{m:BV->Option A_},P.Nodup->P[i]? = some x->vs[i]? = some v->kindOf x≠some .local ->
  YH kindOf (P.zip vs) m x=some v
 | [],_,_,_,_,h,_,_=>by simp at h
 |_::_,[],_,_,_,_,h,_=>by simp at h
 |p::P,w::vs,0,m,nd,l,f,J=>by simp at l f;subst l;subst f;show YH kindOf ((p,w)::P.zip vs) m p=_;unfold YH;rw[Zg λv L=>(VF.mp nd).1 (lW L).1,if_neg J];simp
 |p::P,w::vs,i+1,m,nd,l,f,J=>by show YH kindOf ((p,w)::P.zip vs) m x=_;unfold YH;exact Zf (i:=i) (VF.mp nd).2 (by simpa using l) (by simpa using f) J
def start(N:List BV)(vs:List V):St:=vs.map some++List.replicate (N.length - vs.length) none
def Vn(CX:CXT)(P:BZ)(w:CV)(K:B_)(mg:BV->Option A_)(base:CP)(N:List BV)(qual:BV)(scope:HR)(f:BK)(cd:A_)(A:DK)(outer:List JT)(s:BJ)(H:Hp)(E:XK):Cx where
 prog:=P
 w:=w
 K:=K
 mg:=mg
 base:=base
 A:=A.deeper (envOfC qual scope s.heap.objs.size f cd)
 N:=N
 s₀:=s
 H₀:=H
 env:=envOfC qual scope s.heap.objs.size f cd
 outer:=outer
 stack:=envOfC qual scope s.heap.objs.size f cd::outer
 ex:=[]
 calm:=true
 fn:=λ_=>true
 pn:=[]
 xe:=λe s'=>BL (BR P w) (A.deeper (envOfC qual scope s.heap.objs.size f cd)) (leaving (envOfC qual scope s.heap.objs.size f cd) e) (λ_ s''=>CX outer H s E e s'') (λe' s''=>CX outer H s E e' s'') s'
def y_{sc:HR}{x:BV}(h:sc.names.lookup x=some .cell):∃c,(EY n sc.names []).lookup x=some c:=by have q:=W.cellsFrom_some sc.names n [] (.inl h);exact mL.mp q
variable {f:BK}{CX:CXT}{qual:BV}
theorem kf7{base:CP}{N ps:List BV}{l:HR}{cd:A_}{outer:List JT}{Z:BJ}{E:XK}
  (S:Ez N ps l)(hd:A.handled=none)(J:dD P w K mg base A outer s H)(hl:vs.length=ps.length)(r:Vals vs us)
  (x:InCallC s s.heap.objs.size (YG (envOfC qual l s.heap.objs.size f cd).kindOf (ps.zip us) λ_=>none) (EY (s.heap.objs.size+1) l.names []) (YH (envOfC qual l s.heap.objs.size f cd).kindOf (ps.zip us) λ_=>none) Z):
  Inv (Vn CX P w K mg base N qual l f cd A outer s H E) [] (start N vs) H Z:=by
 have aa:ps.length<=N.length:=by have:=congrArg List.length S.pre;rw[RC]at this;lia
 obtain⟨Y,tk,rfl,hk⟩:=x.done;have L:∀b:BK,b∉(Vn CX P w K mg base N qual l f cd A outer s H E).ex:=λb z=>absurd (show b∈([]:List BK) from z) (by simp);refine⟨⟨J.mod,S.kind,rfl,rfl,FW _,λy z c Y m=>?_,λy M=>?_,λy c _ h=>?_,λ_=>hd,Around.frames_deeper J.frames,.inr ⟨rfl,rfl⟩,λb z=>absurd z (L b),J.bs,J.bsz,λb _ _=>L b,λb z=>absurd z (L b),J.funs,J.frf⟩,
  rfl,J.bare,Un.kept hk,⟨_,x.toInCall.ns,λi y v Y m h3=>?_⟩,λy c h=>⟨_,x.cell y c h⟩,J.hok.fresh (FW _),λy c h=>?_,λp T=>absurd (show p∈([]:List (BK×FZ)) from T) (by simp),J.hok.kept hk,?_⟩
 ·exact name_of_addr x.apart (PySem.mem_of_lookup Y) (PySem.mem_of_lookup m)
 ·have M:l.names.lookup y=some .cell\/l.names.lookup y=some .free:=M;rcases M with M |M
  ·exact y_ M
  ·exact absurd rfl (S.nofree _ (PySem.mem_of_lookup M))
 ·exact aU (x.above y c (PySem.mem_of_lookup h))
 ·have U:i<vs.length:=by
   unfold start at m;by_cases U:i<vs.length
   ·exact U
   ·rw[YF (by simpa using U)]at m;rw[mK]at m;split at m<;>cases m
  have ha:vs[i]? = some v:=by
   unfold start at m;rw[ZK (by simpa using U),QX]at m;cases e:vs[i]? with
   |none=>rw[e]at m;cases m
   |some a=>rw[e]at m;cases m;rfl
  have⟨u,hu,rv⟩:=r.get ha;have T:ps[i]? = some y:=by rw[<-S.pre,qX (by lia)];exact Y
  have O:ps.Nodup:=by rw[<-S.pre];exact S.nd.sublist (jHb _ _)
  refine⟨u,rv,?_⟩;rcases S.par y (XX T) with k |k
  ·exact .inl ⟨k,Zh O T hu k⟩
  ·have⟨c,e⟩:=y_ (n:=s.heap.objs.size+1) k;refine .inr ⟨.inl k,c,e,?_⟩;have q:=x.cell y c e;rw[Zf O T hu (by show l.names.lookup y≠_;rw[k];decide)]at q;exact q
 ·exact J.hok.fresh (aU (x.above y c (PySem.mem_of_lookup h)))
 ·unfold start;show _=N.length;rw[PB,HN,dO];lia
def j8{base:CP}{name:BV}{params:QZ}{l:HR}{dV kV aa pm m ct oc:A_}{an od:Option BK}
  {ab:Array (Option A_)}{N ps:List BV}{sp:Sp}(lk:K.lookup f=some ⟨oc,od,.func (W.fnOf name qual params z l dV kV aa pm an m ct),ab⟩)(ae:W.codeIn K m qual=true)(S:Ez N ps l)
  (len:∀vs H Q E,sp vs H Q E->vs.length=ps.length)
  (O:∀(A:DK)(outer:List JT)(s:BJ)(H:Hp)(vs:List V)(Q:VK)(E:XK),El k (A.deeper (envOfC qual l s.heap.objs.size f m))->sp vs H Q E ->
   ∃t,PSs (Vn CX P w K mg base N qual l f m A outer s H E) z t/\t {nx:=λ_ H'=>Q .non H',rt:=Q} (start N vs) H):
  Hh P w K mg base CX (k+1) f (W.fnOf name qual params z l dV kV aa pm an m ct) ps sp:=by
 refine⟨len,λA outer s H args us vs Q E hr Z hb r U=>?_⟩;have hl:=len _ _ _ _ U;have KX:K.In s.heap:=Z.mod.kin.keeps λb o e=>(Z.bs b o e).1;have lim:s.heap.NoLimit:=Z.mod.nolimit.keeps λb o e=>(Z.bs b o e).1;have M:∀y∈ps.zip us,l.names.lookup y.1=some .local\/(l.names.lookup y.1=some .cell/\((EY (s.heap.objs.size+1) l.names []).lookup y.1).isSome=true):=λ⟨n,v⟩ hy=>by
  rcases S.par n (lW hy).1 with q |q
  ·exact .inl q
  ·exact .inr ⟨q,W.cellsFrom_some _ _ _ (.inl q)⟩
 refine codeAny_call_function hr.depth (KX _ _ lk) rfl S.co S.gen rfl (W.codeRec_of KX ae) (hb _ _ _ _ ?_);refine wpAny_newFunctionEnv_cells S.kind M λenv he s1 x=>?_;subst he;refine⟨lim.keeps x.toInCall.keep,codeAny_func ?_⟩;have⟨t,ht,hq⟩:=O A outer s H vs Q E (hr.deeper _) U;have I:Inv (Vn CX P w K mg base N qual l f m A outer s H E) [] (start N vs) H s1:=kf7 S hr.hd Z hl r x;refine D_ (ht [] s1 (start N vs) H _ I hq) (λfl s' T=>?_) λe s' T=>T;have Y:∀{L:St}{H':Hp}{v:V}{u:A_},Inv (Vn CX P w K mg base N qual l f m A outer s H E) [] L H' s'->RelV v u->Q v H'->CE outer P w H s Q u s':=
  λ{L H' v u} J rv q=>⟨v,H',J.os,J.bare,J.base,J.hok,rv,q⟩
 cases fl with
 |ret u=>obtain⟨v,L,H',J,rv,q⟩:=T;exact Y J rv q
 |next=>obtain⟨L,H',J,q⟩:=T;exact Y (v:=V.non) (u:=Value.none) J rfl q
 |brk=>obtain⟨_,_,_,q⟩:=T;exact False.elim q
 |cont=>obtain⟨_,_,_,q⟩:=T;exact False.elim q
section
variable {x:BV}{t:TA}{l T:String}{r:List V->Hp->VK->Prop}
def tCB(r:List V->Hp->VK->Prop)(t:TA):TE:=λσ H Q=>t σ H λvs m=>r vs m Q
def Oh(hc:Dc X (.builtin l) r)(hg:Gl X x)(Z:X.mg x=none)(U:FQ x=some (.builtin l))(ha:PA X (e::es) t)(Y:x ≠ "__name__":=by decide)(J:Zd x:=by decide)
  (he:Zs X.env e es:=by rfl)(m:Zp X.env B es:=by rfl):PE X (.Call (.Name x p) (e::es) [] B) (tCB r t):=by
 intro pins s σ H Q I h;refine HB (T5 I hg Z U ?_ Y J);exact PyProof.Rows.callWith_builtin1 (thG (ha B pins s σ H _ I h) λus L vs H1 I1 M O=>hc pins L σ H1 vs us Q I1 M O) he m
def Dz(hc:Dc X (.type T) r)(hg:Gl X x)(Z:X.mg x=none)(U:FQ x=some (.type T))(ha:PA X (e::es) t)(Y:x ≠ "__name__":=by decide)(J:Zd x:=by decide)
  (he:Zs X.env e es:=by rfl)(m:Zp X.env B es:=by rfl):PE X (.Call (.Name x p) (e::es) [] B) (tCB r t):=by
 intro pins s σ H Q I h;refine HB (T5 I hg Z U ?_ Y J);exact PyProof.Rows.callWith_type1 (thG (ha B pins s σ H _ I h) λus L vs H1 I1 M O=>hc pins L σ H1 vs us Q I1 M O) he m
end
end L2
namespace HT
open PySem PyProof.Rows
def kw1(A:DK)(s:BJ)(a:Int)(t:Tok)(c:Int)(u:Tok)(prog:BZ)(w:CV)(E:A_->BJ->Prop)(Q:A_->BJ->Prop)(h:Q (.bool (decide (a<c))) s):
  BL (BR prog w) A (richCompare .Lt (.int a t) (.int c u)) Q E s:=
 (PyProof.Rows.lt_int h:BL (BR prog w) A (DG .Lt (.int a t) (.int c u)) Q E s)
variable {Q:A_->BJ->Prop}{sl:BK}{b a:A_}{lo hi:Option Int}
section
variable {prog:BZ}{w:CV}{A:DK}{E:A_->BJ->Prop}{s:BJ}
def wb5{t b:BK}{vs c:List A_}(ht:QG s.heap t vs.toArray)(u:QG s.heap b c.toArray)(m:vs≠[])
  (x:c=[]->Q (.ref t) s)(v:c≠[]->Q (.ref s.heap.objs.size) {s with heap:=s.heap.push {cls:=.type "tuple",data:=.seq (vs++c).toArray} })
  (hsz:vs.length+c.length<=sizeLine):BL (BR prog w) A (DN .Add (.ref t) (.ref b)) Q E s:=by
 have⟨⟨cls,q,data,sl⟩,k,p,n,o⟩:=id ht;have⟨⟨r,i,data2,g⟩,f,h,l,hd2⟩:=id u;simp only at p o h hd2;subst p o h hd2;have e:vs.toArray++c.toArray=(vs++c).toArray:=by simp
 by_cases j:c=[]
 ·exact RV ⟨_,k,rfl⟩ ⟨_,f,rfl⟩ SQ XD PySem.F.slot_tuple_add PySem.F.entry_tuple_add (PySem.F.args_tuple_add_2 _ _)
   (tuple_addW1 t b vs.toArray c.toArray n l q i sl g (by simpa using m) (by simp[j])) ⟨k,f,x j⟩
 ·refine RV ⟨_,k,rfl⟩ ⟨_,f,rfl⟩ SQ XD PySem.F.slot_tuple_add PySem.F.entry_tuple_add (PySem.F.args_tuple_add_2 _ _)
   (tuple_addW2 t b vs.toArray c.toArray n l q i sl g (by simpa using m) (by simpa using j) (by rw[KJ,KJ];exact hsz)) ⟨k,f,?_⟩
  rw[e];exact v j
def sIx(n d:Nat):Option Int->Nat
 |none=>d
 |some v=>if v<0 then(v+(n:Int)).toNat else min v.toNat n
theorem vL(n d k:Nat):sIx n d (some (k:Int))=min k n:=by show(if(k:Int)<0 then((k:Int)+(n:Int)).toNat else min (k:Int).toNat n)=min k n;rw[if_neg (by lia),XQ]
theorem wx8(n d:Nat)(e:d<=n)(o:Option Int):sIx n d o<=n:=by
 cases o with
 |none=>exact e
 |some v =>
  show(if v<0 then(v+(n:Int)).toNat else min v.toNat n)<=n;by_cases c:v<0
  ·rw[if_pos c];lia
  ·rw[if_neg c];exact qL _ _
def yn3(a b:Nat):((min a b:Nat):Int)=min (a:Int) b:=by
 rcases e_ a b with h |h
 ·rw[dF h,z6 (Int.ofNat_le.mpr h)]
 ·rw[iJ h,Int.min_eq_right (Int.ofNat_le.mpr h)]
def pR(v:Int)(n d:Nat):(if v<0 then max (v+(n:Int)) 0 else min v (n:Int))=((sIx n d (some v):Nat):Int):=by
 show(if v<0 then max (v+(n:Int)) 0 else min v (n:Int))=(((if v<0 then(v+(n:Int)).toNat else min v.toNat n):Nat):Int);by_cases c:v<0
 ·rw[if_pos c,if_pos c];exact(Int.toNat_eq_max _).symm
 ·rw[if_neg c,if_neg c,yn3,fK (Int.not_lt.mp c)]
def yZ(v:Int)(n d:Nat):max 0 (min (if v<0 then v+(n:Int) else v) (n:Int))=((sIx n d (some v):Nat):Int):=by
 rw[<-pR v n d];by_cases c:v<0
 ·rw[if_pos c,if_pos c,Int.max_comm,z6 (Int.le_trans (Int.add_le_add_right (Int.le_of_lt c) _) (Int.le_of_eq (Int.zero_add _)))]
 ·rw[if_neg c,if_neg c,Int.max_eq_right (Int.le_min.mpr ⟨Int.not_lt.mp c,jGu n⟩)]
theorem jp7(lo hi:Option Int)(n:Nat):Builtin.Slice.sliceAdjust lo hi 1 (n:Int)=(((sIx n 0 lo:Nat):Int),((sIx n n hi:Nat):Int)):=by
 have c:¬ ((1:Int)<0):=by lia
 unfold Builtin.Slice.sliceAdjust;simp only[c,if_false];refine Prod.ext ?_ ?_
 ·cases lo with
  |none=>rfl
  |some v=>exact pR v n 0
 ·cases hi with
  |none=>rfl
  |some v=>exact pR v n n
theorem jt8(i j:Nat):Builtin.Slice.slicePlaces (i:Int) (j:Int) 1=j - i:=by
 unfold Builtin.Slice.slicePlaces;have c:(1:Int)>0:=by lia
 simp only[c,if_true,Int.ediv_one];split<;>lia
def Yn{v:A_}{o:Option Int}{Q:Option Int->BJ->Prop}(p:QS v o)(h:Q o s):BL (BR prog w) A (Builtin.Slice.slicePartIndex v) Q E s:=by
 cases p with
 |none=>exact jP h
 |int i t=>exact slicePart_int h
def Lb{n:Nat}{Q:Int×Int×Nat->BJ->Prop}(g:s.heap.IsSliceOf sl b a .none)(pl:QS b lo)(f:QS a hi)
  (h:Q (((sIx n 0 lo:Nat):Int),1,sIx n n hi - sIx n 0 lo) s):BL (BR prog w) A (Builtin.Slice.sliceApplied (.ref sl) (pure (n:Int))) Q E s:=by
 have⟨j,c,i,e⟩:=id g;unfold Builtin.Slice.sliceApplied Builtin.Slice.sliceFields;refine BX (BX (DY c e (x:=b) rfl (BX (DY c e (x:=a) rfl (BX (DY c e (x:=.none) rfl (CW ?_)))))));refine BX (jP ?_);show BL _ _ (if((1:Int) == 0)=true then _ else _) _ _ s;rw[if_neg (by decide)];refine BX (Yn pl (BX (Yn f (BX (CW ?_)))));show BL _ _ (match Builtin.Slice.sliceAdjust lo hi 1 (n:Int) with | (lo,hi)=>pure (lo,(1:Int),Builtin.Slice.slicePlaces lo hi 1)) _ _ s;rw[jp7 lo hi n];show BL _ _ (pure (((sIx n 0 lo:Nat):Int),(1:Int),Builtin.Slice.slicePlaces ((sIx n 0 lo:Nat):Int) ((sIx n n hi:Nat):Int) 1)) _ _ s;rw[jt8];exact CW h
theorem kv1(xs:Array A_)(i k:Nat):((List.range k).filterMap λ(m:Nat)=>xs[((i:Int)+(m:Int) * 1).toNat]?).toArray=((xs.toList.drop i).take k).toArray:=by
 have e:(λ(m:Nat)=>xs[((i:Int)+(m:Int) * 1).toNat]?)=λm=>xs[i+m]?:=by
  funext m;have:((i:Int)+(m:Int) * 1).toNat=i+m:=by lia
  rw[this]
 rw[e];have:=pick_run xs i k;rw[List.filterMap_map]at this;have c:((λx=>xs[x]?)∘λx=>i+x)=λm=>xs[i+m]?:=rfl;rw[c]at this;rw[this]
theorem Ru{t:BK}{items:Array A_}(ht:QG s.heap t items)(j:s.heap.IsSliceOf sl b a .none)(pl:QS b lo)(k:QS a hi)
  (n:¬ (sIx items.size 0 lo=0/\sIx items.size items.size hi=items.size))
  (h:Q (.ref s.heap.objs.size) {s with heap:=s.heap.push {cls:=.type "tuple",data:=.seq ((items.toList.drop (sIx items.size 0 lo)).take (sIx items.size items.size hi - sIx items.size 0 lo)).toArray} })
  (hsz:items.size<=sizeLine):BL (BR prog w) A (RT (.ref t) (.ref sl)) Q E s:=by
 have c:sizeOk (.seq ((items.toList.drop (sIx items.size 0 lo)).take (sIx items.size items.size hi - sIx items.size 0 lo)).toArray):=by show((items.toList.drop (sIx items.size 0 lo)).take (sIx items.size items.size hi - sIx items.size 0 lo)).toArray.size<=sizeLine;rw[KJ,RC,WX,ZZ];exact QW (QW (qL _ _) (Nat.sub_le _ _)) hsz
 have u:sIx items.size items.size hi<=items.size:=wx8 _ _ (FW _) hi;have⟨l,e,g,o⟩:=id j;have i:s.TypeIs (.ref sl) "slice":=⟨l,e,g⟩;unfold RT
 try with_reducible refine CT ?_
 first |refine BX (CW ?_) |skip
 refine BX (cO ht.typeIs (by decide) ?_);refine BX (DW (name:=Str.ofString "__getitem__") ht.typeIs PyProof.Rows.slot_tuple_getitem
  (C_ PyProof.Rows.slot_tuple_getitem ht.typeIs aZ ?_ (cL _ _)))
 show BL _ _ (Builtin.Tuple.tupleItemsOf (.ref t) >>= _) _ _ s;refine BX (tupleItemsOf_ ht ?_);refine BX (JH i ?_);rw[if_pos (by decide)];refine BX (Lb j pl k ?_);have f:¬ ((((sIx items.size 0 lo:Nat):Int) == 0 && (1:Int) == 1 && (sIx items.size items.size hi - sIx items.size 0 lo) == items.size)=true):=by intro q;rw[QH,QH]at q;have r:((sIx items.size 0 lo:Nat):Int)=0:=eq_of_beq q.1.1;have p:sIx items.size items.size hi - sIx items.size 0 lo=items.size:=eq_of_beq q.2;exact n ⟨by lia,by lia⟩
 show BL _ _ (if(((sIx items.size 0 lo:Nat):Int) == 0 && (1:Int) == 1 && (sIx items.size items.size hi - sIx items.size 0 lo) == items.size)=true then _ else _) _ _ s;rw[if_neg f,kv1]
 first
  |exact BX (m:=Builtin.Tuple.tupleExact _) (CG (CW ⟨_,rfl,CW h⟩) c)
  |exact BX (m:=Builtin.Tuple.tupleExact _) (CG (BX (CW (CW ⟨_,rfl,CW h⟩))) c)
  |exact BX (BX (m:=Builtin.Tuple.tupleExact _) (CG (CW (CW ⟨_,rfl,CW h⟩)) c))
  |exact BX (BX (m:=Builtin.Tuple.tupleExact _) (CG (CW ⟨_,rfl,CW h⟩) c))
end
end HT
namespace L2
open PySem PySem.Spec PyProof.Rows
abbrev TO:=St->Hp->(Option Int->Hp->Prop)->Prop
def PO(X:Cx)(e:Option CN)(t:TO):Prop:=
 ∀(a:List (BK×FZ))(s:BJ)(b:St)(H:Hp)(Q:Option Int->Hp->Prop),Inv X a b H s->t b H Q ->
  BL (BR X.prog X.w) X.A (evalPart e X.env) (λu f=>∃o c,Inv X a b c f/\QS u o/\Q o c) X.xe s
def wl8:TO:=λ_ H Q=>Q none H
def yj4(t:TE):TO:=λa H Q=>t a H λx b=>∃i,x=.int i/\Q (some i) b
variable {X:Cx}{e:CN}{j:JG}
variable {r:V->Option Int->Option Int->Hp->VK->Prop}{xs:List V}{us:List A_}
section
variable {a:TE}{lo hi:Option CN}{c f:TO}{g:JG}
def wi5:PO X none wl8:=by intro b s i H Q I h;rw[evalPart_none];exact CW ⟨none,H,I,.none,h⟩
def wi6(h:PE X e a):PO X (some e) (yj4 a):=by intro b s k H Q I n;rw[evalPart_some];refine thG (h b s k H _ I n) λu v x p o l m=>?_;obtain⟨i,rfl,q⟩:=m;obtain⟨t,rfl⟩:=l;exact⟨some i,p,o,.int i t,q⟩
def SlR(X:Cx)(r:V->Option Int->Option Int->Hp->VK->Prop):Prop:=
 ∀(b:List (BK×FZ))(s:BJ)(h:St)(H:Hp)(x:V)(v k i:A_)(lo hi:Option Int)(l:BK)(Q:VK),Inv X b h H s->RelV x v->s.heap.IsSliceOf l k i .none->QS k lo->QS i hi->r x lo hi H Q ->
  ∃T m,MF (.type T) "__getitem__" = pure (some (.builtin m))/\s.TypeIs v T/\BL (BR X.prog X.w) X.A (RT v (.ref l)) (EP X b h Q) X.xe s
def SlR.or{o:V->Option Int->Option Int->Hp->VK->Prop}(h:SlR X r)(h':SlR X o):SlR X (λx lo hi H Q=>r x lo hi H Q\/o x lo hi H Q):=by
 intro b s i H x v l k lo hi m Q I n u pl p q;rcases q with q |q
 ·exact h b s i H x v l k lo hi m Q I n u pl p q
 ·exact h' b s i H x v l k lo hi m Q I n u pl p q
def tSl(r:V->Option Int->Option Int->Hp->VK->Prop)(a:TE)(c f:TO):TE:=λb H Q=>a b H λx k=>c b k λl i=>f b i λu h=>r x l u h Q
def yE(L:SlR X r)(P:PE X e a)(M:PO X lo c)(J:PO X hi f):PE X (.Subscript e (.Slice lo hi none g) j) (tSl r a c f):=by intro i s m H Q I h;refine Subscript_ (thG (P i s m H _ I h) λv z x H1 I1 B F=>?_);refine wpAny_Slice (thG (M i z m H1 _ I1 F) λo y l H2 I2 pl E=>thG (J i y m H2 _ I2 E) λn k u p Z G C=>?_);rw[evalPart_none];refine CW ?_;have Y:Inv X i m p {k with heap:=k.heap.push {cls:=.type "slice",data:=.fields #[o,n,.none] } }:=Z.kept (t':=k.toks) λb ob q=>HF _ q;have⟨T,id,U,K,O⟩:=L i {k with heap:=k.heap.push {cls:=.type "slice",data:=.fields #[o,n,.none] } } m p x v o n l u k.heap.objs.size Q Y B (Heap.IsSliceOf.new ..) pl G C;show BL (BR X.prog X.w) X.A (subscriptTail e (.Slice lo hi none g) v (.ref k.heap.objs.size)) (EP X i m Q) X.xe {k with heap:=k.heap.push {cls:=.type "slice",data:=.fields #[o,n,.none] } };exact tail_any (ops:=[.ref k.heap.objs.size,v]) K U O (by with_unfolding_all rfl)
def bZ(xs:List V)(lo hi:Option Int):List V:=(xs.drop (HT.sIx xs.length 0 lo)).take (HT.sIx xs.length xs.length hi - HT.sIx xs.length 0 lo)
def Uo(xs:List V)(lo hi:Option Int):(bZ xs lo hi).length<=xs.length:=by unfold bZ;rw[RC,WX];exact QW (qL _ _) (Nat.sub_le _ _)
def yo4(K:B_):V->Option Int->Option Int->Hp->VK->Prop:=λx lo hi H Q=>∃a xs,x=.ref a/\SqT K H a xs /\
 ¬ (HT.sIx xs.length 0 lo=0/\HT.sIx xs.length xs.length hi=xs.length)/\∀p,H p=none->Q (.ref p) (upd H p (.tup (bZ xs lo hi)))
def t7:SlR X (yo4 X.K):=by
 intro l s A H x v C B lo hi E Q I p z pl u h;obtain⟨a,xs,rfl,w,y,q⟩:=h;cases p;have⟨k,r,n,m⟩:=I.tuple w;have i:k.toArray.size=xs.length:=by rw[KJ];exact r.length.symm
 refine⟨"tuple",_,PyProof.Rows.slot_tuple_getitem.lookup,n.typeIs,?_⟩;refine HT.Ru n z pl u (by rw[i];exact y) ?_ (by rw[i];exact m);rw[i];refine⟨.ref s.heap.objs.size,_,I.laid (t':=s.toks) (o:=.tup (bZ xs lo hi)) (λb F q=>HF _ q) (FW _) ?_,rfl,q _ (I.hok.fresh (FW _))⟩;exact⟨QW (Uo xs lo hi) m,_,(r.drop (HT.sIx xs.length 0 lo)).take (HT.sIx xs.length xs.length hi - HT.sIx xs.length 0 lo),IsTup.new _ _⟩
def yh4(K:B_):R2:=λx y H Q=>∃a b xs h,x=.ref a/\y=.ref b/\SqT K H a xs/\SqT K H b h/\xs≠[]/\xs.length+h.length<=sizeLine /\
 (h=[]->Q (.ref a) H)/\(h≠[]->∀p,H p=none->Q (.ref p) (upd H p (.tup (xs++h))))
def Vals.nil_iff(r:Vals xs us):us=[]↔xs=[]:=by
 cases r with
 |nil=>simp
 |cons _ _=>simp
def wh6:OpR X (DN .Add) (yh4 X.K):=by intro l s M H x y v u Q I B A h;obtain⟨a,b,xs,p,rfl,rfl,L,J,G,n,E,C⟩:=h;cases B;cases A;have⟨F,k,p1,_⟩:=I.tuple L;have⟨m,i,g,_⟩:=I.tuple J;refine HT.wb5 p1 g (λz=>G (k.nil_iff.mp z)) (λz=>⟨.ref a,H,I,rfl,E (i.nil_iff.mp z)⟩) (λz=>?_) (by rw[<-k.length,<-i.length];exact n);refine⟨.ref s.heap.objs.size,_,I.laid (t':=s.toks) (o:=.tup (xs++p)) (λb O q=>HF _ q) (FW _) ?_,rfl,C (λw=>z (i.nil_iff.mpr w)) _ (I.hok.fresh (FW _))⟩;exact⟨by rw[PB];exact n,_,k.append i,IsTup.new _ _⟩
end
def ixN(n:Nat)(i:Int):Option Nat:=if 0<=i then(if i<n then some i.toNat else none) else if -(n:Int)<=i then some (i+n).toNat else none
def atI{a:Type}(xs:List a)(i:Int):Option a:=(ixN xs.length i).bind λj=>xs[j]?
variable {n:Nat}{i:Int}
theorem wf0{j:Nat}(h:ixN n i=some j):seqIndex? i n=some j/\j<n/\-(n:Int)<=i/\i<n:=by
 unfold ixN at h;by_cases b:0<=i
 ·rw[if_pos b]at h;by_cases a:i<n
  ·rw[if_pos a]at h;have e:i.toNat=j:=Option.some.inj h;exact⟨by rw[seqIndex_of b a,e],by lia,by lia,a⟩
  ·rw[if_neg a]at h;cases h
 ·rw[if_neg b]at h;by_cases a:-(n:Int)<=i
  ·rw[if_pos a]at h;have e:(i+n).toNat=j:=Option.some.inj h;exact⟨by rw[seqIndex_neg (by lia) a,e],by lia,a,by lia⟩
  ·rw[if_neg a]at h;cases h
def pX{a:Type}{xs:List a}{v:a}(h:atI xs i=some v):∃j,seqIndex? i xs.length=some j/\xs[j]? = some v/\j<xs.length/\-(xs.length:Int)<=i/\i<xs.length:=by
 unfold atI at h;cases e:ixN xs.length i with
 |none=>rw[e]at h;cases h
 |some j=>rw[e]at h;have⟨g,f,c,b⟩:=wf0 e;exact⟨j,g,h,f,c,b⟩
def xJ(b:CN):Prop:=∀o i,subscripted b false o i=operate [o,i] (RT o i)
def IxR(X:Cx)(r:R2):Prop:=
 ∀(value slice:CN)(a:List (BK×FZ))(s:BJ)(b:St)(H:Hp)(x y:V)(v u:A_)(Q:VK),Inv X a b H s->RelV x v->RelV y u->r x y H Q ->
  subscripted slice false v u=operate [v,u] (RT v u)->BL (BR X.prog X.w) X.A (subscriptTail value slice v u) (EP X a b Q) X.xe s
def MtR(X:Cx)(c:String)(r:V->List V->Hp->VK->Prop):Prop:=
 ∀(a:List (BK×FZ))(s:BJ)(b:St)(H:Hp)(x:V)(xs:List V)(v:A_)(us:List A_)(Q:VK),Inv X a b H s->RelV x v->Vals xs us->r x xs H Q ->
  BL (BR X.prog X.w) X.A (call (.builtin c) (v::us)) (EP X a b Q) X.xe s
variable {x:V}
section
variable {a b:CN}{g tb:TE}
def yg9{r:R2}(p:IxR X r)(z:PE X a g)(w:PE X b tb)(o:xJ b):PE X (.Subscript a b j) (tOp r g tb):=by intro c s f H Q I h;exact Subscript_ (nF z w I h λv u k x y B A m l q=>p a b c k f B x y v u Q A m l q (o _ _))
def yn8(K:B_):R2:=λx y H Q=>∃p xs i v,x=.ref p/\y=.int i/\SqL K H p xs/\atI xs i=some v/\Q v H
def yo0(K:B_):R2:=λx y H Q=>∃p xs i v,x=.ref p/\y=.int i/\SqT K H p xs/\atI xs i=some v/\Q v H
def yn9:R2:=λx y H Q=>∃z i c,x=.str z/\y=.int i/\z.length<=sizeLine/\atI z.cps.toList i=some c/\Q (.str ⟨#[c]⟩) H
theorem wf1:IxR X (yn8 X.K):=by
 intro value slice c s A H x y v u Q I J G h B;obtain⟨p,xs,i,z,rfl,rfl,L,O,q⟩:=h;cases J;obtain⟨t,rfl⟩:=G;have⟨m,r,pl,Y⟩:=I.list L;have⟨j,k,U,h3,T,P⟩:=pX O;have⟨w,E,l⟩:=r.get U;have M:=r.length;have Z:=T6;have f:EP X c A Q w s:=⟨z,H,I,l,q⟩;by_cases C:0<=i
 ·have o:i.toNat=j:=by rw[seqIndex_of C P]at k;exact Option.some.inj k
  exact item_listR pl.isList C (by lia) (by rw[o];simpa using E) f B
 ·have o:(i+(m.toArray.size:Int)).toNat=j:=by rw[seqIndex_neg (by lia) T]at k;rw[KJ,<-M];exact Option.some.inj k
  exact YQ (x:=w) pl.isList.typeIs slot_list_getitem.lookup
   (wpAny_getItem_list_neg (Q:=λr F=>r=w/\EP X c A Q r F) pl.isList (by lia) (by rw[KJ]<;>lia) (by lia) (by rw[o];simpa using E) ⟨rfl,f⟩) B
theorem ws3:IxR X (yo0 X.K):=by
 intro value slice c s l H x y v u Q I A o h C;obtain⟨p,xs,i,z,rfl,rfl,E,G,q⟩:=h;cases A;obtain⟨t,rfl⟩:=o;have⟨B,r,pl,O⟩:=I.tuple E;have⟨j,L,J,Y,U,T⟩:=pX G;have⟨w,M,f⟩:=r.get J;have F:=r.length;have P:=T6;have k:EP X c l Q w s:=⟨z,H,I,f,q⟩;exact YQ (x:=w) pl.typeIs slot_tuple_getitem.lookup
  (getItem_tuple (j:=j) (Q:=λr m=>r=w/\EP X c l Q r m) pl (by lia) (by lia) (by rw[KJ,<-F];exact L) (by simpa using M) ⟨rfl,k⟩) C
theorem ws2:IxR X yn9:=by
 intro value slice f s G H x y v u Q I m l h o;obtain⟨z,i,c,rfl,rfl,K,w,q⟩:=h;obtain⟨t,rfl⟩:=m;obtain⟨J,rfl⟩:=l;have⟨j,k,C,M,B,A⟩:=pX w;have p:z.cps.toList.length=z.length:=by simp[Str.length]
 rw[p]at k B A;have L:=T6;exact tail_any (typeIs_str s z t) slot_str_getitem.lookup (getItem_str (c:=c) (by
  have F:decide (i < -(2 ^ 63:Int))=false:=decide_eq_false (by lia);have E:decide (i≥2 ^ 63)=false:=decide_eq_false (by lia);rw[F,E,Bool.or_false]) (by rw[k];simpa using C) ⟨.str ⟨#[c]⟩,H,I.tok _,⟨_,rfl⟩,q⟩) o
def jf4(lo hi:Option Int)(n:Nat):(ZP lo hi none n).1=((HT.sIx n 0 lo:Nat):Int)/\(ZP lo hi none n).2.1=((HT.sIx n n hi:Nat):Int)/\(ZP lo hi none n).2.2=1:=by
 refine⟨?_,?_,rfl⟩
 ·cases lo with
  |none=>rfl
  |some i=>exact HT.yZ i n 0
 ·cases hi with
  |none=>rfl
  |some i=>exact HT.yZ i n n
def Y5(its:List A_)(lo hi:Option Int):slicePick its.toArray lo hi none=((its.drop (HT.sIx its.length 0 lo)).take (HT.sIx its.length its.length hi - HT.sIx its.length 0 lo)).toArray:=by have⟨h,f,c⟩:=jf4 lo hi its.toArray.size;unfold slicePick;rw[h,f,c];simp only[sliceRange_one,pick_run,KJ]<;>rfl
def yo3(K:B_):V->Option Int->Option Int->Hp->VK->Prop:=λx c f H Q=>∃a xs,x=.ref a/\SqL K H a xs/\∀p,H p=none->Q (.ref p) (upd H p (.lst (bZ xs c f)))
theorem vH:SlR X (yo3 X.K):=by intro l s B H x v E C f k F Q I p A pl u h;obtain⟨a,xs,rfl,z,q⟩:=h;cases p;have⟨w,r,m,y⟩:=I.list z;have c:=r.length;refine⟨"list",_,slot_list_getitem.lookup,m.isList.typeIs,?_⟩;refine wpAny_getItem_list_slice m.isList A pl u .none (by simp) ?_ (by rw[KJ]<;>lia);rw[Y5,<-c];refine⟨.ref s.heap.objs.size,_,I.laid (t':=s.toks) (o:=.lst (bZ xs f k)) (λb G q=>HF _ q) (FW _) ?_,rfl,q _ (I.hok.fresh (FW _))⟩;exact⟨QW (Uo xs f k) y,_,0,(r.drop (HT.sIx xs.length 0 f)).take (HT.sIx xs.length xs.length k - HT.sIx xs.length 0 f),L_ _ rfl⟩
theorem Rh:Dc X (.builtin "len") (λxs H Q=>∃p f,xs=[.ref p]/\(SqL X.K H p f\/SqT X.K H p f)/\Q (.int f.length) H):=by
 intro o s y H xs us Q I r h;obtain⟨p,f,rfl,k,q⟩:=h;obtain⟨u,rfl,v⟩:=vals1 r;cases v;have z:=T6;rcases k with k |k
 ·have⟨m,l,pl,w⟩:=I.list k;have c:=l.length;exact Calls.call_len_list pl.isList (by simp only[KJ]<;>lia) ⟨.int f.length,H,I.tok _,⟨s.toks+1,by rw[KJ,c]⟩,q⟩
 ·have⟨m,l,pl,w⟩:=I.tuple k;have c:=l.length;exact len_tuple pl (by simp only[KJ]<;>lia) ⟨.int f.length,H,I.tok _,⟨s.toks+1,by rw[KJ,c]⟩,q⟩
theorem jb7:Dc X (.builtin "len") (λxs H Q=>∃z,xs=[.str z]/\z.length<=sizeLine/\Q (.int z.length) H):=by intro c s f H xs us Q I r h;obtain⟨z,rfl,k,q⟩:=h;obtain⟨u,rfl,t,rfl⟩:=vals1 r;have l:=T6;exact len_str (by lia) ⟨.int z.length,H,I.tok _,⟨_,rfl⟩,q⟩
theorem Ri:Dc X (.type "list") (λxs H Q=>∃p c,xs=[.ref p]/\(SqL X.K H p c\/SqT X.K H p c)/\∀l,H l=none->Q (.ref l) (upd H l (.lst c))):=by
 intro k s G H xs us Q I r h;obtain⟨p,c,rfl,y,q⟩:=h;obtain⟨u,rfl,J⟩:=vals1 r;cases J;have A:∀(its:List A_),Vals c its->c.length<=sizeLine->∀(h':CP)(c':Nat),(∀b F,s.heap.get? b=some F->h'.get? b=some F) ->
   h'.get? s.heap.objs.size=some {cls:=.type "list",dict:=none,data:=.seq its.toArray c',slots:=#[] }->EP X k G Q (.ref s.heap.objs.size) {s with heap:=h'}:=λits f v h' c' m e =>
  ⟨.ref s.heap.objs.size,_,I.laid (t':=s.toks) m (FW _) (show Bu X.prog X.w _ h' _ (.lst c) from⟨v,its,c',f,e⟩),rfl,q _ (I.hok.fresh (FW _))⟩
 rcases y with y |y
 ·have⟨its,f,pl,v⟩:=I.list y;have z:=f.length;obtain⟨o,B,E,n,C⟩:=pl.isList;exact call_list_seq p (.inl rfl) B E C (λh' c' m e=>A its f v h' c' m e) (by simp only[KJ]<;>lia)
 ·have⟨its,f,pl,v⟩:=I.tuple y;have z:=f.length;obtain⟨o,B,E,n,C⟩:=pl;exact call_list_seq p (.inr rfl) B E C (λh' c' m e=>A its f v h' c' m e) (by simp only[KJ]<;>lia)
theorem Qd:Dc X (.type "tuple") (λxs H Q=>∃p k,xs=[.ref p]/\((SqL X.K H p k/\∀l,H l=none->Q (.ref l) (upd H l (.tup k)))\/(SqT X.K H p k/\Q (.ref p) H))):=by
 intro c s z H xs us Q I r h;obtain⟨p,k,rfl,h⟩:=h;obtain⟨u,rfl,E⟩:=vals1 r;cases E;rcases h with ⟨y,q⟩ | ⟨y,q⟩
 ·have⟨f,v,pl,A⟩:=I.list y;have B:=v.length;refine call_tuple_list pl.isList (λm F=>?_) (by simp only[KJ]<;>lia);have C:Inv X c z H {s with heap:=m}:=I.kept (t':=s.toks) F;have G:Inv X c z (upd H m.objs.size (.tup k)) {s with heap:=m.push {cls:=.type "tuple",data:=.seq f.toArray} }:=
   C.laid (t':=s.toks) (λb o e=>HF _ e) (FW _) (show Bu X.prog X.w _ _ _ (.tup k) from⟨A,f,v,IsTup.new _ _⟩)
  exact⟨.ref m.objs.size,_,G,rfl,q _ (C.hok.fresh (FW _))⟩
 ·have⟨f,v,pl,A⟩:=I.tuple y;exact call_tuple_same pl ⟨.ref p,H,I,rfl,q⟩
def tyV(K:B_)(T:String)(x:V)(H:Hp):Prop:=match x with
 | .str _=>T = "str"
 | .int _=>T = "int"
 | .ref p=>(T = "list"/\∃xs,SqL K H p xs)\/(T = "tuple"/\∃o,K.lookup p=some o/\o.cls=.type "tuple"/\o.dict=none) \/
   (T = "dict"/\((∃c,H p=some (.dK c))\/∃c,H p=some (.dT c)))\/(T = "set"/\∃S n,H p=some (.set S n))
 |_=>False
def wz6{k:List (BK×FZ)}{w:St}{H:Hp}{s:BJ}{T:String}{v:A_}(I:Inv X k w H s)(r:RelV x v)(ty:tyV X.K T x H):
  s.TypeIs v T/\∀a,v=.ref a->∃u,s.heap.get? a=some u/\u.dict=none:=by
 cases x with
 |str z=>obtain⟨t,rfl⟩:=r;cases(show T = "str" from ty);exact⟨typeIs_str s z t,λ_ e=>nomatch e⟩
 |int i=>obtain⟨t,rfl⟩:=r;cases(show T = "int" from ty);exact⟨bG s i t,λ_ e=>nomatch e⟩
 |ref p =>
  cases r;rcases ty with ⟨rfl,xs,A⟩ | ⟨rfl,o,f,B,m⟩ | ⟨rfl,f⟩ | ⟨rfl,S,n,f⟩
  ·obtain⟨y,_,pl,_⟩:=I.list A;refine⟨pl.isList.typeIs,λa e=>?_⟩;cases e;obtain⟨o,n,e,c,m,_⟩:=pl;exact⟨o,e,m⟩
  ·refine⟨⟨o,I.RN p o f,B⟩,λa e=>?_⟩;cases e;exact⟨o,I.RN _ o f,m⟩
  ·have z:∃o,s.heap.get? p=some o/\o.ExactDict:=by
    rcases f with ⟨l,f⟩ | ⟨l,f⟩
    ·obtain⟨_,_,_,_,o,_,_,e,h,_⟩:=I.hok p _ f;exact⟨o,e,h⟩
    ·obtain⟨_,_,_,_,o,_,_,e,h,_⟩:=I.hok p _ f;exact⟨o,e,h⟩
   obtain⟨o,e,h⟩:=z;refine⟨⟨o,e,h.1⟩,λa q=>?_⟩;cases q;exact⟨o,e,h.2.1⟩
  ·obtain⟨o,_,_,_,e,h,_⟩:=I.hok p _ f;refine⟨⟨o,e,h.1⟩,λa q=>?_⟩;cases q;exact⟨o,e,h.2.1⟩
 |_=>exact False.elim ty
def tBM(K:B_)(T:String)(r:V->List V->Hp->VK->Prop)(c:TE)(t:TA):TE:=λf H Q=>c f H λx h=>tyV K T x h/\t f h λxs k=>r x xs k Q
variable {o:CN}{es:List CN}{c:TE}{t:TA}{name:BV}{apos cpos:JG}{T f:String}{r:V->List V->Hp->VK->Prop}
def gM(M:PlainAttrs T)(slot:Slot T name f)(y:VN (.builtin f)=pure (.type "method_descriptor"))(U:MtR X f r)(P:PE X o c)(Y:PA X (e::es) t)
  (q:GD o name X.env (CZ o X.env)=CZ o X.env:=by rfl)
  (u:((HQ cpos (BP (e::es) X.env)).all (λx=>!x.1) && (KQ cpos (G_ [] X.env)).all (λx=>x.1.isSome)
   && decide ((e::es).length+([]:List JB).length+(if([]:List JB).isEmpty then 0 else 1)<30))=true:=by rfl)
  (p:(apos.endLine == cpos.line)=true:=by rfl)(O:Zs X.env e es:=by rfl)(l:Zp X.env cpos es:=by rfl):
  PE X (.Call (.Attribute o name apos) (e::es) [] cpos) (tBM X.K T r c t):=by
 intro k s w H Q I h;refine wpAny_Call_method_late q u p rfl (thG (P k s w H _ I h) λv F x H1 B z m=>?_);obtain⟨ty,L⟩:=m;have⟨h1,Z⟩:=wz6 B z ty;refine⟨T,f,M,slot,y,h1,Z,?_⟩;have A:=Y cpos k F w H1 _ B L;rw[O]at A ⊢;refine Calls.callWith_builtin (by show(false || (HQ cpos (BP es X.env)).any (·.1))=false;rw[l]<;>rfl) (Calls.evalArgs_plain ?_);exact thn A λus E ⟨C,H2,I2,G,J⟩=>U k E w H2 x C v us Q I2 z G J
end
def MtM(X:Cx)(c:String)(r:V->List V->Hp->VK->Prop):Prop:=
 ∀(a:List (BK×FZ))(s:BJ)(b:St)(H:Hp)(x:V)(xs:List V)(v:A_)(us:List A_)(Q:VK),Inv X a b H s->RelV x v->Vals xs us->r x xs H Q ->
  BL (BR X.prog X.w) X.A (call (.builtin c) (v::us)) (EP X a b Q) X.xe s
def Vals.zero:∀{us:List A_},Vals [] us->us=[]
 |_,.nil=>rfl
def Vals.unc(h:Vals (x::xs) us):∃u a,us=u::a/\RelV x u/\Vals xs a:=by
 cases h with
 |cons r t=>exact⟨_,_,rfl,r,t⟩
def Vals.one(h:Vals [x] us):∃u,us=[u]/\RelV x u:=by obtain⟨u,a,rfl,r,t⟩:=h.unc;exact⟨u,by rw[t.zero],r⟩
def Vals.two{y:V}(h:Vals [x,y] us):∃u v,us=[u,v]/\RelV x u/\RelV y v:=by obtain⟨u,a,rfl,r,t⟩:=h.unc;obtain⟨v,rfl,q⟩:=t.one;exact⟨u,v,rfl,r,q⟩
def Vals.rep{xs:List V}{us:List A_}(h:Vals xs us):∀k:Nat,Vals (List.replicate k xs).flatten (List.replicate k us).flatten
 |0=>.nil
 |k+1=>by rw[dM,dM,fH,fH];exact Vals.append h (Vals.rep h k)
def foldl_rep(its:List A_):∀(k:Nat)(acc:List A_),
  List.foldl (λb a=>b++a) acc.toArray (List.replicate k its.toArray)=(acc++(List.replicate k its).flatten).toArray
 |0,acc=>by simp
 |k+1,acc=>by
  have e:acc.toArray++its.toArray=(acc++its).toArray:=by simp
  have c:(acc++its)++(List.replicate k its).flatten=acc++(List.replicate (k+1) its).flatten:=by rw[dM,fH,PL]
  rw[<-c,<-foldl_rep its k (acc++its),<-e,dM,iG]
variable {its:List A_}{t':Nat}
section
variable {pins:List (BK×FZ)}{σ:St}{H:Hp}{s:BJ}{l b:BK}{xs ys a:List V}
def Inv.lset{its':List A_}{f:Array A_->Array A_}(I:Inv X pins σ H s)(o:H l=some (.lst xs))
  (e:s.heap.get? l=some {cls:=.type "list",data:=.seq its.toArray n})(k:f its.toArray=its'.toArray)(g:Vals ys its')(c:ys.length<=sizeLine):
  Inv X pins σ (upd H l (.lst ys)) {s with heap:=s.heap.update l (Obj.mapSeq f),toks:=t'}:=by
 have q:=PySem.IsL.update e f;rw[k]at q;refine I.write (x:=l) (e:=l) (by rw[o];exact trivial) (.inl rfl) (λp u m h=>(ZJ s.heap (Obj.mapSeq f) (Ne.symm m)).trans h) ⟨_,q⟩ ?_;exact⟨c,its',_,g,q⟩
def Inv.lnew(I:Inv X pins σ H s)(f:Vals ys its)(c:ys.length<=sizeLine):
  Inv X pins σ (upd H s.heap.objs.size (.lst ys)) {s with heap:=s.heap.push {cls:=.type "list",data:=.seq its.toArray},toks:=t'}:=
 I.laid (λ_ _ q=>HF _ q) (FW _) ⟨c,its,0,f,L_ _ rfl⟩
def Inv.fresh(I:Inv X pins σ H s):H s.heap.objs.size=none:=I.hok.fresh (FW _)
def Inv.lstM(I:Inv X pins σ H s)(c:H l=some (.lst xs)):xs.length<=sizeLine/\∃(its:List A_)(n:Nat),Vals xs its/\xs.length=its.length/\s.heap.get? l=some {cls:=.type "list",data:=.seq its.toArray n}:=by have⟨z,its,n,r,e⟩:=I.hok l _ c;exact⟨z,its,n,r,r.length,e⟩
theorem kt8(h:n<=sizeLine):Builtin.List.listTooLong n=false:=by unfold Builtin.List.listTooLong;exact decide_eq_false (by lia)
end
def wj2:V->List V->Hp->VK->Prop:=λx a H Q=>∃l xs y,x=.ref l/\a=[y]/\H l=some (.lst xs)/\xs.length<sizeLine/\Q .non (upd H l (.lst (xs++[y])))
theorem Z3:MtM X "list.append" wj2:=by intro a s k H x m v us Q I c f h;obtain⟨l,xs,y,rfl,rfl,b,o,q⟩:=h;cases c;obtain⟨u,rfl,g⟩:=f.one;have⟨z,its,n,r,p,e⟩:=I.lstM b;refine MJ F.slot_list_append ⟨_,e,rfl⟩ F.entry_list_append (F.args_list_append_2 _ _) (PySem.list_append l its.toArray n u (by rw[KJ];lia)) ⟨e,?_⟩;refine⟨.non,_,I.lset (its':=its++[u]) b e (by simp) (r.append (.cons g .nil)) ?_,rfl,q⟩;rw[PB,jGa];lia
def yo1:R2:=λx y H Q=>∃l k xs,x=.ref l/\y=.int k/\H l=some (.lst xs)/\-(2 ^ 63)<=k/\k<2 ^ 63/\xs.length * k.toNat<=sizeLine /\
 ∀p,H p=none->Q (.ref p) (upd H p (.lst (List.replicate k.toNat xs).flatten))
def len_rep{a:Type}(xs:List a)(k:Nat):(List.replicate k xs).flatten.length=k * xs.length:=by
 induction k with
 |zero=>simp
 |succ k b=>rw[dM,fH,PB,b,Nat.succ_mul,Nat.add_comm]
theorem wv2:OpR X (DN .Mult) yo1:=by
 intro A s P H x y v u Q I G E h;obtain⟨l,k,xs,rfl,rfl,K,M,L,B,q⟩:=h;cases G;obtain⟨t,rfl⟩:=E;have⟨z,its,n,r,J,e⟩:=I.lstM K;have f:its.toArray.size * k.toNat<=sizeLine:=by rw[KJ,<-J];exact B
 have o:¬ its.toArray.size * k.toNat>(2 ^ 63 - 1) / 8:=by
  have:(sizeLine:Nat)<=(2 ^ 63 - 1) / 8:=by decide
  lia
 have g:¬ (!Builtin.List.listFitsIndex k)=true:=by rw[fitsIndex_both M L];exact XR
 have b:¬ Builtin.List.listTooLong (its.toArray.size * k.toNat)=true:=by rw[kt8 f];exact XR
 have c:List.foldl (λw p=>w++p) #[] (List.replicate (if its.toArray.isEmpty=true then 0 else k.toNat) its.toArray)=(List.replicate k.toNat its).flatten.toArray:=by
  have O:∀m:Nat,List.foldl (λw p=>w++p) #[] (List.replicate m its.toArray)=(List.replicate m its).flatten.toArray:=λm=>by have:=foldl_rep its m [];rw[zZ]at this;exact this
  rw[O];cases its with
  |nil=>simp
  |cons a Y=>rw[if_neg (by simp)]
 refine wpAny_binaryOp_repeat_ref (T:="list") (U:="int") (by decide) ⟨_,e,rfl⟩ (λC=>bG C k t) noFill_list_mul F.fills_int_mul F.slot_int_rmul repeat_list F.slot_int_index.lookup
  (MJ F.slot_int_rmul (bG s k t) F.entry_int_rmul (F.args_int_rmul_2 _ _) (int___rmul___int_list k t l its.toArray n)
   ⟨e,rfl,⟨_,e,rfl⟩,MJ F.slot_list_mul ⟨_,e,rfl⟩ F.entry_list_mul (F.args_list_mul_2 _ _) (AutoListH.list___mul___list_int_3 l its.toArray n k t g o b) ⟨e,?_⟩⟩)
 rw[c];exact⟨.ref _,_,I.lnew (t':=s.toks) (r.rep k.toNat) (by rw[len_rep,Nat.mul_comm];exact B),rfl,q _ I.fresh⟩
end L2
namespace Att
open PySem PySem.W PySem.Calls PyProof.Rows
variable {h:CP}
def Vq{P:Params}:∀(ns:List Int)(vs:List A_),WellAll P h vs (ns.map WData.int)->FT vs ns:=by
 intro ns;induction ns with
 |nil=>intro vs w;rw[eZ]at w;cases w;exact .nil
 |cons n ns c =>
  intro vs w;rw[NP]at w;cases w with
  |cons a b=>cases a;exact .cons _ _ (c _ b)
variable {n:Nat}
theorem kj0{l:OpenLaw}(w:l.most=some n){P:Params}{args:List WData}{vals:List A_}
  (c:l.row.toRowW.claim.pre args=true)(j:WellAll P h vals args):
  ∃a m b,vals=[Value.ref a]/\args=[WData.list (b.map WData.int)]/\h.get? a=some {cls:=.type "list",data:=.seq m.toArray}/\FT m b/\b.length<=n:=by
 have k:WShape.hasAll [] args [.list .int]=true:=(pre_splitW c).1;have o:l.pre.holds [] {args:=args}=true:=(pre_splitW c).2;obtain⟨d,r,rfl,z,y⟩:=hasAllW_cons k;obtain rfl:=hasAllW_nil y;obtain⟨A,rfl,x⟩:=hasW_list z;obtain⟨b,rfl⟩:=items_int x;have e:b.length<=n:=by
  unfold OpenLaw.pre at o;have i:(WTm.not (.lt (.lit (.int (n:Int))) (.len (.arg 0)))).holds [] {args:=[.list (b.map .int)] }=true:=by have i:=(holds_andW o).1;rw[w]at i;exact i
  have g:=condW_of i (w_not (w_lt w_lit (w_len_list (w_arg rfl))));rw[HN]at g;refine jHi λq=>?_;have u:(n:Int)<((b.length:Nat):Int):=by lia
  first
   | (rw[decide_eq_true u]at g;exact absurd g (by decide))
   | (simp at g;lia)
 cases j with
 |cons s p =>
  cases p;cases s with
  |list v f=>exact⟨_,_,b,rfl,rfl,v,Vq b _ f,e⟩
def ki3(l:OpenLaw)(args:List WData):l.row.toRowW.claim.post args (.bool true) args=true:=
 postW_of (r:=l.row.toRowW) (X:=(true == true))
  (show WShape.has [] (.bool true) .bool=true by first |rfl |decide |simp[WShape.has,WShape.arms,WShape.armsAll])
  (show(WTm.eq .res (.lit (.bool true))).value [] {args:=args,res:=some (.bool true),after:=args}=some (.bool (true == true)) from w_eq_bool (w_res rfl) w_lit) rfl
def jh0{l:OpenLaw}{q:BZ}{loose:List BV}{E:(BV->Option A_)->CP->Prop}{C:CV->CP->Prop}{d:DefRec}
  (J:l.most=some n)(y:d.params.defaults=[])
  (call:∀(w:CV)(c b:BJ)(p u:BV->Option A_)(k:BK)(o:FZ)(s cd e:A_)(a:BK)(vs:List A_)(ns:List Int),
   Ground q loose [] E w c p u b.heap->C w b.heap ->
   b.heap.get? k=some o->o.data=.func (docDef d.name d.params d.body d.scope s cd e)->b.heap.CodeRec cd d.name->p d.name=some (.ref k) ->
   b.heap.get? a=some {cls:=.type "list",data:=.seq vs.toArray}->FT vs ns->ns.length<=n->b.gens = #[] ->
   JS (BR l.prog w) RW (.call (.ref k) ⟨[.ref a],[]⟩) (λr m=>r=.ok (.ret (.bool true))/\OldK b.heap m.heap/\m.os=b.os/\M_ m.gens) b):
  WalkO q loose E C l.row.toRowW d [] (λf vs=>PySem.call f vs):=by
 intro w c b p u G Y k o s cd e U kV I O z B x M args vals as g A F v L;obtain rfl:U=.none:=Dflts.none B y;obtain rfl:kV=.none:=Dflts.noKw B;obtain⟨a,vs,ns,rfl,rfl,i,hints,j⟩:=kj0 J g v;refine enter_call (HD (call w c b p u k o s cd e a vs ns G Y I (fd_plain O) z x i hints j M) λr m H=>?_);obtain⟨rfl,T,Q,P⟩:=H;exact⟨.inl ⟨.bool true,.bool true,[],rfl,λ_=>rfl,.bool true,ki3 l _,λ_=>⟨List.Pairwise.nil,λ_ K=>(nomatch K)⟩⟩,T,Q,P⟩
end Att
namespace L2
open PySem PySem.Spec PyProof.Rows
def Es(s:DR):QZ:=match s with
 | .FunctionDef _ a _ _ _ _ _ _ _ _=>a
 |_=>{posonlyargs:=[],args:=[],vararg:=none,kwonlyargs:=[],kw_defaults:=[],kwarg:=none,defaults:=[] }
def Cp(s:DR):List DR:=match s with
 | .FunctionDef _ _ b _ _ _ _ _ _ _=>b
 |_=>[]
def Av(s:DR):HR:=match s with
 | .FunctionDef _ _ _ _ _ _ sc _ _ _=>sc
 |_=>{kind:=.function,names:=[],isGenerator:=false,isCoroutine:=false}
abbrev CX0:CXT:=λ_ _ _ _ _ _=>False
abbrev E0:XK:=λ_ _ _=>False
def sV{X:Cx}:Passes CX0 X E0:=λ_ _ _ _ _ _ _ h=>h.elim
structure Fun(K:B_)(x qual:BV)(st:DR)(f:BK)(fd:DQ):Prop where
 ex:∃(oc:A_)(od:Option BK)(kV doc pm:A_)(an:Option BK)(cdv ct:A_)(osl:Array (Option A_)),
  fd=W.fnOf x qual (Es st) (Cp st) (Av st) .none kV doc pm an cdv ct/\K.lookup f=some ⟨oc,od,.func fd,osl⟩/\W.codeIn K cdv qual=true
 kp:W.keepIn K (.ref f)=true
variable {P:BZ}{w:CV}
variable {x qual:BV}{st:DR}{f:BK}{fd:DQ}
section
variable {K:B_}{mg:BV->Option A_}{base:CP}
def Fun.ok{N ps:List BV}{k:Nat}{c:Sp}(F:Fun K x qual st f fd)(S:Ez N ps (Av st))(len:∀vs H Q E,c vs H Q E->vs.length=ps.length)
  (b:∀(a:A_)(A:DK)(outer:List JT)(s:BJ)(H:Hp)(vs:List V)(Q:VK)(E:XK),El k (A.deeper (envOfC qual (Av st) s.heap.objs.size f a))->c vs H Q E ->
   ∃t,PSs (Vn CX0 P w K mg base N qual (Av st) f a A outer s H E).nox (Cp st) t/\t {nx:=λ_ n=>Q .non n,rt:=Q} (start N vs) H):Hh P w K mg base CX0 (k+1) f fd ps c:=by
 obtain⟨r,p,kV,m,o,an,a,ct,i,rfl,j,g⟩:=F.ex;refine j8 j g S len λA outer s H vs Q E l e=>?_;have⟨t,h,q⟩:=b a A outer s H vs Q E l e;exact⟨t,h.nox,q⟩
def Fun.binds{ps:List BV}(F:Fun K x qual st f fd)
  (h:∀(kV a e:A_)(an:Option BK)(b ct:A_)(c:List A_),c.length=ps.length->O_ (W.fnOf x qual (Es st) (Cp st) (Av st) .none kV a e an b ct) ⟨c,[]⟩=pure (ps.zip c)):Binds K fd ps []:=by
 obtain⟨k,j,kV,a,e,an,b,ct,g,rfl,l,i⟩:=F.ex;exact .all (h kV a e an b ct)
def uQ{h:A_}{od an:Option BK}{e:Array (Option A_)}{kV b g a ct:A_}(l:K.lookup f=some ⟨h,od,.func (W.fnOf x qual (Es st) (Cp st) (Av st) .none kV b g an a ct),e⟩)
  (c:W.codeIn K a qual=true)(k:W.keepIn K (.ref f)=true):Fun K x qual st f (W.fnOf x qual (Es st) (Cp st) (Av st) .none kV b g an a ct):=⟨⟨h,od,kV,b,g,an,a,ct,e,rfl,l,c⟩,k⟩
end
variable {X:Cx}
def pv(i:Nat){pos:JG}(e:X.N[i]? = some x:=by rfl)(b:Vis X.env.scope x:=by first |exact Or.inl rfl |exact Or.inr (Or.inl rfl) |exact Or.inr (Or.inr rfl))(c:Zd x:=by decide)
  (a:(x == ("__classdict__" : BV))=false:=by decide):PE X (.Name x pos) (jB i):=Xw e b c a
def Af(H H':Hp):Prop:=∀b o,H b=some o->H' b=some o
def Af.refl(H:Hp):Af H H:=λ_ _ h=>h
def Af.trans{H g e:Hp}(a:Af H g)(b:Af g e):Af H e:=λc o h=>b c o (a c o h)
variable {H':Hp}
def Af.free{H:Hp}(e:Af H H'){l:BK}(h:H' l=Option.none):H l=Option.none:=by
 cases q:H l with
 |none=>rfl
 |some o=>rw[e l o q]at h;cases h
section
variable {κ:Type}[DecidableEq κ]
def Vv(a:List (κ×V))(k:κ):Option V:=(a.find? λb=>decide (b.1=k)).map (·.2)
def putK(a:List (κ×V))(k:κ)(v:V):List (κ×V):=
 if(a.any λb=>decide (b.1=k))=true then a.map (λb=>if b.1=k then(b.1,v) else b) else a++[(k,v)]
def Tc{p:κ×V}{r:List (κ×V)}{k:κ}(e:p.1=k):Vv (p::r) k=some p.2:=by simp[Vv,fC,e]
def S9{p:κ×V}{r:List (κ×V)}{k:κ}(e:¬ p.1=k):Vv (p::r) k=Vv r k:=by simp[Vv,fC,e]
def xM(k:κ):∀a:List (κ×V),(a.any λb=>decide (b.1=k))=(Vv a k).isSome
 | []=>rfl
 |p::r=>by
  rw[fB];by_cases e:p.1=k
  ·simp only[Tc e,decide_eq_true e,Bool.true_or,jGv]
  ·rw[S9 e,decide_eq_false e,Bool.false_or];exact xM k r
theorem U7(a:List (κ×V))(k:κ)(v:V):(putK a k v).length<=a.length+1:=by
 unfold putK;split
 ·rw[HN];lia
 ·rw[PB,RB,iD];lia
def V7.isSome_eq{o:Option V}{u:Option A_}(r:V7 o u):o.isSome=u.isSome:=by
 cases o with
 |none=>cases u with
  |none=>rfl
  |some _=>exact(show False from r).elim
 |some _=>cases u with
  |none=>exact(show False from r).elim
  |some _=>rfl
def V7.getD{o:Option V}{u:Option A_}{d:V}{d':A_}(r:V7 o u)(a:RelV d d'):RelV (o.getD d) (u.getD d'):=by
 cases o with
 |none=>cases u with
  |none=>exact a
  |some _=>exact(show False from r).elim
 |some _=>cases u with
  |none=>exact(show False from r).elim
  |some _=>exact r
def KV.val{a:List (κ×V)}{vs:List (κ×A_)}(r:KV a vs)(k:κ):V7 (Vv a k) (UL vs k):=by
 unfold KV at r;induction r with
 |nil=>exact True.intro
 | @cons p q ps c h t j =>
  obtain⟨i,l⟩:=h;by_cases e:p.1=k
  ·have g:q.1=k:=i.symm.trans e;have b:UL (q::c) k=some q.2:=by simp[UL,fC,g]
   rw[Tc e,b];exact l
  ·have g:¬ q.1=k:=λz=>e (i.trans z);have b:UL (q::c) k=UL c k:=by simp[UL,fC,g]
   rw[S9 e,b];exact j
def KV.any{a:List (κ×V)}{vs:List (κ×A_)}(r:KV a vs)(k:κ):(a.any λb=>decide (b.1=k))=vs.any λb=>decide (b.1=k):=by
 unfold KV at r;induction r with
 |nil=>rfl
 |cons h t c=>rw[fB,fB,c,h.1]
def KV.repl{b:List (κ×V)}{vs:List (κ×A_)}(r:KV b vs)(k:κ){y:V}{u:A_}(g:RelV y u):
  KV (b.map λa=>if a.1=k then(a.1,y) else a) (vs.map λa=>if a.1=k then(a.1,u) else a):=by
 unfold KV at r ⊢;induction r with
 |nil=>exact .nil
 | @cons p q ps l h t i =>
  rw[NP,NP];refine .cons ?_ i;obtain⟨c,j⟩:=h;by_cases e:p.1=k
  ·rw[if_pos e,if_pos (c.symm.trans e)];exact⟨c,g⟩
  ·rw[if_neg e,if_neg (λz=>e (c.trans z))];exact⟨c,j⟩
def KV.put{a:List (κ×V)}{vs:List (κ×A_)}(r:KV a vs)(k:κ){y:V}{u:A_}(b:RelV y u):KV (putK a k y) (stored vs k u):=by
 unfold putK stored;rw[r.any k];by_cases e:(vs.any λc=>decide (c.1=k))=true
 ·rw[if_pos e,if_pos e];exact r.repl k b
 ·rw[if_neg e,if_neg e];exact Paired.snoc r ⟨rfl,b⟩
def KV.length{a:List (κ×V)}{vs:List (κ×A_)}(r:KV a vs):a.length=vs.length:=Paired.length r
end
def nJ{k:Key}{u:A_}(r:RelV (kV k) u):(Cv P w).is k u=true:=by
 cases k with
 |inl i=>have⟨t,e⟩:=(show ∃t,u=Value.int i t from r);subst e;exact jl4 P w i t
 |inr x=>have⟨t,e⟩:=(show ∃t,u=Value.str x t from r);subst e;exact jl5 P w x t
def Z0{P:BZ}{w:CV}:∀{ks:List Key}{a:List A_},Vals (ks.map kV) a->ItemsAre (Cv P w) ks a
 | [],_,r=>by rw[eZ]at r;cases r;exact .nil
 |k::ks,_,r=>by
  rw[NP]at r;cases r with
  |cons h t=>exact .cons (nJ h) (Z0 t)
abbrev KT(H:Hp):List (List Key×V)->List (List Key×BK×A_)->Prop:=WR λp q=>p.1=q.1/\H q.2.1=some (.tup (p.1.map kV))/\RelV p.2 q.2.2
variable {kvs:List (List Key×V)}{xs:List (List Key×BK×A_)}
def KT.val{H:Hp}(r:KT H kvs xs)(k:List Key):V7 (Vv kvs k) ((YJ xs k).map (·.2)):=by
 induction r with
 |nil=>exact True.intro
 | @cons p q ps a h t i =>
  obtain⟨g,_,j⟩:=h;by_cases e:p.1=k
  ·have c:q.1=k:=g.symm.trans e;have b:YJ (q::a) k=some q.2:=by simp[YJ,fC,c]
   rw[Tc e,b];exact j
  ·have c:¬ q.1=k:=λz=>e (g.trans z);have b:YJ (q::a) k=YJ a k:=by simp[YJ,fC,c]
   rw[S9 e,b];exact i
def KT.repl{H:Hp}(r:KT H kvs xs)(k:List Key){y:V}{u:A_}(g:RelV y u):
  KT H (kvs.map λb=>if b.1=k then(b.1,y) else b) (xs.map (putAt k u)):=by
 induction r with
 |nil=>exact .nil
 | @cons p q ps l h t i =>
  rw[NP,NP];refine .cons ?_ i;obtain⟨a,c,j⟩:=h;unfold putAt;by_cases e:p.1=k
  ·rw[if_pos e,if_pos (a.symm.trans e)];exact⟨a,c,g⟩
  ·rw[if_neg e,if_neg (λz=>e (a.trans z))];exact⟨a,c,j⟩
variable {b:BK}
def KT.put{H:Hp}(r:KT H kvs xs)(k:List Key){y:V}{u:A_}(g:H b=some (.tup (k.map kV)))(a:RelV y u):
  KT H (putK kvs k y) (storedH xs k b u):=by
 have e:(kvs.any λc=>decide (c.1=k))=(YJ xs k).isSome:=by rw[xM,(r.val k).isSome_eq,Option.isSome_map]
 unfold putK storedH;rw[e];by_cases q:(YJ xs k).isSome=true
 ·rw[if_pos q,if_pos q];exact r.repl k a
 ·rw[if_neg q,if_neg q];exact Paired.snoc r ⟨rfl,g,a⟩
def KT.keeps{H:Hp}(r:KT H kvs xs)(ht:∀b a,H b=some (.tup a)->H' b=some (.tup a)):KT H' kvs xs:=
 Paired.mapP r λ_ _ z=>⟨z.1,ht _ _ z.2.1,z.2.2⟩
variable {a:BK}{H:Hp}
section
variable {h:CP}
def sS{u:HO}(ok:HOk P w H h)(e:Rd H a u):Bu P w H h a u:=e.ok ok
def n6{kvs:List (Key×V)}(ok:HOk P w H h)(e:Rd H a (.dK kvs)):kvs.length<=sizeLine/\(a == GK)=false/\∃c,KV kvs c/\h.DictOf (Cv P w) a c:=
 show Bu P w H h a (.dK kvs) from sS ok e
def yb5{kvs:List (Key×V)}(ok:HOk P w H h)(e:H a=some (.dK kvs)):kvs.length<=sizeLine/\(a == GK)=false/\∃c,KV kvs c/\h.DictOf (Cv P w) a c:=n6 ok (.inl e)
def oR{ks:List Key}(ok:HOk P w H h)(e:H a=some (.tup (ks.map kV))):(OJ (Cv P w)).is h ks a:=by have⟨_,c,r,o,j,i,n,g⟩:=(show Bu P w H h a (.tup (ks.map kV)) from ok a _ e);exact⟨o,c.toArray,n,j,i,g,by simpa using Z0 r⟩
def nY(ok:HOk P w H h)(e:Rd H a (.dT kvs)):kvs.length<=sizeLine/\(a == GK)=false /\
  ∃xs,KT H kvs xs/\h.DictOfH (OJ (Cv P w)) a xs:=by
 obtain⟨z,y,xs,r,o,v,A,u,s,n,k,j⟩:=(show Bu P w H h a (.dT kvs) from sS ok e);refine⟨z,y,xs,r,o,v,A,u,s,n,k,λx c=>?_,j⟩;have all:∀{l:List (List Key×V)}{m:List (List Key×BK×A_)},KT H l m->∀x∈m,(OJ (Cv P w)).is h x.1 x.2.1:=by
  intro l m q;induction q with
  |nil=>intro x c;exact nomatch c
  | @cons p q ps B g t i =>
   intro x c;rcases HY.mp c with e |c
   ·subst e;exact oR ok (by rw[<-g.1];exact g.2.1)
   ·exact i x c
 exact all r x c
def yb7(ok:HOk P w H h)(e:H a=some (.dT kvs)):kvs.length<=sizeLine/\(a == GK)=false /\
  ∃xs,KT H kvs xs/\h.DictOfH (OJ (Cv P w)) a xs:=nY ok (.inl e)
end
def sG(H:Hp)(a:BK)(y:V)(r:Option V):Prop:=
 (∃kvs k,Rd H a (.dK kvs)/\y=kV k/\r=Vv kvs k)\/∃kvs k b,Rd H a (.dT kvs)/\y=.ref b/\H b=some (.tup (k.map kV))/\r=Vv kvs k
def j0(H:Hp)(a:BK)(y v:V)(H':Hp):Prop:=
 (∃kvs k,H a=some (.dK kvs)/\y=kV k/\kvs.length<sizeLine/\H'=upd H a (.dK (putK kvs k v))) \/
 ∃kvs k b,H a=some (.dT kvs)/\y=.ref b/\H b=some (.tup (k.map kV))/\kvs.length<sizeLine/\H'=upd H a (.dT (putK kvs k v))
def j0.t{k:List Key}{v:V}(e:H a=some (.dT kvs))(g:H b=some (.tup (k.map kV)))(c:kvs.length<sizeLine):
  j0 H a (.ref b) v (upd H a (.dT (putK kvs k v))):=.inr ⟨kvs,k,b,e,rfl,g,c,rfl⟩
variable {A:DK}{pins:List (BK×FZ)}{o:Option V}{s:BJ}{σ:St}{y:V}{r u:A_}{E:A_->BJ->Prop}
variable {h':CP}
section
variable {v:V}
def Inv.big(I:Inv X pins σ H s):GK<s.heap.objs.size:=by have h:HS<s.heap.objs.size:=(I.mod.glob.keeps I.bk).lt;exact g_ (by decide) h
def wO{t':Nat}{c:HO}(I:Inv X pins σ H s)(g:Mut (H a))(h:Heap.SameBut a s.heap h')(i:∃q,h'.get? a=some q)(new:Bu X.prog X.w (upd H a c) h' a c):
  Inv X pins σ (upd H a c) {s with heap:=h',toks:=t'}:=
 I.write (x:=a) (e:=a) g (.inl rfl) (λb q j z=>(h.2 b j).trans z) i new
def wq0{kvs:List (Key×V)}{vs:List (Key×A_)}(z:kvs.length<=sizeLine)(c:(a == GK)=false)(rel:KV kvs vs)(dd:h'.DictOf (Cv P w) a vs):
  Bu P w H' h' a (.dK kvs):=⟨z,c,vs,rel,dd⟩
theorem ke1{Q:Unit->BJ->Prop}(U:A.units+1<HX)(I:Inv X pins σ H s)(g:j0 H a y v H')(K:RelV y u)(L:RelV v r)(h:∀J,Inv X pins σ H' J->Q () J):
  BL (BR X.prog X.w) A (setItem (.ref a) u r) Q E s:=by
 rcases g with ⟨kvs,k,e,C,l,F⟩ | ⟨kvs,k,b,e,C,O,l,F⟩
 ·subst C F;obtain⟨z,B,T,rel,G⟩:=yb5 I.hok e;have m:T.length<=sizeLine:=by rw[<-rel.length];exact z
  have p:(putK kvs k v).length<=sizeLine:=by have:=U7 kvs k v;lia
  refine wpAny_setItem_pairs (hsz:=m) (nJ K) G λh' i n=>h _ ?_;have Y:∃q,h'.get? a=some q:=let ⟨q,_,_,j,_⟩:=i; ⟨q,j⟩;exact wO I (by rw[e];exact True.intro) n Y (wq0 p B (rel.put k L) i)
 ·subst C F;cases(show u=Value.ref b from K);obtain⟨z,B,xs,rel,G⟩:=yb7 I.hok e;have m:xs.length<=sizeLine:=by rw[<-Paired.length rel];exact z
  have p:(putK kvs k v).length<=sizeLine:=by have:=U7 kvs k v;lia
  refine wpAny_setItem_heap (hsz:=m) (bH U) (oR I.hok O) G λh' i n=>h _ ?_;obtain⟨q,es,ep,j,h2,h3,h4,_,Z⟩:=i;refine wO I (by rw[e];exact True.intro) n ⟨q,j⟩ ⟨p,B,_,(rel.put k O L).keeps λc ys M=>?_,q,es,ep,j,h2,h3,h4,Z⟩;rw[Ad (ye8 M e (λz=>nomatch z))];exact M
end
def km3(h:CP)(c:GK<h.objs.size):Bu P w H (h.push {cls:=.type "dict",data:=.dict #[] }) h.objs.size (.dT []):=
 ⟨U_ _,beq_eq_false_iff_ne.mpr (Ne.symm (JV c)),[],.nil,_,#[],0,L_ _ rfl,⟨rfl,rfl,rfl⟩,rfl,rfl,iB⟩
def wy7:TE:=λ_ H Q=>∀p,H p=none->Q (.ref p) (upd H p (.dT []))
section
variable {c:JG}
def ku6:PE X (.Dict [] [] c) wy7:=λpins s σ H Q I h =>
 wpAny_Dict_empty ⟨.ref s.heap.objs.size,_,I.laid (a:=s.heap.objs.size) (o:=.dT []) (t':=s.toks) (λ_ _ q=>HF _ q) (FW _) (km3 s.heap I.big),rfl,h _ (I.hok.fresh (FW _))⟩
end
structure M2(X:Cx)(o:CN)(m:BV)(apos:JG)(e f:CN)(cpos:JG):Prop where
 base:GD o m X.env (CZ o X.env)=CZ o X.env
 few:((HQ cpos (BP [e,f] X.env)).all (λx=>!x.1) && (KQ cpos (G_ [] X.env)).all (λx=>x.1.isSome)
  && decide (([e,f]:List CN).length+([]:List JB).length+(if([]:List JB).isEmpty then 0 else 1)<30))=true
 line:(apos.endLine == cpos.line)=true
 trees:HQ cpos (BP [e,f] X.env)=[(false,CZ e X.env),(false,CZ f X.env)]
def IsD(H:Hp)(a:BK):Prop:=(∃kvs,Rd H a (.dK kvs))\/∃kvs,Rd H a (.dT kvs)
def uI(I:Inv X pins σ H s)(d:IsD H a):
  s.TypeIs (.ref a) "dict"/\(∀b,Value.ref a=.ref b->∃c,s.heap.get? b=some c/\c.dict=none)/\(a == GK)=false:=by
 rcases d with ⟨kvs,e⟩ | ⟨kvs,e⟩
 ·have⟨_,h,k,_,g⟩:=n6 I.hok e;refine⟨g.typeIs,λb q=>?_,h⟩;cases q;obtain⟨c,_,_,j,i,_⟩:=g;exact⟨c,j,i.2.1⟩
 ·have⟨_,h,xs,_,g⟩:=nY I.hok e;refine⟨g.typeIs,λb q=>?_,h⟩;cases q;obtain⟨c,_,_,j,i,_⟩:=g;exact⟨c,j,i.2.1⟩
section
variable {d:V}
def wp9{Q:A_->BJ->Prop}(v:A.units+1<HX)(I:Inv X pins σ H s)(g:sG H a y o)(p:RelV y u)(q:RelV d r)(h:∀m n,Inv X pins σ H n->RelV (o.getD d) m->Q m n):
  BL (BR X.prog X.w) A (call (.builtin "dict.get") [.ref a,u,r]) Q E s:=by
 rcases g with ⟨kvs,k,e,j,l⟩ | ⟨kvs,k,b,e,j,B,l⟩
 ·subst j;have⟨z,i,C,rel,c⟩:=n6 I.hok e;refine ZC PySem.F.slot_dict_get c.typeIs PySem.F.entry_dict_get (PySem.F.args_dict_get_3 _ _ _) (meets_dict_get_default (Cv X.prog X.w) a (nJ p) i r) ⟨_,c.mapOf,h _ _ (I.tok _) ?_⟩;rw[l];exact(rel.val k).getD q
 ·subst j;cases(show u=Value.ref b from p);have⟨z,i,xs,rel,c⟩:=nY I.hok e;refine ZC PySem.F.slot_dict_get c.typeIs PySem.F.entry_dict_get (PySem.F.args_dict_get_3 _ _ _) (meetsH_dict_get_default (OJ (Cv X.prog X.w)) a b i r) ⟨bH v,k,xs,oR I.hok B,c,h _ _ (I.tok _) ?_⟩;rw[l];exact(rel.val k).getD q
end
def wy6(h ty g:TE):TE:=λσ H Q=>h σ H λx e=>∃a,x=.ref a/\IsD e a/\ty σ e λy i=>g σ i λz c=>∃o,sG c a y o/\Q (o.getD z) c
section
variable {o e f:CN}{apos cpos:JG}{i ty c:TE}
def ku4(M:X.A.units+1<HX)(O:PE X o i)(U:PE X e ty)(T:PE X f c)(m:M2 X o "get" apos e f cpos):PE X (.Call (.Attribute o "get" apos) [e,f] [] cpos) (wy6 i ty c):=by
 intro pins s σ H Q I h;refine wpAny_Call_method m.base m.few m.line PySem.F.plainAttrs_dict PySem.F.slot_dict_get PySem.F.type_dict_get (thn (O pins s σ H _ I h) λu v j=>?_);obtain⟨x,H1,l,G,a,Y,d,L⟩:=j;subst Y;obtain rfl:u=Value.ref a:=G;obtain⟨p,n,_⟩:=uI l d;refine⟨p,n,?_⟩;rw[m.trees];refine Calls.callWith_builtin rfl (Calls.evalArgs_plain (Calls.spliced_cons (thn (U pins v σ H1 _ l L) λiv q ⟨y,H2,I2,C,K⟩ =>
  Calls.spliced_cons (thn (T pins q σ H2 _ I2 K) λfv s3 ⟨z,H3,I3,B,ov,g,J⟩=>Calls.spliced_nil ?_))))
 exact wp9 M I3 g C B λw' s4 Z k=>⟨_,H3,Z,k,J⟩
end
end L2
set_option maxHeartbeats 4000000
namespace PD
open PySem PySem.Spec PyProof.Rows L2
abbrev St:=L2.St
inductive D where
 |non |bl (b:Bool) |int (i:Int) |str (x:BV) |tup (xs:List D) |lst (xs:List D) |exc (c:BV) (ks:List D) (fs:List D)
def nr{c:Type}{a b:c}(h:a=b):a=b:=h
inductive R(α:Type) where
 |ok (a:α) |exc (e:D) |bad
def R.bind{c b:Type}:R c->(c->R b)->R b
 | .ok a,f=>f a
 | .exc e,_=>.exc e
 | .bad,_=>.bad
instance:Monad R where
 pure:=R.ok
 bind:=R.bind
@[simp] def R.ok_bind{b c:Type}(a:b)(f:b->R c):(R.ok a).bind f=f a:=nr rfl
def RQ{b:Type}(r:R b)(q:b->Prop)(e:D->Prop):Prop:=
 match r with
 | .ok a=>q a
 | .exc x=>e x
 | .bad=>False
def RQ.bind{c b:Type}{r:R c}{f:c->R b}{q:b->Prop}{e:D->Prop}:RQ (r.bind f) q e↔RQ r (λa=>RQ (f a) q e) e:=by cases r<;>exact Iff.rfl
variable {Z:D->Prop}
def RQ.mono{b:Type}{r:R b}{q c:b->Prop}{e:D->Prop}(h:RQ r q e)(f:∀a,q a->c a)(g:∀x,e x->Z x):RQ r c Z:=by
 cases r with
 |ok a=>exact f a h
 |exc x=>exact g x h
 |bad=>exact h
abbrev AS:=Option BK->Prop
def fresh(H:Hp):AS:=λo=>∃a,o=some a/\H a=none
def AS.plus(S:AS)(H:Hp):AS:=λo=>S o\/fresh H o
def AS.but(S:AS)(a:BK):AS:=λo=>S o/\o≠some a
def RoL(K:B_)(H:Hp)(a:BK)(vs:List V):Prop:=
 (∃o,H a=some (.frz o (.lst vs))) \/
  ∃(o:FZ)(its:Array A_)(n:Nat),K.lookup a=some o/\o.cls=.type "list"/\o.dict=none/\o.data=.seq its n/\its.size<=sizeLine/\Vals vs its.toList
def LsR(K:B_)(H:Hp)(S:AS)(a:BK)(vs:List V):Prop:=(H a=some (.lst vs)/\S (some a))\/(RoL K H a vs/\S none)
variable {vs:List V}
def LsR.sq{K:B_}{H:Hp}{S:AS}{a:BK}(h:LsR K H S a vs):SqL K H a vs:=by
 rcases h with ⟨h,_⟩ | ⟨⟨o,h⟩ |h,_⟩
 ·exact .inl (.inl h)
 ·exact .inl (.inr ⟨o,h⟩)
 ·exact .inr h
def SqL.ls{K:B_}{H:Hp}{a:BK}{S:AS}(h:SqL K H a vs)(c:S (some a))(b:S none):LsR K H S a vs:=by
 rcases h with (h | ⟨o,h⟩) |h
 ·exact .inl ⟨h,c⟩
 ·exact .inr ⟨.inl ⟨o,h⟩,b⟩
 ·exact .inr ⟨.inr h,b⟩
def kyD:Key->D
 | .inl i=>.int i
 | .inr x=>.str x
def Vk(H:Hp)(c:BV)(ks:List D)(a:BK)(vs:List V):Prop:=
 (c = "dict"/\∃kk:List (List Key),ks=kk.map (λk=>D.tup (k.map kyD))/\kk.length=vs.length/\kk.Nodup/\∃o,H a=some (.frz o (.dT (kk.zip vs)))) \/
  (c = "dictK"/\∃kk:List Key,ks=kk.map kyD/\kk.length=vs.length/\kk.Nodup/\∃o,H a=some (.frz o (.dK (kk.zip vs))))
structure EC(K:B_)(c:BV)(C W:BK):Prop where
 at_:PySem.W.nsIn K PySem.mainGlobals c=some (some (.ref C))
 top:PySem.W.nsIn K PySem.mainGlobals "WebError" = some (some (.ref W))
 cls:∃cd,PySem.W.clsIn K C=some cd/\cd.name=c/\cd.hasDict=true/\cd.mro=[.ref C,.ref W,.type "ValueError",.type "Exception",.type "BaseException",.type "object"]
 wcl:∃cd,PySem.W.clsIn K W=some cd/\cd.name = "WebError"/\cd.mro=[.ref W,.type "ValueError",.type "Exception",.type "BaseException",.type "object"]
 gets:PySem.W.findIn K (.ref C) "__getattribute__" = some (some (.builtin "BaseException.__getattribute__"))
 geta:PySem.W.findIn K (.ref C) "__getattr__" = some none
 cla:PySem.W.findIn K (.ref C) "__class__" = some (some (.builtin "object.__class__"))
 nd:c ≠ "dict"/\c ≠ "dictK"
def Fz(C a:BK)(od:Option BK):CP->Prop:=λh=>∃vs b,h.get? a=some ⟨.ref C,od,.fields vs,b⟩
def V4(K:B_)(H:Hp)(c:BV)(ks:List D)(a:BK)(vs:List V):Prop:=∃C W,EC K c C W /\
 ((ks=[]/\vs=[]/\H a=some (.ext (Fz C a none)))\/∃f v b,ks=[.str f]/\vs=[v]/\PySem.W.findIn K (.ref C) f=some none/\H a=some (.ext (Fz C a (some b)))/\H b=some (.xd [(f,v)]))
variable {ks:List D}
def V4.same{K:B_}{H H':Hp}{c:BV}{a:BK}(e:Af H H')(h:V4 K H c ks a vs):V4 K H' c ks a vs:=
 let ⟨C,W,g,b⟩:=h; ⟨C,W,g,b.imp (λ⟨x,y,z⟩=>⟨x,y,e _ _ z⟩) λ⟨f,v,i,x,y,n,z,t⟩=>⟨f,v,i,x,y,n,e _ _ z,e _ _ t⟩⟩
variable {o o':HO}
def V4.ne{K:B_}{H:Hp}{c:BV}{a l:BK}(i:H l=some o)(m:∀e,o≠.ext e)(k:∀z,o≠.xd z)(h:V4 K H c ks a vs):V4 K (upd H l o') c ks a vs:=by
 revert h;refine Bm λC W r p=>?_;have g:∀{b e},H b=some (.ext e)->b≠l:=λq z=>by rw[z,i]at q;exact m _ (Option.some.inj q)
 have j:∀{b e},H b=some (.xd e)->b≠l:=λq z=>by rw[z,i]at q;exact k _ (Option.some.inj q)
 exact⟨C,W,r,p.imp (λ⟨x,y,z⟩=>⟨x,y,by rw[Ad (g z)];exact z⟩) λ⟨f,v,s,x,y,n,z,t⟩=>⟨f,v,s,x,y,n,by rw[Ad (g z)];exact z,by rw[Ad (j t)];exact t⟩⟩
def XAt(K:B_)(H:Hp)(S:AS)(c:BV)(ks:List D)(a:BK)(vs:List V):Prop:=(Vk H c ks a vs/\S (some a))\/V4 K H c ks a vs
def Vk.same{H H':Hp}{c:BV}{a:BK}(e:Af H H')(h:Vk H c ks a vs):Vk H' c ks a vs:=
 h.imp (λ⟨f,kk,j,i,b,o,g⟩=>⟨f,kk,j,i,b,o,e _ _ g⟩) λ⟨f,kk,j,i,b,o,g⟩=>⟨f,kk,j,i,b,o,e _ _ g⟩
def Vk.has{H:Hp}{c:BV}{a:BK}(h:Vk H c ks a vs):∃o,H a=some o/\∀b,o≠.lst b:=by
 rcases h with ⟨_,kk,_,_,_,_,h⟩ | ⟨_,kk,_,_,_,_,h⟩
 ·exact⟨_,h,λb z=>by cases z⟩
 ·exact⟨_,h,λb z=>by cases z⟩
def Vk.ne{H:Hp}{c:BV}{a l:BK}(j:l≠a)(h:Vk H c ks a vs):Vk (upd H l o) c ks a vs:=
 h.imp (λ⟨e,kk,i,g,b,x,f⟩=>⟨e,kk,i,g,b,x,by rw[Ad (Ne.symm j)];exact f⟩) λ⟨e,kk,i,g,b,x,f⟩=>⟨e,kk,i,g,b,x,by rw[Ad (Ne.symm j)];exact f⟩
variable {S':AS}
def XAt.same{K:B_}{H H':Hp}{S:AS}{c:BV}{a:BK}(e:Af H H')(b:∀o,S o->S' o)(h:XAt K H S c ks a vs):XAt K H' S' c ks a vs:=h.imp (λh=>⟨h.1.same e,b _ h.2⟩) λh=>h.same e
variable {ws ys:List V}
def XAt.wr{K:B_}{H:Hp}{S:AS}{c:BV}{a l:BK}(b:H l=some (.lst ws))(h:XAt K H S c ks a vs):XAt K (upd H l (.lst ys)) S c ks a vs:=
 h.imp (λh=>⟨h.1.ne (λz=>by obtain⟨o,e,n⟩:=h.1.has;rw[<-z,b]at e;exact n ws (Option.some.inj e).symm),h.2⟩) λh=>h.ne b (λ_ z=>by cases z) (λ_ z=>by cases z)
def XAt.wrD{K:B_}{H:Hp}{S:AS}{c:BV}{a l:BK}(f:H l=some o)(i:∀b,o≠.ext b)(g:∀z,o≠.xd z)(e:¬ S (some l))(h:XAt K H S c ks a vs):XAt K (upd H l o') S c ks a vs:=
 h.imp (λh=>⟨h.1.ne (λz=>e (z ▸ h.2)),h.2⟩) λh=>h.ne f i g
def XAt.avoid{K:B_}{H:Hp}{S:AS}{c:BV}{a p:BK}(b:H p=none)(h:XAt K H S c ks a vs):XAt K H (AS.but S p) c ks a vs:=
 h.imp (λh=>⟨h.1,h.2,λz=>by cases z;obtain⟨o,e,_⟩:=h.1.has;rw[b]at e;cases e⟩) λh=>h
def XAt.errC{K:B_}{H:Hp}{S:AS}{c:BV}{a:BK}(h:XAt K H S c ks a vs)(e:c ≠ "dict")(b:c ≠ "dictK"):V4 K H c ks a vs:=
 h.resolve_left λ⟨q,_⟩=>by
  rcases q with ⟨z,_⟩ | ⟨z,_⟩
  ·exact e z
  ·exact b z
def TpR(K:B_)(H:Hp)(a:BK)(xs:List V):Prop:=H a=some (.tup xs)
def TpR.of{K:B_}{H:Hp}{a:BK}{xs:List V}(h:H a=some (.tup xs)):TpR K H a xs:=h
def TpR.sq{K:B_}{H:Hp}{a:BK}{xs:List V}(h:TpR K H a xs):SqT K H a xs:=SqT.of h
mutual
def Rep(K:B_)(H:Hp)(S:AS):D->V->Prop
 | .non,v=>v=.non
 | .bl b,v=>v=.bl b
 | .int i,v=>v=.int i
 | .str x,v=>v=.str x
 | .tup e,v=>∃a vs,v=.ref a/\TpR K H a vs/\An K H S e vs
 | .lst e,v=>∃a vs,v=.ref a/\LsR K H S a vs/\An K H S e vs
 | .exc c ks f,v=>∃a vs,v=.ref a/\XAt K H S c ks a vs/\An K H S f vs
def An(K:B_)(H:Hp)(S:AS):List D->List V->Prop
 | [],vs=>vs=[]
 |d::ds,vs=>∃v r,vs=v::r/\Rep K H S d v/\An K H S ds r
end
variable {H H':Hp}{K:B_}
variable {v:V}{ds:List D}
section
variable {b a:Hp}{S S':AS}
def Af.sqT{a:BK}{xs:List V}(e:Af H H')(h:SqT K H a xs):SqT K H' a xs:=by
 rcases h with (h | ⟨o,h⟩) |h
 ·exact .inl (.inl (e _ _ h))
 ·exact .inl (.inr ⟨o,e _ _ h⟩)
 ·exact .inr h
def RoL.same{a:BK}(e:Af H H')(h:RoL K H a vs):RoL K H' a vs:=by
 rcases h with ⟨o,h⟩ |h
 ·exact .inl ⟨o,e _ _ h⟩
 ·exact .inr h
mutual
theorem Oj(ht:∀a vs,TpR K H a vs->TpR K H' a vs)(g:∀a vs,LsR K H S a vs->LsR K H' S' a vs)(f:∀c ks a vs,XAt K H S c ks a vs->XAt K H' S' c ks a vs):∀(d:D)(v:V),Rep K H S d v->Rep K H' S' d v
 | .non,_,h=>h
 | .bl _,_,h=>h
 | .int _,_,h=>h
 | .str _,_,h=>h
 | .tup ds,v,h=>by revert h;refine Bo λa vs e q r=>?_;exact⟨a,vs,e,ht a vs q,Fx ht g f ds vs r⟩
 | .lst ds,v,h=>by revert h;refine Bo λa vs e q r=>?_;exact⟨a,vs,e,g a vs q,Fx ht g f ds vs r⟩
 | .exc c ks i,v,h=>by revert h;refine Bo λa vs e q r=>?_;exact⟨a,vs,e,f c ks a vs q,Fx ht g f i vs r⟩
theorem Fx(ht:∀a vs,TpR K H a vs->TpR K H' a vs)(g:∀a vs,LsR K H S a vs->LsR K H' S' a vs)(f:∀c ks a vs,XAt K H S c ks a vs->XAt K H' S' c ks a vs):∀(ds:List D)(vs:List V),An K H S ds vs->An K H' S' ds vs
 | [],_,h=>h
 |d::ds,vs,h=>by revert h;refine Bo λv r e j i=>?_;exact⟨v,r,e,Oj ht g f d v j,Fx ht g f ds r i⟩
end
def LsR.same{a:BK}(e:Af H H')(c:∀o,S o->S' o)(h:LsR K H S a vs):LsR K H' S' a vs:=by
 rcases h with ⟨h,z⟩ | ⟨h,z⟩
 ·exact .inl ⟨e _ _ h,c _ z⟩
 ·exact .inr ⟨h.same e,c _ z⟩
def Rep.mono{d:D}(h:Rep K H S d v)(e:Af H H')(c:∀o,S o->S' o):Rep K H' S' d v:=
 Oj (λ_ _ q=>TpR.of (e _ _ q)) (λ_ _ q=>q.same e c) (λ_ _ _ _ q=>q.same e c) d v h
def An.mono(h:An K H S ds vs)(e:Af H H')(c:∀o,S o->S' o):An K H' S' ds vs:=
 Fx (λ_ _ q=>TpR.of (e _ _ q)) (λ_ _ q=>q.same e c) (λ_ _ _ _ q=>q.same e c) ds vs h
def wy3{a l:BK}(c:H l=some (.lst ws))(h:SqT K H a vs):SqT K (upd H l (.lst ys)) a vs:=by
 have ne:∀u,H a=some u->(∀z,u≠.lst z)->upd H l (.lst ys) a=some u:=λu e n=>by
  have:a≠l:=by rintro rfl;rw[c]at e;exact n ws (Option.some.inj e).symm
  rw[Ad this];exact e
 rcases h with (h | ⟨o,h⟩) |h
 ·exact .inl (.inl (ne _ h (λz q=>by cases q)))
 ·exact .inl (.inr ⟨o,ne _ h (λz q=>by cases q)⟩)
 ·exact .inr h
def tV{a l:BK}(c:H l=some (.lst ws))(h:TpR K H a vs):TpR K (upd H l (.lst ys)) a vs:=by show upd H l (.lst ys) a=_;rw[Ad (λz=>by have h:H a=_:=h;rw[z,c]at h;cases h)];exact h
def LsR.wr{a l:BK}(e:H l=some (.lst ws))(c:¬ S (some l))(h:LsR K H S a vs):LsR K (upd H l (.lst ys)) S a vs:=by
 rcases h with ⟨h,z⟩ | ⟨⟨o,h⟩ |h,z⟩
 ·have:a≠l:=by rintro rfl;exact c z
  exact .inl ⟨by rw[Ad this];exact h,z⟩
 ·have:a≠l:=by rintro rfl;rw[e]at h;cases h
  exact .inr ⟨.inl ⟨o,by rw[Ad this];exact h⟩,z⟩
 ·exact .inr ⟨.inr h,z⟩
def Rep.wr{d:D}{l:BK}(h:Rep K H S d v)(c:H l=some (.lst ws))(e:¬ S (some l)):Rep K (upd H l (.lst ys)) S d v:=
 Oj (λ_ _ q=>tV c q) (λ_ _ q=>q.wr c e) (λ_ _ _ _ q=>q.wr c) d v h
def An.wr{l:BK}(h:An K H S ds vs)(c:H l=some (.lst ws))(e:¬ S (some l)):An K (upd H l (.lst ys)) S ds vs:=
 Fx (λ_ _ q=>tV c q) (λ_ _ q=>q.wr c e) (λ_ _ _ _ q=>q.wr c) ds vs h
def wl6{a l:BK}(e:H l=some o)(f:∀z,o≠.tup z)(c:∀x z,o≠.frz x (.tup z))(h:SqT K H a vs):SqT K (upd H l o') a vs:=by
 rcases h with (h | ⟨x,h⟩) |h
 ·exact .inl (.inl (by rw[Ad (λz=>by rw[z,e]at h;exact f _ (Option.some.inj h))];exact h))
 ·exact .inl (.inr ⟨x,by rw[Ad (λz=>by rw[z,e]at h;exact c _ _ (Option.some.inj h))];exact h⟩)
 ·exact .inr h
def vB{a l:BK}(e:H l=some o)(c:∀z,o≠.tup z)(h:TpR K H a vs):TpR K (upd H l o') a vs:=by show upd H l o' a=_;rw[Ad (λz=>by have h:H a=_:=h;rw[z,e]at h;exact c _ (Option.some.inj h))];exact h
def LsR.wrD{a l:BK}(g:H l=some o)(c:∀x z,o≠.frz x (.lst z))(f:¬ S (some l))(h:LsR K H S a vs):LsR K (upd H l o') S a vs:=by
 rcases h with ⟨h,z⟩ | ⟨⟨x,h⟩ |h,z⟩
 ·exact .inl ⟨by rw[Ad (λ(e:a=l)=>f (e ▸ z))];exact h,z⟩
 ·exact .inr ⟨.inl ⟨x,by rw[Ad (λe=>by rw[e,g]at h;exact c _ _ (Option.some.inj h))];exact h⟩,z⟩
 ·exact .inr ⟨.inr h,z⟩
def Yx:HO->Bool
 | .frz _ (.dT _)=>true
 | .frz _ (.dK _)=>true
 |_=>false
def Xi(h:Yx o=true):∀z,o≠.tup z:=λz e=>by subst e;cases h
def kq7(h:Yx o=true):∀x z,o≠.frz x (.tup z):=λx z e=>by subst e;cases h
def yJ(h:Yx o=true):∀z,o≠.ext z:=λz e=>by subst e;cases h
def wA(h:Yx o=true):∀z,o≠.xd z:=λz e=>by subst e;cases h
def Xh(h:Yx o=true):∀x z,o≠.frz x (.lst z):=λx z e=>by subst e;cases h
def Rep.wrD{d:D}{l:BK}(h:Rep K H S d v)(e:H l=some o)(c:Yx o=true)(f:¬ S (some l)):Rep K (upd H l o') S d v:=
 Oj (λ_ _ q=>vB e (Xi c) q) (λ_ _ q=>q.wrD e (Xh c) f) (λ_ _ _ _ q=>q.wrD e (yJ c) (wA c) f) d v h
def An.wrD{l:BK}(h:An K H S ds vs)(e:H l=some o)(c:Yx o=true)(f:¬ S (some l)):An K (upd H l o') S ds vs:=
 Fx (λ_ _ q=>vB e (Xi c) q) (λ_ _ q=>q.wrD e (Xh c) f) (λ_ _ _ _ q=>q.wrD e (yJ c) (wA c) f) ds vs h
def LsR.avoid{a p:BK}(c:H p=none)(h:LsR K H S a vs):LsR K H (AS.but S p) a vs:=by
 rcases h with ⟨h,z⟩ | ⟨h,z⟩
 ·exact .inl ⟨h,z,λe=>by cases e;rw[c]at h;cases h⟩
 ·exact .inr ⟨h,z,λe=>by cases e⟩
def Rep.avoid{d:D}{p:BK}(h:Rep K H S d v)(c:H p=none):Rep K H (AS.but S p) d v:=
 Oj (λ_ _ q=>q) (λ_ _ q=>q.avoid c) (λ_ _ _ _ q=>q.avoid c) d v h
def An.avoid{p:BK}(h:An K H S ds vs)(c:H p=none):An K H (AS.but S p) ds vs:=
 Fx (λ_ _ q=>q) (λ_ _ q=>q.avoid c) (λ_ _ _ _ q=>q.avoid c) ds vs h
mutual
def D.imm:D->Bool
 | .lst _=>false
 | .tup ds=>N8 ds
 | .exc _ _ _=>false
 |_=>true
def N8:List D->Bool
 | []=>true
 |d::ds=>d.imm && N8 ds
end
mutual
theorem vQ:∀(d:D)(v:V),d.imm=true->Rep K H S d v->Rep K H S' d v
 | .non,_,_,h=>h
 | .bl _,_,_,h=>h
 | .int _,_,_,h=>h
 | .str _,_,_,h=>h
 | .tup ds,v,i,h=>by revert h;refine Bo λa vs e q r=>?_;exact⟨a,vs,e,q,R9 ds vs i r⟩
 | .lst ds,v,i,h=>by cases i
 | .exc c ks f,v,i,h=>by cases i
theorem R9:∀(ds:List D)(vs:List V),N8 ds=true->An K H S ds vs->An K H S' ds vs
 | [],_,_,h=>h
 |d::ds,vs,i,h=>by revert h;refine Bo λv r e g f=>?_;have c:(d.imm && N8 ds)=true:=i;rw[QH]at c;exact⟨v,r,e,vQ d v c.1 g,R9 ds r c.2 f⟩
end
def An.length:∀{ds:List D}{vs:List V},An K H S ds vs->ds.length=vs.length
 | [],_,h=>by rw[show _=_ from h];rfl
 |d::ds,vs,h=>by revert h;refine Bo λv r c _ e=>?_;obtain rfl:=c;have:=An.length e;simp[this]
def An.nil:An K H S [] []:=rfl
def An.cons{d:D}{v:V}{ds:List D}{vs:List V}(h:Rep K H S d v)(r:An K H S ds vs):An K H S (d::ds) (v::vs):=⟨v,vs,rfl,h,r⟩
def An.append:∀{ds es:List D}{vs ws:List V},An K H S ds vs->An K H S es ws->An K H S (ds++es) (vs++ws)
 | [],_,_,_,h,r=>by rw[show _=_ from h];exact r
 |d::ds,_,_,_,h,r=>by revert h;refine Bo λv t c f e=>?_;obtain rfl:=c;exact⟨v,_,rfl,f,An.append e r⟩
def An.get:∀{ds:List D}{vs:List V}{i:Nat}{d:D},An K H S ds vs->ds[i]? = some d->∃v,vs[i]? = some v/\Rep K H S d v
 | [],_,_,_,_,e=>by simp at e
 |x::ds,_,0,d,h,e=>by revert h;refine Bo λv t f j g=>?_;obtain rfl:=f;simp at e;subst e;exact⟨v,by simp,j⟩
 |x::ds,_,i+1,d,h,e=>by revert h;refine Bo λv t c j g=>?_;obtain rfl:=c;refine Am (λw l k=>?_) (An.get (i:=i) g (by simpa using e));exact⟨w,by simpa using l,k⟩
def An.take:∀(n:Nat){ds:List D}{vs:List V},An K H S ds vs->An K H S (ds.take n) (vs.take n)
 |0,_,_,_=>by simp;exact An.nil
 |n+1,[],_,h=>by rw[show _=_ from h];exact An.nil
 |n+1,d::ds,_,h=>by revert h;refine Bo λv t c f e=>?_;obtain rfl:=c;exact⟨v,_,rfl,f,An.take n e⟩
def An.drop:∀(n:Nat){ds:List D}{vs:List V},An K H S ds vs->An K H S (ds.drop n) (vs.drop n)
 |0,_,_,h=>h
 |n+1,[],_,h=>by rw[show _=_ from h];exact An.nil
 |n+1,d::ds,_,h=>by revert h;refine Bo λv t c f e=>?_;obtain rfl:=c;exact An.drop n e
def An.rep(h:An K H S ds vs):∀k:Nat,An K H S (List.replicate k ds).flatten (List.replicate k vs).flatten
 |0=>An.nil
 |k+1=>by rw[dM,dM,fH,fH];exact h.append (h.rep k)
def An.one{d:D}(h:An K H S [d] vs):∃v,vs=[v]/\Rep K H S d v:=by revert h;refine Bo λv r c f e=>?_;obtain rfl:=c;exact⟨v,by rw[show r=[] from e],f⟩
def An.two{d e:D}(h:An K H S [d,e] vs):∃v u,vs=[v,u]/\Rep K H S d v/\Rep K H S e u:=by revert h;refine Bo λv r f j i=>?_;obtain rfl:=f;refine Am (λu c g=>?_) (i.one);obtain rfl:=c;exact⟨v,u,rfl,j,g⟩
end
abbrev Ev:=List (Option D)
structure DC where
 H0:Hp
 S0:AS
 O:List Nat
 Ex:D->V->Hp->Prop
 Z:List BK
def DC.S(c:DC):AS:=λo=>c.S0 o\/∃a,o=some a/\c.H0 a=none/\a∉c.Z
def live(ρ:Ev)(i:Nat):Prop:=∃d,ρ[i]? = some (some d)
def owned(c:DC)(ρ:Ev)(b:St)(a:BK):Prop:=∃i,i∈c.O/\live ρ i/\b[i]? = some (some (.ref a))
def DC.N(c:DC)(ρ:Ev)(b:St):AS:=λo=>c.S o/\∀a,o=some a->¬ owned c ρ b a
abbrev Hd:=Hp->AS->Prop
structure eU(P:Hd):Prop where
 mono:∀{H H':Hp}{S S':AS},Af H H'->(∀o,S o->S' o)->P H S->P H' S'
 wr:∀{H:Hp}{S:AS}{l:BK}{ws ys:List V},H l=some (.lst ws)->¬ S (some l)->P H S->P (upd H l (.lst ys)) S
 wrD:∀{H:Hp}{S:AS}{l:BK}{o o':HO},H l=some o->Yx o=true->¬ S (some l)->P H S->P (upd H l o') S
 avoid:∀{H:Hp}{S:AS}{p:BK},H p=none->P H S->P H (AS.but S p)
def Dt(K:B_)(H:Hp)(S:AS)(d:D)(a:BK):Prop:=
 (∃vs ds,d=.lst ds/\H a=some (.lst vs)/\An K H S ds vs)\/∃vs cc ks b,d=.exc cc ks b/\Vk H cc ks a vs/\An K H S b vs
def Dt.has{S:AS}{d:D}{a:BK}(h:Dt K H S d a):∃o,H a=some o:=by
 rcases h with ⟨vs,ds,_,h,_⟩ | ⟨vs,cc,ks,b,_,h,_⟩
 ·exact⟨_,h⟩
 ·obtain⟨o,e,_⟩:=h.has;exact⟨o,e⟩
def Dt.mono{S:AS}{d:D}{a:BK}(h:Dt K H S d a)(e:Af H H')(g:∀o,S o->S' o):Dt K H' S' d a:=
 h.imp (λ⟨vs,ds,f,c,b⟩=>⟨vs,ds,f,e _ _ c,b.mono e g⟩) λ⟨vs,cc,ks,i,f,c,b⟩=>⟨vs,cc,ks,i,f,c.same e,b.mono e g⟩
def Dt.avoid{S:AS}{d:D}{a p:BK}(h:Dt K H S d a)(f:H p=none):Dt K H (AS.but S p) d a:=
 h.imp (λ⟨vs,ds,e,c,b⟩=>⟨vs,ds,e,c,b.avoid f⟩) λ⟨vs,cc,ks,g,e,c,b⟩=>⟨vs,cc,ks,g,e,c,b.avoid f⟩
def Dt.wr{S:AS}{d:D}{a l:BK}(h:Dt K H S d a)(i:H l=some (.lst ws))(g:¬ S (some l))(b:a≠l):Dt K (upd H l (.lst ys)) S d a:=
 h.imp (λ⟨vs,ds,f,e,c⟩=>⟨vs,ds,f,by rw[Ad b];exact e,c.wr i g⟩) λ⟨vs,cc,ks,j,f,e,c⟩=>⟨vs,cc,ks,j,f,e.ne (Ne.symm b),c.wr i g⟩
def Dt.wrD{S:AS}{d:D}{a l:BK}(h:Dt K H S d a)(j:H l=some o)(g:Yx o=true)(i:¬ S (some l))(b:a≠l):Dt K (upd H l o') S d a:=
 h.imp (λ⟨vs,ds,f,e,c⟩=>⟨vs,ds,f,by rw[Ad b];exact e,c.wrD j g i⟩) λ⟨vs,cc,ks,k,f,e,c⟩=>⟨vs,cc,ks,k,f,e.ne (Ne.symm b),c.wrD j g i⟩
def Dt.rep{S:AS}{d:D}{a:BK}(h:Dt K H S d a)(e:S' (some a))(f:∀o,S o->S' o):Rep K H S' d (.ref a):=by
 rcases h with ⟨vs,ds,rfl,c,b⟩ | ⟨vs,cc,ks,g,rfl,c,b⟩
 ·exact⟨a,vs,rfl,.inl ⟨c,e⟩,b.mono (Af.refl _) f⟩
 ·exact⟨a,vs,rfl,.inl ⟨c,e⟩,b.mono (Af.refl _) f⟩
def Dt.lst{S:AS}{a:BK}(h:Dt K H S (.lst ds) a):∃vs,H a=some (.lst vs)/\An K H S ds vs:=by
 rcases h with ⟨vs,f,e,c,b⟩ | ⟨vs,cc,ks,g,e,_⟩
 ·cases e;exact⟨vs,c,b⟩
 ·cases e
def Dt.dct{S:AS}{cc:BV}{fs:List D}{a:BK}(h:Dt K H S (.exc cc ks fs) a):∃vs,Vk H cc ks a vs/\An K H S fs vs:=by
 rcases h with ⟨vs,i,e,_⟩ | ⟨vs,j,b,c,e,g,f⟩
 ·cases e
 ·cases e;exact⟨vs,g,f⟩
structure Az(K:B_)(c:DC)(hs:List Hd)(ρ:Ev)(σ:St)(H:Hp):Prop where
 same:Af c.H0 H
 len:ρ.length=σ.length
 own:∀i d,i∈c.O->ρ[i]? = some (some d)->∃a,σ[i]? = some (some (.ref a))/\(c.H0 a=none/\a∉c.Z)/\Dt K H (c.N ρ σ) d a
 apart:∀i j a,i∈c.O->j∈c.O->live ρ i->live ρ j->σ[i]? = some (some (.ref a))->σ[j]? = some (some (.ref a))->i=j
 oth:∀i d,i∉c.O->ρ[i]? = some (some d)->∃v,σ[i]? = some (some v)/\Rep K H (c.N ρ σ) d v
 held:∀P∈hs,eU P/\P H (c.N ρ σ)
 excl:∀a∈c.Z,H a≠none
variable {c:DC}{ρ:Ev}{hs:List Hd}{σ:St}
def Az.mono(h:Az K c hs ρ σ H)(e:Af H H'):Az K c hs ρ σ H' where
 same:=h.same.trans e
 len:=h.len
 own:=λi d hi hd=>by refine Gk (λa e2 e4 e5=>?_) (h.own i d hi hd);exact⟨a,e2,e4,e5.mono e λ_ q=>q⟩
 apart:=h.apart
 oth:=λi d hi hd=>by refine Am (λv e1 e2=>?_) (h.oth i d hi hd);exact⟨v,e1,e2.mono e λ_ q=>q⟩
 held:=λP hp=>⟨(h.held P hp).1,(h.held P hp).1.mono e (λ_ q=>q) (h.held P hp).2⟩
 excl:=λa ha z=>h.excl a ha (e.free z)
def Az.ownd(h:Az K c hs ρ σ H){a:BK}(o:owned c ρ σ a):∃o,H a=some o:=by revert o;refine Gk λi g b e=>?_;obtain⟨d,j⟩:=b;refine Gk (λl f _ k=>?_) (h.own i d g j);rw[e]at f;cases f;exact k.has
def Az.ownL(h:Az K c hs ρ σ H)(i:Nat)(ds:List D)(hi:i∈c.O)(e:ρ[i]? = some (some (.lst ds))):∃a vs b,D.lst ds=.lst b/\σ[i]? = some (some (.ref a))/\H a=some (.lst vs)/\(c.H0 a=none/\a∉c.Z)/\An K H (c.N ρ σ) b vs:=by refine Gk (λa l k j=>?_) (h.own i _ hi e);refine Am (λvs g f=>?_) (j.lst);exact⟨a,vs,ds,rfl,l,g,k,f⟩
def Az.freshN(h:Az K c hs ρ σ H){o:Option BK}(q:fresh H o):c.N ρ σ o:=by revert q;refine Am λa f e=>?_;obtain rfl:=f;refine⟨.inr ⟨a,rfl,h.same.free e,λg=>h.excl a g e⟩,λb j i=>?_⟩;cases j;have⟨vs,Z⟩:=h.ownd i;rw[e]at Z;cases Z
inductive Lv where
 |fr |no |any
def lvS(c:DC)(ρ:Ev)(σ:St)(H:Hp):Lv->AS
 | .fr=>fresh H
 | .no=>c.N ρ σ
 | .any=>c.S
def Lv.le:Lv->Lv->Bool
 | .fr,_=>true
 | .no,.fr=>false
 | .no,_=>true
 | .any,.any=>true
 | .any,_=>false
def Ph(h:Az K c hs ρ σ H){l l':Lv}(a:l.le l'=true){o:Option BK}(q:lvS c ρ σ H l o):lvS c ρ σ H l' o:=by
 cases l with
 |fr =>
  cases l' with
  |fr=>exact q
  |no=>exact h.freshN q
  |any=>exact(h.freshN q).1
 |no =>
  cases l' with
  |fr=>cases a
  |no=>exact q
  |any=>exact q.1
 |any =>
  cases l' with
  |fr=>cases a
  |no=>cases a
  |any=>exact q
def Gw(e:Af H H'){l:Lv}{o:Option BK}(q:lvS c ρ σ H' l o):lvS c ρ σ H l o:=by
 cases l with
 |fr=>obtain⟨a,rfl,z⟩:=q;exact⟨a,rfl,e.free z⟩
 |no=>exact q
 |any=>exact q
def Ob(h:Az K c hs ρ σ H){l:Lv}{o:Option BK}(q:fresh H o):lvS c ρ σ H l o:=Ph h (l:=.fr) (by cases l<;>rfl) q
def Kl(h:Az K c hs ρ σ H)(e:Af H H'){l:Lv}{o:Option BK}(q:AS.plus (lvS c ρ σ H l) H' o):lvS c ρ σ H l o:=by
 rcases q with q | ⟨a,rfl,z⟩
 ·exact q
 ·exact Ob h ⟨a,rfl,e.free z⟩
section
variable (K:B_)(c:DC)
def tD(l:Lv)(f:Ev->R D):TE:=λσ H Q=>∃hs ρ,Az K c hs ρ σ H/\RQ (f ρ) (λd=>∀v H',Af H H'->Rep K H' (lvS c ρ σ H l) d v->Q v H') (λe=>∀v H',Af H H'->Rep K H' (lvS c ρ σ H .any) e v->c.Ex e v H')
def tF(l:Lv)(f:Ev->R D):TE:=λσ H Q=>∃hs ρ,Az K c hs ρ σ H/\RQ (f ρ) (λd=>∀a vs ds H',d=.lst ds->Af H H'->H a=none->H' a=some (.lst vs)->An K H' (AS.but (lvS c ρ σ H l) a) ds vs->Q (.ref a) H') (λe=>∀v H',Af H H'->Rep K H' (lvS c ρ σ H .any) e v->c.Ex e v H')
def tDT(f:Ev->R Bool):TT:=λσ H Q=>∃hs ρ,Az K c hs ρ σ H/\RQ (f ρ) (λb=>∀H',Af H H'->Q b H') (λe=>∀v H',Af H H'->Rep K H' (lvS c ρ σ H .any) e v->c.Ex e v H')
def tDA(n:Nat)(l:Lv)(f:Ev->R (List D)):TA:=λσ H Q=>∃hs ρ,Az K c hs ρ σ H/\RQ (f ρ) (λds=>∀vs H',Af H H'->An K H' (lvS c ρ σ H l) ds vs->ds.length=n->Q vs H') (λe=>∀v H',Af H H'->Rep K H' (lvS c ρ σ H .any) e v->c.Ex e v H')
end
inductive Fl where
 |nx (ρ:Ev) |rt (d:D) |bk (ρ:Ev) |ct (ρ:Ev)
def Fl.ends(K:B_)(c:DC)(hs:List Hd)(E:Ends):Fl->Prop
 | .nx ρ=>∀a H',Az K c hs ρ a H'->E.nx a H'
 | .bk ρ=>∀a H',Az K c hs ρ a H'->E.bk a H'
 | .ct ρ=>∀a H',Az K c hs ρ a H'->E.ct a H'
 | .rt d=>∀v H',Af c.H0 H'->Rep K H' c.S d v->E.rt v H'
def Us(K:B_)(c:DC)(e:D):Prop:=∀v H',Af c.H0 H'->Rep K H' c.S e v->c.Ex e v H'
def tDS(K:B_)(c:DC)(g:Ev->R Fl):TS:=λE σ H=>∃hs ρ,Az K c hs ρ σ H/\RQ (g ρ) (Fl.ends K c hs E) (Us K c)
abbrev PEd(X:Cx)(c:DC)(l:Lv)(e:CN)(f:Ev->R D):Prop:=PE X e (tD X.K c l f)
abbrev PEf(X:Cx)(c:DC)(l:Lv)(e:CN)(f:Ev->R D):Prop:=PE X e (tF X.K c l f)
abbrev PTd(X:Cx)(c:DC)(e:CN)(f:Ev->R Bool):Prop:=PT X e (tDT X.K c f)
abbrev PAd(X:Cx)(c:DC)(l:Lv)(es:List CN)(f:Ev->R (List D)):Prop:=PA X es (tDA X.K c es.length l f)
abbrev PSd(X:Cx)(c:DC)(st:DR)(g:Ev->R Fl):Prop:=PS X st (tDS X.K c g)
abbrev Vl(X:Cx)(c:DC)(a:List DR)(g:Ev->R Fl):Prop:=PSs X a (tDS X.K c g)
def PE.imp{X:Cx}{e:CN}{t t':TE}(h:PE X e t)(i:∀σ H Q,t' σ H Q->t σ H Q):PE X e t':=λa s σ H Q I q=>h a s σ H Q I (i σ H Q q)
def PT.imp{X:Cx}{e:CN}{t t':TT}(h:PT X e t)(i:∀σ H Q,t' σ H Q->t σ H Q):PT X e t':=λa s σ H Q I q=>h a s σ H Q I (i σ H Q q)
def PW.imp{X:Cx}{e:CN}{t t':TT}(h:PW X e t)(i:∀σ H Q,t' σ H Q->t σ H Q):PW X e t':=λb a s σ H Q I q=>h b a s σ H Q I (i σ H Q q)
def PA.imp{X:Cx}{es:List CN}{t t':TA}(h:PA X es t)(i:∀σ H Q,t' σ H Q->t σ H Q):PA X es t':=λpos a s σ H Q I q=>h pos a s σ H Q I (i σ H Q q)
variable {st:DR}
def PS.imp{X:Cx}{t t':TS}(h:PS X st t)(i:∀E σ H,t' E σ H->t E σ H):PS X st t':=λa s σ H E I q=>h a s σ H E I (i E σ H q)
def PSs.imp{X:Cx}{st:List DR}{t t':TS}(h:PSs X st t)(i:∀E σ H,t' E σ H->t E σ H):PSs X st t':=λa s σ H E I q=>h a s σ H E I (i E σ H q)
variable {l:Lv}
def Bq{e:D}{a:Hp}(h:∀v H',Af H H'->Rep K H' (lvS c ρ σ H .any) e v->c.Ex e v H')(s:Af H a):∀v H',Af a H'->Rep K H' (lvS c ρ σ a .any) e v->c.Ex e v H':=
 λv H' b r=>h v H' (s.trans b) r
variable {f:Ev->R D}
def Ba{Q:VK}(E:Az K c hs ρ σ H)
  (h:RQ (f ρ) (λd=>∀v H',Af H H'->Az K c hs ρ σ H'->Rep K H' (lvS c ρ σ H l) d v->Q v H') (λe=>∀v H',Af H H'->Rep K H' (lvS c ρ σ H .any) e v->c.Ex e v H')):tD K c l f σ H Q:=
 ⟨hs,ρ,E,h.mono (λd q v H' s r=>q v H' s (E.mono s) r) λ_ q=>q⟩
variable {Q:List V->Hp->Prop}
def Ce{n:Nat}{f:Ev->R (List D)}(E:Az K c hs ρ σ H)
  (h:RQ (f ρ) (λds=>∀vs H',Af H H'->Az K c hs ρ σ H'->An K H' (lvS c ρ σ H l) ds vs->ds.length=n->Q vs H') (λe=>∀v H',Af H H'->Rep K H' (lvS c ρ σ H .any) e v->c.Ex e v H')):tDA K c n l f σ H Q:=
 ⟨hs,ρ,E,h.mono (λd q v H' s r a=>q v H' s (E.mono s) r a) λ_ q=>q⟩
def Jz{f:Ev->R Bool}{Q:Bool->Hp->Prop}(E:Az K c hs ρ σ H)
  (h:RQ (f ρ) (λb=>∀H',Af H H'->Az K c hs ρ σ H'->Q b H') (λe=>∀v H',Af H H'->Rep K H' (lvS c ρ σ H .any) e v->c.Ex e v H')):tDT K c f σ H Q:=
 ⟨hs,ρ,E,h.mono (λd q H' s=>q H' s (E.mono s)) λ_ q=>q⟩
def R.of{b:Type}:Option b->R b
 |some a=>.ok a
 |none=>.bad
@[simp] def R.of_some{b:Type}(a:b):R.of (some a)=.ok a:=nr rfl
def RQ.of{b:Type}{o:Option b}{q:b->Prop}{e:D->Prop}(h:RQ (R.of o) q e):∃a,o=some a/\q a:=by
 cases o with
 |none=>exact h.elim
 |some a=>exact⟨a,rfl,h⟩
def Bp{g e:Type}{r:R g}{f:g->R e}{b:e}(h:r.bind f=.ok b):∃a,r=.ok a/\f a=.ok b:=by
 cases r with
 |ok a=>exact⟨a,rfl,h⟩
 |exc _=>cases h
 |bad=>cases h
def inv1{a:Type}{g:List D->Option a}{d:a}(e:g ds=some d)(h:g []=none)(b:∀x y l,g (x::y::l)=none):∃x,ds=[x]:=by
 cases ds with
 |nil=>exact nomatch h.symm.trans e
 |cons x l =>
  cases l with
  |nil=>exact⟨x,rfl⟩
  |cons y l=>exact nomatch (b x y l).symm.trans e
def inv2{a:Type}{g:List D->Option a}{d:a}(e:g ds=some d)(i:g []=none)(h:∀x,g [x]=none)(b:∀x y z l,g (x::y::z::l)=none):∃x y,ds=[x,y]:=by
 cases ds with
 |nil=>exact nomatch i.symm.trans e
 |cons x l =>
  cases l with
  |nil=>exact nomatch (h x).symm.trans e
  |cons y l =>
   cases l with
   |nil=>exact⟨x,y,rfl⟩
   |cons z l=>exact nomatch (b x y z l).symm.trans e
def nos{a:Type}{d:a}{P:Prop}(h:(none:Option a)=some d):P:=nomatch h
def Bb{p:Prop}[Decidable p]{b:Type}{x y:b}(h:(if p then some x else none)=some y):p/\x=y:=by
 by_cases a:p
 ·rw[if_pos a]at h;exact⟨a,Option.some.inj h⟩
 ·rw[if_neg a]at h;cases h
def rD(K:B_)(g:D->D->Option D):R2:=λx y H Q=>∃S b a d,Rep K H S b x/\Rep K H S a y/\g b a=some d/\∀z H',Af H H'->Rep K H' (AS.plus S H) d z->Q z H'
def rDF(K:B_)(g:D->D->Option D):R2:=λx y H Q=>∃S e b d,Rep K H S e x/\Rep K H S b y/\g e b=some d /\
 ∀a vs ds H',d=.lst ds->Af H H'->H a=none->H' a=some (.lst vs)->An K H' (AS.but S a) ds vs->Q (.ref a) H'
def rU1(K:B_)(g:D->Option D):V->Hp->VK->Prop:=λx H Q=>∃S a d,Rep K H S a x/\g a=some d/\∀z H',Af H H'->Rep K H' (AS.plus S H) d z->Q z H'
def b2(f1 f2:Ev->R D)(g:D->D->Option D):Ev->R D:=λρ=>(f1 ρ).bind λx=>(f2 ρ).bind λy=>R.of (g x y)
def b1(f1:Ev->R D)(g:D->Option D):Ev->R D:=λρ=>(f1 ρ).bind λx=>R.of (g x)
variable {g:D->D->Option D}{g1:D->Option D}
section
variable {f1 f2:Ev->R D}{Q:VK}
def j4(h:tD K c l (b2 f1 f2 g) σ H Q):tOp (rD K g) (tD K c l f1) (tD K c l f2) σ H Q:=by revert h;refine Bm λhs ρ E q=>?_;have q:=RQ.bind.mp q;refine Ba E (q.mono (λu i x B a w n=>?_) λ_ z=>z);have i:=RQ.bind.mp i;refine Ba w (i.mono (λs r y A b C m=>?_) λe z=>Bq z a);refine Am (λd e p=>?_) (r.of);refine⟨lvS c ρ σ H l,u,s,d,n.mono b (λ_ z=>z),m.mono (Af.refl _) (λ_ z=>Gw a z),e,λz H' j k=>?_⟩;exact p z H' ((a.trans b).trans j) (k.mono (Af.refl _) λ_ z=>Kl E (a.trans b) z)
def yi5(h:tD K c l (b1 f1 g1) σ H Q):tUn (rU1 K g1) (tD K c l f1) σ H Q:=by revert h;refine Bm λhs ρ E q=>?_;have q:=RQ.bind.mp q;refine Ba E (q.mono (λn m x p a r j=>?_) λ_ z=>z);refine Am (λd e k=>?_) (m.of);refine⟨lvS c ρ σ H l,n,d,j,e,λz H' b i=>?_⟩;exact k z H' (a.trans b) (i.mono (Af.refl _) λ_ z=>Kl E a z)
def yj1(i:∀ρ d,f ρ=.ok d->∃ds,d=.lst ds)(h:tD K c l f σ H Q):tF K c l f σ H Q:=by
 revert h;refine Bm λhs ρ E q=>?_;refine⟨hs,ρ,E,?_⟩;cases e:f ρ with
 |ok d=>rw[e]at q;obtain⟨ds,rfl⟩:=i ρ d e;intro a vs m H' k s j b r;cases k;exact q (.ref a) H' s ⟨a,vs,rfl,.inl ⟨b,Ob E ⟨a,rfl,j⟩⟩,r.mono (Af.refl _) λ_ z=>z.1⟩
 |exc Z=>rw[e]at q;exact q
 |bad=>rw[e]at q;exact q
end
variable {X:Cx}{a b:CN}{l':Lv}{pos:JG}
section
variable {f f1 f2:Ev->R D}
def aM(e:Operator)(i:OpR X (DN e) (rD X.K g))(k:PEd X c l a f1)(j:PEd X c l b f2):PEd X c l (.BinOp a e b pos) (b2 f1 f2 g):=PE.imp (sU i k j) λ_ _ _ h=>j4 h
def jM{e:YL}(i:OpR X (DG e) (rD X.K g))(m:PEd X c l a f1)(k:PEd X c l b f2)(j:GP e b=false):PEd X c l (.Compare a [e] [b] pos) (b2 f1 f2 g):=PE.imp (wh9 i m k j) λ_ _ _ h=>j4 h
def un_{e:UnaryOp}(i:UnR X (cR e) (rU1 X.K g1))(j:PEd X c l a f1):PEd X c l (.UnaryOp e a pos) (b1 f1 g1):=PE.imp (yh1 i j) λ_ _ _ h=>yi5 h
def PEd.up(h:PEd X c l a f)(e:l.le l'=true:=by rfl):PEd X c l' a f:=PE.imp h λσ H Q ⟨hs,ρ,E,q⟩ =>
 ⟨hs,ρ,E,q.mono (λd q v H' s r=>q v H' s (r.mono (Af.refl _) λ_ z=>Ph E e z)) λ_ z=>z⟩
def PEf.up(h:PEf X c l a f)(i:l.le l'=true:=by rfl):PEf X c l' a f:=PE.imp h λσ H Q ⟨hs,ρ,E,q⟩ =>
 ⟨hs,ρ,E,q.mono (λd q a vs ds H' k s j e r=>q a vs ds H' k s j e (r.mono (Af.refl _) λ_ z=>⟨Ph E i z.1,z.2⟩)) λ_ z=>z⟩
def PEf.d(h:PEf X c l a f)(e:∀ρ d,f ρ=.ok d->∃ds,d=.lst ds):PEd X c l a f:=PE.imp h λ_ _ _ h=>yj1 e h
def gv(i:Nat):Ev->R D:=λρ=>match ρ[i]? with
 |some (some d)=>.ok d
 |_=>.bad
theorem oW{i:Nat}{q:D->Prop}{e:D->Prop}(h:RQ (gv i ρ) q e):∃d,ρ[i]? = some (some d)/\q d:=by
 unfold gv at h;split at h
 ·rename_i d e;exact⟨d,e,h⟩
 ·exact h.elim
def yj5{i:Nat}(hi:c.O.contains i=false){Q:VK}(h:tD K c .no (gv i) σ H Q):jB i σ H Q:=by revert h;refine Bm λhs ρ E q=>?_;refine Am (λd e q=>?_) (oW q);refine Am (λv j r=>?_) (E.oth i d (by simpa using hi) e);exact⟨v,j,q v H (Af.refl H) r⟩
def wz4{i:Nat}{Q:VK}(h:tD K c .any (gv i) σ H Q):jB i σ H Q:=by
 revert h;refine Bm λhs ρ E q=>?_;refine Am (λd e q=>?_) (oW q);by_cases k:i∈c.O
 ·refine Gk (λp j m r=>?_) (E.own i d k e);exact⟨_,j,q (.ref p) H (Af.refl H) (r.rep (.inr ⟨p,rfl,m.1,m.2⟩) λ_ z=>z.1)⟩
 ·refine Am (λv j r=>?_) (E.oth i d k e);exact⟨v,j,q v H (Af.refl H) (r.mono (Af.refl _) λ_ z=>z.1)⟩
def nv(i:Nat){x:BV}(hi:c.O.contains i=false:=by rfl)(m:X.N[i]? = some x:=by rfl)(j:Vis X.env.scope x:=by first |exact Or.inl rfl |exact Or.inr (Or.inl rfl) |exact Or.inr (Or.inr rfl))(k:Zd x:=by decide)
  (e:(x == ("__classdict__" : BV))=false:=by decide):PEd X c .no (.Name x pos) (gv i):=PE.imp (pv i m j k e) λ_ _ _ h=>yj5 hi h
def av(i:Nat){x:BV}(m:X.N[i]? = some x:=by rfl)(j:Vis X.env.scope x:=by first |exact Or.inl rfl |exact Or.inr (Or.inl rfl) |exact Or.inr (Or.inr rfl))(k:Zd x:=by decide)
  (e:(x == ("__classdict__" : BV))=false:=by decide):PEd X c .any (.Name x pos) (gv i):=PE.imp (pv i m j k e) λ_ _ _ h=>wz4 h
def kd(d:D):Ev->R D:=λ_=>.ok d
def nH{d:D}(e:∀H S,Rep K H S d v){Q:VK}(h:tD K c l (kd d) σ H Q):tC v σ H Q:=by revert h;refine Bm λhs ρ E q=>?_;exact q v H (Af.refl H) (e _ _)
def ki{i:Int}{j}:PEd X c .fr (.Constant (.int i) j pos) (kd (.int i)):=PE.imp wv7 λ_ _ _ h=>nH (d:=.int i) (v:=.int i) (λ_ _=>rfl) h
def kb{b:Bool}{j}:PEd X c .fr (.Constant (.bool b) j pos) (kd (.bl b)):=PE.imp yg8 λ_ _ _ h=>nH (d:=.bl b) (v:=.bl b) (λ_ _=>rfl) h
def kn{j}:PEd X c .fr (.Constant .none j pos) (kd .non):=PE.imp wv9 λ_ _ _ h=>nH (d:=.non) (v:=.non) (λ_ _=>rfl) h
def rY:D->D->Option D
 | .int i,.int j=>some (.int (i+j))
 | .str x,.str y=>if x.length+y.length<=16777216 then some (.str (x++y)) else none
 | .tup e,.tup ys=>if e.length+ys.length<=16777216 then some (.tup (e++ys)) else none
 |_,_=>none
def fZ:D->D->Option D
 | .int i,.int j=>some (.int (i - j))
 |_,_=>none
def Jv:D->D->Option D
 | .int i,.int j=>if(-(2 ^ 64)<i/\i<2 ^ 64)\/(-(2 ^ 64)<j/\j<2 ^ 64)\/(i.natAbs<2 ^ 2048/\j.natAbs<2 ^ 2048) then some (.int (i * j)) else none
 |_,_=>none
def Ut:D->D->Option D
 | .int i,.int j=>if 0<j/\j<4611686018427387904 then some (.int (i / j)) else none
 |_,_=>none
def Vr:D->D->Option D
 | .int i,.int j=>if 0<j then some (.int (i % j)) else none
 |_,_=>none
def aF:D->D->Option D
 | .int i,.int j=>if 0<=j/\j<=1000000/\i.natAbs<2 ^ 64 then some (.int (i ^ j.toNat)) else none
 |_,_=>none
def nD:D->D->Option D
 | .lst e,.lst ys=>if e.length+ys.length<=16777216 then some (.lst (e++ys)) else none
 |_,_=>none
def bN:D->D->Option D
 | .lst e,.int k=>if -(2 ^ 63)<=k/\k<2 ^ 63/\e.length * k.toNat<=16777216 then some (.lst (List.replicate k.toNat e).flatten) else none
 |_,_=>none
def gB:D->Option D
 | .int i=>some (.int (-i))
 |_=>none
def T7{f:A_->A_->Sem A_}{C:Int->Int->Prop}{h:Int->Int->V}(F:OpR X f (rI C h))
  (G:∀n m d,g n m=some d->∃i j,n=.int i/\m=.int j/\C i j/\∀H S,Rep X.K H S d (h i j)):OpR X f (rD X.K g):=by
 rintro k s σ H x y v u Q I z w ⟨S,n,m,d,B,A,e,q⟩;refine Vp (λi j r p J E=>?_) (G n m d e);obtain rfl:=r;obtain rfl:=p;exact F k s σ H x y v u Q I z w ⟨i,j,B,A,J,q _ H (Af.refl _) (E _ _)⟩
def pJ{f:A_->A_->Sem A_}{h:Int->Int->V}(E:OpR X f (rI0 h))
  (F:∀n m d,g n m=some d->∃i j,n=.int i/\m=.int j/\∀H S,Rep X.K H S d (h i j)):OpR X f (rD X.K g):=by
 rintro k s σ H x y v u Q I z w ⟨S,n,m,d,B,A,e,q⟩;refine Bo (λi j r p C=>?_) (F n m d e);obtain rfl:=r;obtain rfl:=p;exact E k s σ H x y v u Q I z w ⟨i,j,B,A,q _ H (Af.refl _) (C _ _)⟩
def yg2:OpR X (DN .Sub) (rD X.K fZ):=pJ wv5 λi h d e=>by cases i<;>first |exact nos e | (cases h<;>first |exact nos e | (cases e;exact⟨_,_,rfl,rfl,λ_ _=>rfl⟩))
def wh7:OpR X (DN .Mult) (rI (λi j=>(-(2 ^ 64)<i/\i<2 ^ 64)\/(-(2 ^ 64)<j/\j<2 ^ 64)\/(i.natAbs<2 ^ 2048/\j.natAbs<2 ^ 2048)) λi j=>.int (i * j)):=opI λi j _ _ _ _ _ e q=>mul_int q (by
 rcases e with h |h | ⟨m,k⟩
 ·exact .of_left (intBits_le_64 h.1 h.2)
 ·exact .of_right (intBits_le_64 h.1 h.2)
 ·exact IntMulOk.of_le (intBits_le_iff.mpr m) (intBits_le_iff.mpr k) (by decide))
def yf6:OpR X (DN .Mult) (rD X.K Jv):=T7 wh7 λj i d e=>by cases j<;>first |exact nos e | (cases i<;>first |exact nos e | (obtain⟨h,rfl⟩:=Bb e;exact⟨_,_,rfl,rfl,h,λ_ _=>rfl⟩))
theorem ku1:OpR X (DN .FloorDiv) (rI (λ_ j=>0<j/\j<4611686018427387904) λi j=>.int (i / j)):=opI λi j _ _ _ _ _ e q=>by
 have p:(0:Int)<j:=e.1;have m:j<4611686018427387904:=e.2;refine floordiv_int (by omega) (by rw[jFf i (by omega)];exact q) (.inl (PyProof.noPylong_of_log2 ?_));have h:j.natAbs<2 ^ 62:=by
  have:(2:Nat) ^ 62=4611686018427387904:=by decide
  omega
 have:=(Nat.log2_lt (n:=j.natAbs) (k:=62) (by omega)).mpr h;omega
def wu4:OpR X (DN .FloorDiv) (rD X.K Ut):=T7 ku1 λj i d e=>by cases j<;>first |exact nos e | (cases i<;>first |exact nos e | (obtain⟨h,rfl⟩:=Bb e;exact⟨_,_,rfl,rfl,h,λ_ _=>rfl⟩))
def yf5:OpR X (DN .Mod) (rD X.K Vr):=T7 wv0 λj i d e=>by cases j<;>first |exact nos e | (cases i<;>first |exact nos e | (obtain⟨h,rfl⟩:=Bb e;exact⟨_,_,rfl,rfl,h,λ_ _=>rfl⟩))
def yf9:OpR X (DN .Pow) (rD X.K aF):=T7 wv1 λj i d e=>by cases j<;>first |exact nos e | (cases i<;>first |exact nos e | (obtain⟨h,rfl⟩:=Bb e;exact⟨_,_,rfl,rfl,h,λ_ _=>rfl⟩))
def yf7:UnR X (cR .USub) (rU1 X.K gB):=by rintro h s σ H x v Q I i ⟨S,k,d,j,e,q⟩;cases k<;>first |exact nos e | (cases e;exact wz7 h s σ H x v Q I i ⟨_,j,q _ H (Af.refl _) rfl⟩)
end
def Aj{p:BK}(h:H p=none)(o:HO):Af H (upd H p o):=λb u e=>by rw[Ad (Ay e h)];exact e
section
variable {f f1 f2:Ev->R D}
def Gv{n:Nat}(h:n<=16777216):n<=sizeLine:=by rw[CQ];exact h
def ku0:OpR X (DN .Add) (λx y H Q=>∃a b ys,x=.ref a/\y=.ref b/\SqT X.K H a []/\SqT X.K H b ys/\Q (.ref b) H):=by
 intro p s σ H x y v u Q I E C h;obtain⟨a,b,ys,rfl,rfl,P,O,q⟩:=h;cases E;cases C;have⟨M,G,p1,_⟩:=I.tuple P;have⟨e,U,J,_⟩:=I.tuple O;cases G;have⟨⟨cls,T,data,B⟩,r,z,n,w⟩:=id p1;have⟨⟨A,m,data2,k⟩,i,j,L,hd2⟩:=id J;simp only at z w j hd2;subst z w j hd2;exact RV ⟨_,r,rfl⟩ ⟨_,i,rfl⟩ SQ XD PySem.F.slot_tuple_add PySem.F.entry_tuple_add (PySem.F.args_tuple_add_2 _ _)
   (tuple_addW0 a b ([]:List A_).toArray e.toArray n L T m B k (by simp)) ⟨r,i,⟨.ref b,H,I,rfl,q⟩⟩
theorem ye9:OpR X (DN .Add) (rD X.K rY):=by
 rintro h s σ H x y v u Q I w n ⟨S,dx,G,d,m,k,e,q⟩;cases dx with
 |int i =>
  cases G with
  |int j=>cases e;exact wu7 h s σ H x y v u Q I w n ⟨i,j,m,k,q _ H (Af.refl _) rfl⟩
  |_=>exact nos e
 |str p =>
  cases G with
  |str r=>obtain⟨J,rfl⟩:=Bb e;exact jt6 h s σ H x y v u Q I w n ⟨p,r,m,k,Gv J,q _ H (Af.refl _) rfl⟩
  |_=>exact nos e
 |tup O =>
  cases G with
  |tup ys =>
   obtain⟨J,rfl⟩:=Bb e;revert m;refine Bo λa vs B F m=>?_;obtain rfl:=B;revert k;refine Bo λb ws A E k=>?_;obtain rfl:=A;have T:=m.length;have P:=k.length;by_cases M:vs=[]
   ·subst M;have Y:O=[]:=mO T;subst Y;exact ku0 h s σ H _ _ v u Q I w n ⟨a,b,ws,rfl,rfl,(TpR.sq F),(TpR.sq E),q _ H (Af.refl _) ⟨b,ws,rfl,E,k.mono (Af.refl _) λ_ z=>.inl z⟩⟩
   ·refine wh6 h s σ H _ _ v u Q I w n ⟨a,b,vs,ws,rfl,rfl,(TpR.sq F),(TpR.sq E),M,Gv (by lia),λL=>?_,λL p C=>?_⟩
    ·subst L;have U:ys=[]:=mO P;subst U;exact q _ H (Af.refl _) ⟨a,vs,rfl,F,by rw[WW];exact m.mono (Af.refl _) λ_ z=>.inl z⟩
    ·exact q _ _ (Aj C _) ⟨p,_,rfl,TpR.of Ah,(m.mono (Aj C _) λ_ z=>.inl z).append (k.mono (Aj C _) λ_ z=>.inl z)⟩
  |_=>exact nos e
 |_=>exact nos e
theorem wh5:OpR X (DN .Add) (λx y H Q=>∃l b z w,x=.ref l/\y=.ref b/\SqL X.K H l z/\SqL X.K H b w/\z.length+w.length<=sizeLine/\∀p,H p=none->Q (.ref p) (upd H p (.lst (z++w)))):=by
 intro G s σ H x y v u Q I U T h;obtain⟨l,b,z,w,rfl,rfl,hH,hB,hz,q⟩:=h;cases U;cases T;have⟨j,r,pl,_⟩:=I.list hH;have⟨i,E,B,_⟩:=I.list hB;obtain⟨⟨cls,dd,data,P⟩,J,M,n,L⟩:=pl.isList;obtain⟨⟨O,C,data2,A⟩,k,m,Y,hd2⟩:=B.isList;simp only at M L m hd2;subst M L m hd2;have hl:=r.length;have aa:=E.length;have e:j.toArray++i.toArray=(j++i).toArray:=by simp
 refine RV ⟨_,J,rfl⟩ ⟨_,k,rfl⟩ noFill_list_add seq_list_add PySem.F.slot_list_add PySem.F.entry_list_add (PySem.F.args_list_add_2 _ _) (list_addW l b j.toArray i.toArray n Y dd C P A (by rw[KJ,KJ];lia)) ⟨J,k,?_⟩;rw[e];exact⟨.ref _,_,I.lnew (t':=s.toks) (r.append E) (by rw[PB];lia),rfl,q _ I.fresh⟩
theorem yf0:OpR X (DN .Add) (rDF X.K nD):=by
 rintro i s σ H x y v u Q I w r ⟨S,E,C,d,n,m,e,q⟩;cases E with
 |lst F =>
  cases C with
  |lst ys=>obtain⟨L,rfl⟩:=Bb e;revert n;refine Bo λa vs k B n=>?_;obtain rfl:=k;revert m;refine Bo λb ws j A m=>?_;obtain rfl:=j;have J:=n.length;have G:=m.length;refine wh5 i s σ H _ _ v u Q I w r ⟨a,b,vs,ws,rfl,rfl,B.sq,A.sq,Gv (by lia),λp h=>?_⟩;exact q p _ _ _ rfl (Aj h _) h Ah (((n.avoid h).mono (Aj h _) λ_ z=>z).append ((m.avoid h).mono (Aj h _) λ_ z=>z))
  |_=>exact nos e
 |_=>exact nos e
def wb4{f1 f2:Ev->R D}{d:D}(h:b2 f1 f2 nD ρ=.ok d):∃ds,d=.lst ds:=by
 refine Am (λx _ h=>?_) (Bp h);refine Am (λy _ h=>?_) (Bp h);cases e:nD x y with
 |none=>rw[e]at h;cases h
 |some i=>rw[e]at h;cases h;cases x<;>first |exact nos e | (cases y<;>first |exact nos e | (obtain⟨_,rfl⟩:=Bb e;exact⟨_,rfl⟩))
def sub(h:PEd X c l a f1)(e:PEd X c l b f2):PEd X c l (.BinOp a .Sub b pos) (b2 f1 f2 fZ):=aM .Sub yg2 h e
def mul(h:PEd X c l a f1)(e:PEd X c l b f2):PEd X c l (.BinOp a .Mult b pos) (b2 f1 f2 Jv):=aM .Mult yf6 h e
def fdiv(h:PEd X c l a f1)(e:PEd X c l b f2):PEd X c l (.BinOp a .FloorDiv b pos) (b2 f1 f2 Ut):=aM .FloorDiv wu4 h e
def mod(h:PEd X c l a f1)(e:PEd X c l b f2):PEd X c l (.BinOp a .Mod b pos) (b2 f1 f2 Vr):=aM .Mod yf5 h e
def pow(h:PEd X c l a f1)(e:PEd X c l b f2):PEd X c l (.BinOp a .Pow b pos) (b2 f1 f2 aF):=aM .Pow yf9 h e
def neg(e:PEd X c l a f1):PEd X c l (.UnaryOp .USub a pos) (b1 f1 gB):=un_ yf7 e
end
mutual
def D.py:D->PyData
 | .non=>.none
 | .bl b=>.bool b
 | .int i=>.int i
 | .str x=>.str x
 | .tup e=>.tuple (Gx e)
 | .lst e=>.list (Gx e)
 | .exc _ _ _=>.none
def Gx:List D->List PyData
 | []=>[]
 |d::ds=>d.py::Gx ds
end
mutual
def D.cok:Nat->D->Bool
 |n,.tup e=>match n with |0=>false |n+1=>Cr n e
 |n,.lst e=>match n with |0=>false |n+1=>Cr n e
 |_,.str x=>PyData.strOk x
 |_,.exc _ _ _=>false
 |_,_=>true
def Cr:Nat->List D->Bool
 |_,[]=>true
 |n,d::ds=>d.cok n && Cr n ds
end
mutual
theorem Hy:∀(n:Nat)(d:D),d.cok n=true->d.py.canLay0=true/\d.py.depth<=n
 |n,.non,_=>by simp[D.py,PyData.canLay0,PyData.depth]
 |n,.bl _,_=>by simp[D.py,PyData.canLay0,PyData.depth]
 |n,.int _,_=>by simp[D.py,PyData.canLay0,PyData.depth]
 |n,.str x,h=>by
  have i:PyData.strOk x=true:=by simpa[D.cok] using h
  simp[D.py,PyData.canLay0,PyData.depth,i]
 |0,.tup e,h=>by simp[D.cok]at h
 |0,.lst e,h=>by simp[D.cok]at h
 |n+1,.tup e,h=>by
  have i:Cr n e=true:=by simpa[D.cok] using h
  have:=Fi n e i;simp only[D.py,PyData.canLay0,PyData.depth];exact⟨this.1,by lia⟩
 |n+1,.lst e,h=>by
  have i:Cr n e=true:=by simpa[D.cok] using h
  have:=Fi n e i;simp only[D.py,PyData.canLay0,PyData.depth];exact⟨this.1,by lia⟩
 |n,.exc _ _ _,h=>by simp[D.cok]at h
theorem Fi:∀(n:Nat)(ds:List D),Cr n ds=true->PyData.canLayAll0 (Gx ds)=true/\PyData.depthAll (Gx ds)<=n
 |n,[],_=>by simp[Gx,PyData.canLayAll0,PyData.depthAll]
 |n,d::ds,h=>by
  have e:d.cok n=true/\Cr n ds=true:=by simpa[Cr] using h
  have j:=Hy n d e.1;have i:=Fi n ds e.2;simp only[Gx,PyData.canLayAll0,PyData.depthAll,j.1,i.1,Bool.and_self,true_and];lia
end
variable {pins:List (BK×FZ)}{s:BJ}
section
variable {S:AS}
mutual
theorem Cw(I:Inv X pins σ H s):∀(n:Nat)(d:D)(v:V)(u:A_),d.cok n=true->Rep X.K H S d v->RelV v u->∃as,Reads s.heap u d.py as
 |n,.non,v,u,_,h,r=>by cases(show v=.non from h);cases(show u=Value.none from r);exact⟨_,by simp only[D.py];exact .none⟩
 |n,.bl b,v,u,_,h,r=>by cases(show v=.bl b from h);cases(show u=Value.bool b from r);exact⟨_,by simp only[D.py];exact .bool b⟩
 |n,.int i,v,u,_,h,r=>by cases(show v=.int i from h);have⟨t,e⟩:=(show ∃t,u=Value.int i t from r);cases e;exact⟨_,by simp only[D.py];exact .int i t⟩
 |n,.str x,v,u,_,h,r=>by cases(show v=.str x from h);have⟨t,e⟩:=(show ∃t,u=Value.str x t from r);cases e;exact⟨_,by simp only[D.py];exact .str x t⟩
 |0,.tup j,v,u,k,h,r=>by simp[D.cok]at k
 |0,.lst j,v,u,k,h,r=>by simp[D.cok]at k
 |n+1,.tup j,v,u,k,h,r=>by
  obtain⟨a,vs,rfl,q,z⟩:=h;cases(show u=Value.ref a from r);have⟨w,y,p,_⟩:=I.tuple (TpR.sq q);have B:Cr n j=true:=by simpa[D.cok] using k
  have⟨as,A⟩:=Oi I n j vs w B z y;obtain⟨o,C,F,m,E⟩:=p;exact⟨_,by simp only[D.py];exact .tuple C F E (by simpa using A)⟩
 |n+1,.lst j,v,u,k,h,r=>by
  obtain⟨a,vs,rfl,q,z⟩:=h;cases(show u=Value.ref a from r);have⟨w,y,p,_⟩:=I.list q.sq;have B:Cr n j=true:=by simpa[D.cok] using k
  have⟨as,A⟩:=Oi I n j vs w B z y;obtain⟨o,C,F,m,E⟩:=p.isList;exact⟨_,by simp only[D.py];exact .list C F E (by simpa using A)⟩
 |n,.exc _ _ _,v,u,k,h,r=>by simp[D.cok]at k
theorem Oi(I:Inv X pins σ H s):∀(n:Nat)(ds:List D)(vs:List V)(j:List A_),Cr n ds=true->An X.K H S ds vs->Vals vs j->∃as,ReadsAll s.heap j (Gx ds) as
 |n,[],vs,j,_,h,r=>by cases(show vs=[] from h);cases r;exact⟨_,by simp only[Gx];exact .nil⟩
 |n,d::ds,vs,j,k,h,r=>by
  revert h;refine Bo λv e i y x=>?_;obtain rfl:=i;cases r with
  |cons q p =>
   have m:d.cok n=true/\Cr n ds=true:=by simpa[Cr] using k
   have⟨as,w⟩:=Cw I n d v _ m.1 y q;obtain⟨bs,u⟩:=Oi I n ds e _ m.2 x p;exact⟨_,by simp only[Gx];exact .cons w u⟩
end
end
def D.eqb(x y:D):Bool:=PyData.eqv x.py y.py
def eqD(x y:D):Option D:=if x.cok 60 && y.cok 60 then some (.bl (x.eqb y)) else none
def neD(x y:D):Option D:=if x.cok 60 && y.cok 60 then some (.bl (!x.eqb y)) else none
def inD:D->D->Option D
 |x,.lst ys=>if x.cok 60 && Cr 60 ys then some (.bl (ys.any λy=>y.eqb x)) else none
 |x,.tup ys=>if x.cok 60 && Cr 60 ys then some (.bl (ys.any λy=>y.eqb x)) else none
 |_,_=>none
def aG:D->D->Option D
 |x,.lst ys=>if x.cok 60 && Cr 60 ys then some (.bl (!ys.any λy=>y.eqb x)) else none
 |x,.tup ys=>if x.cok 60 && Cr 60 ys then some (.bl (!ys.any λy=>y.eqb x)) else none
 |_,_=>none
section
variable {f f1 f2:Ev->R D}
def Wi(x:D):∀ys:List D,((Gx ys).any λy=>PyData.eqv y x.py)=ys.any λy=>y.eqb x
 | []=>by simp[Gx]
 |y::ys=>by simp only[Gx,fB,Wi x ys];rfl
theorem rB(C:X.A.units+70<HX):OpR X (DG .Eq) (rD X.K eqD):=by rintro pins s σ H x y v u Q I m k ⟨S,j,i,d,w,r,e,q⟩;obtain⟨h,rfl⟩:=Bb e;rw[QH]at h;have⟨as,p⟩:=Cw I 60 j x v h.1 w m;have⟨bs,n⟩:=Cw I 60 i y u h.2 r k;have B:=Hy 60 j h.1;have z:=Hy 60 i h.2;exact SeqAt.compareEq_reads p n B.1 z.1 (by lia) ⟨.bl _,H,I,rfl,q _ H (Af.refl _) rfl⟩
theorem yn7(C:X.A.units+70<HX):OpR X (DG .NotEq) (rD X.K neD):=by rintro pins s σ H x y v u Q I m k ⟨S,j,i,d,w,r,e,q⟩;obtain⟨h,rfl⟩:=Bb e;rw[QH]at h;have⟨as,p⟩:=Cw I 60 j x v h.1 w m;have⟨bs,n⟩:=Cw I 60 i y u h.2 r k;have B:=Hy 60 j h.1;have z:=Hy 60 i h.2;exact SeqAt.compareNe_reads p n B.1 z.1 (by lia) ⟨.bl _,H,I,rfl,q _ H (Af.refl _) rfl⟩
theorem q_(E:X.A.units+70<HX):OpR X (DG .In) (rD X.K inD):=by
 rintro pins s σ H x y v u Q I w r ⟨S,j,C,d,B,z,e,q⟩;cases C with
 |lst ys=>obtain⟨h,rfl⟩:=Bb e;rw[QH]at h;have p:(D.lst ys).cok 61=true:=h.2;have⟨as,k⟩:=Cw I 60 j x v h.1 B w;have⟨bs,i⟩:=Cw I 61 _ y u p z r;have n:=Hy 60 j h.1;have m:=Fi 60 ys h.2;simp only[D.py]at i;exact SeqAt.in_list_reads i k m.1 n.1 (by lia) ⟨.bl _,H,I,rfl,by rw[Wi];exact q _ H (Af.refl _) rfl⟩
 |tup ys=>obtain⟨h,rfl⟩:=Bb e;rw[QH]at h;have p:(D.tup ys).cok 61=true:=h.2;have⟨as,k⟩:=Cw I 60 j x v h.1 B w;have⟨bs,i⟩:=Cw I 61 _ y u p z r;have n:=Hy 60 j h.1;have m:=Fi 60 ys h.2;simp only[D.py]at i;exact SeqAt.in_tuple_reads i k m.1 n.1 (by lia) ⟨.bl _,H,I,rfl,by rw[Wi];exact q _ H (Af.refl _) rfl⟩
 |_=>exact nos e
theorem yf8(E:X.A.units+70<HX):OpR X (DG .NotIn) (rD X.K aG):=by
 rintro pins s σ H x y v u Q I w r ⟨S,j,C,d,B,z,e,q⟩;cases C with
 |lst ys=>obtain⟨h,rfl⟩:=Bb e;rw[QH]at h;have p:(D.lst ys).cok 61=true:=h.2;have⟨as,k⟩:=Cw I 60 j x v h.1 B w;have⟨bs,i⟩:=Cw I 61 _ y u p z r;have n:=Hy 60 j h.1;have m:=Fi 60 ys h.2;simp only[D.py]at i;exact SeqAt.notIn_list_reads i k m.1 n.1 (by lia) ⟨.bl _,H,I,rfl,by rw[Wi];exact q _ H (Af.refl _) rfl⟩
 |tup ys=>obtain⟨h,rfl⟩:=Bb e;rw[QH]at h;have p:(D.tup ys).cok 61=true:=h.2;have⟨as,k⟩:=Cw I 60 j x v h.1 B w;have⟨bs,i⟩:=Cw I 61 _ y u p z r;have n:=Hy 60 j h.1;have m:=Fi 60 ys h.2;simp only[D.py]at i;exact SeqAt.notIn_tuple_reads i k m.1 n.1 (by lia) ⟨.bl _,H,I,rfl,by rw[Wi];exact q _ H (Af.refl _) rfl⟩
 |_=>exact nos e
def eQ(p:Int->Int->Bool):D->D->Option D
 | .int i,.int j=>some (.bl (p i j))
 |_,_=>none
abbrev ltD:=eQ λi j=>decide (i<j)
abbrev leD:=eQ λi j=>decide (i<=j)
abbrev gtD:=eQ λi j=>decide (j<i)
abbrev geD:=eQ λi j=>decide (j<=i)
def lA{h:YL}{p:Int->Int->Bool}(k:OpR X (DG h) (rI0 λi j=>.bl (p i j))):OpR X (DG h) (rD X.K (eQ p)):=pJ k λn m d e=>by cases n<;>first |exact nos e | (cases m<;>first |exact nos e | (cases e;exact⟨_,_,rfl,rfl,λ_ _=>rfl⟩))
def m9:OpR X (DG .Lt) (rD X.K ltD):=lA yg6
def yn6:OpR X (DG .LtE) (rD X.K leD):=lA yg5
def yn4:OpR X (DG .Gt) (rD X.K gtD):=lA yg4
def rA:OpR X (DG .GtE) (rD X.K geD):=lA yg3
def lE:D->Bool
 | .non=>true
 |_=>false
def gC(x y:D):Option D:=if lE y=true then some (.bl (lE x)) else none
def wh0{d:D}(h:lE d=true):d=.non:=by cases d<;>first |rfl |cases h
def wj7{S:AS}{d:D}(r:Rep K H S d v):decide (v=V.non)=lE d:=by
 cases d with
 |non=>cases(show v=.non from r);rfl
 |bl _=>cases(show v=.bl _ from r);rfl
 |int _=>cases(show v=.int _ from r);rfl
 |str _=>cases(show v=.str _ from r);rfl
 |tup _=>obtain⟨a,vs,rfl,_⟩:=r;rfl
 |lst _=>obtain⟨a,vs,rfl,_⟩:=r;rfl
 |exc c k f=>obtain⟨a,vs,rfl,_⟩:=r;rfl
def yf4:OpR X (DG .Is) (rD X.K gC):=by rintro pins s σ H x y v u Q I i h ⟨S,p,n,d,k,j,e,q⟩;obtain⟨m,rfl⟩:=Bb e;cases wh0 m;refine wu9 pins s σ H x y v u Q I i h ⟨j,?_⟩;rw[wj7 k];exact q _ H (Af.refl _) rfl
def ixD:D->D->Option D
 | .lst e,.int i=>atI e i
 | .tup e,.int i=>atI e i
 | .str z,.int i=>if z.length<=16777216 then(atI z.cps.toList i).map λk=>.str ⟨#[k]⟩ else none
 |_,_=>none
def wY{S:AS}{i:Int}{d:D}(r:An K H S ds vs)(e:atI ds i=some d):∃v,atI vs i=some v/\Rep K H S d v:=by
 unfold atI at e ⊢;rw[<-r.length];cases k:ixN ds.length i with
 |none=>rw[k]at e;cases e
 |some j=>rw[k]at e;exact r.get e
def yn5:IxR X (rD X.K ixD):=by
 rintro value slice pins s σ H x y v u Q I A r ⟨S,J,F,d,m,B,e,q⟩ hs;cases J with
 |lst G =>
  cases F with
  |int i=>revert m;refine Bo λa vs p C m=>?_;obtain rfl:=p;refine Am (λw E j=>?_) (wY m e);exact wf1 value slice pins s σ H _ y v u Q I A r ⟨a,vs,i,w,rfl,B,C.sq,E,q _ H (Af.refl _) (j.mono (Af.refl _) λ_ z=>.inl z)⟩ hs
  |_=>exact nos e
 |tup G =>
  cases F with
  |int i=>revert m;refine Bo λa vs n C m=>?_;obtain rfl:=n;refine Am (λw E j=>?_) (wY m e);exact ws3 value slice pins s σ H _ y v u Q I A r ⟨a,vs,i,w,rfl,B,(TpR.sq C),E,q _ H (Af.refl _) (j.mono (Af.refl _) λ_ z=>.inl z)⟩ hs
  |_=>exact nos e
 |str z =>
  cases F with
  |int i =>
   obtain⟨h,e⟩:z.length<=16777216/\(atI z.cps.toList i).map (λk=>D.str ⟨#[k]⟩)=some d:=by
    have e:(if z.length<=16777216 then(atI z.cps.toList i).map (λk=>D.str ⟨#[k]⟩) else none)=some d:=e;by_cases h:z.length<=16777216
    ·rw[if_pos h]at e;exact⟨h,e⟩
    ·rw[if_neg h]at e;cases e
   cases k:atI z.cps.toList i with
   |none=>rw[k]at e;cases e
   |some ch=>rw[k]at e;cases e;exact ws2 value slice pins s σ H _ y v u Q I A r ⟨z,i,ch,m,B,Gv h,k,q _ H (Af.refl _) rfl⟩ hs
  |_=>exact nos e
 |_=>exact nos e
def ix(i:PEd X c l a f1)(e:PEd X c l b f2)(hs:xJ b:=by exact λ_ _=>rfl):PEd X c l (.Subscript a b pos) (b2 f1 f2 ixD):=PE.imp (yg9 yn5 i e hs) λ_ _ _ h=>j4 h
def eq_(e:X.A.units+70<HX)(i:PEd X c l a f1)(h:PEd X c l b f2):PEd X c l (.Compare a [.Eq] [b] pos) (b2 f1 f2 eqD):=jM (rB e) i h (Mp _)
def lt_(h:PEd X c l a f1)(e:PEd X c l b f2):PEd X c l (.Compare a [.Lt] [b] pos) (b2 f1 f2 ltD):=jM m9 h e (Mp _)
def ge_(h:PEd X c l a f1)(e:PEd X c l b f2):PEd X c l (.Compare a [.GtE] [b] pos) (b2 f1 f2 geD):=jM rA h e (Mp _)
def in_(e:X.A.units+70<HX)(j:PEd X c l a f1)(i:PEd X c l b f2)(h:GP .In b=false:=by with_unfolding_all rfl):PEd X c l (.Compare a [.In] [b] pos) (b2 f1 f2 inD):=jM (q_ e) j i h
end
def a0:Ev->R (List D):=λ_=>.ok []
def zv(f:Ev->R D)(fs:Ev->R (List D)):Ev->R (List D):=λρ=>(f ρ).bind λx=>(fs ρ).bind λe=>.ok (x::e)
def Ra(xs:List D):Option D:=if xs.length<=16777216 then some (.tup xs) else none
def bO(xs:List D):Option D:=if xs.length<=16777216 then some (.lst xs) else none
def bA(fs:Ev->R (List D))(g:List D->Option D):Ev->R D:=λρ=>(fs ρ).bind λe=>R.of (g e)
def rC(K:B_)(g:List D->Option D):List V->Hp->VK->Prop:=λe H Q=>∃S ds d,An K H S ds e/\g ds=some d/\∀z H',Af H H'->Rep K H' (AS.plus S H) d z->Q z H'
def rCF(K:B_)(g:List D->Option D):List V->Hp->VK->Prop:=λh H Q=>∃S ds d,An K H S ds h/\g ds=some d/\∀a vs e H',d=.lst e->Af H H'->H a=none->H' a=some (.lst vs)->An K H' (AS.but S a) e vs->Q (.ref a) H'
section
variable {f:Ev->R D}{fs:Ev->R (List D)}{g:List D->Option D}
def tA0(h:tDA K c 0 l a0 σ H Q):q7 σ H Q:=by revert h;refine Bm λhs ρ E q=>?_;exact q [] H (Af.refl _) An.nil rfl
def tA1{n:Nat}(h:tDA K c (n+1) l (zv f fs) σ H Q):sJ (tD K c l f) (tDA K c n l fs) σ H Q:=by revert h;refine Bm λhs ρ E q=>?_;refine Ba E ((RQ.bind.mp q).mono (λB u x C i A p=>?_) λ_ z=>z);refine Ce A ((RQ.bind.mp u).mono (λds r k y j F m w=>?_) λe z=>Bq z i);exact r (x::k) y (i.trans j) (.cons (p.mono j λ_ z=>z) (m.mono (Af.refl _) λ_ z=>Gw i z)) (by simp[w])
def tAg{n:Nat}{Q:VK}(h:tD K c l (bA fs g) σ H Q):tCB (rC K g) (tDA K c n l fs) σ H Q:=by revert h;refine Bm λhs ρ E q=>?_;refine Ce E ((RQ.bind.mp q).mono (λds r u x i y m w=>?_) λ_ z=>z);refine Am (λd e p=>?_) (r.of);exact⟨lvS c ρ σ H l,ds,d,m,e,λz H' j k=>p z H' (i.trans j) (k.mono (Af.refl _) λ_ z=>Kl E i z)⟩
def q9{n:Nat}{Q:VK}(h:tF K c l (bA fs g) σ H Q):tCB (rCF K g) (tDA K c n l fs) σ H Q:=by revert h;refine Bm λhs ρ E q=>?_;refine Ce E ((RQ.bind.mp q).mono (λds r A C i F m B=>?_) λ_ z=>z);refine Am (λd e p=>?_) (r.of);exact⟨lvS c ρ σ H l,ds,d,m,e,λa vs x H' y j w u k=>p a vs x H' y (i.trans j) (i.free w) u k⟩
end
variable {e:CN}{es:List CN}
variable {g':D->D->Option D}
section
variable {d:CN}{rest:List CN}{f f1 f2 i:Ev->R D}{fs:Ev->R (List D)}{g:List D->Option D}
def an:PAd X c l [] a0:=PA.imp Ho λ_ _ _ h=>tA0 h
def ac(k:PEd X c l e f)(j:PAd X c l es fs)(hs:Zs X.env e es:=by rfl):PAd X c l (e::es) (zv f fs):=PA.imp (Df k j hs) λ_ _ _ h=>tA1 h
def tup{x1}(h:PAd X c l es fs):PEd X c l (.Tuple es x1 pos) (bA fs Ra):=PE.imp (oM h) λσ H Q q=>by revert q;refine Bm λhs ρ E q=>?_;refine Ce E ((RQ.bind.mp q).mono (λds u m y n A j x=>?_) λ_ z=>z);refine Am (λd e r=>?_) (u.of);obtain⟨w,rfl⟩:=Bb e;refine⟨Gv (by rw[<-j.length];exact w),λp k=>r _ _ (n.trans (Aj k _)) ⟨p,m,rfl,TpR.of Ah,j.mono (Aj k _) λ_ z=>z⟩⟩
def cV(h:PAd X c l es fs):PEf X c l (.List es pos) (bA fs bO):=PE.imp (wv8 h) λσ H Q q=>by revert q;refine Bm λhs ρ E q=>?_;refine Ce E ((RQ.bind.mp q).mono (λds u n y k A m x=>?_) λ_ z=>z);refine Am (λd e r=>?_) (u.of);obtain⟨w,rfl⟩:=Bb e;exact⟨Gv (by rw[<-m.length];exact w),λp j=>r p n ds _ rfl (k.trans (Aj j _)) (k.free j) Ah ((m.avoid j).mono (Aj j _) λ_ z=>z)⟩
theorem v7{d:D}(h:bA fs bO ρ=.ok d):∃ds,d=.lst ds:=by
 unfold bA at h;cases j:fs ρ<;>rw[j]at h<;>try cases h
 rename_i k;simp only[R.ok_bind,bO]at h;split at h
 ·cases h;exact⟨_,rfl⟩
 ·cases h
def lst(h:PAd X c l es fs):PEd X c l (.List es pos) (bA fs bO):=PEf.d (cV h) λ_ _ h=>v7 h
def gU{x:BV}{p:JG}{m:String}(y:Dc X (.builtin m) (rC X.K g))(n:FQ x=some (.builtin m))(r:X.mg x=none)(z:PAd X c l (e::es) fs)(u:Gl X x:=by rfl)(q:x ≠ "__name__":=by decide)(k:Zd x:=by decide)
  (w:Zs X.env e es:=by rfl)(j:Zp X.env pos es:=by rfl):PEd X c l (.Call (.Name x p) (e::es) [] pos) (bA fs g):=
 PE.imp (Oh y u r n z q k w j) λ_ _ _ h=>tAg h
def u6{x:BV}{p:JG}{m:String}(y:Dc X (.builtin m) (rCF X.K g))(n:FQ x=some (.builtin m))(r:X.mg x=none)(z:PAd X c l (e::es) fs)(u:Gl X x:=by rfl)(q:x ≠ "__name__":=by decide)(k:Zd x:=by decide)
  (w:Zs X.env e es:=by rfl)(j:Zp X.env pos es:=by rfl):PEf X c l (.Call (.Name x p) (e::es) [] pos) (bA fs g):=
 PE.imp (Oh y u r n z q k w j) λ_ _ _ h=>q9 h
def yb0{x:BV}{p:JG}{T:String}(w:Dc X (.type T) (rC X.K g))(m:FQ x=some (.type T))(q:X.mg x=none)(y:PAd X c l (e::es) fs)(r:Gl X x:=by rfl)(n:x ≠ "__name__":=by decide)(k:Zd x:=by decide)
  (u:Zs X.env e es:=by rfl)(j:Zp X.env pos es:=by rfl):PEd X c l (.Call (.Name x p) (e::es) [] pos) (bA fs g):=
 PE.imp (Dz w r q m y n k u j) λ_ _ _ h=>tAg h
def wp5{x:BV}{p:JG}{T:String}(w:Dc X (.type T) (rCF X.K g))(m:FQ x=some (.type T))(q:X.mg x=none)(y:PAd X c l (e::es) fs)(r:Gl X x:=by rfl)(n:x ≠ "__name__":=by decide)(k:Zd x:=by decide)
  (u:Zs X.env e es:=by rfl)(j:Zp X.env pos es:=by rfl):PEf X c l (.Call (.Name x p) (e::es) [] pos) (bA fs g):=
 PE.imp (Dz w r q m y n k u j) λ_ _ _ h=>q9 h
def Gu:List D->Option D
 | [.lst h]=>some (.int h.length)
 | [.tup h]=>some (.int h.length)
 | [.str z]=>if z.length<=16777216 then some (.int z.length) else none
 |_=>none
def ya7:Dc X (.builtin "len") (rC X.K Gu):=by
 rintro pins s σ H w h Q I r ⟨S,ds,d,j,e,q⟩;obtain⟨n,rfl⟩:=inv1 e rfl (λx _ _=>by cases x<;>rfl);cases n with
 |lst ys=>cases e;obtain⟨v,rfl,a,vs,rfl,m,k⟩:=j.one;have:=k.length;exact Rh pins s σ H _ h Q I r ⟨a,vs,rfl,.inl m.sq,q _ H (Af.refl _) (by rw[<-this];rfl)⟩
 |tup ys=>cases e;obtain⟨v,rfl,a,vs,rfl,m,k⟩:=j.one;have:=k.length;exact Rh pins s σ H _ h Q I r ⟨a,vs,rfl,.inr (TpR.sq m),q _ H (Af.refl _) (by rw[<-this];rfl)⟩
 |str z=>obtain⟨u,rfl⟩:=Bb e;obtain⟨v,rfl,p⟩:=j.one;cases(show v=.str z from p);exact jb7 pins s σ H _ h Q I r ⟨z,rfl,Gv u,q _ H (Af.refl _) rfl⟩
 |_=>exact nos e
def gR:List D->Option D
 | [.lst h]=>some (.lst h)
 | [.tup h]=>some (.lst h)
 |_=>none
def wp2:Dc X (.type "list") (rCF X.K gR):=by
 rintro pins s σ H w m Q I r ⟨S,ds,d,n,e,q⟩;obtain⟨u,rfl⟩:=inv1 e rfl (λx _ _=>by cases x<;>rfl);cases u with
 |lst ys=>cases e;obtain⟨v,rfl,a,vs,rfl,k,j⟩:=n.one;exact Ri pins s σ H _ m Q I r ⟨a,vs,rfl,.inl k.sq,λp h=>q p vs ys _ rfl (Aj h _) h Ah ((j.avoid h).mono (Aj h _) λ_ z=>z)⟩
 |tup ys=>cases e;obtain⟨v,rfl,a,vs,rfl,k,j⟩:=n.one;exact Ri pins s σ H _ m Q I r ⟨a,vs,rfl,.inr (TpR.sq k),λp h=>q p vs ys _ rfl (Aj h _) h Ah ((j.avoid h).mono (Aj h _) λ_ z=>z)⟩
 |_=>exact nos e
def Dr:List D->Option D
 | [.lst h]=>some (.tup h)
 | [.tup h]=>some (.tup h)
 |_=>none
def wb2:Dc X (.type "tuple") (rC X.K Dr):=by
 rintro pins s σ H w k Q I r ⟨S,ds,d,m,e,q⟩;obtain⟨u,rfl⟩:=inv1 e rfl (λx _ _=>by cases x<;>rfl);cases u with
 |lst ys=>cases e;obtain⟨v,rfl,a,vs,rfl,h,j⟩:=m.one;exact Qd pins s σ H _ k Q I r ⟨a,vs,rfl,.inl ⟨h.sq,λp n=>q _ _ (Aj n _) ⟨p,vs,rfl,TpR.of Ah,j.mono (Aj n _) λ_ z=>.inl z⟩⟩⟩
 |tup ys=>cases e;obtain⟨v,rfl,a,vs,rfl,h,j⟩:=m.one;exact Qd pins s σ H _ k Q I r ⟨a,vs,rfl,.inr ⟨(TpR.sq h),q _ H (Af.refl _) ⟨a,vs,rfl,h,j.mono (Af.refl _) λ_ z=>.inl z⟩⟩⟩
 |_=>exact nos e
def minD:List D->Option D
 | [.int i,.int j]=>some (.int (if j<i then j else i))
 |_=>none
def ya8(A:X.calm=true):Dc X (.builtin "min") (rC X.K minD):=by
 rintro pins s σ H B n Q I r ⟨S,ds,d,p,e,q⟩;obtain⟨m,k,rfl⟩:=inv2 e rfl (λx=>by cases x<;>rfl) (λx y _ _=>by cases x<;>first |rfl | (cases y<;>rfl));cases m with
 |int i =>
  cases k with
  |int j=>cases e;refine Bo (λv u h z w=>?_) (p.two);obtain rfl:=h;cases(show v=.int i from z);cases(show u=.int j from w);exact kd4 A pins s σ H _ n Q I r ⟨i,j,rfl,q _ H (Af.refl _) rfl⟩
  |_=>exact nos e
 |_=>exact nos e
def Ku(j:X.mg "len" = none){p:JG}(n:PAd X c l (e::es) fs)(k:Gl X "len":=by rfl)(m:Zs X.env e es:=by rfl)(h:Zp X.env pos es:=by rfl):
  PEd X c l (.Call (.Name "len" p) (e::es) [] pos) (bA fs Gu):=gU ya7 PySem.boot_len j n k (by decide) (by decide) m h
def mY:D->Option Bool
 | .bl k=>some k
 | .int i=>some (i != 0)
 | .non=>some false
 | .tup h=>some (!h.isEmpty)
 | .lst h=>some (!h.isEmpty)
 | .str x=>if x.length<=16777216 then some ((x.length:Int) != 0) else none
 | .exc _ _ _=>none
def bT:D->Option Bool
 | .bl k=>some k
 |_=>none
def tt(f:Ev->R D):Ev->R Bool:=λρ=>(f ρ).bind λd=>R.of (mY d)
def tb(f:Ev->R D):Ev->R Bool:=λρ=>(f ρ).bind λd=>R.of (bT d)
def Rz{S:AS}(r:An K H S ds vs):(!ds.isEmpty) = !vs.isEmpty:=by have:=r.length;cases ds<;>cases vs<;>simp at this ⊢
def tst(C:PEd X c l a f)(B:∀whole,Y_ a X.env whole=(do let v <-whole;UT a.pos;PQ [v] (truthy v)):=by intro _;rfl):PTd X c a (tt f):=PT.imp (kv5 C B) λσ H Q q=>by
 revert q;refine Bm λhs ρ E q=>?_;refine Ba E ((RQ.bind.mp q).mono (λF y x G u I h=>?_) λ_ z=>z);refine Am (λk e w=>?_) (y.of);refine⟨k,?_,w G u⟩;cases F with
 |non=>cases(show x=.non from h);cases e;rfl
 |bl b=>cases(show x=.bl b from h);cases e;rfl
 |int i=>cases(show x=.int i from h);cases e;rfl
 |str z=>cases(show x=.str z from h);obtain⟨A,rfl⟩:=Bb e;exact⟨Gv A,rfl⟩
 |tup ys=>revert h;refine Bo λp vs m r n=>?_;obtain rfl:=m;cases e;exact .inr (.inl ⟨vs,(TpR.sq r),Rz n⟩)
 |lst ys=>revert h;refine Bo λp vs j r n=>?_;obtain rfl:=j;cases e;exact .inl ⟨vs,r.sq,Rz n⟩
 |exc _ _ _=>cases e
def sO{t:TE}{Q:Bool->Hp->Prop}(i:∀Q,tD K c l f σ H Q->t σ H Q)(h:tDT K c (tb f) σ H Q):t σ H λx H'=>∃k,x=.bl k/\Q k H':=by apply i;revert h;refine Bm λhs ρ E q=>?_;refine Ba E ((RQ.bind.mp q).mono (λr p x u j w m=>?_) λ_ z=>z);refine Am (λk e n=>?_) (p.of);cases r<;>first | (cases e;exact⟨k,m,n u j⟩) |cases e
def bK{j:YL}{g:D->D->Option D}(k:OpR X (DG j) (rD X.K g))(p:PEd X c l a f1)(n:PEd X c l b f2)(m:GP j b=false):PTd X c (.Compare a [j] [b] pos) (tb (b2 f1 f2 g)):=
 PT.imp (wi8 k p n m) λσ H Q q=>sO (λQ h=>j4 h) q
def teq(h:X.A.units+70<HX)(k:PEd X c l a f1)(j:PEd X c l b f2):PTd X c (.Compare a [.Eq] [b] pos) (tb (b2 f1 f2 eqD)):=bK (rB h) k j (Mp _)
def tne(h:X.A.units+70<HX)(k:PEd X c l a f1)(j:PEd X c l b f2):PTd X c (.Compare a [.NotEq] [b] pos) (tb (b2 f1 f2 neD)):=bK (yn7 h) k j (Mp _)
def tlt(j:PEd X c l a f1)(h:PEd X c l b f2):PTd X c (.Compare a [.Lt] [b] pos) (tb (b2 f1 f2 ltD)):=bK m9 j h (Mp _)
def tgt(j:PEd X c l a f1)(h:PEd X c l b f2):PTd X c (.Compare a [.Gt] [b] pos) (tb (b2 f1 f2 gtD)):=bK yn4 j h (Mp _)
def tge(j:PEd X c l a f1)(h:PEd X c l b f2):PTd X c (.Compare a [.GtE] [b] pos) (tb (b2 f1 f2 geD)):=bK rA j h (Mp _)
def tin(h:X.A.units+70<HX)(m:PEd X c l a f1)(k:PEd X c l b f2)(j:GP .In b=false:=by with_unfolding_all rfl):PTd X c (.Compare a [.In] [b] pos) (tb (b2 f1 f2 inD)):=bK (q_ h) m k j
def fX(h:X.A.units+70<HX)(m:PEd X c l a f1)(k:PEd X c l b f2)(j:GP .NotIn b=false:=by with_unfolding_all rfl):PTd X c (.Compare a [.NotIn] [b] pos) (tb (b2 f1 f2 aG)):=bK (yf8 h) m k j
def yp8(j:PEd X c l a f1)(h:PEd X c l b f2):PTd X c (.Compare a [.Is] [b] pos) (tb (b2 f1 f2 gC)):=bK yf4 j h (Mp _)
def ch(f1 f2 i:Ev->R D)(g g':D->D->Option D):Ev->R D:=λρ=>(f1 ρ).bind λx=>(f2 ρ).bind λy=>(R.of (g x y)).bind λz=>(R.of (bT z)).bind λk=>if k then(i ρ).bind λw=>R.of (g' y w) else .ok (.bl false)
def wy9{g:D->D->Option D}{Q:VK}(h:tD K c l (ch f1 f2 i g g') σ H Q):tX (rD K g) (rD K g') (tD K c l f1) (tD K c l f2) (tD K c l i) σ H Q:=by
 revert h;refine Bm λhs ρ E q=>?_;refine Ba E ((RQ.bind.mp q).mono (λdx Y x H1 u E1 M=>?_) λ_ z=>z);refine Ba E1 ((RQ.bind.mp Y).mono (λC U y H2 A E2 L=>?_) λe z=>Bq z u);refine Am (λB e T=>?_) ((RQ.bind.mp U).of);refine Am (λk e2 p=>?_) ((RQ.bind.mp T).of);have n:=L.mono (Af.refl _) (λ_ z=>Gw u z:∀o,lvS c ρ σ H1 l o->lvS c ρ σ H l o);refine⟨lvS c ρ σ H l,dx,C,B,M.mono A (λ_ z=>z),n,e,λz H3 m J=>?_⟩;cases B<;>try cases e2
 refine⟨k,J,?_⟩;have j:=u.trans A;have E3:=E2.mono m;cases k with
 |false=>rw[if_neg (by decide)]at p ⊢;exact p _ H3 (j.trans m) rfl
 |true=>rw[if_pos rfl]at p ⊢;refine Ba E3 ((RQ.bind.mp p).mono (λdw P w H4 r E4 I=>?_) λe z=>Bq z (j.trans m));refine Am (λd e3 O=>?_) (P.of);refine⟨lvS c ρ σ H l,C,dw,d,n.mono (m.trans r) (λ_ z=>z),I.mono (Af.refl _) (λ_ z=>Gw (j.trans m) z),e3,λz H' F G=>?_⟩;exact O z H' (((j.trans m).trans r).trans F) (G.mono (Af.refl _) λ_ z=>Kl E ((j.trans m).trans r) z)
def wz0{k j:YL}{g:D->D->Option D}(n:OpR X (DG k) (rD X.K g))(m:OpR X (DG j) (rD X.K g'))(w:PEd X c l a f1)(u:PEd X c l b f2)(r:PEd X c l d i)
  (p:lastMarks [k,j] [b,d]=false:=by with_unfolding_all rfl):PTd X c (.Compare a [k,j] [b,d] pos) (tb (ch f1 f2 i g g')):=PT.imp (kv4 n m w u r p) λσ H Q q=>sO (λQ h=>wy9 h) q
def nt(f:Ev->R Bool):Ev->R Bool:=λρ=>(f ρ).bind λk=>.ok (!k)
def tan(f g:Ev->R Bool):Ev->R Bool:=λρ=>(f ρ).bind λk=>if k then g ρ else .ok false
def tor(f g:Ev->R Bool):Ev->R Bool:=λρ=>(f ρ).bind λk=>if k then .ok true else g ρ
variable {t u:Ev->R Bool}
abbrev PWd(X:Cx)(c:DC)(e:CN)(f:Ev->R Bool):Prop:=PW X e (tDT X.K c f)
def fW(m:PTd X c a t):PTd X c (.UnaryOp .Not a pos) (nt t):=PT.imp (ww7 m) λσ H Q q=>by revert q;refine Bm λhs ρ E q=>?_;exact Jz E ((RQ.bind.mp q).mono (λk j n h _=>j n h) λ_ z=>z)
def gK(h:PTd X c a t):PWd X c (.BoolOp .And [a] pos) t:=wi9 h
def jA(h:PTd X c a t):PWd X c (.BoolOp .Or [a] pos) t:=wx0 h
def fY(r:PTd X c a t)(p:PWd X c (.BoolOp .And (b::rest) pos) u):PWd X c (.BoolOp .And (a::b::rest) pos) (tan t u):=PW.imp (ww9 r p) λσ H Q q=>by
 revert q;refine Bm λhs ρ E q=>?_;refine Jz E ((RQ.bind.mp q).mono (λk j x h y=>?_) λ_ z=>z);cases k with
 |false=>rw[if_neg (by decide)];exact j x h
 |true=>rw[if_pos rfl];exact Jz y ((show RQ (u ρ) _ _ from j).mono (λk n w m _=>n w (h.trans m)) λe z=>Bq z h)
def i_(r:PTd X c a t)(p:PWd X c (.BoolOp .Or (b::rest) pos) u):PWd X c (.BoolOp .Or (a::b::rest) pos) (tor t u):=PW.imp (yh3 r p) λσ H Q q=>by
 revert q;refine Bm λhs ρ E q=>?_;refine Jz E ((RQ.bind.mp q).mono (λk j x h y=>?_) λ_ z=>z);cases k with
 |true=>rw[if_pos rfl];exact j x h
 |false=>rw[if_neg (by decide)];exact Jz y ((show RQ (u ρ) _ _ from j).mono (λk n w m _=>n w (h.trans m)) λe z=>Bq z h)
def S7(h:PWd X c e t):PTd X c e t:=h.pt
def va(f g:Ev->R D):Ev->R D:=λρ=>(f ρ).bind λd=>(R.of (bT d)).bind λk=>if k then g ρ else .ok (.bl false)
def vo(f g:Ev->R D):Ev->R D:=λρ=>(f ρ).bind λd=>(R.of (bT d)).bind λk=>if k then .ok (.bl true) else g ρ
def v1{op}(h:PEd X c l a f):PEd X c l (.BoolOp op [a] pos) f:=ww0 h
def qZ(A:PEd X c l a f1)(y:PEd X c l (.BoolOp .And (b::rest) pos) f2):PEd X c l (.BoolOp .And (a::b::rest) pos) (va f1 f2):=PE.imp (wv6 A y) λσ H Q q=>by
 revert q;refine Bm λhs ρ E q=>?_;refine Ba E ((RQ.bind.mp q).mono (λB w x F h G p=>?_) λ_ z=>z);refine Am (λk e j=>?_) ((RQ.bind.mp w).of);cases B<;>try cases e
 refine⟨k,p,?_⟩;cases k with
 |false=>rw[if_neg (by decide)]at j ⊢;exact j _ F h rfl
 |true=>rw[if_pos rfl]at j ⊢;exact Ba G (j.mono (λd r v C m I n=>r v C (h.trans m) (n.mono (Af.refl _) λ_ z=>Gw h z)) λe z=>Bq z h)
def vor(A:PEd X c l a f1)(y:PEd X c l (.BoolOp .Or (b::rest) pos) f2):PEd X c l (.BoolOp .Or (a::b::rest) pos) (vo f1 f2):=PE.imp (yh0 A y) λσ H Q q=>by
 revert q;refine Bm λhs ρ E q=>?_;refine Ba E ((RQ.bind.mp q).mono (λB w x F h G p=>?_) λ_ z=>z);refine Am (λk e j=>?_) ((RQ.bind.mp w).of);cases B<;>try cases e
 refine⟨k,p,?_⟩;cases k with
 |true=>rw[if_pos rfl]at j ⊢;exact j _ F h rfl
 |false=>rw[if_neg (by decide)]at j ⊢;exact Ba G (j.mono (λd r v C m I n=>r v C (h.trans m) (n.mono (Af.refl _) λ_ z=>Gw h z)) λe z=>Bq z h)
def ife(t:Ev->R Bool)(f g:Ev->R D):Ev->R D:=λρ=>(t ρ).bind λk=>if k then f ρ else g ρ
def ifx{d:CN}(x:PTd X c d t)(A:PEd X c l a f1)(y:PEd X c l b f2):PEd X c l (.IfExp d a b pos) (ife t f1 f2):=PE.imp (ku7 x A y) λσ H Q q=>by
 revert q;refine Bm λhs ρ E q=>?_;refine Jz E ((RQ.bind.mp q).mono (λk j C h w=>?_) λ_ z=>z);cases k with
 |true=>rw[if_pos rfl]at j ⊢;exact Ba w (j.mono (λd p v r m B n=>p v r (h.trans m) (n.mono (Af.refl _) λ_ z=>Gw h z)) λe z=>Bq z h)
 |false=>rw[if_neg (by decide)]at j ⊢;exact Ba w (j.mono (λd p v r m B n=>p v r (h.trans m) (n.mono (Af.refl _) λ_ z=>Gw h z)) λe z=>Bq z h)
end
def tDO(K:B_)(c:DC)(f:Ev->R (Option Int)):TO:=λσ H Q=>∃hs ρ,Az K c hs ρ σ H/\RQ (f ρ) (λo=>∀H',Af H H'->Q o H') (λe=>∀v H',Af H H'->Rep K H' (lvS c ρ σ H .any) e v->c.Ex e v H')
abbrev POd(X:Cx)(c:DC)(e:Option CN)(f:Ev->R (Option Int)):Prop:=PO X e (tDO X.K c f)
def PO.imp{e:Option CN}{t t':TO}(h:PO X e t)(i:∀σ H Q,t' σ H Q->t σ H Q):PO X e t':=λpins s σ H Q I q=>h pins s σ H Q I (i σ H Q q)
def p0:Ev->R (Option Int):=λ_=>.ok none
def isI:D->Option (Option Int)
 | .int i=>some (some i)
 |_=>none
def p1(f:Ev->R D):Ev->R (Option Int):=λρ=>(f ρ).bind λd=>R.of (isI d)
def cutD(xs:List D)(lo hi:Option Int):List D:=(xs.drop (HT.sIx xs.length 0 lo)).take (HT.sIx xs.length xs.length hi - HT.sIx xs.length 0 lo)
def bS(f:Ev->R D)(lo hi:Ev->R (Option Int))(g:D->Option Int->Option Int->Option D):Ev->R D:=λρ=>(f ρ).bind λx=>(lo ρ).bind λi=>(hi ρ).bind λj=>R.of (g x i j)
variable {p2:JG}
section
variable {lo hi:Option CN}{f:Ev->R D}{h i:Ev->R (Option Int)}
def pn:POd X c none p0:=PO.imp wi5 λσ H Q ⟨hs,ρ,E,q⟩=>q H (Af.refl _)
def ps(h:PEd X c l e f):POd X c (some e) (p1 f):=PO.imp (wi6 h) λσ H Q q=>by
 revert q;refine Bm λhs ρ E q=>?_;refine Ba E ((RQ.bind.mp q).mono (λr p x u j w m=>?_) λ_ z=>z);refine Am (λk e n=>?_) (p.of);cases r<;>try cases e
 exact⟨_,m,n u j⟩
def An.cut{S:AS}(r:An K H S ds vs)(lo hi:Option Int):An K H S (cutD ds lo hi) (bZ vs lo hi):=by unfold cutD bZ;rw[r.length];exact(r.drop _).take _
def S6{j:Ev->R (Option Int)}{Q:Option Int->Hp->Prop}(E:Az K c hs ρ σ H)
  (h:RQ (j ρ) (λb=>∀H',Af H H'->Az K c hs ρ σ H'->Q b H') (λe=>∀v H',Af H H'->Rep K H' (lvS c ρ σ H .any) e v->c.Ex e v H')):tDO K c j σ H Q:=
 ⟨hs,ρ,E,h.mono (λd q H' s=>q H' s (E.mono s)) λ_ q=>q⟩
end
variable {i:Nat}
variable {j:Nat}
section
variable {d:D}{v:V}
def By{o:Option D}(h:j≠i):live (ρ.set i o) j↔live ρ j:=by unfold live;rw[QJ (Ne.symm h)]
def ki1(hi:i∉c.O){o:Option D}{w:Option V}{a:BK}:owned c (ρ.set i o) (σ.set i w) a↔owned c ρ σ a:=by
 unfold owned;constructor
 ·rintro⟨j,k,m,e⟩;have h:j≠i:=λz=>hi (z ▸ k);rw[By h]at m;rw[QJ (Ne.symm h)]at e;exact⟨j,k,m,e⟩
 ·rintro⟨j,k,m,e⟩;have h:j≠i:=λz=>hi (z ▸ k);refine⟨j,k,(By h).mpr m,?_⟩;rw[QJ (Ne.symm h)];exact e
def V5(hi:i∉c.O){o:Option D}{w:Option V}:c.N (ρ.set i o) (σ.set i w)=c.N ρ σ:=by funext x;unfold DC.N;simp only[ki1 hi]
def Az.set(E:Az K c hs ρ σ H)(hi:i∉c.O)(r:Rep K H (c.N ρ σ) d v):Az K c hs (ρ.set i (some d)) (σ.set i (some v)) H where
 same:=E.same
 len:=by simp[E.len]
 own:=λj d' hj hd=>by have hne:j≠i:=λz=>hi (z ▸ hj);rw[QJ (Ne.symm hne)]at hd ⊢;rw[V5 hi];exact E.own j d' hj hd
 apart:=λj k a hj hk lj lk e1 e2=>by have hj':j≠i:=λz=>hi (z ▸ hj);have hk':k≠i:=λz=>hi (z ▸ hk);rw[QJ (Ne.symm hj')]at e1;rw[QJ (Ne.symm hk')]at e2;exact E.apart j k a hj hk ((By hj').mp lj) ((By hk').mp lk) e1 e2
 oth:=λj d' hj hd=>by
  rw[V5 hi];by_cases hne:j=i
  ·subst hne;by_cases hlt:j<ρ.length
   ·rw[Z1 hlt]at hd;cases hd;exact⟨v,by rw[Z1 (by rw[<-E.len];exact hlt)],r⟩
   ·rw[aX (by simpa using hlt)]at hd;cases hd
  ·rw[QJ (Ne.symm hne)]at hd ⊢;exact E.oth j d' hj hd
 held:=λp hp=>by rw[V5 hi];exact E.held p hp
 excl:=E.excl
theorem Az.setW{a:BK}{d:D}(E:Az K c hs ρ σ H)(hi:i∈c.O)(s:Af H H')(B:H a=none)(r:Dt K H' (AS.but (c.N ρ σ) a) d a):
  Az K c hs (ρ.set i (some d)) (σ.set i (some (.ref a))) H':=by
 have sub:∀o,AS.but (c.N ρ σ) a o->c.N (ρ.set i (some d)) (σ.set i (some (.ref a))) o:=λo ⟨⟨Y,U⟩,T⟩=>by
  refine⟨Y,λb I ⟨j,q,C,e⟩=>?_⟩
  by_cases m:j=i
  ·subst m
   rw[jHc]at e
   simp only[if_true]at e
   split at e
   ·cases e;exact T I
   ·cases e
  ·rw[QJ (Ne.symm m)]at e
   exact U b I ⟨j,q,(By m).mp C,e⟩
 have conv:∀{y v},Rep K H (c.N ρ σ) y v->Rep K H' (c.N (ρ.set i (some d)) (σ.set i (some (.ref a)))) y v:=λh=>(h.avoid B).mono s sub
 refine⟨E.same.trans s,by simp[E.len],λj y q u=>?_,λj k b q L C J F x=>?_,λj y q u=>?_,λP G=>⟨(E.held P G).1,(E.held P G).1.mono s sub ((E.held P G).1.avoid B (E.held P G).2)⟩,λb I z=>E.excl b I (s.free z)⟩
 ·by_cases m:j=i
  ·subst m
   by_cases A:j<ρ.length
   ·rw[Z1 A]at u
    cases u
    exact⟨a,by rw[Z1 (by rw[<-E.len];exact A)],⟨E.same.free B,λM=>E.excl a M B⟩,r.mono (Af.refl _) sub⟩
   ·rw[aX (by simpa using A)]at u
    cases u
  ·rw[QJ (Ne.symm m)]at u ⊢
   refine Gk (λb x e4 e5=>?_) (E.own j y q u)
   exact⟨b,x,e4,(e5.avoid B).mono s sub⟩
 ·have hold:∀j,j∈c.O->j≠i->live (ρ.set i (some d)) j->(σ.set i (some (.ref a)))[j]? = some (some (.ref b))->∃o,H b=some o:=λj q m C e=>by
   rw[QJ (Ne.symm m)]at e
   have⟨y,u⟩:=(By m).mp C
   refine Gk (λb' x _ e3=>?_) (E.own j y q u)
   rw[e]at x;cases x
   exact e3.has
  have self:∀j,j=i->(σ.set i (some (.ref a)))[j]? = some (some (.ref b))->b=a:=λj m e=>by
   subst m
   rw[jHc]at e
   simp only[if_true]at e
   split at e
   ·cases e;rfl
   ·cases e
  by_cases p:j=i
  ·by_cases n:k=i
   ·rw[p,n]
   ·have:=self j p F
    subst this
    have⟨ws,e⟩:=hold k L n J x
    rw[B]at e;cases e
  ·by_cases n:k=i
   ·have:=self k n x
    subst this
    have⟨ws,e⟩:=hold j q p C F
    rw[B]at e;cases e
   ·rw[QJ (Ne.symm p)]at F
    rw[QJ (Ne.symm n)]at x
    exact E.apart j k b q L ((By p).mp C) ((By n).mp J) F x
 ·have m:j≠i:=λz=>q (z ▸ hi)
  rw[QJ (Ne.symm m)]at u ⊢
  refine Am (λw F x=>?_) (E.oth j y q u)
  exact⟨w,F,conv x⟩
def Az.setO{a:BK}(E:Az K c hs ρ σ H)(hi:i∈c.O)(s:Af H H')(k:H a=none)(h:H' a=some (.lst vs))(r:An K H' (AS.but (c.N ρ σ) a) ds vs):
  Az K c hs (ρ.set i (some (.lst ds))) (σ.set i (some (.ref a))) H':=E.setW hi s k (.inl ⟨vs,ds,rfl,h,r⟩)
def Az.writeW{a:BK}{d d':D}(E:Az K c hs ρ σ H)(hi:i∈c.O)(G:ρ[i]? = some (some d))(n:σ[i]? = some (some (.ref a)))
  (conv:∀d v,Rep K H (c.N ρ σ) d v->Rep K (upd H a o') (c.N ρ σ) d v)(B:∀d b,b≠a->Dt K H (c.N ρ σ) d b->Dt K (upd H a o') (c.N ρ σ) d b)(A:∀P,eU P->P H (c.N ρ σ)->P (upd H a o') (c.N ρ σ))
  (r:Dt K (upd H a o') (c.N ρ σ) d' a):Az K c hs (ρ.set i (some d')) σ (upd H a o'):=by
 have U:owned c ρ σ a:=⟨i,hi,⟨_,G⟩,n⟩
 have F:i<ρ.length:=(QK.mp G).1
 have u:∀j,live (ρ.set i (some d')) j↔live ρ j:=λj=>by
  by_cases h:j=i
  ·subst h
   unfold live
   rw[Z1 F,G]
   exact⟨λ_=>⟨_,rfl⟩,λ_=>⟨_,rfl⟩⟩
  ·exact By h
 have eN:c.N (ρ.set i (some d')) σ=c.N ρ σ:=by
  funext x
  unfold DC.N owned
  simp only[u]
 have C:c.H0 a=none/\a∉c.Z:=by
  refine Gk (λb q M _=>?_) (E.own i _ hi G)
  rw[n]at q;cases q
  exact M
 refine⟨λb o e=>?_,by simp[E.len],λj d' y m=>?_,λj k b y hk lj Y T q=>?_,λj d' y m=>?_,λp J=>?_,λb I z=>?_⟩
 ·rw[Ad (Ay e C.1)]
  exact E.same b o e
 ·rw[eN]
  by_cases h:j=i
  ·subst h
   rw[Z1 F]at m
   cases m
   exact⟨a,n,C,r⟩
  ·rw[QJ (Ne.symm h)]at m
   refine Gk (λb q M e5=>?_) (E.own j d' y m)
   have I:b≠a:=λz=>h (E.apart j i a y hi ⟨_,m⟩ ⟨_,G⟩ (z ▸ q) n)
   exact⟨b,q,M,B _ _ I e5⟩
 ·exact E.apart j k b y hk ((u j).mp lj) ((u k).mp Y) T q
 ·rw[eN]
  have h:j≠i:=λz=>y (z ▸ hi)
  rw[QJ (Ne.symm h)]at m
  refine Am (λw T q=>?_) (E.oth j d' y m)
  exact⟨w,T,conv _ _ q⟩
 ·rw[eN]
  exact⟨(E.held p J).1,A p (E.held p J).1 (E.held p J).2⟩
 ·have L:b≠a:=λe=>C.2 (e ▸ I)
  rw[Ad L]at z
  exact E.excl b I z
def Az.notN{a:BK}{d:D}(E:Az K c hs ρ σ H)(hi:i∈c.O)(k:ρ[i]? = some (some d))(h:σ[i]? = some (some (.ref a))):¬ c.N ρ σ (some a):=λz=>z.2 a rfl ⟨i,hi,⟨_,k⟩,h⟩
def Az.write{a:BK}{es:List D}(E:Az K c hs ρ σ H)(hi:i∈c.O)(p:ρ[i]? = some (some (.lst ds)))(k:σ[i]? = some (some (.ref a)))(n:H a=some (.lst vs))(r:An K H (c.N ρ σ) es ws):
  Az K c hs (ρ.set i (some (.lst es))) σ (upd H a (.lst ws)):=by
 have m:=E.notN hi p k;exact E.writeW hi p k (λ_ _ h=>h.wr n m) (λ_ _ q h=>h.wr n m q) (λ_ st h=>st.wr n m h) (.inl ⟨ws,es,rfl,Ah,r.wr n m⟩)
def Az.writeD{a:BK}{d:D}{cc:BV}{fs:List D}(E:Az K c hs ρ σ H)(hi:i∈c.O)(q:ρ[i]? = some (some d))(k:σ[i]? = some (some (.ref a)))(p:H a=some o)(m:Yx o=true)(u:Vk (upd H a o') cc ks a ws)(r:An K H (c.N ρ σ) fs ws):
  Az K c hs (ρ.set i (some (.exc cc ks fs))) σ (upd H a o'):=by
 have n:=E.notN hi q k;exact E.writeW hi q k (λ_ _ h=>h.wrD p m n) (λ_ _ w h=>h.wrD p m n w) (λ_ st h=>st.wrD p m n h) (.inr ⟨ws,cc,ks,fs,rfl,u,r.wrD p m n⟩)
def Az.hold{P:Hd}(E:Az K c hs ρ σ H)(st:eU P)(h:P H (c.N ρ σ)):Az K c (P::hs) ρ σ H:=
 ⟨E.same,E.len,E.own,E.apart,E.oth,λx k=>(HY.mp k).elim (λe=>by subst e;exact⟨st,h⟩) (E.held x),E.excl⟩
def Az.unhold{P:Hd}(E:Az K c (P::hs) ρ σ H):Az K c hs ρ σ H:=
 ⟨E.same,E.len,E.own,E.apart,E.oth,λx h=>E.held x (JW _ h),E.excl⟩
end
def sq(g k:Ev->R Fl):Ev->R Fl:=λρ=>(g ρ).bind λm=>match m with
 | .nx h=>k h
 |o=>.ok o
def nop:Ev->R Fl:=λρ=>.ok (.nx ρ)
def asg(i:Nat)(f:Ev->R D):Ev->R Fl:=λρ=>(f ρ).bind λd=>.ok (.nx (ρ.set i (some d)))
def gA(f:Ev->R D):Ev->R Fl:=λρ=>(f ρ).bind λd=>.ok (.rt d)
def ifS(t:Ev->R Bool)(g1 h:Ev->R Fl):Ev->R Fl:=λρ=>(t ρ).bind λk=>if k then g1 ρ else h ρ
def drp(f:Ev->R D):Ev->R Fl:=λρ=>(f ρ).bind λ_=>.ok (.nx ρ)
def b7(i:Nat)(f:Ev->R D):Ev->R Fl:=λρ=>match ρ[i]? with
 |some (some (.lst ds))=>(f ρ).bind λd=>if ds.length<16777216 then .ok (.nx (ρ.set i (some (.lst (ds++[d]))))) else .bad
 |_=>.bad
variable {pos':JG}
section
variable {st:DR}{rest:List DR}{f:Ev->R D}{g h m:Ev->R Fl}{t:Ev->R Bool}
def Fo(E:Az K c hs ρ σ H){x:D}(h:Us K c x):∀v H',Af H H'->Rep K H' (lvS c ρ σ H .any) x v->c.Ex x v H':=
 λv H' s r=>h v H' (E.same.trans s) r
def sn:Vl X c [] nop:=PSs.imp wi7 λD σ H ⟨hs,ρ,E,q⟩=>q σ H E
def sc(u:PSd X c st h)(r:Vl X c rest m):Vl X c (st::rest) (sq h m):=PSs.imp (x_ u r) λD σ H q=>by
 revert q;refine Bm λhs ρ E q=>?_;refine⟨hs,ρ,E,(RQ.bind.mp q).mono (λw n=>?_) λ_ z=>z⟩;cases w with
 |nx k=>exact λp H' x=>⟨hs,k,x,n⟩
 |rt d=>exact n
 |bk k=>exact n
 |ct k=>exact n
def s1(k:PSd X c st h):Vl X c [st] h:=vV k
def Dk(i:Nat){x:BV}(nd:X.N.Nodup)(u:PEd X c .no e f)(hi:c.O.contains i=false:=by rfl)(w:X.N[i]? = some x:=by rfl)(p:Loc X.env.scope x:=by first |exact Or.inl rfl |exact Or.inr rfl)(hs:FJ e (some (.Name x pos')) pos.line X.env=pure false:=by rfl)
  (r:X.fn x=true\/X.env.scope.names.lookup x=some .local:=by first |exact .inl rfl |exact .inr rfl):PSd X c (.Assign [.Name x pos'] e pos) (asg i f):=PS.imp (oK (i:=i) nd w p u hs r) λD σ H q=>by
 revert q;refine Bm λhs ρ E q=>?_;refine Ba E ((RQ.bind.mp q).mono (λd n v y B A k=>?_) λx z=>Fo E z);exact n _ y (A.set (by simpa using hi) k)
theorem j6(i:Nat){x:BV}(nd:X.N.Nodup)(y:PEf X c .no e f)(hi:c.O.contains i=true:=by rfl)(A:X.N[i]? = some x:=by rfl)(n:Loc X.env.scope x:=by first |exact Or.inl rfl |exact Or.inr rfl)(hs:FJ e (some (.Name x pos')) pos.line X.env=pure false:=by rfl)
  (w:X.fn x=true\/X.env.scope.names.lookup x=some .local:=by first |exact .inl rfl |exact .inr rfl)(u:∀ρ d,f ρ=.ok d->∃ds,d=.lst ds:=by intros;first |exact v7 (by assumption) |exact wb4 (by assumption) |exact slL_lst (by assumption)):PSd X c (.Assign [.Name x pos'] e pos) (asg i f):=PS.imp (oK (i:=i) nd A n y hs w) λD σ H q=>by
 revert q;refine Bm λhs ρ E q=>?_;refine⟨hs,ρ,E,?_⟩;have q:=RQ.bind.mp q;cases k:f ρ with
 |ok d=>rw[k]at q;obtain⟨ds,rfl⟩:=u ρ d k;intro a vs C H' B s z p r;cases B;exact q _ H' (E.setO (by simpa using hi) s z p r)
 |exc x=>rw[k]at q;exact Fo E q
 |bad=>rw[k]at q;exact q
def Cj(p:PEd X c .any e f):PSd X c (.Return (some e) pos) (gA f):=PS.imp (ww6 p) λD σ H q=>by revert q;refine Bm λhs ρ E q=>?_;refine Ba E ((RQ.bind.mp q).mono (λd n v r w u k=>?_) λx z=>Fo E z);exact n v r u.same k
def if_{d:CN}{as bs:List DR}(r:PTd X c d t)(w:Vl X c as h)(u:Vl X c bs m):PSd X c (.If d as bs pos) (ifS t h m):=PS.imp (yh2 r w u) λD σ H q=>by
 revert q;refine Bm λhs ρ E q=>?_;refine Jz E ((RQ.bind.mp q).mono (λk n A y p=>?_) λx z=>Fo E z);cases k with
 |true=>rw[if_pos rfl]at n ⊢;exact⟨hs,ρ,p,n⟩
 |false=>rw[if_neg (by decide)]at n ⊢;exact⟨hs,ρ,p,n⟩
def ex_(n:PEd X c .any e f)(hs:FJ e none pos.line X.env=pure false:=by rfl):PSd X c (.Expr e pos) (drp f):=PS.imp (V1 n hs) λD σ H q=>by revert q;refine Bm λhs ρ E q=>?_;refine Ba E ((RQ.bind.mp q).mono (λd k v p u r w=>?_) λx z=>Fo E z);exact k σ p r
theorem jO(i:Nat){x:BV}{p apos k:JG}(Y:PEd X c .no e f)(hi:c.O.contains i=true:=by rfl)(hN:X.N[i]? = some x:=by rfl)(U:Vis X.env.scope x:=by first |exact Or.inl rfl |exact Or.inr (Or.inl rfl) |exact Or.inr (Or.inr rfl))(C:Zd x:=by decide)
  (J:(x == ("__classdict__" : BV))=false:=by decide)(w:GD (.Name x p) "append" X.env (CZ (.Name x p) X.env)=CZ (.Name x p) X.env:=by rfl)
  (A:((HQ k (BP [e] X.env)).all (λx=>!x.1) && (KQ k (G_ [] X.env)).all (λx=>x.1.isSome)
   && decide ([e].length+([]:List JB).length+(if([]:List JB).isEmpty then 0 else 1)<30))=true:=by rfl)
  (u:(apos.endLine == k.line)=true:=by rfl)(hs:BP [e] X.env=(false,CZ e X.env)::BP [] X.env:=by rfl)(n:Zp X.env k []:=by rfl)
  (I:FJ (.Call (.Attribute (.Name x p) "append" apos) [e] [] k) none pos.line X.env=pure false:=by rfl):
  PSd X c (.Expr (.Call (.Attribute (.Name x p) "append" apos) [e] [] k) pos) (b7 i f):=
 PS.imp (V1 (gM PySem.F.plainAttrs_list PySem.F.slot_list_append PySem.F.type_list_append Z3 (pv i hN U C J) (Df Y Ho hs) w A u hs n) I) λD σ H q=>by
 revert q;refine Bm λhs ρ E q=>?_;have y:i∈c.O:=by simpa using hi
 unfold b7 at q;split at q
 ·rename_i ds C;refine rP (λa vs aa e0 P L e3 r=>?_) (E.ownL i _ y C);cases e0;refine⟨.ref a,P,.inl ⟨rfl,vs,SqL.of L⟩,?_⟩;refine Ba E ((RQ.bind.mp q).mono (λd B v H1 G E1 T=>?_) λx z=>Fo E z);by_cases M:ds.length<16777216
  ·rw[if_pos M]at B;have l:=r.length;refine⟨a,vs,v,rfl,rfl,G _ _ L,by rw[CQ];omega,?_⟩;exact B σ _ (E1.write y C P (G _ _ L) ((r.mono G λ_ z=>z).append (.cons T An.nil)))
  ·rw[if_neg M]at B;exact B.elim
 ·exact q.elim
end
def tDG(K:B_)(c:DC)(g:D->Ev->R Ev):TG:=λv σ H Q=>∃hs ρ d,Az K c hs ρ σ H/\Rep K H (c.N ρ σ) d v/\RQ (g d ρ) (λk=>∀h,Az K c hs k h H->Q h H) (λ_=>False)
def yo9(K:B_)(c:DC)(g:List D->Ev->R Ev):TGs:=λvs σ H Q=>∃hs ρ ds,Az K c hs ρ σ H/\An K H (c.N ρ σ) ds vs/\RQ (g ds ρ) (λk=>∀h,Az K c hs k h H->Q h H) (λ_=>False)
abbrev PGd(X:Cx)(c:DC)(t:CN)(g:D->Ev->R Ev):Prop:=PG X t (tDG X.K c g)
abbrev jY(X:Cx)(c:DC)(ts:List CN)(g:List D->Ev->R Ev):Prop:=PGs X ts (yo9 X.K c g)
def PG.imp{t t':TG}(h:PG X e t)(i:∀v σ H Q,t' v σ H Q->t v σ H Q):PG X e t':=λpins s σ H v u Q I r q=>h pins s σ H v u Q I r (i v σ H Q q)
variable {Y:List Nat}
section
variable {f:Ev->R D}
def gN(i:Nat):D->Ev->R Ev:=λd ρ=>.ok (ρ.set i (some d))
def Eu:List Nat->List D->Ev->R Ev
 | [],[],ρ=>.ok ρ
 |i::Y,d::ds,ρ=>Eu Y ds (ρ.set i (some d))
 |_,_,_=>.bad
def gT(Y:List Nat):D->Ev->R Ev:=λd ρ=>match d with
 | .tup ds=>Eu Y ds ρ
 | .lst ds=>Eu Y ds ρ
 |_=>.bad
def tn(i:Nat){x:BV}(nd:X.N.Nodup)(hi:c.O.contains i=false:=by rfl)(m:X.N[i]? = some x:=by rfl)(h:Loc X.env.scope x:=by first |exact Or.inl rfl |exact Or.inr rfl)(k:X.fn x=true\/X.env.scope.names.lookup x=some .local:=by first |exact .inl rfl |exact .inr rfl):
  PGd X c (.Name x pos) (gN i):=PG.imp (vX nd m h k) λv σ H Q q=>by
 revert q;refine bW λhs ρ d E r q=>?_;exact q _ (E.set (by simpa using hi) r)
def tsn:jY X c [] (Eu []):=λpins s σ H vs h Q I r q=>by
 revert q;refine bW λhs ρ ds E k q=>?_;cases ds with
 |nil=>refine wi3 pins s σ H vs h Q I r ⟨k,q σ E⟩
 |cons d ds=>exact q.elim
def tsc(i:Nat){x:BV}{p:JG}(nd:X.N.Nodup)(F:jY X c es (Eu Y))(hi:c.O.contains i=false:=by rfl)(C:X.N[i]? = some x:=by rfl)(A:Loc X.env.scope x:=by first |exact Or.inl rfl |exact Or.inr rfl)(B:X.fn x=true\/X.env.scope.names.lookup x=some .local:=by first |exact .inl rfl |exact .inr rfl)
  (hs:(F_ (.Name x p::es) X.env).map (·.2)=WN (.Name x p) X.env::(F_ es X.env).map (·.2):=by rfl):jY X c (.Name x p::es) (Eu (i::Y)):=λpins s σ H vs u Q I r q=>by
 revert q;refine bW λn ρ ds E z q=>?_;cases ds with
 |nil=>exact q.elim
 |cons d ds =>
  revert z;refine Bo λv h m y w=>?_;obtain rfl:=m;refine kv0 (vX nd C A B) F hs pins s σ H _ u Q I r ⟨v,h,rfl,?_⟩;have k:i∉c.O:=by simpa using hi
  exact⟨n,_,ds,E.set k y,by rw[V5 k];exact w,q⟩
def yd6(K:B_)(n:Nat)(t:TGs):TG:=λv σ H Q=>∃a h,v=.ref a/\(SqT K H a h\/SqL K H a h)/\h.length=n/\t h σ H Q
def wi2{k:Nat}{t:TGs}{n:Nat}(C:X.calm=true)(h:PGs X es t)
  (A:(F_ es X.env).length=n:=by rfl)(m:(F_ es X.env).findIdx? (·.1)=none:=by rfl):PG X (.Tuple es k pos) (yd6 X.K n t):=by
 intro pins s σ H v u Q I r w;revert w;refine Vp λa y E q B w=>?_;rcases q with q |q
 ·exact ww2 C h A m pins s σ H v u Q I r ⟨a,y,E,q,B,w⟩
 subst E;cases r;refine Gk (λx z p L=>?_) (I.list q);rw[assign_Tuple];refine BX (HH ?_);unfold unpack;rw[show(F_ es X.env).length=x.toArray.size by simp[A,<-B,z.length],m];refine BX (CT (W.kun_itemsOf (I.ok.hd C) p.isList λG F=>?_));have J:Inv X pins σ H {s with heap:=G}:=I.kept (t':=s.toks) λb o e=>F b o (JV (GQ e)) e;exact h pins _ σ H y _ Q J (by simpa using z) w
def Uc{Q:Ev->Prop}{e:D->Prop}:∀(Y:List Nat)(ds:List D)(ρ:Ev)(q:RQ (Eu Y ds ρ) Q e),Y.length=ds.length
 | [],[],_,_=>rfl
 | [],_::_,_,q=>q.elim
 |_::_,[],_,q=>q.elim
 |i::Y,d::ds,ρ,q=>by have:Y.length=ds.length:=Uc Y ds _ q;simp[this]
def tT{k n:Nat}(A:X.calm=true)(h:jY X c es (Eu Y))(y:Y.length=n:=by rfl)(z:(F_ es X.env).length=n:=by rfl)(w:(F_ es X.env).findIdx? (·.1)=none:=by rfl):PGd X c (.Tuple es k pos) (gT Y):=
 PG.imp (wi2 (n:=n) A h z w) λv σ H Q q=>by
 revert q;refine bW λhs ρ d E r q=>?_;cases d with
 |tup ds=>revert r;refine Bo λa vs u x m=>?_;obtain rfl:=u;have:=Uc Y ds ρ q;exact⟨a,vs,rfl,.inl (TpR.sq x),by rw[<-m.length,<-this,y],hs,ρ,ds,E,m,q⟩
 |lst ds=>revert r;refine Bo λa vs p x m=>?_;obtain rfl:=p;have:=Uc Y ds ρ q;exact⟨a,vs,rfl,.inr x.sq,by rw[<-m.length,<-this,y],hs,ρ,ds,E,m,q⟩
 |_=>exact q.elim
def jN(g:D->Ev->R Ev)(f:Ev->R D):Ev->R Fl:=λρ=>(f ρ).bind λd=>(g d ρ).bind λh=>.ok (.nx h)
def RQ.noex{k:Type}{r:R k}{q:k->Prop}{e:D->Prop}(h:RQ r q e)(m:∀x,r≠.exc x):RQ r q Z:=by
 cases r with
 |ok a=>exact h
 |exc x=>exact absurd rfl (m x)
 |bad=>exact h
def zQ:∀(Y:List Nat)(ds:List D)(ρ:Ev)(x:D),Eu Y ds ρ≠.exc x
 | [],[],_,_=>by simp[Eu]
 |i::Y,d::ds,ρ,x=>by rw[Eu];exact zQ Y ds _ x
 | [],_::_,_,_=>by simp[Eu]
 |_::_,[],_,_=>by simp[Eu]
def uO(Y:List Nat):∀(d:D)(ρ:Ev)(x:D),gT Y d ρ≠.exc x:=λd ρ x=>by
 cases d<;>simp[gT]
 all_goals exact zQ Y _ ρ x
def uP(i:Nat):∀(d:D)(ρ:Ev)(x:D),gN i d ρ≠.exc x:=λd ρ x=>by simp[gN]
def j5{h:CN}{g:D->Ev->R Ev}(y:PGd X c h g)(A:PEd X c .no e f)(w:∀d ρ x,g d ρ≠.exc x:=by first |exact uO _ |exact uP _)(hs:swapsWithSole [h] e pos.line X.env=pure false:=by rfl)(u:swappedStores [h] e X.env=pure none:=by rfl)
  (B:(F_ [h] X.env).map (·.2)=[WN h X.env]:=by rfl):PSd X c (.Assign [h] e pos) (jN g f):=PS.imp (ww4 A y hs u B) λD σ H q=>by
 revert q;refine Bm λhs ρ E q=>?_;refine Ba E ((RQ.bind.mp q).mono (λd r v C I F n=>?_) λx z=>Fo E z);exact⟨hs,ρ,d,F,n,((RQ.bind.mp r).mono (λm p k G=>p k C G) λ_ z=>z).noex (w d ρ)⟩
end
structure ItD(K:B_)(J:It)(ds:List D)(P:Hd):Prop where
 stab:eU P
 go:∀(i:Nat)(H:Hp)(S:AS),i<ds.length->P H S->J.go i H
 yld:∀(i:Nat)(H:Hp)(S:AS)(x:V)(H':Hp),P H S->J.yld i H x H'->Af H H'/\∀d,ds[i]? = some d->Rep K H' S d x
 stop:∀(i:Nat)(H:Hp)(S:AS),ds.length<=i->P H S->J.stop i H
def tDI(K:B_)(c:DC)(l:Lv)(f:Ev->R (List D)):TI:=λσ H Q=>∃hs ρ,Az K c hs ρ σ H/\RQ (f ρ) (λds=>∀J P H',Af H H'->ItD K J ds P->P H' (lvS c ρ σ H l)->Q J H') (λe=>∀v H',Af H H'->Rep K H' (lvS c ρ σ H .any) e v->c.Ex e v H')
abbrev PId(X:Cx)(c:DC)(l:Lv)(h e:CN)(f:Ev->R (List D)):Prop:=PI X h e (tDI X.K c l f)
def PI.imp{k:CN}{t t':TI}(h:PI X k e t)(i:∀σ H Q,t' σ H Q->t σ H Q):PI X k e t':=λpins s σ H Q I q=>h pins s σ H Q I (i σ H Q q)
def J3:D->Option (List D)
 | .lst ds=>some ds
 | .tup ds=>some ds
 |_=>none
def itS(f:Ev->R D):Ev->R (List D):=λρ=>(f ρ).bind λd=>R.of (J3 d)
def Ol:List D->Option (List D)
 | [.int j]=>if -(2 ^ 62)<=j/\j<2 ^ 62 then some ((List.range j.toNat).map λ(k:Nat)=>.int (0+(k:Int))) else none
 |_=>none
def itR(h:List D->Option (List D))(fs:Ev->R (List D)):Ev->R (List D):=λρ=>(fs ρ).bind λk=>R.of (h k)
variable {tg:CN}
variable {lo:Int}
section
variable {f:Ev->R D}{fs:Ev->R (List D)}
def ym5(K:B_)(m:TE):TI:=λσ H R=>m σ H λx h=>∃a,x=.ref a/\(((∃k,SqL K h a k)/\R (Itl K a) h)\/((∃k,SqT K h a k)/\R (Itt K a) h))
def ww3{z:TE}(G:PE X e z):PI X tg e (ym5 X.K z):=by
 intro pins s σ H R I h;refine thG (G pins s σ H _ I h) λv k x A m E r=>?_;revert r;refine Am λa u r=>?_;obtain rfl:=u;cases E;rcases r with ⟨⟨B,w⟩,q⟩ | ⟨⟨B,w⟩,q⟩
 ·refine Gk (λn C p F=>?_) (m.list w);refine JM p.isList ?_;refine⟨k.heap.objs.size,[k.heap.objs.size],_,_,A,rfl,m.kept (t':=k.toks) λb o e=>HF _ e,kj9 a _,⟨_,L_ _ rfl,rfl,rfl⟩,λb y=>?_,q⟩;have e:b=k.heap.objs.size:=by simpa using y
  subst e;exact m.fpOk (FW _) (m.hok.fresh (FW _))
 ·refine Gk (λn C p F=>?_) (m.tuple w);refine bC (show k.heap.IsTuple a n.toArray from p) ?_;refine⟨k.heap.objs.size,[k.heap.objs.size],_,_,A,rfl,m.kept (t':=k.toks) λb o e=>HF _ e,ju8 a _,⟨_,L_ _ rfl,rfl,rfl⟩,λb y=>?_,q⟩;have e:b=k.heap.objs.size:=by simpa using y
  subst e;exact m.fpOk (FW _) (m.hok.fresh (FW _))
def xQ{a:BK}:eU λH S=>LsR K H S a vs/\An K H S ds vs:=
 ⟨λs q h=>⟨h.1.same s q,h.2.mono s q⟩,λm k h=>⟨h.1.wr m k,h.2.wr m k⟩,λm p k h=>⟨h.1.wrD m (Xh p) k,h.2.wrD m p k⟩,λn h=>⟨h.1.avoid n,h.2.avoid n⟩⟩
def xP{a:BK}:eU λH S=>SqT K H a vs/\An K H S ds vs:=
 ⟨λs q h=>⟨Af.sqT s h.1,h.2.mono s q⟩,λk n h=>⟨wy3 k h.1,h.2.wr k n⟩,λk m n h=>⟨wl6 k (Xi m) (kq7 m) h.1,h.2.wrD k m n⟩,λp h=>⟨h.1,h.2.avoid p⟩⟩
def we7{a:BK}:ItD K (Itl K a) ds λH S=>LsR K H S a vs/\An K H S ds vs where
 stab:=xQ
 go:=λi H S hi h=>by refine Am (λv hv _=>?_) (h.2.get (GJ hi));exact⟨vs,v,h.1.sq,hv⟩
 yld:=λi H S x H' h y=>by obtain⟨rfl,y⟩:=y;refine⟨Af.refl _,λd hd=>?_⟩;refine Am (λv hv rv=>?_) (h.2.get hd);have:=y vs h.1.sq;rw[hv]at this;cases this;exact rv
 stop:=λi H S hi h=>⟨vs,h.1.sq,by rw[<-h.2.length];exact hi⟩
def we9{a:BK}:ItD K (Itt K a) ds λH S=>SqT K H a vs/\An K H S ds vs where
 stab:=xP
 go:=λi H S hi h=>by refine Am (λv hv _=>?_) (h.2.get (GJ hi));exact⟨vs,v,h.1,hv⟩
 yld:=λi H S x H' h y=>by obtain⟨rfl,y⟩:=y;refine⟨Af.refl _,λd hd=>?_⟩;refine Am (λv hv rv=>?_) (h.2.get hd);have:=y vs h.1;rw[hv]at this;cases this;exact rv
 stop:=λi H S hi h=>⟨vs,h.1,by rw[<-h.2.length];exact hi⟩
def we8{n:Nat}:ItD K (Itr lo n) ((List.range n).map λ(k:Nat)=>.int (lo+(k:Int))) λ_ _=>True where
 stab:=⟨λ_ _ h=>h,λ_ _ h=>h,λ_ _ _ h=>h,λ_ h=>h⟩
 go:=λi H S hi _=>by
  have this:i<n:=by simpa using hi
  exact this
 yld:=λi H S x H' _ y=>by
  obtain⟨rfl,rfl⟩:=y;refine⟨Af.refl _,λd hd=>?_⟩;rw[QX]at hd;cases e:(List.range n)[i]? with
  |none=>rw[e]at hd;cases hd
  |some k=>rw[e]at hd;cases hd;have⟨h1,h2⟩:=QK.mp e;simp at h2;subst h2;rfl
 stop:=λi H S hi _=>by
  have this:n<=i:=by simpa using hi
  exact this
def J2(A:PEd X c l e f):PId X c l tg e (itS f):=PI.imp (ww3 A) λσ H Q q=>by
 revert q;refine Bm λhs ρ E q=>?_;refine Ba E ((RQ.bind.mp q).mono (λd y v x r B u=>?_) λ_ z=>z);refine Am (λds e w=>?_) (y.of);cases d with
 |lst p=>cases e;revert u;refine Bo λa vs k m n=>?_;obtain rfl:=k;exact⟨a,rfl,.inl ⟨⟨vs,m.sq⟩,w _ _ x r we7 ⟨m,n⟩⟩⟩
 |tup p=>cases e;revert u;refine Bo λa vs h m n=>?_;obtain rfl:=h;exact⟨a,rfl,.inr ⟨⟨vs,(TpR.sq m)⟩,w _ _ x r we9 ⟨(TpR.sq m),n⟩⟩⟩
 |_=>cases e
def U5{p:JG}(F:X.mg "range" = none)(G:PAd X c l [a] fs)(m:Gl X "range":=by rfl)(k:BP [a] X.env=[(false,CZ a X.env)]:=by rfl):PId X c l tg (.Call (.Name "range" p) [a] [] p2) (itR Ol fs):=
 PI.imp (ki2 m F G k) λσ H Q q=>by
 revert q;refine Bm λhs ρ E q=>?_;refine Ce E ((RQ.bind.mp q).mono (λds B vs I u J y C=>?_) λ_ z=>z);refine Am (λes e A=>?_) (B.of);obtain⟨r,rfl⟩:=inv1 e rfl (λx _ _=>by cases x<;>rfl);cases r with
 |int j=>obtain⟨n,rfl⟩:=Bb e;refine Am (λv h w=>?_) (y.one);obtain rfl:=h;cases(show v=.int j from w);exact⟨j,rfl,n.1,n.2,A _ _ I u we8 trivial⟩
 |_=>exact nos e
end
def Kh:List D->(D->Ev->R Ev)->(Ev->R Fl)->Ev->R Fl
 | [],_,_,ρ=>.ok (.nx ρ)
 |d::ds,g,b,ρ=>(g d ρ).bind λk=>(b k).bind λm=>match m with
  | .nx h=>Kh ds g b h
  | .ct h=>Kh ds g b h
  | .bk h=>.ok (.nx h)
  | .rt d=>.ok (.rt d)
def m_(f:Ev->R (List D))(g:D->Ev->R Ev)(b:Ev->R Fl):Ev->R Fl:=λρ=>(f ρ).bind λds=>Kh ds g b ρ
section
variable {f:Ev->R (List D)}{g:D->Ev->R Ev}{b:Ev->R Fl}{h:List DR}
theorem for_(hp:PassesOwn (BR X.prog X.w) X.A X.env X.xe)(hc:X.calm=true)(hg:PGd X c tg g)(he:PId X c .no tg e f)(hb:Vl X c h b)(hn:∀d ρ x,g d ρ≠.exc x:=by first |exact uO _ |exact uP _)
  (hs:∀x,FP e X.env x=pure x:=by intro _;rfl):PSd X c (.For tg e h [] pos) (m_ f g b):=PS.imp (ww5 hp hc he hg hb hs) λD0 σ H q=>by
 revert q;refine Bm λhs ρ E q=>?_;refine⟨hs,ρ,E,(RQ.bind.mp q).mono (λds q1 J P H1 s1 T p1=>?_) λx z=>Fo E z⟩;have E1:=(E.mono s1).hold T.stab p1;refine⟨λi m σ H=>m=ds.length - i/\i<=ds.length/\∃ρ,Az X.K c (P::hs) ρ σ H/\RQ (Kh (ds.drop i) g b ρ) (Fl.ends X.K c hs D0) (Us X.K c),⟨ds.length,by simp,U_ _,ρ,E1,q1⟩,?_⟩;rintro i m I G ⟨rfl,hi,B,U,F⟩;have p2:=(U.held P LK).2;by_cases r:i<ds.length
 ·refine .inr ⟨T.go i G _ r p2,λk H'=>∃p,Az X.K c (P::hs) p k H'/\RQ (Kh (ds.drop (i+1)) g b p) (Fl.ends X.K c hs D0) (Us X.K c),λk H' ⟨p,u,q'⟩=>⟨ds.length - (i+1),by omega,rfl,r,p,u,q'⟩,λx H' y=>?_⟩;have⟨s3,M⟩:=T.yld i G _ x H' p2 y;have M:=M ds[i] (GJ r);rw[cG r,Kh]at F;refine⟨P::hs,B,ds[i],U.mono s3,M,((RQ.bind.mp F).mono (λL q3 aa E3=>?_) λ_ z=>z).noex (hn ds[i] B)⟩;refine⟨P::hs,L,E3,(RQ.bind.mp q3).mono (λfl C=>?_) λ_ z=>z⟩;cases fl with
  |nx n=>exact λk H' u=>⟨n,u,C⟩
  |ct n=>exact λk H' u=>⟨n,u,C⟩
  |bk n=>exact λk H' u=>C k H' u.unhold
  |rt d=>exact C
 ·have O:i=ds.length:=by omega
  subst O;rw[cF (FW _)]at F;exact .inl ⟨T.stop _ G _ (FW _) p2,F I G U.unhold⟩
end
def bV:R Fl->R D
 | .ok (.rt d)=>.ok d
 | .ok (.nx _)=>.ok .non
 | .ok _=>.bad
 | .exc e=>.exc e
 | .bad=>.bad
def Ag(n:Nat)(ds:List D):Ev:=ds.map some++List.replicate (n - ds.length) none
def Ci(n:Nat)(g:Ev->R Fl)(ds:List D):R D:=bV (g (Ag n ds))
def sp0(K:B_)(n:Nat)(m:List D->R D):Sp:=λvs H Q _=>vs.length=n/\∃S ds,An K H S ds vs/\RQ (m ds) (λr=>∀v H',Af H H'->Rep K H' (AS.plus S H) r v->Q v H') (λ_=>False)
def R.nox{h:Type}:R h->R h
 | .ok a=>.ok a
 |_=>.bad
@[simp] def R.nox_ok{h:Type}(a:h):(R.ok a).nox=.ok a:=nr rfl
def G5:D->V->Hp->Prop:=λ_ _ _=>False
variable {w:CV}
section
variable {P:BZ}{mg:BV->Option A_}{base:CP}
theorem Tq{S:AS}{O:List Nat}{F:D->V->Hp->Prop}{N:List BV}(r:An K H S ds vs)(C:∀i∈O,vs.length<=i):Az K ⟨H,S,O,F,[]⟩ [] (Ag N.length ds) (L2.start N vs) H:=by
 have y:=r.length;have get:∀(i:Nat)(d:D),(Ag N.length ds)[i]? = some (some d)->ds[i]? = some d:=λi d h=>by
  unfold Ag at h;by_cases k:i<ds.length
  ·rw[ZK (by simpa using k),QX]at h;cases e:ds[i]? with
   |none=>rw[e]at h;cases h
   |some a=>rw[e]at h;cases h;rfl
  ·rw[YF (by simpa using k),mK]at h;split at h<;>cases h
 have m:∀i,i∈O->¬ live (Ag N.length ds) i:=λi k ⟨d,n⟩=>by have E:=get i d n;have I:=(QK.mp E).1;have G:=C i k;lia
 refine⟨Af.refl _,by simp[Ag,L2.start,y],λi d k n=>absurd ⟨d,n⟩ (m i k),λi j a k _ u=>absurd u (m i k),λi d k n=>?_,(λP x=>by cases x),(λa B=>by cases B)⟩;refine Am (λv e p=>?_) (r.get (get i d n));refine⟨v,?_,p.mono (Af.refl _) λo z=>⟨.inl z,λa _ ⟨j,A,q,_⟩=>m j A q⟩⟩;unfold L2.start;have k:i<vs.length:=(QK.mp e).1;rw[ZK (by simpa using k),QX,e];rfl
theorem Ef{x qual:BV}{f:BK}{B:DQ}{N ps:List BV}{k:Nat}{O:List Nat}{g:Ev->R Fl}(F:Fun K x qual st f B)(S:Ez N ps (Av st))(J:O.all (λi=>decide (ps.length<=i))=true)
  (p:∀(m:A_)(A:DK)(outer:List JT)(s:BJ)(H:Hp)(E:XK)(u:AS),El k (A.deeper (envOfC qual (Av st) s.heap.objs.size f m))->(A.deeper (envOfC qual (Av st) s.heap.objs.size f m)).units+70<HX ->
   Vl (Vn CX0 P w K mg base N qual (Av st) f m A outer s H E).nox ⟨H,u,O,G5,[]⟩ (Cp st) g):
  Hh P w K mg base CX0 (k+1) f B ps (sp0 K ps.length (Ci N.length g)):=by
 refine F.ok S (λvs H Q E h=>h.1) (λm A outer s H vs Q E y h=>?_);obtain⟨G,u,ds,r,q⟩:=h;refine⟨_,p m A outer s H E u y (by have:=y.un;lia),[],Ag N.length ds,Tq r (λi I=>?_),?_⟩
 ·have:=RJ.mp J i I;rw[G];exact of_decide_eq_true this
 ·have n:RQ (bV (g (Ag N.length ds))) _ _:=q;cases e:g (Ag N.length ds) with
  |ok L =>
   rw[e]at n;cases L with
   |nx ρ=>exact λC H' U=>n .non H' U.same rfl
   |rt d=>exact λv H' s r=>n v H' s (r.mono (Af.refl _) λo z=>z.elim .inl λ⟨a,T,M,_⟩=>.inr ⟨a,T,M⟩)
   |bk ρ=>exact n.elim
   |ct ρ=>exact n.elim
  |exc x=>rw[e]at n;exact n.elim
  |bad=>rw[e]at n;exact n.elim
end
variable {k n:Nat}{p:JG}{x:BV}
section
variable {fs:Ev->R (List D)}{f:BK}{fd:DQ}{ps:List BV}{m:List D->R D}
def cl(fs:Ev->R (List D))(m:List D->R D):Ev->R D:=λρ=>(fs ρ).bind λds=>(m ds).nox
def yb1(F:Hh X.prog X.w X.K X.mg X.base CX0 k f fd ps (sp0 X.K n m))(J:El k X.A)(O:X.mg x=some (.ref f))(T:W.keepIn X.K (.ref f)=true)(hb:Binds X.K fd ps [])(ha:PAd X c l (e::es) fs)(M:(e::es).length=n:=by rfl)(L:ps.length=n:=by rfl)(U:Gl X x:=by rfl)
  (y:Zd x:=by decide)(he:Zs X.env e es:=by rfl)(u:Zp X.env pos es:=by rfl):
  PEd X c l (.Call (.Name x p) (e::es) [] pos) (cl fs m):=PE.imp (pG F J U O T hb .nil sV ha y he u) λσ H Q q=>by
 revert q;refine Bm λhs ρ E q=>?_;refine Ce E ((RQ.bind.mp q).mono (λds h vs H1 B E1 C P=>?_) λ_ z=>z);rw[WW];cases r:m ds with
 |ok d =>
  rw[r]at h;refine⟨?_,lvS c ρ σ H l,ds,C,?_⟩
  ·rw[<-C.length,P,M]
  ·rw[r];exact λv H' G I=>h v H' (B.trans G) (I.mono (Af.refl _) λ_ z=>Kl E B z)
 |exc x=>rw[r]at h;exact h.elim
 |bad=>rw[r]at h;exact h.elim
end
def aK(env:JT):List (BV×GF)->List (BV×BK)->List (BV×BK)
 | [],h=>h
 | (n,k)::r,h=>aK env r (if k == .free then(match env.cells.lookup n with |some a=>(n,a)::h |none=>h) else h)
def Nj(h:HR)(env:JT):List (BV×BK):=aK env h.names []
def Yv{m:HR}{env:JT}(h:∀x∈m.names,x.2=.free->∃a,env.cells.lookup x.1=some a):WM m env=pure (Nj m env):=by
 have key:∀(l:List (BV×GF))(cs:List (BV×BK)),(∀x∈l,x.2=.free->∃a,env.cells.lookup x.1=some a) ->
   (forIn l cs λ(x:BV×GF)(r:List (BV×BK))=>if x.2 == .free then(do let a <-mV env x.1;pure (ForInStep.yield ((x.1,a)::r))) else pure (ForInStep.yield r))=(pure (aK env l cs):Sem _):=by
  intro l;induction l with
  |nil=>intro cs _;rfl
  |cons y r z =>
   obtain⟨n,k⟩:=y;intro cs u;rw[zY];by_cases A:k=.free
   ·subst A;have⟨a,B⟩:=u (n,.free) LK rfl;have E:mV env n=pure a:=by unfold mV;rw[B]
    simp only[beq_self_eq_true,if_true,E,aK,B];exact z _ λx q=>u x (JW _ q)
   ·have C:(k == NameKind.free)=false:=by simpa using A
    simp only[C,WK,if_false,aK];exact z _ λx q=>u x (JW _ q)
 have e:WM m env=((forIn m.names [] λ(x:BV×GF)(r:List (BV×BK))=>if x.2 == .free then(do let a <-mV env x.1;pure (ForInStep.yield ((x.1,a)::r))) else pure (ForInStep.yield r)) >>= λcs=>pure cs):=rfl;rw[e,key m.names [] h];rfl
theorem oZ{env:JT}{x:BV}{a:BK}:∀{l:List (BV×GF)}{cs:List (BV×BK)},(x,a)∈aK env l cs->env.cells.lookup x=some a\/(x,a)∈cs
 | [],_,h=>.inr h
 | (n,k)::r,cs,h=>by
  rw[aK]at h;rcases oZ h with h |h
  ·exact .inl h
  ·split at h
   ·split at h
    ·rename_i b m;rcases HY.mp h with e |h
     ·cases e;exact .inl m
     ·exact .inr h
    ·exact .inr h
   ·exact .inr h
theorem G7{env:JT}{x:BV}{a:BK}(m:env.cells.lookup x=some a):∀{l:List (BV×GF)}{cs:List (BV×BK)},((x,NameKind.free)∈l\/cs.lookup x=some a)->(aK env l cs).lookup x=some a
 | [],_,h=>by
  rcases h with h |h
  ·cases h
  ·exact h
 | (n,k)::r,cs,h=>by
  rw[aK];by_cases q:x=n
  ·subst q;by_cases u:k=.free
   ·subst u;refine G7 m (.inr ?_);simp[m]
   ·have y:(k == NameKind.free)=false:=by simpa using u
    rw[y];refine G7 m ?_;rcases h with h |h
    ·rcases HY.mp h with e |h
     ·cases e;exact absurd rfl u
     ·exact .inl h
    ·exact .inr h
  ·refine G7 m ?_;have y:(x == n)=false:=by simpa using q
   rcases h with h |h
   ·rcases HY.mp h with e |h
    ·cases e;exact absurd rfl q
    ·exact .inl h
   ·refine .inr ?_;split
    ·split
     ·rw[aW,y];exact h
     ·exact h
    ·exact h
theorem pA{x:BV}{a:BK}:∀{l:List (BV×GF)}{n:Nat}{acc:List (BV×BK)},(x,a)∈EY n l acc->n<=a\/(x,a)∈acc
 | [],_,_,h=>.inr h
 | (y,k)::r,n,acc,h=>by
  unfold EY at h;split at h
  ·rcases pA h with h |h
   ·exact .inl (by lia)
   ·rcases HY.mp h with e |h
    ·cases e;exact .inl (FW _)
    ·exact .inr h
  ·exact pA h
def pB{x y:BV}{a:BK}:∀{l:List (BV×GF)}{n:Nat}{acc:List (BV×BK)},(∀x y a,(x,a)∈acc->(y,a)∈acc->x=y)->(∀y∈acc,y.2<n)->(x,a)∈EY n l acc->(y,a)∈EY n l acc->x=y
 | [],_,_,h,_,A,m=>h _ _ _ A m
 | (z,k)::r,n,acc,h,B,A,m=>by
  unfold EY at A m;by_cases E:(k == NameKind.cell)=true
  ·rw[if_pos E]at A m;refine pB (λu w b p q=>?_) (λy C=>?_) A m
   ·rcases HY.mp p with e |p<;>rcases HY.mp q with Z |q
    ·cases e;cases Z;rfl
    ·cases e;exact absurd (B _ q) (T_ _)
    ·cases Z;exact absurd (B _ p) (T_ _)
    ·exact h u w b p q
   ·rcases HY.mp C with e |C
    ·cases e;exact dH _
    ·exact ZX (B y C)
  ·rw[if_neg E]at A m;exact pB h B A m
def o_{x:BV}{a:BK}{lo:Nat}:∀{l:List (BV×GF)}{n:Nat}{acc:List (BV×BK)},lo<=n->(l.lookup x=some .cell\/∀a,acc.lookup x=some a->lo<=a)->(EY n l acc).lookup x=some a->lo<=a
 | [],_,_,_,h,e=>by
  rcases h with h |h
  ·cases h
  ·exact h a e
 | (z,k)::r,n,acc,u,h,e=>by
  unfold EY at e;by_cases y:(k == NameKind.cell)=true
  ·rw[if_pos y]at e;refine o_ (jHd u) ?_ e;cases m:x == z with
   |true=>refine .inr λb q=>?_;rw[aW,m]at q;cases q;exact u
   |false =>
    rcases h with h |h
    ·rw[aW,m]at h;exact .inl h
    ·refine .inr λb q=>?_;rw[aW,m]at q;exact h b q
  ·rw[if_neg y]at e;refine o_ u ?_ e;rcases h with h |h
   ·cases m:x == z with
    |true=>rw[aW,m]at h;cases h;exact absurd rfl y
    |false=>rw[aW,m]at h;exact .inl h
   ·exact .inr h
def Wt{x:BV}:∀{l:List (BV×GF)}{n:Nat}{acc:List (BV×BK)},(x,NameKind.cell)∉l->(EY n l acc).lookup x=acc.lookup x
 | [],_,_,_=>rfl
 | (z,k)::r,n,acc,h=>by
  unfold EY;by_cases m:(k == NameKind.cell)=true
  ·rw[if_pos m,Wt λq=>h (JW _ q),aW];have u:(x == z)=false:=by
    cases y:x == z with
    |false=>rfl
    |true =>
     have B:x=z:=by simpa using y
     have A:k=.cell:=by simpa using m
     subst B;subst A;exact absurd LK h
   rw[u]
  ·rw[if_neg m];exact Wt λq=>h (JW _ q)
def pU{x:BV}{a:BK}:∀{l:List (BV×GF)}{h:CP}{acc:List (BV×BK)},(x,a)∈EY h.objs.size l acc->(x,a)∈acc\/(QV h l).IsCell a none
 | [],_,_,q=>.inl q
 | (z,k)::r,h,acc,q=>by
  unfold EY at q;unfold QV;by_cases m:(k == NameKind.cell)=true
  ·rw[if_pos m]at q ⊢;have u:(x,a)∈EY (h.push {cls:=.type "cell",data:=.cell none}).objs.size r ((z,h.objs.size)::acc):=by rw[V_];exact q
   rcases pU u with q |q
   ·rcases HY.mp q with e |q
    ·cases e;exact .inr ⟨_,QB r _ _ _ (L_ _ rfl),rfl⟩
    ·exact .inl q
   ·exact .inr q
  ·rw[if_neg m]at q ⊢;exact pU q
def Mq{m:HR}{env:JT}:∀{k:GF},(RM m env).names.lookup x=some k->(m.names.lookup x=some k)\/(k=.cell/\m.names.lookup x=some .free):=by
 intro k h;have key:∀l:List (BV×GF),(l.map λ(n,k)=>if(k == NameKind.free && env.scope.kind == .function && env.kindOf n == some .cell) then(n,NameKind.cell) else(n,k)).lookup x=some k->(l.lookup x=some k)\/(k=.cell/\l.lookup x=some .free):=by
  intro l;induction l with
  |nil=>intro h;cases h
  |cons y r A =>
   obtain⟨n,u⟩:=y;intro h;have h:List.lookup x ((if(u == NameKind.free && env.scope.kind == .function && env.kindOf n == some .cell)=true then(n,NameKind.cell) else(n,u))::(r.map λ(n,k)=>if(k == NameKind.free && env.scope.kind == .function && env.kindOf n == some .cell) then(n,NameKind.cell) else(n,k)))=some k:=h;by_cases z:(u == NameKind.free && env.scope.kind == .function && env.kindOf n == some .cell)=true
   ·rw[if_pos z]at h;rw[aW]at h ⊢;cases q:x == n with
    |true =>
     rw[q]at h;cases h;have:u=.free:=by simp only[QH,beq_iff_eq]at z;exact z.1.1
     exact .inr ⟨rfl,by rw[this]⟩
    |false=>rw[q]at h;exact A h
   ·rw[if_neg z]at h;rw[aW]at h ⊢;cases q:x == n with
    |true=>rw[q]at h;exact .inl h
    |false=>rw[q]at h;exact A h
 exact key m.names h
def rH(scope:HR)(C:BK)(env:JT):JT:={scope:=RM scope env,locals:=C,globals:=env.globals,cells:=EY (C+1) scope.names (Nj scope env),qual:=env.qual,func:=none,code:=env.code,frame:=env.frame,builtins:=env.builtins}
def cxB(X:Cx)(N:List BV)(h:HR)(C:BK)(s:BJ)(H:Hp)(ex:List BK):Cx:=
 {X with N:=N,s₀:=s,H₀:=H,env:=rH h C X.env,outer:=X.stack,ex:=ex,fn:=λx=>h.names.lookup x == some .cell,pn:=[],xe:=λ_ _=>False}
variable {A:DK}{M:KR}{E:A_->BJ->Prop}
def wg8{h:HR}{env:JT}{cl:List (BV×BK)}{Q:JT->BJ->Prop}
  (q:Q (newEnv h s.heap.objs.size env.globals (EY (s.heap.objs.size+1) h.names cl) env.qual none .none (some env) KD) {s with heap:=QV (s.heap.push {cls:=.type "dict",data:=.dict #[] }) h.names}):
  BL M A (jT h env.globals cl [] env.qual none .none (some env)) Q E s:=by
 simp only[jT,jGv,if_true];refine BX (ZM ?_);refine BX (wpAny_layCells _ (λname kind cells=>by cases m:kind == NameKind.cell<;>simp[m]) _ _ _ _ ?_);rw[show({s with heap:=s.heap.push {cls:=.type "dict",data:=.dict #[] } }:BJ).heap.objs.size=s.heap.objs.size+1 from V_ ..];exact BX (CW (CW q))
structure Fy(X:Cx)(scope:HR)(T:List BV)(caps:List Nat):Prop where
 kind:scope.kind=.function
 free:∀x∈scope.names,x.2=.free->X.env.kindOf x.1=some .cell\/X.env.kindOf x.1=some .free
 names:∀x∈scope.names,x.2=.local->scope.names.lookup x.1=some .local
 cap:∀j∈caps,∃x,X.N[j]? = some x/\scope.names.lookup x=some .free/\(x,NameKind.cell)∉scope.names/\(X.env.kindOf x=some .cell\/X.env.kindOf x=some .free)
def Lw(sc osc:HR)(N:List BV)(caps:List Nat):Bool:=
 (sc.kind == .function) && sc.names.all (λx=>x.2 != .free || (osc.names.lookup x.1 == some .cell ||osc.names.lookup x.1 == some .free)) && sc.names.all (λx=>x.2 != .local ||sc.names.lookup x.1 == some .local)
  && caps.all (λj=>match N[j]? with
   |some x=>sc.names.lookup x == some .free && !(sc.names.any λy=>y.1 == x && y.2 == .cell) && (osc.names.lookup x == some .cell ||osc.names.lookup x == some .free)
   |none=>false)
def Fy.of{m:HR}{T:List BV}{caps:List Nat}(h:Lw m X.env.scope X.N caps=true):Fy X m T caps:=by
 simp only[Lw,QH,RJ,ZW,beq_iff_eq,bne_iff_ne]at h;obtain⟨⟨⟨L,J⟩,I⟩,G⟩:=h;refine⟨L,λx q r=>?_,λx q r=>?_,λj F=>?_⟩
 ·rcases J x q with z |z
  ·exact absurd r z
  ·exact z
 ·rcases I x q with z |z
  ·exact absurd r z
  ·exact z
 ·have:=G j F;cases e:X.N[j]? with
  |none=>rw[e]at this;cases this
  |some x=>rw[e]at this;simp only[QH,ZW,beq_iff_eq,XH,jHa]at this;obtain⟨⟨B,y⟩,u⟩:=this;exact⟨x,rfl,B,λC=>y _ C ⟨rfl,rfl⟩,u⟩
def Eb(X:Cx)(T:List BV)(caps:List Nat):List BV:=T++caps.map λj=>(X.N[j]?).getD (Str.ofString "")
def Jm(T:List BV)(caps:List Nat)(σ:St):St:=T.map (λ_=>none)++caps.map λj=>(σ[j]?).join
def Dp(n:Nat)(caps:List Nat)(ρ:Ev):Ev:=List.replicate n none++caps.map λj=>(ρ[j]?).join
variable {fp:List BK}{caps:List Nat}{T:List BV}{scope:HR}
def Fy.clo(B:Fy X scope T caps)(I:Inv X pins σ H s):WM scope X.env=pure (Nj scope X.env):=Yv λx h m=>I.ok.has x.1 (B.free x h m)
theorem kf6(B:Fy X scope T caps)(I:Inv X pins σ H s)(hf:∀b∈fp,Rb X pins H b)(hl:∀b∈fp,b<s.heap.objs.size):
  Inv (cxB X (Eb X T caps) scope s.heap.objs.size s H fp) [] (Jm T caps σ) H {s with heap:=QV (s.heap.push {cls:=.type "dict",data:=.dict #[] }) scope.names}:=by
 have keep:∀b o,s.heap.get? b=some o->(QV (s.heap.push {cls:=.type "dict",data:=.dict #[] }) scope.names).get? b=some o:=λb o e=>QB _ _ b o (HF _ e);have clX:∀{x a},(x,a)∈Nj scope X.env->X.env.cells.lookup x=some a:=λh=>(oZ h).elim id λz=>by cases z
 have cut:∀{x a},(EY (s.heap.objs.size+1) scope.names (Nj scope X.env)).lookup x=some a->s.heap.objs.size+1<=a\/X.env.cells.lookup x=some a:=λh=>(pA (PySem.mem_of_lookup h)).elim .inl λz=>.inr (clX z);have G:∀{x a},X.env.cells.lookup x=some a->a<s.heap.objs.size:=λh=>by have⟨v,z⟩:=I.cell _ _ h;exact z.lt
 refine⟨⟨I.ok.mod,B.kind,I.ok.glob,I.ok.blt,FW _,λx y a U O=>?_,λx P=>?_,λx a P h=>?_,I.ok.hd,I.ok.frames,.inl rfl,λb J=>⟨JV (hl b J),λx a h e=>?_⟩,I.bs,QW I.ok.bsz I.sz,λb o e J=>?_,λb J P=>?_,I.stack,I.stkFree⟩,
  rfl,I.bare,Un.kept keep,⟨λ_=>none,(Heap.Ns.new s.heap (.type "dict")).keeps (QB _ _),λi x v U O h3=>?_⟩,λx a h=>?_,I.hok.fresh (FW _),λx a h=>?_,λp hp=>absurd (show p∈([]:List (BK×FZ)) from hp) (by simp),I.hok.kept keep,?_⟩
 ·refine pB (λu w b p q=>I.ok.inj u w b (clX p) (clX q)) (λy hy=>?_) (PySem.mem_of_lookup U) (PySem.mem_of_lookup O);exact ZX (G (clX hy))
 ·have L:(RM scope X.env).names.lookup x=some .cell\/(RM scope X.env).names.lookup x=some .free:=P;have hk:scope.names.lookup x=some .cell\/scope.names.lookup x=some .free:=by
   rcases L with h |h
   ·rcases Mq h with h | ⟨_,h⟩
    ·exact .inl h
    ·exact .inr h
   ·rcases Mq h with h | ⟨z,_⟩
    ·exact .inr h
    ·cases z
  rcases hk with h |h
  ·exact mL.mp (W.cellsFrom_some scope.names _ _ (.inl h))
  ·have⟨a,ha⟩:=I.ok.has x (B.free (x,.free) (PySem.mem_of_lookup h) rfl);have:=G7 (cs:=[]) ha (.inl (PySem.mem_of_lookup h));exact mL.mp (W.cellsFrom_some scope.names _ _ (.inr (by unfold Nj;rw[this];rfl)))
 ·have L:(scope.names.lookup x == some NameKind.cell)=true:=P;exact qO (o_ (FW _) (.inl (by simpa using L)) h)
 ·rcases cut h with z |z
  ·exact absurd (QF (hl b J) (e ▸ qO z)) (T_ _)
  ·exact(hf b J).2.2.2.2.1 x a z e
 ·rcases(hf b J).2.2.2.1 with z |z
  ·exact I.ok.noex b o e z
  ·have U:=GQ e;have O:=I.ok.bsz;exact absurd (QF U (QW O z)) (T_ _)
 ·rcases HY.mp (I.stkSub b P) with z |z
  ·exact(hf b J).2.1 z
  ·exact(hf b J).2.2.1 z
 ·have hi:T.length<=i:=by
   by_cases hi:T.length<=i
   ·exact hi
   ·exfalso;have C:(Jm T caps σ)[i]? = some (some v):=O;unfold Jm at C;rw[ZK (by simp;lia),QX]at C;cases e:T[i]? with
    |none=>rw[e]at C;cases C
    |some t=>rw[e]at C;cases C
  have C:(Jm T caps σ)[i]? = some (some v):=O;have F:(Eb X T caps)[i]? = some x:=U;unfold Jm at C;unfold Eb at F;rw[YF (by simpa using hi),HN,QX]at C;rw[YF hi,QX]at F;cases ej:caps[i - T.length]? with
  |none=>rw[ej]at C;cases C
  |some j =>
   rw[ej]at F C;refine Yw (λy hy m1 m2 m3=>?_) (B.cap j (XX ej));have F:some ((X.N[j]?).getD (Str.ofString ""))=some x:=F;rw[hy]at F;have e1:y=x:=Option.some.inj F;subst e1;have e2:(σ[j]?).join=some v:=Option.some.inj C;have e3:σ[j]? = some (some v):=by
    cases q:σ[j]? with
    |none=>rw[q]at e2;cases e2
    |some o=>rw[q]at e2;cases o with
     |none=>cases e2
     |some w=>cases e2;rfl
   refine Am (λm hn ab=>?_) (I.loc);have aa:Vis X.env.scope y:=by rcases m3 with z |z;exact .inr (.inl z);exact .inr (.inr z)
   refine Am (λu r lk=>?_) (ab j y v hy e3 aa);refine⟨u,r,.inr ⟨?_,?_⟩⟩
   ·have ae:(RM scope X.env).names.lookup y=some .local\/(RM scope X.env).names.lookup y=some .cell\/(RM scope X.env).names.lookup y=some .free:=h3;rcases ae with z |z |z
    ·exfalso;rcases Mq z with z | ⟨z,_⟩
     ·rw[m1]at z;cases z
     ·cases z
    ·exact .inl z
    ·exact .inr z
   ·rcases lk with ⟨k,_⟩ | ⟨k,a,ha,hc⟩
    ·rcases m3 with w |w<;>(have k':X.env.kindOf y=some .local:=k;rw[w]at k';cases k')
    ·refine⟨a,?_,hc.keeps keep⟩;show(EY (s.heap.objs.size+1) scope.names (Nj scope X.env)).lookup y=some a;rw[Wt m2];exact G7 ha (.inl (PySem.mem_of_lookup m1))
 ·have h':(x,a)∈EY (s.heap.push {cls:=.type "dict",data:=.dict #[] }).objs.size scope.names (Nj scope X.env):=by rw[V_];exact PySem.mem_of_lookup h
  rcases pU h' with z |z
  ·have⟨v,q⟩:=I.cell x a (clX z);exact⟨v,q.keeps keep⟩
  ·exact⟨none,z⟩
 ·rcases cut h with z |z
  ·exact I.hok.fresh (by lia)
  ·exact I.freeC x a z
 ·show(Jm T caps σ).length=(Eb X T caps).length;simp[Jm,Eb]
def jr8{N:List BV}{C:BK}{m:BJ}{r:St}(I:Inv X pins σ H s)(y:C=s.heap.objs.size)(q:∀b∈fp,Rb X pins H b)(J:Inv (cxB X N scope C s H fp) [] r H' m)(h':CP)(hs:Heap.SameBut C m.heap h'):
  Inv X pins σ H' {m with heap:=h'}:=by
 have z:Inv X pins σ H' m:=I.call' (ch:=fp) J.os J.base J.hok J.bare λb h=>⟨(q b h).2.2.2.1,(q b h).2.1,(q b h).2.2.2.2.1,(q b h).2.2.2.2.2⟩;have u:s.heap.objs.size<=C:=Nat.le_of_eq y.symm;have F:=I.fpOk (H':=H') u J.free;have:=z.turned (t':=m.toks) (h':=h') (it:=C) (λb o h e=>(hs.2 b h).trans e) J.free F.2.1 F.2.2.2.1 F.2.2.2.2.1 F.2.2.2.2.2;exact this
variable {prog:BZ}
section
variable {R:WQ->BJ->Prop}
def cNo:A_->BJ->Prop:=λ_ _=>False
def thc{m:Type}{t:Sem m}{Q q:m->BJ->Prop}{M:KR}(h:BL M A t Q cNo s)(r:∀a s,Q a s->q a s):BL M A t q E s:=D_ h r λ_ _ z=>z.elim
def thx{m:Type}{t:Sem m}{Q q:m->BJ->Prop}{M:KR}{y:A_->BJ->Prop}(r:E=cNo)(h:BL M A t Q E s)(u:∀a s,Q a s->q a s):BL M A t q y s:=by subst r;exact thc h u
def nn{p:Prop}(h:(p->False)->False):p:=iW h
def ct3(M:KR)(A:DK)(elt:CN)(acc:A_)(env:JT)(I:Nat->BJ->Prop)(n:Nat)(ok:Bool)(s:BJ):Prop:=
 if ok=true then BL M A (CZ elt env) (λx q=>BL M A (call (.builtin "list.append") [acc,x]) (λ_ h=>∃m,m<n/\I m h) cNo q) cNo s else ∃m,m<n/\I m s
def ct2(M:KR)(A:DK)(ifs:List CN)(env:JT)(Q:Bool->BJ->Prop)(_:Unit)(s:BJ):Prop:=
 BL M A (forIn ifs true λc r=>if r=true then do let ok <-Y_ c env (CZ c env);pure (ForInStep.yield ok) else pure (ForInStep.yield r)) Q cNo s
def ct1(M:KR)(A:DK)(target:CN)(env:JT)(v:A_)(Q:Unit->BJ->Prop)(_:Unit)(s:BJ):Prop:=BL M A (WN target env v) Q cNo s
def ct0(M:KR)(A:DK)(target:CN)(it:A_)(env:JT)(N:BJ->Prop)(Q:Unit->BJ->Prop)(r:Option A_)(s:BJ):Prop:=
 r.elim (N s) λv=>BL M A (QC target it v) (ct1 M A target env v Q) cNo s
def ji2{elt target iter:CN}{ifs:List CN}{scope:HR}{it acc:A_}{env:JT}(I:Nat->BJ->Prop)
  (turn:∀n s,I n s->BL (BR prog w) A (JP it) (ct0 (BR prog w) A target it env (R (.ok .next)) (ct2 (BR prog w) A ifs env (ct3 (BR prog w) A elt acc env I n))) cNo s)
  (n:Nat)(h:I n s):
  JS (BR prog w) A (.compLoop (.ListComp elt [⟨target,iter,ifs,0⟩] scope pos) 0 it acc env) R s:=by
 refine codeAny_loop rfl I (λn s L=>?_) n h;show BL _ A ((compTurn (.ListComp elt [⟨target,iter,ifs,0⟩] scope pos) 0 it acc env).onRaise (λx=>do d7 x env;theTreesLotGoes x)) _ _ s;refine wpAny_noted ?_;rw[compTurn_list];refine BX (HH (BX (thc (turn n s L) λr u m=>?_)));cases r with
 |none=>exact CW m
 |some v =>
  refine BX (thc m λ_ u m=>BX (thc m λ_ J B=>BX (thc B λok G q=>?_)));cases ok with
  |false=>exact CW ⟨rfl,q⟩
  |true=>exact BX (BX (thc q λx F z=>BX (thc z λ_ C y=>CW (CW ⟨rfl,y⟩))))
end
def TsD(X:Cx)(c:DC)(ifs:List CN)(t:Ev->R Bool):Prop:=
 ∀(pins:List (BK×FZ))(s:BJ)(σ:St)(H:Hp)(Q:Bool->Hp->Prop),Inv X pins σ H s->tDT X.K c t σ H Q ->
  BL (BR X.prog X.w) X.A (forIn ifs true λc r=>if r=true then do let ok <-Y_ c X.env (CZ c X.env);pure (ForInStep.yield ok) else pure (ForInStep.yield r)) (TP X pins σ Q) X.xe s
def yes:Ev->R Bool:=λ_=>.ok true
def ti0:TsD X c [] yes:=λpins s σ H Q I q=>by revert q;refine Bm λhs ρ E q=>?_;rw[zV];exact CW ⟨H,I,q H (Af.refl _)⟩
def ti1{t:Ev->R Bool}(h:PTd X c e t):TsD X c [e] t:=λpins s σ H Q I q=>by rw[zY];simp only[if_true];refine BX (BX (thn (h pins s σ H Q I q) λk r m=>CW ?_));show BL _ _ (forIn [] k _) _ _ _;rw[zV];exact CW m
def Fv(g:D->Ev->R Ev)(t:Ev->R Bool)(f:Ev->R D)(ρ:Ev):List D->R (List D)
 | []=>.ok []
 |d::ds=>(g d ρ).bind λh=>(t h).bind λk=>if k then(f h).bind λy=>(Fv g t f ρ ds).bind λys=>.ok (y::ys) else Fv g t f ρ ds
def Bl(it:Ev->R (List D))(n:Nat)(caps:List Nat)(g:D->Ev->R Ev)(t:Ev->R Bool)(f:Ev->R D):Ev->R D:=λρ=>(it ρ).bind λds=>((Fv g t f (Dp n caps ρ) ds).bind λh=>if h.length<=16777216 then .ok (.lst h) else .bad).nox
variable {it:Ev->R (List D)}
theorem Zj{g:D->Ev->R Ev}{t:Ev->R Bool}{d:D}(h:Bl it n caps g t f ρ=.ok d):∃ds,d=.lst ds:=by
 unfold Bl at h;cases r:it ρ<;>rw[r]at h<;>try cases h
 rename_i q;simp only[R.ok_bind]at h;cases m:Fv g t f (Dp n caps ρ) q with
 |ok ys =>
  rw[m]at h;simp only[R.ok_bind]at h;split at h
  ·cases h;exact⟨_,rfl⟩
  ·cases h
 |exc _=>rw[m]at h;cases h
 |bad=>rw[m]at h;cases h
def RQ.nox{m:Type}{r:R m}{q:m->Prop}{e:D->Prop}(h:RQ r.nox q e):∃a,r=.ok a/\q a:=by
 cases r with
 |ok a=>exact⟨a,rfl,h⟩
 |exc _=>exact h.elim
 |bad=>exact h.elim
def Az.forget{ρ':Ev}(E:Az K c hs ρ σ H)(q:c.O=[])(u:ρ'.length=ρ.length)(h:∀(i:Nat) d,ρ'[i]? = some (some d)->ρ[i]? = some (some d)):Az K c hs ρ' σ H:=by
 have eN:∀r:Ev,c.N r σ=λo=>c.S o/\∀a:BK,o=some a->True:=λr=>by funext o;unfold DC.N owned;rw[q];simp
 refine⟨E.same,u.trans E.len,(λi d m=>by rw[q]at m;cases m),(λi j a m=>by rw[q]at m;cases m),λi d m y=>?_,λP z=>?_,E.excl⟩
 ·rw[eN,<-eN ρ];exact E.oth i d m (h i d y)
 ·rw[eN,<-eN ρ];exact E.held P z
def Az.wrZ{a:BK}(E:Az K c hs ρ σ H)(y:c.O=[])(G:c.H0 a=none)(B:¬ c.S (some a))(u:H a=some (.lst vs)):Az K c hs ρ σ (upd H a (.lst ws)):=by
 have m:¬ c.N ρ σ (some a):=λz=>B z.1;refine⟨λb o e=>?_,E.len,(λi d h=>by rw[y]at h;cases h),(λi j a h=>by rw[y]at h;cases h),λi d h C=>?_,λP r=>⟨(E.held P r).1,(E.held P r).1.wr u m (E.held P r).2⟩,λb F z=>?_⟩
 ·rw[Ad (Ay e G)];exact E.same b o e
 ·refine Am (λv J I=>?_) (E.oth i d h C);exact⟨v,J,I.wr u m⟩
 ·by_cases q:b=a
  ·subst q;rw[Ah]at z;cases z
  ·rw[Ad q]at z;exact E.excl b F z
def Mw(O:List Nat)(l:Lv)(caps:List Nat):Bool:=match l with
 | .any=>true
 | .no=>caps.all λj=>!O.contains j
 | .fr=>caps.isEmpty
def xT(E:Az K c hs ρ σ H)(h:Mw c.O l caps=true)(y:j∈caps){d:D}(q:ρ[j]? = some (some d)):
  ∃v,σ[j]? = some (some v)/\Rep K H (lvS c ρ σ H l) d v:=by
 cases l with
 |any =>
  by_cases m:j∈c.O
  ·refine Gk (λp u B r=>?_) (E.own j d m q);exact⟨_,u,r.rep (.inr ⟨p,rfl,B.1,B.2⟩) λ_ z=>z.1⟩
  ·refine Am (λv u r=>?_) (E.oth j d m q);exact⟨v,u,r.mono (Af.refl _) λ_ z=>z.1⟩
 |no =>
  have:=RJ.mp h j y;have m:j∉c.O:=by simpa using this
  exact E.oth j d m q
 |fr =>
  have:caps=[]:=by simpa[Mw] using h
  subst this;cases y
def zE(n:Nat)(caps:List Nat)(ρ:Ev):(Dp n caps ρ).length=n+caps.length:=by simp[Dp]
def zA(T:List BV)(caps:List Nat)(σ:St):(Jm T caps σ).length=T.length+caps.length:=by simp[Jm]
theorem Wn{d:D}(h:(Dp n caps ρ)[i]? = some (some d)):n<=i/\∃j,caps[i - n]? = some j/\ρ[j]? = some (some d):=by
 unfold Dp at h;by_cases r:n<=i
 ·refine⟨r,?_⟩;rw[YF (by simpa using r),dO,QX]at h;cases e:caps[i - n]? with
  |none=>rw[e]at h;cases h
  |some j =>
   rw[e]at h;refine⟨j,rfl,?_⟩;have m:(ρ[j]?).join=some d:=Option.some.inj h;cases q:ρ[j]? with
   |none=>rw[q]at m;cases m
   |some o =>
    rw[q]at m;cases o with
    |none=>cases m
    |some u=>cases m;rfl
 ·rw[ZK (by simp;omega),mK]at h;split at h<;>cases h
def zB(hi:T.length<=i)(m:caps[i - T.length]? = some j)(h:σ[j]? = some (some v)):(Jm T caps σ)[i]? = some (some v):=by unfold Jm;rw[YF (by simpa using hi),HN,QX,m];show some (σ[j]?).join=_;rw[h];rfl
variable {elt iter:CN}{ifs:List CN}
variable {xs:List D}{hs':List Hd}
section
variable {u:Ev->R (List D)}{g:D->Ev->R Ev}{t:Ev->R Bool}{f:Ev->R D}
inductive CI(Y:Cx)(c':DC)(P:Hd)(tn:Nat->CP->Prop)(fp:List BK)(a:BK)(ρ₀:Ev)(ds xs:List D)(L:List D->R (List D))(k:Nat)(s:BJ):Prop
 |mk (i:Nat) (σ:St) (H:Hp) (acc:List D) (vs:List V) (ys:List D) (I:Inv Y [] σ H s) (st:tn i s.heap) (fr:∀b∈fp,H b=none) (hk:k=ds.length - i) (hi:i<=ds.length) (E:Az Y.K c' [P] ρ₀ σ H)
   (hv:H a=some (.lst vs))(r:An Y.K H c'.S acc vs)(ec:L (ds.drop i)=.ok ys)(ea:acc++ys=xs):CI Y c' P tn fp a ρ₀ ds xs L k s
theorem kd9{Y:Cx}{c':DC}{P:Hd}{tn:Nat->CP->Prop}{J:It}{it a:BK}{h:Ev}{L:St}{I:Hp}{Rn:WQ->BJ->Prop}(hx:Y.xe=cNo)(hc:Y.calm=true)
  (hg:PGd Y c' tg g)(ht:TsD Y c' ifs t)(he:PEd Y c' .any elt f)(bq:∀d ao,g d h=.ok ao->ao.length=h.length/\∀(i:Nat) d',h[i]? = some (some d')->ao[i]? = h[i]?)
  (aa:∀{H':Hp}{aw:St}{bh:BJ},Inv Y [] aw H' bh->(∀b∈fp,H' b=none)->∀b∈fp,Rb Y [] H' b)
  (hO:c'.O=[])(h0:c'.H0 a=none)(hn:¬ c'.S (some a))
  (Tn:Turn Y.prog Y.w Y.K tg J fp it tn)(TD:ItD Y.K J ds P)(ex:Fv g t f h ds=.ok xs)(hz:xs.length<=16777216)
  (br:∀s H σ vs,Inv Y [] σ H s->Az Y.K c' [P] h σ H->H a=some (.lst vs)->An Y.K H c'.S xs vs->Rn (.ok .next) s)
  (E0:Az Y.K c' [P] h L I)(ha:I a=some (.lst []))(f0:∀b∈fp,I b=none){s4:BJ}(J4:Inv Y [] L I s4)(bg:tn 0 s4.heap):
  JS (BR Y.prog Y.w) Y.A (.compLoop (.ListComp elt [⟨tg,iter,ifs,0⟩] scope pos) 0 (.ref it) (.ref a) Y.env) Rn s4:=by
 refine ji2 (CI Y c' P tn fp a h ds xs (Fv g t f h)) ?_ ds.length
  (.mk 0 _ _ [] [] xs J4 bg f0 rfl (U_ _) E0 ha An.nil ex rfl)
 intro n s5 q;refine nn λhG=>?_;obtain⟨i,ag,H5,acc,vs,ys,I5,ay,bb,hk,bx,E5,au,r5,C,ea⟩:=q;have p5:=(E5.held P LK).2;by_cases B:i<ds.length
 ·rw[cG B,Fv]at C;refine Am (λah eg C=>?_) (Bp C);refine Am (λk et C=>?_) (Bp C);have keep:=bq _ _ eg;have forget:∀{U:St}{H':Hp},Az Y.K c' [P] ah U H'->Az Y.K c' [P] h U H':=λE'=>E'.forget hO keep.1.symm λj d hd=>(keep.2 j d hd).trans hd;refine hG (thx (E:=cNo) rfl (Tn.item Y rfl rfl rfl hc i [] s5 ag H5 cNo I5 (aa I5 bb) ay (TD.go i H5 _ B p5)) λr s6 q=>?_);clear hG;revert q;refine Am λu hr h6=>?_;subst hr;refine thn h6 λ_ s7 q=>?_;refine nn λhG=>?_;revert q;refine yk6 λx H7 I7 r7 y7 ai ba=>?_;have⟨ak,G⟩:=TD.yld i H5 _ x H7 p5 y7;have G:=G ds[i] (GJ B);have bc:=I7.pinned (aa I7 ba) (Tn.obj _ _ ai);have ae:∀{U:St}{H':Hp}{s':BJ},Inv Y ([]++Xz fp s7.heap) U H' s'->tn (i+1) s'.heap/\∀b∈fp,H' b=none:=λ{U H' s'} J=>by refine⟨Tn.keep _ _ _ ai λb hb o e=>(J.pin (b,o) (N_ _ (N_ _ (Mi hb e)))).1,λb hb=>?_⟩;refine Am (λo e _=>?_) (Tn.obj _ _ ai b hb);exact(J.pin (b,o) (N_ _ (N_ _ (Mi hb e)))).2.1
  refine hG (thx hx (hg _ s7 ag H7 x u (λm H8=>H8=H7/\Az Y.K c' [P] ah m H8) bc r7 ⟨[P],h,ds[i],E5.mono ak,G,by rw[eg];exact λm E8=>⟨rfl,E8⟩⟩) λ_ s8 q=>?_);clear hG;clear bc G y7 r7 ai ba I7 keep;revert q;refine Bo λm _ I8 bp E8=>?_;obtain rfl:=bp;refine thx hx (ht _ s8 m _ (λk' H9=>k'=k/\Af _ H9) I8 ⟨[P],ah,E8,by rw[et];exact λH9 s9=>⟨rfl,s9⟩⟩) λk' s9 q=>?_;revert q;refine Gk λH9 I9 bo aj=>?_;obtain rfl:=bo;have az:=aj _ _ (ak _ _ au);have r9:=r5.mono (ak.trans aj) λ_ z=>z;have E9:=E8.mono aj;clear I8 E8 aj ak r5 au I5 E5 p5;cases k' with
  |false=>rw[if_neg XR]at C;have⟨q1,q2⟩:=ae I9;exact⟨ds.length - (i+1),hk ▸ jGj _ _ B,.mk (i+1) m H9 acc vs ys I9.unpinned q1 q2 rfl B (forget E9) az r9 C ea⟩
  |true =>
   rw[if_pos rfl]at C;refine Am (λdy ef C=>?_) (Bp C);refine Am (λax ey C=>?_) (Bp C);cases C;refine thx hx (he _ s9 m H9 (λy F=>Af H9 F/\Rep Y.K F c'.S dy y) I9 ⟨[P],ah,E9,by rw[ef];exact λy F aq ar=>⟨aq,ar⟩⟩) λw aq q=>?_;refine nn λhG=>?_;revert q;refine Vp λy F bt ar ab ry=>?_;have af:F a=some (.lst vs):=ab _ _ az;have hl:=r9.length;have bw:xs.length=acc.length+(ax.length+1):=by rw[<-ea];simp
   refine hG (thx hx (Z3 _ aq m F (.ref a) [y] (.ref a) [w] (λ_ H'=>H'=upd F a (.lst (vs++[y]))) bt rfl (.cons ar .nil) ⟨a,vs,y,rfl,rfl,af,by rw[CQ];lia,rfl⟩) λ_ bu q=>?_);clear hG;revert q;refine Bo λ_ _ bf _ bj=>?_;obtain rfl:=bj;have⟨q1,q2⟩:=ae bf;exact⟨ds.length - (i+1),hk ▸ jGj _ _ B,.mk (i+1) m _ (acc++[dy]) (vs++[y]) ax bf.unpinned q1 q2 rfl B (forget ((E9.mono ab).wrZ hO h0 hn af)) Ah (((r9.mono ab λ_ z=>z).append (.cons ry An.nil)).wr af hn) ey (by rw[<-ea,PL];rfl)⟩
 ·have e:ds.drop i=[]:=cF (by lia);rw[e,Fv]at C;cases C;rw[WW]at ea;subst ea;refine hG (thx (E:=cNo) rfl (Tn.done Y rfl rfl rfl hc i [] s5 ag H5 cNo I5 (aa I5 bb) ay (TD.stop i H5 _ (by lia) p5)) λr s6 q=>?_);obtain⟨rfl,I6⟩:=q;exact br s6 H5 ag vs I6 E5 au r5
def Tb(H H':Hp):Prop:=∀b ps,H b=some (.tbl ps)->H' b=some (.tbl ps)
theorem Zk(B:Fy X scope T caps)(hc:X.calm=true)(hi:PId X c l tg iter u)
  (hg:∀(C:BK)(s:BJ)(H:Hp)(ex:List BK)(L:Hp)(S0:AS)(Z:List BK),Tb c.H0 L->PGd (cxB X (Eb X T caps) scope C s H ex) ⟨L,S0,[],G5,Z⟩ tg g)
  (ht:∀(C:BK)(s:BJ)(H:Hp)(ex:List BK)(L:Hp)(S0:AS)(Z:List BK),Tb c.H0 L->TsD (cxB X (Eb X T caps) scope C s H ex) ⟨L,S0,[],G5,Z⟩ ifs t)
  (he:∀(C:BK)(s:BJ)(H:Hp)(ex:List BK)(L:Hp)(S0:AS)(Z:List BK),Tb c.H0 L->PEd (cxB X (Eb X T caps) scope C s H ex) ⟨L,S0,[],G5,Z⟩ .any elt f)
  (ag:∀d ρ q,g d ρ=.ok q->q.length=ρ.length/\∀i,T.length<=i->q[i]? = ρ[i]?)(ah:Mw c.O l caps=true){ae:JG}{use:Option (A_->Sem Unit)}{Q':A_->BJ->Prop}(hs:∀x,FP iter X.env x=pure x)
  (I:Inv X pins σ H s)(E:Az X.K c hs' ρ σ H)(ar:u ρ=.ok ds)(ex:Fv g t f (Dp T.length caps ρ) ds=.ok xs)(hz:xs.length<=16777216)
  (aq:∀(a:BK)(vs:List V)(s3 s':BJ)(H3 H':Hp)(fp:List BK)(aj:St),Inv X pins σ H3 s3->(∀b∈fp,Rb X pins H3 b)->Inv (cxB X (Eb X T caps) scope s3.heap.objs.size s3 H3 fp) [] aj H' s'->Af H H'->H a=none->H' a=some (.lst vs) ->
   An X.K H' (AS.but (lvS c ρ σ H l) a) xs vs->compPost (BR X.prog X.w) X.A X.xe use Q' (.ref a) s3.heap.objs.size (.ok .next) s'):
  BL (BR X.prog X.w) X.A (XJ (.ListComp elt [⟨tg,iter,ifs,0⟩] scope pos) scope X.env ae (YT []) false (CZ iter X.env) use) Q' X.xe s:=by
 refine NK (cl:=Nj scope X.env) rfl hs (B.clo I) B.kind B.names ?_;have hR:=hi pins s σ H (λJ r=>∃P,Af H r/\ItD X.K J ds P/\P r (lvS c ρ σ H l)) I ⟨hs',ρ,E,by rw[ar];exact λJ P H' s1 T1 p1=>⟨P,s1,T1,p1⟩⟩;refine thn hR λv s1 h1=>thn h1 λau m h2=>?_;refine nn λhG=>?_;obtain⟨it,fp,tn,J,r,rfl,I2,Tn,aa,f2,P,sm,TD,p2⟩:=h2;refine hG (CG ?_);clear hG;have F:r m.heap.objs.size=none:=I2.fresh;have I3:=I2.lnew (t':=m.toks) (ys:=[]) (its:=[]) .nil (U_ _);generalize hD:m.heap.objs.size=a at F I3;refine wg8 ?_;have G:∀b∈fp,b<m.heap.objs.size:=λb h=>by have⟨o,e,_⟩:=Tn.obj 0 _ aa b h;exact GQ e
 have f3:∀b∈fp,Rb X pins (upd r a (.lst [])) b:=λb h=>by have⟨z0,z⟩:=f2 b h;refine⟨?_,z⟩;rw[Ad (by rw[<-hD];exact JV (G b h))];exact z0
 have U:Af r (upd r a (.lst [])):=Aj F _;have Ha:H a=none:=sm.free F;have af:∀b∈fp,b<(m.heap.push {cls:=.type "list",data:=.seq ([]:List A_).toArray}).objs.size:=λb h=>by rw[V_];exact ZX (G b h)
 have J0:=kf6 B I3 f3 af;let c':DC:=⟨r,AS.but (lvS c ρ σ H l) a,[],G5,[a]⟩;have tb:Tb c.H0 c'.H0:=λb ps e=>sm _ _ (E.same _ _ e);have ab:¬ c'.S (some a):=by
  rintro(z | ⟨b,e,_,h⟩)
  ·exact z.2 rfl
  ·cases e;exact h (LR.mpr rfl)
 have E0:Az X.K c' [P] (Dp T.length caps ρ) (Jm T caps σ) (upd r a (.lst [])):=by
  have sub:∀o,AS.but (lvS c ρ σ H l) a o->c'.N (Dp T.length caps ρ) (Jm T caps σ) o:=λo z=>⟨.inl z,λb _ ⟨j,hj,_⟩=>by cases hj⟩;refine⟨U,by rw[zE,zA],(λi d hi=>by cases hi),(λi j a hi=>by cases hi),λi d hi hd=>?_,λP' ao=>?_,λb h=>?_⟩
  ·have⟨hn,j,ej,ed⟩:=Wn hd;have⟨v,ev,rv⟩:=xT E ah (XX ej) ed;exact⟨v,zB hn ej ev,(rv.avoid Ha).mono (sm.trans U) sub⟩
  ·have:P'=P:=by simpa using ao
   subst this;exact⟨TD.stab,TD.stab.mono U sub (TD.stab.avoid F p2)⟩
  ·have:b=a:=LR.mp h;subst this;rw[Ah];intro z;cases z
 have y:tn 0 (QV ((m.heap.push {cls:=.type "list",data:=.seq ([]:List A_).toArray}).push {cls:=.type "dict",data:=.dict #[] }) scope.names):=Tn.keep _ _ _ aa λb h o e=>QB _ _ b o (HF _ (HF _ e));have loop:∀s4,Inv (cxB X (Eb X T caps) scope (m.heap.push {cls:=.type "list",data:=.seq ([]:List A_).toArray}).objs.size {m with heap:=m.heap.push {cls:=.type "list",data:=.seq ([]:List A_).toArray} } (upd r a (.lst [])) fp) [] (Jm T caps σ) (upd r a (.lst [])) s4->tn 0 s4.heap->JS (BR X.prog X.w) X.A (.compLoop (.ListComp elt [⟨tg,iter,ifs,0⟩] scope pos) 0 (.ref it) (.ref a) (rH scope (m.heap.push {cls:=.type "list",data:=.seq ([]:List A_).toArray}).objs.size X.env)) (compPost (BR X.prog X.w) X.A X.xe use Q' (.ref a) (m.heap.push {cls:=.type "list",data:=.seq ([]:List A_).toArray}).objs.size) s4:=by
  intro s4 J0 y;refine kd9 (Y:=cxB X (Eb X T caps) scope (m.heap.push {cls:=.type "list",data:=.seq ([]:List A_).toArray}).objs.size {m with heap:=m.heap.push {cls:=.type "list",data:=.seq ([]:List A_).toArray} } (upd r a (.lst [])) fp) (c':=c') rfl hc (hg _ _ _ _ _ _ _ tb) (ht _ _ _ _ _ _ _ tb) (he _ _ _ _ _ _ _ tb) (λd q e=>⟨(ag d _ q e).1,λj d' hd=>(ag d _ q e).2 j (Wn hd).1⟩) (λJ hn b h=>?_) rfl F ab Tn TD ex hz (λs6 H5 ai vs I6 E5 ak r5=>?_) E0 Ah (λb h=>(f3 b h).1) J0 y
  ·exact⟨hn b h,(J.ok.exf b h).1,J.ok.exfs b h,.inl h,(J.ok.exf b h).2,λp hp=>absurd (show p∈([]:List (BK×FZ)) from hp) (by simp)⟩
  ·refine aq a vs _ s6 _ H5 fp ai I3 f3 I6 (sm.trans E5.same) Ha ak (r5.mono (Af.refl _) λo z=>?_);rcases z with z | ⟨b,rfl,h,hz⟩
   ·exact z
   ·refine⟨Ob E ⟨b,rfl,sm.free h⟩,λe=>?_⟩;cases e;exact hz (LR.mpr rfl)
 exact codeAny_compStart_list (loop _ J0 y) (Tn.self _ 0 _ _ _ y (loop _ J0 y))
theorem Cd(h:i<n):∀d ρ m,gN i d ρ=.ok m->m.length=ρ.length/\∀j,n<=j->m[j]? = ρ[j]?:=λd ρ m e=>by cases e;exact⟨by simp,λj q=>QJ (by lia)⟩
theorem Yk{n:Nat}:∀{Y:List Nat},(Y.all λi=>decide (i<n))=true->∀ds ρ m,Eu Y ds ρ=.ok m->m.length=ρ.length/\∀j,n<=j->m[j]? = ρ[j]?
 | [],_,ds,ρ,m,e=>by
  cases ds with
  |nil=>cases e;exact⟨rfl,λ_ _=>rfl⟩
  |cons _ _=>cases e
 |i::Y,h,ds,ρ,m,e=>by
  cases ds with
  |nil=>cases e
  |cons d ds=>rw[Eu]at e;rw[h_,QH]at h;have z:=of_decide_eq_true h.1;obtain⟨y,r⟩:=Yk h.2 ds _ m e;exact⟨by rw[y];simp,λj q=>by rw[r j q];exact QJ (by lia)⟩
def wJ(h:(Y.all λi=>decide (i<n))=true):∀d ρ m,gT Y d ρ=.ok m->m.length=ρ.length/\∀j,n<=j->m[j]? = ρ[j]?:=λd ρ m e=>by cases d<;>first |exact Yk h _ ρ m e |cases e
def uZ(ab:Lw scope X.env.scope X.N caps=true)(hc:X.calm=true)(hi:PId X c l tg iter u)
  (hg:∀(C:BK)(s:BJ)(H:Hp)(G:List BK)(y:Hp)(U:AS)(Z:List BK),Tb c.H0 y->PGd (cxB X (Eb X T caps) scope C s H G) ⟨y,U,[],G5,Z⟩ tg g)
  (ht:∀(C:BK)(s:BJ)(H:Hp)(G:List BK)(y:Hp)(U:AS)(Z:List BK),Tb c.H0 y->TsD (cxB X (Eb X T caps) scope C s H G) ⟨y,U,[],G5,Z⟩ ifs t)
  (he:∀(C:BK)(s:BJ)(H:Hp)(G:List BK)(y:Hp)(U:AS)(Z:List BK),Tb c.H0 y->PEd (cxB X (Eb X T caps) scope C s H G) ⟨y,U,[],G5,Z⟩ .any elt f)
  (aa:∀d ρ F,g d ρ=.ok F->F.length=ρ.length/\∀i,T.length<=i->F[i]? = ρ[i]?)(P:Mw c.O l caps=true:=by rfl)(hs:∀x,FP iter X.env x=pure x:=by intro _;rfl):
  PEf X c l (.ListComp elt [⟨tg,iter,ifs,0⟩] scope pos) (Bl u T.length caps g t f):=λpins s σ H Q I q=>by
 revert q;refine Bm λhs' ρ E q=>?_;have B:Fy X scope T caps:=.of ab;rw[eval_ListComp];show BL (BR X.prog X.w) X.A (XJ (.ListComp elt [⟨tg,iter,ifs,0⟩] scope pos) scope X.env (firstIterPos [⟨tg,iter,ifs,0⟩] pos) (YT []) false (CZ iter X.env) none) (EP X pins σ Q) X.xe s;have q:=RQ.bind.mp q;cases h:u ρ with
 |ok ds =>
  rw[h]at q;refine Am (λd L q=>?_) (RQ.nox q);refine Am (λxs G L=>?_) (Bp L);by_cases hz:xs.length<=16777216
  ·rw[if_pos hz]at L;cases L;refine Zk B hc hi hg ht he aa P hs I E h G hz λa vs s3 s' H3 H' fp ae I3 f3 J sm Ha hv r=>?_;refine Am (λm hn _=>?_) (J.loc);exact⟨m,hn,λh' hb=>⟨.ref a,H',jr8 I3 rfl f3 J h' hb,rfl,q a vs xs H' rfl sm Ha hv r⟩⟩
  ·rw[if_neg hz]at L;cases L
 |exc x=>rw[h]at q;refine NK (cl:=Nj scope X.env) rfl hs (B.clo I) B.kind B.names ?_;refine thn (hi pins s σ H (λ_ _=>False) I ⟨hs',ρ,E,by rw[h];exact q⟩) λv s1 h1=>thn h1 λaf s2 h2=>?_;refine nn λhG=>?_;clear hG;revert h2;refine rN λ_ _ _ _ _ _ _ _ _ _ z=>?_;exact z.elim
 |bad=>rw[h]at q;exact q.elim
def yb4(B:Lw scope X.env.scope X.N caps=true)(I:X.calm=true)(hi:PId X c l tg iter u)
  (F:∀(C:BK)(s:BJ)(H:Hp)(h:List BK)(q:Hp)(m:AS)(Z:List BK),PGd (cxB X (Eb X T caps) scope C s H h) ⟨q,m,[],G5,Z⟩ tg g)
  (ht:∀(C:BK)(s:BJ)(H:Hp)(h:List BK)(q:Hp)(m:AS)(Z:List BK),TsD (cxB X (Eb X T caps) scope C s H h) ⟨q,m,[],G5,Z⟩ ifs t)
  (G:∀(C:BK)(s:BJ)(H:Hp)(h:List BK)(q:Hp)(m:AS)(Z:List BK),PEd (cxB X (Eb X T caps) scope C s H h) ⟨q,m,[],G5,Z⟩ .any elt f)
  (z:∀d ρ r,g d ρ=.ok r->r.length=ρ.length/\∀i,T.length<=i->r[i]? = ρ[i]?)(y:Mw c.O l caps=true:=by rfl)(hs:∀x,FP iter X.env x=pure x:=by intro _;rfl):
  PEf X c l (.ListComp elt [⟨tg,iter,ifs,0⟩] scope pos) (Bl u T.length caps g t f):=uZ B I hi (λC s H h q m Z _=>F C s H h q m Z) (λC s H h q m Z _=>ht C s H h q m Z) (λC s H h q m Z _=>G C s H h q m Z) z y hs
def comp(F:Lw scope X.env.scope X.N caps=true)(J:X.calm=true)(hi:PId X c l tg iter u)
  (G:∀(C:BK)(s:BJ)(H:Hp)(r:List BK)(z:Hp)(y:AS)(Z:List BK),PGd (cxB X (Eb X T caps) scope C s H r) ⟨z,y,[],G5,Z⟩ tg g)
  (ht:∀(C:BK)(s:BJ)(H:Hp)(r:List BK)(z:Hp)(y:AS)(Z:List BK),TsD (cxB X (Eb X T caps) scope C s H r) ⟨z,y,[],G5,Z⟩ ifs t)
  (I:∀(C:BK)(s:BJ)(H:Hp)(r:List BK)(z:Hp)(y:AS)(Z:List BK),PEd (cxB X (Eb X T caps) scope C s H r) ⟨z,y,[],G5,Z⟩ .any elt f)
  (B:∀d ρ m,g d ρ=.ok m->m.length=ρ.length/\∀i,T.length<=i->m[i]? = ρ[i]?)(q:Mw c.O l caps=true:=by rfl)(hs:∀x,FP iter X.env x=pure x:=by intro _;rfl):
  PEd X c l (.ListComp elt [⟨tg,iter,ifs,0⟩] scope pos) (Bl u T.length caps g t f):=PEf.d (yb4 F J hi G ht I B q hs) λ_ _ h=>Zj h
def n8(F:Lw scope X.env.scope X.N caps=true)(J:X.calm=true)(hi:PId X c l tg iter u)
  (G:∀(C:BK)(s:BJ)(H:Hp)(y:List BK)(m:Hp)(z:AS)(Z:List BK),Tb c.H0 m->PGd (cxB X (Eb X T caps) scope C s H y) ⟨m,z,[],G5,Z⟩ tg g)
  (ht:∀(C:BK)(s:BJ)(H:Hp)(y:List BK)(m:Hp)(z:AS)(Z:List BK),Tb c.H0 m->TsD (cxB X (Eb X T caps) scope C s H y) ⟨m,z,[],G5,Z⟩ ifs t)
  (I:∀(C:BK)(s:BJ)(H:Hp)(y:List BK)(m:Hp)(z:AS)(Z:List BK),Tb c.H0 m->PEd (cxB X (Eb X T caps) scope C s H y) ⟨m,z,[],G5,Z⟩ .any elt f)
  (B:∀d ρ q,g d ρ=.ok q->q.length=ρ.length/\∀i,T.length<=i->q[i]? = ρ[i]?)(r:Mw c.O l caps=true:=by rfl)(hs:∀x,FP iter X.env x=pure x:=by intro _;rfl):
  PEd X c l (.ListComp elt [⟨tg,iter,ifs,0⟩] scope pos) (Bl u T.length caps g t f):=PEf.d (uZ F J hi G ht I B r hs) λ_ _ h=>Zj h
end
section
variable {q:CN}{f f1 f2 m h:Ev->R D}{fs:Ev->R (List D)}
def PEd.sc(h:PEd X c l a f)(hs:∀ρ d,f ρ=.ok d->d.imm=true):PEd X c .fr a f:=PE.imp h λσ H Q ⟨hs',ρ,E,q⟩=>by
 refine⟨hs',ρ,E,?_⟩;cases e:f ρ with
 |ok d=>rw[e]at q;exact λv H' s r=>q v H' s (vQ d v (hs ρ d e) r)
 |exc x=>rw[e]at q;exact q
 |bad=>rw[e]at q;exact q
def of_ok{r:Type}{o:Option r}{d:r}(h:R.of o=.ok d):o=some d:=by
 cases o with
 |none=>cases h
 |some x=>cases h;rfl
def Di(r:∀x y d,g x y=some d->d.imm=true):∀ρ d,b2 f1 f2 g ρ=.ok d->d.imm=true:=λρ d h=>by
 refine Am (λx _ h=>?_) (Bp h);refine Am (λy _ h=>?_) (Bp h);cases e:g x y with
 |none=>rw[e]at h;cases h
 |some u=>rw[e]at h;cases h;exact r x y _ e
def Dm{g:List D->Option D}(r:∀xs d,g xs=some d->d.imm=true):∀ρ d,bA fs g ρ=.ok d->d.imm=true:=λρ d h=>by
 refine Am (λx _ h=>?_) (Bp h);cases e:g x with
 |none=>rw[e]at h;cases h
 |some u=>rw[e]at h;cases h;exact r x _ e
def yM{p:Int->Int->Bool}:∀x y d,eQ p x y=some d->d.imm=true:=λx y d h=>by cases x<;>first |exact nos h | (cases y<;>first |exact nos h | (cases h;rfl))
def we1:∀x y d,ltD x y=some d->d.imm=true:=yM
def wd8:∀x y d,geD x y=some d->d.imm=true:=yM
def Rw:∀x y d,eqD x y=some d->d.imm=true:=λx y d h=>by obtain⟨_,rfl⟩:=Bb h;rfl
def we0:∀x y d,inD x y=some d->d.imm=true:=λx y d h=>by cases y<;>first |exact nos h | (obtain⟨_,rfl⟩:=Bb h;rfl)
def Xd:∀x y d,fZ x y=some d->d.imm=true:=λx y d h=>by cases x<;>first |exact nos h | (cases y<;>first |exact nos h | (cases h;rfl))
def En:∀x y d,Jv x y=some d->d.imm=true:=λx y d h=>by cases x<;>first |exact nos h | (cases y<;>first |exact nos h | (obtain⟨_,rfl⟩:=Bb h;rfl))
def kf5:∀x y d,Ut x y=some d->d.imm=true:=λx y d h=>by cases x<;>first |exact nos h | (cases y<;>first |exact nos h | (obtain⟨_,rfl⟩:=Bb h;rfl))
def yL:∀x y d,Vr x y=some d->d.imm=true:=λx y d h=>by cases x<;>first |exact nos h | (cases y<;>first |exact nos h | (obtain⟨_,rfl⟩:=Bb h;rfl))
def Bw:∀xs d,Gu xs=some d->d.imm=true:=λxs d h=>by
 obtain⟨r,rfl⟩:=inv1 h rfl (λx _ _=>by cases x<;>rfl);cases r with
 |lst _=>cases h;rfl
 |tup _=>cases h;rfl
 |str _=>obtain⟨_,rfl⟩:=Bb h;rfl
 |_=>exact nos h
def we2:∀xs d,minD xs=some d->d.imm=true:=λxs d h=>by
 obtain⟨u,r,rfl⟩:=inv2 h rfl (λx=>by cases x<;>rfl) (λx y _ _=>by cases x<;>first |rfl | (cases y<;>rfl));cases u with
 |int _ =>
  cases r with
  |int _=>cases h;rfl
  |_=>exact nos h
 |_=>exact nos h
def Ca:D->D->Option D
 | .lst xs,.lst ys=>if xs.length+ys.length<=16777216 then some (.lst (xs++ys)) else none
 |x,y=>rY x y
def wu2:OpR X (DN .Add) (rD X.K Ca):=by
 rintro pins s σ H x y v u Q I L J ⟨S,G,F,d,P,O,e,q⟩;by_cases h:∃xs ys,G=.lst xs/\F=.lst ys
 ·revert h;refine Bm λxs ys C B=>?_;obtain rfl:=C;obtain rfl:=B;obtain⟨hz,rfl⟩:=Bb e;refine yf0 pins s σ H x y v u Q I L J ⟨S,_,_,.lst (xs++ys),P,O,if_pos hz,λa vs ds H' ed U ha hv r=>?_⟩;cases ed;exact q _ H' U ⟨a,vs,rfl,.inl ⟨hv,.inr ⟨a,rfl,ha⟩⟩,r.mono (Af.refl _) λ_ z=>.inl z.1⟩
 ·refine ye9 pins s σ H x y v u Q I L J ⟨S,G,F,d,P,O,?_,q⟩;cases G<;>first |exact e | (cases F<;>first |exact e |exact absurd ⟨_,_,rfl,rfl⟩ h)
def Ei(u:PEd X c l a f1)(r:PEd X c l b f2):PEd X c l (.BinOp a .Add b pos) (b2 f1 f2 Ca):=aM .Add wu2 u r
def yo6(ha:PEf X c l a f1)(hb:PEd X c l b f2):PEf X c l (.BinOp a .Mult b pos) (b2 f1 f2 bN):=PE.imp (sU wv2 ha hb) λσ H Q q=>by
 revert q;refine Bm λhs ρ E q=>?_;have q:=RQ.bind.mp q;refine⟨hs,ρ,E,?_⟩;cases G:f1 ρ with
 |ok dx =>
  rw[G]at q;intro p vs ds H1 ed B hp P I;subst ed;refine Ba (E.mono B) ((RQ.bind.mp q).mono (λdy O y H2 u E2 J=>?_) λe z=>Bq z B);refine Am (λd e L=>?_) (O.of);cases dy<;>try cases e
  rename_i k;obtain⟨F,rfl⟩:=Bb e;have U:=I.length;refine⟨p,k,vs,rfl,J,u _ _ P,F.1,F.2.1,Gv (by rw[<-U];exact F.2.2),λr C=>?_⟩;exact L r _ _ _ rfl ((B.trans u).trans (Aj C _)) ((B.trans u).free C) Ah ((((I.mono u λ_ z=>z.1).rep k.toNat).avoid C).mono (Aj C _) λ_ z=>z)
 |exc x=>rw[G]at q;exact q
 |bad=>rw[G]at q;exact q
def wj6{d:D}(h:b2 f1 f2 bN ρ=.ok d):∃ds,d=.lst ds:=by
 refine Am (λx _ h=>?_) (Bp h);refine Am (λy _ h=>?_) (Bp h);cases e:bN x y with
 |none=>rw[e]at h;cases h
 |some r=>rw[e]at h;cases h;cases x<;>first |exact nos e | (cases y<;>first |exact nos e | (obtain⟨_,rfl⟩:=Bb e;exact⟨_,rfl⟩))
def rep(u:PEf X c l a f1)(r:PEd X c l b f2):PEd X c l (.BinOp a .Mult b pos) (b2 f1 f2 bN):=PEf.d (yo6 u r) λ_ _ h=>wj6 h
def slA:D->Option Int->Option Int->Option D
 | .lst xs,lo,r=>some (.lst (cutD xs lo r))
 | .tup xs,lo,r=>if HT.sIx xs.length 0 lo=0/\HT.sIx xs.length xs.length r=xs.length then none else some (.tup (cutD xs lo r))
 |_,_,_=>none
def t6{lo hi:Option CN}{fl fh:Ev->R (Option Int)}(he:PEd X c l e f)(hl:POd X c lo fl)(hh:POd X c hi fh):PEd X c l (.Subscript e (.Slice lo hi none p2) pos) (bS f fl fh slA):=PE.imp (yE (SlR.or vH t7) he hl hh) λσ H Q q=>by
 revert q;refine Bm λhs ρ E q=>?_;refine Ba E ((RQ.bind.mp q).mono (λdx q1 x H1 C E1 P=>?_) λ_ z=>z);refine S6 E1 ((RQ.bind.mp q1).mono (λi q2 H2 u E2=>?_) λe z=>Bq z C);refine S6 E2 ((RQ.bind.mp q2).mono (λj q3 H3 y E3=>?_) λe z=>Bq z (C.trans u));refine Am (λd e U=>?_) (q3.of);cases dx<;>try cases e
 ·rename_i xs;revert P;refine Bo λp vs L O G=>?_;obtain rfl:=L;have F:=G.length;have e:(if HT.sIx xs.length 0 i=0/\HT.sIx xs.length xs.length j=xs.length then none else some (D.tup (cutD xs i j)))=some d:=e;by_cases I:HT.sIx xs.length 0 i=0/\HT.sIx xs.length xs.length j=xs.length
  ·rw[if_pos I]at e;cases e
  ·rw[if_neg I]at e;cases e;rw[F]at I;refine .inr ⟨p,vs,rfl,Af.sqT (u.trans y) (TpR.sq O),I,λr B=>?_⟩;exact U _ _ (((C.trans u).trans y).trans (Aj B _)) ⟨r,_,rfl,TpR.of Ah,((G.mono (u.trans y) λ_ z=>z).cut i j).mono (Aj B _) λ_ z=>z⟩
 ·revert P;refine Bo λp vs J O G=>?_;obtain rfl:=J;refine .inl ⟨p,vs,rfl,(O.same (u.trans y) λ_ z=>z).sq,λr B=>?_⟩;exact U _ _ (((C.trans u).trans y).trans (Aj B _)) ⟨r,_,rfl,.inl ⟨Ah,Ob E ⟨r,rfl,((C.trans u).trans y).free B⟩⟩,((G.mono (u.trans y) λ_ z=>z).cut i j).mono (Aj B _) λ_ z=>z⟩
end
def FnC(P:BZ)(w:CV)(K:B_)(h:BV->Option A_)(base:CP)(k:Nat)(x:BV)(ps:List BV)(n:Nat)(m:List D->R D):Prop:=
 ∃(f:BK)(q:DQ),Hh P w K h base CX0 k f q ps (sp0 K n m)/\h x=some (.ref f)/\W.keepIn K (.ref f)=true/\Binds K q ps []
section
variable {f:Ev->R D}{fs:Ev->R (List D)}{ps:List BV}{m:List D->R D}
def callC(F:FnC X.prog X.w X.K X.mg X.base k x ps n m)(u:El k X.A)(J:PAd X c l (e::es) fs)(y:(e::es).length=n:=by rfl)(h:ps.length=n:=by rfl)(C:Gl X x:=by rfl)
  (r:Zd x:=by decide)(G:Zs X.env e es:=by rfl)(q:Zp X.env pos es:=by rfl):
  PEd X c l (.Call (.Name x p) (e::es) [] pos) (cl fs m):=by
 revert F;refine Vp λf L F z B I=>?_;exact yb1 F u z B I J y h C r G q
def PId.up(h:PId X c l tg e fs)(r:l.le l'=true:=by rfl):PId X c l' tg e fs:=PI.imp h λσ H Q ⟨hs,ρ,E,q⟩ =>
 ⟨hs,ρ,E,q.mono (λds q J P H' s T p=>q J P H' s T (T.stab.mono (Af.refl _) (λ_ z=>Ph E r z) p)) λ_ z=>z⟩
def ye5(q:X.mg "list" = none)(y:PAd X c l (e::es) fs)(r:Gl X "list":=by rfl)(u:Zs X.env e es:=by rfl)(h:Zp X.env pos es:=by rfl):
  PEf X c l (.Call (.Name "list" p) (e::es) [] pos) (bA fs gR):=wp5 wp2 PyProof.Rows.boot_list q y r (by decide) (by decide) u h
def ks2:∀ρ d,bA fs gR ρ=.ok d->∃ds,d=.lst ds:=λρ d h=>by
 refine Am (λxs _ h=>?_) (Bp h);have h:=of_ok h;obtain⟨q,rfl⟩:=inv1 h rfl (λx _ _=>by cases x<;>rfl);cases q with
 |lst _=>cases h;exact⟨_,rfl⟩
 |tup _=>cases h;exact⟨_,rfl⟩
 |_=>exact nos h
def Hc(q:X.mg "tuple" = none)(y:PAd X c l (e::es) fs)(r:Gl X "tuple":=by rfl)(u:Zs X.env e es:=by rfl)(h:Zp X.env pos es:=by rfl):
  PEd X c l (.Call (.Name "tuple" p) (e::es) [] pos) (bA fs Dr):=yb0 wb2 PyProof.Rows.boot_tuple q y r (by decide) (by decide) u h
def yn2(y:X.calm=true)(q:X.mg "min" = none)(z:PAd X c l (e::es) fs)(r:Gl X "min":=by rfl)(u:Zs X.env e es:=by rfl)(h:Zp X.env pos es:=by rfl):
  PEd X c l (.Call (.Name "min" p) (e::es) [] pos) (bA fs minD):=gU (ya8 y) PyProof.Rows.boot_min q z r (by decide) (by decide) u h
end
section
variable {f:Ev->R D}{fs:Ev->R (List D)}{h:JG}
def Vm:List D->Option (List Bool)
 | []=>some []
 | .bl b::r=>(Vm r).map (b::·)
 |_::_=>none
def b8:List D->Option D
 | [.lst xs]=>(Vm xs).map λbs=>.bl (bs.all id)
 |_=>none
def u9{K:B_}{H:Hp}{S:AS}:∀{ds:List D}{vs:List V}{m:List A_}{bs:List Bool},An K H S ds vs->Vals vs m->Vm ds=some bs->m=bs.map Value.bool
 | [],vs,m,bs,h,r,e=>by cases(show vs=[] from h);cases r;cases e;rfl
 |d::ds,vs,m,bs,h,r,e=>by
  revert h;refine Bo λv y q F C=>?_;obtain rfl:=q;cases r with
  |cons B z =>
   cases d with
   |bl b =>
    cases(show v=.bl b from F);cases(show _=Value.bool b from B);have e:(Vm ds).map (b::·)=some bs:=e;cases u:Vm ds with
    |none=>rw[u]at e;cases e
    |some G=>rw[u]at e;cases e;rw[u9 C z u];rfl
   |_=>cases e
def ya6(hc:X.calm=true):Dc X (.builtin "all") (rC X.K b8):=by
 rintro pins s σ H xs us Q I r ⟨S,ds,d,rs,e,q⟩;obtain⟨P,rfl⟩:=inv1 e rfl (λx _ _=>by cases x<;>rfl);cases P with
 |lst ys =>
  obtain⟨v,rfl,a,vs,rfl,ha,rr⟩:=rs.one;have e:(Vm ys).map (λbs=>D.bl (bs.all id))=some d:=e;cases J:Vm ys with
  |none=>rw[J]at e;cases e
  |some bs =>
   rw[J]at e;cases e;obtain⟨u,rfl,ru⟩:=vals1 r;cases ru;have⟨y,U,pl,hz⟩:=I.list ha.sq;have O:=u9 rr U J;have F:=pl.isList;have C:a<s.heap.objs.size:=by obtain⟨_,z,_⟩:=F;exact GQ z
   refine call_all_walk (JM F ?_);refine⟨s.heap.objs.size,[s.heap.objs.size,a],[s.heap.objs.size],y.toArray.size,_,_,λi=>(bs[i]?).getD true,rfl,Walks.list (A:=X.A.in1) (I.ok.hd hc) _ a (JV C) y.toArray,
    ⟨⟨_,L_ _ rfl,rfl,rfl⟩,F.push _⟩,λi v s' Q' E' hP L=>?_,λh' tk hk=>?_⟩
   ·have m:y[i]? = some v:=by simpa using hP
    rw[O,QX]at m;cases G:bs[i]? with
    |none=>rw[G]at m;cases m
    |some b=>rw[G]at m;cases m;simp only[G,WD]at L;exact FN L
   ·have e:((List.range y.toArray.size).all λi=>(bs[i]?).getD true)=bs.all id:=by
     rw[KJ,O,HN];rw[aV];simp only[RJ,KY,id];constructor
     ·intro h b hb;have⟨i,B,e⟩:=YZ.mp hb;have:=h i B;rw[GJ B,WD,e]at this;exact this
     ·intro h i B;rw[GJ B,WD];exact h _ (RG B)
    rw[e];exact⟨.bl _,H,I.kept (λb x z=>hk b x (λhm=>by rw[LR.mp hm]at z;exact T_ _ (GQ z)) (HF _ z)),rfl,q _ H (Af.refl _) rfl⟩
 |_=>exact nos e
def yk3(y:X.calm=true)(q:X.mg "all" = none)(z:PAd X c l (e::es) fs)(r:Gl X "all":=by rfl)(u:Zs X.env e es:=by rfl)(m:Zp X.env pos es:=by rfl):
  PEd X c l (.Call (.Name "all" p) (e::es) [] pos) (bA fs b8):=gU (ya6 y) PyProof.Rows.boot_all q z r (by decide) (by decide) u m
def wd7:∀xs d,b8 xs=some d->d.imm=true:=λxs d h=>by
 obtain⟨m,rfl⟩:=inv1 h rfl (λx _ _=>by cases x<;>rfl);cases m with
 |lst ys =>
  have h:(Vm ys).map (λbs=>D.bl (bs.all id))=some d:=h;cases e:Vm ys with
  |none=>rw[e]at h;cases h
  |some bs=>rw[e]at h;cases h;rfl
 |_=>exact nos h
end
variable {h':CP}
variable {t':Nat}
def T3(I:Inv X pins σ H s)(C:∀b∈fp,Rb X pins H b)(k:∀b o,b∉fp->s.heap.get? b=some o->h'.get? b=some o):Inv X pins σ H {s with heap:=h',toks:=t'}:=by
 refine I.step (g':=s.gens) (d':=s.drawn) (ch:=fp) (λb J=>?_) (λb o _ _ h e _=>k b o h e) (λb o _ _ h e _=>⟨o.slots,k b o h e⟩) (λ_ _ _ _ n=>n)
  (λb o h e=>⟨o,k b o h e⟩) (λ_ _ e=>e) (λ_ _ _ e=>e) (λb ps e=>⟨#[],by rw[e];simp⟩) (λm G=>?_) (λb u e=>?_) I.bare
 ·refine rT (λf0 U f2 P O L=>?_) (C b J);exact⟨P,U,O,L⟩
 ·revert G;refine cX λo es ep F r=>?_;exact⟨o,es,ep,k _ o (λz=>(C _ z).2.1 rfl) F,r⟩
 ·refine(I.hok b u e).stay (λc v h q=>k c v (λz=>?_) q) (λ_ q=>q) λ_ _ q=>q;have B:=(C c z).1;rcases h with y |y
  ·rw[y,e]at B;cases B
  ·rw[y]at B;cases B
def Js{a:BK}{F:HO}(I:Inv X pins σ H s)(G:∀b∈fp,Rb X pins H b)(k:∀b o,b∉fp->s.heap.get? b=some o->h'.get? b=some o)(J:s.heap.objs.size<=a)(new:Bu X.prog X.w (upd H a F) h' a F):
  Inv X pins σ (upd H a F) {s with heap:=h',toks:=t'}:=by
 have h:H a=none:=I.hok.fresh J;have ne:∀{b:BK}{o:FZ},s.heap.get? b=some o->b≠a:=λe z=>by have:=GQ e;rw[z]at this;exact absurd (QF this J) (T_ _)
 refine I.step (g':=s.gens) (d':=s.drawn) (ch:=fp) (λb C=>?_) (λb o _ _ B e _=>k b o B e) (λb o _ _ B e _=>⟨o.slots,k b o B e⟩) (λb o _ e n=>by rw[Ad (ne e)];exact n)
  (λb o B e=>⟨o,k b o B e⟩) (λb xs e=>by rw[Ad (Ay e h)];exact e) (λb o u e=>by rw[Ad (Ay e h)];exact e) (λb ps e=>⟨#[],by rw[Ad (Ay e h),e];simp⟩) (λm O=>?_) (λb u e=>?_) I.bare
 ·refine rT (λf0 f1 f2 f3 U P=>?_) (G b C);exact⟨f3,f1,U,P⟩
 ·revert O;refine cX λo es ep L r=>?_;exact⟨o,es,ep,k _ o (λz=>(G _ z).2.1 rfl) L,r⟩
 ·by_cases C:b=a
  ·subst C;rw[Ah]at e;cases e;exact new
  ·rw[Ad C]at e;refine(I.hok b u e).stay (λc v B q=>k c v (λz=>?_) q) (λc q=>by rw[Ad (Ay q h)];exact q) λc xs q=>by rw[Ad (Ay q h)];exact q
   have h:=(G c z).1;rcases B with y |y
   ·rw[y,e]at h;cases h
   ·rw[y]at h;cases h
def Iel(K:B_)(a:BK):It:=
 ⟨λi H=>∃xs x,SqL K H a xs/\xs[i]? = some x,λi H x H'=>∃t v,x=.ref t/\H t=none/\H'=upd H t (.tup [.int (i:Int),v])/\∀xs,SqL K H a xs->xs[i]? = some v,λi H=>∃xs,SqL K H a xs/\xs.length<=i⟩
variable {P:BZ}
theorem kj8{elts:List CN}(a e it:BK)(hne:e≠it):
  Turn P w K (.Tuple elts k pos) (Iel K a) [e,it] e (λi h=>(∃old,mX h e it (i:Int) old)/\h.IsListIter it a i) where
 mem:=by simp
 obj:=λi h st b hb=>by
  obtain⟨⟨old,he⟩,o,ho,hc,hd⟩:=st;have hb':b=e\/b=it:=by simpa using hb
  rcases hb' with rfl |rfl
  ·exact⟨_,he,λv z=>by cases z⟩
  ·exact⟨o,ho,λv z=>by rw[hd]at z;cases z⟩
 keep:=λi h h' st kp=>⟨st.1.imp λold he=>kp e (by simp) _ he,st.2.at λo q=>kp it (by simp) o q⟩
 item:=by
  intro X hP hw hK hc i pins s σ H E I hf st hg;subst hP hw hK;obtain⟨xs,x,hq,hx⟩:=hg;have⟨its,rv,p,hz⟩:=I.list hq;have⟨u,hu,ru⟩:=rv.get hx;obtain⟨⟨old,he⟩,hit⟩:=st;refine wpAny_pyNext_enum_item he hit p.isList (x:=u) (by simpa using hu) hne λh1 heo hit1 ht1 hz1 hk1=>⟨_,rfl,?_⟩;refine VM heo λh2 he2 hs2=>?_;have hT:s.heap.objs.size≠e:=S_ (GQ he);have ht2:h2.get? s.heap.objs.size=some {cls:=.type "tuple",data:=.seq #[.int i s.toks,u] }:=(hs2.2 _ hT).trans ht1;have I2:Inv X pins σ (upd H s.heap.objs.size (.tup [.int (i:Int),x])) {s with heap:=h2,toks:=s.toks+1}:=
   Js (t':=s.toks+1) I hf (λb o hb q=>by
    have hb':b≠e/\b≠it:=by simpa using hb
    exact(hs2.2 b hb'.1).trans (hk1 b o hb'.1 hb'.2 q)) (FW _)
    (show Bu X.prog X.w _ h2 _ (.tup [.int (i:Int),x]) from⟨by show 2<=sizeLine;rw[CQ];lia,[.int i s.toks,u],.cons ⟨_,rfl⟩ (.cons ru .nil),⟨_,ht2,rfl,_,rfl⟩⟩)
  refine⟨.ref s.heap.objs.size,_,I2,rfl,⟨_,x,rfl,I.hok.fresh (FW _),rfl,λys hy=>by rw[I.list_inj hy hq];exact hx⟩,⟨⟨u,by simpa using he2⟩,?_⟩,λb hb=>?_⟩
  ·exact hit1.at λo q=>(hs2.2 it (Ne.symm hne)).trans q
  ·have hlt:b<s.heap.objs.size:=by
    have⟨oi,hoi,_⟩:=id hit;have hb':b=e\/b=it:=by simpa using hb
    rcases hb' with rfl |rfl
    ·exact GQ he
    ·exact GQ hoi
   rw[Ad (JV hlt)];exact(hf b hb).1
 done:=by intro X hP hw hK hc i pins s σ H E I hf st hg;subst hP hw hK;obtain⟨xs,hq,hx⟩:=hg;have⟨its,rv,p,hz⟩:=I.list hq;obtain⟨⟨old,he⟩,hit⟩:=st;have hl:=rv.length;exact wpAny_pyNext_enum_end (I.ok.hd hc) he hit p.isList (by simp;lia) λh' eb=>⟨rfl,T3 (t':=s.toks) I hf λb o hb q=>eb b o (λz=>hb (by simp[z])) q⟩
 self:=λA i s Q E st h=>by obtain⟨⟨old,he⟩,_⟩:=st;exact MK he h
def My(ds:List D):List D:=(List.range ds.length).zipWith (λ(i:Nat) d=>.tup [.int (i:Int),d]) ds
def O7(ds:List D):(My ds).length=ds.length:=by simp[My]
def Zt{d:D}(h:(My ds)[i]? = some d):∃e,ds[i]? = some e/\d=.tup [.int (i:Int),e]:=by
 unfold My at h;rw[List.getElem?_zipWith]at h;cases m:(List.range ds.length)[i]? with
 |none=>rw[m]at h;cases h
 |some j =>
  cases r:ds[i]? with
  |none=>rw[m,r]at h;cases h
  |some e=>rw[m,r]at h;cases h;have:=(QK.mp m);obtain⟨u,q⟩:=this;simp at q;subst q;exact⟨e,rfl,rfl⟩
def kr0{a:BK}:ItD K (Iel K a) (My ds) λH S=>LsR K H S a vs/\An K H S ds vs where
 stab:=xQ
 go:=λi H S hi h=>by rw[O7]at hi;refine Am (λv hv _=>?_) (h.2.get (GJ hi));exact⟨vs,v,h.1.sq,hv⟩
 yld:=λi H S x H' h y=>by revert y;refine Vp λt v hz5 ht hz6 y=>?_;obtain rfl:=hz5;obtain rfl:=hz6;refine⟨Aj ht _,λd hd=>?_⟩;refine Am (λe he hz7=>?_) (Zt hd);obtain rfl:=hz7;refine Am (λw hw rw'=>?_) (h.2.get he);have ev:v=w:=Option.some.inj ((y vs h.1.sq).symm.trans hw);subst ev;exact⟨t,_,rfl,TpR.of Ah,.int (i:Int),[v],rfl,rfl,v,[],rfl,rw'.mono (Aj ht _) (λ_ z=>z),rfl⟩
 stop:=λi H S hi h=>⟨vs,h.1.sq,by rw[<-h.2.length];rw[O7]at hi;exact hi⟩
open PySem PySem.Spec PyProof.Rows L2 PySem.W
variable {O:KeyOrd}{key:Nat->O.α}
section
variable {N:Nat}
def kk(key:Nat->O.α)(p:Array Nat)(i:Nat):O.α:=key ((p[i]?).getD 0)
def V9(key:Nat->O.α)(p:Array Nat)(k:Nat):Prop:=∀i j,i<=j->j<k->O.kle (kk key p i) (kk key p j)
def V8(N:Nat)(p:Array Nat):Prop:=p.toList.Perm (List.range N)
def V8.size{p:Array Nat}(h:V8 N p):p.size=N:=by have:=h.length_eq;simpa using this
abbrev ltO(key:Nat->O.α):Nat->Nat->Bool:=λi j=>O.blt (key i) (key j)
end
variable {h2:CP}
section
variable {κ:RX}{vs:List A_}{a:BK}
def Bs(a:BK)(h h':CP):Prop:=∀b o,b≠a->h.get? b=some o->h'.get? b=some o
def Bs.trans{m h:CP}(x:Bs a m h2)(y:Bs a h2 h):Bs a m h:=λb o n e=>y b o n (x b o n e)
def Bs.push(h:CP)(o:FZ):Bs a h (h.push o):=λb u _ e=>HF _ e
def Bs.upd(h:CP)(f:FZ->FZ):Bs a h (h.update a f):=λb u n e=>(ZJ _ _ (Ne.symm n)).trans e
structure Asks(prog:BZ)(w:CV)(A:DK)(s:BJ)(a:BK)(vs:List A_)(κ:RX)(key:Nat->O.α):Prop where
 kind:2<=vs.length->∀(s':BJ)(Q:RX->BJ->Prop),Bs a s.heap s'.heap->Q κ s'->BL (BR prog w) A (keyKind' vs.toArray) Q (λ_ _=>False) s'
 less:2<=vs.length->∀(i j:Nat)(s':BJ)(Q:Bool->BJ->Prop),i<vs.length->j<vs.length->Bs a s.heap s'.heap->(∀tk,Q (ltO key i j) {s' with toks:=tk})->BL (BR prog w) A (keyLt' κ (vs.getD i .none) (vs.getD j .none)) Q (λ_ _=>False) s'
def ku2(vs:List A_):((vs.toArray.zip vs.toArray).map (·.2))=vs.toArray:=by
 apply Array.ext
 ·simp
 ·intro i h h2;simp
def X5(vs:List A_):((List.range vs.length).map λi=>vs.getD i .none)=vs:=by
 apply dG
 ·simp
 ·intro i h h2;simp at h;simp[h]
end
def De:List Int->List Int->Bool
 |_,[]=>false
 | [],_::_=>true
 |x::xs,y::ys=>if x=y then De xs ys else decide (x<y)
def Xo(xs:List Int):De xs []=false:=by cases xs<;>rfl
def Oa:∀xs,De xs xs=false
 | []=>rfl
 |x::xs=>by rw[De,if_pos rfl];exact Oa xs
theorem Q4:∀xs ys u,De xs ys=true->De ys u=true->De xs u=true
 |_,[],_,h,_=>by rw[Xo]at h;cases h
 |_,_::_,[],_,h=>by rw[Xo]at h;cases h
 | [],_::_,_::_,_,_=>rfl
 |x::xs,y::ys,z::u,q,h2=>by
  rw[De]at q h2 ⊢;by_cases r:x=y
  ·rw[if_pos r]at q;by_cases m:y=z
   ·rw[if_pos m]at h2;rw[if_pos (r.trans m)];exact Q4 xs ys u q h2
   ·rw[if_neg m]at h2;rw[if_neg (by rw[r];exact m),r];exact h2
  ·rw[if_neg r]at q;have C:=of_decide_eq_true q;by_cases m:y=z
   ·rw[<-m,if_neg r];exact q
   ·rw[if_neg m]at h2;have B:=of_decide_eq_true h2;rw[if_neg (by omega)];exact decide_eq_true (by omega)
theorem Xn:∀xs ys r,De xs r=true->De xs ys=true\/De ys r=true
 |_,_,[],h=>by rw[Xo]at h;cases h
 |_,[],_::_,_=>.inr rfl
 | [],_::_,_::_,_=>.inl rfl
 |x::xs,y::ys,z::r,h=>by
  rw[De]at h;rw[De,De];by_cases q:x=y
  ·rw[if_pos q];by_cases m:y=z
   ·rw[if_pos m];rw[if_pos (q.trans m)]at h;exact Xn xs ys r h
   ·rw[if_neg m];rw[if_neg (by rw[q];exact m)]at h;exact .inr (by rw[<-q];exact h)
  ·rw[if_neg q];by_cases m:y=z
   ·rw[if_pos m];rw[<-m,if_neg q]at h;exact .inl h
   ·rw[if_neg m];by_cases l:x<y
    ·exact .inl (decide_eq_true l)
    ·refine .inr (decide_eq_true ?_);by_cases u:x=z
     ·omega
     ·rw[if_neg u]at h;have:=of_decide_eq_true h;omega
theorem Fp:∀xs ys,De xs ys=false->De ys xs=false->xs=ys
 | [],[],_,_=>rfl
 | [],_::_,h,_=>by cases h
 |_::_,[],_,h=>by cases h
 |x::xs,y::ys,m,h2=>by
  rw[De]at m h2;by_cases e:x=y
  ·rw[if_pos e]at m;rw[if_pos e.symm]at h2;rw[e,Fp xs ys m h2]
  ·rw[if_neg e]at m;rw[if_neg (Ne.symm e)]at h2;have a1:=of_decide_eq_false m;have q:=of_decide_eq_false h2;omega
def Xp:KeyOrd:=⟨List Int,De,Oa,Q4,Xn,Fp⟩
def Ax:List D->Option (List Int)
 | []=>some []
 | .int i::r=>(Ax r).map (i::·)
 |_::_=>none
def bR:D->Option (List Int)
 | .int i=>some [i]
 | .tup xs=>Ax xs
 |_=>none
def keyOf(d:D):List Int:=(bR d).getD []
def lF:D->Bool
 | .int _=>true
 |_=>false
def Qy:D->Bool
 | .tup (x::xs)=>(Ax (x::xs)).isSome
 |_=>false
def Tv:∀{xs ys:List D}{ns:List Int},Ax xs=some ns->Ax ys=some ns->xs=ys
 | [],[],_,_,_=>rfl
 | [],y::ys,ns,h,h2=>by cases h;cases y<;>first | (cases e:Ax ys<;>simp[Ax,e]at h2) |cases h2
 |x::xs,[],ns,h,h2=>by cases h2;cases x<;>first | (cases e:Ax xs<;>simp[Ax,e]at h) |cases h
 |x::xs,y::ys,ns,h,h2=>by
  cases x with
  |int i =>
   cases y with
   |int j =>
    cases q:Ax xs with
    |none=>simp[Ax,q]at h
    |some a =>
     cases m:Ax ys with
     |none=>simp[Ax,m]at h2
     |some b=>simp[Ax,q]at h;simp[Ax,m]at h2;rw[<-h2]at h;obtain⟨rfl,rfl⟩:=List.cons.inj h;rw[Tv q m]
   |_=>cases h2
  |_=>cases h
def Dq(xs:List D):Bool:=xs.all lF ||xs.all Qy
def pK(h:Dq xs=true){a b:D}(B:a∈xs)(z:b∈xs)(e:keyOf a=keyOf b):a=b:=by
 unfold Dq at h;rw[ZW,RJ,RJ]at h;rcases h with h |h
 ·have q:=h a B;have h2:=h b z;cases a<;>cases b<;>simp[lF]at q h2;simp[keyOf,bR]at e;rw[e]
 ·have q:=h a B;have h2:=h b z;cases a with
  |tup x =>
   cases b with
   |tup y =>
    cases u:Ax x with
    |none=>cases x<;>simp[Qy,u]at q
    |some n =>
     cases r:Ax y with
     |none=>cases y<;>simp[Qy,r]at h2
     |some m=>simp[keyOf,bR,u,r]at e;subst e;rw[Tv u r]
   |_=>simp[Qy]at h2
  |_=>simp[Qy]at q
def G9(a b:D):Bool:=!De (keyOf b) (keyOf a)
def srt(xs:List D):List D:=xs.mergeSort G9
def Cy(xs:List D):(srt xs).Perm xs:=List.mergeSort_perm _ _
theorem kg6(a b c:D)(h:G9 a b=true)(h2:G9 b c=true):G9 a c=true:=by
 unfold G9 at *;rw[XH]at *;cases e:De (keyOf c) (keyOf a) with
 |false=>rfl
 |true =>
  rcases Xn _ (keyOf b) _ e with z |z
  ·rw[h2]at z;cases z
  ·rw[h]at z;cases z
def kg5(a b:D):(G9 a b ||G9 b a)=true:=by
 unfold G9;cases e:De (keyOf b) (keyOf a) with
 |false=>rfl
 |true =>
  cases h:De (keyOf a) (keyOf b) with
  |false=>rfl
  |true=>have:=Q4 _ _ _ e h;rw[Oa]at this;cases this
def Ep(xs:List D):(srt xs).Pairwise λa b=>G9 a b=true:=List.pairwise_mergeSort (λa b c=>kg6 a b c) (λa b=>kg5 a b) xs
def eq_of_sorted{h:Type}{le:h->h->Prop}:∀{xs ys:List h},xs.Perm ys->xs.Pairwise le->ys.Pairwise le->(∀a∈xs,∀b∈xs,le a b->le b a->a=b)->xs=ys
 | [],ys,p,_,_,_=>(List.nil_perm.mp p).symm
 |x::xs,[],p,_,_,_=>by have:=p.length_eq;simp at this
 |x::xs,y::ys,p,z,h2,u=>by
  have F:x=y:=by
   have q:x∈y::ys:=p.mem_iff.mp LK;have r:y∈x::xs:=p.mem_iff.mpr LK;rcases HY.mp q with e |q
   ·exact e
   ·rcases HY.mp r with e |m
    ·exact e.symm
    ·exact u x LK y r (jFk z m) (jFk h2 q)
  subst F;rw[eq_of_sorted (List.Perm.cons_inv p) z.of_cons h2.of_cons λa C b B=>u a (JW _ C) b (JW _ B)]
theorem Yo{p:Array Nat}{key:Nat->Xp.α}(u:xs.length<2\/Dq xs=true)(r:∀i d,xs[i]? = some d->key i=keyOf d)(z:V8 xs.length p)(hs:V9 key p xs.length):
  p.toList.map (λi=>xs.getD i .non)=if xs.length<2 then xs else srt xs:=by
 have perm:(p.toList.map λi=>xs.getD i .non).Perm xs:=by
  have y:=z.map λi=>xs.getD i D.non;refine y.trans (List.Perm.of_eq ?_);apply dG
  ·simp
  ·intro i y h2;simp at y;simp[y]
 by_cases h2:xs.length<2
 ·rw[if_pos h2]
  match xs,h2,perm with
  | [],_,perm=>exact List.perm_nil.mp perm
  | [x],_,perm=>exact jGn.mp perm
 ·rw[if_neg h2];have B:Dq xs=true:=u.resolve_left h2;refine eq_of_sorted (le:=λa b=>G9 a b=true) (perm.trans (Cy xs).symm) ?_ (Ep xs) λa ha b hb G F=>?_
  ·rw[fO];intro i j J I C;simp only[HN,ZZ]at J I;have L:=z.size;have h:∀(k:Nat)(u:k<p.size),keyOf (xs.getD p[k] .non)=kk key p k:=λk u=>by
    have U:p[k]∈p.toList:=by simp
    have q:p[k]<xs.length:=KY.mp (z.mem_iff.mp U);unfold kk;rw[YD u,WD,r p[k] xs[p[k]] (GJ q)];simp[q]
   have:=hs i j (aU C) (by omega);simp only[qK,jGk];unfold G9;rw[h i J,h j I];have m:De (kk key p j) (kk key p i)=false:=this;rw[m];rfl
  ·unfold G9 at G F;rw[XH]at G F;exact pK B (perm.mem_iff.mp ha) (perm.mem_iff.mp hb) (Fp _ _ F G)
variable {h:CP}{ns:List Int}{u:A_}{us:List A_}
section
variable {a:BK}
def pM{vs:List A_}(h:FT vs ns)(hi:i<vs.length):∃t,vs.getD i .none=.int (ns.getD i 0) t:=by have⟨t,e⟩:=IntsAre.int_at h i vs[i] (GJ hi);exact⟨t,by rw[<-e];simp[hi]⟩
def Ze{vs:List A_}(h:FT vs ns):Asks (O:=Xp) prog w A s a vs ZR λi=>[ns.getD i 0] where
 kind:=λh2 s' Q _ q=>by
  match vs,h2,h with
  |v1::v2::r,_,h=>rw[keyKind_ints h];exact CW q
 less:=λ_ i j s' Q hi hj _ q=>by
  have⟨t,e1⟩:=pM h hi;have⟨u,e2⟩:=pM h hj;rw[e1,e2];refine kat_lt_int ?_;have e:ltO (O:=Xp) (λi=>[ns.getD i 0]) i j=decide (ns.getD i 0<ns.getD j 0):=by
   show De [ns.getD i 0] [ns.getD j 0]=_;rw[De];by_cases z:ns.getD i 0=ns.getD j 0
   ·rw[if_pos z,z];simp[De]
   ·rw[if_neg z]
  rw[e]at q;exact q s'.toks
def cY(h:CP)(a:BK)(u:A_)(ns:List Int):Prop:=∃b us,u=.ref b/\b≠a/\QG h b (VB us)/\FT us ns
def cY.keep(x:cY h a u ns)(k:Bs a h h'):cY h' a u ns:=by revert x;refine Vp λb us q y m B=>?_;obtain rfl:=q;revert m;refine Am λo z r=>?_;exact⟨b,us,rfl,y,⟨o,k b o y z,r⟩,B⟩
inductive Hr(h:CP)(a:BK):List A_->List (List Int)->Prop
 |nil:Hr h a [] []
 |cons {u:A_} {ns:List Int} {us:List A_} {nss:List (List Int)}:cY h a u ns->ns≠[]->Hr h a us nss->Hr h a (u::us) (ns::nss)
def Hr.keep{h h':CP}(k:Bs a h h'):∀{us:List A_}{m:List (List Int)},Hr h a us m->Hr h' a us m
 |_,_,.nil=>.nil
 |_,_,.cons x n r=>.cons (x.keep k) n (Hr.keep k r)
def Hr.get:∀{us:List A_}{m:List (List Int)},Hr h a us m->∀{i:Nat},i<us.length->cY h a (us.getD i .none) (m.getD i [])
 |_,_,.cons x _ r,0,_=>by simpa using x
 |_,_,.cons _ _ r,i+1,q=>by simpa using r.get (i:=i) (by simpa using q)
def Hr.tups:∀{us:List A_}{y:List (List Int)},Hr h a us y->∃q,KatTups h us q/\q.length=us.length/\∀v∈q,∃i t,v=Value.int i t
 |_,_,.nil=>⟨[],KatTups.nil,rfl,λ_ z=>nomatch z⟩
 |_,_,.cons (ns:=ns) x hn r=>by
  obtain⟨q,k,F,I⟩:=r.tups;obtain⟨b,us,rfl,hb,⟨o,C,L,n,J⟩,G⟩:=x;cases G with
  |nil=>exact absurd rfl hn
  |cons m t U =>
   refine⟨.int m t::q,KatTups.cons C L J rfl k,by simp[F],λv B=>?_⟩;rcases HY.mp B with rfl |B
   ·exact⟨m,t,rfl⟩
   ·exact I v B
def wf6{y:Bool}{Q:Bool->BJ->Prop}:∀{us vs:List A_}{ns C:List Int}(i:Nat)(tk:Nat),FT us ns->FT vs C->(ns.length=C.length->y=false)->(ns.length<C.length->y=true)->(C.length<ns.length->y=false) ->
  (∀tk,Q (De ns C) {s with toks:=tk})->KatLex prog w A true y Q (us.zip vs) i {s with toks:=tk}:=by
 intro us vs ns C i tk hu;induction hu generalizing vs C i tk with
 |nil =>
  intro F J I G q;cases F with
  |nil=>have:=J rfl;subst this;exact q tk
  |cons m u r=>have:=I (by simp);subst this;exact q tk
 |cons n t r ih =>
  intro F J I G q;cases F with
  |nil=>have:=G (by simp);subst this;exact q tk
  |cons m u U =>
   refine kat_cons (R_ ?_);by_cases e:n=m
   ·rw[show(n == m)=true from beq_iff_eq.mpr e];refine kat_yes (ih (i+1) tk U (λz=>J (by simp[z])) (λz=>I (by simpa using z)) (λz=>G (by simpa using z)) λB=>?_);have:=q B;rw[De,if_pos e]at this;exact this
   ·rw[show(n == m)=false from beq_eq_false_iff_ne.mpr e];refine kat_no ?_;have L:∀tk,Q (decide (n<m)) {s with toks:=tk}:=λB=>by have:=q B;rw[De,if_neg e]at this;exact this
    cases hi:(true && i == 0) with
    |true=>exact oneLt_int (L tk)
    |false=>exact kat_one _ _ (lt_int (L tk))
def Rx(h:FT us ns):us.length=ns.length:=IntsAre.length h
theorem kc5{vs:List A_}{nss:List (List Int)}(h:Hr s.heap a vs nss):Asks (O:=Xp) prog w A s a vs (tuples' true) λi=>nss.getD i [] where
 kind:=λh2 s' Q k q=>by have⟨fs,t,hl,hf⟩:=(h.keep k).tups;refine kat_kind (T:=.type "int") t (by lia) (λv hv=>?_) (by rfl) q;obtain⟨i,tk,rfl⟩:=hf v hv;exact Looks.of_pure rfl
 less:=λ_ i j s' Q hi hj k q=>by
  have⟨b,us,e1,_,⟨o,ho,hc,n,hd⟩,h1⟩:=(h.keep k).get hi;have⟨b',us',e2,_,⟨o',ho',hc',n',hd'⟩,h2⟩:=(h.keep k).get hj;rw[e1,e2];refine kat_lt ho hd ho' hd' ?_;have l1:=Rx h1;have l2:=Rx h2;refine wf6 (s:=s') 0 s'.toks h1 h2 (λz=>?_) (λz=>?_) (λz=>?_) q
  ·simp;lia
  ·simp;lia
  ·simp;lia
end
variable {items:Array A_}
section
variable {u:A_}{G:List A_->Prop}
def cA(prog:BZ)(w:CV)(A:DK)(s:BJ)(u:A_)(G:List A_->Prop):Prop:=∀(Q:List A_->BJ->Prop)(E:A_->BJ->Prop),
 (∀vs h' m q,(∀b o,s.heap.get? b=some o->h'.get? b=some o)->vs.length<=sizeLine->G vs->Q vs {s with heap:=h',drawn:=q,toks:=m})->BL (BR prog w) A (dR u) Q E s
def yX{a:BK}{T:String}{o:FZ}(B:T = "list"\/T = "tuple")(r:s.heap.get? a=some o)(z:o.cls=.type T)(y:o.data=.seq items n)(m:items.size<=sizeLine):
  cA prog w A s (.ref a) λvs=>vs=items.toList:=λQ E q=>wpAny_collect_seq a B r z y (λh' k=>q _ h' s.toks s.drawn k (by simpa using m) rfl) m
end
def O8{d':dW}(I:Inv X pins σ H s)(k:∀b o,s.heap.get? b=some o->h'.get? b=some o):Inv X pins σ H {s with heap:=h',drawn:=d',toks:=t'}:=by
 refine I.step (g':=s.gens) (d':=d') (ch:=[]) (λb B=>nomatch B) (λb o _ _ q e _=>k b o e) (λb o _ _ q e _=>⟨o.slots,k b o e⟩) (λ_ _ _ _ n=>n)
  (λb o q e=>⟨o,k b o e⟩) (λ_ _ e=>e) (λ_ _ _ e=>e) (λb ps e=>⟨#[],by rw[e];simp⟩) (λm z=>?_) (I.hok.kept k) I.bare
 revert z;refine cX λo es C y r=>?_;exact⟨o,es,C,k _ o y,r⟩
def ints_of{K:B_}{H:Hp}{S:AS}:∀{ds:List D}{vs:List V}{us:List A_}{ns:List Int},An K H S ds vs->Vals vs us->Ax ds=some ns->FT us ns
 | [],vs,us,ns,h,r,e=>by cases(show vs=[] from h);cases r;cases e;exact .nil
 |d::ds,vs,us,ns,h,r,e=>by
  revert h;refine Bo λv y m C h2=>?_;obtain rfl:=m;cases r with
  |cons B z =>
   cases d with
   |int i =>
    cases(show v=.int i from C);have⟨t,F⟩:=(show ∃t,_=Value.int i t from B);subst F;cases q:Ax ds with
    |none=>simp[Ax,q]at e
    |some G=>simp[Ax,q]at e;subst e;exact .cons i t (ints_of h2 z q)
   |_=>cases e
def yK:∀{ds:List D},ds.all lF=true->∃ns,Ax ds=some ns/\ns.length=ds.length/\∀i d,ds[i]? = some d->[ns.getD i 0]=keyOf d
 | [],_=>⟨[],rfl,rfl,λi d h=>by simp at h⟩
 |d::ds,h=>by
  rw[h_,QH]at h;refine Gk (λns e q r=>?_) (yK h.2);cases d with
  |int i =>
   refine⟨i::ns,by simp[Ax,e],by simp[q],λj x m=>?_⟩;cases j with
   |zero=>simp at m;subst m;simp[keyOf,bR]
   |succ j=>simpa using r j x (by simpa using m)
  |_=>simp[lF]at h
def vM{X:Cx}{pins:List (BK×FZ)}{σ:St}{H:Hp}{s:BJ}{S:AS}{a:BK}(I:Inv X pins σ H s)(U:s.heap.objs.size<=a):∀{ds:List D}{vs:List V}{us:List A_},ds.all Qy=true->An X.K H S ds vs->Vals vs us ->
  ∃m,Hr s.heap a us m/\∀i d,ds[i]? = some d->m.getD i []=keyOf d
 | [],vs,us,_,h,r=>by cases(show vs=[] from h);cases r;exact⟨[],.nil,λi d h=>by simp at h⟩
 |d::ds,vs,us,G,h,r=>by
  rw[h_,QH]at G;revert h;refine Bo λv L C h1 h2=>?_;obtain rfl:=C;cases r with
  |cons r1 r2 =>
   refine Am (λm q hk=>?_) (vM I U G.2 h2 r2)
   match d,G.1 with
   | .tup (x::xs),hd =>
    revert h1;refine Bo λb ws z hq rr=>?_;obtain rfl:=z;have e1:_=Value.ref b:=r1;subst e1;refine Gk (λB rv p _=>?_) (I.tuple (TpR.sq hq));cases e:Ax (x::xs) with
    |none=>simp[Qy,e]at hd
    |some ns =>
     have hi:=ints_of rr rv e;have J:ns≠[]:=by rintro rfl;cases x<;>first | (cases e2:Ax xs<;>simp[Ax,e2]at e) |cases e
     have hb:b≠a:=by revert p;refine Am λo ho _=>?_;exact JV (QF (GQ ho) U)
     refine⟨ns::m,.cons ⟨b,B,rfl,hb,p,hi⟩ J q,λi y F=>?_⟩;cases i with
     |zero=>simp at F;subst F;simp[keyOf,bR,e]
     |succ i=>simpa using hk i y (by simpa using F)
def Hr.push{a:BK}{o:FZ}:∀{us:List A_}{m:List (List Int)},Hr h a us m->Hr (h.push o) a us m:=λx=>x.keep (Bs.push _ _)
def Cq:List D->Option D
 | [d]=>match J3 d with
  |some xs=>if xs.length<64/\(xs.length<2\/Dq xs=true) then some (.lst (if xs.length<2 then xs else srt xs)) else none
  |none=>none
 |_=>none
def Vals.getD(r:Vals vs us)(hi:i<us.length):RelV (vs.getD i .non) (us.getD i .none):=by
 have m:i<vs.length:=by rw[r.length];exact hi
 refine Am (λu q y=>?_) (r.get (GJ m));have e:us[i]? = some us[i]:=GJ hi;rw[e]at q;cases q;simpa[hi,m] using y
def xK{vs:List V}{us:List A_}(r:Vals vs us):∀(l:List Nat),(∀i∈l,i<us.length)->Vals (l.map λi=>vs.getD i .non) (l.map λi=>us.getD i .none)
 | [],_=>.nil
 |i::l,h=>.cons (Vals.getD r (h i LK)) (xK r l λj m=>h j (JW _ m))
def xZ{K:B_}{H:Hp}{S:AS}{ds:List D}{vs:List V}(r:An K H S ds vs):∀(l:List Nat),(∀i∈l,i<ds.length)->An K H S (l.map λi=>ds.getD i .non) (l.map λi=>vs.getD i .non)
 | [],_=>An.nil
 |i::l,h=>by
  have m:=h i LK;refine Am (λv y q=>?_) (r.get (GJ m));refine .cons ?_ (xZ r l λj z=>h j (JW _ z));have C:ds.getD i .non=ds[i]:=by simp[m]
  have B:vs.getD i .non=v:=by rw[NQ,y];rfl
  show Rep K H S (ds.getD i .non) (vs.getD i .non);rw[C,B];exact q
section
variable {fs:Ev->R (List D)}
def Q8{S:AS}{Q:VK}{rw:Array Nat}{tk m:Nat}{d':dW}(U:Inv X pins σ H {s with heap:=h',drawn:=d',toks:=tk})
  (J:An X.K H S xs vs)(I:Vals vs us)(hz:us.length<=sizeLine)(L:V8 us.length rw)(k2:∀b o,h'.get? b=some o->h2.get? b=some o)(G:∃e,h2.get? h'.objs.size=some (HJ "list" (VB (rw.toList.map λi=>us.getD i .none)) e))
  (q:∀a r H',Af H H'->H a=none->H' a=some (.lst r)->An X.K H' (AS.but S a) (rw.toList.map λi=>xs.getD i .non) r->Q (.ref a) H'):
  EP X pins σ Q (.ref h'.objs.size) {s with heap:=h2,drawn:=d',toks:=m}:=by
 have y:=J.length;have C:=I.length;have lt:∀i∈rw.toList,i<us.length:=λi F=>KY.mp (L.mem_iff.mp F);have B:H h'.objs.size=none:=U.hok.fresh (FW _);obtain⟨e,G⟩:=G;have I2:Inv X pins σ (upd H h'.objs.size (.lst (rw.toList.map λi=>vs.getD i .non))) {s with heap:=h2,drawn:=d',toks:=m}:=
  U.laid (t':=m) k2 (FW _) ⟨by rw[HN,ZZ,L.size];exact hz,_,e,xK I _ lt,G⟩
 exact⟨.ref h'.objs.size,_,I2,rfl,q _ _ _ (Aj B _) B Ah (((xZ J _ λi F=>by rw[y,C];exact lt i F).avoid B).mono (Aj B _) λ_ z=>z)⟩
end
def Ris(p:Array Nat):Prop:=p.toList.Pairwise (·<·)
theorem Ris.lt{p:Array Nat}(h:Ris p)(m:i<j)(q:j<p.size):p.getD i 0<p.getD j 0:=by have:=fO.mp h i j (by simp;omega) (by simpa using q) m;simpa[Array.getD,q,show i<p.size by omega] using this
def ko8{p:Array Nat}(h:i<p.size)(d:Nat):p.getD i d=p.getD i 0:=by simp[Array.getD,h]
theorem Wl{p:Array Nat}{j:Nat}(h:Ris p):∀(f lo hi:Nat),hi - lo<=f->lo<=hi->hi<=p.size->(∀i,i<lo->p.getD i 0<j)->(∀i,hi<=i->i<p.size->j<=p.getD i 0) ->
  SetTable.below.go p j f lo hi<=p.size/\(∀i,i<SetTable.below.go p j f lo hi->p.getD i 0<j)/\∀i,SetTable.below.go p j f lo hi<=i->i<p.size->j<=p.getD i 0
 |0,lo,hi,F,h2,y,r,q=>by
  have e:hi=lo:=by omega
  subst e;exact⟨y,r,q⟩
 |f+1,lo,hi,F,h2,y,r,q=>by
  unfold SetTable.below.go;by_cases m:lo<hi
  ·rw[if_pos m];have z:(lo+hi) / 2<p.size:=by omega
   dsimp only;rw[ko8 z];by_cases c:p.getD ((lo+hi) / 2) 0<j
   ·rw[if_pos c];refine Wl h f _ hi (by omega) (by omega) y (λi B=>?_) q;by_cases e:i=(lo+hi) / 2
    ·rw[e];exact c
    ·exact g_ (h.lt (by omega) z) c
   ·rw[if_neg c];refine Wl h f lo _ (by omega) (by omega) (by omega) r λi G C=>?_;by_cases e:i=(lo+hi) / 2
    ·rw[e];omega
    ·have:=h.lt (i:=(lo+hi) / 2) (j:=i) (by omega) C;omega
  ·rw[if_neg m];have e:hi=lo:=by omega
   subst e;exact⟨y,r,q⟩
theorem Wm{p:Array Nat}(h:Ris p)(j:Nat):SetTable.below p j<=p.size/\(∀i,i<SetTable.below p j->p.getD i 0<j)/\∀i,SetTable.below p j<=i->i<p.size->j<=p.getD i 0:=
 Wl h p.size 0 p.size (by omega) (by omega) (FW _) (λi z=>by omega) λi m h2=>by omega
def wt6{p:Array Nat}{x:Nat}(h:x∈p.toList.take n):∃i,i<n/\i<p.size/\p.getD i 0=x:=by
 have⟨i,q,e⟩:=YZ.mp h;have m:i<n/\i<p.size:=by simpa[Nat.lt_min] using q
 refine⟨i,m.1,m.2,?_⟩;rw[<-e];simp[Array.getD,m.2]
theorem wf9{p:Array Nat}{x:Nat}(h:x∈p.toList.drop n):∃i,n<=i/\i<p.size/\p.getD i 0=x:=by
 have⟨i,q,e⟩:=YZ.mp h;have m:i<p.size - n:=by simpa using q
 refine⟨n+i,by omega,by omega,?_⟩;rw[<-e];simp[Array.getD,show n+i<p.size by omega]
theorem wk0{p:Array Nat}(h:Ris p)(L:p[SetTable.below p j]? ≠ some j):Ris (SetTable.insertAt p (SetTable.below p j) j):=by
 unfold Ris;rw[SetTable.toList_insertAt];refine bY (λh1 h2 J=>?_) (Wm h j);rw[WY,jGw];have F:∀x∈p.toList.drop (SetTable.below p j),j<x:=λx C=>by
  refine Gk (λi B r e=>?_) (wf9 C);have:=J i B r;by_cases z:i=SetTable.below p j
  ·have m:SetTable.below p j<p.size:=by omega
   rw[YD m]at L;have:p.getD (SetTable.below p j) 0=p[SetTable.below p j]:=by simp[Array.getD,m]
   rw[<-e,z];have U:=J _ (FW _) m;rw[this]at U ⊢;exact Nat.lt_of_le_of_ne U λq=>L (by rw[<-q])
  ·have h5:=h.lt (i:=SetTable.below p j) (j:=i) (by omega) r;have h6:=J (SetTable.below p j) (FW _) (by omega);omega
 have G:∀x∈p.toList.take (SetTable.below p j),x<j:=λx C=>by refine Gk (λi B r e=>?_) (wt6 C);rw[<-e];exact h2 i B
 refine⟨h.sublist (jHb _ _),⟨F,h.sublist (List.drop_sublist _ _)⟩,λx C y I=>?_⟩;rcases HY.mp I with rfl |I
 ·exact G x C
 ·exact g_ (G x C) (F y I)
structure cZ(t:SetTable):Prop where
 dm:t.dummies = #[]
 ris:t.plain=true->Ris t.place
def wG(j:Nat):SetTable.has #[] j=false:=by unfold SetTable.has;simp
theorem yC{t:SetTable}(r:t.dummies = #[]){y:Nat->Int}{h:Int}{j:Nat}{d:Option Nat}:∀(f:Nat)(p:SetTable.Probe),p.dummy=none->SetTable.probe.go t y h f p=some (.empty j d)->t.slot j=.empty/\d=none
 |0,p,_,e=>by simp[SetTable.probe.go]at e
 |f+1,p,q,e=>by
  unfold SetTable.probe.go at e;have m:(t.advance p).dummy=none:=by unfold SetTable.advance;split<;>exact q
  split at e
  ·rename_i es;injection e with e;injection e with C B;subst C;exact⟨es,by rw[<-B];exact q⟩
  ·rename_i es;unfold SetTable.slot at es;rw[r,wG]at es;dsimp only at es;split at es
   ·cases es
   ·rename_i z;exact absurd es (by simp)
  ·split at e
   ·cases e
   ·exact yC r f _ m e
theorem ju2{t:SetTable}(h:t.slot j=.empty):t.place[SetTable.below t.place j]? ≠ some j:=by
 unfold SetTable.slot at h;dsimp only at h;split at h
 ·cases h
 ·rename_i z;simpa using z
def Ko(t:SetTable)(n:Nat):cZ (t.standIn n):=⟨rfl,λz=>by cases z⟩
theorem js7{t:SetTable}(T:cZ t)(es:Array (Int×A_))(h:Int)(x:A_):cZ (jW t es h x).2.1/\(jW t es h x).2.1.led=t.led:=by
 unfold jW;split
 ·rename_i slot B e;dsimp only;unfold SetTable.orStandIn;split
  ·unfold SetTable.freeSlot at e;split at e
   ·rename_i j d z;have⟨r,y⟩:=yC T.dm _ _ rfl z;subst y;injection e with e;injection e with m C;have m:j=slot:=m;subst m;refine⟨⟨?_,λq=>?_⟩,rfl⟩
    ·show(if SetTable.has t.dummies j=true then _ else t.dummies) = #[];rw[T.dm,wG];rfl
    ·exact wk0 (T.ris q) (ju2 r)
   ·cases e
  ·exact⟨Ko _ _,rfl⟩
 ·exact⟨Ko _ _,rfl⟩
def ks4{q:Type}(f:Nat->Option q):∀(l:List Nat),l.Pairwise (·<·)->((l.filterMap λj=>(f j).map λb=>(j,b)).map (·.1)).Pairwise (·<·):=by
 have e:∀l:List Nat,((l.filterMap λj=>(f j).map λb=>(j,b)).map (·.1))=l.filter λj=>(f j).isSome:=by
  intro l;induction l with
  |nil=>rfl
  |cons a l m =>
   cases e:f a with
   |none=>rw[List.filterMap_cons_none (by simp[e]),iV (by simp[e]),m]
   |some b=>rw[List.filterMap_cons_some (by simp[e];rfl),iU (by simp[e]),NP,m]
 intro l r;rw[e];exact r.filter _
def ju0{t t':SetTable}{hs:Array Int}{o:Array Nat}(e:t.relaid hs n=some (t',o)):cZ t'/\t'.led=t.led:=by
 unfold SetTable.relaid SetTable.laid at e;cases m:SetTable.layClean (SetTable.sizeAbove n - 1) hs with
 |none=>rw[m]at e;cases e
 |some r=>rw[m]at e;have e:=Option.some.inj e;have q:=(Prod.mk.inj e).1;subst q;exact⟨⟨rfl,λ_=>ks4 _ _ aY⟩,rfl⟩
theorem jf1{t:SetTable}(es:Array (Int×A_))(n:Nat):cZ (QQ t es n).2.1/\(QQ t es n).2.1.led=t.led:=by
 unfold QQ;split
 ·rename_i t' o e;dsimp only;split
  ·exact ju0 e
  ·exact⟨Ko _ _,rfl⟩
 ·exact⟨Ko _ _,rfl⟩
def intOf:A_->Int
 | .int i _=>i
 |_=>0
def Hl(es:Array (Int×A_)):List Int:=es.toList.map λe=>intOf e.2
def Te(P:BZ)(w:CV)(ns:List Int)(o:FZ):Prop:=∃es m t,o.ExactSet/\o.data=.set es m t/\VH (IW P w) es.toList/\(Hl es).Nodup/\(∀k,k∈Hl es↔k∈ns)/\es.size<J_/\t.fits es.size=true/\cZ t /\
 t.led = !w.params.followText "set-order"
def yI{es:List (Int×A_)}(h:VH (IW P w) es){k:Int}{e:Int×A_}(q:e∈es):(IW P w).is k e.2=true↔intOf e.2=k:=by
 have⟨⟨j,m,_⟩,_⟩:=h e q;have⟨t,r⟩:=Value.isInt_shape (k:=j) (v:=e.2) m;rw[r];show Value.isInt k (.int j t)=true↔j=k;constructor
 ·intro z;have⟨t',Z⟩:=Value.isInt_shape z;cases Z;rfl
 ·rintro rfl;exact cI P w j t
variable {es':Array (Int×A_)}{ep:Nat}
section
variable {a:BK}
def Yr{es:Array (Int×A_)}(p:es'.toList.Perm es.toList):(Hl es').Perm (Hl es):=p.map _
def vU{o:FZ}{es:Array (Int×A_)}{t t':SetTable}(q:s.heap.get? a=some o)(m:o.data=.set es ep t):(s.heap.update a (Obj.putSet es' t')).get? a=some {o with data:=.set es' (ep+1) t'}:=by have:=YC (Obj.putSet es' t') q (by rw[putSet_of es' t' m];rfl);rw[putSet_of es' t' m]at this;exact this
theorem set_tail{o:FZ}{es m:Array (Int×A_)}{t r:SetTable}{wd:Bool}{g:Bool->Sem Unit}{R:Option Bool->BJ->Prop}(hg:∀(b:Bool)(s1:BJ)(Q':Unit->BJ->Prop),Q' () s1->BL (BR prog w) A (g b) Q' E s1)
  (ho:s.heap.get? a=some o)(hex:o.ExactSet)(hd:o.data=.set es ep t)(J:VH (IW prog w) m.toList)(I:(Hl m).Nodup)(C:∀k,k∈Hl m↔k∈ns)(hb:m.size<J_)(hf:r.fits m.size=true)(hT:cZ r)(F:r.led = !w.params.followText "set-order")
  (h:∀h' o',Heap.SameBut a s.heap h'->h'.get? a=some o'->Te prog w ns o'->(∀B ae U,o'.data=.set B ae U->B.size=m.size)->R (some true) {s with heap:=h'}):
  BL (BR prog w) A (do
   storeSet a m r
   if(!wd && r.tooFull)=true then do
    g (QQ r m (SetTable.grown m.size)).2.2
    storeSet a (QQ r m (SetTable.grown m.size)).1 (QQ r m (SetTable.grown m.size)).2.1
    pure (some true)
   else pure (some true)) R E s:=by
 refine BX (cM ho hd ?_ (JQ hb));have o1:=vU (es':=m) (t':=r) ho hd;have G:=Heap.SameBut.update s.heap a (Obj.putSet m r);split
 ·have q:=relayAll_perm r m (SetTable.grown m.size);have y:=relayAll_fits r m (SetTable.grown m.size);have z:=jf1 (t:=r) m (SetTable.grown m.size);generalize QQ r m (SetTable.grown m.size)=L at q y z ⊢;obtain⟨B,U,af⟩:=L;dsimp only at q y z ⊢;have hz:B.size=m.size:=by have:=q.length_eq;simpa using this
  refine BX (hg _ _ _ ?_);refine BX (cM o1 rfl ?_ (JQ (by lia)));refine CW (h _ _ (G.trans (Heap.SameBut.update _ a _)) (vU (s:={s with heap:=s.heap.update a (Obj.putSet m r)}) o1 rfl) ⟨B,_,U,hex,rfl,J.perm q,(Yr q).nodup_iff.mpr I,λk=>((Yr q).mem_iff).trans (C k),by lia,y,z.1,z.2.trans F⟩ λaa ab t3 e=>by cases e;exact hz)
 ·exact CW (h _ _ G o1 ⟨m,_,r,hex,rfl,J,I,C,hb,hf,hT,F⟩ λaa ab t3 e=>by cases e;rfl)
theorem wk9{k:Int}{tk:Tok}{o:FZ}{Q:Bool->BJ->Prop}(ho:s.heap.get? a=some o)(hS:Te prog w ns o)(ab:(∀es ep t,o.data=.set es ep t->es.size+1<J_))
  (h:∀b h' o',Heap.SameBut a s.heap h'->h'.get? a=some o'->Te prog w (k::ns) o'->(∀es ep t es' aw t',o.data=.set es ep t->o'.data=.set es' aw t'->es'.size<=es.size+1)->Q b {s with heap:=h'}):
  BL (BR prog w) A (setAddHashed a (.int k tk) (VG k)) Q E s:=by
 obtain⟨es,ep,t,hex,hd,F,ah,G,hb,hf,hT,I⟩:=hS;have ay:=ab es ep t hd;have U:(IW prog w).is k (.int k tk)=true:=cI prog w k tk;unfold setAddHashed setAddHashedIn;refine CT (BX (JL ho hd hf ?_));dsimp only;rw[byScan_of (knd:=IW prog w) (x:=.int k tk) rfl hb F];simp only[if_true];unfold setAddByScan;refine BX ?_;refine BX (wpAny_rule ?_);refine BX (wpAny_setScan_of (knd:=IW prog w) (k:=k) U ho hd hf F ?_);cases hr:List.findIdx? (λe=>(IW prog w).is k e.2) es.toList with
 |some j =>
  dsimp only;have⟨hj,hp,_⟩:=List.findIdx?_eq_some_iff_getElem.mp hr;have au:k∈Hl es:=JF.mpr ⟨_,RG hj,(yI F (RG hj)).mp hp⟩;refine CW (CW ?_);have:=h false s.heap o (Heap.SameBut.refl a s.heap) ho ⟨es,ep,t,hex,hd,F,ah,λk'=>(G k').trans ⟨JW _,λz=>(HY.mp z).elim (λq=>by rw[q];exact(G k).mp au) id⟩,hb,hf,hT,I⟩ (λC az t1 ae ar t2 e1 e2=>by
   rw[e1]at e2;cases e2;lia)
  exact this
 |none =>
  dsimp only;have ag:k∉Hl es:=λz=>by have⟨e,he,q⟩:=JF.mp z;have:=List.findIdx?_eq_none_iff.mp hr e he;rw[(yI F he).mpr q]at this;cases this
  have m:=layNew_perm t es (VG k) (.int k tk);have B:=layNew_fits t es (VG k) (.int k tk);have r:=js7 hT es (VG k) (.int k tk);generalize jW t es (VG k) (.int k tk)=L at m B r ⊢;obtain⟨C,t1,wd,ao⟩:=L;dsimp only at m B r ⊢;rw[qN]at m;have aa:VH (IW prog w) C.toList:=(F.push (knd:=IW prog w) U rfl).perm m;have af:(Hl C).Perm (Hl es++[k]):=by have:=m.map λe:Int×A_=>intOf e.2;rw[UG]at this;exact this
  have ai:(Hl C).Nodup:=af.nodup_iff.mpr (fG.mpr ⟨ah,by simp,λx hx y hy=>by
   rw[LR]at hy;rintro rfl;exact ag (hy ▸ hx)⟩)
  have aj:∀k',k'∈Hl C↔k'∈k::ns:=λk'=>by rw[af.mem_iff,NT,LR,HY,G,or_comm]
  have ax:C.size=es.size+1:=by have:=m.length_eq;simpa using this
  have ak:C.size<J_:=by lia
  have hg:∀(b:Bool){s1:BJ}{Q':Unit->BJ->Prop},Q' () s1->BL (BR prog w) A (match b with |true=>rule "set.scan.the-table-gave-way" |false=>pure ()) Q' E s1:=λb s1 Q' J=>by cases b<;>first |exact CW J |exact wpAny_rule J
  refine BX (hg ao ?_);have aq:∀h' o',Heap.SameBut a s.heap h'->h'.get? a=some o'->Te prog w (k::ns) o'->(∀ae ar t2,o'.data=.set ae ar t2->ae.size=C.size)->Q true {s with heap:=h'}:=λh' o' x1 x2 x3 x4 =>
   h true h' o' x1 x2 x3 λe1 p1 q1 e2 p2 q2 y1 y2=>by rw[hd]at y1;cases y1;have:=x4 _ _ _ y2;lia
  split
  ·rw[hashByValue_scannable 8 (x:=.int k tk) rfl];refine BX (CW ?_);simp only[plainKind,if_true];exact set_tail (ns:=k::ns) (λb s1 Q' J=>by cases b<;>first |exact CW J |exact wpAny_rule J) ho hex hd aa ai aj ak B r.1 (r.2.trans I) λh' o' x1 x2 x3 x4=>CW (aq h' o' x1 x2 x3 x4)
  ·refine BX (CW ?_);simp only[if_true];exact set_tail (ns:=k::ns) (λb s1 Q' J=>by cases b<;>first |exact CW J |exact wpAny_rule J) ho hex hd aa ai aj ak B r.1 (r.2.trans I) λh' o' x1 x2 x3 x4=>CW (aq h' o' x1 x2 x3 x4)
end
def Pu:Slot "set_iterator" "__next__" "set_iterator.__next__":=.of (owner:="set_iterator") (n:="__next__") (by rw[P_,JX];kernel_rfl) (by decide +kernel) (by decide +kernel) (by decide +kernel) (by first |exact .inl (by decide +kernel) |exact .inr (by decide +kernel)) (by rw[QR];kernel_rfl)
def Sx(a:A_):ZD "set_iterator.__next__" ⟨[a],[]⟩:=by unfold ZD;kernel_rfl
def Yz(a:A_):ZD "set.__iter__" ⟨[a],[]⟩:=by unfold ZD;kernel_rfl
def Ql:mU table "set_iterator.__next__" = some GR.«set_iterator.__next__»:=entryFor_of_tree (by kernel_rfl)
def Yj:mU table "set.__iter__" = some GR.«frozenset.__iter__» :=
 mR (id':="frozenset.__iter__") (by kernel_rfl) (by first |rfl |decide +kernel | (unfold String.splitOn;simp +decide [String.splitOnAux])) (by decide +kernel) (by kernel_rfl)
def Qx{m:Type}:∀{xs:List m}{i:Nat}(h:i<xs.length),(xs[i]::xs.eraseIdx i).Perm xs
 |x::xs,0,_=>.refl _
 |x::xs,i+1,h=>by
  have h':i<xs.length:=by simpa using h
  show(xs[i]::x::xs.eraseIdx i).Perm (x::xs);exact(List.Perm.swap _ _ _).trans (.cons x (Qx h'))
def wp_choose{src:Source}{Q:Nat->BJ->Prop}(m:0<n)(h:∀i q,i<n->Q i {s with drawn:=q}):BL M A (choose src n) Q E s:=
 λ_ _ _=>⟨S_ m,h _ _ (Nat.mod_lt _ m)⟩
theorem Td{q:Type}:∀(n:Nat)(xs:List q){s:BJ}{Q:List q->BJ->Prop},n=xs.length->(∀ys r,ys.Perm xs->Q ys {s with drawn:=r})->BL M A (drawOrder n xs) Q E s
 |0,xs,s,Q,e,h=>by
  cases xs with
  |nil=>exact CW (h [] s.drawn (.refl _))
  |cons _ _=>simp at e
 |n+1,[],s,Q,e,h=>by simp at e
 |n+1,x::xs,s,Q,e,h=>by unfold drawOrder;refine BX (wp_choose (by simp) λi r m=>?_);have z:(x::xs)[i]? = some (x::xs)[i]:=GJ m;rw[z];dsimp only;refine BX (Td n _ (by rw[jFg m];lia) λys B y=>CW (h _ B ?_));exact(List.Perm.cons _ y).trans (Qx m)
def Ue{Q:Bool->BJ->Prop}(h:Q (M.w.params.followText "set-order") s):BL M A setsByText Q E s:=BX (SJ (CW h))
theorem Z4{q:Type}(f:Nat->Nat):∀(n k:Nat)(xs:List q)(out:Array q),n=xs.length->(pickOrder.go f n k xs out).toList.Perm (out.toList++xs)
 |0,k,xs,out,e=>by
  cases xs with
  |nil=>unfold pickOrder.go;simp
  |cons _ _=>simp at e
 |n+1,k,xs,out,e=>by unfold pickOrder.go;have m:f k % xs.length<xs.length:=Nat.mod_lt _ (by lia);rw[GJ m];dsimp only;refine(Z4 f n (k+1) _ _ (by rw[jFg m];lia)).trans ?_;rw[qN,PL];exact List.Perm.append_left _ (Qx m)
def Xy{m:Type}(f:Nat->Nat)(xs:Array m):(XN f xs).toList.Perm xs.toList:=by have:=Z4 f xs.size 0 xs.toList #[] (by simp);simpa[XN] using this
def gZ(w:CV)(S:BK)(es:Array (Int×A_))(ep:Nat)(t:SetTable)(h:CP)(first:A_)(i:Nat)(ord:List (Int×A_)):Prop:=
 (w.params.followText "set-order" = true/\(∃m:Nat,first=CK m)/\ord=(XN (w.params.setOrder S ep) es).toList) \/
 (w.params.followText "set-order" = false/\((!t.plain && decide (es.size>1))=false/\t.led=true/\Ris t.place)/\ord=es.toList/\first=CK ((if i=0 then 0 else t.place.getD (i - 1) 0+1:Nat):Int)) \/
 (w.params.followText "set-order" = false/\∃(T:BK)(o:FZ)(pl:List Nat)(n:Nat),first=.ref T/\h.get? T=some o/\o.data=.seq (VB (pl.map λ(k:Nat)=>CK (k:Int))) n/\pl.length=es.size/\(∀k∈pl,k<es.size)/\ord=pl.map λk=>es.getD k (0,.none))
def SIt(w:CV)(S I:BK)(fp:List BK)(ord:List (Int×A_))(i:Nat)(s:BJ):Prop:=∃o es ep t first,s.heap.get? S=some o/\o.data=.set es ep t/\t.fits es.size=true/\ord.length=es.size /\
 s.heap.get? I=some {cls:=.type "set_iterator",data:=.fields #[first,CK (i:Int),.ref S,CK (es.size:Int),CK (ep:Int)] }/\gZ w S es ep t s.heap first i ord/\(∀T,first=.ref T->T∈fp)
section
variable {S I:BK}{r:List (Int×A_)}
theorem Ys{o:FZ}{es:Array (Int×A_)}{t:SetTable}{first:A_}{slot:Nat}{Q:Option (A_×Nat)->BJ->Prop}(hS:s.heap.get? S=some o)(hd:o.data=.set es ep t)(U:t.fits es.size=true)(hl:r.length=es.size)(hi:i<=r.length)
  (hm:gZ w S es ep t s.heap first i r)(hs:first=CK (slot:Int))
  (h:∀next:Nat,(i<r.length->gZ w S es ep t s.heap (CK (next:Int)) (i+1) r)->Q ((r[i]?).map λe=>(e.2,next)) s):BL (BR prog w) A (cT S slot i ep) Q E s:=by
 unfold cT;refine BX (JL hS hd U ?_);dsimp only;refine BX (Ue ?_);rcases hm with ⟨J,_,L⟩ | ⟨J,⟨aa,G,B⟩,L,F⟩ | ⟨J,T,o',pl,n,F,_⟩
 ·rw[show(BR prog w).w.params.followText "set-order" = true from J];simp only[if_true];have e1:(ep != ep)=false:=by simp
  rw[e1];simp only[WK,if_false];unfold setWalk;refine BX (BX (JL hS hd U ?_));dsimp only;refine BX (Ue ?_);rw[show(BR prog w).w.params.followText "set-order" = true from J];simp only[if_true];refine BX (SJ (CW (CW ?_)));have:=h slot λ_=>.inl ⟨J,⟨slot,rfl⟩,L⟩;rw[L,fM]at this;exact this
 ·rw[show(BR prog w).w.params.followText "set-order" = false from J];simp only[WK,if_false];show BL _ _ (if(!t.plain && decide (es.size>1))=true then _ else _) _ _ s;rw[aa];simp only[WK,if_false];show BL _ _ ((if(!t.led && !es.isEmpty)=true then unsupported "set:maker-not-led" else pure ()) >>= _) _ _ s;rw[G];simp only[lR,qD,WK,if_false];refine BX (CW (CW ?_));have ab:t.place.size=es.size:=by unfold SetTable.fits at U;simp at U;exact U.1
  have m:slot=if i=0 then 0 else t.place.getD (i - 1) 0+1:=by
   rw[hs]at F;have:(slot:Int)=((if i=0 then 0 else t.place.getD (i - 1) 0+1:Nat):Int):=by injection F
   exact Int.ofNat.inj this
  have hb:SetTable.below t.place slot=i:=by
   refine bY (λb1 b2 b3=>?_) (Wm B slot);rcases Nat.lt_trichotomy (SetTable.below t.place slot) i with z |z |z
   ·have C:SetTable.below t.place slot<t.place.size:=by lia
    have y:=b3 _ (FW _) C;rw[if_neg (by lia)]at m;by_cases q:SetTable.below t.place slot=i - 1
    ·rw[q]at y;lia
    ·have:=B.lt (i:=SetTable.below t.place slot) (j:=i - 1) (by lia) (by lia);lia
   ·exact z
   ·have y:=b2 i z;by_cases q:i=0
    ·rw[if_pos q]at m;lia
    ·rw[if_neg q]at m;have:=B.lt (i:=i - 1) (j:=i) (by lia) (by lia);lia
  rw[hb];have:=h (t.place.getD i 0+1) λC=>.inr (.inl ⟨J,⟨aa,G,B⟩,L,by simp⟩);rw[L]at this;by_cases C:i<es.size
  ·have hp:i<t.place.size:=by lia
   rw[YD C,YD hp];have e1:es.toList[i]? = some es[i]:=by simp[C]
   have e2:t.place.getD i 0=t.place[i]:=by simp[Array.getD,hp]
   rw[e1,e2]at this;exact this
  ·rw[jFu (by lia)];have e1:es.toList[i]? = none:=by simp;lia
   rw[e1]at this;exact this
 ·rw[F]at hs;cases hs
theorem wl4{Q:Option A_->BJ->Prop}(st:SIt w S I fp r i s)(hi:i<r.length)(ae:S≠I)(aj:∀T∈fp,T≠I)
  (h:∀h',Heap.SameBut I s.heap h'->SIt w S I fp r (i+1) {s with heap:=h'}->Q (some r[i].2) {s with heap:=h'}):BL (BR prog w) A (JP (.ref I)) Q E s:=by
 revert st;refine gJ λo es ep t first hS hd U hl z hm L=>?_
 have hT:s.TypeIs (.ref I) "set_iterator":=⟨_,z,rfl⟩;unfold JP;refine BX (IK (DW (name:=Str.ofString "__next__") hT Pu (C_ Pu hT Ql ?_ (Sx _))));show BL _ _ (fieldsOf (.ref I) >>= _) _ _ s;refine BX (QM z rfl ?_);show BL _ _ (bI S >>= _) _ _ s;refine BX (Q_ hS hd U ?_);have e0:((es.size:Int) != (es.size:Int))=false:=by simp
 rw[e0];simp only[WK,if_false];have ah:i<=r.length:=aU hi;by_cases q:∃T,first=.ref T
 ·obtain⟨T,rfl⟩:=q;rcases hm with ⟨_,⟨m,e⟩,_⟩ | ⟨_,_,_,e⟩ | ⟨hw,T',o',pl,n,e,ab,aa,G,F,ho⟩
  ·cases e
  ·cases e
  ·cases e;refine BX (GZ ab aa ?_);dsimp only;have J:i<pl.length:=by lia
   have e1:(VB (pl.map λ(k:Nat)=>CK (k:Int)))[(i:Int).toNat]? = some (CK (pl[i]:Int)):=by simp[J]
   rw[e1];show BL _ _ (setNextDrawn S (pl[i]:Int).toNat (ep:Int).toNat >>= _) _ _ s;simp only[XQ];have hk:pl[i]<es.size:=F _ (RG J);unfold setNextDrawn;refine BX (BX (JL hS hd U ?_));dsimp only;rw[show(ep != ep)=false by simp,YD hk];simp only[WK,if_false];refine CW ?_;refine BX (DX z rfl (by simp) ?_);have C:=Heap.SameBut.update s.heap I (Obj.mapFields (·.setIfInBounds 1 (CK ((i:Int)+1))));refine CW ⟨_,rfl,CW ?_⟩;have eo:r[i].2=es[pl[i]].2:=by subst ho;simp[Array.getD,hk]
   rw[<-eo];refine h _ C ⟨o,es,ep,t,.ref T,(C.2 S ae).trans hS,hd,U,hl,?_,.inr (.inr ⟨hw,T,o',pl,n,rfl,(C.2 T (aj T (L T rfl))).trans ab,aa,G,F,ho⟩),L⟩;have:=YC (Obj.mapFields (·.setIfInBounds 1 (CK ((i:Int)+1)))) z rfl;simpa[Obj.mapFields] using this
 ·obtain⟨m,ai⟩:∃m:Nat,first=CK (m:Int):=by
   rcases hm with ⟨_,e,_⟩ | ⟨_,_,_,e⟩ | ⟨_,T,_,_,_,e,_⟩
   ·exact e
   ·exact⟨_,e⟩
   ·exact absurd ⟨T,e⟩ q
  subst ai;show BL _ _ (cT S (m:Int).toNat (i:Int).toNat (ep:Int).toNat >>= _) _ _ s;simp only[XQ];refine BX (Ys hS hd U hl ah hm rfl λnext y=>?_);rw[GJ hi];show BL _ _ (VP (.ref I) 0 (CK (next:Int)) >>= _) _ _ s;refine BX (DX z rfl (by simp) ?_);have C:=Heap.SameBut.update s.heap I (Obj.mapFields (·.setIfInBounds 0 (CK (next:Int))));have af:=YC (Obj.mapFields (·.setIfInBounds 0 (CK (next:Int)))) z rfl;refine BX (DX (s:={s with heap:=s.heap.update I (Obj.mapFields (·.setIfInBounds 0 (CK (next:Int))))}) af rfl (by simp) ?_);have ag:=Heap.SameBut.update (s.heap.update I (Obj.mapFields (·.setIfInBounds 0 (CK (next:Int))))) I (Obj.mapFields (·.setIfInBounds 1 (CK ((i:Int)+1))));have ak:=YC (Obj.mapFields (·.setIfInBounds 1 (CK ((i:Int)+1)))) af rfl;refine CW ⟨_,rfl,CW ?_⟩;have B:=C.trans ag;refine h _ B ⟨o,es,ep,t,CK (next:Int),(B.2 S ae).trans hS,hd,U,hl,?_,?_,λT e=>by cases e⟩
  ·simpa[Obj.mapFields] using ak
  ·rcases y hi with x |x | ⟨_,T,_,_,_,e,_⟩
   ·exact .inl x
   ·exact .inr (.inl x)
   ·cases e
theorem wl3{Q:Option A_->BJ->Prop}(hh:A.handled=none)(st:SIt w S I fp r r.length s)(h:∀h',lQ I s.heap h'->Q none {s with heap:=h'}):BL (BR prog w) A (JP (.ref I)) Q E s:=by
 revert st;refine gJ λo es ep t first hS hd hf hl y C af=>?_
 have hT:s.TypeIs (.ref I) "set_iterator":=⟨_,y,rfl⟩;unfold JP;refine BX (IK (DW (name:=Str.ofString "__next__") hT Pu (C_ Pu hT Ql ?_ (Sx _))));show BL _ _ (fieldsOf (.ref I) >>= _) _ _ s;refine BX (QM y rfl ?_);show BL _ _ (bI S >>= _) _ _ s;refine BX (Q_ hS hd hf ?_);have e0:((es.size:Int) != (es.size:Int))=false:=by simp
 rw[e0];simp only[WK,if_false];have stop:∀(U:CP),Heap.SameBut I s.heap U->BL (BR prog w) A.in1 (YW (.type "StopIteration") [] >>= λe=>(raiseNew e:Sem PySem.Fin)) (λaa B=>∃v,aa=PySem.Fin.done (Flow.ret v)/\BL (BR prog w) A (pure (some v)) Q E B)
   (λe B=>BL (BR prog w) A (do if(<-RD e (.type "StopIteration"))=true then pure none else throw e) Q E B) {s with heap:=U}:=λU z=>by
  refine BX ?_;simp only[YW,jR];refine BX (CG ?_ (by size_fits));refine BX (m:=JR _ _) (QL (a:=Value.none) (by first |rfl | (simp only[JR];rfl)) ?_);refine CG ?_ (by size_fits);simp only[raiseNew];refine BX (XC ?_);rw[show A.in1.handled=none from hh];refine BX (CW (ZL ?_));refine BX (JZ (T:="StopIteration") (b:=true) ⟨_,L_ _ rfl,rfl⟩ mQ ?_);exact CW (h _ ((z.extBut.push _).push _))
 by_cases q:∃T,first=.ref T
 ·obtain⟨T,rfl⟩:=q;rcases C with ⟨_,⟨m,e⟩,_⟩ | ⟨_,_,_,e⟩ | ⟨hw,T',o',pl,n,e,J,G,ab,ae,ho⟩
  ·cases e
  ·cases e
  ·cases e;refine BX (GZ J G ?_);dsimp only;have e1:(VB (pl.map λ(k:Nat)=>CK (k:Int)))[((r.length:Nat):Int).toNat]? = none:=by simp;lia
   rw[e1];refine BX (DX y rfl (by simp) ?_);have z:=Heap.SameBut.update s.heap I (Obj.mapFields (·.setIfInBounds 0 (CK 0)));have L:=YC (Obj.mapFields (·.setIfInBounds 0 (CK 0))) y rfl;refine BX (DX (s:={s with heap:=s.heap.update I (Obj.mapFields (·.setIfInBounds 0 (CK 0)))}) L rfl (by simp) ?_);exact stop _ (z.trans (Heap.SameBut.update _ I _))
 ·obtain⟨m,F⟩:∃m:Nat,first=CK (m:Int):=by
   rcases C with ⟨_,e,_⟩ | ⟨_,_,_,e⟩ | ⟨_,T,_,_,_,e,_⟩
   ·exact e
   ·exact⟨_,e⟩
   ·exact absurd ⟨T,e⟩ q
  subst F;show BL _ _ (cT S (m:Int).toNat ((r.length:Nat):Int).toNat (ep:Int).toNat >>= _) _ _ s;simp only[XQ];refine BX (Ys hS hd hf hl (FW _) C rfl λnext _=>?_);rw[aX (FW _)];show BL _ _ (VP (.ref I) 2 Value.none >>= _) _ _ s;refine BX (DX y rfl (by simp) ?_);exact stop _ (Heap.SameBut.update _ I _)
end
def vI:Slot "set_iterator" "__iter__" "set_iterator.__iter__":=.of (owner:="set_iterator") (n:="__iter__") (by rw[P_,JX];kernel_rfl) (by decide +kernel) (by decide +kernel) (by decide +kernel) (by first |exact .inl (by decide +kernel) |exact .inr (by decide +kernel)) (by rw[QR];kernel_rfl)
def jf3(a:A_):ZD "set_iterator.__iter__" ⟨[a],[]⟩:=by unfold ZD;kernel_rfl
def Y0:mU table "set_iterator.__iter__" = some GR.«dict_keyiterator.__iter__» :=
 mR (id':="dict_keyiterator.__iter__") (by kernel_rfl) (by first |rfl |decide +kernel | (unfold String.splitOn;simp +decide [String.splitOnAux])) (by decide +kernel) (by kernel_rfl)
def ke8{t:SetTable}(h:t.fits n=true):t.place.size=n:=by unfold SetTable.fits at h;simp at h;exact h.1
def ki6{p:Array Nat}(h:p.size<=1):Ris p:=by
 unfold Ris;obtain⟨l⟩:=p
 match l,h with
 | [],_=>exact .nil
 | [x],_=>simp
 |x::y::r,h=>simp at h
theorem jo8{S:BK}{o:FZ}{Q:A_->BJ->Prop}(U:s.heap.get? S=some o)(hD:Te prog w ns o)
  (h:∀(h':CP) d' ord I fp es ep t,o.data=.set es ep t->ord.Perm es.toList->(∀b u,s.heap.get? b=some u->h'.get? b=some u)->s.heap.objs.size<=I->I<h'.objs.size->S≠I->(∀T∈fp,T≠I/\s.heap.objs.size<=T/\T<h'.objs.size)->SIt w S I fp ord 0 {s with heap:=h',drawn:=d'}->Q (.ref I) {s with heap:=h',drawn:=d'}):
  BL (BR prog w) A (YS (.ref S)) Q E s:=by
 revert hD;refine yk8 λes ep t hex hd ao ak ai hb hf hT aa=>?_;have ab:s.TypeIs (.ref S) "set":=⟨o,U,hex.1⟩;have af:S<s.heap.objs.size:=GQ U;refine RK ab F.slot_set_iter (C_ F.slot_set_iter ab Yj ?_ (Yz _));show BL _ _ ((do return (<-bI S).size:Sem Nat) >>= _) _ _ s;refine BX (BX (Q_ U hd hf (CW ?_)));refine BX (BX (JL U hd hf ?_));dsimp only;refine BX (Ue (CW ?_));have mk:∀(B:CP)(d':dW)(first:A_)(ord:List (Int×A_))(fp:List BK),(∀b u,s.heap.get? b=some u->B.get? b=some u)->s.heap.objs.size<=B.objs.size->(∀T∈fp,s.heap.objs.size<=T/\T<B.objs.size)->(∀T,first=.ref T->T∈fp)->ord.Perm es.toList ->
   (∀h2:CP,(∀b u,B.get? b=some u->h2.get? b=some u)->gZ w S es ep t h2 first 0 ord) ->
   BL (BR prog w) A.in1 (setEpoch S >>= λe=>d8 "set_iterator" [first,CK 0,.ref S,CK (es.size:Int),CK (e:Int)] >>= λv=>ret v) (λah s'=>∃v,ah=PySem.Fin.done (Flow.ret v)/\∃T' r,s'.TypeIs v T'/\MF (.type T') "__next__" = pure (some r)/\Q v s') E {s with heap:=B,drawn:=d'}:=by
  intro B d' first ord fp k1 hz L ag G hm
  refine BX (wpAny_setEpoch_of (k1 _ _ U) hd hf ?_);unfold d8;refine BX (CG ?_ (by size_fits));have hI:(B.push {cls:=.type "set_iterator",data:=.fields #[first,CK 0,.ref S,CK (es.size:Int),CK (ep:Int)] }).get? B.objs.size=some {cls:=.type "set_iterator",data:=.fields #[first,CK 0,.ref S,CK (es.size:Int),CK (ep:Int)] }:=L_ _ rfl;refine CW ⟨_,rfl,"set_iterator",_,⟨_,hI,rfl⟩,Pu.lookup,?_⟩;have m:=G.length_eq;refine h _ d' ord B.objs.size fp es ep t hd G (λb u e=>HF _ (k1 b u e)) hz (by rw[V_];exact dH _) (JV (QF af hz)) (λT y=>⟨JV (L T y).2,(L T y).1,by rw[V_];exact ZX (L T y).2⟩) ?_;exact⟨o,es,ep,t,first,HF _ (k1 _ _ U),hd,hf,by simpa using m,hI,hm _ λb u e=>HF _ e,ag⟩
 have aj:=ke8 hf;have C:w.params.followText "set-order" = false->(!t.plain && decide (es.size>1))=false->gZ w S es ep t s.heap (CK 0) 0 es.toList:=λJ q=>.inr (.inl ⟨J,⟨q,by rw[aa,J];rfl,by
  cases G:t.plain with
  |true=>exact hT.ris G
  |false =>
   rw[G]at q;simp at q;exact ki6 (by lia)⟩,rfl,rfl⟩)
 cases J:w.params.followText "set-order" with
 |true=>rw[show(BR prog w).w.params.followText "set-order" = true from J];simp only[lR,qD,WK,if_false];refine BX (CW ?_);exact mk s.heap s.drawn (CK 0) (XN (w.params.setOrder S ep) es).toList [] (λ_ _ e=>e) (FW _) (λ_ z=>nomatch z) (λT e=>by cases e) (Xy _ _) λh2 _=>.inl ⟨J,⟨0,rfl⟩,rfl⟩
 |false =>
  rw[show(BR prog w).w.params.followText "set-order" = false from J];show BL _ _ (if(!false && (!t.plain && decide (es.size>1)))=true then _ else _) _ _ s;cases q:(!t.plain && decide (es.size>1)) with
  |false =>
   simp only[qC,WK,if_false];refine BX (CW ?_);refine mk s.heap s.drawn (CK 0) es.toList [] (λ_ _ e=>e) (FW _) (λ_ z=>nomatch z) (λT e=>by cases e) (.refl _) λh2 _=>?_;rcases C J q with x |x | ⟨_,T,_,_,_,e,_⟩
   ·exact .inl x
   ·exact .inr (.inl x)
   ·cases e
  |true =>
   simp only[zU,Bool.and_self,if_true];refine BX (Td es.size _ (by simp) λpl d' G=>?_);have m:pl.length=es.size:=by have:=G.length_eq;simpa using this
   have ae:∀k∈pl,k<es.size:=λk hk=>KY.mp (G.mem_iff.mp hk);refine BX (VL ?_ (by rw[HN,m];exact JQ hb));refine mk _ d' (.ref s.heap.objs.size) (pl.map λk=>es.getD k (0,.none)) [s.heap.objs.size] (λb u e=>HF _ e) (by rw[V_];exact ZV _) (λT y=>?_) (λT e=>by cases e;simp) ?_ λh2 k2=>.inr (.inr ⟨J,s.heap.objs.size,_,pl,_,rfl,k2 _ _ (L_ _ rfl),rfl,m,ae,rfl⟩)
   ·rw[LR.mp y,V_];exact⟨FW _,dH _⟩
   ·refine(G.map λk=>es.getD k (0,.none)).trans (List.Perm.of_eq ?_);apply dG
    ·simp
    ·intro i B h2;have hi:i<es.size:=by simpa using B
     simp[Array.getD,hi]
variable {I:BK}
def kz5{S:BK}{ord:List (Int×A_)}(hh:A.handled=none)(hSI:S≠I)(hIf:∀T∈fp,T≠I):
  WalksS prog w A I (I::S::fp) [I] (λa b=>b=a) ord.length (λi v=>(ord[i]?).map (·.2)=some v) (λi s=>SIt w S I fp ord i s) where
 sub:=λb hb=>by rw[LR.mp hb];exact LK ..
 grefl:=λ_=>rfl
 gtrans:=λ_ _ _ h1 h2=>h2.trans h1
 frame:=λi s h' tk st _ k=>by
  revert st;refine gJ λo es ep t first hS hd hf hl hI hm hfp=>?_
  refine⟨o,es,ep,t,first,k S (by simp) _ hS,hd,hf,hl,k I (by simp) _ hI,?_,hfp⟩;rcases hm with x |x | ⟨hw,T,o',pl,n,e,hT,r⟩
  ·exact .inl x
  ·exact .inr (.inl x)
  ·exact .inr (.inr ⟨hw,T,o',pl,n,e,k T (JW _ (JW _ (hfp T e))) _ hT,r⟩)
 item:=λi s Q E hi st h=>wl4 st hi hSI hIf λh' sb st'=>h _ _ (by rw[GJ hi];rfl) st' ⟨λb o hb e=>sb.extBut b o (λz=>hb (by simp[z])) e,rfl,rfl,rfl,FW _⟩
 done:=λs Q E st h=>wl3 hh st λh' eb=>h _ ⟨λb o hb e=>eb b o (λz=>hb (by simp[z])) e,rfl,rfl,rfl,FW _⟩
 self:=λi s Q E st h=>by
  revert st;refine gJ λo es ep t first hS hd hf hl hI hm hfp=>?_
  have hT:s.TypeIs (.ref I) "set_iterator":=⟨_,hI,rfl⟩;refine RK hT vI (C_ vI hT Y0 ?_ (jf3 _));show BL _ _ (ret (.ref I)) _ _ s;exact CW ⟨_,rfl,"set_iterator",_,hT,Pu.lookup,h⟩
def tR(ns:List Int)(vs:List A_):Prop:=∃m:List Int,FT vs m/\m.Nodup/\(∀k,k∈m↔k∈ns)/\vs.length<J_
def kq4{es:List (Int×A_)}(h:VH (IW P w) es):FT (es.map (·.2)) (es.map λe=>intOf e.2):=by
 induction es with
 |nil=>exact .nil
 |cons e es m=>obtain⟨⟨j,q,_⟩,_⟩:=h.head;have⟨t,r⟩:=Value.isInt_shape (k:=j) (v:=e.2) q;rw[NP,NP,r];exact .cons j t (m h.tail)
theorem kl4{S:BK}{o:FZ}(hh:A.handled=none)(hS:s.heap.get? S=some o)(hD:Te prog w ns o):cA prog w A s (.ref S) (tR ns):=by
 intro Q E q;have bg:s.TypeIs (.ref S) "set":=by obtain⟨es,ep,t,hex,_⟩:=hD;exact⟨o,hS,hex.1⟩
 have ba:S<s.heap.objs.size:=GQ hS;unfold dR;refine BX (VJ (E_ F.entry_proto_collect ?_));rw[Around.under_plainId F.plain_proto_collect _];show BL _ A.in1 (YT [] >>= λl=>again (.builtin "list.__iadd__" ⟨[l,.ref S],[]⟩)) _ _ s;refine BX (CG ?_);refine CW ⟨GC F.plain_list_iadd _,E_ F.entry_list_iadd ?_⟩;rw[Around.under_plainId F.plain_list_iadd _];generalize eh:s.heap.push {cls:=.type "list",data:=.seq ([]:List A_).toArray}=h1;have k1:∀b u,s.heap.get? b=some u->h1.get? b=some u:=λb u e=>by rw[<-eh];exact HF _ e
 have ab:h1.objs.size=s.heap.objs.size+1:=by rw[<-eh,V_]
 have hL:h1.get? s.heap.objs.size=some {cls:=.type "list",data:=.seq #[] 0}:=by rw[<-eh];exact L_ _ rfl
 have ak:s.heap.objs.size≠S:=S_ ba;show BL _ A.in1 (Builtin.List.listExtendWith (.ref s.heap.objs.size) (.ref S) (.ref s.heap.objs.size)) _ _ {s with heap:=h1};unfold Builtin.List.listExtendWith;have G:Shared.TypeIs {s with heap:=h1} (.ref S) "set":=by obtain⟨o',L,U⟩:=bg;exact⟨o',k1 _ _ L,U⟩
 refine BX (JH G ?_);have e1:Builtin.List.listSameRef (.ref s.heap.objs.size) (.ref S)=false:=by simp[Builtin.List.listSameRef,ak]
 rw[if_neg (by rw[e1];decide)];refine BX (jo8 (s:={s with heap:=h1}) (k1 _ _ hS) hD λh2 d' ord I fp es ep t hd hp k2 bp bu bh ai st=>?_);have B:Shared.TypeIs {s with heap:=h2,drawn:=d'} (.ref S) "set":=by obtain⟨o',L,U⟩:=G;exact⟨o',k2 _ _ L,U⟩
 have J:s.heap.objs.size+1<=I:=by rw[<-ab];exact bp
 refine BX (CT ?_);unfold Builtin.List.listLengthHint;refine BX (TQ B F.slot_set_len.lookup ?_);generalize ag:("set.__len__" : String)=ay
 wp_delta
 rw[show splitId ay=some ("set","__len__") from by subst ag;decide +kernel];subst ag;refine BX (JZ (b:=true) B (by rw[QR];kernel_rfl) ?_);refine TV (λz=>absurd z (by decide)) (λ_=>?_);refine TV (λ_=>?_) (λz=>absurd (by decide +kernel) z);refine BX (JH B (CW ?_));refine TV (λ_=>?_) (λz=>absurd (by decide +kernel) z);refine BX (wpAny_rule ?_);have au:h2.get? s.heap.objs.size=some {cls:=.type "list",data:=.seq #[] 0}:=k2 _ _ hL;have bo:s.heap.objs.size≠I:=JV (QF (dH _) J);have ao:s.heap.objs.size∉I::S::fp:=λz=>by
  rcases HY.mp z with z |z
  ·exact bo z
  ·rcases HY.mp z with z |z
   ·exact ak z
   ·have:=(ai _ z).2.1;have hz:s.heap.objs.size+1<=s.heap.objs.size:=by rw[<-ab];exact this
    exact absurd hz (Nat.not_succ_le_self _)
 have hW:WalksS prog w A.in1 I (I::S::fp) [I] (λa b=>b=a) ord.length (λi v=>(ord[i]?).map (·.2)=some v) (λi s=>SIt w S I fp ord i s):=kz5 (A:=A.in1) (by simpa using hh) bh λT hT=>(ai T hT).1;refine BX ?_;show BL _ _ (SM s.heap.objs.size (·.push .none) >>= λ_=>SM s.heap.objs.size (·.pop)) _ _ _;refine BX (IV (s:={s with heap:=h2,drawn:=d'}) au rfl ?_);have ar:=YC (Obj.mapSeq (·.push Value.none)) au rfl;refine IV (s:={s with heap:=h2.update s.heap.objs.size (Obj.mapSeq (·.push Value.none)),drawn:=d'}) ar rfl ?_ (by show(#[]:Array A_).size+1<=_;rw[CQ];simp) (by show 0<=_;exact U_ _);have aq:=YC (Obj.mapSeq (·.pop)) ar rfl;generalize bq:(h2.update s.heap.objs.size (Obj.mapSeq (·.push Value.none))).update s.heap.objs.size (Obj.mapSeq (·.pop))=h3 at aq;have k3:∀b u,b≠s.heap.objs.size->h2.get? b=some u->h3.get? b=some u:=λb u n e=>by rw[<-bq];exact(ZJ _ _ (Ne.symm n)).trans ((ZJ _ _ (Ne.symm n)).trans e)
 have aw:SIt w S I fp ord 0 {s with heap:=h3,drawn:=d'}:=hW.frame 0 _ h3 s.toks st (FW _) λb hb u e=>k3 b u (λz=>ao (z ▸ hb)) e;obtain⟨es',bw,t',hex,bf,bb,az,af,hb,hf,hT,br⟩:=hD;rw[bf]at hd;cases hd;have r:ord.length=es.size:=by simpa using hp.length_eq
 refine CW ⟨GC F.plain_extend_loop _,aA hW (by rw[r];exact JQ hb) _ ao _ ord.length 0 _ _ _ rfl (U_ _) aw aq (ItemsOf.nil _) λs' C c' hm bj y=>?_⟩;show BL _ A (load s.heap.objs.size >>= _) _ _ s';refine BX (bD bj ?_);have ev:C.toList=ord.map (·.2):=by
  apply jHe;intro i;by_cases hi:i<ord.length
  ·have ah:i<C.size:=by rw[y.1];exact hi
   have:=y.2 i C[i] (YD ah);rw[fM,YD ah,QX,this]
  ·rw[aX (by rw[ZZ,y.1];lia),aX (by rw[HN];lia)]
 have aa:∀b u,s.heap.get? b=some u->s'.heap.get? b=some u:=λb u e=>by
  have m:b<s.heap.objs.size:=GQ e;refine hm.heap b u (λz=>?_) (k3 b u (JV m) (k2 _ _ (k1 b u e)));rcases HY.mp z with z |z
  ·exact JV m z
  ·rw[LR.mp z]at m;exact absurd (QF m (qO J)) (T_ _)
 have eqs:s' = {s with heap:=s'.heap,drawn:=d',toks:=s'.toks}:=by obtain⟨_,hg,bc,ho,_⟩:=hm;obtain⟨h',g',d2,bt,ax⟩:=s';have x1:g'=s.gens:=hg;have x2:d2=d':=bc;have x3:ax=s.os:=ho;subst x1 x2 x3;rfl
 refine CW ?_;rw[eqs,ev];have aj:VH (IW prog w) ord:=bb.perm hp;have ae:(ord.map λe=>intOf e.2).Perm (Hl es):=hp.map _;exact q _ _ _ _ aa (by rw[HN,r];exact JQ hb) ⟨_,kq4 aj,ae.nodup_iff.mpr az,λk=>ae.mem_iff.trans (af k),by rw[HN,r];exact hb⟩
def Nz(led:Bool):FZ:={cls:=.type "set",dict:=none,data:=.set #[] 0 (.fresh 0 0 led)}
def jr2:Te prog w [] (Nz (!w.params.followText "set-order")):=
 ⟨#[],0,_,⟨rfl,rfl,rfl⟩,rfl,λe m=>by simp at m,by simp[Hl],λk=>by simp[Hl],by decide,(by show(SetTable.fresh 0 0 _).fits 0=true;cases w.params.followText "set-order" <;> decide),⟨rfl,λ_=>.nil⟩,rfl⟩
def wg9(a:A_){Q:A_->BJ->Prop}(h:Q (.ref s.heap.objs.size) {s with heap:=s.heap.push (Nz (!w.params.followText "set-order"))}):
  JS (BR prog w) A (.call (.builtin "set.__new__") ⟨[.type "set",a],[]⟩) (wants Q E) s:=by
 refine UJ ?_;show BL _ A.in1 (checkBuiltinCall "set.__new__" ⟨[.type "set",a],[]⟩ >>= λ_=>again (.builtin "set.__new__" ⟨[.type "set",a],[]⟩)) _ _ s;refine BX (QL (F.newCall_set_1 a) (CW ⟨GC F.plain_set_new _,E_ F.entry_set_new ?_⟩));rw[Around.under_plainId F.plain_set_new _];unfold GR.«set.__new__» Builtin.Frozenset.newClass;have sub:=sub_set_self;obtain⟨r,g,d,m,q⟩:=s;dsimp only
 wp_walk
 refine SJ (CW ?_);dsimp only;simp only[newObj];refine BX (ZM (CW ?_));exact CW h
theorem kx3{R:WQ->BJ->Prop}{wr:List BK}{G:Array WT->Array WT->Prop}{P:Nat->A_->Prop}{St:Nat->BJ->Prop}(W:WalksS prog w A.in1 I fp wr G n P St)(S:BK)(J:S∉fp)(val:Nat->Int)(r:∀i v,P i v->∃t,v=.int (val i) t)(q:n+1<J_):
  ∀(k i:Nat)(s:BJ)(o:FZ),n - i=k->i<=n->St i s->s.heap.get? S=some o->Te prog w ((List.range i).map val).reverse o->(∀es ep t,o.data=.set es ep t->es.size<=i) ->
   (∀m o',Moved (S::wr) G s m->m.heap.get? S=some o'->Te prog w ((List.range n).map val).reverse o'->R (.ok (.ret .none)) m)->JS (BR prog w) A (.builtin "set.update.loop" ⟨[.ref S,.ref I],[]⟩) R s:=by
 have C:S∉wr:=λh=>J (W.sub _ h);have sub:∀b∈wr,b∈S::wr:=λb q=>JW _ q;intro k;induction k with
 |zero =>
  intro i s o hk hi st ho hD hz hR;have e:i=n:=by lia
  subst e;refine E_ PyProof.Rows.F.entry_set_update_loop ?_;rw[Around.under_plainId PyProof.Rows.F.plain_set_update_loop _];show BL _ A.in1 (JP (.ref I) >>= _) _ _ s;exact BX (W.done s _ _ st λm y=>CW (hR m o (y.mono sub) (y.heap S _ C ho) hD))
 |succ k ih =>
  intro i s o hk hi st ho hD hz hR;have lt:i<n:=by lia
  refine E_ PyProof.Rows.F.entry_set_update_loop ?_;rw[Around.under_plainId PyProof.Rows.F.plain_set_update_loop _];show BL _ A.in1 (JP (.ref I) >>= _) _ _ s;refine BX (W.item i s _ _ lt st λv m hP aa y=>?_);obtain⟨t,rfl⟩:=r i v hP;have ag:=y.heap S _ C ho;show BL _ A.in1 (PQ [Value.int (val i) t] (setAdd S (.int (val i) t)) >>= _) _ _ m;refine BX (CT ?_);unfold setAdd;refine CT (BX ((IW prog w).pyHash (k:=val i) (cI _ _ _ _) ?_));refine wk9 (s:={m with toks:=m.toks+1}) ag hD (λes ep tb hd=>by have:=hz es ep tb hd;lia) λb h' o2 sb af ak ab=>?_;have aj:Te prog w ((List.range (i+1)).map val).reverse o2:=by rw[lV,UG,List.reverse_append];exact ak
  refine CW ⟨GC PyProof.Rows.F.plain_set_update_loop _,ih (i+1) _ o2 (by lia) lt (W.frame _ m _ _ aa (ZV _) λb q u e=>(sb.2 b λz=>J (z ▸ q)).trans e) af aj (λes ep tb hd=>?_) λs2 o3 ah ae ai=>?_⟩
  ·revert hD;refine bW λL U t0 _ B _=>?_;have x1:=hz L U t0 B;have x2:=ab L U t0 es ep tb B hd;lia
  ·refine hR s2 o3 (Moved.trans W.gtrans ((y.mono sub).then_heap (ZV _) λb u q e=>?_) ah) ae ai;exact(sb.2 b λz=>q (by rw[z];exact LK ..)).trans e
theorem kl1{l:BK}{Q:A_->BJ->Prop}(hh:A.handled=none)(hl:s.heap.IsList l items)(hi:FT items.toList ns)(hb:items.size+1<J_)
  (h:∀(h':CP)(tk:Nat)(o:FZ),h'.get? s.heap.objs.size=some o->Te prog w ns o->(∀b u,s.heap.get? b=some u->h'.get? b=some u)->Q (.ref s.heap.objs.size) {s with heap:=h',toks:=tk}):
  BL (BR prog w) A (call (.type "set") [.ref l]) Q E s:=by
 obtain⟨c,tl,ao⟩:=F.called_set.mro;have made:=F.called_set.made;have aq:=F.called_set.sub;refine JD (UJ ?_);show BL _ _ (callAny (.type "set") _) _ _ _;refine CW ⟨Code.quiet_builtin _ (by decide +kernel),E_ F.entry_type_call ?_⟩;rw[Around.under_plain (weight_type_call_type "set" [.ref l] []) rfl];have a1:=F.called_set.notType;have a2:=F.called_set.canCreate;have a3:=F.typeCall_set_1 (.ref l)
 repeat (any_goals (first |assumption |wp_step))
 refine HD (wg9 (.ref l) (E:=E) (Q:=λobj s1=>obj=.ref s.heap.objs.size/\s1 = {s with heap:=s.heap.push (Nz (!w.params.followText "set-order"))}) ⟨rfl,rfl⟩) λr s' hr=>?_;cases r with
 |error e=>exact hr
 |ok fl =>
  cases fl with
  |ret obj =>
   obtain⟨rfl,rfl⟩:=hr;generalize eh:s.heap.push (Nz (!w.params.followText "set-order"))=m;have k1:∀b u,s.heap.get? b=some u->m.get? b=some u:=λb u e=>by rw[<-eh];exact HF _ e
   have y:m.objs.size=s.heap.objs.size+1:=by rw[<-eh,V_]
   have g1:m.get? s.heap.objs.size=some (Nz (!w.params.followText "set-order")):=by rw[<-eh];exact L_ _ rfl
   have hT:Shared.TypeIs {s with heap:=m} (.ref s.heap.objs.size) "set":=⟨_,g1,rfl⟩;have b1:=F.called_set.init.lookup;have b2:=F.called_set.init.bind (.ref s.heap.objs.size);clear eh
   repeat (any_goals (first |assumption |wp_step))
   refine HD (KN (R:=wants (λr s2=>r=.none/\∃h' tk o,s2 = {s with heap:=h',toks:=tk}/\h'.get? s.heap.objs.size=some o/\Te prog w ns o/\∀b u,s.heap.get? b=some u->h'.get? b=some u) E) F.called_set.init.plain F.entry_set_init (check_set_init_1 hT ?_)) λr2 s2 z=>?_
   ·obtain⟨ol,C,aa,nl,U⟩:=hl;obtain⟨ak,ag,ah,ab⟩:=ol;simp only at aa U;subst aa U;have B:=k1 _ _ C;have c1:=F.sub_list_set;have c2:=F.sub_list_frozenset;have c3:(Value.type "list" == Value.type "dict")=false:=by decide
    have L:m.IsList l items:=⟨_,B,rfl,nl,rfl⟩;unfold GR.«set.__init__» noKeywords Builtin.Frozenset.updateFrom;generalize aj:YS=PI
    wp_walk
    subst aj;refine JM L (BX (VJ ?_));have G:l<s.heap.objs.size:=GQ C;have d1:A.in1.in1.in1.handled=none:=by simp[hh]
    have d2:l≠m.objs.size:=by rw[y];exact JV (ZX G)
    have d3:s.heap.objs.size∉[m.objs.size,l]:=by rw[y];simp only[HY,LR,l_,or_false,not_or];exact⟨JV (dH _),S_ G⟩
    have d4:∀(i:Nat)(v:A_),items[i]? = some v->∃t,v=.int ((λi=>ns.getD i 0) i) t:=λi v hv=>IntsAre.int_at hi i v (by rw[fM];exact hv);refine kx3 ((Walks.list d1 _ l d2 items).toS) s.heap.objs.size d3 (λi=>ns.getD i 0) d4 hb (items.size - 0) 0 _ _ (by lia) (U_ _) ⟨⟨_,L_ _ rfl,rfl,rfl⟩,L.push _⟩ (HF _ g1) jr2 (λes ep t e=>by cases e;exact U_ _) λs' o' hm ai hD=>?_;have en:((List.range items.size).map λi=>ns.getD i 0)=ns:=by
     have J:ns.length=items.size:=by have:=IntsAre.length hi;simpa using this.symm
     rw[<-J];apply dG
     ·simp
     ·intro i m h2;simp at m;simp[m]
    rw[en]at hD;obtain⟨h',g',d',ae,af⟩:=s';have x1:g'=s.gens:=hm.gens;have x2:d'=s.drawn:=hm.drawn;have x3:af=s.os:=hm.os;subst x1 x2 x3;show BL _ _ _ _ _ _;refine CW ?_;show BL _ _ (ret Value.none) _ _ _;refine CW ⟨rfl,h',ae,o',rfl,ai,?_,λb u e=>?_⟩
    ·obtain⟨es,ep,t,e1,e2,e3,e4,e5,e6⟩:=hD;exact⟨es,ep,t,e1,e2,e3,e4,λk=>(e5 k).trans (by simp),e6⟩
    ·have q:b<s.heap.objs.size:=GQ e;refine hm.heap b u ?_ (HF _ (k1 b u e));rw[y];simp only[HY,LR,l_,or_false,not_or];exact⟨JV q,JV (ZX q)⟩
   ·cases r2 with
    |error e=>exact z
    |ok f2 =>
     cases f2 with
     |ret r3 =>
      obtain⟨rfl,h',tk,o,rfl,g2,hD,k2⟩:=z
      repeat (any_goals (first |assumption |wp_step))
      exact h _ _ o g2 hD k2
     |_=>exact z.elim
  |_=>exact hr.elim
def Y7(P:BZ)(w:CV)(a:BK)(ns:List Int)(h:CP):Prop:=∃o,h.get? a=some o/\Te P w ns o
def Jd:List D->Option (List Int)
 | [.lst xs]=>if xs.length<64 then Ax xs else none
 |_=>none
def M5:List Int->List Int
 | []=>[]
 |x::xs=>if x∈xs then M5 xs else x::M5 xs
def Ew(k:Int):∀xs,k∈M5 xs↔k∈xs
 | []=>Iff.rfl
 |x::xs=>by
  unfold M5;by_cases h:x∈xs
  ·rw[if_pos h,Ew k xs,HY];exact⟨.inr,λz=>z.elim (λe=>e ▸ h) id⟩
  ·rw[if_neg h,HY,HY,Ew k xs]
def G8:∀xs,(M5 xs).Nodup
 | []=>.nil
 |x::xs=>by
  unfold M5;by_cases h:x∈xs
  ·rw[if_pos h];exact G8 xs
  ·rw[if_neg h];exact VF.mpr ⟨λz=>h ((Ew x xs).mp z),G8 xs⟩
theorem yV:∀xs,(M5 xs).length<=xs.length
 | []=>FW _
 |x::xs=>by
  unfold M5;have:=yV xs;by_cases h:x∈xs
  ·rw[if_pos h,RB];lia
  ·rw[if_neg h,RB,RB];lia
def d_(ns:List Int):List D:=srt ((M5 ns).map .int)
def Tz:∀q:List Int,Ax (q.map .int)=some q
 | []=>rfl
 |m::q=>by simp[Ax,Tz q]
def Tw:∀{xs:List D}{ns:List Int},Ax xs=some ns->ns.length=xs.length
 | [],ns,h=>by cases h;rfl
 |d::xs,ns,h=>by
  cases d with
  |int i =>
   cases e:Ax xs with
   |none=>simp[Ax,e]at h
   |some m=>simp[Ax,e]at h;subst h;simp[Tw e]
  |_=>cases h
def La{K:B_}{H:Hp}{S:AS}:∀q:List Int,An K H S (q.map .int) (q.map V.int)
 | []=>An.nil
 |m::q=>.cons rfl (La q)
def Ji:∀{us:List A_}{m:List Int},FT us m->Vals (m.map V.int) us
 |_,_,.nil=>.nil
 |_,_,.cons n t h=>.cons ⟨t,rfl⟩ (Ji h)
def Pa(m:List Int):Dq (m.map D.int)=true:=by unfold Dq;rw[ZW];refine .inl ?_;rw[List.all_map];exact RJ.mpr λ_ _=>rfl
def Ox{ys:List D}(q:Dq xs=true)(p:ys.Perm xs):srt ys=srt xs:=by refine eq_of_sorted (le:=λa b=>G9 a b=true) ((Cy ys).trans (p.trans (Cy xs).symm)) (Ep ys) (Ep xs) λa y b r m h2=>?_;unfold G9 at m h2;rw[XH]at m h2;exact pK q (p.mem_iff.mp ((Cy ys).mem_iff.mp y)) (p.mem_iff.mp ((Cy ys).mem_iff.mp r)) (Fp _ _ h2 m)
def Ud(h:xs.length<2):srt xs=xs:=by
 match xs,h with
 | [],_=>exact List.mergeSort_nil
 | [x],_=>exact List.mergeSort_singleton x
def yi2(K:B_)(P:BZ)(w:CV):List V->Hp->VK->Prop:=λxs H Q=>∃S ds ns,An K H S ds xs/\Jd ds=some ns/\∀a,H a=none->Q (.ref a) (upd H a (.ext (Y7 P w a ns)))
def yi3(K:B_)(P:BZ)(w:CV):List V->Hp->VK->Prop:=λxs H Q=>∃a ns,xs=[.ref a]/\H a=some (.ext (Y7 P w a ns))/\ns.length<64/\∀b ws H',Af H H'->H b=none->H' b=some (.lst ws)->(∀S,An K H' S (d_ ns) ws)->Q (.ref b) H'
variable {J:JG}
section
variable {fs:Ev->R (List D)}
theorem tO(hc:X.calm=true):Dc X (.type "set") (yi2 X.K X.prog X.w):=by
 rintro pins s σ H ys us Q I r ⟨S,ds,ns,rs,e,q⟩;obtain⟨U,rfl⟩:=inv1 e rfl (λx _ _=>by cases x<;>rfl);cases U with
 |lst xs =>
  have Z:(if xs.length<64 then Ax xs else none)=some ns:=e;by_cases C:xs.length<64
  ·rw[if_pos C]at Z;obtain⟨v,rfl,a,vs,rfl,ha,z⟩:=rs.one;obtain⟨u,rfl,ru⟩:=vals1 r;cases ru;have⟨aa,y,pl,_⟩:=I.list ha.sq;have l1:=z.length;have l2:=y.length;refine kl1 (I.ok.hd hc) pl.isList (ns:=ns) (by simpa using ints_of z y Z) (by rw[KJ];unfold J_;lia) λh' m o F hD k=>?_;have hf:H s.heap.objs.size=none:=I.hok.fresh (FW _);have I2:Inv X pins σ (upd H s.heap.objs.size (.ext (Y7 X.prog X.w s.heap.objs.size ns))) {s with heap:=h',toks:=m}:=
    I.laid (t':=m) k (FW _) ⟨⟨o,F,hD⟩,⟨o,F⟩,λh1 h2 ⟨B,L,G⟩ kk=>⟨B,kk B L,G⟩⟩
   exact⟨.ref s.heap.objs.size,_,I2,rfl,q _ hf⟩
  ·rw[if_neg C]at Z;cases Z
 |_=>exact nos e
def Dn(xs:List D):Option D:=(Jd xs).map λns=>.lst (d_ ns)
def Y6{d:D}(h:bA fs Dn ρ=.ok d):∃ds,d=.lst ds:=by
 unfold bA at h;cases m:fs ρ with
 |ok xs =>
  rw[m]at h;simp only[R.ok_bind,Dn]at h;cases q:Jd xs with
  |none=>rw[q]at h;cases h
  |some ns=>rw[q]at h;cases h;exact⟨_,rfl⟩
 |exc _=>rw[m]at h;cases h
 |bad=>rw[m]at h;cases h
theorem Jy:∀ρ d,bA fs Cq ρ=.ok d->∃ds,d=.lst ds:=λρ d h=>by
 unfold bA at h;cases m:fs ρ with
 |ok xs =>
  rw[m]at h;simp only[R.ok_bind]at h
  match xs,h with
  | [x],h =>
   unfold Cq at h;dsimp only at h;cases q:J3 x with
   |none=>rw[q]at h;cases h
   |some ys =>
    rw[q]at h;dsimp only at h;split at h
    ·cases h;exact⟨_,rfl⟩
    ·cases h
  | [],h=>cases h
  |_::_::_,h=>cases h
 |exc _=>rw[m]at h;cases h
 |bad=>rw[m]at h;cases h
end
def Vt:List D->Option (Int×Int)
 | [.int j]=>if -(2 ^ 62)<=j/\j<2 ^ 62/\j<=16777216 then some (0,j) else none
 | [.int i,.int j]=>if -(2 ^ 62)<=i/\i<2 ^ 62/\-(2 ^ 62)<=j/\j<2 ^ 62/\j - i<=16777216 then some (i,j) else none
 |_=>none
def Sq(i j:Int):List Int:=(List.range (j - i).toNat).map λ(k:Nat)=>i+(k:Int)
def list_rangeD(xs:List D):Option D:=(Vt xs).map λq=>.lst ((Sq q.1 q.2).map .int)
def G4(xs:List D):Option D:=(Vt xs).map λq=>.tup ((Sq q.1 q.2).map .int)
theorem Xg{a:Int}{acc:Array A_}(h:dU (λi v=>∃t,v=.int (a+i * 1) t) acc n):FT acc.toList ((List.range n).map λ(k:Nat)=>a+(k:Int)):=by
 have gen:∀(vs:List A_)(o:Nat),(∀i v,vs[i]? = some v->∃t,v=Value.int (a+((o+i:Nat):Int)) t)->FT vs ((List.range' o vs.length).map λ(k:Nat)=>a+(k:Int)):=by
  intro vs;induction vs with
  |nil=>intro o _;exact .nil
  |cons v vs q =>
   intro o m;obtain⟨t,rfl⟩:=m 0 v rfl;rw[RB,jHj,NP];exact .cons _ t (q (o+1) λi u r=>by
    have⟨t',e⟩:=m (i+1) u (by simpa using r);exact⟨t',by rw[e,show o+(i+1)=o+1+i by lia]⟩)
 have:=gen acc.toList 0 λi v m=>by have⟨t,e⟩:=h.2 i v (by simpa using m);exact⟨t,by rw[e,VV,Int.mul_one]⟩
 rw[ZZ,h.1,<-List.range_eq_range']at this;exact this
theorem X6{hi:Int}:Builtin.Range.rangeSize lo hi 1=(((hi - lo).toNat:Nat):Int):=by rw[rangeSize_one];split<;>lia
theorem jq6{r:BK}{hi:Int}{t u v:Tok}(hh:A.handled=none)(hr:IsRange s.heap r lo hi 1 t u v)(h1:-(2 ^ 62)<=lo)(h2:lo<2 ^ 62)(h3:-(2 ^ 62)<=hi)(h4:hi<2 ^ 62)(h5:hi - lo<=16777216):
  cA prog w A s (.ref r) λvs=>FT vs (Sq lo hi):=by
 intro Q E q;unfold dR;refine BX (VJ (E_ F.entry_proto_collect ?_));rw[Around.under_plainId F.plain_proto_collect _];show BL _ A.in1 (YT [] >>= λl=>again (.builtin "list.__iadd__" ⟨[l,.ref r],[]⟩)) _ _ s;refine BX (CG ?_);refine CW ⟨GC F.plain_list_iadd _,E_ F.entry_list_iadd ?_⟩;rw[Around.under_plainId F.plain_list_iadd _];show BL _ A.in1 (Builtin.List.listExtendWith (.ref s.heap.objs.size) (.ref r) (.ref s.heap.objs.size)) _ _ _;have key:=wpAny_extend_range (prog:=prog) (w:=w) (A:=A) (s:={s with heap:=s.heap.push {cls:=.type "list",data:=.seq ([]:List A_).toArray} })
  (R:=λx y=>x=.ok (.ret (.ref s.heap.objs.size))/\∃(h':CP)(tk:Nat)(acc:Array A_)(c:Nat),y = {s with heap:=h',toks:=tk}/\(∀b o,s.heap.get? b=some o->h'.get? b=some o)/\h'.get? s.heap.objs.size=some {cls:=.type "list",dict:=none,data:=.seq acc c,slots:=#[] }/\dU (λi v=>∃t,v=.int (lo+i * 1) t) acc (hi - lo).toNat)
  hh (HF _ hr) (dY h1 h2 h3 h4) (n:=(hi - lo).toNat) X6 (by lia) s.heap.objs.size (.ref s.heap.objs.size) 0 (L_ _ rfl) λh' tk B L k G m=>⟨rfl,h',tk,B,L,rfl,λb o e=>k b o (JV (GQ e)) (HF _ e),G,m⟩
 have z:∀y,(∃(h':CP)(tk:Nat)(acc:Array A_)(c:Nat),y = {s with heap:=h',toks:=tk}/\(∀b o,s.heap.get? b=some o->h'.get? b=some o)/\h'.get? s.heap.objs.size=some {cls:=.type "list",dict:=none,data:=.seq acc c,slots:=#[] }/\dU (λi v=>∃t,v=.int (lo+i * 1) t) acc (hi - lo).toNat) ->
   BL (BR prog w) A (load s.heap.objs.size >>= λo=>match o.data with | .seq xs _=>pure xs.toList |_=>unsupported "internal:collect") Q E y:=by
  rintro y ⟨h',tk,acc,c,rfl,k,G,m⟩;refine BX (bD G ?_);exact CW (q _ _ tk s.drawn k (by rw[ZZ,m.1,CQ];lia) (Xg m))
 refine D_ key (λf y h=>?_) (λe y h=>absurd h.1 (by simp));cases f with
 |done g=>obtain⟨e,h⟩:=h;cases e;exact z y h
 |again L=>exact⟨h.1,HD h.2 λx U C=>by
   obtain⟨rfl,C⟩:=C;exact z U C⟩
variable {G:List A_->Prop}
def cA.use{Q:List A_->BJ->Prop}(q:cA prog w A s u G)(h:∀vs h' m r,(∀b o,s.heap.get? b=some o->h'.get? b=some o)->vs.length<=sizeLine->G vs->Q vs {s with heap:=h',drawn:=r,toks:=m}):BL (BR prog w) A (dR u) Q E s:=q Q E h
def jl2{T:String}(hT:(Value.type T == Value.type "tuple")=false):Meets (GR.«tuple.__new__» ⟨[.type "tuple",u],[]⟩)
  (λA R s=>s.TypeIs u T/\(∀prog w,cA prog w A.in1 s u G)/\∀vs (h':CP) B z,(∀b o,s.heap.get? b=some o->h'.get? b=some o)->G vs->R (.ok (.ret (.ref h'.objs.size))) {s with heap:=h'.push {cls:=.type "tuple",data:=.seq vs.toArray},drawn:=z,toks:=B}):=
 .of_wp λprog w A R s h=>by
  obtain⟨y,U,h⟩:=h;have C:=sub_tuple_self;have r:=init_tuple_lookup;have L:=madeHere_tuple;have m:=U prog w;obtain⟨hp,g,d,B,os⟩:=s
  wp_walk using JH y,cA.use m
  intro vs h' q z k F gg;refine BX (CW ?_);show BL _ _ (Builtin.Tuple.tupleExact vs.toArray >>= λv=>ret v) _ _ _;unfold Builtin.Tuple.tupleExact;refine BX (CG ?_ (by show vs.toArray.size<=sizeLine;rw[KJ];exact F));exact CW ⟨_,rfl,h vs h' q z k gg⟩
def yi1:List V->Hp->VK->Prop:=λxs H Q=>∃i j:Int,((xs=[.int j]/\i=0)\/xs=[.int i,.int j])/\∀a,H a=none->Q (.ref a) (upd H a (.rng i j))
def oG(i j:Int):Prop:=-(2 ^ 62)<=i/\i<2 ^ 62/\-(2 ^ 62)<=j/\j<2 ^ 62/\j - i<=16777216
def yh9:List V->Hp->VK->Prop:=λxs H Q=>∃a i j,xs=[.ref a]/\H a=some (.rng i j)/\oG i j/\∀b,H b=none->Q (.ref b) (upd H b (.lst ((Sq i j).map V.int)))
def yi0:List V->Hp->VK->Prop:=λxs H Q=>∃a i j,xs=[.ref a]/\H a=some (.rng i j)/\oG i j/\∀b,H b=none->Q (.ref b) (upd H b (.tup ((Sq i j).map V.int)))
def xX(i j:Int):(Sq i j).length=(j - i).toNat:=by simp[Sq]
section
variable {fs:Ev->R (List D)}
def wR:Dc X (.type "range") yi1:=by
 rintro pins s σ H ys us Q I r ⟨i,j,y,q⟩;have m:H s.heap.objs.size=none:=I.hok.fresh (FW _);rcases y with ⟨rfl,rfl⟩ |rfl
 ·obtain⟨u,rfl,t,rfl⟩:=vals1 r;refine call_range_1 ⟨.ref s.heap.objs.size,_,I.laid (t':=s.toks+1+1) (λb o e=>HF _ e) (FW _) (show Bu X.prog X.w _ _ _ (.rng 0 j) from⟨_,_,_,L_ _ rfl⟩),rfl,q _ m⟩
 ·obtain⟨u1,u2,rfl,⟨B,rfl⟩,⟨z,rfl⟩⟩:=r.two;refine call_range_2 ⟨.ref s.heap.objs.size,_,I.laid (t':=s.toks+1) (λb o e=>HF _ e) (FW _) (show Bu X.prog X.w _ _ _ (.rng i j) from⟨_,_,_,L_ _ rfl⟩),rfl,q _ m⟩
theorem wb1(L:X.calm=true):Dc X (.type "list") yh9:=by rintro pins s σ H ys us Q I r ⟨a,i,j,e,U,⟨h1,h2,h3,h4,h5⟩,q⟩;subst e;refine Am (λu m B=>?_) (vals1 r);obtain rfl:=m;cases B;refine rQ (λt u v C=>?_) (I.hok a _ U);refine call_list_range (I.ok.hd L) C (dY h1 h2 h3 h4) (n:=(j - i).toNat) X6 (by lia) λh' z y c' k hS F=>?_;have hint:=Xg F;refine⟨.ref s.heap.objs.size,_,I.laid (t':=z) k (FW _) (show Bu X.prog X.w _ h' _ (.lst ((Sq i j).map V.int)) from⟨by rw[HN,xX,CQ];lia,y.toList,c',Ji hint,by simpa using hS⟩),rfl,q _ (I.hok.fresh (FW _))⟩
theorem kk9(L:X.calm=true):Dc X (.type "tuple") yi0:=by rintro pins s σ H ys us Q I r ⟨a,i,j,e,U,⟨h1,h2,h3,h4,h5⟩,q⟩;subst e;refine Am (λu m C=>?_) (vals1 r);obtain rfl:=m;cases C;refine rQ (λt u v z=>?_) (I.hok a _ U);refine callType_new F.called_tuple (by decide) (F.typeCall_tuple_1 _) (F.newCall_tuple_1 _) (λobj=>F.args_object_init_2 obj _) F.entry_tuple_new (jl2 (T:="range") (by decide)) ⟨⟨_,z,rfl⟩,λprog w=>jq6 (by simpa using I.ok.hd L) z h1 h2 h3 h4 h5,λvs h' y d' k g=>⟨⟨_,L_ _ rfl,rfl⟩,?_⟩⟩;have B:Inv X pins σ H {s with heap:=h',drawn:=d',toks:=y}:=O8 I k;exact⟨.ref h'.objs.size,_,B.laid (t':=y) (λb o e=>HF _ e) (FW _) (show Bu X.prog X.w _ _ _ (.tup ((Sq i j).map V.int)) from⟨by rw[HN,xX,CQ];lia,vs,Ji g,IsTup.new _ _⟩),rfl,q _ (B.hok.fresh (FW _))⟩
theorem vP{S:AS}{i j:Int}(r:An K H S ds vs)(h:Vt ds=some (i,j)):((vs=[.int j]/\i=0)\/vs=[.int i,.int j])/\oG i j:=by
 match ds,h with
 | [.int k],h=>have h':(if -(2 ^ 62)<=k/\k<2 ^ 62/\k<=16777216 then some ((0:Int),k) else none)=some (i,j):=h;obtain⟨z,e⟩:=Bb h';cases e;refine Am (λv y B=>?_) (r.one);obtain rfl:=y;cases(show v=.int j from B);exact⟨.inl ⟨rfl,rfl⟩,by lia,by lia,z.1,z.2.1,by lia⟩
 | [.int k,.int m],h=>have h':(if -(2 ^ 62)<=k/\k<2 ^ 62/\-(2 ^ 62)<=m/\m<2 ^ 62/\m - k<=16777216 then some (k,m) else none)=some (i,j):=h;obtain⟨z,e⟩:=Bb h';cases e;refine Bo (λv u q B C=>?_) (r.two);obtain rfl:=q;cases(show v=.int i from B);cases(show u=.int j from C);exact⟨.inr rfl,z⟩
def jk8(hc:X.calm=true)(hm:X.mg "list" = none)(B:X.mg "range" = none)(F:PAd X c l (e::es) fs)(hg:Gl X "list":=by rfl)(C:Gl X "range":=by rfl)(he:Zs X.env e es:=by rfl)
  (y:Zp X.env J es:=by rfl)(r:BP [.Call (.Name "range" p2) (e::es) [] J] X.env=(false,CZ (.Call (.Name "range" p2) (e::es) [] J) X.env)::BP [] X.env:=by rfl)(m:Zp X.env pos []:=by rfl):
  PEf X c l (.Call (.Name "list" p) [.Call (.Name "range" p2) (e::es) [] J] [] pos) (bA fs list_rangeD):=
 PE.imp (Dz (wb1 hc) hg hm PyProof.Rows.boot_list (Df (Dz wR C B cJ F (by decide) (by decide) he y) Ho r) (by decide) (by decide) r m) λσ H Q q=>by
 revert q;refine Bm λhs ρ E q=>?_;refine Ce E ((RQ.bind.mp q).mono (λds q1 vs H1 U E1 r1 hn=>?_) λ_ z=>z);refine Am (λd Z q2=>?_) (q1.of);unfold list_rangeD at Z;cases L:Vt ds with
 |none=>rw[L]at Z;cases Z
 |some ij=>obtain⟨i,j⟩:=ij;rw[L]at Z;cases Z;have⟨hv,ok⟩:=vP r1 L;refine⟨i,j,hv,λa F=>⟨a,i,j,rfl,Ah,ok,λb hb=>?_⟩⟩;have sn:=Aj (o:=HO.rng i j) F;have sb:=Aj (o:=HO.lst ((Sq i j).map V.int)) hb;exact q2 b _ _ _ rfl ((U.trans sn).trans sb) ((U.trans sn).free hb) Ah (La _)
def Yy{d:D}(h:bA fs list_rangeD ρ=.ok d):∃ds,d=.lst ds:=by
 unfold bA at h;cases m:fs ρ with
 |ok xs =>
  rw[m]at h;simp only[R.ok_bind,list_rangeD]at h;cases q:Vt xs with
  |none=>rw[q]at h;cases h
  |some ns=>rw[q]at h;cases h;exact⟨_,rfl⟩
 |exc _=>rw[m]at h;cases h
 |bad=>rw[m]at h;cases h
def list_range(L:X.calm=true)(B:X.mg "list" = none)(r:X.mg "range" = none)(U:PAd X c l (e::es) fs)(C:Gl X "list":=by rfl)(y:Gl X "range":=by rfl)(F:Zs X.env e es:=by rfl)
  (q:Zp X.env J es:=by rfl)(z:BP [.Call (.Name "range" p2) (e::es) [] J] X.env=(false,CZ (.Call (.Name "range" p2) (e::es) [] J) X.env)::BP [] X.env:=by rfl)(m:Zp X.env pos []:=by rfl):
  PEd X c l (.Call (.Name "list" p) [.Call (.Name "range" p2) (e::es) [] J] [] pos) (bA fs list_rangeD):=PEf.d (jk8 L B r U C y F q z m) λ_ _ h=>Yy h
def tuple_range(hc:X.calm=true)(hm:X.mg "tuple" = none)(B:X.mg "range" = none)(F:PAd X c l (e::es) fs)(hg:Gl X "tuple":=by rfl)(C:Gl X "range":=by rfl)(he:Zs X.env e es:=by rfl)
  (y:Zp X.env J es:=by rfl)(r:BP [.Call (.Name "range" p2) (e::es) [] J] X.env=(false,CZ (.Call (.Name "range" p2) (e::es) [] J) X.env)::BP [] X.env:=by rfl)(m:Zp X.env pos []:=by rfl):
  PEd X c l (.Call (.Name "tuple" p) [.Call (.Name "range" p2) (e::es) [] J] [] pos) (bA fs G4):=
 PE.imp (Dz (kk9 hc) hg hm PyProof.Rows.boot_tuple (Df (Dz wR C B cJ F (by decide) (by decide) he y) Ho r) (by decide) (by decide) r m) λσ H Q q=>by
 revert q;refine Bm λhs ρ E q=>?_;refine Ce E ((RQ.bind.mp q).mono (λds q1 vs H1 s1 E1 r1 hn=>?_) λ_ z=>z);refine Am (λd Z q2=>?_) (q1.of);unfold G4 at Z;cases L:Vt ds with
 |none=>rw[L]at Z;cases Z
 |some ij=>obtain⟨i,j⟩:=ij;rw[L]at Z;cases Z;have⟨hv,ok⟩:=vP r1 L;refine⟨i,j,hv,λa F=>⟨a,i,j,rfl,Ah,ok,λb hb=>?_⟩⟩;have sn:=Aj (o:=HO.rng i j) F;have U:=Aj (o:=HO.tup ((Sq i j).map V.int)) hb;exact q2 _ _ ((s1.trans sn).trans U) ⟨b,_,rfl,TpR.of Ah,La _⟩
end
variable {r:Ev}{o0 o1 o2 o3 o4 o5 o6 o7 o8 o9:Option D}
section
variable {f f1 f2 C B:Ev->R D}{fs:Ev->R (List D)}{m z:Ev->R Fl}{t y q:Ev->R Bool}
@[simp] def eF:b2 f1 f2 g ρ=(f1 ρ).bind λx=>(f2 ρ).bind λy=>R.of (g x y):=nr rfl
@[simp] def yq9{g:D->Option D}:b1 f g ρ=(f ρ).bind λx=>R.of (g x):=nr rfl
@[simp] def yl4{d:D}:kd d ρ=.ok d:=nr rfl
@[simp] def yl2:a0 ρ=.ok []:=nr rfl
@[simp] def M6:zv f fs ρ=(f ρ).bind λx=>(fs ρ).bind λxs=>.ok (x::xs):=nr rfl
@[simp] def Th{g:List D->Option D}:bA fs g ρ=(fs ρ).bind λxs=>R.of (g xs):=nr rfl
@[simp] def rK:sq m z ρ=(m ρ).bind λL=>match L with | .nx F=>z F |o=>.ok o:=nr rfl
@[simp] def yc4:asg i f ρ=(f ρ).bind λd=>.ok (.nx (ρ.set i (some d))):=nr rfl
@[simp] def wr2:gA f ρ=(f ρ).bind λd=>.ok (.rt d):=nr rfl
@[simp] def tK:ifS t m z ρ=(t ρ).bind λk=>if k then m ρ else z ρ:=nr rfl
@[simp] def Zr:drp f ρ=(f ρ).bind λ_=>.ok (.nx ρ):=nr rfl
@[simp] def rJ:tt f ρ=(f ρ).bind λd=>R.of (mY d):=nr rfl
@[simp] def jJ:tb f ρ=(f ρ).bind λd=>R.of (bT d):=nr rfl
@[simp] def nA:nt t ρ=(t ρ).bind λk=>.ok (!k):=nr rfl
@[simp] def tE:tan y q ρ=(y ρ).bind λk=>if k then q ρ else .ok false:=nr rfl
@[simp] def j9:tor y q ρ=(y ρ).bind λk=>if k then .ok true else q ρ:=nr rfl
@[simp] def yr8:va f1 f2 ρ=(f1 ρ).bind λd=>(R.of (bT d)).bind λk=>if k then f2 ρ else .ok (.bl false):=nr rfl
@[simp] def yr9:vo f1 f2 ρ=(f1 ρ).bind λd=>(R.of (bT d)).bind λk=>if k then .ok (.bl true) else f2 ρ:=nr rfl
@[simp] def yq1:ife t f1 f2 ρ=(t ρ).bind λk=>if k then f1 ρ else f2 ρ:=nr rfl
@[simp] def rM{m:List D->R D}:cl fs m ρ=(fs ρ).bind λds=>(m ds).nox:=nr rfl
@[simp] def yq3:itS f ρ=(f ρ).bind λd=>R.of (J3 d):=nr rfl
@[simp] def yc8{h:List D->Option (List D)}:itR h fs ρ=(fs ρ).bind λxs=>R.of (h xs):=nr rfl
@[simp] def wq6{g:D->Ev->R Ev}:m_ it g m ρ=(it ρ).bind λds=>Kh ds g m ρ:=nr rfl
@[simp] def yr6:p0 ρ=.ok none:=nr rfl
@[simp] def yr7:p1 f ρ=(f ρ).bind λd=>R.of (isI d):=nr rfl
@[simp] def yr0{lo hi:Ev->R (Option Int)}{g:D->Option Int->Option Int->Option D}:bS f lo hi g ρ=(f ρ).bind λx=>(lo ρ).bind λi=>(hi ρ).bind λj=>R.of (g x i j):=nr rfl
@[simp] def yl3{g:D->Ev->R Ev}:jN g f ρ=(f ρ).bind λd=>(g d ρ).bind λF=>.ok (.nx F):=nr rfl
@[simp] def aH{d:D}:gN i d ρ=.ok (ρ.set i (some d)):=nr rfl
@[simp] def yr1:gT Y (.tup ds) ρ=Eu Y ds ρ:=nr rfl
@[simp] def yq0:gT Y (.lst ds) ρ=Eu Y ds ρ:=nr rfl
@[simp] def yj8:Eu [] [] ρ=.ok ρ:=nr rfl
@[simp] def yj9{d:D}:Eu (i::Y) (d::ds) ρ=Eu Y ds (ρ.set i (some d)):=nr rfl
@[simp] def gv0{d:D}:gv 0 (some d::r)=.ok d:=nr rfl
@[simp] def ym4{d:D}:gv 1 (o0::some d::r)=.ok d:=nr rfl
@[simp] def ys0{d:D}:gv 2 (o0::o1::some d::r)=.ok d:=nr rfl
@[simp] def ys1{d:D}:gv 3 (o0::o1::o2::some d::r)=.ok d:=nr rfl
@[simp] def ys2{d:D}:gv 4 (o0::o1::o2::o3::some d::r)=.ok d:=nr rfl
@[simp] def ys3{d:D}:gv 5 (o0::o1::o2::o3::o4::some d::r)=.ok d:=nr rfl
@[simp] def ys4{d:D}:gv 6 (o0::o1::o2::o3::o4::o5::some d::r)=.ok d:=nr rfl
@[simp] def ys5{d:D}:gv 7 (o0::o1::o2::o3::o4::o5::o6::some d::r)=.ok d:=nr rfl
@[simp] def ys6{d:D}:gv 8 (o0::o1::o2::o3::o4::o5::o6::o7::some d::r)=.ok d:=nr rfl
@[simp] def ys7{d:D}:gv 9 (o0::o1::o2::o3::o4::o5::o6::o7::o8::some d::r)=.ok d:=nr rfl
@[simp] def yq7{d:D}:gv 10 (o0::o1::o2::o3::o4::o5::o6::o7::o8::o9::some d::r)=.ok d:=nr rfl
@[simp] def yq8{F:Option D}{d:D}:gv 11 (o0::o1::o2::o3::o4::o5::o6::o7::o8::o9::F::some d::r)=.ok d:=nr rfl
def kJ{x:D}(h:ρ[i]? = some (some (.lst ds)))(L:f ρ=.ok x)(F:ds.length<16777216):b7 i f ρ=.ok (.nx (ρ.set i (some (.lst (ds++[x]))))):=by unfold b7;rw[h];simp[L,F]
@[simp] def uY{a b:Int}:Ca (.int a) (.int b)=some (.int (a+b)):=nr rfl
@[simp] def yd0{a b:Int}:fZ (.int a) (.int b)=some (.int (a - b)):=nr rfl
@[simp] def yr5{a b:Int}:ltD (.int a) (.int b)=some (.bl (decide (a<b))):=nr rfl
@[simp] def yr4{a b:Int}:leD (.int a) (.int b)=some (.bl (decide (a<=b))):=nr rfl
@[simp] def yr3{a b:Int}:gtD (.int a) (.int b)=some (.bl (decide (b<a))):=nr rfl
@[simp] def yr2{a b:Int}:geD (.int a) (.int b)=some (.bl (decide (b<=a))):=nr rfl
@[simp] def wq8{k:Bool}:bT (.bl k)=some k:=nr rfl
@[simp] def yq2{a:Int}:isI (.int a)=some (some a):=nr rfl
@[simp] def ym1{k:Bool}:mY (.bl k)=some k:=nr rfl
@[simp] def yl5:Gu [.lst xs]=some (.int xs.length):=nr rfl
@[simp] def yl6:Gu [.tup xs]=some (.int xs.length):=nr rfl
@[simp] def yl9:J3 (.lst xs)=some xs:=nr rfl
@[simp] def ym0:J3 (.tup xs)=some xs:=nr rfl
@[simp] def Gm:Dr [.lst xs]=some (.tup xs):=nr rfl
@[simp] theorem yl7{a b:Int}:minD [.int a,.int b]=some (.int (min a b)):=by show some (D.int (if b<a then b else a))=_;congr 2;split<;>lia
@[simp] def oX:Ci n m ds=bV (m (Ag n ds)):=nr rfl
@[simp] def uX:bV (.ok (.nx ρ))=.ok .non:=nr rfl
end
variable {g2:Ev->R Fl}
def Ak{g1:Ev->R Fl}{ρ1:Ev}{r:R Fl}(h:g1 ρ=.ok (.nx ρ1))(h2:g2 ρ1=r):sq g1 g2 ρ=r:=by rw[rK,h];exact h2
def Qm{g1:Ev->R Fl}{d:D}(h:g1 ρ=.ok (.rt d)):sq g1 g2 ρ=.ok (.rt d):=by rw[rK,h];rfl
def Bf{d:D}(h:f ρ=.ok d):asg i f ρ=.ok (.nx (ρ.set i (some d))):=by rw[yc4,h];rfl
def Bc{d:D}(h:f ρ=.ok d):gA f ρ=.ok (.rt d):=by rw[wr2,h];rfl
def J1{t:Ev->R Bool}{g1:Ev->R Fl}(h:t ρ=.ok true):ifS t g1 g2 ρ=g1 ρ:=by rw[tK,h];rfl
def Dd{t:Ev->R Bool}{g1:Ev->R Fl}(h:t ρ=.ok false):ifS t g1 g2 ρ=g2 ρ:=by rw[tK,h];rfl
def Ks{g:D->Ev->R Ev}{b:Ev->R Fl}{r:R Fl}(h:it ρ=.ok ds)(h2:Kh ds g b ρ=r):m_ it g b ρ=r:=by rw[wq6,h];exact h2
def Bg{g:Ev->R Fl}{d:D}(h:g (Ag n ds)=.ok (.rt d)):Ci n g ds=.ok d:=by rw[oX,h];rfl
def uW{a b:Int}(h:0<b)(h2:b<4611686018427387904):Ut (.int a) (.int b)=some (.int (a / b)):=by show(if _ then _ else _)=_;rw[if_pos ⟨h,h2⟩]
def kE{a b:Int}(h:0<b):Vr (.int a) (.int b)=some (.int (a % b)):=by show(if _ then _ else _)=_;rw[if_pos h]
def Lz{a b:Int}(h:-(2 ^ 64)<a)(h2:a<2 ^ 64):Jv (.int a) (.int b)=some (.int (a * b)):=by show(if _ then _ else _)=_;rw[if_pos (.inl ⟨h,h2⟩)]
def Wx{ys:List D}(h:xs.length+ys.length<=16777216):Ca (.tup xs) (.tup ys)=some (.tup (xs++ys)):=by show(if _ then _ else _)=_;rw[if_pos h]
def oY{ys:List D}(h:xs.length+ys.length<=16777216):Ca (.lst xs) (.lst ys)=some (.lst (xs++ys)):=by show(if _ then _ else _)=_;rw[if_pos h]
def Em(h:xs.length<=16777216):Ra xs=some (.tup xs):=by unfold Ra;rw[if_pos h]
def Ke(h:xs.length<=16777216):bO xs=some (.lst xs):=by unfold bO;rw[if_pos h]
theorem kI{d:D}(h:xs[i]? = some d):ixD (.tup xs) (.int (i:Int))=some d:=by have m:i<xs.length:=(QK.mp h).1;show atI xs (i:Int)=some d;unfold L2.atI L2.ixN;rw[if_pos (by lia),if_pos (by lia)];simpa using h
theorem Rm{d:D}(h:xs[i]? = some d):ixD (.lst xs) (.int (i:Int))=some d:=by have m:i<xs.length:=(QK.mp h).1;show atI xs (i:Int)=some d;unfold L2.atI L2.ixN;rw[if_pos (by lia),if_pos (by lia)];simpa using h
@[simp] def uV{x:D}:ixD (.tup (x::xs)) (.int 0)=some x:=kI (i:=0) rfl
variable {y:D}
@[simp] def wr0{x:D}:ixD (.tup (x::y::xs)) (.int 1)=some y:=kI (i:=1) rfl
def nR{a b:Int}(h:0<=b/\b<=1000000/\a.natAbs<2 ^ 64):aF (.int a) (.int b)=some (.int (a ^ b.toNat)):=by dsimp only[aF];rw[if_pos h]
def Ab(l:List Nat):List D:=l.map λ(x:Nat)=>.int (x:Int)
def Aq(l:List Nat):(Ab l).length=l.length:=by simp[Ab]
def Dy{l:List Nat}:(Ab l)[i]? = (l[i]?).map λ(x:Nat)=>D.int (x:Int):=by simp[Ab]
def K6{l:List Nat}{d:D}:d∈Ab l↔∃x∈l,d=.int (x:Int):=by unfold Ab;rw[JF];exact⟨λ⟨x,h,e⟩=>⟨x,h,e.symm⟩,λ⟨x,h,e⟩=>⟨x,h,e.symm⟩⟩
theorem Qi{l:List Nat}:D.int (k:Int)∈Ab l↔k∈l:=by
 rw[K6];refine⟨λ⟨x,h,e⟩=>?_,λh=>⟨k,h,rfl⟩⟩;have:(k:Int)=x:=by injection e
 have:k=x:=by lia
 exact this ▸ h
theorem Nx(h:n<2 ^ 62):Ol [.int (n:Int)]=some (Ab (List.range n)):=by
 have h':-(2 ^ 62)<=(n:Int)/\(n:Int)<2 ^ 62:=by lia
 dsimp only[Ol];rw[if_pos h',XQ];simp[Ab]
theorem Ey{g:D->Ev->R Ev}{b:Ev->R Fl}(I:Nat->Ev->Prop):∀(ds:List D)(k:Nat)(ρ:Ev),I k ρ->(∀i d ρ,ds[i]? = some d->I (k+i) ρ->∃q m,g d ρ=.ok q/\(b q=.ok (.nx m)\/b q=.ok (.ct m))/\I (k+i+1) m) ->
  ∃z,Kh ds g b ρ=.ok (.nx z)/\I (k+ds.length) z
 | [],k,ρ,h,_=>⟨ρ,rfl,h⟩
 |d::ds,k,ρ,h,st=>by
  refine Bo (λq m e1 B h2=>?_) (st 0 d ρ rfl h);obtain⟨z,U,L⟩:=Ey I ds (k+1) m h2 λi d ρ F C=>by have:=st (i+1) d ρ (by simpa using F) (by rw[show k+(i+1)=k+1+i by lia];exact C);rwa [show k+(i+1)+1=k+1+i+1 by lia]at this
  refine⟨z,?_,by rw[RB,show k+(ds.length+1)=k+1+ds.length by lia];exact L⟩;rw[Kh,e1];rcases B with B |B<;>simp[B,U]
def comp_map{g:D->Ev->R Ev}{f:Ev->R D}{ρ:Ev}{h:D->D}:∀(ds:List D),(∀d∈ds,∃m,g d ρ=.ok m/\f m=.ok (h d))->Fv g yes f ρ ds=.ok (ds.map h)
 | [],_=>rfl
 |d::ds,st=>by refine Am (λm B z=>?_) (st d LK);rw[Fv,B];simp[yes,z,comp_map ds λx q=>st x (JW _ q)]
def Ul{g:D->Ev->R Ev}{t:Ev->R Bool}{f:Ev->R D}{ρ:Ev}{p:D->Bool}{h:D->D}:∀(ds:List D),(∀d∈ds,∃m,g d ρ=.ok m/\t m=.ok (p d)/\(p d=true->f m=.ok (h d)))->Fv g t f ρ ds=.ok ((ds.filter p).map h)
 | [],_=>rfl
 |d::ds,st=>by
  refine Gk (λm L F C=>?_) (st d LK);have z:=Ul (g:=g) (t:=t) (f:=f) (ρ:=ρ) (p:=p) (h:=h) ds λx B=>st x (JW _ B);rw[Fv,L];simp only[R.ok_bind,F];cases q:p d with
  |true=>simp[C q,z,q]
  |false=>simp[z,q]
def Ec{g:D->Ev->R Ev}{t:Ev->R Bool}(q:it ρ=.ok ds)(h2:Fv g t f (Dp n caps ρ) ds=.ok xs)(m:xs.length<=16777216):Bl it n caps g t f ρ=.ok (.lst xs):=by unfold Bl;simp[q,h2,m,R.nox]
mutual
def D.pl:Nat->D->Bool
 |_,.int _=>true
 |_,.non=>true
 |n,.tup xs=>match n with |0=>false |n+1=>Eh n xs
 |n,.lst xs=>match n with |0=>false |n+1=>Eh n xs
 |_,_=>false
def Eh:Nat->List D->Bool
 |_,[]=>true
 |n,d::ds=>d.pl n && Eh n ds
end
def Jw{i:Int}:(D.int i).pl n=true:=by simp[D.pl]
def Pq(l:List Nat):∀d∈Ab l,d.pl n=true:=λd q=>by refine Am (λx _ m=>?_) (K6.mp q);obtain rfl:=m;exact Jw
def Jf{n:Nat}:∀{ds:List D},Eh n ds=true↔∀d∈ds,d.pl n=true
 | []=>by simp[Eh]
 |d::ds=>by rw[Eh,QH,Jf];simp
mutual
theorem Q6:∀(n m:Nat)(d:D),n<=m->d.pl n=true->d.cok m=true
 |n,m,.int _,_,_=>by simp[D.cok]
 |n,m,.non,_,_=>by simp[D.cok]
 |n,m,.bl _,_,h=>by simp[D.pl]at h
 |n,m,.str _,_,h=>by simp[D.pl]at h
 |n,m,.exc _ _ _,_,h=>by simp[D.pl]at h
 |0,m,.tup xs,_,h=>by simp[D.pl]at h
 |0,m,.lst xs,_,h=>by simp[D.pl]at h
 |n+1,0,.tup xs,h,_=>by lia
 |n+1,0,.lst xs,h,_=>by lia
 |n+1,m+1,.tup xs,h,z=>by
  have q:Eh n xs=true:=by simpa[D.pl] using z
  simpa[D.cok] using K9 n m xs (by lia) q
 |n+1,m+1,.lst xs,h,z=>by
  have q:Eh n xs=true:=by simpa[D.pl] using z
  simpa[D.cok] using K9 n m xs (by lia) q
theorem K9:∀(n m:Nat)(ds:List D),n<=m->Eh n ds=true->Cr m ds=true
 |n,m,[],_,_=>by simp[Cr]
 |n,m,d::ds,h,z=>by
  have q:d.pl n=true/\Eh n ds=true:=by simpa[Eh] using z
  simp[Cr,Q6 n m d h q.1,K9 n m ds h q.2]
end
mutual
theorem wM:∀(n:Nat)(x y:D),x.pl n=true->y.pl n=true->(PyData.eqv x.py y.py=true↔x=y)
 |n,.int i,.int j,_,_=>by simp[D.py,PyData.eqv]
 |n,.int i,.non,_,_=>by simp[D.py,PyData.eqv]
 |n,.non,.int j,_,_=>by simp[D.py,PyData.eqv]
 |n,.non,.non,_,_=>by simp[D.py,PyData.eqv]
 |n,.int i,.tup ys,_,_=>by simp[D.py,PyData.eqv]
 |n,.int i,.lst ys,_,_=>by simp[D.py,PyData.eqv]
 |n,.non,.tup ys,_,_=>by simp[D.py,PyData.eqv]
 |n,.non,.lst ys,_,_=>by simp[D.py,PyData.eqv]
 |n,.tup xs,.int j,_,_=>by simp[D.py,PyData.eqv]
 |n,.tup xs,.non,_,_=>by simp[D.py,PyData.eqv]
 |n,.tup xs,.lst ys,_,_=>by simp[D.py,PyData.eqv]
 |n,.lst xs,.int j,_,_=>by simp[D.py,PyData.eqv]
 |n,.lst xs,.non,_,_=>by simp[D.py,PyData.eqv]
 |n,.lst xs,.tup ys,_,_=>by simp[D.py,PyData.eqv]
 |0,.tup xs,.tup ys,h,_=>by simp[D.pl]at h
 |0,.lst xs,.lst ys,h,_=>by simp[D.pl]at h
 |n+1,.tup xs,.tup ys,z,h2=>by
  have q:Eh n xs=true:=by simpa[D.pl] using z
  have m:Eh n ys=true:=by simpa[D.pl] using h2
  simp only[D.py,PyData.eqv,D.tup.injEq];exact Qw n xs ys q m
 |n+1,.lst xs,.lst ys,z,h2=>by
  have q:Eh n xs=true:=by simpa[D.pl] using z
  have m:Eh n ys=true:=by simpa[D.pl] using h2
  simp only[D.py,PyData.eqv,D.lst.injEq];exact Qw n xs ys q m
 |n,.bl _,_,h,_=>by simp[D.pl]at h
 |n,.str _,_,h,_=>by simp[D.pl]at h
 |n,.exc _ _ _,_,h,_=>by simp[D.pl]at h
 |n,_,.bl _,_,h=>by simp[D.pl]at h
 |n,_,.str _,_,h=>by simp[D.pl]at h
 |n,_,.exc _ _ _,_,h=>by simp[D.pl]at h
theorem Qw:∀(n:Nat)(xs ys:List D),Eh n xs=true->Eh n ys=true->(PyData.eqvAll (Gx xs) (Gx ys)=true↔xs=ys)
 |n,[],[],_,_=>by simp[Gx,PyData.eqvAll]
 |n,[],y::ys,_,_=>by simp[Gx,PyData.eqvAll]
 |n,x::xs,[],_,_=>by simp[Gx,PyData.eqvAll]
 |n,x::xs,y::ys,z,h2=>by
  have q:x.pl n=true/\Eh n xs=true:=by simpa[Eh] using z
  have m:y.pl n=true/\Eh n ys=true:=by simpa[Eh] using h2
  simp only[Gx,PyData.eqvAll,QH,List.cons.injEq];rw[wM n x y q.1 m.1,Qw n xs ys q.2 m.2]
end
def D.eqb_true{x:D}(q:x.pl n=true)(m:y.pl n=true):x.eqb y=true↔x=y:=wM n x y q m
def yl8{x:D}[Decidable (x=y)](z:n<=60)(q:x.pl n=true)(m:y.pl n=true):neD x y=some (.bl (!decide (x=y))):=by unfold neD;rw[if_pos (by rw[Q6 n 60 x z q,Q6 n 60 y z m];rfl)];congr 3;rw[aV,D.eqb_true q m,decide_eq_true_eq]
@[simp] def nW{a b:Int}:eqD (.int a) (.int b)=some (.bl (decide (a=b))):=by
 show(if _ then _ else _)=_;rw[if_pos (by simp[D.cok])];have e:(D.int a).eqb (D.int b)=decide (a=b):=by rw[aV,D.eqb_true (n:=0) rfl rfl,decide_eq_true_eq,D.int.injEq]
 rw[e]
@[simp] def j_{a b:Int}:neD (.int a) (.int b)=some (.bl (decide (a≠b))):=by
 show(if _ then _ else _)=_;rw[if_pos (by simp[D.cok])];have e:(!(D.int a).eqb (D.int b))=decide (a≠b):=by rw[aV,XH,decide_eq_true_eq,<-Bool.not_eq_true,D.eqb_true (n:=0) rfl rfl,D.int.injEq]
 rw[e]
def wZ{x:D}{ys:List D}(m:x.pl n=true)(z:∀y∈ys,y.pl n=true):(ys.any λy=>y.eqb x)=true↔x∈ys:=by
 rw[iI];constructor
 ·rintro⟨y,q,h2⟩;rw[D.eqb_true (z y q) m]at h2;exact h2 ▸ q
 ·intro h;exact⟨x,h,(D.eqb_true m m).mpr rfl⟩
def jK{x d:D}{ys:List D}(m:J3 d=some ys){b:Bool}(B:n<=60)(z:x.pl n=true)(q:∀y∈ys,y.pl n=true)(F:b=true↔x∈ys):inD x d=some (.bl b):=by
 have e:(ys.any λy=>y.eqb x)=b:=by rw[aV,wZ z q,F]
 have c:(x.cok 60 && Cr 60 ys)=true:=by rw[Q6 n 60 x B z,K9 n 60 ys B (Jf.mpr q)];rfl
 cases d with
 |lst C=>cases m;show(if _ then _ else _)=_;rw[if_pos c,e]
 |tup C=>cases m;show(if _ then _ else _)=_;rw[if_pos c,e]
 |_=>cases m
def tH{x d:D}{ys:List D}(m:J3 d=some ys){b:Bool}(B:n<=60)(z:x.pl n=true)(q:∀y∈ys,y.pl n=true)(F:b=true↔x∈ys):aG x d=some (.bl (!b)):=by
 have e:(ys.any λy=>y.eqb x)=b:=by rw[aV,wZ z q,F]
 have c:(x.cok 60 && Cr 60 ys)=true:=by rw[Q6 n 60 x B z,K9 n 60 ys B (Jf.mpr q)];rfl
 cases d with
 |lst C=>cases m;show(if _ then _ else _)=_;rw[if_pos c,e]
 |tup C=>cases m;show(if _ then _ else _)=_;rw[if_pos c,e]
 |_=>cases m
def tZ(q:Dq xs=true)(h:xs.Pairwise λa b=>G9 a b=true):srt xs=xs:=by refine eq_of_sorted (le:=λa b=>G9 a b=true) (Cy xs) (Ep xs) h λa B b z m h2=>?_;unfold G9 at m h2;rw[XH]at m h2;exact pK q ((Cy xs).mem_iff.mp B) ((Cy xs).mem_iff.mp z) (Fp _ _ h2 m)
def Pb(l:List Nat):Dq (Ab l)=true:=by unfold Dq;rw[ZW];refine .inl (RJ.mpr λd q=>?_);refine Am (λx _ m=>?_) (K6.mp q);obtain rfl:=m;rfl
theorem wt2{a b:Nat}(h:a<=b):G9 (.int (a:Int)) (.int (b:Int))=true:=by
 show(!De [(b:Int)] [(a:Int)])=true;rw[De];by_cases e:(b:Int)=a
 ·rw[if_pos e];rfl
 ·rw[if_neg e,decide_eq_false (by lia)];rfl
def U9{l:List Nat}(h:l.Pairwise (·<·)):(Ab l).Pairwise λa b=>G9 a b=true:=by unfold Ab;rw[cC];exact h.imp λm=>wt2 (aU m)
variable {m:List Nat}
def ky2{l:List Nat}(C:l.Nodup)(z:m.Pairwise (·<·))(h:∀k,k∈l↔k∈m):srt (Ab l)=Ab m:=by have p:l.Perm m:=(cH C (z.imp λq=>JV q)).mpr h;have B:(Ab l).Perm (Ab m):=p.map _;rw[Ox (Pb m) B];exact tZ (Pb m) (U9 z)
def Ma(l:List Nat):Ax (Ab l)=some (l.map λ(x:Nat)=>(x:Int)):=by have:=Tz (l.map λ(x:Nat)=>(x:Int));rw[TY]at this;exact this
theorem jf6{l:List Nat}(C:l.length<64)(B:m.Pairwise (·<·))(h:∀k,k∈l↔k∈m):Dn [.lst (Ab l)]=some (.lst (Ab m)):=by
 have q:(Ab l).length<64:=by rw[Aq];exact C
 unfold Dn;have e:Jd [.lst (Ab l)]=some (l.map λ(x:Nat)=>(x:Int)):=by show(if(Ab l).length<64 then Ax (Ab l) else none)=_;rw[if_pos q,Ma]
 rw[e];show some (D.lst (d_ _))=_;congr 2;unfold d_;have L:(m.map λ(x:Nat)=>(x:Int)).Nodup:=by unfold List.Nodup;rw[cC];exact B.imp λF=>by lia
 have p:(M5 (l.map λ(x:Nat)=>(x:Int))).Perm (m.map λ(x:Nat)=>(x:Int)):=(cH (G8 _) L).mpr λk=>by rw[Ew,JF,JF];exact⟨λ⟨x,z,h2⟩=>⟨x,(h x).mp z,h2⟩,λ⟨x,z,h2⟩=>⟨x,(h x).mpr z,h2⟩⟩
 have U:(m.map λ(x:Nat)=>(x:Int)).map D.int=Ab m:=by rw[TY];rfl
 rw[Ox (Pa _) (p.map D.int),U];exact tZ (Pb m) (U9 B)
theorem Km{l:List Nat}(q:l.length<64)(B:l.Nodup)(z:m.Pairwise (·<·))(h:∀k,k∈l↔k∈m){d:D}(C:J3 d=some (Ab l)):Cq [d]=some (.lst (Ab m)):=by
 unfold Cq;dsimp only;rw[C];dsimp only;rw[if_pos ⟨by rw[Aq];exact q,.inr (Pb l)⟩];congr 2;have e:=ky2 B z h;split
 ·rename_i h2;rw[<-Ud h2];exact e
 ·exact e
def Zu(l:List Nat):My (Ab l)=(List.range l.length).map λ(i:Nat)=>D.tup [.int (i:Int),.int ((l.getD i 0:Nat):Int)]:=by
 apply dG
 ·simp[My,Aq]
 ·intro i z h2;have q:i<l.length:=by simpa using h2
  simp[My,Ab,q]
def wX:∀bs:List Bool,Vm (bs.map .bl)=some bs
 | []=>rfl
 |b::bs=>by rw[NP,Vm,wX bs];rfl
def u_(bs:List Bool):b8 [.lst (bs.map .bl)]=some (.bl (bs.all id)):=by show(Vm (bs.map .bl)).map _=_;rw[wX];rfl
theorem wB{l:List Nat}{d:D}{b:Bool}(q:J3 d=some (Ab l))(z:b=true↔k∈l):inD (.int (k:Int)) d=some (.bl b):=
 jK (n:=0) q (by lia) Jw (Pq l) (by rw[z,Qi])
theorem kt7{l:List Nat}{d:D}{b:Bool}(q:J3 d=some (Ab l))(z:b=true↔k∈l):aG (.int (k:Int)) d=some (.bl (!b)):=
 tH (n:=0) q (by lia) Jw (Pq l) (by rw[z,Qi])
def Ti{x:D}(z:n<=60)(q:x.pl n=true):neD x x=some (.bl false):=by unfold neD;rw[if_pos (by rw[Q6 n 60 x z q];rfl),(D.eqb_true q q).mpr rfl];rfl
def ke6{x:D}(z:n<=60)(q:x.pl n=true):eqD x x=some (.bl true):=by unfold eqD;rw[if_pos (by rw[Q6 n 60 x z q];rfl),(D.eqb_true q q).mpr rfl]
section
variable {apos L:JG}{U:Ev->R (List D)}{g:D->Ev->R Ev}{t:Ev->R Bool}{f:Ev->R D}
def kj1(i:Nat)(nd:X.N.Nodup)(ao:Lw scope X.env.scope X.N caps=true)(hc:X.calm=true)(hi:PId X c l tg iter U)
  (hg:∀(C:BK)(s:BJ)(H:Hp)(ex:List BK)(H0:Hp)(S0:AS)(Z:List BK),Tb c.H0 H0->PGd (cxB X (Eb X T caps) scope C s H ex) ⟨H0,S0,[],G5,Z⟩ tg g)
  (ht:∀(C:BK)(s:BJ)(H:Hp)(ex:List BK)(H0:Hp)(S0:AS)(Z:List BK),Tb c.H0 H0->TsD (cxB X (Eb X T caps) scope C s H ex) ⟨H0,S0,[],G5,Z⟩ ifs t)
  (he:∀(C:BK)(s:BJ)(H:Hp)(ex:List BK)(H0:Hp)(S0:AS)(Z:List BK),Tb c.H0 H0->PEd (cxB X (Eb X T caps) scope C s H ex) ⟨H0,S0,[],G5,Z⟩ .any elt f)
  (ak:∀d ρ ab,g d ρ=.ok ab->ab.length=ρ.length/\∀i,T.length<=i->ab[i]? = ρ[i]?)(af:Mw c.O l caps=true)(hs:∀x,FP iter X.env x=pure x)
  (hN:X.N[i]? = some x)(hx:Loc X.env.scope x)(ag:FJ (.ListComp elt [⟨tg,iter,ifs,0⟩] scope pos) (some (.Name x L)) apos.line X.env=pure true)(hf:X.fn x=true\/X.env.scope.names.lookup x=some .local)
  {D:Ends}(I:Inv X pins σ H s)(E:Az X.K c hs' ρ σ H)
  (q:RQ (Bl U T.length caps g t f ρ) (λd=>∀a vs ds H',d=.lst ds->Af H H'->H a=none->H' a=some (.lst vs)->An X.K H' (AS.but (lvS c ρ σ H l) a) ds vs->D.nx (σ.set i (some (.ref a))) H') (λe=>∀v H',Af H H'->Rep X.K H' (lvS c ρ σ H .any) e v->c.Ex e v H')):
  BL (BR X.prog X.w) X.A (exec (.Assign [.Name x L] (.ListComp elt [⟨tg,iter,ifs,0⟩] scope pos) apos) X.env) (SP X pins D) X.xe s:=by
 have B:Fy X scope T caps:=.of ao;rw[exec_Assign_Name_used x L _ apos ag];refine BX (HH (BX ?_));rw[arm_evalThenUse_ListComp];refine BX ?_;show BL (BR X.prog X.w) X.A (XJ (.ListComp elt [⟨tg,iter,ifs,0⟩] scope pos) scope X.env (firstIterPos [⟨tg,iter,ifs,0⟩] pos) (YT []) false (CZ iter X.env) (some (WN (.Name x L) X.env))) _ _ _;have q:=RQ.bind.mp q;cases aa:U ρ with
 |ok ds =>
  rw[aa]at q;refine Am (λd ed q=>?_) (RQ.nox q);refine Am (λxs ex ed=>?_) (Bp ed);by_cases hz:xs.length<=16777216
  ·rw[if_pos hz]at ed;cases ed;refine Zk B hc hi hg ht he ak af hs I E aa ex hz λa vs s3 s' H3 H' fp ar I3 f3 J sm Ha hv r=>?_;have I1:Inv X pins σ H' s':=I3.call' (ch:=fp) J.os J.base J.hok J.bare λb hb=>⟨(f3 b hb).2.2.2.1,(f3 b hb).2.1,(f3 b hb).2.2.2.2.1,(f3 b hb).2.2.2.2.2⟩;have F:=I3.fpOk (H':=H') (FW s3.heap.objs.size) J.free;refine cQ ?_
   ·refine zO (v:=.ref a) I1 nd hN hx rfl (λae I2 ah=>?_) hf;revert ah;refine Am λb sb hb=>?_;refine Am (λm hn _=>?_) (J.loc);have ai:s3.heap.objs.size≠b:=by
     rcases hb with rfl |hb
     ·exact F.2.1
     ·exact(F.2.2.2.2.1 x b hb).symm
    have aj:ae.heap.Ns s3.heap.objs.size m:=by revert hn;refine cX λo es ep ho rr=>?_;exact⟨o,es,ep,(sb.2 _ ai).trans ho,rr⟩
    refine⟨m,aj,λh' aq=>?_⟩;refine CW (CW ⟨σ.set i (some (.ref a)),H',?_,q a vs xs H' rfl sm Ha hv r⟩);exact I2.turned (t':=ae.toks) (h':=h') (it:=s3.heap.objs.size) (λb o hb e=>(aq.2 b hb).trans e) J.free F.2.1 F.2.2.2.1 F.2.2.2.2.1 F.2.2.2.2.2
  ·rw[if_neg hz]at ed;cases ed
 |exc y=>rw[aa]at q;refine NK (cl:=Nj scope X.env) rfl hs (B.clo I) B.kind B.names ?_;refine thn (hi pins s σ H (λ_ _=>False) I ⟨hs',ρ,E,by rw[aa];exact q⟩) λv s1 h1=>thn h1 λau s2 h2=>?_;revert h2;refine rN λ_ _ _ _ _ _ _ _ _ _ z=>?_;exact z.elim
 |bad=>rw[aa]at q;exact q.elim
def setC(i:Nat)(nd:X.N.Nodup)(ah:Lw scope X.env.scope X.N caps=true)(hc:X.calm=true)(hi:PId X c l tg iter U)
  (hg:∀(C:BK)(s:BJ)(H:Hp)(B:List BK)(H0:Hp)(F:AS)(Z:List BK),PGd (cxB X (Eb X T caps) scope C s H B) ⟨H0,F,[],G5,Z⟩ tg g)
  (ht:∀(C:BK)(s:BJ)(H:Hp)(B:List BK)(H0:Hp)(F:AS)(Z:List BK),TsD (cxB X (Eb X T caps) scope C s H B) ⟨H0,F,[],G5,Z⟩ ifs t)
  (he:∀(C:BK)(s:BJ)(H:Hp)(B:List BK)(H0:Hp)(F:AS)(Z:List BK),PEd (cxB X (Eb X T caps) scope C s H B) ⟨H0,F,[],G5,Z⟩ .any elt f)
  (ag:∀d ρ aa,g d ρ=.ok aa->aa.length=ρ.length/\∀i,T.length<=i->aa[i]? = ρ[i]?)(ab:Mw c.O l caps=true:=by rfl)(hs:∀x,FP iter X.env x=pure x:=by intro _;rfl)
  (hl:l.le .no=true:=by rfl)(af:c.O.contains i=false:=by rfl)(hN:X.N[i]? = some x:=by rfl)(hx:Loc X.env.scope x:=by first |exact Or.inl rfl |exact Or.inr rfl)(ae:FJ (.ListComp elt [⟨tg,iter,ifs,0⟩] scope pos) (some (.Name x L)) apos.line X.env=pure true:=by rfl)
  (hf:X.fn x=true\/X.env.scope.names.lookup x=some .local:=by first |exact .inl rfl |exact .inr rfl):
  PSd X c (.Assign [.Name x L] (.ListComp elt [⟨tg,iter,ifs,0⟩] scope pos) apos) (asg i (Bl U T.length caps g t f)):=λpins s σ H D I q=>by
 revert q;refine Bm λhs' ρ E q=>?_;refine kj1 i nd ah hc hi (λC s H B H0 F Z _=>hg C s H B H0 F Z) (λC s H B H0 F Z _=>ht C s H B H0 F Z) (λC s H B H0 F Z _=>he C s H B H0 F Z) ag ab hs hN hx ae hf I E ((RQ.bind.mp q).mono (λd q1 a vs ds H' ed s1 ha hv r=>?_) λy z=>Fo E z);subst ed;refine q1 _ H' ((E.mono s1).set (by simpa using af) ⟨a,vs,rfl,.inl ⟨hv,?_⟩,r.mono (Af.refl _) λo z=>?_⟩)
 ·exact E.freshN ⟨a,rfl,ha⟩
 ·exact Ph E hl z.1
end
def pD(E:Az K c hs ρ σ H)
  (h:RQ (f ρ) (λd=>∀v H',Af H H'->Az K c hs ρ σ H'->Rep K H' (lvS c ρ σ H l) d v->Q [v] H') (λe=>∀v H',Af H H'->Rep K H' (lvS c ρ σ H .any) e v->c.Ex e v H')):tDA K c 1 l (zv f a0) σ H Q:=by
 refine⟨hs,ρ,E,RQ.bind.mpr (h.mono (λd q=>?_) λ_ z=>z)⟩;intro vs H' C r L;refine Am (λv B F=>?_) (An.one r);obtain rfl:=B;exact q v H' C (E.mono C) F
open PySem PySem.Spec PyProof.Rows L2
open PySem PySem.Spec PyProof.Rows L2 PySem.W
def yh8(P:BZ)(w:CV):List V->Hp->VK->Prop:=λxs H Q=>∃a ns,xs=[.ref a]/\H a=some (.ext (Y7 P w a ns))/\Q (.int ((M5 ns).length:Nat)) H
variable {X:Cx}{c:DC}{l:Lv}
section
variable {e:CN}{es:List CN}{fs:Ev->R (List D)}{C p B F:JG}
theorem wp1:Dc X (.builtin "len") (yh8 X.prog X.w):=by
 rintro pins s σ H ys us Q I r ⟨a,ns,e,ha,q⟩;subst e;refine Am (λu U ru=>?_) (vals1 r);obtain rfl:=U;cases ru;refine bY (λL _ _=>?_) (I.hok a _ ha);revert L;refine Am λo ho hD=>?_;revert hD;refine yk7 λxs ep t h1 h2 h3 h4 h5 h6 h7 _=>?_;have z:xs.size=(M5 ns).length:=by
  have z1:=(cH h4 (G8 ns)).mpr λk=>(h5 k).trans (Ew k ns).symm;have z2:=z1.length_eq;have z3:(Hl xs).length=xs.size:=by simp[Hl]
  lia
 refine call_len_set ho h1 h2 h7 (by unfold J_ at h6;lia) ?_;exact⟨.int ((M5 ns).length:Nat),H,I.tok _,(show ∃t,_=Value.int ((M5 ns).length:Nat) t from⟨_,by rw[z]⟩),q⟩
def K5(xs:List D):Option D:=(Jd xs).map λns=>.int ((M5 ns).length:Nat)
def jj9:∀xs d,K5 xs=some d->d.imm=true:=λxs d h=>by
 unfold K5 at h;cases e:Jd xs with
 |none=>rw[e]at h;cases h
 |some ns=>rw[e]at h;cases h;rfl
def wf5(hc:X.calm=true)(hm:X.mg "len" = none)(ab:X.mg "set" = none)(ha:PAd X c l (e::es) fs)(hg:Gl X "len":=by rfl)(ae:Gl X "set":=by rfl)(he:Zs X.env e es:=by rfl)
  (aa:Zp X.env B es:=by rfl)(U:BP [.Call (.Name "set" F) (e::es) [] B] X.env=(false,CZ (.Call (.Name "set" F) (e::es) [] B) X.env)::BP [] X.env:=by rfl)(L:Zp X.env C []:=by rfl):
  PEd X c l (.Call (.Name "len" p) [.Call (.Name "set" F) (e::es) [] B] [] C) (bA fs K5):=
 PE.imp (Oh wp1 hg hm PySem.boot_len (Df (Dz (tO hc) ae ab PyProof.Rows.boot_set ha (by decide) (by decide) he aa) Ho U) (by decide) (by decide) U L) λσ H Q q=>by
 revert q;refine Bm λhs ρ E q=>?_;refine Ce E ((RQ.bind.mp q).mono (λds q1 vs H1 s1 E1 r1 hn=>?_) λ_ z=>z);refine Am (λd Z q2=>?_) (q1.of);unfold K5 at Z;cases en:Jd ds with
 |none=>rw[en]at Z;cases Z
 |some ns=>rw[en]at Z;cases Z;refine⟨_,ds,ns,r1,en,λa ha=>⟨a,ns,rfl,Ah,?_⟩⟩;exact q2 _ _ (s1.trans (Aj (o:=HO.ext (Y7 X.prog X.w a ns)) ha)) rfl
end
def wj4:V->List V->Hp->VK->Prop:=λx vs H Q=>∃(l:BK)(xs:List V)(j:Nat)(y:V),x=.ref l/\vs=[.int (j:Int),y]/\H l=some (.lst xs)/\j<=xs.length/\xs.length<sizeLine/\Q .non (upd H l (.lst (xs.take j++y::xs.drop j)))
def Vals.take:∀{xs:List V}{us:List A_}(j:Nat),Vals xs us->Vals (xs.take j) (us.take j)
 |_,_,0,_=>.nil
 |_,_,_+1,.nil=>.nil
 |_,_,j+1,.cons a r=>.cons a (Vals.take j r)
def Vals.drop:∀{xs:List V}{us:List A_}(j:Nat),Vals xs us->Vals (xs.drop j) (us.drop j)
 |_,_,0,r=>r
 |_,_,_+1,.nil=>.nil
 |_,_,j+1,.cons _ r=>Vals.drop j r
theorem kh8:MtM X "list.insert" wj4:=by
 intro pins s σ H x vs v us Q I rx rv h;obtain⟨l,xs,j,y,rfl,rfl,hH,hj,hz,q⟩:=h;cases rx;obtain⟨u1,L,rfl,r1,U⟩:∃u1 L,us=u1::L/\RelV (.int (j:Int)) u1/\Vals [y] L:=by cases rv with |cons a b=>exact⟨_,_,rfl,a,b⟩
 obtain⟨u2,rfl,r2⟩:=U.one;obtain⟨t,rfl⟩:=(show ∃t,u1=Value.int (j:Int) t from r1);have⟨z,B,n,r,hl,e⟩:=I.lstM hH;have aa:=CQ;have hk:(if(j:Int)<0 then((j:Int)+((B.toArray.size:Nat):Int)).toNat else min (j:Int).toNat B.toArray.size)=j:=by rw[if_neg (by lia),XQ,KJ];lia
 have C:¬ (!Builtin.List.listFitsIndex (j:Int))=true:=by rw[fitsIndex_of (by lia) (by lia)];decide
 generalize (j:Int)=k at hk C ⊢;refine MJ F.slot_list_insert ⟨_,e,rfl⟩ F.entry_list_insert (F.args_list_insert_3 _ _ _) (PySem.AutoSeq1.list_insert_list_int_val_1 l B.toArray n k t u2 C (by rw[KJ];lia)) ⟨e,?_⟩;refine⟨.non,_,I.lset (its':=B.take j++u2::B.drop j) (ys:=xs.take j++y::xs.drop j) hH e ?_ ((Vals.take j r).append (.cons r2 (Vals.drop j r))) ?_,rfl,q⟩
 ·dsimp only;rw[hk];apply z_.mp;simp only[Array.toList_append,qN,Array.toList_extract,List.extract_eq_take_drop,List.drop_zero,Nat.sub_zero,KJ,PL,List.singleton_append];rw[mJ (l:=List.drop j B) (by rw[WX];exact FW _)]
 ·rw[PB,RB,RC,WX];lia
def gG(i:Nat)(z q:Ev->R D):Ev->R Fl:=λρ=>match ρ[i]? with
 |some (some (.lst ds))=>(z ρ).bind λk=>(q ρ).bind λd=>match k with
  | .int (.ofNat j)=>if j<=ds.length/\ds.length<16777216 then .ok (.nx (ρ.set i (some (.lst (ds.take j++d::ds.drop j))))) else .bad
  |_=>.bad
 |_=>.bad
theorem ym6(i:Nat){x:BV}{p apos B pos:JG}{ek e:CN}{fk f:Ev->R D}(hk:PEd X c .no ek fk)(he:PEd X c .no e f)(hi:c.O.contains i=true:=by rfl)(hN:X.N[i]? = some x:=by rfl)(hv:Vis X.env.scope x:=by first |exact Or.inl rfl |exact Or.inr (Or.inl rfl) |exact Or.inr (Or.inr rfl))(hd:Zd x:=by decide)
  (ah:(x == ("__classdict__" : BV))=false:=by decide)(aa:GD (.Name x p) "insert" X.env (CZ (.Name x p) X.env)=CZ (.Name x p) X.env:=by rfl)
  (ae:((HQ B (BP [ek,e] X.env)).all (λx=>!x.1) && (KQ B (G_ [] X.env)).all (λx=>x.1.isSome)
   && decide ([ek,e].length+([]:List JB).length+(if([]:List JB).isEmpty then 0 else 1)<30))=true:=by rfl)
  (U:(apos.endLine == B.line)=true:=by rfl)(hs:BP [ek,e] X.env=(false,CZ ek X.env)::BP [e] X.env:=by rfl)(ag:BP [e] X.env=(false,CZ e X.env)::BP [] X.env:=by rfl)(C:Zp X.env B [e]:=by rfl)
  (af:FJ (.Call (.Attribute (.Name x p) "insert" apos) [ek,e] [] B) none pos.line X.env=pure false:=by rfl):
  PSd X c (.Expr (.Call (.Attribute (.Name x p) "insert" apos) [ek,e] [] B) pos) (gG i fk f):=
 PS.imp (V1 (gM PySem.F.plainAttrs_list PySem.F.slot_list_insert PySem.F.type_list_insert kh8 (pv i hN hv hd ah) (Df hk (Df he Ho ag) hs) aa ae U hs C) af) λD0 σ H q=>by
 revert q;refine Bm λhs ρ E q=>?_;have ab:i∈c.O:=by simpa using hi
 unfold gG at q;split at q
 ·rename_i ds hd;refine rP (λa vs ai e0 e1 e2 e3 r=>?_) (E.ownL i _ ab hd);cases e0;refine⟨.ref a,e1,.inl ⟨rfl,vs,SqL.of e2⟩,?_⟩;refine Ba E ((RQ.bind.mp q).mono (λdk q1 k H1 s1 E1 r1=>?_) λx z=>Fo E z);refine Ba E1 ((RQ.bind.mp q1).mono (λd q2 v H2 s2 E2 r2=>?_) λx z=>Fo E1 z);split at q2
  ·rename_i j;cases(show k=.int (Int.ofNat j) from r1);by_cases hj:j<=ds.length/\ds.length<16777216
   ·rw[if_pos hj]at q2;have ln:=r.length;have L:=s1.trans s2;refine⟨a,vs,j,v,rfl,rfl,L _ _ e2,by lia,by rw[CQ];lia,?_⟩;have rr:=r.mono L λ_ z=>z;exact q2 σ _ (E2.write ab hd e1 (L _ _ e2) ((An.take j rr).append (.cons r2 (An.drop j rr))))
   ·rw[if_neg hj]at q2;exact q2.elim
  ·exact q2.elim
 ·exact q.elim
end PD
namespace PySem
open Sem (wp)
open AutoSeq1 (wpAny_loadPart')
open PyProof.Rows
variable {A:DK}{P:BZ}{s:BJ}{X:A_->BJ->Prop}{w:CV}
variable {it:BK}{i:Nat}{items:Array A_}{Q:A_->BJ->Prop}
def Vs{t:BK}{x:A_}(a:PyProof.Rows.IsTupIter s.heap it t i)(ht:PyProof.Rows.IsTup s.heap t items)(h:items[i]? = some x)
  (k:∀g,PyProof.Rows.IsTupIter g it t (i+1)->Heap.SameBut it s.heap g->Q x {s with heap:=g}):BL (BR P w) A (Builtin.SmallTypes.nextOf (.ref it)) Q X s:=by
 have⟨o,c,j,b⟩:=id a;obtain⟨l,e,_,m,f⟩:=ht;unfold Builtin.SmallTypes.nextOf;refine BX (DW (name:=Str.ofString "__next__") a.typeIs LC (C_ LC a.typeIs Z_ ?_ (a_ _)));show BL _ _ (field (.ref it) 0 >>= _) _ _ s;refine BX (DY c b (x:=.ref t) rfl ?_);show BL _ _ (if(Value.ref t == Value.none)=true then _ else _) _ _ s;rw[if_neg (show ¬ ((Value.ref t == Value.none)=true) from XR)];show BL _ _ (field (.ref it) 1 >>= _) _ _ s;refine BX (DY c b (x:=.int i 0) rfl ?_);show BL _ _ (QT (.ref t) >>= _) _ _ s;refine BX (GZ e f ?_);simp only[XQ,h];refine BX (DX c b (by simp) (CW ⟨x,rfl,CW (k _ ?_ (Heap.SameBut.update ..))⟩));exact⟨_,YC _ c (Obj.isFreed_of_fields (Obj.data_mapFields b _)),(Obj.cls_mapFields ..).trans j,by rw[Obj.data_mapFields b];simp[CK]⟩
theorem Od{t:BK}(k:A.handled=none)(b:PyProof.Rows.IsTupIter s.heap it t i)(ht:PyProof.Rows.IsTup s.heap t items)(l:items[i]? = none)
  (n:∀j e,lQ it s.heap j->(∃o,j.get? e=some o/\o.cls=.type "StopIteration")->X (.ref e) {s with heap:=j}):BL (BR P w) A (Builtin.SmallTypes.nextOf (.ref it)) Q X s:=by
 have⟨o,f,r,h⟩:=id b;obtain⟨p,c,_,q,g⟩:=ht;unfold Builtin.SmallTypes.nextOf;refine BX (DW (name:=Str.ofString "__next__") b.typeIs LC (C_ LC b.typeIs Z_ ?_ (a_ _)));show BL _ _ (field (.ref it) 0 >>= _) _ _ s;refine BX (DY f h (x:=.ref t) rfl ?_);show BL _ _ (if(Value.ref t == Value.none)=true then _ else _) _ _ s;rw[if_neg (show ¬ ((Value.ref t == Value.none)=true) from XR)];show BL _ _ (field (.ref it) 1 >>= _) _ _ s;refine BX (DY f h (x:=.int i 0) rfl ?_);show BL _ _ (QT (.ref t) >>= _) _ _ s;refine BX (GZ c g ?_);simp only[XQ,l];refine BX (wpAny_rule (BX (DX f h (by simp) ?_)));show BL _ _ (YW (.type "StopIteration") [] >>= _) _ _ _;refine BX ?_;simp only[YW,jR];refine BX (CG ?_ (by size_fits));refine BX (m:=JR _ _) (QL (a:=Value.none) (by first |rfl | (simp only[JR];rfl)) ?_);refine CG ?_ (by size_fits);simp only[raiseNew];refine BX (XC ?_)
 first |rw[show A.in1.handled=none from k] |rw[k]
 refine BX (CW (ZL ?_));exact n _ _ (((Heap.SameBut.update ..).extBut.push _).push _) ⟨_,L_ _ rfl,rfl⟩
def ke4(hh:A.handled=none){t:BK}(hne:t≠it):Draws P w A it [it,t] items.size (λi x=>items[i]? = some x) (λi h=>YK h it t i/\QG h t items) where
 live:=λi h ⟨⟨o,ho,_⟩,_⟩=>⟨o,ho⟩
 frame:=λi h h' ⟨⟨o,ho,r⟩,o2,ho2,r2⟩ k=>⟨⟨o,k it (by simp) o ho,r⟩,o2,k t (by simp) o2 ho2,r2⟩
 item:=λi s Q E hi ⟨hit,ht⟩ hQ=>by refine Vs hit ht (YD hi) λh' h1 h2=>hQ _ h' s.toks (YD hi) ⟨h1,?_⟩ h2;revert ht;refine Am λo ho r=>?_;exact⟨o,(h2.2 t hne).trans ho,r⟩
 done:=λs Q E ⟨hit,ht⟩ hE=>Od hh hit ht (by simp) hE
theorem Xr(l:BK)(items:Array A_)(n:Nat)(dct:Option BK)(j:Array (Option A_)):Meets (GR.«enumerate.__new__» ⟨[.type "enumerate",.ref l],[]⟩) (λ_ R s=>s.heap.get? l=some {cls:=.type "tuple",dict:=dct,data:=.seq items n,slots:=j} /\
   R (.ok (.ret (.ref (s.heap.push {cls:=.type "tuple_iterator",data:=.fields #[.ref l,.int 0 0] }).objs.size))) {s with heap:=(s.heap.push {cls:=.type "tuple_iterator",data:=.fields #[.ref l,.int 0 0] }).push {cls:=.type "enumerate",data:=.fields #[.none,.bool false,.ref s.heap.objs.size,CK 0,.none,.none] } }):=
 .of_wp λprog w A R s h=>by
  obtain⟨m,g,d,f,k⟩:=s;obtain⟨a,h⟩:=h;have b:=sub_enumerate;have e:QG (Shared.heap ⟨m,g,d,f,k⟩) l items:=⟨_,a,rfl,n,rfl⟩
  wp_walk using PX a
  refine wpAny_stack_any λo=>CW ?_;split
  ·rename_i c _ _ _ _ _;cases(c == Value.type "enumerate")<;>(wp_walk using PX a,iter_tuple e;exact⟨_,rfl,h⟩)
  ·wp_walk using PX a,iter_tuple e;exact⟨_,rfl,h⟩
def Yu{l:BK}(p:QG s.heap l items)
  (h:∀a,mX a (s.heap.objs.size+1) s.heap.objs.size 0 .none->YK a s.heap.objs.size l 0->a.objs.size=s.heap.objs.size+2->(∀b o,s.heap.get? b=some o->a.get? b=some o)->Q (.ref (s.heap.objs.size+1)) {s with heap:=a}):BL (BR P w) A (call (.type "enumerate") [.ref l]) Q X s:=by
 obtain⟨⟨c,dct,q,k⟩,m,g,n,f⟩:=p
 replace g:c=.type "tuple":=g;replace f:q=.seq items n:=f
 subst g f;refine callType_new F.called_enumerate (by decide) (F.typeCall_enumerate_1 _) (F.newCall_enumerate_1 _) (λobj=>F.args_object_init_2 obj _) F.entry_enumerate_new (Xr l items n dct k) ⟨m,?_⟩;have e:(s.heap.push {cls:=.type "tuple_iterator",data:=.fields #[.ref l,.int 0 0] }).objs.size=s.heap.objs.size+1:=V_ ..;show _/\_;rw[e];have j:mX ((s.heap.push {cls:=.type "tuple_iterator",data:=.fields #[.ref l,.int 0 0] }).push {cls:=.type "enumerate",data:=.fields #[.none,.bool false,.ref s.heap.objs.size,CK 0,.none,.none] }) (s.heap.objs.size+1) s.heap.objs.size 0 .none:=by have z:=L_ (s.heap.push {cls:=.type "tuple_iterator",data:=.fields #[.ref l,.int 0 0] }) (o:={cls:=.type "enumerate",data:=.fields #[.none,.bool false,.ref s.heap.objs.size,CK 0,.none,.none] }) rfl;rw[e]at z;exact z
 exact⟨⟨_,j,rfl⟩,h _ j ⟨_,HF _ (L_ _ rfl),rfl,rfl⟩ (by rw[V_,e]) λb o x=>HF _ (HF _ x)⟩
end PySem
namespace PD
open PySem PySem.Spec PyProof.Rows L2
variable {P:BZ}{w:CV}
theorem ke3{A:DK}{items:Array A_}(hh:A.handled=none){t it:BK}{n:Nat}(hn:items[n]? = none):Draws P w A it [it,t] n (λ_ _=>True) (λj h=>(YK h it t j/\QG h t items)/\j=n) where
 live:=λi h ⟨⟨⟨o,ho,_⟩,_⟩,_⟩=>⟨o,ho⟩
 frame:=λi h h' ⟨⟨⟨o,ho,r⟩,o2,ho2,r2⟩,e⟩ k=>⟨⟨⟨o,k it (by simp) o ho,r⟩,o2,k t (by simp) o2 ho2,r2⟩,e⟩
 item:=λi s Q E hi ⟨_,e⟩ hQ=>absurd hi (by lia)
 done:=λs Q E ⟨⟨hit,ht⟩,_⟩ hE=>Od hh hit ht hn hE
def Iet(K:B_)(a:BK):It:=
 ⟨λi H=>∃b x,SqT K H a b/\b[i]? = some x,λi H x c=>∃t v,x=.ref t/\H t=none/\c=upd H t (.tup [.int (i:Int),v])/\∀b,SqT K H a b->b[i]? = some v,λi H=>∃b,SqT K H a b/\b.length<=i⟩
variable {K:B_}
theorem ju5{elts:List CN}{k:Nat}{j:JG}(a e it:BK)(hne:e≠it)(hai:a≠it)(hea:e≠a):
  Turn P w K (.Tuple elts k j) (Iet K a) [e,it] e (λi h=>(∃old,mX h e it (i:Int) old)/\YK h it a i) where
 mem:=by simp
 obj:=λi h st b hb=>by
  obtain⟨⟨old,he⟩,o,ho,hc,hd⟩:=st;have hb':b=e\/b=it:=by simpa using hb
  rcases hb' with rfl |rfl
  ·exact⟨_,he,λv z=>by cases z⟩
  ·exact⟨o,ho,λv z=>by rw[hd]at z;cases z⟩
 keep:=λi h h' st kp=>⟨st.1.imp λold he=>kp e (by simp) _ he,let ⟨o,q,r⟩:=st.2; ⟨o,kp it (by simp) o q,r⟩⟩
 item:=by
  intro X hP hw hK hc i pins s σ H E I hf st hg;subst hP hw hK;obtain⟨xs,x,hq,hx⟩:=hg;have⟨its,rv,p,hz⟩:=I.tuple hq;have⟨u,hu,ru⟩:=rv.get hx;obtain⟨⟨old,he⟩,hit⟩:=st;have hD:=ke4 (P:=X.prog) (w:=X.w) (A:=X.A.in1) (items:=its.toArray) (by simpa using I.ok.hd hc) hai;have hlt:i<its.toArray.size:=by have:=(QK.mp hu).1;simpa using this
  refine wpAny_pyNext_enum_itemD hD he ⟨hit,p⟩ hlt hne (by simp[hne,hea]) λx' h1 tk hx' heo hst ht1 hz1 hk1=>⟨_,rfl,?_⟩;have hxu:x'=u:=by
   have:its.toArray[i]? = some u:=by simpa using hu
   exact Option.some.inj (hx'.symm.trans this)
  subst hxu;refine VM heo λh2 he2 hs2=>?_;have hT:s.heap.objs.size≠e:=S_ (GQ he);have ht2:h2.get? s.heap.objs.size=some {cls:=.type "tuple",data:=.seq #[.int i tk,x'] }:=(hs2.2 _ hT).trans ht1;have I2:Inv X pins σ (upd H s.heap.objs.size (.tup [.int (i:Int),x])) {s with heap:=h2,toks:=tk+1}:=
   Js (t':=tk+1) I hf (λb o hb q=>by
    have hb':b≠e/\b≠it:=by simpa using hb
    exact(hs2.2 b hb'.1).trans (hk1 b o hb'.1 hb'.2 q)) (FW _)
    (show Bu X.prog X.w _ h2 _ (.tup [.int (i:Int),x]) from⟨by show 2<=sizeLine;rw[CQ];lia,[.int i tk,x'],.cons ⟨_,rfl⟩ (.cons ru .nil),⟨_,ht2,rfl,_,rfl⟩⟩)
  refine⟨.ref s.heap.objs.size,_,I2,rfl,⟨_,x,rfl,I.hok.fresh (FW _),rfl,λys hy=>by rw[I.tuple_inj hy hq];exact hx⟩,⟨⟨x',by simpa using he2⟩,?_⟩,λb hb=>?_⟩
  ·obtain⟨o,q,r⟩:=hst.1;exact⟨o,(hs2.2 it (Ne.symm hne)).trans q,r⟩
  ·have hlt:b<s.heap.objs.size:=by
    have⟨oi,hoi,_⟩:=id hit;have hb':b=e\/b=it:=by simpa using hb
    rcases hb' with rfl |rfl
    ·exact GQ he
    ·exact GQ hoi
   rw[Ad (JV hlt)];exact(hf b hb).1
 done:=by intro X hP hw hK hc i pins s σ H E I hf st hg;subst hP hw hK;obtain⟨xs,hq,hx⟩:=hg;have⟨its,rv,p,hz⟩:=I.tuple hq;obtain⟨⟨old,he⟩,hit⟩:=st;have hl:=rv.length;exact wpAny_pyNext_enum_endD (ke3 (by simpa using I.ok.hd hc) (items:=its.toArray) (n:=i) (t:=a) (by simp;lia)) he ⟨⟨hit,p⟩,rfl⟩ λh' eb=>⟨rfl,T3 (t':=s.toks) I hf λb o hb q=>eb b o (λz=>hb (by simp[z])) q⟩
 self:=λA i s Q E st h=>by obtain⟨⟨old,he⟩,_⟩:=st;exact MK he h
variable {ds:List D}
def kg0{a:BK}{vs:List V}:ItD K (Iet K a) (My ds) λH S=>SqT K H a vs/\An K H S ds vs where
 stab:=xP
 go:=λi H S hi h=>by rw[O7]at hi;refine Am (λv hv _=>?_) (h.2.get (GJ hi));exact⟨vs,v,h.1,hv⟩
 yld:=λi H S x H' h y=>by revert y;refine Vp λt v hz5 ht hz6 y=>?_;obtain rfl:=hz5;obtain rfl:=hz6;refine⟨Aj ht _,λd hd=>?_⟩;refine Am (λe he hz7=>?_) (Zt hd);obtain rfl:=hz7;refine Am (λw hw rw'=>?_) (h.2.get he);have ev:v=w:=Option.some.inj ((y vs h.1).symm.trans hw);subst ev;exact⟨t,_,rfl,TpR.of Ah,.int (i:Int),[v],rfl,rfl,v,[],rfl,rw'.mono (Aj ht _) (λ_ z=>z),rfl⟩
 stop:=λi H S hi h=>⟨vs,h.1,by rw[<-h.2.length];rw[O7]at hi;exact hi⟩
def jG(f:Ev->R D):Ev->R (List D):=λa=>(f a).bind λd=>match d with
 | .lst ds=>.ok (My ds)
 | .tup ds=>.ok (My ds)
 |_=>.bad
variable {X:Cx}{c:DC}{e:CN}{l:Lv}{j:JG}
section
variable {f:Ev->R D}{p i:JG}{g:List CN}{k:Nat}
def wr8(hm:X.mg "enumerate" = none)(he:PEd X c l e f)(af:Gl X "enumerate":=by rfl)(J:BP [e] X.env=[(false,CZ e X.env)]:=by rfl):
  PId X c l (.Tuple g k j) (.Call (.Name "enumerate" p) [e] [] i) (jG f):=by
 intro r s σ H R I h;refine Call_ (T5 I af hm boot_enumerate (PyProof.Rows.callWith_type1 (thG ((Df he Ho J:PA X [e] _) i r s σ H (λx n=>∃a,x=[.ref a]/\(((∃B,SqL X.K n a B)/\R (Iel X.K a) n)\/((∃B,SqT X.K n a B)/\R (Iet X.K a) n))) I ?_) λus m x n A U C=>?_) J rfl))
 ·revert h;refine Bm λhs ρ E q=>?_;refine Ba E ((RQ.bind.mp q).mono (λd C v n m E1 U=>?_) λ_ z=>z);cases d with
  |lst ds=>revert U;refine Bo λa x ab O Y=>?_;obtain rfl:=ab;exact⟨a,rfl,.inl ⟨⟨x,O.sq⟩,C _ _ n m kr0 ⟨O,Y⟩⟩⟩
  |tup ds=>revert U;refine Bo λa x aa O Y=>?_;obtain rfl:=aa;exact⟨a,rfl,.inr ⟨⟨x,(TpR.sq O)⟩,C _ _ n m kg0 ⟨(TpR.sq O),Y⟩⟩⟩
  |_=>exact C.elim
 ·revert C;refine Am λa G q=>?_;obtain rfl:=G;refine Am (λu F ru=>?_) (vals1 U);obtain rfl:=F;cases ru;have T:∀(h':CP),(∀b o,m.heap.get? b=some o->h'.get? b=some o)->(∀b,b∈[m.heap.objs.size+1,m.heap.objs.size]->Rb X r n b):=λh' y b hb=>by
   have ag:b=m.heap.objs.size+1\/b=m.heap.objs.size:=by simpa using hb
   have M:m.heap.objs.size<=b:=by
    rcases ag with rfl |rfl
    ·exact ZV _
    ·exact FW _
   exact A.fpOk M (A.hok.fresh M)
  rcases q with ⟨⟨B,hq⟩,q⟩ | ⟨⟨B,hq⟩,q⟩
  ·refine Gk (λZ rv pl hz=>?_) (A.list hq);refine call_enumerate_list pl.isList λh' Q hI ae y=>?_;refine MK Q ?_;exact⟨m.heap.objs.size+1,[m.heap.objs.size+1,m.heap.objs.size],_,_,n,rfl,A.kept (t':=m.toks) y,kj8 a _ _ (qJ _),⟨⟨.none,by simpa using Q⟩,hI⟩,T h' y,q⟩
  ·refine Gk (λZ rv pl hz=>?_) (A.tuple hq);have L:a<m.heap.objs.size:=let ⟨o,ho,_⟩:=pl;GQ ho;refine Yu pl λh' Q hI ae y=>?_;refine MK Q ?_;exact⟨m.heap.objs.size+1,[m.heap.objs.size+1,m.heap.objs.size],_,_,n,rfl,A.kept (t':=m.toks) y,ju5 a _ _ (qJ _) (JV L) (S_ (ZX L)),⟨⟨.none,by simpa using Q⟩,hI⟩,T h' y,q⟩
end
def wq9{f:Ev->R D}{ρ:Ev}(h:f ρ=.ok (.lst ds)):jG f ρ=.ok (My ds):=by unfold jG;rw[h];rfl
def bJ(ns:List Int):Int:=ns.getD (argBest (λi j=>decide (ns.getD i 0>ns.getD j 0)) (ns.length - 1)) 0
def bQ(ns:List Int):Int:=ns.getD (argBest (λi j=>decide (ns.getD i 0<ns.getD j 0)) (ns.length - 1)) 0
def gQ:List D->Option D
 | [.lst a]=>if a.isEmpty then none else(Ax a).map λb=>.int (bJ b)
 |_=>none
def gP:List D->Option D
 | [.lst a]=>if a.isEmpty then none else(Ax a).map λb=>.int (bQ b)
 |_=>none
def V0{g:List Int->Int}{ys:List D}{d:D}(e:(if ys.isEmpty then none else(Ax ys).map λb=>D.int (g b))=some d):∃b,Ax ys=some b/\0<b.length/\d=.int (g b):=by
 by_cases h:ys.isEmpty=true
 ·rw[if_pos h]at e;cases e
 ·rw[if_neg h]at e;cases f:Ax ys with
  |none=>rw[f]at e;cases e
  |some b =>
   rw[f]at e;cases e;refine⟨b,rfl,?_,rfl⟩;rw[Tw f];cases ys with
   |nil=>exact absurd rfl h
   |cons a l=>exact Nat.succ_pos _
def kp8:∀a d,gQ a=some d->d.imm=true:=λa d h=>by
 obtain⟨b,rfl⟩:=inv1 h rfl (λx _ _=>by cases x<;>rfl);cases b with
 |lst f=>obtain⟨_,_,_,rfl⟩:=V0 (g:=bJ) h;rfl
 |_=>exact nos h
def kp9:∀a d,gP a=some d->d.imm=true:=λa d h=>by
 obtain⟨b,rfl⟩:=inv1 h rfl (λx _ _=>by cases x<;>rfl);cases b with
 |lst f=>obtain⟨_,_,_,rfl⟩:=V0 (g:=bQ) h;rfl
 |_=>exact nos h
variable {p:JG}
section
variable {es:List CN}{fs:Ev->R (List D)}
def Ry{its:List A_}{ns:List Int}(h:FT its ns)(i:Nat)(v:A_)(g:its.toArray[i]? = some v):∃t,v=.int (ns.getD i 0) t:=by
 have a:its[i]? = some v:=by simpa using g
 have⟨f,k⟩:=QK.mp a;have⟨t,b⟩:=pM h f;rw[NQ,a,WD]at b;exact⟨t,b⟩
theorem wp3(T:X.calm=true):Dc X (.builtin "max") (rC X.K gQ):=by
 rintro B s σ H xs us Q I r ⟨S,ds,d,J,e,q⟩;obtain⟨E,rfl⟩:=inv1 e rfl (λx _ _=>by cases x<;>rfl);cases E with
 |lst ys =>
  obtain⟨v,rfl,a,vs,rfl,Y,L⟩:=J.one;obtain⟨m,eb,C,rfl⟩:=V0 (g:=bJ) e;obtain⟨u,rfl,G⟩:=vals1 r;cases G;have⟨f,F,pl,hz⟩:=I.list Y.sq;have y:=ints_of L F eb;have n:=pl.isList;have h:a<s.heap.objs.size:=by obtain⟨_,z,_⟩:=n;exact GQ z
  have k:f.length=m.length:=IntsAre.length y;refine call_max_walk (JM n ?_);refine⟨s.heap.objs.size,[s.heap.objs.size,a],[s.heap.objs.size],f.toArray.size,_,_,_,rfl,Walks.list (A:=X.A.in1) (I.ok.hd T) _ a (JV h) f.toArray,
   ⟨⟨_,L_ _ rfl,rfl,rfl⟩,n.push _⟩,λb U=>?_,by rw[KJ];lia,CmpOf.ints_gt (λi=>m.getD i 0) (Ry y),λv h' tk Z O=>?_⟩
  ·have o:b=s.heap.objs.size\/b=a:=by simpa using U
   rw[V_];rcases o with rfl |rfl
   ·exact dH _
   ·exact ZX h
  ·obtain⟨t,rfl⟩:=Ry y _ v Z;refine⟨.int (bJ m),H,I.kept (λb x z=>O b x (λM=>by rw[LR.mp M]at z;exact T_ _ (GQ z)) (HF _ z)),(show ∃t,_=Value.int (bJ m) t from⟨t,?_⟩),q _ H (Af.refl _) rfl⟩;unfold bJ;rw[KJ,k]
 |_=>exact nos e
theorem wp4(T:X.calm=true):Dc X (.builtin "min") (rC X.K gP):=by
 rintro B s σ H xs us Q I r ⟨S,ds,d,J,e,q⟩;obtain⟨E,rfl⟩:=inv1 e rfl (λx _ _=>by cases x<;>rfl);cases E with
 |lst ys =>
  obtain⟨v,rfl,a,vs,rfl,Y,L⟩:=J.one;obtain⟨m,eb,C,rfl⟩:=V0 (g:=bQ) e;obtain⟨u,rfl,G⟩:=vals1 r;cases G;have⟨f,F,pl,hz⟩:=I.list Y.sq;have y:=ints_of L F eb;have n:=pl.isList;have h:a<s.heap.objs.size:=by obtain⟨_,z,_⟩:=n;exact GQ z
  have k:f.length=m.length:=IntsAre.length y;refine call_min_walk (JM n ?_);refine⟨s.heap.objs.size,[s.heap.objs.size,a],[s.heap.objs.size],f.toArray.size,_,_,_,rfl,Walks.list (A:=X.A.in1) (I.ok.hd T) _ a (JV h) f.toArray,
   ⟨⟨_,L_ _ rfl,rfl,rfl⟩,n.push _⟩,λb U=>?_,by rw[KJ];lia,CmpOf.ints_lt (λi=>m.getD i 0) (Ry y),λv h' tk Z O=>?_⟩
  ·have o:b=s.heap.objs.size\/b=a:=by simpa using U
   rw[V_];rcases o with rfl |rfl
   ·exact dH _
   ·exact ZX h
  ·obtain⟨t,rfl⟩:=Ry y _ v Z;refine⟨.int (bQ m),H,I.kept (λb x z=>O b x (λM=>by rw[LR.mp M]at z;exact T_ _ (GQ z)) (HF _ z)),(show ∃t,_=Value.int (bQ m) t from⟨t,?_⟩),q _ H (Af.refl _) rfl⟩;unfold bQ;rw[KJ,k]
 |_=>exact nos e
def ye6(h:X.calm=true)(b:X.mg "max" = none)(i:PAd X c l (e::es) fs)(f:Gl X "max":=by rfl)(g:Zs X.env e es:=by rfl)(a:Zp X.env j es:=by rfl):
  PEd X c l (.Call (.Name "max" p) (e::es) [] j) (bA fs gQ):=gU (wp3 h) PyProof.Rows.boot_max b i f (by decide) (by decide) g a
def ye7(h:X.calm=true)(b:X.mg "min" = none)(i:PAd X c l (e::es) fs)(f:Gl X "min":=by rfl)(g:Zs X.env e es:=by rfl)(a:Zp X.env j es:=by rfl):
  PEd X c l (.Call (.Name "min" p) (e::es) [] j) (bA fs gP):=gU (wp4 h) PyProof.Rows.boot_min b i f (by decide) (by decide) g a
end
end PD
namespace PySem
open Sem (wp)
def js2{P:BZ}{w:CV}(d:BK)(b:(d == GK)=false):
  MeetsIn P w (GR.«dict.items» ⟨[.ref d],[]⟩) (λ_ R s=>s.TypeIs (.ref d) "dict"/\R (.ok (.ret (.ref s.heap.objs.size))) {s with heap:=s.heap.push {cls:=.type "dict_items",data:=.fields #[.ref d] } }):=
 .of_wp λA R s ⟨a,h⟩=>by unfold GR.«dict.items» Builtin.Dict.noArgs;refine BX (BX (wpAny_notOrdered_dict a ?_));show BL _ _ (pure d) _ _ s;refine CW ?_;show BL _ _ (Builtin.Dict.showsAll d >>= _) _ _ s;unfold Builtin.Dict.showsAll;rw[if_neg (by rw[b];exact XR)];refine BX (CW (BX (CG (CW ⟨_,rfl,h⟩))))
variable {od:FZ}{ep i:Nat}{Q:Option A_->BJ->Prop}{it:BK}{c:A_}
section
variable {P:BZ}{w:CV}{A:DK}{E:A_->BJ->Prop}{s:BJ}
theorem js1{v d:BK}{es:Array TJ}{Q:A_->BJ->Prop}(e:s.heap.IsItemsView v d)(h:s.heap.get? d=some od)(a:od.data=.dict es ep)
  (k:Q (.ref s.heap.objs.size) {s with heap:=s.heap.push {cls:=.type "dict_itemiterator",data:=.fields #[.none,.bool false,.ref d,.int 0 0,.int es.size 0,.int ep 0,.none,.none] } }):BL (BR P w) A (YS (.ref v)) Q E s:=by
 refine Gk (λc f j g=>?_) (id e);refine RK e.typeIs F.slot_dict_items_iter (C_ F.slot_dict_items_iter e.typeIs F.entry_dict_items_iter ?_ (F.args_dict_items_iter_1 _));unfold GR.«dict_items.__iter__»;refine BX (CW ?_);refine BX ?_;unfold Builtin.Dict_items.dictOf;refine BX (DY f g (x:=.ref d) rfl (CW ?_));refine BX ?_;unfold Builtin.Dict_items.newIterator;refine BX (RL h a (BX (TX h a ?_)));have b:Builtin.Dict_items.ownsTuple "dict_itemiterator" = true:=(by decide);simp only[b,if_true];refine CG (CW ⟨_,rfl,"dict_itemiterator",_,⟨_,L_ _ rfl,rfl⟩,F.slot_dict_itemiterator_next.lookup,?_⟩) (by simp only[sizeOk,Builtin.Dict_items.ownedTupleFields,KJ,PB,RB,iD,CQ];lia);simpa[CK,Builtin.Dict_items.ownedTupleFields] using k
theorem js3{d:BK}{es:Array TJ}{e:TJ}{ok:A_}(K:KH s.heap it d i es.size ep ok c)(ab:s.heap.get? d=some od)(ae:od.data=.dict es ep)(hx:es[i]? = some e)
  (hQ:∀h',XM h' it d (i+1) es.size ep e.key e.val s.heap.objs.size->h'.get? s.heap.objs.size=some {cls:=.type "tuple",data:=.seq #[e.key,e.val] }->h'.objs.size=s.heap.objs.size+1->(∀b o,b≠it->s.heap.get? b=some o->h'.get? b=some o)->Q (some (.ref s.heap.objs.size)) {s with heap:=h'}):
  BL (BR P w) A (JP (.ref it)) Q E s:=by
 obtain⟨J,g,dr,Y,Z⟩:=s;have X:Shared.TypeIs ⟨J,g,dr,Y,Z⟩ (.ref it) "dict_itemiterator":=⟨_,K,rfl⟩;unfold JP;refine BX (IK (DW (name:=Str.ofString "__next__") X F.slot_dict_itemiterator_next (C_ F.slot_dict_itemiterator_next X F.entry_dict_itemiterator_next ?_ (F.args_dict_itemiterator_next_1 _))));refine BX (CW ?_);refine BX ?_;refine BX ?_
 first | (refine BX (GX X (CW ?_))) | (refine BX (H_ X (CW ?_)))
 refine BX (QM K rfl ?_);have aa:Builtin.Dict_items.ownsTuple "dict_itemiterator" = true:=(by decide);simp only[aa,if_true];show BL _ _ (if(Value.ref d == Value.none)=true then _ else _) _ _ _;rw[if_neg (show ¬ ((Value.ref d == Value.none)=true) from XR)];refine BX (CW ?_);refine BX (RL ab ae ?_);rw[if_neg (by simp)];refine BX (CW ?_);refine BX (TX ab ae ?_);rw[if_neg (by simp)];refine CW ?_;simp only[show ¬ ((i:Int)<0) from(by lia),if_false,XQ,hx];refine BX ?_
 first | (refine BX (GX X (CW ?_))) | (refine BX (H_ X (CW ?_)))
 refine BX (PK X ?_);show BL _ _ (VP (.ref it) 3 (CK ((i:Int)+1)) >>= _) _ _ ⟨J,g,dr,Y,Z⟩;refine BX (JC K (by simp) λa n l=>?_);replace l:Heap.SameBut it J a:=l
 replace n:KH a it d (i+1) es.size ep ok c:=(by
  have e:((i+1:Nat):Int)=(i:Int)+1:=(by lia);unfold KH;rw[e];simpa[CK] using n)
 have B:Shared.TypeIs ⟨a,g,dr,Y,Z⟩ (.ref it) "dict_itemiterator":=⟨_,n,rfl⟩;refine BX (CT ?_);refine BX (PK B ?_);refine BX (PK B ?_);show BL _ _ (Builtin.Dict_items.pairFromOwner (.ref it) 6 e.key e.val) _ _ ⟨a,g,dr,Y,Z⟩;unfold Builtin.Dict_items.pairFromOwner;refine BX (VL ?_);have m:KH (a.push {cls:=.type "tuple",data:=.seq #[e.key,e.val] }) it d (i+1) es.size ep ok c:=HF _ n;generalize q:a.push {cls:=.type "tuple",data:=.seq #[e.key,e.val] }=r at m;have p:a.objs.size=J.objs.size:=l.1;have L:it<J.objs.size:=GQ K;have O:r.get? J.objs.size=some {cls:=.type "tuple",data:=.seq #[e.key,e.val] }:=(by rw[<-q,<-p];exact L_ _ rfl);have M:r.objs.size=J.objs.size+1:=(by rw[<-q,V_,p]);have T:∀b o,b≠it->J.get? b=some o->r.get? b=some o:=λb o U e=>(by rw[<-q];exact HF _ (l.extBut b o U e));show BL _ _ (Builtin.Dict_items.ownedTupleIsFree (.ref it) >>= _) _ _ ⟨r,g,dr,Y,Z⟩;rw[p];clear q n l B p a;refine BX ?_;unfold Builtin.Dict_items.ownedTupleIsFree;refine BX (DY m rfl (x:=.none) rfl (CW ?_));simp only[if_true];refine BX (DY m rfl (x:=ok) rfl (BX (DY m rfl (x:=c) rfl ?_)));refine BX (JC m (by simp) λI z k=>?_);replace k:Heap.SameBut it r I:=k;replace z:KH I it d (i+1) es.size ep e.key c:=z;refine BX (JC z (by simp) λH y j=>?_);replace j:Heap.SameBut it I H:=j;replace y:KH H it d (i+1) es.size ep e.key e.val:=y;refine BX (JC y (by simp) λG v h=>?_);replace h:Heap.SameBut it H G:=h;replace v:XM G it d (i+1) es.size ep e.key e.val J.objs.size:=v;refine BX (JC v (by simp) λC u f=>?_);replace f:Heap.SameBut it G C:=f;replace u:XM C it d (i+1) es.size ep e.key e.val J.objs.size:=u;refine BX (MN (CW (CW ⟨_,rfl,CW (hQ C u ?_ ?_ ?_)⟩)))
 ·exact f.extBut _ _ (S_ L) (h.extBut _ _ (S_ L) (j.extBut _ _ (S_ L) (k.extBut _ _ (S_ L) O)))
 ·show C.objs.size=J.objs.size+1;rw[f.1,h.1,j.1,k.1,M]
 ·exact λb o U e=>(f.extBut b o U (h.extBut b o U (j.extBut b o U (k.extBut b o U (T b o U e)))))
theorem js0{d:BK}{es:Array TJ}{ok:A_}(n:A.handled=none)(e:KH s.heap it d i es.size ep ok c)(h:s.heap.get? d=some od)(j:od.data=.dict es ep)(l:es[i]? = none)
  (o:∀k,lQ it s.heap k->Q none {s with heap:=k}):BL (BR P w) A (JP (.ref it)) Q E s:=by
 have f:s.TypeIs (.ref it) "dict_itemiterator":=⟨_,e,rfl⟩;unfold JP;refine BX (IK (DW (name:=Str.ofString "__next__") f F.slot_dict_itemiterator_next (C_ F.slot_dict_itemiterator_next f F.entry_dict_itemiterator_next ?_ (F.args_dict_itemiterator_next_1 _))));refine BX (CW ?_);refine BX ?_;refine BX ?_
 first | (refine BX (GX f (CW ?_))) | (refine BX (H_ f (CW ?_)))
 refine BX (QM e rfl ?_);have g:Builtin.Dict_items.ownsTuple "dict_itemiterator" = true:=(by decide);simp only[g,if_true];show BL _ _ (if(Value.ref d == Value.none)=true then _ else _) _ _ s;rw[if_neg (show ¬ ((Value.ref d == Value.none)=true) from XR)];refine BX (CW ?_);refine BX (RL h j ?_);rw[if_neg (by simp)];refine BX (CW ?_);refine BX (TX h j ?_);rw[if_neg (by simp)];refine CW ?_;simp only[show ¬ ((i:Int)<0) from(by lia),if_false,XQ,l];refine BX ?_
 first | (refine BX (GX f (CW ?_))) | (refine BX (H_ f (CW ?_)))
 show BL _ _ (VP (.ref it) 2 .none >>= _) _ _ s;refine BX (DX e rfl (by simp) ?_);show BL _ _ (YW (.type "StopIteration") [] >>= _) _ _ _;refine BX ?_;simp only[YW,jR];refine BX (CG ?_ (by size_fits));refine BX (m:=JR _ _) (QL (a:=Value.none) (by first |rfl | (simp only[JR];rfl)) ?_);refine CG ?_ (by size_fits);simp only[raiseNew];refine BX (XC ?_);rw[show A.in1.handled=none from n];refine BX (CW (ZL ?_));refine BX (JZ (T:="StopIteration") (b:=true) ⟨_,L_ _ rfl,rfl⟩ mQ (CW (o _ (((Heap.SameBut.update ..).extBut.push _).push _))))
end
end PySem
namespace PD
open PySem PySem.Spec PyProof.Rows L2
variable {X:Cx}
variable {H:Hp}{u v:HO}{P:BZ}{w:CV}{o:FZ}
section
variable {pins:List (BK×FZ)}{σ:St}{H:Hp}{s:BJ}{a:BK}{o:FZ}{u:HO}
def pC{a:BK}:upd (upd H a u) a v=upd H a v:=by
 funext b;by_cases h:b=a
 ·subst h;rw[Ah,Ah]
 ·rw[Ad h,Ad h,Ad h]
def kp3{h:CP}(ok:HOk P w H h)(f:H a=some u)(n:∀z,u≠.own z)(m:∀z,u≠.tup z)(l:∀x z,u≠.frz x (.own z))(new:Bu P w H h a v):HOk P w (upd H a v) h:=λb x q=>by
 have j:∀b o y,H b=some (.frz o (.own y))->upd H a v b=some (.frz o (.own y)):=λb o y e=>by rw[Ad (λz=>by rw[z,f]at e;exact l _ _ (Option.some.inj e))];exact e
 have i:∀b y,H b=some (.own y)->upd H a v b=some (.own y):=λb y e=>by rw[Ad (λz=>by rw[z,f]at e;exact n _ (Option.some.inj e))];exact e
 have g:∀b y,H b=some (.tup y)->upd H a v b=some (.tup y):=λb y e=>by rw[Ad (λz=>by rw[z,f]at e;exact m _ (Option.some.inj e))];exact e
 by_cases k:b=a
 ·subst k;rw[Ah]at q;cases q;exact new.stay (λ_ _ _ e=>e) (λc e=>i c _ e) g j
 ·rw[Ad k]at q;exact(ok b x q).stay (λ_ _ _ e=>e) (λc e=>i c _ e) g j
def Inv.swap(I:Inv X pins σ H s)(g:H a=some u)(l:∀z,u≠.own z)(h:∀z,u≠.tup z)(k:∀z,u≠.tbl z)(f:(∀x z,u≠.frz x z)\/X.H₀ a=none)(new:Bu X.prog X.w H s.heap a v)(j:∀x z,u≠.frz x (.own z):=by intro _ _ z;cases z):Inv X pins σ (upd H a v) s:=by
 have ne:∀b,H b=none->upd H a v b=none:=λb e=>by rw[Ad (λz=>by rw[z,g]at e;cases e)];exact e
 refine⟨I.ok,I.os,I.bare,⟨I.base.keep,I.base.slot,λb x q n m=>ne b (I.base.free b x q n m),I.base.there,λb i q=>?_,λb x y q=>?_,λb ps q=>?_⟩,I.loc,I.cell,ne _ I.free,λx c e=>ne _ (I.freeC x c e),λp r=>?_,kp3 I.hok g l h j new,I.len⟩
 ·have e:=I.base.tups b i q;rw[Ad (λz=>by rw[z,g]at e;exact h _ (Option.some.inj e))];exact e
 ·have e:=I.base.frzs b x y q;rw[Ad (λz=>by
   rcases f with f |f
   ·rw[z,g]at e;exact f _ _ (Option.some.inj e)
   ·rw[z,f]at q;cases q)];exact e
 ·have⟨more,e⟩:=I.base.tbls b ps q;exact⟨more,by rw[Ad (λz=>by rw[z,g]at e;exact k _ (Option.some.inj e))];exact e⟩
 ·refine bY (λC B A=>?_) (I.pin p r);exact⟨C,ne _ B,A⟩
def Inv.thaw(I:Inv X pins σ H s)(b:H a=some (.frz o v))(f:X.H₀ a=none)(c:∀z,v≠.own z:=by intro _ z;cases z):Inv X pins σ (upd H a v) s:=
 Inv.swap I b (λ_ z=>by cases z) (λ_ z=>by cases z) (λ_ z=>by cases z) (.inr f) (I.hok a _ b).2 λx z e=>by cases e;exact c _ rfl
def Inv.cold{b:List (List Key×V)}(I:Inv X pins σ H s)(g:H a=some (.dT b)):∃o,Inv X pins σ (upd H a (.frz o (.dT b))) s:=by have⟨z,y,h,r,f,i,j,e,c⟩:=(show Bu X.prog X.w H s.heap a (.dT b) from I.hok a _ g);exact⟨f,Inv.swap I g (λ_ z=>by cases z) (λ_ z=>by cases z) (λ_ z=>by cases z) (.inl λ_ _ z=>by cases z) ⟨e,z,y,h,r,f,i,j,e,c⟩⟩
end
variable {B:JG}
section
variable {o i c f:CN}{j ty g a:TE}{e apos cpos:JG}
def ku5:PE X (.Dict [] [] B) (λ_ H Q=>∀p,H p=none->∀k,Q (.ref p) (upd H p (.frz k (.dT [])))):=λb s q H Q I h=>by refine D_ (ku6 b s q H (λv n=>∃p,v=.ref p/\H p=none/\n=upd H p (.dT [])) I λp l=>⟨p,rfl,l,rfl⟩) (λu A x=>?_) λ_ _ z=>z;obtain⟨v,n,y,r,p,rfl,l,rfl⟩:=x;have⟨k,m⟩:=Inv.cold y Ah;rw[pC]at m;exact⟨_,_,m,r,h p l k⟩
def kv2(hu:X.A.units+1<HX)(ho:PE X o j)(hi:PE X i ty)(hv:PE X c g)(hs:FJ c (some (.Subscript o i e)) B.line X.env=pure false):
  PS X (.Assign [.Subscript o i e] c B) (λD m H=>g m H λv G=>j m G λx F=>ty m F λy q=>∃a J n k b,x=.ref a/\q a=some (.frz J (.dT n))/\X.H₀ a=none/\y=.ref b/\q b=some (.tup (k.map kV))/\n.length<sizeLine/\∀p,D.nx m (upd q a (.frz p (.dT (putK n k v))))):=by
 intro l s m H D I h;refine wpAny_Assign_Subscript (thG (hv l s m H _ I h) λr Q v G I1 Y q1=>thG (ho l Q m G _ I1 q1) λu O x F I2 U q2=>thG (hi l O m F _ I2 q2) λiv s3 y q I3 T M=>?_) hs;revert M;refine gJ λa J n k b ex K h0 ey E hl Z=>?_;subst ex;subst ey;obtain rfl:u=Value.ref a:=U;have C:b≠a:=λz=>by rw[z,K]at E;cases E
 refine ke1 hu (Inv.thaw I3 K h0) (j0.t (k:=k) Ah (by rw[Ad C];exact E) hl) T Y λs4 I4=>?_;have⟨p,L⟩:=Inv.cold I4 Ah;rw[pC,pC]at L;exact⟨m,_,L,Z p⟩
end
def Idi(a:BK)(o:FZ)(c:List (List Key×V)):It:=
 ⟨λi H=>H a=some (.frz o (.dT c))/\i<c.length,λi H x e=>∃t b k v,x=.ref t/\H t=none/\e=upd H t (.tup [.ref b,v])/\c[i]? = some (k,v)/\H b=some (.tup (k.map kV)),λi H=>H a=some (.frz o (.dT c))/\c.length<=i⟩
def Xv{a b:Type}{F:a->b->Prop}:∀{l:List a}{m:List b}{i:Nat}{x:a},WR F l m->l[i]? = some x->∃y,m[i]? = some y/\F x y
 |_,_,i,x,.nil,h=>by simp at h
 |_,_,0,x,.cons r t,h=>by simp at h;subst h;exact⟨_,by simp,r⟩
 |_,_,i+1,x,.cons r t,h=>by refine Am (λy e q=>?_) (Xv (i:=i) t (by simpa using h));exact⟨y,by simpa using e,q⟩
variable {K:B_}{G:List CN}
theorem ju6{k:Nat}(a it:BK)(o:FZ)(kvs:List (List Key×V))(hne:a≠it):
  Turn P w K (.Tuple G k B) (Idi a o kvs) [it] it (λi h=>∃es ep ok ov,o.data=.dict es ep/\KH h it a i es.size ep ok ov) where
 mem:=by simp
 obj:=λi h st b hb=>by obtain⟨es,ep,ok,ov,_,he⟩:=st;rw[LR.mp hb];exact⟨_,he,λv z=>by cases z⟩
 keep:=λi h h' st kp=>by obtain⟨es,ep,ok,ov,hd,he⟩:=st;exact⟨es,ep,ok,ov,hd,kp it (by simp) _ he⟩
 item:=by
  intro X hP hw hK hc i pins s σ H E I hf st hg;subst hP hw hK;obtain⟨ha,hi⟩:=hg;obtain⟨es,ep,ok,ov,hd,he⟩:=st;obtain⟨ho,z,y,xs,r,ob,es',ep',e1,ex,e2,e3,nd⟩:=I.hok a _ ha;have eo:o=ob:=Option.some.inj (ho.symm.trans e1);subst eo;rw[hd]at e2;cases e2;obtain⟨q,hq,hq1,hq2,hq3⟩:=Xv r (GJ hi);have hes:es[i]? = some (entryOfKey (OJ (Cv X.prog X.w)) q):=by rw[entry_at e3,hq];rfl
  refine js3 he ho hd hes λh1 heo ht1 hz1 hk1=>⟨_,rfl,?_⟩;refine wpAny_letOwnedTupleGo_items heo λh2 he2 hs2=>?_;have hT:s.heap.objs.size≠it:=S_ (GQ he);have ht2:h2.get? s.heap.objs.size=some {cls:=.type "tuple",data:=.seq #[.ref q.2.1,q.2.2] }:=(hs2.2 _ hT).trans ht1;have I2:Inv X pins σ (upd H s.heap.objs.size (.tup [.ref q.2.1,kvs[i].2])) {s with heap:=h2}:=
   Js (t':=s.toks) I hf (λb o hb q=>by
    have hb':b≠it:=by simpa using hb
    exact(hs2.2 b hb').trans (hk1 b o hb' q)) (FW _)
    (show Bu X.prog X.w _ h2 _ (.tup [.ref q.2.1,kvs[i].2]) from⟨by show 2<=sizeLine;rw[CQ];lia,[.ref q.2.1,q.2.2],.cons rfl (.cons hq3 .nil),⟨_,ht2,rfl,_,rfl⟩⟩)
  refine⟨.ref s.heap.objs.size,_,I2,rfl,⟨_,q.2.1,kvs[i].1,kvs[i].2,rfl,I.hok.fresh (FW _),rfl,GJ hi,hq2⟩,⟨es,ep,_,_,hd,he2⟩,λb hb=>?_⟩;rw[LR.mp hb,Ad (Ne.symm hT)];exact(hf it (by simp)).1
 done:=by
  intro X hP hw hK hc i pins s σ H E I hf st hg;subst hP hw hK;obtain⟨ha,hi⟩:=hg;obtain⟨es,ep,ok,ov,hd,he⟩:=st;obtain⟨ho,z,y,xs,r,ob,es',ep',e1,ex,e2,e3,nd⟩:=I.hok a _ ha;have eo:o=ob:=Option.some.inj (ho.symm.trans e1);subst eo;rw[hd]at e2;cases e2;have hl:xs.length=kvs.length:=(Paired.length r).symm;have hes:es[i]? = none:=by rw[entry_at e3,aX (by lia)];rfl
  exact js0 (by simpa using I.ok.hd hc) he ho hd hes λh' eb=>⟨rfl,T3 (t':=s.toks) I hf λb o hb q=>eb b o (λz=>hb (by simp[z])) q⟩
 self:=λA i s Q E st h=>by obtain⟨es,ep,ok,ov,hd,he⟩:=st;exact W.kcp_self he h
def Eg:List D->Option (List Key)
 | []=>some []
 | .int i::r=>(Eg r).map λk=>Sum.inl i::k
 | .str x::r=>(Eg r).map λk=>Sum.inr x::k
 |_=>none
def T4:∀k:List Key,Eg (k.map kyD)=some k
 | []=>rfl
 | .inl i::r=>by rw[NP];show(Eg (r.map kyD)).map _=_;rw[T4 r];rfl
 | .inr x::r=>by rw[NP];show(Eg (r.map kyD)).map _=_;rw[T4 r];rfl
def O9:∀{l:List D}{k:List Key},Eg l=some k->l=k.map kyD
 | [],k,h=>by cases h;rfl
 | .int i::r,k,h=>by
  cases e:Eg r with
  |none=>simp[Eg,e]at h
  |some a=>simp[Eg,e]at h;subst h;rw[O9 e];rfl
 | .str x::r,k,h=>by
  cases e:Eg r with
  |none=>simp[Eg,e]at h
  |some a=>simp[Eg,e]at h;subst h;rw[O9 e];rfl
 | .non::r,k,h=>by simp[Eg]at h
 | .bl _::r,k,h=>by simp[Eg]at h
 | .tup _::r,k,h=>by simp[Eg]at h
 | .lst _::r,k,h=>by simp[Eg]at h
 | .exc _ _ _::r,k,h=>by simp[Eg]at h
def X7{K:B_}{H:Hp}{S:AS}:∀k:List Key,An K H S (k.map kyD) (k.map kV)
 | []=>An.nil
 | .inl i::r=>.cons (show Rep K H S (.int i) (.int i) from rfl) (X7 r)
 | .inr x::r=>.cons (show Rep K H S (.str x) (.str x) from rfl) (X7 r)
def R1{K:B_}{H:Hp}{S:AS}:∀{k:List Key}{vs:List V},An K H S (k.map kyD) vs->vs=k.map kV
 | [],vs,h=>h
 | .inl i::r,vs,h=>by revert h;refine Bo λv t b e c=>?_;obtain rfl:=b;rw[R1 c];cases(show v=.int i from e);rfl
 | .inr x::r,vs,h=>by revert h;refine Bo λv t a e c=>?_;obtain rfl:=a;rw[R1 c];cases(show v=.str x from e);rfl
def eO:D->Option (List Key)
 | .tup l=>Eg l
 |_=>none
def Qf:List D->List D->List Key->Option D
 |kd::ks,f::fs,k=>if eO kd=some k then some f else Qf ks fs k
 |_,_,_=>none
def dput:List D->List D->List Key->D->List D×List D
 |kd::ks,f::fs,k,v=>if eO kd=some k then(kd::ks,v::fs) else((kd::(dput ks fs k v).1),(f::(dput ks fs k v).2))
 |_,_,k,v=>([.tup (k.map kyD)],[v])
def Nu(k:List Key):eO (.tup (k.map kyD))=some k:=T4 k
def Zn{K:B_}{H:Hp}{S:AS}(k:List Key):∀{kk:List (List Key)}{fs:List D}{vs:List V},kk.length=vs.length->An K H S fs vs ->
  (Vv (kk.zip vs) k=none/\Qf (kk.map λk=>D.tup (k.map kyD)) fs k=none)\/∃v f,Vv (kk.zip vs) k=some v/\Qf (kk.map λk=>D.tup (k.map kyD)) fs k=some f/\Rep K H S f v
 | [],fs,vs,a,r=>by
  have:vs=[]:=by cases vs<;>simp at a ⊢
  subst this;exact .inl ⟨rfl,by simp[Qf]⟩
 |q::kk,fs,[],a,r=>by simp at a
 |q::kk,fs,v::vs,a,r=>by
  have b:kk.length=vs.length:=by simpa using a
  cases fs with
  |nil=>cases(show v::vs=[] from r)
  |cons f fs =>
   revert r;refine Bo λj c e i g=>?_;cases e;rw[fJ,NP];by_cases h:q=k
   ·exact .inr ⟨v,f,Tc h,by rw[Qf,if_pos (by rw[Nu,h])],i⟩
   ·rw[S9 h,Qf,if_neg (by rw[Nu];intro z;exact h (Option.some.inj z))];exact Zn k b g
variable {k q:List Key}{r:List (List Key×V)}
def je8{u v:V}(h:q=k)(c:¬ k∈r.map (·.1)):putK ((q,u)::r) k v=(q,v)::r:=by
 have e:r.map (λa=>if a.1=k then(a.1,v) else a)=r:=by refine(iR λx b=>?_).trans (List.map_id r);rw[if_neg (λz=>c (JF.mpr ⟨x,b,z⟩))];rfl
 unfold putK;rw[if_pos (by simp[h]),NP,if_pos h,e]
def je9{u v:V}(h:¬ q=k):putK ((q,u)::r) k v=(q,u)::putK r k v:=by
 unfold putK;by_cases a:(r.any λb=>decide (b.1=k))=true
 ·rw[if_pos (by simp only[fB,a,Bool.or_true]),if_pos a,NP,if_neg h]
 ·rw[if_neg (by simp only[fB,decide_eq_false h,Bool.false_or];exact a),if_neg a,z9]
def yU{K:B_}{H:Hp}{S:AS}(k:List Key){d:D}{v:V}(l:Rep K H S d v):∀{kk:List (List Key)}{fs:List D}{vs:List V},kk.length=vs.length->kk.Nodup->An K H S fs vs ->
  ∃(a:List (List Key))(b:List V),putK (kk.zip vs) k v=a.zip b/\a.length=b.length/\a.Nodup/\(∀x∈a,x∈kk\/x=k)/\(dput (kk.map λk=>D.tup (k.map kyD)) fs k d).1=a.map (λk=>D.tup (k.map kyD))/\An K H S (dput (kk.map λk=>D.tup (k.map kyD)) fs k d).2 b
 | [],fs,vs,i,j,r=>by
  have:vs=[]:=by cases vs<;>simp at i ⊢
  subst this;refine⟨[k],[v],rfl,rfl,by simp,by simp,by simp[dput],?_⟩;simp only[eZ,dput];exact .cons l An.nil
 |q::kk,fs,[],i,j,r=>by simp at i
 |q::kk,fs,u::vs,i,j,r=>by
  have g:kk.length=vs.length:=by simpa using i
  have⟨p,m⟩:=VF.mp j;cases fs with
  |nil=>cases(show u::vs=[] from r)
  |cons f fs =>
   revert r;refine Bo λM b e C n=>?_;cases e;rw[fJ,NP];by_cases h:q=k
   ·refine⟨q::kk,v::vs,?_,by simp[g],j,λx c=>.inl c,?_,?_⟩
    ·rw[je8 h (λz=>by
      refine Am (λx c e=>?_) (JF.mp z);exact p (h ▸ e ▸ (lW c).1)),fJ]
    ·rw[dput,if_pos (by rw[Nu,h])];rfl
    ·rw[dput,if_pos (by rw[Nu,h])];exact .cons l n
   ·refine rR (λa A L J I y F E=>?_) (yU k l g m n);have s:¬ eO (.tup (q.map kyD))=some k:=by rw[Nu];intro z;exact h (Option.some.inj z)
    refine⟨q::a,u::A,by rw[je9 h,L,fJ],by simp[J],VF.mpr ⟨λz=>(y q z).elim p (λz=>h z),I⟩,λx c=>?_,?_,?_⟩
    ·rcases HY.mp c with z |z
     ·exact .inl (by simp[z])
     ·exact(y x z).imp (λz=>JW _ z) λz=>z
    ·rw[dput,if_neg s];show _::_=_;rw[F];rfl
    ·rw[dput,if_neg s];exact .cons C E
def Vo(ks fs:List D):D:=.exc "dict" ks fs
def nM:D->Option (List D×List D)
 | .exc c a b=>if c = "dict" then some (a,b) else none
 |_=>none
def kf9{d:D}{p:List D×List D}(h:nM d=some p):d=Vo p.1 p.2:=by
 cases d with
 |exc c a e =>
  by_cases b:c = "dict"
  ·subst b;have h:(if("dict" : BV) = "dict" then some (a,e) else none)=some p:=h;rw[if_pos rfl]at h;cases h;rfl
  ·have h:(if c = "dict" then some (a,e) else none)=some p:=h;rw[if_neg b]at h;cases h
 |_=>cases h
def kf8(ks fs:List D):nM (Vo ks fs)=some (ks,fs):=by show(if("dict" : BV) = "dict" then some (ks,fs) else none)=some (ks,fs);rw[if_pos rfl]
def gvD(i:Nat):Ev->R (List D×List D):=λa=>(gv i a).bind λd=>R.of (nM d)
def kY(i:Nat)(fks:Ev->R (List D))(f0:Ev->R D):Ev->R D:=λa=>(gvD i a).bind λp=>(fks a).bind λl=>if l.length<=16777216 then(f0 a).bind λz=>R.of ((Eg l).map λk=>(Qf p.1 p.2 k).getD z) else .bad
def kO(i:Nat)(fks:Ev->R (List D))(b:Ev->R D):Ev->R Fl:=λa=>(b a).bind λv=>(gvD i a).bind λp=>(fks a).bind λl=>if l.length<=16777216/\p.1.length<16777216 then(R.of (Eg l)).bind λk=>.ok (.nx (a.set i (some (Vo (dput p.1 p.2 k v).1 (dput p.1 p.2 k v).2)))) else .bad
def itI(i:Nat):Ev->R (List D):=λa=>(gvD i a).bind λp=>.ok ((p.1.zip p.2).map λq=>.tup [q.1,q.2])
variable {i:Nat}{ρ:Ev}
def pO{q:List D×List D->Prop}{e:D->Prop}(h:RQ (gvD i ρ) q e):∃p,ρ[i]? = some (some (Vo p.1 p.2))/\q p:=by refine Am (λd a h=>?_) (oW (RQ.bind.mp h));refine Am (λp b h=>?_) (h.of);rw[kf9 b]at a;exact⟨p,a,h⟩
variable {c:DC}{f:Ev->R D}{l:Lv}
variable {p y apos cpos C:JG}{ks:List D}{x:BV}
section
variable {e:CN}{es:List CN}{g f0:Ev->R D}{fks:Ev->R (List D)}
def pH{h:List Hd}{b:St}{fs:List D}(E:Az K c h ρ b H)(hi:i∈c.O)(j:ρ[i]? = some (some (Vo ks fs))):
  ∃(a:BK)(vs:List V)(kk:List (List Key))(o:FZ),b[i]? = some (some (.ref a))/\(c.H0 a=none/\a∉c.Z)/\ks=kk.map (λk=>D.tup (k.map kyD))/\kk.length=vs.length/\kk.Nodup/\H a=some (.frz o (.dT (kk.zip vs)))/\An K H (c.N ρ b) fs vs:=by
 refine Gk (λa M L J=>?_) (E.own i _ hi j);refine Am (λvs I F=>?_) (J.dct);rcases I with ⟨_,kk,A,z,s,o,n⟩ | ⟨m,_⟩
 ·exact⟨a,vs,kk,o,M,L,A,z,s,n,F⟩
 ·exact absurd m (by decide)
def yi4(i:Nat)(nd:X.N.Nodup)(hi:c.O.contains i=true:=by rfl)(s:X.N[i]? = some x:=by rfl)(m:Loc X.env.scope x:=by first |exact Or.inl rfl |exact Or.inr rfl)(b:FJ (.Dict [] [] p) (some (.Name x y)) B.line X.env=pure false:=by rfl)
  (n:X.fn x=true\/X.env.scope.names.lookup x=some .local:=by first |exact .inl rfl |exact .inr rfl):PSd X c (.Assign [.Name x y] (.Dict [] [] p) B) (asg i (kd (Vo [] []))):=PS.imp (oK (i:=i) nd s m ku5 b n) λA z H q=>by
 revert q;refine Bm λb ρ E q=>?_;intro a h j;exact q _ _ (E.setW (by simpa using hi) (Aj h _) h (.inr ⟨[],"dict",[],[],rfl,.inl ⟨rfl,[],rfl,rfl,iB,j,Ah⟩,An.nil⟩))
theorem yd7(hu:X.A.units+70<HX)(i:Nat){x1}{f':CN}(he:PAd X c .no es fks)(Z:PEd X c .no f' f0)(hi:c.O.contains i=true:=by rfl)(hN:X.N[i]? = some x:=by rfl)(hv:Vis X.env.scope x:=by first |exact Or.inl rfl |exact Or.inr (Or.inl rfl) |exact Or.inr (Or.inr rfl))(hd:Zd x:=by decide)
  (aa:(x == ("__classdict__" : BV))=false:=by decide)(m:M2 X (.Name x p) "get" apos (.Tuple es x1 C) f' cpos:=by exact⟨rfl,rfl,rfl,rfl⟩):PEd X c .no (.Call (.Attribute (.Name x p) "get" apos) [.Tuple es x1 C,f'] [] cpos) (kY i fks f0):=
 PE.imp (ku4 (by lia) (pv i hN hv hd aa) (oM he) Z m) λσ H Q q=>by
 revert q;refine Bm λhs ρ E q=>?_;have Y:i∈c.O:=by simpa using hi
 refine Am (λpr hd q=>?_) (pO (RQ.bind.mp q));refine rO (λa vs kk o e1 e2 e3 e4 e5 e6 e7=>?_) (pH E Y hd);refine⟨.ref a,e1,a,rfl,.inr ⟨_,.inr ⟨o,e6⟩⟩,?_⟩;refine Ce E ((RQ.bind.mp q).mono (λds I xs H1 n E1 r1 hn=>?_) λ_ z=>z);by_cases T:ds.length<=16777216
 ·rw[if_pos T]at I;refine⟨Gv (by rw[<-r1.length];exact T),λt ht=>?_⟩;have b:=Aj ht (.tup xs);refine Ba (E1.mono b) ((RQ.bind.mp I).mono (λdz q2 vz L j E2 r2=>?_) λe z=>Bq z (n.trans b));refine Am (λd J h=>?_) (q2.of);cases U:Eg ds with
  |none=>rw[U]at J;cases J
  |some k =>
   rw[U]at J;cases J;have ev:=R1 (by rw[<-O9 U];exact r1);subst ev;have F:L a=some (.frz o (.dT (kk.zip vs))):=j _ _ (b _ _ (n _ _ e6));have s:L t=some (.tup (k.map kV)):=j _ _ Ah;dsimp only at h;rw[e3]at h;rcases Zn k e4 e7 with ⟨v1,M⟩ | ⟨v,f1,v1,M,v3⟩
   ·refine⟨none,.inr ⟨_,k,t,.inr ⟨o,F⟩,rfl,s,v1.symm⟩,?_⟩;rw[M]at h;exact h _ L ((n.trans b).trans j) (r2.mono (Af.refl _) λ_ z=>z)
   ·refine⟨some v,.inr ⟨_,k,t,.inr ⟨o,F⟩,rfl,s,v1.symm⟩,?_⟩;rw[M]at h;exact h _ L ((n.trans b).trans j) (v3.mono ((n.trans b).trans j) λ_ z=>z)
 ·rw[if_neg T]at I;exact I.elim
theorem yb6(hu:X.A.units+70<HX)(i:Nat){x1}{value:CN}(hv:PEd X c .no value g)(he:PAd X c .no es fks)(hX:∀b,c.H0 b=none->X.H₀ b=none)(hi:c.O.contains i=true:=by rfl)(hN:X.N[i]? = some x:=by rfl)(h:Vis X.env.scope x:=by first |exact Or.inl rfl |exact Or.inr (Or.inl rfl) |exact Or.inr (Or.inr rfl))(I:Zd x:=by decide)
  (Y:(x == ("__classdict__" : BV))=false:=by decide)(hs:FJ value (some (.Subscript (.Name x p) (.Tuple es x1 C) y)) B.line X.env=pure false:=by rfl):PSd X c (.Assign [.Subscript (.Name x p) (.Tuple es x1 C) y] value B) (kO i fks g):=
 PS.imp (kv2 (by lia) (pv i hN h I Y) (oM he) hv hs) λD0 σ H q=>by
 revert q;refine Bm λhs ρ E q=>?_;have m:i∈c.O:=by simpa using hi
 refine Ba E ((RQ.bind.mp q).mono (λd M v H1 s1 Z r1=>?_) λx z=>Fo E z);refine Am (λpr I M=>?_) (pO (RQ.bind.mp M));refine rO (λa vs kk o e1 e2 e3 e4 e5 e6 e7=>?_) (pH Z m I);refine⟨.ref a,e1,?_⟩;refine Ce Z ((RQ.bind.mp M).mono (λds F xs H2 J E2 r2 hn=>?_) λx z=>Fo Z z);by_cases U:ds.length<=16777216/\pr.1.length<16777216
 ·rw[if_pos U]at F;refine⟨Gv (by rw[<-r2.length];exact U.1),λt ht=>?_⟩;have s:=Aj ht (.tup xs);refine Am (λk hk q3=>?_) ((RQ.bind.mp F).of);have ev:=R1 (by rw[<-O9 hk];exact r2);subst ev;have n:upd H2 t (.tup (k.map kV)) a=some (.frz o (.dT (kk.zip vs))):=s _ _ (J _ _ e6);have j:(kk.zip vs).length<sizeLine:=by
   have h1:pr.1.length=kk.length:=by rw[e3,HN]
   rw[iC,CQ];lia
  refine⟨a,o,_,k,t,rfl,n,hX a e2.1,rfl,Ah,j,λQ=>?_⟩;have E3:=E2.mono s;have L:Rep X.K (upd H2 t (.tup (k.map kV))) (c.N ρ σ) d v:=r1.mono (J.trans s) λ_ z=>z;refine rR (λT aa p1 p2 p3 _ p5 p6=>?_) (yU k L e4 e5 (e7.mono (J.trans s) λ_ z=>z));rw[p1];rw[<-e3]at p5 p6;exact q3 σ _ (E3.writeD (cc:="dict") m I e1 n rfl (.inl ⟨rfl,T,p5,p2,p3,Q,Ah⟩) p6)
 ·rw[if_neg U]at F;exact F.elim
theorem kg1{a:BK}{kk:List (List Key)}{vs:List V}{fs:List D}(hl:kk.length=vs.length):ItD K (Idi a o (kk.zip vs)) (((kk.map λk=>D.tup (k.map kyD)).zip fs).map λq=>.tup [q.1,q.2]) λH S=>(H a=some (.frz o (.dT (kk.zip vs)))/\S (some a))/\An K H S fs vs where
 stab:=⟨λs hS h=>⟨⟨s _ _ h.1.1,hS _ h.1.2⟩,h.2.mono s hS⟩,λhl hn h=>⟨⟨by rw[Ad (λz=>by rw[z,hl]at h;cases h.1.1)];exact h.1.1,h.1.2⟩,h.2.wr hl hn⟩,
  λhl ho hn h=>⟨⟨by rw[Ad (λz=>hn (by rw[<-z];exact h.1.2))];exact h.1.1,h.1.2⟩,h.2.wrD hl ho hn⟩,λhp h=>⟨⟨h.1.1,h.1.2,λz=>by cases z;rw[hp]at h;cases h.1.1⟩,h.2.avoid hp⟩⟩
 go:=λi H S hi h=>by have:=h.2.length;refine⟨h.1.1,?_⟩;rw[HN,iC,HN]at hi;rw[iC];lia
 yld:=λi H S x H' h y=>by
  revert y;refine yk9 λt b k v hz1 ht hz2 hk hb=>?_;obtain rfl:=hz1;obtain rfl:=hz2;have s1:=Aj ht (.tup [.ref b,v]);refine⟨s1,λd hd=>?_⟩;have⟨h1,h2⟩:=jFn.mp hk;rw[QX]at hd;cases hz:((kk.map λk=>D.tup (k.map kyD)).zip fs)[i]? with
  |none=>rw[hz]at hd;cases hd
  |some q=>rw[hz]at hd;cases hd;have⟨h3,h4⟩:=jFn.mp hz;rw[QX,h1]at h3;have e3:q.1=D.tup (k.map kyD):=(Option.some.inj h3).symm;refine Am (λw hw rw'=>?_) (h.2.get h4);have ev:v=w:=Option.some.inj (h2.symm.trans hw);subst ev;show Rep K _ S (D.tup [q.1,q.2]) _;rw[e3];exact⟨t,_,rfl,TpR.of Ah,.cons ⟨b,_,rfl,TpR.of (s1 _ _ hb),X7 k⟩ (.cons (rw'.mono s1 λ_ z=>z) An.nil)⟩
 stop:=λi H S hi h=>by have:=h.2.length;refine⟨h.1.1,?_⟩;rw[HN,iC,HN]at hi;rw[iC];lia
def wr9(i:Nat){k:Nat}(hi:c.O.contains i=true:=by rfl)(hN:X.N[i]? = some x:=by rfl)(hv:Vis X.env.scope x:=by first |exact Or.inl rfl |exact Or.inr (Or.inl rfl) |exact Or.inr (Or.inr rfl))(hd:Zd x:=by decide)
  (ab:(x == ("__classdict__" : BV))=false:=by decide)(A:GD (.Name x p) "items" X.env (CZ (.Name x p) X.env)=CZ (.Name x p) X.env:=by rfl)(n:(apos.endLine == cpos.line)=true:=by rfl):
  PId X c .any (.Tuple G k C) (.Call (.Attribute (.Name x p) "items" apos) [] [] cpos) (itI i):=by
 intro J s σ H R I h;obtain⟨hs,ρ,E,q⟩:=h;have Z:i∈c.O:=by simpa using hi
 obtain⟨pr,aa,q⟩:=pO (RQ.bind.mp q);obtain⟨a,vs,kk,o,e1,e2,e3,e4,e5,e6,e7⟩:=pH E Z aa;refine wpAny_Call_method0_late A n (thG (pv i hN hv hd ab J s σ H (λv H'=>v=.ref a/\H'=H) I ⟨_,e1,rfl,rfl⟩) λv j x' H1 Q r1 m=>?_);obtain⟨ex,eH⟩:=m;subst ex;subst eH;obtain rfl:v=Value.ref a:=r1;obtain⟨T,t2,L⟩:=uI Q (.inr ⟨_,.inr ⟨o,e6⟩⟩);refine⟨"dict","dict.items",PySem.F.plainAttrs_dict,PySem.F.slot_dict_items,PySem.F.type_dict_items,T,t2,Calls.callWith_builtin rfl (PySem.evalArgs_none ?_)⟩;refine ZC PySem.F.slot_dict_items T PySem.F.entry_dict_items (PySem.F.args_dict_items_1 _) (js2 a L) ⟨T,?_⟩;obtain⟨U,z,y,xs,r,ob,es,ep,f1,f2,f3,f4,f5⟩:=Q.hok a _ e6;have eo:o=ob:=Option.some.inj (U.symm.trans f1);subst eo;have Y:a<j.heap.objs.size:=GQ U;refine js1 (od:=o) (es:=es) (ep:=ep) ⟨_,L_ _ rfl,rfl,rfl⟩ (HF _ U) f3 ?_;have hz:(j.heap.push {cls:=.type "dict_items",data:=.fields #[.ref a] }).objs.size=j.heap.objs.size+1:=V_ ..;refine⟨(j.heap.push {cls:=.type "dict_items",data:=.fields #[.ref a] }).objs.size,[(j.heap.push {cls:=.type "dict_items",data:=.fields #[.ref a] }).objs.size],_,_,H1,rfl,Q.kept (t':=j.toks) λb w e=>HF _ (HF _ e),ju6 a _ o (kk.zip vs) (by rw[hz];exact JV (ZX Y)),⟨es,ep,.none,.none,f3,L_ _ rfl⟩,λb hb=>?_,?_⟩
 ·rw[LR.mp hb];have M:j.heap.objs.size<=(j.heap.push {cls:=.type "dict_items",data:=.fields #[.ref a] }).objs.size:=by rw[hz];exact ZV _
  exact Q.fpOk M (Q.hok.fresh M)
 ·have q:=q;rw[e3]at q;exact q _ _ H1 (Af.refl _) (kg1 (a:=a) (o:=o) (fs:=pr.2) e4) ⟨⟨e6,.inr ⟨a,rfl,e2.1,e2.2⟩⟩,e7.mono (Af.refl _) λ_ z=>z.1⟩
end
def f9:D->D->Option D
 | .int i,.int j=>if 0<=j/\j<=1000000/\i.natAbs<2 ^ 64 then some (.int (i * 2 ^ j.toNat)) else none
 |_,_=>none
def bL:D->D->Option D
 | .int i,.int j=>if 0<=j then some (.int (i / 2 ^ j.toNat)) else none
 |_,_=>none
def Wk:D->D->Option D
 | .int i,.int j=>some (.int (Builtin.bitAnd i j))
 |_,_=>none
def kq0:∀x y d,f9 x y=some d->d.imm=true:=λx y d h=>by cases x<;>first |exact nos h | (cases y<;>first |exact nos h | (obtain⟨_,rfl⟩:=Bb h;rfl))
def kq1:∀x y d,bL x y=some d->d.imm=true:=λx y d h=>by cases x<;>first |exact nos h | (cases y<;>first |exact nos h | (obtain⟨_,rfl⟩:=Bb h;rfl))
variable {a:CN}
section
variable {b:CN}{f1 f2:Ev->R D}
def yg0:OpR X (DN .LShift) (rD X.K f9):=T7 wv3 λj h d e=>by cases j<;>first |exact nos e | (cases h<;>first |exact nos e | (obtain⟨g,rfl⟩:=Bb e;exact⟨_,_,rfl,rfl,g,λ_ _=>rfl⟩))
def yg1:OpR X (DN .RShift) (rD X.K bL):=T7 wv4 λj h d e=>by cases j<;>first |exact nos e | (cases h<;>first |exact nos e | (obtain⟨g,rfl⟩:=Bb e;exact⟨_,_,rfl,rfl,g,λ_ _=>rfl⟩))
def wu3:OpR X (DN .BitAnd) (rD X.K Wk):=pJ wu8 λh g d e=>by cases h<;>first |exact nos e | (cases g<;>first |exact nos e | (cases e;exact⟨_,_,rfl,rfl,λ_ _=>rfl⟩))
def shl(g:PEd X c l a f1)(e:PEd X c l b f2):PEd X c l (.BinOp a .LShift b B) (b2 f1 f2 f9):=aM .LShift yg0 g e
def shr(g:PEd X c l a f1)(e:PEd X c l b f2):PEd X c l (.BinOp a .RShift b B) (b2 f1 f2 bL):=aM .RShift yg1 g e
def band(g:PEd X c l a f1)(e:PEd X c l b f2):PEd X c l (.BinOp a .BitAnd b B) (b2 f1 f2 Wk):=aM .BitAnd wu3 g e
end
def nU{fs:List D}(h:gv i ρ=.ok (Vo ks fs)):gvD i ρ=.ok (ks,fs):=by unfold gvD;rw[h,R.ok_bind,kf8];rfl
variable {fks:Ev->R (List D)}
def wc2{fs l:List D}{f0:Ev->R D}{z:D}(h:gv i ρ=.ok (Vo ks fs))(j:fks ρ=.ok l)(b:l.length<=16777216)(g:f0 ρ=.ok z)(e:Eg l=some k):
  kY i fks f0 ρ=.ok ((Qf ks fs k).getD z):=by
 unfold kY;rw[nU h,R.ok_bind,j,R.ok_bind,if_pos b,g,R.ok_bind,e];rfl
def wc3{fs l:List D}{e:Ev->R D}{v:D}(j:e ρ=.ok v)(h:gv i ρ=.ok (Vo ks fs))(n:fks ρ=.ok l)(g:l.length<=16777216)(b:ks.length<16777216)(m:Eg l=some k):
  kO i fks e ρ=.ok (.nx (ρ.set i (some (Vo (dput ks fs k v).1 (dput ks fs k v).2)))):=by
 unfold kO;rw[j,R.ok_bind,nU h,R.ok_bind,n,R.ok_bind,if_pos ⟨g,b⟩,m];rfl
def yc7{fs:List D}(h:gv i ρ=.ok (Vo ks fs)):itI i ρ=.ok ((ks.zip fs).map λq=>.tup [q.1,q.2]):=by unfold itI;rw[nU h];rfl
def u1(h:PEd X c .fr a f):PEd X c .no a f:=h.up
def u2(h:PEd X c .fr a f):PEd X c .any a f:=h.up
def u3(h:PEd X c .no a f):PEd X c .any a f:=h.up
def ll0{b:Type}{P:List b->Prop}(h:P []):∀e:List b,e.length=0->P e
 | [],_=>h
def ll1{g:Type}{P:List g->Prop}(h:∀a,P [a])(b:List g)(e:b.length=1):P b:=by
 cases b with
 |nil=>cases e
 |cons a b=>exact ll0 (P:=λu=>P (a::u)) (h a) b (Nat.succ.inj e)
def ll2{j:Type}{P:List j->Prop}(h:∀a b,P [a,b])(g:List j)(e:g.length=2):P g:=by
 cases g with
 |nil=>cases e
 |cons a g=>exact ll1 (P:=λu=>P (a::u)) (h a) g (Nat.succ.inj e)
def ll3{j:Type}{P:List j->Prop}(h:∀a b c,P [a,b,c])(g:List j)(e:g.length=3):P g:=by
 cases g with
 |nil=>cases e
 |cons a g=>exact ll2 (P:=λu=>P (a::u)) (h a) g (Nat.succ.inj e)
def ll4{j:Type}{P:List j->Prop}(h:∀a b c d,P [a,b,c,d])(g:List j)(e:g.length=4):P g:=by
 cases g with
 |nil=>cases e
 |cons a g=>exact ll3 (P:=λu=>P (a::u)) (h a) g (Nat.succ.inj e)
def ll5{j:Type}{P:List j->Prop}(h:∀a b c d e,P [a,b,c,d,e])(g:List j)(e:g.length=5):P g:=by
 cases g with
 |nil=>cases e
 |cons a g=>exact ll4 (P:=λu=>P (a::u)) (h a) g (Nat.succ.inj e)
def FI(K:B_)(x:BV)(st:DR):Prop:=∃(f:BK)(b:DQ),W.nsIn K PySem.mainGlobals x=some (some (.ref f))/\Fun K x x st f b/\W.keepIn K (.ref f)=true
section
variable {P:BZ}{w:CV}{K:B_}{h:CP}{mg:BV->Option A_}{base:CP}{x:BV}{st:DR}{k n:Nat}{ps:List BV}{m:List D->R D}
def Bt{f:BK}{s:A_}{od an:Option BK}{e:Array (Option A_)}{kV g j b ct:A_}(a:W.nsIn K PySem.mainGlobals x=some (some (.ref f)))(l:K.lookup f=some ⟨s,od,.func (W.fnOf x x (Es st) (Cp st) (Av st) .none kV g j an b ct),e⟩)
  (c:W.codeIn K b x=true)(k:W.keepIn K (.ref f)=true):FI K x st:=⟨f,_,a,uQ l c k,k⟩
def Ed(P:BZ)(w:CV)(base:CP)(X:K.In h)(G:h.Ns PySem.mainGlobals mg)(I:FI K x st)(g:∀a b,Fun K x x st a b->Hh P w K mg base CX0 k a b ps (sp0 K n m))
  (E:∀(kV j z:A_)(an:Option BK)(s ct:A_)(e:List A_),e.length=ps.length->O_ (W.fnOf x x (Es st) (Cp st) (Av st) .none kV j z an s ct) ⟨e,[]⟩=pure (ps.zip e)):FnC P w K mg base k x ps n m:=by
 revert I;refine Bo λf b a F A=>?_;exact⟨f,b,g f b F,W.mg_of X G a,A,F.binds E⟩
end
end PD
namespace PySem
open Sem (wp)
variable {e L:BK}{vs:Array A_}{c:A_}{od:Option BK}{sl:Array (Option A_)}
section
variable {M:KR}{A:DK}{E:A_->BJ->Prop}{s:BJ}
def aO(h:CP)(e:BK)(vs:Array A_):Prop:=vs[1]? = some .none\/∃T b a,vs[1]? = some (.ref T)/\T≠e/\h.get? T=some b/\b.data=.fields a/\a[3]? = some .none
def aO.lt{h:CP}(t:aO h e vs):1<vs.size:=by rcases t with t | ⟨T,_,_,t,_⟩<;>exact(qY.mp t).1
theorem entryE{base:CP}{env:JT}{outer:List JT}{head:A_}{n:Bool}{Q:Unit->BJ->Prop}
  (I:A.frames=some (env::outer))(P:s.heap.FunFrames base (env::outer))(Z:env.frame=some L)(U:s.heap.get? e=some ⟨c,od,.fields vs,sl⟩)(hsz:1<vs.size)
  (h:∀C T O K,(∀b o,b≠e->b∉(env::outer).filterMap (·.frame)->s.heap.get? b=some o->C.get? b=some o)->(∀b o,s.heap.get? b=some o->b∈(env::outer).filterMap (·.frame)->∃sl,C.get? b=some {o with slots:=sl}) ->
   C.get? e=some ⟨c,od,.fields (vs.setIfInBounds 1 (.ref T)),sl⟩->s.heap.objs.size<=T->T≠e->C.get? T=some O->O.data=.fields K->K[3]? = some .none->Q () {s with heap:=C}):
  BL M A (do let a <-frameOf env;let pl <-entryPlaceOf L n;let b <-EntryCells.newEntry head a .none (CK L) .none pl;VP (.ref e) 1 b) (λ_ X=>BL M A (SN (.ref e) none) Q E X) E s:=by
 have r:e∉(env::outer).filterMap (·.frame):=λY=>by have⟨_,o,F,H⟩:=P.mem Y;rw[U]at F;injection F with F;subst F;exact H vs rfl
 refine BX (wpAny_frameOf_fun I P Z λg i=>?_);refine BX (wpAny_entryPlaceOf λpl B=>?_);unfold EntryCells.newEntry d8;refine BX (CG ?_ (B.sizeOk5 _ _ _ _ _));have l:g.get? e=some ⟨c,od,.fields vs,sl⟩:=(i.2.1 e r).trans U;have k:=HF (h:=g) {cls:=.type "traceback",dict:=none,data:=.fields ([head,.ref L,.none,CK L,.none]++(if pl.isEmpty then List.replicate 6 Value.none else pl)).toArray} l;refine DX k rfl hsz ?_;have w:g.objs.size≠e:=S_ (GQ l);have m:=Obj.data_mapFields (o:=⟨c,od,.fields vs,sl⟩) rfl (·.setIfInBounds 1 (Value.ref g.objs.size));have j:=YC (Obj.mapFields (·.setIfInBounds 1 (Value.ref g.objs.size))) k (Obj.isFreed_of_fields m);have p:=(ZJ (g.push {cls:=.type "traceback",dict:=none,data:=.fields ([head,.ref L,.none,CK L,.none]++(if pl.isEmpty then List.replicate 6 Value.none else pl)).toArray})
  (Obj.mapFields (·.setIfInBounds 1 (Value.ref g.objs.size))) (Ne.symm w)).trans (L_ g rfl)
 unfold SN;refine BX (DY j m (x:=.ref g.objs.size) (by simp[hsz]) ?_);rw[if_pos (show(Value.ref g.objs.size != Value.none)=true from by simp)];refine DX p rfl (by simp only[KJ,PB,RB,iD]<;>omega) (h _ g.objs.size _ _ ?_ ?_ ?_ ?_ w (YC _ p (Obj.isFreed_of_fields (Obj.data_mapFields rfl _))) (Obj.data_mapFields rfl _) (by first | (simp;done) | (rcases B with rfl | ⟨_,_,_,_,_,_,_,rfl⟩<;>simp)))
 all_goals
  have keep:∀b o,b≠e->g.get? b=some o ->
    (((g.push {cls:=.type "traceback",dict:=none,data:=.fields ([head,.ref L,.none,CK L,.none]++(if pl.isEmpty then List.replicate 6 Value.none else pl)).toArray}).update e (Obj.mapFields (·.setIfInBounds 1 (Value.ref g.objs.size)))).update g.objs.size
     (Obj.mapFields (·.setIfInBounds 3 ((none:Option BK).elim Value.none λf=>CK f)))).get? b=some o:=λb o v y=>by
   have J:g.objs.size≠b:=S_ (GQ y);rw[ZJ _ _ J,ZJ _ _ (Ne.symm v)];exact HF _ y
 ·intro b o v u y;exact keep b o v ((i.2.1 b u).trans y)
 ·intro b o y u;have⟨G,q⟩:=i.2.2 b o y;exact⟨G,keep b _ (λz=>r (z ▸ u)) q⟩
 ·rw[ZJ _ _ w];exact j
 ·rw[<-i.1];exact FW _
def sW{base:CP}{env:JT}{outer:List JT}{Q:Unit->BJ->Prop}
  (v:A.frames=some (env::outer))(G:s.heap.FunFrames base (env::outer))(I:env.frame=some L)(x:s.heap.get? e=some ⟨c,od,.fields vs,sl⟩)(ht:aO s.heap e vs)
  (h:∀h' j,(∀b o,b≠e->vs[1]? ≠ some (.ref b)->b∉(env::outer).filterMap (·.frame)->s.heap.get? b=some o->h'.get? b=some o)->(∀b o,s.heap.get? b=some o->b∈(env::outer).filterMap (·.frame)->∃sl,h'.get? b=some {o with slots:=sl}) ->
   h'.get? e=some ⟨c,od,.fields j,sl⟩->aO h' e j->(∀T,j[1]? = some (.ref T)->s.heap.objs.size<=T)->(∃T,j[1]? = some (.ref T))->Q () {s with heap:=h'}):
  BL M A (d7 (.ref e) env) (λ_ s'=>BL M A (SN (.ref e) none) Q E s') E s:=by
 have m:=ht.lt;have w:∀(g h':CP) T l k,(∀b o,b≠e->vs[1]? ≠ some (.ref b)->s.heap.get? b=some o->g.get? b=some o)->g.objs.size=s.heap.objs.size->(∀b∈(env::outer).filterMap (·.frame),g.get? b=s.heap.get? b) ->
   (∀b o,b≠e->b∉(env::outer).filterMap (·.frame)->g.get? b=some o->h'.get? b=some o)->(∀b o,g.get? b=some o->b∈(env::outer).filterMap (·.frame)->∃sl,h'.get? b=some {o with slots:=sl}) ->
   h'.get? e=some ⟨c,od,.fields (vs.setIfInBounds 1 (.ref T)),sl⟩->g.objs.size<=T->T≠e->h'.get? T=some l->l.data=.fields k->k[3]? = some .none->Q () {s with heap:=h'}:=by
  intro g h' T l k k0 k1 k2 r h2 y h4 h5 h6 h7 h8;have F:(vs.setIfInBounds 1 (.ref T))[1]? = some (.ref T):=by simp[m]
  refine h h' _ (λb o u p q3 q4=>r b o u q3 (k0 b o u p q4)) (λb o u p=>h2 b o ((k2 b p).trans u) p) y (.inr ⟨T,l,k,F,h5,h6,h7,h8⟩) (λT' q=>?_) ⟨T,F⟩;rw[F]at q;cases q;rw[<-k1];exact h4
 unfold d7;simp only[I];rcases ht with r | ⟨T,l,k,r,J,K,n,y⟩
 ·refine BX (DY x rfl r ?_);rw[if_neg (by decide)];exact entryE v G I x m λh' T l k a1 a2 Z Y X U P O=>w s.heap h' T l k (λ_ _ _ _ q=>q) rfl (λ_ _=>rfl) a1 a2 Z Y X U P O
 ·refine BX (DY x rfl r ?_);rw[if_pos (show(Value.ref T != Value.none)=true from by simp)];refine BX (DY K n y ?_);rw[if_neg (show ¬ ((Value.none == CK L)=true) from by simp[CK])];refine BX (DX K n (qY.mp y).1 ?_);have other:∀b,b≠T->(s.heap.update T (Obj.mapFields (·.setIfInBounds 3 Value.none))).get? b=s.heap.get? b:=λb f=>ZJ _ _ (Ne.symm f);have a:∀b o,s.heap.get? b=some o->(∀vs,o.data≠.fields vs)->b≠T:=λb o f i q=>by rw[q,K]at f;injection f with f;subst f;exact i k n
  have H:∀b∈(env::outer).filterMap (·.frame),b≠T:=λb f=>by have⟨_,o,ho,i⟩:=G.mem f;exact a b o ho i
  refine entryE (s:={s with heap:=s.heap.update T (Obj.mapFields (·.setIfInBounds 3 Value.none))}) v (G.of_keeps λb o f i=>⟨o,(other b (a b o f i)).trans f,rfl⟩) I ((other e (Ne.symm J)).trans x) m
   λh' T' C B a1 a2 Z Y X U P O=>w _ h' T' C B (λb o u p q=>(other b (λz=>p (by rw[r,z]))).trans q) (Heap.size_update _ _ _) (λb f=>other b (H b f)) a1 a2 Z Y X U P O
def wt3{base:CP}{env:JT}{outer:List JT}{Q:Unit->BJ->Prop}
  (g:A.frames=some (env::outer))(i:s.heap.FunFrames base (env::outer))(j:env.frame=some L)(k:s.heap.get? e=some ⟨c,od,.fields vs,sl⟩)(ht:aO s.heap e vs)
  (h:∀f a,(∀b o,b≠e->vs[1]? ≠ some (.ref b)->b∉(env::outer).filterMap (·.frame)->s.heap.get? b=some o->f.get? b=some o)->(∀b o,s.heap.get? b=some o->b∈(env::outer).filterMap (·.frame)->∃sl,f.get? b=some {o with slots:=sl}) ->
   f.get? e=some ⟨c,od,.fields a,sl⟩->aO f e a->(∀T,a[1]? = some (.ref T)->s.heap.objs.size<=T)->(∃T,a[1]? = some (.ref T))->Q () {s with heap:=f}):
  BL M A (leaving env (.ref e)) Q E s:=by
 unfold leaving;exact BX (sW g i j k ht h)
def ye4{Q:Unit->BJ->Prop}(a:s.heap.get? e=some ⟨c,od,.fields vs,sl⟩)(ht:aO s.heap e vs)
  (h:∀k,(∀b o,vs[1]? ≠ some (.ref b)->s.heap.get? b=some o->k.get? b=some o)->k.get? e=some ⟨c,od,.fields vs,sl⟩->Q () {s with heap:=k}):BL M A (SN (.ref e) none) Q E s:=by
 unfold SN;rcases ht with g | ⟨T,u,r,g,j,n,i,p⟩
 ·refine BX (DY a rfl g ?_);rw[if_neg (by decide)];exact CW (h s.heap (λ_ _ _ q=>q) a)
 ·refine BX (DY a rfl g ?_);rw[if_pos (show(Value.ref T != Value.none)=true from by simp)];have other:∀b,b≠T->(s.heap.update T (Obj.mapFields (·.setIfInBounds 3 ((none:Option BK).elim Value.none λf=>CK f)))).get? b=s.heap.get? b:=λb m=>ZJ _ _ (Ne.symm m);exact DX n i (qY.mp p).1 (h _ (λb o l q=>(other b (λz=>l (by rw[g,z]))).trans q) ((other e (Ne.symm j)).trans a))
end
end PySem
namespace L2
open PySem PySem.Spec PyProof.Rows
structure aR(P:BZ)(w:CV)(outer:List JT)(H:Hp)(s:BJ)(a:BK)(H':Hp)(s':BJ):Prop where
 os:s'.os=s.os
 bare:M_ s'.gens
 un:Un (frs outer) [] H H' s.heap s'.heap
 hok:HOk P w H' s'.heap
 new:s.heap.get? a=none
 obj:∃C od vs sl,H' a=some (.ext (PD.Fz C a od))/\s'.heap.get? a=some ⟨.ref C,od,.fields vs,sl⟩/\aO s'.heap a vs/\∀T,vs[1]? = some (.ref T)->s.heap.get? T=none/\H' T=none
def CXE(P:BZ)(w:CV):CXT:=λb H s E e f=>∃a c,e=.ref a/\aR P w b H s a c f/\E e none c
def wK{base h h':CP}{H H':Hp}{l:List JT}(p:h.FunFrames base l)(u:∀b∈frs l,H b=none)(un:Un (frs l) [] H H' h h'):h'.FunFrames base l:=by
 have all:∀(r:List JT),(∀b∈frs r,b∈frs l)->h.FunFrames base r->h'.FunFrames base r:=by
  intro r;induction r with
  |nil=>intro _ _;trivial
  |cons env r k=>intro i c;revert c;refine bY λq a c=>?_;revert a;refine Vp λL o f n m s=>?_;have j:L∈frs l:=i L (by unfold frs;rw[dN,f];exact LK);have⟨v,e⟩:=un.slot L o m (u L j) j (by simp);exact⟨q,⟨L,_,f,n,e,s⟩,k (λb g=>i b (by unfold frs;rw[dN,f];exact JW _ g)) c⟩
 exact all l (λ_ g=>g) p
section
variable {P:BZ}{w:CV}{outer:List JT}{H H':Hp}{s s':BJ}{a:BK}{h':CP}
def aR.noted{C:BK}{od:Option BK}{vs g:Array A_}{i:Array (Option A_)}(F:aR P w outer H s a H' s')(v:H' a=some (.ext (PD.Fz C a od)))(K:s'.heap.get? a=some ⟨.ref C,od,.fields vs,i⟩)(E:∀T,vs[1]? = some (.ref T)->s.heap.get? T=none/\H' T=none)
  (r:∀b∈frs outer,H b=none)(p:∀b∈frs outer,∃o,s.heap.get? b=some o)
  (k1:∀b o,b≠a->vs[1]? ≠ some (.ref b)->b∉frs outer->s'.heap.get? b=some o->h'.get? b=some o)(k2:∀b o,s'.heap.get? b=some o->b∈frs outer->∃i,h'.get? b=some {o with slots:=i})
  (k3:h'.get? a=some ⟨.ref C,od,.fields g,i⟩)(J:aO h' a g)(k5:∀T,g[1]? = some (.ref T)->(s.heap.get? T=none/\H' T=none)):aR P w outer H s a H' {s' with heap:=h'}:=by
 have new:∀b o,s.heap.get? b=some o->b≠a:=λb o q z=>by rw[z,F.new]at q;cases q
 have k:∀b o,s.heap.get? b=some o->vs[1]? ≠ some (.ref b):=λb o q z=>by rw[(E b z).1]at q;cases q
 have x:∀b∈frs outer,H' b=none:=λb f=>by have⟨o,q⟩:=p b f;exact F.un.free b o q (r b f) (by simp)
 refine⟨F.os,F.bare,⟨λb o q n f _=>k1 b o (new b o q) (k b o q) f (F.un.keep b o q n f (by simp)),λb o q n f _=>?_,λb o q n _=>F.un.free b o q n (by simp),λb o q _=>?_,F.un.tups,F.un.frzs,F.un.tbls⟩,λc u q=>?_,F.new,C,od,g,i,v,k3,J,k5⟩
 ·have⟨I,m⟩:=F.un.slot b o q n f (by simp);have⟨j,y⟩:=k2 b _ m f;exact⟨j,y⟩
 ·have⟨A,m⟩:=F.un.there b o q (by simp);by_cases f:b∈frs outer
  ·have⟨j,y⟩:=k2 b _ m f;exact⟨_,y⟩
  ·exact⟨A,k1 b A (new b o q) (k b o q) f m⟩
 ·have B:=F.hok c u q;by_cases l:c=a
  ·subst l;rw[v]at q;cases q;revert B;refine bY λ_ _ G=>?_;exact⟨⟨g,i,k3⟩,⟨_,k3⟩,G⟩
  ·refine B.stay (λb o f e=>?_) (λ_ z=>z) λ_ _ z=>z;have h:H' b≠none/\b≠a:=by
    rcases f with rfl |f
    ·exact⟨by rw[q];simp,l⟩
    ·exact⟨by rw[f];simp,λz=>by rw[z,v]at f;cases f⟩
   exact k1 b o h.2 (λz=>h.1 (E b z).2) (λz=>h.1 (x b z)) e
end
def yg7{P:BZ}{w:CV}{K:B_}{mg:BV->Option A_}{base:CP}{N:List BV}{qual:BV}{c:HR}{f:BK}{cd:A_}{A:DK}{outer:List JT}{g:BJ}{H0:Hp}{E:XK}:
  Passes (CXE P w) (Vn (CXE P w) P w K mg base N qual c f cd A outer g H0 E) E:=by
 intro Q σ H s e s' I hx;revert hx;refine Bo λa H' p F q=>?_;obtain rfl:=p;refine jL (λC U M O hH Y ht hT=>?_) (F.obj);have v:∀b∈frs (envOfC qual c g.heap.objs.size f cd::outer),∃o,s.heap.get? b=some o:=λb j=>let ⟨_,o,e,_⟩:=I.stack.mem j; ⟨o,e⟩;have x:∀b∈frs (envOfC qual c g.heap.objs.size f cd::outer),H b=none:=I.stkFree;show BL _ _ _ _ _ _;refine wt3 (env:=envOfC qual c g.heap.objs.size f cd) (outer:=outer) (base:=base) (L:=g.heap.objs.size) I.ok.frames (wK I.stack I.stkFree F.un) rfl Y ht λh' aa k1 k2 k3 k4 X k6=>?_;have G:=F.noted (h':=h') hH Y hT x v k1 k2 k3 k4 λT z=>⟨?_,F.hok.fresh (X T z)⟩
 ·have m:∀b o,g.heap.get? b=some o->b∉frs outer->b∉frs (envOfC qual c g.heap.objs.size f cd::outer):=λb o q j z=>by
   have r:b=g.heap.objs.size\/b∈frs outer:=by unfold frs at z;rw[dN,show(envOfC qual c g.heap.objs.size f cd).frame=some g.heap.objs.size from rfl]at z;exact HY.mp z
   rcases r with rfl |r
   ·exact absurd (GQ q) (T_ _)
   ·exact j r
  have sub:∀b∈frs outer,b∈frs (envOfC qual c g.heap.objs.size f cd::outer):=λb j=>by unfold frs;rw[dN,show(envOfC qual c g.heap.objs.size f cd).frame=some g.heap.objs.size from rfl];exact JW _ j
  have i:Un (frs outer) [] H0 H g.heap s.heap:=I.base;refine⟨a,H',rfl,⟨G.os.trans I.os,G.bare,⟨λb o q n j _=>?_,λb o q n j _=>?_,λb o q n _=>?_,λb o q _=>?_,λb J q=>G.un.tups b J (i.tups b J q),λb o u q=>G.un.frzs b o u (i.frzs b o u q),λb ps q=>?_⟩,G.hok,?_,?_⟩,q⟩
  ·exact G.un.keep b o (i.keep b o q n j (by simp)) (i.free b o q n (by simp)) (m b o q j) (by simp)
  ·have⟨ab,h⟩:=i.slot b o q n j (by simp);have⟨l,B⟩:=G.un.slot b _ h (i.free b o q n (by simp)) (sub b j) (by simp);exact⟨l,B⟩
  ·have⟨k,h⟩:=i.there b o q (by simp);exact G.un.free b k h (i.free b o q n (by simp)) (by simp)
  ·have⟨k,h⟩:=i.there b o q (by simp);exact G.un.there b k h (by simp)
  ·have⟨m1,h⟩:=i.tbls b ps q;have⟨m2,B⟩:=G.un.tbls b _ h;exact⟨m1++m2,by rw[B,qR]⟩
  ·cases z:g.heap.get? a with
   |none=>rfl
   |some o=>have⟨k,h⟩:=i.there a o z (by simp);rw[F.new]at h;cases h
  ·refine jL (λC U M O g1 g2 g3 Z=>?_) (G.obj);refine⟨C,U,M,O,g1,g2,g3,λT z=>⟨?_,(Z T z).2⟩⟩;cases y:g.heap.get? T with
   |none=>rfl
   |some o=>have⟨k,h⟩:=i.there T o y (by simp);rw[(Z T z).1]at h;cases h
 ·cases y:s.heap.get? T with
  |none=>rfl
  |some o=>have⟨k,h⟩:=F.un.there T o y (by simp);exact absurd (QF (GQ h) (X T z)) (T_ _)
end L2
namespace PD
open PySem PySem.Spec PyProof.Rows L2
def sp1(K:B_)(n:Nat)(m:List D->R D):Sp:=λb H Q E=>b.length=n/\∃S c,An K H S c b/\RQ (m c) (λr=>∀v a,Af H a->Rep K a (AS.plus S H) r v->Q v a) (λx=>∀v u a,Af H a->Rep K a (AS.plus S H) x v->RelV v u->E u none a)
def EX(E:XK):D->V->Hp->Prop:=λ_ v a=>∀u,RelV v u->E u none a
def yk0(c:DC):XK:=λu _ a=>∃d v,RelV v u/\c.Ex d v a
abbrev V6(X:Cx)(c:DC):Prop:=Passes (CXE X.prog X.w) X (yk0 c)
section
variable {X:Cx}{c:DC}{l:Lv}{e:CN}{es:List CN}{fs:Ev->R (List D)}{a p:JG}{x:BV}{k n:Nat}{f:BK}{fd:DQ}{ps:List BV}{m:List D->R D}
def clX(fs:Ev->R (List D))(m:List D->R D):Ev->R D:=λb=>(fs b).bind m
end
end PD
namespace L2
open PySem PySem.Spec PyProof.Rows
variable {P:BZ}{w:CV}{H:Hp}{h:CP}{a:BK}
def Bu.has{o:HO}(x:Bu P w H h a o):∃u,h.get? a=some u:=by
 cases o with
 |lst c=>obtain⟨_,_,_,_,e⟩:=x;exact⟨_,e⟩
 |tup c=>obtain⟨_,_,_,_,e,_⟩:=x;exact⟨_,e⟩
 |dK b=>obtain⟨_,_,_,_,o,_,_,e,_⟩:=x;exact⟨_,e⟩
 |dT b=>obtain⟨_,_,_,_,o,_,_,e,_⟩:=x;exact⟨_,e⟩
 |set S n=>obtain⟨o,_,_,_,e,_⟩:=x;exact⟨_,e⟩
 |ins C m g=>obtain⟨_,_,_,e,_⟩:=x;exact⟨_,e⟩
 |own y=>exact x
 |xd g=>obtain⟨_,⟨_,_,_,e,_⟩,_⟩:=x;exact⟨_,e⟩
 |rng k l=>obtain⟨_,_,_,e⟩:=x;exact⟨_,e⟩
 |frz j u=>obtain⟨e,_⟩:=x;exact⟨_,e⟩
 |tbl ps=>obtain⟨_,e,_⟩:=x;exact⟨_,e⟩
 |met f y=>exact⟨_,(show h.get? a=some _ from x)⟩
 |ext i=>obtain⟨_,e,_⟩:=x;exact e
def HOk.none_of(x:HOk P w H h)(e:h.get? a=none):H a=none:=by
 cases q:H a with
 |none=>rfl
 |some u=>have⟨o,z⟩:=Bu.has (x a u q);rw[e]at z;cases z
variable {C:BK}
def yR{od:Option BK}:∀c b:CP,PD.Fz C a od c->(∀o,c.get? a=some o->b.get? a=some o)->PD.Fz C a od b:=λ_ _ ⟨f,g,e⟩ k=>⟨f,g,k _ e⟩
def wd4{X:Cx}{g:List (BK×FZ)}{m:St}{s:BJ}{h':CP}{e:BK}{p:List A_}{tk:Nat}(I:Inv X g m H s)(f:Heap.MadeExcOf s.heap h' e (.ref C) p):
  aR X.prog X.w X.stack H s e (upd H e (.ext (PD.Fz C e none))) {s with heap:=h',toks:=tk}:=by
 refine Gk (λt j x r=>?_) (f.there);have i:=I.hok.none_of f.new;have ne:∀b o,s.heap.get? b=some o->b≠e:=λb o q z=>by rw[z,f.new]at q;cases q
 refine⟨rfl,I.bare,⟨λb o q _ _ _=>f.keeps b o q,λb o q _ _ _=>⟨o.slots,f.keeps b o q⟩,λb o q n _=>by rw[Ad (ne b o q)];exact n,λb o q _=>⟨o,f.keeps b o q⟩,λb k q=>by rw[Ad (Ay q i)];exact q,
  λb u k q=>by rw[Ad (Ay q i)];exact q,λb ps q=>⟨#[],by rw[Ad (Ay q i),q];simp⟩⟩,λb u q=>?_,f.new,C,none,_,_,Ah,j,.inl rfl,λT z=>by cases z⟩
 by_cases l:b=e
 ·subst l;rw[Ah]at q;cases q;exact⟨⟨_,_,j⟩,⟨_,j⟩,yR⟩
 ·rw[Ad l]at q;exact(I.hok b u q).stay (λc v _ z=>f.keeps c v z) (λc z=>by rw[Ad (Ay z i)];exact z) λc k z=>by rw[Ad (Ay z i)];exact z
end L2
namespace PD
open PySem PySem.Spec PyProof.Rows L2
def tW(K:B_)(c:DC)(n:Nat)(f:Ev->R Unit):TE:=λg H Q=>∃h b,Az K c h b g H/\RQ (f b) (λ_=>∀x a,Af H a->x.length<=n->Q (.str x) a) (λe=>∀v a,Af H a->Rep K a (lvS c b g H .any) e v->c.Ex e v a)
abbrev PXw(X:Cx)(c:DC)(n:Nat)(e:CN)(f:Ev->R Unit):Prop:=PE X e (tW X.K c n f)
def fV:Ev->R Unit:=λ_=>.ok ()
def smI:D->R Unit
 | .int i=>if i.natAbs<2 ^ 200 then .ok () else .bad
 |_=>.bad
def tU(f:Ev->R D):Ev->R Unit:=λa=>(f a).bind smI
def fU(f g:Ev->R Unit):Ev->R Unit:=λa=>(f a).bind λ_=>g a
variable {X:Cx}{c:DC}{g:Ev->R Unit}{e:CN}{m:JG}
variable {n:Nat}
section
variable {l:Lv}{es:List CN}{f:Ev->R D}{a:Ev->R Unit}
def wdk{x:BV}{j m}(h:x.length<=2000:=by decide):PXw X c 2000 (.Constant (.str x) j m) fV:=λb s i H Q I ⟨o,k,E,q⟩=>ww1 b s i H Q I (q x H (Af.refl _) h)
theorem wdf(h:PEd X c l e f):PXw X c 2000 (.FormattedValue e (-1) none m) (tU f):=λj s C H Q I q=>by
 obtain⟨M,L,E,q⟩:=q;refine aC (thn (h j s C H (λv p=>∃i:Int,v=.int i/\i.natAbs<2 ^ 200/\∀x:BV,x.length<=2000->Q (.str x) p) I (Ba E ((RQ.bind.mp q).mono (λd w v p A O y=>?_) λ_ z=>z))) λu A G=>?_)
 ·cases d with
  |int i =>
   have r:RQ (if i.natAbs<2 ^ 200 then R.ok () else .bad) _ _:=w;by_cases o:i.natAbs<2 ^ 200
   ·rw[if_pos o]at r;exact⟨i,y,o,λx F=>r x p A F⟩
   ·rw[if_neg o]at r;exact r.elim
  |_=>exact w.elim
 ·obtain⟨v,p,K,y,i,J,o,w⟩:=G;subst J;obtain⟨t,rfl⟩:∃t,u=Value.int i t:=y;have b:i.natAbs.log2<1920:=by
   by_cases B:i.natAbs=0
   ·rw[B];decide
   ·exact g_ ((Nat.log2_lt B).mpr o) (by decide)
  refine formatField_int_small b ⟨.str (toString i),p,(K.tok _).tok _,⟨_,rfl⟩,w _ ?_⟩;have:=int_text_length_le (a:=i) (k:=1920) (by decide) b;show(Str.ofString (toString i)).length<=2000;rw[PySem.ofString_length];lia
def PJ(X:Cx)(c:DC)(n:Nat)(es:List CN)(f:Ev->R Unit):Prop:=∀(acc:BV)(b:List (BK×FZ))(s:BJ)(i:St)(H:Hp)(Q:VK),acc.length+n<=sizeLine->Inv X b i H s ->
 (∃k j,Az X.K c k j i H/\RQ (f j) (λ_=>∀x h,Af H h->x.length<=acc.length+n->Q (.str x) h) (λe=>∀v h,Af H h->Rep X.K h (lvS c j i H .any) e v->c.Ex e v h))->BL (BR X.prog X.w) X.A (joinParts acc (WL es X.env)) (EP X b i Q) X.xe s
def nG:PJ X c 0 [] fV:=λacc b s i H Q h I ⟨k,j,E,q⟩=>joinParts_nil ⟨.str acc,H,I.tok _,⟨_,rfl⟩,q acc H (Af.refl _) (FW _)⟩ h
theorem dX(h:PXw X c 2000 e g)(O:PJ X c n es a)(P:WL (e::es) X.env=CZ e X.env::WL es X.env:=by rfl):PJ X c (2000+n) (e::es) (fU g a):=λacc i s w H Q Z I q=>by obtain⟨F,k,E,q⟩:=q;rw[P];refine joinParts_cons (thG (h i s w H (λv p=>∃x:BV,v=.str x/\x.length<=2000/\Af H p/\Az X.K c F k w p/\RQ (a k) (λ_=>∀x b,Af H b->x.length<=acc.length+(2000+n)->Q (.str x) b) (λe=>∀v b,Af H b->Rep X.K b (lvS c k w H .any) e v->c.Ex e v b)) I ⟨F,k,E,(RQ.bind.mp q).mono (λ_ C x p A J=>⟨x,rfl,J,A,E.mono A,C⟩) λ_ z=>z⟩) λu A v p U L o=>?_);obtain⟨x,T,J,j,Y,C⟩:=o;subst T;obtain⟨t,rfl⟩:∃t,u=Value.str x t:=L;have G:(acc++x).length=acc.length+x.length:=strLen_append _ _;refine⟨by rw[G];lia,O (acc++x) i A w p Q (by rw[G];lia) U ⟨F,k,Y,C.mono (λ_ z y b B M=>z y b (j.trans B) (by rw[G]at M;lia)) λ_ z v b B r=>z v b (j.trans B) (r.mono (Af.refl _) λ_ y=>Gw j y)⟩⟩
theorem wdj{j i:CN}(h:PJ X c n (j::i::es) g)(y:n<=sizeLine:=by decide)(v:WL (j::i::es) X.env=CZ j X.env::CZ i X.env::WL es X.env:=by rfl):PXw X c n (.JoinedStr (j::i::es) m) g:=λb s k H Q I q=>by revert q;refine Bm λu o E q=>?_;refine JoinedStr_many ?_;rw[<-v];exact h Str.empty b s k H Q (by have:Str.empty.length=0:=rfl;rw[this];lia) I ⟨u,o,E,q.mono (λ_ z x w p r=>z x w p (by have:Str.empty.length=0:=rfl;rw[this]at r;lia)) λ_ z=>z⟩
end
abbrev VE:List A_:=[.type "ValueError",.type "Exception",.type "BaseException",.type "object"]
def eE(K:B_)(c:BV)(C W:BK):Bool:=
 (match PySem.W.clsIn K C with |some a=>decide (a.name=c) && a.hasDict && a.mro == .ref C::.ref W::VE |none=>false) &&
 (match PySem.W.clsIn K W with |some a=>decide (a.name = "WebError") && a.mro == .ref W::VE |none=>false) &&
 PySem.W.findIn K (.ref C) "__getattribute__" == some (some (.builtin "BaseException.__getattribute__")) && PySem.W.findIn K (.ref C) "__getattr__" == some none && PySem.W.findIn K (.ref C) "__class__" == some (some (.builtin "object.__class__")) && decide (c ≠ "dict") && decide (c ≠ "dictK")
variable {C W:BK}
def nQ{K:B_}{c:BV}(a:PySem.W.nsIn K PySem.mainGlobals c=some (some (.ref C)))(b:PySem.W.nsIn K PySem.mainGlobals "WebError" = some (some (.ref W)))(q:eE K c C W=true):EC K c C W:=by
 unfold eE at q;simp only[QH,beq_iff_eq,decide_eq_true_eq]at q;obtain⟨⟨⟨⟨⟨⟨f,h⟩,p⟩,o⟩,j⟩,l⟩,k⟩:=q;refine⟨a,b,?_,?_,p,o,j,l,k⟩
 ·cases e:PySem.W.clsIn K C with
  |none=>rw[e]at f;cases f
  |some i=>rw[e]at f;simp only[QH,beq_iff_eq,decide_eq_true_eq]at f;exact⟨i,rfl,f.1.1,f.1.2,f.2⟩
 ·cases e:PySem.W.clsIn K W with
  |none=>rw[e]at h;cases h
  |some i=>rw[e]at h;simp only[QH,beq_iff_eq,decide_eq_true_eq]at h;exact⟨i,rfl,h.1,h.2⟩
def wo4(K:B_)(C N:BK)(bm:List A_):Prop:=∃a q bs k sn sub o col l j i h f b,K.lookup C=some (MP a q C N bs bm k sn sub o col l j i h f b "ValueError.__new__")
def Tj(K:B_)(C:BK):Bool:=(K.lookup C).any λo=>o.cls == .type "type" && (PySem.W.clsIn K C).any (λa=>a.mro.head? == some (.ref C) && !a.hasDel && PySem.W.tailIn K VE a.mro.tail && PySem.W.nsOkIn K a.ns) &&
 decide (o.slots.size=6) && o.slots[4]? == some (some (.builtin "ValueError.__new__"))
theorem wy1{a:Array (Option A_)}{v:Option A_}(h:a.size=6)(f:a[4]? = some v):∃p o l k j,a = #[p,o,l,k,v,j]:=by
 have r:a[4]'(by rw[h];decide)=v:=by rw[YD (by rw[h];decide)]at f;exact Option.some.inj f
 refine⟨a[0]'(by rw[h];decide),a[1]'(by rw[h];decide),a[2]'(by rw[h];decide),a[3]'(by rw[h];decide),a[5]'(by rw[h];decide),?_⟩;apply Array.ext
 ·exact h
 ·intro i s q;have b:i<6:=q;rcases i with _ |_ |_ |_ |_ |_ |i
  ·rfl
  ·rfl
  ·rfl
  ·rfl
  ·exact r
  ·rfl
  ·exact absurd b (by omega)
def pQ{K:B_}(q:Tj K C=true):∃N h,wo4 K C N h/\PySem.W.tailIn K VE h=true/\PySem.W.nsOkIn K N=true/\∃b,PySem.W.clsIn K C=some b/\b.ns=N:=by
 have⟨o,p,q⟩:=PySem.W.any_some q;simp only[QH,beq_iff_eq,decide_eq_true_eq]at q;obtain⟨⟨⟨s,f⟩,M⟩,L⟩:=q;have⟨b,a,f⟩:=PySem.W.any_some f;simp only[QH,beq_iff_eq,XH]at f;obtain⟨⟨⟨j,w⟩,v⟩,u⟩:=f;have⟨J,I,H,G,F,l⟩:=wy1 M L;have r:o.data=.cls b:=by unfold PySem.W.clsIn at a;rw[p]at a;obtain⟨A,k,x,y⟩:=o;cases x<;>first | (cases a;rfl) |cases a
 obtain⟨A,k,x,y⟩:=o;obtain⟨E,bs,mro,B,z,i,sn,sub,O,col,del⟩:=b;dsimp only at s l r j w v u;subst s l r w;cases mro with
 |nil=>cases j
 |cons m h=>cases j;exact⟨B,h,⟨E,z,bs,i,sn,sub,O,col,k,J,I,H,G,F,p⟩,v,u,_,a,rfl⟩
structure ER0(K:B_)(c:BV)(C W:BK):Prop where
 ec:EC K c C W
 cl:Tj K C=true
 ni:∃cd,PySem.W.clsIn K C=some cd/\PySem.W.nsIn K cd.ns "__init__" = some none
def oV(K:B_)(C:BK):Bool:=match PySem.W.clsIn K C with |some a=>PySem.W.nsIn K a.ns "__init__" == some none |none=>false
def wr4{K:B_}{c:BV}(a:PySem.W.nsIn K PySem.mainGlobals c=some (some (.ref C)))(b:PySem.W.nsIn K PySem.mainGlobals "WebError" = some (some (.ref W)))(q:eE K c C W=true)(h:Tj K C=true)(f:oV K C=true):ER0 K c C W:=by
 refine⟨nQ a b q,h,?_⟩;unfold oV at f;cases e:PySem.W.clsIn K C with
 |none=>rw[e]at f;cases f
 |some i=>rw[e]at f;exact⟨i,rfl,beq_iff_eq.mp f⟩
def Rep.err0{K:B_}{H:Hp}{S:AS}{nm:BV}{a:BK}(b:EC K nm C W)(h:H a=some (.ext (Fz C a none))):Rep K H S (.exc nm [] []) (.ref a):=⟨a,[],rfl,.inr ⟨C,W,b,.inl ⟨rfl,rfl,h⟩⟩,rfl⟩
def jD(nm:BV)(g:Ev->R Unit):Ev->R Fl:=λa=>(g a).bind λ_=>.exc (.exc nm [] [])
section
variable {f cpos:JG}{x:BV}{C W:BK}{n:Nat}
def kv6(hp:V6 X c)(hc:X.calm=true)(hm:X.mg x=some (.ref C))(L:ER0 X.K x C W)(hw:PXw X c n e g)(hg:Gl X x:=by rfl)(G:Zd x:=by decide)
  (O:BP [e] X.env=[(false,CZ e X.env)]:=by rfl):PSd X c (.Raise (some (.Call (.Name x f) [e] [] cpos)) none m) (jD x g):=λh s M H D I q=>by
 obtain⟨hs,T,E,q⟩:=q;obtain⟨N,bm,⟨nm,Y,bs,hd,sn,sub,ab,col,dd,k0,k1,k2,k3,k5,hC⟩,hT,P,cd,J,B⟩:=pQ L.cl;obtain⟨aa,i,p⟩:=L.ni;rw[J]at i;cases i;rw[B]at p;have FB:=PySem.F.excBase_ValueError;have Q:=PySem.W.tail_of_in (bmB:=VE) I.mod.kin hT;have N0:X.base.Ns N (X.base.nsMap N):=.of_isNs (PySem.W.isNs_of_in I.mod.kin P);have Z:X.base.nsMap N "__init__" = none:=PySem.W.nsMap_none_of_in I.mod.kin P p;refine wpAny_Raise_call_subT (C:=C) (nm:=nm) (q:=Y) (N:=N) (bs:=bs) (bm:=bm) (hdct:=hd) (sn:=sn) (sub:=sub) (ab:=ab) (col:=col) (dd:=dd) (k0:=k0) (k1:=k1) (k2:=k2) (k3:=k3) (k5:=k5) FB (mN:=X.base.nsMap N) (Q.hasType FB.hasBase) (I.ok.hd hc) (by rw[O];rfl) Z (Mf I hg hm ⟨rfl,?_⟩ G);rw[O];refine Calls.evalArgs_plain ?_;refine Calls.spliced_cons (thG (hw h s M H (λv w=>Af H w/\Us X.K c (.exc x [] [])) I ⟨hs,T,E,(RQ.bind.mp q).mono (λ_ l y w A hy=>⟨A,l⟩) λz l=>Fo E l⟩) λu A v w k r1 j=>?_);obtain⟨U,l⟩:=j;refine Calls.spliced_nil ⟨rfl,show(1:Nat)<=sizeLine from by decide,k.RN _ _ hC,N0.keeps k.bk,Q.keeps k.bk,λh' a r=>?_⟩;have F:=wd4 (tk:=A.toks) k r;refine hp h M w A _ _ k ⟨a,_,rfl,F,_,.ref a,rfl,l (.ref a) _ ?_ (Rep.err0 L.ec Ah)⟩;exact λb o z=>by have:w b=some o:=U _ _ (E.same _ _ z);rw[Ad (Ay this (k.hok.none_of r.new))];exact this
end
end PD
namespace PySem
open Sem (wp)
abbrev R4(h:CP)(C:BK):FZ:={cls:=.ref C,data:=.fields #[.ref h.objs.size,.none,.none,.none,.bool false,.none] }
abbrev Dv(h:CP)(C:BK)(rest:List A_):CP:=(h.push {cls:=.type "tuple",data:=.seq rest.toArray}).push (R4 h C)
variable {Q:A_->BJ->Prop}
section
variable {P:BZ}{w:CV}{A:DK}{X:A_->BJ->Prop}{h:CP}{c:Array WT}{f:dW}{tk:Nat}{os:OsState}{C N fI:BK}{bm bmB rest:List A_}{B newId a:String}
 {nm q:BV} {bs:List A_} {hdct:Bool} {sn:List BV} {sub:List A_} {ab:Bool} {col:Option Bool} {dd:Option BK} {k0 k1 k2 k3 k5:Option A_}
def Yq(F:ZF B newId a bmB)(T:OwnTail h bmB bm){Q:Fin->BJ->Prop}(g:h.get? C=some (MP nm q C N bs bm hdct sn sub ab col dd k0 k1 k2 k3 k5 newId))(hi:PySem.W.Looks (BR P w) h (MF (.ref C) "__init__") (some (.ref fI)))
  (p:PySem.W.Looks (BR P w) h (VN (.ref fI)) (.type "function"))(e:rest.length<=sizeLine)
  (n:BL (BR P w) A (call (.ref fI) (.ref (h.objs.size+1)::rest)) (λr l=>r=.none/\Q (.done (.ret (.ref (h.objs.size+1)))) l) X ⟨Dv h C rest,c,f,tk,os⟩):BL (BR P w) A (GR.«type.__call__» ⟨.ref C::rest,[]⟩) Q X ⟨h,c,f,tk,os⟩:=by
 repeat (first |with_reducible refine wpAny_madeBy_exc g ?_ |with_reducible refine JN g ?_ |wp_step)
 refine codeAny_call_builtin_code (Code.quiet_builtin _ F.quiet) (wpAny_check_new_subT F T g (codeAny_exc_new_subT F T g ?_ e));show BL _ _ _ _ _ _;have up:∀{b:BK}{o:FZ},h.get? b=some o->(Dv h C rest).get? b=some o:=λz=>HF _ (HF _ z);have k:(Dv h C rest).get? (h.objs.size+1)=some (R4 h C):=by unfold Dv R4;heap_get
 have self:(Value.ref C::bm).contains (.ref C)=true:=by simp
 have i:=hi.keeps (h':=Dv h C rest) λ_ _ z=>up z;have j:=p.keeps (h':=Dv h C rest) λ_ _ z=>up z;unfold RD
 repeat (first |with_reducible refine JN k ?_ | (with_reducible refine aD (up g) ?_;rw[self]) |wp_step)
 show BL _ _ (MF (.ref C) _) _ _ _;refine i _ _ _ _ (λ_ _ z=>z) ?_;refine CT (BX ?_);unfold bindSpecial;refine BX (j _ _ _ _ (λ_ _ z=>z) ?_);rw[if_pos (by decide)];refine CW (BX (D_ n (λr l m=>?_) λ_ _ x=>x));obtain⟨rfl,z⟩:=m;wp_walk;exact z
theorem kd3(F:ZF B newId a bmB)(T:OwnTail h bmB bm)(e:h.get? C=some (MP nm q C N bs bm hdct sn sub ab col dd k0 k1 k2 k3 k5 newId))(hi:PySem.W.Looks (BR P w) h (MF (.ref C) "__init__") (some (.ref fI)))
  (j:PySem.W.Looks (BR P w) h (VN (.ref fI)) (.type "function"))(b:rest.length<=sizeLine)
  (i:BL (BR P w) (A.under (.builtin "type.__call__" ⟨.ref C::rest,[]⟩)) (call (.ref fI) (.ref (h.objs.size+1)::rest)) (λr g=>r=.none/\Q (.ref (h.objs.size+1)) g) X ⟨Dv h C rest,c,f,tk,os⟩):BL (BR P w) A (call (.ref C) rest) Q X ⟨h,c,f,tk,os⟩:=by
 have m:=tc_lookup;have l:=tc_bind (.ref C);have k:(⟨h,c,f,tk,os⟩:BJ).TypeIs (.ref C) "type":=⟨_,e,rfl⟩;refine JD (UJ ?_);show BL _ _ (callAny (.ref C) _) _ _ _
 repeat (any_goals (first |with_reducible refine JN e ?_ |assumption |wp_step))
 exact⟨rfl,codeAny_call_builtin_at (Code.quiet_builtin _ (by decide +kernel)) entry_typeCall (wpAny_check_type_call_sub e (Yq F T e hi j b i))⟩
def kc6(F:ZF B newId a bmB)(T:OwnTail h bmB bm){e i:BK}{od:Option BK}{j:Array (Option A_)}(m:h.get? C=some (MP nm q C N bs bm hdct sn sub ab col dd k0 k1 k2 k3 k5 newId))
  (g:h.get? e=some ⟨.ref C,od,.fields #[.ref i,.none,.none,.none,.bool false,.none],j⟩)(b:rest.length<=sizeLine)
  (k:Q .none ⟨(h.push {cls:=.type "tuple",data:=.seq rest.toArray}).update e (Obj.mapFields (·.setIfInBounds 0 (.ref h.objs.size))),c,f,tk,os⟩):
  BL (BR P w) A (call (.builtin a) (.ref e::rest)) Q X ⟨h,c,f,tk,os⟩:=by
 refine JD (KN F.init.plain F.initEntry (wpAny_check_init_subT F T m g rfl ?_));have l:=HF (h:=h) {cls:=.type "tuple",data:=.seq rest.toArray} g
 wp_walk
 exact k
end
open Sem (wp)
open Builtin Builtin.ObjectAttr
section
variable {prog:BZ}{w:CV}{A:DK}{E:A_->BJ->Prop}{s:BJ}{K:B_}{x C W:BK}{vs:Array A_}{sl:Array (Option A_)}{name:BV}{v:A_}{cd:ClassData}
theorem wl0{Q:Unit->BJ->Prop}(Y:K.In s.heap)(k:s.heap.get? x=some ⟨.ref C,none,.fields vs,sl⟩)(J:PySem.W.findIn K (.ref C) "__setattr__" = some (some (.builtin "object.__setattr__")))(B:PySem.W.clsIn K C=some cd)
  (q:cd.mro=.ref C::.ref W::PD.VE)(M:cd.hasDict=true)(ht:PySem.W.findIn K (.ref C) name=some none)
  (h:∀c l,(∀b o,b≠x->s.heap.get? b=some o->c.get? b=some o)->c.get? x=some ⟨.ref C,some s.heap.objs.size,.fields vs,sl⟩->c.Ns1 s.heap.objs.size (λy=>if y=name then some v else none)->Q () {s with heap:=c,toks:=l}):
  BL (BR prog w) A (setAttr (.ref x) name v) Q E s:=by
 have I:PySem.W.InstAt s.heap x ⟨.ref C,none,.fields vs,sl⟩ C none:=⟨k,rfl,rfl,True.intro⟩;refine PySem.W.set_plain Y I J ?_;have j:=PySem.F.store_object;have sub:PySem.W.Looks (BR prog w) s.heap (RD (.ref x) (.type "object")) true:=I.type.andThen (PySem.W.looks_mroIn Y (by unfold PySem.W.mroIn;rw[B,fD,if_neg (by rw[q];exact XR),q];rfl));refine KN j.slot.plain j.entry (@PySem.W.check_slot (BR prog w) _ _ {s with toks:=s.toks+1} "object.__setattr__" "object" "__setattr__" (.ref x) [.str name s.toks,v] [] _ j.kind j.split sub (j.args (.ref x) (.str name s.toks) v) ?_);have p:PySem.W.Looks (BR prog w) s.heap (mroOf (.ref C)) cd.mro:=(PySem.W.looks_clsIn Y B).andThen .now;rw[PySem.W.osa_eq,refuse_eq];refine BX (BX (I.type.here (s:={s with toks:=s.toks+1}) (BX (p.here (s:={s with toks:=s.toks+1}) ?_))));rw[q,jQ,jQ,PySem.F.store_ValueError.passes];refine CW (BX (I.type.here (s:={s with toks:=s.toks+1}) (BX ((PySem.W.looks_findIn Y ht).here (s:={s with toks:=s.toks+1}) (BX (CW ?_))))));show BL _ _ (storeInOwnDict (.ref x) (.ref C) (.str name s.toks) name v _) _ _ _;refine BX (CW (BX (BX (iY k (BX ((PySem.W.looks_clsIn Y B).here (s:={s with toks:=s.toks+1}) ?_))))));rw[M];have a:(s.heap.push {cls:=.type "dict",data:=.dict #[] }).get? x=some ⟨.ref C,none,.fields vs,sl⟩:=HF _ k;have f:x≠s.heap.objs.size:=JV (GQ k);refine BX (ZM (BX (wpAny_update a ?_)));refine CW ?_;have r:((s.heap.push {cls:=.type "dict",data:=.dict #[] }).update x λo=>{cls:=o.cls,dict:=some s.heap.objs.size,data:=o.data,slots:=o.slots}).get? s.heap.objs.size
   = some {cls:=.type "dict",data:=.dict #[] }:=(jGo _ _ _ _ f.symm).trans (Heap.get?_push_at rfl rfl)
 have n:((s.heap.push {cls:=.type "dict",data:=.dict #[] }).update x λo=>{cls:=o.cls,dict:=some s.heap.objs.size,data:=o.data,slots:=o.slots}).Ns s.heap.objs.size (λ_=>none):=
  ⟨_,#[],_,r,rfl,λe L=>absurd L (by simp),λ_=>rfl⟩
 show BL _ _ (storeInDict s.heap.objs.size (.str name s.toks) name v) _ _ _;unfold storeInDict newKeyGuard;refine BX (CW (BX (wpAny_nsSet1 (Heap.Ns1.of_empty n) λc i g=>?_)));refine bW (λU O P m u z=>?_) (i.count (Within.cons name v Within.nil));refine BX (wpAny_lookBehind m (by rw[u];exact pastItsLine_dict (QW z (by rw[RB,iD,CQ];omega))) ?_);refine CW (h c _ (λb T G H=>?_) ?_ i)
 ·exact(g.2 b (JV (GQ H))).trans ((jGo _ _ _ _ G).trans (HF _ H))
 ·exact(g.2 x f).trans (YC _ a rfl)
end
open Sem (wp)
variable {s:BJ}
section
variable {M:KR}{A:DK}{E:A_->BJ->Prop}{env:JT}
 {nm q:BV} {C N:BK} {bs bm:List A_} {hdct:Bool} {sn:List BV} {sub:List A_} {ab:Bool} {col:Option Bool} {dd:Option BK} {k0 k1 k2 k3 k5:Option A_} {newId:String}
def X4{x:Sem A_}{Q:Flow->BJ->Prop}(b:bm.contains (.type "BaseException")=true)(l:A.handled=none)
  (h:BL M A x (λv a=>∃e j t i,v=.ref e/\a.heap.get? C=some (MP nm q C N bs bm hdct sn sub ab col dd k0 k1 k2 k3 k5 newId) /\
   a.heap.get? e=some ⟨.ref C,j,.fields #[.ref t,.none,.none,.none,.bool false,.none],i⟩/\E (.ref e) a) E s):
  BL M A (raiseStmt env (some x) none) Q E s:=by
 have f:(Value.ref C::bm).contains (.type "BaseException")=true:=by rw[List.contains_cons,b,Bool.or_true]
 unfold raiseStmt;refine BX (D_ h (λv a c=>?_) λ_ _ x=>x);obtain⟨e,j,t,i,rfl,k,m,n⟩:=c;obtain⟨r,g,d,o,p⟩:=a
 repeat (first |with_reducible refine JN m ?_ |with_reducible refine JN k ?_ | (with_reducible refine aD k ?_;rw[f]) |wp_step)
 exact wpAny_raiseNew_none l n
def jr0{x:CN}{pos:JG}{Q:Flow->BJ->Prop}(c:bm.contains (.type "BaseException")=true)(g:A.handled=none)
  (h:BL M A (CZ x env) (λv a=>∃e j t i,v=.ref e/\a.heap.get? C=some (MP nm q C N bs bm hdct sn sub ab col dd k0 k1 k2 k3 k5 newId) /\
   a.heap.get? e=some ⟨.ref C,j,.fields #[.ref t,.none,.none,.none,.bool false,.none],i⟩/\E (.ref e) a) E s):
  BL M A (exec (.Raise (some x) none pos) env) Q E s:=by
 rw[arm_exec_Raise]
 first
  |exact BX (HH (X4 (C:=C) (nm:=nm) (q:=q) (N:=N) (bs:=bs) (bm:=bm) (hdct:=hdct) (sn:=sn) (sub:=sub) (ab:=ab) (col:=col) (dd:=dd) (k0:=k0) (k1:=k1) (k2:=k2) (k3:=k3) (k5:=k5) (newId:=newId) c g (BX (D_ h (λv f b=>BX (HH (CW b))) λ_ _ x=>x))))
  | (simp only[evalOpt,Option.map];exact BX (HH (X4 (C:=C) (nm:=nm) (q:=q) (N:=N) (bs:=bs) (bm:=bm) (hdct:=hdct) (sn:=sn) (sub:=sub) (ab:=ab) (col:=col) (dd:=dd) (k0:=k0) (k1:=k1) (k2:=k2) (k3:=k3) (k5:=k5) (newId:=newId) c g (BX (D_ h (λv f b=>BX (HH (CW b))) λ_ _ x=>x)))))
end
end PySem
namespace PD
open PySem PySem.Spec PyProof.Rows L2
def Jj(C a:BK)(od:Option BK):CP->Prop:=λh=>∃t b,h.get? a=some ⟨.ref C,od,.fields #[.ref t,.none,.none,.none,.bool false,.none],b⟩
variable {a:BK}{od:Option BK}
def Wz{C:BK}:∀c b:CP,Jj C a od c->(∀o,c.get? a=some o->b.get? a=some o)->Jj C a od b:=λ_ _ ⟨f,g,e⟩ k=>⟨f,g,k _ e⟩
structure ER1(K:B_)(c:BV)(C W fI:BK)(fld:BV):Prop where
 ec:EC K c C W
 cl:Tj K C=true
 init:PySem.W.findIn K (.ref C) "__init__" = some (some (.ref fI))
 fn:PySem.W.typeIn K (.ref fI)=some (.type "function")
 seta:PySem.W.findIn K (.ref C) "__setattr__" = some (some (.builtin "object.__setattr__"))
 nf:PySem.W.findIn K (.ref C) fld=some none
 rd:PySem.W.readsIn K W (.type "type")=true
 wi:PySem.W.findCls K (.ref W) (.type "type") "__init__" = some (.val (.builtin "ValueError.__init__"))
 sp:PySem.W.specialIn K (.ref W) "__getattribute__" = some (some (.builtin "type.__getattribute__"))
 kp:PySem.W.keepIn K (.ref C)=true
def spI(C:BK)(fld:BV):Sp:=λc H Q _=>∃e x v,c=[.ref e,.str x,v]/\H e=some (.ext (Jj C e none))/\∀b,H b=none->Q .non (upd (upd H b (.xd [(fld,v)])) e (.ext (Jj C e (some b))))
variable {H:Hp}
theorem wz8{o:HO}(h:H a=some o):upd H a o=H:=by
 funext b;unfold upd;split
 ·rename_i z;rw[z,h]
 ·rfl
def jh8{M:KR}{A:DK}{E:A_->BJ->Prop}{s:BJ}{env:JT}{pos:JG}{i:String}{first:List A_}{Q:A_->BJ->Prop}{e:CN}{rest:List CN}(h:BL M A (spliced (HQ pos (BP (e::rest) env))) (λf c=>True/\BL M A (call (.builtin i) (first++f)) Q E c) E s)
  (g:Zs env e rest)(b:Zp env pos rest):
  BL M A (aB pos (.builtin i) first (HQ pos (BP (e::rest) env)) []) Q E s:=by
 rw[g]at h ⊢;exact W.callWith_of (P:=λ_=>True) (by show((false || (HQ pos (BP rest env)).any (·.1)) ||false)=false;rw[b];rfl) (λ_ _=>⟨.machine,.inr (.inl rfl),.of_pure rfl⟩) (Calls.evalArgs_plain h)
variable {C W fI:BK}{X:Cx}{fld x:BV}
variable {J u m k:JG}
def ku8{p1:JG}{pl:Sem Bool}(w:ER1 X.K x C W fI fld)(hm:X.mg "WebError" = some (.ref W))(h0:X.N[0]? = some ("self" : BV))(h1:X.N[1]? = some ("words" : BV))(U:Vis X.env.scope "self")(v1:Vis X.env.scope "words")(hg:Gl X "WebError")
  (l:BP [.Name "self" u,.Name "words" m] X.env=(false,CZ (.Name "self" u) X.env)::BP [.Name "words" m] X.env:=by rfl)(j:BP [.Name "words" m] X.env=(false,CZ (.Name "words" m) X.env)::BP [] X.env:=by rfl)(B:Zp X.env k [.Name "words" m]:=by rfl)
  (ht:CZ (.Call (.Attribute (.Name "WebError" p1) "__init__" J) [.Name "self" u,.Name "words" m] [] k) X.env=(do
   let O <-CZ (.Name "WebError" p1) X.env
   UT J.atName
   let (f,first) <-PQ [O] (fQ O "__init__" pl)
   aB k f first (HQ k (BP [.Name "self" u,.Name "words" m] X.env)) (KQ k (G_ [] X.env))):=by rfl):
  PE X (.Call (.Attribute (.Name "WebError" p1) "__init__" J) [.Name "self" u,.Name "words" m] [] k) (λp H Q=>∃e y,p[0]? = some (some (.ref e))/\p[1]? = some (some (.str y))/\H e=some (.ext (Jj C e none))/\Q .non H):=by
 intro i s p H Q I q;obtain⟨e,y,s0,s1,L,q⟩:=q;obtain⟨N,bm,⟨nm,qq,bs,hd,sn,sub,ab,col,dd,k0,k1,k2,k3,k5,hC⟩,hT,hN,cd,af,ae⟩:=pQ w.cl;refine PySem.W.methodCall_KW (pl:=pl) (Mf I hg hm ?_) ht;refine PySem.W.method_cls I.RN w.sp (PySem.W.cls_value I.RN w.rd w.wi rfl ?_);refine jh8 (first:=[]) (thn (Df (Xw h0 U) (Df (Xw h1 v1) Ho j) l k i _ p H (λM H1=>M=[.ref e,.str y]/\H1=H) (I.tok _) ⟨_,s0,_,s1,rfl,rfl⟩) λY s2 ⟨M,H2,n,r,ev,eH⟩=>⟨True.intro,?_⟩) l B;subst ev;subst eH;obtain⟨v,u1,rfl,ru⟩:∃v u1,Y=[v,u1]/\RelV (.ref e) v:=by
  cases r with
  |cons a b =>
   cases b with
   |cons c d=>cases d;exact⟨_,_,rfl,a⟩
 obtain rfl:v=Value.ref e:=ru;obtain⟨⟨t0,Z,P⟩,_,_⟩:=n.hok e _ L;obtain⟨g,g2,d2,A,aa⟩:=s2;have FB:=PySem.F.excBase_ValueError;refine kc6 (rest:=[u1]) FB ((PySem.W.tail_of_in (bmB:=VE) n.mod.kin hT).keeps n.bk) (n.RN _ _ hC) P (show(1:Nat)<=sizeLine from by decide) ?_;have E:=HF (h:=g) {cls:=.type "tuple",data:=.seq [u1].toArray} P;have G:((g.push {cls:=.type "tuple",data:=.seq [u1].toArray}).update e (Obj.mapFields (·.setIfInBounds 0 (.ref g.objs.size)))).get? e=some ⟨.ref C,none,.fields #[.ref g.objs.size,.none,.none,.none,.bool false,.none],Z⟩:=YC _ E rfl;have T:=n.write (x:=e) (e:=e) (o:=.ext (Jj C e none)) (t':=A) (h':=(g.push {cls:=.type "tuple",data:=.seq [u1].toArray}).update e (Obj.mapFields (·.setIfInBounds 0 (.ref g.objs.size)))) (by rw[L];exact True.intro) (.inl rfl)
  (λb o hb z=>(ZJ _ _ (Ne.symm hb)).trans (HF _ z)) ⟨_,G⟩ ⟨⟨_,_,G⟩,⟨_,G⟩,Wz⟩
 rw[wz8 L]at T;exact⟨.non,H2,T,rfl,q⟩
variable {p G B r:JG}
def kv3(U:ER1 X.K x C W fI fld)(h0:X.N[0]? = some ("self" : BV))(h2:X.N[2]? = some fld)(v0:Vis X.env.scope "self")(v2:Vis X.env.scope fld)(P:Zd fld)(Q:(fld == ("__classdict__" : BV))=false)
  (hs:FJ (.Name fld B) (some (.Attribute (.Name "self" p) fld G)) r.line X.env=pure false):
  PS X (.Assign [.Attribute (.Name "self" p) fld G] (.Name fld B) r) (λD h H=>∃e v,h[0]? = some (some (.ref e))/\h[2]? = some (some v)/\H e=some (.ext (Jj C e none))/\∀Z,H Z=none->D.nx h (upd (upd H Z (.xd [(fld,v)])) e (.ext (Jj C e (some Z))))):=by
 intro g s h H D I q;revert q;refine Vp λe v w0 w2 he q=>?_;refine plainObj_wpAny_Assign_Attribute (thn (Xw h2 v2 P Q g s h H (λA w=>A=v/\w=H) I ⟨v,w2,rfl,rfl⟩) λu s1 ⟨y,w,I1,ry,Y,e2⟩=>thn (Xw h0 v0 (by decide) (by decide) g s1 h w (λA H2=>A=.ref e/\H2=w) I1 ⟨_,w0,rfl,rfl⟩) λov c ⟨z,H2,n,rz,e3,e4⟩=>?_) hs;subst Y;subst e2;subst e3;subst e4;obtain rfl:ov=Value.ref e:=rz;refine bY (λM _ _=>?_) (n.hok e _ he);revert M;refine nC λt0 sl ho=>?_;refine Yw (λcd c1 c2 c3 c4=>?_) (U.ec.cls);refine wl0 (W:=W) n.RN ho U.seta c1 c4 c3 U.nf λh' E k1 L k3=>?_;have j:H2 c.heap.objs.size=none:=n.hok.fresh (FW _);have O:e≠c.heap.objs.size:=JV (GQ ho);refine cX (λi es ep g1 g2=>?_) (id k3);have F:i.isFreed=false:=(Heap.get?_some_iff.mp g1).2;have gD:(c.heap.push i).get? c.heap.objs.size=some i:=L_ _ F;have I3:=n.laid (a:=c.heap.objs.size) (o:=.xd [(fld,y)]) (t':=c.toks) (h':=c.heap.push i) (λb w' z=>HF _ z) (FW _) ⟨_,⟨i,es,ep,gD,g2⟩,λf=>by
  by_cases j:f=fld
  ·subst j;simp only[if_pos,List.lookup,beq_self_eq_true];exact ry
  ·have T:(f == fld)=false:=beq_eq_false_iff_ne.mpr j;simp only[List.lookup,T,if_neg j];exact True.intro⟩
 have I4:=I3.write (x:=e) (e:=e) (o:=.ext (Jj C e (some c.heap.objs.size))) (t':=E) (h':=h') (by rw[Ad O,he];exact True.intro) (.inl rfl) (λb o T z=>?_) ⟨_,L⟩ ⟨⟨_,_,L⟩,⟨_,L⟩,Wz⟩
 ·exact⟨h,_,I4,q _ j⟩
 ·by_cases l:b=c.heap.objs.size
  ·subst l;have z':(c.heap.push i).get? c.heap.objs.size=some o:=z;rw[gD]at z';cases z';exact g1
  ·rcases Heap.get?_push_cases (show(c.heap.push i).get? b=some o from z) with ⟨Y,_⟩ |w'
   ·exact absurd Y l
   ·exact k1 b o T w'
section
variable {P:BZ}{w:CV}{K:B_}{mg:BV->Option A_}{base:CP}
def we4{qual name:BV}{f:BK}{params:QZ}{b:HR}{dV kV g T c ct oc:A_}{an:Option BK}{l:Array (Option A_)}{p1 i:JG}
  (lk:K.lookup f=some ⟨oc,od,.func (PySem.W.fnOf name qual params [.Expr (.Call (.Attribute (.Name "WebError" p1) "__init__" J) [.Name "self" u,.Name "words" m] [] k) i,.Assign [.Attribute (.Name "self" p) fld G] (.Name fld B) r] b dV kV g T an c ct),l⟩)
  (M:PySem.W.codeIn K c qual=true)(S:Ez ["self","words",fld] ["self","words",fld] b)(Z:ER1 K x C W f fld)(hm:mg "WebError" = some (.ref W))(F:Zd fld)(I:(fld == ("__classdict__" : BV))=false)
  (O:Vis b "self")(v1:Vis b "words")(v2:Vis b fld)(hg:b.names.lookup ("WebError" : BV)=some .globalImplicit){pl:JT->Sem Bool}
  (ht:∀env:JT,CZ (.Call (.Attribute (.Name "WebError" p1) "__init__" J) [.Name "self" u,.Name "words" m] [] k) env=(do
   let U <-CZ (.Name "WebError" p1) env
   UT J.atName
   let (f,first) <-PQ [U] (fQ U "__init__" (pl env))
   aB k f first (HQ k (BP [.Name "self" u,.Name "words" m] env)) (KQ k (G_ [] env))))
  (z:∀env:JT,FJ (.Name fld B) (some (.Attribute (.Name "self" p) fld G)) r.line env=pure false)(o:∀env:JT,FJ (.Call (.Attribute (.Name "WebError" p1) "__init__" J) [.Name "self" u,.Name "words" m] [] k) none i.line env=pure false):
  Hh P w K mg base CX0 1 f (PySem.W.fnOf name qual params [.Expr (.Call (.Attribute (.Name "WebError" p1) "__init__" J) [.Name "self" u,.Name "words" m] [] k) i,.Assign [.Attribute (.Name "self" p) fld G] (.Name fld B) r] b dV kV g T an c ct) ["self","words",fld] (spI C fld):=by
 refine j8 lk M S (λvs H Q E h=>?_) λA j s H vs Q E hr h=>?_
 ·obtain⟨_,_,_,rfl,_⟩:=h;rfl
 ·revert h;refine bW λe y v n Y q=>?_;obtain rfl:=n;refine⟨_,x_ (V1 (ku8 Z hm rfl rfl O v1 hg (ht:=ht _)) (o _)) (vV (kv3 Z rfl rfl O v2 F I (z _))),e,y,rfl,rfl,Y,e,v,rfl,rfl,Y,λdx L=>q dx L⟩
end
def Vu:D->Bool
 | .non=>true
 | .int _=>true
 |_=>false
def jC(nm fld:BV)(g:Ev->R Unit)(f:Ev->R D):Ev->R Fl:=λb=>(g b).bind λ_=>(f b).bind λd=>if Vu d=true then .exc (.exc nm [.str fld] [d]) else .bad
variable {v:V}
def pF{K:B_}{H':Hp}{S S':AS}{d:D}(h:Vu d=true)(r:Rep K H S d v):Rep K H' S' d v:=by
 cases d with
 |non=>exact r
 |int i=>exact r
 |_=>cases h
def Rep.err1{K:B_}{S:AS}{nm:BV}{b:BK}{d:D}(f:EC K nm C W)(c:PySem.W.findIn K (.ref C) fld=some none)(h:H a=some (.ext (Fz C a (some b))))(e:H b=some (.xd [(fld,v)]))(r:Rep K H S d v):
  Rep K H S (.exc nm [.str fld] [d]) (.ref a):=⟨a,[v],rfl,.inr ⟨C,W,f,.inr ⟨fld,v,b,rfl,rfl,c,h,e⟩⟩,v,[],rfl,r,rfl⟩
section
variable {c:DC}{l:Lv}{e h:CN}{j cpos i:JG}{fd:DQ}{g:Ev->R Unit}{f:Ev->R D}{n:Nat}
def kv7(hp:V6 X c)(hc:X.calm=true)(hr:El 2 X.A)(hm:X.mg x=some (.ref C))(er:ER1 X.K x C W fI fld)(F:Hh X.prog X.w X.K X.mg X.base CX0 1 fI fd ["self","words",fld] (spI C fld))(hb:Binds X.K fd ["self","words",fld] [])
  (hw:PXw X c n e g)(hv:PEd X c l h f)(hg:Gl X x:=by rfl)(ax:Zd x:=by decide)
  (he:BP [e,h] X.env=(false,CZ e X.env)::BP [h] X.env:=by rfl)(aw:BP [h] X.env=(false,CZ h X.env)::BP [] X.env:=by rfl)(au:Zp X.env cpos [h]:=by rfl):
  PSd X c (.Raise (some (.Call (.Name x j) [e,h] [] cpos)) none i) (jC x fld g f):=λaa s σ H D I q=>by
 refine nn0 λhG=>?_;obtain⟨hs,ρ,E,q⟩:=q;obtain⟨N,bm,⟨nm,qq,bs,hd,sn,sub,ab,col,dd,k0,k1,k2,k3,k5,hC⟩,hT,hN,cd,ba,az⟩:=pQ er.cl;have FB:=PySem.F.excBase_ValueError;have T0:=PySem.W.tail_of_in (bmB:=VE) I.mod.kin hT;refine hG (jr0 (C:=C) (nm:=nm) (q:=qq) (N:=N) (bs:=bs) (bm:=bm) (hdct:=hd) (sn:=sn) (sub:=sub) (ab:=ab) (col:=col) (dd:=dd) (k0:=k0) (k1:=k1) (k2:=k2) (k3:=k3) (k5:=k5) (newId:="ValueError.__new__") (T0.hasType FB.hasBase) (I.ok.hd hc) ?_);clear hG;refine HB (Mf I hg hm ?_ ax);let QA:List V->Hp->Prop:=λvs H2=>∃y v d,vs=[.str y,v]/\Vu d=true/\Rep X.K H2 c.S d v/\Af H H2/\Us X.K c (.exc x [.str fld] [d]);refine PySem.W.callWith_K (first:=[]) (h₀:=X.base) I.ok.mod.kin er.kp (thn (Df hw (Df hv Ho aw) he cpos aa s σ H QA I ?_) λY s1 hh=>?_) he au
 ·refine⟨hs,ρ,E,(RQ.bind.mp q).mono (λ_ p y Z s1 hy=>?_) λz p=>Fo E p⟩;refine Ba (E.mono s1) ((RQ.bind.mp p).mono (λd G v H2 s2 E2 r2=>?_) λz G v H' s2 r2=>G v H' (E.same.trans (s1.trans s2)) (r2.mono (Af.refl _) λ_ z=>z));have B:RQ (if Vu d=true then R.exc (.exc x [.str fld] [d]) else .bad) _ _:=G;by_cases O:Vu d=true
  ·rw[if_pos O]at B;exact⟨y,v,d,rfl,O,pF O r2,s1.trans s2,B⟩
  ·rw[if_neg O]at B;exact B.elim
 ·refine nn0 λhG=>?_;obtain⟨vs,Z,I1,r,y,v,d,ev,O,rv,sm,p⟩:=hh;refine hG ⟨I1.RN,?_⟩;clear hG;subst ev;obtain⟨L,g1,d1,af,ah⟩:=s1;have ae:Y.length=2:=by rw[<-r.length];rfl
  have ak:Z (L.objs.size+1)=none:=I1.hok.fresh (ZV _);have gm:(Dv L C Y).get? (L.objs.size+1)=some (R4 L C):=by unfold Dv R4;heap_get
  have up:∀b o,L.get? b=some o->(Dv L C Y).get? b=some o:=λb o z=>HF _ (HF _ z);have I2:=I1.laid (a:=L.objs.size+1) (o:=.ext (Jj C (L.objs.size+1) none)) (t':=af) (h':=Dv L C Y) up (ZV _) ⟨⟨_,_,gm⟩,⟨_,gm⟩,Wz⟩;refine kd3 FB (T0.keeps I1.bk) (I1.RN _ _ hC) (PySem.W.looks_findIn I1.RN er.init) (PySem.W.looks_typeIn I1.RN er.fn) (by rw[zZ,ae];decide) ?_;let Q':VK:=λv' H2=>v'=.non/\∃U,upd Z (L.objs.size+1) (.ext (Jj C (L.objs.size+1) none)) U=none /\
   H2=upd (upd (upd Z (L.objs.size+1) (.ext (Jj C (L.objs.size+1) none))) U (.xd [(fld,v)])) (L.objs.size+1) (.ext (Jj C (L.objs.size+1) (some U)))
  have hq:spI C fld [.ref (L.objs.size+1),.str y,v] (upd Z (L.objs.size+1) (.ext (Jj C (L.objs.size+1) none))) Q' E0:=⟨_,y,v,rfl,Ah,λU Q=>⟨rfl,U,Q,rfl⟩⟩;have r2:Vals [.ref (L.objs.size+1),.str y,v] (Value.ref (L.objs.size+1)::Y):=.cons rfl r;refine JD (HD (F.run _ X.stack _ _ ⟨Value.ref (L.objs.size+1)::Y,[]⟩ (Value.ref (L.objs.size+1)::Y) _ _ E0 (hr.make C Y []) (I2.env0.make C Y []) (by
   have:=hb ⟨Dv L C Y,g1,d1,af,ah⟩ (Value.ref (L.objs.size+1)::Y) I2.RN (by rw[WW,RB,ae];rfl);rw[WW]at this;exact this) r2 hq) λrr s' P=>?_)
  cases rr with
  |error e=>exact P.elim
  |ok fl =>
   cases fl with
   |next=>exact P.elim
   |brk=>exact P.elim
   |cont=>exact P.elim
   |ret u =>
    have ai:X.K.In s'.heap:=let ⟨_,_,I3,_⟩:=I2.after P;I3.RN;refine nn0 λhG=>?_;obtain⟨v',H',os,bare,un,aj,ar,rfl,U,Q,eH⟩:=P;refine hG ⟨ar,?_⟩;clear hG;have ag:U≠L.objs.size+1:=λz=>by rw[z,Ah]at Q;cases Q
    have ay:Z U=none:=by rw[Ad ag]at Q;exact Q
    have aq:H' (L.objs.size+1)=some (.ext (Jj C (L.objs.size+1) (some U))):=by rw[eH,Ah]
    obtain⟨⟨t0,sl,ho⟩,_,_⟩:=aj _ _ aq;have M:Un (frs X.stack) [] Z H' L s'.heap:=(Un.laid up (ZV _) ak).trans un;have nb:∀b o,L.get? b=some o->b≠L.objs.size+1:=λb o z e=>absurd (GQ z) (by rw[e];exact pY.mpr (ZV _));have nh:∀b o,H' b=some o->(∀φ,o≠.ext φ)->b≠L.objs.size+1:=λb o z ne e=>by rw[e,aq]at z;exact ne _ (Option.some.inj z).symm
    have FL:aR X.prog X.w X.stack Z ⟨L,g1,d1,af,ah⟩ (L.objs.size+1) (upd H' (L.objs.size+1) (.ext (Fz C (L.objs.size+1) (some U)))) s':=by
     refine⟨os,bare,⟨M.keep,M.slot,λb o z n1 n2=>by rw[Ad (nb b o z)];exact M.free b o z n1 n2,M.there,λb xs z=>?_,λb o u z=>?_,λb ps z=>?_⟩,λb o z=>?_,jGi (ZV _),C,some U,_,sl,Ah,ho,.inl rfl,λT z=>by cases z⟩
     ·have:=M.tups b xs z;rw[Ad (nh b _ this λ_ e=>by cases e)];exact this
     ·have:=M.frzs b o u z;rw[Ad (nh b _ this λ_ e=>by cases e)];exact this
     ·obtain⟨m,e1⟩:=M.tbls b ps z;exact⟨m,by rw[Ad (nh b _ e1 λ_ e=>by cases e)];exact e1⟩
     ·by_cases ao:b=L.objs.size+1
      ·subst ao;rw[Ah]at z;cases z;exact⟨⟨_,_,ho⟩,⟨_,ho⟩,yR⟩
      ·rw[Ad ao]at z;exact(aj b o z).stay (λ_ _ _ y=>y) (λc y=>by rw[Ad (nh c _ y λ_ e=>by cases e)];exact y) (λc xs y=>by rw[Ad (nh c _ y λ_ e=>by cases e)];exact y) λc o z y=>by rw[Ad (nh c _ y λ_ e=>by cases e)];exact y
    refine⟨_,_,t0,sl,rfl,ai _ _ hC,ho,hp aa σ Z _ _ _ I1 ⟨_,_,rfl,FL,_,.ref (L.objs.size+1),rfl,p _ _ (λb o z=>?_) (Rep.err1 er.ec er.nf Ah ?_ (pF O rv))⟩⟩
    ·have z1:Z b=some o:=sm _ _ (E.same _ _ z);have n1:b≠L.objs.size+1:=Ay z1 ak;have n2:b≠U:=Ay z1 ay;rw[Ad n1,eH,Ad n1,Ad n2,Ad n1];exact z1
    ·rw[Ad ag,eH,Ad ag,Ah]
end
end PD
namespace L2
open PySem PySem.Spec PyProof.Rows
section
variable {X:Cx}{pins:List (BK×FZ)}{σ:St}{H H':Hp}{s s':BJ}
abbrev Cx.mrk(X:Cx)(a:A_):Cx:={X with A:=X.A.mark (some a),calm:=false,xe:=λ_ _=>False}
def Inv.mrk(I:Inv X pins σ H s)(a:A_):Inv (X.mrk a) pins σ H s:=
 ⟨⟨I.ok.mod,I.ok.kind,I.ok.glob,I.ok.blt,I.ok.above,I.ok.inj,I.ok.has,I.ok.cab,(λz=>Bool.noConfusion z),I.ok.frames,I.ok.stk,I.ok.exf,I.ok.bs,I.ok.bsz,I.ok.noex,I.ok.exfs,I.ok.funs,I.ok.frf⟩,I.os,I.bare,I.base,I.loc,I.cell,I.free,I.freeC,I.pin,I.hok,I.len⟩
def Inv.unmrk{a:A_}(ok:X.Ok)(I:Inv (X.mrk a) pins σ H s):Inv X pins σ H s:=⟨ok,I.os,I.bare,I.base,I.loc,I.cell,I.free,I.freeC,I.pin,I.hok,I.len⟩
def wH{M:KR}{A:DK}{E:A_->BJ->Prop}{i:Nat}{n:BV}{pos:JG}{Q:Unit->BJ->Prop}(I:Inv X pins σ H s)(hN:X.N.Nodup)(hi:X.N[i]? = some n)(hk:X.env.scope.names.lookup n=some .local)
  (h:∀s',Inv X pins (σ.set i none) H s'->Q () s'):BL M A (do bindName X.env n .none;unbindBehindTheSuite X.env n pos) Q E s:=by
 refine Am (λm G hl=>?_) (id I.loc);have r:(X.env.scope.kind == .class || (X.env.scope.kind == .module && X.env.locals != X.env.globals))=false:=by rw[I.ok.kind];rfl
 have l:i<σ.length:=by rw[I.len];exact(QK.mp hi).1
 have cne:=I.cne;refine wpAny_nameGoes_keeps hk G r λh' v x a=>?_;refine cX (λoL _ _ Z _=>?_) (id G);refine h _ ⟨I.ok,I.os,I.bare,⟨λb o e n C g=>?_,λb o e n C g=>?_,I.base.free,λb o e g=>?_,I.base.tups,I.base.frzs,I.base.tbls⟩,⟨_,x,λj y J f w e3=>?_⟩,λy c e=>?_,I.free,I.freeC,λp Y=>?_,λb P e=>?_,by simpa using I.len⟩
 ·exact(a.2 b (JV (QF (GQ e) I.ok.above))).trans (I.base.keep b o e n C g)
 ·have⟨L,f⟩:=I.base.slot b o e n C g;exact⟨L,(a.2 b (JV (QF (GQ e) I.ok.above))).trans f⟩
 ·have⟨T,f⟩:=I.base.there b o e g;exact⟨T,(a.2 b (JV (QF (GQ e) I.ok.above))).trans f⟩
 ·by_cases B:j=i
  ·subst B;rw[Z1 l]at w;cases w
  ·rw[QJ (Ne.symm B)]at w;refine Am (λK O q=>?_) (hl j y J f w e3);refine⟨K,O,?_⟩;rcases q with ⟨k,e⟩ | ⟨k,c,e,z⟩
   ·refine .inl ⟨k,?_⟩;have:y≠n:=λe=>B (Xu hN f (e ▸ hi));simp[this,e]
   ·exact .inr ⟨k,c,e,z.sameBut a (cne y c e)⟩
 ·have⟨F,z⟩:=I.cell y c e;exact⟨F,z.sameBut a (cne y c e)⟩
 ·refine yk5 (λe n ne U d=>?_) (I.pin p Y);exact⟨(a.2 p.1 ne).trans e,n,ne,U,d⟩
 ·refine(I.hok b P e).stay (λc F u q=>(a.2 c ?_).trans q) (λ_ q=>q) λ_ _ q=>q;rintro rfl;rcases u with rfl |u
  ·rw[I.free]at e;cases e
  ·rw[I.free]at u;cases u
def aR.land{P:BZ}{w:CV}{outer:List JT}{a C:BK}{od:Option BK}{vs:Array A_}{i:Array (Option A_)}{h':CP}(F:aR P w outer H s a H' s')(l:H' a=some (.ext (PD.Fz C a od)))(j:∀T,vs[1]? = some (.ref T)->s.heap.get? T=none/\H' T=none)
  (k1:∀b o,vs[1]? ≠ some (.ref b)->s'.heap.get? b=some o->h'.get? b=some o)(k3:h'.get? a=some ⟨.ref C,od,.fields vs,i⟩):Un (frs outer) [] H H' s.heap h'/\HOk P w H' h':=by
 have g:∀b o,s.heap.get? b=some o->vs[1]? ≠ some (.ref b):=λb o q z=>by rw[(j b z).1]at q;cases q
 refine⟨⟨λb o q n f h=>k1 b o (g b o q) (F.un.keep b o q n f h),λb o q n f h=>?_,F.un.free,λb o q h=>?_,F.un.tups,F.un.frzs,F.un.tbls⟩,λc u q=>?_⟩
 ·have⟨i,e⟩:=F.un.slot b o q n f h;exact⟨i,k1 b _ (g b o q) e⟩
 ·have⟨k,e⟩:=F.un.there b o q h;exact⟨k,k1 b _ (g b o q) e⟩
 ·refine(F.hok c u q).stay (λb o f e=>k1 b o (λz=>?_) e) (λ_ z=>z) λ_ _ z=>z;rcases f with rfl |f
  ·rw[(j b z).2]at q;cases q
  ·rw[(j b z).2]at f;cases f
end
end L2
namespace PD
open PySem PySem.Spec PyProof.Rows L2
def TB(X:Cx)(c:DC)(st:DR)(g:Ev->R Ev):Prop:=∀(b:List (BK×FZ))(s:BJ)(j:St)(H:Hp)(n:List Hd)(ρ:Ev)(l:A_->BJ->Prop)(Q:Flow->BJ->Prop),Inv X b j H s->Az X.K c n ρ j H ->
 RQ (g ρ) (λk=>∀h f e,Inv X b f e h->Az X.K c n k f e->Q .next h)
  (λd=>∀a m i h e,Inv X b j i m->Af H i->aR X.prog X.w X.stack i m a e h->Af i e->Rep X.K e c.S d (.ref a)->l (.ref a) h) ->
 BL (BR X.prog X.w) X.A (exec st X.env) Q l s
def tbG(fs:Ev->R (List D))(m:List D->R D):Ev->R Ev:=λa=>(fs a).nox.bind λb=>(m b).bind λ_=>.ok a
def unS(i:Nat):R Fl->R Fl
 | .ok (.nx a)=>.ok (.nx (a.set i none))
 | .ok (.rt d)=>.ok (.rt d)
 |_=>.bad
def aL:D->Bool
 | .exc c _ a=>decide (c ≠ "dict") && decide (c ≠ "dictK") && N8 a
 |_=>false
def d9(g:Ev->R Ev)(i:Nat)(c:Ev->R Fl):Ev->R Fl:=λb=>match g b with
 | .ok a=>.ok (.nx a)
 | .exc d=>if aL d=true then unS i (c (b.set i (some d))) else .bad
 | .bad=>.bad
def EC.web{K:B_}{c:BV}{C W:BK}(e:EC K c C W)(ht:PySem.W.typeIn K (.ref W)=some (.type "type")):PySem.W.exmOne K (.ref C) (.ref W)=some true:=by
 refine Yw (λk h m l f=>?_) (e.cls);refine Gk (λi b j a=>?_) (e.wcl);unfold PySem.W.exmOne;have g:PySem.W.subIn K (.ref W) (.type "BaseException")=some true:=by show PySem.W.mroIn K W _=_;unfold PySem.W.mroIn;rw[b,fD,if_neg (by rw[a];exact XR),a];rfl
 rw[g,if_pos (by simp)];show(if((PySem.W.clsIn K W).isSome && PySem.W.typeIn K (.ref W) == some (.type "type"))=true then PySem.W.subIn K (.ref C) (.ref W) else none)=_;rw[b,ht,if_pos (by simp)];show PySem.W.mroIn K C _=_;unfold PySem.W.mroIn;rw[h,fD,if_neg (by rw[f];exact XR),f];simp
variable {K:B_}{H:Hp}
def Az.unset{c:DC}{hs:List Hd}{ρ:Ev}{σ:St}{i:Nat}(E:Az K c hs ρ σ H)(hi:i∉c.O):Az K c hs (ρ.set i none) (σ.set i none) H where
 same:=E.same
 len:=by rw[lU,lU];exact E.len
 own:=λj d hj hd=>by have hji:j≠i:=λz=>hi (z ▸ hj);rw[QJ (Ne.symm hji)]at hd;refine Gk (λa e2 e4 e5=>?_) (E.own j d hj hd);refine⟨a,by rw[QJ (Ne.symm hji)];exact e2,e4,?_⟩;rw[V5 hi];exact e5
 apart:=λj k a hj hk lj lk e1 e2=>by have hji:j≠i:=λz=>hi (z ▸ hj);have hki:k≠i:=λz=>hi (z ▸ hk);rw[QJ (Ne.symm hji)]at e1;rw[QJ (Ne.symm hki)]at e2;exact E.apart j k a hj hk ((By hji).mp lj) ((By hki).mp lk) e1 e2
 oth:=λj d hj hd=>by
  by_cases hji:j=i
  ·subst hji;by_cases hl:j<ρ.length
   ·rw[Z1 hl]at hd;cases hd
   ·rw[List.set_eq_of_length_le (pY.mp hl),aX (pY.mp hl)]at hd;cases hd
  ·rw[QJ (Ne.symm hji)]at hd;refine Am (λv e1 e2=>?_) (E.oth j d hj hd);refine⟨v,by rw[QJ (Ne.symm hji)];exact e1,?_⟩;rw[V5 hi];exact e2
 held:=λP hp=>by have⟨a,b⟩:=E.held P hp;refine⟨a,?_⟩;rw[V5 hi];exact b
 excl:=E.excl
section
variable {X:Cx}{c:DC}{st j:DR}{h:List DR}{g:Ev->R Ev}{l:Ev->R Fl}{r k p:JG}{n m:BV}{W:BK}
def kw2{S S':AS}{d:D}{v:V}(s:aL d=true)(r:Rep K H S d v):∃f q i a o,d=.exc f q i/\v=.ref a/\V4 K H f q a o/\An K H S' i o:=by
 cases d with
 |exc f q i=>revert r;refine Bo λa o e x u=>?_;have b:(decide (f ≠ "dict") && decide (f ≠ "dictK") && N8 i)=true:=s;rw[QH,QH,decide_eq_true_eq,decide_eq_true_eq]at b;exact⟨f,q,i,a,o,rfl,e,x.errC b.1.1 b.1.2,R9 i o b.2 u⟩
 |_=>cases s
def try_(i:Nat)(hb:TB X c st g)(ar:∀ev:A_,Vl (X.mrk ev) c (j::h) l)(hm:X.mg m=some (.ref W))(ba:m = "WebError")(aq:PySem.W.typeIn X.K (.ref W)=some (.type "type"))(au:PySem.W.nsIn X.K PySem.mainGlobals "WebError" = some (some (.ref W)))(M:X.stack=X.env::X.outer/\X.env.frame=some X.env.locals)(nd:X.N.Nodup)
  (hi:c.O.contains i=false:=by rfl)(hN:X.N[i]? = some n:=by rfl)(hk:X.env.scope.names.lookup n=some .local:=by rfl)(hg:Gl X m:=by rfl)(ay:Zd m:=by decide):
  PSd X c (.Try [st] [.ExceptHandler (some (.Name m r)) (some n) (j::h) k] [] [] p) (d9 g i l):=by
 intro B s σ H D I q;revert q;refine Bm λhs J E q=>?_;have ag:i∉c.O:=λz=>by have:=List.elem_eq_true_of_mem z;rw[show List.elem i c.O=c.O.contains i from rfl,hi]at this;cases this
 refine wpAny_Try_except (RZ (hb B s σ H hs J _ _ I E ?_));have q0:RQ (match g J with | .ok ab=>R.ok (.nx ab) | .exc d=>if aL d=true then unS i (l (J.set i (some d))) else .bad | .bad=>.bad) (Fl.ends X.K c hs D) (Us X.K c):=q;cases eg:g J with
 |bad=>rw[eg]at q0;exact q0.elim
 |ok ab=>rw[eg]at q0;exact λY x U I' E'=>K_ (K_ ⟨x,U,I',q0 x U E'⟩)
 |exc d =>
  rw[eg]at q0;intro a s1 H1 Y U Z ao F ak rp;have G:RQ (if aL d=true then unS i (l (J.set i (some d))) else .bad) (Fl.ends X.K c hs D) (Us X.K c):=q0;by_cases hc:aL d=true
  ·rw[if_pos hc]at G;refine nn0 λhG=>?_;refine jL (λC od vs sl hH ho ht hT=>?_) (F.obj);refine yl0 (λnm ks fs a' ah ed ea ex rr=>?_) (kw2 (S':=c.N J σ) hc rp);cases ea;revert ex;refine Bm λC' W' ec hx=>?_;have ax:∀b∈frs X.stack,H1 b=none:=Z.stkFree;have aw:∀b∈frs X.stack,∃o,s1.heap.get? b=some o:=λb hb=>let ⟨_,o,e,_⟩:=Z.stack.mem hb; ⟨o,e⟩;have P:=wK Z.stack Z.stkFree F.un;rw[M.1]at P;have Q:=Z.ok.frames;rw[M.1]at Q;refine hG ?_;clear hG;refine sW (base:=X.base) (env:=X.env) (outer:=X.outer) (L:=X.env.locals) Q P M.2 ho ht λh' ai k1 k2 k3 k4 k5 k6=>?_;rw[<-M.1]at k1 k2;have af:∀T,ai[1]? = some (.ref T)->s1.heap.get? T=none/\U T=none:=λT z=>⟨by
    cases y:s1.heap.get? T with
    |none=>rfl
    |some o =>
     have⟨o',e1⟩:=F.un.there T o y (by simp);exact absurd (QF (GQ e1) (k5 T z)) (T_ _),F.hok.fresh (k5 T z)⟩
   have F2:=F.noted (h':=h') hH ho hT ax aw k1 k2 k3 k4 af;have I3:Inv X B σ U {Y with heap:=h'}:=Z.call' (ch:=[]) F2.os F2.un F2.hok F2.bare (λb z=>absurd z (by simp));have eC:C'=C:=by
    rcases hx with ⟨_,_,z⟩ | ⟨_,_,dx,_,_,_,z,_⟩
    ·rw[hH]at z;have z1:Fz C a od=Fz C' a none:=by injection (Option.some.inj z)
     have:Fz C' a none Y.heap:=z1 ▸ ⟨vs,sl,ho⟩;revert this;refine nC λ_ _ z2=>?_;rw[ho]at z2;cases z2;rfl
    ·rw[hH]at z;have z1:Fz C a od=Fz C' a (some dx):=by injection (Option.some.inj z)
     have:Fz C' a (some dx) Y.heap:=z1 ▸ ⟨vs,sl,ho⟩;revert this;refine nC λ_ _ z2=>?_;rw[ho]at z2;cases z2;rfl
   subst eC;have eW:W'=W:=by have:=ec.top;rw[au]at this;cases this;rfl
   subst eW;have LT:PySem.W.Looks (BR X.prog X.w) h' (VN (.ref a)) (.ref C'):=(PySem.W.Looks.ld k3).andThen .now;refine wpAny_handleBy_cons (codeAny_handlers_test (Mf (X:=X.mrk (.ref a)) (I3.mrk _) hg hm ?_ ay)) (by intro z;cases z);refine(PySem.W.exm_one I3.RN LT (ec.web aq)).here (s:={Y with heap:=h'}) ?_;refine codeAny_handlers_suite_as ?_;refine ye4 (s:={Y with heap:=h'}) k3 k4 λaz m1 m2=>?_;have⟨aj,ae⟩:=F2.land hH af m1 m2;have I4:Inv X B σ U {Y with heap:=az}:=Z.call' (ch:=[]) F2.os aj ae F2.bare (λb z=>absurd z (by simp));refine Yp (X:=X.mrk (.ref a)) (v:=.ref a) (I4.mrk _) nd hN (.inl hk) rfl (λs5 I5=>?_) (.inr hk);have E4:Az X.K c hs (J.set i (some d)) (σ.set i (some (.ref a))) U:=by refine Az.set (E.mono (ao.trans ak)) ag ?_;rw[ed];exact⟨a,ah,rfl,.inr ⟨C',W',ec,hx⟩,rr⟩
   let D':Ends:={nx:=λx A=>D.nx (x.set i none) A,rt:=D.rt,bk:=λ_ _=>False,ct:=λ_ _=>False};refine D_ (ar (.ref a) B s5 (σ.set i (some (.ref a))) U D' I5 ⟨hs,J.set i (some d),E4,?_⟩) (λf s6 hq=>?_) (λ_ _ z=>z.elim)
   ·cases e2:l (J.set i (some d)) with
    |bad=>rw[e2]at G;exact G.elim
    |exc z=>rw[e2]at G;exact G.elim
    |ok fl =>
     rw[e2]at G;cases fl with
     |nx aa=>exact λx A E'=>G (x.set i none) A (E'.unset ag)
     |rt d2=>exact G
     |bk aa=>exact G.elim
     |ct aa=>exact G.elim
   ·cases f with
    |next=>revert hq;refine Bm λx A I6 q6=>?_;exact wH (I6.unmrk I.ok) nd hN hk λs7 I7=>⟨x.set i none,A,I7,q6⟩
    |ret u=>revert hq;refine bW λv x A I6 r6 q6=>?_;exact wH (I6.unmrk I.ok) nd hN hk λs7 I7=>⟨v,x.set i none,A,I7,r6,q6⟩
    |brk=>obtain⟨_,_,_,z⟩:=hq;exact z.elim
    |cont=>obtain⟨_,_,_,z⟩:=hq;exact z.elim
  ·rw[if_neg hc]at G;exact G.elim
end
end PD
namespace PySem
open Sem (wp)
open Builtin Builtin.ObjectAttr
section
variable {prog:BZ}{w:CV}{A:DK}{E:A_->BJ->Prop}{s:BJ}{K:B_}{x C:BK}{f:FZ}{od:Option FZ}{name:BV}{tk:Tok}{c b:Bool}
def rG{Q:A_->BJ->Prop}{r:Found}(Y:K.In s.heap)(I:PySem.W.InstAt s.heap x f C od)(i:PySem.W.findIn K (.ref C) "__getattribute__" = some (some (.builtin "BaseException.__getattribute__")))(k:PySem.W.findIn K (.ref C) "__getattr__" = some none)
  (m:PySem.W.mroIn K C (.type "BaseException")=some true)(l:PySem.W.findObj K C od name=some r)
  (h:match r with
   | .value v=>BL (BR prog w) A (handedOut v) Q E s
   | .bind g a=>JS (BR prog w) A.in1 (.call g ⟨[a,.ref x,.ref C],[]⟩) (λr j=>match r with | .ok (.ret v)=>BL (BR prog w) A (handedOut v) Q E j |_=>False) s
   | .missing=>False):
  BL (BR prog w) A (getAttrBy (.ref x) (.str name tk) c b) Q E s:=by
 have FB:=PySem.F.attrBase_ValueError;unfold getAttrBy;refine CT (BX (I.type.here (BX ((PySem.W.looks_findIn Y i).here ?_))));dsimp only;rw[show(dZ (Value.ref C) && Value.builtin "BaseException.__getattribute__" == Value.builtin "object.__getattribute__")=false from by rw[show(Value.builtin "BaseException.__getattribute__" == Value.builtin "object.__getattribute__")=false from by decide +kernel,qC],if_neg (by decide)];unfold getAttrByItsOwn hookBefore;rw[if_pos (show dZ (Value.ref C)=true from rfl)];refine BX ((PySem.W.looks_findIn Y k).here (BX (IK (CT ?_))));unfold callGetattribute;rw[show(b && dZ (Value.builtin "BaseException.__getattribute__"))=false from qC _,if_neg (by decide)];unfold boundAndCalled;rw[FB.ga.bind];refine BX (CW ?_);show BL _ _ (call (.builtin "BaseException.__getattribute__") [.ref x,.str name tk]) _ _ _;refine JD (KN FB.ga.plain PySem.F.entry_bexc_ga ?_);refine @PySem.W.check_slot (BR prog w) _ _ s "BaseException.__getattribute__" "BaseException" "__getattribute__" (.ref x) [.str name tk] [] _ (by decide +kernel) (by decide +kernel) (I.type.andThen (PySem.W.looks_mroIn Y m)) (PySem.F.args_bexc_ga (.ref x) (.str name tk)) ?_;obtain⟨q,g,d,t,p⟩:=s;have o:=I.type (M:=BR prog w);have n:=PySem.W.looks_find (M:=BR prog w) Y I l;unfold GR.«object.__getattribute__»;refine BX (CW (BX (CW (BX (o.at (BX (n.at ?_)))))));cases r with
 |value v=>exact CW h
 |missing=>exact h.elim
 |bind g a=>refine BX (CT (JD (HD h λr j z=>?_)));rcases r with e | (v |_ |_ |_)<;>first |exact z.elim |exact CW z
end
end PySem
namespace PD
open PySem PySem.Spec PyProof.Rows L2
variable {ks:List D}{a C:BK}
def V4.inst{X:Cx}{b:List (BK×FZ)}{i:St}{H:Hp}{s:BJ}{nm:BV}{W:BK}{vs:List V}(I:Inv X b i H s)
  (h:(ks=[]/\vs=[]/\H a=some (.ext (Fz C a none)))\/∃f v c,ks=[.str f]/\vs=[v]/\PySem.W.findIn X.K (.ref C) f=some none/\H a=some (.ext (Fz C a (some c)))/\H c=some (.xd [(f,v)])):
  ∃l m,PySem.W.InstAt s.heap a l C m:=by
 rcases h with ⟨_,_,h⟩ | ⟨f,v,c,_,_,_,h,n⟩
 ·have⟨⟨j,k,e⟩,_⟩:=I.hok a _ h;exact⟨_,none,e,rfl,rfl,True.intro⟩
 ·have⟨⟨j,k,e⟩,_⟩:=I.hok a _ h;refine Am (λq g _=>?_) (I.hok c _ n);revert g;refine cX λo r u p _=>?_;exact⟨_,some o,e,rfl,rfl,p⟩
variable {K:B_}
def lB{cd:ClassData}{m:List A_}{b:A_}(f:W.clsIn K C=some cd)(e:cd.mro=m)(c:m.isEmpty=false):W.mroIn K C b=some (m.contains b):=by unfold W.mroIn;rw[f,fD,e,if_neg (by rw[c];exact XR)]
variable {W:BK}
def EC.base{K:B_}{c:BV}(f:EC K c C W):PySem.W.mroIn K C (.type "BaseException")=some true:=by refine Yw (λg e _ _ b=>?_) (f.cls);rw[lB e b rfl];rfl
def EC.obj{K:B_}{c:BV}(f:EC K c C W):PySem.W.mroIn K C (.type "object")=some true:=by refine Yw (λg e _ _ b=>?_) (f.cls);rw[lB e b rfl];rfl
def gsG:PySem.W.specialIn K (.builtin "object.__class__") "__get__" = some (some (.builtin "getset_descriptor.__get__")):=by kernel_rfl
def gsT:PySem.W.takesIn K (.builtin "object.__class__")=some true:=by kernel_rfl
theorem kr5{K:B_}{c:BV}(ec:EC K c C W):PySem.W.KitX K (.ref a) (.ref C) (λh=>∃ox od,PySem.W.InstAt h a ox C od) where
 ty:=λ_ _ _ ⟨_,_,I⟩=>I.type
 it:=λ_ _ Y _=>by
  refine Am (λcd h1 _=>?_) (ec.cls);unfold PySem.W.clsIn at h1;split at h1
  ·rename_i ho;intro A' Q' E' s' k q;unfold isType loadHead;exact BX (iY (k _ _ (Y _ _ ho)) (CW q))
  ·cases h1
 ne:=λh tp dd its n sl Y htp=>by
  refine Am (λcd h1 _=>?_) (ec.cls);refine dJ.mpr λq=>?_;have e:C=tp:=Value.ref.inj (beq_iff_eq.mp q);subst e;unfold PySem.W.clsIn at h1;split at h1
  ·rename_i ho;have z:=(Y _ _ ho).symm.trans htp;cases z
  ·cases h1
 ca:=λ{prog w A E Q s} Y ⟨ox,od,I⟩ k=>by
  have hf:PySem.W.findObj K C od "__class__" = some (.bind (.builtin "getset_descriptor.__get__") (.builtin "object.__class__")):=by refine Am (λcd h1 _=>?_) (ec.cls);unfold PySem.W.findObj;rw[h1,fD,ec.cla,fD];simp[gsG,gsT]
  unfold getAttr?;refine BX (wpAny_mkText ?_);unfold getAttrBy?;refine BX (IK (rG (s:={s with toks:=s.toks+1}) (r:=.bind (.builtin "getset_descriptor.__get__") (.builtin "object.__class__")) Y I ec.gets ec.geta ec.base hf ?_));exact PySem.W.class_get (s:={s with toks:=s.toks+1}) Y I ec.obj (PySem.W.handed_on rfl (CW k))
def isG(b:BV->Bool):D->Option D
 | .exc c _ _=>if c = "dict"\/c = "dictK" then none else some (.bl (b c))
 |_=>none
abbrev isE(nm:BV):D->Option D:=isG λc=>decide (c=nm)
abbrev isV:D->Option D:=isG λ_=>true
def wr3{K:B_}{c c':BV}{b s:BK}(h:EC K c C W)(e:EC K c' b s)(ht:PySem.W.typeIn K (.ref b)=some (.type "type")):PySem.W.kitOne K (.ref C) (.ref b)=some (decide (c=c')):=by
 refine Yw (λy k p w o=>?_) (h.cls);refine Yw (λr f q x l=>?_) (e.cls);refine Gk (λu i v m=>?_) (h.wcl);unfold PySem.W.kitOne;by_cases g:c=c'
 ·subst g;have:C=b:=by have:=h.at_;rw[e.at_]at this;cases this;rfl
  subst this;rw[if_pos (by simp)];simp
 ·have j:C≠b:=λz=>by subst z;rw[k]at f;cases f;exact g (p.symm.trans q)
  have n:W≠b:=λz=>by subst z;rw[f]at i;cases i;rw[m]at l;exact absurd (show(5:Nat)=6 from congrArg List.length l) (by decide)
  rw[if_neg (by simp[j])];show(if((PySem.W.clsIn K b).isSome && PySem.W.typeIn K (.ref b) == some (.type "type"))=true then PySem.W.subIn K (.ref C) (.ref b) else none)=_;rw[f,ht,if_pos (by simp)];show PySem.W.mroIn K C _=_;rw[lB k o rfl];simp[g,Ne.symm j,Ne.symm n]
def wc6{K:B_}{c:BV}(f:EC K c C W):PySem.W.kitOne K (.ref C) (.type "ValueError")=some true:=by refine Yw (λi e h g b=>?_) (f.cls);unfold PySem.W.kitOne;rw[if_neg (by simp)];show(if PySem.W.kitMeta "ValueError" = true then PySem.W.subIn K (.ref C) (.type "ValueError") else none)=_;rw[if_pos (by kernel_rfl)];show PySem.W.mroIn K C _=_;rw[lB e b rfl];rfl
variable {X:Cx}{c:DC}{f:Ev->R D}{e:CN}{l:Lv}{p w y:JG}{x:BV}
variable {A:BV}
section
variable {b g:BK}
def rE{b:BV->Bool}{cv:V}{u':A_}(hm:X.mg "isinstance" = none)(hx:PE X (.Name x w) (tC cv))(ru:RelV cv u')(hu:∀u,RelV cv u->u=u')(n:∀nm C W,EC X.K nm C W->PySem.W.kitOne X.K (.ref C) u'=some (b nm))(ha:PEd X c l e f)(hg:Gl X "isinstance")
  (P:BP [e,.Name x w] X.env=(false,CZ e X.env)::BP [.Name x w] X.env)(L:BP [.Name x w] X.env=(false,CZ (.Name x w) X.env)::BP [] X.env)(J:Zp X.env y [.Name x w]):
  PEd X c .fr (.Call (.Name "isinstance" p) [e,.Name x w] [] y) (b1 f (isG b)):=
 PE.imp (Oh (r:=λM H Q=>∃S nm ks k v,M=[v,cv]/\Rep X.K H S (.exc nm ks k) v/\nm ≠ "dict"/\nm ≠ "dictK"/\Q (.bl (b nm)) H) (λO s Y H M us Q I r h=>by
   revert h;refine yl1 λS nm ks k v G F n1 n2 q=>?_;obtain rfl:=G;revert F;refine Bo λa vs B Z _=>?_;obtain rfl:=B;refine Bo (λu1 u2 o m r2=>?_) (r.two);obtain rfl:=o;cases hu u2 r2;cases(show u1=Value.ref a from m);refine Bm (λC W T hh=>?_) (Z.errC n1 n2);exact PySem.W.kia_one (kr5 T) I.RN (V4.inst (W:=W) (nm:=nm) I hh) (n nm C W T) (λz=>nomatch z) λtk=>⟨.bl (b nm),H,I.tok _,rfl,q⟩) hg hm PyProof.Rows.boot_isinstance (Df ha (Df hx Ho L) P) (by decide) (by decide) P J) λY H Q q=>by
 revert q;refine Bm λhs ρ E q=>?_;refine Ba (l:=l) E ((RQ.bind.mp q).mono (λd q1 v H1 s1 E1 m=>?_) λ_ z=>z);refine Am (λd' U q2=>?_) (q1.of);cases d with
 |exc nm ks k =>
  have i:(if nm = "dict"\/nm = "dictK" then none else some (D.bl (b nm)))=some d':=U;by_cases j:nm = "dict"\/nm = "dictK"
  ·rw[if_pos j]at i;cases i
  ·rw[if_neg j]at i;cases i;rw[not_or]at j;exact⟨_,nm,ks,k,v,rfl,m,j.1,j.2,q2 _ H1 s1 rfl⟩
 |_=>cases U
def ym8(q:X.mg "isinstance" = none)(o:X.mg x=some (.ref b))(n:EC X.K x b g)(ht:PySem.W.typeIn X.K (.ref b)=some (.type "type"))(v:PEd X c l e f)(r:Gl X "isinstance")(j:Gl X x)(m:Zd x)
  (s:BP [e,.Name x w] X.env=(false,CZ e X.env)::BP [.Name x w] X.env)(k:BP [.Name x w] X.env=(false,CZ (.Name x w) X.env)::BP [] X.env)(i:Zp X.env y [.Name x w]):
  PEd X c .fr (.Call (.Name "isinstance" p) [e,.Name x w] [] y) (b1 f (isE x)):=
 rE (cv:=.ref b) (u':=.ref b) q (wi0 j o rfl m) rfl (λu h=>h) (λB C W z=>wr3 z n ht) v r s k i
def ym9(o:X.mg "isinstance" = none)(j:X.mg "ValueError" = none)(s:PEd X c l e f)(q:Gl X "isinstance":=by rfl)(k:Gl X "ValueError":=by rfl)
  (r:BP [e,.Name "ValueError" w] X.env=(false,CZ e X.env)::BP [.Name "ValueError" w] X.env:=by rfl)(m:BP [.Name "ValueError" w] X.env=(false,CZ (.Name "ValueError" w) X.env)::BP [] X.env:=by rfl)(i:Zp X.env y [.Name "ValueError" w]:=by rfl)(n:FQ "ValueError" = some (.type "ValueError"):=by kernel_rfl):
  PEd X c .fr (.Call (.Name "isinstance" p) [e,.Name "ValueError" w] [] y) (b1 f isV):=
 rE (cv:=.ty "ValueError") (u':=.type "ValueError") o (wh8 k j n rfl (by decide) (by decide)) rfl (λu h=>h) (λz C W v=>wc6 v) s q r m i
def jF:List D->Option D
 | [d]=>some d
 |_=>none
def yG{l:List D}{d:D}(h:jF l=some d):l=[d]:=by
 cases l with
 |nil=>cases h
 |cons x r =>
  cases r with
  |nil=>cases h;rfl
  |cons y z=>cases h
def mZ:D->Option BV
 | .str x=>some x
 |_=>none
def ky4{d:D}(h:mZ d=some x):d=.str x:=by cases d<;>first | (cases h;rfl) |cases h
def jH(A:BV):D->Option D
 | .exc c ks h=>((jF ks).bind mZ).bind λg=>(jF h).bind λd=>if g=A/\Vu d=true/\c ≠ "dict"/\c ≠ "dictK" then some d else none
 |_=>none
def kn9{x d:D}(h:jH A x=some d):∃c,x=.exc c [.str A] [d]/\Vu d=true/\c ≠ "dict"/\c ≠ "dictK":=by
 cases x with
 |exc c ks z =>
  refine Am (λg n v=>?_) (iT.mp (show((jF ks).bind mZ).bind _=some d from h));refine Am (λk n u=>?_) (iT.mp n);refine Am (λe s i=>?_) (iT.mp v);by_cases m:g=A/\Vu e=true/\c ≠ "dict"/\c ≠ "dictK"
  ·rw[if_pos m]at i;cases i;revert m;refine yk4 λj r q o=>?_;obtain rfl:=j;rw[yG n,ky4 u,yG s];exact⟨c,rfl,r,q,o⟩
  ·rw[if_neg m]at i;cases i
 |_=>cases h
def yd4(he:PEd X c l e f)(hb:GD e A X.env (CZ e X.env)=CZ e X.env:=by rfl):PEd X c .fr (.Attribute e A y) (b1 f (jH A)):=by
 intro m s Y H Q I q;obtain⟨hs,ρ,E,q⟩:=q;refine wa6 hb (thn (he m s Y H (λv i=>∃S j d,Rep X.K i S (.exc j [.str A] [d]) v/\Vu d=true/\j ≠ "dict"/\j ≠ "dictK"/\∀v,Rep X.K i (fresh H) d v->Q v i) I (Ba E ((RQ.bind.mp q).mono (λd J v i n E1 r1=>?_) λ_ z=>z))) λu n P=>?_)
 ·obtain⟨d',e',q2⟩:=J.of;obtain⟨j,rfl,h,M,L⟩:=kn9 e';exact⟨_,j,d',r1,h,M,L,λv r=>q2 v i n r⟩
 ·refine nn0 λhG=>?_;obtain⟨v,i,F,ru,S,j,d,⟨a,vs,ev,xa,rr⟩,h,M,L,J⟩:=P;subst ev;cases(show u=Value.ref a from ru);have⟨C,W,B,P⟩:=xa.errC M L;obtain⟨G,rfl,rv⟩:=rr.one;rcases P with ⟨z,_⟩ | ⟨f',v',dx,z1,Z,T,ha,hd⟩
  ·cases z
  ·cases z1;cases Z;have⟨⟨ws,sl,e1⟩,_⟩:=F.hok a _ ha;have⟨mA,ns,rel⟩:=F.hok dx _ hd;have⟨od,ho,hl⟩:=kh0 ns;have⟨U,O,k⟩:=V7.some_of (v:=G) (o:=mA A) (by have:=rel A;simp only[List.lookup,beq_self_eq_true]at this;exact this);obtain⟨cd,c1,c2,c3,c4⟩:=B.cls;have hf:PySem.W.findObj X.K C (some od) A=some (.value U):=PySem.W.findObj_own (by unfold PySem.W.hasDictIn;rw[c1];exact c3) T rfl (by rw[hl,O]);refine hG ?_;unfold getAttr;refine BX (wpAny_mkText ?_);refine rG (s:={n with toks:=n.toks+1}) (r:=.value U) F.RN ⟨e1,rfl,rfl,ho⟩ B.gets B.geta B.base hf (PySem.W.handed_on (kf3 k) ⟨G,i,F.tok _,k,J G (pF h rv)⟩)
end
def Fg:List D->Option (List Bool)
 | []=>some []
 | .bl b::r=>(Fg r).map (b::·)
 |_::_=>none
def Wo{K:B_}{H:Hp}{S:AS}:∀{ds:List D}{xs:List V}{its:List A_}{bs:List Bool},An K H S ds xs->Vals xs its->Fg ds=some bs->its=bs.map Value.bool
 | [],xs,its,bs,j,g,h=>by cases h;cases(show xs=[] from j);cases g;rfl
 |d::ds,xs,its,bs,j,g,h=>by
  revert j;refine Bo λv r i m k=>?_;obtain rfl:=i;cases d with
  |bl b =>
   have q:(Fg ds).map (b::·)=some bs:=h;refine Am (λz o n=>?_) (qU.mp q);subst n;cases(show v=.bl b from m);cases g with
   |cons a t=>rename_i u s;cases(show u=Value.bool b from a);rw[Wo k t o];rfl
  |_=>cases h
def gF(b:Bool):A_->Bool
 | .bool c=>c == b
 |_=>false
def rW(f1 f2:Ev->R D):Ev->R D:=λg=>(f1 g).bind λx=>match x with
 | .lst h=>(f2 g).bind λy=>match y with
  | .bl b=>R.of ((Fg h).map λbs=>.int (bs.count b:Nat))
  |_=>.bad
 |_=>.bad
def rF(f1 f2:Ev->R D):Ev->R D:=λg=>(f1 g).bind λx=>match x with
 | .lst h=>(f2 g).bind λy=>match y with
  | .bl b=>R.of ((Fg h).bind λbs=>if b∈bs then some (.int (bs.idxOf b:Nat)) else none)
  |_=>.bad
 |_=>.bad
def kp5{f1 f2:Ev->R D}:∀i d,rW f1 f2 i=.ok d->d.imm=true:=λi d h=>by
 refine Am (λx n h=>?_) (Bp h);cases x with
 |lst j =>
  refine Am (λy m h=>?_) (Bp (show(f2 i).bind (λy=>match y with | .bl b=>R.of ((Fg j).map λbs=>D.int (bs.count b:Nat)) |_=>.bad)=_ from h));cases y with
  |bl b =>
   have g:R.of ((Fg j).map λbs=>D.int (bs.count b:Nat))=.ok d:=h;cases k:Fg j with
   |none=>rw[k]at g;cases g
   |some z=>rw[k]at g;cases g;rfl
  |_=>cases h
 |_=>cases h
def kp6{f1 f2:Ev->R D}:∀j d,rF f1 f2 j=.ok d->d.imm=true:=λj d h=>by
 refine Am (λx q h=>?_) (Bp h);cases x with
 |lst k =>
  refine Am (λy o h=>?_) (Bp (show(f2 j).bind (λy=>match y with | .bl b=>R.of ((Fg k).bind λbs=>if b∈bs then some (D.int (bs.idxOf b:Nat)) else none) |_=>.bad)=_ from h));cases y with
  |bl b =>
   have i:R.of ((Fg k).bind λbs=>if b∈bs then some (D.int (bs.idxOf b:Nat)) else none)=.ok d:=h;cases n:Fg k with
   |none=>rw[n]at i;cases i
   |some z =>
    rw[n]at i;have g:R.of (if b∈z then some (D.int (z.idxOf b:Nat)) else none)=.ok d:=i;by_cases m:b∈z
    ·rw[if_pos m]at g;cases g;rfl
    ·rw[if_neg m]at g;cases g
  |_=>cases h
 |_=>cases h
def wj3(K:B_):V->List V->Hp->VK->Prop:=λx h H Q=>∃S g b bs,Rep K H S (.lst g) x/\h=[.bl b]/\Fg g=some bs/\Q (.int (bs.count b:Nat)) H
def yh5(K:B_):V->List V->Hp->VK->Prop:=λx h H Q=>∃S g b bs,Rep K H S (.lst g) x/\h=[.bl b]/\Fg g=some bs/\b∈bs/\Q (.int (bs.idxOf b:Nat)) H
def Um(b:Bool):∀bs:List Bool,(bs.map Value.bool).countP (gF b)=bs.count b
 | []=>rfl
 |c::bs=>by rw[NP,List.countP_cons,List.count_cons,Um b bs];rfl
variable {f1 f2:Ev->R D}
variable {apos cpos:JG}
section
variable {o:CN}
def kh7:MtR X "list.count" (wj3 X.K):=by
 intro j s σ H x vs v us Q I G J h;obtain⟨S,ds,b,bs,O,rfl,U,q⟩:=h;obtain⟨a,xs,rfl,T,P⟩:=O;cases G;obtain⟨u,rfl,L⟩:=J.one;cases(show u=Value.bool b from L);have⟨g,B,pl,hz⟩:=I.list T.sq;have z:=Wo P B U;obtain⟨⟨cls,Y,data,E⟩,k,r,n,m⟩:=pl.isList;simp only at r m;subst r m;refine MJ PySem.F.slot_list_count ⟨_,k,rfl⟩ PySem.F.entry_list_count (PySem.F.args_list_count_2 _ _) (SeqAt.list_countAt a g.toArray n Y E (.bool b) (gF b)) ⟨k,λy M=>?_,?_⟩
 ·have i:y∈g:=by simpa using M
  rw[z]at i;obtain⟨Z,_,rfl⟩:=JF.mp i;exact SeqAt.EqAt.bool_bool Z b
 ·rw[show g.toArray.toList=g from rfl,z,Um b bs];exact⟨.int (bs.count b:Nat),H,I.tok _,(show ∃t,Value.int (bs.count b:Nat) s.toks=Value.int (bs.count b:Nat) t from⟨_,rfl⟩),q⟩
theorem wg6:MtR X "list.index" (yh5 X.K):=by
 intro L s σ H x vs v us Q I U Y h;obtain⟨S,ds,b,bs,hx,rfl,hi,hb,q⟩:=h;obtain⟨a,xs,rfl,hl,hr⟩:=hx;cases U;obtain⟨u,rfl,Z⟩:=Y.one;cases(show u=Value.bool b from Z);have⟨g,J,pl,hz⟩:=I.list hl.sq;have E:=Wo hr J hi;have j:bs.idxOf b<bs.length:=fP hb;have r:g.length=bs.length:=by rw[E,HN]
 obtain⟨⟨cls,dd,data,T⟩,M,P,n,O⟩:=pl.isList;simp only at P O;subst P O;have k:((bs.idxOf b:Nat):Int)<2 ^ 63 - 1:=by
  have h1:g.length<=sizeLine:=by rw[<-J.length];exact hz
  rw[CQ]at h1;lia
 refine MJ PySem.F.slot_list_index ⟨_,M,rfl⟩ PySem.F.entry_list_index (PySem.F.args_list_index_2 _ _) (SeqAt.list_indexAt a g.toArray n dd T (.bool b) (gF b) (bs.idxOf b) (by simpa[r] using j) k ?_ ?_) ⟨M,λy hy=>?_,?_⟩
 ·have:g.toArray[bs.idxOf b]'(by simpa[r] using j)=Value.bool (bs[bs.idxOf b]'j):=by simp[E]
  rw[this,iQ j];simp[gF]
 ·intro m hm B;have G:m<bs.length:=g_ B j;have:g.toArray[m]'hm=Value.bool (bs[m]'G):=by simp[E]
  rw[this];have:=jFv (p:=(· == b)) (xs:=bs) (i:=m) B;simpa[gF] using this
 ·have z:y∈g:=by simpa using hy
  rw[E]at z;obtain⟨cb,_,rfl⟩:=JF.mp z;exact SeqAt.EqAt.bool_bool cb b
 ·exact⟨.int (bs.idxOf b:Nat),H,I.tok _,(show ∃t,Value.int (bs.idxOf b:Nat) s.toks=Value.int (bs.idxOf b:Nat) t from⟨_,rfl⟩),q⟩
def wb7(P:PEd X c l o f1)(U:PEd X c l e f2)(j:GD o "count" X.env (CZ o X.env)=CZ o X.env:=by rfl)
  (m:((HQ cpos (BP [e] X.env)).all (λx=>!x.1) && (KQ cpos (G_ [] X.env)).all (λx=>x.1.isSome)
   && decide ([e].length+([]:List JB).length+(if([]:List JB).isEmpty then 0 else 1)<30))=true:=by rfl)
  (i:(apos.endLine == cpos.line)=true:=by rfl)(n:BP [e] X.env=(false,CZ e X.env)::BP [] X.env:=by rfl)(g:Zp X.env cpos []:=by rfl):
  PEd X c l (.Call (.Attribute o "count" apos) [e] [] cpos) (rW f1 f2):=
 PE.imp (gM PySem.F.plainAttrs_list PySem.F.slot_list_count PySem.F.type_list_count kh7 P (ac U an n) j m i n g) λσ H Q h=>by
 revert h;refine Bm λn ρ E q=>?_;refine Ba E ((RQ.bind.mp q).mono (λZ I x H1 v E1 B=>?_) λ_ z=>z);cases Z with
 |lst J =>
  refine Bo (λa L k T hr=>?_) (id B);obtain rfl:=k;refine⟨.inl ⟨rfl,L,T.sq⟩,?_⟩;refine pD E1 ((RQ.bind.mp I).mono (λY G y H2 u E2 M=>?_) λe z=>Bq z v);cases Y with
  |bl b=>refine Am (λd e O=>?_) ((show RQ (R.of ((Fg J).map λbs=>D.int (bs.count b:Nat))) _ _ from G).of);refine Am (λbs s r=>?_) (qU.mp e);subst r;cases(show y=.bl b from M);exact⟨_,J,b,bs,B.mono u (λ_ z=>z),rfl,s,O _ _ (v.trans u) rfl⟩
  |_=>exact(G:False).elim
 |_=>exact(I:False).elim
def ye1(T:PEd X c l o f1)(Y:PEd X c l e f2)(k:GD o "index" X.env (CZ o X.env)=CZ o X.env:=by rfl)
  (n:((HQ cpos (BP [e] X.env)).all (λx=>!x.1) && (KQ cpos (G_ [] X.env)).all (λx=>x.1.isSome)
   && decide ([e].length+([]:List JB).length+(if([]:List JB).isEmpty then 0 else 1)<30))=true:=by rfl)
  (j:(apos.endLine == cpos.line)=true:=by rfl)(r:BP [e] X.env=(false,CZ e X.env)::BP [] X.env:=by rfl)(g:Zp X.env cpos []:=by rfl):
  PEd X c l (.Call (.Attribute o "index" apos) [e] [] cpos) (rF f1 f2):=
 PE.imp (gM PySem.F.plainAttrs_list PySem.F.slot_list_index PySem.F.type_list_index wg6 T (ac Y an r) k n j r g) λσ H Q h=>by
 revert h;refine Bm λr ρ E q=>?_;refine Ba E ((RQ.bind.mp q).mono (λdx J x H1 B E1 G=>?_) λ_ z=>z);cases dx with
 |lst L =>
  refine Bo (λa M m U hr=>?_) (id G);obtain rfl:=m;refine⟨.inl ⟨rfl,M,U.sq⟩,?_⟩;refine pD E1 ((RQ.bind.mp J).mono (λZ I y H2 v E2 O=>?_) λe z=>Bq z B);cases Z with
  |bl b =>
   refine Am (λd e P=>?_) ((show RQ (R.of ((Fg L).bind λbs=>if b∈bs then some (D.int (bs.idxOf b:Nat)) else none)) _ _ from I).of);refine Am (λbs u i=>?_) (iT.mp e);by_cases s:b∈bs
   ·rw[if_pos s]at i;cases i;cases(show y=.bl b from O);exact⟨_,L,b,bs,G.mono v (λ_ z=>z),rfl,u,s,P _ _ (B.trans v) rfl⟩
   ·rw[if_neg s]at i;cases i
  |_=>exact(I:False).elim
 |_=>exact(J:False).elim
end
def KCI(K:B_)(c:BV):Prop:=∃C W,EC K c C W/\PySem.W.typeIn K (.ref C)=some (.type "type")
def KC0(K:B_)(c:BV):Prop:=∃C W,ER0 K c C W
def KC1(K:B_)(c fld qual:BV)(st:DR):Prop:=∃(C W i T:BK)(kV h j b ct k:A_)(an od:Option BK)(g:Array (Option A_)),ER1 K c C W i fld /\
 K.lookup i=some ⟨k,od,.func (PySem.W.fnOf "__init__" qual (Es st) (Cp st) (Av st) (.ref T) kV h j an b ct),g⟩/\PySem.W.codeIn K b qual=true/\∃(o:FZ)(n:Nat),K.lookup T=some o/\o.data=.seq #[.none] n
def KCW(K:B_):Prop:=∃W,PySem.W.nsIn K PySem.mainGlobals "WebError" = some (some (.ref W))/\PySem.W.typeIn K (.ref W)=some (.type "type")
def Gp{K:B_}{c:BV}(a:PySem.W.nsIn K PySem.mainGlobals c=some (some (.ref C)))(b:PySem.W.nsIn K PySem.mainGlobals "WebError" = some (some (.ref W)))(t:PySem.W.typeIn K (.ref C)=some (.type "type"))(q:eE K c C W=true):KCI K c:=⟨C,W,nQ a b q,t⟩
def uH{K:B_}{c:BV}(a:PySem.W.nsIn K PySem.mainGlobals c=some (some (.ref C)))(b:PySem.W.nsIn K PySem.mainGlobals "WebError" = some (some (.ref W)))(q:eE K c C W=true)(h:Tj K C=true)(g:oV K C=true):KC0 K c:=⟨C,W,wr4 a b q h g⟩
def ws5{K:B_}(b:PySem.W.nsIn K PySem.mainGlobals "WebError" = some (some (.ref W)))(t:PySem.W.typeIn K (.ref W)=some (.type "type")):KCW K:=⟨W,b,t⟩
variable {st:DR}
def ws4{K:B_}{c fld qual:BV}{k T:BK}{kV j m g ct r:A_}{an od:Option BK}{i:Array (Option A_)}{o:FZ}{n:Nat}(a:PySem.W.nsIn K PySem.mainGlobals c=some (some (.ref C)))(b:PySem.W.nsIn K PySem.mainGlobals "WebError" = some (some (.ref W)))
  (init:PySem.W.findIn K (.ref C) "__init__" = some (some (.ref k)))(G:PySem.W.typeIn K (.ref k)=some (.type "function"))(h:PySem.W.findIn K (.ref C) "__setattr__" = some (some (.builtin "object.__setattr__")))(B:PySem.W.findIn K (.ref C) fld=some none)(v:PySem.W.readsIn K W (.type "type")=true)
  (s:PySem.W.findCls K (.ref W) (.type "type") "__init__" = some (.val (.builtin "ValueError.__init__")))(u:PySem.W.specialIn K (.ref W) "__getattribute__" = some (some (.builtin "type.__getattribute__")))(E:PySem.W.keepIn K (.ref C)=true)
  (l:K.lookup k=some ⟨r,od,.func (PySem.W.fnOf "__init__" qual (Es st) (Cp st) (Av st) (.ref T) kV j m an g ct),i⟩)(cc:PySem.W.codeIn K g qual=true)(lt:K.lookup T=some o)(F:o.data=.seq #[.none] n)(q:eE K c C W=true)(z:Tj K C=true):KC1 K c fld qual st:=
 ⟨C,W,k,T,kV,j,m,g,ct,r,an,od,i,⟨nQ a b q,z,init,G,h,B,v,s,u,E⟩,l,cc,o,n,lt,F⟩
def RC0(K:B_)(b:BV->Option A_)(c:BV):Prop:=∃C W,b c=some (.ref C)/\ER0 K c C W
def RCI(K:B_)(b:BV->Option A_)(c:BV):Prop:=∃C W,b c=some (.ref C)/\EC K c C W/\PySem.W.typeIn K (.ref C)=some (.type "type")
def RCW(K:B_)(b:BV->Option A_):Prop:=∃W,b "WebError" = some (.ref W)/\PySem.W.nsIn K PySem.mainGlobals "WebError" = some (some (.ref W))/\PySem.W.typeIn K (.ref W)=some (.type "type")
def RC1(P:BZ)(w:CV)(K:B_)(b:BV->Option A_)(base:CP)(c fld:BV):Prop:=∃C W h g,b c=some (.ref C)/\ER1 K c C W h fld/\Hh P w K b base CX0 1 h g ["self","words",fld] (spI C fld)/\Binds K g ["self","words",fld] []
variable {P:List A_->Prop}
def usC{n:Nat}(h:∀a b,b.length=n->P (a::b))(b:List A_)(e:b.length=n+1):P b:=by
 cases b with
 |nil=>cases e
 |cons a b=>exact h a b (Nat.succ.inj e)
def us3(h:∀a b c,P [a,b,c])(g:List A_)(e:g.length=3):P g:=
 usC (λa g e=>usC (P:=λu=>P (a::u)) (λb g e=>usC (P:=λu=>P (a::b::u)) (λc g e=>by rw[mO e];exact h a b c) g e) g e) g e
variable {fld:BV}
section
variable {K:B_}{h:CP}{mg:BV->Option A_}{c qual:BV}{st:DR}
def uD(Y:K.In h)(G:h.Ns PySem.mainGlobals mg)(q:KC0 K c):RC0 K mg c:=let ⟨C,W,e⟩:=q; ⟨C,W,PySem.W.mg_of Y G e.ec.at_,e⟩
def Gy(Y:K.In h)(G:h.Ns PySem.mainGlobals mg)(q:KCI K c):RCI K mg c:=let ⟨C,W,e,t⟩:=q; ⟨C,W,PySem.W.mg_of Y G e.at_,e,t⟩
def wx2(Y:K.In h)(G:h.Ns PySem.mainGlobals mg)(q:KCW K):RCW K mg:=let ⟨W,e,t⟩:=q; ⟨W,PySem.W.mg_of Y G e,e,t⟩
def wx1(P:BZ)(w:CV)(base:CP){p1 v u r j Z U Q O M:JG}(Y:K.In h)(G:h.Ns PySem.mainGlobals mg)(q:KC1 K c fld qual st)
  (hb:Cp st=[.Expr (.Call (.Attribute (.Name "WebError" p1) "__init__" v) [.Name "self" u,.Name "words" r] [] j) Z,.Assign [.Attribute (.Name "self" U) fld Q] (.Name fld O) M])
  (S:Ez ["self","words",fld] ["self","words",fld] (Av st))(I:Zd fld)(J:(fld == ("__classdict__" : BV))=false)
  (v0:Vis (Av st) "self")(v1:Vis (Av st) "words")(v2:Vis (Av st) fld)(hg:(Av st).names.lookup ("WebError" : BV)=some .globalImplicit){pl:JT->Sem Bool}
  (ht:∀env:JT,CZ (.Call (.Attribute (.Name "WebError" p1) "__init__" v) [.Name "self" u,.Name "words" r] [] j) env=(do
   let ov <-CZ (.Name "WebError" p1) env
   UT v.atName
   let (f,first) <-PQ [ov] (fQ ov "__init__" (pl env))
   aB j f first (HQ j (BP [.Name "self" u,.Name "words" r] env)) (KQ j (G_ [] env))))
  (H:∀env:JT,FJ (.Name fld O) (some (.Attribute (.Name "self" U) fld Q)) M.line env=pure false)(F:∀env:JT,FJ (.Call (.Attribute (.Name "WebError" p1) "__init__" v) [.Name "self" u,.Name "words" r] [] j) none Z.line env=pure false)
  (L:∀(T:BK)(kV g B i ct:A_)(an:Option BK)(m:List A_),m.length=3->∃k:Option (Array A_)->Sem (List (BV×A_)),O_ (PySem.W.fnOf "__init__" qual (Es st) (Cp st) (Av st) (.ref T) kV g B an i ct) ⟨m,[]⟩=QT (.ref T) >>= k/\k (some #[.none])=pure ((["self","words",fld]:List BV).zip m)):RC1 P w K mg base c fld:=by
 obtain⟨C,W,fI,T,kV,g,B,i,ct,oc,an,od,aa,z,lk,cc,o,n,lt,hd⟩:=q;have b:=L T kV g B i ct an;rw[hb]at lk b;refine⟨C,W,fI,_,PySem.W.mg_of Y G z.ec.at_,z,we4 lk cc S z (PySem.W.mg_of Y G z.ec.top) I J v0 v1 v2 hg ht H F,λs m E hl=>?_⟩;rw[WW]at hl ⊢;refine Am (λk h1 h2=>?_) (b m hl);exact PySem.W.binds_K E rfl lt hd h1 h2
end
variable {g:Ev->R Unit}{m:List D->R D}{n:Nat}
section
variable {b:CN}{es:List CN}{fs:Ev->R (List D)}{h j cpos:JG}{o:BV}{k:Nat}{ps:List BV}
def rs0(r:V6 X c)(z:X.calm=true)(h:RC0 X.K X.mg x)(q:PXw X c n e g)(u:Gl X x:=by rfl)(i:Zd x:=by decide)
  (v:BP [e] X.env=[(false,CZ e X.env)]:=by rfl):PSd X c (.Raise (some (.Call (.Name x j) [e] [] cpos)) none y) (jD x g):=by
 revert h;refine Bm λC W s B=>?_;exact kv6 r z s B q u i v
def rs1(z:V6 X c)(H:X.calm=true)(v:El 2 X.A)(h:RC1 X.prog X.w X.K X.mg X.base x fld)(s:PXw X c n e g)(u:PEd X c l b f)(E:Gl X x:=by rfl)(r:Zd x:=by decide)
  (G:BP [e,b] X.env=(false,CZ e X.env)::BP [b] X.env:=by rfl)(q:BP [b] X.env=(false,CZ b X.env)::BP [] X.env:=by rfl)(i:Zp X.env cpos [b]:=by rfl):
  PSd X c (.Raise (some (.Call (.Name x j) [e,b] [] cpos)) none y) (jC x fld g f):=by
 revert h;refine jL λC W M L B J F I=>?_;exact kv7 z H v B J F I s u E r G q i
def Qz(z:X.mg "isinstance" = none)(h:RCI X.K X.mg x)(F:PEd X c l e f)(B:Gl X "isinstance":=by rfl)(q:Gl X x:=by rfl)(s:Zd x:=by decide)
  (E:BP [e,.Name x w] X.env=(false,CZ e X.env)::BP [.Name x w] X.env:=by rfl)(r:BP [.Name x w] X.env=(false,CZ (.Name x w) X.env)::BP [] X.env:=by rfl)(i:Zp X.env y [.Name x w]:=by rfl):
  PEd X c .fr (.Call (.Name "isinstance" p) [e,.Name x w] [] y) (b1 f (isE x)):=by
 revert h;refine Bo λC W u G v=>?_;exact ym8 z u G v F B q s E r i
def yp9(i:Nat){r:DR}{q:List DR}{g:Ev->R Ev}{E:Ev->R Fl}{s:JG}(I:TB X c st g)(z:∀L:A_,Vl (X.mrk L) c (r::q) E)(h:RCW X.K X.mg)(v:X.stack=X.env::X.outer/\X.env.frame=some X.env.locals)(nd:X.N.Nodup)
  (hi:c.O.contains i=false:=by rfl)(J:X.N[i]? = some o:=by rfl)(G:X.env.scope.names.lookup o=some .local:=by rfl)(H:Gl X "WebError":=by rfl):
  PSd X c (.Try [st] [.ExceptHandler (some (.Name "WebError" j)) (some o) (r::q) s] [] [] y) (d9 g i E):=by
 revert h;refine Gk λW F B u=>?_;exact try_ i I z F rfl u B v nd hi J G H
end
variable {nm:BV}{q:Ev->R Ev}{ρ':Ev}
section
variable {fs:Ev->R (List D)}{ρ:Ev}{k h:Ev->R Unit}{ds:List D}{e d:D}{b j:Ev->R Fl}{i:Nat}
@[simp] def Zq:clX fs m ρ=(fs ρ).bind m:=nr rfl
@[simp] def yq4:fV ρ=.ok ():=nr rfl
@[simp] def yq5:tU f ρ=(f ρ).bind smI:=nr rfl
@[simp] def yq6:fU k h ρ=(k ρ).bind λ_=>h ρ:=nr rfl
def tG{i:Int}(h:i.natAbs<2 ^ 200):smI (.int i)=.ok ():=if_pos h
def uT(r:g ρ=.ok ())(s:f ρ=.ok d)(o:Vu d=true):jC nm A g f ρ=.exc (.exc nm [.str A] [d]):=by unfold jC;rw[r,R.ok_bind,s,R.ok_bind,if_pos o]
def uU(o:g ρ=.ok ()):jD nm g ρ=.exc (.exc nm [] []):=by unfold jD;rw[o,R.ok_bind]
def Fe{o:Ev->R Fl}(h:o (Ag n ds)=.exc e):Ci n o ds=.exc e:=by unfold Ci;rw[h];rfl
def Kw(h:b ρ=.exc e):sq b j ρ=.exc e:=by unfold sq;rw[h];rfl
def Kd(h:f ρ=.exc e):drp f ρ=.exc e:=by unfold drp;rw[h];rfl
def wy8(h:fs ρ=.ok ds)(o:m ds=.ok d):tbG fs m ρ=.ok ρ:=by unfold tbG;rw[h,R.nox_ok,R.ok_bind,o];rfl
def vC(h:fs ρ=.ok ds)(o:m ds=.exc e):tbG fs m ρ=.exc e:=by unfold tbG;rw[h,R.nox_ok,R.ok_bind,o];rfl
def xN{gb:Ev->R Fl}(h:q ρ=.exc d)(o:aL d=true)(r:gb (ρ.set i (some d))=.ok (.nx ρ')):d9 q i gb ρ=.ok (.nx (ρ'.set i none)):=by unfold d9;rw[h];show(if aL d=true then unS i (gb (ρ.set i (some d))) else .bad)=_;rw[if_pos o,r];rfl
def wm2{gb:Ev->R Fl}(h:q ρ=.ok ρ'):d9 q i gb ρ=.ok (.nx ρ'):=by unfold d9;rw[h]
def nT{c:BV}{fs:List D}{b:Bool}(r:¬ (c = "dict"\/c = "dictK"))(o:decide (c=nm)=b):isE nm (.exc c ks fs)=some (.bl b):=by show(if c = "dict"\/c = "dictK" then none else some (D.bl (decide (c=nm))))=_;rw[if_neg r,o]
def wq5{c:BV}(h:Vu d=true)(r:c ≠ "dict")(o:c ≠ "dictK"):jH A (.exc c [.str A] [d])=some d:=by show(if A=A/\Vu d=true/\c ≠ "dict"/\c ≠ "dictK" then some d else none)=_;exact if_pos ⟨rfl,h,r,o⟩
end
def bM(d:D):Bool:=d.cok 3 && (d.py.showable && (!d.py.hasDict && (decide (d.py.depth<=10) && decide (d.py.shown.length<=2000))))
def smT:D->R Unit
 | .tup b=>if bM (.tup b)=true then .ok () else .bad
 |_=>.bad
def wdT(f:Ev->R D):Ev->R Unit:=λb=>(f b).bind smT
def yd2{ρ:Ev}{ds:List D}(h:f ρ=.ok (.tup ds))(b:bM (.tup ds)=true):wdT f ρ=.ok ():=by unfold wdT;rw[h,R.ok_bind];exact if_pos b
theorem wdt(hg:X.A.guards=some [])(hu:X.A.units+70<HX)(h:PEd X c l e f):PXw X c 2000 (.FormattedValue e (-1) none y) (wdT f):=λj s G H Q I q=>by
 obtain⟨hs,ρ,E,q⟩:=q;refine aC (thn (h j s G H (λv i=>∃(a:BK)(ds:List D)(S:AS),v=.ref a/\bM (.tup ds)=true/\Rep X.K i S (.tup ds) v/\∀x:BV,x.length<=2000->Q (.str x) i) I (Ba E ((RQ.bind.mp q).mono (λd o v i B E1 r=>?_) λ_ z=>z))) λu B hh=>?_)
 ·cases d with
  |tup ds =>
   have k:RQ (if bM (.tup ds)=true then R.ok () else .bad) _ _:=o;by_cases b:bM (.tup ds)=true
   ·rw[if_pos b]at k;obtain⟨a,T,rfl,hv,Y⟩:=r;exact⟨a,ds,_,rfl,b,⟨a,T,rfl,hv,Y⟩,λx hx=>k x i B hx⟩
   ·rw[if_neg b]at k;exact k.elim
  |_=>exact o.elim
 ·obtain⟨v,i,F,r,a,ds,S,ev,b,Z,o⟩:=hh;subst ev;obtain rfl:u=Value.ref a:=r;unfold bM at b;simp only[QH,XH,decide_eq_true_eq]at b;obtain⟨O,M,L,z4,J⟩:=b;have⟨as,rd⟩:=Cw F 3 (.tup ds) (.ref a) (.ref a) O Z rfl;refine formatField_of_reads rd M (PyData.noDict_hsm L) hg (by lia) (λ_ _ e=>e) (λh' u U hk=>⟨.str _,i,F.kept (t':=U) hk,⟨_,rfl⟩,o _ J⟩) (by rw[CQ];lia)
open PySem PySem.Spec PyProof.Rows L2
open PySem PySem.Spec PyProof.Rows L2 PySem.W
def oU{K:B_}{H:Hp}{S:AS}:∀{ds:List D}{xs:List V}{ns:List Int},An K H S ds xs->Ax ds=some ns->xs=ns.map V.int
 | [],xs,ns,b,h=>by cases h;cases(show xs=[] from b);rfl
 |d::ds,xs,ns,b,h=>by
  obtain⟨v,r,rfl,j,i⟩:=b;cases d with
  |int a=>have s:(Ax ds).map (a::·)=some ns:=h;have⟨u,o,k⟩:=qU.mp s;subst k;cases(show v=.int a from j);rw[oU i o];rfl
  |_=>cases h
def ym7(k:Int):A_->Bool
 | .int a _=>a == k
 |_=>false
def vA:∀{ns:List Int}{its:List A_},Vals (ns.map V.int) its->∀(m:Nat)(b:m<its.length),∃t,its[m]=Value.int (ns.getD m 0) t
 | [],its,h,m,b=>by cases h;cases b
 |a::ns,its,h,m,b=>by
  cases h with
  |cons r t =>
   cases m with
   |zero=>exact r
   |succ m=>exact vA t m (by simpa using b)
end PD
namespace HT
open PySem PyProof.Rows L2
def Rt{prog:BZ}{w:CV}{A:DK}{E:A_->BJ->Prop}{s:BJ}{t b:BK}{items:Array A_}{i g:A_}{lo hi:Option Int}{Q:A_->BJ->Prop}(ht:QG s.heap t items)(k:s.heap.IsSliceOf b i g .none)(pl:QS i lo)(l:QS g hi)
  (j:sIx items.size 0 lo=0/\sIx items.size items.size hi=items.size)(h:Q (.ref t) s):BL (BR prog w) A (RT (.ref t) (.ref b)) Q E s:=by
 have⟨m,c,e,n⟩:=id k;have f:s.TypeIs (.ref b) "slice":=⟨m,c,e⟩;unfold RT
 try with_reducible refine CT ?_
 first |refine BX (CW ?_) |skip
 refine BX (cO ht.typeIs (by decide) ?_);refine BX (DW (name:=Str.ofString "__getitem__") ht.typeIs PyProof.Rows.slot_tuple_getitem
  (C_ PyProof.Rows.slot_tuple_getitem ht.typeIs aZ ?_ (cL _ _)))
 show BL _ _ (Builtin.Tuple.tupleItemsOf (.ref t) >>= _) _ _ s;refine BX (tupleItemsOf_ ht ?_);refine BX (JH f ?_);rw[if_pos (by decide)];refine BX (Lb k pl l ?_);have a:(((sIx items.size 0 lo:Nat):Int) == 0 && (1:Int) == 1 && (sIx items.size items.size hi - sIx items.size 0 lo) == items.size)=true:=by rw[j.1,j.2];simp
 show BL _ _ (if(((sIx items.size 0 lo:Nat):Int) == 0 && (1:Int) == 1 && (sIx items.size items.size hi - sIx items.size 0 lo) == items.size)=true then _ else _) _ _ s;rw[if_pos a];refine BX (BX (JH ht.typeIs (CW ?_)));rw[if_pos (by decide)];exact BX (wpAny_rule (CW ⟨_,rfl,CW h⟩))
end HT
namespace PD
open PySem PySem.Spec PyProof.Rows L2
def yo5(K:B_):V->Option Int->Option Int->Hp->VK->Prop:=λx c e H Q=>∃a b,x=.ref a/\SqT K H a b/\(HT.sIx b.length 0 c=0/\HT.sIx b.length b.length e=b.length)/\Q (.ref a) H
variable {X:Cx}{c:DC}{l:Lv}{J:JG}
section
variable {f:Ev->R D}
def wl5:SlR X (yo5 X.K):=by
 intro g s u H x v y w A C z Q I k p pl m h;obtain⟨a,j,rfl,n,o,q⟩:=h;cases k;have⟨e,r,i,B⟩:=I.tuple n;have b:e.toArray.size=j.length:=by rw[KJ];exact r.length.symm
 exact⟨"tuple",_,PyProof.Rows.slot_tuple_getitem.lookup,i.typeIs,HT.Rt i p pl m (by rw[b];exact o) ⟨.ref a,H,I,rfl,q⟩⟩
def slW:D->Option Int->Option Int->Option D
 | .lst a,b,e=>some (.lst (cutD a b e))
 | .tup a,b,e=>some (.tup (cutD a b e))
 |_,_,_=>none
def Ou{e:CN}{lo hi:Option CN}{B C:Ev->R (Option Int)}{I:JG}(O:PEd X c l e f)(L:POd X c lo B)(M:POd X c hi C):PEd X c l (.Subscript e (.Slice lo hi none I) J) (bS f B C slW):=PE.imp (yE (SlR.or (SlR.or vH t7) wl5) O L M) λZ H Q q=>by
 revert q;refine Bm λhs ρ E q=>?_;refine Ba E ((RQ.bind.mp q).mono (λT K x H1 k Y A=>?_) λ_ z=>z);refine S6 Y ((RQ.bind.mp K).mono (λi G H2 a U=>?_) λe z=>Bq z k);refine S6 U ((RQ.bind.mp G).mono (λj F H3 b E3=>?_) λe z=>Bq z (k.trans a));refine Am (λd e v=>?_) (F.of);cases T<;>try cases e
 ·rename_i h;revert A;refine Bo λp n y u o=>?_;obtain rfl:=y;have g:=o.length;by_cases s:HT.sIx h.length 0 i=0/\HT.sIx h.length h.length j=h.length
  ·refine .inr ⟨p,n,rfl,Af.sqT (a.trans b) (TpR.sq u),by rw[<-g];exact s,?_⟩;have P:cutD h i j=h:=by unfold cutD;rw[s.1,s.2];simp
   rw[P]at v;exact v _ _ ((k.trans a).trans b) ⟨p,n,rfl,TpR.of ((a.trans b) _ _ u),o.mono (a.trans b) λ_ z=>z⟩
  ·rw[g]at s;refine .inl (.inr ⟨p,n,rfl,Af.sqT (a.trans b) (TpR.sq u),s,λr m=>?_⟩);exact v _ _ (((k.trans a).trans b).trans (Aj m _)) ⟨r,_,rfl,TpR.of Ah,((o.mono (a.trans b) λ_ z=>z).cut i j).mono (Aj m _) λ_ z=>z⟩
 ·revert A;refine Bo λp n w u o=>?_;obtain rfl:=w;refine .inl (.inl ⟨p,n,rfl,(u.same (a.trans b) λ_ z=>z).sq,λr m=>?_⟩);exact v _ _ (((k.trans a).trans b).trans (Aj m _)) ⟨r,_,rfl,.inl ⟨Ah,Ob E ⟨r,rfl,((k.trans a).trans b).free m⟩⟩,((o.mono (a.trans b) λ_ z=>z).cut i j).mono (Aj m _) λ_ z=>z⟩
end
open PySem PySem.Spec PyProof.Rows L2 PySem.W
def Xc(f1 f2:Ev->R D):Ev->R D:=λa=>(f1 a).bind λx=>match x with
 | .lst b=>(f2 a).bind λy=>match y with
  | .int k=>R.of ((Ax b).bind λbs=>if k∈bs then some (.int (bs.idxOf k:Nat)) else none)
  |_=>.bad
 |_=>.bad
variable {f1 f2:Ev->R D}
def kp7:∀e d,Xc f1 f2 e=.ok d->d.imm=true:=λe d h=>by
 refine Am (λx m h=>?_) (Bp h);cases x with
 |lst f =>
  refine Am (λy j h=>?_) (Bp (show(f2 e).bind (λy=>match y with | .int k=>R.of ((Ax f).bind λbs=>if k∈bs then some (D.int (bs.idxOf k:Nat)) else none) |_=>.bad)=_ from h));cases y with
  |int k =>
   have b:R.of ((Ax f).bind λbs=>if k∈bs then some (D.int (bs.idxOf k:Nat)) else none)=.ok d:=h;cases i:Ax f with
   |none=>rw[i]at b;cases b
   |some z =>
    rw[i]at b;have a:R.of (if k∈z then some (D.int (z.idxOf k:Nat)) else none)=.ok d:=b;by_cases g:k∈z
    ·rw[if_pos g]at a;cases a;rfl
    ·rw[if_neg g]at a;cases a
  |_=>cases h
 |_=>cases h
def wq7{ρ:Ev}{ns:List Int}{k:Int}(e:f1 ρ=.ok (.lst (ns.map .int)))(b:f2 ρ=.ok (.int k))(a:k∈ns):Xc f1 f2 ρ=.ok (.int (ns.idxOf k:Nat)):=by unfold Xc;rw[e,R.ok_bind];show(f2 ρ).bind _=_;rw[b,R.ok_bind];show R.of ((Ax (ns.map .int)).bind _)=_;rw[Tz];show R.of (if k∈ns then _ else _)=_;rw[if_pos a];rfl
def yh6(K:B_):V->List V->Hp->VK->Prop:=λx e H Q=>∃S b k a,Rep K H S (.lst b) x/\e=[.int k]/\Ax b=some a/\k∈a/\Q (.int (a.idxOf k:Nat)) H
variable {e:CN}
section
variable {o:CN}{f1 f2:Ev->R D}
theorem wg7:MtR X "list.index" (yh6 X.K):=by
 intro C s σ H x vs v us Q I P T h;obtain⟨S,ds,k,b,hx,rfl,hi,hb,q⟩:=h;obtain⟨a,xs,rfl,hl,hr⟩:=hx;cases P;obtain⟨u,rfl,U⟩:=T.one;obtain⟨t,rfl⟩:=(show ∃t,u=Value.int k t from U);have⟨f,r,pl,Y⟩:=I.list hl.sq;have ex:=oU hr hi;subst ex;have at_:=vA r;have A:b.idxOf k<b.length:=fP hb;have G:f.length=b.length:=by have:=r.length;simpa using this.symm
 obtain⟨⟨cls,dd,data,O⟩,E,M,n,L⟩:=pl.isList;simp only at M L;subst M L;have g:((b.idxOf k:Nat):Int)<2 ^ 63 - 1:=by
  have h1:f.length<=sizeLine:=by rw[<-r.length];exact Y
  rw[CQ]at h1;lia
 refine MJ PySem.F.slot_list_index ⟨_,E,rfl⟩ PySem.F.entry_list_index (PySem.F.args_list_index_2 _ _) (SeqAt.list_indexAt a f.toArray n dd O (.int k t) (ym7 k) (b.idxOf k) (by rw[KJ];lia) g ?_ ?_) ⟨E,λy Z=>?_,?_⟩
 ·have⟨B,i⟩:=at_ (b.idxOf k) (by lia);rw[jGl,i];show(b.getD (b.idxOf k) 0 == k)=true;rw[NQ,GJ A,WD,iQ];simp
 ·intro m j z;rw[KJ]at j;have⟨B,i⟩:=at_ m j;rw[jGl,i];show(b.getD m 0 == k)=false;rw[NQ,GJ (by lia),WD];have:=jFv (xs:=b) (p:=(· == k)) z;simpa using this
 ·have w:y∈f:=by simpa using Z
  obtain⟨m,j,rfl⟩:=YZ.mp w;have⟨B,i⟩:=at_ m j;rw[i];exact(MeetsSeq.EqGives.int _ _ _ _).at _ _
 ·exact⟨.int (b.idxOf k:Nat),H,I.tok _,(show ∃t,Value.int (b.idxOf k:Nat) s.toks=Value.int (b.idxOf k:Nat) t from⟨_,rfl⟩),q⟩
def ye2{apos b:JG}(L:PEd X c l o f1)(O:PEd X c l e f2)(j:GD o "index" X.env (CZ o X.env)=CZ o X.env:=by rfl)
  (n:((HQ b (BP [e] X.env)).all (λx=>!x.1) && (KQ b (G_ [] X.env)).all (λx=>x.1.isSome)
   && decide ([e].length+([]:List JB).length+(if([]:List JB).isEmpty then 0 else 1)<30))=true:=by rfl)
  (i:(apos.endLine == b.line)=true:=by rfl)(p:BP [e] X.env=(false,CZ e X.env)::BP [] X.env:=by rfl)(f:Zp X.env b []:=by rfl):
  PEd X c l (.Call (.Attribute o "index" apos) [e] [] b) (Xc f1 f2):=
 PE.imp (gM PySem.F.plainAttrs_list PySem.F.slot_list_index PySem.F.type_list_index wg7 L (ac O an p) j n i p f) λY H Q h=>by
 revert h;refine Bm λp Z E q=>?_;refine Ba E ((RQ.bind.mp q).mono (λT B x H1 v U w=>?_) λ_ z=>z);cases T with
 |lst C =>
  refine Bo (λa G m M hr=>?_) (id w);obtain rfl:=m;refine⟨.inl ⟨rfl,G,M.sq⟩,?_⟩;refine pD U ((RQ.bind.mp B).mono (λP A y H2 u E2 I=>?_) λe z=>Bq z v);cases P with
  |int k =>
   refine Am (λd e K=>?_) ((show RQ (R.of ((Ax C).bind λbs=>if k∈bs then some (D.int (bs.idxOf k:Nat)) else none)) _ _ from A).of);refine Am (λbs s g=>?_) (iT.mp e);by_cases r:k∈bs
   ·rw[if_pos r]at g;cases g;cases(show y=.int k from I);exact⟨_,C,k,bs,w.mono u (λ_ z=>z),rfl,s,r,K _ _ (v.trans u) rfl⟩
   ·rw[if_neg r]at g;cases g
  |_=>exact(A:False).elim
 |_=>exact(B:False).elim
end
def pP:Bool->LQ->Array LQ->Nat->Nat->Nat->StateT BW Sem (Option Nat):=sortPriv% PySem.Builtin.gallop
def ks8:Array LQ->Array LQ->StateT BW Sem (Array LQ):=sortPriv% PySem.Builtin.mergeLo
def ks7:Array LQ->Array LQ->StateT BW Sem (Array LQ):=sortPriv% PySem.Builtin.mergeHi
variable {A:DK}{it:Array LQ}{O:KeyOrd}{prog:BZ}{s:BJ}{κ:RX}{E:A_->BJ->Prop}{w:CV}{key:Nat->O.α}
def Tr(prog:BZ)(w:CV)(A:DK)(E:A_->BJ->Prop)(s:BJ){f:Type}(m:StateT BW Sem f)(st:BW)(R:f->BW->Prop):Prop:=
 ∀(tk:Nat)(Q:f->BW->BJ->Prop),(∀a b g,R a b->Q a b {s with toks:=g})->kasC (BR prog w) A E m Q st {s with toks:=tk}
def Ac{b:Type}{a:b}{st:BW}{R:b->BW->Prop}(h:R a st):Tr prog w A E s (pure a) st R:=λf Q q=>eV (q a st f h)
def Aw{g j:Type}{m:StateT BW Sem g}{f:g->StateT BW Sem j}{st:BW}{R:g->BW->Prop}{k:j->BW->Prop}(h:Tr prog w A E s m st R)(o:∀a b,R a b->Tr prog w A E s (f a) b k):Tr prog w A E s (m >>= f) st k:=
 λn Q q=>KC (h n _ λa b i r=>o a b r i Q q)
def Le{g:Type}{m:StateT BW Sem g}{st:BW}{R i:g->BW->Prop}(h:Tr prog w A E s m st R)(k:∀a b,R a b->i a b):Tr prog w A E s m st i:=λj Q q=>h j Q λa b f r=>q a b f (k a b r)
def Jl{a:Type}{f:BW->StateT BW Sem a}{st:BW}{R:a->BW->Prop}(h:Tr prog w A E s (f st) st R):Tr prog w A E s (get >>= f) st R:=λb Q q=>KC (kasC_get (h b Q q))
def Kq{a:Type}{g:BW->BW}{f:PUnit->StateT BW Sem a}{st:BW}{R:a->BW->Prop}(h:Tr prog w A E s (f ⟨⟩) (g st) R):Tr prog w A E s (modify g >>= f) st R:=λb Q q=>KC (kasC_modify (h b Q q))
def Lg{a:Type}{x:String}{f:PUnit->StateT BW Sem a}{st:BW}{R:a->BW->Prop}(h:Tr prog w A E s (f ⟨⟩) st R):Tr prog w A E s (liftM (rule x) >>= f) st R:=λb Q q=>KC (kasC_lift (wpAny_rule (h b Q q)))
variable {b:Nat}
theorem Ea{m:Type}{a:Nat}{f:Nat->m->StateT BW Sem (ForInStep m)}(I:Nat->m->BW->Prop){Q:m->BW->Prop}
  (j:∀i c st,a<=i->i<b->I i c st->Tr prog w A E s (f i c) st (λr g=>match r with | .done k=>Q k g | .yield k=>I (i+1) k g))
  (u:∀c st,I (max a b) c st->Q c st){c:m}{st:BW}(h:I a c st):Tr prog w A E s (forIn [a:b] c f) st Q:=by
 have C:∀(n i:Nat)(c:m)(st:BW),a<=i->i+n=max a b->I i c st->Tr prog w A E s (forIn (List.range' i n) c f) st Q:=by
  intro n;induction n with
  |zero=>intro i c st _ y h p v q;exact kasC_nil (q c st p (u c st (by rw[<-y];exact h)))
  |succ n z =>
   intro i c st B y h p v q;rw[jHj];refine kasC_cons (j i c st B (by lia) h p _ λr g o x=>?_);cases r with
   |done k=>exact q k g o x
   |yield k=>exact z (i+1) k g (by lia) (by lia) x o v q
 intro p v q;exact kasC_range (C (b - a) a c st (FW _) (by lia) h p v q)
def Ao(it:Array LQ)(l:List Nat):Array LQ:=(l.map (DP it)).toArray
def kk5(l:List Nat)(i:Nat):(Ao it l)[i]? = (l[i]?).map (DP it):=by unfold Ao;simp
def Bk(l:List Nat):(Ao it l).size=l.length:=by unfold Ao;simp
variable {i:Nat}
def Be{a:Type}{l:List Nat}{k:Nat}{f:LQ->StateT BW Sem a}{st:BW}{R:a->BW->Prop}(h:l[i]? = some k)(j:Tr prog w A E s (f (DP it k)) st R):Tr prog w A E s (elem' (Ao it l) i >>= f) st R:=by rw[elem'_eq,kk5,h];exact λg Q q=>KC (eV (j g Q q))
def Ans(prog:BZ)(w:CV)(A:DK)(s:BJ)(κ:RX)(it:Array LQ)(key:Nat->O.α)(n:Nat):Prop:=
 ∀(i j:Nat)(C:Bool->BJ->Prop)(tk:Nat),i<n->j<n->(∀a,C (ltO key i j) {s with toks:=a})->kas_cmp prog w A κ it i j C {s with toks:=tk}
variable {j:Nat}
def gY{g:Type}{n:Nat}{f:Option Bool->StateT BW Sem g}{st:BW}{R:g->BW->Prop}(an:Ans prog w A s κ it key n)(hi:i<n)(o:j<n)(m:kindOf st=κ)(u:Tr prog w A E s (f (some (ltO key i j))) st R):
  Tr prog w A E s (lt' (DP it i) (DP it j) >>= f) st R:=λh Q q=>by
 rw[lt'_eq];refine KC (KC (kasC_get ?_));refine KC (kasC_lift (IK (D_ (show BL (BR prog w) A (keyLt' (kindOf st) (DP it i).1 (DP it j).1) (λc k=>kasC (BR prog w) A E (f (some c)) Q st k) (λ_ _=>False) {s with toks:=h} from ?_) (λc k p=>?_) λ_ _ r=>r.elim)))
 ·rw[m];exact an i j _ h hi o λa=>u a Q q
 ·exact eV p
def bz(key:Nat->O.α)(left:Bool)(k x:Nat):Bool:=if left=true then ltO key x k else !ltO key k x
variable {L:Nat}{left:Bool}
def wo7{k:Nat}{l:List Nat}{st:BW}{b:Bool}(an:Ans prog w A s κ it key L)(n:k<L)(g:kindOf st=κ){x:Nat}(o:l[i]? = some x)(m:x<L)(p:b=bz key left k x):
  Tr prog w A E s (elem' (Ao it l) i >>= λy=>if left=true then lt' y (DP it k) else(lt' (DP it k) y >>= λr=>pure (r.map λz=>!z))) st (λr a=>a=st/\r=some b):=by
 refine Be o ?_;subst p;unfold bz;cases left with
 |true=>rw[if_pos rfl,if_pos rfl];have h:=gY (prog:=prog) (E:=E) (f:=λr=>pure r) (R:=λr a=>a=st/\r=some (ltO key x k)) an m n g (Ac ⟨rfl,rfl⟩);rwa [bind_pure]at h
 |false=>rw[if_neg (by decide),if_neg (by decide)];exact gY an n m g (Ac ⟨rfl,rfl⟩)
abbrev GS:=Option (Option Nat)×Nat×Nat
def Cut(b:Nat->Bool)(n lo hi:Nat):Prop:=(∀i,i<lo->b i=true)/\∀i,hi<=i->i<n->b i=false
variable {lo hi:Nat}
theorem zF{n:Nat}{b:Nat->Bool}{st:BW}{f:Nat->GS->StateT BW Sem (ForInStep GS)}
  (mono:∀i j,i<=j->j<n->b j=true->b i=true)
  (F:∀x lo hi,lo≥hi->Tr prog w A E s (f x (none,lo,hi)) st (λr a=>a=st/\r=.done (none,lo,hi)))
  (C:∀x lo hi,lo<hi->hi<=n->Tr prog w A E s (f x (none,lo,hi)) st (λr a=>a=st/\r=.yield (if b (lo+(hi - lo) / 2)=true then(none,lo+(hi - lo) / 2+1,hi) else(none,lo,lo+(hi - lo) / 2))))(M:lo<=hi)(K:hi<=n)(H:Cut b n lo hi):
  Tr prog w A E s (forIn [0:n] ((none,lo,hi):GS) f) st (λr a=>a=st/\∃m u,r=(none,u,m)/\m<=n/\Cut b n m m):=by
 refine Ea (I:=λx c a=>a=st/\∃lo hi,c=(none,lo,hi)/\lo<=hi/\hi<=n/\hi - lo<=n - x/\Cut b n lo hi) (λx c a _ Q y=>?_) (λc a y=>?_) ⟨rfl,lo,hi,rfl,M,K,by lia,H⟩
 ·obtain⟨rfl,lo,hi,rfl,P,k,z,g⟩:=y;by_cases h:lo≥hi
  ·refine Le (F x lo hi h) λr a p=>?_;obtain⟨rfl,rfl⟩:=p;exact⟨rfl,hi,lo,rfl,k,by rw[show lo=hi by lia]at g;exact g⟩
  ·refine Le (C x lo hi (by lia) k) λr a p=>?_;obtain⟨rfl,rfl⟩:=p;refine⟨rfl,?_⟩;by_cases o:b (lo+(hi - lo) / 2)=true
   ·rw[if_pos o];exact⟨_,_,rfl,by lia,k,by lia,λi B=>mono i _ (by lia) (by lia) o,g.2⟩
   ·rw[if_neg o];refine⟨_,_,rfl,by lia,by lia,by lia,g.1,λi v q=>?_⟩;cases G:b i with
    |false=>rfl
    |true=>exact absurd (mono _ i v q G) o
 ·obtain⟨rfl,lo,hi,rfl,P,k,z,g⟩:=y;rw[show max 0 n=n by lia]at z;exact⟨rfl,hi,lo,rfl,k,by rw[show lo=hi by lia]at g;exact g⟩
variable {hint:Nat}
theorem Zz{k:Nat}{l:List Nat}{base n:Nat}{st:BW}{b:Nat->Bool}(an:Ans prog w A s κ it key L)(hl:∀x∈l,x<L)(hk:k<L)(Y:kindOf st=κ)(hb:base+n<=l.length)(hh:hint<n)
  (ab:∀i x,i<n->l[base+i]? = some x->b i=bz key left k x)(mono:∀i j,i<=j->j<n->b j=true->b i=true):
  Tr prog w A E s (pP left (DP it k) (Ao it l) base n hint) st (λr o=>o=st/\∃m,r=some m/\m<=n/\Cut b n m m):=by
 have hx:∀i,i<n->∃x,l[base+i]? = some x/\x<L:=λi hi=>by
  have M:base+i<l.length:=by lia
  exact⟨_,GJ M,hl _ (RG M)⟩
 have F:=λi (hi:i<n)=>(hx i hi).elim λx z=>wo7 (prog:=prog) (E:=E) (left:=left) (b:=b i) an hk Y z.1 z.2 (ab i x hi z.1);refine Aw (F hint hh) λr o p=>?_;obtain⟨rfl,rfl⟩:=p;dsimp only;by_cases p:b hint=true
 ·rw[if_pos p];refine Aw (R:=λc g=>g=o/\∃a f,c=(none,a,f)/\a<f/\hint+a<n/\b (hint+a)=true/\(n - hint<=f\/(f<n - hint/\b (hint+f)=false))) ?_ λc g y=>?_
  ·refine Ea (I:=λx c g=>g=o/\∃a f,c=(none,a,f)/\a<f/\hint+a<n/\b (hint+a)=true/\x+1<=f) (λx c g _ Z H=>?_) (λc g H=>?_) ⟨rfl,0,1,rfl,by lia,by lia,p,by lia⟩
   ·obtain⟨rfl,a,f,rfl,C,v,q,B⟩:=H;dsimp only;by_cases h:f≥n - hint
    ·rw[if_pos h];exact Ac ⟨rfl,_,_,rfl,C,v,q,.inl h⟩
    ·rw[if_neg h];refine Aw (F (hint+f) (by lia)) λr o p=>?_;obtain⟨rfl,rfl⟩:=p;dsimp only;cases K:b (hint+f) with
     |true=>exact Ac ⟨rfl,_,_,rfl,by lia,by lia,K,by lia⟩
     |false=>exact Ac ⟨rfl,_,_,rfl,C,v,q,.inr ⟨by lia,K⟩⟩
   ·obtain⟨rfl,a,f,rfl,C,v,q,B⟩:=H;exact⟨rfl,_,_,rfl,C,v,q,.inl (by lia)⟩
  ·obtain⟨rfl,a,f,rfl,C,v,q,B⟩:=y;dsimp only;refine Aw (zF (b:=b) mono (λx lo hi h=>?_) (λx lo hi h h2=>?_) (by lia) (by lia) ⟨λi hi=>mono i _ (by lia) v q,λi aa G=>?_⟩) λc Q y=>?_
   ·dsimp only;rw[if_pos h];exact Ac ⟨rfl,rfl⟩
   ·dsimp only;rw[if_neg (by lia)];refine Aw (F (lo+(hi - lo) / 2) (by lia)) λr o p=>?_;obtain⟨rfl,rfl⟩:=p;dsimp only;split
    ·exact Ac ⟨rfl,rfl⟩
    ·exact Ac ⟨rfl,rfl⟩
   ·rcases B with B | ⟨B,P⟩
    ·lia
    ·cases y:b i with
     |false=>rfl
     |true=>rw[mono (hint+f) i (by lia) G y]at P;cases P
   ·obtain⟨rfl,m,u,rfl,U,T⟩:=y;exact Ac ⟨rfl,m,rfl,U,T⟩
 ·rw[if_neg p];have p:b hint=false:=by cases h:b hint;rfl;exact absurd h p
  refine Aw (R:=λc g=>g=o/\∃a f,c=(none,a,f)/\a<f/\a<=hint/\b (hint - a)=false/\(hint+1<=f\/(f<hint+1/\b (hint - f)=true))) ?_ λc g y=>?_
  ·refine Ea (I:=λx c g=>g=o/\∃a f,c=(none,a,f)/\a<f/\a<=hint/\b (hint - a)=false/\x+1<=f) (λx c g _ Z H=>?_) (λc g H=>?_) ⟨rfl,0,1,rfl,by lia,by lia,p,by lia⟩
   ·obtain⟨rfl,a,f,rfl,C,v,q,B⟩:=H;dsimp only;by_cases h:f≥hint+1
    ·rw[if_pos h];exact Ac ⟨rfl,_,_,rfl,C,v,q,.inl h⟩
    ·rw[if_neg h];refine Aw (F (hint - f) (by lia)) λr o p=>?_;obtain⟨rfl,rfl⟩:=p;dsimp only;cases K:b (hint - f) with
     |true=>exact Ac ⟨rfl,_,_,rfl,C,v,q,.inr ⟨by lia,K⟩⟩
     |false=>exact Ac ⟨rfl,_,_,rfl,by lia,by lia,K,by lia⟩
   ·obtain⟨rfl,a,f,rfl,C,v,q,B⟩:=H;exact⟨rfl,_,_,rfl,C,v,q,.inl (by lia)⟩
  ·obtain⟨rfl,a,f,rfl,C,v,q,B⟩:=y;dsimp only;refine Aw (zF (b:=b) mono (λx lo hi h=>?_) (λx lo hi h h2=>?_) (by lia) (by lia) ⟨λi hi=>?_,λi aa G=>?_⟩) λc Q y=>?_
   ·dsimp only;rw[if_pos h];exact Ac ⟨rfl,rfl⟩
   ·dsimp only;rw[if_neg (by lia)];refine Aw (F (lo+(hi - lo) / 2) (by lia)) λr o p=>?_;obtain⟨rfl,rfl⟩:=p;dsimp only;split
    ·exact Ac ⟨rfl,rfl⟩
    ·exact Ac ⟨rfl,rfl⟩
   ·rcases B with B | ⟨B,P⟩
    ·lia
    ·exact mono i (hint - f) (by lia) (by lia) P
   ·cases y:b i with
    |false=>rfl
    |true=>rw[mono (hint - a) i (by lia) G y]at q;cases q
   ·obtain⟨rfl,m,u,rfl,U,T⟩:=y;exact Ac ⟨rfl,m,rfl,U,T⟩
def Ai{a:Type}{c:Prop}[Decidable c]{x y:StateT BW Sem a}{st:BW}{R:a->BW->Prop}(g:c->Tr prog w A E s x st R)(f:¬ c->Tr prog w A E s y st R):Tr prog w A E s (if c then x else y) st R:=by
 by_cases h:c
 ·rw[if_pos h];exact g h
 ·rw[if_neg h];exact f h
def kl(key:Nat->O.α)(x y:Nat):Prop:=O.kle (key x) (key y)
variable {y:Nat}
def Gs{x z:Nat}(f:kl key x y)(a:kl key y z):kl key x z:=KeyOrd.kle_trans f a
def Gq{x:Nat}(h:ltO key x y=true):kl key x y:=KeyOrd.kle_of_klt h
def Et{x:Nat}(h:ltO key y x=false):kl key x y:=h
abbrev Srt(key:Nat->O.α)(l:List Nat):Prop:=l.Pairwise (kl key)
def Px{l:List Nat}(h:Srt key l){x:Nat}(f:i<=j)(k:l[i]? = some x)(g:l[j]? = some y):kl key x y:=by
 obtain⟨n,rfl⟩:=QK.mp k;obtain⟨m,rfl⟩:=QK.mp g;rcases Nat.lt_or_eq_of_le f with a |rfl
 ·exact fO.mp h i j n m a
 ·exact KeyOrd.kle_refl _
theorem Ju{l:List Nat}(h:y∈l.drop i):∃j,i<=j/\l[j]? = some y:=by obtain⟨j,a,rfl⟩:=YZ.mp h;rw[WX]at a;exact⟨i+j,by lia,by rw[iM];exact GJ (by lia)⟩
theorem v5{l:List Nat}{k:Nat}(h:y∈(l.drop i).take k):∃j,j<k/\l[i+j]? = some y:=by obtain⟨j,a,rfl⟩:=YZ.mp h;rw[RC,WX]at a;refine⟨j,by lia,?_⟩;rw[dI,iM];exact GJ (by lia)
def Kf{l:List Nat}(h:Srt key l){x a:Nat}(g:l[i]? = some a)(k:kl key x a):∀y∈l.drop i,kl key x y:=λy f=>by have⟨j,m,e⟩:=Ju f;exact Gs k (Px h m g e)
structure Mg(key:Nat->O.α)(la lb lo:List Nat)(ia ib:Nat):Prop where
 perm:lo.Perm (la.take ia++lb.take ib)
 srt:Srt key lo
 ra:∀x∈lo,∀y∈la.drop ia,kl key x y
 rb:∀x∈lo,∀y∈lb.drop ib,kl key x y
def Md(key:Nat->O.α)(f a r:List Nat):Prop:=r.Perm (f++a)/\Srt key r
def ky7(l:List Nat)(i k:Nat):l.take (i+k)=l.take i++(l.drop i).take k:=by rw[p8]
variable {la lb:List Nat}{ia ib:Nat}
theorem Mg.as{lo:List Nat}(m:Mg key la lb lo ia ib)(g:Srt key la)(k:Nat)(n:∀x∈(la.drop ia).take k,∀y∈lb.drop ib,kl key x y):Mg key la lb (lo++(la.drop ia).take k) (ia+k) ib:=by
 refine⟨?_,?_,λx a y f=>?_,λx a y f=>?_⟩
 ·rw[ky7];refine(m.perm.append_right _).trans ?_;rw[PL,PL];exact cD.append_left _
 ·refine WY.mpr ⟨m.srt,(g.drop).take,λx a y f=>m.ra x a y (mG f)⟩
 ·rcases NT.mp a with h |h
  ·refine m.ra x h y ?_;rw[<-List.drop_drop]at f;exact mF f
  ·have⟨i,hi,p⟩:=v5 h;have⟨j,q,o⟩:=Ju f;exact Px g (by lia) p o
 ·rcases NT.mp a with h |h
  ·exact m.rb x h y f
  ·exact n x h y f
def Mg.swap{lo:List Nat}(m:Mg key la lb lo ia ib):Mg key lb la lo ib ia:=⟨m.perm.trans cD,m.srt,m.rb,m.ra⟩
def Mg.bs{lo:List Nat}(m:Mg key la lb lo ia ib)(f:Srt key lb)(k:Nat)(a:∀x∈(lb.drop ib).take k,∀y∈la.drop ia,kl key x y):Mg key la lb (lo++(lb.drop ib).take k) ia (ib+k):=(m.swap.as f k a).swap
def vJ{l:List Nat}{a:Nat}(h:l[i]? = some a):(l.drop i).take 1=[a]:=by obtain⟨hi,rfl⟩:=QK.mp h;rw[cG hi];rfl
def Mg.a1{lo:List Nat}{a:Nat}(m:Mg key la lb lo ia ib)(n:Srt key la)(h:la[ia]? = some a)(k:∀y∈lb.drop ib,kl key a y):Mg key la lb (lo++[a]) (ia+1) ib:=by
 have:=m.as n 1 λx f y g=>by rw[vJ h,LR]at f;rw[f];exact k y g
 rwa [vJ h]at this
def Mg.b1{lo:List Nat}(m:Mg key la lb lo ia ib)(f:Srt key lb)(h:lb[ib]? = some b)(a:∀y∈la.drop ia,kl key b y):Mg key la lb (lo++[b]) ia (ib+1):=(m.swap.a1 f h a).swap
def Mg.last{lo:List Nat}(m:Mg key la lb lo ia ib)(n:Srt key la)(k:Srt key lb)(g:∀x∈lb.drop ib,∀y∈la.drop ia,kl key x y):Md key la lb (lo++lb.drop ib++la.drop ia):=by
 refine⟨?_,?_⟩
 ·have o:(la++lb)=(la.take ia++la.drop ia)++(lb.take ib++lb.drop ib):=by rw[YB,YB]
  rw[o];refine((m.perm.append_right _).append_right _).trans ?_;rw[PL,PL,PL];refine List.Perm.append_left _ ?_;refine List.Perm.trans ?_ cD;rw[PL]
 ·refine WY.mpr ⟨WY.mpr ⟨m.srt,k.drop,m.rb⟩,n.drop,λx a y f=>?_⟩;rcases NT.mp a with h |h
  ·exact m.ra x h y f
  ·exact g x h y f
def Mg.done{lo:List Nat}(m:Mg key la lb lo ia ib)(g:Srt key la)(f:Srt key lb)(a:∀x∈la.drop ia,∀y∈lb.drop ib,kl key x y):Md key la lb (lo++la.drop ia++lb.drop ib):=by have:=m.swap.last f g a;exact⟨this.1.trans cD,this.2⟩
def Ae(lo:List Nat)(k:Nat):(Ao it lo).push (DP it k)=Ao it (lo++[k]):=by unfold Ao;simp
def Dh(a b:List Nat):Ao it a++Ao it b=Ao it (a++b):=by unfold Ao;simp
def zJ(l:List Nat)(i:Nat):(Ao it l).extract i (Ao it l).size=Ao it (l.drop i):=by unfold Ao;apply ZS;simp;exact mJ (by simp)
def Gf(l:List Nat)(i k:Nat):(Ao it l).extract i (i+k)=Ao it ((l.drop i).take k):=by unfold Ao;apply ZS;simp
structure Kp(st st':BW):Prop where
 kind:kindOf st'=kindOf st
 arr:MT st'=MT st
 pend:CJ st'=CJ st
 fail:HW st'=HW st
def Kp.refl(st:BW):Kp st st:=⟨rfl,rfl,rfl,rfl⟩
def O1{k:Type}{g:BW->BW}{f:PUnit->StateT BW Sem k}{st0 st:BW}{R:k->BW->Prop}(h:Kp st0 (g st))(m:∀a,Kp st0 a->Tr prog w A E s (f ⟨⟩) a R):Tr prog w A E s (modify g >>= f) st R:=Kq (m _ h)
def S5{l:List Nat}(h:(i == (Ao it l).size)=true):i=l.length:=by rw[Bk]at h;exact beq_iff_eq.mp h
def Sy{l:List Nat}(h:¬ (i == (Ao it l).size)=true):i≠l.length:=λe=>h (by rw[Bk,e];exact beq_self_eq_true _)
def Vy(lo la lb:List Nat)(ia ib:Nat):Ao it lo++(Ao it la).extract ia (Ao it la).size++(Ao it lb).extract ib (Ao it lb).size=Ao it (lo++la.drop ia++lb.drop ib):=by rw[zJ,zJ,Dh,Dh]
def Ur(lo la lb:List Nat)(b ia ib:Nat):(Ao it lo).push (DP it b)++(Ao it la).extract ia (Ao it la).size++(Ao it lb).extract ib (Ao it lb).size=Ao it (lo++[b]++la.drop ia++lb.drop ib):=by rw[Ae,Vy]
def kW(lo la lb a:List Nat)(i k ia ib:Nat):Ao it lo++(Ao it a).extract i (i+k)++(Ao it la).extract ia (Ao it la).size++(Ao it lb).extract ib (Ao it lb).size=Ao it (lo++(a.drop i).take k++la.drop ia++lb.drop ib):=by rw[Gf,Dh,Vy]
def n_{x:Nat}(h:bz key false b x=true):kl key x b:=by unfold bz at h;rw[if_neg (by decide)]at h;exact Et (by simpa using h)
def oA{x:Nat}(h:bz key false b x=false):kl key b x:=by unfold bz at h;rw[if_neg (by decide)]at h;exact Gq (by simpa using h)
def gV{a x:Nat}(h:bz key true a x=true):kl key x a:=by unfold bz at h;rw[if_pos rfl]at h;exact Gq h
def gW{a x:Nat}(h:bz key true a x=false):kl key a x:=by unfold bz at h;rw[if_pos rfl]at h;exact Et h
def wU{l:List Nat}(n:Srt key l){k x:Nat}(f:i<=j)(m:l[i]? = some x)(g:l[j]? = some y)(h:bz key left k y=true):bz key left k x=true:=by
 have a:kl key x y:=Px n f m g;unfold bz at h ⊢;cases left with
 |true =>
  rw[if_pos rfl]at h ⊢;cases o:ltO key x k with
  |true=>rfl
  |false=>have:kl key k y:=Gs (Et o) a;exact absurd h (by rw[show ltO key y k=false from this];decide)
 |false=>rw[if_neg (by decide)]at h ⊢;have p:kl key y k:=Et (by simpa using h);have:kl key x k:=Gs a p;rw[show ltO key k x=false from this];rfl
def gb(key:Nat->O.α)(left:Bool)(k:Nat)(l:List Nat)(base:Nat)(i:Nat):Bool:=bz key left k ((l[base+i]?).getD 0)
theorem Je{k:Nat}{l:List Nat}{base n:Nat}{st:BW}(an:Ans prog w A s κ it key L)(z:∀x∈l,x<L)(u:Srt key l)(B:k<L)(o:kindOf st=κ)(I:base+n<=l.length)(H:hint<n):
  Tr prog w A E s (pP left (DP it k) (Ao it l) base n hint) st (λr a=>a=st/\∃m,r=some m/\m<=n/\(∀x∈(l.drop base).take m,bz key left k x=true)/\(∀j y,base+m<=j->j<base+n->l[j]? = some y->bz key left k y=false)):=by
 refine Le (Zz (b:=gb key left k l base) an z B o I H (λi x _ p=>by unfold gb;rw[p];rfl) (λi j G M h=>?_)) λr a v=>?_
 ·unfold gb at h ⊢;have g:base+i<l.length:=by lia
  have f:base+j<l.length:=by lia
  rw[GJ g];rw[GJ f]at h;exact wU u (by lia) (GJ g) (GJ f) h
 ·obtain⟨rfl,m,rfl,g,f,K⟩:=v;refine⟨rfl,m,rfl,g,λx p=>?_,λj y F C q=>?_⟩
  ·have⟨i,hi,e⟩:=v5 p;have:=f i hi;unfold gb at this;rwa [e]at this
  ·have:=K (j - base) (by lia) (by lia);unfold gb at this;rwa [show base+(j - base)=j by lia,q]at this
theorem jt4{st:BW}(an:Ans prog w A s κ it key L)(ao:∀x∈la,x<L)(af:∀x∈lb,x<L)(g:Srt key la)(n:Srt key lb)(na:1<=la.length)(nb:1<=lb.length)
  (first:∀a b,la[0]? = some a->lb[0]? = some b->kl key b a)(top:∀x∈lb,∀y,la[la.length - 1]? = some y->kl key x y)(ae:kindOf st=κ):
  Tr prog w A E s (ks8 (Ao it la) (Ao it lb)) st (λr au=>Kp st au/\∃lo,r=Ao it lo/\Md key la lb lo):=by
 have ga:∀i,i<la.length->∃x,la[i]? = some x/\x<L:=λi hi=>⟨_,GJ hi,ao _ (RG hi)⟩;have ag:∀i,i<lb.length->∃x,lb[i]? = some x/\x<L:=λi hi=>⟨_,GJ hi,af _ (RG hi)⟩;have p:∀{ia ib},ia+1=la.length->∀x∈lb.drop ib,∀y∈la.drop ia,kl key x y:=λ{ia ib} h x G y Z=>by have⟨j,hj,e⟩:=Ju Z;have bh:=(QK.mp e).1;exact top x (mF G) y (by rw[show la.length - 1=j by lia];exact e)
 have H:∀{ia ib},ib=lb.length->∀x∈la.drop ia,∀y∈lb.drop ib,kl key x y:=λ{ia ib} h x G y Z=>by rw[h,cF (FW _)]at Z;cases Z
 have aw:∀{ia ib},ia=la.length->∀x∈la.drop ia,∀y∈lb.drop ib,kl key x y:=λ{ia ib} h x G y Z=>by rw[h,cF (FW _)]at G;cases G
 refine Lg ?_;have⟨b0,ah,bb⟩:=ag 0 nb;have⟨a0,aq,bf⟩:=ga 0 na;have m0:Mg key la lb [b0] 0 1:=(show Mg key la lb [] 0 0 from⟨List.Perm.refl _,List.Pairwise.nil,(λx G=>by cases G),(λx G=>by cases G)⟩).b1 n ah (Kf g aq (first a0 b0 aq ah));refine Be ah ?_;refine Ai (λh=>?_) (λh1=>?_)
 ·exact Ac ⟨Kp.refl st,_,Vy [b0] la lb 0 1,m0.done g n (H (S5 h))⟩
 refine Ai (λh=>?_) (λh2=>?_)
 ·exact Ac ⟨Kp.refl st,_,Vy [b0] lb la 1 0,m0.last g n (p (S5 h))⟩
 have h1:=Sy h1;have h2:=Sy h2;refine Jl ?_;refine Aw (R:=λc f=>Kp st f/\∃lo,c.1=some (Ao it lo)/\Md key la lb lo) ?_ λc f hc=>?_
 ·refine Ea (I:=λx c f=>Kp st f/\∃lo ia ib mg,c=(none,Ao it lo,ia,ib,mg)/\Mg key la lb lo ia ib/\ia+1<la.length/\ib<lb.length/\x+1<=ia+ib) (λx c f _ bg hI=>?_) (λc f hI=>?_) ⟨Kp.refl st,[b0],0,1,_,rfl,m0,by lia,by lia,by lia⟩
  ·obtain⟨k2,lo,ia,ib,mg,rfl,m,F,B,Y⟩:=hI;refine Aw (R:=λc f=>Kp st f/\((∃r,c.1=some (Ao it r)/\Md key la lb r)\/∃lo ia ib ac M,c=(none,Ao it lo,ia,ib,ac,M)/\Mg key la lb lo ia ib/\ia+1<la.length/\ib<lb.length/\x+2<=ia+ib)) ?_ λc ak hc=>?_
   ·refine Ea (I:=λx2 c f=>Kp st f/\∃lo ia ib ac M,c=(none,Ao it lo,ia,ib,ac,M)/\Mg key la lb lo ia ib/\ia+1<la.length/\ib<lb.length/\x+1+min x2 1<=ia+ib) (λx2 c ak _ ay hI=>?_) (λc ak hI=>?_) ⟨k2,lo,ia,ib,_,_,rfl,m,F,B,by lia⟩
    ·obtain⟨Q,lo,ia,ib,ac,M,rfl,m,F,B,Y⟩:=hI;have⟨b,T,bn⟩:=ag ib B;have⟨a,v,ab⟩:=ga ia (by lia);refine Be T (Be v (gY an bn ab (Q.kind.trans ae) ?_));refine Ai (λh=>?_) (λh=>?_)
     ·have m':=m.b1 n T (Kf g v (Gq h));refine Be T ?_;refine Ai (λh=>?_) (λh=>?_)
      ·exact Ac ⟨Q,.inl ⟨_,congrArg some (Ur lo la lb b ia (ib+1)),m'.done g n (H (S5 h))⟩⟩
      ·have h:=Sy h;refine Ai (λu=>?_) (λu=>?_)
       ·exact Ac ⟨Q,.inr ⟨_,_,_,_,_,by rw[Ae],m',F,by lia,by lia⟩⟩
       ·exact Ac ⟨Q,_,_,_,_,_,by rw[Ae],m',F,by lia,by lia⟩
     ·have m':=m.a1 g v (Kf n T (Et (by simpa using h)));refine Be v ?_;refine Ai (λh=>?_) (λh=>?_)
      ·exact Ac ⟨Q,.inl ⟨_,congrArg some (Ur lo lb la a ib (ia+1)),m'.last g n (p (S5 h))⟩⟩
      ·have h:=Sy h;refine Ai (λu=>?_) (λu=>?_)
       ·exact Ac ⟨Q,.inr ⟨_,_,_,_,_,by rw[Ae],m',by lia,B,by lia⟩⟩
       ·exact Ac ⟨Q,_,_,_,_,_,by rw[Ae],m',by lia,B,by lia⟩
    ·obtain⟨Q,lo,ia,ib,ac,M,rfl,m,F,B,Y⟩:=hI;exact⟨Q,.inr ⟨_,_,_,_,_,rfl,m,F,B,by lia⟩⟩
   ·obtain⟨Q,hc⟩:=hc;rcases hc with ⟨r,er,md⟩ | ⟨lo,ia,ib,ac,M,rfl,m,F,B,Y⟩
    ·obtain⟨c1,c2⟩:=c;cases er;exact Ac ⟨Q,r,rfl,md⟩
    refine Lg ?_;refine Aw (R:=λc f=>Kp st f/\((∃r,c.1=some (Ao it r)/\Md key la lb r)\/∃lo ia ib mg ac M,c=(none,Ao it lo,ia,ib,mg,ac,M)/\Mg key la lb lo ia ib/\ia+1<la.length/\ib<lb.length/\x+2<=ia+ib)) ?_ λc aj hc=>?_
    ·refine Ea (I:=λx2 c f=>Kp st f/\∃lo ia ib mg ac M,c=(none,Ao it lo,ia,ib,mg,ac,M)/\Mg key la lb lo ia ib/\ia+1<la.length/\ib<lb.length/\x+2<=ia+ib) (λx2 c aj _ ay hI=>?_) (λc aj hI=>?_) ⟨Q,lo,ia,ib,_,_,_,rfl,m,F,B,Y⟩
     ·obtain⟨z,lo,ia,ib,mg,ac,M,rfl,m,F,B,Y⟩:=hI;have⟨b,T,bn⟩:=ag ib B;refine Ai (λ_=>O1 (st0:=st) ⟨z.1,z.2,z.3,z.4⟩ λai o=>Be T ?_) (λ_=>O1 (st0:=st) ⟨z.1,z.2,z.3,z.4⟩ λai o=>Be T ?_)
      all_goals
       refine Aw (Je an ao g bn (o.kind.trans ae) (by rw[Bk];show ia+_<=_;lia) (by rw[Bk];show 0<_ - ia;lia)) λr az hr=>?_;obtain⟨rfl,k,rfl,P,q2,q3⟩:=hr;have P:k<=la.length - ia:=by rw[Bk]at P;exact P
       have mA:=m.as g k λx G=>Kf n T (n_ (q2 x G));have U:∀y∈la.drop (ia+k),kl key b y:=λy Z=>by have⟨j,hj,e⟩:=Ju Z;have:=(QK.mp e).1;exact oA (q3 j y hj (by rw[Bk];show j<ia+(_ - ia);lia) e)
       refine Ai (λhk=>Ai (λh=>?_) (λh=>Ai (λu=>?_) (λu=>?_))) (λhk=>?_)
       ·exact Ac ⟨o,.inl ⟨_,congrArg some (kW lo lb la la ia k ib (ia+k)),mA.last g n (p (S5 h))⟩⟩
       ·exact Ac ⟨o,.inl ⟨_,congrArg some (kW lo la lb la ia k (ia+k) ib),mA.done g n (aw (S5 u))⟩⟩
       ·have h:=Sy h;have u:=Sy u;have F:ia+k+1<la.length:=by lia
        have Y:x+2<=ia+k+ib:=by lia
        clear q2 q3 hk h u P m;dsimp only;rw[Gf,Dh];generalize lo++(la.drop ia).take k=ba,ia+k=ax at *;refine Be T ?_;have mB:=mA.b1 n T U;refine Ai (λh=>?_) (λh=>?_)
        ·exact Ac ⟨o,.inl ⟨_,congrArg some (Ur _ la lb b _ (ib+1)),mB.done g n (H (S5 h))⟩⟩
        have h:=Sy h;have⟨a,v,ab⟩:=ga ax (by lia);refine Be v ?_;refine Aw (Je an af n ab (o.kind.trans ae) (by rw[Bk];show ib+1+_<=_;lia) (by rw[Bk];show 0<_ - (ib+1);lia)) λr ar hr=>?_;obtain⟨rfl,K,rfl,P,q2,q3⟩:=hr;have P:K<=lb.length - (ib+1):=by rw[Bk]at P;exact P
        have mC:=mB.bs n K λx G=>Kf g v (gV (q2 x G));have q:∀y∈lb.drop (ib+1+K),kl key a y:=λy Z=>by have⟨j,hj,e⟩:=Ju Z;have:=(QK.mp e).1;exact gW (q3 j y hj (by rw[Bk];show j<ib+1+(_ - (ib+1));lia) e)
        refine Ai (λhk=>Ai (λu=>?_) (λu=>?_)) (λhk=>?_)
        ·exact Ac ⟨o,.inl ⟨_,congrArg some (by rw[Ae];exact kW _ la lb lb (ib+1) K _ (ib+1+K)),mC.done g n (H (S5 u))⟩⟩
        ·have u:=Sy u;have C:=mC.a1 g v q;refine Be v (Ai (λh=>?_) (λh=>?_))
         ·exact Ac ⟨o,.inl ⟨_,congrArg some (by rw[Ae,Gf,Dh];exact Ur _ lb la a _ _),C.last g n (p (S5 h))⟩⟩
         have h:=Sy h;refine Ai (λ_=>?_) (λ_=>?_)
         ·exact Ac ⟨o,.inr ⟨_,_,_,_,_,_,by rw[Ae,Gf,Dh,Ae],C,by lia,by lia,by lia⟩⟩
         ·exact Ac ⟨o,_,_,_,_,_,_,by rw[Ae,Gf,Dh,Ae],C,by lia,by lia,by lia⟩
        ·have aa:K=0:=by lia
         subst aa;have C:=mB.a1 g v q;refine Be v (Ai (λh=>?_) (λh=>?_))
         ·exact Ac ⟨o,.inl ⟨_,congrArg some (by rw[Ae];exact Ur _ lb la a _ _),C.last g n (p (S5 h))⟩⟩
         have h:=Sy h;refine Ai (λ_=>?_) (λ_=>?_)
         ·exact Ac ⟨o,.inr ⟨_,_,_,_,_,_,by rw[Ae,Ae],C,by lia,by lia,by lia⟩⟩
         ·exact Ac ⟨o,_,_,_,_,_,_,by rw[Ae,Ae],C,by lia,by lia,by lia⟩
       ·have aa:k=0:=by lia
        subst aa;have mA:=m;dsimp only;refine Be T ?_;have mB:=mA.b1 n T U;refine Ai (λh=>?_) (λh=>?_)
        ·exact Ac ⟨o,.inl ⟨_,congrArg some (Ur _ la lb b _ (ib+1)),mB.done g n (H (S5 h))⟩⟩
        have h:=Sy h;have⟨a,v,ab⟩:=ga ia (by lia);refine Be v ?_;refine Aw (Je an af n ab (o.kind.trans ae) (by rw[Bk];show ib+1+_<=_;lia) (by rw[Bk];show 0<_ - (ib+1);lia)) λr ar hr=>?_;obtain⟨rfl,K,rfl,P,q2,q3⟩:=hr;have P:K<=lb.length - (ib+1):=by rw[Bk]at P;exact P
        have mC:=mB.bs n K λx G=>Kf g v (gV (q2 x G));have q:∀y∈lb.drop (ib+1+K),kl key a y:=λy Z=>by have⟨j,hj,e⟩:=Ju Z;have:=(QK.mp e).1;exact gW (q3 j y hj (by rw[Bk];show j<ib+1+(_ - (ib+1));lia) e)
        refine Ai (λhk=>Ai (λu=>?_) (λu=>?_)) (λhk=>?_)
        ·exact Ac ⟨o,.inl ⟨_,congrArg some (by rw[Ae];exact kW _ la lb lb (ib+1) K _ (ib+1+K)),mC.done g n (H (S5 u))⟩⟩
        ·have u:=Sy u;have C:=mC.a1 g v q;refine Be v (Ai (λh=>?_) (λh=>?_))
         ·exact Ac ⟨o,.inl ⟨_,congrArg some (by rw[Ae,Gf,Dh];exact Ur _ lb la a _ _),C.last g n (p (S5 h))⟩⟩
         have h:=Sy h;refine Ai (λ_=>?_) (λ_=>?_)
         ·exact Ac ⟨o,.inr ⟨_,_,_,_,_,_,by rw[Ae,Gf,Dh,Ae],C,by lia,by lia,by lia⟩⟩
         ·exact Ac ⟨o,_,_,_,_,_,_,by rw[Ae,Gf,Dh,Ae],C,by lia,by lia,by lia⟩
        ·have aa:K=0:=by lia
         subst aa;have C:=mB.a1 g v q;refine Be v (Ai (λh=>?_) (λh=>?_))
         ·exact Ac ⟨o,.inl ⟨_,congrArg some (by rw[Ae];exact Ur _ lb la a _ _),C.last g n (p (S5 h))⟩⟩
         have h:=Sy h;refine Ai (λ_=>?_) (λ_=>?_)
         ·exact Ac ⟨o,.inr ⟨_,_,_,_,_,_,by rw[Ae,Ae],C,by lia,by lia,by lia⟩⟩
         ·exact Ac ⟨o,_,_,_,_,_,_,by rw[Ae,Ae],C,by lia,by lia,by lia⟩
     ·obtain⟨z,lo,ia,ib,mg,ac,M,rfl,m,F,B,Y⟩:=hI;exact⟨z,.inr ⟨_,_,_,_,_,_,rfl,m,F,B,Y⟩⟩
    ·obtain⟨z,hc⟩:=hc;rcases hc with ⟨r,er,md⟩ | ⟨lo,ia,ib,mg,ac,M,rfl,m,F,B,Y⟩
     ·obtain⟨c1,c2⟩:=c;cases er;exact Ac ⟨z,r,rfl,md⟩
     ·exact O1 (st0:=st) ⟨z.1,z.2,z.3,z.4⟩ λai o=>Ac ⟨o,lo,ia,ib,_,rfl,m,F,B,by lia⟩
  ·obtain⟨k2,lo,ia,ib,mg,rfl,m,F,B,Y⟩:=hI;rw[Bk,Bk]at Y;lia
 ·obtain⟨k,lo,e,md⟩:=hc;obtain⟨c1,c2⟩:=c;cases e;exact Ac ⟨k,lo,rfl,md⟩
theorem K8{l:List Nat}{n:Nat}(h:y∈l.take n):∃j,j<n/\l[j]? = some y:=by obtain⟨j,a,rfl⟩:=YZ.mp h;rw[RC]at a;exact⟨j,by lia,by rw[dI];exact GJ (by lia)⟩
theorem mem_mid{l:List Nat}{n:Nat}(h:y∈(l.take n).drop i):∃j,i<=j/\j<n/\l[j]? = some y:=by obtain⟨j,a,rfl⟩:=YZ.mp h;rw[WX,RC]at a;refine⟨i+j,by lia,by lia,?_⟩;rw[iM,dI];exact GJ (by lia)
theorem Py{l:List Nat}(h:Srt key l){n x a:Nat}(g:l[n - 1]? = some a)(k:kl key a x):∀y∈l.take n,kl key y x:=λy f=>by have⟨j,m,e⟩:=K8 f;exact Gs (Px h (by lia) e g) k
structure Mh(key:Nat->O.α)(la lb ro:List Nat)(na nb:Nat):Prop where
 perm:ro.Perm (la.drop na++lb.drop nb)
 srt:ro.Pairwise λx y=>kl key y x
 ra:∀x∈ro,∀y∈la.take na,kl key y x
 rb:∀x∈ro,∀y∈lb.take nb,kl key y x
theorem ks9(l:List Nat){n:Nat}(h:i<=n):l.drop i=(l.take n).drop i++l.drop n:=by
 have e:l=l.take n++l.drop n:=(YB n l).symm
 by_cases a:n<=l.length
 ·conv=>lhs;rw[e]
  rw[List.drop_append_of_le_length (by rw[RC];lia)]
 ·rw[mJ (by lia),cF (show l.length<=n by lia),WW]
variable {ro:List Nat}{na nb:Nat}
theorem Mh.as(m:Mh key la lb ro na nb)(g:Srt key la){k:Nat}(o:k<=na)(n:∀x∈(la.take na).drop k,∀y∈lb.take nb,kl key y x):Mh key la lb (ro++((la.take na).drop k).reverse) k nb:=by
 refine⟨?_,?_,λx a y f=>?_,λx a y f=>?_⟩
 ·rw[ks9 la o];refine((m.perm.append_right _).trans cD).trans ?_;rw[PL];exact(jHf _).append_right _
 ·refine WY.mpr ⟨m.srt,mH.mpr (g.take.drop),λx a y f=>?_⟩;exact m.ra x a y (mF (cB.mp f))
 ·rcases NT.mp a with h |h
  ·have⟨j,q,e⟩:=K8 f;refine m.ra x h y ?_;obtain⟨p,rfl⟩:=QK.mp e;exact YZ.mpr ⟨j,by rw[RC];lia,by rw[dI]⟩
  ·have⟨i,hi,_,u⟩:=mem_mid (cB.mp h);have⟨j,q,r⟩:=K8 f;exact Px g (by lia) r u
 ·rcases NT.mp a with h |h
  ·exact m.rb x h y f
  ·exact n x (cB.mp h) y f
def Mh.swap(m:Mh key la lb ro na nb):Mh key lb la ro nb na:=⟨m.perm.trans cD,m.srt,m.rb,m.ra⟩
def Mh.bs(m:Mh key la lb ro na nb)(g:Srt key lb){k:Nat}(f:k<=nb)(a:∀x∈(lb.take nb).drop k,∀y∈la.take na,kl key y x):Mh key la lb (ro++((lb.take nb).drop k).reverse) na k:=(m.swap.as g f a).swap
theorem vZ{l:List Nat}{n a:Nat}(h:l[n - 1]? = some a)(g:1<=n):(l.take n).drop (n - 1)=[a]:=by
 obtain⟨hi,rfl⟩:=QK.mp h;have f:(l.take n).length=n:=by rw[RC];lia
 rw[cG (by lia),cF (by lia),dI]
theorem Mh.a1{a:Nat}(m:Mh key la lb ro na nb)(p:Srt key la)(g:1<=na)(h:la[na - 1]? = some a)(o:∀y∈lb.take nb,kl key y a):Mh key la lb (ro++[a]) (na - 1) nb:=by
 have:=m.as p (k:=na - 1) (by lia) λx f y n=>by rw[vZ h g,LR]at f;rw[f];exact o y n
 rwa [vZ h g]at this
def Mh.b1(m:Mh key la lb ro na nb)(g:Srt key lb)(f:1<=nb)(h:lb[nb - 1]? = some b)(a:∀y∈la.take na,kl key y b):Mh key la lb (ro++[b]) na (nb - 1):=(m.swap.a1 g f h a).swap
def Mh.done(m:Mh key la lb ro na nb)(n:Srt key la)(k:Srt key lb)(g:∀x∈la.take na,∀y∈lb.take nb,kl key x y):Md key la lb (la.take na++lb.take nb++ro.reverse):=by
 refine⟨?_,?_⟩
 ·have o:(la++lb)=(la.take na++la.drop na)++(lb.take nb++lb.drop nb):=by rw[YB,YB]
  rw[o];refine(((jHf ro).trans m.perm).append_left _).trans ?_;rw[PL,PL];refine List.Perm.append_left _ ?_;rw[<-PL,<-PL];exact cD.append_right _
 ·refine WY.mpr ⟨WY.mpr ⟨n.take,k.take,g⟩,mH.mpr m.srt,λx a y f=>?_⟩;rcases NT.mp a with h |h
  ·exact m.ra y (cB.mp f) x h
  ·exact m.rb y (cB.mp f) x h
def Mh.last(m:Mh key la lb ro na nb)(g:Srt key la)(f:Srt key lb)(a:∀x∈lb.take nb,∀y∈la.take na,kl key x y):Md key la lb (lb.take nb++la.take na++ro.reverse):=by have:=m.swap.done f g a;exact⟨this.1.trans cD,this.2⟩
def Wj(l:List Nat)(i n:Nat):(Ao it l).extract i n=Ao it ((l.take n).drop i):=by unfold Ao;apply ZS;simp[p7,pZ,List.extract_eq_drop_take,List.drop_take]
def zH(l:List Nat):(Ao it l).reverse=Ao it l.reverse:=by unfold Ao;simp
def lG(ro la lb:List Nat)(na nb:Nat):(Ao it la).extract 0 na++(Ao it lb).extract 0 nb++(Ao it ro).reverse=Ao it (la.take na++lb.take nb++ro.reverse):=by rw[Wj,Wj,zH,Dh,Dh];rfl
def bU(ro la lb:List Nat)(b na nb:Nat):(Ao it la).extract 0 na++(Ao it lb).extract 0 nb++((Ao it ro).push (DP it b)).reverse=Ao it (la.take na++lb.take nb++(ro++[b]).reverse):=by rw[Ae,lG]
def Ot(ro l:List Nat)(i n:Nat):Ao it ro++((Ao it l).extract i n).reverse=Ao it (ro++((l.take n).drop i).reverse):=by rw[Wj,zH,Dh]
def gH(ro la lb a:List Nat)(i n na nb:Nat):(Ao it la).extract 0 na++(Ao it lb).extract 0 nb++(Ao it ro++((Ao it a).extract i n).reverse).reverse=Ao it (la.take na++lb.take nb++(ro++((a.take n).drop i).reverse).reverse):=by rw[Ot,lG]
def Ny(h:(i == j)=true):i=j:=beq_iff_eq.mp h
def M7(h:¬ (i == j)=true):i≠j:=λe=>h (by rw[e];exact beq_self_eq_true _)
theorem jt3{st:BW}(an:Ans prog w A s κ it key L)(au:∀x∈la,x<L)(af:∀x∈lb,x<L)(g:Srt key la)(o:Srt key lb)(na:1<=la.length)(nb:1<=lb.length)
  (first:∀a b,la[0]? = some a->lb[0]? = some b->kl key b a)(top:∀x∈lb,∀y,la[la.length - 1]? = some y->kl key x y)(ae:kindOf st=κ):
  Tr prog w A E s (ks7 (Ao it la) (Ao it lb)) st (λr az=>Kp st az/\∃lo,r=Ao it lo/\Md key la lb lo):=by
 have ga:∀i,i<la.length->∃x,la[i]? = some x/\x<L:=λi hi=>⟨_,GJ hi,au _ (RG hi)⟩;have ag:∀i,i<lb.length->∃x,lb[i]? = some x/\x<L:=λi hi=>⟨_,GJ hi,af _ (RG hi)⟩;have⟨b0,aw,bh⟩:=ag 0 nb;have⟨a0,ax,bo⟩:=ga 0 na;have q:∀{na nb},nb=1->∀x∈lb.take nb,∀y∈la.take na,kl key x y:=λ{na nb} h x H y M=>by have⟨j,hj,e⟩:=K8 H;rw[show j=0 by lia,aw]at e;cases e;exact Kf g ax (first a0 b0 ax aw) y (mG M)
 have F:∀{na nb},na=0->∀x∈la.take na,∀y∈lb.take nb,kl key x y:=λ{na nb} h x H y M=>by rw[h,p_]at H;cases H
 have ao:∀{na nb},nb=0->∀x∈la.take na,∀y∈lb.take nb,kl key x y:=λ{na nb} h x H y M=>by rw[h,p_]at M;cases M
 have za:(Ao it la).size=la.length:=Bk la;have zb:(Ao it lb).size=lb.length:=Bk lb;refine Lg ?_;have⟨a1,ah,bj⟩:=ga (la.length - 1) (by lia);have m0:Mh key la lb [a1] ((Ao it la).size - 1) (Ao it lb).size:=by rw[za,zb];refine(show Mh key la lb [] la.length lb.length from⟨?_,List.Pairwise.nil,(λx H=>by cases H),(λx H=>by cases H)⟩).a1 g na ah λy M=>top y (mG M) a1 ah;rw[cF (FW _),cF (FW _)];exact List.Perm.refl _
 refine Be (show la[(Ao it la).size - 1]? = some a1 by rw[za];exact ah) ?_;refine Ai (λh=>?_) (λh1=>?_)
 ·exact Ac ⟨Kp.refl st,_,lG [a1] la lb _ _,m0.done g o (F (Ny h))⟩
 refine Ai (λh=>?_) (λY=>?_)
 ·exact Ac ⟨Kp.refl st,_,lG [a1] lb la _ _,m0.last g o (q (Ny h))⟩
 have h1:=M7 h1;have Y:=M7 Y;refine Jl ?_;refine Aw (R:=λc f=>Kp st f/\∃lo,c.1=some (Ao it lo)/\Md key la lb lo) ?_ λc f hc=>?_
 ·refine Ea (I:=λx c f=>Kp st f/\∃na nb lo mg,c=(none,na,nb,Ao it lo,mg)/\Mh key la lb lo na nb/\(1<=na/\na<=la.length)/\(2<=nb/\nb<=lb.length)/\na+nb+x+1<=la.length+lb.length) (λx c f _ bp hI=>?_) (λc f hI=>?_) ⟨Kp.refl st,_,_,[a1],_,rfl,m0,by lia,by lia,by lia⟩
  ·obtain⟨k2,na,nb,lo,mg,rfl,m,B,K,i3⟩:=hI;refine Aw (R:=λc f=>Kp st f/\((∃r,c.1=some (Ao it r)/\Md key la lb r)\/∃na nb lo ac Q,c=(none,na,nb,Ao it lo,ac,Q)/\Mh key la lb lo na nb/\(1<=na/\na<=la.length)/\(2<=nb/\nb<=lb.length)/\na+nb+x+2<=la.length+lb.length)) ?_ λc ak hc=>?_
   ·refine Ea (I:=λx2 c f=>Kp st f/\∃na nb lo ac Q,c=(none,na,nb,Ao it lo,ac,Q)/\Mh key la lb lo na nb/\(1<=na/\na<=la.length)/\(2<=nb/\nb<=lb.length)/\na+nb+x+1+min x2 1<=la.length+lb.length) (λx2 c ak _ bb hI=>?_) (λc ak hI=>?_) ⟨k2,na,nb,lo,_,_,rfl,m,B,K,by lia⟩
    ·obtain⟨U,na,nb,lo,ac,Q,rfl,m,B,K,i3⟩:=hI;have⟨b,Z,bn⟩:=ag (nb - 1) (by lia);have⟨a,v,ab⟩:=ga (na - 1) (by lia);refine Be Z (Be v (gY an bn ab (U.kind.trans ae) ?_));refine Ai (λh=>?_) (λh=>?_)
     ·have m':=m.a1 g B.1 v (Py o Z (Gq h));refine Be v ?_;refine Ai (λh=>?_) (λh=>?_)
      ·exact Ac ⟨U,.inl ⟨_,congrArg some (bU lo la lb a (na - 1) nb),m'.done g o (F (Ny h))⟩⟩
      ·have h:=M7 h;refine Ai (λP=>?_) (λP=>?_)
       ·exact Ac ⟨U,.inr ⟨_,_,_,_,_,by rw[Ae],m',by lia,K,by lia⟩⟩
       ·exact Ac ⟨U,_,_,_,_,_,by rw[Ae],m',by lia,K,by lia⟩
     ·have m':=m.b1 o (by lia) Z (Py g v (Et (by simpa using h)));refine Be Z ?_;refine Ai (λh=>?_) (λh=>?_)
      ·exact Ac ⟨U,.inl ⟨_,congrArg some (bU lo lb la b (nb - 1) na),m'.last g o (q (Ny h))⟩⟩
      ·have h:=M7 h;refine Ai (λP=>?_) (λP=>?_)
       ·exact Ac ⟨U,.inr ⟨_,_,_,_,_,by rw[Ae],m',B,by lia,by lia⟩⟩
       ·exact Ac ⟨U,_,_,_,_,_,by rw[Ae],m',B,by lia,by lia⟩
    ·obtain⟨U,na,nb,lo,ac,Q,rfl,m,B,K,i3⟩:=hI;exact⟨U,.inr ⟨_,_,_,_,_,rfl,m,B,K,by lia⟩⟩
   ·obtain⟨U,hc⟩:=hc;rcases hc with ⟨r,er,md⟩ | ⟨na,nb,lo,ac,Q,rfl,m,B,K,i3⟩
    ·obtain⟨c1,c2⟩:=c;cases er;exact Ac ⟨U,r,rfl,md⟩
    refine Lg ?_;refine Aw (R:=λc f=>Kp st f/\((∃r,c.1=some (Ao it r)/\Md key la lb r)\/∃na nb lo mg ac Q,c=(none,na,nb,Ao it lo,mg,ac,Q)/\Mh key la lb lo na nb/\(1<=na/\na<=la.length)/\(2<=nb/\nb<=lb.length)/\na+nb+x+2<=la.length+lb.length)) ?_ λc aj hc=>?_
    ·refine Ea (I:=λx2 c f=>Kp st f/\∃na nb lo mg ac Q,c=(none,na,nb,Ao it lo,mg,ac,Q)/\Mh key la lb lo na nb/\(1<=na/\na<=la.length)/\(2<=nb/\nb<=lb.length)/\na+nb+x+2<=la.length+lb.length) (λx2 c aj _ bb hI=>?_) (λc aj hI=>?_) ⟨U,na,nb,lo,_,_,_,rfl,m,B,K,i3⟩
     ·obtain⟨z,na,nb,lo,mg,ac,Q,rfl,m,B,K,i3⟩:=hI;have⟨b,Z,bn⟩:=ag (nb - 1) (by lia);refine Ai (λ_=>O1 (st0:=st) ⟨z.1,z.2,z.3,z.4⟩ λai n=>Be Z ?_) (λ_=>O1 (st0:=st) ⟨z.1,z.2,z.3,z.4⟩ λai n=>Be Z ?_)
      all_goals
       refine Aw (Je an au g bn (n.kind.trans ae) (by show 0+na<=_;lia) (by show na - 1<na;lia)) λr bf hr=>?_;obtain⟨rfl,k,rfl,T,q2,q3⟩:=hr;have T:k<=na:=T;have mA:=m.as g T λy M=>by have⟨j,ar,aq,e⟩:=mem_mid M;exact Py o Z (oA (q3 j y (by lia) (by show j<0+na;lia) e))
       have C:∀x∈la.take k,kl key x b:=λx H=>n_ (q2 x H);refine Ai (λhk=>Ai (λh=>?_) (λh=>?_)) (λhk=>?_)
       ·exact Ac ⟨n,.inl ⟨_,congrArg some (gH lo la lb la k na k nb),mA.done g o (F (Ny h))⟩⟩
       ·have h:=M7 h;have B:1<=k/\k<=la.length:=by lia
        have i3:k+nb+x+2<=la.length+lb.length:=by lia
        clear q2 q3 hk h T m;dsimp only;rw[Ot];generalize lo++((la.take na).drop k).reverse=bg,k=ba at *;refine Be Z ?_;have mB:=mA.b1 o (by lia) Z C;refine Ai (λh=>?_) (λh=>?_)
        ·exact Ac ⟨n,.inl ⟨_,congrArg some (bU _ lb la b (nb - 1) _),mB.last g o (q (Ny h))⟩⟩
        have h:=M7 h;have⟨a,v,ab⟩:=ga (ba - 1) (by lia);refine Be v ?_;refine Aw (Je an af o ab (n.kind.trans ae) (by show 0+(nb - 1)<=_;lia) (by show nb - 1 - 1<nb - 1;lia)) λr ay hr=>?_;obtain⟨rfl,u,rfl,T,q2,q3⟩:=hr;have T:u<=nb - 1:=T;have mC:=mB.bs o T λy M=>by have⟨j,ar,aq,e⟩:=mem_mid M;exact Py g v (gW (q3 j y (by lia) (by show j<0+(nb - 1);lia) e))
        have p:∀x∈lb.take u,kl key x a:=λx H=>gV (q2 x H);refine Ai (λhk=>Ai (λP=>?_) (λP=>Ai (λY=>?_) (λY=>?_))) (λhk=>?_)
        ·exact Ac ⟨n,.inl ⟨_,congrArg some (by rw[Ae];exact gH _ lb la lb u (nb - 1) u _),mC.last g o (q (Ny P))⟩⟩
        ·exact Ac ⟨n,.inl ⟨_,congrArg some (by rw[Ae];exact gH _ la lb lb u (nb - 1) _ u),mC.done g o (ao (Ny Y))⟩⟩
        ·have P:=M7 P;have Y:=M7 Y;have G:=mC.a1 g (by lia) v p;refine Be v (Ai (λh=>?_) (λh=>?_))
         ·exact Ac ⟨n,.inl ⟨_,congrArg some (by rw[Ae,Ot];exact bU _ la lb a _ u),G.done g o (F (Ny h))⟩⟩
         have h:=M7 h;refine Ai (λ_=>?_) (λ_=>?_)
         ·exact Ac ⟨n,.inr ⟨_,_,_,_,_,_,by rw[Ae,Ot,Ae],G,by lia,by lia,by lia⟩⟩
         ·exact Ac ⟨n,_,_,_,_,_,_,by rw[Ae,Ot,Ae],G,by lia,by lia,by lia⟩
        ·have aa:u=nb - 1:=by have:¬ nb - 1 - u>0:=hk;lia
         subst aa;have G:=mB.a1 g (by lia) v p;refine Be v (Ai (λh=>?_) (λh=>?_))
         ·exact Ac ⟨n,.inl ⟨_,congrArg some (by rw[Ae];exact bU _ la lb a _ _),G.done g o (F (Ny h))⟩⟩
         have h:=M7 h;refine Ai (λ_=>?_) (λ_=>?_)
         ·exact Ac ⟨n,.inr ⟨_,_,_,_,_,_,by rw[Ae,Ae],G,by lia,by lia,by lia⟩⟩
         ·exact Ac ⟨n,_,_,_,_,_,_,by rw[Ae,Ae],G,by lia,by lia,by lia⟩
       ·have aa:k=na:=by have:¬ na - k>0:=hk;lia
        rw[aa]at C;have mA:=m;dsimp only;refine Be Z ?_;have mB:=mA.b1 o (by lia) Z C;refine Ai (λh=>?_) (λh=>?_)
        ·exact Ac ⟨n,.inl ⟨_,congrArg some (bU _ lb la b (nb - 1) _),mB.last g o (q (Ny h))⟩⟩
        have h:=M7 h;have⟨a,v,ab⟩:=ga (na - 1) (by lia);refine Be v ?_;refine Aw (Je an af o ab (n.kind.trans ae) (by show 0+(nb - 1)<=_;lia) (by show nb - 1 - 1<nb - 1;lia)) λr ay hr=>?_;obtain⟨rfl,u,rfl,T,q2,q3⟩:=hr;have T:u<=nb - 1:=T;have mC:=mB.bs o T λy M=>by have⟨j,ar,aq,e⟩:=mem_mid M;exact Py g v (gW (q3 j y (by lia) (by show j<0+(nb - 1);lia) e))
        have p:∀x∈lb.take u,kl key x a:=λx H=>gV (q2 x H);refine Ai (λhk=>Ai (λP=>?_) (λP=>Ai (λY=>?_) (λY=>?_))) (λhk=>?_)
        ·exact Ac ⟨n,.inl ⟨_,congrArg some (by rw[Ae];exact gH _ lb la lb u (nb - 1) u _),mC.last g o (q (Ny P))⟩⟩
        ·exact Ac ⟨n,.inl ⟨_,congrArg some (by rw[Ae];exact gH _ la lb lb u (nb - 1) _ u),mC.done g o (ao (Ny Y))⟩⟩
        ·have P:=M7 P;have Y:=M7 Y;have G:=mC.a1 g (by lia) v p;refine Be v (Ai (λh=>?_) (λh=>?_))
         ·exact Ac ⟨n,.inl ⟨_,congrArg some (by rw[Ae,Ot];exact bU _ la lb a _ u),G.done g o (F (Ny h))⟩⟩
         have h:=M7 h;refine Ai (λ_=>?_) (λ_=>?_)
         ·exact Ac ⟨n,.inr ⟨_,_,_,_,_,_,by rw[Ae,Ot,Ae],G,by lia,by lia,by lia⟩⟩
         ·exact Ac ⟨n,_,_,_,_,_,_,by rw[Ae,Ot,Ae],G,by lia,by lia,by lia⟩
        ·have aa:u=nb - 1:=by have:¬ nb - 1 - u>0:=hk;lia
         subst aa;have G:=mB.a1 g (by lia) v p;refine Be v (Ai (λh=>?_) (λh=>?_))
         ·exact Ac ⟨n,.inl ⟨_,congrArg some (by rw[Ae];exact bU _ la lb a _ _),G.done g o (F (Ny h))⟩⟩
         have h:=M7 h;refine Ai (λ_=>?_) (λ_=>?_)
         ·exact Ac ⟨n,.inr ⟨_,_,_,_,_,_,by rw[Ae,Ae],G,by lia,by lia,by lia⟩⟩
         ·exact Ac ⟨n,_,_,_,_,_,_,by rw[Ae,Ae],G,by lia,by lia,by lia⟩
     ·obtain⟨z,na,nb,lo,mg,ac,Q,rfl,m,B,K,i3⟩:=hI;exact⟨z,.inr ⟨_,_,_,_,_,_,rfl,m,B,K,i3⟩⟩
    ·obtain⟨z,hc⟩:=hc;rcases hc with ⟨r,er,md⟩ | ⟨na,nb,lo,mg,ac,Q,rfl,m,B,K,i3⟩
     ·obtain⟨c1,c2⟩:=c;cases er;exact Ac ⟨z,r,rfl,md⟩
     ·exact O1 (st0:=st) ⟨z.1,z.2,z.3,z.4⟩ λai n=>Ac ⟨n,na,nb,lo,_,rfl,m,B,K,by lia⟩
  ·obtain⟨k2,na,nb,lo,mg,rfl,m,B,K,i3⟩:=hI;rw[za,zb]at i3;lia
 ·obtain⟨k,lo,e,md⟩:=hc;obtain⟨c1,c2⟩:=c;cases e;exact Ac ⟨k,lo,rfl,md⟩
def wo5{g:Type}{a:BW}{f:PUnit->StateT BW Sem g}{st:BW}{R:g->BW->Prop}(h:Tr prog w A E s (f ⟨⟩) a R):Tr prog w A E s (set a >>= f) st R:=λk Q q=>KC (by
 unfold kasC;rw[StateT.run_set];exact CW (h k Q q))
theorem Xa{k:Nat}{P X S:List Nat}{base n:Nat}{st:BW}(an:Ans prog w A s κ it key L)(B:∀x∈P++X++S,x<L)(v:Srt key X)(C:k<L)(p:kindOf st=κ)(K:base=P.length)(I:n=X.length)(F:hint<n):
  Tr prog w A E s (pP left (DP it k) (Ao it (P++X++S)) base n hint) st (λr a=>a=st/\∃m,r=some m/\m<=n/\(∀x∈X.take m,bz key left k x=true)/\(∀y∈X.drop m,bz key left k y=false)):=by
 subst K I;have at_:∀i,i<X.length->(P++X++S)[P.length+i]? = X[i]?:=λi hi=>by rw[PL,YF (by lia),qW,ZK hi]
 refine Le (Zz (b:=λi=>bz key left k ((X[i]?).getD 0)) an B C p (by rw[PB,PB];lia) F (λi x hi f=>by rw[at_ i hi]at f;rw[f];rfl) (λi j q g h=>?_)) λr a z=>?_
 ·(try dsimp only at h ⊢)
  have o:i<X.length:=by lia
  rw[GJ o];rw[GJ g]at h;exact wU v q (GJ o) (GJ g) h
 ·obtain⟨rfl,m,rfl,o,H,G⟩:=z;refine⟨rfl,m,rfl,o,λx f=>?_,λy u=>?_⟩
  ·have⟨i,hi,e⟩:=K8 f;have:=H i hi
   (try dsimp only at this)
   rwa [e]at this
  ·have⟨j,g,e⟩:=Ju u;have:=G j g (QK.mp e).1
   (try dsimp only at this)
   rwa [e]at this
theorem yP(b:Nat):∀(f:List LQ)(j:Nat)(Q Z R:List LQ)(a:Array LQ),a.toList=Q++Z++R->Q.length=b+j->Z.length=f.length ->
  ((f.zipIdx j).foldl (λa x=>a.setIfInBounds (b+x.2) x.1) a).toList=Q++f++R
 | [],j,Q,Z,R,a,h,_,g=>by have:Z=[]:=List.length_eq_zero_iff.mp g;rw[this]at h;exact h
 |x::f,j,Q,Z,R,a,h,k,g=>by
  cases Z with
  |nil=>simp at g
  |cons z Z =>
   rw[List.zipIdx_cons,iG];have e:=yP b f (j+1) (Q++[x]) Z R (a.setIfInBounds (b+j) x) (by
    rw[jFh,h,<-k,PL,jGc _ _ (FW _),Nat.sub_self];simp) (by rw[PB];simp;lia) (by simpa using g)
   rw[e];simp
variable {M:List Nat}
def ke9{Q Z R:List Nat}(g:b=Q.length)(f:Z.length=M.length):((Ao it M).toList.zipIdx).foldl (λa x=>a.setIfInBounds (b+x.2) x.1) (Ao it (Q++Z++R))=Ao it (Q++M++R):=by apply ZS;have e:(Ao it M).toList=M.map (DP it):=rfl;rw[e,yP b (M.map (DP it)) 0 (Q.map (DP it)) (Z.map (DP it)) (R.map (DP it)) _ (by unfold Ao;simp) (by simp[g]) (by simp[f])];unfold Ao;simp
def jf0{X Y m p o k:List Nat}(G:X=m++p)(F:Y=o++k)(B:Srt key X)(z:Srt key Y)(g:Md key p o M)(C:∀x∈m,∀y∈Y,kl key x y)(n:∀x∈X,∀y∈k,kl key x y):Md key X Y (m++M++k):=by
 subst G F;refine⟨?_,?_⟩
 ·refine((g.1.append_left m).append_right k).trans ?_;simp
 ·have⟨v,I,u⟩:=WY.mp B;have⟨H,r,q⟩:=WY.mp z;refine WY.mpr ⟨WY.mpr ⟨v,g.2,λx f y a=>?_⟩,r,λx f y a=>?_⟩
  ·rcases NT.mp (g.1.mem_iff.mp a) with h |h
   ·exact u x f y h
   ·exact C x f y (X_ _ h)
  ·rcases NT.mp f with h |h
   ·exact n x (X_ _ h) y a
   ·rcases NT.mp (g.1.mem_iff.mp h) with h |h
    ·exact n x (N_ _ h) y a
    ·exact q x h y a
def wa0{k:Type}(P:BW->Prop){a:BW}{f:PUnit->StateT BW Sem k}{st:BW}{R:k->BW->Prop}(h:P a)(m:∀g,P g->Tr prog w A E s (f ⟨⟩) g R):Tr prog w A E s (set a >>= f) st R:=wo5 (m _ h)
def zK{P X S:List Nat}(hi:i=P.length)(a:j=P.length+X.length):(Ao it (P++X++S)).extract i j=Ao it X:=by subst hi a;rw[Gf];congr 1;rw[PL,List.drop_left,List.take_left]
variable {pw:Nat}
theorem jt2{P X Y S:List Nat}{st:BW}{T sb ae:Nat}(an:Ans prog w A s κ it key L)(U:∀x∈P++X++Y++S,x<L)(z:Srt key X)(v:Srt key Y)(nx:1<=X.length)(ny:1<=Y.length)
  (B:kindOf st=κ)(p:MT st=Ao it (P++X++Y++S))(hf:HW st=none)(e1:(CJ st)[i]? = some (T,na,pw))(e2:(CJ st)[i+1]? = some (sb,nb,ae))(ha:T=P.length)(aj:na=X.length)(hb:sb=P.length+X.length)(ai:nb=Y.length):
  Tr prog w A E s (jV i) st (λr n=>r=true/\kindOf n=κ/\HW n=none/\CJ n=((CJ st).setIfInBounds i (T,na+nb,pw)).eraseIdxIfInBounds (i+1)/\∃Z,MT n=Ao it (P++Z++S)/\Md key X Y Z):=by
 obtain⟨F,a',af,g',f'⟩:=st;have p:a'=Ao it (P++X++Y++S):=p;subst p;have B:F=κ:=B;have hf:f'=none:=hf;subst B hf;refine Jl ?_;rw[e1,e2];refine wa0 (P:=λn=>n=SortSt.mk' F (Ao it (P++X++Y++S)) ((af.setIfInBounds i (T,na+nb,pw)).eraseIdxIfInBounds (i+1)) g' none) rfl λab f=>?_;subst ha aj hb ai;have lx:∀x∈X,x<L:=λx o=>U x (by simp[o]);have ly:∀x∈Y,x<L:=λx o=>U x (by simp[o]);have gy:∀j,j<Y.length->(P++X++Y++S)[P.length+X.length+j]? = Y[j]?:=λj hj=>by rw[ZK (by rw[PB,PB];lia),YF (by rw[PB];lia),PB,qW]
 have gx:∀j,j<X.length->(P++X++Y++S)[P.length+j]? = X[j]?:=λj hj=>by rw[PL,PL,YF (by lia),qW,ZK hj]
 obtain⟨y0,q⟩:∃y,Y[0]? = some y:=⟨_,GJ ny⟩;have ag:y0<L:=ly y0 (XX q);refine Be (l:=P++X++Y++S) (i:=P.length+X.length) ((gy 0 ny).trans q) ?_;have g1:=Xa (prog:=prog) (E:=E) (left:=false) (P:=P) (X:=X) (S:=Y++S) (st:=ab) (hint:=0) an (by rw[<-PL];exact U) z ag (by rw[f]) rfl rfl nx;rw[<-PL]at g1;refine Aw g1 λr aa hr=>?_;obtain⟨rfl,k,rfl,q1,q2,q3⟩:=hr;have xy:∀x∈X.take k,∀y∈Y,kl key x y:=λx o y C=>Kf v q (n_ (q2 x o)) y C;refine Ai (λh=>?_) (λh=>?_)
 ·have hk:X.length - k=0:=Ny h;rw[mJ (by lia)]at xy;refine Ac ⟨rfl,by rw[f],by rw[f],by rw[f],X++Y,by rw[f,<-PL],List.Perm.refl _,WY.mpr ⟨z,v,xy⟩⟩
 have hk:X.length - k≠0:=M7 h;obtain⟨x1,u⟩:∃x,X[X.length - 1]? = some x:=⟨_,GJ (by lia)⟩;have ah:x1<L:=lx x1 (XX u);refine Be (l:=P++X++Y++S) (i:=P.length+k+(X.length - k) - 1) (k:=x1) ?_ ?_
 ·rw[show P.length+k+(X.length - k) - 1=P.length+(X.length - 1) by lia];exact(gx _ (by lia)).trans u
 have g2:=Xa (prog:=prog) (E:=E) (left:=true) (P:=P++X) (X:=Y) (S:=S) (st:=aa) (base:=P.length+X.length) (hint:=Y.length - 1) an U v ah (by rw[f]) (by rw[PB]) rfl (by lia);refine Aw g2 λr H hr=>?_;obtain⟨rfl,m,rfl,p1,I,p3⟩:=hr;have G:∀x∈X,∀y∈Y.drop m,kl key x y:=λx o y C=>Py z u (gW (p3 y C)) x (by rw[lX];exact o);refine Ai (λh=>?_) (λh=>?_)
 ·have hm:m=0:=Ny h;subst hm;refine Ac ⟨rfl,by rw[f],by rw[f],by rw[f],X++Y,by rw[f,<-PL],List.Perm.refl _,WY.mpr ⟨z,v,G⟩⟩
 have hm:m≠0:=M7 h;have eL:P++X++Y++S=(P++X.take k)++X.drop k++(Y++S):=by rw[PL P (X.take k),YB,<-PL]
 have eR:P++X++Y++S=(P++X)++Y.take m++(Y.drop m++S):=by rw[<-PL,PL (P++X) (Y.take m),YB]
 have eX:(Ao it (P++X++Y++S)).extract (P.length+k) (P.length+X.length)=Ao it (X.drop k):=by rw[eL];exact zK (by rw[PB,RC];lia) (by rw[PB,RC,WX];lia)
 have eY:(Ao it (P++X++Y++S)).extract (P.length+X.length) (P.length+X.length+m)=Ao it (Y.take m):=by rw[eR];exact zK (by rw[PB]) (by rw[PB,RC];lia)
 have first:∀a b,(X.drop k)[0]? = some a->(Y.take m)[0]? = some b->kl key b a:=λa b h1 h2=>by rw[qX (by lia),q]at h2;cases h2;exact oA (q3 a (XX h1))
 have top:∀x∈Y.take m,∀y,(X.drop k)[(X.drop k).length - 1]? = some y->kl key x y:=λx o y C=>by rw[WX,jGx,show k+(X.length - k - 1)=X.length - 1 by lia,u]at C;cases C;exact gV (I x o)
 have l1:∀x∈X.drop k,x<L:=λx o=>lx x (mF o);have l2:∀x∈Y.take m,x<L:=λx o=>ly x (mG o);have z1:1<=(X.drop k).length:=by rw[WX];lia
 have z2:1<=(Y.take m).length:=by rw[RC];lia
 have ml:=jt4 (prog:=prog) (E:=E) (st:=H) an l1 l2 z.drop v.take z1 z2 first top (by rw[f])
 have mh:=jt3 (prog:=prog) (E:=E) (st:=H) an l1 l2 z.drop v.take z1 z2 first top (by rw[f])
 rw[<-eX,<-eY]at ml mh;refine Ai (λ_=>Aw ml λM g hM=>?_) (λ_=>Aw mh λM g hM=>?_)
 all_goals
  obtain⟨K,M,rfl,md⟩:=hM;have hz:(X.drop k++Y.take m).length=M.length:=md.1.length_eq.symm;refine Kq (Jl (Ac ⟨?_,?_,?_,?_,X.take k++M++Y.drop m,?_,jf0 (YB k X).symm (YB m Y).symm z v md xy G⟩))
  ·show(HW g).isNone=true;rw[K.fail,f];rfl
  ·show kindOf g=_;rw[K.kind,f]
  ·show HW g=_;rw[K.fail,f]
  ·show CJ g=_;rw[K.pend,f]
  ·have ea:MT g=Ao it ((P++X.take k)++(X.drop k++Y.take m)++(Y.drop m++S)):=by rw[K.arr,f];show Ao it (P++X++Y++S)=_;congr 1;rw[eL];simp only[PL];rw[<-PL (Y.take m) (Y.drop m),YB]
   have ef:=ke9 (it:=it) (Q:=P++X.take k) (Z:=X.drop k++Y.take m) (R:=Y.drop m++S) (M:=M) (b:=P.length+k) (by rw[PB,RC];lia) hz;rw[<-ea]at ef;refine Eq.trans ef ?_;congr 1;simp
structure At(it:Array LQ)(st0 st:BW)(p:List Nat):Prop where
 kind:kindOf st=kindOf st0
 arr:MT st=Ao it p
 pend:CJ st=CJ st0
 fail:HW st=HW st0
def Ga{h:Type}{x:Nat}{p:List Nat}{st0 st:BW}{f:Option Bool->StateT BW Sem h}{R:h->BW->Prop}(an:Ans prog w A s κ it key L)(n:∀x∈p,x<L)(g:kindOf st0=κ)(a:At it st0 st p)(m:p[i]? = some x)(k:p[j]? = some y)
  (o:Tr prog w A E s (f (some (ltO key x y))) st R):Tr prog w A E s (ltAt' i j >>= f) st R:=by
 rw[ltAt'_eq];simp only[bind_assoc];refine Jl ?_;rw[a.arr];exact Be m (Be k (gY an (n x (XX m)) (n y (XX k)) (a.kind.trans g) o))
def Sg(key:Nat->O.α)(p:List Nat)(lo hi:Nat):Prop:=∀i j x y,lo<=i->i<=j->j<hi->p[i]? = some x->p[j]? = some y->kl key x y
def Lk(p q:List Nat)(lo hi:Nat):Prop:=q.Perm p/\∀i,i<lo\/hi<=i->q[i]? = p[i]?
def Lk.refl(p:List Nat)(lo hi:Nat):Lk p p lo hi:=⟨List.Perm.refl _,λ_ _=>rfl⟩
variable {q:List Nat}
def Lk.trans{p r:List Nat}(f:Lk p q lo hi)(a:Lk q r lo hi):Lk p r lo hi:=⟨a.1.trans f.1,λi hi=>(a.2 i hi).trans (f.2 i hi)⟩
def Lk.lt{p:List Nat}(h:Lk p q lo hi)(f:∀x∈p,x<L):∀x∈q,x<L:=λx a=>f x (h.1.mem_iff.mp a)
def bub(p:List Nat)(src d:Nat):List Nat:=(mW p.toArray src d).toList
def wb0(p:List Nat)(src d:Nat):mW (Ao it p) src d=Ao it (bub p src d):=by
 have e:Ao it p=p.toArray.map (DP it):=by unfold Ao;simp
 have a:Ao it (bub p src d)=(mW p.toArray src d).map (DP it):=by unfold Ao bub;apply ZS;simp
 rw[e,a];exact kas_swaps_map (DP it) (λk=>src - k) (λk=>src - k - 1) _ p.toArray
variable {src:Nat}
def wV{p:List Nat}{d:Nat}(a:src<p.length)(f:d<=src)(k:Nat):(bub p src d)[k]? = if k=src - d then p[src]? else if src - d<k/\k<=src then p[k - 1]? else p[k]?:=by have:=getElem?_bubble (xs:=p.toArray) (src:=src) (by simpa using a) d f k;unfold bub;rw[fM,this];simp
theorem wo9{p:List Nat}{d:Nat}(a:src<p.length)(h:lo<=src - d)(hd2:d<=src)(g:src<hi):Lk p (bub p src d) lo hi:=by
 refine⟨?_,λi f=>?_⟩
 ·have:=jFi.mp (bubble_perm p.toArray src d);simpa[bub] using this
 ·rw[wV a hd2,if_neg (by lia),if_neg (by lia)]
theorem wp0{p:List Nat}{k l x:Nat}(u:lo+k<p.length)(G:l<=k)(m:p[lo+k]? = some x)(n:Sg key p lo (lo+k))(B:∀i y,lo<=i->i<lo+l->p[i]? = some y->kl key y x)(v:∀i y,lo+l<=i->i<lo+k->p[i]? = some y->kl key x y):Sg key (bub p (lo+k) (k - l)) lo (lo+k+1):=by
 have g:=wV u (show k - l<=lo+k by lia);rw[show lo+k - (k - l)=lo+l by lia]at g;intro i j y z hi o H f a;rw[g]at f a;by_cases r:i=lo+l
 ·rw[if_pos r,m]at f;cases f;by_cases h:j=lo+l
  ·rw[if_pos h,m]at a;cases a;exact KeyOrd.kle_refl _
  ·rw[if_neg h,if_pos (by lia)]at a;exact v (j - 1) z (by lia) (by lia) a
 ·rw[if_neg r]at f;by_cases F:lo+l<i
  ·rw[if_pos (by lia)]at f;rw[if_neg (by lia),if_pos (by lia)]at a;exact n (i - 1) (j - 1) y z (by lia) (by lia) (by lia) f a
  ·rw[if_neg (by lia)]at f;by_cases h:j=lo+l
   ·rw[if_pos h,m]at a;cases a;exact B i y hi (by lia) f
   ·rw[if_neg h]at a;by_cases C:lo+l<j
    ·rw[if_pos (by lia)]at a;exact n i (j - 1) y z hi (by lia) (by lia) f a
    ·rw[if_neg (by lia)]at a;exact n i j y z hi o (by lia) f a
theorem kc7{n ok:Nat}{p:List Nat}{st0 st:BW}(an:Ans prog w A s κ it key L)(hl:∀x∈p,x<L)(P:kindOf st0=κ)(a:At it st0 st p)(hn:lo+n<=p.length)(ab:ok<=n)(hs:Sg key p lo (lo+ok)):
  Tr prog w A E s (binarySort' lo n ok) st (λr f=>r=true/\∃q,Lk p q lo (lo+n)/\At it st0 f q/\Sg key q lo (lo+n)):=by
 rw[binarySort'_eq];refine Aw (R:=λc f=>c.1=none/\∃q,Lk p q lo (lo+n)/\At it st0 f q/\Sg key q lo (lo+n)) ?_ λc f U=>?_
 ·refine Ea (I:=λk c f=>c=(none,())/\∃q,Lk p q lo (lo+n)/\At it st0 f q/\Sg key q lo (lo+k)) (λk c f af ae u=>?_) (λc f u=>?_) ⟨rfl,p,Lk.refl _ _ _,a,λi j x y hi T hj ex ey=>?_⟩
  ·obtain⟨rfl,q,F,a',C⟩:=u;have hq:q.length=p.length:=F.1.length_eq;have o:lo+k<q.length:=by lia
   obtain⟨x,hx⟩:∃x,q[lo+k]? = some x:=⟨_,GJ o⟩;refine Aw (R:=λc g=>∃l,c=(none,l,l)/\At it st0 g q/\l<=k/\(∀i y,lo<=i->i<lo+l->q[i]? = some y->kl key y x)/\(∀i y,lo+l<=i->i<lo+k->q[i]? = some y->kl key x y)) ?_ λc g U=>?_
   ·refine Ea (I:=λx2 c g=>∃l r,c=(none,l,r)/\At it st0 g q/\l<=r/\r<=k/\r - l<=k - x2/\(∀i y,lo<=i->i<lo+l->q[i]? = some y->kl key y x)/\(∀i y,lo+r<=i->i<lo+k->q[i]? = some y->kl key x y)) (λx2 c g _ aa u=>?_) (λc g u=>?_) ⟨0,k,rfl,a',by lia,by lia,by lia,λi y v B=>by lia,λi y v B=>by lia⟩
    ·obtain⟨l,r,rfl,m,g1,Z,K,H,G⟩:=u;refine Ai (λh=>?_) (λh=>?_)
     ·have h:l≥r:=h;have e:r=l:=by lia
      subst e;exact Ac ⟨r,rfl,m,by lia,H,G⟩
     ·have h:¬ l≥r:=h;obtain⟨y,Q⟩:∃y,q[lo+(l+r) / 2]? = some y:=⟨_,GJ (by lia)⟩;refine Ga an (F.lt hl) P m hx Q ?_;refine Ai (λY=>?_) (λY=>?_)
      ·refine Ac ⟨l,(l+r) / 2,rfl,m,by lia,by lia,by lia,H,λi z v B ez=>?_⟩;exact Gs (Gq Y) (C _ i y z (by lia) v B Q ez)
      ·refine Ac ⟨(l+r) / 2+1,r,rfl,m,by lia,by lia,by lia,λi z v B ez=>?_,G⟩;exact Gs (C i _ z y v (by lia) (by lia) ez Q) (Et (by simpa using Y))
    ·obtain⟨l,r,rfl,m,g1,Z,K,H,G⟩:=u;rw[show max 0 k=k by lia]at K;have:r=l:=by lia
     subst this;exact⟨r,rfl,m,by lia,H,G⟩
   ·obtain⟨l,rfl,m,g1,Z,K⟩:=U;refine Kq (Ac ⟨rfl,bub q (lo+k) (k - l),F.trans (wo9 o (by lia) (by lia) (by lia)),⟨m.kind,?_,m.pend,m.fail⟩,?_⟩)
    ·show mW (MT g) (lo+k) (lo+k - (lo+l))=_;rw[m.arr,show lo+k - (lo+l)=k - l by lia,wb0]
    ·exact wp0 o g1 hx C Z K
  ·obtain⟨rfl,q,F,a',C⟩:=u;exact⟨rfl,q,F,a',λi j x y v B h3=>C i j x y v B (by lia)⟩
  ·by_cases h:ok=0
   ·have e:i=j:=by lia
    subst e;rw[ex]at ey;cases ey;exact KeyOrd.kle_refl _
   ·exact hs i j x y hi T (by lia) ex ey
 ·obtain⟨e,h⟩:=U;obtain⟨c1,c2⟩:=c;cases e;exact Ac ⟨rfl,h⟩
def mir(p:List Nat)(i j:Nat):List Nat:=(jU p.toArray i j ((j - i) / 2)).toList
def wg2(p:List Nat)(i j:Nat):jU (Ao it p) i j ((j - i) / 2)=Ao it (mir p i j):=by
 have e:Ao it p=p.toArray.map (DP it):=by unfold Ao;simp
 have a:Ao it (mir p i j)=(jU p.toArray i j ((j - i) / 2)).map (DP it):=by unfold Ao mir;apply ZS;simp
 rw[e,a];exact kas_swaps_map (DP it) (λk=>i+k) (λk=>j - 1 - k) _ p.toArray
def Pj{p:List Nat}(a:j<=p.length)(k:Nat):(mir p i j)[k]? = if i<=k/\k<j then p[i+j - 1 - k]? else p[k]?:=by have:=getElem?_mirror_all (xs:=p.toArray) (i:=i) (j:=j) (by simpa using a) k;unfold mir;rw[fM,this];simp
theorem Mm{p:List Nat}(h:lo<=i)(g:j<=hi)(a:j<=p.length):Lk p (mir p i j) lo hi:=by
 refine⟨?_,λk f=>?_⟩
 ·have:=jFi.mp (mirror_perm p.toArray i j ((j - i) / 2));simpa[mir] using this
 ·rw[Pj a,if_neg (by lia)]
def Ek(key:Nat->O.α)(p:List Nat)(i j:Nat):Prop:=∀a b x y,i<=a->a<j->i<=b->b<j->p[a]? = some x->p[b]? = some y->key x=key y
def Ds(key:Nat->O.α)(p:List Nat)(lo hi:Nat):Prop:=∀a b x y,lo<=a->a<=b->b<hi->p[a]? = some x->p[b]? = some y->kl key y x
theorem Ml{p:List Nat}(k:j<=p.length)(m:Ek key p i j){a x:Nat}(h:(mir p i j)[a]? = some x):∃g,p[a]? = some g/\key g=key x:=by
 rw[Pj k]at h;by_cases c:i<=a/\a<j
 ·rw[if_pos c]at h;have f:a<p.length:=by lia
  exact⟨_,GJ f,m a _ _ _ c.1 c.2 (by lia) (by lia) (GJ f) h⟩
 ·rw[if_neg c]at h;exact⟨x,h,rfl⟩
def lD{p:List Nat}(h:j<=p.length)(k:Ek key p i j)(u:Ds key p lo hi):Ds key (mir p i j) lo hi:=λa b x y B z v F C=>by have⟨n,g,r⟩:=Ml h k F;have⟨m,f,o⟩:=Ml h k C;have:=u a b n m B z v g f;unfold kl at this ⊢;rwa [r,o]at this
theorem lC{p:List Nat}(h:hi<=p.length)(k:Ds key p lo hi):Sg key (mir p lo hi) lo hi:=λa b x y o n m g f=>by rw[Pj h,if_pos (by lia)]at g f;exact k _ _ y x (by lia) (by lia) (by lia) f g
variable {v:Nat}
theorem wx9{p:List Nat}{n u:Nat}(k:Sg key p lo (lo+n))(F:1<=n)(C:p[lo+n - 1]? = some u)(o:p[lo+n]? = some v)(h:kl key u v):Sg key p lo (lo+n+1):=λa b x y m B G f g=>by
 by_cases r:b=lo+n
 ·rw[r,o]at g;cases g;by_cases z:a=lo+n
  ·rw[z,o]at f;cases f;exact KeyOrd.kle_refl _
  ·exact Gs (k a (lo+n - 1) x u m (by lia) (by lia) f C) h
 ·exact k a b x y m B (by lia) f g
theorem Nv{p:List Nat}{n u:Nat}(k:Ds key p lo (lo+n))(F:1<=n)(C:p[lo+n - 1]? = some u)(o:p[lo+n]? = some v)(h:kl key v u):Ds key p lo (lo+n+1):=λa b x y m B G f g=>by
 by_cases r:b=lo+n
 ·rw[r,o]at g;cases g;by_cases z:a=lo+n
  ·rw[z,o]at f;cases f;exact KeyOrd.kle_refl _
  ·exact Gs h (k a (lo+n - 1) x u m (by lia) (by lia) f C)
 ·exact k a b x y m B (by lia) f g
theorem wy0(p:List Nat)(lo:Nat):Sg key p lo (lo+1):=λa b x y m k h f g=>by rw[show a=b by lia,g]at f;cases f;exact KeyOrd.kle_refl _
theorem Wy(p:List Nat)(lo:Nat):Ek key p lo (lo+1):=λa b x y n m k h f g=>by rw[show a=b by lia,g]at f;cases f;rfl
theorem yS{p:List Nat}(h:Ek key p lo hi):Ds key p lo hi:=λa b x y g n f m k=>by have:=h a b x y g (by lia) (by lia) f m k;unfold kl;rw[this];exact KeyOrd.kle_refl _
def Lf{k:Type}{p:List Nat}{st0 st:BW}{f:PUnit->StateT BW Sem k}{R:k->BW->Prop}(a:At it st0 st p)(h:∀g,At it st0 g (mir p i j)->Tr prog w A E s (f ⟨⟩) g R):Tr prog w A E s (reverseSlice' i j >>= f) st R:=by rw[reverseSlice'_eq];refine Kq (h _ ⟨a.kind,?_,a.pend,a.fail⟩);show jU (MT st) i j ((j - i) / 2)=_;rw[a.arr,wg2]
abbrev AS1:=Option (Option Nat)×Nat
variable {nrem:Nat}
theorem Ni{a:Nat}{st0 st:BW}{f:Nat->AS1->StateT BW Sem (ForInStep AS1)}
  (T:∀x n g u v,At it st0 g q->q[lo+n - 1]? = some u->q[lo+n]? = some v->Tr prog w A E s (f x (none,n)) g (λr o=>At it st0 o q/\r=if ltO key v u=true then .done (none,n) else .yield (none,n+1)))
  (at_:At it st0 st q)(Z:1<=a)(Y:a<=nrem)(U:lo+nrem<=q.length)(P:Sg key q lo (lo+a)):
  Tr prog w A E s (forIn [a:nrem] ((none,a):AS1) f) st (λc k=>∃m,c=(none,m)/\At it st0 k q/\a<=m/\m<=nrem/\Sg key q lo (lo+m)/\(m<nrem->∃u v,q[lo+m - 1]? = some u/\q[lo+m]? = some v/\ltO key v u=true)):=by
 refine Ea (I:=λx c k=>c=(none,x)/\At it st0 k q/\Sg key q lo (lo+x)) (λx c g z K B=>?_) (λc g B=>?_) ⟨rfl,at_,P⟩
 ·obtain⟨rfl,G,p⟩:=B;obtain⟨u,F⟩:∃u,q[lo+x - 1]? = some u:=⟨_,GJ (by lia)⟩;obtain⟨v,C⟩:∃v,q[lo+x]? = some v:=⟨_,GJ (by lia)⟩;refine Le (T x x g u v G F C) λr o Q=>?_;obtain⟨H,rfl⟩:=Q;by_cases h:ltO key v u=true
  ·rw[if_pos h];exact⟨x,rfl,H,z,by lia,p,λ_=>⟨u,v,F,C,h⟩⟩
  ·rw[if_neg h];exact⟨rfl,H,wx9 p (by lia) F C (Et (by simpa using h))⟩
 ·obtain⟨rfl,G,p⟩:=B;exact⟨_,rfl,G,by lia,by lia,p,λh=>by lia⟩
def wt7{p:List Nat}(k:j<=p.length)(m:Ek key p i j){a:Nat}(h:Ek key p a b):Ek key (mir p i j) a b:=λc d x y F C B z H G=>by have⟨o,g,u⟩:=Ml k m H;have⟨n,f,r⟩:=Ml k m G;rw[<-u,<-r];exact h c d o n F C B z g f
theorem kl8{p:List Nat}{st0 st:BW}(an:Ans prog w A s κ it key L)(hl:∀x∈p,x<L)(Q:kindOf st0=κ)(a:At it st0 st p)(h1:1<=nrem)(hz:lo+nrem<=p.length):
  Tr prog w A E s (countRun' lo nrem) st (λr U=>∃m q,r=some m/\1<=m/\m<=nrem/\Lk p q lo (lo+nrem)/\At it st0 U q/\Sg key q lo (lo+m)):=by
 refine Aw (Ni (key:=key) (q:=p) (λx n ae u v H B F=>?_) a (FW 1) h1 hz (wy0 p lo)) λc ae hc=>?_
 ·refine Ga an hl Q H F B ?_;refine Ai (λh=>?_) (λh=>?_)
  ·exact Ac ⟨H,by rw[if_pos h]⟩
  ·exact Ac ⟨H,by rw[if_neg h]⟩
 obtain⟨m,rfl,H,m1,m2,sg,hb⟩:=hc;refine Ai (λh=>?_) (λh=>?_)
 ·exact Ac ⟨m,p,rfl,m1,m2,Lk.refl _ _ _,H,sg⟩
 have hm:m≠nrem:=M7 h;have⟨u,v,B,F,ay⟩:=hb (by lia);obtain⟨x0,az⟩:∃x,p[lo]? = some x:=⟨_,GJ (by lia)⟩;refine Ai (λh=>Ga an hl Q H az B (Ai (λh'=>?_) (λh'=>Lf H λbf a3=>?_))) (λh=>?_)
 ·exact Ac ⟨m,p,rfl,m1,m2,Lk.refl _ _ _,H,sg⟩
 ·have T:Ek key p lo (lo+m):=λc d x y c1 c2 d1 d2 ex ey=>by
   have ak:∀c x,lo<=c->c<lo+m->p[c]? = some x->key x=key x0:=λc x c1 c2 ex =>
    KeyOrd.kle_antisymm (Gs (sg c (lo+m - 1) x u c1 (by lia) (by lia) ex B) (Et (by simpa using h'))) (sg lo c x0 x (FW _) c1 c2 az ex)
   rw[ak c x c1 c2 ex,ak d y d1 d2 ey]
  have C:lo+m<=p.length:=by lia
  have g:Lk p (mir p lo (lo+m)) lo (lo+nrem):=Mm (FW _) (by lia) C;have ai:=wt7 C T T;have Z:(mir p lo (lo+m))[lo+m]? = some v:=by rw[Pj C,if_neg (by lia)];exact F
  obtain⟨u2,G⟩:∃x,(mir p lo (lo+m))[lo+m - 1]? = some x:=⟨_,GJ (by rw[g.1.length_eq];lia)⟩;have ku:kl key v u2:=by have⟨u',aa,k'⟩:=Ml C T G;rw[B]at aa;cases aa;have:=Gq ay;unfold kl at this ⊢;rwa [k']at this
  generalize mir p lo (lo+m)=q at *;have ax:Ds key q lo (lo+(m+1)):=Nv (yS ai) m1 G Z ku;have aw:Ek key q (lo+(m+1) - (0+1)) (lo+(m+1)):=by rw[show lo+(m+1) - (0+1)=lo+m by lia];exact Wy q (lo+m)
  refine Lg ?_;refine Aw (R:=λc U=>∃n f q,c=(none,n,f)/\Lk p q lo (lo+nrem)/\At it st0 U q/\m+1<=n/\n<=nrem/\f+1<=n/\Ds key q lo (lo+n)/\Ek key q (lo+n - (f+1)) (lo+n)) ?_ λc ah hc=>?_
  ·refine Ea (I:=λx c U=>∃f q,c=(none,x,f)/\Lk p q lo (lo+nrem)/\At it st0 U q/\f+1<=x/\Ds key q lo (lo+x)/\Ek key q (lo+x - (f+1)) (lo+x)) (λx c ah au bb hI=>?_) (λc ah hI=>?_) ⟨0,q,rfl,g,a3,by lia,ax,aw⟩
   ·obtain⟨f,q,rfl,g,P,g1,ds,T⟩:=hI;have zq:q.length=p.length:=g.1.length_eq;obtain⟨u,B⟩:∃u,q[lo+x - 1]? = some u:=⟨_,GJ (by lia)⟩;obtain⟨v,F⟩:∃v,q[lo+x]? = some v:=⟨_,GJ (by lia)⟩;refine Ga an (g.lt hl) Q P F B ?_;refine Ai (λh=>?_) (λh=>?_)
    ·have Y:=Gq h;have aj:∀q:List Nat,Ek key q (lo+(x+1) - (0+1)) (lo+(x+1)):=λq=>by rw[show lo+(x+1) - (0+1)=lo+x by lia];exact Wy q (lo+x)
     refine Ai (λh'=>Lf P λar a5=>?_) (λh'=>?_)
     ·have C:lo+x<=q.length:=by lia
      have K:Lk q (mir q (lo+x - (f+1)) (lo+x)) lo (lo+nrem):=Mm (by lia) (by lia) C;obtain⟨u2,G⟩:∃y,(mir q (lo+x - (f+1)) (lo+x))[lo+x - 1]? = some y:=⟨_,GJ (by rw[K.1.length_eq];lia)⟩;have Z:(mir q (lo+x - (f+1)) (lo+x))[lo+x]? = some v:=by rw[Pj C,if_neg (by lia)];exact F
      have ku:kl key v u2:=by have⟨u',aa,k'⟩:=Ml C T G;rw[B]at aa;cases aa;have:=Y;unfold kl at this ⊢;rwa [k']at this
      exact Ac ⟨0,_,rfl,g.trans K,a5,by lia,Nv (lD C T ds) (by lia) G Z ku,aj _⟩
     ·exact Ac ⟨0,q,rfl,g,P,by lia,Nv ds (by lia) B F Y,aj _⟩
    ·refine Ga an (g.lt hl) Q P B F ?_;refine Ai (λh'=>?_) (λh'=>?_)
     ·exact Ac ⟨x,f,q,rfl,g,P,au,by lia,g1,ds,T⟩
     ·have e:key v=key u:=O.total _ _ (by simpa using h) (by simpa using h');have Y:kl key v u:=by unfold kl;rw[e];exact KeyOrd.kle_refl _
      refine Ac ⟨f+1,q,rfl,g,P,by lia,Nv ds (by lia) B F Y,?_⟩;rw[show lo+(x+1) - (f+1+1)=lo+x - (f+1) by lia];have ag:∀c y,lo+x - (f+1)<=c->c<lo+(x+1)->q[c]? = some y->key y=key u:=λc y c1 c2 ec=>by
       by_cases hc:c=lo+x
       ·rw[hc,F]at ec;cases ec;exact e
       ·exact T c (lo+x - 1) y u c1 (by lia) (by lia) (by lia) ec B
      exact λc d y z c1 c2 d1 d2 ec ed=>(ag c y c1 c2 ec).trans (ag d z d1 d2 ed).symm
   ·obtain⟨f,q,rfl,g,P,g1,ds,T⟩:=hI;exact⟨_,f,q,rfl,g,P,by lia,by lia,g1,ds,T⟩
  obtain⟨n,f,q,rfl,g,P,n1,n2,g1,ds,T⟩:=hc;have zq:q.length=p.length:=g.1.length_eq;have C:lo+n<=q.length:=by lia
  refine Ai (λh'=>Lf P λar a5=>Lf a5 λaq a6=>?_) (λh'=>Lf P λaq a6=>?_)
  ·have K:Lk q (mir q (lo+n - (f+1)) (lo+n)) lo (lo+nrem):=Mm (by lia) (by lia) C;have af:lo+n<=(mir q (lo+n - (f+1)) (lo+n)).length:=by rw[K.1.length_eq];exact C
   have o:=(g.trans K).trans (Mm (i:=lo) (j:=lo+n) (hi:=lo+nrem) (FW lo) (by lia) af);have ab:=lC af (lD C T ds);generalize mir (mir q (lo+n - (f+1)) (lo+n)) lo (lo+n)=r at *;refine Aw (Ni (key:=key) (q:=r) (λx n ae u v H B F=>?_) a6 (by lia) n2 (by rw[o.1.length_eq];exact hz) ab) λc ao hc=>?_
   ·refine Ga an (o.lt hl) Q H F B ?_;refine Ai (λh=>?_) (λh=>?_)
    ·exact Ac ⟨H,by rw[if_pos h]⟩
    ·exact Ac ⟨H,by rw[if_neg h]⟩
   obtain⟨k,rfl,a7,k1,k2,sg,_⟩:=hc;exact Ac ⟨k,r,rfl,by lia,k2,o,a7,sg⟩
  ·have o:=g.trans (Mm (i:=lo) (j:=lo+n) (hi:=lo+nrem) (FW lo) (by lia) C);have ab:=lC C ds;generalize mir q lo (lo+n)=r at *;refine Aw (Ni (key:=key) (q:=r) (λx n ae u v H B F=>?_) a6 (by lia) n2 (by rw[o.1.length_eq];exact hz) ab) λc ao hc=>?_
   ·refine Ga an (o.lt hl) Q H F B ?_;refine Ai (λh=>?_) (λh=>?_)
    ·exact Ac ⟨H,by rw[if_pos h]⟩
    ·exact Ac ⟨H,by rw[if_neg h]⟩
   obtain⟨k,rfl,a7,k1,k2,sg,_⟩:=hc;exact Ac ⟨k,r,rfl,by lia,k2,o,a7,sg⟩
 ·have bc:m=1:=by have:¬ m>1:=h;lia
  have ai:Ek key p lo (lo+m):=by rw[bc];exact Wy p lo
  have g:Lk p p lo (lo+nrem):=Lk.refl _ _ _;obtain⟨q,hq⟩:∃q,q=p:=⟨p,rfl⟩;have ku:=Gq ay;have a3:=H;have G:=B;have Z:=F;have ba:=g;clear hb h
  replace g:Lk p q lo (lo+nrem):=by rw[hq];exact ba
  replace ai:Ek key q lo (lo+m):=by rw[hq];exact ai
  replace a3:At it st0 ae q:=by rw[hq];exact a3
  replace G:q[lo+m - 1]? = some u:=by rw[hq];exact G
  replace Z:q[lo+m]? = some v:=by rw[hq];exact Z
  have ax:Ds key q lo (lo+(m+1)):=Nv (yS ai) m1 G Z ku;have aw:Ek key q (lo+(m+1) - (0+1)) (lo+(m+1)):=by rw[show lo+(m+1) - (0+1)=lo+m by lia];exact Wy q (lo+m)
  refine Lg ?_;refine Aw (R:=λc U=>∃n f q,c=(none,n,f)/\Lk p q lo (lo+nrem)/\At it st0 U q/\m+1<=n/\n<=nrem/\f+1<=n/\Ds key q lo (lo+n)/\Ek key q (lo+n - (f+1)) (lo+n)) ?_ λc ah hc=>?_
  ·refine Ea (I:=λx c U=>∃f q,c=(none,x,f)/\Lk p q lo (lo+nrem)/\At it st0 U q/\f+1<=x/\Ds key q lo (lo+x)/\Ek key q (lo+x - (f+1)) (lo+x)) (λx c ah au bb hI=>?_) (λc ah hI=>?_) ⟨0,q,rfl,g,a3,by lia,ax,aw⟩
   ·obtain⟨f,q,rfl,g,P,g1,ds,T⟩:=hI;have zq:q.length=p.length:=g.1.length_eq;obtain⟨u,B⟩:∃u,q[lo+x - 1]? = some u:=⟨_,GJ (by lia)⟩;obtain⟨v,F⟩:∃v,q[lo+x]? = some v:=⟨_,GJ (by lia)⟩;refine Ga an (g.lt hl) Q P F B ?_;refine Ai (λh=>?_) (λh=>?_)
    ·have Y:=Gq h;have aj:∀q:List Nat,Ek key q (lo+(x+1) - (0+1)) (lo+(x+1)):=λq=>by rw[show lo+(x+1) - (0+1)=lo+x by lia];exact Wy q (lo+x)
     refine Ai (λh'=>Lf P λar a5=>?_) (λh'=>?_)
     ·have C:lo+x<=q.length:=by lia
      have K:Lk q (mir q (lo+x - (f+1)) (lo+x)) lo (lo+nrem):=Mm (by lia) (by lia) C;obtain⟨u2,G⟩:∃y,(mir q (lo+x - (f+1)) (lo+x))[lo+x - 1]? = some y:=⟨_,GJ (by rw[K.1.length_eq];lia)⟩;have Z:(mir q (lo+x - (f+1)) (lo+x))[lo+x]? = some v:=by rw[Pj C,if_neg (by lia)];exact F
      have ku:kl key v u2:=by have⟨u',aa,k'⟩:=Ml C T G;rw[B]at aa;cases aa;have:=Y;unfold kl at this ⊢;rwa [k']at this
      exact Ac ⟨0,_,rfl,g.trans K,a5,by lia,Nv (lD C T ds) (by lia) G Z ku,aj _⟩
     ·exact Ac ⟨0,q,rfl,g,P,by lia,Nv ds (by lia) B F Y,aj _⟩
    ·refine Ga an (g.lt hl) Q P B F ?_;refine Ai (λh'=>?_) (λh'=>?_)
     ·exact Ac ⟨x,f,q,rfl,g,P,au,by lia,g1,ds,T⟩
     ·have e:key v=key u:=O.total _ _ (by simpa using h) (by simpa using h');have Y:kl key v u:=by unfold kl;rw[e];exact KeyOrd.kle_refl _
      refine Ac ⟨f+1,q,rfl,g,P,by lia,Nv ds (by lia) B F Y,?_⟩;rw[show lo+(x+1) - (f+1+1)=lo+x - (f+1) by lia];have ag:∀c y,lo+x - (f+1)<=c->c<lo+(x+1)->q[c]? = some y->key y=key u:=λc y c1 c2 ec=>by
       by_cases hc:c=lo+x
       ·rw[hc,F]at ec;cases ec;exact e
       ·exact T c (lo+x - 1) y u c1 (by lia) (by lia) (by lia) ec B
      exact λc d y z c1 c2 d1 d2 ec ed=>(ag c y c1 c2 ec).trans (ag d z d1 d2 ed).symm
   ·obtain⟨f,q,rfl,g,P,g1,ds,T⟩:=hI;exact⟨_,f,q,rfl,g,P,by lia,by lia,g1,ds,T⟩
  obtain⟨n,f,q,rfl,g,P,n1,n2,g1,ds,T⟩:=hc;have zq:q.length=p.length:=g.1.length_eq;have C:lo+n<=q.length:=by lia
  refine Ai (λh'=>Lf P λar a5=>Lf a5 λaq a6=>?_) (λh'=>Lf P λaq a6=>?_)
  ·have K:Lk q (mir q (lo+n - (f+1)) (lo+n)) lo (lo+nrem):=Mm (by lia) (by lia) C;have af:lo+n<=(mir q (lo+n - (f+1)) (lo+n)).length:=by rw[K.1.length_eq];exact C
   have o:=(g.trans K).trans (Mm (i:=lo) (j:=lo+n) (hi:=lo+nrem) (FW lo) (by lia) af);have ab:=lC af (lD C T ds);generalize mir (mir q (lo+n - (f+1)) (lo+n)) lo (lo+n)=r at *;refine Aw (Ni (key:=key) (q:=r) (λx n ae u v H B F=>?_) a6 (by lia) n2 (by rw[o.1.length_eq];exact hz) ab) λc ao hc=>?_
   ·refine Ga an (o.lt hl) Q H F B ?_;refine Ai (λh=>?_) (λh=>?_)
    ·exact Ac ⟨H,by rw[if_pos h]⟩
    ·exact Ac ⟨H,by rw[if_neg h]⟩
   obtain⟨k,rfl,a7,k1,k2,sg,_⟩:=hc;exact Ac ⟨k,r,rfl,by lia,k2,o,a7,sg⟩
  ·have o:=g.trans (Mm (i:=lo) (j:=lo+n) (hi:=lo+nrem) (FW lo) (by lia) C);have ab:=lC C ds;generalize mir q lo (lo+n)=r at *;refine Aw (Ni (key:=key) (q:=r) (λx n ae u v H B F=>?_) a6 (by lia) n2 (by rw[o.1.length_eq];exact hz) ab) λc ao hc=>?_
   ·refine Ga an (o.lt hl) Q H F B ?_;refine Ai (λh=>?_) (λh=>?_)
    ·exact Ac ⟨H,by rw[if_pos h]⟩
    ·exact Ac ⟨H,by rw[if_neg h]⟩
   obtain⟨k,rfl,a7,k1,k2,sg,_⟩:=hc;exact Ac ⟨k,r,rfl,by lia,k2,o,a7,sg⟩
def Runs(key:Nat->O.α)(p:List Nat):List (Nat×Nat×Nat)->Nat->Nat->Prop
 | [],a,b=>a=b
 |x::r,a,b=>x.1=a/\1<=x.2.1/\Sg key p a (a+x.2.1)/\Runs key p r (a+x.2.1) b
theorem Sg.like{p:List Nat}(h:Sg key p lo hi)(e:∀i,lo<=i->i<hi->q[i]? = p[i]?):Sg key q lo hi:=λi j x y f g a m k =>
 h i j x y f g a (by rw[<-e i f (by lia)];exact m) (by rw[<-e j (by lia) a];exact k)
theorem Runs.le{p:List Nat}:∀{r:List (Nat×Nat×Nat)}{a b:Nat},Runs key p r a b->a+r.length<=b
 | [],a,b,h=>by have:a=b:=h;simp;lia
 |x::r,a,b,h=>by have:=Runs.le h.2.2.2;have:=h.2.1;rw[RB];lia
theorem Runs.like{p q:List Nat}:∀{r:List (Nat×Nat×Nat)}{a b:Nat},Runs key p r a b->(∀i,a<=i->i<b->q[i]? = p[i]?)->Runs key q r a b
 | [],a,b,h,_=>h
 |x::r,a,b,h,e=>by have k:=Runs.le h.2.2.2;exact⟨h.1,h.2.1,h.2.2.1.like λi g f=>e i g (by lia),Runs.like h.2.2.2 λi g f=>e i (by lia) f⟩
def Jx{p:List Nat}:∀{r t:List (Nat×Nat×Nat)}{a b:Nat},Runs key p (r++t) a b↔∃c,Runs key p r a c/\Runs key p t c b
 | [],t,a,b=>⟨λh=>⟨a,rfl,h⟩,λ⟨c,f,g⟩=>by have:a=c:=f;rw[this];exact g⟩
 |x::r,t,a,b=>by
  constructor
  ·intro h;obtain⟨c,f,g⟩:=Jx.mp h.2.2.2;exact⟨c,⟨h.1,h.2.1,h.2.2.1,f⟩,g⟩
  ·rintro⟨c,f,g⟩;exact⟨f.1,f.2.1,f.2.2.1,Jx.mpr ⟨c,f.2.2.2,g⟩⟩
def Runs.push{p:List Nat}{r:List (Nat×Nat×Nat)}{n:Nat}(h:Runs key p r 0 lo)(f:1<=n)(a:Sg key p lo (lo+n)):Runs key p (r++[(lo,n,pw)]) 0 (lo+n):=Jx.mpr ⟨lo,h,rfl,f,a,rfl⟩
theorem wy4{P X S:List Nat}(h:Srt key X):Sg key (P++X++S) P.length (P.length+X.length):=λi j x y a n m k f=>by
 have g:∀i,P.length<=i->i<P.length+X.length->(P++X++S)[i]? = X[i - P.length]?:=λi a n=>by rw[PL,YF a,ZK (by lia)]
 rw[g i a (by lia)]at k;rw[g j (by lia) m]at f;exact Px h (by lia) k f
theorem t8{p:List Nat}{n:Nat}(h:Sg key p lo (lo+n)):Srt key ((p.drop lo).take n):=by rw[Srt,fO];intro i j hi a f;rw[RC,WX]at hi a;rw[dI,iM,dI,iM];exact h (lo+i) (lo+j) _ _ (by lia) (by lia) (by lia) (GJ (by lia)) (GJ (by lia))
theorem wi1{a:Type}(pre post:List a)(x y z:a):((pre++x::y::post).toArray.setIfInBounds pre.length z).eraseIdxIfInBounds (pre.length+1)=(pre++z::post).toArray:=by
 have h:pre.length+1<((pre++x::y::post).toArray.setIfInBounds pre.length z).size:=by simp
 unfold Array.eraseIdxIfInBounds;rw[dif_pos h];apply ZS;rw[Array.toList_eraseIdx,jFh];show((pre++x::y::post).set pre.length z).eraseIdx (pre.length+1)=pre++z::post;rw[jGc _ _ (FW _),Nat.sub_self];show(pre++z::y::post).eraseIdx (pre.length+1)=_;rw[List.eraseIdx_append_of_length_le (by lia)];simp
variable {pre:List (Nat×Nat×Nat)}
theorem jt5{p:List Nat}{st:BW}{post:List (Nat×Nat×Nat)}{x y:Nat×Nat×Nat}(an:Ans prog w A s κ it key L)(hl:∀x∈p,x<L)(I:kindOf st=κ)(m:MT st=Ao it p)(hf:HW st=none)(K:CJ st=(pre++x::y::post).toArray)(hi:i=pre.length)(hb:b<=p.length)
  (hr:Runs key p (pre++x::y::post) 0 b):
  Tr prog w A E s (jV i) st (λr g=>r=true/\kindOf g=κ/\HW g=none/\∃q z,CJ g=(pre++z::post).toArray/\MT g=Ao it q/\q.Perm p/\(∀j,b<=j->q[j]? = p[j]?)/\Runs key q (pre++z::post) 0 b):=by
 have⟨c,r1,r2⟩:=Jx.mp hr
 obtain⟨u,a,x3⟩:=x
 obtain⟨y1,f,y3⟩:=y
 obtain⟨o,hx,C,T,hy,B,n⟩:=r2
 have o:u=c:=o
 have T:y1=c+a:=T
 have hx:1<=a:=hx
 have hy:1<=f:=hy
 have C:Sg key p c (c+a):=C
 have B:Sg key p (c+a) (c+a+f):=B
 have n:Runs key p post (c+a+f) b:=n
 have aa:c+a+f<=b:=by have:=n.le;lia
 have U:p.take c++(p.drop c).take a++(p.drop (c+a)).take f++p.drop (c+a+f)=p:=by
  rw[<-p8,<-p8,YB]
 have H:(p.take c).length=c:=by rw[RC];lia
 have G:((p.drop c).take a).length=a:=by rw[RC,WX];lia
 have lY:((p.drop (c+a)).take f).length=f:=by rw[RC,WX];lia
 have g1:(CJ st)[i]? = some (u,a,x3):=by rw[K,hi];simp
 have g2:(CJ st)[i+1]? = some (y1,f,y3):=by rw[K,hi];simp
 refine Le (jt2 (P:=p.take c) (X:=(p.drop c).take a) (Y:=(p.drop (c+a)).take f) (S:=p.drop (c+a+f)) an (by rw[U];exact hl) (t8 C) (t8 B) (by lia) (by lia) I (by rw[U];exact m) hf g1 g2 (by rw[H];exact o) G.symm (by rw[H,G];exact T) lY.symm) λr g h=>?_
 obtain⟨rfl,k1,k2,k3,Z,ea,F⟩:=h
 have lZ:Z.length=a+f:=by rw[F.1.length_eq,PB,G,lY]
 have Q:∀j,j<c\/c+a+f<=j->(p.take c++Z++p.drop (c+a+f))[j]? = p[j]?:=λj k=>by
  rcases k with k |k
  ·rw[ZK (by rw[PB];lia),ZK (by lia),qX k]
  ·rw[YF (by rw[PB];lia),PB,jGx]
   congr 1
   lia
 refine⟨rfl,k1,k2,_,(u,a+f,x3),?_,ea,?_,λj k=>Q j (by lia),?_⟩
 ·rw[k3,K,hi,wi1]
 ·conv=>rhs;rw[<-U]
  refine List.Perm.append_right _ ?_
  rw[PL]
  exact F.1.append_left _
 ·have sz:=wy4 (P:=p.take c) (S:=p.drop (c+a+f)) F.2
  rw[H,lZ]at sz
  refine Jx.mpr ⟨c,r1.like λj _ k=>Q j (.inl k),o,by show 1<=a+f;lia,sz,?_⟩
  show Runs key _ post (c+(a+f)) b
  rw[<-Nat.add_assoc]
  exact n.like λj k _=>Q j (.inr k)
structure GS2(κ:RX)(it:Array LQ)(key:Nat->O.α)(p:List Nat)(st:BW)(q:List Nat)(lo:Nat)(pend:List (Nat×Nat×Nat)):Prop where
 kind:kindOf st=κ
 fail:HW st=none
 arr:MT st=Ao it q
 perm:q.Perm p
 pnd:CJ st=pend.toArray
 runs:Runs key q pend 0 lo
 le:lo<=p.length
theorem wy2{a:Type}{l:List a}(h:i+1<l.length):l=l.take i++l[i]::l[i+1]::l.drop (i+2):=by
 conv=>lhs;rw[<-YB i l]
 rw[cG (show i<l.length by lia),cG h]
variable {pend:List (Nat×Nat×Nat)}
theorem Q9{p:List Nat}{st:BW}(an:Ans prog w A s κ it key L)(G:∀x∈p,x<L)(g:GS2 κ it key p st q lo pend)(hi:i+1<pend.length):
  Tr prog w A E s (jV i) st (λr f=>r=true/\∃k a,GS2 κ it key p f k lo a/\a.length+1=pend.length/\(∀j,lo<=j->k[j]? = q[j]?)):=by
 have K:=wy2 hi;have n:=g.pnd;have m:=g.runs;rw[K]at n m;refine Le (jt5 (b:=lo) an (λx F=>G x (g.perm.mem_iff.mp F)) g.kind g.arr g.fail n (by rw[RC];lia) (by have:=g.le;have:=g.perm.length_eq;lia) m) λr f h=>?_;obtain⟨I,C,B,k,z,Q,P,u,H,o⟩:=h;refine⟨I,k,_,⟨C,B,P,u.trans g.perm,Q,o,g.le⟩,?_,H⟩;rw[PB,RC,RB,WX];lia
theorem Lk.wide{p:List Nat}{a:Nat}(h:Lk p q lo hi)(f:hi<=a):Lk p q lo a:=⟨h.1,λi hi=>h.2 i (by lia)⟩
def V2{p:List Nat}{st:BW}{n:Nat}(g:GS2 κ it key p st q lo pend)(a:Sg key q lo (lo+n))(h:1<=n)(f:lo+n<=p.length):GS2 κ it key p (setPending st ((CJ st).push (lo,n,0))) q (lo+n) (pend++[(lo,n,0)]):=
 ⟨g.kind,g.fail,g.arr,g.perm,by show(CJ st).push _=_;rw[g.pnd];simp,g.runs.push h a,f⟩
def wk3{x:Nat×Nat×Nat}{a:Nat}(h:Runs key q (pre++[x]) a b):Runs key q (pre++[(x.1,x.2.1,pw)]) a b:=by have⟨c,g,f⟩:=Jx.mp h;exact Jx.mpr ⟨c,g,f⟩
def U8{a:Type}(f:a->a)(x:a):∀pre:List a,(pre++[x]).modify pre.length f=pre++[f x]
 | []=>rfl
 |y::pre=>by rw[z9,RB,List.modify_succ_cons,U8 f x pre];rfl
def uE{p:List Nat}{st:BW}(g:GS2 κ it key p st q lo pend):∃a,GS2 κ it key p (setPending st ((CJ st).modify ((CJ st).size - 1) λx=>(x.1,x.2.1,pw))) q lo a:=by
 rcases jGd pend with e | ⟨pre,x,e⟩
 ·subst e;refine⟨[],g.kind,g.fail,g.arr,g.perm,?_,g.runs,g.le⟩;show(CJ st).modify ((CJ st).size - 1) (λx=>(x.1,x.2.1,pw))=_;rw[g.pnd];apply ZS;simp
 ·rw[jGe]at e;subst e;refine⟨pre++[(x.1,x.2.1,pw)],g.kind,g.fail,g.arr,g.perm,?_,wk3 g.runs,g.le⟩;show(CJ st).modify ((CJ st).size - 1) (λx=>(x.1,x.2.1,pw))=_;rw[g.pnd];apply ZS;rw[Array.toList_modify];simp;exact U8 _ x pre
theorem kw8{p:List Nat}{st:BW}(an:Ans prog w A s κ it key L)(hl:∀x∈p,x<L)(hN:1<=p.length)(g:GS2 κ it key p st p 0 []):
  Tr prog w A E s sortRuns' st (λ_ f=>HW f=none/\∃q,MT f=Ao it q/\q.Perm p/\Sg key q 0 p.length):=by
 rw[sortRuns'_eq];refine Jl ?_;have sz:(MT st).size=p.length:=by rw[g.arr,Bk]
 rw[sz];refine Aw (R:=λc f=>c.1=none/\∃q pend,GS2 κ it key p f q p.length pend) ?_ λc f hc=>?_
 ·refine Ea (I:=λx c f=>∃q pend lo,c=(none,lo)/\GS2 κ it key p f q lo pend/\x<=lo) (λx c f _ hx G=>?_) (λc f G=>?_) ⟨p,[],0,rfl,g,by lia⟩
  ·obtain⟨q,pend,lo,rfl,g,aj⟩:=G;have ql:q.length=p.length:=g.perm.length_eq;refine Ai (λh=>?_) (λh=>?_)
   ·have h:lo≥p.length:=h;have e:lo=p.length:=by have:=g.le;lia
    exact Ac ⟨rfl,q,pend,by rw[<-e];exact g⟩
   have h:¬ lo≥p.length:=h;have lq:∀x∈q,x<L:=λx hx=>hl x (g.perm.mem_iff.mp hx);refine Aw (kl8 (lo:=lo) (nrem:=p.length - lo) (st0:=f) an lq g.kind ⟨rfl,g.arr,rfl,rfl⟩ (by lia) (by lia)) λr aa T=>?_;obtain⟨m,q2,rfl,m1,m2,K,a2,ag⟩:=T;have K:Lk q q2 lo p.length:=K.wide (by lia);have ak:q2.length=p.length:=K.1.length_eq.trans ql;refine Ai (λU=>Lg (Aw (kc7 (lo:=lo) (n:=min (p.length - lo) (YX p.length p.length 0)) (ok:=m) (st0:=f) an (K.lt lq) g.kind a2 (by lia) (by have:m<YX p.length p.length 0:=U;lia) ag) λr B T=>?_)) (λU=>?_)
   ·obtain⟨rfl,C,ai,Y,Q⟩:=T;have U:m<YX p.length p.length 0:=U;have lk:Lk q C lo p.length:=K.trans (ai.wide (by lia));have n1:1<=min (p.length - lo) (YX p.length p.length 0):=by lia
    refine Ai (λh=>absurd h (by decide)) (λ_=>?_);have g3:GS2 κ it key p B C lo pend:=⟨Y.kind.trans g.kind,Y.fail.trans g.fail,Y.arr,lk.1.trans g.perm,Y.pend.trans g.pnd,g.runs.like (λi _ hi=>lk.2 i (.inl hi)),g.le⟩;refine Jl ?_;generalize hb:(CJ B).back? = ob;cases ob with
    |none=>exact Kq (Ac ⟨C,_,_,rfl,V2 g3 Q n1 (by lia),by lia⟩)
    |some x1 =>
     obtain⟨s1,F,w1⟩:=x1;refine Aw (R:=λc k=>c.1=none/\∃u a,GS2 κ it key p k u lo a/\(∀j,lo<=j->u[j]? = C[j]?)) ?_ λc k hc=>?_
     ·refine Ea (I:=λx c k=>c=(none,())/\∃u a,GS2 κ it key p k u lo a/\(∀j,lo<=j->u[j]? = C[j]?)) (λx c k _ hx G=>?_) (λc k G=>?_) ⟨rfl,C,pend,g3,λ_ _=>rfl⟩
      ·obtain⟨rfl,u,a,H,P⟩:=G;refine Jl ?_;have zp:(CJ k).size=a.length:=by rw[H.pnd];simp
       dsimp only;by_cases hs:(CJ k).size>1
       ·rw[if_pos hs];generalize (CJ k)[(CJ k).size - 2]? = o;cases o with
        |none=>exact Ac ⟨rfl,u,a,H,P⟩
        |some y =>
         obtain⟨y1,y2,y3⟩:=y;refine Ai (λh=>?_) (λh=>?_)
         ·exact Ac ⟨rfl,u,a,H,P⟩
         ·refine Aw (Q9 an hl H (by lia)) λr ah T=>?_;obtain⟨rfl,q5,z,g5,e5,af⟩:=T;exact Ac ⟨rfl,q5,z,g5,λj h=>(af j h).trans (P j h)⟩
       ·rw[if_neg hs];exact Ac ⟨rfl,u,a,H,P⟩
      ·obtain⟨rfl,h⟩:=G;exact⟨rfl,h⟩
     ·obtain⟨e,u,a,H,P⟩:=hc;obtain⟨c1,c2⟩:=c;cases e;refine Kq (Kq (Ac ?_));obtain⟨z,g5⟩:=uE (pw:=power' p.length (2 * s1+F) (2 * s1+F+F+min (p.length - lo) (YX p.length p.length 0)) p.length) H;exact⟨u,_,_,rfl,V2 g5 (Q.like λi h1 _=>P i h1) n1 (by lia),by lia⟩
   ·obtain⟨C,ae⟩:∃C,C=q2:=⟨q2,rfl⟩;obtain⟨B,Z⟩:∃B,B=aa:=⟨aa,rfl⟩;have lk:Lk q C lo p.length:=by rw[ae];exact K
    have Y:At it f B C:=by rw[ae,Z];exact a2
    have Q:Sg key C lo (lo+m):=by rw[ae];exact ag
    have n1:=m1;rw[<-Z];have g3:GS2 κ it key p B C lo pend:=⟨Y.kind.trans g.kind,Y.fail.trans g.fail,Y.arr,lk.1.trans g.perm,Y.pend.trans g.pnd,g.runs.like (λi _ hi=>lk.2 i (.inl hi)),g.le⟩;refine Jl ?_;generalize hb:(CJ B).back? = ob;cases ob with
    |none=>exact Kq (Ac ⟨C,_,_,rfl,V2 g3 Q n1 (by lia),by lia⟩)
    |some x1 =>
     obtain⟨s1,F,w1⟩:=x1;refine Aw (R:=λc k=>c.1=none/\∃u a,GS2 κ it key p k u lo a/\(∀j,lo<=j->u[j]? = C[j]?)) ?_ λc k hc=>?_
     ·refine Ea (I:=λx c k=>c=(none,())/\∃u a,GS2 κ it key p k u lo a/\(∀j,lo<=j->u[j]? = C[j]?)) (λx c k _ hx G=>?_) (λc k G=>?_) ⟨rfl,C,pend,g3,λ_ _=>rfl⟩
      ·obtain⟨rfl,u,a,H,P⟩:=G;refine Jl ?_;have zp:(CJ k).size=a.length:=by rw[H.pnd];simp
       dsimp only;by_cases hs:(CJ k).size>1
       ·rw[if_pos hs];generalize (CJ k)[(CJ k).size - 2]? = o;cases o with
        |none=>exact Ac ⟨rfl,u,a,H,P⟩
        |some y =>
         obtain⟨y1,y2,y3⟩:=y;refine Ai (λh=>?_) (λh=>?_)
         ·exact Ac ⟨rfl,u,a,H,P⟩
         ·refine Aw (Q9 an hl H (by lia)) λr ah T=>?_;obtain⟨rfl,q5,z,g5,e5,af⟩:=T;exact Ac ⟨rfl,q5,z,g5,λj h=>(af j h).trans (P j h)⟩
       ·rw[if_neg hs];exact Ac ⟨rfl,u,a,H,P⟩
      ·obtain⟨rfl,h⟩:=G;exact⟨rfl,h⟩
     ·obtain⟨e,u,a,H,P⟩:=hc;obtain⟨c1,c2⟩:=c;cases e;refine Kq (Kq (Ac ?_));obtain⟨z,g5⟩:=uE (pw:=power' p.length (2 * s1+F) (2 * s1+F+F+m) p.length) H;exact⟨u,_,_,rfl,V2 g5 (Q.like λi h1 _=>P i h1) n1 (by lia),by lia⟩
  ·obtain⟨q,pend,lo,rfl,g,aj⟩:=G;have e:lo=p.length:=by have:=g.le;lia
   exact⟨rfl,q,pend,by rw[<-e];exact g⟩
 ·obtain⟨e,q,pend,g⟩:=hc;obtain⟨c1,c2⟩:=c;cases e;refine Aw (R:=λc f=>c.1=none/\∃q pend,GS2 κ it key p f q p.length pend/\pend.length<=1) ?_ λc f hc=>?_
  ·refine Ea (I:=λx c f=>c=(none,())/\∃q pend,GS2 κ it key p f q p.length pend/\pend.length+x<=p.length+1) (λx c f _ hx G=>?_) (λc f G=>?_) ⟨rfl,q,pend,g,by have:=g.runs.le;lia⟩
   ·obtain⟨rfl,q,pend,g,hp⟩:=G;refine Jl ?_;have zp:(CJ f).size=pend.length:=by rw[g.pnd];simp
    refine Ai (λh=>?_) (λh=>?_)
    ·exact Ac ⟨rfl,q,pend,g,by have:(CJ f).size<=1:=h;lia⟩
    ·have h:¬ (CJ f).size<=1:=h;refine Aw (Q9 an hl g ?_) λr aa T=>?_
     ·split
      ·lia
      ·lia
     ·obtain⟨rfl,q2,ab,g2,e2,_⟩:=T;exact Ac ⟨rfl,q2,ab,g2,by lia⟩
   ·obtain⟨rfl,q,pend,g,hp⟩:=G;exact⟨rfl,q,pend,g,by lia⟩
  ·obtain⟨e,q,pend,g,hp⟩:=hc;obtain⟨c1,c2⟩:=c;cases e;refine Ac ⟨g.fail,q,g.arr,g.perm,?_⟩
   match pend,hp,g.runs with
   | [],_,h=>exact absurd (show 0=p.length from h) (by lia)
   | [x],_,h=>have e:0+x.2.1=p.length:=h.2.2.2;have:=h.2.2.1;rwa [e]at this
variable {a:BK}{vs:List A_}
theorem wt5{n:Nat}{P:PySem.Fin->BJ->Prop}(Z:s.heap.get? a=some (HJ "list" vs.toArray n))(ag:vs.length<=16777216)(q:Asks prog w A s a vs κ key)
  (h:∀(p:Array Nat)(h':CP)(tk:Nat),V8 vs.length p->V9 key p vs.length->Bs a s.heap h'->(∃e,h'.get? a=some (HJ "list" (VB (p.toList.map λi=>vs.getD i .none)) e))->P (.done (.ret .none)) {s with heap:=h',toks:=tk}):
  BL (BR prog w) A (GR.«list.sort» ⟨[.ref a],[]⟩) P E s:=by
 rw[list_sort_plain];have af:a<s.heap.objs.size:=GQ Z;have F:vs.toArray.size=vs.length:=KJ;refine BX (listItems_at Z rfl ?_);refine BX (XF Z rfl ?_ (by rw[F,CQ];lia) (U_ _));obtain⟨U,B⟩:∃U,(s.heap.update a (Obj.mapSeq λ_=>(#[]:Array A_))).get? a=some (HJ "list" #[] U):=⟨_,I_ Z λ_=>#[]⟩;refine BX (ZQ B rfl ?_);refine BX (VL ?_ (by show vs.length<=_;rw[CQ];lia));refine BX (W_ ?_ (U_ _));refine CT ?_;generalize eh:((s.heap.update a (Obj.mapSeq λ_=>(#[]:Array A_))).push {cls:=.type "tuple",data:=.seq (vs.toArray.toList).toArray}).push {cls:=.type "list",data:=.seq ([]:List A_).toArray}=m;have Y:Bs a s.heap m:=by rw[<-eh];exact((Bs.upd _ _).trans (Bs.push _ _)).trans (Bs.push _ _)
 have G:m.get? a=some (HJ "list" #[] U):=by rw[<-eh];exact HF _ (HF _ B)
 show BL (BR prog w) A _ P E {s with heap:=m};clear eh B;dsimp only;by_cases h2:vs.length<2
 ·rw[if_pos (by rw[F];exact h2),if_pos (by rw[F];exact h2)];refine BX (CW ?_);rw[StateT.run_pure];refine BX (CW ?_);dsimp only;refine BX (ZQ G rfl ?_);have eo:(MT (SortSt.mk' general' (vs.toArray.zip vs.toArray) #[] 7 none)).map (·.2)=vs.toArray:=ku2 vs;rw[eo];refine BX (XF G rfl ?_ (U_ _) (by show vs.toArray.size<=_;rw[F,CQ];lia));simp only[bne_self_eq_false,WK,if_false];refine CW (h (VB (List.range vs.length)) _ s.toks (List.Perm.refl _) (λi j Q K=>by rw[show i=j by lia];exact KeyOrd.kle_refl _) (Y.trans (Bs.upd _ _)) ?_);rw[show(VB (List.range vs.length)).toList=List.range vs.length from rfl,X5];exact⟨_,I_ G λ_=>vs.toArray⟩
 ·rw[if_neg (by rw[F];exact h2),if_neg (by rw[F];exact h2)];have T:2<=vs.length:=by lia
  refine BX (D_ (q.kind T {s with heap:=m} (λk H=>k=κ/\H = {s with heap:=m}) Y ⟨rfl,rfl⟩) (λk H hk=>?_) λ_ _ z=>z.elim);obtain⟨rfl,rfl⟩:=hk;have ez:(vs.toArray.zip vs.toArray).size=vs.length:=by simp
  have ae:MT (SortSt.mk' k (vs.toArray.zip vs.toArray) #[] 7 none)=Ao (vs.toArray.zip vs.toArray) (List.range vs.length):=by have e:=kas_range (vs.toArray.zip vs.toArray);rw[ez]at e;refine Eq.trans e.symm ?_;unfold Ao;apply ZS;rw[Array.toList_map]
  have an:Ans (O:=O) prog w A {s with heap:=m} k (vs.toArray.zip vs.toArray) key vs.length:=λi j C tk hi K hC=>by unfold kas_cmp;rw[kat_item rfl,kat_item rfl];exact q.less T i j {s with heap:=m,toks:=tk} C hi K Y λo=>hC o
  have run:=kw8 (E:=E) (st:=SortSt.mk' k (vs.toArray.zip vs.toArray) #[] 7 none) an (p:=List.range vs.length) (λx hx=>KY.mp hx) (by rw[NZ];lia) ⟨rfl,rfl,ae,List.Perm.refl _,rfl,rfl,U_ _⟩;refine BX (D_ (run s.toks (λ_ f H=>∃p:Array Nat,MT f=p.map (DP (vs.toArray.zip vs.toArray))/\HW f=none/\(V8 vs.length p/\V9 key p vs.length)/\∃tk,H = {s with heap:=m,toks:=tk}) λu f o hr=>?_) ?_ λ_ _ z=>z)
  ·obtain⟨hf,r,er,pm,sg⟩:=hr;rw[NZ]at sg;refine⟨r.toArray,by rw[er];unfold Ao;simp,hf,⟨by unfold V8;exact pm,λi j Q K=>?_⟩,o,rfl⟩;have hl:r.length=vs.length:=by rw[pm.length_eq,NZ]
   have g:∀i,i<vs.length->∃x,r[i]? = some x/\kk key r.toArray i=key x:=λi hi=>⟨_,GJ (by lia),by unfold kk;rw[List.getElem?_toArray,GJ (by lia)];rfl⟩;have⟨x,U,e2⟩:=g i (by lia);have⟨y,e3,e4⟩:=g j K;rw[e2,e4];exact sg i j x y (by lia) Q K U e3
  rintro⟨⟨⟩,f⟩ H ⟨p,ab,hf,⟨hp,hs⟩,tk,rfl⟩;dsimp only;have I:=kat_snds rfl ab;have aa:(VB (p.toList.map λi=>vs.getD i Value.none)).size=vs.length:=by rw[KJ,HN,ZZ,hp.size]
  rw[I];refine BX (ZQ G rfl ?_);refine BX (XF G rfl ?_ (U_ _) (by show(VB (p.toList.map λi=>vs.getD i Value.none)).size<=_;rw[aa,CQ];lia));rw[hf];simp only[bne_self_eq_false,WK,if_false];exact CW (h p _ tk hp hs (Y.trans (Bs.upd _ _)) ⟨_,I_ G λ_=>VB (p.toList.map λi=>vs.getD i Value.none)⟩)
variable {u:A_}
variable {Q:A_->BJ->Prop}
section
variable {G:List A_->Prop}
def Ow(K:cA prog w A.in1 s u G)
  (P:∀vs (h':CP) r n,(∀b o,s.heap.get? b=some o->h'.get? b=some o)->G vs->vs.length<=16777216/\∃κ key,Asks (O:=Xp) prog w A.in1.in1 {s with heap:=h'.push (HJ "list" vs.toArray 0),drawn:=n,toks:=r} h'.objs.size vs κ key /\
   ∀(p:Array Nat)(h:CP) f,V8 vs.length p->V9 key p vs.length->(∀b o,h'.get? b=some o->h.get? b=some o)->(∃e,h.get? h'.objs.size=some (HJ "list" (VB (p.toList.map λi=>vs.getD i .none)) e))->Q (.ref h'.objs.size) {s with heap:=h,drawn:=n,toks:=f}):
  BL (BR prog w) A (call (.builtin "sorted") [u]) Q E s:=by
 refine Calls.call_function_entry kind_sorted plain_sorted entry_sorted (args_sorted1 _) ?_;unfold GR.«sorted»;refine BX (m:=checkCount "sorted" 1 1 _) (CW ?_);refine BX (K _ _ λvs h' r n k F g=>?_);refine BX (W_ ?_ F);have⟨x,κ,key,q,z⟩:=P vs h' r n k g;have B:(h'.push (HJ "list" vs.toArray 0)).get? h'.objs.size=some (HJ "list" vs.toArray 0):=L_ _ rfl;show BL _ _ _ _ _ {s with heap:=h'.push (HJ "list" vs.toArray 0),drawn:=n,toks:=r};refine BX (CT (C_ slot_list_sort ⟨_,B,rfl⟩ entry_list_sort ?_ (args_list_sort _)));refine wt5 B x q λp h f I H C e=>⟨_,rfl,?_⟩;refine CW ⟨_,rfl,z p h f I H (λb o e=>?_) e⟩;exact C b o (JV (GQ e)) (HF _ e)
end
variable {us:List A_}
def wz3{b c:BK}{ns G:List Int}{P:PySem.Fin->BJ->Prop}(hx:QG s.heap b (VB us))(hy:QG s.heap c (VB vs))(hu:FT us ns)(hv:FT vs G)(h:P (.done (.ret (.bool (De ns G)))) s):
  BL (BR prog w) A (GR.«tuple.__lt__» ⟨[.ref b,.ref c],[]⟩) P E s:=by
 obtain⟨o,ho,hc,n,hd⟩:=hx;obtain⟨o',I,Z,n',Y⟩:=hy;show BL _ _ (RD (.ref c) (.type "tuple") >>= _) _ _ s;refine BX (JZ ⟨o',I,Z⟩ isSubtype_tuple_tuple ?_);simp only[lR,WK,if_false];refine BX (bB ho hd ?_);refine BX (bB I Y ?_);refine BX ?_;have l1:=Rx hu;have l2:=Rx hv;refine wpAny_forIn_list _
  (λC r T=>r.1=none/\T=s/\∃k g x z,C=List.zip k g/\FT k x/\FT g z/\De x z=De ns G/\(decide (k.length<g.length))=decide (us.length<vs.length))
  _ ?_ ?_ _ _ ⟨rfl,rfl,us,vs,ns,G,rfl,hu,hv,rfl,rfl⟩
 ·rintro⟨u,v⟩ C r T ⟨U,rfl,k,g,x,z,H,F,B,f,p⟩;cases F with
  |nil=>simp at H
  |cons n t ru =>
   cases B with
   |nil=>simp at H
   |cons m t' rv =>
    simp only[fJ,List.cons.injEq,Prod.mk.injEq]at H;obtain⟨⟨rfl,rfl⟩,rfl⟩:=H;refine BX (R_ ?_);by_cases e:n=m
    ·rw[show(n == m)=true from beq_iff_eq.mpr e];simp only[lR,WK,if_false];refine CW ⟨rfl,rfl,_,_,_,_,rfl,ru,rv,?_,by simpa using p⟩;rw[<-f,De,if_pos e]
    ·rw[show(n == m)=false from beq_eq_false_iff_ne.mpr e];simp only[zU,if_true];refine BX (wpAny_rule ?_);have hq:De ns G=decide (n<m):=by rw[<-f,De,if_neg e]
     rw[hq]at h;refine BX (lt_int ?_);exact BX (CW (CW (CW h)))
 ·rintro⟨r1,r2⟩ T ⟨U,rfl,k,g,x,z,H,F,B,f,p⟩;simp only at U;subst U;refine CW ?_;have K:decide (us.length<vs.length)=De ns G:=by
   rw[<-f,<-p];cases F with
   |nil =>
    cases B with
    |nil=>simp[De]
    |cons _ _ _=>simp[De]
   |cons _ _ _ =>
    cases B with
    |nil=>simp[De]
    |cons _ _ _=>simp at H
  rw[<-K]at h;show P (.done (.ret (.bool (decide (us.toArray.size<vs.toArray.size))))) T;rw[KJ,KJ];exact h
inductive Hi(h:CP)(a:BK):List A_->List (List Int)->Prop
 |nil:Hi h a [] []
 |cons {u:A_} {ns:List Int} {us:List A_} {nss:List (List Int)}:cY h a u ns->Hi h a us nss->Hi h a (u::us) (ns::nss)
def Hi.keep{h h':CP}(k:Bs a h h'):∀{us:List A_}{f:List (List Int)},Hi h a us f->Hi h' a us f
 |_,_,.nil=>.nil
 |_,_,.cons x r=>.cons (x.keep k) (Hi.keep k r)
variable {h:CP}
def Hi.get:∀{us:List A_}{f:List (List Int)},Hi h a us f->∀{i:Nat},i<us.length->cY h a (us.getD i .none) (f.getD i [])
 |_,_,.cons x r,0,_=>by simpa using x
 |_,_,.cons _ r,i+1,hi=>by simpa using r.get (i:=i) (by simpa using hi)
def Hi.firsts{M:KR}{A:DK}{E:A_->BJ->Prop}{s:BJ}:∀{us:List A_}{g:List (List Int)}{Q:List (Option A_)->BJ->Prop},Hi s.heap a us g->(∀k:List (Option A_),k.length=us.length->(∀f,k[0]? = some f->g[0]? = some []->f=none)->Q k s)->BL M A (us.mapM firstOfTuple') Q E s
 |_,_,Q,.nil,h=>by rw[List.mapM_nil];exact CW (h [] rfl λf z=>by simp at z)
 |_,_,Q,.cons (ns:=ns) x r,h=>by obtain⟨b,vs,rfl,_,⟨o,m,G,n,F⟩,hi⟩:=x;rw[List.mapM_cons];refine BX ?_;rw[kas_first_eq];refine BX (Looks.here (show Looks M s.heap (VN (.ref b)) o.cls from(Looks.ld m).andThen .now) ?_);rw[G,if_neg (by first |decide |simp)];refine BX (listItems_at m F (CW ?_));refine BX (Hi.firsts r λk C _=>CW (h _ (by simp[C]) λf B p=>?_));simp at B p;subst p;cases hi;rw[<-B];rfl
def Hi.looks{M:KR}:∀{us:List A_}{g:List (List Int)},Hi h a us g->∀v∈us,Looks M h (VN v) (.type "tuple")
 |_,_,.nil,v,f=>nomatch f
 |_,_,.cons x r,v,f=>by
  rcases HY.mp f with rfl |f
  ·obtain⟨b,vs,rfl,_,⟨o,k,m,n,p⟩,hi⟩:=x;have:Looks M h (VN (.ref b)) o.cls:=(Looks.ld k).andThen .now;rwa [m]at this
  ·exact r.looks v f
theorem jp8{nss:List (List Int)}(hu:A.units<HX)(h:Hi s.heap a vs ([]::nss)):Asks (O:=Xp) prog w A s a vs ZR λi=>([]::nss).getD i [] where
 kind:=λh2 s' Q k q=>by
  have hk:=h.keep k;rw[kat_kind_eq,jHg,map_eq_pure_bind];refine BX (BX (hk.firsts λfs hl h0=>CW ?_));obtain⟨f,fr,rfl⟩:∃f fr,fs=f::fr:=by
   cases fs with
   |nil=>simp at hl;lia
   |cons f fr=>exact⟨f,fr,rfl⟩
  have:f=none:=h0 f rfl rfl;subst this;rw[if_neg (by simp),if_neg (by simp)];rw[oneTypeOnly'_eq,jHg,map_eq_pure_bind];refine BX (BX (BX (kas_mapM (r:=Value.type "tuple") _ (λv hv Q' hq=>(hk.looks v hv).here hq) (CW ?_))));cases vs with
  |nil=>simp at h2
  |cons v vs =>
   have hall:((List.map (λ_=>Value.type "tuple") (v::vs)).toArray.all λx=>x == Value.type "tuple")=true:=by simp only[List.all_toArray,List.all_map,RJ];intro _ _;rfl
   have h0:(List.map (λ_=>Value.type "tuple") (v::vs)).toArray[0]? = some (Value.type "tuple"):=by simp
   rw[h0];simp only[hall,if_true];exact CW (CW q)
 less:=λ_ i j s' Q hi hj k q=>by have⟨b,us,e1,_,t1,h1⟩:=(h.keep k).get hi;have⟨b',us',e2,_,t2,h2⟩:=(h.keep k).get hj;rw[e1,e2,keyLt'_oneType,oneLt'_eq];simp only[if_true];refine BX (wpAny_cRoomFor hu ?_);have ty:∀{b:BK}{us:List A_},QG s'.heap b (VB us)->∃o,s'.heap.get? b=some o/\o.cls=.type "tuple":=λ⟨o,ho,hc,_⟩=>⟨o,ho,hc⟩;refine BX (wpAny_callSpecialIfBound?_slot (ty t1) F.slot_tuple_lt (C_ F.slot_tuple_lt (ty t1) F.entry_tuple_lt (wz3 t1 t2 h1 h2 ⟨_,rfl,?_⟩) (F.args_tuple_lt_2 _ _)));exact FN (q s'.toks)
def Hm:D->Bool
 | .tup f=>(Ax f).isSome
 |_=>false
def Yt:List D->Bool
 | .tup []::r=>r.all Hm
 |_=>false
variable {xs:List D}
theorem zM(h:Yt xs=true):xs.all Hm=true/\∃r,xs=.tup []::r:=by
 unfold Yt at h;split at h
 ·exact⟨by rw[h_,h];rfl,_,rfl⟩
 ·cases h
def xW{a b:D}(o:Hm a=true)(k:Hm b=true)(e:keyOf a=keyOf b):a=b:=by
 cases a with
 |tup x =>
  cases b with
  |tup y =>
   cases g:Ax x with
   |none=>simp[Hm,g]at o
   |some n =>
    cases f:Ax y with
    |none=>simp[Hm,f]at k
    |some m=>simp[keyOf,bR,g,f]at e;subst e;rw[Tv g f]
  |_=>simp[Hm]at k
 |_=>simp[Hm]at o
def kr4(h:Yt xs=true){a b:D}(g:a∈xs)(f:b∈xs)(e:keyOf a=keyOf b):a=b:=by have h:=(zM h).1;rw[RJ]at h;exact xW (h a g) (h b f) e
theorem jn8{p:Array Nat}{key:Nat->Xp.α}(r:xs.length<2\/Yt xs=true)(n:∀i d,xs[i]? = some d->key i=keyOf d)(B:V8 xs.length p)(P:V9 key p xs.length):
  p.toList.map (λi=>xs.getD i .non)=if xs.length<2 then xs else srt xs:=by
 have perm:(p.toList.map λi=>xs.getD i .non).Perm xs:=by
  have z:=B.map λi=>xs.getD i D.non;refine z.trans (List.Perm.of_eq ?_);apply dG
  ·simp
  ·intro i z o;simp at z;simp[z]
 by_cases o:xs.length<2
 ·rw[if_pos o]
  match xs,o,perm with
  | [],_,perm=>exact List.perm_nil.mp perm
  | [x],_,perm=>exact jGn.mp perm
 ·rw[if_neg o];have C:Yt xs=true:=r.resolve_left o;refine eq_of_sorted (le:=λa b=>G9 a b=true) (perm.trans (Cy xs).symm) ?_ (Ep xs) λa Y b U H G=>?_
  ·rw[fO];intro i j hi I F;simp only[HN,ZZ]at hi I;have K:=B.size;have f:∀(k:Nat)(r:k<p.size),keyOf (xs.getD p[k] .non)=kk key p k:=λk r=>by
    have T:p[k]∈p.toList:=by simp
    have m:p[k]<xs.length:=KY.mp (B.mem_iff.mp T);unfold kk;rw[YD r,WD,n p[k] xs[p[k]] (GJ m)];simp[m]
   have:=P i j (aU F) (by omega);simp only[qK,jGk];unfold G9;rw[f i hi,f j I];have g:De (kk key p j) (kk key p i)=false:=this;rw[g];rfl
  ·unfold G9 at H G;rw[XH]at H G;exact kr4 C (perm.mem_iff.mp Y) (perm.mem_iff.mp U) (Fp _ _ G H)
def xV{X:Cx}{g:List (BK×FZ)}{F:St}{H:Hp}{s:BJ}{S:AS}{a:BK}(I:Inv X g F H s)(C:s.heap.objs.size<=a):∀{ds:List D}{vs:List V}{us:List A_},ds.all Hm=true->An X.K H S ds vs->Vals vs us ->
  ∃f,Hi s.heap a us f/\∀i d,ds[i]? = some d->f.getD i []=keyOf d
 | [],vs,us,_,h,r=>by cases(show vs=[] from h);cases r;exact⟨[],.nil,λi d h=>by simp at h⟩
 |d::ds,vs,us,z,h,r=>by
  rw[h_,QH]at z;revert h;refine Bo λv B n h1 h2=>?_;obtain rfl:=n;cases r with
  |cons U T =>
   refine Am (λf q hk=>?_) (xV I C z.2 h2 T)
   match d,z.1 with
   | .tup xs,hd =>
    revert h1;refine Bo λb ws k Z P=>?_;obtain rfl:=k;have e1:_=Value.ref b:=U;subst e1;refine Gk (λm G p _=>?_) (I.tuple (TpR.sq Z));cases e:Ax xs with
    |none=>simp[Hm,e]at hd
    |some Y =>
     have hi:=ints_of P G e;have hb:b≠a:=by revert p;refine Am λo ho _=>?_;exact JV (QF (GQ ho) C)
     refine⟨Y::f,.cons ⟨b,m,rfl,hb,p,hi⟩ q,λi y x=>?_⟩;cases i with
     |zero=>simp at x;subst x;simp[keyOf,bR,e]
     |succ i=>simpa using hk i y (by simpa using x)
def sortedZ:List D->Option D
 | [d]=>match J3 d with
  |some xs=>if xs.length<=100000/\(xs.length<2\/Yt xs=true) then some (.lst (if xs.length<2 then xs else srt xs)) else none
  |none=>none
 |_=>none
variable {es:List CN}{p:JG}
section
variable {fs:Ev->R (List D)}
theorem kd0(hu:X.A.units+70<HX):Dc X (.builtin "sorted") (rCF X.K sortedZ):=by
 rintro m s σ H ys us Q I r ⟨S,ds,d,rs,e,q⟩
 match ds,e with
 | [x],e =>
  obtain⟨v,rfl,rx⟩:=rs.one;obtain⟨u,rfl,ru⟩:=vals1 r;have go:∀(xs:List D)(a:BK)(vs:List V)(its:List A_)(T:String)(o:FZ)(n:Nat),J3 x=some xs->(T = "list"\/T = "tuple")->u=.ref a->s.heap.get? a=some o->o.cls=.type T->o.data=.seq its.toArray n->Vals vs its->An X.K H S xs vs->vs.length<=sizeLine ->
    BL (BR X.prog X.w) X.A (call (.builtin "sorted") [u]) (EP X m σ Q) X.xe s:=by
   intro xs a vs its T o n ex hT eu ho hc U F P hz;subst eu;have hl:=F.length;have aj:=P.length;simp only[sortedZ,ex]at e;obtain⟨⟨ao,hk⟩,rfl⟩:=Bb e;refine Ow (G:=λC=>C=its) (yX hT ho hc U (by rw[KJ];lia)) λC Y tk d' k g=>?_;subst g;have I1:Inv X m σ H {s with heap:=Y,drawn:=d',toks:=tk}:=O8 I k;have af:∀(key:Nat->Xp.α),(∀i d,xs[i]? = some d->key i=keyOf d)->∀(pr:Array Nat)(Z:CP) ab,V8 C.length pr->V9 key pr C.length->(∀b o,Y.get? b=some o->Z.get? b=some o)->(∃e,Z.get? Y.objs.size=some (HJ "list" (VB (pr.toList.map λi=>C.getD i .none)) e)) ->
     EP X m σ Q (.ref Y.objs.size) {s with heap:=Z,drawn:=d',toks:=ab}:=λkey f pr Z ab hp hs k2 e2=>by
    have en:C.length=xs.length:=by lia
    have:=jn8 hk f (by rw[<-en];exact hp) (by rw[<-en];exact hs);exact Q8 I1 P F (by lia) hp k2 e2 λb ag H' s1 hb hv ah=>q b ag _ H' rfl s1 hb hv (by rw[<-this];exact ah)
   refine⟨by lia,?_⟩;by_cases Z:xs.length<2
   ·have aa:Asks (O:=Xp) X.prog X.w X.A.in1.in1 {s with heap:=Y.push (HJ "list" C.toArray 0),drawn:=d',toks:=tk} Y.objs.size C ZR (λi=>keyOf (xs.getD i .non)):=⟨λz=>by lia,λz=>by lia⟩;exact⟨_,_,aa,af _ λi d U=>by rw[NQ,U];rfl⟩
   ·have ak:=hk.resolve_left Z;have⟨ae,r,er⟩:=zM ak;have⟨ai,B,f⟩:=xV I1 (a:=Y.objs.size) (FW _) ae P F;have h0:∃ms,ai=[]::ms:=by
     subst er;cases B with
     |nil=>exact absurd (aj.trans hl) (by rw[RB,iD];exact Nat.succ_ne_zero _)
     |cons x r=>have:=f 0 _ rfl;simp[keyOf,bR,Ax]at this;exact⟨_,by rw[this]⟩
    obtain⟨ms,rfl⟩:=h0;exact⟨_,_,jp8 (by show X.A.units+1+1<HX;lia) (Hi.keep (Bs.push _ _) B),af _ f⟩
  cases x with
  |lst xs=>obtain⟨a,vs,rfl,ha,P⟩:=rx;have⟨its,F,pl,hz⟩:=I.list ha.sq;obtain⟨o,ho,hc,n,U⟩:=pl.isList;exact go xs a vs its "list" o n rfl (.inl rfl) ru ho hc U F P hz
  |tup xs=>obtain⟨a,vs,rfl,ha,P⟩:=rx;have⟨its,F,pl,hz⟩:=I.tuple (TpR.sq ha);obtain⟨o,ho,hc,n,U⟩:=pl;exact go xs a vs its "tuple" o n rfl (.inr rfl) ru ho hc U F P hz
  |_=>simp[sortedZ,J3]at e
def kx9(g:X.A.units+70<HX)(k:X.mg "sorted" = none)(o:PAd X c l (e::es) fs)(m:Gl X "sorted":=by rfl)(n:Zs X.env e es:=by rfl)(f:Zp X.env J es:=by rfl):
  PEf X c l (.Call (.Name "sorted" p) (e::es) [] J) (bA fs sortedZ):=u6 (kd0 g) PyProof.Rows.boot_sorted k o m (by decide) (by decide) n f
theorem jn6:∀f d,bA fs sortedZ f=.ok d->∃m,d=.lst m:=λf d h=>by
 unfold bA at h;cases g:fs f with
 |ok xs =>
  rw[g]at h;simp only[R.ok_bind]at h
  match xs,h with
  | [x],h =>
   unfold sortedZ at h;dsimp only at h;cases k:J3 x with
   |none=>rw[k]at h;cases h
   |some n =>
    rw[k]at h;dsimp only at h;split at h
    ·cases h;exact⟨_,rfl⟩
    ·cases h
  | [],h=>cases h
  |_::_::_,h=>cases h
 |exc _=>rw[g]at h;cases h
 |bad=>rw[g]at h;cases h
end
structure oH(X:Cx)(P:BK):Prop where
 hd:∃c,X.env.code=.ref c/\CodeHd X.base c P
 bm:∃bm ob,X.mg "__builtins__" = some (.ref bm)/\bm≠KD/\X.base.get? bm=some ob/\ob.cls=.type "module"/\ob.dict=some KD/\ob.data=.plain
def dB(H:Hp)(P c:BK)(qual:BV):Prop:=∃f vs t,H c=some (.frz f (.own P))/\f.data=.fields vs/\vs[1]? = some (.str qual t)
variable {qual:BV}
def dB.mono{H H':Hp}{P c:BK}(h:dB H P c qual)(e:Af H H'):dB H' P c qual:=by obtain⟨f,vs,t,k,g⟩:=h;exact⟨f,vs,t,e _ _ k,g⟩
variable {P:BK}{H:Hp}{pins:List (BK×FZ)}{σ:St}
def dB.rec{Pr:BZ}{c:BK}(q:dB H P c qual)(ok:HOk Pr w H h):h.CodeRec (.ref c) qual:=by obtain⟨f,vs,t,m,k,g⟩:=q;exact⟨c,f,vs,t,rfl,(ok c _ m).1,k,g⟩
abbrev tbK(J:JG)(qual:BV):HO:=.tbl #[CK J.line,CK J.col,.str qual 0]
variable {Z:CN}
def kr8{M:KR}{params:QZ}{f:HR}{k:List (BV×BK)}(L:oH X P)(I:Inv X pins σ H s)
  (hT:H P=some (tbK J (X.env.qual ++ "<lambda>")))(ae:defaultsOf params X.env=([],[]))(ag:WM f X.env=pure k)
  (h:∀U m g H' s',Inv X pins σ H' s'->Af H H'->H' U=none->s.heap.objs.size<=U->dB H' P m (X.env.qual ++ "<lambda>") ->
   s'.heap.get? U=some (UW "<lambda>" (X.env.qual ++ "<lambda>") params Z f k ((X.mg "__name__").getD .none) m g)->Q (.ref U) s'):BL M A (CZ (.Lambda params Z f J) X.env) Q E s:=by
 obtain⟨⟨c,hc,C⟩,bm,ob,b1,b2,b3,b4,b5,b6⟩:=L;have⟨qs,e,z⟩:=I.hok P _ hT;have nb:∀{b:BK}{o:FZ},X.base.get? b=some o->b≠P:=λ{b o} e z=>by have:=(I.bs _ _ e).2;rw[z,hT]at this;cases this
 have ai:HS≠P:=by obtain⟨o,es,ep,e,_⟩:=I.mod.glob;exact nb e
 have aj:bm≠HS:=λq=>by obtain⟨o,es,ep,e,K,_⟩:=I.mod.glob;rw[q,e]at b3;cases b3;rw[K]at b6;cases b6
 have hg:=I.mod.glob.keeps I.bk;have Ck:=C.keeps I.bk;have hb:s.heap.BuiltinsAt X.mg P:=⟨bm,ob,b1,b2,aj,nb b3,I.bk _ _ b3,b4,b5,b6⟩;refine kla_eval ae ?_;rcases z with rfl | ⟨l,cc,q,t,b,o,vs,t',e1,rfl,ao,K,hv⟩
 ·refine kla_makeFunction ag I.ok.glob hg hc Ck e trivial rfl ai hb λm g G tk hx B F aa T=>?_;obtain⟨c2,oc,vs,t,e2,ab,K,hv⟩:=aa;cases e2;have af:H m=none:=I.hok.fresh B;have ne:∀{b:BK}{u:HO},H b=some u->b≠m:=λq=>Ay q af;have keep:∀b u,b≠P->s.heap.get? b=some u->(G.push (UW "<lambda>" (X.env.qual ++ "<lambda>") params Z f k ((X.mg "__name__").getD .none) m g)).get? b=some u:=λb u hb q=>HF _ (hx b u hb q);have nP:∀b,H b=none->b≠P:=λb n z=>by rw[z,hT]at n;cases n
  have un:Un X.fs [] H (upd H m (.frz oc (.own P))) s.heap (G.push (UW "<lambda>" (X.env.qual ++ "<lambda>") params Z f k ((X.mg "__name__").getD .none) m g)):=by
   refine⟨λb u q n _ _=>keep b u (nP b n) q,λb u q n _ _=>⟨u.slots,keep b u (nP b n) q⟩,λb u q n _=>?_,λb u q _=>?_,λb xs q=>?_,λb u v q=>?_,λb ps q=>⟨#[],?_⟩⟩
   ·rw[Ad (JV (QF (GQ q) B))];exact n
   ·by_cases x:b=P
    ·subst x;exact⟨_,HF _ T⟩
    ·exact⟨u,keep b u x q⟩
   ·rw[Ad (ne q)];exact q
   ·rw[Ad (ne q)];exact q
   ·rw[Ad (ne q),q];simp
  have ok:HOk X.prog X.w (upd H m (.frz oc (.own P))) (G.push (UW "<lambda>" (X.env.qual ++ "<lambda>") params Z f k ((X.mg "__name__").getD .none) m g)):=λb u q=>by
   by_cases ah:b=m
   ·subst ah;rw[Ah]at q;cases q;exact⟨HF _ ab,_,HF _ ab⟩
   ·rw[Ad ah]at q;by_cases x:b=P
    ·subst x;rw[hT]at q;cases q;exact⟨_,HF _ T,.inr ⟨_,_,_,_,m,oc,vs,t,rfl,by simp,Ah,K,hv⟩⟩
    ·refine(I.hok b u q).stay (λb2 v ak r=>keep b2 v (λz=>?_) r) (λb2 r=>by rw[Ad (ne r)];exact r) (λb2 xs r=>by rw[Ad (ne r)];exact r) λb2 o y r=>by rw[Ad (ne r)];exact r
     rcases ak with z2 |z2
     ·exact x (z2.symm.trans z)
     ·rw[z,hT]at z2;cases z2
  exact h G.objs.size m g _ _ (I.un un ok) (Aj af _) (by
   have hf:H G.objs.size=none:=I.hok.fresh (QW B (aU F));rw[Ad (S_ F)];exact hf) (QW B (aU F)) ⟨oc,vs,t,Ah,K,hv⟩ (L_ _ rfl)
 ·have e2:=congrArg Array.toList e1;simp only[List.cons.injEq,Value.str.injEq,and_true]at e2;obtain⟨rfl,rfl,rfl,rfl⟩:=e2;refine kla_makeFunctionHit (cv:=.ref b) ag I.ok.glob hg hc Ck e (show TriplesOk [CK J.line,CK J.col,.ref b] from trivial) (by simp[codeAmong,CK]) hb λg G tk hk Y=>?_;exact h G.objs.size b g H _ (I.kept λb u q=>HF _ (hk b u q)) (Af.refl _) (I.hok.fresh Y) Y ⟨o,vs,t',ao,K,hv⟩ (L_ _ rfl)
def cxL(X:Cx)(A:DK)(N:List BV)(qual:BV)(g:HR)(f:BK)(cd:A_)(cl:List (BV×BK))(s:BJ)(H:Hp):Cx:=
 {X with A:=A.deeper (envX qual g s.heap.objs.size f cd cl),N:=N,s₀:=s,H₀:=H,env:=envX qual g s.heap.objs.size f cd cl,outer:=X.stack,stack:=envX qual g s.heap.objs.size f cd cl::X.stack,ex:=[],fn:=λ_=>false,pn:=[],calm:=true,xe:=λ_ _=>False}
variable {caps:List Nat}{scope:HR}{x:BV}
variable {Er:A_->BJ->Prop}
section
variable {qual:BV}{f:BK}{cd:A_}{v:V}
theorem we5(B:Fy X scope [x] caps)(aa:∀y∈scope.names,y.2≠.cell)(hx:scope.names.lookup x=some .local)(I:Inv X pins σ H s)(hA:A.frames=some X.stack)(hh:A.handled=none)(r:RelV v u){F:CP}{tk:Nat}
  (Y:F.Ns s.heap.objs.size λy=>[(x,u)].reverse.lookup y)(keep:∀b o,s.heap.get? b=some o->F.get? b=some o):
  Inv (cxL X A (Eb X [x] caps) qual scope f cd (Nj scope X.env) s H) [] ((Jm [x] caps σ).set 0 (some v)) H {s with heap:=F,toks:=tk}:=by
 have clX:∀{y a},(Nj scope X.env).lookup y=some a->X.env.cells.lookup y=some a:=λh=>(oZ (PySem.mem_of_lookup h)).elim id λz=>by cases z
 refine⟨⟨I.ok.mod,B.kind,rfl,rfl,FW _,λy z a F h2=>I.ok.inj y z a (clX F) (clX h2),λy U=>?_,λy a U h=>?_,λ_=>hh,Around.frames_deeper hA,.inr ⟨rfl,rfl⟩,λb K=>absurd (show b∈([]:List BK) from K) (by simp),I.bs,QW I.ok.bsz I.sz,λb o e K=>absurd (show b∈([]:List BK) from K) (by simp),λb K=>absurd (show b∈([]:List BK) from K) (by simp),I.stack,I.stkFree⟩,
  rfl,I.bare,Un.kept keep,⟨_,Y,λi y w F h2 h3=>?_⟩,λy a h=>?_,I.hok.fresh (FW _),λy a h=>I.freeC y a (clX h),λp hp=>absurd (show p∈([]:List (BK×FZ)) from hp) (by simp),I.hok.kept keep,?_⟩
 ·have C:scope.names.lookup y=some .cell\/scope.names.lookup y=some .free:=U;rcases C with h |h
  ·exact absurd rfl (aa (y,.cell) (PySem.mem_of_lookup h))
  ·have⟨a,ha⟩:=I.ok.has y (B.free (y,.free) (PySem.mem_of_lookup h) rfl);exact⟨a,G7 ha (.inl (PySem.mem_of_lookup h))⟩
 ·have C:false=true:=U;cases C
 ·have g:(Eb X [x] caps)[i]? = some y:=F;have n:((Jm [x] caps σ).set 0 (some v))[i]? = some (some w):=h2;cases i with
  |zero =>
   have e1:x=y:=by unfold Eb at g;simpa using g
   subst e1;have G:v=w:=by unfold Jm at n;simpa using n
   subst G;exact⟨u,r,.inl ⟨hx,by simp⟩⟩
  |succ i =>
   rw[QJ (by lia)]at n;unfold Jm at n;unfold Eb at g;rw[YF (by simp),HN,QX]at n;rw[YF (by simp),QX]at g;cases ej:caps[i+1 - [x].length]? with
   |none=>rw[ej]at g;cases g
   |some j =>
    rw[ej]at g n;refine Yw (λz hz m1 m2 m3=>?_) (B.cap j (XX ej));have g:some ((X.N[j]?).getD (Str.ofString ""))=some y:=g;rw[hz]at g;have e1:z=y:=Option.some.inj g;subst e1;have G:(σ[j]?).join=some w:=Option.some.inj n;have e3:σ[j]? = some (some w):=by
     cases q:σ[j]? with
     |none=>rw[q]at G;cases G
     |some o=>rw[q]at G;cases o with
      |none=>cases G
      |some w=>cases G;rfl
    refine Am (λm hn ab=>?_) (I.loc);have T:Vis X.env.scope z:=by rcases m3 with q |q;exact .inr (.inl q);exact .inr (.inr q)
    refine Am (λu' r' lk=>?_) (ab j z w hz e3 T);refine⟨u',r',.inr ⟨.inr m1,?_⟩⟩;rcases lk with ⟨k,_⟩ | ⟨k,a,ha,hc⟩
    ·rcases m3 with q |q<;>(have k':X.env.kindOf z=some .local:=k;rw[q]at k';cases k')
    ·exact⟨a,G7 ha (.inl (PySem.mem_of_lookup m1)),hc.keeps keep⟩
 ·have⟨c,q⟩:=I.cell y a (clX h);exact⟨c,q.keeps keep⟩
 ·show((Jm [x] caps σ).set 0 (some v)).length=(Eb X [x] caps).length;simp[Jm,Eb]
variable {hs:List Hd}{ρ:Ev}{d k:D}{g:Ev->R D}
theorem wc7(E:Az X.K c hs ρ σ H)(m:Mw c.O l caps=true)(F:Rep X.K H (lvS c ρ σ H l) d v):Az X.K ⟨H,lvS c ρ σ H l,[],G5,[]⟩ [] ((Dp 1 caps ρ).set 0 (some d)) ((Jm [x] caps σ).set 0 (some v)) H:=by
 have sub:∀o,lvS c ρ σ H l o->DC.N ⟨H,lvS c ρ σ H l,[],G5,[]⟩ ((Dp 1 caps ρ).set 0 (some d)) ((Jm [x] caps σ).set 0 (some v)) o:=λo z=>⟨.inl z,λb _ ⟨j,I,_⟩=>by cases I⟩;refine⟨Af.refl _,by rw[lU,lU,zE,zA];rfl,(λi d hi=>by cases hi),(λi j a hi=>by cases hi),λi d' hi n=>?_,(λP' B=>by cases B),(λb T=>by cases T)⟩;cases i with
 |zero =>
  have e:d=d':=by unfold Dp at n;simpa using n
  subst e;exact⟨v,by unfold Jm;simp,F.mono (Af.refl _) sub⟩
 |succ i=>rw[QJ (by lia)]at n;have⟨G,j,C,Y⟩:=Wn n;have⟨w,U,r⟩:=xT E m (XX C) Y;exact⟨w,by rw[QJ (by lia)];exact zB G C U,r.mono (Af.refl _) sub⟩
def kr7{params:QZ}{U c':BK}{pm aa:A_}(B:Fy X scope [x] caps)(G:∀y∈scope.names,y.2≠.cell)(hx:scope.names.lookup x=some .local)(ae:scope.isCoroutine=false)(T:scope.isGenerator=false)
  (I:Inv X pins σ H s)(hA:A.frames=some X.stack)(hh:A.handled=none)(n:A.depth<VR)(ho:s.heap.get? U=some (UW "<lambda>" qual params Z scope (Nj scope X.env) pm c' aa))(hc:dB H P c' qual)
  (C:O_ (kla_fn "<lambda>" qual params Z scope (Nj scope X.env) pm (.ref c') aa) ⟨[u],[]⟩=pure [(x,u)])(r:RelV v u)
  (he:∀(s:BJ)(H:Hp)(H0:Hp)(S0:AS),PEd (cxL X A (Eb X [x] caps) qual scope U (.ref c') (Nj scope X.env) s H) ⟨H0,S0,[],G5,[]⟩ .any Z g)
  (E:Az X.K c hs ρ σ H)(Y:Mw c.O l caps=true)(rd:Rep X.K H (lvS c ρ σ H l) d v)(ef:g ((Dp 1 caps ρ).set 0 (some d))=.ok k)
  (hQ:∀y w m s',Inv X pins σ m s'->Af H m->RelV y w->Rep X.K m (AS.plus (lvS c ρ σ H l) H) k y->Q w s'):BL (BR X.prog X.w) A (call (.ref U) [u]) Q Er s:=by
 refine JD (kla_callFunE n ho rfl ae T rfl (hc.rec I.hok) ?_);rw[C];refine CW (wpAny_newFunctionEnv G (λy hy=>?_) (λh1 ab F=>⟨I.nolimit.fresh _ F,kla_codeExpr ?_⟩) B.kind)
 ·have:y=(x,u):=by simpa using hy
  subst this;exact hx
 ·have keep:∀b o,s.heap.get? b=some o->h1.get? b=some o:=λb o e=>F.extBut b o (JV (GQ e)) (HF _ e);have J:=we5 (qual:=qual) (f:=U) (cd:=.ref c') (tk:=s.toks+1) B G hx I hA hh r ab keep;refine thx (E:=cNo) rfl (he s H H (lvS c ρ σ H l) [] _ _ _ (λy m=>Af H m/\Rep X.K m (AS.plus (lvS c ρ σ H l) H) k y) J ⟨[],_,wc7 E Y rd,?_⟩) λw s' q=>?_
  ·rw[ef];exact λy m sm ry=>⟨sm,ry.mono (Af.refl _) λo z=>z.elim .inl λ⟨a,e1,e2,_⟩=>.inr ⟨a,e1,e2⟩⟩
  ·obtain⟨y,m,J',ry,sm,rp⟩:=q;exact hQ y w m s' (I.call' (ch:=[]) J'.os J'.base J'.hok J'.bare λb hb=>nomatch hb) sm ry rp
end
variable {T U:BK}{ns:List Int}
variable {o:FZ}{t':Nat}{kf:Nat->Int}
section
variable {H0:Hp}{ps:List (BK×FZ)}{h':CP}
def Inv.repin{ps':List (BK×FZ)}(I:Inv X ps σ H s)(h:∀p∈ps',p∈ps):Inv X ps' σ H s:=I.pins_of λp f=>I.pin p (N_ _ (h p f))
def Inv.turnP{it:BK}{g:FZ}(I:Inv X ((it,o)::ps) σ H s)(r:X.s₀.heap.objs.size<=it)(m:∀p∈X.pn++ps,p.1≠it)(k:∀b u,b≠it->s.heap.get? b=some u->h'.get? b=some u)(F:h'.get? it=some g)(G:∀v,g.data≠.cell v):
  Inv X ((it,g)::ps) σ H {s with heap:=h',toks:=t'}:=by
 have⟨e,n,ne,C,d⟩:=I.pin (it,o) (N_ _ LK);have J:Inv X ps σ H {s with heap:=h',toks:=t'}:=(Inv.repin (ps':=ps) I λp f=>JW _ f).turned (t':=t') k n ne (.inr r) (λx c K z=>by
  have⟨v,ob,B,Y⟩:=I.cell x c K;rw[z,e]at B;cases B;exact d v Y) m
 refine J.pins_of λp f=>?_;rcases HY.mp f with rfl |f
 ·exact⟨F,n,ne,C,G⟩
 ·exact J.pin p (N_ _ f)
def Inv.pinNew(I:Inv X ps σ H s)(k:∀b u,s.heap.get? b=some u->h'.get? b=some u)(f:s.heap.objs.size<=a)(m:h'.get? a=some o)(n:∀v,o.data≠.cell v):Inv X ((a,o)::ps) σ H {s with heap:=h',toks:=t'}:=by
 have J:Inv X ps σ H {s with heap:=h',toks:=t'}:=I.kept k;refine J.pins_of λp g=>?_;rcases HY.mp g with rfl |g
 ·exact⟨m,I.hok.fresh f,S_ (QF I.lt f),I.nofs f,n⟩
 ·exact J.pin p (N_ _ g)
def SqT.up{K:B_}{xs:List V}(h:SqT K H a xs)(e:Af H H0):SqT K H0 a xs:=by
 rcases h with (h | ⟨o,h⟩) |h
 ·exact .inl (.inl (e _ _ h))
 ·exact .inl (.inr ⟨o,e _ _ h⟩)
 ·exact .inr h
abbrev Qc(n:Int)(t:Tok)(k:Int)(u:Tok)(c:Nat):FZ:=HJ "list" #[.int n t,.int k u] c
def S8(I:Inv X ps σ H s)(m:SqT X.K H T (ns.map V.int)):∃f:List A_,s.heap.IsTuple T f.toArray/\f.length=ns.length/\∀(j:Nat)(n:Int),ns[j]? = some n->∃t,f[j]? = some (Value.int n t):=by have⟨f,r,p,_⟩:=I.tuple m;refine⟨f,p,by have:=r.length;simpa using this.symm,λj n e=>?_⟩;have⟨u,k,g⟩:=r.get (i:=j) (show(ns.map V.int)[j]? = some (.int n) by rw[QX,e];rfl);obtain⟨t,rfl⟩:=(show ∃t,u=Value.int n t from g);exact⟨t,k⟩
def Lst(kf:Nat->Int)(m i:Nat):Prop:=i<m/\∀j,j<m->kf i<=kf j/\(j<i->kf i<kf j)
theorem Lst.keep{m:Nat}(h:Lst kf m i)(f:¬ kf m<kf i):Lst kf (m+1) i:=by
 refine⟨by have:=h.1;lia,λj g=>?_⟩;by_cases e:j=m
 ·subst e;exact⟨by lia,λz=>absurd z (by have:=h.1;lia)⟩
 ·exact h.2 j (by lia)
theorem Lst.new{m:Nat}(h:Lst kf m i)(f:kf m<kf i):Lst kf (m+1) m:=by
 refine⟨by lia,λj g=>?_⟩;by_cases e:j=m
 ·subst e;exact⟨by lia,λz=>absurd z (by lia)⟩
 ·have:=(h.2 j (by lia)).1;exact⟨by lia,λ_=>by lia⟩
def oF(X:Cx)(σ:St)(ps:List (BK×FZ))(H0:Hp)(ns:List Int)(kf:Nat->Int)(U:BK):Prop:=
 ∀(j:Nat)(n:Int)(tt:Tok)(H:Hp)(s:BJ)(ps':List (BK×FZ)),ns[j]? = some n->Af H0 H->(∀p∈ps,p∈ps')->Inv X ps' σ H s ->
  BL (BR X.prog X.w) X.A.in1 (call (.ref U) [.int n tt]) (λx g=>∃f t',x=.int (kf j) t'/\Inv X ps' σ f g/\Af H f) (λ_ _=>False) s
variable {kf:Nat->Int}{f S:BK}{R:WQ->BJ->Prop}
theorem wg4(hh:X.A.handled=none)(hT:SqT X.K H0 T (ns.map V.int))(au:T≠f)(Y:S≠f)(aj:X.s₀.heap.objs.size<=S)(ak:X.s₀.heap.objs.size<=f)(k:∀p∈X.pn++ps,p.1≠S/\p.1≠f)(turn:oF X σ ps H0 ns kf U)
  (ar:∀(i:Nat)(n:Int)(t:Tok)(H:Hp)(s:BJ),ns[i]? = some n->Lst kf ns.length i->Inv X ps σ H s->Af H0 H->R (.ok (.ret (.int n t))) s):
  ∀(r m i:Nat)(H:Hp)(s:BJ)(n:Int)(t u:Tok)(c:Nat)(oI:FZ),ns.length - m=r->m<=ns.length->Af H0 H->Inv X ((S,Qc n t (kf i) u c)::(f,oI)::ps) σ H s->s.heap.IsTupleIter f T m->ns[i]? = some n->Lst kf m i ->
   JS (BR X.prog X.w) X.A (.builtin "min.loop" ⟨[.ref f,.ref U,.ref S],[]⟩) R s:=by
 have nm:(toString "min" ++ toString ".loop" : String) = "min.loop":=by decide
 intro r;induction r with
 |zero =>
  intro m i H s n t u c oI hr hm sm I ab hn B;have em:m=ns.length:=by lia
  subst em;have⟨aq,pl,il,_⟩:=S8 I (SqT.up hT sm);have pS:=I.pin (S,Qc n t (kf i) u c) (N_ _ LK);refine E_ PySem.F.entry_min_loop ?_;rw[Around.under_plainId PySem.F.plain_min_loop _];show BL _ X.A.in1 (QT (.ref S) >>= _) _ _ s;refine BX (GZ pS.1 rfl ?_);show BL _ X.A.in1 (tryCatch (JP (.ref f)) _ >>= _) _ _ s;refine BX (JK (YM hh ab pl (by simp[il]) λh1 ex=>?_));have I0:Inv X ((f,oI)::(S,Qc n t (kf i) u c)::ps) σ H s:=Inv.repin I λp g=>by
   simp only[HY]at g ⊢;rcases g with z |z |z
   ·exact .inr (.inl z)
   ·exact .inl z
   ·exact .inr (.inr z)
  have pI:=I0.pin (f,oI) (N_ _ LK);have I1:Inv X ((S,Qc n t (kf i) u c)::ps) σ H {s with heap:=h1,toks:=s.toks}:=(Inv.repin (ps':=(S,Qc n t (kf i) u c)::ps) I λp g=>by
   simp only[HY]at g ⊢;rcases g with z |z
   ·exact .inl z
   ·exact .inr (.inr z)).turned (t':=s.toks) (λb o G e=>ex b o G e) pI.2.1 pI.2.2.1 (.inr ak) (λx c hc z=>by
    have⟨v,ob,q1,q2⟩:=I.cell x c hc;rw[z,pI.1]at q1;cases q1;exact pI.2.2.2.2 v q2) λp g=>by
     rcases NT.mp g with z |z
     ·exact(k p (X_ _ z)).2
     ·rcases HY.mp z with z |z
      ·rw[z];exact Y
      ·exact(k p (N_ _ z)).2
  have ag:=I1.pin (S,Qc n t (kf i) u c) (N_ _ LK);have sb:=Heap.SameBut.update h1 S (Obj.mapSeq λ_=>(#[]:Array A_));show BL _ X.A.in1 (SM S (λ_=>#[]) >>= _) _ _ _;refine BX (IV ag.1 rfl (BX (MN (CW ?_))));have I2:=Inv.turnP (t':=s.toks) I1 aj (λp g=>by
   rcases NT.mp g with z |z
   ·exact(k p (X_ _ z)).1
   ·exact(k p (N_ _ z)).1) (λb v G e=>(sb.2 b G).trans e) (I_ ag.1 λ_=>#[]) (λv z=>by cases z)
  exact ar i n t H _ hn B (Inv.repin I2 λp g=>JW _ g) sm
 |succ r ih =>
  intro m i H s n t u c oI hr hm sm I ab hn B;have aa:m<ns.length:=by lia
  have⟨aq,pl,il,at_⟩:=S8 I (SqT.up hT sm);have en:ns[m]? = some ns[m]:=GJ aa;have⟨t2,ev⟩:=at_ m _ en;have pS:=I.pin (S,Qc n t (kf i) u c) (N_ _ LK);refine E_ PySem.F.entry_min_loop ?_;rw[Around.under_plainId PySem.F.plain_min_loop _];show BL _ X.A.in1 (QT (.ref S) >>= _) _ _ s;refine BX (GZ pS.1 rfl ?_);show BL _ X.A.in1 (tryCatch (JP (.ref f)) _ >>= _) _ _ s;refine BX (JK (OD ab pl (x:=.int ns[m] t2) (by simpa using ev) λh1 ai ao=>?_));have⟨C,g1,g2,g3⟩:=id ai;have I0:Inv X ((f,oI)::(S,Qc n t (kf i) u c)::ps) σ H s:=Inv.repin I λp g=>by
   simp only[HY]at g ⊢;rcases g with z |z |z
   ·exact .inr (.inl z)
   ·exact .inl z
   ·exact .inr (.inr z)
  have I1:=Inv.turnP (t':=s.toks) I0 ak (λp g=>by
   rcases NT.mp g with z |z
   ·exact(k p (X_ _ z)).2
   ·rcases HY.mp z with z |z
    ·rw[z];exact Y
    ·exact(k p (N_ _ z)).2) (λb v G e=>(ao.2 b G).trans e) g1 (λv z=>by rw[g3]at z;cases z)
  show BL _ X.A.in1 (tryCatch (PQ [.int ns[m] t2] (call (.ref U) [.int ns[m] t2])) _ >>= _) _ _ _;refine BX (JK (CT (D_ (turn m _ t2 H _ _ en sm (λp g=>JW _ (JW _ g)) I1) (λx s2 q=>?_) λ_ _ z=>z.elim)));obtain⟨H2,t3,rfl,I2,ae⟩:=q;have af:=I2.pin (S,Qc n t (kf i) u c) (N_ _ (JW _ LK));have ah:=I2.pin (f,C) (N_ _ LK);have I3:Inv X ((S,Qc n t (kf i) u c)::(f,C)::ps) σ H2 s2:=Inv.repin I2 λp g=>by
   simp only[HY]at g ⊢;rcases g with z |z |z
   ·exact .inr (.inl z)
   ·exact .inl z
   ·exact .inr (.inr z)
  show BL _ X.A.in1 (tryCatch (PQ [.int ns[m] t2,.int (kf m) t3] (richCompare .Lt (.int (kf m) t3) (.int (kf i) u) >>= _)) _ >>= _) _ _ _;refine BX (JK (CT (BX (HT.kw1 _ _ (kf m) t3 (kf i) u _ _ _ _ ?_))));refine BX (CT (FN ?_));refine BX (MN (CW ?_));by_cases G:kf m<kf i
  ·have sb:=Heap.SameBut.update s2.heap S (Obj.mapSeq λ_=>#[.int ns[m] t2,.int (kf m) t3]);simp only[G,decide_true,if_true];refine BX (IV af.1 rfl (BX (MN ?_)));rw[nm];have I4:=Inv.turnP (t':=s2.toks) I3 aj (λp g=>by
    rcases NT.mp g with z |z
    ·exact(k p (X_ _ z)).1
    ·rcases HY.mp z with z |z
     ·rw[z];exact Ne.symm Y
     ·exact(k p (N_ _ z)).1) (λb v G e=>(sb.2 b G).trans e) (I_ af.1 λ_=>#[.int ns[m] t2,.int (kf m) t3]) (λv z=>by cases z)
   exact CW ⟨GC PySem.F.plain_min_loop _,ih (m+1) m H2 _ ns[m] t2 t3 _ C (by lia) aa (sm.trans ae) I4 ⟨C,(sb.2 f (Ne.symm Y)).trans ah.1,g2,g3⟩ en (B.new G)⟩
  ·simp only[G,decide_false,WK,if_false];refine BX (MN ?_);rw[nm];exact CW ⟨GC PySem.F.plain_min_loop _,ih (m+1) i H2 _ n t u c C (by lia) aa (sm.trans ae) I3 ⟨C,ah.1,g2,g3⟩ hn (B.keep G)⟩
theorem kt3(hh:X.A.handled=none)(hT:SqT X.K H0 T (ns.map V.int))(ai:T≠f)(m:S≠f)(aa:X.s₀.heap.objs.size<=S)(ab:X.s₀.heap.objs.size<=f)(g:∀p∈X.pn++ps,p.1≠S/\p.1≠f)(turn:oF X σ ps H0 ns kf U)
  (aj:∀(i:Nat)(n:Int)(t:Tok)(H:Hp)(s:BJ),ns[i]? = some n->Lst kf ns.length i->Inv X ps σ H s->Af H0 H->R (.ok (.ret (.int n t))) s)(G:0<ns.length){oI:FZ}
  (I:Inv X ((f,oI)::(S,HJ "list" #[] 0)::ps) σ H0 s)(ah:s.heap.IsTupleIter f T 0):JS (BR X.prog X.w) X.A (.builtin "min.loop" ⟨[.ref f,.ref U,.ref S],[]⟩) R s:=by
 have nm:(toString "min" ++ toString ".loop" : String) = "min.loop":=by decide
 have⟨ak,pl,il,at_⟩:=S8 I hT;have en:ns[0]? = some ns[0]:=GJ G;have⟨r,ev⟩:=at_ 0 _ en;have pS:=I.pin (S,HJ "list" #[] 0) (N_ _ (JW _ LK));refine E_ PySem.F.entry_min_loop ?_;rw[Around.under_plainId PySem.F.plain_min_loop _];show BL _ X.A.in1 (QT (.ref S) >>= _) _ _ s;refine BX (GZ pS.1 rfl ?_);show BL _ X.A.in1 (tryCatch (JP (.ref f)) _ >>= _) _ _ s;refine BX (JK (OD ah pl (x:=.int ns[0] r) (by simpa using ev) λh1 Y af=>?_));have⟨k,g1,g2,g3⟩:=id Y;have I1:=Inv.turnP (t':=s.toks) I ab (λp B=>by
  rcases NT.mp B with z |z
  ·exact(g p (X_ _ z)).2
  ·rcases HY.mp z with z |z
   ·rw[z];exact m
   ·exact(g p (N_ _ z)).2) (λb v hb e=>(af.2 b hb).trans e) g1 (λv z=>by rw[g3]at z;cases z)
 show BL _ X.A.in1 (tryCatch (PQ [.int ns[0] r] (call (.ref U) [.int ns[0] r])) _ >>= _) _ _ _;refine BX (JK (CT (D_ (turn 0 _ r H0 _ _ en (Af.refl _) (λp B=>JW _ (JW _ B)) I1) (λx s2 q=>?_) λ_ _ z=>z.elim)));obtain⟨H2,t3,rfl,I2,ae⟩:=q;have C:=I2.pin (S,HJ "list" #[] 0) (N_ _ (JW _ LK));have ag:=I2.pin (f,k) (N_ _ LK);have I3:Inv X ((S,HJ "list" #[] 0)::(f,k)::ps) σ H2 s2:=Inv.repin I2 λp B=>by
  simp only[HY]at B ⊢;rcases B with z |z |z
  ·exact .inr (.inl z)
  ·exact .inl z
  ·exact .inr (.inr z)
 have sb:=Heap.SameBut.update s2.heap S (Obj.mapSeq λ_=>#[.int ns[0] r,.int (kf 0) t3]);show BL _ X.A.in1 (SM S (λ_=>#[.int ns[0] r,.int (kf 0) t3]) >>= _) _ _ _;refine BX (IV C.1 rfl ?_);rw[nm];have I4:=Inv.turnP (t':=s2.toks) I3 aa (λp B=>by
  rcases NT.mp B with z |z
  ·exact(g p (X_ _ z)).1
  ·rcases HY.mp z with z |z
   ·rw[z];exact Ne.symm m
   ·exact(g p (N_ _ z)).1) (λb v hb e=>(sb.2 b hb).trans e) (I_ C.1 λ_=>#[.int ns[0] r,.int (kf 0) t3]) (λv z=>by cases z)
 exact CW ⟨GC PySem.F.plain_min_loop _,wg4 hh hT ai m aa ab g turn aj (ns.length - 1) 1 0 H2 _ ns[0] r t3 _ k rfl G ae I4 ⟨k,(sb.2 f (Ne.symm m)).trans ag.1,g2,g3⟩ en ⟨by lia,λj hj=>by
  have e:j=0:=by lia
  subst e;exact⟨by lia,λz=>absurd z (by lia)⟩⟩⟩
theorem wt8(hh:X.A.handled=none)(I:Inv X ps σ H0 s)(G:SqT X.K H0 T (ns.map V.int))(r:0<ns.length)(turn:oF X σ ps H0 ns kf U)
  (C:∀(i:Nat)(n:Int)(t:Tok)(H:Hp)(s:BJ),ns[i]? = some n->Lst kf ns.length i->Inv X ps σ H s->Af H0 H->Q (.int n t) s):
  BL (BR X.prog X.w) X.A (call (.builtin "min") [.ref T] [(Str.ofString "key",.ref U)]) Q Er s:=by
 have Y:(toString "min" ++ toString ".loop" : String) = "min.loop":=by decide
 have⟨aa,pl,il,at_⟩:=S8 I G;have⟨oT,m,_⟩:=id pl;have B:=GQ m;refine kmk_tree PySem.F.kind_min PySem.F.plain_min PySem.F.entry_min (kmk_min_key _ _) ?_;show BL _ X.A.in1 (Builtin.Builtins.bindParams "min" ["key","default"] 0 ⟨[],[(Str.ofString "key",.ref U)]⟩ >>= _) _ _ s;refine BX (QL (show _=pure [some (.ref U),none] from rfl) ?_);refine BX (CW (BX (bC pl (BX (W_ ?_ (U_ _))))));rw[Y];refine CW ⟨GC PySem.F.plain_min_loop _,?_⟩;have I1:=Inv.pinNew (h':=s.heap.push {cls:=.type "tuple_iterator",data:=.fields #[.ref T,.int 0 0] }) (t':=s.toks) I (λb u e=>HF _ e) (FW _) (L_ _ rfl) (λv z=>by cases z);have I2:=Inv.pinNew (h':=(s.heap.push {cls:=.type "tuple_iterator",data:=.fields #[.ref T,.int 0 0] }).push {cls:=.type "list",data:=.seq ([]:List A_).toArray}) (t':=s.toks) I1 (λb u e=>HF _ e) (FW _) (L_ _ rfl) (λv z=>by cases z);have es:(s.heap.push {cls:=.type "tuple_iterator",data:=.fields #[.ref T,.int 0 0] }).objs.size=s.heap.objs.size+1:=size_push' ..;have k:∀p∈X.pn++ps,p.1<s.heap.objs.size:=λp g=>GQ (I.pin p g).1;have I3:Inv X ((s.heap.objs.size,{cls:=.type "tuple_iterator",data:=.fields #[.ref T,.int 0 0] })::((s.heap.push {cls:=.type "tuple_iterator",data:=.fields #[.ref T,.int 0 0] }).objs.size,HJ "list" #[] 0)::ps) σ H0 _:=Inv.repin I2 λp g=>by
  simp only[HY]at g ⊢;rcases g with z |z |z
  ·exact .inr (.inl z)
  ·exact .inl z
  ·exact .inr (.inr z)
 exact kt3 hh G (JV B) (by rw[es];exact qJ _) (by rw[es];exact jHd I.sz) I.sz (λp g=>by have:=k p g;rw[es];exact⟨by lia,by lia⟩) turn C r I3 ⟨_,HF _ (L_ _ rfl),rfl,rfl⟩
end
def Kg(g:Ev->R D)(B:Ev):List Int->R (List Int)
 | []=>.ok []
 |n::r=>(g (B.set 0 (some (.int n)))).bind λd=>match d with
  | .int k=>(Kg g B r).bind λf=>.ok (k::f)
  |_=>.bad
def Xk{g:Ev->R D}{B:Ev}:∀{ns ks:List Int},Kg g B ns=.ok ks->ks.length=ns.length/\∀j n,ns[j]? = some n->g (B.set 0 (some (.int n)))=.ok (.int (ks.getD j 0))
 | [],ks,h=>by cases h;exact⟨rfl,λj n e=>by simp at e⟩
 |n::r,ks,h=>by
  refine Am (λd G h=>?_) (Bp h);cases d with
  |int k =>
   refine Am (λf F h=>?_) (Bp (show(Kg g B r).bind (λks=>R.ok (k::ks))=_ from h));cases h;obtain⟨z,C⟩:=Xk F;refine⟨by simp[z],λj m e=>?_⟩;cases j with
   |zero =>
    have:n=m:=by simpa using e
    subst this;simpa using G
   |succ j=>simpa using C j m (by simpa using e)
  |_=>cases h
def mnI(ks:List Int):Nat:=ks.findIdx λk=>ks.all λj=>decide (k<=j)
theorem wu0{ks:List Int}(h:Lst (λj=>ks.getD j 0) ks.length i):mnI ks=i:=by
 obtain⟨hi,g⟩:=h;have at_:∀j (f:j<ks.length),ks.getD j 0=ks[j]:=λj f=>by rw[NQ,GJ f,WD]
 unfold mnI;rw[List.findIdx_eq hi];refine⟨?_,λj f=>?_⟩
 ·rw[RJ];intro x k;obtain⟨j,f,rfl⟩:=YZ.mp k;have:ks.getD i 0<=ks.getD j 0:=(g j f).1;rw[at_ i hi,at_ j f]at this;exact decide_eq_true this
 ·rw[dJ];intro z;have z:=of_decide_eq_true (RJ.mp z ks[i] (RG hi));have:ks.getD i 0<ks.getD j 0:=(g j (by lia)).2 f;rw[at_ i hi,at_ j (by lia)]at this;lia
def mkD(f:Ev->R D)(caps:List Nat)(g:Ev->R D):Ev->R D:=λk=>(f k).bind λx=>match x with
 | .tup n=>match Ax n with
  |some ns=>if ns=[] then .bad else((Kg g (Dp 1 caps k) ns).bind λm=>.ok (.int (ns.getD (mnI m) 0))).nox
  |none=>.bad
 |_=>.bad
def we3{f g:Ev->R D}:∀k d,mkD f caps g k=.ok d->d.imm=true:=λk d h=>by
 refine Am (λx C h=>?_) (Bp h);cases x with
 |tup r =>
  cases B:Ax r with
  |none=>have h:(match Ax r with |some ns=>if ns=[] then R.bad else((Kg g (Dp 1 caps k) ns).bind λm=>.ok (D.int (ns.getD (mnI m) 0))).nox |none=>.bad)=R.ok d:=h;rw[B]at h;cases h
  |some ns =>
   have h:(match Ax r with |some ns=>if ns=[] then R.bad else((Kg g (Dp 1 caps k) ns).bind λm=>.ok (D.int (ns.getD (mnI m) 0))).nox |none=>.bad)=R.ok d:=h;rw[B]at h;have h:(if ns=[] then R.bad else((Kg g (Dp 1 caps k) ns).bind λm=>.ok (D.int (ns.getD (mnI m) 0))).nox)=R.ok d:=h;by_cases z:ns=[]
   ·rw[if_pos z]at h;cases h
   ·rw[if_neg z]at h;cases n:Kg g (Dp 1 caps k) ns with
    |ok m=>rw[n]at h;cases h;rfl
    |exc x=>rw[n]at h;cases h
    |bad=>rw[n]at h;cases h
 |_=>cases h
section
variable {m:CN}{k:QZ}{C F:JG}{f g:Ev->R D}
def wg0(L:oH X P)(hr:El 1 X.A)(hT:c.H0 P=some (tbK C (X.env.qual ++ "<lambda>")))(hm:X.mg "min" = none)(ha:PEd X c l e f)
  (he:∀(A:DK)(qual:BV)(U:BK)(cd:A_)(cl:List (BV×BK))(s:BJ)(H H0:Hp)(S0:AS),PEd (cxL X A (Eb X [x] caps) qual scope U cd cl s H) ⟨H0,S0,[],G5,[]⟩ .any m g)
  (ab:∀(qual:BV)(cl:List (BV×BK))(pm cd ae u:A_),O_ (kla_fn "<lambda>" qual k m scope cl pm cd ae) ⟨[u],[]⟩=pure [(x,u)]:=by intros;rfl)
  (ba:Lw scope X.env.scope X.N caps=true:=by rfl)(ay:scope.names.all (λy=>y.2 != .cell)=true:=by rfl)(hx:scope.names.lookup x=some .local:=by rfl)(az:scope.isCoroutine=false:=by rfl)(ai:scope.isGenerator=false:=by rfl)
  (ak:defaultsOf k X.env=([],[]):=by rfl)(ao:Mw c.O l caps=true:=by rfl)(hg:Gl X "min":=by rfl)(hs:BP [e] X.env=(false,CZ e X.env)::BP [] X.env:=by rfl)
  (ax:Zp X.env J [e]:=by rfl)(bb:HQ J (BP [e] X.env)=(false,CZ e X.env)::HQ J (BP [] X.env):=by rfl):
  PEd X c l (.Call (.Name "min" p) [e] [⟨some "key",.Lambda k m scope C,F⟩] J) (mkD f caps g):=λpins s σ H Q I q=>by
 revert q;refine Bm λau Y E q=>?_;have B:Fy X scope [x] caps:=.of ba;have ah:∀y∈scope.names,y.2≠.cell:=λy hy=>by simpa using RJ.mp ay y hy
 refine HB (T5 I hg hm PyProof.Rows.boot_min ?_ (by decide) (by decide));refine callWith_kw ?_ bb ax rfl rfl;have q:=RQ.bind.mp q;have bf:PAd X c l [e] (zv f a0):=ac ha an hs;refine thG (bf J pins s σ H (λvs H1=>∃d v,vs=[v]/\f Y=.ok d/\Af H H1/\Rep X.K H1 (lvS c Y σ H l) d v) I ⟨au,Y,E,?_⟩) λus s1 vs H1 I1 rv z=>?_
 ·show RQ ((f Y).bind _) _ _;cases ef:f Y with
  |ok d=>rw[R.ok_bind];intro vs H' sm rp _;obtain⟨v,r,rfl,h1,h2⟩:=rp;cases(show r=[] from h2);exact⟨d,v,rfl,rfl,sm,h1⟩
  |exc y=>rw[ef]at q;exact q
  |bad=>rw[ef]at q;exact q.elim
 obtain⟨d,v,rfl,ef,ag,rp⟩:=z;obtain⟨u,rfl,ru⟩:=rv.one;rw[ef]at q;have bc:H1 P=some (tbK C (X.env.qual ++ "<lambda>")):=ag _ _ (E.same _ _ hT);show BL _ _ (evalAll ((do let w <-CZ (.Lambda k m scope C) X.env;UT J;pure w)::[])) _ _ s1;refine wpAny_evalAll_cons (BX (kr8 L I1 bc ak (B.clo I1) λU c' ae H2 s2 I2 af hf aj hc ho=>BX (HH (CW (wpAny_evalAll_nil ?_)))));show BL _ _ (call (.builtin "min") [u] [(Str.ofString "key",.ref U)]) _ _ s2;cases d with
 |tup ds =>
  obtain⟨T,vs,rfl,ht,aw⟩:=rp;cases(show u=Value.ref T from ru);have q:RQ (match Ax ds with |some ns=>if ns=[] then R.bad else((Kg g (Dp 1 caps Y) ns).bind λks=>.ok (D.int (ns.getD (mnI ks) 0))).nox |none=>.bad) _ _:=q;cases ei:Ax ds with
  |none=>rw[ei]at q;exact q.elim
  |some ns =>
   rw[ei]at q;have q:RQ (if ns=[] then R.bad else((Kg g (Dp 1 caps Y) ns).bind λks=>.ok (D.int (ns.getD (mnI ks) 0))).nox) _ _:=q;by_cases hn:ns=[]
   ·rw[if_pos hn]at q;exact q.elim
   rw[if_neg hn]at q;cases ek:Kg g (Dp 1 caps Y) ns with
   |exc y=>rw[ek]at q;exact q.elim
   |bad=>rw[ek]at q;exact q.elim
   |ok ks =>
    rw[ek]at q;have⟨kl,kk⟩:=Xk ek;have ev:=oU aw ei;subst ev;have sm:Af H H2:=ag.trans af;have I3:Inv X ((U,UW "<lambda>" (X.env.qual ++ "<lambda>") k m scope (Nj scope X.env) ((X.mg "__name__").getD .none) c' ae)::pins) σ H2 s2:=I2.pins_of λw hw=>by
     rcases HY.mp hw with rfl |hw
     ·exact⟨ho,hf,S_ (QF I1.lt aj),I1.nofs aj,λv z=>by cases z⟩
     ·exact I2.pin w (N_ _ hw)
    refine wt8 (kf:=λj=>ks.getD j 0) hr.hd I3 (SqT.up ht.sq af) (List.length_pos_iff.mpr hn) (λj n tt Hk sk bg hj G sub Ik=>?_) λi n t Hk sk hi aa Ik G=>?_
    ·have pf:=Ik.pin _ (N_ _ (sub _ LK));refine kr7 (l:=l) (v:=.int n) (d:=.int n) B ah hx az ai Ik Ik.ok.frames hr.hd (El.in1 hr).depth pf.1 (hc.mono G) (ab _ _ _ _ _ _) ⟨tt,rfl⟩ (λs H H0 S0=>he _ _ _ _ _ s H H0 S0) (E.mono (sm.trans G)) ao rfl (kk j n hj) λy w H' s' I' aq ry ar=>?_;cases(show y=.int (ks.getD j 0) from ar);obtain⟨t',rfl⟩:=(show ∃t,w=Value.int (ks.getD j 0) t from ry);exact⟨H',t',rfl,I',aq⟩
    ·rw[<-kl]at aa;have em:=wu0 aa;have en:ns.getD (mnI ks) 0=n:=by rw[em,NQ,hi];rfl
     refine⟨.int n,Hk,Inv.repin Ik λw hw=>JW _ hw,⟨t,rfl⟩,?_⟩;have q':=q (.int n) Hk (sm.trans G) (by rw[en];rfl);exact q'
 |_=>exact q.elim
end
def c7(k:BV->Option A_)(base:CP)(y:BV)(P:BK):Prop:=
 (∃a o m c,k y=some (.ref a)/\base.get? a=some o/\o.data=.func m/\m.code=.ref c/\CodeHd base c P) /\
 ∃g f,k "__builtins__" = some (.ref g)/\g≠KD/\base.get? g=some f/\f.cls=.type "module"/\f.dict=some KD/\f.data=.plain
def spT(K:B_)(P:BK)(tb:HO)(n:Nat)(m:List D->R D):Sp:=λvs H Q E=>H P=some tb/\sp0 K n m vs H Q E
def FnT(Pr:BZ)(w:CV)(K:B_)(g:BV->Option A_)(base:CP)(P:BK)(tb:HO)(k:Nat)(x:BV)(ps:List BV)(n:Nat)(m:List D->R D):Prop:=
 ∃(f:BK)(r:DQ),Hh Pr w K g base CX0 k f r ps (spT K P tb n m)/\g x=some (.ref f)/\W.keepIn K (.ref f)=true/\Binds K r ps []
variable {Pr:BZ}{K:B_}{mg:BV->Option A_}
variable {m:List D->R D}{f:BK}{g:Ev->R Fl}{st:DR}
section
variable {base:CP}{tb:HO}
theorem W0{I:DQ}{N ps:List BV}{k:Nat}{O:List Nat}(F:Fun K x qual st f I)(S:Ez N ps (Av st))(hO:O.all (λi=>decide (ps.length<=i))=true)
  (C:∀(n:A_)(A:DK)(outer:List JT)(s:BJ)(H:Hp)(E:XK)(S0:AS),I.code=n->H P=some tb->El k (A.deeper (envOfC qual (Av st) s.heap.objs.size f n))->(A.deeper (envOfC qual (Av st) s.heap.objs.size f n)).units+70<HX ->
   Vl (Vn CX0 Pr w K mg base N qual (Av st) f n A outer s H E).nox ⟨H,S0,O,G5,[]⟩ (Cp st) g):
  Hh Pr w K mg base CX0 (k+1) f I ps (spT K P tb ps.length (Ci N.length g)):=by
 obtain⟨oc,od,kV,ae,pm,an,n,ct,ab,rfl,lk,G⟩:=F.ex;refine j8 lk G S (λvs H Q E h=>h.2.1) λA outer s H vs Q E hr h=>?_;obtain⟨hT,hl,S0,Y,r,q⟩:=h;refine⟨_,(C n A outer s H E S0 rfl hT hr (by have:=hr.un;lia)).nox,[],Ag N.length Y,Tq r (λi hi=>?_),?_⟩
 ·have:=of_decide_eq_true (RJ.mp hO i hi);rw[hl];exact this
 ·have B:RQ (bV (g (Ag N.length Y))) _ _:=q;cases e:g (Ag N.length Y) with
  |ok fl =>
   rw[e]at B;cases fl with
   |nx ρ=>exact λaa H' E'=>B .non H' E'.same rfl
   |rt d=>exact λv H' s r=>B v H' s (r.mono (Af.refl _) λo z=>z.elim .inl λ⟨a,e1,e2,_⟩=>.inr ⟨a,e1,e2⟩)
   |bk ρ=>exact B.elim
   |ct ρ=>exact B.elim
  |exc y=>rw[e]at B;exact B.elim
  |bad=>rw[e]at B;exact B.elim
def lH{k n:Nat}{ps:List BV}(X:K.In h)(G:h.Ns PySem.mainGlobals mg)(I:FI K x st)(z:∀a r,mg x=some (.ref a)->Fun K x x st a r->Hh Pr w K mg base CX0 k a r ps (spT K P tb n m))
  (hb:∀(kV B Y:A_)(an:Option BK)(C ct:A_)(us:List A_),us.length=ps.length->O_ (W.fnOf x x (Es st) (Cp st) (Av st) .none kV B Y an C ct) ⟨us,[]⟩=pure (ps.zip us)):FnT Pr w K mg base P tb k x ps n m:=by
 revert I;refine Bo λf r a F kp=>?_;exact⟨f,r,z f r (W.mg_of X G a) F,W.mg_of X G a,kp,F.binds hb⟩
def wt1{y:BV}{r:DQ}{N:List BV}{scope:HR}{k:A_}{outer:List JT}{E:XK}(L:c7 mg base y P)(kb:K.In base)(G:mg y=some (.ref f))(F:Fun K y qual st f r)(I:r.code=k):
  oH (Vn CX0 Pr w K mg base N qual scope f k A outer s H E).nox P:=by
 obtain⟨⟨a,o,aa,c,n,h2,h3,h4,h5⟩,Y⟩:=L;obtain⟨oc,od,kV,ab,pm,an,z,ct,B,rfl,C,_⟩:=F.ex;rw[G]at n;cases n;have e:=kb _ _ C;rw[h2]at e;cases e;cases h3;exact⟨⟨c,I.symm.trans h4,h5⟩,Y⟩
end
variable {k n:Nat}
section
variable {fs:Ev->R (List D)}{ps:List BV}{m:List D->R D}{tb:HO}
def Uk(F:FnT X.prog X.w X.K X.mg X.base P tb k x ps n m)(hT:c.H0 P=some tb)(hr:El k X.A)(ha:PAd X c l (e::es) fs)(hn:(e::es).length=n:=by rfl)(aa:ps.length=n:=by rfl)(hg:Gl X x:=by rfl)
  (I:Zd x:=by decide)(he:Zs X.env e es:=by rfl)(G:Zp X.env J es:=by rfl):
  PEd X c l (.Call (.Name x p) (e::es) [] J) (cl fs m):=by
 revert F;refine Vp λf fd F hm hk hb=>?_;refine PE.imp (pG F hr hg hm hk hb .nil sV ha I he G) λσ H Q q=>?_;revert q;refine Bm λhs ρ E q=>?_;refine Ce E ((RQ.bind.mp q).mono (λds r vs H1 C E1 Y hl=>?_) λ_ z=>z);rw[WW];cases B:m ds with
 |ok d =>
  rw[B]at r;refine⟨C _ _ (E.same _ _ hT),?_,lvS c ρ σ H l,ds,Y,?_⟩
  ·rw[<-Y.length,hl,hn]
  ·rw[B];exact λv H' s2 r2=>r v H' (C.trans s2) (r2.mono (Af.refl _) λ_ z=>Kl E C z)
 |exc x=>rw[B]at r;exact r.elim
 |bad=>rw[B]at r;exact r.elim
end
variable {fd:DQ}
section
variable {mb:BV->Option A_}{c:BK}{y:BV}{ps:Array A_}{m:List D->R D}
def kg4(KX:K.In s.heap)(nt:noTabs K=true)(hn:s.heap.Ns HS mg)(hb:s.heap.Ns KD mb)(ak:∀x:BV,x ≠ "__name__"->mb x=FQ x)(Y:s.heap.NoLimit)(hg:s.gens = #[])
  (B:s.heap.get? a=some {cls:=.type "list",data:=.seq vs.toArray})(hi:FT vs ns)(hl:ns.length<=sizeLine)(hr:El k RW)(tab:s.heap.TableAt c P #[])(L:c7 mg s.heap y P)
  (F:∀base:CP,K.In base->base.Ns HS mg->c7 mg base y P->Hh Pr w K mg base CX0 k U fd [x] (spT K P (.tbl ps) 1 m))(aa:∀(s:BJ)(u:A_),ZG s fd ⟨[u],[]⟩ [(x,u)])
  (hm:m [.lst (ns.map .int)]=.ok (.bl true)):
  JS (BR Pr w) RW (.call (.ref U) ⟨[.ref a],[]⟩) (λr C=>r=.ok (.ret (.bool true))/\OldK s.heap C.heap/\C.os=s.os/\M_ C.gens) s:=by
 have I:=tab.2;have aP:a≠P:=λz=>by rw[z,I]at B;cases B
 have nK:K.lookup P=none:=by
  cases q:K.lookup P with
  |none=>rfl
  |some o=>have e:=KX _ _ q;rw[I]at e;cases e;exact absurd (RJ.mp nt _ (mem_of_lookupK q)) (by simp)
 have core:∀H:Hp,H P=some (.tbl ps)->(∀b,b≠P->H b≠none->b=a/\H b=some (.frz {cls:=.type "list",data:=.seq vs.toArray} (.lst (ns.map V.int))))->SqL K H a (ns.map V.int)->(H a≠none->K.lookup a=none) ->
   JS (BR Pr w) RW (.call (.ref U) ⟨[.ref a],[]⟩) (λr C=>r=.ok (.ret (.bool true))/\OldK s.heap C.heap/\C.os=s.os/\M_ C.gens) s:=by
  intro H hT hO hS hK;have ok:HOk Pr w H s.heap:=λb u e=>by
   by_cases af:b=P
   ·subst af;rw[hT]at e;cases e;exact⟨_,I,.inl rfl⟩
   ·obtain⟨rfl,e2⟩:=hO b af (by rw[e];simp);rw[e2]at e;cases e;exact⟨B,by rw[HN];exact hl,vs,_,Ji hi,B⟩
  have get:∀{b:BK}{o:FZ},s.heap.get? b=some o->b≠P->b≠a\/H a=none->(Xb s.heap H).get? b=some o:=λ{b o} e n1 n2=>kp2 e (by
   cases q:H b with
   |none=>rfl
   |some u =>
    have⟨z,_⟩:=hO b n1 (by rw[q];simp);rcases n2 with n2 |n2
    ·exact absurd z n2
    ·rw[z,n2]at q;cases q)
  have ar:∀{b:BK}{o:FZ}{es:Array TJ}{ep:Nat},s.heap.get? b=some o->o.data=.dict es ep->(Xb s.heap H).get? b=some o:=λ{b o es ep} e d=>get e (λz=>by
   rw[z,I]at e;cases e;cases d) (.inl λz=>by
   rw[z,B]at e;cases e;cases d)
  have G:∀{b:BK}{mm:BV->Option A_},s.heap.Ns b mm->(Xb s.heap H).Ns b mm:=λ{b mm} ⟨o,es,ep,e,d,r⟩=>⟨o,es,ep,ar e d,d,r⟩;have kB:K.In (Xb s.heap H):=λb o e=>get (KX b o e) (λz=>by rw[z,nK]at e;cases e) (by
   by_cases z:b=a
   ·right;cases q:H a with
    |none=>rfl
    |some u=>rw[z,hK (by rw[q];simp)]at e;cases e
   ·exact .inl z)
  have hM:Mod K mg (Xb s.heap H):=⟨kB,G hn,⟨mb,G hb,ak⟩,let ⟨mc,h1,h2⟩:=Y; ⟨mc,G h1,h2⟩⟩;have LB:c7 mg (Xb s.heap H) y P:=by
   obtain⟨⟨a1,o1,aq,c1,g1,g2,g3,g4,o2,v2,f2,t2,ao,ai,aj,ag,ah,g5,g6,g7,g8⟩,bm,ob,b1,b2,b3,b4,b5,b6⟩:=L;refine⟨⟨a1,o1,aq,c1,g1,get g2 (λz=>?_) (.inl λz=>?_),g3,g4,o2,v2,f2,t2,ao,ai,aj,ag,ah,get g5 (λz=>?_) (.inl λz=>?_),g6,g7,g8⟩,bm,ob,b1,b2,get b3 (λz=>?_) (.inl λz=>?_),b4,b5,b6⟩
   ·rw[z,I]at g2;cases g2;cases g3
   ·rw[z,B]at g2;cases g2;cases g3
   ·rw[z,I]at g5;cases g5;cases g6
   ·rw[z,B]at g5;cases g5;exact absurd (Value.type.inj g6) (by decide)
   ·rw[z,I]at b3;cases b3;cases b4
   ·rw[z,B]at b3;cases b3;exact absurd (Value.type.inj b4) (by decide)
  have e0:dD Pr w K mg (Xb s.heap H) RW [] s H:=⟨rfl,hM,λb o e=>wh1 e,Nat.le_of_eq (kf4 _ _),trivial,λb hb=>absurd (show b∈([]:List BK) from hb) (by simp),ok,.of_eq hg⟩;have sp:spT K P (.tbl ps) 1 m [.ref a] H (λv _=>v=.bl true) (λ_ _ _=>False):=⟨hT,rfl,λ_=>True,[.lst (ns.map .int)],.cons ⟨a,_,rfl,SqL.ls hS trivial trivial,La ns⟩ An.nil,by
   rw[hm];exact λv H' _ r=>r⟩
  refine HD ((F _ kB (G hn) LB).run RW [] s H ⟨[.ref a],[]⟩ [.ref a] [.ref a] _ _ hr e0 (aa s (.ref a)) (.cons rfl .nil) sp) λr C h=>?_;cases r with
  |error e=>exact(show False from h).elim
  |ok fl =>
   cases fl with
   |ret u =>
    obtain⟨v,H',os,bare,un,ae,rv,q⟩:=h;cases(show v=.bl true from q);cases(show u=Value.bool true from rv);have hx:lQ P s.heap C.heap:=λb o hb e=>by
     cases q:H b with
     |none=>exact un.keep b o e q (λz=>absurd (show b∈([]:List BK) from z) (by simp)) (by simp)
     |some u=>obtain⟨rfl,e2⟩:=hO b hb (by rw[q];simp);have e3:=ae _ _ (un.frzs _ _ _ e2);rw[B]at e;cases e;exact e3.1
    have⟨more,eT⟩:=un.tbls P ps hT;have⟨qs,eP,_⟩:=ae _ _ eT;have⟨⟨oc,vc,t1,t2,t3,t4⟩,_⟩:=id tab;have cP:c≠P:=λz=>by rw[z,I]at t1;cases t1;cases t2
    refine⟨rfl,(OldK.refl _).step_table (more:=qs) tab tab ⟨⟨oc,vc,hx c oc cP t1,t2,t3,t4⟩,?_⟩ hx (λz=>?_),os,bare⟩
    ·rw[eP];simp
    ·obtain⟨mc,⟨o,es,ep,g1,g2,_⟩,_⟩:=Y;rw[<-z,I]at g1;cases g1;cases g2
   |next=>exact False.elim h
   |brk=>exact False.elim h
   |cont=>exact False.elim h
 cases hk:K.lookup a with
 |some o=>have e:=KX a o hk;rw[B]at e;cases e;refine core (λb=>if b=P then some (.tbl ps) else none) (if_pos rfl) (λb n z=>absurd (if_neg n) z) (.inr ⟨_,vs.toArray,_,hk,rfl,rfl,rfl,by rw[KJ,hi.length];exact hl,by simpa using Ji hi⟩) λz=>absurd (if_neg aP) z
 |none =>
  refine core (λb=>if b=P then some (.tbl ps) else if b=a then some (.frz {cls:=.type "list",data:=.seq vs.toArray} (.lst (ns.map V.int))) else none) (if_pos rfl) (λb n z=>?_) (.inl (.inr ⟨{cls:=.type "list",data:=.seq vs.toArray},(if_neg aP).trans (if_pos rfl)⟩)) λ_=>hk;rw[if_neg n]at z;by_cases ab:b=a
  ·exact⟨ab,by rw[if_neg n,if_pos ab]⟩
  ·exact absurd (if_neg ab) z
end
def law_walkT{l:W.OpenLaw}{q:BZ}{loose:List BV}{XP:(BV->Option A_)->CP->Prop}{YP:CV->CP->Prop}{d:DefRec}{K:Params->B_}{y:BV}{ps:Array A_}
  (hm:∀ns:List Int,ns.length<=63->m [.lst (ns.map .int)]=.ok (.bl true))(hn:l.most=some 63)(I:d.params.defaults=[])(hr:El k RW)(B:((recsOf q).find? λe=>e.name == y).isSome=true)
  (hY:∀(w:CV)(h:CP),YP w h->(K w.params).In h)
  (F:∀(w:CV)(mg:BV->Option A_)(U:BK)(h:CP),(K w.params).In h->h.Ns HS mg->mg d.name=some (.ref U)->noTabs (K w.params)=true /\
   ∃fd:DQ,(∀(s:BJ)(u:A_),ZG s fd ⟨[u],[]⟩ [(x,u)])/\∀(P:BK)(base:CP),(K w.params).In base->base.Ns HS mg->c7 mg base y P->Hh l.prog w (K w.params) mg base CX0 k U fd [x] (spT (K w.params) P (.tbl ps) 1 m)):
  W.WalkO q loose XP YP l.row.toRowW d [] (λf vs=>PySem.call f vs):=by
 refine Att.jh0 hn I λw ae ab mg mb U o pm cd ag a vs ns G Y ho hd af C z hints r hg=>?_;have KX:=hY w _ Y;have⟨dy,B⟩:=mL.mp B;have⟨nt,fd,hb,hF⟩:=F w mg U _ KX G.T.g C;have en:dy.name=y:=beq_iff_eq.mp (List.find?_some (p:=λe:DefRec=>e.name == y) B);have⟨f1,o1,aa,c,P,g1,g2,g3,g4,g5,g6⟩:=G.T.tab dy (List.mem_of_find?_eq_some B);rw[en]at g1;exact kg4 (y:=y) KX nt G.T.g G.T.b G.T.builtins G.T.nolimit hg z hints (QW r (by decide)) hr g6 ⟨⟨f1,o1,aa,c,g1,g2,g3,g4,CodeHd.of g5 g6⟩,G.T.bmain⟩ (hF P) hb (hm ns r)
def wx7:MF (.type "list_reverseiterator") "__len__" = pure none:=by rw[P_,JX];kernel_rfl
def wk4:MF (.type "list_reverseiterator") "__length_hint__" = pure (some (.builtin "list_reverseiterator.__length_hint__")):=by rw[P_,JX];kernel_rfl
def wk7:isSubtype (.type "list_reverseiterator") (.type "list_reverseiterator")=pure true:=by rw[QR];kernel_rfl
section
variable {i S:BK}{its:Array A_}{R:WQ->BJ->Prop}
abbrev tQ(prog:BZ)(w:CV)(A:DK)(R:WQ->BJ->Prop)(r:Fin)(z:BJ):Prop:=match r with | .done f=>R (.ok f) z | .again B=>B.quiet=true/\JS (BR prog w) A B R z
abbrev sE(s:BJ)(i S:BK)(its:Array A_)(r:BJ)(acc:Array A_)(c:Nat):Prop:=
 Moved [S,i] (λa b=>b=a) s r/\r.heap.get? S=some {cls:=.type "list",dict:=none,data:=.seq acc c,slots:=#[] }/\dU (λj v=>its[its.size - 1 - j]? = some v) acc its.size
def ki9{c0:Nat}(hh:A.handled=none)(r:s.heap.IsRevIter i a ((its.size:Int) - 1))(hl:s.heap.IsList a its)(C:a≠i)(B:S≠i)(G:S≠a)(hS:s.heap.get? S=some {cls:=.type "list",data:=.seq #[] c0})(hz:its.size<=sizeLine)
  (Y:∀z acc c,sE s i S its z acc c->R (.ok (.ret .none)) z):
  BL (BR prog w) A.in1 (Builtin.List.listExtendWith (.ref S) (.ref i) .none) (tQ prog w A R) (λe z=>R (.error e) z) s:=by
 have ty:=r.typeIs;have W:=(Walks.listRev (prog:=prog) (w:=w) (A:=A.in1) hh i a C its).toS;unfold Builtin.List.listExtendWith;refine BX (JH ty ?_);have e1:Builtin.List.listSameRef (.ref S) (.ref i)=false:=by simp[Builtin.List.listSameRef,B]
 have e2:(Value.type "list_reverseiterator" == Value.type "list")=false:=by decide
 have e3:(Value.type "list_reverseiterator" == Value.type "tuple")=false:=by decide
 simp only[e1,e2,e3,Bool.or_false,WK,if_false];refine BX (wpAny_pyIter_revIter r (BX (CT ?_)));unfold Builtin.List.listLengthHint;refine BX (TQ ty wx7 ?_);show BL _ A.in1 (specialOf (Value.ref i) (Str.ofString "__length_hint__") >>= _) _ _ s;refine BX (TQ ty wk4 ?_);show BL _ A.in1 (RD (.ref i) (.type "list_reverseiterator") >>= _) _ _ s;refine BX (JZ ty wk7 ?_);refine CW ?_;show BL _ A.in1 (again (.builtin "list.extend.loop" ⟨[.ref S,.ref i,.none],[]⟩)) _ _ s;refine CW ⟨GC F.plain_extend_loop _,aA W hz S (by simp[B,G]) .none its.size 0 s #[] c0 rfl (U_ _) ⟨U_ _,by simpa using r,hl⟩ hS (ItemsOf.nil _) λz acc c mv I hi=>Y z acc c ⟨mv,I,hi⟩⟩
def wk5(hh:A.handled=none)(I:s.heap.IsRevIter i a ((its.size:Int) - 1))(hl:s.heap.IsList a its)(Y:a≠i)(B:S≠i)(C:S≠a)(hS:s.heap.get? S=some {cls:=.type "list",data:=.seq #[] })(hz:its.size<=sizeLine)
  (aa:∀r acc c,sE s i S its r acc c->R (.ok (.ret .none)) r):
  BL (BR prog w) A.in1 (GR.«list.__init__» ⟨[.ref S,.ref i],[]⟩) (tQ prog w A R) (λe r=>R (.error e) r) s:=by
 show BL _ A.in1 (Builtin.List.listItems (.ref S) >>= λG=>Builtin.List.listUpdate (.ref S) (λ_=>#[]) >>= λ_=>letGo G.toList.reverse >>= λ_=>Builtin.List.listExtendWith (.ref S) (.ref i) .none) _ _ s;refine BX ?_;unfold Builtin.List.listItems;refine BX (GZ hS rfl (CW ?_));show BL _ A.in1 (SM S (λ_=>#[]) >>= λ_=>_) _ _ s;refine BX (IV hS rfl (BX (MN ?_)));have F:=Heap.SameBut.update s.heap S (Obj.mapSeq λ_=>(#[]:Array A_));refine ki9 hh (I.at λo e=>(F.2 i (Ne.symm B)).trans e) (hl.at λo e=>(F.2 a (Ne.symm C)).trans e) Y B C (YC (Obj.mapSeq λ_=>(#[]:Array A_)) hS rfl) hz λr acc c q=>aa r acc c ⟨⟨λb o hb e=>q.1.heap b o hb ((F.2 b λz=>hb (by simp[z])).trans e),q.1.gens,q.1.drawn,q.1.os,q.1.toks⟩,q.2⟩
theorem wk6(hh:A.handled=none)(C:s.heap.IsRevIter i a ((its.size:Int) - 1))(hl:s.heap.IsList a its)(Y:a≠i)(hz:its.size<=sizeLine)
  (ab:∀G tk acc c,(∀b o,b≠i->s.heap.get? b=some o->G.get? b=some o)->G.get? s.heap.objs.size=some {cls:=.type "list",dict:=none,data:=.seq acc c,slots:=#[] }->acc.toList=its.toList.reverse->Q (.ref s.heap.objs.size) {s with heap:=G,toks:=tk}):
  BL (BR prog w) A (call (.type "list") [.ref i]) Q E s:=by
 refine callType_codes (Q₁:=λobj r=>obj=.ref s.heap.objs.size/\r = {s with heap:=s.heap.push {cls:=.type "list",data:=.seq #[] } }) F.called_list (F.typeCall_list_1 _) F.entry_list_init (code_list_new _ ⟨rfl,rfl⟩) λobj r z=>?_;obtain⟨rfl,rfl⟩:=z;have⟨oi,gi,_⟩:=id C;have⟨oa,ga,_⟩:=id hl;have nS:(s.heap.push {cls:=.type "list",data:=.seq #[] }).get? s.heap.objs.size=some {cls:=.type "list",data:=.seq #[] }:=L_ _ rfl;refine⟨⟨_,nS,rfl⟩,F.args_list_init_2 _ _,wk5 (A:=A.in1) hh (C.at λo e=>HF _ e) (hl.at λo e=>HF _ e) Y (S_ (GQ gi)) (S_ (GQ ga)) nS hz λs' acc c q=>⟨rfl,?_⟩⟩;obtain⟨I,aa,hi⟩:=q;obtain⟨G,g',d',t',o'⟩:=s';have eg:g'=s.gens:=I.gens;have ed:d'=s.drawn:=I.drawn;have eo:o'=s.os:=I.os;subst eg ed eo;refine ab G t' acc c (λb o hb e=>I.heap b o (by simp[hb,JV (GQ e)]) (HF _ e)) aa ?_
 ·apply jHe;intro j;rw[fM];by_cases hj:j<its.size
  ·have B:j<acc.size:=by rw[hi.1];exact hj
   have:=hi.2 j acc[j] (YD B);rw[YD B,List.getElem?_reverse (by simpa using hj)];rw[<-this];simp
  ·rw[jFu (by rw[hi.1];lia),aX (by simp;lia)]
end
def m7:List D->Option D
 | [.lst r]=>some (.lst r.reverse)
 |_=>none
def cW(i:BK)(H:Hp):Hp:=λb=>if b=i then none else H b
def kp1{i:BK}{o:HO}(h:H i=none):cW i (upd H i o)=H:=by
 funext b;unfold cW;by_cases r:b=i
 ·rw[if_pos r,r,h]
 ·rw[if_neg r,Ad r]
abbrev m6(i a:BK)(n:Nat):HO:=.ext λh=>h.IsRevIter i a ((n:Int) - 1)
def yo2(K:B_)(L:Nat):List V->Hp->VK->Prop:=λxs H Q=>∃a r,xs=[.ref a]/\SqL K H a r/\∀i,H i=none->L<=i->a≠i->Q (.ref i) (upd H i (m6 i a r.length))
def yh7(K:B_)(L:Nat):List V->Hp->VK->Prop:=λxs H Q=>∃i a r,xs=[.ref i]/\L<=i/\H i=some (m6 i a r.length)/\SqL K H a r/\a≠i/\∀b,H b=none->b≠i->Q (.ref b) (upd (cW i H) b (.lst r.reverse))
def An.rev{K:B_}{H:Hp}{S:AS}:∀{ds:List D}{vs:List V},An K H S ds vs->An K H S ds.reverse vs.reverse
 | [],vs,h=>by cases(show vs=[] from h);exact An.nil
 |d::ds,vs,h=>by obtain⟨v,r,rfl,B,z⟩:=h;rw[mD,mD];exact(An.rev z).append (.cons B An.nil)
def kz4{z:List V}(h:Vals z us):Vals z.reverse us.reverse:=by
 induction h with
 |nil=>exact .nil
 |cons r t B=>rw[mD,mD];exact Vals.append B (.cons r .nil)
variable {I r:JG}
section
variable {f:Ev->R D}{fs:Ev->R (List D)}
def ya9:Dc X (.type "reversed") (yo2 X.K X.s₀.heap.objs.size):=by
 rintro pins s σ H ys us Q I r ⟨a,B,rfl,Y,q⟩;obtain⟨u,rfl,F⟩:=vals1 r;cases(show u=Value.ref a from F);have⟨z,C,pl,hz⟩:=I.list Y;have G:z.toArray.size=B.length:=by rw[KJ];exact C.length.symm
 refine call_reversed_list pl.isList ?_;rw[G];exact⟨.ref s.heap.objs.size,_,I.laid (t':=s.toks) (λb o e=>HF _ e) (FW _) (show Bu X.prog X.w _ _ _ (m6 s.heap.objs.size a B.length) from⟨⟨_,L_ _ rfl,rfl,rfl⟩,⟨_,L_ _ rfl⟩,λh1 h2 x k=>x.at k⟩),rfl,q _ (I.hok.fresh (FW _)) I.sz (JV (let ⟨_,e,_⟩:=pl.isList;GQ e))⟩
def kc8(hc:X.calm=true):Dc X (.type "list") (yh7 X.K X.s₀.heap.objs.size):=by
 rintro pins s σ H ys us Q I r ⟨i,a,ws,rfl,ab,hi,hl,af,q⟩;obtain⟨u,rfl,ru⟩:=vals1 r;cases(show u=Value.ref i from ru);have⟨C,vl,pl,hz⟩:=I.list hl;have hn:C.toArray.size=ws.length:=by rw[KJ];exact vl.length.symm
 have aa:s.heap.IsRevIter i a ((C.toArray.size:Int) - 1):=by rw[hn];exact(I.hok i _ hi).1
 have hS:H s.heap.objs.size=none:=I.hok.fresh (FW _);have⟨oi,gi,_⟩:=id aa;have ag:s.heap.objs.size≠i:=S_ (GQ gi);refine wk6 (I.ok.hd hc) aa pl.isList af (by rw[hn];exact hz) λh' tk acc cc keep gS ea=>?_;have nI:∀b,H b=none->b≠i:=λb n z=>by rw[z,hi]at n;cases n
 have up:∀b u,b≠i->H b=some u->upd (cW i H) s.heap.objs.size (.lst ws.reverse) b=some u:=λb u B e=>by rw[Ad (Ay e hS)];unfold cW;rw[if_neg B];exact e
 have F:∀b u,H b=some u->(∀φ,u≠.ext φ)->b≠i:=λb u e n z=>by rw[z,hi]at e;exact n _ (Option.some.inj e).symm
 refine⟨.ref s.heap.objs.size,_,I.step (g':=s.gens) (t':=tk) (d':=s.drawn) (ch:=[i]) (λb B=>?_) (λb o _ _ B e n=>keep b o (nI b n) e) (λb o _ _ B e n=>⟨o.slots,keep b o (nI b n) e⟩) (λb o B e n=>?_) (λb o B e=>⟨o,keep b o (by simpa using B) e⟩)
  (λb xs e=>up b _ (F b _ e λ_ z=>by cases z) e) (λb o u e=>up b _ (F b _ e λ_ z=>by cases z) e) (λb ps e=>⟨#[],by rw[up b _ (F b _ e λ_ z=>by cases z) e];simp⟩) (λm hm=>?_) (λb u e=>?_) I.bare,rfl,q _ hS ag⟩
 ·have Y:b=i:=by simpa using B
  subst Y;refine⟨.inr ab,λz=>?_,λx cl e z=>?_,λp hp z=>?_⟩
  ·have:=I.free;rw[<-z,hi]at this;cases this
  ·have:=I.freeC x cl e;rw[z,hi]at this;cases this
  ·have:=(I.pin p hp).2.1;rw[z,hi]at this;cases this
 ·have Y:b≠i:=by simpa using B
  rw[Ad (JV (GQ e))];unfold cW;rw[if_neg Y];exact n
 ·obtain⟨o,es,ep,ho,r⟩:=hm;exact⟨o,es,ep,keep _ o (nI _ I.free) ho,r⟩
 ·by_cases B:b=s.heap.objs.size
  ·subst B;rw[Ah]at e;cases e;refine⟨by rw[qT];exact hz,C.reverse,cc,kz4 vl,?_⟩;rw[gS];have:acc=C.reverse.toArray:=by apply z_.mp;rw[ea]
   rw[this]
  ·rw[Ad B]at e;unfold cW at e;by_cases G:b=i
   ·rw[if_pos G]at e;cases e
   ·rw[if_neg G]at e;refine(I.hok b u e).stay (λb2 v ae r=>keep b2 v ?_ r) (λb2 r=>up b2 _ (F b2 _ r λ_ z=>by cases z) r) (λb2 xs r=>up b2 _ (F b2 _ r λ_ z=>by cases z) r) λb2 o y r=>up b2 _ (F b2 _ r λ_ z=>by cases z) r;rcases ae with rfl |z
    ·exact G
    ·exact F b2 _ z λ_ z=>by cases z
def ks1(hc:X.calm=true)(hm:X.mg "list" = none)(aa:X.mg "reversed" = none)(ha:PAd X c l [e] fs)(hg:Gl X "list":=by rfl)(ab:Gl X "reversed":=by rfl)(he:BP [e] X.env=(false,CZ e X.env)::BP [] X.env:=by rfl)
  (Y:Zp X.env r []:=by rfl)(F:BP [.Call (.Name "reversed" I) [e] [] r] X.env=(false,CZ (.Call (.Name "reversed" I) [e] [] r) X.env)::BP [] X.env:=by rfl)(C:Zp X.env J []:=by rfl):
  PEf X c l (.Call (.Name "list" p) [.Call (.Name "reversed" I) [e] [] r] [] J) (bA fs m7):=
 PE.imp (Dz (kc8 hc) hg hm PyProof.Rows.boot_list (Df (Dz ya9 ab aa (show FQ "reversed" = some (.type "reversed") by decide +kernel) ha (by decide) (by decide) he Y) Ho F) (by decide) (by decide) F C) λσ H Q q=>by
 revert q;refine Bm λhs ρ E q=>?_;refine Ce E ((RQ.bind.mp q).mono (λds q1 vs H1 G E1 r1 hn=>?_) λ_ z=>z);refine Am (λd e' q2=>?_) (q1.of)
 match ds,e' with
 | [.lst ys],e' =>
  cases e';obtain⟨v,rfl,a,ws,rfl,hl,rr⟩:=r1.one;refine⟨a,ws,rfl,hl.sq,λi hi h0 af=>⟨i,a,ws,rfl,h0,Ah,?_,af,λb hb ae=>?_⟩⟩
  ·exact(LsR.same (S':=λ_=>True) (Aj hi _) (λ_ _=>trivial) hl).sq
  ·rw[kp1 hi];have B:H1 b=none:=by rw[Ad ae]at hb;exact hb
   exact q2 b _ _ _ rfl (G.trans (Aj B _)) (G.free B) Ah (((An.rev rr).avoid (G.free B |> λ_=>B)).mono (Aj B _) λ_ z=>z)
def jk7:∀z d,bA fs m7 z=.ok d->∃B,d=.lst B:=λz d h=>by
 refine Am (λxs _ h=>?_) (Bp h);have h:=of_ok h
 match xs,h with
 | [.lst C],h=>cases h;exact⟨_,rfl⟩
end
section
variable {fs:Ev->R (List D)}
theorem kc9:Dc X (.builtin "sorted") (rCF X.K Cq):=by
 rintro pins s σ H ys us Q I r ⟨S,ds,d,rs,e,q⟩
 match ds,e with
 | [x],e =>
  obtain⟨v,rfl,rx⟩:=rs.one;obtain⟨u,rfl,ru⟩:=vals1 r;have go:∀(xs:List D)(a:BK)(vs:List V)(its:List A_)(T:String)(o:FZ)(n:Nat),J3 x=some xs->(T = "list"\/T = "tuple")->u=.ref a->s.heap.get? a=some o->o.cls=.type T->o.data=.seq its.toArray n->Vals vs its->An X.K H S xs vs->vs.length<=sizeLine ->
    BL (BR X.prog X.w) X.A (call (.builtin "sorted") [u]) (EP X pins σ Q) X.xe s:=by
   intro xs a vs its T o n ex hT eu ho hc hd Y rr hz;subst eu;have hl:=Y.length;have aj:=rr.length;simp only[Cq,ex]at e;obtain⟨⟨ak,hk⟩,rfl⟩:=Bb e;refine Ow (G:=λF=>F=its) (yX hT ho hc hd (by rw[KJ];lia)) λF h' tk d' k g=>?_;subst g;have I1:Inv X pins σ H {s with heap:=h',drawn:=d',toks:=tk}:=O8 I k;have ab:∀(key:Nat->Xp.α),(∀i d,xs[i]? = some d->key i=keyOf d)->∀(pr:Array Nat)(h2:CP) af,V8 F.length pr->V9 key pr F.length->(∀b o,h'.get? b=some o->h2.get? b=some o)->(∃e,h2.get? h'.objs.size=some (HJ "list" (VB (pr.toList.map λi=>F.getD i .none)) e)) ->
     EP X pins σ Q (.ref h'.objs.size) {s with heap:=h2,drawn:=d',toks:=af}:=λkey B pr h2 af hp hs k2 e2=>by
    have en:F.length=xs.length:=by lia
    have:=Yo hk B (by rw[<-en];exact hp) (by rw[<-en];exact hs);exact Q8 I1 rr Y (by lia) hp k2 e2 λb ag H' s1 hb hv ah=>q b ag _ H' rfl s1 hb hv (by rw[<-this];exact ah)
   refine⟨by lia,?_⟩;by_cases h2:xs.length<2
   ·have ae:Asks (O:=Xp) X.prog X.w X.A.in1.in1 {s with heap:=h'.push (HJ "list" F.toArray 0),drawn:=d',toks:=tk} h'.objs.size F ZR (λi=>keyOf (xs.getD i .non)):=⟨λz=>by lia,λz=>by lia⟩;exact⟨_,_,ae,ab _ λi d hd=>by rw[NQ,hd];rfl⟩
   ·have C:=hk.resolve_left h2;unfold Dq at C;rw[ZW]at C;rcases C with C |C
    ·have⟨ns,e1,hn,B⟩:=yK C;exact⟨_,_,Ze (ints_of rr Y e1),ab _ B⟩
    ·have⟨ai,aa,B⟩:=vM I1 (a:=h'.objs.size) (FW _) C rr Y;exact⟨_,_,kc5 aa.push,ab _ B⟩
  cases x with
  |lst xs=>obtain⟨a,vs,rfl,ha,rr⟩:=rx;have⟨its,Y,pl,hz⟩:=I.list ha.sq;obtain⟨o,ho,hc,n,hd⟩:=pl.isList;exact go xs a vs its "list" o n rfl (.inl rfl) ru ho hc hd Y rr hz
  |tup xs=>obtain⟨a,vs,rfl,ha,rr⟩:=rx;have⟨its,Y,pl,hz⟩:=I.tuple (TpR.sq ha);obtain⟨o,ho,hc,n,hd⟩:=pl;exact go xs a vs its "tuple" o n rfl (.inr rfl) ru ho hc hd Y rr hz
  |_=>simp[Cq,J3]at e
theorem jp9(hc:X.calm=true):Dc X (.builtin "sorted") (yi3 X.K X.prog X.w):=by
 rintro pins s σ H ys us Q I r ⟨a,ns,e,ha,hn,q⟩;subst e;refine Am (λu ag ru=>?_) (vals1 r);obtain rfl:=ag;cases ru;refine bY (λaf _ _=>?_) (I.hok a _ ha);revert af;refine Am λo ho hD=>?_;refine Ow (G:=tR ns) (kl4 (A:=X.A.in1) (by simpa using I.ok.hd hc) ho hD) λws h' tk d' k g=>?_;revert g;refine Yw λz hi ah C _=>?_;have I1:Inv X pins σ H {s with heap:=h',drawn:=d',toks:=tk}:=O8 I k;have pm:z.Perm (M5 ns):=(cH ah (G8 ns)).mpr λk=>(C k).trans (Ew k ns).symm;have lm:z.length=ws.length:=(IntsAre.length hi).symm;have aj:ws.length<64:=by have h1:=pm.length_eq;have F:=yV ns;lia
 refine⟨by lia,_,_,Ze hi,λpr F ai hp hs k2 e2=>?_⟩;refine Q8 I1 (S:=λ_=>True) (La z) (Ji hi) (by rw[CQ];lia) hp k2 e2 λb aa H' s1 hb hv ab=>q b aa H' s1 hb hv λS=>?_;have ek:∀i d,(z.map D.int)[i]? = some d->[z.getD i 0]=keyOf d:=λi d B=>by
  rw[QX]at B;cases em:z[i]? with
  |none=>rw[em]at B;cases B
  |some m=>rw[em]at B;cases B;rw[NQ,em];rfl
 have en:(z.map D.int).length=ws.length:=by rw[HN,lm]
 have:=Yo (xs:=z.map D.int) (p:=pr) (key:=λi=>[z.getD i 0]) (.inr (Pa z)) ek (by rw[en];exact hp) (by rw[en];exact hs);have e3:d_ ns=pr.toList.map λi=>(z.map D.int).getD i .non:=by
  rw[this];unfold d_;rw[<-Ox (Pa _) (pm.map D.int)];by_cases F:(z.map D.int).length<2
  ·rw[if_pos F,Ud F]
  ·rw[if_neg F]
 rw[e3];refine R9 _ _ ?_ ab;have:∀Y:List D,(∀d∈Y,d.imm=true)->N8 Y=true:=λY=>by
  induction Y with
  |nil=>intro _;rfl
  |cons d Y ih=>intro h;rw[N8,h d LK,ih λx hx=>h x (JW _ hx)];rfl
 refine this _ λd B=>?_;refine Am (λi _ ae=>?_) (JF.mp B);obtain rfl:=ae;rw[NQ,QX];cases z[i]? <;> rfl
def jf5(hc:X.calm=true)(hm:X.mg "sorted" = none)(ab:X.mg "set" = none)(ha:PAd X c l (e::es) fs)(hg:Gl X "sorted":=by rfl)(ae:Gl X "set":=by rfl)(he:Zs X.env e es:=by rfl)
  (aa:Zp X.env r es:=by rfl)(Y:BP [.Call (.Name "set" I) (e::es) [] r] X.env=(false,CZ (.Call (.Name "set" I) (e::es) [] r) X.env)::BP [] X.env:=by rfl)(F:Zp X.env J []:=by rfl):
  PEf X c l (.Call (.Name "sorted" p) [.Call (.Name "set" I) (e::es) [] r] [] J) (bA fs Dn):=
 PE.imp (Oh (jp9 hc) hg hm PyProof.Rows.boot_sorted (Df (Dz (tO hc) ae ab PyProof.Rows.boot_set ha (by decide) (by decide) he aa) Ho Y) (by decide) (by decide) Y F) λσ H Q q=>by
 revert q;refine Bm λhs ρ E q=>?_;refine Ce E ((RQ.bind.mp q).mono (λds q1 vs H1 s1 E1 r1 hn=>?_) λ_ z=>z);refine Am (λd e' q2=>?_) (q1.of);unfold Dn at e';cases C:Jd ds with
 |none=>rw[C]at e';cases e'
 |some ns =>
  rw[C]at e';cases e';have G:ns.length<64:=by
   obtain⟨x',rfl⟩:=inv1 C rfl (λx _ _=>by cases x<;>rfl);cases x' with
   |lst xs =>
    have B:(if xs.length<64 then Ax xs else none)=some ns:=C;by_cases hz:xs.length<64
    ·rw[if_pos hz]at B;rw[Tw B];exact hz
    ·rw[if_neg hz]at B;cases B
   |_=>exact nos C
  refine⟨_,ds,ns,r1,C,λa ha=>⟨a,ns,rfl,Ah,G,λb ws H' s2 hb hv rr=>?_⟩⟩;have sn:=Aj (o:=HO.ext (Y7 X.prog X.w a ns)) ha;exact q2 b ws _ H' rfl ((s1.trans sn).trans s2) ((s1.trans sn).free hb) hv (rr _)
def jn7(hc:X.calm=true)(Y:X.mg "sorted" = none)(C:X.mg "set" = none)(ha:PAd X c l (e::es) fs)(hg:Gl X "sorted":=by rfl)(F:Gl X "set":=by rfl)(he:Zs X.env e es:=by rfl)
  (B:Zp X.env r es:=by rfl)(G:BP [.Call (.Name "set" I) (e::es) [] r] X.env=(false,CZ (.Call (.Name "set" I) (e::es) [] r) X.env)::BP [] X.env:=by rfl)(z:Zp X.env J []:=by rfl):
  PEd X c l (.Call (.Name "sorted" p) [.Call (.Name "set" I) (e::es) [] r] [] J) (bA fs Dn):=PEf.d (jf5 hc Y C ha hg F he B G z) λ_ _ h=>Y6 h
def Ov(B:X.mg "sorted" = none)(G:PAd X c l (e::es) fs)(C:Gl X "sorted":=by rfl)(F:Zs X.env e es:=by rfl)(z:Zp X.env J es:=by rfl):
  PEf X c l (.Call (.Name "sorted" p) (e::es) [] J) (bA fs Cq):=u6 kc9 PyProof.Rows.boot_sorted B G C (by decide) (by decide) F z
end
def Dw{N P:List BV}{sc:HR}(h1:sc.kind=.function:=by rfl)(Y:sc.isCoroutine=false:=by rfl)(G:sc.isGenerator=false:=by rfl)(F:N.Nodup:=by decide +kernel)(C:N.take P.length=P:=by rfl)(B:∀x∈P,sc.names.lookup x=some .local\/sc.names.lookup x=some .cell:=by decide +kernel)(z:∀y∈sc.names,y.2≠.free:=by decide +kernel):Ez N P sc:=⟨h1,Y,G,F,C,B,z⟩
def cU(K:B_)(T:BK)(tb:HO)(n:Nat)(m:List D->R D):Sp:=λvs H Q E=>H T=some tb/\sp1 K n m vs H Q E
def jZ(P:BZ)(w:CV)(K:B_)(mg:BV->Option A_)(base:CP)(T:BK)(tb:HO)(k:Nat)(x:BV)(ps:List BV)(n:Nat)(m:List D->R D):Prop:=
 ∃(f:BK)(fd:DQ),Hh P w K mg base (CXE P w) k f fd ps (cU K T tb n m)/\mg x=some (.ref f)/\W.keepIn K (.ref f)=true/\Binds K fd ps []
section
variable {P:BZ}{base:CP}{tb:HO}
theorem Ja{N ps:List BV}{O:List Nat}(F:Fun K x qual st f fd)(S:Ez N ps (Av st))(hO:O.all (λi=>decide (ps.length<=i))=true)
  (G:∀(B:A_)(A:DK)(outer:List JT)(s:BJ)(H:Hp)(E:XK)(S0:AS),H T=some tb->El k (A.deeper (envOfC qual (Av st) s.heap.objs.size f B))->(A.deeper (envOfC qual (Av st) s.heap.objs.size f B)).units+70<HX ->
   V6 (Vn (CXE P w) P w K mg base N qual (Av st) f B A outer s H E) ⟨H,S0,O,EX E,[]⟩ ->
   Vl (Vn (CXE P w) P w K mg base N qual (Av st) f B A outer s H E) ⟨H,S0,O,EX E,[]⟩ (Cp st) g):
  Hh P w K mg base (CXE P w) (k+1) f fd ps (cU K T tb ps.length (Ci N.length g)):=by
 obtain⟨oc,od,kV,af,pm,an,B,ct,ae,rfl,lk,aa⟩:=F.ex;refine j8 lk aa S (λvs H Q E h=>h.2.1) λA outer s H vs Q E hr h=>?_;obtain⟨hT,hl,S0,ds,r,q⟩:=h;refine⟨_,G B A outer s H E S0 hT hr (by have:=hr.un;lia) (λpins σ H1 s1 e s' I hx=>yg7 pins σ H1 s1 e s' I ?_),[],Ag N.length ds,Tq r (λi hi=>?_),?_⟩
 ·obtain⟨a,Y,e1,e2,d,v,rv,e3⟩:=hx;exact⟨a,Y,e1,e2,e3 _ rv⟩
 ·have:=RJ.mp hO i hi;rw[hl];exact of_decide_eq_true this
 ·have C:RQ (bV (g (Ag N.length ds))) _ _:=q;cases e:g (Ag N.length ds) with
  |ok fl =>
   rw[e]at C;cases fl with
   |nx ρ=>exact λab Y E'=>C .non Y E'.same rfl
   |rt d=>exact λv Y s r=>C v Y s (r.mono (Af.refl _) λo z=>z.elim .inl λ⟨a,e1,e2,_⟩=>.inr ⟨a,e1,e2⟩)
   |bk ρ=>exact C.elim
   |ct ρ=>exact C.elim
  |exc x=>rw[e]at C;exact λv Y s r u ru=>C v u Y s (r.mono (Af.refl _) λo z=>z.elim .inl λ⟨a,e1,e2,_⟩=>.inr ⟨a,e1,e2⟩) ru
  |bad=>rw[e]at C;exact C.elim
def Hz{ps:List BV}(P:BZ)(w:CV)(base:CP)(X:K.In h)(G:h.Ns PySem.mainGlobals mg)(I:FI K x st)(z:∀a fd,Fun K x x st a fd->Hh P w K mg base (CXE P w) k a fd ps (cU K T tb n m))
  (hb:∀(kV B Y:A_)(an:Option BK)(C ct:A_)(us:List A_),us.length=ps.length->O_ (W.fnOf x x (Es st) (Cp st) (Av st) .none kV B Y an C ct) ⟨us,[]⟩=pure (ps.zip us)):jZ P w K mg base T tb k x ps n m:=by
 revert I;refine Bo λf fd a F kp=>?_;exact⟨f,fd,z f fd F,W.mg_of X G a,kp,F.binds hb⟩
end
section
variable {fs:Ev->R (List D)}{B:JG}{f:BK}{ps:List BV}{m:List D->R D}{tb:HO}
def wb3(F:Hh X.prog X.w X.K X.mg X.base (CXE X.prog X.w) k f fd ps (cU X.K T tb n m))(hT:c.H0 T=some tb)(hp:V6 X c)(hr:El k X.A)(hm:X.mg x=some (.ref f))(hk:W.keepIn X.K (.ref f)=true)(hb:Binds X.K fd ps [])(ha:PAd X c l (e::es) fs)(hn:(e::es).length=n:=by rfl)(ae:ps.length=n:=by rfl)(hg:Gl X x:=by rfl)
  (ab:Zd x:=by decide)(he:Zs X.env e es:=by rfl)(aa:Zp X.env J es:=by rfl):
  PEd X c l (.Call (.Name x p) (e::es) [] J) (clX fs m):=PE.imp (pG F hr hg hm hk hb .nil hp ha ab he aa) λσ H Q q=>by
 revert q;refine Bm λhs ρ E q=>?_;refine Ce E ((RQ.bind.mp q).mono (λds q1 vs H1 C E1 r1 hl=>?_) λ_ z=>z);rw[WW];refine⟨C _ _ (E.same _ _ hT),?_,lvS c ρ σ H l,ds,r1,q1.mono (λd z v H' G Y=>z v H' (C.trans G) (Y.mono (Af.refl _) λ_ z=>Kl E C z)) λd z v u H' G Y ru=>⟨d,v,ru,z v H' (C.trans G) ?_⟩⟩
 ·rw[<-r1.length,hl,hn]
 ·exact Y.mono (Af.refl _) λ_ z=>Ph E (by cases l<;>rfl) (Kl E C z)
def kj6(F:Hh X.prog X.w X.K X.mg X.base (CXE X.prog X.w) k f fd ps (cU X.K T tb n m))(hT:c.H0 T=some tb)(hr:El k X.A)(hm:X.mg x=some (.ref f))(hk:W.keepIn X.K (.ref f)=true)(hb:Binds X.K fd ps [])(ha:PAd X.nox c .any (e::es) fs)(hn:(e::es).length=n:=by rfl)(af:ps.length=n:=by rfl)(hg:Gl X x:=by rfl)
  (ab:FJ (.Call (.Name x p) (e::es) [] J) none B.line X.env=pure false:=by rfl)
  (ah:Zd x:=by decide)(he:Zs X.env e es:=by rfl)(ag:Zp X.env J es:=by rfl):
  TB X c (.Expr (.Call (.Name x p) (e::es) [] J) B) (tbG fs m):=by
 intro pins s σ H hs ρ xe Q I E q;have⟨ds,ai,q⟩:=RQ.nox (RQ.bind.mp q);refine iZ (HB (Mf I hg hm ?_ ah)) I.quiet ab;refine W.callWith_K (h₀:=X.base) I.ok.mod.kin hk (D_ (ha J pins s σ H (λvs C=>Af H C/\An X.K C c.S ds vs/\ds.length=(e::es).length) (I.wish _) ⟨hs,ρ,E,by rw[ai];exact λvs C s1 r hl=>⟨s1,r,hl⟩⟩) (λus s1 hh=>?_) λ_ _ z=>z.elim) he ag;obtain⟨vs,C,aj,r,sm,rr,hl⟩:=hh;have I1:Inv X pins σ C s1:=aj.unwish;refine⟨I1.RN,?_⟩;have r2:Vals (vs++[]) (us++[]):=by rw[WW,WW];exact r
 have aa:us.length=ps.length:=by rw[<-r.length,<-rr.length,hl,hn,af]
 let EE:XK:=λu _ G=>∃d v,m ds=.exc d/\RelV v u/\Af C G/\Rep X.K G c.S d v;have E1:Az X.K c hs ρ σ C:=E.mono sm;have plus:∀o,AS.plus c.S C o->c.S o:=λo z=>by
  rcases z with z | ⟨a,rfl,z⟩
  ·exact z
  ·exact(E1.freshN ⟨a,rfl,z⟩).1
 have ae:cU X.K T tb n m vs C (λv G=>∃d,m ds=.ok d/\Af C G) EE:=by
  refine⟨E1.same _ _ hT,by rw[<-rr.length,hl,hn],c.S,ds,rr,?_⟩;cases em:m ds with
  |ok d=>exact λv G s2 r2=>⟨d,rfl,s2⟩
  |exc d=>exact λv u G s2 r2 ru=>⟨d,v,em,ru,s2,r2.mono (Af.refl _) plus⟩
  |bad=>rw[em]at q;exact q.elim
 refine JD (HD (F.run X.A X.stack s1 C ⟨us,[]⟩ us vs _ EE hr I1.env0 (by have:=hb s1 us I1.RN (by rw[WW];exact aa);rw[WW]at this;exact this) r ae) λrr s' hq=>?_);cases rr with
 |error ev =>
  obtain⟨a,G,rfl,FL,d,v,em,Y,s2,rp⟩:=hq;rw[em]at q;have ev:v=.ref a:=by
   cases v with
   |ref b=>have:Value.ref a=Value.ref b:=Y;cases this;rfl
   |int i=>obtain⟨t,z⟩:∃t,Value.ref a=Value.int i t:=Y;cases z
   |str i=>obtain⟨t,z⟩:∃t,Value.ref a=Value.str i t:=Y;cases z
   |byt i=>obtain⟨t,z⟩:∃t,Value.ref a=Value.bytes i t:=Y;cases z
   |flt i=>obtain⟨t,z⟩:∃t,Value.ref a=Value.float i t:=Y;cases z
   |non=>have z:Value.ref a=Value.none:=Y;cases z
   |bl b=>have z:Value.ref a=Value.bool b:=Y;cases z
   |ty b=>have z:Value.ref a=Value.type b:=Y;cases z
  subst ev;exact q a s1 C s' G I1 sm FL s2 rp
 |ok fl =>
  cases fl with
  |ret u=>have⟨v,G,I2,Y,d,em,s2⟩:=I1.after hq;rw[em]at q;exact q s' σ G I2 (E1.mono s2)
  |next=>exact hq.elim
  |brk=>exact hq.elim
  |cont=>exact hq.elim
def Gg(F:jZ X.prog X.w X.K X.mg X.base T tb k x ps n m)(hp:V6 X c)(hT:c.H0 T=some tb)(Y:El k X.A)(ha:PAd X c l (e::es) fs)(hn:(e::es).length=n:=by rfl)(z:ps.length=n:=by rfl)(hg:Gl X x:=by rfl)
  (G:Zd x:=by decide)(he:Zs X.env e es:=by rfl)(C:Zp X.env J es:=by rfl):
  PEd X c l (.Call (.Name x p) (e::es) [] J) (clX fs m):=by
 revert F;refine Vp λf fd F hm hk hb=>?_;exact wb3 F hT hp Y hm hk hb ha hn z hg G he C
def ky9(F:jZ X.prog X.w X.K X.mg X.base T tb k x ps n m)(hT:c.H0 T=some tb)(hr:El k X.A)(ha:PAd X.nox c .any (e::es) fs)(hn:(e::es).length=n:=by rfl)(C:ps.length=n:=by rfl)(hg:Gl X x:=by rfl)
  (z:FJ (.Call (.Name x p) (e::es) [] J) none B.line X.env=pure false:=by rfl)
  (Y:Zd x:=by decide)(he:Zs X.env e es:=by rfl)(G:Zp X.env J es:=by rfl):
  TB X c (.Expr (.Call (.Name x p) (e::es) [] J) B) (tbG fs m):=by
 revert F;refine Vp λf fd F hm hk hb=>?_;exact kj6 F hT hr hm hk hb ha hn C hg z Y he G
end
structure Bx where
 P:BZ
 w:CV
 K:B_
 mg:BV->Option A_
 base:CP
 T:BK
structure Wf(x:BV)(st:DR)(N k:Nat)(ps:List BV)(Y:Bx->Prop->Prop)(S:Nat->List BV->Bx->(List D->R D)->BK->DQ->Prop) where
 Ns:List BV
 sc:Ez Ns ps (Av st)
 g:Ev->R Fl
 ok:∀{b a fd},Ez Ns ps (Av st)->Fun b.K x x st a fd->Y b (S k ps b (Ci N g) a fd)
abbrev gO{v:Ev->R Fl}(_:g=v):Ev->R Fl:=g
variable {Y:Bx->Prop->Prop}
def Wf.at{N:Nat}{ps:List BV}{S:Nat->List BV->Bx->(List D->R D)->BK->DQ->Prop}(V:Wf x st N k ps Y S)(e:V.g=g){b:Bx}(F:Fun b.K x x st a fd):Y b (S k ps b (Ci N g) a fd):=e ▸ V.ok V.sc F
abbrev Wb{N:Nat}{ps:List BV}{S:Nat->List BV->Bx->(List D->R D)->BK->DQ->Prop}(_:Wf x st N k ps Y S)(F:Bx->Nat->BV->List BV->(List D->R D)->Prop)(m:List D->R D)(b:Bx):Prop:=F b k x ps m
abbrev Zc(x:BV)(b:Bx):Prop:=b.mg x=none
abbrev FB(b:Bx)(k:Nat)(x:BV)(ps:List BV)(m:List D->R D):Prop:=FnC b.P b.w b.K b.mg b.base k x ps ps.length m
abbrev FTB(tb:HO)(b:Bx)(k:Nat)(x:BV)(ps:List BV)(m:List D->R D):Prop:=FnT b.P b.w b.K b.mg b.base b.T tb k x ps ps.length m
abbrev FXT(tb:HO)(b:Bx)(k:Nat)(x:BV)(ps:List BV)(m:List D->R D):Prop:=jZ b.P b.w b.K b.mg b.base b.T tb k x ps ps.length m
abbrev So0(k:Nat)(ps:List BV)(b:Bx)(m:List D->R D)(a:BK)(fd:DQ):Prop:=Hh b.P b.w b.K b.mg b.base CX0 k a fd ps (sp0 b.K ps.length m)
abbrev St0(tb:HO)(k:Nat)(ps:List BV)(b:Bx)(m:List D->R D)(a:BK)(fd:DQ):Prop:=Hh b.P b.w b.K b.mg b.base CX0 k a fd ps (spT b.K b.T tb ps.length m)
abbrev aQ(tb:HO)(k:Nat)(ps:List BV)(b:Bx)(m:List D->R D)(a:BK)(fd:DQ):Prop:=Hh b.P b.w b.K b.mg b.base (CXE b.P b.w) k a fd ps (cU b.K b.T tb ps.length m)
end PD
namespace Gr
abbrev Ar:=List (Nat×Nat)
inductive Br(es:Ar):Nat->Nat->Prop
 |refl (i:Nat):Br es i i
 |tie {a b:Nat}:(a,b)∈es->Br es a b
 |symm {a b:Nat}:Br es a b->Br es b a
 |trans {a b c:Nat}:Br es a b->Br es b c->Br es a c
variable {es:Ar}{i j:Nat}
def Br.mono{fs:Ar}(h:∀e∈es,e∈fs)(c:Br es i j):Br fs i j:=by
 induction c with
 |refl i=>exact .refl i
 |tie m=>exact .tie (h _ m)
 |symm _ f=>exact f.symm
 |trans _ _ b a=>exact b.trans a
def Br.closed{P:Nat->Prop}(h:∀a b,(a,b)∈es->(P a↔P b))(c:Br es i j):P i↔P j:=by
 induction c with
 |refl i=>exact Iff.rfl
 |tie m=>exact h _ _ m
 |symm _ g=>exact g.symm
 |trans _ _ f e=>exact f.trans e
variable {a b:Nat}
def K1:Br (es++[(a,b)]) i j↔Br es i j\/(Br es i a/\Br es b j)\/(Br es i b/\Br es a j):=by
 have up:∀{x y},Br es x y->Br (es++[(a,b)]) x y:=λc=>c.mono λe r=>X_ _ r;have tie:Br (es++[(a,b)]) a b:=.tie (N_ _ (LR.mpr rfl));constructor
 ·intro c;induction c with
  |refl i=>exact .inl (.refl i)
  |tie m =>
   rcases NT.mp m with m |m
   ·exact .inl (.tie m)
   ·cases LR.mp m;exact .inr (.inl ⟨.refl _,.refl _⟩)
  |symm _ q =>
   rcases q with h | ⟨f,g⟩ | ⟨f,g⟩
   ·exact .inl h.symm
   ·exact .inr (.inr ⟨g.symm,f.symm⟩)
   ·exact .inr (.inl ⟨g.symm,f.symm⟩)
  |trans _ _ p o =>
   rcases p with h | ⟨f,g⟩ | ⟨f,g⟩<;>rcases o with k | ⟨n,l⟩ | ⟨n,l⟩
   ·exact .inl (h.trans k)
   ·exact .inr (.inl ⟨h.trans n,l⟩)
   ·exact .inr (.inr ⟨h.trans n,l⟩)
   ·exact .inr (.inl ⟨f,g.trans k⟩)
   ·exact .inr (.inl ⟨f,l⟩)
   ·exact .inl (f.trans l)
   ·exact .inr (.inr ⟨f,g.trans k⟩)
   ·exact .inl (f.trans l)
   ·exact .inr (.inr ⟨f,l⟩)
 ·rintro(h | ⟨f,g⟩ | ⟨f,g⟩)
  ·exact up h
  ·exact((up f).trans tie).trans (up g)
  ·exact((up f).trans tie.symm).trans (up g)
def Hb(l:List Nat)(x y:Nat):List Nat:=l.map λz=>if z=x\/z=y then min x y else z
def Cz(n:Nat)(es:Ar):List Nat:=es.foldl (λl e=>Hb l (l.getD e.1 0) (l.getD e.2 0)) (List.range n)
def lab(n:Nat)(es:Ar)(i:Nat):Nat:=(Cz n es).getD i 0
def Q3(n:Nat)(es:Ar):(Cz n es).length=n:=by
 unfold Cz;have:∀(es:Ar)(l:List Nat),(es.foldl (λl e=>Hb l (l.getD e.1 0) (l.getD e.2 0)) l).length=l.length:=by
  intro es;induction es with
  |nil=>intro l;rfl
  |cons e es c=>intro l;rw[iG,c];simp[Hb]
 rw[this,NZ]
def U6(n:Nat)(es:Ar)(e:Nat×Nat):Cz n (es++[e])=Hb (Cz n es) (lab n es e.1) (lab n es e.2):=by unfold Cz lab;rw[jHh];rfl
theorem Xl(n:Nat)(es:Ar)(a b i:Nat)(hi:i<n):lab n (es++[(a,b)]) i=if lab n es i=lab n es a\/lab n es i=lab n es b then min (lab n es a) (lab n es b) else lab n es i:=by
 have f:=Q3 n es;show(Cz n (es++[(a,b)])).getD i 0=_;rw[U6];have c:i<(Cz n es).length:=by lia
 unfold Hb;rw[NQ,QX,GJ c];have e:lab n es i=(Cz n es)[i]:=by unfold lab;rw[NQ,GJ c];rfl
 rw[e];rfl
def InW(n:Nat)(es:Ar):Prop:=∀e∈es,e.1<n/\e.2<n
structure Ug(n:Nat)(es:Ar)(L:Nat->Nat):Prop where
 le:∀i,i<n->L i<=i
 idem:∀i,i<n->L (L i)=L i
 conn:∀i j,i<n->j<n->(L i=L j↔Br es i j)
def Pg(n i:Nat)(hi:i<n):lab n [] i=i:=by unfold lab Cz;simp[hi]
def yW:Br [] i j↔i=j:=by
 constructor
 ·intro c;have:=Br.closed (es:=[]) (P:=λx=>x=i) (λa b h=>by cases h) c;exact(this.mp rfl).symm
 ·rintro rfl;exact .refl _
theorem Jt(n:Nat):∀es:Ar,InW n es->Ug n es (lab n es):=by
 have step:∀(es:Ar)(a b:Nat),a<n->b<n->Ug n es (lab n es)->Ug n (es++[(a,b)]) (lab n (es++[(a,b)])):=by
  intro es a b u r L;have C:=L.le a u;have B:=L.le b r;have A:=L.idem a u;have y:=L.idem b r;have s:=Xl n es a b;generalize I:lab n es=f at L C B A y s;generalize H:lab n (es++[(a,b)])=g at s;refine⟨λi c=>?_,λi c=>?_,λi j c o=>?_⟩
  ·rw[s i c];have:=L.le i c;split
   ·rename_i h;rcases h with h |h<;>lia
   ·exact this
  ·have G:g i<=i:=by
    rw[s i c];have:=L.le i c;split
    ·rename_i h;rcases h with h |h<;>lia
    ·exact this
   rw[s (g i) (by lia)];by_cases h:f i=f a\/f i=f b
   ·have e:g i=min (f a) (f b):=by rw[s i c,if_pos h]
    rw[e];have:f (min (f a) (f b))=min (f a) (f b):=by
     rcases e_ (f a) (f b) with z |z
     ·rw[dF z,A]
     ·rw[iJ z,y]
    rw[this];rw[if_pos];rcases e_ (f a) (f b) with z |z
    ·left;exact dF z
    ·right;exact iJ z
   ·have e:g i=f i:=by rw[s i c,if_neg h]
    rw[e,L.idem i c,if_neg h]
  ·rw[K1,<-L.conn i j c o,<-L.conn i a c u,<-L.conn b j r o,<-L.conn i b c r,<-L.conn a j u o,s i c,s j o];have J:min (f a) (f b)=f a\/min (f a) (f b)=f b:=by lia
   by_cases l:f i=f a\/f i=f b
   ·by_cases m:f j=f a\/f j=f b
    ·rw[if_pos l,if_pos m];constructor
     ·intro _;rcases l with l |l<;>rcases m with m |m
      ·left;lia
      ·right;left;lia
      ·right;right;lia
      ·left;lia
     ·intro _;rfl
    ·rw[if_pos l,if_neg m];constructor
     ·intro h;exfalso;apply m;lia
     ·intro h;exfalso;apply m;rcases h with h |h |h<;>lia
   ·by_cases m:f j=f a\/f j=f b
    ·rw[if_neg l,if_pos m];constructor
     ·intro h;exfalso;apply l;lia
     ·intro h;exfalso;apply l;rcases h with h |h |h<;>lia
    ·rw[if_neg l,if_neg m];constructor
     ·intro h;exact .inl h
     ·intro h;rcases h with h |h |h
      ·exact h
      ·exfalso;apply l;lia
      ·exfalso;apply l;lia
 intro es;have gen:∀k (es:Ar),es.length=k->InW n es->Ug n es (lab n es):=by
  intro k;induction k with
  |zero =>
   intro es q _;cases es with
   |nil=>exact⟨λi c=>by rw[Pg n i c];exact FW _,λi c=>by rw[Pg n i c,Pg n i c],λi j c o=>by rw[Pg n i c,Pg n j o,yW]⟩
   |cons _ _=>simp at q
  |succ k E =>
   intro es q v;rcases jGd es with rfl | ⟨w,e,rfl⟩
   ·simp at q
   ·rw[jGe]at q v ⊢;have p:w.length=k:=by simpa using q
    have:=v e (N_ _ (LR.mpr rfl));exact step w e.1 e.2 this.1 this.2 (E w p λx F=>v x (X_ _ F))
 exact gen _ es rfl
theorem Q0{n:Nat}{fs:Ar}{L M:Nat->Nat}(f:Ug n es L)(e:Ug n fs M)(h:∀i j,i<n->j<n->(Br es i j↔Br fs i j))(hi:i<n):L i=M i:=by
 have key:∀{es fs:Ar}{L M:Nat->Nat},Ug n es L->Ug n fs M->(∀i j,i<n->j<n->(Br es i j↔Br fs i j))->L i<=M i:=by intro es fs L M f e h;have g:=e.le i hi;have c:Br fs (M i) i:=(e.conn (M i) i (by lia) hi).mp (e.idem i hi);have:=(f.conn (M i) i (by lia) hi).mpr ((h _ _ (by lia) hi).mpr c);have l:=f.le (M i) (by lia);lia
 exact Nat.le_antisymm (key f e h) (key e f λi j a b=>(h i j a b).symm)
def kr6{n:Nat}{fs:Ar}(f:InW n es)(h:∀e,e∈es↔e∈fs)(hi:i<n):lab n es i=lab n fs i:=
 Q0 (Jt n es f) (Jt n fs λe z=>f e ((h e).mpr z)) (λi j _ _=>⟨λc=>c.mono λe z=>(h e).mp z,λc=>c.mono λe z=>(h e).mpr z⟩) hi
def Dl(n:Nat)(es:Ar):List Nat:=(List.range n).filter λi=>lab n es i=i
def cls(n:Nat)(es:Ar)(m:Nat):List Nat:=(List.range n).filter λi=>lab n es i=m
variable {m:Nat}
def Dj{n:Nat}:m∈Dl n es↔m<n/\lab n es m=m:=by simp[Dl]
def oN{n:Nat}(h:InW n es)(hi:i<n):lab n es i<n:=qQ ((Jt n es h).le i hi) hi
def Jc{n:Nat}(h:InW n es)(hi:i<n):lab n es i∈Dl n es:=Dj.mpr ⟨oN h hi,(Jt n es h).idem i hi⟩
def kh4{n:Nat}{fs:Ar}(f:InW n es)(h:∀e,e∈es↔e∈fs):Dl n es=Dl n fs:=by unfold Dl;apply iK;intro i c;rw[kr6 f h (KY.mp c)]
def Mj(n:Nat)(es:Ar):(Dl n es).Nodup:=List.Pairwise.filter _ iH
theorem kh6{n:Nat}(h:InW n es)(p:a<n)(o:b<n):(Dl n (es++[(a,b)])).length<=(Dl n es).length/\(Dl n es).length<=(Dl n (es++[(a,b)])).length+1:=by
 have L:=Jt n es h;have s:=Xl n es a b;have sub:∀i∈Dl n (es++[(a,b)]),i∈Dl n es:=λi g=>by
  have⟨f,c⟩:=Dj.mp g;refine Dj.mpr ⟨f,?_⟩;rw[s i f]at c;split at c
  ·have l:=L.idem a p;have k:=L.idem b o;rcases e_ (lab n es a) (lab n es b) with z |z
   ·rw[dF z]at c;rw[<-c];exact l
   ·rw[iJ z]at c;rw[<-c];exact k
  ·exact c
 have sup:∀i∈Dl n es,i∈max (lab n es a) (lab n es b)::Dl n (es++[(a,b)]):=λi g=>by
  have⟨f,c⟩:=Dj.mp g;by_cases e:i=max (lab n es a) (lab n es b)
  ·rw[e];exact LK ..
  ·refine JW _ (Dj.mpr ⟨f,?_⟩);rw[s i f,c];split
   ·lia
   ·rfl
 exact⟨List.Nodup.length_le_of_subset (Mj _ _) sub,by
  have:=List.Nodup.length_le_of_subset (Mj n es) sup;simpa using this⟩
def kh3{n:Nat}(h:InW n es)(p:a<n)(o:b<n)(c:Br es a b):Dl n (es++[(a,b)])=Dl n es:=by
 have q:InW n (es++[(a,b)]):=λe f=>by
  rcases NT.mp f with f |f
  ·exact h e f
  ·rw[LR.mp f];exact⟨p,o⟩
 unfold Dl;apply iK;intro i l;have:lab n (es++[(a,b)]) i=lab n es i:=Q0 (Jt n _ q) (Jt n es h) (λi j _ _=>by
  rw[K1];constructor
  ·rintro(z | ⟨k,g⟩ | ⟨k,g⟩)
   ·exact z
   ·exact(k.trans c).trans g
   ·exact(k.trans c.symm).trans g
  ·exact .inl) (KY.mp l)
 rw[this]
theorem kt1{n:Nat}(h:InW n es)(g:a<n)(f:b<n)(c:¬ Br es a b):(Dl n (es++[(a,b)])).length+1=(Dl n es).length:=by
 have v:=kh6 h g f;have L:=Jt n es h;have s:=Xl n es a b;have ne:lab n es a≠lab n es b:=λz=>c ((L.conn a b g f).mp z);have p:max (lab n es a) (lab n es b)∈Dl n es:=by
  rcases e_ (lab n es a) (lab n es b) with z |z
  ·rw[Nat.max_eq_right z];exact Jc h f
  ·rw[Nat.max_eq_left z];exact Jc h g
 have o:max (lab n es a) (lab n es b)∉Dl n (es++[(a,b)]):=λz=>by have⟨k,e⟩:=Dj.mp z;have⟨_,u⟩:=Dj.mp p;rw[s _ k,u]at e;rw[if_pos (by lia)]at e;lia
 have sub:∀i∈max (lab n es a) (lab n es b)::Dl n (es++[(a,b)]),i∈Dl n es:=λi l=>by
  rcases HY.mp l with rfl |l
  ·exact p
  ·have⟨k,e⟩:=Dj.mp l;refine Dj.mpr ⟨k,?_⟩;rw[s i k]at e;have r:=L.idem a g;have q:=L.idem b f;split at e
   ·rcases e_ (lab n es a) (lab n es b) with z |z
    ·rw[dF z]at e;rw[<-e];exact r
    ·rw[iJ z]at e;rw[<-e];exact q
   ·exact e
 have:=List.Nodup.length_le_of_subset (VF.mpr ⟨o,Mj n _⟩) sub;simp only[RB]at this;lia
def kl7{fs:Ar}(h:∀a b,(a,b)∈es->Br fs a b)(c:Br es i j):Br fs i j:=by
 induction c with
 |refl i=>exact .refl i
 |tie m=>exact h _ _ m
 |symm _ g=>exact g.symm
 |trans _ _ f e=>exact f.trans e
def kh5{n:Nat}{fs:Ar}(k:InW n es)(g:InW n fs)(h:∀e∈es,e∈fs)(l:∀a b,(a,b)∈fs->Br es a b):(Dl n fs).length=(Dl n es).length:=by
 have:Dl n fs=Dl n es:=by unfold Dl;apply iK;intro i f;have:lab n fs i=lab n es i:=Q0 (Jt n fs g) (Jt n es k) (λi j _ _=>⟨λc=>kl7 l c,λc=>c.mono h⟩) (KY.mp f);rw[this]
 rw[this]
def cc(n:Nat)(es:Ar):Nat:=(Dl n es).length
def pW{n:Nat}{fs:Ar}(c:InW n es)(h:∀e,e∈es↔e∈fs):cc n es=cc n fs:=by unfold cc;rw[kh4 c h]
def lK(n:Nat):cc n []=n:=by unfold cc Dl;rw[jGs.mpr (λi c=>by simp[Pg n i (KY.mp c)]),NZ]
variable {e:Nat×Nat}
def Xf{n:Nat}:InW n (e::es)↔(e.1<n/\e.2<n)/\InW n es:=
 ⟨λh=>⟨h e LK,λf c=>h f (JW _ c)⟩,λh f c=>(HY.mp c).elim (λz=>z ▸ h.1) (h.2 f)⟩
def xR{f:Nat×Nat}:f∈e::es↔f∈es++[e]:=by simp[or_comm]
def tL{n:Nat}(h:InW n ((a,b)::es))(c:Br es a b):cc n ((a,b)::es)=cc n es:=by have⟨⟨l,k⟩,g⟩:=Xf.mp h;rw[pW h (λf=>xR)];unfold cc;rw[kh3 g l k c]
def u0{n:Nat}(h:InW n ((a,b)::es))(c:¬ Br es a b):cc n ((a,b)::es)+1=cc n es:=by have⟨⟨l,k⟩,g⟩:=Xf.mp h;rw[pW h (λf=>xR)];exact kt1 g l k c
theorem jq1{n:Nat}(h:InW n (e::es)):cc n (e::es)<=cc n es/\cc n es<=cc n (e::es)+1:=by
 obtain⟨a,b⟩:=e;by_cases c:Br es a b
 ·rw[tL h c];lia
 ·have:=u0 h c;lia
theorem tM(n:Nat):∀es:Ar,InW n es->n<=es.length+cc n es
 | [],_=>by rw[lK];simp
 |e::es,h=>by have f:=tM n es (Xf.mp h).2;have c:=jq1 h;rw[RB];lia
abbrev Tr:=Int×Int×Int
abbrev Kv:=(Int×Int)×Int
def look:List Kv->Int×Int->Int
 | [],_=>0
 |p::r,k=>if p.1=k then p.2 else look r k
def put:List Kv->Int×Int->Int->List Kv
 | [],k,v=>[(k,v)]
 |p::r,k,v=>if p.1=k then(p.1,v)::r else p::put r k v
def step(l:List Kv)(r:Tr):List Kv:=put l (r.1,r.2.1) (look l (r.1,r.2.1)+r.2.2)
def acc(l:List Kv)(c:List Tr):List Kv:=c.foldl step l
def X3{k:Int×Int}{v:Int}:∀{l:List Kv}{q:Int×Int},q∈(put l k v).map (·.1)↔q∈l.map (·.1)\/q=k
 | [],q=>by simp[put]
 |p::r,q=>by
  by_cases h:p.1=k
  ·simp only[put,if_pos h,NP,HY];exact⟨λz=>.inl z,λz=>z.elim id λz=>.inl (z.trans h.symm)⟩
  ·simp only[put,if_neg h,NP,HY,X3 (l:=r)];exact⟨λz=>z.elim (λz=>.inl (.inl z)) λz=>z.elim (λz=>.inl (.inr z)) .inr,λz=>z.elim (λz=>z.elim .inl λz=>.inr (.inl z)) λz=>.inr (.inr z)⟩
def Z7{k:Int×Int}{v:Int}:∀{l:List Kv},(l.map (·.1)).Nodup->((put l k v).map (·.1)).Nodup
 | [],_=>by simp[put]
 |p::r,h=>by
  rw[NP,VF]at h;by_cases c:p.1=k
  ·simp only[put,if_pos c,NP,VF];exact h
  ·simp only[put,if_neg c,NP,VF];exact⟨λz=>(X3.mp z).elim h.1 c,Z7 h.2⟩
def Zb:∀(c:List Tr){l:List Kv},(l.map (·.1)).Nodup->((acc l c).map (·.1)).Nodup
 | [],_,h=>h
 |r::c,l,h=>Zb c (l:=step l r) (Z7 h)
def zL:∀(c:List Tr){l:List Kv}{q:Int×Int},q∈(acc l c).map (·.1)->q∈l.map (·.1)\/∃r∈c,q=(r.1,r.2.1)
 | [],_,_,h=>.inl h
 |r::c,l,q,h=>by
  rcases zL c (l:=step l r) h with z | ⟨s,f,e⟩
  ·rcases X3.mp z with z |z
   ·exact .inl z
   ·exact .inr ⟨r,LK,z⟩
  ·exact .inr ⟨s,JW _ f,e⟩
def kZ:List (Int×Int):=(List.range 10).flatMap λ(i:Nat)=>(List.range (10 - i)).map λ(j:Nat)=>((i:Int),(j:Int))
def kc4:kZ.length=55:=by decide
theorem kh1{q:Int×Int}(f:0<=q.1)(c:0<=q.2)(g:q.1+q.2<=9):q∈kZ:=by unfold kZ;rw[List.mem_flatMap];refine⟨q.1.toNat,KY.mpr (by lia),JF.mpr ⟨q.2.toNat,KY.mpr (by lia),?_⟩⟩;rw[fK f,fK c]
theorem Pk{c:Type}[DecidableEq c]:∀{l m:List c},l.Nodup->(∀x∈l,x∈m)->l.length<=m.length
 | [],m,_,_=>U_ _
 |a::l,m,h,g=>by have⟨o,n⟩:=VF.mp h;have k:=g a LK;have:=Pk (l:=l) (m:=m.erase a) n λx f=>(jGm (λ(z:x=a)=>o (z ▸ f))).mpr (g x (JW _ f));rw[jFp k]at this;have p:0<m.length:=jFw k;rw[RB];lia
def few{l:List Kv}(g:(l.map (·.1)).Nodup)(h:∀p∈l,0<=p.1.1/\0<=p.1.2/\p.1.1+p.1.2<=9):l.length<=55:=by
 have:=Pk g (m:=kZ) λq f=>by obtain⟨p,c,rfl⟩:=JF.mp f;exact kh1 (h p c).1 (h p c).2.1 (h p c).2.2
 rw[HN,kc4]at this;exact this
def rowOf(p:Kv):Tr:=(p.1.1,p.1.2,p.2)
def kept(c:List Tr):List Tr:=((acc [] c).filter λp=>decide (p.2≠0)).map rowOf
def wa1{c:List Tr}(h:∀r∈c,0<=r.1/\0<=r.2.1/\r.1+r.2.1<=9):(acc [] c).length<=55:=
 Gr.few (Zb c (by simp)) λp g=>by
  rcases zL c (l:=[]) (JF.mpr ⟨p,g,rfl⟩) with z | ⟨s,f,e⟩
  ·simp at z
  ·rw[e];exact h s f
def b_(n:Nat)(es:Ar)(M:List Nat):Prop:=M.length=n/\∀i j,i<n->j<n->(M.getD i 0=M.getD j 0↔Br es i j)
variable {M:List Nat}
def getD_map{f:Nat->Nat}(h:i<M.length):(M.map f).getD i 0=f (M.getD i 0):=by simp[NQ,h]
def wt9(n:Nat):b_ n [] (List.range n):=by refine⟨NZ,λi j f c=>?_⟩;rw[yW];simp[NQ,f,c]
theorem wg5{n:Nat}(h:b_ n es M)(k:a<n)(g:b<n):b_ n (es++[(a,b)]) (M.map λz=>if z=M.getD a 0 then M.getD b 0 else z):=by refine⟨by rw[HN];exact h.1,λi j f c=>?_⟩;rw[K1,<-h.2 i j f c,<-h.2 i a f k,<-h.2 b j g c,<-h.2 i b f g,<-h.2 a j k c,getD_map (by rw[h.1];exact f),getD_map (by rw[h.1];exact c)];split<;>split<;>lia
def ke0:Br (es++[(a,b)]) i j↔Br (es++[(b,a)]) i j:=by rw[K1,K1];exact⟨λz=>z.elim .inl λz=>.inr z.symm,λz=>z.elim .inl λz=>.inr z.symm⟩
def wg3{n:Nat}(h:b_ n (es++[(a,b)]) M):b_ n (es++[(b,a)]) M:=⟨h.1,λi j f c=>(h.2 i j f c).trans ke0⟩
def kt2{n:Nat}{L:List Nat}(g:InW n es)(h:b_ n es M)(w:L.Nodup)(B:∀z,z∈L↔z∈M):L.length=cc n es:=by
 have l:=Jt n es g;have mem:∀i,i<n->M.getD i 0∈M:=λi k=>by rw[NQ,GJ (by rw[h.1];exact k)];exact RG _
 have p:L.Perm ((Dl n es).map λm=>M.getD m 0):=by
  refine(cH w ?_).mpr λz=>?_
  ·unfold List.Nodup;rw[cC];refine List.Pairwise.imp_of_mem (λ{x y} v u o z=>o ?_) (Mj n es);have⟨r,E⟩:=Dj.mp v;have⟨q,C⟩:=Dj.mp u;have c:=(h.2 x y r q).mp z;rw[<-E,<-C];exact(l.conn x y r q).mpr c
  ·rw[B,JF];constructor
   ·intro s;have⟨i,k,e⟩:=List.getElem_of_mem s;have f:i<n:=by rw[<-h.1];exact k
    refine⟨lab n es i,Jc g f,?_⟩;have c:Br es (lab n es i) i:=(l.conn _ _ (oN g f) f).mp (l.idem i f);rw[(h.2 _ _ (oN g f) f).mpr c,NQ,GJ k];exact e
   ·rintro⟨m,A,rfl⟩;exact mem m (Dj.mp A).1
 rw[p.length_eq,HN];rfl
def u5(n:Nat)(ts:Ar):cc n ts<=n:=by unfold cc Dl;have:=TF (λi=>decide (lab n ts i=i)) (List.range n);rw[NZ]at this;exact this
def bits(m k:Nat):List Nat:=(List.range m).filter λt=>decide (k / 2 ^ t % 2=1)
variable {k:Nat}
def wa9(h:k<2 ^ m):bits (m+1) k=bits m k:=by unfold bits;rw[lV,jGy,iV (by simp[z8 h]),List.filter_nil,WW]
theorem wa8(h:k<2 ^ m):bits (m+1) (2 ^ m+k)=bits m k++[m]:=by
 unfold bits;rw[lV,jGy];congr 1
 ·refine iK λt c=>?_;rw[KY]at c;rw[decide_eq_decide];have e:2 ^ m=2 ^ t * (2 * 2 ^ (m - t - 1)):=by rw[<-Nat.mul_assoc,<-Nat.pow_succ,<-Nat.pow_add];congr 1;lia
  rw[e,Nat.mul_add_div (zX t)];lia
 ·rw[iU]
  ·rfl
  ·have:(2 ^ m+k) / 2 ^ m=1:=by rw[Nat.add_div_left _ (zX m),z8 h]
   simp[this]
def Bj(ts:Ar)(s:List Nat):Ar:=s.map λk=>ts.getD k (0,0)
variable {ts:Ar}{n:Nat}
def cN(n:Nat)(ts:Ar)(s:List Nat):Nat:=cc n (Bj ts s)
def Kn(ts:Ar)(s:List Nat):Prop:=∀k∈s,k<ts.length
variable {s:List Nat}
def j7(c:InW n ts)(h:Kn ts s):InW n (Bj ts s):=λe g=>by obtain⟨k,f,rfl⟩:=JF.mp g;rw[NQ,GJ (h k f),WD];exact c _ (RG _)
variable {r:List Nat}
def R8(h:∀k∈s,k∈r):∀e∈Bj ts s,e∈Bj ts r:=λe f=>by obtain⟨k,c,rfl⟩:=JF.mp f;exact JF.mpr ⟨k,h k c,rfl⟩
def O6(f:InW n ts)(g:Kn ts s)(h:∀k,k∈s↔k∈r):cN n ts s=cN n ts r:=
 pW (j7 f g) λe=>⟨R8 (λk c=>(h k).mp c) e,R8 (λk c=>(h k).mpr c) e⟩
def ya5(c:InW n ts)(h:Kn ts s):n<=s.length+cN n ts s:=by have:=tM n (Bj ts s) (j7 c h);unfold Bj at this;rw[HN]at this;exact this
def eN(ts:Ar)(k:Nat):Nat×Nat:=ts.getD k (0,0)
def Vx(g:InW n ts)(h:Kn ts (k::s)):(Br (Bj ts s) (eN ts k).1 (eN ts k).2->cN n ts (k::s)=cN n ts s)/\(¬ Br (Bj ts s) (eN ts k).1 (eN ts k).2->cN n ts (k::s)+1=cN n ts s):=by have f:=j7 g h;exact⟨λc=>tL (a:=(eN ts k).1) (b:=(eN ts k).2) f c,λc=>u0 (a:=(eN ts k).1) (b:=(eN ts k).2) f c⟩
def Fr(n:Nat)(ts:Ar)(s:List Nat):Prop:=s.length+cN n ts s=n
def wo(s:List Nat)(k:Nat):List Nat:=s.filter λx=>decide (x≠k)
def Hn{x:Nat}:x∈wo s k↔x∈s/\x≠k:=by unfold wo;rw[QD,decide_eq_true_iff]
def oJ(c:s.Nodup)(h:k∈s):(wo s k).length+1=s.length:=by
 induction s with
 |nil=>exact absurd h l_
 |cons a s f =>
  rw[VF]at c;unfold wo at f ⊢;by_cases z:a=k
  ·subst z;have e:s.filter (λx=>decide (x≠a))=s:=jGs.mpr λx g=>decide_eq_true (p:=x≠a) λe=>c.1 (by rw[<-e];exact g);rw[iV (by simp),e];rfl
  ·rw[iU (by simpa using z),RB,RB,f c.2 ((HY.mp h).resolve_left λe=>z e.symm)]
theorem tB(p:InW n ts)(u:Kn ts s)(v:s.Nodup)(q:k∈s)(h:Fr n ts s):Fr n ts (wo s k)/\¬ Br (Bj ts (wo s k)) (eN ts k).1 (eN ts k).2:=by
 have y:=oJ v q;have l:Kn ts (wo s k):=λx f=>u x (Hn.mp f).1;have o:Kn ts (k::wo s k):=λx f=>by
  rcases HY.mp f with rfl |f
  ·exact u x q
  ·exact l x f
 have e:cN n ts (k::wo s k)=cN n ts s:=O6 p o λx=>by
  rw[HY,Hn];constructor
  ·rintro(rfl |z)
   ·exact q
   ·exact z.1
  ·intro z;by_cases w:x=k
   ·exact .inl w
   ·exact .inr ⟨z,w⟩
 have g:=ya5 p l;have c:=Vx p o;unfold Fr at *;by_cases z:Br (Bj ts (wo s k)) (eN ts k).1 (eN ts k).2
 ·have:=c.1 z;lia
 ·have:=c.2 z;exact⟨by lia,z⟩
structure dC(n:Nat)(ts:Ar)(F:List Nat):Prop where
 kn:Kn ts F
 nd:F.Nodup
 fr:Fr n ts F
 sp:cN n ts F=cc n ts
def Swp(n:Nat)(ts:Ar)(F:List Nat)(f t:Nat):Prop:=cN n ts (t::wo F f)+F.length=n
variable {f:Nat}{F:List Nat}
theorem vD(o:InW n ts)(h:dC n ts F){t:Nat}(p:f∈F)(ht:t<ts.length):Swp n ts F f t↔¬ Br (Bj ts (wo F f)) (eN ts t).1 (eN ts t).2:=by
 have g:=tB o h.kn h.nd p h.fr;have v:=oJ h.nd p;have q:Kn ts (t::wo F f):=λx l=>by
  rcases HY.mp l with rfl |l
  ·exact ht
  ·exact h.kn x (Hn.mp l).1
 have c:=Vx o q;have u:=g.1;unfold Swp;unfold Fr at u;constructor
 ·intro e z;have:=c.1 z;lia
 ·intro z;have:=c.2 z;lia
def wb8(c:InW n ts)(h:dC n ts F){o:Nat}(l:f∈F)(g:o<ts.length):(o∉wo F f/\Swp n ts F f o)↔¬ Br (Bj ts (wo F f)) (eN ts o).1 (eN ts o).2:=by rw[vD c h l g];exact⟨λz=>z.2,λz=>⟨λw=>z (.tie (JF.mpr ⟨o,w,rfl⟩)),z⟩⟩
theorem wo6{c:Type}{l m:List c}(q:l.Nodup)(p:∀x∈l,x∈m)(u:m.length<=l.length):∀x∈m,x∈l:=λx o=>by refine iW λh=>?_;have:=List.Nodup.length_le_of_subset (l₁:=x::l) (l₂:=m) (VF.mpr ⟨h,q⟩) λy g=>(HY.mp g).elim (λz=>z ▸ o) (p y);rw[RB]at this;lia
structure Ej(n:Nat)(σ:List Nat):Prop where
 len:σ.length=n
 nd:σ.Nodup
 lt:∀x∈σ,x<n
def Ej.all{c:List Nat}(h:Ej n c):∀j,j<n->j∈c:=λj l =>
 wo6 h.nd (m:=List.range n) (λx g=>KY.mpr (h.lt x g)) (by rw[NZ,h.len];exact FW _) j (KY.mpr l)
open Classical in
def stp(ts:Ar)(G:List Nat)(t:Nat):List Nat:=if Br (Bj ts G) (eN ts t).1 (eN ts t).2 then G else G++[t]
variable {G:List Nat}
def tY{t:Nat}(h:Br (Bj ts G) (eN ts t).1 (eN ts t).2):stp ts G t=G:=by unfold stp;rw[if_pos h]
def vG{t:Nat}(h:¬ Br (Bj ts G) (eN ts t).1 (eN ts t).2):stp ts G t=G++[t]:=by unfold stp;rw[if_neg h]
theorem wL(p:InW n ts){t:Nat}(q:Kn ts G)(ht:t<ts.length)(u:Fr n ts G)(h:¬ Br (Bj ts G) (eN ts t).1 (eN ts t).2):Fr n ts (G++[t]):=by
 have o:Kn ts (t::G):=λx g=>by
  rcases HY.mp g with rfl |g
  ·exact ht
  ·exact q x g
 have e:=O6 (n:=n) p (r:=t::G) (s:=G++[t]) (λk l=>by
  rcases NT.mp l with z |z
  ·exact q k z
  ·rw[LR.mp z];exact ht) λk=>by simp[or_comm]
 have c:=(Vx p o).2 h;unfold Fr at u ⊢;rw[PB,e];simp;lia
def Rv(H:InW n ts){bef:Nat->Nat->Prop}:∀(l G:List Nat),Kn ts G->G.Nodup->Fr n ts G->(∀k∈l,k<ts.length)->l.Nodup->(∀k∈l,k∉G)->l.Pairwise bef->(∀g∈G,∀t∈l,bef g t) ->
  (Kn ts (l.foldl (stp ts) G)/\(l.foldl (stp ts) G).Nodup/\Fr n ts (l.foldl (stp ts) G))/\(∀g∈G,g∈l.foldl (stp ts) G)/\(∀k∈l.foldl (stp ts) G,k∈G\/k∈l) /\
   ∀t∈l,t∉l.foldl (stp ts) G->∃S:List Nat,(∀k∈S,k∈l.foldl (stp ts) G/\bef k t)/\Br (Bj ts S) (eN ts t).1 (eN ts t).2
 | [],G,v,x,w,_,_,_,_,_=>⟨⟨v,x,w⟩,λg z=>z,λk z=>.inl z,λt z=>by cases z⟩
 |t::l,G,v,x,w,K,nd,L,P,u=>by
  have J:=VF.mp nd;have I:=jGw.mp P;have O:=K t LK;rw[iG];by_cases c:Br (Bj ts G) (eN ts t).1 (eN ts t).2
  ·rw[tY c];obtain⟨E,q,C,B⟩:=Rv H l G v x w (λk h=>K k (JW _ h)) J.2 (λk h=>L k (JW _ h)) I.2 λg p k h=>u g p k (JW _ h);refine⟨E,q,λk h=>(C k h).imp id (JW _),λk h o=>?_⟩;rcases HY.mp h with rfl |h
   ·exact⟨G,λg p=>⟨q g p,u g p k LK⟩,c⟩
   ·exact B k h o
  ·rw[vG c];have A:Kn ts (G++[t]):=λk h=>by
    rcases NT.mp h with z |z
    ·exact v k z
    ·rw[LR.mp z];exact O
   have y:(G++[t]).Nodup:=by rw[fG];exact⟨x,by simp,λa Q b u e=>L t LK (by rw[<-LR.mp u,<-e];exact Q)⟩
   obtain⟨E,q,C,B⟩:=Rv H l (G++[t]) A y (wL H v O w c) (λk h=>K k (JW _ h)) J.2 (λk h z=>by
    rcases NT.mp z with z |z
    ·exact L k (JW _ h) z
    ·rw[LR.mp z]at h;exact J.1 h) I.2 (λg p k h=>by
    rcases NT.mp p with z |z
    ·exact u g z k (JW _ h)
    ·rw[LR.mp z];exact I.1 k h)
   refine⟨E,λg p=>q g (X_ _ p),λk h=>?_,λk h o=>?_⟩
   ·rcases C k h with z |z
    ·rcases NT.mp z with z |z
     ·exact .inl z
     ·exact .inr (by rw[LR.mp z];exact LK)
    ·exact .inr (JW _ z)
   ·rcases HY.mp h with rfl |h
    ·exact absurd (q k (N_ _ (LR.mpr rfl))) o
    ·exact B k h o
def wq4(c:k<ts.length){S:List Nat}(h:k∈S):Br (Bj ts S) (eN ts k).1 (eN ts k).2:=.tie (JF.mpr ⟨k,h,rfl⟩)
theorem kp0(p:InW n ts){bef:Nat->Nat->Prop}{l:List Nat}(O:∀k∈l,k<ts.length)(nd:l.Nodup)(pw:l.Pairwise bef)(C:∀k,k<ts.length->k∈l):
  dC n ts (l.foldl (stp ts) [])/\∀t,t<ts.length->t∉l.foldl (stp ts) []->∀f∈l.foldl (stp ts) [],Swp n ts (l.foldl (stp ts) []) f t->bef f t:=by
 have T:Fr n ts []:=by unfold Fr cN Bj;rw[eZ,lK];simp
 have⟨⟨u,J,I⟩,_,_,y⟩:=Rv p l [] (λk o=>by cases o) iB T O nd (λk _ z=>by cases z) pw (λg P=>by cases P);generalize l.foldl (stp ts) []=F at *;have U:∀k,k<ts.length->Br (Bj ts F) (eN ts k).1 (eN ts k).2:=λk o=>by
  by_cases h:k∈F
  ·exact wq4 o h
  ·have⟨S,q,c⟩:=y k (C k o) h;exact c.mono (R8 λx K=>(q x K).1)
 have B:dC n ts F:=⟨u,J,I,by
  unfold cN cc;refine(kh5 (j7 p u) p (λe w=>?_) λa b w=>?_).symm
  ·obtain⟨k,o,rfl⟩:=JF.mp w;rw[NQ,GJ (u k o),WD];exact RG _
  ·have⟨k,o,e⟩:=YZ.mp w;have:=U k o;unfold eN at this;rw[NQ,GJ o,WD,e]at this;exact this⟩
 refine⟨B,λt A v f Q L=>?_⟩;have⟨S,q,c⟩:=y t (C t A) v;have E:=(vD p B Q A).mp L;refine iW λH=>E (c.mono (R8 λk o=>Hn.mpr ⟨(q k o).1,λe=>?_⟩));subst e;exact H (q k o).2
def bef(A:List Nat)(p:Nat->Nat)(f t:Nat):Prop:=(f∈A/\(t∉A\/p t<p f))\/(f∉A/\t∉A/\p f<p t)
end Gr
namespace Law
open PySem L2 PD
def top(i:Nat):DR:=PySem.Challenge.pw_tietable_k26_no_forest_no_order.main.body.getD i (.Pass ⟨0,0,0,0⟩)
abbrev G3:HO:=tbK ⟨130,25,0,0⟩ (("first_of" : BV) ++ ".<locals>." ++ "<lambda>")
def yb2(s:DR)(i:Nat):DR:=match s with
 | .ClassDef _ _ _ b _ _ _ _ _ _ _=>b.getD i (.Pass ⟨0,0,0,0⟩)
 |_=>.Pass ⟨0,0,0,0⟩
abbrev Va:DR:=top 46
def J5:Wf "_law_cell" Va 2 1 ["_law_script","_law_k"] (λb q=>Zc "len" b->q) So0:=⟨["_law_script","_law_k"],Dw,_,λS F a =>
  Ef (O:=[]) F S (by decide) λe A c s H E h g f =>
  have nd:=S.nd
  (sc (if_ (tlt (nv 1) (u1 (PEd.sc (Ku a (ac (nv 0) an)) (Dm Bw)))) (s1 (Cj (u3 (ix (nv 0) (nv 1))))) sn)
  (s1 (Cj (u2 ki))))⟩
def Uv:Ev->R Fl:=gO (v:=J5.g) (by dsimp [J5])
def Uq:List D->R D:=Ci 2 Uv
abbrev Yb:DR:=top 47
abbrev Uh:=Wb J5 FB Uq
def Li:Wf "_law_row" Yb 8 2 ["_law_script","_law_at","_law_sizes"] (λb q=>Zc "len" b->Zc "range" b->Uh b->q) So0:=⟨["_law_script","_law_at","_law_sizes","_law_cell_here","_law_great","_law_found","_law_k","_law_x"],Dw,_,λS F e c a =>
  Ef (O:=[5]) F S (by decide) λh A f s H E j g i =>
  have nd:=S.nd
  (sc (Dk 3 nd (callC a (g.mono (by decide)) (ac (nv 0) (ac (nv 1) an))))
  (sc (Dk 4 nd (u1 (vor (PEd.sc (lt_ (nv 3) (u1 ki)) (Di we1)) (v1 (PEd.sc (ge_ (nv 3) (u1 (pow ki ki))) (Di wd8))))))
  (sc (j6 5 nd (PEf.up (l:=.fr) (l':=.no) (cV an)))
  (sc (for_ PassesOwn.never rfl (tn 6 nd) (PId.up (l:=.fr) (l':=.no) (U5 c (ac (PEd.sc (Ku e (ac (nv 2) an)) (Dm Bw)) an))) (s1 (if_ (tst (nv 4)) (sc (jO 5 (u1 (PEd.sc (mod (nv 3) (ix (nv 2) (nv 6))) (Di yL))))
  (s1 (Dk 3 nd (u1 (PEd.sc (fdiv (nv 3) (ix (nv 2) (nv 6))) (Di kf5)))))) (sc (Dk 7 nd (Ei (Ei (nv 3) (u1 (PEd.sc (mul (u1 ki) (nv 6)) (Di En)))) (u1 (PEd.sc (mul (u1 ki) (nv 1)) (Di En)))))
  (sc (Dk 7 nd (u1 (mod (Ei (PEd.sc (mul (nv 7) (nv 7)) (Di En)) (PEd.sc (mul (u1 ki) (nv 7)) (Di En))) ki)))
  (s1 (jO 5 (u1 (PEd.sc (mod (u1 (fdiv (mod (Ei (PEd.sc (mul (nv 7) (nv 7)) (Di En)) (PEd.sc (mul (u1 ki) (nv 7)) (Di En))) ki) ki)) (ix (nv 2) (nv 6))) (Di yL))))))))))
  (s1 (Cj (av 5)))))))⟩
def W3:Ev->R Fl:=gO (v:=Li.g) (by dsimp [Li])
def Fj:List D->R D:=Ci 8 W3
abbrev Yc:DR:=top 48
abbrev Jk:=Wb Li FB Fj
def Lj:Wf "_law_web" Yc 9 3 ["_law_script","_law_at","_law_points","_law_ties"] (λb q=>Zc "max" b->Zc "min" b->Zc "range" b->Zc "tuple" b->Jk b->q) So0:=⟨["_law_script","_law_at","_law_points","_law_ties","_law_many","_law_size","_law_ends","_law_found","_law_k"],Dw,_,λS F g f e c a =>
  Ef (O:=[7]) F S (by decide) λj A h s H E m i k =>
  have nd:=S.nd
  (sc (j5 (tT rfl (tsc 4 nd (tsc 5 nd tsn))) (callC a (i.mono (by decide)) (ac (nv 0) (ac (nv 1) (ac (lst (ac (nv 2) (ac (Ei (nv 3) (u1 ki)) an))) an)))))
  (sc (Dk 6 nd (callC a (i.mono (by decide)) (ac (nv 0) (ac (Ei (nv 1) (u1 ki)) (ac (rep (cV (ac (Ei (nv 4) (u1 ki)) an)) (u1 (PEd.sc (mul (u1 ki) (nv 5)) (Di En)))) an)))))
  (sc (j6 7 nd (PEf.up (l:=.fr) (l':=.no) (cV an)))
  (sc (for_ PassesOwn.never rfl (tn 8 nd) (U5 e (ac (nv 5) an)) (s1 (jO 7 (u1 (tup (ac (PEd.sc (ye7 rfl f (ac (t6 (nv 6) (ps (PEd.sc (mul (u1 ki) (nv 8)) (Di En))) (ps (Ei (PEd.sc (mul (u1 ki) (nv 8)) (Di En)) ki))) an)) (Dm kp9)) (ac (PEd.sc (ye6 rfl g (ac (t6 (nv 6) (ps (PEd.sc (mul (u1 ki) (nv 8)) (Di En))) (ps (Ei (PEd.sc (mul (u1 ki) (nv 8)) (Di En)) ki))) an)) (Dm kp8)) an)))))))
  (s1 (Cj (tup (ac (u3 (Ei (nv 4) (u1 ki))) (ac (Hc c (ac (av 7) an)) an)))))))))⟩
def W4:Ev->R Fl:=gO (v:=Lj.g) (by dsimp [Lj])
def Qq:List D->R D:=Ci 9 W4
abbrev Sw:DR:=top 52
def Hx:Wf "_law_order" Sw 6 3 ["_law_script","_law_at","_law_many"] (λb q=>Zc "range" b->Jk b->q) So0:=⟨["_law_script","_law_at","_law_many","_law_order_here","_law_spots","_law_k"],Dw,_,λS F a c =>
  Ef (O:=[3]) F S (by decide) λn A h s H E p m o =>
  have nd:=S.nd
  (sc (j6 3 nd (PEf.up (l:=.fr) (l':=.no) (cV an)))
  (sc (Dk 4 nd (callC c (m.mono (by decide)) (ac (nv 0) (ac (nv 1) (ac (comp (T:=["_law_k"]) (caps:=[]) (by rfl) rfl (U5 a (ac (nv 2) an)) (λk _ j e g f i=>(tn 0 (show List.Nodup (["_law_k"]:List BV) by decide +kernel))) (λk _ j e g f i=>ti0) (λk _ j e g f i=>(u3 (Ei (nv 0) (u1 ki)))) (Cd (by decide))) an)))))
  (sc (for_ PassesOwn.never rfl (tn 5 nd) (U5 a (ac (nv 2) an)) (s1 (ym6 3 (ix (nv 4) (nv 5)) (nv 5))))
  (s1 (Cj (av 3))))))⟩
def Rr:Ev->R Fl:=gO (v:=Hx.g) (by dsimp [Hx])
def Gi:List D->R D:=Ci 6 Rr
abbrev Qk:DR:=top 54
abbrev Ld:=Wb Hx FB Gi
def Hg:Wf "_law_spoilt" Qk 6 4 ["_law_script","_law_many"] (λb q=>Ld b->Jk b->q) So0:=⟨["_law_script","_law_many","_law_order_here","_law_way","_law_at","_law_odd"],Dw,_,λS F a c =>
  Ef (O:=[]) F S (by decide) λh A f s H E i g e =>
  have nd:=S.nd
  (sc (Dk 2 nd (callC a (g.mono (by decide)) (ac (nv 0) (ac (u1 ki) (ac (nv 1) an)))))
  (sc (j5 (tT rfl (tsc 3 nd (tsc 4 nd (tsc 5 nd tsn)))) (callC c (g.mono (by decide)) (ac (nv 0) (ac (u1 ki) (ac (lst (ac (u1 ki) (ac (Ei (nv 1) (u1 ki)) (ac (u1 ki) an)))) an)))))
  (sc (if_ (teq e (nv 3) (u1 ki)) (s1 (Cj (u3 (Ei (Ou (nv 2) pn (ps (nv 4))) (Ou (nv 2) (ps (Ei (nv 4) (u1 ki))) pn))))) sn)
  (sc (if_ (teq e (nv 3) (u1 ki)) (s1 (Cj (u3 (Ei (nv 2) (Ou (nv 2) (ps (nv 4)) (ps (Ei (nv 4) (u1 ki)))))))) sn)
  (sc (if_ (teq e (nv 3) (u1 ki)) (s1 (Cj (u3 (Ei (Ei (Ou (nv 2) pn (ps (nv 4))) (lst (ac (ix (lst (ac (u1 (neg ki)) (ac (nv 1) (ac (u1 (pow ki ki)) an)))) (nv 5)) an))) (Ou (nv 2) (ps (Ei (nv 4) (u1 ki))) pn))))) sn)
  (sc (if_ (teq e (nv 3) (u1 ki)) (s1 (Cj (u3 (Ei (Ei (Ou (nv 2) pn (ps (nv 4))) (Ou (nv 2) (ps (PEd.sc (sub (nv 4) (u1 ki)) (Di Xd))) (ps (nv 4)))) (Ou (nv 2) (ps (Ei (nv 4) (u1 ki))) pn))))) sn)
  (s1 (Cj (u3 (nv 2))))))))))⟩
def Qh:Ev->R Fl:=gO (v:=Hg.g) (by dsimp [Hg])
def Qe:List D->R D:=Ci 6 Qh
abbrev Ye:DR:=top 19
def Lp:Wf "all_ties" Ye 1 1 ["web"] (λb q=>Zc "len" b->Zc "range" b->Zc "tuple" b->q) So0:=⟨["web"],Dw,_,λS F e c a =>
  Ef (O:=[]) F S (by decide) λg A f s H E j i h =>
  have nd:=S.nd
  (s1 (Cj (u2 (tuple_range rfl a c (ac (PEd.sc (Ku e (ac (ix (nv 0) (u1 ki)) an)) (Dm Bw)) an)))))⟩
def W6:Ev->R Fl:=gO (v:=Lp.g) (by dsimp [Lp])
def Qt:List D->R D:=Ci 1 W6
abbrev Om:DR:=top 22
def Gb:Wf "put_together" Om 3 1 ["leasts","one","other"] (λb q=>Zc "min" b->q) So0:=⟨["leasts","one","other"],Dw,_,λS F a =>
  Ef (O:=[]) F S (by decide) λl A g s H E n m k =>
  have nd:=S.nd
  (s1 (Cj (u3 (comp (T:=["least"]) (caps:=[1,2]) (by rfl) rfl (J2 (nv 0)) (λj _ i c f e h=>(tn 0 (show List.Nodup (["least","one","other"]:List BV) by decide +kernel))) (λj _ i c f e h=>ti0) (λj _ i c f e h=>(u3 (ifx (tin k (nv 0) (tup (ac (nv 1) (ac (nv 2) an)))) (u1 (PEd.sc (yn2 rfl a (ac (nv 1) (ac (nv 2) an))) (Dm we2))) (nv 0)))) (Cd (by decide))))))⟩
def N5:Ev->R Fl:=gO (v:=Gb.g) (by dsimp [Gb])
def Jq:List D->R D:=Ci 3 N5
abbrev M3:DR:=top 21
abbrev Ng:=Wb Gb FB Jq
def Fb:Wf "least_of_each" M3 5 2 ["web","some"] (λb q=>Zc "list" b->Zc "range" b->Ng b->q) So0:=⟨["web","some","leasts","tie","ends"],Dw,_,λS F e c a =>
  Ef (O:=[]) F S (by decide) λh A f s H E j g i =>
  have nd:=S.nd
  (sc (Dk 2 nd (list_range rfl e c (ac (ix (nv 0) (u1 ki)) an)))
  (sc (for_ PassesOwn.never rfl (tn 3 nd) (J2 (nv 1)) (sc (Dk 4 nd (ix (ix (nv 0) (u1 ki)) (nv 3)))
  (s1 (Dk 2 nd (callC a (g.mono (by decide)) (ac (nv 2) (ac (ix (nv 2) (ix (nv 4) (u1 ki))) (ac (ix (nv 2) (ix (nv 4) (u1 ki))) an))))))))
  (s1 (Cj (u3 (nv 2))))))⟩
def Mz:Ev->R Fl:=gO (v:=Fb.g) (by dsimp [Fb])
def Mx:List D->R D:=Ci 5 Mz
abbrev Z9:DR:=top 23
def O3:Wf "members" Z9 2 1 ["leasts","least"] (λb q=>Zc "enumerate" b->Zc "tuple" b->q) So0:=⟨["leasts","least"],Dw,_,λS F a c =>
  Ef (O:=[]) F S (by decide) λm A h s H E o n l =>
  have nd:=S.nd
  (s1 (Cj (u3 (Hc c (ac (comp (T:=["point","other"]) (caps:=[1]) (by rfl) rfl (wr8 a (nv 0)) (λk _ j e g f i=>(tT rfl (tsc 0 (show List.Nodup (["point","other","least"]:List BV) by decide +kernel) (tsc 1 (show List.Nodup (["point","other","least"]:List BV) by decide +kernel) tsn)))) (λk _ j e g f i=>(ti1 (teq l (nv 1) (nv 2)))) (λk _ j e g f i=>(u3 (nv 0))) (wJ (by decide))) an)))))⟩
def Zw:Ev->R Fl:=gO (v:=O3.g) (by dsimp [O3])
def Zm:List D->R D:=Ci 2 Zw
abbrev vK:DR:=top 17
abbrev Mv:=Wb Fb FB Mx
abbrev Za:=Wb O3 FB Zm
def Vw:Wf "parts" vK 3 3 ["web","some"] (λb q=>Zc "set" b->Zc "sorted" b->Mv b->Za b->q) So0:=⟨["web","some","leasts"],Dw,_,λS F f e a c =>
  Ef (O:=[]) F S (by decide) λo A j s H E r k p =>
  have nd:=S.nd
  (sc (Dk 2 nd (callC a (k.mono (by decide)) (ac (nv 0) (ac (nv 1) an))))
  (s1 (Cj (u3 (comp (T:=["least"]) (caps:=[2]) (by rfl) rfl (J2 (jn7 rfl e f (ac (nv 2) an))) (λn _ m g i h l=>(tn 0 (show List.Nodup (["least","leasts"]:List BV) by decide +kernel))) (λn _ m g i h l=>ti0) (λn _ m g i h l=>(u3 (callC c (k.mono (by decide)) (ac (nv 1) (ac (nv 0) an))))) (Cd (by decide)))))))⟩
def wI:Ev->R Fl:=gO (v:=Vw.g) (by dsimp [Vw])
def wQ:List D->R D:=Ci 3 wI
abbrev t_:DR:=top 18
abbrev w6:=Wb Vw FB wQ
def lL:Wf "rank" t_ 2 4 ["web","some"] (λb q=>Zc "len" b->w6 b->q) So0:=⟨["web","some"],Dw,_,λS F c a =>
  Ef (O:=[]) F S (by decide) λg A e s H E i f h =>
  have nd:=S.nd
  (s1 (Cj (u2 (PEd.sc (sub (ix (nv 0) (u1 ki)) (u1 (PEd.sc (Ku c (ac (callC a (f.mono (by decide)) (ac (nv 0) (ac (nv 1) an))) an)) (Dm Bw)))) (Di Xd)))))⟩
def uK:Ev->R Fl:=gO (v:=lL.g) (by dsimp [lL])
def Ly:List D->R D:=Ci 2 uK
abbrev Ve:DR:=top 29
abbrev G6:=Wb Lp FB Qt
abbrev Tf:=Wb lL FB Ly
def J9:Wf "is_forest" Ve 3 5 ["web","some"] (λb q=>Zc "len" b->Zc "tuple" b->G6 b->Tf b->q) So0:=⟨["web","some","every"],Dw,_,λS F f e a c =>
  Ef (O:=[]) F S (by decide) λp A k s H E r l j =>
  have nd:=S.nd
  (sc (Dk 2 nd (callC a (l.mono (by decide)) (ac (nv 0) an)))
  (sc (if_ (tne j (Hc e (ac (comp (T:=["tie"]) (caps:=[1]) (by rfl) rfl (J2 (nv 2)) (λo _ n g i h m=>(tn 0 (show List.Nodup (["tie","some"]:List BV) by decide +kernel))) (λo _ n g i h m=>(ti1 (tin j (nv 0) (nv 1)))) (λo _ n g i h m=>(u3 (nv 0))) (Cd (by decide))) an)) (nv 1)) (s1 (Cj (u2 kb))) sn)
  (s1 (Cj (u2 (qZ (PEd.sc (eq_ j (u1 (PEd.sc (Ku f (ac (nv 1) an)) (Dm Bw))) (callC c (l.mono (by decide)) (ac (nv 0) (ac (nv 2) an)))) (Di Rw)) (v1 (PEd.sc (eq_ j (callC c (l.mono (by decide)) (ac (nv 0) (ac (nv 1) an))) (u1 (PEd.sc (Ku f (ac (nv 1) an)) (Dm Bw)))) (Di Rw)))))))))⟩
def Uz:Ev->R Fl:=gO (v:=J9.g) (by dsimp [J9])
def Nq:List D->R D:=Ci 3 Uz
abbrev M4:DR:=top 28
abbrev Uj:=Wb J9 FB Nq
def Fd:Wf "refuse_forest" M4 2 6 ["web","some"] (λb q=>RC0 b.K b.mg "NoForest"->Uj b->q) (aQ G3):=⟨["web","some"],Dw,_,λS F c a =>
  Ja (O:=[]) F S (by decide) λi A e s H E k j f g h =>
  have nd:=S.nd
  (s1 (if_ (fW (tst (callC a (f.mono (by decide)) (ac (nv 0) (ac (nv 1) an))))) (s1 (rs0 h rfl c (wdj (dX (wdt f.gd g (nv 1)) (dX wdk nG))))) sn))⟩
def Ff:Ev->R Fl:=gO (v:=Fd.g) (by dsimp [Fd])
def Bd:List D->R D:=Ci 2 Ff
abbrev Yi:DR:=top 33
def Ls:Wf "left_out" Yi 2 1 ["some","tie"] (λb q=>Zc "tuple" b->q) So0:=⟨["some","tie"],Dw,_,λS F a =>
  Ef (O:=[]) F S (by decide) λl A g s H E n m k =>
  have nd:=S.nd
  (s1 (Cj (u3 (Hc a (ac (comp (T:=["one"]) (caps:=[1]) (by rfl) rfl (J2 (nv 0)) (λj _ i c f e h=>(tn 0 (show List.Nodup (["one","tie"]:List BV) by decide +kernel))) (λj _ i c f e h=>(ti1 (tne k (nv 0) (nv 1)))) (λj _ i c f e h=>(u3 (nv 0))) (Cd (by decide))) an)))))⟩
def W9:Ev->R Fl:=gO (v:=Ls.g) (by dsimp [Ls])
def Lx:List D->R D:=Ci 2 W9
abbrev Vh:DR:=top 31
abbrev Qo:=Wb Ls FB Lx
def Kc:Wf "ring_with" Vh 4 5 ["web","forest","tie"] (λb q=>Zc "len" b->Zc "sorted" b->Zc "tuple" b->Qo b->Tf b->q) So0:=⟨["web","forest","tie","more"],Dw,_,λS F g e a c f =>
  Ef (O:=[]) F S (by decide) λr A k s H E u l p =>
  have nd:=S.nd
  (sc (Dk 3 nd (Hc a (ac (PEf.d (Ov e (ac (Ei (nv 1) (tup (ac (nv 2) an))) an)) Jy) an)))
  (s1 (Cj (u3 (Hc a (ac (comp (T:=["one"]) (caps:=[0,3,1]) (by rfl) rfl (J2 (nv 3)) (λo _ n h j i m=>(tn 0 (show List.Nodup (["one","web","more","forest"]:List BV) by decide +kernel))) (λo _ n h j i m=>(ti1 (teq p (callC f (l.mono (by decide)) (ac (nv 1) (ac (callC c (l.mono (by decide)) (ac (nv 2) (ac (nv 0) an))) an))) (u1 (PEd.sc (Ku g (ac (nv 3) an)) (Dm Bw)))))) (λo _ n h j i m=>(u3 (nv 0))) (Cd (by decide))) an))))))⟩
def U3:Ev->R Fl:=gO (v:=Kc.g) (by dsimp [Kc])
def Nt:List D->R D:=Ci 4 U3
abbrev zT:DR:=top 30
def O4:Wf "outside" zT 2 2 ["web","forest"] (λb q=>Zc "tuple" b->G6 b->q) So0:=⟨["web","forest"],Dw,_,λS F c a =>
  Ef (O:=[]) F S (by decide) λn A h s H E o m l =>
  have nd:=S.nd
  (s1 (Cj (u3 (Hc c (ac (comp (T:=["tie"]) (caps:=[1]) (by rfl) rfl (J2 (callC a (m.mono (by decide)) (ac (nv 0) an))) (λk _ j e g f i=>(tn 0 (show List.Nodup (["tie","forest"]:List BV) by decide +kernel))) (λk _ j e g f i=>(ti1 (fX l (nv 0) (nv 1)))) (λk _ j e g f i=>(u3 (nv 0))) (Cd (by decide))) an)))))⟩
def Zx:Ev->R Fl:=gO (v:=O4.g) (by dsimp [O4])
def Tg:List D->R D:=Ci 2 Zx
abbrev zR:DR:=top 26
abbrev Oz:=Wb O4 FB Tg
abbrev Nh:=Wb Kc FB Nt
abbrev Dg:=Wb Fd (FXT G3) Bd
def O5:Wf "ring_of" zR 3 7 ["web","forest","tie"] (λb q=>RC1 b.P b.w b.K b.mg b.base "NoTie" "tie"->Oz b->Nh b->Dg b->q) (aQ G3):=⟨["web","forest","tie"],Dw,_,λS F f e c a =>
  Ja (O:=[]) F S (by decide) λl A h s H E m k g j i =>
  have nd:=S.nd
  (sc (ex_ (u3 (Gg a i k (g.mono (by decide)) (ac (nv 0) (ac (nv 1) an)))))
  (sc (if_ (fX j (nv 2) (callC e (g.mono (by decide)) (ac (nv 0) (ac (nv 1) an)))) (s1 (rs1 i rfl (g.mono (by decide)) f (wdj (dX (wdf (nv 2)) (dX wdk nG))) (nv 2))) sn)
  (s1 (Cj (u3 (callC c (g.mono (by decide)) (ac (nv 0) (ac (nv 1) (ac (nv 2) an)))))))))⟩
def Zy:Ev->R Fl:=gO (v:=O5.g) (by dsimp [O5])
def K4:List D->R D:=Ci 3 Zy
abbrev Yg:DR:=top 32
def Lq:Wf "cut_with" Yg 5 5 ["web","forest","tie"] (λb q=>Zc "len" b->Zc "sorted" b->Zc "tuple" b->Qo b->Oz b->Tf b->q) So0:=⟨["web","forest","tie","less","others"],Dw,_,λS F h e f a c g =>
  Ef (O:=[]) F S (by decide) λu A l s H E v m r =>
  have nd:=S.nd
  (sc (Dk 3 nd (callC a (m.mono (by decide)) (ac (nv 1) (ac (nv 2) an))))
  (sc (Dk 4 nd (PEf.d (Ov e (ac (Ei (callC c (m.mono (by decide)) (ac (nv 0) (ac (nv 1) an))) (tup (ac (nv 2) an))) an)) Jy))
  (s1 (Cj (u3 (Hc f (ac (comp (T:=["one"]) (caps:=[0,3,1]) (by rfl) rfl (J2 (nv 4)) (λp _ o i k j n=>(tn 0 (show List.Nodup (["one","web","less","forest"]:List BV) by decide +kernel))) (λp _ o i k j n=>(ti1 (teq r (callC g (m.mono (by decide)) (ac (nv 1) (ac (Ei (nv 2) (tup (ac (nv 0) an))) an))) (u1 (PEd.sc (Ku h (ac (nv 3) an)) (Dm Bw)))))) (λp _ o i k j n=>(u3 (nv 0))) (Cd (by decide))) an)))))))⟩
def W7:Ev->R Fl:=gO (v:=Lq.g) (by dsimp [Lq])
def Qu:List D->R D:=Ci 5 W7
abbrev xU:DR:=top 27
abbrev Qn:=Wb Lq FB Qu
def Rg:Wf "cut_of" xU 3 7 ["web","forest","tie"] (λb q=>RC1 b.P b.w b.K b.mg b.base "NoTie" "tie"->Qn b->Dg b->q) (aQ G3):=⟨["web","forest","tie"],Dw,_,λS F e c a =>
  Ja (O:=[]) F S (by decide) λk A f s H E l j g i h =>
  have nd:=S.nd
  (sc (ex_ (u3 (Gg a h j (g.mono (by decide)) (ac (nv 0) (ac (nv 1) an)))))
  (sc (if_ (fX i (nv 2) (nv 1)) (s1 (rs1 h rfl (g.mono (by decide)) e (wdj (dX (wdf (nv 2)) (dX wdk nG))) (nv 2))) sn)
  (s1 (Cj (u3 (callC c (g.mono (by decide)) (ac (nv 0) (ac (nv 1) (ac (nv 2) an)))))))))⟩
def yO:Ev->R Fl:=gO (v:=Rg.g) (by dsimp [Rg])
def Nm:List D->R D:=Ci 3 yO
abbrev Oo:DR:=top 41
def Gd:Wf "refuse_order" Oo 3 2 ["web","order"] (λb q=>Zc "all" b->Zc "len" b->RC0 b.K b.mg "NoOrder"->G6 b->q) (aQ G3):=⟨["web","order","every"],Dw,_,λS F f e c a =>
  Ja (O:=[]) F S (by decide) λr A j s H E v u o k p =>
  have nd:=S.nd
  (sc (Dk 2 nd (callC a (o.mono (by decide)) (ac (nv 0) an)))
  (s1 (if_ (S7 (i_ (tne k (PEd.sc (Ku e (ac (nv 1) an)) (Dm Bw)) (PEd.sc (Ku e (ac (nv 2) an)) (Dm Bw))) (jA (fW (tst (PEd.sc (yk3 rfl f (ac (comp (T:=["tie"]) (caps:=[1]) (by rfl) rfl (J2 (nv 2)) (λn _ m g i h l=>(tn 0 (show List.Nodup (["tie","order"]:List BV) by decide +kernel))) (λn _ m g i h l=>ti0) (λn _ m g i h l=>(u2 (PEd.sc (in_ k (nv 0) (nv 1)) (Di we0)))) (Cd (by decide))) an)) (Dm wd7))))))) (s1 (rs0 p rfl c wdk)) sn)))⟩
def Gn:Ev->R Fl:=gO (v:=Gd.g) (by dsimp [Gd])
def Cm:List D->R D:=Ci 3 Gn
abbrev Q7:DR:=top 44
def jr3:Ev->R Fl:=(gA (mkD (gv 1) [0] (Xc (gv 1) (gv 0))))
def Jp:List D->R D:=Ci 2 jr3
def Vi:Ez ["order","some"] ["order","some"] (Av Q7):=Dw
variable {K:B_}{mg:BV->Option A_}
def jl7{P:BZ}{w:CV}{base:CP}{h:BK}{a:BK}{g:DQ}(F:Fun K "first_of" "first_of" Q7 a g)(p:c7 mg base "first_of" h)(kb:K.In base)(e:mg "first_of" = some (.ref a))(b:mg "min" = none):
  Hh P w K mg base CX0 2 a g ["order","some"] (spT K h G3 2 Jp):=
 W0 (O:=[]) F Vi (by decide) λm A c s H E v f j i u =>
  have nd:=Vi.nd
  (s1 (Cj (u2 (PEd.sc (wg0 (x:="tie") (caps:=[0]) (wt1 p kb e F f) (i.mono (by decide)) j b (nv 1) (λz r k n l _ y q o=>(u2 (PEd.sc (ye2 (nv 1) (nv 0)) kp7)))) we3))))
abbrev Vf:DR:=top 42
abbrev Wg(b:Bx):Prop:=FTB G3 b 2 "first_of" ["order","some"] Jp
def Ka:Wf "kept_ties" Vf 3 6 ["web","order","forest"] (λb q=>Zc "tuple" b->Qn b->Wg b->q) (St0 G3):=⟨["web","order","forest"],Dw,_,λS F e c a =>
  W0 (O:=[]) F S (by decide) λu A i s H E v p r k o =>
  have nd:=S.nd
  (s1 (Cj (u3 (Hc e (ac (n8 (T:=["tie"]) (caps:=[1,0,2]) (by rfl) rfl (J2 (nv 2)) (λn _ m f h g l j=>(tn 0 (show List.Nodup (["tie","order","web","forest"]:List BV) by decide +kernel))) (λn _ m f h g l j=>(ti1 (teq o (nv 0) (Uk a (j _ _ r) (k.mono (by decide)) (ac (nv 1) (ac (callC c (k.mono (by decide)) (ac (nv 2) (ac (nv 3) (ac (nv 0) an)))) an)))))) (λn _ m f h g l j=>(u3 (nv 0))) (Cd (by decide))) an)))))⟩
def U0:Ev->R Fl:=gO (v:=Ka.g) (by dsimp [Ka])
def Nr:List D->R D:=Ci 3 U0
abbrev uA:DR:=top 37
abbrev Nf:=Wb Ka (FTB G3) Nr
abbrev Du:=Wb Gd (FXT G3) Cm
def lM:Wf "kept" uA 3 7 ["web","order","forest"] (λb q=>Nf b->Dg b->Du b->q) (aQ G3):=⟨["web","order","forest"],Dw,_,λS F e a c =>
  Ja (O:=[]) F S (by decide) λj A f s H E l h g k i =>
  have nd:=S.nd
  (sc (ex_ (u3 (Gg a i h (g.mono (by decide)) (ac (nv 0) (ac (nv 2) an)))))
  (sc (ex_ (u3 (Gg c i h (g.mono (by decide)) (ac (nv 0) (ac (nv 1) an)))))
  (s1 (Cj (u3 (Uk e h (g.mono (by decide)) (ac (nv 0) (ac (nv 1) (ac (nv 2) an)))))))))⟩
def uL:Ev->R Fl:=gO (v:=lM.g) (by dsimp [lM])
def Wv:List D->R D:=Ci 3 uL
abbrev Vd:DR:=top 43
def J8:Wf "free_ties" Vd 3 6 ["web","order","forest"] (λb q=>Zc "tuple" b->Oz b->Nh b->Wg b->q) (St0 G3):=⟨["web","order","forest"],Dw,_,λS F f e a c =>
  W0 (O:=[]) F S (by decide) λv A j s H E w r u k p =>
  have nd:=S.nd
  (s1 (Cj (u3 (Hc f (ac (n8 (T:=["tie"]) (caps:=[1,0,2]) (by rfl) rfl (J2 (callC e (k.mono (by decide)) (ac (nv 0) (ac (nv 2) an)))) (λo _ n g i h m l=>(tn 0 (show List.Nodup (["tie","order","web","forest"]:List BV) by decide +kernel))) (λo _ n g i h m l=>(ti1 (teq p (nv 0) (Uk c (l _ _ u) (k.mono (by decide)) (ac (nv 1) (ac (callC a (k.mono (by decide)) (ac (nv 2) (ac (nv 3) (ac (nv 0) an)))) an)))))) (λo _ n g i h m l=>(u3 (nv 0))) (Cd (by decide))) an)))))⟩
def Uy:Ev->R Fl:=gO (v:=J8.g) (by dsimp [J8])
def Np:List D->R D:=Ci 3 Uy
abbrev uC:DR:=top 38
abbrev Nb:=Wb J8 (FTB G3) Np
def lO:Wf "free" uC 3 7 ["web","order","forest"] (λb q=>Nb b->Dg b->Du b->q) (aQ G3):=⟨["web","order","forest"],Dw,_,λS F e a c =>
  Ja (O:=[]) F S (by decide) λj A f s H E l h g k i =>
  have nd:=S.nd
  (sc (ex_ (u3 (Gg a i h (g.mono (by decide)) (ac (nv 0) (ac (nv 2) an)))))
  (sc (ex_ (u3 (Gg c i h (g.mono (by decide)) (ac (nv 0) (ac (nv 1) an)))))
  (s1 (Cj (u3 (Uk e h (g.mono (by decide)) (ac (nv 0) (ac (nv 1) (ac (nv 2) an)))))))))⟩
def uN:Ev->R Fl:=gO (v:=lO.g) (by dsimp [lO])
def Wu:List D->R D:=Ci 3 uN
abbrev uB:DR:=top 39
def lN:Wf "home" uB 7 5 ["web","order","some"] (λb q=>Zc "len" b->Zc "list" b->Zc "reversed" b->Zc "sorted" b->Zc "tuple" b->Tf b->Du b->q) (aQ G3):=⟨["web","order","some","within","beyond","forest","tie"],Dw,_,λS F l j c e f k a =>
  Ja (O:=[]) F S (by decide) λx A p s H E y w u r v =>
  have nd:=S.nd
  (sc (ex_ (u3 (Gg a v w (u.mono (by decide)) (ac (nv 0) (ac (nv 1) an)))))
  (sc (setC (T:=["tie"]) (caps:=[2]) 3 nd (by rfl) rfl (J2 (nv 1)) (λo _ n g i h m=>(tn 0 (show List.Nodup (["tie","some"]:List BV) by decide +kernel))) (λo _ n g i h m=>(ti1 (tin r (nv 0) (nv 1)))) (λo _ n g i h m=>(u3 (nv 0))) (Cd (by decide)))
  (sc (setC (T:=["tie"]) (caps:=[2]) 4 nd (by rfl) rfl (J2 (nv 1)) (λo _ n g i h m=>(tn 0 (show List.Nodup (["tie","some"]:List BV) by decide +kernel))) (λo _ n g i h m=>(ti1 (fX r (nv 0) (nv 1)))) (λo _ n g i h m=>(u3 (nv 0))) (Cd (by decide)))
  (sc (Dk 5 nd (u1 (tup an)))
  (sc (for_ PassesOwn.leaving rfl (tn 6 nd) (J2 (Ei (PEf.d (ks1 rfl j c (ac (nv 3) an)) jk7) (nv 4))) (s1 (if_ (tgt (callC k (u.mono (by decide)) (ac (nv 0) (ac (Ei (nv 5) (tup (ac (nv 6) an))) an))) (u1 (PEd.sc (Ku l (ac (nv 5) an)) (Dm Bw)))) (s1 (Dk 5 nd (Ei (nv 5) (tup (ac (nv 6) an))))) sn)))
  (s1 (Cj (u3 (Hc f (ac (PEf.d (Ov e (ac (nv 5) an)) Jy) an))))))))))⟩
def uM:Ev->R Fl:=gO (v:=lN.g) (by dsimp [lN])
def lJ:List D->R D:=Ci 7 uM
abbrev Yh:DR:=top 35
def Lr:Wf "gathered" Yh 5 1 ["tuples"] (λb q=>Zc "sorted" b->q) So0:=⟨["tuples","sums","i","j","times"],Dw,_,λS F a =>
  Ef (O:=[1]) F S (by decide) λm A g s H E o n i =>
  have nd:=S.nd
  (sc (yi4 1 nd)
  (sc (for_ PassesOwn.never rfl (tT rfl (tsc 2 nd (tsc 3 nd (tsc 4 nd tsn)))) (J2 (nv 0)) (s1 (yb6 i 1 (Ei (yd7 i 1 (ac (nv 2) (ac (nv 3) an)) (u1 ki)) (nv 4)) (ac (nv 2) (ac (nv 3) an)) (λ_ h=>h))))
  (s1 (Cj (PEf.d (Ov a (ac (comp (T:=["place","times"]) (caps:=[]) (by rfl) rfl (wr9 1) (λl _ k c f e j=>(tT rfl (tsc 0 (show List.Nodup (["place","times"]:List BV) by decide +kernel) (tsc 1 (show List.Nodup (["place","times"]:List BV) by decide +kernel) tsn)))) (λl _ k c f e j=>(ti1 (tne i (nv 1) (u1 ki)))) (λl _ k c f e j=>(u3 (tup (ac (ix (nv 0) (u1 ki)) (ac (ix (nv 0) (u1 ki)) (ac (nv 1) an)))))) (wJ (by decide))) an)) Jy)))))⟩
def W8:Ev->R Fl:=gO (v:=Lr.g) (by dsimp [Lr])
def Qv:List D->R D:=Ci 5 W8
abbrev Yd:DR:=top 20
def Ln:Wf "all_sets" Yd 3 2 ["web"] (λb q=>Zc "sorted" b->G6 b->q) So0:=⟨["web","sets","tie"],Dw,_,λS F c a =>
  Ef (O:=[]) F S (by decide) λn A h s H E o m l =>
  have nd:=S.nd
  (sc (Dk 1 nd (u1 (lst (ac (tup an) an))))
  (sc (for_ PassesOwn.never rfl (tn 2 nd) (J2 (callC a (m.mono (by decide)) (ac (nv 0) an))) (s1 (Dk 1 nd (Ei (nv 1) (comp (T:=["some"]) (caps:=[2]) (by rfl) rfl (J2 (nv 1)) (λk _ j e g f i=>(tn 0 (show List.Nodup (["some","tie"]:List BV) by decide +kernel))) (λk _ j e g f i=>ti0) (λk _ j e g f i=>(u3 (Ei (nv 0) (tup (ac (nv 1) an))))) (Cd (by decide)))))))
  (s1 (Cj (u3 (PEf.d (kx9 l c (ac (nv 1) an)) jn6))))))⟩
def W5:Ev->R Fl:=gO (v:=Ln.g) (by dsimp [Ln])
def Qs:List D->R D:=Ci 3 W5
abbrev Z8:DR:=top 25
abbrev We:=Wb Ln FB Qs
def O2:Wf "forests" Z8 2 5 ["web"] (λb q=>Zc "len" b->We b->G6 b->Tf b->q) So0:=⟨["web","full"],Dw,_,λS F f c a e =>
  Ef (O:=[]) F S (by decide) λp A k s H E r j l =>
  have nd:=S.nd
  (sc (Dk 1 nd (callC e (j.mono (by decide)) (ac (nv 0) (ac (callC a (j.mono (by decide)) (ac (nv 0) an)) an))))
  (s1 (Cj (u3 (comp (T:=["some"]) (caps:=[1,0]) (by rfl) rfl (J2 (callC c (j.mono (by decide)) (ac (nv 0) an))) (λo _ n g i h m=>(tn 0 (show List.Nodup (["some","full","web"]:List BV) by decide +kernel))) (λo _ n g i h m=>(ti1 (S7 (fY (teq l (u1 (PEd.sc (Ku f (ac (nv 0) an)) (Dm Bw))) (nv 1)) (gK (teq l (callC e (j.mono (by decide)) (ac (nv 2) (ac (nv 0) an))) (nv 1))))))) (λo _ n g i h m=>(u3 (nv 0))) (Cd (by decide)))))))⟩
def Zv:Ev->R Fl:=gO (v:=O2.g) (by dsimp [O2])
def K3:List D->R D:=Ci 2 Zv
abbrev Oq:DR:=top 40
abbrev Y9:=Wb O2 FB K3
abbrev Wh:=Wb Lr FB Qv
def Ge:Wf "sorted_table" Oq 2 7 ["web","order"] (λb q=>Zc "len" b->Y9 b->Wh b->Nb b->Nf b->Du b->q) (aQ G3):=⟨["web","order"],Dw,_,λS F h g f e c a =>
  Ja (O:=[]) F S (by decide) λw A n s H E y o i x v =>
  have nd:=S.nd
  (sc (ex_ (u3 (Gg a v o (i.mono (by decide)) (ac (nv 0) (ac (nv 1) an)))))
  (s1 (Cj (u3 (callC f (i.mono (by decide)) (ac (n8 (T:=["forest"]) (caps:=[0,1]) (by rfl) rfl (J2 (callC g (i.mono (by decide)) (ac (nv 0) an))) (λu _ r j l k p m=>(tn 0 (show List.Nodup (["forest","web","order"]:List BV) by decide +kernel))) (λu _ r j l k p m=>ti0) (λu _ r j l k p m=>(u2 (tup (ac (PEd.sc (Ku h (ac (Uk c (m _ _ o) (i.mono (by decide)) (ac (nv 1) (ac (nv 2) (ac (nv 0) an)))) an)) (Dm Bw)) (ac (PEd.sc (Ku h (ac (Uk e (m _ _ o) (i.mono (by decide)) (ac (nv 1) (ac (nv 2) (ac (nv 0) an)))) an)) (Dm Bw)) (ac ki an)))))) (Cd (by decide))) an))))))⟩
def N7:Ev->R Fl:=gO (v:=Ge.g) (by dsimp [Ge])
def Gj:List D->R D:=Ci 2 N7
abbrev Ss:DR:=top 55
abbrev Y8:=Wb Rg (FXT G3) Nm
abbrev xH:=Wb lO (FXT G3) Wu
abbrev xG:=Wb lN (FXT G3) lJ
abbrev xF:=Wb lM (FXT G3) Wv
abbrev Wa:=Wb O5 (FXT G3) K4
abbrev Mu:=Wb Ge (FXT G3) Gj
def Hu:Wf "_law_asked" Ss 5 8 ["_law_web_here","_law_order_here","_law_some","_law_tie","_law_way"] (λb q=>Y8 b->xH b->xG b->xF b->Wa b->Mu b->q) (aQ G3):=⟨["_law_web_here","_law_order_here","_law_some","_law_tie","_law_way"],Dw,_,λS F e h g f c a =>
  Ja (O:=[]) F S (by decide) λn A m s H E o k i l j =>
  have nd:=S.nd
  (s1 (if_ (teq l (nv 4) (u1 ki)) (s1 (ex_ (u3 (Gg c j k (i.mono (by decide)) (ac (nv 0) (ac (nv 2) (ac (nv 3) an))))))) (s1 (if_ (teq l (nv 4) (u1 ki)) (s1 (ex_ (u3 (Gg e j k (i.mono (by decide)) (ac (nv 0) (ac (nv 2) (ac (nv 3) an))))))) (s1 (if_ (teq l (nv 4) (u1 ki)) (s1 (ex_ (u3 (Gg f j k (i.mono (by decide)) (ac (nv 0) (ac (nv 1) (ac (nv 2) an))))))) (s1 (if_ (teq l (nv 4) (u1 ki)) (s1 (ex_ (u3 (Gg h j k (i.mono (by decide)) (ac (nv 0) (ac (nv 1) (ac (nv 2) an))))))) (s1 (if_ (teq l (nv 4) (u1 ki)) (s1 (ex_ (u3 (Gg g j k (i.mono (by decide)) (ac (nv 0) (ac (nv 1) (ac (nv 2) an))))))) (s1 (ex_ (u3 (Gg a j k (i.mono (by decide)) (ac (nv 0) (ac (nv 1) an))))))))))))))))⟩
def Jb:Ev->R Fl:=gO (v:=Hu.g) (by dsimp [Hu])
def Cg:List D->R D:=Ci 5 Jb
abbrev Su:DR:=top 53
def Hv:Wf "_law_class" Su 2 1 ["_law_e"] (λb q=>Zc "ValueError" b->Zc "isinstance" b->RCI b.K b.mg "Apart"->RCI b.K b.mg "NoArrows"->RCI b.K b.mg "NoFloor"->RCI b.K b.mg "NoForest"->RCI b.K b.mg "NoHours"->RCI b.K b.mg "NoMatch"->RCI b.K b.mg "NoMove"->RCI b.K b.mg "NoName"->RCI b.K b.mg "NoOrder"->RCI b.K b.mg "NoRow"->RCI b.K b.mg "NoText"->RCI b.K b.mg "NoTie"->RCI b.K b.mg "NoTurns"->RCI b.K b.mg "NoWeb"->q) So0:=⟨["_law_e","_law_found"],Dw,_,λS F c a u f k e j i n m h r l p g o =>
  Ef (O:=[]) F S (by decide) λx A v s H E z y w =>
  have nd:=S.nd
  (sc (Dk 1 nd (u1 (lst (ac (Qz a e (nv 0)) (ac (Qz a h (nv 0)) (ac (Qz a p (nv 0)) (ac (Qz a n (nv 0)) an)))))))
  (sc (Dk 1 nd (Ei (nv 1) (u1 (lst (ac (Qz a i (nv 0)) (ac (Qz a u (nv 0)) (ac (Qz a f (nv 0)) (ac (Qz a k (nv 0)) an))))))))
  (sc (Dk 1 nd (Ei (nv 1) (u1 (lst (ac (Qz a j (nv 0)) (ac (Qz a m (nv 0)) (ac (Qz a r (nv 0)) (ac (Qz a l (nv 0)) an))))))))
  (sc (Dk 1 nd (Ei (nv 1) (u1 (lst (ac (Qz a g (nv 0)) (ac (Qz a o (nv 0)) an))))))
  (sc (if_ (S7 (i_ (fW (tst (ym9 a c (nv 0)))) (jA (tne w (PEd.sc (wb7 (nv 1) (u1 kb)) kp5) ki)))) (s1 (Cj (u2 (neg ki)))) sn)
  (s1 (Cj (u2 (PEd.sc (ye1 (nv 1) (u1 kb)) kp6)))))))))⟩
def Rp:Ev->R Fl:=gO (v:=Hv.g) (by dsimp [Hv])
def Gh:List D->R D:=Ci 2 Rp
abbrev Qj:DR:=top 56
abbrev Rc:=Wb Hv FB Gh
abbrev Pz:=Wb Hu (FXT G3) Cg
def Hf:Wf "_law_caught" Qj 7 9 ["_law_web_here","_law_order_here","_law_some","_law_tie","_law_way"] (λb q=>Zc "isinstance" b->RCI b.K b.mg "NoTie"->RCW b.K b.mg->Rc b->Pz b->q) (St0 G3):=⟨["_law_web_here","_law_order_here","_law_some","_law_tie","_law_way","_law_caught_here","_law_e"],Dw,_,λS F c f i a e =>
  W0 (O:=[]) F S (by decide) λl A g s H E o j k h m =>
  have nd:=S.nd
  (sc (Dk 5 nd (u1 kn))
  (sc (yp9 6 (ky9 e k (h.mono (by decide)) (ac (u3 (nv 0)) (ac (u3 (nv 1)) (ac (u3 (nv 2)) (ac (u3 (nv 3)) (ac (u3 (nv 4)) an)))))) (λn=>(s1 (Dk 5 nd (nv 6)))) i ⟨rfl,rfl⟩ nd)
  (sc (if_ (yp8 (nv 5) (u1 kn)) (s1 (Cj (u2 (tup (ac kn (ac kn an)))))) sn)
  (sc (if_ (tst (Qz c f (nv 5))) (s1 (Cj (u3 (tup (ac (callC a (h.mono (by decide)) (ac (nv 5) an)) (ac (u1 (yd4 (nv 5))) an)))))) sn)
  (s1 (Cj (u3 (tup (ac (callC a (h.mono (by decide)) (ac (nv 5) an)) (ac (u1 kn) an))))))))))⟩
def Qg:Ev->R Fl:=gO (v:=Hf.g) (by dsimp [Hf])
def Bv:List D->R D:=Ci 7 Qg
abbrev Vc:DR:=top 51
def J7:Wf "_law_sets" Vc 3 1 ["_law_many"] (λb q=>Zc "range" b->Zc "tuple" b->q) So0:=⟨["_law_many","_law_found","_law_mask"],Dw,_,λS F a c =>
  Ef (O:=[1]) F S (by decide) λn A h s H E p o m =>
  have nd:=S.nd
  (sc (j6 1 nd (PEf.up (l:=.fr) (l':=.no) (cV an)))
  (sc (for_ PassesOwn.never rfl (tn 2 nd) (PId.up (l:=.fr) (l':=.no) (U5 a (ac (PEd.sc (shl (u1 ki) (nv 0)) (Di kq0)) an))) (s1 (jO 1 (Hc c (ac (comp (T:=["_law_tie"]) (caps:=[2]) (by rfl) rfl (U5 a (ac (nv 0) an)) (λk _ j e g f i=>(tn 0 (show List.Nodup (["_law_tie","_law_mask"]:List BV) by decide +kernel))) (λk _ j e g f i=>(ti1 (teq m (band (PEd.sc (shr (nv 1) (nv 0)) (Di kq1)) ki) ki))) (λk _ j e g f i=>(u3 (nv 0))) (Cd (by decide))) an)))))
  (s1 (Cj (av 1)))))⟩
def Ux:Ev->R Fl:=gO (v:=J7.g) (by dsimp [J7])
def Nk:List D->R D:=Ci 3 Ux
abbrev Sv:DR:=top 49
def Hw:Wf "_law_marks" Sv 8 1 ["_law_web_here","_law_some"] (λb q=>Zc "list" b->Zc "range" b->q) So0:=⟨["_law_web_here","_law_some","_law_marks_here","_law_tie","_law_one","_law_other","_law_old","_law_new"],Dw,_,λS F c a =>
  Ef (O:=[]) F S (by decide) λm A h s H E o n l =>
  have nd:=S.nd
  (sc (Dk 2 nd (list_range rfl c a (ac (ix (nv 0) (u1 ki)) an)))
  (sc (for_ PassesOwn.never rfl (tn 3 nd) (J2 (nv 1)) (sc (j5 (tT rfl (tsc 4 nd (tsc 5 nd tsn))) (ix (ix (nv 0) (u1 ki)) (nv 3)))
  (sc (Dk 6 nd (ix (nv 2) (nv 5)))
  (sc (Dk 7 nd (ix (nv 2) (nv 4)))
  (s1 (setC (T:=["_law_mark"]) (caps:=[6,7]) 2 nd (by rfl) rfl (J2 (nv 2)) (λk _ j e g f i=>(tn 0 (show List.Nodup (["_law_mark","_law_old","_law_new"]:List BV) by decide +kernel))) (λk _ j e g f i=>ti0) (λk _ j e g f i=>(u3 (ifx (teq l (nv 0) (nv 1)) (nv 2) (nv 0)))) (Cd (by decide))))))))
  (s1 (Cj (u3 (nv 2))))))⟩
def Rq:Ev->R Fl:=gO (v:=Hw.g) (by dsimp [Hw])
def Rk:List D->R D:=Ci 8 Rq
abbrev Vb:DR:=top 50
abbrev Rf:=Wb Hw FB Rk
def J6:Wf "_law_rank" Vb 2 2 ["_law_web_here","_law_some"] (λb q=>Zc "len" b->Zc "set" b->Rf b->q) So0:=⟨["_law_web_here","_law_some"],Dw,_,λS F e c a =>
  Ef (O:=[]) F S (by decide) λh A f s H E j g i =>
  have nd:=S.nd
  (s1 (Cj (u2 (PEd.sc (sub (ix (nv 0) (u1 ki)) (u1 (PEd.sc (wf5 rfl e c (ac (callC a (g.mono (by decide)) (ac (nv 0) (ac (nv 1) an))) an)) (Dm jj9)))) (Di Xd)))))⟩
def Uw:Ev->R Fl:=gO (v:=J6.g) (by dsimp [J6])
def Fw:List D->R D:=Ci 2 Uw
abbrev X8:DR:=top 57
abbrev M9:=Wb J6 FB Fw
def Lh:Wf "_law_due" X8 7 3 ["_law_web_here","_law_order_here","_law_some","_law_tie","_law_way"] (λb q=>Zc "len" b->Zc "list" b->Zc "range" b->Zc "sorted" b->Zc "tuple" b->M9 b->q) So0:=⟨["_law_web_here","_law_order_here","_law_some","_law_tie","_law_way","_law_many","_law_good"],Dw,_,λS F e h c f g a =>
  Ef (O:=[]) F S (by decide) λl A j s H E m k i =>
  have nd:=S.nd
  (sc (Dk 5 nd (u1 (PEd.sc (Ku e (ac (ix (nv 0) (u1 ki)) an)) (Dm Bw))))
  (sc (Dk 6 nd (u1 (qZ (PEd.sc (eq_ i (u1 (PEd.sc (Ku e (ac (nv 2) an)) (Dm Bw))) (callC a (k.mono (by decide)) (ac (nv 0) (ac (tuple_range rfl g c (ac (nv 5) an)) an)))) (Di Rw)) (v1 (PEd.sc (eq_ i (callC a (k.mono (by decide)) (ac (nv 0) (ac (nv 2) an))) (u1 (PEd.sc (Ku e (ac (nv 2) an)) (Dm Bw)))) (Di Rw))))))
  (sc (if_ (S7 (fY (tlt (nv 4) (u1 ki)) (gK (fW (tst (nv 6)))))) (s1 (Cj (u2 (tup (ac ki (ac kn an)))))) sn)
  (sc (if_ (S7 (fY (tgt (nv 4) (u1 ki)) (gK (tne i (PEf.d (Ov f (ac (nv 1) an)) Jy) (list_range rfl h c (ac (nv 5) an)))))) (s1 (Cj (u2 (tup (ac ki (ac kn an)))))) sn)
  (sc (if_ (S7 (i_ (S7 (fY (teq i (nv 4) (u1 ki)) (gK (S7 (i_ (tin i (nv 3) (nv 2)) (jA (fW (wz0 (yn6) (m9) (u1 ki) (nv 3) (nv 5))))))))) (jA (S7 (fY (teq i (nv 4) (u1 ki)) (gK (fX i (nv 3) (nv 2)))))))) (s1 (Cj (u3 (tup (ac (u1 ki) (ac (nv 3) an)))))) sn)
  (s1 (Cj (u2 (tup (ac kn (ac kn an)))))))))))⟩
def W2:Ev->R Fl:=gO (v:=Lh.g) (by dsimp [Lh])
def Qp:List D->R D:=Ci 7 W2
abbrev Vg:DR:=top 58
abbrev Wc:=Wb Lh FB Qp
abbrev Ui:=Wb J7 FB Nk
abbrev Qa:=Wb Hg FB Qe
abbrev Wd:=Wb Lj FB Qq
abbrev P0:=Wb Hf (FTB G3) Bv
def oE:Wf "law" Vg 12 10 ["_law_script"] (λb q=>Zc "len" b->Zc "list" b->Zc "range" b->Zc "tuple" b->Wc b->Ld b->M9 b->Jk b->Ui b->Qa b->Wd b->P0 b->q) (St0 G3):=⟨["_law_script","_law_web_here","_law_many","_law_bits","_law_some","_law_known","_law_pick","_law_tie","_law_odd","_law_order_here","_law_way","_law_good"],Dw,_,λS F g v j n m f i c h e k a =>
  W0 (O:=[]) F S (by decide) λI A B s H E J G C u z =>
  have nd:=S.nd
  (sc (Dk 1 nd (callC k (u.mono (by decide)) (ac (nv 0) (ac (u1 ki) (ac (u1 ki) (ac (u1 ki) an))))))
  (sc (Dk 2 nd (u1 (PEd.sc (Ku g (ac (ix (nv 1) (u1 ki)) an)) (Dm Bw))))
  (sc (Dk 3 nd (callC c (u.mono (by decide)) (ac (nv 0) (ac (u1 ki) (ac (rep (PEf.up (l:=.fr) (l':=.no) (cV (ac ki an))) (nv 2)) an)))))
  (sc (Dk 4 nd (Hc n (ac (comp (T:=["_law_tie"]) (caps:=[3]) (by rfl) rfl (U5 j (ac (nv 2) an)) (λy _ x o r p w=>(tn 0 (show List.Nodup (["_law_tie","_law_bits"]:List BV) by decide +kernel))) (λy _ x o r p w=>(ti1 (teq z (ix (nv 1) (nv 0)) (u1 ki)))) (λy _ x o r p w=>(u3 (nv 0))) (Cd (by decide))) an)))
  (sc (setC (T:=["_law_other"]) (caps:=[1]) 5 nd (by rfl) rfl (J2 (callC h (u.mono (by decide)) (ac (nv 2) an))) (λy _ x o r p w=>(tn 0 (show List.Nodup (["_law_other","_law_web_here"]:List BV) by decide +kernel))) (λy _ x o r p w=>(ti1 (teq z (u1 (PEd.sc (Ku g (ac (nv 0) an)) (Dm Bw))) (callC i (u.mono (by decide)) (ac (nv 1) (ac (nv 0) an)))))) (λy _ x o r p w=>(u3 (nv 0))) (Cd (by decide)))
  (sc (j5 (tT rfl (tsc 6 nd (tsc 7 nd (tsc 8 nd tsn)))) (callC c (u.mono (by decide)) (ac (nv 0) (ac (u1 ki) (ac (lst (ac (u1 (mul ki (PEd.sc (Ku g (ac (nv 5) an)) (Dm Bw)))) (ac (Ei (nv 2) (u1 ki)) (ac (u1 ki) an)))) an)))))
  (sc (if_ (tlt (nv 6) (u1 (PEd.sc (Ku g (ac (nv 5) an)) (Dm Bw)))) (s1 (Dk 4 nd (ix (nv 5) (nv 6)))) sn)
  (sc (Dk 7 nd (ifx (tge (nv 7) (nv 2)) (ix (lst (ac (nv 7) (ac (u1 (neg ki)) (ac (Ei (nv 2) (u1 (pow ki ki))) an)))) (nv 8)) (nv 7)))
  (sc (Dk 9 nd (callC e (u.mono (by decide)) (ac (nv 0) (ac (nv 2) an))))
  (sc (for_ PassesOwn.never rfl (tn 10 nd) (PId.up (l:=.fr) (l':=.no) (U5 j (ac ki an))) (s1 (if_ (tne z (Uk a C (u.mono (by decide)) (ac (nv 1) (ac (PEf.d (ye5 v (ac (nv 9) an)) ks2) (ac (nv 4) (ac (nv 7) (ac (nv 10) an)))))) (callC m (u.mono (by decide)) (ac (nv 1) (ac (nv 9) (ac (nv 4) (ac (nv 7) (ac (nv 10) an))))))) (s1 (Cj (u2 kb))) sn)))
  (sc (Dk 11 nd (callC f (u.mono (by decide)) (ac (nv 0) (ac (u1 ki) (ac (nv 2) an)))))
  (s1 (Cj (u2 (PEd.sc (eq_ z (Uk a C (u.mono (by decide)) (ac (nv 1) (ac (nv 11) (ac (nv 4) (ac (nv 7) (ac (u1 ki) an)))))) (u1 (tup (ac kn (ac kn an))))) (Di Rw))))))))))))))))⟩
def sY:Ev->R Fl:=gO (v:=oE.g) (by dsimp [oE])
def d_law:List D->R D:=Ci 12 sY
abbrev wk8:DR:=yb2 (top 3) 0
def all_mk{l:W.OpenLaw}{w:CV}{h:CP}{fa:BK}(X:K.In h)(G:h.Ns PySem.mainGlobals mg)(gj:mg "law" = some (.ref fa))
  (bf:FI K "_law_cell" Va)
  (cn:FI K "_law_row" Yb)
  (cm:FI K "_law_web" Yc)
  (ah:FI K "_law_order" Sw)
  (U:FI K "_law_spoilt" Qk)
  (cj:FI K "all_ties" Ye)
  (Q:FI K "put_together" Om)
  (C:FI K "least_of_each" M3)
  (dn:FI K "members" Z9)
  (ew:FI K "parts" vK)
  (fo:FI K "rank" t_)
  (az:FI K "is_forest" Ve)
  (B:FI K "refuse_forest" M4)
  (bx:FI K "left_out" Yi)
  (ax:FI K "ring_with" Vh)
  (dm:FI K "outside" zT)
  (dk:FI K "ring_of" zR)
  (cg:FI K "cut_with" Yg)
  (ej:FI K "cut_of" xU)
  (O:FI K "refuse_order" Oo)
  (cf:FI K "first_of" Q7)
  (ay:FI K "kept_ties" Vf)
  (fp:FI K "kept" uA)
  (ba:FI K "free_ties" Vd)
  (ft:FI K "free" uC)
  (fq:FI K "home" uB)
  (cb:FI K "gathered" Yh)
  (ck:FI K "all_sets" Yd)
  (dp:FI K "forests" Z8)
  (M:FI K "sorted_table" Oq)
  (ak:FI K "_law_asked" Ss)
  (aj:FI K "_law_class" Su)
  (Y:FI K "_law_caught" Qj)
  (bb:FI K "_law_sets" Vc)
  (ai:FI K "_law_marks" Sv)
  (bc:FI K "_law_rank" Vb)
  (cp:FI K "_law_due" X8)
  {dc:BK}{fi ed:Option BK}{fh:Array (Option A_)}{fj ea eb dz aw ec:A_}(gh:W.nsIn K PySem.mainGlobals "law" = some (some (.ref dc)))(gd:K.lookup dc=some ⟨fj,fi,.func (W.fnOf "law" "law" (Es Vg) (Cp Vg) (Av Vg) .none ea eb dz ed aw ec),fh⟩)(gg:W.codeIn K aw "law" = true)(gf:W.keepIn K (.ref dc)=true)(fz:W.nsIn K PySem.mainGlobals "len" = some none)(er:W.nsIn K PySem.mainGlobals "range" = some none)(fy:W.nsIn K PySem.mainGlobals "max" = some none)(fx:W.nsIn K PySem.mainGlobals "min" = some none)(ep:W.nsIn K PySem.mainGlobals "tuple" = some none)(fg:W.nsIn K PySem.mainGlobals "list" = some none)(au:W.nsIn K PySem.mainGlobals "enumerate" = some none)(fw:W.nsIn K PySem.mainGlobals "set" = some none)(ee:W.nsIn K PySem.mainGlobals "sorted" = some none)(gc:W.nsIn K PySem.mainGlobals "all" = some none)(bp:W.nsIn K PySem.mainGlobals "reversed" = some none)(af:W.nsIn K PySem.mainGlobals "ValueError" = some none)(ae:W.nsIn K PySem.mainGlobals "isinstance" = some none)(cz:KC0 K "NoForest")(dy:KC0 K "NoOrder")(ff:KC1 K "NoTie" "tie" "NoTie.__init__" wk8)(fc:KCI K "Apart")(cu:KCI K "NoArrows")(dv:KCI K "NoFloor")(cq:KCI K "NoForest")(du:KCI K "NoHours")(dt:KCI K "NoMatch")(en:KCI K "NoMove")(el:KCI K "NoName")(dr:KCI K "NoOrder")(fb:KCI K "NoRow")(ek:KCI K "NoText")(ez:KCI K "NoTie")(dq:KCI K "NoTurns")(ey:KCI K "NoWeb")(gm:KCW K):
  ∃fd:DQ,(∀(s:BJ)(v:A_),ZG s fd ⟨[v],[]⟩ [("_law_script",v)])/\∀(Tp:BK)(base:CP),K.In base->base.Ns PySem.mainGlobals mg->c7 mg base "first_of" Tp->Hh l.prog w K mg base CX0 10 fa fd ["_law_script"] (spT K Tp G3 1 d_law):=by
 have e:=gj.symm.trans (W.mg_of X G gh);cases e;have j:=W.mg_none_of X G fz;have i:=W.mg_none_of X G er;have fu:=W.mg_none_of X G fy;have da:=W.mg_none_of X G fx;have a:=W.mg_none_of X G ep;have r:=W.mg_none_of X G fg;have ar:=W.mg_none_of X G au;have eo:=W.mg_none_of X G fw;have k:=W.mg_none_of X G ee;have fv:=W.mg_none_of X G gc;have bo:=W.mg_none_of X G bp;have ab:=W.mg_none_of X G af;have o:=W.mg_none_of X G ae;have gi:=uQ (st:=Vg) gd gg gf;refine⟨W.fnOf "law" "law" (Es Vg) (Cp Vg) (Av Vg) .none ea eb dz ed aw ec,λs v=>.of_eq rfl,λTp base kb _ LF=>?_⟩;let b:Bx:=⟨l.prog,w,K,mg,base,Tp⟩;have br:=uD X G cz;have de:=uD X G dy;have bq:=wx1 l.prog w base X G ff rfl ⟨rfl,rfl,rfl,by decide +kernel,rfl,by decide +kernel,by decide +kernel⟩ (by decide) (by decide) (Or.inl rfl) (Or.inl rfl) (Or.inl rfl) rfl (λ_=>rfl) (λ_=>rfl) (λ_=>rfl) (λ_ _ _ _ _ _ _=>us3 λ_ _ _=>⟨_,rfl,rfl⟩);have eu:=Gy X G fc;have bw:=Gy X G cu;have dj:=Gy X G dv;have bu:=Gy X G cq;have di:=Gy X G du;have dh:=Gy X G dt;have ei:=Gy X G en;have eh:=Gy X G el;have dg:=Gy X G dr;have et:=Gy X G fb;have eg:=Gy X G ek;have bt:=Gy X G ez;have df:=Gy X G dq;have es:=Gy X G ey;have gk:=wx2 X G gm;have bj:Uh b:=Ed l.prog w base X G bf (λ_ _ F=>J5.at (g:=Uv) (by kernel_rfl) (b:=b) F j) (λ_ _ _ _ _ _=>ll2 λ_ _=>rfl);have n:Jk b:=Ed l.prog w base X G cn (λ_ _ F=>Li.at (g:=W3) (by kernel_rfl) (b:=b) F j i bj) (λ_ _ _ _ _ _=>ll3 λ_ _ _=>rfl);have cx:Wd b:=Ed l.prog w base X G cm (λ_ _ F=>Lj.at (g:=W4) (by kernel_rfl) (b:=b) F fu da i a n) (λ_ _ _ _ _ _=>ll4 λ_ _ _ _=>rfl);have p:Ld b:=Ed l.prog w base X G ah (λ_ _ F=>Hx.at (g:=Rr) (by kernel_rfl) (b:=b) F i n) (λ_ _ _ _ _ _=>ll3 λ_ _ _=>rfl);have Z:Qa b:=Ed l.prog w base X G U (λ_ _ F=>Hg.at (g:=Qh) (by kernel_rfl) (b:=b) F p n) (λ_ _ _ _ _ _=>ll2 λ_ _=>rfl);have m:G6 b:=Ed l.prog w base X G cj (λ_ _ F=>Lp.at (g:=W6) (by kernel_rfl) (b:=b) F j i a) (λ_ _ _ _ _ _=>ll1 λ_=>rfl);have T:Ng b:=Ed l.prog w base X G Q (λ_ _ F=>Gb.at (g:=N5) (by kernel_rfl) (b:=b) F da) (λ_ _ _ _ _ _=>ll3 λ_ _ _=>rfl);have E:Mv b:=Ed l.prog w base X G C (λ_ _ F=>Fb.at (g:=Mz) (by kernel_rfl) (b:=b) F r i T) (λ_ _ _ _ _ _=>ll2 λ_ _=>rfl);have dw:Za b:=Ed l.prog w base X G dn (λ_ _ F=>O3.at (g:=Zw) (by kernel_rfl) (b:=b) F ar a) (λ_ _ _ _ _ _=>ll2 λ_ _=>rfl);have fe:w6 b:=Ed l.prog w base X G ew (λ_ _ F=>Vw.at (g:=wI) (by kernel_rfl) (b:=b) F eo k E dw) (λ_ _ _ _ _ _=>ll2 λ_ _=>rfl);have x:Tf b:=Ed l.prog w base X G fo (λ_ _ F=>lL.at (g:=uK) (by kernel_rfl) (b:=b) F j fe) (λ_ _ _ _ _ _=>ll2 λ_ _=>rfl);have bg:Uj b:=Ed l.prog w base X G az (λ_ _ F=>J9.at (g:=Uz) (by kernel_rfl) (b:=b) F j a m x) (λ_ _ _ _ _ _=>ll2 λ_ _=>rfl);have c:Dg b:=Hz l.prog w base X G B (λ_ _ F=>Fd.at (g:=Ff) (by kernel_rfl) (b:=b) F br bg) (λ_ _ _ _ _ _=>ll2 λ_ _=>rfl);have H:Qo b:=Ed l.prog w base X G bx (λ_ _ F=>Ls.at (g:=W9) (by kernel_rfl) (b:=b) F a) (λ_ _ _ _ _ _=>ll2 λ_ _=>rfl);have u:Nh b:=Ed l.prog w base X G ax (λ_ _ F=>Kc.at (g:=U3) (by kernel_rfl) (b:=b) F j k a H x) (λ_ _ _ _ _ _=>ll3 λ_ _ _=>rfl);have q:Oz b:=Ed l.prog w base X G dm (λ_ _ F=>O4.at (g:=Zx) (by kernel_rfl) (b:=b) F a m) (λ_ _ _ _ _ _=>ll2 λ_ _=>rfl);have dd:Wa b:=Hz l.prog w base X G dk (λ_ _ F=>O5.at (g:=Zy) (by kernel_rfl) (b:=b) F bq q u c) (λ_ _ _ _ _ _=>ll3 λ_ _ _=>rfl);have J:Qn b:=Ed l.prog w base X G cg (λ_ _ F=>Lq.at (g:=W7) (by kernel_rfl) (b:=b) F j k a H q x) (λ_ _ _ _ _ _=>ll3 λ_ _ _=>rfl);have ef:Y8 b:=Hz l.prog w base X G ej (λ_ _ F=>Rg.at (g:=yO) (by kernel_rfl) (b:=b) F bq J c) (λ_ _ _ _ _ _=>ll3 λ_ _ _=>rfl);have f:Du b:=Hz l.prog w base X G O (λ_ _ F=>Gd.at (g:=Gn) (by kernel_rfl) (b:=b) F fv j de m) (λ_ _ _ _ _ _=>ll2 λ_ _=>rfl);have I:=lH (Pr:=l.prog) (w:=w) (base:=base) (P:=Tp) (tb:=G3) X G cf (λ_ _ hm F=>jl7 F LF kb hm da) (λ_ _ _ _ _ _=>ll2 λ_ _=>rfl);have y:Nf b:=lH X G ay (λ_ _ _ F=>Ka.at (g:=U0) (by kernel_rfl) (b:=b) F a J I) (λ_ _ _ _ _ _=>ll3 λ_ _ _=>rfl);have fk:xF b:=Hz l.prog w base X G fp (λ_ _ F=>lM.at (g:=uL) (by kernel_rfl) (b:=b) F y c f) (λ_ _ _ _ _ _=>ll3 λ_ _ _=>rfl);have z:Nb b:=lH X G ba (λ_ _ _ F=>J8.at (g:=Uy) (by kernel_rfl) (b:=b) F a q u I) (λ_ _ _ _ _ _=>ll3 λ_ _ _=>rfl);have fm:xH b:=Hz l.prog w base X G ft (λ_ _ F=>lO.at (g:=uN) (by kernel_rfl) (b:=b) F z c f) (λ_ _ _ _ _ _=>ll3 λ_ _ _=>rfl);have fl:xG b:=Hz l.prog w base X G fq (λ_ _ F=>lN.at (g:=uM) (by kernel_rfl) (b:=b) F j r bo k a x f) (λ_ _ _ _ _ _=>ll3 λ_ _ _=>rfl);have cv:Wh b:=Ed l.prog w base X G cb (λ_ _ F=>Lr.at (g:=W8) (by kernel_rfl) (b:=b) F k) (λ_ _ _ _ _ _=>ll1 λ_=>rfl);have cw:We b:=Ed l.prog w base X G ck (λ_ _ F=>Ln.at (g:=W5) (by kernel_rfl) (b:=b) F k m) (λ_ _ _ _ _ _=>ll1 λ_=>rfl);have dx:Y9 b:=Ed l.prog w base X G dp (λ_ _ F=>O2.at (g:=Zv) (by kernel_rfl) (b:=b) F j cw m x) (λ_ _ _ _ _ _=>ll1 λ_=>rfl);have L:Mu b:=Hz l.prog w base X G M (λ_ _ F=>Ge.at (g:=N7) (by kernel_rfl) (b:=b) F j dx cv z y f) (λ_ _ _ _ _ _=>ll2 λ_ _=>rfl);have ag:Pz b:=Hz l.prog w base X G ak (λ_ _ F=>Hu.at (g:=Jb) (by kernel_rfl) (b:=b) F ef fm fl fk dd L) (λ_ _ _ _ _ _=>ll5 λ_ _ _ _ _=>rfl);have aq:Rc b:=Ed l.prog w base X G aj (λ_ _ F=>Hv.at (g:=Rp) (by kernel_rfl) (b:=b) F ab o eu bw dj bu di dh ei eh dg et eg bt df es) (λ_ _ _ _ _ _=>ll1 λ_=>rfl);have aa:P0 b:=lH X G Y (λ_ _ _ F=>Hf.at (g:=Qg) (by kernel_rfl) (b:=b) F o bt gk aq ag) (λ_ _ _ _ _ _=>ll5 λ_ _ _ _ _=>rfl);have bh:Ui b:=Ed l.prog w base X G bb (λ_ _ F=>J7.at (g:=Ux) (by kernel_rfl) (b:=b) F i a) (λ_ _ _ _ _ _=>ll1 λ_=>rfl);have ao:Rf b:=Ed l.prog w base X G ai (λ_ _ F=>Hw.at (g:=Rq) (by kernel_rfl) (b:=b) F r i) (λ_ _ _ _ _ _=>ll2 λ_ _=>rfl);have A:M9 b:=Ed l.prog w base X G bc (λ_ _ F=>J6.at (g:=Uw) (by kernel_rfl) (b:=b) F j eo ao) (λ_ _ _ _ _ _=>ll2 λ_ _=>rfl);have cy:Wc b:=Ed l.prog w base X G cp (λ_ _ F=>Lh.at (g:=W2) (by kernel_rfl) (b:=b) F j r i k a A) (λ_ _ _ _ _ _=>ll5 λ_ _ _ _ _=>rfl);exact oE.at (g:=sY) (by kernel_rfl) (b:=b) gi j r i a cy p A n bh Z cx aa
open PD L2 Gr
def Mt(e:Nat×Nat):D:=.tup [.int (e.1:Int),.int (e.2:Int)]
def Al(n:Nat)(ts:Ar):D:=.tup [.int (n:Int),.tup (ts.map Mt)]
def Aa(s:List Nat):D:=.tup (Ab s)
theorem ww8(l:List Nat)(x y:Nat)(f:l.length<=1000):Jq [.lst (Ab l),.int (x:Int),.int (y:Int)]=.ok (.lst (Ab (Hb l x y))):=by
 refine Bg (Bc (Ec (ds:=Ab l) (xs:=Ab (Hb l x y)) (by simp[Ag]) ?_ (by simp[Aq,Hb];lia)));have e:Ab (Hb l x y)=(Ab l).map λd=>match d with | .int z=>if z=(x:Int)\/z=(y:Int) then .int (min (x:Int) (y:Int)) else .int z |d=>d:=by
  simp only[Ab,Hb,TY];apply iR;intro z _;simp only[Function.comp];by_cases h:z=x\/z=y
  ·rw[if_pos h,if_pos (by lia)];congr 1;lia
  ·rw[if_neg h,if_neg (by lia)]
 rw[e];apply PD.comp_map;intro d b;obtain⟨z,_,rfl⟩:=K6.mp b;refine⟨_,rfl,?_⟩;have a:inD (.int (z:Int)) (.tup [.int (x:Int),.int (y:Int)])=some (.bl (decide (z=x\/z=y))):=jK (n:=0) (ys:=[.int (x:Int),.int (y:Int)]) rfl (by lia) Jw (λd b=>by
  rcases HY.mp b with rfl |b
  ·exact Jw
  ·rw[LR.mp b];exact Jw) (by
  simp only[HY,l_,or_false,D.int.injEq,decide_eq_true_eq];lia)
 by_cases h:z=x\/z=y
 ·have c:(z:Int)=x\/(z:Int)=y:=by lia
  simp[Ag,Dp,Em,a,h,c]
 ·have c:¬ ((z:Int)=x\/(z:Int)=y):=by lia
  simp[Ag,Dp,Em,a,h,c]
def pick(ts:Ar)(s:List Nat):Ar:=s.map λk=>ts.getD k (0,0)
variable {n:Nat}{ts:Ar}{s:List Nat}
theorem wi4(h:∀e∈ts,e.1<=e.2/\e.2<n)(b:∀k∈s,k<ts.length):InW n (pick ts s):=λe f=>by
 obtain⟨k,c,rfl⟩:=JF.mp f;have a:=b k c;have:ts.getD k (0,0)∈ts:=by rw[NQ,GJ a];exact RG a
 have:=h _ this;lia
def kg7:Ev->R Fl:=(PD.sq (PD.asg 4 (PD.b2 (PD.b2 (PD.gv 0) (PD.kd (.int 1)) PD.ixD) (PD.gv 3) PD.ixD))
 (PD.asg 2 (PD.cl (zv (PD.gv 2) (zv (PD.b2 (PD.gv 2) (PD.b2 (PD.gv 4) (PD.kd (.int 0)) PD.ixD) PD.ixD) (zv (PD.b2 (PD.gv 2) (PD.b2 (PD.gv 4) (PD.kd (.int 1)) PD.ixD) PD.ixD) PD.a0))) Jq)))
theorem range_list(h:n<=16777216):list_rangeD [.int (n:Int)]=some (.lst (Ab (List.range n))):=by
 unfold list_rangeD;have e:Vt [.int (n:Int)]=some (0,(n:Int)):=by
  have a:-(2 ^ 62)<=(n:Int)/\(n:Int)<2 ^ 62/\(n:Int)<=16777216:=by lia
  dsimp only[Vt];rw[if_pos a]
 rw[e];simp[Sq,Ab]
theorem ks0(J:n<=1000)(h:∀e∈ts,e.1<=e.2/\e.2<n)(z:∀k∈s,k<ts.length):Mx [Al n ts,Aa s]=.ok (.lst (Ab (Cz n (pick ts s)))):=by
 have⟨p,E,A⟩:=Ey (g:=gN 3) (b:=kg7) (λi m=>∃c a,m=[some (Al n ts),some (Aa s),some (.lst (Ab (Cz n (pick ts (s.take i))))),c,a]) (Ab s) 0
  [some (Al n ts),some (Aa s),some (.lst (Ab (List.range n))),none,none] ⟨none,none,rfl⟩ (λi d m l C=>by
   obtain⟨c,a,rfl⟩:=C;have j:i<s.length:=by have:=(QK.mp l).1;rwa [Aq]at this
   rw[Dy,GJ j]at l;have F:d=.int (s[i]:Int):=(Option.some.inj l).symm;subst F;have f:s[i]<ts.length:=z _ (RG j);have I:=h ts[s[i]] (RG f);rw[VV];generalize o:Cz n (pick ts (s.take i))=L;have B:L.length=n:=by rw[<-o];exact Q3 _ _
   have y:ixD (.tup (ts.map Mt)) (.int (s[i]:Int))=some (Mt ts[s[i]]):=kI (by simp[f]);have x:ixD (.lst (Ab L)) (.int ((ts[s[i]]).1:Int))=some (.int ((L.getD (ts[s[i]]).1 0:Nat):Int)):=Rm (by rw[Dy,GJ (by lia)];simp[show(ts[s[i]]).1<L.length by lia]);have w:ixD (.lst (Ab L)) (.int ((ts[s[i]]).2:Int))=some (.int ((L.getD (ts[s[i]]).2 0:Nat):Int)):=Rm (by rw[Dy,GJ (by lia)];simp[show(ts[s[i]]).2<L.length by lia]);have r:=ww8 L (L.getD (ts[s[i]]).1 0) (L.getD (ts[s[i]]).2 0) (by lia);have q:Cz n (pick ts (s.take (i+1)))=Hb L (L.getD (ts[s[i]]).1 0) (L.getD (ts[s[i]]).2 0):=by
    have H:s.take (i+1)=s.take i++[s[i]]:=by rw[List.take_succ_eq_append_getElem j]
    have G:ts.getD s[i] (0,0)=ts[s[i]]:=by rw[NQ,GJ f];rfl
    rw[H];unfold pick;rw[UG,List.map_singleton,U6,G];show Hb _ ((Cz n (pick ts (s.take i))).getD _ 0) ((Cz n (pick ts (s.take i))).getD _ 0)=_;rw[show(s.take i).map (λk=>ts.getD k (0,0))=pick ts (s.take i) from rfl,o]
   generalize L.getD (ts[s[i]]).1 0=u,L.getD (ts[s[i]]).2 0=v at *;refine⟨_,_,rfl,.inl (Ak (Bf (d:=Mt ts[s[i]]) (by simp[Al,y])) (Bf (d:=.lst (Ab (Hb L u v))) (by simp[Mt,x,w,r]))),some (.int (s[i]:Int)),some (Mt ts[s[i]]),?_⟩;rw[q];rfl)
 obtain⟨c,a,rfl⟩:=A;refine Bg (Ak (Bf (d:=.lst (Ab (List.range n))) (by simp[Ag,Al,range_list (show n<=16777216 by lia)])) (Ak (Ks (ds:=Ab s) (by simp[Ag,Aa]) E) (Bc ?_)));simp[Aq]
theorem jt1(l:List Nat)(m:Nat)(b:l.length<=1000):Zm [.lst (Ab l),.int (m:Int)]=.ok (.tup (Ab ((List.range l.length).filter λi=>l.getD i 0=m))):=by
 have e:Bl (jG (gv 0)) 2 [1] (gT [0,1]) (tb (b2 (gv 1) (gv 2) eqD)) (gv 0) (Ag 2 [.lst (Ab l),.int (m:Int)])=.ok (.lst (Ab ((List.range l.length).filter λi=>l.getD i 0=m))):=by
  refine Ec (wq9 (ds:=Ab l) (by simp[Ag])) (xs:=Ab ((List.range l.length).filter λi=>l.getD i 0=m)) ?_ (by rw[Aq];have:=TF (λi=>decide (l.getD i 0=m)) (List.range l.length);rw[NZ]at this;lia);rw[Ul (p:=λd=>match d with | .tup [_,.int z]=>decide (z=(m:Int)) |_=>false) (h:=λd=>match d with | .tup [x,_]=>x |d=>d)]
  ·rw[Zu,List.filter_map,TY];congr 1;unfold Ab;have:((λd=>match d with |D.tup [_,.int z]=>decide (z=(m:Int)) |_=>false)∘λ(i:Nat)=>D.tup [.int (i:Int),.int ((l.getD i 0:Nat):Int)])=λi=>decide (l.getD i 0=m):=by funext i;simp only[Function.comp];rw[decide_eq_decide];lia
   rw[this];rfl
  ·intro d a;rw[Zu]at a;obtain⟨i,_,rfl⟩:=JF.mp a;exact⟨_,rfl,by simp[Ag,Dp],λ_=>by simp[Ag,Dp]⟩
 exact Bg (Bc (by simp[e]))
def kv9(n:Nat)(p:Nat->Bool):((List.range n).filter p).Pairwise (·<·):=List.Pairwise.filter _ aY
def T8(n:Nat)(es:Ar):List D:=(Dl n es).map λm=>.tup (Ab (cls n es m))
def wg1(n:Nat)(es:Ar):(Dl n es).length<=n:=by have:=TF (λi=>decide (lab n es i=i)) (List.range n);simpa[Dl] using this
theorem ku3(u:n<=60)(h:∀e∈ts,e.1<=e.2/\e.2<n)(f:∀k∈s,k<ts.length):wQ [Al n ts,Aa s]=.ok (.lst (T8 n (pick ts s))):=by
 have j:=wi4 h f;have a:=Q3 n (pick ts s);have r:Dn [.lst (Ab (Cz n (pick ts s)))]=some (.lst (Ab (Dl n (pick ts s)))):=jf6 (by lia) (kv9 _ _) λk=>by
  constructor
  ·intro b;have⟨i,l,e⟩:=YZ.mp b;have:lab n (pick ts s) i=k:=by unfold lab;rw[NQ,GJ l,e];rfl
   rw[<-this];exact Jc j (by lia)
  ·intro b;have⟨w,p⟩:=Dj.mp b;have g:k<(Cz n (pick ts s)).length:=by lia
   have:(Cz n (pick ts s))[k]=k:=by have c:=p;unfold lab at c;rw[NQ,GJ g]at c;exact c
   rw[<-this];exact RG g
 refine Bg (Ak (Bf (d:=.lst (Ab (Cz n (pick ts s)))) (by simp[Ag,ks0 (show n<=1000 by lia) h f])) (Bc (Ec (ds:=Ab (Dl n (pick ts s))) (xs:=T8 n (pick ts s)) (by simp[Ag,r]) ?_ (by unfold T8;rw[HN];have:=wg1 n (pick ts s);lia))));have q:T8 n (pick ts s)=(Ab (Dl n (pick ts s))).map λd=>match d with | .int z=>.tup (Ab (cls n (pick ts s) z.toNat)) |d=>d:=by unfold T8 Ab;rw[TY];rfl
 rw[q];apply PD.comp_map;intro d o;obtain⟨m,v,rfl⟩:=K6.mp o;refine⟨_,rfl,?_⟩;have:=jt1 (Cz n (pick ts s)) m (by lia);rw[a]at this;simp[Ag,Dp,this];rfl
def wj5(b:n<=60)(h:∀e∈ts,e.1<=e.2/\e.2<n)(a:∀k∈s,k<ts.length):Ly [Al n ts,Aa s]=.ok (.int ((n:Int) - ((Dl n (pick ts s)).length:Int))):=by have e:=ku3 b h a;refine Bg (Bc ?_);simp only[Ag];simp[Al]at e ⊢;simp[e,T8]
def Jo{b:Type}{enc:b->D}{out:b->D}{f:Ev->R D}{ρ:Ev}:∀(l:List b),(∀a∈l,f (ρ.set 0 (some (enc a)))=.ok (out a))->Fv (gN 0) yes f ρ (l.map enc)=.ok (l.map out)
 | [],_=>rfl
 |a::l,c=>by have e:=c a LK;rw[NP,Fv,aH];simp[yes,e,Jo l λx g=>c x (JW _ g)]
def Kz{b:Type}{enc:b->D}{out:b->D}{t:Ev->R Bool}{f:Ev->R D}{ρ:Ev}{p:b->Bool}:∀(l:List b),(∀a∈l,t (ρ.set 0 (some (enc a)))=.ok (p a)/\f (ρ.set 0 (some (enc a)))=.ok (out a))->Fv (gN 0) t f ρ (l.map enc)=.ok ((l.filter p).map out)
 | [],_=>rfl
 |a::l,c=>by
  have⟨j,i⟩:=c a LK;have e:=Kz (t:=t) (f:=f) (ρ:=ρ) (p:=p) (enc:=enc) (out:=out) l λx h=>c x (JW _ h);rw[NP,Fv,aH];simp only[R.ok_bind,j];cases g:p a with
  |true=>simp[i,e,g]
  |false=>simp[e,g]
def restOf(m:Nat)(s:List Nat):List Nat:=(List.range m).filter λk=>!decide (k∈s)
variable {m:Nat}
theorem zN(h:m<=60):G4 [.int (m:Int)]=some (Aa (List.range m)):=by
 unfold G4;have e:Vt [.int (m:Int)]=some (0,(m:Int)):=by
  have a:-(2 ^ 62)<=(m:Int)/\(m:Int)<2 ^ 62/\(m:Int)<=16777216:=by lia
  dsimp only[Vt];rw[if_pos a]
 rw[e];simp[Sq,Ab,Aa]
def xY(m:Nat)(s:List Nat):(restOf m s).length<=m:=by have:=TF (λk=>!decide (k∈s)) (List.range m);rw[NZ]at this;exact this
def V3(n:Nat)(ts:Ar):ixD (Al n ts) (.int 1)=some (.tup (ts.map Mt)):=wr0
theorem all_eq(n:Nat)(ts:Ar)(c:ts.length<=50):Qt [Al n ts]=.ok (Aa (List.range ts.length)):=by have b:=zN (m:=ts.length) (by lia);have a:=V3 n ts;generalize Al n ts=W at *;exact Bg (Bc (by simp[Ag,a,b]))
theorem cell_eq(ns:List Int)(k:Nat):Uq [.lst (ns.map .int),.int (k:Int)]=.ok (.int (ns.getD k 0)):=by
 refine Bg ?_;by_cases a:k<ns.length
 ·have b:ixD (.lst (ns.map .int)) (.int (k:Int))=some (.int (ns.getD k 0)):=Rm (i:=k) (by simp[a]);refine Qm ((J1 (by simp[Ag,a])).trans (Bc (d:=.int (ns.getD k 0)) ?_));simp[Ag,b]
 ·have c:ns.getD k 0=0:=by rw[NQ,aX (by lia)];rfl
  rw[c];exact Ak ((Dd (by simp[Ag];lia)).trans rfl) (Bc (by simp))
def Fits(vs a:List Int):Prop:=vs.length=a.length/\∀i,i<a.length->0<=vs.getD i 0/\vs.getD i 0<a.getD i 0
variable {vs a:List Int}{z:Int}
theorem Fits.snoc{v:Int}(h:Fits vs a)(g:0<=v)(f:v<z):Fits (vs++[v]) (a++[z]):=by
 refine⟨by simp[h.1],λi c=>?_⟩;rw[PB,jGa]at c;simp only[NQ,List.getElem?_append,h.1];by_cases b:i<a.length
 ·have:=h.2 i b;simp only[NQ]at this;simpa[b] using this
 ·have e:i=a.length:=by lia
  subst e;simp[g,f]
def m5:Ev->R Fl:=ifS (tt (gv 4)) (sq (b7 5 (b2 (gv 3) (b2 (gv 2) (gv 6) ixD) Vr)) (asg 3 (b2 (gv 3) (b2 (gv 2) (gv 6) ixD) Ut)))
 (sq (asg 7 (b2 (b2 (gv 3) (b2 (kd (.int 1013)) (gv 6) Jv) Ca) (b2 (kd (.int 7)) (gv 1) Jv) Ca))
 (sq (asg 7 (b2 (b2 (b2 (gv 7) (gv 7) Jv) (b2 (kd (.int 30011)) (gv 7) Jv) Ca) (kd (.int 999983)) Vr))
 (b7 5 (b2 (b2 (b2 (b2 (b2 (gv 7) (gv 7) Jv) (b2 (kd (.int 7919)) (gv 7) Jv) Ca) (kd (.int 999979)) Vr) (kd (.int 5)) Ut) (b2 (gv 2) (gv 6) ixD) Vr))))
variable {o0 o1 o7:Option D}{c:Int}{i:Nat}
theorem ki7(f:a[i]? = some z)(b:0<z)(g:z<4611686018427387904)(k:vs.length<1000):
  m5 [o0,o1,some (.lst (a.map .int)),some (.int c),some (.bl true),some (.lst (vs.map .int)),some (.int (i:Int)),o7] =
   .ok (.nx [o0,o1,some (.lst (a.map .int)),some (.int (c / z)),some (.bl true),some (.lst ((vs++[c % z]).map .int)),some (.int (i:Int)),o7]):=by
 have e:ixD (.lst (a.map .int)) (.int (i:Int))=some (.int z):=Rm (i:=i) (by simp[f]);have j:Vr (.int c) (.int z)=some (.int (c % z)):=kE b;have h:Ut (.int c) (.int z)=some (.int (c / z)):=uW b g;refine(J1 (by simp)).trans (Ak (kJ (ds:=vs.map .int) (x:=.int (c % z)) rfl (by simp[e,j]) (by simp;lia)) ?_);refine(Bf (d:=.int (c / z)) (by simp[e,h])).trans ?_;simp
theorem ki8{at_:Nat}(E:a[i]? = some z)(l:0<z)(J:vs.length<1000)(L:0<=c)(F:c<1000000000000000000)(hi:i<1000)(M:at_<=100):
  ∃(v:Int)(o:Option D),0<=v/\v<z/\m5 [o0,some (.int (at_:Int)),some (.lst (a.map .int)),some (.int c),some (.bl false),some (.lst (vs.map .int)),some (.int (i:Int)),o7] =
   .ok (.nx [o0,some (.int (at_:Int)),some (.lst (a.map .int)),some (.int c),some (.bl false),some (.lst ((vs++[v]).map .int)),some (.int (i:Int)),o]):=by
 have I:ixD (.lst (a.map .int)) (.int (i:Int))=some (.int z):=Rm (i:=i) (by simp[E]);have C:Jv (.int 1013) (.int (i:Int))=some (.int (1013 * (i:Int))):=Lz (by decide) (by decide);have B:Jv (.int 7) (.int (at_:Int))=some (.int (7 * (at_:Int))):=Lz (by decide) (by decide);obtain⟨x,H⟩:∃x:Int,x=c+1013 * (i:Int)+7 * (at_:Int):=⟨_,rfl⟩;have O:0<=x/\x<2000000000000000000:=by lia
 have A:Jv (.int x) (.int x)=some (.int (x * x)):=Lz (by lia) (by lia);have w:Jv (.int 30011) (.int x)=some (.int (30011 * x)):=Lz (by decide) (by decide);have k:Vr (.int (x * x+30011 * x)) (.int 999983)=some (.int ((x * x+30011 * x) % 999983)):=kE (by decide);have b1:=qH (x * x+30011 * x) (b:=999983) (by decide);have j:=qP (x * x+30011 * x) (b:=999983) (by decide);obtain⟨y,G⟩:∃y:Int,y=(x * x+30011 * x) % 999983:=⟨_,rfl⟩;rw[<-G]at k b1 j;have u:Jv (.int y) (.int y)=some (.int (y * y)):=Lz (by lia) (by lia);have r:Jv (.int 7919) (.int y)=some (.int (7919 * y)):=Lz (by decide) (by decide);have q:Vr (.int (y * y+7919 * y)) (.int 999979)=some (.int ((y * y+7919 * y) % 999979)):=kE (by decide);have p:Ut (.int ((y * y+7919 * y) % 999979)) (.int 5)=some (.int ((y * y+7919 * y) % 999979 / 5)):=uW (by decide) (by decide);have e:Vr (.int ((y * y+7919 * y) % 999979 / 5)) (.int z)=some (.int ((y * y+7919 * y) % 999979 / 5 % z)):=kE l;obtain⟨v,h⟩:∃v:Int,v=(y * y+7919 * y) % 999979 / 5 % z:=⟨_,rfl⟩;have g:0<=v:=by rw[h];exact qH _ (by lia)
 have f:v<z:=by rw[h];exact qP _ l
 rw[<-h]at e;refine⟨v,some (.int y),g,f,?_⟩;refine(Dd (by simp)).trans (Ak (ρ1:=[o0,some (.int (at_:Int)),some (.lst (a.map .int)),some (.int c),some (.bl false),some (.lst (vs.map .int)),some (.int (i:Int)),some (.int x)]) (Bf (d:=.int x) (by simp[C,B,H])) ?_);refine Ak (ρ1:=[o0,some (.int (at_:Int)),some (.lst (a.map .int)),some (.int c),some (.bl false),some (.lst (vs.map .int)),some (.int (i:Int)),some (.int y)]) (Bf (d:=.int y) (by simp[A,w,k])) ?_;refine(kJ (ds:=vs.map .int) (x:=.int v) rfl (by simp[I,u,r,q,p,e]) (by simp;lia)).trans ?_;simp
theorem Ub(ns:List Int)(at_:Nat)(Q:at_<=100)(a:List Int)(O:∀z∈a,0<z/\z<4611686018427387904)(T:a.length<1000):
  ∃vs,Fits vs a/\Fj [.lst (ns.map .int),.int (at_:Int),.lst (a.map .int)]=.ok (.lst (vs.map .int)):=by
 have G:aF (.int 10) (.int 18)=some (.int 1000000000000000000):=nR (by decide);have J:=cell_eq ns at_;generalize ns.getD at_ 0=c at J;obtain⟨f,A,E⟩:∃f:Bool,(f=false->0<=c/\c<1000000000000000000)/\vo (b2 (gv 3) (kd (.int 0)) ltD) (b2 (gv 3) (b2 (kd (.int 10)) (kd (.int 18)) aF) geD) [some (.lst (ns.map .int)),some (.int (at_:Int)),some (.lst (a.map .int)),some (.int c),none,none,none,none]=.ok (.bl f):=by
  by_cases h:c<0
  ·exact⟨true,by simp,by simp[h]⟩
  ·by_cases r:1000000000000000000<=c
   ·exact⟨true,by simp,by simp[h,r,G]⟩
   ·exact⟨false,λ_=>by lia,by simp[h,r,G]⟩
 have⟨L,u,x⟩:=Ey (g:=gN 6) (b:=m5) (I:=λk F=>∃(vs:List Int)(c':Int)(o6 o7:Option D),Fits vs (a.take k)/\(f=false->c'=c) /\
   F=[some (.lst (ns.map .int)),some (.int (at_:Int)),some (.lst (a.map .int)),some (.int c'),some (.bl f),some (.lst (vs.map .int)),o6,o7])
  (Ab (List.range a.length)) 0 [some (.lst (ns.map .int)),some (.int (at_:Int)),some (.lst (a.map .int)),some (.int c),some (.bl f),some (.lst []),none,none]
  ⟨[],c,none,none,⟨by simp,λi P=>by simp at P⟩,λ_=>rfl,rfl⟩ (λi d F q x=>by
   rw[Dy]at q;cases u:(List.range a.length)[i]? with
   |none=>rw[u]at q;cases q
   |some k =>
    rw[u]at q;cases q;have⟨C,r⟩:=QK.mp u;simp at r C;subst r;rw[VV]at x ⊢;obtain⟨vs,c',o6,o7,l,B,rfl⟩:=x;have j:a[i]? = some a[i]:=GJ C;have w:=O a[i] (RG C);have p:vs.length<1000:=by rw[l.1,RC];lia
    have H:a.take (i+1)=a.take i++[a[i]]:=by rw[qM,j];rfl
    cases f with
    |true=>refine⟨_,_,aH,.inl (ki7 j w.1 w.2 p),vs++[c' % a[i]],c' / a[i],_,_,?_,by simp,rfl⟩;rw[H];exact l.snoc (qH _ (by lia)) (qP _ w.1)
    |false =>
     rw[B rfl];have⟨b1,b2⟩:=A rfl;have⟨v,o,M,v1,e⟩:=ki8 (o0:=some (.lst (ns.map .int))) (o7:=o7) (at_:=at_) (vs:=vs) j w.1 p b1 b2 (by lia) Q;refine⟨_,_,aH,.inl e,vs++[v],c,_,_,?_,λ_=>rfl,rfl⟩;rw[H];exact l.snoc M v1)
 obtain⟨vs,c',o6,o7,l,-,rfl⟩:=x;have y:0+(Ab (List.range a.length)).length=a.length:=by rw[Aq,NZ,VV]
 rw[y,lX]at l;refine⟨vs,l,Bg ?_⟩;refine Ak (Bf (d:=.int c) (by simp[Ag,J])) (Ak (Bf (d:=.bl f) (by simpa[Ag] using E)) (Ak (Bf (d:=.lst []) (by simp[Ke])) (Ak (Ks (ds:=Ab (List.range a.length)) ?_ u) (Bc (by simp)))));simp[Ag,Nx (n:=a.length) (by lia)]
theorem yn1(x y:Int):gP [.lst [.int x,.int y]]=some (.int (min x y)):=by
 have e:bQ [x,y]=min x y:=by
  show [x,y].getD (if decide (y<x)=true then 1 else 0) 0=_;by_cases h:y<x
  ·rw[if_pos (decide_eq_true h)];show y=_;lia
  ·rw[if_neg (by simp[h])];show x=_;lia
 show(Ax [.int x,.int y]).map (λb=>D.int (bQ b))=_;rw[show Ax [D.int x,.int y]=some [x,y] from rfl,qG,e]
theorem top2(x y:Int):gQ [.lst [.int x,.int y]]=some (.int (max x y)):=by
 have e:bJ [x,y]=max x y:=by
  show [x,y].getD (if decide (y>x)=true then 1 else 0) 0=_;by_cases h:y>x
  ·rw[if_pos (decide_eq_true h)];show y=_;lia
  ·rw[if_neg (by simpa using h)];show x=_;lia
 show(Ax [.int x,.int y]).map (λb=>D.int (bJ b))=_;rw[show Ax [D.int x,.int y]=some [x,y] from rfl,qG,e]
theorem wr6(m:Nat)(u v:Int)(h:0<=u)(f:u<m)(g:0<=v)(b:v<m):∃e:Nat×Nat,e.1<=e.2/\e.2<m/\D.tup [.int (min u v),.int (max u v)]=Mt e:=by refine⟨((min u v).toNat,(max u v).toNat),by simp;lia,by simp;lia,?_⟩;simp only[Mt];rw[fK (by lia),fK (by lia)]
theorem wz5(h:2 * i+2<=vs.length):slA (.lst (vs.map .int)) (some ((2 * i:Nat):Int)) (some ((2 * i+2:Nat):Int))=some (.lst [.int (vs.getD (2 * i) 0),.int (vs.getD (2 * i+1) 0)]):=by
 show some (D.lst (cutD (vs.map .int) (some ((2 * i:Nat):Int)) (some ((2 * i+2:Nat):Int))))=_;unfold cutD;rw[HT.vL,HT.vL,HN,dF (by lia),dF (by lia),show 2 * i+2 - 2 * i=2 by lia];have e:2 * i<(vs.map D.int).length:=by rw[HN];lia
 have b:2 * i+1<(vs.map D.int).length:=by rw[HN];lia
 rw[cG e,cG b];simp[NQ,show 2 * i<vs.length by lia,show 2 * i+1<vs.length by lia]
def weB:Ev->R Fl:=(b7 7 (bA (zv (bA (zv (bS (gv 6) (p1 (b2 (kd (.int 2)) (gv 8) Jv)) (p1 (b2 (b2 (kd (.int 2)) (gv 8) Jv) (kd (.int 2)) Ca)) slA) a0) gP) (zv (bA (zv (bS (gv 6) (p1 (b2 (kd (.int 2)) (gv 8) Jv)) (p1 (b2 (b2 (kd (.int 2)) (gv 8) Jv) (kd (.int 2)) Ca)) slA) a0) gQ) a0)) Ra))
variable {o2 o3 o4 o5:Option D}
theorem wm3(h:2 * i+2<=vs.length)(g:∀j,j<vs.length->0<=vs.getD j 0/\vs.getD j 0<m)(y:ts.length<100):∃e:Nat×Nat,e.1<=e.2/\e.2<m /\
  weB [o0,o1,o2,o3,o4,o5,some (.lst (vs.map .int)),some (.lst (ts.map Mt)),some (.int (i:Int))]=.ok (.nx [o0,o1,o2,o3,o4,o5,some (.lst (vs.map .int)),some (.lst ((ts++[e]).map Mt)),some (.int (i:Int))]):=by
 have b1:=g (2 * i) (by lia);have b:=g (2 * i+1) (by lia);have⟨e,w,r,q⟩:=wr6 m (vs.getD (2 * i) 0) (vs.getD (2 * i+1) 0) b1.1 b1.2 b.1 b.2;have f:=wz5 h;have o:=yn1 (vs.getD (2 * i) 0) (vs.getD (2 * i+1) 0);have l:=top2 (vs.getD (2 * i) 0) (vs.getD (2 * i+1) 0);generalize vs.getD (2 * i) 0=u,vs.getD (2 * i+1) 0=v at *;have k:Jv (.int 2) (.int (i:Int))=some (.int (2 * (i:Int))):=Lz (by decide) (by decide);rw[show((2 * i+2:Nat):Int)=2 * (i:Int)+2 by lia,show((2 * i:Nat):Int)=2 * (i:Int) by lia]at f;refine⟨e,w,r,?_⟩;have p:(ts.map Mt).length<16777216:=by rw[HN];lia
 rw[UG];generalize ts.map Mt=TS,vs.map D.int=A at *;refine(kJ (ds:=TS) (x:=Mt e) rfl ?_ p).trans rfl;simp[k,f,o,l,Em,q]
theorem wz9(ns:List Int)(at_ p q:Nat)(ha:at_<=50)(hp:1<=p)(T:p<=20)(hq:q<=20):∃n ts,(1<=n/\n<=p/\ts.length<=q/\∀e∈ts,e.1<=e.2/\e.2<n)/\Qq [.lst (ns.map .int),.int (at_:Int),.int (p:Int),.int (q:Int)]=.ok (Al n ts):=by
 have⟨vs,Q,o⟩:=Ub ns at_ (by lia) [(p:Int),(q:Int)+1] (by intro z C;simp at C;lia) (by simp);obtain⟨a,b,rfl,Z,Y⟩:∃a b,vs=[a,b]/\(0<=a/\a<p)/\(0<=b/\b<(q:Int)+1):=by
  match vs,Q with
  | [a,b],h=>exact⟨a,b,rfl,by simpa using h.2 0 (by simp),by simpa using h.2 1 (by simp)⟩
  | [],h=>exact absurd h.1 (by simp)
  | [_],h=>exact absurd h.1 (by simp)
  |_::_::_::_,h=>exact absurd h.1 (by simp)
 simp only[NP,eZ]at o;obtain⟨A,rfl⟩:∃A:Nat,a=(A:Int):=⟨a.toNat,by lia⟩;obtain⟨B,rfl⟩:∃B:Nat,b=(B:Int):=⟨b.toNat,by lia⟩;have⟨vs,r,w⟩:=Ub ns (at_+1) (by lia) (List.replicate (2 * B) ((A:Int)+1)) (by intro z C;rw[List.mem_replicate]at C;lia) (by rw[dO];lia);have H:vs.length=2 * B:=by rw[r.1,dO]
 have E:∀j,j<vs.length->0<=vs.getD j 0/\vs.getD j 0<((A+1:Nat):Int):=λj hj=>by have:=r.2 j (by rw[dO];lia);rw[NQ (l:=List.replicate _ _),mK,if_pos (by lia)]at this;simp only[WD]at this;lia
 have P:Jv (.int 2) (.int (B:Int))=some (.int (2 * (B:Int))):=Lz (by decide) (by decide);have O:bN (.lst [.int ((A:Int)+1)]) (.int (2 * (B:Int)))=some (.lst ((List.replicate (2 * B) ((A:Int)+1)).map .int)):=by
  have X:-(2 ^ 63)<=2 * (B:Int)/\2 * (B:Int)<2 ^ 63/\[D.int ((A:Int)+1)].length * (2 * (B:Int)).toNat<=16777216:=by refine⟨by lia,by lia,?_⟩;simp;lia
  simp only[bN];rw[if_pos X,show(2 * (B:Int)).toNat=2 * B by lia];simp
 rw[show((at_+1:Nat):Int)=(at_:Int)+1 by lia]at w;generalize ns.map D.int=x at *;generalize (List.replicate (2 * B) ((A:Int)+1)).map D.int=RP at *;have⟨M,el,v⟩:=Ey (g:=gN 8) (b:=weB) (I:=λj G=>j<=B->∃(ts:Ar)(y:Option D),ts.length=j/\(∀e∈ts,e.1<=e.2/\e.2<A+1)/\G=[some (.lst x),some (.int (at_:Int)),some (.int (p:Int)),some (.int (q:Int)),some (.int (A:Int)),some (.int (B:Int)),some (.lst (vs.map .int)),some (.lst (ts.map Mt)),y])
  (Ab (List.range B)) 0 [some (.lst x),some (.int (at_:Int)),some (.int (p:Int)),some (.int (q:Int)),some (.int (A:Int)),some (.int (B:Int)),some (.lst (vs.map .int)),some (.lst []),none] (λ_=>⟨[],none,rfl,by simp,rfl⟩) (λi d G u v=>by
   rw[Dy]at u;cases o:(List.range B)[i]? with
   |none=>rw[o]at u;cases u
   |some k =>
    rw[o]at u;cases u;have⟨h1,L⟩:=QK.mp o;simp at L h1;subst L;rw[VV]at v ⊢;obtain⟨ts,y,J,F,rfl⟩:=v (by lia);have⟨e,e1,e2,e3⟩:=wm3 (o0:=some (.lst x)) (o1:=some (.int (at_:Int))) (o2:=some (.int (p:Int))) (o3:=some (.int (q:Int))) (o4:=some (.int (A:Int))) (o5:=some (.int (B:Int))) (vs:=vs) (ts:=ts) (i:=i) (m:=A+1) (by lia) E (by lia);refine⟨_,_,aH,.inl e3,λ_=>⟨ts++[e],_,by simp[J],λf U=>?_,rfl⟩⟩;rcases NT.mp U with z |z
    ·exact F f z
    ·rw[LR.mp z];exact⟨e1,e2⟩)
 rw[Aq,NZ,VV]at v;obtain⟨ts,y,J,F,rfl⟩:=v (FW _);refine⟨A+1,ts,⟨by lia,by lia,by lia,F⟩,?_⟩;have et:Ra [.int ((A:Int)+1),.tup (ts.map Mt)]=some (Al (A+1) ts):=(Em (by simp)).trans (by rw[Al,show((A+1:Nat):Int)=(A:Int)+1 by lia]);generalize Al (A+1) ts=W,ts.map Mt=TS,vs.map D.int=VD at *;refine Bg (Ak (ρ1:=[some (.lst x),some (.int (at_:Int)),some (.int (p:Int)),some (.int (q:Int)),some (.int (A:Int)),some (.int (B:Int)),none,none,none]) (by simp[Ag,Ke,o]) (Ak (Bf (d:=.lst VD) (by simp[Ke,P,O,w])) (Ak (Bf (d:=.lst []) (by simp[Ke])) (Ak (Ks (ds:=Ab (List.range B)) (by simp[Nx (n:=B) (by lia)]) el) (Bc ?_)))));simp[et]
def maB:Ev->R Fl:=(sq (jN (gT [4,5]) (b2 (b2 (gv 0) (kd (.int 1)) ixD) (gv 3) ixD))
 (sq (asg 6 (b2 (gv 2) (gv 5) ixD))
 (sq (asg 7 (b2 (gv 2) (gv 4) ixD))
 (asg 2 (Bl (itS (gv 2)) 1 [6,7] (gN 0) yes (ife (tb (b2 (gv 0) (gv 1) eqD)) (gv 2) (gv 0)))))))
variable {l:List Nat}
def v9(h:i<l.length):ixD (.lst (Ab l)) (.int (i:Int))=some (.int (l.getD i 0:Nat)):=Rm (i:=i) (by
 rw[Dy,NQ,GJ h];rfl)
variable {k:Nat}{o6:Option D}
theorem wf8{M:List Nat}{a b:Nat}(u:ts[k]? = some (a,b))(E:M.length<=100)(w:a<M.length)(v:b<M.length):∃p o j g,maB [some (Al n ts),o1,some (.lst (Ab M)),some (.int (k:Int)),o4,o5,o6,o7] =
  .ok (.nx [some (Al n ts),o1,some (.lst (Ab (M.map λz=>if z=M.getD b 0 then M.getD a 0 else z))),some (.int (k:Int)),p,o,j,g]):=by
 have f:=V3 n ts;have y:ixD (.tup (ts.map Mt)) (.int (k:Int))=some (.tup [.int (a:Int),.int (b:Int)]):=kI (by rw[QX,u];rfl);have r:=v9 w;have q:=v9 v;have e:=Aq M;generalize Al n ts=W at *;refine⟨some (.int (a:Int)),some (.int (b:Int)),some (.int (M.getD b 0:Nat)),some (.int (M.getD a 0:Nat)),Ak (ρ1:=[some W,o1,some (.lst (Ab M)),some (.int (k:Int)),some (.int (a:Int)),some (.int (b:Int)),o6,o7]) (by simp[f,y]) (Ak (Bf (d:=.int (M.getD b 0:Nat)) (by simp[q])) (Ak (Bf (d:=.int (M.getD a 0:Nat)) (by simp[r])) ((Bf (d:=.lst (Ab (M.map λz=>if z=M.getD b 0 then M.getD a 0 else z))) ?_).trans rfl)))⟩;refine Ec (ds:=Ab M) (by simp) ?_ (by rw[Aq,HN];lia);unfold Ab;rw[TY];refine Jo M λz C=>?_;generalize M.getD a 0=A,M.getD b 0=B at *;by_cases h:z=B
 ·simp[Dp,h]
 ·have x:¬ (z:Int)=(B:Int):=by lia
  simp[Dp,h,x]
variable {f:D}
theorem kg9(C:J3 f=some (Ab s))(hn:n<=50)(h:∀e∈ts,e.1<=e.2/\e.2<n)(y:∀k∈s,k<ts.length):∃M,b_ n (Bj ts s) M/\Rk [Al n ts,f]=.ok (.lst (Ab M)):=by
 have hw:InW n (Bj ts s):=λe q=>by obtain⟨k,p,rfl⟩:=JF.mp q;rw[NQ,GJ (y k p)];have:=h (ts[k]'(y k p)) (RG _);simp only[WD];have:=y k p;lia
 have L:ixD (Al n ts) (.int 0)=some (.int (n:Int)):=uV;have O:=range_list (n:=n) (by lia);have⟨J,P,A⟩:=Ey (g:=gN 3) (b:=maB) (I:=λk F=>∃M E x w v u,b_ n (Bj ts (s.take k)) M/\F=[some (Al n ts),some f,some (.lst (Ab M)),E,x,w,v,u])
  (Ab s) 0 [some (Al n ts),some f,some (.lst (Ab (List.range n))),none,none,none,none,none] ⟨List.range n,none,none,none,none,none,by rw[p_];exact wt9 n,rfl⟩ (λi d F r A=>by
   rw[Dy]at r;cases B:s[i]? with
   |none=>rw[B]at r;cases r
   |some k =>
    rw[B]at r;cases r;rw[VV]at A ⊢;obtain⟨M,E,x,w,v,u,o,rfl⟩:=A;have p:=y k (XX B);obtain⟨⟨a,b⟩,q⟩:∃e,ts[k]? = some e:=⟨ts[k],GJ p⟩;have j:=h (a,b) (XX q);have H:a<n:=by have:=j.1;have:=j.2;simp at *;lia
    have G:b<n:=j.2;have⟨Z,Y,X,U,T⟩:=wf8 (n:=n) (ts:=ts) (M:=M) (k:=k) (o1:=some f) (o4:=x) (o5:=w) (o6:=v) (o7:=u) q (by rw[o.1];lia) (by rw[o.1];exact H) (by rw[o.1];exact G);refine⟨_,_,aH,.inl T,_,_,_,_,_,_,?_,rfl⟩;rw[qM,B];have Q:Bj ts (s.take i++(some k).toList)=Bj ts (s.take i)++[(a,b)]:=by unfold Bj;rw[UG];simp[NQ,q]
    rw[Q];exact wg3 (wg5 o G H))
 obtain⟨M,E,x,w,v,u,o,rfl⟩:=A;rw[Aq,VV,lX]at o;refine⟨M,o,?_⟩;generalize Al n ts=W at *;exact Bg (Ak (Bf (d:=.lst (Ab (List.range n))) (by simp[Ag,L,O])) (Ak (Ks (ds:=Ab s) (by simp[Ag,C]) P) (Bc (by simp))))
theorem wt4(j:J3 f=some (Ab s))(C:n<=50)(h:∀e∈ts,e.1<=e.2/\e.2<n)(g:∀k∈s,k<ts.length):Fw [Al n ts,f]=.ok (.int ((n:Int) - (cc n (Bj ts s):Nat))):=by
 have B:InW n (Bj ts s):=λe E=>by obtain⟨k,b,rfl⟩:=JF.mp E;rw[NQ,GJ (g k b)];have:=h (ts[k]'(g k b)) (RG _);simp only[WD];have:=g k b;lia
 have v:ixD (Al n ts) (.int 0)=some (.int (n:Int)):=uV;have⟨M,r,H⟩:=kg9 j C h g;have p:Jd [.lst (Ab M)]=some (M.map λ(x:Nat)=>(x:Int)):=by show(if(Ab M).length<64 then Ax (Ab M) else none)=_;rw[if_pos (by rw[Aq,r.1];lia),Ma]
 have F:(M5 (M.map λ(x:Nat)=>(x:Int))).length=cc n (Bj ts s):=by
  rw[<-kt2 (L:=(M5 (M.map λ(x:Nat)=>(x:Int))).map Int.toNat) B r ?_ λz=>?_,HN]
  ·unfold List.Nodup;rw[cC];refine List.Pairwise.imp_of_mem (λ{x y} o A q z=>q ?_) (G8 _);obtain⟨u,_,rfl⟩:=JF.mp ((Ew x _).mp o);obtain⟨I,_,rfl⟩:=JF.mp ((Ew y _).mp A);simp at z;lia
  ·rw[JF];constructor
   ·rintro⟨k,b,rfl⟩;obtain⟨u,o,rfl⟩:=JF.mp ((Ew k _).mp b);simpa using o
   ·intro w;exact⟨(z:Int),(Ew _ _).mpr (JF.mpr ⟨z,w,rfl⟩),by simp⟩
 have G:K5 [.lst (Ab M)]=some (.int (cc n (Bj ts s):Nat)):=by unfold K5;rw[p,qG,F]
 generalize Al n ts=W at *;exact Bg (Bc (by simp[Ag,v,H,G]))
def Xq(g:n<=50)(h:∀e∈ts,e.1<=e.2/\e.2<n)(b:∀k∈s,k<ts.length):Fw [Al n ts,Aa s]=.ok (.int ((n:Int) - (cc n (Bj ts s):Nat))):=wt4 rfl g h b
theorem wa7(k t:Nat):(k:Int) / 2 ^ t % 2=((k / 2 ^ t % 2:Nat):Int):=by have:((2:Int) ^ t)=((2 ^ t:Nat):Int):=(qF 2 t).symm;rw[this,<-z7];lia
theorem wh3(o:m<=20):bA (zv (Bl (itR Ol (zv (gv 0) a0)) 1 [2] (gN 0) (tb (b2 (b2 (b2 (gv 1) (gv 0) bL) (kd (.int 1)) Wk) (kd (.int 1)) eqD)) (gv 0)) a0) Dr [some (.int (m:Int)),o1,some (.int (k:Int))]=.ok (Aa (bits m k)):=by
 have g:Bl (itR Ol (zv (gv 0) a0)) 1 [2] (gN 0) (tb (b2 (b2 (b2 (gv 1) (gv 0) bL) (kd (.int 1)) Wk) (kd (.int 1)) eqD)) (gv 0) [some (.int (m:Int)),o1,some (.int (k:Int))]=.ok (.lst (Ab (bits m k))):=by
  refine Ec (ds:=Ab (List.range m)) (by simp[Nx (n:=m) (by lia)]) ?_ (by rw[Aq];unfold bits;have:=TF (λt=>decide (k / 2 ^ t % 2=1)) (List.range m);rw[NZ]at this;lia);refine Kz (List.range m) λt j=>?_;have e:bL (.int (k:Int)) (.int (t:Int))=some (.int ((k:Int) / 2 ^ t)):=by simp only[bL];rw[if_pos (by lia),XQ]
  have b:Wk (.int ((k:Int) / 2 ^ t)) (.int 1)=some (.int ((k / 2 ^ t % 2:Nat):Int)):=by simp only[Wk];rw[PyProof.Rows.bitAnd_m1,wa7]
  refine⟨?_,by simp[Dp]⟩;have h:decide (((k / 2 ^ t % 2:Nat):Int)=1)=decide (k / 2 ^ t % 2=1):=by rw[decide_eq_decide];lia
  simp only[Dp];simp[e,b,-Int.natCast_emod,-z7,h]
 rw[Th,M6,g];simp[Aa]
theorem ks5(r:m<=20):Nk [.int (m:Int)]=.ok (.lst ((List.range (2 ^ m)).map λk=>Aa (bits m k))):=by
 have A:2 ^ m<=1048576:=fL (n:=2) (by decide) r;have w:f9 (.int 1) (.int (m:Int))=some (.int ((2 ^ m:Nat):Int)):=by simp only[f9];rw[if_pos ⟨by lia,by lia,by decide⟩,XQ,Int.one_mul,qF];rfl
 have⟨v,y,h⟩:=Ey (g:=gN 2) (b:=b7 1 (bA (zv (Bl (itR Ol (zv (gv 0) a0)) 1 [2] (gN 0) (tb (b2 (b2 (b2 (gv 1) (gv 0) bL) (kd (.int 1)) Wk) (kd (.int 1)) eqD)) (gv 0)) a0) Dr)) (I:=λj q=>j<=2 ^ m->∃o,q=[some (.int (m:Int)),some (.lst ((List.range j).map λk=>Aa (bits m k))),o])
  (Ab (List.range (2 ^ m))) 0 [some (.int (m:Int)),some (.lst []),none] (λ_=>⟨none,rfl⟩) (λi d q e h=>by
   rw[Dy]at e;cases p:(List.range (2 ^ m))[i]? with
   |none=>rw[p]at e;cases e
   |some k =>
    rw[p]at e;cases e;have⟨x,u⟩:=QK.mp p;simp at u x;subst u;rw[VV]at h ⊢;obtain⟨o,rfl⟩:=h (by lia);refine⟨[some (.int (m:Int)),some (.lst ((List.range i).map λk=>Aa (bits m k))),some (.int (i:Int))],_,rfl,.inl (kJ (ds:=(List.range i).map λk=>Aa (bits m k)) rfl (wh3 r) (by rw[HN,NZ];lia)),λ_=>⟨some (.int (i:Int)),?_⟩⟩;rw[lV,UG];rfl)
 rw[Aq,NZ,VV]at h;obtain⟨o,rfl⟩:=h (FW _);generalize ((List.range (2 ^ m)).map λk=>Aa (bits m k))=X at *;exact Bg (Ak (Bf (d:=.lst []) (by simp[Ke])) (Ak (Ks (ds:=Ab (List.range (2 ^ m))) (by simp only[Ag,yc8,M6,eF,yl4,yl2];simp[w,-qF,Nx (n:=2 ^ m) (by lia)]) y) (Bc (by simp))))
def Sh(g:n<=60)(h:∀e∈ts,e.1<=e.2/\e.2<n)(b:Kn ts s):Ly [Al n ts,Aa s]=.ok (.int ((n:Int) - (cN n ts s:Nat))):=wj5 g h b
variable {it:Ev->R (List D)}{caps:List Nat}{ρ:Ev}
theorem Eo{p:Nat->Bool}{t:Ev->R Bool}{B:Ev}(hi:it ρ=.ok (Ab s))(e:Dp 1 caps ρ=none::B)(ht:∀x∈s,t (some (.int (x:Int))::B)=.ok (p x))(g:s.length<=100000):Bl it 1 caps (gN 0) t (gv 0) ρ=.ok (.lst (Ab (s.filter p))):=by refine Ec (ds:=Ab s) hi ?_ (by rw[Aq];exact QW (TF _ _) (by lia));rw[e];unfold Ab;exact Kz s λx b=>⟨ht x b,by simp⟩
theorem wu1(x k:Nat):neD (.int (x:Int)) (.int (k:Int))=some (.bl (decide (x≠k))):=by
 rw[j_];refine congrArg (λz=>some (D.bl z)) ?_;by_cases h:x=k
 ·subst h;simp
 ·have:¬ (x:Int)=(k:Int):=by lia
  simp[h,this]
theorem v8(b:s.length<=1000):Lx [Aa s,.int (k:Int)]=.ok (Aa (wo s k)):=by
 have c:Bl (itS (gv 0)) 1 [1] (gN 0) (tb (b2 (gv 0) (gv 1) neD)) (gv 0) [some (Aa s),some (.int (k:Int))]=.ok (.lst (Ab (wo s k))):=
  Eo (B:=[some (.int (k:Int))]) (by simp[Aa]) rfl (λx _=>by simp only[jJ,eF,gv0,ym4,R.ok_bind,wu1,R.of_some,wq8]) (by lia)
 refine Bg (Bc ?_);show bA _ _ [some (Aa s),some (.int (k:Int))]=_;rw[Th,M6,c];simp[Aa]
def pN{s:List Nat}{x:Nat}:inD (.int (x:Int)) (Aa s)=some (.bl (decide (x∈s))):=wB (l:=s) rfl decide_eq_true_iff
def yH{s:List Nat}{x:Nat}:aG (.int (x:Int)) (Aa s)=some (.bl (!decide (x∈s))):=kt7 (l:=s) rfl decide_eq_true_iff
variable {F:List Nat}
theorem k_(g:ts.length<=50):Tg [Al n ts,Aa F]=.ok (Aa (restOf ts.length F)):=by
 have h:=all_eq n ts g;have e:=@yH F;have c:Bl (itS (cl (zv (gv 0) a0) Qt)) 1 [1] (gN 0) (tb (b2 (gv 0) (gv 1) aG)) (gv 0) [some (Al n ts),some (Aa F)]=.ok (.lst (Ab (restOf ts.length F))):=by
  refine Eo (s:=List.range ts.length) (B:=[some (Aa F)]) ?_ rfl (λx _=>?_) (by rw[NZ];lia)
  ·have b:J3 (Aa (List.range ts.length))=some (Ab (List.range ts.length)):=rfl;generalize Aa (List.range ts.length)=j,Al n ts=W at *;simp[h,b]
  ·have:=e (x:=x);generalize Aa F=o at *;simp[this]
 refine Bg (Bc ?_);show bA _ _ [some (Al n ts),some (Aa F)]=_;rw[Th,M6,c];simp[Aa]
def Vj(h:s.Pairwise (·<·))(e:∀k∈s,k<m):(List.range m).filter (λk=>decide (k∈s))=s:=by refine eq_of_sorted (le:=λa b=>a<b) ((cH (iH.filter _) (h.imp λ{a b} z=>JV z)).mpr λk=>?_) (List.Pairwise.filter _ aY) h λa _ b _ j g=>absurd j (Nat.lt_asymm g);rw[QD,KY,decide_eq_true_iff];exact⟨λz=>z.2,λz=>⟨e k z,z⟩⟩
structure For(n:Nat)(ts:Ar)(F:List Nat):Prop where
 up:F.Pairwise (·<·)
 fo:dC n ts F
def vW(s:List Nat):(Aa s).pl 1=true:=by show Eh 0 _=true;exact Jf.mpr (Pq _)
def Pn(ts:Ar):Bj ts (List.range ts.length)=ts:=by
 unfold Bj;apply dG
 ·simp
 ·intro i e b;simp[b]
theorem T9(I:n<=50)(A:ts.length<=50)(h:∀e∈ts,e.1<=e.2/\e.2<n)(g:For n ts F):Bd [Al n ts,Aa F]=.ok .non:=by
 have G:=all_eq n ts A;have j:=Sh (n:=n) (ts:=ts) (s:=List.range ts.length) (by lia) h λk C=>KY.mp C;have o:=Sh (n:=n) (ts:=ts) (s:=F) (by lia) h g.fo.kn;have E:cN n ts (List.range ts.length)=cc n ts:=by unfold cN;rw[Pn]
 have fr:=g.fo.fr;have H:=g.fo.sp;unfold Fr at fr;rw[E]at j;have w:Gu [Aa F]=some (.int (F.length:Nat)):=by show some (D.int _)=_;rw[Aq]
 have y:=@pN F;have r:=Vj (m:=ts.length) g.up g.fo.kn;have ne:=Ti (n:=1) (by lia) (vW F);have e:Nq [Al n ts,Aa F]=.ok (.bl true):=by
  have c:Bl (itS (gv 2)) 1 [1] (gN 0) (tb (b2 (gv 0) (gv 1) inD)) (gv 0) [some (Al n ts),some (Aa F),some (Aa (List.range ts.length))]=.ok (.lst (Ab F)):=by
   have:=Eo (s:=List.range ts.length) (p:=λk=>decide (k∈F)) (it:=itS (gv 2)) (caps:=[1]) (t:=tb (b2 (gv 0) (gv 1) inD)) (ρ:=[some (Al n ts),some (Aa F),some (Aa (List.range ts.length))]) (B:=[some (Aa F)]) (by simp[Aa]) rfl (λx _=>by
    have:=y (x:=x);generalize Aa F=b at *;simp[this]) (by rw[NZ];lia)
   rw[r]at this;exact this
  have tF:Dr [.lst (Ab F)]=some (Aa F):=Gm;have v:((F.length:Nat):Int)=(n:Int) - (cc n ts:Nat):=by lia
  have u:(n:Int) - (cN n ts F:Nat)=((F.length:Nat):Int):=by lia
  rw[<-v]at j;rw[u]at o;generalize Ab F=J,Al n ts=W,Aa (List.range ts.length)=q,Aa F=b at *;refine Bg (Ak (Bf (d:=q) (by simp[Ag,G])) (Ak ((Dd ?_).trans rfl) (Bc ?_)))
  ·show tb (b2 (bA (zv (Bl (itS (gv 2)) 1 [1] (gN 0) (tb (b2 (gv 0) (gv 1) inD)) (gv 0)) a0) Dr) (gv 1) neD) [some W,some b,some q]=_;rw[jJ,eF,Th,M6,c];simp[tF,ne]
  ·simp[Ag,w,j,o]
 generalize Al n ts=W,Aa F=b at *;show Ci 2 Ff [W,b]=_;rw[oX,show Ff (Ag 2 [W,b])=.ok (.nx (Ag 2 [W,b])) from(Dd (by simp[Ag,e])).trans rfl,uX]
def Fq:k∈restOf m F↔k<m/\k∉F:=by unfold restOf;rw[QD,KY];simp
def mo(m:Nat)(F:List Nat)(t:Nat):List Nat:=(List.range m).filter λk=>decide (k∈F) ||decide (k=t)
def Q5{t:Nat}:k∈mo m F t↔k<m/\(k∈F\/k=t):=by unfold mo;rw[QD,KY,ZW,decide_eq_true_iff,decide_eq_true_iff]
def Gz(n:Nat)(ts:Ar)(F:List Nat)(t:Nat):List Nat:=(mo ts.length F t).filter λo=>decide (cN n ts (wo (mo ts.length F t) o)+F.length=n)
theorem wN{c l:Nat}:decide ((n:Int) - (c:Nat)=((l:Nat):Int))=decide (c+l=n):=by rw[decide_eq_decide];lia
def uF(m:Nat)(F:List Nat)(t:Nat):(mo m F t).length<=m:=by have:=TF (λk=>decide (k∈F) ||decide (k=t)) (List.range m);rw[NZ]at this;exact this
def oO(h:Kn ts s)(b:s.Nodup):s.length<=ts.length:=by have:=Pk b (m:=List.range ts.length) λk e=>KY.mpr (h k e);rwa [NZ]at this
theorem Sd{t:Nat}(J:n<=50)(L:ts.length<=50)(h:∀e∈ts,e.1<=e.2/\e.2<n)(g:For n ts F)(ht:t<ts.length)(j:t∉F):Nt [Al n ts,Aa F,.int (t:Int)]=.ok (Aa (Gz n ts F t)):=by
 have C:=oO g.fo.kn g.fo.nd;have H:Ca (Aa F) (.tup [.int (t:Int)])=some (Aa (F++[t])):=(Wx (by rw[Aq];simp;lia)).trans (by unfold Aa Ab;rw[UG];rfl);have u:Cq [Aa (F++[t])]=some (.lst (Ab (mo ts.length F t))):=Km (l:=F++[t]) (by simp;lia) (fG.mpr ⟨g.fo.nd,by simp,λa A b y e=>j (by rw[LR.mp y]at e;exact e ▸ A)⟩) (List.Pairwise.filter _ aY) (λk=>by
  show k∈F++[t]↔k∈mo ts.length F t;rw[Q5,NT,LR];constructor
  ·rintro(z |rfl)
   ·exact⟨g.fo.kn k z,.inl z⟩
   ·exact⟨ht,.inr rfl⟩
  ·exact λz=>z.2) rfl
 have v:Gu [Aa F]=some (.int (F.length:Nat)):=by show some (D.int _)=_;rw[Aq]
 have c:Bl (itS (gv 3)) 1 [0,3,1] (gN 0) (tb (b2 (cl (zv (gv 1) (zv (cl (zv (gv 2) (zv (gv 0) a0)) Lx) a0)) Ly) (bA (zv (gv 3) a0) Gu) eqD)) (gv 0) [some (Al n ts),some (Aa F),some (.int (t:Int)),some (Aa (mo ts.length F t))]=.ok (.lst (Ab (Gz n ts F t))):=by refine Eo (s:=mo ts.length F t) (B:=[some (Al n ts),some (Aa (mo ts.length F t)),some (Aa F)]) (by simp[Aa]) rfl (λx _=>?_) (by have:=uF ts.length F t;lia);have G:=v8 (s:=mo ts.length F t) (k:=x) (by have:=uF ts.length F t;lia);have E:=Sh (n:=n) (ts:=ts) (s:=wo (mo ts.length F t) x) (by lia) h λk w=>(Q5.mp (Hn.mp w).1).1;generalize Aa (wo (mo ts.length F t) x)=M,Aa (mo ts.length F t)=o,Aa F=p,Al n ts=W at *;rw[<-wN];simp[G,E,v]
 generalize Al n ts=W at *;have r:Dr [.lst (Ab (mo ts.length F t))]=some (Aa (mo ts.length F t)):=Gm;have q:Dr [.lst (Ab (Gz n ts F t))]=some (Aa (Gz n ts F t)):=Gm;generalize Ab (mo ts.length F t)=Q,Ab (Gz n ts F t)=P,Aa (mo ts.length F t)=o,Aa (Gz n ts F t)=O,Aa (F++[t])=I,Aa F=p at *;refine Bg (Ak (Bf (d:=o) (by simp[Ag,Em,H,u,r])) (Bc ?_));show bA (zv (Bl (itS (gv 3)) 1 [0,3,1] (gN 0) (tb (b2 (cl (zv (gv 1) (zv (cl (zv (gv 2) (zv (gv 0) a0)) Lx) a0)) Ly) (bA (zv (gv 3) a0) Gu) eqD)) (gv 0)) a0) Dr [some W,some p,some (.int (t:Int)),some o]=_;rw[Th,M6,c];simp[q]
theorem kw4{t:Nat}(q:InW n ts)(h:dC n ts F)(ht:t<ts.length)(g:t∉F)(k:Nat):k∈Gz n ts F t↔k=t\/(k∈F/\Swp n ts F k t):=by
 unfold Gz;rw[QD,Q5,decide_eq_true_iff];have p:Kn ts (wo (mo ts.length F t) k):=λx v=>(Q5.mp (Hn.mp v).1).1;have r:k∈F->cN n ts (wo (mo ts.length F t) k)=cN n ts (t::wo F k):=λb=>O6 q p λx=>by
  rw[Hn,Q5,HY,Hn];constructor
  ·rintro⟨⟨y,o |o⟩,u⟩
   ·exact .inr ⟨o,u⟩
   ·exact .inl o
  ·rintro(z |z)
   ·exact⟨⟨z ▸ ht,.inr z⟩,λe=>g (by rw[<-z,e];exact b)⟩
   ·exact⟨⟨h.kn x z.1,.inl z.1⟩,z.2⟩
 unfold Swp;constructor
 ·rintro⟨⟨j,b⟩,A⟩;rcases b with b |b
  ·have:=r b;exact .inr ⟨b,by lia⟩
  ·exact .inl b
 ·rintro(rfl | ⟨j,b⟩)
  ·refine⟨⟨ht,.inr rfl⟩,?_⟩;have f:=h.fr;unfold Fr at f;have:cN n ts (wo (mo ts.length F k) k)=cN n ts F:=O6 q p λx=>by
    rw[Hn,Q5];constructor
    ·rintro⟨⟨_,z |z⟩,w⟩
     ·exact z
     ·exact absurd z w
    ·exact λz=>⟨⟨h.kn x z,.inl z⟩,λe=>g (e ▸ z)⟩
   lia
  ·have:=r j;exact⟨⟨h.kn k j,.inl j⟩,by lia⟩
def wj8{t:Nat}:Kn ts (Gz n ts F t):=λk b=>(Q5.mp (QD.mp b).1).1
open Classical in
def Kr(ts:Ar)(F:List Nat)(t:Nat):List Nat:=(List.range ts.length).filter λo=>decide (¬ Br (Bj ts (wo F t)) (eN ts o).1 (eN ts o).2)
def ot(m:Nat)(F:List Nat)(t:Nat):List Nat:=(List.range m).filter λk=>!decide (k∈F) ||decide (k=t)
def uG{t:Nat}:k∈ot m F t↔k<m/\(k∉F\/k=t):=by unfold ot;rw[QD,KY,ZW,decide_eq_true_iff,XH,decide_eq_false_iff_not]
def wl7{f o:Nat}(b:InW n ts)(h:Kn ts F)(e:o<ts.length):cN n ts (wo F f++[o])=cN n ts (o::wo F f):=O6 b (λk g=>by
 rcases NT.mp g with z |z
 ·exact h k (Hn.mp z).1
 ·rw[LR.mp z];exact e) λk=>by rw[NT,LR,HY,or_comm]
open Classical in
def kl9{t:Nat}(p:InW n ts)(r:dC n ts F)(j:t∈F):(ot ts.length F t).filter (λo=>decide (cN n ts (wo F t++[o])+F.length=n))=Kr ts F t:=by
 unfold ot Kr;rw[List.filter_filter];refine iK λo b=>?_;have b:=KY.mp b;have c:=wb8 p r (f:=t) (o:=o) j b;have e:=wl7 (f:=t) p r.kn b;rw[aV,QH,ZW,decide_eq_true_iff,decide_eq_true_iff,decide_eq_true_iff,<-c,XH,decide_eq_false_iff_not,e];unfold Swp;rw[Hn];constructor
 ·rintro⟨h,g⟩;exact⟨λw=>g.elim (λz=>z w.1) w.2,h⟩
 ·rintro⟨h,g⟩;refine⟨g,?_⟩;by_cases w:o∈F
  ·exact .inr (iW λq=>h ⟨w,q⟩)
  ·exact .inl w
theorem Up{t:Nat}(hn:n<=50)(H:ts.length<=50)(h:∀e∈ts,e.1<=e.2/\e.2<n)(j:For n ts F)(g:t∈F):Qu [Al n ts,Aa F,.int (t:Int)]=.ok (Aa (Kr ts F t)):=by
 have E:InW n ts:=λe J=>by have:=h e J;lia
 have O:=oO j.fo.kn j.fo.nd;have G:=j.fo.kn t g;have Q:=v8 (s:=F) (k:=t) (by lia);have P:=k_ (n:=n) (F:=F) H;have Z:=xY ts.length F;have T:Ca (Aa (restOf ts.length F)) (.tup [.int (t:Int)])=some (Aa (restOf ts.length F++[t])):=(Wx (by rw[Aq];simp;lia)).trans (by unfold Aa Ab;rw[UG];rfl);have w:Cq [Aa (restOf ts.length F++[t])]=some (.lst (Ab (ot ts.length F t))):=Km (l:=restOf ts.length F++[t]) (by simp;lia) (fG.mpr ⟨iH.filter _,by simp,λa M b L e=>by
   rw[LR.mp L]at e;exact(Fq.mp M).2 (e ▸ g)⟩) (List.Pairwise.filter _ aY) (λk=>by
  show k∈restOf ts.length F++[t]↔k∈ot ts.length F t;rw[uG,NT,LR,Fq];constructor
  ·rintro(z |rfl)
   ·exact⟨z.1,.inl z.2⟩
   ·exact⟨G,.inr rfl⟩
  ·rintro⟨u,o |o⟩
   ·exact .inl ⟨u,o⟩
   ·exact .inr o) rfl
 have A:Gu [Aa F]=some (.int (F.length:Nat)):=by show some (D.int _)=_;rw[Aq]
 have ol:(ot ts.length F t).length<=ts.length:=by have:=TF (λk=>!decide (k∈F) ||decide (k=t)) (List.range ts.length);rw[NZ]at this;exact this
 have c:Bl (itS (gv 4)) 1 [0,3,1] (gN 0) (tb (b2 (cl (zv (gv 1) (zv (b2 (gv 2) (bA (zv (gv 0) a0) Ra) Ca) a0)) Ly) (bA (zv (gv 3) a0) Gu) eqD)) (gv 0) [some (Al n ts),some (Aa F),some (.int (t:Int)),some (Aa (wo F t)),some (.lst (Ab (ot ts.length F t)))]=.ok (.lst (Ab (Kr ts F t))):=by
  rw[<-kl9 E j.fo g];refine Eo (s:=ot ts.length F t) (B:=[some (Al n ts),some (Aa (wo F t)),some (Aa F)]) (by simp) rfl (λx C=>?_) (by lia);have Y:=oJ j.fo.nd g;have U:Ca (Aa (wo F t)) (.tup [.int (x:Int)])=some (Aa (wo F t++[x])):=(Wx (by rw[Aq];simp;lia)).trans (by unfold Aa Ab;rw[UG];rfl);have y:=Sh (n:=n) (ts:=ts) (s:=wo F t++[x]) (by lia) h λk I=>by
   rcases NT.mp I with z |z
   ·exact j.fo.kn k (Hn.mp z).1
   ·rw[LR.mp z];exact(uG.mp C).1
  generalize Aa (wo F t++[x])=SX,Aa (wo F t)=p,Aa F=r,Al n ts=W at *;rw[<-wN];simp[Em,U,y,A]
 have v:Dr [.lst (Ab (Kr ts F t))]=some (Aa (Kr ts F t)):=Gm;generalize Ab (Kr ts F t)=NC,Aa (Kr ts F t)=SC,Ab (ot ts.length F t)=q,Aa (restOf ts.length F++[t])=X,Aa (restOf ts.length F)=SR,Aa (wo F t)=p,Aa F=r,Al n ts=W at *;refine Bg (Ak (Bf (d:=p) (by simp[Ag,Q])) (Ak (Bf (d:=.lst q) (by simp[Ag,P,Em,T,w])) (Bc ?_)));show bA (zv (Bl (itS (gv 4)) 1 [0,3,1] (gN 0) (tb (b2 (cl (zv (gv 1) (zv (b2 (gv 2) (bA (zv (gv 0) a0) Ra) Ca) a0)) Ly) (bA (zv (gv 3) a0) Gu) eqD)) (gv 0)) a0) Dr [some W,some r,some (.int (t:Int)),some p,some (.lst q)]=_;rw[Th,M6,c];simp[v]
def Bh(m:Nat):List (List Nat):=(List.range (2 ^ m)).map (bits m)
theorem Mr(m:Nat):Bh (m+1)=Bh m++(Bh m).map (·++[m]):=by unfold Bh;rw[show 2 ^ (m+1)=2 ^ m+2 ^ m by rw[Nat.pow_succ];lia,List.range_add,UG,TY,TY];rw[iR λk b=>wa9 (KY.mp b)];refine congrArg _ (iR λk b=>wa8 (KY.mp b))
def Jg(m:Nat):(Bh m).length=2 ^ m:=by unfold Bh;rw[HN,NZ]
def Jh(h:s∈Bh m):s.length<=m/\∀k∈s,k<m:=by unfold Bh at h;obtain⟨k,_,rfl⟩:=JF.mp h;unfold bits;refine⟨?_,λk b=>KY.mp (QD.mp b).1⟩;have:=TF (λt=>decide (k / 2 ^ t % 2=1)) (List.range m);rw[NZ]at this;exact this
def Ms:Bh 0=[[]]:=by decide
def ju1(m:Nat):∃r,Bh m=[]::r:=by
 induction m with
 |zero=>exact⟨[],Ms⟩
 |succ m b =>
  obtain⟨r,e⟩:=b
  refine⟨r++(Bh m).map (·++[m]),?_⟩
  rw[Mr]
  conv=>lhs;arg 1;rw[e]
  rfl
def Xx{j o:Type}{f:j->o}:∀{l:List o}{m:List j},l.Perm (m.map f)->∃g:List j,g.Perm m/\l=g.map f
 | [],m,h=>by have:=List.map_eq_nil_iff.mp (List.nil_perm.mp h);subst this;exact⟨[],.nil,rfl⟩
 |b::l,m,h=>by obtain⟨a,q,rfl⟩:=JF.mp (h.mem_iff.mp LK);obtain⟨s,t,rfl⟩:=List.append_of_mem q;have r:(f a::l).Perm (f a::(s++t).map f):=h.trans (by rw[UG,UG,NP];exact qI);obtain⟨g,p,e⟩:=Xx (List.Perm.cons_inv r);exact⟨a::g,(p.cons a).trans qI.symm,by rw[e];rfl⟩
def Ua(s:List Nat):Hm (Aa s)=true:=by show(Ax (Ab s)).isSome=true;rw[Ma];rfl
theorem yo7(g:m<=6):sortedZ [.lst ((Bh m).map Aa)]=some (.lst (srt ((Bh m).map Aa))):=by
 have h:((Bh m).map Aa).length<=100000:=by rw[HN,Jg];exact QW (fL (by lia) g) (by decide)
 have j:((Bh m).map Aa).length<2\/Yt ((Bh m).map Aa)=true:=by right;have⟨r,e⟩:=ju1 m;rw[e];show(r.map Aa).all Hm=true;rw[RJ];intro d o;obtain⟨s,_,rfl⟩:=JF.mp o;exact Ua s
 generalize (Bh m).map Aa=L at *;show(if _ then _ else _)=_;rw[if_pos ⟨h,j⟩];by_cases b:L.length<2
 ·rw[if_pos b,Ud b]
 ·rw[if_neg b]
def kr9{a b:List Nat}(g:G9 (Aa a) (Aa b)=true)(e:G9 (Aa b) (Aa a)=true):Aa a=Aa b:=by unfold G9 at g e;rw[XH]at g e;exact xW (Ua a) (Ua b) (Fp _ _ e g)
def kj3(m:Nat):∃g:List (List Nat),g.Perm (Bh m)/\srt ((Bh m).map Aa)=g.map Aa/\∀p:List Nat->Bool,(g.filter p).map Aa=srt (((Bh m).filter p).map Aa):=by have⟨g,j,e⟩:=Xx (f:=Aa) (Cy ((Bh m).map Aa));refine⟨g,j,e,λp=>?_⟩;have h:=Ep ((Bh m).map Aa);rw[e,cC]at h;refine eq_of_sorted (le:=λa b=>G9 a b=true) (((j.filter p).map Aa).trans (Cy _).symm) (cC.mpr (h.filter p)) (Ep _) λa q b o u r=>?_;obtain⟨x,_,rfl⟩:=JF.mp q;obtain⟨y,_,rfl⟩:=JF.mp o;exact kr9 u r
def asB:Ev->R Fl:=asg 1 (b2 (gv 1) (Bl (itS (gv 1)) 1 [2] (gN 0) yes (b2 (gv 0) (bA (zv (gv 1) a0) Ra) Ca)) Ca)
theorem wa4(hi:i<=6):asB [o0,some (.lst ((Bh i).map Aa)),some (.int (i:Int))]=.ok (.nx [o0,some (.lst ((Bh (i+1)).map Aa)),some (.int (i:Int))]):=by
 have j:2 ^ i<=64:=fL (n:=2) (by decide) hi;have c:Bl (itS (gv 1)) 1 [2] (gN 0) yes (b2 (gv 0) (bA (zv (gv 1) a0) Ra) Ca) [o0,some (.lst ((Bh i).map Aa)),some (.int (i:Int))]=.ok (.lst ((Bh i).map λs=>Aa (s++[i]))):=by refine Ec (ds:=(Bh i).map Aa) (by generalize (Bh i).map Aa=L;simp) ?_ (by rw[HN,Jg];lia);refine Jo (Bh i) λs b=>?_;have h:=(Jh b).1;have g:Ca (Aa s) (.tup [.int (i:Int)])=some (Aa (s++[i])):=(Wx (by rw[Aq];simp;lia)).trans (by unfold Aa Ab;rw[UG];rfl);generalize Aa (s++[i])=o,Aa s=p at *;simp[Dp,Em,g]
 have e:Ca (.lst ((Bh i).map Aa)) (.lst ((Bh i).map λs=>Aa (s++[i])))=some (.lst ((Bh (i+1)).map Aa)):=(oY (by rw[HN,HN,Jg];lia)).trans (by rw[Mr,UG,TY];rfl);generalize (Bh i).map Aa=r,(Bh (i+1)).map Aa=q,((Bh i).map λs=>Aa (s++[i]))=L2 at *;refine Bf ?_;rw[eF,c];simp[e]
theorem wl1(w:ts.length<=6):Qs [Al n ts]=.ok (.lst (srt ((Bh ts.length).map Aa))):=by
 have A:=all_eq n ts (by lia);have sz:=yo7 w;have⟨u,y,h⟩:=Ey (g:=gN 2) (b:=asB) (I:=λj ρ=>j<=ts.length->∃p,ρ=[some (Al n ts),some (.lst ((Bh j).map Aa)),p])
  (Ab (List.range ts.length)) 0 [some (Al n ts),some (.lst [Aa []]),none] (λ_=>⟨none,by rw[Ms];rfl⟩) (λi d ρ e h=>by
   rw[Dy]at e;cases q:(List.range ts.length)[i]? with
   |none=>rw[q]at e;cases e
   |some k =>
    rw[q]at e;cases e;have⟨x,r⟩:=QK.mp q;simp at r x;subst r;rw[VV]at h ⊢;obtain⟨p,rfl⟩:=h (by lia);exact⟨_,_,aH,.inl (wa4 (by lia)),λ_=>⟨_,rfl⟩⟩)
 rw[Aq,NZ,VV]at h;obtain⟨p,rfl⟩:=h (FW _);have v:D.tup []=Aa []:=rfl;have o:J3 (Aa (List.range ts.length))=some (Ab (List.range ts.length)):=rfl;generalize Ab (List.range ts.length)=B,Aa (List.range ts.length)=C at *;generalize (Bh ts.length).map Aa=L at *;generalize srt L=E,Al n ts=W at *;refine Bg (Ak (Bf (d:=.lst [Aa []]) (by simp[Em,Ke,v])) (Ak (Ks (ds:=B) (by simp[Ag,A,o]) y) (Bc (by simp[sz]))))
def isF(n:Nat)(ts:Ar)(s:List Nat):Bool:=decide (((s.length:Nat):Int)=(n:Int) - (cc n ts:Nat)) && decide ((n:Int) - (cc n (Bj ts s):Nat)=(n:Int) - (cc n ts:Nat))
def Xm(s:List Nat):Gu [Aa s]=some (.int (s.length:Nat)):=by show some (D.int _)=_;rw[Aq]
theorem wf2{L:List (List Nat)}{d:List D->R D}(hi:it ρ=.ok (L.map Aa))(j:Dp 1 caps ρ=[none,some (.int ((n:Int) - (cc n ts:Nat))),some (Al n ts)])(h:∀s∈L,d [Al n ts,Aa s]=.ok (.int ((n:Int) - (cc n (Bj ts s):Nat))))(p:L.length<=100000):
  Bl it 1 caps (gN 0) (tan (tb (b2 (bA (zv (gv 0) a0) Gu) (gv 1) eqD)) (tb (b2 (cl (zv (gv 2) (zv (gv 0) a0)) d) (gv 1) eqD))) (gv 0) ρ=.ok (.lst ((L.filter (isF n ts)).map Aa)):=by
 refine Ec hi ?_ (by rw[HN];exact QW (TF _ _) (by lia));rw[j];refine Kz L λs g=>⟨?_,by simp⟩;have e:=h s g;have b:=Xm s;unfold isF;generalize Aa s=q,Al n ts=W at *;generalize (n:Int) - (cc n ts:Nat)=w at *;generalize (n:Int) - (cc n (Bj ts s):Nat)=v at *;generalize o:((s.length:Nat):Int)=u at *;by_cases z:u=w
 ·simp[e,b,nW,z]
 ·simp[e,b,nW,z]
theorem jr1(w:n<=50)(q:ts.length<=6)(h:∀e∈ts,e.1<=e.2/\e.2<n):K3 [Al n ts]=.ok (.lst (srt (((Bh ts.length).filter (isF n ts)).map Aa))):=by
 have v:=all_eq n ts (by lia);have g:=Sh (n:=n) (ts:=ts) (s:=List.range ts.length) (by lia) h λk u=>KY.mp u;unfold cN at g;rw[Pn]at g;have o:=wl1 (n:=n) q;have⟨j,p,e,k⟩:=kj3 ts.length;rw[e]at o;have b:j.length<=100000:=by rw[p.length_eq,Jg];exact QW (fL (by lia) q) (by decide)
 have c:=wf2 (n:=n) (ts:=ts) (L:=j) (it:=itS (cl (zv (gv 0) a0) Qs)) (caps:=[1,0]) (ρ:=[some (Al n ts),some (.int ((n:Int) - (cc n ts:Nat)))]) (d:=Ly) (by
  generalize j.map Aa=A,Al n ts=W at *;simp[o]) rfl (λs r=>Sh (by lia) h (Jh (p.mem_iff.mp r)).2) b
 rw[k]at c;generalize srt (((Bh ts.length).filter (isF n ts)).map Aa)=x,Aa (List.range ts.length)=y,Al n ts=W at *;refine Bg (Ak (Bf (d:=.int ((n:Int) - (cc n ts:Nat))) (by simp[Ag,v,g])) (Bc c))
variable {j:Nat}
def yc6{e b:Ev->R D}{ds:List D}{d:D}(h:ρ[i]? = some (some (.lst ds)))(p:e ρ=.ok (.int (Int.ofNat j)))(o:b ρ=.ok d)(q:j<=ds.length)(g:ds.length<16777216):gG i e b ρ=.ok (.nx (ρ.set i (some (.lst (ds.take j++d::ds.drop j))))):=by unfold gG;rw[h];dsimp only;rw[p,R.ok_bind,o,R.ok_bind];show(if j<=ds.length/\ds.length<16777216 then _ else _)=_;rw[if_pos ⟨q,g⟩]
def kh9:(Ab l).take j++.int (k:Int)::(Ab l).drop j=Ab (l.take j++k::l.drop j):=by unfold Ab;rw[UG,NP,pZ,p7]
theorem ku9(h:Ej k l):Ej (k+1) (l.take j++k::l.drop j):=by
 have b:(l.take j++k::l.drop j).Perm (k::l):=by have:=qI (a:=k) (l₁:=l.take j) (l₂:=l.drop j);rw[YB]at this;exact this
 refine⟨by rw[b.length_eq,RB,h.len],b.nodup_iff.mpr (VF.mpr ⟨λz=>by have:=h.lt k z;lia,h.nd⟩),λx e=>?_⟩;rcases HY.mp (b.mem_iff.mp e) with z |z
 ·lia
 ·have:=h.lt x z;lia
def orB:Ev->R Fl:=gG 3 (b2 (gv 4) (gv 5) ixD) (gv 5)
theorem order_eq(ns:List Int)(at_ m:Nat)(Y:at_<=50)(T:m<=50):∃e,Ej m e/\Gi [.lst (ns.map .int),.int (at_:Int),.int (m:Int)]=.ok (.lst (Ab e)):=by
 obtain⟨vs,w,M⟩:=Ub ns at_ (by lia) ((List.range m).map λ(k:Nat)=>(k:Int)+1) (λz v=>by
  obtain⟨k,x,rfl⟩:=JF.mp v;have:=KY.mp x;lia) (by rw[HN,NZ];lia)
 have Q:vs.length=m:=by have:=w.1;rw[HN,NZ]at this;exact this
 have H:∀i,i<m->0<=vs.getD i 0/\vs.getD i 0<(i:Int)+1:=λi A=>by have:=w.2 i (by rw[HN,NZ];exact A);rw[show((List.range m).map λ(k:Nat)=>(k:Int)+1).getD i 0=(i:Int)+1 by rw[NQ,QX,List.getElem?_range A];rfl]at this;exact this
 have c:Bl (itR Ol (zv (gv 2) a0)) 1 [] (gN 0) yes (b2 (gv 0) (kd (.int 1)) Ca) [some (.lst (ns.map .int)),some (.int (at_:Int)),some (.int (m:Int)),some (.lst []),none,none]=.ok (.lst (((List.range m).map λ(k:Nat)=>(k:Int)+1).map .int)):=by refine Ec (ds:=Ab (List.range m)) (by generalize ns.map D.int=u at *;simp[Nx (n:=m) (by lia)]) ?_ (by simp;lia);unfold Ab;rw[TY];refine Jo (List.range m) λk x=>?_;simp[Dp]
 have⟨G,O,o⟩:=Ey (g:=gN 5) (b:=orB) (I:=λj ρ=>j<=m->∃(e:List Nat)(q:Option D),Ej j e/\ρ=[some (.lst (ns.map .int)),some (.int (at_:Int)),some (.int (m:Int)),some (.lst (Ab e)),some (.lst (vs.map .int)),q])
  (Ab (List.range m)) 0 [some (.lst (ns.map .int)),some (.int (at_:Int)),some (.int (m:Int)),some (.lst []),some (.lst (vs.map .int)),none] (λ_=>⟨[],none,⟨rfl,iB,by simp⟩,rfl⟩) (λi d ρ h o=>by
   rw[Dy]at h;cases r:(List.range m)[i]? with
   |none=>rw[r]at h;cases h
   |some j =>
    rw[r]at h;cases h;have⟨C,B⟩:=QK.mp r;simp at B C;subst B;rw[VV]at o ⊢;obtain⟨e,q,p,rfl⟩:=o (by lia);have X:=H i C;obtain⟨j,y⟩:∃j:Nat,(j:Int)=vs.getD i 0:=⟨(vs.getD i 0).toNat,by lia⟩;have ix:ixD (.lst (vs.map .int)) (.int (i:Int))=some (.int (Int.ofNat j)):=Rm (i:=i) (by
     rw[QX,GJ (by lia)];rw[NQ,GJ (by lia),WD]at y;rw[<-y];rfl)
    have U:=p.len;have L:orB [some (.lst (ns.map .int)),some (.int (at_:Int)),some (.int (m:Int)),some (.lst (Ab e)),some (.lst (vs.map .int)),some (.int (i:Int))]=.ok (.nx [some (.lst (ns.map .int)),some (.int (at_:Int)),some (.int (m:Int)),some (.lst (Ab (e.take j++i::e.drop j))),some (.lst (vs.map .int)),some (.int (i:Int))]):=by have J:=kh9 (l:=e) (j:=j) (k:=i);have v:=Aq e;generalize Ab (e.take j++i::e.drop j)=N2 at *;generalize Ab e=P,vs.map D.int=E,ns.map D.int=u at *;exact(yc6 (ds:=P) (j:=j) (d:=.int (i:Int)) rfl (by simp[ix]) (by simp) (by lia) (by lia)).trans (by rw[J];rfl)
    exact⟨_,_,aH,.inl L,λ_=>⟨_,_,ku9 p,rfl⟩⟩)
 rw[Aq,NZ,VV]at o;obtain⟨e,q,p,rfl⟩:=o (FW _);refine⟨e,p,?_⟩;generalize ((List.range m).map λ(k:Nat)=>(k:Int)+1).map D.int=Z at *;generalize vs.map D.int=E,ns.map D.int=u at *;refine Bg (Ak (Bf (d:=.lst []) (by simp[Ke])) (Ak (Bf (d:=.lst E) ?_) (Ak (Ks (ds:=Ab (List.range m)) (by simp[Ag,Nx (n:=m) (by lia)]) O) (Bc (by simp)))));show cl (zv (gv 0) (zv (gv 1) (zv (Bl (itR Ol (zv (gv 2) a0)) 1 [] (gN 0) yes (b2 (gv 0) (kd (.int 1)) Ca)) a0))) Fj [some (.lst u),some (.int (at_:Int)),some (.int (m:Int)),some (.lst []),none,none]=_;rw[rM,M6,M6,M6,c];simp[M]
def Jr(o C:List Nat):Nat:=(o.find? λk=>decide (k∈C)).getD 0
variable {o C:List Nat}
def kf0(r:Ej m o)(w:∀k∈C,k<m)(h:C≠[]):Jr o C∈C/\Jr o C∈o/\∀c∈C,o.idxOf (Jr o C)<=o.idxOf c:=by
 have⟨q,b⟩:=List.exists_mem_of_ne_nil C h;cases e:o.find? λk=>decide (k∈C) with
 |none=>have:=List.find?_eq_none.mp e q (r.all q (w q b));exact absurd (decide_eq_true b) this
 |some x =>
  have E:Jr o C=x:=by unfold Jr;rw[e];rfl
  rw[E];obtain⟨g,as,bs,rfl,v⟩:=List.find?_eq_some_iff_append.mp e;have g:=of_decide_eq_true g;have A:x∉as:=λz=>by have:=v x z;simp[g]at this
  have ix:(as++x::bs).idxOf x=as.length:=by rw[List.idxOf_append,if_neg A];simp
  refine⟨g,by simp,λc u=>?_⟩;rw[ix];refine jHi λz=>?_;have B:c∈as++x::bs:=r.all c (w c u);have p:(as++x::bs).idxOf c<(as++x::bs).length:=fP B;have y:=iQ p;rw[List.getElem_append_left z]at y;have G:c∈as:=by rw[<-y];exact RG _
  have:=v c G;simp[u]at this
theorem yN{k:Nat}:∀(o:List Nat),(o.map λ(x:Nat)=>(x:Int)).idxOf (k:Int)=o.idxOf k
 | []=>rfl
 |x::o=>by
  rw[NP,zW,zW,yN o];have b:(((x:Int) == (k:Int)):Bool)=(x == k):=by rw[aV,beq_iff_eq,beq_iff_eq];lia
  rw[b]
def keys_eq{o:List Nat}{B:Ev}(b:∀n:Int,B.set 0 (some (.int n))=[some (.int n),some (.lst (Ab o))]):∀(C:List Nat),(∀k∈C,k∈o)->Kg (Xc (gv 1) (gv 0)) B (C.map λ(k:Nat)=>(k:Int))=.ok (C.map λk=>((o.idxOf k:Nat):Int))
 | [],_=>rfl
 |k::C,h=>by
  have p:=h k LK;have q:Xc (gv 1) (gv 0) [some (.int (k:Int)),some (.lst (Ab o))]=.ok (.int ((o.idxOf k:Nat):Int)):=by have e:=wq7 (f1:=gv 1) (f2:=gv 0) (ρ:=[some (.int (k:Int)),some (.lst (Ab o))]) (ns:=o.map λ(x:Nat)=>(x:Int)) (k:=(k:Int)) (by simp[Ab,TY]) (by simp) (JF.mpr ⟨k,p,rfl⟩);rw[e,yN]
  show(Xc (gv 1) (gv 0) (B.set 0 (some (.int (k:Int))))).bind _=_;rw[b,q,R.ok_bind];show(Kg (Xc (gv 1) (gv 0)) B (C.map λ(k:Nat)=>(k:Int))).bind _=_;rw[keys_eq b C λx g=>h x (JW _ g)];rfl
theorem yQ(x:Ej m o)(y:∀k∈C,k<m)(h:C≠[]):Jp [.lst (Ab o),Aa C]=.ok (.int (Jr o C:Nat)):=by
 have⟨G,Q,E⟩:=kf0 x y h;have v:=keys_eq (o:=o) (B:=[none,some (.lst (Ab o))]) (λn=>rfl) C λk L=>x.all k (y k L);have U:C.idxOf (Jr o C)<C.length:=fP G;have kl:(C.map λk=>((o.idxOf k:Nat):Int)).length=C.length:=HN ..;have at_:∀j (A:j<C.length),(C.map λk=>((o.idxOf k:Nat):Int))[j]'(by rw[kl];exact A)=((o.idxOf C[j]:Nat):Int):=λj A=>by rw[qK]
 have I:(λk=>(C.map λk=>((o.idxOf k:Nat):Int)).all λj=>decide (k<=j)) ((o.idxOf (Jr o C):Nat):Int)=true:=by show(C.map λk=>((o.idxOf k:Nat):Int)).all (λj=>decide (((o.idxOf (Jr o C):Nat):Int)<=j))=true;rw[RJ];intro z H;obtain⟨c,r,rfl⟩:=JF.mp H;have:=E c r;exact decide_eq_true (by lia)
 have g:((o.idxOf (Jr o C):Nat):Int)∈C.map λk=>((o.idxOf k:Nat):Int):=JF.mpr ⟨_,G,rfl⟩;have b:mnI (C.map λk=>((o.idxOf k:Nat):Int))<C.length:=by rw[<-kl];exact List.findIdx_lt_length_of_exists ⟨_,g,I⟩
 have T:C[mnI (C.map λk=>((o.idxOf k:Nat):Int))]=Jr o C:=by
  have q:=List.findIdx_getElem (w:=by rw[kl];exact b) (p:=λk=>(C.map λk=>((o.idxOf k:Nat):Int)).all λj=>decide (k<=j)) (xs:=C.map λk=>((o.idxOf k:Nat):Int));have q:=of_decide_eq_true (RJ.mp q _ g);have e:(C.map λk=>((o.idxOf k:Nat):Int))[mnI (C.map λk=>((o.idxOf k:Nat):Int))]'(by rw[kl];exact b)<=((o.idxOf (Jr o C):Nat):Int):=q;rw[at_ _ b]at e;have r:=RG b;have:=E _ r;have X:o.idxOf C[mnI (C.map λk=>((o.idxOf k:Nat):Int))]=o.idxOf (Jr o C):=by lia
  have J:=x.all _ (y _ r);have P:=iQ (fP J);have O:=iQ (fP Q);rw[<-P,<-O];congr 1
 have M:Dp 1 [0] [some (.lst (Ab o)),some (Aa C)]=[none,some (.lst (Ab o))]:=rfl;refine Bg (Bc ?_);show mkD (gv 1) [0] (Xc (gv 1) (gv 0)) [some (.lst (Ab o)),some (Aa C)]=_;unfold mkD;show(match Ax (Ab C) with |some u=>if u=[] then R.bad else((Kg (Xc (gv 1) (gv 0)) (Dp 1 [0] [some (.lst (Ab o)),some (Aa C)]) u).bind λv=>.ok (D.int (u.getD (mnI v) 0))).nox |none=>.bad)=_;rw[Ma];show(if _ then _ else _)=_;rw[if_neg (by simpa using h),M,v];show R.ok (D.int _)=_;rw[NQ,QX,GJ b,T];rfl
theorem R7(y:ts.length<=50)(q:Ej ts.length o):Cm [Al n ts,.lst (Ab o)]=.ok .non:=by
 have B:=all_eq n ts y;have c:Bl (itS (gv 2)) 1 [1] (gN 0) yes (b2 (gv 0) (gv 1) inD) [some (Al n ts),some (.lst (Ab o)),some (Aa (List.range ts.length))]=.ok (.lst (((List.range ts.length).map λ_=>true).map .bl)):=by refine Ec (ds:=Ab (List.range ts.length)) (by generalize Al n ts=W,Ab o=e at *;simp[Aa]) ?_ (by simp;lia);unfold Ab;rw[TY];refine Jo (List.range ts.length) λx w=>?_;have g:inD (.int (x:Int)) (.lst (Ab o))=some (.bl true):=wB (l:=o) rfl (by simp;exact q.all x (KY.mp w));have g:inD (.int (x:Int)) (.lst (List.map (λ(k:Nat)=>D.int (k:Int)) o))=some (.bl true):=g;generalize List.map (λ(k:Nat)=>D.int (k:Int)) o=e at *;simp[Dp,g]
 have h:b8 [.lst (((List.range ts.length).map λ_=>true).map .bl)]=some (.bl true):=by rw[u_];refine congrArg (λz=>some (D.bl z)) ?_;rw[RJ];intro b A;obtain⟨r,_,rfl⟩:=JF.mp A;rfl
 have v:Gu [.lst (Ab o)]=some (.int (ts.length:Nat)):=by show some (D.int _)=_;rw[Aq,q.len]
 have u:Gu [Aa (List.range ts.length)]=some (.int (ts.length:Nat)):=by show some (D.int _)=_;rw[Aq,NZ]
 generalize ((List.range ts.length).map λ_=>true).map D.bl=E,Aa (List.range ts.length)=p,Ab o=e,Al n ts=W at *;show Ci 3 Gn [W,.lst e]=_;rw[oX,show Gn (Ag 3 [W,.lst e])=.ok (.nx [some W,some (.lst e),some p]) from Ak (Bf (d:=p) (by simp[Ag,B])) ((Dd ?_).trans rfl),uX];show tor _ (nt (tt (bA (zv (Bl (itS (gv 2)) 1 [1] (gN 0) yes (b2 (gv 0) (gv 1) inD)) a0) b8))) [some W,some (.lst e),some p]=_;rw[j9,nA,rJ,Th,M6,c];simp[v,u,h,j_]
def Ht(ts:Ar)(o F:List Nat):List Nat:=F.filter λt=>decide (t=Jr o (Kr ts F t))
def Hs(n:Nat)(ts:Ar)(o F:List Nat):List Nat:=(restOf ts.length F).filter λt=>decide (t=Jr o (Gz n ts F t))
theorem uR(x k:Nat):eqD (.int (x:Int)) (.int (k:Int))=some (.bl (decide (x=k))):=by
 rw[nW];refine congrArg (λz=>some (D.bl z)) ?_;by_cases h:x=k
 ·subst h;simp
 ·have:¬ (x:Int)=(k:Int):=by lia
  simp[h,this]
open Classical in
def km0{t:Nat}(e:InW n ts)(b:For n ts F)(ht:t∈F):t∈Kr ts F t:=by unfold Kr;rw[QD,KY,decide_eq_true_iff];exact⟨b.fo.kn t ht,(tB e b.fo.kn b.fo.nd ht b.fo.fr).2⟩
open Classical in
def wp7{t:Nat}:∀k∈Kr ts F t,k<ts.length:=λk b=>by unfold Kr at b;exact KY.mp (QD.mp b).1
theorem inw(h:∀e∈ts,e.1<=e.2/\e.2<n):InW n ts:=λe b=>by have:=h e b;lia
def ki5{t:Nat}(e:InW n ts)(g:For n ts F)(ht:t<ts.length)(b:t∉F):t∈Gz n ts F t:=(kw4 e g.fo ht b t).mpr (.inl rfl)
theorem R0(A:n<=50)(E:ts.length<=50)(h:∀e∈ts,e.1<=e.2/\e.2<n)(b:For n ts F)(w:Ej ts.length o):Nr [Al n ts,.lst (Ab o),Aa F]=.ok (Aa (Ht ts o F)):=by
 have G:=oO b.fo.kn b.fo.nd;have c:Bl (itS (gv 2)) 1 [1,0,2] (gN 0) (tb (b2 (gv 0) (cl (zv (gv 1) (zv (cl (zv (gv 2) (zv (gv 3) (zv (gv 0) a0))) Qu) a0)) Jp) eqD)) (gv 0) [some (Al n ts),some (.lst (Ab o)),some (Aa F)]=.ok (.lst (Ab (Ht ts o F))):=by refine Eo (s:=F) (p:=λt=>decide (t=Jr o (Kr ts F t))) (B:=[some (.lst (Ab o)),some (Al n ts),some (Aa F)]) (by generalize Al n ts=W,Ab o=g at *;simp[Aa]) rfl (λx r=>?_) (by lia);have J:=Up A E h b r;have I:=yQ w (C:=Kr ts F x) wp7 (jGz (km0 (inw h) b r));have H:=uR x (Jr o (Kr ts F x));generalize decide (x=Jr o (Kr ts F x))=q,Jr o (Kr ts F x)=y,Aa (Kr ts F x)=M,Aa F=u,Ab o=g,Al n ts=W at *;simp[J,I,H]
 have v:Dr [.lst (Ab (Ht ts o F))]=some (Aa (Ht ts o F)):=Gm;generalize Ab (Ht ts o F)=O,Aa (Ht ts o F)=L,Aa F=u,Ab o=g,Al n ts=W at *;refine Bg (Bc ?_);show bA _ _ [some W,some (.lst g),some u]=_;rw[Th,M6,c];simp[v]
theorem Ro(J:n<=50)(w:ts.length<=50)(h:∀e∈ts,e.1<=e.2/\e.2<n)(A:For n ts F)(I:Ej ts.length o):Np [Al n ts,.lst (Ab o),Aa F]=.ok (Aa (Hs n ts o F)):=by
 have P:=xY ts.length F;have G:=k_ (n:=n) (F:=F) w;have c:Bl (itS (cl (zv (gv 0) (zv (gv 2) a0)) Tg)) 1 [1,0,2] (gN 0) (tb (b2 (gv 0) (cl (zv (gv 1) (zv (cl (zv (gv 2) (zv (gv 3) (zv (gv 0) a0))) Nt) a0)) Jp) eqD)) (gv 0) [some (Al n ts),some (.lst (Ab o)),some (Aa F)]=.ok (.lst (Ab (Hs n ts o F))):=by
  refine Eo (s:=restOf ts.length F) (p:=λt=>decide (t=Jr o (Gz n ts F t))) (B:=[some (.lst (Ab o)),some (Al n ts),some (Aa F)]) ?_ rfl (λx H=>?_) (by lia)
  ·have r:J3 (Aa (restOf ts.length F))=some (Ab (restOf ts.length F)):=rfl;generalize Aa (restOf ts.length F)=Q,Aa F=u,Ab o=v,Al n ts=W at *;simp[G,r]
  ·have⟨g,b⟩:=Fq.mp H;have O:=Sd J w h A g b;have M:=yQ I (C:=Gz n ts F x) wj8 (jGz (ki5 (inw h) A g b));have L:=uR x (Jr o (Gz n ts F x));generalize decide (x=Jr o (Gz n ts F x))=q,Jr o (Gz n ts F x)=y,Aa (Gz n ts F x)=U,Aa F=u,Ab o=v,Al n ts=W at *;simp[O,M,L]
 have E:Dr [.lst (Ab (Hs n ts o F))]=some (Aa (Hs n ts o F)):=Gm;generalize Ab (Hs n ts o F)=X,Aa (Hs n ts o F)=T,Aa F=u,Ab o=v,Al n ts=W at *;refine Bg (Bc ?_);show bA _ _ [some W,some (.lst v),some u]=_;rw[Th,M6,c];simp[E]
theorem wf3(p:n<=50)(b:ts.length<=50)(h:∀e∈ts,e.1<=e.2/\e.2<n)(q:For n ts F)(g:Ej ts.length o):Wv [Al n ts,.lst (Ab o),Aa F]=.ok (Aa (Ht ts o F)):=by have x:=T9 p b h q;have w:=R7 (n:=n) b g;have v:=R0 p b h q g;generalize Aa (Ht ts o F)=y,Aa F=r,Ab o=u,Al n ts=W at *;refine Bg (Ak (ρ1:=[some W,some (.lst u),some r]) (by simp[Ag,x]) (Ak (ρ1:=[some W,some (.lst u),some r]) (by simp[w]) (Bc (by simp[v]))))
theorem free_eq(p:n<=50)(b:ts.length<=50)(h:∀e∈ts,e.1<=e.2/\e.2<n)(q:For n ts F)(g:Ej ts.length o):Wu [Al n ts,.lst (Ab o),Aa F]=.ok (Aa (Hs n ts o F)):=by have x:=T9 p b h q;have w:=R7 (n:=n) b g;have v:=Ro p b h q g;generalize Aa (Hs n ts o F)=y,Aa F=r,Ab o=u,Al n ts=W at *;refine Bg (Ak (ρ1:=[some W,some (.lst u),some r]) (by simp[Ag,x]) (Ak (ρ1:=[some W,some (.lst u),some r]) (by simp[w]) (Bc (by simp[v]))))
def trD(r:Tr):D:=.tup [.int r.1,.int r.2.1,.int r.2.2]
def k2D(k:Int×Int):D:=.tup [.int k.1,.int k.2]
def kD(l:List Kv):D:=Vo (l.map λp=>k2D p.1) (l.map λp=>.int p.2)
def sX(i j:Int):Eg [.int i,.int j]=some [.inl i,.inl j]:=rfl
def nZ(k:Int×Int):eO (k2D k)=some [.inl k.1,.inl k.2]:=rfl
def key_ne{k:Int×Int}{i j:Int}(h:¬ k=(i,j)):¬ eO (k2D k)=some [.inl i,.inl j]:=λz=>by rw[nZ]at z;have z:=Option.some.inj z;injection z with e b;injection b with b g;injection e with e;injection b with b;exact h (Prod.ext e b)
def Ww(i j:Int):∀l:List Kv,(Qf (l.map λp=>k2D p.1) (l.map λp=>D.int p.2) [.inl i,.inl j]).getD (.int 0)=.int (look l (i,j))
 | []=>rfl
 |p::r=>by
  rw[NP,NP,Qf,look];by_cases h:p.1=(i,j)
  ·rw[if_pos (by rw[nZ,h]),if_pos h];rfl
  ·rw[if_neg (key_ne h),if_neg h];exact Ww i j r
def Zo(i j v:Int):∀l:List Kv,dput (l.map λp=>k2D p.1) (l.map λp=>D.int p.2) [.inl i,.inl j] (.int v)=((put l (i,j) v).map (λp=>k2D p.1),(put l (i,j) v).map λp=>D.int p.2)
 | []=>rfl
 |p::r=>by
  rw[NP,NP,dput,put];by_cases h:p.1=(i,j)
  ·rw[if_pos (by rw[nZ,h]),if_pos h];rfl
  ·rw[if_neg (key_ne h),if_neg h,Zo i j v r];rfl
def gaB:Ev->R Fl:=PD.kO 1 (zv (PD.gv 2) (zv (PD.gv 3) PD.a0)) (PD.b2 (PD.kY 1 (zv (PD.gv 2) (zv (PD.gv 3) PD.a0)) (PD.kd (.int 0))) (PD.gv 4) PD.Ca)
theorem wd6{l:List Kv}{r:Tr}(b:l.length<1000):gaB [o0,some (kD l),some (.int r.1),some (.int r.2.1),some (.int r.2.2)]=.ok (.nx [o0,some (kD (step l r)),some (.int r.1),some (.int r.2.1),some (.int r.2.2)]):=by
 have h:gv 1 [o0,some (kD l),some (.int r.1),some (.int r.2.1),some (.int r.2.2)]=.ok (kD l):=by simp
 have e:=wc2 (i:=1) (ρ:=[o0,some (kD l),some (.int r.1),some (.int r.2.1),some (.int r.2.2)]) (fks:=zv (PD.gv 2) (zv (PD.gv 3) PD.a0)) (f0:=PD.kd (.int 0)) h (l:=[.int r.1,.int r.2.1]) (by simp) (by simp) (z:=.int 0) (by simp) (sX _ _);rw[Ww]at e;refine(wc3 (v:=.int (look l (r.1,r.2.1)+r.2.2)) ?_ h (l:=[.int r.1,.int r.2.1]) (by simp) (by simp) (by rw[HN];lia) (sX _ _)).trans ?_
 ·rw[eF,e];simp
 ·rw[Zo];rfl
theorem vR{k:Int×Int}{v:Int}:∀l:List Kv,(put l k v).length<=l.length+1
 | []=>by simp[put]
 |p::r=>by
  unfold put;split
  ·simp
  ·have:=vR (k:=k) (v:=v) r;simp;lia
theorem w5:∀(b:List Tr)(l:List Kv),(acc l b).length<=l.length+b.length
 | [],l=>by simp[acc]
 |r::b,l=>by have g:=w5 b (step l r);have e:(step l r).length<=l.length+1:=vR l;show(acc (step l r) b).length<=_;rw[RB];lia
def yj6{g u:Type}{f:g->u}:∀{l m:List u},l.Perm m->∀X:List g,m=X.map f->∃T:List g,T.Perm X/\l=T.map f:=by
 intro l m h;induction h with
 |nil=>intro X e;cases X with
  |nil=>exact⟨[],.refl _,rfl⟩
  |cons a X=>cases e
 | @cons a l m _ v=>intro X e;cases X with
  |nil=>cases e
  |cons x X=>cases e;obtain⟨T,r,rfl⟩:=v X rfl;exact⟨x::T,r.cons x,rfl⟩
 |swap a b l=>intro X e;match X,e with
  |x::y::X,e=>cases e;exact⟨y::x::X,.swap x y X,rfl⟩
  | [],e=>cases e
  | [_],e=>cases e
 |trans _ _ q p=>intro X e;obtain⟨T,r,rfl⟩:=p X e;obtain⟨U,w,rfl⟩:=q T rfl;exact⟨U,w.trans r,rfl⟩
def jX(T:List Tr):Prop:=(T.map trD).Pairwise λa b=>G9 a b=true
def PN(T X:List Tr):Prop:=T.Perm X/\jX T
def ky0{T:List Tr}(h:(T.map trD).length<2):jX T:=by
 unfold jX
 match T,h with
 | [],_=>exact .nil
 | [a],_=>exact List.pairwise_singleton ..
 |a::b::T,h=>exact absurd h (by simp)
def kx8{X:List Tr}(h:X.length<64):∃T:List Tr,PN T X/\Cq [.lst (X.map trD)]=some (.lst (T.map trD)):=by
 have p:Dq (X.map trD)=true:=by unfold Dq;rw[ZW];refine .inr (RJ.mpr λd q=>?_);obtain⟨r,v,rfl⟩:=JF.mp q;rfl
 have g:Cq [.lst (X.map trD)]=some (.lst (if(X.map trD).length<2 then X.map trD else srt (X.map trD))):=by unfold Cq;dsimp only;show(if(X.map trD).length<64/\((X.map trD).length<2\/Dq (X.map trD)=true) then _ else _)=_;rw[if_pos ⟨by rw[HN];exact h,.inr p⟩]
 by_cases b:(X.map trD).length<2
 ·exact⟨X,⟨.refl _,ky0 b⟩,by rw[g,if_pos b]⟩
 ·have⟨T,u,e⟩:=yj6 (Cy (X.map trD)) X rfl;exact⟨T,⟨u,by unfold jX;rw[<-e];exact Ep _⟩,by rw[g,if_neg b,e]⟩
theorem jj6(e:List Tr)(Q:e.length<1000)(H:(acc [] e).length<64):∃T:List Tr,PN T (kept e)/\Qv [.lst (e.map trD)]=.ok (.lst (T.map trD)):=by
 have⟨E,B,w⟩:=Ey (g:=gT [2,3,4]) (b:=gaB) (I:=λk ρ=>∃o2 o3 o4,ρ=[some (.lst (e.map trD)),some (kD (acc [] (e.take k))),o2,o3,o4])
  (e.map trD) 0 [some (.lst (e.map trD)),some (kD []),none,none,none] ⟨none,none,none,rfl⟩ (λi d ρ v w=>by
   rw[QX]at v;cases y:e[i]? with
   |none=>rw[y]at v;cases v
   |some r =>
    rw[y]at v;cases v;rw[VV]at w ⊢;obtain⟨o2,o3,o4,rfl⟩:=w;have u:(acc [] (e.take i)).length<1000:=by have A:=w5 (e.take i) [];rw[RC]at A;simp at A;lia
    have L:acc [] (e.take (i+1))=step (acc [] (e.take i)) r:=by unfold acc;rw[qM,y,jHh];rfl
    exact⟨_,_,rfl,.inl (wd6 u),by rw[L];exact⟨_,_,_,rfl⟩⟩)
 obtain⟨o2,o3,o4,rfl⟩:=w;rw[HN,VV,lX]at B;have x:(kept e).length<64:=by unfold kept;rw[HN];exact qQ (TF _ _) H
 have⟨T,J,M⟩:=kx8 x;refine⟨T,J,Bg (Ak (Bf (d:=kD []) (by simp[kD])) (Ak (Ks (ds:=e.map trD) (by simp[Ag]) B) (Bc ?_)))⟩;have P:∀(l:List Kv),Fv (gT [0,1]) (tb (b2 (gv 1) (kd (.int 0)) neD)) (bA (zv (b2 (gv 0) (kd (.int 0)) ixD) (zv (b2 (gv 0) (kd (.int 1)) ixD) (zv (gv 1) a0))) Ra) [none,none] (((l.map λp=>k2D p.1).zip (l.map λp=>D.int p.2)).map λq=>.tup [q.1,q.2])=.ok (((l.filter λp=>decide (p.2≠0)).map rowOf).map trD):=by
  intro l;induction l with
  |nil=>rfl
  |cons p l G =>
   rw[NP,NP,fJ,NP,Fv,G];by_cases h:p.2=0
   ·simp[h]
   ·simp[h,k2D,trD,rowOf,Em]
 have O:Bl (itI 1) 2 [] (gT [0,1]) (tb (b2 (gv 1) (kd (.int 0)) neD)) (bA (zv (b2 (gv 0) (kd (.int 0)) ixD) (zv (b2 (gv 0) (kd (.int 1)) ixD) (zv (gv 1) a0))) Ra) [some (.lst (e.map trD)),some (kD (acc [] e)),o2,o3,o4]=.ok (.lst ((kept e).map trD)):=by refine Ec (yc7 (ks:=(acc [] e).map λ(p:Kv)=>k2D p.1) (fs:=(acc [] e).map λ(p:Kv)=>D.int p.2) (by simp[kD])) (P (acc [] e)) ?_;rw[HN];lia
 rw[Th,M6,O];simp[M]
def M8(o A:List Nat):List Nat:=(o.filter λk=>decide (k∈A)).reverse++o.filter λk=>!decide (k∈A)
variable {A:List Nat}
def Oc:k∈M8 o A↔k∈o:=by unfold M8;rw[NT,cB,QD,QD];by_cases h:k∈A<;>simp[h]
def vO(h:o.Nodup):(M8 o A).Nodup:=by unfold M8;rw[fG];refine⟨mH.mpr ((h.filter _).imp λ{a b} z=>Ne.symm z),h.filter _,λa p b g e=>?_⟩;rw[cB,QD]at p;rw[QD]at g;subst e;have r:=p.2;have q:=g.2;simp at r q;exact q r
def uJ(h:o.Nodup):o.Pairwise λa b=>o.idxOf a<o.idxOf b:=by rw[fO];intro i j p g e;rw[h.idxOf_getElem _ p,h.idxOf_getElem _ g];exact e
def vN(h:o.Nodup):(M8 o A).Pairwise (bef A o.idxOf):=by
 unfold M8;rw[WY];refine⟨?_,?_,λa p b g=>?_⟩
 ·rw[mH];refine((uJ h).filter λk=>decide (k∈A)).imp_of_mem λ{a b} p g r=>?_;have q:=(QD.mp p).2;have e:=(QD.mp g).2;exact .inl ⟨of_decide_eq_true e,.inr r⟩
 ·refine((uJ h).filter λk=>!decide (k∈A)).imp_of_mem λ{a b} p g r=>?_;have q:=(QD.mp p).2;have e:=(QD.mp g).2;simp at q e;exact .inr ⟨q,e,r⟩
 ·rw[cB,QD]at p;rw[QD]at g;have q:=p.2;have e:=g.2;simp at q e;exact .inl ⟨q,.inl e⟩
def U4(ts:Ar)(o A:List Nat):List Nat:=(List.range ts.length).filter λk=>decide (k∈(M8 o A).foldl (stp ts) [])
def kh2(g:InW n ts)(b:Ej ts.length o)(k:Nat):k∈U4 ts o A↔k∈(M8 o A).foldl (stp ts) []:=by unfold U4;rw[QD,KY,decide_eq_true_iff];exact⟨λz=>z.2,λz=>⟨(kp0 g (λk e=>b.lt k (Oc.mp e)) (vO b.nd) (vN b.nd) λk e=>Oc.mpr (b.all k e)).1.kn k z,z⟩⟩
def up_eq{G:List Nat}(h:F.Pairwise (·<·))(g:G.Pairwise (·<·))(e:∀k,k∈F↔k∈G):F=G:=
 eq_of_sorted (le:=λa b=>a<b) ((cH (h.imp λ{a b} z=>JV z) (g.imp λ{a b} z=>JV z)).mpr e) h g λa _ b _ z w=>absurd z (Nat.lt_asymm w)
def hmB:Ev->R Fl:=(ifS (tb (b2 (cl (zv (gv 0) (zv (b2 (gv 5) (bA (zv (gv 6) a0) Ra) Ca) a0)) Ly) (bA (zv (gv 5) a0) Gu) gtD)) (asg 5 (b2 (gv 5) (bA (zv (gv 6) a0) Ra) Ca)) nop)
theorem ju3(G:List Nat)(t:Nat)(b:G.length<=1000):Ca (Aa G) (.tup [.int (t:Int)])=some (Aa (G++[t])):=(Wx (by rw[Aq];simp;lia)).trans (by unfold Aa Ab;rw[UG];rfl)
theorem Tu{n:Nat}{ts:Ar}{o1 o2 o3 o4:Option D}(Q:n<=50)(h:∀e∈ts,e.1<=e.2/\e.2<n):∀(l G:List Nat)(u:Option D),Kn ts G->Fr n ts G->G.length+l.length<=1000->(∀k∈l,k<ts.length) ->
  ∃w,Kh (Ab l) (gN 6) hmB [some (Al n ts),o1,o2,o3,o4,some (Aa G),u]=.ok (.nx [some (Al n ts),o1,o2,o3,o4,some (Aa (l.foldl (stp ts) G)),w])
 | [],G,u,_,_,_,_=>⟨u,rfl⟩
 |t::l,G,u,b,L,y,I=>by
  have E:=inw h;have H:=I t LK;have g:Kn ts (G++[t]):=λk J=>by
   rcases NT.mp J with z |z
   ·exact b k z
   ·rw[LR.mp z];exact H
  have r:=Sh (n:=n) (ts:=ts) (s:=G++[t]) (by lia) h g;have O:=ju3 G t (by simp at y;lia);have P:Gu [Aa G]=some (.int (G.length:Nat)):=by show some (D.int _)=_;rw[Aq]
  have T:Kn ts (t::G):=λx B=>by
   rcases HY.mp B with rfl |B
   ·exact H
   ·exact b x B
  have Y:=O6 (n:=n) E (r:=t::G) g λk=>by simp[or_comm]
  have p:=Vx (n:=n) E T;unfold Fr at L;show ∃w,Kh (.int (t:Int)::Ab l) (gN 6) hmB _=_;rw[Kh,aH,R.ok_bind,iG];show ∃w,(hmB [some (Al n ts),o1,o2,o3,o4,some (Aa G),some (.int (t:Int))]).bind _=_;by_cases c:Br (Bj ts G) (eN ts t).1 (eN ts t).2
  ·have U:=p.1 c;have M:(n:Int) - (cN n ts (G++[t]):Nat)<=(G.length:Nat):=by lia
   have v:hmB [some (Al n ts),o1,o2,o3,o4,some (Aa G),some (.int (t:Int))]=.ok (.nx [some (Al n ts),o1,o2,o3,o4,some (Aa G),some (.int (t:Int))]):=by generalize Aa (G++[t])=q,Aa G=X,Al n ts=W at *;generalize (n:Int) - (cN n ts (G++[t]):Nat)=z at *;exact(Dd (by simp[Em,O,r,P,M])).trans rfl
   rw[v,tY c];exact Tu Q h l G _ b L (by simp at y;lia) λk b=>I k (JW _ b)
  ·have U:=p.2 c;have M:((G.length:Nat):Int)<(n:Int) - (cN n ts (G++[t]):Nat):=by lia
   have v:hmB [some (Al n ts),o1,o2,o3,o4,some (Aa G),some (.int (t:Int))]=.ok (.nx [some (Al n ts),o1,o2,o3,o4,some (Aa (G++[t])),some (.int (t:Int))]):=by generalize Aa (G++[t])=q,Aa G=X,Al n ts=W at *;generalize (n:Int) - (cN n ts (G++[t]):Nat)=z at *;exact(J1 (by simp[Em,O,r,P,M])).trans ((Bf (d:=q) (by simp[Em,O])).trans rfl)
   rw[v,vG c];exact Tu Q h l (G++[t]) _ g (by have:=wL E b H L c;exact this) (by simp at y ⊢;lia) λk b=>I k (JW _ b)
theorem wF(H:n<=50)(Z:ts.length<=20)(h:∀e∈ts,e.1<=e.2/\e.2<n)(p:Ej ts.length o):lJ [Al n ts,.lst (Ab o),Aa A]=.ok (Aa (U4 ts o A)):=by
 have r:=inw h;have G:=p.len;have M:=R7 (n:=n) (by lia) p;have P:∀(o3 o4 o5 o6:Option D),Bl (itS (gv 1)) 1 [2] (gN 0) (tb (b2 (gv 0) (gv 1) inD)) (gv 0) [some (Al n ts),some (.lst (Ab o)),some (Aa A),o3,o4,o5,o6]=.ok (.lst (Ab (o.filter λk=>decide (k∈A)))):=λo3 o4 o5 o6=>by refine Eo (s:=o) (B:=[some (Aa A)]) (by generalize Al n ts=W,Aa A=q at *;simp) rfl (λx _=>?_) (by lia);have:=pN (s:=A) (x:=x);generalize Aa A=q at *;simp[this]
 have O:∀(o3 o4 o5 o6:Option D),Bl (itS (gv 1)) 1 [2] (gN 0) (tb (b2 (gv 0) (gv 1) aG)) (gv 0) [some (Al n ts),some (.lst (Ab o)),some (Aa A),o3,o4,o5,o6]=.ok (.lst (Ab (o.filter λk=>!decide (k∈A)))):=λo3 o4 o5 o6=>by refine Eo (s:=o) (B:=[some (Aa A)]) (by generalize Al n ts=W,Aa A=q at *;simp) rfl (λx _=>?_) (by lia);have:=yH (s:=A) (x:=x);generalize Aa A=q at *;simp[this]
 have u:Fr n ts []:=by unfold Fr cN Bj;rw[eZ,lK];simp
 have X:(M8 o A).length<=100:=by unfold M8;rw[PB,qT];have:=TF (λk=>decide (k∈A)) o;have:=TF (λk=>!decide (k∈A)) o;lia
 have⟨Y,L⟩:=Tu (n:=n) (ts:=ts) (o1:=some (.lst (Ab o))) (o2:=some (Aa A)) (o3:=some (.lst (Ab (o.filter λk=>decide (k∈A))))) (o4:=some (.lst (Ab (o.filter λk=>!decide (k∈A))))) H h (M8 o A) [] none (λk b=>by cases b) u (by simp;lia) λk b=>p.lt k (Oc.mp b);have⟨⟨_,nd,_⟩,_,sub,_⟩:=Rv (n:=n) (bef:=bef A o.idxOf) r (M8 o A) [] (λk b=>by cases b) iB u (λk b=>p.lt k (Oc.mp b)) (vO p.nd) (λk _ z=>by cases z) (vN p.nd) (λg I=>by cases I);have J:((M8 o A).foldl (stp ts) []).length<64:=by have:=(Pk nd (m:=List.range ts.length) λk b=>KY.mpr (p.lt k (Oc.mp ((sub k b).resolve_left λz=>by cases z))));rw[NZ]at this;lia
 have w:Cq [Aa ((M8 o A).foldl (stp ts) [])]=some (.lst (Ab (U4 ts o A))):=Km J nd (List.Pairwise.filter _ aY) (λk=>(kh2 r p k).symm) rfl;have v:Dr [.lst (Ab (U4 ts o A))]=some (Aa (U4 ts o A)):=Gm;have E:m7 [.lst (Ab (o.filter λk=>decide (k∈A)))]=some (.lst (Ab (o.filter λk=>decide (k∈A)).reverse)):=by show some (D.lst _)=_;unfold Ab;rw[List.map_reverse]
 have Q:Ca (.lst (Ab (o.filter λk=>decide (k∈A)).reverse)) (.lst (Ab (o.filter λk=>!decide (k∈A))))=some (.lst (Ab (M8 o A))):=(oY (by
  rw[Aq,Aq,qT];have:=TF (λk=>decide (k∈A)) o;have:=TF (λk=>!decide (k∈A)) o;lia)).trans (by unfold M8 Ab;rw[UG])
 have y:D.tup []=Aa []:=rfl;generalize Ab (M8 o A)=T,Ab (o.filter λk=>decide (k∈A)).reverse=NV,Ab (o.filter λk=>decide (k∈A))=NI,Ab (o.filter λk=>!decide (k∈A))=NB,Ab (U4 ts o A)=NH,Aa (U4 ts o A)=SH,Aa ((M8 o A).foldl (stp ts) [])=SG,Aa A=q,Ab o=U,Al n ts=W at *;refine Bg (Ak (ρ1:=[some W,some (.lst U),some q,none,none,none,none]) (by simp[Ag,M]) (Ak (Bf (P _ _ _ _)) (Ak (Bf (O _ _ _ _)) (Ak (Bf (d:=Aa []) (by simp[Em,y])) (Ak (Ks (ds:=T) (by simp[E,Q]) L) (Bc (by simp[w,v])))))))
def Ym(h:s∈Bh m):s.Pairwise (·<·):=by unfold Bh at h;obtain⟨k,_,rfl⟩:=JF.mp h;exact List.Pairwise.filter _ aY
theorem K7:∀{m:Nat}{F:List Nat},F.Pairwise (·<·)->(∀k∈F,k<m)->F∈Bh m
 |0,F,_,h=>by
  rw[Ms];cases F with
  |nil=>simp
  |cons x F=>exact absurd (h x LK) (by lia)
 |m+1,F,g,h=>by
  rw[Mr,NT];by_cases q:m∈F
  ·right;refine JF.mpr ⟨F.filter λk=>decide (k<m),K7 (g.filter _) (λk p=>of_decide_eq_true (QD.mp p).2),?_⟩;refine up_eq ?_ g λk=>?_
   ·rw[WY];exact⟨g.filter _,by simp,λa u b r=>by rw[LR.mp r];exact of_decide_eq_true (QD.mp u).2⟩
   ·rw[NT,QD,decide_eq_true_iff,LR];constructor
    ·rintro(z |rfl)
     ·exact z.1
     ·exact q
    ·intro z;have:=h k z;by_cases e:k=m
     ·exact .inr e
     ·exact .inl ⟨z,by lia⟩
  ·left;exact K7 g λk p=>by have:=h k p;have:k≠m:=λe=>q (e ▸ p);lia
def Yl:∀m,(Bh m).Nodup
 |0=>by rw[Ms];simp
 |m+1=>by
  rw[Mr,fG];refine⟨Yl m,?_,λa p b g e=>?_⟩
  ·rw[List.nodup_iff_pairwise_ne,cC];exact(Yl m).imp λ{a b} h z=>h (List.append_cancel_right z)
  ·obtain⟨c,_,rfl⟩:=JF.mp g;subst e;have:=(Jh p).2 m (by simp);exact T_ _ this
theorem v_(g:F∈Bh ts.length):isF n ts F=true↔For n ts F:=by
 unfold isF;rw[QH,decide_eq_true_iff,decide_eq_true_iff];have cl:=u5 n ts;have r:=u5 n (Bj ts F);constructor
 ·rintro⟨q,p⟩;have e:cN n ts F=cc n ts:=by unfold cN;lia
  exact⟨Ym g,⟨(Jh g).2,(Ym g).imp λ{a b} z=>JV z,by unfold Fr;rw[e];lia,e⟩⟩
 ·intro h;have q:=h.fo.sp;have p:=h.fo.fr;unfold Fr at p;rw[q]at p;unfold cN at q;exact⟨by lia,by lia⟩
theorem Uu(q:n<=50)(p:ts.length<=6)(h:∀e∈ts,e.1<=e.2/\e.2<n):∃b:List (List Nat),K3 [Al n ts]=.ok (.lst (b.map Aa))/\b.Nodup/\b.length<=100/\∀F,F∈b↔For n ts F:=by
 have e:=jr1 (n:=n) q p h;have⟨b,g,r⟩:=Xx (f:=Aa) (Cy (((Bh ts.length).filter (isF n ts)).map Aa));rw[r]at e;refine⟨b,e,g.nodup_iff.mpr ((Yl _).filter _),?_,λF=>?_⟩
 ·rw[g.length_eq];refine QW (TF _ _) ?_;rw[Jg];exact QW (fL (by lia) p) (by decide)
 ·rw[g.mem_iff,QD];exact⟨λz=>(v_ z.1).mp z.2,λz=>have m:=K7 z.up z.fo.kn; ⟨m,(v_ m).mpr z⟩⟩
theorem kg8(p:Nat->Bool):(F.filter p).length+(F.filter λk=>!p k).length=F.length:=by
 induction F with
 |nil=>rfl
 |cons x F b =>
  cases h:p x with
  |true=>rw[iU h,iV (by simp[h])];simp;lia
  |false=>rw[iV (by simp[h]),iU (by simp[h])];simp;lia
def wc8{K:List Nat}(nd:K.Nodup)(h:∀k∈K,k<m):((List.range m).filter λk=>decide (k∈K)).length=K.length:=
 ((cH (iH.filter _) nd).mpr λk=>by
  rw[QD,KY,decide_eq_true_iff];exact⟨λz=>z.2,λz=>⟨h k z,z⟩⟩).length_eq
def rwF(n:Nat)(ts:Ar)(o F:List Nat):Tr:=(((Ht ts o F).length:Int),((Hs n ts o F).length:Int),1)
theorem wt0(b:For n ts F):(Ht ts o F).length+(Hs n ts o F).length<=ts.length:=by have a1:(Ht ts o F).length<=F.length:=TF _ _;have g:(Hs n ts o F).length<=(restOf ts.length F).length:=TF _ _;have e:=kg8 (F:=List.range ts.length) λk=>decide (k∈F);rw[wc8 b.fo.nd b.fo.kn,NZ]at e;unfold restOf at g;lia
variable {b:List (List Nat)}
theorem kw7(e:∀F,F∈b↔For n ts F):∀r∈b.map (rwF n ts o),(0<=r.1/\0<=r.2.1/\r.1+r.2.1<=ts.length)/\0<r.2.2:=λr g=>by
 obtain⟨F,h,rfl⟩:=JF.mp g;have:=wt0 (o:=o) ((e F).mp h);refine⟨⟨?_,?_,?_⟩,?_⟩
 ·show 0<=((Ht ts o F).length:Int);lia
 ·show 0<=((Hs n ts o F).length:Int);lia
 ·show((Ht ts o F).length:Int)+((Hs n ts o F).length:Int)<=_;lia
 ·show(0:Int)<1;decide
theorem wa2(h:ts.length<=6)(e:∀F,F∈b↔For n ts F):(acc [] (b.map (rwF n ts o))).length<=55:=wa1 λr g=>by have:=(kw7 e r g).1;lia
theorem zP(L:n<=50)(y:ts.length<=6)(h:∀e∈ts,e.1<=e.2/\e.2<n)(q:Ej ts.length o)(I:K3 [Al n ts]=.ok (.lst (b.map Aa)))(M:b.length<=100)(g:∀F,F∈b↔For n ts F):
  ∃T:List Tr,PN T (kept (b.map (rwF n ts o)))/\Gj [Al n ts,.lst (Ab o)]=.ok (.lst (T.map trD)):=by
 have⟨T,B,H⟩:=jj6 (b.map (rwF n ts o)) (by rw[HN];lia) (qQ (wa2 y g) (by decide));refine⟨T,B,?_⟩;have J:=R7 (n:=n) (by lia) q;have c:Bl (itS (cl (zv (gv 0) a0) K3)) 1 [0,1] (gN 0) yes (bA (zv (bA (zv (cl (zv (gv 1) (zv (gv 2) (zv (gv 0) a0))) Nr) a0) Gu) (zv (bA (zv (cl (zv (gv 1) (zv (gv 2) (zv (gv 0) a0))) Np) a0) Gu) (zv (kd (.int 1)) a0))) Ra) [some (Al n ts),some (.lst (Ab o))]=.ok (.lst ((b.map (rwF n ts o)).map trD)):=by refine Ec (ds:=b.map Aa) (by generalize b.map Aa=Y,Al n ts=W,Ab o=p at *;simp[I]) ?_ (by rw[HN,HN];lia);rw[TY];refine Jo b λF E=>?_;have r:=(g F).mp E;have x:=R0 (n:=n) (by lia) (by lia) h r q;have w:=Ro (n:=n) (by lia) (by lia) h r q;have v:=Xm (Ht ts o F);have u:=Xm (Hs n ts o F);show bA _ Ra [some (Aa F),some (Al n ts),some (.lst (Ab o))]=.ok (trD (rwF n ts o F));have G:trD (rwF n ts o F)=.tup [.int ((Ht ts o F).length:Int),.int ((Hs n ts o F).length:Int),.int 1]:=rfl;rw[G];generalize Aa (Ht ts o F)=P,Aa (Hs n ts o F)=U,Aa F=Q,Al n ts=W,Ab o=p at *;simp[x,w,v,u,Em]
 generalize (b.map (rwF n ts o)).map trD=X,T.map trD=O,Ab o=p,Al n ts=W at *;refine Bg (Ak (ρ1:=[some W,some (.lst p)]) (by simp[Ag,J]) (Bc ?_));show cl (zv (Bl _ _ _ _ _ _) a0) Qv [some W,some (.lst p)]=_;rw[rM,M6,c];simp[H]
def Oe:D:=.exc "NoForest" [] []
def Og:D:=.exc "NoOrder" [] []
def R6(t:Int):D:=.exc "NoTie" [.str "tie"] [.int t]
def kd5:Gh [Oe]=.ok (.int 0):=by kernel_rfl
def kd6:Gh [Og]=.ok (.int 1):=by kernel_rfl
def kd7(t:Int):Gh [R6 t]=.ok (.int 2):=by kernel_rfl
variable {O T W:D}
section
variable {S I:D}
def Ft{d:D}(h:Cg [W,O,S,T,I]=.ok d):Bv [W,O,S,T,I]=.ok (.tup [.non,.non]):=by
 refine Bg (Ak (ρ1:=[some W,some O,some S,some T,some I,some .non,none]) (by simp[Ag]) (Ak (ρ1:=[some W,some O,some S,some T,some I,some .non,none]) (wm2 (wy8 (ds:=[W,O,S,T,I]) (by simp) h)) (Qm ((J1 ?_).trans (Bc ?_)))))
 ·simp[show gC .non .non=some (.bl true) from rfl]
 ·simp[Em]
theorem Wq{c:PySem.Str}{ks fs:List D}{i:Int}(nt:isE "NoTie" (.exc c ks fs)=some (.bl false))(e:aL (.exc c ks fs)=true)(k:Gh [.exc c ks fs]=.ok (.int i))(h:Cg [W,O,S,T,I]=.exc (.exc c ks fs)):Bv [W,O,S,T,I]=.ok (.tup [.int i,.non]):=by
 have nn:gC (.exc c ks fs) .non=some (.bl false):=rfl;generalize D.exc c ks fs=E at *;refine Bg (Ak (ρ1:=[some W,some O,some S,some T,some I,some .non,none]) (by simp[Ag]) (Ak (ρ1:=[some W,some O,some S,some T,some I,some E,none]) ((xN (d:=E) (ρ':=[some W,some O,some S,some T,some I,some E,some E]) (vC (ds:=[W,O,S,T,I]) (by simp) h) e (by simp)).trans (by simp)) (Ak ((Dd ?_).trans rfl) (Ak ((Dd ?_).trans rfl) (Bc ?_)))))
 ·simp[nn]
 ·simp[nt]
 ·simp[k,Em]
theorem Ws{t:Int}(h:Cg [W,O,S,T,I]=.exc (R6 t)):Bv [W,O,S,T,I]=.ok (.tup [.int 2,.int t]):=by
 have nn:gC (R6 t) .non=some (.bl false):=rfl;have k:=kd7 t;have g:jH "tie" (R6 t)=some (.int t):=wq5 rfl (by decide) (by decide);have e:aL (R6 t)=true:=by show(decide (("NoTie" : PySem.Str) ≠ "dict") && decide (("NoTie" : PySem.Str) ≠ "dictK") && true)=true;decide
 have nt:isE "NoTie" (R6 t)=some (.bl true):=nT (by decide) (by decide);generalize R6 t=E at *;refine Bg (Ak (ρ1:=[some W,some O,some S,some T,some I,some .non,none]) (by simp[Ag]) (Ak (ρ1:=[some W,some O,some S,some T,some I,some E,none]) ((xN (d:=E) (ρ':=[some W,some O,some S,some T,some I,some E,some E]) (vC (ds:=[W,O,S,T,I]) (by simp) h) e (by simp)).trans (by simp)) (Ak ((Dd ?_).trans rfl) (Qm ((J1 ?_).trans (Bc ?_))))))
 ·simp[nn]
 ·simp[nt]
 ·simp[k,g,Em]
def jq0(h:Cg [W,O,S,T,I]=.exc Oe):Bv [W,O,S,T,I]=.ok (.tup [.int 0,.non]):=Wq (nT (by decide) (by decide)) (by decide +kernel) kd5 h
def Wr(h:Cg [W,O,S,T,I]=.exc Og):Bv [W,O,S,T,I]=.ok (.tup [.int 1,.non]):=Wq (nT (by decide) (by decide)) (by decide +kernel) kd6 h
end
structure Rs(m:Nat)(s:List Nat):Prop where
 up:s.Pairwise (·<·)
 kn:∀k∈s,k<m
def Rs.nd(h:Rs m s):s.Nodup:=h.up.imp λ{a b} z=>JV z
def isG(n:Nat)(ts:Ar)(s:List Nat):Bool:=decide (((s.length:Nat):Int)=(n:Int) - (cc n ts:Nat)) && decide ((n:Int) - (cN n ts s:Nat)=((s.length:Nat):Int))
theorem pL(e:Rs ts.length s):isG n ts s=true↔For n ts s:=by
 unfold isG;rw[QH,decide_eq_true_iff,decide_eq_true_iff];constructor
 ·rintro⟨p,g⟩;exact⟨e.up,⟨e.kn,e.nd,by unfold Fr;lia,by lia⟩⟩
 ·intro h;have p:=h.fo.sp;have g:=h.fo.fr;unfold Fr at g;lia
def R3(s:List Nat):Gu [Aa s]=some (.int (s.length:Nat)):=by show some (D.int _)=_;rw[Aq]
theorem ws1(M:n<=50)(H:ts.length<=50)(h:∀e∈ts,e.1<=e.2/\e.2<n)(r:Rs ts.length s):Nq [Al n ts,Aa s]=.ok (.bl (isG n ts s)):=by
 have L:=all_eq n ts H;have g:=Sh (n:=n) (ts:=ts) (s:=List.range ts.length) (by lia) h λk I=>KY.mp I;have u:=Sh (n:=n) (ts:=ts) (s:=s) (by lia) h r.kn;have J:cN n ts (List.range ts.length)=cc n ts:=by unfold cN;rw[Pn]
 rw[J]at g;have v:=R3 s;have G:=@pN s;have E:=Vj (m:=ts.length) r.up r.kn;have ne:=Ti (n:=1) (by lia) (vW s);have c:Bl (itS (gv 2)) 1 [1] (gN 0) (tb (b2 (gv 0) (gv 1) inD)) (gv 0) [some (Al n ts),some (Aa s),some (Aa (List.range ts.length))]=.ok (.lst (Ab s)):=by
  have:=Eo (s:=List.range ts.length) (p:=λk=>decide (k∈s)) (it:=itS (gv 2)) (caps:=[1]) (t:=tb (b2 (gv 0) (gv 1) inD)) (ρ:=[some (Al n ts),some (Aa s),some (Aa (List.range ts.length))]) (B:=[some (Aa s)]) (by simp[Aa]) rfl (λx _=>by
   have:=G (x:=x);generalize Aa s=y at *;simp[this]) (by rw[NZ];lia)
  rw[E]at this;exact this
 have tF:Dr [.lst (Ab s)]=some (Aa s):=Gm;unfold isG;generalize (s.length:Nat)=l at *;generalize (n:Int) - (cc n ts:Nat)=A at *;generalize (n:Int) - (cN n ts s:Nat)=B at *;generalize Ab s=P,Al n ts=W,Aa (List.range ts.length)=w,Aa s=y at *;refine Bg (Ak (Bf (d:=w) (by simp[Ag,L])) (Ak ((Dd ?_).trans rfl) (Bc ?_)))
 ·show tb (b2 (bA (zv (Bl (itS (gv 2)) 1 [1] (gN 0) (tb (b2 (gv 0) (gv 1) inD)) (gv 0)) a0) Dr) (gv 1) neD) [some W,some y,some w]=_;rw[jJ,eF,Th,M6,c];simp[tF,ne]
 ·by_cases q:(l:Int)=A
  ·simp[Ag,v,g,u,q]
  ·simp[Ag,v,g,u,q]
def wl2(g:m<=6)(e:Rs m s):bM (Aa s)=true:=by
 have h:s∈Bh 6:=K7 e.up λk p=>QF (e.kn k p) g;have all:(Bh 6).all (λs=>bM (Aa s))=true:=by decide +kernel
 exact RJ.mp all s h
theorem ki4(r:n<=50)(u:ts.length<=6)(h:∀e∈ts,e.1<=e.2/\e.2<n)(p:Rs ts.length s)(v:¬ For n ts s):Bd [Al n ts,Aa s]=.exc Oe:=by have e:=ws1 (n:=n) r (by lia) h p;have g:isG n ts s=false:=dJ.mpr λz=>v ((pL p).mp z);rw[g]at e;have q:wdT (gv 1) [some (Al n ts),some (Aa s)]=.ok ():=yd2 (ds:=Ab s) rfl (wl2 u p);generalize Al n ts=W,Aa s=S at *;refine Fe ((J1 (by simp[Ag,e])).trans (uU ?_));show fU (wdT (gv 1)) (fU fV fV) [some W,some S]=.ok ();unfold fU;rw[q];rfl
theorem yD{g:Type}[DecidableEq g]:∀{l xs:List g},l.Nodup->(∀a∈l,a∈xs)->xs.length<=l.length->l.Perm xs
 | [],xs,_,_,h=>by have:xs=[]:=mO (by simpa using h);rw[this]
 |a::l,xs,nd,p,h=>by
  have q:=VF.mp nd;have u:=p a (by simp);refine((yD q.2 (λb r=>?_) ?_).cons a).trans (List.perm_cons_erase u).symm
  ·exact(jGm (show b≠a from λe=>q.1 (e ▸ r))).mpr (p b (by simp[r]))
  ·rw[jFp u];rw[RB]at h;lia
theorem vY(m:Nat):((List.range m).map λ(k:Nat)=>(k:Int)).Nodup:=List.Pairwise.map _ (λa b h e=>h (by lia)) iH
def Hq(m:Nat)(xs:List Int):Prop:=xs.length=m/\∀k,k<m->(k:Int)∈xs
instance(m:Nat)(xs:List Int):Decidable (Hq m xs):=by unfold Hq;exact inferInstance
variable {xs:List Int}
def kf2(h:Hq m xs):((List.range m).map λ(k:Nat)=>(k:Int)).Perm xs:=yD (vY m) (λa g=>by
 obtain⟨k,e,rfl⟩:=JF.mp g;exact h.2 k (KY.mp e)) (by rw[HN,NZ,h.1];exact FW _)
def Tt(h:Hq m xs):∃o,Ej m o/\xs.map D.int=Ab o:=by
 have p:=kf2 h;have mem:∀x∈xs,∃k,k<m/\x=((k:Nat):Int):=λx r=>by obtain⟨k,u,rfl⟩:=JF.mp (p.mem_iff.mpr r);exact⟨k,KY.mp u,rfl⟩
 have nd:xs.Nodup:=p.nodup_iff.mp (vY m);have e:(xs.map Int.toNat).map (λ(k:Nat)=>(k:Int))=xs:=by rw[TY];refine(iR λx r=>?_).trans (List.map_id _);obtain⟨k,_,rfl⟩:=mem x r;rfl
 refine⟨xs.map Int.toNat,⟨by rw[HN,h.1],?_,λk u=>?_⟩,?_⟩
 ·have g:=nd;rw[<-e]at g;exact(cC.mp g).imp λ{a b} z q=>z (by rw[q])
 ·obtain⟨x,r,rfl⟩:=JF.mp u;obtain⟨j,v,rfl⟩:=mem x r;exact v
 ·unfold Ab;rw[<-e];simp[Function.comp_def]
theorem yF(G:ts.length<=50)(E:¬ Hq ts.length xs):Cm [Al n ts,.lst (xs.map .int)]=.exc Og:=by
 have I:=all_eq n ts G;have c:Bl (itS (gv 2)) 1 [1] (gN 0) yes (b2 (gv 0) (gv 1) inD) [some (Al n ts),some (.lst (xs.map .int)),some (Aa (List.range ts.length))]=.ok (.lst (((List.range ts.length).map λ(k:Nat)=>decide ((k:Int)∈xs)).map .bl)):=by
  refine Ec (ds:=Ab (List.range ts.length)) (by generalize Al n ts=W,xs.map D.int=r at *;simp[Aa]) ?_ (by simp;lia);unfold Ab;rw[TY];refine Jo (List.range ts.length) λx v=>?_;have B:inD (.int (x:Int)) (.lst (xs.map .int))=some (.bl (decide ((x:Int)∈xs))):=jK (n:=0) (ys:=xs.map .int) rfl (by lia) Jw (λy p=>by
   obtain⟨z,_,rfl⟩:=JF.mp p;exact Jw) (by rw[decide_eq_true_iff];exact⟨λz=>JF.mpr ⟨_,z,rfl⟩,λz=>by
    have⟨y,p,e⟩:=JF.mp z;cases e;exact p⟩)
  generalize xs.map D.int=r at *;simp[Dp,B]
 have u:Gu [.lst (xs.map .int)]=some (.int (xs.length:Nat)):=by show some (D.int _)=_;rw[HN]
 have h:=R3 (List.range ts.length);rw[NZ]at h;have g:b8 [.lst (((List.range ts.length).map λ(k:Nat)=>decide ((k:Int)∈xs)).map .bl)]=some (.bl (((List.range ts.length).map λ(k:Nat)=>decide ((k:Int)∈xs)).all id)):=u_ _;have key:xs.length=ts.length->(((List.range ts.length).map λ(k:Nat)=>decide ((k:Int)∈xs)).all id)=false:=λv=>dJ.mpr λz=>E ⟨v,λk H=>by
  have:=RJ.mp z _ (JF.mpr ⟨k,KY.mpr H,rfl⟩);exact of_decide_eq_true this⟩
 generalize (((List.range ts.length).map λ(k:Nat)=>decide ((k:Int)∈xs)).all id)=L at *;generalize ((List.range ts.length).map λ(k:Nat)=>decide ((k:Int)∈xs)).map D.bl=J at *;generalize Aa (List.range ts.length)=w,xs.map D.int=r,Al n ts=W at *;refine Fe (Ak (Bf (d:=w) (by simp[Ag,I])) ((J1 ?_).trans (uU rfl)));show tor _ (nt (tt (bA (zv (Bl (itS (gv 2)) 1 [1] (gN 0) yes (b2 (gv 0) (gv 1) inD)) a0) b8))) [some W,some (.lst r),some w]=_;rw[j9,nA,rJ,Th,M6,c];by_cases q:(xs.length:Int)=(ts.length:Int)
 ·simp[u,h,g,j_,q,key (by lia)]
 ·simp[u,h,g,j_,q]
def inB(l:List Nat)(t:Int):Bool:=l.any λk=>decide ((k:Int)=t)
def wC{t:Int}:inB l t=true↔D.int t∈Ab l:=by unfold inB Ab;rw[iI,JF];exact⟨λ⟨k,g,e⟩=>⟨k,g,by rw[of_decide_eq_true e]⟩,λ⟨k,g,e⟩=>⟨k,g,decide_eq_true (by cases e;rfl)⟩⟩
theorem ws0(l:List Nat)(t:Int):inD (.int t) (Aa l)=some (.bl (inB l t)):=jK (n:=0) (ys:=Ab l) rfl (by lia) Jw (Pq l) wC
theorem R5(l:List Nat)(t:Int):aG (.int t) (Aa l)=some (.bl (!inB l t)):=tH (n:=0) (ys:=Ab l) rfl (by lia) Jw (Pq l) wC
def Vz{t:Int}(h:inB l t=true):∃k,k∈l/\t=(k:Int):=by have⟨k,g,e⟩:=iI.mp h;exact⟨k,g,(of_decide_eq_true e).symm⟩
theorem kq2{t:Int}:inB (restOf m s) t=(!inB s t && decide (0<=t/\t<m)):=by
 rw[aV,QH,decide_eq_true_iff];constructor
 ·intro h;obtain⟨k,g,rfl⟩:=Vz h;have:=Fq.mp g;refine⟨?_,by lia⟩;rw[XH,dJ];intro z;have⟨j,q,e⟩:=Vz z;have:j=k:=by lia
  exact(Fq.mp g).2 (this ▸ q)
 ·rintro⟨p,r⟩;refine iI.mpr ⟨t.toNat,Fq.mpr ⟨by lia,λz=>?_⟩,decide_eq_true (by lia)⟩;rw[XH,dJ]at p;exact p (iI.mpr ⟨_,z,decide_eq_true (by lia)⟩)
section
variable {n:Nat}{ts:Ar}{s:List Nat}{t:Int}{xs:List Int}
def wj9{S:D}(h:Bd [W,S]=.exc Oe):K4 [W,S,.int t]=.exc Oe:=Fe (Kw (Kd (by simp[Ag,h])))
def wp8{S:D}(h:Bd [W,S]=.exc Oe):Nm [W,S,.int t]=.exc Oe:=Fe (Kw (Kd (by simp[Ag,h])))
def wf4{S:D}(h:Bd [W,S]=.exc Oe):Wv [W,O,S]=.exc Oe:=Fe (Kw (Kd (by simp[Ag,h])))
def wd5{S:D}(h:Bd [W,S]=.exc Oe):Wu [W,O,S]=.exc Oe:=Fe (Kw (Kd (by simp[Ag,h])))
def kr3{S:D}(h:Bd [W,S]=.ok .non)(e:Cm [W,O]=.exc Og):Wv [W,O,S]=.exc Og:=Fe (Ak (ρ1:=[some W,some O,some S]) (by simp[Ag,h]) (Kw (Kd (by simp[e]))))
def ko0{S:D}(h:Bd [W,S]=.ok .non)(e:Cm [W,O]=.exc Og):Wu [W,O,S]=.exc Og:=Fe (Ak (ρ1:=[some W,some O,some S]) (by simp[Ag,h]) (Kw (Kd (by simp[e]))))
def wD{S:D}(e:Cm [W,O]=.exc Og):lJ [W,O,S]=.exc Og:=Fe (Kw (Kd (by simp[Ag,e])))
def xO(e:Cm [W,O]=.exc Og):Gj [W,O]=.exc Og:=Fe (Kw (Kd (by simp[Ag,e])))
theorem kw5(p:ts.length<=50)(ht:t.natAbs<2 ^ 200)(h:Bd [Al n ts,Aa s]=.ok .non)(hi:inB (restOf ts.length s) t=false):K4 [Al n ts,Aa s,.int t]=.exc (R6 t):=by have g:=k_ (n:=n) (F:=s) p;have e:=R5 (restOf ts.length s) t;rw[hi]at e;generalize Al n ts=W,Aa s=S,Aa (restOf ts.length s)=q at *;exact Fe (Ak (ρ1:=[some W,some S,some (.int t)]) (by simp[Ag,h]) (Kw ((J1 (by simp[g,e])).trans (uT (by simp[tG ht]) (by simp) rfl))))
theorem wb9(ht:t.natAbs<2 ^ 200)(h:Bd [Al n ts,Aa s]=.ok .non)(hi:inB s t=false):Nm [Al n ts,Aa s,.int t]=.exc (R6 t):=by have e:=R5 s t;rw[hi]at e;generalize Al n ts=W,Aa s=S at *;exact Fe (Ak (ρ1:=[some W,some S,some (.int t)]) (by simp[Ag,h]) (Kw ((J1 (by simp[e])).trans (uT (by simp[tG ht]) (by simp) rfl))))
theorem kw6(u:n<=50)(p:ts.length<=50)(r:∀e∈ts,e.1<=e.2/\e.2<n)(w:For n ts s)(h:Bd [Al n ts,Aa s]=.ok .non)(hi:inB (restOf ts.length s) t=true):∃d,K4 [Al n ts,Aa s,.int t]=.ok d:=by
 have q:=k_ (n:=n) (F:=s) p;have g:=R5 (restOf ts.length s) t;rw[hi]at g;obtain⟨k,v,rfl⟩:=Vz hi;have m:=Fq.mp v;have e:=Sd u p r w m.1 m.2;refine⟨_,Bg (Ak (ρ1:=[some (Al n ts),some (Aa s),some (.int (k:Int))]) ?_ (Ak ((Dd ?_).trans rfl) (Bc (d:=Aa (Gz n ts s k)) ?_)))⟩
 all_goals
  generalize Aa (Gz n ts s k)=y,Al n ts=W,Aa s=S,Aa (restOf ts.length s)=x at *
 ·simp[Ag,h]
 ·simp[q,g]
 ·simp[e]
theorem wc0(q:n<=50)(r:ts.length<=50)(p:∀e∈ts,e.1<=e.2/\e.2<n)(v:For n ts s)(h:Bd [Al n ts,Aa s]=.ok .non)(hi:inB s t=true):∃d,Nm [Al n ts,Aa s,.int t]=.ok d:=by
 have g:=R5 s t;rw[hi]at g;obtain⟨k,u,rfl⟩:=Vz hi;have e:=Up q r p v u;refine⟨_,Bg (Ak (ρ1:=[some (Al n ts),some (Aa s),some (.int (k:Int))]) ?_ (Ak ((Dd ?_).trans rfl) (Bc (d:=Aa (Kr ts s k)) ?_)))⟩
 all_goals
  generalize Aa (Kr ts s k)=w,Al n ts=W,Aa s=S at *
 ·simp[Ag,h]
 ·simp[g]
 ·simp[e]
end
variable {w:Nat}
section
variable {S d e:D}
def aN(W O S T:D):Nat->R D
 |0=>K4 [W,S,T]
 |1=>Nm [W,S,T]
 |2=>Wv [W,O,S]
 |3=>Wu [W,O,S]
 |4=>lJ [W,O,S]
 |_=>Gj [W,O]
theorem zG(h:w<6):Cg [W,O,S,T,.int (w:Int)]=(aN W O S T w).bind λ_=>.ok .non:=by
 have g:∀(r:R D)(ρ:Ev),bV (r.bind λ_=>.ok (.nx ρ))=r.bind λ_=>.ok .non:=λr ρ=>by cases r<;>rfl
 have:w=0\/w=1\/w=2\/w=3\/w=4\/w=5:=by lia
 show bV (Jb [some W,some O,some S,some T,some (.int (w:Int))])=_;unfold Jb gO;rcases this with rfl |rfl |rfl |rfl |rfl |rfl
 ·rw[J1 (by simp),Zr,Zq,g];simp[aN]
 ·rw[Dd (by simp),J1 (by simp),Zr,Zq,g];simp[aN]
 ·rw[Dd (by simp),Dd (by simp),J1 (by simp),Zr,Zq,g];simp[aN]
 ·rw[Dd (by simp),Dd (by simp),Dd (by simp),J1 (by simp),Zr,Zq,g];simp[aN]
 ·rw[Dd (by simp),Dd (by simp),Dd (by simp),Dd (by simp),J1 (by simp),Zr,Zq,g];simp[aN]
 ·rw[Dd (by simp),Dd (by simp),Dd (by simp),Dd (by simp),Dd (by simp),Zr,Zq,g];simp[aN]
def Hj(g:w<6)(h:aN W O S T w=.ok d):Cg [W,O,S,T,.int (w:Int)]=.ok .non:=by rw[zG g,h];rfl
def Ky(g:w<6)(h:aN W O S T w=.exc e):Cg [W,O,S,T,.int (w:Int)]=.exc e:=by rw[zG g,h];rfl
end
theorem ks3(h:m<=60):list_rangeD [.int (m:Int)]=some (.lst (Ab (List.range m))):=by
 unfold list_rangeD;have e:Vt [.int (m:Int)]=some (0,(m:Int)):=by
  have g:-(2 ^ 62)<=(m:Int)/\(m:Int)<2 ^ 62/\(m:Int)<=16777216:=by lia
  dsimp only[Vt];rw[if_pos g]
 rw[e];simp[Sq,Ab]
theorem kj2(p:xs.length<64):∃Y,Cq [.lst (xs.map .int)]=some (.lst Y)/\(∀d∈Y,d.pl 0=true)/\(Y=Ab (List.range m)↔Hq m xs):=by
 have e:Cq [.lst (xs.map .int)]=some (.lst (if(xs.map D.int).length<2 then xs.map .int else srt (xs.map .int))):=if_pos ⟨by rw[HN];exact p,.inr (Pa xs)⟩;have g:(if(xs.map D.int).length<2 then xs.map D.int else srt (xs.map .int)).Perm (xs.map .int):=by
  split
  ·exact List.Perm.refl _
  ·exact Cy _
 generalize (if(xs.map D.int).length<2 then xs.map D.int else srt (xs.map .int))=Y at *;refine⟨Y,e,λd u=>?_,λz=>?_,λz=>?_⟩
 ·obtain⟨x,_,rfl⟩:=JF.mp (g.mem_iff.mp u);exact Jw
 ·rw[z]at g;refine⟨?_,λk r=>?_⟩
  ·have:=g.length_eq;rw[Aq,NZ,HN]at this;exact this.symm
  ·have:D.int (k:Int)∈Ab (List.range m):=JF.mpr ⟨k,KY.mpr r,rfl⟩;have⟨x,p,e⟩:=JF.mp (g.mem_iff.mp this);cases e;exact p
 ·have⟨o,h,v⟩:=Tt z;have:Cq [.lst (xs.map .int)]=some (.lst (Ab (List.range m))):=by rw[v];exact Km (l:=o) (by rw[h.len];have:=z.1;lia) h.nd aY (λk=>⟨λq=>KY.mpr (h.lt k q),λq=>h.all k (KY.mp q)⟩) rfl
  rw[e]at this;cases this;rfl
def aJ(g b i r:Bool)(t:Int)(w:Nat):List D:=
 if w<4/\g=false then [.int 0,.non] else if 1<w/\b=false then [.int 1,.non] else if w=0/\(i=true\/r=false)\/w=1/\i=false then [.int 2,.int t] else [.non,.non]
open Classical in
theorem wq1{t:Int}(hn:n<=50)(hl:ts.length<=50)(h:∀e∈ts,e.1<=e.2/\e.2<n)(hs:Rs ts.length s)(hx:xs.length<64)(hw:w<6):
  Qp [Al n ts,.lst (xs.map .int),Aa s,.int t,.int (w:Int)]=.ok (.tup (aJ (isG n ts s) (decide (Hq ts.length xs)) (inB s t) (decide (0<=t/\t<ts.length)) t w)):=by
 have w1:=V3 n ts;have J:=zN (m:=ts.length) (by lia);have lr:=ks3 (m:=ts.length) (by lia);have H:=Xq (n:=n) (ts:=ts) (s:=List.range ts.length) hn h λk hk=>KY.mp hk;rw[Pn]at H;have Q:=Xq (n:=n) (ts:=ts) (s:=s) hn h hs.kn;have X:=R3 s;have i1:=ws0 s t;have i2:=R5 s t;have⟨Y,so,U,Z⟩:=kj2 (m:=ts.length) (xs:=xs) hx;have ne:neD (.lst Y) (.lst (Ab (List.range ts.length)))=some (.bl (!decide (Hq ts.length xs))):=by
  rw[yl8 (n:=1) (x:=.lst Y) (y:=.lst (Ab (List.range ts.length))) (by lia) (by show Eh 0 Y=true;exact Jf.mpr U) (by show Eh 0 _=true;exact Jf.mpr (Pq _))];have q:(D.lst Y=D.lst (Ab (List.range ts.length)))↔Hq ts.length xs:=by rw[<-Z];exact⟨D.lst.inj,λz=>by rw[z]⟩
  rw[decide_eq_decide.mpr q]
 unfold isG cN;generalize hb:decide (Hq ts.length xs)=b at *;generalize inB s t=i at *;generalize ((s.length:Nat):Int)=l at *;generalize (n:Int) - (cc n ts:Nat)=A at *;generalize (n:Int) - (cc n (Bj ts s):Nat)=B at *;generalize Ab (List.range ts.length)=NR,Al n ts=W,Aa (List.range ts.length)=SR,Aa s=S,xs.map D.int=g at *;clear hb Z U;have eG:∀o:Option D,va (b2 (bA (zv (gv 2) a0) Gu) (cl (zv (gv 0) (zv (bA (zv (gv 5) a0) G4) a0)) Fw) eqD) (b2 (cl (zv (gv 0) (zv (gv 2) a0)) Fw) (bA (zv (gv 2) a0) Gu) eqD) [some W,some (.lst g),some S,some (.int t),some (.int (w:Int)),some (.int (ts.length:Int)),o]=.ok (.bl (decide (l=A) && decide (B=l))):=λo=>by
  by_cases q:l=A
  ·simp[X,J,H,Q,q]
  ·simp[X,J,H,Q,q]
 generalize (decide (l=A) && decide (B=l))=G at *;refine Bg (Ak (ρ1:=[some W,some (.lst g),some S,some (.int t),some (.int (w:Int)),some (.int (ts.length:Int)),none]) (by simp[Ag,w1]) (Ak (Bf (eG none)) ?_));show sq _ _ [some W,some (.lst g),some S,some (.int t),some (.int (w:Int)),some (.int (ts.length:Int)),some (.bl G)]=_;have P:tan (tb (b2 (gv 4) (kd (.int 4)) ltD)) (nt (tt (gv 6))) [some W,some (.lst g),some S,some (.int t),some (.int (w:Int)),some (.int (ts.length:Int)),some (.bl G)]=.ok (decide (w<4/\G=false)):=by
  by_cases q:w<4
  ·have:(w:Int)<4:=by lia
   cases G<;>simp[q,this]
  ·have:¬ (w:Int)<4:=by lia
   simp[q,this]
 have M:tan (tb (b2 (gv 4) (kd (.int 1)) gtD)) (tb (b2 (bA (zv (gv 1) a0) Cq) (bA (zv (gv 5) a0) list_rangeD) neD)) [some W,some (.lst g),some S,some (.int t),some (.int (w:Int)),some (.int (ts.length:Int)),some (.bl G)]=.ok (decide (1<w/\b=false)):=by
  by_cases q:1<w
  ·have:(1:Int)<w:=by lia
   cases b<;>simp[q,this,so,lr,ne]
  ·have:¬ (1:Int)<w:=by lia
   simp[q,this]
 have L:tor (tan (tb (b2 (gv 4) (kd (.int 0)) eqD)) (tor (tb (b2 (gv 3) (gv 2) inD)) (nt (tb (ch (kd (.int 0)) (gv 3) (gv 5) leD ltD))))) (tan (tb (b2 (gv 4) (kd (.int 1)) eqD)) (tb (b2 (gv 3) (gv 2) aG))) [some W,some (.lst g),some S,some (.int t),some (.int (w:Int)),some (.int (ts.length:Int)),some (.bl G)]=.ok (decide (w=0/\(i=true\/decide (0<=t/\t<ts.length)=false)\/w=1/\i=false)):=by
  have eC:tb (ch (kd (.int 0)) (gv 3) (gv 5) leD ltD) [some W,some (.lst g),some S,some (.int t),some (.int (w:Int)),some (.int (ts.length:Int)),some (.bl G)]=.ok (decide (0<=t/\t<ts.length)):=by
   rw[jJ];unfold ch;by_cases I:0<=t
   ·by_cases h2:t<ts.length
    ·simp[I,h2]
    ·simp[I,h2]
   ·simp[I]
  generalize decide (0<=t/\t<ts.length)=r at *;rw[j9,tE,tE,j9,nA,eC];by_cases q:w=0
  ·subst q;cases i<;>cases r<;>simp[i1,i2]
  ·have q':¬ (w:Int)=0:=by lia
   by_cases p:w=1
   ·subst p;cases i<;>simp[i1,i2]
   ·have p':¬ (w:Int)=1:=by lia
    simp[q,p,q',p']
 unfold aJ;by_cases E:w<4/\G=false
 ·rw[if_pos E];exact Qm ((J1 (P.trans (by rw[decide_eq_true E]))).trans (Bc (by simp[Em])))
 rw[if_neg E];refine Ak ((Dd (P.trans (by rw[decide_eq_false E]))).trans rfl) ?_;by_cases v:1<w/\b=false
 ·rw[if_pos v];exact Qm ((J1 (M.trans (by rw[decide_eq_true v]))).trans (Bc (by simp[Em])))
 rw[if_neg v];refine Ak ((Dd (M.trans (by rw[decide_eq_false v]))).trans rfl) ?_;by_cases u:w=0/\(i=true\/decide (0<=t/\t<ts.length)=false)\/w=1/\i=false
 ·rw[if_pos u];exact Qm ((J1 (L.trans (by rw[decide_eq_true u]))).trans (Bc (by simp[Em])))
 rw[if_neg u];exact Ak ((Dd (L.trans (by rw[decide_eq_false u]))).trans rfl) (Bc (by simp[Em]))
theorem Rj(xs:List Int)(lo hi:Option Int):∃e:List Int,e.length<=xs.length/\slW (.lst (xs.map .int)) lo hi=some (.lst (e.map .int)):=by
 refine⟨(xs.drop (HT.sIx (xs.map D.int).length 0 lo)).take (HT.sIx (xs.map D.int).length (xs.map D.int).length hi - HT.sIx (xs.map D.int).length 0 lo),?_,?_⟩
 ·rw[RC,WX];lia
 ·show some (D.lst (cutD _ lo hi))=_;unfold cutD;rw[<-p7,<-pZ]
theorem kj4(ns:List Int)(m:Nat)(hm:m<=6):∃xs:List Int,xs.length<=20/\Qe [.lst (ns.map .int),.int (m:Int)]=.ok (.lst (xs.map .int)):=by
 have⟨o,P,B⟩:=order_eq ns 5 m (by lia) (by lia);have B:Gi [.lst (ns.map .int),.int 5,.int (m:Int)]=.ok (.lst (Ab o)):=B;have Q:Ab o=(o.map λ(k:Nat)=>(k:Int)).map D.int:=by unfold Ab;rw[TY];rfl
 have aa:(o.map λ(k:Nat)=>(k:Int)).length<=6:=by rw[HN,P.len];exact hm
 rw[Q]at B;generalize (o.map λ(k:Nat)=>(k:Int))=r at *;clear Q P;have⟨vs,hv,J⟩:=Ub ns 6 (by lia) [6,(m:Int)+1,3] (by intro z hz;simp at hz;lia) (by simp);obtain⟨a,b,c,rfl,ha,hb,hc⟩:∃a b c,vs=[a,b,c]/\(0<=a/\a<6)/\(0<=b/\b<(m:Int)+1)/\(0<=c/\c<3):=by
  match vs,hv with
  | [a,b,c],h=>exact⟨a,b,c,rfl,by simpa using h.2 0 (by simp),by simpa using h.2 1 (by simp),by simpa using h.2 2 (by simp)⟩
  | [],h=>exact absurd h.1 (by simp)
  | [_],h=>exact absurd h.1 (by simp)
  | [_,_],h=>exact absurd h.1 (by simp)
  |_::_::_::_::_,h=>exact absurd h.1 (by simp)
 have J:Fj [.lst (ns.map .int),.int 6,.lst [.int 6,.int ((m:Int)+1),.int 3]]=.ok (.lst [.int a,.int b,.int c]):=J;have⟨e,l1,I⟩:=Rj r none (some b);have⟨p,l2,H⟩:=Rj r (some (b+1)) none;have⟨G,l3,Z⟩:=Rj r (some b) (some (b+1));have⟨u,l4,Y⟩:=Rj r (some (b - 1)) (some b);have x:∀xs y:List Int,xs.length<=20->y.length<=20->Ca (.lst (xs.map .int)) (.lst (y.map .int))=some (.lst ((xs++y).map .int)):=λxs y h1 h2=>by rw[UG];exact oY (by rw[HN,HN];lia)
 have a1:=x e p (by lia) (by lia);have a2:=x r G (by lia) (by lia);have a3:=x e u (by lia) (by lia);have a4:=x (e++u) p (by rw[PB];lia) (by lia);have pw:aF (.int 10) (.int 9)=some (.int 1000000000):=nR (by decide);obtain⟨v,ev⟩:∃v:Int,ixD (.lst [.int (-1),.int (m:Int),.int 1000000000]) (.int c)=some (.int v):=by
  have:c=0\/c=1\/c=2:=by lia
  rcases this with rfl |rfl |rfl
  ·exact⟨_,rfl⟩
  ·exact⟨_,rfl⟩
  ·exact⟨_,rfl⟩
 have L:=x e [v] (by lia) (by simp);have a6:=x (e++[v]) p (by simp;lia) (by lia);have L:Ca (.lst (e.map .int)) (.lst [.int v])=some (.lst ((e++[v]).map .int)):=L;have E:Ca (.int b) (.int 1)=some (.int (b+1)):=uY;have am:Ca (.int (m:Int)) (.int 1)=some (.int ((m:Int)+1)):=uY;have U:fZ (.int b) (.int 1)=some (.int (b - 1)):=yd0;generalize hX:r.map D.int=X at *;generalize h1:e.map D.int=Y1 at *;generalize h2:p.map D.int=Y2 at *;generalize h3:G.map D.int=Y3 at *;generalize h4:u.map D.int=Y4 at *;have:a=0\/a=1\/a=2\/a=3\/(a=4\/a=5):=by lia
 generalize ns.map D.int=M at *;have pre:∀{d:D}{g:Ev->R Fl},g [some (.lst M),some (.int (m:Int)),some (.lst X),some (.int a),some (.int b),some (.int c)]=.ok (.rt d)->sq (asg 2 (cl (zv (gv 0) (zv (kd (.int 5)) (zv (gv 1) a0))) Gi)) (sq (jN (gT [3,4,5]) (cl (zv (gv 0) (zv (kd (.int 6)) (zv (bA (zv (kd (.int 6)) (zv (b2 (gv 1) (kd (.int 1)) Ca) (zv (kd (.int 3)) a0))) bO) a0))) Fj)) g) (Ag 6 [.lst M,.int (m:Int)])=.ok (.rt d):=λ{d g} h =>
  Ak (Bf (d:=.lst X) (by simp[Ag,B])) (Ak (ρ1:=[some (.lst M),some (.int (m:Int)),some (.lst X),some (.int a),some (.int b),some (.int c)]) (by simp[Ag,am,J,Ke,Eu]) h)
 rcases this with rfl |rfl |rfl |rfl |ha
 ·exact⟨e++p,by rw[PB];lia,Bg (pre (Qm ((J1 (by simp)).trans (Bc (by simp[I,H,E,a1])))))⟩
 ·exact⟨r++G,by rw[PB];lia,Bg (pre (Ak ((Dd (by simp)).trans rfl) (Qm ((J1 (by simp)).trans (Bc (by simp[Z,E,a2]))))))⟩
 ·refine⟨(e++[v])++p,by simp;lia,Bg (pre (Ak ((Dd (by simp)).trans rfl) (Ak ((Dd (by simp)).trans rfl) (Qm ((J1 (by simp)).trans (Bc ?_))))))⟩;generalize (e++[v]++p).map D.int=Z6,(e++[v]).map D.int=Z5 at *;have ng:gB (.int 1)=some (.int (-1)):=rfl;simp[I,H,E,pw,Ke,ev,L,a6,ng]
 ·refine⟨(e++u)++p,by simp;lia,Bg (pre (Ak ((Dd (by simp)).trans rfl) (Ak ((Dd (by simp)).trans rfl) (Ak ((Dd (by simp)).trans rfl) (Qm ((J1 (by simp)).trans (Bc ?_)))))))⟩;generalize (e++u++p).map D.int=Z6,(e++u).map D.int=Z5 at *;simp[I,H,Y,E,U,a3,a4]
 ·have q:∀k:Int,k<4->¬ a=k:=λk hk=>by lia
  refine⟨r,by lia,Bg (pre (Ak ((Dd ?_).trans rfl) (Ak ((Dd ?_).trans rfl) (Ak ((Dd ?_).trans rfl) (Ak ((Dd ?_).trans rfl) (Bc ?_))))))⟩
  ·simp[q 0 (by decide)]
  ·simp[q 1 (by decide)]
  ·simp[q 2 (by decide)]
  ·simp[q 3 (by decide)]
  ·rw[hX];simp
theorem wW{t:Int}(v:n<=50)(I:ts.length<=6)(h:∀e∈ts,e.1<=e.2/\e.2<n)(J:Rs ts.length s)(ht:t.natAbs<2 ^ 200)(u:w<6):
  Bv [Al n ts,.lst (xs.map .int),Aa s,.int t,.int (w:Int)]=.ok (.tup (aJ (isG n ts s) (decide (Hq ts.length xs)) (inB s t) (decide (0<=t/\t<ts.length)) t w)):=by
 have p:ts.length<=50:=by lia
 have q:=kq2 (m:=ts.length) (s:=s) (t:=t);unfold aJ;by_cases B:For n ts s
 ·have g:isG n ts s=true:=(pL J).mpr B;have x:=T9 v p h B;rw[if_neg (by rw[g];simp)];by_cases Y:w=0
  ·subst Y;rw[if_neg (by simp)];cases G:inB (restOf ts.length s) t with
   |true=>have⟨d,e⟩:=kw6 v p h B x G;rw[G]at q;have r:=Bool.and_eq_true_iff.mp q.symm;rw[if_neg (by rw[r.2];simpa using r.1)];exact Ft (Hj u e)
   |false =>
    rw[if_pos]
    ·exact Ws (Ky u (kw5 p ht x G))
    ·rw[G]at q;exact .inl ⟨rfl,(Bool.and_eq_false_iff.mp q.symm).imp (λz=>by simpa using z) λz=>z⟩
  by_cases X:w=1
  ·subst X;rw[if_neg (by simp)];cases G:inB s t with
   |true=>have⟨d,e⟩:=wc0 v p h B x G;rw[if_neg (by simp)];exact Ft (Hj u e)
   |false=>rw[if_pos (.inr ⟨rfl,rfl⟩)];exact Ws (Ky u (wb9 ht x G))
  have U:1<w:=by lia
  by_cases y:Hq ts.length xs
  ·rw[if_neg (by simp[y]),if_neg (by lia)];have⟨o,E,M⟩:=Tt y;have⟨b,P,nd,L,H⟩:=Uu (n:=n) v I h;have⟨T,_,e⟩:=zP v I h E P L H;rw[M];have:w=2\/w=3\/w=4\/w=5:=by lia
   rcases this with rfl |rfl |rfl |rfl
   ·exact Ft (Hj u (wf3 v p h B E))
   ·exact Ft (Hj u (free_eq v p h B E))
   ·exact Ft (Hj u (wF v (by lia) h E))
   ·exact Ft (Hj u e)
  ·have no:=yF (n:=n) (xs:=xs) p y;rw[if_pos ⟨U,decide_eq_false y⟩];refine Wr (Ky u ?_);have:w=2\/w=3\/w=4\/w=5:=by lia
   rcases this with rfl |rfl |rfl |rfl
   ·exact kr3 x no
   ·exact ko0 x no
   ·exact wD no
   ·exact xO no
 ·have g:isG n ts s=false:=dJ.mpr λz=>B ((pL J).mp z);have x:=ki4 v I h J B;by_cases Q:w<4
  ·rw[if_pos ⟨Q,g⟩];refine jq0 (Ky u ?_);have:w=0\/w=1\/w=2\/w=3:=by lia
   rcases this with rfl |rfl |rfl |rfl
   ·exact wj9 x
   ·exact wp8 x
   ·exact wf4 x
   ·exact wd5 x
  rw[if_neg λz=>Q z.1];have:w=4\/w=5:=by lia
  by_cases y:Hq ts.length xs
  ·rw[if_neg (by simp[y]),if_neg (by lia)];have⟨o,E,M⟩:=Tt y;have⟨b,P,nd,L,H⟩:=Uu (n:=n) v I h;have⟨T,_,e⟩:=zP v I h E P L H;rw[M];rcases this with rfl |rfl
   ·exact Ft (Hj u (wF v (by lia) h E))
   ·exact Ft (Hj u e)
  ·have no:=yF (n:=n) (xs:=xs) p y;rw[if_pos ⟨by lia,decide_eq_false y⟩];refine Wr (Ky u ?_);rcases this with rfl |rfl
   ·exact wD no
   ·exact xO no
theorem wq2(g b i r:Bool)(t:Int)(w:Nat):(D.tup (aJ g b i r t w)).pl 1=true:=by
 unfold aJ;split
 ·rfl
 split
 ·rfl
 split<;>rfl
def lwB:Ev->R Fl:=ifS (tb (b2 (cl (zv (gv 1) (zv (bA (zv (gv 9) a0) gR) (zv (gv 4) (zv (gv 7) (zv (gv 10) a0))))) Bv) (cl (zv (gv 1) (zv (gv 9) (zv (gv 4) (zv (gv 7) (zv (gv 10) a0))))) Qp) neD)) (gA (kd (.bl false))) nop
theorem wf7{t:Int}{o8 o11:Option D}(x:n<=50)(E:ts.length<=6)(h:∀e∈ts,e.1<=e.2/\e.2<n)(v:Rs ts.length s)(ht:t.natAbs<2 ^ 200)(M:xs.length<=20):
  ∃q,Kh (Ab (List.range 6)) (gN 10) lwB [o0,some (Al n ts),o2,o3,some (Aa s),o5,o6,some (.int t),o8,some (.lst (xs.map .int)),none,o11]=.ok (.nx [o0,some (Al n ts),o2,o3,some (Aa s),o5,o6,some (.int t),o8,some (.lst (xs.map .int)),q,o11]):=by
 obtain⟨y,H,q,rfl⟩:=Ey (g:=gN 10) (b:=lwB) (I:=λ_ ρ=>∃q,ρ=[o0,some (Al n ts),o2,o3,some (Aa s),o5,o6,some (.int t),o8,some (.lst (xs.map .int)),q,o11]) (Ab (List.range 6)) 0 _ ⟨none,rfl⟩ (λi d ρ p G=>by
  obtain⟨q,rfl⟩:=G;unfold Ab at p;rw[QX]at p;cases r:(List.range 6)[i]? with
  |none=>rw[r]at p;cases p
  |some w =>
   rw[r]at p;cases p;have u:w<6:=KY.mp (XX r);have L:=wW (n:=n) (s:=s) (t:=t) (xs:=xs) x E h v ht u;have J:=wq1 (n:=n) (s:=s) (t:=t) (xs:=xs) (w:=w) x (by lia) h v (by lia) u;have ne:=Ti (n:=1) (by lia) (wq2 (isG n ts s) (decide (Hq ts.length xs)) (inB s t) (decide (0<=t/\t<ts.length)) t w);have B:gR [.lst (xs.map .int)]=some (.lst (xs.map .int)):=rfl;refine⟨_,_,rfl,.inl ((Dd ?_).trans rfl),_,rfl⟩;generalize D.tup (aJ (isG n ts s) (decide (Hq ts.length xs)) (inB s t) (decide (0<=t/\t<ts.length)) t w)=Q,xs.map D.int=P,Al n ts=W,Aa s=S at *;simp[B,L,J,ne])
 exact⟨q,H⟩
theorem law_true(ns:List Int)(hn:ns.length<=63):d_law [.lst (ns.map .int)]=.ok (.bl true):=by
 have⟨n,ts,⟨n1,n5,L,ht⟩,ew⟩:=wz9 ns 1 5 6 (by lia) (by lia) (by lia) (by lia);have ew:Qq [.lst (ns.map .int),.int 1,.int 5,.int 6]=.ok (Al n ts):=ew;have w1:=V3 n ts;have lw:Gu [.tup (ts.map Mt)]=some (.int (ts.length:Nat)):=by show some (D.int _)=_;rw[HN]
 have⟨bs,hb,eb⟩:=Ub ns 3 (by lia) (List.replicate ts.length 2) (by intro z hz;rw[List.eq_of_mem_replicate hz];decide) (by rw[dO];lia);have bl:bs.length=ts.length:=hb.1.trans dO;have rp:bN (.lst [.int 2]) (.int (ts.length:Int))=some (.lst ((List.replicate ts.length (2:Int)).map .int)):=by
  have hc:-(2 ^ 63)<=(ts.length:Int)/\(ts.length:Int)<2 ^ 63/\[D.int 2].length * (ts.length:Int).toNat<=16777216:=by refine⟨by lia,by lia,?_⟩;simp;lia
  simp only[bN];rw[if_pos hc,XQ];simp
 have eb:Fj [.lst (ns.map .int),.int 3,.lst ((List.replicate ts.length (2:Int)).map .int)]=.ok (.lst (bs.map .int)):=eb;have s0:Rs ts.length ((List.range ts.length).filter λk=>decide (bs.getD k 0=1)):=⟨List.Pairwise.filter _ aY,λk hk=>KY.mp (QD.mp hk).1⟩;have c4:∀(W m:D)(o0 o4 o5 o6 o7 o8 v e o11:Option D),Ol [m]=some (Ab (List.range ts.length))->Bl (itR Ol (zv (gv 2) a0)) 1 [3] (gN 0) (tb (b2 (b2 (gv 1) (gv 0) ixD) (kd (.int 1)) eqD)) (gv 0) [o0,some W,some m,some (.lst (bs.map .int)),o4,o5,o6,o7,o8,v,e,o11]=.ok (.lst (Ab ((List.range ts.length).filter λk=>decide (bs.getD k 0=1)))):=λW m o0 o4 o5 o6 o7 o8 v e o11 hm=>by refine Eo (s:=List.range ts.length) (p:=λk=>decide (bs.getD k 0=1)) (B:=[some (.lst (bs.map .int))]) (by simp[hm]) rfl (λx M=>?_) (by rw[NZ];lia);have M:=KY.mp M;have ix:ixD (.lst (bs.map .int)) (.int (x:Int))=some (.int (bs.getD x 0)):=Rm (by rw[QX,GJ (by lia),NQ,GJ (by lia)];rfl);generalize bs.map D.int=U at *;simp[ix]
 have rg:=Nx (n:=ts.length) (by lia);generalize ae:((List.range ts.length).filter λk=>decide (bs.getD k 0=1))=y at *;have sl:=ks5 (m:=ts.length) (by lia);have Y:((List.range (2 ^ ts.length)).map λk=>Aa (bits ts.length k))=(Bh ts.length).map Aa:=by unfold Bh;rw[TY];rfl
 rw[Y]at sl;have E:(Bh ts.length).length<=64:=by rw[Jg];exact QW (fL (by lia) L) (by decide)
 obtain⟨u,ek,hK,kl,k0⟩:∃u:List (List Nat),(∀(o0 o3 o4 o5 o6 o7 o8 v e o11:Option D),Bl (itS (cl (zv (gv 2) a0) Nk)) 1 [1] (gN 0) (tb (b2 (bA (zv (gv 0) a0) Gu) (cl (zv (gv 1) (zv (gv 0) a0)) Fw) eqD)) (gv 0) [o0,some (Al n ts),some (.int (ts.length:Int)),o3,o4,o5,o6,o7,o8,v,e,o11]=.ok (.lst (u.map Aa)))/\(∀F∈u,Rs ts.length F)/\u.length<=64/\0<u.length:=by
  refine⟨(Bh ts.length).filter λF=>decide (((F.length:Nat):Int)=(n:Int) - (cc n (Bj ts F):Nat)),λo0 o3 o4 o5 o6 o7 o8 v e o11=>?_,λF hF=>?_,QW (TF _ _) E,?_⟩
  ·refine Ec (ds:=(Bh ts.length).map Aa) (by generalize (Bh ts.length).map Aa=LS,Al n ts=W at *;simp[sl]) ?_ (by rw[HN];exact QW (QW (TF _ _) E) (by decide));refine Kz (Bh ts.length) λF hF=>⟨?_,rfl⟩;have r:=Xq (n:=n) (ts:=ts) (s:=F) (by lia) ht (Jh hF).2;have lf:=R3 F;show tb _ [some (Aa F),some (Al n ts)]=_;generalize (n:Int) - (cc n (Bj ts F):Nat)=A at *;generalize Aa F=S,Al n ts=W at *;simp[r,lf]
  ·have:=(QD.mp hF).1;exact⟨Ym this,(Jh this).2⟩
  ·refine jFw (a:=[]) (QD.mpr ⟨K7 List.Pairwise.nil (by simp),?_⟩);have:cc n (Bj ts [])=n:=by unfold Bj;exact lK n
   rw[this];simp
 have⟨vs,hv,er⟩:=Ub ns 4 (by lia) [2 * (u.length:Int),(ts.length:Int)+3,3] (by intro z hz;simp at hz;lia) (by simp);obtain⟨a,b,c,rfl,ha,af,hc⟩:∃a b c,vs=[a,b,c]/\(0<=a/\a<2 * (u.length:Int))/\(0<=b/\b<(ts.length:Int)+3)/\(0<=c/\c<3):=by
  match vs,hv with
  | [a,b,c],h=>exact⟨a,b,c,rfl,by simpa using h.2 0 (by simp),by simpa using h.2 1 (by simp),by simpa using h.2 2 (by simp)⟩
  | [],h=>exact absurd h.1 (by simp)
  | [_],h=>exact absurd h.1 (by simp)
  | [_,_],h=>exact absurd h.1 (by simp)
  |_::_::_::_::_,h=>exact absurd h.1 (by simp)
 have er:Fj [.lst (ns.map .int),.int 4,.lst [.int (2 * (u.length:Int)),.int ((ts.length:Int)+3),.int 3]]=.ok (.lst [.int a,.int b,.int c]):=er;obtain⟨s,hs,es⟩:∃s,Rs ts.length s/\∀(o0 o1 o2 o3 v e o11:Option D),ifS (tb (b2 (gv 6) (bA (zv (gv 5) a0) Gu) ltD)) (asg 4 (b2 (gv 5) (gv 6) ixD)) nop [o0,o1,o2,o3,some (Aa y),some (.lst (u.map Aa)),some (.int a),some (.int b),some (.int c),v,e,o11]=.ok (.nx [o0,o1,o2,o3,some (Aa s),some (.lst (u.map Aa)),some (.int a),some (.int b),some (.int c),v,e,o11]):=by
  have J:Gu [.lst (u.map Aa)]=some (.int (u.length:Nat)):=by show some (D.int _)=_;rw[HN]
  by_cases q:a<u.length
  ·have hi:a.toNat<u.length:=by lia
   refine⟨u[a.toNat],hK _ (RG hi),λo0 o1 o2 o3 v e o11=>?_⟩;have ix:ixD (.lst (u.map Aa)) (.int a)=some (Aa u[a.toNat]):=by have:=Rm (xs:=u.map Aa) (i:=a.toNat) (d:=Aa u[a.toNat]) (by rw[QX,GJ hi];rfl);rwa [fK ha.1]at this
   generalize Aa u[a.toNat]=S,u.map Aa=Q,Aa y=P at *;exact(J1 (by simp[J,q])).trans (by simp[ix])
  ·refine⟨y,s0,λo0 o1 o2 o3 v e o11=>?_⟩;generalize u.map Aa=Q,Aa y=P at *;exact(Dd (by simp[J,q])).trans rfl
 have Z:aF (.int 10) (.int 8)=some (.int 100000000):=nR (by decide);obtain⟨t,H,et⟩:∃t:Int,t.natAbs<2 ^ 200/\∀(o0 o1 o3 o4 o5 o6 v e o11:Option D),ife (tb (b2 (gv 7) (gv 2) geD)) (b2 (bA (zv (gv 7) (zv (b1 (kd (.int 1)) gB) (zv (b2 (gv 2) (b2 (kd (.int 10)) (kd (.int 8)) aF) Ca) a0))) bO) (gv 8) ixD) (gv 7) [o0,o1,some (.int (ts.length:Int)),o3,o4,o5,o6,some (.int b),some (.int c),v,e,o11]=.ok (.int t):=by
  have ng:gB (.int 1)=some (.int (-1)):=rfl;by_cases q:b≥(ts.length:Int)
  ·have:c=0\/c=1\/c=2:=by lia
   rcases this with rfl |rfl |rfl
   ·exact⟨b,by lia,λo0 o1 o3 o4 o5 o6 v e o11=>by
     have G:ixD (.lst [.int b,.int (-1),.int ((ts.length:Int)+100000000)]) (.int 0)=some (.int b):=rfl;simp[q,ng,Z,Ke,G]⟩
   ·exact⟨-1,by decide,λo0 o1 o3 o4 o5 o6 v e o11=>by
     have G:ixD (.lst [.int b,.int (-1),.int ((ts.length:Int)+100000000)]) (.int 1)=some (.int (-1)):=rfl;simp[q,ng,Z,Ke,G]⟩
   ·exact⟨(ts.length:Int)+100000000,by lia,λo0 o1 o3 o4 o5 o6 v e o11=>by
     have G:ixD (.lst [.int b,.int (-1),.int ((ts.length:Int)+100000000)]) (.int 2)=some (.int ((ts.length:Int)+100000000)):=rfl;simp[q,ng,Z,Ke,G]⟩
  ·exact⟨b,by lia,λo0 o1 o3 o4 o5 o6 v e o11=>by simp[q]⟩
 have⟨xs,M,ex⟩:=kj4 ns ts.length L;have⟨o,ho,eo⟩:=order_eq ns 5 ts.length (by lia) (by lia);have eo:Gi [.lst (ns.map .int),.int 5,.int (ts.length:Int)]=.ok (.lst (Ab o)):=eo;have⟨ab,el⟩:=wf7 (n:=n) (ts:=ts) (s:=s) (t:=t) (xs:=xs) (o0:=some (.lst (ns.map .int))) (o2:=some (.int (ts.length:Int))) (o3:=some (.lst (bs.map .int))) (o5:=some (.lst (u.map Aa))) (o6:=some (.int a)) (o8:=some (.int c)) (o11:=none) (by lia) L ht hs H M;have g:Hq ts.length (o.map λ(k:Nat)=>(k:Int)):=⟨by rw[HN,ho.len],λk hk=>JF.mpr ⟨k,ho.all k hk,rfl⟩⟩;have I:=wW (n:=n) (s:=s) (t:=t) (xs:=o.map λ(k:Nat)=>(k:Int)) (w:=5) (by lia) L ht hs H (by decide);have d5:∀(g i r:Bool)(t:Int),aJ g true i r t 5=[.non,.non]:=λg i r t=>by unfold aJ;simp
 rw[decide_eq_true g,d5]at I;have en:(o.map λ(k:Nat)=>(k:Int)).map D.int=Ab o:=by unfold Ab;rw[TY];rfl
 rw[en]at I;have I:Bv [Al n ts,.lst (Ab o),Aa s,.int t,.int 5]=.ok (.tup [.non,.non]):=I;have eq:eqD (.tup [.non,.non]) (.tup [.non,.non])=some (.bl true):=ke6 (n:=1) (by lia) rfl;have r6:Ol [.int 6]=some (Ab (List.range 6)):=Nx (n:=6) (by lia);have J:Gu [.lst (u.map Aa)]=some (.int (u.length:Nat)):=by show some (D.int _)=_;rw[HN]
 have X:Dr [.lst (Ab y)]=some (Aa y):=Gm;have aa:=λW o0 o4 o5 o6 o7 o8 v e o11=>c4 W (.int (ts.length:Int)) o0 o4 o5 o6 o7 o8 v e o11 rg;generalize Ab (List.range 6)=N6,Ab y=NB,Aa y=P,u.map Aa=Q,bs.map D.int=U,xs.map D.int=XS,Ab o=NO,ns.map D.int=SC,Al n ts=W,Aa s=S at *;generalize (List.replicate ts.length (2:Int)).map D.int=RP at *;refine Bg (Ak (Bf (d:=W) (by simp[Ag,ew])) (Ak (Bf (d:=.int (ts.length:Int)) (by simp[Ag,w1,lw])) (Ak (Bf (d:=.lst U) (by simp[Ag,rp,eb,Ke])) (Ak (Bf (d:=P) ?h4) (Ak (Bf (d:=.lst Q) (ek _ _ _ _ _ _ _ _ _ _)) (Ak (ρ1:=[some (.lst SC),some W,some (.int (ts.length:Int)),some (.lst U),some P,some (.lst Q),some (.int a),some (.int b),some (.int c),none,none,none]) ?h6 (Ak (es _ _ _ _ _ _ _) (Ak (Bf (et _ _ _ _ _ _ _ _ _)) (Ak (Bf (d:=.lst XS) (by simp[ex])) (Ak (Ks (ds:=N6) (by simp[r6]) el) (Ak (Bf (d:=.lst NO) (by simp[eo])) (Bc (by simp[I,eq,Em])))))))))))))
 case h4 =>
  show bA (zv (Bl _ _ _ _ _ _) a0) Dr [some (.lst SC),some W,some (.int (ts.length:Int)),some (.lst U),none,none,none,none,none,none,none,none]=_;rw[Th,M6,aa];simp[X]
 case h6 =>
  have m2:Jv (.int 2) (.int (u.length:Int))=some (.int (2 * (u.length:Int))):=Lz (by decide) (by decide);simp[Ag,J,er,Ke,Eu,m2]
end Law
noncomputable def PySem.W.Fast.tw12659100974598568291 : PySem.Program := PySem.Challenge.pw_tietable_k26_no_forest_no_order
theorem PySem.W.Fast.te12659100974598568291 : PySem.Challenge.pw_tietable_k26_no_forest_no_order = PySem.W.Fast.tw12659100974598568291 := rfl
inductive PySem.W.Fast:Prop|tw15039522387072462799|tw6848755140648210407|tw10209711887628356343|tw7005571880523903518|tw4246277829194037904|tw15092787968007641812|tw2904261814614991532|tw5428348996043639640|tw8484401917627070624|tw9093487473385635161|tw11601743063299748884|tw3011883827319002310|tw8793855221277348011|tw3584460644615733381|tw15008008603511433916|tw15526180198160522720|tw4692796852718913960|tw9754491213897065349|tw14189752663712831586|tw2343040532106129659|tw13953056060021834576|tw12684596116047204455|tw6011332706450587274|tw941387199210574881|tw107413136458027692|tw2135311112549369599|tw15814282995045322518|tw17763174164857210120|tw16329614388759134515|tw7137396222836811625|tw17762760567517778711|tw8849236444253644922|tw289676508284113899|tw7104569384652866491|tw921195044582875884|tw16291958832094476317|tw17588487405402659950|tw3963438333365006202|tw17061956018581004591|tw15267042507448837049|tw18187668963355668269|tw10052598700151137764|tw11598780472164992827|tw2394809794079108174|tw9703688863838793475|tw13458473128393677429|tw5151621777100581010|tw5015619205696116383|tw15893511386920703534|tw9508660435706153002|tw16331848458186740011|tw7456552383876543143|tw9532110506601609475|tw4100955218608003197|tw15264119107953671085|tw379597841900128706|tw16535413356989903170|tw4367469082048556523|tw12172185516261334802|tw16727429849078133078|tw6580770927160971099|tw18430388633747560987|tw15635744342314591844|tw6345593029041289824|tw13845397675191252125|tw2919769334086789833|tw3401683482850277918|tw6150162970918940163|tw16414648183509874808|tw13221003085704422777|tw17928903525292584634|tw9282655090870134575|tw1921268088257098942|tw2062493169023228794|tw17732940111097610538|tw8340269096043713042|tw15939934751302685634|tw4094896963385807432|tw1854510276881363338|tw6254259635679231252|tw4262887148032964486|tw9474757860252964754|tw4640932343249643071|tw4891619835761324604|tw11153799378284586394|tw8508268746139948275|tw10111277781455626311|tw14948168851139506535|tw17799504376739843150|tw957435424814076731|tw7449832650810396825|tw2297880676778556600|tw15821044900848014775|tw5501305679893634371|tw15697228851462001842|tw17404104877476031360
open PySem PySem.W PyProof.Rows
set_option maxRecDepth 100000 in
set_option maxHeartbeats 0 in
theorem PySem.Challenge.cw_tietable_k26_no_forest_no_order_holds : PySem.Challenge.rw_tietable_k26_no_forest_no_order.Holds := by
 w_on;o_law;k_head;(case hw=>w_witness2)
 k_fill
 refine PD.law_walkT (l:=PySem.Challenge.rw_tietable_k26_no_forest_no_order) (k:=10) (x:="_law_script") (y:="first_of") (m:=Law.d_law) (ps:=#[PySem.rawInt ((130:Nat):Int),PySem.rawInt ((25:Nat):Int),.str (("first_of" : PySem.Str) ++ ".<locals>." ++ "<lambda>") 0]) Law.law_true rfl rfl ⟨rfl,by decide,by decide,rfl⟩ (by decide +kernel) (λw h Y=>PySem.W.km_in_of Y) ?F
 case F =>
  intro w c e h b G a
  refine' ⟨?nt,Law.all_mk b G a (PD.Bt ?_ ?_ ?_ ?_) (PD.Bt ?_ ?_ ?_ ?_) (PD.Bt ?_ ?_ ?_ ?_) (PD.Bt ?_ ?_ ?_ ?_) (PD.Bt ?_ ?_ ?_ ?_) (PD.Bt ?_ ?_ ?_ ?_) (PD.Bt ?_ ?_ ?_ ?_) (PD.Bt ?_ ?_ ?_ ?_) (PD.Bt ?_ ?_ ?_ ?_) (PD.Bt ?_ ?_ ?_ ?_) (PD.Bt ?_ ?_ ?_ ?_) (PD.Bt ?_ ?_ ?_ ?_) (PD.Bt ?_ ?_ ?_ ?_) (PD.Bt ?_ ?_ ?_ ?_) (PD.Bt ?_ ?_ ?_ ?_) (PD.Bt ?_ ?_ ?_ ?_) (PD.Bt ?_ ?_ ?_ ?_) (PD.Bt ?_ ?_ ?_ ?_) (PD.Bt ?_ ?_ ?_ ?_) (PD.Bt ?_ ?_ ?_ ?_) (PD.Bt ?_ ?_ ?_ ?_) (PD.Bt ?_ ?_ ?_ ?_) (PD.Bt ?_ ?_ ?_ ?_) (PD.Bt ?_ ?_ ?_ ?_) (PD.Bt ?_ ?_ ?_ ?_) (PD.Bt ?_ ?_ ?_ ?_) (PD.Bt ?_ ?_ ?_ ?_) (PD.Bt ?_ ?_ ?_ ?_) (PD.Bt ?_ ?_ ?_ ?_) (PD.Bt ?_ ?_ ?_ ?_) (PD.Bt ?_ ?_ ?_ ?_) (PD.Bt ?_ ?_ ?_ ?_) (PD.Bt ?_ ?_ ?_ ?_) (PD.Bt ?_ ?_ ?_ ?_) (PD.Bt ?_ ?_ ?_ ?_) (PD.Bt ?_ ?_ ?_ ?_) (PD.Bt ?_ ?_ ?_ ?_) ?_ ?_ ?_ ?_ ?_ ?_ ?_ ?_ ?_ ?_ ?_ ?_ ?_ ?_ ?_ ?_ ?_ (PD.uH ?_ ?_ ?_ ?_ ?_) (PD.uH ?_ ?_ ?_ ?_ ?_) (PD.ws4 ?_ ?_ ?_ ?_ ?_ ?_ ?_ ?_ ?_ ?_ ?_ ?_ ?_ ?_ ?_ ?_) (PD.Gp ?_ ?_ ?_ ?_) (PD.Gp ?_ ?_ ?_ ?_) (PD.Gp ?_ ?_ ?_ ?_) (PD.Gp ?_ ?_ ?_ ?_) (PD.Gp ?_ ?_ ?_ ?_) (PD.Gp ?_ ?_ ?_ ?_) (PD.Gp ?_ ?_ ?_ ?_) (PD.Gp ?_ ?_ ?_ ?_) (PD.Gp ?_ ?_ ?_ ?_) (PD.Gp ?_ ?_ ?_ ?_) (PD.Gp ?_ ?_ ?_ ?_) (PD.Gp ?_ ?_ ?_ ?_) (PD.Gp ?_ ?_ ?_ ?_) (PD.Gp ?_ ?_ ?_ ?_) (PD.ws5 ?_ ?_)⟩
  (case nt=>kernel_rfl)
  any_goals k_is
  any_goals with_reducible rfl
  any_goals kernel_rfl
