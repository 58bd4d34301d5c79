import PyProof.Rows.All
import Wide.All
import OpenK.AllK
import Wide.FinOn
import Lean
import PyProof.EqAt
import PyProof.EqKinds
import PyProof.TupleCall
import PyProof.MeetsSeq
import KE.KLam
import KE.KMinKey
import KE.KRevIter
import PySem.Challenge.RW_tietable_k42_a_flow_told
open PySem renaming Value->A_,Shared->BJ,Addr->BK,wpAny->BP,starEach->BR,model->BV,Str->BZ,Program->B_,wpAny_newObj_type->CG,Heap->CK,Expr->CP,rawInt->CQ,wpAny_field->CT,sizeLine_eq->CV,World->CW,wpAny_call_entry->CZ,wpAny_callSpecial?_slot->C_,compareOp->DG,wpAny_holding->DK,wpAny_setField_rec->DP,Stmt->DR,wpAny_setField->DW,FuncData->DX,eval->DY,cellsFrom->D_,Around->EY,binaryOp->E_,wpAny_truthy_bool->FJ,foldedSetIterable->FN,wpAny_seqItems->FQ,swapsWith->FW,assignEach->FZ,bootBuiltins->GC,wpAny_mono->GD,NameKind->GF,Obj->GJ,codeAny_builtin->GQ,wpAny_attempt->GR,sysModules->GX,Builtin->GZ,wpAny_typeNameOfWhole_itemiter->G_,codeAny_mono->HD,wpAny_passesOwn->HF,wpAny_execs_nil->HH,behindInMarks->HQ,wpAny_pyIter_list->HR,mainGlobals->HS,wpAny_typeNameOf_itemiter->HY,intKind->IV,pyNext->IW,cLine->I_,wpAny_setState_of->JB,fits_of_scanBound->JC,firstArgMember->JD,Scope->JF,wpAny_isInstance->JL,Pos->JN,IsItemIter->JP,attributeBase->JQ,IsPair->JS,scanBound->JX,wpAny_Call_Name_kw->J_,Env->KH,wpAny_pyIter_enum->KJ,codeAny->KN,Model->KR,Keyword->KY,wpAny_comprehension_free->K_,plainId_quiet->LC,wpAny_execs_cons->LK,tupleKind->LQ,wpAny_isOneOf_itemiter->L_,holding->MN,wpAny_loadPart'->MP,pushCells_keeps->MT,letOwnedTupleGo->M_,wpAny_updateSeq_pair->NQ,wpAny_newTuple->NT,wpAny_fieldsOf->NZ,relayAll->N_,keywordEach->OD,backTo->PB,pushCells->PK,callerA->P_,wpAny_setEntries_of->QB,wpAny_standAt->QF,wpAny_onRaise->QG,wpAny_call->QH,call_meets->QL,assign->QM,wpAny_typeOf->QS,wpAny_pyIter_slot->QT,wpAny_dictEntries->QV,relabel->QW,concat_meets->QX,IsZip->Q_,wpAny_eqBool_int->RD,wpAny_askSetting->RG,setFlight->RJ,noFill_tuple_add->RK,IsPart->RM,DictEntry->RN,wpAny_of_eq->RP,wpAny_letGo->RW,wpAny_ite_split->R_,wpAny_dictEpoch->SJ,valueAt->SX,setItem->S_,hashInt->TX,ElemsOf->TY,BindsTo->T_,wpAny_runValue->UG,wpAny_letOwnedTupleGo_enum->UJ,setField->UL,pyIter->UT,isSubtype_type->VF,isSubtype_stop->VG,evalEach->VH,builtinsNs->VJ,bindArgs->VM,backToKw->VN,ZipApart->VP,Paired->VR,wpAny_handled->V_,seq_tuple_add->WD,comprehension->WW,IsItemIterOut->WX,pickOrder->WY,field->XD,bindL->XF,bindC->XH,atKey->XJ,PassesOwn->XM,CmpOp->XN,newList->XR,newExc->XS,isTrue->YC,getItem->YD,call_meetsIn->YF,callType_new->YG,argsOk->YH,builtinLookup_eq_fast->YW,wpAny_throw->YX,sliceBounds->YZ,codeAny_call_builtin->ZQ,GenState->ZR,wpAny_tupleItemsOf->aG,wpAny_load->aH,wpAny_Name->aJ,typeOf->aK,typeIs_int->aL,tupleKind_room_in1->aM,setEntries->aN,intKind_is->bO,closureFor->bQ,wpAny_storeSet_of->bR,wpAny_sequenceKey->bT,wpAny_assign_Name->bU,unaryOp->bV,standAt->bW,slot_list_setitem->bY,setNext->bZ,collect->cO,wpAny_pyIter_zip->cP,small_one->cQ,onTheHeap->cR,noteFrame->cT,newFields->cU,wpAny_updateSeq->eQ,typeLookup_type->e_,codeAny_of_tree->iC,wpAny_Expr_any->iD,recursionLimit->jB,newTuple->jC,newFunctionEnv->jD,layNew->jG,entryFor_alias->lQ,entryFor->lR,cellOf->lU,Result->lW,Params->l_,IsEnum->mD,Drawn->mF
open PyProof.Rows renaming SortSt->BW,pendingOf->CN,IntsAre->FP,failedOf->HW,seqObj->JR,slot_tupleiter_next->JT,Keyed->JV,arrOf->KQ,AllBare->KZ,IsTup->NK,SortKind->QZ,IsTupIter->RL,get?_update_seq->SQ,boot_range->VL,listUpdate_at->WK,subscriptTail_builtinR->XQ,minRun'->XX,seqEpoch_at->Y_,oneType'->ZC,entry_tupleiter_next->ZP,args_tupleiter_next->aF,iter_tuple->bN,slicePart_none->jA,mirror->jE,mergeAt'->jF,bubble->lV
open PySem.W renaming Frag->CJ,kas_item->DQ,kasC_bind->JM,kasC_pure->dN
open PySem renaming wpAny_bind->BX,wpAny_pure->DN
open PySem.W (Frag)
open List renaming getElem?_eq_getElem->GK,length_map->GP,mem_cons_of_mem->IK,mem_singleton->JG,map_cons->HJ,mem_cons_self->JK,mem_cons->HN,getElem?_eq_some_iff->LR,mem_range->H_,getD_eq_getElem?_getD->O_,mem_map->HX,size_toArray->JZ,mem_append->KC,length_append->MK,append_assoc->NB,getElem?_set_ne->QD,length_cons->MJ,mem_filter->MF,all_eq_true->PQ,length_range->QK,getElem?_map->QR,length_take->QJ,mem_append_right->TV,sum_cons->OJ,map_append->QQ,map_map->NP,getElem_mem->RB,map_congr_left->UW,take_append_drop->WT,length_filter_le->WR,getElem?_append_right->YT,nodup_cons->RZ,pairwise_append->WQ,getElem?_append_left->YS,length_drop->TQ,mem_iff_getElem->X_,getElem?_set_self->ZM,mem_of_getElem?->YQ,drop_eq_getElem_cons->bM,mem_append_left->ZJ,toArray->TF,getElem?_eq_none->aD,perm_ext_iff_of_nodup->cM,drop_eq_nil_of_le->bL,perm_append_comm->bK,append_nil->YK,lookup_cons->Z2,filter_cons_of_neg->eO,filterMap_cons->cL,replicate_succ->cJ,pairwise_lt_range->eG,take_of_length_le->eF,ext_getElem->bI,pairwise_iff_getElem->iB,nodup_range->bH,mem_of_mem_take->eE,mem_of_mem_drop->d_,getElem_take->cI,filter_cons_of_pos->h_,not_mem_nil->cG,zip_cons_cons->d9,map_nil->ZZ,flatten_cons->d8,filter_eq_self->gZ,find?_cons->d7,any_cons->cF,range_succ->dZ,sum_append->dY,length_zip->dX,nodup_append->gY,pairwise_map->gW,getElem_drop->gV,mem_reverse->gR,getElem?_zip_eq_some->qW,length_nil->gP,getElem?_take_of_lt->qT,filter_append->lO,getElem?_replicate->qR,length_eq_zero_iff->qP,filter_congr->lN,length_pos_of_mem->qO,all_cons->gK,take_length->lL,cons_append->lK,erase_cons_head->qN,erase_cons_tail->qM,of_mem_zip->lH,foldl_cons->lG,eq_nil_of_length_eq_zero->jFl,forIn_cons->lF,all_map->gG,nodup_nil->lD,forIn_nil->lC,append_of_mem->qK,length_eraseIdx_of_lt->jFw,exists_cons_of_ne_nil->jGa,getElem?_set->qI,rel_of_pairwise_cons->jGd,take_add_one->qG,map_drop->lA,map_take->k_,exists_mem_of_ne_nil->jGi,mem_take_iff_getElem->jGj,mem_drop_iff_getElem->jGk,length_erase_of_mem->jGl,any_eq_true->qF,zipIdx_cons->qD,length_set->qC,map_const'->p_,length_replicate->jGt,pairwise_reverse->jGv,set_append_right->jGw,eq_nil_or_concat->jGx,concat_eq_append->jGy,getElem_toArray->jHf,perm_singleton->jHi,take_add->pW,mem_filterMap->jHm,pairwise_cons->jHo,getElem?_drop->jHp,take_sublist->jHt,any_eq_false->jHu,ext_getElem?->jHw,reverse_perm->jHx,mapM_toArray->jHy,foldl_append->jHz,flatMap_cons->jIa,getElem_map->jIc,range'_succ->jId,perm_middle->jIh,zipIdx_nil->jIj,take_zero->jIm
open PySem.Heap renaming get?_push_of_some->JH,lt_size->HB,get?_push_size->KD,size_push->RX,get?_update_other->ZL,get?_update_self->ZK,ExtBut->kO
open Nat renaming le_refl->F_,ne_of_lt->JW,lt_of_lt_of_le->PX,le_trans->PL,lt_irrefl->SN,ne_of_gt->TJ,lt_of_le_of_lt->YM,zero_add->WM,lt_succ_of_lt->aB,min_eq_left->ZF,zero_le->WL,min_eq_right->Z_,lt_succ_self->cH,pow_le_pow_right->g8,le_of_lt->cD,max_eq_right->gQ,max_eq_left->gM,le_total->dW,add_sub_cancel_left->qQ,min_le_right->lM,le_add_right->lJ,add_comm->gJ,lt_trans->gH,eq_zero_or_pos->qJ,le_succ->gD,le_of_succ_le->qH,succ_mul->kY,mul_le_mul->pY,sub_succ_lt_self->jHd,mul_le_mul_right->jHg,mul_assoc->pU,le_of_eq->pQ,succ_ne_self->jIe,div_eq_of_lt->jIg,two_pow_pos->jIk
open Bool renaming and_eq_true->QC,false_eq_true->WN,false_ne_true->XC,not_eq_true'->aA,or_eq_true->bG,eq_iff_iff->bF,and_false->lE,not_true->lB,false_and->p8,false_or->pX,not_false->jIl
open Classical renaming byContradiction->U_
open Option renaming getD_some->RC,bind_some->gU,isSome_iff_exists->qU,isSome_some->jHn
open Array renaming getElem?_eq_getElem->YB,length_toList->ZG,getElem?_toList->g_,ext'->ZD,getElem?_eq_some_iff->qX,toList_setIfInBounds->jFy,perm_iff_toList_perm->jFz,getElem_toList->jHe,append_assoc->jHl,toList_push->jHv
open Int renaming toNat_natCast->YL,toNat_of_nonneg->aC,add_emod->W_,emod_lt_of_pos->bJ,add_zero->YJ,emod_nonneg->bD,mul_assoc->Z1,mul_one->bC,pow_succ->dU,mul_comm->dR,emod_emod_of_dvd->qL,sub_zero->gF,le_trans->kZ,sub_emod->kW,pow_nonneg->p7,natAbs_mul->pZ,zero_add->pR,dvd_refl->pP,emod_eq_of_lt->jIb,add_mul->pO,min_eq_left->jIi
noncomputable section
namespace Xe
variable {a P:Prop}
def dG{p0 p1:Prop}(k:p0->p1->a->P)(h:p0/\p1/\a):P:=h.elim λe h=>h.elim λc b=>k e c b
variable {b c:Prop}
def yl6{p0 p1:Prop}(k:p0->p1->a->b->c->P)(h:p0/\p1/\a/\b/\c):P:=h.elim λj h=>h.elim λi h=>h.elim λg h=>h.elim λf e=>k j i g f e
def rT{p0 p1 e:Prop}(k:p0->p1->a->b->c->e->P)(h:p0/\p1/\a/\b/\c/\e):P:=h.elim λm h=>h.elim λl h=>h.elim λj h=>h.elim λi h=>h.elim λg f=>k m l j i g f
def Ao{f:Type}{p0 p1:f->Prop}(k:∀e,p0 e->p1 e->P)(h:∃e,p0 e/\p1 e):P:=h.elim λe h=>h.elim λi g=>k e i g
def Er{f:Type}{p0 p1 a:f->Prop}(k:∀e,p0 e->p1 e->a e->P)(h:∃e,p0 e/\p1 e/\a e):P:=h.elim λe h=>h.elim λj h=>h.elim λi g=>k e j i g
def aV{f:Type}{p0 p1 a b:f->Prop}(k:∀e,p0 e->p1 e->a e->b e->P)(h:∃e,p0 e/\p1 e/\a e/\b e):P:=h.elim λe h=>h.elim λl h=>h.elim λj h=>h.elim λi g=>k e l j i g
def rR{i g:Type}{p0:i->g->Prop}(k:∀f e,p0 f e->P)(h:∃f e,p0 f e):P:=h.elim λf h=>h.elim λe h=>k f e h
def Bt{i g:Type}{p0 p1:i->g->Prop}(k:∀f e,p0 f e->p1 f e->P)(h:∃f e,p0 f e/\p1 f e):P:=h.elim λf h=>h.elim λe h=>h.elim λl j=>k f e l j
def Br{i g:Type}{p0 p1 a:i->g->Prop}(k:∀f e,p0 f e->p1 f e->a f e->P)(h:∃f e,p0 f e/\p1 f e/\a f e):P:=h.elim λf h=>h.elim λe h=>h.elim λm h=>h.elim λl j=>k f e m l j
def Yb{i g:Type}{p0 p1 a b:i->g->Prop}(k:∀f e,p0 f e->p1 f e->a f e->b f e->P)(h:∃f e,p0 f e/\p1 f e/\a f e/\b f e):P:=h.elim λf h=>h.elim λe h=>h.elim λn h=>h.elim λm h=>h.elim λl j=>k f e n m l j
def yl7{i g:Type}{p0 p1 a b c:i->g->Prop}(k:∀f e,p0 f e->p1 f e->a f e->b f e->c f e->P)(h:∃f e,p0 f e/\p1 f e/\a f e/\b f e/\c f e):P:=h.elim λf h=>h.elim λe h=>h.elim λo h=>h.elim λn h=>h.elim λm h=>h.elim λl j=>k f e o n m l j
def rQ{i g:Type}{p0 p1 a b c j:i->g->Prop}(k:∀f e,p0 f e->p1 f e->a f e->b f e->c f e->j f e->P)(h:∃f e,p0 f e/\p1 f e/\a f e/\b f e/\c f e/\j f e):P:=h.elim λf h=>h.elim λe h=>h.elim λq h=>h.elim λp h=>h.elim λo h=>h.elim λn h=>h.elim λm l=>k f e q p o n m l
def rP{l j i:Type}{p0:l->j->i->Prop}(k:∀g f e,p0 g f e->P)(h:∃g f e,p0 g f e):P:=h.elim λg h=>h.elim λf h=>h.elim λe h=>k g f e h
def aU{l j i:Type}{p0 p1:l->j->i->Prop}(k:∀g f e,p0 g f e->p1 g f e->P)(h:∃g f e,p0 g f e/\p1 g f e):P:=h.elim λg h=>h.elim λf h=>h.elim λe h=>h.elim λn m=>k g f e n m
def dF{l j i:Type}{p0 p1 a:l->j->i->Prop}(k:∀g f e,p0 g f e->p1 g f e->a g f e->P)(h:∃g f e,p0 g f e/\p1 g f e/\a g f e):P:=h.elim λg h=>h.elim λf h=>h.elim λe h=>h.elim λo h=>h.elim λn m=>k g f e o n m
def fU{l j i:Type}{p0 p1 a b c:l->j->i->Prop}(k:∀g f e,p0 g f e->p1 g f e->a g f e->b g f e->c g f e->P)(h:∃g f e,p0 g f e/\p1 g f e/\a g f e/\b g f e/\c g f e):P:=h.elim λg h=>h.elim λf h=>h.elim λe h=>h.elim λq h=>h.elim λp h=>h.elim λo h=>h.elim λn m=>k g f e q p o n m
def yl8{l j i:Type}{p0 p1 a b c p o n m:l->j->i->Prop}(k:∀g f e,p0 g f e->p1 g f e->a g f e->b g f e->c g f e->p g f e->o g f e->n g f e->m g f e->P)(h:∃g f e,p0 g f e/\p1 g f e/\a g f e/\b g f e/\c g f e/\p g f e/\o g f e/\n g f e/\m g f e):P:=h.elim λg h=>h.elim λf h=>h.elim λe h=>h.elim λz h=>h.elim λy h=>h.elim λx h=>h.elim λw h=>h.elim λv h=>h.elim λu h=>h.elim λs h=>h.elim λr q=>k g f e z y x w v u s r q
def fQ{n m l j:Type}{p0 p1 a b:n->m->l->j->Prop}(k:∀i g f e,p0 i g f e->p1 i g f e->a i g f e->b i g f e->P)(h:∃i g f e,p0 i g f e/\p1 i g f e/\a i g f e/\b i g f e):P:=h.elim λi h=>h.elim λg h=>h.elim λf h=>h.elim λe h=>h.elim λr h=>h.elim λq h=>h.elim λp o=>k i g f e r q p o
def yl9{n m l j:Type}{p0 p1 a b c:n->m->l->j->Prop}(k:∀i g f e,p0 i g f e->p1 i g f e->a i g f e->b i g f e->c i g f e->P)(h:∃i g f e,p0 i g f e/\p1 i g f e/\a i g f e/\b i g f e/\c i g f e):P:=h.elim λi h=>h.elim λg h=>h.elim λf h=>h.elim λe h=>h.elim λs h=>h.elim λr h=>h.elim λq h=>h.elim λp o=>k i g f e s r q p o
def rO{n m l j:Type}{p0 p1 a b c p o:n->m->l->j->Prop}(k:∀i g f e,p0 i g f e->p1 i g f e->a i g f e->b i g f e->c i g f e->p i g f e->o i g f e->P)(h:∃i g f e,p0 i g f e/\p1 i g f e/\a i g f e/\b i g f e/\c i g f e/\p i g f e/\o i g f e):P:=h.elim λi h=>h.elim λg h=>h.elim λf h=>h.elim λe h=>h.elim λx h=>h.elim λw h=>h.elim λv h=>h.elim λu h=>h.elim λs h=>h.elim λr q=>k i g f e x w v u s r q
def ym0{p o n m l:Type}{p0 p1 a b:p->o->n->m->l->Prop}(k:∀j i g f e,p0 j i g f e->p1 j i g f e->a j i g f e->b j i g f e->P)(h:∃j i g f e,p0 j i g f e/\p1 j i g f e/\a j i g f e/\b j i g f e):P:=h.elim λj h=>h.elim λi h=>h.elim λg h=>h.elim λf h=>h.elim λe h=>h.elim λu h=>h.elim λs h=>h.elim λr q=>k j i g f e u s r q
def ym1{p o n m l:Type}{p0 p1 a b c:p->o->n->m->l->Prop}(k:∀j i g f e,p0 j i g f e->p1 j i g f e->a j i g f e->b j i g f e->c j i g f e->P)(h:∃j i g f e,p0 j i g f e/\p1 j i g f e/\a j i g f e/\b j i g f e/\c j i g f e):P:=h.elim λj h=>h.elim λi h=>h.elim λg h=>h.elim λf h=>h.elim λe h=>h.elim λv h=>h.elim λu h=>h.elim λs h=>h.elim λr q=>k j i g f e v u s r q
def rN{p o n m l:Type}{p0 p1 a b c q:p->o->n->m->l->Prop}(k:∀j i g f e,p0 j i g f e->p1 j i g f e->a j i g f e->b j i g f e->c j i g f e->q j i g f e->P)(h:∃j i g f e,p0 j i g f e/\p1 j i g f e/\a j i g f e/\b j i g f e/\c j i g f e/\q j i g f e):P:=h.elim λj h=>h.elim λi h=>h.elim λg h=>h.elim λf h=>h.elim λe h=>h.elim λx h=>h.elim λw h=>h.elim λv h=>h.elim λu h=>h.elim λs r=>k j i g f e x w v u s r
def fP{p o n m l:Type}{p0 p1 a b c r q:p->o->n->m->l->Prop}(k:∀j i g f e,p0 j i g f e->p1 j i g f e->a j i g f e->b j i g f e->c j i g f e->r j i g f e->q j i g f e->P)(h:∃j i g f e,p0 j i g f e/\p1 j i g f e/\a j i g f e/\b j i g f e/\c j i g f e/\r j i g f e/\q j i g f e):P:=h.elim λj h=>h.elim λi h=>h.elim λg h=>h.elim λf h=>h.elim λe h=>h.elim λz h=>h.elim λy h=>h.elim λx h=>h.elim λw h=>h.elim λv h=>h.elim λu s=>k j i g f e z y x w v u s
end Xe
open Xe
set_option Elab.async false
set_option linter.all false
set_option maxRecDepth 100000
namespace L2
open PySem PySem.Spec PyProof.Rows
abbrev Zs(n : KH)(e : CP)(es : List CP): Prop:= BR (e::es) n=(false, DY e n)::BR es n
abbrev Zd(x : BZ): Prop:= (x == ("__debug__" : BZ))=false
abbrev Zp(n : KH)(p : JN)(es : List CP): Prop:= (PB p (BR es n)).any (·.1)=false
abbrev Key:=Sum Int BZ
def Zn:Key->A_->Bool
 | .inl k,v=>Value.isInt k v
 | .inr x,v=>Value.isStrOf x v
def yo5(w:CW):Key->Int
 | .inl k=>TX k
 | .inr x=>hashStr w x
def Cz:∀{k:Key}{v:A_},Zn k v=true->(∃i t,k=Sum.inl i/\v=Value.int i t)\/(∃x t,k=Sum.inr x/\v=Value.str x t)
 | .inl i,v,h=>by have⟨t,e⟩:=Value.isInt_shape (k:=i) (v:=v) h;exact .inl ⟨i,t,rfl,e⟩
 | .inr x,v,h=>by have⟨t,e⟩:=Value.isStrOf_shape (x:=x) (v:=v) h;exact .inr ⟨x,t,rfl,e⟩
def kh5(i:Int)(t:Tok):Zn (.inl i) (.int i t)=true:=by simp[Zn,Value.isInt]
def kh6(x:BZ)(t:Tok):Zn (.inr x) (.str x t)=true:=by simp[Zn,Value.isStrOf]
def wt2(a b:Int):decide ((Sum.inl a:Key)=Sum.inl b)=(a == b):=by
 by_cases e:a=b
 ·subst e;simp
 ·have h:¬ (Sum.inl a:Key)=Sum.inl b:=λq=>e (Sum.inl.inj q);rw[decide_eq_false h];exact(beq_eq_false_iff_ne.mpr e).symm
def wt5(a b:BZ):decide ((Sum.inr a:Key)=Sum.inr b)=decide (a=b):=by
 by_cases e:a=b
 ·subst e;simp
 ·have h:¬ (Sum.inr a:Key)=Sum.inr b:=λq=>e (Sum.inr.inj q);rw[decide_eq_false h,decide_eq_false e]
def wt3(a:Int)(b:BZ):decide ((Sum.inl a:Key)=Sum.inr b)=false:=decide_eq_false (λq=>nomatch q)
def wt4(a:BZ)(b:Int):decide ((Sum.inr a:Key)=Sum.inl b)=false:=decide_eq_false (λq=>nomatch q)
def Dc(prog:B_)(w:CW):PySem.KeyKind prog w Key where
 is:=Zn
 hash:=yo5 w
 inj:=λv a b ha hb=>by
  rcases Cz ha with ⟨i,t,rfl,rfl⟩ | ⟨x,t,rfl,rfl⟩
  ·rcases Cz hb with ⟨j,u,rfl,e⟩ | ⟨y,u,rfl,e⟩
   ·injection e with e1 _;rw[e1]
   ·exact nomatch e
  ·rcases Cz hb with ⟨j,u,rfl,e⟩ | ⟨y,u,rfl,e⟩
   ·exact nomatch e
   ·injection e with e1 _;rw[e1]
 byValue:=λk v h=>by rcases Cz h with ⟨i,t,rfl,rfl⟩ | ⟨x,t,rfl,rfl⟩<;>rfl
 pyHash:=λhv h=>by
  rcases Cz hv with ⟨i,t,rfl,rfl⟩ | ⟨x,t,rfl,rfl⟩
  ·exact wpAny_pyHash_int h
  ·exact wpAny_pyHash_str h
 eqBool:=λhu hv h=>by
  rcases Cz hu with ⟨i,t,rfl,rfl⟩ | ⟨x,t,rfl,rfl⟩
  ·rcases Cz hv with ⟨j,u,rfl,rfl⟩ | ⟨y,u,rfl,rfl⟩
   ·rw[wt2]at h;exact RD h
   ·rw[wt3]at h;exact SeqAt.EqAt.int_str i t y u _ _ _ _ h
  ·rcases Cz hv with ⟨j,u,rfl,rfl⟩ | ⟨y,u,rfl,rfl⟩
   ·rw[wt4]at h;exact SeqAt.EqAt.str_int x t j u _ _ _ _ h
   ·rw[wt5]at h;exact wpAny_eqBool_str h
 «strs»:=λk x t v h=>by
  rcases Cz h with ⟨i,u,rfl,e⟩ | ⟨y,u,rfl,e⟩
  ·exact nomatch e
  ·injection e with e1 _;subst e1;cases v<;>rfl
def jk7(prog:B_)(w:CW)(i:Int)(t:Tok):(Dc prog w).is (.inl i) (.int i t)=true:=kh5 i t
def jk8(prog:B_)(w:CW)(x:BZ)(t:Tok):(Dc prog w).is (.inr x) (.str x t)=true:=kh6 x t
inductive V where
 |non |bl (b:Bool) |int (i:Int) |str (x:BZ) |byt (b:Array UInt8) |flt (b:UInt64) |ref (a:BK) |ty (n:String)
 deriving DecidableEq
def RelV:V->A_->Prop
 | .non,u=>u=Value.none
 | .bl b,u=>u=Value.bool b
 | .int i,u=>∃t,u=Value.int i t
 | .str x,u=>∃t,u=Value.str x t
 | .byt b,u=>∃t,u=Value.bytes b t
 | .flt b,u=>∃t,u=Value.float b t
 | .ref a,u=>u=Value.ref a
 | .ty n,u=>u=Value.type n
abbrev Vals:List V->List A_->Prop:=VR RelV
variable {xs:List V}{us:List A_}
def Vals.length(r:Vals xs us):xs.length=us.length:=Paired.length r
def Vals.get:∀{xs:List V}{us:List A_}{i:Nat}{x:V},Vals xs us->xs[i]? = some x->∃u,us[i]? = some u/\RelV x u
 |_,_,_,_,.nil,e=>by simp at e
 |_,_,0,_,.cons r _,e=>by simp at e;subst e;exact⟨_,rfl,r⟩
 |_,_,i+1,x,.cons _ t,e=>by obtain⟨u,b,a⟩:=Vals.get (i:=i) (x:=x) t (by simpa using e);exact⟨u,by simpa using b,a⟩
variable {ys:List V}
def Vals.append{a:List A_}(h:Vals xs us)(s:Vals ys a):Vals (xs++ys) (us++a):=by
 induction h with
 |nil=>exact s
 |cons r t b=>exact .cons r b
def Vals.take:∀{xs:List V}{us:List A_}(n:Nat),Vals xs us->Vals (xs.take n) (us.take n)
 |_,_,0,_=>.nil
 |_,_,_+1,.nil=>.nil
 |_,_,n+1,.cons r t=>.cons r (Vals.take n t)
def Vals.drop:∀{xs:List V}{us:List A_}(n:Nat),Vals xs us->Vals (xs.drop n) (us.drop n)
 |_,_,0,r=>r
 |_,_,_+1,.nil=>.nil
 |_,_,n+1,.cons _ t=>Vals.drop n t
def aZ:Option V->Option A_->Prop
 |some v,some u=>RelV v u
 |none,none=>True
 |_,_=>False
def KV{a:Type}:List (a×V)->List (a×A_)->Prop:=VR λ(p:a×V)(q:a×A_)=>p.1=q.1/\RelV p.2 q.2
def kV:Key->V
 | .inl i=>.int i
 | .inr x=>.str x
inductive HO where
 |lst (xs:List V)
 |tup (xs:List V)
 |dK (kvs:List (Key×V)) |dT (kvs:List (List Key×V))
 |set (S:Int->Bool) (n:Nat)
 |ins (C dx:BK) (fs:List (BZ×V))
 |own (x:BK)
 |xd (fs:List (BZ×V))
 |met (f x:BK)
 |rng (lo hi:Int)
 |frz (o:GJ) (u:HO)
 |tbl (ps:Array A_)
 |ext (φ:CK->Prop)
abbrev Hp:=BK->Option HO
def upd(H:Hp)(a:BK)(o:HO):Hp:=λb=>if b=a then some o else H b
def An{H:Hp}{a:BK}{o:HO}:upd H a o a=some o:=by unfold upd;rw[if_pos rfl]
def Aj{H:Hp}{a b:BK}{o:HO}(h:b≠a):upd H a o b=H b:=by unfold upd;rw[if_neg h]
def yf7{H:Hp}{a b:BK}{o u:HO}(h:H a=some o)(h':H b=some u)(d:o≠u):a≠b:=by intro e;subst e;rw[h]at h';exact d (Option.some.inj h')
def Bh{H:Hp}{a b:BK}{o:HO}(h:H a=some o)(h':H b=none):a≠b:=by intro e;subst e;rw[h]at h';cases h'
section
variable (P:B_)(w:CW)
def Cj(H:Hp)(h:CK)(a:BK):HO->Prop
 | .lst xs=>xs.length<=sizeLine/\∃(its:List A_)(n:Nat),Vals xs its/\h.get? a=some {cls:=.type "list",data:=.seq its.toArray n}
 | .tup xs=>xs.length<=sizeLine/\∃its:List A_,Vals xs its/\NK h a its.toArray
 | .dK e=>e.length<=sizeLine/\(a == GX)=false/\∃i,KV e i/\h.DictOf (Dc P w) a i
 | .dT e=>e.length<=sizeLine/\(a == GX)=false/\∃xs:List (List Key×BK×A_),
   VR (λ(p:List Key×V)(q:List Key×BK×A_)=>p.1=q.1/\H q.2.1=some (.tup (p.1.map kV))/\RelV p.2 q.2.2) e xs /\
   ∃o z E,h.get? a=some o/\o.ExactDict/\o.data=.dict z E/\z.toList=xs.map (entryOfKey (LQ (Dc P w)))/\(xs.map (·.1)).Nodup
 | .set S n=>h.SetOf (IV P w) a S n
 | .ins C k j=>H k=some (.own a)/\j.length<=1000/\k≠a/\h.get? a=some (W.instObj C k) /\
   ∃g,h.Ns1 k g/\(∀f,aZ (j.lookup f) (g f))/\PySem.Within g (j.map (·.1))
 | .own _=>∃o,h.get? a=some o
 | .xd j=>∃g,h.Ns1 a g/\∀f,aZ (j.lookup f) (g f)
 | .rng A B=>∃t u v,h.get? a=some {cls:=.type "range",data:=.fields #[.int A t,.int B u,.int 1 v] }
 | .frz o u=>h.get? a=some o/\Cj H h a u
 | .tbl ps=>∃r:Array A_,h.get? a=some {cls:=.none,data:=.fields r}/\(r = #[]\/∃(l c:A_)(q:BZ)(t:Tok)(b:BK)(o:GJ)(i:Array A_)(t':Tok),ps = #[l,c,.str q t]/\r = #[l,c,.ref b]/\H b=some (.frz o (.own a))/\o.data=.fields i/\i[1]? = some (.str q t'))
 | .met f x=>h.get? a=some (W.methodObj (.ref f) (.ref x))
 | .ext m=>m h/\(∃o,h.get? a=some o)/\∀y s:CK,m y->(∀o,y.get? a=some o->s.get? a=some o)->m s
def HOk(H:Hp)(h:CK):Prop:=∀a o,H a=some o->Cj P w H h a o
end
variable {a:BK}{o:HO}{h h':CK}{H H':Hp}{P:B_}{w:CW}
def Cj.lt(x:Cj P w H h a o):a<h.objs.size:=by
 cases o with
 |lst xs=>obtain⟨_,_,_,_,e⟩:=x;exact HB e
 |tup xs=>obtain⟨_,_,_,p⟩:=x;exact p.lt
 |dK b=>obtain⟨_,_,_,_,o,_,_,e,_⟩:=x;exact HB e
 |dT b=>obtain⟨_,_,_,_,o,_,_,e,_⟩:=x;exact HB e
 |set S n=>obtain⟨o,_,_,_,e,_⟩:=x;exact HB e
 |ins C l c=>obtain⟨_,_,_,e,_⟩:=x;exact HB e
 |own y=>obtain⟨_,e⟩:=x;exact HB e
 |xd c=>obtain⟨_,⟨_,_,_,e,_⟩,_⟩:=x;exact HB e
 |rng j k=>obtain⟨_,_,_,e⟩:=x;exact HB e
 |frz i u=>obtain⟨e,_⟩:=x;exact HB e
 |tbl ps=>obtain⟨_,e,_⟩:=x;exact HB e
 |met f y=>exact HB (show h.get? a=some _ from x)
 |ext g=>obtain⟨_,⟨_,e⟩,_⟩:=x;exact HB e
def Paired.mapP{i g:Type}{F G:i->g->Prop}{e:List i}{c:List g}(h:VR F e c)(f:∀a b,F a b->G a b):VR G e c:=by
 induction h with
 |nil=>exact .nil
 |cons r t j=>exact .cons (f _ _ r) j
theorem Cj.stay(x:Cj P w H h a o)(k:∀b u,(b=a\/H b=some (.own a))->h.get? b=some u->h'.get? b=some u)
  (M:∀b,H b=some (.own a)->H' b=some (.own a))(L:∀b xs,H b=some (.tup xs)->H' b=some (.tup xs))
  (O:∀b o y,H b=some (.frz o (.own y))->H' b=some (.frz o (.own y)):=by first |exact λ_ _ _ q=>q | (intro b o y q;rw[Aj (Bh q (by assumption))];exact q)):Cj P w H' h' a o:=by
 induction o with
 |lst xs=>obtain⟨z,m,n,r,e⟩:=x;exact⟨z,m,n,r,k _ _ (.inl rfl) e⟩
 |tup xs=>obtain⟨z,m,r,g,e,c⟩:=x;exact⟨z,m,r,g,k _ _ (.inl rfl) e,c⟩
 |dK E=>obtain⟨z,y,s,r,g,i,j,e,c⟩:=x;exact⟨z,y,s,r,g,i,j,k _ _ (.inl rfl) e,c⟩
 |dT E=>obtain⟨z,y,xs,r,g,i,j,e,c⟩:=x;exact⟨z,y,xs,Paired.mapP r λp q z=>⟨z.1,L _ _ z.2.1,z.2.2⟩,g,i,j,k _ _ (.inl rfl) e,c⟩
 |set S n=>obtain⟨g,i,j,t,e,c⟩:=x;exact⟨g,i,j,t,k _ _ (.inl rfl) e,c⟩
 |ins C Z Q=>obtain⟨d,z,ne,e,B,⟨A,i,j,F,c⟩,r⟩:=x;exact⟨M _ d,z,ne,k _ _ (.inl rfl) e,B,⟨A,i,j,k _ _ (.inr d) F,c⟩,r⟩
 |own y=>obtain⟨g,e⟩:=x;exact⟨g,k _ _ (.inl rfl) e⟩
 |xd Q=>obtain⟨B,⟨A,i,j,e,c⟩,r⟩:=x;exact⟨B,⟨A,i,j,k _ _ (.inl rfl) e,c⟩,r⟩
 |rng X Y=>obtain⟨t,u,v,e⟩:=x;exact⟨t,u,v,k _ _ (.inl rfl) e⟩
 |frz g u K=>obtain⟨e,q⟩:=x;exact⟨k _ _ (.inl rfl) e,K q⟩
 |tbl ps=>obtain⟨J,e,z⟩:=x;exact⟨J,k _ _ (.inl rfl) e,z.imp id λ⟨l,c,q,t,b,o,s,I,T,F,d,r⟩=>⟨l,c,q,t,b,o,s,I,T,F,O _ _ _ d,r⟩⟩
 |met f y=>have e:h.get? a=some (W.methodObj (.ref f) (.ref y)):=x;show h'.get? a=some (W.methodObj (.ref f) (.ref y));exact k a _ (.inl rfl) e
 |ext U=>obtain⟨p,⟨o,e⟩,G⟩:=x;exact⟨G _ _ p λo q=>k _ _ (.inl rfl) q,⟨o,k _ _ (.inl rfl) e⟩,G⟩
def HOk.lt(x:HOk P w H h)(e:H a=some o):a<h.objs.size:=(x a o e).lt
def HOk.fresh(x:HOk P w H h)(e:h.objs.size<=a):H a=none:=by
 cases q:H a with
 |none=>rfl
 |some u=>exact absurd (PX (x.lt q) e) (SN _)
def HOk.kept(x:HOk P w H h)(k:∀b u,h.get? b=some u->h'.get? b=some u):HOk P w H h':=λa o e =>
 (x a o e).stay (λb u _ q=>k b u q) (λ_ q=>q) λ_ _ q=>q
def HOk.laid(x:HOk P w H h)(k:∀b u,h.get? b=some u->h'.get? b=some u)(i:h.objs.size<=a)(new:Cj P w (upd H a o) h' a o):HOk P w (upd H a o) h':=λb u e=>by
 have f:=x.fresh i;by_cases g:b=a
 ·subst g;rw[An]at e;cases e;exact new
 ·rw[Aj g]at e;exact(x b u e).stay (λc v _ q=>k c v q) (λc q=>by rw[Aj (Bh q f)];exact q) λc xs q=>by rw[Aj (Bh q f)];exact q
def Rd(H:Hp)(a:BK)(u:HO):Prop:=H a=some u\/∃o,H a=some (.frz o u)
def Rd.ok{u:HO}(r:Rd H a u)(x:HOk P w H h):Cj P w H h a u:=by
 rcases r with r | ⟨o,r⟩
 ·exact x a u r
 ·have⟨_,q⟩:=x a _ r;exact q
def Mut:Option HO->Prop
 |some (.lst _)=>True
 |some (.dK _)=>True
 |some (.dT _)=>True
 |some (.set _ _)=>True
 |some (.ins _ _ _)=>True
 |some (.ext _)=>True
 |_=>False
variable {x:BK}
section
variable {e:BK}{o':HO}
def HOk.write(ok:HOk P w H h)(i:Mut (H x))(s:e=x\/H e=some (.own x))(k:∀b u,b≠e->h.get? b=some u->h'.get? b=some u)(n:∃u,h'.get? e=some u)
  (new:Cj P w (upd H x o') h' x o'):HOk P w (upd H x o') h':=λb u q=>by
 have g:∀c y,H c=some (.own y)->c≠x:=λc y r z=>by subst z;rw[r]at i;exact i
 have j:∀c xs,H c=some (.tup xs)->c≠x:=λc xs r z=>by subst z;rw[r]at i;exact i
 by_cases m:b=x
 ·subst m;rw[An]at q;cases q;exact new
 ·rw[Aj m]at q;by_cases f:b=e
  ·have p:H b=some (.own x):=by
    rcases s with z |z
    ·exact absurd (f.trans z) m
    ·rw[f];exact z
   rw[q]at p;cases p;obtain⟨v,A⟩:=n;exact⟨v,by rw[f];exact A⟩
  ·refine(ok b u q).stay (λc v l r=>k c v ?_ r) (λc r=>by rw[Aj (g c b r)];exact r) (λc xs r=>by rw[Aj (j c xs r)];exact r) λc o y r=>by rw[Aj (λz=>by subst z;rw[r]at i;exact i)];exact r
   rcases l with rfl |l
   ·exact f
   ·rintro rfl;rcases s with z |z
    ·exact g c b l z
    ·rw[l]at z;cases z;exact m rfl
end
structure Un(fs ex:List BK)(H H':Hp)(h h':CK):Prop where
 keep:∀b o,h.get? b=some o->H b=none->b∉fs->b∉ex->h'.get? b=some o
 slot:∀b o,h.get? b=some o->H b=none->b∈fs->b∉ex->∃sl,h'.get? b=some {o with slots:=sl}
 free:∀b o,h.get? b=some o->H b=none->b∉ex->H' b=none
 there:∀b o,h.get? b=some o->b∉ex->∃o',h'.get? b=some o'
 tups:∀b xs,H b=some (.tup xs)->H' b=some (.tup xs)
 frzs:∀b o u,H b=some (.frz o u)->H' b=some (.frz o u)
 tbls:∀b ps,H b=some (.tbl ps)->∃more,H' b=some (.tbl (ps++more))
section
variable {fs b ex f:List BK}{g j:Hp}{c i:CK}{e:BK}
def Un.any(u:Un fs ex H g h c){b:BK}{k:GJ}(q:h.get? b=some k)(n:H b=none)(l:b∉ex):∃p,c.get? b=some {k with slots:=p}:=by
 by_cases m:b∈fs
 ·exact u.slot b k q n m l
 ·exact⟨k.slots,u.keep b k q n m l⟩
def Un.kept(k:∀b u,h.get? b=some u->h'.get? b=some u):Un fs ex H H h h':=
 ⟨λb l q _ _ _=>k b l q,λb l q _ _ _=>⟨l.slots,k b l q⟩,λ_ _ _ n _=>n,λb l q _=>⟨l,k b l q⟩,λ_ _ q=>q,λ_ _ _ q=>q,λ_ ps q=>⟨#[],by rw[q];simp⟩⟩
def Un.refl:Un fs ex H H h h:=Un.kept λ_ _ q=>q
def Un.laid(k:∀b u,h.get? b=some u->h'.get? b=some u)(hp:h.objs.size<=a)(hn:H a=none):Un fs ex H (upd H a o) h h' where
 keep:=λb u q _ _ _=>k b u q
 slot:=λb u q _ _ _=>⟨u.slots,k b u q⟩
 free:=λb u q n _=>by rw[Aj (JW (PX (HB q) hp))];exact n
 there:=λb u q _=>⟨u,k b u q⟩
 tups:=λb xs q=>by rw[Aj (Bh q hn)];exact q
 frzs:=λb u xs q=>by rw[Aj (Bh q hn)];exact q
 tbls:=λb ps q=>⟨#[],by rw[Aj (Bh q hn),q];simp⟩
def Un.write(m:Mut (H x))(B:e=x\/H e=some (.own x))(k:∀b u,b≠e->h.get? b=some u->h'.get? b=some u)(s:∃u,h'.get? e=some u):Un fs ex H (upd H x o) h h':=by
 have v:∀b,H b=none->b≠x:=λb n z=>by subst z;rw[n]at m;exact m
 have y:∀b,H b=none->b≠e:=λb n z=>by
  subst z;rcases B with r |r
  ·exact v b n r
  ·rw[n]at r;cases r
 have p:∀b u,H b=some u->¬ Mut (some u)->b≠x:=λb u q A z=>by subst z;rw[q]at m;exact A m
 refine⟨λb u q n _ _=>k b u (y b n) q,λb u q n _ _=>⟨u.slots,k b u (y b n) q⟩,λb u q n _=>by rw[Aj (v b n)];exact n,λb u q _=>?_,
  λb xs q=>by rw[Aj (p b _ q λz=>z)];exact q,λb u xs q=>by rw[Aj (p b _ q λz=>z)];exact q,λb ps q=>⟨#[],by rw[Aj (p b _ q λz=>z),q];simp⟩⟩
 by_cases l:b=e
 ·subst l;exact s
 ·exact⟨u,k b u l q⟩
end
def trk(h:CK)(H:Hp):List BK:=(List.range h.objs.size).filter λa=>(H a).isSome
def ZV(h:CK)(H:Hp):CK:=W.hideAll h (trk h H)
def kg7(h:CK)(H:Hp):(ZV h H).objs.size=h.objs.size:=W.hideAll_size _ _
def kr9{b:BK}{o:GJ}(e:h.get? b=some o)(n:H b=none):(ZV h H).get? b=some o:=
 W.hideAll_get _ e λc=>by have q:(H b).isSome=true:=(MF.mp c).2;rw[n]at q;simp at q
def wi1{b:BK}{o:GJ}(e:(ZV h H).get? b=some o):h.get? b=some o/\H b=none:=by
 have c:h.get? b=some o:=W.of_hideAll (trk h H) e;refine⟨c,?_⟩;cases q:H b with
 |none=>rfl
 |some x=>have f:b∈trk h H:=MF.mpr ⟨H_.mpr (HB c),by simp[q]⟩;have z:(ZV h H).get? b=none:=W.hideAll_none (trk h H) f;rw[z]at e;cases e
structure Mod(K:CJ)(mg:BZ->Option A_)(base:CK):Prop where
 kin:K.In base
 glob:base.Ns HS mg
 blt:∃mb,base.Ns VJ mb/\∀x:BZ,x ≠ "__name__"->mb x=GC x
 nolimit:base.NoLimit
structure Cx where
 prog:B_
 w:CW
 K:CJ
 mg:BZ->Option A_
 base:CK
 A:EY
 N:List BZ
 s₀:BJ
 H₀:Hp
 env:KH
 outer:List KH
 stack:List KH
 ex:List BK
 fn:BZ->Bool
 calm:Bool
 pn:List (BK×GJ)
 xe:A_->BJ->Prop
def frs(l:List KH):List BK:=l.filterMap (·.frame)
abbrev Cx.fs(X:Cx):List BK:=frs X.outer
def Vis(sc:JF)(x:BZ):Prop:=sc.names.lookup x=some .local\/sc.names.lookup x=some .cell\/sc.names.lookup x=some .free
def Loc(sc:JF)(x:BZ):Prop:=sc.names.lookup x=some .local\/sc.names.lookup x=some .cell
def Look(env:KH)(h:CK)(m:BZ->Option A_)(x:BZ)(u:A_):Prop:=
 (env.kindOf x=some .local/\m x=some u)\/((env.kindOf x=some .cell\/env.kindOf x=some .free)/\∃c,env.cells.lookup x=some c/\h.IsCell c (some u))
structure Cx.Ok(X:Cx):Prop where
 mod:Mod X.K X.mg X.base
 kind:X.env.scope.kind=.function
 glob:X.env.globals=HS
 blt:X.env.builtins=VJ
 above:X.s₀.heap.objs.size<=X.env.locals
 inj:∀x y c,X.env.cells.lookup x=some c->X.env.cells.lookup y=some c->x=y
 has:∀x,(X.env.kindOf x=some .cell\/X.env.kindOf x=some .free)->∃c,X.env.cells.lookup x=some c
 cab:∀x c,X.fn x=true->X.env.cells.lookup x=some c->X.s₀.heap.objs.size<=c
 hd:X.calm=true->X.A.handled=none
 frames:X.A.frames=some X.stack
 stk:X.stack=X.outer\/(X.stack=X.env::X.outer/\X.env.frame=some X.env.locals)
 exf:∀b∈X.ex,b≠X.env.locals/\∀x c,X.env.cells.lookup x=some c->c≠b
 bs:∀b o,X.base.get? b=some o->X.s₀.heap.get? b=some o/\X.H₀ b=none
 bsz:X.base.objs.size<=X.s₀.heap.objs.size
 noex:∀b o,X.base.get? b=some o->b∉X.ex
 exfs:∀b∈X.ex,b∉X.fs
 funs:X.s₀.heap.FunFrames X.base X.outer
 frf:∀b∈X.fs,X.H₀ b=none
structure Inv(X:Cx)(pins:List (BK×GJ))(σ:List (Option V))(H:Hp)(s:BJ):Prop where
 ok:X.Ok
 os:s.os=X.s₀.os
 bare:KZ s.gens
 base:Un X.fs X.ex X.H₀ H X.s₀.heap s.heap
 loc:∃m,s.heap.Ns X.env.locals m/\∀(i:Nat)(x:BZ)(v:V),X.N[i]? = some x->σ[i]? = some (some v)->Vis X.env.scope x->∃u,RelV v u/\Look X.env s.heap m x u
 cell:∀x c,X.env.cells.lookup x=some c->∃v,s.heap.IsCell c v
 free:H X.env.locals=none
 freeC:∀x c,X.env.cells.lookup x=some c->H c=none
 pin:∀p∈X.pn++pins,s.heap.get? p.1=some p.2/\H p.1=none/\p.1≠X.env.locals/\p.1∉X.fs/\∀v,p.2.data≠.cell v
 hok:HOk X.prog X.w H s.heap
 len:σ.length=X.N.length
variable {X:Cx}{pins:List (BK×GJ)}{s:BJ}
variable {u:A_}{t' i j:Nat}{it:BK}{A:EY}{E:A_->BJ->Prop}{v:V}{s':BJ}
section
variable {σ:List (Option V)}
def Cx.Ok.nofr(ok:X.Ok){b:BK}{o:GJ}(e:X.base.get? b=some o):b∉X.fs:=λc=>by have:=(ok.funs.mem c).1;rw[e]at this;cases this
def Inv.bs(I:Inv X pins σ H s):∀b o,X.base.get? b=some o->s.heap.get? b=some o/\H b=none:=λb o e =>
 ⟨I.base.keep b o (I.ok.bs b o e).1 (I.ok.bs b o e).2 (I.ok.nofr e) (I.ok.noex b o e),I.base.free b o (I.ok.bs b o e).1 (I.ok.bs b o e).2 (I.ok.noex b o e)⟩
def Inv.bk(I:Inv X pins σ H s):∀b o,X.base.get? b=some o->s.heap.get? b=some o:=λb o e=>(I.bs b o e).1
def Inv.mod(I:Inv X pins σ H s):Mod X.K X.mg X.base:=I.ok.mod
def Inv.SM(I:Inv X pins σ H s):X.K.In s.heap:=I.ok.mod.kin.keeps I.bk
def Inv.lt(I:Inv X pins σ H s):X.env.locals<s.heap.objs.size:=let ⟨_,b,_⟩:=I.loc;b.lt
def Inv.sz(I:Inv X pins σ H s):X.s₀.heap.objs.size<=s.heap.objs.size:=PL I.ok.above (cD I.lt)
def Inv.nofs(I:Inv X pins σ H s)(h:s.heap.objs.size<=a):a∉X.fs:=λc=>by have⟨_,o,b,_⟩:=I.ok.funs.mem c;exact absurd (PX (HB b) (PL I.sz h)) (SN _)
def Inv.cne(I:Inv X pins σ H s):∀x c,X.env.cells.lookup x=some c->c≠X.env.locals:=λx c e z=>by have⟨v,o,g,k⟩:=I.cell x c e;obtain⟨m,⟨l,n,p,b,f,_⟩,_⟩:=I.loc;rw[z,b]at g;cases g;rw[f]at k;cases k
def Inv.funs(I:Inv X pins σ H s):s.heap.FunFrames X.base X.outer:=by
 have all:∀(l:List KH),(∀b∈frs l,b∈X.fs)->X.s₀.heap.FunFrames X.base l->s.heap.FunFrames X.base l:=by
  intro l;induction l with
  |nil=>intro _ _;trivial
  |cons env r m=>intro k y;obtain⟨B,⟨L,o,c,q,p,C⟩,n⟩:=y;have g:L∈X.fs:=k L (by unfold frs;rw[cL,c];exact JK);have⟨F,e⟩:=I.base.slot L o p (I.ok.frf L g) g λz=>I.ok.exfs L z g;exact⟨B,⟨L,_,c,q,e,C⟩,m (λb f=>k b (by unfold frs;rw[cL,c];exact IK _ f)) n⟩
 exact all X.outer (λ_ f=>f) I.ok.funs
def Inv.stack(I:Inv X pins σ H s):s.heap.FunFrames X.base X.stack:=by
 rcases I.ok.stk with e | ⟨e,c⟩
 ·rw[e];exact I.funs
 ·rw[e];obtain⟨m,b,_⟩:=I.loc;refine .cons (by rw[I.ok.kind];decide) c b ?_ I.funs;exact Heap.get?_none_of_le (PL I.ok.bsz I.ok.above)
def Inv.stkSub(I:Inv X pins σ H s):∀b∈frs X.stack,b∈X.env.locals::X.fs:=λb c=>by
 rcases I.ok.stk with e | ⟨e,f⟩
 ·rw[e]at c;exact IK _ c
 ·rw[e]at c;unfold frs at c;rw[cL,f]at c;exact c
def Inv.stkFree(I:Inv X pins σ H s):∀b∈frs X.stack,H b=none:=λb c=>by
 rcases HN.mp (I.stkSub b c) with e |c
 ·rw[e];exact I.free
 ·have⟨_,o,f,_⟩:=I.ok.funs.mem c;exact I.base.free b o f (I.ok.frf b c) λz=>I.ok.exfs b z c
def Inv.step{g':Array ZR}{d':mF}{ch:List BK}(I:Inv X pins σ H s)
  (y:∀b∈ch,(b∈X.ex\/X.s₀.heap.objs.size<=b)/\b≠X.env.locals/\(∀x c,X.env.cells.lookup x=some c->c≠b)/\∀p∈X.pn++pins,p.1≠b)
  (keep:∀b o,b≠X.env.locals->b∉X.fs->b∉ch->s.heap.get? b=some o->H b=none->h'.get? b=some o)
  (slot:∀b o,b≠X.env.locals->b∈X.fs->b∉ch->s.heap.get? b=some o->H b=none->∃T,h'.get? b=some {o with slots:=T})(free:∀b o,b∉ch->s.heap.get? b=some o->H b=none->H' b=none)
  (there:∀b o,b∉ch->s.heap.get? b=some o->∃K,h'.get? b=some K)
  (tups:∀b xs,H b=some (.tup xs)->H' b=some (.tup xs))(M:∀b o u,H b=some (.frz o u)->H' b=some (.frz o u))(J:∀b ps,H b=some (.tbl ps)->∃more,H' b=some (.tbl (ps++more)))
  (ns:∀m,s.heap.Ns X.env.locals m->h'.Ns X.env.locals m)(U:HOk X.prog X.w H' h')(hg:KZ g'):
  Inv X pins σ H' {s with heap:=h',gens:=g',drawn:=d',toks:=t'}:=by
 have L:∀b o,X.s₀.heap.get? b=some o->b≠X.env.locals:=λb o e=>JW (PX (HB e) I.ok.above);have B:∀b o,X.s₀.heap.get? b=some o->b∉X.ex->b∉ch:=λb o e f F=>by
  rcases(y b F).1 with z |z
  ·exact f z
  ·exact absurd (PX (HB e) z) (SN _)
 have cellK:∀x c,X.env.cells.lookup x=some c->∀v,s.heap.IsCell c v->h'.IsCell c v:=λx c e v ⟨o,G,Y⟩=>by
  have g:c∉ch:=λz=>(y c z).2.2.1 x c e rfl;by_cases hc:c∈X.fs
  ·have⟨T,q⟩:=slot c o (I.cne x c e) hc g G (I.freeC x c e);exact⟨_,q,Y⟩
  ·exact⟨o,keep c o (I.cne x c e) hc g G (I.freeC x c e),Y⟩
 refine⟨I.ok,I.os,hg,⟨λb o e n F f=>?_,λb o e n F f=>?_,λb o e n f=>?_,λb o e f=>?_,λb xs e=>tups b xs (I.base.tups b xs e),λb o xs e=>M b o xs (I.base.frzs b o xs e),λb ps e=>?_⟩,?_,λx c e=>?_,?_,λx c e=>?_,λp hp=>?_,U,I.len⟩
 ·exact keep b o (L b o e) F (B b o e f) (I.base.keep b o e n F f) (I.base.free b o e n f)
 ·have⟨T,C⟩:=I.base.slot b o e n F f;have⟨Q,O⟩:=slot b _ (L b o e) F (B b o e f) C (I.base.free b o e n f);exact⟨Q,O⟩
 ·have⟨K,C⟩:=I.base.there b o e f;exact free b K (B b o e f) C (I.base.free b o e n f)
 ·have⟨K,C⟩:=I.base.there b o e f;exact there b K (B b o e f) C
 ·have⟨m1,C⟩:=I.base.tbls b ps e;have⟨m2,O⟩:=J b _ C;exact⟨m1++m2,by rw[O,jHl]⟩
 ·obtain⟨m,hn,hl⟩:=I.loc;refine⟨m,ns m hn,λi x v C O e3=>?_⟩;have⟨u,r,l⟩:=hl i x v C O e3;refine⟨u,r,?_⟩;rcases l with l | ⟨k,c,e,z⟩
  ·exact .inl l
  ·exact .inr ⟨k,c,e,cellK x c e _ z⟩
 ·have⟨v,z⟩:=I.cell x c e;exact⟨v,cellK x c e v z⟩
 ·obtain⟨m,⟨o,_,_,G,_⟩,_⟩:=I.loc;exact free _ o (λz=>(y _ z).2.1 rfl) G I.free
 ·have⟨v,o,G,Y⟩:=I.cell x c e;exact free c o (λz=>(y c z).2.2.1 x c e rfl) G (I.freeC x c e)
 ·have⟨e,n,ne,Z,d⟩:=I.pin p hp;have g:p.1∉ch:=λz=>(y p.1 z).2.2.2 p hp rfl;exact⟨keep p.1 p.2 ne Z g e n,free p.1 p.2 g e n,ne,Z,d⟩
def Inv.un(I:Inv X pins σ H s)(u:Un X.fs [] H H' s.heap h')(f:HOk X.prog X.w H' h'):Inv X pins σ H' {s with heap:=h',toks:=t'}:=by
 have⟨m,⟨o,J,K,p,r⟩,_⟩:=id I.loc;have⟨C,B⟩:=u.any p I.free (by simp);exact I.step (g':=s.gens) (d':=s.drawn) (ch:=[]) (λ_ z=>nomatch z) (λb o _ g _ e n=>u.keep b o e n g (by simp)) (λb o _ g _ e n=>u.slot b o e n g (by simp)) (λb o _ e n=>u.free b o e n (by simp)) (λb o _ e=>u.there b o e (by simp)) u.tups u.frzs u.tbls (λG y=>by
  obtain⟨F,k,l,c,q⟩:=y;rw[p]at c;cases c;exact⟨_,k,l,B,q⟩) f I.bare
def Inv.call{g':Array ZR}{d':mF}{ch:List BK}(I:Inv X pins σ H s)(u:Un (frs X.stack) ch H H' s.heap h')(l:HOk X.prog X.w H' h')(J:KZ g')
  (k:∀b∈ch,(b∈X.ex\/X.s₀.heap.objs.size<=b)/\b≠X.env.locals/\(∀x c,X.env.cells.lookup x=some c->c≠b)/\∀p∈X.pn++pins,p.1≠b):
  Inv X pins σ H' {s with heap:=h',gens:=g',drawn:=d',toks:=t'}:=by
 have⟨m,⟨o,Q,T,C,r⟩,_⟩:=id I.loc;have⟨L,q⟩:=u.any C I.free λz=>(k _ z).2.1 rfl;exact I.step (ch:=ch) k (λb o q K f e n=>u.keep b o e n (λz=>(HN.mp (I.stkSub b z)).elim q K) f) (λb o _ _ f e n=>u.any e n f) (λb o f e n=>u.free b o e n f) (λb o f e=>u.there b o e f) u.tups u.frzs u.tbls (λO G=>by
  obtain⟨M,y,B,g,F⟩:=G;rw[C]at g;cases g;exact⟨_,y,B,q,F⟩) l J
def Inv.turned(I:Inv X pins σ H s)(k:∀b o,b≠it->s.heap.get? b=some o->h'.get? b=some o)(B:H it=none)(l:it≠X.env.locals)
  (K:it∈X.ex\/X.s₀.heap.objs.size<=it)(J:∀x c,X.env.cells.lookup x=some c->c≠it)(G:∀p∈X.pn++pins,p.1≠it):Inv X pins σ H {s with heap:=h',toks:=t'}:=by
 have g:∀b u,H b=some u->b≠it:=λb u e z=>by rw[z,B]at e;cases e
 refine I.step (g':=s.gens) (d':=s.drawn) (ch:=[it]) (λb F=>?_) (λb o _ _ f e _=>k b o (λz=>f (by simp[z])) e) (λb o _ _ f e _=>⟨o.slots,k b o (λz=>f (by simp[z])) e⟩) (λ_ _ _ _ n=>n)
  (λb o f e=>⟨o,k b o (λz=>f (by simp[z])) e⟩) (λ_ _ e=>e) (λ_ _ _ e=>e) (λb ps e=>⟨#[],by rw[e];simp⟩) (λm C=>?_) (λb u e=>?_) I.bare
 ·have e:b=it:=by simpa using F
  subst e;exact⟨K,l,J,G⟩
 ·obtain⟨o,L,M,y,r⟩:=C;exact⟨o,L,M,k _ o (Ne.symm l) y,r⟩
 ·refine(I.hok b u e).stay (λc v f q=>k c v ?_ q) (λ_ q=>q) λ_ _ q=>q;rcases f with z |z
  ·rw[z];exact g b u e
  ·exact g c _ z
def Inv.tok(I:Inv X pins σ H s)(t:Nat):Inv X pins σ H {s with toks:=t}:=I.un (h':=s.heap) (t':=t) Un.refl I.hok
def Inv.kept(I:Inv X pins σ H s)(k:∀b u,s.heap.get? b=some u->h'.get? b=some u):Inv X pins σ H {s with heap:=h',toks:=t'}:=I.un (Un.kept k) (I.hok.kept k)
def Inv.laid(I:Inv X pins σ H s)(k:∀b u,s.heap.get? b=some u->h'.get? b=some u)(c:s.heap.objs.size<=a)(new:Cj X.prog X.w (upd H a o) h' a o):
  Inv X pins σ (upd H a o) {s with heap:=h',toks:=t'}:=I.un (Un.laid k c (I.hok.fresh c)) (I.hok.laid k c new)
def Inv.write{e:BK}(I:Inv X pins σ H s)(f:Mut (H x))(g:e=x\/H e=some (.own x))(k:∀b u,b≠e->s.heap.get? b=some u->h'.get? b=some u)(c:∃u,h'.get? e=some u)
  (new:Cj X.prog X.w (upd H x o) h' x o):Inv X pins σ (upd H x o) {s with heap:=h',toks:=t'}:=I.un (Un.write f g k c) (I.hok.write f g k c new)
def Inv.pins_of{b:List (BK×GJ)}(I:Inv X pins σ H s)(h:∀p∈b,s.heap.get? p.1=some p.2/\H p.1=none/\p.1≠X.env.locals/\p.1∉X.fs/\∀v,p.2.data≠.cell v):Inv X b σ H s:=
 ⟨I.ok,I.os,I.bare,I.base,I.loc,I.cell,I.free,I.freeC,λp c=>(KC.mp c).elim (λz=>I.pin p (ZJ _ z)) (h p),I.hok,I.len⟩
def Wx{N:List BZ}(c:N.Nodup){x:BZ}(a:N[i]? = some x)(b:N[j]? = some x):i=j:=by have⟨k,f⟩:=LR.mp a;have⟨g,e⟩:=LR.mp b;exact(List.getElem_inj c).mp (f.trans e.symm)
theorem Z9{M:KR}{x:BZ}{Q:Unit->BJ->Prop}(I:Inv X pins σ H s)(hN:X.N.Nodup)(hi:X.N[i]? = some x)(B:Loc X.env.scope x)(r:RelV v u)
  (h:∀s',Inv X pins (σ.set i (some v)) H s'->(∃a,Heap.SameBut a s.heap s'.heap/\(a=X.env.locals\/X.env.cells.lookup x=some a))->Q () s')(hf:X.fn x=true\/X.env.scope.names.lookup x=some .local:=by first |exact .inl rfl |exact .inr rfl |assumption):BP M A (storeName X.env x u) Q E s:=by
 have⟨m,hn,hl⟩:=id I.loc;have Y:(X.env.scope.kind == .class || (X.env.scope.kind == .module && X.env.locals != X.env.globals))=false:=by rw[I.ok.kind];rfl
 have J:i<σ.length:=by rw[I.len];exact(LR.mp hi).1
 have cne:=I.cne;have tracked:∀{a:BK}{h':CK},(∃o,s.heap.get? a=some o/\H a=none)->Heap.SameBut a s.heap h'->HOk X.prog X.w H h':=λ{a h'} ha f b ob e=>by
  obtain⟨_,_,C⟩:=ha;refine(I.hok b ob e).stay (λc w' l q=>(f.2 c ?_).trans q) (λ_ q=>q) λ_ _ q=>q;rintro rfl;rcases l with rfl |l
  ·rw[C]at e;cases e
  ·rw[C]at l;cases l
 rcases B with G |G
 ·refine wpAny_storeName_local G hn (λh' ae f=>?_) Y;have⟨oL,_,_,ab,_⟩:=id hn;refine h _ ⟨I.ok,I.os,I.bare,⟨λb o e n O B=>?_,λb o e n O B=>?_,I.base.free,λb o e B=>?_,I.base.tups,I.base.frzs,I.base.tbls⟩,⟨_,ae,λj y v' g F e3=>?_⟩,λy c e=>?_,I.free,I.freeC,λp hp=>?_,tracked ⟨oL,ab,I.free⟩ f,by simpa using I.len⟩ ⟨_,f,.inl rfl⟩
  ·exact(f.2 b (JW (PX (HB e) I.ok.above))).trans (I.base.keep b o e n O B)
  ·have⟨sl,g⟩:=I.base.slot b o e n O B;exact⟨sl,(f.2 b (JW (PX (HB e) I.ok.above))).trans g⟩
  ·have⟨o',g⟩:=I.base.there b o e B;exact⟨o',(f.2 b (JW (PX (HB e) I.ok.above))).trans g⟩
  ·by_cases K:j=i
   ·subst K;rw[hi]at g;cases g;rw[ZM J]at F;cases F;exact⟨u,r,.inl ⟨G,by simp⟩⟩
   ·rw[QD (Ne.symm K)]at F;have⟨u',r',q⟩:=hl j y v' g F e3;refine⟨u',r',?_⟩;rcases q with ⟨k,e⟩ | ⟨k,c,e,z⟩
    ·refine .inl ⟨k,?_⟩;have:y≠x:=λe=>K (Wx hN g (e ▸ hi));simp[this,e]
    ·exact .inr ⟨k,c,e,z.sameBut f (cne y c e)⟩
  ·have⟨w',z⟩:=I.cell y c e;exact⟨w',z.sameBut f (cne y c e)⟩
  ·have⟨e,n,ne,nf,d⟩:=I.pin p hp;exact⟨(f.2 p.1 ne).trans e,n,ne,nf,d⟩
 ·have L:X.fn x=true:=by
   rcases hf with z |z
   ·exact z
   ·rw[z]at G;cases G
  have⟨c,l⟩:=I.ok.has x (.inl G);have⟨w',z⟩:=I.cell x c l;refine wpAny_storeName_cell I.ok.kind G l z (λh' aa f=>?_);have⟨oc,U,T⟩:=id z;refine h {s with heap:=h'} ⟨I.ok,I.os,I.bare,⟨λb o e n O B=>?_,λb o e n O B=>?_,I.base.free,λb o e B=>?_,I.base.tups,I.base.frzs,I.base.tbls⟩,⟨m,hn.sameBut f (Ne.symm (cne x c l)),λj y v' g F e3=>?_⟩,λy c' e=>?_,I.free,I.freeC,λp hp=>?_,tracked ⟨oc,U,I.freeC x c l⟩ f,by simpa using I.len⟩ ⟨c,f,.inr l⟩
  ·exact(f.2 b (JW (PX (HB e) (I.ok.cab x c L l)))).trans (I.base.keep b o e n O B)
  ·have⟨sl,g⟩:=I.base.slot b o e n O B;exact⟨sl,(f.2 b (JW (PX (HB e) (I.ok.cab x c L l)))).trans g⟩
  ·have⟨o',g⟩:=I.base.there b o e B;exact⟨o',(f.2 b (JW (PX (HB e) (I.ok.cab x c L l)))).trans g⟩
  ·by_cases K:j=i
   ·subst K;rw[hi]at g;cases g;rw[ZM J]at F;cases F;exact⟨u,r,.inr ⟨.inl G,c,l,aa⟩⟩
   ·rw[QD (Ne.symm K)]at F;have⟨u',r',q⟩:=hl j y v' g F e3;refine⟨u',r',?_⟩;rcases q with q | ⟨k,c',e,z'⟩
    ·exact .inl q
    ·refine .inr ⟨k,c',e,z'.sameBut f ?_⟩;rintro rfl;exact K (Wx hN g (I.ok.inj _ _ _ e l ▸ hi))
  ·by_cases Z:c'=c
   ·subst Z;exact⟨_,aa⟩
   ·have⟨w2,z2⟩:=I.cell y c' e;exact⟨w2,z2.sameBut f Z⟩
  ·have⟨e,n,ne,nf,d⟩:=I.pin p hp;refine⟨(f.2 p.1 ?_).trans e,n,ne,nf,d⟩;intro q;rw[q,U]at e;have q':oc=p.2:=Option.some.inj e;exact d w' (by rw[<-q'];exact T)
theorem Xu{M:KR}{x:BZ}{Q:Unit->BJ->Prop}(I:Inv X pins σ H s)(e:X.N.Nodup)(hi:X.N[i]? = some x)(b:Loc X.env.scope x)(r:RelV v u)
  (h:∀s',Inv X pins (σ.set i (some v)) H s'->Q () s')(c:X.fn x=true\/X.env.scope.names.lookup x=some .local:=by first |exact .inl rfl |exact .inr rfl |assumption):BP M A (storeName X.env x u) Q E s:=
 Z9 I e hi b r (λs' f _=>h s' f) c
def Inv.call'{ch:List BK}(I:Inv X pins σ H s)(l:s'.os=s.os)(u:Un (frs X.stack) ch H H' s.heap s'.heap)(f:HOk X.prog X.w H' s'.heap)(m:KZ s'.gens)
  (g:∀b∈ch,(b∈X.ex\/X.s₀.heap.objs.size<=b)/\b≠X.env.locals/\(∀x c,X.env.cells.lookup x=some c->c≠b)/\∀p∈X.pn++pins,p.1≠b):Inv X pins σ H' s':=by
 obtain⟨h',g',d',t',k⟩:=s';have e:k=s.os:=l;subst e;exact I.call (g':=g') (t':=t') (d':=d') u f m g
end
abbrev XK:=A_->Option BK->Hp->Prop
abbrev St:=List (Option V)
abbrev VK:=V->Hp->Prop
abbrev TE:=St->Hp->VK->Prop
abbrev TT:=St->Hp->(Bool->Hp->Prop)->Prop
abbrev TA:=St->Hp->(List V->Hp->Prop)->Prop
structure Ends where
 nx:St->Hp->Prop
 rt:VK
 bk:St->Hp->Prop:=λ_ _=>False
 ct:St->Hp->Prop:=λ_ _=>False
abbrev TS:=Ends->St->Hp->Prop
def EP(X:Cx)(pins:List (BK×GJ))(b:St)(Q:VK)(u:A_)(s':BJ):Prop:=∃v H',Inv X pins b H' s'/\RelV v u/\Q v H'
def TP(X:Cx)(pins:List (BK×GJ))(c:St)(Q:Bool->Hp->Prop)(b:Bool)(s':BJ):Prop:=∃H',Inv X pins c H' s'/\Q b H'
def AP(X:Cx)(pins:List (BK×GJ))(c:St)(Q:List V->Hp->Prop)(us:List A_)(s':BJ):Prop:=∃b H',Inv X pins c H' s'/\Vals b us/\Q b H'
def SP(X:Cx)(pins:List (BK×GJ))(D:Ends)(f:Flow)(s':BJ):Prop:=
 match f with
 | .next=>∃b H',Inv X pins b H' s'/\D.nx b H'
 | .brk=>∃b H',Inv X pins b H' s'/\D.bk b H'
 | .cont=>∃b H',Inv X pins b H' s'/\D.ct b H'
 | .ret u=>∃v b H',Inv X pins b H' s'/\RelV v u/\D.rt v H'
def PE(X:Cx)(e:CP)(t:TE):Prop:=
 ∀(pins:List (BK×GJ))(s:BJ)(b:St)(H:Hp)(Q:VK),Inv X pins b H s->t b H Q->BP (BV X.prog X.w) X.A (DY e X.env) (EP X pins b Q) X.xe s
def PT(X:Cx)(e:CP)(t:TT):Prop:=
 ∀(pins:List (BK×GJ))(s:BJ)(b:St)(H:Hp)(Q:Bool->Hp->Prop),Inv X pins b H s->t b H Q->BP (BV X.prog X.w) X.A (YC e X.env (DY e X.env)) (TP X pins b Q) X.xe s
def PW(X:Cx)(e:CP)(t:TT):Prop:=
 ∀(whole:Sem A_)(pins:List (BK×GJ))(s:BJ)(b:St)(H:Hp)(Q:Bool->Hp->Prop),Inv X pins b H s->t b H Q->BP (BV X.prog X.w) X.A (YC e X.env whole) (TP X pins b Q) X.xe s
def PW.pt{e:CP}{t:TT}(h:PW X e t):PT X e t:=h _
def PA(X:Cx)(es:List CP)(t:TA):Prop:=
 ∀(pos:JN)(pins:List (BK×GJ))(s:BJ)(b:St)(H:Hp)(Q:List V->Hp->Prop),Inv X pins b H s->t b H Q->BP (BV X.prog X.w) X.A (spliced (PB pos (BR es X.env))) (AP X pins b Q) X.xe s
def PS(X:Cx)(st:DR)(t:TS):Prop:=
 ∀(pins:List (BK×GJ))(s:BJ)(b:St)(H:Hp)(D:Ends),Inv X pins b H s->t D b H->BP (BV X.prog X.w) X.A (exec st X.env) (SP X pins D) X.xe s
def PSs(X:Cx)(st:List DR)(t:TS):Prop:=
 ∀(pins:List (BK×GJ))(s:BJ)(b:St)(H:Hp)(D:Ends),Inv X pins b H s->t D b H->BP (BV X.prog X.w) X.A (execs st X.env) (SP X pins D) X.xe s
def thn{b:Type}{t:Sem b}{Q c:b->BJ->Prop}{M:KR}(h:BP M A t Q E s)(e:∀a s,Q a s->c a s):BP M A t c E s:=GD h e λ_ _ x=>x
def thG{e b:Type}{t:Sem b}{c:St}{R:e->b->Prop}{Q:e->Hp->Prop}{f:b->BJ->Prop}{M:KR}
  (h:BP M A t (λu s'=>∃v H',Inv X pins c H' s'/\R v u/\Q v H') E s)(k:∀u s' v H',Inv X pins c H' s'->R v u->Q v H'->f u s'):BP M A t f E s:=GD h (λu s' q=>let ⟨v,H',I,r,z⟩:=q;k u s' v H' I r z) λ_ _ x=>x
variable {b:CP}{pos:JN}{B:TE}
variable {Q:A_->BJ->Prop}
section
def iH(i:Nat):TE:=λc H Q=>∃v,c[i]? = some (some v)/\Q v H
def tC(v:V):TE:=λ_ H Q=>Q v H
def ww2{x:BZ}(J:X.N[i]? = some x)(z:Vis X.env.scope x)(n:Zd x:=by decide)(p:(x == ("__classdict__" : BZ))=false:=by decide):PE X (.Name x pos) (iH i):=by
 intro pins s y H Q I h;obtain⟨v,e,h⟩:=h;obtain⟨m,C,G⟩:=I.loc;have⟨u,r,l⟩:=G i x v J e z;have k:EP X pins y Q u s:=⟨v,H,I,r,h⟩;rcases l with ⟨g,F⟩ | ⟨g,c,q,f⟩
 ·exact aJ (wpAny_loadName_local I.ok.kind g C F k) n
 ·rcases g with g |g
  ·exact aJ (wpAny_loadName_cell I.ok.kind g q f k) n
  ·exact aJ (wpAny_loadName_free I.ok.kind g q f k p) n
def wv6{i j pos}:PE X (.Constant (.int i) j pos) (tC (.int i)):=λ_ _ _ H _ I h=>wpAny_Constant_int ⟨.int i,H,I.tok _,⟨_,rfl⟩,h⟩
def yh5{b j pos}:PE X (.Constant (.bool b) j pos) (tC (.bl b)):=λ_ _ _ H _ I h=>Constant_bool ⟨.bl b,H,I,rfl,h⟩
def wv8{j pos}:PE X (.Constant .none j pos) (tC .non):=λ_ _ _ H _ I h=>Constant_none ⟨.non,H,I,rfl,h⟩
def ww1{x j pos}:PE X (.Constant (.str x) j pos) (tC (.str x)):=λ_ _ _ H _ I h=>Calls.Constant_str ⟨.str x,H,I.tok _,⟨_,rfl⟩,h⟩
def Gl(X:Cx)(x:BZ):Prop:=X.env.kindOf x=some .globalImplicit
def Ru{c:St}{x:BZ}(I:Inv X pins c H s)(f:Gl X x)(e:X.mg x=some u)(h:Q u s)
  (g:Zd x:=by decide):BP (BV X.prog X.w) X.A (DY (.Name x pos) X.env) Q E s:=
 Calls.Name_function_global I.ok.kind f (Calls.loadGlobal_global (by rw[I.ok.glob];exact I.mod.glob.keeps I.bk) e h) g
def Qo{c:St}{x:BZ}(I:Inv X pins c H s)(k:Gl X x)(g:X.mg x=none)(e:GC x=some u)(h:Q u s)
  (f:x ≠ "__name__":=by decide)(l:Zd x:=by decide):BP (BV X.prog X.w) X.A (DY (.Name x pos) X.env) Q E s:=by
 obtain⟨p,n,m⟩:=I.mod.blt;exact Calls.Name_function_global I.ok.kind k (Calls.loadGlobal_builtin (by rw[I.ok.glob];exact I.mod.glob.keeps I.bk) g (by rw[I.ok.blt];exact n.keeps I.bk) ((m x f).trans e) h) l
def wI{x:BZ}(e:Gl X x)(c:X.mg x=some u)(r:RelV v u)(f:Zd x:=by decide):PE X (.Name x pos) (tC v):=
 λ_ _ _ H _ I h=>Ru I e c ⟨v,H,I,r,h⟩ f
def wK{x:BZ}(g:Gl X x)(f:X.mg x=none)(c:GC x=some u)(r:RelV v u)(e:x ≠ "__name__":=by decide)(k:Zd x:=by decide):PE X (.Name x pos) (tC v):=
 λ_ _ _ H _ I h=>Qo I g f c ⟨v,H,I,r,h⟩ e k
variable {a:CP}{tb:TE}
variable {f g:TT}{e:List CP}
def yq4(t u:TT):TT:=λk H Q=>t k H λc l=>if c=true then u k l Q else Q false l
def tOr(t u:TT):TT:=λk H Q=>t k H λc l=>if c=true then Q true l else u k l Q
def yq9(t:TT):TT:=λk H Q=>t k H λc l=>Q (!c) l
def wk1(l:PT X a f):PW X (.BoolOp .And [a] pos) f:=by
 intro m pins s k H Q I h;refine isTrue_and (thn (l pins s k H Q I h) λc n e=>?_);cases c with
 |true=>exact isTrue_and_nil e
 |false=>exact e
def wx2(l:PT X a f):PW X (.BoolOp .Or [a] pos) f:=by
 intro m pins s k H Q I h;refine isTrue_or (thn (l pins s k H Q I h) λc n e=>?_);cases c with
 |false=>exact isTrue_or_nil e
 |true=>exact e
def wx1(z:PT X a f)(y:PW X (.BoolOp .And (b::e) pos) g):PW X (.BoolOp .And (a::b::e) pos) (yq4 f g):=by
 intro q pins s l H Q I h;refine isTrue_and (thn (z pins s l H _ I h) λc r k=>?_);obtain⟨p,n,m⟩:=k;cases c with
 |true=>exact y q pins r l p Q n m
 |false=>exact⟨p,n,m⟩
def yh9(z:PT X a f)(y:PW X (.BoolOp .Or (b::e) pos) g):PW X (.BoolOp .Or (a::b::e) pos) (tOr f g):=by
 intro q pins s l H Q I h;refine isTrue_or (thn (z pins s l H _ I h) λc r k=>?_);obtain⟨p,n,m⟩:=k;cases c with
 |true=>exact⟨p,n,m⟩
 |false=>exact y q pins r l p Q n m
def ww9(l:PT X a f):PT X (.UnaryOp .Not a pos) (yq9 f):=by intro pins s k H Q I h;exact isTrue_not (l pins s k H (λc m=>Q (!c) m) I h)
def yi9(B tb:TE):TE:=λk H Q=>B k H λx l=>∃c,x=.bl c/\if c=true then tb k l Q else Q (.bl false) l
def yj6(B:TE):TE:=λk H Q=>B k H λx l=>∃c,x=.bl c/\Q (.bl (!c)) l
def ww0{op}{t:TE}(h:PE X a t):PE X (.BoolOp op [a] pos) t:=λpins s c H Q I k=>BoolOp_one (h pins s c H Q I k)
def wv5(y:PE X a B)(r:PE X (.BoolOp .And (b::e) pos) tb):PE X (.BoolOp .And (a::b::e) pos) (yi9 B tb):=by
 intro pins s l H Q I h;refine BoolOp_and (thG (y pins s l H _ I h) λv p x n m q k=>?_);obtain⟨c,rfl,k⟩:=k;cases q;refine FJ ?_;cases c with
 |true=>exact r pins p l n Q m k
 |false=>exact⟨.bl false,n,m,rfl,k⟩
def wv9(n:PE X a B):PE X (.UnaryOp .Not a pos) (yj6 B):=by intro pins s l H Q I h;refine UnaryOp_ (thG (n pins s l H _ I h) λv r x q p m k=>?_);obtain⟨c,rfl,k⟩:=k;cases m;exact not_of (FJ ⟨.bl (!c),q,p,rfl,k⟩)
def tIf(t:TT)(B tb:TE):TE:=λk H Q=>t k H λc l=>if c=true then B k l Q else tb k l Q
def kw4{c:CP}(r:PT X c f)(z:PE X a B)(y:PE X b tb):PE X (.IfExp c a b pos) (tIf f B tb):=by
 intro pins s k H Q I h;refine wpAny_IfExp (thn (r pins s k H _ I h) λd m l=>?_);obtain⟨q,p,n⟩:=l;cases d with
 |true=>exact z pins m k q Q p n
 |false=>exact y pins m k q Q p n
end
def SqL(K:CJ)(H:Hp)(a:BK)(xs:List V):Prop:=
 Rd H a (.lst xs) \/
  ∃(o:GJ)(its:Array A_)(n:Nat),K.lookup a=some o/\o.cls=.type "list"/\o.dict=none/\o.data=.seq its n/\its.size<=sizeLine/\Vals xs its.toList
def SqT(K:CJ)(H:Hp)(a:BK)(xs:List V):Prop:=
 Rd H a (.tup xs) \/
  ∃(o:GJ)(its:Array A_)(n:Nat),K.lookup a=some o/\o.cls=.type "tuple"/\o.data=.seq its n/\its.size<=sizeLine/\Vals xs its.toList
def yl3:A_->Option V
 | .none=>some .non
 | .bool b=>some (.bl b)
 | .int i _=>some (.int i)
 | .str x _=>some (.str x)
 | .bytes b _=>some (.byt b)
 | .float b _=>some (.flt b)
 | .ref a=>some (.ref a)
 | .type n=>some (.ty n)
 |_=>none
def RelV.abs{x:V}(r:RelV x u):yl3 u=some x:=by
 cases x with
 |non=>cases r;rfl
 |bl _=>cases r;rfl
 |int _=>obtain⟨t,rfl⟩:=r;rfl
 |str _=>obtain⟨t,rfl⟩:=r;rfl
 |byt _=>obtain⟨t,rfl⟩:=r;rfl
 |flt _=>obtain⟨t,rfl⟩:=r;rfl
 |ref _=>cases r;rfl
 |ty _=>cases r;rfl
variable {y:V}
def RelV.inj{x:V}(r:RelV x u)(q:RelV y u):x=y:=Option.some.inj (r.abs.symm.trans q.abs)
def Vals.inj(h:Vals xs us):Vals ys us->xs=ys:=by
 induction h generalizing ys with
 |nil=>intro c;cases c;rfl
 |cons r t f =>
  intro c;cases c with
  |cons e t'=>rw[r.inj e,f t']
variable {σ:St}
variable {K:CJ}
section
variable {xs ys:List V}
def SqL.of(h:H a=some (.lst xs)):SqL K H a xs:=.inl (.inl h)
def SqT.of(h:H a=some (.tup xs)):SqT K H a xs:=.inl (.inl h)
theorem Inv.list(I:Inv X pins σ H s)(h:SqL X.K H a xs):∃c:List A_,Vals xs c/\PlainL s.heap a c.toArray/\xs.length<=sizeLine:=by
 rcases h with h | ⟨o,c,n,g,l,k,f,m,r⟩
 ·have⟨z,c,n,r,e⟩:=h.ok I.hok;exact⟨c,r,⟨_,n,e,rfl,rfl,rfl⟩,z⟩
 ·refine⟨c.toList,r,⟨o,n,I.SM a o g,l,k,by simpa using f⟩,?_⟩;have e:=r.length;simp only[ZG]at e;lia
theorem Inv.tuple(I:Inv X pins σ H s)(h:SqT X.K H a xs):∃c:List A_,Vals xs c/\NK s.heap a c.toArray/\xs.length<=sizeLine:=by
 rcases h with h | ⟨o,c,n,g,k,f,l,r⟩
 ·have⟨z,c,r,p⟩:=h.ok I.hok;exact⟨c,r,p,z⟩
 ·refine⟨c.toList,r,⟨o,I.SM a o g,k,n,by simpa using f⟩,?_⟩;have e:=r.length;simp only[ZG]at e;lia
def Inv.list_inj(I:Inv X pins σ H s)(h:SqL X.K H a xs)(h':SqL X.K H a ys):xs=ys:=by
 have⟨f,r,⟨o,n,e,_,_,d⟩,_⟩:=I.list h;have⟨c,l,⟨p,q,g,_,_,k⟩,_⟩:=I.list h';rw[e]at g;cases g;rw[d]at k;injection k with m _;have:f=c:=by simpa using congrArg Array.toList m
 subst this;exact r.inj l
def Inv.tuple_inj(I:Inv X pins σ H s)(h:SqT X.K H a xs)(h':SqT X.K H a ys):xs=ys:=by
 have⟨f,r,⟨o,e,_,n,d⟩,_⟩:=I.tuple h;have⟨c,l,⟨p,g,_,q,k⟩,_⟩:=I.tuple h';rw[e]at g;cases g;rw[d]at k;injection k with m _;have:f=c:=by simpa using congrArg Array.toList m
 subst this;exact r.inj l
end
abbrev Cx.wish(X:Cx)(E:A_->BJ->Prop):Cx:={X with xe:=E}
abbrev Cx.nox(X:Cx):Cx:=X.wish λ_ _=>False
def Cx.Ok.wish(ok:X.Ok)(E:A_->BJ->Prop):(X.wish E).Ok:=
 ⟨ok.mod,ok.kind,ok.glob,ok.blt,ok.above,ok.inj,ok.has,ok.cab,ok.hd,ok.frames,ok.stk,ok.exf,ok.bs,ok.bsz,ok.noex,ok.exfs,ok.funs,ok.frf⟩
def Cx.Ok.unwish(ok:(X.wish E).Ok):X.Ok:=
 ⟨ok.mod,ok.kind,ok.glob,ok.blt,ok.above,ok.inj,ok.has,ok.cab,ok.hd,ok.frames,ok.stk,ok.exf,ok.bs,ok.bsz,ok.noex,ok.exfs,ok.funs,ok.frf⟩
section
variable {E:A_->BJ->Prop}
def Inv.wish(I:Inv X pins σ H s)(E:A_->BJ->Prop):Inv (X.wish E) pins σ H s:=⟨I.ok.wish E,I.os,I.bare,I.base,I.loc,I.cell,I.free,I.freeC,I.pin,I.hok,I.len⟩
def Inv.unwish(I:Inv (X.wish E) pins σ H s):Inv X pins σ H s:=⟨I.ok.unwish,I.os,I.bare,I.base,I.loc,I.cell,I.free,I.freeC,I.pin,I.hok,I.len⟩
def SP.unwish{D:Ends}{f:Flow}(h:SP (X.wish E) pins D f s'):SP X pins D f s':=by
 cases f with
 |next=>obtain⟨c,H',I,q⟩:=h;exact⟨c,H',I.unwish,q⟩
 |brk=>obtain⟨c,H',I,q⟩:=h;exact⟨c,H',I.unwish,q⟩
 |cont=>obtain⟨c,H',I,q⟩:=h;exact⟨c,H',I.unwish,q⟩
 |ret u=>obtain⟨v,c,H',I,r,q⟩:=h;exact⟨v,c,H',I.unwish,r,q⟩
def PSs.nox{st:List DR}{t:TS}(h:PSs X.nox st t):PSs X st t:=λpins s σ H D I c =>
 GD (h pins s σ H D (I.wish _) c) (λ_ _ q=>q.unwish) λ_ _ z=>False.elim z
end
variable {e:CP}{F:TE}
section
variable {st:DR}{c:List DR}{t u:TS}
def yj4:TS:=λD σ H=>D.nx σ H
def yr1(t u:TS):TS:=λD σ H=>t {D with nx:=u D} σ H
def wj7:PSs X [] yj4:=λ_ _ σ H _ I h=>HH ⟨σ,H,I,h⟩
def kx1(m:PS X st t)(l:PSs X c u):PSs X (st::c) (yr1 t u):=by
 intro pins s σ H D I h;refine LK (thn (m pins s σ H {D with nx:=u D} I h) λf k q=>?_);cases f with
 |next=>obtain⟨g,H',n,q⟩:=q;exact l pins k g H' D n q
 |ret v=>exact q
 |brk=>exact q
 |cont=>exact q
def wj8(g:PS X st t):PSs X [st] t:=by
 intro pins s σ H D I h;refine LK (thn (g pins s σ H D I h) λf k q=>?_);cases f with
 |next=>exact HH q
 |ret v=>exact q
 |brk=>exact q
 |cont=>exact q
def Inv.quiet(I:Inv X pins σ H s):interactive X.env=false:=by simp[interactive,I.ok.kind]
def yj2(F:TE):TS:=λD σ H=>F σ H λ_ f=>D.nx σ f
def U7(k:PE X e F)(g:FW e none pos.line X.env=pure false:=by rfl):PS X (.Expr e pos) (yj2 F):=by intro pins s σ H D I h;exact iD (thG (k pins s σ H _ I h) λv n x m l p f=>⟨σ,m,l,f⟩) I.quiet g
def yr0(F:TE):TS:=λD σ H=>F σ H D.rt
def ww8(k:PE X e F):PS X (.Return (some e) pos) (yr0 F):=by intro pins s σ H D I h;exact wpAny_Return_some (thG (k pins s σ H _ I h) λv n x m l f g=>⟨x,σ,m,l,f,g⟩)
def yq7(c:TT)(t u:TS):TS:=λD σ H=>c σ H λb f=>if b=true then t D σ f else u D σ f
def yh8{c:CP}{a b:List DR}{q:TT}(n:PT X c q)(r:PSs X a t)(p:PSs X b u):PS X (.If c a b pos) (yq7 q t u):=by
 intro pins s σ H D I h;refine wpAny_If (thn (n pins s σ H _ I h) λd g f=>?_);obtain⟨m,l,k⟩:=f;cases d with
 |true=>exact r pins g σ m D l k
 |false=>exact p pins g σ m D l k
def wy9:TS:=λ_ _ _=>False
def kw9:PS X st wy9:=λ_ _ _ _ _ _ h=>h.elim
end
abbrev TG:=V->St->Hp->(St->Hp->Prop)->Prop
abbrev TGs:=List V->St->Hp->(St->Hp->Prop)->Prop
def PG(X:Cx)(target:CP)(t:TG):Prop:=
 ∀(pins:List (BK×GJ))(s:BJ)(σ:St)(H:Hp)(v:V)(u:A_)(Q:St->Hp->Prop),Inv X pins σ H s->RelV v u->t v σ H Q ->
  BP (BV X.prog X.w) X.A (QM target X.env u) (λ_ s'=>∃c H',Inv X pins c H' s'/\Q c H') X.xe s
def PGs(X:Cx)(ts:List CP)(t:TGs):Prop:=
 ∀(pins:List (BK×GJ))(s:BJ)(σ:St)(H:Hp)(f:List V)(us:List A_)(Q:St->Hp->Prop),Inv X pins σ H s->Vals f us->t f σ H Q ->
  BP (BV X.prog X.w) X.A (assignInOrder ((FZ ts X.env).map (·.2)) us) (λ_ s'=>∃c H',Inv X pins c H' s'/\Q c H') X.xe s
abbrev iV:=V->V->V->Hp->(Hp->Prop)->Prop
def sE(X:Cx)(t:iV):Prop:=
 ∀(pins:List (BK×GJ))(s:BJ)(σ:St)(H:Hp)(o i v:V)(c f u:A_)(Q:Hp->Prop),Inv X pins σ H s->RelV o c->RelV i f->RelV v u->t o i v H Q ->
  BP (BV X.prog X.w) X.A (S_ c f u) (λ_ s'=>∃H',Inv X pins σ H' s'/\Q H') X.xe s
def sZ(i:Nat):TG:=λv σ H Q=>Q (σ.set i (some v)) H
theorem wH{x:BZ}(g:X.N.Nodup)(hi:X.N[i]? = some x)(c:Loc X.env.scope x)(f:X.fn x=true\/X.env.scope.names.lookup x=some .local:=by first |exact .inl rfl |exact .inr rfl |assumption):PG X (.Name x pos) (sZ i):=by intro pins s σ H v u Q I r h;exact bU (Xu I g hi c r (λs' k=>⟨_,H,k,h⟩) f)
def yn4:TGs:=λc σ H Q=>c=[]/\Q σ H
def ye7(t:TG)(u:TGs):TGs:=λf σ H Q=>∃v r,f=v::r/\t v σ H λc H'=>u r c H' Q
def wj2:PGs X [] yn4:=by intro pins s σ H c us Q I r h;obtain⟨e,h⟩:=h;subst e;cases r;exact assignInOrder_nil ⟨σ,H,I,h⟩
def kw6{es:List CP}{t:TG}{u:TGs}(p:PG X e t)(n:PGs X es u)
  (m:(FZ (e::es) X.env).map (·.2)=QM e X.env::(FZ es X.env).map (·.2):=by rfl):PGs X (e::es) (ye7 t u):=by
 intro pins s σ H G us Q I r h;obtain⟨v,J,q,h⟩:=h;subst q;cases r with
 |cons r k=>rw[m];refine assignInOrder_cons (thn (p pins s σ H _ _ _ I r h) λ_ g f=>?_);obtain⟨c,C,z,l⟩:=f;exact n pins g c C _ _ Q z k l
def yn6(K:CJ)(n:Nat)(t:TGs):TG:=λv σ H Q=>∃a xs,v=.ref a/\SqT K H a xs/\xs.length=n/\t xs σ H Q
variable {k n:Nat}
def ww4{es:List CP}{t:TGs}(G:X.calm=true)(h:PGs X es t)
  (z:(FZ es X.env).length=n:=by rfl)(f:(FZ es X.env).findIdx? (·.1)=none:=by rfl):PG X (.Tuple es k pos) (yn6 X.K n t):=by
 intro pins s σ H v u Q I r c;obtain⟨a,xs,J,q,C,c⟩:=c;subst J;cases r;have⟨l,g,p,M⟩:=I.tuple q;refine assign_Tuple_tuple (I.ok.hd G) p (by simp[z,<-C,g.length]) f λh' m=>?_;have L:Inv X pins σ H {s with heap:=h'}:=I.kept (t':=s.toks) λb o e=>m b o (JW (HB e)) e;exact h pins _ σ H xs _ Q L (by simpa using g) c
def yn5(c f:TE)(t:iV):TG:=λv σ H Q=>c σ H λo m=>f σ m λi l=>t o i v l λg=>Q σ g
def ww3{o i:CP}{l m:TE}{t:iV}(O:PE X o l)(hi:PE X i m)(M:sE X t)
  (T:∀v,QM (.Subscript o i pos) X.env v=(do
   let c <-MN [v] (DY o X.env);let f <-MN [v,c] (DY i X.env)
   bW pos
   MN [v,c,f] (S_ c f v)
   release [v,c,f] []):=by intro _;rfl):PG X (.Subscript o i pos) (yn5 l m t):=by
 intro pins s σ H v u Q I r h;rw[T];refine BX (DK (thG (O pins s σ H _ I h) λc q x H1 Z C L=>?_));refine BX (DK (thG (hi pins q σ H1 _ Z L) λf p y H2 Y z J=>?_));refine BX (QF (BX (DK (thn (M pins p σ H2 x y v c f u _ Y C z r J) λ_ s3 g=>?_))));obtain⟨H3,U,G⟩:=g;exact wpAny_release ⟨σ,H3,U,G⟩
def q9(F:TE)(g:TG):TS:=λD σ H=>F σ H λx c=>g x σ c D.nx
variable {tg:CP}
def ww6{g:TG}(z:PE X e F)(r:PG X tg g)(p:swapsWithSole [tg] e pos.line X.env=pure false:=by rfl)(m:swappedStores [tg] e X.env=pure none:=by rfl)
  (C:(FZ [tg] X.env).map (·.2)=[QM tg X.env]:=by rfl):PS X (.Assign [tg] e pos) (q9 F g):=by
 intro pins s σ H D I h;refine wpAny_Assign_stores (thG (z pins s σ H _ I h) λv c x J G f l=>?_) p m;rw[C];exact thn (r pins c σ J x v _ G f l) λ_ L q=>q
theorem nT{x:BZ}{pos':JN}(q:X.N.Nodup)(hi:X.N[i]? = some x)(g:Loc X.env.scope x)(p:PE X e F)(l:FW e (some (.Name x pos')) pos.line X.env=pure false:=by rfl)(m:X.fn x=true\/X.env.scope.names.lookup x=some .local:=by first |exact .inl rfl |exact .inr rfl |assumption):
  PS X (.Assign [.Name x pos'] e pos) (q9 F (sZ i)):=by
 intro pins s σ H D I h;refine wpAny_Assign_Name (thG (p pins s σ H _ I h) λv J y C z c f=>?_) l;exact Xu z q hi g c (λG r=>⟨_,C,r,f⟩) m
def wz0(c:TT)(tb:TS):TS:=λD σ H=>∃W:Nat->St->Hp->Prop,(∃m,W m σ H)/\∀m σ H,W m σ H ->
 c σ H λb l=>if b=true then ∃N:St->Hp->Prop,(∀f H',N f H'->∃g,g<m/\W g f H')/\tb {D with nx:=N,ct:=N,bk:=D.nx} σ l else D.nx σ l
variable {z:List DR}
def kx0{c:CP}{q:TT}{tb:TS}(U:XM (BV X.prog X.w) X.A X.env X.xe)(hc:PT X c q)(hb:PSs X z tb):PS X (.While c z [] pos) (wz0 q tb):=by
 intro pins s σ H D I h;obtain⟨W,⟨m0,w0⟩,turn⟩:=h;refine wpAny_While (codeAny_whileLoop (λn s'=>∃m H',Inv X pins m H' s'/\W n m H') ?_ m0 ⟨σ,H,I,w0⟩);rintro n s1 ⟨l,H1,I1,w1⟩;refine HF U (thn (hc pins s1 l H1 _ I1 (turn n l H1 w1)) λb s2 G=>?_);obtain⟨H2,Z,C⟩:=G;cases b with
 |true =>
  obtain⟨N,Y,C⟩:=C;rw[if_pos rfl];refine HF U (thn (hb pins s2 l H2 _ Z C) λf s3 r=>?_);cases f with
  |next=>obtain⟨g,p,T,L⟩:=r;have⟨M,O,J⟩:=Y g p L;exact⟨M,O,g,p,T,J⟩
  |cont=>obtain⟨g,p,T,L⟩:=r;have⟨M,O,J⟩:=Y g p L;exact⟨M,O,g,p,T,J⟩
  |brk=>exact r
  |ret v=>exact r
 |false=>rw[if_neg XC];exact HH ⟨l,H2,Z,C⟩
structure It where
 go:Nat->Hp->Prop
 yld:Nat->Hp->V->Hp->Prop
 stop:Nat->Hp->Prop
def Qz(X:Cx)(pins:List (BK×GJ))(H:Hp)(b:BK):Prop:=
 H b=none/\b≠X.env.locals/\b∉X.fs/\(b∈X.ex\/X.s₀.heap.objs.size<=b)/\(∀x c,X.env.cells.lookup x=some c->c≠b)/\∀p∈X.pn++pins,p.1≠b
def Inv.fpOk{b:BK}(I:Inv X pins σ H s)(f:s.heap.objs.size<=b)(l:H' b=none):Qz X pins H' b:=by
 refine⟨l,TJ (PX I.lt f),I.nofs f,.inr (PL I.sz f),λx c e z=>?_,λp g z=>?_⟩
 ·have⟨v,q⟩:=I.cell x c e;exact absurd (PX q.lt (by rw[z];exact f)) (SN _)
 ·exact absurd (PX (HB (I.pin p g).1) (by rw[z];exact f)) (SN _)
structure Turn(P:B_)(w:CW)(K:CJ)(tg:CP)(J:It)(fp:List BK)(it:BK)(tn:Nat->CK->Prop):Prop where
 mem:it∈fp
 obj:∀i h,tn i h->∀b∈fp,∃o,h.get? b=some o/\∀v,o.data≠.cell v
 keep:∀i h h',tn i h->(∀b∈fp,∀o,h.get? b=some o->h'.get? b=some o)->tn i h'
 item:∀(X:Cx),X.prog=P->X.w=w->X.K=K->X.calm=true->∀(i:Nat)(pins:List (BK×GJ))(s:BJ)(σ:St)(H:Hp)(E:A_->BJ->Prop),Inv X pins σ H s->(∀b∈fp,Qz X pins H b)->tn i s.heap->J.go i H ->
  BP (BV P w) X.A (IW (.ref it)) (λr s1=>∃u,r=some u /\
   BP (BV P w) X.A (M_ tg (.ref it) u) (λ_ s2=>∃x H',Inv X pins σ H' s2/\RelV x u/\J.yld i H x H'/\tn (i+1) s2.heap/\∀b∈fp,H' b=none) E s1) E s
 done:∀(X:Cx),X.prog=P->X.w=w->X.K=K->X.calm=true->∀(i:Nat)(pins:List (BK×GJ))(s:BJ)(σ:St)(H:Hp)(E:A_->BJ->Prop),Inv X pins σ H s->(∀b∈fp,Qz X pins H b)->tn i s.heap->J.stop i H ->
  BP (BV P w) X.A (IW (.ref it)) (λr s1=>r=none/\Inv X pins σ H s1) E s
 self:∀(A:EY)(i:Nat)(s:BJ)(Q:A_->BJ->Prop)(E:A_->BJ->Prop),tn i s.heap->Q (.ref it) s->BP (BV P w) A (UT (.ref it)) Q E s
abbrev TI:=St->Hp->(It->Hp->Prop)->Prop
def PIE(X:Cx)(pins:List (BK×GJ))(σ:St)(tg:CP)(R:It->Hp->Prop)(c:A_)(f:BJ):Prop:=
 ∃(it:BK)(g:List BK)(tn:Nat->CK->Prop)(J:It)(H':Hp),c=.ref it/\Inv X pins σ H' f/\Turn X.prog X.w X.K tg J g it tn/\tn 0 f.heap/\(∀b∈g,Qz X pins H' b)/\R J H'
def PI(X:Cx)(tg iter:CP)(c:TI):Prop:=
 ∀(pins:List (BK×GJ))(s:BJ)(σ:St)(H:Hp)(R:It->Hp->Prop),Inv X pins σ H s->c σ H R ->
  BP (BV X.prog X.w) X.A (DY iter X.env) (λv f=>BP (BV X.prog X.w) X.A (UT v) (PIE X pins σ tg R) X.xe f) X.xe s
def m8{M:KR}{o:GJ}{n:String}{f:Array A_}{Q:Unit->BJ->Prop}(g:s.heap.get? it=some o)(p:o.cls=.type n)(m:o.data=.fields f)
  (l:["enumerate","zip","dict_itemiterator","dict_reverseitemiterator","odict_iterator","itertools.zip_longest","itertools.pairwise"].contains n=false)(c:Q () s):BP M A (M_ tg (.ref it) u) Q E s:=by
 unfold M_;cases tg<;>first
  |exact DN c
  | (cases u<;>first
    |exact DN c
    | (refine BX (aH g ?_)
       rw[p,m];show BP M A (if(["enumerate","zip","dict_itemiterator","dict_reverseitemiterator","odict_iterator","itertools.zip_longest","itertools.pairwise"].contains n && f[0]? == some (CQ _))=true then _ else _) Q E s;rw[if_neg (by intro h;rw[l,p8]at h;cases h)];exact DN c))
def Itl(K:CJ)(a:BK):It:=
 ⟨λi H=>∃xs x,SqL K H a xs/\xs[i]? = some x,λi H x H'=>H'=H/\∀xs,SqL K H a xs->xs[i]? = some x,λi H=>∃xs,SqL K H a xs/\xs.length<=i⟩
def Itt(K:CJ)(a:BK):It:=
 ⟨λi H=>∃xs x,SqT K H a xs/\xs[i]? = some x,λi H x H'=>H'=H/\∀xs,SqT K H a xs->xs[i]? = some x,λi H=>∃xs,SqT K H a xs/\xs.length<=i⟩
def Itr(lo:Int)(n:Nat):It:=⟨λi _=>i<n,λi H x H'=>H'=H/\x=.int (lo+i),λi _=>n<=i⟩
theorem kk5(a it:BK):Turn P w K tg (Itl K a) [it] it (λi h=>h.IsListIter it a i) where
 mem:=by simp
 obj:=λi h st b hb=>by
  have e:b=it:=by simpa using hb
  subst e;obtain⟨o,e,c,d⟩:=st;exact⟨o,e,λv z=>by rw[d]at z;cases z⟩
 keep:=λi h h' st k=>st.at λo e=>k it (by simp) o e
 item:=by intro X hP hw hK hc i pins s σ H E I hf st hg;subst hP hw hK;obtain⟨xs,x,hq,hx⟩:=hg;have⟨its,rv,p,hz⟩:=I.list hq;have⟨u,hu,ru⟩:=rv.get hx;have⟨f0,f1,f2,f3,f4,f5⟩:=hf it (by simp);refine wpAny_pyNext_list_item st p.isList (x:=u) (by simpa using hu) λh' st' sb=>?_;have I1:Inv X pins σ H {s with heap:=h'}:=I.turned (t':=s.toks) (λb o hb e=>(sb.2 b hb).trans e) f0 f1 f3 f4 f5;have⟨o,e,c,d⟩:=id st';exact⟨u,rfl,m8 (s:={s with heap:=h'}) e c d (by decide) ⟨x,H,I1,ru,⟨rfl,λys hy=>by rw[I.list_inj hy hq];exact hx⟩,st',λb hb=>(hf b hb).1⟩⟩
 done:=by intro X hP hw hK hc i pins s σ H E I hf st hg;subst hP hw hK;obtain⟨xs,hq,hx⟩:=hg;have⟨its,rv,p,hz⟩:=I.list hq;have⟨f0,f1,f2,f3,f4,f5⟩:=hf it (by simp);have hl:=rv.length;exact wpAny_pyNext_list_end (I.ok.hd hc) st p.isList (by simp;lia) λh' eb=>⟨rfl,I.turned (t':=s.toks) (λb o hb e=>eb b o hb e) f0 f1 f3 f4 f5⟩
 self:=λ_ _ _ _ _ st h=>wpAny_pyIter_listiter st h
theorem jv1(a it:BK):Turn P w K tg (Itt K a) [it] it (λi h=>h.IsTupleIter it a i) where
 mem:=by simp
 obj:=λi h st b hb=>by
  have e:b=it:=by simpa using hb
  subst e;obtain⟨o,e,c,d⟩:=st;exact⟨o,e,λv z=>by rw[d]at z;cases z⟩
 keep:=λi h h' st k=>st.at λo e=>k it (by simp) o e
 item:=by intro X hP hw hK hc i pins s σ H E I hf st hg;subst hP hw hK;obtain⟨xs,x,hq,hx⟩:=hg;have⟨its,rv,p,hz⟩:=I.tuple hq;have⟨u,hu,ru⟩:=rv.get hx;have⟨f0,f1,f2,f3,f4,f5⟩:=hf it (by simp);refine wpAny_pyNext_tuple_item st (show s.heap.IsTuple a its.toArray from p) (x:=u) (by simpa using hu) λh' st' sb=>?_;have I1:Inv X pins σ H {s with heap:=h'}:=I.turned (t':=s.toks) (λb o hb e=>(sb.2 b hb).trans e) f0 f1 f3 f4 f5;have⟨o,e,c,d⟩:=id st';exact⟨u,rfl,m8 (s:={s with heap:=h'}) e c d (by decide) ⟨x,H,I1,ru,⟨rfl,λys hy=>by rw[I.tuple_inj hy hq];exact hx⟩,st',λb hb=>(hf b hb).1⟩⟩
 done:=by intro X hP hw hK hc i pins s σ H E I hf st hg;subst hP hw hK;obtain⟨xs,hq,hx⟩:=hg;have⟨its,rv,p,hz⟩:=I.tuple hq;have⟨f0,f1,f2,f3,f4,f5⟩:=hf it (by simp);have hl:=rv.length;exact wpAny_pyNext_tuple_end (I.ok.hd hc) st (show s.heap.IsTuple a its.toArray from p) (by simp;lia) λh' eb=>⟨rfl,I.turned (t':=s.toks) (λb o hb e=>eb b o hb e) f0 f1 f3 f4 f5⟩
 self:=λ_ _ _ _ _ st h=>wpAny_pyIter_tupleiter st h
theorem jv0(it:BK)(lo:Int)(n:Nat):Turn P w K tg (Itr lo n) [it] it (λi h=>IsRangeIter h it (lo+(i:Nat) * 1) ((n:Int) - (i:Nat)) 1) where
 mem:=by simp
 obj:=λi h st b hb=>by
  have e:b=it:=by simpa using hb
  subst e;exact⟨_,st,λv z=>by
   have z':Data.fields _=Data.cell v:=z;cases z'⟩
 keep:=λi h h' st k=>k it (by simp) _ st
 item:=by intro X hP hw hK hc i pins s σ H E I hf st hg;subst hP hw hK;have⟨f0,f1,f2,f3,f4,f5⟩:=hf it (by simp);have W:=Walks.range (prog:=X.prog) (w:=X.w) (I.ok.hd hc) it lo 1 n;refine W.item i s _ _ hg st λv h' tk hv st' kk=>?_;obtain⟨t,rfl⟩:=hv;have I1:Inv X pins σ H {s with heap:=h',toks:=tk}:=I.turned (λb o hb e=>kk b o (by simpa using hb) e) f0 f1 f3 f4 f5;refine⟨_,rfl,m8 (s:={s with heap:=h',toks:=tk}) (n:="range_iterator") st' rfl rfl (by decide) ⟨.int (lo+i),H,I1,⟨t,?_⟩,⟨rfl,rfl⟩,st',λb hb=>(hf b hb).1⟩⟩;rw[bC]
 done:=by intro X hP hw hK hc i pins s σ H E I hf st hg;subst hP hw hK;have⟨f0,f1,f2,f3,f4,f5⟩:=hf it (by simp);exact wpAny_pyNext_range_end (I.ok.hd hc) st (by have:n<=i:=hg;lia) λh' eb=>⟨rfl,I.turned (t':=s.toks) (λb o hb e=>eb b o hb e) f0 f1 f3 f4 f5⟩
 self:=λ_ _ _ _ _ st h=>wpAny_pyIter_rangeiter st h
variable {fp:List BK}
section
variable {tg:CP}
theorem zV{R:It->Hp->Prop}{lo hi:Int}{t u v:Tok}{tk:Nat}(I:Inv X pins σ H s)(p:-(2 ^ 62)<=lo)(m:lo<2 ^ 62)(l:-(2 ^ 62)<=hi)(g:hi<2 ^ 62)
  (q:R (Itr lo (hi - lo).toNat) H):BP (BV X.prog X.w) X.A (UT (.ref s.heap.objs.size)) (PIE X pins σ tg R) E {s with heap:=s.heap.push {cls:=.type "range",data:=.fields #[.int lo t,.int hi u,.int 1 v] },toks:=tk}:=by
 refine wpAny_pyIter_range (IsRange.new ..) (cQ p m l g) ?_;have c:Inv X pins σ H {s with heap:=s.heap.push {cls:=.type "range",data:=.fields #[.int lo t,.int hi u,.int 1 v] },toks:=tk}:=I.kept λb o e=>JH _ e;refine⟨(s.heap.push {cls:=.type "range",data:=.fields #[.int lo t,.int hi u,.int 1 v] }).objs.size,[(s.heap.push {cls:=.type "range",data:=.fields #[.int lo t,.int hi u,.int 1 v] }).objs.size],_,_,H,rfl,
  c.kept (t':=tk) λb o e=>JH _ e,jv0 _ lo (hi - lo).toNat,?_,λb f=>?_,q⟩
 ·have C:lo+((0:Nat):Int) * 1=lo:=by simp
  have r:(((hi - lo).toNat:Nat):Int) - ((0:Nat):Int)=Builtin.Range.rangeSize lo hi 1:=by rw[rangeSize_one];split<;>lia
  show IsRangeIter _ _ (lo+((0:Nat):Int) * 1) ((((hi - lo).toNat:Nat):Int) - ((0:Nat):Int)) 1;rw[C,r];exact KD _ rfl
 ·have e:b=(s.heap.push {cls:=.type "range",data:=.fields #[.int lo t,.int hi u,.int 1 v] }).objs.size:=by simpa using f
  subst e;exact c.fpOk (F_ _) (c.hok.fresh (F_ _))
def yf1(B:TA):TI:=λσ H R=>B σ H λc f=>∃j:Int,c=[.int j]/\-(2 ^ 62)<=j/\j<2 ^ 62/\R (Itr 0 j.toNat) f
def yf2(B:TA):TI:=λσ H R=>B σ H λc f=>∃i j:Int,c=[.int i,.int j]/\(-(2 ^ 62)<=i/\i<2 ^ 62/\-(2 ^ 62)<=j/\j<2 ^ 62)/\R (Itr i (j - i).toNat) f
theorem ki8{a:CP}{B:TA}{p:JN}(G:Gl X "range")(C:X.mg "range" = none)(J:PA X [a] B)(m:BR [a] X.env=[(false,DY a X.env)]:=by rfl):PI X tg (.Call (.Name "range" p) [a] [] pos) (yf1 B):=by
 intro pins s σ H R I h;refine Call_ (Qo I G C VL (PyProof.Rows.callWith_type1 (thG (J pos pins s σ H _ I h) λus O M T L g c=>?_) m rfl));obtain⟨j,e,c,l,q⟩:=c;subst e;cases g with
 |cons r f=>cases f;obtain⟨t,rfl⟩:=r;exact call_range_1 (zV L (by lia) (by lia) c l (by simpa using q))
def ki9{a:CP}{B:TA}{p:JN}(O:Gl X "range")(M:X.mg "range" = none)(T:PA X [a,b] B)(L:BR [a,b] X.env=[(false,DY a X.env),(false,DY b X.env)]:=by rfl)(c:BR [b] X.env=[(false,DY b X.env)]:=by rfl):
  PI X tg (.Call (.Name "range" p) [a,b] [] pos) (yf2 B):=by
 intro pins s σ H R I h;refine Call_ (Qo I O M VL (PyProof.Rows.callWith_type1 (thG (T pos pins s σ H _ I h) λus Z Y H1 U l g=>?_) (by rw[L,c]) (by rw[c];rfl)));obtain⟨i,j,e,⟨g,J,G,C⟩,q⟩:=g;subst e;cases l with
 |cons r f =>
  cases f with
  |cons m f=>cases f;obtain⟨t,rfl⟩:=r;obtain⟨t',rfl⟩:=m;exact call_range_2 (zV U g J G C q)
def yq6(p:TI)(g:TG)(tb:TS):TS:=λD σ H=>p σ H λJ r=>∃W:Nat->Nat->St->Hp->Prop,(∃m,W 0 m σ r)/\∀i m σ H,W i m σ H ->
 (J.stop i H/\D.nx σ H)\/(J.go i H/\∃N:St->Hp->Prop,(∀c H',N c H'->∃l,l<m/\W (i+1) l c H')/\∀x H',J.yld i H x H'->g x σ H' λf q=>tb {D with nx:=N,ct:=N,bk:=D.nx} f q)
def W5(fp:List BK)(h:CK):List (BK×GJ):=fp.filterMap λb=>(h.get? b).map λo=>(b,o)
def Lx{b:BK}{o:GJ}(c:b∈fp)(e:h.get? b=some o):(b,o)∈W5 fp h:=jHm.mpr ⟨b,c,by rw[e];rfl⟩
def ki6{p:BK×GJ}(c:p∈W5 fp h):p.1∈fp/\h.get? p.1=some p.2:=by
 have⟨b,f,e⟩:=jHm.mp c;cases q:h.get? b with
 |none=>rw[q]at e;cases e
 |some o=>rw[q]at e;have g:(b,o)=p:=Option.some.inj e;subst g;exact⟨f,q⟩
def Inv.pinned(I:Inv X pins σ H s)(m:∀b∈fp,Qz X pins H b)(l:∀b∈fp,∃o,s.heap.get? b=some o/\∀v,o.data≠.cell v):Inv X (pins++W5 fp s.heap) σ H s:=
 I.pins_of λp g=>(KC.mp g).elim (λz=>I.pin p (TV _ z)) λz=>by have⟨c,e⟩:=ki6 z;have⟨C,r,q,_⟩:=m p.1 c;have⟨o,f,d⟩:=l p.1 c;rw[e]at f;cases f;exact⟨e,C,r,q,d⟩
def Inv.unpinned{pl:List (BK×GJ)}(I:Inv X (pins++pl) σ H s):Inv X pins σ H s:=I.pins_of λp c=>I.pin p (TV _ (ZJ _ c))
def nn0{p:Prop}(h:(p->False)->False):p:=U_ h
inductive LpI(X:Cx)(pins:List (BK×GJ))(tn:Nat->CK->Prop)(fp:List BK)(W:Nat->Nat->St->Hp->Prop)(n:Nat)(s:BJ):Prop
 |mk (i:Nat) (σ:St) (H:Hp) (I:Inv X pins σ H s) (st:tn i s.heap) (fr:∀b∈fp,H b=none) (w:W i n σ H):LpI X pins tn fp W n s
def ww7{iter:CP}{wi:TI}{g:TG}{tb:TS}(hp:XM (BV X.prog X.w) X.A X.env X.xe)(hc:X.calm=true)(hi:PI X tg iter wi)(hg:PG X tg g)(C:PSs X z tb)
  (hs:∀x,FN iter X.env x=pure x:=by intro _;rfl):PS X (.For tg iter z [] pos) (yq6 wi g tb):=by
 intro pins s σ H D I h;refine wpAny_For (thn (hi pins s σ H _ I h) λv s1 h1=>thn h1 λaf s2 h2=>?_) hs;refine nn0 λM=>?_;obtain⟨it,fp,tn,J,H2,e,I2,T,Z,f2,W,⟨m0,w0⟩,turn⟩:=h2;subst e;refine M (codeAny_forLoop_any (LpI X pins tn fp W) ?_ m0 (.mk 0 σ H2 I2 Z (λb C=>(f2 b C).1) w0));clear M;have p:∀{H':Hp},(∀b∈fp,H' b=none)->∀b∈fp,Qz X pins H' b:=λhn b C=>⟨hn b C,(f2 b C).2⟩;clear f2 I2 Z w0 h;intro n s3 q;refine nn0 λM=>?_;obtain⟨i,l,H3,I3,Y,aa,w3⟩:=q;rcases turn i n l H3 w3 with ⟨stop,qn⟩ | ⟨go,N,hN,step⟩
 ·refine M (HF hp (thn (T.done X rfl rfl rfl hc i pins s3 l H3 X.xe I3 (p aa) Y stop) λr s4 q=>?_));obtain⟨rfl,I4⟩:=q;exact HH ⟨l,H3,I4,qn⟩
 ·refine M (HF hp (thn (T.item X rfl rfl rfl hc i pins s3 l H3 X.xe I3 (p aa) Y go) λr s4 q=>?_));clear M;obtain⟨u,rfl,h4⟩:=q;refine HF hp (thn h4 λ_ s5 q=>?_);refine nn0 λM=>?_;obtain⟨x,H5,I5,r5,y5,U,ae⟩:=q;refine M (HF hp (thn (hg _ s5 l H5 x u _ (I5.pinned (p ae) (T.obj _ _ U)) r5 (step x H5 y5)) λ_ s6 q=>?_));clear M;obtain⟨ab,H6,I6,q6⟩:=q;refine HF hp (thn (C _ s6 ab H6 _ I6 q6) λf s7 O=>?_);clear I6 q6 I5 y5 step w3 I3 go;have again:∀{c:St}{L:Hp},Inv X (pins++W5 fp s5.heap) c L s7->N c L->∃m,m<n/\LpI X pins tn fp W m s7:=λ{c L} G n7=>by have⟨m',hm,w7⟩:=hN c L n7;refine⟨m',hm,.mk (i+1) c L G.unpinned (T.keep _ _ _ U λb C o e=>(G.pin (b,o) (TV _ (TV _ (Lx C e)))).1) (λb C=>?_) w7⟩;have⟨o,e,d⟩:=T.obj _ _ U b C;exact(G.pin (b,o) (TV _ (TV _ (Lx C e)))).2.1
  cases f with
  |next=>obtain⟨c,L,G,n7⟩:=O;exact again G n7
  |cont=>obtain⟨c,L,G,n7⟩:=O;exact again G n7
  |brk=>obtain⟨c,L,G,O⟩:=O;exact⟨c,L,G.unpinned,O⟩
  |ret v=>obtain⟨x7,c,L,G,r7,O⟩:=O;exact⟨x7,c,L,G.unpinned,r7,O⟩
end
abbrev R2:=V->V->Hp->VK->Prop
def OpR(X:Cx)(f:A_->A_->Sem A_)(r:R2):Prop:=
 ∀(pins:List (BK×GJ))(s:BJ)(σ:St)(H:Hp)(x y:V)(v u:A_)(Q:VK),Inv X pins σ H s->RelV x v->RelV y u->r x y H Q ->
  BP (BV X.prog X.w) X.A (f v u) (EP X pins σ Q) X.xe s
def UnR(X:Cx)(f:A_->Sem A_)(r:V->Hp->VK->Prop):Prop:=
 ∀(pins:List (BK×GJ))(s:BJ)(σ:St)(H:Hp)(x:V)(v:A_)(Q:VK),Inv X pins σ H s->RelV x v->r x H Q ->
  BP (BV X.prog X.w) X.A (f v) (EP X pins σ Q) X.xe s
def Eb(X:Cx)(f:A_)(r:List V->Hp->VK->Prop):Prop:=
 ∀(pins:List (BK×GJ))(s:BJ)(σ:St)(H:Hp)(xs:List V)(us:List A_)(Q:VK),Inv X pins σ H s->Vals xs us->r xs H Q ->
  BP (BV X.prog X.w) X.A (call f us) (EP X pins σ Q) X.xe s
def yl2(X:Cx)(r:V->Hp->(Bool->Hp->Prop)->Prop):Prop:=
 ∀(pins:List (BK×GJ))(s:BJ)(σ:St)(H:Hp)(x:V)(v:A_)(Q:Bool->Hp->Prop),Inv X pins σ H s->RelV x v->r x H Q ->
  BP (BV X.prog X.w) X.A (truthy v) (TP X pins σ Q) X.xe s
def tOp(r:R2)(B tb:TE):TE:=λσ H Q=>B σ H λx f=>tb σ f λy c=>r x y c Q
def tUn(r:V->Hp->VK->Prop)(B:TE):TE:=λσ H Q=>B σ H λx c=>r x c Q
def rI(C:Int->Int->Prop)(g:Int->Int->V):R2:=λx y H Q=>∃i j,x=.int i/\y=.int j/\C i j/\Q (g i j) H
def rI0(g:Int->Int->V):R2:=λx y H Q=>∃i j,x=.int i/\y=.int j/\Q (g i j) H
def rU(g:Int->V):V->Hp->VK->Prop:=λx H Q=>∃i,x=.int i/\Q (g i) H
variable {c:CP}{q:TE}
variable {g:Int->Int->Int}{r:R2}
section
variable {a:CP}{tb:TE}
def mQ(Z:PE X a B)(Y:PE X b tb){R:V->V->Hp->Prop}(I:Inv X pins σ H s)
  (h:B σ H λx G=>tb σ G λy l=>R x y l){f:A_->A_->Sem A_}
  (U:∀v u C x y l,Inv X pins σ l C->RelV x v->RelV y u->R x y l->BP (BV X.prog X.w) X.A (f v u) Q X.xe C):
  BP (BV X.prog X.w) X.A (DY a X.env) (λv p=>BP (BV X.prog X.w) X.A (DY b X.env) (λu m=>BP (BV X.prog X.w) X.A (f v u) Q X.xe m) X.xe p) X.xe s:=by
 refine thG (Z pins s σ H _ I h) λv J x G I1 M T=>?_;refine thG (Y pins J σ G _ I1 T) λu C y l I2 L O=>?_;exact U v u C x y l I2 M L O
def sU{f:Operator}(C:OpR X (E_ f) r)(J:PE X a B)(G:PE X b tb):PE X (.BinOp a f b pos) (tOp r B tb):=by intro pins s σ H Q I h;exact wpAny_BinOp (mQ J G I h λv u l x y M L p m q=>C pins l σ M x y v u Q L p m q)
def yh7{f:UnaryOp}{r:V->Hp->VK->Prop}(C:UnR X (bV f) r)(G:PE X a B):PE X (.UnaryOp f a pos) (tUn r B):=by intro pins s σ H Q I h;exact UnaryOp_ (thG (G pins s σ H _ I h) λv l x L J m p=>C pins l σ L x v Q J m p)
def opI{f:A_->A_->Sem A_}{C:Int->Int->Prop}
  (rule:∀(i j:Int)(t u:Tok)(s:BJ)(Q:A_->BJ->Prop)(E:A_->BJ->Prop),C i j->Q (.int (g i j) s.toks) {s with toks:=s.toks+1}->BP (BV X.prog X.w) X.A (f (.int i t) (.int j u)) Q E s):
  OpR X f (rI C λi j=>.int (g i j)):=by
 intro pins s σ H x y v u Q I m l h;obtain⟨i,j,rfl,rfl,p,q⟩:=h;obtain⟨t,rfl⟩:=m;obtain⟨t',rfl⟩:=l;exact rule i j t t' s _ _ p ⟨.int (g i j),H,I.tok _,⟨_,rfl⟩,q⟩
def q_{f:A_->A_->Sem A_}
  (rule:∀(i j:Int)(t u:Tok)(s:BJ)(Q:A_->BJ->Prop)(E:A_->BJ->Prop),Q (.int (g i j) s.toks) {s with toks:=s.toks+1}->BP (BV X.prog X.w) X.A (f (.int i t) (.int j u)) Q E s):
  OpR X f (rI0 λi j=>.int (g i j)):=by
 intro pins s σ H x y v u Q I m l h;obtain⟨i,j,rfl,rfl,q⟩:=h;obtain⟨t,rfl⟩:=m;obtain⟨t',rfl⟩:=l;exact rule i j t t' s _ _ ⟨.int (g i j),H,I.tok _,⟨_,rfl⟩,q⟩
def iK{f:A_->A_->Sem A_}{g:Int->Int->Bool}
  (rule:∀(i j:Int)(t u:Tok)(s:BJ)(Q:A_->BJ->Prop)(E:A_->BJ->Prop),Q (.bool (g i j)) s->BP (BV X.prog X.w) X.A (f (.int i t) (.int j u)) Q E s):
  OpR X f (rI0 λi j=>.bl (g i j)):=by
 intro pins s σ H x y v u Q I m l h;obtain⟨i,j,rfl,rfl,q⟩:=h;obtain⟨t,rfl⟩:=m;obtain⟨t',rfl⟩:=l;exact rule i j t t' s _ _ ⟨.bl (g i j),H,I,rfl,q⟩
def yl0(i j:Int):Prop:=0<=j/\j<=1000000/\i.natAbs<2 ^ 64
def wu8:OpR X (E_ .Add) (rI0 λi j=>.int (i+j)):=q_ λ_ _ _ _ _ _ _ q=>add_int q
def wv3:OpR X (E_ .Sub) (rI0 λi j=>.int (i - j)):=q_ λ_ _ _ _ _ _ _ q=>sub_int q
theorem wv0:OpR X (E_ .Mod) (rI (λ_ j=>0<j) λi j=>.int (i % j)):=opI λi j _ _ _ _ _ f q=>by have l:(0:Int)<j:=f;exact mod_int' (by lia) (by rw[Int.fmod_eq_emod_of_nonneg i (by lia)];exact q)
def wv1:OpR X (E_ .Pow) (rI yl0 λi j=>.int (i ^ j.toNat)):=opI λ_ _ _ _ _ _ _ f q=>pow_int_small f.1 f.2.1 f.2.2 q
def unI{f:A_->Sem A_}{g:Int->Int}
  (rule:∀(i:Int)(t:Tok)(s:BJ)(Q:A_->BJ->Prop)(E:A_->BJ->Prop),Q (.int (g i) s.toks) {s with toks:=s.toks+1}->BP (BV X.prog X.w) X.A (f (.int i t)) Q E s):
  UnR X f (rU λi=>.int (g i)):=by
 intro pins s σ H x v Q I l h;obtain⟨i,rfl,q⟩:=h;obtain⟨t,rfl⟩:=l;exact rule i t s _ _ ⟨.int (g i),H,I.tok _,⟨_,rfl⟩,q⟩
def ya0:UnR X (bV .USub) (rU λi=>.int (-i)):=unI λ_ _ _ _ _ q=>neg_int q
end
section
variable {a:CP}{tb:TE}
def uQ{Q:VK}{k f:Bool}(I:Inv X pins σ H s)(q:Q (.bl k) H)(e:k=f):EP X pins σ Q (.bool f) s:=by subst e;exact⟨.bl k,H,I,rfl,q⟩
def yh2:OpR X (DG .Lt) (rI0 λi j=>.bl (decide (i<j))):=iK λ_ _ _ _ _ _ _ q=>lt_int q
def yh1:OpR X (DG .LtE) (rI0 λi j=>.bl (decide (i<=j))):=iK λ_ _ _ _ _ _ _ q=>le_int q
def yh0:OpR X (DG .Gt) (rI0 λi j=>.bl (decide (j<i))):=iK λ_ _ _ _ _ _ _ q=>gt_int q
def yg9:OpR X (DG .GtE) (rI0 λi j=>.bl (decide (j<=i))):=iK λ_ _ _ _ _ _ _ q=>ge_int q
def wu9:OpR X (DG .Is) (λx y H Q=>y=.non/\Q (.bl (decide (x=.non))) H):=by
 intro pins s σ H x y v u Q I f l h;obtain⟨rfl,q⟩:=h;cases l;refine is_none_gen (uQ I q ?_);cases x<;>first
  | (cases f;rfl)
  | (obtain⟨t,rfl⟩:=f;rfl)
def wi6:OpR X (DG .IsNot) (λx y H Q=>y=.non/\Q (.bl (!decide (x=.non))) H):=by
 intro pins s σ H x y v u Q I f l h;obtain⟨rfl,q⟩:=h;cases l;refine isnot_none_gen (uQ I q ?_);cases x<;>first
  | (cases f;rfl)
  | (obtain⟨t,rfl⟩:=f;rfl)
def Oa(b:CP){f:XN}(h:f≠.In:=by decide)(l:f≠.NotIn:=by decide):HQ f b=false:=by
 have p:(f == CmpOp.In)=false:=by cases f<;>first |rfl |exact absurd rfl h
 have m:(f == CmpOp.NotIn)=false:=by cases f<;>first |rfl |exact absurd rfl l
 cases b<;>simp[HQ,p,m]
def wi7{f:XN}(C:OpR X (DG f) r)(L:PE X a B)(J:PE X b tb)(G:HQ f b=false):PE X (.Compare a [f] [b] pos) (tOp r B tb):=by intro pins s σ H Q I h;exact wpAny_Compare1 (mQ L J I h λv u l x y O M p m q=>C pins l σ O x y v u Q M p m q) G
def sH(t:TE):TT:=λσ H Q=>t σ H λx H'=>∃k,x=.bl k/\Q k H'
def wj9{f:XN}(O:OpR X (DG f) r)(Y:PE X a B)(U:PE X b tb)(T:HQ f b=false):PT X (.Compare a [f] [b] pos) (sH (tOp r B tb)):=by
 intro pins s σ H Q I h;refine wpAny_isTrue_Compare1 (thG (Y pins s σ H _ I h) λv m x H1 I1 G M=>thn (U pins m σ H1 _ I1 M) λu l ⟨y,H2,I2,C,L⟩ =>
  thn (O pins l σ H2 x y v u _ I2 G C L) λc s3 ⟨z,H3,Z,p,k,e,J⟩=>?_) T
 subst e;cases p;exact FJ ⟨H3,Z,J⟩
def t7(r m:R2)(B tb q:TE):TE:=λσ H Q=>B σ H λx G=>tb σ G λy C=>r x y C λz f=>∃k,z=.bl k /\
 (if k=true then q σ f λl p=>m y l p Q else Q (.bl false) f)
def kx2{m l:XN}{G:R2}(ho:OpR X (DG m) r)(p:OpR X (DG l) G)(ha:PE X a B)(hb:PE X b tb)(hc:PE X c q)
  (hm:lastMarks [m,l] [b,c]=false:=by with_unfolding_all rfl):PT X (.Compare a [m,l] [b,c] pos) (sH (t7 r G B tb q)):=by
 intro pins s σ H Q I h;refine isTrue_chain (thG (ha pins s σ H _ I h) λv s1 x H1 I1 r1 q1=>test_link (thn (hb pins s1 σ H1 _ I1 q1) λu Z ⟨y,H2,I2,C,q2⟩ =>
  thn (ho pins Z σ H2 x y v u _ I2 r1 C q2) λd Y ⟨z,M,L,r3,k,e,J⟩=>?_)) hm
 subst e;cases r3;refine FJ ?_;cases k with
 |false=>obtain⟨k',e',q'⟩:=J;cases e';exact ite_ff ⟨M,L,q'⟩
 |true=>refine ite_tt (test_last (thG (hc pins Y σ M _ L J) λT U O H4 I4 r4 q4=>thG (p pins U σ H4 y O u T _ I4 C r4 q4) λd' s5 z2 H5 I5 r5 f=>?_));obtain⟨k2,e2,q5⟩:=f;subst e2;cases r5;exact FJ ⟨H5,I5,q5⟩
def rZ(K:CJ)(x:V)(H:Hp)(k:Bool):Prop:=
 match x with
 | .non=>k=false
 | .bl b=>k=b
 | .int i=>k=(i != 0)
 | .str y=>y.length<=sizeLine/\k=((y.length:Int) != 0)
 | .byt y=>y.size<=sizeLine/\k=((y.size:Int) != 0)
 | .ref p=>(∃xs,SqL K H p xs/\k = !xs.isEmpty)\/(∃xs,SqT K H p xs/\k = !xs.isEmpty)\/∃f,H p=some (.dK f)/\k = !f.isEmpty
 |_=>False
def js0{l:Type}{f:List (l×V)}{m:List (l×A_)}(r:KV f m):(!m.isEmpty) = !f.isEmpty:=by cases r<;>rfl
def Wo{its:List A_}(r:Vals xs its):(!its.toArray.isEmpty) = !xs.isEmpty:=by cases r<;>simp
def Ti:(sizeLine:Nat)<2 ^ 63:=by rw[CV];decide
theorem wz4:yl2 X (λx H Q=>∃k,rZ X.K x H k/\Q k H):=by
 intro pins s σ H x v Q I G h;obtain⟨k,e,q⟩:=h;have Z:=Ti;have Y:sizeLine=16777216:=CV;cases x with
 |non=>cases G;have f:k=false:=e;subst f;exact truthy_none ⟨H,I,q⟩
 |bl b=>cases G;have f:k=b:=e;subst f;exact FJ ⟨H,I,q⟩
 |int i=>obtain⟨t,rfl⟩:=G;have f:k=(i != 0):=e;subst f;exact PySem.P.truthy_int ⟨H,I,q⟩
 |str y=>obtain⟨t,rfl⟩:=G;obtain⟨T,f⟩:y.length<=sizeLine/\k=((y.length:Int) != 0):=e;subst f;exact PySem.P.truthy_str (by lia) ⟨H,I.tok _,q⟩
 |byt y=>obtain⟨t,rfl⟩:=G;obtain⟨T,f⟩:y.size<=sizeLine/\k=((y.size:Int) != 0):=e;subst f;exact W.truthy_bytes (by lia) ⟨H,I.tok _,q⟩
 |ref p =>
  cases G;have f:(∃xs,SqL X.K H p xs/\k = !xs.isEmpty)\/(∃xs,SqT X.K H p xs/\k = !xs.isEmpty)\/∃l,H p=some (.dK l)/\k = !l.isEmpty:=e;rcases f with ⟨xs,J,f⟩ | ⟨xs,J,f⟩ | ⟨l,J,f⟩
  ·subst f;have⟨M,r,pl,O⟩:=I.list J;have C:=r.length;exact wpAny_truthy_list pl.isList (by simp only[JZ];lia) ⟨H,I.tok _,by rw[Wo r];exact q⟩
  ·subst f;have⟨M,r,pl,O⟩:=I.tuple J;have C:=r.length;exact truthy_tuple pl (by simp only[JZ];lia) ⟨H,I.tok _,by rw[Wo r];exact q⟩
  ·subst f;obtain⟨O,U,L,r,m⟩:l.length<=sizeLine/\(p == GX)=false/\∃L,KV l L/\s.heap.DictOf (Dc X.prog X.w) p L:=I.hok p _ J;have C:l.length=L.length:=Paired.length r;exact wpAny_truthy_dict U m (by lia) ⟨H,I.tok _,by rw[js0 r];exact q⟩
 |_=>exact(show False from e).elim
def kx3(C:PE X a B)(p:∀whole,YC a X.env whole=(do let v <-whole;bW a.pos;MN [v] (truthy v))):
  PT X a (λσ H Q=>B σ H λx H'=>∃k,rZ X.K x H' k/\Q k H'):=by
 intro pins s σ H Q I h;exact isTrue_plain (thG (C pins s σ H _ I h) λv f x J G l m=>wz4 pins f σ J x v Q G l m) (p _)
def jt6:OpR X (E_ .Add) (λx y H Q=>∃i j,x=.str i/\y=.str j/\i.length+j.length<=sizeLine/\Q (.str (i++j)) H):=by intro pins s σ H x y v u Q I l f h;obtain⟨i,j,rfl,rfl,m,q⟩:=h;obtain⟨t,rfl⟩:=l;obtain⟨t',rfl⟩:=f;exact add_str (λt' p=>⟨.str (i++j),H,I.tok _,⟨_,rfl⟩,q⟩) m
def vals1{x:V}(r:Vals [x] us):∃u,us=[u]/\RelV x u:=by
 cases r with
 |cons l f=>cases f;exact⟨_,rfl,l⟩
def vals2{x:V}(r:Vals [x,y] us):∃u f,us=[u,f]/\RelV x u/\RelV y f:=by
 cases r with
 |cons C p =>
  cases p with
  |cons m l=>cases l;exact⟨_,_,rfl,C,m⟩
def kf0(l:X.calm=true):Eb X (.builtin "max") (λxs H Q=>∃i j,xs=[.int i,.int j]/\Q (.int (if j>i then j else i)) H):=by
 intro pins s σ H xs us Q I r h;obtain⟨i,j,rfl,q⟩:=h;obtain⟨u,m,rfl,⟨t,rfl⟩,⟨t',rfl⟩⟩:=vals2 r;refine max_two_ints (I.ok.hd l) λh' p k=>⟨_,H,I.kept k,?_,q⟩;by_cases f:j>i
 ·rw[if_pos f,if_pos f];exact⟨_,rfl⟩
 ·rw[if_neg f,if_neg f];exact⟨_,rfl⟩
def kf2(l:X.calm=true):Eb X (.builtin "min") (λxs H Q=>∃i j,xs=[.int i,.int j]/\Q (.int (if j<i then j else i)) H):=by
 intro pins s σ H xs us Q I r h;obtain⟨i,j,rfl,q⟩:=h;obtain⟨u,m,rfl,⟨t,rfl⟩,⟨t',rfl⟩⟩:=vals2 r;refine min_two_ints (I.ok.hd l) λh' p k=>⟨_,H,I.kept k,?_,q⟩;by_cases f:j<i
 ·rw[if_pos f,if_pos f];exact⟨_,rfl⟩
 ·rw[if_neg f,if_neg f];exact⟨_,rfl⟩
end
structure Hx(k:Nat)(A:EY):Prop where
 hd:A.handled=none
 dp:A.depth+3 * k+5<jB
 un:A.units+16 * k+200<I_
 gd:A.guards=some []
theorem Hx.mono(r:Hx k A)(h:j<=k):Hx j A:=⟨r.hd,by have:=r.dp;lia,by have:=r.un;lia,r.gd⟩
theorem Hx.deeper(r:Hx (k+1) A)(env:KH):Hx k (A.deeper env):=
 ⟨r.hd,by have:=r.dp;show A.depth+1+3 * k+5<_;lia,by have:=r.un;show A.units+3+16 * k+200<_;lia,r.gd⟩
theorem Hx.depth(r:Hx k A):A.depth<jB:=by have:=r.dp;lia
def qZ:TA:=λ_ H Q=>Q [] H
def sI(B:TE)(tr:TA):TA:=λσ H Q=>B σ H λx l=>tr σ l λxs f=>Q (x::xs) f
variable {es:List CP}
section
variable {t:TA}
def Hs:PA X [] qZ:=λ_ _ _ _ H Q I h=>Calls.spliced_nil ⟨[],H,I,.nil,h⟩
def Dt(L:PE X e F)(J:PA X es t)(G:Zs X.env e es:=by rfl):PA X (e::es) (sI F t):=by intro pos pins s σ H Q I h;rw[G];show BP _ _ (spliced ((false,DY e X.env)::PB pos (BR es X.env))) _ _ s;refine Calls.spliced_cons (thG (L pins s σ H _ I h) λu f x U O m C=>?_);exact thG (J pos pins f σ U _ O C) λus Y xs T M l p=>⟨x::xs,T,M,.cons m l,p⟩
def yr2(t:TA):TE:=λσ H Q=>t σ H λxs f=>xs.length<=sizeLine/\∀p,f p=none->Q (.ref p) (upd f p (.tup xs))
def yq8(t:TA):TE:=λσ H Q=>t σ H λxs f=>xs.length<=sizeLine/\∀p,f p=none->Q (.ref p) (upd f p (.lst xs))
def jR{x1}(h:PA X es t):PE X (.Tuple es x1 pos) (yr2 t):=by intro pins s σ H Q I p;refine wpAny_Tuple_spliced (thn (h pos pins s σ H _ I p) λus f ⟨xs,m,l,r,z,q⟩=>⟨by rw[<-r.length];exact z,?_⟩);have C:m f.heap.objs.size=none:=l.hok.fresh (F_ _);refine⟨.ref f.heap.objs.size,upd m f.heap.objs.size (.tup xs),l.laid (t':=f.toks) (λb u e=>JH _ e) (F_ _) ?_,rfl,q _ C⟩;exact⟨z,us,r,⟨_,KD _ rfl,rfl,_,rfl⟩⟩
def wv7(h:PA X es t):PE X (.List es pos) (yq8 t):=by intro pins s σ H Q I p;refine wpAny_List_spliced (thn (h pos pins s σ H _ I p) λus f ⟨xs,m,l,r,z,q⟩=>⟨by rw[<-r.length];exact z,?_⟩);have C:m f.heap.objs.size=none:=l.hok.fresh (F_ _);refine⟨.ref f.heap.objs.size,upd m f.heap.objs.size (.lst xs),l.laid (t':=f.toks) (λb u e=>JH _ e) (F_ _) ?_,rfl,q _ C⟩;exact⟨z,us,0,r,KD _ rfl⟩
end
abbrev Sp:=List V->Hp->VK->XK->Prop
abbrev CXT:=List KH->Hp->BJ->XK->A_->BJ->Prop
structure iZ(P:B_)(w:CW)(K:CJ)(mg:BZ->Option A_)(base:CK)(A:EY)(outer:List KH)(s:BJ)(H:Hp):Prop where
 frames:A.frames=some outer
 mod:Mod K mg base
 bs:∀b o,base.get? b=some o->s.heap.get? b=some o/\H b=none
 bsz:base.objs.size<=s.heap.objs.size
 funs:s.heap.FunFrames base outer
 frf:∀b∈frs outer,H b=none
 hok:HOk P w H s.heap
 bare:KZ s.gens
def CE(outer:List KH)(P:B_)(w:CW)(H:Hp)(s:BJ)(Q:VK)(u:A_)(s':BJ):Prop:=
 ∃v H',s'.os=s.os/\KZ s'.gens/\Un (frs outer) [] H H' s.heap s'.heap/\HOk P w H' s'.heap/\RelV v u/\Q v H'
def CR(CX:CXT)(outer:List KH)(P:B_)(w:CW)(H:Hp)(s:BJ)(Q:VK)(E:XK)(r:lW)(s':BJ):Prop:=
 match r with
 | .ok (.ret u)=>CE outer P w H s Q u s'
 | .ok _=>False
 | .error e=>CX outer H s E e s'
structure Hl(P:B_)(w:CW)(K:CJ)(mg:BZ->Option A_)(base:CK)(CX:CXT)(k:Nat)(f:BK)(fd:DX)(ps:List BZ)(sp:Sp):Prop where
 len:∀vs H Q E,sp vs H Q E->vs.length=ps.length
 run:∀(A:EY)(outer:List KH)(s:BJ)(H:Hp)(args:Args)(us:List A_)(vs:List V)(Q:VK)(E:XK),Hx k A->iZ P w K mg base A outer s H->T_ s fd args (ps.zip us)->Vals vs us->sp vs H Q E ->
  KN (BV P w) A (.call (.ref f) args) (CR CX outer P w H s Q E) s
section
variable {s':BJ}
def Inv.env0(I:Inv X pins σ H s):iZ X.prog X.w X.K X.mg X.base X.A X.stack s H:=
 ⟨I.ok.frames,I.ok.mod,I.bs,PL I.ok.bsz I.sz,I.stack,I.stkFree,I.hok,I.bare⟩
def Inv.after{Q:VK}(I:Inv X pins σ H s)(h:CE X.stack X.prog X.w H s Q u s'):EP X pins σ Q u s':=by obtain⟨v,H',m,bare,un,l,r,q⟩:=h;obtain⟨p,g,d,t,f⟩:=s';obtain rfl:f=s.os:=m;exact⟨v,H',I.call (h':=p) (g':=g) (d':=d) (t':=t) (ch:=[]) un l bare (λb z=>absurd z (by simp)),r,q⟩
end
def yj1(sp:Sp)(f:List V)(E:XK)(t:TA):TE:=λσ H Q=>t σ H λl m=>sp (l++f) m Q E
def Binds(K:CJ)(f:DX)(ps:List BZ)(ds:List A_):Prop:=
 ∀(s:BJ)(us:List A_),K.In s.heap->(us++ds).length=ps.length->T_ s f ⟨us,[]⟩ (ps.zip (us++ds))
def Binds.all{l:DX}{ps:List BZ}(h:∀us:List A_,us.length=ps.length->VM l ⟨us,[]⟩=pure (ps.zip us)):Binds K l ps []:=λs us _ f=>by rw[YK]at f ⊢;exact .of_eq (h us f)
def Passes(CX:CXT)(X:Cx)(E:XK):Prop:=∀(pins:List (BK×GJ))(σ:St)(H:Hp)(s:BJ)(e:A_)(s':BJ),Inv X pins σ H s->CX X.stack H s E e s'->X.xe e s'
variable {p:JN}
variable {vs:List V}
section
variable {CX:CXT}{k:Nat}{f C:BK}{fd:DX}{ps:List BZ}{sp:Sp}{l:List V}{ds:List A_}{E:XK}{x m:BZ}{apos:JN}{o:CP}{t:TA}
def wx7{Q:VK}(F:Hl X.prog X.w X.K X.mg X.base CX k f fd ps sp)(M:Hx k X.A)(U:Binds X.K fd ps ds)(T:Vals l ds)(L:Passes CX X E)
  (I:Inv X pins σ H s)(r:Vals vs us)(h:sp (vs++l) H Q E):BP (BV X.prog X.w) X.A (call (.ref f) us) (EP X pins σ Q) X.xe s:=by
 have J:Vals (vs++l) (us++ds):=r.append T;have O:(us++ds).length=ps.length:=by rw[<-J.length];exact F.len _ _ _ _ h
 refine QH (HD (F.run X.A X.stack s H ⟨us,[]⟩ (us++ds) (vs++l) Q E M I.env0 (U s us I.SM O) J h) λr s' G=>?_);cases r with
 |error e=>exact L pins σ H s e s' I G
 |ok Y =>
  cases Y with
  |ret u=>exact I.after G
  |next=>exact False.elim G
  |brk=>exact False.elim G
  |cont=>exact False.elim G
def wJ(F:Hl X.prog X.w X.K X.mg X.base CX k f fd ps sp)(O:Hx k X.A)(Y:Gl X x)(T:X.mg x=some (.ref f))(U:W.keepIn X.K (.ref f)=true)(hb:Binds X.K fd ps ds)(hd:Vals l ds)(M:Passes CX X E)
  (ha:PA X (e::es) t)(J:Zd x:=by decide)(Z:Zs X.env e es:=by rfl)(G:Zp X.env pos es:=by rfl):
  PE X (.Call (.Name x p) (e::es) [] pos) (yj1 sp l E t):=by
 intro pins s σ H Q I h;refine J_ (Ru I Y T ?_ J);refine W.callWith_K (h₀:=X.base) I.ok.mod.kin U (thG (ha pos pins s σ H _ I h) λus s1 vs H1 L r q=>⟨L.SM,?_⟩) Z G;exact wx7 F O hb hd M L r q
end
structure Fp(N P:List BZ)(sc:JF):Prop where
 kind:sc.kind=.function
 co:sc.isCoroutine=false
 gen:sc.isGenerator=false
 nd:N.Nodup
 pre:N.take P.length=P
 par:∀x∈P,sc.names.lookup x=some .local\/sc.names.lookup x=some .cell
 nofree:∀y∈sc.names,y.2≠.free
theorem Yv{kindOf:BZ->Option GF}{x:BZ}:∀{binds:List (BZ×A_)}{m:BZ->Option A_},(∀v,(x,v)∉binds)->XF kindOf binds m x=m x
 | [],_,_=>rfl
 | (n,v)::r,m,h=>by
  unfold XF;rw[Yv λw f=>h w (IK _ f)];split
  ·have:x≠n:=by rintro rfl;exact h v JK
   simp[this]
  ·rfl
theorem Yt{kindOf:BZ->Option GF}{x:BZ}:∀{binds:List (BZ×A_)}{m:BZ->Option A_},(∀v,(x,v)∉binds)->XH kindOf binds m x=m x
 | [],_,_=>rfl
 | (n,v)::r,m,h=>by
  unfold XH;rw[Yt λw f=>h w (IK _ f)];split
  ·rfl
  ·have:x≠n:=by rintro rfl;exact h v JK
   simp[this]
def Yu{kindOf:BZ->Option GF}{x:BZ}{v:A_}:∀{P:List BZ}{vs:List A_}{i:Nat}{m:BZ->Option A_},P.Nodup->P[i]? = some x->vs[i]? = some v->kindOf x=some .local ->
  XF kindOf (P.zip vs) m x=some v
 | [],_,_,_,_,h,_,_=>by simp at h
 |_::_,[],_,_,_,_,h,_=>by simp at h
 |p::P,w::vs,0,m,C,l,f,G=>by simp at l f;subst l;subst f;show XF kindOf ((p,w)::P.zip vs) m p=_;unfold XF;rw[Yv λv I=>(RZ.mp C).1 (lH I).1,if_pos G];simp
 |p::P,w::vs,i+1,m,C,l,f,G=>by show XF kindOf ((p,w)::P.zip vs) m x=_;unfold XF;exact Yu (i:=i) (RZ.mp C).2 (by simpa using l) (by simpa using f) G
def Ys{kindOf:BZ->Option GF}{x:BZ}{v:A_}:∀{P:List BZ}{vs:List A_}{i:Nat}{m:BZ->Option A_},P.Nodup->P[i]? = some x->vs[i]? = some v->kindOf x≠some .local ->
  XH kindOf (P.zip vs) m x=some v
 | [],_,_,_,_,h,_,_=>by simp at h
 |_::_,[],_,_,_,_,h,_=>by simp at h
 |p::P,w::vs,0,m,C,l,f,G=>by simp at l f;subst l;subst f;show XH kindOf ((p,w)::P.zip vs) m p=_;unfold XH;rw[Yt λv I=>(RZ.mp C).1 (lH I).1,if_neg G];simp
 |p::P,w::vs,i+1,m,C,l,f,G=>by show XH kindOf ((p,w)::P.zip vs) m x=_;unfold XH;exact Ys (i:=i) (RZ.mp C).2 (by simpa using l) (by simpa using f) G
def start(N:List BZ)(vs:List V):St:=vs.map some++List.replicate (N.length - vs.length) none
def X8(CX:CXT)(P:B_)(w:CW)(K:CJ)(mg:BZ->Option A_)(base:CK)(N:List BZ)(qual:BZ)(scope:JF)(f:BK)(cd:A_)(A:EY)(outer:List KH)(s:BJ)(H:Hp)(E:XK):Cx where
 prog:=P
 w:=w
 K:=K
 mg:=mg
 base:=base
 A:=A.deeper (envOfC qual scope s.heap.objs.size f cd)
 N:=N
 s₀:=s
 H₀:=H
 env:=envOfC qual scope s.heap.objs.size f cd
 outer:=outer
 stack:=envOfC qual scope s.heap.objs.size f cd::outer
 ex:=[]
 calm:=true
 fn:=λ_=>true
 pn:=[]
 xe:=λe s'=>BP (BV P w) (A.deeper (envOfC qual scope s.heap.objs.size f cd)) (leaving (envOfC qual scope s.heap.objs.size f cd) e) (λ_ s''=>CX outer H s E e s'') (λe' s''=>CX outer H s E e' s'') s'
def jh9{sc:JF}{x:BZ}(h:sc.names.lookup x=some .cell):∃c,(D_ n sc.names []).lookup x=some c:=by have q:=W.cellsFrom_some sc.names n [] (.inl h);exact qU.mp q
variable {CX:CXT}{mg:BZ->Option A_}{qual:BZ}{f:BK}
theorem kg9{base:CK}{N ps:List BZ}{l:JF}{T:A_}{outer:List KH}{U:BJ}{E:XK}
  (S:Fp N ps l)(hd:A.handled=none)(C:iZ P w K mg base A outer s H)(hl:vs.length=ps.length)(r:Vals vs us)
  (x:InCallC s s.heap.objs.size (XF (envOfC qual l s.heap.objs.size f T).kindOf (ps.zip us) λ_=>none) (D_ (s.heap.objs.size+1) l.names []) (XH (envOfC qual l s.heap.objs.size f T).kindOf (ps.zip us) λ_=>none) U):
  Inv (X8 CX P w K mg base N qual l f T A outer s H E) [] (start N vs) H U:=by
 have aa:ps.length<=N.length:=by have:=congrArg List.length S.pre;rw[QJ]at this;lia
 obtain⟨O,tk,rfl,Z⟩:=x.done;have G:∀b:BK,b∉(X8 CX P w K mg base N qual l f T A outer s H E).ex:=λb z=>absurd (show b∈([]:List BK) from z) (by simp);refine⟨⟨C.mod,S.kind,rfl,rfl,F_ _,λy z c O m=>?_,λy I=>?_,λy c _ h=>?_,λ_=>hd,Around.frames_deeper C.frames,.inr ⟨rfl,rfl⟩,λb z=>absurd z (G b),C.bs,C.bsz,λb _ _=>G b,λb z=>absurd z (G b),C.funs,C.frf⟩,
  rfl,C.bare,Un.kept Z,⟨_,x.toInCall.ns,λi y v O m h3=>?_⟩,λy c h=>⟨_,x.cell y c h⟩,C.hok.fresh (F_ _),λy c h=>?_,λp L=>absurd (show p∈([]:List (BK×GJ)) from L) (by simp),C.hok.kept Z,?_⟩
 ·exact name_of_addr x.apart (PySem.mem_of_lookup O) (PySem.mem_of_lookup m)
 ·have I:l.names.lookup y=some .cell\/l.names.lookup y=some .free:=I;rcases I with I |I
  ·exact jh9 I
  ·exact absurd rfl (S.nofree _ (PySem.mem_of_lookup I))
 ·exact cD (x.above y c (PySem.mem_of_lookup h))
 ·have M:i<vs.length:=by
   unfold start at m;by_cases M:i<vs.length
   ·exact M
   ·rw[YT (by simpa using M)]at m;rw[qR]at m;split at m<;>cases m
  have ha:vs[i]? = some v:=by
   unfold start at m;rw[YS (by simpa using M),QR]at m;cases e:vs[i]? with
   |none=>rw[e]at m;cases m
   |some a=>rw[e]at m;cases m;rfl
  have⟨u,Y,rv⟩:=r.get ha;have L:ps[i]? = some y:=by rw[<-S.pre,qT (by lia)];exact O
  have J:ps.Nodup:=by rw[<-S.pre];exact S.nd.sublist (jHt _ _)
  refine⟨u,rv,?_⟩;rcases S.par y (YQ L) with k |k
  ·exact .inl ⟨k,Yu J L Y k⟩
  ·have⟨c,e⟩:=jh9 (n:=s.heap.objs.size+1) k;refine .inr ⟨.inl k,c,e,?_⟩;have q:=x.cell y c e;rw[Ys J L Y (by show l.names.lookup y≠_;rw[k];decide)]at q;exact q
 ·exact C.hok.fresh (cD (x.above y c (PySem.mem_of_lookup h)))
 ·unfold start;show _=N.length;rw[MK,GP,jGt];lia
def tB{base:CK}{name:BZ}{params:Arguments}{l:JF}{dV kV Y pm m ct oc:A_}{an od:Option BK}
  {aa:Array (Option A_)}{N ps:List BZ}{sp:Sp}(lk:K.lookup f=some ⟨oc,od,.func (W.fnOf name qual params z l dV kV Y pm an m ct),aa⟩)(ab:W.codeIn K m qual=true)(S:Fp N ps l)
  (len:∀vs H Q E,sp vs H Q E->vs.length=ps.length)
  (L:∀(A:EY)(outer:List KH)(s:BJ)(H:Hp)(vs:List V)(Q:VK)(E:XK),Hx k (A.deeper (envOfC qual l s.heap.objs.size f m))->sp vs H Q E ->
   ∃t,PSs (X8 CX P w K mg base N qual l f m A outer s H E) z t/\t {nx:=λ_ H'=>Q .non H',rt:=Q} (start N vs) H):
  Hl P w K mg base CX (k+1) f (W.fnOf name qual params z l dV kV Y pm an m ct) ps sp:=by
 refine⟨len,λA outer s H args us vs Q E hr U hb r O=>?_⟩;have hl:=len _ _ _ _ O;have KX:K.In s.heap:=U.mod.kin.keeps λb o e=>(U.bs b o e).1;have lim:s.heap.NoLimit:=U.mod.nolimit.keeps λb o e=>(U.bs b o e).1;have G:∀y∈ps.zip us,l.names.lookup y.1=some .local\/(l.names.lookup y.1=some .cell/\((D_ (s.heap.objs.size+1) l.names []).lookup y.1).isSome=true):=λ⟨n,v⟩ hy=>by
  rcases S.par n (lH hy).1 with q |q
  ·exact .inl q
  ·exact .inr ⟨q,W.cellsFrom_some _ _ _ (.inl q)⟩
 refine codeAny_call_function hr.depth (KX _ _ lk) rfl S.co S.gen rfl (W.codeRec_of KX ab) (hb _ _ _ _ ?_);refine wpAny_newFunctionEnv_cells S.kind G λenv he s1 x=>?_;subst he;refine⟨lim.keeps x.toInCall.keep,codeAny_func ?_⟩;have⟨t,ht,hq⟩:=L A outer s H vs Q E (hr.deeper _) O;have I:Inv (X8 CX P w K mg base N qual l f m A outer s H E) [] (start N vs) H s1:=kg9 S hr.hd U hl r x;refine GD (ht [] s1 (start N vs) H _ I hq) (λfl s' M=>?_) λe s' M=>M;have T:∀{C:St}{H':Hp}{v:V}{u:A_},Inv (X8 CX P w K mg base N qual l f m A outer s H E) [] C H' s'->RelV v u->Q v H'->CE outer P w H s Q u s':=
  λ{C H' v u} J Z q=>⟨v,H',J.os,J.bare,J.base,J.hok,Z,q⟩
 cases fl with
 |ret u=>obtain⟨v,C,H',J,Z,q⟩:=M;exact T J Z q
 |next=>obtain⟨C,H',J,q⟩:=M;exact T (v:=V.non) (u:=Value.none) J rfl q
 |brk=>obtain⟨_,_,_,q⟩:=M;exact False.elim q
 |cont=>obtain⟨_,_,_,q⟩:=M;exact False.elim q
section
variable {x:BZ}{t:TA}{l T:String}{r:List V->Hp->VK->Prop}
def tCB(r:List V->Hp->VK->Prop)(t:TA):TE:=λσ H Q=>t σ H λvs m=>r vs m Q
def Kw(hc:Eb X (.builtin l) r)(Y:Gl X x)(U:X.mg x=none)(M:GC x=some (.builtin l))(ha:PA X (e::es) t)(O:x ≠ "__name__":=by decide)(C:Zd x:=by decide)
  (Z:Zs X.env e es:=by rfl)(m:Zp X.env pos es:=by rfl):PE X (.Call (.Name x p) (e::es) [] pos) (tCB r t):=by
 intro pins s σ H Q I h;refine J_ (Qo I Y U M ?_ O C);exact PyProof.Rows.callWith_builtin1 (thG (ha pos pins s σ H _ I h) λus G vs H1 I1 J L=>hc pins G σ H1 vs us Q I1 J L) Z m
def Ji(hc:Eb X (.type T) r)(Y:Gl X x)(U:X.mg x=none)(M:GC x=some (.type T))(ha:PA X (e::es) t)(O:x ≠ "__name__":=by decide)(C:Zd x:=by decide)
  (Z:Zs X.env e es:=by rfl)(m:Zp X.env pos es:=by rfl):PE X (.Call (.Name x p) (e::es) [] pos) (tCB r t):=by
 intro pins s σ H Q I h;refine J_ (Qo I Y U M ?_ O C);exact PyProof.Rows.callWith_type1 (thG (ha pos pins s σ H _ I h) λus G vs H1 I1 J L=>hc pins G σ H1 vs us Q I1 J L) Z m
end
end L2
namespace HT
open PySem PyProof.Rows
variable {Q:A_->BJ->Prop}{sl:BK}{b a:A_}{lo hi:Option Int}
section
variable {prog:B_}{w:CW}{A:EY}{E:A_->BJ->Prop}{s:BJ}
def we2{t b:BK}{g c:List A_}(v:NK s.heap t g.toArray)(x:NK s.heap b c.toArray)(o:g≠[])
  (z:c=[]->Q (.ref t) s)(y:c≠[]->Q (.ref s.heap.objs.size) {s with heap:=s.heap.push {cls:=.type "tuple",data:=.seq (g++c).toArray} })
  (hsz:g.length+c.length<=sizeLine):BP (BV prog w) A (E_ .Add (.ref t) (.ref b)) Q E s:=by
 have⟨⟨cls,r,data,sl⟩,l,q,n,p⟩:=id v;have⟨⟨u,j,data2,h⟩,f,i,m,hd2⟩:=id x;simp only at q p i hd2;subst q p i hd2;have e:g.toArray++c.toArray=(g++c).toArray:=by simp
 by_cases k:c=[]
 ·exact QX ⟨_,l,rfl⟩ ⟨_,f,rfl⟩ RK WD PySem.F.slot_tuple_add PySem.F.entry_tuple_add (PySem.F.args_tuple_add_2 _ _)
   (tuple_addW1 t b g.toArray c.toArray n m r j sl h (by simpa using o) (by simp[k])) ⟨l,f,z k⟩
 ·refine QX ⟨_,l,rfl⟩ ⟨_,f,rfl⟩ RK WD PySem.F.slot_tuple_add PySem.F.entry_tuple_add (PySem.F.args_tuple_add_2 _ _)
   (tuple_addW2 t b g.toArray c.toArray n m r j sl h (by simpa using o) (by simpa using k) (by rw[JZ,JZ];exact hsz)) ⟨l,f,?_⟩
  rw[e];exact y k
def sIx(n d:Nat):Option Int->Nat
 |none=>d
 |some v=>if v<0 then(v+(n:Int)).toNat else min v.toNat n
def Jv(n d:Nat):sIx n d none=d:=rfl
theorem Mi(n d k:Nat):sIx n d (some (k:Int))=min k n:=by show(if(k:Int)<0 then((k:Int)+(n:Int)).toNat else min (k:Int).toNat n)=min k n;rw[if_neg (by lia),YL]
theorem wx8(n d:Nat)(e:d<=n)(o:Option Int):sIx n d o<=n:=by
 cases o with
 |none=>exact e
 |some v =>
  show(if v<0 then(v+(n:Int)).toNat else min v.toNat n)<=n;by_cases c:v<0
  ·rw[if_pos c];lia
  ·rw[if_neg c];exact lM _ _
def yo6(a b:Nat):((min a b:Nat):Int)=min (a:Int) b:=by
 rcases dW a b with h |h
 ·rw[ZF h,jIi (Int.ofNat_le.mpr h)]
 ·rw[Z_ h,Int.min_eq_right (Int.ofNat_le.mpr h)]
def pG(v:Int)(n d:Nat):(if v<0 then max (v+(n:Int)) 0 else min v (n:Int))=((sIx n d (some v):Nat):Int):=by
 show(if v<0 then max (v+(n:Int)) 0 else min v (n:Int))=(((if v<0 then(v+(n:Int)).toNat else min v.toNat n):Nat):Int);by_cases c:v<0
 ·rw[if_pos c,if_pos c];exact(Int.toNat_eq_max _).symm
 ·rw[if_neg c,if_neg c,yo6,aC (Int.not_lt.mp c)]
def ji0(v:Int)(n d:Nat):max 0 (min (if v<0 then v+(n:Int) else v) (n:Int))=((sIx n d (some v):Nat):Int):=by
 rw[<-pG v n d];by_cases c:v<0
 ·rw[if_pos c,if_pos c,Int.max_comm,jIi (kZ (Int.add_le_add_right (Int.le_of_lt c) _) (Int.le_of_eq (pR _)))]
 ·rw[if_neg c,if_neg c,Int.max_eq_right (Int.le_min.mpr ⟨Int.not_lt.mp c,Int.natCast_nonneg n⟩)]
theorem jp8(lo hi:Option Int)(n:Nat):Builtin.Slice.sliceAdjust lo hi 1 (n:Int)=(((sIx n 0 lo:Nat):Int),((sIx n n hi:Nat):Int)):=by
 have c:¬ ((1:Int)<0):=by lia
 unfold Builtin.Slice.sliceAdjust;simp only[c,if_false];refine Prod.ext ?_ ?_
 ·cases lo with
  |none=>rfl
  |some v=>exact pG v n 0
 ·cases hi with
  |none=>rfl
  |some v=>exact pG v n n
theorem jt8(i j:Nat):Builtin.Slice.slicePlaces (i:Int) (j:Int) 1=j - i:=by
 unfold Builtin.Slice.slicePlaces;have c:(1:Int)>0:=by lia
 simp only[c,if_true,Int.ediv_one];split<;>lia
def Xn{v:A_}{o:Option Int}{Q:Option Int->BJ->Prop}(p:RM v o)(h:Q o s):BP (BV prog w) A (Builtin.Slice.slicePartIndex v) Q E s:=by
 cases p with
 |none=>exact jA h
 |int i t=>exact slicePart_int h
def Tz{n:Nat}{Q:Int×Int×Nat->BJ->Prop}(g:s.heap.IsSliceOf sl b a .none)(pl:RM b lo)(f:RM a hi)
  (h:Q (((sIx n 0 lo:Nat):Int),1,sIx n n hi - sIx n 0 lo) s):BP (BV prog w) A (Builtin.Slice.sliceApplied (.ref sl) (pure (n:Int))) Q E s:=by
 have⟨j,c,i,e⟩:=id g;unfold Builtin.Slice.sliceApplied Builtin.Slice.sliceFields;refine BX (BX (CT c e (x:=b) rfl (BX (CT c e (x:=a) rfl (BX (CT c e (x:=.none) rfl (DN ?_)))))));refine BX (jA ?_);show BP _ _ (if((1:Int) == 0)=true then _ else _) _ _ s;rw[if_neg (by decide)];refine BX (Xn pl (BX (Xn f (BX (DN ?_)))));show BP _ _ (match Builtin.Slice.sliceAdjust lo hi 1 (n:Int) with | (lo,hi)=>pure (lo,(1:Int),Builtin.Slice.slicePlaces lo hi 1)) _ _ s;rw[jp8 lo hi n];show BP _ _ (pure (((sIx n 0 lo:Nat):Int),(1:Int),Builtin.Slice.slicePlaces ((sIx n 0 lo:Nat):Int) ((sIx n n hi:Nat):Int) 1)) _ _ s;rw[jt8];exact DN h
theorem kw7(xs:Array A_)(i k:Nat):((List.range k).filterMap λ(m:Nat)=>xs[((i:Int)+(m:Int) * 1).toNat]?).toArray=((xs.toList.drop i).take k).toArray:=by
 have e:(λ(m:Nat)=>xs[((i:Int)+(m:Int) * 1).toNat]?)=λm=>xs[i+m]?:=by
  funext m;have:((i:Int)+(m:Int) * 1).toNat=i+m:=by lia
  rw[this]
 rw[e];have:=pick_run xs i k;rw[List.filterMap_map]at this;have c:((λx=>xs[x]?)∘λx=>i+x)=λm=>xs[i+m]?:=rfl;rw[c]at this;rw[this]
theorem Rm{t:BK}{items:Array A_}(e:NK s.heap t items)(k:s.heap.IsSliceOf sl b a .none)(pl:RM b lo)(l:RM a hi)
  (o:¬ (sIx items.size 0 lo=0/\sIx items.size items.size hi=items.size))
  (h:Q (.ref s.heap.objs.size) {s with heap:=s.heap.push {cls:=.type "tuple",data:=.seq ((items.toList.drop (sIx items.size 0 lo)).take (sIx items.size items.size hi - sIx items.size 0 lo)).toArray} })
  (hsz:items.size<=sizeLine):BP (BV prog w) A (YD (.ref t) (.ref sl)) Q E s:=by
 have c:sizeOk (.seq ((items.toList.drop (sIx items.size 0 lo)).take (sIx items.size items.size hi - sIx items.size 0 lo)).toArray):=by show((items.toList.drop (sIx items.size 0 lo)).take (sIx items.size items.size hi - sIx items.size 0 lo)).toArray.size<=sizeLine;rw[JZ,QJ,TQ,ZG];exact PL (PL (lM _ _) (Nat.sub_le _ _)) hsz
 have v:sIx items.size items.size hi<=items.size:=wx8 _ _ (F_ _) hi;have⟨n,f,i,p⟩:=id k;have j:s.TypeIs (.ref sl) "slice":=⟨n,f,i⟩;unfold YD
 try with_reducible refine DK ?_
 first |refine BX (DN ?_) |skip
 refine BX (bT e.typeIs (by decide) ?_);refine BX (C_ (name:=Str.ofString "__getitem__") e.typeIs PyProof.Rows.slot_tuple_getitem
  (CZ PyProof.Rows.slot_tuple_getitem e.typeIs entry_tuple_getitem ?_ (args_tuple_getitem _ _)))
 show BP _ _ (Builtin.Tuple.tupleItemsOf (.ref t) >>= _) _ _ s;refine BX (tupleItemsOf_ e ?_);refine BX (QS j ?_);rw[if_pos (by decide)];refine BX (Tz k pl l ?_);have g:¬ ((((sIx items.size 0 lo:Nat):Int) == 0 && (1:Int) == 1 && (sIx items.size items.size hi - sIx items.size 0 lo) == items.size)=true):=by intro q;rw[QC,QC]at q;have u:((sIx items.size 0 lo:Nat):Int)=0:=eq_of_beq q.1.1;have r:sIx items.size items.size hi - sIx items.size 0 lo=items.size:=eq_of_beq q.2;exact o ⟨by lia,by lia⟩
 show BP _ _ (if(((sIx items.size 0 lo:Nat):Int) == 0 && (1:Int) == 1 && (sIx items.size items.size hi - sIx items.size 0 lo) == items.size)=true then _ else _) _ _ s;rw[if_neg g,kw7]
 first
  |exact BX (m:=Builtin.Tuple.tupleExact _) (CG (DN ⟨_,rfl,DN h⟩) c)
  |exact BX (m:=Builtin.Tuple.tupleExact _) (CG (BX (DN (DN ⟨_,rfl,DN h⟩))) c)
  |exact BX (BX (m:=Builtin.Tuple.tupleExact _) (CG (DN (DN ⟨_,rfl,DN h⟩)) c))
  |exact BX (BX (m:=Builtin.Tuple.tupleExact _) (CG (DN ⟨_,rfl,DN h⟩) c))
end
end HT
namespace L2
open PySem PySem.Spec PyProof.Rows
abbrev TO:=St->Hp->(Option Int->Hp->Prop)->Prop
def PO(X:Cx)(e:Option CP)(t:TO):Prop:=
 ∀(a:List (BK×GJ))(s:BJ)(b:St)(H:Hp)(Q:Option Int->Hp->Prop),Inv X a b H s->t b H Q ->
  BP (BV X.prog X.w) X.A (evalPart e X.env) (λu f=>∃o c,Inv X a b c f/\RM u o/\Q o c) X.xe s
def wl9:TO:=λ_ H Q=>Q none H
def yj7(t:TE):TO:=λa H Q=>t a H λx b=>∃i,x=.int i/\Q (some i) b
variable {X:Cx}{e:CP}{pos:JN}
variable {r:V->Option Int->Option Int->Hp->VK->Prop}{xs:List V}{us:List A_}
section
variable {a:TE}{lo hi:Option CP}{c f:TO}{g:JN}
def wj5:PO X none wl9:=by intro b s i H Q I h;rw[evalPart_none];exact DN ⟨none,H,I,.none,h⟩
def wj6(h:PE X e a):PO X (some e) (yj7 a):=by intro b s j H Q I m;rw[evalPart_some];refine thG (h b s j H _ I m) λu p x o n k l=>?_;obtain⟨i,rfl,q⟩:=l;obtain⟨t,rfl⟩:=k;exact⟨some i,o,n,.int i t,q⟩
def SlR(X:Cx)(r:V->Option Int->Option Int->Hp->VK->Prop):Prop:=
 ∀(b:List (BK×GJ))(s:BJ)(h:St)(H:Hp)(x:V)(v j i:A_)(lo hi:Option Int)(k:BK)(Q:VK),Inv X b h H s->RelV x v->s.heap.IsSliceOf k j i .none->RM j lo->RM i hi->r x lo hi H Q ->
  ∃T l,typeLookup (.type T) "__getitem__" = pure (some (.builtin l))/\s.TypeIs v T/\BP (BV X.prog X.w) X.A (YD v (.ref k)) (EP X b h Q) X.xe s
def SlR.or{n:V->Option Int->Option Int->Hp->VK->Prop}(h:SlR X r)(h':SlR X n):SlR X (λx lo hi H Q=>r x lo hi H Q\/n x lo hi H Q):=by
 intro b s i H x v k j lo hi l Q I m p pl o q;rcases q with q |q
 ·exact h b s i H x v k j lo hi l Q I m p pl o q
 ·exact h' b s i H x v k j lo hi l Q I m p pl o q
def tSl(r:V->Option Int->Option Int->Hp->VK->Prop)(a:TE)(c f:TO):TE:=λb H Q=>a b H λx j=>c b j λl i=>f b i λu h=>r x l u h Q
def kw5(K:SlR X r)(M:PE X e a)(hl:PO X lo c)(G:PO X hi f):PE X (.Subscript e (.Slice lo hi none g) pos) (tSl r a c f):=by intro i s k H Q I h;refine Subscript_ (thG (M i s k H _ I h) λv y x H1 Z z E=>?_);refine wpAny_Slice (thG (hl i y k H1 _ Z E) λn p l H2 Y pl C=>thG (G i p k H2 _ Y C) λm j u o U F B=>?_);rw[evalPart_none];refine DN ?_;have P:Inv X i k o {j with heap:=j.heap.push {cls:=.type "slice",data:=.fields #[n,m,.none] } }:=U.kept (t':=j.toks) λb ob q=>JH _ q;have⟨T,id,O,J,L⟩:=K i {j with heap:=j.heap.push {cls:=.type "slice",data:=.fields #[n,m,.none] } } k o x v n m l u j.heap.objs.size Q P z (Heap.IsSliceOf.new ..) pl F B;show BP (BV X.prog X.w) X.A (subscriptTail e (.Slice lo hi none g) v (.ref j.heap.objs.size)) (EP X i k Q) X.xe {j with heap:=j.heap.push {cls:=.type "slice",data:=.fields #[n,m,.none] } };exact tail_any (ops:=[.ref j.heap.objs.size,v]) J O L (by with_unfolding_all rfl)
def aW(xs:List V)(lo hi:Option Int):List V:=(xs.drop (HT.sIx xs.length 0 lo)).take (HT.sIx xs.length xs.length hi - HT.sIx xs.length 0 lo)
def T8(xs:List V)(lo hi:Option Int):(aW xs lo hi).length<=xs.length:=by unfold aW;rw[QJ,TQ];exact PL (lM _ _) (Nat.sub_le _ _)
def yp8(K:CJ):V->Option Int->Option Int->Hp->VK->Prop:=λx lo hi H Q=>∃a xs,x=.ref a/\SqT K H a xs /\
 ¬ (HT.sIx xs.length 0 lo=0/\HT.sIx xs.length xs.length hi=xs.length)/\∀p,H p=none->Q (.ref p) (upd H p (.tup (aW xs lo hi)))
def wy2:SlR X (yp8 X.K):=by
 intro k s z H x v B A lo hi C Q I n y pl p h;obtain⟨a,xs,rfl,u,w,q⟩:=h;cases n;have⟨j,r,m,l⟩:=I.tuple u;have i:j.toArray.size=xs.length:=by rw[JZ];exact r.length.symm
 refine⟨"tuple",_,PyProof.Rows.slot_tuple_getitem.lookup,m.typeIs,?_⟩;refine HT.Rm m y pl p (by rw[i];exact w) ?_ (by rw[i];exact l);rw[i];refine⟨.ref s.heap.objs.size,_,I.laid (t':=s.toks) (o:=.tup (aW xs lo hi)) (λb E q=>JH _ q) (F_ _) ?_,rfl,q _ (I.hok.fresh (F_ _))⟩;exact⟨PL (T8 xs lo hi) l,_,(r.drop (HT.sIx xs.length 0 lo)).take (HT.sIx xs.length xs.length hi - HT.sIx xs.length 0 lo),IsTup.new _ _⟩
def yi0(K:CJ):R2:=λx y H Q=>∃a b xs h,x=.ref a/\y=.ref b/\SqT K H a xs/\SqT K H b h/\xs≠[]/\xs.length+h.length<=sizeLine /\
 (h=[]->Q (.ref a) H)/\(h≠[]->∀p,H p=none->Q (.ref p) (upd H p (.tup (xs++h))))
def Vals.nil_iff(r:Vals xs us):us=[]↔xs=[]:=by
 cases r with
 |nil=>simp
 |cons _ _=>simp
def wi4:OpR X (E_ .Add) (yi0 X.K):=by intro k s L H x y v u Q I A p h;obtain⟨a,b,xs,n,rfl,rfl,J,G,F,m,C,B⟩:=h;cases A;cases p;have⟨E,j,p1,_⟩:=I.tuple J;have⟨l,i,g,_⟩:=I.tuple G;refine HT.we2 p1 g (λz=>F (j.nil_iff.mp z)) (λz=>⟨.ref a,H,I,rfl,C (i.nil_iff.mp z)⟩) (λz=>?_) (by rw[<-j.length,<-i.length];exact m);refine⟨.ref s.heap.objs.size,_,I.laid (t':=s.toks) (o:=.tup (xs++n)) (λb M q=>JH _ q) (F_ _) ?_,rfl,B (λw=>z (i.nil_iff.mpr w)) _ (I.hok.fresh (F_ _))⟩;exact⟨by rw[MK];exact m,_,j.append i,IsTup.new _ _⟩
end
def ixN(n:Nat)(i:Int):Option Nat:=if 0<=i then(if i<n then some i.toNat else none) else if -(n:Int)<=i then some (i+n).toNat else none
def atI{a:Type}(xs:List a)(i:Int):Option a:=(ixN xs.length i).bind λj=>xs[j]?
variable {n:Nat}{i:Int}
theorem wg5{j:Nat}(h:ixN n i=some j):seqIndex? i n=some j/\j<n/\-(n:Int)<=i/\i<n:=by
 unfold ixN at h;by_cases b:0<=i
 ·rw[if_pos b]at h;by_cases a:i<n
  ·rw[if_pos a]at h;have e:i.toNat=j:=Option.some.inj h;exact⟨by rw[seqIndex_of b a,e],by lia,by lia,a⟩
  ·rw[if_neg a]at h;cases h
 ·rw[if_neg b]at h;by_cases a:-(n:Int)<=i
  ·rw[if_pos a]at h;have e:(i+n).toNat=j:=Option.some.inj h;exact⟨by rw[seqIndex_neg (by lia) a,e],by lia,a,by lia⟩
  ·rw[if_neg a]at h;cases h
def pK{a:Type}{xs:List a}{v:a}(h:atI xs i=some v):∃j,seqIndex? i xs.length=some j/\xs[j]? = some v/\j<xs.length/\-(xs.length:Int)<=i/\i<xs.length:=by
 unfold atI at h;cases e:ixN xs.length i with
 |none=>rw[e]at h;cases h
 |some j=>rw[e]at h;have⟨g,f,c,b⟩:=wg5 e;exact⟨j,g,h,f,c,b⟩
def yK(b:CP):Prop:=∀o i,subscripted b false o i=operate [o,i] (YD o i)
def IxR(X:Cx)(r:R2):Prop:=
 ∀(value slice:CP)(a:List (BK×GJ))(s:BJ)(b:St)(H:Hp)(x y:V)(v u:A_)(Q:VK),Inv X a b H s->RelV x v->RelV y u->r x y H Q ->
  subscripted slice false v u=operate [v,u] (YD v u)->BP (BV X.prog X.w) X.A (subscriptTail value slice v u) (EP X a b Q) X.xe s
def MtR(X:Cx)(c:String)(r:V->List V->Hp->VK->Prop):Prop:=
 ∀(a:List (BK×GJ))(s:BJ)(b:St)(H:Hp)(x:V)(xs:List V)(v:A_)(us:List A_)(Q:VK),Inv X a b H s->RelV x v->Vals xs us->r x xs H Q ->
  BP (BV X.prog X.w) X.A (call (.builtin c) (v::us)) (EP X a b Q) X.xe s
variable {x:V}
section
variable {a b:CP}{g tb:TE}
def yh6{r:R2}(o:IxR X r)(w:PE X a g)(p:PE X b tb)(m:yK b):PE X (.Subscript a b pos) (tOp r g tb):=by intro c s f H Q I h;exact Subscript_ (mQ w p I h λv u j x y A z l k q=>o a b c j f A x y v u Q z l k q (m _ _))
def yp2(K:CJ):R2:=λx y H Q=>∃p xs i v,x=.ref p/\y=.int i/\SqL K H p xs/\atI xs i=some v/\Q v H
def yp4(K:CJ):R2:=λx y H Q=>∃p xs i v,x=.ref p/\y=.int i/\SqT K H p xs/\atI xs i=some v/\Q v H
def yp3:R2:=λx y H Q=>∃z i c,x=.str z/\y=.int i/\z.length<=sizeLine/\atI z.cps.toList i=some c/\Q (.str ⟨#[c]⟩) H
theorem wg6:IxR X (yp2 X.K):=by
 intro value slice c s A H x y v u Q I J G h B;obtain⟨p,xs,i,z,rfl,rfl,L,O,q⟩:=h;cases J;obtain⟨t,rfl⟩:=G;have⟨m,r,pl,Y⟩:=I.list L;have⟨j,k,U,h3,T,P⟩:=pK O;have⟨w,E,l⟩:=r.get U;have M:=r.length;have Z:=Ti;have f:EP X c A Q w s:=⟨z,H,I,l,q⟩;by_cases C:0<=i
 ·have o:i.toNat=j:=by rw[seqIndex_of C P]at k;exact Option.some.inj k
  exact item_listR pl.isList C (by lia) (by rw[o];simpa using E) f B
 ·have o:(i+(m.toArray.size:Int)).toNat=j:=by rw[seqIndex_neg (by lia) T]at k;rw[JZ,<-M];exact Option.some.inj k
  exact XQ (x:=w) pl.isList.typeIs slot_list_getitem.lookup
   (wpAny_getItem_list_neg (Q:=λr F=>r=w/\EP X c A Q r F) pl.isList (by lia) (by rw[JZ]<;>lia) (by lia) (by rw[o];simpa using E) ⟨rfl,f⟩) B
theorem ws9:IxR X (yp4 X.K):=by
 intro value slice c s l H x y v u Q I A o h C;obtain⟨p,xs,i,z,rfl,rfl,E,G,q⟩:=h;cases A;obtain⟨t,rfl⟩:=o;have⟨B,r,pl,O⟩:=I.tuple E;have⟨j,L,J,Y,U,T⟩:=pK G;have⟨w,M,f⟩:=r.get J;have F:=r.length;have P:=Ti;have k:EP X c l Q w s:=⟨z,H,I,f,q⟩;exact XQ (x:=w) pl.typeIs slot_tuple_getitem.lookup
  (getItem_tuple (j:=j) (Q:=λr m=>r=w/\EP X c l Q r m) pl (by lia) (by lia) (by rw[JZ,<-F];exact L) (by simpa using M) ⟨rfl,k⟩) C
theorem ws8:IxR X yp3:=by
 intro value slice f s G H x y v u Q I m l h o;obtain⟨z,i,c,rfl,rfl,K,w,q⟩:=h;obtain⟨t,rfl⟩:=m;obtain⟨J,rfl⟩:=l;have⟨j,k,C,M,B,A⟩:=pK w;have p:z.cps.toList.length=z.length:=by simp[Str.length]
 rw[p]at k B A;have L:=Ti;exact tail_any (typeIs_str s z t) slot_str_getitem.lookup (getItem_str (c:=c) (by
  have F:decide (i < -(2 ^ 63:Int))=false:=decide_eq_false (by lia);have E:decide (i≥2 ^ 63)=false:=decide_eq_false (by lia);rw[F,E,Bool.or_false]) (by rw[k];simpa using C) ⟨.str ⟨#[c]⟩,H,I.tok _,⟨_,rfl⟩,q⟩) o
def jf1(lo hi:Option Int)(n:Nat):(YZ lo hi none n).1=((HT.sIx n 0 lo:Nat):Int)/\(YZ lo hi none n).2.1=((HT.sIx n n hi:Nat):Int)/\(YZ lo hi none n).2.2=1:=by
 refine⟨?_,?_,rfl⟩
 ·cases lo with
  |none=>rfl
  |some i=>exact HT.ji0 i n 0
 ·cases hi with
  |none=>rfl
  |some i=>exact HT.ji0 i n n
def Yj(its:List A_)(lo hi:Option Int):slicePick its.toArray lo hi none=((its.drop (HT.sIx its.length 0 lo)).take (HT.sIx its.length its.length hi - HT.sIx its.length 0 lo)).toArray:=by have⟨h,f,c⟩:=jf1 lo hi its.toArray.size;unfold slicePick;rw[h,f,c];simp only[sliceRange_one,pick_run,JZ]<;>rfl
def yp7(K:CJ):V->Option Int->Option Int->Hp->VK->Prop:=λx c f H Q=>∃a xs,x=.ref a/\SqL K H a xs/\∀p,H p=none->Q (.ref p) (upd H p (.lst (aW xs c f)))
theorem wl6:SlR X (yp7 X.K):=by intro k s A H x v C B f j E Q I m z pl p h;obtain⟨a,xs,rfl,y,q⟩:=h;cases m;have⟨u,r,l,w⟩:=I.list y;have c:=r.length;refine⟨"list",_,slot_list_getitem.lookup,l.isList.typeIs,?_⟩;refine wpAny_getItem_list_slice l.isList z pl p .none (by simp) ?_ (by rw[JZ]<;>lia);rw[Yj,<-c];refine⟨.ref s.heap.objs.size,_,I.laid (t':=s.toks) (o:=.lst (aW xs f j)) (λb F q=>JH _ q) (F_ _) ?_,rfl,q _ (I.hok.fresh (F_ _))⟩;exact⟨PL (T8 xs f j) w,_,0,(r.drop (HT.sIx xs.length 0 f)).take (HT.sIx xs.length xs.length j - HT.sIx xs.length 0 f),KD _ rfl⟩
theorem Q8:Eb X (.builtin "len") (λxs H Q=>∃p f,xs=[.ref p]/\(SqL X.K H p f\/SqT X.K H p f)/\Q (.int f.length) H):=by
 intro m s w H xs us Q I r h;obtain⟨p,f,rfl,j,q⟩:=h;obtain⟨u,rfl,o⟩:=vals1 r;cases o;have y:=Ti;rcases j with j |j
 ·have⟨l,k,pl,v⟩:=I.list j;have c:=k.length;exact Calls.call_len_list pl.isList (by simp only[JZ]<;>lia) ⟨.int f.length,H,I.tok _,⟨s.toks+1,by rw[JZ,c]⟩,q⟩
 ·have⟨l,k,pl,v⟩:=I.tuple j;have c:=k.length;exact len_tuple pl (by simp only[JZ]<;>lia) ⟨.int f.length,H,I.tok _,⟨s.toks+1,by rw[JZ,c]⟩,q⟩
theorem jb3:Eb X (.builtin "len") (λxs H Q=>∃z,xs=[.str z]/\z.length<=sizeLine/\Q (.int z.length) H):=by intro c s f H xs us Q I r h;obtain⟨z,rfl,j,q⟩:=h;obtain⟨u,rfl,t,rfl⟩:=vals1 r;have k:=Ti;exact len_str (by lia) ⟨.int z.length,H,I.tok _,⟨_,rfl⟩,q⟩
theorem Pz:Eb X (.type "tuple") (λxs H Q=>∃p j,xs=[.ref p]/\((SqL X.K H p j/\∀l,H l=none->Q (.ref l) (upd H l (.tup j)))\/(SqT X.K H p j/\Q (.ref p) H))):=by
 intro c s y H xs us Q I r h;obtain⟨p,j,rfl,h⟩:=h;obtain⟨u,rfl,C⟩:=vals1 r;cases C;rcases h with ⟨v,q⟩ | ⟨v,q⟩
 ·have⟨f,m,pl,z⟩:=I.list v;have A:=m.length;refine call_tuple_list pl.isList (λk E=>?_) (by simp only[JZ]<;>lia);have B:Inv X c y H {s with heap:=k}:=I.kept (t':=s.toks) E;have F:Inv X c y (upd H k.objs.size (.tup j)) {s with heap:=k.push {cls:=.type "tuple",data:=.seq f.toArray} }:=
   B.laid (t':=s.toks) (λb o e=>JH _ e) (F_ _) (show Cj X.prog X.w _ _ _ (.tup j) from⟨z,f,m,IsTup.new _ _⟩)
  exact⟨.ref k.objs.size,_,F,rfl,q _ (B.hok.fresh (F_ _))⟩
 ·have⟨f,m,pl,z⟩:=I.tuple v;exact call_tuple_same pl ⟨.ref p,H,I,rfl,q⟩
def tyV(K:CJ)(T:String)(x:V)(H:Hp):Prop:=match x with
 | .str _=>T = "str"
 | .int _=>T = "int"
 | .ref p=>(T = "list"/\∃xs,SqL K H p xs)\/(T = "tuple"/\∃o,K.lookup p=some o/\o.cls=.type "tuple"/\o.dict=none) \/
   (T = "dict"/\((∃c,H p=some (.dK c))\/∃c,H p=some (.dT c)))\/(T = "set"/\∃S n,H p=some (.set S n))
 |_=>False
def wz9{h:List (BK×GJ)}{q:St}{H:Hp}{s:BJ}{T:String}{v:A_}(I:Inv X h q H s)(r:RelV x v)(ty:tyV X.K T x H):
  s.TypeIs v T/\∀a,v=.ref a->∃m,s.heap.get? a=some m/\m.dict=none:=by
 cases x with
 |str z=>obtain⟨t,rfl⟩:=r;cases(show T = "str" from ty);exact⟨typeIs_str s z t,λ_ e=>nomatch e⟩
 |int i=>obtain⟨t,rfl⟩:=r;cases(show T = "int" from ty);exact⟨aL s i t,λ_ e=>nomatch e⟩
 |ref p =>
  cases r;rcases ty with ⟨rfl,xs,w⟩ | ⟨rfl,o,f,y,k⟩ | ⟨rfl,f⟩ | ⟨rfl,S,n,f⟩
  ·obtain⟨u,_,pl,_⟩:=I.list w;refine⟨pl.isList.typeIs,λa e=>?_⟩;cases e;obtain⟨o,n,e,c,k,_⟩:=pl;exact⟨o,e,k⟩
  ·refine⟨⟨o,I.SM p o f,y⟩,λa e=>?_⟩;cases e;exact⟨o,I.SM _ o f,k⟩
  ·have z:∃o,s.heap.get? p=some o/\o.ExactDict:=by
    rcases f with ⟨j,f⟩ | ⟨j,f⟩
    ·obtain⟨_,_,_,_,o,_,_,e,ex,_⟩:=I.hok p _ f;exact⟨o,e,ex⟩
    ·obtain⟨_,_,_,_,o,_,_,e,ex,_⟩:=I.hok p _ f;exact⟨o,e,ex⟩
   obtain⟨o,e,ex⟩:=z;refine⟨⟨o,e,ex.1⟩,λa l=>?_⟩;cases l;exact⟨o,e,ex.2.1⟩
  ·obtain⟨o,_,_,_,e,ex,_⟩:=I.hok p _ f;refine⟨⟨o,e,ex.1⟩,λa l=>?_⟩;cases l;exact⟨o,e,ex.2.1⟩
 |_=>exact False.elim ty
def tBM(K:CJ)(T:String)(r:V->List V->Hp->VK->Prop)(c:TE)(t:TA):TE:=λf H Q=>c f H λx h=>tyV K T x h/\t f h λxs j=>r x xs j Q
variable {o:CP}{es:List CP}{c:TE}{t:TA}{name:BZ}{apos cpos:JN}{T f:String}{r:V->List V->Hp->VK->Prop}
def m5(L:PlainAttrs T)(slot:Slot T name f)(w:aK (.builtin f)=pure (.type "method_descriptor"))(P:MtR X f r)(O:PE X o c)(U:PA X (e::es) t)
  (p:JQ o name X.env (DY o X.env)=DY o X.env:=by rfl)
  (q:((PB cpos (BR (e::es) X.env)).all (λx=>!x.1) && (VN cpos (OD [] X.env)).all (λx=>x.1.isSome)
   && decide ((e::es).length+([]:List KY).length+(if([]:List KY).isEmpty then 0 else 1)<30))=true:=by rfl)
  (m:(apos.endLine == cpos.line)=true:=by rfl)(M:Zs X.env e es:=by rfl)(k:Zp X.env cpos es:=by rfl):
  PE X (.Call (.Attribute o name apos) (e::es) [] cpos) (tBM X.K T r c t):=by
 intro j s u H Q I h;refine wpAny_Call_method_late p q m rfl (thG (O j s u H _ I h) λv E x H1 A y l=>?_);obtain⟨ty,J⟩:=l;have⟨Z,Y⟩:=wz9 A y ty;refine⟨T,f,L,slot,w,Z,Y,?_⟩;have z:=U cpos j E u H1 _ A J;rw[M]at z ⊢;refine Calls.callWith_builtin (by show(false || (PB cpos (BR es X.env)).any (·.1))=false;rw[k]<;>rfl) (Calls.evalArgs_plain ?_);exact thn z λus C ⟨B,H2,I2,F,G⟩=>P j C u H2 x B v us Q I2 y F G
end
def MtM(X:Cx)(c:String)(r:V->List V->Hp->VK->Prop):Prop:=
 ∀(a:List (BK×GJ))(s:BJ)(b:St)(H:Hp)(x:V)(xs:List V)(v:A_)(us:List A_)(Q:VK),Inv X a b H s->RelV x v->Vals xs us->r x xs H Q ->
  BP (BV X.prog X.w) X.A (call (.builtin c) (v::us)) (EP X a b Q) X.xe s
def Vals.zero:∀{us:List A_},Vals [] us->us=[]
 |_,.nil=>rfl
def Vals.unc(h:Vals (x::xs) us):∃u a,us=u::a/\RelV x u/\Vals xs a:=by
 cases h with
 |cons r t=>exact⟨_,_,rfl,r,t⟩
def Vals.one(h:Vals [x] us):∃u,us=[u]/\RelV x u:=by obtain⟨u,a,rfl,r,t⟩:=h.unc;exact⟨u,by rw[t.zero],r⟩
def Vals.two{y:V}(h:Vals [x,y] us):∃u v,us=[u,v]/\RelV x u/\RelV y v:=by obtain⟨u,a,rfl,r,t⟩:=h.unc;obtain⟨v,rfl,q⟩:=t.one;exact⟨u,v,rfl,r,q⟩
def Vals.rep{xs:List V}{us:List A_}(h:Vals xs us):∀k:Nat,Vals (List.replicate k xs).flatten (List.replicate k us).flatten
 |0=>.nil
 |k+1=>by rw[cJ,cJ,d8,d8];exact Vals.append h (Vals.rep h k)
def foldl_rep(its:List A_):∀(k:Nat)(acc:List A_),
  List.foldl (λb a=>b++a) acc.toArray (List.replicate k its.toArray)=(acc++(List.replicate k its).flatten).toArray
 |0,acc=>by simp
 |k+1,acc=>by
  have e:acc.toArray++its.toArray=(acc++its).toArray:=by simp
  have c:(acc++its)++(List.replicate k its).flatten=acc++(List.replicate (k+1) its).flatten:=by rw[cJ,d8,NB]
  rw[<-c,<-foldl_rep its k (acc++its),<-e,cJ,lG]
variable {its:List A_}{t':Nat}
section
variable {pins:List (BK×GJ)}{σ:St}{H:Hp}{s:BJ}{l b:BK}{xs ys a:List V}
def Inv.lset{its':List A_}{f:Array A_->Array A_}(I:Inv X pins σ H s)(m:H l=some (.lst xs))
  (e:s.heap.get? l=some {cls:=.type "list",data:=.seq its.toArray n})(j:f its.toArray=its'.toArray)(g:Vals ys its')(c:ys.length<=sizeLine):
  Inv X pins σ (upd H l (.lst ys)) {s with heap:=s.heap.update l (Obj.mapSeq f),toks:=t'}:=by
 have q:=PySem.IsL.update e f;rw[j]at q;refine I.write (x:=l) (e:=l) (by rw[m];exact trivial) (.inl rfl) (λo u k h=>(ZL s.heap (Obj.mapSeq f) (Ne.symm k)).trans h) ⟨_,q⟩ ?_;exact⟨c,its',_,g,q⟩
def Inv.lnew(I:Inv X pins σ H s)(f:Vals ys its)(c:ys.length<=sizeLine):
  Inv X pins σ (upd H s.heap.objs.size (.lst ys)) {s with heap:=s.heap.push {cls:=.type "list",data:=.seq its.toArray},toks:=t'}:=
 I.laid (λ_ _ q=>JH _ q) (F_ _) ⟨c,its,0,f,KD _ rfl⟩
def Inv.fresh(I:Inv X pins σ H s):H s.heap.objs.size=none:=I.hok.fresh (F_ _)
def Inv.lstM(I:Inv X pins σ H s)(c:H l=some (.lst xs)):xs.length<=sizeLine/\∃(its:List A_)(n:Nat),Vals xs its/\xs.length=its.length/\s.heap.get? l=some {cls:=.type "list",data:=.seq its.toArray n}:=by have⟨z,its,n,r,e⟩:=I.hok l _ c;exact⟨z,its,n,r,r.length,e⟩
theorem zZ(h:n<=sizeLine):Builtin.List.listTooLong n=false:=by unfold Builtin.List.listTooLong;exact decide_eq_false (by lia)
end
def wk2:V->List V->Hp->VK->Prop:=λx a H Q=>∃l xs y,x=.ref l/\a=[y]/\H l=some (.lst xs)/\xs.length<sizeLine/\Q .non (upd H l (.lst (xs++[y])))
theorem Zv:MtM X "list.append" wk2:=by intro a s j H x k v us Q I c f h;obtain⟨l,xs,y,rfl,rfl,b,m,q⟩:=h;cases c;obtain⟨u,rfl,g⟩:=f.one;have⟨z,its,n,r,o,e⟩:=I.lstM b;refine QL F.slot_list_append ⟨_,e,rfl⟩ F.entry_list_append (F.args_list_append_2 _ _) (PySem.list_append l its.toArray n u (by rw[JZ];lia)) ⟨e,?_⟩;refine⟨.non,_,I.lset (its':=its++[u]) b e (by simp) (r.append (.cons g .nil)) ?_,rfl,q⟩;rw[MK,List.length_singleton];lia
def wk3:V->List V->Hp->VK->Prop:=λx c H Q=>∃l b xs a,x=.ref l/\c=[.ref b]/\H l=some (.lst xs)/\H b=some (.lst a)/\xs.length+a.length<=sizeLine/\Q .non (upd H l (.lst (xs++a)))
theorem ki3:MtM X "list.extend" wk3:=by
 intro g s C H x J v us Q I k m h;obtain⟨l,b,xs,E,rfl,rfl,j,A,K,q⟩:=h;cases k;obtain⟨u,rfl,o⟩:=m.one;cases o;have⟨z,its,n,r,L,e⟩:=I.lstM j;have⟨G,a,w,p,y,B⟩:=I.lstM A;have f:its.toArray.size+a.toArray.size<=sizeLine:=by rw[JZ,JZ];lia
 have c:¬ (!its.toArray.isEmpty && Builtin.List.listTooLong (its.toArray.size+a.toArray.size))=true:=by rw[zZ f,lE];exact XC
 refine QL F.slot_list_extend ⟨_,e,rfl⟩ F.entry_list_extend (F.args_list_extend_2 _ _)
  (AutoSeq1.list_extend_list_list_0 l its.toArray n b a.toArray w c (by rw[JZ];lia) (by lia)) ⟨e,B,?_⟩
 refine⟨.non,_,I.lset (its':=its++a) j e (by simp) (r.append p) ?_,rfl,q⟩;rw[MK];lia
def yp6:R2:=λx y H Q=>∃l k xs,x=.ref l/\y=.int k/\H l=some (.lst xs)/\-(2 ^ 63)<=k/\k<2 ^ 63/\xs.length * k.toNat<=sizeLine /\
 ∀p,H p=none->Q (.ref p) (upd H p (.lst (List.replicate k.toNat xs).flatten))
def len_rep{a:Type}(xs:List a)(k:Nat):(List.replicate k xs).flatten.length=k * xs.length:=by
 induction k with
 |zero=>simp
 |succ k b=>rw[cJ,d8,MK,b,kY,gJ]
theorem wv2:OpR X (E_ .Mult) yp6:=by
 intro w s O H x y v u Q I E C h;obtain⟨l,k,xs,rfl,rfl,J,L,K,A,q⟩:=h;cases E;obtain⟨t,rfl⟩:=C;have⟨z,its,n,r,G,e⟩:=I.lstM J;have f:its.toArray.size * k.toNat<=sizeLine:=by rw[JZ,<-G];exact A
 have j:¬ its.toArray.size * k.toNat>(2 ^ 63 - 1) / 8:=by
  have:(sizeLine:Nat)<=(2 ^ 63 - 1) / 8:=by decide
  lia
 have g:¬ (!Builtin.List.listFitsIndex k)=true:=by rw[fitsIndex_both L K];exact XC
 have b:¬ Builtin.List.listTooLong (its.toArray.size * k.toNat)=true:=by rw[zZ f];exact XC
 have c:List.foldl (λp o=>p++o) #[] (List.replicate (if its.toArray.isEmpty=true then 0 else k.toNat) its.toArray)=(List.replicate k.toNat its).flatten.toArray:=by
  have M:∀m:Nat,List.foldl (λp o=>p++o) #[] (List.replicate m its.toArray)=(List.replicate m its).flatten.toArray:=λm=>by have:=foldl_rep its m [];rw[List.nil_append]at this;exact this
  rw[M];cases its with
  |nil=>simp
  |cons a P=>rw[if_neg (by simp)]
 refine wpAny_binaryOp_repeat_ref (T:="list") (U:="int") (by decide) ⟨_,e,rfl⟩ (λB=>aL B k t) noFill_list_mul F.fills_int_mul F.slot_int_rmul repeat_list F.slot_int_index.lookup
  (QL F.slot_int_rmul (aL s k t) F.entry_int_rmul (F.args_int_rmul_2 _ _) (int___rmul___int_list k t l its.toArray n)
   ⟨e,rfl,⟨_,e,rfl⟩,QL F.slot_list_mul ⟨_,e,rfl⟩ F.entry_list_mul (F.args_list_mul_2 _ _) (AutoListH.list___mul___list_int_3 l its.toArray n k t g j b) ⟨e,?_⟩⟩)
 rw[c];exact⟨.ref _,_,I.lnew (t':=s.toks) (r.rep k.toNat) (by rw[len_rep,Nat.mul_comm];exact A),rfl,q _ I.fresh⟩
end L2
namespace Att
open PySem PySem.W PySem.Calls PyProof.Rows
variable {h:CK}
def Uv{P:l_}:∀(ns:List Int)(c:List A_),WellAll P h c (ns.map WData.int)->FP c ns:=by
 intro ns;induction ns with
 |nil=>intro c w;rw[ZZ]at w;cases w;exact .nil
 |cons n ns e =>
  intro c w;rw[HJ]at w;cases w with
  |cons a b=>cases a;exact .cons _ _ (e _ b)
variable {n:Nat}
theorem kj6{l:OpenLaw}(w:l.most=some n){P:l_}{args:List WData}{vals:List A_}
  (c:l.row.toRowW.claim.pre args=true)(j:WellAll P h vals args):
  ∃a m b,vals=[Value.ref a]/\args=[WData.list (b.map WData.int)]/\h.get? a=some {cls:=.type "list",data:=.seq m.toArray}/\FP m b/\b.length<=n:=by
 have k:WShape.hasAll [] args [.list .int]=true:=(pre_splitW c).1;have o:l.pre.holds [] {args:=args}=true:=(pre_splitW c).2;obtain⟨d,r,rfl,z,y⟩:=hasAllW_cons k;obtain rfl:=hasAllW_nil y;obtain⟨A,rfl,x⟩:=hasW_list z;obtain⟨b,rfl⟩:=items_int x;have e:b.length<=n:=by
  unfold OpenLaw.pre at o;have i:(WTm.not (.lt (.lit (.int (n:Int))) (.len (.arg 0)))).holds [] {args:=[.list (b.map .int)] }=true:=by have i:=(holds_andW o).1;rw[w]at i;exact i
  have g:=condW_of i (w_not (w_lt w_lit (w_len_list (w_arg rfl))));rw[GP]at g;refine Nat.le_of_not_lt λq=>?_;have u:(n:Int)<((b.length:Nat):Int):=by lia
  first
   | (rw[decide_eq_true u]at g;exact absurd g (by decide))
   | (simp at g;lia)
 cases j with
 |cons s p =>
  cases p;cases s with
  |list v f=>exact⟨_,_,b,rfl,rfl,v,Uv b _ f,e⟩
def kj1(l:OpenLaw)(args:List WData):l.row.toRowW.claim.post args (.bool true) args=true:=
 postW_of (r:=l.row.toRowW) (X:=(true == true))
  (show WShape.has [] (.bool true) .bool=true by first |rfl |decide |simp[WShape.has,WShape.arms,WShape.armsAll])
  (show(WTm.eq .res (.lit (.bool true))).value [] {args:=args,res:=some (.bool true),after:=args}=some (.bool (true == true)) from w_eq_bool (w_res rfl) w_lit) rfl
def jh1{l:OpenLaw}{q:B_}{loose:List BZ}{H:(BZ->Option A_)->CK->Prop}{F:CW->CK->Prop}{d:DefRec}
  (L:l.most=some n)(A:d.params.defaults=[])
  (call:∀(w:CW)(c b:BJ)(s x:BZ->Option A_)(m:BK)(o:GJ)(v u e:A_)(a:BK)(g:List A_)(ns:List Int),
   Ground q loose [] H w c s x b.heap->F w b.heap ->
   b.heap.get? m=some o->o.data=.func (docDef d.name d.params d.body d.scope v u e)->b.heap.CodeRec u d.name->s d.name=some (.ref m) ->
   b.heap.get? a=some {cls:=.type "list",data:=.seq g.toArray}->FP g ns->ns.length<=n->b.gens = #[] ->
   KN (BV l.prog w) P_ (.call (.ref m) ⟨[.ref a],[]⟩) (λr p=>r=.ok (.ret (.bool true))/\OldK b.heap p.heap/\p.os=b.os/\KZ p.gens) b):
  WalkO q loose H F l.row.toRowW d [] (λf g=>PySem.call f g):=by
 intro w c b s x G Y m o v u e Z kV K Q B E z P args vals as i C I y O;obtain rfl:Z=.none:=Dflts.none E A;obtain rfl:kV=.none:=Dflts.noKw E;obtain⟨a,g,ns,rfl,rfl,j,hints,k⟩:=kj6 L i y;refine enter_call (HD (call w c b s x m o v u e a g ns G Y K (fd_plain Q) B z j hints k P) λr p J=>?_);obtain⟨rfl,X,U,T⟩:=J;exact⟨.inl ⟨.bool true,.bool true,[],rfl,λ_=>rfl,.bool true,kj1 l _,λ_=>⟨List.Pairwise.nil,λ_ M=>(nomatch M)⟩⟩,X,U,T⟩
end Att
namespace L2
open PySem PySem.Spec PyProof.Rows
variable {vs:List A_}{ns:List Int}
def Jj(h:FP vs ns):Vals (ns.map V.int) vs:=by
 induction h with
 |nil=>exact .nil
 |cons n t h a=>exact .cons ⟨t,rfl⟩ a
def Only(H:Hp):Prop:=∀b,H b=none\/∃o a,H b=some (.frz o (.lst a))
variable {k:Nat}{fd:DX}{x:BZ}{sp:Sp}
def kt8{P:B_}{w:CW}{K:CJ}{y M:BZ->Option A_}{CX:CXT}{X a:BK}{c:BJ}
  (KX:K.In c.heap)(E:c.heap.Ns HS y)(g:c.heap.Ns VJ M)(T:∀x:BZ,x ≠ "__name__"->M x=GC x)(G:c.heap.NoLimit)(hg:c.gens = #[])
  (J:c.heap.get? a=some {cls:=.type "list",data:=.seq vs.toArray})(hi:FP vs ns)(hl:ns.length<=sizeLine)(hr:Hx k P_)
  (F:∀base:CK,K.In base->base.Ns HS y->Hl P w K y base CX k X fd [x] sp)(l:∀(s:BJ)(u:A_),T_ s fd ⟨[u],[]⟩ [(x,u)])
  (O:∀H:Hp,Only H->SqL K H a (ns.map V.int)->sp [.ref a] H (λv _=>v=.bl true) λ_ _ _=>False)
  (U:∀H e i,CX [] H c (λ_ _ _=>False) e i->False):
  KN (BV P w) P_ (.call (.ref X) ⟨[.ref a],[]⟩) (λr i=>r=.ok (.ret (.bool true))/\OldK c.heap i.heap/\i.os=c.os/\KZ i.gens) c:=by
 have Z:=Jj hi;have A:=hi.length;have core:∀H:Hp,Only H->SqL K H a (ns.map V.int)->HOk P w H c.heap->(∀b,H b≠none->b=a)->(H a≠none->K.lookup a=none) ->
   KN (BV P w) P_ (.call (.ref X) ⟨[.ref a],[]⟩) (λr i=>r=.ok (.ret (.bool true))/\OldK c.heap i.heap/\i.os=c.os/\KZ i.gens) c:=by
  intro H hO hS C hA hK;have f:∀{b:BK}{o:GJ},c.heap.get? b=some o->H b=none->(ZV c.heap H).get? b=some o:=λe n=>kr9 e n;have L:∀{b:BK}{o:GJ}{es:Array RN}{ep:Nat},c.heap.get? b=some o->o.data=.dict es ep->H b=none:=λ{b o es ep} e d=>by
   cases q:H b with
   |none=>rfl
   |some u=>have Y:b=a:=hA b (by rw[q];simp);subst Y;rw[J]at e;cases e;have d':Data.seq vs.toArray _=Data.dict es ep:=d;cases d'
  have j:∀{b:BK}{m:BZ->Option A_},c.heap.Ns b m->(ZV c.heap H).Ns b m:=λ{b m} ⟨o,es,ep,e,d,r⟩=>⟨o,es,ep,f e (L e d),d,r⟩;have I:K.In (ZV c.heap H):=λb o e=>f (KX b o e) (by
   cases q:H b with
   |none=>rfl
   |some u =>
    have Y:b=a:=hA b (by rw[q];simp);subst Y;rw[hK (by rw[q];simp)]at e;cases e)
  have hM:Mod K y (ZV c.heap H):=⟨I,j E,⟨M,j g,T⟩,let ⟨mc,h1,h2⟩:=G; ⟨mc,j h1,h2⟩⟩;have e0:iZ P w K y (ZV c.heap H) P_ [] c H:=⟨rfl,hM,λb o e=>wi1 e,pQ (kg7 _ _),trivial,λb g=>absurd (show b∈([]:List BK) from g) (by simp),C,.of_eq hg⟩;refine HD ((F _ I (j E)).run P_ [] c H ⟨[.ref a],[]⟩ [.ref a] [.ref a] _ _ hr e0 (l c (.ref a)) (.cons rfl .nil) (O H hO hS)) λr i h=>?_;cases r with
  |error e=>exact(U H e i h).elim
  |ok fl =>
   cases fl with
   |next=>exact False.elim h
   |brk=>exact False.elim h
   |cont=>exact False.elim h
   |ret u =>
    obtain⟨v,H',os,bare,un,B,r',q⟩:=h;have q':v=.bl true:=q;subst q';obtain rfl:u=Value.bool true:=r';refine⟨rfl,OldK.of_keep λb o e=>?_,os,bare⟩;cases q:H b with
    |none=>exact un.keep b o e q (by intro z;exact absurd (show b∈([]:List BK) from z) (by simp)) (by simp)
    |some u =>
     rcases hO b with z | ⟨ob,xs,z⟩
     ·rw[q]at z;cases z
     ·have z2:=un.frzs b ob _ z;have⟨e1,_⟩:=C b _ z;have⟨e2,_⟩:=B b _ z2;rw[e]at e1;cases e1;exact e2
 cases Q:K.lookup a with
 |some o=>have e:=KX a o Q;rw[J]at e;cases e;refine core (λ_=>none) (λ_=>.inl rfl) (.inr ⟨_,vs.toArray,_,Q,rfl,rfl,rfl,by rw[JZ,A];exact hl,by simpa using Z⟩) (λb u z=>by have p:(none:Option HO)=some u:=z;cases p) (λb z=>absurd rfl z) λz=>absurd rfl z
 |none =>
  refine core (λb=>if b=a then some (.frz {cls:=.type "list",data:=.seq vs.toArray} (.lst (ns.map V.int))) else none) (λb=>?_) (.inl (.inr ⟨{cls:=.type "list",data:=.seq vs.toArray},if_pos rfl⟩)) (λb u z=>?_) (λb z=>?_) λ_=>Q
  ·by_cases g:b=a
   ·exact .inr ⟨_,_,if_pos g⟩
   ·exact .inl (if_neg g)
  ·by_cases g:b=a
   ·have p:=(if_pos g).symm.trans z;cases p;subst g;exact⟨J,by rw[GP];exact hl,vs,_,Z,J⟩
   ·have p:=(if_neg g).symm.trans z;cases p
  ·by_cases g:b=a
   ·exact g
   ·exact absurd (if_neg g) z
def wm6{l:W.OpenLaw}{n:Nat}{q:B_}{loose:List BZ}{XP:(BZ->Option A_)->CK->Prop}{I:CW->CK->Prop}{d:DefRec}{K:l_->CJ}{CX:CW->CXT}{sp:CW->Sp}
  (M:l.most=some n)(z:n<=sizeLine)(B:d.params.defaults=[])(L:Hx k P_)
  (U:∀(w:CW)(h:CK),I w h->(K w.params).In h)
  (F:∀(w:CW)(i:BZ->Option A_)(p:BK)(h:CK),(K w.params).In h->h.Ns HS i->i d.name=some (.ref p) ->
   ∃fd:DX,(∀(s:BJ)(u:A_),T_ s fd ⟨[u],[]⟩ [(x,u)]) /\
    ∀base:CK,(K w.params).In base->base.Ns HS i->Hl l.prog w (K w.params) i base (CX w) k p fd [x] (sp w))
  (y:∀(w:CW)(H:Hp)(a:BK)(ns:List Int),ns.length<=n->Only H->SqL (K w.params) H a (ns.map V.int)->sp w [.ref a] H (λv _=>v=.bl true) λ_ _ _=>False)
  (C:∀(w:CW)(H:Hp)(s:BJ)(e:A_)(r:BJ),CX w [] H s (λ_ _ _=>False) e r->False):
  W.WalkO q loose XP I l.row.toRowW d [] (λf vs=>PySem.call f vs):=by
 refine Att.jh1 M B λw E j i mb p o pm cd aa a vs ns G Y ho hd P A m hints c O=>?_;have J:=U w _ Y;have⟨fd,Q,hF⟩:=F w i p _ J G.T.g A;exact kt8 J G.T.g G.T.b G.T.builtins G.T.nolimit O m hints (PL c z) L hF Q (λH Z X=>y w H a ns c Z X) λH e r=>C w H j e r
def G6(s:DR):Arguments:=match s with
 | .FunctionDef _ a _ _ _ _ _ _ _ _=>a
 |_=>{posonlyargs:=[],args:=[],vararg:=none,kwonlyargs:=[],kw_defaults:=[],kwarg:=none,defaults:=[] }
def El(s:DR):List DR:=match s with
 | .FunctionDef _ _ b _ _ _ _ _ _ _=>b
 |_=>[]
def Bf(s:DR):JF:=match s with
 | .FunctionDef _ _ _ _ _ _ sc _ _ _=>sc
 |_=>{kind:=.function,names:=[],isGenerator:=false,isCoroutine:=false}
abbrev CX0:CXT:=λ_ _ _ _ _ _=>False
abbrev E0:XK:=λ_ _ _=>False
def yh3{X:Cx}:Passes CX0 X E0:=λ_ _ _ _ _ _ _ h=>h.elim
structure Fun(K:CJ)(x qual:BZ)(st:DR)(f:BK)(fd:DX):Prop where
 ex:∃(oc:A_)(od:Option BK)(kV doc pm:A_)(an:Option BK)(cdv ct:A_)(osl:Array (Option A_)),
  fd=W.fnOf x qual (G6 st) (El st) (Bf st) .none kV doc pm an cdv ct/\K.lookup f=some ⟨oc,od,.func fd,osl⟩/\W.codeIn K cdv qual=true
 kp:W.keepIn K (.ref f)=true
variable {P:B_}{w:CW}
variable {qual:BZ}{st:DR}{f:BK}
section
variable {K:CJ}{mg:BZ->Option A_}{base:CK}
def Fun.ok{N ps:List BZ}(F:Fun K x qual st f fd)(S:Fp N ps (Bf st))(len:∀vs H Q E,sp vs H Q E->vs.length=ps.length)
  (b:∀(a:A_)(A:EY)(outer:List KH)(s:BJ)(H:Hp)(vs:List V)(Q:VK)(E:XK),Hx k (A.deeper (envOfC qual (Bf st) s.heap.objs.size f a))->sp vs H Q E ->
   ∃t,PSs (X8 CX0 P w K mg base N qual (Bf st) f a A outer s H E).nox (El st) t/\t {nx:=λ_ m=>Q .non m,rt:=Q} (start N vs) H):Hl P w K mg base CX0 (k+1) f fd ps sp:=by
 obtain⟨p,o,kV,l,n,an,a,ct,g,rfl,i,e⟩:=F.ex;refine tB i e S len λA outer s H vs Q E j c=>?_;have⟨t,h,q⟩:=b a A outer s H vs Q E j c;exact⟨t,h.nox,q⟩
def Fun.binds{ps:List BZ}(F:Fun K x qual st f fd)
  (h:∀(kV a e:A_)(an:Option BK)(b ct:A_)(c:List A_),c.length=ps.length->VM (W.fnOf x qual (G6 st) (El st) (Bf st) .none kV a e an b ct) ⟨c,[]⟩=pure (ps.zip c)):Binds K fd ps []:=by
 obtain⟨l,j,kV,a,e,an,b,ct,g,rfl,m,i⟩:=F.ex;exact .all (h kV a e an b ct)
def uN{h:A_}{od an:Option BK}{e:Array (Option A_)}{kV b g a ct:A_}(l:K.lookup f=some ⟨h,od,.func (W.fnOf x qual (G6 st) (El st) (Bf st) .none kV b g an a ct),e⟩)
  (c:W.codeIn K a qual=true)(k:W.keepIn K (.ref f)=true):Fun K x qual st f (W.fnOf x qual (G6 st) (El st) (Bf st) .none kV b g an a ct):=⟨⟨h,od,kV,b,g,an,a,ct,e,rfl,l,c⟩,k⟩
end
variable {X:Cx}
def pv(i:Nat){pos:JN}(e:X.N[i]? = some x:=by rfl)(b:Vis X.env.scope x:=by first |exact Or.inl rfl |exact Or.inr (Or.inl rfl) |exact Or.inr (Or.inr rfl))(c:Zd x:=by decide)
  (a:(x == ("__classdict__" : BZ))=false:=by decide):PE X (.Name x pos) (iH i):=ww2 e b c a
def Ag(H H':Hp):Prop:=∀b o,H b=some o->H' b=some o
def Ag.refl(H:Hp):Ag H H:=λ_ _ h=>h
def Ag.trans{H g e:Hp}(a:Ag H g)(b:Ag g e):Ag H e:=λc o h=>b c o (a c o h)
variable {H':Hp}
def Ag.free{H:Hp}(e:Ag H H'){l:BK}(h:H' l=Option.none):H l=Option.none:=by
 cases q:H l with
 |none=>rfl
 |some o=>rw[e l o q]at h;cases h
section
variable {κ:Type}[DecidableEq κ]
def Uw(a:List (κ×V))(k:κ):Option V:=(a.find? λb=>decide (b.1=k)).map (·.2)
def putK(a:List (κ×V))(k:κ)(v:V):List (κ×V):=
 if(a.any λb=>decide (b.1=k))=true then a.map (λb=>if b.1=k then(b.1,v) else b) else a++[(k,v)]
def Ss{p:κ×V}{r:List (κ×V)}{k:κ}(e:p.1=k):Uw (p::r) k=some p.2:=by simp[Uw,d7,e]
def Sq{p:κ×V}{r:List (κ×V)}{k:κ}(e:¬ p.1=k):Uw (p::r) k=Uw r k:=by simp[Uw,d7,e]
def yQ(k:κ):∀a:List (κ×V),(a.any λb=>decide (b.1=k))=(Uw a k).isSome
 | []=>rfl
 |p::r=>by
  rw[cF];by_cases e:p.1=k
  ·simp only[Ss e,decide_eq_true e,Bool.true_or,jHn]
  ·rw[Sq e,decide_eq_false e,pX];exact yQ k r
theorem Ui(a:List (κ×V))(k:κ)(v:V):(putK a k v).length<=a.length+1:=by
 unfold putK;split
 ·rw[GP];lia
 ·rw[MK,MJ,gP];lia
def aZ.isSome_eq{o:Option V}{u:Option A_}(r:aZ o u):o.isSome=u.isSome:=by
 cases o with
 |none=>cases u with
  |none=>rfl
  |some _=>exact(show False from r).elim
 |some _=>cases u with
  |none=>exact(show False from r).elim
  |some _=>rfl
def aZ.getD{o:Option V}{u:Option A_}{d:V}{d':A_}(r:aZ o u)(a:RelV d d'):RelV (o.getD d) (u.getD d'):=by
 cases o with
 |none=>cases u with
  |none=>exact a
  |some _=>exact(show False from r).elim
 |some _=>cases u with
  |none=>exact(show False from r).elim
  |some _=>exact r
def KV.val{a:List (κ×V)}{vs:List (κ×A_)}(r:KV a vs)(k:κ):aZ (Uw a k) (SX vs k):=by
 unfold KV at r;induction r with
 |nil=>exact True.intro
 | @cons p q ps c h t j =>
  obtain⟨i,l⟩:=h;by_cases e:p.1=k
  ·have g:q.1=k:=i.symm.trans e;have b:SX (q::c) k=some q.2:=by simp[SX,d7,g]
   rw[Ss e,b];exact l
  ·have g:¬ q.1=k:=λz=>e (i.trans z);have b:SX (q::c) k=SX c k:=by simp[SX,d7,g]
   rw[Sq e,b];exact j
def KV.any{a:List (κ×V)}{vs:List (κ×A_)}(r:KV a vs)(k:κ):(a.any λb=>decide (b.1=k))=vs.any λb=>decide (b.1=k):=by
 unfold KV at r;induction r with
 |nil=>rfl
 |cons h t c=>rw[cF,cF,c,h.1]
def KV.repl{b:List (κ×V)}{vs:List (κ×A_)}(r:KV b vs)(k:κ){y:V}{u:A_}(g:RelV y u):
  KV (b.map λa=>if a.1=k then(a.1,y) else a) (vs.map λa=>if a.1=k then(a.1,u) else a):=by
 unfold KV at r ⊢;induction r with
 |nil=>exact .nil
 | @cons p q ps l h t i =>
  rw[HJ,HJ];refine .cons ?_ i;obtain⟨c,j⟩:=h;by_cases e:p.1=k
  ·rw[if_pos e,if_pos (c.symm.trans e)];exact⟨c,g⟩
  ·rw[if_neg e,if_neg (λz=>e (c.trans z))];exact⟨c,j⟩
def KV.put{a:List (κ×V)}{vs:List (κ×A_)}(r:KV a vs)(k:κ){y:V}{u:A_}(b:RelV y u):KV (putK a k y) (stored vs k u):=by
 unfold putK stored;rw[r.any k];by_cases e:(vs.any λc=>decide (c.1=k))=true
 ·rw[if_pos e,if_pos e];exact r.repl k b
 ·rw[if_neg e,if_neg e];exact Paired.snoc r ⟨rfl,b⟩
def KV.length{a:List (κ×V)}{vs:List (κ×A_)}(r:KV a vs):a.length=vs.length:=Paired.length r
end
def m6{k:Key}{u:A_}(r:RelV (kV k) u):(Dc P w).is k u=true:=by
 cases k with
 |inl i=>have⟨t,e⟩:=(show ∃t,u=Value.int i t from r);subst e;exact jk7 P w i t
 |inr x=>have⟨t,e⟩:=(show ∃t,u=Value.str x t from r);subst e;exact jk8 P w x t
def Zm{P:B_}{w:CW}:∀{ks:List Key}{a:List A_},Vals (ks.map kV) a->ItemsAre (Dc P w) ks a
 | [],_,r=>by rw[ZZ]at r;cases r;exact .nil
 |k::ks,_,r=>by
  rw[HJ]at r;cases r with
  |cons h t=>exact .cons (m6 h) (Zm t)
abbrev KT(H:Hp):List (List Key×V)->List (List Key×BK×A_)->Prop:=VR λp q=>p.1=q.1/\H q.2.1=some (.tup (p.1.map kV))/\RelV p.2 q.2.2
variable {kvs:List (List Key×V)}{xs:List (List Key×BK×A_)}
def KT.val{H:Hp}(r:KT H kvs xs)(k:List Key):aZ (Uw kvs k) ((XJ xs k).map (·.2)):=by
 induction r with
 |nil=>exact True.intro
 | @cons p q ps a h t i =>
  obtain⟨g,_,j⟩:=h;by_cases e:p.1=k
  ·have c:q.1=k:=g.symm.trans e;have b:XJ (q::a) k=some q.2:=by simp[XJ,d7,c]
   rw[Ss e,b];exact j
  ·have c:¬ q.1=k:=λz=>e (g.trans z);have b:XJ (q::a) k=XJ a k:=by simp[XJ,d7,c]
   rw[Sq e,b];exact i
def KT.repl{H:Hp}(r:KT H kvs xs)(k:List Key){y:V}{u:A_}(g:RelV y u):
  KT H (kvs.map λb=>if b.1=k then(b.1,y) else b) (xs.map (putAt k u)):=by
 induction r with
 |nil=>exact .nil
 | @cons p q ps l h t i =>
  rw[HJ,HJ];refine .cons ?_ i;obtain⟨a,c,j⟩:=h;unfold putAt;by_cases e:p.1=k
  ·rw[if_pos e,if_pos (a.symm.trans e)];exact⟨a,c,g⟩
  ·rw[if_neg e,if_neg (λz=>e (a.trans z))];exact⟨a,c,j⟩
variable {b:BK}
def KT.put{H:Hp}(r:KT H kvs xs)(k:List Key){y:V}{u:A_}(g:H b=some (.tup (k.map kV)))(a:RelV y u):
  KT H (putK kvs k y) (storedH xs k b u):=by
 have e:(kvs.any λc=>decide (c.1=k))=(XJ xs k).isSome:=by rw[yQ,(r.val k).isSome_eq,Option.isSome_map]
 unfold putK storedH;rw[e];by_cases q:(XJ xs k).isSome=true
 ·rw[if_pos q,if_pos q];exact r.repl k a
 ·rw[if_neg q,if_neg q];exact Paired.snoc r ⟨rfl,g,a⟩
def KT.keeps{H:Hp}(r:KT H kvs xs)(c:∀b a,H b=some (.tup a)->H' b=some (.tup a)):KT H' kvs xs:=
 Paired.mapP r λ_ _ z=>⟨z.1,c _ _ z.2.1,z.2.2⟩
variable {a:BK}{H:Hp}
section
variable {h:CK}
def sS{u:HO}(ok:HOk P w H h)(e:Rd H a u):Cj P w H h a u:=e.ok ok
def nF{kvs:List (Key×V)}(ok:HOk P w H h)(e:Rd H a (.dK kvs)):kvs.length<=sizeLine/\(a == GX)=false/\∃vs,KV kvs vs/\h.DictOf (Dc P w) a vs:=
 show Cj P w H h a (.dK kvs) from sS ok e
def yc1{kvs:List (Key×V)}(ok:HOk P w H h)(e:H a=some (.dK kvs)):kvs.length<=sizeLine/\(a == GX)=false/\∃vs,KV kvs vs/\h.DictOf (Dc P w) a vs:=nF ok (.inl e)
def nW{ks:List Key}(ok:HOk P w H h)(e:H a=some (.tup (ks.map kV))):(LQ (Dc P w)).is h ks a:=by have⟨_,c,r,o,j,i,n,g⟩:=(show Cj P w H h a (.tup (ks.map kV)) from ok a _ e);exact⟨o,c.toArray,n,j,i,g,by simpa using Zm r⟩
def nC(ok:HOk P w H h)(e:Rd H a (.dT kvs)):kvs.length<=sizeLine/\(a == GX)=false /\
  ∃xs,KT H kvs xs/\h.DictOfH (LQ (Dc P w)) a xs:=by
 obtain⟨z,y,xs,r,o,A,B,v,u,s,n,j⟩:=(show Cj P w H h a (.dT kvs) from sS ok e);refine⟨z,y,xs,r,o,A,B,v,u,s,n,λx c=>?_,j⟩;have all:∀{l:List (List Key×V)}{m:List (List Key×BK×A_)},KT H l m->∀x∈m,(LQ (Dc P w)).is h x.1 x.2.1:=by
  intro l m q;induction q with
  |nil=>intro x c;exact nomatch c
  | @cons p q ps C g t i =>
   intro x c;rcases HN.mp c with e |c
   ·subst e;exact nW ok (by rw[<-g.1];exact g.2.1)
   ·exact i x c
 exact all r x c
def yc3(ok:HOk P w H h)(e:H a=some (.dT kvs)):kvs.length<=sizeLine/\(a == GX)=false /\
  ∃xs,KT H kvs xs/\h.DictOfH (LQ (Dc P w)) a xs:=nC ok (.inl e)
end
def sG(H:Hp)(a:BK)(y:V)(r:Option V):Prop:=
 (∃kvs k,Rd H a (.dK kvs)/\y=kV k/\r=Uw kvs k)\/∃kvs k b,Rd H a (.dT kvs)/\y=.ref b/\H b=some (.tup (k.map kV))/\r=Uw kvs k
def i_(H:Hp)(a:BK)(y v:V)(H':Hp):Prop:=
 (∃kvs k,H a=some (.dK kvs)/\y=kV k/\kvs.length<sizeLine/\H'=upd H a (.dK (putK kvs k v))) \/
 ∃kvs k b,H a=some (.dT kvs)/\y=.ref b/\H b=some (.tup (k.map kV))/\kvs.length<sizeLine/\H'=upd H a (.dT (putK kvs k v))
def i_.t{k:List Key}{v:V}(e:H a=some (.dT kvs))(c:H b=some (.tup (k.map kV)))(hl:kvs.length<sizeLine):
  i_ H a (.ref b) v (upd H a (.dT (putK kvs k v))):=.inr ⟨kvs,k,b,e,rfl,c,hl,rfl⟩
variable {A:EY}{pins:List (BK×GJ)}{o:Option V}{s:BJ}{σ:St}{y:V}{r u:A_}{E:A_->BJ->Prop}
variable {h':CK}
section
variable {v:V}
def Inv.big(I:Inv X pins σ H s):GX<s.heap.objs.size:=by have h:HS<s.heap.objs.size:=(I.mod.glob.keeps I.bk).lt;exact gH (by decide) h
def xP{t':Nat}{c:HO}(I:Inv X pins σ H s)(g:Mut (H a))(h:Heap.SameBut a s.heap h')(i:∃q,h'.get? a=some q)(new:Cj X.prog X.w (upd H a c) h' a c):
  Inv X pins σ (upd H a c) {s with heap:=h',toks:=t'}:=
 I.write (x:=a) (e:=a) g (.inl rfl) (λb q j z=>(h.2 b j).trans z) i new
def wq9{kvs:List (Key×V)}{vs:List (Key×A_)}(z:kvs.length<=sizeLine)(c:(a == GX)=false)(rel:KV kvs vs)(dd:h'.DictOf (Dc P w) a vs):
  Cj P w H' h' a (.dK kvs):=⟨z,c,vs,rel,dd⟩
theorem kf6{Q:Unit->BJ->Prop}(T:A.units+1<I_)(I:Inv X pins σ H s)(g:i_ H a y v H')(K:RelV y u)(L:RelV v r)(h:∀J,Inv X pins σ H' J->Q () J):
  BP (BV X.prog X.w) A (S_ (.ref a) u r) Q E s:=by
 rcases g with ⟨kvs,k,e,C,l,F⟩ | ⟨kvs,k,b,e,C,O,l,F⟩
 ·subst C F;obtain⟨z,B,vs,rel,G⟩:=yc1 I.hok e;have m:vs.length<=sizeLine:=by rw[<-rel.length];exact z
  have p:(putK kvs k v).length<=sizeLine:=by have:=Ui kvs k v;lia
  refine wpAny_setItem_pairs (hsz:=m) (m6 K) G λh' i n=>h _ ?_;have U:∃q,h'.get? a=some q:=let ⟨q,_,_,j,_⟩:=i; ⟨q,j⟩;exact xP I (by rw[e];exact True.intro) n U (wq9 p B (rel.put k L) i)
 ·subst C F;cases(show u=Value.ref b from K);obtain⟨z,B,xs,rel,G⟩:=yc3 I.hok e;have m:xs.length<=sizeLine:=by rw[<-Paired.length rel];exact z
  have p:(putK kvs k v).length<=sizeLine:=by have:=Ui kvs k v;lia
  refine wpAny_setItem_heap (hsz:=m) (aM T) (nW I.hok O) G λh' i n=>h _ ?_;obtain⟨q,es,ep,j,h2,h3,Z,_,Y⟩:=i;refine xP I (by rw[e];exact True.intro) n ⟨q,j⟩ ⟨p,B,_,(rel.put k O L).keeps λc ys M=>?_,q,es,ep,j,h2,h3,Z,Y⟩;rw[Aj (yf7 M e (λz=>nomatch z))];exact M
end
def ko8(h:CK)(c:GX<h.objs.size):Cj P w H (h.push {cls:=.type "dict",data:=.dict #[] }) h.objs.size (.dT []):=
 ⟨WL _,beq_eq_false_iff_ne.mpr (Ne.symm (JW c)),[],.nil,_,#[],0,KD _ rfl,⟨rfl,rfl,rfl⟩,rfl,rfl,lD⟩
def wy8:TE:=λ_ H Q=>∀p,H p=none->Q (.ref p) (upd H p (.dT []))
section
variable {pos:JN}
def kw3:PE X (.Dict [] [] pos) wy8:=λpins s σ H Q I h =>
 wpAny_Dict_empty ⟨.ref s.heap.objs.size,_,I.laid (a:=s.heap.objs.size) (o:=.dT []) (t':=s.toks) (λ_ _ q=>JH _ q) (F_ _) (ko8 s.heap I.big),rfl,h _ (I.hok.fresh (F_ _))⟩
end
structure M2(X:Cx)(o:CP)(m:BZ)(apos:JN)(e f:CP)(cpos:JN):Prop where
 base:JQ o m X.env (DY o X.env)=DY o X.env
 few:((PB cpos (BR [e,f] X.env)).all (λx=>!x.1) && (VN cpos (OD [] X.env)).all (λx=>x.1.isSome)
  && decide (([e,f]:List CP).length+([]:List KY).length+(if([]:List KY).isEmpty then 0 else 1)<30))=true
 line:(apos.endLine == cpos.line)=true
 trees:PB cpos (BR [e,f] X.env)=[(false,DY e X.env),(false,DY f X.env)]
def IsD(H:Hp)(a:BK):Prop:=(∃kvs,Rd H a (.dK kvs))\/∃kvs,Rd H a (.dT kvs)
def uK(I:Inv X pins σ H s)(d:IsD H a):
  s.TypeIs (.ref a) "dict"/\(∀b,Value.ref a=.ref b->∃c,s.heap.get? b=some c/\c.dict=none)/\(a == GX)=false:=by
 rcases d with ⟨kvs,e⟩ | ⟨kvs,e⟩
 ·have⟨_,h,vs,_,g⟩:=nF I.hok e;refine⟨g.typeIs,λb q=>?_,h⟩;cases q;obtain⟨c,_,_,j,i,_⟩:=g;exact⟨c,j,i.2.1⟩
 ·have⟨_,h,xs,_,g⟩:=nC I.hok e;refine⟨g.typeIs,λb q=>?_,h⟩;cases q;obtain⟨c,_,_,j,i,_⟩:=g;exact⟨c,j,i.2.1⟩
section
variable {d:V}
def wq8{Q:A_->BJ->Prop}(v:A.units+1<I_)(I:Inv X pins σ H s)(g:sG H a y o)(p:RelV y u)(q:RelV d r)(h:∀m n,Inv X pins σ H n->RelV (o.getD d) m->Q m n):
  BP (BV X.prog X.w) A (call (.builtin "dict.get") [.ref a,u,r]) Q E s:=by
 rcases g with ⟨kvs,k,e,j,l⟩ | ⟨kvs,k,b,e,j,B,l⟩
 ·subst j;have⟨z,i,vs,rel,c⟩:=nF I.hok e;refine YF PySem.F.slot_dict_get c.typeIs PySem.F.entry_dict_get (PySem.F.args_dict_get_3 _ _ _) (meets_dict_get_default (Dc X.prog X.w) a (m6 p) i r) ⟨_,c.mapOf,h _ _ (I.tok _) ?_⟩;rw[l];exact(rel.val k).getD q
 ·subst j;cases(show u=Value.ref b from p);have⟨z,i,xs,rel,c⟩:=nC I.hok e;refine YF PySem.F.slot_dict_get c.typeIs PySem.F.entry_dict_get (PySem.F.args_dict_get_3 _ _ _) (meetsH_dict_get_default (LQ (Dc X.prog X.w)) a b i r) ⟨aM v,k,xs,nW I.hok B,c,h _ _ (I.tok _) ?_⟩;rw[l];exact(rel.val k).getD q
end
def wy7(h ty g:TE):TE:=λσ H Q=>h σ H λx e=>∃a,x=.ref a/\IsD e a/\ty σ e λy i=>g σ i λz c=>∃o,sG c a y o/\Q (o.getD z) c
section
variable {o e f:CP}{apos cpos:JN}{i ty c:TE}
def kw1(O:X.A.units+1<I_)(T:PE X o i)(Y:PE X e ty)(U:PE X f c)(m:M2 X o "get" apos e f cpos):PE X (.Call (.Attribute o "get" apos) [e,f] [] cpos) (wy7 i ty c):=by
 intro pins s σ H Q I h;refine wpAny_Call_method m.base m.few m.line PySem.F.plainAttrs_dict PySem.F.slot_dict_get PySem.F.type_dict_get (thn (T pins s σ H _ I h) λu B j=>?_);obtain⟨x,H1,n,J,a,ex,d,M⟩:=j;subst ex;obtain rfl:u=Value.ref a:=J;obtain⟨q,p,_⟩:=uK n d;refine⟨q,p,?_⟩;rw[m.trees];refine Calls.callWith_builtin rfl (Calls.evalArgs_plain (Calls.spliced_cons (thn (Y pins B σ H1 _ n M) λiv v ⟨y,H2,I2,G,L⟩ =>
  Calls.spliced_cons (thn (U pins v σ H2 _ I2 L) λfv s3 ⟨z,H3,I3,C,ov,g,K⟩=>Calls.spliced_nil ?_))))
 exact wq8 O I3 g G C λw' s4 Z l=>⟨_,H3,Z,l,K⟩
end
end L2
set_option maxHeartbeats 4000000
namespace PD
open PySem PySem.Spec PyProof.Rows L2
abbrev St:=L2.St
inductive D where
 |non |bl (b:Bool) |int (i:Int) |str (x:BZ) |tup (xs:List D) |lst (xs:List D) |exc (c:BZ) (ks:List D) (fs:List D)
def nr{c:Type}{a b:c}(h:a=b):a=b:=h
inductive R(α:Type) where
 |ok (a:α) |exc (e:D) |bad
def R.bind{c b:Type}:R c->(c->R b)->R b
 | .ok a,f=>f a
 | .exc e,_=>.exc e
 | .bad,_=>.bad
instance:Monad R where
 pure:=R.ok
 bind:=R.bind
@[simp] def R.ok_bind{b c:Type}(a:b)(f:b->R c):(R.ok a).bind f=f a:=nr rfl
def RQ{b:Type}(r:R b)(q:b->Prop)(e:D->Prop):Prop:=
 match r with
 | .ok a=>q a
 | .exc x=>e x
 | .bad=>False
def RQ.bind{c b:Type}{r:R c}{f:c->R b}{q:b->Prop}{e:D->Prop}:RQ (r.bind f) q e↔RQ r (λa=>RQ (f a) q e) e:=by cases r<;>exact Iff.rfl
variable {e':D->Prop}
def RQ.mono{b:Type}{r:R b}{q c:b->Prop}{e:D->Prop}(h:RQ r q e)(f:∀a,q a->c a)(g:∀x,e x->e' x):RQ r c e':=by
 cases r with
 |ok a=>exact f a h
 |exc x=>exact g x h
 |bad=>exact h
abbrev AS:=Option BK->Prop
def fresh(H:Hp):AS:=λo=>∃a,o=some a/\H a=none
def AS.plus(S:AS)(H:Hp):AS:=λo=>S o\/fresh H o
def AS.but(S:AS)(a:BK):AS:=λo=>S o/\o≠some a
def RoL(K:CJ)(H:Hp)(a:BK)(b:List V):Prop:=
 (∃o,H a=some (.frz o (.lst b))) \/
  ∃(o:GJ)(its:Array A_)(n:Nat),K.lookup a=some o/\o.cls=.type "list"/\o.dict=none/\o.data=.seq its n/\its.size<=sizeLine/\Vals b its.toList
def LsR(K:CJ)(H:Hp)(S:AS)(a:BK)(b:List V):Prop:=(H a=some (.lst b)/\S (some a))\/(RoL K H a b/\S none)
variable {vs:List V}
def LsR.sq{K:CJ}{H:Hp}{S:AS}{a:BK}(h:LsR K H S a vs):SqL K H a vs:=by
 rcases h with ⟨h,_⟩ | ⟨⟨o,h⟩ |h,_⟩
 ·exact .inl (.inl h)
 ·exact .inl (.inr ⟨o,h⟩)
 ·exact .inr h
def SqL.ls{K:CJ}{H:Hp}{a:BK}{S:AS}(h:SqL K H a vs)(c:S (some a))(b:S none):LsR K H S a vs:=by
 rcases h with (h | ⟨o,h⟩) |h
 ·exact .inl ⟨h,c⟩
 ·exact .inr ⟨.inl ⟨o,h⟩,b⟩
 ·exact .inr ⟨.inr h,b⟩
def kyD:Key->D
 | .inl i=>.int i
 | .inr x=>.str x
def Uq(H:Hp)(c:BZ)(ks:List D)(a:BK)(vs:List V):Prop:=
 (c = "dict"/\∃kk:List (List Key),ks=kk.map (λk=>D.tup (k.map kyD))/\kk.length=vs.length/\kk.Nodup/\∃o,H a=some (.frz o (.dT (kk.zip vs)))) \/
  (c = "dictK"/\∃kk:List Key,ks=kk.map kyD/\kk.length=vs.length/\kk.Nodup/\∃o,H a=some (.frz o (.dK (kk.zip vs))))
structure EC(K:CJ)(c:BZ)(C W:BK):Prop where
 at_:PySem.W.nsIn K PySem.mainGlobals c=some (some (.ref C))
 top:PySem.W.nsIn K PySem.mainGlobals "WebError" = some (some (.ref W))
 cls:∃cd,PySem.W.clsIn K C=some cd/\cd.name=c/\cd.hasDict=true/\cd.mro=[.ref C,.ref W,.type "ValueError",.type "Exception",.type "BaseException",.type "object"]
 wcl:∃cd,PySem.W.clsIn K W=some cd/\cd.name = "WebError"/\cd.mro=[.ref W,.type "ValueError",.type "Exception",.type "BaseException",.type "object"]
 gets:PySem.W.findIn K (.ref C) "__getattribute__" = some (some (.builtin "BaseException.__getattribute__"))
 geta:PySem.W.findIn K (.ref C) "__getattr__" = some none
 cla:PySem.W.findIn K (.ref C) "__class__" = some (some (.builtin "object.__class__"))
 nd:c ≠ "dict"/\c ≠ "dictK"
def G7(C a:BK)(od:Option BK):CK->Prop:=λh=>∃vs b,h.get? a=some ⟨.ref C,od,.fields vs,b⟩
def Ur(K:CJ)(H:Hp)(c:BZ)(ks:List D)(a:BK)(vs:List V):Prop:=∃C W,EC K c C W /\
 ((ks=[]/\vs=[]/\H a=some (.ext (G7 C a none)))\/∃f v b,ks=[.str f]/\vs=[v]/\PySem.W.findIn K (.ref C) f=some none/\H a=some (.ext (G7 C a (some b)))/\H b=some (.xd [(f,v)]))
variable {ks:List D}
def Ur.same{K:CJ}{H H':Hp}{c:BZ}{a:BK}(e:Ag H H')(h:Ur K H c ks a vs):Ur K H' c ks a vs:=
 let ⟨C,W,g,b⟩:=h; ⟨C,W,g,b.imp (λ⟨x,y,z⟩=>⟨x,y,e _ _ z⟩) λ⟨f,v,i,x,y,n,z,t⟩=>⟨f,v,i,x,y,n,e _ _ z,e _ _ t⟩⟩
variable {o o':HO}
def Ur.ne{K:CJ}{H:Hp}{c:BZ}{a l:BK}(hl:H l=some o)(k:∀e,o≠.ext e)(j:∀z,o≠.xd z)(h:Ur K H c ks a vs):Ur K (upd H l o') c ks a vs:=by
 revert h;refine Bt λC W p m=>?_;have g:∀{b e},H b=some (.ext e)->b≠l:=λq z=>by rw[z,hl]at q;exact k _ (Option.some.inj q)
 have i:∀{b e},H b=some (.xd e)->b≠l:=λq z=>by rw[z,hl]at q;exact j _ (Option.some.inj q)
 exact⟨C,W,p,m.imp (λ⟨x,y,z⟩=>⟨x,y,by rw[Aj (g z)];exact z⟩) λ⟨f,v,r,x,y,n,z,t⟩=>⟨f,v,r,x,y,n,by rw[Aj (g z)];exact z,by rw[Aj (i t)];exact t⟩⟩
def XAt(K:CJ)(H:Hp)(S:AS)(c:BZ)(ks:List D)(a:BK)(vs:List V):Prop:=(Uq H c ks a vs/\S (some a))\/Ur K H c ks a vs
def Uq.same{H H':Hp}{c:BZ}{a:BK}(e:Ag H H')(h:Uq H c ks a vs):Uq H' c ks a vs:=
 h.imp (λ⟨f,kk,j,i,b,o,g⟩=>⟨f,kk,j,i,b,o,e _ _ g⟩) λ⟨f,kk,j,i,b,o,g⟩=>⟨f,kk,j,i,b,o,e _ _ g⟩
def Uq.has{H:Hp}{c:BZ}{a:BK}(h:Uq H c ks a vs):∃o,H a=some o/\∀b,o≠.lst b:=by
 rcases h with ⟨_,kk,_,_,_,_,h⟩ | ⟨_,kk,_,_,_,_,h⟩
 ·exact⟨_,h,λb z=>by cases z⟩
 ·exact⟨_,h,λb z=>by cases z⟩
def Uq.ne{H:Hp}{c:BZ}{a l:BK}(hl:l≠a)(h:Uq H c ks a vs):Uq (upd H l o) c ks a vs:=
 h.imp (λ⟨e,kk,i,g,b,x,f⟩=>⟨e,kk,i,g,b,x,by rw[Aj (Ne.symm hl)];exact f⟩) λ⟨e,kk,i,g,b,x,f⟩=>⟨e,kk,i,g,b,x,by rw[Aj (Ne.symm hl)];exact f⟩
variable {S':AS}
def XAt.same{K:CJ}{H H':Hp}{S:AS}{c:BZ}{a:BK}(e:Ag H H')(b:∀o,S o->S' o)(h:XAt K H S c ks a vs):XAt K H' S' c ks a vs:=h.imp (λh=>⟨h.1.same e,b _ h.2⟩) λh=>h.same e
variable {ws ys:List V}
def XAt.wr{K:CJ}{H:Hp}{S:AS}{c:BZ}{a l:BK}(hl:H l=some (.lst ws))(h:XAt K H S c ks a vs):XAt K (upd H l (.lst ys)) S c ks a vs:=
 h.imp (λh=>⟨h.1.ne (λz=>by obtain⟨o,e,n⟩:=h.1.has;rw[<-z,hl]at e;exact n ws (Option.some.inj e).symm),h.2⟩) λh=>h.ne hl (λ_ z=>by cases z) (λ_ z=>by cases z)
def XAt.wrD{K:CJ}{H:Hp}{S:AS}{c:BZ}{a l:BK}(hl:H l=some o)(g:∀b,o≠.ext b)(f:∀z,o≠.xd z)(e:¬ S (some l))(h:XAt K H S c ks a vs):XAt K (upd H l o') S c ks a vs:=
 h.imp (λh=>⟨h.1.ne (λz=>e (z ▸ h.2)),h.2⟩) λh=>h.ne hl g f
def XAt.avoid{K:CJ}{H:Hp}{S:AS}{c:BZ}{a p:BK}(b:H p=none)(h:XAt K H S c ks a vs):XAt K H (AS.but S p) c ks a vs:=
 h.imp (λh=>⟨h.1,h.2,λz=>by cases z;obtain⟨o,e,_⟩:=h.1.has;rw[b]at e;cases e⟩) λh=>h
def XAt.errC{K:CJ}{H:Hp}{S:AS}{c:BZ}{a:BK}(h:XAt K H S c ks a vs)(e:c ≠ "dict")(b:c ≠ "dictK"):Ur K H c ks a vs:=
 h.resolve_left λ⟨q,_⟩=>by
  rcases q with ⟨z,_⟩ | ⟨z,_⟩
  ·exact e z
  ·exact b z
def TpR(K:CJ)(H:Hp)(a:BK)(xs:List V):Prop:=H a=some (.tup xs)
def TpR.of{K:CJ}{H:Hp}{a:BK}{xs:List V}(h:H a=some (.tup xs)):TpR K H a xs:=h
def TpR.sq{K:CJ}{H:Hp}{a:BK}{xs:List V}(h:TpR K H a xs):SqT K H a xs:=SqT.of h
mutual
def Rep(K:CJ)(H:Hp)(S:AS):D->V->Prop
 | .non,v=>v=.non
 | .bl b,v=>v=.bl b
 | .int i,v=>v=.int i
 | .str x,v=>v=.str x
 | .tup e,v=>∃a vs,v=.ref a/\TpR K H a vs/\Ak K H S e vs
 | .lst e,v=>∃a vs,v=.ref a/\LsR K H S a vs/\Ak K H S e vs
 | .exc c ks f,v=>∃a vs,v=.ref a/\XAt K H S c ks a vs/\Ak K H S f vs
def Ak(K:CJ)(H:Hp)(S:AS):List D->List V->Prop
 | [],vs=>vs=[]
 |d::ds,vs=>∃v r,vs=v::r/\Rep K H S d v/\Ak K H S ds r
end
variable {H H':Hp}{K:CJ}
variable {v:V}{ds:List D}
section
variable {b a:Hp}{S S':AS}
def Ag.sqT{a:BK}{xs:List V}(e:Ag H H')(h:SqT K H a xs):SqT K H' a xs:=by
 rcases h with (h | ⟨o,h⟩) |h
 ·exact .inl (.inl (e _ _ h))
 ·exact .inl (.inr ⟨o,e _ _ h⟩)
 ·exact .inr h
def RoL.same{a:BK}(e:Ag H H')(h:RoL K H a vs):RoL K H' a vs:=by
 rcases h with ⟨o,h⟩ |h
 ·exact .inl ⟨o,e _ _ h⟩
 ·exact .inr h
mutual
theorem Oe(g:∀a vs,TpR K H a vs->TpR K H' a vs)(hl:∀a vs,LsR K H S a vs->LsR K H' S' a vs)(f:∀c ks a vs,XAt K H S c ks a vs->XAt K H' S' c ks a vs):∀(d:D)(v:V),Rep K H S d v->Rep K H' S' d v
 | .non,_,h=>h
 | .bl _,_,h=>h
 | .int _,_,h=>h
 | .str _,_,h=>h
 | .tup ds,v,h=>by revert h;refine Br λa vs e q r=>?_;exact⟨a,vs,e,g a vs q,Fo g hl f ds vs r⟩
 | .lst ds,v,h=>by revert h;refine Br λa vs e q r=>?_;exact⟨a,vs,e,hl a vs q,Fo g hl f ds vs r⟩
 | .exc c ks i,v,h=>by revert h;refine Br λa vs e q r=>?_;exact⟨a,vs,e,f c ks a vs q,Fo g hl f i vs r⟩
theorem Fo(g:∀a vs,TpR K H a vs->TpR K H' a vs)(hl:∀a vs,LsR K H S a vs->LsR K H' S' a vs)(f:∀c ks a vs,XAt K H S c ks a vs->XAt K H' S' c ks a vs):∀(ds:List D)(vs:List V),Ak K H S ds vs->Ak K H' S' ds vs
 | [],_,h=>h
 |d::ds,vs,h=>by revert h;refine Br λv r e j i=>?_;exact⟨v,r,e,Oe g hl f d v j,Fo g hl f ds r i⟩
end
def LsR.same{a:BK}(e:Ag H H')(c:∀o,S o->S' o)(h:LsR K H S a vs):LsR K H' S' a vs:=by
 rcases h with ⟨h,z⟩ | ⟨h,z⟩
 ·exact .inl ⟨e _ _ h,c _ z⟩
 ·exact .inr ⟨h.same e,c _ z⟩
def Rep.mono{d:D}(h:Rep K H S d v)(e:Ag H H')(c:∀o,S o->S' o):Rep K H' S' d v:=
 Oe (λ_ _ q=>TpR.of (e _ _ q)) (λ_ _ q=>q.same e c) (λ_ _ _ _ q=>q.same e c) d v h
def Ak.mono(h:Ak K H S ds vs)(e:Ag H H')(c:∀o,S o->S' o):Ak K H' S' ds vs:=
 Fo (λ_ _ q=>TpR.of (e _ _ q)) (λ_ _ q=>q.same e c) (λ_ _ _ _ q=>q.same e c) ds vs h
def wy4{a l:BK}(hl:H l=some (.lst ws))(h:SqT K H a vs):SqT K (upd H l (.lst ys)) a vs:=by
 have ne:∀u,H a=some u->(∀z,u≠.lst z)->upd H l (.lst ys) a=some u:=λu e n=>by
  have:a≠l:=by rintro rfl;rw[hl]at e;exact n ws (Option.some.inj e).symm
  rw[Aj this];exact e
 rcases h with (h | ⟨o,h⟩) |h
 ·exact .inl (.inl (ne _ h (λz q=>by cases q)))
 ·exact .inl (.inr ⟨o,ne _ h (λz q=>by cases q)⟩)
 ·exact .inr h
def t6{a l:BK}(hl:H l=some (.lst ws))(h:TpR K H a vs):TpR K (upd H l (.lst ys)) a vs:=by show upd H l (.lst ys) a=_;rw[Aj (λz=>by have h:H a=_:=h;rw[z,hl]at h;cases h)];exact h
def LsR.wr{a l:BK}(hl:H l=some (.lst ws))(c:¬ S (some l))(h:LsR K H S a vs):LsR K (upd H l (.lst ys)) S a vs:=by
 rcases h with ⟨h,z⟩ | ⟨⟨o,h⟩ |h,z⟩
 ·have:a≠l:=by rintro rfl;exact c z
  exact .inl ⟨by rw[Aj this];exact h,z⟩
 ·have:a≠l:=by rintro rfl;rw[hl]at h;cases h
  exact .inr ⟨.inl ⟨o,by rw[Aj this];exact h⟩,z⟩
 ·exact .inr ⟨.inr h,z⟩
def Rep.wr{d:D}{l:BK}(h:Rep K H S d v)(hl:H l=some (.lst ws))(c:¬ S (some l)):Rep K (upd H l (.lst ys)) S d v:=
 Oe (λ_ _ q=>t6 hl q) (λ_ _ q=>q.wr hl c) (λ_ _ _ _ q=>q.wr hl) d v h
def Ak.wr{l:BK}(h:Ak K H S ds vs)(hl:H l=some (.lst ws))(c:¬ S (some l)):Ak K (upd H l (.lst ys)) S ds vs:=
 Fo (λ_ _ q=>t6 hl q) (λ_ _ q=>q.wr hl c) (λ_ _ _ _ q=>q.wr hl) ds vs h
def wl7{a l:BK}(hl:H l=some o)(e:∀z,o≠.tup z)(c:∀x z,o≠.frz x (.tup z))(h:SqT K H a vs):SqT K (upd H l o') a vs:=by
 rcases h with (h | ⟨x,h⟩) |h
 ·exact .inl (.inl (by rw[Aj (λz=>by rw[z,hl]at h;exact e _ (Option.some.inj h))];exact h))
 ·exact .inl (.inr ⟨x,by rw[Aj (λz=>by rw[z,hl]at h;exact c _ _ (Option.some.inj h))];exact h⟩)
 ·exact .inr h
def vM{a l:BK}(hl:H l=some o)(c:∀z,o≠.tup z)(h:TpR K H a vs):TpR K (upd H l o') a vs:=by show upd H l o' a=_;rw[Aj (λz=>by have h:H a=_:=h;rw[z,hl]at h;exact c _ (Option.some.inj h))];exact h
def LsR.wrD{a l:BK}(hl:H l=some o)(c:∀x z,o≠.frz x (.lst z))(f:¬ S (some l))(h:LsR K H S a vs):LsR K (upd H l o') S a vs:=by
 rcases h with ⟨h,z⟩ | ⟨⟨x,h⟩ |h,z⟩
 ·exact .inl ⟨by rw[Aj (λ(e:a=l)=>f (e ▸ z))];exact h,z⟩
 ·exact .inr ⟨.inl ⟨x,by rw[Aj (λe=>by rw[e,hl]at h;exact c _ _ (Option.some.inj h))];exact h⟩,z⟩
 ·exact .inr ⟨.inr h,z⟩
def Yd:HO->Bool
 | .frz _ (.dT _)=>true
 | .frz _ (.dK _)=>true
 |_=>false
def Wn(h:Yd o=true):∀z,o≠.tup z:=λz e=>by subst e;cases h
def ks5(h:Yd o=true):∀x z,o≠.frz x (.tup z):=λx z e=>by subst e;cases h
def jj8(h:Yd o=true):∀z,o≠.ext z:=λz e=>by subst e;cases h
def wV(h:Yd o=true):∀z,o≠.xd z:=λz e=>by subst e;cases h
def Wm(h:Yd o=true):∀x z,o≠.frz x (.lst z):=λx z e=>by subst e;cases h
def Rep.wrD{d:D}{l:BK}(h:Rep K H S d v)(hl:H l=some o)(c:Yd o=true)(e:¬ S (some l)):Rep K (upd H l o') S d v:=
 Oe (λ_ _ q=>vM hl (Wn c) q) (λ_ _ q=>q.wrD hl (Wm c) e) (λ_ _ _ _ q=>q.wrD hl (jj8 c) (wV c) e) d v h
def Ak.wrD{l:BK}(h:Ak K H S ds vs)(hl:H l=some o)(c:Yd o=true)(e:¬ S (some l)):Ak K (upd H l o') S ds vs:=
 Fo (λ_ _ q=>vM hl (Wn c) q) (λ_ _ q=>q.wrD hl (Wm c) e) (λ_ _ _ _ q=>q.wrD hl (jj8 c) (wV c) e) ds vs h
def LsR.avoid{a p:BK}(c:H p=none)(h:LsR K H S a vs):LsR K H (AS.but S p) a vs:=by
 rcases h with ⟨h,z⟩ | ⟨h,z⟩
 ·exact .inl ⟨h,z,λe=>by cases e;rw[c]at h;cases h⟩
 ·exact .inr ⟨h,z,λe=>by cases e⟩
def Rep.avoid{d:D}{p:BK}(h:Rep K H S d v)(c:H p=none):Rep K H (AS.but S p) d v:=
 Oe (λ_ _ q=>q) (λ_ _ q=>q.avoid c) (λ_ _ _ _ q=>q.avoid c) d v h
def Ak.avoid{p:BK}(h:Ak K H S ds vs)(c:H p=none):Ak K H (AS.but S p) ds vs:=
 Fo (λ_ _ q=>q) (λ_ _ q=>q.avoid c) (λ_ _ _ _ q=>q.avoid c) ds vs h
mutual
def D.imm:D->Bool
 | .lst _=>false
 | .tup ds=>N7 ds
 | .exc _ _ _=>false
 |_=>true
def N7:List D->Bool
 | []=>true
 |d::ds=>d.imm && N7 ds
end
mutual
theorem oW:∀(d:D)(v:V),d.imm=true->Rep K H S d v->Rep K H S' d v
 | .non,_,_,h=>h
 | .bl _,_,_,h=>h
 | .int _,_,_,h=>h
 | .str _,_,_,h=>h
 | .tup ds,v,i,h=>by revert h;refine Br λa vs e q r=>?_;exact⟨a,vs,e,q,R0 ds vs i r⟩
 | .lst ds,v,i,h=>by cases i
 | .exc c ks f,v,i,h=>by cases i
theorem R0:∀(ds:List D)(vs:List V),N7 ds=true->Ak K H S ds vs->Ak K H S' ds vs
 | [],_,_,h=>h
 |d::ds,vs,i,h=>by revert h;refine Br λv r e g f=>?_;have c:(d.imm && N7 ds)=true:=i;rw[QC]at c;exact⟨v,r,e,oW d v c.1 g,R0 ds r c.2 f⟩
end
def Ak.length:∀{ds:List D}{vs:List V},Ak K H S ds vs->ds.length=vs.length
 | [],_,h=>by rw[show _=_ from h];rfl
 |d::ds,vs,h=>by revert h;refine Br λv r c _ e=>?_;obtain rfl:=c;have:=Ak.length e;simp[this]
def Ak.nil:Ak K H S [] []:=rfl
def Ak.cons{d:D}{v:V}{ds:List D}{vs:List V}(h:Rep K H S d v)(r:Ak K H S ds vs):Ak K H S (d::ds) (v::vs):=⟨v,vs,rfl,h,r⟩
def Ak.append:∀{ds es:List D}{vs ws:List V},Ak K H S ds vs->Ak K H S es ws->Ak K H S (ds++es) (vs++ws)
 | [],_,_,_,h,r=>by rw[show _=_ from h];exact r
 |d::ds,_,_,_,h,r=>by revert h;refine Br λv t c f e=>?_;obtain rfl:=c;exact⟨v,_,rfl,f,Ak.append e r⟩
def Ak.get:∀{ds:List D}{vs:List V}{i:Nat}{d:D},Ak K H S ds vs->ds[i]? = some d->∃v,vs[i]? = some v/\Rep K H S d v
 | [],_,_,_,_,e=>by simp at e
 |x::ds,_,0,d,h,e=>by revert h;refine Br λv t f j g=>?_;obtain rfl:=f;simp at e;subst e;exact⟨v,by simp,j⟩
 |x::ds,_,i+1,d,h,e=>by revert h;refine Br λv t c j g=>?_;obtain rfl:=c;refine Ao (λw l k=>?_) (Ak.get (i:=i) g (by simpa using e));exact⟨w,by simpa using l,k⟩
def Ak.take:∀(n:Nat){ds:List D}{vs:List V},Ak K H S ds vs->Ak K H S (ds.take n) (vs.take n)
 |0,_,_,_=>by simp;exact Ak.nil
 |n+1,[],_,h=>by rw[show _=_ from h];exact Ak.nil
 |n+1,d::ds,_,h=>by revert h;refine Br λv t c f e=>?_;obtain rfl:=c;exact⟨v,_,rfl,f,Ak.take n e⟩
def Ak.drop:∀(n:Nat){ds:List D}{vs:List V},Ak K H S ds vs->Ak K H S (ds.drop n) (vs.drop n)
 |0,_,_,h=>h
 |n+1,[],_,h=>by rw[show _=_ from h];exact Ak.nil
 |n+1,d::ds,_,h=>by revert h;refine Br λv t c f e=>?_;obtain rfl:=c;exact Ak.drop n e
def Ak.rep(h:Ak K H S ds vs):∀k:Nat,Ak K H S (List.replicate k ds).flatten (List.replicate k vs).flatten
 |0=>Ak.nil
 |k+1=>by rw[cJ,cJ,d8,d8];exact h.append (h.rep k)
def Ak.one{d:D}(h:Ak K H S [d] vs):∃v,vs=[v]/\Rep K H S d v:=by revert h;refine Br λv r c f e=>?_;obtain rfl:=c;exact⟨v,by rw[show r=[] from e],f⟩
def Ak.two{d e:D}(h:Ak K H S [d,e] vs):∃v u,vs=[v,u]/\Rep K H S d v/\Rep K H S e u:=by revert h;refine Br λv r f j i=>?_;obtain rfl:=f;refine Ao (λu c g=>?_) (i.one);obtain rfl:=c;exact⟨v,u,rfl,j,g⟩
def Ak.set:∀{ds:List D}{vs:List V}(i:Nat){d:D}{v:V},Ak K H S ds vs->Rep K H S d v->Ak K H S (ds.set i d) (vs.set i v)
 | [],_,_,_,_,h,_=>by rw[show _=_ from h];exact Ak.nil
 |x::ds,_,0,d,v,h,r=>by revert h;refine Br λu t e g f=>?_;obtain rfl:=e;exact⟨v,t,rfl,r,f⟩
 |x::ds,_,i+1,d,v,h,r=>by revert h;refine Br λu t c g f=>?_;obtain rfl:=c;exact⟨u,_,rfl,g,Ak.set i f r⟩
end
abbrev Ev:=List (Option D)
structure DC where
 H0:Hp
 S0:AS
 O:List Nat
 Ex:D->V->Hp->Prop
 Z:List BK
def DC.S(c:DC):AS:=λo=>c.S0 o\/∃a,o=some a/\c.H0 a=none/\a∉c.Z
def live(ρ:Ev)(i:Nat):Prop:=∃d,ρ[i]? = some (some d)
def owned(c:DC)(ρ:Ev)(b:St)(a:BK):Prop:=∃i,i∈c.O/\live ρ i/\b[i]? = some (some (.ref a))
def DC.N(c:DC)(ρ:Ev)(b:St):AS:=λo=>c.S o/\∀a,o=some a->¬ owned c ρ b a
abbrev Hd:=Hp->AS->Prop
structure Ut(P:Hd):Prop where
 mono:∀{H H':Hp}{S S':AS},Ag H H'->(∀o,S o->S' o)->P H S->P H' S'
 wr:∀{H:Hp}{S:AS}{l:BK}{ws ys:List V},H l=some (.lst ws)->¬ S (some l)->P H S->P (upd H l (.lst ys)) S
 wrD:∀{H:Hp}{S:AS}{l:BK}{o o':HO},H l=some o->Yd o=true->¬ S (some l)->P H S->P (upd H l o') S
 avoid:∀{H:Hp}{S:AS}{p:BK},H p=none->P H S->P H (AS.but S p)
def Dv(K:CJ)(H:Hp)(S:AS)(d:D)(a:BK):Prop:=
 (∃vs ds,d=.lst ds/\H a=some (.lst vs)/\Ak K H S ds vs)\/∃vs cc ks b,d=.exc cc ks b/\Uq H cc ks a vs/\Ak K H S b vs
def Dv.has{S:AS}{d:D}{a:BK}(h:Dv K H S d a):∃o,H a=some o:=by
 rcases h with ⟨vs,ds,_,h,_⟩ | ⟨vs,cc,ks,b,_,h,_⟩
 ·exact⟨_,h⟩
 ·obtain⟨o,e,_⟩:=h.has;exact⟨o,e⟩
def Dv.mono{S:AS}{d:D}{a:BK}(h:Dv K H S d a)(e:Ag H H')(g:∀o,S o->S' o):Dv K H' S' d a:=
 h.imp (λ⟨vs,ds,f,c,b⟩=>⟨vs,ds,f,e _ _ c,b.mono e g⟩) λ⟨vs,cc,ks,i,f,c,b⟩=>⟨vs,cc,ks,i,f,c.same e,b.mono e g⟩
def Dv.avoid{S:AS}{d:D}{a p:BK}(h:Dv K H S d a)(f:H p=none):Dv K H (AS.but S p) d a:=
 h.imp (λ⟨vs,ds,e,c,b⟩=>⟨vs,ds,e,c,b.avoid f⟩) λ⟨vs,cc,ks,g,e,c,b⟩=>⟨vs,cc,ks,g,e,c,b.avoid f⟩
def Dv.wr{S:AS}{d:D}{a l:BK}(h:Dv K H S d a)(hl:H l=some (.lst ws))(g:¬ S (some l))(b:a≠l):Dv K (upd H l (.lst ys)) S d a:=
 h.imp (λ⟨vs,ds,f,e,c⟩=>⟨vs,ds,f,by rw[Aj b];exact e,c.wr hl g⟩) λ⟨vs,cc,ks,i,f,e,c⟩=>⟨vs,cc,ks,i,f,e.ne (Ne.symm b),c.wr hl g⟩
def Dv.wrD{S:AS}{d:D}{a l:BK}(h:Dv K H S d a)(hl:H l=some o)(g:Yd o=true)(i:¬ S (some l))(b:a≠l):Dv K (upd H l o') S d a:=
 h.imp (λ⟨vs,ds,f,e,c⟩=>⟨vs,ds,f,by rw[Aj b];exact e,c.wrD hl g i⟩) λ⟨vs,cc,ks,j,f,e,c⟩=>⟨vs,cc,ks,j,f,e.ne (Ne.symm b),c.wrD hl g i⟩
def Dv.rep{S:AS}{d:D}{a:BK}(h:Dv K H S d a)(e:S' (some a))(f:∀o,S o->S' o):Rep K H S' d (.ref a):=by
 rcases h with ⟨vs,ds,rfl,c,b⟩ | ⟨vs,cc,ks,g,rfl,c,b⟩
 ·exact⟨a,vs,rfl,.inl ⟨c,e⟩,b.mono (Ag.refl _) f⟩
 ·exact⟨a,vs,rfl,.inl ⟨c,e⟩,b.mono (Ag.refl _) f⟩
def Dv.lst{S:AS}{a:BK}(h:Dv K H S (.lst ds) a):∃vs,H a=some (.lst vs)/\Ak K H S ds vs:=by
 rcases h with ⟨vs,f,e,c,b⟩ | ⟨vs,cc,ks,g,e,_⟩
 ·cases e;exact⟨vs,c,b⟩
 ·cases e
def Dv.dct{S:AS}{cc:BZ}{fs:List D}{a:BK}(h:Dv K H S (.exc cc ks fs) a):∃vs,Uq H cc ks a vs/\Ak K H S fs vs:=by
 rcases h with ⟨vs,i,e,_⟩ | ⟨vs,j,b,c,e,g,f⟩
 ·cases e
 ·cases e;exact⟨vs,g,f⟩
structure Bb(K:CJ)(c:DC)(hs:List Hd)(ρ:Ev)(σ:St)(H:Hp):Prop where
 same:Ag c.H0 H
 len:ρ.length=σ.length
 own:∀i d,i∈c.O->ρ[i]? = some (some d)->∃a,σ[i]? = some (some (.ref a))/\(c.H0 a=none/\a∉c.Z)/\Dv K H (c.N ρ σ) d a
 apart:∀i j a,i∈c.O->j∈c.O->live ρ i->live ρ j->σ[i]? = some (some (.ref a))->σ[j]? = some (some (.ref a))->i=j
 oth:∀i d,i∉c.O->ρ[i]? = some (some d)->∃v,σ[i]? = some (some v)/\Rep K H (c.N ρ σ) d v
 held:∀P∈hs,Ut P/\P H (c.N ρ σ)
 excl:∀a∈c.Z,H a≠none
variable {c:DC}{ρ:Ev}{hs:List Hd}{σ:St}
def Bb.mono(h:Bb K c hs ρ σ H)(e:Ag H H'):Bb K c hs ρ σ H' where
 same:=h.same.trans e
 len:=h.len
 own:=λi d hi hd=>by refine Er (λa e2 e4 e5=>?_) (h.own i d hi hd);exact⟨a,e2,e4,e5.mono e λ_ q=>q⟩
 apart:=h.apart
 oth:=λi d hi hd=>by refine Ao (λv e1 e2=>?_) (h.oth i d hi hd);exact⟨v,e1,e2.mono e λ_ q=>q⟩
 held:=λP hp=>⟨(h.held P hp).1,(h.held P hp).1.mono e (λ_ q=>q) (h.held P hp).2⟩
 excl:=λa ha z=>h.excl a ha (e.free z)
def Bb.ownd(h:Bb K c hs ρ σ H){a:BK}(o:owned c ρ σ a):∃o,H a=some o:=by revert o;refine Er λi g b e=>?_;obtain⟨d,j⟩:=b;refine Er (λl f _ k=>?_) (h.own i d g j);rw[e]at f;cases f;exact k.has
def Bb.ownL(h:Bb K c hs ρ σ H)(i:Nat)(ds:List D)(hi:i∈c.O)(e:ρ[i]? = some (some (.lst ds))):∃a vs b,D.lst ds=.lst b/\σ[i]? = some (some (.ref a))/\H a=some (.lst vs)/\(c.H0 a=none/\a∉c.Z)/\Ak K H (c.N ρ σ) b vs:=by refine Er (λa l k j=>?_) (h.own i _ hi e);refine Ao (λvs g f=>?_) (j.lst);exact⟨a,vs,ds,rfl,l,g,k,f⟩
def Bb.freshN(h:Bb K c hs ρ σ H){o:Option BK}(q:fresh H o):c.N ρ σ o:=by revert q;refine Ao λa f e=>?_;obtain rfl:=f;refine⟨.inr ⟨a,rfl,h.same.free e,λg=>h.excl a g e⟩,λb j i=>?_⟩;cases j;have⟨vs,e'⟩:=h.ownd i;rw[e]at e';cases e'
inductive Lv where
 |fr |no |any
def lvS(c:DC)(ρ:Ev)(σ:St)(H:Hp):Lv->AS
 | .fr=>fresh H
 | .no=>c.N ρ σ
 | .any=>c.S
def Lv.le:Lv->Lv->Bool
 | .fr,_=>true
 | .no,.fr=>false
 | .no,_=>true
 | .any,.any=>true
 | .any,_=>false
def Ls(h:Bb K c hs ρ σ H){l l':Lv}(hl:l.le l'=true){o:Option BK}(q:lvS c ρ σ H l o):lvS c ρ σ H l' o:=by
 cases l with
 |fr =>
  cases l' with
  |fr=>exact q
  |no=>exact h.freshN q
  |any=>exact(h.freshN q).1
 |no =>
  cases l' with
  |fr=>cases hl
  |no=>exact q
  |any=>exact q.1
 |any =>
  cases l' with
  |fr=>cases hl
  |no=>cases hl
  |any=>exact q
def Hg(e:Ag H H'){l:Lv}{o:Option BK}(q:lvS c ρ σ H' l o):lvS c ρ σ H l o:=by
 cases l with
 |fr=>obtain⟨a,rfl,z⟩:=q;exact⟨a,rfl,e.free z⟩
 |no=>exact q
 |any=>exact q
def Rv(h:Bb K c hs ρ σ H){l:Lv}{o:Option BK}(q:fresh H o):lvS c ρ σ H l o:=Ls h (l:=.fr) (by cases l<;>rfl) q
def Lw(h:Bb K c hs ρ σ H)(e:Ag H H'){l:Lv}{o:Option BK}(q:AS.plus (lvS c ρ σ H l) H' o):lvS c ρ σ H l o:=by
 rcases q with q | ⟨a,rfl,z⟩
 ·exact q
 ·exact Rv h ⟨a,rfl,e.free z⟩
section
variable (K:CJ)(c:DC)
def tD(l:Lv)(f:Ev->R D):TE:=λσ H Q=>∃hs ρ,Bb K c hs ρ σ H/\RQ (f ρ) (λd=>∀v H',Ag H H'->Rep K H' (lvS c ρ σ H l) d v->Q v H') (λe=>∀v H',Ag H H'->Rep K H' (lvS c ρ σ H .any) e v->c.Ex e v H')
def tF(l:Lv)(f:Ev->R D):TE:=λσ H Q=>∃hs ρ,Bb K c hs ρ σ H/\RQ (f ρ) (λd=>∀a vs ds H',d=.lst ds->Ag H H'->H a=none->H' a=some (.lst vs)->Ak K H' (AS.but (lvS c ρ σ H l) a) ds vs->Q (.ref a) H') (λe=>∀v H',Ag H H'->Rep K H' (lvS c ρ σ H .any) e v->c.Ex e v H')
def tDT(f:Ev->R Bool):TT:=λσ H Q=>∃hs ρ,Bb K c hs ρ σ H/\RQ (f ρ) (λb=>∀H',Ag H H'->Q b H') (λe=>∀v H',Ag H H'->Rep K H' (lvS c ρ σ H .any) e v->c.Ex e v H')
def tDA(n:Nat)(l:Lv)(f:Ev->R (List D)):TA:=λσ H Q=>∃hs ρ,Bb K c hs ρ σ H/\RQ (f ρ) (λds=>∀vs H',Ag H H'->Ak K H' (lvS c ρ σ H l) ds vs->ds.length=n->Q vs H') (λe=>∀v H',Ag H H'->Rep K H' (lvS c ρ σ H .any) e v->c.Ex e v H')
end
inductive Fl where
 |nx (ρ:Ev) |rt (d:D) |bk (ρ:Ev) |ct (ρ:Ev)
def Fl.ends(K:CJ)(c:DC)(hs:List Hd)(E:Ends):Fl->Prop
 | .nx ρ=>∀a H',Bb K c hs ρ a H'->E.nx a H'
 | .bk ρ=>∀a H',Bb K c hs ρ a H'->E.bk a H'
 | .ct ρ=>∀a H',Bb K c hs ρ a H'->E.ct a H'
 | .rt d=>∀v H',Ag c.H0 H'->Rep K H' c.S d v->E.rt v H'
def Rg(K:CJ)(c:DC)(e:D):Prop:=∀v H',Ag c.H0 H'->Rep K H' c.S e v->c.Ex e v H'
def tDS(K:CJ)(c:DC)(g:Ev->R Fl):TS:=λE σ H=>∃hs ρ,Bb K c hs ρ σ H/\RQ (g ρ) (Fl.ends K c hs E) (Rg K c)
abbrev PEd(X:Cx)(c:DC)(l:Lv)(e:CP)(f:Ev->R D):Prop:=PE X e (tD X.K c l f)
abbrev PEf(X:Cx)(c:DC)(l:Lv)(e:CP)(f:Ev->R D):Prop:=PE X e (tF X.K c l f)
abbrev PTd(X:Cx)(c:DC)(e:CP)(f:Ev->R Bool):Prop:=PT X e (tDT X.K c f)
abbrev PAd(X:Cx)(c:DC)(l:Lv)(es:List CP)(f:Ev->R (List D)):Prop:=PA X es (tDA X.K c es.length l f)
abbrev PSd(X:Cx)(c:DC)(st:DR)(g:Ev->R Fl):Prop:=PS X st (tDS X.K c g)
abbrev Us(X:Cx)(c:DC)(a:List DR)(g:Ev->R Fl):Prop:=PSs X a (tDS X.K c g)
def PE.imp{X:Cx}{e:CP}{t t':TE}(h:PE X e t)(i:∀σ H Q,t' σ H Q->t σ H Q):PE X e t':=λa s σ H Q I q=>h a s σ H Q I (i σ H Q q)
def PT.imp{X:Cx}{e:CP}{t t':TT}(h:PT X e t)(i:∀σ H Q,t' σ H Q->t σ H Q):PT X e t':=λa s σ H Q I q=>h a s σ H Q I (i σ H Q q)
def PW.imp{X:Cx}{e:CP}{t t':TT}(h:PW X e t)(i:∀σ H Q,t' σ H Q->t σ H Q):PW X e t':=λb a s σ H Q I q=>h b a s σ H Q I (i σ H Q q)
def PA.imp{X:Cx}{es:List CP}{t t':TA}(h:PA X es t)(i:∀σ H Q,t' σ H Q->t σ H Q):PA X es t':=λpos a s σ H Q I q=>h pos a s σ H Q I (i σ H Q q)
variable {st:DR}
def PS.imp{X:Cx}{t t':TS}(h:PS X st t)(i:∀E σ H,t' E σ H->t E σ H):PS X st t':=λa s σ H E I q=>h a s σ H E I (i E σ H q)
def PSs.imp{X:Cx}{st:List DR}{t t':TS}(h:PSs X st t)(i:∀E σ H,t' E σ H->t E σ H):PSs X st t':=λa s σ H E I q=>h a s σ H E I (i E σ H q)
variable {l:Lv}
def Dk{e:D}{a:Hp}(h:∀v H',Ag H H'->Rep K H' (lvS c ρ σ H .any) e v->c.Ex e v H')(s:Ag H a):∀v H',Ag a H'->Rep K H' (lvS c ρ σ a .any) e v->c.Ex e v H':=
 λv H' b r=>h v H' (s.trans b) r
variable {f:Ev->R D}
def Bk{Q:VK}(E:Bb K c hs ρ σ H)
  (h:RQ (f ρ) (λd=>∀v H',Ag H H'->Bb K c hs ρ σ H'->Rep K H' (lvS c ρ σ H l) d v->Q v H') (λe=>∀v H',Ag H H'->Rep K H' (lvS c ρ σ H .any) e v->c.Ex e v H')):tD K c l f σ H Q:=
 ⟨hs,ρ,E,h.mono (λd q v H' s r=>q v H' s (E.mono s) r) λ_ q=>q⟩
def Dd{n:Nat}{f:Ev->R (List D)}{Q:List V->Hp->Prop}(E:Bb K c hs ρ σ H)
  (h:RQ (f ρ) (λds=>∀vs H',Ag H H'->Bb K c hs ρ σ H'->Ak K H' (lvS c ρ σ H l) ds vs->ds.length=n->Q vs H') (λe=>∀v H',Ag H H'->Rep K H' (lvS c ρ σ H .any) e v->c.Ex e v H')):tDA K c n l f σ H Q:=
 ⟨hs,ρ,E,h.mono (λd q v H' s r a=>q v H' s (E.mono s) r a) λ_ q=>q⟩
def Hj{f:Ev->R Bool}{Q:Bool->Hp->Prop}(E:Bb K c hs ρ σ H)
  (h:RQ (f ρ) (λb=>∀H',Ag H H'->Bb K c hs ρ σ H'->Q b H') (λe=>∀v H',Ag H H'->Rep K H' (lvS c ρ σ H .any) e v->c.Ex e v H')):tDT K c f σ H Q:=
 ⟨hs,ρ,E,h.mono (λd q H' s=>q H' s (E.mono s)) λ_ q=>q⟩
def R.of{b:Type}:Option b->R b
 |some a=>.ok a
 |none=>.bad
@[simp] def R.of_some{b:Type}(a:b):R.of (some a)=.ok a:=nr rfl
def RQ.of{b:Type}{o:Option b}{q:b->Prop}{e:D->Prop}(h:RQ (R.of o) q e):∃a,o=some a/\q a:=by
 cases o with
 |none=>exact h.elim
 |some a=>exact⟨a,rfl,h⟩
def Ej{g e:Type}{r:R g}{f:g->R e}{b:e}(h:r.bind f=.ok b):∃a,r=.ok a/\f a=.ok b:=by
 cases r with
 |ok a=>exact⟨a,rfl,h⟩
 |exc _=>cases h
 |bad=>cases h
def inv1{a:Type}{g:List D->Option a}{d:a}(e:g ds=some d)(h:g []=none)(b:∀x y l,g (x::y::l)=none):∃x,ds=[x]:=by
 cases ds with
 |nil=>exact nomatch h.symm.trans e
 |cons x l =>
  cases l with
  |nil=>exact⟨x,rfl⟩
  |cons y l=>exact nomatch (b x y l).symm.trans e
def inv2{a:Type}{g:List D->Option a}{d:a}(e:g ds=some d)(i:g []=none)(h:∀x,g [x]=none)(b:∀x y z l,g (x::y::z::l)=none):∃x y,ds=[x,y]:=by
 cases ds with
 |nil=>exact nomatch i.symm.trans e
 |cons x l =>
  cases l with
  |nil=>exact nomatch (h x).symm.trans e
  |cons y l =>
   cases l with
   |nil=>exact⟨x,y,rfl⟩
   |cons z l=>exact nomatch (b x y z l).symm.trans e
def nos{a:Type}{d:a}{P:Prop}(h:(none:Option a)=some d):P:=nomatch h
def Be{p:Prop}[Decidable p]{b:Type}{x y:b}(h:(if p then some x else none)=some y):p/\x=y:=by
 by_cases a:p
 ·rw[if_pos a]at h;exact⟨a,Option.some.inj h⟩
 ·rw[if_neg a]at h;cases h
def rD(K:CJ)(g:D->D->Option D):R2:=λx y H Q=>∃S b a d,Rep K H S b x/\Rep K H S a y/\g b a=some d/\∀z H',Ag H H'->Rep K H' (AS.plus S H) d z->Q z H'
def rDF(K:CJ)(g:D->D->Option D):R2:=λx y H Q=>∃S e b d,Rep K H S e x/\Rep K H S b y/\g e b=some d /\
 ∀a vs ds H',d=.lst ds->Ag H H'->H a=none->H' a=some (.lst vs)->Ak K H' (AS.but S a) ds vs->Q (.ref a) H'
def rU1(K:CJ)(g:D->Option D):V->Hp->VK->Prop:=λx H Q=>∃S a d,Rep K H S a x/\g a=some d/\∀z H',Ag H H'->Rep K H' (AS.plus S H) d z->Q z H'
def b2(b a:Ev->R D)(g:D->D->Option D):Ev->R D:=λρ=>(b ρ).bind λx=>(a ρ).bind λy=>R.of (g x y)
def b1(a:Ev->R D)(g:D->Option D):Ev->R D:=λρ=>(a ρ).bind λx=>R.of (g x)
variable {g:D->D->Option D}{g1:D->Option D}
section
variable {a b:Ev->R D}{Q:VK}
def jH(h:tD K c l (b2 a b g) σ H Q):tOp (rD K g) (tD K c l a) (tD K c l b) σ H Q:=by revert h;refine Bt λhs ρ E q=>?_;have q:=RQ.bind.mp q;refine Bk E (q.mono (λA k x F i B r=>?_) λ_ z=>z);have k:=RQ.bind.mp k;refine Bk B (k.mono (λw u y C j G p=>?_) λe z=>Dk z i);refine Ao (λd e s=>?_) (u.of);refine⟨lvS c ρ σ H l,A,w,d,r.mono j (λ_ z=>z),p.mono (Ag.refl _) (λ_ z=>Hg i z),e,λz H' m n=>?_⟩;exact s z H' ((i.trans j).trans m) (n.mono (Ag.refl _) λ_ z=>Lw E (i.trans j) z)
def yi8(h:tD K c l (b1 a g1) σ H Q):tUn (rU1 K g1) (tD K c l a) σ H Q:=by revert h;refine Bt λhs ρ E q=>?_;have q:=RQ.bind.mp q;refine Bk E (q.mono (λr p x s i u m=>?_) λ_ z=>z);refine Ao (λd e n=>?_) (p.of);refine⟨lvS c ρ σ H l,r,d,m,e,λz H' j k=>?_⟩;exact n z H' (i.trans j) (k.mono (Ag.refl _) λ_ z=>Lw E i z)
def yj3(hl:∀ρ d,f ρ=.ok d->∃ds,d=.lst ds)(h:tD K c l f σ H Q):tF K c l f σ H Q:=by
 revert h;refine Bt λhs ρ E q=>?_;refine⟨hs,ρ,E,?_⟩;cases e:f ρ with
 |ok d=>rw[e]at q;obtain⟨ds,rfl⟩:=hl ρ d e;intro a vs m H' k s j i r;cases k;exact q (.ref a) H' s ⟨a,vs,rfl,.inl ⟨i,Rv E ⟨a,rfl,j⟩⟩,r.mono (Ag.refl _) λ_ z=>z.1⟩
 |exc e'=>rw[e]at q;exact q
 |bad=>rw[e]at q;exact q
end
variable {X:Cx}{a b:CP}{l':Lv}{pos:JN}
section
variable {f e i:Ev->R D}
def dI(j:Operator)(k:OpR X (E_ j) (rD X.K g))(n:PEd X c l a e)(m:PEd X c l b i):PEd X c l (.BinOp a j b pos) (b2 e i g):=PE.imp (sU k n m) λ_ _ _ h=>jH h
def yl5{j:XN}(k:OpR X (DG j) (rD X.K g))(p:PEd X c l a e)(n:PEd X c l b i)(m:HQ j b=false):PEd X c l (.Compare a [j] [b] pos) (b2 e i g):=PE.imp (wi7 k p n m) λ_ _ _ h=>jH h
def un_{j:UnaryOp}(k:UnR X (bV j) (rU1 X.K g1))(m:PEd X c l a e):PEd X c l (.UnaryOp j a pos) (b1 e g1):=PE.imp (yh7 k m) λ_ _ _ h=>yi8 h
def PEd.up(h:PEd X c l a f)(hl:l.le l'=true:=by rfl):PEd X c l' a f:=PE.imp h λσ H Q ⟨hs,ρ,E,q⟩ =>
 ⟨hs,ρ,E,q.mono (λd q v H' s r=>q v H' s (r.mono (Ag.refl _) λ_ z=>Ls E hl z)) λ_ z=>z⟩
def PEf.up(h:PEf X c l a f)(hl:l.le l'=true:=by rfl):PEf X c l' a f:=PE.imp h λσ H Q ⟨hs,ρ,E,q⟩ =>
 ⟨hs,ρ,E,q.mono (λd q a vs ds H' m s k j r=>q a vs ds H' m s k j (r.mono (Ag.refl _) λ_ z=>⟨Ls E hl z.1,z.2⟩)) λ_ z=>z⟩
def PEf.d(h:PEf X c l a f)(hl:∀ρ d,f ρ=.ok d->∃ds,d=.lst ds):PEd X c l a f:=PE.imp h λ_ _ _ h=>yj3 hl h
def chk(f:Ev->R D):Ev->R D:=λρ=>(f ρ).bind λd=>if d.imm then .ok d else .bad
def PEd.chk(h:PEd X c l a f):PEd X c .fr a (chk f):=PE.imp h λσ H Q ⟨hs,ρ,E,q⟩=>by
 refine⟨hs,ρ,E,(RQ.bind.mp q).mono (λd q v H' s r=>?_) λ_ z=>z⟩;by_cases j:d.imm=true
 ·rw[if_pos j]at q;exact q v H' s (oW d v j r)
 ·rw[if_neg j]at q;exact q.elim
def gv(i:Nat):Ev->R D:=λρ=>match ρ[i]? with
 |some (some d)=>.ok d
 |_=>.bad
theorem nZ{i:Nat}{q:D->Prop}{e:D->Prop}(h:RQ (gv i ρ) q e):∃d,ρ[i]? = some (some d)/\q d:=by
 unfold gv at h;split at h
 ·rename_i d e;exact⟨d,e,h⟩
 ·exact h.elim
def yk4{i:Nat}(hi:c.O.contains i=false){Q:VK}(h:tD K c .no (gv i) σ H Q):iH i σ H Q:=by revert h;refine Bt λhs ρ E q=>?_;refine Ao (λd e q=>?_) (nZ q);refine Ao (λv j r=>?_) (E.oth i d (by simpa using hi) e);exact⟨v,j,q v H (Ag.refl H) r⟩
def wz8{i:Nat}{Q:VK}(h:tD K c .any (gv i) σ H Q):iH i σ H Q:=by
 revert h;refine Bt λhs ρ E q=>?_;refine Ao (λd e q=>?_) (nZ q);by_cases k:i∈c.O
 ·refine Er (λp j m r=>?_) (E.own i d k e);exact⟨_,j,q (.ref p) H (Ag.refl H) (r.rep (.inr ⟨p,rfl,m.1,m.2⟩) λ_ z=>z.1)⟩
 ·refine Ao (λv j r=>?_) (E.oth i d k e);exact⟨v,j,q v H (Ag.refl H) (r.mono (Ag.refl _) λ_ z=>z.1)⟩
def nv(i:Nat){x:BZ}(hi:c.O.contains i=false:=by rfl)(n:X.N[i]? = some x:=by rfl)(k:Vis X.env.scope x:=by first |exact Or.inl rfl |exact Or.inr (Or.inl rfl) |exact Or.inr (Or.inr rfl))(m:Zd x:=by decide)
  (j:(x == ("__classdict__" : BZ))=false:=by decide):PEd X c .no (.Name x pos) (gv i):=PE.imp (pv i n k m j) λ_ _ _ h=>yk4 hi h
def av(i:Nat){x:BZ}(n:X.N[i]? = some x:=by rfl)(k:Vis X.env.scope x:=by first |exact Or.inl rfl |exact Or.inr (Or.inl rfl) |exact Or.inr (Or.inr rfl))(m:Zd x:=by decide)
  (j:(x == ("__classdict__" : BZ))=false:=by decide):PEd X c .any (.Name x pos) (gv i):=PE.imp (pv i n k m j) λ_ _ _ h=>wz8 h
def kd(d:D):Ev->R D:=λ_=>.ok d
def mX{d:D}(j:∀H S,Rep K H S d v){Q:VK}(h:tD K c l (kd d) σ H Q):tC v σ H Q:=by revert h;refine Bt λhs ρ E q=>?_;exact q v H (Ag.refl H) (j _ _)
def ki{i:Int}{j}:PEd X c .fr (.Constant (.int i) j pos) (kd (.int i)):=PE.imp wv6 λ_ _ _ h=>mX (d:=.int i) (v:=.int i) (λ_ _=>rfl) h
def kb{b:Bool}{j}:PEd X c .fr (.Constant (.bool b) j pos) (kd (.bl b)):=PE.imp yh5 λ_ _ _ h=>mX (d:=.bl b) (v:=.bl b) (λ_ _=>rfl) h
def kn{j}:PEd X c .fr (.Constant .none j pos) (kd .non):=PE.imp wv8 λ_ _ _ h=>mX (d:=.non) (v:=.non) (λ_ _=>rfl) h
def rY:D->D->Option D
 | .int i,.int j=>some (.int (i+j))
 | .str x,.str y=>if x.length+y.length<=16777216 then some (.str (x++y)) else none
 | .tup h,.tup ys=>if h.length+ys.length<=16777216 then some (.tup (h++ys)) else none
 |_,_=>none
def fB:D->D->Option D
 | .int i,.int j=>some (.int (i - j))
 |_,_=>none
def Hh:D->D->Option D
 | .int i,.int j=>if(-(2 ^ 64)<i/\i<2 ^ 64)\/(-(2 ^ 64)<j/\j<2 ^ 64)\/(i.natAbs<2 ^ 2048/\j.natAbs<2 ^ 2048) then some (.int (i * j)) else none
 |_,_=>none
def Hv:D->D->Option D
 | .int i,.int j=>if 0<j/\j<4611686018427387904 then some (.int (i / j)) else none
 |_,_=>none
def Gk:D->D->Option D
 | .int i,.int j=>if 0<j then some (.int (i % j)) else none
 |_,_=>none
def b7:D->D->Option D
 | .int i,.int j=>if 0<=j/\j<=1000000/\i.natAbs<2 ^ 64 then some (.int (i ^ j.toNat)) else none
 |_,_=>none
def mO:D->D->Option D
 | .lst h,.lst ys=>if h.length+ys.length<=16777216 then some (.lst (h++ys)) else none
 |_,_=>none
def fC:D->D->Option D
 | .lst h,.int k=>if -(2 ^ 63)<=k/\k<2 ^ 63/\h.length * k.toNat<=16777216 then some (.lst (List.replicate k.toNat h).flatten) else none
 |_,_=>none
def dB:D->Option D
 | .int i=>some (.int (-i))
 |_=>none
def jT{f:A_->A_->Sem A_}{C:Int->Int->Prop}{h:Int->Int->V}(F:OpR X f (rI C h))
  (G:∀n m d,g n m=some d->∃i j,n=.int i/\m=.int j/\C i j/\∀H S,Rep X.K H S d (h i j)):OpR X f (rD X.K g):=by
 rintro k s σ H x y v u Q I z w ⟨S,n,m,d,B,A,e,q⟩;refine Yb (λi j r p J E=>?_) (G n m d e);obtain rfl:=r;obtain rfl:=p;exact F k s σ H x y v u Q I z w ⟨i,j,B,A,J,q _ H (Ag.refl _) (E _ _)⟩
def wL{f:A_->A_->Sem A_}{h:Int->Int->V}(E:OpR X f (rI0 h))
  (F:∀n m d,g n m=some d->∃i j,n=.int i/\m=.int j/\∀H S,Rep X.K H S d (h i j)):OpR X f (rD X.K g):=by
 rintro k s σ H x y v u Q I z w ⟨S,n,m,d,B,A,e,q⟩;refine Br (λi j r p C=>?_) (F n m d e);obtain rfl:=r;obtain rfl:=p;exact E k s σ H x y v u Q I z w ⟨i,j,B,A,q _ H (Ag.refl _) (C _ _)⟩
def yg7:OpR X (E_ .Sub) (rD X.K fB):=wL wv3 λj h d e=>by cases j<;>first |exact nos e | (cases h<;>first |exact nos e | (cases e;exact⟨_,_,rfl,rfl,λ_ _=>rfl⟩))
def wi5:OpR X (E_ .Mult) (rI (λi j=>(-(2 ^ 64)<i/\i<2 ^ 64)\/(-(2 ^ 64)<j/\j<2 ^ 64)\/(i.natAbs<2 ^ 2048/\j.natAbs<2 ^ 2048)) λi j=>.int (i * j)):=opI λi j _ _ _ _ _ k q=>mul_int q (by
 rcases k with h |h | ⟨n,m⟩
 ·exact .of_left (intBits_le_64 h.1 h.2)
 ·exact .of_right (intBits_le_64 h.1 h.2)
 ·exact IntMulOk.of_le (intBits_le_iff.mpr n) (intBits_le_iff.mpr m) (by decide))
def yg3:OpR X (E_ .Mult) (rD X.K Hh):=jT wi5 λk j d e=>by cases k<;>first |exact nos e | (cases j<;>first |exact nos e | (obtain⟨h,rfl⟩:=Be e;exact⟨_,_,rfl,rfl,h,λ_ _=>rfl⟩))
theorem kv7:OpR X (E_ .FloorDiv) (rI (λ_ j=>0<j/\j<4611686018427387904) λi j=>.int (i / j)):=opI λi j _ _ _ _ _ h q=>by
 have r:(0:Int)<j:=h.1;have p:j<4611686018427387904:=h.2;refine floordiv_int (by omega) (by rw[Int.fdiv_eq_ediv_of_nonneg i (by omega)];exact q) (.inl (PyProof.noPylong_of_log2 ?_));have m:j.natAbs<2 ^ 62:=by
  have:(2:Nat) ^ 62=4611686018427387904:=by decide
  omega
 have:=(Nat.log2_lt (n:=j.natAbs) (k:=62) (by omega)).mpr m;omega
def wu5:OpR X (E_ .FloorDiv) (rD X.K Hv):=jT kv7 λk j d e=>by cases k<;>first |exact nos e | (cases j<;>first |exact nos e | (obtain⟨h,rfl⟩:=Be e;exact⟨_,_,rfl,rfl,h,λ_ _=>rfl⟩))
def yg2:OpR X (E_ .Mod) (rD X.K Gk):=jT wv0 λk j d e=>by cases k<;>first |exact nos e | (cases j<;>first |exact nos e | (obtain⟨h,rfl⟩:=Be e;exact⟨_,_,rfl,rfl,h,λ_ _=>rfl⟩))
def yg6:OpR X (E_ .Pow) (rD X.K b7):=jT wv1 λk j d e=>by cases k<;>first |exact nos e | (cases j<;>first |exact nos e | (obtain⟨h,rfl⟩:=Be e;exact⟨_,_,rfl,rfl,h,λ_ _=>rfl⟩))
def yg4:UnR X (bV .USub) (rU1 X.K dB):=by rintro h s σ H x v Q I j ⟨S,m,d,k,e,q⟩;cases m<;>first |exact nos e | (cases e;exact ya0 h s σ H x v Q I j ⟨_,k,q _ H (Ag.refl _) rfl⟩)
end
def Ar{p:BK}(h:H p=none)(o:HO):Ag H (upd H p o):=λb u e=>by rw[Aj (Bh e h)];exact e
section
variable {f i j:Ev->R D}
def Gj{n:Nat}(h:n<=16777216):n<=sizeLine:=by rw[CV];exact h
def kv6:OpR X (E_ .Add) (λx y H Q=>∃a b ys,x=.ref a/\y=.ref b/\SqT X.K H a []/\SqT X.K H b ys/\Q (.ref b) H):=by
 intro w s σ H x y v u Q I J G h;obtain⟨a,b,ys,rfl,rfl,U,T,q⟩:=h;cases J;cases G;have⟨P,L,p1,_⟩:=I.tuple U;have⟨e,Z,M,_⟩:=I.tuple T;cases L;have⟨⟨cls,Y,data,E⟩,z,B,n,A⟩:=id p1;have⟨⟨C,r,data2,p⟩,k,m,O,hd2⟩:=id M;simp only at B A m hd2;subst B A m hd2;exact QX ⟨_,z,rfl⟩ ⟨_,k,rfl⟩ RK WD PySem.F.slot_tuple_add PySem.F.entry_tuple_add (PySem.F.args_tuple_add_2 _ _)
   (tuple_addW0 a b ([]:List A_).toArray e.toArray n O Y r E p (by simp)) ⟨z,k,⟨.ref b,H,I,rfl,q⟩⟩
theorem yf8:OpR X (E_ .Add) (rD X.K rY):=by
 rintro h s σ H x y v u Q I w n ⟨S,Z,G,d,m,k,e,q⟩;cases Z with
 |int i =>
  cases G with
  |int j=>cases e;exact wu8 h s σ H x y v u Q I w n ⟨i,j,m,k,q _ H (Ag.refl _) rfl⟩
  |_=>exact nos e
 |str p =>
  cases G with
  |str r=>obtain⟨J,rfl⟩:=Be e;exact jt6 h s σ H x y v u Q I w n ⟨p,r,m,k,Gj J,q _ H (Ag.refl _) rfl⟩
  |_=>exact nos e
 |tup O =>
  cases G with
  |tup ys =>
   obtain⟨J,rfl⟩:=Be e;revert m;refine Br λa vs B F m=>?_;obtain rfl:=B;revert k;refine Br λb ws A E k=>?_;obtain rfl:=A;have T:=m.length;have P:=k.length;by_cases M:vs=[]
   ·subst M;have Y:O=[]:=jFl T;subst Y;exact kv6 h s σ H _ _ v u Q I w n ⟨a,b,ws,rfl,rfl,(TpR.sq F),(TpR.sq E),q _ H (Ag.refl _) ⟨b,ws,rfl,E,k.mono (Ag.refl _) λ_ z=>.inl z⟩⟩
   ·refine wi4 h s σ H _ _ v u Q I w n ⟨a,b,vs,ws,rfl,rfl,(TpR.sq F),(TpR.sq E),M,Gj (by lia),λL=>?_,λL p C=>?_⟩
    ·subst L;have U:ys=[]:=jFl P;subst U;exact q _ H (Ag.refl _) ⟨a,vs,rfl,F,by rw[YK];exact m.mono (Ag.refl _) λ_ z=>.inl z⟩
    ·exact q _ _ (Ar C _) ⟨p,_,rfl,TpR.of An,(m.mono (Ar C _) λ_ z=>.inl z).append (k.mono (Ar C _) λ_ z=>.inl z)⟩
  |_=>exact nos e
 |_=>exact nos e
theorem wi3:OpR X (E_ .Add) (λx y H Q=>∃l b B A,x=.ref l/\y=.ref b/\SqL X.K H l B/\SqL X.K H b A/\B.length+A.length<=sizeLine/\∀p,H p=none->Q (.ref p) (upd H p (.lst (B++A)))):=by
 intro L s σ H x y v u Q I Z Y h;obtain⟨l,b,B,A,rfl,rfl,hH,hB,hz,q⟩:=h;cases Z;cases Y;have⟨m,r,pl,_⟩:=I.list hH;have⟨k,J,E,_⟩:=I.list hB;obtain⟨⟨cls,dd,data,U⟩,M,P,n,O⟩:=pl.isList;obtain⟨⟨T,G,data2,C⟩,w,z,n2,hd2⟩:=E.isList;simp only at P O z hd2;subst P O z hd2;have hl:=r.length;have aa:=J.length;have e:m.toArray++k.toArray=(m++k).toArray:=by simp
 refine QX ⟨_,M,rfl⟩ ⟨_,w,rfl⟩ noFill_list_add seq_list_add PySem.F.slot_list_add PySem.F.entry_list_add (PySem.F.args_list_add_2 _ _) (list_addW l b m.toArray k.toArray n n2 dd G U C (by rw[JZ,JZ];lia)) ⟨M,w,?_⟩;rw[e];exact⟨.ref _,_,I.lnew (t':=s.toks) (r.append J) (by rw[MK];lia),rfl,q _ I.fresh⟩
theorem yf9:OpR X (E_ .Add) (rDF X.K mO):=by
 rintro k s σ H x y v u Q I B A ⟨S,G,F,d,w,r,e,q⟩;cases G with
 |lst J =>
  cases F with
  |lst ys=>obtain⟨O,rfl⟩:=Be e;revert w;refine Br λa vs n E w=>?_;obtain rfl:=n;revert r;refine Br λb ws m C r=>?_;obtain rfl:=m;have M:=w.length;have L:=r.length;refine wi3 k s σ H _ _ v u Q I B A ⟨a,b,vs,ws,rfl,rfl,E.sq,C.sq,Gj (by lia),λp h=>?_⟩;exact q p _ _ _ rfl (Ar h _) h An (((w.avoid h).mono (Ar h _) λ_ z=>z).append ((r.avoid h).mono (Ar h _) λ_ z=>z))
  |_=>exact nos e
 |_=>exact nos e
def we1{i j:Ev->R D}{d:D}(h:b2 i j mO ρ=.ok d):∃ds,d=.lst ds:=by
 refine Ao (λx _ h=>?_) (Ej h);refine Ao (λy _ h=>?_) (Ej h);cases e:mO x y with
 |none=>rw[e]at h;cases h
 |some k=>rw[e]at h;cases h;cases x<;>first |exact nos e | (cases y<;>first |exact nos e | (obtain⟨_,rfl⟩:=Be e;exact⟨_,rfl⟩))
def sub(h:PEd X c l a i)(e:PEd X c l b j):PEd X c l (.BinOp a .Sub b pos) (b2 i j fB):=dI .Sub yg7 h e
def mul(h:PEd X c l a i)(e:PEd X c l b j):PEd X c l (.BinOp a .Mult b pos) (b2 i j Hh):=dI .Mult yg3 h e
def fdiv(h:PEd X c l a i)(e:PEd X c l b j):PEd X c l (.BinOp a .FloorDiv b pos) (b2 i j Hv):=dI .FloorDiv wu5 h e
def mod(h:PEd X c l a i)(e:PEd X c l b j):PEd X c l (.BinOp a .Mod b pos) (b2 i j Gk):=dI .Mod yg2 h e
def pow(h:PEd X c l a i)(e:PEd X c l b j):PEd X c l (.BinOp a .Pow b pos) (b2 i j b7):=dI .Pow yg6 h e
def neg(e:PEd X c l a i):PEd X c l (.UnaryOp .USub a pos) (b1 i dB):=un_ yg4 e
end
mutual
def D.py:D->PyData
 | .non=>.none
 | .bl b=>.bool b
 | .int i=>.int i
 | .str x=>.str x
 | .tup e=>.tuple (Gm e)
 | .lst e=>.list (Gm e)
 | .exc _ _ _=>.none
def Gm:List D->List PyData
 | []=>[]
 |d::ds=>d.py::Gm ds
end
mutual
def D.cok:Nat->D->Bool
 |n,.tup e=>match n with |0=>false |n+1=>Cw n e
 |n,.lst e=>match n with |0=>false |n+1=>Cw n e
 |_,.str x=>PyData.strOk x
 |_,.exc _ _ _=>false
 |_,_=>true
def Cw:Nat->List D->Bool
 |_,[]=>true
 |n,d::ds=>d.cok n && Cw n ds
end
mutual
theorem Jc:∀(n:Nat)(d:D),d.cok n=true->d.py.canLay0=true/\d.py.depth<=n
 |n,.non,_=>by simp[D.py,PyData.canLay0,PyData.depth]
 |n,.bl _,_=>by simp[D.py,PyData.canLay0,PyData.depth]
 |n,.int _,_=>by simp[D.py,PyData.canLay0,PyData.depth]
 |n,.str x,h=>by
  have i:PyData.strOk x=true:=by simpa[D.cok] using h
  simp[D.py,PyData.canLay0,PyData.depth,i]
 |0,.tup e,h=>by simp[D.cok]at h
 |0,.lst e,h=>by simp[D.cok]at h
 |n+1,.tup e,h=>by
  have i:Cw n e=true:=by simpa[D.cok] using h
  have:=Fe n e i;simp only[D.py,PyData.canLay0,PyData.depth];exact⟨this.1,by lia⟩
 |n+1,.lst e,h=>by
  have i:Cw n e=true:=by simpa[D.cok] using h
  have:=Fe n e i;simp only[D.py,PyData.canLay0,PyData.depth];exact⟨this.1,by lia⟩
 |n,.exc _ _ _,h=>by simp[D.cok]at h
theorem Fe:∀(n:Nat)(ds:List D),Cw n ds=true->PyData.canLayAll0 (Gm ds)=true/\PyData.depthAll (Gm ds)<=n
 |n,[],_=>by simp[Gm,PyData.canLayAll0,PyData.depthAll]
 |n,d::ds,h=>by
  have e:d.cok n=true/\Cw n ds=true:=by simpa[Cw] using h
  have j:=Jc n d e.1;have i:=Fe n ds e.2;simp only[Gm,PyData.canLayAll0,PyData.depthAll,j.1,i.1,Bool.and_self,true_and];lia
end
variable {pins:List (BK×GJ)}{s:BJ}
section
variable {S:AS}
mutual
theorem Dl(I:Inv X pins σ H s):∀(n:Nat)(d:D)(v:V)(u:A_),d.cok n=true->Rep X.K H S d v->RelV v u->∃as,Reads s.heap u d.py as
 |n,.non,v,u,_,h,r=>by cases(show v=.non from h);cases(show u=Value.none from r);exact⟨_,by simp only[D.py];exact .none⟩
 |n,.bl b,v,u,_,h,r=>by cases(show v=.bl b from h);cases(show u=Value.bool b from r);exact⟨_,by simp only[D.py];exact .bool b⟩
 |n,.int i,v,u,_,h,r=>by cases(show v=.int i from h);have⟨t,e⟩:=(show ∃t,u=Value.int i t from r);cases e;exact⟨_,by simp only[D.py];exact .int i t⟩
 |n,.str x,v,u,_,h,r=>by cases(show v=.str x from h);have⟨t,e⟩:=(show ∃t,u=Value.str x t from r);cases e;exact⟨_,by simp only[D.py];exact .str x t⟩
 |0,.tup j,v,u,k,h,r=>by simp[D.cok]at k
 |0,.lst j,v,u,k,h,r=>by simp[D.cok]at k
 |n+1,.tup j,v,u,k,h,r=>by
  obtain⟨a,vs,rfl,q,z⟩:=h;cases(show u=Value.ref a from r);have⟨w,y,p,_⟩:=I.tuple (TpR.sq q);have B:Cw n j=true:=by simpa[D.cok] using k
  have⟨as,A⟩:=Od I n j vs w B z y;obtain⟨o,C,F,m,E⟩:=p;exact⟨_,by simp only[D.py];exact .tuple C F E (by simpa using A)⟩
 |n+1,.lst j,v,u,k,h,r=>by
  obtain⟨a,vs,rfl,q,z⟩:=h;cases(show u=Value.ref a from r);have⟨w,y,p,_⟩:=I.list q.sq;have B:Cw n j=true:=by simpa[D.cok] using k
  have⟨as,A⟩:=Od I n j vs w B z y;obtain⟨o,C,F,m,E⟩:=p.isList;exact⟨_,by simp only[D.py];exact .list C F E (by simpa using A)⟩
 |n,.exc _ _ _,v,u,k,h,r=>by simp[D.cok]at k
theorem Od(I:Inv X pins σ H s):∀(n:Nat)(ds:List D)(vs:List V)(j:List A_),Cw n ds=true->Ak X.K H S ds vs->Vals vs j->∃as,ReadsAll s.heap j (Gm ds) as
 |n,[],vs,j,_,h,r=>by cases(show vs=[] from h);cases r;exact⟨_,by simp only[Gm];exact .nil⟩
 |n,d::ds,vs,j,k,h,r=>by
  revert h;refine Br λv e i y x=>?_;obtain rfl:=i;cases r with
  |cons q p =>
   have m:d.cok n=true/\Cw n ds=true:=by simpa[Cw] using k
   have⟨as,w⟩:=Dl I n d v _ m.1 y q;obtain⟨bs,u⟩:=Od I n ds e _ m.2 x p;exact⟨_,by simp only[Gm];exact .cons w u⟩
end
end
def D.eqb(x y:D):Bool:=PyData.eqv x.py y.py
def eqD(x y:D):Option D:=if x.cok 60 && y.cok 60 then some (.bl (x.eqb y)) else none
def neD(x y:D):Option D:=if x.cok 60 && y.cok 60 then some (.bl (!x.eqb y)) else none
def inD:D->D->Option D
 |x,.lst ys=>if x.cok 60 && Cw 60 ys then some (.bl (ys.any λy=>y.eqb x)) else none
 |x,.tup ys=>if x.cok 60 && Cw 60 ys then some (.bl (ys.any λy=>y.eqb x)) else none
 |_,_=>none
def aO:D->D->Option D
 |x,.lst ys=>if x.cok 60 && Cw 60 ys then some (.bl (!ys.any λy=>y.eqb x)) else none
 |x,.tup ys=>if x.cok 60 && Cw 60 ys then some (.bl (!ys.any λy=>y.eqb x)) else none
 |_,_=>none
section
variable {f i e:Ev->R D}
def Vm(x:D):∀ys:List D,((Gm ys).any λy=>PyData.eqv y x.py)=ys.any λy=>y.eqb x
 | []=>by simp[Gm]
 |y::ys=>by simp only[Gm,cF,Vm x ys];rfl
theorem rA(E:X.A.units+70<I_):OpR X (DG .Eq) (rD X.K eqD):=by rintro pins s σ H x y v u Q I n m ⟨S,k,j,d,z,w,e,q⟩;obtain⟨h,rfl⟩:=Be e;rw[QC]at h;have⟨as,r⟩:=Dl I 60 k x v h.1 z n;have⟨bs,p⟩:=Dl I 60 j y u h.2 w m;have C:=Jc 60 k h.1;have B:=Jc 60 j h.2;exact SeqAt.compareEq_reads r p C.1 B.1 (by lia) ⟨.bl _,H,I,rfl,q _ H (Ag.refl _) rfl⟩
theorem yp1(E:X.A.units+70<I_):OpR X (DG .NotEq) (rD X.K neD):=by rintro pins s σ H x y v u Q I n m ⟨S,k,j,d,z,w,e,q⟩;obtain⟨h,rfl⟩:=Be e;rw[QC]at h;have⟨as,r⟩:=Dl I 60 k x v h.1 z n;have⟨bs,p⟩:=Dl I 60 j y u h.2 w m;have C:=Jc 60 k h.1;have B:=Jc 60 j h.2;exact SeqAt.compareNe_reads r p C.1 B.1 (by lia) ⟨.bl _,H,I,rfl,q _ H (Ag.refl _) rfl⟩
theorem yo9(F:X.A.units+70<I_):OpR X (DG .In) (rD X.K inD):=by
 rintro pins s σ H x y v u Q I z w ⟨S,k,E,d,C,B,e,q⟩;cases E with
 |lst ys=>obtain⟨h,rfl⟩:=Be e;rw[QC]at h;have r:(D.lst ys).cok 61=true:=h.2;have⟨as,m⟩:=Dl I 60 k x v h.1 C z;have⟨bs,j⟩:=Dl I 61 _ y u r B w;have p:=Jc 60 k h.1;have n:=Fe 60 ys h.2;simp only[D.py]at j;exact SeqAt.in_list_reads j m n.1 p.1 (by lia) ⟨.bl _,H,I,rfl,by rw[Vm];exact q _ H (Ag.refl _) rfl⟩
 |tup ys=>obtain⟨h,rfl⟩:=Be e;rw[QC]at h;have r:(D.tup ys).cok 61=true:=h.2;have⟨as,m⟩:=Dl I 60 k x v h.1 C z;have⟨bs,j⟩:=Dl I 61 _ y u r B w;have p:=Jc 60 k h.1;have n:=Fe 60 ys h.2;simp only[D.py]at j;exact SeqAt.in_tuple_reads j m n.1 p.1 (by lia) ⟨.bl _,H,I,rfl,by rw[Vm];exact q _ H (Ag.refl _) rfl⟩
 |_=>exact nos e
theorem yg5(F:X.A.units+70<I_):OpR X (DG .NotIn) (rD X.K aO):=by
 rintro pins s σ H x y v u Q I z w ⟨S,k,E,d,C,B,e,q⟩;cases E with
 |lst ys=>obtain⟨h,rfl⟩:=Be e;rw[QC]at h;have r:(D.lst ys).cok 61=true:=h.2;have⟨as,m⟩:=Dl I 60 k x v h.1 C z;have⟨bs,j⟩:=Dl I 61 _ y u r B w;have p:=Jc 60 k h.1;have n:=Fe 60 ys h.2;simp only[D.py]at j;exact SeqAt.notIn_list_reads j m n.1 p.1 (by lia) ⟨.bl _,H,I,rfl,by rw[Vm];exact q _ H (Ag.refl _) rfl⟩
 |tup ys=>obtain⟨h,rfl⟩:=Be e;rw[QC]at h;have r:(D.tup ys).cok 61=true:=h.2;have⟨as,m⟩:=Dl I 60 k x v h.1 C z;have⟨bs,j⟩:=Dl I 61 _ y u r B w;have p:=Jc 60 k h.1;have n:=Fe 60 ys h.2;simp only[D.py]at j;exact SeqAt.notIn_tuple_reads j m n.1 p.1 (by lia) ⟨.bl _,H,I,rfl,by rw[Vm];exact q _ H (Ag.refl _) rfl⟩
 |_=>exact nos e
def fV(p:Int->Int->Bool):D->D->Option D
 | .int i,.int j=>some (.bl (p i j))
 |_,_=>none
abbrev ltD:=fV λi j=>decide (i<j)
abbrev leD:=fV λi j=>decide (i<=j)
abbrev gtD:=fV λi j=>decide (j<i)
abbrev geD:=fV λi j=>decide (j<=i)
def jU{h:XN}{p:Int->Int->Bool}(k:OpR X (DG h) (rI0 λi j=>.bl (p i j))):OpR X (DG h) (rD X.K (fV p)):=wL k λn m d e=>by cases n<;>first |exact nos e | (cases m<;>first |exact nos e | (cases e;exact⟨_,_,rfl,rfl,λ_ _=>rfl⟩))
def iM:OpR X (DG .Lt) (rD X.K ltD):=jU yh2
def mJ:OpR X (DG .LtE) (rD X.K leD):=jU yh1
def yo8:OpR X (DG .Gt) (rD X.K gtD):=jU yh0
def yo7:OpR X (DG .GtE) (rD X.K geD):=jU yg9
def Tf:D->Bool
 | .non=>true
 |_=>false
def fH(x y:D):Option D:=if Tf y=true then some (.bl (Tf x)) else none
def Wy(x y:D):Option D:=if Tf y=true then some (.bl !Tf x) else none
def wM{d:D}(h:Tf d=true):d=.non:=by cases d<;>first |rfl |cases h
def wB{S:AS}{d:D}(r:Rep K H S d v):decide (v=V.non)=Tf d:=by
 cases d with
 |non=>cases(show v=.non from r);rfl
 |bl _=>cases(show v=.bl _ from r);rfl
 |int _=>cases(show v=.int _ from r);rfl
 |str _=>cases(show v=.str _ from r);rfl
 |tup _=>obtain⟨a,vs,rfl,_⟩:=r;rfl
 |lst _=>obtain⟨a,vs,rfl,_⟩:=r;rfl
 |exc c k f=>obtain⟨a,vs,rfl,_⟩:=r;rfl
def yg1:OpR X (DG .Is) (rD X.K fH):=by rintro pins s σ H x y v u Q I j h ⟨S,r,p,d,m,k,e,q⟩;obtain⟨n,rfl⟩:=Be e;cases wM n;refine wu9 pins s σ H x y v u Q I j h ⟨k,?_⟩;rw[wB m];exact q _ H (Ag.refl _) rfl
def wu7:OpR X (DG .IsNot) (rD X.K Wy):=by rintro pins s σ H x y v u Q I j h ⟨S,r,p,d,m,k,e,q⟩;obtain⟨n,rfl⟩:=Be e;cases wM n;refine wi6 pins s σ H x y v u Q I j h ⟨k,?_⟩;rw[wB m];exact q _ H (Ag.refl _) rfl
def ixD:D->D->Option D
 | .lst h,.int i=>atI h i
 | .tup h,.int i=>atI h i
 | .str z,.int i=>if z.length<=16777216 then(atI z.cps.toList i).map λk=>.str ⟨#[k]⟩ else none
 |_,_=>none
def xY{S:AS}{i:Int}{d:D}(r:Ak K H S ds vs)(e:atI ds i=some d):∃v,atI vs i=some v/\Rep K H S d v:=by
 unfold atI at e ⊢;rw[<-r.length];cases k:ixN ds.length i with
 |none=>rw[k]at e;cases e
 |some j=>rw[k]at e;exact r.get e
def yp0:IxR X (rD X.K ixD):=by
 rintro value slice pins s σ H x y v u Q I A r ⟨S,J,F,d,m,B,e,q⟩ hs;cases J with
 |lst G =>
  cases F with
  |int i=>revert m;refine Br λa vs p C m=>?_;obtain rfl:=p;refine Ao (λw E j=>?_) (xY m e);exact wg6 value slice pins s σ H _ y v u Q I A r ⟨a,vs,i,w,rfl,B,C.sq,E,q _ H (Ag.refl _) (j.mono (Ag.refl _) λ_ z=>.inl z)⟩ hs
  |_=>exact nos e
 |tup G =>
  cases F with
  |int i=>revert m;refine Br λa vs n C m=>?_;obtain rfl:=n;refine Ao (λw E j=>?_) (xY m e);exact ws9 value slice pins s σ H _ y v u Q I A r ⟨a,vs,i,w,rfl,B,(TpR.sq C),E,q _ H (Ag.refl _) (j.mono (Ag.refl _) λ_ z=>.inl z)⟩ hs
  |_=>exact nos e
 |str z =>
  cases F with
  |int i =>
   obtain⟨h,e⟩:z.length<=16777216/\(atI z.cps.toList i).map (λk=>D.str ⟨#[k]⟩)=some d:=by
    have e:(if z.length<=16777216 then(atI z.cps.toList i).map (λk=>D.str ⟨#[k]⟩) else none)=some d:=e;by_cases h:z.length<=16777216
    ·rw[if_pos h]at e;exact⟨h,e⟩
    ·rw[if_neg h]at e;cases e
   cases k:atI z.cps.toList i with
   |none=>rw[k]at e;cases e
   |some ch=>rw[k]at e;cases e;exact ws8 value slice pins s σ H _ y v u Q I A r ⟨z,i,ch,m,B,Gj h,k,q _ H (Ag.refl _) rfl⟩ hs
  |_=>exact nos e
 |_=>exact nos e
def ix(k:PEd X c l a i)(j:PEd X c l b e)(hs:yK b:=by exact λ_ _=>rfl):PEd X c l (.Subscript a b pos) (b2 i e ixD):=PE.imp (yh6 yp0 k j hs) λ_ _ _ h=>jH h
def eq_(h:X.A.units+70<I_)(k:PEd X c l a i)(j:PEd X c l b e):PEd X c l (.Compare a [.Eq] [b] pos) (b2 i e eqD):=yl5 (rA h) k j (Oa _)
end
def a0:Ev->R (List D):=λ_=>.ok []
def zv(f:Ev->R D)(fs:Ev->R (List D)):Ev->R (List D):=λρ=>(f ρ).bind λx=>(fs ρ).bind λe=>.ok (x::e)
def Hk(xs:List D):Option D:=if xs.length<=16777216 then some (.tup xs) else none
def Wu(xs:List D):Option D:=if xs.length<=16777216 then some (.lst xs) else none
def bA(fs:Ev->R (List D))(g:List D->Option D):Ev->R D:=λρ=>(fs ρ).bind λe=>R.of (g e)
def rC(K:CJ)(g:List D->Option D):List V->Hp->VK->Prop:=λe H Q=>∃S ds d,Ak K H S ds e/\g ds=some d/\∀z H',Ag H H'->Rep K H' (AS.plus S H) d z->Q z H'
def rCF(K:CJ)(g:List D->Option D):List V->Hp->VK->Prop:=λh H Q=>∃S ds d,Ak K H S ds h/\g ds=some d/\∀a vs e H',d=.lst e->Ag H H'->H a=none->H' a=some (.lst vs)->Ak K H' (AS.but S a) e vs->Q (.ref a) H'
section
variable {f:Ev->R D}{fs:Ev->R (List D)}{g:List D->Option D}
def tA0{Q:List V->Hp->Prop}(h:tDA K c 0 l a0 σ H Q):qZ σ H Q:=by revert h;refine Bt λhs ρ E q=>?_;exact q [] H (Ag.refl _) Ak.nil rfl
def tA1{n:Nat}{Q:List V->Hp->Prop}(h:tDA K c (n+1) l (zv f fs) σ H Q):sI (tD K c l f) (tDA K c n l fs) σ H Q:=by revert h;refine Bt λhs ρ E q=>?_;refine Bk E ((RQ.bind.mp q).mono (λB u x C i A p=>?_) λ_ z=>z);refine Dd A ((RQ.bind.mp u).mono (λds r k y j F m w=>?_) λe z=>Dk z i);exact r (x::k) y (i.trans j) (.cons (p.mono j λ_ z=>z) (m.mono (Ag.refl _) λ_ z=>Hg i z)) (by simp[w])
def tAg{n:Nat}{Q:VK}(h:tD K c l (bA fs g) σ H Q):tCB (rC K g) (tDA K c n l fs) σ H Q:=by revert h;refine Bt λhs ρ E q=>?_;refine Dd E ((RQ.bind.mp q).mono (λds r u x i y m w=>?_) λ_ z=>z);refine Ao (λd e p=>?_) (r.of);exact⟨lvS c ρ σ H l,ds,d,m,e,λz H' j k=>p z H' (i.trans j) (k.mono (Ag.refl _) λ_ z=>Lw E i z)⟩
def yq3{n:Nat}{Q:VK}(h:tF K c l (bA fs g) σ H Q):tCB (rCF K g) (tDA K c n l fs) σ H Q:=by revert h;refine Bt λhs ρ E q=>?_;refine Dd E ((RQ.bind.mp q).mono (λds r A C i F m B=>?_) λ_ z=>z);refine Ao (λd e p=>?_) (r.of);exact⟨lvS c ρ σ H l,ds,d,m,e,λa vs x H' y j w u k=>p a vs x H' y (i.trans j) (i.free w) u k⟩
end
variable {e:CP}{es:List CP}
variable {g':D->D->Option D}
section
variable {d:CP}{h:List CP}{f i j m:Ev->R D}{fs:Ev->R (List D)}{g:List D->Option D}
def an:PAd X c l [] a0:=PA.imp Hs λ_ _ _ h=>tA0 h
def ac(n:PEd X c l e f)(k:PAd X c l es fs)(hs:Zs X.env e es:=by rfl):PAd X c l (e::es) (zv f fs):=PA.imp (Dt n k hs) λ_ _ _ h=>tA1 h
def tup{x1}(h:PAd X c l es fs):PEd X c l (.Tuple es x1 pos) (bA fs Hk):=PE.imp (jR h) λσ H Q q=>by revert q;refine Bt λhs ρ E q=>?_;refine Dd E ((RQ.bind.mp q).mono (λds x r B u C k A=>?_) λ_ z=>z);refine Ao (λd e w=>?_) (x.of);obtain⟨y,rfl⟩:=Be e;refine⟨Gj (by rw[<-k.length];exact y),λp n=>w _ _ (u.trans (Ar n _)) ⟨p,r,rfl,TpR.of An,k.mono (Ar n _) λ_ z=>z⟩⟩
def fG(h:PAd X c l es fs):PEf X c l (.List es pos) (bA fs Wu):=PE.imp (wv7 h) λσ H Q q=>by revert q;refine Bt λhs ρ E q=>?_;refine Dd E ((RQ.bind.mp q).mono (λds x u B n C r A=>?_) λ_ z=>z);refine Ao (λd e w=>?_) (x.of);obtain⟨y,rfl⟩:=Be e;exact⟨Gj (by rw[<-r.length];exact y),λp k=>w p u ds _ rfl (n.trans (Ar k _)) (n.free k) An ((r.avoid k).mono (Ar k _) λ_ z=>z)⟩
theorem wQ{d:D}(h:bA fs Wu ρ=.ok d):∃ds,d=.lst ds:=by
 unfold bA at h;cases k:fs ρ<;>rw[k]at h<;>try cases h
 rename_i n;simp only[R.ok_bind,Wu]at h;split at h
 ·cases h;exact⟨_,rfl⟩
 ·cases h
def lst(h:PAd X c l es fs):PEd X c l (.List es pos) (bA fs Wu):=PEf.d (fG h) λ_ _ h=>wQ h
def Yw{x:BZ}{p:JN}{q:String}(A:Eb X (.builtin q) (rC X.K g))(r:GC x=some (.builtin q))(w:X.mg x=none)(B:PAd X c l (e::es) fs)(y:Gl X x:=by rfl)(u:x ≠ "__name__":=by decide)(n:Zd x:=by decide)
  (z:Zs X.env e es:=by rfl)(k:Zp X.env pos es:=by rfl):PEd X c l (.Call (.Name x p) (e::es) [] pos) (bA fs g):=
 PE.imp (Kw A y w r B u n z k) λ_ _ _ h=>tAg h
def u_{x:BZ}{p:JN}{q:String}(A:Eb X (.builtin q) (rCF X.K g))(r:GC x=some (.builtin q))(w:X.mg x=none)(B:PAd X c l (e::es) fs)(y:Gl X x:=by rfl)(u:x ≠ "__name__":=by decide)(n:Zd x:=by decide)
  (z:Zs X.env e es:=by rfl)(k:Zp X.env pos es:=by rfl):PEf X c l (.Call (.Name x p) (e::es) [] pos) (bA fs g):=
 PE.imp (Kw A y w r B u n z k) λ_ _ _ h=>yq3 h
def yb9{x:BZ}{p:JN}{T:String}(z:Eb X (.type T) (rC X.K g))(q:GC x=some (.type T))(u:X.mg x=none)(A:PAd X c l (e::es) fs)(w:Gl X x:=by rfl)(r:x ≠ "__name__":=by decide)(n:Zd x:=by decide)
  (y:Zs X.env e es:=by rfl)(k:Zp X.env pos es:=by rfl):PEd X c l (.Call (.Name x p) (e::es) [] pos) (bA fs g):=
 PE.imp (Ji z w u q A r n y k) λ_ _ _ h=>tAg h
def Eo:List D->Option D
 | [.lst k]=>some (.int k.length)
 | [.tup k]=>some (.int k.length)
 | [.str z]=>if z.length<=16777216 then some (.int z.length) else none
 |_=>none
def yb4:Eb X (.builtin "len") (rC X.K Eo):=by
 rintro pins s σ H B k Q I r ⟨S,ds,d,n,e,q⟩;obtain⟨w,rfl⟩:=inv1 e rfl (λx _ _=>by cases x<;>rfl);cases w with
 |lst ys=>cases e;obtain⟨v,rfl,a,vs,rfl,u,p⟩:=n.one;have:=p.length;exact Q8 pins s σ H _ k Q I r ⟨a,vs,rfl,.inl u.sq,q _ H (Ag.refl _) (by rw[<-this];rfl)⟩
 |tup ys=>cases e;obtain⟨v,rfl,a,vs,rfl,u,p⟩:=n.one;have:=p.length;exact Q8 pins s σ H _ k Q I r ⟨a,vs,rfl,.inr (TpR.sq u),q _ H (Ag.refl _) (by rw[<-this];rfl)⟩
 |str z=>obtain⟨A,rfl⟩:=Be e;obtain⟨v,rfl,y⟩:=n.one;cases(show v=.str z from y);exact jb3 pins s σ H _ k Q I r ⟨z,rfl,Gj A,q _ H (Ag.refl _) rfl⟩
 |_=>exact nos e
def Mp:List D->Option D
 | [.lst k]=>some (.tup k)
 | [.tup k]=>some (.tup k)
 |_=>none
def we0:Eb X (.type "tuple") (rC X.K Mp):=by
 rintro pins s σ H B u Q I r ⟨S,ds,d,w,e,q⟩;obtain⟨A,rfl⟩:=inv1 e rfl (λx _ _=>by cases x<;>rfl);cases A with
 |lst ys=>cases e;obtain⟨v,rfl,a,vs,rfl,k,n⟩:=w.one;exact Pz pins s σ H _ u Q I r ⟨a,vs,rfl,.inl ⟨k.sq,λp y=>q _ _ (Ar y _) ⟨p,vs,rfl,TpR.of An,n.mono (Ar y _) λ_ z=>.inl z⟩⟩⟩
 |tup ys=>cases e;obtain⟨v,rfl,a,vs,rfl,k,n⟩:=w.one;exact Pz pins s σ H _ u Q I r ⟨a,vs,rfl,.inr ⟨(TpR.sq k),q _ H (Ag.refl _) ⟨a,vs,rfl,k,n.mono (Ag.refl _) λ_ z=>.inl z⟩⟩⟩
 |_=>exact nos e
def minD:List D->Option D
 | [.int i,.int j]=>some (.int (if j<i then j else i))
 |_=>none
def maxD:List D->Option D
 | [.int i,.int j]=>some (.int (if j>i then j else i))
 |_=>none
def yb6(C:X.calm=true):Eb X (.builtin "min") (rC X.K minD):=by
 rintro pins s σ H E w Q I r ⟨S,ds,d,z,e,q⟩;obtain⟨p,n,rfl⟩:=inv2 e rfl (λx=>by cases x<;>rfl) (λx y _ _=>by cases x<;>first |rfl | (cases y<;>rfl));cases p with
 |int i =>
  cases n with
  |int j=>cases e;refine Br (λv u k B A=>?_) (z.two);obtain rfl:=k;cases(show v=.int i from B);cases(show u=.int j from A);exact kf2 C pins s σ H _ w Q I r ⟨i,j,rfl,q _ H (Ag.refl _) rfl⟩
  |_=>exact nos e
 |_=>exact nos e
def yb5(C:X.calm=true):Eb X (.builtin "max") (rC X.K maxD):=by
 rintro pins s σ H E w Q I r ⟨S,ds,d,z,e,q⟩;obtain⟨p,n,rfl⟩:=inv2 e rfl (λx=>by cases x<;>rfl) (λx y _ _=>by cases x<;>first |rfl | (cases y<;>rfl));cases p with
 |int i =>
  cases n with
  |int j=>cases e;refine Br (λv u k B A=>?_) (z.two);obtain rfl:=k;cases(show v=.int i from B);cases(show u=.int j from A);exact kf0 C pins s σ H _ w Q I r ⟨i,j,rfl,q _ H (Ag.refl _) rfl⟩
  |_=>exact nos e
 |_=>exact nos e
def Kq(n:X.mg "len" = none){p:JN}(u:PAd X c l (e::es) fs)(q:Gl X "len":=by rfl)(r:Zs X.env e es:=by rfl)(k:Zp X.env pos es:=by rfl):
  PEd X c l (.Call (.Name "len" p) (e::es) [] pos) (bA fs Eo):=Yw yb4 PySem.boot_len n u q (by decide) (by decide) r k
def mH:D->Option Bool
 | .bl k=>some k
 | .int i=>some (i != 0)
 | .non=>some false
 | .tup n=>some (!n.isEmpty)
 | .lst n=>some (!n.isEmpty)
 | .str x=>if x.length<=16777216 then some ((x.length:Int) != 0) else none
 | .exc _ _ _=>none
def aQ:D->Option Bool
 | .bl k=>some k
 |_=>none
def tt(f:Ev->R D):Ev->R Bool:=λρ=>(f ρ).bind λd=>R.of (mH d)
def tb(f:Ev->R D):Ev->R Bool:=λρ=>(f ρ).bind λd=>R.of (aQ d)
def Rq{S:AS}(r:Ak K H S ds vs):(!ds.isEmpty) = !vs.isEmpty:=by have:=r.length;cases ds<;>cases vs<;>simp at this ⊢
def tst(I:PEd X c l a f)(G:∀whole,YC a X.env whole=(do let v <-whole;bW a.pos;MN [v] (truthy v)):=by intro _;rfl):PTd X c a (tt f):=PT.imp (kx3 I G) λσ H Q q=>by
 revert q;refine Bt λhs ρ E q=>?_;refine Bk E ((RQ.bind.mp q).mono (λJ C x L A M n=>?_) λ_ z=>z);refine Ao (λk e B=>?_) (C.of);refine⟨k,?_,B L A⟩;cases J with
 |non=>cases(show x=.non from n);cases e;rfl
 |bl b=>cases(show x=.bl b from n);cases e;rfl
 |int i=>cases(show x=.int i from n);cases e;rfl
 |str z=>cases(show x=.str z from n);obtain⟨F,rfl⟩:=Be e;exact⟨Gj F,rfl⟩
 |tup ys=>revert n;refine Br λp vs u y w=>?_;obtain rfl:=u;cases e;exact .inr (.inl ⟨vs,(TpR.sq y),Rq w⟩)
 |lst ys=>revert n;refine Br λp vs r y w=>?_;obtain rfl:=r;cases e;exact .inl ⟨vs,y.sq,Rq w⟩
 |exc _ _ _=>cases e
def sJ{t:TE}{Q:Bool->Hp->Prop}(i:∀Q,tD K c l f σ H Q->t σ H Q)(h:tDT K c (tb f) σ H Q):t σ H λx H'=>∃k,x=.bl k/\Q k H':=by apply i;revert h;refine Bt λhs ρ E q=>?_;refine Bk E ((RQ.bind.mp q).mono (λw u x y n A p=>?_) λ_ z=>z);refine Ao (λk e r=>?_) (u.of);cases w<;>first | (cases e;exact⟨k,p,r y n⟩) |cases e
def ZS{k:XN}{g:D->D->Option D}(n:OpR X (DG k) (rD X.K g))(u:PEd X c l a i)(r:PEd X c l b j)(p:HQ k b=false):PTd X c (.Compare a [k] [b] pos) (tb (b2 i j g)):=
 PT.imp (wj9 n u r p) λσ H Q q=>sJ (λQ h=>jH h) q
def teq(k:X.A.units+70<I_)(p:PEd X c l a i)(n:PEd X c l b j):PTd X c (.Compare a [.Eq] [b] pos) (tb (b2 i j eqD)):=ZS (rA k) p n (Oa _)
def tne(k:X.A.units+70<I_)(p:PEd X c l a i)(n:PEd X c l b j):PTd X c (.Compare a [.NotEq] [b] pos) (tb (b2 i j neD)):=ZS (yp1 k) p n (Oa _)
def tlt(n:PEd X c l a i)(k:PEd X c l b j):PTd X c (.Compare a [.Lt] [b] pos) (tb (b2 i j ltD)):=ZS iM n k (Oa _)
def tgt(n:PEd X c l a i)(k:PEd X c l b j):PTd X c (.Compare a [.Gt] [b] pos) (tb (b2 i j gtD)):=ZS yo8 n k (Oa _)
def tge(n:PEd X c l a i)(k:PEd X c l b j):PTd X c (.Compare a [.GtE] [b] pos) (tb (b2 i j geD)):=ZS yo7 n k (Oa _)
def tin(k:X.A.units+70<I_)(q:PEd X c l a i)(p:PEd X c l b j)(n:HQ .In b=false:=by with_unfolding_all rfl):PTd X c (.Compare a [.In] [b] pos) (tb (b2 i j inD)):=ZS (yo9 k) q p n
def qY(k:X.A.units+70<I_)(q:PEd X c l a i)(p:PEd X c l b j)(n:HQ .NotIn b=false:=by with_unfolding_all rfl):PTd X c (.Compare a [.NotIn] [b] pos) (tb (b2 i j aO)):=ZS (yg5 k) q p n
def yr4(n:PEd X c l a i)(k:PEd X c l b j):PTd X c (.Compare a [.Is] [b] pos) (tb (b2 i j fH)):=ZS yg1 n k (Oa _)
def yk3(n:PEd X c l a i)(k:PEd X c l b j):PTd X c (.Compare a [.IsNot] [b] pos) (tb (b2 i j Wy)):=ZS wu7 n k (Oa _)
def ch(i j m:Ev->R D)(g g':D->D->Option D):Ev->R D:=λρ=>(i ρ).bind λx=>(j ρ).bind λy=>(R.of (g x y)).bind λz=>(R.of (aQ z)).bind λk=>if k then(m ρ).bind λw=>R.of (g' y w) else .ok (.bl false)
def wz1{g:D->D->Option D}{Q:VK}(h:tD K c l (ch i j m g g') σ H Q):t7 (rD K g) (rD K g') (tD K c l i) (tD K c l j) (tD K c l m) σ H Q:=by
 revert h;refine Bt λhs ρ E q=>?_;refine Bk E ((RQ.bind.mp q).mono (λdx q1 x H1 B E1 P=>?_) λ_ z=>z);refine Bk E1 ((RQ.bind.mp q1).mono (λG Z y H2 C E2 O=>?_) λe z=>Dk z B);refine Ao (λF e Y=>?_) ((RQ.bind.mp Z).of);refine Ao (λk e2 u=>?_) ((RQ.bind.mp Y).of);have r:=O.mono (Ag.refl _) (λ_ z=>Hg B z:∀o,lvS c ρ σ H1 l o->lvS c ρ σ H l o);refine⟨lvS c ρ σ H l,dx,G,F,P.mono C (λ_ z=>z),r,e,λz H3 p M=>?_⟩;cases F<;>try cases e2
 refine⟨k,M,?_⟩;have n:=B.trans C;have E3:=E2.mono p;cases k with
 |false=>rw[if_neg (by decide)]at u ⊢;exact u _ H3 (n.trans p) rfl
 |true=>rw[if_pos rfl]at u ⊢;refine Bk E3 ((RQ.bind.mp u).mono (λdw U w H4 A E4 L=>?_) λe z=>Dk z (n.trans p));refine Ao (λd e3 T=>?_) (U.of);refine⟨lvS c ρ σ H l,G,dw,d,r.mono (p.trans A) (λ_ z=>z),L.mono (Ag.refl _) (λ_ z=>Hg (n.trans p) z),e3,λz H' I J=>?_⟩;exact T z H' (((n.trans p).trans A).trans I) (J.mono (Ag.refl _) λ_ z=>Lw E ((n.trans p).trans A) z)
def nQ{n k:XN}{g:D->D->Option D}(r:OpR X (DG n) (rD X.K g))(p:OpR X (DG k) (rD X.K g'))(y:PEd X c l a i)(x:PEd X c l b j)(w:PEd X c l d m)
  (u:lastMarks [n,k] [b,d]=false:=by with_unfolding_all rfl):PTd X c (.Compare a [n,k] [b,d] pos) (tb (ch i j m g g')):=PT.imp (kx2 r p y x w u) λσ H Q q=>sJ (λQ h=>wz1 h) q
def nt(f:Ev->R Bool):Ev->R Bool:=λρ=>(f ρ).bind λk=>.ok (!k)
def tan(f g:Ev->R Bool):Ev->R Bool:=λρ=>(f ρ).bind λk=>if k then g ρ else .ok false
def tor(f g:Ev->R Bool):Ev->R Bool:=λρ=>(f ρ).bind λk=>if k then .ok true else g ρ
variable {t u:Ev->R Bool}
abbrev PWd(X:Cx)(c:DC)(e:CP)(f:Ev->R Bool):Prop:=PW X e (tDT X.K c f)
def cW(r:PTd X c a t):PTd X c (.UnaryOp .Not a pos) (nt t):=PT.imp (ww9 r) λσ H Q q=>by revert q;refine Bt λhs ρ E q=>?_;exact Hj E ((RQ.bind.mp q).mono (λk p w n _=>p w n) λ_ z=>z)
def yj8(k:PTd X c a t):PWd X c (.BoolOp .And [a] pos) t:=wk1 k
def eU(k:PTd X c a t):PWd X c (.BoolOp .Or [a] pos) t:=wx2 k
def yr3(y:PTd X c a t)(x:PWd X c (.BoolOp .And (b::h) pos) u):PWd X c (.BoolOp .And (a::b::h) pos) (tan t u):=PW.imp (wx1 y x) λσ H Q q=>by
 revert q;refine Bt λhs ρ E q=>?_;refine Hj E ((RQ.bind.mp q).mono (λk p B n C=>?_) λ_ z=>z);cases k with
 |false=>rw[if_neg (by decide)];exact p B n
 |true=>rw[if_pos rfl];exact Hj C ((show RQ (u ρ) _ _ from p).mono (λk w A r _=>w A (n.trans r)) λe z=>Dk z n)
def cV(y:PTd X c a t)(x:PWd X c (.BoolOp .Or (b::h) pos) u):PWd X c (.BoolOp .Or (a::b::h) pos) (tor t u):=PW.imp (yh9 y x) λσ H Q q=>by
 revert q;refine Bt λhs ρ E q=>?_;refine Hj E ((RQ.bind.mp q).mono (λk p B n C=>?_) λ_ z=>z);cases k with
 |true=>rw[if_pos rfl];exact p B n
 |false=>rw[if_neg (by decide)];exact Hj C ((show RQ (u ρ) _ _ from p).mono (λk w A r _=>w A (n.trans r)) λe z=>Dk z n)
def dO(h:PWd X c e t):PTd X c e t:=h.pt
def va(f g:Ev->R D):Ev->R D:=λρ=>(f ρ).bind λd=>(R.of (aQ d)).bind λk=>if k then g ρ else .ok (.bl false)
def vn(f:Ev->R D):Ev->R D:=λρ=>(f ρ).bind λd=>(R.of (aQ d)).bind λk=>.ok (.bl (!k))
def v1{op}(h:PEd X c l a f):PEd X c l (.BoolOp op [a] pos) f:=ww0 h
def mG(F:PEd X c l a i)(C:PEd X c l (.BoolOp .And (b::h) pos) j):PEd X c l (.BoolOp .And (a::b::h) pos) (va i j):=PE.imp (wv5 F C) λσ H Q q=>by
 revert q;refine Bt λhs ρ E q=>?_;refine Bk E ((RQ.bind.mp q).mono (λG B x J n L y=>?_) λ_ z=>z);refine Ao (λk e p=>?_) ((RQ.bind.mp B).of);cases G<;>try cases e
 refine⟨k,y,?_⟩;cases k with
 |false=>rw[if_neg (by decide)]at p ⊢;exact p _ J n rfl
 |true=>rw[if_pos rfl]at p ⊢;exact Bk L (p.mono (λd A v I r M w=>A v I (n.trans r) (w.mono (Ag.refl _) λ_ z=>Hg n z)) λe z=>Dk z n)
def yr7(y:PEd X c l a i):PEd X c l (.UnaryOp .Not a pos) (vn i):=PE.imp (wv9 y) λσ H Q q=>by
 revert q;refine Bt λhs ρ E q=>?_;refine Bk E ((RQ.bind.mp q).mono (λA w x B n C p=>?_) λ_ z=>z);refine Ao (λk e r=>?_) ((RQ.bind.mp w).of);cases A<;>try cases e
 exact⟨k,p,r _ B n rfl⟩
def ife(t:Ev->R Bool)(f g:Ev->R D):Ev->R D:=λρ=>(t ρ).bind λk=>if k then f ρ else g ρ
def ifx{d:CP}(B:PTd X c d t)(F:PEd X c l a i)(C:PEd X c l b j):PEd X c l (.IfExp d a b pos) (ife t i j):=PE.imp (kw4 B F C) λσ H Q q=>by
 revert q;refine Bt λhs ρ E q=>?_;refine Hj E ((RQ.bind.mp q).mono (λk p I n A=>?_) λ_ z=>z);cases k with
 |true=>rw[if_pos rfl]at p ⊢;exact Bk A (p.mono (λd x v y r G w=>x v y (n.trans r) (w.mono (Ag.refl _) λ_ z=>Hg n z)) λe z=>Dk z n)
 |false=>rw[if_neg (by decide)]at p ⊢;exact Bk A (p.mono (λd x v y r G w=>x v y (n.trans r) (w.mono (Ag.refl _) λ_ z=>Hg n z)) λe z=>Dk z n)
end
def tDO(K:CJ)(c:DC)(f:Ev->R (Option Int)):TO:=λσ H Q=>∃hs ρ,Bb K c hs ρ σ H/\RQ (f ρ) (λo=>∀H',Ag H H'->Q o H') (λe=>∀v H',Ag H H'->Rep K H' (lvS c ρ σ H .any) e v->c.Ex e v H')
abbrev POd(X:Cx)(c:DC)(e:Option CP)(f:Ev->R (Option Int)):Prop:=PO X e (tDO X.K c f)
def PO.imp{e:Option CP}{t t':TO}(h:PO X e t)(i:∀σ H Q,t' σ H Q->t σ H Q):PO X e t':=λpins s σ H Q I q=>h pins s σ H Q I (i σ H Q q)
def p0:Ev->R (Option Int):=λ_=>.ok none
def isI:D->Option (Option Int)
 | .int i=>some (some i)
 |_=>none
def p1(f:Ev->R D):Ev->R (Option Int):=λρ=>(f ρ).bind λd=>R.of (isI d)
def cutD(xs:List D)(lo hi:Option Int):List D:=(xs.drop (HT.sIx xs.length 0 lo)).take (HT.sIx xs.length xs.length hi - HT.sIx xs.length 0 lo)
def bS(f:Ev->R D)(lo hi:Ev->R (Option Int))(g:D->Option Int->Option Int->Option D):Ev->R D:=λρ=>(f ρ).bind λx=>(lo ρ).bind λi=>(hi ρ).bind λj=>R.of (g x i j)
variable {p2:JN}
section
variable {lo hi:Option CP}{f:Ev->R D}{h i:Ev->R (Option Int)}
def pn:POd X c none p0:=PO.imp wj5 λσ H Q ⟨hs,ρ,E,q⟩=>q H (Ag.refl _)
def ps(h:PEd X c l e f):POd X c (some e) (p1 f):=PO.imp (wj6 h) λσ H Q q=>by
 revert q;refine Bt λhs ρ E q=>?_;refine Bk E ((RQ.bind.mp q).mono (λr p x u j w m=>?_) λ_ z=>z);refine Ao (λk e n=>?_) (p.of);cases r<;>try cases e
 exact⟨_,m,n u j⟩
def Ak.cut{S:AS}(r:Ak K H S ds vs)(lo hi:Option Int):Ak K H S (cutD ds lo hi) (aW vs lo hi):=by unfold cutD aW;rw[r.length];exact(r.drop _).take _
def yU{j:Ev->R (Option Int)}{Q:Option Int->Hp->Prop}(E:Bb K c hs ρ σ H)
  (h:RQ (j ρ) (λb=>∀H',Ag H H'->Bb K c hs ρ σ H'->Q b H') (λe=>∀v H',Ag H H'->Rep K H' (lvS c ρ σ H .any) e v->c.Ex e v H')):tDO K c j σ H Q:=
 ⟨hs,ρ,E,h.mono (λd q H' s=>q H' s (E.mono s)) λ_ q=>q⟩
end
variable {i:Nat}
variable {j:Nat}
section
variable {d:D}{v:V}
def Ck{o:Option D}(h:j≠i):live (ρ.set i o) j↔live ρ j:=by unfold live;rw[QD (Ne.symm h)]
def ki7(hi:i∉c.O){o:Option D}{w:Option V}{a:BK}:owned c (ρ.set i o) (σ.set i w) a↔owned c ρ σ a:=by
 unfold owned;constructor
 ·rintro⟨j,k,m,e⟩;have h:j≠i:=λz=>hi (z ▸ k);rw[Ck h]at m;rw[QD (Ne.symm h)]at e;exact⟨j,k,m,e⟩
 ·rintro⟨j,k,m,e⟩;have h:j≠i:=λz=>hi (z ▸ k);refine⟨j,k,(Ck h).mpr m,?_⟩;rw[QD (Ne.symm h)];exact e
def Vd(hi:i∉c.O){o:Option D}{w:Option V}:c.N (ρ.set i o) (σ.set i w)=c.N ρ σ:=by funext x;unfold DC.N;simp only[ki7 hi]
def Bb.set(E:Bb K c hs ρ σ H)(hi:i∉c.O)(r:Rep K H (c.N ρ σ) d v):Bb K c hs (ρ.set i (some d)) (σ.set i (some v)) H where
 same:=E.same
 len:=by simp[E.len]
 own:=λj d' hj hd=>by have hne:j≠i:=λz=>hi (z ▸ hj);rw[QD (Ne.symm hne)]at hd ⊢;rw[Vd hi];exact E.own j d' hj hd
 apart:=λj k a hj hk lj lk e1 e2=>by have hj':j≠i:=λz=>hi (z ▸ hj);have hk':k≠i:=λz=>hi (z ▸ hk);rw[QD (Ne.symm hj')]at e1;rw[QD (Ne.symm hk')]at e2;exact E.apart j k a hj hk ((Ck hj').mp lj) ((Ck hk').mp lk) e1 e2
 oth:=λj d' hj hd=>by
  rw[Vd hi];by_cases hne:j=i
  ·subst hne;by_cases hlt:j<ρ.length
   ·rw[ZM hlt]at hd;cases hd;exact⟨v,by rw[ZM (by rw[<-E.len];exact hlt)],r⟩
   ·rw[aD (by simpa using hlt)]at hd;cases hd
  ·rw[QD (Ne.symm hne)]at hd ⊢;exact E.oth j d' hj hd
 held:=λp hp=>by rw[Vd hi];exact E.held p hp
 excl:=E.excl
theorem Bb.setW{a:BK}{d:D}(E:Bb K c hs ρ σ H)(hi:i∈c.O)(s:Ag H H')(B:H a=none)(r:Dv K H' (AS.but (c.N ρ σ) a) d a):
  Bb K c hs (ρ.set i (some d)) (σ.set i (some (.ref a))) H':=by
 have sub:∀o,AS.but (c.N ρ σ) a o->c.N (ρ.set i (some d)) (σ.set i (some (.ref a))) o:=λo ⟨⟨U,T⟩,Q⟩=>by
  refine⟨U,λb I ⟨j,q,C,e⟩=>?_⟩
  by_cases m:j=i
  ·subst m
   rw[qI]at e
   simp only[if_true]at e
   split at e
   ·cases e;exact Q I
   ·cases e
  ·rw[QD (Ne.symm m)]at e
   exact T b I ⟨j,q,(Ck m).mp C,e⟩
 have conv:∀{y v},Rep K H (c.N ρ σ) y v->Rep K H' (c.N (ρ.set i (some d)) (σ.set i (some (.ref a)))) y v:=λh=>(h.avoid B).mono s sub
 refine⟨E.same.trans s,by simp[E.len],λj y q u=>?_,λj k b q L C J F x=>?_,λj y q u=>?_,λP G=>⟨(E.held P G).1,(E.held P G).1.mono s sub ((E.held P G).1.avoid B (E.held P G).2)⟩,λb I z=>E.excl b I (s.free z)⟩
 ·by_cases m:j=i
  ·subst m
   by_cases A:j<ρ.length
   ·rw[ZM A]at u
    cases u
    exact⟨a,by rw[ZM (by rw[<-E.len];exact A)],⟨E.same.free B,λM=>E.excl a M B⟩,r.mono (Ag.refl _) sub⟩
   ·rw[aD (by simpa using A)]at u
    cases u
  ·rw[QD (Ne.symm m)]at u ⊢
   refine Er (λb x Z Y=>?_) (E.own j y q u)
   exact⟨b,x,Z,(Y.avoid B).mono s sub⟩
 ·have hold:∀j,j∈c.O->j≠i->live (ρ.set i (some d)) j->(σ.set i (some (.ref a)))[j]? = some (some (.ref b))->∃o,H b=some o:=λj q m C e=>by
   rw[QD (Ne.symm m)]at e
   have⟨y,u⟩:=(Ck m).mp C
   refine Er (λb' x _ e3=>?_) (E.own j y q u)
   rw[e]at x;cases x
   exact e3.has
  have self:∀j,j=i->(σ.set i (some (.ref a)))[j]? = some (some (.ref b))->b=a:=λj m e=>by
   subst m
   rw[qI]at e
   simp only[if_true]at e
   split at e
   ·cases e;rfl
   ·cases e
  by_cases p:j=i
  ·by_cases n:k=i
   ·rw[p,n]
   ·have:=self j p F
    subst this
    have⟨ws,e⟩:=hold k L n J x
    rw[B]at e;cases e
  ·by_cases n:k=i
   ·have:=self k n x
    subst this
    have⟨ws,e⟩:=hold j q p C F
    rw[B]at e;cases e
   ·rw[QD (Ne.symm p)]at F
    rw[QD (Ne.symm n)]at x
    exact E.apart j k b q L ((Ck p).mp C) ((Ck n).mp J) F x
 ·have m:j≠i:=λz=>q (z ▸ hi)
  rw[QD (Ne.symm m)]at u ⊢
  refine Ao (λw F x=>?_) (E.oth j y q u)
  exact⟨w,F,conv x⟩
def Bb.setO{a:BK}(E:Bb K c hs ρ σ H)(hi:i∈c.O)(s:Ag H H')(k:H a=none)(h:H' a=some (.lst vs))(r:Ak K H' (AS.but (c.N ρ σ) a) ds vs):
  Bb K c hs (ρ.set i (some (.lst ds))) (σ.set i (some (.ref a))) H':=E.setW hi s k (.inl ⟨vs,ds,rfl,h,r⟩)
def Bb.writeW{a:BK}{d d':D}(E:Bb K c hs ρ σ H)(hi:i∈c.O)(G:ρ[i]? = some (some d))(n:σ[i]? = some (some (.ref a)))
  (conv:∀d v,Rep K H (c.N ρ σ) d v->Rep K (upd H a o') (c.N ρ σ) d v)(B:∀d b,b≠a->Dv K H (c.N ρ σ) d b->Dv K (upd H a o') (c.N ρ σ) d b)(A:∀P,Ut P->P H (c.N ρ σ)->P (upd H a o') (c.N ρ σ))
  (r:Dv K (upd H a o') (c.N ρ σ) d' a):Bb K c hs (ρ.set i (some d')) σ (upd H a o'):=by
 have T:owned c ρ σ a:=⟨i,hi,⟨_,G⟩,n⟩
 have F:i<ρ.length:=(LR.mp G).1
 have u:∀j,live (ρ.set i (some d')) j↔live ρ j:=λj=>by
  by_cases h:j=i
  ·subst h
   unfold live
   rw[ZM F,G]
   exact⟨λ_=>⟨_,rfl⟩,λ_=>⟨_,rfl⟩⟩
  ·exact Ck h
 have eN:c.N (ρ.set i (some d')) σ=c.N ρ σ:=by
  funext x
  unfold DC.N owned
  simp only[u]
 have C:c.H0 a=none/\a∉c.Z:=by
  refine Er (λb q M _=>?_) (E.own i _ hi G)
  rw[n]at q;cases q
  exact M
 refine⟨λb o e=>?_,by simp[E.len],λj d' y m=>?_,λj k b y hk Y U Q q=>?_,λj d' y m=>?_,λp J=>?_,λb I z=>?_⟩
 ·rw[Aj (Bh e C.1)]
  exact E.same b o e
 ·rw[eN]
  by_cases h:j=i
  ·subst h
   rw[ZM F]at m
   cases m
   exact⟨a,n,C,r⟩
  ·rw[QD (Ne.symm h)]at m
   refine Er (λb q M e5=>?_) (E.own j d' y m)
   have I:b≠a:=λz=>h (E.apart j i a y hi ⟨_,m⟩ ⟨_,G⟩ (z ▸ q) n)
   exact⟨b,q,M,B _ _ I e5⟩
 ·exact E.apart j k b y hk ((u j).mp Y) ((u k).mp U) Q q
 ·rw[eN]
  have h:j≠i:=λz=>y (z ▸ hi)
  rw[QD (Ne.symm h)]at m
  refine Ao (λw Q q=>?_) (E.oth j d' y m)
  exact⟨w,Q,conv _ _ q⟩
 ·rw[eN]
  exact⟨(E.held p J).1,A p (E.held p J).1 (E.held p J).2⟩
 ·have L:b≠a:=λe=>C.2 (e ▸ I)
  rw[Aj L]at z
  exact E.excl b I z
def Bb.notN{a:BK}{d:D}(E:Bb K c hs ρ σ H)(hi:i∈c.O)(k:ρ[i]? = some (some d))(h:σ[i]? = some (some (.ref a))):¬ c.N ρ σ (some a):=λz=>z.2 a rfl ⟨i,hi,⟨_,k⟩,h⟩
def Bb.write{a:BK}{es:List D}(E:Bb K c hs ρ σ H)(hi:i∈c.O)(p:ρ[i]? = some (some (.lst ds)))(k:σ[i]? = some (some (.ref a)))(n:H a=some (.lst vs))(r:Ak K H (c.N ρ σ) es ws):
  Bb K c hs (ρ.set i (some (.lst es))) σ (upd H a (.lst ws)):=by
 have m:=E.notN hi p k;exact E.writeW hi p k (λ_ _ h=>h.wr n m) (λ_ _ q h=>h.wr n m q) (λ_ st h=>st.wr n m h) (.inl ⟨ws,es,rfl,An,r.wr n m⟩)
def Bb.writeD{a:BK}{d:D}{cc:BZ}{fs:List D}(E:Bb K c hs ρ σ H)(hi:i∈c.O)(q:ρ[i]? = some (some d))(k:σ[i]? = some (some (.ref a)))(p:H a=some o)(m:Yd o=true)(u:Uq (upd H a o') cc ks a ws)(r:Ak K H (c.N ρ σ) fs ws):
  Bb K c hs (ρ.set i (some (.exc cc ks fs))) σ (upd H a o'):=by
 have n:=E.notN hi q k;exact E.writeW hi q k (λ_ _ h=>h.wrD p m n) (λ_ _ w h=>h.wrD p m n w) (λ_ st h=>st.wrD p m n h) (.inr ⟨ws,cc,ks,fs,rfl,u,r.wrD p m n⟩)
def Bb.hold{P:Hd}(E:Bb K c hs ρ σ H)(st:Ut P)(h:P H (c.N ρ σ)):Bb K c (P::hs) ρ σ H:=
 ⟨E.same,E.len,E.own,E.apart,E.oth,λx k=>(HN.mp k).elim (λe=>by subst e;exact⟨st,h⟩) (E.held x),E.excl⟩
def Bb.unhold{P:Hd}(E:Bb K c (P::hs) ρ σ H):Bb K c hs ρ σ H:=
 ⟨E.same,E.len,E.own,E.apart,E.oth,λx h=>E.held x (IK _ h),E.excl⟩
end
def sq(g k:Ev->R Fl):Ev->R Fl:=λρ=>(g ρ).bind λm=>match m with
 | .nx h=>k h
 |o=>.ok o
def nop:Ev->R Fl:=λρ=>.ok (.nx ρ)
def asg(i:Nat)(f:Ev->R D):Ev->R Fl:=λρ=>(f ρ).bind λd=>.ok (.nx (ρ.set i (some d)))
def Jt(f:Ev->R D):Ev->R Fl:=λρ=>(f ρ).bind λd=>.ok (.rt d)
def ifS(t:Ev->R Bool)(g1 h:Ev->R Fl):Ev->R Fl:=λρ=>(t ρ).bind λk=>if k then g1 ρ else h ρ
def drp(f:Ev->R D):Ev->R Fl:=λρ=>(f ρ).bind λ_=>.ok (.nx ρ)
def dJ(i:Nat)(f:Ev->R D):Ev->R Fl:=λρ=>match ρ[i]? with
 |some (some (.lst ds))=>(f ρ).bind λd=>if ds.length<16777216 then .ok (.nx (ρ.set i (some (.lst (ds++[d]))))) else .bad
 |_=>.bad
variable {pos' apos cpos:JN}
section
variable {st:DR}{h:List DR}{f:Ev->R D}{g m n:Ev->R Fl}{t:Ev->R Bool}
def Ef(E:Bb K c hs ρ σ H){x:D}(h:Rg K c x):∀v H',Ag H H'->Rep K H' (lvS c ρ σ H .any) x v->c.Ex x v H':=
 λv H' s r=>h v H' (E.same.trans s) r
def sn:Us X c [] nop:=PSs.imp wj7 λD σ H ⟨hs,ρ,E,q⟩=>q σ H E
def sc(w:PSd X c st m)(u:Us X c h n):Us X c (st::h) (sq m n):=PSs.imp (kx1 w u) λD σ H q=>by
 revert q;refine Bt λhs ρ E q=>?_;refine⟨hs,ρ,E,(RQ.bind.mp q).mono (λx p=>?_) λ_ z=>z⟩;cases x with
 |nx k=>exact λr H' y=>⟨hs,k,y,p⟩
 |rt d=>exact p
 |bk k=>exact p
 |ct k=>exact p
def s1(k:PSd X c st m):Us X c [st] m:=wj8 k
def Cy(i:Nat){x:BZ}(r:X.N.Nodup)(y:PEd X c .no e f)(hi:c.O.contains i=false:=by rfl)(A:X.N[i]? = some x:=by rfl)(u:Loc X.env.scope x:=by first |exact Or.inl rfl |exact Or.inr rfl)(hs:FW e (some (.Name x pos')) pos.line X.env=pure false:=by rfl)
  (w:X.fn x=true\/X.env.scope.names.lookup x=some .local:=by first |exact .inl rfl |exact .inr rfl):PSd X c (.Assign [.Name x pos'] e pos) (asg i f):=PS.imp (nT (i:=i) r A u y hs w) λD σ H q=>by
 revert q;refine Bt λhs ρ E q=>?_;refine Bk E ((RQ.bind.mp q).mono (λd p v B F C k=>?_) λx z=>Ef E z);exact p _ B (C.set (by simpa using hi) k)
theorem jJ(i:Nat){x:BZ}(p:X.N.Nodup)(z:PEf X c .no e f)(hi:c.O.contains i=true:=by rfl)(B:X.N[i]? = some x:=by rfl)(u:Loc X.env.scope x:=by first |exact Or.inl rfl |exact Or.inr rfl)(hs:FW e (some (.Name x pos')) pos.line X.env=pure false:=by rfl)
  (y:X.fn x=true\/X.env.scope.names.lookup x=some .local:=by first |exact .inl rfl |exact .inr rfl)(hl:∀ρ d,f ρ=.ok d->∃ds,d=.lst ds:=by intros;first |exact wQ (by assumption) |exact we1 (by assumption) |exact slL_lst (by assumption)):PSd X c (.Assign [.Name x pos'] e pos) (asg i f):=PS.imp (nT (i:=i) p B u z hs y) λD σ H q=>by
 revert q;refine Bt λhs ρ E q=>?_;refine⟨hs,ρ,E,?_⟩;have q:=RQ.bind.mp q;cases k:f ρ with
 |ok d=>rw[k]at q;obtain⟨ds,rfl⟩:=hl ρ d k;intro a vs F H' C s A w r;cases C;exact q _ H' (E.setO (by simpa using hi) s A w r)
 |exc x=>rw[k]at q;exact Ef E q
 |bad=>rw[k]at q;exact q
def Cd(r:PEd X c .any e f):PSd X c (.Return (some e) pos) (Jt f):=PS.imp (ww8 r) λD σ H q=>by revert q;refine Bt λhs ρ E q=>?_;refine Bk E ((RQ.bind.mp q).mono (λd p v u y w k=>?_) λx z=>Ef E z);exact p v u w.same k
def if_{d:CP}{as bs:List DR}(u:PTd X c d t)(y:Us X c as m)(w:Us X c bs n):PSd X c (.If d as bs pos) (ifS t m n):=PS.imp (yh8 u y w) λD σ H q=>by
 revert q;refine Bt λhs ρ E q=>?_;refine Hj E ((RQ.bind.mp q).mono (λk p B A r=>?_) λx z=>Ef E z);cases k with
 |true=>rw[if_pos rfl]at p ⊢;exact⟨hs,ρ,r,p⟩
 |false=>rw[if_neg (by decide)]at p ⊢;exact⟨hs,ρ,r,p⟩
def ex_(p:PEd X c .any e f)(hs:FW e none pos.line X.env=pure false:=by rfl):PSd X c (.Expr e pos) (drp f):=PS.imp (U7 p hs) λD σ H q=>by revert q;refine Bt λhs ρ E q=>?_;refine Bk E ((RQ.bind.mp q).mono (λd k v r w u y=>?_) λx z=>Ef E z);exact k σ r u
theorem rW(i:Nat){x:BZ}{p:JN}(U:PEd X c .no e f)(hi:c.O.contains i=true:=by rfl)(Y:X.N[i]? = some x:=by rfl)(T:Vis X.env.scope x:=by first |exact Or.inl rfl |exact Or.inr (Or.inl rfl) |exact Or.inr (Or.inr rfl))(C:Zd x:=by decide)
  (J:(x == ("__classdict__" : BZ))=false:=by decide)(w:JQ (.Name x p) "append" X.env (DY (.Name x p) X.env)=DY (.Name x p) X.env:=by rfl)
  (A:((PB cpos (BR [e] X.env)).all (λx=>!x.1) && (VN cpos (OD [] X.env)).all (λx=>x.1.isSome)
   && decide ([e].length+([]:List KY).length+(if([]:List KY).isEmpty then 0 else 1)<30))=true:=by rfl)
  (u:(apos.endLine == cpos.line)=true:=by rfl)(hs:BR [e] X.env=(false,DY e X.env)::BR [] X.env:=by rfl)(k:Zp X.env cpos []:=by rfl)
  (I:FW (.Call (.Attribute (.Name x p) "append" apos) [e] [] cpos) none pos.line X.env=pure false:=by rfl):
  PSd X c (.Expr (.Call (.Attribute (.Name x p) "append" apos) [e] [] cpos) pos) (dJ i f):=
 PS.imp (U7 (m5 PySem.F.plainAttrs_list PySem.F.slot_list_append PySem.F.type_list_append Zv (pv i Y T C J) (Dt U Hs hs) w A u hs k) I) λD σ H q=>by
 revert q;refine Bt λhs ρ E q=>?_;have y:i∈c.O:=by simpa using hi
 unfold dJ at q;split at q
 ·rename_i ds C;refine fU (λa vs aa Z P L e3 r=>?_) (E.ownL i _ y C);cases Z;refine⟨.ref a,P,.inl ⟨rfl,vs,SqL.of L⟩,?_⟩;refine Bk E ((RQ.bind.mp q).mono (λd B v H1 G E1 Q=>?_) λx z=>Ef E z);by_cases M:ds.length<16777216
  ·rw[if_pos M]at B;have l:=r.length;refine⟨a,vs,v,rfl,rfl,G _ _ L,by rw[CV];omega,?_⟩;exact B σ _ (E1.write y C P (G _ _ L) ((r.mono G λ_ z=>z).append (.cons Q Ak.nil)))
  ·rw[if_neg M]at B;exact B.elim
 ·exact q.elim
end
def tDG(K:CJ)(c:DC)(g:D->Ev->R Ev):TG:=λv σ H Q=>∃hs ρ d,Bb K c hs ρ σ H/\Rep K H (c.N ρ σ) d v/\RQ (g d ρ) (λk=>∀h,Bb K c hs k h H->Q h H) (λ_=>False)
def yq5(K:CJ)(c:DC)(g:List D->Ev->R Ev):TGs:=λvs σ H Q=>∃hs ρ ds,Bb K c hs ρ σ H/\Ak K H (c.N ρ σ) ds vs/\RQ (g ds ρ) (λk=>∀h,Bb K c hs k h H->Q h H) (λ_=>False)
abbrev PGd(X:Cx)(c:DC)(t:CP)(g:D->Ev->R Ev):Prop:=PG X t (tDG X.K c g)
abbrev iW(X:Cx)(c:DC)(ts:List CP)(g:List D->Ev->R Ev):Prop:=PGs X ts (yq5 X.K c g)
def PG.imp{t t':TG}(h:PG X e t)(i:∀v σ H Q,t' v σ H Q->t v σ H Q):PG X e t':=λpins s σ H v u Q I r q=>h pins s σ H v u Q I r (i v σ H Q q)
variable {Z:List Nat}
section
variable {f:Ev->R D}
def gN(i:Nat):D->Ev->R Ev:=λd ρ=>.ok (ρ.set i (some d))
def Gs:List Nat->List D->Ev->R Ev
 | [],[],ρ=>.ok ρ
 |i::Z,d::ds,ρ=>Gs Z ds (ρ.set i (some d))
 |_,_,_=>.bad
def gT(Z:List Nat):D->Ev->R Ev:=λd ρ=>match d with
 | .tup ds=>Gs Z ds ρ
 | .lst ds=>Gs Z ds ρ
 |_=>.bad
def tn(i:Nat){x:BZ}(h:X.N.Nodup)(hi:c.O.contains i=false:=by rfl)(n:X.N[i]? = some x:=by rfl)(k:Loc X.env.scope x:=by first |exact Or.inl rfl |exact Or.inr rfl)(m:X.fn x=true\/X.env.scope.names.lookup x=some .local:=by first |exact .inl rfl |exact .inr rfl):
  PGd X c (.Name x pos) (gN i):=PG.imp (wH h n k m) λv σ H Q q=>by
 revert q;refine dF λhs ρ d E r q=>?_;exact q _ (E.set (by simpa using hi) r)
def tsn:iW X c [] (Gs []):=λpins s σ H vs h Q I r q=>by
 revert q;refine dF λhs ρ ds E k q=>?_;cases ds with
 |nil=>refine wj2 pins s σ H vs h Q I r ⟨k,q σ E⟩
 |cons d ds=>exact q.elim
def tsc(i:Nat){x:BZ}{p:JN}(A:X.N.Nodup)(G:iW X c es (Gs Z))(hi:c.O.contains i=false:=by rfl)(F:X.N[i]? = some x:=by rfl)(B:Loc X.env.scope x:=by first |exact Or.inl rfl |exact Or.inr rfl)(C:X.fn x=true\/X.env.scope.names.lookup x=some .local:=by first |exact .inl rfl |exact .inr rfl)
  (hs:(FZ (.Name x p::es) X.env).map (·.2)=QM (.Name x p) X.env::(FZ es X.env).map (·.2):=by rfl):iW X c (.Name x p::es) (Gs (i::Z)):=λpins s σ H vs u Q I r q=>by
 revert q;refine dF λn ρ ds E z q=>?_;cases ds with
 |nil=>exact q.elim
 |cons d ds =>
  revert z;refine Br λv h m y w=>?_;obtain rfl:=m;refine kw6 (wH A F B C) G hs pins s σ H _ u Q I r ⟨v,h,rfl,?_⟩;have k:i∉c.O:=by simpa using hi
  exact⟨n,_,ds,E.set k y,by rw[Vd k];exact w,q⟩
def ye8(K:CJ)(n:Nat)(t:TGs):TG:=λv σ H Q=>∃a h,v=.ref a/\(SqT K H a h\/SqL K H a h)/\h.length=n/\t h σ H Q
def wi9{k:Nat}{t:TGs}{n:Nat}(C:X.calm=true)(h:PGs X es t)
  (A:(FZ es X.env).length=n:=by rfl)(m:(FZ es X.env).findIdx? (·.1)=none:=by rfl):PG X (.Tuple es k pos) (ye8 X.K n t):=by
 intro pins s σ H v u Q I r w;revert w;refine Yb λa y E q B w=>?_;rcases q with q |q
 ·exact ww4 C h A m pins s σ H v u Q I r ⟨a,y,E,q,B,w⟩
 subst E;cases r;refine Er (λx z p L=>?_) (I.list q);rw[assign_Tuple];refine BX (QF ?_);unfold unpack;rw[show(FZ es X.env).length=x.toArray.size by simp[A,<-B,z.length],m];refine BX (DK (W.kun_itemsOf (I.ok.hd C) p.isList λG F=>?_));have J:Inv X pins σ H {s with heap:=G}:=I.kept (t':=s.toks) λb o e=>F b o (JW (HB e)) e;exact h pins _ σ H y _ Q J (by simpa using z) w
def Tw{Q:Ev->Prop}{e:D->Prop}:∀(Z:List Nat)(ds:List D)(ρ:Ev)(q:RQ (Gs Z ds ρ) Q e),Z.length=ds.length
 | [],[],_,_=>rfl
 | [],_::_,_,q=>q.elim
 |_::_,[],_,q=>q.elim
 |i::Z,d::ds,ρ,q=>by have:Z.length=ds.length:=Tw Z ds _ q;simp[this]
def tT{k n:Nat}(z:X.calm=true)(h:iW X c es (Gs Z))(hl:Z.length=n:=by rfl)(y:(FZ es X.env).length=n:=by rfl)(w:(FZ es X.env).findIdx? (·.1)=none:=by rfl):PGd X c (.Tuple es k pos) (gT Z):=
 PG.imp (wi9 (n:=n) z h y w) λv σ H Q q=>by
 revert q;refine dF λhs ρ d E r q=>?_;cases d with
 |tup ds=>revert r;refine Br λa vs u x m=>?_;obtain rfl:=u;have:=Tw Z ds ρ q;exact⟨a,vs,rfl,.inl (TpR.sq x),by rw[<-m.length,<-this,hl],hs,ρ,ds,E,m,q⟩
 |lst ds=>revert r;refine Br λa vs p x m=>?_;obtain rfl:=p;have:=Tw Z ds ρ q;exact⟨a,vs,rfl,.inr x.sq,by rw[<-m.length,<-this,hl],hs,ρ,ds,E,m,q⟩
 |_=>exact q.elim
def RQ.noex{k:Type}{r:R k}{q:k->Prop}{e:D->Prop}(h:RQ r q e)(m:∀x,r≠.exc x):RQ r q e':=by
 cases r with
 |ok a=>exact h
 |exc x=>exact absurd rfl (m x)
 |bad=>exact h
def Z8:∀(Z:List Nat)(ds:List D)(ρ:Ev)(x:D),Gs Z ds ρ≠.exc x
 | [],[],_,_=>by simp[Gs]
 |i::Z,d::ds,ρ,x=>by rw[Gs];exact Z8 Z ds _ x
 | [],_::_,_,_=>by simp[Gs]
 |_::_,[],_,_=>by simp[Gs]
def ws3(Z:List Nat):∀(d:D)(ρ:Ev)(x:D),gT Z d ρ≠.exc x:=λd ρ x=>by
 cases d<;>simp[gT]
 all_goals exact Z8 Z _ ρ x
def ws0(i:Nat):∀(d:D)(ρ:Ev)(x:D),gN i d ρ≠.exc x:=λd ρ x=>by simp[gN]
end
structure ItD(K:CJ)(J:It)(ds:List D)(P:Hd):Prop where
 stab:Ut P
 go:∀(i:Nat)(H:Hp)(S:AS),i<ds.length->P H S->J.go i H
 yld:∀(i:Nat)(H:Hp)(S:AS)(x:V)(H':Hp),P H S->J.yld i H x H'->Ag H H'/\∀d,ds[i]? = some d->Rep K H' S d x
 stop:∀(i:Nat)(H:Hp)(S:AS),ds.length<=i->P H S->J.stop i H
def tDI(K:CJ)(c:DC)(l:Lv)(f:Ev->R (List D)):TI:=λσ H Q=>∃hs ρ,Bb K c hs ρ σ H/\RQ (f ρ) (λds=>∀J P H',Ag H H'->ItD K J ds P->P H' (lvS c ρ σ H l)->Q J H') (λe=>∀v H',Ag H H'->Rep K H' (lvS c ρ σ H .any) e v->c.Ex e v H')
abbrev PId(X:Cx)(c:DC)(l:Lv)(h e:CP)(f:Ev->R (List D)):Prop:=PI X h e (tDI X.K c l f)
def PI.imp{k:CP}{t t':TI}(h:PI X k e t)(i:∀σ H Q,t' σ H Q->t σ H Q):PI X k e t':=λpins s σ H Q I q=>h pins s σ H Q I (i σ H Q q)
def Gv:D->Option (List D)
 | .lst ds=>some ds
 | .tup ds=>some ds
 |_=>none
def itS(f:Ev->R D):Ev->R (List D):=λρ=>(f ρ).bind λd=>R.of (Gv d)
def mY:List D->Option (List D)
 | [.int j]=>if -(2 ^ 62)<=j/\j<2 ^ 62 then some ((List.range j.toNat).map λ(k:Nat)=>.int (0+(k:Int))) else none
 |_=>none
def Xb:List D->Option (List D)
 | [.int i,.int j]=>if -(2 ^ 62)<=i/\i<2 ^ 62/\-(2 ^ 62)<=j/\j<2 ^ 62 then some ((List.range (j - i).toNat).map λ(k:Nat)=>.int (i+(k:Int))) else none
 |_=>none
def itR(h:List D->Option (List D))(fs:Ev->R (List D)):Ev->R (List D):=λρ=>(fs ρ).bind λk=>R.of (h k)
variable {tg:CP}
variable {lo:Int}
section
variable {f:Ev->R D}{fs:Ev->R (List D)}
def yn9(K:CJ)(m:TE):TI:=λσ H R=>m σ H λx h=>∃a,x=.ref a/\(((∃k,SqL K h a k)/\R (Itl K a) h)\/((∃k,SqT K h a k)/\R (Itt K a) h))
def ww5{z:TE}(hl:PE X e z):PI X tg e (yn9 X.K z):=by
 intro pins s σ H R I h;refine thG (hl pins s σ H _ I h) λv k x A m E r=>?_;revert r;refine Ao λa u r=>?_;obtain rfl:=u;cases E;rcases r with ⟨⟨B,w⟩,q⟩ | ⟨⟨B,w⟩,q⟩
 ·refine Er (λn C p F=>?_) (m.list w);refine HR p.isList ?_;refine⟨k.heap.objs.size,[k.heap.objs.size],_,_,A,rfl,m.kept (t':=k.toks) λb o e=>JH _ e,kk5 a _,⟨_,KD _ rfl,rfl,rfl⟩,λb y=>?_,q⟩;have e:b=k.heap.objs.size:=by simpa using y
  subst e;exact m.fpOk (F_ _) (m.hok.fresh (F_ _))
 ·refine Er (λn C p F=>?_) (m.tuple w);refine wpAny_pyIter_tuple (show k.heap.IsTuple a n.toArray from p) ?_;refine⟨k.heap.objs.size,[k.heap.objs.size],_,_,A,rfl,m.kept (t':=k.toks) λb o e=>JH _ e,jv1 a _,⟨_,KD _ rfl,rfl,rfl⟩,λb y=>?_,q⟩;have e:b=k.heap.objs.size:=by simpa using y
  subst e;exact m.fpOk (F_ _) (m.hok.fresh (F_ _))
def Xq{a:BK}:Ut λH S=>LsR K H S a vs/\Ak K H S ds vs:=
 ⟨λs q h=>⟨h.1.same s q,h.2.mono s q⟩,λm k h=>⟨h.1.wr m k,h.2.wr m k⟩,λm p k h=>⟨h.1.wrD m (Wm p) k,h.2.wrD m p k⟩,λn h=>⟨h.1.avoid n,h.2.avoid n⟩⟩
def Xr{a:BK}:Ut λH S=>SqT K H a vs/\Ak K H S ds vs:=
 ⟨λs q h=>⟨Ag.sqT s h.1,h.2.mono s q⟩,λk n h=>⟨wy4 k h.1,h.2.wr k n⟩,λk m n h=>⟨wl7 k (Wn m) (ks5 m) h.1,h.2.wrD k m n⟩,λp h=>⟨h.1,h.2.avoid p⟩⟩
def wg2{a:BK}:ItD K (Itl K a) ds λH S=>LsR K H S a vs/\Ak K H S ds vs where
 stab:=Xq
 go:=λi H S hi h=>by refine Ao (λv hv _=>?_) (h.2.get (GK hi));exact⟨vs,v,h.1.sq,hv⟩
 yld:=λi H S x H' h y=>by obtain⟨rfl,y⟩:=y;refine⟨Ag.refl _,λd hd=>?_⟩;refine Ao (λv hv rv=>?_) (h.2.get hd);have:=y vs h.1.sq;rw[hv]at this;cases this;exact rv
 stop:=λi H S hi h=>⟨vs,h.1.sq,by rw[<-h.2.length];exact hi⟩
def wg3{a:BK}:ItD K (Itt K a) ds λH S=>SqT K H a vs/\Ak K H S ds vs where
 stab:=Xr
 go:=λi H S hi h=>by refine Ao (λv hv _=>?_) (h.2.get (GK hi));exact⟨vs,v,h.1,hv⟩
 yld:=λi H S x H' h y=>by obtain⟨rfl,y⟩:=y;refine⟨Ag.refl _,λd hd=>?_⟩;refine Ao (λv hv rv=>?_) (h.2.get hd);have:=y vs h.1;rw[hv]at this;cases this;exact rv
 stop:=λi H S hi h=>⟨vs,h.1,by rw[<-h.2.length];exact hi⟩
def wR{n:Nat}:ItD K (Itr lo n) ((List.range n).map λ(k:Nat)=>.int (lo+(k:Int))) λ_ _=>True where
 stab:=⟨λ_ _ h=>h,λ_ _ h=>h,λ_ _ _ h=>h,λ_ h=>h⟩
 go:=λi H S hi _=>by
  have this:i<n:=by simpa using hi
  exact this
 yld:=λi H S x H' _ y=>by
  obtain⟨rfl,rfl⟩:=y;refine⟨Ag.refl _,λd hd=>?_⟩;rw[QR]at hd;cases e:(List.range n)[i]? with
  |none=>rw[e]at hd;cases hd
  |some k=>rw[e]at hd;cases hd;have⟨h1,h2⟩:=LR.mp e;simp at h2;subst h2;rfl
 stop:=λi H S hi _=>by
  have this:n<=i:=by simpa using hi
  exact this
def Hc(A:PEd X c l e f):PId X c l tg e (itS f):=PI.imp (ww5 A) λσ H Q q=>by
 revert q;refine Bt λhs ρ E q=>?_;refine Bk E ((RQ.bind.mp q).mono (λd y v x r B u=>?_) λ_ z=>z);refine Ao (λds e w=>?_) (y.of);cases d with
 |lst p=>cases e;revert u;refine Br λa vs k m n=>?_;obtain rfl:=k;exact⟨a,rfl,.inl ⟨⟨vs,m.sq⟩,w _ _ x r wg2 ⟨m,n⟩⟩⟩
 |tup p=>cases e;revert u;refine Br λa vs h m n=>?_;obtain rfl:=h;exact⟨a,rfl,.inr ⟨⟨vs,(TpR.sq m)⟩,w _ _ x r wg3 ⟨(TpR.sq m),n⟩⟩⟩
 |_=>cases e
def fX{p:JN}(F:X.mg "range" = none)(G:PAd X c l [a] fs)(m:Gl X "range":=by rfl)(k:BR [a] X.env=[(false,DY a X.env)]:=by rfl):PId X c l tg (.Call (.Name "range" p) [a] [] p2) (itR mY fs):=
 PI.imp (ki8 m F G k) λσ H Q q=>by
 revert q;refine Bt λhs ρ E q=>?_;refine Dd E ((RQ.bind.mp q).mono (λds B vs I u J y C=>?_) λ_ z=>z);refine Ao (λes e A=>?_) (B.of);obtain⟨r,rfl⟩:=inv1 e rfl (λx _ _=>by cases x<;>rfl);cases r with
 |int j=>obtain⟨n,rfl⟩:=Be e;refine Ao (λv h w=>?_) (y.one);obtain rfl:=h;cases(show v=.int j from w);exact⟨j,rfl,n.1,n.2,A _ _ I u wR trivial⟩
 |_=>exact nos e
def yf3{h:CP}{p:JN}(O:X.mg "range" = none)(P:PAd X c l [a,h] fs)(r:Gl X "range":=by rfl)(n:BR [a,h] X.env=[(false,DY a X.env),(false,DY h X.env)]:=by rfl)(m:BR [h] X.env=[(false,DY h X.env)]:=by rfl):
  PId X c l tg (.Call (.Name "range" p) [a,h] [] p2) (itR Xb fs):=
 PI.imp (ki9 r O P n m) λσ H Q q=>by
 revert q;refine Bt λhs ρ E q=>?_;refine Dd E ((RQ.bind.mp q).mono (λds J vs T B U G M=>?_) λ_ z=>z);refine Ao (λes e I=>?_) (J.of);obtain⟨A,w,rfl⟩:=inv2 e rfl (λx=>by cases x<;>rfl) (λx y _ _=>by cases x<;>first |rfl | (cases y<;>rfl));cases A with
 |int i =>
  cases w with
  |int j=>obtain⟨L,rfl⟩:=Be e;refine Br (λv u k C F=>?_) (G.two);obtain rfl:=k;cases(show v=.int i from C);cases(show u=.int j from F);exact⟨i,j,rfl,L,I _ _ T B wR trivial⟩
  |_=>exact nos e
 |_=>exact nos e
end
def Hw:List D->(D->Ev->R Ev)->(Ev->R Fl)->Ev->R Fl
 | [],_,_,ρ=>.ok (.nx ρ)
 |d::ds,g,b,ρ=>(g d ρ).bind λk=>(b k).bind λm=>match m with
  | .nx h=>Hw ds g b h
  | .ct h=>Hw ds g b h
  | .bk h=>.ok (.nx h)
  | .rt d=>.ok (.rt d)
def b_(f:Ev->R (List D))(g:D->Ev->R Ev)(b:Ev->R Fl):Ev->R Fl:=λρ=>(f ρ).bind λds=>Hw ds g b ρ
section
variable {f:Ev->R (List D)}{g:D->Ev->R Ev}{b:Ev->R Fl}{h:List DR}
theorem for_(hp:XM (BV X.prog X.w) X.A X.env X.xe)(hc:X.calm=true)(hg:PGd X c tg g)(he:PId X c .no tg e f)(hb:Us X c h b)(hn:∀d ρ x,g d ρ≠.exc x:=by first |exact ws3 _ |exact ws0 _)
  (hs:∀x,FN e X.env x=pure x:=by intro _;rfl):PSd X c (.For tg e h [] pos) (b_ f g b):=PS.imp (ww7 hp hc he hg hb hs) λU σ H q=>by
 revert q;refine Bt λhs ρ E q=>?_;refine⟨hs,ρ,E,(RQ.bind.mp q).mono (λds q1 J P H1 s1 T p1=>?_) λx z=>Ef E z⟩;have E1:=(E.mono s1).hold T.stab p1;refine⟨λi m σ H=>m=ds.length - i/\i<=ds.length/\∃ρ,Bb X.K c (P::hs) ρ σ H/\RQ (Hw (ds.drop i) g b ρ) (Fl.ends X.K c hs U) (Rg X.K c),⟨ds.length,by simp,WL _,ρ,E1,q1⟩,?_⟩;rintro i m I G ⟨rfl,hi,B,Q,F⟩;have p2:=(Q.held P JK).2;by_cases r:i<ds.length
 ·refine .inr ⟨T.go i G _ r p2,λk H'=>∃p,Bb X.K c (P::hs) p k H'/\RQ (Hw (ds.drop (i+1)) g b p) (Fl.ends X.K c hs U) (Rg X.K c),λk H' ⟨p,u,q'⟩=>⟨ds.length - (i+1),by omega,rfl,r,p,u,q'⟩,λx H' y=>?_⟩;have⟨s3,M⟩:=T.yld i G _ x H' p2 y;have M:=M ds[i] (GK r);rw[bM r,Hw]at F;refine⟨P::hs,B,ds[i],Q.mono s3,M,((RQ.bind.mp F).mono (λL q3 Y E3=>?_) λ_ z=>z).noex (hn ds[i] B)⟩;refine⟨P::hs,L,E3,(RQ.bind.mp q3).mono (λfl C=>?_) λ_ z=>z⟩;cases fl with
  |nx n=>exact λk H' u=>⟨n,u,C⟩
  |ct n=>exact λk H' u=>⟨n,u,C⟩
  |bk n=>exact λk H' u=>C k H' u.unhold
  |rt d=>exact C
 ·have O:i=ds.length:=by omega
  subst O;rw[bL (F_ _)]at F;exact .inl ⟨T.stop _ G _ (F_ _) p2,F I G Q.unhold⟩
end
def dD:R Fl->R D
 | .ok (.rt d)=>.ok d
 | .ok (.nx _)=>.ok .non
 | .ok _=>.bad
 | .exc e=>.exc e
 | .bad=>.bad
def Af(n:Nat)(ds:List D):Ev:=ds.map some++List.replicate (n - ds.length) none
def Cq(n:Nat)(g:Ev->R Fl)(ds:List D):R D:=dD (g (Af n ds))
def sp0(K:CJ)(n:Nat)(m:List D->R D):Sp:=λvs H Q _=>vs.length=n/\∃S ds,Ak K H S ds vs/\RQ (m ds) (λr=>∀v H',Ag H H'->Rep K H' (AS.plus S H) r v->Q v H') (λ_=>False)
def R.nox{h:Type}:R h->R h
 | .ok a=>.ok a
 |_=>.bad
@[simp] def R.nox_ok{h:Type}(a:h):(R.ok a).nox=.ok a:=nr rfl
def Jr:D->V->Hp->Prop:=λ_ _ _=>False
variable {w:CW}
section
variable {P:B_}{mg:BZ->Option A_}{base:CK}
theorem Y8{S:AS}{O:List Nat}{F:D->V->Hp->Prop}{N:List BZ}(r:Ak K H S ds vs)(C:∀i∈O,vs.length<=i):Bb K ⟨H,S,O,F,[]⟩ [] (Af N.length ds) (L2.start N vs) H:=by
 have y:=r.length;have get:∀(i:Nat)(d:D),(Af N.length ds)[i]? = some (some d)->ds[i]? = some d:=λi d h=>by
  unfold Af at h;by_cases k:i<ds.length
  ·rw[YS (by simpa using k),QR]at h;cases e:ds[i]? with
   |none=>rw[e]at h;cases h
   |some a=>rw[e]at h;cases h;rfl
  ·rw[YT (by simpa using k),qR]at h;split at h<;>cases h
 have m:∀i,i∈O->¬ live (Af N.length ds) i:=λi k ⟨d,n⟩=>by have E:=get i d n;have I:=(LR.mp E).1;have G:=C i k;lia
 refine⟨Ag.refl _,by simp[Af,L2.start,y],λi d k n=>absurd ⟨d,n⟩ (m i k),λi j a k _ u=>absurd u (m i k),λi d k n=>?_,(λP x=>by cases x),(λa B=>by cases B)⟩;refine Ao (λv e p=>?_) (r.get (get i d n));refine⟨v,?_,p.mono (Ag.refl _) λo z=>⟨.inl z,λa _ ⟨j,A,q,_⟩=>m j A q⟩⟩;unfold L2.start;have k:i<vs.length:=(LR.mp e).1;rw[YS (by simpa using k),QR,e];rfl
theorem By{x qual:BZ}{f:BK}{B:DX}{N ps:List BZ}{k:Nat}{O:List Nat}{g:Ev->R Fl}(F:Fun K x qual st f B)(S:Fp N ps (Bf st))(J:O.all (λi=>decide (ps.length<=i))=true)
  (p:∀(m:A_)(A:EY)(outer:List KH)(s:BJ)(H:Hp)(E:XK)(u:AS),Hx k (A.deeper (envOfC qual (Bf st) s.heap.objs.size f m))->(A.deeper (envOfC qual (Bf st) s.heap.objs.size f m)).units+70<I_ ->
   Us (X8 CX0 P w K mg base N qual (Bf st) f m A outer s H E).nox ⟨H,u,O,Jr,[]⟩ (El st) g):
  Hl P w K mg base CX0 (k+1) f B ps (sp0 K ps.length (Cq N.length g)):=by
 refine F.ok S (λvs H Q E h=>h.1) (λm A outer s H vs Q E y h=>?_);obtain⟨G,u,ds,r,q⟩:=h;refine⟨_,p m A outer s H E u y (by have:=y.un;lia),[],Af N.length ds,Y8 r (λi I=>?_),?_⟩
 ·have:=PQ.mp J i I;rw[G];exact of_decide_eq_true this
 ·have n:RQ (dD (g (Af N.length ds))) _ _:=q;cases e:g (Af N.length ds) with
  |ok L =>
   rw[e]at n;cases L with
   |nx ρ=>exact λC H' U=>n .non H' U.same rfl
   |rt d=>exact λv H' s r=>n v H' s (r.mono (Ag.refl _) λo z=>z.elim .inl λ⟨a,T,M,_⟩=>.inr ⟨a,T,M⟩)
   |bk ρ=>exact n.elim
   |ct ρ=>exact n.elim
  |exc x=>rw[e]at n;exact n.elim
  |bad=>rw[e]at n;exact n.elim
end
variable {k n:Nat}{p:JN}{x:BZ}
section
variable {fs:Ev->R (List D)}{f:BK}{fd:DX}{ps:List BZ}{m:List D->R D}
def cl(fs:Ev->R (List D))(m:List D->R D):Ev->R D:=λρ=>(fs ρ).bind λds=>(m ds).nox
def yc0(F:Hl X.prog X.w X.K X.mg X.base CX0 k f fd ps (sp0 X.K n m))(J:Hx k X.A)(O:X.mg x=some (.ref f))(T:W.keepIn X.K (.ref f)=true)(hb:Binds X.K fd ps [])(ha:PAd X c l (e::es) fs)(M:(e::es).length=n:=by rfl)(L:ps.length=n:=by rfl)(U:Gl X x:=by rfl)
  (y:Zd x:=by decide)(Y:Zs X.env e es:=by rfl)(u:Zp X.env pos es:=by rfl):
  PEd X c l (.Call (.Name x p) (e::es) [] pos) (cl fs m):=PE.imp (wJ F J U O T hb .nil yh3 ha y Y u) λσ H Q q=>by
 revert q;refine Bt λhs ρ E q=>?_;refine Dd E ((RQ.bind.mp q).mono (λds h vs H1 B E1 C P=>?_) λ_ z=>z);rw[YK];cases r:m ds with
 |ok d =>
  rw[r]at h;refine⟨?_,lvS c ρ σ H l,ds,C,?_⟩
  ·rw[<-C.length,P,M]
  ·rw[r];exact λv H' G I=>h v H' (B.trans G) (I.mono (Ag.refl _) λ_ z=>Lw E B z)
 |exc x=>rw[r]at h;exact h.elim
 |bad=>rw[r]at h;exact h.elim
end
def ZW(env:KH):List (BZ×GF)->List (BZ×BK)->List (BZ×BK)
 | [],h=>h
 | (n,k)::r,h=>ZW env r (if k == .free then(match env.cells.lookup n with |some a=>(n,a)::h |none=>h) else h)
def Vs(h:JF)(env:KH):List (BZ×BK):=ZW env h.names []
def X7{m:JF}{env:KH}(h:∀x∈m.names,x.2=.free->∃a,env.cells.lookup x.1=some a):bQ m env=pure (Vs m env):=by
 have key:∀(l:List (BZ×GF))(cs:List (BZ×BK)),(∀x∈l,x.2=.free->∃a,env.cells.lookup x.1=some a) ->
   (forIn l cs λ(x:BZ×GF)(r:List (BZ×BK))=>if x.2 == .free then(do let a <-lU env x.1;pure (ForInStep.yield ((x.1,a)::r))) else pure (ForInStep.yield r))=(pure (ZW env l cs):Sem _):=by
  intro l;induction l with
  |nil=>intro cs _;rfl
  |cons y r z =>
   obtain⟨n,k⟩:=y;intro cs u;rw[lF];by_cases A:k=.free
   ·subst A;have⟨a,B⟩:=u (n,.free) JK rfl;have E:lU env n=pure a:=by unfold lU;rw[B]
    simp only[beq_self_eq_true,if_true,E,ZW,B];exact z _ λx q=>u x (IK _ q)
   ·have C:(k == NameKind.free)=false:=by simpa using A
    simp only[C,WN,if_false,ZW];exact z _ λx q=>u x (IK _ q)
 have e:bQ m env=((forIn m.names [] λ(x:BZ×GF)(r:List (BZ×BK))=>if x.2 == .free then(do let a <-lU env x.1;pure (ForInStep.yield ((x.1,a)::r))) else pure (ForInStep.yield r)) >>= λcs=>pure cs):=rfl;rw[e,key m.names [] h];rfl
theorem u0{env:KH}{x:BZ}{a:BK}:∀{l:List (BZ×GF)}{cs:List (BZ×BK)},(x,a)∈ZW env l cs->env.cells.lookup x=some a\/(x,a)∈cs
 | [],_,h=>.inr h
 | (n,k)::r,cs,h=>by
  rw[ZW]at h;rcases u0 h with h |h
  ·exact .inl h
  ·split at h
   ·split at h
    ·rename_i b m;rcases HN.mp h with e |h
     ·cases e;exact .inl m
     ·exact .inr h
    ·exact .inr h
   ·exact .inr h
theorem Kf{env:KH}{x:BZ}{a:BK}(m:env.cells.lookup x=some a):∀{l:List (BZ×GF)}{cs:List (BZ×BK)},((x,NameKind.free)∈l\/cs.lookup x=some a)->(ZW env l cs).lookup x=some a
 | [],_,h=>by
  rcases h with h |h
  ·cases h
  ·exact h
 | (n,k)::r,cs,h=>by
  rw[ZW];by_cases q:x=n
  ·subst q;by_cases u:k=.free
   ·subst u;refine Kf m (.inr ?_);simp[m]
   ·have y:(k == NameKind.free)=false:=by simpa using u
    rw[y];refine Kf m ?_;rcases h with h |h
    ·rcases HN.mp h with e |h
     ·cases e;exact absurd rfl u
     ·exact .inl h
    ·exact .inr h
  ·refine Kf m ?_;have y:(x == n)=false:=by simpa using q
   rcases h with h |h
   ·rcases HN.mp h with e |h
    ·cases e;exact absurd rfl q
    ·exact .inl h
   ·refine .inr ?_;split
    ·split
     ·rw[Z2,y];exact h
     ·exact h
    ·exact h
theorem oH{x:BZ}{a:BK}:∀{l:List (BZ×GF)}{n:Nat}{acc:List (BZ×BK)},(x,a)∈D_ n l acc->n<=a\/(x,a)∈acc
 | [],_,_,h=>.inr h
 | (y,k)::r,n,acc,h=>by
  unfold D_ at h;split at h
  ·rcases oH h with h |h
   ·exact .inl (by lia)
   ·rcases HN.mp h with e |h
    ·cases e;exact .inl (F_ _)
    ·exact .inr h
  ·exact oH h
def oJ{x y:BZ}{a:BK}:∀{l:List (BZ×GF)}{n:Nat}{acc:List (BZ×BK)},(∀x y a,(x,a)∈acc->(y,a)∈acc->x=y)->(∀y∈acc,y.2<n)->(x,a)∈D_ n l acc->(y,a)∈D_ n l acc->x=y
 | [],_,_,h,_,A,m=>h _ _ _ A m
 | (z,k)::r,n,acc,h,B,A,m=>by
  unfold D_ at A m;by_cases E:(k == NameKind.cell)=true
  ·rw[if_pos E]at A m;refine oJ (λu w b p q=>?_) (λy C=>?_) A m
   ·rcases HN.mp p with e |p<;>rcases HN.mp q with e' |q
    ·cases e;cases e';rfl
    ·cases e;exact absurd (B _ q) (SN _)
    ·cases e';exact absurd (B _ p) (SN _)
    ·exact h u w b p q
   ·rcases HN.mp C with e |C
    ·cases e;exact cH _
    ·exact aB (B y C)
  ·rw[if_neg E]at A m;exact oJ h B A m
def oG{x:BZ}{a:BK}{lo:Nat}:∀{l:List (BZ×GF)}{n:Nat}{acc:List (BZ×BK)},lo<=n->(l.lookup x=some .cell\/∀a,acc.lookup x=some a->lo<=a)->(D_ n l acc).lookup x=some a->lo<=a
 | [],_,_,_,h,e=>by
  rcases h with h |h
  ·cases h
  ·exact h a e
 | (z,k)::r,n,acc,u,h,e=>by
  unfold D_ at e;by_cases y:(k == NameKind.cell)=true
  ·rw[if_pos y]at e;refine oG (Nat.le_succ_of_le u) ?_ e;cases m:x == z with
   |true=>refine .inr λb q=>?_;rw[Z2,m]at q;cases q;exact u
   |false =>
    rcases h with h |h
    ·rw[Z2,m]at h;exact .inl h
    ·refine .inr λb q=>?_;rw[Z2,m]at q;exact h b q
  ·rw[if_neg y]at e;refine oG u ?_ e;rcases h with h |h
   ·cases m:x == z with
    |true=>rw[Z2,m]at h;cases h;exact absurd rfl y
    |false=>rw[Z2,m]at h;exact .inl h
   ·exact .inr h
def Vr{x:BZ}:∀{l:List (BZ×GF)}{n:Nat}{acc:List (BZ×BK)},(x,NameKind.cell)∉l->(D_ n l acc).lookup x=acc.lookup x
 | [],_,_,_=>rfl
 | (z,k)::r,n,acc,h=>by
  unfold D_;by_cases m:(k == NameKind.cell)=true
  ·rw[if_pos m,Vr λq=>h (IK _ q),Z2];have u:(x == z)=false:=by
    cases y:x == z with
    |false=>rfl
    |true =>
     have B:x=z:=by simpa using y
     have A:k=.cell:=by simpa using m
     subst B;subst A;exact absurd JK h
   rw[u]
  ·rw[if_neg m];exact Vr λq=>h (IK _ q)
def pH{x:BZ}{a:BK}:∀{l:List (BZ×GF)}{h:CK}{acc:List (BZ×BK)},(x,a)∈D_ h.objs.size l acc->(x,a)∈acc\/(PK h l).IsCell a none
 | [],_,_,q=>.inl q
 | (z,k)::r,h,acc,q=>by
  unfold D_ at q;unfold PK;by_cases m:(k == NameKind.cell)=true
  ·rw[if_pos m]at q ⊢;have u:(x,a)∈D_ (h.push {cls:=.type "cell",data:=.cell none}).objs.size r ((z,h.objs.size)::acc):=by rw[RX];exact q
   rcases pH u with q |q
   ·rcases HN.mp q with e |q
    ·cases e;exact .inr ⟨_,MT r _ _ _ (KD _ rfl),rfl⟩
    ·exact .inl q
   ·exact .inr q
  ·rw[if_neg m]at q ⊢;exact pH q
def Mf{m:JF}{env:KH}:∀{k:GF},(QW m env).names.lookup x=some k->(m.names.lookup x=some k)\/(k=.cell/\m.names.lookup x=some .free):=by
 intro k h;have key:∀l:List (BZ×GF),(l.map λ(n,k)=>if(k == NameKind.free && env.scope.kind == .function && env.kindOf n == some .cell) then(n,NameKind.cell) else(n,k)).lookup x=some k->(l.lookup x=some k)\/(k=.cell/\l.lookup x=some .free):=by
  intro l;induction l with
  |nil=>intro h;cases h
  |cons y r A =>
   obtain⟨n,u⟩:=y;intro h;have h:List.lookup x ((if(u == NameKind.free && env.scope.kind == .function && env.kindOf n == some .cell)=true then(n,NameKind.cell) else(n,u))::(r.map λ(n,k)=>if(k == NameKind.free && env.scope.kind == .function && env.kindOf n == some .cell) then(n,NameKind.cell) else(n,k)))=some k:=h;by_cases z:(u == NameKind.free && env.scope.kind == .function && env.kindOf n == some .cell)=true
   ·rw[if_pos z]at h;rw[Z2]at h ⊢;cases q:x == n with
    |true =>
     rw[q]at h;cases h;have:u=.free:=by simp only[QC,beq_iff_eq]at z;exact z.1.1
     exact .inr ⟨rfl,by rw[this]⟩
    |false=>rw[q]at h;exact A h
   ·rw[if_neg z]at h;rw[Z2]at h ⊢;cases q:x == n with
    |true=>rw[q]at h;exact .inl h
    |false=>rw[q]at h;exact A h
 exact key m.names h
def rG(scope:JF)(C:BK)(env:KH):KH:={scope:=QW scope env,locals:=C,globals:=env.globals,cells:=D_ (C+1) scope.names (Vs scope env),qual:=env.qual,func:=none,code:=env.code,frame:=env.frame,builtins:=env.builtins}
def cxB(X:Cx)(N:List BZ)(h:JF)(C:BK)(s:BJ)(H:Hp)(ex:List BK):Cx:=
 {X with N:=N,s₀:=s,H₀:=H,env:=rG h C X.env,outer:=X.stack,ex:=ex,fn:=λx=>h.names.lookup x == some .cell,pn:=[],xe:=λ_ _=>False}
variable {A:EY}{M:KR}{E:A_->BJ->Prop}
def wh8{h:JF}{env:KH}{cl:List (BZ×BK)}{Q:KH->BJ->Prop}
  (q:Q (newEnv h s.heap.objs.size env.globals (D_ (s.heap.objs.size+1) h.names cl) env.qual none .none (some env) VJ) {s with heap:=PK (s.heap.push {cls:=.type "dict",data:=.dict #[] }) h.names}):
  BP M A (jD h env.globals cl [] env.qual none .none (some env)) Q E s:=by
 simp only[jD,jHn,if_true];refine BX (wpAny_alloc ?_);refine BX (wpAny_layCells _ (λname kind cells=>by cases m:kind == NameKind.cell<;>simp[m]) _ _ _ _ ?_);rw[show({s with heap:=s.heap.push {cls:=.type "dict",data:=.dict #[] } }:BJ).heap.objs.size=s.heap.objs.size+1 from RX ..];exact BX (DN (DN q))
structure J1(X:Cx)(scope:JF)(T:List BZ)(caps:List Nat):Prop where
 kind:scope.kind=.function
 free:∀x∈scope.names,x.2=.free->X.env.kindOf x.1=some .cell\/X.env.kindOf x.1=some .free
 names:∀x∈scope.names,x.2=.local->scope.names.lookup x.1=some .local
 cap:∀j∈caps,∃x,X.N[j]? = some x/\scope.names.lookup x=some .free/\(x,NameKind.cell)∉scope.names/\(X.env.kindOf x=some .cell\/X.env.kindOf x=some .free)
def Nk(sc osc:JF)(N:List BZ)(caps:List Nat):Bool:=
 (sc.kind == .function) && sc.names.all (λx=>x.2 != .free || (osc.names.lookup x.1 == some .cell ||osc.names.lookup x.1 == some .free)) && sc.names.all (λx=>x.2 != .local ||sc.names.lookup x.1 == some .local)
  && caps.all (λj=>match N[j]? with
   |some x=>sc.names.lookup x == some .free && !(sc.names.any λy=>y.1 == x && y.2 == .cell) && (osc.names.lookup x == some .cell ||osc.names.lookup x == some .free)
   |none=>false)
def J1.of{m:JF}{T:List BZ}{caps:List Nat}(h:Nk m X.env.scope X.N caps=true):J1 X m T caps:=by
 simp only[Nk,QC,PQ,bG,beq_iff_eq,bne_iff_ne]at h;obtain⟨⟨⟨L,J⟩,I⟩,G⟩:=h;refine⟨L,λx q r=>?_,λx q r=>?_,λj F=>?_⟩
 ·rcases J x q with z |z
  ·exact absurd r z
  ·exact z
 ·rcases I x q with z |z
  ·exact absurd r z
  ·exact z
 ·have:=G j F;cases e:X.N[j]? with
  |none=>rw[e]at this;cases this
  |some x=>rw[e]at this;simp only[QC,bG,beq_iff_eq,aA,jHu]at this;obtain⟨⟨B,y⟩,u⟩:=this;exact⟨x,rfl,B,λC=>y _ C ⟨rfl,rfl⟩,u⟩
def Fy(X:Cx)(T:List BZ)(caps:List Nat):List BZ:=T++caps.map λj=>(X.N[j]?).getD (Str.ofString "")
def Q6(T:List BZ)(caps:List Nat)(σ:St):St:=T.map (λ_=>none)++caps.map λj=>(σ[j]?).join
def Hn(n:Nat)(caps:List Nat)(ρ:Ev):Ev:=List.replicate n none++caps.map λj=>(ρ[j]?).join
variable {fp:List BK}{caps:List Nat}{T:List BZ}{scope:JF}
def J1.clo(B:J1 X scope T caps)(I:Inv X pins σ H s):bQ scope X.env=pure (Vs scope X.env):=X7 λx h m=>I.ok.has x.1 (B.free x h m)
theorem kg8(B:J1 X scope T caps)(I:Inv X pins σ H s)(hf:∀b∈fp,Qz X pins H b)(hl:∀b∈fp,b<s.heap.objs.size):
  Inv (cxB X (Fy X T caps) scope s.heap.objs.size s H fp) [] (Q6 T caps σ) H {s with heap:=PK (s.heap.push {cls:=.type "dict",data:=.dict #[] }) scope.names}:=by
 have keep:∀b o,s.heap.get? b=some o->(PK (s.heap.push {cls:=.type "dict",data:=.dict #[] }) scope.names).get? b=some o:=λb o e=>MT _ _ b o (JH _ e);have clX:∀{x a},(x,a)∈Vs scope X.env->X.env.cells.lookup x=some a:=λh=>(u0 h).elim id λz=>by cases z
 have cut:∀{x a},(D_ (s.heap.objs.size+1) scope.names (Vs scope X.env)).lookup x=some a->s.heap.objs.size+1<=a\/X.env.cells.lookup x=some a:=λh=>(oH (PySem.mem_of_lookup h)).elim .inl λz=>.inr (clX z);have G:∀{x a},X.env.cells.lookup x=some a->a<s.heap.objs.size:=λh=>by have⟨v,z⟩:=I.cell _ _ h;exact z.lt
 refine⟨⟨I.ok.mod,B.kind,I.ok.glob,I.ok.blt,F_ _,λx y a Q O=>?_,λx P=>?_,λx a P h=>?_,I.ok.hd,I.ok.frames,.inl rfl,λb J=>⟨JW (hl b J),λx a h e=>?_⟩,I.bs,PL I.ok.bsz I.sz,λb o e J=>?_,λb J P=>?_,I.stack,I.stkFree⟩,
  rfl,I.bare,Un.kept keep,⟨λ_=>none,(Heap.Ns.new s.heap (.type "dict")).keeps (MT _ _),λi x v Q O h3=>?_⟩,λx a h=>?_,I.hok.fresh (F_ _),λx a h=>?_,λp hp=>absurd (show p∈([]:List (BK×GJ)) from hp) (by simp),I.hok.kept keep,?_⟩
 ·refine oJ (λu w b p q=>I.ok.inj u w b (clX p) (clX q)) (λy Y=>?_) (PySem.mem_of_lookup Q) (PySem.mem_of_lookup O);exact aB (G (clX Y))
 ·have L:(QW scope X.env).names.lookup x=some .cell\/(QW scope X.env).names.lookup x=some .free:=P;have hk:scope.names.lookup x=some .cell\/scope.names.lookup x=some .free:=by
   rcases L with h |h
   ·rcases Mf h with h | ⟨_,h⟩
    ·exact .inl h
    ·exact .inr h
   ·rcases Mf h with h | ⟨z,_⟩
    ·exact .inr h
    ·cases z
  rcases hk with h |h
  ·exact qU.mp (W.cellsFrom_some scope.names _ _ (.inl h))
  ·have⟨a,ha⟩:=I.ok.has x (B.free (x,.free) (PySem.mem_of_lookup h) rfl);have:=Kf (cs:=[]) ha (.inl (PySem.mem_of_lookup h));exact qU.mp (W.cellsFrom_some scope.names _ _ (.inr (by unfold Vs;rw[this];rfl)))
 ·have L:(scope.names.lookup x == some NameKind.cell)=true:=P;exact qH (oG (F_ _) (.inl (by simpa using L)) h)
 ·rcases cut h with z |z
  ·exact absurd (PX (hl b J) (e ▸ qH z)) (SN _)
  ·exact(hf b J).2.2.2.2.1 x a z e
 ·rcases(hf b J).2.2.2.1 with z |z
  ·exact I.ok.noex b o e z
  ·have Q:=HB e;have O:=I.ok.bsz;exact absurd (PX Q (PL O z)) (SN _)
 ·rcases HN.mp (I.stkSub b P) with z |z
  ·exact(hf b J).2.1 z
  ·exact(hf b J).2.2.1 z
 ·have hi:T.length<=i:=by
   by_cases hi:T.length<=i
   ·exact hi
   ·exfalso;have C:(Q6 T caps σ)[i]? = some (some v):=O;unfold Q6 at C;rw[YS (by simp;lia),QR]at C;cases e:T[i]? with
    |none=>rw[e]at C;cases C
    |some t=>rw[e]at C;cases C
  have C:(Q6 T caps σ)[i]? = some (some v):=O;have F:(Fy X T caps)[i]? = some x:=Q;unfold Q6 at C;unfold Fy at F;rw[YT (by simpa using hi),GP,QR]at C;rw[YT hi,QR]at F;cases ej:caps[i - T.length]? with
  |none=>rw[ej]at C;cases C
  |some j =>
   rw[ej]at F C;refine aV (λy Y m1 m2 m3=>?_) (B.cap j (YQ ej));have F:some ((X.N[j]?).getD (Str.ofString ""))=some x:=F;rw[Y]at F;have e1:y=x:=Option.some.inj F;subst e1;have U:(σ[j]?).join=some v:=Option.some.inj C;have e3:σ[j]? = some (some v):=by
    cases q:σ[j]? with
    |none=>rw[q]at U;cases U
    |some o=>rw[q]at U;cases o with
     |none=>cases U
     |some w=>cases U;rfl
   refine Ao (λm hn ab=>?_) (I.loc);have aa:Vis X.env.scope y:=by rcases m3 with z |z;exact .inr (.inl z);exact .inr (.inr z)
   refine Ao (λu r lk=>?_) (ab j y v Y e3 aa);refine⟨u,r,.inr ⟨?_,?_⟩⟩
   ·have ae:(QW scope X.env).names.lookup y=some .local\/(QW scope X.env).names.lookup y=some .cell\/(QW scope X.env).names.lookup y=some .free:=h3;rcases ae with z |z |z
    ·exfalso;rcases Mf z with z | ⟨z,_⟩
     ·rw[m1]at z;cases z
     ·cases z
    ·exact .inl z
    ·exact .inr z
   ·rcases lk with ⟨k,_⟩ | ⟨k,a,ha,hc⟩
    ·rcases m3 with w |w<;>(have k':X.env.kindOf y=some .local:=k;rw[w]at k';cases k')
    ·refine⟨a,?_,hc.keeps keep⟩;show(D_ (s.heap.objs.size+1) scope.names (Vs scope X.env)).lookup y=some a;rw[Vr m2];exact Kf ha (.inl (PySem.mem_of_lookup m1))
 ·have h':(x,a)∈D_ (s.heap.push {cls:=.type "dict",data:=.dict #[] }).objs.size scope.names (Vs scope X.env):=by rw[RX];exact PySem.mem_of_lookup h
  rcases pH h' with z |z
  ·have⟨v,q⟩:=I.cell x a (clX z);exact⟨v,q.keeps keep⟩
  ·exact⟨none,z⟩
 ·rcases cut h with z |z
  ·exact I.hok.fresh (by lia)
  ·exact I.freeC x a z
 ·show(Q6 T caps σ).length=(Fy X T caps).length;simp[Q6,Fy]
def jr9{N:List BZ}{C:BK}{m:BJ}{r:St}(I:Inv X pins σ H s)(y:C=s.heap.objs.size)(q:∀b∈fp,Qz X pins H b)(J:Inv (cxB X N scope C s H fp) [] r H' m)(h':CK)(hs:Heap.SameBut C m.heap h'):
  Inv X pins σ H' {m with heap:=h'}:=by
 have z:Inv X pins σ H' m:=I.call' (ch:=fp) J.os J.base J.hok J.bare λb h=>⟨(q b h).2.2.2.1,(q b h).2.1,(q b h).2.2.2.2.1,(q b h).2.2.2.2.2⟩;have u:s.heap.objs.size<=C:=pQ y.symm;have F:=I.fpOk (H':=H') u J.free;have:=z.turned (t':=m.toks) (h':=h') (it:=C) (λb o h e=>(hs.2 b h).trans e) J.free F.2.1 F.2.2.2.1 F.2.2.2.2.1 F.2.2.2.2.2;exact this
variable {prog:B_}
section
variable {R:lW->BJ->Prop}
def cNo:A_->BJ->Prop:=λ_ _=>False
def thc{m:Type}{t:Sem m}{Q q:m->BJ->Prop}{M:KR}(h:BP M A t Q cNo s)(r:∀a s,Q a s->q a s):BP M A t q E s:=GD h r λ_ _ z=>z.elim
def thx{m:Type}{t:Sem m}{Q q:m->BJ->Prop}{M:KR}{y:A_->BJ->Prop}(r:E=cNo)(h:BP M A t Q E s)(u:∀a s,Q a s->q a s):BP M A t q y s:=by subst r;exact thc h u
def nn{p:Prop}(h:(p->False)->False):p:=U_ h
def ct3(M:KR)(A:EY)(elt:CP)(acc:A_)(env:KH)(I:Nat->BJ->Prop)(n:Nat)(ok:Bool)(s:BJ):Prop:=
 if ok=true then BP M A (DY elt env) (λx q=>BP M A (call (.builtin "list.append") [acc,x]) (λ_ h=>∃m,m<n/\I m h) cNo q) cNo s else ∃m,m<n/\I m s
def ct2(M:KR)(A:EY)(ifs:List CP)(env:KH)(Q:Bool->BJ->Prop)(_:Unit)(s:BJ):Prop:=
 BP M A (forIn ifs true λc r=>if r=true then do let ok <-YC c env (DY c env);pure (ForInStep.yield ok) else pure (ForInStep.yield r)) Q cNo s
def ct1(M:KR)(A:EY)(target:CP)(env:KH)(v:A_)(Q:Unit->BJ->Prop)(_:Unit)(s:BJ):Prop:=BP M A (QM target env v) Q cNo s
def ct0(M:KR)(A:EY)(target:CP)(it:A_)(env:KH)(N:BJ->Prop)(Q:Unit->BJ->Prop)(r:Option A_)(s:BJ):Prop:=
 r.elim (N s) λv=>BP M A (M_ target it v) (ct1 M A target env v Q) cNo s
def ji2{elt target iter:CP}{ifs:List CP}{scope:JF}{it acc:A_}{env:KH}(I:Nat->BJ->Prop)
  (turn:∀n s,I n s->BP (BV prog w) A (IW it) (ct0 (BV prog w) A target it env (R (.ok .next)) (ct2 (BV prog w) A ifs env (ct3 (BV prog w) A elt acc env I n))) cNo s)
  (n:Nat)(h:I n s):
  KN (BV prog w) A (.compLoop (.ListComp elt [⟨target,iter,ifs,0⟩] scope pos) 0 it acc env) R s:=by
 refine codeAny_loop rfl I (λn s L=>?_) n h;show BP _ A ((compTurn (.ListComp elt [⟨target,iter,ifs,0⟩] scope pos) 0 it acc env).onRaise (λx=>do cT x env;theTreesLotGoes x)) _ _ s;refine wpAny_noted ?_;rw[compTurn_list];refine BX (QF (BX (thc (turn n s L) λr u m=>?_)));cases r with
 |none=>exact DN m
 |some v =>
  refine BX (thc m λ_ u m=>BX (thc m λ_ J B=>BX (thc B λok G q=>?_)));cases ok with
  |false=>exact DN ⟨rfl,q⟩
  |true=>exact BX (BX (thc q λx F z=>BX (thc z λ_ C y=>DN (DN ⟨rfl,y⟩))))
end
def TsD(X:Cx)(c:DC)(ifs:List CP)(t:Ev->R Bool):Prop:=
 ∀(pins:List (BK×GJ))(s:BJ)(σ:St)(H:Hp)(Q:Bool->Hp->Prop),Inv X pins σ H s->tDT X.K c t σ H Q ->
  BP (BV X.prog X.w) X.A (forIn ifs true λc r=>if r=true then do let ok <-YC c X.env (DY c X.env);pure (ForInStep.yield ok) else pure (ForInStep.yield r)) (TP X pins σ Q) X.xe s
def yes:Ev->R Bool:=λ_=>.ok true
def ti0:TsD X c [] yes:=λpins s σ H Q I q=>by revert q;refine Bt λhs ρ E q=>?_;rw[lC];exact DN ⟨H,I,q H (Ag.refl _)⟩
def ti1{t:Ev->R Bool}(h:PTd X c e t):TsD X c [e] t:=λpins s σ H Q I q=>by rw[lF];simp only[if_true];refine BX (BX (thn (h pins s σ H Q I q) λk r m=>DN ?_));show BP _ _ (forIn [] k _) _ _ _;rw[lC];exact DN m
def Dp(g:D->Ev->R Ev)(t:Ev->R Bool)(f:Ev->R D)(ρ:Ev):List D->R (List D)
 | []=>.ok []
 |d::ds=>(g d ρ).bind λh=>(t h).bind λk=>if k then(f h).bind λy=>(Dp g t f ρ ds).bind λys=>.ok (y::ys) else Dp g t f ρ ds
def Bo(it:Ev->R (List D))(n:Nat)(caps:List Nat)(g:D->Ev->R Ev)(t:Ev->R Bool)(f:Ev->R D):Ev->R D:=λρ=>(it ρ).bind λds=>((Dp g t f (Hn n caps ρ) ds).bind λh=>if h.length<=16777216 then .ok (.lst h) else .bad).nox
variable {it:Ev->R (List D)}
theorem kf4{g:D->Ev->R Ev}{t:Ev->R Bool}{d:D}(h:Bo it n caps g t f ρ=.ok d):∃ds,d=.lst ds:=by
 unfold Bo at h;cases r:it ρ<;>rw[r]at h<;>try cases h
 rename_i q;simp only[R.ok_bind]at h;cases m:Dp g t f (Hn n caps ρ) q with
 |ok ys =>
  rw[m]at h;simp only[R.ok_bind]at h;split at h
  ·cases h;exact⟨_,rfl⟩
  ·cases h
 |exc _=>rw[m]at h;cases h
 |bad=>rw[m]at h;cases h
def RQ.nox{m:Type}{r:R m}{q:m->Prop}{e:D->Prop}(h:RQ r.nox q e):∃a,r=.ok a/\q a:=by
 cases r with
 |ok a=>exact⟨a,rfl,h⟩
 |exc _=>exact h.elim
 |bad=>exact h.elim
def Bb.forget{m:Ev}(E:Bb K c hs ρ σ H)(u:c.O=[])(hl:m.length=ρ.length)(h:∀(i:Nat) d,m[i]? = some (some d)->ρ[i]? = some (some d)):Bb K c hs m σ H:=by
 have eN:∀r:Ev,c.N r σ=λo=>c.S o/\∀a:BK,o=some a->True:=λr=>by funext o;unfold DC.N owned;rw[u];simp
 refine⟨E.same,hl.trans E.len,(λi d q=>by rw[u]at q;cases q),(λi j a q=>by rw[u]at q;cases q),λi d q y=>?_,λP z=>?_,E.excl⟩
 ·rw[eN,<-eN ρ];exact E.oth i d q (h i d y)
 ·rw[eN,<-eN ρ];exact E.held P z
def Bb.wrZ{a:BK}(E:Bb K c hs ρ σ H)(y:c.O=[])(G:c.H0 a=none)(B:¬ c.S (some a))(u:H a=some (.lst vs)):Bb K c hs ρ σ (upd H a (.lst ws)):=by
 have m:¬ c.N ρ σ (some a):=λz=>B z.1;refine⟨λb o e=>?_,E.len,(λi d h=>by rw[y]at h;cases h),(λi j a h=>by rw[y]at h;cases h),λi d h C=>?_,λP r=>⟨(E.held P r).1,(E.held P r).1.wr u m (E.held P r).2⟩,λb F z=>?_⟩
 ·rw[Aj (Bh e G)];exact E.same b o e
 ·refine Ao (λv J I=>?_) (E.oth i d h C);exact⟨v,J,I.wr u m⟩
 ·by_cases q:b=a
  ·subst q;rw[An]at z;cases z
  ·rw[Aj q]at z;exact E.excl b F z
def Q9(O:List Nat)(l:Lv)(caps:List Nat):Bool:=match l with
 | .any=>true
 | .no=>caps.all λj=>!O.contains j
 | .fr=>caps.isEmpty
def ky9(E:Bb K c hs ρ σ H)(h:Q9 c.O l caps=true)(y:j∈caps){d:D}(q:ρ[j]? = some (some d)):
  ∃v,σ[j]? = some (some v)/\Rep K H (lvS c ρ σ H l) d v:=by
 cases l with
 |any =>
  by_cases m:j∈c.O
  ·refine Er (λp u B r=>?_) (E.own j d m q);exact⟨_,u,r.rep (.inr ⟨p,rfl,B.1,B.2⟩) λ_ z=>z.1⟩
  ·refine Ao (λv u r=>?_) (E.oth j d m q);exact⟨v,u,r.mono (Ag.refl _) λ_ z=>z.1⟩
 |no =>
  have:=PQ.mp h j y;have m:j∉c.O:=by simpa using this
  exact E.oth j d m q
 |fr =>
  have:caps=[]:=by simpa[Q9] using h
  subst this;cases y
def km5(n:Nat)(caps:List Nat)(ρ:Ev):(Hn n caps ρ).length=n+caps.length:=by simp[Hn]
def km7(T:List BZ)(caps:List Nat)(σ:St):(Q6 T caps σ).length=T.length+caps.length:=by simp[Q6]
theorem jh4{d:D}(h:(Hn n caps ρ)[i]? = some (some d)):n<=i/\∃j,caps[i - n]? = some j/\ρ[j]? = some (some d):=by
 unfold Hn at h;by_cases r:n<=i
 ·refine⟨r,?_⟩;rw[YT (by simpa using r),jGt,QR]at h;cases e:caps[i - n]? with
  |none=>rw[e]at h;cases h
  |some j =>
   rw[e]at h;refine⟨j,rfl,?_⟩;have m:(ρ[j]?).join=some d:=Option.some.inj h;cases q:ρ[j]? with
   |none=>rw[q]at m;cases m
   |some o =>
    rw[q]at m;cases o with
    |none=>cases m
    |some u=>cases m;rfl
 ·rw[YS (by simp;omega),qR]at h;split at h<;>cases h
def km6(hi:T.length<=i)(m:caps[i - T.length]? = some j)(h:σ[j]? = some (some v)):(Q6 T caps σ)[i]? = some (some v):=by unfold Q6;rw[YT (by simpa using hi),GP,QR,m];show some (σ[j]?).join=_;rw[h];rfl
variable {elt iter:CP}{ifs:List CP}
variable {xs:List D}{hs':List Hd}
section
variable {u:Ev->R (List D)}{g:D->Ev->R Ev}{t:Ev->R Bool}{f:Ev->R D}
inductive CI(Y:Cx)(c':DC)(P:Hd)(tn:Nat->CK->Prop)(fp:List BK)(a:BK)(ρ₀:Ev)(ds xs:List D)(L:List D->R (List D))(k:Nat)(s:BJ):Prop
 |mk (i:Nat) (σ:St) (H:Hp) (acc:List D) (vs:List V) (ys:List D) (I:Inv Y [] σ H s) (st:tn i s.heap) (fr:∀b∈fp,H b=none) (hk:k=ds.length - i) (hi:i<=ds.length) (E:Bb Y.K c' [P] ρ₀ σ H)
   (hv:H a=some (.lst vs))(r:Ak Y.K H c'.S acc vs)(ec:L (ds.drop i)=.ok ys)(ea:acc++ys=xs):CI Y c' P tn fp a ρ₀ ds xs L k s
theorem kf5{Y:Cx}{c':DC}{P:Hd}{tn:Nat->CK->Prop}{J:It}{it a:BK}{h:Ev}{L:St}{I:Hp}{Rn:lW->BJ->Prop}(hx:Y.xe=cNo)(hc:Y.calm=true)
  (hg:PGd Y c' tg g)(ht:TsD Y c' ifs t)(he:PEd Y c' .any elt f)(bp:∀d ak,g d h=.ok ak->ak.length=h.length/\∀(i:Nat) d',h[i]? = some (some d')->ak[i]? = h[i]?)
  (U:∀{H':Hp}{au:St}{bg:BJ},Inv Y [] au H' bg->(∀b∈fp,H' b=none)->∀b∈fp,Qz Y [] H' b)
  (hO:c'.O=[])(h0:c'.H0 a=none)(hn:¬ c'.S (some a))
  (Tn:Turn Y.prog Y.w Y.K tg J fp it tn)(TD:ItD Y.K J ds P)(ex:Dp g t f h ds=.ok xs)(hz:xs.length<=16777216)
  (bq:∀s H σ vs,Inv Y [] σ H s->Bb Y.K c' [P] h σ H->H a=some (.lst vs)->Ak Y.K H c'.S xs vs->Rn (.ok .next) s)
  (E0:Bb Y.K c' [P] h L I)(ha:I a=some (.lst []))(f0:∀b∈fp,I b=none){s4:BJ}(J4:Inv Y [] L I s4)(bf:tn 0 s4.heap):
  KN (BV Y.prog Y.w) Y.A (.compLoop (.ListComp elt [⟨tg,iter,ifs,0⟩] scope pos) 0 (.ref it) (.ref a) Y.env) Rn s4:=by
 refine ji2 (CI Y c' P tn fp a h ds xs (Dp g t f h)) ?_ ds.length
  (.mk 0 _ _ [] [] xs J4 bf f0 rfl (WL _) E0 ha Ak.nil ex rfl)
 intro n s5 q;refine nn λhG=>?_;obtain⟨i,af,H5,acc,vs,ys,I5,ax,ba,hk,bw,E5,ar,r5,C,ea⟩:=q;have p5:=(E5.held P JK).2;by_cases B:i<ds.length
 ·rw[bM B,Dp]at C;refine Ao (λag eg C=>?_) (Ej C);refine Ao (λk et C=>?_) (Ej C);have keep:=bp _ _ eg;have forget:∀{Q:St}{H':Hp},Bb Y.K c' [P] ag Q H'->Bb Y.K c' [P] h Q H':=λE'=>E'.forget hO keep.1.symm λj d hd=>(keep.2 j d hd).trans hd;refine hG (thx (E:=cNo) rfl (Tn.item Y rfl rfl rfl hc i [] s5 af H5 cNo I5 (U I5 ba) ax (TD.go i H5 _ B p5)) λr s6 q=>?_);clear hG;revert q;refine Ao λu hr h6=>?_;subst hr;refine thn h6 λ_ s7 q=>?_;refine nn λhG=>?_;revert q;refine yl7 λx H7 I7 r7 y7 ah az=>?_;have⟨aj,G⟩:=TD.yld i H5 _ x H7 p5 y7;have G:=G ds[i] (GK B);have bb:=I7.pinned (U I7 az) (Tn.obj _ _ ah);have ab:∀{Q:St}{H':Hp}{s':BJ},Inv Y ([]++W5 fp s7.heap) Q H' s'->tn (i+1) s'.heap/\∀b∈fp,H' b=none:=λ{Q H' s'} J=>by refine⟨Tn.keep _ _ _ ah λb hb o e=>(J.pin (b,o) (TV _ (TV _ (Lx hb e)))).1,λb hb=>?_⟩;refine Ao (λo e _=>?_) (Tn.obj _ _ ah b hb);exact(J.pin (b,o) (TV _ (TV _ (Lx hb e)))).2.1
  refine hG (thx hx (hg _ s7 af H7 x u (λm H8=>H8=H7/\Bb Y.K c' [P] ag m H8) bb r7 ⟨[P],h,ds[i],E5.mono aj,G,by rw[eg];exact λm E8=>⟨rfl,E8⟩⟩) λ_ s8 q=>?_);clear hG;clear bb G y7 r7 ah az I7 keep;revert q;refine Br λm _ I8 bo E8=>?_;obtain rfl:=bo;refine thx hx (ht _ s8 m _ (λk' H9=>k'=k/\Ag _ H9) I8 ⟨[P],ag,E8,by rw[et];exact λH9 s9=>⟨rfl,s9⟩⟩) λk' s9 q=>?_;revert q;refine Er λH9 I9 bj ai=>?_;obtain rfl:=bj;have ay:=ai _ _ (aj _ _ ar);have r9:=r5.mono (aj.trans ai) λ_ z=>z;have E9:=E8.mono ai;clear I8 E8 ai aj r5 ar I5 E5 p5;cases k' with
  |false=>rw[if_neg XC]at C;have⟨q1,q2⟩:=ab I9;exact⟨ds.length - (i+1),hk ▸ jHd _ _ B,.mk (i+1) m H9 acc vs ys I9.unpinned q1 q2 rfl B (forget E9) ay r9 C ea⟩
  |true =>
   rw[if_pos rfl]at C;refine Ao (λdy ef C=>?_) (Ej C);refine Ao (λaw ey C=>?_) (Ej C);cases C;refine thx hx (he _ s9 m H9 (λy F=>Ag H9 F/\Rep Y.K F c'.S dy y) I9 ⟨[P],ag,E9,by rw[ef];exact λy F ao aq=>⟨ao,aq⟩⟩) λw ao q=>?_;refine nn λhG=>?_;revert q;refine Yb λy F br aq aa ry=>?_;have ae:F a=some (.lst vs):=aa _ _ ay;have hl:=r9.length;have bu:xs.length=acc.length+(aw.length+1):=by rw[<-ea];simp
   refine hG (thx hx (Zv _ ao m F (.ref a) [y] (.ref a) [w] (λ_ H'=>H'=upd F a (.lst (vs++[y]))) br rfl (.cons aq .nil) ⟨a,vs,y,rfl,rfl,ae,by rw[CV];lia,rfl⟩) λ_ bt q=>?_);clear hG;revert q;refine Br λ_ _ bc _ bh=>?_;obtain rfl:=bh;have⟨q1,q2⟩:=ab bc;exact⟨ds.length - (i+1),hk ▸ jHd _ _ B,.mk (i+1) m _ (acc++[dy]) (vs++[y]) aw bc.unpinned q1 q2 rfl B (forget ((E9.mono aa).wrZ hO h0 hn ae)) An (((r9.mono aa λ_ z=>z).append (.cons ry Ak.nil)).wr ae hn) ey (by rw[<-ea,NB];rfl)⟩
 ·have e:ds.drop i=[]:=bL (by lia);rw[e,Dp]at C;cases C;rw[YK]at ea;subst ea;refine hG (thx (E:=cNo) rfl (Tn.done Y rfl rfl rfl hc i [] s5 af H5 cNo I5 (U I5 ba) ax (TD.stop i H5 _ (by lia) p5)) λr s6 q=>?_);obtain⟨rfl,I6⟩:=q;exact bq s6 H5 af vs I6 E5 ar r5
def Tb(H H':Hp):Prop:=∀b ps,H b=some (.tbl ps)->H' b=some (.tbl ps)
theorem Yx(B:J1 X scope T caps)(hc:X.calm=true)(hi:PId X c l tg iter u)
  (hg:∀(C:BK)(s:BJ)(H:Hp)(ex:List BK)(L:Hp)(S0:AS)(Z:List BK),Tb c.H0 L->PGd (cxB X (Fy X T caps) scope C s H ex) ⟨L,S0,[],Jr,Z⟩ tg g)
  (ht:∀(C:BK)(s:BJ)(H:Hp)(ex:List BK)(L:Hp)(S0:AS)(Z:List BK),Tb c.H0 L->TsD (cxB X (Fy X T caps) scope C s H ex) ⟨L,S0,[],Jr,Z⟩ ifs t)
  (he:∀(C:BK)(s:BJ)(H:Hp)(ex:List BK)(L:Hp)(S0:AS)(Z:List BK),Tb c.H0 L->PEd (cxB X (Fy X T caps) scope C s H ex) ⟨L,S0,[],Jr,Z⟩ .any elt f)
  (af:∀d ρ q,g d ρ=.ok q->q.length=ρ.length/\∀i,T.length<=i->q[i]? = ρ[i]?)(ag:Q9 c.O l caps=true){ab:JN}{use:Option (A_->Sem Unit)}{Q':A_->BJ->Prop}(hs:∀x,FN iter X.env x=pure x)
  (I:Inv X pins σ H s)(E:Bb X.K c hs' ρ σ H)(aq:u ρ=.ok ds)(ex:Dp g t f (Hn T.length caps ρ) ds=.ok xs)(hz:xs.length<=16777216)
  (ao:∀(a:BK)(vs:List V)(s3 s':BJ)(H3 H':Hp)(fp:List BK)(ai:St),Inv X pins σ H3 s3->(∀b∈fp,Qz X pins H3 b)->Inv (cxB X (Fy X T caps) scope s3.heap.objs.size s3 H3 fp) [] ai H' s'->Ag H H'->H a=none->H' a=some (.lst vs) ->
   Ak X.K H' (AS.but (lvS c ρ σ H l) a) xs vs->compPost (BV X.prog X.w) X.A X.xe use Q' (.ref a) s3.heap.objs.size (.ok .next) s'):
  BP (BV X.prog X.w) X.A (WW (.ListComp elt [⟨tg,iter,ifs,0⟩] scope pos) scope X.env ab (XR []) false (DY iter X.env) use) Q' X.xe s:=by
 refine K_ (cl:=Vs scope X.env) rfl hs (B.clo I) B.kind B.names ?_;have hR:=hi pins s σ H (λJ r=>∃P,Ag H r/\ItD X.K J ds P/\P r (lvS c ρ σ H l)) I ⟨hs',ρ,E,by rw[aq];exact λJ P H' s1 T1 p1=>⟨P,s1,T1,p1⟩⟩;refine thn hR λv s1 h1=>thn h1 λar m h2=>?_;refine nn λhG=>?_;obtain⟨it,fp,tn,J,r,rfl,I2,Tn,U,f2,P,sm,TD,p2⟩:=h2;refine hG (CG ?_);clear hG;have F:r m.heap.objs.size=none:=I2.fresh;have I3:=I2.lnew (t':=m.toks) (ys:=[]) (its:=[]) .nil (WL _);generalize hD:m.heap.objs.size=a at F I3;refine wh8 ?_;have G:∀b∈fp,b<m.heap.objs.size:=λb h=>by have⟨o,e,_⟩:=Tn.obj 0 _ U b h;exact HB e
 have f3:∀b∈fp,Qz X pins (upd r a (.lst [])) b:=λb h=>by have⟨z0,z⟩:=f2 b h;refine⟨?_,z⟩;rw[Aj (by rw[<-hD];exact JW (G b h))];exact z0
 have Q:Ag r (upd r a (.lst [])):=Ar F _;have Ha:H a=none:=sm.free F;have ae:∀b∈fp,b<(m.heap.push {cls:=.type "list",data:=.seq ([]:List A_).toArray}).objs.size:=λb h=>by rw[RX];exact aB (G b h)
 have J0:=kg8 B I3 f3 ae;let c':DC:=⟨r,AS.but (lvS c ρ σ H l) a,[],Jr,[a]⟩;have tb:Tb c.H0 c'.H0:=λb ps e=>sm _ _ (E.same _ _ e);have aa:¬ c'.S (some a):=by
  rintro(z | ⟨b,e,_,h⟩)
  ·exact z.2 rfl
  ·cases e;exact h (JG.mpr rfl)
 have E0:Bb X.K c' [P] (Hn T.length caps ρ) (Q6 T caps σ) (upd r a (.lst [])):=by
  have sub:∀o,AS.but (lvS c ρ σ H l) a o->c'.N (Hn T.length caps ρ) (Q6 T caps σ) o:=λo z=>⟨.inl z,λb _ ⟨j,hj,_⟩=>by cases hj⟩;refine⟨Q,by rw[km5,km7],(λi d hi=>by cases hi),(λi j a hi=>by cases hi),λi d hi hd=>?_,λP' ak=>?_,λb h=>?_⟩
  ·have⟨hn,j,ej,ed⟩:=jh4 hd;have⟨v,ev,rv⟩:=ky9 E ag (YQ ej) ed;exact⟨v,km6 hn ej ev,(rv.avoid Ha).mono (sm.trans Q) sub⟩
  ·have:P'=P:=by simpa using ak
   subst this;exact⟨TD.stab,TD.stab.mono Q sub (TD.stab.avoid F p2)⟩
  ·have:b=a:=JG.mp h;subst this;rw[An];intro z;cases z
 have y:tn 0 (PK ((m.heap.push {cls:=.type "list",data:=.seq ([]:List A_).toArray}).push {cls:=.type "dict",data:=.dict #[] }) scope.names):=Tn.keep _ _ _ U λb h o e=>MT _ _ b o (JH _ (JH _ e));have loop:∀s4,Inv (cxB X (Fy X T caps) scope (m.heap.push {cls:=.type "list",data:=.seq ([]:List A_).toArray}).objs.size {m with heap:=m.heap.push {cls:=.type "list",data:=.seq ([]:List A_).toArray} } (upd r a (.lst [])) fp) [] (Q6 T caps σ) (upd r a (.lst [])) s4->tn 0 s4.heap->KN (BV X.prog X.w) X.A (.compLoop (.ListComp elt [⟨tg,iter,ifs,0⟩] scope pos) 0 (.ref it) (.ref a) (rG scope (m.heap.push {cls:=.type "list",data:=.seq ([]:List A_).toArray}).objs.size X.env)) (compPost (BV X.prog X.w) X.A X.xe use Q' (.ref a) (m.heap.push {cls:=.type "list",data:=.seq ([]:List A_).toArray}).objs.size) s4:=by
  intro s4 J0 y;refine kf5 (Y:=cxB X (Fy X T caps) scope (m.heap.push {cls:=.type "list",data:=.seq ([]:List A_).toArray}).objs.size {m with heap:=m.heap.push {cls:=.type "list",data:=.seq ([]:List A_).toArray} } (upd r a (.lst [])) fp) (c':=c') rfl hc (hg _ _ _ _ _ _ _ tb) (ht _ _ _ _ _ _ _ tb) (he _ _ _ _ _ _ _ tb) (λd q e=>⟨(af d _ q e).1,λj d' hd=>(af d _ q e).2 j (jh4 hd).1⟩) (λJ hn b h=>?_) rfl F aa Tn TD ex hz (λs6 H5 ah vs I6 E5 aj r5=>?_) E0 An (λb h=>(f3 b h).1) J0 y
  ·exact⟨hn b h,(J.ok.exf b h).1,J.ok.exfs b h,.inl h,(J.ok.exf b h).2,λp hp=>absurd (show p∈([]:List (BK×GJ)) from hp) (by simp)⟩
  ·refine ao a vs _ s6 _ H5 fp ah I3 f3 I6 (sm.trans E5.same) Ha aj (r5.mono (Ag.refl _) λo z=>?_);rcases z with z | ⟨b,rfl,h,hz⟩
   ·exact z
   ·refine⟨Rv E ⟨b,rfl,sm.free h⟩,λe=>?_⟩;cases e;exact hz (JG.mpr rfl)
 exact codeAny_compStart_list (loop _ J0 y) (Tn.self _ 0 _ _ _ y (loop _ J0 y))
theorem Bw(h:i<n):∀d ρ m,gN i d ρ=.ok m->m.length=ρ.length/\∀j,n<=j->m[j]? = ρ[j]?:=λd ρ m e=>by cases e;exact⟨by simp,λj q=>QD (by lia)⟩
theorem Xk{n:Nat}:∀{Z:List Nat},(Z.all λi=>decide (i<n))=true->∀ds ρ m,Gs Z ds ρ=.ok m->m.length=ρ.length/\∀j,n<=j->m[j]? = ρ[j]?
 | [],_,ds,ρ,m,e=>by
  cases ds with
  |nil=>cases e;exact⟨rfl,λ_ _=>rfl⟩
  |cons _ _=>cases e
 |i::Z,h,ds,ρ,m,e=>by
  cases ds with
  |nil=>cases e
  |cons d ds=>rw[Gs]at e;rw[gK,QC]at h;have z:=of_decide_eq_true h.1;obtain⟨y,r⟩:=Xk h.2 ds _ m e;exact⟨by rw[y];simp,λj q=>by rw[r j q];exact QD (by lia)⟩
def Rh(h:(Z.all λi=>decide (i<n))=true):∀d ρ m,gT Z d ρ=.ok m->m.length=ρ.length/\∀j,n<=j->m[j]? = ρ[j]?:=λd ρ m e=>by cases d<;>first |exact Xk h _ ρ m e |cases e
def wq3(aa:Nk scope X.env.scope X.N caps=true)(hc:X.calm=true)(hi:PId X c l tg iter u)
  (hg:∀(C:BK)(s:BJ)(H:Hp)(ex:List BK)(y:Hp)(P:AS)(Z:List BK),Tb c.H0 y->PGd (cxB X (Fy X T caps) scope C s H ex) ⟨y,P,[],Jr,Z⟩ tg g)
  (ht:∀(C:BK)(s:BJ)(H:Hp)(ex:List BK)(y:Hp)(P:AS)(Z:List BK),Tb c.H0 y->TsD (cxB X (Fy X T caps) scope C s H ex) ⟨y,P,[],Jr,Z⟩ ifs t)
  (he:∀(C:BK)(s:BJ)(H:Hp)(ex:List BK)(y:Hp)(P:AS)(Z:List BK),Tb c.H0 y->PEd (cxB X (Fy X T caps) scope C s H ex) ⟨y,P,[],Jr,Z⟩ .any elt f)
  (Y:∀d ρ F,g d ρ=.ok F->F.length=ρ.length/\∀i,T.length<=i->F[i]? = ρ[i]?)(L:Q9 c.O l caps=true:=by rfl)(hs:∀x,FN iter X.env x=pure x:=by intro _;rfl):
  PEf X c l (.ListComp elt [⟨tg,iter,ifs,0⟩] scope pos) (Bo u T.length caps g t f):=λpins s σ H Q I q=>by
 revert q;refine Bt λhs' ρ E q=>?_;have B:J1 X scope T caps:=.of aa;rw[eval_ListComp];show BP (BV X.prog X.w) X.A (WW (.ListComp elt [⟨tg,iter,ifs,0⟩] scope pos) scope X.env (firstIterPos [⟨tg,iter,ifs,0⟩] pos) (XR []) false (DY iter X.env) none) (EP X pins σ Q) X.xe s;have q:=RQ.bind.mp q;cases h:u ρ with
 |ok ds =>
  rw[h]at q;refine Ao (λd G q=>?_) (RQ.nox q);refine Ao (λxs ex G=>?_) (Ej G);by_cases U:xs.length<=16777216
  ·rw[if_pos U]at G;cases G;refine Yx B hc hi hg ht he Y L hs I E h ex U λa vs s3 s' H3 H' fp ab I3 f3 J sm Ha hv r=>?_;refine Ao (λm hn _=>?_) (J.loc);exact⟨m,hn,λh' hb=>⟨.ref a,H',jr9 I3 rfl f3 J h' hb,rfl,q a vs xs H' rfl sm Ha hv r⟩⟩
  ·rw[if_neg U]at G;cases G
 |exc x=>rw[h]at q;refine K_ (cl:=Vs scope X.env) rfl hs (B.clo I) B.kind B.names ?_;refine thn (hi pins s σ H (λ_ _=>False) I ⟨hs',ρ,E,by rw[h];exact q⟩) λv s1 h1=>thn h1 λae s2 h2=>?_;refine nn λhG=>?_;clear hG;revert h2;refine rN λ_ _ _ _ _ _ _ _ _ _ z=>?_;exact z.elim
 |bad=>rw[h]at q;exact q.elim
def tM(z:Nk scope X.env.scope X.N caps=true)(I:X.calm=true)(hi:PId X c l tg iter u)
  (F:∀(C:BK)(s:BJ)(H:Hp)(ex:List BK)(m:Hp)(h:AS)(Z:List BK),PGd (cxB X (Fy X T caps) scope C s H ex) ⟨m,h,[],Jr,Z⟩ tg g)
  (B:∀(C:BK)(s:BJ)(H:Hp)(ex:List BK)(m:Hp)(h:AS)(Z:List BK),TsD (cxB X (Fy X T caps) scope C s H ex) ⟨m,h,[],Jr,Z⟩ ifs t)
  (G:∀(C:BK)(s:BJ)(H:Hp)(ex:List BK)(m:Hp)(h:AS)(Z:List BK),PEd (cxB X (Fy X T caps) scope C s H ex) ⟨m,h,[],Jr,Z⟩ .any elt f)
  (y:∀d ρ q,g d ρ=.ok q->q.length=ρ.length/\∀i,T.length<=i->q[i]? = ρ[i]?)(r:Q9 c.O l caps=true:=by rfl)(hs:∀x,FN iter X.env x=pure x:=by intro _;rfl):
  PEf X c l (.ListComp elt [⟨tg,iter,ifs,0⟩] scope pos) (Bo u T.length caps g t f):=wq3 z I hi (λC s H ex m h Z _=>F C s H ex m h Z) (λC s H ex m h Z _=>B C s H ex m h Z) (λC s H ex m h Z _=>G C s H ex m h Z) y r hs
def comp(B:Nk scope X.env.scope X.N caps=true)(J:X.calm=true)(hi:PId X c l tg iter u)
  (G:∀(C:BK)(s:BJ)(H:Hp)(ex:List BK)(y:Hp)(r:AS)(Z:List BK),PGd (cxB X (Fy X T caps) scope C s H ex) ⟨y,r,[],Jr,Z⟩ tg g)
  (F:∀(C:BK)(s:BJ)(H:Hp)(ex:List BK)(y:Hp)(r:AS)(Z:List BK),TsD (cxB X (Fy X T caps) scope C s H ex) ⟨y,r,[],Jr,Z⟩ ifs t)
  (I:∀(C:BK)(s:BJ)(H:Hp)(ex:List BK)(y:Hp)(r:AS)(Z:List BK),PEd (cxB X (Fy X T caps) scope C s H ex) ⟨y,r,[],Jr,Z⟩ .any elt f)
  (z:∀d ρ m,g d ρ=.ok m->m.length=ρ.length/\∀i,T.length<=i->m[i]? = ρ[i]?)(q:Q9 c.O l caps=true:=by rfl)(hs:∀x,FN iter X.env x=pure x:=by intro _;rfl):
  PEd X c l (.ListComp elt [⟨tg,iter,ifs,0⟩] scope pos) (Bo u T.length caps g t f):=PEf.d (tM B J hi G F I z q hs) λ_ _ h=>kf4 h
end
section
variable {r:CP}{f m u q h:Ev->R D}{fs:Ev->R (List D)}
def PEd.sc(h:PEd X c l a f)(hs:∀ρ d,f ρ=.ok d->d.imm=true):PEd X c .fr a f:=PE.imp h λσ H Q ⟨hs',ρ,E,q⟩=>by
 refine⟨hs',ρ,E,?_⟩;cases e:f ρ with
 |ok d=>rw[e]at q;exact λv H' s r=>q v H' s (oW d v (hs ρ d e) r)
 |exc x=>rw[e]at q;exact q
 |bad=>rw[e]at q;exact q
def Ca(z:∀x y d,g x y=some d->d.imm=true):∀ρ d,b2 m u g ρ=.ok d->d.imm=true:=λρ d h=>by
 refine Ao (λx _ h=>?_) (Ej h);refine Ao (λy _ h=>?_) (Ej h);cases e:g x y with
 |none=>rw[e]at h;cases h
 |some B=>rw[e]at h;cases h;exact z x y _ e
def Cm{g:List D->Option D}(y:∀xs d,g xs=some d->d.imm=true):∀ρ d,bA fs g ρ=.ok d->d.imm=true:=λρ d h=>by
 refine Ao (λx _ h=>?_) (Ej h);cases e:g x with
 |none=>rw[e]at h;cases h
 |some z=>rw[e]at h;cases h;exact y x _ e
def o_:∀x y d,eqD x y=some d->d.imm=true:=λx y d h=>by obtain⟨_,rfl⟩:=Be h;rfl
def Ko:∀x y d,fB x y=some d->d.imm=true:=λx y d h=>by cases x<;>first |exact nos h | (cases y<;>first |exact nos h | (cases h;rfl))
def Gd:∀x y d,Hh x y=some d->d.imm=true:=λx y d h=>by cases x<;>first |exact nos h | (cases y<;>first |exact nos h | (obtain⟨_,rfl⟩:=Be h;rfl))
def Em:∀x y d,Hv x y=some d->d.imm=true:=λx y d h=>by cases x<;>first |exact nos h | (cases y<;>first |exact nos h | (obtain⟨_,rfl⟩:=Be h;rfl))
def Es:∀x y d,Gk x y=some d->d.imm=true:=λx y d h=>by cases x<;>first |exact nos h | (cases y<;>first |exact nos h | (obtain⟨_,rfl⟩:=Be h;rfl))
def Cp:∀xs d,Eo xs=some d->d.imm=true:=λxs d h=>by
 obtain⟨y,rfl⟩:=inv1 h rfl (λx _ _=>by cases x<;>rfl);cases y with
 |lst _=>cases h;rfl
 |tup _=>cases h;rfl
 |str _=>obtain⟨_,rfl⟩:=Be h;rfl
 |_=>exact nos h
def Ro:∀xs d,minD xs=some d->d.imm=true:=λxs d h=>by
 obtain⟨B,z,rfl⟩:=inv2 h rfl (λx=>by cases x<;>rfl) (λx y _ _=>by cases x<;>first |rfl | (cases y<;>rfl));cases B with
 |int _ =>
  cases z with
  |int _=>cases h;rfl
  |_=>exact nos h
 |_=>exact nos h
def o9:∀xs d,maxD xs=some d->d.imm=true:=λxs d h=>by
 obtain⟨B,z,rfl⟩:=inv2 h rfl (λx=>by cases x<;>rfl) (λx y _ _=>by cases x<;>first |rfl | (cases y<;>rfl));cases B with
 |int _ =>
  cases z with
  |int _=>cases h;rfl
  |_=>exact nos h
 |_=>exact nos h
def Dg:D->D->Option D
 | .lst xs,.lst ys=>if xs.length+ys.length<=16777216 then some (.lst (xs++ys)) else none
 |x,y=>rY x y
def wu4:OpR X (E_ .Add) (rD X.K Dg):=by
 rintro pins s σ H x y v u Q I L J ⟨S,G,F,d,P,O,e,q⟩;by_cases h:∃xs ys,G=.lst xs/\F=.lst ys
 ·revert h;refine Bt λxs ys C B=>?_;obtain rfl:=C;obtain rfl:=B;obtain⟨Y,rfl⟩:=Be e;refine yf9 pins s σ H x y v u Q I L J ⟨S,_,_,.lst (xs++ys),P,O,if_pos Y,λa vs ds H' ed U ha hv r=>?_⟩;cases ed;exact q _ H' U ⟨a,vs,rfl,.inl ⟨hv,.inr ⟨a,rfl,ha⟩⟩,r.mono (Ag.refl _) λ_ z=>.inl z.1⟩
 ·refine yf8 pins s σ H x y v u Q I L J ⟨S,G,F,d,P,O,?_,q⟩;cases G<;>first |exact e | (cases F<;>first |exact e |exact absurd ⟨_,_,rfl,rfl⟩ h)
def Jb(z:PEd X c l a m)(y:PEd X c l b u):PEd X c l (.BinOp a .Add b pos) (b2 m u Dg):=dI .Add wu4 z y
def yq0(ha:PEf X c l a m)(hb:PEd X c l b u):PEf X c l (.BinOp a .Mult b pos) (b2 m u fC):=PE.imp (sU wv2 ha hb) λσ H Q q=>by
 revert q;refine Bt λhs ρ E q=>?_;have q:=RQ.bind.mp q;refine⟨hs,ρ,E,?_⟩;cases I:m ρ with
 |ok dx =>
  rw[I]at q;intro p vs ds H1 ed C hp U J;subst ed;refine Bk (E.mono C) ((RQ.bind.mp q).mono (λdy P y H2 B E2 L=>?_) λe z=>Dk z C);refine Ao (λd e O=>?_) (P.of);cases dy<;>try cases e
  rename_i k;obtain⟨G,rfl⟩:=Be e;have Y:=J.length;refine⟨p,k,vs,rfl,L,B _ _ U,G.1,G.2.1,Gj (by rw[<-Y];exact G.2.2),λr F=>?_⟩;exact O r _ _ _ rfl ((C.trans B).trans (Ar F _)) ((C.trans B).free F) An ((((J.mono B λ_ z=>z.1).rep k.toNat).avoid F).mono (Ar F _) λ_ z=>z)
 |exc x=>rw[I]at q;exact q
 |bad=>rw[I]at q;exact q
def wk5{d:D}(h:b2 m u fC ρ=.ok d):∃ds,d=.lst ds:=by
 refine Ao (λx _ h=>?_) (Ej h);refine Ao (λy _ h=>?_) (Ej h);cases e:fC x y with
 |none=>rw[e]at h;cases h
 |some z=>rw[e]at h;cases h;cases x<;>first |exact nos e | (cases y<;>first |exact nos e | (obtain⟨_,rfl⟩:=Be e;exact⟨_,rfl⟩))
def slA:D->Option Int->Option Int->Option D
 | .lst xs,lo,y=>some (.lst (cutD xs lo y))
 | .tup xs,lo,y=>if HT.sIx xs.length 0 lo=0/\HT.sIx xs.length xs.length y=xs.length then none else some (.tup (cutD xs lo y))
 |_,_,_=>none
def Xm{lo hi:Option CP}{fl fh:Ev->R (Option Int)}(he:PEd X c l e f)(hl:POd X c lo fl)(hh:POd X c hi fh):PEd X c l (.Subscript e (.Slice lo hi none p2) pos) (bS f fl fh slA):=PE.imp (kw5 (SlR.or wl6 wy2) he hl hh) λσ H Q q=>by
 revert q;refine Bt λhs ρ E q=>?_;refine Bk E ((RQ.bind.mp q).mono (λdx q1 x H1 F E1 U=>?_) λ_ z=>z);refine yU E1 ((RQ.bind.mp q1).mono (λi q2 H2 y E2=>?_) λe z=>Dk z F);refine yU E2 ((RQ.bind.mp q2).mono (λj q3 H3 B E3=>?_) λe z=>Dk z (F.trans y));refine Ao (λd e Y=>?_) (q3.of);cases dx<;>try cases e
 ·rename_i xs;revert U;refine Br λp vs O P I=>?_;obtain rfl:=O;have G:=I.length;have e:(if HT.sIx xs.length 0 i=0/\HT.sIx xs.length xs.length j=xs.length then none else some (D.tup (cutD xs i j)))=some d:=e;by_cases J:HT.sIx xs.length 0 i=0/\HT.sIx xs.length xs.length j=xs.length
  ·rw[if_pos J]at e;cases e
  ·rw[if_neg J]at e;cases e;rw[G]at J;refine .inr ⟨p,vs,rfl,Ag.sqT (y.trans B) (TpR.sq P),J,λr C=>?_⟩;exact Y _ _ (((F.trans y).trans B).trans (Ar C _)) ⟨r,_,rfl,TpR.of An,((I.mono (y.trans B) λ_ z=>z).cut i j).mono (Ar C _) λ_ z=>z⟩
 ·revert U;refine Br λp vs L P I=>?_;obtain rfl:=L;refine .inl ⟨p,vs,rfl,(P.same (y.trans B) λ_ z=>z).sq,λr C=>?_⟩;exact Y _ _ (((F.trans y).trans B).trans (Ar C _)) ⟨r,_,rfl,.inl ⟨An,Rv E ⟨r,rfl,((F.trans y).trans B).free C⟩⟩,((I.mono (y.trans B) λ_ z=>z).cut i j).mono (Ar C _) λ_ z=>z⟩
end
def FnC(P:B_)(w:CW)(K:CJ)(h:BZ->Option A_)(base:CK)(k:Nat)(x:BZ)(ps:List BZ)(n:Nat)(m:List D->R D):Prop:=
 ∃(f:BK)(q:DX),Hl P w K h base CX0 k f q ps (sp0 K n m)/\h x=some (.ref f)/\W.keepIn K (.ref f)=true/\Binds K q ps []
section
variable {f:Ev->R D}{fs:Ev->R (List D)}{ps:List BZ}{m:List D->R D}
def callC(F:FnC X.prog X.w X.K X.mg X.base k x ps n m)(u:Hx k X.A)(J:PAd X c l (e::es) fs)(y:(e::es).length=n:=by rfl)(h:ps.length=n:=by rfl)(C:Gl X x:=by rfl)
  (r:Zd x:=by decide)(G:Zs X.env e es:=by rfl)(q:Zp X.env pos es:=by rfl):
  PEd X c l (.Call (.Name x p) (e::es) [] pos) (cl fs m):=by
 revert F;refine Yb λf L F z B I=>?_;exact yc0 F u z B I J y h C r G q
def never:Ev->R Fl:=λ_=>.bad
def wx3:PSd X c st never:=PS.imp kw9 λD σ H ⟨hs,ρ,E,q⟩=>q
def PId.up(h:PId X c l tg e fs)(hl:l.le l'=true:=by rfl):PId X c l' tg e fs:=PI.imp h λσ H Q ⟨hs,ρ,E,q⟩ =>
 ⟨hs,ρ,E,q.mono (λds q J P H' s T p=>q J P H' s T (T.stab.mono (Ag.refl _) (λ_ z=>Ls E hl z) p)) λ_ z=>z⟩
def Kd(q:X.mg "tuple" = none)(y:PAd X c l (e::es) fs)(r:Gl X "tuple":=by rfl)(u:Zs X.env e es:=by rfl)(h:Zp X.env pos es:=by rfl):
  PEd X c l (.Call (.Name "tuple" p) (e::es) [] pos) (bA fs Mp):=yb9 we0 PyProof.Rows.boot_tuple q y r (by decide) (by decide) u h
def fD(y:X.calm=true)(q:X.mg "min" = none)(z:PAd X c l (e::es) fs)(r:Gl X "min":=by rfl)(u:Zs X.env e es:=by rfl)(h:Zp X.env pos es:=by rfl):
  PEd X c l (.Call (.Name "min" p) (e::es) [] pos) (bA fs minD):=Yw (yb6 y) PyProof.Rows.boot_min q z r (by decide) (by decide) u h
def mK(y:X.calm=true)(q:X.mg "max" = none)(z:PAd X c l (e::es) fs)(r:Gl X "max":=by rfl)(u:Zs X.env e es:=by rfl)(h:Zp X.env pos es:=by rfl):
  PEd X c l (.Call (.Name "max" p) (e::es) [] pos) (bA fs maxD):=Yw (yb5 y) PyProof.Rows.boot_max q z r (by decide) (by decide) u h
end
def tyN:D->Option String
 | .non=>some "NoneType"
 | .bl _=>some "bool"
 | .int _=>some "int"
 | .str _=>some "str"
 | .tup _=>some "tuple"
 | .lst _=>some "list"
 | .exc _ _ _=>none
def dC(T:String)(t:String):Bool:=t == T || (t == "bool" && T == "int")
def b8(T:String)(d:D):Option D:=(tyN d).map λt=>.bl (dC T t)
def wg8{T t:String}(m:T∈["int","bool","tuple","list","str"])(h:t∈["NoneType","bool","int","str","tuple","list"]):W.kitOne K (.type t) (.type T)=some (dC T t):=by simp only[HN,JG,cG,or_false]at m h;rcases m with rfl |rfl |rfl |rfl |rfl<;>rcases h with rfl |rfl |rfl |rfl |rfl |rfl<;>rfl
variable {u:A_}
section
variable {S:AS}{Q:A_->BJ->Prop}
def wg0{d:D}{T t:String}(I:Inv X pins σ H s)(r:Rep X.K H S d v)(m:RelV v u)(e:tyN d=some t)(k:W.kitOne X.K (.type t) (.type T)=some (dC T t))(h:∀y,Q (.bool (dC T t)) {s with toks:=y}):
  BP (BV X.prog X.w) A (call (.builtin "isinstance") [u,.type T]) Q E s:=by
 cases d with
 |non=>cases e;cases(show v=.non from r);cases(show u=Value.none from m);exact W.kia_one W.kitx_none I.SM True.intro k (λz=>nomatch z) h
 |bl b=>cases e;cases(show v=.bl b from r);cases(show u=Value.bool b from m);exact W.kia_one W.kitx_bool I.SM True.intro k (λz=>nomatch z) h
 |int i=>cases e;cases(show v=.int i from r);have⟨y,z⟩:=(show ∃t,u=Value.int i t from m);cases z;exact W.kia_one W.kitx_int I.SM True.intro k (λz=>nomatch z) h
 |str x=>cases e;cases(show v=.str x from r);have⟨y,z⟩:=(show ∃t,u=Value.str x t from m);cases z;exact W.kia_one W.kitx_str I.SM True.intro k (λz=>nomatch z) h
 |tup xs=>cases e;revert r;refine Br λa vs F q _=>?_;obtain rfl:=F;cases(show u=Value.ref a from m);refine Er (λB _ p _=>?_) (I.tuple (TpR.sq q));revert p;refine Er λo J G _=>?_;exact W.kia_one W.kitx_tuple I.SM ⟨o,J,G⟩ k (λz=>nomatch z) h
 |lst xs=>cases e;revert r;refine Br λa vs C q _=>?_;obtain rfl:=C;cases(show u=Value.ref a from m);refine Er (λB _ p _=>?_) (I.list q.sq);refine Er (λo J G _=>?_) (p.isList);exact W.kia_one W.kitx_list I.SM ⟨o,J,G⟩ k (λz=>nomatch z) h
 |exc _ _ _=>cases e
end
def wm5{d:D}{t:String}(h:tyN d=some t):t∈["NoneType","bool","int","str","tuple","list"]:=by cases d<;>first | (cases h;decide) |cases h
section
variable {f:Ev->R D}{fs:Ev->R (List D)}{m:JN}
def isi(T:String)(x:BZ)(hT:T∈["int","bool","tuple","list","str"])(hv:GC x=some (.type T))(hm:X.mg "isinstance" = none)(L:X.mg x=none)(ha:PEd X c l e f)(hg:Gl X "isinstance":=by rfl)(O:Gl X x:=by rfl)(J:x ≠ "__name__":=by decide)(U:Zd x:=by decide)
  (Y:BR [e,.Name x m] X.env=(false,DY e X.env)::BR [.Name x m] X.env:=by rfl)(P:BR [.Name x m] X.env=(false,DY (.Name x m) X.env)::BR [] X.env:=by rfl)(G:Zp X.env pos [.Name x m]:=by rfl):
  PEd X c .fr (.Call (.Name "isinstance" p) [e,.Name x m] [] pos) (b1 f (b8 T)):=
 PE.imp (Kw (r:=λxs H Q=>∃S d v t,xs=[v,.ty T]/\Rep X.K H S d v/\tyN d=some t/\Q (.bl (dC T t)) H) (λpins s σ H xs us Q I r h=>by
   revert h;refine fQ λS d v t F rv y q=>?_;obtain rfl:=F;refine Br (λu1 u2 C B r2=>?_) (r.two);obtain rfl:=C;cases(show u2=Value.type T from r2);exact wg0 I rv B y (wg8 hT (wm5 y)) λtk=>⟨.bl (dC T t),H,I.tok _,rfl,q⟩) hg hm PyProof.Rows.boot_isinstance (Dt ha (Dt (wK (v:=.ty T) O L hv rfl J U) Hs P) Y) (by decide) (by decide) Y G) λσ H Q q=>by
 revert q;refine Bt λhs ρ E q=>?_;refine Bk (l:=l) E ((RQ.bind.mp q).mono (λd q1 v H1 s1 E1 B=>?_) λ_ z=>z);refine Ao (λd' e' q2=>?_) (q1.of);unfold b8 at e';cases y:tyN d with
 |none=>rw[y]at e';cases e'
 |some t=>rw[y]at e';cases e';exact⟨lvS c ρ σ H l,d,v,t,rfl,B,y,q2 _ H1 s1 rfl⟩
def M8:List D->Option (List Bool)
 | []=>some []
 | .bl b::r=>(M8 r).map (b::·)
 |_::_=>none
def aY:List D->Option D
 | [.lst xs]=>(M8 xs).map λbs=>.bl (bs.all id)
 |_=>none
def dM:List D->Option D
 | [.lst xs]=>(M8 xs).map λbs=>.bl (bs.any id)
 |_=>none
def oM{K:CJ}{H:Hp}{S:AS}:∀{ds:List D}{vs:List V}{q:List A_}{bs:List Bool},Ak K H S ds vs->Vals vs q->M8 ds=some bs->q=bs.map Value.bool
 | [],vs,q,bs,h,r,e=>by cases(show vs=[] from h);cases r;cases e;rfl
 |d::ds,vs,q,bs,h,r,e=>by
  revert h;refine Br λv B y I G=>?_;obtain rfl:=y;cases r with
  |cons F C =>
   cases d with
   |bl b =>
    cases(show v=.bl b from I);cases(show _=Value.bool b from F);have e:(M8 ds).map (b::·)=some bs:=e;cases z:M8 ds with
    |none=>rw[z]at e;cases e
    |some J=>rw[z]at e;cases e;rw[oM G C z];rfl
   |_=>cases e
def yb2(hc:X.calm=true):Eb X (.builtin "all") (rC X.K aY):=by
 rintro pins s σ H xs us Q I r ⟨S,ds,d,rs,e,q⟩;obtain⟨U,rfl⟩:=inv1 e rfl (λx _ _=>by cases x<;>rfl);cases U with
 |lst ys =>
  obtain⟨v,rfl,a,vs,rfl,ha,rr⟩:=rs.one;have e:(M8 ys).map (λbs=>D.bl (bs.all id))=some d:=e;cases L:M8 ys with
  |none=>rw[L]at e;cases e
  |some bs =>
   rw[L]at e;cases e;obtain⟨u,rfl,ru⟩:=vals1 r;cases ru;have⟨B,Y,pl,hz⟩:=I.list ha.sq;have P:=oM rr Y L;have G:=pl.isList;have F:a<s.heap.objs.size:=by obtain⟨_,z,_⟩:=G;exact HB z
   refine call_all_walk (HR G ?_);refine⟨s.heap.objs.size,[s.heap.objs.size,a],[s.heap.objs.size],B.toArray.size,_,_,λi=>(bs[i]?).getD true,rfl,Walks.list (A:=X.A.in1) (I.ok.hd hc) _ a (JW F) B.toArray,
    ⟨⟨_,KD _ rfl,rfl,rfl⟩,G.push _⟩,λi v s' Q' E' hP O=>?_,λh' tk hk=>?_⟩
   ·have y:B[i]? = some v:=by simpa using hP
    rw[P,QR]at y;cases J:bs[i]? with
    |none=>rw[J]at y;cases y
    |some b=>rw[J]at y;cases y;simp only[J,RC]at O;exact FJ O
   ·have e:((List.range B.toArray.size).all λi=>(bs[i]?).getD true)=bs.all id:=by
     rw[JZ,P,GP];rw[bF];simp only[PQ,H_,id];constructor
     ·intro h b hb;have⟨i,C,e⟩:=X_.mp hb;have:=h i C;rw[GK C,RC,e]at this;exact this
     ·intro h i C;rw[GK C,RC];exact h _ (RB C)
    rw[e];exact⟨.bl _,H,I.kept (λb x z=>hk b x (λhm=>by rw[JG.mp hm]at z;exact SN _ (HB z)) (JH _ z)),rfl,q _ H (Ag.refl _) rfl⟩
 |_=>exact nos e
def yb3(hc:X.calm=true):Eb X (.builtin "any") (rC X.K dM):=by
 rintro pins s σ H xs us Q I r ⟨S,ds,d,rs,e,q⟩;obtain⟨U,rfl⟩:=inv1 e rfl (λx _ _=>by cases x<;>rfl);cases U with
 |lst ys =>
  obtain⟨v,rfl,a,vs,rfl,ha,rr⟩:=rs.one;have e:(M8 ys).map (λbs=>D.bl (bs.any id))=some d:=e;cases L:M8 ys with
  |none=>rw[L]at e;cases e
  |some bs =>
   rw[L]at e;cases e;obtain⟨u,rfl,ru⟩:=vals1 r;cases ru;have⟨B,Y,pl,hz⟩:=I.list ha.sq;have P:=oM rr Y L;have G:=pl.isList;have F:a<s.heap.objs.size:=by obtain⟨_,z,_⟩:=G;exact HB z
   refine call_any_walk (HR G ?_);refine⟨s.heap.objs.size,[s.heap.objs.size,a],[s.heap.objs.size],B.toArray.size,_,_,λi=>(bs[i]?).getD false,rfl,Walks.list (A:=X.A.in1) (I.ok.hd hc) _ a (JW F) B.toArray,
    ⟨⟨_,KD _ rfl,rfl,rfl⟩,G.push _⟩,λi v s' Q' E' hP O=>?_,λh' tk hk=>?_⟩
   ·have y:B[i]? = some v:=by simpa using hP
    rw[P,QR]at y;cases J:bs[i]? with
    |none=>rw[J]at y;cases y
    |some b=>rw[J]at y;cases y;simp only[J,RC]at O;exact FJ O
   ·have e:((List.range B.toArray.size).any λi=>(bs[i]?).getD false)=bs.any id:=by
     rw[JZ,P,GP];rw[bF];simp only[qF,H_,id];constructor
     ·rintro⟨i,C,h⟩;rw[GK C,RC]at h;exact⟨_,RB C,h⟩
     ·rintro⟨b,hb,h⟩;have⟨i,C,e⟩:=X_.mp hb;exact⟨i,C,by rw[GK C,RC,e];exact h⟩
    rw[e];exact⟨.bl _,H,I.kept (λb x z=>hk b x (λhm=>by rw[JG.mp hm]at z;exact SN _ (HB z)) (JH _ z)),rfl,q _ H (Ag.refl _) rfl⟩
 |_=>exact nos e
def iT(z:X.calm=true)(q:X.mg "all" = none)(B:PAd X c l (e::es) fs)(r:Gl X "all":=by rfl)(y:Zs X.env e es:=by rfl)(h:Zp X.env pos es:=by rfl):
  PEd X c l (.Call (.Name "all" p) (e::es) [] pos) (bA fs aY):=Yw (yb2 z) PyProof.Rows.boot_all q B r (by decide) (by decide) y h
def yl4(z:X.calm=true)(q:X.mg "any" = none)(B:PAd X c l (e::es) fs)(r:Gl X "any":=by rfl)(y:Zs X.env e es:=by rfl)(h:Zp X.env pos es:=by rfl):
  PEd X c l (.Call (.Name "any" p) (e::es) [] pos) (bA fs dM):=Yw (yb3 z) PyProof.Rows.boot_any q B r (by decide) (by decide) y h
def U6:∀xs d,aY xs=some d->d.imm=true:=λxs d h=>by
 obtain⟨q,rfl⟩:=inv1 h rfl (λx _ _=>by cases x<;>rfl);cases q with
 |lst ys =>
  have h:(M8 ys).map (λbs=>D.bl (bs.all id))=some d:=h;cases e:M8 ys with
  |none=>rw[e]at h;cases h
  |some bs=>rw[e]at h;cases h;rfl
 |_=>exact nos h
def wf8:∀xs d,dM xs=some d->d.imm=true:=λxs d h=>by
 obtain⟨q,rfl⟩:=inv1 h rfl (λx _ _=>by cases x<;>rfl);cases q with
 |lst ys =>
  have h:(M8 ys).map (λbs=>D.bl (bs.any id))=some d:=h;cases e:M8 ys with
  |none=>rw[e]at h;cases h
  |some bs=>rw[e]at h;cases h;rfl
 |_=>exact nos h
end
variable {h':CK}
variable {t':Nat}
def O6(I:Inv X pins σ H s)(C:∀b∈fp,Qz X pins H b)(k:∀b o,b∉fp->s.heap.get? b=some o->h'.get? b=some o):Inv X pins σ H {s with heap:=h',toks:=t'}:=by
 refine I.step (g':=s.gens) (d':=s.drawn) (ch:=fp) (λb J=>?_) (λb o _ _ h e _=>k b o h e) (λb o _ _ h e _=>⟨o.slots,k b o h e⟩) (λ_ _ _ _ n=>n)
  (λb o h e=>⟨o,k b o h e⟩) (λ_ _ e=>e) (λ_ _ _ e=>e) (λb ps e=>⟨#[],by rw[e];simp⟩) (λm G=>?_) (λb u e=>?_) I.bare
 ·refine rT (λf0 Q Y P O L=>?_) (C b J);exact⟨P,Q,O,L⟩
 ·revert G;refine aU λo es U F r=>?_;exact⟨o,es,U,k _ o (λz=>(C _ z).2.1 rfl) F,r⟩
 ·refine(I.hok b u e).stay (λc v h q=>k c v (λz=>?_) q) (λ_ q=>q) λ_ _ q=>q;have B:=(C c z).1;rcases h with y |y
  ·rw[y,e]at B;cases B
  ·rw[y]at B;cases B
def Ge{a:BK}{F:HO}(I:Inv X pins σ H s)(G:∀b∈fp,Qz X pins H b)(k:∀b o,b∉fp->s.heap.get? b=some o->h'.get? b=some o)(J:s.heap.objs.size<=a)(new:Cj X.prog X.w (upd H a F) h' a F):
  Inv X pins σ (upd H a F) {s with heap:=h',toks:=t'}:=by
 have h:H a=none:=I.hok.fresh J;have ne:∀{b:BK}{o:GJ},s.heap.get? b=some o->b≠a:=λe z=>by have:=HB e;rw[z]at this;exact absurd (PX this J) (SN _)
 refine I.step (g':=s.gens) (d':=s.drawn) (ch:=fp) (λb C=>?_) (λb o _ _ B e _=>k b o B e) (λb o _ _ B e _=>⟨o.slots,k b o B e⟩) (λb o _ e n=>by rw[Aj (ne e)];exact n)
  (λb o B e=>⟨o,k b o B e⟩) (λb xs e=>by rw[Aj (Bh e h)];exact e) (λb o u e=>by rw[Aj (Bh e h)];exact e) (λb ps e=>⟨#[],by rw[Aj (Bh e h),e];simp⟩) (λm O=>?_) (λb u e=>?_) I.bare
 ·refine rT (λf0 Y f2 U Q P=>?_) (G b C);exact⟨U,Y,Q,P⟩
 ·revert O;refine aU λo es ep L r=>?_;exact⟨o,es,ep,k _ o (λz=>(G _ z).2.1 rfl) L,r⟩
 ·by_cases C:b=a
  ·subst C;rw[An]at e;cases e;exact new
  ·rw[Aj C]at e;refine(I.hok b u e).stay (λc v B q=>k c v (λz=>?_) q) (λc q=>by rw[Aj (Bh q h)];exact q) λc xs q=>by rw[Aj (Bh q h)];exact q
   have h:=(G c z).1;rcases B with y |y
   ·rw[y,e]at h;cases h
   ·rw[y]at h;cases h
def Iel(K:CJ)(a:BK):It:=
 ⟨λi H=>∃xs x,SqL K H a xs/\xs[i]? = some x,λi H x H'=>∃t v,x=.ref t/\H t=none/\H'=upd H t (.tup [.int (i:Int),v])/\∀xs,SqL K H a xs->xs[i]? = some v,λi H=>∃xs,SqL K H a xs/\xs.length<=i⟩
variable {P:B_}
theorem kk4{elts:List CP}(a e it:BK)(hne:e≠it):
  Turn P w K (.Tuple elts k pos) (Iel K a) [e,it] e (λi h=>(∃old,mD h e it (i:Int) old)/\h.IsListIter it a i) where
 mem:=by simp
 obj:=λi h st b hb=>by
  obtain⟨⟨old,he⟩,o,ho,hc,hd⟩:=st;have hb':b=e\/b=it:=by simpa using hb
  rcases hb' with rfl |rfl
  ·exact⟨_,he,λv z=>by cases z⟩
  ·exact⟨o,ho,λv z=>by rw[hd]at z;cases z⟩
 keep:=λi h h' st kp=>⟨st.1.imp λold he=>kp e (by simp) _ he,st.2.at λo q=>kp it (by simp) o q⟩
 item:=by
  intro X hP hw hK hc i pins s σ H E I hf st hg;subst hP hw hK;obtain⟨xs,x,hq,hx⟩:=hg;have⟨its,rv,p,hz⟩:=I.list hq;have⟨u,hu,ru⟩:=rv.get hx;obtain⟨⟨old,he⟩,hit⟩:=st;refine wpAny_pyNext_enum_item he hit p.isList (x:=u) (by simpa using hu) hne λh1 heo hit1 ht1 hz1 hk1=>⟨_,rfl,?_⟩;refine UJ heo λh2 he2 hs2=>?_;have hT:s.heap.objs.size≠e:=TJ (HB he);have ht2:h2.get? s.heap.objs.size=some {cls:=.type "tuple",data:=.seq #[.int i s.toks,u] }:=(hs2.2 _ hT).trans ht1;have I2:Inv X pins σ (upd H s.heap.objs.size (.tup [.int (i:Int),x])) {s with heap:=h2,toks:=s.toks+1}:=
   Ge (t':=s.toks+1) I hf (λb o hb q=>by
    have hb':b≠e/\b≠it:=by simpa using hb
    exact(hs2.2 b hb'.1).trans (hk1 b o hb'.1 hb'.2 q)) (F_ _)
    (show Cj X.prog X.w _ h2 _ (.tup [.int (i:Int),x]) from⟨by show 2<=sizeLine;rw[CV];lia,[.int i s.toks,u],.cons ⟨_,rfl⟩ (.cons ru .nil),⟨_,ht2,rfl,_,rfl⟩⟩)
  refine⟨.ref s.heap.objs.size,_,I2,rfl,⟨_,x,rfl,I.hok.fresh (F_ _),rfl,λys hy=>by rw[I.list_inj hy hq];exact hx⟩,⟨⟨u,by simpa using he2⟩,?_⟩,λb hb=>?_⟩
  ·exact hit1.at λo q=>(hs2.2 it (Ne.symm hne)).trans q
  ·have hlt:b<s.heap.objs.size:=by
    have⟨oi,hoi,_⟩:=id hit;have hb':b=e\/b=it:=by simpa using hb
    rcases hb' with rfl |rfl
    ·exact HB he
    ·exact HB hoi
   rw[Aj (JW hlt)];exact(hf b hb).1
 done:=by intro X hP hw hK hc i pins s σ H E I hf st hg;subst hP hw hK;obtain⟨xs,hq,hx⟩:=hg;have⟨its,rv,p,hz⟩:=I.list hq;obtain⟨⟨old,he⟩,hit⟩:=st;have hl:=rv.length;exact wpAny_pyNext_enum_end (I.ok.hd hc) he hit p.isList (by simp;lia) λh' eb=>⟨rfl,O6 (t':=s.toks) I hf λb o hb q=>eb b o (λz=>hb (by simp[z])) q⟩
 self:=λA i s Q E st h=>by obtain⟨⟨old,he⟩,_⟩:=st;exact KJ he h
def Mv(ds:List D):List D:=(List.range ds.length).zipWith (λ(i:Nat) d=>.tup [.int (i:Int),d]) ds
def O3(ds:List D):(Mv ds).length=ds.length:=by simp[Mv]
def Y6{d:D}(h:(Mv ds)[i]? = some d):∃e,ds[i]? = some e/\d=.tup [.int (i:Int),e]:=by
 unfold Mv at h;rw[List.getElem?_zipWith]at h;cases m:(List.range ds.length)[i]? with
 |none=>rw[m]at h;cases h
 |some j =>
  cases r:ds[i]? with
  |none=>rw[m,r]at h;cases h
  |some e=>rw[m,r]at h;cases h;have:=(LR.mp m);obtain⟨y,q⟩:=this;simp at q;subst q;exact⟨e,rfl,rfl⟩
def ks8{a:BK}:ItD K (Iel K a) (Mv ds) λH S=>LsR K H S a vs/\Ak K H S ds vs where
 stab:=Xq
 go:=λi H S hi h=>by rw[O3]at hi;refine Ao (λv hv _=>?_) (h.2.get (GK hi));exact⟨vs,v,h.1.sq,hv⟩
 yld:=λi H S x H' h y=>by revert y;refine Yb λt v hz5 ht hz6 y=>?_;obtain rfl:=hz5;obtain rfl:=hz6;refine⟨Ar ht _,λd hd=>?_⟩;refine Ao (λe he hz7=>?_) (Y6 hd);obtain rfl:=hz7;refine Ao (λw hw rw'=>?_) (h.2.get he);have ev:v=w:=Option.some.inj ((y vs h.1.sq).symm.trans hw);subst ev;exact⟨t,_,rfl,TpR.of An,.int (i:Int),[v],rfl,rfl,v,[],rfl,rw'.mono (Ar ht _) (λ_ z=>z),rfl⟩
 stop:=λi H S hi h=>⟨vs,h.1.sq,by rw[<-h.2.length];rw[O3]at hi;exact hi⟩
open PySem PySem.Spec PyProof.Rows L2 PySem.W
variable {O:KeyOrd}
section
variable {key:Nat->O.α}{N:Nat}
def kk(key:Nat->O.α)(p:Array Nat)(i:Nat):O.α:=key ((p[i]?).getD 0)
def Vf(key:Nat->O.α)(p:Array Nat)(k:Nat):Prop:=∀i j,i<=j->j<k->O.kle (kk key p i) (kk key p j)
def Ve(N:Nat)(p:Array Nat):Prop:=p.toList.Perm (List.range N)
def Ve.size{p:Array Nat}(h:Ve N p):p.size=N:=by have:=h.length_eq;simpa using this
abbrev ltO(key:Nat->O.α):Nat->Nat->Bool:=λi j=>O.blt (key i) (key j)
end
variable {h2:CK}
section
variable {key:Nat->O.α}{κ:QZ}{vs:List A_}{a:BK}
def Bv(a:BK)(h h':CK):Prop:=∀b o,b≠a->h.get? b=some o->h'.get? b=some o
def Bv.trans{m h:CK}(x:Bv a m h2)(y:Bv a h2 h):Bv a m h:=λb o n e=>y b o n (x b o n e)
def Bv.push(h:CK)(o:GJ):Bv a h (h.push o):=λb u _ e=>JH _ e
def Bv.upd(h:CK)(f:GJ->GJ):Bv a h (h.update a f):=λb u n e=>(ZL _ _ (Ne.symm n)).trans e
structure Asks(prog:B_)(w:CW)(A:EY)(s:BJ)(a:BK)(vs:List A_)(κ:QZ)(key:Nat->O.α):Prop where
 kind:2<=vs.length->∀(s':BJ)(Q:QZ->BJ->Prop),Bv a s.heap s'.heap->Q κ s'->BP (BV prog w) A (keyKind' vs.toArray) Q (λ_ _=>False) s'
 less:2<=vs.length->∀(i j:Nat)(s':BJ)(Q:Bool->BJ->Prop),i<vs.length->j<vs.length->Bv a s.heap s'.heap->(∀tk,Q (ltO key i j) {s' with toks:=tk})->BP (BV prog w) A (keyLt' κ (vs.getD i .none) (vs.getD j .none)) Q (λ_ _=>False) s'
def kv8(vs:List A_):((vs.toArray.zip vs.toArray).map (·.2))=vs.toArray:=by
 apply Array.ext
 ·simp
 ·intro i h h2;simp
def W7(vs:List A_):((List.range vs.length).map λi=>vs.getD i .none)=vs:=by
 apply bI
 ·simp
 ·intro i h h2;simp at h;simp[h]
end
def Dh:List Int->List Int->Bool
 |_,[]=>false
 | [],_::_=>true
 |x::xs,y::ys=>if x=y then Dh xs ys else decide (x<y)
def Ws(xs:List Int):Dh xs []=false:=by cases xs<;>rfl
def N8:∀xs,Dh xs xs=false
 | []=>rfl
 |x::xs=>by rw[Dh,if_pos rfl];exact N8 xs
theorem Qq:∀xs ys B,Dh xs ys=true->Dh ys B=true->Dh xs B=true
 |_,[],_,h,_=>by rw[Ws]at h;cases h
 |_,_::_,[],_,h=>by rw[Ws]at h;cases h
 | [],_::_,_::_,_,_=>rfl
 |x::xs,y::ys,z::B,q,h2=>by
  rw[Dh]at q h2 ⊢;by_cases r:x=y
  ·rw[if_pos r]at q;by_cases m:y=z
   ·rw[if_pos m]at h2;rw[if_pos (r.trans m)];exact Qq xs ys B q h2
   ·rw[if_neg m]at h2;rw[if_neg (by rw[r];exact m),r];exact h2
  ·rw[if_neg r]at q;have F:=of_decide_eq_true q;by_cases m:y=z
   ·rw[<-m,if_neg r];exact q
   ·rw[if_neg m]at h2;have C:=of_decide_eq_true h2;rw[if_neg (by omega)];exact decide_eq_true (by omega)
theorem Wr:∀xs ys r,Dh xs r=true->Dh xs ys=true\/Dh ys r=true
 |_,_,[],h=>by rw[Ws]at h;cases h
 |_,[],_::_,_=>.inr rfl
 | [],_::_,_::_,_=>.inl rfl
 |x::xs,y::ys,z::r,h=>by
  rw[Dh]at h;rw[Dh,Dh];by_cases q:x=y
  ·rw[if_pos q];by_cases m:y=z
   ·rw[if_pos m];rw[if_pos (q.trans m)]at h;exact Wr xs ys r h
   ·rw[if_neg m];rw[if_neg (by rw[q];exact m)]at h;exact .inr (by rw[<-q];exact h)
  ·rw[if_neg q];by_cases m:y=z
   ·rw[if_pos m];rw[<-m,if_neg q]at h;exact .inl h
   ·rw[if_neg m];by_cases l:x<y
    ·exact .inl (decide_eq_true l)
    ·refine .inr (decide_eq_true ?_);by_cases B:x=z
     ·omega
     ·rw[if_neg B]at h;have:=of_decide_eq_true h;omega
theorem Ff:∀xs ys,Dh xs ys=false->Dh ys xs=false->xs=ys
 | [],[],_,_=>rfl
 | [],_::_,h,_=>by cases h
 |_::_,[],_,h=>by cases h
 |x::xs,y::ys,m,h2=>by
  rw[Dh]at m h2;by_cases e:x=y
  ·rw[if_pos e]at m;rw[if_pos e.symm]at h2;rw[e,Ff xs ys m h2]
  ·rw[if_neg e]at m;rw[if_neg (Ne.symm e)]at h2;have a1:=of_decide_eq_false m;have q:=of_decide_eq_false h2;omega
def Wt:KeyOrd:=⟨List Int,Dh,N8,Qq,Wr,Ff⟩
def Bl:List D->Option (List Int)
 | []=>some []
 | .int i::r=>(Bl r).map (i::·)
 |_::_=>none
def aP:D->Option (List Int)
 | .int i=>some [i]
 | .tup xs=>Bl xs
 |_=>none
def keyOf(d:D):List Int:=(aP d).getD []
def j4:D->Bool
 | .int _=>true
 |_=>false
def Ql:D->Bool
 | .tup (x::xs)=>(Bl (x::xs)).isSome
 |_=>false
def Td:∀{xs ys:List D}{ns:List Int},Bl xs=some ns->Bl ys=some ns->xs=ys
 | [],[],_,_,_=>rfl
 | [],y::ys,ns,h,h2=>by cases h;cases y<;>first | (cases e:Bl ys<;>simp[Bl,e]at h2) |cases h2
 |x::xs,[],ns,h,h2=>by cases h2;cases x<;>first | (cases e:Bl xs<;>simp[Bl,e]at h) |cases h
 |x::xs,y::ys,ns,h,h2=>by
  cases x with
  |int i =>
   cases y with
   |int j =>
    cases q:Bl xs with
    |none=>simp[Bl,q]at h
    |some a =>
     cases m:Bl ys with
     |none=>simp[Bl,m]at h2
     |some b=>simp[Bl,q]at h;simp[Bl,m]at h2;rw[<-h2]at h;obtain⟨rfl,rfl⟩:=List.cons.inj h;rw[Td q m]
   |_=>cases h2
  |_=>cases h
def Dr(xs:List D):Bool:=xs.all j4 ||xs.all Ql
def oY(h:Dr xs=true){a b:D}(C:a∈xs)(B:b∈xs)(e:keyOf a=keyOf b):a=b:=by
 unfold Dr at h;rw[bG,PQ,PQ]at h;rcases h with h |h
 ·have q:=h a C;have h2:=h b B;cases a<;>cases b<;>simp[j4]at q h2;simp[keyOf,aP]at e;rw[e]
 ·have q:=h a C;have h2:=h b B;cases a with
  |tup x =>
   cases b with
   |tup y =>
    cases z:Bl x with
    |none=>cases x<;>simp[Ql,z]at q
    |some n =>
     cases r:Bl y with
     |none=>cases y<;>simp[Ql,r]at h2
     |some m=>simp[keyOf,aP,z,r]at e;subst e;rw[Td z r]
   |_=>simp[Ql]at h2
  |_=>simp[Ql]at q
def Gz(a b:D):Bool:=!Dh (keyOf b) (keyOf a)
def srt(xs:List D):List D:=xs.mergeSort Gz
def Dm(xs:List D):(srt xs).Perm xs:=List.mergeSort_perm _ _
theorem kh8(a b c:D)(h:Gz a b=true)(h2:Gz b c=true):Gz a c=true:=by
 unfold Gz at *;rw[aA]at *;cases e:Dh (keyOf c) (keyOf a) with
 |false=>rfl
 |true =>
  rcases Wr _ (keyOf b) _ e with z |z
  ·rw[h2]at z;cases z
  ·rw[h]at z;cases z
def kh7(a b:D):(Gz a b ||Gz b a)=true:=by
 unfold Gz;cases e:Dh (keyOf b) (keyOf a) with
 |false=>rfl
 |true =>
  cases h:Dh (keyOf a) (keyOf b) with
  |false=>rfl
  |true=>have:=Qq _ _ _ e h;rw[N8]at this;cases this
def Eh(xs:List D):(srt xs).Pairwise λa b=>Gz a b=true:=List.pairwise_mergeSort (λa b c=>kh8 a b c) (λa b=>kh7 a b) xs
def eq_of_sorted{h:Type}{le:h->h->Prop}:∀{xs ys:List h},xs.Perm ys->xs.Pairwise le->ys.Pairwise le->(∀a∈xs,∀b∈xs,le a b->le b a->a=b)->xs=ys
 | [],ys,p,_,_,_=>(List.nil_perm.mp p).symm
 |x::xs,[],p,_,_,_=>by have:=p.length_eq;simp at this
 |x::xs,y::ys,p,B,h2,z=>by
  have ex:x=y:=by
   have q:x∈y::ys:=p.mem_iff.mp JK;have r:y∈x::xs:=p.mem_iff.mpr JK;rcases HN.mp q with e |q
   ·exact e
   ·rcases HN.mp r with e |m
    ·exact e.symm
    ·exact z x JK y r (jGd B m) (jGd h2 q)
  subst ex;rw[eq_of_sorted (List.Perm.cons_inv p) B.of_cons h2.of_cons λa F b C=>z a (IK _ F) b (IK _ C)]
theorem Xp{p:Array Nat}{key:Nat->Wt.α}(y:xs.length<2\/Dr xs=true)(r:∀i d,xs[i]? = some d->key i=keyOf d)(B:Ve xs.length p)(hs:Vf key p xs.length):
  p.toList.map (λi=>xs.getD i .non)=if xs.length<2 then xs else srt xs:=by
 have perm:(p.toList.map λi=>xs.getD i .non).Perm xs:=by
  have z:=B.map λi=>xs.getD i D.non;refine z.trans (List.Perm.of_eq ?_);apply bI
  ·simp
  ·intro i z h2;simp at z;simp[z]
 by_cases h2:xs.length<2
 ·rw[if_pos h2]
  match xs,h2,perm with
  | [],_,perm=>exact List.perm_nil.mp perm
  | [x],_,perm=>exact jHi.mp perm
 ·rw[if_neg h2];have C:Dr xs=true:=y.resolve_left h2;refine eq_of_sorted (le:=λa b=>Gz a b=true) (perm.trans (Dm xs).symm) ?_ (Eh xs) λa ha b Y I G=>?_
  ·rw[iB];intro i j L J F;simp only[GP,ZG]at L J;have Q:=B.size;have h:∀(k:Nat)(y:k<p.size),keyOf (xs.getD p[k] .non)=kk key p k:=λk y=>by
    have U:p[k]∈p.toList:=by simp
    have q:p[k]<xs.length:=H_.mp (B.mem_iff.mp U);unfold kk;rw[YB y,RC,r p[k] xs[p[k]] (GK q)];simp[q]
   have:=hs i j (cD F) (by omega);simp only[jIc,jHe];unfold Gz;rw[h i L,h j J];have m:Dh (kk key p j) (kk key p i)=false:=this;rw[m];rfl
  ·unfold Gz at I G;rw[aA]at I G;exact oY C (perm.mem_iff.mp ha) (perm.mem_iff.mp Y) (Ff _ _ G I)
variable {h:CK}{ns:List Int}{us:List A_}
section
variable {a:BK}
def oZ{vs:List A_}(h:FP vs ns)(hi:i<vs.length):∃t,vs.getD i .none=.int (ns.getD i 0) t:=by have⟨t,e⟩:=IntsAre.int_at h i vs[i] (GK hi);exact⟨t,by rw[<-e];simp[hi]⟩
def Yr{vs:List A_}(h:FP vs ns):Asks (O:=Wt) prog w A s a vs ZC λi=>[ns.getD i 0] where
 kind:=λh2 s' Q _ q=>by
  match vs,h2,h with
  |v1::v2::r,_,h=>rw[keyKind_ints h];exact DN q
 less:=λ_ i j s' Q hi hj _ q=>by
  have⟨t,e1⟩:=oZ h hi;have⟨u,e2⟩:=oZ h hj;rw[e1,e2];refine kat_lt_int ?_;have e:ltO (O:=Wt) (λi=>[ns.getD i 0]) i j=decide (ns.getD i 0<ns.getD j 0):=by
   show Dh [ns.getD i 0] [ns.getD j 0]=_;rw[Dh];by_cases z:ns.getD i 0=ns.getD j 0
   ·rw[if_pos z,z];simp[Dh]
   ·rw[if_neg z]
  rw[e]at q;exact q s'.toks
def cB(h:CK)(a:BK)(u:A_)(ns:List Int):Prop:=∃b us,u=.ref b/\b≠a/\NK h b (TF us)/\FP us ns
def cB.keep(x:cB h a u ns)(k:Bv a h h'):cB h' a u ns:=by revert x;refine Yb λb us q y m B=>?_;obtain rfl:=q;revert m;refine Ao λo z r=>?_;exact⟨b,us,rfl,y,⟨o,k b o y z,r⟩,B⟩
inductive Hu(h:CK)(a:BK):List A_->List (List Int)->Prop
 |nil:Hu h a [] []
 |cons {u:A_} {ns:List Int} {us:List A_} {nss:List (List Int)}:cB h a u ns->ns≠[]->Hu h a us nss->Hu h a (u::us) (ns::nss)
def Hu.keep{h h':CK}(k:Bv a h h'):∀{us:List A_}{m:List (List Int)},Hu h a us m->Hu h' a us m
 |_,_,.nil=>.nil
 |_,_,.cons x n r=>.cons (x.keep k) n (Hu.keep k r)
def Hu.get:∀{us:List A_}{m:List (List Int)},Hu h a us m->∀{i:Nat},i<us.length->cB h a (us.getD i .none) (m.getD i [])
 |_,_,.cons x _ r,0,_=>by simpa using x
 |_,_,.cons _ _ r,i+1,q=>by simpa using r.get (i:=i) (by simpa using q)
def Hu.tups:∀{us:List A_}{y:List (List Int)},Hu h a us y->∃q,KatTups h us q/\q.length=us.length/\∀v∈q,∃i t,v=Value.int i t
 |_,_,.nil=>⟨[],KatTups.nil,rfl,λ_ z=>nomatch z⟩
 |_,_,.cons (ns:=ns) x hn r=>by
  obtain⟨q,k,F,I⟩:=r.tups;obtain⟨b,us,rfl,U,⟨o,C,L,n,J⟩,G⟩:=x;cases G with
  |nil=>exact absurd rfl hn
  |cons m t Q =>
   refine⟨.int m t::q,KatTups.cons C L J rfl k,by simp[F],λv B=>?_⟩;rcases HN.mp B with rfl |B
   ·exact⟨m,t,rfl⟩
   ·exact I v B
def wh0{y:Bool}{Q:Bool->BJ->Prop}:∀{us vs:List A_}{ns C:List Int}(i:Nat)(tk:Nat),FP us ns->FP vs C->(ns.length=C.length->y=false)->(ns.length<C.length->y=true)->(C.length<ns.length->y=false) ->
  (∀tk,Q (Dh ns C) {s with toks:=tk})->KatLex prog w A true y Q (us.zip vs) i {s with toks:=tk}:=by
 intro us vs ns C i tk hu;induction hu generalizing vs C i tk with
 |nil =>
  intro F J I G q;cases F with
  |nil=>have:=J rfl;subst this;exact q tk
  |cons m u r=>have:=I (by simp);subst this;exact q tk
 |cons n t r Y =>
  intro F J I G q;cases F with
  |nil=>have:=G (by simp);subst this;exact q tk
  |cons m u U =>
   refine kat_cons (RD ?_);by_cases e:n=m
   ·rw[show(n == m)=true from beq_iff_eq.mpr e];refine kat_yes (Y (i+1) tk U (λz=>J (by simp[z])) (λz=>I (by simpa using z)) (λz=>G (by simpa using z)) λB=>?_);have:=q B;rw[Dh,if_pos e]at this;exact this
   ·rw[show(n == m)=false from beq_eq_false_iff_ne.mpr e];refine kat_no ?_;have L:∀tk,Q (decide (n<m)) {s with toks:=tk}:=λB=>by have:=q B;rw[Dh,if_neg e]at this;exact this
    cases hi:(true && i == 0) with
    |true=>exact oneLt_int (L tk)
    |false=>exact kat_one _ _ (lt_int (L tk))
def Rp(h:FP us ns):us.length=ns.length:=IntsAre.length h
theorem ke4{vs:List A_}{nss:List (List Int)}(h:Hu s.heap a vs nss):Asks (O:=Wt) prog w A s a vs (tuples' true) λi=>nss.getD i [] where
 kind:=λh2 s' Q k q=>by have⟨fs,t,hl,hf⟩:=(h.keep k).tups;refine kat_kind (T:=.type "int") t (by lia) (λv hv=>?_) (by rfl) q;obtain⟨i,tk,rfl⟩:=hf v hv;exact Looks.of_pure rfl
 less:=λ_ i j s' Q hi hj k q=>by
  have⟨b,us,e1,_,⟨o,ho,hc,n,hd⟩,h1⟩:=(h.keep k).get hi;have⟨b',us',e2,_,⟨o',ho',hc',n',hd'⟩,h2⟩:=(h.keep k).get hj;rw[e1,e2];refine kat_lt ho hd ho' hd' ?_;have l1:=Rp h1;have l2:=Rp h2;refine wh0 (s:=s') 0 s'.toks h1 h2 (λz=>?_) (λz=>?_) (λz=>?_) q
  ·simp;lia
  ·simp;lia
  ·simp;lia
end
variable {items:Array A_}
section
variable {u:A_}{G:List A_->Prop}
def bB(prog:B_)(w:CW)(A:EY)(s:BJ)(u:A_)(G:List A_->Prop):Prop:=∀(Q:List A_->BJ->Prop)(E:A_->BJ->Prop),
 (∀vs h' m q,(∀b o,s.heap.get? b=some o->h'.get? b=some o)->vs.length<=sizeLine->G vs->Q vs {s with heap:=h',drawn:=q,toks:=m})->BP (BV prog w) A (cO u) Q E s
def ji1{a:BK}{T:String}{o:GJ}(B:T = "list"\/T = "tuple")(r:s.heap.get? a=some o)(z:o.cls=.type T)(y:o.data=.seq items n)(m:items.size<=sizeLine):
  bB prog w A s (.ref a) λvs=>vs=items.toList:=λQ E q=>wpAny_collect_seq a B r z y (λh' k=>q _ h' s.toks s.drawn k (by simpa using m) rfl) m
end
def O4{d':mF}(I:Inv X pins σ H s)(k:∀b o,s.heap.get? b=some o->h'.get? b=some o):Inv X pins σ H {s with heap:=h',drawn:=d',toks:=t'}:=by
 refine I.step (g':=s.gens) (d':=d') (ch:=[]) (λb B=>nomatch B) (λb o _ _ q e _=>k b o e) (λb o _ _ q e _=>⟨o.slots,k b o e⟩) (λ_ _ _ _ n=>n)
  (λb o q e=>⟨o,k b o e⟩) (λ_ _ e=>e) (λ_ _ _ e=>e) (λb ps e=>⟨#[],by rw[e];simp⟩) (λm z=>?_) (I.hok.kept k) I.bare
 revert z;refine aU λo es C y r=>?_;exact⟨o,es,C,k _ o y,r⟩
def ints_of{K:CJ}{H:Hp}{S:AS}:∀{ds:List D}{vs:List V}{us:List A_}{ns:List Int},Ak K H S ds vs->Vals vs us->Bl ds=some ns->FP us ns
 | [],vs,us,ns,h,r,e=>by cases(show vs=[] from h);cases r;cases e;exact .nil
 |d::ds,vs,us,ns,h,r,e=>by
  revert h;refine Br λv y m C h2=>?_;obtain rfl:=m;cases r with
  |cons B z =>
   cases d with
   |int i =>
    cases(show v=.int i from C);have⟨t,F⟩:=(show ∃t,_=Value.int i t from B);subst F;cases q:Bl ds with
    |none=>simp[Bl,q]at e
    |some G=>simp[Bl,q]at e;subst e;exact .cons i t (ints_of h2 z q)
   |_=>cases e
def jj5:∀{ds:List D},ds.all j4=true->∃ns,Bl ds=some ns/\ns.length=ds.length/\∀i d,ds[i]? = some d->[ns.getD i 0]=keyOf d
 | [],_=>⟨[],rfl,rfl,λi d h=>by simp at h⟩
 |d::ds,h=>by
  rw[gK,QC]at h;refine Er (λns e q r=>?_) (jj5 h.2);cases d with
  |int i =>
   refine⟨i::ns,by simp[Bl,e],by simp[q],λj x m=>?_⟩;cases j with
   |zero=>simp at m;subst m;simp[keyOf,aP]
   |succ j=>simpa using r j x (by simpa using m)
  |_=>simp[j4]at h
def v8{X:Cx}{pins:List (BK×GJ)}{σ:St}{H:Hp}{s:BJ}{S:AS}{a:BK}(I:Inv X pins σ H s)(Q:s.heap.objs.size<=a):∀{ds:List D}{vs:List V}{us:List A_},ds.all Ql=true->Ak X.K H S ds vs->Vals vs us ->
  ∃m,Hu s.heap a us m/\∀i d,ds[i]? = some d->m.getD i []=keyOf d
 | [],vs,us,_,h,r=>by cases(show vs=[] from h);cases r;exact⟨[],.nil,λi d h=>by simp at h⟩
 |d::ds,vs,us,G,h,r=>by
  rw[gK,QC]at G;revert h;refine Br λv L C h1 h2=>?_;obtain rfl:=C;cases r with
  |cons r1 r2 =>
   refine Ao (λm q hk=>?_) (v8 I Q G.2 h2 r2)
   match d,G.1 with
   | .tup (x::xs),hd =>
    revert h1;refine Br λb ws z hq Y=>?_;obtain rfl:=z;have e1:_=Value.ref b:=r1;subst e1;refine Er (λB U p _=>?_) (I.tuple (TpR.sq hq));cases e:Bl (x::xs) with
    |none=>simp[Ql,e]at hd
    |some ns =>
     have hi:=ints_of Y U e;have J:ns≠[]:=by rintro rfl;cases x<;>first | (cases e2:Bl xs<;>simp[Bl,e2]at e) |cases e
     have hb:b≠a:=by revert p;refine Ao λo ho _=>?_;exact JW (PX (HB ho) Q)
     refine⟨ns::m,.cons ⟨b,B,rfl,hb,p,hi⟩ J q,λi y F=>?_⟩;cases i with
     |zero=>simp at F;subst F;simp[keyOf,aP,e]
     |succ i=>simpa using hk i y (by simpa using F)
def Hu.push{a:BK}{o:GJ}:∀{us:List A_}{m:List (List Int)},Hu h a us m->Hu (h.push o) a us m:=λx=>x.keep (Bv.push _ _)
def Fd:List D->Option D
 | [d]=>match Gv d with
  |some xs=>if xs.length<64/\(xs.length<2\/Dr xs=true) then some (.lst (if xs.length<2 then xs else srt xs)) else none
  |none=>none
 |_=>none
def Vals.getD(r:Vals vs us)(hi:i<us.length):RelV (vs.getD i .non) (us.getD i .none):=by
 have m:i<vs.length:=by rw[r.length];exact hi
 refine Ao (λu q y=>?_) (r.get (GK m));have e:us[i]? = some us[i]:=GK hi;rw[e]at q;cases q;simpa[hi,m] using y
def yO{vs:List V}{us:List A_}(r:Vals vs us):∀(l:List Nat),(∀i∈l,i<us.length)->Vals (l.map λi=>vs.getD i .non) (l.map λi=>us.getD i .none)
 | [],_=>.nil
 |i::l,h=>.cons (Vals.getD r (h i JK)) (yO r l λj m=>h j (IK _ m))
def zU{K:CJ}{H:Hp}{S:AS}{ds:List D}{vs:List V}(r:Ak K H S ds vs):∀(l:List Nat),(∀i∈l,i<ds.length)->Ak K H S (l.map λi=>ds.getD i .non) (l.map λi=>vs.getD i .non)
 | [],_=>Ak.nil
 |i::l,h=>by
  have m:=h i JK;refine Ao (λv y q=>?_) (r.get (GK m));refine .cons ?_ (zU r l λj z=>h j (IK _ z));have C:ds.getD i .non=ds[i]:=by simp[m]
  have B:vs.getD i .non=v:=by rw[O_,y];rfl
  show Rep K H S (ds.getD i .non) (vs.getD i .non);rw[C,B];exact q
section
variable {fs:Ev->R (List D)}
def Qu{S:AS}{Q:VK}{rw:Array Nat}{tk m:Nat}{d':mF}(U:Inv X pins σ H {s with heap:=h',drawn:=d',toks:=tk})
  (J:Ak X.K H S xs vs)(I:Vals vs us)(Y:us.length<=sizeLine)(L:Ve us.length rw)(k2:∀b o,h'.get? b=some o->h2.get? b=some o)(G:∃e,h2.get? h'.objs.size=some (JR "list" (TF (rw.toList.map λi=>us.getD i .none)) e))
  (q:∀a r H',Ag H H'->H a=none->H' a=some (.lst r)->Ak X.K H' (AS.but S a) (rw.toList.map λi=>xs.getD i .non) r->Q (.ref a) H'):
  EP X pins σ Q (.ref h'.objs.size) {s with heap:=h2,drawn:=d',toks:=m}:=by
 have y:=J.length;have C:=I.length;have lt:∀i∈rw.toList,i<us.length:=λi F=>H_.mp (L.mem_iff.mp F);have B:H h'.objs.size=none:=U.hok.fresh (F_ _);obtain⟨e,G⟩:=G;have I2:Inv X pins σ (upd H h'.objs.size (.lst (rw.toList.map λi=>vs.getD i .non))) {s with heap:=h2,drawn:=d',toks:=m}:=
  U.laid (t':=m) k2 (F_ _) ⟨by rw[GP,ZG,L.size];exact Y,_,e,yO I _ lt,G⟩
 exact⟨.ref h'.objs.size,_,I2,rfl,q _ _ _ (Ar B _) B An (((zU J _ λi F=>by rw[y,C];exact lt i F).avoid B).mono (Ar B _) λ_ z=>z)⟩
end
def Ris(p:Array Nat):Prop:=p.toList.Pairwise (·<·)
theorem Ris.lt{p:Array Nat}(h:Ris p)(m:i<j)(q:j<p.size):p.getD i 0<p.getD j 0:=by have:=iB.mp h i j (by simp;omega) (by simpa using q) m;simpa[Array.getD,q,show i<p.size by omega] using this
def kr6{p:Array Nat}(h:i<p.size)(d:Nat):p.getD i d=p.getD i 0:=by simp[Array.getD,h]
theorem Vo{p:Array Nat}{j:Nat}(h:Ris p):∀(f lo hi:Nat),hi - lo<=f->lo<=hi->hi<=p.size->(∀i,i<lo->p.getD i 0<j)->(∀i,hi<=i->i<p.size->j<=p.getD i 0) ->
  SetTable.below.go p j f lo hi<=p.size/\(∀i,i<SetTable.below.go p j f lo hi->p.getD i 0<j)/\∀i,SetTable.below.go p j f lo hi<=i->i<p.size->j<=p.getD i 0
 |0,lo,hi,F,h2,y,r,q=>by
  have e:hi=lo:=by omega
  subst e;exact⟨y,r,q⟩
 |f+1,lo,hi,F,h2,y,r,q=>by
  unfold SetTable.below.go;by_cases m:lo<hi
  ·rw[if_pos m];have z:(lo+hi) / 2<p.size:=by omega
   dsimp only;rw[kr6 z];by_cases c:p.getD ((lo+hi) / 2) 0<j
   ·rw[if_pos c];refine Vo h f _ hi (by omega) (by omega) y (λi B=>?_) q;by_cases e:i=(lo+hi) / 2
    ·rw[e];exact c
    ·exact gH (h.lt (by omega) z) c
   ·rw[if_neg c];refine Vo h f lo _ (by omega) (by omega) (by omega) r λi G C=>?_;by_cases e:i=(lo+hi) / 2
    ·rw[e];omega
    ·have:=h.lt (i:=(lo+hi) / 2) (j:=i) (by omega) C;omega
  ·rw[if_neg m];have e:hi=lo:=by omega
   subst e;exact⟨y,r,q⟩
theorem Vp{p:Array Nat}(h:Ris p)(j:Nat):SetTable.below p j<=p.size/\(∀i,i<SetTable.below p j->p.getD i 0<j)/\∀i,SetTable.below p j<=i->i<p.size->j<=p.getD i 0:=
 Vo h p.size 0 p.size (by omega) (by omega) (F_ _) (λi z=>by omega) λi m h2=>by omega
def wu2{p:Array Nat}{x:Nat}(h:x∈p.toList.take n):∃i,i<n/\i<p.size/\p.getD i 0=x:=by
 have⟨i,q,e⟩:=X_.mp h;have m:i<n/\i<p.size:=by simpa[Nat.lt_min] using q
 refine⟨i,m.1,m.2,?_⟩;rw[<-e];simp[Array.getD,m.2]
theorem wh4{p:Array Nat}{x:Nat}(h:x∈p.toList.drop n):∃i,n<=i/\i<p.size/\p.getD i 0=x:=by
 have⟨i,q,e⟩:=X_.mp h;have m:i<p.size - n:=by simpa using q
 refine⟨n+i,by omega,by omega,?_⟩;rw[<-e];simp[Array.getD,show n+i<p.size by omega]
theorem wk9{p:Array Nat}(h:Ris p)(L:p[SetTable.below p j]? ≠ some j):Ris (SetTable.insertAt p (SetTable.below p j) j):=by
 unfold Ris;rw[SetTable.toList_insertAt];refine dG (λh1 h2 J=>?_) (Vp h j);rw[WQ,jHo];have F:∀x∈p.toList.drop (SetTable.below p j),j<x:=λx C=>by
  refine Er (λi B r e=>?_) (wh4 C);have:=J i B r;by_cases z:i=SetTable.below p j
  ·have m:SetTable.below p j<p.size:=by omega
   rw[YB m]at L;have:p.getD (SetTable.below p j) 0=p[SetTable.below p j]:=by simp[Array.getD,m]
   rw[<-e,z];have Q:=J _ (F_ _) m;rw[this]at Q ⊢;exact Nat.lt_of_le_of_ne Q λq=>L (by rw[<-q])
  ·have Y:=h.lt (i:=SetTable.below p j) (j:=i) (by omega) r;have U:=J (SetTable.below p j) (F_ _) (by omega);omega
 have G:∀x∈p.toList.take (SetTable.below p j),x<j:=λx C=>by refine Er (λi B r e=>?_) (wu2 C);rw[<-e];exact h2 i B
 refine⟨h.sublist (jHt _ _),⟨F,h.sublist (List.drop_sublist _ _)⟩,λx C y I=>?_⟩;rcases HN.mp I with rfl |I
 ·exact G x C
 ·exact gH (G x C) (F y I)
structure cC(t:SetTable):Prop where
 dm:t.dummies = #[]
 ris:t.plain=true->Ris t.place
def wW(j:Nat):SetTable.has #[] j=false:=by unfold SetTable.has;simp
theorem zW{t:SetTable}(r:t.dummies = #[]){y:Nat->Int}{h:Int}{j:Nat}{d:Option Nat}:∀(f:Nat)(p:SetTable.Probe),p.dummy=none->SetTable.probe.go t y h f p=some (.empty j d)->t.slot j=.empty/\d=none
 |0,p,_,e=>by simp[SetTable.probe.go]at e
 |f+1,p,q,e=>by
  unfold SetTable.probe.go at e;have m:(t.advance p).dummy=none:=by unfold SetTable.advance;split<;>exact q
  split at e
  ·rename_i es;injection e with e;injection e with C B;subst C;exact⟨es,by rw[<-B];exact q⟩
  ·rename_i es;unfold SetTable.slot at es;rw[r,wW]at es;dsimp only at es;split at es
   ·cases es
   ·rename_i z;exact absurd es (by simp)
  ·split at e
   ·cases e
   ·exact zW r f _ m e
theorem ju4{t:SetTable}(h:t.slot j=.empty):t.place[SetTable.below t.place j]? ≠ some j:=by
 unfold SetTable.slot at h;dsimp only at h;split at h
 ·cases h
 ·rename_i z;simpa using z
def J9(t:SetTable)(n:Nat):cC (t.standIn n):=⟨rfl,λz=>by cases z⟩
theorem js7{t:SetTable}(T:cC t)(es:Array (Int×A_))(h:Int)(x:A_):cC (jG t es h x).2.1/\(jG t es h x).2.1.led=t.led:=by
 unfold jG;split
 ·rename_i slot B e;dsimp only;unfold SetTable.orStandIn;split
  ·unfold SetTable.freeSlot at e;split at e
   ·rename_i j d z;have⟨r,y⟩:=zW T.dm _ _ rfl z;subst y;injection e with e;injection e with m C;have m:j=slot:=m;subst m;refine⟨⟨?_,λq=>?_⟩,rfl⟩
    ·show(if SetTable.has t.dummies j=true then _ else t.dummies) = #[];rw[T.dm,wW];rfl
    ·exact wk9 (T.ris q) (ju4 r)
   ·cases e
  ·exact⟨J9 _ _,rfl⟩
 ·exact⟨J9 _ _,rfl⟩
def ku3{q:Type}(f:Nat->Option q):∀(l:List Nat),l.Pairwise (·<·)->((l.filterMap λj=>(f j).map λb=>(j,b)).map (·.1)).Pairwise (·<·):=by
 have e:∀l:List Nat,((l.filterMap λj=>(f j).map λb=>(j,b)).map (·.1))=l.filter λj=>(f j).isSome:=by
  intro l;induction l with
  |nil=>rfl
  |cons a l m =>
   cases e:f a with
   |none=>rw[List.filterMap_cons_none (by simp[e]),eO (by simp[e]),m]
   |some b=>rw[List.filterMap_cons_some (by simp[e];rfl),h_ (by simp[e]),HJ,m]
 intro l r;rw[e];exact r.filter _
def ju1{t t':SetTable}{hs:Array Int}{o:Array Nat}(e:t.relaid hs n=some (t',o)):cC t'/\t'.led=t.led:=by
 unfold SetTable.relaid SetTable.laid at e;cases m:SetTable.layClean (SetTable.sizeAbove n - 1) hs with
 |none=>rw[m]at e;cases e
 |some r=>rw[m]at e;have e:=Option.some.inj e;have q:=(Prod.mk.inj e).1;subst q;exact⟨⟨rfl,λ_=>ku3 _ _ eG⟩,rfl⟩
theorem je7{t:SetTable}(es:Array (Int×A_))(n:Nat):cC (N_ t es n).2.1/\(N_ t es n).2.1.led=t.led:=by
 unfold N_;split
 ·rename_i t' o e;dsimp only;split
  ·exact ju1 e
  ·exact⟨J9 _ _,rfl⟩
 ·exact⟨J9 _ _,rfl⟩
def intOf:A_->Int
 | .int i _=>i
 |_=>0
def Jz(es:Array (Int×A_)):List Int:=es.toList.map λe=>intOf e.2
def Sv(P:B_)(w:CW)(ns:List Int)(o:GJ):Prop:=∃es m t,o.ExactSet/\o.data=.set es m t/\TY (IV P w) es.toList/\(Jz es).Nodup/\(∀k,k∈Jz es↔k∈ns)/\es.size<JX/\t.fits es.size=true/\cC t /\
 t.led = !w.params.followText "set-order"
def jj9{es:List (Int×A_)}(h:TY (IV P w) es){k:Int}{e:Int×A_}(q:e∈es):(IV P w).is k e.2=true↔intOf e.2=k:=by
 have⟨⟨j,m,_⟩,_⟩:=h e q;have⟨t,r⟩:=Value.isInt_shape (k:=j) (v:=e.2) m;rw[r];show Value.isInt k (.int j t)=true↔j=k;constructor
 ·intro z;have⟨t',e'⟩:=Value.isInt_shape z;cases e';rfl
 ·rintro rfl;exact bO P w j t
variable {es':Array (Int×A_)}{ep:Nat}
section
variable {a:BK}
def Xy{es:Array (Int×A_)}(p:es'.toList.Perm es.toList):(Jz es').Perm (Jz es):=p.map _
def wG{o:GJ}{es:Array (Int×A_)}{t t':SetTable}(q:s.heap.get? a=some o)(m:o.data=.set es ep t):(s.heap.update a (Obj.putSet es' t')).get? a=some {o with data:=.set es' (ep+1) t'}:=by have:=ZK (Obj.putSet es' t') q (by rw[putSet_of es' t' m];rfl);rw[putSet_of es' t' m]at this;exact this
theorem set_tail{o:GJ}{es m:Array (Int×A_)}{t r:SetTable}{wd:Bool}{g:Bool->Sem Unit}{R:Option Bool->BJ->Prop}(hg:∀(b:Bool)(s1:BJ)(Q':Unit->BJ->Prop),Q' () s1->BP (BV prog w) A (g b) Q' E s1)
  (ho:s.heap.get? a=some o)(hex:o.ExactSet)(hd:o.data=.set es ep t)(J:TY (IV prog w) m.toList)(I:(Jz m).Nodup)(C:∀k,k∈Jz m↔k∈ns)(hb:m.size<JX)(hf:r.fits m.size=true)(hT:cC r)(F:r.led = !w.params.followText "set-order")
  (h:∀h' o',Heap.SameBut a s.heap h'->h'.get? a=some o'->Sv prog w ns o'->(∀B ab Q,o'.data=.set B ab Q->B.size=m.size)->R (some true) {s with heap:=h'}):
  BP (BV prog w) A (do
   storeSet a m r
   if(!wd && r.tooFull)=true then do
    g (N_ r m (SetTable.grown m.size)).2.2
    storeSet a (N_ r m (SetTable.grown m.size)).1 (N_ r m (SetTable.grown m.size)).2.1
    pure (some true)
   else pure (some true)) R E s:=by
 refine BX (bR ho hd ?_ (JC hb));have U:=wG (es':=m) (t':=r) ho hd;have G:=Heap.SameBut.update s.heap a (Obj.putSet m r);split
 ·have q:=relayAll_perm r m (SetTable.grown m.size);have y:=relayAll_fits r m (SetTable.grown m.size);have z:=je7 (t:=r) m (SetTable.grown m.size);generalize N_ r m (SetTable.grown m.size)=L at q y z ⊢;obtain⟨B,Q,ae⟩:=L;dsimp only at q y z ⊢;have hz:B.size=m.size:=by have:=q.length_eq;simpa using this
  refine BX (hg _ _ _ ?_);refine BX (bR U rfl ?_ (JC (by lia)));refine DN (h _ _ (G.trans (Heap.SameBut.update _ a _)) (wG (s:={s with heap:=s.heap.update a (Obj.putSet m r)}) U rfl) ⟨B,_,Q,hex,rfl,J.perm q,(Xy q).nodup_iff.mpr I,λk=>((Xy q).mem_iff).trans (C k),by lia,y,z.1,z.2.trans F⟩ λY aa t3 e=>by cases e;exact hz)
 ·exact DN (h _ _ G U ⟨m,_,r,hex,rfl,J,I,C,hb,hf,hT,F⟩ λY aa t3 e=>by cases e;rfl)
theorem wl2{k:Int}{tk:Tok}{o:GJ}{Q:Bool->BJ->Prop}(ho:s.heap.get? a=some o)(hS:Sv prog w ns o)(aa:(∀es ep t,o.data=.set es ep t->es.size+1<JX))
  (h:∀b h' o',Heap.SameBut a s.heap h'->h'.get? a=some o'->Sv prog w (k::ns) o'->(∀es ep t es' au t',o.data=.set es ep t->o'.data=.set es' au t'->es'.size<=es.size+1)->Q b {s with heap:=h'}):
  BP (BV prog w) A (setAddHashed a (.int k tk) (TX k)) Q E s:=by
 obtain⟨es,ep,t,hex,hd,F,ag,G,hb,hf,hT,I⟩:=hS;have ax:=aa es ep t hd;have U:(IV prog w).is k (.int k tk)=true:=bO prog w k tk;unfold setAddHashed setAddHashedIn;refine DK (BX (JB ho hd hf ?_));dsimp only;rw[byScan_of (knd:=IV prog w) (x:=.int k tk) rfl hb F];simp only[if_true];unfold setAddByScan;refine BX ?_;refine BX (wpAny_rule ?_);refine BX (wpAny_setScan_of (knd:=IV prog w) (k:=k) U ho hd hf F ?_);cases hr:List.findIdx? (λe=>(IV prog w).is k e.2) es.toList with
 |some j =>
  dsimp only;have⟨hj,hp,_⟩:=List.findIdx?_eq_some_iff_getElem.mp hr;have ar:k∈Jz es:=HX.mpr ⟨_,RB hj,(jj9 F (RB hj)).mp hp⟩;refine DN (DN ?_);have:=h false s.heap o (Heap.SameBut.refl a s.heap) ho ⟨es,ep,t,hex,hd,F,ag,λk'=>(G k').trans ⟨IK _,λz=>(HN.mp z).elim (λq=>by rw[q];exact(G k).mp ar) id⟩,hb,hf,hT,I⟩ (λC ay t1 ab aq t2 e1 e2=>by
   rw[e1]at e2;cases e2;lia)
  exact this
 |none =>
  dsimp only;have af:k∉Jz es:=λz=>by have⟨e,he,q⟩:=HX.mp z;have:=List.findIdx?_eq_none_iff.mp hr e he;rw[(jj9 F he).mpr q]at this;cases this
  have m:=layNew_perm t es (TX k) (.int k tk);have B:=layNew_fits t es (TX k) (.int k tk);have r:=js7 hT es (TX k) (.int k tk);generalize jG t es (TX k) (.int k tk)=L at m B r ⊢;obtain⟨C,t1,wd,ak⟩:=L;dsimp only at m B r ⊢;rw[jHv]at m;have Y:TY (IV prog w) C.toList:=(F.push (knd:=IV prog w) U rfl).perm m;have ae:(Jz C).Perm (Jz es++[k]):=by have:=m.map λe:Int×A_=>intOf e.2;rw[QQ]at this;exact this
  have ah:(Jz C).Nodup:=ae.nodup_iff.mpr (gY.mpr ⟨ag,by simp,λx hx y hy=>by
   rw[JG]at hy;rintro rfl;exact af (hy ▸ hx)⟩)
  have ai:∀k',k'∈Jz C↔k'∈k::ns:=λk'=>by rw[ae.mem_iff,KC,JG,HN,G,or_comm]
  have aw:C.size=es.size+1:=by have:=m.length_eq;simpa using this
  have aj:C.size<JX:=by lia
  have hg:∀(b:Bool){s1:BJ}{Q':Unit->BJ->Prop},Q' () s1->BP (BV prog w) A (match b with |true=>rule "set.scan.the-table-gave-way" |false=>pure ()) Q' E s1:=λb s1 Q' J=>by cases b<;>first |exact DN J |exact wpAny_rule J
  refine BX (hg ak ?_);have ao:∀h' o',Heap.SameBut a s.heap h'->h'.get? a=some o'->Sv prog w (k::ns) o'->(∀ab aq t2,o'.data=.set ab aq t2->ab.size=C.size)->Q true {s with heap:=h'}:=λh' o' x1 x2 x3 x4 =>
   h true h' o' x1 x2 x3 λe1 p1 q1 e2 p2 q2 y1 y2=>by rw[hd]at y1;cases y1;have:=x4 _ _ _ y2;lia
  split
  ·rw[hashByValue_scannable 8 (x:=.int k tk) rfl];refine BX (DN ?_);simp only[plainKind,if_true];exact set_tail (ns:=k::ns) (λb s1 Q' J=>by cases b<;>first |exact DN J |exact wpAny_rule J) ho hex hd Y ah ai aj B r.1 (r.2.trans I) λh' o' x1 x2 x3 x4=>DN (ao h' o' x1 x2 x3 x4)
  ·refine BX (DN ?_);simp only[if_true];exact set_tail (ns:=k::ns) (λb s1 Q' J=>by cases b<;>first |exact DN J |exact wpAny_rule J) ho hex hd Y ah ai aj B r.1 (r.2.trans I) λh' o' x1 x2 x3 x4=>DN (ao h' o' x1 x2 x3 x4)
end
def Ph:Slot "set_iterator" "__next__" "set_iterator.__next__":=.of (owner:="set_iterator") (n:="__next__") (by rw[e_,YW];kernel_rfl) (by decide +kernel) (by decide +kernel) (by decide +kernel) (by first |exact .inl (by decide +kernel) |exact .inr (by decide +kernel)) (by rw[VF];kernel_rfl)
def R7(a:A_):YH "set_iterator.__next__" ⟨[a],[]⟩:=by unfold YH;kernel_rfl
def Yh(a:A_):YH "set.__iter__" ⟨[a],[]⟩:=by unfold YH;kernel_rfl
def Qd:lR table "set_iterator.__next__" = some GZ.«set_iterator.__next__»:=entryFor_of_tree (by kernel_rfl)
def Xj:lR table "set.__iter__" = some GZ.«frozenset.__iter__» :=
 lQ (id':="frozenset.__iter__") (by kernel_rfl) (by first |rfl |decide +kernel | (unfold String.splitOn;simp +decide [String.splitOnAux])) (by decide +kernel) (by kernel_rfl)
def Qj{m:Type}:∀{xs:List m}{i:Nat}(h:i<xs.length),(xs[i]::xs.eraseIdx i).Perm xs
 |x::xs,0,_=>.refl _
 |x::xs,i+1,h=>by
  have h':i<xs.length:=by simpa using h
  show(xs[i]::x::xs.eraseIdx i).Perm (x::xs);exact(List.Perm.swap _ _ _).trans (.cons x (Qj h'))
def wp_choose{src:Source}{Q:Nat->BJ->Prop}(m:0<n)(h:∀i q,i<n->Q i {s with drawn:=q}):BP M A (choose src n) Q E s:=
 λ_ _ _=>⟨TJ m,h _ _ (Nat.mod_lt _ m)⟩
theorem Su{q:Type}:∀(n:Nat)(xs:List q){s:BJ}{Q:List q->BJ->Prop},n=xs.length->(∀ys r,ys.Perm xs->Q ys {s with drawn:=r})->BP M A (drawOrder n xs) Q E s
 |0,xs,s,Q,e,h=>by
  cases xs with
  |nil=>exact DN (h [] s.drawn (.refl _))
  |cons _ _=>simp at e
 |n+1,[],s,Q,e,h=>by simp at e
 |n+1,x::xs,s,Q,e,h=>by unfold drawOrder;refine BX (wp_choose (by simp) λi r m=>?_);have z:(x::xs)[i]? = some (x::xs)[i]:=GK m;rw[z];dsimp only;refine BX (Su n _ (by rw[jFw m];lia) λys B y=>DN (h _ B ?_));exact(List.Perm.cons _ y).trans (Qj m)
def T4{Q:Bool->BJ->Prop}(h:Q (M.w.params.followText "set-order") s):BP M A setsByText Q E s:=BX (RG (DN h))
theorem Zw{q:Type}(f:Nat->Nat):∀(n k:Nat)(xs:List q)(out:Array q),n=xs.length->(pickOrder.go f n k xs out).toList.Perm (out.toList++xs)
 |0,k,xs,out,e=>by
  cases xs with
  |nil=>unfold pickOrder.go;simp
  |cons _ _=>simp at e
 |n+1,k,xs,out,e=>by unfold pickOrder.go;have m:f k % xs.length<xs.length:=Nat.mod_lt _ (by lia);rw[GK m];dsimp only;refine(Zw f n (k+1) _ _ (by rw[jFw m];lia)).trans ?_;rw[jHv,NB];exact List.Perm.append_left _ (Qj m)
def W3{m:Type}(f:Nat->Nat)(xs:Array m):(WY f xs).toList.Perm xs.toList:=by have:=Zw f xs.size 0 xs.toList #[] (by simp);simpa[WY] using this
def gB(w:CW)(S:BK)(es:Array (Int×A_))(ep:Nat)(t:SetTable)(h:CK)(first:A_)(i:Nat)(ord:List (Int×A_)):Prop:=
 (w.params.followText "set-order" = true/\(∃m:Nat,first=CQ m)/\ord=(WY (w.params.setOrder S ep) es).toList) \/
 (w.params.followText "set-order" = false/\((!t.plain && decide (es.size>1))=false/\t.led=true/\Ris t.place)/\ord=es.toList/\first=CQ ((if i=0 then 0 else t.place.getD (i - 1) 0+1:Nat):Int)) \/
 (w.params.followText "set-order" = false/\∃(T:BK)(o:GJ)(pl:List Nat)(n:Nat),first=.ref T/\h.get? T=some o/\o.data=.seq (TF (pl.map λ(k:Nat)=>CQ (k:Int))) n/\pl.length=es.size/\(∀k∈pl,k<es.size)/\ord=pl.map λk=>es.getD k (0,.none))
def SIt(w:CW)(S I:BK)(fp:List BK)(ord:List (Int×A_))(i:Nat)(s:BJ):Prop:=∃o es ep t first,s.heap.get? S=some o/\o.data=.set es ep t/\t.fits es.size=true/\ord.length=es.size /\
 s.heap.get? I=some {cls:=.type "set_iterator",data:=.fields #[first,CQ (i:Int),.ref S,CQ (es.size:Int),CQ (ep:Int)] }/\gB w S es ep t s.heap first i ord/\(∀T,first=.ref T->T∈fp)
section
variable {S I:BK}{r:List (Int×A_)}
theorem X4{o:GJ}{es:Array (Int×A_)}{t:SetTable}{first:A_}{slot:Nat}{Q:Option (A_×Nat)->BJ->Prop}(hS:s.heap.get? S=some o)(hd:o.data=.set es ep t)(U:t.fits es.size=true)(hl:r.length=es.size)(hi:i<=r.length)
  (hm:gB w S es ep t s.heap first i r)(hs:first=CQ (slot:Int))
  (h:∀next:Nat,(i<r.length->gB w S es ep t s.heap (CQ (next:Int)) (i+1) r)->Q ((r[i]?).map λe=>(e.2,next)) s):BP (BV prog w) A (bZ S slot i ep) Q E s:=by
 unfold bZ;refine BX (JB hS hd U ?_);dsimp only;refine BX (T4 ?_);rcases hm with ⟨J,_,L⟩ | ⟨J,⟨Y,G,B⟩,L,F⟩ | ⟨J,T,o',pl,n,F,_⟩
 ·rw[show(BV prog w).w.params.followText "set-order" = true from J];simp only[if_true];have e1:(ep != ep)=false:=by simp
  rw[e1];simp only[WN,if_false];unfold setWalk;refine BX (BX (JB hS hd U ?_));dsimp only;refine BX (T4 ?_);rw[show(BV prog w).w.params.followText "set-order" = true from J];simp only[if_true];refine BX (RG (DN (DN ?_)));have:=h slot λ_=>.inl ⟨J,⟨slot,rfl⟩,L⟩;rw[L,g_]at this;exact this
 ·rw[show(BV prog w).w.params.followText "set-order" = false from J];simp only[WN,if_false];show BP _ _ (if(!t.plain && decide (es.size>1))=true then _ else _) _ _ s;rw[Y];simp only[WN,if_false];show BP _ _ ((if(!t.led && !es.isEmpty)=true then unsupported "set:maker-not-led" else pure ()) >>= _) _ _ s;rw[G];simp only[lB,p8,WN,if_false];refine BX (DN (DN ?_));have aa:t.place.size=es.size:=by unfold SetTable.fits at U;simp at U;exact U.1
  have m:slot=if i=0 then 0 else t.place.getD (i - 1) 0+1:=by
   rw[hs]at F;have:(slot:Int)=((if i=0 then 0 else t.place.getD (i - 1) 0+1:Nat):Int):=by injection F
   exact Int.ofNat.inj this
  have hb:SetTable.below t.place slot=i:=by
   refine dG (λb1 b2 b3=>?_) (Vp B slot);rcases Nat.lt_trichotomy (SetTable.below t.place slot) i with z |z |z
   ·have C:SetTable.below t.place slot<t.place.size:=by lia
    have y:=b3 _ (F_ _) C;rw[if_neg (by lia)]at m;by_cases q:SetTable.below t.place slot=i - 1
    ·rw[q]at y;lia
    ·have:=B.lt (i:=SetTable.below t.place slot) (j:=i - 1) (by lia) (by lia);lia
   ·exact z
   ·have y:=b2 i z;by_cases q:i=0
    ·rw[if_pos q]at m;lia
    ·rw[if_neg q]at m;have:=B.lt (i:=i - 1) (j:=i) (by lia) (by lia);lia
  rw[hb];have:=h (t.place.getD i 0+1) λC=>.inr (.inl ⟨J,⟨Y,G,B⟩,L,by simp⟩);rw[L]at this;by_cases C:i<es.size
  ·have hp:i<t.place.size:=by lia
   rw[YB C,YB hp];have e1:es.toList[i]? = some es[i]:=by simp[C]
   have e2:t.place.getD i 0=t.place[i]:=by simp[Array.getD,hp]
   rw[e1,e2]at this;exact this
  ·rw[Array.getElem?_eq_none (by lia)];have e1:es.toList[i]? = none:=by simp;lia
   rw[e1]at this;exact this
 ·rw[F]at hs;cases hs
theorem wl5{Q:Option A_->BJ->Prop}(st:SIt w S I fp r i s)(hi:i<r.length)(ab:S≠I)(ai:∀T∈fp,T≠I)
  (h:∀h',Heap.SameBut I s.heap h'->SIt w S I fp r (i+1) {s with heap:=h'}->Q (some r[i].2) {s with heap:=h'}):BP (BV prog w) A (IW (.ref I)) Q E s:=by
 revert st;refine fP λo es ep t first hS hd U hl z hm L=>?_
 have hT:s.TypeIs (.ref I) "set_iterator":=⟨_,z,rfl⟩;unfold IW;refine BX (GR (C_ (name:=Str.ofString "__next__") hT Ph (CZ Ph hT Qd ?_ (R7 _))));show BP _ _ (fieldsOf (.ref I) >>= _) _ _ s;refine BX (NZ z rfl ?_);show BP _ _ (aN S >>= _) _ _ s;refine BX (QB hS hd U ?_);have e0:((es.size:Int) != (es.size:Int))=false:=by simp
 rw[e0];simp only[WN,if_false];have ag:i<=r.length:=cD hi;by_cases q:∃T,first=.ref T
 ·obtain⟨T,rfl⟩:=q;rcases hm with ⟨_,⟨m,e⟩,_⟩ | ⟨_,_,_,e⟩ | ⟨hw,T',o',pl,n,e,aa,Y,G,F,ho⟩
  ·cases e
  ·cases e
  ·cases e;refine BX (FQ aa Y ?_);dsimp only;have J:i<pl.length:=by lia
   have e1:(TF (pl.map λ(k:Nat)=>CQ (k:Int)))[(i:Int).toNat]? = some (CQ (pl[i]:Int)):=by simp[J]
   rw[e1];show BP _ _ (setNextDrawn S (pl[i]:Int).toNat (ep:Int).toNat >>= _) _ _ s;simp only[YL];have hk:pl[i]<es.size:=F _ (RB J);unfold setNextDrawn;refine BX (BX (JB hS hd U ?_));dsimp only;rw[show(ep != ep)=false by simp,YB hk];simp only[WN,if_false];refine DN ?_;refine BX (DW z rfl (by simp) ?_);have C:=Heap.SameBut.update s.heap I (Obj.mapFields (·.setIfInBounds 1 (CQ ((i:Int)+1))));refine DN ⟨_,rfl,DN ?_⟩;have eo:r[i].2=es[pl[i]].2:=by subst ho;simp[Array.getD,hk]
   rw[<-eo];refine h _ C ⟨o,es,ep,t,.ref T,(C.2 S ab).trans hS,hd,U,hl,?_,.inr (.inr ⟨hw,T,o',pl,n,rfl,(C.2 T (ai T (L T rfl))).trans aa,Y,G,F,ho⟩),L⟩;have:=ZK (Obj.mapFields (·.setIfInBounds 1 (CQ ((i:Int)+1)))) z rfl;simpa[Obj.mapFields] using this
 ·obtain⟨m,ah⟩:∃m:Nat,first=CQ (m:Int):=by
   rcases hm with ⟨_,e,_⟩ | ⟨_,_,_,e⟩ | ⟨_,T,_,_,_,e,_⟩
   ·exact e
   ·exact⟨_,e⟩
   ·exact absurd ⟨T,e⟩ q
  subst ah;show BP _ _ (bZ S (m:Int).toNat (i:Int).toNat (ep:Int).toNat >>= _) _ _ s;simp only[YL];refine BX (X4 hS hd U hl ag hm rfl λnext y=>?_);rw[GK hi];show BP _ _ (UL (.ref I) 0 (CQ (next:Int)) >>= _) _ _ s;refine BX (DW z rfl (by simp) ?_);have C:=Heap.SameBut.update s.heap I (Obj.mapFields (·.setIfInBounds 0 (CQ (next:Int))));have ae:=ZK (Obj.mapFields (·.setIfInBounds 0 (CQ (next:Int)))) z rfl;refine BX (DW (s:={s with heap:=s.heap.update I (Obj.mapFields (·.setIfInBounds 0 (CQ (next:Int))))}) ae rfl (by simp) ?_);have af:=Heap.SameBut.update (s.heap.update I (Obj.mapFields (·.setIfInBounds 0 (CQ (next:Int))))) I (Obj.mapFields (·.setIfInBounds 1 (CQ ((i:Int)+1))));have aj:=ZK (Obj.mapFields (·.setIfInBounds 1 (CQ ((i:Int)+1)))) ae rfl;refine DN ⟨_,rfl,DN ?_⟩;have B:=C.trans af;refine h _ B ⟨o,es,ep,t,CQ (next:Int),(B.2 S ab).trans hS,hd,U,hl,?_,?_,λT e=>by cases e⟩
  ·simpa[Obj.mapFields] using aj
  ·rcases y hi with x |x | ⟨_,T,_,_,_,e,_⟩
   ·exact .inl x
   ·exact .inr (.inl x)
   ·cases e
theorem wl4{Q:Option A_->BJ->Prop}(hh:A.handled=none)(st:SIt w S I fp r r.length s)(h:∀h',kO I s.heap h'->Q none {s with heap:=h'}):BP (BV prog w) A (IW (.ref I)) Q E s:=by
 revert st;refine fP λo es ep t first hS hd hf hl y C ae=>?_
 have hT:s.TypeIs (.ref I) "set_iterator":=⟨_,y,rfl⟩;unfold IW;refine BX (GR (C_ (name:=Str.ofString "__next__") hT Ph (CZ Ph hT Qd ?_ (R7 _))));show BP _ _ (fieldsOf (.ref I) >>= _) _ _ s;refine BX (NZ y rfl ?_);show BP _ _ (aN S >>= _) _ _ s;refine BX (QB hS hd hf ?_);have e0:((es.size:Int) != (es.size:Int))=false:=by simp
 rw[e0];simp only[WN,if_false];have stop:∀(U:CK),Heap.SameBut I s.heap U->BP (BV prog w) A.in1 (XS (.type "StopIteration") [] >>= λe=>(raiseNew e:Sem PySem.Fin)) (λY B=>∃v,Y=PySem.Fin.done (Flow.ret v)/\BP (BV prog w) A (pure (some v)) Q E B)
   (λe B=>BP (BV prog w) A (do if(<-isInstance e (.type "StopIteration"))=true then pure none else throw e) Q E B) {s with heap:=U}:=λU z=>by
  refine BX ?_;simp only[XS,jC];refine BX (CG ?_ (by size_fits));refine BX (m:=JD _ _) (RP (a:=Value.none) (by first |rfl | (simp only[JD];rfl)) ?_);refine CG ?_ (by size_fits);simp only[raiseNew];refine BX (V_ ?_);rw[show A.in1.handled=none from hh];refine BX (DN (YX ?_));refine BX (JL (T:="StopIteration") (b:=true) ⟨_,KD _ rfl,rfl⟩ VG ?_);exact DN (h _ ((z.extBut.push _).push _))
 by_cases q:∃T,first=.ref T
 ·obtain⟨T,rfl⟩:=q;rcases C with ⟨_,⟨m,e⟩,_⟩ | ⟨_,_,_,e⟩ | ⟨hw,T',o',pl,n,e,J,G,aa,ab,ho⟩
  ·cases e
  ·cases e
  ·cases e;refine BX (FQ J G ?_);dsimp only;have e1:(TF (pl.map λ(k:Nat)=>CQ (k:Int)))[((r.length:Nat):Int).toNat]? = none:=by simp;lia
   rw[e1];refine BX (DW y rfl (by simp) ?_);have z:=Heap.SameBut.update s.heap I (Obj.mapFields (·.setIfInBounds 0 (CQ 0)));have L:=ZK (Obj.mapFields (·.setIfInBounds 0 (CQ 0))) y rfl;refine BX (DW (s:={s with heap:=s.heap.update I (Obj.mapFields (·.setIfInBounds 0 (CQ 0)))}) L rfl (by simp) ?_);exact stop _ (z.trans (Heap.SameBut.update _ I _))
 ·obtain⟨m,F⟩:∃m:Nat,first=CQ (m:Int):=by
   rcases C with ⟨_,e,_⟩ | ⟨_,_,_,e⟩ | ⟨_,T,_,_,_,e,_⟩
   ·exact e
   ·exact⟨_,e⟩
   ·exact absurd ⟨T,e⟩ q
  subst F;show BP _ _ (bZ S (m:Int).toNat ((r.length:Nat):Int).toNat (ep:Int).toNat >>= _) _ _ s;simp only[YL];refine BX (X4 hS hd hf hl (F_ _) C rfl λnext _=>?_);rw[aD (F_ _)];show BP _ _ (UL (.ref I) 2 Value.none >>= _) _ _ s;refine BX (DW y rfl (by simp) ?_);exact stop _ (Heap.SameBut.update _ I _)
end
def vR:Slot "set_iterator" "__iter__" "set_iterator.__iter__":=.of (owner:="set_iterator") (n:="__iter__") (by rw[e_,YW];kernel_rfl) (by decide +kernel) (by decide +kernel) (by decide +kernel) (by first |exact .inl (by decide +kernel) |exact .inr (by decide +kernel)) (by rw[VF];kernel_rfl)
def jf0(a:A_):YH "set_iterator.__iter__" ⟨[a],[]⟩:=by unfold YH;kernel_rfl
def Yi:lR table "set_iterator.__iter__" = some GZ.«dict_keyiterator.__iter__» :=
 lQ (id':="dict_keyiterator.__iter__") (by kernel_rfl) (by first |rfl |decide +kernel | (unfold String.splitOn;simp +decide [String.splitOnAux])) (by decide +kernel) (by kernel_rfl)
def kg4{t:SetTable}(h:t.fits n=true):t.place.size=n:=by unfold SetTable.fits at h;simp at h;exact h.1
def kj4{p:Array Nat}(h:p.size<=1):Ris p:=by
 unfold Ris;obtain⟨l⟩:=p
 match l,h with
 | [],_=>exact .nil
 | [x],_=>simp
 |x::y::r,h=>simp at h
variable {Q:A_->BJ->Prop}
theorem jo9{S:BK}{o:GJ}(U:s.heap.get? S=some o)(hD:Sv prog w ns o)
  (h:∀(h':CK) d' ord I fp es ep t,o.data=.set es ep t->ord.Perm es.toList->(∀b u,s.heap.get? b=some u->h'.get? b=some u)->s.heap.objs.size<=I->I<h'.objs.size->S≠I->(∀T∈fp,T≠I/\s.heap.objs.size<=T/\T<h'.objs.size)->SIt w S I fp ord 0 {s with heap:=h',drawn:=d'}->Q (.ref I) {s with heap:=h',drawn:=d'}):
  BP (BV prog w) A (UT (.ref S)) Q E s:=by
 revert hD;refine yl8 λes ep t hex hd ak aj ah hb hf hT Y=>?_;have aa:s.TypeIs (.ref S) "set":=⟨o,U,hex.1⟩;have ae:S<s.heap.objs.size:=HB U;refine QT aa F.slot_set_iter (CZ F.slot_set_iter aa Xj ?_ (Yh _));show BP _ _ ((do return (<-aN S).size:Sem Nat) >>= _) _ _ s;refine BX (BX (QB U hd hf (DN ?_)));refine BX (BX (JB U hd hf ?_));dsimp only;refine BX (T4 (DN ?_));have mk:∀(B:CK)(d':mF)(first:A_)(ord:List (Int×A_))(fp:List BK),(∀b u,s.heap.get? b=some u->B.get? b=some u)->s.heap.objs.size<=B.objs.size->(∀T∈fp,s.heap.objs.size<=T/\T<B.objs.size)->(∀T,first=.ref T->T∈fp)->ord.Perm es.toList ->
   (∀h2:CK,(∀b u,B.get? b=some u->h2.get? b=some u)->gB w S es ep t h2 first 0 ord) ->
   BP (BV prog w) A.in1 (setEpoch S >>= λe=>cU "set_iterator" [first,CQ 0,.ref S,CQ (es.size:Int),CQ (e:Int)] >>= λv=>ret v) (λag s'=>∃v,ag=PySem.Fin.done (Flow.ret v)/\∃T' r,s'.TypeIs v T'/\typeLookup (.type T') "__next__" = pure (some r)/\Q v s') E {s with heap:=B,drawn:=d'}:=by
  intro B d' first ord fp k1 hz L af G hm
  refine BX (wpAny_setEpoch_of (k1 _ _ U) hd hf ?_);unfold cU;refine BX (CG ?_ (by size_fits));have hI:(B.push {cls:=.type "set_iterator",data:=.fields #[first,CQ 0,.ref S,CQ (es.size:Int),CQ (ep:Int)] }).get? B.objs.size=some {cls:=.type "set_iterator",data:=.fields #[first,CQ 0,.ref S,CQ (es.size:Int),CQ (ep:Int)] }:=KD _ rfl;refine DN ⟨_,rfl,"set_iterator",_,⟨_,hI,rfl⟩,Ph.lookup,?_⟩;have m:=G.length_eq;refine h _ d' ord B.objs.size fp es ep t hd G (λb u e=>JH _ (k1 b u e)) hz (by rw[RX];exact cH _) (JW (PX ae hz)) (λT y=>⟨JW (L T y).2,(L T y).1,by rw[RX];exact aB (L T y).2⟩) ?_;exact⟨o,es,ep,t,first,JH _ (k1 _ _ U),hd,hf,by simpa using m,hI,hm _ λb u e=>JH _ e,af⟩
 have ai:=kg4 hf;have C:w.params.followText "set-order" = false->(!t.plain && decide (es.size>1))=false->gB w S es ep t s.heap (CQ 0) 0 es.toList:=λJ q=>.inr (.inl ⟨J,⟨q,by rw[Y,J];rfl,by
  cases G:t.plain with
  |true=>exact hT.ris G
  |false =>
   rw[G]at q;simp at q;exact kj4 (by lia)⟩,rfl,rfl⟩)
 cases J:w.params.followText "set-order" with
 |true=>rw[show(BV prog w).w.params.followText "set-order" = true from J];simp only[lB,p8,WN,if_false];refine BX (DN ?_);exact mk s.heap s.drawn (CQ 0) (WY (w.params.setOrder S ep) es).toList [] (λ_ _ e=>e) (F_ _) (λ_ z=>nomatch z) (λT e=>by cases e) (W3 _ _) λh2 _=>.inl ⟨J,⟨0,rfl⟩,rfl⟩
 |false =>
  rw[show(BV prog w).w.params.followText "set-order" = false from J];show BP _ _ (if(!false && (!t.plain && decide (es.size>1)))=true then _ else _) _ _ s;cases q:(!t.plain && decide (es.size>1)) with
  |false =>
   simp only[lE,WN,if_false];refine BX (DN ?_);refine mk s.heap s.drawn (CQ 0) es.toList [] (λ_ _ e=>e) (F_ _) (λ_ z=>nomatch z) (λT e=>by cases e) (.refl _) λh2 _=>?_;rcases C J q with x |x | ⟨_,T,_,_,_,e,_⟩
   ·exact .inl x
   ·exact .inr (.inl x)
   ·cases e
  |true =>
   simp only[jIl,Bool.and_self,if_true];refine BX (Su es.size _ (by simp) λpl d' G=>?_);have m:pl.length=es.size:=by have:=G.length_eq;simpa using this
   have ab:∀k∈pl,k<es.size:=λk hk=>H_.mp (G.mem_iff.mp hk);refine BX (NT ?_ (by rw[GP,m];exact JC hb));refine mk _ d' (.ref s.heap.objs.size) (pl.map λk=>es.getD k (0,.none)) [s.heap.objs.size] (λb u e=>JH _ e) (by rw[RX];exact gD _) (λT y=>?_) (λT e=>by cases e;simp) ?_ λh2 k2=>.inr (.inr ⟨J,s.heap.objs.size,_,pl,_,rfl,k2 _ _ (KD _ rfl),rfl,m,ab,rfl⟩)
   ·rw[JG.mp y,RX];exact⟨F_ _,cH _⟩
   ·refine(G.map λk=>es.getD k (0,.none)).trans (List.Perm.of_eq ?_);apply bI
    ·simp
    ·intro i B h2;have hi:i<es.size:=by simpa using B
     simp[Array.getD,hi]
variable {I:BK}
def wb1{S:BK}{ord:List (Int×A_)}(hh:A.handled=none)(hSI:S≠I)(hIf:∀T∈fp,T≠I):
  WalksS prog w A I (I::S::fp) [I] (λa b=>b=a) ord.length (λi v=>(ord[i]?).map (·.2)=some v) (λi s=>SIt w S I fp ord i s) where
 sub:=λb hb=>by rw[JG.mp hb];exact JK ..
 grefl:=λ_=>rfl
 gtrans:=λ_ _ _ h1 h2=>h2.trans h1
 frame:=λi s h' tk st _ k=>by
  revert st;refine fP λo es ep t first hS hd hf hl hI hm hfp=>?_
  refine⟨o,es,ep,t,first,k S (by simp) _ hS,hd,hf,hl,k I (by simp) _ hI,?_,hfp⟩;rcases hm with x |x | ⟨hw,T,o',pl,n,e,hT,r⟩
  ·exact .inl x
  ·exact .inr (.inl x)
  ·exact .inr (.inr ⟨hw,T,o',pl,n,e,k T (IK _ (IK _ (hfp T e))) _ hT,r⟩)
 item:=λi s Q E hi st h=>wl5 st hi hSI hIf λh' sb st'=>h _ _ (by rw[GK hi];rfl) st' ⟨λb o hb e=>sb.extBut b o (λz=>hb (by simp[z])) e,rfl,rfl,rfl,F_ _⟩
 done:=λs Q E st h=>wl4 hh st λh' eb=>h _ ⟨λb o hb e=>eb b o (λz=>hb (by simp[z])) e,rfl,rfl,rfl,F_ _⟩
 self:=λi s Q E st h=>by
  revert st;refine fP λo es ep t first hS hd hf hl hI hm hfp=>?_
  have hT:s.TypeIs (.ref I) "set_iterator":=⟨_,hI,rfl⟩;refine QT hT vR (CZ vR hT Yi ?_ (jf0 _));show BP _ _ (ret (.ref I)) _ _ s;exact DN ⟨_,rfl,"set_iterator",_,hT,Ph.lookup,h⟩
def tR(ns:List Int)(vs:List A_):Prop:=∃m:List Int,FP vs m/\m.Nodup/\(∀k,k∈m↔k∈ns)/\vs.length<JX
def ks3{es:List (Int×A_)}(h:TY (IV P w) es):FP (es.map (·.2)) (es.map λe=>intOf e.2):=by
 induction es with
 |nil=>exact .nil
 |cons e es m=>obtain⟨⟨j,q,_⟩,_⟩:=h.head;have⟨t,r⟩:=Value.isInt_shape (k:=j) (v:=e.2) q;rw[HJ,HJ,r];exact .cons j t (m h.tail)
theorem kn9{S:BK}{o:GJ}(hh:A.handled=none)(hS:s.heap.get? S=some o)(hD:Sv prog w ns o):bB prog w A s (.ref S) (tR ns):=by
 intro Q E q;have bg:s.TypeIs (.ref S) "set":=by obtain⟨es,ep,t,hex,_⟩:=hD;exact⟨o,hS,hex.1⟩
 have ba:S<s.heap.objs.size:=HB hS;unfold cO;refine BX (UG (GQ F.entry_proto_collect ?_));rw[Around.under_plainId F.plain_proto_collect _];show BP _ A.in1 (XR [] >>= λl=>again (.builtin "list.__iadd__" ⟨[l,.ref S],[]⟩)) _ _ s;refine BX (CG ?_);refine DN ⟨LC F.plain_list_iadd _,GQ F.entry_list_iadd ?_⟩;rw[Around.under_plainId F.plain_list_iadd _];generalize eh:s.heap.push {cls:=.type "list",data:=.seq ([]:List A_).toArray}=h1;have k1:∀b u,s.heap.get? b=some u->h1.get? b=some u:=λb u e=>by rw[<-eh];exact JH _ e
 have ab:h1.objs.size=s.heap.objs.size+1:=by rw[<-eh,RX]
 have hL:h1.get? s.heap.objs.size=some {cls:=.type "list",data:=.seq #[] 0}:=by rw[<-eh];exact KD _ rfl
 have ak:s.heap.objs.size≠S:=TJ ba;show BP _ A.in1 (Builtin.List.listExtendWith (.ref s.heap.objs.size) (.ref S) (.ref s.heap.objs.size)) _ _ {s with heap:=h1};unfold Builtin.List.listExtendWith;have G:Shared.TypeIs {s with heap:=h1} (.ref S) "set":=by obtain⟨o',L,U⟩:=bg;exact⟨o',k1 _ _ L,U⟩
 refine BX (QS G ?_);have e1:Builtin.List.listSameRef (.ref s.heap.objs.size) (.ref S)=false:=by simp[Builtin.List.listSameRef,ak]
 rw[if_neg (by rw[e1];decide)];refine BX (jo9 (s:={s with heap:=h1}) (k1 _ _ hS) hD λh2 d' ord I fp es ep t hd hp k2 bp bu bh ai st=>?_);have B:Shared.TypeIs {s with heap:=h2,drawn:=d'} (.ref S) "set":=by obtain⟨o',L,U⟩:=G;exact⟨o',k2 _ _ L,U⟩
 have J:s.heap.objs.size+1<=I:=by rw[<-ab];exact bp
 refine BX (DK ?_);unfold Builtin.List.listLengthHint;refine BX (wpAny_specialOf B F.slot_set_len.lookup ?_);generalize ag:("set.__len__" : String)=ay
 wp_delta
 rw[show splitId ay=some ("set","__len__") from by subst ag;decide +kernel];subst ag;refine BX (JL (b:=true) B (by rw[VF];kernel_rfl) ?_);refine R_ (λz=>absurd z (by decide)) (λ_=>?_);refine R_ (λ_=>?_) (λz=>absurd (by decide +kernel) z);refine BX (QS B (DN ?_));refine R_ (λ_=>?_) (λz=>absurd (by decide +kernel) z);refine BX (wpAny_rule ?_);have au:h2.get? s.heap.objs.size=some {cls:=.type "list",data:=.seq #[] 0}:=k2 _ _ hL;have bo:s.heap.objs.size≠I:=JW (PX (cH _) J);have ao:s.heap.objs.size∉I::S::fp:=λz=>by
  rcases HN.mp z with z |z
  ·exact bo z
  ·rcases HN.mp z with z |z
   ·exact ak z
   ·have:=(ai _ z).2.1;have hz:s.heap.objs.size+1<=s.heap.objs.size:=by rw[<-ab];exact this
    exact absurd hz (Nat.not_succ_le_self _)
 have hW:WalksS prog w A.in1 I (I::S::fp) [I] (λa b=>b=a) ord.length (λi v=>(ord[i]?).map (·.2)=some v) (λi s=>SIt w S I fp ord i s):=wb1 (A:=A.in1) (by simpa using hh) bh λT hT=>(ai T hT).1;refine BX ?_;show BP _ _ (updateSeq s.heap.objs.size (·.push .none) >>= λ_=>updateSeq s.heap.objs.size (·.pop)) _ _ _;refine BX (eQ (s:={s with heap:=h2,drawn:=d'}) au rfl ?_);have ar:=ZK (Obj.mapSeq (·.push Value.none)) au rfl;refine eQ (s:={s with heap:=h2.update s.heap.objs.size (Obj.mapSeq (·.push Value.none)),drawn:=d'}) ar rfl ?_ (by show(#[]:Array A_).size+1<=_;rw[CV];simp) (by show 0<=_;exact WL _);have aq:=ZK (Obj.mapSeq (·.pop)) ar rfl;generalize bq:(h2.update s.heap.objs.size (Obj.mapSeq (·.push Value.none))).update s.heap.objs.size (Obj.mapSeq (·.pop))=h3 at aq;have k3:∀b u,b≠s.heap.objs.size->h2.get? b=some u->h3.get? b=some u:=λb u n e=>by rw[<-bq];exact(ZL _ _ (Ne.symm n)).trans ((ZL _ _ (Ne.symm n)).trans e)
 have aw:SIt w S I fp ord 0 {s with heap:=h3,drawn:=d'}:=hW.frame 0 _ h3 s.toks st (F_ _) λb hb u e=>k3 b u (λz=>ao (z ▸ hb)) e;obtain⟨es',bw,t',hex,bf,bb,az,af,hb,hf,hT,br⟩:=hD;rw[bf]at hd;cases hd;have r:ord.length=es.size:=by simpa using hp.length_eq
 refine DN ⟨LC F.plain_extend_loop _,codeAny_extend_loopS hW (by rw[r];exact JC hb) _ ao _ ord.length 0 _ _ _ rfl (WL _) aw aq (ItemsOf.nil _) λY C c' hm bj y=>?_⟩;show BP _ A (load s.heap.objs.size >>= _) _ _ Y;refine BX (aH bj ?_);have ev:C.toList=ord.map (·.2):=by
  apply jHw;intro i;by_cases hi:i<ord.length
  ·have ah:i<C.size:=by rw[y.1];exact hi
   have:=y.2 i C[i] (YB ah);rw[g_,YB ah,QR,this]
  ·rw[aD (by rw[ZG,y.1];lia),aD (by rw[GP];lia)]
 have aa:∀b u,s.heap.get? b=some u->Y.heap.get? b=some u:=λb u e=>by
  have m:b<s.heap.objs.size:=HB e;refine hm.heap b u (λz=>?_) (k3 b u (JW m) (k2 _ _ (k1 b u e)));rcases HN.mp z with z |z
  ·exact JW m z
  ·rw[JG.mp z]at m;exact absurd (PX m (qH J)) (SN _)
 have eqs:Y = {s with heap:=Y.heap,drawn:=d',toks:=Y.toks}:=by obtain⟨_,hg,bc,ho,_⟩:=hm;obtain⟨h',g',d2,bt,ax⟩:=Y;have x1:g'=s.gens:=hg;have x2:d2=d':=bc;have x3:ax=s.os:=ho;subst x1 x2 x3;rfl
 refine DN ?_;rw[eqs,ev];have aj:TY (IV prog w) ord:=bb.perm hp;have ae:(ord.map λe=>intOf e.2).Perm (Jz es):=hp.map _;exact q _ _ _ _ aa (by rw[GP,r];exact JC hb) ⟨_,ks3 aj,ae.nodup_iff.mpr az,λk=>ae.mem_iff.trans (af k),by rw[GP,r];exact hb⟩
def Nz(led:Bool):GJ:={cls:=.type "set",dict:=none,data:=.set #[] 0 (.fresh 0 0 led)}
def jr5:Sv prog w [] (Nz (!w.params.followText "set-order")):=
 ⟨#[],0,_,⟨rfl,rfl,rfl⟩,rfl,λe m=>by simp at m,by simp[Jz],λk=>by simp[Jz],by decide,(by show(SetTable.fresh 0 0 _).fits 0=true;cases w.params.followText "set-order" <;> decide),⟨rfl,λ_=>.nil⟩,rfl⟩
def wh9(a:A_)(h:Q (.ref s.heap.objs.size) {s with heap:=s.heap.push (Nz (!w.params.followText "set-order"))}):
  KN (BV prog w) A (.call (.builtin "set.__new__") ⟨[.type "set",a],[]⟩) (wants Q E) s:=by
 refine iC ?_;show BP _ A.in1 (checkBuiltinCall "set.__new__" ⟨[.type "set",a],[]⟩ >>= λ_=>again (.builtin "set.__new__" ⟨[.type "set",a],[]⟩)) _ _ s;refine BX (RP (F.newCall_set_1 a) (DN ⟨LC F.plain_set_new _,GQ F.entry_set_new ?_⟩));rw[Around.under_plainId F.plain_set_new _];unfold GZ.«set.__new__» Builtin.Frozenset.newClass;have sub:=sub_set_self;obtain⟨r,g,d,m,q⟩:=s;dsimp only
 wp_walk
 refine RG (DN ?_);dsimp only;simp only[newObj];refine BX (wpAny_alloc (DN ?_));exact DN h
theorem ky6{R:lW->BJ->Prop}{wr:List BK}{G:Array ZR->Array ZR->Prop}{P:Nat->A_->Prop}{St:Nat->BJ->Prop}(W:WalksS prog w A.in1 I fp wr G n P St)(S:BK)(J:S∉fp)(val:Nat->Int)(r:∀i v,P i v->∃t,v=.int (val i) t)(q:n+1<JX):
  ∀(k i:Nat)(s:BJ)(o:GJ),n - i=k->i<=n->St i s->s.heap.get? S=some o->Sv prog w ((List.range i).map val).reverse o->(∀es ep t,o.data=.set es ep t->es.size<=i) ->
   (∀m o',Moved (S::wr) G s m->m.heap.get? S=some o'->Sv prog w ((List.range n).map val).reverse o'->R (.ok (.ret .none)) m)->KN (BV prog w) A (.builtin "set.update.loop" ⟨[.ref S,.ref I],[]⟩) R s:=by
 have C:S∉wr:=λh=>J (W.sub _ h);have sub:∀b∈wr,b∈S::wr:=λb q=>IK _ q;intro k;induction k with
 |zero =>
  intro i s o hk hi st ho Y hz hR;have e:i=n:=by lia
  subst e;refine GQ PyProof.Rows.F.entry_set_update_loop ?_;rw[Around.under_plainId PyProof.Rows.F.plain_set_update_loop _];show BP _ A.in1 (IW (.ref I) >>= _) _ _ s;exact BX (W.done s _ _ st λm y=>DN (hR m o (y.mono sub) (y.heap S _ C ho) Y))
 |succ k ih =>
  intro i s o hk hi st ho Y hz hR;have lt:i<n:=by lia
  refine GQ PyProof.Rows.F.entry_set_update_loop ?_;rw[Around.under_plainId PyProof.Rows.F.plain_set_update_loop _];show BP _ A.in1 (IW (.ref I) >>= _) _ _ s;refine BX (W.item i s _ _ lt st λv m hP aa y=>?_);obtain⟨t,rfl⟩:=r i v hP;have ag:=y.heap S _ C ho;show BP _ A.in1 (MN [Value.int (val i) t] (setAdd S (.int (val i) t)) >>= _) _ _ m;refine BX (DK ?_);unfold setAdd;refine DK (BX ((IV prog w).pyHash (k:=val i) (bO _ _ _ _) ?_));refine wl2 (s:={m with toks:=m.toks+1}) ag Y (λes ep tb hd=>by have:=hz es ep tb hd;lia) λb h' o2 sb af ak ab=>?_;have aj:Sv prog w ((List.range (i+1)).map val).reverse o2:=by rw[dZ,QQ,List.reverse_append];exact ak
  refine DN ⟨LC PyProof.Rows.F.plain_set_update_loop _,ih (i+1) _ o2 (by lia) lt (W.frame _ m _ _ aa (gD _) λb q u e=>(sb.2 b λz=>J (z ▸ q)).trans e) af aj (λes ep tb hd=>?_) λs2 o3 ah ae ai=>?_⟩
  ·revert Y;refine dF λL U t0 _ B _=>?_;have x1:=hz L U t0 B;have x2:=ab L U t0 es ep tb B hd;lia
  ·refine hR s2 o3 (Moved.trans W.gtrans ((y.mono sub).then_heap (gD _) λb u q e=>?_) ah) ae ai;exact(sb.2 b λz=>q (by rw[z];exact JK ..)).trans e
theorem kn3{l:BK}(hh:A.handled=none)(hl:s.heap.IsList l items)(hi:FP items.toList ns)(hb:items.size+1<JX)
  (h:∀(h':CK)(tk:Nat)(o:GJ),h'.get? s.heap.objs.size=some o->Sv prog w ns o->(∀b u,s.heap.get? b=some u->h'.get? b=some u)->Q (.ref s.heap.objs.size) {s with heap:=h',toks:=tk}):
  BP (BV prog w) A (call (.type "set") [.ref l]) Q E s:=by
 obtain⟨c,tl,ak⟩:=F.called_set.mro;have made:=F.called_set.made;have ao:=F.called_set.sub;refine QH (iC ?_);show BP _ _ (callAny (.type "set") _) _ _ _;refine DN ⟨Code.quiet_builtin _ (by decide +kernel),GQ F.entry_type_call ?_⟩;rw[Around.under_plain (weight_type_call_type "set" [.ref l] []) rfl];have a1:=F.called_set.notType;have a2:=F.called_set.canCreate;have a3:=F.typeCall_set_1 (.ref l)
 repeat (any_goals (first |assumption |wp_step))
 refine HD (wh9 (.ref l) (E:=E) (Q:=λobj s1=>obj=.ref s.heap.objs.size/\s1 = {s with heap:=s.heap.push (Nz (!w.params.followText "set-order"))}) ⟨rfl,rfl⟩) λr s' hr=>?_;cases r with
 |error e=>exact hr
 |ok fl =>
  cases fl with
  |ret obj =>
   obtain⟨rfl,rfl⟩:=hr;generalize eh:s.heap.push (Nz (!w.params.followText "set-order"))=m;have k1:∀b u,s.heap.get? b=some u->m.get? b=some u:=λb u e=>by rw[<-eh];exact JH _ e
   have y:m.objs.size=s.heap.objs.size+1:=by rw[<-eh,RX]
   have g1:m.get? s.heap.objs.size=some (Nz (!w.params.followText "set-order")):=by rw[<-eh];exact KD _ rfl
   have hT:Shared.TypeIs {s with heap:=m} (.ref s.heap.objs.size) "set":=⟨_,g1,rfl⟩;have b1:=F.called_set.init.lookup;have b2:=F.called_set.init.bind (.ref s.heap.objs.size);clear eh
   repeat (any_goals (first |assumption |wp_step))
   refine HD (ZQ (R:=wants (λr s2=>r=.none/\∃h' tk o,s2 = {s with heap:=h',toks:=tk}/\h'.get? s.heap.objs.size=some o/\Sv prog w ns o/\∀b u,s.heap.get? b=some u->h'.get? b=some u) E) F.called_set.init.plain F.entry_set_init (check_set_init_1 hT ?_)) λr2 s2 z=>?_
   ·obtain⟨ol,C,Y,nl,U⟩:=hl;obtain⟨aj,af,ag,aa⟩:=ol;simp only at Y U;subst Y U;have B:=k1 _ _ C;have c1:=F.sub_list_set;have c2:=F.sub_list_frozenset;have c3:(Value.type "list" == Value.type "dict")=false:=by decide
    have L:m.IsList l items:=⟨_,B,rfl,nl,rfl⟩;unfold GZ.«set.__init__» noKeywords Builtin.Frozenset.updateFrom;generalize ai:UT=PI
    wp_walk
    subst ai;refine HR L (BX (UG ?_));have G:l<s.heap.objs.size:=HB C;have d1:A.in1.in1.in1.handled=none:=by simp[hh]
    have d2:l≠m.objs.size:=by rw[y];exact JW (aB G)
    have d3:s.heap.objs.size∉[m.objs.size,l]:=by rw[y];simp only[HN,JG,cG,or_false,not_or];exact⟨JW (cH _),TJ G⟩
    have d4:∀(i:Nat)(v:A_),items[i]? = some v->∃t,v=.int ((λi=>ns.getD i 0) i) t:=λi v hv=>IntsAre.int_at hi i v (by rw[g_];exact hv);refine ky6 ((Walks.list d1 _ l d2 items).toS) s.heap.objs.size d3 (λi=>ns.getD i 0) d4 hb (items.size - 0) 0 _ _ (by lia) (WL _) ⟨⟨_,KD _ rfl,rfl,rfl⟩,L.push _⟩ (JH _ g1) jr5 (λes ep t e=>by cases e;exact WL _) λs' o' hm ah hD=>?_;have en:((List.range items.size).map λi=>ns.getD i 0)=ns:=by
     have J:ns.length=items.size:=by have:=IntsAre.length hi;simpa using this.symm
     rw[<-J];apply bI
     ·simp
     ·intro i m h2;simp at m;simp[m]
    rw[en]at hD;obtain⟨h',g',d',ab,ae⟩:=s';have x1:g'=s.gens:=hm.gens;have x2:d'=s.drawn:=hm.drawn;have x3:ae=s.os:=hm.os;subst x1 x2 x3;show BP _ _ _ _ _ _;refine DN ?_;show BP _ _ (ret Value.none) _ _ _;refine DN ⟨rfl,h',ab,o',rfl,ah,?_,λb u e=>?_⟩
    ·obtain⟨es,ep,t,e1,e2,e3,e4,e5,e6⟩:=hD;exact⟨es,ep,t,e1,e2,e3,e4,λk=>(e5 k).trans (by simp),e6⟩
    ·have q:b<s.heap.objs.size:=HB e;refine hm.heap b u ?_ (JH _ (k1 b u e));rw[y];simp only[HN,JG,cG,or_false,not_or];exact⟨JW q,JW (aB q)⟩
   ·cases r2 with
    |error e=>exact z
    |ok f2 =>
     cases f2 with
     |ret r3 =>
      obtain⟨rfl,h',tk,o,rfl,g2,hD,k2⟩:=z
      repeat (any_goals (first |assumption |wp_step))
      exact h _ _ o g2 hD k2
     |_=>exact z.elim
  |_=>exact hr.elim
def jQ(P:B_)(w:CW)(a:BK)(ns:List Int)(h:CK):Prop:=∃o,h.get? a=some o/\Sv P w ns o
def R6:List D->Option (List Int)
 | [.lst xs]=>if xs.length<64 then Bl xs else none
 |_=>none
def Vx:List Int->List Int
 | []=>[]
 |x::xs=>if x∈xs then Vx xs else x::Vx xs
def Nr(k:Int):∀xs,k∈Vx xs↔k∈xs
 | []=>Iff.rfl
 |x::xs=>by
  unfold Vx;by_cases h:x∈xs
  ·rw[if_pos h,Nr k xs,HN];exact⟨.inr,λz=>z.elim (λe=>e ▸ h) id⟩
  ·rw[if_neg h,HN,HN,Nr k xs]
def Lp:∀xs,(Vx xs).Nodup
 | []=>.nil
 |x::xs=>by
  unfold Vx;by_cases h:x∈xs
  ·rw[if_pos h];exact Lp xs
  ·rw[if_neg h];exact RZ.mpr ⟨λz=>h ((Nr x xs).mp z),Lp xs⟩
theorem ji5:∀xs,(Vx xs).length<=xs.length
 | []=>F_ _
 |x::xs=>by
  unfold Vx;have:=ji5 xs;by_cases h:x∈xs
  ·rw[if_pos h,MJ];lia
  ·rw[if_neg h,MJ,MJ];lia
def cX(ns:List Int):List D:=srt ((Vx ns).map .int)
def Te:∀q:List Int,Bl (q.map .int)=some q
 | []=>rfl
 |m::q=>by simp[Bl,Te q]
def Zk:∀{xs:List D}{ns:List Int},Bl xs=some ns->ns.length=xs.length
 | [],ns,h=>by cases h;rfl
 |d::xs,ns,h=>by
  cases d with
  |int i =>
   cases e:Bl xs with
   |none=>simp[Bl,e]at h
   |some m=>simp[Bl,e]at h;subst h;simp[Zk e]
  |_=>cases h
def Kz{K:CJ}{H:Hp}{S:AS}:∀q:List Int,Ak K H S (q.map .int) (q.map V.int)
 | []=>Ak.nil
 |m::q=>.cons rfl (Kz q)
def Jj:∀{us:List A_}{m:List Int},FP us m->Vals (m.map V.int) us
 |_,_,.nil=>.nil
 |_,_,.cons n t h=>.cons ⟨t,rfl⟩ (Jj h)
def Th(m:List Int):Dr (m.map D.int)=true:=by unfold Dr;rw[bG];refine .inl ?_;rw[gG];exact PQ.mpr λ_ _=>rfl
def Oo{ys:List D}(q:Dr xs=true)(p:ys.Perm xs):srt ys=srt xs:=by refine eq_of_sorted (le:=λa b=>Gz a b=true) ((Dm ys).trans (p.trans (Dm xs).symm)) (Eh ys) (Eh xs) λa y b r m h2=>?_;unfold Gz at m h2;rw[aA]at m h2;exact oY q (p.mem_iff.mp ((Dm ys).mem_iff.mp y)) (p.mem_iff.mp ((Dm ys).mem_iff.mp r)) (Ff _ _ h2 m)
def T3(h:xs.length<2):srt xs=xs:=by
 match xs,h with
 | [],_=>exact List.mergeSort_nil
 | [x],_=>exact List.mergeSort_singleton x
def yi4(K:CJ)(P:B_)(w:CW):List V->Hp->VK->Prop:=λxs H Q=>∃S ds ns,Ak K H S ds xs/\R6 ds=some ns/\∀a,H a=none->Q (.ref a) (upd H a (.ext (jQ P w a ns)))
def yi5(K:CJ)(P:B_)(w:CW):List V->Hp->VK->Prop:=λxs H Q=>∃a ns,xs=[.ref a]/\H a=some (.ext (jQ P w a ns))/\ns.length<64/\∀b ws H',Ag H H'->H b=none->H' b=some (.lst ws)->(∀S,Ak K H' S (cX ns) ws)->Q (.ref b) H'
variable {Y:JN}
section
variable {fs:Ev->R (List D)}
theorem yb7(hc:X.calm=true):Eb X (.type "set") (yi4 X.K X.prog X.w):=by
 rintro pins s σ H ys us Q I r ⟨S,ds,ns,rs,e,q⟩;obtain⟨L,rfl⟩:=inv1 e rfl (λx _ _=>by cases x<;>rfl);cases L with
 |lst xs =>
  have e':(if xs.length<64 then Bl xs else none)=some ns:=e;by_cases C:xs.length<64
  ·rw[if_pos C]at e';obtain⟨v,rfl,a,vs,rfl,ha,z⟩:=rs.one;obtain⟨u,rfl,U⟩:=vals1 r;cases U;have⟨aa,y,pl,_⟩:=I.list ha.sq;have l1:=z.length;have l2:=y.length;refine kn3 (I.ok.hd hc) pl.isList (ns:=ns) (by simpa using ints_of z y e') (by rw[JZ];unfold JX;lia) λh' m o F hD k=>?_;have hf:H s.heap.objs.size=none:=I.hok.fresh (F_ _);have I2:Inv X pins σ (upd H s.heap.objs.size (.ext (jQ X.prog X.w s.heap.objs.size ns))) {s with heap:=h',toks:=m}:=
    I.laid (t':=m) k (F_ _) ⟨⟨o,F,hD⟩,⟨o,F⟩,λh1 h2 ⟨B,J,G⟩ kk=>⟨B,kk B J,G⟩⟩
   exact⟨.ref s.heap.objs.size,_,I2,rfl,q _ hf⟩
  ·rw[if_neg C]at e';cases e'
 |_=>exact nos e
def Dq(xs:List D):Option D:=(R6 xs).map λns=>.lst (cX ns)
def Yk{d:D}(h:bA fs Dq ρ=.ok d):∃ds,d=.lst ds:=by
 unfold bA at h;cases m:fs ρ with
 |ok xs =>
  rw[m]at h;simp only[R.ok_bind,Dq]at h;cases q:R6 xs with
  |none=>rw[q]at h;cases h
  |some ns=>rw[q]at h;cases h;exact⟨_,rfl⟩
 |exc _=>rw[m]at h;cases h
 |bad=>rw[m]at h;cases h
theorem Xo:∀ρ d,bA fs Fd ρ=.ok d->∃ds,d=.lst ds:=λρ d h=>by
 unfold bA at h;cases m:fs ρ with
 |ok xs =>
  rw[m]at h;simp only[R.ok_bind]at h
  match xs,h with
  | [x],h =>
   unfold Fd at h;dsimp only at h;cases q:Gv x with
   |none=>rw[q]at h;cases h
   |some ys =>
    rw[q]at h;dsimp only at h;split at h
    ·cases h;exact⟨_,rfl⟩
    ·cases h
  | [],h=>cases h
  |_::_::_,h=>cases h
 |exc _=>rw[m]at h;cases h
 |bad=>rw[m]at h;cases h
end
def Yg:List D->Option (Int×Int)
 | [.int j]=>if -(2 ^ 62)<=j/\j<2 ^ 62/\j<=16777216 then some (0,j) else none
 | [.int i,.int j]=>if -(2 ^ 62)<=i/\i<2 ^ 62/\-(2 ^ 62)<=j/\j<2 ^ 62/\j - i<=16777216 then some (i,j) else none
 |_=>none
def Tu(i j:Int):List Int:=(List.range (j - i).toNat).map λ(k:Nat)=>i+(k:Int)
def list_rangeD(xs:List D):Option D:=(Yg xs).map λq=>.lst ((Tu q.1 q.2).map .int)
def Jf(xs:List D):Option D:=(Yg xs).map λq=>.tup ((Tu q.1 q.2).map .int)
theorem Wl{a:Int}{acc:Array A_}(h:ItemsOf (λi v=>∃t,v=.int (a+i * 1) t) acc n):FP acc.toList ((List.range n).map λ(k:Nat)=>a+(k:Int)):=by
 have gen:∀(vs:List A_)(o:Nat),(∀i v,vs[i]? = some v->∃t,v=Value.int (a+((o+i:Nat):Int)) t)->FP vs ((List.range' o vs.length).map λ(k:Nat)=>a+(k:Int)):=by
  intro vs;induction vs with
  |nil=>intro o _;exact .nil
  |cons v vs q =>
   intro o m;obtain⟨t,rfl⟩:=m 0 v rfl;rw[MJ,jId,HJ];exact .cons _ t (q (o+1) λi u r=>by
    have⟨t',e⟩:=m (i+1) u (by simpa using r);exact⟨t',by rw[e,show o+(i+1)=o+1+i by lia]⟩)
 have:=gen acc.toList 0 λi v m=>by have⟨t,e⟩:=h.2 i v (by simpa using m);exact⟨t,by rw[e,WM,bC]⟩
 rw[ZG,h.1,<-List.range_eq_range']at this;exact this
theorem W8{hi:Int}:Builtin.Range.rangeSize lo hi 1=(((hi - lo).toNat:Nat):Int):=by rw[rangeSize_one];split<;>lia
theorem jq6{r:BK}{hi:Int}{t u v:Tok}(hh:A.handled=none)(U:IsRange s.heap r lo hi 1 t u v)(h1:-(2 ^ 62)<=lo)(h2:lo<2 ^ 62)(h3:-(2 ^ 62)<=hi)(h4:hi<2 ^ 62)(h5:hi - lo<=16777216):
  bB prog w A s (.ref r) λvs=>FP vs (Tu lo hi):=by
 intro Q E q;unfold cO;refine BX (UG (GQ F.entry_proto_collect ?_));rw[Around.under_plainId F.plain_proto_collect _];show BP _ A.in1 (XR [] >>= λl=>again (.builtin "list.__iadd__" ⟨[l,.ref r],[]⟩)) _ _ s;refine BX (CG ?_);refine DN ⟨LC F.plain_list_iadd _,GQ F.entry_list_iadd ?_⟩;rw[Around.under_plainId F.plain_list_iadd _];show BP _ A.in1 (Builtin.List.listExtendWith (.ref s.heap.objs.size) (.ref r) (.ref s.heap.objs.size)) _ _ _;have key:=wpAny_extend_range (prog:=prog) (w:=w) (A:=A) (s:={s with heap:=s.heap.push {cls:=.type "list",data:=.seq ([]:List A_).toArray} })
  (R:=λx y=>x=.ok (.ret (.ref s.heap.objs.size))/\∃(h':CK)(tk:Nat)(acc:Array A_)(c:Nat),y = {s with heap:=h',toks:=tk}/\(∀b o,s.heap.get? b=some o->h'.get? b=some o)/\h'.get? s.heap.objs.size=some {cls:=.type "list",dict:=none,data:=.seq acc c,slots:=#[] }/\ItemsOf (λi v=>∃t,v=.int (lo+i * 1) t) acc (hi - lo).toNat)
  hh (JH _ U) (cQ h1 h2 h3 h4) (n:=(hi - lo).toNat) W8 (by lia) s.heap.objs.size (.ref s.heap.objs.size) 0 (KD _ rfl) λh' tk B J k G m=>⟨rfl,h',tk,B,J,rfl,λb o e=>k b o (JW (HB e)) (JH _ e),G,m⟩
 have z:∀y,(∃(h':CK)(tk:Nat)(acc:Array A_)(c:Nat),y = {s with heap:=h',toks:=tk}/\(∀b o,s.heap.get? b=some o->h'.get? b=some o)/\h'.get? s.heap.objs.size=some {cls:=.type "list",dict:=none,data:=.seq acc c,slots:=#[] }/\ItemsOf (λi v=>∃t,v=.int (lo+i * 1) t) acc (hi - lo).toNat) ->
   BP (BV prog w) A (load s.heap.objs.size >>= λo=>match o.data with | .seq xs _=>pure xs.toList |_=>unsupported "internal:collect") Q E y:=by
  rintro y ⟨h',tk,acc,c,rfl,k,G,m⟩;refine BX (aH G ?_);exact DN (q _ _ tk s.drawn k (by rw[ZG,m.1,CV];lia) (Wl m))
 refine GD key (λf y h=>?_) (λe y h=>absurd h.1 (by simp));cases f with
 |done g=>obtain⟨e,h⟩:=h;cases e;exact z y h
 |again J=>exact⟨h.1,HD h.2 λx L C=>by
   obtain⟨rfl,C⟩:=C;exact z L C⟩
variable {G:List A_->Prop}
def bB.use{Q:List A_->BJ->Prop}(q:bB prog w A s u G)(h:∀vs h' m r,(∀b o,s.heap.get? b=some o->h'.get? b=some o)->vs.length<=sizeLine->G vs->Q vs {s with heap:=h',drawn:=r,toks:=m}):BP (BV prog w) A (cO u) Q E s:=q Q E h
def jk4{T:String}(hT:(Value.type T == Value.type "tuple")=false):Meets (GZ.«tuple.__new__» ⟨[.type "tuple",u],[]⟩)
  (λA R s=>s.TypeIs u T/\(∀prog w,bB prog w A.in1 s u G)/\∀vs (h':CK) B z,(∀b o,s.heap.get? b=some o->h'.get? b=some o)->G vs->R (.ok (.ret (.ref h'.objs.size))) {s with heap:=h'.push {cls:=.type "tuple",data:=.seq vs.toArray},drawn:=z,toks:=B}):=
 .of_wp λprog w A R s h=>by
  obtain⟨y,L,h⟩:=h;have C:=sub_tuple_self;have r:=init_tuple_lookup;have J:=madeHere_tuple;have m:=L prog w;obtain⟨hp,g,d,B,os⟩:=s
  wp_walk using QS y,bB.use m
  intro vs h' q z k F U;refine BX (DN ?_);show BP _ _ (Builtin.Tuple.tupleExact vs.toArray >>= λv=>ret v) _ _ _;unfold Builtin.Tuple.tupleExact;refine BX (CG ?_ (by show vs.toArray.size<=sizeLine;rw[JZ];exact F));exact DN ⟨_,rfl,h vs h' q z k U⟩
def yi3:List V->Hp->VK->Prop:=λxs H Q=>∃i j:Int,((xs=[.int j]/\i=0)\/xs=[.int i,.int j])/\∀a,H a=none->Q (.ref a) (upd H a (.rng i j))
def nO(i j:Int):Prop:=-(2 ^ 62)<=i/\i<2 ^ 62/\-(2 ^ 62)<=j/\j<2 ^ 62/\j - i<=16777216
def yi1:List V->Hp->VK->Prop:=λxs H Q=>∃a i j,xs=[.ref a]/\H a=some (.rng i j)/\nO i j/\∀b,H b=none->Q (.ref b) (upd H b (.lst ((Tu i j).map V.int)))
def yi2:List V->Hp->VK->Prop:=λxs H Q=>∃a i j,xs=[.ref a]/\H a=some (.rng i j)/\nO i j/\∀b,H b=none->Q (.ref b) (upd H b (.tup ((Tu i j).map V.int)))
def zQ(i j:Int):(Tu i j).length=(j - i).toNat:=by simp[Tu]
section
variable {fs:Ev->R (List D)}
def xU:Eb X (.type "range") yi3:=by
 rintro pins s σ H ys us Q I r ⟨i,j,y,q⟩;have m:H s.heap.objs.size=none:=I.hok.fresh (F_ _);rcases y with ⟨rfl,rfl⟩ |rfl
 ·obtain⟨u,rfl,t,rfl⟩:=vals1 r;refine call_range_1 ⟨.ref s.heap.objs.size,_,I.laid (t':=s.toks+1+1) (λb o e=>JH _ e) (F_ _) (show Cj X.prog X.w _ _ _ (.rng 0 j) from⟨_,_,_,KD _ rfl⟩),rfl,q _ m⟩
 ·obtain⟨u1,u2,rfl,⟨B,rfl⟩,⟨z,rfl⟩⟩:=r.two;refine call_range_2 ⟨.ref s.heap.objs.size,_,I.laid (t':=s.toks+1) (λb o e=>JH _ e) (F_ _) (show Cj X.prog X.w _ _ _ (.rng i j) from⟨_,_,_,KD _ rfl⟩),rfl,q _ m⟩
theorem wd8(J:X.calm=true):Eb X (.type "list") yi1:=by rintro pins s σ H ys us Q I r ⟨a,i,j,e,L,⟨h1,h2,h3,h4,h5⟩,q⟩;subst e;refine Ao (λu m B=>?_) (vals1 r);obtain rfl:=m;cases B;refine rP (λt u v C=>?_) (I.hok a _ L);refine call_list_range (I.ok.hd J) C (cQ h1 h2 h3 h4) (n:=(j - i).toNat) W8 (by lia) λh' z y c' k U F=>?_;have hint:=Wl F;refine⟨.ref s.heap.objs.size,_,I.laid (t':=z) k (F_ _) (show Cj X.prog X.w _ h' _ (.lst ((Tu i j).map V.int)) from⟨by rw[GP,zQ,CV];lia,y.toList,c',Jj hint,by simpa using U⟩),rfl,q _ (I.hok.fresh (F_ _))⟩
theorem kn0(J:X.calm=true):Eb X (.type "tuple") yi2:=by rintro pins s σ H ys us Q I r ⟨a,i,j,e,L,⟨h1,h2,h3,h4,U⟩,q⟩;subst e;refine Ao (λu m C=>?_) (vals1 r);obtain rfl:=m;cases C;refine rP (λt u v z=>?_) (I.hok a _ L);refine YG F.called_tuple (by decide) (F.typeCall_tuple_1 _) (F.newCall_tuple_1 _) (λobj=>F.args_object_init_2 obj _) F.entry_tuple_new (jk4 (T:="range") (by decide)) ⟨⟨_,z,rfl⟩,λprog w=>jq6 (by simpa using I.ok.hd J) z h1 h2 h3 h4 U,λvs h' y d' k g=>⟨⟨_,KD _ rfl,rfl⟩,?_⟩⟩;have B:Inv X pins σ H {s with heap:=h',drawn:=d',toks:=y}:=O4 I k;exact⟨.ref h'.objs.size,_,B.laid (t':=y) (λb o e=>JH _ e) (F_ _) (show Cj X.prog X.w _ _ _ (.tup ((Tu i j).map V.int)) from⟨by rw[GP,zQ,CV];lia,vs,Jj g,IsTup.new _ _⟩),rfl,q _ (B.hok.fresh (F_ _))⟩
theorem v9{S:AS}{i j:Int}(r:Ak K H S ds vs)(h:Yg ds=some (i,j)):((vs=[.int j]/\i=0)\/vs=[.int i,.int j])/\nO i j:=by
 match ds,h with
 | [.int k],h=>have h':(if -(2 ^ 62)<=k/\k<2 ^ 62/\k<=16777216 then some ((0:Int),k) else none)=some (i,j):=h;obtain⟨z,e⟩:=Be h';cases e;refine Ao (λv y B=>?_) (r.one);obtain rfl:=y;cases(show v=.int j from B);exact⟨.inl ⟨rfl,rfl⟩,by lia,by lia,z.1,z.2.1,by lia⟩
 | [.int k,.int m],h=>have h':(if -(2 ^ 62)<=k/\k<2 ^ 62/\-(2 ^ 62)<=m/\m<2 ^ 62/\m - k<=16777216 then some (k,m) else none)=some (i,j):=h;obtain⟨z,e⟩:=Be h';cases e;refine Br (λv u q B C=>?_) (r.two);obtain rfl:=q;cases(show v=.int i from B);cases(show u=.int j from C);exact⟨.inr rfl,z⟩
def jk2(hc:X.calm=true)(hm:X.mg "list" = none)(B:X.mg "range" = none)(F:PAd X c l (e::es) fs)(hg:Gl X "list":=by rfl)(C:Gl X "range":=by rfl)(he:Zs X.env e es:=by rfl)
  (y:Zp X.env Y es:=by rfl)(r:BR [.Call (.Name "range" p2) (e::es) [] Y] X.env=(false,DY (.Call (.Name "range" p2) (e::es) [] Y) X.env)::BR [] X.env:=by rfl)(m:Zp X.env pos []:=by rfl):
  PEf X c l (.Call (.Name "list" p) [.Call (.Name "range" p2) (e::es) [] Y] [] pos) (bA fs list_rangeD):=
 PE.imp (Ji (wd8 hc) hg hm PyProof.Rows.boot_list (Dt (Ji xU C B VL F (by decide) (by decide) he y) Hs r) (by decide) (by decide) r m) λσ H Q q=>by
 revert q;refine Bt λhs ρ E q=>?_;refine Dd E ((RQ.bind.mp q).mono (λds q1 vs H1 L E1 r1 hn=>?_) λ_ z=>z);refine Ao (λd e' q2=>?_) (q1.of);unfold list_rangeD at e';cases J:Yg ds with
 |none=>rw[J]at e';cases e'
 |some ij=>obtain⟨i,j⟩:=ij;rw[J]at e';cases e';have⟨hv,ok⟩:=v9 r1 J;refine⟨i,j,hv,λa F=>⟨a,i,j,rfl,An,ok,λb U=>?_⟩⟩;have sn:=Ar (o:=HO.rng i j) F;have sb:=Ar (o:=HO.lst ((Tu i j).map V.int)) U;exact q2 b _ _ _ rfl ((L.trans sn).trans sb) ((L.trans sn).free U) An (Kz _)
def Ye{d:D}(h:bA fs list_rangeD ρ=.ok d):∃ds,d=.lst ds:=by
 unfold bA at h;cases m:fs ρ with
 |ok xs =>
  rw[m]at h;simp only[R.ok_bind,list_rangeD]at h;cases q:Yg xs with
  |none=>rw[q]at h;cases h
  |some ns=>rw[q]at h;cases h;exact⟨_,rfl⟩
 |exc _=>rw[m]at h;cases h
 |bad=>rw[m]at h;cases h
def list_range(J:X.calm=true)(B:X.mg "list" = none)(r:X.mg "range" = none)(L:PAd X c l (e::es) fs)(C:Gl X "list":=by rfl)(y:Gl X "range":=by rfl)(F:Zs X.env e es:=by rfl)
  (q:Zp X.env Y es:=by rfl)(z:BR [.Call (.Name "range" p2) (e::es) [] Y] X.env=(false,DY (.Call (.Name "range" p2) (e::es) [] Y) X.env)::BR [] X.env:=by rfl)(m:Zp X.env pos []:=by rfl):
  PEd X c l (.Call (.Name "list" p) [.Call (.Name "range" p2) (e::es) [] Y] [] pos) (bA fs list_rangeD):=PEf.d (jk2 J B r L C y F q z m) λ_ _ h=>Ye h
def tuple_range(hc:X.calm=true)(hm:X.mg "tuple" = none)(B:X.mg "range" = none)(F:PAd X c l (e::es) fs)(hg:Gl X "tuple":=by rfl)(C:Gl X "range":=by rfl)(he:Zs X.env e es:=by rfl)
  (y:Zp X.env Y es:=by rfl)(r:BR [.Call (.Name "range" p2) (e::es) [] Y] X.env=(false,DY (.Call (.Name "range" p2) (e::es) [] Y) X.env)::BR [] X.env:=by rfl)(m:Zp X.env pos []:=by rfl):
  PEd X c l (.Call (.Name "tuple" p) [.Call (.Name "range" p2) (e::es) [] Y] [] pos) (bA fs Jf):=
 PE.imp (Ji (kn0 hc) hg hm PyProof.Rows.boot_tuple (Dt (Ji xU C B VL F (by decide) (by decide) he y) Hs r) (by decide) (by decide) r m) λσ H Q q=>by
 revert q;refine Bt λhs ρ E q=>?_;refine Dd E ((RQ.bind.mp q).mono (λds q1 vs H1 U E1 r1 hn=>?_) λ_ z=>z);refine Ao (λd e' q2=>?_) (q1.of);unfold Jf at e';cases J:Yg ds with
 |none=>rw[J]at e';cases e'
 |some ij=>obtain⟨i,j⟩:=ij;rw[J]at e';cases e';have⟨hv,ok⟩:=v9 r1 J;refine⟨i,j,hv,λa F=>⟨a,i,j,rfl,An,ok,λb hb=>?_⟩⟩;have sn:=Ar (o:=HO.rng i j) F;have L:=Ar (o:=HO.tup ((Tu i j).map V.int)) hb;exact q2 _ _ ((U.trans sn).trans L) ⟨b,_,rfl,TpR.of An,Kz _⟩
end
def law_walk{l:W.OpenLaw}{q:B_}{loose:List BZ}{XP:(BZ->Option A_)->CK->Prop}{L:CW->CK->Prop}{d:DefRec}{K:l_->CJ}{m:List D->R D}(hm:∀ns:List Int,ns.length<=63->m [.lst (ns.map .int)]=.ok (.bl true))(hn:l.most=some 63)(B:d.params.defaults=[])(U:Hx k P_)
  (hY:∀(w:CW)(h:CK),L w h->(K w.params).In h)
  (F:∀(w:CW)(y:BZ->Option A_)(J:BK)(h:CK),(K w.params).In h->h.Ns HS y->y d.name=some (.ref J) ->
   ∃C:DX,(∀(s:BJ)(u:A_),T_ s C ⟨[u],[]⟩ [(x,u)])/\∀base:CK,(K w.params).In base->base.Ns HS y->Hl l.prog w (K w.params) y base CX0 k J C [x] (sp0 (K w.params) 1 m)):
  W.WalkO q loose XP L l.row.toRowW d [] (λf vs=>PySem.call f vs):=
 L2.wm6 (n:=63) (k:=k) (x:=x) (CX:=λ_=>CX0) (sp:=λw=>sp0 (K w.params) 1 m) hn (by decide) B U hY F (λw H a ns hl _ hS=>⟨rfl,λ_=>True,[.lst (ns.map .int)],.cons ⟨a,_,rfl,SqL.ls hS trivial trivial,Kz ns⟩ Ak.nil,by
  rw[hm ns hl];exact λv H' _ r=>r⟩) λ_ _ _ _ _ z=>z
variable {r:Ev}{o0 o1 o2 o3 o4 o5 o6:Option D}
section
variable {f z q J F:Ev->R D}{fs:Ev->R (List D)}{m C:Ev->R Fl}{t B y:Ev->R Bool}
@[simp] def cA:b2 z q g ρ=(z ρ).bind λx=>(q ρ).bind λy=>R.of (g x y):=nr rfl
@[simp] def ys9{g:D->Option D}:b1 f g ρ=(f ρ).bind λx=>R.of (g x):=nr rfl
@[simp] def rK{d:D}:kd d ρ=.ok d:=nr rfl
@[simp] def iR:a0 ρ=.ok []:=nr rfl
@[simp] def Pu:zv f fs ρ=(f ρ).bind λx=>(fs ρ).bind λxs=>.ok (x::xs):=nr rfl
@[simp] def Rf{g:List D->Option D}:bA fs g ρ=(fs ρ).bind λxs=>R.of (g xs):=nr rfl
@[simp] def rJ:sq m C ρ=(m ρ).bind λU=>match U with | .nx L=>C L |o=>.ok o:=nr rfl
@[simp] def yd0:asg i f ρ=(f ρ).bind λd=>.ok (.nx (ρ.set i (some d))):=nr rfl
@[simp] def wr5:Jt f ρ=(f ρ).bind λd=>.ok (.rt d):=nr rfl
@[simp] def tH:ifS t m C ρ=(t ρ).bind λk=>if k then m ρ else C ρ:=nr rfl
@[simp] def yr9:drp f ρ=(f ρ).bind λ_=>.ok (.nx ρ):=nr rfl
@[simp] def rH:tt f ρ=(f ρ).bind λd=>R.of (mH d):=nr rfl
@[simp] def fM:tb f ρ=(f ρ).bind λd=>R.of (aQ d):=nr rfl
@[simp] def mL:nt t ρ=(t ρ).bind λk=>.ok (!k):=nr rfl
@[simp] def ys4:tan B y ρ=(B ρ).bind λk=>if k then y ρ else .ok false:=nr rfl
@[simp] def ys5:tor B y ρ=(B ρ).bind λk=>if k then .ok true else y ρ:=nr rfl
@[simp] def yt5:va z q ρ=(z ρ).bind λd=>(R.of (aQ d)).bind λk=>if k then q ρ else .ok (.bl false):=nr rfl
@[simp] def yt6:vn f ρ=(f ρ).bind λd=>(R.of (aQ d)).bind λk=>.ok (.bl (!k)):=nr rfl
@[simp] def ys0:ife t z q ρ=(t ρ).bind λk=>if k then z ρ else q ρ:=nr rfl
@[simp] def ym3{m:List D->R D}:cl fs m ρ=(fs ρ).bind λds=>(m ds).nox:=nr rfl
@[simp] def ys2:itS f ρ=(f ρ).bind λd=>R.of (Gv d):=nr rfl
@[simp] def ys1{h:List D->Option (List D)}:itR h fs ρ=(fs ρ).bind λxs=>R.of (h xs):=nr rfl
@[simp] def wr2{g:D->Ev->R Ev}:b_ it g m ρ=(it ρ).bind λds=>Hw ds g m ρ:=nr rfl
@[simp] def ym8:p0 ρ=.ok none:=nr rfl
@[simp] def ym9:p1 f ρ=(f ρ).bind λd=>R.of (isI d):=nr rfl
@[simp] def ym2{lo hi:Ev->R (Option Int)}{g:D->Option Int->Option Int->Option D}:bS f lo hi g ρ=(f ρ).bind λx=>(lo ρ).bind λi=>(hi ρ).bind λj=>R.of (g x i j):=nr rfl
@[simp] def yd1:chk f ρ=(f ρ).bind λd=>if d.imm then .ok d else .bad:=nr rfl
@[simp] def fO{d:D}:gN i d ρ=.ok (ρ.set i (some d)):=nr rfl
@[simp] def yt0:gT Z (.tup ds) ρ=Gs Z ds ρ:=nr rfl
@[simp] def yk8:Gs [] [] ρ=.ok ρ:=nr rfl
@[simp] def yk9{d:D}:Gs (i::Z) (d::ds) ρ=Gs Z ds (ρ.set i (some d)):=nr rfl
@[simp] def gv0{d:D}:gv 0 (some d::r)=.ok d:=nr rfl
@[simp] def rF{d:D}:gv 1 (o0::some d::r)=.ok d:=nr rfl
@[simp] def yn8{d:D}:gv 2 (o0::o1::some d::r)=.ok d:=nr rfl
@[simp] def yt7{d:D}:gv 3 (o0::o1::o2::some d::r)=.ok d:=nr rfl
@[simp] def yt8{d:D}:gv 4 (o0::o1::o2::o3::some d::r)=.ok d:=nr rfl
@[simp] def yt9{d:D}:gv 5 (o0::o1::o2::o3::o4::some d::r)=.ok d:=nr rfl
@[simp] def yu0{d:D}:gv 6 (o0::o1::o2::o3::o4::o5::some d::r)=.ok d:=nr rfl
@[simp] def yu1{d:D}:gv 7 (o0::o1::o2::o3::o4::o5::o6::some d::r)=.ok d:=nr rfl
@[simp] def yu2{o7:Option D}{d:D}:gv 8 (o0::o1::o2::o3::o4::o5::o6::o7::some d::r)=.ok d:=nr rfl
def tK{x:D}(h:ρ[i]? = some (some (.lst ds)))(U:f ρ=.ok x)(L:ds.length<16777216):dJ i f ρ=.ok (.nx (ρ.set i (some (.lst (ds++[x]))))):=by unfold dJ;rw[h];simp[U,L]
@[simp] def wr1{a b:Int}:Dg (.int a) (.int b)=some (.int (a+b)):=nr rfl
@[simp] def ys3{a b:Int}:fB (.int a) (.int b)=some (.int (a - b)):=nr rfl
@[simp] def yt4{a b:Int}:ltD (.int a) (.int b)=some (.bl (decide (a<b))):=nr rfl
@[simp] def yt3{a b:Int}:leD (.int a) (.int b)=some (.bl (decide (a<=b))):=nr rfl
@[simp] def yt2{a b:Int}:gtD (.int a) (.int b)=some (.bl (decide (b<a))):=nr rfl
@[simp] def yt1{a b:Int}:geD (.int a) (.int b)=some (.bl (decide (b<=a))):=nr rfl
@[simp] def uW{k:Bool}:aQ (.bl k)=some k:=nr rfl
@[simp] def yd4{a:Int}:isI (.int a)=some (some a):=nr rfl
@[simp] def yn2{k:Bool}:mH (.bl k)=some k:=nr rfl
@[simp] def ym4:Eo [.lst xs]=some (.int xs.length):=nr rfl
@[simp] def ym5:Eo [.tup xs]=some (.int xs.length):=nr rfl
@[simp] def yn0:Gv (.lst xs)=some xs:=nr rfl
@[simp] def yn1:Gv (.tup xs)=some xs:=nr rfl
@[simp] def V5:Mp [.lst xs]=some (.tup xs):=nr rfl
@[simp] theorem ym7{a b:Int}:minD [.int a,.int b]=some (.int (min a b)):=by show some (D.int (if b<a then b else a))=_;congr 2;split<;>lia
@[simp] theorem ym6{a b:Int}:maxD [.int a,.int b]=some (.int (max a b)):=by show some (D.int (if b>a then b else a))=_;congr 2;split<;>lia
@[simp] def j_:Cq n m ds=dD (m (Af n ds)):=nr rfl
@[simp] def uX:dD (.ok (.nx ρ))=.ok .non:=nr rfl
end
variable {g2:Ev->R Fl}
def Al{g1:Ev->R Fl}{ρ1:Ev}{r:R Fl}(h:g1 ρ=.ok (.nx ρ1))(h2:g2 ρ1=r):sq g1 g2 ρ=r:=by rw[rJ,h];exact h2
def Jw{g1:Ev->R Fl}{d:D}(h:g1 ρ=.ok (.rt d)):sq g1 g2 ρ=.ok (.rt d):=by rw[rJ,h];rfl
def Aw{d:D}(h:f ρ=.ok d):asg i f ρ=.ok (.nx (ρ.set i (some d))):=by rw[yd0,h];rfl
def Ax{d:D}(h:f ρ=.ok d):Jt f ρ=.ok (.rt d):=by rw[wr5,h];rfl
def Lq{t:Ev->R Bool}{g1:Ev->R Fl}(h:t ρ=.ok true):ifS t g1 g2 ρ=g1 ρ:=by rw[tH,h];rfl
def Hb{t:Ev->R Bool}{g1:Ev->R Fl}(h:t ρ=.ok false):ifS t g1 g2 ρ=g2 ρ:=by rw[tH,h];rfl
def Ny{g:D->Ev->R Ev}{b:Ev->R Fl}{r:R Fl}(h:it ρ=.ok ds)(h2:Hw ds g b ρ=r):b_ it g b ρ=r:=by rw[wr2,h];exact h2
def Az{g:Ev->R Fl}{d:D}(h:g (Af n ds)=.ok (.rt d)):Cq n g ds=.ok d:=by rw[j_,h];rfl
def Qh{a b:Int}(h:0<b)(h2:b<4611686018427387904):Hv (.int a) (.int b)=some (.int (a / b)):=by show(if _ then _ else _)=_;rw[if_pos ⟨h,h2⟩]
def Kl{a b:Int}(h:0<b):Gk (.int a) (.int b)=some (.int (a % b)):=by show(if _ then _ else _)=_;rw[if_pos h]
def j8{a b:Int}(h:-(2 ^ 64)<a)(h2:a<2 ^ 64):Hh (.int a) (.int b)=some (.int (a * b)):=by show(if _ then _ else _)=_;rw[if_pos (.inl ⟨h,h2⟩)]
def uV{a b:Int}(h:a.natAbs<2 ^ 2048)(h2:b.natAbs<2 ^ 2048):Hh (.int a) (.int b)=some (.int (a * b)):=by show(if _ then _ else _)=_;rw[if_pos (.inr (.inr ⟨h,h2⟩))]
def V1{ys:List D}(h:xs.length+ys.length<=16777216):Dg (.tup xs) (.tup ys)=some (.tup (xs++ys)):=by show(if _ then _ else _)=_;rw[if_pos h]
def uY{ys:List D}(h:xs.length+ys.length<=16777216):Dg (.lst xs) (.lst ys)=some (.lst (xs++ys)):=by show(if _ then _ else _)=_;rw[if_pos h]
def Ga(h:xs.length<=16777216):Hk xs=some (.tup xs):=by unfold Hk;rw[if_pos h]
def Ua(h:xs.length<=16777216):Wu xs=some (.lst xs):=by unfold Wu;rw[if_pos h]
theorem Nv{d:D}(h:xs[i]? = some d):ixD (.tup xs) (.int (i:Int))=some d:=by have m:i<xs.length:=(LR.mp h).1;show atI xs (i:Int)=some d;unfold L2.atI L2.ixN;rw[if_pos (by lia),if_pos (by lia)];simpa using h
theorem V2{d:D}(h:xs[i]? = some d):ixD (.lst xs) (.int (i:Int))=some d:=by have m:i<xs.length:=(LR.mp h).1;show atI xs (i:Int)=some d;unfold L2.atI L2.ixN;rw[if_pos (by lia),if_pos (by lia)];simpa using h
@[simp] def V3{x:D}:ixD (.tup (x::xs)) (.int 0)=some x:=Nv (i:=0) rfl
variable {y:D}
@[simp] def oF{x:D}:ixD (.tup (x::y::xs)) (.int 1)=some y:=Nv (i:=1) rfl
def ye1{a b:Int}(h:0<=b/\b<=1000000/\a.natAbs<2 ^ 64):b7 (.int a) (.int b)=some (.int (a ^ b.toNat)):=by dsimp only[b7];rw[if_pos h]
def Ac(l:List Nat):List D:=l.map λ(x:Nat)=>.int (x:Int)
def Ba(l:List Nat):(Ac l).length=l.length:=by simp[Ac]
def G4{l:List Nat}:(Ac l)[i]? = (l[i]?).map λ(x:Nat)=>D.int (x:Int):=by simp[Ac]
def Kr{l:List Nat}{d:D}:d∈Ac l↔∃x∈l,d=.int (x:Int):=by unfold Ac;rw[HX];exact⟨λ⟨x,h,e⟩=>⟨x,h,e.symm⟩,λ⟨x,h,e⟩=>⟨x,h,e.symm⟩⟩
theorem Yc{l:List Nat}:D.int (k:Int)∈Ac l↔k∈l:=by
 rw[Kr];refine⟨λ⟨x,h,e⟩=>?_,λh=>⟨k,h,rfl⟩⟩;have:(k:Int)=x:=by injection e
 have:k=x:=by lia
 exact this ▸ h
theorem V4(h:n<2 ^ 62):mY [.int (n:Int)]=some (Ac (List.range n)):=by
 have h':-(2 ^ 62)<=(n:Int)/\(n:Int)<2 ^ 62:=by lia
 dsimp only[mY];rw[if_pos h',YL];simp[Ac]
theorem Hf{g:D->Ev->R Ev}{b:Ev->R Fl}(I:Nat->Ev->Prop):∀(ds:List D)(k:Nat)(ρ:Ev),I k ρ->(∀i d ρ,ds[i]? = some d->I (k+i) ρ->∃q m,g d ρ=.ok q/\(b q=.ok (.nx m)\/b q=.ok (.ct m))/\I (k+i+1) m) ->
  ∃z,Hw ds g b ρ=.ok (.nx z)/\I (k+ds.length) z
 | [],k,ρ,h,_=>⟨ρ,rfl,h⟩
 |d::ds,k,ρ,h,st=>by
  refine Br (λq m U B h2=>?_) (st 0 d ρ rfl h);obtain⟨z,L,J⟩:=Hf I ds (k+1) m h2 λi d ρ F C=>by have:=st (i+1) d ρ (by simpa using F) (by rw[show k+(i+1)=k+1+i by lia];exact C);rwa [show k+(i+1)+1=k+1+i+1 by lia]at this
  refine⟨z,?_,by rw[MJ,show k+(ds.length+1)=k+1+ds.length by lia];exact J⟩;rw[Hw,U];rcases B with B |B<;>simp[B,L]
def comp_map{g:D->Ev->R Ev}{f:Ev->R D}{ρ:Ev}{h:D->D}:∀(ds:List D),(∀d∈ds,∃m,g d ρ=.ok m/\f m=.ok (h d))->Dp g yes f ρ ds=.ok (ds.map h)
 | [],_=>rfl
 |d::ds,st=>by refine Ao (λm B z=>?_) (st d JK);rw[Dp,B];simp[yes,z,comp_map ds λx q=>st x (IK _ q)]
def T7{g:D->Ev->R Ev}{t:Ev->R Bool}{f:Ev->R D}{ρ:Ev}{p:D->Bool}{h:D->D}:∀(ds:List D),(∀d∈ds,∃m,g d ρ=.ok m/\t m=.ok (p d)/\(p d=true->f m=.ok (h d)))->Dp g t f ρ ds=.ok ((ds.filter p).map h)
 | [],_=>rfl
 |d::ds,st=>by
  refine Er (λm J F C=>?_) (st d JK);have z:=T7 (g:=g) (t:=t) (f:=f) (ρ:=ρ) (p:=p) (h:=h) ds λx B=>st x (IK _ B);rw[Dp,J];simp only[R.ok_bind,F];cases q:p d with
  |true=>simp[C q,z,q]
  |false=>simp[z,q]
def Ci{g:D->Ev->R Ev}{t:Ev->R Bool}(q:it ρ=.ok ds)(h2:Dp g t f (Hn n caps ρ) ds=.ok xs)(m:xs.length<=16777216):Bo it n caps g t f ρ=.ok (.lst xs):=by unfold Bo;simp[q,h2,m,R.nox]
mutual
def D.pl:Nat->D->Bool
 |_,.int _=>true
 |_,.non=>true
 |n,.tup xs=>match n with |0=>false |n+1=>Et n xs
 |n,.lst xs=>match n with |0=>false |n+1=>Et n xs
 |_,_=>false
def Et:Nat->List D->Bool
 |_,[]=>true
 |n,d::ds=>d.pl n && Et n ds
end
def Oc{i:Int}:(D.int i).pl n=true:=by simp[D.pl]
def wj4(l:List Nat):∀d∈Ac l,d.pl n=true:=λd q=>by refine Ao (λx _ m=>?_) (Kr.mp q);obtain rfl:=m;exact Oc
def Tt{n:Nat}:∀{ds:List D},Et n ds=true↔∀d∈ds,d.pl n=true
 | []=>by simp[Et]
 |d::ds=>by rw[Et,QC,Tt];simp
mutual
theorem nU:∀(n m:Nat)(d:D),n<=m->d.pl n=true->d.cok m=true
 |n,m,.int _,_,_=>by simp[D.cok]
 |n,m,.non,_,_=>by simp[D.cok]
 |n,m,.bl _,_,h=>by simp[D.pl]at h
 |n,m,.str _,_,h=>by simp[D.pl]at h
 |n,m,.exc _ _ _,_,h=>by simp[D.pl]at h
 |0,m,.tup xs,_,h=>by simp[D.pl]at h
 |0,m,.lst xs,_,h=>by simp[D.pl]at h
 |n+1,0,.tup xs,h,_=>by lia
 |n+1,0,.lst xs,h,_=>by lia
 |n+1,m+1,.tup xs,h,z=>by
  have q:Et n xs=true:=by simpa[D.pl] using z
  simpa[D.cok] using Ky n m xs (by lia) q
 |n+1,m+1,.lst xs,h,z=>by
  have q:Et n xs=true:=by simpa[D.pl] using z
  simpa[D.cok] using Ky n m xs (by lia) q
theorem Ky:∀(n m:Nat)(ds:List D),n<=m->Et n ds=true->Cw m ds=true
 |n,m,[],_,_=>by simp[Cw]
 |n,m,d::ds,h,z=>by
  have q:d.pl n=true/\Et n ds=true:=by simpa[Et] using z
  simp[Cw,nU n m d h q.1,Ky n m ds h q.2]
end
mutual
theorem xJ:∀(n:Nat)(x y:D),x.pl n=true->y.pl n=true->(PyData.eqv x.py y.py=true↔x=y)
 |n,.int i,.int j,_,_=>by simp[D.py,PyData.eqv]
 |n,.int i,.non,_,_=>by simp[D.py,PyData.eqv]
 |n,.non,.int j,_,_=>by simp[D.py,PyData.eqv]
 |n,.non,.non,_,_=>by simp[D.py,PyData.eqv]
 |n,.int i,.tup ys,_,_=>by simp[D.py,PyData.eqv]
 |n,.int i,.lst ys,_,_=>by simp[D.py,PyData.eqv]
 |n,.non,.tup ys,_,_=>by simp[D.py,PyData.eqv]
 |n,.non,.lst ys,_,_=>by simp[D.py,PyData.eqv]
 |n,.tup xs,.int j,_,_=>by simp[D.py,PyData.eqv]
 |n,.tup xs,.non,_,_=>by simp[D.py,PyData.eqv]
 |n,.tup xs,.lst ys,_,_=>by simp[D.py,PyData.eqv]
 |n,.lst xs,.int j,_,_=>by simp[D.py,PyData.eqv]
 |n,.lst xs,.non,_,_=>by simp[D.py,PyData.eqv]
 |n,.lst xs,.tup ys,_,_=>by simp[D.py,PyData.eqv]
 |0,.tup xs,.tup ys,h,_=>by simp[D.pl]at h
 |0,.lst xs,.lst ys,h,_=>by simp[D.pl]at h
 |n+1,.tup xs,.tup ys,z,h2=>by
  have q:Et n xs=true:=by simpa[D.pl] using z
  have m:Et n ys=true:=by simpa[D.pl] using h2
  simp only[D.py,PyData.eqv,D.tup.injEq];exact Qi n xs ys q m
 |n+1,.lst xs,.lst ys,z,h2=>by
  have q:Et n xs=true:=by simpa[D.pl] using z
  have m:Et n ys=true:=by simpa[D.pl] using h2
  simp only[D.py,PyData.eqv,D.lst.injEq];exact Qi n xs ys q m
 |n,.bl _,_,h,_=>by simp[D.pl]at h
 |n,.str _,_,h,_=>by simp[D.pl]at h
 |n,.exc _ _ _,_,h,_=>by simp[D.pl]at h
 |n,_,.bl _,_,h=>by simp[D.pl]at h
 |n,_,.str _,_,h=>by simp[D.pl]at h
 |n,_,.exc _ _ _,_,h=>by simp[D.pl]at h
theorem Qi:∀(n:Nat)(xs ys:List D),Et n xs=true->Et n ys=true->(PyData.eqvAll (Gm xs) (Gm ys)=true↔xs=ys)
 |n,[],[],_,_=>by simp[Gm,PyData.eqvAll]
 |n,[],y::ys,_,_=>by simp[Gm,PyData.eqvAll]
 |n,x::xs,[],_,_=>by simp[Gm,PyData.eqvAll]
 |n,x::xs,y::ys,z,h2=>by
  have q:x.pl n=true/\Et n xs=true:=by simpa[Et] using z
  have m:y.pl n=true/\Et n ys=true:=by simpa[Et] using h2
  simp only[Gm,PyData.eqvAll,QC,List.cons.injEq];rw[xJ n x y q.1 m.1,Qi n xs ys q.2 m.2]
end
def D.eqb_true{x:D}(q:x.pl n=true)(m:y.pl n=true):x.eqb y=true↔x=y:=xJ n x y q m
@[simp] def m_{a b:Int}:eqD (.int a) (.int b)=some (.bl (decide (a=b))):=by
 show(if _ then _ else _)=_;rw[if_pos (by simp[D.cok])];have e:(D.int a).eqb (D.int b)=decide (a=b):=by rw[bF,D.eqb_true (n:=0) rfl rfl,decide_eq_true_eq,D.int.injEq]
 rw[e]
@[simp] def yd9{a b:Int}:neD (.int a) (.int b)=some (.bl (decide (a≠b))):=by
 show(if _ then _ else _)=_;rw[if_pos (by simp[D.cok])];have e:(!(D.int a).eqb (D.int b))=decide (a≠b):=by rw[bF,aA,decide_eq_true_eq,<-Bool.not_eq_true,D.eqb_true (n:=0) rfl rfl,D.int.injEq]
 rw[e]
def xZ{x:D}{ys:List D}(m:x.pl n=true)(z:∀y∈ys,y.pl n=true):(ys.any λy=>y.eqb x)=true↔x∈ys:=by
 rw[qF];constructor
 ·rintro⟨y,q,h2⟩;rw[D.eqb_true (z y q) m]at h2;exact h2 ▸ q
 ·intro h;exact⟨x,h,(D.eqb_true m m).mpr rfl⟩
def rM{x d:D}{ys:List D}(m:Gv d=some ys){b:Bool}(B:n<=60)(z:x.pl n=true)(q:∀y∈ys,y.pl n=true)(F:b=true↔x∈ys):inD x d=some (.bl b):=by
 have e:(ys.any λy=>y.eqb x)=b:=by rw[bF,xZ z q,F]
 have c:(x.cok 60 && Cw 60 ys)=true:=by rw[nU n 60 x B z,Ky n 60 ys B (Tt.mpr q)];rfl
 cases d with
 |lst C=>cases m;show(if _ then _ else _)=_;rw[if_pos c,e]
 |tup C=>cases m;show(if _ then _ else _)=_;rw[if_pos c,e]
 |_=>cases m
def ye0{x d:D}{ys:List D}(m:Gv d=some ys){b:Bool}(B:n<=60)(z:x.pl n=true)(q:∀y∈ys,y.pl n=true)(F:b=true↔x∈ys):aO x d=some (.bl (!b)):=by
 have e:(ys.any λy=>y.eqb x)=b:=by rw[bF,xZ z q,F]
 have c:(x.cok 60 && Cw 60 ys)=true:=by rw[nU n 60 x B z,Ky n 60 ys B (Tt.mpr q)];rfl
 cases d with
 |lst C=>cases m;show(if _ then _ else _)=_;rw[if_pos c,e]
 |tup C=>cases m;show(if _ then _ else _)=_;rw[if_pos c,e]
 |_=>cases m
def t_(q:Dr xs=true)(h:xs.Pairwise λa b=>Gz a b=true):srt xs=xs:=by refine eq_of_sorted (le:=λa b=>Gz a b=true) (Dm xs) (Eh xs) h λa B b z m h2=>?_;unfold Gz at m h2;rw[aA]at m h2;exact oY q ((Dm xs).mem_iff.mp B) ((Dm xs).mem_iff.mp z) (Ff _ _ h2 m)
def O8(l:List Nat):Dr (Ac l)=true:=by unfold Dr;rw[bG];refine .inl (PQ.mpr λd q=>?_);refine Ao (λx _ m=>?_) (Kr.mp q);obtain rfl:=m;rfl
theorem wt6{a b:Nat}(h:a<=b):Gz (.int (a:Int)) (.int (b:Int))=true:=by
 show(!Dh [(b:Int)] [(a:Int)])=true;rw[Dh];by_cases e:(b:Int)=a
 ·rw[if_pos e];rfl
 ·rw[if_neg e,decide_eq_false (by lia)];rfl
def Uk{l:List Nat}(h:l.Pairwise (·<·)):(Ac l).Pairwise λa b=>Gz a b=true:=by unfold Ac;rw[gW];exact h.imp λm=>wt6 (cD m)
variable {m:List Nat}
def kz5{l:List Nat}(hl:l.Nodup)(z:m.Pairwise (·<·))(h:∀k,k∈l↔k∈m):srt (Ac l)=Ac m:=by have p:l.Perm m:=(cM hl (z.imp λq=>JW q)).mpr h;have B:(Ac l).Perm (Ac m):=p.map _;rw[Oo (O8 m) B];exact t_ (O8 m) (Uk z)
def Wk(l:List Nat):Bl (Ac l)=some (l.map λ(x:Nat)=>(x:Int)):=by have:=Te (l.map λ(x:Nat)=>(x:Int));rw[NP]at this;exact this
theorem jf3{l:List Nat}(C:l.length<64)(B:m.Pairwise (·<·))(h:∀k,k∈l↔k∈m):Dq [.lst (Ac l)]=some (.lst (Ac m)):=by
 have q:(Ac l).length<64:=by rw[Ba];exact C
 unfold Dq;have e:R6 [.lst (Ac l)]=some (l.map λ(x:Nat)=>(x:Int)):=by show(if(Ac l).length<64 then Bl (Ac l) else none)=_;rw[if_pos q,Wk]
 rw[e];show some (D.lst (cX _))=_;congr 2;unfold cX;have J:(m.map λ(x:Nat)=>(x:Int)).Nodup:=by unfold List.Nodup;rw[gW];exact B.imp λF=>by lia
 have p:(Vx (l.map λ(x:Nat)=>(x:Int))).Perm (m.map λ(x:Nat)=>(x:Int)):=(cM (Lp _) J).mpr λk=>by rw[Nr,HX,HX];exact⟨λ⟨x,z,h2⟩=>⟨x,(h x).mp z,h2⟩,λ⟨x,z,h2⟩=>⟨x,(h x).mpr z,h2⟩⟩
 have L:(m.map λ(x:Nat)=>(x:Int)).map D.int=Ac m:=by rw[NP];rfl
 rw[Oo (Th _) (p.map D.int),L];exact t_ (O8 m) (Uk B)
theorem jm9{l:List Nat}(q:l.length<64)(hl:l.Nodup)(z:m.Pairwise (·<·))(h:∀k,k∈l↔k∈m){d:D}(B:Gv d=some (Ac l)):Fd [d]=some (.lst (Ac m)):=by
 unfold Fd;dsimp only;rw[B];dsimp only;rw[if_pos ⟨by rw[Ba];exact q,.inr (O8 l)⟩];congr 2;have e:=kz5 hl z h;split
 ·rename_i h2;rw[<-T3 h2];exact e
 ·exact e
def Y7(l:List Nat):Mv (Ac l)=(List.range l.length).map λ(i:Nat)=>D.tup [.int (i:Int),.int ((l.getD i 0:Nat):Int)]:=by
 apply bI
 ·simp[Mv,Ba]
 ·intro i z h2;have q:i<l.length:=by simpa using h2
  simp[Mv,Ac,q]
def pI:∀bs:List Bool,M8 (bs.map .bl)=some bs
 | []=>rfl
 |b::bs=>by rw[HJ,M8,pI bs];rfl
def wp5(bs:List Bool):dM [.lst (bs.map .bl)]=some (.bl (bs.any id)):=by show(M8 (bs.map .bl)).map _=_;rw[pI];rfl
def kI(bs:List Bool):aY [.lst (bs.map .bl)]=some (.bl (bs.all id)):=by show(M8 (bs.map .bl)).map _=_;rw[pI];rfl
theorem z6{l:List Nat}{d:D}{b:Bool}(q:Gv d=some (Ac l))(z:b=true↔k∈l):aO (.int (k:Int)) d=some (.bl (!b)):=
 ye0 (n:=0) q (by lia) Oc (wj4 l) (by rw[z,Yc])
section
variable {apos L:JN}{U:Ev->R (List D)}{g:D->Ev->R Ev}{t:Ev->R Bool}{f:Ev->R D}
def Z7(i:Nat)(nd:X.N.Nodup)(ao:Nk scope X.env.scope X.N caps=true)(hc:X.calm=true)(hi:PId X c l tg iter U)
  (hg:∀(C:BK)(s:BJ)(H:Hp)(ex:List BK)(H0:Hp)(S0:AS)(Z:List BK),Tb c.H0 H0->PGd (cxB X (Fy X T caps) scope C s H ex) ⟨H0,S0,[],Jr,Z⟩ tg g)
  (ht:∀(C:BK)(s:BJ)(H:Hp)(ex:List BK)(H0:Hp)(S0:AS)(Z:List BK),Tb c.H0 H0->TsD (cxB X (Fy X T caps) scope C s H ex) ⟨H0,S0,[],Jr,Z⟩ ifs t)
  (he:∀(C:BK)(s:BJ)(H:Hp)(ex:List BK)(H0:Hp)(S0:AS)(Z:List BK),Tb c.H0 H0->PEd (cxB X (Fy X T caps) scope C s H ex) ⟨H0,S0,[],Jr,Z⟩ .any elt f)
  (ak:∀d ρ ab,g d ρ=.ok ab->ab.length=ρ.length/\∀i,T.length<=i->ab[i]? = ρ[i]?)(af:Q9 c.O l caps=true)(hs:∀x,FN iter X.env x=pure x)
  (hN:X.N[i]? = some x)(hx:Loc X.env.scope x)(ag:FW (.ListComp elt [⟨tg,iter,ifs,0⟩] scope pos) (some (.Name x L)) apos.line X.env=pure true)(hf:X.fn x=true\/X.env.scope.names.lookup x=some .local)
  {D:Ends}(I:Inv X pins σ H s)(E:Bb X.K c hs' ρ σ H)
  (q:RQ (Bo U T.length caps g t f ρ) (λd=>∀a vs ds H',d=.lst ds->Ag H H'->H a=none->H' a=some (.lst vs)->Ak X.K H' (AS.but (lvS c ρ σ H l) a) ds vs->D.nx (σ.set i (some (.ref a))) H') (λe=>∀v H',Ag H H'->Rep X.K H' (lvS c ρ σ H .any) e v->c.Ex e v H')):
  BP (BV X.prog X.w) X.A (exec (.Assign [.Name x L] (.ListComp elt [⟨tg,iter,ifs,0⟩] scope pos) apos) X.env) (SP X pins D) X.xe s:=by
 have B:J1 X scope T caps:=.of ao;rw[exec_Assign_Name_used x L _ apos ag];refine BX (QF (BX ?_));rw[arm_evalThenUse_ListComp];refine BX ?_;show BP (BV X.prog X.w) X.A (WW (.ListComp elt [⟨tg,iter,ifs,0⟩] scope pos) scope X.env (firstIterPos [⟨tg,iter,ifs,0⟩] pos) (XR []) false (DY iter X.env) (some (QM (.Name x L) X.env))) _ _ _;have q:=RQ.bind.mp q;cases aa:U ρ with
 |ok ds =>
  rw[aa]at q;refine Ao (λd ed q=>?_) (RQ.nox q);refine Ao (λxs ex ed=>?_) (Ej ed);by_cases hz:xs.length<=16777216
  ·rw[if_pos hz]at ed;cases ed;refine Yx B hc hi hg ht he ak af hs I E aa ex hz λa vs s3 s' H3 H' fp ar I3 f3 J sm Ha hv r=>?_;have I1:Inv X pins σ H' s':=I3.call' (ch:=fp) J.os J.base J.hok J.bare λb hb=>⟨(f3 b hb).2.2.2.1,(f3 b hb).2.1,(f3 b hb).2.2.2.2.1,(f3 b hb).2.2.2.2.2⟩;have F:=I3.fpOk (H':=H') (F_ s3.heap.objs.size) J.free;refine bU ?_
   ·refine Z9 (v:=.ref a) I1 nd hN hx rfl (λae I2 ah=>?_) hf;revert ah;refine Ao λb sb hb=>?_;refine Ao (λm hn _=>?_) (J.loc);have ai:s3.heap.objs.size≠b:=by
     rcases hb with rfl |hb
     ·exact F.2.1
     ·exact(F.2.2.2.2.1 x b hb).symm
    have aj:ae.heap.Ns s3.heap.objs.size m:=by revert hn;refine aU λo es ep ho rr=>?_;exact⟨o,es,ep,(sb.2 _ ai).trans ho,rr⟩
    refine⟨m,aj,λh' aq=>?_⟩;refine DN (DN ⟨σ.set i (some (.ref a)),H',?_,q a vs xs H' rfl sm Ha hv r⟩);exact I2.turned (t':=ae.toks) (h':=h') (it:=s3.heap.objs.size) (λb o hb e=>(aq.2 b hb).trans e) J.free F.2.1 F.2.2.2.1 F.2.2.2.2.1 F.2.2.2.2.2
  ·rw[if_neg hz]at ed;cases ed
 |exc y=>rw[aa]at q;refine K_ (cl:=Vs scope X.env) rfl hs (B.clo I) B.kind B.names ?_;refine thn (hi pins s σ H (λ_ _=>False) I ⟨hs',ρ,E,by rw[aa];exact q⟩) λv s1 h1=>thn h1 λau s2 h2=>?_;revert h2;refine rN λ_ _ _ _ _ _ _ _ _ _ z=>?_;exact z.elim
 |bad=>rw[aa]at q;exact q.elim
def setC(i:Nat)(nd:X.N.Nodup)(ag:Nk scope X.env.scope X.N caps=true)(hc:X.calm=true)(hi:PId X c l tg iter U)
  (hg:∀(C:BK)(s:BJ)(H:Hp)(ex:List BK)(F:Hp)(B:AS)(Z:List BK),PGd (cxB X (Fy X T caps) scope C s H ex) ⟨F,B,[],Jr,Z⟩ tg g)
  (ht:∀(C:BK)(s:BJ)(H:Hp)(ex:List BK)(F:Hp)(B:AS)(Z:List BK),TsD (cxB X (Fy X T caps) scope C s H ex) ⟨F,B,[],Jr,Z⟩ ifs t)
  (he:∀(C:BK)(s:BJ)(H:Hp)(ex:List BK)(F:Hp)(B:AS)(Z:List BK),PEd (cxB X (Fy X T caps) scope C s H ex) ⟨F,B,[],Jr,Z⟩ .any elt f)
  (af:∀d ρ J,g d ρ=.ok J->J.length=ρ.length/\∀i,T.length<=i->J[i]? = ρ[i]?)(aa:Q9 c.O l caps=true:=by rfl)(hs:∀x,FN iter X.env x=pure x:=by intro _;rfl)
  (hl:l.le .no=true:=by rfl)(ae:c.O.contains i=false:=by rfl)(hN:X.N[i]? = some x:=by rfl)(hx:Loc X.env.scope x:=by first |exact Or.inl rfl |exact Or.inr rfl)(ab:FW (.ListComp elt [⟨tg,iter,ifs,0⟩] scope pos) (some (.Name x L)) apos.line X.env=pure true:=by rfl)
  (hf:X.fn x=true\/X.env.scope.names.lookup x=some .local:=by first |exact .inl rfl |exact .inr rfl):
  PSd X c (.Assign [.Name x L] (.ListComp elt [⟨tg,iter,ifs,0⟩] scope pos) apos) (asg i (Bo U T.length caps g t f)):=λpins s σ H D I q=>by
 revert q;refine Bt λhs' ρ E q=>?_;refine Z7 i nd ag hc hi (λC s H ex F B Z _=>hg C s H ex F B Z) (λC s H ex F B Z _=>ht C s H ex F B Z) (λC s H ex F B Z _=>he C s H ex F B Z) af aa hs hN hx ab hf I E ((RQ.bind.mp q).mono (λd q1 a vs ds H' ed s1 ha hv r=>?_) λy z=>Ef E z);subst ed;refine q1 _ H' ((E.mono s1).set (by simpa using ae) ⟨a,vs,rfl,.inl ⟨hv,?_⟩,r.mono (Ag.refl _) λo z=>?_⟩)
 ·exact E.freshN ⟨a,rfl,ha⟩
 ·exact Ls E hl z.1
def sO(i:Nat)(nd:X.N.Nodup)(ag:Nk scope X.env.scope X.N caps=true)(hc:X.calm=true)(hi:PId X c l tg iter U)
  (hg:∀(C:BK)(s:BJ)(H:Hp)(ex:List BK)(F:Hp)(B:AS)(Z:List BK),PGd (cxB X (Fy X T caps) scope C s H ex) ⟨F,B,[],Jr,Z⟩ tg g)
  (ht:∀(C:BK)(s:BJ)(H:Hp)(ex:List BK)(F:Hp)(B:AS)(Z:List BK),TsD (cxB X (Fy X T caps) scope C s H ex) ⟨F,B,[],Jr,Z⟩ ifs t)
  (he:∀(C:BK)(s:BJ)(H:Hp)(ex:List BK)(F:Hp)(B:AS)(Z:List BK),PEd (cxB X (Fy X T caps) scope C s H ex) ⟨F,B,[],Jr,Z⟩ .any elt f)
  (af:∀d ρ J,g d ρ=.ok J->J.length=ρ.length/\∀i,T.length<=i->J[i]? = ρ[i]?)(aa:Q9 c.O l caps=true:=by rfl)(hs:∀x,FN iter X.env x=pure x:=by intro _;rfl)
  (hl:l.le .no=true:=by rfl)(ae:c.O.contains i=true:=by rfl)(hN:X.N[i]? = some x:=by rfl)(hx:Loc X.env.scope x:=by first |exact Or.inl rfl |exact Or.inr rfl)(ab:FW (.ListComp elt [⟨tg,iter,ifs,0⟩] scope pos) (some (.Name x L)) apos.line X.env=pure true:=by rfl)
  (hf:X.fn x=true\/X.env.scope.names.lookup x=some .local:=by first |exact .inl rfl |exact .inr rfl):
  PSd X c (.Assign [.Name x L] (.ListComp elt [⟨tg,iter,ifs,0⟩] scope pos) apos) (asg i (Bo U T.length caps g t f)):=λpins s σ H D I q=>by
 revert q;refine Bt λhs' ρ E q=>?_;refine Z7 i nd ag hc hi (λC s H ex F B Z _=>hg C s H ex F B Z) (λC s H ex F B Z _=>ht C s H ex F B Z) (λC s H ex F B Z _=>he C s H ex F B Z) af aa hs hN hx ab hf I E ((RQ.bind.mp q).mono (λd q1 a vs ds H' ed s1 ha hv r=>?_) λy z=>Ef E z);subst ed;exact q1 _ H' (E.setO (by simpa using ae) s1 ha hv (r.mono (Ag.refl _) λo z=>⟨Ls E hl z.1,z.2⟩))
end
section
variable {o:CP}{z q:Ev->R D}
def fK(i:Nat)(f:Ev->R D):Ev->R Fl:=λρ=>match ρ[i]? with
 |some (some (.lst ds))=>(f ρ).bind λd=>match d with
  | .lst es=>if ds.length+es.length<=16777216 then .ok (.nx (ρ.set i (some (.lst (ds++es))))) else .bad
  |_=>.bad
 |_=>.bad
theorem yn3(i:Nat)(he:PEf X c .no e f)(hi:c.O.contains i=true:=by rfl)(hN:X.N[i]? = some x:=by rfl)(hv:Vis X.env.scope x:=by first |exact Or.inl rfl |exact Or.inr (Or.inl rfl) |exact Or.inr (Or.inr rfl))(hd:Zd x:=by decide)
  (ae:(x == ("__classdict__" : BZ))=false:=by decide)(J:JQ (.Name x p) "extend" X.env (DY (.Name x p) X.env)=DY (.Name x p) X.env:=by rfl)
  (aa:((PB cpos (BR [e] X.env)).all (λx=>!x.1) && (VN cpos (OD [] X.env)).all (λx=>x.1.isSome)
   && decide ([e].length+([]:List KY).length+(if([]:List KY).isEmpty then 0 else 1)<30))=true:=by rfl)
  (C:(apos.endLine == cpos.line)=true:=by rfl)(hs:BR [e] X.env=(false,DY e X.env)::BR [] X.env:=by rfl)(B:Zp X.env cpos []:=by rfl)
  (ab:FW (.Call (.Attribute (.Name x p) "extend" apos) [e] [] cpos) none pos.line X.env=pure false:=by rfl):
  PSd X c (.Expr (.Call (.Attribute (.Name x p) "extend" apos) [e] [] cpos) pos) (fK i f):=
 PS.imp (U7 (m5 PySem.F.plainAttrs_list PySem.F.slot_list_extend PySem.F.type_list_extend ki3 (pv i hN hv hd ae) (Dt he Hs hs) J aa C hs B) ab) λD σ H q=>by
 revert q;refine Bt λhs ρ E q=>?_;have U:i∈c.O:=by simpa using hi
 unfold fK at q;split at q
 ·rename_i ds hd;refine fU (λa vs af e0 e1 e2 e3 r=>?_) (E.ownL i _ U hd);cases e0;refine⟨.ref a,e1,.inl ⟨rfl,vs,SqL.of e2⟩,?_⟩;refine⟨hs,ρ,E,(RQ.bind.mp q).mono (λd L b ws es H1 ed s1 hb hw r1=>?_) λx z=>Ef E z⟩;subst ed;have L:RQ (if ds.length+es.length<=16777216 then R.ok (Fl.nx (ρ.set i (some (PD.D.lst (ds++es))))) else R.bad) _ _:=L;by_cases hz:ds.length+es.length<=16777216
  ·rw[if_pos hz]at L;have l:=r.length;have l1:=r1.length;have E1:=E.mono s1;refine⟨a,b,vs,ws,rfl,rfl,s1 _ _ e2,hw,by rw[CV];omega,?_⟩;exact L σ _ (E1.write U hd e1 (s1 _ _ e2) ((r.mono s1 λ_ z=>z).append (r1.mono (Ag.refl _) λ_ z=>z.1)))
  ·rw[if_neg hz]at L;exact L.elim
 ·exact q.elim
end
end PD
namespace PySem
open Sem (wp)
theorem Px{prog:B_}{w:CW}{A:EY}{E:A_->BJ->Prop}{s:BJ}{l:BK}{items:Array A_}{n:Nat}{k:Int}{t:Tok}{v:A_}{Q:Unit->BJ->Prop}(c:s.heap.get? l=some {cls:=.type "list",data:=.seq items n})
  (f:0<=k)(a:k<2 ^ 63)(h:k<items.size)(e:Q () {s with heap:=s.heap.update l (Obj.mapSeq (·.setIfInBounds k.toNat v))}):
  BP (BV prog w) A (S_ (.ref l) (.int k t) v) Q E s:=by
 have b:s.heap.IsList l items:=⟨_,c,rfl,n,rfl⟩;unfold S_;try with_reducible refine DK ?_
 first |refine BX (DN ?_) |skip
 refine BX (bT b.typeIs (by decide) (BX (C_ (name:=Str.ofString "__setitem__") b.typeIs bY (CZ bY b.typeIs entry_list_setitem ?_ (args_list_setitem _ _ _)))));show BP _ _ (Builtin.List.listSubscript? (.int k t) >>= _) _ _ s;refine BX (wpAny_listSubscript_int (fitsIndex_of f a) ?_);clear a;obtain⟨j,rfl⟩:=Int.eq_ofNat_of_zero_le f;have g:j<items.size:=by lia
 show BP _ _ ((seqItemAt l j >>= λr=>pure (r.map (j,·))) >>= _) _ _ s;refine BX (BX (wpAny_seqItemAt c rfl (DN ?_)));rw[show items[j]? = some items[j] from YB g];show BP _ _ (setSeqItemAt l j v >>= _) _ _ s;refine BX (wpAny_setSeqItemAt c rfl ?_);first |exact BX (DN (DN ⟨.none,rfl,DN e⟩)) |exact DN ⟨.none,rfl,DN e⟩
end PySem
namespace PD
open PySem PySem.Spec PyProof.Rows L2
def yp5:iV:=λo i v H Q=>∃(l:BK)(xs:List V)(j:Nat),o=.ref l/\i=.int (j:Int)/\H l=some (.lst xs)/\j<xs.length/\Q (upd H l (.lst (xs.set j v)))
def Vals.set:∀{xs:List V}{b:List A_}{v:V}{u:A_}(j:Nat),Vals xs b->RelV v u->Vals (xs.set j v) (b.set j u)
 |_,_,_,_,j,.nil,_=>by simp;exact .nil
 |_,_,_,_,0,.cons _ r,a=>.cons a r
 |_,_,_,_,j+1,.cons c r,a=>.cons c (Vals.set j r a)
variable {X:Cx}{c:DC}
section
variable {l:Lv}
theorem set_list:sE X yp5:=by
 intro b s B H o i v C x u Q I w p m h;obtain⟨l,g,j,rfl,rfl,f,F,q⟩:=h;cases w;obtain⟨t,rfl⟩:=(show ∃t,x=Value.int (j:Int) t from p);have⟨z,a,n,r,E,e⟩:=I.lstM f;have A:j<a.toArray.size:=by rw[JZ];lia
 have y:=z;rw[CV]at y;refine Px (k:=(j:Int)) e (by lia) (by lia) (by lia) ?_;rw[YL];exact⟨_,I.lset (t':=s.toks) (its':=a.set j u) (ys:=g.set j v) f e (by simp) (Vals.set j r m) (by rw[qC];exact z),q⟩
def putD(i:Nat)(f e:Ev->R D):Ev->R Fl:=λa=>(e a).bind λd=>match a[i]? with
 |some (some (.lst b))=>(f a).bind λk=>match k with
  | .int (.ofNat j)=>if j<b.length then .ok (.nx (a.set i (some (.lst (b.set j d))))) else .bad
  |_=>.bad
 |_=>.bad
theorem iJ(i:Nat){x:BZ}{p pos pos':JN}{b o:CP}{F C:Ev->R D}(Q:PEd X c .no o C)(T:PEd X c .no b F)(hi:c.O.contains i=true:=by rfl)(Y:X.N[i]? = some x:=by rfl)(f:Vis X.env.scope x:=by first |exact Or.inl rfl |exact Or.inr (Or.inl rfl) |exact Or.inr (Or.inr rfl))(n:Zd x:=by decide)
  (w:(x == ("__classdict__" : BZ))=false:=by decide)
  (U:∀v,QM (.Subscript (.Name x p) b pos') X.env v=(do
   let m <-MN [v] (DY (.Name x p) X.env);let u <-MN [v,m] (DY b X.env)
   bW pos'
   MN [v,m,u] (S_ m u v)
   release [v,m,u] []):=by intro _;rfl)
  (A:swapsWithSole [.Subscript (.Name x p) b pos'] o pos.line X.env=pure false:=by rfl)(P:swappedStores [.Subscript (.Name x p) b pos'] o X.env=pure none:=by rfl)
  (Z:(FZ [.Subscript (.Name x p) b pos'] X.env).map (·.2)=[QM (.Subscript (.Name x p) b pos') X.env]:=by rfl):
  PSd X c (.Assign [.Subscript (.Name x p) b pos'] o pos) (putD i F C):=
 PS.imp (ww6 Q (ww3 (pv i Y f n w) T set_list U) A P Z) λD0 J H q=>by
 revert q;refine Bt λA ρ E q=>?_;have g:i∈c.O:=by simpa using hi
 refine Bk E ((RQ.bind.mp q).mono (λd s v H1 s1 y M=>?_) λx z=>Ef E z);split at s
 ·rename_i ds n;refine fU (λa K aa e0 I G e3 r=>?_) (y.ownL i _ g n);cases e0;refine⟨.ref a,I,?_⟩;refine Bk y ((RQ.bind.mp s).mono (λdk e k H2 h E2 L=>?_) λx z=>Ef y z);split at e
  ·rename_i j;cases(show k=.int (Int.ofNat j) from L);by_cases B:j<ds.length
   ·rw[if_pos B]at e;have ln:=r.length;refine⟨a,K,j,rfl,rfl,h _ _ G,by lia,?_⟩;exact e J _ (E2.write g n I (h _ _ G) (Ak.set j (r.mono h λ_ z=>z) (M.mono h λ_ z=>z)))
   ·rw[if_neg B]at e;exact e.elim
  ·exact e.elim
 ·exact s.elim
end
def Ht(t:Ev->R Bool)(b:Ev->R Fl):Nat->Ev->R Fl
 |0,_=>.bad
 |n+1,e=>(t e).bind λk=>if k then(b e).bind λf=>match f with
  | .nx a=>Ht t b n a
  | .ct a=>Ht t b n a
  | .bk a=>.ok (.nx a)
  | .rt d=>.ok (.rt d)
  else .ok (.nx e)
section
variable {e:CP}{t:Ev->R Bool}{b:Ev->R Fl}{f:Ev->R D}{pos:JN}{a:List DR}
def tY(n:Nat)(I:XM (BV X.prog X.w) X.A X.env X.xe)(J:PTd X c e t)(L:Us X c a b):PSd X c (.While e a [] pos) (Ht t b n):=PS.imp (kx0 I J L) λG v H q=>by
 revert q;refine Bt λj l E q=>?_;refine⟨λm v H=>∃l,Bb X.K c j l v H/\RQ (Ht t b m l) (Fl.ends X.K c j G) (Rg X.K c),⟨n,l,E,q⟩,?_⟩;rintro m r Q ⟨s,F,B⟩;cases m with
 |zero=>exact(B:False).elim
 |succ m =>
  refine Hj F ((RQ.bind.mp B).mono (λk y O P C=>?_) λx z=>Ef F z);cases k with
  |false=>exact y r O C
  |true =>
   rw[if_pos rfl];refine⟨λg p=>∃i,Bb X.K c j i g p/\RQ (Ht t b m i) (Fl.ends X.K c j G) (Rg X.K c),λg p z=>⟨m,cH m,z⟩,j,s,C,?_⟩;refine(RQ.bind.mp y).mono (λM o=>?_) λ_ z=>z;cases M with
   |nx h=>exact λg p u=>⟨h,u,o⟩
   |ct h=>exact λg p u=>⟨h,u,o⟩
   |bk h=>exact o
   |rt d=>exact o
end
open PySem PySem.Spec PyProof.Rows L2 PySem.W
end PD
namespace PySem
open Sem (wp)
open AutoSeq1 (wpAny_loadPart')
open PyProof.Rows
variable {A:EY}{P:B_}{s:BJ}{X:A_->BJ->Prop}{w:CW}
variable {it:BK}{i:Nat}{items:Array A_}{Q:A_->BJ->Prop}
def M3{t:BK}{x:A_}(a:PyProof.Rows.IsTupIter s.heap it t i)(j:PyProof.Rows.IsTup s.heap t items)(h:items[i]? = some x)
  (l:∀g,PyProof.Rows.IsTupIter g it t (i+1)->Heap.SameBut it s.heap g->Q x {s with heap:=g}):BP (BV P w) A (Builtin.SmallTypes.nextOf (.ref it)) Q X s:=by
 have⟨o,c,k,b⟩:=id a;obtain⟨m,e,_,n,f⟩:=j;unfold Builtin.SmallTypes.nextOf;refine BX (C_ (name:=Str.ofString "__next__") a.typeIs JT (CZ JT a.typeIs ZP ?_ (aF _)));show BP _ _ (XD (.ref it) 0 >>= _) _ _ s;refine BX (CT c b (x:=.ref t) rfl ?_);show BP _ _ (if(Value.ref t == Value.none)=true then _ else _) _ _ s;rw[if_neg (show ¬ ((Value.ref t == Value.none)=true) from XC)];show BP _ _ (XD (.ref it) 1 >>= _) _ _ s;refine BX (CT c b (x:=.int i 0) rfl ?_);show BP _ _ (seqItems? (.ref t) >>= _) _ _ s;refine BX (FQ e f ?_);simp only[YL,h];refine BX (DW c b (by simp) (DN ⟨x,rfl,DN (l _ ?_ (Heap.SameBut.update ..))⟩));exact⟨_,ZK _ c (Obj.isFreed_of_fields (Obj.data_mapFields b _)),(Obj.cls_mapFields ..).trans k,by rw[Obj.data_mapFields b];simp[CQ]⟩
theorem Jq{t:BK}(k:A.handled=none)(b:PyProof.Rows.IsTupIter s.heap it t i)(n:PyProof.Rows.IsTup s.heap t items)(l:items[i]? = none)
  (p:∀j e,kO it s.heap j->(∃o,j.get? e=some o/\o.cls=.type "StopIteration")->X (.ref e) {s with heap:=j}):BP (BV P w) A (Builtin.SmallTypes.nextOf (.ref it)) Q X s:=by
 have⟨o,f,u,h⟩:=id b;obtain⟨q,c,_,r,g⟩:=n;unfold Builtin.SmallTypes.nextOf;refine BX (C_ (name:=Str.ofString "__next__") b.typeIs JT (CZ JT b.typeIs ZP ?_ (aF _)));show BP _ _ (XD (.ref it) 0 >>= _) _ _ s;refine BX (CT f h (x:=.ref t) rfl ?_);show BP _ _ (if(Value.ref t == Value.none)=true then _ else _) _ _ s;rw[if_neg (show ¬ ((Value.ref t == Value.none)=true) from XC)];show BP _ _ (XD (.ref it) 1 >>= _) _ _ s;refine BX (CT f h (x:=.int i 0) rfl ?_);show BP _ _ (seqItems? (.ref t) >>= _) _ _ s;refine BX (FQ c g ?_);simp only[YL,l];refine BX (wpAny_rule (BX (DW f h (by simp) ?_)));show BP _ _ (XS (.type "StopIteration") [] >>= _) _ _ _;refine BX ?_;simp only[XS,jC];refine BX (CG ?_ (by size_fits));refine BX (m:=JD _ _) (RP (a:=Value.none) (by first |rfl | (simp only[JD];rfl)) ?_);refine CG ?_ (by size_fits);simp only[raiseNew];refine BX (V_ ?_)
 first |rw[show A.in1.handled=none from k] |rw[k]
 refine BX (DN (YX ?_));exact p _ _ (((Heap.SameBut.update ..).extBut.push _).push _) ⟨_,KD _ rfl,rfl⟩
def kg0(hh:A.handled=none){t:BK}(hne:t≠it):Draws P w A it [it,t] items.size (λi x=>items[i]? = some x) (λi h=>RL h it t i/\NK h t items) where
 live:=λi h ⟨⟨o,ho,_⟩,_⟩=>⟨o,ho⟩
 frame:=λi h h' ⟨⟨o,ho,r⟩,o2,ho2,r2⟩ k=>⟨⟨o,k it (by simp) o ho,r⟩,o2,k t (by simp) o2 ho2,r2⟩
 item:=λi s Q E hi ⟨hit,ht⟩ hQ=>by refine M3 hit ht (YB hi) λh' h1 h2=>hQ _ h' s.toks (YB hi) ⟨h1,?_⟩ h2;revert ht;refine Ao λo ho r=>?_;exact⟨o,(h2.2 t hne).trans ho,r⟩
 done:=λs Q E ⟨hit,ht⟩ hE=>Jq hh hit ht (by simp) hE
theorem Wv(l:BK)(items:Array A_)(n:Nat)(dct:Option BK)(j:Array (Option A_)):Meets (GZ.«enumerate.__new__» ⟨[.type "enumerate",.ref l],[]⟩) (λ_ R s=>s.heap.get? l=some {cls:=.type "tuple",dict:=dct,data:=.seq items n,slots:=j} /\
   R (.ok (.ret (.ref (s.heap.push {cls:=.type "tuple_iterator",data:=.fields #[.ref l,.int 0 0] }).objs.size))) {s with heap:=(s.heap.push {cls:=.type "tuple_iterator",data:=.fields #[.ref l,.int 0 0] }).push {cls:=.type "enumerate",data:=.fields #[.none,.bool false,.ref s.heap.objs.size,CQ 0,.none,.none] } }):=
 .of_wp λprog w A R s h=>by
  obtain⟨m,g,d,f,k⟩:=s;obtain⟨a,h⟩:=h;have b:=sub_enumerate;have e:NK (Shared.heap ⟨m,g,d,f,k⟩) l items:=⟨_,a,rfl,n,rfl⟩
  wp_walk using MP a
  refine wpAny_stack_any λo=>DN ?_;split
  ·rename_i c _ _ _ _ _;cases(c == Value.type "enumerate")<;>(wp_walk using MP a,bN e;exact⟨_,rfl,h⟩)
  ·wp_walk using MP a,bN e;exact⟨_,rfl,h⟩
def X6{l:BK}(p:NK s.heap l items)
  (h:∀a,mD a (s.heap.objs.size+1) s.heap.objs.size 0 .none->RL a s.heap.objs.size l 0->a.objs.size=s.heap.objs.size+2->(∀b o,s.heap.get? b=some o->a.get? b=some o)->Q (.ref (s.heap.objs.size+1)) {s with heap:=a}):BP (BV P w) A (call (.type "enumerate") [.ref l]) Q X s:=by
 obtain⟨⟨c,dct,q,k⟩,m,g,n,f⟩:=p
 replace g:c=.type "tuple":=g;replace f:q=.seq items n:=f
 subst g f;refine YG F.called_enumerate (by decide) (F.typeCall_enumerate_1 _) (F.newCall_enumerate_1 _) (λobj=>F.args_object_init_2 obj _) F.entry_enumerate_new (Wv l items n dct k) ⟨m,?_⟩;have e:(s.heap.push {cls:=.type "tuple_iterator",data:=.fields #[.ref l,.int 0 0] }).objs.size=s.heap.objs.size+1:=RX ..;show _/\_;rw[e];have j:mD ((s.heap.push {cls:=.type "tuple_iterator",data:=.fields #[.ref l,.int 0 0] }).push {cls:=.type "enumerate",data:=.fields #[.none,.bool false,.ref s.heap.objs.size,CQ 0,.none,.none] }) (s.heap.objs.size+1) s.heap.objs.size 0 .none:=by have z:=KD (s.heap.push {cls:=.type "tuple_iterator",data:=.fields #[.ref l,.int 0 0] }) (o:={cls:=.type "enumerate",data:=.fields #[.none,.bool false,.ref s.heap.objs.size,CQ 0,.none,.none] }) rfl;rw[e]at z;exact z
 exact⟨⟨_,j,rfl⟩,h _ j ⟨_,JH _ (KD _ rfl),rfl,rfl⟩ (by rw[RX,e]) λb o x=>JH _ (JH _ x)⟩
end PySem
namespace PD
open PySem PySem.Spec PyProof.Rows L2
variable {P:B_}{w:CW}
theorem kf9{A:EY}{items:Array A_}(hh:A.handled=none){t it:BK}{n:Nat}(hn:items[n]? = none):Draws P w A it [it,t] n (λ_ _=>True) (λj h=>(RL h it t j/\NK h t items)/\j=n) where
 live:=λi h ⟨⟨⟨o,ho,_⟩,_⟩,_⟩=>⟨o,ho⟩
 frame:=λi h h' ⟨⟨⟨o,ho,r⟩,o2,ho2,r2⟩,e⟩ k=>⟨⟨⟨o,k it (by simp) o ho,r⟩,o2,k t (by simp) o2 ho2,r2⟩,e⟩
 item:=λi s Q E hi ⟨_,e⟩ hQ=>absurd hi (by lia)
 done:=λs Q E ⟨⟨hit,ht⟩,_⟩ hE=>Jq hh hit ht hn hE
def Iet(K:CJ)(a:BK):It:=
 ⟨λi H=>∃b x,SqT K H a b/\b[i]? = some x,λi H x c=>∃t v,x=.ref t/\H t=none/\c=upd H t (.tup [.int (i:Int),v])/\∀b,SqT K H a b->b[i]? = some v,λi H=>∃b,SqT K H a b/\b.length<=i⟩
variable {K:CJ}
theorem ju8{elts:List CP}{k:Nat}{pos:JN}(a e it:BK)(hne:e≠it)(hai:a≠it)(hea:e≠a):
  Turn P w K (.Tuple elts k pos) (Iet K a) [e,it] e (λi h=>(∃old,mD h e it (i:Int) old)/\RL h it a i) where
 mem:=by simp
 obj:=λi h st b hb=>by
  obtain⟨⟨old,he⟩,o,ho,hc,hd⟩:=st;have hb':b=e\/b=it:=by simpa using hb
  rcases hb' with rfl |rfl
  ·exact⟨_,he,λv z=>by cases z⟩
  ·exact⟨o,ho,λv z=>by rw[hd]at z;cases z⟩
 keep:=λi h h' st kp=>⟨st.1.imp λold he=>kp e (by simp) _ he,let ⟨o,q,r⟩:=st.2; ⟨o,kp it (by simp) o q,r⟩⟩
 item:=by
  intro X hP hw hK hc i pins s σ H E I hf st hg;subst hP hw hK;obtain⟨xs,x,hq,hx⟩:=hg;have⟨its,rv,p,hz⟩:=I.tuple hq;have⟨u,hu,ru⟩:=rv.get hx;obtain⟨⟨old,he⟩,hit⟩:=st;have hD:=kg0 (P:=X.prog) (w:=X.w) (A:=X.A.in1) (items:=its.toArray) (by simpa using I.ok.hd hc) hai;have hlt:i<its.toArray.size:=by have:=(LR.mp hu).1;simpa using this
  refine wpAny_pyNext_enum_itemD hD he ⟨hit,p⟩ hlt hne (by simp[hne,hea]) λx' h1 tk hx' heo hst ht1 hz1 hk1=>⟨_,rfl,?_⟩;have hxu:x'=u:=by
   have:its.toArray[i]? = some u:=by simpa using hu
   exact Option.some.inj (hx'.symm.trans this)
  subst hxu;refine UJ heo λh2 he2 hs2=>?_;have hT:s.heap.objs.size≠e:=TJ (HB he);have ht2:h2.get? s.heap.objs.size=some {cls:=.type "tuple",data:=.seq #[.int i tk,x'] }:=(hs2.2 _ hT).trans ht1;have I2:Inv X pins σ (upd H s.heap.objs.size (.tup [.int (i:Int),x])) {s with heap:=h2,toks:=tk+1}:=
   Ge (t':=tk+1) I hf (λb o hb q=>by
    have hb':b≠e/\b≠it:=by simpa using hb
    exact(hs2.2 b hb'.1).trans (hk1 b o hb'.1 hb'.2 q)) (F_ _)
    (show Cj X.prog X.w _ h2 _ (.tup [.int (i:Int),x]) from⟨by show 2<=sizeLine;rw[CV];lia,[.int i tk,x'],.cons ⟨_,rfl⟩ (.cons ru .nil),⟨_,ht2,rfl,_,rfl⟩⟩)
  refine⟨.ref s.heap.objs.size,_,I2,rfl,⟨_,x,rfl,I.hok.fresh (F_ _),rfl,λys hy=>by rw[I.tuple_inj hy hq];exact hx⟩,⟨⟨x',by simpa using he2⟩,?_⟩,λb hb=>?_⟩
  ·obtain⟨o,q,r⟩:=hst.1;exact⟨o,(hs2.2 it (Ne.symm hne)).trans q,r⟩
  ·have hlt:b<s.heap.objs.size:=by
    have⟨oi,hoi,_⟩:=id hit;have hb':b=e\/b=it:=by simpa using hb
    rcases hb' with rfl |rfl
    ·exact HB he
    ·exact HB hoi
   rw[Aj (JW hlt)];exact(hf b hb).1
 done:=by intro X hP hw hK hc i pins s σ H E I hf st hg;subst hP hw hK;obtain⟨xs,hq,hx⟩:=hg;have⟨its,rv,p,hz⟩:=I.tuple hq;obtain⟨⟨old,he⟩,hit⟩:=st;have hl:=rv.length;exact wpAny_pyNext_enum_endD (kf9 (by simpa using I.ok.hd hc) (items:=its.toArray) (n:=i) (t:=a) (by simp;lia)) he ⟨⟨hit,p⟩,rfl⟩ λh' eb=>⟨rfl,O6 (t':=s.toks) I hf λb o hb q=>eb b o (λz=>hb (by simp[z])) q⟩
 self:=λA i s Q E st h=>by obtain⟨⟨old,he⟩,_⟩:=st;exact KJ he h
variable {ds:List D}
def kh3{a:BK}{vs:List V}:ItD K (Iet K a) (Mv ds) λH S=>SqT K H a vs/\Ak K H S ds vs where
 stab:=Xr
 go:=λi H S hi h=>by rw[O3]at hi;refine Ao (λv hv _=>?_) (h.2.get (GK hi));exact⟨vs,v,h.1,hv⟩
 yld:=λi H S x H' h y=>by revert y;refine Yb λt v hz5 ht hz6 y=>?_;obtain rfl:=hz5;obtain rfl:=hz6;refine⟨Ar ht _,λd hd=>?_⟩;refine Ao (λe he hz7=>?_) (Y6 hd);obtain rfl:=hz7;refine Ao (λw hw rw'=>?_) (h.2.get he);have ev:v=w:=Option.some.inj ((y vs h.1).symm.trans hw);subst ev;exact⟨t,_,rfl,TpR.of An,.int (i:Int),[v],rfl,rfl,v,[],rfl,rw'.mono (Ar ht _) (λ_ z=>z),rfl⟩
 stop:=λi H S hi h=>⟨vs,h.1,by rw[<-h.2.length];rw[O3]at hi;exact hi⟩
def iQ(f:Ev->R D):Ev->R (List D):=λa=>(f a).bind λd=>match d with
 | .lst ds=>.ok (Mv ds)
 | .tup ds=>.ok (Mv ds)
 |_=>.bad
variable {X:Cx}{c:DC}{e:CP}{l:Lv}{pos:JN}
section
variable {f:Ev->R D}{p i:JN}{g:List CP}{k:Nat}
def ws4(hm:X.mg "enumerate" = none)(he:PEd X c l e f)(ae:Gl X "enumerate":=by rfl)(G:BR [e] X.env=[(false,DY e X.env)]:=by rfl):
  PId X c l (.Tuple g k pos) (.Call (.Name "enumerate" p) [e] [] i) (iQ f):=by
 intro n s σ H R I h;refine Call_ (Qo I ae hm boot_enumerate (PyProof.Rows.callWith_type1 (thG ((Dt he Hs G:PA X [e] _) i n s σ H (λr m=>∃a,r=[.ref a]/\(((∃A,SqL X.K m a A)/\R (Iel X.K a) m)\/((∃A,SqT X.K m a A)/\R (Iet X.K a) m))) I ?_) λus j r m y T B=>?_) G rfl))
 ·revert h;refine Bt λhs ρ E q=>?_;refine Bk E ((RQ.bind.mp q).mono (λd B v m j E1 T=>?_) λ_ z=>z);cases d with
  |lst ds=>revert T;refine Br λa r aa M U=>?_;obtain rfl:=aa;exact⟨a,rfl,.inl ⟨⟨r,M.sq⟩,B _ _ m j ks8 ⟨M,U⟩⟩⟩
  |tup ds=>revert T;refine Br λa r Z M U=>?_;obtain rfl:=Z;exact⟨a,rfl,.inr ⟨⟨r,(TpR.sq M)⟩,B _ _ m j kh3 ⟨(TpR.sq M),U⟩⟩⟩
  |_=>exact B.elim
 ·revert B;refine Ao λa F q=>?_;obtain rfl:=F;refine Ao (λu C ru=>?_) (vals1 T);obtain rfl:=C;cases ru;have Q:∀(h':CK),(∀b o,j.heap.get? b=some o->h'.get? b=some o)->(∀b,b∈[j.heap.objs.size+1,j.heap.objs.size]->Qz X n m b):=λh' x b hb=>by
   have af:b=j.heap.objs.size+1\/b=j.heap.objs.size:=by simpa using hb
   have L:j.heap.objs.size<=b:=by
    rcases af with rfl |rfl
    ·exact gD _
    ·exact F_ _
   exact y.fpOk L (y.hok.fresh L)
  rcases q with ⟨⟨A,hq⟩,q⟩ | ⟨⟨A,hq⟩,q⟩
  ·refine Er (λY rv pl hz=>?_) (y.list hq);refine call_enumerate_list pl.isList λh' O hI ab x=>?_;refine KJ O ?_;exact⟨j.heap.objs.size+1,[j.heap.objs.size+1,j.heap.objs.size],_,_,m,rfl,y.kept (t':=j.toks) x,kk4 a _ _ (jIe _),⟨⟨.none,by simpa using O⟩,hI⟩,Q h' x,q⟩
  ·refine Er (λY rv pl hz=>?_) (y.tuple hq);have J:a<j.heap.objs.size:=let ⟨o,ho,_⟩:=pl;HB ho;refine X6 pl λh' O hI ab x=>?_;refine KJ O ?_;exact⟨j.heap.objs.size+1,[j.heap.objs.size+1,j.heap.objs.size],_,_,m,rfl,y.kept (t':=j.toks) x,ju8 a _ _ (jIe _) (JW J) (TJ (aB J)),⟨⟨.none,by simpa using O⟩,hI⟩,Q h' x,q⟩
end
def wr3{f:Ev->R D}{ρ:Ev}(h:f ρ=.ok (.lst ds)):iQ f ρ=.ok (Mv ds):=by unfold iQ;rw[h];rfl
def eV:List D->Option D
 | [.lst a]=>(Bl a).map λb=>.int b.sum
 |_=>none
theorem wf9:∀a d,eV a=some d->d.imm=true:=λa d h=>by
 unfold eV at h;split at h
 ·rename_i b;cases e:Bl b with
  |none=>rw[e]at h;cases h
  |some f=>rw[e]at h;cases h;rfl
 ·cases h
def preSum_eq(ns:List Int):∀j,preSum (λi=>ns.getD i 0) j=(ns.take j).sum
 |0=>by simp[preSum]
 |j+1=>by rw[preSum,preSum_eq ns j,qG,dY,O_];cases ns[j]? <;> simp
section
variable {es:List CP}{fs:Ev->R (List D)}
def yb8(U:X.calm=true):Eb X (.builtin "sum") (rC X.K eV):=by
 rintro y s σ H xs us Q I r ⟨S,ds,d,J,e,q⟩;obtain⟨E,rfl⟩:=inv1 e rfl (λx _ _=>by cases x<;>rfl);cases E with
 |lst p =>
  obtain⟨v,rfl,a,vs,rfl,Z,L⟩:=J.one;have e:(Bl p).map (λg=>D.int g.sum)=some d:=e;cases o:Bl p with
  |none=>rw[o]at e;cases e
  |some g =>
   rw[o]at e;cases e;obtain⟨u,rfl,G⟩:=vals1 r;cases G;have⟨f,F,pl,hz⟩:=I.list Z.sq;have C:=ints_of L F o;have m:=pl.isList;have h:a<s.heap.objs.size:=by obtain⟨_,z,_⟩:=m;exact HB z
   have j:f.length=g.length:=IntsAre.length C;refine call_sum_walkG (HR m ?_);refine⟨s.heap.objs.size,[s.heap.objs.size,a],[s.heap.objs.size],f.toArray.size,_,_,λi=>g.getD i 0,rfl,Walks.list (A:=X.A.in1) (I.ok.hd U) _ a (JW h) f.toArray,
    ⟨⟨_,KD _ rfl,rfl,rfl⟩,m.push _⟩,λb Y=>?_,λi v hP=>?_,λh' tk t' O=>?_⟩
   ·have n:b=s.heap.objs.size\/b=a:=by simpa using Y
    rw[RX];rcases n with rfl |rfl
    ·exact cH _
    ·exact aB h
   ·have k:f[i]? = some v:=by simpa using hP
    have⟨T,ev⟩:=LR.mp k;have⟨t,B⟩:=oZ C T;rw[O_,k,RC]at B;exact⟨t,B⟩
   ·rw[preSum_eq,JZ,j,lL];exact⟨.int g.sum,H,I.kept (λb x z=>O b x (λM=>by rw[JG.mp M]at z;exact SN _ (HB z)) (JH _ z)),(show ∃t,_=Value.int g.sum t from⟨_,rfl⟩),q _ H (Ag.refl _) rfl⟩
 |_=>exact nos e
def yq2(h:X.calm=true)(b:X.mg "sum" = none){p:JN}(i:PAd X c l (e::es) fs)(f:Gl X "sum":=by rfl)(g:Zs X.env e es:=by rfl)(a:Zp X.env pos es:=by rfl):
  PEd X c l (.Call (.Name "sum" p) (e::es) [] pos) (bA fs eV):=Yw (yb8 h) PyProof.Rows.boot_sum b i f (by decide) (by decide) g a
end
end PD
namespace PySem
open Sem (wp)
def js4{P:B_}{w:CW}(d:BK)(b:(d == GX)=false):
  MeetsIn P w (GZ.«dict.items» ⟨[.ref d],[]⟩) (λ_ R s=>s.TypeIs (.ref d) "dict"/\R (.ok (.ret (.ref s.heap.objs.size))) {s with heap:=s.heap.push {cls:=.type "dict_items",data:=.fields #[.ref d] } }):=
 .of_wp λA R s ⟨a,h⟩=>by unfold GZ.«dict.items» Builtin.Dict.noArgs;refine BX (BX (wpAny_notOrdered_dict a ?_));show BP _ _ (pure d) _ _ s;refine DN ?_;show BP _ _ (Builtin.Dict.showsAll d >>= _) _ _ s;unfold Builtin.Dict.showsAll;rw[if_neg (by rw[b];exact XC)];refine BX (DN (BX (CG (DN ⟨_,rfl,h⟩))))
variable {od:GJ}{ep i:Nat}{Q:Option A_->BJ->Prop}{it:BK}{c:A_}
section
variable {P:B_}{w:CW}{A:EY}{E:A_->BJ->Prop}{s:BJ}
theorem js3{v d:BK}{es:Array RN}{Q:A_->BJ->Prop}(e:s.heap.IsItemsView v d)(h:s.heap.get? d=some od)(a:od.data=.dict es ep)
  (k:Q (.ref s.heap.objs.size) {s with heap:=s.heap.push {cls:=.type "dict_itemiterator",data:=.fields #[.none,.bool false,.ref d,.int 0 0,.int es.size 0,.int ep 0,.none,.none] } }):BP (BV P w) A (UT (.ref v)) Q E s:=by
 refine Er (λc f j g=>?_) (id e);refine QT e.typeIs F.slot_dict_items_iter (CZ F.slot_dict_items_iter e.typeIs F.entry_dict_items_iter ?_ (F.args_dict_items_iter_1 _));unfold GZ.«dict_items.__iter__»;refine BX (DN ?_);refine BX ?_;unfold Builtin.Dict_items.dictOf;refine BX (CT f g (x:=.ref d) rfl (DN ?_));refine BX ?_;unfold Builtin.Dict_items.newIterator;refine BX (QV h a (BX (SJ h a ?_)));have b:Builtin.Dict_items.ownsTuple "dict_itemiterator" = true:=(by decide);simp only[b,if_true];refine CG (DN ⟨_,rfl,"dict_itemiterator",_,⟨_,KD _ rfl,rfl⟩,F.slot_dict_itemiterator_next.lookup,?_⟩) (by simp only[sizeOk,Builtin.Dict_items.ownedTupleFields,JZ,MK,MJ,gP,CV];lia);simpa[CQ,Builtin.Dict_items.ownedTupleFields] using k
theorem js5{d:BK}{es:Array RN}{e:RN}{ok:A_}(K:JP s.heap it d i es.size ep ok c)(ab:s.heap.get? d=some od)(ae:od.data=.dict es ep)(hx:es[i]? = some e)
  (hQ:∀h',WX h' it d (i+1) es.size ep e.key e.val s.heap.objs.size->h'.get? s.heap.objs.size=some {cls:=.type "tuple",data:=.seq #[e.key,e.val] }->h'.objs.size=s.heap.objs.size+1->(∀b o,b≠it->s.heap.get? b=some o->h'.get? b=some o)->Q (some (.ref s.heap.objs.size)) {s with heap:=h'}):
  BP (BV P w) A (IW (.ref it)) Q E s:=by
 obtain⟨J,g,dr,Y,Z⟩:=s;have X:Shared.TypeIs ⟨J,g,dr,Y,Z⟩ (.ref it) "dict_itemiterator":=⟨_,K,rfl⟩;unfold IW;refine BX (GR (C_ (name:=Str.ofString "__next__") X F.slot_dict_itemiterator_next (CZ F.slot_dict_itemiterator_next X F.entry_dict_itemiterator_next ?_ (F.args_dict_itemiterator_next_1 _))));refine BX (DN ?_);refine BX ?_;refine BX ?_
 first | (refine BX (G_ X (DN ?_))) | (refine BX (HY X (DN ?_)))
 refine BX (NZ K rfl ?_);have aa:Builtin.Dict_items.ownsTuple "dict_itemiterator" = true:=(by decide);simp only[aa,if_true];show BP _ _ (if(Value.ref d == Value.none)=true then _ else _) _ _ _;rw[if_neg (show ¬ ((Value.ref d == Value.none)=true) from XC)];refine BX (DN ?_);refine BX (QV ab ae ?_);rw[if_neg (by simp)];refine BX (DN ?_);refine BX (SJ ab ae ?_);rw[if_neg (by simp)];refine DN ?_;simp only[show ¬ ((i:Int)<0) from(by lia),if_false,YL,hx];refine BX ?_
 first | (refine BX (G_ X (DN ?_))) | (refine BX (HY X (DN ?_)))
 refine BX (L_ X ?_);show BP _ _ (UL (.ref it) 3 (CQ ((i:Int)+1)) >>= _) _ _ ⟨J,g,dr,Y,Z⟩;refine BX (DP K (by simp) λa n l=>?_);replace l:Heap.SameBut it J a:=l
 replace n:JP a it d (i+1) es.size ep ok c:=(by
  have e:((i+1:Nat):Int)=(i:Int)+1:=(by lia);unfold JP;rw[e];simpa[CQ] using n)
 have B:Shared.TypeIs ⟨a,g,dr,Y,Z⟩ (.ref it) "dict_itemiterator":=⟨_,n,rfl⟩;refine BX (DK ?_);refine BX (L_ B ?_);refine BX (L_ B ?_);show BP _ _ (Builtin.Dict_items.pairFromOwner (.ref it) 6 e.key e.val) _ _ ⟨a,g,dr,Y,Z⟩;unfold Builtin.Dict_items.pairFromOwner;refine BX (NT ?_);have m:JP (a.push {cls:=.type "tuple",data:=.seq #[e.key,e.val] }) it d (i+1) es.size ep ok c:=JH _ n;generalize q:a.push {cls:=.type "tuple",data:=.seq #[e.key,e.val] }=r at m;have p:a.objs.size=J.objs.size:=l.1;have L:it<J.objs.size:=HB K;have O:r.get? J.objs.size=some {cls:=.type "tuple",data:=.seq #[e.key,e.val] }:=(by rw[<-q,<-p];exact KD _ rfl);have M:r.objs.size=J.objs.size+1:=(by rw[<-q,RX,p]);have T:∀b o,b≠it->J.get? b=some o->r.get? b=some o:=λb o U e=>(by rw[<-q];exact JH _ (l.extBut b o U e));show BP _ _ (Builtin.Dict_items.ownedTupleIsFree (.ref it) >>= _) _ _ ⟨r,g,dr,Y,Z⟩;rw[p];clear q n l B p a;refine BX ?_;unfold Builtin.Dict_items.ownedTupleIsFree;refine BX (CT m rfl (x:=.none) rfl (DN ?_));simp only[if_true];refine BX (CT m rfl (x:=ok) rfl (BX (CT m rfl (x:=c) rfl ?_)));refine BX (DP m (by simp) λI z k=>?_);replace k:Heap.SameBut it r I:=k;replace z:JP I it d (i+1) es.size ep e.key c:=z;refine BX (DP z (by simp) λH y j=>?_);replace j:Heap.SameBut it I H:=j;replace y:JP H it d (i+1) es.size ep e.key e.val:=y;refine BX (DP y (by simp) λG v h=>?_);replace h:Heap.SameBut it H G:=h;replace v:WX G it d (i+1) es.size ep e.key e.val J.objs.size:=v;refine BX (DP v (by simp) λC u f=>?_);replace f:Heap.SameBut it G C:=f;replace u:WX C it d (i+1) es.size ep e.key e.val J.objs.size:=u;refine BX (RW (DN (DN ⟨_,rfl,DN (hQ C u ?_ ?_ ?_)⟩)))
 ·exact f.extBut _ _ (TJ L) (h.extBut _ _ (TJ L) (j.extBut _ _ (TJ L) (k.extBut _ _ (TJ L) O)))
 ·show C.objs.size=J.objs.size+1;rw[f.1,h.1,j.1,k.1,M]
 ·exact λb o U e=>(f.extBut b o U (h.extBut b o U (j.extBut b o U (k.extBut b o U (T b o U e)))))
theorem js2{d:BK}{es:Array RN}{ok:A_}(n:A.handled=none)(e:JP s.heap it d i es.size ep ok c)(h:s.heap.get? d=some od)(j:od.data=.dict es ep)(l:es[i]? = none)
  (o:∀k,kO it s.heap k->Q none {s with heap:=k}):BP (BV P w) A (IW (.ref it)) Q E s:=by
 have f:s.TypeIs (.ref it) "dict_itemiterator":=⟨_,e,rfl⟩;unfold IW;refine BX (GR (C_ (name:=Str.ofString "__next__") f F.slot_dict_itemiterator_next (CZ F.slot_dict_itemiterator_next f F.entry_dict_itemiterator_next ?_ (F.args_dict_itemiterator_next_1 _))));refine BX (DN ?_);refine BX ?_;refine BX ?_
 first | (refine BX (G_ f (DN ?_))) | (refine BX (HY f (DN ?_)))
 refine BX (NZ e rfl ?_);have g:Builtin.Dict_items.ownsTuple "dict_itemiterator" = true:=(by decide);simp only[g,if_true];show BP _ _ (if(Value.ref d == Value.none)=true then _ else _) _ _ s;rw[if_neg (show ¬ ((Value.ref d == Value.none)=true) from XC)];refine BX (DN ?_);refine BX (QV h j ?_);rw[if_neg (by simp)];refine BX (DN ?_);refine BX (SJ h j ?_);rw[if_neg (by simp)];refine DN ?_;simp only[show ¬ ((i:Int)<0) from(by lia),if_false,YL,l];refine BX ?_
 first | (refine BX (G_ f (DN ?_))) | (refine BX (HY f (DN ?_)))
 show BP _ _ (UL (.ref it) 2 .none >>= _) _ _ s;refine BX (DW e rfl (by simp) ?_);show BP _ _ (XS (.type "StopIteration") [] >>= _) _ _ _;refine BX ?_;simp only[XS,jC];refine BX (CG ?_ (by size_fits));refine BX (m:=JD _ _) (RP (a:=Value.none) (by first |rfl | (simp only[JD];rfl)) ?_);refine CG ?_ (by size_fits);simp only[raiseNew];refine BX (V_ ?_);rw[show A.in1.handled=none from n];refine BX (DN (YX ?_));refine BX (JL (T:="StopIteration") (b:=true) ⟨_,KD _ rfl,rfl⟩ VG (DN (o _ (((Heap.SameBut.update ..).extBut.push _).push _))))
end
end PySem
namespace PD
open PySem PySem.Spec PyProof.Rows L2
variable {X:Cx}
variable {H:Hp}{a:BK}{u v:HO}{P:B_}{w:CW}{o:GJ}
section
variable {pins:List (BK×GJ)}{σ:St}{H:Hp}{s:BJ}{a:BK}{o:GJ}{u:HO}
def oO:upd (upd H a u) a v=upd H a v:=by
 funext b;by_cases h:b=a
 ·subst h;rw[An,An]
 ·rw[Aj h,Aj h,Aj h]
def ks0{h:CK}(ok:HOk P w H h)(f:H a=some u)(n:∀z,u≠.own z)(m:∀z,u≠.tup z)(l:∀x z,u≠.frz x (.own z))(new:Cj P w H h a v):HOk P w (upd H a v) h:=λb x q=>by
 have j:∀b o y,H b=some (.frz o (.own y))->upd H a v b=some (.frz o (.own y)):=λb o y e=>by rw[Aj (λz=>by rw[z,f]at e;exact l _ _ (Option.some.inj e))];exact e
 have i:∀b y,H b=some (.own y)->upd H a v b=some (.own y):=λb y e=>by rw[Aj (λz=>by rw[z,f]at e;exact n _ (Option.some.inj e))];exact e
 have g:∀b y,H b=some (.tup y)->upd H a v b=some (.tup y):=λb y e=>by rw[Aj (λz=>by rw[z,f]at e;exact m _ (Option.some.inj e))];exact e
 by_cases k:b=a
 ·subst k;rw[An]at q;cases q;exact new.stay (λ_ _ _ e=>e) (λc e=>i c _ e) g j
 ·rw[Aj k]at q;exact(ok b x q).stay (λ_ _ _ e=>e) (λc e=>i c _ e) g j
def Inv.swap(I:Inv X pins σ H s)(g:H a=some u)(l:∀z,u≠.own z)(h:∀z,u≠.tup z)(k:∀z,u≠.tbl z)(f:(∀x z,u≠.frz x z)\/X.H₀ a=none)(new:Cj X.prog X.w H s.heap a v)(j:∀x z,u≠.frz x (.own z):=by intro _ _ z;cases z):Inv X pins σ (upd H a v) s:=by
 have ne:∀b,H b=none->upd H a v b=none:=λb e=>by rw[Aj (λz=>by rw[z,g]at e;cases e)];exact e
 refine⟨I.ok,I.os,I.bare,⟨I.base.keep,I.base.slot,λb x q n m=>ne b (I.base.free b x q n m),I.base.there,λb i q=>?_,λb x y q=>?_,λb ps q=>?_⟩,I.loc,I.cell,ne _ I.free,λx c e=>ne _ (I.freeC x c e),λp r=>?_,ks0 I.hok g l h j new,I.len⟩
 ·have e:=I.base.tups b i q;rw[Aj (λz=>by rw[z,g]at e;exact h _ (Option.some.inj e))];exact e
 ·have e:=I.base.frzs b x y q;rw[Aj (λz=>by
   rcases f with f |f
   ·rw[z,g]at e;exact f _ _ (Option.some.inj e)
   ·rw[z,f]at q;cases q)];exact e
 ·have⟨more,e⟩:=I.base.tbls b ps q;exact⟨more,by rw[Aj (λz=>by rw[z,g]at e;exact k _ (Option.some.inj e))];exact e⟩
 ·refine dG (λC B A=>?_) (I.pin p r);exact⟨C,ne _ B,A⟩
def Inv.thaw(I:Inv X pins σ H s)(b:H a=some (.frz o v))(f:X.H₀ a=none)(c:∀z,v≠.own z:=by intro _ z;cases z):Inv X pins σ (upd H a v) s:=
 Inv.swap I b (λ_ z=>by cases z) (λ_ z=>by cases z) (λ_ z=>by cases z) (.inr f) (I.hok a _ b).2 λx z e=>by cases e;exact c _ rfl
def Inv.cold{b:List (List Key×V)}(I:Inv X pins σ H s)(g:H a=some (.dT b)):∃o,Inv X pins σ (upd H a (.frz o (.dT b))) s:=by have⟨z,y,h,r,f,i,j,e,c⟩:=(show Cj X.prog X.w H s.heap a (.dT b) from I.hok a _ g);exact⟨f,Inv.swap I g (λ_ z=>by cases z) (λ_ z=>by cases z) (λ_ z=>by cases z) (.inl λ_ _ z=>by cases z) ⟨e,z,y,h,r,f,i,j,e,c⟩⟩
end
variable {pos:JN}
section
variable {o i c f:CP}{j ty g b:TE}{e apos cpos:JN}
def kw2:PE X (.Dict [] [] pos) (λ_ H Q=>∀p,H p=none->∀l,Q (.ref p) (upd H p (.frz l (.dT [])))):=λk s x H Q I h=>by refine GD (kw3 k s x H (λv q=>∃p,v=.ref p/\H p=none/\q=upd H p (.dT [])) I λp m=>⟨p,rfl,m,rfl⟩) (λu B y=>?_) λ_ _ z=>z;obtain⟨v,q,A,r,p,rfl,m,rfl⟩:=y;have⟨l,n⟩:=Inv.cold A An;rw[oO]at n;exact⟨_,_,n,r,h p m l⟩
def kw8(hu:X.A.units+1<I_)(ho:PE X o j)(hi:PE X i ty)(hv:PE X c g)(hs:FW c (some (.Subscript o i e)) pos.line X.env=pure false):
  PS X (.Assign [.Subscript o i e] c pos) (λD m H=>g m H λv F=>j m F λx E=>ty m E λy q=>∃a G n k b,x=.ref a/\q a=some (.frz G (.dT n))/\X.H₀ a=none/\y=.ref b/\q b=some (.tup (k.map kV))/\n.length<sizeLine/\∀p,D.nx m (upd q a (.frz p (.dT (putK n k v))))):=by
 intro l s m H D I h;refine wpAny_Assign_Subscript (thG (hv l s m H _ I h) λr O v F I1 U q1=>thG (ho l O m F _ I1 q1) λu M x E I2 T Z=>thG (hi l M m E _ I2 Z) λiv s3 y q I3 Q L=>?_) hs;revert L;refine fP λa G n k b ex J h0 ey C hl Y=>?_;subst ex;subst ey;obtain rfl:u=Value.ref a:=T;have B:b≠a:=λz=>by rw[z,J]at C;cases C
 refine kf6 hu (Inv.thaw I3 J h0) (i_.t (k:=k) An (by rw[Aj B];exact C) hl) Q U λs4 I4=>?_;have⟨p,K⟩:=Inv.cold I4 An;rw[oO,oO]at K;exact⟨m,_,K,Y p⟩
end
def Idi(a:BK)(o:GJ)(c:List (List Key×V)):It:=
 ⟨λi H=>H a=some (.frz o (.dT c))/\i<c.length,λi H x e=>∃t b k v,x=.ref t/\H t=none/\e=upd H t (.tup [.ref b,v])/\c[i]? = some (k,v)/\H b=some (.tup (k.map kV)),λi H=>H a=some (.frz o (.dT c))/\c.length<=i⟩
def Wz{b c:Type}{F:b->c->Prop}:∀{l:List b}{m:List c}{i:Nat}{x:b},VR F l m->l[i]? = some x->∃y,m[i]? = some y/\F x y
 |_,_,i,x,.nil,h=>by simp at h
 |_,_,0,x,.cons r t,h=>by simp at h;subst h;exact⟨_,by simp,r⟩
 |_,_,i+1,x,.cons r t,h=>by refine Ao (λy e q=>?_) (Wz (i:=i) t (by simpa using h));exact⟨y,by simpa using e,q⟩
variable {K:CJ}{C:List CP}
theorem ju9{k:Nat}(a it:BK)(o:GJ)(kvs:List (List Key×V))(hne:a≠it):
  Turn P w K (.Tuple C k pos) (Idi a o kvs) [it] it (λi h=>∃es ep ok ov,o.data=.dict es ep/\JP h it a i es.size ep ok ov) where
 mem:=by simp
 obj:=λi h st b hb=>by obtain⟨es,ep,ok,ov,_,he⟩:=st;rw[JG.mp hb];exact⟨_,he,λv z=>by cases z⟩
 keep:=λi h h' st kp=>by obtain⟨es,ep,ok,ov,hd,he⟩:=st;exact⟨es,ep,ok,ov,hd,kp it (by simp) _ he⟩
 item:=by
  intro X hP hw hK hc i pins s σ H E I hf st hg;subst hP hw hK;obtain⟨ha,hi⟩:=hg;obtain⟨es,ep,ok,ov,hd,he⟩:=st;obtain⟨ho,z,y,xs,r,ob,es',ep',e1,ex,e2,e3,nd⟩:=I.hok a _ ha;have eo:o=ob:=Option.some.inj (ho.symm.trans e1);subst eo;rw[hd]at e2;cases e2;obtain⟨q,hq,hq1,hq2,hq3⟩:=Wz r (GK hi);have hes:es[i]? = some (entryOfKey (LQ (Dc X.prog X.w)) q):=by rw[entry_at e3,hq];rfl
  refine js5 he ho hd hes λh1 heo ht1 hz1 hk1=>⟨_,rfl,?_⟩;refine wpAny_letOwnedTupleGo_items heo λh2 he2 hs2=>?_;have hT:s.heap.objs.size≠it:=TJ (HB he);have ht2:h2.get? s.heap.objs.size=some {cls:=.type "tuple",data:=.seq #[.ref q.2.1,q.2.2] }:=(hs2.2 _ hT).trans ht1;have I2:Inv X pins σ (upd H s.heap.objs.size (.tup [.ref q.2.1,kvs[i].2])) {s with heap:=h2}:=
   Ge (t':=s.toks) I hf (λb o hb q=>by
    have hb':b≠it:=by simpa using hb
    exact(hs2.2 b hb').trans (hk1 b o hb' q)) (F_ _)
    (show Cj X.prog X.w _ h2 _ (.tup [.ref q.2.1,kvs[i].2]) from⟨by show 2<=sizeLine;rw[CV];lia,[.ref q.2.1,q.2.2],.cons rfl (.cons hq3 .nil),⟨_,ht2,rfl,_,rfl⟩⟩)
  refine⟨.ref s.heap.objs.size,_,I2,rfl,⟨_,q.2.1,kvs[i].1,kvs[i].2,rfl,I.hok.fresh (F_ _),rfl,GK hi,hq2⟩,⟨es,ep,_,_,hd,he2⟩,λb hb=>?_⟩;rw[JG.mp hb,Aj (Ne.symm hT)];exact(hf it (by simp)).1
 done:=by
  intro X hP hw hK hc i pins s σ H E I hf st hg;subst hP hw hK;obtain⟨ha,hi⟩:=hg;obtain⟨es,ep,ok,ov,hd,he⟩:=st;obtain⟨ho,z,y,xs,r,ob,es',ep',e1,ex,e2,e3,nd⟩:=I.hok a _ ha;have eo:o=ob:=Option.some.inj (ho.symm.trans e1);subst eo;rw[hd]at e2;cases e2;have hl:xs.length=kvs.length:=(Paired.length r).symm;have hes:es[i]? = none:=by rw[entry_at e3,aD (by lia)];rfl
  exact js2 (by simpa using I.ok.hd hc) he ho hd hes λh' eb=>⟨rfl,O6 (t':=s.toks) I hf λb o hb q=>eb b o (λz=>hb (by simp[z])) q⟩
 self:=λA i s Q E st h=>by obtain⟨es,ep,ok,ov,hd,he⟩:=st;exact W.kcp_self he h
def Ec:List D->Option (List Key)
 | []=>some []
 | .int i::r=>(Ec r).map λk=>Sum.inl i::k
 | .str x::r=>(Ec r).map λk=>Sum.inr x::k
 |_=>none
def Tg:∀k:List Key,Ec (k.map kyD)=some k
 | []=>rfl
 | .inl i::r=>by rw[HJ];show(Ec (r.map kyD)).map _=_;rw[Tg r];rfl
 | .inr x::r=>by rw[HJ];show(Ec (r.map kyD)).map _=_;rw[Tg r];rfl
def O7:∀{l:List D}{k:List Key},Ec l=some k->l=k.map kyD
 | [],k,h=>by cases h;rfl
 | .int i::r,k,h=>by
  cases e:Ec r with
  |none=>simp[Ec,e]at h
  |some b=>simp[Ec,e]at h;subst h;rw[O7 e];rfl
 | .str x::r,k,h=>by
  cases e:Ec r with
  |none=>simp[Ec,e]at h
  |some b=>simp[Ec,e]at h;subst h;rw[O7 e];rfl
 | .non::r,k,h=>by simp[Ec]at h
 | .bl _::r,k,h=>by simp[Ec]at h
 | .tup _::r,k,h=>by simp[Ec]at h
 | .lst _::r,k,h=>by simp[Ec]at h
 | .exc _ _ _::r,k,h=>by simp[Ec]at h
def Xa{K:CJ}{H:Hp}{S:AS}:∀k:List Key,Ak K H S (k.map kyD) (k.map kV)
 | []=>Ak.nil
 | .inl i::r=>.cons (show Rep K H S (.int i) (.int i) from rfl) (Xa r)
 | .inr x::r=>.cons (show Rep K H S (.str x) (.str x) from rfl) (Xa r)
def Rt{K:CJ}{H:Hp}{S:AS}:∀{k:List Key}{b:List V},Ak K H S (k.map kyD) b->b=k.map kV
 | [],b,h=>h
 | .inl i::r,b,h=>by revert h;refine Br λv t e g f=>?_;obtain rfl:=e;rw[Rt f];cases(show v=.int i from g);rfl
 | .inr x::r,b,h=>by revert h;refine Br λv t c g f=>?_;obtain rfl:=c;rw[Rt f];cases(show v=.str x from g);rfl
def dH:D->Option (List Key)
 | .tup l=>Ec l
 |_=>none
def P0:List D->List D->List Key->Option D
 |kd::ks,f::fs,k=>if dH kd=some k then some f else P0 ks fs k
 |_,_,_=>none
def dput:List D->List D->List Key->D->List D×List D
 |kd::ks,f::fs,k,v=>if dH kd=some k then(kd::ks,v::fs) else((kd::(dput ks fs k v).1),(f::(dput ks fs k v).2))
 |_,_,k,v=>([.tup (k.map kyD)],[v])
def Nt(k:List Key):dH (.tup (k.map kyD))=some k:=Tg k
def Y4{K:CJ}{H:Hp}{S:AS}(k:List Key):∀{kk:List (List Key)}{fs:List D}{b:List V},kk.length=b.length->Ak K H S fs b ->
  (Uw (kk.zip b) k=none/\P0 (kk.map λk=>D.tup (k.map kyD)) fs k=none)\/∃v f,Uw (kk.zip b) k=some v/\P0 (kk.map λk=>D.tup (k.map kyD)) fs k=some f/\Rep K H S f v
 | [],fs,b,c,r=>by
  have:b=[]:=by cases b<;>simp at c ⊢
  subst this;exact .inl ⟨rfl,by simp[P0]⟩
 |q::kk,fs,[],c,r=>by simp at c
 |q::kk,fs,v::b,c,r=>by
  have g:kk.length=b.length:=by simpa using c
  cases fs with
  |nil=>cases(show v::b=[] from r)
  |cons f fs =>
   revert r;refine Br λm i e l j=>?_;cases e;rw[d9,HJ];by_cases h:q=k
   ·exact .inr ⟨v,f,Ss h,by rw[P0,if_pos (by rw[Nt,h])],l⟩
   ·rw[Sq h,P0,if_neg (by rw[Nt];intro z;exact h (Option.some.inj z))];exact Y4 k g j
variable {k q:List Key}{r:List (List Key×V)}
def je4{u v:V}(h:q=k)(f:¬ k∈r.map (·.1)):putK ((q,u)::r) k v=(q,v)::r:=by
 have e:r.map (λb=>if b.1=k then(b.1,v) else b)=r:=by refine(UW λx c=>?_).trans (List.map_id r);rw[if_neg (λz=>f (HX.mpr ⟨x,c,z⟩))];rfl
 unfold putK;rw[if_pos (by simp[h]),HJ,if_pos h,e]
def je5{u v:V}(h:¬ q=k):putK ((q,u)::r) k v=(q,u)::putK r k v:=by
 unfold putK;by_cases b:(r.any λc=>decide (c.1=k))=true
 ·rw[if_pos (by simp only[cF,b,Bool.or_true]),if_pos b,HJ,if_neg h]
 ·rw[if_neg (by simp only[cF,decide_eq_false h,pX];exact b),if_neg b,lK]
def ji6{K:CJ}{H:Hp}{S:AS}(k:List Key){d:D}{v:V}(n:Rep K H S d v):∀{kk:List (List Key)}{fs:List D}{c:List V},kk.length=c.length->kk.Nodup->Ak K H S fs c ->
  ∃(b:List (List Key))(g:List V),putK (kk.zip c) k v=b.zip g/\b.length=g.length/\b.Nodup/\(∀x∈b,x∈kk\/x=k)/\(dput (kk.map λk=>D.tup (k.map kyD)) fs k d).1=b.map (λk=>D.tup (k.map kyD))/\Ak K H S (dput (kk.map λk=>D.tup (k.map kyD)) fs k d).2 g
 | [],fs,c,l,m,r=>by
  have:c=[]:=by cases c<;>simp at l ⊢
  subst this;refine⟨[k],[v],rfl,rfl,by simp,by simp,by simp[dput],?_⟩;simp only[ZZ,dput];exact .cons n Ak.nil
 |q::kk,fs,[],l,m,r=>by simp at l
 |q::kk,fs,u::c,l,m,r=>by
  have j:kk.length=c.length:=by simpa using l
  have⟨y,p⟩:=RZ.mp m;cases fs with
  |nil=>cases(show u::c=[] from r)
  |cons f fs =>
   revert r;refine Br λO g e F s=>?_;cases e;rw[d9,HJ];by_cases h:q=k
   ·refine⟨q::kk,v::c,?_,by simp[j],m,λx i=>.inl i,?_,?_⟩
    ·rw[je4 h (λz=>by
      refine Ao (λx i e=>?_) (HX.mp z);exact y (h ▸ e ▸ (lH i).1)),d9]
    ·rw[dput,if_pos (by rw[Nt,h])];rfl
    ·rw[dput,if_pos (by rw[Nt,h])];exact .cons n s
   ·refine rQ (λb E M L J B I G=>?_) (ji6 k n j p s);have A:¬ dH (.tup (q.map kyD))=some k:=by rw[Nt];intro z;exact h (Option.some.inj z)
    refine⟨q::b,u::E,by rw[je5 h,M,d9],by simp[L],RZ.mpr ⟨λz=>(B q z).elim y (λz=>h z),J⟩,λx i=>?_,?_,?_⟩
    ·rcases HN.mp i with z |z
     ·exact .inl (by simp[z])
     ·exact(B x z).imp (λz=>IK _ z) λz=>z
    ·rw[dput,if_neg A];show _::_=_;rw[I];rfl
    ·rw[dput,if_neg A];exact .cons F G
def Uu(ks fs:List D):D:=.exc "dict" ks fs
def m7:D->Option (List D×List D)
 | .exc c b e=>if c = "dict" then some (b,e) else none
 |_=>none
def kh1{d:D}{p:List D×List D}(h:m7 d=some p):d=Uu p.1 p.2:=by
 cases d with
 |exc c b f =>
  by_cases e:c = "dict"
  ·subst e;have h:(if("dict" : BZ) = "dict" then some (b,f) else none)=some p:=h;rw[if_pos rfl]at h;cases h;rfl
  ·have h:(if c = "dict" then some (b,f) else none)=some p:=h;rw[if_neg e]at h;cases h
 |_=>cases h
def kh0(ks fs:List D):m7 (Uu ks fs)=some (ks,fs):=by show(if("dict" : BZ) = "dict" then some (ks,fs) else none)=some (ks,fs);rw[if_pos rfl]
def gvD(i:Nat):Ev->R (List D×List D):=λb=>(gv i b).bind λd=>R.of (m7 d)
def jN(i:Nat)(fks:Ev->R (List D))(f0:Ev->R D):Ev->R D:=λb=>(gvD i b).bind λp=>(fks b).bind λl=>if l.length<=16777216 then(f0 b).bind λz=>R.of ((Ec l).map λk=>(P0 p.1 p.2 k).getD z) else .bad
def jL(i:Nat)(fks:Ev->R (List D))(c:Ev->R D):Ev->R Fl:=λb=>(c b).bind λv=>(gvD i b).bind λp=>(fks b).bind λl=>if l.length<=16777216/\p.1.length<16777216 then(R.of (Ec l)).bind λk=>.ok (.nx (b.set i (some (Uu (dput p.1 p.2 k v).1 (dput p.1 p.2 k v).2)))) else .bad
def itI(i:Nat):Ev->R (List D):=λb=>(gvD i b).bind λp=>.ok ((p.1.zip p.2).map λq=>.tup [q.1,q.2])
variable {i:Nat}{ρ:Ev}
def pA{q:List D×List D->Prop}{e:D->Prop}(h:RQ (gvD i ρ) q e):∃p,ρ[i]? = some (some (Uu p.1 p.2))/\q p:=by refine Ao (λd b h=>?_) (nZ (RQ.bind.mp h));refine Ao (λp c h=>?_) (h.of);rw[kh1 c]at b;exact⟨p,b,h⟩
variable {c:DC}{f:Ev->R D}
variable {p y apos cpos B:JN}{ks:List D}{x:BZ}
section
variable {l:Lv}{e:CP}{es:List CP}{g f0:Ev->R D}{fks:Ev->R (List D)}
def oX{j:List Hd}{h:St}{fs:List D}(E:Bb K c j ρ h H)(hi:i∈c.O)(m:ρ[i]? = some (some (Uu ks fs))):
  ∃(a:BK)(b:List V)(kk:List (List Key))(o:GJ),h[i]? = some (some (.ref a))/\(c.H0 a=none/\a∉c.Z)/\ks=kk.map (λk=>D.tup (k.map kyD))/\kk.length=b.length/\kk.Nodup/\H a=some (.frz o (.dT (kk.zip b)))/\Ak K H (c.N ρ h) fs b:=by
 refine Er (λa M L J=>?_) (E.own i _ hi m);refine Ao (λb I G=>?_) (J.dct);rcases I with ⟨_,kk,F,A,z,o,s⟩ | ⟨n,_⟩
 ·exact⟨a,b,kk,o,M,L,F,A,z,s,G⟩
 ·exact absurd n (by decide)
def yi7(i:Nat)(m:X.N.Nodup)(hi:c.O.contains i=true:=by rfl)(z:X.N[i]? = some x:=by rfl)(n:Loc X.env.scope x:=by first |exact Or.inl rfl |exact Or.inr rfl)(b:FW (.Dict [] [] p) (some (.Name x y)) pos.line X.env=pure false:=by rfl)
  (s:X.fn x=true\/X.env.scope.names.lookup x=some .local:=by first |exact .inl rfl |exact .inr rfl):PSd X c (.Assign [.Name x y] (.Dict [] [] p) pos) (asg i (kd (Uu [] []))):=PS.imp (nT (i:=i) m z n kw2 b s) λF A H q=>by
 revert q;refine Bt λb ρ E q=>?_;intro a h j;exact q _ _ (E.setW (by simpa using hi) (Ar h _) h (.inr ⟨[],"dict",[],[],rfl,.inl ⟨rfl,[],rfl,rfl,lD,j,An⟩,Ak.nil⟩))
theorem ye9(hu:X.A.units+70<I_)(i:Nat){x1}{f':CP}(he:PAd X c .no es fks)(Y:PEd X c .no f' f0)(hi:c.O.contains i=true:=by rfl)(hN:X.N[i]? = some x:=by rfl)(hv:Vis X.env.scope x:=by first |exact Or.inl rfl |exact Or.inr (Or.inl rfl) |exact Or.inr (Or.inr rfl))(Z:Zd x:=by decide)
  (aa:(x == ("__classdict__" : BZ))=false:=by decide)(m:M2 X (.Name x p) "get" apos (.Tuple es x1 B) f' cpos:=by exact⟨rfl,rfl,rfl,rfl⟩):PEd X c .no (.Call (.Attribute (.Name x p) "get" apos) [.Tuple es x1 B,f'] [] cpos) (jN i fks f0):=
 PE.imp (kw1 (by lia) (pv i hN hv Z aa) (jR he) Y m) λσ H Q q=>by
 revert q;refine Bt λhs ρ E q=>?_;have U:i∈c.O:=by simpa using hi
 refine Ao (λpr Z q=>?_) (pA (RQ.bind.mp q));refine rO (λa vs kk o e1 e2 e3 e4 e5 e6 e7=>?_) (oX E U Z);refine⟨.ref a,e1,a,rfl,.inr ⟨_,.inr ⟨o,e6⟩⟩,?_⟩;refine Dd E ((RQ.bind.mp q).mono (λds G xs H1 n E1 r1 hn=>?_) λ_ z=>z);by_cases M:ds.length<=16777216
 ·rw[if_pos M]at G;refine⟨Gj (by rw[<-r1.length];exact M),λt ht=>?_⟩;have b:=Ar ht (.tup xs);refine Bk (E1.mono b) ((RQ.bind.mp G).mono (λdz q2 vz J j E2 r2=>?_) λe z=>Dk z (n.trans b));refine Ao (λd I h=>?_) (q2.of);cases T:Ec ds with
  |none=>rw[T]at I;cases I
  |some k =>
   rw[T]at I;cases I;have ev:=Rt (by rw[<-O7 T];exact r1);subst ev;have F:J a=some (.frz o (.dT (kk.zip vs))):=j _ _ (b _ _ (n _ _ e6));have s:J t=some (.tup (k.map kV)):=j _ _ An;dsimp only at h;rw[e3]at h;rcases Y4 k e4 e7 with ⟨v1,L⟩ | ⟨v,f1,v1,L,v3⟩
   ·refine⟨none,.inr ⟨_,k,t,.inr ⟨o,F⟩,rfl,s,v1.symm⟩,?_⟩;rw[L]at h;exact h _ J ((n.trans b).trans j) (r2.mono (Ag.refl _) λ_ z=>z)
   ·refine⟨some v,.inr ⟨_,k,t,.inr ⟨o,F⟩,rfl,s,v1.symm⟩,?_⟩;rw[L]at h;exact h _ J ((n.trans b).trans j) (v3.mono ((n.trans b).trans j) λ_ z=>z)
 ·rw[if_neg M]at G;exact G.elim
theorem yc2(hu:X.A.units+70<I_)(i:Nat){x1}{value:CP}(hv:PEd X c .no value g)(he:PAd X c .no es fks)(hX:∀b,c.H0 b=none->X.H₀ b=none)(hi:c.O.contains i=true:=by rfl)(hN:X.N[i]? = some x:=by rfl)(h:Vis X.env.scope x:=by first |exact Or.inl rfl |exact Or.inr (Or.inl rfl) |exact Or.inr (Or.inr rfl))(G:Zd x:=by decide)
  (U:(x == ("__classdict__" : BZ))=false:=by decide)(hs:FW value (some (.Subscript (.Name x p) (.Tuple es x1 B) y)) pos.line X.env=pure false:=by rfl):PSd X c (.Assign [.Subscript (.Name x p) (.Tuple es x1 B) y] value pos) (jL i fks g):=
 PS.imp (kw8 (by lia) (pv i hN h G U) (jR he) hv hs) λD0 Z H q=>by
 revert q;refine Bt λhs ρ E q=>?_;have m:i∈c.O:=by simpa using hi
 refine Bk E ((RQ.bind.mp q).mono (λd L v H1 s1 Y r1=>?_) λx z=>Ef E z);refine Ao (λpr G L=>?_) (pA (RQ.bind.mp L));refine rO (λa vs kk o e1 e2 e3 e4 e5 e6 e7=>?_) (oX Y m G);refine⟨.ref a,e1,?_⟩;refine Dd Y ((RQ.bind.mp L).mono (λds F xs H2 I E2 r2 hn=>?_) λx z=>Ef Y z);by_cases T:ds.length<=16777216/\pr.1.length<16777216
 ·rw[if_pos T]at F;refine⟨Gj (by rw[<-r2.length];exact T.1),λt ht=>?_⟩;have s:=Ar ht (.tup xs);refine Ao (λk hk q3=>?_) ((RQ.bind.mp F).of);have ev:=Rt (by rw[<-O7 hk];exact r2);subst ev;have n:upd H2 t (.tup (k.map kV)) a=some (.frz o (.dT (kk.zip vs))):=s _ _ (I _ _ e6);have j:(kk.zip vs).length<sizeLine:=by
   have h1:pr.1.length=kk.length:=by rw[e3,GP]
   rw[dX,CV];lia
  refine⟨a,o,_,k,t,rfl,n,hX a e2.1,rfl,An,j,λM=>?_⟩;have E3:=E2.mono s;have J:Rep X.K (upd H2 t (.tup (k.map kV))) (c.N ρ Z) d v:=r1.mono (I.trans s) λ_ z=>z;refine rQ (λQ aa p1 p2 p3 _ p5 p6=>?_) (ji6 k J e4 e5 (e7.mono (I.trans s) λ_ z=>z));rw[p1];rw[<-e3]at p5 p6;exact q3 Z _ (E3.writeD (cc:="dict") m G e1 n rfl (.inl ⟨rfl,Q,p5,p2,p3,M,An⟩) p6)
 ·rw[if_neg T]at F;exact F.elim
theorem kh4{kk:List (List Key)}{vs:List V}{fs:List D}(hl:kk.length=vs.length):ItD K (Idi a o (kk.zip vs)) (((kk.map λk=>D.tup (k.map kyD)).zip fs).map λq=>.tup [q.1,q.2]) λH S=>(H a=some (.frz o (.dT (kk.zip vs)))/\S (some a))/\Ak K H S fs vs where
 stab:=⟨λs hS h=>⟨⟨s _ _ h.1.1,hS _ h.1.2⟩,h.2.mono s hS⟩,λhl hn h=>⟨⟨by rw[Aj (λz=>by rw[z,hl]at h;cases h.1.1)];exact h.1.1,h.1.2⟩,h.2.wr hl hn⟩,
  λhl ho hn h=>⟨⟨by rw[Aj (λz=>hn (by rw[<-z];exact h.1.2))];exact h.1.1,h.1.2⟩,h.2.wrD hl ho hn⟩,λhp h=>⟨⟨h.1.1,h.1.2,λz=>by cases z;rw[hp]at h;cases h.1.1⟩,h.2.avoid hp⟩⟩
 go:=λi H S hi h=>by have:=h.2.length;refine⟨h.1.1,?_⟩;rw[GP,dX,GP]at hi;rw[dX];lia
 yld:=λi H S x H' h y=>by
  revert y;refine yl9 λt b k v hz1 ht hz2 hk hb=>?_;obtain rfl:=hz1;obtain rfl:=hz2;have s1:=Ar ht (.tup [.ref b,v]);refine⟨s1,λd hd=>?_⟩;have⟨h1,h2⟩:=qW.mp hk;rw[QR]at hd;cases hz:((kk.map λk=>D.tup (k.map kyD)).zip fs)[i]? with
  |none=>rw[hz]at hd;cases hd
  |some q=>rw[hz]at hd;cases hd;have⟨h3,h4⟩:=qW.mp hz;rw[QR,h1]at h3;have e3:q.1=D.tup (k.map kyD):=(Option.some.inj h3).symm;refine Ao (λw hw rw'=>?_) (h.2.get h4);have ev:v=w:=Option.some.inj (h2.symm.trans hw);subst ev;show Rep K _ S (D.tup [q.1,q.2]) _;rw[e3];exact⟨t,_,rfl,TpR.of An,.cons ⟨b,_,rfl,TpR.of (s1 _ _ hb),Xa k⟩ (.cons (rw'.mono s1 λ_ z=>z) Ak.nil)⟩
 stop:=λi H S hi h=>by have:=h.2.length;refine⟨h.1.1,?_⟩;rw[GP,dX,GP]at hi;rw[dX];lia
def ws5(i:Nat){k:Nat}(hi:c.O.contains i=true:=by rfl)(hN:X.N[i]? = some x:=by rfl)(hv:Vis X.env.scope x:=by first |exact Or.inl rfl |exact Or.inr (Or.inl rfl) |exact Or.inr (Or.inr rfl))(hd:Zd x:=by decide)
  (aa:(x == ("__classdict__" : BZ))=false:=by decide)(A:JQ (.Name x p) "items" X.env (DY (.Name x p) X.env)=DY (.Name x p) X.env:=by rfl)(n:(apos.endLine == cpos.line)=true:=by rfl):
  PId X c .any (.Tuple C k B) (.Call (.Attribute (.Name x p) "items" apos) [] [] cpos) (itI i):=by
 intro G s σ H R I h;obtain⟨hs,ρ,E,q⟩:=h;have Y:i∈c.O:=by simpa using hi
 obtain⟨pr,Z,q⟩:=pA (RQ.bind.mp q);obtain⟨a,vs,kk,o,e1,e2,e3,e4,e5,e6,e7⟩:=oX E Y Z;refine wpAny_Call_method0_late A n (thG (pv i hN hv hd aa G s σ H (λv H'=>v=.ref a/\H'=H) I ⟨_,e1,rfl,rfl⟩) λv j x' H1 M r1 m=>?_);obtain⟨ex,eH⟩:=m;subst ex;subst eH;obtain rfl:v=Value.ref a:=r1;obtain⟨Q,t2,J⟩:=uK M (.inr ⟨_,.inr ⟨o,e6⟩⟩);refine⟨"dict","dict.items",PySem.F.plainAttrs_dict,PySem.F.slot_dict_items,PySem.F.type_dict_items,Q,t2,Calls.callWith_builtin rfl (PySem.evalArgs_none ?_)⟩;refine YF PySem.F.slot_dict_items Q PySem.F.entry_dict_items (PySem.F.args_dict_items_1 _) (js4 a J) ⟨Q,?_⟩;obtain⟨T,z,y,xs,r,ob,es,ep,f1,f2,f3,f4,f5⟩:=M.hok a _ e6;have eo:o=ob:=Option.some.inj (T.symm.trans f1);subst eo;have U:a<j.heap.objs.size:=HB T;refine js3 (od:=o) (es:=es) (ep:=ep) ⟨_,KD _ rfl,rfl,rfl⟩ (JH _ T) f3 ?_;have hz:(j.heap.push {cls:=.type "dict_items",data:=.fields #[.ref a] }).objs.size=j.heap.objs.size+1:=RX ..;refine⟨(j.heap.push {cls:=.type "dict_items",data:=.fields #[.ref a] }).objs.size,[(j.heap.push {cls:=.type "dict_items",data:=.fields #[.ref a] }).objs.size],_,_,H1,rfl,M.kept (t':=j.toks) λb w e=>JH _ (JH _ e),ju9 a _ o (kk.zip vs) (by rw[hz];exact JW (aB U)),⟨es,ep,.none,.none,f3,KD _ rfl⟩,λb hb=>?_,?_⟩
 ·rw[JG.mp hb];have L:j.heap.objs.size<=(j.heap.push {cls:=.type "dict_items",data:=.fields #[.ref a] }).objs.size:=by rw[hz];exact gD _
  exact M.fpOk L (M.hok.fresh L)
 ·have q:=q;rw[e3]at q;exact q _ _ H1 (Ag.refl _) (kh4 (a:=a) (o:=o) (fs:=pr.2) e4) ⟨⟨e6,.inr ⟨a,rfl,e2.1,e2.2⟩⟩,e7.mono (Ag.refl _) λ_ z=>z.1⟩
end
def uO{j:BZ->Option A_}{base:CK}{qual:BZ}{st:DR}{f:BK}{e:DX}{N ps:List BZ}{k:Nat}(F:Fun K x qual st f e)(S:Fp N ps (Bf st)):
  Hl P w K j base CX0 (k+1) f e ps (sp0 K ps.length λ_=>.bad):=F.ok S (λg H Q E h=>h.1) (λl A b s H g Q E m h=>by
 obtain⟨_,z,n,r,q⟩:=h;exact q.elim)
def m9{fs:List D}(h:gv i ρ=.ok (Uu ks fs)):gvD i ρ=.ok (ks,fs):=by unfold gvD;rw[h,R.ok_bind,kh0];rfl
variable {l:List D}{fks:Ev->R (List D)}
def wf0{fs:List D}{f0:Ev->R D}{z:D}(h:gv i ρ=.ok (Uu ks fs))(j:fks ρ=.ok l)(b:l.length<=16777216)(g:f0 ρ=.ok z)(e:Ec l=some k):
  jN i fks f0 ρ=.ok ((P0 ks fs k).getD z):=by
 unfold jN;rw[m9 h,R.ok_bind,j,R.ok_bind,if_pos b,g,R.ok_bind,e];rfl
def wf1{fs:List D}{e:Ev->R D}{v:D}(j:e ρ=.ok v)(h:gv i ρ=.ok (Uu ks fs))(n:fks ρ=.ok l)(g:l.length<=16777216)(b:ks.length<16777216)(m:Ec l=some k):
  jL i fks e ρ=.ok (.nx (ρ.set i (some (Uu (dput ks fs k v).1 (dput ks fs k v).2)))):=by
 unfold jL;rw[j,R.ok_bind,m9 h,R.ok_bind,n,R.ok_bind,if_pos ⟨g,b⟩,m];rfl
def yd6{fs:List D}(h:gv i ρ=.ok (Uu ks fs)):itI i ρ=.ok ((ks.zip fs).map λq=>.tup [q.1,q.2]):=by unfold itI;rw[m9 h];rfl
section
variable {a:CP}
def u1(h:PEd X c .fr a f):PEd X c .no a f:=h.up
def u2(h:PEd X c .fr a f):PEd X c .any a f:=h.up
def u3(h:PEd X c .no a f):PEd X c .any a f:=h.up
end
def ll0{b:Type}{P:List b->Prop}(h:P []):∀e:List b,e.length=0->P e
 | [],_=>h
def ll1{g:Type}{P:List g->Prop}(h:∀a,P [a])(b:List g)(e:b.length=1):P b:=by
 cases b with
 |nil=>cases e
 |cons a b=>exact ll0 (P:=λu=>P (a::u)) (h a) b (Nat.succ.inj e)
def ll2{j:Type}{P:List j->Prop}(h:∀a b,P [a,b])(g:List j)(e:g.length=2):P g:=by
 cases g with
 |nil=>cases e
 |cons a g=>exact ll1 (P:=λu=>P (a::u)) (h a) g (Nat.succ.inj e)
def ll3{j:Type}{P:List j->Prop}(h:∀a b c,P [a,b,c])(g:List j)(e:g.length=3):P g:=by
 cases g with
 |nil=>cases e
 |cons a g=>exact ll2 (P:=λu=>P (a::u)) (h a) g (Nat.succ.inj e)
def ll4{j:Type}{P:List j->Prop}(h:∀a b c d,P [a,b,c,d])(g:List j)(e:g.length=4):P g:=by
 cases g with
 |nil=>cases e
 |cons a g=>exact ll3 (P:=λu=>P (a::u)) (h a) g (Nat.succ.inj e)
def FI(K:CJ)(x:BZ)(st:DR):Prop:=∃(f:BK)(b:DX),W.nsIn K PySem.mainGlobals x=some (some (.ref f))/\Fun K x x st f b/\W.keepIn K (.ref f)=true
section
variable {P:B_}{w:CW}{K:CJ}{h:CK}{mg:BZ->Option A_}{base:CK}{x:BZ}{st:DR}{k n:Nat}{ps:List BZ}{m:List D->R D}
def Bu{f:BK}{s:A_}{od an:Option BK}{e:Array (Option A_)}{kV g j b ct:A_}(a:W.nsIn K PySem.mainGlobals x=some (some (.ref f)))(l:K.lookup f=some ⟨s,od,.func (W.fnOf x x (G6 st) (El st) (Bf st) .none kV g j an b ct),e⟩)
  (c:W.codeIn K b x=true)(k:W.keepIn K (.ref f)=true):FI K x st:=⟨f,_,a,uN l c k,k⟩
def Cg(P:B_)(w:CW)(base:CK)(X:K.In h)(G:h.Ns PySem.mainGlobals mg)(I:FI K x st)(g:∀a b,Fun K x x st a b->Hl P w K mg base CX0 k a b ps (sp0 K n m))
  (E:∀(kV j z:A_)(an:Option BK)(s ct:A_)(e:List A_),e.length=ps.length->VM (W.fnOf x x (G6 st) (El st) (Bf st) .none kV j z an s ct) ⟨e,[]⟩=pure (ps.zip e)):FnC P w K mg base k x ps n m:=by
 revert I;refine Br λf b a F A=>?_;exact⟨f,b,g f b F,W.mg_of X G a,A,F.binds E⟩
def uR(P:B_)(w:CW)(base:CK)(X:K.In h)(G:h.Ns PySem.mainGlobals mg)(I:FI K x st)(g:∀a b,Fun K x x st a b->mg x=some (.ref a)->W.keepIn K (.ref a)=true->Binds K b ps []->Hl P w K mg base CX0 k a b ps (sp0 K n m))
  (E:∀(kV j J:A_)(an:Option BK)(s ct:A_)(e:List A_),e.length=ps.length->VM (W.fnOf x x (G6 st) (El st) (Bf st) .none kV j J an s ct) ⟨e,[]⟩=pure (ps.zip e)):FnC P w K mg base k x ps n m:=by
 revert I;refine Br λf b a F z=>?_;have A:=W.mg_of X G a;exact⟨f,b,g f b F A z (F.binds E),A,z,F.binds E⟩
end
end PD
namespace PySem
open Sem (wp)
open PyProof.Rows
def Itr(h:CK)(b:Bool)(it l:BK)(k:Nat):Prop:=match b with
 |true=>h.IsListIter it l k
 |false=>RL h it l k
def Sqc(h:CK)(b:Bool)(l:BK)(xs:Array A_):Prop:=match b with
 |true=>h.IsList l xs
 |false=>NK h l xs
variable {A:EY}{xs:Array A_}{k:Nat}{P:B_}{s:BJ}{X:A_->BJ->Prop}{w:CW}
variable {x:A_}{Q:A_->BJ->Prop}
section
variable {h h':CK}{b:Bool}{it l:BK}
def Itr.up(x:Itr h b it l k)(e:∀o,h.get? it=some o->h'.get? it=some o):Itr h' b it l k:=by
 cases b with
 |true=>exact Heap.IsListIter.at x e
 |false=>obtain⟨o,a,r⟩:=x;exact⟨o,e o a,r⟩
def Sqc.up(x:Sqc h b l xs)(e:∀o,h.get? l=some o->h'.get? l=some o):Sqc h' b l xs:=by
 cases b with
 |true=>exact Heap.IsList.at x e
 |false=>obtain⟨o,a,r⟩:=x;exact⟨o,e o a,r⟩
def Itr.lv(x:Itr h b it l k):∃o,h.get? it=some o/\∀v,o.data≠.cell v:=by
 cases b with
 |true=>obtain⟨o,a,_,c⟩:=x;exact⟨o,a,λv z=>by rw[c]at z;cases z⟩
 |false=>obtain⟨o,a,_,c⟩:=x;exact⟨o,a,λv z=>by rw[c]at z;cases z⟩
def Itr.nx(hi:Itr s.heap b it l k)(c:Sqc s.heap b l xs)(a:xs[k]? = some x)(e:∀h',Itr h' b it l (k+1)->Heap.SameBut it s.heap h'->Q x {s with heap:=h'}):BP (BV P w) A (Builtin.SmallTypes.nextOf (.ref it)) Q X s:=by
 cases b with
 |true=>exact wpAny_nextOf_list_item hi c a e
 |false=>exact M3 hi c a e
def Itr.fin(f:A.handled=none)(hi:Itr s.heap b it l k)(c:Sqc s.heap b l xs)(a:xs[k]? = none)(g:∀h' e,kO it s.heap h'->(∃o,h'.get? e=some o/\o.cls=.type "StopIteration")->X (.ref e) {s with heap:=h'}):BP (BV P w) A (Builtin.SmallTypes.nextOf (.ref it)) Q X s:=by
 cases b with
 |true=>exact wpAny_nextOf_list_end f hi c a g
 |false=>exact Jq f hi c a g
end
structure Yq(h:CK)(z TI TO i1 i2 l1 l2:BK)(b1 b2:Bool)(k:Nat):Prop where
 zp:Q_ h z TI TO .none
 ti:JS h TI (.ref i1) (.ref i2)
 to_:∃a b,JS h TO a b
 j1:Itr h b1 i1 l1 k
 j2:Itr h b2 i2 l2 k
variable {y:A_}
section
variable {z TI TO i1 i2 l1 l2:BK}{b1 b2:Bool}{ys:Array A_}
def kk7(D:VP z TI TO i1 i2 l1 l2)(S:Yq s.heap z TI TO i1 i2 l1 l2 b1 b2 k)(m1:Sqc s.heap b1 l1 xs)(m2:Sqc s.heap b2 l2 ys)(hx:xs[k]? = some x)(hy:ys[k]? = some y)
  (hQ:∀r,Q_ r z TI TO (CQ s.heap.objs.size)->JS r TI (.ref i1) (.ref i2)->JS r TO x y->Itr r b1 i1 l1 (k+1)->Itr r b2 i2 l2 (k+1)->JS r s.heap.objs.size x y->(∀c o,c∉[z,TI,TO,i1,i2]->s.heap.get? c=some o->r.get? c=some o)->Q (.ref s.heap.objs.size) {s with heap:=r}):
  BP (BV P w) A (GZ.«zip.__next__» ⟨[.ref z],[]⟩) (λaf s'=>∃v,af=.done (.ret v)/\Q v s') X s:=by
 obtain⟨G,ti,⟨a,b,aa⟩,j1,j2⟩:=S;show BP _ _ (XD (.ref z) 2 >>= _) _ _ _;refine BX (CT G rfl (x:=.bool false) rfl ?_);show BP _ _ (XD (.ref z) 3 >>= _) _ _ _;refine BX (CT G rfl (x:=.ref TI) rfl (BX (FQ ti rfl ?_)));show BP _ _ (Builtin.SmallTypes.ownedTupleIsFree (.ref z) >>= _) _ _ _;refine BX ?_;unfold Builtin.SmallTypes.ownedTupleIsFree;refine BX (CT G rfl (x:=.none) rfl (DN ?_));simp only[if_true];refine BX (wpAny_rule (BX (CT G rfl (x:=.ref TO) rfl (BX (DP G (by simp) λq B l=>?_)))))
 replace B:Q_ q z TI TO .ellipsis:=B;have n1:=l.1;replace l:=l.extBut
 refine BX ?_;simp only[qD,jIj,lF,lC];refine BX (BX (QG ?_));show BP _ _ (Builtin.SmallTypes.nextOf (.ref i1) >>= _) _ _ _;refine BX (Itr.nx (s:={s with heap:=q}) (j1.up λo=>l _ o D.i1z) (m1.up λo=>l _ o D.l1z) hx λT ae n=>DN ?_);have n2:=n.1;replace n:=n.extBut;have to2:JS T TO a b:=n _ _ D.TOi1 (l _ _ D.TOz aa);refine BX (FQ to2 rfl (BX (NQ to2 λp to3 m=>?_)))
 replace to3:JS p TO x b:=to3;have n3:=m.1;replace m:=m.extBut
 refine BX (RW (DN ?_));refine BX (BX (QG ?_));show BP _ _ (Builtin.SmallTypes.nextOf (.ref i2) >>= _) _ _ _;refine BX (Itr.nx (s:={s with heap:=p}) (j2.up λo z1=>m _ o D.TOi2.symm (n _ o D.i12.symm (l _ o D.i2z z1))) (m2.up λo z1=>m _ o D.l2TO (n _ o D.l2i1 (l _ o D.l2z z1))) hy λO ab E=>DN ?_);have n4:=E.1;replace E:=E.extBut;have J:JS O TO x b:=E _ _ D.TOi2 to3;refine BX (FQ J rfl (BX (NQ J λf j C=>?_)))
 replace j:JS f TO x y:=j
 refine BX (RW (DN (DN ?_)));refine BX (FQ j rfl (BX (NT ?_)));have n5:=C.1;replace C:=C.extBut;have U:f.objs.size=s.heap.objs.size:=by rw[n5,n4,n3,n2,n1]
 have I:∀c o,c≠z->c≠TO->c≠i1->c≠i2->s.heap.get? c=some o->f.get? c=some o:=λc o Z c2 c3 c4 e=>C _ _ c2 (E _ _ c4 (m _ _ c2 (n _ _ c3 (l _ _ Z e))));have F:Q_ f z TI TO .ellipsis:=C _ _ D.TOz.symm (E _ _ D.i2z.symm (m _ _ D.TOz.symm (n _ _ D.i1z.symm B)));have L:Itr f b1 i1 l1 (k+1):=ae.up λo e=>C _ _ D.TOi1.symm (E _ _ D.i12 (m _ _ D.TOi1.symm e));have K:Itr f b2 i2 l2 (k+1):=ab.up λo e=>C _ _ D.TOi2.symm e;have H:z<f.objs.size:=HB F;show BP _ _ (Builtin.SmallTypes.ownedTupleHandOut (.ref z) (.ref f.objs.size) >>= _) _ _ _;refine BX ?_;unfold Builtin.SmallTypes.ownedTupleHandOut;refine BX (DP (show Q_ (f.push {cls:=.type "tuple",data:=.seq #[x,y] }) z TI TO .ellipsis from JH _ F) (by simp) λM u q7=>?_)
 replace u:Q_ M z TI TO (CQ f.objs.size):=u
 refine DP u (by simp) λg i q8=>?_
 replace i:Q_ g z TI TO (CQ f.objs.size):=i
 have h:∀c o,c≠z->f.get? c=some o->g.get? c=some o:=λc o Z e=>q8.extBut _ _ Z (q7.extBut _ _ Z (JH _ e));have pr:JS g f.objs.size x y:=q8.extBut _ _ (TJ H) (q7.extBut _ _ (TJ H) (KD _ rfl));rw[U]at i pr;refine DN ⟨_,rfl,?_⟩;show Q (.ref f.objs.size) _;rw[U];exact hQ g i (h _ _ D.TIz (I _ _ D.TIz D.TITO D.TIi1 D.TIi2 ti)) (h _ _ D.TOz j) (L.up λo e=>h _ o D.i1z e) (K.up λo e=>h _ o D.i2z e) pr λc o Y e=>h c o (λx=>Y (by simp[x])) (I c o (λx=>Y (by simp[x])) (λx=>Y (by simp[x])) (λx=>Y (by simp[x])) (λx=>Y (by simp[x])) e)
def wb4{Q:Fin->BJ->Prop}(T:A.handled=none)(D:VP z TI TO i1 i2 l1 l2)(S:Yq s.heap z TI TO i1 i2 l1 l2 b1 b2 k)(m1:Sqc s.heap b1 l1 xs)(m2:Sqc s.heap b2 l2 ys)(G:xs[k]? = none\/ys[k]? = none)
  (U:∀L e,(∀c o,c∉[z,TI,TO,i1,i2]->s.heap.get? c=some o->L.get? c=some o)->(∃o,L.get? e=some o/\o.cls=.type "StopIteration")->X (.ref e) {s with heap:=L}):BP (BV P w) A (GZ.«zip.__next__» ⟨[.ref z],[]⟩) Q X s:=by
 obtain⟨C,ti,⟨a,b,H⟩,j1,j2⟩:=S;show BP _ _ (XD (.ref z) 2 >>= _) _ _ _;refine BX (CT C rfl (x:=.bool false) rfl ?_);show BP _ _ (XD (.ref z) 3 >>= _) _ _ _;refine BX (CT C rfl (x:=.ref TI) rfl (BX (FQ ti rfl ?_)));show BP _ _ (Builtin.SmallTypes.ownedTupleIsFree (.ref z) >>= _) _ _ _;refine BX ?_;unfold Builtin.SmallTypes.ownedTupleIsFree;refine BX (CT C rfl (x:=.none) rfl (DN ?_));simp only[if_true];refine BX (wpAny_rule (BX (CT C rfl (x:=.ref TO) rfl (BX (DP C (by simp) λf m q=>?_)))))
 replace m:Q_ f z TI TO .ellipsis:=m;replace q:=q.extBut
 refine BX ?_;simp only[qD,jIj,lF,lC];refine BX (BX (QG ?_));show BP _ _ (Builtin.SmallTypes.nextOf (.ref i1) >>= _) _ _ _;have Z:Itr f b1 i1 l1 k:=j1.up λo=>q _ o D.i1z;have Y:Sqc f b1 l1 xs:=m1.up λo=>q _ o D.l1z;cases J:xs[k]? with
 |none =>
  refine BX (Itr.fin (s:={s with heap:=f}) T Z Y J λi e l K=>?_);obtain⟨I,g,j⟩:=K;have B:Q_ i z TI TO .ellipsis:=l _ _ D.i1z.symm m;have r:e≠z:=λx=>by subst x;rw[B]at g;cases g;simp at j
  refine DP B (by simp) λh _ n=>U h e (λc o p x=>n.extBut _ _ (λx=>p (by simp[x])) (l _ _ (λx=>p (by simp[x])) (q _ _ (λx=>p (by simp[x])) x))) ⟨I,n.extBut _ _ r g,j⟩
 |some x =>
  have hy:ys[k]? = none:=G.resolve_left λu=>by rw[J]at u;cases u
  refine BX (Itr.nx (s:={s with heap:=f}) Z Y J λi aa l=>DN ?_)
  replace l:=l.extBut
  have to2:JS i TO a b:=l _ _ D.TOi1 (q _ _ D.TOz H);refine BX (FQ to2 rfl (BX (NQ to2 λh to3 n=>?_)))
  replace n:=n.extBut
  refine BX (RW (DN ?_));refine BX (BX (QG ?_));show BP _ _ (Builtin.SmallTypes.nextOf (.ref i2) >>= _) _ _ _;refine BX (Itr.fin (s:={s with heap:=h}) T (j2.up λo u=>n _ o D.TOi2.symm (l _ o D.i12.symm (q _ o D.i2z u))) (m2.up λo u=>n _ o D.l2TO (l _ o D.l2i1 (q _ o D.l2z u))) hy λF e O K=>?_);obtain⟨I,g,j⟩:=K;have v:Q_ F z TI TO .ellipsis:=O _ _ D.i2z.symm (n _ _ D.TOz.symm (l _ _ D.i1z.symm m));have r:e≠z:=λx=>by subst x;rw[v]at g;cases g;simp at j
  refine DP v (by simp) λE _ M=>U E e (λc o p x=>M.extBut _ _ (λx=>p (by simp[x])) (O _ _ (λx=>p (by simp[x])) (n _ _ (λx=>p (by simp[x])) (l _ _ (λx=>p (by simp[x])) (q _ _ (λx=>p (by simp[x])) x))))) ⟨I,M.extBut _ _ r g,j⟩
def kk8{Q:Option A_->BJ->Prop}(D:VP z TI TO i1 i2 l1 l2)(S:Yq s.heap z TI TO i1 i2 l1 l2 b1 b2 k)(f:Sqc s.heap b1 l1 xs)(e:Sqc s.heap b2 l2 ys)(h:xs[k]? = some x)(g:ys[k]? = some y)
  (i:∀a,Q_ a z TI TO (CQ s.heap.objs.size)->JS a TI (.ref i1) (.ref i2)->JS a TO x y->Itr a b1 i1 l1 (k+1)->Itr a b2 i2 l2 (k+1)->JS a s.heap.objs.size x y->(∀c o,c∉[z,TI,TO,i1,i2]->s.heap.get? c=some o->a.get? c=some o)->Q (some (.ref s.heap.objs.size)) {s with heap:=a}):
  BP (BV P w) A (IW (.ref z)) Q X s:=by
 have b:s.TypeIs (.ref z) "zip":=⟨_,S.zp,rfl⟩;unfold IW;exact BX (GR (C_ (name:=Str.ofString "__next__") b F.slot_zip_next (CZ F.slot_zip_next b F.entry_zip_next (kk7 D S f e h g λa a1 q p n m l j=>DN (i a a1 q p n m l j)) (F.args_zip_next_1 _))))
def wb6{Q:Option A_->BJ->Prop}(m:A.handled=none)(D:VP z TI TO i1 i2 l1 l2)(S:Yq s.heap z TI TO i1 i2 l1 l2 b1 b2 k)(i:Sqc s.heap b1 l1 xs)(h:Sqc s.heap b2 l2 ys)(a:xs[k]? = none\/ys[k]? = none)
  (q:∀f,(∀c o,c∉[z,TI,TO,i1,i2]->s.heap.get? c=some o->f.get? c=some o)->Q none {s with heap:=f}):BP (BV P w) A (IW (.ref z)) Q X s:=by
 have g:s.TypeIs (.ref z) "zip":=⟨_,S.zp,rfl⟩;unfold IW;refine BX (GR (C_ (name:=Str.ofString "__next__") g F.slot_zip_next (CZ F.slot_zip_next g F.entry_zip_next (wb4 m D S i h a λf e l n=>?_) (F.args_zip_next_1 _))));revert n;refine Ao λo j p=>?_;exact BX (JL (T:="StopIteration") (b:=true) ⟨o,j,p⟩ VG (DN (q _ l)))
end
abbrev Qm(b:Bool)(l:BK):GJ:=match b with
 |true=>{cls:=.type "list_iterator",data:=.fields #[.ref l,.int 0 0] }
 |false=>{cls:=.type "tuple_iterator",data:=.fields #[.ref l,.int 0 0] }
abbrev zH1(h:CK)(b1:Bool)(a:BK):CK:=h.push (Qm b1 a)
abbrev zH2(h:CK)(b1 b2:Bool)(b a:BK):CK:=(zH1 h b1 b).push (Qm b2 a)
abbrev zH3(h:CK)(b1 b2:Bool)(a b:BK):CK:=(zH2 h b1 b2 a b).push {cls:=.type "tuple",data:=.seq #[.ref h.objs.size,.ref (zH1 h b1 a).objs.size] }
abbrev zH4(h:CK)(b1 b2:Bool)(b a:BK):CK:=(zH3 h b1 b2 b a).push {cls:=.type "tuple",data:=.seq #[.none,.none] }
abbrev zH5(h:CK)(b1 b2:Bool)(b a:BK):CK:=(zH4 h b1 b2 b a).push {cls:=.type "zip",data:=.fields #[.none,.bool false,.bool false,.ref (zH2 h b1 b2 b a).objs.size,.ref (zH3 h b1 b2 b a).objs.size] }
def sX{b:Bool}{l:BK}(h:Sqc s.heap b l xs)(q:Q (.ref s.heap.objs.size) {s with heap:=s.heap.push (Qm b l)}):BP (BV P w) A (UT (.ref l)) Q X s:=by
 cases b with
 |true=>exact HR h q
 |false=>exact bN h q
def js8(b1 b2:Bool)(a b:BK)(xs ys:Array A_):Meets (GZ.«zip.__new__» ⟨[.type "zip",.ref a,.ref b],[]⟩) (λ_ R s=>Sqc s.heap b1 a xs/\Sqc s.heap b2 b ys/\R (.ok (.ret (.ref (zH4 s.heap b1 b2 a b).objs.size))) {s with heap:=zH5 s.heap b1 b2 a b}):=
 .of_wp λprog w A R s h=>by
  obtain⟨i,g,d,c,e⟩:=s;obtain⟨l,j,h⟩:=h;have f:=sub_zip;have m:Sqc (Shared.heap ⟨i,g,d,c,e⟩) b1 a xs:=l;have M2:Sqc (Shared.heap ⟨i.push (Qm b1 a),g,d,c,e⟩) b2 b ys:=j.up λo z=>JH _ z
  wp_walk using sX m,sX M2
  exact⟨_,rfl,h⟩
def kf3{b1 b2:Bool}{a f:BK}{ys:Array A_}(E:Sqc s.heap b1 a xs)(C:Sqc s.heap b2 f ys)
  (h:∀n,Yq n (s.heap.objs.size+4) (s.heap.objs.size+2) (s.heap.objs.size+3) s.heap.objs.size (s.heap.objs.size+1) a f b1 b2 0->(∀c o,s.heap.get? c=some o->n.get? c=some o)->Q (.ref (s.heap.objs.size+4)) {s with heap:=n}):BP (BV P w) A (call (.type "zip") [.ref a,.ref f]) Q X s:=by
 refine YG F.called_zip (by decide) (F.typeCall_zip_2 _ _) (F.newCall_zip_2 _ _) (λobj=>F.args_object_init_3 obj _ _) F.entry_zip_new (js8 b1 b2 a f xs ys) ⟨E,C,?_⟩;have m:(zH1 s.heap b1 a).objs.size=s.heap.objs.size+1:=RX ..;have j:(zH2 s.heap b1 b2 a f).objs.size=s.heap.objs.size+2:=by rw[RX,m]
 have i:(zH3 s.heap b1 b2 a f).objs.size=s.heap.objs.size+3:=by rw[RX,j]
 have q:(zH4 s.heap b1 b2 a f).objs.size=s.heap.objs.size+4:=by rw[RX,i]
 have p1:∀{g:CK}{o B:GJ}{c:BK},g.get? c=some o->(g.push B).get? c=some o:=λe=>JH _ e;have p:(zH5 s.heap b1 b2 a f).get? (zH4 s.heap b1 b2 a f).objs.size=some _:=KD _ rfl;have u:(zH5 s.heap b1 b2 a f).get? (zH3 s.heap b1 b2 a f).objs.size=some _:=p1 (KD _ rfl);have v:(zH5 s.heap b1 b2 a f).get? (zH2 s.heap b1 b2 a f).objs.size=some _:=p1 (p1 (KD _ rfl));have z:(zH5 s.heap b1 b2 a f).get? (zH1 s.heap b1 a).objs.size=some (Qm b2 f):=p1 (p1 (p1 (KD _ (by cases b2<;>rfl))));have G:(zH5 s.heap b1 b2 a f).get? s.heap.objs.size=some (Qm b1 a):=p1 (p1 (p1 (p1 (KD _ (by cases b1<;>rfl)))));have r:∀(b:Bool){g:CK}{c l:BK},g.get? c=some (Qm b l)->Itr g b c l 0:=λb {g c l} e=>by
  cases b with
  |true=>exact⟨_,e,rfl,rfl⟩
  |false=>exact⟨_,e,rfl,rfl⟩
 show _/\_;rw[j,i,q]at p;rw[m,j]at v;rw[i]at u;rw[m]at z;rw[q];exact⟨⟨_,p,rfl⟩,h _ ⟨p,v,⟨_,_,u⟩,r b1 G,r b2 z⟩ λc o x=>p1 (p1 (p1 (p1 (p1 x))))⟩
end PySem
namespace PD
open PySem PySem.Spec PyProof.Rows L2
def SqB(K:CJ)(H:Hp)(b:Bool)(a:BK)(xs:List V):Prop:=match b with
 |true=>SqL K H a xs
 |false=>SqT K H a xs
variable {X:Cx}{pins:List (BK×GJ)}{σ:St}{H:Hp}{s:BJ}{b:Bool}{a:BK}{xs:List V}
def O5(I:Inv X pins σ H s)(h:SqB X.K H b a xs):∃c:List A_,Vals xs c/\Sqc s.heap b a c.toArray:=by
 cases b with
 |true=>have⟨c,e,p,_⟩:=I.list h;exact⟨c,e,p.isList⟩
 |false=>have⟨c,e,p,_⟩:=I.tuple h;exact⟨c,e,p⟩
def Ug{ys:List V}(I:Inv X pins σ H s)(h:SqB X.K H b a xs)(h':SqB X.K H b a ys):xs=ys:=by
 cases b with
 |true=>exact I.list_inj h h'
 |false=>exact I.tuple_inj h h'
def uA{h:CK}{xs:Array A_}(x:Sqc h b a xs):a<h.objs.size:=by
 cases b with
 |true=>obtain⟨o,c,_⟩:=x;exact HB c
 |false=>obtain⟨o,c,_⟩:=x;exact HB c
def Izp(K:CJ)(b1 b2:Bool)(a1 j:BK):It:=
 ⟨λi H=>∃xs c x y,SqB K H b1 a1 xs/\SqB K H b2 j c/\xs[i]? = some x/\c[i]? = some y,
  λi H x f=>∃t v1 e,x=.ref t/\H t=none/\f=upd H t (.tup [v1,e])/\(∀xs,SqB K H b1 a1 xs->xs[i]? = some v1)/\∀c,SqB K H b2 j c->c[i]? = some e,
  λi H=>∃xs c,SqB K H b1 a1 xs/\SqB K H b2 j c/\(xs.length<=i\/c.length<=i)⟩
variable {K:CJ}{j:BK}
theorem wa8{P:B_}{w:CW}{elts:List CP}{k:Nat}{pos:JN}{z TI TO i1 i2 a1:BK}{b1 b2:Bool}(D:VP z TI TO i1 i2 a1 j):
  Turn P w K (.Tuple elts k pos) (Izp K b1 b2 a1 j) [z,TI,TO,i1,i2] z (λi h=>Yq h z TI TO i1 i2 a1 j b1 b2 i) where
 mem:=by simp
 obj:=λi h st b hb=>by
  have hb':b=z\/b=TI\/b=TO\/b=i1\/b=i2:=by simpa using hb
  obtain⟨zp,ti,⟨u,v,to_⟩,j1,j2⟩:=st;rcases hb' with rfl |rfl |rfl |rfl |rfl
  ·exact⟨_,zp,λv z=>by cases z⟩
  ·exact⟨_,ti,λv z=>by cases z⟩
  ·exact⟨_,to_,λv z=>by cases z⟩
  ·exact j1.lv
  ·exact j2.lv
 keep:=λi h h' st kp=>by obtain⟨zp,ti,⟨u,v,to_⟩,j1,j2⟩:=st;exact⟨kp z (by simp) _ zp,kp TI (by simp) _ ti,⟨u,v,kp TO (by simp) _ to_⟩,j1.up (kp i1 (by simp)),j2.up (kp i2 (by simp))⟩
 item:=by
  intro X hP hw hK hc i pins s σ H E I hf st hg;subst hP hw hK;obtain⟨xs,ys,x,y,hq1,hq2,hx,hy⟩:=hg;have⟨its1,rv1,p1⟩:=O5 I hq1;have⟨its2,rv2,p2⟩:=O5 I hq2;have⟨u1,hu1,ru1⟩:=rv1.get hx;have⟨u2,hu2,ru2⟩:=rv2.get hy;have zlt:z<s.heap.objs.size:=HB st.zp;have lts:∀b∈[z,TI,TO,i1,i2],b<s.heap.objs.size:=λb hb=>by
   have hb':b=z\/b=TI\/b=TO\/b=i1\/b=i2:=by simpa using hb
   obtain⟨zp,ti,⟨u,v,to_⟩,j1,j2⟩:=st;rcases hb' with rfl |rfl |rfl |rfl |rfl
   ·exact HB zp
   ·exact HB ti
   ·exact HB to_
   ·obtain⟨o,ho,_⟩:=j1.lv;exact HB ho
   ·obtain⟨o,ho,_⟩:=j2.lv;exact HB ho
  refine kk8 D st p1 p2 (x:=u1) (y:=u2) (by simpa using hu1) (by simpa using hu2) λh1 c1 c2 c3 c4 c5 c6 c7=>⟨_,rfl,?_⟩;refine wpAny_letOwnedTupleGo_zip c1 λh2 d1 d2=>?_;have hT:s.heap.objs.size≠z:=TJ zlt;have up2:∀c o,c≠z->h1.get? c=some o->h2.get? c=some o:=λc o hc e=>(d2.2 c hc).trans e;have ht2:h2.get? s.heap.objs.size=some {cls:=.type "tuple",data:=.seq #[u1,u2] }:=up2 _ _ hT c6;have I2:Inv X pins σ (upd H s.heap.objs.size (.tup [x,y])) {s with heap:=h2,toks:=s.toks}:=
   Ge (t':=s.toks) I hf (λb o hb q=>up2 b o (λe=>hb (by simp[e])) (c7 b o hb q)) (F_ _)
    (show Cj X.prog X.w _ h2 _ (.tup [x,y]) from⟨by show 2<=sizeLine;rw[CV];lia,[u1,u2],.cons ru1 (.cons ru2 .nil),⟨_,ht2,rfl,_,rfl⟩⟩)
  refine⟨.ref s.heap.objs.size,_,I2,rfl,⟨_,x,y,rfl,I.hok.fresh (F_ _),rfl,λws hy=>by rw[Ug I hy hq1];exact hx,λws hy'=>by rw[Ug I hy' hq2];exact hy⟩,?_,λb hb=>?_⟩
  ·exact⟨d1,up2 _ _ D.TIz c2,⟨_,_,up2 _ _ D.TOz c3⟩,c4.up λo e=>up2 _ o D.i1z e,c5.up λo e=>up2 _ o D.i2z e⟩
  ·rw[Aj (JW (lts b hb))];exact(hf b hb).1
 done:=by
  intro X hP hw hK hc i pins s σ H E I hf st hg;subst hP hw hK;obtain⟨xs,ys,hq1,hq2,hl⟩:=hg;have⟨its1,rv1,p1⟩:=O5 I hq1;have⟨its2,rv2,p2⟩:=O5 I hq2;have l1:=rv1.length;have l2:=rv2.length;refine wb6 (I.ok.hd hc) D st p1 p2 (hl.imp (λe=>?_) λe=>?_) λh' eb=>⟨rfl,O6 (t':=s.toks) I hf eb⟩
  ·simp;lia
  ·simp;lia
 self:=λA i s Q E st h=>cP st.zp h
def Yl(ds es:List D):List D:=(ds.zip es).map λp=>.tup [p.1,p.2]
def yM(ds es:List D):(Yl ds es).length=min ds.length es.length:=by unfold Yl;rw[GP,dX]
variable {ds es:List D}
def wb5{i:Nat}{d:D}(h:(Yl ds es)[i]? = some d):∃x y,ds[i]? = some x/\es[i]? = some y/\d=.tup [x,y]:=by
 unfold Yl at h;rw[QR]at h;cases e:(ds.zip es)[i]? with
 |none=>rw[e]at h;cases h
 |some p=>rw[e]at h;have⟨f,c⟩:=qW.mp e;exact⟨p.1,p.2,f,c,(Option.some.inj h).symm⟩
def SqR(K:CJ)(b:Bool)(a:BK)(c:List V)(ds:List D):Hd:=match b with
 |true=>λH S=>LsR K H S a c/\Ak K H S ds c
 |false=>λH S=>SqT K H a c/\Ak K H S ds c
variable {vs:List V}
def SqR.sq{S:AS}(h:SqR K b a vs ds H S):SqB K H b a vs:=by
 cases b with
 |true=>exact h.1.sq
 |false=>exact h.1
def SqR.rp{S:AS}(h:SqR K b a vs ds H S):Ak K H S ds vs:=by
 cases b with
 |true=>exact h.2
 |false=>exact h.2
def SqR.stab:Ut (SqR K b a vs ds):=by
 cases b with
 |true=>exact Xq
 |false=>exact Xr
def Ut.and{P Q:Hd}(h:Ut P)(k:Ut Q):Ut λH S=>P H S/\Q H S:=
 ⟨λs i z=>⟨h.mono s i z.1,k.mono s i z.2⟩,λe c z=>⟨h.wr e c z.1,k.wr e c z.2⟩,λe g c z=>⟨h.wrD e g c z.1,k.wrD e g c z.2⟩,λf z=>⟨h.avoid f z.1,k.avoid f z.2⟩⟩
theorem wg4{b1 b2:Bool}{a1:BK}{ws:List V}:ItD K (Izp K b1 b2 a1 j) (Yl ds es) λH S=>SqR K b1 a1 vs ds H S/\SqR K b2 j ws es H S where
 stab:=Ut.and SqR.stab SqR.stab
 go:=λi H S hi h=>by rw[yM]at hi;refine Ao (λv hv _=>?_) (h.1.rp.get (GK (show i<ds.length by lia)));refine Ao (λw hw _=>?_) (h.2.rp.get (GK (show i<es.length by lia)));exact⟨vs,ws,v,w,h.1.sq,h.2.sq,hv,hw⟩
 yld:=λi H S x H' h y=>by revert y;refine fU λt v1 v2 hz4 ht hz5 y1 y2=>?_;obtain rfl:=hz4;obtain rfl:=hz5;refine⟨Ar ht _,λd hd=>?_⟩;refine Br (λp q hp hq hz6=>?_) (wb5 hd);obtain rfl:=hz6;refine Ao (λw1 hw1 rw1=>?_) (h.1.rp.get hp);refine Ao (λw2 hw2 rw2=>?_) (h.2.rp.get hq);have ev:v1=w1:=Option.some.inj ((y1 vs h.1.sq).symm.trans hw1);have ew:v2=w2:=Option.some.inj ((y2 ws h.2.sq).symm.trans hw2);subst ev ew;exact⟨t,_,rfl,TpR.of An,v1,[v2],rfl,rw1.mono (Ar ht _) (λ_ z=>z),v2,[],rfl,rw2.mono (Ar ht _) (λ_ z=>z),rfl⟩
 stop:=λi H S hi h=>⟨vs,ws,h.1.sq,h.2.sq,by
  rw[yM]at hi;rw[<-h.1.rp.length,<-h.2.rp.length];lia⟩
def itZ(fs:Ev->R (List D)):Ev->R (List D):=λc=>(fs c).bind λxs=>match xs with
 | [x,y]=>match Gv x,Gv y with
  |some ds,some es=>.ok (Yl ds es)
  |_,_=>.bad
 |_=>.bad
def wA{S:AS}{d:D}{v:V}(r:Rep K H S d v)(h:Gv d=some ds):∃b a vs,v=.ref a/\SqR K b a vs ds H S:=by
 cases d with
 |lst es=>have e:es=ds:=Option.some.inj h;subst e;revert r;refine Br λa vs g i c=>?_;obtain rfl:=g;exact⟨true,a,vs,rfl,i,c⟩
 |tup es=>have e:es=ds:=Option.some.inj h;subst e;revert r;refine Br λa vs f i c=>?_;obtain rfl:=f;exact⟨false,a,vs,rfl,(TpR.sq i),c⟩
 |_=>cases h
section
variable {X:Cx}{c:DC}{l:Lv}{g f:CP}{fs:Ev->R (List D)}{pos p i:JN}{e:List CP}{k:Nat}
def yo4(hm:X.mg "zip" = none)(ha:PAd X c l [g,f] fs)(af:Gl X "zip":=by rfl)(Z:BR [g,f] X.env=(false,DY g X.env)::BR [f] X.env:=by rfl)(ae:Zp X.env i [f]:=by rfl):
  PId X c l (.Tuple e k pos) (.Call (.Name "zip" p) [g,f] [] i) (itZ fs):=by
 intro pins s σ H R I h;refine Call_ (Qo I af hm boot_zip (PyProof.Rows.callWith_type1 (thG (ha i pins s σ H (λvs r=>∃a1 j b1 b2,vs=[.ref a1,.ref j]/\(∃xs,SqB X.K r b1 a1 xs)/\(∃ys,SqB X.K r b2 j ys)/\R (Izp X.K b1 b2 a1 j) r) I ?_) λus m vs r M u n=>?_) Z ae))
 ·revert h;refine Bt λhs ρ E q=>?_;refine⟨hs,ρ,E,(RQ.bind.mp q).mono (λds n vs r sm u o=>?_) λ_ z=>z⟩
  match ds,n,u,o with
  | [x,y],n,u,_ =>
   revert u;refine Br λv1 ao U rx r2=>?_;obtain rfl:=U;revert r2;refine Br λv2 P J ry r3=>?_;obtain rfl:=J;cases O:Gv x with
   |none=>simp only[O]at n;exact n.elim
   |some ds =>
    cases Y:Gv y with
    |none=>simp only[O,Y]at n;exact n.elim
    |some es=>simp only[O,Y]at n;refine aU (λb1 a1 ak G z1=>?_) (wA rx O);obtain rfl:=G;refine aU (λb2 j aj F z2=>?_) (wA ry Y);obtain rfl:=F;have e3:P=[]:=r3;subst e3;exact⟨a1,j,b1,b2,rfl,⟨_,z1.sq⟩,⟨_,z2.sq⟩,n _ _ r sm wg4 ⟨z1,z2⟩⟩
  | [],n,_,o=>cases o
  | [_],n,_,o=>cases o
  |_::_::_::_,n,_,o=>cases o
 ·revert n;refine fQ λa1 j b1 b2 C B A q=>?_;obtain rfl:=C;obtain⟨xs,ab⟩:=B;obtain⟨ys,aa⟩:=A;refine Br (λu1 u2 w T Q=>?_) (u.two);obtain rfl:=w;cases T;cases Q;refine Ao (λai ar p1=>?_) (O5 M ab);refine Ao (λah aq v=>?_) (O5 M aa);refine kf3 p1 v λh' st hk=>cP st.zp ?_;refine⟨m.heap.objs.size+4,[m.heap.objs.size+4,m.heap.objs.size+2,m.heap.objs.size+3,m.heap.objs.size,m.heap.objs.size+1],_,_,r,rfl,M.kept (t':=m.toks) hk,wa8 (zipApart_new (uA p1) (uA v)),st,λb hb=>?_,q⟩;have L:m.heap.objs.size<=b:=by
   have ag:b=m.heap.objs.size+4\/b=m.heap.objs.size+2\/b=m.heap.objs.size+3\/b=m.heap.objs.size\/b=m.heap.objs.size+1:=by simpa using hb
   rcases ag with rfl |rfl |rfl |rfl |rfl
   ·exact lJ _ _
   ·exact lJ _ _
   ·exact lJ _ _
   ·exact F_ _
   ·exact lJ _ _
  exact M.fpOk L (M.hok.fresh L)
end
def yd7{fs:Ev->R (List D)}{ρ:Ev}{x y:D}(h:fs ρ=.ok [x,y])(e:Gv x=some ds)(c:Gv y=some es):itZ fs ρ=.ok (Yl ds es):=by unfold itZ;rw[h];simp only[R.ok_bind,e,c]
end PD
namespace PySem
open Sem (wp)
variable {e L:BK}{vs:Array A_}{c:A_}{od:Option BK}{sl:Array (Option A_)}
section
variable {M:KR}{A:EY}{E:A_->BJ->Prop}{s:BJ}
def ZX(h:CK)(e:BK)(vs:Array A_):Prop:=vs[1]? = some .none\/∃T b a,vs[1]? = some (.ref T)/\T≠e/\h.get? T=some b/\b.data=.fields a/\a[3]? = some .none
def ZX.lt{h:CK}(t:ZX h e vs):1<vs.size:=by rcases t with t | ⟨T,_,_,t,_⟩<;>exact(qX.mp t).1
theorem entryE{base:CK}{env:KH}{outer:List KH}{head:A_}{n:Bool}{Q:Unit->BJ->Prop}
  (I:A.frames=some (env::outer))(hl:s.heap.FunFrames base (env::outer))(Y:env.frame=some L)(P:s.heap.get? e=some ⟨c,od,.fields vs,sl⟩)(hsz:1<vs.size)
  (h:∀C T O K,(∀b o,b≠e->b∉(env::outer).filterMap (·.frame)->s.heap.get? b=some o->C.get? b=some o)->(∀b o,s.heap.get? b=some o->b∈(env::outer).filterMap (·.frame)->∃sl,C.get? b=some {o with slots:=sl}) ->
   C.get? e=some ⟨c,od,.fields (vs.setIfInBounds 1 (.ref T)),sl⟩->s.heap.objs.size<=T->T≠e->C.get? T=some O->O.data=.fields K->K[3]? = some .none->Q () {s with heap:=C}):
  BP M A (do let a <-frameOf env;let pl <-entryPlaceOf L n;let b <-EntryCells.newEntry head a .none (CQ L) .none pl;UL (.ref e) 1 b) (λ_ U=>BP M A (RJ (.ref e) none) Q E U) E s:=by
 have r:e∉(env::outer).filterMap (·.frame):=λX=>by have⟨_,o,F,H⟩:=hl.mem X;rw[P]at F;injection F with F;subst F;exact H vs rfl
 refine BX (wpAny_frameOf_fun I hl Y λg i=>?_);refine BX (wpAny_entryPlaceOf λpl B=>?_);unfold EntryCells.newEntry cU;refine BX (CG ?_ (B.sizeOk5 _ _ _ _ _));have l:g.get? e=some ⟨c,od,.fields vs,sl⟩:=(i.2.1 e r).trans P;have k:=JH (h:=g) {cls:=.type "traceback",dict:=none,data:=.fields ([head,.ref L,.none,CQ L,.none]++(if pl.isEmpty then List.replicate 6 Value.none else pl)).toArray} l;refine DW k rfl hsz ?_;have w:g.objs.size≠e:=TJ (HB l);have m:=Obj.data_mapFields (o:=⟨c,od,.fields vs,sl⟩) rfl (·.setIfInBounds 1 (Value.ref g.objs.size));have j:=ZK (Obj.mapFields (·.setIfInBounds 1 (Value.ref g.objs.size))) k (Obj.isFreed_of_fields m);have p:=(ZL (g.push {cls:=.type "traceback",dict:=none,data:=.fields ([head,.ref L,.none,CQ L,.none]++(if pl.isEmpty then List.replicate 6 Value.none else pl)).toArray})
  (Obj.mapFields (·.setIfInBounds 1 (Value.ref g.objs.size))) (Ne.symm w)).trans (KD g rfl)
 unfold RJ;refine BX (CT j m (x:=.ref g.objs.size) (by simp[hsz]) ?_);rw[if_pos (show(Value.ref g.objs.size != Value.none)=true from by simp)];refine DW p rfl (by simp only[JZ,MK,MJ,gP]<;>omega) (h _ g.objs.size _ _ ?_ ?_ ?_ ?_ w (ZK _ p (Obj.isFreed_of_fields (Obj.data_mapFields rfl _))) (Obj.data_mapFields rfl _) (by first | (simp;done) | (rcases B with rfl | ⟨_,_,_,_,_,_,_,rfl⟩<;>simp)))
 all_goals
  have keep:∀b o,b≠e->g.get? b=some o ->
    (((g.push {cls:=.type "traceback",dict:=none,data:=.fields ([head,.ref L,.none,CQ L,.none]++(if pl.isEmpty then List.replicate 6 Value.none else pl)).toArray}).update e (Obj.mapFields (·.setIfInBounds 1 (Value.ref g.objs.size)))).update g.objs.size
     (Obj.mapFields (·.setIfInBounds 3 ((none:Option BK).elim Value.none λf=>CQ f)))).get? b=some o:=λb o v y=>by
   have J:g.objs.size≠b:=TJ (HB y);rw[ZL _ _ J,ZL _ _ (Ne.symm v)];exact JH _ y
 ·intro b o v u y;exact keep b o v ((i.2.1 b u).trans y)
 ·intro b o y u;have⟨G,q⟩:=i.2.2 b o y;exact⟨G,keep b _ (λz=>r (z ▸ u)) q⟩
 ·rw[ZL _ _ w];exact j
 ·rw[<-i.1];exact F_ _
def sV{base:CK}{env:KH}{outer:List KH}{Q:Unit->BJ->Prop}
  (v:A.frames=some (env::outer))(hl:s.heap.FunFrames base (env::outer))(H:env.frame=some L)(x:s.heap.get? e=some ⟨c,od,.fields vs,sl⟩)(ht:ZX s.heap e vs)
  (h:∀h' j,(∀b o,b≠e->vs[1]? ≠ some (.ref b)->b∉(env::outer).filterMap (·.frame)->s.heap.get? b=some o->h'.get? b=some o)->(∀b o,s.heap.get? b=some o->b∈(env::outer).filterMap (·.frame)->∃sl,h'.get? b=some {o with slots:=sl}) ->
   h'.get? e=some ⟨c,od,.fields j,sl⟩->ZX h' e j->(∀T,j[1]? = some (.ref T)->s.heap.objs.size<=T)->(∃T,j[1]? = some (.ref T))->Q () {s with heap:=h'}):
  BP M A (cT (.ref e) env) (λ_ s'=>BP M A (RJ (.ref e) none) Q E s') E s:=by
 have m:=ht.lt;have w:∀(g h':CK) T l k,(∀b o,b≠e->vs[1]? ≠ some (.ref b)->s.heap.get? b=some o->g.get? b=some o)->g.objs.size=s.heap.objs.size->(∀b∈(env::outer).filterMap (·.frame),g.get? b=s.heap.get? b) ->
   (∀b o,b≠e->b∉(env::outer).filterMap (·.frame)->g.get? b=some o->h'.get? b=some o)->(∀b o,g.get? b=some o->b∈(env::outer).filterMap (·.frame)->∃sl,h'.get? b=some {o with slots:=sl}) ->
   h'.get? e=some ⟨c,od,.fields (vs.setIfInBounds 1 (.ref T)),sl⟩->g.objs.size<=T->T≠e->h'.get? T=some l->l.data=.fields k->k[3]? = some .none->Q () {s with heap:=h'}:=by
  intro g h' T l k k0 k1 k2 r h2 y h4 h5 h6 h7 h8;have F:(vs.setIfInBounds 1 (.ref T))[1]? = some (.ref T):=by simp[m]
  refine h h' _ (λb o u p q3 q4=>r b o u q3 (k0 b o u p q4)) (λb o u p=>h2 b o ((k2 b p).trans u) p) y (.inr ⟨T,l,k,F,h5,h6,h7,h8⟩) (λT' q=>?_) ⟨T,F⟩;rw[F]at q;cases q;rw[<-k1];exact h4
 unfold cT;simp only[H];rcases ht with r | ⟨T,l,k,r,I,J,n,y⟩
 ·refine BX (CT x rfl r ?_);rw[if_neg (by decide)];exact entryE v hl H x m λh' T l k a1 Z Y X U P O K=>w s.heap h' T l k (λ_ _ _ _ q=>q) rfl (λ_ _=>rfl) a1 Z Y X U P O K
 ·refine BX (CT x rfl r ?_);rw[if_pos (show(Value.ref T != Value.none)=true from by simp)];refine BX (CT J n y ?_);rw[if_neg (show ¬ ((Value.none == CQ L)=true) from by simp[CQ])];refine BX (DW J n (qX.mp y).1 ?_);have other:∀b,b≠T->(s.heap.update T (Obj.mapFields (·.setIfInBounds 3 Value.none))).get? b=s.heap.get? b:=λb f=>ZL _ _ (Ne.symm f);have a:∀b o,s.heap.get? b=some o->(∀vs,o.data≠.fields vs)->b≠T:=λb o f i q=>by rw[q,J]at f;injection f with f;subst f;exact i k n
  have G:∀b∈(env::outer).filterMap (·.frame),b≠T:=λb f=>by have⟨_,o,ho,i⟩:=hl.mem f;exact a b o ho i
  refine entryE (s:={s with heap:=s.heap.update T (Obj.mapFields (·.setIfInBounds 3 Value.none))}) v (hl.of_keeps λb o f i=>⟨o,(other b (a b o f i)).trans f,rfl⟩) H ((other e (Ne.symm I)).trans x) m
   λh' T' C B a1 Z Y X U P O K=>w _ h' T' C B (λb o u p q=>(other b (λz=>p (by rw[r,z]))).trans q) (Heap.size_update _ _ _) (λb f=>other b (G b f)) a1 Z Y X U P O K
def wt7{base:CK}{env:KH}{outer:List KH}{Q:Unit->BJ->Prop}
  (g:A.frames=some (env::outer))(hl:s.heap.FunFrames base (env::outer))(j:env.frame=some L)(k:s.heap.get? e=some ⟨c,od,.fields vs,sl⟩)(i:ZX s.heap e vs)
  (h:∀f a,(∀b o,b≠e->vs[1]? ≠ some (.ref b)->b∉(env::outer).filterMap (·.frame)->s.heap.get? b=some o->f.get? b=some o)->(∀b o,s.heap.get? b=some o->b∈(env::outer).filterMap (·.frame)->∃sl,f.get? b=some {o with slots:=sl}) ->
   f.get? e=some ⟨c,od,.fields a,sl⟩->ZX f e a->(∀T,a[1]? = some (.ref T)->s.heap.objs.size<=T)->(∃T,a[1]? = some (.ref T))->Q () {s with heap:=f}):
  BP M A (leaving env (.ref e)) Q E s:=by
 unfold leaving;exact BX (sV g hl j k i h)
def yf6{Q:Unit->BJ->Prop}(a:s.heap.get? e=some ⟨c,od,.fields vs,sl⟩)(m:ZX s.heap e vs)
  (h:∀k,(∀b o,vs[1]? ≠ some (.ref b)->s.heap.get? b=some o->k.get? b=some o)->k.get? e=some ⟨c,od,.fields vs,sl⟩->Q () {s with heap:=k}):BP M A (RJ (.ref e) none) Q E s:=by
 unfold RJ;rcases m with g | ⟨T,v,u,g,j,p,i,r⟩
 ·refine BX (CT a rfl g ?_);rw[if_neg (by decide)];exact DN (h s.heap (λ_ _ _ q=>q) a)
 ·refine BX (CT a rfl g ?_);rw[if_pos (show(Value.ref T != Value.none)=true from by simp)];have other:∀b,b≠T->(s.heap.update T (Obj.mapFields (·.setIfInBounds 3 ((none:Option BK).elim Value.none λf=>CQ f)))).get? b=s.heap.get? b:=λb n=>ZL _ _ (Ne.symm n);exact DW p i (qX.mp r).1 (h _ (λb o l q=>(other b (λz=>l (by rw[g,z]))).trans q) ((other e (Ne.symm j)).trans a))
end
end PySem
namespace L2
open PySem PySem.Spec PyProof.Rows
structure a_(P:B_)(w:CW)(outer:List KH)(H:Hp)(s:BJ)(a:BK)(H':Hp)(s':BJ):Prop where
 os:s'.os=s.os
 bare:KZ s'.gens
 un:Un (frs outer) [] H H' s.heap s'.heap
 hok:HOk P w H' s'.heap
 new:s.heap.get? a=none
 obj:∃C od vs sl,H' a=some (.ext (PD.G7 C a od))/\s'.heap.get? a=some ⟨.ref C,od,.fields vs,sl⟩/\ZX s'.heap a vs/\∀T,vs[1]? = some (.ref T)->s.heap.get? T=none/\H' T=none
def CXE(P:B_)(w:CW):CXT:=λb H s E e f=>∃a c,e=.ref a/\a_ P w b H s a c f/\E e none c
def xG{base h h':CK}{H H':Hp}{l:List KH}(hl:h.FunFrames base l)(s:∀b∈frs l,H b=none)(un:Un (frs l) [] H H' h h'):h'.FunFrames base l:=by
 have all:∀(r:List KH),(∀b∈frs r,b∈frs l)->h.FunFrames base r->h'.FunFrames base r:=by
  intro r;induction r with
  |nil=>intro _ _;trivial
  |cons env r k=>intro i c;revert c;refine dG λp a c=>?_;revert a;refine Yb λL o f n m q=>?_;have j:L∈frs l:=i L (by unfold frs;rw[cL,f];exact JK);have⟨u,e⟩:=un.slot L o m (s L j) j (by simp);exact⟨p,⟨L,_,f,n,e,q⟩,k (λb g=>i b (by unfold frs;rw[cL,f];exact IK _ g)) c⟩
 exact all l (λ_ g=>g) hl
section
variable {P:B_}{w:CW}{outer:List KH}{H H':Hp}{s s':BJ}{a:BK}{h':CK}
def a_.noted{C:BK}{od:Option BK}{m g:Array A_}{i:Array (Option A_)}(F:a_ P w outer H s a H' s')(x:H' a=some (.ext (PD.G7 C a od)))(L:s'.heap.get? a=some ⟨.ref C,od,.fields m,i⟩)(G:∀T,m[1]? = some (.ref T)->s.heap.get? T=none/\H' T=none)
  (v:∀b∈frs outer,H b=none)(r:∀b∈frs outer,∃o,s.heap.get? b=some o)
  (k1:∀b o,b≠a->m[1]? ≠ some (.ref b)->b∉frs outer->s'.heap.get? b=some o->h'.get? b=some o)(k2:∀b o,s'.heap.get? b=some o->b∈frs outer->∃i,h'.get? b=some {o with slots:=i})
  (k3:h'.get? a=some ⟨.ref C,od,.fields g,i⟩)(K:ZX h' a g)(k5:∀T,g[1]? = some (.ref T)->(s.heap.get? T=none/\H' T=none)):a_ P w outer H s a H' {s' with heap:=h'}:=by
 have new:∀b o,s.heap.get? b=some o->b≠a:=λb o q z=>by rw[z,F.new]at q;cases q
 have k:∀b o,s.heap.get? b=some o->m[1]? ≠ some (.ref b):=λb o q z=>by rw[(G b z).1]at q;cases q
 have y:∀b∈frs outer,H' b=none:=λb f=>by have⟨o,q⟩:=r b f;exact F.un.free b o q (v b f) (by simp)
 refine⟨F.os,F.bare,⟨λb o q n f _=>k1 b o (new b o q) (k b o q) f (F.un.keep b o q n f (by simp)),λb o q n f _=>?_,λb o q n _=>F.un.free b o q n (by simp),λb o q _=>?_,F.un.tups,F.un.frzs,F.un.tbls⟩,λc u q=>?_,F.new,C,od,g,i,x,k3,K,k5⟩
 ·have⟨J,p⟩:=F.un.slot b o q n f (by simp);have⟨j,A⟩:=k2 b _ p f;exact⟨j,A⟩
 ·have⟨B,p⟩:=F.un.there b o q (by simp);by_cases f:b∈frs outer
  ·have⟨j,A⟩:=k2 b _ p f;exact⟨_,A⟩
  ·exact⟨B,k1 b B (new b o q) (k b o q) f p⟩
 ·have E:=F.hok c u q;by_cases l:c=a
  ·subst l;rw[x]at q;cases q;revert E;refine dG λ_ _ I=>?_;exact⟨⟨g,i,k3⟩,⟨_,k3⟩,I⟩
  ·refine E.stay (λb o f e=>?_) (λ_ z=>z) λ_ _ z=>z;have h:H' b≠none/\b≠a:=by
    rcases f with rfl |f
    ·exact⟨by rw[q];simp,l⟩
    ·exact⟨by rw[f];simp,λz=>by rw[z,x]at f;cases f⟩
   exact k1 b o h.2 (λz=>h.1 (G b z).2) (λz=>h.1 (y b z)) e
end
def yh4{P:B_}{w:CW}{K:CJ}{mg:BZ->Option A_}{base:CK}{N:List BZ}{qual:BZ}{c:JF}{f:BK}{k:A_}{A:EY}{outer:List KH}{g:BJ}{H0:Hp}{E:XK}:
  Passes (CXE P w) (X8 (CXE P w) P w K mg base N qual c f k A outer g H0 E) E:=by
 intro U σ H s e s' I hx;revert hx;refine Br λa H' r F q=>?_;obtain rfl:=r;refine fQ (λC X O Q hH Z ht hT=>?_) (F.obj);have x:∀b∈frs (envOfC qual c g.heap.objs.size f k::outer),∃o,s.heap.get? b=some o:=λb j=>let ⟨_,o,e,_⟩:=I.stack.mem j; ⟨o,e⟩;have B:∀b∈frs (envOfC qual c g.heap.objs.size f k::outer),H b=none:=I.stkFree;show BP _ _ _ _ _ _;refine wt7 (env:=envOfC qual c g.heap.objs.size f k) (outer:=outer) (base:=base) (L:=g.heap.objs.size) I.ok.frames (xG I.stack I.stkFree F.un) rfl Z ht λh' aa k1 k2 k3 k4 Y k6=>?_;have G:=F.noted (h':=h') hH Z hT B x k1 k2 k3 k4 λT z=>⟨?_,F.hok.fresh (Y T z)⟩
 ·have p:∀b o,g.heap.get? b=some o->b∉frs outer->b∉frs (envOfC qual c g.heap.objs.size f k::outer):=λb o q j z=>by
   have v:b=g.heap.objs.size\/b∈frs outer:=by unfold frs at z;rw[cL,show(envOfC qual c g.heap.objs.size f k).frame=some g.heap.objs.size from rfl]at z;exact HN.mp z
   rcases v with rfl |v
   ·exact absurd (HB q) (SN _)
   ·exact j v
  have sub:∀b∈frs outer,b∈frs (envOfC qual c g.heap.objs.size f k::outer):=λb j=>by unfold frs;rw[cL,show(envOfC qual c g.heap.objs.size f k).frame=some g.heap.objs.size from rfl];exact IK _ j
  have i:Un (frs outer) [] H0 H g.heap s.heap:=I.base;refine⟨a,H',rfl,⟨G.os.trans I.os,G.bare,⟨λb o q n j _=>?_,λb o q n j _=>?_,λb o q n _=>?_,λb o q _=>?_,λb M q=>G.un.tups b M (i.tups b M q),λb o u q=>G.un.frzs b o u (i.frzs b o u q),λb ps q=>?_⟩,G.hok,?_,?_⟩,q⟩
  ·exact G.un.keep b o (i.keep b o q n j (by simp)) (i.free b o q n (by simp)) (p b o q j) (by simp)
  ·have⟨ab,h⟩:=i.slot b o q n j (by simp);have⟨m,J⟩:=G.un.slot b _ h (i.free b o q n (by simp)) (sub b j) (by simp);exact⟨m,J⟩
  ·have⟨l,h⟩:=i.there b o q (by simp);exact G.un.free b l h (i.free b o q n (by simp)) (by simp)
  ·have⟨l,h⟩:=i.there b o q (by simp);exact G.un.there b l h (by simp)
  ·have⟨m1,h⟩:=i.tbls b ps q;have⟨m2,J⟩:=G.un.tbls b _ h;exact⟨m1++m2,by rw[J,jHl]⟩
  ·cases z:g.heap.get? a with
   |none=>rfl
   |some o=>have⟨l,h⟩:=i.there a o z (by simp);rw[F.new]at h;cases h
  ·refine fQ (λC X O Q g1 g2 g3 g4=>?_) (G.obj);refine⟨C,X,O,Q,g1,g2,g3,λT z=>⟨?_,(g4 T z).2⟩⟩;cases y:g.heap.get? T with
   |none=>rfl
   |some o=>have⟨l,h⟩:=i.there T o y (by simp);rw[(g4 T z).1]at h;cases h
 ·cases y:s.heap.get? T with
  |none=>rfl
  |some o=>have⟨l,h⟩:=F.un.there T o y (by simp);exact absurd (PX (HB h) (Y T z)) (SN _)
end L2
namespace PD
open PySem PySem.Spec PyProof.Rows L2
def sp1(K:CJ)(n:Nat)(m:List D->R D):Sp:=λb H Q E=>b.length=n/\∃S c,Ak K H S c b/\RQ (m c) (λr=>∀v a,Ag H a->Rep K a (AS.plus S H) r v->Q v a) (λx=>∀v u a,Ag H a->Rep K a (AS.plus S H) x v->RelV v u->E u none a)
def EX(E:XK):D->V->Hp->Prop:=λ_ v a=>∀u,RelV v u->E u none a
def yl1(c:DC):XK:=λu _ a=>∃d v,RelV v u/\c.Ex d v a
abbrev gC(X:Cx)(c:DC):Prop:=Passes (CXE X.prog X.w) X (yl1 c)
variable {f:BK}{fd:DX}{k:Nat}
section
variable {P:B_}{w:CW}{K:CJ}{mg:BZ->Option A_}{base:CK}
theorem oA{x qual:BZ}{st:DR}{N ps:List BZ}{O:List Nat}{g:Ev->R Fl}(F:Fun K x qual st f fd)(S:Fp N ps (Bf st))(hO:O.all (λi=>decide (ps.length<=i))=true)
  (j:∀(b:A_)(A:EY)(outer:List KH)(s:BJ)(H:Hp)(E:XK)(y:AS),Hx k (A.deeper (envOfC qual (Bf st) s.heap.objs.size f b))->(A.deeper (envOfC qual (Bf st) s.heap.objs.size f b)).units+70<I_ ->
   gC (X8 (CXE P w) P w K mg base N qual (Bf st) f b A outer s H E) ⟨H,y,O,EX E,[]⟩ ->
   Us (X8 (CXE P w) P w K mg base N qual (Bf st) f b A outer s H E) ⟨H,y,O,EX E,[]⟩ (El st) g):
  Hl P w K mg base (CXE P w) (k+1) f fd ps (sp1 K ps.length (Cq N.length g)):=by
 obtain⟨oc,od,kV,ab,pm,an,b,ct,aa,rfl,lk,B⟩:=F.ex;refine tB lk B S (λT H Q E h=>h.1) λA outer s H T Q E J h=>?_;obtain⟨hl,y,C,r,q⟩:=h;refine⟨_,j b A outer s H E y J (by have:=J.un;lia) (λm M H1 U e X I hx=>yh4 m M H1 U e X I ?_),[],Af N.length C,Y8 r (λi hi=>?_),?_⟩
 ·obtain⟨a,l,p,n,d,v,Y,e3⟩:=hx;exact⟨a,l,p,n,e3 _ Y⟩
 ·have:=PQ.mp hO i hi;rw[hl];exact of_decide_eq_true this
 ·have c:RQ (dD (g (Af N.length C))) _ _:=q;cases e:g (Af N.length C) with
  |ok fl =>
   rw[e]at c;cases fl with
   |nx G=>exact λL l E'=>c .non l E'.same rfl
   |rt d=>exact λv l s r=>c v l s (r.mono (Ag.refl _) λo z=>z.elim .inl λ⟨a,p,n,_⟩=>.inr ⟨a,p,n⟩)
   |bk G=>exact c.elim
   |ct G=>exact c.elim
  |exc x=>rw[e]at c;exact λv l s r u Z=>c v u l s (r.mono (Ag.refl _) λo z=>z.elim .inl λ⟨a,p,n,_⟩=>.inr ⟨a,p,n⟩) Z
  |bad=>rw[e]at c;exact c.elim
def tE{ps:List BZ}{n:Nat}{m:List D->R D}(F:Hl P w K mg base (CXE P w) k f fd ps (sp1 K n m)):Hl P w K mg base CX0 k f fd ps (sp0 K n m):=by
 have up:∀a H Q E,sp0 K n m a H Q E->sp1 K n m a H Q (λ_ _ _=>False):=λa H Q E ⟨o,S,x,r,q⟩=>⟨o,S,x,r,q.mono (λ_ z=>z) λ_ z=>z.elim⟩;refine⟨λa H Q E h=>F.len a H Q _ (up a H Q E h),λA b s H args g a Q E l p u i j=>HD (F.run A b s H args g a Q _ l p u i (up a H Q E j)) λr y c=>?_⟩;cases r with
 |error e=>obtain⟨_,_,_,_,z⟩:=c;exact z
 |ok v=>cases v<;>exact c
end
section
variable {X:Cx}{c:DC}{l:Lv}{e:CP}{es:List CP}{fs:Ev->R (List D)}{pos p:JN}{x:BZ}{k n:Nat}{f:BK}{fd:DX}{ps:List BZ}{m:List D->R D}
def clX(fs:Ev->R (List D))(m:List D->R D):Ev->R D:=λa=>(fs a).bind m
def wq1(F:Hl X.prog X.w X.K X.mg X.base (CXE X.prog X.w) k f fd ps (sp1 X.K n m))(I:gC X c)(C:Hx k X.A)(L:X.mg x=some (.ref f))(O:W.keepIn X.K (.ref f)=true)(U:Binds X.K fd ps [])(Y:PAd X c l (e::es) fs)(J:(e::es).length=n:=by rfl)(G:ps.length=n:=by rfl)(P:Gl X x:=by rfl)
  (i:Zd x:=by decide)(T:Zs X.env e es:=by rfl)(h:Zp X.env pos es:=by rfl):
  PEd X c l (.Call (.Name x p) (e::es) [] pos) (clX fs m):=PE.imp (wJ F C P L O U .nil I Y i T h) λr H Q q=>by
 revert q;refine Bt λhs s E q=>?_;refine Dd E ((RQ.bind.mp q).mono (λZ B vs H1 a E1 o M=>?_) λ_ z=>z);rw[YK];refine⟨?_,lvS c s r H l,Z,o,B.mono (λd z v j b g=>z v j (a.trans b) (g.mono (Ag.refl _) λ_ z=>Lw E a z)) λd z v u j b g y=>⟨d,v,y,z v j (a.trans b) ?_⟩⟩
 ·rw[<-o.length,M,J]
 ·exact g.mono (Ag.refl _) λ_ z=>Ls E (by cases l<;>rfl) (Lw E a z)
end
end PD
namespace L2
open PySem PySem.Spec PyProof.Rows
variable {P:B_}{w:CW}{H:Hp}{h:CK}{a:BK}
def Cj.has{o:HO}(x:Cj P w H h a o):∃u,h.get? a=some u:=by
 cases o with
 |lst c=>obtain⟨_,_,_,_,e⟩:=x;exact⟨_,e⟩
 |tup c=>obtain⟨_,_,_,_,e,_⟩:=x;exact⟨_,e⟩
 |dK b=>obtain⟨_,_,_,_,o,_,_,e,_⟩:=x;exact⟨_,e⟩
 |dT b=>obtain⟨_,_,_,_,o,_,_,e,_⟩:=x;exact⟨_,e⟩
 |set S n=>obtain⟨o,_,_,_,e,_⟩:=x;exact⟨_,e⟩
 |ins C m g=>obtain⟨_,_,_,e,_⟩:=x;exact⟨_,e⟩
 |own y=>exact x
 |xd g=>obtain⟨_,⟨_,_,_,e,_⟩,_⟩:=x;exact⟨_,e⟩
 |rng k l=>obtain⟨_,_,_,e⟩:=x;exact⟨_,e⟩
 |frz j u=>obtain⟨e,_⟩:=x;exact⟨_,e⟩
 |tbl ps=>obtain⟨_,e,_⟩:=x;exact⟨_,e⟩
 |met f y=>exact⟨_,(show h.get? a=some _ from x)⟩
 |ext i=>obtain⟨_,e,_⟩:=x;exact e
def HOk.none_of(x:HOk P w H h)(e:h.get? a=none):H a=none:=by
 cases q:H a with
 |none=>rfl
 |some u=>have⟨o,z⟩:=Cj.has (x a u q);rw[e]at z;cases z
variable {C:BK}
def kq5{od:Option BK}:∀c b:CK,PD.G7 C a od c->(∀o,c.get? a=some o->b.get? a=some o)->PD.G7 C a od b:=λ_ _ ⟨f,g,e⟩ k=>⟨f,g,k _ e⟩
def wf5{X:Cx}{g:List (BK×GJ)}{m:St}{s:BJ}{h':CK}{e:BK}{p:List A_}{tk:Nat}(I:Inv X g m H s)(f:Heap.MadeExcOf s.heap h' e (.ref C) p):
  a_ X.prog X.w X.stack H s e (upd H e (.ext (PD.G7 C e none))) {s with heap:=h',toks:=tk}:=by
 refine Er (λt j x r=>?_) (f.there);have i:=I.hok.none_of f.new;have ne:∀b o,s.heap.get? b=some o->b≠e:=λb o q z=>by rw[z,f.new]at q;cases q
 refine⟨rfl,I.bare,⟨λb o q _ _ _=>f.keeps b o q,λb o q _ _ _=>⟨o.slots,f.keeps b o q⟩,λb o q n _=>by rw[Aj (ne b o q)];exact n,λb o q _=>⟨o,f.keeps b o q⟩,λb k q=>by rw[Aj (Bh q i)];exact q,
  λb u k q=>by rw[Aj (Bh q i)];exact q,λb ps q=>⟨#[],by rw[Aj (Bh q i),q];simp⟩⟩,λb u q=>?_,f.new,C,none,_,_,An,j,.inl rfl,λT z=>by cases z⟩
 by_cases l:b=e
 ·subst l;rw[An]at q;cases q;exact⟨⟨_,_,j⟩,⟨_,j⟩,kq5⟩
 ·rw[Aj l]at q;exact(I.hok b u q).stay (λc v _ z=>f.keeps c v z) (λc z=>by rw[Aj (Bh z i)];exact z) λc k z=>by rw[Aj (Bh z i)];exact z
end L2
namespace PD
open PySem PySem.Spec PyProof.Rows L2
def tW(K:CJ)(c:DC)(n:Nat)(f:Ev->R Unit):TE:=λg H Q=>∃h b,Bb K c h b g H/\RQ (f b) (λ_=>∀x a,Ag H a->x.length<=n->Q (.str x) a) (λe=>∀v a,Ag H a->Rep K a (lvS c b g H .any) e v->c.Ex e v a)
abbrev PXw(X:Cx)(c:DC)(n:Nat)(e:CP)(f:Ev->R Unit):Prop:=PE X e (tW X.K c n f)
def mW:Ev->R Unit:=λ_=>.ok ()
def smI:D->R Unit
 | .int i=>if i.natAbs<2 ^ 200 then .ok () else .bad
 |_=>.bad
def tX(f:Ev->R D):Ev->R Unit:=λa=>(f a).bind smI
def tV(f g:Ev->R Unit):Ev->R Unit:=λa=>(f a).bind λ_=>g a
variable {X:Cx}{c:DC}{g:Ev->R Unit}{e:CP}{pos:JN}
variable {n:Nat}
section
variable {l:Lv}{es:List CP}{f:Ev->R D}{a:Ev->R Unit}
def wdk{x:BZ}{j pos}(h:x.length<=2000:=by decide):PXw X c 2000 (.Constant (.str x) j pos) mW:=λb s i H Q I ⟨m,k,E,q⟩=>ww1 b s i H Q I (q x H (Ag.refl _) h)
theorem wdf(h:PEd X c l e f):PXw X c 2000 (.FormattedValue e (-1) none pos) (tX f):=λj s B H Q I q=>by
 obtain⟨L,K,E,q⟩:=q;refine FormattedValue_plain (thn (h j s B H (λv o=>∃i:Int,v=.int i/\i.natAbs<2 ^ 200/\∀x:BZ,x.length<=2000->Q (.str x) o) I (Bk E ((RQ.bind.mp q).mono (λd r v o y M w=>?_) λ_ z=>z))) λu y F=>?_)
 ·cases d with
  |int i =>
   have p:RQ (if i.natAbs<2 ^ 200 then R.ok () else .bad) _ _:=r;by_cases m:i.natAbs<2 ^ 200
   ·rw[if_pos m]at p;exact⟨i,w,m,λx C=>p x o y C⟩
   ·rw[if_neg m]at p;exact p.elim
  |_=>exact r.elim
 ·obtain⟨v,o,J,w,i,G,m,r⟩:=F;subst G;obtain⟨t,rfl⟩:∃t,u=Value.int i t:=w;have b:i.natAbs.log2<1920:=by
   by_cases A:i.natAbs=0
   ·rw[A];decide
   ·exact gH ((Nat.log2_lt A).mpr m) (by decide)
  refine formatField_int_small b ⟨.str (toString i),o,(J.tok _).tok _,⟨_,rfl⟩,r _ ?_⟩;have:=int_text_length_le (a:=i) (k:=1920) (by decide) b;show(Str.ofString (toString i)).length<=2000;rw[PySem.ofString_length];lia
def PJ(X:Cx)(c:DC)(n:Nat)(es:List CP)(f:Ev->R Unit):Prop:=∀(acc:BZ)(b:List (BK×GJ))(s:BJ)(i:St)(H:Hp)(Q:VK),acc.length+n<=sizeLine->Inv X b i H s ->
 (∃k j,Bb X.K c k j i H/\RQ (f j) (λ_=>∀x h,Ag H h->x.length<=acc.length+n->Q (.str x) h) (λe=>∀v h,Ag H h->Rep X.K h (lvS c j i H .any) e v->c.Ex e v h))->BP (BV X.prog X.w) X.A (joinParts acc (VH es X.env)) (EP X b i Q) X.xe s
def wj0:PJ X c 0 [] mW:=λacc b s i H Q h I ⟨k,j,E,q⟩=>joinParts_nil ⟨.str acc,H,I.tok _,⟨_,rfl⟩,q acc H (Ag.refl _) (F_ _)⟩ h
theorem tU(h:PXw X c 2000 e g)(M:PJ X c n es a)(O:VH (e::es) X.env=DY e X.env::VH es X.env:=by rfl):PJ X c (2000+n) (e::es) (tV g a):=λacc i s p H Q Y I q=>by obtain⟨C,k,E,q⟩:=q;rw[O];refine joinParts_cons (thG (h i s p H (λv o=>∃x:BZ,v=.str x/\x.length<=2000/\Ag H o/\Bb X.K c C k p o/\RQ (a k) (λ_=>∀x b,Ag H b->x.length<=acc.length+(2000+n)->Q (.str x) b) (λe=>∀v b,Ag H b->Rep X.K b (lvS c k p H .any) e v->c.Ex e v b)) I ⟨C,k,E,(RQ.bind.mp q).mono (λ_ B x o w G=>⟨x,rfl,G,w,E.mono w,B⟩) λ_ z=>z⟩) λu w v o T J m=>?_);obtain⟨x,P,G,j,U,B⟩:=m;subst P;obtain⟨t,rfl⟩:∃t,u=Value.str x t:=J;have F:(acc++x).length=acc.length+x.length:=strLen_append _ _;refine⟨by rw[F];lia,M (acc++x) i w p o Q (by rw[F];lia) T ⟨C,k,U,B.mono (λ_ z y b A L=>z y b (j.trans A) (by rw[F]at L;lia)) λ_ z v b A r=>z v b (j.trans A) (r.mono (Ag.refl _) λ_ y=>Hg j y)⟩⟩
theorem wdj{j i:CP}(h:PJ X c n (j::i::es) g)(w:n<=sizeLine:=by decide)(u:VH (j::i::es) X.env=DY j X.env::DY i X.env::VH es X.env:=by rfl):PXw X c n (.JoinedStr (j::i::es) pos) g:=λb s k H Q I q=>by revert q;refine Bt λr m E q=>?_;refine JoinedStr_many ?_;rw[<-u];exact h Str.empty b s k H Q (by have:Str.empty.length=0:=rfl;rw[this];lia) I ⟨r,m,E,q.mono (λ_ z x v o p=>z x v o (by have:Str.empty.length=0:=rfl;rw[this]at p;lia)) λ_ z=>z⟩
end
abbrev VE:List A_:=[.type "ValueError",.type "Exception",.type "BaseException",.type "object"]
def fL(K:CJ)(c:BZ)(C W:BK):Bool:=
 (match PySem.W.clsIn K C with |some a=>decide (a.name=c) && a.hasDict && a.mro == .ref C::.ref W::VE |none=>false) &&
 (match PySem.W.clsIn K W with |some a=>decide (a.name = "WebError") && a.mro == .ref W::VE |none=>false) &&
 PySem.W.findIn K (.ref C) "__getattribute__" == some (some (.builtin "BaseException.__getattribute__")) && PySem.W.findIn K (.ref C) "__getattr__" == some none && PySem.W.findIn K (.ref C) "__class__" == some (some (.builtin "object.__class__")) && decide (c ≠ "dict") && decide (c ≠ "dictK")
variable {C W:BK}
def tG{K:CJ}{c:BZ}(a:PySem.W.nsIn K PySem.mainGlobals c=some (some (.ref C)))(b:PySem.W.nsIn K PySem.mainGlobals "WebError" = some (some (.ref W)))(q:fL K c C W=true):EC K c C W:=by
 unfold fL at q;simp only[QC,beq_iff_eq,decide_eq_true_eq]at q;obtain⟨⟨⟨⟨⟨⟨f,h⟩,o⟩,m⟩,j⟩,l⟩,k⟩:=q;refine⟨a,b,?_,?_,o,m,j,l,k⟩
 ·cases e:PySem.W.clsIn K C with
  |none=>rw[e]at f;cases f
  |some i=>rw[e]at f;simp only[QC,beq_iff_eq,decide_eq_true_eq]at f;exact⟨i,rfl,f.1.1,f.1.2,f.2⟩
 ·cases e:PySem.W.clsIn K W with
  |none=>rw[e]at h;cases h
  |some i=>rw[e]at h;simp only[QC,beq_iff_eq,decide_eq_true_eq]at h;exact⟨i,rfl,h.1,h.2⟩
def wp1(K:CJ)(C N:BK)(bm:List A_):Prop:=∃a q bs k sn sub m col l j i h f b,K.lookup C=some (excClassObj a q C N bs bm k sn sub m col l j i h f b "ValueError.__new__")
def j6(K:CJ)(C:BK):Bool:=(K.lookup C).any λo=>o.cls == .type "type" && (PySem.W.clsIn K C).any (λa=>a.mro.head? == some (.ref C) && !a.hasDel && PySem.W.tailIn K VE a.mro.tail && PySem.W.nsOkIn K a.ns) &&
 decide (o.slots.size=6) && o.slots[4]? == some (some (.builtin "ValueError.__new__"))
theorem wy1{a:Array (Option A_)}{v:Option A_}(h:a.size=6)(f:a[4]? = some v):∃o m l k j,a = #[o,m,l,k,v,j]:=by
 have q:a[4]'(by rw[h];decide)=v:=by rw[YB (by rw[h];decide)]at f;exact Option.some.inj f
 refine⟨a[0]'(by rw[h];decide),a[1]'(by rw[h];decide),a[2]'(by rw[h];decide),a[3]'(by rw[h];decide),a[5]'(by rw[h];decide),?_⟩;apply Array.ext
 ·exact h
 ·intro i r p;have b:i<6:=p;rcases i with _ |_ |_ |_ |_ |_ |i
  ·rfl
  ·rfl
  ·rfl
  ·rfl
  ·exact q
  ·rfl
  ·exact absurd b (by omega)
def wf3{K:CJ}(q:j6 K C=true):∃N h,wp1 K C N h/\PySem.W.tailIn K VE h=true/\PySem.W.nsOkIn K N=true/\∃b,PySem.W.clsIn K C=some b/\b.ns=N:=by
 have⟨o,p,q⟩:=PySem.W.any_some q;simp only[QC,beq_iff_eq,decide_eq_true_eq]at q;obtain⟨⟨⟨s,f⟩,M⟩,L⟩:=q;have⟨b,a,f⟩:=PySem.W.any_some f;simp only[QC,beq_iff_eq,aA]at f;obtain⟨⟨⟨j,w⟩,v⟩,u⟩:=f;have⟨J,I,H,G,F,l⟩:=wy1 M L;have r:o.data=.cls b:=by unfold PySem.W.clsIn at a;rw[p]at a;obtain⟨A,k,x,y⟩:=o;cases x<;>first | (cases a;rfl) |cases a
 obtain⟨A,k,x,y⟩:=o;obtain⟨E,bs,mro,B,z,i,sn,sub,O,col,del⟩:=b;dsimp only at s l r j w v u;subst s l r w;cases mro with
 |nil=>cases j
 |cons m h=>cases j;exact⟨B,h,⟨E,z,bs,i,sn,sub,O,col,k,J,I,H,G,F,p⟩,v,u,_,a,rfl⟩
structure ER0(K:CJ)(c:BZ)(C W:BK):Prop where
 ec:EC K c C W
 cl:j6 K C=true
 ni:∃cd,PySem.W.clsIn K C=some cd/\PySem.W.nsIn K cd.ns "__init__" = some none
def nY(K:CJ)(C:BK):Bool:=match PySem.W.clsIn K C with |some a=>PySem.W.nsIn K a.ns "__init__" == some none |none=>false
def wr7{K:CJ}{c:BZ}(a:PySem.W.nsIn K PySem.mainGlobals c=some (some (.ref C)))(b:PySem.W.nsIn K PySem.mainGlobals "WebError" = some (some (.ref W)))(q:fL K c C W=true)(h:j6 K C=true)(f:nY K C=true):ER0 K c C W:=by
 refine⟨tG a b q,h,?_⟩;unfold nY at f;cases e:PySem.W.clsIn K C with
 |none=>rw[e]at f;cases f
 |some i=>rw[e]at f;exact⟨i,rfl,beq_iff_eq.mp f⟩
def Rep.err0{K:CJ}{H:Hp}{S:AS}{nm:BZ}{a:BK}(b:EC K nm C W)(h:H a=some (.ext (G7 C a none))):Rep K H S (.exc nm [] []) (.ref a):=⟨a,[],rfl,.inr ⟨C,W,b,.inl ⟨rfl,rfl,h⟩⟩,rfl⟩
def iI(nm:BZ)(g:Ev->R Unit):Ev->R Fl:=λa=>(g a).bind λ_=>.exc (.exc nm [] [])
section
variable {f cpos:JN}{x:BZ}{C W:BK}{n:Nat}
def kx4(hp:gC X c)(hc:X.calm=true)(hm:X.mg x=some (.ref C))(J:ER0 X.K x C W)(Z:PXw X c n e g)(hg:Gl X x:=by rfl)(B:Zd x:=by decide)
  (M:BR [e] X.env=[(false,DY e X.env)]:=by rfl):PSd X c (.Raise (some (.Call (.Name x f) [e] [] cpos)) none pos) (iI x g):=λh s L H D I q=>by
 obtain⟨hs,Q,E,q⟩:=q;obtain⟨N,bm,⟨nm,U,bs,hd,sn,sub,ab,col,dd,k0,k1,k2,k3,k5,hC⟩,hT,O,cd,G,A⟩:=wf3 J.cl;obtain⟨aa,i,m⟩:=J.ni;rw[G]at i;cases i;rw[A]at m;have FB:=PySem.F.excBase_ValueError;have P:=PySem.W.tail_of_in (bmB:=VE) I.mod.kin hT;have N0:X.base.Ns N (X.base.nsMap N):=.of_isNs (PySem.W.isNs_of_in I.mod.kin O);have Y:X.base.nsMap N "__init__" = none:=PySem.W.nsMap_none_of_in I.mod.kin O m;refine wpAny_Raise_call_subT (C:=C) (nm:=nm) (q:=U) (N:=N) (bs:=bs) (bm:=bm) (hdct:=hd) (sn:=sn) (sub:=sub) (ab:=ab) (col:=col) (dd:=dd) (k0:=k0) (k1:=k1) (k2:=k2) (k3:=k3) (k5:=k5) FB (mN:=X.base.nsMap N) (P.hasType FB.hasBase) (I.ok.hd hc) (by rw[M];rfl) Y (Ru I hg hm ⟨rfl,?_⟩ B);rw[M];refine Calls.evalArgs_plain ?_;refine Calls.spliced_cons (thG (Z h s L H (λv r=>Ag H r/\Rg X.K c (.exc x [] [])) I ⟨hs,Q,E,(RQ.bind.mp q).mono (λ_ l y r w hy=>⟨w,l⟩) λz l=>Ef E l⟩) λu w v r k r1 j=>?_);obtain⟨T,l⟩:=j;refine Calls.spliced_nil ⟨rfl,show(1:Nat)<=sizeLine from by decide,k.SM _ _ hC,N0.keeps k.bk,P.keeps k.bk,λh' a p=>?_⟩;have F:=wf5 (tk:=w.toks) k p;refine hp h L r w _ _ k ⟨a,_,rfl,F,_,.ref a,rfl,l (.ref a) _ ?_ (Rep.err0 J.ec An)⟩;exact λb o z=>by have:r b=some o:=T _ _ (E.same _ _ z);rw[Aj (Bh this (k.hok.none_of p.new))];exact this
end
end PD
namespace L2
open PySem PySem.Spec PyProof.Rows
section
variable {X:Cx}{pins:List (BK×GJ)}{σ:St}{H H':Hp}{s s':BJ}
abbrev Cx.mrk(X:Cx)(a:A_):Cx:={X with A:=X.A.mark (some a),calm:=false,xe:=λ_ _=>False}
def Inv.mrk(I:Inv X pins σ H s)(a:A_):Inv (X.mrk a) pins σ H s:=
 ⟨⟨I.ok.mod,I.ok.kind,I.ok.glob,I.ok.blt,I.ok.above,I.ok.inj,I.ok.has,I.ok.cab,(λz=>Bool.noConfusion z),I.ok.frames,I.ok.stk,I.ok.exf,I.ok.bs,I.ok.bsz,I.ok.noex,I.ok.exfs,I.ok.funs,I.ok.frf⟩,I.os,I.bare,I.base,I.loc,I.cell,I.free,I.freeC,I.pin,I.hok,I.len⟩
def Inv.unmrk{a:A_}(ok:X.Ok)(I:Inv (X.mrk a) pins σ H s):Inv X pins σ H s:=⟨ok,I.os,I.bare,I.base,I.loc,I.cell,I.free,I.freeC,I.pin,I.hok,I.len⟩
def wX{M:KR}{A:EY}{E:A_->BJ->Prop}{i:Nat}{n:BZ}{pos:JN}{Q:Unit->BJ->Prop}(I:Inv X pins σ H s)(hN:X.N.Nodup)(hi:X.N[i]? = some n)(hk:X.env.scope.names.lookup n=some .local)
  (h:∀s',Inv X pins (σ.set i none) H s'->Q () s'):BP M A (do bindName X.env n .none;unbindBehindTheSuite X.env n pos) Q E s:=by
 refine Ao (λm G hl=>?_) (id I.loc);have r:(X.env.scope.kind == .class || (X.env.scope.kind == .module && X.env.locals != X.env.globals))=false:=by rw[I.ok.kind];rfl
 have l:i<σ.length:=by rw[I.len];exact(LR.mp hi).1
 have cne:=I.cne;refine wpAny_nameGoes_keeps hk G r λh' v x a=>?_;refine aU (λoL _ _ Z _=>?_) (id G);refine h _ ⟨I.ok,I.os,I.bare,⟨λb o e n C g=>?_,λb o e n C g=>?_,I.base.free,λb o e g=>?_,I.base.tups,I.base.frzs,I.base.tbls⟩,⟨_,x,λj y J f w e3=>?_⟩,λy c e=>?_,I.free,I.freeC,λp Y=>?_,λb P e=>?_,by simpa using I.len⟩
 ·exact(a.2 b (JW (PX (HB e) I.ok.above))).trans (I.base.keep b o e n C g)
 ·have⟨L,f⟩:=I.base.slot b o e n C g;exact⟨L,(a.2 b (JW (PX (HB e) I.ok.above))).trans f⟩
 ·have⟨T,f⟩:=I.base.there b o e g;exact⟨T,(a.2 b (JW (PX (HB e) I.ok.above))).trans f⟩
 ·by_cases B:j=i
  ·subst B;rw[ZM l]at w;cases w
  ·rw[QD (Ne.symm B)]at w;refine Ao (λK O q=>?_) (hl j y J f w e3);refine⟨K,O,?_⟩;rcases q with ⟨k,e⟩ | ⟨k,c,e,z⟩
   ·refine .inl ⟨k,?_⟩;have:y≠n:=λe=>B (Wx hN f (e ▸ hi));simp[this,e]
   ·exact .inr ⟨k,c,e,z.sameBut a (cne y c e)⟩
 ·have⟨F,z⟩:=I.cell y c e;exact⟨F,z.sameBut a (cne y c e)⟩
 ·refine yl6 (λe n ne U d=>?_) (I.pin p Y);exact⟨(a.2 p.1 ne).trans e,n,ne,U,d⟩
 ·refine(I.hok b P e).stay (λc F u q=>(a.2 c ?_).trans q) (λ_ q=>q) λ_ _ q=>q;rintro rfl;rcases u with rfl |u
  ·rw[I.free]at e;cases e
  ·rw[I.free]at u;cases u
def a_.land{P:B_}{w:CW}{outer:List KH}{a C:BK}{od:Option BK}{i:Array A_}{j:Array (Option A_)}{h':CK}(F:a_ P w outer H s a H' s')(m:H' a=some (.ext (PD.G7 C a od)))(k:∀T,i[1]? = some (.ref T)->s.heap.get? T=none/\H' T=none)
  (k1:∀b o,i[1]? ≠ some (.ref b)->s'.heap.get? b=some o->h'.get? b=some o)(k3:h'.get? a=some ⟨.ref C,od,.fields i,j⟩):Un (frs outer) [] H H' s.heap h'/\HOk P w H' h':=by
 have g:∀b o,s.heap.get? b=some o->i[1]? ≠ some (.ref b):=λb o q z=>by rw[(k b z).1]at q;cases q
 refine⟨⟨λb o q n f h=>k1 b o (g b o q) (F.un.keep b o q n f h),λb o q n f h=>?_,F.un.free,λb o q h=>?_,F.un.tups,F.un.frzs,F.un.tbls⟩,λc u q=>?_⟩
 ·have⟨j,e⟩:=F.un.slot b o q n f h;exact⟨j,k1 b _ (g b o q) e⟩
 ·have⟨l,e⟩:=F.un.there b o q h;exact⟨l,k1 b _ (g b o q) e⟩
 ·refine(F.hok c u q).stay (λb o f e=>k1 b o (λz=>?_) e) (λ_ z=>z) λ_ _ z=>z;rcases f with rfl |f
  ·rw[(k b z).2]at q;cases q
  ·rw[(k b z).2]at f;cases f
end
end L2
namespace PD
open PySem PySem.Spec PyProof.Rows L2
def TB(X:Cx)(c:DC)(st:DR)(g:Ev->R Ev):Prop:=∀(b:List (BK×GJ))(s:BJ)(j:St)(H:Hp)(n:List Hd)(ρ:Ev)(l:A_->BJ->Prop)(Q:Flow->BJ->Prop),Inv X b j H s->Bb X.K c n ρ j H ->
 RQ (g ρ) (λk=>∀h f e,Inv X b f e h->Bb X.K c n k f e->Q .next h)
  (λd=>∀a m i h e,Inv X b j i m->Ag H i->a_ X.prog X.w X.stack i m a e h->Ag i e->Rep X.K e c.S d (.ref a)->l (.ref a) h) ->
 BP (BV X.prog X.w) X.A (exec st X.env) Q l s
def tbG(fs:Ev->R (List D))(m:List D->R D):Ev->R Ev:=λa=>(fs a).nox.bind λb=>(m b).bind λ_=>.ok a
def tbI(t:Ev->R Bool)(c b:Ev->R Ev):Ev->R Ev:=λa=>(t a).nox.bind λk=>if k then c a else b a
variable {X:Cx}{c:DC}{pos:JN}{st:DR}
section
variable {l:Lv}{e:CP}{es:List CP}{fs:Ev->R (List D)}{g p:JN}{x:BZ}{k n:Nat}{f:BK}{fd:DX}{ps:List BZ}{m:List D->R D}{i:DR}{o j:Ev->R Ev}{t:Ev->R Bool}
def wm1(F:Hl X.prog X.w X.K X.mg X.base (CXE X.prog X.w) k f fd ps (sp1 X.K n m))(hr:Hx k X.A)(hm:X.mg x=some (.ref f))(hk:W.keepIn X.K (.ref f)=true)(hb:Binds X.K fd ps [])(ha:PAd X.nox c .any (e::es) fs)(hn:(e::es).length=n:=by rfl)(ae:ps.length=n:=by rfl)(hg:Gl X x:=by rfl)
  (aa:FW (.Call (.Name x p) (e::es) [] pos) none g.line X.env=pure false:=by rfl)
  (ag:Zd x:=by decide)(he:Zs X.env e es:=by rfl)(af:Zp X.env pos es:=by rfl):
  TB X c (.Expr (.Call (.Name x p) (e::es) [] pos) g) (tbG fs m):=by
 intro C s σ H hs ρ xe Q I E q;obtain⟨O,ah,q⟩:=RQ.nox (RQ.bind.mp q);refine iD (J_ (Ru I hg hm ?_ ag)) I.quiet aa;refine W.callWith_K (h₀:=X.base) I.ok.mod.kin hk (GD (ha pos C s σ H (λJ h=>Ag H h/\Ak X.K h c.S O J/\O.length=(e::es).length) (I.wish _) ⟨hs,ρ,E,by rw[ah];exact λJ h L r hl=>⟨L,r,hl⟩⟩) (λP L hh=>?_) λ_ _ z=>z.elim) he af;obtain⟨J,h,ai,r,sm,T,hl⟩:=hh;have Z:Inv X C σ h L:=ai.unwish;refine⟨Z.SM,?_⟩;have r2:Vals (J++[]) (P++[]):=by rw[YK,YK];exact r
 have Y:P.length=ps.length:=by rw[<-r.length,<-T.length,hl,hn,ae]
 let EE:XK:=λu _ y=>∃d v,m O=.exc d/\RelV v u/\Ag h y/\Rep X.K y c.S d v;have E1:Bb X.K c hs ρ σ h:=E.mono sm;have plus:∀o,AS.plus c.S h o->c.S o:=λo z=>by
  rcases z with z | ⟨a,rfl,z⟩
  ·exact z
  ·exact(E1.freshN ⟨a,rfl,z⟩).1
 have ab:sp1 X.K n m J h (λv y=>∃d,m O=.ok d/\Ag h y) EE:=by
  refine⟨by rw[<-T.length,hl,hn],c.S,O,T,?_⟩;cases M:m O with
  |ok d=>exact λv y G r2=>⟨d,rfl,G⟩
  |exc d=>exact λv u y G r2 ru=>⟨d,v,M,ru,G,r2.mono (Ag.refl _) plus⟩
  |bad=>rw[M]at q;exact q.elim
 refine QH (HD (F.run X.A X.stack L h ⟨P,[]⟩ P J _ EE hr Z.env0 (by have:=hb L P Z.SM (by rw[YK];exact Y);rw[YK]at this;exact this) r ab) λT s' U=>?_);cases T with
 |error ev =>
  obtain⟨a,y,rfl,FL,d,v,M,B,G,rp⟩:=U;rw[M]at q;have ev:v=.ref a:=by
   cases v with
   |ref b=>have:Value.ref a=Value.ref b:=B;cases this;rfl
   |int i=>obtain⟨t,z⟩:∃t,Value.ref a=Value.int i t:=B;cases z
   |str i=>obtain⟨t,z⟩:∃t,Value.ref a=Value.str i t:=B;cases z
   |byt i=>obtain⟨t,z⟩:∃t,Value.ref a=Value.bytes i t:=B;cases z
   |flt i=>obtain⟨t,z⟩:∃t,Value.ref a=Value.float i t:=B;cases z
   |non=>have z:Value.ref a=Value.none:=B;cases z
   |bl b=>have z:Value.ref a=Value.bool b:=B;cases z
   |ty b=>have z:Value.ref a=Value.type b:=B;cases z
  subst ev;exact q a L h s' y Z sm FL G rp
 |ok fl =>
  cases fl with
  |ret u=>obtain⟨v,y,I2,B,d,M,G⟩:=Z.after U;rw[M]at q;exact q s' σ y I2 (E1.mono G)
  |next=>exact U.elim
  |brk=>exact U.elim
  |cont=>exact U.elim
def yk1{d:CP}(ht:PTd X.nox c d t)(h1:TB X c st o)(h2:TB X c i j):TB X c (.If d [st] [i] pos) (tbI t o j):=by
 intro r s G H T F J Q I E q;refine Ao (λk ek q=>?_) (RQ.nox (RQ.bind.mp q));refine wpAny_If (GD (ht r s G H (λb C=>b=k/\Ag H C) (I.wish _) ⟨T,F,E,by rw[ek];exact λC y=>⟨rfl,y⟩⟩) (λb y ⟨C,U,eb,K⟩=>?_) λ_ _ z=>z.elim);subst eb;have I1:Inv X r G C y:=U.unwish;have one:∀{st:DR},BP (BV X.prog X.w) X.A (exec st X.env) Q J y->(∀f B,f≠.next->Q f B->Q f B)->BP (BV X.prog X.w) X.A (execs [st] X.env) Q J y:=λh _=>LK (thn h λf L q=>by
  cases f with
  |next=>exact HH q
  |ret v=>exact q
  |brk=>exact q
  |cont=>exact q)
 cases b with
 |true=>have O:RQ (o F) _ _:=q;exact one (h1 r y G C T F J Q I1 (E.mono K) (O.mono (λM z=>z) λd z a L Y B Z P u=>z a L Y B Z P (K.trans u))) λ_ _ _ z=>z
 |false=>have O:RQ (j F) _ _:=q;exact one (h2 r y G C T F J Q I1 (E.mono K) (O.mono (λM z=>z) λd z a L Y B Z P u=>z a L Y B Z P (K.trans u))) λ_ _ _ z=>z
end
def unS(i:Nat):R Fl->R Fl
 | .ok (.nx a)=>.ok (.nx (a.set i none))
 | .ok (.rt d)=>.ok (.rt d)
 |_=>.bad
def aX:D->Bool
 | .exc c _ a=>decide (c ≠ "dict") && decide (c ≠ "dictK") && N7 a
 |_=>false
def iG(g:Ev->R Ev)(i:Nat)(e:Ev->R Fl):Ev->R Fl:=λb=>match g b with
 | .ok a=>.ok (.nx a)
 | .exc d=>if aX d=true then unS i (e (b.set i (some d))) else .bad
 | .bad=>.bad
def EC.web{K:CJ}{c:BZ}{C W:BK}(e:EC K c C W)(g:PySem.W.typeIn K (.ref W)=some (.type "type")):PySem.W.exmOne K (.ref C) (.ref W)=some true:=by
 refine aV (λl i n m f=>?_) (e.cls);refine Er (λj b k a=>?_) (e.wcl);unfold PySem.W.exmOne;have h:PySem.W.subIn K (.ref W) (.type "BaseException")=some true:=by show PySem.W.mroIn K W _=_;unfold PySem.W.mroIn;rw[b,gU,if_neg (by rw[a];exact XC),a];rfl
 rw[h,if_pos (by simp)];show(if((PySem.W.clsIn K W).isSome && PySem.W.typeIn K (.ref W) == some (.type "type"))=true then PySem.W.subIn K (.ref C) (.ref W) else none)=_;rw[b,g,if_pos (by simp)];show PySem.W.mroIn K C _=_;unfold PySem.W.mroIn;rw[i,gU,if_neg (by rw[f];exact XC),f];simp
variable {K:CJ}{H:Hp}
def Bb.unset{hs:List Hd}{ρ:Ev}{σ:St}{i:Nat}(E:Bb K c hs ρ σ H)(hi:i∉c.O):Bb K c hs (ρ.set i none) (σ.set i none) H where
 same:=E.same
 len:=by rw[qC,qC];exact E.len
 own:=λj d hj hd=>by have hji:j≠i:=λz=>hi (z ▸ hj);rw[QD (Ne.symm hji)]at hd;refine Er (λa e2 e4 e5=>?_) (E.own j d hj hd);refine⟨a,by rw[QD (Ne.symm hji)];exact e2,e4,?_⟩;rw[Vd hi];exact e5
 apart:=λj k a hj hk lj lk e1 e2=>by have hji:j≠i:=λz=>hi (z ▸ hj);have hki:k≠i:=λz=>hi (z ▸ hk);rw[QD (Ne.symm hji)]at e1;rw[QD (Ne.symm hki)]at e2;exact E.apart j k a hj hk ((Ck hji).mp lj) ((Ck hki).mp lk) e1 e2
 oth:=λj d hj hd=>by
  by_cases hji:j=i
  ·subst hji;by_cases hl:j<ρ.length
   ·rw[ZM hl]at hd;cases hd
   ·rw[List.set_eq_of_length_le (Nat.not_lt.mp hl),aD (Nat.not_lt.mp hl)]at hd;cases hd
  ·rw[QD (Ne.symm hji)]at hd;refine Ao (λv e1 e2=>?_) (E.oth j d hj hd);refine⟨v,by rw[QD (Ne.symm hji)];exact e1,?_⟩;rw[Vd hi];exact e2
 held:=λP hp=>by have⟨a,b⟩:=E.held P hp;refine⟨a,?_⟩;rw[Vd hi];exact b
 excl:=E.excl
section
variable {j:DR}{h:List DR}{g:Ev->R Ev}{l:Ev->R Fl}{p k:JN}{n m:BZ}{W:BK}
def kx8{S S':AS}{d:D}{v:V}(s:aX d=true)(r:Rep K H S d v):∃f q i a o,d=.exc f q i/\v=.ref a/\Ur K H f q a o/\Ak K H S' i o:=by
 cases d with
 |exc f q i=>revert r;refine Br λa o e x u=>?_;have b:(decide (f ≠ "dict") && decide (f ≠ "dictK") && N7 i)=true:=s;rw[QC,QC,decide_eq_true_eq,decide_eq_true_eq]at b;exact⟨f,q,i,a,o,rfl,e,x.errC b.1.1 b.1.2,R0 i o b.2 u⟩
 |_=>cases s
def try_(i:Nat)(hb:TB X c st g)(ar:∀ev:A_,Us (X.mrk ev) c (j::h) l)(hm:X.mg m=some (.ref W))(ba:m = "WebError")(aq:PySem.W.typeIn X.K (.ref W)=some (.type "type"))(au:PySem.W.nsIn X.K PySem.mainGlobals "WebError" = some (some (.ref W)))(J:X.stack=X.env::X.outer/\X.env.frame=some X.env.locals)(nd:X.N.Nodup)
  (hi:c.O.contains i=false:=by rfl)(hN:X.N[i]? = some n:=by rfl)(hk:X.env.scope.names.lookup n=some .local:=by rfl)(hg:Gl X m:=by rfl)(ay:Zd m:=by decide):
  PSd X c (.Try [st] [.ExceptHandler (some (.Name m p)) (some n) (j::h) k] [] [] pos) (iG g i l):=by
 intro A s σ H D I q;revert q;refine Bt λhs G E q=>?_;have ag:i∉c.O:=λz=>by have:=List.elem_eq_true_of_mem z;rw[show List.elem i c.O=c.O.contains i from rfl,hi]at this;cases this
 refine wpAny_Try_except (LK (hb A s σ H hs G _ _ I E ?_));have q0:RQ (match g G with | .ok ab=>R.ok (.nx ab) | .exc d=>if aX d=true then unS i (l (G.set i (some d))) else .bad | .bad=>.bad) (Fl.ends X.K c hs D) (Rg X.K c):=q;cases eg:g G with
 |bad=>rw[eg]at q0;exact q0.elim
 |ok ab=>rw[eg]at q0;exact λU r Q I' E'=>HH (HH ⟨r,Q,I',q0 r Q E'⟩)
 |exc d =>
  rw[eg]at q0;intro a s1 H1 U Q Y ao F ak rp;have B:RQ (if aX d=true then unS i (l (G.set i (some d))) else .bad) (Fl.ends X.K c hs D) (Rg X.K c):=q0;by_cases hc:aX d=true
  ·rw[if_pos hc]at B;refine nn0 λhG=>?_;refine fQ (λC od vs sl hH ho ht hT=>?_) (F.obj);refine ym0 (λnm ks fs a' ah ed ea ex rr=>?_) (kx8 (S':=c.N G σ) hc rp);cases ea;revert ex;refine Bt λC' W' ec hx=>?_;have ax:∀b∈frs X.stack,H1 b=none:=Y.stkFree;have aw:∀b∈frs X.stack,∃o,s1.heap.get? b=some o:=λb hb=>let ⟨_,o,e,_⟩:=Y.stack.mem hb; ⟨o,e⟩;have M:=xG Y.stack Y.stkFree F.un;rw[J.1]at M;have P:=Y.ok.frames;rw[J.1]at P;refine hG ?_;clear hG;refine sV (base:=X.base) (env:=X.env) (outer:=X.outer) (L:=X.env.locals) P M J.2 ho ht λh' ai k1 k2 k3 k4 k5 k6=>?_;rw[<-J.1]at k1 k2;have af:∀T,ai[1]? = some (.ref T)->s1.heap.get? T=none/\Q T=none:=λT z=>⟨by
    cases y:s1.heap.get? T with
    |none=>rfl
    |some o =>
     have⟨o',e1⟩:=F.un.there T o y (by simp);exact absurd (PX (HB e1) (k5 T z)) (SN _),F.hok.fresh (k5 T z)⟩
   have Z:=F.noted (h':=h') hH ho hT ax aw k1 k2 k3 k4 af;have I3:Inv X A σ Q {U with heap:=h'}:=Y.call' (ch:=[]) Z.os Z.un Z.hok Z.bare (λb z=>absurd z (by simp));have eC:C'=C:=by
    rcases hx with ⟨_,_,z⟩ | ⟨_,_,dx,_,_,_,z,_⟩
    ·rw[hH]at z;have z1:G7 C a od=G7 C' a none:=by injection (Option.some.inj z)
     have:G7 C' a none U.heap:=z1 ▸ ⟨vs,sl,ho⟩;revert this;refine rR λ_ _ z2=>?_;rw[ho]at z2;cases z2;rfl
    ·rw[hH]at z;have z1:G7 C a od=G7 C' a (some dx):=by injection (Option.some.inj z)
     have:G7 C' a (some dx) U.heap:=z1 ▸ ⟨vs,sl,ho⟩;revert this;refine rR λ_ _ z2=>?_;rw[ho]at z2;cases z2;rfl
   subst eC;have eW:W'=W:=by have:=ec.top;rw[au]at this;cases this;rfl
   subst eW;have LT:PySem.W.Looks (BV X.prog X.w) h' (aK (.ref a)) (.ref C'):=(PySem.W.Looks.ld k3).andThen .now;refine wpAny_handleBy_cons (codeAny_handlers_test (Ru (X:=X.mrk (.ref a)) (I3.mrk _) hg hm ?_ ay)) (by intro z;cases z);refine(PySem.W.exm_one I3.SM LT (ec.web aq)).here (s:={U with heap:=h'}) ?_;refine codeAny_handlers_suite_as ?_;refine yf6 (s:={U with heap:=h'}) k3 k4 λaz m1 m2=>?_;have⟨aj,ae⟩:=Z.land hH af m1 m2;have I4:Inv X A σ Q {U with heap:=az}:=Y.call' (ch:=[]) Z.os aj ae Z.bare (λb z=>absurd z (by simp));refine Xu (X:=X.mrk (.ref a)) (v:=.ref a) (I4.mrk _) nd hN (.inl hk) rfl (λs5 I5=>?_) (.inr hk);have E4:Bb X.K c hs (G.set i (some d)) (σ.set i (some (.ref a))) Q:=by refine Bb.set (E.mono (ao.trans ak)) ag ?_;rw[ed];exact⟨a,ah,rfl,.inr ⟨C',W',ec,hx⟩,rr⟩
   let D':Ends:={nx:=λr x=>D.nx (r.set i none) x,rt:=D.rt,bk:=λ_ _=>False,ct:=λ_ _=>False};refine GD (ar (.ref a) A s5 (σ.set i (some (.ref a))) Q D' I5 ⟨hs,G.set i (some d),E4,?_⟩) (λf s6 hq=>?_) (λ_ _ z=>z.elim)
   ·cases e2:l (G.set i (some d)) with
    |bad=>rw[e2]at B;exact B.elim
    |exc z=>rw[e2]at B;exact B.elim
    |ok fl =>
     rw[e2]at B;cases fl with
     |nx aa=>exact λr x E'=>B (r.set i none) x (E'.unset ag)
     |rt d2=>exact B
     |bk aa=>exact B.elim
     |ct aa=>exact B.elim
   ·cases f with
    |next=>revert hq;refine Bt λr x I6 q6=>?_;exact wX (I6.unmrk I.ok) nd hN hk λs7 I7=>⟨r.set i none,x,I7,q6⟩
    |ret u=>revert hq;refine dF λv r x I6 r6 q6=>?_;exact wX (I6.unmrk I.ok) nd hN hk λs7 I7=>⟨v,r.set i none,x,I7,r6,q6⟩
    |brk=>obtain⟨_,_,_,z⟩:=hq;exact z.elim
    |cont=>obtain⟨_,_,_,z⟩:=hq;exact z.elim
  ·rw[if_neg hc]at B;exact B.elim
end
end PD
namespace PySem
open Sem (wp)
open Builtin Builtin.ObjectAttr
section
variable {prog:B_}{w:CW}{A:EY}{E:A_->BJ->Prop}{s:BJ}{K:CJ}{x C:BK}{f:GJ}{od:Option GJ}{name:BZ}{tk:Tok}{c b:Bool}
def yn7{Q:A_->BJ->Prop}{r:Found}(Y:K.In s.heap)(I:PySem.W.InstAt s.heap x f C od)(i:PySem.W.findIn K (.ref C) "__getattribute__" = some (some (.builtin "BaseException.__getattribute__")))(k:PySem.W.findIn K (.ref C) "__getattr__" = some none)
  (m:PySem.W.mroIn K C (.type "BaseException")=some true)(l:PySem.W.findObj K C od name=some r)
  (h:match r with
   | .value v=>BP (BV prog w) A (handedOut v) Q E s
   | .bind g a=>KN (BV prog w) A.in1 (.call g ⟨[a,.ref x,.ref C],[]⟩) (λr j=>match r with | .ok (.ret v)=>BP (BV prog w) A (handedOut v) Q E j |_=>False) s
   | .missing=>False):
  BP (BV prog w) A (getAttrBy (.ref x) (.str name tk) c b) Q E s:=by
 have FB:=PySem.F.attrBase_ValueError;unfold getAttrBy;refine DK (BX (I.type.here (BX ((PySem.W.looks_findIn Y i).here ?_))));dsimp only;rw[show(cR (Value.ref C) && Value.builtin "BaseException.__getattribute__" == Value.builtin "object.__getattribute__")=false from by rw[show(Value.builtin "BaseException.__getattribute__" == Value.builtin "object.__getattribute__")=false from by decide +kernel,lE],if_neg (by decide)];unfold getAttrByItsOwn hookBefore;rw[if_pos (show cR (Value.ref C)=true from rfl)];refine BX ((PySem.W.looks_findIn Y k).here (BX (GR (DK ?_))));unfold callGetattribute;rw[show(b && cR (Value.builtin "BaseException.__getattribute__"))=false from lE _,if_neg (by decide)];unfold boundAndCalled;rw[FB.ga.bind];refine BX (DN ?_);show BP _ _ (call (.builtin "BaseException.__getattribute__") [.ref x,.str name tk]) _ _ _;refine QH (ZQ FB.ga.plain PySem.F.entry_bexc_ga ?_);refine @PySem.W.check_slot (BV prog w) _ _ s "BaseException.__getattribute__" "BaseException" "__getattribute__" (.ref x) [.str name tk] [] _ (by decide +kernel) (by decide +kernel) (I.type.andThen (PySem.W.looks_mroIn Y m)) (PySem.F.args_bexc_ga (.ref x) (.str name tk)) ?_;obtain⟨q,g,d,t,p⟩:=s;have o:=I.type (M:=BV prog w);have n:=PySem.W.looks_find (M:=BV prog w) Y I l;unfold GZ.«object.__getattribute__»;refine BX (DN (BX (DN (BX (o.at (BX (n.at ?_)))))));cases r with
 |value v=>exact DN h
 |missing=>exact h.elim
 |bind g a=>refine BX (DK (QH (HD h λr j z=>?_)));rcases r with e | (v |_ |_ |_)<;>first |exact z.elim |exact DN z
end
end PySem
namespace PD
open PySem PySem.Spec PyProof.Rows L2
variable {ks:List D}{a C:BK}
def Ur.inst{X:Cx}{b:List (BK×GJ)}{j:St}{H:Hp}{s:BJ}{nm:BZ}{W:BK}{i:List V}(I:Inv X b j H s)
  (h:(ks=[]/\i=[]/\H a=some (.ext (G7 C a none)))\/∃f v c,ks=[.str f]/\i=[v]/\PySem.W.findIn X.K (.ref C) f=some none/\H a=some (.ext (G7 C a (some c)))/\H c=some (.xd [(f,v)])):
  ∃m n,PySem.W.InstAt s.heap a m C n:=by
 rcases h with ⟨_,_,h⟩ | ⟨f,v,c,_,_,_,h,p⟩
 ·have⟨⟨k,l,e⟩,_⟩:=I.hok a _ h;exact⟨_,none,e,rfl,rfl,True.intro⟩
 ·have⟨⟨k,l,e⟩,_⟩:=I.hok a _ h;refine Ao (λr g _=>?_) (I.hok c _ p);revert g;refine aU λo u w q _=>?_;exact⟨_,some o,e,rfl,rfl,q⟩
variable {K:CJ}
def jV{c:ClassData}{m:List A_}{b:A_}(g:W.clsIn K C=some c)(f:c.mro=m)(e:m.isEmpty=false):W.mroIn K C b=some (m.contains b):=by unfold W.mroIn;rw[g,gU,f,if_neg (by rw[e];exact XC)]
variable {W:BK}
def EC.base{K:CJ}{c:BZ}(f:EC K c C W):PySem.W.mroIn K C (.type "BaseException")=some true:=by refine aV (λg e _ _ b=>?_) (f.cls);rw[jV e b rfl];rfl
def EC.obj{K:CJ}{c:BZ}(f:EC K c C W):PySem.W.mroIn K C (.type "object")=some true:=by refine aV (λg e _ _ b=>?_) (f.cls);rw[jV e b rfl];rfl
def gsG:PySem.W.specialIn K (.builtin "object.__class__") "__get__" = some (some (.builtin "getset_descriptor.__get__")):=by kernel_rfl
def gsT:PySem.W.takesIn K (.builtin "object.__class__")=some true:=by kernel_rfl
theorem z_{K:CJ}{c:BZ}(ec:EC K c C W):PySem.W.KitX K (.ref a) (.ref C) (λh=>∃ox od,PySem.W.InstAt h a ox C od) where
 ty:=λ_ _ _ ⟨_,_,I⟩=>I.type
 it:=λ_ _ Y _=>by
  refine Ao (λcd h1 _=>?_) (ec.cls);unfold PySem.W.clsIn at h1;split at h1
  ·rename_i ho;intro A' Q' E' s' k q;unfold isType loadHead;exact BX (wpAny_loadPart (k _ _ (Y _ _ ho)) (DN q))
  ·cases h1
 ne:=λh tp dd its n sl Y htp=>by
  refine Ao (λcd h1 _=>?_) (ec.cls);refine Bool.eq_false_iff.mpr λq=>?_;have e:C=tp:=Value.ref.inj (beq_iff_eq.mp q);subst e;unfold PySem.W.clsIn at h1;split at h1
  ·rename_i ho;have z:=(Y _ _ ho).symm.trans htp;cases z
  ·cases h1
 ca:=λ{prog w A E Q s} Y ⟨ox,od,I⟩ k=>by
  have hf:PySem.W.findObj K C od "__class__" = some (.bind (.builtin "getset_descriptor.__get__") (.builtin "object.__class__")):=by refine Ao (λcd h1 _=>?_) (ec.cls);unfold PySem.W.findObj;rw[h1,gU,ec.cla,gU];simp[gsG,gsT]
  unfold getAttr?;refine BX (wpAny_mkText ?_);unfold getAttrBy?;refine BX (GR (yn7 (s:={s with toks:=s.toks+1}) (r:=.bind (.builtin "getset_descriptor.__get__") (.builtin "object.__class__")) Y I ec.gets ec.geta ec.base hf ?_));exact PySem.W.class_get (s:={s with toks:=s.toks+1}) Y I ec.obj (PySem.W.handed_on rfl (DN k))
def isG(b:BZ->Bool):D->Option D
 | .exc c _ _=>if c = "dict"\/c = "dictK" then none else some (.bl (b c))
 |_=>none
abbrev isE(nm:BZ):D->Option D:=isG λc=>decide (c=nm)
abbrev isV:D->Option D:=isG λ_=>true
def uT{K:CJ}{c c':BZ}{b u:BK}(h:EC K c C W)(e:EC K c' b u)(n:PySem.W.typeIn K (.ref b)=some (.type "type")):PySem.W.kitOne K (.ref C) (.ref b)=some (decide (c=c')):=by
 refine aV (λA k q x p=>?_) (h.cls);refine aV (λs f r y l=>?_) (e.cls);refine Er (λv i w m=>?_) (h.wcl);unfold PySem.W.kitOne;by_cases g:c=c'
 ·subst g;have:C=b:=by have:=h.at_;rw[e.at_]at this;cases this;rfl
  subst this;rw[if_pos (by simp)];simp
 ·have j:C≠b:=λz=>by subst z;rw[k]at f;cases f;exact g (q.symm.trans r)
  have o:W≠b:=λz=>by subst z;rw[f]at i;cases i;rw[m]at l;exact absurd (show(5:Nat)=6 from congrArg List.length l) (by decide)
  rw[if_neg (by simp[j])];show(if((PySem.W.clsIn K b).isSome && PySem.W.typeIn K (.ref b) == some (.type "type"))=true then PySem.W.subIn K (.ref C) (.ref b) else none)=_;rw[f,n,if_pos (by simp)];show PySem.W.mroIn K C _=_;rw[jV k p rfl];simp[g,Ne.symm j,Ne.symm o]
def wf2{K:CJ}{c:BZ}(f:EC K c C W):PySem.W.kitOne K (.ref C) (.type "ValueError")=some true:=by refine aV (λi e h g b=>?_) (f.cls);unfold PySem.W.kitOne;rw[if_neg (by simp)];show(if PySem.W.kitMeta "ValueError" = true then PySem.W.subIn K (.ref C) (.type "ValueError") else none)=_;rw[if_pos (by kernel_rfl)];show PySem.W.mroIn K C _=_;rw[jV e b rfl];rfl
variable {X:Cx}{c:DC}{f:Ev->R D}{e:CP}{l:Lv}{p J pos:JN}{x:BZ}
section
variable {b g:BK}
def rE{b:BZ->Bool}{cv:V}{u':A_}(hm:X.mg "isinstance" = none)(hx:PE X (.Name x J) (tC cv))(ru:RelV cv u')(hu:∀u,RelV cv u->u=u')(n:∀nm C W,EC X.K nm C W->PySem.W.kitOne X.K (.ref C) u'=some (b nm))(ha:PEd X c l e f)(hg:Gl X "isinstance")
  (M:BR [e,.Name x J] X.env=(false,DY e X.env)::BR [.Name x J] X.env)(F:BR [.Name x J] X.env=(false,DY (.Name x J) X.env)::BR [] X.env)(B:Zp X.env pos [.Name x J]):
  PEd X c .fr (.Call (.Name "isinstance" p) [e,.Name x J] [] pos) (b1 f (isG b)):=
 PE.imp (Kw (r:=λG H Q=>∃S nm ks k v,G=[v,cv]/\Rep X.K H S (.exc nm ks k) v/\nm ≠ "dict"/\nm ≠ "dictK"/\Q (.bl (b nm)) H) (λL s T H G us Q I r h=>by
   revert h;refine ym1 λS nm ks k v A y n1 n2 q=>?_;obtain rfl:=A;revert y;refine Br λa vs w U _=>?_;obtain rfl:=w;refine Br (λu1 u2 o m Z=>?_) (r.two);obtain rfl:=o;cases hu u2 Z;cases(show u1=Value.ref a from m);refine Bt (λC W O hh=>?_) (U.errC n1 n2);exact PySem.W.kia_one (z_ O) I.SM (Ur.inst (W:=W) (nm:=nm) I hh) (n nm C W O) (λz=>nomatch z) λtk=>⟨.bl (b nm),H,I.tok _,rfl,q⟩) hg hm PyProof.Rows.boot_isinstance (Dt ha (Dt hx Hs F) M) (by decide) (by decide) M B) λT H Q q=>by
 revert q;refine Bt λhs ρ E q=>?_;refine Bk (l:=l) E ((RQ.bind.mp q).mono (λd q1 v H1 Y E1 m=>?_) λ_ z=>z);refine Ao (λd' P q2=>?_) (q1.of);cases d with
 |exc nm ks k =>
  have i:(if nm = "dict"\/nm = "dictK" then none else some (D.bl (b nm)))=some d':=P;by_cases j:nm = "dict"\/nm = "dictK"
  ·rw[if_pos j]at i;cases i
  ·rw[if_neg j]at i;cases i;rw[not_or]at j;exact⟨_,nm,ks,k,v,rfl,m,j.1,j.2,q2 _ H1 Y rfl⟩
 |_=>cases P
def yo2(r:X.mg "isinstance" = none)(o:X.mg x=some (.ref b))(n:EC X.K x b g)(q:PySem.W.typeIn X.K (.ref b)=some (.type "type"))(w:PEd X c l e f)(s:Gl X "isinstance")(j:Gl X x)(m:Zd x)
  (v:BR [e,.Name x J] X.env=(false,DY e X.env)::BR [.Name x J] X.env)(k:BR [.Name x J] X.env=(false,DY (.Name x J) X.env)::BR [] X.env)(i:Zp X.env pos [.Name x J]):
  PEd X c .fr (.Call (.Name "isinstance" p) [e,.Name x J] [] pos) (b1 f (isE x)):=
 rE (cv:=.ref b) (u':=.ref b) r (wI j o rfl m) rfl (λu h=>h) (λz C W y=>uT y n q) w s v k i
def yo3(o:X.mg "isinstance" = none)(j:X.mg "ValueError" = none)(s:PEd X c l e f)(q:Gl X "isinstance":=by rfl)(k:Gl X "ValueError":=by rfl)
  (r:BR [e,.Name "ValueError" J] X.env=(false,DY e X.env)::BR [.Name "ValueError" J] X.env:=by rfl)(m:BR [.Name "ValueError" J] X.env=(false,DY (.Name "ValueError" J) X.env)::BR [] X.env:=by rfl)(i:Zp X.env pos [.Name "ValueError" J]:=by rfl)(n:GC "ValueError" = some (.type "ValueError"):=by kernel_rfl):
  PEd X c .fr (.Call (.Name "isinstance" p) [e,.Name "ValueError" J] [] pos) (b1 f isV):=
 rE (cv:=.ty "ValueError") (u':=.type "ValueError") o (wK k j n rfl (by decide) (by decide)) rfl (λu h=>h) (λw C W v=>wf2 v) s q r m i
end
def iY(P:B_)(w:CW)(K:CJ)(b:BZ->Option A_)(base:CK)(k:Nat)(x:BZ)(ps:List BZ)(n:Nat)(m:List D->R D):Prop:=
 ∃f g,Hl P w K b base (CXE P w) k f g ps (sp1 K n m)/\b x=some (.ref f)/\PySem.W.keepIn K (.ref f)=true/\Binds K g ps []
def KCI(K:CJ)(c:BZ):Prop:=∃C W,EC K c C W/\PySem.W.typeIn K (.ref C)=some (.type "type")
def KC0(K:CJ)(c:BZ):Prop:=∃C W,ER0 K c C W
def KCW(K:CJ):Prop:=∃W,PySem.W.nsIn K PySem.mainGlobals "WebError" = some (some (.ref W))/\PySem.W.typeIn K (.ref W)=some (.type "type")
def Gf{K:CJ}{c:BZ}(a:PySem.W.nsIn K PySem.mainGlobals c=some (some (.ref C)))(b:PySem.W.nsIn K PySem.mainGlobals "WebError" = some (some (.ref W)))(t:PySem.W.typeIn K (.ref C)=some (.type "type"))(q:fL K c C W=true):KCI K c:=⟨C,W,tG a b q,t⟩
def wt0{K:CJ}{c:BZ}(a:PySem.W.nsIn K PySem.mainGlobals c=some (some (.ref C)))(b:PySem.W.nsIn K PySem.mainGlobals "WebError" = some (some (.ref W)))(q:fL K c C W=true)(h:j6 K C=true)(g:nY K C=true):KC0 K c:=⟨C,W,wr7 a b q h g⟩
def wt1{K:CJ}(b:PySem.W.nsIn K PySem.mainGlobals "WebError" = some (some (.ref W)))(t:PySem.W.typeIn K (.ref W)=some (.type "type")):KCW K:=⟨W,b,t⟩
def RC0(K:CJ)(b:BZ->Option A_)(c:BZ):Prop:=∃C W,b c=some (.ref C)/\ER0 K c C W
def RCI(K:CJ)(b:BZ->Option A_)(c:BZ):Prop:=∃C W,b c=some (.ref C)/\EC K c C W/\PySem.W.typeIn K (.ref C)=some (.type "type")
def RCW(K:CJ)(b:BZ->Option A_):Prop:=∃W,b "WebError" = some (.ref W)/\PySem.W.nsIn K PySem.mainGlobals "WebError" = some (some (.ref W))/\PySem.W.typeIn K (.ref W)=some (.type "type")
variable {H:BZ}
section
variable {K:CJ}{h:CK}{mg:BZ->Option A_}{c qual:BZ}{st:DR}
def wx4(Y:K.In h)(G:h.Ns PySem.mainGlobals mg)(q:KC0 K c):RC0 K mg c:=let ⟨C,W,e⟩:=q; ⟨C,W,PySem.W.mg_of Y G e.ec.at_,e⟩
def Gn(Y:K.In h)(G:h.Ns PySem.mainGlobals mg)(q:KCI K c):RCI K mg c:=let ⟨C,W,e,t⟩:=q; ⟨C,W,PySem.W.mg_of Y G e.at_,e,t⟩
def wx5(Y:K.In h)(G:h.Ns PySem.mainGlobals mg)(q:KCW K):RCW K mg:=let ⟨W,e,t⟩:=q; ⟨W,PySem.W.mg_of Y G e,e,t⟩
def oE{k n:Nat}{ps:List BZ}{m:List D->R D}(P:B_)(w:CW)(base:CK)(X:K.In h)(G:h.Ns PySem.mainGlobals mg)(I:FI K x st)(i:∀a b,Fun K x x st a b->Hl P w K mg base (CXE P w) k a b ps (sp1 K n m))
  (s:∀(kV j q:A_)(an:Option BK)(o ct:A_)(g:List A_),g.length=ps.length->VM (PySem.W.fnOf x x (G6 st) (El st) (Bf st) .none kV j q an o ct) ⟨g,[]⟩=pure (ps.zip g)):iY P w K mg base k x ps n m:=by
 revert I;refine Br λf b a F r=>?_;exact⟨f,b,i f b F,PySem.W.mg_of X G a,r,F.binds s⟩
end
variable {g:Ev->R Unit}{m:List D->R D}{n:Nat}
section
variable {h:CP}{es:List CP}{fs:Ev->R (List D)}{b o cpos:JN}{j:BZ}{k:Nat}{ps:List BZ}
def u9(F:iY X.prog X.w X.K X.mg X.base k x ps n m)(u:gC X c)(s:Hx k X.A)(I:PAd X c l (e::es) fs)(v:(e::es).length=n:=by rfl)(i:ps.length=n:=by rfl)(B:Gl X x:=by rfl)
  (r:Zd x:=by decide)(E:Zs X.env e es:=by rfl)(q:Zp X.env pos es:=by rfl):
  PEd X c l (.Call (.Name x p) (e::es) [] pos) (clX fs m):=by
 revert F;refine Yb λf L F y z G=>?_;exact wq1 F u s y z G I v i B r E q
def yR(F:iY X.prog X.w X.K X.mg X.base k x ps n m)(u:Hx k X.A)(I:PAd X.nox c .any (e::es) fs)(v:(e::es).length=n:=by rfl)(q:ps.length=n:=by rfl)(B:Gl X x:=by rfl)
  (i:FW (.Call (.Name x p) (e::es) [] pos) none b.line X.env=pure false:=by rfl)
  (s:Zd x:=by decide)(E:Zs X.env e es:=by rfl)(r:Zp X.env pos es:=by rfl):
  TB X c (.Expr (.Call (.Name x p) (e::es) [] pos) b) (tbG fs m):=by
 revert F;refine Yb λf L F y z G=>?_;exact wm1 F u y z G I v q B i s E r
def rs0(r:gC X c)(w:X.calm=true)(h:RC0 X.K X.mg x)(q:PXw X c n e g)(u:Gl X x:=by rfl)(i:Zd x:=by decide)
  (v:BR [e] X.env=[(false,DY e X.env)]:=by rfl):PSd X c (.Raise (some (.Call (.Name x o) [e] [] cpos)) none pos) (iI x g):=by
 revert h;refine Bt λC W s y=>?_;exact kx4 r w s y q u i v
def yo1(w:X.mg "isinstance" = none)(h:RCI X.K X.mg x)(A:PEd X c l e f)(y:Gl X "isinstance":=by rfl)(q:Gl X x:=by rfl)(s:Zd x:=by decide)
  (z:BR [e,.Name x J] X.env=(false,DY e X.env)::BR [.Name x J] X.env:=by rfl)(r:BR [.Name x J] X.env=(false,DY (.Name x J) X.env)::BR [] X.env:=by rfl)(i:Zp X.env pos [.Name x J]:=by rfl):
  PEd X c .fr (.Call (.Name "isinstance" p) [e,.Name x J] [] pos) (b1 f (isE x)):=by
 revert h;refine Br λC W u B v=>?_;exact yo2 w u B v A y q s z r i
def yr5(i:Nat){st r:DR}{q:List DR}{g:Ev->R Ev}{z:Ev->R Fl}{s:JN}(G:TB X c st g)(w:∀L:A_,Us (X.mrk L) c (r::q) z)(h:RCW X.K X.mg)(v:X.stack=X.env::X.outer/\X.env.frame=some X.env.locals)(A:X.N.Nodup)
  (hi:c.O.contains i=false:=by rfl)(I:X.N[i]? = some j:=by rfl)(E:X.env.scope.names.lookup j=some .local:=by rfl)(F:Gl X "WebError":=by rfl):
  PSd X c (.Try [st] [.ExceptHandler (some (.Name "WebError" o)) (some j) (r::q) s] [] [] pos) (iG g i z):=by
 revert h;refine Er λW B y u=>?_;exact try_ i G w B rfl u y v A hi I E F
end
variable {nm:BZ}{z:Ev->R Ev}
section
variable {fs:Ev->R (List D)}{ρ:Ev}{q o:Ev->R D}{k h:Ev->R Unit}{ds:List D}{e d:D}{b j:Ev->R Fl}{i:Nat}
@[simp] def yr8:clX fs m ρ=(fs ρ).bind m:=nr rfl
@[simp] def ys6:mW ρ=.ok ():=nr rfl
@[simp] def ys7:tX f ρ=(f ρ).bind smI:=nr rfl
@[simp] def ys8:tV k h ρ=(k ρ).bind λ_=>h ρ:=nr rfl
def ye3{i:Int}(h:i.natAbs<2 ^ 200):smI (.int i)=.ok ():=if_pos h
def wr6(r:g ρ=.ok ()):iI nm g ρ=.exc (.exc nm [] []):=by unfold iI;rw[r,R.ok_bind]
def pD{r:Ev->R Fl}(h:r (Af n ds)=.exc e):Cq n r ds=.exc e:=by unfold Cq;rw[h];rfl
def uB(h:b ρ=.exc e):sq b j ρ=.exc e:=by unfold sq;rw[h];rfl
def xK(h:f ρ=.exc e):drp f ρ=.exc e:=by unfold drp;rw[h];rfl
def vN(h:fs ρ=.ok ds)(r:m ds=.exc e):tbG fs m ρ=.exc e:=by unfold tbG;rw[h,R.nox_ok,R.ok_bind,r];rfl
def yk0{t:Ev->R Bool}{gb:Ev->R Ev}(h:t ρ=.ok true):tbI t z gb ρ=z ρ:=by unfold tbI;rw[h,R.nox_ok,R.ok_bind];rfl
def yj9{t:Ev->R Bool}{gb:Ev->R Ev}(h:t ρ=.ok false):tbI t z gb ρ=gb ρ:=by unfold tbI;rw[h,R.nox_ok,R.ok_bind];rfl
def yd3{c:BZ}{fs:List D}{b:Bool}(s:¬ (c = "dict"\/c = "dictK"))(r:decide (c=nm)=b):isE nm (.exc c ks fs)=some (.bl b):=by show(if c = "dict"\/c = "dictK" then none else some (D.bl (decide (c=nm))))=_;rw[if_neg s,r]
def yd5{c:BZ}{fs:List D}(r:¬ (c = "dict"\/c = "dictK")):isV (.exc c ks fs)=some (.bl true):=if_neg r
end
open PySem PySem.Spec PyProof.Rows L2
open PySem PySem.Spec PyProof.Rows L2 PySem.W
def tVs(b:List V):TA:=λ_ H Q=>Q b H
structure NmL(X:Cx)(es:List CP)(xs:List BZ)(vs:List V)(us:List A_):Prop where
 pa:PA X es (tVs vs)
 few:vs.length=xs.length
 only:∀ws,Vals vs ws->ws=us
 kit:∀nm C W,EC X.K nm C W->PySem.W.kitAny X.K (.ref C) us=some (xs.any λx=>decide (nm=x))
abbrev isN(xs:List BZ):D->Option D:=isG λc=>xs.any λx=>decide (c=x)
variable {X:Cx}{c:DC}{e:CP}{l:Lv}
section
variable {f:Ev->R D}{pos p b h:JN}{x:BZ}{es:List CP}{xs:List BZ}{i:Nat}
def nmn:∃j k,NmL X [] [] j k:=⟨[],[],Hs,rfl,λo h=>by cases h;rfl,λnm C W _=>rfl⟩
def nmc(h:RCI X.K X.mg x)(F:∃j k,NmL X es xs j k)(q:Gl X x:=by rfl)(s:Zd x:=by decide)(G:BR (.Name x b::es) X.env=(false,DY (.Name x b) X.env)::BR es X.env:=by rfl):
  ∃j k,NmL X (.Name x b::es) (x::xs) j k:=by
 obtain⟨o,M,B,u,E⟩:=h;obtain⟨j,k,N⟩:=F;refine⟨.ref o::j,.ref o::k,Dt (wI (v:=.ref o) q B rfl s) N.pa G,by simp[N.few],λI h=>?_,λnm C W w=>?_⟩
 ·cases h with
  |cons r t=>cases(show _=Value.ref o from r);rw[N.only _ t]
 ·have A:=uT w u E;have y:=N.kit nm C W w;unfold PySem.W.kitAny;rw[A,cF];cases L:decide (nm=x) with
  |true=>simp
  |false=>simp only[pX];exact y
theorem rB(hm:X.mg "isinstance" = none)(hN:∃u L,NmL X es xs u L)(hl:xs.length<=1000)(ha:PEd X c l e f)(hg:Gl X "isinstance":=by rfl)
  (Y:BR [e,.Tuple es i b] X.env=(false,DY e X.env)::BR [.Tuple es i b] X.env:=by rfl)(F:BR [.Tuple es i b] X.env=(false,DY (.Tuple es i b) X.env)::BR [] X.env:=by rfl)(B:Zp X.env pos [.Tuple es i b]:=by rfl):
  PEd X c .fr (.Call (.Name "isinstance" p) [e,.Tuple es i b] [] pos) (b1 f (isN xs)):=by
 obtain⟨u,L,N⟩:=hN;refine PE.imp (Kw (r:=λG H Q=>∃S nm ks w v t,G=[v,.ref t]/\H t=some (.tup u)/\Rep X.K H S (.exc nm ks w) v/\nm ≠ "dict"/\nm ≠ "dictK"/\Q (.bl (xs.any λx=>decide (nm=x))) H) (λO s σ H G ws Q I r h=>by
   obtain⟨S,nm,ks,w,v,t,rfl,hT,rp,n1,n2,q⟩:=h;obtain⟨a,aa,rfl,xa,_⟩:=rp;obtain⟨u1,u2,rfl,A,r2⟩:=r.two;cases(show u1=Value.ref a from A);cases(show u2=Value.ref t from r2);have⟨C,W,Z,hh⟩:=xa.errC n1 n2;have⟨U,y,⟨o,o1,T,af,P⟩,_⟩:=I.tuple (SqT.of hT);obtain⟨oc,od,ae,ab⟩:=o;simp only at T P;subst T P;have hits:=N.only _ y;subst hits;exact PySem.W.kia_tup (z_ Z) I.SM (Ur.inst (W:=W) (nm:=nm) I hh) o1 (N.kit nm C W Z) (λz=>nomatch z) λtk=>⟨.bl (xs.any λx=>decide (nm=x)),H,I.tok _,rfl,q⟩) hg hm PyProof.Rows.boot_isinstance (Dt ha (Dt (jR N.pa) Hs F) Y) (by decide) (by decide) Y B) λσ H Q q=>?_
 revert q;refine Bt λhs ρ E q=>?_;refine Bk (l:=l) E ((RQ.bind.mp q).mono (λd q1 v H1 s1 E1 A=>?_) λ_ z=>z);refine Ao (λd' e' q2=>?_) (q1.of);cases d with
 |exc nm ks w =>
  have j:(if nm = "dict"\/nm = "dictK" then none else some (D.bl (xs.any λx=>decide (nm=x))))=some d':=e';by_cases k:nm = "dict"\/nm = "dictK"
  ·rw[if_pos k]at j;cases j
  ·rw[if_neg k]at j;cases j;rw[not_or]at k;refine⟨by rw[CV,N.few];lia,λt ht=>?_⟩;have M:Ag H1 (upd H1 t (.tup u)):=Ar ht _;exact⟨_,nm,ks,w,v,t,rfl,An,A.mono M λ_ z=>z,k.1,k.2,q2 _ _ (s1.trans M) rfl⟩
 |_=>cases e'
end
def uL{K:CJ}{H:Hp}{S:AS}:∀{ds:List D}{xs:List V}{ns:List Int},Ak K H S ds xs->Bl ds=some ns->xs=ns.map V.int
 | [],xs,ns,b,h=>by cases h;cases(show xs=[] from b);rfl
 |d::ds,xs,ns,b,h=>by
  obtain⟨v,r,rfl,j,i⟩:=b;cases d with
  |int a=>have q:(Bl ds).map (a::·)=some ns:=h;have⟨s,o,k⟩:=Option.map_eq_some_iff.mp q;subst k;cases(show v=.int a from j);rw[uL i o];rfl
  |_=>cases h
def yo0(k:Int):A_->Bool
 | .int a _=>a == k
 |_=>false
def wk4:V->List V->Hp->VK->Prop:=λx b H Q=>∃(l:BK)(ns:List Int)(k:Int),x=.ref l/\b=[.int k]/\H l=some (.lst (ns.map V.int))/\k∈ns/\ns.length<sizeLine/\Q .non (upd H l (.lst ((ns.erase k).map V.int)))
def vL:∀{ns:List Int}{its:List A_},Vals (ns.map V.int) its->∀(m:Nat)(b:m<its.length),∃t,its[m]=Value.int (ns.getD m 0) t
 | [],its,h,m,b=>by cases h;cases b
 |a::ns,its,h,m,b=>by
  cases h with
  |cons r t =>
   cases m with
   |zero=>exact r
   |succ m=>exact vL t m (by simpa using b)
def Xz:∀{ns:List Int}{its:List A_}(k:Int),Vals (ns.map V.int) its->Vals ((ns.erase k).map V.int) (its.eraseIdx (ns.idxOf k))
 | [],its,k,h=>by cases h;exact .nil
 |a::ns,its,k,h=>by
  cases h with
  |cons r t =>
   by_cases b:a=k
   ·subst b;rw[qN,List.idxOf_cons_self];exact t
   ·rw[qM (by simpa using b),show(a::ns).idxOf k=ns.idxOf k+1 by rw[List.idxOf_cons,show(a == k)=false by simpa using b];rfl];exact .cons r (Xz k t)
theorem ki4:MtM X "list.remove" wk4:=by
 intro E s Z H x vs v us Q I M O h;obtain⟨l,b,k,rfl,rfl,L,U,hz,q⟩:=h;cases M;obtain⟨u,rfl,P⟩:=O.one;obtain⟨t,rfl⟩:=(show ∃t,u=Value.int k t from P);have⟨z,i,n,r,hl,e⟩:=I.lstM L;have G:i.length=b.length:=by have:=r.length;simpa using this.symm
 have Y:b.idxOf k<b.length:=List.idxOf_lt_length_of_mem U;have at_:=vL r;refine QL F.slot_list_remove ⟨_,e,rfl⟩ F.entry_list_remove (F.args_list_remove_2 _ _) (MeetsSeq.list_remove l i.toArray n (.int k t) (yo0 k) (λy T=>?_) (b.idxOf k) (by rw[JZ];lia) ?_ (λm o A=>?_) (by rw[JZ];lia)) ⟨e,?_⟩
 ·have w:y∈i:=by simpa using T
  obtain⟨m,o,rfl⟩:=X_.mp w;have⟨B,j⟩:=at_ m o;rw[j];exact MeetsSeq.EqGives.int _ _ _ _
 ·have⟨B,j⟩:=at_ (b.idxOf k) (by lia);rw[jHf,j];show(b.getD (b.idxOf k) 0 == k)=true;rw[O_,GK Y,RC,List.getElem_idxOf];simp
 ·rw[JZ]at o;have⟨B,j⟩:=at_ m o;rw[jHf,j];show(b.getD m 0 == k)=false;rw[O_,GK (by lia),RC];have:=List.not_of_lt_findIdx (xs:=b) (p:=(· == k)) A;simpa using this
 ·refine⟨.non,_,I.lset (its':=i.eraseIdx (b.idxOf k)) (ys:=(b.erase k).map V.int) L e ?_ (Xz k r) ?_,rfl,q⟩
  ·simp
  ·rw[GP,List.length_erase];split<;>lia
def cY(i:Nat)(f:Ev->R D):Ev->R Fl:=λb=>match b[i]? with
 |some (some (.lst j))=>(f b).bind λd=>match d with
  | .int k=>(R.of (Bl j)).bind λh=>if k∈h/\h.length<16777216 then .ok (.nx (b.set i (some (.lst ((h.erase k).map .int))))) else .bad
  |_=>.bad
 |_=>.bad
def Zy{K:CJ}{H:Hp}{S:AS}:∀b:List Int,Ak K H S (b.map D.int) (b.map V.int)
 | []=>Ak.nil
 |a::b=>Ak.cons rfl (Zy b)
variable {f:Ev->R D}
theorem yp9(i:Nat){x:BZ}{p apos b pos:JN}(he:PEd X c .no e f)(hi:c.O.contains i=true:=by rfl)(hN:X.N[i]? = some x:=by rfl)(hv:Vis X.env.scope x:=by first |exact Or.inl rfl |exact Or.inr (Or.inl rfl) |exact Or.inr (Or.inr rfl))(A:Zd x:=by decide)
  (L:(x == ("__classdict__" : BZ))=false:=by decide)(o:JQ (.Name x p) "remove" X.env (DY (.Name x p) X.env)=DY (.Name x p) X.env:=by rfl)
  (y:((PB b (BR [e] X.env)).all (λx=>!x.1) && (VN b (OD [] X.env)).all (λx=>x.1.isSome)
   && decide ([e].length+([]:List KY).length+(if([]:List KY).isEmpty then 0 else 1)<30))=true:=by rfl)
  (j:(apos.endLine == b.line)=true:=by rfl)(I:BR [e] X.env=(false,DY e X.env)::BR [] X.env:=by rfl)(h:Zp X.env b []:=by rfl)
  (G:FW (.Call (.Attribute (.Name x p) "remove" apos) [e] [] b) none pos.line X.env=pure false:=by rfl):
  PSd X c (.Expr (.Call (.Attribute (.Name x p) "remove" apos) [e] [] b) pos) (cY i f):=
 PS.imp (U7 (m5 PySem.F.plainAttrs_list PySem.F.slot_list_remove PySem.F.type_list_remove ki4 (pv i hN hv A L) (Dt he Hs I) o y j I h) G) λD U H q=>by
 revert q;refine Bt λI Y E q=>?_;have w:i∈c.O:=by simpa using hi
 unfold cY at q;split at q
 ·rename_i ds A;refine fU (λa Z aa e0 T M e3 r=>?_) (E.ownL i _ w A);cases e0;refine⟨.ref a,T,.inl ⟨rfl,Z,SqL.of M⟩,?_⟩;refine Bk E ((RQ.bind.mp q).mono (λd Q v H1 P E1 r1=>?_) λx z=>Ef E z);cases d with
  |int k =>
   cases(show v=.int k from r1);have⟨u,en,s⟩:=(RQ.bind.mp Q).of;have ev:=uL r en;subst ev;have s:RQ (if k∈u/\u.length<16777216 then R.ok (Fl.nx (Y.set i (some (PD.D.lst ((u.erase k).map .int))))) else R.bad) _ _:=s;by_cases B:k∈u/\u.length<16777216
   ·rw[if_pos B]at s;refine⟨a,u,k,rfl,rfl,P _ _ M,B.1,by rw[CV];lia,?_⟩;exact s U _ (E1.write w A T (P _ _ M) (Zy _))
   ·rw[if_neg B]at s;exact s.elim
  |_=>exact Q.elim
 ·exact q.elim
def ye2{i:Nat}{ρ:Ev}{ns:List Int}{k:Int}(h:ρ[i]? = some (some (.lst (ns.map .int))))(r:f ρ=.ok (.int k))(j:k∈ns)(b:ns.length<16777216):cY i f ρ=.ok (.nx (ρ.set i (some (.lst ((ns.erase k).map .int))))):=by
 have q:Bl (ns.map D.int)=some ns:=by
  clear j b h;induction ns with
  |nil=>rfl
  |cons a ns o=>rw[HJ,Bl,o];rfl
 unfold cY;rw[h];simp[r,q,j,b]
open PySem PySem.Spec PyProof.Rows L2
open PySem PySem.Spec PyProof.Rows L2 PySem.W
def pB:Bool->JV->Array JV->Nat->Nat->Nat->StateT BW Sem (Option Nat):=sortPriv% PySem.Builtin.gallop
def ku6:Array JV->Array JV->StateT BW Sem (Array JV):=sortPriv% PySem.Builtin.mergeLo
def ku5:Array JV->Array JV->StateT BW Sem (Array JV):=sortPriv% PySem.Builtin.mergeHi
variable {A:EY}{it:Array JV}{O:KeyOrd}{prog:B_}{s:BJ}{κ:QZ}{E:A_->BJ->Prop}{w:CW}
variable {x b i k n j F lo hi hint:Nat}{left:Bool}
section
variable {key:Nat->O.α}
def Tr(prog:B_)(w:CW)(A:EY)(E:A_->BJ->Prop)(s:BJ){o:Type}(m:StateT BW Sem o)(st:BW)(R:o->BW->Prop):Prop:=
 ∀(tk:Nat)(Q:o->BW->BJ->Prop),(∀a h q,R a h->Q a h {s with toks:=q})->kasC (BV prog w) A E m Q st {s with toks:=tk}
def Aa{o:Type}{a:o}{st:BW}{R:o->BW->Prop}(h:R a st):Tr prog w A E s (pure a) st R:=λr Q q=>dN (q a st r h)
def Av{u y:Type}{m:StateT BW Sem u}{f:u->StateT BW Sem y}{st:BW}{R:u->BW->Prop}{B:y->BW->Prop}(h:Tr prog w A E s m st R)(I:∀a o,R a o->Tr prog w A E s (f a) o B):Tr prog w A E s (m >>= f) st B:=
 λG Q q=>JM (h G _ λa o v r=>I a o r v Q q)
def K4{v:Type}{m:StateT BW Sem v}{st:BW}{R y:v->BW->Prop}(h:Tr prog w A E s m st R)(G:∀a o,R a o->y a o):Tr prog w A E s m st y:=λB Q q=>h B Q λa o u r=>q a o u (G a o r)
def Jk{o:Type}{f:BW->StateT BW Sem o}{st:BW}{R:o->BW->Prop}(h:Tr prog w A E s (f st) st R):Tr prog w A E s (get >>= f) st R:=λr Q q=>JM (kasC_get (h r Q q))
def Ka{o:Type}{g:BW->BW}{f:PUnit->StateT BW Sem o}{st:BW}{R:o->BW->Prop}(h:Tr prog w A E s (f ⟨⟩) (g st) R):Tr prog w A E s (modify g >>= f) st R:=λr Q q=>JM (kasC_modify (h r Q q))
def K6{o:Type}{x:String}{f:PUnit->StateT BW Sem o}{st:BW}{R:o->BW->Prop}(h:Tr prog w A E s (f ⟨⟩) st R):Tr prog w A E s (liftM (rule x) >>= f) st R:=λr Q q=>JM (kasC_lift (wpAny_rule (h r Q q)))
theorem Ea{y:Type}{a:Nat}{f:Nat->y->StateT BW Sem (ForInStep y)}(I:Nat->y->BW->Prop){Q:y->BW->Prop}
  (u:∀i c st,a<=i->i<b->I i c st->Tr prog w A E s (f i c) st (λr o=>match r with | .done v=>Q v o | .yield v=>I (i+1) v o))
  (L:∀c st,I (max a b) c st->Q c st){c:y}{st:BW}(h:I a c st):Tr prog w A E s (forIn [a:b] c f) st Q:=by
 have Y:∀(n i:Nat)(c:y)(st:BW),a<=i->i+n=max a b->I i c st->Tr prog w A E s (forIn (List.range' i n) c f) st Q:=by
  intro n;induction n with
  |zero=>intro i c st _ hi h G M q;exact kasC_nil (q c st G (L c st (by rw[<-hi];exact h)))
  |succ n T =>
   intro i c st U hi h G M q;rw[jId];refine kasC_cons (u i c st U (by lia) h G _ λr o B P=>?_);cases r with
   |done v=>exact q v o B P
   |yield v=>exact T (i+1) v o (by lia) (by lia) P B M q
 intro G M q;exact kasC_range (Y (b - a) a c st (F_ _) (by lia) h G M q)
def Am(it:Array JV)(l:List Nat):Array JV:=(l.map (DQ it)).toArray
def km2(l:List Nat)(i:Nat):(Am it l)[i]? = (l[i]?).map (DQ it):=by unfold Am;simp
def Bq(l:List Nat):(Am it l).size=l.length:=by unfold Am;simp
def Bc{o:Type}{l:List Nat}{f:JV->StateT BW Sem o}{st:BW}{R:o->BW->Prop}(h:l[i]? = some k)(u:Tr prog w A E s (f (DQ it k)) st R):Tr prog w A E s (elem' (Am it l) i >>= f) st R:=by rw[elem'_eq,km2,h];exact λr Q q=>JM (dN (u r Q q))
def Ans(prog:B_)(w:CW)(A:EY)(s:BJ)(κ:QZ)(it:Array JV)(key:Nat->O.α)(n:Nat):Prop:=
 ∀(i j:Nat)(C:Bool->BJ->Prop)(tk:Nat),i<n->j<n->(∀h,C (ltO key i j) {s with toks:=h})->kas_cmp prog w A κ it i j C {s with toks:=tk}
def gA{o:Type}{f:Option Bool->StateT BW Sem o}{st:BW}{R:o->BW->Prop}(an:Ans prog w A s κ it key n)(hi:i<n)(y:j<n)(v:kindOf st=κ)(I:Tr prog w A E s (f (some (ltO key i j))) st R):
  Tr prog w A E s (lt' (DQ it i) (DQ it j) >>= f) st R:=λr Q q=>by
 rw[lt'_eq];refine JM (JM (kasC_get ?_));refine JM (kasC_lift (GR (GD (show BP (BV prog w) A (keyLt' (kindOf st) (DQ it i).1 (DQ it j).1) (λc u=>kasC (BV prog w) A E (f (some c)) Q st u) (λ_ _=>False) {s with toks:=r} from ?_) (λc u B=>?_) λ_ _ G=>G.elim)))
 ·rw[v];exact an i j _ r hi y λh=>I h Q q
 ·exact dN B
def bz(key:Nat->O.α)(left:Bool)(k x:Nat):Bool:=if left=true then ltO key x k else !ltO key k x
def wp6{l:List Nat}{st:BW}{b:Bool}(an:Ans prog w A s κ it key F)(v:k<F)(q:kindOf st=κ)(B:l[i]? = some x)(u:x<F)(G:b=bz key left k x):
  Tr prog w A E s (elem' (Am it l) i >>= λy=>if left=true then lt' y (DQ it k) else(lt' (DQ it k) y >>= λr=>pure (r.map λz=>!z))) st (λr o=>o=st/\r=some b):=by
 refine Bc B ?_;subst G;unfold bz;cases left with
 |true=>rw[if_pos rfl,if_pos rfl];have h:=gA (prog:=prog) (E:=E) (f:=λr=>pure r) (R:=λr o=>o=st/\r=some (ltO key x k)) an u v q (Aa ⟨rfl,rfl⟩);rwa [bind_pure]at h
 |false=>rw[if_neg (by decide),if_neg (by decide)];exact gA an v u q (Aa ⟨rfl,rfl⟩)
abbrev GS:=Option (Option Nat)×Nat×Nat
def Cut(b:Nat->Bool)(n lo hi:Nat):Prop:=(∀i,i<lo->b i=true)/\∀i,hi<=i->i<n->b i=false
theorem jh3{b:Nat->Bool}{st:BW}{f:Nat->GS->StateT BW Sem (ForInStep GS)}
  (mono:∀i j,i<=j->j<n->b j=true->b i=true)
  (U:∀x lo hi,lo≥hi->Tr prog w A E s (f x (none,lo,hi)) st (λr o=>o=st/\r=.done (none,lo,hi)))
  (T:∀x lo hi,lo<hi->hi<=n->Tr prog w A E s (f x (none,lo,hi)) st (λr o=>o=st/\r=.yield (if b (lo+(hi - lo) / 2)=true then(none,lo+(hi - lo) / 2+1,hi) else(none,lo,lo+(hi - lo) / 2))))(h1:lo<=hi)(h2:hi<=n)(Z:Cut b n lo hi):
  Tr prog w A E s (forIn [0:n] ((none,lo,hi):GS) f) st (λr o=>o=st/\∃m u,r=(none,u,m)/\m<=n/\Cut b n m m):=by
 refine Ea (I:=λx c o=>o=st/\∃lo hi,c=(none,lo,hi)/\lo<=hi/\hi<=n/\hi - lo<=n - x/\Cut b n lo hi) (λx c o _ hx M=>?_) (λc o M=>?_) ⟨rfl,lo,hi,rfl,h1,h2,by lia,Z⟩
 ·obtain⟨rfl,lo,hi,rfl,g1,v,P,q⟩:=M;by_cases h:lo≥hi
  ·refine K4 (U x lo hi h) λr o B=>?_;obtain⟨rfl,rfl⟩:=B;exact⟨rfl,hi,lo,rfl,v,by rw[show lo=hi by lia]at q;exact q⟩
  ·refine K4 (T x lo hi (by lia) v) λr o B=>?_;obtain⟨rfl,rfl⟩:=B;refine⟨rfl,?_⟩;by_cases y:b (lo+(hi - lo) / 2)=true
   ·rw[if_pos y];exact⟨_,_,rfl,by lia,v,by lia,λi Q=>mono i _ (by lia) (by lia) y,q.2⟩
   ·rw[if_neg y];refine⟨_,_,rfl,by lia,by lia,by lia,q.1,λi L G=>?_⟩;cases Y:b i with
    |false=>rfl
    |true=>exact absurd (mono _ i L G Y) y
 ·obtain⟨rfl,lo,hi,rfl,g1,v,P,q⟩:=M;rw[show max 0 n=n by lia]at P;exact⟨rfl,hi,lo,rfl,v,by rw[show lo=hi by lia]at q;exact q⟩
theorem Zj{l:List Nat}{base:Nat}{st:BW}{b:Nat->Bool}(an:Ans prog w A s κ it key F)(hl:∀x∈l,x<F)(hk:k<F)(ae:kindOf st=κ)(hb:base+n<=l.length)(hh:hint<n)
  (ah:∀i x,i<n->l[base+i]? = some x->b i=bz key left k x)(mono:∀i j,i<=j->j<n->b j=true->b i=true):
  Tr prog w A E s (pB left (DQ it k) (Am it l) base n hint) st (λr y=>y=st/\∃m,r=some m/\m<=n/\Cut b n m m):=by
 have hx:∀i,i<n->∃x,l[base+i]? = some x/\x<F:=λi hi=>by
  have aa:base+i<l.length:=by lia
  exact⟨_,GK aa,hl _ (RB aa)⟩
 have T:=λi (hi:i<n)=>(hx i hi).elim λx z=>wp6 (prog:=prog) (E:=E) (left:=left) (b:=b i) an hk ae z.1 z.2 (ah i x hi z.1);refine Av (T hint hh) λr y B=>?_;obtain⟨rfl,rfl⟩:=B;dsimp only;by_cases B:b hint=true
 ·rw[if_pos B];refine Av (R:=λc v=>v=y/\∃o q,c=(none,o,q)/\o<q/\hint+o<n/\b (hint+o)=true/\(n - hint<=q\/(q<n - hint/\b (hint+q)=false))) ?_ λc v M=>?_
  ·refine Ea (I:=λx c v=>v=y/\∃o q,c=(none,o,q)/\o<q/\hint+o<n/\b (hint+o)=true/\x+1<=q) (λx c v _ af Y=>?_) (λc v Y=>?_) ⟨rfl,0,1,rfl,by lia,by lia,B,by lia⟩
   ·obtain⟨rfl,o,q,rfl,Q,L,G,P⟩:=Y;dsimp only;by_cases h:q≥n - hint
    ·rw[if_pos h];exact Aa ⟨rfl,_,_,rfl,Q,L,G,.inl h⟩
    ·rw[if_neg h];refine Av (T (hint+q) (by lia)) λr y B=>?_;obtain⟨rfl,rfl⟩:=B;dsimp only;cases Z:b (hint+q) with
     |true=>exact Aa ⟨rfl,_,_,rfl,by lia,by lia,Z,by lia⟩
     |false=>exact Aa ⟨rfl,_,_,rfl,Q,L,G,.inr ⟨by lia,Z⟩⟩
   ·obtain⟨rfl,o,q,rfl,Q,L,G,P⟩:=Y;exact⟨rfl,_,_,rfl,Q,L,G,.inl (by lia)⟩
  ·obtain⟨rfl,o,q,rfl,Q,L,G,P⟩:=M;dsimp only;refine Av (jh3 (b:=b) mono (λx lo hi h=>?_) (λx lo hi h h2=>?_) (by lia) (by lia) ⟨λi hi=>mono i _ (by lia) L G,λi ag U=>?_⟩) λc ab M=>?_
   ·dsimp only;rw[if_pos h];exact Aa ⟨rfl,rfl⟩
   ·dsimp only;rw[if_neg (by lia)];refine Av (T (lo+(hi - lo) / 2) (by lia)) λr y B=>?_;obtain⟨rfl,rfl⟩:=B;dsimp only;split
    ·exact Aa ⟨rfl,rfl⟩
    ·exact Aa ⟨rfl,rfl⟩
   ·rcases P with P | ⟨P,g5⟩
    ·lia
    ·cases M:b i with
     |false=>rfl
     |true=>rw[mono (hint+q) i (by lia) U M]at g5;cases g5
   ·obtain⟨rfl,m,u,rfl,q1,q2⟩:=M;exact Aa ⟨rfl,m,rfl,q1,q2⟩
 ·rw[if_neg B];have B:b hint=false:=by cases h:b hint;rfl;exact absurd h B
  refine Av (R:=λc v=>v=y/\∃o q,c=(none,o,q)/\o<q/\o<=hint/\b (hint - o)=false/\(hint+1<=q\/(q<hint+1/\b (hint - q)=true))) ?_ λc v M=>?_
  ·refine Ea (I:=λx c v=>v=y/\∃o q,c=(none,o,q)/\o<q/\o<=hint/\b (hint - o)=false/\x+1<=q) (λx c v _ af Y=>?_) (λc v Y=>?_) ⟨rfl,0,1,rfl,by lia,by lia,B,by lia⟩
   ·obtain⟨rfl,o,q,rfl,Q,L,G,P⟩:=Y;dsimp only;by_cases h:q≥hint+1
    ·rw[if_pos h];exact Aa ⟨rfl,_,_,rfl,Q,L,G,.inl h⟩
    ·rw[if_neg h];refine Av (T (hint - q) (by lia)) λr y B=>?_;obtain⟨rfl,rfl⟩:=B;dsimp only;cases Z:b (hint - q) with
     |true=>exact Aa ⟨rfl,_,_,rfl,Q,L,G,.inr ⟨by lia,Z⟩⟩
     |false=>exact Aa ⟨rfl,_,_,rfl,by lia,by lia,Z,by lia⟩
   ·obtain⟨rfl,o,q,rfl,Q,L,G,P⟩:=Y;exact⟨rfl,_,_,rfl,Q,L,G,.inl (by lia)⟩
  ·obtain⟨rfl,o,q,rfl,Q,L,G,P⟩:=M;dsimp only;refine Av (jh3 (b:=b) mono (λx lo hi h=>?_) (λx lo hi h h2=>?_) (by lia) (by lia) ⟨λi hi=>?_,λi ag U=>?_⟩) λc ab M=>?_
   ·dsimp only;rw[if_pos h];exact Aa ⟨rfl,rfl⟩
   ·dsimp only;rw[if_neg (by lia)];refine Av (T (lo+(hi - lo) / 2) (by lia)) λr y B=>?_;obtain⟨rfl,rfl⟩:=B;dsimp only;split
    ·exact Aa ⟨rfl,rfl⟩
    ·exact Aa ⟨rfl,rfl⟩
   ·rcases P with P | ⟨P,g5⟩
    ·lia
    ·exact mono i (hint - q) (by lia) (by lia) g5
   ·cases M:b i with
    |false=>rfl
    |true=>rw[mono (hint - o) i (by lia) U M]at G;cases G
   ·obtain⟨rfl,m,u,rfl,q1,q2⟩:=M;exact Aa ⟨rfl,m,rfl,q1,q2⟩
end
variable {y ia ib:Nat}{la lb:List Nat}
section
variable {key:Nat->O.α}
def Ai{o:Type}{c:Prop}[Decidable c]{x y:StateT BW Sem o}{st:BW}{R:o->BW->Prop}(r:c->Tr prog w A E s x st R)(q:¬ c->Tr prog w A E s y st R):Tr prog w A E s (if c then x else y) st R:=by
 by_cases h:c
 ·rw[if_pos h];exact r h
 ·rw[if_neg h];exact q h
def kl(key:Nat->O.α)(x y:Nat):Prop:=O.kle (key x) (key y)
def Gh{z:Nat}(o:kl key x y)(h:kl key y z):kl key x z:=KeyOrd.kle_trans o h
def Gg(h:ltO key x y=true):kl key x y:=KeyOrd.kle_of_klt h
def En(h:ltO key y x=false):kl key x y:=h
abbrev Srt(key:Nat->O.α)(l:List Nat):Prop:=l.Pairwise (kl key)
def Pj{l:List Nat}(h:Srt key l)(q:i<=j)(u:l[i]? = some x)(r:l[j]? = some y):kl key x y:=by
 obtain⟨B,rfl⟩:=LR.mp u;obtain⟨v,rfl⟩:=LR.mp r;rcases Nat.lt_or_eq_of_le q with o |rfl
 ·exact iB.mp h i j B v o
 ·exact KeyOrd.kle_refl _
theorem Jp{l:List Nat}(h:y∈l.drop i):∃j,i<=j/\l[j]? = some y:=by obtain⟨j,o,rfl⟩:=X_.mp h;rw[TQ]at o;exact⟨i+j,by lia,by rw[gV];exact GK (by lia)⟩
theorem wO{l:List Nat}(h:y∈(l.drop i).take k):∃j,j<k/\l[i+j]? = some y:=by obtain⟨j,o,rfl⟩:=X_.mp h;rw[QJ,TQ]at o;refine⟨j,by lia,?_⟩;rw[cI,gV];exact GK (by lia)
def J8{l:List Nat}(h:Srt key l){a:Nat}(q:l[i]? = some a)(hl:kl key x a):∀y∈l.drop i,kl key x y:=λy o=>by have⟨j,r,e⟩:=Jp o;exact Gh hl (Pj h r q e)
structure Mg(key:Nat->O.α)(la lb lo:List Nat)(ia ib:Nat):Prop where
 perm:lo.Perm (la.take ia++lb.take ib)
 srt:Srt key lo
 ra:∀x∈lo,∀y∈la.drop ia,kl key x y
 rb:∀x∈lo,∀y∈lb.drop ib,kl key x y
def Md(key:Nat->O.α)(la lb r:List Nat):Prop:=r.Perm (la++lb)/\Srt key r
def wa4(l:List Nat)(i k:Nat):l.take (i+k)=l.take i++(l.drop i).take k:=by rw[pW]
theorem Mg.as{lo:List Nat}(m:Mg key la lb lo ia ib)(r:Srt key la)(k:Nat)(u:∀x∈(la.drop ia).take k,∀y∈lb.drop ib,kl key x y):Mg key la lb (lo++(la.drop ia).take k) (ia+k) ib:=by
 refine⟨?_,?_,λx o y q=>?_,λx o y q=>?_⟩
 ·rw[wa4];refine(m.perm.append_right _).trans ?_;rw[NB,NB];exact bK.append_left _
 ·refine WQ.mpr ⟨m.srt,(r.drop).take,λx o y q=>m.ra x o y (eE q)⟩
 ·rcases KC.mp o with h |h
  ·refine m.ra x h y ?_;rw[<-List.drop_drop]at q;exact d_ q
  ·have⟨i,hi,B⟩:=wO h;have⟨j,G,v⟩:=Jp q;exact Pj r (by lia) B v
 ·rcases KC.mp o with h |h
  ·exact m.rb x h y q
  ·exact u x h y q
def Mg.swap{lo:List Nat}(m:Mg key la lb lo ia ib):Mg key lb la lo ib ia:=⟨m.perm.trans bK,m.srt,m.rb,m.ra⟩
def Mg.bs{lo:List Nat}(m:Mg key la lb lo ia ib)(o:Srt key lb)(k:Nat)(h:∀x∈(lb.drop ib).take k,∀y∈la.drop ia,kl key x y):Mg key la lb (lo++(lb.drop ib).take k) ia (ib+k):=(m.swap.as o k h).swap
def vW{l:List Nat}{a:Nat}(h:l[i]? = some a):(l.drop i).take 1=[a]:=by obtain⟨hi,rfl⟩:=LR.mp h;rw[bM hi];rfl
def Mg.a1{lo:List Nat}{a:Nat}(m:Mg key la lb lo ia ib)(u:Srt key la)(h:la[ia]? = some a)(r:∀y∈lb.drop ib,kl key a y):Mg key la lb (lo++[a]) (ia+1) ib:=by
 have:=m.as u 1 λx o y q=>by rw[vW h,JG]at o;rw[o];exact r y q
 rwa [vW h]at this
def Mg.b1{lo:List Nat}(m:Mg key la lb lo ia ib)(q:Srt key lb)(h:lb[ib]? = some b)(o:∀y∈la.drop ia,kl key b y):Mg key la lb (lo++[b]) ia (ib+1):=(m.swap.a1 q h o).swap
def Mg.last{lo:List Nat}(m:Mg key la lb lo ia ib)(v:Srt key la)(u:Srt key lb)(r:∀x∈lb.drop ib,∀y∈la.drop ia,kl key x y):Md key la lb (lo++lb.drop ib++la.drop ia):=by
 refine⟨?_,?_⟩
 ·have B:(la++lb)=(la.take ia++la.drop ia)++(lb.take ib++lb.drop ib):=by rw[WT,WT]
  rw[B];refine((m.perm.append_right _).append_right _).trans ?_;rw[NB,NB,NB];refine List.Perm.append_left _ ?_;refine List.Perm.trans ?_ bK;rw[NB]
 ·refine WQ.mpr ⟨WQ.mpr ⟨m.srt,u.drop,m.rb⟩,v.drop,λx o y q=>?_⟩;rcases KC.mp o with h |h
  ·exact m.ra x h y q
  ·exact r x h y q
def Mg.done{lo:List Nat}(m:Mg key la lb lo ia ib)(q:Srt key la)(o:Srt key lb)(h:∀x∈la.drop ia,∀y∈lb.drop ib,kl key x y):Md key la lb (lo++la.drop ia++lb.drop ib):=by have:=m.swap.last o q h;exact⟨this.1.trans bK,this.2⟩
def Ad(lo:List Nat)(k:Nat):(Am it lo).push (DQ it k)=Am it (lo++[k]):=by unfold Am;simp
def Di(a b:List Nat):Am it a++Am it b=Am it (a++b):=by unfold Am;simp
def jg8(l:List Nat)(i:Nat):(Am it l).extract i (Am it l).size=Am it (l.drop i):=by unfold Am;apply ZD;simp;exact eF (by simp)
def Fx(l:List Nat)(i k:Nat):(Am it l).extract i (i+k)=Am it ((l.drop i).take k):=by unfold Am;apply ZD;simp
structure Kp(st st':BW):Prop where
 kind:kindOf st'=kindOf st
 arr:KQ st'=KQ st
 pend:CN st'=CN st
 fail:HW st'=HW st
end
section
variable {key:Nat->O.α}
def Kp.refl(st:BW):Kp st st:=⟨rfl,rfl,rfl,rfl⟩
def Ou{q:Type}{g:BW->BW}{f:PUnit->StateT BW Sem q}{st0 st:BW}{R:q->BW->Prop}(h:Kp st0 (g st))(r:∀o,Kp st0 o->Tr prog w A E s (f ⟨⟩) o R):Tr prog w A E s (modify g >>= f) st R:=Ka (r _ h)
def Sd{l:List Nat}(h:(i == (Am it l).size)=true):i=l.length:=by rw[Bq]at h;exact beq_iff_eq.mp h
def R9{l:List Nat}(h:¬ (i == (Am it l).size)=true):i≠l.length:=λe=>h (by rw[Bq,e];exact beq_self_eq_true _)
def U4(lo la lb:List Nat)(ia ib:Nat):Am it lo++(Am it la).extract ia (Am it la).size++(Am it lb).extract ib (Am it lb).size=Am it (lo++la.drop ia++lb.drop ib):=by rw[jg8,jg8,Di,Di]
def T9(lo la lb:List Nat)(b ia ib:Nat):(Am it lo).push (DQ it b)++(Am it la).extract ia (Am it la).size++(Am it lb).extract ib (Am it lb).size=Am it (lo++[b]++la.drop ia++lb.drop ib):=by rw[Ad,U4]
def jM(lo la lb h:List Nat)(i k ia ib:Nat):Am it lo++(Am it h).extract i (i+k)++(Am it la).extract ia (Am it la).size++(Am it lb).extract ib (Am it lb).size=Am it (lo++(h.drop i).take k++la.drop ia++lb.drop ib):=by rw[Fx,Di,U4]
def nH(h:bz key false b x=true):kl key x b:=by unfold bz at h;rw[if_neg (by decide)]at h;exact En (by simpa using h)
def nJ(h:bz key false b x=false):kl key b x:=by unfold bz at h;rw[if_neg (by decide)]at h;exact Gg (by simpa using h)
def fZ{a:Nat}(h:bz key true a x=true):kl key x a:=by unfold bz at h;rw[if_pos rfl]at h;exact Gg h
def f9{a:Nat}(h:bz key true a x=false):kl key a x:=by unfold bz at h;rw[if_pos rfl]at h;exact En h
def xV{l:List Nat}(v:Srt key l)(q:i<=j)(u:l[i]? = some x)(r:l[j]? = some y)(h:bz key left k y=true):bz key left k x=true:=by
 have o:kl key x y:=Pj v q u r;unfold bz at h ⊢;cases left with
 |true =>
  rw[if_pos rfl]at h ⊢;cases B:ltO key x k with
  |true=>rfl
  |false=>have:kl key k y:=Gh (En B) o;exact absurd h (by rw[show ltO key y k=false from this];decide)
 |false=>rw[if_neg (by decide)]at h ⊢;have G:kl key y k:=En (by simpa using h);have:kl key x k:=Gh o G;rw[show ltO key k x=false from this];rfl
def gb(key:Nat->O.α)(left:Bool)(k:Nat)(l:List Nat)(base:Nat)(i:Nat):Bool:=bz key left k ((l[base+i]?).getD 0)
theorem Jh{l:List Nat}{base:Nat}{st:BW}(an:Ans prog w A s κ it key F)(hl:∀x∈l,x<F)(I:Srt key l)(M:k<F)(v:kindOf st=κ)(Y:base+n<=l.length)(U:hint<n):
  Tr prog w A E s (pB left (DQ it k) (Am it l) base n hint) st (λr o=>o=st/\∃m,r=some m/\m<=n/\(∀x∈(l.drop base).take m,bz key left k x=true)/\(∀j y,base+m<=j->j<base+n->l[j]? = some y->bz key left k y=false)):=by
 refine K4 (Zj (b:=gb key left k l base) an hl M v Y U (λi x _ B=>by unfold gb;rw[B];rfl) (λi j T hj h=>?_)) λr o L=>?_
 ·unfold gb at h ⊢;have u:base+i<l.length:=by lia
  have q:base+j<l.length:=by lia
  rw[GK u];rw[GK q]at h;exact xV I (by lia) (GK u) (GK q) h
 ·obtain⟨rfl,m,rfl,u,q,Z⟩:=L;refine⟨rfl,m,rfl,u,λx B=>?_,λj y Q P G=>?_⟩
  ·have⟨i,hi,e⟩:=wO B;have:=q i hi;unfold gb at this;rwa [e]at this
  ·have:=Z (j - base) (by lia) (by lia);unfold gb at this;rwa [show base+(j - base)=j by lia,G]at this
theorem jt3{st:BW}(an:Ans prog w A s κ it key F)(aq:∀x∈la,x<F)(ag:∀x∈lb,x<F)(q:Srt key la)(u:Srt key lb)(na:1<=la.length)(nb:1<=lb.length)
  (first:∀a b,la[0]? = some a->lb[0]? = some b->kl key b a)(top:∀x∈lb,∀y,la[la.length - 1]? = some y->kl key x y)(af:kindOf st=κ):
  Tr prog w A E s (ku6 (Am it la) (Am it lb)) st (λr aw=>Kp st aw/\∃lo,r=Am it lo/\Md key la lb lo):=by
 have z:∀i,i<la.length->∃x,la[i]? = some x/\x<F:=λi hi=>⟨_,GK hi,aq _ (RB hi)⟩;have ah:∀i,i<lb.length->∃x,lb[i]? = some x/\x<F:=λi hi=>⟨_,GK hi,ag _ (RB hi)⟩;have B:∀{ia ib},ia+1=la.length->∀x∈lb.drop ib,∀y∈la.drop ia,kl key x y:=λ{ia ib} h x Y y hy=>by have⟨j,hj,e⟩:=Jp hy;have bj:=(LR.mp e).1;exact top x (d_ Y) y (by rw[show la.length - 1=j by lia];exact e)
 have Z:∀{ia ib},ib=lb.length->∀x∈la.drop ia,∀y∈lb.drop ib,kl key x y:=λ{ia ib} h x Y y hy=>by rw[h,bL (F_ _)]at hy;cases hy
 have ax:∀{ia ib},ia=la.length->∀x∈la.drop ia,∀y∈lb.drop ib,kl key x y:=λ{ia ib} h x Y y hy=>by rw[h,bL (F_ _)]at Y;cases Y
 refine K6 ?_;have⟨b0,ai,bf⟩:=ah 0 nb;have⟨a0,ar,bg⟩:=z 0 na;have m0:Mg key la lb [b0] 0 1:=(show Mg key la lb [] 0 0 from⟨List.Perm.refl _,List.Pairwise.nil,(λx Y=>by cases Y),(λx Y=>by cases Y)⟩).b1 u ai (J8 q ar (first a0 b0 ar ai));refine Bc ai ?_;refine Ai (λh=>?_) (λh1=>?_)
 ·exact Aa ⟨Kp.refl st,_,U4 [b0] la lb 0 1,m0.done q u (Z (Sd h))⟩
 refine Ai (λh=>?_) (λh2=>?_)
 ·exact Aa ⟨Kp.refl st,_,U4 [b0] lb la 1 0,m0.last q u (B (Sd h))⟩
 have h1:=R9 h1;have h2:=R9 h2;refine Jk ?_;refine Av (R:=λc o=>Kp st o/\∃lo,c.1=some (Am it lo)/\Md key la lb lo) ?_ λc o hc=>?_
 ·refine Ea (I:=λx c o=>Kp st o/\∃lo ia ib mg,c=(none,Am it lo,ia,ib,mg)/\Mg key la lb lo ia ib/\ia+1<la.length/\ib<lb.length/\x+1<=ia+ib) (λx c o _ bh hI=>?_) (λc o hI=>?_) ⟨Kp.refl st,[b0],0,1,_,rfl,m0,by lia,by lia,by lia⟩
  ·obtain⟨k2,lo,ia,ib,mg,rfl,m,U,Q,i3⟩:=hI;refine Av (R:=λc o=>Kp st o/\((∃r,c.1=some (Am it r)/\Md key la lb r)\/∃lo ia ib ac bc,c=(none,Am it lo,ia,ib,ac,bc)/\Mg key la lb lo ia ib/\ia+1<la.length/\ib<lb.length/\x+2<=ia+ib)) ?_ λc ao hc=>?_
   ·refine Ea (I:=λx2 c o=>Kp st o/\∃lo ia ib ac bc,c=(none,Am it lo,ia,ib,ac,bc)/\Mg key la lb lo ia ib/\ia+1<la.length/\ib<lb.length/\x+1+min x2 1<=ia+ib) (λx2 c ao _ az hI=>?_) (λc ao hI=>?_) ⟨k2,lo,ia,ib,_,_,rfl,m,U,Q,by lia⟩
    ·obtain⟨k3,lo,ia,ib,ac,bc,rfl,m,U,Q,i3⟩:=hI;have⟨b,eb,bn⟩:=ah ib Q;have⟨a,M,ae⟩:=z ia (by lia);refine Bc eb (Bc M (gA an bn ae (k3.kind.trans af) ?_));refine Ai (λh=>?_) (λh=>?_)
     ·have m':=m.b1 u eb (J8 q M (Gg h));refine Bc eb ?_;refine Ai (λh=>?_) (λh=>?_)
      ·exact Aa ⟨k3,.inl ⟨_,congrArg some (T9 lo la lb b ia (ib+1)),m'.done q u (Z (Sd h))⟩⟩
      ·have h:=R9 h;refine Ai (λL=>?_) (λL=>?_)
       ·exact Aa ⟨k3,.inr ⟨_,_,_,_,_,by rw[Ad],m',U,by lia,by lia⟩⟩
       ·exact Aa ⟨k3,_,_,_,_,_,by rw[Ad],m',U,by lia,by lia⟩
     ·have m':=m.a1 q M (J8 u eb (En (by simpa using h)));refine Bc M ?_;refine Ai (λh=>?_) (λh=>?_)
      ·exact Aa ⟨k3,.inl ⟨_,congrArg some (T9 lo lb la a ib (ia+1)),m'.last q u (B (Sd h))⟩⟩
      ·have h:=R9 h;refine Ai (λL=>?_) (λL=>?_)
       ·exact Aa ⟨k3,.inr ⟨_,_,_,_,_,by rw[Ad],m',by lia,Q,by lia⟩⟩
       ·exact Aa ⟨k3,_,_,_,_,_,by rw[Ad],m',by lia,Q,by lia⟩
    ·obtain⟨k3,lo,ia,ib,ac,bc,rfl,m,U,Q,i3⟩:=hI;exact⟨k3,.inr ⟨_,_,_,_,_,rfl,m,U,Q,by lia⟩⟩
   ·obtain⟨k3,hc⟩:=hc;rcases hc with ⟨r,er,md⟩ | ⟨lo,ia,ib,ac,bc,rfl,m,U,Q,i3⟩
    ·obtain⟨c1,c2⟩:=c;cases er;exact Aa ⟨k3,r,rfl,md⟩
    refine K6 ?_;refine Av (R:=λc o=>Kp st o/\((∃r,c.1=some (Am it r)/\Md key la lb r)\/∃lo ia ib mg ac bc,c=(none,Am it lo,ia,ib,mg,ac,bc)/\Mg key la lb lo ia ib/\ia+1<la.length/\ib<lb.length/\x+2<=ia+ib)) ?_ λc ak hc=>?_
    ·refine Ea (I:=λx2 c o=>Kp st o/\∃lo ia ib mg ac bc,c=(none,Am it lo,ia,ib,mg,ac,bc)/\Mg key la lb lo ia ib/\ia+1<la.length/\ib<lb.length/\x+2<=ia+ib) (λx2 c ak _ az hI=>?_) (λc ak hI=>?_) ⟨k3,lo,ia,ib,_,_,_,rfl,m,U,Q,i3⟩
     ·obtain⟨P,lo,ia,ib,mg,ac,bc,rfl,m,U,Q,i3⟩:=hI;have⟨b,eb,bn⟩:=ah ib Q;refine Ai (λ_=>Ou (st0:=st) ⟨P.1,P.2,P.3,P.4⟩ λaj v=>Bc eb ?_) (λ_=>Ou (st0:=st) ⟨P.1,P.2,P.3,P.4⟩ λaj v=>Bc eb ?_)
      all_goals
       refine Av (Jh an aq q bn (v.kind.trans af) (by rw[Bq];show ia+_<=_;lia) (by rw[Bq];show 0<_ - ia;lia)) λr ba hr=>?_;obtain⟨rfl,k,rfl,q1,q2,q3⟩:=hr;have q1:k<=la.length - ia:=by rw[Bq]at q1;exact q1
       have mA:=m.as q k λx Y=>J8 u eb (nH (q2 x Y));have aa:∀y∈la.drop (ia+k),kl key b y:=λy hy=>by have⟨j,hj,e⟩:=Jp hy;have:=(LR.mp e).1;exact nJ (q3 j y hj (by rw[Bq];show j<ia+(_ - ia);lia) e)
       refine Ai (λhk=>Ai (λh=>?_) (λh=>Ai (λL=>?_) (λL=>?_))) (λhk=>?_)
       ·exact Aa ⟨v,.inl ⟨_,congrArg some (jM lo lb la la ia k ib (ia+k)),mA.last q u (B (Sd h))⟩⟩
       ·exact Aa ⟨v,.inl ⟨_,congrArg some (jM lo la lb la ia k (ia+k) ib),mA.done q u (ax (Sd L))⟩⟩
       ·have h:=R9 h;have L:=R9 L;have U:ia+k+1<la.length:=by lia
        have i3:x+2<=ia+k+ib:=by lia
        clear q2 q3 hk h L q1 m;dsimp only;rw[Fx,Di];generalize lo++(la.drop ia).take k=bb,ia+k=ay at *;refine Bc eb ?_;have mB:=mA.b1 u eb aa;refine Ai (λh=>?_) (λh=>?_)
        ·exact Aa ⟨v,.inl ⟨_,congrArg some (T9 _ la lb b _ (ib+1)),mB.done q u (Z (Sd h))⟩⟩
        have h:=R9 h;have⟨a,M,ae⟩:=z ay (by lia);refine Bc M ?_;refine Av (Jh an ag u ae (v.kind.trans af) (by rw[Bq];show ib+1+_<=_;lia) (by rw[Bq];show 0<_ - (ib+1);lia)) λr au hr=>?_;obtain⟨rfl,k',rfl,q1,q2,q3⟩:=hr;have q1:k'<=lb.length - (ib+1):=by rw[Bq]at q1;exact q1
        have mC:=mB.bs u k' λx Y=>J8 q M (fZ (q2 x Y));have G:∀y∈lb.drop (ib+1+k'),kl key a y:=λy hy=>by have⟨j,hj,e⟩:=Jp hy;have:=(LR.mp e).1;exact f9 (q3 j y hj (by rw[Bq];show j<ib+1+(_ - (ib+1));lia) e)
        refine Ai (λhk=>Ai (λL=>?_) (λL=>?_)) (λhk=>?_)
        ·exact Aa ⟨v,.inl ⟨_,congrArg some (by rw[Ad];exact jM _ la lb lb (ib+1) k' _ (ib+1+k')),mC.done q u (Z (Sd L))⟩⟩
        ·have L:=R9 L;have T:=mC.a1 q M G;refine Bc M (Ai (λh=>?_) (λh=>?_))
         ·exact Aa ⟨v,.inl ⟨_,congrArg some (by rw[Ad,Fx,Di];exact T9 _ lb la a _ _),T.last q u (B (Sd h))⟩⟩
         have h:=R9 h;refine Ai (λ_=>?_) (λ_=>?_)
         ·exact Aa ⟨v,.inr ⟨_,_,_,_,_,_,by rw[Ad,Fx,Di,Ad],T,by lia,by lia,by lia⟩⟩
         ·exact Aa ⟨v,_,_,_,_,_,_,by rw[Ad,Fx,Di,Ad],T,by lia,by lia,by lia⟩
        ·have ab:k'=0:=by lia
         subst ab;have T:=mB.a1 q M G;refine Bc M (Ai (λh=>?_) (λh=>?_))
         ·exact Aa ⟨v,.inl ⟨_,congrArg some (by rw[Ad];exact T9 _ lb la a _ _),T.last q u (B (Sd h))⟩⟩
         have h:=R9 h;refine Ai (λ_=>?_) (λ_=>?_)
         ·exact Aa ⟨v,.inr ⟨_,_,_,_,_,_,by rw[Ad,Ad],T,by lia,by lia,by lia⟩⟩
         ·exact Aa ⟨v,_,_,_,_,_,_,by rw[Ad,Ad],T,by lia,by lia,by lia⟩
       ·have ab:k=0:=by lia
        subst ab;have mA:=m;dsimp only;refine Bc eb ?_;have mB:=mA.b1 u eb aa;refine Ai (λh=>?_) (λh=>?_)
        ·exact Aa ⟨v,.inl ⟨_,congrArg some (T9 _ la lb b _ (ib+1)),mB.done q u (Z (Sd h))⟩⟩
        have h:=R9 h;have⟨a,M,ae⟩:=z ia (by lia);refine Bc M ?_;refine Av (Jh an ag u ae (v.kind.trans af) (by rw[Bq];show ib+1+_<=_;lia) (by rw[Bq];show 0<_ - (ib+1);lia)) λr au hr=>?_;obtain⟨rfl,k',rfl,q1,q2,q3⟩:=hr;have q1:k'<=lb.length - (ib+1):=by rw[Bq]at q1;exact q1
        have mC:=mB.bs u k' λx Y=>J8 q M (fZ (q2 x Y));have G:∀y∈lb.drop (ib+1+k'),kl key a y:=λy hy=>by have⟨j,hj,e⟩:=Jp hy;have:=(LR.mp e).1;exact f9 (q3 j y hj (by rw[Bq];show j<ib+1+(_ - (ib+1));lia) e)
        refine Ai (λhk=>Ai (λL=>?_) (λL=>?_)) (λhk=>?_)
        ·exact Aa ⟨v,.inl ⟨_,congrArg some (by rw[Ad];exact jM _ la lb lb (ib+1) k' _ (ib+1+k')),mC.done q u (Z (Sd L))⟩⟩
        ·have L:=R9 L;have T:=mC.a1 q M G;refine Bc M (Ai (λh=>?_) (λh=>?_))
         ·exact Aa ⟨v,.inl ⟨_,congrArg some (by rw[Ad,Fx,Di];exact T9 _ lb la a _ _),T.last q u (B (Sd h))⟩⟩
         have h:=R9 h;refine Ai (λ_=>?_) (λ_=>?_)
         ·exact Aa ⟨v,.inr ⟨_,_,_,_,_,_,by rw[Ad,Fx,Di,Ad],T,by lia,by lia,by lia⟩⟩
         ·exact Aa ⟨v,_,_,_,_,_,_,by rw[Ad,Fx,Di,Ad],T,by lia,by lia,by lia⟩
        ·have ab:k'=0:=by lia
         subst ab;have T:=mB.a1 q M G;refine Bc M (Ai (λh=>?_) (λh=>?_))
         ·exact Aa ⟨v,.inl ⟨_,congrArg some (by rw[Ad];exact T9 _ lb la a _ _),T.last q u (B (Sd h))⟩⟩
         have h:=R9 h;refine Ai (λ_=>?_) (λ_=>?_)
         ·exact Aa ⟨v,.inr ⟨_,_,_,_,_,_,by rw[Ad,Ad],T,by lia,by lia,by lia⟩⟩
         ·exact Aa ⟨v,_,_,_,_,_,_,by rw[Ad,Ad],T,by lia,by lia,by lia⟩
     ·obtain⟨P,lo,ia,ib,mg,ac,bc,rfl,m,U,Q,i3⟩:=hI;exact⟨P,.inr ⟨_,_,_,_,_,_,rfl,m,U,Q,i3⟩⟩
    ·obtain⟨P,hc⟩:=hc;rcases hc with ⟨r,er,md⟩ | ⟨lo,ia,ib,mg,ac,bc,rfl,m,U,Q,i3⟩
     ·obtain⟨c1,c2⟩:=c;cases er;exact Aa ⟨P,r,rfl,md⟩
     ·exact Ou (st0:=st) ⟨P.1,P.2,P.3,P.4⟩ λaj v=>Aa ⟨v,lo,ia,ib,_,rfl,m,U,Q,by lia⟩
  ·obtain⟨k2,lo,ia,ib,mg,rfl,m,U,Q,i3⟩:=hI;rw[Bq,Bq]at i3;lia
 ·obtain⟨k,lo,e,md⟩:=hc;obtain⟨c1,c2⟩:=c;cases e;exact Aa ⟨k,lo,rfl,md⟩
end
variable {ro:List Nat}{na nb:Nat}
section
variable {key:Nat->O.α}
theorem Ks{l:List Nat}(h:y∈l.take n):∃j,j<n/\l[j]? = some y:=by obtain⟨j,o,rfl⟩:=X_.mp h;rw[QJ]at o;exact⟨j,by lia,by rw[cI];exact GK (by lia)⟩
theorem mem_mid{l:List Nat}(h:y∈(l.take n).drop i):∃j,i<=j/\j<n/\l[j]? = some y:=by obtain⟨j,o,rfl⟩:=X_.mp h;rw[TQ,QJ]at o;refine⟨i+j,by lia,by lia,?_⟩;rw[gV,cI];exact GK (by lia)
theorem Pq{l:List Nat}(h:Srt key l){a:Nat}(q:l[n - 1]? = some a)(hl:kl key a x):∀y∈l.take n,kl key y x:=λy o=>by have⟨j,r,e⟩:=Ks o;exact Gh (Pj h (by lia) e q) hl
structure Mh(key:Nat->O.α)(la lb ro:List Nat)(na nb:Nat):Prop where
 perm:ro.Perm (la.drop na++lb.drop nb)
 srt:ro.Pairwise λx y=>kl key y x
 ra:∀x∈ro,∀y∈la.take na,kl key y x
 rb:∀x∈ro,∀y∈lb.take nb,kl key y x
theorem ku7(l:List Nat)(h:i<=n):l.drop i=(l.take n).drop i++l.drop n:=by
 have e:l=l.take n++l.drop n:=(WT n l).symm
 by_cases o:n<=l.length
 ·conv=>lhs;rw[e]
  rw[List.drop_append_of_le_length (by rw[QJ];lia)]
 ·rw[eF (by lia),bL (show l.length<=n by lia),YK]
theorem Mh.as(m:Mh key la lb ro na nb)(r:Srt key la)(v:k<=na)(u:∀x∈(la.take na).drop k,∀y∈lb.take nb,kl key y x):Mh key la lb (ro++((la.take na).drop k).reverse) k nb:=by
 refine⟨?_,?_,λx o y q=>?_,λx o y q=>?_⟩
 ·rw[ku7 la v];refine((m.perm.append_right _).trans bK).trans ?_;rw[NB];exact(jHx _).append_right _
 ·refine WQ.mpr ⟨m.srt,jGv.mpr (r.take.drop),λx o y q=>?_⟩;exact m.ra x o y (d_ (gR.mp q))
 ·rcases KC.mp o with h |h
  ·have⟨j,G,e⟩:=Ks q;refine m.ra x h y ?_;obtain⟨B,rfl⟩:=LR.mp e;exact X_.mpr ⟨j,by rw[QJ];lia,by rw[cI]⟩
  ·have⟨i,hi,_,L⟩:=mem_mid (gR.mp h);have⟨j,G,I⟩:=Ks q;exact Pj r (by lia) I L
 ·rcases KC.mp o with h |h
  ·exact m.rb x h y q
  ·exact u x (gR.mp h) y q
def Mh.swap(m:Mh key la lb ro na nb):Mh key lb la ro nb na:=⟨m.perm.trans bK,m.srt,m.rb,m.ra⟩
def Mh.bs(m:Mh key la lb ro na nb)(q:Srt key lb)(o:k<=nb)(h:∀x∈(lb.take nb).drop k,∀y∈la.take na,kl key y x):Mh key la lb (ro++((lb.take nb).drop k).reverse) na k:=(m.swap.as q o h).swap
theorem wN{l:List Nat}{a:Nat}(h:l[n - 1]? = some a)(q:1<=n):(l.take n).drop (n - 1)=[a]:=by
 obtain⟨hi,rfl⟩:=LR.mp h;have o:(l.take n).length=n:=by rw[QJ];lia
 rw[bM (by lia),bL (by lia),cI]
theorem Mh.a1{a:Nat}(m:Mh key la lb ro na nb)(v:Srt key la)(q:1<=na)(h:la[na - 1]? = some a)(u:∀y∈lb.take nb,kl key y a):Mh key la lb (ro++[a]) (na - 1) nb:=by
 have:=m.as v (k:=na - 1) (by lia) λx o y r=>by rw[wN h q,JG]at o;rw[o];exact u y r
 rwa [wN h q]at this
def Mh.b1(m:Mh key la lb ro na nb)(r:Srt key lb)(q:1<=nb)(h:lb[nb - 1]? = some b)(o:∀y∈la.take na,kl key y b):Mh key la lb (ro++[b]) na (nb - 1):=(m.swap.a1 r q h o).swap
def Mh.done(m:Mh key la lb ro na nb)(v:Srt key la)(u:Srt key lb)(r:∀x∈la.take na,∀y∈lb.take nb,kl key x y):Md key la lb (la.take na++lb.take nb++ro.reverse):=by
 refine⟨?_,?_⟩
 ·have B:(la++lb)=(la.take na++la.drop na)++(lb.take nb++lb.drop nb):=by rw[WT,WT]
  rw[B];refine(((jHx ro).trans m.perm).append_left _).trans ?_;rw[NB,NB];refine List.Perm.append_left _ ?_;rw[<-NB,<-NB];exact bK.append_right _
 ·refine WQ.mpr ⟨WQ.mpr ⟨v.take,u.take,r⟩,jGv.mpr m.srt,λx o y q=>?_⟩;rcases KC.mp o with h |h
  ·exact m.ra y (gR.mp q) x h
  ·exact m.rb y (gR.mp q) x h
def Mh.last(m:Mh key la lb ro na nb)(q:Srt key la)(o:Srt key lb)(h:∀x∈lb.take nb,∀y∈la.take na,kl key x y):Md key la lb (lb.take nb++la.take na++ro.reverse):=by have:=m.swap.done o q h;exact⟨this.1.trans bK,this.2⟩
def Vn(l:List Nat)(i n:Nat):(Am it l).extract i n=Am it ((l.take n).drop i):=by unfold Am;apply ZD;simp[lA,k_,List.extract_eq_drop_take,List.drop_take]
def jg9(l:List Nat):(Am it l).reverse=Am it l.reverse:=by unfold Am;simp
def j5(ro la lb:List Nat)(na nb:Nat):(Am it la).extract 0 na++(Am it lb).extract 0 nb++(Am it ro).reverse=Am it (la.take na++lb.take nb++ro.reverse):=by rw[Vn,Vn,jg9,Di,Di];rfl
def aR(ro la lb:List Nat)(b na nb:Nat):(Am it la).extract 0 na++(Am it lb).extract 0 nb++((Am it ro).push (DQ it b)).reverse=Am it (la.take na++lb.take nb++(ro++[b]).reverse):=by rw[Ad,j5]
def Ol(ro l:List Nat)(i n:Nat):Am it ro++((Am it l).extract i n).reverse=Am it (ro++((l.take n).drop i).reverse):=by rw[Vn,jg9,Di]
def fJ(ro la lb h:List Nat)(i n na nb:Nat):(Am it la).extract 0 na++(Am it lb).extract 0 nb++(Am it ro++((Am it h).extract i n).reverse).reverse=Am it (la.take na++lb.take nb++(ro++((h.take n).drop i).reverse).reverse):=by rw[Ol,j5]
end
section
variable {key:Nat->O.α}
def Nx(h:(i == j)=true):i=j:=beq_iff_eq.mp h
def M9(h:¬ (i == j)=true):i≠j:=λe=>h (by rw[e];exact beq_self_eq_true _)
theorem jt2{st:BW}(an:Ans prog w A s κ it key F)(au:∀x∈la,x<F)(af:∀x∈lb,x<F)(q:Srt key la)(v:Srt key lb)(na:1<=la.length)(nb:1<=lb.length)
  (first:∀a b,la[0]? = some a->lb[0]? = some b->kl key b a)(top:∀x∈lb,∀y,la[la.length - 1]? = some y->kl key x y)(ae:kindOf st=κ):
  Tr prog w A E s (ku5 (Am it la) (Am it lb)) st (λr az=>Kp st az/\∃lo,r=Am it lo/\Md key la lb lo):=by
 have z:∀i,i<la.length->∃x,la[i]? = some x/\x<F:=λi hi=>⟨_,GK hi,au _ (RB hi)⟩;have ag:∀i,i<lb.length->∃x,lb[i]? = some x/\x<F:=λi hi=>⟨_,GK hi,af _ (RB hi)⟩;have⟨b0,aw,bh⟩:=ag 0 nb;have⟨a0,ax,bo⟩:=z 0 na;have G:∀{na nb},nb=1->∀x∈lb.take nb,∀y∈la.take na,kl key x y:=λ{na nb} h x Z y hy=>by have⟨j,hj,e⟩:=Ks Z;rw[show j=0 by lia,aw]at e;cases e;exact J8 q ax (first a0 b0 ax aw) y (eE hy)
 have U:∀{na nb},na=0->∀x∈la.take na,∀y∈lb.take nb,kl key x y:=λ{na nb} h x Z y hy=>by rw[h,jIm]at Z;cases Z
 have ao:∀{na nb},nb=0->∀x∈la.take na,∀y∈lb.take nb,kl key x y:=λ{na nb} h x Z y hy=>by rw[h,jIm]at hy;cases hy
 have za:(Am it la).size=la.length:=Bq la;have zb:(Am it lb).size=lb.length:=Bq lb;refine K6 ?_;have⟨a1,ah,bj⟩:=z (la.length - 1) (by lia);have m0:Mh key la lb [a1] ((Am it la).size - 1) (Am it lb).size:=by rw[za,zb];refine(show Mh key la lb [] la.length lb.length from⟨?_,List.Pairwise.nil,(λx Z=>by cases Z),(λx Z=>by cases Z)⟩).a1 q na ah λy hy=>top y (eE hy) a1 ah;rw[bL (F_ _),bL (F_ _)];exact List.Perm.refl _
 refine Bc (show la[(Am it la).size - 1]? = some a1 by rw[za];exact ah) ?_;refine Ai (λh=>?_) (λh1=>?_)
 ·exact Aa ⟨Kp.refl st,_,j5 [a1] la lb _ _,m0.done q v (U (Nx h))⟩
 refine Ai (λh=>?_) (λh2=>?_)
 ·exact Aa ⟨Kp.refl st,_,j5 [a1] lb la _ _,m0.last q v (G (Nx h))⟩
 have h1:=M9 h1;have h2:=M9 h2;refine Jk ?_;refine Av (R:=λc o=>Kp st o/\∃lo,c.1=some (Am it lo)/\Md key la lb lo) ?_ λc o hc=>?_
 ·refine Ea (I:=λx c o=>Kp st o/\∃na nb lo mg,c=(none,na,nb,Am it lo,mg)/\Mh key la lb lo na nb/\(1<=na/\na<=la.length)/\(2<=nb/\nb<=lb.length)/\na+nb+x+1<=la.length+lb.length) (λx c o _ bp hI=>?_) (λc o hI=>?_) ⟨Kp.refl st,_,_,[a1],_,rfl,m0,by lia,by lia,by lia⟩
  ·obtain⟨k2,na,nb,lo,mg,rfl,m,Q,i2,i3⟩:=hI;refine Av (R:=λc o=>Kp st o/\((∃r,c.1=some (Am it r)/\Md key la lb r)\/∃na nb lo ac bc,c=(none,na,nb,Am it lo,ac,bc)/\Mh key la lb lo na nb/\(1<=na/\na<=la.length)/\(2<=nb/\nb<=lb.length)/\na+nb+x+2<=la.length+lb.length)) ?_ λc ak hc=>?_
   ·refine Ea (I:=λx2 c o=>Kp st o/\∃na nb lo ac bc,c=(none,na,nb,Am it lo,ac,bc)/\Mh key la lb lo na nb/\(1<=na/\na<=la.length)/\(2<=nb/\nb<=lb.length)/\na+nb+x+1+min x2 1<=la.length+lb.length) (λx2 c ak _ bb hI=>?_) (λc ak hI=>?_) ⟨k2,na,nb,lo,_,_,rfl,m,Q,i2,by lia⟩
    ·obtain⟨k3,na,nb,lo,ac,bc,rfl,m,Q,i2,i3⟩:=hI;have⟨b,eb,bn⟩:=ag (nb - 1) (by lia);have⟨a,M,ab⟩:=z (na - 1) (by lia);refine Bc eb (Bc M (gA an bn ab (k3.kind.trans ae) ?_));refine Ai (λh=>?_) (λh=>?_)
     ·have m':=m.a1 q Q.1 M (Pq v eb (Gg h));refine Bc M ?_;refine Ai (λh=>?_) (λh=>?_)
      ·exact Aa ⟨k3,.inl ⟨_,congrArg some (aR lo la lb a (na - 1) nb),m'.done q v (U (Nx h))⟩⟩
      ·have h:=M9 h;refine Ai (λh'=>?_) (λh'=>?_)
       ·exact Aa ⟨k3,.inr ⟨_,_,_,_,_,by rw[Ad],m',by lia,i2,by lia⟩⟩
       ·exact Aa ⟨k3,_,_,_,_,_,by rw[Ad],m',by lia,i2,by lia⟩
     ·have m':=m.b1 v (by lia) eb (Pq q M (En (by simpa using h)));refine Bc eb ?_;refine Ai (λh=>?_) (λh=>?_)
      ·exact Aa ⟨k3,.inl ⟨_,congrArg some (aR lo lb la b (nb - 1) na),m'.last q v (G (Nx h))⟩⟩
      ·have h:=M9 h;refine Ai (λh'=>?_) (λh'=>?_)
       ·exact Aa ⟨k3,.inr ⟨_,_,_,_,_,by rw[Ad],m',Q,by lia,by lia⟩⟩
       ·exact Aa ⟨k3,_,_,_,_,_,by rw[Ad],m',Q,by lia,by lia⟩
    ·obtain⟨k3,na,nb,lo,ac,bc,rfl,m,Q,i2,i3⟩:=hI;exact⟨k3,.inr ⟨_,_,_,_,_,rfl,m,Q,i2,by lia⟩⟩
   ·obtain⟨k3,hc⟩:=hc;rcases hc with ⟨r,er,md⟩ | ⟨na,nb,lo,ac,bc,rfl,m,Q,i2,i3⟩
    ·obtain⟨c1,c2⟩:=c;cases er;exact Aa ⟨k3,r,rfl,md⟩
    refine K6 ?_;refine Av (R:=λc o=>Kp st o/\((∃r,c.1=some (Am it r)/\Md key la lb r)\/∃na nb lo mg ac bc,c=(none,na,nb,Am it lo,mg,ac,bc)/\Mh key la lb lo na nb/\(1<=na/\na<=la.length)/\(2<=nb/\nb<=lb.length)/\na+nb+x+2<=la.length+lb.length)) ?_ λc aj hc=>?_
    ·refine Ea (I:=λx2 c o=>Kp st o/\∃na nb lo mg ac bc,c=(none,na,nb,Am it lo,mg,ac,bc)/\Mh key la lb lo na nb/\(1<=na/\na<=la.length)/\(2<=nb/\nb<=lb.length)/\na+nb+x+2<=la.length+lb.length) (λx2 c aj _ bb hI=>?_) (λc aj hI=>?_) ⟨k3,na,nb,lo,_,_,_,rfl,m,Q,i2,i3⟩
     ·obtain⟨P,na,nb,lo,mg,ac,bc,rfl,m,Q,i2,i3⟩:=hI;have⟨b,eb,bn⟩:=ag (nb - 1) (by lia);refine Ai (λ_=>Ou (st0:=st) ⟨P.1,P.2,P.3,P.4⟩ λai u=>Bc eb ?_) (λ_=>Ou (st0:=st) ⟨P.1,P.2,P.3,P.4⟩ λai u=>Bc eb ?_)
      all_goals
       refine Av (Jh an au q bn (u.kind.trans ae) (by show 0+na<=_;lia) (by show na - 1<na;lia)) λr bf hr=>?_;obtain⟨rfl,k,rfl,q1,q2,q3⟩:=hr;have q1:k<=na:=q1;have mA:=m.as q q1 λy hy=>by have⟨j,ar,aq,e⟩:=mem_mid hy;exact Pq v eb (nJ (q3 j y (by lia) (by show j<0+na;lia) e))
       have T:∀x∈la.take k,kl key x b:=λx Z=>nH (q2 x Z);refine Ai (λhk=>Ai (λh=>?_) (λh=>?_)) (λhk=>?_)
       ·exact Aa ⟨u,.inl ⟨_,congrArg some (fJ lo la lb la k na k nb),mA.done q v (U (Nx h))⟩⟩
       ·have h:=M9 h;have Q:1<=k/\k<=la.length:=by lia
        have i3:k+nb+x+2<=la.length+lb.length:=by lia
        clear q2 q3 hk h q1 m;dsimp only;rw[Ol];generalize lo++((la.take na).drop k).reverse=bg,k=ba at *;refine Bc eb ?_;have mB:=mA.b1 v (by lia) eb T;refine Ai (λh=>?_) (λh=>?_)
        ·exact Aa ⟨u,.inl ⟨_,congrArg some (aR _ lb la b (nb - 1) _),mB.last q v (G (Nx h))⟩⟩
        have h:=M9 h;have⟨a,M,ab⟩:=z (ba - 1) (by lia);refine Bc M ?_;refine Av (Jh an af v ab (u.kind.trans ae) (by show 0+(nb - 1)<=_;lia) (by show nb - 1 - 1<nb - 1;lia)) λr ay hr=>?_;obtain⟨rfl,L,rfl,q1,q2,q3⟩:=hr;have q1:L<=nb - 1:=q1;have mC:=mB.bs v q1 λy hy=>by have⟨j,ar,aq,e⟩:=mem_mid hy;exact Pq q M (f9 (q3 j y (by lia) (by show j<0+(nb - 1);lia) e))
        have B:∀x∈lb.take L,kl key x a:=λx Z=>fZ (q2 x Z);refine Ai (λhk=>Ai (λh'=>?_) (λh'=>Ai (λh2=>?_) (λh2=>?_))) (λhk=>?_)
        ·exact Aa ⟨u,.inl ⟨_,congrArg some (by rw[Ad];exact fJ _ lb la lb L (nb - 1) L _),mC.last q v (G (Nx h'))⟩⟩
        ·exact Aa ⟨u,.inl ⟨_,congrArg some (by rw[Ad];exact fJ _ la lb lb L (nb - 1) _ L),mC.done q v (ao (Nx h2))⟩⟩
        ·have h':=M9 h';have h2:=M9 h2;have Y:=mC.a1 q (by lia) M B;refine Bc M (Ai (λh=>?_) (λh=>?_))
         ·exact Aa ⟨u,.inl ⟨_,congrArg some (by rw[Ad,Ol];exact aR _ la lb a _ L),Y.done q v (U (Nx h))⟩⟩
         have h:=M9 h;refine Ai (λ_=>?_) (λ_=>?_)
         ·exact Aa ⟨u,.inr ⟨_,_,_,_,_,_,by rw[Ad,Ol,Ad],Y,by lia,by lia,by lia⟩⟩
         ·exact Aa ⟨u,_,_,_,_,_,_,by rw[Ad,Ol,Ad],Y,by lia,by lia,by lia⟩
        ·have aa:L=nb - 1:=by have:¬ nb - 1 - L>0:=hk;lia
         subst aa;have Y:=mB.a1 q (by lia) M B;refine Bc M (Ai (λh=>?_) (λh=>?_))
         ·exact Aa ⟨u,.inl ⟨_,congrArg some (by rw[Ad];exact aR _ la lb a _ _),Y.done q v (U (Nx h))⟩⟩
         have h:=M9 h;refine Ai (λ_=>?_) (λ_=>?_)
         ·exact Aa ⟨u,.inr ⟨_,_,_,_,_,_,by rw[Ad,Ad],Y,by lia,by lia,by lia⟩⟩
         ·exact Aa ⟨u,_,_,_,_,_,_,by rw[Ad,Ad],Y,by lia,by lia,by lia⟩
       ·have aa:k=na:=by have:¬ na - k>0:=hk;lia
        rw[aa]at T;have mA:=m;dsimp only;refine Bc eb ?_;have mB:=mA.b1 v (by lia) eb T;refine Ai (λh=>?_) (λh=>?_)
        ·exact Aa ⟨u,.inl ⟨_,congrArg some (aR _ lb la b (nb - 1) _),mB.last q v (G (Nx h))⟩⟩
        have h:=M9 h;have⟨a,M,ab⟩:=z (na - 1) (by lia);refine Bc M ?_;refine Av (Jh an af v ab (u.kind.trans ae) (by show 0+(nb - 1)<=_;lia) (by show nb - 1 - 1<nb - 1;lia)) λr ay hr=>?_;obtain⟨rfl,L,rfl,q1,q2,q3⟩:=hr;have q1:L<=nb - 1:=q1;have mC:=mB.bs v q1 λy hy=>by have⟨j,ar,aq,e⟩:=mem_mid hy;exact Pq q M (f9 (q3 j y (by lia) (by show j<0+(nb - 1);lia) e))
        have B:∀x∈lb.take L,kl key x a:=λx Z=>fZ (q2 x Z);refine Ai (λhk=>Ai (λh'=>?_) (λh'=>Ai (λh2=>?_) (λh2=>?_))) (λhk=>?_)
        ·exact Aa ⟨u,.inl ⟨_,congrArg some (by rw[Ad];exact fJ _ lb la lb L (nb - 1) L _),mC.last q v (G (Nx h'))⟩⟩
        ·exact Aa ⟨u,.inl ⟨_,congrArg some (by rw[Ad];exact fJ _ la lb lb L (nb - 1) _ L),mC.done q v (ao (Nx h2))⟩⟩
        ·have h':=M9 h';have h2:=M9 h2;have Y:=mC.a1 q (by lia) M B;refine Bc M (Ai (λh=>?_) (λh=>?_))
         ·exact Aa ⟨u,.inl ⟨_,congrArg some (by rw[Ad,Ol];exact aR _ la lb a _ L),Y.done q v (U (Nx h))⟩⟩
         have h:=M9 h;refine Ai (λ_=>?_) (λ_=>?_)
         ·exact Aa ⟨u,.inr ⟨_,_,_,_,_,_,by rw[Ad,Ol,Ad],Y,by lia,by lia,by lia⟩⟩
         ·exact Aa ⟨u,_,_,_,_,_,_,by rw[Ad,Ol,Ad],Y,by lia,by lia,by lia⟩
        ·have aa:L=nb - 1:=by have:¬ nb - 1 - L>0:=hk;lia
         subst aa;have Y:=mB.a1 q (by lia) M B;refine Bc M (Ai (λh=>?_) (λh=>?_))
         ·exact Aa ⟨u,.inl ⟨_,congrArg some (by rw[Ad];exact aR _ la lb a _ _),Y.done q v (U (Nx h))⟩⟩
         have h:=M9 h;refine Ai (λ_=>?_) (λ_=>?_)
         ·exact Aa ⟨u,.inr ⟨_,_,_,_,_,_,by rw[Ad,Ad],Y,by lia,by lia,by lia⟩⟩
         ·exact Aa ⟨u,_,_,_,_,_,_,by rw[Ad,Ad],Y,by lia,by lia,by lia⟩
     ·obtain⟨P,na,nb,lo,mg,ac,bc,rfl,m,Q,i2,i3⟩:=hI;exact⟨P,.inr ⟨_,_,_,_,_,_,rfl,m,Q,i2,i3⟩⟩
    ·obtain⟨P,hc⟩:=hc;rcases hc with ⟨r,er,md⟩ | ⟨na,nb,lo,mg,ac,bc,rfl,m,Q,i2,i3⟩
     ·obtain⟨c1,c2⟩:=c;cases er;exact Aa ⟨P,r,rfl,md⟩
     ·exact Ou (st0:=st) ⟨P.1,P.2,P.3,P.4⟩ λai u=>Aa ⟨u,na,nb,lo,_,rfl,m,Q,i2,by lia⟩
  ·obtain⟨k2,na,nb,lo,mg,rfl,m,Q,i2,i3⟩:=hI;rw[za,zb]at i3;lia
 ·obtain⟨k,lo,e,md⟩:=hc;obtain⟨c1,c2⟩:=c;cases e;exact Aa ⟨k,lo,rfl,md⟩
end
variable {P M:List Nat}{pw:Nat}
section
variable {key:Nat->O.α}
def wp4{r:Type}{o:BW}{f:PUnit->StateT BW Sem r}{st:BW}{R:r->BW->Prop}(h:Tr prog w A E s (f ⟨⟩) o R):Tr prog w A E s (set o >>= f) st R:=λu Q q=>JM (by
 unfold kasC;rw[StateT.run_set];exact DN (h u Q q))
theorem Wi{X S:List Nat}{base:Nat}{st:BW}(an:Ans prog w A s κ it key F)(hl:∀x∈P++X++S,x<F)(L:Srt key X)(T:k<F)(B:kindOf st=κ)(eb:base=P.length)(en:n=X.length)(U:hint<n):
  Tr prog w A E s (pB left (DQ it k) (Am it (P++X++S)) base n hint) st (λr o=>o=st/\∃m,r=some m/\m<=n/\(∀x∈X.take m,bz key left k x=true)/\(∀y∈X.drop m,bz key left k y=false)):=by
 subst eb en;have at_:∀i,i<X.length->(P++X++S)[P.length+i]? = X[i]?:=λi hi=>by rw[NB,YT (by lia),qQ,YS hi]
 refine K4 (Zj (b:=λi=>bz key left k ((X[i]?).getD 0)) an hl T B (by rw[MK,MK];lia) U (λi x hi q=>by rw[at_ i hi]at q;rw[q];rfl) (λi j G u h=>?_)) λr o Q=>?_
 ·(try dsimp only at h ⊢)
  have v:i<X.length:=by lia
  rw[GK v];rw[GK u]at h;exact xV L G (GK v) (GK u) h
 ·obtain⟨rfl,m,rfl,v,Z,Y⟩:=Q;refine⟨rfl,m,rfl,v,λx q=>?_,λy I=>?_⟩
  ·have⟨i,hi,e⟩:=Ks q;have:=Z i hi
   (try dsimp only at this)
   rwa [e]at this
  ·have⟨j,u,e⟩:=Jp I;have:=Y j u (LR.mp e).1
   (try dsimp only at this)
   rwa [e]at this
theorem jj1(b:Nat):∀(o:List JV)(j:Nat)(Q Z R:List JV)(a:Array JV),a.toList=Q++Z++R->Q.length=b+j->Z.length=o.length ->
  ((o.zipIdx j).foldl (λa x=>a.setIfInBounds (b+x.2) x.1) a).toList=Q++o++R
 | [],j,Q,Z,R,a,h,_,q=>by have:Z=[]:=qP.mp q;rw[this]at h;exact h
 |x::o,j,Q,Z,R,a,h,r,q=>by
  cases Z with
  |nil=>simp at q
  |cons z Z =>
   rw[qD,lG];have e:=jj1 b o (j+1) (Q++[x]) Z R (a.setIfInBounds (b+j) x) (by
    rw[jFy,h,<-r,NB,jGw _ _ (F_ _),Nat.sub_self];simp) (by rw[MK];simp;lia) (by simpa using q)
   rw[e];simp
def kg6{Q Z R:List Nat}(o:b=Q.length)(h:Z.length=M.length):((Am it M).toList.zipIdx).foldl (λa x=>a.setIfInBounds (b+x.2) x.1) (Am it (Q++Z++R))=Am it (Q++M++R):=by apply ZD;have e:(Am it M).toList=M.map (DQ it):=rfl;rw[e,jj1 b (M.map (DQ it)) 0 (Q.map (DQ it)) (Z.map (DQ it)) (R.map (DQ it)) _ (by unfold Am;simp) (by simp[o]) (by simp[h])];unfold Am;simp
def je6{X Y v I G u:List Nat}(ex:X=v++I)(ey:Y=G++u)(sx:Srt key X)(Z:Srt key Y)(r:Md key I G M)(h1:∀x∈v,∀y∈Y,kl key x y)(B:∀x∈X,∀y∈u,kl key x y):Md key X Y (v++M++u):=by
 subst ex ey;refine⟨?_,?_⟩
 ·refine((r.1.append_left v).append_right u).trans ?_;simp
 ·have⟨U,x2,T⟩:=WQ.mp sx;have⟨y1,Q,L⟩:=WQ.mp Z;refine WQ.mpr ⟨WQ.mpr ⟨U,r.2,λx q y o=>?_⟩,Q,λx q y o=>?_⟩
  ·rcases KC.mp (r.1.mem_iff.mp o) with h |h
   ·exact T x q y h
   ·exact h1 x q y (ZJ _ h)
  ·rcases KC.mp q with h |h
   ·exact B x (ZJ _ h) y o
   ·rcases KC.mp (r.1.mem_iff.mp h) with h |h
    ·exact B x (TV _ h) y o
    ·exact L x h y o
def wc8{r:Type}(P:BW->Prop){o:BW}{f:PUnit->StateT BW Sem r}{st:BW}{R:r->BW->Prop}(h:P o)(u:∀q,P q->Tr prog w A E s (f ⟨⟩) q R):Tr prog w A E s (set o >>= f) st R:=wp4 (u _ h)
def jg7{X S:List Nat}(hi:i=P.length)(h:j=P.length+X.length):(Am it (P++X++S)).extract i j=Am it X:=by subst hi h;rw[Fx];congr 1;rw[NB,List.drop_left,List.take_left]
theorem jt1{X Y S:List Nat}{st:BW}{sa sb ah:Nat}(an:Ans prog w A s κ it key F)(hl:∀x∈P++X++Y++S,x<F)(T:Srt key X)(L:Srt key Y)(nx:1<=X.length)(ny:1<=Y.length)
  (U:kindOf st=κ)(B:KQ st=Am it (P++X++Y++S))(hf:HW st=none)(e1:(CN st)[i]? = some (sa,na,pw))(e2:(CN st)[i+1]? = some (sb,nb,ah))(ha:sa=P.length)(aq:na=X.length)(hb:sb=P.length+X.length)(ao:nb=Y.length):
  Tr prog w A E s (jF i) st (λr u=>r=true/\kindOf u=κ/\HW u=none/\CN u=((CN st).setIfInBounds i (sa,na+nb,pw)).eraseIdxIfInBounds (i+1)/\∃Z,KQ u=Am it (P++Z++S)/\Md key X Y Z):=by
 obtain⟨aa,a',ai,g',f'⟩:=st;have B:a'=Am it (P++X++Y++S):=B;subst B;have U:aa=κ:=U;have hf:f'=none:=hf;subst U hf;refine Jk ?_;rw[e1,e2];refine wc8 (P:=λu=>u=SortSt.mk' aa (Am it (P++X++Y++S)) ((ai.setIfInBounds i (sa,na+nb,pw)).eraseIdxIfInBounds (i+1)) g' none) rfl λag o=>?_;subst ha aq hb ao;have lx:∀x∈X,x<F:=λx v=>hl x (by simp[v]);have ly:∀x∈Y,x<F:=λx v=>hl x (by simp[v]);have gy:∀j,j<Y.length->(P++X++Y++S)[P.length+X.length+j]? = Y[j]?:=λj hj=>by rw[YS (by rw[MK,MK];lia),YT (by rw[MK];lia),MK,qQ]
 have gx:∀j,j<X.length->(P++X++Y++S)[P.length+j]? = X[j]?:=λj hj=>by rw[NB,NB,YT (by lia),qQ,YS hj]
 obtain⟨y0,G⟩:∃y,Y[0]? = some y:=⟨_,GK ny⟩;have aj:y0<F:=ly y0 (YQ G);refine Bc (l:=P++X++Y++S) (i:=P.length+X.length) ((gy 0 ny).trans G) ?_;have g1:=Wi (prog:=prog) (E:=E) (left:=false) (P:=P) (X:=X) (S:=Y++S) (st:=ag) (hint:=0) an (by rw[<-NB];exact hl) T aj (by rw[o]) rfl rfl nx;rw[<-NB]at g1;refine Av g1 λr af hr=>?_;obtain⟨rfl,k,rfl,q1,q2,q3⟩:=hr;have xy:∀x∈X.take k,∀y∈Y,kl key x y:=λx v y hy=>J8 L G (nH (q2 x v)) y hy;refine Ai (λh=>?_) (λh=>?_)
 ·have hk:X.length - k=0:=Nx h;rw[eF (by lia)]at xy;refine Aa ⟨rfl,by rw[o],by rw[o],by rw[o],X++Y,by rw[o,<-NB],List.Perm.refl _,WQ.mpr ⟨T,L,xy⟩⟩
 have hk:X.length - k≠0:=M9 h;obtain⟨x1,I⟩:∃x,X[X.length - 1]? = some x:=⟨_,GK (by lia)⟩;have ak:x1<F:=lx x1 (YQ I);refine Bc (l:=P++X++Y++S) (i:=P.length+k+(X.length - k) - 1) (k:=x1) ?_ ?_
 ·rw[show P.length+k+(X.length - k) - 1=P.length+(X.length - 1) by lia];exact(gx _ (by lia)).trans I
 have g2:=Wi (prog:=prog) (E:=E) (left:=true) (P:=P++X) (X:=Y) (S:=S) (st:=af) (base:=P.length+X.length) (hint:=Y.length - 1) an hl L ak (by rw[o]) (by rw[MK]) rfl (by lia);refine Av g2 λr ae hr=>?_;obtain⟨rfl,m,rfl,p1,p2,p3⟩:=hr;have ab:∀x∈X,∀y∈Y.drop m,kl key x y:=λx v y hy=>Pq T I (f9 (p3 y hy)) x (by rw[lL];exact v);refine Ai (λh=>?_) (λh=>?_)
 ·have hm:m=0:=Nx h;subst hm;refine Aa ⟨rfl,by rw[o],by rw[o],by rw[o],X++Y,by rw[o,<-NB],List.Perm.refl _,WQ.mpr ⟨T,L,ab⟩⟩
 have hm:m≠0:=M9 h;have eL:P++X++Y++S=(P++X.take k)++X.drop k++(Y++S):=by rw[NB P (X.take k),WT,<-NB]
 have eR:P++X++Y++S=(P++X)++Y.take m++(Y.drop m++S):=by rw[<-NB,NB (P++X) (Y.take m),WT]
 have eX:(Am it (P++X++Y++S)).extract (P.length+k) (P.length+X.length)=Am it (X.drop k):=by rw[eL];exact jg7 (by rw[MK,QJ];lia) (by rw[MK,QJ,TQ];lia)
 have eY:(Am it (P++X++Y++S)).extract (P.length+X.length) (P.length+X.length+m)=Am it (Y.take m):=by rw[eR];exact jg7 (by rw[MK]) (by rw[MK,QJ];lia)
 have first:∀a b,(X.drop k)[0]? = some a->(Y.take m)[0]? = some b->kl key b a:=λa b h1 h2=>by rw[qT (by lia),G]at h2;cases h2;exact nJ (q3 a (YQ h1))
 have top:∀x∈Y.take m,∀y,(X.drop k)[(X.drop k).length - 1]? = some y->kl key x y:=λx v y hy=>by rw[TQ,jHp,show k+(X.length - k - 1)=X.length - 1 by lia,I]at hy;cases hy;exact fZ (p2 x v)
 have l1:∀x∈X.drop k,x<F:=λx v=>lx x (d_ v);have l2:∀x∈Y.take m,x<F:=λx v=>ly x (eE v);have z1:1<=(X.drop k).length:=by rw[TQ];lia
 have z2:1<=(Y.take m).length:=by rw[QJ];lia
 have ml:=jt3 (prog:=prog) (E:=E) (st:=ae) an l1 l2 T.drop L.take z1 z2 first top (by rw[o])
 have mh:=jt2 (prog:=prog) (E:=E) (st:=ae) an l1 l2 T.drop L.take z1 z2 first top (by rw[o])
 rw[<-eX,<-eY]at ml mh;refine Ai (λ_=>Av ml λM q hM=>?_) (λ_=>Av mh λM q hM=>?_)
 all_goals
  obtain⟨kp,M,rfl,md⟩:=hM;have hz:(X.drop k++Y.take m).length=M.length:=md.1.length_eq.symm;refine Ka (Jk (Aa ⟨?_,?_,?_,?_,X.take k++M++Y.drop m,?_,je6 (WT k X).symm (WT m Y).symm T L md xy ab⟩))
  ·show(HW q).isNone=true;rw[kp.fail,o];rfl
  ·show kindOf q=_;rw[kp.kind,o]
  ·show HW q=_;rw[kp.fail,o]
  ·show CN q=_;rw[kp.pend,o]
  ·have ea:KQ q=Am it ((P++X.take k)++(X.drop k++Y.take m)++(Y.drop m++S)):=by rw[kp.arr,o];show Am it (P++X++Y++S)=_;congr 1;rw[eL];simp only[NB];rw[<-NB (Y.take m) (Y.drop m),WT]
   have ef:=kg6 (it:=it) (Q:=P++X.take k) (Z:=X.drop k++Y.take m) (R:=Y.drop m++S) (M:=M) (b:=P.length+k) (by rw[MK,QJ];lia) hz;rw[<-ea]at ef;refine Eq.trans ef ?_;congr 1;simp
end
variable {q:List Nat}{src:Nat}
section
variable {key:Nat->O.α}
structure At(it:Array JV)(st0 st:BW)(p:List Nat):Prop where
 kind:kindOf st=kindOf st0
 arr:KQ st=Am it p
 pend:CN st=CN st0
 fail:HW st=HW st0
def Fq{o:Type}{p:List Nat}{st0 st:BW}{f:Option Bool->StateT BW Sem o}{R:o->BW->Prop}(an:Ans prog w A s κ it key F)(hl:∀x∈p,x<F)(h:kindOf st0=κ)(a:At it st0 st p)(u:p[i]? = some x)(r:p[j]? = some y)
  (v:Tr prog w A E s (f (some (ltO key x y))) st R):Tr prog w A E s (ltAt' i j >>= f) st R:=by
 rw[ltAt'_eq];simp only[bind_assoc];refine Jk ?_;rw[a.arr];exact Bc u (Bc r (gA an (hl x (YQ u)) (hl y (YQ r)) (a.kind.trans h) v))
def Sg(key:Nat->O.α)(p:List Nat)(lo hi:Nat):Prop:=∀i j x y,lo<=i->i<=j->j<hi->p[i]? = some x->p[j]? = some y->kl key x y
def Lk(p q:List Nat)(lo hi:Nat):Prop:=q.Perm p/\∀i,i<lo\/hi<=i->q[i]? = p[i]?
def Lk.refl(p:List Nat)(lo hi:Nat):Lk p p lo hi:=⟨List.Perm.refl _,λ_ _=>rfl⟩
def Lk.trans{p r:List Nat}(o:Lk p q lo hi)(h:Lk q r lo hi):Lk p r lo hi:=⟨h.1.trans o.1,λi hi=>(h.2 i hi).trans (o.2 i hi)⟩
def Lk.lt{p:List Nat}(h:Lk p q lo hi)(hl:∀x∈p,x<F):∀x∈q,x<F:=λx o=>hl x (h.1.mem_iff.mp o)
def bub(p:List Nat)(src d:Nat):List Nat:=(lV p.toArray src d).toList
def wd7(p:List Nat)(src d:Nat):lV (Am it p) src d=Am it (bub p src d):=by
 have e:Am it p=p.toArray.map (DQ it):=by unfold Am;simp
 have h:Am it (bub p src d)=(lV p.toArray src d).map (DQ it):=by unfold Am bub;apply ZD;simp
 rw[e,h];exact kas_swaps_map (DQ it) (λk=>src - k) (λk=>src - k - 1) _ p.toArray
def xW{p:List Nat}{d:Nat}(h:src<p.length)(o:d<=src)(k:Nat):(bub p src d)[k]? = if k=src - d then p[src]? else if src - d<k/\k<=src then p[k - 1]? else p[k]?:=by have:=getElem?_bubble (xs:=p.toArray) (src:=src) (by simpa using h) d o k;unfold bub;rw[g_,this];simp
theorem wp9{p:List Nat}{d:Nat}(h:src<p.length)(u:lo<=src - d)(hd2:d<=src)(r:src<hi):Lk p (bub p src d) lo hi:=by
 refine⟨?_,λi o=>?_⟩
 ·have:=jFz.mp (bubble_perm p.toArray src d);simpa[bub] using this
 ·rw[xW h hd2,if_neg (by lia),if_neg (by lia)]
theorem wq0{p:List Nat}{l:Nat}(I:lo+k<p.length)(hl:l<=k)(u:p[lo+k]? = some x)(v:Sg key p lo (lo+k))(Q:∀i y,lo<=i->i<lo+l->p[i]? = some y->kl key y x)(L:∀i y,lo+l<=i->i<lo+k->p[i]? = some y->kl key x y):Sg key (bub p (lo+k) (k - l)) lo (lo+k+1):=by
 have g:=xW I (show k - l<=lo+k by lia);rw[show lo+k - (k - l)=lo+l by lia]at g;intro i j y z hi B Y o h;rw[g]at o h;by_cases G:i=lo+l
 ·rw[if_pos G,u]at o;cases o;by_cases r:j=lo+l
  ·rw[if_pos r,u]at h;cases h;exact KeyOrd.kle_refl _
  ·rw[if_neg r,if_pos (by lia)]at h;exact L (j - 1) z (by lia) (by lia) h
 ·rw[if_neg G]at o;by_cases U:lo+l<i
  ·rw[if_pos (by lia)]at o;rw[if_neg (by lia),if_pos (by lia)]at h;exact v (i - 1) (j - 1) y z (by lia) (by lia) (by lia) o h
  ·rw[if_neg (by lia)]at o;by_cases r:j=lo+l
   ·rw[if_pos r,u]at h;cases h;exact Q i y hi (by lia) o
   ·rw[if_neg r]at h;by_cases T:lo+l<j
    ·rw[if_pos (by lia)]at h;exact v i (j - 1) y z hi (by lia) (by lia) o h
    ·rw[if_neg (by lia)]at h;exact v i j y z hi B (by lia) o h
theorem ke7{ok:Nat}{p:List Nat}{st0 st:BW}(an:Ans prog w A s κ it key F)(hl:∀x∈p,x<F)(aa:kindOf st0=κ)(a:At it st0 st p)(hn:lo+n<=p.length)(af:ok<=n)(hs:Sg key p lo (lo+ok)):
  Tr prog w A E s (binarySort' lo n ok) st (λr o=>r=true/\∃q,Lk p q lo (lo+n)/\At it st0 o q/\Sg key q lo (lo+n)):=by
 rw[binarySort'_eq];refine Av (R:=λc o=>c.1=none/\∃q,Lk p q lo (lo+n)/\At it st0 o q/\Sg key q lo (lo+n)) ?_ λc o hc=>?_
 ·refine Ea (I:=λk c o=>c=(none,())/\∃q,Lk p q lo (lo+n)/\At it st0 o q/\Sg key q lo (lo+k)) (λk c o ah ag G=>?_) (λc o G=>?_) ⟨rfl,p,Lk.refl _ _ _,a,λi j x y hi ab hj ex ey=>?_⟩
  ·obtain⟨rfl,q,T,a',sg⟩:=G;have hq:q.length=p.length:=T.1.length_eq;have B:lo+k<q.length:=by lia
   obtain⟨x,hx⟩:∃x,q[lo+k]? = some x:=⟨_,GK B⟩;refine Av (R:=λc u=>∃l,c=(none,l,l)/\At it st0 u q/\l<=k/\(∀i y,lo<=i->i<lo+l->q[i]? = some y->kl key y x)/\(∀i y,lo+l<=i->i<lo+k->q[i]? = some y->kl key x y)) ?_ λc u hc=>?_
   ·refine Ea (I:=λx2 c u=>∃l r,c=(none,l,r)/\At it st0 u q/\l<=r/\r<=k/\r - l<=k - x2/\(∀i y,lo<=i->i<lo+l->q[i]? = some y->kl key y x)/\(∀i y,lo+r<=i->i<lo+k->q[i]? = some y->kl key x y)) (λx2 c u _ ae G=>?_) (λc u G=>?_) ⟨0,k,rfl,a',by lia,by lia,by lia,λi y L Q=>by lia,λi y L Q=>by lia⟩
    ·obtain⟨l,r,rfl,v,g1,g2,Z,Y,U⟩:=G;refine Ai (λh=>?_) (λh=>?_)
     ·have h:l≥r:=h;have e:r=l:=by lia
      subst e;exact Aa ⟨r,rfl,v,by lia,Y,U⟩
     ·have h:¬ l≥r:=h;obtain⟨y,hy⟩:∃y,q[lo+(l+r) / 2]? = some y:=⟨_,GK (by lia)⟩;refine Fq an (T.lt hl) aa v hx hy ?_;refine Ai (λh'=>?_) (λh'=>?_)
      ·refine Aa ⟨l,(l+r) / 2,rfl,v,by lia,by lia,by lia,Y,λi z L Q ez=>?_⟩;exact Gh (Gg h') (sg _ i y z (by lia) L Q hy ez)
      ·refine Aa ⟨(l+r) / 2+1,r,rfl,v,by lia,by lia,by lia,λi z L Q ez=>?_,U⟩;exact Gh (sg i _ z y L (by lia) (by lia) ez hy) (En (by simpa using h'))
    ·obtain⟨l,r,rfl,v,g1,g2,Z,Y,U⟩:=G;rw[show max 0 k=k by lia]at Z;have:r=l:=by lia
     subst this;exact⟨r,rfl,v,by lia,Y,U⟩
   ·obtain⟨l,rfl,v,g1,g2,Z⟩:=hc;refine Ka (Aa ⟨rfl,bub q (lo+k) (k - l),T.trans (wp9 B (by lia) (by lia) (by lia)),⟨v.kind,?_,v.pend,v.fail⟩,?_⟩)
    ·show lV (KQ u) (lo+k) (lo+k - (lo+l))=_;rw[v.arr,show lo+k - (lo+l)=k - l by lia,wd7]
    ·exact wq0 B g1 hx sg g2 Z
  ·obtain⟨rfl,q,T,a',sg⟩:=G;exact⟨rfl,q,T,a',λi j x y L Q h3=>sg i j x y L Q (by lia)⟩
  ·by_cases h:ok=0
   ·have e:i=j:=by lia
    subst e;rw[ex]at ey;cases ey;exact KeyOrd.kle_refl _
   ·exact hs i j x y hi ab (by lia) ex ey
 ·obtain⟨e,h⟩:=hc;obtain⟨c1,c2⟩:=c;cases e;exact Aa ⟨rfl,h⟩
end
variable {u v nrem:Nat}
section
variable {key:Nat->O.α}
def mir(p:List Nat)(i j:Nat):List Nat:=(jE p.toArray i j ((j - i) / 2)).toList
def wh6(p:List Nat)(i j:Nat):jE (Am it p) i j ((j - i) / 2)=Am it (mir p i j):=by
 have e:Am it p=p.toArray.map (DQ it):=by unfold Am;simp
 have h:Am it (mir p i j)=(jE p.toArray i j ((j - i) / 2)).map (DQ it):=by unfold Am mir;apply ZD;simp
 rw[e,h];exact kas_swaps_map (DQ it) (λk=>i+k) (λk=>j - 1 - k) _ p.toArray
def Pa{p:List Nat}(h:j<=p.length)(k:Nat):(mir p i j)[k]? = if i<=k/\k<j then p[i+j - 1 - k]? else p[k]?:=by have:=getElem?_mirror_all (xs:=p.toArray) (i:=i) (j:=j) (by simpa using h) k;unfold mir;rw[g_,this];simp
theorem Lz{p:List Nat}(B:lo<=i)(r:j<=hi)(h:j<=p.length):Lk p (mir p i j) lo hi:=by
 refine⟨?_,λk o=>?_⟩
 ·have:=jFz.mp (mirror_perm p.toArray i j ((j - i) / 2));simpa[mir] using this
 ·rw[Pa h,if_neg (by lia)]
def Ek(key:Nat->O.α)(p:List Nat)(i j:Nat):Prop:=∀a b x y,i<=a->a<j->i<=b->b<j->p[a]? = some x->p[b]? = some y->key x=key y
def Ds(key:Nat->O.α)(p:List Nat)(lo hi:Nat):Prop:=∀a b x y,lo<=a->a<=b->b<hi->p[a]? = some x->p[b]? = some y->kl key y x
theorem Ly{p:List Nat}(B:j<=p.length)(G:Ek key p i j){a:Nat}(h:(mir p i j)[a]? = some x):∃r,p[a]? = some r/\key r=key x:=by
 rw[Pa B]at h;by_cases c:i<=a/\a<j
 ·rw[if_pos c]at h;have o:a<p.length:=by lia
  exact⟨_,GK o,G a _ _ _ c.1 c.2 (by lia) (by lia) (GK o) h⟩
 ·rw[if_neg c]at h;exact⟨x,h,rfl⟩
def jX{p:List Nat}(r:j<=p.length)(B:Ek key p i j)(T:Ds key p lo hi):Ds key (mir p i j) lo hi:=λa b x y Z Y U ex ey=>by have⟨I,o,Q⟩:=Ly r B ex;have⟨G,h,L⟩:=Ly r B ey;have:=T a b I G Z Y U o h;unfold kl at this ⊢;rwa [Q,L]at this
theorem jW{p:List Nat}(o:hi<=p.length)(r:Ds key p lo hi):Sg key (mir p lo hi) lo hi:=λa b x y I G B ex h=>by rw[Pa o,if_pos (by lia)]at ex h;exact r _ _ y x (by lia) (by lia) (by lia) h ex
theorem wx9{p:List Nat}(r:Sg key p lo (lo+n))(U:1<=n)(T:p[lo+n - 1]? = some u)(G:p[lo+n]? = some v)(h:kl key u v):Sg key p lo (lo+n+1):=λa b x y B Q Y ex o=>by
 by_cases I:b=lo+n
 ·rw[I,G]at o;cases o;by_cases L:a=lo+n
  ·rw[L,G]at ex;cases ex;exact KeyOrd.kle_refl _
  ·exact Gh (r a (lo+n - 1) x u B (by lia) (by lia) ex T) h
 ·exact r a b x y B Q (by lia) ex o
theorem Nu{p:List Nat}(r:Ds key p lo (lo+n))(U:1<=n)(T:p[lo+n - 1]? = some u)(G:p[lo+n]? = some v)(h:kl key v u):Ds key p lo (lo+n+1):=λa b x y B Q Y ex o=>by
 by_cases I:b=lo+n
 ·rw[I,G]at o;cases o;by_cases L:a=lo+n
  ·rw[L,G]at ex;cases ex;exact KeyOrd.kle_refl _
  ·exact Gh h (r a (lo+n - 1) x u B (by lia) (by lia) ex T)
 ·exact r a b x y B Q (by lia) ex o
theorem wy0(p:List Nat)(lo:Nat):Sg key p lo (lo+1):=λa b x y B r o ex h=>by rw[show a=b by lia,h]at ex;cases ex;exact KeyOrd.kle_refl _
theorem V6(p:List Nat)(lo:Nat):Ek key p lo (lo+1):=λa b x y G B r o ex h=>by rw[show a=b by lia,h]at ex;cases ex;rfl
theorem ji7{p:List Nat}(h:Ek key p lo hi):Ds key p lo hi:=λa b x y r G o ex B=>by have:=h a b x y r (by lia) (by lia) o ex B;unfold kl;rw[this];exact KeyOrd.kle_refl _
def K5{r:Type}{p:List Nat}{st0 st:BW}{f:PUnit->StateT BW Sem r}{R:r->BW->Prop}(a:At it st0 st p)(h:∀o,At it st0 o (mir p i j)->Tr prog w A E s (f ⟨⟩) o R):Tr prog w A E s (reverseSlice' i j >>= f) st R:=by rw[reverseSlice'_eq];refine Ka (h _ ⟨a.kind,?_,a.pend,a.fail⟩);show jE (KQ st) i j ((j - i) / 2)=_;rw[a.arr,wh6]
abbrev AS1:=Option (Option Nat)×Nat
theorem Nj{a:Nat}{st0 st:BW}{f:Nat->AS1->StateT BW Sem (ForInStep AS1)}
  (hf:∀x n o u v,At it st0 o q->q[lo+n - 1]? = some u->q[lo+n]? = some v->Tr prog w A E s (f x (none,n)) o (λr G=>At it st0 G q/\r=if ltO key v u=true then .done (none,n) else .yield (none,n+1)))
  (at_:At it st0 st q)(h1:1<=a)(h2:a<=nrem)(hz:lo+nrem<=q.length)(hs:Sg key q lo (lo+a)):
  Tr prog w A E s (forIn [a:nrem] ((none,a):AS1) f) st (λc B=>∃m,c=(none,m)/\At it st0 B q/\a<=m/\m<=nrem/\Sg key q lo (lo+m)/\(m<nrem->∃u v,q[lo+m - 1]? = some u/\q[lo+m]? = some v/\ltO key v u=true)):=by
 refine Ea (I:=λx c B=>c=(none,x)/\At it st0 B q/\Sg key q lo (lo+x)) (λx c o L aa Q=>?_) (λc o Q=>?_) ⟨rfl,at_,hs⟩
 ·obtain⟨rfl,Y,sg⟩:=Q;obtain⟨u,U⟩:∃u,q[lo+x - 1]? = some u:=⟨_,GK (by lia)⟩;obtain⟨v,T⟩:∃v,q[lo+x]? = some v:=⟨_,GK (by lia)⟩;refine K4 (hf x x o u v Y U T) λr G hr=>?_;obtain⟨Z,rfl⟩:=hr;by_cases h:ltO key v u=true
  ·rw[if_pos h];exact⟨x,rfl,Z,L,by lia,sg,λ_=>⟨u,v,U,T,h⟩⟩
  ·rw[if_neg h];exact⟨rfl,Z,wx9 sg (by lia) U T (En (by simpa using h))⟩
 ·obtain⟨rfl,Y,sg⟩:=Q;exact⟨_,rfl,Y,by lia,by lia,sg,λh=>by lia⟩
end
section
variable {key:Nat->O.α}
def wu3{p:List Nat}(B:j<=p.length)(G:Ek key p i j){a:Nat}(h:Ek key p a b):Ek key (mir p i j) a b:=λc d x y h1 Z Y U ex ey=>by have⟨L,r,T⟩:=Ly B G ex;have⟨I,o,Q⟩:=Ly B G ey;rw[<-T,<-Q];exact h c d L I h1 Z Y U r o
theorem ko2{p:List Nat}{st0 st:BW}(an:Ans prog w A s κ it key F)(hl:∀x∈p,x<F)(aa:kindOf st0=κ)(a:At it st0 st p)(h1:1<=nrem)(hz:lo+nrem<=p.length):
  Tr prog w A E s (countRun' lo nrem) st (λr ab=>∃m q,r=some m/\1<=m/\m<=nrem/\Lk p q lo (lo+nrem)/\At it st0 ab q/\Sg key q lo (lo+m)):=by
 refine Av (Nj (key:=key) (q:=p) (λx n ai u v Y L T=>?_) a (F_ 1) h1 hz (wy0 p lo)) λc ai hc=>?_
 ·refine Fq an hl aa Y T L ?_;refine Ai (λh=>?_) (λh=>?_)
  ·exact Aa ⟨Y,by rw[if_pos h]⟩
  ·exact Aa ⟨Y,by rw[if_neg h]⟩
 obtain⟨m,rfl,Y,m1,m2,sg,hb⟩:=hc;refine Ai (λh=>?_) (λh=>?_)
 ·exact Aa ⟨m,p,rfl,m1,m2,Lk.refl _ _ _,Y,sg⟩
 have hm:m≠nrem:=M9 h;have⟨u,v,L,T,bc⟩:=hb (by lia);obtain⟨x0,bf⟩:∃x,p[lo]? = some x:=⟨_,GK (by lia)⟩;refine Ai (λh=>Fq an hl aa Y bf L (Ai (λh'=>?_) (λh'=>K5 Y λbo a3=>?_))) (λh=>?_)
 ·exact Aa ⟨m,p,rfl,m1,m2,Lk.refl _ _ _,Y,sg⟩
 ·have ek:Ek key p lo (lo+m):=λc d x y c1 c2 d1 d2 ex ey=>by
   have au:∀c x,lo<=c->c<lo+m->p[c]? = some x->key x=key x0:=λc x c1 c2 ex =>
    KeyOrd.kle_antisymm (Gh (sg c (lo+m - 1) x u c1 (by lia) (by lia) ex L) (En (by simpa using h'))) (sg lo c x0 x (F_ _) c1 c2 bf ex)
   rw[au c x c1 c2 ex,au d y d1 d2 ey]
  have Q:lo+m<=p.length:=by lia
  have B:Lk p (mir p lo (lo+m)) lo (lo+nrem):=Lz (F_ _) (by lia) Q;have aq:=wu3 Q ek ek;have af:(mir p lo (lo+m))[lo+m]? = some v:=by rw[Pa Q,if_neg (by lia)];exact T
  obtain⟨u2,U⟩:∃x,(mir p lo (lo+m))[lo+m - 1]? = some x:=⟨_,GK (by rw[B.1.length_eq];lia)⟩;have ku:kl key v u2:=by have⟨u',ag,k'⟩:=Ly Q ek U;rw[L]at ag;cases ag;have:=Gg bc;unfold kl at this ⊢;rwa [k']at this
  generalize mir p lo (lo+m)=q at *;have bb:Ds key q lo (lo+(m+1)):=Nu (ji7 aq) m1 U af ku;have ba:Ek key q (lo+(m+1) - (0+1)) (lo+(m+1)):=by rw[show lo+(m+1) - (0+1)=lo+m by lia];exact V6 q (lo+m)
  refine K6 ?_;refine Av (R:=λc ab=>∃n o q,c=(none,n,o)/\Lk p q lo (lo+nrem)/\At it st0 ab q/\m+1<=n/\n<=nrem/\o+1<=n/\Ds key q lo (lo+n)/\Ek key q (lo+n - (o+1)) (lo+n)) ?_ λc ao hc=>?_
  ·refine Ea (I:=λx c ab=>∃o q,c=(none,x,o)/\Lk p q lo (lo+nrem)/\At it st0 ab q/\o+1<=x/\Ds key q lo (lo+x)/\Ek key q (lo+x - (o+1)) (lo+x)) (λx c ao az bh hI=>?_) (λc ao hI=>?_) ⟨0,q,rfl,B,a3,by lia,bb,ba⟩
   ·obtain⟨o,q,rfl,B,a4,g1,ds,ek⟩:=hI;have zq:q.length=p.length:=B.1.length_eq;obtain⟨u,L⟩:∃u,q[lo+x - 1]? = some u:=⟨_,GK (by lia)⟩;obtain⟨v,T⟩:∃v,q[lo+x]? = some v:=⟨_,GK (by lia)⟩;refine Fq an (B.lt hl) aa a4 T L ?_;refine Ai (λh=>?_) (λh=>?_)
    ·have ae:=Gg h;have ar:∀q:List Nat,Ek key q (lo+(x+1) - (0+1)) (lo+(x+1)):=λq=>by rw[show lo+(x+1) - (0+1)=lo+x by lia];exact V6 q (lo+x)
     refine Ai (λh'=>K5 a4 λay a5=>?_) (λh'=>?_)
     ·have Q:lo+x<=q.length:=by lia
      have Z:Lk q (mir q (lo+x - (o+1)) (lo+x)) lo (lo+nrem):=Lz (by lia) (by lia) Q;obtain⟨u2,U⟩:∃y,(mir q (lo+x - (o+1)) (lo+x))[lo+x - 1]? = some y:=⟨_,GK (by rw[Z.1.length_eq];lia)⟩;have af:(mir q (lo+x - (o+1)) (lo+x))[lo+x]? = some v:=by rw[Pa Q,if_neg (by lia)];exact T
      have ku:kl key v u2:=by have⟨u',ag,k'⟩:=Ly Q ek U;rw[L]at ag;cases ag;have:=ae;unfold kl at this ⊢;rwa [k']at this
      exact Aa ⟨0,_,rfl,B.trans Z,a5,by lia,Nu (jX Q ek ds) (by lia) U af ku,ar _⟩
     ·exact Aa ⟨0,q,rfl,B,a4,by lia,Nu ds (by lia) L T ae,ar _⟩
    ·refine Fq an (B.lt hl) aa a4 L T ?_;refine Ai (λh'=>?_) (λh'=>?_)
     ·exact Aa ⟨x,o,q,rfl,B,a4,az,by lia,g1,ds,ek⟩
     ·have e:key v=key u:=O.total _ _ (by simpa using h) (by simpa using h');have ae:kl key v u:=by unfold kl;rw[e];exact KeyOrd.kle_refl _
      refine Aa ⟨o+1,q,rfl,B,a4,by lia,Nu ds (by lia) L T ae,?_⟩;rw[show lo+(x+1) - (o+1+1)=lo+x - (o+1) by lia];have ak:∀c y,lo+x - (o+1)<=c->c<lo+(x+1)->q[c]? = some y->key y=key u:=λc y c1 c2 ec=>by
       by_cases hc:c=lo+x
       ·rw[hc,T]at ec;cases ec;exact e
       ·exact ek c (lo+x - 1) y u c1 (by lia) (by lia) (by lia) ec L
      exact λc d y z c1 c2 d1 d2 ec ed=>(ak c y c1 c2 ec).trans (ak d z d1 d2 ed).symm
   ·obtain⟨o,q,rfl,B,a4,g1,ds,ek⟩:=hI;exact⟨_,o,q,rfl,B,a4,by lia,by lia,g1,ds,ek⟩
  obtain⟨n,o,q,rfl,B,a4,n1,n2,g1,ds,ek⟩:=hc;have zq:q.length=p.length:=B.1.length_eq;have Q:lo+n<=q.length:=by lia
  refine Ai (λh'=>K5 a4 λay a5=>K5 a5 λax a6=>?_) (λh'=>K5 a4 λax a6=>?_)
  ·have Z:Lk q (mir q (lo+n - (o+1)) (lo+n)) lo (lo+nrem):=Lz (by lia) (by lia) Q;have aj:lo+n<=(mir q (lo+n - (o+1)) (lo+n)).length:=by rw[Z.1.length_eq];exact Q
   have G:=(B.trans Z).trans (Lz (i:=lo) (j:=lo+n) (hi:=lo+nrem) (F_ lo) (by lia) aj);have ah:=jW aj (jX Q ek ds);generalize mir (mir q (lo+n - (o+1)) (lo+n)) lo (lo+n)=r at *;refine Av (Nj (key:=key) (q:=r) (λx n ai u v Y L T=>?_) a6 (by lia) n2 (by rw[G.1.length_eq];exact hz) ah) λc aw hc=>?_
   ·refine Fq an (G.lt hl) aa Y T L ?_;refine Ai (λh=>?_) (λh=>?_)
    ·exact Aa ⟨Y,by rw[if_pos h]⟩
    ·exact Aa ⟨Y,by rw[if_neg h]⟩
   obtain⟨k,rfl,a7,k1,k2,sg,_⟩:=hc;exact Aa ⟨k,r,rfl,by lia,k2,G,a7,sg⟩
  ·have G:=B.trans (Lz (i:=lo) (j:=lo+n) (hi:=lo+nrem) (F_ lo) (by lia) Q);have ah:=jW Q ds;generalize mir q lo (lo+n)=r at *;refine Av (Nj (key:=key) (q:=r) (λx n ai u v Y L T=>?_) a6 (by lia) n2 (by rw[G.1.length_eq];exact hz) ah) λc aw hc=>?_
   ·refine Fq an (G.lt hl) aa Y T L ?_;refine Ai (λh=>?_) (λh=>?_)
    ·exact Aa ⟨Y,by rw[if_pos h]⟩
    ·exact Aa ⟨Y,by rw[if_neg h]⟩
   obtain⟨k,rfl,a7,k1,k2,sg,_⟩:=hc;exact Aa ⟨k,r,rfl,by lia,k2,G,a7,sg⟩
 ·have bj:m=1:=by have:¬ m>1:=h;lia
  have aq:Ek key p lo (lo+m):=by rw[bj];exact V6 p lo
  have B:Lk p p lo (lo+nrem):=Lk.refl _ _ _;obtain⟨q,hq⟩:∃q,q=p:=⟨p,rfl⟩;have ku:=Gg bc;have a3:=Y;have U:=L;have af:=T;have bg:=B;clear hb h
  replace B:Lk p q lo (lo+nrem):=by rw[hq];exact bg
  replace aq:Ek key q lo (lo+m):=by rw[hq];exact aq
  replace a3:At it st0 ai q:=by rw[hq];exact a3
  replace U:q[lo+m - 1]? = some u:=by rw[hq];exact U
  replace af:q[lo+m]? = some v:=by rw[hq];exact af
  have bb:Ds key q lo (lo+(m+1)):=Nu (ji7 aq) m1 U af ku;have ba:Ek key q (lo+(m+1) - (0+1)) (lo+(m+1)):=by rw[show lo+(m+1) - (0+1)=lo+m by lia];exact V6 q (lo+m)
  refine K6 ?_;refine Av (R:=λc ab=>∃n o q,c=(none,n,o)/\Lk p q lo (lo+nrem)/\At it st0 ab q/\m+1<=n/\n<=nrem/\o+1<=n/\Ds key q lo (lo+n)/\Ek key q (lo+n - (o+1)) (lo+n)) ?_ λc ao hc=>?_
  ·refine Ea (I:=λx c ab=>∃o q,c=(none,x,o)/\Lk p q lo (lo+nrem)/\At it st0 ab q/\o+1<=x/\Ds key q lo (lo+x)/\Ek key q (lo+x - (o+1)) (lo+x)) (λx c ao az bh hI=>?_) (λc ao hI=>?_) ⟨0,q,rfl,B,a3,by lia,bb,ba⟩
   ·obtain⟨o,q,rfl,B,a4,g1,ds,ek⟩:=hI;have zq:q.length=p.length:=B.1.length_eq;obtain⟨u,L⟩:∃u,q[lo+x - 1]? = some u:=⟨_,GK (by lia)⟩;obtain⟨v,T⟩:∃v,q[lo+x]? = some v:=⟨_,GK (by lia)⟩;refine Fq an (B.lt hl) aa a4 T L ?_;refine Ai (λh=>?_) (λh=>?_)
    ·have ae:=Gg h;have ar:∀q:List Nat,Ek key q (lo+(x+1) - (0+1)) (lo+(x+1)):=λq=>by rw[show lo+(x+1) - (0+1)=lo+x by lia];exact V6 q (lo+x)
     refine Ai (λh'=>K5 a4 λay a5=>?_) (λh'=>?_)
     ·have Q:lo+x<=q.length:=by lia
      have Z:Lk q (mir q (lo+x - (o+1)) (lo+x)) lo (lo+nrem):=Lz (by lia) (by lia) Q;obtain⟨u2,U⟩:∃y,(mir q (lo+x - (o+1)) (lo+x))[lo+x - 1]? = some y:=⟨_,GK (by rw[Z.1.length_eq];lia)⟩;have af:(mir q (lo+x - (o+1)) (lo+x))[lo+x]? = some v:=by rw[Pa Q,if_neg (by lia)];exact T
      have ku:kl key v u2:=by have⟨u',ag,k'⟩:=Ly Q ek U;rw[L]at ag;cases ag;have:=ae;unfold kl at this ⊢;rwa [k']at this
      exact Aa ⟨0,_,rfl,B.trans Z,a5,by lia,Nu (jX Q ek ds) (by lia) U af ku,ar _⟩
     ·exact Aa ⟨0,q,rfl,B,a4,by lia,Nu ds (by lia) L T ae,ar _⟩
    ·refine Fq an (B.lt hl) aa a4 L T ?_;refine Ai (λh'=>?_) (λh'=>?_)
     ·exact Aa ⟨x,o,q,rfl,B,a4,az,by lia,g1,ds,ek⟩
     ·have e:key v=key u:=O.total _ _ (by simpa using h) (by simpa using h');have ae:kl key v u:=by unfold kl;rw[e];exact KeyOrd.kle_refl _
      refine Aa ⟨o+1,q,rfl,B,a4,by lia,Nu ds (by lia) L T ae,?_⟩;rw[show lo+(x+1) - (o+1+1)=lo+x - (o+1) by lia];have ak:∀c y,lo+x - (o+1)<=c->c<lo+(x+1)->q[c]? = some y->key y=key u:=λc y c1 c2 ec=>by
       by_cases hc:c=lo+x
       ·rw[hc,T]at ec;cases ec;exact e
       ·exact ek c (lo+x - 1) y u c1 (by lia) (by lia) (by lia) ec L
      exact λc d y z c1 c2 d1 d2 ec ed=>(ak c y c1 c2 ec).trans (ak d z d1 d2 ed).symm
   ·obtain⟨o,q,rfl,B,a4,g1,ds,ek⟩:=hI;exact⟨_,o,q,rfl,B,a4,by lia,by lia,g1,ds,ek⟩
  obtain⟨n,o,q,rfl,B,a4,n1,n2,g1,ds,ek⟩:=hc;have zq:q.length=p.length:=B.1.length_eq;have Q:lo+n<=q.length:=by lia
  refine Ai (λh'=>K5 a4 λay a5=>K5 a5 λax a6=>?_) (λh'=>K5 a4 λax a6=>?_)
  ·have Z:Lk q (mir q (lo+n - (o+1)) (lo+n)) lo (lo+nrem):=Lz (by lia) (by lia) Q;have aj:lo+n<=(mir q (lo+n - (o+1)) (lo+n)).length:=by rw[Z.1.length_eq];exact Q
   have G:=(B.trans Z).trans (Lz (i:=lo) (j:=lo+n) (hi:=lo+nrem) (F_ lo) (by lia) aj);have ah:=jW aj (jX Q ek ds);generalize mir (mir q (lo+n - (o+1)) (lo+n)) lo (lo+n)=r at *;refine Av (Nj (key:=key) (q:=r) (λx n ai u v Y L T=>?_) a6 (by lia) n2 (by rw[G.1.length_eq];exact hz) ah) λc aw hc=>?_
   ·refine Fq an (G.lt hl) aa Y T L ?_;refine Ai (λh=>?_) (λh=>?_)
    ·exact Aa ⟨Y,by rw[if_pos h]⟩
    ·exact Aa ⟨Y,by rw[if_neg h]⟩
   obtain⟨k,rfl,a7,k1,k2,sg,_⟩:=hc;exact Aa ⟨k,r,rfl,by lia,k2,G,a7,sg⟩
  ·have G:=B.trans (Lz (i:=lo) (j:=lo+n) (hi:=lo+nrem) (F_ lo) (by lia) Q);have ah:=jW Q ds;generalize mir q lo (lo+n)=r at *;refine Av (Nj (key:=key) (q:=r) (λx n ai u v Y L T=>?_) a6 (by lia) n2 (by rw[G.1.length_eq];exact hz) ah) λc aw hc=>?_
   ·refine Fq an (G.lt hl) aa Y T L ?_;refine Ai (λh=>?_) (λh=>?_)
    ·exact Aa ⟨Y,by rw[if_pos h]⟩
    ·exact Aa ⟨Y,by rw[if_neg h]⟩
   obtain⟨k,rfl,a7,k1,k2,sg,_⟩:=hc;exact Aa ⟨k,r,rfl,by lia,k2,G,a7,sg⟩
end
variable {pre:List (Nat×Nat×Nat)}
section
variable {key:Nat->O.α}
def Runs(key:Nat->O.α)(p:List Nat):List (Nat×Nat×Nat)->Nat->Nat->Prop
 | [],a,b=>a=b
 |x::r,a,b=>x.1=a/\1<=x.2.1/\Sg key p a (a+x.2.1)/\Runs key p r (a+x.2.1) b
theorem Sg.like{p:List Nat}(h:Sg key p lo hi)(e:∀i,lo<=i->i<hi->q[i]? = p[i]?):Sg key q lo hi:=λi j x y r B o ex G =>
 h i j x y r B o (by rw[<-e i r (by lia)];exact ex) (by rw[<-e j (by lia) o];exact G)
theorem Runs.le{p:List Nat}:∀{r:List (Nat×Nat×Nat)}{a b:Nat},Runs key p r a b->a+r.length<=b
 | [],a,b,h=>by have:a=b:=h;simp;lia
 |x::r,a,b,h=>by have:=Runs.le h.2.2.2;have:=h.2.1;rw[MJ];lia
theorem Runs.like{p q:List Nat}:∀{r:List (Nat×Nat×Nat)}{a b:Nat},Runs key p r a b->(∀i,a<=i->i<b->q[i]? = p[i]?)->Runs key q r a b
 | [],a,b,h,_=>h
 |x::r,a,b,h,e=>by have G:=Runs.le h.2.2.2;exact⟨h.1,h.2.1,h.2.2.1.like λi B o=>e i B (by lia),Runs.like h.2.2.2 λi B o=>e i (by lia) o⟩
def Ju{p:List Nat}:∀{r t:List (Nat×Nat×Nat)}{a b:Nat},Runs key p (r++t) a b↔∃c,Runs key p r a c/\Runs key p t c b
 | [],t,a,b=>⟨λh=>⟨a,rfl,h⟩,λ⟨c,o,B⟩=>by have:a=c:=o;rw[this];exact B⟩
 |x::r,t,a,b=>by
  constructor
  ·intro h;obtain⟨c,o,B⟩:=Ju.mp h.2.2.2;exact⟨c,⟨h.1,h.2.1,h.2.2.1,o⟩,B⟩
  ·rintro⟨c,o,B⟩;exact⟨o.1,o.2.1,o.2.2.1,Ju.mpr ⟨c,o.2.2.2,B⟩⟩
def Runs.push{p:List Nat}{r:List (Nat×Nat×Nat)}(h:Runs key p r 0 lo)(B:1<=n)(o:Sg key p lo (lo+n)):Runs key p (r++[(lo,n,pw)]) 0 (lo+n):=Ju.mpr ⟨lo,h,rfl,B,o,rfl⟩
theorem wy5{X S:List Nat}(h:Srt key X):Sg key (P++X++S) P.length (P.length+X.length):=λi j x y o G B ex r=>by
 have g:∀i,P.length<=i->i<P.length+X.length->(P++X++S)[i]? = X[i - P.length]?:=λi o G=>by rw[NB,YT o,YS (by lia)]
 rw[g i o (by lia)]at ex;rw[g j (by lia) B]at r;exact Pj h (by lia) ex r
theorem uC{p:List Nat}(h:Sg key p lo (lo+n)):Srt key ((p.drop lo).take n):=by rw[Srt,iB];intro i j hi o r;rw[QJ,TQ]at hi o;rw[cI,gV,cI,gV];exact h (lo+i) (lo+j) _ _ (by lia) (by lia) (by lia) (GK (by lia)) (GK (by lia))
theorem wi8{o:Type}(pre post:List o)(x y z:o):((pre++x::y::post).toArray.setIfInBounds pre.length z).eraseIdxIfInBounds (pre.length+1)=(pre++z::post).toArray:=by
 have h:pre.length+1<((pre++x::y::post).toArray.setIfInBounds pre.length z).size:=by simp
 unfold Array.eraseIdxIfInBounds;rw[dif_pos h];apply ZD;rw[Array.toList_eraseIdx,jFy];show((pre++x::y::post).set pre.length z).eraseIdx (pre.length+1)=pre++z::post;rw[jGw _ _ (F_ _),Nat.sub_self];show(pre++z::y::post).eraseIdx (pre.length+1)=_;rw[List.eraseIdx_append_of_length_le (by lia)];simp
theorem jt4{p:List Nat}{st:BW}{post:List (Nat×Nat×Nat)}{x y:Nat×Nat×Nat}(an:Ans prog w A s κ it key F)(hl:∀x∈p,x<F)(aa:kindOf st=κ)(L:KQ st=Am it p)(hf:HW st=none)(hp:CN st=(pre++x::y::post).toArray)(hi:i=pre.length)(hb:b<=p.length)
  (hr:Runs key p (pre++x::y::post) 0 b):
  Tr prog w A E s (jF i) st (λr G=>r=true/\kindOf G=κ/\HW G=none/\∃q z,CN G=(pre++z::post).toArray/\KQ G=Am it q/\q.Perm p/\(∀j,b<=j->q[j]? = p[j]?)/\Runs key q (pre++z::post) 0 b):=by
 have⟨c,r1,r2⟩:=Ju.mp hr
 obtain⟨T,o,x3⟩:=x
 obtain⟨y1,B,y3⟩:=y
 obtain⟨ex,hx,sx,ey,hy,U,Q⟩:=r2
 have ex:T=c:=ex
 have ey:y1=c+o:=ey
 have hx:1<=o:=hx
 have hy:1<=B:=hy
 have sx:Sg key p c (c+o):=sx
 have U:Sg key p (c+o) (c+o+B):=U
 have Q:Runs key p post (c+o+B) b:=Q
 have ab:c+o+B<=b:=by have:=Q.le;lia
 have ep:p.take c++(p.drop c).take o++(p.drop (c+o)).take B++p.drop (c+o+B)=p:=by
  rw[<-pW,<-pW,WT]
 have lP:(p.take c).length=c:=by rw[QJ];lia
 have lX:((p.drop c).take o).length=o:=by rw[QJ,TQ];lia
 have lY:((p.drop (c+o)).take B).length=B:=by rw[QJ,TQ];lia
 have g1:(CN st)[i]? = some (T,o,x3):=by rw[hp,hi];simp
 have g2:(CN st)[i+1]? = some (y1,B,y3):=by rw[hp,hi];simp
 refine K4 (jt1 (P:=p.take c) (X:=(p.drop c).take o) (Y:=(p.drop (c+o)).take B) (S:=p.drop (c+o+B)) an (by rw[ep];exact hl) (uC sx) (uC U) (by lia) (by lia) aa (by rw[ep];exact L) hf g1 g2 (by rw[lP];exact ex) lX.symm (by rw[lP,lX];exact ey) lY.symm) λr G h=>?_
 obtain⟨rfl,k1,k2,k3,Z,ea,md⟩:=h
 have lZ:Z.length=o+B:=by rw[md.1.length_eq,MK,lX,lY]
 have gq:∀j,j<c\/c+o+B<=j->(p.take c++Z++p.drop (c+o+B))[j]? = p[j]?:=λj I=>by
  rcases I with I |I
  ·rw[YS (by rw[MK];lia),YS (by lia),qT I]
  ·rw[YT (by rw[MK];lia),MK,jHp]
   congr 1
   lia
 refine⟨rfl,k1,k2,_,(T,o+B,x3),?_,ea,?_,λj I=>gq j (by lia),?_⟩
 ·rw[k3,hp,hi,wi8]
 ·conv=>rhs;rw[<-ep]
  refine List.Perm.append_right _ ?_
  rw[NB]
  exact md.1.append_left _
 ·have sz:=wy5 (P:=p.take c) (S:=p.drop (c+o+B)) md.2
  rw[lP,lZ]at sz
  refine Ju.mpr ⟨c,r1.like λj _ I=>gq j (.inl I),ex,by show 1<=o+B;lia,sz,?_⟩
  show Runs key _ post (c+(o+B)) b
  rw[<-Nat.add_assoc]
  exact Q.like λj I _=>gq j (.inr I)
end
variable {pend:List (Nat×Nat×Nat)}
section
variable {key:Nat->O.α}
structure GS2(κ:QZ)(it:Array JV)(key:Nat->O.α)(p:List Nat)(st:BW)(q:List Nat)(lo:Nat)(pend:List (Nat×Nat×Nat)):Prop where
 kind:kindOf st=κ
 fail:HW st=none
 arr:KQ st=Am it q
 perm:q.Perm p
 pnd:CN st=pend.toArray
 runs:Runs key q pend 0 lo
 le:lo<=p.length
theorem wy3{o:Type}{l:List o}(h:i+1<l.length):l=l.take i++l[i]::l[i+1]::l.drop (i+2):=by
 conv=>lhs;rw[<-WT i l]
 rw[bM (show i<l.length by lia),bM h]
theorem Qv{p:List Nat}{st:BW}(an:Ans prog w A s κ it key F)(hl:∀x∈p,x<F)(g:GS2 κ it key p st q lo pend)(hi:i+1<pend.length):
  Tr prog w A E s (jF i) st (λr B=>r=true/\∃G o,GS2 κ it key p B G lo o/\o.length+1=pend.length/\(∀j,lo<=j->G[j]? = q[j]?)):=by
 have ep:=wy3 hi;have L:=g.pnd;have I:=g.runs;rw[ep]at L I;refine K4 (jt4 (b:=lo) an (λx Z=>hl x (g.perm.mem_iff.mp Z)) g.kind g.arr g.fail L (by rw[QJ];lia) (by have:=g.le;have:=g.perm.length_eq;lia) I) λr B h=>?_;obtain⟨h0,Y,U,G,z,e1,e2,T,hj,Q⟩:=h;refine⟨h0,G,_,⟨Y,U,e2,T.trans g.perm,e1,Q,g.le⟩,?_,hj⟩;rw[MK,QJ,MJ,TQ];lia
theorem Lk.wide{p:List Nat}{o:Nat}(h:Lk p q lo hi)(r:hi<=o):Lk p q lo o:=⟨h.1,λi hi=>h.2 i (by lia)⟩
def U8{p:List Nat}{st:BW}(g:GS2 κ it key p st q lo pend)(h:Sg key q lo (lo+n))(r:1<=n)(o:lo+n<=p.length):GS2 κ it key p (setPending st ((CN st).push (lo,n,0))) q (lo+n) (pend++[(lo,n,0)]):=
 ⟨g.kind,g.fail,g.arr,g.perm,by show(CN st).push _=_;rw[g.pnd];simp,g.runs.push r h,o⟩
def wl1{x:Nat×Nat×Nat}{a:Nat}(h:Runs key q (pre++[x]) a b):Runs key q (pre++[(x.1,x.2.1,pw)]) a b:=by have⟨c,r,o⟩:=Ju.mp h;exact Ju.mpr ⟨c,r,o⟩
def Uj{h:Type}(f:h->h)(x:h):∀pre:List h,(pre++[x]).modify pre.length f=pre++[f x]
 | []=>rfl
 |y::pre=>by rw[lK,MJ,List.modify_succ_cons,Uj f x pre];rfl
def uH{p:List Nat}{st:BW}(g:GS2 κ it key p st q lo pend):∃h,GS2 κ it key p (setPending st ((CN st).modify ((CN st).size - 1) λx=>(x.1,x.2.1,pw))) q lo h:=by
 rcases jGx pend with e | ⟨pre,x,e⟩
 ·subst e;refine⟨[],g.kind,g.fail,g.arr,g.perm,?_,g.runs,g.le⟩;show(CN st).modify ((CN st).size - 1) (λx=>(x.1,x.2.1,pw))=_;rw[g.pnd];apply ZD;simp
 ·rw[jGy]at e;subst e;refine⟨pre++[(x.1,x.2.1,pw)],g.kind,g.fail,g.arr,g.perm,?_,wl1 g.runs,g.le⟩;show(CN st).modify ((CN st).size - 1) (λx=>(x.1,x.2.1,pw))=_;rw[g.pnd];apply ZD;rw[Array.toList_modify];simp;exact Uj _ x pre
theorem ky3{p:List Nat}{st:BW}(an:Ans prog w A s κ it key F)(hl:∀x∈p,x<F)(hN:1<=p.length)(g:GS2 κ it key p st p 0 []):
  Tr prog w A E s sortRuns' st (λ_ G=>HW G=none/\∃q,KQ G=Am it q/\q.Perm p/\Sg key q 0 p.length):=by
 rw[sortRuns'_eq];refine Jk ?_;have sz:(KQ st).size=p.length:=by rw[g.arr,Bq]
 rw[sz];refine Av (R:=λc G=>c.1=none/\∃q pend,GS2 κ it key p G q p.length pend) ?_ λc G hc=>?_
 ·refine Ea (I:=λx c G=>∃q pend lo,c=(none,lo)/\GS2 κ it key p G q lo pend/\x<=lo) (λx c G _ hx hI=>?_) (λc G hI=>?_) ⟨p,[],0,rfl,g,by lia⟩
  ·obtain⟨q,pend,lo,rfl,g,ar⟩:=hI;have ql:q.length=p.length:=g.perm.length_eq;refine Ai (λh=>?_) (λh=>?_)
   ·have h:lo≥p.length:=h;have e:lo=p.length:=by have:=g.le;lia
    exact Aa ⟨rfl,q,pend,by rw[<-e];exact g⟩
   have h:¬ lo≥p.length:=h;have lq:∀x∈q,x<F:=λx hx=>hl x (g.perm.mem_iff.mp hx);refine Av (ko2 (lo:=lo) (nrem:=p.length - lo) (st0:=G) an lq g.kind ⟨rfl,g.arr,rfl,rfl⟩ (by lia) (by lia)) λr ag hr=>?_;obtain⟨m,q2,rfl,m1,m2,aa,a2,ak⟩:=hr;have aa:Lk q q2 lo p.length:=aa.wide (by lia);have au:q2.length=p.length:=aa.1.length_eq.trans ql;refine Ai (λae=>K6 (Av (ke7 (lo:=lo) (n:=min (p.length - lo) (XX p.length p.length 0)) (ok:=m) (st0:=G) an (aa.lt lq) g.kind a2 (by lia) (by have:m<XX p.length p.length 0:=ae;lia) ak) λr U hr=>?_)) (λae=>?_)
   ·obtain⟨rfl,Y,aq,a3,ab⟩:=hr;have ae:m<XX p.length p.length 0:=ae;have lk:Lk q Y lo p.length:=aa.trans (aq.wide (by lia));have n1:1<=min (p.length - lo) (XX p.length p.length 0):=by lia
    refine Ai (λh=>absurd h (by decide)) (λ_=>?_);have g3:GS2 κ it key p U Y lo pend:=⟨a3.kind.trans g.kind,a3.fail.trans g.fail,a3.arr,lk.1.trans g.perm,a3.pend.trans g.pnd,g.runs.like (λi _ hi=>lk.2 i (.inl hi)),g.le⟩;refine Jk ?_;generalize hb:(CN U).back? = ob;cases ob with
    |none=>exact Ka (Aa ⟨Y,_,_,rfl,U8 g3 ab n1 (by lia),by lia⟩)
    |some x1 =>
     obtain⟨s1,Z,w1⟩:=x1;refine Av (R:=λc L=>c.1=none/\∃Q B,GS2 κ it key p L Q lo B/\(∀j,lo<=j->Q[j]? = Y[j]?)) ?_ λc L hc=>?_
     ·refine Ea (I:=λx c L=>c=(none,())/\∃Q B,GS2 κ it key p L Q lo B/\(∀j,lo<=j->Q[j]? = Y[j]?)) (λx c L _ hx hI=>?_) (λc L hI=>?_) ⟨rfl,Y,pend,g3,λ_ _=>rfl⟩
      ·obtain⟨rfl,Q,B,g4,hj⟩:=hI;refine Jk ?_;have zp:(CN L).size=B.length:=by rw[g4.pnd];simp
       dsimp only;by_cases hs:(CN L).size>1
       ·rw[if_pos hs];generalize (CN L)[(CN L).size - 2]? = o;cases o with
        |none=>exact Aa ⟨rfl,Q,B,g4,hj⟩
        |some y =>
         obtain⟨y1,y2,y3⟩:=y;refine Ai (λh=>?_) (λh=>?_)
         ·exact Aa ⟨rfl,Q,B,g4,hj⟩
         ·refine Av (Qv an hl g4 (by lia)) λr ao hr=>?_;obtain⟨rfl,q5,T,g5,e5,aj⟩:=hr;exact Aa ⟨rfl,q5,T,g5,λj h=>(aj j h).trans (hj j h)⟩
       ·rw[if_neg hs];exact Aa ⟨rfl,Q,B,g4,hj⟩
      ·obtain⟨rfl,h⟩:=hI;exact⟨rfl,h⟩
     ·obtain⟨e,Q,B,g4,hj⟩:=hc;obtain⟨c1,c2⟩:=c;cases e;refine Ka (Ka (Aa ?_));obtain⟨T,g5⟩:=uH (pw:=power' p.length (2 * s1+Z) (2 * s1+Z+Z+min (p.length - lo) (XX p.length p.length 0)) p.length) g4;exact⟨Q,_,_,rfl,U8 g5 (ab.like λi h1 _=>hj i h1) n1 (by lia),by lia⟩
   ·obtain⟨Y,ai⟩:∃Y,Y=q2:=⟨q2,rfl⟩;obtain⟨U,af⟩:∃U,U=ag:=⟨ag,rfl⟩;have lk:Lk q Y lo p.length:=by rw[ai];exact aa
    have a3:At it G U Y:=by rw[ai,af];exact a2
    have ab:Sg key Y lo (lo+m):=by rw[ai];exact ak
    have n1:=m1;rw[<-af];have g3:GS2 κ it key p U Y lo pend:=⟨a3.kind.trans g.kind,a3.fail.trans g.fail,a3.arr,lk.1.trans g.perm,a3.pend.trans g.pnd,g.runs.like (λi _ hi=>lk.2 i (.inl hi)),g.le⟩;refine Jk ?_;generalize hb:(CN U).back? = ob;cases ob with
    |none=>exact Ka (Aa ⟨Y,_,_,rfl,U8 g3 ab n1 (by lia),by lia⟩)
    |some x1 =>
     obtain⟨s1,Z,w1⟩:=x1;refine Av (R:=λc L=>c.1=none/\∃Q B,GS2 κ it key p L Q lo B/\(∀j,lo<=j->Q[j]? = Y[j]?)) ?_ λc L hc=>?_
     ·refine Ea (I:=λx c L=>c=(none,())/\∃Q B,GS2 κ it key p L Q lo B/\(∀j,lo<=j->Q[j]? = Y[j]?)) (λx c L _ hx hI=>?_) (λc L hI=>?_) ⟨rfl,Y,pend,g3,λ_ _=>rfl⟩
      ·obtain⟨rfl,Q,B,g4,hj⟩:=hI;refine Jk ?_;have zp:(CN L).size=B.length:=by rw[g4.pnd];simp
       dsimp only;by_cases hs:(CN L).size>1
       ·rw[if_pos hs];generalize (CN L)[(CN L).size - 2]? = o;cases o with
        |none=>exact Aa ⟨rfl,Q,B,g4,hj⟩
        |some y =>
         obtain⟨y1,y2,y3⟩:=y;refine Ai (λh=>?_) (λh=>?_)
         ·exact Aa ⟨rfl,Q,B,g4,hj⟩
         ·refine Av (Qv an hl g4 (by lia)) λr ao hr=>?_;obtain⟨rfl,q5,T,g5,e5,aj⟩:=hr;exact Aa ⟨rfl,q5,T,g5,λj h=>(aj j h).trans (hj j h)⟩
       ·rw[if_neg hs];exact Aa ⟨rfl,Q,B,g4,hj⟩
      ·obtain⟨rfl,h⟩:=hI;exact⟨rfl,h⟩
     ·obtain⟨e,Q,B,g4,hj⟩:=hc;obtain⟨c1,c2⟩:=c;cases e;refine Ka (Ka (Aa ?_));obtain⟨T,g5⟩:=uH (pw:=power' p.length (2 * s1+Z) (2 * s1+Z+Z+m) p.length) g4;exact⟨Q,_,_,rfl,U8 g5 (ab.like λi h1 _=>hj i h1) n1 (by lia),by lia⟩
  ·obtain⟨q,pend,lo,rfl,g,ar⟩:=hI;have e:lo=p.length:=by have:=g.le;lia
   exact⟨rfl,q,pend,by rw[<-e];exact g⟩
 ·obtain⟨e,q,pend,g⟩:=hc;obtain⟨c1,c2⟩:=c;cases e;refine Av (R:=λc G=>c.1=none/\∃q pend,GS2 κ it key p G q p.length pend/\pend.length<=1) ?_ λc G hc=>?_
  ·refine Ea (I:=λx c G=>c=(none,())/\∃q pend,GS2 κ it key p G q p.length pend/\pend.length+x<=p.length+1) (λx c G _ hx hI=>?_) (λc G hI=>?_) ⟨rfl,q,pend,g,by have:=g.runs.le;lia⟩
   ·obtain⟨rfl,q,pend,g,hp⟩:=hI;refine Jk ?_;have zp:(CN G).size=pend.length:=by rw[g.pnd];simp
    refine Ai (λh=>?_) (λh=>?_)
    ·exact Aa ⟨rfl,q,pend,g,by have:(CN G).size<=1:=h;lia⟩
    ·have h:¬ (CN G).size<=1:=h;refine Av (Qv an hl g ?_) λr ag hr=>?_
     ·split
      ·lia
      ·lia
     ·obtain⟨rfl,q2,ah,g2,e2,_⟩:=hr;exact Aa ⟨rfl,q2,ah,g2,by lia⟩
   ·obtain⟨rfl,q,pend,g,hp⟩:=hI;exact⟨rfl,q,pend,g,by lia⟩
  ·obtain⟨e,q,pend,g,hp⟩:=hc;obtain⟨c1,c2⟩:=c;cases e;refine Aa ⟨g.fail,q,g.arr,g.perm,?_⟩
   match pend,hp,g.runs with
   | [],_,h=>exact absurd (show 0=p.length from h) (by lia)
   | [x],_,h=>have e:0+x.2.1=p.length:=h.2.2.2;have:=h.2.2.1;rwa [e]at this
end
variable {a:BK}
section
variable {key:Nat->O.α}{vs:List A_}
theorem wt9{P:PySem.Fin->BJ->Prop}(ho:s.heap.get? a=some (JR "list" vs.toArray n))(ah:vs.length<=16777216)(q:Asks prog w A s a vs κ key)
  (h:∀(p:Array Nat)(h':CK)(tk:Nat),Ve vs.length p->Vf key p vs.length->Bv a s.heap h'->(∃e,h'.get? a=some (JR "list" (TF (p.toList.map λi=>vs.getD i .none)) e))->P (.done (.ret .none)) {s with heap:=h',toks:=tk}):
  BP (BV prog w) A (GZ.«list.sort» ⟨[.ref a],[]⟩) P E s:=by
 rw[list_sort_plain];have ag:a<s.heap.objs.size:=HB ho;have L:vs.toArray.size=vs.length:=JZ;refine BX (listItems_at ho rfl ?_);refine BX (WK ho rfl ?_ (by rw[L,CV];lia) (WL _));obtain⟨e1,I⟩:∃e1,(s.heap.update a (Obj.mapSeq λ_=>(#[]:Array A_))).get? a=some (JR "list" #[] e1):=⟨_,SQ ho λ_=>#[]⟩;refine BX (Y_ I rfl ?_);refine BX (NT ?_ (by show vs.length<=_;rw[CV];lia));refine BX (wpAny_newList ?_ (WL _));refine DK ?_;generalize eh:((s.heap.update a (Obj.mapSeq λ_=>(#[]:Array A_))).push {cls:=.type "tuple",data:=.seq (vs.toArray.toList).toArray}).push {cls:=.type "list",data:=.seq ([]:List A_).toArray}=B;have k1:Bv a s.heap B:=by rw[<-eh];exact((Bv.upd _ _).trans (Bv.push _ _)).trans (Bv.push _ _)
 have Q:B.get? a=some (JR "list" #[] e1):=by rw[<-eh];exact JH _ (JH _ I)
 show BP (BV prog w) A _ P E {s with heap:=B};clear eh I;dsimp only;by_cases h2:vs.length<2
 ·rw[if_pos (by rw[L];exact h2),if_pos (by rw[L];exact h2)];refine BX (DN ?_);rw[StateT.run_pure];refine BX (DN ?_);dsimp only;refine BX (Y_ Q rfl ?_);have eo:(KQ (SortSt.mk' general' (vs.toArray.zip vs.toArray) #[] 7 none)).map (·.2)=vs.toArray:=kv8 vs;rw[eo];refine BX (WK Q rfl ?_ (WL _) (by show vs.toArray.size<=_;rw[L,CV];lia));simp only[bne_self_eq_false,WN,if_false];refine DN (h (TF (List.range vs.length)) _ s.toks (List.Perm.refl _) (λi j Z Y=>by rw[show i=j by lia];exact KeyOrd.kle_refl _) (k1.trans (Bv.upd _ _)) ?_);rw[show(TF (List.range vs.length)).toList=List.range vs.length from rfl,W7];exact⟨_,SQ Q λ_=>vs.toArray⟩
 ·rw[if_neg (by rw[L];exact h2),if_neg (by rw[L];exact h2)];have aa:2<=vs.length:=by lia
  refine BX (GD (q.kind aa {s with heap:=B} (λk T=>k=κ/\T = {s with heap:=B}) k1 ⟨rfl,rfl⟩) (λk T hk=>?_) λ_ _ z=>z.elim);obtain⟨rfl,rfl⟩:=hk;have ez:(vs.toArray.zip vs.toArray).size=vs.length:=by simp
  have af:KQ (SortSt.mk' k (vs.toArray.zip vs.toArray) #[] 7 none)=Am (vs.toArray.zip vs.toArray) (List.range vs.length):=by have e:=kas_range (vs.toArray.zip vs.toArray);rw[ez]at e;refine Eq.trans e.symm ?_;unfold Am;apply ZD;rw[Array.toList_map]
  have an:Ans (O:=O) prog w A {s with heap:=B} k (vs.toArray.zip vs.toArray) key vs.length:=λi j C tk hi Y hC=>by unfold kas_cmp;rw[kat_item rfl,kat_item rfl];exact q.less aa i j {s with heap:=B,toks:=tk} C hi Y k1 λG=>hC G
  have run:=ky3 (E:=E) (st:=SortSt.mk' k (vs.toArray.zip vs.toArray) #[] 7 none) an (p:=List.range vs.length) (λx hx=>H_.mp hx) (by rw[QK];lia) ⟨rfl,rfl,af,List.Perm.refl _,rfl,rfl,WL _⟩;refine BX (GD (run s.toks (λ_ o T=>∃p:Array Nat,KQ o=p.map (DQ (vs.toArray.zip vs.toArray))/\HW o=none/\(Ve vs.length p/\Vf key p vs.length)/\∃tk,T = {s with heap:=B,toks:=tk}) λu o G hr=>?_) ?_ λ_ _ z=>z)
  ·obtain⟨hf,r,er,pm,sg⟩:=hr;rw[QK]at sg;refine⟨r.toArray,by rw[er];unfold Am;simp,hf,⟨by unfold Ve;exact pm,λi j Z Y=>?_⟩,G,rfl⟩;have hl:r.length=vs.length:=by rw[pm.length_eq,QK]
   have g:∀i,i<vs.length->∃x,r[i]? = some x/\kk key r.toArray i=key x:=λi hi=>⟨_,GK (by lia),by unfold kk;rw[List.getElem?_toArray,GK (by lia)];rfl⟩;have⟨x,e1,e2⟩:=g i (by lia);have⟨y,e3,e4⟩:=g j Y;rw[e2,e4];exact sg i j x y (by lia) Z Y e1 e3
  rintro⟨⟨⟩,o⟩ T ⟨p,ae,hf,⟨hp,hs⟩,tk,rfl⟩;dsimp only;have U:=kat_snds rfl ae;have ab:(TF (p.toList.map λi=>vs.getD i Value.none)).size=vs.length:=by rw[JZ,GP,ZG,hp.size]
  rw[U];refine BX (Y_ Q rfl ?_);refine BX (WK Q rfl ?_ (WL _) (by show(TF (p.toList.map λi=>vs.getD i Value.none)).size<=_;rw[ab,CV];lia));rw[hf];simp only[bne_self_eq_false,WN,if_false];exact DN (h p _ tk hp hs (k1.trans (Bv.upd _ _)) ⟨_,SQ Q λ_=>TF (p.toList.map λi=>vs.getD i Value.none)⟩)
end
section
variable {u:A_}{G:List A_->Prop}
def Om{Q:A_->BJ->Prop}(hc:bB prog w A.in1 s u G)
  (ha:∀h (h':CK) L I,(∀b o,s.heap.get? b=some o->h'.get? b=some o)->G h->h.length<=16777216/\∃κ key,Asks (O:=Wt) prog w A.in1.in1 {s with heap:=h'.push (JR "list" h.toArray 0),drawn:=I,toks:=L} h'.objs.size h κ key /\
   ∀(p:Array Nat)(B:CK) r,Ve h.length p->Vf key p h.length->(∀b o,h'.get? b=some o->B.get? b=some o)->(∃e,B.get? h'.objs.size=some (JR "list" (TF (p.toList.map λi=>h.getD i .none)) e))->Q (.ref h'.objs.size) {s with heap:=B,drawn:=I,toks:=r}):
  BP (BV prog w) A (call (.builtin "sorted") [u]) Q E s:=by
 refine Calls.call_function_entry kind_sorted plain_sorted entry_sorted (args_sorted1 _) ?_;unfold GZ.«sorted»;refine BX (m:=checkCount "sorted" 1 1 _) (DN ?_);refine BX (hc _ _ λh h' L I k hz g=>?_);refine BX (wpAny_newList ?_ hz);have⟨T,κ,key,q,U⟩:=ha h h' L I k g;have Y:(h'.push (JR "list" h.toArray 0)).get? h'.objs.size=some (JR "list" h.toArray 0):=KD _ rfl;show BP _ _ _ _ _ {s with heap:=h'.push (JR "list" h.toArray 0),drawn:=I,toks:=L};refine BX (DK (CZ slot_list_sort ⟨_,Y,rfl⟩ entry_list_sort ?_ (args_list_sort _)));refine wt9 Y T q λp B r hp hs Z e=>⟨_,rfl,?_⟩;refine DN ⟨_,rfl,U p B r hp hs (λb o e=>?_) e⟩;exact Z b o (JW (HB e)) (JH _ e)
end
variable {vs:List A_}
def wz7{b c:BK}{us:List A_}{ns ms:List Int}{P:PySem.Fin->BJ->Prop}(hx:NK s.heap b (TF us))(hy:NK s.heap c (TF vs))(hu:FP us ns)(hv:FP vs ms)(h:P (.done (.ret (.bool (Dh ns ms)))) s):
  BP (BV prog w) A (GZ.«tuple.__lt__» ⟨[.ref b,.ref c],[]⟩) P E s:=by
 obtain⟨o,ho,hc,n,hd⟩:=hx;obtain⟨o',aa,af,n',ae⟩:=hy;show BP _ _ (isInstance (.ref c) (.type "tuple") >>= _) _ _ s;refine BX (JL ⟨o',aa,af⟩ isSubtype_tuple_tuple ?_);simp only[lB,WN,if_false];refine BX (aG ho hd ?_);refine BX (aG aa ae ?_);refine BX ?_;have l1:=Rp hu;have l2:=Rp hv;refine wpAny_forIn_list _
  (λY r s'=>r.1=none/\s'=s/\∃I G Q T,Y=List.zip I G/\FP I Q/\FP G T/\Dh Q T=Dh ns ms/\(decide (I.length<G.length))=decide (us.length<vs.length))
  _ ?_ ?_ _ _ ⟨rfl,rfl,us,vs,ns,ms,rfl,hu,hv,rfl,rfl⟩
 ·rintro⟨u,v⟩ Y r s' ⟨hr,rfl,I,G,Q,T,hz,Z,U,B,L⟩;cases Z with
  |nil=>simp at hz
  |cons n t ru =>
   cases U with
   |nil=>simp at hz
   |cons m t' rv =>
    simp only[d9,List.cons.injEq,Prod.mk.injEq]at hz;obtain⟨⟨rfl,rfl⟩,rfl⟩:=hz;refine BX (RD ?_);by_cases e:n=m
    ·rw[show(n == m)=true from beq_iff_eq.mpr e];simp only[lB,WN,if_false];refine DN ⟨rfl,rfl,_,_,_,_,rfl,ru,rv,?_,by simpa using L⟩;rw[<-B,Dh,if_pos e]
    ·rw[show(n == m)=false from beq_eq_false_iff_ne.mpr e];simp only[jIl,if_true];refine BX (wpAny_rule ?_);have hq:Dh ns ms=decide (n<m):=by rw[<-B,Dh,if_neg e]
     rw[hq]at h;refine BX (lt_int ?_);exact BX (DN (DN (DN h)))
 ·rintro⟨r1,r2⟩ s' ⟨hr,rfl,I,G,Q,T,hz,Z,U,B,L⟩;simp only at hr;subst hr;refine DN ?_;have ab:decide (us.length<vs.length)=Dh ns ms:=by
   rw[<-B,<-L];cases Z with
   |nil =>
    cases U with
    |nil=>simp[Dh]
    |cons _ _ _=>simp[Dh]
   |cons _ _ _ =>
    cases U with
    |nil=>simp[Dh]
    |cons _ _ _=>simp at hz
  rw[<-ab]at h;show P (.done (.ret (.bool (decide (us.toArray.size<vs.toArray.size))))) s';rw[JZ,JZ];exact h
inductive G8(h:CK)(a:BK):List A_->List (List Int)->Prop
 |nil:G8 h a [] []
 |cons {u:A_} {ns:List Int} {us:List A_} {nss:List (List Int)}:cB h a u ns->G8 h a us nss->G8 h a (u::us) (ns::nss)
def G8.keep{h h':CK}(k:Bv a h h'):∀{B:List A_}{o:List (List Int)},G8 h a B o->G8 h' a B o
 |_,_,.nil=>.nil
 |_,_,.cons x r=>.cons (x.keep k) (G8.keep k r)
variable {h:CK}
def G8.get:∀{B:List A_}{o:List (List Int)},G8 h a B o->∀{i:Nat},i<B.length->cB h a (B.getD i .none) (o.getD i [])
 |_,_,.cons x r,0,_=>by simpa using x
 |_,_,.cons _ r,i+1,hi=>by simpa using r.get (i:=i) (by simpa using hi)
def G8.firsts{M:KR}{A:EY}{E:A_->BJ->Prop}{s:BJ}:∀{I:List A_}{B:List (List Int)}{Q:List (Option A_)->BJ->Prop},G8 s.heap a I B->(∀G:List (Option A_),G.length=I.length->(∀f,G[0]? = some f->B[0]? = some []->f=none)->Q G s)->BP M A (I.mapM firstOfTuple') Q E s
 |_,_,Q,.nil,h=>by rw[List.mapM_nil];exact DN (h [] rfl λf z=>by simp at z)
 |_,_,Q,.cons (ns:=ns) x r,h=>by obtain⟨b,vs,rfl,_,⟨o,L,hc,n,Z⟩,hi⟩:=x;rw[List.mapM_cons];refine BX ?_;rw[kas_first_eq];refine BX (Looks.here (show Looks M s.heap (aK (.ref b)) o.cls from(Looks.ld L).andThen .now) ?_);rw[hc,if_neg (by first |decide |simp)];refine BX (listItems_at L Z (DN ?_));refine BX (G8.firsts r λG Y _=>DN (h _ (by simp[Y]) λf U T=>?_));simp at U T;subst T;cases hi;rw[<-U];rfl
def G8.looks{M:KR}:∀{I:List A_}{G:List (List Int)},G8 h a I G->∀v∈I,Looks M h (aK v) (.type "tuple")
 |_,_,.nil,v,B=>nomatch B
 |_,_,.cons x r,v,B=>by
  rcases HN.mp B with rfl |B
  ·obtain⟨b,vs,rfl,_,⟨o,L,Q,n,T⟩,hi⟩:=x;have:Looks M h (aK (.ref b)) o.cls:=(Looks.ld L).andThen .now;rwa [Q]at this
  ·exact r.looks v B
theorem jp9{nss:List (List Int)}(hu:A.units<I_)(h:G8 s.heap a vs ([]::nss)):Asks (O:=Wt) prog w A s a vs ZC λi=>([]::nss).getD i [] where
 kind:=λh2 s' Q k q=>by
  have hk:=h.keep k;rw[kat_kind_eq,jHy,map_eq_pure_bind];refine BX (BX (hk.firsts λfs hl h0=>DN ?_));obtain⟨f,fr,rfl⟩:∃f fr,fs=f::fr:=by
   cases fs with
   |nil=>simp at hl;lia
   |cons f fr=>exact⟨f,fr,rfl⟩
  have:f=none:=h0 f rfl rfl;subst this;rw[if_neg (by simp),if_neg (by simp)];rw[oneTypeOnly'_eq,jHy,map_eq_pure_bind];refine BX (BX (BX (kas_mapM (r:=Value.type "tuple") _ (λv hv Q' hq=>(hk.looks v hv).here hq) (DN ?_))));cases vs with
  |nil=>simp at h2
  |cons v vs =>
   have hall:((List.map (λ_=>Value.type "tuple") (v::vs)).toArray.all λx=>x == Value.type "tuple")=true:=by simp only[List.all_toArray,gG,PQ];intro _ _;rfl
   have h0:(List.map (λ_=>Value.type "tuple") (v::vs)).toArray[0]? = some (Value.type "tuple"):=by simp
   rw[h0];simp only[hall,if_true];exact DN (DN q)
 less:=λ_ i j s' Q hi hj k q=>by have⟨b,us,e1,_,t1,h1⟩:=(h.keep k).get hi;have⟨b',us',e2,_,t2,h2⟩:=(h.keep k).get hj;rw[e1,e2,keyLt'_oneType,oneLt'_eq];simp only[if_true];refine BX (wpAny_cRoomFor hu ?_);have ty:∀{b:BK}{us:List A_},NK s'.heap b (TF us)->∃o,s'.heap.get? b=some o/\o.cls=.type "tuple":=λ⟨o,ho,hc,_⟩=>⟨o,ho,hc⟩;refine BX (wpAny_callSpecialIfBound?_slot (ty t1) F.slot_tuple_lt (CZ F.slot_tuple_lt (ty t1) F.entry_tuple_lt (wz7 t1 t2 h1 h2 ⟨_,rfl,?_⟩) (F.args_tuple_lt_2 _ _)));exact FJ (q s'.toks)
def Hr:D->Bool
 | .tup o=>(Bl o).isSome
 |_=>false
def X5:List D->Bool
 | .tup []::r=>r.all Hr
 |_=>false
variable {xs:List D}
theorem ja3(h:X5 xs=true):xs.all Hr=true/\∃r,xs=.tup []::r:=by
 unfold X5 at h;split at h
 ·exact⟨by rw[gK,h];rfl,_,rfl⟩
 ·cases h
def zP{a b:D}(G:Hr a=true)(B:Hr b=true)(e:keyOf a=keyOf b):a=b:=by
 cases a with
 |tup x =>
  cases b with
  |tup y =>
   cases r:Bl x with
   |none=>simp[Hr,r]at G
   |some n =>
    cases o:Bl y with
    |none=>simp[Hr,o]at B
    |some m=>simp[keyOf,aP,r,o]at e;subst e;rw[Td r o]
  |_=>simp[Hr]at B
 |_=>simp[Hr]at G
def kt5(h:X5 xs=true){a b:D}(r:a∈xs)(o:b∈xs)(e:keyOf a=keyOf b):a=b:=by have h:=(ja3 h).1;rw[PQ]at h;exact zP (h a r) (h b o) e
theorem jn2{p:Array Nat}{key:Nat->Wt.α}(L:xs.length<2\/X5 xs=true)(G:∀i d,xs[i]? = some d->key i=keyOf d)(T:Ve xs.length p)(hs:Vf key p xs.length):
  p.toList.map (λi=>xs.getD i .non)=if xs.length<2 then xs else srt xs:=by
 have perm:(p.toList.map λi=>xs.getD i .non).Perm xs:=by
  have Q:=T.map λi=>xs.getD i D.non;refine Q.trans (List.Perm.of_eq ?_);apply bI
  ·simp
  ·intro i Q I;simp at Q;simp[Q]
 by_cases I:xs.length<2
 ·rw[if_pos I]
  match xs,I,perm with
  | [],_,perm=>exact List.perm_nil.mp perm
  | [x],_,perm=>exact jHi.mp perm
 ·rw[if_neg I];have U:X5 xs=true:=L.resolve_left I;refine eq_of_sorted (le:=λa b=>Gz a b=true) (perm.trans (Dm xs).symm) ?_ (Eh xs) λa ha b hb h3 Z=>?_
  ·rw[iB];intro i j hi hj Y;simp only[GP,ZG]at hi hj;have aa:=T.size;have o:∀(k:Nat)(L:k<p.size),keyOf (xs.getD p[k] .non)=kk key p k:=λk L=>by
    have hm:p[k]∈p.toList:=by simp
    have B:p[k]<xs.length:=H_.mp (T.mem_iff.mp hm);unfold kk;rw[YB L,RC,G p[k] xs[p[k]] (GK B)];simp[B]
   have:=hs i j (cD Y) (by omega);simp only[jIc,jHe];unfold Gz;rw[o i hi,o j hj];have r:Dh (kk key p j) (kk key p i)=false:=this;rw[r];rfl
  ·unfold Gz at h3 Z;rw[aA]at h3 Z;exact kt5 U (perm.mem_iff.mp ha) (perm.mem_iff.mp hb) (Ff _ _ Z h3)
def zO{X:Cx}{G:List (BK×GJ)}{σ:St}{H:Hp}{s:BJ}{S:AS}{a:BK}(I:Inv X G σ H s)(ha:s.heap.objs.size<=a):∀{ds:List D}{vs:List V}{Q:List A_},ds.all Hr=true->Ak X.K H S ds vs->Vals vs Q ->
  ∃B,G8 s.heap a Q B/\∀i d,ds[i]? = some d->B.getD i []=keyOf d
 | [],vs,Q,_,h,r=>by cases(show vs=[] from h);cases r;exact⟨[],.nil,λi d h=>by simp at h⟩
 |d::ds,vs,Q,Z,h,r=>by
  rw[gK,QC]at Z;revert h;refine Br λv aa U h1 h2=>?_;obtain rfl:=U;cases r with
  |cons r1 r2 =>
   refine Ao (λB q hk=>?_) (zO I ha Z.2 h2 r2)
   match d,Z.1 with
   | .tup xs,hd =>
    revert h1;refine Br λb ws L hq rr=>?_;obtain rfl:=L;have e1:_=Value.ref b:=r1;subst e1;refine Er (λT rv p _=>?_) (I.tuple (TpR.sq hq));cases e:Bl xs with
    |none=>simp[Hr,e]at hd
    |some ns =>
     have hi:=ints_of rr rv e;have hb:b≠a:=by revert p;refine Ao λo ho _=>?_;exact JW (PX (HB ho) ha)
     refine⟨ns::B,.cons ⟨b,T,rfl,hb,p,hi⟩ q,λi y Y=>?_⟩;cases i with
     |zero=>simp at Y;subst Y;simp[keyOf,aP,e]
     |succ i=>simpa using hk i y (by simpa using Y)
def sortedZ:List D->Option D
 | [d]=>match Gv d with
  |some xs=>if xs.length<=100000/\(xs.length<2\/X5 xs=true) then some (.lst (if xs.length<2 then xs else srt xs)) else none
  |none=>none
 |_=>none
variable {X:Cx}{c:DC}{e:CP}{es:List CP}{l:Lv}{p pos:JN}
section
variable {fs:Ev->R (List D)}
theorem ke9(hu:X.A.units+70<I_):Eb X (.builtin "sorted") (rCF X.K sortedZ):=by
 rintro L s σ H ys us Q I r ⟨S,ds,d,rs,e,q⟩
 match ds,e with
 | [x],e =>
  obtain⟨v,rfl,rx⟩:=rs.one;obtain⟨u,rfl,ru⟩:=vals1 r;have go:∀(xs:List D)(a:BK)(vs:List V)(its:List A_)(T:String)(o:GJ)(n:Nat),Gv x=some xs->(T = "list"\/T = "tuple")->u=.ref a->s.heap.get? a=some o->o.cls=.type T->o.data=.seq its.toArray n->Vals vs its->Ak X.K H S xs vs->vs.length<=sizeLine ->
    BP (BV X.prog X.w) X.A (call (.builtin "sorted") [u]) (EP X L σ Q) X.xe s:=by
   intro xs a vs its T o n ex hT eu ho hc hd Z rr hz;subst eu;have hl:=Z.length;have aj:=rr.length;simp only[sortedZ,ex]at e;obtain⟨⟨ao,hk⟩,rfl⟩:=Be e;refine Om (G:=λY=>Y=its) (ji1 hT ho hc hd (by rw[JZ];lia)) λY h' tk d' k g=>?_;subst g;have I1:Inv X L σ H {s with heap:=h',drawn:=d',toks:=tk}:=O4 I k;have af:∀(key:Nat->Wt.α),(∀i d,xs[i]? = some d->key i=keyOf d)->∀(pr:Array Nat)(h2:CK) ab,Ve Y.length pr->Vf key pr Y.length->(∀b o,h'.get? b=some o->h2.get? b=some o)->(∃e,h2.get? h'.objs.size=some (JR "list" (TF (pr.toList.map λi=>Y.getD i .none)) e)) ->
     EP X L σ Q (.ref h'.objs.size) {s with heap:=h2,drawn:=d',toks:=ab}:=λkey B pr h2 ab hp hs k2 e2=>by
    have en:Y.length=xs.length:=by lia
    have:=jn2 hk B (by rw[<-en];exact hp) (by rw[<-en];exact hs);exact Qu I1 rr Z (by lia) hp k2 e2 λb ag H' s1 hb hv ah=>q b ag _ H' rfl s1 hb hv (by rw[<-this];exact ah)
   refine⟨by lia,?_⟩;by_cases h2:xs.length<2
   ·have aa:Asks (O:=Wt) X.prog X.w X.A.in1.in1 {s with heap:=h'.push (JR "list" Y.toArray 0),drawn:=d',toks:=tk} h'.objs.size Y ZC (λi=>keyOf (xs.getD i .non)):=⟨λz=>by lia,λz=>by lia⟩;exact⟨_,_,aa,af _ λi d hd=>by rw[O_,hd];rfl⟩
   ·have ak:=hk.resolve_left h2;have⟨ae,r,er⟩:=ja3 ak;have⟨ai,U,B⟩:=zO I1 (a:=h'.objs.size) (F_ _) ae rr Z;have h0:∃ms,ai=[]::ms:=by
     subst er;cases U with
     |nil=>exact absurd (aj.trans hl) (by rw[MJ,gP];exact Nat.succ_ne_zero _)
     |cons x r=>have:=B 0 _ rfl;simp[keyOf,aP,Bl]at this;exact⟨_,by rw[this]⟩
    obtain⟨ms,rfl⟩:=h0;exact⟨_,_,jp9 (by show X.A.units+1+1<I_;lia) (G8.keep (Bv.push _ _) U),af _ B⟩
  cases x with
  |lst xs=>obtain⟨a,vs,rfl,ha,rr⟩:=rx;have⟨its,Z,pl,hz⟩:=I.list ha.sq;obtain⟨o,ho,hc,n,hd⟩:=pl.isList;exact go xs a vs its "list" o n rfl (.inl rfl) ru ho hc hd Z rr hz
  |tup xs=>obtain⟨a,vs,rfl,ha,rr⟩:=rx;have⟨its,Z,pl,hz⟩:=I.tuple (TpR.sq ha);obtain⟨o,ho,hc,n,hd⟩:=pl;exact go xs a vs its "tuple" o n rfl (.inr rfl) ru ho hc hd Z rr hz
  |_=>simp[sortedZ,Gv]at e
def kz1(r:X.A.units+70<I_)(B:X.mg "sorted" = none)(L:PAd X c l (e::es) fs)(G:Gl X "sorted":=by rfl)(I:Zs X.env e es:=by rfl)(o:Zp X.env pos es:=by rfl):
  PEf X c l (.Call (.Name "sorted" p) (e::es) [] pos) (bA fs sortedZ):=u_ (ke9 r) PyProof.Rows.boot_sorted B L G (by decide) (by decide) I o
theorem jm8:∀o d,bA fs sortedZ o=.ok d->∃G,d=.lst G:=λo d h=>by
 unfold bA at h;cases r:fs o with
 |ok xs =>
  rw[r]at h;simp only[R.ok_bind]at h
  match xs,h with
  | [x],h =>
   unfold sortedZ at h;dsimp only at h;cases B:Gv x with
   |none=>rw[B]at h;cases h
   |some I =>
    rw[B]at h;dsimp only at h;split at h
    ·cases h;exact⟨_,rfl⟩
    ·cases h
  | [],h=>cases h
  |_::_::_,h=>cases h
 |exc _=>rw[r]at h;cases h
 |bad=>rw[r]at h;cases h
end
section
variable {fs:Ev->R (List D)}{r B:JN}
theorem ke8:Eb X (.builtin "sorted") (rCF X.K Fd):=by
 rintro Y s σ H ys us Q I r ⟨S,ds,d,rs,e,q⟩
 match ds,e with
 | [x],e =>
  obtain⟨v,rfl,rx⟩:=rs.one;obtain⟨u,rfl,ru⟩:=vals1 r;have go:∀(xs:List D)(a:BK)(vs:List V)(its:List A_)(T:String)(o:GJ)(n:Nat),Gv x=some xs->(T = "list"\/T = "tuple")->u=.ref a->s.heap.get? a=some o->o.cls=.type T->o.data=.seq its.toArray n->Vals vs its->Ak X.K H S xs vs->vs.length<=sizeLine ->
    BP (BV X.prog X.w) X.A (call (.builtin "sorted") [u]) (EP X Y σ Q) X.xe s:=by
   intro xs a vs its T o n ex hT eu ho hc hd rv rr hz;subst eu;have hl:=rv.length;have aj:=rr.length;simp only[Fd,ex]at e;obtain⟨⟨ak,hk⟩,rfl⟩:=Be e;refine Om (G:=λZ=>Z=its) (ji1 hT ho hc hd (by rw[JZ];lia)) λZ h' tk d' k g=>?_;subst g;have I1:Inv X Y σ H {s with heap:=h',drawn:=d',toks:=tk}:=O4 I k;have ab:∀(key:Nat->Wt.α),(∀i d,xs[i]? = some d->key i=keyOf d)->∀(pr:Array Nat)(h2:CK) af,Ve Z.length pr->Vf key pr Z.length->(∀b o,h'.get? b=some o->h2.get? b=some o)->(∃e,h2.get? h'.objs.size=some (JR "list" (TF (pr.toList.map λi=>Z.getD i .none)) e)) ->
     EP X Y σ Q (.ref h'.objs.size) {s with heap:=h2,drawn:=d',toks:=af}:=λkey L pr h2 af hp hs k2 e2=>by
    have en:Z.length=xs.length:=by lia
    have:=Xp hk L (by rw[<-en];exact hp) (by rw[<-en];exact hs);exact Qu I1 rr rv (by lia) hp k2 e2 λb ag H' s1 hb hv ah=>q b ag _ H' rfl s1 hb hv (by rw[<-this];exact ah)
   refine⟨by lia,?_⟩;by_cases h2:xs.length<2
   ·have ae:Asks (O:=Wt) X.prog X.w X.A.in1.in1 {s with heap:=h'.push (JR "list" Z.toArray 0),drawn:=d',toks:=tk} h'.objs.size Z ZC (λi=>keyOf (xs.getD i .non)):=⟨λz=>by lia,λz=>by lia⟩;exact⟨_,_,ae,ab _ λi d hd=>by rw[O_,hd];rfl⟩
   ·have U:=hk.resolve_left h2;unfold Dr at U;rw[bG]at U;rcases U with U |U
    ·have⟨ns,e1,hn,L⟩:=jj5 U;exact⟨_,_,Yr (ints_of rr rv e1),ab _ L⟩
    ·have⟨ai,aa,L⟩:=v8 I1 (a:=h'.objs.size) (F_ _) U rr rv;exact⟨_,_,ke4 aa.push,ab _ L⟩
  cases x with
  |lst xs=>obtain⟨a,vs,rfl,ha,rr⟩:=rx;have⟨its,rv,pl,hz⟩:=I.list ha.sq;obtain⟨o,ho,hc,n,hd⟩:=pl.isList;exact go xs a vs its "list" o n rfl (.inl rfl) ru ho hc hd rv rr hz
  |tup xs=>obtain⟨a,vs,rfl,ha,rr⟩:=rx;have⟨its,rv,pl,hz⟩:=I.tuple (TpR.sq ha);obtain⟨o,ho,hc,n,hd⟩:=pl;exact go xs a vs its "tuple" o n rfl (.inr rfl) ru ho hc hd rv rr hz
  |_=>simp[Fd,Gv]at e
theorem jq1(hc:X.calm=true):Eb X (.builtin "sorted") (yi5 X.K X.prog X.w):=by
 rintro Y s σ H ys us Q I r ⟨a,U,e,ha,hn,q⟩;subst e;refine Ao (λu ag ru=>?_) (vals1 r);obtain rfl:=ag;cases ru;refine dG (λaf _ _=>?_) (I.hok a _ ha);revert af;refine Ao λo ho hD=>?_;refine Om (G:=tR U) (kn9 (A:=X.A.in1) (by simpa using I.ok.hd hc) ho hD) λws h' tk d' k g=>?_;revert g;refine aV λL hi ah Z _=>?_;have I1:Inv X Y σ H {s with heap:=h',drawn:=d',toks:=tk}:=O4 I k;have pm:L.Perm (Vx U):=(cM ah (Lp U)).mpr λk=>(Z k).trans (Nr k U).symm;have lm:L.length=ws.length:=(IntsAre.length hi).symm;have aj:ws.length<64:=by have h1:=pm.length_eq;have h2:=ji5 U;lia
 refine⟨by lia,_,_,Yr hi,λpr h2 ai hp hs k2 e2=>?_⟩;refine Qu I1 (S:=λ_=>True) (Kz L) (Jj hi) (by rw[CV];lia) hp k2 e2 λb aa H' s1 hb hv ab=>q b aa H' s1 hb hv λS=>?_;have ek:∀i d,(L.map D.int)[i]? = some d->[L.getD i 0]=keyOf d:=λi d T=>by
  rw[QR]at T;cases em:L[i]? with
  |none=>rw[em]at T;cases T
  |some m=>rw[em]at T;cases T;rw[O_,em];rfl
 have en:(L.map D.int).length=ws.length:=by rw[GP,lm]
 have:=Xp (xs:=L.map D.int) (p:=pr) (key:=λi=>[L.getD i 0]) (.inr (Th L)) ek (by rw[en];exact hp) (by rw[en];exact hs);have e3:cX U=pr.toList.map λi=>(L.map D.int).getD i .non:=by
  rw[this];unfold cX;rw[<-Oo (Th _) (pm.map D.int)];by_cases h2:(L.map D.int).length<2
  ·rw[if_pos h2,T3 h2]
  ·rw[if_neg h2]
 rw[e3];refine R0 _ _ ?_ ab;have:∀ds:List D,(∀d∈ds,d.imm=true)->N7 ds=true:=λds=>by
  induction ds with
  |nil=>intro _;rfl
  |cons d ds ih=>intro h;rw[N7,h d JK,ih λx hx=>h x (IK _ hx)];rfl
 refine this _ λd T=>?_;refine Ao (λi _ ae=>?_) (HX.mp T);obtain rfl:=ae;rw[O_,QR];cases L[i]? <;> rfl
def jf2(hc:X.calm=true)(hm:X.mg "sorted" = none)(ab:X.mg "set" = none)(ha:PAd X c l (e::es) fs)(hg:Gl X "sorted":=by rfl)(ae:Gl X "set":=by rfl)(he:Zs X.env e es:=by rfl)
  (aa:Zp X.env r es:=by rfl)(Y:BR [.Call (.Name "set" B) (e::es) [] r] X.env=(false,DY (.Call (.Name "set" B) (e::es) [] r) X.env)::BR [] X.env:=by rfl)(T:Zp X.env pos []:=by rfl):
  PEf X c l (.Call (.Name "sorted" p) [.Call (.Name "set" B) (e::es) [] r] [] pos) (bA fs Dq):=
 PE.imp (Kw (jq1 hc) hg hm PyProof.Rows.boot_sorted (Dt (Ji (yb7 hc) ae ab PyProof.Rows.boot_set ha (by decide) (by decide) he aa) Hs Y) (by decide) (by decide) Y T) λσ H Q q=>by
 revert q;refine Bt λhs ρ E q=>?_;refine Dd E ((RQ.bind.mp q).mono (λds q1 vs H1 s1 E1 r1 hn=>?_) λ_ z=>z);refine Ao (λd Z q2=>?_) (q1.of);unfold Dq at Z;cases I:R6 ds with
 |none=>rw[I]at Z;cases Z
 |some L =>
  rw[I]at Z;cases Z;have U:L.length<64:=by
   obtain⟨x',rfl⟩:=inv1 I rfl (λx _ _=>by cases x<;>rfl);cases x' with
   |lst xs =>
    have G:(if xs.length<64 then Bl xs else none)=some L:=I;by_cases hz:xs.length<64
    ·rw[if_pos hz]at G;rw[Zk G];exact hz
    ·rw[if_neg hz]at G;cases G
   |_=>exact nos I
  refine⟨_,ds,L,r1,I,λa ha=>⟨a,L,rfl,An,U,λb ws H' s2 hb hv rr=>?_⟩⟩;have sn:=Ar (o:=HO.ext (jQ X.prog X.w a L)) ha;exact q2 b ws _ H' rfl ((s1.trans sn).trans s2) ((s1.trans sn).free hb) hv (rr _)
def jn0(Z:X.calm=true)(T:X.mg "sorted" = none)(I:X.mg "set" = none)(ha:PAd X c l (e::es) fs)(U:Gl X "sorted":=by rfl)(L:Gl X "set":=by rfl)(Y:Zs X.env e es:=by rfl)
  (G:Zp X.env r es:=by rfl)(Q:BR [.Call (.Name "set" B) (e::es) [] r] X.env=(false,DY (.Call (.Name "set" B) (e::es) [] r) X.env)::BR [] X.env:=by rfl)(o:Zp X.env pos []:=by rfl):
  PEd X c l (.Call (.Name "sorted" p) [.Call (.Name "set" B) (e::es) [] r] [] pos) (bA fs Dq):=PEf.d (jf2 Z T I ha U L Y G Q o) λ_ _ h=>Yk h
def zH(G:X.mg "sorted" = none)(Q:PAd X c l (e::es) fs)(I:Gl X "sorted":=by rfl)(L:Zs X.env e es:=by rfl)(o:Zp X.env pos es:=by rfl):
  PEf X c l (.Call (.Name "sorted" p) (e::es) [] pos) (bA fs Fd):=u_ ke8 PyProof.Rows.boot_sorted G Q I (by decide) (by decide) L o
end
def Dn{N P:List BZ}{sc:JF}(Q:sc.kind=.function:=by rfl)(L:sc.isCoroutine=false:=by rfl)(I:sc.isGenerator=false:=by rfl)(G:N.Nodup:=by decide +kernel)(B:N.take P.length=P:=by rfl)(r:∀x∈P,sc.names.lookup x=some .local\/sc.names.lookup x=some .cell:=by decide +kernel)(o:∀y∈sc.names,y.2≠.free:=by decide +kernel):Fp N P sc:=⟨Q,L,I,G,B,r,o⟩
structure Bx where
 P:B_
 w:CW
 K:CJ
 mg:BZ->Option A_
 base:CK
 T:BK
structure Wf(x:BZ)(st:DR)(N k:Nat)(ps:List BZ)(Y:Bx->Prop->Prop)(S:Nat->List BZ->Bx->(List D->R D)->BK->DX->Prop) where
 Ns:List BZ
 sc:Fp Ns ps (Bf st)
 g:Ev->R Fl
 ok:∀{b a fd},Fp Ns ps (Bf st)->Fun b.K x x st a fd->Y b (S k ps b (Cq N g) a fd)
variable {g:Ev->R Fl}
abbrev gO{v:Ev->R Fl}(_:g=v):Ev->R Fl:=g
variable {Y:Bx->Prop->Prop}{st:DR}
def Wf.at{x:BZ}{N:Nat}{ps:List BZ}{S:Nat->List BZ->Bx->(List D->R D)->BK->DX->Prop}(V:Wf x st N k ps Y S)(e:V.g=g){b:Bx}{o:DX}(F:Fun b.K x x st a o):Y b (S k ps b (Cq N g) a o):=e ▸ V.ok V.sc F
abbrev Wb{x:BZ}{N:Nat}{ps:List BZ}{S:Nat->List BZ->Bx->(List D->R D)->BK->DX->Prop}(_:Wf x st N k ps Y S)(F:Bx->Nat->BZ->List BZ->(List D->R D)->Prop)(m:List D->R D)(b:Bx):Prop:=F b k x ps m
abbrev Zc(x:BZ)(b:Bx):Prop:=b.mg x=none
abbrev FB(b:Bx)(k:Nat)(x:BZ)(ps:List BZ)(m:List D->R D):Prop:=FnC b.P b.w b.K b.mg b.base k x ps ps.length m
abbrev FXB(b:Bx)(k:Nat)(x:BZ)(ps:List BZ)(m:List D->R D):Prop:=iY b.P b.w b.K b.mg b.base k x ps ps.length m
abbrev So0(k:Nat)(ps:List BZ)(b:Bx)(m:List D->R D)(a:BK)(o:DX):Prop:=Hl b.P b.w b.K b.mg b.base CX0 k a o ps (sp0 b.K ps.length m)
abbrev Sx0(k:Nat)(ps:List BZ)(b:Bx)(m:List D->R D)(a:BK)(o:DX):Prop:=Hl b.P b.w b.K b.mg b.base (CXE b.P b.w) k a o ps (sp1 b.K ps.length m)
end PD
namespace Gr
abbrev Ae:=List (Nat×Nat)
inductive Ay(es:Ae):Nat->Nat->Prop
 |refl (i:Nat):Ay es i i
 |tie {a b:Nat}:(a,b)∈es->Ay es a b
 |symm {a b:Nat}:Ay es a b->Ay es b a
 |trans {a b c:Nat}:Ay es a b->Ay es b c->Ay es a c
variable {es:Ae}{i j:Nat}
def Ay.mono{fs:Ae}(h:∀e∈es,e∈fs)(c:Ay es i j):Ay fs i j:=by
 induction c with
 |refl i=>exact .refl i
 |tie m=>exact .tie (h _ m)
 |symm _ f=>exact f.symm
 |trans _ _ b a=>exact b.trans a
def Ay.closed{P:Nat->Prop}(h:∀a b,(a,b)∈es->(P a↔P b))(c:Ay es i j):P i↔P j:=by
 induction c with
 |refl i=>exact Iff.rfl
 |tie m=>exact h _ _ m
 |symm _ g=>exact g.symm
 |trans _ _ f e=>exact f.trans e
variable {a b:Nat}
def S8:Ay (es++[(a,b)]) i j↔Ay es i j\/(Ay es i a/\Ay es b j)\/(Ay es i b/\Ay es a j):=by
 have up:∀{x y},Ay es x y->Ay (es++[(a,b)]) x y:=λc=>c.mono λe r=>ZJ _ r;have tie:Ay (es++[(a,b)]) a b:=.tie (TV _ (JG.mpr rfl));constructor
 ·intro c;induction c with
  |refl i=>exact .inl (.refl i)
  |tie m =>
   rcases KC.mp m with m |m
   ·exact .inl (.tie m)
   ·cases JG.mp m;exact .inr (.inl ⟨.refl _,.refl _⟩)
  |symm _ q =>
   rcases q with h | ⟨f,g⟩ | ⟨f,g⟩
   ·exact .inl h.symm
   ·exact .inr (.inr ⟨g.symm,f.symm⟩)
   ·exact .inr (.inl ⟨g.symm,f.symm⟩)
  |trans _ _ p o =>
   rcases p with h | ⟨f,g⟩ | ⟨f,g⟩<;>rcases o with k | ⟨n,l⟩ | ⟨n,l⟩
   ·exact .inl (h.trans k)
   ·exact .inr (.inl ⟨h.trans n,l⟩)
   ·exact .inr (.inr ⟨h.trans n,l⟩)
   ·exact .inr (.inl ⟨f,g.trans k⟩)
   ·exact .inr (.inl ⟨f,l⟩)
   ·exact .inl (f.trans l)
   ·exact .inr (.inr ⟨f,g.trans k⟩)
   ·exact .inl (f.trans l)
   ·exact .inr (.inr ⟨f,l⟩)
 ·rintro(h | ⟨f,g⟩ | ⟨f,g⟩)
  ·exact up h
  ·exact((up f).trans tie).trans (up g)
  ·exact((up f).trans tie.symm).trans (up g)
def G3(l:List Nat)(x y:Nat):List Nat:=l.map λz=>if z=x\/z=y then min x y else z
def Df(n:Nat)(es:Ae):List Nat:=es.foldl (λl e=>G3 l (l.getD e.1 0) (l.getD e.2 0)) (List.range n)
def lab(n:Nat)(es:Ae)(i:Nat):Nat:=(Df n es).getD i 0
def Qp(n:Nat)(es:Ae):(Df n es).length=n:=by
 unfold Df;have:∀(es:Ae)(l:List Nat),(es.foldl (λl e=>G3 l (l.getD e.1 0) (l.getD e.2 0)) l).length=l.length:=by
  intro es;induction es with
  |nil=>intro l;rfl
  |cons e es c=>intro l;rw[lG,c];simp[G3]
 rw[this,QK]
def Uh(n:Nat)(es:Ae)(e:Nat×Nat):Df n (es++[e])=G3 (Df n es) (lab n es e.1) (lab n es e.2):=by unfold Df lab;rw[jHz];rfl
theorem Wq(n:Nat)(es:Ae)(a b i:Nat)(hi:i<n):lab n (es++[(a,b)]) i=if lab n es i=lab n es a\/lab n es i=lab n es b then min (lab n es a) (lab n es b) else lab n es i:=by
 have f:=Qp n es;show(Df n (es++[(a,b)])).getD i 0=_;rw[Uh];have c:i<(Df n es).length:=by lia
 unfold G3;rw[O_,QR,GK c];have e:lab n es i=(Df n es)[i]:=by unfold lab;rw[O_,GK c];rfl
 rw[e];rfl
def InW(n:Nat)(es:Ae):Prop:=∀e∈es,e.1<n/\e.2<n
structure T5(n:Nat)(es:Ae)(L:Nat->Nat):Prop where
 le:∀i,i<n->L i<=i
 idem:∀i,i<n->L (L i)=L i
 conn:∀i j,i<n->j<n->(L i=L j↔Ay es i j)
def O9(n i:Nat)(hi:i<n):lab n [] i=i:=by unfold lab Df;simp[hi]
def Vt:Ay [] i j↔i=j:=by
 constructor
 ·intro c;have:=Ay.closed (es:=[]) (P:=λx=>x=i) (λa b h=>by cases h) c;exact(this.mp rfl).symm
 ·rintro rfl;exact .refl _
theorem Gi(n:Nat):∀es:Ae,InW n es->T5 n es (lab n es):=by
 have step:∀(es:Ae)(a b:Nat),a<n->b<n->T5 n es (lab n es)->T5 n (es++[(a,b)]) (lab n (es++[(a,b)])):=by
  intro es a b u r L;have C:=L.le a u;have B:=L.le b r;have A:=L.idem a u;have y:=L.idem b r;have s:=Wq n es a b;generalize I:lab n es=f at L C B A y s;generalize H:lab n (es++[(a,b)])=g at s;refine⟨λi c=>?_,λi c=>?_,λi j c o=>?_⟩
  ·rw[s i c];have:=L.le i c;split
   ·rename_i h;rcases h with h |h<;>lia
   ·exact this
  ·have G:g i<=i:=by
    rw[s i c];have:=L.le i c;split
    ·rename_i h;rcases h with h |h<;>lia
    ·exact this
   rw[s (g i) (by lia)];by_cases h:f i=f a\/f i=f b
   ·have e:g i=min (f a) (f b):=by rw[s i c,if_pos h]
    rw[e];have:f (min (f a) (f b))=min (f a) (f b):=by
     rcases dW (f a) (f b) with z |z
     ·rw[ZF z,A]
     ·rw[Z_ z,y]
    rw[this];rw[if_pos];rcases dW (f a) (f b) with z |z
    ·left;exact ZF z
    ·right;exact Z_ z
   ·have e:g i=f i:=by rw[s i c,if_neg h]
    rw[e,L.idem i c,if_neg h]
  ·rw[S8,<-L.conn i j c o,<-L.conn i a c u,<-L.conn b j r o,<-L.conn i b c r,<-L.conn a j u o,s i c,s j o];have J:min (f a) (f b)=f a\/min (f a) (f b)=f b:=by lia
   by_cases l:f i=f a\/f i=f b
   ·by_cases m:f j=f a\/f j=f b
    ·rw[if_pos l,if_pos m];constructor
     ·intro _;rcases l with l |l<;>rcases m with m |m
      ·left;lia
      ·right;left;lia
      ·right;right;lia
      ·left;lia
     ·intro _;rfl
    ·rw[if_pos l,if_neg m];constructor
     ·intro h;exfalso;apply m;lia
     ·intro h;exfalso;apply m;rcases h with h |h |h<;>lia
   ·by_cases m:f j=f a\/f j=f b
    ·rw[if_neg l,if_pos m];constructor
     ·intro h;exfalso;apply l;lia
     ·intro h;exfalso;apply l;rcases h with h |h |h<;>lia
    ·rw[if_neg l,if_neg m];constructor
     ·intro h;exact .inl h
     ·intro h;rcases h with h |h |h
      ·exact h
      ·exfalso;apply l;lia
      ·exfalso;apply l;lia
 intro es;have gen:∀k (es:Ae),es.length=k->InW n es->T5 n es (lab n es):=by
  intro k;induction k with
  |zero =>
   intro es q _;cases es with
   |nil=>exact⟨λi c=>by rw[O9 n i c];exact F_ _,λi c=>by rw[O9 n i c,O9 n i c],λi j c o=>by rw[O9 n i c,O9 n j o,Vt]⟩
   |cons _ _=>simp at q
  |succ k E =>
   intro es q v;rcases jGx es with rfl | ⟨w,e,rfl⟩
   ·simp at q
   ·rw[jGy]at q v ⊢;have p:w.length=k:=by simpa using q
    have:=v e (TV _ (JG.mpr rfl));exact step w e.1 e.2 this.1 this.2 (E w p λx F=>v x (ZJ _ F))
 exact gen _ es rfl
theorem Qn{n:Nat}{fs:Ae}{L M:Nat->Nat}(f:T5 n es L)(e:T5 n fs M)(h:∀i j,i<n->j<n->(Ay es i j↔Ay fs i j))(hi:i<n):L i=M i:=by
 have key:∀{es fs:Ae}{L M:Nat->Nat},T5 n es L->T5 n fs M->(∀i j,i<n->j<n->(Ay es i j↔Ay fs i j))->L i<=M i:=by intro es fs L M f e h;have g:=e.le i hi;have c:Ay fs (M i) i:=(e.conn (M i) i (by lia) hi).mp (e.idem i hi);have:=(f.conn (M i) i (by lia) hi).mpr ((h _ _ (by lia) hi).mpr c);have l:=f.le (M i) (by lia);lia
 exact Nat.le_antisymm (key f e h) (key e f λi j a b=>(h i j a b).symm)
def kt7{n:Nat}{fs:Ae}(f:InW n es)(h:∀e,e∈es↔e∈fs)(hi:i<n):lab n es i=lab n fs i:=
 Qn (Gi n es f) (Gi n fs λe z=>f e ((h e).mpr z)) (λi j _ _=>⟨λc=>c.mono λe z=>(h e).mp z,λc=>c.mono λe z=>(h e).mpr z⟩) hi
def Bs(n:Nat)(es:Ae):List Nat:=(List.range n).filter λi=>lab n es i=i
def cls(n:Nat)(es:Ae)(m:Nat):List Nat:=(List.range n).filter λi=>lab n es i=m
variable {m:Nat}
def Eg{n:Nat}:m∈Bs n es↔m<n/\lab n es m=m:=by simp[Bs]
def jY{n:Nat}(h:InW n es)(hi:i<n):lab n es i<n:=YM ((Gi n es h).le i hi) hi
def Lr{n:Nat}(h:InW n es)(hi:i<n):lab n es i∈Bs n es:=Eg.mpr ⟨jY h hi,(Gi n es h).idem i hi⟩
def Zu{n:Nat}{fs:Ae}(f:InW n es)(h:∀e,e∈es↔e∈fs):Bs n es=Bs n fs:=by unfold Bs;apply lN;intro i c;rw[kt7 f h (H_.mp c)]
def Qs(n:Nat)(es:Ae):(Bs n es).Nodup:=List.Pairwise.filter _ bH
theorem ki2{n:Nat}(h:InW n es)(p:a<n)(o:b<n):(Bs n (es++[(a,b)])).length<=(Bs n es).length/\(Bs n es).length<=(Bs n (es++[(a,b)])).length+1:=by
 have L:=Gi n es h;have s:=Wq n es a b;have sub:∀i∈Bs n (es++[(a,b)]),i∈Bs n es:=λi g=>by
  have⟨f,c⟩:=Eg.mp g;refine Eg.mpr ⟨f,?_⟩;rw[s i f]at c;split at c
  ·have l:=L.idem a p;have k:=L.idem b o;rcases dW (lab n es a) (lab n es b) with z |z
   ·rw[ZF z]at c;rw[<-c];exact l
   ·rw[Z_ z]at c;rw[<-c];exact k
  ·exact c
 have sup:∀i∈Bs n es,i∈max (lab n es a) (lab n es b)::Bs n (es++[(a,b)]):=λi g=>by
  have⟨f,c⟩:=Eg.mp g;by_cases e:i=max (lab n es a) (lab n es b)
  ·rw[e];exact JK ..
  ·refine IK _ (Eg.mpr ⟨f,?_⟩);rw[s i f,c];split
   ·lia
   ·rfl
 exact⟨List.Nodup.length_le_of_subset (Qs _ _) sub,by
  have:=List.Nodup.length_le_of_subset (Qs n es) sup;simpa using this⟩
def sumTo(f:Nat->Nat):Nat->Nat
 |0=>0
 |k+1=>sumTo f k+f k
theorem Pn{f g:Nat->Nat}:∀{n:Nat},(∀i,i<n->f i=g i)->sumTo f n=sumTo g n
 |0,_=>rfl
 |n+1,h=>by have:=Pn (n:=n) λi c=>h i (by lia);have e:=h n (by lia);simp only[sumTo];lia
theorem sum_add{f g:Nat->Nat}:∀(n:Nat),sumTo (λi=>f i+g i) n=sumTo f n+sumTo g n
 |0=>rfl
 |n+1=>by have:=sum_add (f:=f) (g:=g) n;simp only[sumTo];lia
def yV:∀(n:Nat),sumTo (λ_=>0) n=0
 |0=>rfl
 |n+1=>by simp[sumTo,yV n]
def vP:∀(n:Nat),sumTo (λ_=>1) n=n
 |0=>rfl
 |n+1=>by simp[sumTo,vP n]
theorem Xw{f:Nat->Nat}:∀(n:Nat),sumTo (λi=>2 * f i) n=2 * sumTo f n
 |0=>rfl
 |n+1=>by have:=Xw (f:=f) n;simp only[sumTo];lia
theorem nR{f g:Nat->Nat}:∀{n:Nat},(∀i,i<n->f i<=g i)->sumTo f n<=sumTo g n
 |0,_=>F_ _
 |n+1,h=>by have:=nR (n:=n) λi c=>h i (by lia);have e:=h n (by lia);simp only[sumTo];lia
theorem t8{f g:Nat->Nat}:∀{n:Nat},(∀i,i<n->f i<=g i)->sumTo f n=sumTo g n->∀i,i<n->f i=g i
 |0,_,_=>λi c=>by lia
 |n+1,h,e=>by
  have l:=nR (n:=n) λi c=>h i (by lia);have k:=h n (by lia);simp only[sumTo]at e;intro i c;rcases Nat.lt_or_ge i n with z |z
  ·exact t8 (n:=n) (λi c=>h i (by lia)) (by lia) i z
  ·have:i=n:=by lia
   subst this;lia
theorem oU(P:Nat->Bool)(x:Nat):∀(n:Nat),sumTo (λi=>if P i && decide (x=i) then 1 else 0) n=if P x && decide (x<n) then 1 else 0
 |0=>by simp[sumTo]
 |n+1=>by
  have:=oU P x n;simp only[sumTo];rw[this];by_cases h:x=n
  ·subst h;simp
  ·have f:(P n && decide (x=n))=false:=by simp[h]
   have e:decide (x<n)=decide (x<n+1):=by
    by_cases c:x<n
    ·simp[c,show x<n+1 by lia]
    ·simp[c,show ¬ x<n+1 by lia]
   rw[f,e];simp
def Qk(P:Nat->Bool):∀(n:Nat),((List.range n).filter P).length=sumTo (λi=>if P i then 1 else 0) n
 |0=>rfl
 |n+1=>by rw[dZ,lO,MK,Qk P n];simp only[sumTo];cases h:P n<;>simp[h]
def ind(a p:Nat):Nat:=if a=p then 1 else 0
def deg:Ae->Nat->Nat
 | [],_=>0
 |e::es,p=>deg es p+(ind e.1 p+ind e.2 p)
theorem Vy(es fs:Ae)(p:Nat):deg (es++fs) p=deg es p+deg fs p:=by
 induction es with
 |nil=>simp[deg]
 |cons e es c=>simp only[lK,deg,c];lia
theorem pC(f c:Ae)(e:Nat×Nat)(p:Nat):deg (f++e::c) p=deg (f++c) p+(ind e.1 p+ind e.2 p):=by rw[Vy,Vy];simp only[deg];lia
variable {e:Nat×Nat}
theorem xO(h:e∈es):0<deg es e.1/\0<deg es e.2:=by obtain⟨f,c,rfl⟩:=qK h;rw[pC,pC];constructor<;>simp[ind]<;>lia
def uZ:∀{es:Ae}{p:Nat},0<deg es p->∃g e c,es=g++e::c/\(e.1=p\/e.2=p)
 | [],p,h=>by simp[deg]at h
 |e::es,p,h=>by
  by_cases k:e.1=p\/e.2=p
  ·exact⟨[],e,es,rfl,k⟩
  ·have n:0<deg es p:=by simp only[deg,ind]at h;rw[if_neg (λz=>k (.inl z)),if_neg (λz=>k (.inr z))]at h;exact h
   obtain⟨g,f,c,rfl,l⟩:=uZ n;exact⟨e::g,f,c,rfl,l⟩
def jO(P:Nat->Bool)(es:Ae)(n:Nat):Nat:=sumTo (λi=>if P i then deg es i else 0) n
def jq7(P:Nat->Bool)(e:Nat×Nat)(es:Ae)(n:Nat)(h:e.1<n/\e.2<n):jO P (e::es) n=jO P es n+((if P e.1 then 1 else 0)+(if P e.2 then 1 else 0)):=by unfold jO;have f:=oU P e.1 n;have c:=oU P e.2 n;rw[show(P e.1 && decide (e.1<n))=P e.1 by simp[h.1]]at f;rw[show(P e.2 && decide (e.2<n))=P e.2 by simp[h.2]]at c;rw[<-f,<-c,<-sum_add,<-sum_add];apply Pn;intro i _;simp only[deg,ind];cases P i<;>simp
theorem xN(n:Nat):∀(es:Ae),InW n es->sumTo (deg es) n=2 * es.length
 | [],_=>by rw[Pn (g:=λ_=>0) (λi _=>by simp[deg]),yV];rfl
 |e::es,h=>by have c:=xN n es λf k=>h f (IK _ k);have:=jq7 (λ_=>true) e es n (h e JK);unfold jO at this;simp only[if_true]at this;rw[show sumTo (deg (e::es)) n=_ from this,c,MJ];simp;lia
variable {p:Nat}
theorem alone(h:deg es p=0)(c:Ay es p j):j=p:=by
 have:=Ay.closed (P:=λx=>x=p) (λa b m=>by
  have:=xO m;constructor
  ·rintro rfl;simp only at this;lia
  ·rintro rfl;simp only at this;lia) c
 exact this.mp rfl
theorem jo5{n:Nat}(h:InW n es)(f:p<n)(g:0<deg es p):0<deg es (lab n es p):=by
 rcases qJ (deg es (lab n es p)) with z |z
 ·have L:=Gi n es h;have c:Ay es (lab n es p) p:=(L.conn _ _ (jY h f) f).mp (L.idem p f);have:=alone z c;rw[<-this]at z;lia
 ·exact z
def ke0{n:Nat}(h:InW n es)(f:p<n)(g:deg es p=0):lab n es p=p:=by have L:=Gi n es h;have c:Ay es (lab n es p) p:=(L.conn _ _ (jY h f) f).mp (L.idem p f);exact alone g c.symm
def touch(n:Nat)(es:Ae):Nat:=sumTo (λi=>if decide (0<deg es i) then 1 else 0) n
def Xx(n:Nat)(es:Ae):List Nat:=(List.range n).filter λi=>decide (0<deg es i) && decide (lab n es i=i)
theorem jt5{n:Nat}(h:InW n es):(Bs n es).length+touch n es=n+(Xx n es).length:=by
 unfold Bs Xx touch;rw[Qk,Qk];have e:n+sumTo (λi=>if(decide (0<deg es i) && decide (lab n es i=i))=true then 1 else 0) n=sumTo (λi=>1+if(decide (0<deg es i) && decide (lab n es i=i))=true then 1 else 0) n:=by rw[sum_add (f:=λ_=>1),vP]
 rw[e,<-sum_add];apply Pn;intro i k;by_cases g:0<deg es i
 ·by_cases c:lab n es i=i<;>simp[g,c]
 ·have c:=ke0 h k (by lia);simp[g,c]
def Zr{n:Nat}:m∈Xx n es↔m<n/\0<deg es m/\lab n es m=m:=by simp[Xx]
def Zq{n:Nat}(h:InW n es)(c:p<n)(f:0<deg es p):lab n es p∈Xx n es:=Zr.mpr ⟨jY h c,jo5 h c f,(Gi n es h).idem p c⟩
def Zt{n:Nat}(h:InW n es)(q:a<n)(o:b<n)(c:Ay es a b):Bs n (es++[(a,b)])=Bs n es:=by
 have r:InW n (es++[(a,b)]):=λe f=>by
  rcases KC.mp f with f |f
  ·exact h e f
  ·rw[JG.mp f];exact⟨q,o⟩
 unfold Bs;apply lN;intro i l;have:lab n (es++[(a,b)]) i=lab n es i:=Qn (Gi n _ r) (Gi n es h) (λi j _ _=>by
  rw[S8];constructor
  ·rintro(z | ⟨k,g⟩ | ⟨k,g⟩)
   ·exact z
   ·exact(k.trans c).trans g
   ·exact(k.trans c.symm).trans g
  ·exact .inl) (H_.mp l)
 rw[this]
theorem z7{n:Nat}(h:InW n es)(k:a<n)(g:b<n)(c:¬ Ay es a b):(Bs n (es++[(a,b)])).length+1=(Bs n es).length:=by
 have x:=ki2 h k g;have L:=Gi n es h;have s:=Wq n es a b;have ne:lab n es a≠lab n es b:=λz=>c ((L.conn a b k g).mp z);have r:max (lab n es a) (lab n es b)∈Bs n es:=by
  rcases dW (lab n es a) (lab n es b) with z |z
  ·rw[gQ z];exact Lr h g
  ·rw[gM z];exact Lr h k
 have q:max (lab n es a) (lab n es b)∉Bs n (es++[(a,b)]):=λz=>by have⟨l,f⟩:=Eg.mp z;have⟨_,w⟩:=Eg.mp r;rw[s _ l,w]at f;rw[if_pos (by lia)]at f;lia
 have sub:∀i∈max (lab n es a) (lab n es b)::Bs n (es++[(a,b)]),i∈Bs n es:=λi o=>by
  rcases HN.mp o with rfl |o
  ·exact r
  ·have⟨l,f⟩:=Eg.mp o;refine Eg.mpr ⟨l,?_⟩;rw[s i l]at f;have v:=L.idem a k;have u:=L.idem b g;split at f
   ·rcases dW (lab n es a) (lab n es b) with z |z
    ·rw[ZF z]at f;rw[<-f];exact v
    ·rw[Z_ z]at f;rw[<-f];exact u
   ·exact f
 have:=List.Nodup.length_le_of_subset (RZ.mpr ⟨q,Qs n _⟩) sub;simp only[MJ]at this;lia
def nP(n:Nat)(es:Ae):Prop:=es≠[]/\n<(Bs n es).length+es.length/\∀f e c,es=f++e::c->n=(Bs n (f++c)).length+(f++c).length
def ya5(n:Nat)(es:Ae):Prop:=es≠[]/\(∀p,p<n->0<deg es p->deg es p=2)/\∃m∈Bs n es,∀p,p<n->0<deg es p->lab n es p=m
variable {l1 l2:Ae}
def ws6{n:Nat}(h:InW n (l1++e::l2)):InW n (l1++l2)/\e.1<n/\e.2<n:=⟨λf c=>h f (by
  rcases KC.mp c with z |z
  ·exact ZJ _ z
  ·exact TV _ (IK _ z)),h e (TV _ JK)⟩
variable {f:Nat×Nat}
def wh5:f∈l1++e::l2↔f∈(l1++l2)++[e]:=by
 simp only[KC,HN,JG,cG,or_false];constructor
 ·rintro(z |z |z)
  ·exact .inl (.inl z)
  ·exact .inr z
  ·exact .inl (.inr z)
 ·rintro((z |z) |z)
  ·exact .inl z
  ·exact .inr (.inr z)
  ·exact .inr (.inl z)
def ku9{n:Nat}(h:InW n (l1++e::l2)):Bs n (l1++e::l2)=Bs n ((l1++l2)++[(e.1,e.2)]):=Zu h λf=>wh5
theorem wx6{n:Nat}(h:InW n es)(r:nP n es):ya5 n es:=by
 obtain⟨A,J,I⟩:=r;have B:∀l1 e l2,es=l1++e::l2->Ay (l1++l2) e.1 e.2/\n+1=(Bs n es).length+es.length:=by
  rintro l1 e l2 rfl;have z:=I l1 e l2 rfl;have⟨s,y,x⟩:=ws6 h;have P:(l1++e::l2).length=(l1++l2).length+1:=by simp;lia
  rw[ku9 h]at J ⊢;by_cases c:Ay (l1++l2) e.1 e.2
  ·refine⟨c,?_⟩;rw[Zt s y x c];lia
  ·have:=z7 s y x c;lia
 have K:∀p,p<n->0<deg es p->2<=deg es p:=λp q u=>by
  obtain⟨l1,e,l2,rfl,g⟩:=uZ u;have⟨c,_⟩:=B l1 e l2 rfl;rw[pC];by_cases w:e.1=e.2
  ·have:e.1=p/\e.2=p:=by rcases g with g |g<;>lia
   simp[ind,this.1,this.2]
  ·rcases g with g |g
   ·have:0<deg (l1++l2) p:=by
     rcases qJ (deg (l1++l2) p) with z |z
     ·rw[g]at c;exact absurd (g.trans (alone z c).symm) w
     ·exact z
    simp[ind,g];lia
   ·have:0<deg (l1++l2) p:=by
     rcases qJ (deg (l1++l2) p) with z |z
     ·rw[g]at c;exact absurd ((alone z c.symm).trans g.symm) w
     ·exact z
    simp[ind,g];lia
 have L:=xN n es h;have F:=jt5 h;have⟨e,g⟩:=jGi es A;have E:=Zq h (h e g).1 (xO g).1;have O:=qO E;have⟨l1,l2,H⟩:=qK g;have⟨_,M⟩:=B l1 e l2 H;have o:∀i,i<n->(λi=>2 * if decide (0<deg es i) then 1 else 0) i<=deg es i:=λi G=>by
  by_cases z:0<deg es i
  ·have:=K i G z;simp[z];exact this
  ·have C:deg es i=0:=by lia
   simp[C]
 have u:2 * touch n es<=sumTo (deg es) n:=by unfold touch;rw[<-Xw];exact nR o
 have l:sumTo (λi=>2 * if decide (0<deg es i) then 1 else 0) n=sumTo (deg es) n:=by rw[Xw];show 2 * touch n es=_;lia
 have one:(Xx n es).length=1:=by lia
 refine⟨A,λp q k=>?_,?_⟩
 ·have:=t8 o l p q;simp[k]at this;lia
 ·have⟨m,v⟩:=List.length_eq_one_iff.mp one;refine⟨m,?_,λp q k=>?_⟩
  ·have:m∈Xx n es:=by rw[v];exact JK
   have⟨a,_,b⟩:=Zr.mp this;exact Eg.mpr ⟨a,b⟩
  ·have:=Zq h q k;rw[v]at this;exact JG.mp this
def ko0{fs:Ae}(h:∀a b,(a,b)∈es->Ay fs a b)(c:Ay es i j):Ay fs i j:=by
 induction c with
 |refl i=>exact .refl i
 |tie m=>exact h _ _ m
 |symm _ l=>exact l.symm
 |trans _ _ k g=>exact k.trans g
def ki1{n:Nat}{fs:Ae}(l:InW n es)(k:InW n fs)(h:∀e∈es,e∈fs)(o:∀a b,(a,b)∈fs->Ay es a b):(Bs n fs).length=(Bs n es).length:=by
 have:Bs n fs=Bs n es:=by unfold Bs;apply lN;intro i g;have:lab n fs i=lab n es i:=Qn (Gi n fs k) (Gi n es l) (λi j _ _=>⟨λc=>ko0 o c,λc=>c.mono h⟩) (H_.mp g);rw[this]
 rw[this]
def cc(n:Nat)(es:Ae):Nat:=(Bs n es).length
def J7{n:Nat}{fs:Ae}(c:InW n es)(h:∀e,e∈es↔e∈fs):cc n es=cc n fs:=by unfold cc;rw[Zu c h]
def Lg(n:Nat):cc n []=n:=by unfold cc Bs;rw[gZ.mpr (λi c=>by simp[O9 n i (H_.mp c)]),QK]
def Bg{n:Nat}:InW n (e::es)↔(e.1<n/\e.2<n)/\InW n es:=
 ⟨λh=>⟨h e JK,λf c=>h f (IK _ c)⟩,λh f c=>(HN.mp c).elim (λz=>z ▸ h.1) (h.2 f)⟩
def zJ:f∈e::es↔f∈es++[e]:=by simp[or_comm]
def Nm{n:Nat}(h:InW n ((a,b)::es))(c:Ay es a b):cc n ((a,b)::es)=cc n es:=by have⟨⟨l,k⟩,g⟩:=Bg.mp h;rw[J7 h (λf=>zJ)];unfold cc;rw[Zt g l k c]
def Jl{n:Nat}(h:InW n ((a,b)::es))(c:¬ Ay es a b):cc n ((a,b)::es)+1=cc n es:=by have⟨⟨l,k⟩,g⟩:=Bg.mp h;rw[J7 h (λf=>zJ)];exact z7 g l k c
theorem Vq{n:Nat}(h:InW n (e::es)):cc n (e::es)<=cc n es/\cc n es<=cc n (e::es)+1:=by
 obtain⟨a,b⟩:=e;by_cases c:Ay es a b
 ·rw[Nm h c];lia
 ·have:=Jl h c;lia
theorem Ra(n:Nat):∀es:Ae,InW n es->n<=es.length+cc n es
 | [],_=>by rw[Lg];simp
 |e::es,h=>by have g:=Ra n es (Bg.mp h).2;have c:=Vq h;rw[MJ];lia
def u6(n:Nat):∀(fs es:Ae),InW n (fs++es)->cc n (fs++es)<=cc n es
 | [],_,_=>F_ _
 |f::fs,es,h=>by rw[lK]at h ⊢;exact PL (Vq h).1 (u6 n fs es (Bg.mp h).2)
def xT{n:Nat}{fs:Ae}(h:InW n fs)(c:∀e∈es,e∈fs):cc n fs<=cc n es:=by have k:InW n (fs++es):=λe g=>(KC.mp g).elim (h e) λz=>h e (c e z);have e:cc n fs=cc n (fs++es):=J7 h λf=>⟨λz=>ZJ _ z,λz=>(KC.mp z).elim id (c f)⟩;rw[e];exact u6 n fs es k
def cp(a b p:Nat):Nat:=if p=b then a else if b<p then p - 1 else p
def ct(a b:Nat)(e:Nat×Nat):Nat×Nat:=(min (cp a b e.1) (cp a b e.2),max (cp a b e.1) (cp a b e.2))
def up(b p:Nat):Nat:=if p<b then p else p+1
theorem tL{n:Nat}(c:a<b)(h:b<n)(g:p<n):cp a b p<n - 1:=by unfold cp;split<;>(try split)<;>lia
theorem nG{n:Nat}(c:a<b)(k:b<n)(h:InW n es):InW (n - 1) (es.map (ct a b)):=λe l=>by obtain⟨f,g,rfl⟩:=HX.mp l;have q:=tL c k (h f g).1;have o:=tL c k (h f g).2;unfold ct;dsimp only;lia
variable {c:Nat}
theorem xR{d:Nat}(h:(c,d)∈es):Ay (es.map (ct a b)) (cp a b c) (cp a b d):=by
 have l:ct a b (c,d)∈es.map (ct a b):=HX.mpr ⟨_,h,rfl⟩;have g:Ay (es.map (ct a b)) (ct a b (c,d)).1 (ct a b (c,d)).2:=Ay.tie l;unfold ct at g;dsimp only at g;by_cases k:cp a b c<=cp a b d
 ·rw[ZF k,gQ k]at g;exact g
 ·rw[Z_ (by lia),gM (by lia)]at g;exact g.symm
variable {x:Nat}
theorem we4(n:a<b){y:Nat}:Ay ((a,b)::es) x y↔Ay (es.map (ct a b)) (cp a b x) (cp a b y):=by
 have u:cp a b a=a:=by unfold cp;rw[if_neg (by lia),if_neg (by lia)]
 have o:cp a b b=a:=by unfold cp;rw[if_pos rfl]
 have back:∀x,Ay ((a,b)::es) x (up b (cp a b x)):=λx=>by
  by_cases h:x=b
  ·subst h;rw[o];have:up x a=a:=by unfold up;rw[if_pos n]
   rw[this];exact(Ay.tie JK).symm
  ·have:up b (cp a b x)=x:=by unfold cp up;rw[if_neg h];split<;>split<;>lia
   rw[this];exact Ay.refl _
 constructor
 ·intro c;refine(Ay.closed (P:=λj=>Ay (es.map (ct a b)) (cp a b x) (cp a b j)) (λc d k=>?_) c).mp (Ay.refl _);rcases HN.mp k with e |h
  ·cases e;rw[u,o]
  ·exact⟨λz=>z.trans (xR h),λz=>z.trans (xR h).symm⟩
 ·intro c;have s:Ay ((a,b)::es) x (up b (cp a b y)):=by
   refine(Ay.closed (P:=λj=>Ay ((a,b)::es) x (up b j)) (λc d k=>?_) c).mp (back x);have⟨⟨p,q⟩,r,e⟩:=HX.mp k;have g:Ay ((a,b)::es) (up b (cp a b p)) (up b (cp a b q)):=(back p).symm.trans ((Ay.tie (IK _ r)).trans (back q));unfold ct at e;dsimp only at e;cases e;by_cases l:cp a b p<=cp a b q
   ·rw[ZF l,gQ l];exact⟨λz=>z.trans g,λz=>z.trans g.symm⟩
   ·rw[Z_ (by lia),gM (by lia)];exact⟨λz=>z.trans g.symm,λz=>z.trans g⟩
  exact s.trans (back y).symm
theorem fY{n a b:Nat}(g:a<b)(l:b<n):∀es:Ae,InW n es->cc (n - 1) (es.map (ct a b))=cc n ((a,b)::es)
 | [],_=>by
  have h:InW n [(a,b)]:=λe u=>by rw[JG.mp u];exact⟨by omega,l⟩
  have:=Jl (es:=[]) h (λc=>by have:=Vt.mp c;omega);rw[Lg]at this;rw[ZZ,Lg];omega
 |f::es,h=>by
  have s:=fY g l es (Bg.mp h).2;have w:InW n ((a,b)::es):=Bg.mpr ⟨⟨by omega,l⟩,(Bg.mp h).2⟩;have v:InW n ((a,b)::f::es):=Bg.mpr ⟨⟨by omega,l⟩,h⟩;have r:InW n (f::(a,b)::es):=Bg.mpr ⟨(Bg.mp h).1,w⟩;rw[J7 v (λe=>by simp only[HN];exact⟨λz=>z.elim (λz=>.inr (.inl z)) λz=>z.elim .inl λz=>.inr (.inr z),λz=>z.elim (λz=>.inr (.inl z)) λz=>z.elim .inl λz=>.inr (.inr z)⟩:∀e,e∈(a,b)::f::es↔e∈f::(a,b)::es),HJ];have o:InW (n - 1) (ct a b f::es.map (ct a b)):=by rw[<-HJ];exact nG g l h
  obtain⟨p,q⟩:=f;have key:Ay (es.map (ct a b)) (ct a b (p,q)).1 (ct a b (p,q)).2↔Ay ((a,b)::es) p q:=by
   rw[we4 g];unfold ct;dsimp only;by_cases k:cp a b p<=cp a b q
   ·rw[ZF k,gQ k]
   ·rw[Z_ (by omega),gM (by omega)];exact⟨Ay.symm,Ay.symm⟩
  by_cases c:Ay ((a,b)::es) p q
  ·rw[Nm r c,<-s];exact Nm (a:=(ct a b (p,q)).1) (b:=(ct a b (p,q)).2) o (key.mpr c)
  ·have B:=Jl r c;have A:=Jl (a:=(ct a b (p,q)).1) (b:=(ct a b (p,q)).2) o (λz=>c (key.mp z));have y:cc (n - 1) (ct a b (p,q)::es.map (ct a b))=cc (n - 1) (((ct a b (p,q)).1,(ct a b (p,q)).2)::es.map (ct a b)):=rfl;omega
def subs:Ae->List Ae
 | []=>[[]]
 |e::ts=>subs ts++(subs ts).map (e::·)
def Jx:∀(ts:Ae)(A:Ae),A∈subs ts->∀e∈A,e∈ts
 | [],A,h,e,g=>by rw[JG.mp h]at g;exact g
 |f::ts,A,h,e,g=>by
  rcases KC.mp h with h |h
  ·exact IK _ (Jx ts A h e g)
  ·obtain⟨B,k,rfl⟩:=HX.mp h;rcases HN.mp g with z |z
   ·exact z ▸ JK
   ·exact IK _ (Jx ts B k e z)
def zF(g:Nat×Nat->Nat×Nat):∀h:Ae,subs (h.map g)=(subs h).map (·.map g)
 | []=>rfl
 |e::h=>by rw[HJ,subs,subs,zF g h,QQ,NP,NP];rfl
def term(n:Nat)(E:Ae)(u v:Int)(A:Ae):Int:=u ^ (cc n A - cc n E) * v ^ (A.length+cc n A - n)
def SS(n:Nat)(ts:Ae)(u v:Int):Int:=((subs ts).map (term n ts u v)).sum
def Jy{g:Type}(k:Int)(f:g->Int):∀l:List g,(l.map λx=>k * f x).sum=k * (l.map f).sum
 | []=>by simp
 |a::l=>by rw[HJ,OJ,Jy k f l,HJ,OJ,Int.mul_add]
def Du{k:Type}{f g:k->Int}{l:List k}(h:∀a∈l,f a=g a):(l.map f).sum=(l.map g).sum:=by rw[UW h]
def vD(n:Nat)(u v:Int):SS n [] u v=1:=by simp[SS,subs,term,Lg]
def pN(n:Nat)(e:Nat×Nat)(ts:Ae)(u v:Int):SS n (e::ts) u v=((subs ts).map (term n (e::ts) u v)).sum+((subs ts).map λA=>term n (e::ts) u v (e::A)).sum:=by unfold SS;rw[subs,QQ,dY,NP];rfl
theorem yI{n:Nat}{ts:Ae}(h:InW n ((a,a)::ts))(u v:Int):SS n ((a,a)::ts) u v=(1+v) * SS n ts u v:=by
 have o:=(Bg.mp h).2;have g:∀A∈subs ts,InW n A:=λA g e q=>o e (Jx ts A g e q);have l:cc n ((a,a)::ts)=cc n ts:=Nm h (Ay.refl _);rw[pN];have w:((subs ts).map (term n ((a,a)::ts) u v)).sum=SS n ts u v:=Du λA _=>by unfold term;rw[l]
 have s:((subs ts).map λA=>term n ((a,a)::ts) u v ((a,a)::A)).sum=v * SS n ts u v:=by unfold SS;rw[<-Jy];refine Du λA k=>?_;have y:=Ra n A (g A k);have r:cc n ((a,a)::A)=cc n A:=Nm (Bg.mpr ⟨(Bg.mp h).1,g A k⟩) (Ay.refl _);unfold term;rw[l,r,MJ,show A.length+1+cc n A - n=(A.length+cc n A - n)+1 by lia,dU];rw[dR (v ^ _) v,<-Z1,<-Z1,dR _ v]
 rw[w,s,pO,Int.one_mul]
theorem Ux{n:Nat}{ts:Ae}(k:a<b)(h:InW n ((a,b)::ts))(u v:Int):((subs ts).map λA=>term n ((a,b)::ts) u v ((a,b)::A)).sum=SS (n - 1) (ts.map (ct a b)) u v:=by have⟨⟨s,g⟩,l⟩:=Bg.mp h;have g:b<n:=g;unfold SS;rw[zF,NP];refine Du λA q=>?_;have o:InW n A:=λe r=>l e (Jx ts A q e r);have w:=Ra n _ (Bg.mpr ⟨⟨s,g⟩,o⟩:InW n ((a,b)::A));rw[MJ]at w;show term _ _ _ _ _=term (n - 1) (ts.map (ct a b)) u v (A.map (ct a b));unfold term;rw[fY k g A o,fY k g ts l,GP,MJ,show A.length+1+cc n ((a,b)::A) - n=A.length+cc n ((a,b)::A) - (n - 1) by lia]
def yJ{n:Nat}{ts:Ae}(g:a<b)(h:InW n ((a,b)::ts))(c:Ay ts a b)(u v:Int):SS n ((a,b)::ts) u v=SS n ts u v+SS (n - 1) (ts.map (ct a b)) u v:=by rw[pN,Ux g h];congr 1;refine Du λA _=>?_;unfold term;rw[Nm h c]
theorem vG{n:Nat}{ts:Ae}(g:a<b)(h:InW n ((a,b)::ts))(c:¬ Ay ts a b)(u v:Int):SS n ((a,b)::ts) u v=(1+u) * SS (n - 1) (ts.map (ct a b)) u v:=by
 have⟨r,q⟩:=Bg.mp h;rw[pN,Ux g h];have B:((subs ts).map (term n ((a,b)::ts) u v)).sum=u * SS (n - 1) (ts.map (ct a b)) u v:=by rw[<-Ux g h,<-Jy];refine Du λA s=>?_;have l:∀e∈A,e∈ts:=Jx ts A s;have w:InW n A:=λe o=>q e (l e o);have k:InW n ((a,b)::A):=Bg.mpr ⟨r,w⟩;have E:=Jl k (λz=>c (z.mono l));have y:=Ra n _ k;have C:cc n ((a,b)::ts)<=cc n ((a,b)::A):=xT h λe o=>(HN.mp o).elim (λz=>z ▸ JK) λz=>IK _ (l e z);rw[MJ]at y;unfold term;rw[MJ,show cc n A - cc n ((a,b)::ts)=(cc n ((a,b)::A) - cc n ((a,b)::ts))+1 by lia,show A.length+cc n A - n=A.length+1+cc n ((a,b)::A) - n by lia,dU];rw[dR (u ^ _) u,Z1]
 rw[B,pO,Int.one_mul,Int.add_comm]
abbrev Tr:=Int×Int×Int
abbrev Kv:=(Int×Int)×Int
def val(x y:Int)(r:Tr):Int:=r.2.2 * x ^ r.1.toNat * y ^ r.2.1.toNat
def look:List Kv->Int×Int->Int
 | [],_=>0
 |p::r,k=>if p.1=k then p.2 else look r k
def put:List Kv->Int×Int->Int->List Kv
 | [],k,v=>[(k,v)]
 |p::r,k,v=>if p.1=k then(p.1,v)::r else p::put r k v
def step(l:List Kv)(r:Tr):List Kv:=put l (r.1,r.2.1) (look l (r.1,r.2.1)+r.2.2)
def acc(l:List Kv)(g:List Tr):List Kv:=g.foldl step l
theorem wC(f:Int×Int->Int)(k:Int×Int)(u:Int):∀l:List Kv,((put l k (look l k+u)).map λp=>p.2 * f p.1).sum=(l.map λp=>p.2 * f p.1).sum+u * f k
 | []=>by simp[put,look]
 |p::r=>by
  by_cases h:p.1=k
  ·rw[put,look,if_pos h,if_pos h,HJ,OJ,HJ,OJ];show(p.2+u) * f p.1+_=_;rw[pO,h];lia
  ·simp only[put,look,if_neg h,HJ,OJ,wC f k u r];lia
theorem x_(f:Int×Int->Int):∀(g:List Tr)(l:List Kv),((acc l g).map λp=>p.2 * f p.1).sum=(l.map λp=>p.2 * f p.1).sum+(g.map λr=>r.2.2 * f (r.1,r.2.1)).sum
 | [],l=>by simp[acc]
 |r::g,l=>by show((acc (step l r) g).map _).sum=_;rw[x_ f g (step l r),step,wC,HJ,OJ];lia
def W6{k:Int×Int}{v:Int}:∀{l:List Kv}{q:Int×Int},q∈(put l k v).map (·.1)↔q∈l.map (·.1)\/q=k
 | [],q=>by simp[put]
 |p::r,q=>by
  by_cases h:p.1=k
  ·simp only[put,if_pos h,HJ,HN];exact⟨λz=>.inl z,λz=>z.elim id λz=>.inl (z.trans h.symm)⟩
  ·simp only[put,if_neg h,HJ,HN,W6 (l:=r)];exact⟨λz=>z.elim (λz=>.inl (.inl z)) λz=>z.elim (λz=>.inl (.inr z)) .inr,λz=>z.elim (λz=>z.elim .inl λz=>.inr (.inl z)) λz=>.inr (.inr z)⟩
def Zx{k:Int×Int}{v:Int}:∀{l:List Kv},(l.map (·.1)).Nodup->((put l k v).map (·.1)).Nodup
 | [],_=>by simp[put]
 |p::r,h=>by
  rw[HJ,RZ]at h;by_cases g:p.1=k
  ·simp only[put,if_pos g,HJ,RZ];exact h
  ·simp only[put,if_neg g,HJ,RZ];exact⟨λz=>(W6.mp z).elim h.1 g,Zx h.2⟩
def S7:∀(g:List Tr){l:List Kv},(l.map (·.1)).Nodup->((acc l g).map (·.1)).Nodup
 | [],_,h=>h
 |r::g,l,h=>S7 g (l:=step l r) (Zx h)
def Vl:∀(g:List Tr){l:List Kv}{q:Int×Int},q∈(acc l g).map (·.1)->q∈l.map (·.1)\/∃r∈g,q=(r.1,r.2.1)
 | [],_,_,h=>.inl h
 |r::g,l,q,h=>by
  rcases Vl g (l:=step l r) h with z | ⟨s,k,e⟩
  ·rcases W6.mp z with z |z
   ·exact .inl z
   ·exact .inr ⟨r,JK,z⟩
  ·exact .inr ⟨s,IK _ k,e⟩
theorem z9:∀{l:List Kv}{k:Int×Int},(∀p∈l,0<=p.2)->0<=look l k
 | [],_,_=>Int.le_refl _
 |p::r,k,h=>by
  unfold look;split
  ·exact h p JK
  ·exact z9 λq g=>h q (IK _ g)
theorem wD{k:Int×Int}{v:Int}(n:0<=v):∀{l:List Kv},(∀p∈l,0<=p.2)->∀p∈put l k v,0<=p.2
 | [],_,p,g=>by rw[JG.mp g];exact n
 |q::r,h,p,g=>by
  unfold put at g;split at g
  ·rcases HN.mp g with z |z
   ·rw[z];exact n
   ·exact h p (IK _ z)
  ·rcases HN.mp g with z |z
   ·rw[z];exact h q JK
   ·exact wD n (λq o=>h q (IK _ o)) p z
theorem yC:∀(g:List Tr){l:List Kv},(∀r∈g,0<=r.2.2)->(∀p∈l,0<=p.2)->∀p∈acc l g,0<=p.2
 | [],_,_,h=>h
 |r::g,l,n,h=>yC g (l:=step l r) (λs o=>n s (IK _ o)) (wD (by
   have u:=z9 (k:=(r.1,r.2.1)) h;have q:=n r JK;lia) h)
def jP:List (Int×Int):=(List.range 10).flatMap λ(i:Nat)=>(List.range (10 - i)).map λ(j:Nat)=>((i:Int),(j:Int))
def kd9:jP.length=55:=by decide
theorem ki0{q:Int×Int}(h:0<=q.1)(g:0<=q.2)(k:q.1+q.2<=9):q∈jP:=by unfold jP;rw[List.mem_flatMap];refine⟨q.1.toNat,H_.mpr (by lia),HX.mpr ⟨q.2.toNat,H_.mpr (by lia),?_⟩⟩;rw[aC h,aC g]
theorem Pb{g:Type}[DecidableEq g]:∀{l m:List g},l.Nodup->(∀x∈l,x∈m)->l.length<=m.length
 | [],m,_,_=>WL _
 |a::l,m,h,n=>by have⟨r,q⟩:=RZ.mp h;have o:=n a JK;have:=Pb (l:=l) (m:=m.erase a) q λx k=>(List.mem_erase_of_ne (λ(z:x=a)=>r (z ▸ k))).mpr (n x (IK _ k));rw[jGl o]at this;have s:0<m.length:=qO o;rw[MJ];lia
def few{l:List Kv}(n:(l.map (·.1)).Nodup)(h:∀p∈l,0<=p.1.1/\0<=p.1.2/\p.1.1+p.1.2<=9):l.length<=55:=by
 have:=Pb n (m:=jP) λq k=>by obtain⟨p,g,rfl⟩:=HX.mp k;exact ki0 (h p g).1 (h p g).2.1 (h p g).2.2
 rw[GP,kd9]at this;exact this
structure G9(m:Nat)(T:List Tr):Prop where
 few:T.length<=55
 pos:∀r∈T,0<=r.1/\0<=r.2.1/\r.1+r.2.1<=m
 tim:∀r∈T,0<=r.2.2
 all:(T.map (·.2.2)).sum<=2 ^ m
def yr6(r:Tr):val 1 1 r=r.2.2:=by unfold val;rw[Int.one_pow,Int.one_pow,bC,bC]
theorem Qx:∀{l:List Int},(∀x∈l,0<=x)->0<=l.sum
 | [],_=>by simp
 |a::l,h=>by have n:=h a JK;have k:=Qx λx g=>h x (IK _ g);rw[OJ];lia
theorem Ww:∀{l:List Int}{a:Int},(∀x∈l,0<=x)->a∈l->a<=l.sum
 |b::l,a,h,k=>by
  have o:=h b JK;have n:=Qx λx g=>h x (IK _ g);rw[OJ];rcases HN.mp k with z |z
  ·rw[z];lia
  ·have:=Ww (λx g=>h x (IK _ g)) z;lia
variable {T:List Tr}
def G9.each(h:G9 m T):∀r∈T,r.2.2<=2 ^ m:=λr l =>
 kZ (Ww (λx g=>by obtain⟨s,k,rfl⟩:=HX.mp g;exact h.tim s k) (HX.mpr ⟨r,l,rfl⟩)) h.all
def rowOf(p:Kv):Tr:=(p.1.1,p.1.2,p.2)
def kept(g:List Tr):List Tr:=((acc [] g).filter λp=>decide (p.2≠0)).map rowOf
def Oq(f:Int×Int->Int):∀l:List Kv,((l.filter λp=>decide (p.2≠0)).map λp=>p.2 * f p.1).sum=(l.map λp=>p.2 * f p.1).sum
 | []=>rfl
 |p::l=>by
  by_cases h:p.2=0
  ·rw[eO (by simp[h]),HJ,OJ,Oq f l,h];simp
  ·rw[h_ (by simp[h]),HJ,OJ,Oq f l,HJ,OJ]
def kt3(f:Int×Int->Int)(g:List Tr):((kept g).map λr=>r.2.2 * f (r.1,r.2.1)).sum=(g.map λr=>r.2.2 * f (r.1,r.2.1)).sum:=by
 unfold kept;rw[NP];have e:(λr:Tr=>r.2.2 * f (r.1,r.2.1))∘rowOf=λp:Kv=>p.2 * f p.1:=by funext p;rfl
 rw[e,Oq,x_];simp
theorem Ob{n:Type}(f:n->Int){l m:List n}(h:l.Perm m):(l.map f).sum=(m.map f).sum:=by
 induction h with
 |nil=>rfl
 |cons a _ o=>simp only[HJ,OJ,o]
 |swap a b l=>simp only[HJ,OJ];lia
 |trans _ _ k g=>exact k.trans g
def yP(x y:Int)(r:Tr):val x y r=r.2.2 * ((λq:Int×Int=>x ^ q.1.toNat * y ^ q.2.toNat) (r.1,r.2.1)):=by unfold val;rw[Z1]
def Rr(x y:Int)(g:List Tr):((kept g).map (val x y)).sum=(g.map (val x y)).sum:=by have:=kt3 (λq:Int×Int=>x ^ q.1.toNat * y ^ q.2.toNat) g;rw[UW λr _=>yP x y r,UW (l:=g) λr _=>yP x y r];exact this
variable {g:List Tr}
def kt1{r:Tr}(h:r∈kept g):∃s∈g,r.1=s.1/\r.2.1=s.2.1:=by
 obtain⟨p,k,rfl⟩:=HX.mp h;have k:=(MF.mp k).1;rcases Vl g (l:=[]) (HX.mpr ⟨p,k,rfl⟩) with z | ⟨s,n,e⟩
 ·simp at z
 ·exact⟨s,n,by rw[Prod.ext_iff]at e;exact⟨e.1,e.2⟩⟩
def kt4(h:∀r∈g,0<=r.2.2):∀r∈kept g,0<=r.2.2:=λr k=>by obtain⟨p,l,rfl⟩:=HX.mp k;exact yC g h (by simp) p (MF.mp l).1
def U3(h:∀r∈g,0<=r.1/\0<=r.2.1/\r.1+r.2.1<=9):(acc [] g).length<=55:=
 Gr.few (S7 g (by simp)) λp n=>by
  rcases Vl g (l:=[]) (HX.mpr ⟨p,n,rfl⟩) with z | ⟨s,k,e⟩
  ·simp at z
  ·rw[e];exact h s k
theorem G9.of_rows(y:m<=9)(k:T.Perm (kept g))(o:∀r∈g,0<=r.1/\0<=r.2.1/\r.1+r.2.1<=m)(u:∀r∈g,0<=r.2.2)(n:(g.map (·.2.2)).sum<=2 ^ m):G9 m T:=by
 refine⟨?_,λr h=>?_,λr h=>kt4 u r (k.mem_iff.mp h),?_⟩
 ·rw[k.length_eq];unfold kept;rw[GP];exact PL (WR _ _) (U3 λr h=>by have:=o r h;lia)
 ·have⟨s,q,w,v⟩:=kt1 (k.mem_iff.mp h);rw[w,v];exact o s q
 ·have e:∀l:List Tr,(l.map (·.2.2)).sum=(l.map (val 1 1)).sum:=λl=>by rw[UW λr _=>yr6 r]
  rw[e]at n ⊢;rw[Ob _ k,Rr];exact n
def times(S T:List Tr):List Tr:=S.flatMap λr=>T.map λs=>(r.1+s.1,r.2.1+s.2.1,r.2.2 * s.2.2)
def Pr(S:List Tr)(s:Tr):times S [s]=S.map λr=>(r.1+s.1,r.2.1+s.2.1,r.2.2 * s.2.2):=by
 unfold times;induction S with
 |nil=>rfl
 |cons a l h=>rw[jIa,h];rfl
theorem yk7(x y:Int){r:Tr}(h:0<=r.2.1):val x y (r.1+0,r.2.1+1,r.2.2 * 1)=y * val x y r:=by unfold val;show r.2.2 * 1 * x ^ (r.1+0).toNat * y ^ (r.2.1+1).toNat=_;rw[bC,YJ,show(r.2.1+1).toNat=r.2.1.toNat+1 by lia,dU,<-Z1,dR _ y]
theorem yk6(x y:Int){r:Tr}(h:0<=r.1):val x y (r.1+1,r.2.1+0,r.2.2 * 1)=x * val x y r:=by unfold val;show r.2.2 * 1 * x ^ (r.1+1).toNat * y ^ (r.2.1+0).toNat=_;rw[bC,YJ,show(r.1+1).toNat=r.1.toNat+1 by lia,dU,<-Z1,dR _ x,Z1 x]
theorem tZ:(2:Int) ^ m<=2 ^ (m+1):=by have:(0:Int)<=2 ^ m:=p7 (by decide);rw[dU];lia
variable {l:List Tr}
theorem kk0{n:Nat}{ts:Ae}(o:G9 m T)(v:m+1<=9)(u:∀x y,(T.map (val x y)).sum=SS n ts (x - 1) (y - 1))(h:InW n ((a,a)::ts))(p:l.Perm (kept (times T [(0,1,1)]))):
  G9 (m+1) l/\∀x y,(l.map (val x y)).sum=SS n ((a,a)::ts) (x - 1) (y - 1):=by
 rw[Pr]at p;refine⟨G9.of_rows v p (λr k=>?_) (λr k=>?_) ?_,λx y=>?_⟩
 ·obtain⟨s,q,rfl⟩:=HX.mp k;have:=o.pos s q;dsimp only;lia
 ·obtain⟨s,q,rfl⟩:=HX.mp k;have:=o.tim s q;dsimp only;lia
 ·rw[NP,UW (λr _=>by show r.2.2 * 1=r.2.2;exact bC _)];exact kZ o.all tZ
 ·rw[Ob _ p,Rr,NP,yI h,<-u,UW (λr k=>by show val x y (r.1+0,r.2.1+1,r.2.2 * 1)=y * val x y r;exact yk7 x y (o.pos r k).2.1),Jy];congr 1;lia
theorem kz6{n:Nat}{ts:Ae}(u:a<b)(o:G9 m T)(w:m+1<=9)(v:∀x y,(T.map (val x y)).sum=SS (n - 1) (ts.map (ct a b)) (x - 1) (y - 1))(h:InW n ((a,b)::ts))(c:¬ Ay ts a b)(p:l.Perm (kept (times T [(1,0,1)]))):
  G9 (m+1) l/\∀x y,(l.map (val x y)).sum=SS n ((a,b)::ts) (x - 1) (y - 1):=by
 rw[Pr]at p;refine⟨G9.of_rows w p (λr k=>?_) (λr k=>?_) ?_,λx y=>?_⟩
 ·obtain⟨s,q,rfl⟩:=HX.mp k;have:=o.pos s q;dsimp only;lia
 ·obtain⟨s,q,rfl⟩:=HX.mp k;have:=o.tim s q;dsimp only;lia
 ·rw[NP,UW (λr _=>by show r.2.2 * 1=r.2.2;exact bC _)];exact kZ o.all tZ
 ·rw[Ob _ p,Rr,NP,vG u h c,<-v,UW (λr k=>by show val x y (r.1+1,r.2.1+0,r.2.2 * 1)=x * val x y r;exact yk6 x y (o.pos r k).1),Jy];congr 1;lia
variable {U:List Tr}
theorem kj9{n:Nat}{ts:Ae}(q:a<b)(u:G9 m T)(s:G9 m U)(w:m+1<=9)(v:∀x y,(T.map (val x y)).sum=SS n ts (x - 1) (y - 1))(k:∀x y,(U.map (val x y)).sum=SS (n - 1) (ts.map (ct a b)) (x - 1) (y - 1))(h:InW n ((a,b)::ts))(c:Ay ts a b)(p:l.Perm (kept (T++U))):
  G9 (m+1) l/\∀x y,(l.map (val x y)).sum=SS n ((a,b)::ts) (x - 1) (y - 1):=by
 refine⟨G9.of_rows w p (λr o=>?_) (λr o=>?_) ?_,λx y=>?_⟩
 ·rcases KC.mp o with z |z
  ·have:=u.pos r z;lia
  ·have:=s.pos r z;lia
 ·rcases KC.mp o with z |z
  ·exact u.tim r z
  ·exact s.tim r z
 ·rw[QQ,dY,dU];have:=u.all;have:=s.all;lia
 ·rw[Ob _ p,Rr,QQ,dY,v,k,yJ q h c]
def kz7(n:Nat):G9 0 [(0,0,1)]/\∀x y,(([(0,0,1)]:List Tr).map (val x y)).sum=SS n [] (x - 1) (y - 1):=by
 refine⟨⟨by simp,λr h=>?_,λr h=>?_,by simp⟩,λx y=>?_⟩
 ·rw[JG.mp h];simp
 ·rw[JG.mp h];simp
 ·rw[vD];simp[val]
def key(r:Tr):Int×Int:=(r.1,r.2.1)
structure Red(T:List Tr):Prop where
 nd:(T.map key).Nodup
 nz:∀r∈T,r.2.2≠0
def Red.perm(p:T.Perm U)(h:Red U):Red T:=⟨(p.map key).nodup_iff.mpr h.nd,λr k=>h.nz r (p.mem_iff.mp k)⟩
def kt2(g:List Tr):Red (kept g):=by
 refine⟨?_,λr h=>?_⟩
 ·unfold kept;rw[NP];have:(key∘rowOf)=λp:Kv=>p.1:=rfl;rw[this];exact(List.filter_sublist.map _).nodup (S7 g (l:=[]) lD)
 ·unfold kept at h;obtain⟨p,k,rfl⟩:=HX.mp h;have:=(MF.mp k).2;exact of_decide_eq_true this
def kz9{n:Nat}{ts A:Ae}(h:InW n ts)(o:A∈subs ts):InW n A:=λe k=>h e (Jx ts A o e k)
theorem wp3{n:Nat}{ts:Ae}(k:a<b)(h:InW n ((a,b)::ts))(c:¬ Ay ts a b)(u v:Int):SS n ts u v=SS (n - 1) (ts.map (ct a b)) u v:=by rw[<-Ux k h];have⟨w,r⟩:=Bg.mp h;refine Du λA q=>?_;have s:∀e∈A,e∈ts:=Jx ts A q;have o:InW n ((a,b)::A):=Bg.mpr ⟨w,kz9 r q⟩;have B:=Jl o (λz=>c (z.mono s));have y:=Jl h c;unfold term;rw[MJ,show cc n A - cc n ts=cc n ((a,b)::A) - cc n ((a,b)::ts) by omega,show A.length+cc n A - n=A.length+1+cc n ((a,b)::A) - n by omega]
def sg(k:Nat):Int:=if k % 2=0 then 1 else -1
theorem vU(k:Nat):sg (k+1) = -sg k:=by
 unfold sg;by_cases h:k % 2=0
 ·rw[if_pos h,if_neg (by lia)]
 ·rw[if_neg h,if_pos (by lia)];rfl
def Flw(n:Nat)(ts:Ae)(H:Int):Int:=sg (ts.length+cc n ts - n) * SS n ts (-1) (-H)
theorem wc0(n:Nat)(H:Int):Flw n [] H=1:=by unfold Flw;rw[vD,Lg,gP,show 0+n - n=0 by lia];rfl
theorem kl2{n:Nat}{ts:Ae}(h:InW n ((a,a)::ts))(H:Int):Flw n ((a,a)::ts) H=(H - 1) * Flw n ts H:=by have k:=Ra n ts (Bg.mp h).2;unfold Flw;rw[yI h,Nm h (Ay.refl _),MJ,show ts.length+1+cc n ts - n=(ts.length+cc n ts - n)+1 by lia,vU];rw[<-Z1,<-Z1,dR (H - 1),Int.neg_mul,<-Int.mul_neg];congr 2;lia
def wb9{n:Nat}{ts:Ae}(k:a<b)(h:InW n ((a,b)::ts))(c:¬ Ay ts a b)(H:Int):Flw n ((a,b)::ts) H=0:=by unfold Flw;rw[vG k h c];simp
theorem kl0{n:Nat}{ts:Ae}(k:a<b)(h:InW n ((a,b)::ts))(c:Ay ts a b)(H:Int):Flw n ((a,b)::ts) H=Flw (n - 1) (ts.map (ct a b)) H - Flw n ts H:=by have⟨⟨s,o⟩,q⟩:=Bg.mp h;have o:b<n:=o;have r:=Ra n ts q;unfold Flw;rw[yJ k h c,fY k o ts q,Nm h c,MJ,GP,show ts.length+1+cc n ts - n=(ts.length+cc n ts - n)+1 by lia,show ts.length+cc n ts - (n - 1)=(ts.length+cc n ts - n)+1 by lia,vU,Int.mul_add,Int.neg_mul];lia
def u5(n:Nat)(ts:Ae):cc n ts<=n:=by unfold cc Bs;have:=WR (λi=>decide (lab n ts i=i)) (List.range n);rw[QK]at this;exact this
def bits(m k:Nat):List Nat:=(List.range m).filter λt=>decide (k / 2 ^ t % 2=1)
variable {k:Nat}
def wd6(h:k<2 ^ m):bits (m+1) k=bits m k:=by unfold bits;rw[dZ,lO,eO (by simp[jIg h]),List.filter_nil,YK]
theorem wd5(h:k<2 ^ m):bits (m+1) (2 ^ m+k)=bits m k++[m]:=by
 unfold bits;rw[dZ,lO];congr 1
 ·refine lN λt n=>?_;rw[H_]at n;rw[decide_eq_decide];have e:2 ^ m=2 ^ t * (2 * 2 ^ (m - t - 1)):=by rw[<-pU,<-Nat.pow_succ,<-Nat.pow_add];congr 1;lia
  rw[e,Nat.mul_add_div (jIk t)];lia
 ·rw[h_]
  ·rfl
  ·have:(2 ^ m+k) / 2 ^ m=1:=by rw[Nat.add_div_left _ (jIk m),jIg h]
   simp[this]
def Bm(ts:Ae)(s:List Nat):Ae:=s.map λk=>ts.getD k (0,0)
def sft(r:Nat->Int)(a b:Nat)(x:Int):Nat->Int:=λp=>r p - (if p=a then x else 0)+(if p=b then x else 0)
def nought(h n:Nat)(r:Nat->Int):Bool:=(List.range n).all λp=>decide (r p % (h:Int)=0)
def Dy(f:Nat->Nat):Nat->Nat
 |0=>0
 |k+1=>Dy f k+f k
def Fn(h n:Nat):Ae->(Nat->Int)->Nat
 | [],r=>if nought h n r then 1 else 0
 | (a,b)::es,r=>Dy (λx=>Fn h n es (sft r a b ((x:Int)+1))) (h - 1)
theorem Cv{f g:Nat->Nat}:∀{k:Nat},(∀x,x<k->f x=g x)->Dy f k=Dy g k
 |0,_=>rfl
 |k+1,h=>by rw[Dy,Dy,Cv λx n=>h x (by lia),h k (by lia)]
theorem zE(f g:Nat->Nat):∀k,Dy (λx=>f x+g x) k=Dy f k+Dy g k
 |0=>rfl
 |k+1=>by rw[Dy,Dy,Dy,zE f g k];lia
def Pk:∀k,Dy (λ_=>0) k=0
 |0=>rfl
 |k+1=>by rw[Dy,Pk k]
def ja0(f:Nat->Nat->Nat)(m:Nat):∀k,Dy (λx=>Dy (f x) m) k=Dy (λy=>Dy (λx=>f x y) k) m
 |0=>(Pk m).symm
 |k+1=>by rw[Dy,ja0 f m k,<-zE];exact Cv λx _=>rfl
theorem Qw(f:Nat->Nat):∀k,Dy f (k+1)=f 0+Dy (λx=>f (x+1)) k
 |0=>by simp[Dy]
 |k+1=>by rw[Dy,Qw f k,Dy];lia
theorem y_(f:Nat->Nat):∀k,Dy (λx=>f (k - 1 - x)) k=Dy f k
 |0=>rfl
 |k+1=>by rw[Qw,Dy,<-y_ f k,gJ];congr 1;refine Cv λx h=>?_;congr 1;lia
theorem zB{f:Nat->Nat}{x0:Nat}:∀{k:Nat},x0<k->f x0=1->(∀x,x<k->x≠x0->f x=0)->Dy f k=1
 |0,h,_,_=>by lia
 |k+1,h,o,n=>by
  rw[Dy];by_cases e:x0=k
  ·subst e;rw[Cv (g:=λ_=>0) λx q=>n x (by lia) (by lia),Pk,o]
  ·rw[zB (by lia) o λx q=>n x (by lia),n k (by lia) (by lia)]
variable {r:Nat->Int}{h:Nat}
def jd9{n:Nat}{s:Nat->Int}(e:∀p,p<n->r p % (h:Int)=s p % (h:Int)):nought h n r=nought h n s:=by
 unfold nought;rw[bF,PQ,PQ];constructor
 ·intro z p o;have:=z p o;rw[e p (H_.mp o)]at this;exact this
 ·intro z p o;have:=z p o;rw[<-e p (H_.mp o)]at this;exact this
theorem vV{s:Nat->Int}{x y:Int}(e:r p % (h:Int)=s p % (h:Int))(ex:x % (h:Int)=y % (h:Int)):sft r a b x p % (h:Int)=sft s a b y p % (h:Int):=by
 unfold sft;have o:(if p=a then x else 0) % (h:Int)=(if p=a then y else 0) % (h:Int):=by split<;>simp[ex]
 have n:(if p=b then x else 0) % (h:Int)=(if p=b then y else 0) % (h:Int):=by split<;>simp[ex]
 rw[W_,kW,e,o,n,<-kW,<-W_]
def Nb{h n:Nat}:∀(es:Ae){r s:Nat->Int},(∀p,p<n->r p % (h:Int)=s p % (h:Int))->Fn h n es r=Fn h n es s
 | [],r,s,e=>by rw[Fn,Fn,jd9 e]
 | (a,b)::es,r,s,e=>by rw[Fn,Fn];exact Cv λx _=>Nb es λp o=>vV (e p o) rfl
theorem wc3{n:Nat}:Fn h n ((a,b)::es) r=Fn h n ((b,a)::es) r:=by
 rw[Fn,Fn,<-y_];refine Cv λx u=>Nb es λp v=>?_;have e:(((h - 1 - 1 - x:Nat):Int)+1)=(h:Int) - ((x:Int)+1):=by lia
 rw[e];generalize (x:Int)+1=y;have s:sft r a b ((h:Int) - y) p % (h:Int)=sft r a b (-y) p % (h:Int):=vV rfl (by rw[show(h:Int) - y = -y+h by lia,Int.add_emod_right]);rw[s];congr 1;unfold sft;by_cases q:p=a<;>by_cases o:p=b<;>simp[q,o]<;>lia
def ctr(a b:Nat)(r:Nat->Int):Nat->Int:=λq=>if q=a then r a+r b else r (up b q)
theorem we5{d:Nat}(A:a<b){x:Int}(q:Nat):ctr a b (sft r c d x) q=sft (ctr a b r) (cp a b c) (cp a b d) x q:=by
 have y:∀c,(if a=c then x else 0)+(if b=c then x else 0)=if a=cp a b c then x else 0:=λc=>by
  unfold cp;by_cases o:c=b
  ·subst o;rw[if_neg (by lia),if_pos rfl,if_pos rfl,if_pos rfl];lia
  ·rw[if_neg (λz:b=c=>o z.symm),if_neg o];by_cases u:b<c
   ·rw[if_pos u,if_neg (by lia),if_neg (by lia)];rfl
   ·rw[if_neg u];lia
 have w:∀c,q≠a->(if up b q=c then x else 0)=if q=cp a b c then x else 0:=λc n=>by
  unfold cp up;by_cases o:c=b
  ·subst o;rw[if_pos rfl,if_neg n];split<;>rw[if_neg (by lia)]
  ·rw[if_neg o];by_cases u:b<c
   ·rw[if_pos u];by_cases s:q<b
    ·rw[if_pos s,if_neg (by lia),if_neg (by lia)]
    ·rw[if_neg s];by_cases v:q+1=c
     ·rw[if_pos v,if_pos (by lia)]
     ·rw[if_neg v,if_neg (by lia)]
   ·rw[if_neg u];by_cases s:q<b
    ·rw[if_pos s]
    ·rw[if_neg s,if_neg (by lia),if_neg (by lia)]
 unfold ctr;by_cases n:q=a
 ·subst n;rw[if_pos rfl];unfold sft;dsimp only;rw[if_pos rfl,<-y c,<-y d];lia
 ·rw[if_neg n];unfold sft;dsimp only;rw[if_neg n,w c n,w d n]
theorem ky7(r:Nat->Int)(a b c d:Nat)(x y:Int):sft (sft r a b x) c d y=sft (sft r c d y) a b x:=by funext p;unfold sft;lia
theorem yL{h n a b:Nat}(M:1<=h)(w:a<b)(H:b<n):∀(es:Ae)(r:Nat->Int),InW n es->Dy (λx=>Fn h n es (sft r a b (x:Int))) h=Fn h (n - 1) (es.map (ct a b)) (ctr a b r)
 | [],r,_=>by
  rw[ZZ,Fn];by_cases e:nought h (n - 1) (ctr a b r)=true
  ·rw[if_pos e];have F:=λq s=>of_decide_eq_true (PQ.mp e q (H_.mpr s));have O:(r a+r b) % (h:Int)=0:=by have:=F a (by lia);unfold ctr at this;rw[if_pos rfl]at this;exact this
   have s:∀p,p<n->p≠a->p≠b->r p % (h:Int)=0:=λp u o B=>by
    by_cases A:p<b
    ·have:=F p (by lia);unfold ctr up at this;rw[if_neg o,if_pos A]at this;exact this
    ·have:=F (p - 1) (by lia);unfold ctr up at this;rw[if_neg (by lia),if_neg (by lia),show p - 1+1=p by lia]at this;exact this
   have b1:=bD (r a) (b:=(h:Int)) (by lia);have b2:=bJ (r a) (b:=(h:Int)) (by lia);refine zB (x0:=(r a % (h:Int)).toNat) (by lia) ?_ λx G L=>?_
   ·rw[Fn,if_pos];refine PQ.mpr λp u=>decide_eq_true ?_;rw[aC b1];have u:=H_.mp u;unfold sft;by_cases o:p=a
    ·subst o;rw[if_pos rfl,if_neg (by lia),YJ,show r p - r p % (h:Int)=(h:Int) * (r p / (h:Int)) by have:=Int.mul_ediv_add_emod (r p) (h:Int);lia,Int.mul_emod_right]
    ·rw[if_neg o];by_cases B:p=b
     ·subst B;rw[if_pos rfl,gF,Int.add_comm,W_,qL _ (pP _),<-W_];exact O
     ·rw[if_neg B,gF,YJ];exact s p u o B
   ·rw[Fn,if_neg];intro z;have z:=of_decide_eq_true (PQ.mp z a (H_.mpr (by lia)));unfold sft at z;rw[if_pos rfl,if_neg (by lia),YJ]at z;have:(r a) % (h:Int)=(x:Int) % (h:Int):=Int.emod_eq_emod_iff_emod_sub_eq_zero.mpr z;rw[jIb (a:=(x:Int)) (by lia) (by lia)]at this;lia
  ·rw[if_neg e];rw[Cv (g:=λ_=>0) λx G=>?_,Pk];rw[Fn,if_neg];intro z;have z:=λp u=>of_decide_eq_true (PQ.mp z p (H_.mpr u));refine e (PQ.mpr λq s=>decide_eq_true ?_);have s:=H_.mp s;unfold ctr;by_cases o:q=a
   ·rw[if_pos o];have E:=z a (by lia);have C:=z b H;unfold sft at E C;rw[if_pos rfl,if_neg (by lia),YJ]at E;rw[if_neg (by lia),if_pos rfl,gF]at C;rw[show r a+r b=(r a - x)+(r b+x) by lia,W_,E,C];simp
   ·rw[if_neg o];unfold up;by_cases A:q<b
    ·rw[if_pos A];have:=z q (by lia);unfold sft at this;rw[if_neg o,if_neg (by lia),gF,YJ]at this;exact this
    ·rw[if_neg A];have:=z (q+1) (by lia);unfold sft at this;rw[if_neg (by lia),if_neg (by lia),gF,YJ]at this;exact this
 | (c,d)::es,r,K=>by
  have I:=λr=>yL M w H es r (Bg.mp K).2;have P:Dy (λx=>Fn h n ((c,d)::es) (sft r a b (x:Int))) h=Fn h (n - 1) ((cp a b c,cp a b d)::es.map (ct a b)) (ctr a b r):=by
   rw[Fn];show Dy (λx=>Fn h n ((c,d)::es) (sft r a b (x:Int))) h=_;rw[Cv (g:=λx=>Dy (λy=>Fn h n es (sft (sft r c d ((y:Int)+1)) a b (x:Int))) (h - 1)) λx G=>by
    show Fn h n ((c,d)::es) (sft r a b (x:Int))=_;rw[Fn];exact Cv λy J=>by rw[ky7]]
   rw[ja0];refine Cv λy J=>?_;rw[I];refine Nb _ λq s=>?_;rw[we5 w]
  rw[P,HJ];by_cases v:cp a b c<=cp a b d
  ·rw[show ct a b (c,d)=(cp a b c,cp a b d) by unfold ct;dsimp only;rw[ZF v,gQ v]]
  ·rw[show ct a b (c,d)=(cp a b d,cp a b c) by unfold ct;dsimp only;rw[Z_ (by lia),gM (by lia)]];exact wc3
theorem wc2{n:Nat}(v:1<=h)(o:a<b)(w:b<n)(es:Ae)(u:InW n es):Fn h n ((a,b)::es) (λ_=>0)+Fn h n es (λ_=>0)=Fn h (n - 1) (es.map (ct a b)) (λ_=>0):=by
 have s:=yL v o w es (λ_=>0) u;have y:ctr a b (λ_=>0)=λ_=>0:=by funext q;unfold ctr;split<;>rfl
 rw[y]at s;obtain⟨k,rfl⟩:∃k,h=k+1:=⟨h - 1,by lia⟩;rw[<-s,Qw,Fn,Nat.add_sub_cancel,gJ];congr 1;refine Nb es λp z=>?_;congr 1;unfold sft;show(0:Int)=0 - _+_;split<;>split<;>rfl
theorem wc4{n:Nat}:Fn h n ((a,a)::es) r=(h - 1) * Fn h n es r:=by
 rw[Fn];rw[Cv (g:=λ_=>Fn h n es r) λx q=>Nb es λp s=>by congr 1;unfold sft;lia];generalize h - 1=k;induction k with
 |zero=>simp[Dy]
 |succ k o=>rw[Dy,o,kY]
theorem kl1{n:Nat}{ts:Ae}(o:a<b)(h:InW n ((a,b)::ts))(H:Int):Flw n ((a,b)::ts) H=Flw (n - 1) (ts.map (ct a b)) H - Flw n ts H:=by
 by_cases c:Ay ts a b
 ·exact kl0 o h c H
 ·rw[wb9 o h c];have⟨⟨v,q⟩,s⟩:=Bg.mp h;have q:b<n:=q;have e:=Jl h c;have u:=Ra n _ h;unfold Flw;rw[fY o q ts s,<-wp3 o h c,GP,show ts.length+cc n ts - n=ts.length+cc n ((a,b)::ts) - (n - 1) by lia];lia
theorem Ot{h:Nat}(v:1<=h):∀(m n:Nat)(ts:Ae),ts.length<=m->(∀e∈ts,e.1<=e.2/\e.2<n)->Flw n ts (h:Int)=Fn h n ts (λ_=>0)
 |_,n,[],_,_=>by
  rw[wc0,Fn,if_pos]
  ·rfl
  ·exact PQ.mpr λp _=>decide_eq_true (Int.zero_emod _)
 |0,n,e::ts,h,_=>by simp at h
 |m+1,n,(a,b)::ts,y,u=>by
  have z:ts.length<=m:=by simpa using y
  have s:∀e∈ts,e.1<=e.2/\e.2<n:=λe A=>u e (IK _ A);have o:InW n ((a,b)::ts):=λe A=>by have:=u e A;lia
  have G:a<=b:=(u (a,b) JK).1;have C:b<n:=(u (a,b) JK).2;by_cases w:a=b
  ·subst w;rw[kl2 o,wc4,Ot v m n ts z s];rw[Int.natCast_mul];congr 1;lia
  ·have q:a<b:=by lia
   have B:∀f∈ts.map (ct a b),f.1<=f.2/\f.2<n - 1:=λf F=>by obtain⟨g,E,rfl⟩:=HX.mp F;have:=nG q C (Bg.mp o).2 (ct a b g) (HX.mpr ⟨g,E,rfl⟩);refine⟨?_,this.2⟩;unfold ct;dsimp only;lia
   rw[kl1 q o,Ot v m n ts z s,Ot v m (n - 1) (ts.map (ct a b)) (by rw[GP];exact z) B,<-wc2 (es:=ts) v q C (Bg.mp o).2];lia
variable {ts:Ae}{n:Nat}
def cN(n:Nat)(ts:Ae)(s:List Nat):Nat:=cc n (Bm ts s)
def Kn(ts:Ae)(s:List Nat):Prop:=∀k∈s,k<ts.length
variable {s:List Nat}
def Zo(o:InW n ts)(h:Kn ts s):InW n (Bm ts s):=λe u=>by obtain⟨k,q,rfl⟩:=HX.mp u;rw[O_,GK (h k q),RC];exact o _ (RB _)
def Hi{r:List Nat}(h:∀k∈s,k∈r):∀e∈Bm ts s,e∈Bm ts r:=λe q=>by obtain⟨k,o,rfl⟩:=HX.mp q;exact HX.mpr ⟨k,h k o,rfl⟩
def Lf(q:InW n ts){r:List Nat}(u:Kn ts s)(h:∀k,k∈s↔k∈r):cN n ts s=cN n ts r:=
 J7 (Zo q u) λe=>⟨Hi (λk o=>(h k).mp o) e,Hi (λk o=>(h k).mpr o) e⟩
def yb1(o:InW n ts)(h:Kn ts s):n<=s.length+cN n ts s:=by have:=Ra n (Bm ts s) (Zo o h);unfold Bm at this;rw[GP]at this;exact this
def eN(ts:Ae)(k:Nat):Nat×Nat:=ts.getD k (0,0)
def Q7(q:InW n ts)(h:Kn ts (k::s)):(Ay (Bm ts s) (eN ts k).1 (eN ts k).2->cN n ts (k::s)=cN n ts s)/\(¬ Ay (Bm ts s) (eN ts k).1 (eN ts k).2->cN n ts (k::s)+1=cN n ts s):=by have o:=Zo q h;exact⟨λc=>Nm (a:=(eN ts k).1) (b:=(eN ts k).2) o c,λc=>Jl (a:=(eN ts k).1) (b:=(eN ts k).2) o c⟩
def Fr(n:Nat)(ts:Ae)(s:List Nat):Prop:=s.length+cN n ts s=n
def wo(s:List Nat)(k:Nat):List Nat:=s.filter λx=>decide (x≠k)
def Ce:x∈wo s k↔x∈s/\x≠k:=by unfold wo;rw[MF,decide_eq_true_iff]
def Qy(o:s.Nodup)(h:k∈s):(wo s k).length+1=s.length:=by
 induction s with
 |nil=>exact absurd h cG
 |cons a s q =>
  rw[RZ]at o;unfold wo at q ⊢;by_cases z:a=k
  ·subst z;have e:s.filter (λx=>decide (x≠a))=s:=gZ.mpr λx u=>decide_eq_true (p:=x≠a) λe=>o.1 (by rw[<-e];exact u);rw[eO (by simp),e];rfl
  ·rw[h_ (by simpa using z),MJ,MJ,q o.2 ((HN.mp h).resolve_left λe=>z e.symm)]
theorem jK(v:InW n ts)(A:Kn ts s)(B:s.Nodup)(y:k∈s)(h:Fr n ts s):Fr n ts (wo s k)/\¬ Ay (Bm ts (wo s k)) (eN ts k).1 (eN ts k).2:=by
 have C:=Qy B y;have q:Kn ts (wo s k):=λx o=>A x (Ce.mp o).1;have u:Kn ts (k::wo s k):=λx o=>by
  rcases HN.mp o with rfl |o
  ·exact A x y
  ·exact q x o
 have e:cN n ts (k::wo s k)=cN n ts s:=Lf v u λx=>by
  rw[HN,Ce];constructor
  ·rintro(rfl |z)
   ·exact y
   ·exact z.1
  ·intro z;by_cases w:x=k
   ·exact .inl w
   ·exact .inr ⟨z,w⟩
 have g:=yb1 v q;have c:=Q7 v u;unfold Fr at *;by_cases z:Ay (Bm ts (wo s k)) (eN ts k).1 (eN ts k).2
 ·have:=c.1 z;lia
 ·have:=c.2 z;exact⟨by lia,z⟩
theorem n_(A:InW n ts):∀(m:Nat){s r:List Nat},r.length<=m+s.length->Kn ts r->r.Nodup->s.Nodup->(∀k∈s,k∈r)->Fr n ts r->Fr n ts s
 |m,s,r,C,B,nr,y,h,f=>by
  by_cases z:∀k∈r,k∈s
  ·have p:s.Perm r:=(cM y nr).mpr λk=>⟨h k,z k⟩;unfold Fr at *;rw[p.length_eq,Lf A (λk u=>B k (h k u)) λk=>p.mem_iff];exact f
  ·have:∃k∈r,k∉s:=U_ λw=>z λk u=>U_ λq=>w ⟨k,u,q⟩;obtain⟨k,u,v⟩:=this;have E:=Qy nr u;cases m with
   |zero=>have:=Pb y (m:=wo r k) λx o=>Ce.mpr ⟨h x o,λe=>v (e ▸ o)⟩;lia
   |succ m=>exact n_ A m (r:=wo r k) (by lia) (λx o=>B x (Ce.mp o).1) (nr.filter _) y (λx o=>Ce.mpr ⟨h x o,λe=>v (e ▸ o)⟩) (jK A B nr u f).1
structure Vc(n:Nat)(ts:Ae)(F:List Nat):Prop where
 kn:Kn ts F
 nd:F.Nodup
 fr:Fr n ts F
 sp:cN n ts F=cc n ts
variable {F:List Nat}
theorem Vc.conn(u:InW n ts)(h:Vc n ts F){t:Nat}(w:t<ts.length):Ay (Bm ts F) (eN ts t).1 (eN ts t).2:=by
 refine U_ λz=>?_;have v:Kn ts (t::F):=λx o=>by
  rcases HN.mp o with rfl |o
  ·exact w
  ·exact h.kn x o
 have c:=(Q7 u v).2 z;have m:cc n ts<=cN n ts (t::F):=xT u λe y=>by obtain⟨k,q,rfl⟩:=HX.mp y;rw[O_,GK (v k q),RC];exact RB _
 have:=h.sp;lia
def Swp(n:Nat)(ts:Ae)(F:List Nat)(f t:Nat):Prop:=cN n ts (t::wo F f)+F.length=n
theorem vO(q:InW n ts)(h:Vc n ts F){f t:Nat}(u:f∈F)(v:t<ts.length):Swp n ts F f t↔¬ Ay (Bm ts (wo F f)) (eN ts t).1 (eN ts t).2:=by
 have g:=jK q h.kn h.nd u h.fr;have A:=Qy h.nd u;have w:Kn ts (t::wo F f):=λx o=>by
  rcases HN.mp o with rfl |o
  ·exact v
  ·exact h.kn x (Ce.mp o).1
 have c:=Q7 q w;have y:=g.1;unfold Swp;unfold Fr at y;constructor
 ·intro e z;have:=c.1 z;lia
 ·intro z;have:=c.2 z;lia
open Classical in
def way(u:InW n ts){F:List Nat}(h:Vc n ts F){t:Nat}(v:t<ts.length):∀L:List Nat,(∀f∈L,f∈F/\¬ Swp n ts F f t)->Ay (Bm ts (F.filter λx=>decide (x∉L))) (eN ts t).1 (eN ts t).2
 | [],_=>by rw[gZ.mpr (λx _=>decide_eq_true cG)];exact h.conn u v
 |f::L,E=>by
  have B:=way u h v L λg J=>E g (IK _ J);have⟨C,I⟩:=E f JK;have G:Ay (Bm ts (wo F f)) (eN ts t).1 (eN ts t).2:=U_ λz=>I ((vO u h C v).mpr z);by_cases A:f∈L
  ·refine B.mono (Hi λk o=>?_);rw[MF,decide_eq_true_iff]at o ⊢;exact⟨o.1,λz=>by rcases HN.mp z with rfl |z;exact o.2 A;exact o.2 z⟩
  ·refine U_ λz=>?_;have sub:∀k∈F.filter (λx=>decide (x∉L)),k∈(F.filter λx=>decide (x∉f::L))++[f]:=λk o=>by
    rw[MF,decide_eq_true_iff]at o;rw[KC,MF,decide_eq_true_iff,JG,HN];by_cases w:k=f
    ·exact .inr w
    ·exact .inl ⟨o.1,λq=>q.elim w o.2⟩
   have H:=B.mono (Hi (ts:=ts) sub);have K:Bm ts ((F.filter λx=>decide (x∉f::L))++[f])=Bm ts (F.filter λx=>decide (x∉f::L))++[eN ts f]:=by unfold Bm;rw[QQ];rfl
   rw[K]at H;have up:∀{x y:Nat},Ay (Bm ts (F.filter λx=>decide (x∉f::L))) x y->Ay (Bm ts (wo F f)) x y:=λc=>c.mono (Hi λk o=>by
    rw[MF,decide_eq_true_iff]at o;exact Ce.mpr ⟨o.1,λq=>o.2 (by simp[q])⟩)
   have no:=(jK u h.kn h.nd C h.fr).2;rcases S8.mp (show Ay (_++[((eN ts f).1,(eN ts f).2)]) _ _ from H) with c |c |c
   ·exact z c
   ·exact no (((up c.1).symm.trans G).trans (up c.2).symm)
   ·exact no ((((up c.1).symm.trans G).trans (up c.2).symm).symm)
variable {C:List Nat}
open Classical in
theorem wk7(v:InW n ts)(h:Vc n ts F){t:Nat}(B:t<ts.length)(y:t∉F)(A:C.Nodup)(u:∀k,k∈C↔k=t\/(k∈F/\Swp n ts F k t)):
  C.length+cN n ts C=n+1/\∀o∈C,C.length+cN n ts (wo C o)=n+1:=by
 have P:Kn ts C:=λk q=>by
  rcases(u k).mp q with rfl |z
  ·exact B
  ·exact h.kn k z.1
 have tC:t∈C:=(u t).mpr (.inl rfl);have L:∀o∈C,Fr n ts (wo C o):=λo E=>by
  rcases(u o).mp E with rfl | ⟨M,Z⟩
  ·refine n_ v F.length (r:=F) (by lia) h.kn h.nd (A.filter _) (λk q=>?_) h.fr;have⟨H,G⟩:=Ce.mp q;exact(((u k).mp H).resolve_left G).1
  ·have hl:=Qy h.nd M;have I:Fr n ts (t::wo F o):=by unfold Fr Swp at *;rw[MJ];lia
   refine n_ v (t::wo F o).length (r:=t::wo F o) (by lia) (λk q=>?_) (RZ.mpr ⟨λz=>y (Ce.mp z).1,h.nd.filter _⟩) (A.filter _) (λk q=>?_) I
   ·rcases HN.mp q with rfl |q
    ·exact B
    ·exact h.kn k (Ce.mp q).1
   ·have⟨H,G⟩:=Ce.mp q;rcases(u k).mp H with rfl |w
    ·exact JK
    ·exact IK _ (Ce.mpr ⟨w.1,G⟩)
 have lt:=Qy A tC;have Q:=L t tC;have X:=way v h B (F.filter λx=>decide (¬ Swp n ts F x t)) λf K=>by rw[MF,decide_eq_true_iff]at K;exact K
 have Y:Ay (Bm ts (wo C t)) (eN ts t).1 (eN ts t).2:=X.mono (Hi λk q=>by
  rw[MF,decide_eq_true_iff]at q;have O:Swp n ts F k t:=U_ λz=>q.2 (MF.mpr ⟨q.1,decide_eq_true z⟩);exact Ce.mpr ⟨(u k).mpr (.inr ⟨q.1,O⟩),λe=>y (e ▸ q.1)⟩)
 have J:Kn ts (t::wo C t):=λk q=>by
  rcases HN.mp q with rfl |q
  ·exact B
  ·exact P k (Ce.mp q).1
 have e1:=(Q7 v J).1 Y;have e2:cN n ts (t::wo C t)=cN n ts C:=Lf v J λk=>by
  rw[HN,Ce];constructor
  ·rintro(rfl |z)
   ·exact tC
   ·exact z.1
  ·intro z;by_cases w:k=t
   ·exact .inl w
   ·exact .inr ⟨z,w⟩
 unfold Fr at Q;refine⟨by lia,λo E=>?_⟩;have:=L o E;have:=Qy A E;unfold Fr at *;lia
open Classical in
def stp(ts:Ae)(G:List Nat)(t:Nat):List Nat:=if Ay (Bm ts G) (eN ts t).1 (eN ts t).2 then G else G++[t]
variable {G:List Nat}
def wy6{t:Nat}(h:Ay (Bm ts G) (eN ts t).1 (eN ts t).2):stp ts G t=G:=by unfold stp;rw[if_pos h]
def wl8{t:Nat}(h:¬ Ay (Bm ts G) (eN ts t).1 (eN ts t).2):stp ts G t=G++[t]:=by unfold stp;rw[if_neg h]
theorem wf6(v:InW n ts){t:Nat}(y:Kn ts G)(w:t<ts.length)(A:Fr n ts G)(h:¬ Ay (Bm ts G) (eN ts t).1 (eN ts t).2):Fr n ts (G++[t]):=by
 have u:Kn ts (t::G):=λx o=>by
  rcases HN.mp o with rfl |o
  ·exact w
  ·exact y x o
 have e:=Lf (n:=n) v (r:=t::G) (s:=G++[t]) (λk q=>by
  rcases KC.mp q with z |z
  ·exact y k z
  ·rw[JG.mp z];exact w) λk=>by simp[or_comm]
 have c:=(Q7 v u).2 h;unfold Fr at A ⊢;rw[MK,e];simp;lia
def Wj(L:InW n ts){bef:Nat->Nat->Prop}:∀(l G:List Nat),Kn ts G->G.Nodup->Fr n ts G->(∀k∈l,k<ts.length)->l.Nodup->(∀k∈l,k∉G)->l.Pairwise bef->(∀g∈G,∀t∈l,bef g t) ->
  (Kn ts (l.foldl (stp ts) G)/\(l.foldl (stp ts) G).Nodup/\Fr n ts (l.foldl (stp ts) G))/\(∀g∈G,g∈l.foldl (stp ts) G)/\(∀k∈l.foldl (stp ts) G,k∈G\/k∈l) /\
   ∀t∈l,t∉l.foldl (stp ts) G->∃S:List Nat,(∀k∈S,k∈l.foldl (stp ts) G/\bef k t)/\Ay (Bm ts S) (eN ts t).1 (eN ts t).2
 | [],G,y,B,A,_,_,_,_,_=>⟨⟨y,B,A⟩,λg z=>z,λk z=>.inl z,λt z=>by cases z⟩
 |t::l,G,y,B,A,P,Z,Q,Y,w=>by
  have O:=RZ.mp Z;have M:=jHo.mp Y;have X:=P t JK;rw[lG];by_cases c:Ay (Bm ts G) (eN ts t).1 (eN ts t).2
  ·rw[wy6 c];obtain⟨K,v,J,I⟩:=Wj L l G y B A (λk o=>P k (IK _ o)) O.2 (λk o=>Q k (IK _ o)) M.2 λg u k o=>w g u k (IK _ o);refine⟨K,v,λk o=>(J k o).imp id (IK _),λk o q=>?_⟩;rcases HN.mp o with rfl |o
   ·exact⟨G,λg u=>⟨v g u,w g u k JK⟩,c⟩
   ·exact I k o q
  ·rw[wl8 c];have H:Kn ts (G++[t]):=λk o=>by
    rcases KC.mp o with z |z
    ·exact y k z
    ·rw[JG.mp z];exact X
   have E:(G++[t]).Nodup:=by rw[gY];exact⟨B,by simp,λa ha b w e=>Q t JK (by rw[<-JG.mp w,<-e];exact ha)⟩
   obtain⟨K,v,J,I⟩:=Wj L l (G++[t]) H E (wf6 L y X A c) (λk o=>P k (IK _ o)) O.2 (λk o z=>by
    rcases KC.mp z with z |z
    ·exact Q k (IK _ o) z
    ·rw[JG.mp z]at o;exact O.1 o) M.2 (λg u k o=>by
    rcases KC.mp u with z |z
    ·exact w g z k (IK _ o)
    ·rw[JG.mp z];exact M.1 k o)
   refine⟨K,λg u=>v g (ZJ _ u),λk o=>?_,λk o q=>?_⟩
   ·rcases J k o with z |z
    ·rcases KC.mp z with z |z
     ·exact .inl z
     ·exact .inr (by rw[JG.mp z];exact JK)
    ·exact .inr (IK _ z)
   ·rcases HN.mp o with rfl |o
    ·exact absurd (v k (TV _ (JG.mpr rfl))) q
    ·exact I k o q
def wr0(o:k<ts.length){S:List Nat}(h:k∈S):Ay (Bm ts S) (eN ts k).1 (eN ts k).2:=.tie (HX.mpr ⟨k,h,rfl⟩)
theorem kr8(q:InW n ts){bef:Nat->Nat->Prop}{l:List Nat}(hl:∀k∈l,k<ts.length)(I:l.Nodup)(pw:l.Pairwise bef)(H:∀k,k<ts.length->k∈l):
  Vc n ts (l.foldl (stp ts) [])/\∀t,t<ts.length->t∉l.foldl (stp ts) []->∀f∈l.foldl (stp ts) [],Swp n ts (l.foldl (stp ts) []) f t->bef f t:=by
 have Y:Fr n ts []:=by unfold Fr cN Bm;rw[ZZ,Lg];simp
 have⟨⟨v,M,L⟩,_,_,A⟩:=Wj q l [] (λk o=>by cases o) lD Y hl I (λk _ z=>by cases z) pw (λg Q=>by cases Q);generalize l.foldl (stp ts) []=F at *;have Z:∀k,k<ts.length->Ay (Bm ts F) (eN ts k).1 (eN ts k).2:=λk o=>by
  by_cases h:k∈F
  ·exact wr0 o h
  ·have⟨S,u,c⟩:=A k (H k o) h;exact c.mono (Hi λx O=>(u x O).1)
 have E:Vc n ts F:=⟨v,M,L,by
  unfold cN cc;refine(ki1 (Zo q v) q (λe y=>?_) λa b y=>?_).symm
  ·obtain⟨k,o,rfl⟩:=HX.mp y;rw[O_,GK (v k o),RC];exact RB _
  ·have⟨k,o,e⟩:=X_.mp y;have:=Z k o;unfold eN at this;rw[O_,GK o,RC,e]at this;exact this⟩
 refine⟨E,λt B w f X P=>?_⟩;have⟨S,u,c⟩:=A t (H t B) w;have J:=(vO q E X B).mp P;refine U_ λK=>J (c.mono (Hi λk o=>Ce.mpr ⟨(u k o).1,λe=>?_⟩));subst e;exact K (u k o).2
def tm(ts:Ae)(y:Nat->Int)(p k:Nat):Int:=(if(eN ts k).2=p then y k else 0) - (if(eN ts k).1=p then y k else 0)
def bal(ts:Ae)(y:Nat->Int)(p:Nat):Int:=((List.range ts.length).map (tm ts y p)).sum
theorem R8{o:Type}(f g:o->Int):∀l:List o,(l.map λx=>f x+g x).sum=(l.map f).sum+(l.map g).sum
 | []=>by simp
 |a::l=>by simp only[HJ,OJ,R8 f g l];lia
theorem wz2(y z:Nat->Int)(c:Int)(p k:Nat):tm ts (λk=>y k+c * z k) p k=tm ts y p k+c * tm ts z p k:=by unfold tm;by_cases q:(eN ts k).2=p<;>by_cases o:(eN ts k).1=p<;>simp only[q,o,if_true,if_false]<;>grind
def pJ(y z:Nat->Int)(c:Int)(p:Nat):bal ts (λk=>y k+c * z k) p=bal ts y p+c * bal ts z p:=by unfold bal;rw[<-Jy,<-R8];exact Du λk _=>wz2 y z c p k
variable {y z:Nat->Int}
def ke5(h:∀k,k<ts.length->y k=z k):bal ts y p=bal ts z p:=Du λk o=>by unfold tm;rw[h k (H_.mp o)]
def crs(ts:Ae)(y:Nat->Int)(s:Nat->Bool)(k:Nat):Int:=(if s (eN ts k).2=true then y k else 0) - (if s (eN ts k).1=true then y k else 0)
theorem oV(s:Nat->Bool)(a:Nat)(x:Int):∀n,((List.range n).map λp=>if s p=true then(if a=p then x else 0) else 0).sum=if a<n/\s a=true then x else 0
 |0=>by simp
 |n+1=>by
  rw[dZ,QQ,dY,oV s a x n];simp only[HJ,ZZ,OJ,List.sum_nil,YJ];by_cases e:a=n
  ·subst e;by_cases h:s a=true<;>simp[h]
  ·by_cases h:s a=true<;>by_cases q:s n=true<;>by_cases o:a<n<;>simp[h,q,o,e]<;>lia
def eZ{o:Type}:∀l:List o,(l.map λ_=>(0:Int)).sum=0
 | []=>rfl
 |a::l=>by rw[HJ,OJ,eZ l];rfl
theorem zK(o:InW n ts)(y:Nat->Int)(s:Nat->Bool):∀L:List Nat,(∀k∈L,k<ts.length)->((List.range n).map λp=>if s p=true then(L.map (tm ts y p)).sum else 0).sum=(L.map (crs ts y s)).sum
 | [],_=>by simp only[ZZ,List.sum_nil,ite_self];exact eZ _
 |k::L,u=>by
  have A:=zK o y s L λj B=>u j (by simp[B]);have q:=u k (by simp);have e:eN ts k∈ts:=by unfold eN;rw[O_,GK q,RC];exact RB q
  have⟨H,E⟩:=o _ e;have w:=oV s (eN ts k).1 (y k) n;have v:=oV s (eN ts k).2 (y k) n;rw[HJ,OJ,<-A];have:((List.range n).map λp=>if s p=true then((k::L).map (tm ts y p)).sum else 0).sum=((List.range n).map λp=>((if s p=true then(if(eN ts k).2=p then y k else 0) else 0)+(-1) * (if s p=true then(if(eN ts k).1=p then y k else 0) else 0))+(if s p=true then(L.map (tm ts y p)).sum else 0)).sum:=Du λp _=>by
   by_cases h:s p=true
   ·simp only[h,if_true,HJ,OJ];unfold tm;lia
   ·simp[h]
  rw[this,R8,R8,Jy,w,v];unfold crs;simp only[H,E,true_and];lia
def Xv{f:Nat->Int}{h:Int}:∀{L:List Nat},(∀k∈L,f k % h=0)->(L.map f).sum % h=0
 | [],_=>by simp
 |k::L,o=>by rw[HJ,OJ,W_,o k (by simp),Xv λj q=>o j (by simp[q])];simp
def yZ{f:Nat->Int}{h:Int}{k:Nat}:∀{L:List Nat},L.Nodup->k∈L->(∀j∈L,j≠k->f j % h=0)->(L.map f).sum % h=f k % h
 | [],_,u,_=>by cases u
 |j::L,A,u,v=>by
  have w:=RZ.mp A;rw[HJ,OJ];by_cases e:j=k
  ·subst e;rw[W_,Xv (f:=f) (h:=h) (L:=L) λi o=>v i (by simp[o]) λe=>w.1 (e ▸ o)];simp
  ·have q:k∈L:=(HN.mp u).resolve_left λz=>e z.symm;rw[W_,v j (by simp) e,yZ w.2 q λi o=>v i (by simp[o])];simp
theorem Za(q:InW n ts){I:List Nat}(kn:Kn ts I)(L:I.Nodup)(fr:Fr n ts I){h:Int}(P:∀k,k<ts.length->k∉I->y k % h=0)(X:∀p,p<n->bal ts y p % h=0):
  ∀f∈I,y f % h=0:=λf w=>by
 have⟨_,M⟩:=jK q kn L w fr;have O:=Zo (ts:=ts) q (s:=wo I f) λk o=>kn k (Ce.mp o).1;have v:=Gi n (Bm ts (wo I f)) O;have E:f<ts.length:=kn f w;have B:∀k,k<ts.length->eN ts k∈ts:=λk o=>by unfold eN;rw[O_,GK o,RC];exact RB o
 have⟨a1,b1⟩:=q _ (B f E);let s:Nat->Bool:=λp=>decide (lab n (Bm ts (wo I f)) p=lab n (Bm ts (wo I f)) (eN ts f).2);have S:=zK q y s (List.range ts.length) λk o=>H_.mp o;have Z:((List.range n).map λp=>if s p=true then((List.range ts.length).map (tm ts y p)).sum else 0).sum % h=0:=Xv λp Q=>by
  split
  ·exact X p (H_.mp Q)
  ·simp
 rw[S,yZ (k:=f) bH (H_.mpr E) λk o u=>?_]at Z
 ·unfold crs at Z;have J:s (eN ts f).2=true:=decide_eq_true rfl;have K:s (eN ts f).1=false:=decide_eq_false λe=>M ((v.conn _ _ a1 b1).mp e);rw[J,K]at Z;simpa using Z
 ·have o:=H_.mp o;unfold crs;by_cases A:k∈I
  ·have c:Ay (Bm ts (wo I f)) (eN ts k).1 (eN ts k).2:=.tie (HX.mpr ⟨k,Ce.mpr ⟨A,u⟩,rfl⟩);have⟨a2,b2⟩:=q _ (B k o);have e:=(v.conn _ _ a2 b2).mpr c;have:s (eN ts k).2=s (eN ts k).1:=by show decide _=decide _;rw[e]
   rw[this];simp
  ·have z:=P k o A;have H:-y k % h=0:=Int.emod_eq_zero_of_dvd (Int.dvd_neg.mpr (Int.dvd_of_emod_eq_zero z));by_cases h1:s (eN ts k).2=true<;>by_cases Y:s (eN ts k).1=true<;>simp[h1,Y,z,H]
def yX{f g:Nat->Int}{h:Int}:∀{L:List Nat},(∀k∈L,f k % h=g k % h)->(L.map f).sum % h=(L.map g).sum % h
 | [],_=>rfl
 |k::L,o=>by rw[HJ,OJ,HJ,OJ,W_,o k (by simp),yX λj q=>o j (by simp[q]),<-W_]
theorem xX{h:Int}(e:∀k,k<ts.length->y k % h=z k % h):bal ts y p % h=bal ts z p % h:=yX λk o=>by
 have e:=e k (H_.mp o);unfold tm;have u:(if(eN ts k).2=p then y k else 0) % h=(if(eN ts k).2=p then z k else 0) % h:=by split<;>simp[e]
 have q:(if(eN ts k).1=p then y k else 0) % h=(if(eN ts k).1=p then z k else 0) % h:=by split<;>simp[e]
 rw[kW,u,q,<-kW]
theorem yW{f:Nat->Int}{k:Nat}:∀{L:List Nat},L.Nodup->k∈L->(∀j∈L,j≠k->f j=0)->(L.map f).sum=f k
 | [],_,u,_=>by cases u
 |j::L,A,u,v=>by
  have w:=RZ.mp A;rw[HJ,OJ];by_cases e:j=k
  ·subst e;have:L.map f=L.map λ_=>(0:Int):=UW λi o=>v i (by simp[o]) λe=>w.1 (e ▸ o);rw[this,eZ];lia
  ·have q:k∈L:=(HN.mp u).resolve_left λz=>e z.symm;rw[v j (by simp) e,yW w.2 q λi o=>v i (by simp[o])];lia
def dl(k:Nat):Nat->Int:=λj=>if j=k then 1 else 0
def vB(o:k<ts.length)(q:Nat):bal ts (dl k) q=(if(eN ts k).2=q then 1 else 0) - (if(eN ts k).1=q then 1 else 0):=by unfold bal;rw[yW (k:=k) bH (H_.mpr o) λj _ u=>by unfold tm dl;simp[u]];unfold tm dl;simp
theorem Y0(p:Nat):∀C:List Nat,((deg (Bm ts C) p:Nat):Int)=(C.map λk=>((ind (eN ts k).1 p+ind (eN ts k).2 p:Nat):Int)).sum
 | []=>rfl
 |k::C=>by have o:=Y0 p C;unfold Bm at o ⊢;rw[HJ,HJ,OJ,<-o];show((deg _ p+(ind (eN ts k).1 p+ind (eN ts k).2 p):Nat):Int)=_;lia
def par(E:C.Nodup)(H:Kn ts C)(I:∀k,k<ts.length->y k=0\/y k=1\/y k = -1)(K:∀k,k<ts.length->y k≠0->k∈C)(M:∀k∈C,y k=0->(eN ts k).1≠p/\(eN ts k).2≠p):
  ((deg (Bm ts C) p:Nat):Int) % 2=bal ts y p % 2:=by
 have B:((List.range ts.length).filter λk=>decide (k∈C)).Perm C:=(cM (bH.filter _) E).mpr λk=>by rw[MF,H_,decide_eq_true_iff];exact⟨λz=>z.2,λz=>⟨H k z,z⟩⟩
 rw[Y0,<-Ob _ B];have:∀L:List Nat,(∀k∈L,k<ts.length)->((L.filter λk=>decide (k∈C)).map λk=>((ind (eN ts k).1 p+ind (eN ts k).2 p:Nat):Int)).sum % 2=(L.map (tm ts y p)).sum % 2:=by
  intro L;induction L with
  |nil=>intro _;rfl
  |cons k L u =>
   intro A;have u:=u λj J=>A j (by simp[J]);have v:=A k (by simp);rw[HJ,OJ];by_cases w:k∈C
   ·rw[h_ (by simpa using w),HJ,OJ];have:((ind (eN ts k).1 p+ind (eN ts k).2 p:Nat):Int) % 2=tm ts y p k % 2:=by
     unfold ind tm;rcases I k v with e |e |e
     ·have⟨q,o⟩:=M k w e;simp[q,o]
     ·rw[e];by_cases q:(eN ts k).1=p<;>by_cases o:(eN ts k).2=p<;>simp[q,o]
     ·rw[e];by_cases q:(eN ts k).1=p<;>by_cases o:(eN ts k).2=p<;>simp[q,o]
    rw[W_,this,u,<-W_]
   ·rw[eO (by simpa using w),u];have:y k=0:=U_ λz=>w (K k v z);have:tm ts y p k=0:=by unfold tm;simp[this]
    rw[this];simp
 exact this _ λk v=>H_.mp v
structure Cyc(n:Nat)(ts:Ae)(C:List Nat)(t:Nat):Prop where
 nd:C.Nodup
 kn:Kn ts C
 mem:t∈C
 fr:∀o∈C,Fr n ts (wo C o)
 ev:∀p,p<n->deg (Bm ts C) p % 2=0
structure Rw(n:Nat)(ts:Ae)(C:List Nat)(t:Nat)(y:Nat->Int)(L:List Nat)(p:Nat):Prop where
 ls:∀k∈L,k∈C/\k≠t
 nd:L.Nodup
 val:∀k,k<ts.length->y k=0\/y k=1\/y k = -1
 on:∀k,k<ts.length->(y k≠0↔k∈C/\k∉L)
 one:y t=1
 bal:∀q,q<n->bal ts y q=(if p=q then 1 else 0) - (if(eN ts t).1=q then 1 else 0)
 pn:p<n
def nA(q:InW n ts)(o:k<ts.length):(eN ts k).1<n/\(eN ts k).2<n:=by refine q _ ?_;unfold eN;rw[O_,GK o,RC];exact RB o
variable {L:List Nat}
theorem Rw.start(w:InW n ts){t:Nat}(c:Cyc n ts C t)(v:L.Nodup)(o:∀k,k∈L↔k∈C/\k≠t):Rw n ts C t (dl t) L (eN ts t).2:=by
 have u:=c.kn t c.mem;refine⟨λk A=>(o k).mp A,v,λk _=>?_,λk _=>?_,by simp[dl],λq _=>vB u q,(nA w u).2⟩
 ·unfold dl;split<;>simp
 ·unfold dl;by_cases e:k=t
  ·subst e;simp[c.mem,o]
  ·simp[e,o]
theorem Rw.ex(H:InW n ts){t:Nat}(c:Cyc n ts C t)(r:Rw n ts C t y L p)(K:L≠[]):∃k∈L,(eN ts k).1=p\/(eN ts k).2=p:=by
 refine U_ λno=>?_;have e:=par c.nd c.kn (p:=p) r.val (λk o z=>((r.on k o).mp z).1) λk o z=>by have:k∈L:=U_ λA=>(r.on k (c.kn k o)).mpr ⟨o,A⟩ z;exact⟨λw=>no ⟨k,this,.inl w⟩,λw=>no ⟨k,this,.inr w⟩⟩
 have M:=c.ev p r.pn;rw[r.bal p r.pn]at e;by_cases B:(eN ts t).1=p
 ·-- all is balanced: nothing can go
  have⟨u,E⟩:=jGi L K;have v:=r.ls u E;have z:=Za H (I:=wo C u) (λk o=>c.kn k (Ce.mp o).1) (c.nd.filter _) (c.fr u v.1) (y:=y) (h:=2) (λk o z=>?_) (λq J=>?_) t (Ce.mpr ⟨c.mem,λe=>v.2 e.symm⟩)
  ·rw[r.one]at z;exact absurd z (by decide)
  ·have:y k=0:=U_ λA=>by have:=(r.on k o).mp A;exact z (Ce.mpr ⟨this.1,λe=>this.2 (e ▸ E)⟩)
   rw[this];rfl
  ·rw[r.bal q J,B];simp
 ·simp[B]at e;lia
theorem Rw.done{t:Nat}(c:Cyc n ts C t)(r:Rw n ts C t y [] p):∀q,q<n->Gr.bal ts y q=0:=by
 have u:(eN ts t).1=p:=U_ λu=>by have e:=par c.nd c.kn (p:=p) r.val (λk o z=>((r.on k o).mp z).1) λk o z=>absurd z ((r.on k (c.kn k o)).mpr ⟨o,by simp⟩);have w:=c.ev p r.pn;rw[r.bal p r.pn]at e;simp[u]at e;lia
 intro q v;rw[r.bal q v,u];simp
theorem Rw.step(I:InW n ts){t:Nat}(c:Cyc n ts C t)(r:Rw n ts C t y L p)(B:k∈L){s:Int}{w:Nat}(h:((eN ts k).1=p/\s=1/\w=(eN ts k).2)\/((eN ts k).1≠p/\(eN ts k).2=p/\s = -1/\w=(eN ts k).1)):
  Rw n ts C t (λj=>if j=k then s else y j) (L.erase k) w:=by
 have o:=r.ls k B;have kl:=c.kn k o.1;have H:y k=0:=U_ λz=>((r.on k kl).mp z).2 B;have M:∀j,(if j=k then s else y j)=y j+s * dl k j:=λj=>by
  unfold dl;by_cases e:j=k
  ·subst e;simp[H]
  ·simp[e]
 have es:=nA I kl;have A:s=1\/s = -1:=h.imp (λz=>z.2.1) λz=>z.2.2.1;refine⟨λj u=>r.ls j (List.mem_of_mem_erase u),r.nd.erase k,λj u=>?_,λj u=>?_,?_,λq J=>?_,?_⟩
 ·by_cases e:j=k
  ·simp only[e,if_true];exact .inr A
  ·simp only[e,if_false];exact r.val j u
 ·rw[r.nd.mem_erase_iff];by_cases e:j=k
  ·subst e;simp only[if_true];exact⟨λ_=>⟨o.1,by simp⟩,λ_=>by rcases A with e |e<;>rw[e]<;>decide⟩
  ·simp only[e,if_false];rw[r.on j u];exact⟨λz=>⟨z.1,λv=>z.2 v.2⟩,λz=>⟨z.1,λv=>z.2 ⟨e,v⟩⟩⟩
 ·have:t≠k:=λe=>o.2 e.symm;simp only[this,if_false];exact r.one
 ·rw[show Gr.bal ts (λj=>if j=k then s else y j) q=Gr.bal ts (λj=>y j+s * dl k j) q from ke5 λj _=>M j,pJ,r.bal q J,vB kl];rcases h with ⟨E,rfl,rfl⟩ | ⟨E,K,rfl,rfl⟩
  ·rw[E];lia
  ·rw[K];lia
 ·rcases h with ⟨_,_,rfl⟩ | ⟨_,_,_,rfl⟩
  ·exact es.2
  ·exact es.1
def ya2{q o:List Nat}(h:(q++k::o).Nodup):wo (q++k::o) k=q++o:=by
 rw[gY]at h;obtain⟨_,v,w⟩:=h;rw[RZ]at v;unfold wo;rw[lO,eO (by simp),gZ.mpr λx u=>?_,gZ.mpr λx u=>?_]
 ·exact decide_eq_true λe=>v.1 (e ▸ u)
 ·exact decide_eq_true λe=>w x u k (by simp) e
theorem wq7(B:InW n ts)(J:Vc n ts F){t:Nat}(E:t<ts.length)(v:t∉F)(q:C.Nodup)(u:∀k,k∈C↔k=t\/(k∈F/\Swp n ts F k t)):Cyc n ts C t:=by
 have⟨Z,P⟩:=wk7 B J E v q u;have A:Kn ts C:=λk O=>by
  rcases(u k).mp O with rfl |z
  ·exact E
  ·exact J.kn k z.1
 have tC:t∈C:=(u t).mpr (.inl rfl);have fr:∀o∈C,Fr n ts (wo C o):=λo H=>by have:=P o H;have:=Qy q H;unfold Fr;lia
 refine⟨q,A,tC,fr,λp M=>?_⟩;have pl:∀s:List Nat,(Bm ts s).length=s.length:=λs=>GP _;have K:nP n (Bm ts C):=by
  refine⟨λz=>?_,?_,λl1 e l2 I=>?_⟩
  ·have:=pl C;rw[z]at this;have:C=[]:=qP.mp this.symm;rw[this]at tC;cases tC
  ·have:(Bs n (Bm ts C)).length=cN n ts C:=rfl;rw[this,pl];lia
  ·unfold Bm at I;obtain⟨X,Y,rfl,rfl,w⟩:=List.map_eq_append_iff.mp I;obtain⟨k,Q,rfl,rfl,rfl⟩:=List.map_eq_cons_iff.mp w;have f:=fr k (by simp);rw[ya2 q]at f;unfold Fr cN Bm at f;rw[<-QQ];show n=cc n _+_;rw[GP];lia
 have⟨_,w,_⟩:=wx6 (Zo B A) K;by_cases z:0<deg (Bm ts C) p
 ·rw[w p M z]
 ·have:deg (Bm ts C) p=0:=by lia
  rw[this]
theorem zA{f:Nat->Nat}:∀{k:Nat},0<Dy f k↔∃x,x<k/\0<f x
 |0=>by simp[Dy]
 |k+1=>by
  have q:=@zA f k;rw[Dy];constructor
  ·intro h;by_cases z:0<f k
   ·exact⟨k,by lia,z⟩
   ·have⟨x,u,o⟩:=q.mp (by lia);exact⟨x,by lia,o⟩
  ·rintro⟨x,u,o⟩;by_cases e:x=k
   ·subst e;lia
   ·have:=q.mpr ⟨x,by lia,o⟩;lia
def jh2(e:Nat×Nat)(es:Ae)(f:Nat->Int)(p:Nat):bal (e::es) f p=((if e.2=p then f 0 else 0) - (if e.1=p then f 0 else 0))+bal es (λk=>f (k+1)) p:=by unfold bal;rw[MJ,List.range_succ_eq_map,HJ,OJ,NP];rfl
theorem oN{h:Nat}:∀(es:Ae)(r:Nat->Int),0<Fn h n es r↔∃f:Nat->Int,(∀k,k<es.length->1<=f k/\f k<h)/\∀p,p<n->(r p+bal es f p) % (h:Int)=0
 | [],r=>by
  rw[Fn];constructor
  ·intro z;by_cases u:nought h n r=true
   ·refine⟨λ_=>0,λk q=>absurd q (by simp),λp o=>?_⟩;have:=PQ.mp u p (H_.mpr o);show(r p+0) % _=0;rw[YJ];exact of_decide_eq_true this
   ·rw[if_neg u]at z;lia
  ·rintro⟨f,_,u⟩;rw[if_pos]
   ·decide
   ·unfold nought;rw[PQ];intro p o;have:=u p (H_.mp o);have e:r p+bal [] f p=r p+0:=rfl;rw[e,YJ]at this;exact decide_eq_true this
 | (a,b)::es,r=>by
  rw[Fn,zA];have A:∀(x:Int)(f:Nat->Int)(p:Nat),sft r a b x p+bal es f p=r p+(((if b=p then x else 0) - (if a=p then x else 0))+bal es f p):=λx f p=>by
   unfold sft;have H:(if p=a then x else 0)=(if a=p then x else 0):=by by_cases e:a=p<;>simp[e,eq_comm]
   have E:(if p=b then x else 0)=(if b=p then x else 0):=by by_cases e:b=p<;>simp[e,eq_comm]
   rw[H,E];lia
  constructor
  ·rintro⟨x,K,B⟩;obtain⟨f,v,w⟩:=(oN es _).mp B;refine⟨λk=>match k with |0=>(x:Int)+1 |k+1=>f k,λk q=>?_,λp o=>?_⟩
   ·cases k with
    |zero=>show 1<=(x:Int)+1/\(x:Int)+1<h;lia
    |succ k=>exact v k (by simpa using q)
   ·rw[jh2];have:=w p o;rw[A]at this;exact this
  ·rintro⟨f,v,w⟩;have⟨J,I⟩:=v 0 (by simp);refine⟨(f 0 - 1).toNat,by lia,(oN es _).mpr ⟨λk=>f (k+1),λk q=>v (k+1) (by simpa using q),λp o=>?_⟩⟩;have e:(((f 0 - 1).toNat:Nat):Int)+1=f 0:=by lia
   rw[e,A];have:=w p o;rw[jh2]at this;exact this
def cb(R:Nat->Nat->Int):(Nat->Int)->List Nat->List Int->Nat->Int
 |a,t::T,x::xs=>cb R (λk=>a k+x * R t k) T xs
 |a,_,_=>a
theorem kE{R:Nat->Nat->Int}{q:Nat}:∀(T:List Nat)(xs:List Int)(a:Nat->Int),(∀t∈T,bal ts (R t) q=0)->bal ts (cb R a T xs) q=bal ts a q
 | [],_,a,_=>by unfold cb;rfl
 |t::T,[],a,_=>by unfold cb;rfl
 |t::T,x::xs,a,h=>by rw[cb,kE T xs _ λu o=>h u (by simp[o]),pJ,h t (by simp)];lia
theorem oK{R:Nat->Nat->Int}{u:Nat}:∀(T:List Nat)(xs:List Int)(a:Nat->Int),(∀t∈T,R t u=0)->cb R a T xs u=a u
 | [],_,a,_=>by unfold cb;rfl
 |t::T,[],a,_=>by unfold cb;rfl
 |t::T,x::xs,a,h=>by rw[cb,oK T xs _ λw o=>h w (by simp[o]),h t (by simp)];lia
structure vH(n:Nat)(ts:Ae)(F T:List Nat)(R:Nat->Nat->Int):Prop where
 nd:T.Nodup
 mem:∀k,k∈T↔k<ts.length/\k∉F
 one:∀t∈T,R t t=1
 off:∀t∈T,∀u∈T,u≠t->R t u=0
 bal:∀t∈T,∀q,q<n->bal ts (R t) q=0
theorem tO{R:Nat->Nat->Int}(f:Nat->Int):∀(T:List Nat)(a:Nat->Int),T.Nodup->(∀t∈T,R t t=1)->(∀t∈T,∀u∈T,u≠t->R t u=0)->∀u∈T,cb R a T (T.map f) u=a u+f u
 | [],a,_,_,_,u,q=>by cases q
 |t::T,a,I,H,B,u,q=>by
  have E:=RZ.mp I;rw[HJ,cb];by_cases e:u=t
  ·subst e;rw[oK T _ _ λw o=>B w (by simp[o]) u (by simp) λe=>E.1 (e ▸ o),H u (by simp)];lia
  ·have A:u∈T:=(HN.mp q).resolve_left e;rw[tO f T _ E.2 (λw o=>H w (by simp[o])) (λw o v J=>B w (by simp[o]) v (by simp[J])) u A,B t (by simp) u q e];lia
theorem kr1(O:InW n ts){T:List Nat}{R:Nat->Nat->Int}(B:Vc n ts F)(r:vH n ts F T R)(Y:1<=h):
  (∃o:List Int,o.length=T.length/\(∀x∈o,1<=x/\x<h)/\∀k,k<ts.length->cb R (λ_=>0) T o k % (h:Int)≠0)↔0<Fn h n ts (λ_=>0):=by
 have J:∀q,bal ts (λ_=>0) q=0:=λq=>by
  unfold bal;have:(List.range ts.length).map (tm ts (λ_=>0) q)=(List.range ts.length).map λ_=>(0:Int):=UW λk _=>by unfold tm;simp
  rw[this,eZ]
 rw[oN];constructor
 ·rintro⟨o,_,E,M⟩;refine⟨λk=>cb R (λ_=>0) T o k % (h:Int),λk v=>?_,λp A=>?_⟩
  ·have Z:=bD (cb R (λ_=>0) T o k) (show(h:Int)≠0 by lia);have Q:=bJ (cb R (λ_=>0) T o k) (show(0:Int)<h by lia);have:=M k v;exact⟨by lia,Q⟩
  ·rw[pR,xX (z:=cb R (λ_=>0) T o) λk _=>qL _ (pP _),kE T o _ λt w=>r.bal t w p A,J];simp
 ·rintro⟨f,H,P⟩;refine⟨T.map f,GP _,λx E=>?_,λk v=>?_⟩
  ·obtain⟨t,w,rfl⟩:=HX.mp E;exact H t ((r.mem t).mp w).1
  ·have K:=tO f T (λ_=>0) r.nd r.one r.off;have D:∀k,k<ts.length->(f k+(-1) * cb R (λ_=>0) T (T.map f) k) % (h:Int)=0:=by
    have out:∀k,k<ts.length->k∉F->(f k+(-1) * cb R (λ_=>0) T (T.map f) k) % (h:Int)=0:=λk v u=>by
     rw[K k ((r.mem k).mpr ⟨v,u⟩)];have:f k + -1 * (0+f k)=0:=by lia
     rw[this];simp
    intro k v;by_cases u:k∈F
    ·refine Za O B.kn B.nd B.fr (y:=λk=>f k+(-1) * cb R (λ_=>0) T (T.map f) k) out (λp A=>?_) k u;rw[pJ,kE T _ _ λt w=>r.bal t w p A,J];have:=P p A;rw[pR]at this;simpa using this
    ·exact out k v u
   intro z;have d:=D k v;have⟨f1,X⟩:=H k v;have I:f k % (h:Int)=f k:=jIb (by lia) X;have:(f k+(-1) * cb R (λ_=>0) T (T.map f) k) % (h:Int)=f k:=by rw[W_,Int.mul_emod,z,I];simpa using I
   lia
end Gr
namespace Law
open PySem L2 PD
def top(i:Nat):DR:=PySem.Challenge.pw_tietable_k42_a_flow_told.main.body.getD i (.Pass ⟨0,0,0,0⟩)
abbrev Ul:DR:=top 55
def J3:Wf "_law_cell" Ul 2 1 ["_law_script","_law_k"] (λb q=>Zc "len" b->q) So0:=⟨["_law_script","_law_k"],Dn,_,λS F a =>
  By (O:=[]) F S (by decide) λe A c s H E i h g =>
  have f:=S.nd
  (s1 (Cd (u3 (ifx (tlt (nv 1) (u1 (PEd.sc (Kq a (ac (nv 0) an)) (Cm Cp)))) (ix (nv 0) (nv 1)) (u1 ki)))))⟩
def Ub:Ev->R Fl:=gO (v:=J3.g) (by dsimp [J3])
def Ed:List D->R D:=Cq 2 Ub
abbrev Um:DR:=top 56
def J5:Wf "_law_draw" Um 4 1 ["_law_cell_here","_law_salt","_law_many"] (λb q=>q) So0:=⟨["_law_cell_here","_law_salt","_law_many","_law_number"],Dn,_,λS F =>
  By (O:=[]) F S (by decide) λe A a s H E h g f =>
  have c:=S.nd
  (sc (Cy 3 c (u1 (mod (PEd.sc (mul (Jb (nv 0) (u1 (PEd.sc (mul (u1 ki) (nv 1)) (Ca Gd)))) (u1 ki)) (Ca Gd)) ki)))
  (sc (Cy 3 c (u1 (mod (PEd.sc (mul (Jb (Jb (nv 3) (u1 (PEd.sc (fdiv (nv 0) (u1 ki)) (Ca Em)))) (nv 1)) (u1 ki)) (Ca Gd)) ki)))
  (s1 (Cd (u2 (PEd.sc (mod (u1 (PEd.sc (fdiv (nv 3) (u1 ki)) (Ca Em))) (nv 2)) (Ca Es)))))))⟩
def Uc:Ev->R Fl:=gO (v:=J5.g) (by dsimp [J5])
def Fg:List D->R D:=Cq 4 Uc
abbrev M4:DR:=top 58
abbrev J2:=Wb J3 FB Ed
abbrev Ng:=Wb J5 FB Fg
def Eu:Wf "_law_by_cells" M4 9 2 ["_law_script","_law_at","_law_points","_law_many"] (λb q=>Zc "max" b->Zc "min" b->Zc "range" b->J2 b->Ng b->q) So0:=⟨["_law_script","_law_at","_law_points","_law_many","_law_found","_law_k","_law_cell_here","_law_one","_law_other"],Dn,_,λS F g f e c a =>
  By (O:=[4]) F S (by decide) λk A i s H E n j m =>
  have h:=S.nd
  (sc (jJ 4 h (PEf.up (l:=.fr) (l':=.no) (fG an)))
  (sc (for_ PassesOwn.never rfl (tn 5 h) (fX e (ac (nv 3) an)) (sc (Cy 6 h (callC c (j.mono (by decide)) (ac (nv 0) (ac (Jb (nv 1) (nv 5)) an))))
  (sc (Cy 7 h (callC a (j.mono (by decide)) (ac (nv 6) (ac (u1 ki) (ac (nv 2) an)))))
  (sc (Cy 8 h (callC a (j.mono (by decide)) (ac (nv 6) (ac (u1 ki) (ac (nv 2) an)))))
  (s1 (rW 4 (u1 (tup (ac (PEd.sc (fD rfl f (ac (nv 7) (ac (nv 8) an))) (Cm Ro)) (ac (PEd.sc (mK rfl g (ac (nv 7) (ac (nv 8) an))) (Cm o9)) an))))))))))
  (s1 (Cd (av 4)))))⟩
def Mw:Ev->R Fl:=gO (v:=Eu.g) (by dsimp [Eu])
def Ho:List D->R D:=Cq 9 Mw
abbrev K1:DR:=top 57
def Ei:Wf "_law_by_digits" K1 6 1 ["_law_number","_law_points","_law_many"] (λb q=>Zc "max" b->Zc "min" b->Zc "range" b->q) So0:=⟨["_law_number","_law_points","_law_many","_law_found","_law_k","_law_one"],Dn,_,λS F e c a =>
  By (O:=[3]) F S (by decide) λh A g s H E k j i =>
  have f:=S.nd
  (sc (jJ 3 f (PEf.up (l:=.fr) (l':=.no) (fG an)))
  (sc (for_ PassesOwn.never rfl (tn 4 f) (fX a (ac (nv 2) an)) (sc (Cy 5 f (u1 (PEd.sc (mod (nv 0) (nv 1)) (Ca Es))))
  (sc (Cy 0 f (u1 (PEd.sc (fdiv (nv 0) (nv 1)) (Ca Em))))
  (sc (rW 3 (u1 (tup (ac (PEd.sc (fD rfl c (ac (nv 5) (ac (u1 (PEd.sc (mod (nv 0) (nv 1)) (Ca Es))) an))) (Cm Ro)) (ac (PEd.sc (mK rfl e (ac (nv 5) (ac (u1 (PEd.sc (mod (nv 0) (nv 1)) (Ca Es))) an))) (Cm o9)) an)))))
  (s1 (Cy 0 f (u1 (PEd.sc (fdiv (nv 0) (nv 1)) (Ca Em)))))))))
  (s1 (Cd (tup (ac (av 3) (ac (u3 (nv 0)) an)))))))⟩
def Km:Ev->R Fl:=gO (v:=Ei.g) (by dsimp [Ei])
def Kg:List D->R D:=Cq 6 Km
abbrev Xc:DR:=top 59
abbrev Mq:=Wb Eu FB Ho
abbrev Ke:=Wb Ei FB Kg
def K7:Wf "_law_web" Xc 6 3 ["_law_script","_law_most_points","_law_most_ties"] (λb q=>Zc "tuple" b->Mq b->Ke b->J2 b->Ng b->q) So0:=⟨["_law_script","_law_most_points","_law_most_ties","_law_number","_law_points","_law_many"],Dn,_,λS F g f e c a =>
  By (O:=[]) F S (by decide) λk A j s H E m i l =>
  have h:=S.nd
  (sc (Cy 3 h (callC c (i.mono (by decide)) (ac (nv 0) (ac (u1 ki) an))))
  (sc (if_ (cW (nQ (mJ) (iM) (u1 ki) (nv 3) (u1 (pow ki ki)))) (sc (Cy 4 h (u1 (Jb ki (PEd.sc (mod (nv 3) (nv 1)) (Ca Es)))))
  (sc (Cy 3 h (u1 (PEd.sc (fdiv (nv 3) (nv 1)) (Ca Em))))
  (sc (Cy 5 h (u1 (PEd.sc (mod (nv 3) (Jb (nv 2) (u1 ki))) (Ca Es))))
  (s1 (Cd (u3 (tup (ac (nv 4) (ac (Kd g (ac (ix (callC e (i.mono (by decide)) (ac (u1 (PEd.sc (fdiv (nv 3) (Jb (nv 2) (u1 ki))) (Ca Em))) (ac (nv 4) (ac (nv 5) an)))) (u1 ki)) an)) an))))))))) sn)
  (sc (Cy 4 h (Jb (u1 ki) (callC a (i.mono (by decide)) (ac (nv 3) (ac (u1 ki) (ac (nv 1) an))))))
  (sc (Cy 5 h (callC a (i.mono (by decide)) (ac (callC c (i.mono (by decide)) (ac (nv 0) (ac (u1 ki) an))) (ac (u1 ki) (ac (Jb (nv 2) (u1 ki)) an)))))
  (s1 (Cd (u3 (tup (ac (nv 4) (ac (Kd g (ac (callC f (i.mono (by decide)) (ac (nv 0) (ac (u1 ki) (ac (nv 4) (ac (nv 5) an))))) an)) an))))))))))⟩
def V8:Ev->R Fl:=gO (v:=K7.g) (by dsimp [K7])
def Vu:List D->R D:=Cq 6 V8
abbrev Oi:DR:=top 50
def Fw:Wf "refuse_hours" Oi 1 1 ["hours"] (λb q=>RC0 b.K b.mg "NoHours"->q) Sx0:=⟨["hours"],Dn,_,λS F a =>
  oA (O:=[]) F S (by decide) λf A c s H E j i h e =>
  have g:=S.nd
  (s1 (if_ (tlt (nv 0) (u1 ki)) (s1 (rs0 e rfl a (wdj (tU wdk (tU (wdf (nv 0)) wj0))))) sn))⟩
def Gb:Ev->R Fl:=gO (v:=Fw.g) (by dsimp [Fw])
def Dj:List D->R D:=Cq 1 Gb
abbrev Z5:DR:=top 52
def S6:Wf "settled" Z5 2 1 ["rows","many"] (λb q=>Zc "all" b->Zc "range" b->q) So0:=⟨["rows","many"],Dn,_,λS F c a =>
  By (O:=[]) F S (by decide) λv A k s H E y x u =>
  have w:=S.nd
  (s1 (Cd (u3 (comp (T:=["tie"]) (caps:=[0]) (by rfl) rfl (fX a (ac (nv 1) an)) (λr _ o f j h m=>(tn 0 (show List.Nodup (["tie","rows"]:List BZ) by decide +kernel))) (λr _ o f j h m=>(ti1 (tst (PEd.sc (iT rfl c (ac (comp (T:=["row"]) (caps:=[0]) (by rfl) rfl (Hc (nv 1)) (λp _ n e i g l=>(tn 0 (show List.Nodup (["row","tie"]:List BZ) by decide +kernel))) (λp _ n e i g l=>ti0) (λp _ n e i g l=>(u2 (PEd.sc (eq_ u (ix (nv 0) (nv 1)) (u1 ki)) (Ca o_)))) (Bw (by decide))) an)) (Cm U6))))) (λr _ o f j h m=>(u3 (nv 0))) (Bw (by decide))))))⟩
def Zh:Ev->R Fl:=gO (v:=S6.g) (by dsimp [S6])
def Jg:List D->R D:=Cq 2 Zh
abbrev G5:DR:=top 51
def Gy(rc:List D->R D):Ev->R Fl:=(sq (ifS (tt (bA (zv (Bo (itS (cl (zv (gv 0) (zv (bA (zv (gv 1) a0) Eo) a0)) Jg)) 1 [1,2] (gN 0) yes (b2 (b2 (b2 (gv 1) (gv 0) ixD) (gv 2) Gk) (kd (.int 0)) eqD)) a0) dM)) (Jt (kd .non)) nop)
 (sq (ifS (tb (b2 (bA (zv (gv 0) a0) Eo) (kd (.int 0)) eqD)) (Jt (bA (zv (Bo (itS (gv 1)) 1 [2] (gN 0) yes (b2 (gv 0) (gv 1) Gk)) a0) Mp)) nop)
 (sq (b_ (itR Xb (zv (kd (.int 1)) (zv (gv 2) a0))) (gN 3) (sq (asg 4 (Bo (itZ (zv (gv 1) (zv (b2 (gv 0) (kd (.int 0)) ixD) a0))) 2 [3] (gT [0,1]) yes (b2 (gv 0) (b2 (gv 2) (gv 1) Hh) Dg)))
 (sq (asg 5 (cl (zv (bS (gv 0) (p1 (kd (.int 1))) p0 slA) (zv (gv 4) (zv (gv 2) a0))) rc))
 (ifS (tb (b2 (gv 5) (kd .non) Wy)) (Jt (gv 5)) nop))))
 (Jt (kd .non)))))
def Aq:Nat->List D->R D
 |0=>λ_=>.bad
 |n+1=>Cq 6 (Gy (Aq n))
def Gx:List D->R D:=Aq 12
def Gq:Fp ["rows","amounts","hours","times","more","found"] ["rows","amounts","hours"] (Bf G5):=Dn
theorem Js{P:B_}{w:CW}{K:CJ}{o:BZ->Option A_}{base:CK}{a:BK}{u:DX}(F:Fun K "filled_further" "filled_further" G5 a u)(B:o "filled_further" = some (.ref a))(C:W.keepIn K (.ref a)=true)(G:Binds K u ["rows","amounts","hours"] [])(m:o "any" = none)(j:o "len" = none)(f:o "range" = none)(e:o "tuple" = none)(l:o "zip" = none)(c:FnC P w K o base 1 "settled" ["rows","many"] 2 Jg):
  ∀n:Nat,Hl P w K o base CX0 (2+n) a u ["rows","amounts","hours"] (sp0 K 3 (Aq n))
 |0=>uO F Gq
 |n+1=>By (k:=2+n) (O:=[]) F Gq (by decide) λI A v s H E J z y =>
  have x:=Gq.nd;have b:FnC P w K o base (2+n) "filled_further" ["rows","amounts","hours"] 3 (Aq n):=⟨a,u,Js F B C G m j f e l c n,B,C,G⟩
  (sc (if_ (tst (PEd.sc (yl4 rfl m (ac (comp (T:=["tie"]) (caps:=[1,2]) (by rfl) rfl (Hc (callC c (z.mono (by omega)) (ac (nv 0) (ac (u1 (PEd.sc (Kq j (ac (nv 1) an)) (Cm Cp))) an)))) (λr _ q g i h p=>(tn 0 (show List.Nodup (["tie","amounts","hours"]:List BZ) by decide +kernel))) (λr _ q g i h p=>ti0) (λr _ q g i h p=>(u2 (eq_ y (PEd.sc (mod (ix (nv 1) (nv 0)) (nv 2)) (Ca Es)) ki))) (Bw (by decide))) an)) (Cm wf8))) (s1 (Cd (u2 kn))) sn)
  (sc (if_ (teq y (PEd.sc (Kq j (ac (nv 0) an)) (Cm Cp)) ki) (s1 (Cd (u3 (Kd e (ac (comp (T:=["amount"]) (caps:=[2]) (by rfl) rfl (Hc (nv 1)) (λr _ q g i h p=>(tn 0 (show List.Nodup (["amount","hours"]:List BZ) by decide +kernel))) (λr _ q g i h p=>ti0) (λr _ q g i h p=>(u2 (PEd.sc (mod (nv 0) (nv 1)) (Ca Es)))) (Bw (by decide))) an))))) sn)
  (sc (for_ PassesOwn.never rfl (tn 3 x) (yf3 f (ac (u1 ki) (ac (nv 2) an))) (sc (setC (T:=["amount","step"]) (caps:=[3]) 4 x (by rfl) rfl (yo4 l (ac (nv 1) (ac (ix (nv 0) (u1 ki)) an))) (λr _ q g i h p=>(tT rfl (tsc 0 (show List.Nodup (["amount","step","times"]:List BZ) by decide +kernel) (tsc 1 (show List.Nodup (["amount","step","times"]:List BZ) by decide +kernel) tsn)))) (λr _ q g i h p=>ti0) (λr _ q g i h p=>(u3 (Jb (nv 0) (u1 (PEd.sc (mul (nv 2) (nv 1)) (Ca Gd)))))) (Rh (by decide)))
  (sc (Cy 5 x (callC b (z.mono (by omega)) (ac (Xm (nv 0) (ps ki) pn) (ac (nv 4) (ac (nv 2) an)))))
  (s1 (if_ (yk3 (nv 5) (u1 kn)) (s1 (Cd (u3 (nv 5)))) sn)))))
  (s1 (Cd (u2 kn))))))
abbrev Oh:DR:=top 8
def Fv:Wf "put_together" Oh 3 1 ["leasts","one","other"] (λb q=>Zc "min" b->q) So0:=⟨["leasts","one","other"],Dn,_,λS F a =>
  By (O:=[]) F S (by decide) λl A g s H E o n k =>
  have m:=S.nd
  (s1 (Cd (u3 (comp (T:=["least"]) (caps:=[1,2]) (by rfl) rfl (Hc (nv 0)) (λj _ i c f e h=>(tn 0 (show List.Nodup (["least","one","other"]:List BZ) by decide +kernel))) (λj _ i c f e h=>ti0) (λj _ i c f e h=>(u3 (ifx (tin k (nv 0) (tup (ac (nv 1) (ac (nv 2) an)))) (u1 (PEd.sc (fD rfl a (ac (nv 1) (ac (nv 2) an))) (Cm Ro))) (nv 0)))) (Bw (by decide))))))⟩
def N6:Ev->R Fl:=gO (v:=Fv.g) (by dsimp [Fv])
def Jm:List D->R D:=Cq 3 N6
abbrev M6:DR:=top 7
abbrev Ni:=Wb Fv FB Jm
def Ey:Wf "least_of_each" M6 5 2 ["web","some"] (λb q=>Zc "list" b->Zc "range" b->Ni b->q) So0:=⟨["web","some","leasts","tie","ends"],Dn,_,λS F e c a =>
  By (O:=[]) F S (by decide) λi A g s H E k h j =>
  have f:=S.nd
  (sc (Cy 2 f (list_range rfl e c (ac (ix (nv 0) (u1 ki)) an)))
  (sc (for_ PassesOwn.never rfl (tn 3 f) (Hc (nv 1)) (sc (Cy 4 f (ix (ix (nv 0) (u1 ki)) (nv 3)))
  (s1 (Cy 2 f (callC a (h.mono (by decide)) (ac (nv 2) (ac (ix (nv 2) (ix (nv 4) (u1 ki))) (ac (ix (nv 2) (ix (nv 4) (u1 ki))) an))))))))
  (s1 (Cd (u3 (nv 2))))))⟩
def My:Ev->R Fl:=gO (v:=Ey.g) (by dsimp [Ey])
def Mu:List D->R D:=Cq 5 My
abbrev Z3:DR:=top 9
def Ow:Wf "members" Z3 2 1 ["leasts","least"] (λb q=>Zc "enumerate" b->Zc "tuple" b->q) So0:=⟨["leasts","least"],Dn,_,λS F a c =>
  By (O:=[]) F S (by decide) λm A h s H E p o l =>
  have n:=S.nd
  (s1 (Cd (u3 (Kd c (ac (comp (T:=["point","other"]) (caps:=[1]) (by rfl) rfl (ws4 a (nv 0)) (λk _ j e g f i=>(tT rfl (tsc 0 (show List.Nodup (["point","other","least"]:List BZ) by decide +kernel) (tsc 1 (show List.Nodup (["point","other","least"]:List BZ) by decide +kernel) tsn)))) (λk _ j e g f i=>(ti1 (teq l (nv 1) (nv 2)))) (λk _ j e g f i=>(u3 (nv 0))) (Rh (by decide))) an)))))⟩
def Zf:Ev->R Fl:=gO (v:=Ow.g) (by dsimp [Ow])
def Yz:List D->R D:=Cq 2 Zf
abbrev vZ:DR:=top 1
abbrev Ms:=Wb Ey FB Mu
abbrev Yn:=Wb Ow FB Yz
def Uy:Wf "parts" vZ 3 3 ["web","some"] (λb q=>Zc "set" b->Zc "sorted" b->Ms b->Yn b->q) So0:=⟨["web","some","leasts"],Dn,_,λS F f e a c =>
  By (O:=[]) F S (by decide) λp A j s H E u k r =>
  have o:=S.nd
  (sc (Cy 2 o (callC a (k.mono (by decide)) (ac (nv 0) (ac (nv 1) an))))
  (s1 (Cd (u3 (comp (T:=["least"]) (caps:=[2]) (by rfl) rfl (Hc (jn0 rfl e f (ac (nv 2) an))) (λn _ m g i h l=>(tn 0 (show List.Nodup (["least","leasts"]:List BZ) by decide +kernel))) (λn _ m g i h l=>ti0) (λn _ m g i h l=>(u3 (callC c (k.mono (by decide)) (ac (nv 1) (ac (nv 0) an))))) (Bw (by decide)))))))⟩
def w5:Ev->R Fl:=gO (v:=Uy.g) (by dsimp [Uy])
def xQ:List D->R D:=Cq 3 w5
abbrev uD:DR:=top 2
abbrev yG:=Wb Uy FB xQ
def kJ:Wf "rank" uD 2 4 ["web","some"] (λb q=>Zc "len" b->yG b->q) So0:=⟨["web","some"],Dn,_,λS F c a =>
  By (O:=[]) F S (by decide) λg A e s H E j f i =>
  have h:=S.nd
  (s1 (Cd (u2 (PEd.sc (sub (ix (nv 0) (u1 ki)) (u1 (PEd.sc (Kq c (ac (callC a (f.mono (by decide)) (ac (nv 0) (ac (nv 1) an))) an)) (Cm Cp)))) (Ca Ko)))))⟩
def uM:Ev->R Fl:=gO (v:=kJ.g) (by dsimp [kJ])
def Jo:List D->R D:=Cq 2 uM
abbrev Xf:DR:=top 5
def K9:Wf "all_ties" Xf 1 1 ["web"] (λb q=>Zc "len" b->Zc "range" b->Zc "tuple" b->q) So0:=⟨["web"],Dn,_,λS F e c a =>
  By (O:=[]) F S (by decide) λg A f s H E k j i =>
  have h:=S.nd
  (s1 (Cd (u2 (tuple_range rfl a c (ac (PEd.sc (Kq e (ac (ix (nv 0) (u1 ki)) an)) (Cm Cp)) an)))))⟩
def Wa:Ev->R Fl:=gO (v:=K9.g) (by dsimp [K9])
def Qg:List D->R D:=Cq 1 Wa
abbrev Xd:DR:=top 6
abbrev Gw:=Wb K9 FB Qg
def K8:Wf "all_sets" Xd 3 2 ["web"] (λb q=>Zc "sorted" b->Gw b->q) So0:=⟨["web","sets","tie"],Dn,_,λS F c a =>
  By (O:=[]) F S (by decide) λo A h s H E p n m =>
  have i:=S.nd
  (sc (Cy 1 i (u1 (lst (ac (tup an) an))))
  (sc (for_ PassesOwn.never rfl (tn 2 i) (Hc (callC a (n.mono (by decide)) (ac (nv 0) an))) (s1 (Cy 1 i (Jb (nv 1) (comp (T:=["some"]) (caps:=[2]) (by rfl) rfl (Hc (nv 1)) (λl _ k e g f j=>(tn 0 (show List.Nodup (["some","tie"]:List BZ) by decide +kernel))) (λl _ k e g f j=>ti0) (λl _ k e g f j=>(u3 (Jb (nv 0) (tup (ac (nv 1) an))))) (Bw (by decide)))))))
  (s1 (Cd (u3 (PEf.d (kz1 m c (ac (nv 1) an)) jm8))))))⟩
def V9:Ev->R Fl:=gO (v:=K8.g) (by dsimp [K8])
def Qf:List D->R D:=Cq 3 V9
abbrev Zz:DR:=top 43
abbrev Vh:=Wb K8 FB Qf
abbrev Sx:=Wb kJ FB Jo
def Ov:Wf "forests" Zz 2 5 ["web"] (λb q=>Zc "len" b->Vh b->Gw b->Sx b->q) So0:=⟨["web","full"],Dn,_,λS F f c a e =>
  By (O:=[]) F S (by decide) λr A k s H E u j l =>
  have p:=S.nd
  (sc (Cy 1 p (callC e (j.mono (by decide)) (ac (nv 0) (ac (callC a (j.mono (by decide)) (ac (nv 0) an)) an))))
  (s1 (Cd (u3 (comp (T:=["some"]) (caps:=[1,0]) (by rfl) rfl (Hc (callC c (j.mono (by decide)) (ac (nv 0) an))) (λo _ n g i h m=>(tn 0 (show List.Nodup (["some","full","web"]:List BZ) by decide +kernel))) (λo _ n g i h m=>(ti1 (dO (yr3 (teq l (u1 (PEd.sc (Kq f (ac (nv 0) an)) (Cm Cp))) (nv 1)) (yj8 (teq l (callC e (j.mono (by decide)) (ac (nv 2) (ac (nv 0) an))) (nv 1))))))) (λo _ n g i h m=>(u3 (nv 0))) (Bw (by decide)))))))⟩
def Zb:Ev->R Fl:=gO (v:=Ov.g) (by dsimp [Ov])
def S9:List D->R D:=Cq 2 Zb
abbrev Xh:DR:=top 46
def Lb:Wf "left_out" Xh 2 1 ["some","tie"] (λb q=>Zc "tuple" b->q) So0:=⟨["some","tie"],Dn,_,λS F a =>
  By (O:=[]) F S (by decide) λl A g s H E o n k =>
  have m:=S.nd
  (s1 (Cd (u3 (Kd a (ac (comp (T:=["one"]) (caps:=[1]) (by rfl) rfl (Hc (nv 0)) (λj _ i c f e h=>(tn 0 (show List.Nodup (["one","tie"]:List BZ) by decide +kernel))) (λj _ i c f e h=>(ti1 (tne k (nv 0) (nv 1)))) (λj _ i c f e h=>(u3 (nv 0))) (Bw (by decide))) an)))))⟩
def We:Ev->R Fl:=gO (v:=Lb.g) (by dsimp [Lb])
def Li:List D->R D:=Cq 2 We
abbrev Up:DR:=top 45
abbrev Vi:=Wb Lb FB Li
def J6:Wf "ring_with" Up 4 5 ["web","forest","tie"] (λb q=>Zc "len" b->Zc "sorted" b->Zc "tuple" b->Vi b->Sx b->q) So0:=⟨["web","forest","tie","more"],Dn,_,λS F g e a c f =>
  By (O:=[]) F S (by decide) λu A k s H E v l r =>
  have p:=S.nd
  (sc (Cy 3 p (Kd a (ac (PEf.d (zH e (ac (Jb (nv 1) (tup (ac (nv 2) an))) an)) Xo) an)))
  (s1 (Cd (u3 (Kd a (ac (comp (T:=["one"]) (caps:=[0,3,1]) (by rfl) rfl (Hc (nv 3)) (λo _ n h j i m=>(tn 0 (show List.Nodup (["one","web","more","forest"]:List BZ) by decide +kernel))) (λo _ n h j i m=>(ti1 (teq r (callC f (l.mono (by decide)) (ac (nv 1) (ac (callC c (l.mono (by decide)) (ac (nv 2) (ac (nv 0) an))) an))) (u1 (PEd.sc (Kq g (ac (nv 3) an)) (Cm Cp)))))) (λo _ n h j i m=>(u3 (nv 0))) (Bw (by decide))) an))))))⟩
def Ud:Ev->R Fl:=gO (v:=J6.g) (by dsimp [J6])
def Nq:List D->R D:=Cq 4 Ud
abbrev Xi:DR:=top 53
abbrev T6:=Wb J6 FB Nq
def Le:Wf "ring_row" Xi 8 6 ["web","forest","tie"] (λb q=>Zc "len" b->T6 b->q) So0:=⟨["web","forest","tie","row","left","point","other","ends"],Dn,_,λS F j a =>
  By (O:=[3,4]) F S (by decide) λo A m s H E p n l =>
  have k:=S.nd
  (sc (sO (T:=["other"]) (caps:=[]) 3 k (by rfl) rfl (Hc (ix (nv 0) (u1 ki))) (λi _ h c f e g=>(tn 0 (show List.Nodup (["other"]:List BZ) by decide +kernel))) (λi _ h c f e g=>ti0) (λi _ h c f e g=>(u2 ki)) (Bw (by decide)))
  (sc (iJ 3 (u1 ki) (nv 2))
  (sc (sO (T:=["other"]) (caps:=[2]) 4 k (by rfl) rfl (Hc (callC a (n.mono (by decide)) (ac (nv 0) (ac (nv 1) (ac (nv 2) an))))) (λi _ h c f e g=>(tn 0 (show List.Nodup (["other","tie"]:List BZ) by decide +kernel))) (λi _ h c f e g=>(ti1 (tne l (nv 0) (nv 1)))) (λi _ h c f e g=>(u3 (nv 0))) (Bw (by decide)))
  (sc (Cy 5 k (ix (ix (ix (nv 0) (u1 ki)) (nv 2)) (u1 ki)))
  (sc (tY 100000 PassesOwn.never (tgt (PEd.sc (Kq j (ac (av 4) an)) (Cm Cp)) ki) (sc (Cy 6 k (u1 (PEd.chk (ix (comp (T:=["one"]) (caps:=[5,0]) (by rfl) rfl (Hc (av 4)) (λi _ h c f e g=>(tn 0 (show List.Nodup (["one","point","web"]:List BZ) by decide +kernel))) (λi _ h c f e g=>(ti1 (tin l (nv 1) (ix (ix (nv 2) (u1 ki)) (nv 0))))) (λi _ h c f e g=>(u3 (nv 0))) (Bw (by decide))) (u2 ki)))))
  (sc (Cy 7 k (ix (ix (nv 0) (u1 ki)) (nv 6)))
  (sc (iJ 3 (u1 (ifx (teq l (ix (nv 7) (u1 ki)) (nv 5)) ki (neg ki))) (nv 6))
  (sc (Cy 5 k (ifx (teq l (ix (nv 7) (u1 ki)) (nv 5)) (ix (nv 7) (u1 ki)) (ix (nv 7) (u1 ki))))
  (s1 (yp9 4 (nv 6))))))))
  (s1 (Cd (av 3))))))))⟩
def Wg:Ev->R Fl:=gO (v:=Le.g) (by dsimp [Le])
def Lj:List D->R D:=Cq 8 Wg
abbrev Z4:DR:=top 44
def Ox:Wf "outside" Z4 2 2 ["web","forest"] (λb q=>Zc "tuple" b->Gw b->q) So0:=⟨["web","forest"],Dn,_,λS F c a =>
  By (O:=[]) F S (by decide) λn A h s H E p m l =>
  have o:=S.nd
  (s1 (Cd (u3 (Kd c (ac (comp (T:=["tie"]) (caps:=[1]) (by rfl) rfl (Hc (callC a (m.mono (by decide)) (ac (nv 0) an))) (λk _ j e g f i=>(tn 0 (show List.Nodup (["tie","forest"]:List BZ) by decide +kernel))) (λk _ j e g f i=>(ti1 (qY l (nv 0) (nv 1)))) (λk _ j e g f i=>(u3 (nv 0))) (Bw (by decide))) an)))))⟩
def Zg:Ev->R Fl:=gO (v:=Ox.g) (by dsimp [Ox])
def Tc:List D->R D:=Cq 2 Zg
abbrev uE:DR:=top 49
abbrev Sw(b:Bx):Prop:=FB b 14 "filled_further" ["rows","amounts","hours"] Gx
abbrev Ym:=Wb Ov FB S9
abbrev Yo:=Wb Ox FB Tc
abbrev Vj:=Wb Le FB Lj
abbrev Hm:=Wb Fw FXB Dj
def Sy:Wf "flow" uE 4 15 ["web","hours"] (λb q=>Sw b->Ym b->Yo b->Vj b->Hm b->q) Sx0:=⟨["web","hours","forest","rows"],Dn,_,λS F a g f e c =>
  oA (O:=[]) F S (by decide) λu A o s H E w k v r =>
  have p:=S.nd
  (sc (ex_ (u3 (u9 c r (k.mono (by decide)) (ac (nv 1) an))))
  (sc (Cy 2 p (ix (callC g (k.mono (by decide)) (ac (nv 0) an)) (u1 ki)))
  (sc (setC (T:=["tie"]) (caps:=[0,2]) 3 p (by rfl) rfl (Hc (callC f (k.mono (by decide)) (ac (nv 0) (ac (nv 2) an)))) (λn _ m h j i l=>(tn 0 (show List.Nodup (["tie","web","forest"]:List BZ) by decide +kernel))) (λn _ m h j i l=>ti0) (λn _ m h j i l=>(u3 (callC e (k.mono (by decide)) (ac (nv 1) (ac (nv 2) (ac (nv 0) an)))))) (Bw (by decide)))
  (s1 (Cd (u3 (callC a (k.mono (by decide)) (ac (nv 3) (ac (comp (T:=["tie"]) (caps:=[]) (by rfl) rfl (Hc (ix (nv 0) (u1 ki))) (λn _ m h j i l=>(tn 0 (show List.Nodup (["tie"]:List BZ) by decide +kernel))) (λn _ m h j i l=>ti0) (λn _ m h j i l=>(u2 ki)) (Bw (by decide))) (ac (nv 1) an))))))))))⟩
def n8:Ev->R Fl:=gO (v:=Sy.g) (by dsimp [Sy])
def Np:List D->R D:=Cq 4 n8
abbrev vY:DR:=top 16
def Uz:Wf "taken" vY 3 1 ["number","often"] (λb q=>q) So0:=⟨["number","often","product"],Dn,_,λS F =>
  By (O:=[]) F S (by decide) λf A c s H E h g e =>
  have a:=S.nd
  (sc (Cy 2 a (u1 ki))
  (sc (tY 100000 PassesOwn.never (tgt (nv 1) (u1 ki)) (sc (if_ (teq e (PEd.sc (mod (nv 1) (u1 ki)) (Ca Es)) ki) (s1 (Cy 2 a (u1 (PEd.sc (mul (nv 2) (nv 0)) (Ca Gd))))) sn)
  (sc (Cy 1 a (u1 (PEd.sc (fdiv (nv 1) (u1 ki)) (Ca Em))))
  (s1 (if_ (tgt (nv 1) (u1 ki)) (s1 (Cy 0 a (u1 (PEd.sc (mul (nv 0) (nv 0)) (Ca Gd))))) sn)))))
  (s1 (Cd (u3 (nv 2))))))⟩
def wZ:Ev->R Fl:=gO (v:=Uz.g) (by dsimp [Uz])
def O2:List D->R D:=Cq 3 wZ
abbrev vX:DR:=top 12
abbrev yF:=Wb Uz FB O2
def U0:Wf "worth" vX 3 2 ["table","x","y"] (λb q=>Zc "sum" b->yF b->q) So0:=⟨["table","x","y"],Dn,_,λS F c a =>
  By (O:=[]) F S (by decide) λm A h s H E p i o =>
  have n:=S.nd
  (s1 (Cd (u2 (PEd.sc (yq2 rfl c (ac (comp (T:=["i","j","times"]) (caps:=[1,2]) (by rfl) rfl (Hc (nv 0)) (λl _ k e g f j=>(tT rfl (tsc 0 (show List.Nodup (["i","j","times","x","y"]:List BZ) by decide +kernel) (tsc 1 (show List.Nodup (["i","j","times","x","y"]:List BZ) by decide +kernel) (tsc 2 (show List.Nodup (["i","j","times","x","y"]:List BZ) by decide +kernel) tsn))))) (λl _ k e g f j=>ti0) (λl _ k e g f j=>(u2 (PEd.sc (mul (u1 (PEd.sc (mul (nv 2) (callC a (i.mono (by decide)) (ac (nv 3) (ac (nv 0) an)))) (Ca Gd))) (callC a (i.mono (by decide)) (ac (nv 4) (ac (nv 1) an)))) (Ca Gd)))) (Rh (by decide))) an)) (Cm wf9)))))⟩
def wY:Ev->R Fl:=gO (v:=U0.g) (by dsimp [U0])
def pF:List D->R D:=Cq 3 wY
abbrev M5:DR:=top 10
def Ew:Wf "each_left_out" M5 1 1 ["some"] (λb q=>Zc "len" b->Zc "range" b->q) So0:=⟨["some"],Dn,_,λS F c a =>
  By (O:=[]) F S (by decide) λm A h s H E r p o =>
  have n:=S.nd
  (s1 (Cd (u3 (comp (T:=["place"]) (caps:=[0]) (by rfl) rfl (PId.up (l:=.fr) (l':=.no) (fX a (ac (PEd.sc (Kq c (ac (nv 0) an)) (Cm Cp)) an))) (λk _ j e g f i=>(tn 0 (show List.Nodup (["place","some"]:List BZ) by decide +kernel))) (λk _ j e g f i=>ti0) (λk _ j e g f i=>(u3 (Jb (Xm (nv 1) pn (ps (nv 0))) (Xm (nv 1) (ps (Jb (nv 0) (u1 ki))) pn)))) (Bw (by decide))))))⟩
def Mx:Ev->R Fl:=gO (v:=Ew.g) (by dsimp [Ew])
def Hq:List D->R D:=Cq 1 Mx
abbrev Z0:DR:=top 3
abbrev Mr:=Wb Ew FB Hq
def S5:Wf "is_ring" Z0 2 5 ["web","some"] (λb q=>Zc "all" b->Zc "len" b->Mr b->Sx b->q) So0:=⟨["web","some"],Dn,_,λS F f c a e =>
  By (O:=[]) F S (by decide) λp A j s H E u k l =>
  have r:=S.nd
  (sc (if_ (dO (cV (teq l (PEd.sc (Kq c (ac (nv 1) an)) (Cm Cp)) ki) (eU (tge (callC e (k.mono (by decide)) (ac (nv 0) (ac (nv 1) an))) (u1 (PEd.sc (Kq c (ac (nv 1) an)) (Cm Cp))))))) (s1 (Cd (u2 kb))) sn)
  (s1 (Cd (u2 (PEd.sc (iT rfl f (ac (comp (T:=["left"]) (caps:=[0]) (by rfl) rfl (Hc (callC a (k.mono (by decide)) (ac (nv 1) an))) (λo _ n g i h m=>(tn 0 (show List.Nodup (["left","web"]:List BZ) by decide +kernel))) (λo _ n g i h m=>ti0) (λo _ n g i h m=>(u2 (PEd.sc (eq_ l (callC e (k.mono (by decide)) (ac (nv 1) (ac (nv 0) an))) (u1 (PEd.sc (Kq c (ac (nv 0) an)) (Cm Cp)))) (Ca o_)))) (Bw (by decide))) an)) (Cm U6))))))⟩
def Ze:Ev->R Fl:=gO (v:=S5.g) (by dsimp [S5])
def Fi:List D->R D:=Cq 2 Ze
abbrev zM:DR:=top 4
def Vk:Wf "is_cut" zM 5 5 ["web","some"] (λb q=>Zc "all" b->Zc "len" b->Zc "tuple" b->Gw b->Sx b->q) So0:=⟨["web","some","every","full","rest"],Dn,_,λS F j i e c a =>
  By (O:=[]) F S (by decide) λu A o s H E v n r =>
  have p:=S.nd
  (sc (Cy 2 p (callC c (n.mono (by decide)) (ac (nv 0) an)))
  (sc (Cy 3 p (callC a (n.mono (by decide)) (ac (nv 0) (ac (nv 2) an))))
  (sc (Cy 4 p (Kd e (ac (comp (T:=["tie"]) (caps:=[1]) (by rfl) rfl (Hc (nv 2)) (λm _ l f h g k=>(tn 0 (show List.Nodup (["tie","some"]:List BZ) by decide +kernel))) (λm _ l f h g k=>(ti1 (qY r (nv 0) (nv 1)))) (λm _ l f h g k=>(u3 (nv 0))) (Bw (by decide))) an)))
  (sc (if_ (dO (cV (teq r (PEd.sc (Kq i (ac (nv 1) an)) (Cm Cp)) ki) (eU (tge (callC a (n.mono (by decide)) (ac (nv 0) (ac (nv 4) an))) (nv 3))))) (s1 (Cd (u2 kb))) sn)
  (s1 (Cd (u2 (PEd.sc (iT rfl j (ac (comp (T:=["tie"]) (caps:=[0,4,3]) (by rfl) rfl (Hc (nv 1)) (λm _ l f h g k=>(tn 0 (show List.Nodup (["tie","web","rest","full"]:List BZ) by decide +kernel))) (λm _ l f h g k=>ti0) (λm _ l f h g k=>(u2 (PEd.sc (eq_ r (callC a (n.mono (by decide)) (ac (nv 1) (ac (Jb (nv 2) (tup (ac (nv 0) an))) an))) (nv 3)) (Ca o_)))) (Bw (by decide))) an)) (Cm U6)))))))))⟩
def Wd:Ev->R Fl:=gO (v:=Vk.g) (by dsimp [Vk])
def Kh:List D->R D:=Cq 5 Wd
abbrev Xg:DR:=top 15
def La:Wf "gathered" Xg 5 1 ["tuples"] (λb q=>Zc "sorted" b->q) So0:=⟨["tuples","sums","i","j","times"],Dn,_,λS F a =>
  By (O:=[1]) F S (by decide) λn A i s H E p o j =>
  have g:=S.nd
  (sc (yi7 1 g)
  (sc (for_ PassesOwn.never rfl (tT rfl (tsc 2 g (tsc 3 g (tsc 4 g tsn)))) (Hc (nv 0)) (s1 (yc2 j 1 (Jb (ye9 j 1 (ac (nv 2) (ac (nv 3) an)) (u1 ki)) (nv 4)) (ac (nv 2) (ac (nv 3) an)) (λ_ h=>h))))
  (s1 (Cd (PEf.d (zH a (ac (comp (T:=["place","times"]) (caps:=[]) (by rfl) rfl (ws5 1) (λm _ l c f e k=>(tT rfl (tsc 0 (show List.Nodup (["place","times"]:List BZ) by decide +kernel) (tsc 1 (show List.Nodup (["place","times"]:List BZ) by decide +kernel) tsn)))) (λm _ l c f e k=>(ti1 (tne j (nv 1) (u1 ki)))) (λm _ l c f e k=>(u3 (tup (ac (ix (nv 0) (u1 ki)) (ac (ix (nv 0) (u1 ki)) (ac (nv 1) an)))))) (Rh (by decide))) an)) Xo)))))⟩
def Wc:Ev->R Fl:=gO (v:=La.g) (by dsimp [La])
def Vv:List D->R D:=Cq 5 Wc
abbrev v7:DR:=top 13
abbrev Qe:=Wb La FB Vv
def pM:Wf "added" v7 2 2 ["one","other"] (λb q=>Qe b->q) So0:=⟨["one","other"],Dn,_,λS F a =>
  By (O:=[]) F S (by decide) λf A c s H E i e h =>
  have g:=S.nd
  (s1 (Cd (u3 (callC a (e.mono (by decide)) (ac (Jb (nv 0) (nv 1)) an)))))⟩
def xF:Ev->R Fl:=gO (v:=pM.g) (by dsimp [pM])
def Rb:List D->R D:=Cq 2 xF
abbrev R3:DR:=top 14
def Ld:Wf "multiplied" R3 6 2 ["one","other"] (λb q=>Qe b->q) So0:=⟨["one","other","products","i","j","times"],Dn,_,λS F a =>
  By (O:=[2]) F S (by decide) λn A h s H E p m o =>
  have g:=S.nd
  (sc (jJ 2 g (PEf.up (l:=.fr) (l':=.no) (fG an)))
  (sc (for_ PassesOwn.never rfl (tT rfl (tsc 3 g (tsc 4 g (tsc 5 g tsn)))) (Hc (nv 0)) (s1 (yn3 2 (tM (T:=["more_i","more_j","more"]) (caps:=[3,4,5]) (by rfl) rfl (Hc (nv 1)) (λk _ j c f e i=>(tT rfl (tsc 0 (show List.Nodup (["more_i","more_j","more","i","j","times"]:List BZ) by decide +kernel) (tsc 1 (show List.Nodup (["more_i","more_j","more","i","j","times"]:List BZ) by decide +kernel) (tsc 2 (show List.Nodup (["more_i","more_j","more","i","j","times"]:List BZ) by decide +kernel) tsn))))) (λk _ j c f e i=>ti0) (λk _ j c f e i=>(u3 (tup (ac (Jb (nv 3) (nv 0)) (ac (Jb (nv 4) (nv 1)) (ac (u1 (PEd.sc (mul (nv 5) (nv 2)) (Ca Gd))) an)))))) (Rh (by decide))))))
  (s1 (Cd (callC a (m.mono (by decide)) (ac (av 2) an))))))⟩
def Rj:Ev->R Fl:=gO (v:=Ld.g) (by dsimp [Ld])
def Cr:List D->R D:=Cq 6 Rj
abbrev R4:DR:=top 36
def Hz:Wf "refuse_tie" R4 2 1 ["web","tie"] (λb q=>Zc "len" b->q) So0:=⟨["web","tie"],Dn,_,λS F a =>
  By (O:=[]) F S (by decide) λe A c s H E i h g =>
  have f:=S.nd
  (s1 (if_ (cW (nQ (mJ) (iM) (u1 ki) (nv 1) (u1 (PEd.sc (Kq a (ac (ix (nv 0) (u1 ki)) an)) (Cm Cp))))) (s1 wx3) sn))⟩
def Je:Ev->R Fl:=gO (v:=Hz.g) (by dsimp [Hz])
def Rc:List D->R D:=Cq 2 Je
abbrev Z6:DR:=top 34
abbrev Q3:=Wb Hz FB Rc
def Oz:Wf "without" Z6 3 2 ["web","tie"] (λb q=>Q3 b->q) So0:=⟨["web","tie","ties"],Dn,_,λS F a =>
  By (O:=[]) F S (by decide) λg A c s H E i f h =>
  have e:=S.nd
  (sc (ex_ (u3 (callC a (f.mono (by decide)) (ac (nv 0) (ac (nv 1) an)))))
  (sc (Cy 2 e (ix (nv 0) (u1 ki)))
  (s1 (Cd (u3 (tup (ac (ix (nv 0) (u1 ki)) (ac (Jb (Xm (nv 2) pn (ps (nv 1))) (Xm (nv 2) (ps (Jb (nv 1) (u1 ki))) pn)) an))))))))⟩
def Zi:Ev->R Fl:=gO (v:=Oz.g) (by dsimp [Oz])
def Fj:List D->R D:=Cq 3 Zi
abbrev R5:DR:=top 39
def Ja:Wf "rising_tie" R5 2 1 ["one","other"] (λb q=>Zc "max" b->Zc "min" b->q) So0:=⟨["one","other"],Dn,_,λS F c a =>
  By (O:=[]) F S (by decide) λf A e s H E j i h =>
  have g:=S.nd
  (s1 (Cd (u2 (tup (ac (PEd.sc (fD rfl a (ac (nv 0) (ac (nv 1) an))) (Cm Ro)) (ac (PEd.sc (mK rfl c (ac (nv 0) (ac (nv 1) an))) (Cm o9)) an))))))⟩
def Rk:Ev->R Fl:=gO (v:=Ja.g) (by dsimp [Ja])
def Ln:List D->R D:=Cq 2 Rk
abbrev M7:DR:=top 38
def Ez:Wf "number_as_one" M7 3 1 ["point","lesser","greater"] (λb q=>q) So0:=⟨["point","lesser","greater"],Dn,_,λS F =>
  By (O:=[]) F S (by decide) λe A a s H E h g c =>
  have f:=S.nd
  (sc (if_ (teq c (nv 0) (nv 2)) (s1 (Cd (u3 (nv 1)))) sn)
  (sc (if_ (tgt (nv 0) (nv 2)) (s1 (Cd (u2 (PEd.sc (sub (nv 0) (u1 ki)) (Ca Ko))))) sn)
  (s1 (Cd (u3 (nv 0))))))⟩
def Mz:Ev->R Fl:=gO (v:=Ez.g) (by dsimp [Ez])
def Fb:List D->R D:=Cq 3 Mz
abbrev zN:DR:=top 37
abbrev Mt:=Wb Ez FB Fb
abbrev Q4:=Wb Ja FB Ln
def Q5:Wf "as_one" zN 4 2 ["web","lesser","greater"] (λb q=>Zc "tuple" b->Mt b->Q4 b->q) So0:=⟨["web","lesser","greater","ties"],Dn,_,λS F e a c =>
  By (O:=[]) F S (by decide) λo A i s H E r j p =>
  have n:=S.nd
  (sc (setC (T:=["tie"]) (caps:=[1,2]) 3 n (by rfl) rfl (Hc (ix (nv 0) (u1 ki))) (λm _ l f h g k=>(tn 0 (show List.Nodup (["tie","lesser","greater"]:List BZ) by decide +kernel))) (λm _ l f h g k=>ti0) (λm _ l f h g k=>(u3 (callC c (j.mono (by decide)) (ac (callC a (j.mono (by decide)) (ac (ix (nv 0) (u1 ki)) (ac (nv 1) (ac (nv 2) an)))) (ac (callC a (j.mono (by decide)) (ac (ix (nv 0) (u1 ki)) (ac (nv 1) (ac (nv 2) an)))) an))))) (Bw (by decide)))
  (s1 (Cd (u3 (tup (ac (u1 (PEd.sc (sub (ix (nv 0) (u1 ki)) (u1 ki)) (Ca Ko))) (ac (Kd e (ac (nv 3) an)) an)))))))⟩
def jj3:Ev->R Fl:=gO (v:=Q5.g) (by dsimp [Q5])
def ji4:List D->R D:=Cq 4 jj3
abbrev v5:DR:=top 35
abbrev jg4:=Wb Q5 FB ji4
abbrev Yp:=Wb Oz FB Fj
def pL:Wf "drawn" v5 4 3 ["web","tie"] (λb q=>jg4 b->Yp b->q) So0:=⟨["web","tie","others","ends"],Dn,_,λS F c a =>
  By (O:=[]) F S (by decide) λi A e s H E j g h =>
  have f:=S.nd
  (sc (Cy 2 f (callC a (g.mono (by decide)) (ac (nv 0) (ac (nv 1) an))))
  (sc (Cy 3 f (ix (ix (nv 0) (u1 ki)) (nv 1)))
  (sc (if_ (teq h (ix (nv 3) (u1 ki)) (ix (nv 3) (u1 ki))) (s1 (Cd (u3 (nv 2)))) sn)
  (s1 (Cd (u3 (callC c (g.mono (by decide)) (ac (nv 2) (ac (ix (nv 3) (u1 ki)) (ac (ix (nv 3) (u1 ki)) an))))))))))⟩
def w6:Ev->R Fl:=gO (v:=pL.g) (by dsimp [pL])
def Jd:List D->R D:=Cq 4 w6
abbrev Qt:DR:=top 41
def Wh(rc:List D->R D):Ev->R Fl:=(sq (ifS (tb (b2 (bA (zv (b2 (gv 0) (kd (.int 1)) ixD) a0) Eo) (kd (.int 0)) eqD)) (Jt (bA (zv (bA (zv (kd (.int 0)) (zv (kd (.int 0)) (zv (kd (.int 1)) a0))) Hk) a0) Wu)) nop)
 (sq (ifS (tt (cl (zv (gv 0) (zv (bA (zv (kd (.int 0)) a0) Hk) a0)) Fi)) (Jt (cl (zv (cl (zv (cl (zv (gv 0) (zv (kd (.int 0)) a0)) Fj) a0) rc) (zv (bA (zv (bA (zv (kd (.int 0)) (zv (kd (.int 1)) (zv (kd (.int 1)) a0))) Hk) a0) Wu) a0)) Cr)) nop)
 (sq (ifS (tt (cl (zv (gv 0) (zv (bA (zv (kd (.int 0)) a0) Hk) a0)) Kh)) (Jt (cl (zv (cl (zv (cl (zv (gv 0) (zv (kd (.int 0)) a0)) Jd) a0) rc) (zv (bA (zv (bA (zv (kd (.int 1)) (zv (kd (.int 0)) (zv (kd (.int 1)) a0))) Hk) a0) Wu) a0)) Cr)) nop)
 (Jt (cl (zv (cl (zv (cl (zv (gv 0) (zv (kd (.int 0)) a0)) Fj) a0) rc) (zv (cl (zv (cl (zv (gv 0) (zv (kd (.int 0)) a0)) Jd) a0) rc) a0)) Rb)))))
def Cu:Nat->List D->R D
 |0=>λ_=>.bad
 |n+1=>Cq 1 (Wh (Cu n))
def Vw:List D->R D:=Cu 12
def Oj:Fp ["web"] ["web"] (Bf Qt):=Dn
theorem Ry{P:B_}{w:CW}{K:CJ}{m:BZ->Option A_}{base:CK}{a:BK}{o:DX}(F:Fun K "table_of" "table_of" Qt a o)(q:m "table_of" = some (.ref a))(r:W.keepIn K (.ref a)=true)(u:Binds K o ["web"] [])(l:m "len" = none)(i:FnC P w K m base 2 "added" ["one","other"] 2 Rb)(g:FnC P w K m base 3 "drawn" ["web","tie"] 2 Jd)(h:FnC P w K m base 5 "is_cut" ["web","some"] 2 Kh)(f:FnC P w K m base 5 "is_ring" ["web","some"] 2 Fi)(c:FnC P w K m base 2 "multiplied" ["one","other"] 2 Cr)(e:FnC P w K m base 2 "without" ["web","tie"] 2 Fj):
  ∀n:Nat,Hl P w K m base CX0 (6+n) a o ["web"] (sp0 K 1 (Cu n))
 |0=>uO F Oj
 |n+1=>By (k:=6+n) (O:=[]) F Oj (by decide) λx A p s H E z j v =>
  have y:=Oj.nd;have b:FnC P w K m base (6+n) "table_of" ["web"] 1 (Cu n):=⟨a,o,Ry F q r u l i g h f c e n,q,r,u⟩
  (sc (if_ (teq v (PEd.sc (Kq l (ac (ix (nv 0) (u1 ki)) an)) (Cm Cp)) ki) (s1 (Cd (u2 (lst (ac (tup (ac ki (ac ki (ac ki an)))) an))))) sn)
  (sc (if_ (tst (callC f (j.mono (by omega)) (ac (nv 0) (ac (u1 (tup (ac ki an))) an)))) (s1 (Cd (u3 (callC c (j.mono (by omega)) (ac (callC b (j.mono (by omega)) (ac (callC e (j.mono (by omega)) (ac (nv 0) (ac (u1 ki) an))) an)) (ac (u1 (lst (ac (tup (ac ki (ac ki (ac ki an)))) an))) an)))))) sn)
  (sc (if_ (tst (callC h (j.mono (by omega)) (ac (nv 0) (ac (u1 (tup (ac ki an))) an)))) (s1 (Cd (u3 (callC c (j.mono (by omega)) (ac (callC b (j.mono (by omega)) (ac (callC g (j.mono (by omega)) (ac (nv 0) (ac (u1 ki) an))) an)) (ac (u1 (lst (ac (tup (ac ki (ac ki (ac ki an)))) an))) an)))))) sn)
  (s1 (Cd (u3 (callC i (j.mono (by omega)) (ac (callC b (j.mono (by omega)) (ac (callC e (j.mono (by omega)) (ac (nv 0) (ac (u1 ki) an))) an)) (ac (callC b (j.mono (by omega)) (ac (callC g (j.mono (by omega)) (ac (nv 0) (ac (u1 ki) an))) an)) an)))))))))
abbrev Qc:DR:=top 48
abbrev jp5(b:Bx):Prop:=FB b 18 "table_of" ["web"] Vw
abbrev yE:=Wb U0 FB pF
def Dz:Wf "flows_count" Qc 4 19 ["web","hours"] (λb q=>Zc "len" b->Gw b->Sx b->jp5 b->yE b->Hm b->q) Sx0:=⟨["web","hours","every","count"],Dn,_,λS F h e g c f a =>
  oA (O:=[]) F S (by decide) λn A j s H E o i l m =>
  have k:=S.nd
  (sc (ex_ (u3 (u9 a m (i.mono (by decide)) (ac (nv 1) an))))
  (sc (Cy 2 k (callC e (i.mono (by decide)) (ac (nv 0) an)))
  (sc (Cy 3 k (callC f (i.mono (by decide)) (ac (callC c (i.mono (by decide)) (ac (nv 0) an)) (ac (u1 ki) (ac (u1 (PEd.sc (sub (u1 ki) (nv 1)) (Ca Ko))) an)))))
  (s1 (Cd (u3 (ifx (teq l (mod (PEd.sc (sub (u1 (PEd.sc (Kq h (ac (nv 2) an)) (Cm Cp))) (callC g (i.mono (by decide)) (ac (nv 0) (ac (nv 2) an)))) (Ca Ko)) ki) ki) (nv 3) (neg (nv 3)))))))))⟩
def Kc:Ev->R Fl:=gO (v:=Dz.g) (by dsimp [Dz])
def De:List D->R D:=Cq 4 Kc
abbrev Og:DR:=top 61
abbrev yH:=Wb Sy FXB Np
abbrev Nf:=Wb Dz FXB De
def Ft:Wf "_law_refused" Og 4 20 ["_law_web_here","_law_hours","_law_way"] (λb q=>Zc "ValueError" b->Zc "isinstance" b->RCI b.K b.mg "Apart"->RCI b.K b.mg "NoArrows"->RCI b.K b.mg "NoFloor"->RCI b.K b.mg "NoForest"->RCI b.K b.mg "NoHours"->RCI b.K b.mg "NoMatch"->RCI b.K b.mg "NoMove"->RCI b.K b.mg "NoName"->RCI b.K b.mg "NoOrder"->RCI b.K b.mg "NoRow"->RCI b.K b.mg "NoText"->RCI b.K b.mg "NoTie"->RCI b.K b.mg "NoTurns"->RCI b.K b.mg "NoWeb"->RCW b.K b.mg->yH b->Nf b->q) So0:=⟨["_law_web_here","_law_hours","_law_way","e"],Dn,_,λS F e a v g l f k j o n i u m r h p y w c =>
  By (O:=[]) F S (by decide) λG A x s H E J z C =>
  have B:=S.nd
  (sc (yr5 3 (yk1 (teq C (nv 2) (u1 ki)) (yR w (z.mono (by decide)) (ac (u3 (nv 0)) (ac (u3 (nv 1)) an))) (yR c (z.mono (by decide)) (ac (u3 (nv 0)) (ac (u3 (nv 1)) an)))) (λI=>(sc (if_ (tst (rB a (nmc v (nmc g (nmc l (nmc f (nmc j (nmc o (nmc n (nmc i (nmc u (nmc m nmn)))))))))) (by decide) (nv 3))) (s1 (Cd (u2 kb))) sn)
  (s1 (Cd (u2 (mG (yo1 a k (nv 3)) (mG (yo3 a e (nv 3)) (v1 (yr7 (rB a (nmc r (nmc h (nmc p nmn))) (by decide) (nv 3))))))))))) y ⟨rfl,rfl⟩ B)
  (s1 (Cd (u2 kb))))⟩
def N5:Ev->R Fl:=gO (v:=Ft.g) (by dsimp [Ft])
def Fz:List D->R D:=Cq 4 N5
abbrev R1:DR:=top 60
def Hy:Wf "_law_flows" R1 5 1 ["_law_web_here","_law_hours","_law_found"] (λb q=>Zc "all" b->Zc "bool" b->Zc "int" b->Zc "isinstance" b->Zc "len" b->Zc "range" b->Zc "tuple" b->q) So0:=⟨["_law_web_here","_law_hours","_law_found","_law_over","_law_tie"],Dn,_,λS F j g i a c f e =>
  By (O:=[3]) F S (by decide) λx A o s H E z y r =>
  have p:=S.nd
  (sc (if_ (dO (cV (cW (tst (isi "tuple" "tuple" (by decide) PyProof.Rows.boot_tuple a e (nv 2)))) (eU (tne r (PEd.sc (Kq c (ac (nv 2) an)) (Cm Cp)) (PEd.sc (Kq c (ac (ix (nv 0) (u1 ki)) an)) (Cm Cp)))))) (s1 (Cd (u2 kb))) sn)
  (sc (jJ 3 p (yq0 (PEf.up (l:=.fr) (l':=.no) (fG (ac ki an))) (ix (nv 0) (u1 ki))) (hl:=(λ_ _ h=>wk5 h)))
  (sc (for_ PassesOwn.never rfl (tn 4 p) (PId.up (l:=.fr) (l':=.no) (fX f (ac (PEd.sc (Kq c (ac (nv 2) an)) (Cm Cp)) an))) (sc (if_ (dO (cV (cW (tst (isi "int" "int" (by decide) PyProof.Rows.boot_int a i (ix (nv 2) (nv 4))))) (cV (tst (isi "bool" "bool" (by decide) PyProof.Rows.boot_bool a g (ix (nv 2) (nv 4)))) (eU (cW (nQ (mJ) (iM) (u1 ki) (ix (nv 2) (nv 4)) (nv 1))))))) (s1 (Cd (u2 kb))) sn)
  (sc (iJ 3 (u1 (PEd.sc (sub (ix (av 3) (u3 (ix (ix (ix (nv 0) (u1 ki)) (nv 4)) (u1 ki)))) (u3 (ix (nv 2) (nv 4)))) (Ca Ko))) (ix (ix (ix (nv 0) (u1 ki)) (nv 4)) (u1 ki)))
  (s1 (iJ 3 (u1 (PEd.chk (Jb (ix (av 3) (u3 (ix (ix (ix (nv 0) (u1 ki)) (nv 4)) (u1 ki)))) (u3 (ix (nv 2) (nv 4)))))) (ix (ix (ix (nv 0) (u1 ki)) (nv 4)) (u1 ki)))))))
  (s1 (Cd (u2 (PEd.sc (iT rfl j (ac (comp (T:=["_law_coins"]) (caps:=[1]) (by rfl) rfl (Hc (av 3)) (λw _ v k n m u=>(tn 0 (show List.Nodup (["_law_coins","_law_hours"]:List BZ) by decide +kernel))) (λw _ v k n m u=>ti0) (λw _ v k n m u=>(u2 (eq_ r (PEd.sc (mod (nv 0) (nv 1)) (Ca Es)) ki))) (Bw (by decide))) an)) (Cm U6))))))))⟩
def Ri:Ev->R Fl:=gO (v:=Hy.g) (by dsimp [Hy])
def Lh:List D->R D:=Cq 5 Ri
abbrev Uo:DR:=top 62
abbrev Q0:=Wb Hy FB Lh
abbrev Nh:=Wb Ft FB Fz
abbrev Vg:=Wb K7 FB Vu
abbrev vC:=Wb Sy FB Np
abbrev Py:=Wb Dz FB De
def nM:Wf "law" Uo 5 21 ["_law_script"] (λb q=>Zc "len" b->Zc "min" b->J2 b->Q0 b->Nh b->Vg b->vC b->Py b->q) So0:=⟨["_law_script","_law_web_here","_law_hours","_law_found","_law_below"],Dn,_,λS F k j e f a g i c =>
  By (O:=[]) F S (by decide) λo A m s H E p h n =>
  have l:=S.nd
  (sc (Cy 1 l (callC g (h.mono (by decide)) (ac (nv 0) (ac (u1 ki) (ac (u1 ki) an)))))
  (sc (Cy 2 l (u1 (Jb ki (mod (PEd.sc (fdiv (callC e (h.mono (by decide)) (ac (nv 0) (ac (u1 ki) an))) (u1 ki)) (Ca Em)) ki))))
  (sc (if_ (tgt (PEd.sc (Kq k (ac (ix (nv 1) (u1 ki)) an)) (Cm Cp)) ki) (s1 (Cy 2 l (u1 (PEd.sc (fD rfl j (ac (nv 2) (ac (u1 ki) an))) (Cm Ro))))) sn)
  (sc (Cy 3 l (callC i (h.mono (by decide)) (ac (nv 1) (ac (nv 2) an))))
  (sc (if_ (yr4 (nv 3) (u1 kn)) (s1 (if_ (tne n (callC c (h.mono (by decide)) (ac (nv 1) (ac (nv 2) an))) (u1 ki)) (s1 (Cd (u2 kb))) sn)) (s1 (if_ (dO (cV (tlt (callC c (h.mono (by decide)) (ac (nv 1) (ac (nv 2) an))) (u1 ki)) (eU (cW (tst (callC f (h.mono (by decide)) (ac (nv 1) (ac (nv 2) (ac (nv 3) an))))))))) (s1 (Cd (u2 kb))) sn)))
  (sc (Cy 4 l (u1 (sub ki (mod (PEd.sc (fdiv (callC e (h.mono (by decide)) (ac (nv 0) (ac (u1 ki) an))) (u1 ki)) (Ca Em)) ki))))
  (s1 (Cd (u3 (mG (callC a (h.mono (by decide)) (ac (nv 1) (ac (nv 4) (ac (u1 ki) an)))) (v1 (callC a (h.mono (by decide)) (ac (nv 1) (ac (nv 4) (ac (u1 ki) an)))))))))))))))⟩
def sY:Ev->R Fl:=gO (v:=nM.g) (by dsimp [nM])
def d_law:List D->R D:=Cq 5 sY
def all_mk{l:W.OpenLaw}{w:CW}{K:CJ}{h:CK}{mg:BZ->Option A_}{fa:BK}(X:K.In h)(G:h.Ns PySem.mainGlobals mg)(gz:mg "law" = some (.ref fa))
  (bo:FI K "_law_cell" Ul)
  (bj:FI K "_law_draw" Um)
  (H:FI K "_law_by_cells" M4)
  (y:FI K "_law_by_digits" K1)
  (cj:FI K "_law_web" Xc)
  (T:FI K "refuse_hours" Oi)
  (dg:FI K "settled" Z5)
  (x:FI K "filled_further" G5)
  (U:FI K "put_together" Oh)
  (C:FI K "least_of_each" M6)
  (di:FI K "members" Z3)
  (fb:FI K "parts" vZ)
  (fx:FI K "rank" uD)
  (cf:FI K "all_ties" Xf)
  (cg:FI K "all_sets" Xd)
  (dk:FI K "forests" Zz)
  (bw:FI K "left_out" Xh)
  (bh:FI K "ring_with" Up)
  (bu:FI K "ring_row" Xi)
  (dh:FI K "outside" Z4)
  (ec:FI K "flow" uE)
  (ez:FI K "taken" vY)
  (ey:FI K "worth" vX)
  (E:FI K "each_left_out" M5)
  (dj:FI K "is_ring" Z0)
  (eh:FI K "is_cut" zM)
  (bx:FI K "gathered" Xg)
  (fe:FI K "added" v7)
  (au:FI K "multiplied" R3)
  (ar:FI K "refuse_tie" R4)
  (df:FI K "without" Z6)
  (aq:FI K "rising_tie" R5)
  (B:FI K "number_as_one" M7)
  (ei:FI K "as_one" zN)
  (fc:FI K "drawn" v5)
  (bt:FI K "table_of" Qt)
  (p:FI K "flows_count" Qc)
  (Y:FI K "_law_refused" Og)
  (aw:FI K "_law_flows" R1)
  {cx:BK}{fu eb:Option BK}{ft:Array (Option A_)}{fv dy dz dx bg ea:A_}(gx:W.nsIn K PySem.mainGlobals "law" = some (some (.ref cx)))(gs:K.lookup cx=some ⟨fv,fu,.func (W.fnOf "law" "law" (G6 Uo) (El Uo) (Bf Uo) .none dy dz dx eb bg ea),ft⟩)(gw:W.codeIn K bg "law" = true)(gu:W.keepIn K (.ref cx)=true)(gn:W.nsIn K PySem.mainGlobals "len" = some none)(gm:W.nsIn K PySem.mainGlobals "max" = some none)(gk:W.nsIn K PySem.mainGlobals "min" = some none)(er:W.nsIn K PySem.mainGlobals "range" = some none)(ep:W.nsIn K PySem.mainGlobals "tuple" = some none)(gr:W.nsIn K PySem.mainGlobals "all" = some none)(gq:W.nsIn K PySem.mainGlobals "any" = some none)(gh:W.nsIn K PySem.mainGlobals "zip" = some none)(fq:W.nsIn K PySem.mainGlobals "list" = some none)(bf:W.nsIn K PySem.mainGlobals "enumerate" = some none)(gj:W.nsIn K PySem.mainGlobals "set" = some none)(ed:W.nsIn K PySem.mainGlobals "sorted" = some none)(gi:W.nsIn K PySem.mainGlobals "sum" = some none)(ao:W.nsIn K PySem.mainGlobals "ValueError" = some none)(ak:W.nsIn K PySem.mainGlobals "isinstance" = some none)(y_bool:W.nsIn K PySem.mainGlobals "bool" = some none)(gp:W.nsIn K PySem.mainGlobals "int" = some none)(dw:KC0 K "NoHours")(fi:KCI K "Apart")(cm:KCI K "NoArrows")(dr:KCI K "NoFloor")(ck:KCI K "NoForest")(dq:KCI K "NoHours")(dp:KCI K "NoMatch")(el:KCI K "NoMove")(ek:KCI K "NoName")(dn:KCI K "NoOrder")(fh:KCI K "NoRow")(ej:KCI K "NoText")(fg:KCI K "NoTie")(dm:KCI K "NoTurns")(ff:KCI K "NoWeb")(hb:KCW K):
  ∃fd:DX,(∀(s:BJ)(v:A_),T_ s fd ⟨[v],[]⟩ [("_law_script",v)])/\∀base:CK,K.In base->base.Ns PySem.mainGlobals mg->Hl l.prog w K mg base CX0 21 fa fd ["_law_script"] (sp0 K 1 d_law):=by
 have e:=gz.symm.trans (W.mg_of X G gx);cases e;have f:=W.mg_none_of X G gn;have cw:=W.mg_none_of X G gm;have ab:=W.mg_none_of X G gk;have m:=W.mg_none_of X G er;have i:=W.mg_none_of X G ep;have bc:=W.mg_none_of X G gr;have gg:=W.mg_none_of X G gq;have fz:=W.mg_none_of X G gh;have fo:=W.mg_none_of X G fq;have bb:=W.mg_none_of X G bf;have gd:=W.mg_none_of X G gj;have q:=W.mg_none_of X G ed;have gc:=W.mg_none_of X G gi;have aj:=W.mg_none_of X G ao;have u:=W.mg_none_of X G ak;have fp:=W.mg_none_of X G y_bool;have gf:=W.mg_none_of X G gp;have gy:=uN (st:=Uo) gs gw gu;refine⟨W.fnOf "law" "law" (G6 Uo) (El Uo) (Bf Uo) .none dy dz dx eb bg ea,λs v=>.of_eq rfl,λbase _ _=>?_⟩;let b:Bx:=⟨l.prog,w,K,mg,base,fa⟩;have cy:=wx4 X G dw;have ew:=Gn X G fi;have br:=Gn X G cm;have de:=Gn X G dr;have bq:=Gn X G ck;have dd:=Gn X G dq;have dc:=Gn X G dp;have eg:=Gn X G el;have ef:=Gn X G ek;have da:=Gn X G dn;have eu:=Gn X G fh;have ee:=Gn X G ej;have et:=Gn X G fg;have cz:=Gn X G dm;have es:=Gn X G ff;have ha:=wx5 X G hb;have o:J2 b:=Cg l.prog w base X G bo (λ_ _ F=>J3.at (g:=Ub) (by kernel_rfl) (b:=b) F f) (λ_ _ _ _ _ _=>ll2 λ_ _=>rfl);have z:Ng b:=Cg l.prog w base X G bj (λ_ _ F=>J5.at (g:=Uc) (by kernel_rfl) (b:=b) F) (λ_ _ _ _ _ _=>ll3 λ_ _ _=>rfl);have M:Mq b:=Cg l.prog w base X G H (λ_ _ F=>Eu.at (g:=Mw) (by kernel_rfl) (b:=b) F cw ab m o z) (λ_ _ _ _ _ _=>ll4 λ_ _ _ _=>rfl);have A:Ke b:=Cg l.prog w base X G y (λ_ _ F=>Ei.at (g:=Km) (by kernel_rfl) (b:=b) F cw ab m) (λ_ _ _ _ _ _=>ll3 λ_ _ _=>rfl);have cv:Vg b:=Cg l.prog w base X G cj (λ_ _ F=>K7.at (g:=V8) (by kernel_rfl) (b:=b) F i M A o z) (λ_ _ _ _ _ _=>ll3 λ_ _ _=>rfl);have j:Hm b:=oE l.prog w base X G T (λ_ _ F=>Fw.at (g:=Gb) (by kernel_rfl) (b:=b) F cy) (λ_ _ _ _ _ _=>ll1 λ_=>rfl);have dt:FB b 1 "settled" ["rows","many"] Jg:=Cg l.prog w base X G dg (λ_ _ F=>S6.at (g:=Zh) (by kernel_rfl) (b:=b) F bc m) (λ_ _ _ _ _ _=>ll2 λ_ _=>rfl);have n:=uR l.prog w base X G x (λ_ _ F a b c=>Js F a b c gg f m i fz dt 12) (λ_ _ _ _ _ _=>ll3 λ_ _ _=>rfl);have Z:Ni b:=Cg l.prog w base X G U (λ_ _ F=>Fv.at (g:=N6) (by kernel_rfl) (b:=b) F ab) (λ_ _ _ _ _ _=>ll3 λ_ _ _=>rfl);have J:Ms b:=Cg l.prog w base X G C (λ_ _ F=>Ey.at (g:=My) (by kernel_rfl) (b:=b) F fo m Z) (λ_ _ _ _ _ _=>ll2 λ_ _=>rfl);have du:Yn b:=Cg l.prog w base X G di (λ_ _ F=>Ow.at (g:=Zf) (by kernel_rfl) (b:=b) F bb i) (λ_ _ _ _ _ _=>ll2 λ_ _=>rfl);have fk:yG b:=Cg l.prog w base X G fb (λ_ _ F=>Uy.at (g:=w5) (by kernel_rfl) (b:=b) F gd q J du) (λ_ _ _ _ _ _=>ll2 λ_ _=>rfl);have r:Sx b:=Cg l.prog w base X G fx (λ_ _ F=>kJ.at (g:=uM) (by kernel_rfl) (b:=b) F f fk) (λ_ _ _ _ _ _=>ll2 λ_ _=>rfl);have k:Gw b:=Cg l.prog w base X G cf (λ_ _ F=>K9.at (g:=Wa) (by kernel_rfl) (b:=b) F f m i) (λ_ _ _ _ _ _=>ll1 λ_=>rfl);have cu:Vh b:=Cg l.prog w base X G cg (λ_ _ F=>K8.at (g:=V9) (by kernel_rfl) (b:=b) F q k) (λ_ _ _ _ _ _=>ll1 λ_=>rfl);have ah:Ym b:=Cg l.prog w base X G dk (λ_ _ F=>Ov.at (g:=Zb) (by kernel_rfl) (b:=b) F f cu k r) (λ_ _ _ _ _ _=>ll1 λ_=>rfl);have cq:Vi b:=Cg l.prog w base X G bw (λ_ _ F=>Lb.at (g:=We) (by kernel_rfl) (b:=b) F i) (λ_ _ _ _ _ _=>ll2 λ_ _=>rfl);have bp:T6 b:=Cg l.prog w base X G bh (λ_ _ F=>J6.at (g:=Ud) (by kernel_rfl) (b:=b) F f q i cq r) (λ_ _ _ _ _ _=>ll3 λ_ _ _=>rfl);have P:Vj b:=Cg l.prog w base X G bu (λ_ _ F=>Le.at (g:=Wg) (by kernel_rfl) (b:=b) F f bp) (λ_ _ _ _ _ _=>ll3 λ_ _ _=>rfl);have ag:Yo b:=Cg l.prog w base X G dh (λ_ _ F=>Ox.at (g:=Zg) (by kernel_rfl) (b:=b) F i k) (λ_ _ _ _ _ _=>ll2 λ_ _=>rfl);have fw:yH b:=oE l.prog w base X G ec (λ_ _ F=>Sy.at (g:=n8) (by kernel_rfl) (b:=b) F n ah ag P j) (λ_ _ _ _ _ _=>ll2 λ_ _=>rfl);have fy:vC b:=Cg l.prog w base X G ec (λ_ _ F=>tE (Sy.at (g:=n8) (by kernel_rfl) (b:=b) F n ah ag P j)) (λ_ _ _ _ _ _=>ll2 λ_ _=>rfl);have fj:yF b:=Cg l.prog w base X G ez (λ_ _ F=>Uz.at (g:=wZ) (by kernel_rfl) (b:=b) F) (λ_ _ _ _ _ _=>ll2 λ_ _=>rfl);have cn:yE b:=Cg l.prog w base X G ey (λ_ _ F=>U0.at (g:=wY) (by kernel_rfl) (b:=b) F gc fj) (λ_ _ _ _ _ _=>ll3 λ_ _ _=>rfl);have L:Mr b:=Cg l.prog w base X G E (λ_ _ F=>Ew.at (g:=Mx) (by kernel_rfl) (b:=b) F f m) (λ_ _ _ _ _ _=>ll1 λ_=>rfl);have dv:FB b 5 "is_ring" ["web","some"] Fi:=Cg l.prog w base X G dj (λ_ _ F=>S5.at (g:=Ze) (by kernel_rfl) (b:=b) F bc f L r) (λ_ _ _ _ _ _=>ll2 λ_ _=>rfl);have en:FB b 5 "is_cut" ["web","some"] Kh:=Cg l.prog w base X G eh (λ_ _ F=>Vk.at (g:=Wd) (by kernel_rfl) (b:=b) F bc f i k r) (λ_ _ _ _ _ _=>ll2 λ_ _=>rfl);have Q:Qe b:=Cg l.prog w base X G bx (λ_ _ F=>La.at (g:=Wc) (by kernel_rfl) (b:=b) F q) (λ_ _ _ _ _ _=>ll1 λ_=>rfl);have fm:FB b 2 "added" ["one","other"] Rb:=Cg l.prog w base X G fe (λ_ _ F=>pM.at (g:=xF) (by kernel_rfl) (b:=b) F Q) (λ_ _ _ _ _ _=>ll2 λ_ _=>rfl);have az:FB b 2 "multiplied" ["one","other"] Cr:=Cg l.prog w base X G au (λ_ _ F=>Ld.at (g:=Rj) (by kernel_rfl) (b:=b) F Q) (λ_ _ _ _ _ _=>ll2 λ_ _=>rfl);have ay:Q3 b:=Cg l.prog w base X G ar (λ_ _ F=>Hz.at (g:=Je) (by kernel_rfl) (b:=b) F f) (λ_ _ _ _ _ _=>ll2 λ_ _=>rfl);have af:Yp b:=Cg l.prog w base X G df (λ_ _ F=>Oz.at (g:=Zi) (by kernel_rfl) (b:=b) F ay) (λ_ _ _ _ _ _=>ll2 λ_ _=>rfl);have ax:Q4 b:=Cg l.prog w base X G aq (λ_ _ F=>Ja.at (g:=Rk) (by kernel_rfl) (b:=b) F cw ab) (λ_ _ _ _ _ _=>ll2 λ_ _=>rfl);have I:Mt b:=Cg l.prog w base X G B (λ_ _ F=>Ez.at (g:=Mz) (by kernel_rfl) (b:=b) F) (λ_ _ _ _ _ _=>ll3 λ_ _ _=>rfl);have eo:jg4 b:=Cg l.prog w base X G ei (λ_ _ F=>Q5.at (g:=jj3) (by kernel_rfl) (b:=b) F i I ax) (λ_ _ _ _ _ _=>ll3 λ_ _ _=>rfl);have fl:FB b 3 "drawn" ["web","tie"] Jd:=Cg l.prog w base X G fc (λ_ _ F=>pL.at (g:=w6) (by kernel_rfl) (b:=b) F eo af) (λ_ _ _ _ _ _=>ll2 λ_ _=>rfl);have O:=uR l.prog w base X G bt (λ_ _ F a b c=>Ry F a b c f fm fl en dv az af 12) (λ_ _ _ _ _ _=>ll1 λ_=>rfl);have ae:Nf b:=oE l.prog w base X G p (λ_ _ F=>Dz.at (g:=Kc) (by kernel_rfl) (b:=b) F f k r O cn j) (λ_ _ _ _ _ _=>ll2 λ_ _=>rfl);have ai:Py b:=Cg l.prog w base X G p (λ_ _ F=>tE (Dz.at (g:=Kc) (by kernel_rfl) (b:=b) F f k r O cn j)) (λ_ _ _ _ _ _=>ll2 λ_ _=>rfl);have aa:Nh b:=Cg l.prog w base X G Y (λ_ _ F=>Ft.at (g:=N5) (by kernel_rfl) (b:=b) F aj u ew br de bq dd dc eg ef da eu ee et cz es ha fw ae) (λ_ _ _ _ _ _=>ll3 λ_ _ _=>rfl);have ba:Q0 b:=Cg l.prog w base X G aw (λ_ _ F=>Hy.at (g:=Ri) (by kernel_rfl) (b:=b) F bc fp gf u f m i) (λ_ _ _ _ _ _=>ll3 λ_ _ _=>rfl);exact nM.at (g:=sY) (by kernel_rfl) (b:=b) gy f ab o ba aa cv fy ai
open PD L2 Gr
def Bd(e:Nat×Nat):D:=.tup [.int (e.1:Int),.int (e.2:Int)]
def Ah(n:Nat)(ts:Ae):D:=.tup [.int (n:Int),.tup (ts.map Bd)]
def Ab(s:List Nat):D:=.tup (Ac s)
theorem wx0(l:List Nat)(x y:Nat)(hl:l.length<=1000):Jm [.lst (Ac l),.int (x:Int),.int (y:Int)]=.ok (.lst (Ac (G3 l x y))):=by
 refine Az (Ax (Ci (ds:=Ac l) (xs:=Ac (G3 l x y)) (by simp[Af]) ?_ (by simp[Ba,G3];lia)));have e:Ac (G3 l x y)=(Ac l).map λd=>match d with | .int z=>if z=(x:Int)\/z=(y:Int) then .int (min (x:Int) (y:Int)) else .int z |d=>d:=by
  simp only[Ac,G3,NP];apply UW;intro z _;simp only[Function.comp];by_cases h:z=x\/z=y
  ·rw[if_pos h,if_pos (by lia)];congr 1;lia
  ·rw[if_neg h,if_neg (by lia)]
 rw[e];apply PD.comp_map;intro d b;obtain⟨z,_,rfl⟩:=Kr.mp b;refine⟨_,rfl,?_⟩;have a:inD (.int (z:Int)) (.tup [.int (x:Int),.int (y:Int)])=some (.bl (decide (z=x\/z=y))):=rM (n:=0) (ys:=[.int (x:Int),.int (y:Int)]) rfl (by lia) Oc (λd b=>by
  rcases HN.mp b with rfl |b
  ·exact Oc
  ·rw[JG.mp b];exact Oc) (by
  simp only[HN,cG,or_false,D.int.injEq,decide_eq_true_eq];lia)
 by_cases h:z=x\/z=y
 ·have c:(z:Int)=x\/(z:Int)=y:=by lia
  simp[Af,Hn,Ga,a,h,c]
 ·have c:¬ ((z:Int)=x\/(z:Int)=y):=by lia
  simp[Af,Hn,Ga,a,h,c]
def pick(ts:Ae)(s:List Nat):Ae:=s.map λk=>ts.getD k (0,0)
variable {n:Nat}{ts:Ae}{s:List Nat}
theorem wj3(h:∀e∈ts,e.1<=e.2/\e.2<n)(b:∀k∈s,k<ts.length):InW n (pick ts s):=λe f=>by
 obtain⟨k,c,rfl⟩:=HX.mp f;have a:=b k c;have:ts.getD k (0,0)∈ts:=by rw[O_,GK a];exact RB a
 have:=h _ this;lia
def kh9:Ev->R Fl:=(PD.sq (PD.asg 4 (PD.b2 (PD.b2 (PD.gv 0) (PD.kd (.int 1)) PD.ixD) (PD.gv 3) PD.ixD))
 (PD.asg 2 (PD.cl (zv (PD.gv 2) (zv (PD.b2 (PD.gv 2) (PD.b2 (PD.gv 4) (PD.kd (.int 0)) PD.ixD) PD.ixD) (zv (PD.b2 (PD.gv 2) (PD.b2 (PD.gv 4) (PD.kd (.int 1)) PD.ixD) PD.ixD) PD.a0))) Jm)))
theorem range_list(h:n<=16777216):list_rangeD [.int (n:Int)]=some (.lst (Ac (List.range n))):=by
 unfold list_rangeD;have e:Yg [.int (n:Int)]=some (0,(n:Int)):=by
  have a:-(2 ^ 62)<=(n:Int)/\(n:Int)<2 ^ 62/\(n:Int)<=16777216:=by lia
  dsimp only[Yg];rw[if_pos a]
 rw[e];simp[Tu,Ac]
theorem ku1(J:n<=1000)(h:∀e∈ts,e.1<=e.2/\e.2<n)(z:∀k∈s,k<ts.length):Mu [Ah n ts,Ab s]=.ok (.lst (Ac (Df n (pick ts s)))):=by
 have⟨p,E,A⟩:=Hf (g:=gN 3) (b:=kh9) (λi m=>∃c a,m=[some (Ah n ts),some (Ab s),some (.lst (Ac (Df n (pick ts (s.take i))))),c,a]) (Ac s) 0
  [some (Ah n ts),some (Ab s),some (.lst (Ac (List.range n))),none,none] ⟨none,none,rfl⟩ (λi d m l C=>by
   obtain⟨c,a,rfl⟩:=C;have j:i<s.length:=by have:=(LR.mp l).1;rwa [Ba]at this
   rw[G4,GK j]at l;have F:d=.int (s[i]:Int):=(Option.some.inj l).symm;subst F;have f:s[i]<ts.length:=z _ (RB j);have I:=h ts[s[i]] (RB f);rw[WM];generalize o:Df n (pick ts (s.take i))=L;have B:L.length=n:=by rw[<-o];exact Qp _ _
   have y:ixD (.tup (ts.map Bd)) (.int (s[i]:Int))=some (Bd ts[s[i]]):=Nv (by simp[f]);have x:ixD (.lst (Ac L)) (.int ((ts[s[i]]).1:Int))=some (.int ((L.getD (ts[s[i]]).1 0:Nat):Int)):=V2 (by rw[G4,GK (by lia)];simp[show(ts[s[i]]).1<L.length by lia]);have w:ixD (.lst (Ac L)) (.int ((ts[s[i]]).2:Int))=some (.int ((L.getD (ts[s[i]]).2 0:Nat):Int)):=V2 (by rw[G4,GK (by lia)];simp[show(ts[s[i]]).2<L.length by lia]);have r:=wx0 L (L.getD (ts[s[i]]).1 0) (L.getD (ts[s[i]]).2 0) (by lia);have q:Df n (pick ts (s.take (i+1)))=G3 L (L.getD (ts[s[i]]).1 0) (L.getD (ts[s[i]]).2 0):=by
    have H:s.take (i+1)=s.take i++[s[i]]:=by rw[List.take_succ_eq_append_getElem j]
    have G:ts.getD s[i] (0,0)=ts[s[i]]:=by rw[O_,GK f];rfl
    rw[H];unfold pick;rw[QQ,List.map_singleton,Uh,G];show G3 _ ((Df n (pick ts (s.take i))).getD _ 0) ((Df n (pick ts (s.take i))).getD _ 0)=_;rw[show(s.take i).map (λk=>ts.getD k (0,0))=pick ts (s.take i) from rfl,o]
   generalize L.getD (ts[s[i]]).1 0=u,L.getD (ts[s[i]]).2 0=v at *;refine⟨_,_,rfl,.inl (Al (Aw (d:=Bd ts[s[i]]) (by simp[Ah,y])) (Aw (d:=.lst (Ac (G3 L u v))) (by simp[Bd,x,w,r]))),some (.int (s[i]:Int)),some (Bd ts[s[i]]),?_⟩;rw[q];rfl)
 obtain⟨c,a,rfl⟩:=A;refine Az (Al (Aw (d:=.lst (Ac (List.range n))) (by simp[Af,Ah,range_list (show n<=16777216 by lia)])) (Al (Ny (ds:=Ac s) (by simp[Af,Ab]) E) (Ax ?_)));simp[Ba]
theorem jt0(l:List Nat)(m:Nat)(hl:l.length<=1000):Yz [.lst (Ac l),.int (m:Int)]=.ok (.tup (Ac ((List.range l.length).filter λi=>l.getD i 0=m))):=by
 have e:Bo (iQ (gv 0)) 2 [1] (gT [0,1]) (tb (b2 (gv 1) (gv 2) eqD)) (gv 0) (Af 2 [.lst (Ac l),.int (m:Int)])=.ok (.lst (Ac ((List.range l.length).filter λi=>l.getD i 0=m))):=by
  refine Ci (wr3 (ds:=Ac l) (by simp[Af])) (xs:=Ac ((List.range l.length).filter λi=>l.getD i 0=m)) ?_ (by rw[Ba];have:=WR (λi=>decide (l.getD i 0=m)) (List.range l.length);rw[QK]at this;lia);rw[T7 (p:=λd=>match d with | .tup [_,.int z]=>decide (z=(m:Int)) |_=>false) (h:=λd=>match d with | .tup [x,_]=>x |d=>d)]
  ·rw[Y7,List.filter_map,NP];congr 1;unfold Ac;have:((λd=>match d with |D.tup [_,.int z]=>decide (z=(m:Int)) |_=>false)∘λ(i:Nat)=>D.tup [.int (i:Int),.int ((l.getD i 0:Nat):Int)])=λi=>decide (l.getD i 0=m):=by funext i;simp only[Function.comp];rw[decide_eq_decide];lia
   rw[this];rfl
  ·intro d a;rw[Y7]at a;obtain⟨i,_,rfl⟩:=HX.mp a;exact⟨_,rfl,by simp[Af,Hn],λ_=>by simp[Af,Hn]⟩
 exact Az (Ax (by simp[e]))
def kx5(n:Nat)(p:Nat->Bool):((List.range n).filter p).Pairwise (·<·):=List.Pairwise.filter _ eG
def Tq(n:Nat)(es:Ae):List D:=(Bs n es).map λm=>.tup (Ac (cls n es m))
def Rx(n:Nat)(es:Ae):(Bs n es).length<=n:=by have:=WR (λi=>decide (lab n es i=i)) (List.range n);simpa[Bs] using this
theorem kv9(u:n<=60)(h:∀e∈ts,e.1<=e.2/\e.2<n)(f:∀k∈s,k<ts.length):xQ [Ah n ts,Ab s]=.ok (.lst (Tq n (pick ts s))):=by
 have j:=wj3 h f;have a:=Qp n (pick ts s);have r:Dq [.lst (Ac (Df n (pick ts s)))]=some (.lst (Ac (Bs n (pick ts s)))):=jf3 (by lia) (kx5 _ _) λk=>by
  constructor
  ·intro b;have⟨i,l,e⟩:=X_.mp b;have:lab n (pick ts s) i=k:=by unfold lab;rw[O_,GK l,e];rfl
   rw[<-this];exact Lr j (by lia)
  ·intro b;have⟨w,p⟩:=Eg.mp b;have g:k<(Df n (pick ts s)).length:=by lia
   have:(Df n (pick ts s))[k]=k:=by have c:=p;unfold lab at c;rw[O_,GK g]at c;exact c
   rw[<-this];exact RB g
 refine Az (Al (Aw (d:=.lst (Ac (Df n (pick ts s)))) (by simp[Af,ku1 (show n<=1000 by lia) h f])) (Ax (Ci (ds:=Ac (Bs n (pick ts s))) (xs:=Tq n (pick ts s)) (by simp[Af,r]) ?_ (by unfold Tq;rw[GP];have:=Rx n (pick ts s);lia))));have q:Tq n (pick ts s)=(Ac (Bs n (pick ts s))).map λd=>match d with | .int z=>.tup (Ac (cls n (pick ts s) z.toNat)) |d=>d:=by unfold Tq Ac;rw[NP];rfl
 rw[q];apply PD.comp_map;intro d o;obtain⟨m,v,rfl⟩:=Kr.mp o;refine⟨_,rfl,?_⟩;have:=jt0 (Df n (pick ts s)) m (by lia);rw[a]at this;simp[Af,Hn,this];rfl
def Ma(b:n<=60)(h:∀e∈ts,e.1<=e.2/\e.2<n)(a:∀k∈s,k<ts.length):Jo [Ah n ts,Ab s]=.ok (.int ((n:Int) - ((Bs n (pick ts s)).length:Int))):=by have e:=kv9 b h a;refine Az (Ax ?_);simp only[Af];simp[Ah]at e ⊢;simp[e,Tq]
def Dw{b:Type}{enc:b->D}{out:b->D}{f:Ev->R D}{ρ:Ev}:∀(l:List b),(∀a∈l,f (ρ.set 0 (some (enc a)))=.ok (out a))->Dp (gN 0) yes f ρ (l.map enc)=.ok (l.map out)
 | [],_=>rfl
 |a::l,c=>by have e:=c a JK;rw[HJ,Dp,fO];simp[yes,e,Dw l λx g=>c x (IK _ g)]
def O1{b:Type}{enc:b->D}{out:b->D}{t:Ev->R Bool}{f:Ev->R D}{ρ:Ev}{p:b->Bool}:∀(l:List b),(∀a∈l,t (ρ.set 0 (some (enc a)))=.ok (p a)/\f (ρ.set 0 (some (enc a)))=.ok (out a))->Dp (gN 0) t f ρ (l.map enc)=.ok ((l.filter p).map out)
 | [],_=>rfl
 |a::l,c=>by
  have⟨j,i⟩:=c a JK;have e:=O1 (t:=t) (f:=f) (ρ:=ρ) (p:=p) (enc:=enc) (out:=out) l λx h=>c x (IK _ h);rw[HJ,Dp,fO];simp only[R.ok_bind,j];cases g:p a with
  |true=>simp[i,e,g]
  |false=>simp[e,g]
def vA{b:Type}(l:List b)(p:b->Bool):(l.map λa=>D.bl (p a))=(l.map p).map .bl:=by rw[NP];rfl
variable {i:Nat}
theorem wq6(hi:i<s.length):slA (Ab s) none (some (i:Int))=some (Ab (s.take i)):=by have a:=Ba s;show(if HT.sIx (Ac s).length 0 none=0/\HT.sIx (Ac s).length (Ac s).length (some (i:Int))=(Ac s).length then none else some (D.tup (cutD (Ac s) none (some (i:Int)))))=_;rw[HT.Mi,HT.Jv,if_neg (by rw[a];lia)];unfold cutD Ab Ac;rw[HT.Mi,HT.Jv,k_];simp
theorem wq5(hi:i<s.length):slA (Ab s) (some ((i:Int)+1)) none=some (Ab (s.drop (i+1))):=by
 have a:=Ba s;show(if HT.sIx (Ac s).length 0 (some ((i:Int)+1))=0/\HT.sIx (Ac s).length (Ac s).length none=(Ac s).length then none else some (D.tup (cutD (Ac s) (some ((i:Int)+1)) none)))=_;have e:HT.sIx (Ac s).length 0 (some ((i:Int)+1))=i+1:=by rw[show((i:Int)+1)=((i+1:Nat):Int) by lia,HT.Mi,a];lia
 rw[e,if_neg (by lia)];unfold cutD;rw[e,HT.Jv];unfold Ab Ac;rw[lA];congr 2;apply eF;rw[TQ];exact F_ _
def leftOut(s:List Nat):List (List Nat):=(List.range s.length).map λi=>s.take i++s.drop (i+1)
theorem wg9(h:s.length<=60):Hq [Ab s]=.ok (.lst ((leftOut s).map Ab)):=by
 refine Az (Ax ?_);refine Ci (ds:=Ac (List.range s.length)) ?_ ?_ (by simp[leftOut];lia)
 ·have e:=V4 (show s.length<2 ^ 62 by lia);have l:Eo [Ab s]=some (.int (s.length:Int)):=by show some (D.int _)=_;rw[Ba]
  simp[Af,l,e]
 ·have e:(leftOut s).map Ab=(List.range s.length).map λi=>Ab (s.take i++s.drop (i+1)):=by unfold leftOut;rw[NP];rfl
  rw[e];refine Dw (List.range s.length) λi a=>?_;have a:=H_.mp a;have b:Dg (Ab (s.take i)) (Ab (s.drop (i+1)))=some (Ab (s.take i++s.drop (i+1))):=(V1 (by simp[Ba];lia)).trans (by simp[Ab,Ac]);simp[Hn,Af,wq6 a,wq5 a,b]
def Rz(ts:Ae)(s r:List Nat):pick ts (s++r)=pick ts s++pick ts r:=by unfold pick;rw[QQ]
def W4(ts:Ae)(s:List Nat):(pick ts s).length=s.length:=by unfold pick;rw[GP]
theorem wk6(v:n<=60)(h:∀e∈ts,e.1<=e.2/\e.2<n)(p:∀k∈s,k<ts.length)(hl:s.length<=60):∃b,Fi [Ah n ts,Ab s]=.ok (.bl b)/\(b=true↔nP n (pick ts s)):=by
 have y:=Ma v h p;have l:Eo [Ab s]=some (.int (s.length:Int)):=by show some (D.int _)=_;rw[Ba]
 have H:=Rx n (pick ts s);have pl:=W4 ts s;by_cases m:s.length=0
 ·refine⟨false,Az (Jw ((Lq ?_).trans (Ax (by simp)))),?_⟩
  ·simp[Af,l,m]
  ·rw[qP]at m;subst m;exact⟨(λz=>nomatch z),λz=>absurd rfl z.1⟩
 ·by_cases x:n<(Bs n (pick ts s)).length+s.length
  ·refine⟨(leftOut s).all λr=>decide (((n:Int) - ((Bs n (pick ts r)).length:Int))=(r.length:Int)),Az (Al ((Hb ?_).trans rfl) (Ax ?_)),?_⟩
   ·have q:s≠[]:=λz=>m (by rw[z];rfl);simp[Af,l,y,q];lia
   ·have C:∀r∈leftOut s,∀k∈r,k<ts.length:=λr f k j=>by
     obtain⟨i,o,rfl⟩:=HX.mp f;rcases KC.mp j with j |j
     ·exact p k (eE j)
     ·exact p k (d_ j)
    have E:Bo (itS (cl (zv (gv 1) a0) Hq)) 1 [0] (gN 0) yes (b2 (cl (zv (gv 1) (zv (gv 0) a0)) Jo) (bA (zv (gv 0) a0) Eo) eqD) [some (Ah n ts),some (Ab s)]=.ok (.lst (((leftOut s).map λr=>decide (((n:Int) - ((Bs n (pick ts r)).length:Int))=(r.length:Int))).map .bl)):=by
     refine Ci (ds:=(leftOut s).map Ab) (by simp[wg9 hl]) ?_ (by simp[leftOut];lia);rw[<-vA];refine Dw (leftOut s) λr f=>?_;have c:=Ma v h (C r f);have a:Eo [Ab r]=some (.int (r.length:Int)):=by show some (D.int _)=_;rw[Ba]
     simp[Hn,c,a]
    have F:=kI ((leftOut s).map λr=>decide (((n:Int) - ((Bs n (pick ts r)).length:Int))=(r.length:Int)));rw[show Af 2 [Ah n ts,Ab s]=[some (Ah n ts),some (Ab s)] from rfl,Rf,Pu,E];simp only[R.ok_bind,iR,F,R.of_some];simp[gG,Function.comp]
   ·rw[PQ];constructor
    ·intro z;refine⟨λe=>m (by rw[<-pl,e];rfl),by rw[pl];exact x,λa e u w=>?_⟩;have g:a.length<s.length:=by rw[<-pl,w];simp
     have z:=z (s.take a.length++s.drop (a.length+1)) (HX.mpr ⟨a.length,H_.mpr g,rfl⟩);have c:pick ts (s.take a.length++s.drop (a.length+1))=a++u:=by
      rw[Rz];have B:pick ts (s.take a.length)=(pick ts s).take a.length:=by unfold pick;rw[k_]
      have A:pick ts (s.drop (a.length+1))=(pick ts s).drop (a.length+1):=by unfold pick;rw[lA]
      rw[B,A,w];simp
     rw[c]at z;have G:(s.take a.length++s.drop (a.length+1)).length=(a++u).length:=by rw[<-c,W4]
     rw[G]at z;have:=of_decide_eq_true z;lia
    ·rintro⟨_,_,z⟩ r f;obtain⟨i,o,rfl⟩:=HX.mp f;have o:=H_.mp o;have c:pick ts s=pick ts (s.take i)++ts.getD s[i] (0,0)::pick ts (s.drop (i+1)):=by
      have:s=s.take i++s[i]::s.drop (i+1):=by rw[<-bM o,WT]
      rw[show pick ts s=pick ts (s.take i++s[i]::s.drop (i+1)) from congrArg (pick ts) this,Rz];rfl
     have:=z _ _ _ c;rw[<-Rz,W4]at this;apply decide_eq_true;lia
  ·refine⟨false,Az (Jw ((Lq ?_).trans (Ax (by simp)))),?_⟩
   ·simp[Af,l,y];lia
   ·refine⟨(λz=>nomatch z),λz=>?_⟩;have:=z.2.1;rw[pl]at this;exact absurd this x
def restOf(m:Nat)(s:List Nat):List Nat:=(List.range m).filter λk=>!decide (k∈s)
def mV(n:Nat)(ts:Ae)(s:List Nat):Prop:=s≠[]/\(Bs n (pick ts (List.range ts.length))).length<(Bs n (pick ts (restOf ts.length s))).length/\∀k∈s,(Bs n (pick ts (restOf ts.length s++[k]))).length=(Bs n (pick ts (List.range ts.length))).length
variable {m:Nat}
theorem kk3(h:m<=60):Jf [.int (m:Int)]=some (Ab (List.range m)):=by
 unfold Jf;have e:Yg [.int (m:Int)]=some (0,(m:Int)):=by
  have a:-(2 ^ 62)<=(m:Int)/\(m:Int)<2 ^ 62/\(m:Int)<=16777216:=by lia
  dsimp only[Yg];rw[if_pos a]
 rw[e];simp[Tu,Ac,Ab]
def zT(m:Nat)(s:List Nat):(restOf m s).length<=m:=by have:=WR (λk=>!decide (k∈s)) (List.range m);rw[QK]at this;exact this
variable {k:Nat}
def v_(h:k∈restOf m s):k<m:=by unfold restOf at h;exact H_.mp (MF.mp h).1
def Ep(n:Nat)(ts:Ae):ixD (Ah n ts) (.int 1)=some (.tup (ts.map Bd)):=oF
theorem all_eq(n:Nat)(ts:Ae)(b:ts.length<=50):Qg [Ah n ts]=.ok (Ab (List.range ts.length)):=by have tr:=kk3 (m:=ts.length) (by lia);have a:=Ep n ts;generalize Ah n ts=W at *;exact Az (Ax (by simp[Af,a,tr]))
theorem wq4(o:n<=60)(g:ts.length<=50)(h:∀e∈ts,e.1<=e.2/\e.2<n)(E:∀k∈s,k<ts.length)(hl:s.length<=60):∃b,Kh [Ah n ts,Ab s]=.ok (.bl b)/\(b=true↔mV n ts s):=by
 have I:=Ma (s:=List.range ts.length) o h λk a=>H_.mp a;have w:=Ma (s:=restOf ts.length s) o h λk a=>v_ a;have l:Eo [Ab s]=some (.int (s.length:Int)):=by show some (D.int _)=_;rw[Ba]
 have K:=all_eq n ts g;have L:=zT ts.length s;have C:∀k∈s,Jo [Ah n ts,Ab (restOf ts.length s++[k])]=.ok (.int ((n:Int) - ((Bs n (pick ts (restOf ts.length s++[k]))).length:Int))):=λk a=>Ma o h λj c=>by
  rcases KC.mp c with c |c
  ·exact v_ c
  ·rw[JG.mp c];exact E k a
 have P:=Rx n (pick ts (List.range ts.length));have O:=Rx n (pick ts (restOf ts.length s));have M:∀k,(Bs n (pick ts (restOf ts.length s++[k]))).length<=n:=λk=>Rx n _;generalize Q:Ah n ts=W at *;generalize v:(Bs n (pick ts (List.range ts.length))).length=A at *;generalize u:(Bs n (pick ts (restOf ts.length s))).length=B at *;have J:∀q,Bo (itS (gv 2)) 1 [1] (gN 0) (tb (b2 (gv 0) (gv 1) aO)) (gv 0) [some W,some (Ab s),some (Ab (List.range ts.length)),q,none]=.ok (.lst (Ac (restOf ts.length s))):=λq=>by refine Ci (ds:=Ac (List.range ts.length)) (by simp[Ab]) ?_ (by rw[Ba];lia);refine O1 (List.range ts.length) λk a=>?_;have y:aO (.int (k:Int)) (Ab s)=some (.bl (!decide (k∈s))):=z6 rfl (by simp);exact⟨by simp[Hn,y],by simp[Hn]⟩
 have pre:∀{r:R Fl},(PD.sq (PD.ifS (PD.tor (PD.tb (PD.b2 (PD.bA (zv (PD.gv 1) PD.a0) PD.Eo) (PD.kd (.int 0)) PD.eqD)) (PD.tb (PD.b2 (PD.cl (zv (PD.gv 0) (zv (PD.gv 4) PD.a0)) Jo) (PD.gv 3) PD.geD))) (PD.Jt (PD.kd (.bl false))) PD.nop)
  (PD.Jt (PD.bA (zv (PD.Bo (PD.itS (PD.gv 1)) 1 [0,4,3] (PD.gN 0) PD.yes (PD.b2 (PD.cl (zv (PD.gv 1) (zv (PD.b2 (PD.gv 2) (PD.bA (zv (PD.gv 0) PD.a0) PD.Hk) PD.Dg) PD.a0)) Jo) (PD.gv 3) PD.eqD)) PD.a0) PD.aY))) [some W,some (Ab s),some (Ab (List.range ts.length)),some (.int ((n:Int) - (A:Int))),some (Ab (restOf ts.length s))]=r->Wd (Af 5 [W,Ab s])=r:=λF=>by
  refine Al (ρ1:=[some W,some (Ab s),some (Ab (List.range ts.length)),none,none]) (Aw (d:=Ab (List.range ts.length)) (by simp[Af,K])) ?_;refine Al (ρ1:=[some W,some (Ab s),some (Ab (List.range ts.length)),some (.int ((n:Int) - (A:Int))),none]) (Aw (d:=.int ((n:Int) - (A:Int))) (by simp[I])) ?_;refine Al (ρ1:=[some W,some (Ab s),some (Ab (List.range ts.length)),some (.int ((n:Int) - (A:Int))),some (Ab (restOf ts.length s))]) (Aw (d:=Ab (restOf ts.length s)) (by rw[Rf,Pu,J];simp[Ab])) F
 by_cases f:s=[]
 ·refine⟨false,Az (pre (Jw ((Lq ?_).trans (Ax (by simp))))),⟨(λz=>nomatch z),λz=>absurd f z.1⟩⟩;have x:Eo [Ab s]=some (.int 0):=by rw[f];rfl
  simp[x]
 ·by_cases G:A<B
  ·refine⟨s.all λk=>decide (((n:Int) - ((Bs n (pick ts (restOf ts.length s++[k]))).length:Int))=(n:Int) - (A:Int)),Az (pre (Al ((Hb ?_).trans rfl) (Ax ?_))),?_⟩
   ·simp[l,w,f];lia
   ·have H:Bo (itS (gv 1)) 1 [0,4,3] (gN 0) yes (b2 (cl (zv (gv 1) (zv (b2 (gv 2) (bA (zv (gv 0) a0) Hk) Dg) a0)) Jo) (gv 3) eqD) [some W,some (Ab s),some (Ab (List.range ts.length)),some (.int ((n:Int) - (A:Int))),some (Ab (restOf ts.length s))]=.ok (.lst ((s.map λk=>decide (((n:Int) - ((Bs n (pick ts (restOf ts.length s++[k]))).length:Int))=(n:Int) - (A:Int))).map .bl)):=by refine Ci (ds:=Ac s) (by simp[Ab]) ?_ (by rw[GP,GP];lia);rw[<-vA];refine Dw s λk a=>?_;have p:Dg (Ab (restOf ts.length s)) (.tup [.int (k:Int)])=some (Ab (restOf ts.length s++[k])):=(V1 (by rw[Ba];simp;lia)).trans (by simp[Ab,Ac]);simp only[Hn];simp[Ga,p,C k a]
    have p:=kI (s.map λk=>decide (((n:Int) - ((Bs n (pick ts (restOf ts.length s++[k]))).length:Int))=(n:Int) - (A:Int)));rw[Rf,Pu,H];simp only[R.ok_bind,iR,p,R.of_some];simp[gG,Function.comp]
   ·unfold mV;rw[PQ,v,u];constructor
    ·intro z;refine⟨f,G,λk a=>?_⟩;have:=of_decide_eq_true (z k a);lia
    ·rintro⟨_,_,z⟩ k a;have:=z k a;apply decide_eq_true;lia
  ·refine⟨false,Az (pre (Jw ((Lq ?_).trans (Ax (by simp))))),⟨(λz=>nomatch z),λz=>?_⟩⟩
   ·simp[l,w];lia
   ·have:=z.2.1;rw[v,u]at this;lia
def trD(r:Tr):D:=.tup [.int r.1,.int r.2.1,.int r.2.2]
def k2D(k:Int×Int):D:=.tup [.int k.1,.int k.2]
def kD(l:List Kv):D:=Uu (l.map λp=>k2D p.1) (l.map λp=>.int p.2)
def sW(i j:Int):Ec [.int i,.int j]=some [.inl i,.inl j]:=rfl
def nD(k:Int×Int):dH (k2D k)=some [.inl k.1,.inl k.2]:=rfl
def key_ne{k:Int×Int}{i j:Int}(h:¬ k=(i,j)):¬ dH (k2D k)=some [.inl i,.inl j]:=λz=>by rw[nD]at z;have z:=Option.some.inj z;injection z with b a;injection a with a c;injection b with b;injection a with a;exact h (Prod.ext b a)
def Vz(i j:Int):∀l:List Kv,(P0 (l.map λp=>k2D p.1) (l.map λp=>D.int p.2) [.inl i,.inl j]).getD (.int 0)=.int (look l (i,j))
 | []=>rfl
 |p::r=>by
  rw[HJ,HJ,P0,look];by_cases h:p.1=(i,j)
  ·rw[if_pos (by rw[nD,h]),if_pos h];rfl
  ·rw[if_neg (key_ne h),if_neg h];exact Vz i j r
def Y5(i j v:Int):∀l:List Kv,dput (l.map λp=>k2D p.1) (l.map λp=>D.int p.2) [.inl i,.inl j] (.int v)=((put l (i,j) v).map (λp=>k2D p.1),(put l (i,j) v).map λp=>D.int p.2)
 | []=>rfl
 |p::r=>by
  rw[HJ,HJ,dput,put];by_cases h:p.1=(i,j)
  ·rw[if_pos (by rw[nD,h]),if_pos h];rfl
  ·rw[if_neg (key_ne h),if_neg h,Y5 i j v r];rfl
def gaB:Ev->R Fl:=PD.jL 1 (zv (PD.gv 2) (zv (PD.gv 3) PD.a0)) (PD.b2 (PD.jN 1 (zv (PD.gv 2) (zv (PD.gv 3) PD.a0)) (PD.kd (.int 0))) (PD.gv 4) PD.Dg)
variable {j:Option D}{r:Tr}
theorem wf7{l:List Kv}(hl:l.length<1000):gaB [j,some (kD l),some (.int r.1),some (.int r.2.1),some (.int r.2.2)]=.ok (.nx [j,some (kD (step l r)),some (.int r.1),some (.int r.2.1),some (.int r.2.2)]):=by
 have h:gv 1 [j,some (kD l),some (.int r.1),some (.int r.2.1),some (.int r.2.2)]=.ok (kD l):=by simp
 have e:=wf0 (i:=1) (ρ:=[j,some (kD l),some (.int r.1),some (.int r.2.1),some (.int r.2.2)]) (fks:=zv (PD.gv 2) (zv (PD.gv 3) PD.a0)) (f0:=PD.kd (.int 0)) h (l:=[.int r.1,.int r.2.1]) (by simp) (by simp) (z:=.int 0) (by simp) (sW _ _);rw[Vz]at e;refine(wf1 (v:=.int (look l (r.1,r.2.1)+r.2.2)) ?_ h (l:=[.int r.1,.int r.2.1]) (by simp) (by simp) (by rw[GP];lia) (sW _ _)).trans ?_
 ·rw[cA,e];simp
 ·rw[Y5];rfl
theorem wF{k:Int×Int}{v:Int}:∀l:List Kv,(put l k v).length<=l.length+1
 | []=>by simp[put]
 |p::r=>by
  unfold put;split
  ·simp
  ·have:=wF (k:=k) (v:=v) r;simp;lia
theorem yD:∀(a:List Tr)(l:List Kv),(acc l a).length<=l.length+a.length
 | [],l=>by simp[acc]
 |r::a,l=>by have c:=yD a (step l r);have b:(step l r).length<=l.length+1:=wF l;show(acc (step l r) a).length<=_;rw[MJ];lia
def yk5{c q:Type}{f:c->q}:∀{l m:List q},l.Perm m->∀X:List c,m=X.map f->∃T:List c,T.Perm X/\l=T.map f:=by
 intro l m h;induction h with
 |nil=>intro X e;cases X with
  |nil=>exact⟨[],.refl _,rfl⟩
  |cons a X=>cases e
 | @cons a l m _ u=>intro X e;cases X with
  |nil=>cases e
  |cons x X=>cases e;obtain⟨T,p,rfl⟩:=u X rfl;exact⟨x::T,p.cons x,rfl⟩
 |swap a b l=>intro X e;match X,e with
  |x::y::X,e=>cases e;exact⟨y::x::X,.swap x y X,rfl⟩
  | [],e=>cases e
  | [_],e=>cases e
 |trans _ _ o g=>intro X e;obtain⟨T,p,rfl⟩:=g X e;obtain⟨U,v,rfl⟩:=o T rfl;exact⟨U,v.trans p,rfl⟩
def fW(T:List Tr):Prop:=(T.map trD).Pairwise λa b=>Gz a b=true
def PN(T X:List Tr):Prop:=T.Perm X/\fW T
variable {T:List Tr}
def zG(h:(T.map trD).length<2):fW T:=by
 unfold fW
 match T,h with
 | [],_=>exact .nil
 | [a],_=>exact List.pairwise_singleton ..
 |a::b::T,h=>exact absurd h (by simp)
variable {X:List Tr}
def kz0(c:X.length<64):∃T:List Tr,PN T X/\Fd [.lst (X.map trD)]=some (.lst (T.map trD)):=by
 have f:Dr (X.map trD)=true:=by unfold Dr;rw[bG];refine .inr (PQ.mpr λd g=>?_);obtain⟨r,l,rfl⟩:=HX.mp g;rfl
 have b:Fd [.lst (X.map trD)]=some (.lst (if(X.map trD).length<2 then X.map trD else srt (X.map trD))):=by unfold Fd;dsimp only;show(if(X.map trD).length<64/\((X.map trD).length<2\/Dr (X.map trD)=true) then _ else _)=_;rw[if_pos ⟨by rw[GP];exact c,.inr f⟩]
 by_cases a:(X.map trD).length<2
 ·exact⟨X,⟨.refl _,zG a⟩,by rw[b,if_pos a]⟩
 ·have⟨T,h,e⟩:=yk5 (Dm (X.map trD)) X rfl;exact⟨T,⟨h,by unfold fW;rw[<-e];exact Eh _⟩,by rw[b,if_neg a,e]⟩
theorem Ue(a:List Tr)(hl:a.length<1000)(E:(acc [] a).length<64):∃T:List Tr,PN T (kept a)/\Vv [.lst (a.map trD)]=.ok (.lst (T.map trD)):=by
 have⟨B,A,v⟩:=Hf (g:=gT [2,3,4]) (b:=gaB) (I:=λk y=>∃u o f,y=[some (.lst (a.map trD)),some (kD (acc [] (a.take k))),u,o,f])
  (a.map trD) 0 [some (.lst (a.map trD)),some (kD []),none,none,none] ⟨none,none,none,rfl⟩ (λi d y e v=>by
   rw[QR]at e;cases x:a[i]? with
   |none=>rw[x]at e;cases e
   |some r =>
    rw[x]at e;cases e;rw[WM]at v ⊢;obtain⟨u,o,f,rfl⟩:=v;have c:(acc [] (a.take i)).length<1000:=by have z:=yD (a.take i) [];rw[QJ]at z;simp at z;lia
    have G:acc [] (a.take (i+1))=step (acc [] (a.take i)) r:=by unfold acc;rw[qG,x,jHz];rfl
    exact⟨_,_,rfl,.inl (wf7 c),by rw[G];exact⟨_,_,_,rfl⟩⟩)
 obtain⟨u,o,f,rfl⟩:=v;rw[GP,WM,lL]at A;have w:(kept a).length<64:=by unfold kept;rw[GP];exact YM (WR _ _) E
 have⟨T,F,H⟩:=kz0 w;refine⟨T,F,Az (Al (Aw (d:=kD []) (by simp[kD])) (Al (Ny (ds:=a.map trD) (by simp[Af]) A) (Ax ?_)))⟩;have K:∀(l:List Kv),Dp (gT [0,1]) (tb (b2 (gv 1) (kd (.int 0)) neD)) (bA (zv (b2 (gv 0) (kd (.int 0)) ixD) (zv (b2 (gv 0) (kd (.int 1)) ixD) (zv (gv 1) a0))) Hk) [none,none] (((l.map λp=>k2D p.1).zip (l.map λp=>D.int p.2)).map λq=>.tup [q.1,q.2])=.ok (((l.filter λp=>decide (p.2≠0)).map rowOf).map trD):=by
  intro l;induction l with
  |nil=>rfl
  |cons p l C =>
   rw[HJ,HJ,d9,HJ,Dp,C];by_cases h:p.2=0
   ·simp[h]
   ·simp[h,k2D,trD,rowOf,Ga]
 have J:Bo (itI 1) 2 [] (gT [0,1]) (tb (b2 (gv 1) (kd (.int 0)) neD)) (bA (zv (b2 (gv 0) (kd (.int 0)) ixD) (zv (b2 (gv 0) (kd (.int 1)) ixD) (zv (gv 1) a0))) Hk) [some (.lst (a.map trD)),some (kD (acc [] a)),u,o,f]=.ok (.lst ((kept a).map trD)):=by refine Ci (yd6 (ks:=(acc [] a).map λ(p:Kv)=>k2D p.1) (fs:=(acc [] a).map λ(p:Kv)=>D.int p.2) (by simp[kD])) (K (acc [] a)) ?_;rw[GP];lia
 rw[Rf,Pu,J];simp[H]
theorem km1{S:List Tr}(g:S.length<400)(f:T.length<400)(a:(acc [] (S++T)).length<64):∃U:List Tr,PN U (kept (S++T))/\Rb [.lst (S.map trD),.lst (T.map trD)]=.ok (.lst (U.map trD)):=by have⟨U,b,e⟩:=Ue (S++T) (by rw[MK];lia) a;refine⟨U,b,Az (Ax ?_)⟩;have c:Dg (.lst (S.map trD)) (.lst (T.map trD))=some (.lst ((S++T).map trD)):=(uY (by rw[GP,GP];lia)).trans (by rw[QQ]);generalize (S++T).map trD=X at *;simp[Af,c,e]
variable {f:Ev->R D}{ρ:Ev}{ds xs:List D}
def wr8(h:ρ[i]? = some (some (.lst ds)))(b:f ρ=.ok (.lst xs))(a:ds.length+xs.length<=16777216):fK i f ρ=.ok (.nx (ρ.set i (some (.lst (ds++xs))))):=by unfold fK;rw[h];simp[b,a]
def ju7{S:List Tr}(h:S[i]? = some r):times (S.take (i+1)) T=times (S.take i) T++T.map λs=>(r.1+s.1,r.2.1+s.2.1,r.2.2 * s.2.2):=by unfold times;rw[qG,h,List.flatMap_append];simp
def ja2(S T:List Tr):(times S T).length=S.length * T.length:=by
 unfold times;induction S with
 |nil=>simp
 |cons a l b=>rw[jIa,MK,b,GP,MJ,kY,gJ]
def Sml(T:List Tr):Prop:=∀r∈T,-18446744073709551616<r.2.2/\r.2.2<18446744073709551616
def muB:Ev->R Fl:=PD.fK 2 (PD.Bo (PD.itS (PD.gv 1)) 3 [3,4,5] (PD.gT [0,1,2]) PD.yes (PD.bA (zv (PD.b2 (PD.gv 3) (PD.gv 0) PD.Dg) (zv (PD.b2 (PD.gv 4) (PD.gv 1) PD.Dg) (zv (PD.b2 (PD.gv 5) (PD.gv 2) PD.Hh) PD.a0))) PD.Hk))
theorem Qa{S:List Tr}(B:Sml S)(hl:S.length * T.length<1000)(G:T.length<1000)(y:(acc [] (times S T)).length<64):∃U:List Tr,PN U (kept (times S T))/\Cr [.lst (S.map trD),.lst (T.map trD)]=.ok (.lst (U.map trD)):=by
 have⟨U,z,e⟩:=Ue (times S T) (by rw[ja2];exact hl) y;have⟨w,v,c⟩:=Hf (g:=gT [3,4,5]) (b:=muB) (I:=λk ρ=>k<=S.length->∃q p o,ρ=[some (.lst (S.map trD)),some (.lst (T.map trD)),some (.lst ((times (S.take k) T).map trD)),q,p,o])
  (S.map trD) 0 [some (.lst (S.map trD)),some (.lst (T.map trD)),some (.lst []),none,none,none] (λ_=>⟨none,none,none,by simp[times]⟩) (λi d ρ a c=>by
   rw[QR]at a;cases h:S[i]? with
   |none=>rw[h]at a;cases a
   |some r =>
    rw[h]at a;cases a;rw[WM]at c ⊢;have F:i<S.length:=(LR.mp h).1;obtain⟨q,p,o,rfl⟩:=c (by lia);have E:=B r (YQ h);have C:∀(l:List Tr),Dp (gT [0,1,2]) yes (bA (zv (b2 (gv 3) (gv 0) Dg) (zv (b2 (gv 4) (gv 1) Dg) (zv (b2 (gv 5) (gv 2) Hh) a0))) Hk) [none,none,none,some (.int r.1),some (.int r.2.1),some (.int r.2.2)] (l.map trD)=.ok ((l.map λs=>((r.1+s.1,r.2.1+s.2.1,r.2.2 * s.2.2):Tr)).map trD):=by
     intro l;induction l with
     |nil=>rfl
     |cons s l x=>have A:Hh (.int r.2.2) (.int s.2.2)=some (.int (r.2.2 * s.2.2)):=j8 (by lia) (by lia);rw[HJ,Dp];simp[trD,yes,A,Ga,x]
    have u:(times (S.take i) T).length<=1000:=by rw[ja2,QJ];have:min i S.length * T.length<=S.length * T.length:=jHg _ (lM _ _);lia
    refine⟨[some (.lst (S.map trD)),some (.lst (T.map trD)),some (.lst ((times (S.take i) T).map trD)),some (.int r.1),some (.int r.2.1),some (.int r.2.2)],_,rfl,.inl (wr8 (ds:=(times (S.take i) T).map trD) (xs:=(T.map λs=>((r.1+s.1,r.2.1+s.2.1,r.2.2 * s.2.2):Tr)).map trD) rfl ?_ ?_),λ_=>?_⟩
    ·exact Ci (ds:=T.map trD) (by simp) (C T) (by rw[GP,GP];lia)
    ·rw[GP,GP,GP];lia
    ·rw[ju7 h,QQ];exact⟨_,_,_,rfl⟩)
 rw[GP,WM]at c;obtain⟨q,p,o,rfl⟩:=c (F_ _);rw[lL]at v;generalize (times S T).map trD=X at *;exact⟨U,z,Az (Al (Aw (d:=.lst []) (by simp[Ua])) (Al (Ny (ds:=S.map trD) (by simp[Af]) v) (Ax (by simp[e]))))⟩
structure iU(r:Tr):Prop where
 i0:0<=r.1
 i9:r.1<=9
 j0:0<=r.2.1
 j9:r.2.1<=9
 t0:-1000000000000<=r.2.2
 t9:r.2.2<=1000000000000
variable {x:Int}
def cZ(a:x.natAbs<=1099511627776)(b:n<=9):(x ^ n).natAbs<=1099511627776 ^ 9:=by rw[Int.natAbs_pow];exact PL (Nat.pow_le_pow_left a n) (g8 (by decide) b)
def mR:(1099511627776:Nat) ^ 9<2 ^ 2048:=by decide +kernel
def ya9:(1099511627776:Nat) * 1099511627776 ^ 9<2 ^ 2048:=by decide +kernel
variable {b:Nat}
def uG{a:Nat}(c:x.natAbs<=1099511627776)(g:a<=9)(e:b<=9):Hh (.int (x ^ a)) (.int (x ^ b))=some (.int (x ^ (a+b))):=by rw[uV (YM (cZ c g) mR) (YM (cZ c e) mR),Int.pow_add]
def tkT:Ev->R Bool:=tb (b2 (gv 1) (kd (.int 0)) gtD)
def tkB:Ev->R Fl:=(sq (ifS (tb (b2 (b2 (gv 1) (kd (.int 2)) Gk) (kd (.int 1)) eqD)) (asg 2 (b2 (gv 2) (gv 0) Hh)) nop)
 (sq (asg 1 (b2 (gv 1) (kd (.int 2)) Hv))
 (ifS (tb (b2 (gv 1) (kd (.int 0)) gtD)) (asg 0 (b2 (gv 0) (gv 0) Hh)) nop)))
theorem oR{x:Int}(l:x.natAbs<=1099511627776):∀(m o a b:Nat),o<=m->a * o+b<=9->a<=9->∃z w,Ht tkT tkB (m+1) [some (.int (x ^ a)),some (.int (o:Int)),some (.int (x ^ b))]=.ok (.nx [some z,some w,some (.int (x ^ (a * o+b)))])
 |m,0,a,b,_,_,_=>by
  refine⟨.int (x ^ a),.int 0,?_⟩;rw[Ht];have:tkT [some (.int (x ^ a)),some (.int ((0:Nat):Int)),some (.int (x ^ b))]=.ok false:=by simp[tkT]
  rw[this];simp
 |0,o+1,a,b,h,_,_=>by lia
 |m+1,o+1,a,b,h,O,p=>by
  have H:b<=9:=by lia
  have t:tkT [some (.int (x ^ a)),some (.int ((o+1:Nat):Int)),some (.int (x ^ b))]=.ok true:=by
   have u:(0:Int)<((o+1:Nat):Int):=by lia
   generalize ((o+1:Nat):Int)=M at u;simp[tkT,u]
  have B:Hv (.int ((o+1:Nat):Int)) (.int 2)=some (.int (((o+1) / 2:Nat):Int)):=by rw[Qh (by decide) (by decide)];congr 2
  have v:Gk (.int ((o+1:Nat):Int)) (.int 2)=some (.int (((o+1) % 2:Nat):Int)):=by rw[Kl (by decide)];congr 2
  obtain⟨q,K⟩:∃q,q=(o+1) / 2:=⟨_,rfl⟩;obtain⟨r,err⟩:∃r,r=(o+1) % 2:=⟨_,rfl⟩;have y:o+1=2 * q+r:=by lia
  have L:r<2:=by lia
  rw[<-K]at B;rw[<-err]at v;obtain⟨N,eN⟩:∃N:Int,N=((o+1:Nat):Int):=⟨_,rfl⟩;rw[<-eN]at t B v ⊢;have hmul:a * (o+1)=2 * (a * q)+a * r:=by rw[y,Nat.mul_add,<-pU,Nat.mul_comm a 2,pU]
  obtain⟨c,e,F⟩:∃c,(a * (o+1)+b=2 * (a * q)+c)/\ifS (tb (b2 (b2 (gv 1) (kd (.int 2)) Gk) (kd (.int 1)) eqD)) (asg 2 (b2 (gv 2) (gv 0) Hh)) nop [some (.int (x ^ a)),some (.int N),some (.int (x ^ b))]=.ok (.nx [some (.int (x ^ a)),some (.int N),some (.int (x ^ c))]):=by
   by_cases J:r=1
   ·subst J;refine⟨b+a,by lia,(Lq (by simp[v])).trans (Aw (d:=.int (x ^ (b+a))) (by simp[uG l H p]))⟩
   ·have u:r=0:=by lia
    subst u;exact⟨b,by lia,(Hb (by simp[v])).trans rfl⟩
  have g:asg 1 (b2 (gv 1) (kd (.int 2)) Hv) [some (.int (x ^ a)),some (.int N),some (.int (x ^ c))]=.ok (.nx [some (.int (x ^ a)),some (.int (q:Int)),some (.int (x ^ c))]):=Aw (d:=.int (q:Int)) (by simp[B]);by_cases G:q=0
  ·subst G;have C:tkB [some (.int (x ^ a)),some (.int N),some (.int (x ^ b))]=.ok (.nx [some (.int (x ^ a)),some (.int ((0:Nat):Int)),some (.int (x ^ c))]):=Al F (Al g ((Hb (by simp)).trans rfl));obtain⟨z,w,A⟩:=oR l m 0 a c (by lia) (by lia) p;refine⟨z,w,?_⟩;rw[Ht,t];simp only[R.ok_bind,if_true,C];rw[A,e];simp
  ·have I:2 * a<=9:=by have:a * 1<=a * q:=Nat.mul_le_mul_left a (by lia);lia
   have C:tkB [some (.int (x ^ a)),some (.int N),some (.int (x ^ b))]=.ok (.nx [some (.int (x ^ (a+a))),some (.int (q:Int)),some (.int (x ^ c))]):=by refine Al F (Al g ((Lq ?_).trans (Aw (d:=.int (x ^ (a+a))) (by simp[uG l p p]))));simp;lia
   have E:(a+a) * q=2 * (a * q):=by rw[Nat.add_mul];lia
   obtain⟨z,w,A⟩:=oR l m q (a+a) c (by lia) (by lia) (by lia);refine⟨z,w,?_⟩;rw[Ht,t];simp only[R.ok_bind,if_true,C];rw[A,e,E]
theorem yS(a:x.natAbs<=1099511627776)(c:n<=9):O2 [.int x,.int (n:Int)]=.ok (.int (x ^ n)):=by refine Az ?_;have⟨z,w,e⟩:=oR a 99999 n 1 0 (by lia) (by lia) (by lia);rw[Int.pow_one,Nat.one_mul,Nat.add_zero,Int.pow_zero]at e;exact Al (Aw (d:=.int 1) (by simp)) (Al e (Ax (by simp)))
theorem wb0{y:Int}(e:x.natAbs<=1099511627776)(c:y.natAbs<=1099511627776)(h:iU r):
  Hh (.int r.2.2) (.int (x ^ r.1.toNat))=some (.int (r.2.2 * x ^ r.1.toNat))/\Hh (.int (r.2.2 * x ^ r.1.toNat)) (.int (y ^ r.2.1.toNat))=some (.int (val x y r)):=by
 have u:=h.i9;have q:=h.j9;have p:=h.t0;have o:=h.t9;have l:=h.i0;have g:=h.j0;have b1:=cZ (n:=r.1.toNat) e (by lia);have a:=cZ (n:=r.2.1.toNat) c (by lia);refine⟨j8 (by lia) (by lia),uV ?_ (YM a mR)⟩;rw[pZ];exact YM (pY (show r.2.2.natAbs<=1099511627776 by lia) b1) ya9
theorem wb3{y:Int}{a:List Tr}(q:x.natAbs<=1099511627776)(p:y.natAbs<=1099511627776)(e:∀r∈a,iU r)(hl:a.length<=1000):pF [.lst (a.map trD),.int x,.int y]=.ok (.int ((a.map (val x y)).sum)):=by
 refine Az (Ax ?_);have E:Bo (itS (gv 0)) 3 [1,2] (gT [0,1,2]) yes (b2 (b2 (gv 2) (cl (zv (gv 3) (zv (gv 0) a0)) O2) Hh) (cl (zv (gv 4) (zv (gv 1) a0)) O2) Hh) (Af 3 [.lst (a.map trD),.int x,.int y])=.ok (.lst ((a.map (val x y)).map .int)):=by
  refine Ci (ds:=a.map trD) (by simp[Af]) ?_ (by simpa using PL hl (by decide));have F:∀(l:List Tr)(ρ:Ev),(∀r∈l,iU r)->ρ=[none,none,none,some (.int x),some (.int y)]->Dp (gT [0,1,2]) yes (b2 (b2 (gv 2) (cl (zv (gv 3) (zv (gv 0) a0)) O2) Hh) (cl (zv (gv 4) (zv (gv 1) a0)) O2) Hh) ρ (l.map trD)=.ok ((l.map (val x y)).map .int):=by
   intro l ρ e c;induction l with
   |nil=>rfl
   |cons r l o=>have h:=e r (by simp);have⟨z,w⟩:=wb0 q p h;have H:=h.i9;have G:=h.j9;have B:=h.i0;have A:=h.j0;have v:=yS (x:=x) (n:=r.1.toNat) q (by lia);have u:=yS (x:=y) (n:=r.2.1.toNat) p (by lia);rw[aC B]at v;rw[aC A]at u;rw[HJ,Dp,c];rw[c]at o;simp[trD,yes,v,u,z,w,o λr g=>e r (IK _ g)]
  exact F a _ e (by simp[Af,Hn])
 rw[Rf,Pu,E];have C:eV [.lst ((a.map (val x y)).map .int)]=some (.int ((a.map (val x y)).sum)):=by show(Bl _).map _=_;rw[Te];rfl
 generalize a.map (val x y)=Y at *;simp[C]
theorem wz6(hi:i<xs.length):slA (.tup xs) none (some (i:Int))=some (.tup (xs.take i)):=by show(if HT.sIx xs.length 0 none=0/\HT.sIx xs.length xs.length (some (i:Int))=xs.length then none else some (D.tup (cutD xs none (some (i:Int)))))=_;rw[HT.Mi,HT.Jv,if_neg (by lia)];unfold cutD;rw[HT.Mi,HT.Jv,ZF (by lia)];simp
theorem wz5(hi:i<xs.length):slA (.tup xs) (some ((i:Int)+1)) none=some (.tup (xs.drop (i+1))):=by
 show(if HT.sIx xs.length 0 (some ((i:Int)+1))=0/\HT.sIx xs.length xs.length none=xs.length then none else some (D.tup (cutD xs (some ((i:Int)+1)) none)))=_;have e:HT.sIx xs.length 0 (some ((i:Int)+1))=i+1:=by rw[show((i:Int)+1)=((i+1:Nat):Int) by lia,HT.Mi];lia
 rw[e,if_neg (by lia)];unfold cutD;rw[e,HT.Jv];congr 2;apply eF;rw[TQ];exact F_ _
theorem refuse_eq{t:Nat}(g:t<ts.length):Rc [Ah n ts,.int (t:Int)]=.ok .non:=by
 have a:=Ep n ts;have h:(ts.map Bd).length=ts.length:=GP ..;generalize Ah n ts=W at *;have c:ch (kd (.int 0)) (gv 1) (bA (zv (b2 (gv 0) (kd (.int 1)) ixD) a0) Eo) leD ltD (Af 2 [W,.int (t:Int)])=.ok (.bl true):=by unfold ch;simp[Af,a,g]
 have e:Je (Af 2 [W,.int (t:Int)])=.ok (.nx (Af 2 [W,.int (t:Int)])):=(Hb (by rw[mL,fM,c];simp)).trans rfl;show Cq 2 Je _=_;rw[j_,e,uX]
def del(ts:Ae)(t:Nat):Ae:=ts.take t++ts.drop (t+1)
theorem X3{t:Nat}(c:t<ts.length)(hl:ts.length<=1000):Fj [Ah n ts,.int (t:Int)]=.ok (Ah n (del ts t)):=by
 have g:ixD (Ah n ts) (.int 0)=some (.int (n:Int)):=V3;have e:=Ep n ts;have p:=refuse_eq (n:=n) c;have a:t<(ts.map Bd).length:=by rw[GP];exact c
 have l:=wz6 a;have h:=wz5 a;have q:Dg (.tup ((ts.map Bd).take t)) (.tup ((ts.map Bd).drop (t+1)))=some (.tup ((del ts t).map Bd)):=(V1 (by rw[QJ,TQ,GP];lia)).trans (by rw[del,QQ,k_,lA]);have o:Hk [.int (n:Int),.tup ((del ts t).map Bd)]=some (Ah n (del ts t)):=Ga (by simp);generalize Ah n ts=W,Ah n (del ts t)=u at *;refine Az (Al (ρ1:=[some W,some (.int (t:Int)),none]) (by simp[Af,p]) (Al (ρ1:=[some W,some (.int (t:Int)),some (.tup (ts.map Bd))]) (Aw (d:=.tup (ts.map Bd)) (by simp[e])) (Ax ?_)));simp only[Rf,Pu,iR,cA,ym2,ym8,ym9,rK,gv0,rF,yn8,R.ok_bind,g,R.of_some,yd4,l,wr1,h,q,o]
theorem jh0(p a b:Nat):Fb [.int (p:Int),.int (a:Int),.int (b:Int)]=.ok (.int (cp a b p:Nat)):=by
 unfold cp;by_cases h:p=b
 ·subst h;rw[if_pos rfl];exact Az (Jw ((Lq (by simp[Af])).trans (Ax (by simp[Af]))))
 ·rw[if_neg h];by_cases c:b<p
  ·rw[if_pos c];refine Az (Al ((Hb (by simp[Af];lia)).trans rfl) (Jw ((Lq (by simp[Af];lia)).trans (Ax ?_))));simp[Af];lia
  ·rw[if_neg c];exact Az (Al ((Hb (by simp[Af];lia)).trans rfl) (Al ((Hb (by simp[Af];lia)).trans rfl) (Ax (by simp[Af]))))
theorem kj5(x y:Nat):Ln [.int (x:Int),.int (y:Int)]=.ok (Bd (min x y,max x y)):=by
 refine Az (Ax ?_);have c:min (x:Int) (y:Int)=((min x y:Nat):Int):=by lia
 have a:max (x:Int) (y:Int)=((max x y:Nat):Int):=by lia
 simp[Af,Ga,Bd,c,a]
theorem ke3{a:Nat}(y:1<=n)(hl:ts.length<=1000):ji4 [Ah n ts,.int (a:Int),.int (b:Int)]=.ok (Ah (n - 1) (ts.map (ct a b))):=by
 have g:ixD (Ah n ts) (.int 0)=some (.int (n:Int)):=V3;have c:=Ep n ts;have o:Hk [.int ((n:Int) - 1),.tup ((ts.map (ct a b)).map Bd)]=some (Ah (n - 1) (ts.map (ct a b))):=(Ga (by simp)).trans (by rw[Ah,show((n - 1:Nat):Int)=(n:Int) - 1 by lia]);have A:((ts.map (ct a b)).map Bd).length<=1000:=by rw[GP,GP];exact hl
 generalize Ah n ts=W,Ah (n - 1) (ts.map (ct a b))=B at *;have p:Bo (itS (b2 (gv 0) (kd (.int 1)) ixD)) 1 [1,2] (gN 0) yes (cl (zv (cl (zv (b2 (gv 0) (kd (.int 0)) ixD) (zv (gv 1) (zv (gv 2) a0))) Fb) (zv (cl (zv (b2 (gv 0) (kd (.int 1)) ixD) (zv (gv 1) (zv (gv 2) a0))) Fb) a0)) Ln) [some W,some (.int (a:Int)),some (.int (b:Int)),none]=.ok (.lst ((ts.map (ct a b)).map Bd)):=by refine Ci (ds:=ts.map Bd) (by simp[c]) ?_ (by lia);rw[NP];refine Dw ts λe z=>?_;have l:ixD (Bd e) (.int 0)=some (.int (e.1:Int)):=V3;have h:ixD (Bd e) (.int 1)=some (.int (e.2:Int)):=oF;have w:=jh0 e.1 a b;have v:=jh0 e.2 a b;have u:=kj5 (cp a b e.1) (cp a b e.2);have q:(Bd∘ct a b) e=Bd (min (cp a b e.1) (cp a b e.2),max (cp a b e.1) (cp a b e.2)):=rfl;rw[q];generalize Bd e=TE,Bd (min (cp a b e.1) (cp a b e.2),max (cp a b e.1) (cp a b e.2))=C at *;simp only[Hn];simp[l,h,w,v,u]
 generalize (ts.map (ct a b)).map Bd=X at *;refine Az (Al (ρ1:=[some W,some (.int (a:Int)),some (.int (b:Int)),some (.lst X)]) (Aw (d:=.lst X) (by simpa[Af] using p)) (Ax ?_));simp[g,o]
variable {e:Nat×Nat}
theorem ko7{t:Nat}(v:1<=n)(p:ts[t]? = some e)(hl:ts.length<=1000):Jd [Ah n ts,.int (t:Int)]=.ok (if e.1=e.2 then Ah n (del ts t) else Ah (n - 1) ((del ts t).map (ct e.1 e.2))):=by
 have u:t<ts.length:=(LR.mp p).1;have q:=Ep n ts;have z:=X3 (n:=n) u hl;have y:ixD (.tup (ts.map Bd)) (.int (t:Int))=some (Bd e):=Nv (by rw[QR,p];rfl);have l:(del ts t).length<=1000:=by unfold del;rw[MK,QJ,TQ];lia
 have w:=ke3 (n:=n) (ts:=del ts t) (a:=e.1) (b:=e.2) v l;have g:ixD (Bd e) (.int 0)=some (.int (e.1:Int)):=V3;have c:ixD (Bd e) (.int 1)=some (.int (e.2:Int)):=oF;generalize Ah n ts=W,Ah n (del ts t)=o,Ah (n - 1) ((del ts t).map (ct e.1 e.2))=A,Bd e=TE at *;refine Az (Al (ρ1:=[some W,some (.int (t:Int)),some o,none]) (Aw (d:=o) (by simp[Af,z])) (Al (ρ1:=[some W,some (.int (t:Int)),some o,some TE]) (Aw (d:=TE) (by simp[q,y])) ?_));by_cases h:e.1=e.2
 ·rw[if_pos h];exact Jw ((Lq (by simp[g,c,h])).trans (Ax (by simp)))
 ·rw[if_neg h];exact Al ((Hb (by simp[g,c];lia)).trans rfl) (Ax (by simp[g,c,w]))
def xM{t:Nat}(g:ts[t]? = some e)(f:Nat×Nat):f∈ts↔f∈e::del ts t:=by
 obtain⟨c,rfl⟩:=LR.mp g;have h:ts=ts.take t++ts[t]::ts.drop (t+1):=by rw[<-bM c,WT]
 constructor
 ·intro a;rw[h]at a;unfold del;rcases KC.mp a with z |z
  ·exact IK _ (ZJ _ z)
  ·rcases HN.mp z with z |z
   ·exact z ▸ JK
   ·exact IK _ (TV _ z)
 ·intro a;rcases HN.mp a with z |z
  ·exact z ▸ RB c
  ·unfold del at z;rcases KC.mp z with z |z
   ·exact eE z
   ·exact d_ z
def zX{t:Nat}(a:ts[t]? = some e):pick ts [t]=[e]:=by unfold pick;rw[HJ,ZZ,O_,a];rfl
def zY(ts:Ae):pick ts (List.range ts.length)=ts:=by
 unfold pick;apply bI
 ·simp
 ·intro i c a;simp[a]
theorem z8{t:Nat}{f:Nat×Nat}:f∈pick ts (restOf ts.length [t])↔f∈del ts t:=by
 unfold pick restOf del;rw[HX,KC];constructor
 ·rintro⟨k,a,rfl⟩;rw[MF,H_]at a;have c:k≠t:=by simpa using a.2
  rw[O_,GK a.1,RC];by_cases g:k<t
  ·exact .inl (jGj.mpr ⟨k,by lia,rfl⟩)
  ·refine .inr (jGk.mpr ⟨k - (t+1),by lia,?_⟩);congr 1;lia
 ·intro h;rcases h with h |h
  ·obtain⟨k,a,rfl⟩:=jGj.mp h;refine⟨k,MF.mpr ⟨H_.mpr (by lia),by simp;lia⟩,?_⟩;rw[O_,GK (by lia),RC]
  ·obtain⟨k,a,rfl⟩:=jGk.mp h;refine⟨t+1+k,MF.mpr ⟨H_.mpr (by lia),by simp;lia⟩,?_⟩;rw[O_,GK (by lia),RC]
theorem Vb(h:∀e∈ts,e.1<=e.2/\e.2<n):InW n ts:=λe a=>by have:=h e a;lia
theorem kx9{t:Nat}(y:n<=60)(h:∀e∈ts,e.1<=e.2/\e.2<n)(p:ts[t]? = some e):Fi [Ah n ts,Ab [t]]=.ok (.bl (decide (e.1=e.2))):=by
 have⟨w,A⟩:=LR.mp p;have⟨b,F,E⟩:=wk6 (n:=n) (ts:=ts) (s:=[t]) y h (by simpa using w) (by simp);suffices B:b=decide (e.1=e.2) by rw[F,B]
 rw[bF,E,decide_eq_true_iff,zX p];have q:InW n [e]:=λf z=>by rw[JG.mp z];exact Vb h e (YQ p)
 obtain⟨a,u⟩:=e;constructor
 ·intro r;by_cases g:a=u
  ·exact g
  ·have:=Jl (es:=[]) q (λc=>g (Vt.mp c));rw[Lg]at this;have C:=r.2.1;unfold cc at this;simp at C;lia
 ·intro g;have g:a=u:=g;subst g;have:=Nm (es:=[]) q (Ay.refl _);rw[Lg]at this;refine⟨by simp,by unfold cc at this;rw[this];simp,λl f v o=>?_⟩;have:l=[]/\v=[]:=by
   cases l with
   |nil=>simp at o;exact⟨rfl,o.2⟩
   |cons x l=>simp at o
  rw[this.1,this.2];have:=Lg n;unfold cc at this;simp[this]
theorem we6{t:Nat}(z:n<=60)(p:ts.length<=50)(h:∀e∈ts,e.1<=e.2/\e.2<n)(l:ts[t]? = some e):∃b,Kh [Ah n ts,Ab [t]]=.ok (.bl b)/\(b=true↔¬ Ay (del ts t) e.1 e.2):=by
 have⟨y,C⟩:=LR.mp l;have⟨b,F,E⟩:=wq4 (n:=n) (ts:=ts) (s:=[t]) z p h (by simpa using y) (by simp);refine⟨b,F,E.trans ?_⟩;have o:=Vb h;have q:InW n (del ts t):=λf B=>o f ((xM l f).mpr (IK _ B));have g:InW n (e::del ts t):=Bg.mpr ⟨o e (YQ l),q⟩;have w:(Bs n (pick ts (List.range ts.length))).length=cc n (e::del ts t):=by rw[zY];exact J7 o (xM l)
 have v:(Bs n (pick ts (restOf ts.length [t]))).length=cc n (del ts t):=(J7 q λf=>z8.symm).symm;have u:(Bs n (pick ts (restOf ts.length [t]++[t]))).length=cc n (e::del ts t):=(J7 g λf=>by
  rw[Rz,zX l,KC,z8,HN,JG,or_comm]).symm
 unfold mV;rw[w,v];obtain⟨a,G⟩:=e;constructor
 ·intro r c;have:=Nm g c;have:=r.2.1;lia
 ·intro c;have:=Jl g c;exact⟨by simp,by lia,λk A=>by rw[JG.mp A,u]⟩
theorem G9.sml(c:m<=9)(h:G9 m T):∀r∈T,0<=r.2.2/\r.2.2<=512:=λr a=>by
 have l:=h.each r a;have g:(2:Int) ^ m<=512:=by
  have:m=0\/m=1\/m=2\/m=3\/m=4\/m=5\/m=6\/m=7\/m=8\/m=9:=by lia
  rcases this with rfl |rfl |rfl |rfl |rfl |rfl |rfl |rfl |rfl |rfl<;>decide
 have:=h.tim r a;lia
def tr1(i j t:Int):D.tup [.int i,.int j,.int t]=trD (i,j,t):=rfl
structure mU(T:List Tr):Prop where
 red:Red T
 srt:fW T
def PN.nice(h:PN T (kept X)):mU T:=⟨(kt2 X).perm h.1,h.2⟩
def kv4:mU [(0,0,1)]:=⟨⟨by simp,by simp⟩,zG (by simp)⟩
theorem Mm:∀(m:Nat){n:Nat}{ts:Ae},ts.length<m->ts.length<=9->1<=n->n<=60->(∀e∈ts,e.1<=e.2/\e.2<n) ->
  ∃T,mU T/\G9 ts.length T/\(∀x y,(T.map (val x y)).sum=SS n ts (x - 1) (y - 1))/\Cu m [Ah n ts]=.ok (.lst (T.map trD))
 |0,n,ts,h,_,_,_,_=>by lia
 |m+1,n,[],_,_,_,_,_=>by have⟨h1,h2⟩:=kz7 n;refine⟨[(0,0,1)],kv4,h1,h2,?_⟩;have B:=Ep n [];generalize Ah n []=W at *;refine Az (Jw ((Lq (by simp[Af,B])).trans (Ax ?_)));simp[Ga,Ua,trD]
 |m+1,n,e::ts,H,h9,v,K,h=>by
  have w:ts.length<m:=by simpa using H
  have A:ts.length+1<=9:=by simpa using h9
  have F:∀f∈ts,f.1<=f.2/\f.2<n:=λf Y=>h f (IK _ Y);have J:InW n (e::ts):=Vb h;have Z:(e::ts)[0]? = some e:=rfl;have ed:del (e::ts) 0=ts:=by simp[del]
  have B:=Ep n (e::ts);have e1:=X3 (n:=n) (ts:=e::ts) (t:=0) (by simp) (by simp;lia);have e2:=ko7 (n:=n) (ts:=e::ts) (t:=0) v Z (by simp;lia);have I:=kx9 (n:=n) (ts:=e::ts) (t:=0) K h Z;have⟨b,e4,e5⟩:=we6 (n:=n) (ts:=e::ts) (t:=0) K (by simp;lia) h Z;rw[ed]at e1 e2 e5;have G:Ab [0]=.tup [.int 0]:=rfl;rw[G]at I e4;have f1:Fj [Ah n (e::ts),.int 0]=.ok (Ah n ts):=e1;have f2:Jd [Ah n (e::ts),.int 0]=.ok (if e.1=e.2 then Ah n ts else Ah (n - 1) (ts.map (ct e.1 e.2))):=e2;clear e1 e2;have l0:Eo [.tup ((e::ts).map Bd)]=some (.int ((ts.length:Int)+1)):=by show some (D.int _)=_;rw[GP,MJ];rfl
  have E:Hk [.int 0]=some (.tup [.int 0]):=Ga (by simp);have pre:∀{r:R Fl}{W:D},ixD W (.int 1)=some (.tup ((e::ts).map Bd))->(sq (ifS (tt (cl (zv (gv 0) (zv (bA (zv (kd (.int 0)) a0) Hk) a0)) Fi)) (Jt (cl (zv (cl (zv (cl (zv (gv 0) (zv (kd (.int 0)) a0)) Fj) a0) (Cu m)) (zv (bA (zv (bA (zv (kd (.int 0)) (zv (kd (.int 1)) (zv (kd (.int 1)) a0))) Hk) a0) Wu) a0)) Cr)) nop)
    (sq (ifS (tt (cl (zv (gv 0) (zv (bA (zv (kd (.int 0)) a0) Hk) a0)) Kh)) (Jt (cl (zv (cl (zv (cl (zv (gv 0) (zv (kd (.int 0)) a0)) Jd) a0) (Cu m)) (zv (bA (zv (bA (zv (kd (.int 1)) (zv (kd (.int 0)) (zv (kd (.int 1)) a0))) Hk) a0) Wu) a0)) Cr)) nop)
    (Jt (cl (zv (cl (zv (cl (zv (gv 0) (zv (kd (.int 0)) a0)) Fj) a0) (Cu m)) (zv (cl (zv (cl (zv (gv 0) (zv (kd (.int 0)) a0)) Jd) a0) (Cu m)) a0)) Rb)))) [some W]=r->Wh (Cu m) [some W]=r:=λ{r W} hW o=>by
   refine Al ((Hb ?_).trans rfl) o;rw[fM,cA,Rf,Pu,cA];simp only[gv0,rK,R.ok_bind,hW,R.of_some,iR,l0,m_,uW];have hz:¬ ((ts.length:Int)+1=0):=by lia
   simp[hz]
  obtain⟨a,c⟩:=e;have ae:a<=c:=(h (a,c) JK).1;have ab:c<n:=(h (a,c) JK).2;by_cases l:a=c
  ·subst l;obtain⟨T,_,u,P,O⟩:=Mm m w (by lia) v K F;have Q:=G9.sml (by lia) u;have⟨U,u1,u2⟩:=Qa (S:=T) (T:=[(0,1,1)]) (λr o=>by have:=Q r o;lia) (by have:=u.few;simp;lia) (by simp) (YM (U3 λr o=>by
    rw[Pr]at o;obtain⟨s,G,rfl⟩:=HX.mp o;have:=u.pos s G;dsimp only;lia) (by decide))
   have⟨v1,C⟩:=kk0 u A P J u1.1;refine⟨U,u1.nice,v1,C,Az (pre B ?_)⟩;have u2:Cr [.lst (T.map trD),.lst [trD (0,1,1)]]=.ok (.lst (U.map trD)):=u2;have M:Fi [Ah n ((a,a)::ts),.tup [.int 0]]=.ok (.bl true):=by rw[I];simp
   clear I f2;generalize Ah n ((a,a)::ts)=W at *;generalize Ah n ts=W',T.map trD=TD at *;refine Jw ((Lq (by simp[E,M])).trans (Ax ?_));simp[f1,O,Ga,Ua,tr1,u2]
  ·have p:a<c:=by lia
   have M:Fi [Ah n ((a,c)::ts),.tup [.int 0]]=.ok (.bl false):=by rw[I];simp[l]
   have f4:Jd [Ah n ((a,c)::ts),.int 0]=.ok (Ah (n - 1) (ts.map (ct a c))):=by rw[f2,if_neg l]
   clear I f2;have aa:∀f∈ts.map (ct a c),f.1<=f.2/\f.2<n - 1:=λf Y=>by obtain⟨g,hg,rfl⟩:=HX.mp Y;have:=nG p ab (Bg.mp J).2 (ct a c g) (HX.mpr ⟨g,hg,rfl⟩);refine⟨?_,this.2⟩;unfold ct;dsimp only;lia
   obtain⟨V,_,q,x2,x3⟩:=Mm m (n:=n - 1) (ts:=ts.map (ct a c)) (by rw[GP];exact w) (by rw[GP];lia) (by lia) (by lia) aa;rw[GP]at q;by_cases L:Ay ts a c
   ·have hb:b=false:=by
     cases b with
     |false=>rfl
     |true=>exact absurd L (e5.mp rfl)
    subst hb;obtain⟨T,_,u,P,O⟩:=Mm m w (by lia) v K F;have⟨U,u1,u2⟩:=km1 (S:=T) (T:=V) (by have:=u.few;lia) (by have:=q.few;lia) (YM (U3 λr o=>by
     rcases KC.mp o with z |z
     ·have:=u.pos r z;lia
     ·have:=q.pos r z;lia) (by decide))
    have⟨v1,C⟩:=kj9 p u q A P x2 J L u1.1;refine⟨U,u1.nice,v1,C,Az (pre B ?_)⟩;generalize Ah n ((a,c)::ts)=W at *;generalize Ah n ts=W',Ah (n - 1) (ts.map (ct a c))=W2,T.map trD=TD,V.map trD=VD at *;refine Al ((Hb (by simp[E,M])).trans rfl) (Al ((Hb (by simp[E,e4])).trans rfl) (Ax ?_));simp[f1,f4,O,x3,u2]
   ·have hb:b=true:=e5.mpr L;subst hb;have Q:=G9.sml (by lia) q;have⟨U,u1,u2⟩:=Qa (S:=V) (T:=[(1,0,1)]) (λr o=>by have:=Q r o;lia) (by have:=q.few;simp;lia) (by simp) (YM (U3 λr o=>by
     rw[Pr]at o;obtain⟨s,G,rfl⟩:=HX.mp o;have:=q.pos s G;dsimp only;lia) (by decide))
    have⟨v1,C⟩:=kz6 p q A x2 J L u1.1;refine⟨U,u1.nice,v1,C,Az (pre B ?_)⟩;have u2:Cr [.lst (V.map trD),.lst [trD (1,0,1)]]=.ok (.lst (U.map trD)):=u2;generalize Ah n ((a,c)::ts)=W at *;generalize Ah (n - 1) (ts.map (ct a c))=W2,V.map trD=VD at *;refine Al ((Hb (by simp[E,M])).trans rfl) (Jw ((Lq (by simp[E,e4])).trans (Ax ?_)));simp[f4,x3,Ga,Ua,tr1,u2]
def table_eq(m:Nat)(l:ts.length<m)(h:ts.length<=9)(g:1<=n)(c:n<=60)(a:∀e∈ts,e.1<=e.2/\e.2<n):
  ∃T,G9 ts.length T/\(∀x y,(T.map (val x y)).sum=SS n ts (x - 1) (y - 1))/\Cu m [Ah n ts]=.ok (.lst (T.map trD)):=by
 have⟨T,_,t⟩:=Mm m l h g c a;exact⟨T,t⟩
theorem G9.tr(c:m<=9)(h:G9 m T):∀r∈T,iU r:=λr a=>by have l:=h.pos r a;have g:=G9.sml c h r a;exact⟨by lia,by lia,by lia,by lia,by lia,by lia⟩
def vQ{B:Nat}:∀{l:List Int},(∀z∈l,z.natAbs<=B)->l.sum.natAbs<=l.length * B
 | [],_=>by simp
 |a::l,h=>by have o:=h a JK;have g:=vQ (l:=l) λz c=>h z (IK _ c);rw[OJ,MJ,kY];exact PL (Int.natAbs_add_le a l.sum) (PL (Nat.add_le_add o g) (pQ (gJ _ _)))
def yb0:55 * (1099511627776 * 1099511627776 ^ 9 * 1099511627776 ^ 9)<2 ^ 2048:=by decide +kernel
theorem wm2(u:ts.length<=9)(q:1<=n)(A:n<=60)(h:∀e∈ts,e.1<=e.2/\e.2<n):
  ∃v,Vw [Ah n ts]=.ok v/\(∀x y:Int,x.natAbs<=1099511627776->y.natAbs<=1099511627776->pF [v,.int x,.int y]=.ok (.int (SS n ts (x - 1) (y - 1))))/\(∀x y:Int,0<=x->0<=y->0<=SS n ts (x - 1) (y - 1)) /\
   ∀x y:Int,x.natAbs<=1099511627776->y.natAbs<=1099511627776->(SS n ts (x - 1) (y - 1)).natAbs<2 ^ 2048:=by
 have⟨T,a,o,w⟩:=table_eq 12 (by lia) u q A h;refine⟨.lst (T.map trD),w,λx y g c=>?_,λx y g c=>?_,λx y g c=>?_⟩
 ·rw[wb3 g c (G9.tr u a) (by have:=a.few;lia),o]
 ·rw[<-o];refine Qx λz p=>?_;obtain⟨r,l,rfl⟩:=HX.mp p;unfold val;exact Int.mul_nonneg (Int.mul_nonneg (a.tim r l) (p7 g)) (p7 c)
 ·rw[<-o];refine YM (vQ (B:=1099511627776 * 1099511627776 ^ 9 * 1099511627776 ^ 9) λz p=>?_) (YM (jHg _ (by rw[GP];exact a.few)) yb0);obtain⟨r,l,rfl⟩:=HX.mp p;have E:=a.pos r l;have C:=G9.sml u a r l;unfold val;rw[pZ,pZ];exact pY (pY (by lia) (cZ g (by lia))) (cZ c (by lia))
structure Wb(n:Nat)(ts:Ae):Prop where
 n1:1<=n
 n6:n<=6
 l9:ts.length<=9
 tie:∀e∈ts,e.1<=e.2/\e.2<n
def uU{a b:Int}(h:-(2 ^ 64)<b)(c:b<2 ^ 64):Hh (.int a) (.int b)=some (.int (a * b)):=by show(if _ then _ else _)=_;rw[if_pos (.inr (.inl ⟨h,c⟩))]
variable {H:Int}
theorem jj4(h:1<=H):Dj [.int H]=.ok .non:=by have e:Gb (Af 1 [.int H])=.ok (.nx (Af 1 [.int H])):=(Hb (by simp[Af];lia)).trans rfl;show Cq 1 Gb _=_;rw[j_,e,uX]
theorem kr2(w:Wb n ts)(u:1<=H)(G:H<=100000000000):De [Ah n ts,.int H]=.ok (.int (Flw n ts H)):=by
 have⟨I,B,A,_,_⟩:=wm2 w.l9 w.n1 (by have:=w.n6;lia) w.tie;have C:=all_eq n ts (by have:=w.l9;lia);have a:=Ma (n:=n) (ts:=ts) (s:=List.range ts.length) (by have:=w.n6;lia) w.tie λk o=>H_.mp o;have q:(Bs n (pick ts (List.range ts.length))).length=cc n ts:=by rw[zY];rfl
 rw[q]at a;have p:=jj4 u;have g:=A 0 (1 - H) (by decide) (by lia);have v:SS n ts (0 - 1) (1 - H - 1)=SS n ts (-1) (-H):=by rw[show(1 - H - 1:Int) = -H by lia,show(0 - 1:Int) = -1 by decide]
 rw[v]at g;have F:=Ra n ts (Vb w.tie);have ls:Eo [Ab (List.range ts.length)]=some (.int (ts.length:Nat)):=by show some (D.int _)=_;rw[Ba,QK]
 have h:Gk (.int ((ts.length:Int) - ((n:Int) - (cc n ts:Nat)))) (.int 2)=some (.int (((ts.length:Int) - ((n:Int) - (cc n ts:Nat))) % 2)):=Kl (by decide);have y:∀z:Int,dB (.int z)=some (.int (-z)):=λz=>rfl;unfold Flw sg;generalize Ah n ts=W,Ab (List.range ts.length)=E,SS n ts (-1) (-H)=Z at *;refine Az (Al (ρ1:=[some W,some (.int H),none,none]) (by simp[Af,p]) (Al (ρ1:=[some W,some (.int H),some E,none]) (Aw (d:=E) (by simp[C])) (Al (ρ1:=[some W,some (.int H),some E,some (.int Z)]) (Aw (d:=.int Z) (by simp[B,g])) (Ax ?_))));by_cases l:(ts.length+cc n ts - n) % 2=0
 ·have c:((ts.length:Int) - ((n:Int) - (cc n ts:Nat))) % 2=0:=by lia
  rw[if_pos l];simp[ls,a,h,c]
 ·have c:¬ ((ts.length:Int) - ((n:Int) - (cc n ts:Nat))) % 2=0:=by lia
  rw[if_neg l];simp[ls,a,h,c,y]
theorem cell_eq(ns:List Int)(k:Nat):Ed [.lst (ns.map .int),.int (k:Int)]=.ok (.int (ns.getD k 0)):=by
 refine Az (Ax ?_);by_cases c:k<ns.length
 ·have g:ixD (.lst (ns.map .int)) (.int (k:Int))=some (.int (ns.getD k 0)):=V2 (i:=k) (by simp[c]);generalize ns.getD k 0=z at *;simp[Af,c,g]
 ·have h:ns.getD k 0=0:=by rw[O_,aD (by lia)];rfl
  rw[h];have a:¬ k<ns.length:=c;simp[Af,a]
theorem U5(c s:Int)(y:0<=s)(v:s<=100)(m:Nat)(z:0<m):∃r:Nat,r<m/\Fg [.int c,.int s,.int (m:Int)]=.ok (.int (r:Int)):=by have u:Hh (.int 271) (.int s)=some (.int (271 * s)):=j8 (by decide) (by decide);have q:Hh (.int (c+271 * s)) (.int 40503)=some (.int ((c+271 * s) * 40503)):=uU (by decide) (by decide);have p:Gk (.int ((c+271 * s) * 40503)) (.int 1000081)=some (.int ((c+271 * s) * 40503 % 1000081)):=Kl (by decide);generalize (c+271 * s) * 40503 % 1000081=A at *;have o:Hv (.int c) (.int 997)=some (.int (c / 997)):=Qh (by decide) (by decide);have l:Hh (.int (A+c / 997+s)) (.int 30011)=some (.int ((A+c / 997+s) * 30011)):=uU (by decide) (by decide);have h:Gk (.int ((A+c / 997+s) * 30011)) (.int 999671)=some (.int ((A+c / 997+s) * 30011 % 999671)):=Kl (by decide);generalize (A+c / 997+s) * 30011 % 999671=B at *;have g:Hv (.int B) (.int 3)=some (.int (B / 3)):=Qh (by decide) (by decide);have b1:=bD (B / 3) (b:=(m:Int)) (by lia);have w:=bJ (B / 3) (b:=(m:Int)) (by lia);have a:Gk (.int (B / 3)) (.int (m:Int))=some (.int (B / 3 % m)):=Kl (by lia);refine⟨(B / 3 % (m:Int)).toNat,by lia,Az (Al (ρ1:=[some (.int c),some (.int s),some (.int (m:Int)),some (.int A)]) (Aw (d:=.int A) (by simp[Af,u,q,p])) (Al (ρ1:=[some (.int c),some (.int s),some (.int (m:Int)),some (.int B)]) (Aw (d:=.int B) (by simp[o,l,h])) (Ax ?_)))⟩;rw[aC b1];simp[g,a]
theorem uP(m:Nat)(l:1<=m)(u v:Int)(h:0<=u)(c:u<m)(g:0<=v)(a:v<m):∃e:Nat×Nat,e.1<=e.2/\e.2<m/\D.tup [.int (min u v),.int (max u v)]=Bd e:=by refine⟨((min u v).toNat,(max u v).toNat),by simp;lia,by simp;lia,?_⟩;simp only[Bd];rw[aC (by lia),aC (by lia)]
def dgB:Ev->R Fl:=(sq (asg 5 (b2 (gv 0) (gv 1) Gk))
 (sq (asg 0 (b2 (gv 0) (gv 1) Hv))
 (sq (dJ 3 (bA (zv (bA (zv (gv 5) (zv (b2 (gv 0) (gv 1) Gk) a0)) minD) (zv (bA (zv (gv 5) (zv (b2 (gv 0) (gv 1) Gk) a0)) maxD) a0)) Hk))
 (asg 0 (b2 (gv 0) (gv 1) Hv)))))
variable {o2 o4 o5:Option D}
theorem we8{z:Int}(p:1<=m)(o:m<=100)(hl:ts.length<100):∃(g:Int)(e:Nat×Nat)(h:Option D),e.1<=e.2/\e.2<m /\
  dgB [some (.int z),some (.int (m:Int)),o2,some (.lst (ts.map Bd)),o4,o5]=.ok (.nx [some (.int g),some (.int (m:Int)),o2,some (.lst ((ts++[e]).map Bd)),o4,h]):=by
 have c:∀z:Int,Hv (.int z) (.int (m:Int))=some (.int (z / m)):=λz=>Qh (by lia) (by lia);have a:∀z:Int,Gk (.int z) (.int (m:Int))=some (.int (z % m)):=λz=>Kl (by lia);have⟨e,w,v,u⟩:=uP m p (z % m) (z / m % m) (bD _ (by lia)) (bJ _ (by lia)) (bD _ (by lia)) (bJ _ (by lia));refine⟨z / m / m,e,some (.int (z % m)),w,v,?_⟩;have q:dgB [some (.int z),some (.int (m:Int)),o2,some (.lst (ts.map Bd)),o4,o5]=.ok (.nx [some (.int (z / m / m)),some (.int (m:Int)),o2,some (.lst (ts.map Bd++[Bd e])),o4,some (.int (z % m))]):=by
  have l:(ts.map Bd).length<16777216:=by rw[GP];lia
  generalize ts.map Bd=TS at *;exact Al (Aw (d:=.int (z % m)) (by simp[a])) (Al (Aw (d:=.int (z / m)) (by simp[c])) (Al (tK (ds:=TS) (x:=Bd e) rfl (by simp[a,Ga,u]) l) ((Aw (d:=.int (z / m / m)) (by simp[c])).trans rfl)))
 rw[q,QQ];rfl
theorem kf7(z:Int)(m k:Nat)(B:1<=m)(q:m<=100)(M:k<=50):∃(ts:Ae)(a:Int),ts.length=k/\(∀e∈ts,e.1<=e.2/\e.2<m)/\Kg [.int z,.int (m:Int),.int (k:Int)]=.ok (.tup [.lst (ts.map Bd),.int a]):=by
 have⟨y,F,h⟩:=Hf (g:=gN 4) (b:=dgB) (I:=λj ρ=>j<=k->∃(ts:Ae)(a:Int)(o l:Option D),ts.length=j/\(∀e∈ts,e.1<=e.2/\e.2<m)/\ρ=[some (.int a),some (.int (m:Int)),some (.int (k:Int)),some (.lst (ts.map Bd)),o,l])
  (Ac (List.range k)) 0 [some (.int z),some (.int (m:Int)),some (.int (k:Int)),some (.lst []),none,none] (λ_=>⟨[],z,none,none,rfl,by simp,rfl⟩) (λi d ρ c h=>by
   rw[G4]at c;cases v:(List.range k)[i]? with
   |none=>rw[v]at c;cases c
   |some j =>
    rw[v]at c;cases c;have⟨E,w⟩:=LR.mp v;simp at w E;subst w;rw[WM]at h ⊢;obtain⟨ts,a,o,l,u,p,rfl⟩:=h (by lia);have⟨A,e,L,K,J,G⟩:=we8 (z:=a) (m:=m) (o2:=some (.int (k:Int))) (o4:=some (.int (i:Int))) (o5:=l) (ts:=ts) B q (by lia);refine⟨_,_,fO,.inl G,λ_=>⟨ts++[e],A,_,_,by simp[u],λf C=>?_,rfl⟩⟩;rcases KC.mp C with z |z
    ·exact p f z
    ·rw[JG.mp z];exact⟨K,J⟩)
 rw[Ba,QK,WM]at h;obtain⟨ts,a,o,l,u,p,rfl⟩:=h (F_ _);refine⟨ts,a,u,p,Az (Al (Aw (d:=.lst []) (by simp[Ua])) (Al (Ny (ds:=Ac (List.range k)) (by simp[Af,V4 (n:=k) (by lia)]) F) (Ax ?_)))⟩;generalize ts.map Bd=TS at *;simp[Ga]
def ceB:Ev->R Fl:=(sq (asg 6 (cl (zv (gv 0) (zv (b2 (gv 1) (gv 5) Dg) a0)) Ed))
 (sq (asg 7 (cl (zv (gv 6) (zv (kd (.int 3)) (zv (gv 2) a0))) Fg))
 (sq (asg 8 (cl (zv (gv 6) (zv (kd (.int 5)) (zv (gv 2) a0))) Fg))
 (dJ 4 (bA (zv (bA (zv (gv 7) (zv (gv 8) a0)) minD) (zv (bA (zv (gv 7) (zv (gv 8) a0)) maxD) a0)) Hk)))))
variable {o6 o7:Option D}
theorem we3{ns:List Int}{at_:Nat}{o3 o8:Option D}(q:1<=m)(hl:ts.length<100):∃(e:Nat×Nat)(o l h:Option D),e.1<=e.2/\e.2<m /\
  ceB [some (.lst (ns.map .int)),some (.int (at_:Int)),some (.int (m:Int)),o3,some (.lst (ts.map Bd)),some (.int (i:Int)),o6,o7,o8]=.ok (.nx [some (.lst (ns.map .int)),some (.int (at_:Int)),some (.int (m:Int)),o3,some (.lst ((ts++[e]).map Bd)),some (.int (i:Int)),o,l,h]):=by
 have a:=cell_eq ns (at_+i);rw[show((at_+i:Nat):Int)=(at_:Int)+(i:Int) by lia]at a;generalize ns.getD (at_+i) 0=c,ns.map D.int=g at *;have⟨u,F,z⟩:=U5 c 3 (by decide) (by decide) m (by lia);have⟨v,E,y⟩:=U5 c 5 (by decide) (by decide) m (by lia);have⟨e,C,B,A⟩:=uP m q (u:Int) (v:Int) (by lia) (by lia) (by lia) (by lia);refine⟨e,some (.int c),some (.int (u:Int)),some (.int (v:Int)),C,B,?_⟩;have w:ceB [some (.lst g),some (.int (at_:Int)),some (.int (m:Int)),o3,some (.lst (ts.map Bd)),some (.int (i:Int)),o6,o7,o8]=.ok (.nx [some (.lst g),some (.int (at_:Int)),some (.int (m:Int)),o3,some (.lst (ts.map Bd++[Bd e])),some (.int (i:Int)),some (.int c),some (.int (u:Int)),some (.int (v:Int))]):=by
  have p:(ts.map Bd).length<16777216:=by rw[GP];lia
  generalize ts.map Bd=TS at *;exact Al (Aw (d:=.int c) (by simp[a])) (Al (Aw (d:=.int (u:Int)) (by simp[z])) (Al (Aw (d:=.int (v:Int)) (by simp[y])) ((tK (ds:=TS) (x:=Bd e) rfl (by simp[Ga,A]) p).trans rfl)))
 rw[w,QQ];rfl
theorem kn6(ns:List Int)(at_ m k:Nat)(A:1<=m)(O:k<=50):∃ts:Ae,ts.length=k/\(∀e∈ts,e.1<=e.2/\e.2<m)/\Ho [.lst (ns.map .int),.int (at_:Int),.int (m:Int),.int (k:Int)]=.ok (.lst (ts.map Bd)):=by
 obtain⟨y,E,c⟩:=Hf (g:=gN 5) (b:=ceB) (I:=λj ρ=>j<=k->∃(ts:Ae)(p o l h:Option D),ts.length=j/\(∀e∈ts,e.1<=e.2/\e.2<m)/\ρ=[some (.lst (ns.map .int)),some (.int (at_:Int)),some (.int (m:Int)),some (.int (k:Int)),some (.lst (ts.map Bd)),p,o,l,h])
  (Ac (List.range k)) 0 [some (.lst (ns.map .int)),some (.int (at_:Int)),some (.int (m:Int)),some (.int (k:Int)),some (.lst []),none,none,none,none] (λ_=>⟨[],none,none,none,none,rfl,by simp,rfl⟩) (λi d ρ a c=>by
   rw[G4]at a;cases v:(List.range k)[i]? with
   |none=>rw[v]at a;cases a
   |some j =>
    rw[v]at a;cases a;obtain⟨C,w⟩:=LR.mp v;simp at w C;subst w;rw[WM]at c ⊢;obtain⟨ts,p,o,l,h,u,q,rfl⟩:=c (by lia);obtain⟨e,M,L,K,J,G,F⟩:=we3 (ns:=ns) (at_:=at_) (i:=i) (m:=m) (o3:=some (.int (k:Int))) (o6:=o) (o7:=l) (o8:=h) (ts:=ts) A (by lia);refine⟨_,_,fO,.inl F,λ_=>⟨ts++[e],_,_,_,_,by simp[u],λf B=>?_,rfl⟩⟩;rcases KC.mp B with z |z
    ·exact q f z
    ·rw[JG.mp z];exact⟨J,G⟩)
 rw[Ba,QK,WM]at c;obtain⟨ts,p,o,l,h,u,q,rfl⟩:=c (F_ _);refine⟨ts,u,q,Az (Al (Aw (d:=.lst []) (by simp[Ua])) (Al (Ny (ds:=Ac (List.range k)) (by simp[Af,V4 (n:=k) (by lia)]) E) (Ax (by simp))))⟩
theorem wh3(ns:List Int):∃n ts,Wb n ts/\n<=6/\ts.length<=9/\Vu [.lst (ns.map .int),.int 6,.int 9]=.ok (Ah n ts):=by
 have E:Ed [.lst (ns.map .int),.int 1]=.ok (.int (ns.getD 1 0)):=cell_eq ns 1;have P:Ed [.lst (ns.map .int),.int 0]=.ok (.int (ns.getD 0 0)):=cell_eq ns 0;have B:b7 (.int 10) (.int 18)=some (.int 1000000000000000000):=ye1 (by decide);have y:=λm k L p=>kn6 ns 2 m k L p;generalize ns.getD 1 0=z,ns.getD 0 0=A,ns.map D.int=g at *;have mk:∀(n:Nat)(ts:Ae),Hk [.int (n:Int),.tup (ts.map Bd)]=some (Ah n ts):=λn ts=>Ga (by simp);by_cases h:0<=z/\z<1000000000000000000
 ·have⟨a,Z,w⟩:=U5 z 1 (by decide) (by decide) 6 (by decide);have⟨b,Y,v⟩:=U5 A 2 (by decide) (by decide) 10 (by decide);have⟨ts,M,o,l⟩:=y (1+a) b (by lia) (by lia);refine⟨1+a,ts,⟨by lia,by lia,by lia,o⟩,by lia,by lia,?_⟩;have w:Fg [.int z,.int 1,.int 6]=.ok (.int (a:Int)):=w;have v:Fg [.int A,.int 2,.int 10]=.ok (.int (b:Int)):=v;have C:((1+a:Nat):Int)=1+(a:Int):=by lia
  have l:Ho [.lst g,.int 2,.int (1+(a:Int)),.int (b:Int)]=.ok (.lst (ts.map Bd)):=by rw[<-C];exact l
  have mk':=mk (1+a) ts;rw[C]at mk';generalize Ah (1+a) ts=W,ts.map Bd=TS at *;refine Az (Al (ρ1:=[some (.lst g),some (.int 6),some (.int 9),some (.int z),none,none]) (Aw (d:=.int z) (by simp[Af,E])) (Al ((Hb ?_).trans rfl) (Al (ρ1:=[some (.lst g),some (.int 6),some (.int 9),some (.int z),some (.int (1+(a:Int))),none]) (Aw (d:=.int (1+(a:Int))) (by simp[w])) (Al (ρ1:=[some (.lst g),some (.int 6),some (.int 9),some (.int z),some (.int (1+(a:Int))),some (.int (b:Int))]) (Aw (d:=.int (b:Int)) (by simp[P,v])) (Ax ?_)))))
  ·have c:ch (kd (.int 0)) (gv 3) (b2 (kd (.int 10)) (kd (.int 18)) b7) leD ltD [some (.lst g),some (.int 6),some (.int 9),some (.int z),none,none]=.ok (.bl true):=by unfold ch;simp[B,h.1,h.2]
   rw[mL,fM,c];simp
  ·simp[l,mk']
 ·have b1:=bD z (b:=6) (by decide);have Q:=bJ z (b:=6) (by decide);have b3:=bD (z / 6) (b:=10) (by decide);have b4:=bJ (z / 6) (b:=10) (by decide);obtain⟨n,K⟩:∃n:Nat,(n:Int)=1+z % 6:=⟨(1+z % 6).toNat,by lia⟩;obtain⟨k,p⟩:∃k:Nat,(k:Int)=z / 6 % 10:=⟨(z / 6 % 10).toNat,by lia⟩;have J:Gk (.int z) (.int 6)=some (.int (z % 6)):=Kl (by decide);have I:Hv (.int z) (.int 6)=some (.int (z / 6)):=Qh (by decide) (by decide);have G:Gk (.int (z / 6)) (.int 10)=some (.int (k:Int)):=by rw[p];exact Kl (by decide)
  have F:Hv (.int (z / 6)) (.int 10)=some (.int (z / 6 / 10)):=Qh (by decide) (by decide);have⟨ts,U,M,o,l⟩:=kf7 (z / 6 / 10) n k (by lia) (by lia) (by lia);refine⟨n,ts,⟨by lia,by lia,by lia,o⟩,by lia,by lia,?_⟩;have mk':=mk n ts;generalize Ah n ts=W,ts.map Bd=TS at *;refine Az (Al (ρ1:=[some (.lst g),some (.int 6),some (.int 9),some (.int z),none,none]) (Aw (d:=.int z) (by simp[Af,E])) (Jw ((Lq ?_).trans (Al (ρ1:=[some (.lst g),some (.int 6),some (.int 9),some (.int z),some (.int (n:Int)),none]) (Aw (d:=.int (n:Int)) (by simp[J,K])) (Al (ρ1:=[some (.lst g),some (.int 6),some (.int 9),some (.int (z / 6)),some (.int (n:Int)),none]) (Aw (d:=.int (z / 6)) (by simp[I])) (Al (ρ1:=[some (.lst g),some (.int 6),some (.int 9),some (.int (z / 6)),some (.int (n:Int)),some (.int (k:Int))]) (Aw (d:=.int (k:Int)) (by simp[G])) (Ax ?_)))))))
  ·have c:ch (kd (.int 0)) (gv 3) (b2 (kd (.int 10)) (kd (.int 18)) b7) leD ltD [some (.lst g),some (.int 6),some (.int 9),some (.int z),none,none]=.ok (.bl false):=by
    unfold ch;by_cases u:0<=z
    ·have O:¬ z<1000000000000000000:=λq=>h ⟨u,q⟩;simp[B,u,O]
    ·simp[u]
   rw[mL,fM,c];simp
  ·simp[F,l,mk']
def mZ(c:n<=60)(h:∀e∈ts,e.1<=e.2/\e.2<n)(a:Kn ts s):Jo [Ah n ts,Ab s]=.ok (.int ((n:Int) - (cN n ts s:Nat))):=Ma c h a
variable {it:Ev->R (List D)}{caps:List Nat}
theorem Ku{p:Nat->Bool}{t:Ev->R Bool}{B:Ev}(hi:it ρ=.ok (Ac s))(g:Hn 1 caps ρ=none::B)(c:∀x∈s,t (some (.int (x:Int))::B)=.ok (p x))(hl:s.length<=100000):Bo it 1 caps (gN 0) t (gv 0) ρ=.ok (.lst (Ac (s.filter p))):=by refine Ci (ds:=Ac s) hi ?_ (by rw[Ba];exact PL (WR _ _) (by lia));rw[g];unfold Ac;exact O1 s λx a=>⟨c x a,by simp⟩
theorem uF(x k:Nat):neD (.int (x:Int)) (.int (k:Int))=some (.bl (decide (x≠k))):=by
 rw[yd9];refine congrArg (λz=>some (D.bl z)) ?_;by_cases h:x=k
 ·subst h;simp
 ·have:¬ (x:Int)=(k:Int):=by lia
  simp[h,this]
theorem wh2(hl:s.length<=1000):Li [Ab s,.int (k:Int)]=.ok (Ab (wo s k)):=by
 have c:Bo (itS (gv 0)) 1 [1] (gN 0) (tb (b2 (gv 0) (gv 1) neD)) (gv 0) [some (Ab s),some (.int (k:Int))]=.ok (.lst (Ac (wo s k))):=
  Ku (B:=[some (.int (k:Int))]) (by simp[Ab]) rfl (λx _=>by simp only[fM,cA,gv0,rF,R.ok_bind,uF,R.of_some,uW]) (by lia)
 refine Az (Ax ?_);show bA _ _ [some (Ab s),some (.int (k:Int))]=_;rw[Rf,Pu,c];simp[Ab]
def kv5{s:List Nat}{x:Nat}:aO (.int (x:Int)) (Ab s)=some (.bl (!decide (x∈s))):=z6 (l:=s) rfl decide_eq_true_iff
variable {F:List Nat}
theorem wv4(hl:ts.length<=50):Tc [Ah n ts,Ab F]=.ok (Ab (restOf ts.length F)):=by
 have h:=all_eq n ts hl;have g:=@kv5 F;have c:Bo (itS (cl (zv (gv 0) a0) Qg)) 1 [1] (gN 0) (tb (b2 (gv 0) (gv 1) aO)) (gv 0) [some (Ah n ts),some (Ab F)]=.ok (.lst (Ac (restOf ts.length F))):=by
  refine Ku (s:=List.range ts.length) (B:=[some (Ab F)]) ?_ rfl (λx _=>?_) (by rw[QK];lia)
  ·have a:Gv (Ab (List.range ts.length))=some (Ac (List.range ts.length)):=rfl;generalize Ab (List.range ts.length)=l,Ah n ts=W at *;simp[h,a]
  ·have:=g (x:=x);generalize Ab F=o at *;simp[this]
 refine Az (Ax ?_);show bA _ _ [some (Ah n ts),some (Ab F)]=_;rw[Rf,Pu,c];simp[Ab]
structure For(n:Nat)(ts:Ae)(F:List Nat):Prop where
 up:F.Pairwise (·<·)
 fo:Vc n ts F
def kj0(ts:Ae):Bm ts (List.range ts.length)=ts:=by
 unfold Bm;apply bI
 ·simp
 ·intro i c a;simp[a]
def js9:k∈restOf m F↔k<m/\k∉F:=by unfold restOf;rw[MF,H_];simp
def mo(m:Nat)(F:List Nat)(t:Nat):List Nat:=(List.range m).filter λk=>decide (k∈F) ||decide (k=t)
def Tj{t:Nat}:k∈mo m F t↔k<m/\(k∈F\/k=t):=by unfold mo;rw[MF,H_,bG,decide_eq_true_iff,decide_eq_true_iff]
def Gp(n:Nat)(ts:Ae)(F:List Nat)(t:Nat):List Nat:=(mo ts.length F t).filter λo=>decide (cN n ts (wo (mo ts.length F t) o)+F.length=n)
theorem we7{c l:Nat}:decide ((n:Int) - (c:Nat)=((l:Nat):Int))=decide (c+l=n):=by rw[decide_eq_decide];lia
def uI(m:Nat)(F:List Nat)(t:Nat):(mo m F t).length<=m:=by have:=WR (λk=>decide (k∈F) ||decide (k=t)) (List.range m);rw[QK]at this;exact this
def uJ(h:Kn ts s)(a:s.Nodup):s.length<=ts.length:=by have:=Pb a (m:=List.range ts.length) λk c=>H_.mpr (h k c);rwa [QK]at this
theorem je9{t:Nat}(O:n<=50)(hl:ts.length<=50)(h:∀e∈ts,e.1<=e.2/\e.2<n)(g:For n ts F)(A:t<ts.length)(o:t∉F):Nq [Ah n ts,Ab F,.int (t:Int)]=.ok (Ab (Gp n ts F t)):=by
 have I:=uJ g.fo.kn g.fo.nd;have L:Dg (Ab F) (.tup [.int (t:Int)])=some (Ab (F++[t])):=(V1 (by rw[Ba];simp;lia)).trans (by unfold Ab Ac;rw[QQ];rfl);have w:Fd [Ab (F++[t])]=some (.lst (Ac (mo ts.length F t))):=jm9 (l:=F++[t]) (by simp;lia) (gY.mpr ⟨g.fo.nd,by simp,λa G b E e=>o (by rw[JG.mp E]at e;exact e ▸ G)⟩) (List.Pairwise.filter _ eG) (λk=>by
  show k∈F++[t]↔k∈mo ts.length F t;rw[Tj,KC,JG];constructor
  ·rintro(z |rfl)
   ·exact⟨g.fo.kn k z,.inl z⟩
   ·exact⟨A,.inr rfl⟩
  ·exact λz=>z.2) rfl
 have y:Eo [Ab F]=some (.int (F.length:Nat)):=by show some (D.int _)=_;rw[Ba]
 have c:Bo (itS (gv 3)) 1 [0,3,1] (gN 0) (tb (b2 (cl (zv (gv 1) (zv (cl (zv (gv 2) (zv (gv 0) a0)) Li) a0)) Jo) (bA (zv (gv 3) a0) Eo) eqD)) (gv 0) [some (Ah n ts),some (Ab F),some (.int (t:Int)),some (Ab (mo ts.length F t))]=.ok (.lst (Ac (Gp n ts F t))):=by refine Ku (s:=mo ts.length F t) (B:=[some (Ah n ts),some (Ab (mo ts.length F t)),some (Ab F)]) (by simp[Ab]) rfl (λx _=>?_) (by have:=uI ts.length F t;lia);have K:=wh2 (s:=mo ts.length F t) (k:=x) (by have:=uI ts.length F t;lia);have J:=mZ (n:=n) (ts:=ts) (s:=wo (mo ts.length F t) x) (by lia) h λk C=>(Tj.mp (Ce.mp C).1).1;generalize Ab (wo (mo ts.length F t) x)=P,Ab (mo ts.length F t)=p,Ab F=q,Ah n ts=W at *;rw[<-we7];simp[K,J,y]
 generalize Ah n ts=W at *;have v:Mp [.lst (Ac (mo ts.length F t))]=some (Ab (mo ts.length F t)):=V5;have u:Mp [.lst (Ac (Gp n ts F t))]=some (Ab (Gp n ts F t)):=V5;generalize Ac (mo ts.length F t)=Y,Ac (Gp n ts F t)=U,Ab (mo ts.length F t)=p,Ab (Gp n ts F t)=Q,Ab (F++[t])=M,Ab F=q at *;refine Az (Al (Aw (d:=p) (by simp[Af,Ga,L,w,v])) (Ax ?_));show bA (zv (Bo (itS (gv 3)) 1 [0,3,1] (gN 0) (tb (b2 (cl (zv (gv 1) (zv (cl (zv (gv 2) (zv (gv 0) a0)) Li) a0)) Jo) (bA (zv (gv 3) a0) Eo) eqD)) (gv 0)) a0) Mp [some W,some q,some (.int (t:Int)),some p]=_;rw[Rf,Pu,c];simp[u]
theorem zR{t:Nat}(p:InW n ts)(g:Vc n ts F)(q:t<ts.length)(c:t∉F)(k:Nat):k∈Gp n ts F t↔k=t\/(k∈F/\Swp n ts F k t):=by
 unfold Gp;rw[MF,Tj,decide_eq_true_iff];have o:Kn ts (wo (mo ts.length F t) k):=λx y=>(Tj.mp (Ce.mp y).1).1;have u:k∈F->cN n ts (wo (mo ts.length F t) k)=cN n ts (t::wo F k):=λa=>Lf p o λx=>by
  rw[Ce,Tj,HN,Ce];constructor
  ·rintro⟨⟨A,l |l⟩,v⟩
   ·exact .inr ⟨l,v⟩
   ·exact .inl l
  ·rintro(z |z)
   ·exact⟨⟨z ▸ q,.inr z⟩,λe=>c (by rw[<-z,e];exact a)⟩
   ·exact⟨⟨g.kn x z.1,.inl z.1⟩,z.2⟩
 unfold Swp;constructor
 ·rintro⟨⟨h,a⟩,B⟩;rcases a with a |a
  ·have:=u a;exact .inr ⟨a,by lia⟩
  ·exact .inl a
 ·rintro(rfl | ⟨h,a⟩)
  ·refine⟨⟨q,.inr rfl⟩,?_⟩;have f:=g.fr;unfold Fr at f;have:cN n ts (wo (mo ts.length F k) k)=cN n ts F:=Lf p o λx=>by
    rw[Ce,Tj];constructor
    ·rintro⟨⟨_,z |z⟩,w⟩
     ·exact z
     ·exact absurd z w
    ·exact λz=>⟨⟨g.kn x z,.inl z⟩,λe=>c (e ▸ z)⟩
   lia
  ·have:=u h;exact⟨⟨g.kn k h,.inl h⟩,by lia⟩
def wk8{t:Nat}:(Gp n ts F t).Pairwise (·<·):=List.Pairwise.filter _ (List.Pairwise.filter _ eG)
def Bp(m:Nat):List (List Nat):=(List.range (2 ^ m)).map (bits m)
theorem Mj(m:Nat):Bp (m+1)=Bp m++(Bp m).map (·++[m]):=by unfold Bp;rw[show 2 ^ (m+1)=2 ^ m+2 ^ m by rw[Nat.pow_succ];lia,List.range_add,QQ,NP,NP];rw[UW λk a=>wd6 (H_.mp a)];refine congrArg _ (UW λk a=>wd5 (H_.mp a))
def K3(m:Nat):(Bp m).length=2 ^ m:=by unfold Bp;rw[GP,QK]
def Pg(h:s∈Bp m):s.length<=m/\∀k∈s,k<m:=by unfold Bp at h;obtain⟨k,_,rfl⟩:=HX.mp h;unfold bits;refine⟨?_,λk a=>H_.mp (MF.mp a).1⟩;have:=WR (λt=>decide (k / 2 ^ t % 2=1)) (List.range m);rw[QK]at this;exact this
def Ml:Bp 0=[[]]:=by decide
def ju2(m:Nat):∃r,Bp m=[]::r:=by
 induction m with
 |zero=>exact⟨[],Ml⟩
 |succ m a =>
  obtain⟨r,e⟩:=a
  refine⟨r++(Bp m).map (·++[m]),?_⟩
  rw[Mj]
  conv=>lhs;arg 1;rw[e]
  rfl
def W0{g o:Type}{f:g->o}:∀{l:List o}{m:List g},l.Perm (m.map f)->∃c:List g,c.Perm m/\l=c.map f
 | [],m,h=>by have:=List.map_eq_nil_iff.mp (List.nil_perm.mp h);subst this;exact⟨[],.nil,rfl⟩
 |b::l,m,h=>by obtain⟨a,q,rfl⟩:=HX.mp (h.mem_iff.mp JK);obtain⟨s,t,rfl⟩:=qK q;have u:(f a::l).Perm (f a::(s++t).map f):=h.trans (by rw[QQ,QQ,HJ];exact jIh);obtain⟨c,p,e⟩:=W0 (List.Perm.cons_inv u);exact⟨a::c,(p.cons a).trans jIh.symm,by rw[e];rfl⟩
def Tv(s:List Nat):Hr (Ab s)=true:=by show(Bl (Ac s)).isSome=true;rw[Wk];rfl
theorem yq1(c:m<=9):sortedZ [.lst ((Bp m).map Ab)]=some (.lst (srt ((Bp m).map Ab))):=by
 have g:((Bp m).map Ab).length<=100000:=by rw[GP,K3];exact PL (g8 (by lia) c) (by decide)
 have h:((Bp m).map Ab).length<2\/X5 ((Bp m).map Ab)=true:=by right;have⟨r,e⟩:=ju2 m;rw[e];show(r.map Ab).all Hr=true;rw[PQ];intro d l;obtain⟨s,_,rfl⟩:=HX.mp l;exact Tv s
 generalize (Bp m).map Ab=L at *;show(if _ then _ else _)=_;rw[if_pos ⟨g,h⟩];by_cases a:L.length<2
 ·rw[if_pos a,T3 a]
 ·rw[if_neg a]
def ku0{a b:List Nat}(g:Gz (Ab a) (Ab b)=true)(c:Gz (Ab b) (Ab a)=true):Ab a=Ab b:=by unfold Gz at g c;rw[aA]at g c;exact zP (Tv a) (Tv b) (Ff _ _ c g)
def kj7(m:Nat):∃c:List (List Nat),c.Perm (Bp m)/\srt ((Bp m).map Ab)=c.map Ab/\∀p:List Nat->Bool,(c.filter p).map Ab=srt (((Bp m).filter p).map Ab):=by have⟨c,h,e⟩:=W0 (f:=Ab) (Dm ((Bp m).map Ab));refine⟨c,h,e,λp=>?_⟩;have g:=Eh ((Bp m).map Ab);rw[e,gW]at g;refine eq_of_sorted (le:=λa b=>Gz a b=true) (((h.filter p).map Ab).trans (Dm _).symm) (gW.mpr (g.filter p)) (Eh _) λa o b l u q=>?_;obtain⟨x,_,rfl⟩:=HX.mp o;obtain⟨y,_,rfl⟩:=HX.mp l;exact ku0 u q
def asB:Ev->R Fl:=asg 1 (b2 (gv 1) (Bo (itS (gv 1)) 1 [2] (gN 0) yes (b2 (gv 0) (bA (zv (gv 1) a0) Hk) Dg)) Dg)
theorem wd4(hi:i<=9):asB [j,some (.lst ((Bp i).map Ab)),some (.int (i:Int))]=.ok (.nx [j,some (.lst ((Bp (i+1)).map Ab)),some (.int (i:Int))]):=by
 have l:2 ^ i<=512:=g8 (n:=2) (by decide) hi;have c:Bo (itS (gv 1)) 1 [2] (gN 0) yes (b2 (gv 0) (bA (zv (gv 1) a0) Hk) Dg) [j,some (.lst ((Bp i).map Ab)),some (.int (i:Int))]=.ok (.lst ((Bp i).map λs=>Ab (s++[i]))):=by refine Ci (ds:=(Bp i).map Ab) (by generalize (Bp i).map Ab=L;simp) ?_ (by rw[GP,K3];lia);refine Dw (Bp i) λs a=>?_;have h:=(Pg a).1;have g:Dg (Ab s) (.tup [.int (i:Int)])=some (Ab (s++[i])):=(V1 (by rw[Ba];simp;lia)).trans (by unfold Ab Ac;rw[QQ];rfl);generalize Ab (s++[i])=o,Ab s=p at *;simp[Hn,Ga,g]
 have e:Dg (.lst ((Bp i).map Ab)) (.lst ((Bp i).map λs=>Ab (s++[i])))=some (.lst ((Bp (i+1)).map Ab)):=(uY (by rw[GP,GP,K3];lia)).trans (by rw[Mj,QQ,NP];rfl);generalize (Bp i).map Ab=u,(Bp (i+1)).map Ab=q,((Bp i).map λs=>Ab (s++[i]))=L2 at *;refine Aw ?_;rw[cA,c];simp[e]
theorem wl3(hl:ts.length<=9):Qf [Ah n ts]=.ok (.lst (srt ((Bp ts.length).map Ab))):=by
 have y:=all_eq n ts (by lia);have sz:=yq1 hl;have⟨q,w,c⟩:=Hf (g:=gN 2) (b:=asB) (I:=λj ρ=>j<=ts.length->∃l,ρ=[some (Ah n ts),some (.lst ((Bp j).map Ab)),l])
  (Ac (List.range ts.length)) 0 [some (Ah n ts),some (.lst [Ab []]),none] (λ_=>⟨none,by rw[Ml];rfl⟩) (λi d ρ a c=>by
   rw[G4]at a;cases o:(List.range ts.length)[i]? with
   |none=>rw[o]at a;cases a
   |some k =>
    rw[o]at a;cases a;have⟨v,p⟩:=LR.mp o;simp at p v;subst p;rw[WM]at c ⊢;obtain⟨l,rfl⟩:=c (by lia);exact⟨_,_,fO,.inl (wd4 (by lia)),λ_=>⟨_,rfl⟩⟩)
 rw[Ba,QK,WM]at c;obtain⟨l,rfl⟩:=c (F_ _);have u:D.tup []=Ab []:=rfl;have h:Gv (Ab (List.range ts.length))=some (Ac (List.range ts.length)):=rfl;generalize Ac (List.range ts.length)=z,Ab (List.range ts.length)=A at *;generalize (Bp ts.length).map Ab=L at *;generalize srt L=B,Ah n ts=W at *;refine Az (Al (Aw (d:=.lst [Ab []]) (by simp[Ga,Ua,u])) (Al (Ny (ds:=z) (by simp[Af,y,h]) w) (Ax (by simp[sz]))))
def isF(n:Nat)(ts:Ae)(s:List Nat):Bool:=decide (((s.length:Nat):Int)=(n:Int) - (cc n ts:Nat)) && decide ((n:Int) - (cc n (Bm ts s):Nat)=(n:Int) - (cc n ts:Nat))
def ku2(s:List Nat):Eo [Ab s]=some (.int (s.length:Nat)):=by show some (D.int _)=_;rw[Ba]
theorem wg7{L:List (List Nat)}{d:List D->R D}(hi:it ρ=.ok (L.map Ab))(l:Hn 1 caps ρ=[none,some (.int ((n:Int) - (cc n ts:Nat))),some (Ah n ts)])(h:∀s∈L,d [Ah n ts,Ab s]=.ok (.int ((n:Int) - (cc n (Bm ts s):Nat))))(hl:L.length<=100000):
  Bo it 1 caps (gN 0) (tan (tb (b2 (bA (zv (gv 0) a0) Eo) (gv 1) eqD)) (tb (b2 (cl (zv (gv 2) (zv (gv 0) a0)) d) (gv 1) eqD))) (gv 0) ρ=.ok (.lst ((L.filter (isF n ts)).map Ab)):=by
 refine Ci hi ?_ (by rw[GP];exact PL (WR _ _) (by lia));rw[l];refine O1 L λs g=>⟨?_,by simp⟩;have c:=h s g;have a:=ku2 s;unfold isF;generalize Ab s=p,Ah n ts=W at *;generalize (n:Int) - (cc n ts:Nat)=w at *;generalize (n:Int) - (cc n (Bm ts s):Nat)=v at *;generalize o:((s.length:Nat):Int)=u at *;by_cases z:u=w
 ·simp[c,a,m_,z]
 ·simp[c,a,m_,z]
theorem jr3(w:n<=50)(hl:ts.length<=9)(h:∀e∈ts,e.1<=e.2/\e.2<n):S9 [Ah n ts]=.ok (.lst (srt (((Bp ts.length).filter (isF n ts)).map Ab))):=by
 have v:=all_eq n ts (by lia);have g:=mZ (n:=n) (ts:=ts) (s:=List.range ts.length) (by lia) h λk u=>H_.mp u;unfold cN at g;rw[kj0]at g;have o:=wl3 (n:=n) hl;have⟨l,p,e,k⟩:=kj7 ts.length;rw[e]at o;have a:l.length<=100000:=by rw[p.length_eq,K3];exact PL (g8 (by lia) hl) (by decide)
 have c:=wg7 (n:=n) (ts:=ts) (L:=l) (it:=itS (cl (zv (gv 0) a0) Qf)) (caps:=[1,0]) (ρ:=[some (Ah n ts),some (.int ((n:Int) - (cc n ts:Nat)))]) (d:=Jo) (by
  generalize l.map Ab=z,Ah n ts=W at *;simp[o]) rfl (λs q=>mZ (by lia) h (Pg (p.mem_iff.mp q)).2) a
 rw[k]at c;generalize srt (((Bp ts.length).filter (isF n ts)).map Ab)=SS,Ab (List.range ts.length)=y,Ah n ts=W at *;refine Az (Al (Aw (d:=.int ((n:Int) - (cc n ts:Nat))) (by simp[Af,v,g])) (Ax c))
def zL(h:s∈Bp m):s.Pairwise (·<·):=by unfold Bp at h;obtain⟨k,_,rfl⟩:=HX.mp h;exact List.Pairwise.filter _ eG
def up_eq{G:List Nat}(g:F.Pairwise (·<·))(c:G.Pairwise (·<·))(e:∀k,k∈F↔k∈G):F=G:=
 eq_of_sorted (le:=λa b=>a<b) ((cM (g.imp λ{a b} z=>JW z) (c.imp λ{a b} z=>JW z)).mpr e) g c λa _ b _ z w=>absurd z (Nat.lt_asymm w)
theorem Tp:∀{m:Nat}{F:List Nat},F.Pairwise (·<·)->(∀k∈F,k<m)->F∈Bp m
 |0,F,_,h=>by
  rw[Ml];cases F with
  |nil=>simp
  |cons x F=>exact absurd (h x JK) (by lia)
 |m+1,F,c,h=>by
  rw[Mj,KC];by_cases l:m∈F
  ·right;refine HX.mpr ⟨F.filter λk=>decide (k<m),Tp (c.filter _) (λk g=>of_decide_eq_true (MF.mp g).2),?_⟩;refine up_eq ?_ c λk=>?_
   ·rw[WQ];exact⟨c.filter _,by simp,λa p b o=>by rw[JG.mp o];exact of_decide_eq_true (MF.mp p).2⟩
   ·rw[KC,MF,decide_eq_true_iff,JG];constructor
    ·rintro(z |rfl)
     ·exact z.1
     ·exact l
    ·intro z;have:=h k z;by_cases e:k=m
     ·exact .inr e
     ·exact .inl ⟨z,by lia⟩
  ·left;exact Tp c λk g=>by have:=h k g;have:k≠m:=λe=>l (e ▸ g);lia
def Xl:∀m,(Bp m).Nodup
 |0=>by rw[Ml];simp
 |m+1=>by
  rw[Mj,gY];refine⟨Xl m,?_,λa l b g e=>?_⟩
  ·rw[List.nodup_iff_pairwise_ne,gW];exact(Xl m).imp λ{a b} h z=>h (List.append_cancel_right z)
  ·obtain⟨c,_,rfl⟩:=HX.mp g;subst e;have:=(Pg l).2 m (by simp);exact SN _ this
theorem wU(c:F∈Bp ts.length):isF n ts F=true↔For n ts F:=by
 unfold isF;rw[QC,decide_eq_true_iff,decide_eq_true_iff];have cl:=u5 n ts;have o:=u5 n (Bm ts F);constructor
 ·rintro⟨l,g⟩;have e:cN n ts F=cc n ts:=by unfold cN;lia
  exact⟨zL c,⟨(Pg c).2,(zL c).imp λ{a b} z=>JW z,by unfold Fr;rw[e];lia,e⟩⟩
 ·intro h;have l:=h.fo.sp;have g:=h.fo.fr;unfold Fr at g;rw[l]at g;unfold cN at l;exact⟨by lia,by lia⟩
theorem jj2(g:n<=50)(hl:ts.length<=9)(h:∀e∈ts,e.1<=e.2/\e.2<n):∃a:List (List Nat),S9 [Ah n ts]=.ok (.lst (a.map Ab))/\a.Nodup/\a.length<=512/\∀F,F∈a↔For n ts F:=by
 have e:=jr3 (n:=n) g hl h;have⟨a,c,l⟩:=W0 (f:=Ab) (Dm (((Bp ts.length).filter (isF n ts)).map Ab));rw[l]at e;refine⟨a,e,c.nodup_iff.mpr ((Xl _).filter _),?_,λF=>?_⟩
 ·rw[c.length_eq];refine PL (WR _ _) ?_;rw[K3];exact PL (g8 (by lia) hl) (by decide)
 ·rw[c.mem_iff,MF];exact⟨λz=>(wU z.1).mp z.2,λz=>have m:=Tp z.up z.fo.kn; ⟨m,(wU m).mpr z⟩⟩
def j7{c a:Ev->R D}{d:D}{j:Nat}(g:a ρ=.ok d)(h:ρ[i]? = some (some (.lst ds)))(l:c ρ=.ok (.int (Int.ofNat j)))(o:j<ds.length):putD i c a ρ=.ok (.nx (ρ.set i (some (.lst (ds.set j d))))):=by unfold putD;rw[g,R.ok_bind,h];dsimp only;rw[l,R.ok_bind];show(if j<ds.length then _ else _)=_;rw[if_pos o]
def vec(m:Nat)(y:Nat->Int):List D:=(List.range m).map λk=>.int (y k)
def Gu(m:Nat)(y:Nat->Int):(vec m y).length=m:=by unfold vec;rw[GP,QK]
variable {y:Nat->Int}
def U9(a:k<m):(vec m y)[k]? = some (.int (y k)):=by unfold vec;rw[QR,GK (by rw[QK];exact a),List.getElem_range];rfl
def vK{z:Nat->Int}(h:∀k,k<m->y k=z k):vec m y=vec m z:=UW λk a=>by rw[h k (H_.mp a)]
theorem Va{s:Int}:(vec m y).set k (.int s)=vec m λj=>if j=k then s else y j:=by
 apply jHw;intro j;rw[qI,Gu];by_cases a:j<m
 ·rw[U9 a,U9 a];by_cases e:k=j
  ·subst e;rw[if_pos rfl,if_pos a];simp
  ·rw[if_neg e];simp[show ¬ j=k from λz=>e z.symm]
 ·have c:∀y,(vec m y)[j]? = none:=λy=>aD (by rw[Gu];lia);rw[c,c];by_cases e:k=j
  ·subst e;rw[if_pos rfl,if_neg a]
  ·rw[if_neg e]
def kk6(h:ds.length=m):(ds.map λ_=>D.int x)=vec m λ_=>x:=by unfold vec;rw[p_,p_,QK,h]
theorem yN{n:Nat}(hl:ts.length<=50)(a:f ρ=.ok (.tup (ts.map Bd))):Bo (itS f) 1 [] (gN 0) yes (kd (.int 0)) ρ=.ok (.lst (vec ts.length λ_=>0)):=by refine Ci (ds:=ts.map Bd) (by simp[a]) ?_ (by rw[Gu];lia);rw[<-kk6 (ds:=ts.map Bd) (by rw[GP]),NP];exact Dw ts λe _=>rfl
def Sh(a:k<ts.length):ixD (.tup (ts.map Bd)) (.int (k:Int))=some (Bd (eN ts k)):=Nv (i:=k) (by
 unfold eN;rw[QR,GK a,O_,GK a];rfl)
theorem ws7(p:Nat)(e:Nat×Nat):inD (.int (p:Int)) (Bd e)=some (.bl (decide (e.1=p\/e.2=p))):=rM (n:=0) (ys:=[.int (e.1:Int),.int (e.2:Int)]) rfl (by lia) Oc (λy a=>by
 rcases HN.mp a with rfl |a
 ·exact Oc
 ·rw[JG.mp a];exact Oc) (by
 rw[decide_eq_true_iff,HN,JG];constructor
 ·rintro(h |h)
  ·left;rw[h]
  ·right;rw[h]
 ·rintro(h |h)
  ·left;have:=D.int.inj h;lia
  ·right;have:=D.int.inj h;lia)
def whT:Ev->R Bool:=tb (b2 (bA (zv (gv 4) a0) Eo) (kd (.int 0)) gtD)
def whB:Ev->R Fl:=(sq (asg 6 (chk (b2 (Bo (itS (gv 4)) 1 [5,0] (gN 0) (tb (b2 (gv 1) (b2 (b2 (gv 2) (kd (.int 1)) ixD) (gv 0) ixD) inD)) (gv 0)) (kd (.int 0)) ixD)))
 (sq (asg 7 (b2 (b2 (gv 0) (kd (.int 1)) ixD) (gv 6) ixD))
 (sq (putD 3 (gv 6) (ife (tb (b2 (b2 (gv 7) (kd (.int 0)) ixD) (gv 5) eqD)) (kd (.int 1)) (b1 (kd (.int 1)) dB)))
 (sq (asg 5 (ife (tb (b2 (b2 (gv 7) (kd (.int 0)) ixD) (gv 5) eqD)) (b2 (gv 7) (kd (.int 1)) ixD) (b2 (gv 7) (kd (.int 0)) ixD)))
 (cY 4 (gv 6))))))
theorem V7:∀(l:List Nat)(x:Nat),((l.map λ(y:Nat)=>(y:Int)).erase (x:Int))=(l.erase x).map λ(y:Nat)=>(y:Int)
 | [],x=>rfl
 |a::l,x=>by
  by_cases h:a=x
  ·subst h;rw[HJ,qN,qN]
  ·rw[HJ,qM (by simp;lia),qM (by simpa using h),V7 l x];rfl
variable {L:List Nat}
theorem kx6(h:ρ[i]? = some (some (.lst (Ac L))))(g:f ρ=.ok (.int (k:Int)))(c:k∈L)(l:L.length<1000):cY i f ρ=.ok (.nx (ρ.set i (some (.lst (Ac (L.erase k)))))):=by
 have a:∀L:List Nat,Ac L=(L.map λ(k:Nat)=>(k:Int)).map D.int:=λL=>by unfold Ac;rw[NP];rfl
 rw[a]at h;rw[ye2 h g (HX.mpr ⟨k,c,rfl⟩) (by rw[GP];lia),a,V7]
theorem wm7{C:List Nat}{t:Nat}{p:Nat}{SF:Option D}(O:InW n ts)(hl:ts.length<=50)(hL:L.length<=50)(c:Cyc n ts C t)(r:Rw n ts C t y L p)(E:L≠[]):
  ∃(K:Nat->Int)(J:List Nat)(a:Nat)(Z Y:Option D),whB [some (Ah n ts),SF,some (.int (t:Int)),some (.lst (vec ts.length y)),some (.lst (Ac L)),some (.int (p:Int)),o6,o7]=.ok (.nx [some (Ah n ts),SF,some (.int (t:Int)),some (.lst (vec ts.length K)),some (.lst (Ac J)),some (.int (a:Int)),Z,Y])/\Rw n ts C t K J a/\J.length+1=L.length:=by
 have M:=Ep n ts;have Q:Bo (itS (gv 4)) 1 [5,0] (gN 0) (tb (b2 (gv 1) (b2 (b2 (gv 2) (kd (.int 1)) ixD) (gv 0) ixD) inD)) (gv 0) [some (Ah n ts),SF,some (.int (t:Int)),some (.lst (vec ts.length y)),some (.lst (Ac L)),some (.int (p:Int)),o6,o7]=.ok (.lst (Ac (L.filter λk=>decide ((eN ts k).1=p\/(eN ts k).2=p)))):=by refine Ku (s:=L) (p:=λk=>decide ((eN ts k).1=p\/(eN ts k).2=p)) (B:=[some (.int (p:Int)),some (Ah n ts)]) (by generalize Ah n ts=W at *;simp) rfl (λx hx=>?_) (by lia);have g:=Sh (ts:=ts) (c.kn x (r.ls x hx).1);have i:=ws7 p (eN ts x);generalize Bd (eN ts x)=TT,Ah n ts=W at *;simp[M,g,i]
 have⟨k0,I,u⟩:=r.ex O c E;have hf:(L.filter λk=>decide ((eN ts k).1=p\/(eN ts k).2=p))≠[]:=λz=>by have:k0∈L.filter λk=>decide ((eN ts k).1=p\/(eN ts k).2=p):=MF.mpr ⟨I,decide_eq_true u⟩;rw[z]at this;cases this
 have⟨k,h,P⟩:=jGa hf;have G:k∈L.filter λk=>decide ((eN ts k).1=p\/(eN ts k).2=p):=by rw[P];simp
 have⟨l,v⟩:=MF.mp G;have v:=of_decide_eq_true v;have kl:=c.kn k (r.ls k l).1;rw[P]at Q;have i0:ixD (.lst (Ac (k::h))) (.int 0)=some (.int (k:Int)):=V2 (i:=0) rfl;have g:=Sh (ts:=ts) kl;have q:ixD (Bd (eN ts k)) (.int 0)=some (.int ((eN ts k).1:Int)):=Nv (i:=0) rfl;have U:ixD (Bd (eN ts k)) (.int 1)=some (.int ((eN ts k).2:Int)):=Nv (i:=1) rfl;have nl:(L.erase k).length+1=L.length:=by rw[jGl l];have:=qO l;lia
 have ng:dB (.int 1)=some (.int (-1)):=rfl;have im:(D.int (k:Int)).imm=true:=rfl;obtain⟨s,a,hs,ev,ep⟩:∃(s:Int)(a:Nat),(((eN ts k).1=p/\s=1/\a=(eN ts k).2)\/((eN ts k).1≠p/\(eN ts k).2=p/\s = -1/\a=(eN ts k).1)) /\
   (∀j A o2 w o4 o6:Option D,ife (tb (b2 (b2 (gv 7) (kd (.int 0)) ixD) (gv 5) eqD)) (kd (.int 1)) (b1 (kd (.int 1)) dB) [j,A,o2,w,o4,some (.int (p:Int)),o6,some (Bd (eN ts k))]=.ok (.int s)) /\
   (∀j A o2 w o4 o6:Option D,ife (tb (b2 (b2 (gv 7) (kd (.int 0)) ixD) (gv 5) eqD)) (b2 (gv 7) (kd (.int 1)) ixD) (b2 (gv 7) (kd (.int 0)) ixD) [j,A,o2,w,o4,some (.int (p:Int)),o6,some (Bd (eN ts k))]=.ok (.int (a:Int))):=by
  generalize Bd (eN ts k)=TT at *;by_cases e:(eN ts k).1=p
  ·have o:((eN ts k).1:Int)=(p:Int):=by rw[e]
   exact⟨1,(eN ts k).2,.inl ⟨e,rfl,rfl⟩,λ_ _ _ _ _ _=>by simp[q,o],λ_ _ _ _ _ _=>by simp[q,U,o]⟩
  ·have o:¬ ((eN ts k).1:Int)=(p:Int):=by lia
   exact⟨-1,(eN ts k).1,.inr ⟨e,v.resolve_left e,rfl,rfl⟩,λ_ _ _ _ _ _=>by simp[q,o,ng],λ_ _ _ _ _ _=>by simp[q,o]⟩
 refine⟨_,L.erase k,a,some (.int (k:Int)),some (Bd (eN ts k)),?_,r.step O c l hs,nl⟩;refine Al (Aw (d:=.int (k:Int)) ?_) (Al (Aw (d:=Bd (eN ts k)) ?_) (Al (j7 (ev _ _ _ _ _ _) rfl (show gv 6 _=.ok (.int (Int.ofNat k)) from rfl) (by rw[Gu];exact kl)) (Al (Aw (ep _ _ _ _ _ _)) ((kx6 (L:=L) (k:=k) rfl rfl l (by lia)).trans ?_))))
 ·rw[yd1,cA,Q];simp[i0,im]
 ·generalize Ah n ts=W,Bd (eN ts k)=TT at *;simp[M,g]
 ·rw[Va];rfl
theorem vJ{n:Nat}{ts:Ae}{C:List Nat}{t:Nat}{SF:Option D}(v:InW n ts)(hl:ts.length<=50)(c:Cyc n ts C t):∀(m:Nat)(y:Nat->Int)(L:List Nat)(p:Nat)(o6 o7:Option D),L.length<m->L.length<=50->Rw n ts C t y L p ->
  ∃(o:Nat->Int)(u:Nat)(g a:Option D),Ht whT whB m [some (Ah n ts),SF,some (.int (t:Int)),some (.lst (vec ts.length y)),some (.lst (Ac L)),some (.int (p:Int)),o6,o7]=.ok (.nx [some (Ah n ts),SF,some (.int (t:Int)),some (.lst (vec ts.length o)),some (.lst (Ac [])),some (.int (u:Int)),g,a])/\Rw n ts C t o [] u
 |0,y,L,p,o6,o7,h,_,_=>by lia
 |m+1,y,L,p,o6,o7,h,l,r=>by
  have J:Eo [.lst (Ac L)]=some (.int (L.length:Nat)):=by show some (D.int _)=_;rw[Ba]
  have q:whT [some (Ah n ts),SF,some (.int (t:Int)),some (.lst (vec ts.length y)),some (.lst (Ac L)),some (.int (p:Int)),o6,o7]=.ok (decide (0<L.length)):=by unfold whT;generalize Ac L=U,Ah n ts=W,vec ts.length y=V at *;simp[J]
  by_cases e:L=[]
  ·subst e;refine⟨y,p,o6,o7,?_,r⟩;rw[Ht,q];rfl
  ·obtain⟨z,P,p1,g,a,M,B,Q⟩:=wm7 (SF:=SF) (o6:=o6) (o7:=o7) v hl l c r e;obtain⟨w,I,G,E,O,A⟩:=vJ v hl c m z P p1 g a (by lia) (by lia) B;refine⟨w,I,G,E,?_,A⟩;have K:0<L.length:=List.length_pos_iff.mpr e;rw[Ht,q,R.ok_bind,decide_eq_true K,if_pos rfl,M];exact O
structure tQ(n:Nat)(ts:Ae)(F:List Nat)(t:Nat)(y:Nat->Int):Prop where
 one:y t=1
 off:∀k,k<ts.length->k∉F->k≠t->y k=0
 bal:∀q,q<n->Gr.bal ts y q=0
theorem ky2{t:Nat}(P:n<=50)(hl:ts.length<=50)(h:∀e∈ts,e.1<=e.2/\e.2<n)(v:For n ts F)(o:t<ts.length)(l:t∉F):
  ∃y,tQ n ts F t y/\Lj [Ah n ts,Ab F,.int (t:Int)]=.ok (.lst (vec ts.length y)):=by
 have u:InW n ts:=λe U=>by have:=h e U;lia
 have G:=Ep n ts;have rw:=je9 P hl h v o l;have A:(Gp n ts F t).Nodup:=wk8.imp λ{a b} z=>JW z;have c:=wq7 u v.fo o l A (zR u v.fo o l);have rl:(Gp n ts F t).length<=50:=PL (uJ c.kn A) hl;have I:∀q o4 o5 o6 o7:Option D,Bo (itS (b2 (gv 0) (kd (.int 1)) ixD)) 1 [] (gN 0) yes (kd (.int 0)) [some (Ah n ts),some (Ab F),some (.int (t:Int)),q,o4,o5,o6,o7]=.ok (.lst (vec ts.length λ_=>0)):=λq o4 o5 o6 o7=>yN (n:=n) hl (by generalize Ah n ts=W,Ab F=SF at *;simp[G]);have c4:∀q o4 o5 o6 o7:Option D,Bo (itS (cl (zv (gv 0) (zv (gv 1) (zv (gv 2) a0))) Nq)) 1 [2] (gN 0) (tb (b2 (gv 0) (gv 1) neD)) (gv 0) [some (Ah n ts),some (Ab F),some (.int (t:Int)),q,o4,o5,o6,o7]=.ok (.lst (Ac (wo (Gp n ts F t) t))):=λq o4 o5 o6 o7=>by
  refine Ku (s:=Gp n ts F t) (p:=λk=>decide (k≠t)) (B:=[some (.int (t:Int))]) ?_ rfl (λx _=>?_) (by lia)
  ·have w:Gv (Ab (Gp n ts F t))=some (Ac (Gp n ts F t)):=rfl;generalize Ab (Gp n ts F t)=RR,Ah n ts=W,Ab F=SF at *;simp[rw,w]
  ·have:=uF x t;simp[this]
 obtain⟨y,O,M,K,Y,r⟩:=vJ (SF:=some (Ab F)) u hl c 100000 (dl t) (wo (Gp n ts F t) t) (eN ts t).2 none none (by have:=WR (λx=>decide (x≠t)) (Gp n ts F t);unfold wo;lia) (by have:=WR (λx=>decide (x≠t)) (Gp n ts F t);unfold wo;lia) (Rw.start u c (A.filter _) λk=>Ce);refine⟨y,⟨r.one,λk Q E C=>?_,r.done c⟩,?_⟩
 ·refine U_ λz=>?_;rcases(zR u v.fo o l k).mp ((r.on k Q).mp z).1 with e |e
  ·exact C e
  ·exact E e.1
 ·have g:=Sh (ts:=ts) o;have J:ixD (Bd (eN ts t)) (.int 1)=some (.int ((eN ts t).2:Int)):=Nv (i:=1) rfl;have Z:(vec ts.length λ_=>0).set t (.int 1)=vec ts.length (dl t):=Va;refine Az (Al (Aw (I _ _ _ _ _)) (Al (j7 (d:=.int 1) (j:=t) rfl rfl rfl (by rw[Gu];exact o)) (Al (Aw (c4 _ _ _ _ _)) (Al (Aw (d:=.int ((eN ts t).2:Int)) ?_) (Al (r:=.ok (.rt (.lst (vec ts.length y)))) (ρ1:=[some (Ah n ts),some (Ab F),some (.int (t:Int)),some (.lst (vec ts.length y)),some (.lst (Ac [])),some (.int (O:Int)),M,K]) ?_ (Ax rfl))))))
  ·generalize Bd (eN ts t)=TT,Ah n ts=W,Ab F=SF at *;simp[G,g,J,Af]
  ·rw[Z];exact Y
def jZ(a:k<m):ixD (.lst (vec m y)) (.int (k:Int))=some (.int (y k)):=V2 (i:=k) (U9 a)
def Bj(m:Nat)(Q:Nat->Nat->Int)(T:List Nat):List D:=T.map λt=>.lst (vec m (Q t))
def setB(Q:Nat->Nat->Int)(T:List Nat)(k:Nat):Bool:=T.all λt=>decide (Q t k=0)
variable {Q:Nat->Nat->Int}
theorem ju3{T:List Nat}(u:m<=50)(v:T.length<=50):Jg [.lst (Bj m Q T),.int (m:Int)]=.ok (.lst (Ac ((List.range m).filter (setB Q T)))):=by
 have l:=V4 (n:=m) (by lia);refine Az (Ax ?_);refine Ku (s:=List.range m) (p:=setB Q T) (B:=[some (.lst (Bj m Q T))]) (by generalize Bj m Q T=q at *;simp[Af,l]) rfl (λx h=>?_) (by rw[QK];lia);have h:=H_.mp h;have c:Bo (itS (gv 1)) 1 [0] (gN 0) yes (b2 (b2 (gv 0) (gv 1) ixD) (kd (.int 0)) eqD) [some (.int (x:Int)),some (.lst (Bj m Q T))]=.ok (.lst ((T.map λt=>decide (Q t x=0)).map .bl)):=by refine Ci (ds:=Bj m Q T) (by generalize Bj m Q T=q at *;simp) ?_ (by rw[GP,GP];lia);rw[NP];refine Dw T λt _=>?_;have g:=jZ (y:=Q t) h;show b2 _ _ _ [some (.lst (vec m (Q t))),some (.int (x:Int))]=_;generalize vec m (Q t)=V at *;simp[g]
 have a:=kI (T.map λt=>decide (Q t x=0));have o:(T.map λt=>decide (Q t x=0)).all id=setB Q T x:=by unfold setB;rw[gG];rfl
 rw[o]at a;show tt (bA (zv (Bo _ _ _ _ _ _) a0) aY) [some (.int (x:Int)),some (.lst (Bj m Q T))]=_;rw[rH,Rf,Pu,c];generalize (T.map λt=>decide (Q t x=0)).map D.bl=w at *;simp[a]
theorem wu0(hi:i<xs.length):slA (.lst xs) (some ((i:Int)+1)) none=some (.lst (xs.drop (i+1))):=by
 show some (D.lst (cutD xs (some ((i:Int)+1)) none))=_;have e:HT.sIx xs.length 0 (some ((i:Int)+1))=i+1:=by rw[show((i:Int)+1)=((i+1:Nat):Int) by omega,HT.Mi];omega
 unfold cutD;rw[e,HT.Jv];congr 2;apply eF;rw[TQ];exact F_ _
def Yy{h:Type}{enc:h->D}{out:h->D}{g:D->Ev->R Ev}{f:Ev->R D}{ρ:Ev}:∀(l:List h),(∀a∈l,∃c,g (enc a) ρ=.ok c/\f c=.ok (out a))->Dp g yes f ρ (l.map enc)=.ok (l.map out)
 | [],_=>rfl
 |a::l,o=>by have⟨c,v,u⟩:=o a (by simp);have p:=Yy l λb q=>o b (by simp[q]);rw[HJ,Dp,v,R.ok_bind];show(PD.R.ok true).bind _=_;rw[R.ok_bind,if_pos rfl,u,R.ok_bind,p];rfl
variable {a:Nat->Int}
def wm8{b:Nat->Int}:Yl (vec m a) (vec m b)=(List.range m).map λk=>.tup [.int (a k),.int (b k)]:=by unfold Yl vec;rw[List.zip_map',NP];rfl
theorem wh7{t:Nat}{T:List Nat}(l:m<=50)(h:-1000<x)(g:x<1000):
  Bo (itZ (zv (gv 1) (zv (b2 (gv 0) (kd (.int 0)) ixD) a0))) 2 [3] (gT [0,1]) yes (b2 (gv 0) (b2 (gv 2) (gv 1) Hh) Dg) [some (.lst (Bj m Q (t::T))),some (.lst (vec m a)),o2,some (.int x),o4,o5]=.ok (.lst (vec m λk=>a k+x * Q t k)):=by
 have c:ixD (.lst (Bj m Q (t::T))) (.int 0)=some (.lst (vec m (Q t))):=V2 (i:=0) rfl;refine Ci (ds:=Yl (vec m a) (vec m (Q t))) (yd7 (x:=.lst (vec m a)) (y:=.lst (vec m (Q t))) ?_ rfl rfl) ?_ (by rw[Gu];lia)
 ·generalize Bj m Q (t::T)=o at *;generalize vec m (Q t)=V at *;simp[c]
 ·rw[wm8];refine Yy (List.range m) λk _=>⟨[some (.int (a k)),some (.int (Q t k)),some (.int x)],rfl,?_⟩;have e:Hh (.int x) (.int (Q t k))=some (.int (x * Q t k)):=j8 (by lia) (by lia);simp[e]
def fiB(rc:List D->R D):Ev->R Fl:=(sq (asg 4 (Bo (itZ (zv (gv 1) (zv (b2 (gv 0) (kd (.int 0)) ixD) a0))) 2 [3] (gT [0,1]) yes (b2 (gv 0) (b2 (gv 2) (gv 1) Hh) Dg)))
 (sq (asg 5 (cl (zv (bS (gv 0) (p1 (kd (.int 1))) p0 slA) (zv (gv 4) (zv (gv 2) a0))) rc))
 (ifS (tb (b2 (gv 5) (kd .non) Wy)) (Jt (gv 5)) nop)))
theorem xH{rc:List D->R D}{m:Nat}{a:Nat->Int}{Q:Nat->Nat->Int}{t:Nat}{T:List Nat}{H:Int}{f:Int->R D}(I:m<=50)(P:T.length<=50)
  (q:∀x,-1000<x->x<1000->rc [.lst (Bj m Q T),.lst (vec m λk=>a k+x * Q t k),.int H]=f x):
  ∀(l:List Int)(o3 o4 o5:Option D),(∀x∈l,(-1000<x/\x<1000)/\(f x=.ok .non\/∃ds,f x=.ok (.tup ds))) ->
   (∃x∈l,∃ds,f x=.ok (.tup ds)/\Hw (l.map .int) (gN 3) (fiB rc) [some (.lst (Bj m Q (t::T))),some (.lst (vec m a)),some (.int H),o3,o4,o5]=.ok (.rt (.tup ds))) \/
   ((∀x∈l,f x=.ok .non)/\∃C B A,Hw (l.map .int) (gN 3) (fiB rc) [some (.lst (Bj m Q (t::T))),some (.lst (vec m a)),some (.int H),o3,o4,o5]=.ok (.nx [some (.lst (Bj m Q (t::T))),some (.lst (vec m a)),some (.int H),C,B,A]))
 | [],o3,o4,o5,_=>.inr ⟨λx v=>absurd v (by simp),o3,o4,o5,rfl⟩
 |x::l,o3,o4,o5,J=>by
  have⟨⟨v,p⟩,o⟩:=J x (by simp);have O:=wh7 (m:=m) (a:=a) (Q:=Q) (t:=t) (T:=T) (x:=x) (o2:=some (.int H)) (o4:=o4) (o5:=o5) I v p;have w:=q x v p;have M:slA (.lst (Bj m Q (t::T))) (some 1) none=some (.lst (Bj m Q T)):=by have:=wu0 (xs:=Bj m Q (t::T)) (i:=0) (by unfold Bj;simp);exact this
  have run:∀{d:D}(u:R Fl),f x=.ok d->ifS (tb (b2 (gv 5) (kd .non) Wy)) (Jt (gv 5)) nop [some (.lst (Bj m Q (t::T))),some (.lst (vec m a)),some (.int H),some (.int x),some (.lst (vec m λk=>a k+x * Q t k)),some d]=u->fiB rc [some (.lst (Bj m Q (t::T))),some (.lst (vec m a)),some (.int H),some (.int x),o4,o5]=u:=λ{d} u e h=>by refine Al (Aw O) (Al (Aw (d:=d) ?_) h);show PD.cl (zv (bS (gv 0) (p1 (kd (.int 1))) p0 slA) (zv (gv 4) (zv (gv 2) a0))) rc [some (.lst (Bj m Q (t::T))),some (.lst (vec m a)),some (.int H),some (.int x),some (.lst (vec m λk=>a k+x * Q t k)),o5]=_;generalize Bj m Q (t::T)=Z at *;generalize Bj m Q T=RT,(vec m λk=>a k+x * Q t k)=U,vec m a=Y at *;simp[M,w,e]
  have K:∀b:R Fl,fiB rc [some (.lst (Bj m Q (t::T))),some (.lst (vec m a)),some (.int H),some (.int x),o4,o5]=b->Hw ((x::l).map .int) (gN 3) (fiB rc) [some (.lst (Bj m Q (t::T))),some (.lst (vec m a)),some (.int H),o3,o4,o5]=b.bind λu=>match u with
    | .nx c=>Hw (l.map .int) (gN 3) (fiB rc) c
    | .ct c=>Hw (l.map .int) (gN 3) (fiB rc) c
    | .bk c=>.ok (.nx c)
    | .rt d=>.ok (.rt d):=λb e=>by
   subst e;rfl
  rcases o with o | ⟨ds,o⟩
  ·have e:=K _ (run _ o ((Hb (by simp[show Wy .non .non=some (.bl false) from rfl])).trans rfl));rcases xH I P q l (some (.int x)) (some (.lst (vec m λk=>a k+x * Q t k))) (some .non) (λz g=>J z (by simp[g])) with ⟨z,g,ds,G,E⟩ | ⟨G,C,B,A,E⟩
   ·exact .inl ⟨z,by simp[g],ds,G,e.trans E⟩
   ·refine .inr ⟨λz g=>?_,C,B,A,e.trans E⟩;rcases HN.mp g with rfl |g
    ·exact o
    ·exact G z g
  ·have e:=K _ (run (.ok (.rt (.tup ds))) o ((Lq (by simp[show Wy (.tup ds) .non=some (.bl true) from rfl])).trans (Ax rfl)));exact .inl ⟨x,by simp,ds,o,e⟩
variable {h:Nat}
theorem yi6(c:h<1000):Xb [.int 1,.int (h:Int)]=some (((List.range (h - 1)).map λ(k:Nat)=>1+(k:Int)).map .int):=by simp only[Xb];rw[if_pos (by lia),show((h:Int) - 1).toNat=h - 1 by lia,NP];rfl
theorem Y9{m h:Nat}{Q:Nat->Nat->Int}(I:m<=50)(hh:1<=h)(J:h<=100):∀(u:Nat)(T:List Nat)(a:Nat->Int),T.length<u->T.length<=50 ->
  (∃xs:List Int,xs.length=T.length/\(∀x∈xs,1<=x/\x<h)/\(∀k,k<m->cb Q a T xs k % (h:Int)≠0)/\Aq u [.lst (Bj m Q T),.lst (vec m a),.int (h:Int)]=.ok (.tup (vec m λk=>cb Q a T xs k % (h:Int)))) \/
  ((∀xs:List Int,xs.length=T.length->(∀x∈xs,1<=x/\x<h)->∃k,k<m/\cb Q a T xs k % (h:Int)=0)/\Aq u [.lst (Bj m Q T),.lst (vec m a),.int (h:Int)]=.ok .non)
 |0,T,a,Y,_=>by lia
 |u+1,T,a,Y,O=>by
  have Z:(0:Int)<(h:Int):=by lia
  have se:=ju3 (m:=m) (Q:=Q) (T:=T) I O;have lv:Eo [.lst (vec m a)]=some (.int (m:Int)):=by show some (D.int _)=_;rw[Gu]
  have U:Eo [.lst (Bj m Q T)]=some (.int (T.length:Nat)):=by show some (D.int _)=_;unfold Bj;rw[GP]
  have c1:∀l o4 o5:Option D,Bo (itS (cl (zv (gv 0) (zv (bA (zv (gv 1) a0) Eo) a0)) Jg)) 1 [1,2] (gN 0) yes (b2 (b2 (b2 (gv 1) (gv 0) ixD) (gv 2) Gk) (kd (.int 0)) eqD) [some (.lst (Bj m Q T)),some (.lst (vec m a)),some (.int (h:Int)),l,o4,o5]=.ok (.lst ((((List.range m).filter (setB Q T)).map λk=>decide (a k % (h:Int)=0)).map .bl)):=λl o4 o5=>by
   refine Ci (ds:=Ac ((List.range m).filter (setB Q T))) ?_ ?_ (by rw[GP,GP];have:=WR (setB Q T) (List.range m);rw[QK]at this;lia)
   ·have aa:Gv (.lst (Ac ((List.range m).filter (setB Q T))))=some (Ac ((List.range m).filter (setB Q T))):=rfl;generalize Ac ((List.range m).filter (setB Q T))=NS,Bj m Q T=B,vec m a=w at *;simp[lv,se]
   ·unfold Ac;rw[NP];refine Dw _ λk c=>?_;have c:=H_.mp (MF.mp c).1;have g:=jZ (y:=a) c;have C:Gk (.int (a k)) (.int (h:Int))=some (.int (a k % (h:Int))):=Kl Z;show b2 _ _ _ [some (.int (k:Int)),some (.lst (vec m a)),some (.int (h:Int))]=_;generalize vec m a=w at *;simp[g,C]
  have an:=wp5 (((List.range m).filter (setB Q T)).map λk=>decide (a k % (h:Int)=0));have q:∀l o4 o5:Option D,tt (bA (zv (Bo (itS (cl (zv (gv 0) (zv (bA (zv (gv 1) a0) Eo) a0)) Jg)) 1 [1,2] (gN 0) yes (b2 (b2 (b2 (gv 1) (gv 0) ixD) (gv 2) Gk) (kd (.int 0)) eqD)) a0) dM) [some (.lst (Bj m Q T)),some (.lst (vec m a)),some (.int (h:Int)),l,o4,o5]=.ok ((((List.range m).filter (setB Q T)).map λk=>decide (a k % (h:Int)=0)).any id):=λl o4 o5=>by rw[rH,Rf,Pu,c1];generalize (((List.range m).filter (setB Q T)).map λk=>decide (a k % (h:Int)=0)).any id=AB at *;generalize (((List.range m).filter (setB Q T)).map λk=>decide (a k % (h:Int)=0)).map D.bl=BL at *;simp[an]
  cases A:(((List.range m).filter (setB Q T)).map λk=>decide (a k % (h:Int)=0)).any id with
  |true=>rw[A]at q;right;have⟨b,M,K⟩:=qF.mp A;obtain⟨k,c,rfl⟩:=HX.mp M;have c:=MF.mp c;refine⟨λxs _ _=>⟨k,H_.mp c.1,?_⟩,Az (Jw ((Lq (q _ _ _)).trans (Ax rfl)))⟩;rw[oK T xs a λt ht=>of_decide_eq_true (PQ.mp c.2 t ht)];exact of_decide_eq_true K
  |false =>
   rw[A]at q;have nz:∀k,k<m->setB Q T k=true->a k % (h:Int)≠0:=λk c hs z=>by have:=jHu.mp A (decide (a k % (h:Int)=0)) (HX.mpr ⟨k,MF.mpr ⟨H_.mpr c,hs⟩,rfl⟩);exact this (by simp[z])
   cases T with
   |nil =>
    left;refine⟨[],rfl,λx o=>absurd o (by simp),λk c=>nz k c rfl,?_⟩;have c2:∀l o4 o5:Option D,Bo (itS (gv 1)) 1 [2] (gN 0) yes (b2 (gv 0) (gv 1) Gk) [some (.lst (Bj m Q [])),some (.lst (vec m a)),some (.int (h:Int)),l,o4,o5]=.ok (.lst (vec m λk=>a k % (h:Int))):=λl o4 o5=>by refine Ci (ds:=vec m a) (by generalize vec m a=w,Bj m Q []=B at *;simp) ?_ (by rw[Gu];lia);refine Dw (List.range m) λk _=>?_;have C:Gk (.int (a k)) (.int (h:Int))=some (.int (a k % (h:Int))):=Kl Z;show b2 _ _ _ [some (.int (a k)),some (.int (h:Int))]=_;simp[C]
    have tp:Mp [.lst (vec m λk=>a k % (h:Int))]=some (.tup (vec m λk=>a k % (h:Int))):=V5;refine Az (Al ((Hb (q _ _ _)).trans rfl) (Jw ((Lq ?_).trans (Ax (d:=.tup (vec m λk=>a k % (h:Int))) ?_))))
    ·show tb _ [some (.lst (Bj m Q [])),some (.lst (vec m a)),some (.int (h:Int)),none,none,none]=_;generalize Bj m Q []=B,vec m a=w at *;simp[U]
    ·show bA (zv (Bo _ _ _ _ _ _) a0) Mp [some (.lst (Bj m Q [])),some (.lst (vec m a)),some (.int (h:Int)),none,none,none]=_;rw[Rf,Pu,c2];generalize (vec m λk=>a k % (h:Int))=VV at *;simp[tp]
   |cons t T =>
    have E:=λb=>Y9 (Q:=Q) I hh J u T b (by simpa using Y) (by simp at O;lia);have rg:=yi6 (h:=h) (by lia);have l0:¬ ((t::T).length:Int)=0:=by simp;lia
    have tf:∀l o4 o5:Option D,tb (b2 (bA (zv (gv 0) a0) Eo) (kd (.int 0)) eqD) [some (.lst (Bj m Q (t::T))),some (.lst (vec m a)),some (.int (h:Int)),l,o4,o5]=.ok false:=λl o4 o5=>by generalize Bj m Q (t::T)=B at *;generalize ((t::T).length:Int)=LL at *;generalize vec m a=w at *;simp[U,l0]
    have mem:∀x∈(List.range (h - 1)).map (λ(k:Nat)=>1+(k:Int)),1<=x/\x<h:=λx o=>by obtain⟨k,c,rfl⟩:=HX.mp o;have:=H_.mp c;lia
    have lo:=xH (rc:=Aq u) (m:=m) (a:=a) (Q:=Q) (t:=t) (T:=T) (H:=(h:Int)) (f:=λx=>Aq u [.lst (Bj m Q T),.lst (vec m λk=>a k+x * Q t k),.int (h:Int)]) I (by simp at O;lia) (λx _ _=>rfl) ((List.range (h - 1)).map λ(k:Nat)=>1+(k:Int)) none none none (λx o=>⟨by have:=mem x o;lia,by
     rcases E (λk=>a k+x * Q t k) with ⟨xs,_,_,_,e⟩ | ⟨_,e⟩
     ·exact .inr ⟨_,e⟩
     ·exact .inl e⟩)
    have pre:∀{r:R D},dD (sq (b_ (itR Xb (zv (kd (.int 1)) (zv (gv 2) a0))) (gN 3) (fiB (Aq u))) (Jt (kd .non)) [some (.lst (Bj m Q (t::T))),some (.lst (vec m a)),some (.int (h:Int)),none,none,none])=r->Aq (u+1) [.lst (Bj m Q (t::T)),.lst (vec m a),.int (h:Int)]=r:=λ{r} e=>by have st:Gy (Aq u) (Af 6 [.lst (Bj m Q (t::T)),.lst (vec m a),.int (h:Int)])=sq (b_ (itR Xb (zv (kd (.int 1)) (zv (gv 2) a0))) (gN 3) (fiB (Aq u))) (Jt (kd .non)) [some (.lst (Bj m Q (t::T))),some (.lst (vec m a)),some (.int (h:Int)),none,none,none]:=Al ((Hb (q _ _ _)).trans rfl) (Al ((Hb (tf _ _ _)).trans rfl) rfl);have ed:Aq (u+1) [.lst (Bj m Q (t::T)),.lst (vec m a),.int (h:Int)]=Cq 6 (Gy (Aq u)) [.lst (Bj m Q (t::T)),.lst (vec m a),.int (h:Int)]:=rfl;rw[ed,j_,st,e]
    have fo:b_ (itR Xb (zv (kd (.int 1)) (zv (gv 2) a0))) (gN 3) (fiB (Aq u)) [some (.lst (Bj m Q (t::T))),some (.lst (vec m a)),some (.int (h:Int)),none,none,none]=Hw (((List.range (h - 1)).map λ(k:Nat)=>1+(k:Int)).map .int) (gN 3) (fiB (Aq u)) [some (.lst (Bj m Q (t::T))),some (.lst (vec m a)),some (.int (h:Int)),none,none,none]:=Ny (by
     generalize ((List.range (h - 1)).map λ(k:Nat)=>1+(k:Int)).map D.int=LS at *;generalize Bj m Q (t::T)=B at *;generalize vec m a=w at *;simp[rg]) rfl
    rcases lo with ⟨x,o,ds,p,P⟩ | ⟨p,q3,q4,q5,P⟩
    ·left;rcases E (λk=>a k+x * Q t k) with ⟨xs,x1,x2,x3,e⟩ | ⟨_,e⟩
     ·refine⟨x::xs,by simp[x1],λz v=>?_,x3,pre ?_⟩
      ·rcases HN.mp v with rfl |v
       ·exact mem z o
       ·exact x2 z v
      ·rw[e]at p;rw[Jw (fo.trans P),<-PD.R.ok.inj p];rfl
     ·rw[e]at p;cases p
    ·right;refine⟨λxs hl o=>?_,pre (by rw[Al (fo.trans P) (Ax rfl)];rfl)⟩;cases xs with
     |nil=>simp at hl
     |cons x xs =>
      have ab:=o x (by simp);have G:x∈(List.range (h - 1)).map (λ(k:Nat)=>1+(k:Int)):=HX.mpr ⟨(x - 1).toNat,H_.mpr (by lia),by lia⟩;rcases E (λk=>a k+x * Q t k) with ⟨ys,_,_,_,e⟩ | ⟨no,_⟩
      ·have:=p x G;rw[e]at this;cases this
      ·exact no xs (by simpa using hl) λz v=>o z (by simp[v])
theorem wr9(o:InW n ts):∃F,For n ts F:=by
 have⟨h,_⟩:=kr8 (bef:=λ_ _=>True) o (l:=List.range ts.length) (λk c=>H_.mp c) bH (List.pairwise_of_forall λ_ _=>trivial) λk c=>H_.mpr c;generalize (List.range ts.length).foldl (stp ts) []=G at h;have g:((List.range ts.length).filter λk=>decide (k∈G)).Perm G:=(cM (bH.filter _) h.nd).mpr λk=>by rw[MF,H_,decide_eq_true_iff];exact⟨λz=>z.2,λz=>⟨h.kn k z,z⟩⟩
 have kn:Kn ts ((List.range ts.length).filter λk=>decide (k∈G)):=λk c=>h.kn k (g.mem_iff.mp c);have p:=Lf o kn λk=>g.mem_iff;refine⟨(List.range ts.length).filter λk=>decide (k∈G),List.Pairwise.filter _ eG,⟨kn,bH.filter _,?_,?_⟩⟩
 ·have:=h.fr;unfold Fr at this ⊢;rw[p,g.length_eq];exact this
 ·rw[p];exact h.sp
structure vI(n:Nat)(ts:Ae)(h:Nat)(v:Nat->Int):Prop where
 val:∀k,k<ts.length->1<=v k/\v k<h
 bal:∀p,p<n->Gr.bal ts v p % (h:Int)=0
theorem kg5(U:n<=50)(hl:ts.length<=9)(G:∀e∈ts,e.1<=e.2/\e.2<n)(h1:1<=h)(h2:h<=100):
  (0<Fn h n ts (λ_=>0)/\∃v,vI n ts h v/\Np [Ah n ts,.int (h:Int)]=.ok (.tup (vec ts.length v)))\/(Fn h n ts (λ_=>0)=0/\Np [Ah n ts,.int (h:Int)]=.ok .non):=by
 have P:InW n ts:=λe J=>by have:=G e J;lia
 have w1:=Ep n ts;have J:=jj4 (H:=(h:Int)) (by lia);have⟨FS,ef,nd,fl,q⟩:=jj2 (n:=n) U hl G;have⟨F0,K⟩:=wr9 P;obtain⟨F,FT,rfl⟩:=jGa (l:=FS) λz=>by have:=(q F0).mpr K;rw[z]at this;cases this
 have Z:=(q F).mp (by simp);have i0:ixD (.lst ((F::FT).map Ab)) (.int 0)=some (Ab F):=V2 (i:=0) rfl;have oe:=wv4 (n:=n) (F:=F) (show ts.length<=50 by lia);obtain⟨Q,A⟩:=Classical.axiomOfChoice (r:=λt y=>t<ts.length->t∉F->tQ n ts F t y/\Lj [Ah n ts,Ab F,.int (t:Int)]=.ok (.lst (vec ts.length y))) λt=>by
  by_cases z:t<ts.length/\t∉F
  ·have⟨y,a,b⟩:=ky2 U (by lia) G Z z.1 z.2;exact⟨y,λ_ _=>⟨a,b⟩⟩
  ·exact⟨λ_=>0,λz1 z2=>absurd ⟨z1,z2⟩ z⟩
 have g:∀k,k∈restOf ts.length F↔k<ts.length/\k∉F:=λk=>js9;have O:vH n ts F (restOf ts.length F) Q:=⟨bH.filter _,g,λt c=>(A t ((g t).mp c).1 ((g t).mp c).2).1.one,λt c u Y e=>(A t ((g t).mp c).1 ((g t).mp c).2).1.off u ((g u).mp Y).1 ((g u).mp Y).2 e,λt c=>(A t ((g t).mp c).1 ((g t).mp c).2).1.bal⟩;have tl:(restOf ts.length F).length<=9:=PL (zT _ _) hl;have c3:∀o:Option D,Bo (itS (cl (zv (gv 0) (zv (gv 2) a0)) Tc)) 1 [0,2] (gN 0) yes (cl (zv (gv 1) (zv (gv 2) (zv (gv 0) a0))) Lj) [some (Ah n ts),some (.int (h:Int)),some (Ab F),o]=.ok (.lst (Bj ts.length Q (restOf ts.length F))):=λo=>by
  refine Ci (ds:=Ac (restOf ts.length F)) ?_ ?_ (by unfold Bj;rw[GP];lia)
  ·have E:Gv (Ab (restOf ts.length F))=some (Ac (restOf ts.length F)):=rfl;generalize Ab (restOf ts.length F)=RS,Ah n ts=W,Ab F=M at *;simp[oe,E]
  ·refine Dw (restOf ts.length F) λt c=>?_;have e:=(A t ((g t).mp c).1 ((g t).mp c).2).2;show PD.cl _ _ [some (.int (t:Int)),some (Ah n ts),some (Ab F)]=_;generalize Ah n ts=W,Ab F=M,vec ts.length (Q t)=VT at *;simp[e]
 have z0:∀o2 o:Option D,Bo (itS (b2 (gv 0) (kd (.int 1)) ixD)) 1 [] (gN 0) yes (kd (.int 0)) [some (Ah n ts),some (.int (h:Int)),o2,o]=.ok (.lst (vec ts.length λ_=>0)):=λo2 o=>yN (n:=n) (by lia) (by generalize Ah n ts=W at *;simp[w1]);have pre:∀{d:D},Gx [.lst (Bj ts.length Q (restOf ts.length F)),.lst (vec ts.length λ_=>0),.int (h:Int)]=.ok d->Np [Ah n ts,.int (h:Int)]=.ok d:=λ{d} e=>by
  refine Az (Al (ρ1:=[some (Ah n ts),some (.int (h:Int)),none,none]) ?_ (Al (Aw (d:=Ab F) ?_) (Al (Aw (c3 _)) (Ax ?_))))
  ·generalize Ah n ts=W at *;simp[Af,J]
  ·generalize (F::FT).map Ab=FD at *;generalize Ah n ts=W,Ab F=M at *;simp[ef,i0]
  ·show PD.cl (zv (gv 3) (zv (Bo _ _ _ _ _ _) (zv (gv 1) a0))) Gx [some (Ah n ts),some (.int (h:Int)),some (Ab F),some (.lst (Bj ts.length Q (restOf ts.length F)))]=_;rw[ym3,Pu,Pu,z0];generalize Ah n ts=W,Ab F=M,Bj ts.length Q (restOf ts.length F)=RV,(vec ts.length λ_=>0)=V0 at *;simp[e]
 have fi:=kr1 P Z.fo O h1;rcases Y9 (m:=ts.length) (h:=h) (Q:=Q) (by lia) h1 h2 12 (restOf ts.length F) (λ_=>0) (by lia) (by lia) with ⟨xs,C,B,w,e⟩ | ⟨no,e⟩
 ·refine .inl ⟨fi.mp ⟨xs,C,B,w⟩,_,⟨λk I=>?_,λp hp=>?_⟩,pre e⟩
  ·have q1:=bD (cb Q (λ_=>0) (restOf ts.length F) xs k) (show(h:Int)≠0 by lia);have q2:=bJ (cb Q (λ_=>0) (restOf ts.length F) xs k) (show(0:Int)<h by lia);have:=w k I;exact⟨by lia,q2⟩
  ·rw[xX (z:=cb Q (λ_=>0) (restOf ts.length F) xs) λk _=>qL _ (pP _),kE (restOf ts.length F) xs _ λt c=>O.bal t c p hp];have:Gr.bal ts (λ_=>0) p=0:=by
    unfold Gr.bal;have:(List.range ts.length).map (tm ts (λ_=>0) p)=(List.range ts.length).map λ_=>(0:Int):=UW λk _=>by unfold tm;simp
    rw[this,eZ]
   rw[this];simp
 ·refine .inr ⟨?_,pre e⟩;refine Nat.eq_zero_of_not_pos λz=>?_;have⟨xs,C,B,w⟩:=fi.mpr z;have⟨k,I,z⟩:=no xs C B;exact w k I z
def lfB:Ev->R Fl:=(sq (ifS (tor (nt (tt (b1 (b2 (gv 2) (gv 4) ixD) (b8 "int")))) (tor (tt (b1 (b2 (gv 2) (gv 4) ixD) (b8 "bool"))) (nt (tb (ch (kd (.int 1)) (b2 (gv 2) (gv 4) ixD) (gv 1) leD ltD))))) (Jt (kd (.bl false))) nop)
 (sq (putD 3 (b2 (b2 (b2 (gv 0) (kd (.int 1)) ixD) (gv 4) ixD) (kd (.int 0)) ixD) (b2 (b2 (gv 3) (b2 (b2 (b2 (gv 0) (kd (.int 1)) ixD) (gv 4) ixD) (kd (.int 0)) ixD) ixD) (b2 (gv 2) (gv 4) ixD) fB))
 (putD 3 (b2 (b2 (b2 (gv 0) (kd (.int 1)) ixD) (gv 4) ixD) (kd (.int 1)) ixD) (chk (b2 (b2 (gv 3) (b2 (b2 (b2 (gv 0) (kd (.int 1)) ixD) (gv 4) ixD) (kd (.int 1)) ixD) ixD) (b2 (gv 2) (gv 4) ixD) Dg)))))
variable {v:Nat->Int}
theorem wh1{o:Nat->Int}(Y:InW n ts)(B:k<ts.length)(G:1<=v k/\v k<h):
  lfB [some (Ah n ts),some (.int (h:Int)),some (.tup (vec ts.length v)),some (.lst (vec n o)),some (.int (k:Int))]=.ok (.nx [some (Ah n ts),some (.int (h:Int)),some (.tup (vec ts.length v)),some (.lst (vec n λp=>o p+tm ts v p k)),some (.int (k:Int))]):=by
 have c:=Ep n ts;have g:=Sh (ts:=ts) B;have E:ixD (Bd (eN ts k)) (.int 0)=some (.int ((eN ts k).1:Int)):=Nv (i:=0) rfl;have C:ixD (Bd (eN ts k)) (.int 1)=some (.int ((eN ts k).2:Int)):=Nv (i:=1) rfl;have⟨a1,b1⟩:=nA Y B;have u:ixD (.tup (vec ts.length v)) (.int (k:Int))=some (.int (v k)):=Nv (U9 B);have U:=jZ (y:=o) a1;have P:=jZ (y:=λj=>if j=(eN ts k).1 then o (eN ts k).1 - v k else o j) b1;have J:b8 "int" (.int (v k))=some (.bl true):=rfl;have I:b8 "bool" (.int (v k))=some (.bl false):=rfl;have M:(vec n o).set (eN ts k).1 (.int (o (eN ts k).1 - v k))=vec n λj=>if j=(eN ts k).1 then o (eN ts k).1 - v k else o j:=Va
 have K:(vec n λj=>if j=(eN ts k).1 then o (eN ts k).1 - v k else o j).set (eN ts k).2 (.int ((if(eN ts k).2=(eN ts k).1 then o (eN ts k).1 - v k else o (eN ts k).2)+v k))=vec n λp=>o p+tm ts v p k:=by rw[Va];refine vK λp _=>?_;unfold tm;by_cases e1:(eN ts k).1=p<;>by_cases Z:(eN ts k).2=p<;>grind
 refine Al (ρ1:=[some (Ah n ts),some (.int (h:Int)),some (.tup (vec ts.length v)),some (.lst (vec n o)),some (.int (k:Int))]) ((Hb ?_).trans rfl) (Al (ρ1:=[some (Ah n ts),some (.int (h:Int)),some (.tup (vec ts.length v)),some (.lst (vec n λj=>if j=(eN ts k).1 then o (eN ts k).1 - v k else o j)),some (.int (k:Int))]) ((j7 (d:=.int (o (eN ts k).1 - v k)) (ds:=vec n o) (j:=(eN ts k).1) ?_ rfl ?_ (by rw[Gu];exact a1)).trans ?_) ((j7 (d:=.int ((if(eN ts k).2=(eN ts k).1 then o (eN ts k).1 - v k else o (eN ts k).2)+v k)) (ds:=vec n λj=>if j=(eN ts k).1 then o (eN ts k).1 - v k else o j) (j:=(eN ts k).2) ?_ rfl ?_ (by rw[Gu];exact b1)).trans ?_))
 ·have A:=G.1;have w:=G.2;unfold ch;generalize Ah n ts=W,D.tup (vec ts.length v)=l,vec n o=q at *;simp[u,J,I,A,w]
 ·generalize Ah n ts=W,D.tup (vec ts.length v)=l,vec n o=q,Bd (eN ts k)=TT at *;simp[c,g,E,U,u]
 ·generalize Ah n ts=W,D.tup (vec ts.length v)=l,vec n o=q,Bd (eN ts k)=TT at *;simp[c,g,E]
 ·rw[M];rfl
 ·have O:∀z:Int,(D.int z).imm=true:=λ_=>rfl;generalize Ah n ts=W,D.tup (vec ts.length v)=l,(vec n λj=>if j=(eN ts k).1 then o (eN ts k).1 - v k else o j)=q,Bd (eN ts k)=TT at *;simp[c,g,C,P,u,O]
 ·generalize Ah n ts=W,D.tup (vec ts.length v)=l,(vec n λj=>if j=(eN ts k).1 then o (eN ts k).1 - v k else o j)=q,Bd (eN ts k)=TT at *;simp[c,g,C]
 ·rw[K];rfl
theorem wt8(Y:InW n ts)(hn:n<=50)(hl:ts.length<=50)(h1:1<=h)(ok:vI n ts h v):Lh [Ah n ts,.int (h:Int),.tup (vec ts.length v)]=.ok (.bl true):=by
 have O:ixD (Ah n ts) (.int 0)=some (.int (n:Int)):=V3;have M:=Ep n ts;have U:Eo [.tup (ts.map Bd)]=some (.int (ts.length:Nat)):=by show some (D.int _)=_;rw[GP]
 have lv:Eo [.tup (vec ts.length v)]=some (.int (ts.length:Nat)):=by show some (D.int _)=_;rw[Gu]
 have u:b8 "tuple" (.tup (vec ts.length v))=some (.bl true):=rfl;have rp:fC (.lst [.int 0]) (.int (n:Int))=some (.lst (vec n λ_=>0)):=by
  have hc:-(2 ^ 63)<=(n:Int)/\(n:Int)<2 ^ 63/\[D.int 0].length * (n:Int).toNat<=16777216:=by refine⟨by lia,by lia,?_⟩;simp;lia
  simp only[fC];rw[if_pos hc,YL];unfold vec;rw[p_,QK];simp
 have P:=V4 (n:=ts.length) (by lia);obtain⟨K,el,o4,q⟩:=Hf (g:=gN 4) (b:=lfB) (I:=λj ρ=>∃o4,ρ=[some (Ah n ts),some (.int (h:Int)),some (.tup (vec ts.length v)),some (.lst (vec n λp=>((List.range j).map (tm ts v p)).sum)),o4]) (Ac (List.range ts.length)) 0 [some (Ah n ts),some (.int (h:Int)),some (.tup (vec ts.length v)),some (.lst (vec n λ_=>0)),none] ⟨none,rfl⟩ (λi d ρ l q=>by
  rw[G4]at l;cases B:(List.range ts.length)[i]? with
  |none=>rw[B]at l;cases l
  |some w =>
   rw[B]at l;cases l;have⟨A,E⟩:=LR.mp B;simp at A E;subst E;rw[WM]at q ⊢;obtain⟨o4,rfl⟩:=q;have ev:(vec n λp=>((List.range i).map (tm ts v p)).sum+tm ts v p i)=vec n λp=>((List.range (i+1)).map (tm ts v p)).sum:=vK λp _=>by rw[dZ,QQ,dY];simp
   have C:=wh1 (o:=λp=>((List.range i).map (tm ts v p)).sum) Y A (ok.val i A);rw[ev]at C;exact⟨_,_,rfl,.inl C,some (.int (i:Int)),rfl⟩)
 rw[WM,Ba,QK]at q;subst q;have c:Bo (itS (gv 3)) 1 [1] (gN 0) yes (b2 (b2 (gv 0) (gv 1) Gk) (kd (.int 0)) eqD) [some (Ah n ts),some (.int (h:Int)),some (.tup (vec ts.length v)),some (.lst (vec n λp=>Gr.bal ts v p)),o4]=.ok (.lst (((List.range n).map λ_=>true).map .bl)):=by refine Ci (ds:=vec n λp=>Gr.bal ts v p) (by generalize (vec n λp=>Gr.bal ts v p)=VB,Ah n ts=W at *;simp) ?_ (by simp;lia);rw[NP];refine Dw (List.range n) λp Z=>?_;have z:=ok.bal p (H_.mp Z);have G:Gk (.int (Gr.bal ts v p)) (.int (h:Int))=some (.int (Gr.bal ts v p % (h:Int))):=Kl (by lia);rw[z]at G;show b2 _ _ _ [some (.int (Gr.bal ts v p)),some (.int (h:Int))]=_;simp[G]
 have al:aY [.lst (((List.range n).map λ_=>true).map .bl)]=some (.bl true):=by rw[kI];refine congrArg (λz=>some (D.bl z)) ?_;rw[PQ];intro b hb;obtain⟨r,_,rfl⟩:=HX.mp hb;rfl
 refine Az (Al (ρ1:=[some (Ah n ts),some (.int (h:Int)),some (.tup (vec ts.length v)),none,none]) ((Hb ?_).trans rfl) (Al (ρ1:=[some (Ah n ts),some (.int (h:Int)),some (.tup (vec ts.length v)),some (.lst (vec n λ_=>0)),none]) ?_ (Al (Ny (ds:=Ac (List.range ts.length)) ?_ el) (Ax ?_))))
 ·generalize Ah n ts=W,D.tup (vec ts.length v)=J at *;simp[Af,u,lv,M,U]
 ·generalize Ah n ts=W,D.tup (vec ts.length v)=J,(vec n λ_=>0)=V0 at *;simp[O,rp,Ua]
 ·generalize Ah n ts=W,D.tup (vec ts.length v)=J,Ac (List.range ts.length)=NR at *;simp[lv,P]
 ·show bA (zv (Bo _ _ _ _ _ _) a0) aY [some (Ah n ts),some (.int (h:Int)),some (.tup (vec ts.length v)),some (.lst (vec n λp=>Gr.bal ts v p)),o4]=_;rw[Rf,Pu,c];generalize ((List.range n).map λ_=>true).map D.bl=BL at *;simp[al]
def noH:D:=.exc "NoHours" [] []
def ks1(h:H<1)(c:H.natAbs<2 ^ 200):Dj [.int H]=.exc noH:=by refine pD ((Lq (by simp[Af,h])).trans (wr6 ?_));simp[Af,ye3 c]
variable {W:D}
def wf4(h:Dj [.int H]=.exc noH):Np [W,.int H]=.exc noH:=pD (uB (xK (by simp[Af,h])))
def ko1(h:Dj [.int H]=.exc noH):De [W,.int H]=.exc noH:=pD (uB (xK (by simp[Af,h])))
def wm4{c:Ev->R Ev}{gb:Ev->R Fl}{d x:D}(h:c ρ=.exc d)(g:aX d=true)(l:gb (ρ.set i (some d))=.ok (.rt x)):iG c i gb ρ=.ok (.rt x):=by unfold iG;rw[h];show(if aX d=true then unS i (gb (ρ.set i (some d))) else .bad)=_;rw[if_pos g,l];rfl
theorem W9{w:Nat}(u:w<2)(h:Dj [.int H]=.exc noH):Fz [W,.int H,.int (w:Int)]=.ok (.bl true):=by
 have c:¬ (("NoHours" : PySem.Str) = "dict"\/("NoHours" : PySem.Str) = "dictK"):=by decide
 have p:isN ["Apart","NoArrows","NoFloor","NoForest","NoMatch","NoMove","NoName","NoOrder","NoRow","NoText"] noH=some (.bl false):=by kernel_rfl
 have o:isE "NoHours" noH=some (.bl true):=yd3 c (by decide +kernel);have l:isV noH=some (.bl true):=yd5 c;have g:isN ["NoTie","NoTurns","NoWeb"] noH=some (.bl false):=by kernel_rfl
 have q:aX noH=true:=by decide +kernel
 have e:tbI (tb (b2 (gv 2) (kd (.int 0)) eqD)) (tbG (zv (gv 0) (zv (gv 1) a0)) Np) (tbG (zv (gv 0) (zv (gv 1) a0)) De) [some W,some (.int H),some (.int (w:Int)),none]=.exc noH:=by
  have:w=0\/w=1:=by lia
  rcases this with rfl |rfl
  ·rw[yk0 (by simp)];exact vN (ds:=[W,.int H]) (by simp) (wf4 h)
  ·rw[yj9 (by simp)];exact vN (ds:=[W,.int H]) (by simp) (ko1 h)
 refine Az (Jw (wm4 (d:=noH) e q ?_));generalize noH=E at *;refine Al ((Hb (by simp[Af,p])).trans rfl) (Ax (by simp[Af,o,l,g]))
theorem law_true(ns:List Int)(hn:ns.length<=63):d_law [.lst (ns.map .int)]=.ok (.bl true):=by
 have⟨n,ts,A,n6,Z,ew⟩:=wh3 ns;have hw:InW n ts:=λe he=>by have:=A.tie e he;lia
 have K:=Ep n ts;have M:Eo [.tup (ts.map Bd)]=some (.int (ts.length:Nat)):=by show some (D.int _)=_;rw[GP]
 have u:=cell_eq ns 0;have u:Ed [.lst (ns.map .int),.int 0]=.ok (.int (ns.getD 0 0)):=u;generalize ns.getD 0 0=c at u;have I:Hv (.int c) (.int 2)=some (.int (c / 2)):=Qh (by decide) (by decide);generalize c / 2=q at I;have G:Gk (.int q) (.int 10)=some (.int (q % 10)):=Kl (by decide);have l:Gk (.int q) (.int 1000)=some (.int (q % 1000)):=Kl (by decide);obtain⟨g,J,b0⟩:∃g:Nat,(1+q % 10:Int)=(g:Int)/\1<=g/\g<=10:=⟨(1+q % 10).toNat,by lia,by lia,by lia⟩;obtain⟨h,eh,b1⟩:∃h:Nat,(∀(j o3 o4:Option D),ifS (tb (b2 (bA (zv (b2 (gv 1) (kd (.int 1)) ixD) a0) Eo) (kd (.int 6)) gtD)) (asg 2 (bA (zv (gv 2) (zv (kd (.int 5)) a0)) minD)) nop [j,some (Ah n ts),some (.int (g:Int)),o3,o4]=.ok (.nx [j,some (Ah n ts),some (.int (h:Int)),o3,o4]))/\1<=h/\h<=10:=by
  by_cases z:6<ts.length
  ·refine⟨min g 5,λj o3 o4=>?_,by lia,by lia⟩;have E:(6:Int)<(ts.length:Int):=by lia
   have e:min (g:Int) 5=((min g 5:Nat):Int):=by lia
   refine(Lq ?_).trans ?_
   ·generalize Ah n ts=W,D.tup (ts.map Bd)=TT at *;simp[K,M,E]
   ·rw[<-e];generalize Ah n ts=W at *;simp
  ·refine⟨g,λj o3 o4=>(Hb ?_).trans rfl,b0⟩;have E:¬ (6:Int)<(ts.length:Int):=by lia
   generalize Ah n ts=W,D.tup (ts.map Bd)=TT at *;simp[K,M,E]
 have C:=kr2 A (H:=(h:Int)) (by lia) (by lia);rw[Ot (h:=h) b1.1 ts.length n ts (F_ _) A.tie]at C;have ft:=kg5 (h:=h) (show n<=50 by lia) Z A.tie b1.1 (by lia);have o:=ks1 (H:=0 - q % 1000) (by lia) (gH (show(0 - q % 1000:Int).natAbs<1001 by lia) (by decide));have U:Fz [Ah n ts,.int (0 - q % 1000),.int 0]=.ok (.bl true):=W9 (w:=0) (by decide) o;have P:Fz [Ah n ts,.int (0 - q % 1000),.int 1]=.ok (.bl true):=W9 (w:=1) (by decide) o;have p:∀{d:D},Np [Ah n ts,.int (h:Int)]=.ok d->(∀(j o4:Option D),ifS (tb (b2 (gv 3) (kd .non) fH)) (ifS (tb (b2 (cl (zv (gv 1) (zv (gv 2) a0)) De) (kd (.int 0)) neD)) (Jt (kd (.bl false))) nop) (ifS (tor (tb (b2 (cl (zv (gv 1) (zv (gv 2) a0)) De) (kd (.int 1)) ltD)) (nt (tt (cl (zv (gv 1) (zv (gv 2) (zv (gv 3) a0))) Lh)))) (Jt (kd (.bl false))) nop) [j,some (Ah n ts),some (.int (h:Int)),some d,o4]=.ok (.nx [j,some (Ah n ts),some (.int (h:Int)),some d,o4]))->d_law [.lst (ns.map .int)]=.ok (.bl true):=λ{d} e O=>by
  generalize ns.map D.int=SC at *;have e2:b2 (kd (.int 1)) (b2 (b2 (cl (zv (gv 0) (zv (kd (.int 0)) a0)) Ed) (kd (.int 2)) Hv) (kd (.int 10)) Gk) Dg [some (.lst SC),some (Ah n ts),none,none,none]=.ok (.int (g:Int)):=by rw[<-J];generalize Ah n ts=W at *;simp[u,I,G]
  refine Az (Al (Aw (d:=Ah n ts) ?_) (Al (Aw e2) (Al (eh _ _ _) (Al (Aw (d:=d) ?_) (Al (O _ _) (Al (Aw (d:=.int (0 - q % 1000)) ?_) (Ax ?_)))))))
  ·generalize Ah n ts=W at *;simp[Af,ew]
  ·generalize Ah n ts=W at *;simp[e]
  ·generalize Ah n ts=W at *;simp[u,I,l]
  ·generalize Ah n ts=W at *;generalize (0 - q % 1000:Int)=B at *;simp[U,P]
 rcases ft with ⟨hp,v,ok,e⟩ | ⟨hz,e⟩
 ·refine p e λj o4=>(Hb ?_).trans ((Hb ?_).trans rfl)
  ·generalize Ah n ts=W at *;simp[show fH (.tup (vec ts.length v)) .non=some (.bl false) from rfl]
  ·have Y:=wt8 hw (by lia) (by lia) b1.1 ok;have lt:¬ ((Fn h n ts (λ_=>0):Nat):Int)<1:=by lia
   generalize ((Fn h n ts (λ_=>0):Nat):Int)=FF at *;generalize Ah n ts=W,D.tup (vec ts.length v)=VV at *;simp[C,Y,lt]
 ·refine p e λj o4=>(Lq ?_).trans ((Hb ?_).trans rfl)
  ·generalize Ah n ts=W at *;simp[show fH .non .non=some (.bl true) from rfl]
  ·rw[hz]at C;generalize Ah n ts=W at *;simp[C]
end Law
noncomputable def PySem.W.Fast.tw17064860277217920452 : PySem.Program := PySem.Challenge.pw_tietable_k42_a_flow_told
theorem PySem.W.Fast.te17064860277217920452 : PySem.Challenge.pw_tietable_k42_a_flow_told = PySem.W.Fast.tw17064860277217920452 := rfl
namespace PySem.W.Fast
def tw1195040686702141836:=0
def tw1855418292894481492:=0
def tw16656262627468284143:=0
def tw1993044520962946694:=0
def tw850918819210579340:=0
def tw5522408724418300301:=0
def tw14853034595520943804:=0
def tw6822201725725455699:=0
def tw3265940726936854883:=0
def tw12906365941034749307:=0
def tw7244992959646305846:=0
def tw16576880798034951042:=0
def tw2937832119913373957:=0
def tw7171667025830528105:=0
def tw6318705779432932320:=0
def tw16713119128337303846:=0
def tw1843841558746338582:=0
def tw15196782186280519163:=0
def tw7475609755770987489:=0
def tw18353925520496242838:=0
def tw15927029664567727852:=0
def tw4011438027286248629:=0
def tw14615491829213075313:=0
def tw2195188968723625421:=0
def tw16246545843959236166:=0
def tw16532999259866271846:=0
def tw7434346995280192978:=0
def tw13559437122826110694:=0
def tw1346003102383236287:=0
def tw7086651993343354319:=0
def tw15057856003815201037:=0
def tw3885683553849970339:=0
def tw877935966295557836:=0
def tw18956893326375196:=0
def tw2336274655916748237:=0
def tw7667019560717442166:=0
def tw11932041732670760998:=0
def tw12640829044258563693:=0
def tw6774307924551752303:=0
def tw6738242131737698707:=0
def tw17565569240207538370:=0
def tw495490473379272525:=0
def tw1814700928119562555:=0
def tw13449681226061890901:=0
def tw16606969100407646996:=0
def tw5913962024716048316:=0
def tw3290068255316818747:=0
def tw17974941077402481:=0
def tw1871834948799145682:=0
def tw9131782728367062953:=0
def tw2413898267890666402:=0
def tw6237288634283903876:=0
def tw12160800561751321394:=0
def tw18291809656049599848:=0
def tw14900009504530144417:=0
def tw200180862065832728:=0
def tw16916226105527842691:=0
def tw8881976373975520448:=0
def tw10289209964124159216:=0
def tw3205313811884117367:=0
def tw3065214671999316185:=0
def tw5952203997901502190:=0
def tw13097824317973360727:=0
def tw8612005421728234776:=0
def tw3491662915810330610:=0
def tw18190808495132969093:=0
def tw5632393768853481409:=0
def tw13226757666048966254:=0
def tw16227174483569799653:=0
def tw16288619866051113684:=0
def tw1117998197057139502:=0
def tw16725222990914684045:=0
def tw801863689094311172:=0
def tw12518914780004951399:=0
def tw12954354375384051074:=0
def tw7534177684783516249:=0
def tw11686916922269261022:=0
def tw10950932537313294360:=0
def tw10625012282451185848:=0
def tw14618184007388146515:=0
def tw11623276488437534741:=0
def tw4251412983738874636:=0
def tw11212552882930883865:=0
def tw7538604093984077329:=0
def tw7717412994601782436:=0
def tw7866620737660130892:=0
def tw14897171905968774094:=0
def tw18043781863107978704:=0
def tw7506235851763501681:=0
def tw221351002541438586:=0
def tw14166390777633642276:=0
def tw14020882981465484583:=0
def tw8925734737412882085:=0
def tw2601748710933541532:=0
def tw6595469712771381223:=0
def tw4706443131286180519:=0
def tw12079289783124631959:=0
def tw10428581238986840569:=0
def tw5666293463869951911:=0
def tw17773314418337712498:=0
def tw12049843961412852668:=0
def tw14078464242632973950:=0
def tw7182289546815644919:=0
def tw18393440742445861589:=0
def tw10300590583866999588:=0
def tw8740016425236444513:=0
def tw5399519343624262750:=0
def tw8827747921714946314:=0
def tw3500472766920291185:=0
def tw3764696397304304660:=0
def tw3039092495889320482:=0
def tw6177176845849594846:=0
def tw2065402013534794031:=0
def tw15112319821242503666:=0
def tw1026287146487916897:=0
def tw4084470143058862044:=0
def tw2092426451976940780:=0
def tw2582276537236277517:=0
def tw11648375512896116460:=0
def tw13646410767545188785:=0
def tw13605740878613034350:=0
def tw14208108505167513824:=0
def tw381601015763449099:=0
def tw1493993967275824778:=0
def tw10469361495027501927:=0
def tw3866825809177936290:=0
def tw3287670406400849186:=0
def tw8080414352636870935:=0
def tw1934827163973543351:=0
def tw13813129145340471026:=0
def tw11364120605821026882:=0
def tw7258985775770386084:=0
def tw11548996303759162129:=0
def tw9916650142993624191:=0
def tw5119914420318155500:=0
def tw7229722681205151000:=0
def tw8423659155759673898:=0
def tw11999063939427690936:=0
def tw349289935304924071:=0
def tw3208359006982119369:=0
def tw14013985460127317958:=0
def tw11966009941874517333:=0
def tw3738612852473526381:=0
def tw2783535174264387189:=0
def tw11551713866426694444:=0
def tw10260780073952022400:=0
def tw14289141634933084289:=0
def tw8120842118221768968:=0
def tw13369310364449668520:=0
def tw14076054275765470824:=0
def tw2059037315806842858:=0
def tw3609748664827554433:=0
def tw7156538094326317444:=0
def tw13776840225409318519:=0
def tw8604072851437511695:=0
def tw1484128637816941363:=0
def tw620645281536650970:=0
def tw12950445155445044072:=0
def tw630005454744463689:=0
def tw10227810894315181918:=0
def tw4963916195781607070:=0
def tw4758386648363444313:=0
def tw11408083343271762791:=0
def tw15703374397471935823:=0
def tw4068588768939172740:=0
def tw18412996584677721950:=0
def tw7708626078685209793:=0
def tw10951503096862116525:=0
def tw13251946650364638304:=0
def tw16461404721116373194:=0
def tw3890046749011456273:=0
def tw13521302013914062041:=0
def tw3864638759955711433:=0
def tw14509034896912089647:=0
def tw2785668839479084303:=0
def tw14894780160741887974:=0
end PySem.W.Fast
open PySem PySem.W PyProof.Rows
set_option maxRecDepth 100000 in
set_option maxHeartbeats 0 in
theorem PySem.Challenge.cw_tietable_k42_a_flow_told_holds : PySem.Challenge.rw_tietable_k42_a_flow_told.Holds := by
 w_on;o_law;k_head;(case hw=>w_witness2)
 k_fill
 refine PD.law_walk (l:=PySem.Challenge.rw_tietable_k42_a_flow_told) (k:=21) (x:="_law_script") (m:=Law.d_law) Law.law_true rfl rfl ⟨rfl,by decide,by decide,rfl⟩ (λw h Y=>PySem.W.kIn_of Y) ?F
 case F =>
  intro w c e h b G a
  refine' Law.all_mk b G a (PD.Bu ?_ ?_ ?_ ?_) (PD.Bu ?_ ?_ ?_ ?_) (PD.Bu ?_ ?_ ?_ ?_) (PD.Bu ?_ ?_ ?_ ?_) (PD.Bu ?_ ?_ ?_ ?_) (PD.Bu ?_ ?_ ?_ ?_) (PD.Bu ?_ ?_ ?_ ?_) (PD.Bu ?_ ?_ ?_ ?_) (PD.Bu ?_ ?_ ?_ ?_) (PD.Bu ?_ ?_ ?_ ?_) (PD.Bu ?_ ?_ ?_ ?_) (PD.Bu ?_ ?_ ?_ ?_) (PD.Bu ?_ ?_ ?_ ?_) (PD.Bu ?_ ?_ ?_ ?_) (PD.Bu ?_ ?_ ?_ ?_) (PD.Bu ?_ ?_ ?_ ?_) (PD.Bu ?_ ?_ ?_ ?_) (PD.Bu ?_ ?_ ?_ ?_) (PD.Bu ?_ ?_ ?_ ?_) (PD.Bu ?_ ?_ ?_ ?_) (PD.Bu ?_ ?_ ?_ ?_) (PD.Bu ?_ ?_ ?_ ?_) (PD.Bu ?_ ?_ ?_ ?_) (PD.Bu ?_ ?_ ?_ ?_) (PD.Bu ?_ ?_ ?_ ?_) (PD.Bu ?_ ?_ ?_ ?_) (PD.Bu ?_ ?_ ?_ ?_) (PD.Bu ?_ ?_ ?_ ?_) (PD.Bu ?_ ?_ ?_ ?_) (PD.Bu ?_ ?_ ?_ ?_) (PD.Bu ?_ ?_ ?_ ?_) (PD.Bu ?_ ?_ ?_ ?_) (PD.Bu ?_ ?_ ?_ ?_) (PD.Bu ?_ ?_ ?_ ?_) (PD.Bu ?_ ?_ ?_ ?_) (PD.Bu ?_ ?_ ?_ ?_) (PD.Bu ?_ ?_ ?_ ?_) (PD.Bu ?_ ?_ ?_ ?_) (PD.Bu ?_ ?_ ?_ ?_) ?_ ?_ ?_ ?_ ?_ ?_ ?_ ?_ ?_ ?_ ?_ ?_ ?_ ?_ ?_ ?_ ?_ ?_ ?_ ?_ ?_ (PD.wt0 ?_ ?_ ?_ ?_ ?_) (PD.Gf ?_ ?_ ?_ ?_) (PD.Gf ?_ ?_ ?_ ?_) (PD.Gf ?_ ?_ ?_ ?_) (PD.Gf ?_ ?_ ?_ ?_) (PD.Gf ?_ ?_ ?_ ?_) (PD.Gf ?_ ?_ ?_ ?_) (PD.Gf ?_ ?_ ?_ ?_) (PD.Gf ?_ ?_ ?_ ?_) (PD.Gf ?_ ?_ ?_ ?_) (PD.Gf ?_ ?_ ?_ ?_) (PD.Gf ?_ ?_ ?_ ?_) (PD.Gf ?_ ?_ ?_ ?_) (PD.Gf ?_ ?_ ?_ ?_) (PD.Gf ?_ ?_ ?_ ?_) (PD.wt1 ?_ ?_)
  any_goals k_is
  any_goals kernel_rfl
  try any_goals rfl
